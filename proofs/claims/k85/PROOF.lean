import PyProof.Rows.All
import KE.KIsAll
import OpenK.KMore
import KE.LcSums
import KE.KBools
import KE.KxBytes
import Lean
import PyProof.EqAt
import PyProof.EqKinds
import PyProof.TupleCall
import KE.KEqSeq
import PyProof.NeKinds
import PyProof.FitsBits
import PyProof.Rows.SumAny
import PyProof.Rows.SetFrom
import PyProof.SetRoads
import PyProof.ListRange
import KE.KIntText
import PyProof.MeetsSeq
import PyProof.FactsAll.tuple
import KE.KDictList
import KE.KDictLaws
import PyProof.CallRoads
import PyProof.DictValues
import PyProof.DictWalks
import PyProof.WalksMore
import PyProof.FactsAll.subtypes_4
import PyProof.TupleIter
import KE.RegKIsAll
import Wide.FinOn
import KE.KLam
import KE.KNestM
import PySem.Challenge.RW_hourtable_k85_apart_and_meets
set_option Elab.async false
set_option linter.all false
set_option maxRecDepth 100000
set_option bootstrap.genMatcherCode false
open List renaming length_map → ae, getElem?_eq_some_iff → ao, mem_cons → aq, map_append → au, length_append → av, size_toArray → ay, getElem?_map → aD, mem_of_getElem? → aG, not_mem_nil → aI, length_cons → aP, mem_cons_of_mem → aS, nodup_cons → aX, mem_map → bc, length_take → bq, mem_singleton → br, mem_append_right → bF, range → bH, map_cons → bJ, getD_eq_getElem?_getD → bN, take_length → bP, length_drop → bR, take_add_one → bS, replicate → bV, mem_cons_self → bW, map_map → bZ, mem_append → cx, lookup_cons → cX, getElem_map → cY, getElem?_of_mem → cZ, getElem?_append_right → dj, pairwise_iff_getElem → dm, lookup → dv, map_congr_left → dJ, getElem?_append_left → eJ, length_range → fH, replicate_succ → gg, filterMap_cons → gh, any_cons → gm, length_set → gv, find?_cons → gw, getElem?_drop → gx, take_of_length_le → gI, map_drop → gX, getElem?_take_of_lt → iX
open PySem renaming Value → af, wpAny_bind → ag, Addr → ak, Shared → al, sizeLine → ar, wpAny_pure → ax, Program → aB, wpAny → aL, FuncData → aO, starEach → aU, World → aV, mainGlobals → aW, model → aZ, Heap → bj, Around → bB, wpAny_field → bC, boot_len → bD, wpAny_setField_rec → bK, Str → bY, Stmt → b8, Spec → cg, wpAny_callSpecial?_slot → cA, NameKind → cB, eval → cN, importedModules → c4, wpAny_mono → c5, lookup_relabel_local → c9, mem_of_lookup → de, wpAny_call_entry → dw, wpAny_newObj_type → dS, Builtin → dY, backTo → eu, compareOp → eG, sysModules → eK, wpAny_truthy_bool → eT, wpAny_pyIter_list → eU, foldedSetIterable → eY, binaryOp → eZ, wpAny_pyIter_tuple → fG, wpAny_loadPart' → fO, attributeBase → fV, IsEnum → fZ, wpAny_seqItems → gj, sliceBounds → gk, wpAny_holding → gG, wpAny_Call_Name_kw → gL, treeTable → gR, call_meets → ie, wpAny_attempt → ig, keywordEach → iB, wpAny_passesOwn → iE, letOwnedTupleGo → iJ, tupleKind_room_in1 → iY, slot_list_getitem → jh, wpAny_getItem_list_slice → jn
open PySem.W renaming Frag → ai, nsIn → bg, findIn → bw, mg_none_of → bG, mg_of → cO, kia_one → cR, keepIn → c6, emptyDict → c7, fnOf → dq, instObj → eF, openEnds → eW, plainGet → fS, kitOne → gy, hasDictIn → gz, codeIn → gC, openSeen → gW, fencedOpening → iq
open PySem.Heap renaming get?_push_of_some → aj, get?_push_size → aA, lt_size → aE, SameBut → bo, size_push → bX
open Nat renaming le_refl → aH, ne_of_lt → bu, lt_of_lt_of_le → bz, le_trans → bQ, zero_le → cK, lt_of_le_of_ne → cW, min_eq_left → dI, ne_of_gt → fq, lt_irrefl → fE, lt_trichotomy → gQ, add_le_add_left → iu, lt_of_le_of_lt → iM
open Option renaming map_eq_some_iff → aN
open Bool renaming false_ne_true → aQ, and_eq_true → b9, eq_false_iff → eL, true_and → gn, false_and → gK, eq_iff_iff → ia
open PySem.Str renaming ofString → aY, empty → du, join → eC
open Option.some renaming inj → bx
open PySem.Builtin.Str renaming occurrences → bM, partsBetween → eD
open PySem.F renaming plainAttrs_list → bU, type_list_append → cF, slot_list_append → cG, slot_enumerate_next → cU, plainAttrs_str → c8, slot_dict_get → ee, slot_tuple_iterator_next → gf, entry_dict_get → gD, args_enumerate_next_1 → gJ, entry_enumerate_next → gS, args_tuple_add_2 → iL, plainAttrs_dict → iT, entry_tuple_add → iU
open PySem.Builtin.SmallTypes renaming ownedTupleIsFree → cb, nextOf → cj, ownedTupleHandOut → cH
open Ne renaming symm → cf
open PySem.Txt renaming split → ck, join → gu
open PySem.W.Fast renaming te14364793385576792824 → cp, te14289696077712309145 → cq, te14082659384304107361 → cu, te10274390034422433532 → cv, te1435165496053646825 → cy, te4187177175401517315 → dD
open PyProof.Rows renaming callWith_type1 → cE, boot_tuple → gP
open PySem.PassesOwn renaming never → cJ
open PySem.PyData renaming keyHash → cQ
open Int renaming toNat_natCast → dE, eq_ofNat_of_zero_le → dG, mul_ediv_add_emod → gT, emod_lt_of_pos → iN, add_mul_emod_self_left → iP
open PySem.Challenge renaming rw_hourtable_k85_apart_and_meets → dH
open PySem.StrLaws renaming glued_eq_join → dZ
open False renaming elim → eh
open Lean renaming maxHeartbeats → eE
open Pure renaming pure → fe
open PySem.Calls renaming callWith_builtin → fj, evalArgs_plain → gY, spliced_cons → iD
open PySem.Builtin.Slice renaming slicePlaces → fu, sliceAdjust → gZ
open PySem.Builtin.Tuple renaming tupleExact → fJ
open PySem.Builtin.List renaming listTooLong → fK
open Array renaming length_toList → ib
open PyProof.Rows.F renaming plain_set_update_loop → jr
noncomputable section
abbrev lI:=@if_neg
abbrev lJ:=@if_pos
abbrev lK:=@absurd
abbrev lL:=@decide_eq_true
abbrev lM:=@decide_eq_false
abbrev lN:=@of_decide_eq_true
abbrev lO:=@congrArg
set_option maxHeartbeats 4000000
theorem gE {α:Type}{l:List α}{i:Nat}(h:i<l.length):l[i]? =some l[i]:=List.getElem?_eq_getElem h
variable {A:bB}{B:Prop}{C CL CP a d dx f f1 f2 fa i1 it p:ak}{E Q:af→al→Prop}{G:Array PySem.GenState→Array PySem.GenState→Prop}{K:ai}{M:PySem.Model}{N fr loose ns ps ss:List PySem.Str}{P prog q:aB}{R:PySem.Result→al→Prop}{T:String}{XP:(PySem.Str→Option af)→bj→Prop}{YP:aV→bj→Prop}{a0 a1 b i lo:Int}{apos cpos p2 pos pos':PySem.Pos}{az pins':List (ak×PySem.Obj)}{base h h':bj}{body:List b8}{ch fp is:List ak}{d':PySem.Drawn}{d1 d2 dc dg dh dr fd fd1 fd2:aO}{e ea elt iter tg value:PySem.Expr}{env:PySem.Env}{es ifs:List PySem.Expr}{g':Array PySem.GenState}{items:Array af}{its old us vs:List af}{j k m n t':Nat}{js:List Nat}{kw:List (PySem.Str×af)}{mA mg:PySem.Str→Option af}{name qual x z:PySem.Str}{od:Option ak}{op:PySem.CmpOp}{osl sl:Array (Option af)}{outer:List PySem.Env}{s s':al}{scope:PySem.Scope}{st:b8}{ts:List Int}{u was:af}{α:Type}
namespace L2
open PySem PySem.Spec PyProof.Rows
def iC (s:b8):Arguments:=match s with
 | .FunctionDef _ a _ _ _ _ _ _ _ _=>a
 | _=>{ posonlyargs:=[],args:=[],vararg:=none,kwonlyargs:=[],kw_defaults:=[],kwarg:=none,defaults:=[] }
def hV (s:b8):List b8:=match s with
 | .FunctionDef _ _ b _ _ _ _ _ _ _=>b
 | _=>[]
def defScope (s:b8):Scope:=match s with
 | .FunctionDef _ _ _ _ _ _ sc _ _ _=>sc
 | _=>{ kind:= .function,names:=[],isGenerator:=false,isCoroutine:=false }
end L2
namespace HN
open PySem L2 PyProof.Rows
def top (i:Nat):b8:=PySem.Challenge.pw_hourtable_k85_apart_and_meets.main.body.getD i (.Pass ⟨0,0,0,0⟩)
def clsOf (s:b8)(i:Nat):b8:=match s with
 | .ClassDef _ _ _ body _ _ _ _ _ _ _=>body.getD i (.Pass ⟨0,0,0,0⟩)
 | s=>s
structure Df (K:ai)(x:Str)(st:b8)(f:ak):Prop where
 n:bg K aW x=some (some (.ref f))
 l:∃ (oc:af) (od an:Option ak) (sl:Array (Option af)) (kV dc pm cd ct:af),K.lookup f=some ⟨oc,od,.func (dq x x (iC st) (hV st) (defScope st) .none kV dc pm an cd ct),sl⟩∧gC K cd x=true∧c6 K (.ref f)=true
structure Mf (K:ai)(C:ak)(x q:Str)(st:b8)(f:ak):Prop where
 a:bw K (.ref C) x=some (some (.ref f))
 b:PySem.W.isFn K (.ref f)=true
 l:∃ (oc:af) (od an:Option ak) (sl:Array (Option af)) (kV dc pm cd ct:af),K.lookup f=some ⟨oc,od,.func (dq x q (iC st) (hV st) (defScope st) .none kV dc pm an cd ct),sl⟩∧gC K cd q=true∧c6 K (.ref f)=true
def adr (K:ai)(x:Str):ak:=match bg K aW x with | some (some (.ref f))=>f | _=>0
def reb (x:Str)(st:b8):Option Obj→Option Obj | some ⟨oc,od,.func d,sl⟩=>some ⟨oc,od,.func (dq x x (iC st) (hV st) (defScope st) .none d.kwdefaults d.doc d.pyModule d.annotations d.code d.closureTuple),sl⟩ | _=>none
def cdO:Option Obj→af | some ⟨_,_,.func d,_⟩=>d.code | _=> .none
def isO:Option Obj→Bool | some ⟨_,_,.func _,_⟩=>true | _=>false
def dfL (K:ai)(e:Str×b8):Option (Option af)×Bool×Option Obj×Bool×Bool:=(bg K aW e.1,isO (K.lookup (adr K e.1)),K.lookup (adr K e.1),gC K (cdO (K.lookup (adr K e.1))) e.1,c6 K (.ref (adr K e.1)))
def dfR (K:ai)(e:Str×b8):Option (Option af)×Bool×Option Obj×Bool×Bool:=(some (some (.ref (adr K e.1))),true,reb e.1 e.2 (K.lookup (adr K e.1)),true,true)
theorem df_of (h:dfL K (x,st)=dfR K (x,st)):Df K x st (adr K x):=by
 unfold dfL dfR at h;simp only [Prod.mk.injEq] at h;obtain ⟨h1,h2,h3,h4,h5⟩:=h;refine ⟨h1,?_⟩;revert h2 h3 h4;cases hk:K.lookup (adr K x) with
 | none=>intro h2;cases h2
 | some o =>
  obtain ⟨oc,od,d,sl⟩:=o;cases d <;> intro h2 h3 h4 <;> first | (cases h2;done) | exact ⟨oc,od,_,sl,_,_,_,_,_,h3,h4,h5⟩
def Fcx (K:ai):List (Str×b8)→(List ak→Prop)→Prop
 | [],C=>C []
 | (x,st)::r,C=>∀ f:ak,Df K x st f→Fcx K r fun l=>C (f::l)
theorem fcx_of {K:ai}:∀ {L:List (Str×b8)} {C:List ak→Prop},L.map (dfL K)=L.map (dfR K)→Fcx K L C→C (L.map fun e=>adr K e.1)
 | [],_,_,k=>k
 | (x,st)::r,C,h,k=>by
  rw [bJ,bJ] at h;injection h with h1 h2
  exact fcx_of (L:=r) (C:=fun l=>C (adr K x::l)) h2 (k _ (df_of h1))
def Facts (K:ai)(w:aV):Prop:=∀ C:Prop,Fcx K (("greatest_whole",top 7)::("is_whole",top 8)::("is_within",top 9)::("is_numeral",top 10)::("read_whole",top 11)::("are_ends",top 16)::("are_lengths",top 17)::("is_span",top 18)::("read_name",top 25)::("read_beat",top 26)::("read_line",top 27)::("read_row",top 28)::("read_plan",top 29)::("change_span",top 31)::("apart_span",top 32)::("meet_span",top 33)::("plan_by",top 35)::("net_by",top 36)::("width_of",top 19)::("rest_by",top 38)::("wait_in",top 39)::("waits_of",top 40)::("broken_in",top 41)::("fits",top 42)::("_law_cell_at",top 44)::("_law_mixed",top 45)::("_law_pot",top 46)::("_law_take",top 47)::("_law_names",top 48)::("_law_text",top 55)::("_law_line_times",top 56)::("_law_apart_kept",top 57)::("_law_meet_kept",top 58)::("_law_two_lines",top 59)::("_law_two_tables",top 60)::("law",top 61)::[]) (fun l=>∀ {t1 t2 t3 t4 t5 t6 t7:Tok} {xL xP xF q1 q2 q3 q4 q5 jy1 jy2 jy3 jy4 jy5 jy6 jz1 jz2 jz3 jz4 jz5 jz6 jz7 jz8 jz9 jza:ak} {ka kb kc kd ua1 ub1 ua2 ub2 ua3 ub3 ua4 ub4 uc ud ue:Tok} {nF nn1 nn2 nn3 nn4 nn5:Nat},(bg K aW "MOST_HAPPENINGS" =some (some (.int 16 t1))) →
 (bg K aW "MOST_SPANS" =some (some (.int 40 t2))) →
 (bg K aW "MOST_WEIGHT" =some (some (.int 1000000000000 t3))) →
 (bg K aW "LETTERS" =some (some (.str "abcdefghijklmnopqrstuvwxyz" t4))) →
 (bg K aW "MOST_LETTERS" =some (some (.int 8 t5))) →
 (bg K aW "FIGURES" =some (some (.str "0123456789" t6))) →
 (bg K aW "MOST_FIGURES" =some (some (.int 60 t7))) →
 (bg K aW "isinstance" =some none) →
 (bg K aW "int" =some none) →
 (bg K aW "bool" =some none) →
 (bg K aW "tuple" =some none) →
 (bg K aW "len" =some none) →
 (bg K aW "min" =some none) →
 (bg K aW "all" =some none) →
 (bg K aW "range" =some none) →
 (bg K aW "enumerate" =some none) →
 (bg K aW "zip" =some none) →
 (bg K aW "sum" =some none) →
 (bg K aW "list" =some none) →
 (bg K aW "max" =some none) →
 (bg K aW "set" =some none) →
 (bg K aW "str" =some none) →
 (bg K aW "Line" =some (some (.ref xL))) →
 (fS K xL du=true) →
 (gz K xL=true) →
 (PySem.W.plainOver K xL=true) →
 (bw K (.ref xL) "__setattr__" =some (some (.builtin "object.__setattr__"))) →
 (bw K (.ref xL) "name" =some none) →
 (bw K (.ref xL) "stops" =some none) →
 (bw K (.ref xL) "runs" =some none) →
 (bw K (.ref xL) "stays" =some none) →
 (bw K (.ref xL) "first" =some none) →
 (PySem.W.makesIn K xL=true) →
 (c6 K (.ref xL)=true) →
 (Mf K xL "__init__" "Line.__init__" (clsOf (top 30) 0) jy1) →
 (Mf K xL "coming" "Line.coming" (clsOf (top 30) 1) jy2) →
 (Mf K xL "going" "Line.going" (clsOf (top 30) 2) jy3) →
 (Mf K xL "ride" "Line.ride" (clsOf (top 30) 3) jy4) →
 (Mf K xL "own_spans" "Line.own_spans" (clsOf (top 30) 4) jy5) →
 (Mf K xL "own_labels" "Line.own_labels" (clsOf (top 30) 5) jy6) →
 (bg K aW "Plan" =some (some (.ref xP))) →
 (fS K xP du=true) →
 (gz K xP=true) →
 (PySem.W.plainOver K xP=true) →
 (bw K (.ref xP) "__setattr__" =some (some (.builtin "object.__setattr__"))) →
 (bw K (.ref xP) "beat" =some none) →
 (bw K (.ref xP) "lines" =some none) →
 (bw K (.ref xP) "between" =some none) →
 (PySem.W.makesIn K xP=true) →
 (c6 K (.ref xP)=true) →
 (Mf K xP "__init__" "Plan.__init__" (clsOf (top 34) 0) jz1) →
 (Mf K xP "happenings" "Plan.happenings" (clsOf (top 34) 1) jz2) →
 (Mf K xP "all_spans" "Plan.all_spans" (clsOf (top 34) 2) jz3) →
 (Mf K xP "all_labels" "Plan.all_labels" (clsOf (top 34) 3) jz4) →
 (Mf K xP "is_small" "Plan.is_small" (clsOf (top 34) 4) jz5) →
 (Mf K xP "take_line" "Plan.take_line" (clsOf (top 34) 5) jz6) →
 (Mf K xP "span_between" "Plan.span_between" (clsOf (top 34) 7) jz7) →
 (Mf K xP "take_between" "Plan.take_between" (clsOf (top 34) 8) jz8) →
 (Mf K xP "take" "Plan.take" (clsOf (top 34) 9) jz9) →
 (Mf K xP "take_stay" "Plan.take_stay" (clsOf (top 34) 6) jza) →
 (bg K aW "FORMS" =some (some (.ref xF))) →
 ((xF == eK)=false) →
 (K.lookup xF=some ⟨.type "dict",none,.dict #[⟨cQ w.params "stay",.str "stay" ka,.ref q1⟩,⟨cQ w.params "change",.str "change" kb,.ref q2⟩,⟨cQ w.params "apart",.str "apart" kc,.ref q3⟩,⟨cQ w.params "meet",.str "meet" kd,.ref q4⟩] nF,#[]⟩) →
 (K.lookup q1=some ⟨.type "tuple",none,.seq #[.int 2 ua1,.int 3 ub1] nn1,#[]⟩) →
 (K.lookup q2=some ⟨.type "tuple",none,.seq #[.int 3 ua2,.int 3 ub2] nn2,#[]⟩) →
 (K.lookup q3=some ⟨.type "tuple",none,.seq #[.int 3 ua3,.int 1 ub3] nn3,#[]⟩) →
 (K.lookup q4=some ⟨.type "tuple",none,.seq #[.int 4 ua4,.int 1 ub4] nn4,#[]⟩) →
 (bg K aW "STAY_UNTOLD" =some (some (.ref q5))) →
 (K.lookup q5=some ⟨.type "tuple",none,.seq #[.int 0 uc,.int 0 ud,.int 0 ue] nn5,#[]⟩)→C)→C
def Wp:Prop:=∀ {q:aB} {loose:List Str} {XP:(Str→Option af)→bj→Prop} {YP:aV→bj→Prop} {d:DefRec} {K:Params→ai},d.params.defaults=[]→d.name = "law" →(∀ (w:aV) (h:bj),YP w h→(K w.params).In h)→(∀ w:aV,Facts (K w.params) w)→PySem.W.WalkO q loose XP YP (dH).row.toRowW d [] (fun f vs=>PySem.call f vs)
end HN
section
open PySem PySem.W PyProof.Rows
def HN.seenOf:aB:={ PySem.Challenge.pw_hourtable_k85_apart_and_meets with main:={ PySem.Challenge.pw_hourtable_k85_apart_and_meets.main with body:=[1,2,3,5,6,7,8,9,10,11,13,14,15,16,17,18,19,21,22,23,24,25,26,27,28,29,30,31,32,33,34,35,36,38,39,40,41,42,44,45,46,47,48,49,50,51,52,53,54,55,56,57,58,59,60,61].map HN.top } }
def HN.isSeen (s:al):Bool:=xlAt HN.seenOf [] s && recOk (RowW.records (OpenRow.toRowW (OpenLaw.row dH))) s
local macro_rules
 | `(tactic| o_head $H:term) => `(tactic| (refine holds_open (q := HN.seenOf) (loose := [aY "FORMS"]) (XP := XL HN.seenOf []) (Xt := HN.isSeen) (Yf := Hook.obs $H) (Ya := Hook.val $H) (YP := Hook.says $H) (N := 3113) ?_ (Hook.of $H) (Hook.keeps $H) (fun s e => xl_of s (Bool.and_eq_true_iff.mp e).1) XL.keeps (by rfl) (by rfl) (by rfl) (fun s e => recFacts_of (Bool.and_eq_true_iff.mp e).2) ?_ ?_ ?_ ?_ ?_ ?_))
theorem HN.left_two {σ β:Type}{e:Option σ}{f:σ→α}{g:σ→β}{a:α}{b:β}(h1:e.map f=some a)(h2:e.map g=some b):e.map (fun s=>(f s,g s))=some (a,b):=by
 cases e with
 | none=>cases h1
 | some s=>injection h1 with h1;injection h2 with h2;show some (f s,g s)=_;rw [h1,h2]
theorem HN.left_pr {σ β:Type}{e:Option σ}{f:σ→α×β}{a:α×β}(h1:e.map (fun s=>(f s).1)=some a.1)(h2:e.map (fun s=>(f s).2)=some a.2):e.map f=some a:=by
 cases e with
 | none=>cases h1
 | some s=>injection h1 with h1;injection h2 with h2;exact lO some (Prod.ext h1 h2)
set_option maxRecDepth 100000 in
set_option maxHeartbeats 0 in
noncomputable def HN.head0:(P:aV→Prop)×'(HN.Wp→(∀ w:aV,(eW gR PySem.Challenge.rw_hourtable_k85_apart_and_meets.row.prog w 3113).map (gW HN.seenOf [aY "FORMS"] (c4 PySem.Challenge.rw_hourtable_k85_apart_and_meets.row.prog.main.body) HN.isSeen true)=some (openGood HN.seenOf [aY "FORMS"]))→(∀ w,P w)→PySem.Challenge.rw_hourtable_k85_apart_and_meets.Holds):=by
 apply PSigma.mk;intro W Lf Sc;w_on;refine holds_law (by decide +kernel) fun said=>?_;k_head
 ·exact fun w=>HN.left_two (Lf w) (Sc w)
 ·rfl
 ·assumption
 ·decide +kernel
 ·exact ⟨rfl,rfl,rfl,rfl,rfl,by decide +kernel⟩
 ·w_witness2
 k_fill
 refine W rfl rfl (fun w h Y=>PySem.W.kIn_of Y) ?F
 case F =>
  intro w C k;refine' HN.fcx_of ?E k ?y1 ?y2 ?y3 ?y4 ?y5 ?y6 ?y7 ?z1 ?z2 ?z3 ?z4 ?z5 ?z6 ?z7 ?z8 ?z9 ?z10 ?z11 ?z12 ?z13 ?z14 ?z15 ?w1 ?w2 ?w3 ?w4 ?w5 ?w6 ?w7 ?w8 ?w9 ?w10 ?w11 ?w12 ?w13 ?w14 ?w15 ?w16 ?w17 ?w18 ?w19 ?w20 ?w21 ?w22 ?w23 ?w24 ?w25 ?w26 ?w27 ?w28 ?w29 ?w30 ?w31 ?w32 ?w33 ?w34 ?w35 ?w36 ?w37 ?w38 ?w39 ?w40 ?w41 ?w42 ?w43 ?w44 ?w45 ?w46 ?w47
  (case E=>kernel_rfl)
  (case y1=>k_is);(case y2=>k_is);(case y3=>k_is);(case y4=>k_is);(case y5=>k_is);(case y6=>k_is);(case y7=>k_is);(case z1=>k_is);(case z2=>k_is);(case z3=>k_is);(case z4=>k_is);(case z5=>k_is);(case z6=>k_is);(case z7=>k_is);(case z8=>k_is);(case z9=>k_is);(case z10=>k_is);(case z11=>k_is);(case z12=>k_is);(case z13=>k_is);(case z14=>k_is);(case z15=>k_is)
  (case w1=>k_is)
  (case w2=>k_is)
  (case w3=>k_is)
  (case w4=>k_is)
  (case w5=>k_is)
  (case w6=>k_is)
  (case w7=>k_is)
  (case w8=>k_is)
  (case w9=>k_is)
  (case w10=>k_is)
  (case w11=>k_is)
  (case w12=>k_is)
  (case w13=>exact ⟨by k_is,by k_is,_,_,_,_,_,_,_,_,_,by k_is,by k_is,by k_is⟩)
  (case w14=>exact ⟨by k_is,by k_is,_,_,_,_,_,_,_,_,_,by k_is,by k_is,by k_is⟩)
  (case w15=>exact ⟨by k_is,by k_is,_,_,_,_,_,_,_,_,_,by k_is,by k_is,by k_is⟩)
  (case w16=>exact ⟨by k_is,by k_is,_,_,_,_,_,_,_,_,_,by k_is,by k_is,by k_is⟩)
  (case w17=>exact ⟨by k_is,by k_is,_,_,_,_,_,_,_,_,_,by k_is,by k_is,by k_is⟩)
  (case w18=>exact ⟨by k_is,by k_is,_,_,_,_,_,_,_,_,_,by k_is,by k_is,by k_is⟩)
  (case w19=>k_is)
  (case w20=>k_is)
  (case w21=>k_is)
  (case w22=>k_is)
  (case w23=>k_is)
  (case w24=>k_is)
  (case w25=>k_is)
  (case w26=>k_is)
  (case w27=>k_is)
  (case w28=>k_is)
  (case w29=>exact ⟨by k_is,by k_is,_,_,_,_,_,_,_,_,_,by k_is,by k_is,by k_is⟩)
  (case w30=>exact ⟨by k_is,by k_is,_,_,_,_,_,_,_,_,_,by k_is,by k_is,by k_is⟩)
  (case w31=>exact ⟨by k_is,by k_is,_,_,_,_,_,_,_,_,_,by k_is,by k_is,by k_is⟩)
  (case w32=>exact ⟨by k_is,by k_is,_,_,_,_,_,_,_,_,_,by k_is,by k_is,by k_is⟩)
  (case w33=>exact ⟨by k_is,by k_is,_,_,_,_,_,_,_,_,_,by k_is,by k_is,by k_is⟩)
  (case w34=>exact ⟨by k_is,by k_is,_,_,_,_,_,_,_,_,_,by k_is,by k_is,by k_is⟩)
  (case w35=>exact ⟨by k_is,by k_is,_,_,_,_,_,_,_,_,_,by k_is,by k_is,by k_is⟩)
  (case w36=>exact ⟨by k_is,by k_is,_,_,_,_,_,_,_,_,_,by k_is,by k_is,by k_is⟩)
  (case w37=>exact ⟨by k_is,by k_is,_,_,_,_,_,_,_,_,_,by k_is,by k_is,by k_is⟩)
  (case w38=>exact ⟨by k_is,by k_is,_,_,_,_,_,_,_,_,_,by k_is,by k_is,by k_is⟩)
  (case w39=>k_is)
  (case w40=>rfl)
  (case w41=>k_is)
  (case w42=>k_is)
  (case w43=>k_is)
  (case w44=>k_is)
  (case w45=>k_is)
  (case w46=>k_is)
  (case w47=>k_is)
set_option maxRecDepth 100000 in
set_option maxHeartbeats 0 in
theorem HN.scf (w:aV):HN.head0.1 (w.withFollow "special-get-raises" false):=by
 show _=_;unfold eW iq topFrom;rewrite [cv,cq,cp,cy,cu];kernel_rfl
set_option maxRecDepth 100000 in
set_option maxHeartbeats 0 in
theorem HN.sct (w:aV):HN.head0.1 (w.withFollow "special-get-raises" true):=by
 show _=_;unfold eW iq topFrom;rewrite [cv,cq,cp,cy,cu];kernel_rfl
set_option maxHeartbeats 0 in
theorem HN.left1f (w:aV):(eW gR PySem.Challenge.rw_hourtable_k85_apart_and_meets.row.prog (w.withFollow "special-get-raises" false) 3113).map (fun s=>(gW HN.seenOf [aY "FORMS"] (c4 PySem.Challenge.rw_hourtable_k85_apart_and_meets.row.prog.main.body) HN.isSeen true s).1)=some (openGood HN.seenOf [aY "FORMS"]).1:=by
 unfold eW iq topFrom;rewrite [cv,cq,cp,cy,cu,dD];kernel_rfl
set_option maxHeartbeats 0 in
theorem HN.left1t (w:aV):(eW gR PySem.Challenge.rw_hourtable_k85_apart_and_meets.row.prog (w.withFollow "special-get-raises" true) 3113).map (fun s=>(gW HN.seenOf [aY "FORMS"] (c4 PySem.Challenge.rw_hourtable_k85_apart_and_meets.row.prog.main.body) HN.isSeen true s).1)=some (openGood HN.seenOf [aY "FORMS"]).1:=by
 unfold eW iq topFrom;rewrite [cv,cq,cp,cy,cu,dD];kernel_rfl
set_option maxHeartbeats 0 in
theorem HN.left1 (w:aV):(eW gR PySem.Challenge.rw_hourtable_k85_apart_and_meets.row.prog w 3113).map (fun s=>(gW HN.seenOf [aY "FORMS"] (c4 PySem.Challenge.rw_hourtable_k85_apart_and_meets.row.prog.main.body) HN.isSeen true s).1)=some (openGood HN.seenOf [aY "FORMS"]).1:=by
 exact PySem.W.byRow2 "special-get-raises" (P:=fun w=>(eW gR PySem.Challenge.rw_hourtable_k85_apart_and_meets.row.prog w 3113).map (fun s=>(gW HN.seenOf [aY "FORMS"] (c4 PySem.Challenge.rw_hourtable_k85_apart_and_meets.row.prog.main.body) HN.isSeen true s).1)=some (openGood HN.seenOf [aY "FORMS"]).1) HN.left1f HN.left1t w
set_option maxHeartbeats 0 in
theorem HN.left2f (w:aV):(eW gR PySem.Challenge.rw_hourtable_k85_apart_and_meets.row.prog (w.withFollow "special-get-raises" false) 3113).map (fun s=>(gW HN.seenOf [aY "FORMS"] (c4 PySem.Challenge.rw_hourtable_k85_apart_and_meets.row.prog.main.body) HN.isSeen true s).2)=some (openGood HN.seenOf [aY "FORMS"]).2:=by
 unfold eW iq topFrom;rewrite [cv,cq,cp,cy,cu,dD];kernel_rfl
set_option maxHeartbeats 0 in
theorem HN.left2t (w:aV):(eW gR PySem.Challenge.rw_hourtable_k85_apart_and_meets.row.prog (w.withFollow "special-get-raises" true) 3113).map (fun s=>(gW HN.seenOf [aY "FORMS"] (c4 PySem.Challenge.rw_hourtable_k85_apart_and_meets.row.prog.main.body) HN.isSeen true s).2)=some (openGood HN.seenOf [aY "FORMS"]).2:=by
 unfold eW iq topFrom;rewrite [cv,cq,cp,cy,cu,dD];kernel_rfl
set_option maxHeartbeats 0 in
theorem HN.left2 (w:aV):(eW gR PySem.Challenge.rw_hourtable_k85_apart_and_meets.row.prog w 3113).map (fun s=>(gW HN.seenOf [aY "FORMS"] (c4 PySem.Challenge.rw_hourtable_k85_apart_and_meets.row.prog.main.body) HN.isSeen true s).2)=some (openGood HN.seenOf [aY "FORMS"]).2:=by
 exact PySem.W.byRow2 "special-get-raises" (P:=fun w=>(eW gR PySem.Challenge.rw_hourtable_k85_apart_and_meets.row.prog w 3113).map (fun s=>(gW HN.seenOf [aY "FORMS"] (c4 PySem.Challenge.rw_hourtable_k85_apart_and_meets.row.prog.main.body) HN.isSeen true s).2)=some (openGood HN.seenOf [aY "FORMS"]).2) HN.left2f HN.left2t w
theorem HN.leftA (w:aV):(eW gR PySem.Challenge.rw_hourtable_k85_apart_and_meets.row.prog w 3113).map (gW HN.seenOf [aY "FORMS"] (c4 PySem.Challenge.rw_hourtable_k85_apart_and_meets.row.prog.main.body) HN.isSeen true)=some (openGood HN.seenOf [aY "FORMS"]):=HN.left_pr (f:=gW HN.seenOf [aY "FORMS"] (c4 PySem.Challenge.rw_hourtable_k85_apart_and_meets.row.prog.main.body) HN.isSeen true) (HN.left1 w) (HN.left2 w)
end
namespace L2
open PySem PySem.Spec PyProof.Rows
abbrev Key:=Sum Int Str
def keyIs:Key→af→Bool
 | .inl k,v=>af.isInt k v
 | .inr x,v=>af.isStrOf x v
def keyH (w:aV):Key→Int
 | .inl k=>hashInt k
 | .inr x=>hashStr w x
theorem eX:∀ {k:Key} {v:af},keyIs k v=true→(∃ i t,k=Sum.inl i∧v=af.int i t)∨(∃ x t,k=Sum.inr x∧v=af.str x t)
 | .inl i,v,h=>by
  obtain ⟨t,e⟩:=af.isInt_shape (k:=i) (v:=v) h;exact .inl ⟨i,t,rfl,e⟩
 | .inr x,v,h=>by
  obtain ⟨t,e⟩:=af.isStrOf_shape (x:=x) (v:=v) h;exact .inr ⟨x,t,rfl,e⟩
theorem keyIs_int (i:Int)(t:Tok):keyIs (.inl i) (.int i t)=true:=by simp [keyIs,af.isInt]
theorem gr (x:Str)(t:Tok):keyIs (.inr x) (.str x t)=true:=by simp [keyIs,af.isStrOf]
theorem key_ll (a b:Int):decide ((Sum.inl a:Key)=Sum.inl b)=(a == b):=by
 by_cases e:a=b
 ·subst e;simp
 ·have h:¬ (Sum.inl a:Key)=Sum.inl b:=fun q=>e (Sum.inl.inj q)
  rw [lM h];exact (beq_eq_false_iff_ne.mpr e).symm
theorem key_rr (a b:Str):decide ((Sum.inr a:Key)=Sum.inr b)=decide (a=b):=by
 by_cases e:a=b
 ·subst e;simp
 ·have h:¬ (Sum.inr a:Key)=Sum.inr b:=fun q=>e (Sum.inr.inj q)
  rw [lM h,lM e]
theorem key_lr (a:Int)(b:Str):decide ((Sum.inl a:Key)=Sum.inr b)=false:=lM (fun q=>nomatch q)
theorem key_rl (a:Str)(b:Int):decide ((Sum.inr a:Key)=Sum.inl b)=false:=lM (fun q=>nomatch q)
def dR (prog:aB)(w:aV):PySem.KeyKind prog w Key where
 is:=keyIs
 hash:=keyH w
 inj:=fun v a b ha hb=>by
  rcases eX ha with ⟨i,t,rfl,rfl⟩ | ⟨x,t,rfl,rfl⟩
  ·rcases eX hb with ⟨j,u,rfl,e⟩ | ⟨y,u,rfl,e⟩
   ·injection e with e1 _;rw [e1]
   ·exact nomatch e
  ·rcases eX hb with ⟨j,u,rfl,e⟩ | ⟨y,u,rfl,e⟩
   ·exact nomatch e
   ·injection e with e1 _;rw [e1]
 byValue:=fun k v h=>by
  rcases eX h with ⟨i,t,rfl,rfl⟩ | ⟨x,t,rfl,rfl⟩ <;> rfl
 pyHash:=fun hv h=>by
  rcases eX hv with ⟨i,t,rfl,rfl⟩ | ⟨x,t,rfl,rfl⟩
  ·exact wpAny_pyHash_int h
  ·exact wpAny_pyHash_str h
 eqBool:=fun hu hv h=>by
  rcases eX hu with ⟨i,t,rfl,rfl⟩ | ⟨x,t,rfl,rfl⟩
  ·rcases eX hv with ⟨j,u,rfl,rfl⟩ | ⟨y,u,rfl,rfl⟩
   ·rw [key_ll] at h;exact wpAny_eqBool_int h
   ·rw [key_lr] at h;exact SeqAt.EqAt.int_str i t y u _ _ _ _ h
  ·rcases eX hv with ⟨j,u,rfl,rfl⟩ | ⟨y,u,rfl,rfl⟩
   ·rw [key_rl] at h;exact SeqAt.EqAt.str_int x t j u _ _ _ _ h
   ·rw [key_rr] at h;exact wpAny_eqBool_str h
 «strs» := fun k x t v h=>by
  rcases eX h with ⟨i,u,rfl,e⟩ | ⟨y,u,rfl,e⟩
  ·exact nomatch e
  ·injection e with e1 _
   subst e1;cases v <;> rfl
theorem mixKind_int (prog:aB)(w:aV)(i:Int)(t:Tok):(dR prog w).is (.inl i) (.int i t)=true:=keyIs_int i t
theorem jE (prog:aB)(w:aV)(x:Str)(t:Tok):(dR prog w).is (.inr x) (.str x t)=true:=gr x t
inductive V where
 | non | bl (b:Bool) | int (i:Int) | str (x:Str) | byt (b:Array UInt8) | flt (b:UInt64) | ref (a:ak) | ty (n:String)
 deriving DecidableEq
def fD:V→af→Prop
 | .non,u=>u=af.none
 | .bl b,u=>u=af.bool b
 | .int i,u=>∃ t,u=af.int i t
 | .str x,u=>∃ t,u=af.str x t
 | .byt b,u=>∃ t,u=af.bytes b t
 | .flt b,u=>∃ t,u=af.float b t
 | .ref a,u=>u=af.ref a
 | .ty n,u=>u=af.type n
abbrev eI:List V→List af→Prop:=Paired fD
theorem eI.length {xs:List V}(r:eI xs us):xs.length=us.length:=Paired.length r
theorem eI.get:∀ {xs:List V} {us:List af} {i:Nat} {x:V},eI xs us→xs[i]? =some x→∃ u,us[i]? =some u∧fD x u
 | _,_,_,_,.nil,e=>by simp at e
 | _,_,0,_,.cons r _,e=>by simp at e;subst e;exact ⟨_,rfl,r⟩
 | _,_,i+1,x,.cons _ t,e=>by
  obtain ⟨u,h1,h2⟩:=eI.get (i:=i) (x:=x) t (by simpa using e);exact ⟨u,by simpa using h1,h2⟩
theorem eI.set {x:V}{u:af}(r:fD x u):∀ {xs:List V} {us:List af} (i:Nat),eI xs us→eI (xs.set i x) (us.set i u)
 | _,_,_,.nil=> .nil
 | _,_,0,.cons _ t=> .cons r t
 | _,_,i+1,.cons q t=> .cons q (eI.set r i t)
theorem eI.append:∀ {xs ys:List V} {us ws:List af},eI xs us→eI ys ws→eI (xs++ys) (us++ws)
 | _,_,_,_,.nil,s=>s
 | _,_,_,_,.cons r t,s=> .cons r (eI.append t s)
theorem eI.take:∀ {xs:List V} {us:List af} (n:Nat),eI xs us→eI (xs.take n) (us.take n)
 | _,_,0,_=> .nil
 | _,_,_+1,.nil=> .nil
 | _,_,n+1,.cons r t=> .cons r (eI.take n t)
theorem eI.drop:∀ {xs:List V} {us:List af} (n:Nat),eI xs us→eI (xs.drop n) (us.drop n)
 | _,_,0,r=>r
 | _,_,_+1,.nil=> .nil
 | _,_,n+1,.cons _ t=>eI.drop n t
def RelO:Option V→Option af→Prop
 | some v,some u=>fD v u
 | none,none=>True
 | _,_=>False
def KV {κ:Type}:List (κ×V)→List (κ×af)→Prop:=Paired fun (p:κ×V) (q:κ×af)=>p.1=q.1∧fD p.2 q.2
def kV:Key→V
 | .inl i=> .int i
 | .inr x=> .str x
inductive HO where
 | lst (xs:List V)
 | tup (xs:List V)
 | dK (kvs:List (Key×V)) | dT (kvs:List (List Key×V))
 | set (S:Int→Bool) (n:Nat)
 | ins (C dx:ak) (fs:List (Str×V))
 | own (x:ak)
 | xd (fs:List (Str×V))
 | met (f x:ak)
 | rng (lo hi:Int)
 | frz (o:Obj) (u:HO)
 | tbl (ps:Array af)
 | ext (φ:bj→Prop)
abbrev Hp:=ak→Option HO
def upd (H:Hp)(a:ak)(o:HO):Hp:=fun b=>if b=a then some o else H b
theorem aK {H:Hp}{o:HO}:upd H a o a=some o:=by unfold upd;rw [lJ rfl]
theorem aR {H:Hp}{b:ak}{o:HO}(h:b≠a):upd H a o b=H b:=by unfold upd;rw [lI h]
theorem cV {H:Hp}{b:ak}{o u:HO}(h:H a=some o)(h':H b=some u)(d:o≠u):a≠b:=by
 intro e;subst e;rw [h] at h';exact d (bx h')
theorem aJ {H:Hp}{b:ak}{o:HO}(h:H a=some o)(h':H b=none):a≠b:=by
 intro e;subst e;rw [h] at h';cases h'
def jg (h:bj)(a:ak)(items:Array af):Prop:=∃ o,h.get? a=some o∧o.cls= .type "tuple" ∧o.dict=none∧∃ n,o.data= .seq items n
theorem jg.tup {h:bj}{a:ak}{items:Array af}(p:jg h a items):IsTup h a items:=let ⟨o,e,c,_,n,d⟩:=p;⟨o,e,c,n,d⟩
theorem jg.lt (p:jg h a items):a<h.objs.size:=p.tup.lt
theorem jg.new (h:bj)(items:Array af):jg (h.push { cls:= .type "tuple",data:= .seq items }) h.objs.size items:=⟨_,aA _ rfl,rfl,rfl,_,rfl⟩
section
variable (P:aB) (w:aV)
def fU (H:Hp)(h:bj)(a:ak):HO→Prop
 | .lst xs=>xs.length≤ar∧∃ (its:List af) (n:Nat),eI xs its∧h.get? a=some { cls:= .type "list",data:= .seq its.toArray n }
 | .tup xs=>xs.length≤ar∧∃ its:List af,eI xs its∧jg h a its.toArray
 | .dK kvs=>kvs.length≤ar∧(a == eK)=false∧∃ vs,KV kvs vs∧h.DictOf (dR P w) a vs
 | .dT kvs=>kvs.length≤ar∧(a == eK)=false∧∃ xs:List (List Key×ak×af),
   Paired (fun (p:List Key×V) (q:List Key×ak×af)=>p.1=q.1∧H q.2.1=some (.tup (p.1.map kV))∧fD p.2 q.2.2) kvs xs ∧
   ∃ o es ep,h.get? a=some o∧o.ExactDict∧o.data= .dict es ep∧es.toList=xs.map (entryOfKey (tupleKind (dR P w)))∧(xs.map (·.1)).Nodup
 | .set S n=>h.SetOf (intKind P w) a S n
 | .ins C dx fs=>H dx=some (.own a)∧fs.length≤1000∧dx≠a∧h.get? a=some (eF C dx) ∧
   ∃ mA,h.Ns1 dx mA∧(∀ f,RelO (fs.lookup f) (mA f))∧PySem.Within mA (fs.map (·.1))
 | .own _=>∃ o,h.get? a=some o
 | .xd fs=>∃ mA,h.Ns1 a mA∧∀ f,RelO (fs.lookup f) (mA f)
 | .rng lo hi=>∃ t u v,h.get? a=some { cls:= .type "range",data:= .fields #[.int lo t,.int hi u,.int 1 v] }
 | .frz o u=>h.get? a=some o∧fU H h a u
 | .tbl ps=>h.get? a=some { cls:= .none,data:= .fields ps }
 | .met f x=>h.get? a=some (PySem.W.methodObj (.ref f) (.ref x))
 | .ext φ=>φ h∧(∃ o,h.get? a=some o)∧∀ h1 h2:bj,φ h1→(∀ o,h1.get? a=some o→h2.get? a=some o)→φ h2
def HOk (H:Hp)(h:bj):Prop:=∀ a o,H a=some o→fU P w H h a o
end
section
variable {w:aV}{H H':Hp}{o:HO}
theorem fU.lt (x:fU P w H h a o):a<h.objs.size:=by
 cases o with
 | lst xs=>obtain ⟨_,_,_,_,e⟩:=x;exact aE e
 | tup xs=>obtain ⟨_,_,_,p⟩:=x;exact p.lt
 | dK kvs=>obtain ⟨_,_,_,_,o,_,_,e,_⟩:=x;exact aE e
 | dT kvs=>obtain ⟨_,_,_,_,o,_,_,e,_⟩:=x;exact aE e
 | set S n=>obtain ⟨o,_,_,_,e,_⟩:=x;exact aE e
 | ins C dx fs=>obtain ⟨_,_,_,e,_⟩:=x;exact aE e
 | own y=>obtain ⟨_,e⟩:=x;exact aE e
 | xd fs=>obtain ⟨_,⟨_,_,_,e,_⟩,_⟩:=x;exact aE e
 | rng lo hi=>obtain ⟨_,_,_,e⟩:=x;exact aE e
 | frz ob u=>obtain ⟨e,_⟩:=x;exact aE e
 | tbl ps=>exact aE (show h.get? a=some _ from x)
 | met f y=>exact aE (show h.get? a=some _ from x)
 | ext φ=>obtain ⟨_,⟨_,e⟩,_⟩:=x;exact aE e
theorem Paired.mapP {α β:Type}{F G:α→β→Prop}:∀ {l₁:List α} {l₂:List β},Paired F l₁ l₂→(∀ a b,F a b→G a b)→Paired G l₁ l₂
 | _,_,.nil,_=> .nil
 | _,_,.cons r t,f=> .cons (f _ _ r) (Paired.mapP t f)
theorem fU.stay (x:fU P w H h a o)(k:∀ b u,(b=a∨H b=some (.own a))→h.get? b=some u→h'.get? b=some u)
  (ho:∀ b,H b=some (.own a)→H' b=some (.own a)) (ht:∀ b xs,H b=some (.tup xs)→H' b=some (.tup xs)):fU P w H' h' a o:=by
 induction o with
 | lst xs=>obtain ⟨z,its,n,r,e⟩:=x;exact ⟨z,its,n,r,k _ _ (.inl rfl) e⟩
 | tup xs=>obtain ⟨z,its,r,ob,e,c⟩:=x;exact ⟨z,its,r,ob,k _ _ (.inl rfl) e,c⟩
 | dK kvs=>obtain ⟨z,y,vs,r,ob,es,ep,e,c⟩:=x;exact ⟨z,y,vs,r,ob,es,ep,k _ _ (.inl rfl) e,c⟩
 | dT kvs =>
  obtain ⟨z,y,xs,r,ob,es,ep,e,c⟩:=x;exact ⟨z,y,xs,Paired.mapP r fun p q z=>⟨z.1,ht _ _ z.2.1,z.2.2⟩,ob,es,ep,k _ _ (.inl rfl) e,c⟩
 | set S n=>obtain ⟨ob,es,ep,t,e,c⟩:=x;exact ⟨ob,es,ep,t,k _ _ (.inl rfl) e,c⟩
 | ins C dx fs =>
  obtain ⟨d,z,ne,e,mA,⟨od,es,ep,e2,c⟩,r⟩:=x;exact ⟨ho _ d,z,ne,k _ _ (.inl rfl) e,mA,⟨od,es,ep,k _ _ (.inr d) e2,c⟩,r⟩
 | own y=>obtain ⟨ob,e⟩:=x;exact ⟨ob,k _ _ (.inl rfl) e⟩
 | xd fs=>obtain ⟨mA,⟨od,es,ep,e,c⟩,r⟩:=x;exact ⟨mA,⟨od,es,ep,k _ _ (.inl rfl) e,c⟩,r⟩
 | rng lo hi=>obtain ⟨t,u,v,e⟩:=x;exact ⟨t,u,v,k _ _ (.inl rfl) e⟩
 | frz ob u ih=>obtain ⟨e,q⟩:=x;exact ⟨k _ _ (.inl rfl) e,ih q⟩
 | tbl ps =>
  have e:h.get? a=some { cls:= .none,data:= .fields ps }:=x;show h'.get? a=some { cls:= .none,data:= .fields ps };exact k a _ (.inl rfl) e
 | met f y =>
  have e:h.get? a=some (PySem.W.methodObj (.ref f) (.ref y)):=x;show h'.get? a=some (PySem.W.methodObj (.ref f) (.ref y));exact k a _ (.inl rfl) e
 | ext φ=>obtain ⟨p,⟨o,e⟩,st⟩:=x;exact ⟨st _ _ p fun o q=>k _ _ (.inl rfl) q,⟨o,k _ _ (.inl rfl) e⟩,st⟩
theorem HOk.lt (x:HOk P w H h)(e:H a=some o):a<h.objs.size:=(x a o e).lt
theorem HOk.fresh (x:HOk P w H h)(e:h.objs.size≤a):H a=none:=by
 cases q:H a with
 | none=>rfl
 | some u=>exact lK (bz (x.lt q) e) (fE _)
theorem HOk.kept (x:HOk P w H h)(k:∀ b u,h.get? b=some u→h'.get? b=some u):HOk P w H h':=fun a o e =>
 (x a o e).stay (fun b u _ q=>k b u q) (fun _ q=>q) fun _ _ q=>q
theorem HOk.laid (x:HOk P w H h)(k:∀ b u,h.get? b=some u→h'.get? b=some u)(hp:h.objs.size≤a)(new:fU P w (upd H a o) h' a o):HOk P w (upd H a o) h':=fun b u e=>by
 have hn:=x.fresh hp
 by_cases hb:b=a
 ·subst hb;rw [aK] at e;cases e;exact new
 ·rw [aR hb] at e
  exact (x b u e).stay (fun c v _ q=>k c v q) (fun c q=>by rw [aR (aJ q hn)];exact q) fun c xs q=>by rw [aR (aJ q hn)];exact q
end
def Rd (H:Hp)(a:ak)(u:HO):Prop:=H a=some u∨∃ o,H a=some (.frz o u)
theorem Rd.ok {w:aV}{H:Hp}{u:HO}(r:Rd H a u)(x:HOk P w H h):fU P w H h a u:=by
 rcases r with r | ⟨o,r⟩
 ·exact x a u r
 ·obtain ⟨_,q⟩:=x a _ r
  exact q
def Mut:Option HO→Prop
 | some (.lst _)=>True
 | some (.dK _)=>True
 | some (.dT _)=>True
 | some (.set _ _)=>True
 | some (.ins _ _ _)=>True
 | some (.ext _)=>True
 | _=>False
section
variable {w:aV}{H:Hp}{x e:ak}{o':HO}
theorem HOk.write (ok:HOk P w H h)(mu:Mut (H x))(he:e=x∨H e=some (.own x))(k:∀ b u,b≠e→h.get? b=some u→h'.get? b=some u)(heo:∃ u,h'.get? e=some u)
  (new:fU P w (upd H x o') h' x o'):HOk P w (upd H x o') h':=fun b u q=>by
 have nown:∀ c y,H c=some (.own y)→c≠x:=fun c y r z=>by subst z;rw [r] at mu;exact mu
 have ntup:∀ c xs,H c=some (.tup xs)→c≠x:=fun c xs r z=>by subst z;rw [r] at mu;exact mu
 by_cases hb:b=x
 ·subst hb;rw [aK] at q;cases q;exact new
 ·rw [aR hb] at q
  by_cases hbe:b=e
  ·have q':H b=some (.own x):=by
    rcases he with z | z
    ·exact lK (hbe.trans z) hb
    ·rw [hbe];exact z
   rw [q] at q';cases q';obtain ⟨v,hv⟩:=heo;exact ⟨v,by rw [hbe];exact hv⟩
  ·refine (ok b u q).stay (fun c v hc r=>k c v ?_ r) (fun c r=>by rw [aR (nown c b r)];exact r) fun c xs r=>by rw [aR (ntup c xs r)];exact r
   rcases hc with rfl | hc
   ·exact hbe
   ·rintro rfl
    rcases he with z | z
    ·exact nown c b hc z
    ·rw [hc] at z;cases z;exact hb rfl
end
structure Un (fs ex:List ak)(H H':Hp)(h h':bj):Prop where
 keep:∀ b o,h.get? b=some o→H b=none→b ∉ fs→b ∉ ex→h'.get? b=some o
 slot:∀ b o,h.get? b=some o→H b=none→b∈fs→b ∉ ex→∃ sl,h'.get? b=some { o with slots:=sl }
 free:∀ b o,h.get? b=some o→H b=none→b ∉ ex→H' b=none
 there:∀ b o,h.get? b=some o→b ∉ ex→∃ o',h'.get? b=some o'
 tups:∀ b xs,H b=some (.tup xs)→H' b=some (.tup xs)
 frzs:∀ b o u,H b=some (.frz o u)→H' b=some (.frz o u)
 tbls:∀ b ps,H b=some (.tbl ps)→∃ more,H' b=some (.tbl (ps++more))
section
variable {fs fs' ex ex':List ak}{H H1 H2:Hp}{h1 h2:bj}{x e:ak}{o:HO}
theorem Un.any (u:Un fs ex H H1 h h1){b:ak}{ob:Obj}(q:h.get? b=some ob)(n:H b=none)(hx:b ∉ ex):∃ sl,h1.get? b=some { ob with slots:=sl }:=by
 by_cases hb:b∈fs
 ·exact u.slot b ob q n hb hx
 ·exact ⟨ob.slots,u.keep b ob q n hb hx⟩
theorem Un.kept (k:∀ b u,h.get? b=some u→h'.get? b=some u):Un fs ex H H h h' :=
 ⟨fun b ob q _ _ _=>k b ob q,fun b ob q _ _ _=>⟨ob.slots,k b ob q⟩,fun _ _ _ n _=>n,fun b ob q _=>⟨ob,k b ob q⟩,fun _ _ q=>q,fun _ _ _ q=>q,fun _ ps q=>⟨#[],by rw [q];simp⟩⟩
theorem Un.refl:Un fs ex H H h h:=Un.kept fun _ _ q=>q
theorem Un.laid (k:∀ b u,h.get? b=some u→h'.get? b=some u)(hp:h.objs.size≤a)(hn:H a=none):Un fs ex H (upd H a o) h h' where
 keep:=fun b u q _ _ _=>k b u q
 slot:=fun b u q _ _ _=>⟨u.slots,k b u q⟩
 free:=fun b u q n _=>by rw [aR (bu (bz (aE q) hp))];exact n
 there:=fun b u q _=>⟨u,k b u q⟩
 tups:=fun b xs q=>by rw [aR (aJ q hn)];exact q
 frzs:=fun b u xs q=>by rw [aR (aJ q hn)];exact q
 tbls:=fun b ps q=>⟨#[],by rw [aR (aJ q hn),q];simp⟩
theorem Un.write (mu:Mut (H x))(he:e=x∨H e=some (.own x))(k:∀ b u,b≠e→h.get? b=some u→h'.get? b=some u)(heo:∃ u,h'.get? e=some u):Un fs ex H (upd H x o) h h':=by
 have hx:∀ b,H b=none→b≠x:=fun b n z=>by subst z;rw [n] at mu;exact mu
 have hb:∀ b,H b=none→b≠e:=fun b n z=>by
  subst z
  rcases he with r | r
  ·exact hx b n r
  ·rw [n] at r;cases r
 have hm:∀ b u,H b=some u→¬ Mut (some u)→b≠x:=fun b u q nm z=>by subst z;rw [q] at mu;exact nm mu
 refine ⟨fun b u q n _ _=>k b u (hb b n) q,fun b u q n _ _=>⟨u.slots,k b u (hb b n) q⟩,fun b u q n _=>by rw [aR (hx b n)];exact n,fun b u q _=>?_,
  fun b xs q=>by rw [aR (hm b _ q fun z=>z)];exact q,fun b u xs q=>by rw [aR (hm b _ q fun z=>z)];exact q,fun b ps q=>⟨#[],by rw [aR (hm b _ q fun z=>z),q];simp⟩⟩
 by_cases hbe:b=e
 ·subst hbe;exact heo
 ·exact ⟨u,k b u hbe q⟩
end
def trk (h:bj)(H:Hp):List ak:=(bH h.objs.size).filter fun a=>(H a).isSome
def hidT (h:bj)(H:Hp):bj:=PySem.W.hideAll h (trk h H)
theorem hidT_size (h:bj)(H:Hp):(hidT h H).objs.size=h.objs.size:=PySem.W.hideAll_size _ _
theorem hidT_get {H:Hp}{b:ak}{o:Obj}(e:h.get? b=some o)(n:H b=none):(hidT h H).get? b=some o :=
 PySem.W.hideAll_get _ e fun hm=>by
  have q:(H b).isSome=true:=(List.mem_filter.mp hm).2;rw [n] at q;simp at q
theorem of_hidT {H:Hp}{b:ak}{o:Obj}(e:(hidT h H).get? b=some o):h.get? b=some o∧H b=none:=by
 have e':h.get? b=some o:=PySem.W.of_hideAll (trk h H) e;refine ⟨e',?_⟩;cases q:H b with
 | none=>rfl
 | some x =>
  have hm:b∈trk h H:=List.mem_filter.mpr ⟨List.mem_range.mpr (aE e'),by simp [q]⟩;have z:(hidT h H).get? b=none:=PySem.W.hideAll_none (trk h H) hm;rw [z] at e;cases e
structure Mod (K:ai)(mg:Str→Option af)(base:bj):Prop where
 kin:K.In base
 glob:base.Ns aW mg
 blt:∃ mb,base.Ns builtinsNs mb∧∀ x:Str,x ≠ "__name__" →mb x=bootBuiltins x
 nolimit:base.NoLimit
structure Cx where
 prog:aB
 w:aV
 K:ai
 mg:Str→Option af
 base:bj
 A:bB
 N:List Str
 s₀:al
 H₀:Hp
 env:Env
 outer:List Env
 stack:List Env
 ex:List ak
 fn:Str→Bool
 calm:Bool
 pn:List (ak×Obj)
 xe:af→al→Prop
def frs (l:List Env):List ak:=l.filterMap (·.frame)
abbrev Cx.fs (X:Cx):List ak:=frs X.outer
def Vis (sc:Scope)(x:Str):Prop:=sc.names.lookup x=some .local∨sc.names.lookup x=some .cell∨sc.names.lookup x=some .free
def Loc (sc:Scope)(x:Str):Prop:=sc.names.lookup x=some .local∨sc.names.lookup x=some .cell
def Look (env:Env)(h:bj)(m:Str→Option af)(x:Str)(u:af):Prop :=
 (env.kindOf x=some .local∧m x=some u)∨((env.kindOf x=some .cell∨env.kindOf x=some .free)∧∃ c,env.cells.lookup x=some c∧h.IsCell c (some u))
structure Cx.Ok (X:Cx):Prop where
 mod:Mod X.K X.mg X.base
 kind:X.env.scope.kind= .function
 glob:X.env.globals=aW
 blt:X.env.builtins=builtinsNs
 above:X.s₀.heap.objs.size≤X.env.locals
 inj:∀ x y c,X.env.cells.lookup x=some c→X.env.cells.lookup y=some c→x=y
 has:∀ x,(X.env.kindOf x=some .cell∨X.env.kindOf x=some .free)→∃ c,X.env.cells.lookup x=some c
 cab:∀ x c,X.fn x=true→X.env.cells.lookup x=some c→X.s₀.heap.objs.size≤c
 hd:X.calm=true→X.A.handled=none
 frames:X.A.frames=some X.stack
 stk:X.stack=X.outer∨(X.stack=X.env::X.outer∧X.env.frame=some X.env.locals)
 exf:∀ b∈X.ex,b≠X.env.locals∧∀ x c,X.env.cells.lookup x=some c→c≠b
 bs:∀ b o,X.base.get? b=some o→X.s₀.heap.get? b=some o∧X.H₀ b=none
 bsz:X.base.objs.size≤X.s₀.heap.objs.size
 noex:∀ b o,X.base.get? b=some o→b ∉ X.ex
 exfs:∀ b∈X.ex,b ∉ X.fs
 funs:X.s₀.heap.FunFrames X.base X.outer
 frf:∀ b∈X.fs,X.H₀ b=none
structure Inv (X:Cx)(az:List (ak×Obj))(σ:List (Option V))(H:Hp)(s:al):Prop where
 ok:X.Ok
 os:s.os=X.s₀.os
 bare:AllBare s.gens
 base:Un X.fs X.ex X.H₀ H X.s₀.heap s.heap
 loc:∃ m,s.heap.Ns X.env.locals m∧∀ (i:Nat) (x:Str) (v:V),X.N[i]? =some x→σ[i]? =some (some v)→Vis X.env.scope x→∃ u,fD v u∧Look X.env s.heap m x u
 cell:∀ x c,X.env.cells.lookup x=some c→∃ v,s.heap.IsCell c v
 free:H X.env.locals=none
 freeC:∀ x c,X.env.cells.lookup x=some c→H c=none
 pin:∀ p∈X.pn++az,s.heap.get? p.1=some p.2∧H p.1=none∧p.1≠X.env.locals∧p.1 ∉ X.fs∧∀ v,p.2.data≠ .cell v
 hok:HOk X.prog X.w H s.heap
 len:σ.length=X.N.length
section
variable {X:Cx}{σ:List (Option V)}{H H':Hp}
theorem Cx.Ok.nofr (ok:X.Ok){b:ak}{o:Obj}(e:X.base.get? b=some o):b ∉ X.fs:=fun hb=>by
 have:=(ok.funs.mem hb).1;rw [e] at this;cases this
theorem Inv.bs (I:Inv X az σ H s):∀ b o,X.base.get? b=some o→s.heap.get? b=some o∧H b=none:=fun b o e =>
 ⟨I.base.keep b o (I.ok.bs b o e).1 (I.ok.bs b o e).2 (I.ok.nofr e) (I.ok.noex b o e),I.base.free b o (I.ok.bs b o e).1 (I.ok.bs b o e).2 (I.ok.noex b o e)⟩
theorem Inv.bk (I:Inv X az σ H s):∀ b o,X.base.get? b=some o→s.heap.get? b=some o:=fun b o e=>(I.bs b o e).1
theorem Inv.mod (I:Inv X az σ H s):Mod X.K X.mg X.base:=I.ok.mod
theorem Inv.kIn (I:Inv X az σ H s):X.K.In s.heap:=I.ok.mod.kin.keeps I.bk
theorem Inv.lt (I:Inv X az σ H s):X.env.locals<s.heap.objs.size:=let ⟨_,hn,_⟩:=I.loc;hn.lt
theorem Inv.sz (I:Inv X az σ H s):X.s₀.heap.objs.size≤s.heap.objs.size:=bQ I.ok.above (Nat.le_of_lt I.lt)
theorem Inv.nofs (I:Inv X az σ H s)(h:s.heap.objs.size≤a):a ∉ X.fs:=fun hb=>by
 obtain ⟨_,o,ho,_⟩:=I.ok.funs.mem hb;exact lK (bz (aE ho) (bQ I.sz h)) (fE _)
theorem Inv.cne (I:Inv X az σ H s):∀ x c,X.env.cells.lookup x=some c→c≠X.env.locals:=fun x c e z=>by
 obtain ⟨v,o,ho,hd⟩:=I.cell x c e;obtain ⟨m,⟨o',es,ep,ho',hd',_⟩,_⟩:=I.loc;rw [z,ho'] at ho;cases ho;rw [hd'] at hd;cases hd
theorem Inv.funs (I:Inv X az σ H s):s.heap.FunFrames X.base X.outer:=by
 have all:∀ (l:List Env),(∀ b∈frs l,b∈X.fs)→X.s₀.heap.FunFrames X.base l→s.heap.FunFrames X.base l:=by
  intro l
  induction l with
  | nil=>intro _ _;trivial
  | cons env r ih =>
   intro hs hl;obtain ⟨hk,⟨L,o,hf,hn,ho,hd⟩,hr⟩:=hl;have hL:L∈X.fs:=hs L (by unfold frs;rw [gh,hf];exact bW);obtain ⟨sl,e⟩:=I.base.slot L o ho (I.ok.frf L hL) hL fun z=>I.ok.exfs L z hL
   exact ⟨hk,⟨L,_,hf,hn,e,hd⟩,ih (fun b hb=>hs b (by unfold frs;rw [gh,hf];exact aS _ hb)) hr⟩
 exact all X.outer (fun _ hb=>hb) I.ok.funs
theorem Inv.stack (I:Inv X az σ H s):s.heap.FunFrames X.base X.stack:=by
 rcases I.ok.stk with e | ⟨e,hf⟩
 ·rw [e];exact I.funs
 ·rw [e]
  obtain ⟨m,hn,_⟩:=I.loc;refine .cons (by rw [I.ok.kind];decide) hf hn ?_ I.funs;exact bj.get?_none_of_le (bQ I.ok.bsz I.ok.above)
theorem Inv.stkSub (I:Inv X az σ H s):∀ b∈frs X.stack,b∈X.env.locals::X.fs:=fun b hb=>by
 rcases I.ok.stk with e | ⟨e,hf⟩
 ·rw [e] at hb;exact aS _ hb
 ·rw [e] at hb
  unfold frs at hb;rw [gh,hf] at hb;exact hb
theorem Inv.stkFree (I:Inv X az σ H s):∀ b∈frs X.stack,H b=none:=fun b hb=>by
 rcases aq.mp (I.stkSub b hb) with e | hb
 ·rw [e];exact I.free
 ·obtain ⟨_,o,ho,_⟩:=I.ok.funs.mem hb
  exact I.base.free b o ho (I.ok.frf b hb) fun z=>I.ok.exfs b z hb
theorem Inv.step (I:Inv X az σ H s)
  (hch:∀ b∈ch,(b∈X.ex∨X.s₀.heap.objs.size≤b)∧b≠X.env.locals∧(∀ x c,X.env.cells.lookup x=some c→c≠b)∧∀ p∈X.pn++az,p.1≠b)
  (keep:∀ b o,b≠X.env.locals→b ∉ X.fs→b ∉ ch→s.heap.get? b=some o→H b=none→h'.get? b=some o)
  (slot:∀ b o,b≠X.env.locals→b∈X.fs→b ∉ ch→s.heap.get? b=some o→H b=none→∃ sl,h'.get? b=some { o with slots:=sl }) (free:∀ b o,b ∉ ch→s.heap.get? b=some o→H b=none→H' b=none)
  (there:∀ b o,b ∉ ch→s.heap.get? b=some o→∃ o',h'.get? b=some o')
  (tups:∀ b xs,H b=some (.tup xs)→H' b=some (.tup xs)) (frzs:∀ b o u,H b=some (.frz o u)→H' b=some (.frz o u)) (tbls:∀ b ps,H b=some (.tbl ps)→∃ more,H' b=some (.tbl (ps++more)))
  (ns:∀ m,s.heap.Ns X.env.locals m→h'.Ns X.env.locals m) (hok:HOk X.prog X.w H' h') (hg:AllBare g') :
  Inv X az σ H' { s with heap:=h',gens:=g',drawn:=d',toks:=t' }:=by
 have neL:∀ b o,X.s₀.heap.get? b=some o→b≠X.env.locals:=fun b o e=>bu (bz (aE e) I.ok.above)
 have neC:∀ b o,X.s₀.heap.get? b=some o→b ∉ X.ex→b ∉ ch:=fun b o e hx hb=>by
  rcases (hch b hb).1 with z | z
  ·exact hx z
  ·exact lK (bz (aE e) z) (fE _)
 have cellK:∀ x c,X.env.cells.lookup x=some c→∀ v,s.heap.IsCell c v→h'.IsCell c v:=fun x c e v ⟨o,ho,hd⟩=>by
  have nch:c ∉ ch:=fun z=>(hch c z).2.2.1 x c e rfl
  by_cases hc:c∈X.fs
  ·obtain ⟨sl,q⟩:=slot c o (I.cne x c e) hc nch ho (I.freeC x c e)
   exact ⟨_,q,hd⟩
  ·exact ⟨o,keep c o (I.cne x c e) hc nch ho (I.freeC x c e),hd⟩
 refine ⟨I.ok,I.os,hg,⟨fun b o e n hb hx=>?_,fun b o e n hb hx=>?_,fun b o e n hx=>?_,fun b o e hx=>?_,fun b xs e=>tups b xs (I.base.tups b xs e),fun b o xs e=>frzs b o xs (I.base.frzs b o xs e),fun b ps e=>?_⟩,?_,fun x c e=>?_,?_,fun x c e=>?_,fun p hp=>?_,hok,I.len⟩
 ·exact keep b o (neL b o e) hb (neC b o e hx) (I.base.keep b o e n hb hx) (I.base.free b o e n hx)
 ·obtain ⟨sl,e1⟩:=I.base.slot b o e n hb hx
  obtain ⟨sl',e2⟩:=slot b _ (neL b o e) hb (neC b o e hx) e1 (I.base.free b o e n hx);exact ⟨sl',e2⟩
 ·obtain ⟨o',e1⟩:=I.base.there b o e hx
  exact free b o' (neC b o e hx) e1 (I.base.free b o e n hx)
 ·obtain ⟨o',e1⟩:=I.base.there b o e hx
  exact there b o' (neC b o e hx) e1
 ·obtain ⟨m1,e1⟩:=I.base.tbls b ps e
  obtain ⟨m2,e2⟩:=tbls b _ e1;exact ⟨m1++m2,by rw [e2,Array.append_assoc]⟩
 ·obtain ⟨m,hn,hl⟩:=I.loc
  refine ⟨m,ns m hn,fun i x v e1 e2 e3=>?_⟩;obtain ⟨u,r,l⟩:=hl i x v e1 e2 e3;refine ⟨u,r,?_⟩
  rcases l with l | ⟨k,c,e,z⟩
  ·exact .inl l
  ·exact .inr ⟨k,c,e,cellK x c e _ z⟩
 ·obtain ⟨v,z⟩:=I.cell x c e
  exact ⟨v,cellK x c e v z⟩
 ·obtain ⟨m,⟨o,_,_,ho,_⟩,_⟩:=I.loc
  exact free _ o (fun z=>(hch _ z).2.1 rfl) ho I.free
 ·obtain ⟨v,o,ho,hd⟩:=I.cell x c e
  exact free c o (fun z=>(hch c z).2.2.1 x c e rfl) ho (I.freeC x c e)
 ·obtain ⟨e,n,ne,nf,d⟩:=I.pin p hp
  have nch:p.1 ∉ ch:=fun z=>(hch p.1 z).2.2.2 p hp rfl
  exact ⟨keep p.1 p.2 ne nf nch e n,free p.1 p.2 nch e n,ne,nf,d⟩
theorem Inv.un (I:Inv X az σ H s)(u:Un X.fs [] H H' s.heap h')(hok:HOk X.prog X.w H' h'):Inv X az σ H' { s with heap:=h',toks:=t' }:=by
 obtain ⟨m,⟨o,es,ep,ho,r⟩,_⟩:=id I.loc;obtain ⟨sl,hL⟩:=u.any ho I.free (by simp);exact I.step (g':=s.gens) (d':=s.drawn) (ch:=[]) (fun _ z=>nomatch z) (fun b o _ hb _ e n=>u.keep b o e n hb (by simp)) (fun b o _ hb _ e n=>u.slot b o e n hb (by simp)) (fun b o _ e n=>u.free b o e n (by simp)) (fun b o _ e=>u.there b o e (by simp)) u.tups u.frzs u.tbls (fun m' hm=>by
  obtain ⟨o',es',ep',ho',r'⟩:=hm;rw [ho] at ho';cases ho';exact ⟨_,es',ep',hL,r'⟩) hok I.bare
theorem Inv.call (I:Inv X az σ H s)(u:Un (frs X.stack) ch H H' s.heap h')(hok:HOk X.prog X.w H' h')(hg:AllBare g')
  (hch:∀ b∈ch,(b∈X.ex∨X.s₀.heap.objs.size≤b)∧b≠X.env.locals∧(∀ x c,X.env.cells.lookup x=some c→c≠b)∧∀ p∈X.pn++az,p.1≠b) :
  Inv X az σ H' { s with heap:=h',gens:=g',drawn:=d',toks:=t' }:=by
 obtain ⟨m,⟨o,es,ep,ho,r⟩,_⟩:=id I.loc;obtain ⟨sl,hL⟩:=u.any ho I.free fun z=>(hch _ z).2.1 rfl
 exact I.step (ch:=ch) hch (fun b o hL hb hc e n=>u.keep b o e n (fun z=>(aq.mp (I.stkSub b z)).elim hL hb) hc) (fun b o _ _ hc e n=>u.any e n hc) (fun b o hc e n=>u.free b o e n hc) (fun b o hc e=>u.there b o e hc) u.tups u.frzs u.tbls (fun m' hm=>by
  obtain ⟨o',es',ep',ho',r'⟩:=hm;rw [ho] at ho';cases ho';exact ⟨_,es',ep',hL,r'⟩) hok hg
theorem Inv.turned (I:Inv X az σ H s)(k:∀ b o,b≠it→s.heap.get? b=some o→h'.get? b=some o)(hn:H it=none)(hL:it≠X.env.locals)
  (h1:it∈X.ex∨X.s₀.heap.objs.size≤it) (h2:∀ x c,X.env.cells.lookup x=some c→c≠it) (h3:∀ p∈X.pn++az,p.1≠it):Inv X az σ H { s with heap:=h',toks:=t' }:=by
 have nit:∀ b u,H b=some u→b≠it:=fun b u e z=>by rw [z,hn] at e;cases e
 refine I.step (g':=s.gens) (d':=s.drawn) (ch:=[it]) (fun b hb=>?_) (fun b o _ _ hc e _=>k b o (fun z=>hc (by simp [z])) e) (fun b o _ _ hc e _=>⟨o.slots,k b o (fun z=>hc (by simp [z])) e⟩) (fun _ _ _ _ n=>n)
  (fun b o hc e=>⟨o,k b o (fun z=>hc (by simp [z])) e⟩) (fun _ _ e=>e) (fun _ _ _ e=>e) (fun b ps e=>⟨#[],by rw [e];simp⟩) (fun m hm=>?_) (fun b u e=>?_) I.bare
 ·have e:b=it:=by simpa using hb
  subst e;exact ⟨h1,hL,h2,h3⟩
 ·obtain ⟨o,es,ep,ho,r⟩:=hm
  exact ⟨o,es,ep,k _ o (cf hL) ho,r⟩
 ·refine (I.hok b u e).stay (fun c v hc q=>k c v ?_ q) (fun _ q=>q) fun _ _ q=>q
  rcases hc with z | z
  ·rw [z];exact nit b u e
  ·exact nit c _ z
theorem Inv.tok (I:Inv X az σ H s)(t:Nat):Inv X az σ H { s with toks:=t }:=I.un (h':=s.heap) (t':=t) Un.refl I.hok
theorem Inv.kept (I:Inv X az σ H s)(k:∀ b u,s.heap.get? b=some u→h'.get? b=some u):Inv X az σ H { s with heap:=h',toks:=t' }:=I.un (Un.kept k) (I.hok.kept k)
theorem Inv.laid {o:HO}(I:Inv X az σ H s)(k:∀ b u,s.heap.get? b=some u→h'.get? b=some u)(hp:s.heap.objs.size≤a)(new:fU X.prog X.w (upd H a o) h' a o) :
  Inv X az σ (upd H a o) { s with heap:=h',toks:=t' }:=I.un (Un.laid k hp (I.hok.fresh hp)) (I.hok.laid k hp new)
theorem Inv.write {x e:ak}{o:HO}(I:Inv X az σ H s)(mu:Mut (H x))(he:e=x∨H e=some (.own x))(k:∀ b u,b≠e→s.heap.get? b=some u→h'.get? b=some u)(heo:∃ u,h'.get? e=some u)
  (new:fU X.prog X.w (upd H x o) h' x o):Inv X az σ (upd H x o) { s with heap:=h',toks:=t' }:=I.un (Un.write mu he k heo) (I.hok.write mu he k heo new)
theorem Inv.pins_of (I:Inv X az σ H s)(h:∀ p∈pins',s.heap.get? p.1=some p.2∧H p.1=none∧p.1≠X.env.locals∧p.1 ∉ X.fs∧∀ v,p.2.data≠ .cell v):Inv X pins' σ H s :=
 ⟨I.ok,I.os,I.bare,I.base,I.loc,I.cell,I.free,I.freeC,fun p hp=>(cx.mp hp).elim (fun z=>I.pin p (List.mem_append_left _ z)) (h p),I.hok,I.len⟩
theorem nodup_ix (hN:N.Nodup){i:Nat}(a:N[i]? =some x)(b:N[j]? =some x):i=j:=by
 obtain ⟨h1,e1⟩:=ao.mp a;obtain ⟨h2,e2⟩:=ao.mp b;exact (List.getElem_inj hN).mp (e1.trans e2.symm)
theorem store_ok2 {i:Nat}{v:V}{Q:Unit→al→Prop}(I:Inv X az σ H s)(hN:X.N.Nodup)(hi:X.N[i]? =some x)(hx:Loc X.env.scope x)(r:fD v u)
  (h:∀ s',Inv X az (σ.set i (some v)) H s'→(∃ a,bo a s.heap s'.heap∧(a=X.env.locals∨X.env.cells.lookup x=some a))→Q () s') (hf:X.fn x=true∨X.env.scope.names.lookup x=some .local:=by first | exact .inl rfl | exact .inr rfl | assumption):aL M A (storeName X.env x u) Q E s:=by
 obtain ⟨m,hn,hl⟩:=id I.loc;have hcls:(X.env.scope.kind == .class || (X.env.scope.kind == .module && X.env.locals != X.env.globals))=false:=by rw [I.ok.kind];rfl
 have hiσ:i<σ.length:=by rw [I.len];exact (ao.mp hi).1
 have cne:=I.cne;have tracked:∀ {a:ak} {h':bj},(∃ o,s.heap.get? a=some o∧H a=none)→bo a s.heap h'→HOk X.prog X.w H h':=fun {a h'} ha hs b ob e=>by
  obtain ⟨_,_,hfree⟩:=ha;refine (I.hok b ob e).stay (fun c w' hc q=>(hs.2 c ?_).trans q) (fun _ q=>q) fun _ _ q=>q
  rintro rfl
  rcases hc with rfl | hc
  ·rw [hfree] at e;cases e
  ·rw [hfree] at hc;cases hc
 rcases hx with hk | hk
 ·refine wpAny_storeName_local hk hn (fun h' hn' hs=>?_) hcls
  obtain ⟨oL,_,_,hoL,_⟩:=id hn;refine h _ ⟨I.ok,I.os,I.bare,⟨fun b o e n hb hx=>?_,fun b o e n hb hx=>?_,I.base.free,fun b o e hx=>?_,I.base.tups,I.base.frzs,I.base.tbls⟩,⟨_,hn',fun j y v' e1 e2 e3=>?_⟩,fun y c e=>?_,I.free,I.freeC,fun p hp=>?_,tracked ⟨oL,hoL,I.free⟩ hs,by simpa using I.len⟩ ⟨_,hs,.inl rfl⟩
  ·exact (hs.2 b (bu (bz (aE e) I.ok.above))).trans (I.base.keep b o e n hb hx)
  ·obtain ⟨sl,e1⟩:=I.base.slot b o e n hb hx
   exact ⟨sl,(hs.2 b (bu (bz (aE e) I.ok.above))).trans e1⟩
  ·obtain ⟨o',e1⟩:=I.base.there b o e hx
   exact ⟨o',(hs.2 b (bu (bz (aE e) I.ok.above))).trans e1⟩
  ·by_cases hj:j=i
   ·subst hj
    rw [hi] at e1;cases e1;rw [List.getElem?_set_self hiσ] at e2;cases e2;exact ⟨u,r,.inl ⟨hk,by simp⟩⟩
   ·rw [List.getElem?_set_ne (cf hj)] at e2
    obtain ⟨u',r',q⟩:=hl j y v' e1 e2 e3;refine ⟨u',r',?_⟩
    rcases q with ⟨k,e⟩ | ⟨k,c,e,z⟩
    ·refine .inl ⟨k,?_⟩
     have:y≠x:=fun e=>hj (nodup_ix hN e1 (e ▸ hi))
     simp [this,e]
    ·exact .inr ⟨k,c,e,z.sameBut hs (cne y c e)⟩
  ·obtain ⟨w',z⟩:=I.cell y c e
   exact ⟨w',z.sameBut hs (cne y c e)⟩
  ·obtain ⟨e,n,ne,nf,d⟩:=I.pin p hp
   exact ⟨(hs.2 p.1 ne).trans e,n,ne,nf,d⟩
 ·have hfn:X.fn x=true:=by
   rcases hf with z | z
   ·exact z
   ·rw [z] at hk;cases hk
  obtain ⟨c,hc⟩:=I.ok.has x (.inl hk);obtain ⟨w',z⟩:=I.cell x c hc;refine wpAny_storeName_cell I.ok.kind hk hc z (fun h' hc' hs=>?_);obtain ⟨oc,hoc,hocd⟩:=id z;refine h { s with heap:=h' } ⟨I.ok,I.os,I.bare,⟨fun b o e n hb hx=>?_,fun b o e n hb hx=>?_,I.base.free,fun b o e hx=>?_,I.base.tups,I.base.frzs,I.base.tbls⟩,⟨m,hn.sameBut hs (cf (cne x c hc)),fun j y v' e1 e2 e3=>?_⟩,fun y c' e=>?_,I.free,I.freeC,fun p hp=>?_,tracked ⟨oc,hoc,I.freeC x c hc⟩ hs,by simpa using I.len⟩ ⟨c,hs,.inr hc⟩
  ·exact (hs.2 b (bu (bz (aE e) (I.ok.cab x c hfn hc)))).trans (I.base.keep b o e n hb hx)
  ·obtain ⟨sl,e1⟩:=I.base.slot b o e n hb hx
   exact ⟨sl,(hs.2 b (bu (bz (aE e) (I.ok.cab x c hfn hc)))).trans e1⟩
  ·obtain ⟨o',e1⟩:=I.base.there b o e hx
   exact ⟨o',(hs.2 b (bu (bz (aE e) (I.ok.cab x c hfn hc)))).trans e1⟩
  ·by_cases hj:j=i
   ·subst hj
    rw [hi] at e1;cases e1;rw [List.getElem?_set_self hiσ] at e2;cases e2;exact ⟨u,r,.inr ⟨.inl hk,c,hc,hc'⟩⟩
   ·rw [List.getElem?_set_ne (cf hj)] at e2
    obtain ⟨u',r',q⟩:=hl j y v' e1 e2 e3;refine ⟨u',r',?_⟩
    rcases q with q | ⟨k,c',e,z'⟩
    ·exact .inl q
    ·refine .inr ⟨k,c',e,z'.sameBut hs ?_⟩
     rintro rfl;exact hj (nodup_ix hN e1 (I.ok.inj _ _ _ e hc ▸ hi))
  ·by_cases hcc:c'=c
   ·subst hcc;exact ⟨_,hc'⟩
   ·obtain ⟨w2,z2⟩:=I.cell y c' e
    exact ⟨w2,z2.sameBut hs hcc⟩
  ·obtain ⟨e,n,ne,nf,d⟩:=I.pin p hp
   refine ⟨(hs.2 p.1 ?_).trans e,n,ne,nf,d⟩;intro q;rw [q,hoc] at e;have q':oc=p.2:=bx e;exact d w' (by rw [←q'];exact hocd)
theorem store_ok {i:Nat}{v:V}{Q:Unit→al→Prop}(I:Inv X az σ H s)(hN:X.N.Nodup)(hi:X.N[i]? =some x)(hx:Loc X.env.scope x)(r:fD v u)
  (h:∀ s',Inv X az (σ.set i (some v)) H s'→Q () s') (hf:X.fn x=true∨X.env.scope.names.lookup x=some .local:=by first | exact .inl rfl | exact .inr rfl | assumption):aL M A (storeName X.env x u) Q E s :=
 store_ok2 I hN hi hx r (fun s' I' _=>h s' I') hf
theorem Inv.call' (I:Inv X az σ H s)(ho:s'.os=s.os)(u:Un (frs X.stack) ch H H' s.heap s'.heap)(hok:HOk X.prog X.w H' s'.heap)(hg:AllBare s'.gens)
  (hch:∀ b∈ch,(b∈X.ex∨X.s₀.heap.objs.size≤b)∧b≠X.env.locals∧(∀ x c,X.env.cells.lookup x=some c→c≠b)∧∀ p∈X.pn++az,p.1≠b):Inv X az σ H' s':=by
 obtain ⟨h',g',d',t',o'⟩:=s';have e:o'=s.os:=ho;subst e;exact I.call (g':=g') (t':=t') (d':=d') u hok hg hch
end
abbrev XK:=af→Option ak→Hp→Prop
abbrev St:=List (Option V)
abbrev VK:=V→Hp→Prop
abbrev TE:=St→Hp→VK→Prop
abbrev TT:=St→Hp→(Bool→Hp→Prop)→Prop
abbrev TA:=St→Hp→(List V→Hp→Prop)→Prop
structure Ends where
 nx:St→Hp→Prop
 rt:VK
 bk:St→Hp→Prop:=fun _ _=>False
 ct:St→Hp→Prop:=fun _ _=>False
end L2
variable {D:L2.Ends}{H H' H1 H2:L2.Hp}{X:L2.Cx}{kvs:List (L2.Key×L2.V)}{l:List L2.Key}{o:L2.HO}{r r':L2.V→Option Int→Option Int→L2.Hp→L2.VK→Prop}{rows:List (List L2.V)}{t:L2.TA}{ta te to:L2.TE}{tt:L2.TT}{v y:L2.V}{xs ys:List L2.V}{σ:L2.St}
namespace L2
open PySem PySem.Spec PyProof.Rows
abbrev TS:=Ends→St→Hp→Prop
def EP (X:Cx)(az:List (ak×Obj))(σ:St)(Q:VK)(u:af)(s':al):Prop:=∃ v H',Inv X az σ H' s'∧fD v u∧Q v H'
def TP (X:Cx)(az:List (ak×Obj))(σ:St)(Q:Bool→Hp→Prop)(b:Bool)(s':al):Prop:=∃ H',Inv X az σ H' s'∧Q b H'
def AP (X:Cx)(az:List (ak×Obj))(σ:St)(Q:List V→Hp→Prop)(us:List af)(s':al):Prop:=∃ vs H',Inv X az σ H' s'∧eI vs us∧Q vs H'
def SP (X:Cx)(az:List (ak×Obj))(D:Ends)(f:Flow)(s':al):Prop :=
 match f with
 | .next=>∃ σ' H',Inv X az σ' H' s'∧D.nx σ' H'
 | .brk=>∃ σ' H',Inv X az σ' H' s'∧D.bk σ' H'
 | .cont=>∃ σ' H',Inv X az σ' H' s'∧D.ct σ' H'
 | .ret u=>∃ v σ' H',Inv X az σ' H' s'∧fD v u∧D.rt v H'
def PE (X:Cx)(e:Expr)(t:TE):Prop :=
 ∀ (az:List (ak×Obj)) (s:al) (σ:St) (H:Hp) (Q:VK),Inv X az σ H s→t σ H Q→aL (aZ X.prog X.w) X.A (cN e X.env) (EP X az σ Q) X.xe s
def PT (X:Cx)(e:Expr)(t:TT):Prop :=
 ∀ (az:List (ak×Obj)) (s:al) (σ:St) (H:Hp) (Q:Bool→Hp→Prop),Inv X az σ H s→t σ H Q→aL (aZ X.prog X.w) X.A (isTrue e X.env (cN e X.env)) (TP X az σ Q) X.xe s
def PW (X:Cx)(e:Expr)(t:TT):Prop :=
 ∀ (whole:Sem af) (az:List (ak×Obj)) (s:al) (σ:St) (H:Hp) (Q:Bool→Hp→Prop),Inv X az σ H s→t σ H Q→aL (aZ X.prog X.w) X.A (isTrue e X.env whole) (TP X az σ Q) X.xe s
theorem PW.pt {t:TT}(h:PW X e t):PT X e t:=h _
def PA (X:Cx)(es:List Expr)(t:TA):Prop :=
 ∀ (pos:Pos) (az:List (ak×Obj)) (s:al) (σ:St) (H:Hp) (Q:List V→Hp→Prop),Inv X az σ H s→t σ H Q→aL (aZ X.prog X.w) X.A (spliced (eu pos (aU es X.env))) (AP X az σ Q) X.xe s
def PS (X:Cx)(st:b8)(t:TS):Prop :=
 ∀ (az:List (ak×Obj)) (s:al) (σ:St) (H:Hp) (D:Ends),Inv X az σ H s→t D σ H→aL (aZ X.prog X.w) X.A (exec st X.env) (SP X az D) X.xe s
def PSs (X:Cx)(st:List b8)(t:TS):Prop :=
 ∀ (az:List (ak×Obj)) (s:al) (σ:St) (H:Hp) (D:Ends),Inv X az σ H s→t D σ H→aL (aZ X.prog X.w) X.A (execs st X.env) (SP X az D) X.xe s
theorem thn {t:Sem α}{Q Q':α→al→Prop}(h:aL M A t Q E s)(hQ:∀ a s,Q a s→Q' a s):aL M A t Q' E s:=c5 h hQ fun _ _ x=>x
section
inductive HasV (o:Option (Option V))(k:V→Prop):Prop
 | mk (v:V)(h:o=some (some v))(q:k v):HasV o k
inductive IsBl (x:V)(k:Bool→Prop):Prop
 | mk (c:Bool)(h:x= .bl c)(q:k c):IsBl x k
def tVar (i:Nat):TE:=fun σ H Q=>HasV σ[i]? fun v=>Q v H
def tC (v:V):TE:=fun _ H Q=>Q v H
theorem pe_var {i:Nat}(hN:X.N[i]? =some x)(hv:Vis X.env.scope x)(hd:(x == ("__debug__" :Str))=false:=by decide)(hcd:(x == ("__classdict__" :Str))=false:=by decide):PE X (.Name x pos) (tVar i):=by
 intro az s σ H Q I h;obtain ⟨v,e,h⟩:=h;obtain ⟨m,hn,hl⟩:=I.loc;obtain ⟨u,r,l⟩:=hl i x v hN e hv;have fin:EP X az σ Q u s:=⟨v,H,I,r,h⟩
 rcases l with ⟨hk,hm⟩ | ⟨hk,c,hc,jf⟩
 ·exact wpAny_Name (wpAny_loadName_local I.ok.kind hk hn hm fin) hd
 ·rcases hk with hk | hk
  ·exact wpAny_Name (wpAny_loadName_cell I.ok.kind hk hc jf fin) hd
  ·exact wpAny_Name (wpAny_loadName_free I.ok.kind hk hc jf fin hcd) hd
theorem aT {i j pos}:PE X (.Constant (.int i) j pos) (tC (.int i)):=fun _ _ _ H _ I h=>wpAny_Constant_int ⟨.int i,H,I.tok _,⟨_,rfl⟩,h⟩
theorem ki {b j pos}:PE X (.Constant (.bool b) j pos) (tC (.bl b)):=fun _ _ _ H _ I h=>Constant_bool ⟨.bl b,H,I,rfl,h⟩
theorem jy {j pos}:PE X (.Constant .none j pos) (tC .non):=fun _ _ _ H _ I h=>Constant_none ⟨.non,H,I,rfl,h⟩
theorem fY {x j pos}:PE X (.Constant (.str x) j pos) (tC (.str x)):=fun _ _ _ H _ I h=>Calls.Constant_str ⟨.str x,H,I.tok _,⟨_,rfl⟩,h⟩
def Gl (X:Cx)(x:Str):Prop:=X.env.kindOf x=some .globalImplicit
theorem ld_glob (I:Inv X az σ H s)(hg:Gl X x)(hm:X.mg x=some u)(h:Q u s)
  (hd:(x == ("__debug__" :Str))=false:=by decide):aL (aZ X.prog X.w) X.A (cN (.Name x pos) X.env) Q E s :=
 Calls.Name_function_global I.ok.kind hg (Calls.loadGlobal_global (by rw [I.ok.glob];exact I.mod.glob.keeps I.bk) hm h) hd
theorem jP (I:Inv X az σ H s)(hg:Gl X x)(hm:X.mg x=none)(hv:bootBuiltins x=some u)(h:Q u s)
  (hn:x ≠ "__name__" := by decide) (hd:(x == ("__debug__" :Str))=false:=by decide):aL (aZ X.prog X.w) X.A (cN (.Name x pos) X.env) Q E s:=by
 obtain ⟨mb,h1,h2⟩:=I.mod.blt;exact Calls.Name_function_global I.ok.kind hg (Calls.loadGlobal_builtin (by rw [I.ok.glob];exact I.mod.glob.keeps I.bk) hm (by rw [I.ok.blt];exact h1.keeps I.bk) ((h2 x hn).trans hv) h) hd
theorem kF (hg:Gl X x)(hm:X.mg x=some u)(r:fD v u)(hd:(x == ("__debug__" :Str))=false:=by decide):PE X (.Name x pos) (tC v) :=
 fun _ _ _ H _ I h=>ld_glob I hg hm ⟨v,H,I,r,h⟩ hd
theorem pe_bltn (hg:Gl X x)(hm:X.mg x=none)(hv:bootBuiltins x=some u)(r:fD v u)(hn:x ≠ "__name__" := by decide)(hd:(x == ("__debug__" :Str))=false:=by decide):PE X (.Name x pos) (tC v) :=
 fun _ _ _ H _ I h=>jP I hg hm hv ⟨v,H,I,r,h⟩ hn hd
variable {a b:Expr}{tb:TE}
def PC (X:Cx)(op:CmpOp)(a b:Expr)(t:TE):Prop :=
 ∀ (az:List (ak×Obj)) (s:al) (σ:St) (H:Hp) (Q:VK),Inv X az σ H s→t σ H Q →
  aL (aZ X.prog X.w) X.A (cN a X.env) (fun v s₁=>aL (aZ X.prog X.w) X.A (cN b X.env) (fun u s₂=>aL (aZ X.prog X.w) X.A (eG op v u) (EP X az σ Q) X.xe s₂) X.xe s₁) X.xe s
def tB (t:TE):TT:=fun σ H Q=>t σ H fun x H1=>IsBl x fun c=>Q c H1
theorem pt_cmp {t:TE}(h:PC X op a b t)(h1:behindInMarks op b=false:=by first | exact nobehind _ (by decide) (by decide) | rfl):PT X (.Compare a [op] [b] pos) (tB t):=by
 intro az s σ H Q I hw;refine wpAny_isTrue_Compare1 (thn (h az s σ H _ I hw) fun v s1 h1=>thn h1 fun u s2 h2=>thn h2 fun c s3 ⟨x,H1,I1,r1,q1⟩=>?_) h1;obtain ⟨d,rfl,q⟩:=q1;cases r1;exact eT ⟨H1,I1,q⟩
theorem jw {t:TE}(h:PE X e t)(he:∀ whole,isTrue e X.env whole=(do let v ← whole;standAt e.pos;holding [v] (truthy v)):=by intro _;rfl):PT X e (tB t):=by
 intro az s σ H Q I hw;refine isTrue_plain (thn (h az s σ H _ I hw) fun v s1 ⟨x,H1,I1,r1,q1⟩=>?_) (he _);obtain ⟨d,rfl,q⟩:=q1;cases r1;exact eT ⟨H1,I1,q⟩
variable {tA tB':TT} {rest:List Expr}
def tAnd (t u:TT):TT:=fun σ H Q=>t σ H fun c H1=>if c=true then u σ H1 Q else Q false H1
def tOr (t u:TT):TT:=fun σ H Q=>t σ H fun c H1=>if c=true then Q true H1 else u σ H1 Q
def tNot (t:TT):TT:=fun σ H Q=>t σ H fun c H1=>Q (!c) H1
theorem pw_and1 (ha:PT X a tA):PW X (.BoolOp .And [a] pos) tA:=by
 intro wh az s σ H Q I h;refine isTrue_and (thn (ha az s σ H Q I h) fun c s1 e=>?_);cases c with
 | true=>exact isTrue_and_nil e
 | false=>exact e
theorem jv (ha:PT X a tA):PW X (.BoolOp .Or [a] pos) tA:=by
 intro wh az s σ H Q I h;refine isTrue_or (thn (ha az s σ H Q I h) fun c s1 e=>?_);cases c with
 | false=>exact isTrue_or_nil e
 | true=>exact e
theorem pw_and (ha:PT X a tA)(hb:PW X (.BoolOp .And (b::rest) pos) tB'):PW X (.BoolOp .And (a::b::rest) pos) (tAnd tA tB'):=by
 intro wh az s σ H Q I h;refine isTrue_and (thn (ha az s σ H _ I h) fun c s1 ⟨H1,I1,q1⟩=>?_);cases c with
 | true=>exact hb wh az s1 σ H1 Q I1 q1
 | false=>exact ⟨H1,I1,q1⟩
theorem kh (ha:PT X a tA)(hb:PW X (.BoolOp .Or (b::rest) pos) tB'):PW X (.BoolOp .Or (a::b::rest) pos) (tOr tA tB'):=by
 intro wh az s σ H Q I h;refine isTrue_or (thn (ha az s σ H _ I h) fun c s1 ⟨H1,I1,q1⟩=>?_);cases c with
 | true=>exact ⟨H1,I1,q1⟩
 | false=>exact hb wh az s1 σ H1 Q I1 q1
theorem j5 (ha:PT X a tA):PT X (.UnaryOp .Not a pos) (tNot tA):=by
 intro az s σ H Q I h;exact isTrue_not (ha az s σ H (fun c H1=>Q (!c) H1) I h)
def tAndV (ta tb:TE):TE:=fun σ H Q=>ta σ H fun x H1=>IsBl x fun c=>if c=true then tb σ H1 Q else Q (.bl false) H1
def tNotV (ta:TE):TE:=fun σ H Q=>ta σ H fun x H1=>IsBl x fun c=>Q (.bl (!c)) H1
theorem pe_one {op}{t:TE}(h:PE X a t):PE X (.BoolOp op [a] pos) t:=fun az s σ H Q I hw=>BoolOp_one (h az s σ H Q I hw)
theorem lj (ha:PE X a ta)(hb:PE X (.BoolOp .And (b::rest) pos) tb):PE X (.BoolOp .And (a::b::rest) pos) (tAndV ta tb):=by
 intro az s σ H Q I h;refine BoolOp_and (thn (ha az s σ H _ I h) fun v s1 ⟨x,H1,I1,r1,q1⟩=>?_);obtain ⟨c,rfl,q1⟩:=q1;cases r1;refine eT ?_;cases c with
 | true=>exact hb az s1 σ H1 Q I1 q1
 | false=>exact ⟨.bl false,H1,I1,rfl,q1⟩
theorem pe_not (ha:PE X a ta):PE X (.UnaryOp .Not a pos) (tNotV ta):=by
 intro az s σ H Q I h;refine UnaryOp_ (thn (ha az s σ H _ I h) fun v s1 ⟨x,H1,I1,r1,q1⟩=>?_);obtain ⟨c,rfl,q1⟩:=q1;cases r1;exact not_of (eT ⟨.bl (!c),H1,I1,rfl,q1⟩)
def tIf (t:TT)(ta tb:TE):TE:=fun σ H Q=>t σ H fun c H1=>if c=true then ta σ H1 Q else tb σ H1 Q
theorem pe_ifExp {c:Expr}(hc:PT X c tA)(ha:PE X a ta)(hb:PE X b tb):PE X (.IfExp c a b pos) (tIf tA ta tb):=by
 intro az s σ H Q I h;refine wpAny_IfExp (thn (hc az s σ H _ I h) fun d s1 ⟨H1,I1,q1⟩=>?_);cases d with
 | true=>exact ha az s1 σ H1 Q I1 q1
 | false=>exact hb az s1 σ H1 Q I1 q1
end
def SqL (K:ai)(H:Hp)(a:ak)(xs:List V):Prop :=
 Rd H a (.lst xs) ∨
  ∃ (o:Obj) (its:Array af) (n:Nat),K.lookup a=some o∧o.cls= .type "list" ∧o.dict=none∧o.data= .seq its n∧its.size≤ar∧eI xs its.toList
def SqT (K:ai)(H:Hp)(a:ak)(xs:List V):Prop :=
 Rd H a (.tup xs) ∨
  ∃ (o:Obj) (its:Array af) (n:Nat),K.lookup a=some o∧o.cls= .type "tuple" ∧o.data= .seq its n∧its.size≤ar∧eI xs its.toList
def absV:af→Option V
 | .none=>some .non
 | .bool b=>some (.bl b)
 | .int i _=>some (.int i)
 | .str x _=>some (.str x)
 | .bytes b _=>some (.byt b)
 | .float b _=>some (.flt b)
 | .ref a=>some (.ref a)
 | .type n=>some (.ty n)
 | _=>none
theorem fD.abs {x:V}(r:fD x u):absV u=some x:=by
 cases x with
 | non=>cases r;rfl
 | bl _=>cases r;rfl
 | int _=>obtain ⟨t,rfl⟩:=r;rfl
 | str _=>obtain ⟨t,rfl⟩:=r;rfl
 | byt _=>obtain ⟨t,rfl⟩:=r;rfl
 | flt _=>obtain ⟨t,rfl⟩:=r;rfl
 | ref _=>cases r;rfl
 | ty _=>cases r;rfl
theorem fD.inj {x:V}(r:fD x u)(q:fD y u):x=y:=bx (r.abs.symm.trans q.abs)
theorem eI.inj:∀ {xs ys:List V} {us:List af},eI xs us→eI ys us→xs=ys
 | _,_,_,.nil,.nil=>rfl
 | _,_,_,.cons r t,.cons r' t'=>by rw [r.inj r',eI.inj t t']
theorem SqL.of (h:H a=some (.lst xs)):SqL K H a xs:= .inl (.inl h)
theorem SqT.of (h:H a=some (.tup xs)):SqT K H a xs:= .inl (.inl h)
theorem Inv.list (I:Inv X az σ H s)(h:SqL X.K H a xs):∃ its:List af,eI xs its∧PlainL s.heap a its.toArray∧xs.length≤ar:=by
 rcases h with h | ⟨o,its,n,hk,hc,hd,hs,hz,r⟩
 ·obtain ⟨z,its,n,r,e⟩:=h.ok I.hok
  exact ⟨its,r,⟨_,n,e,rfl,rfl,rfl⟩,z⟩
 ·refine ⟨its.toList,r,⟨o,n,I.kIn a o hk,hc,hd,by simpa using hs⟩,?_⟩
  have e:=r.length;simp only [ib] at e;lia
theorem Inv.tuple (I:Inv X az σ H s)(h:SqT X.K H a xs):∃ its:List af,eI xs its∧IsTup s.heap a its.toArray∧xs.length≤ar:=by
 rcases h with h | ⟨o,its,n,hk,hc,hs,hz,r⟩
 ·obtain ⟨z,its,r,p⟩:=h.ok I.hok
  exact ⟨its,r,p.tup,z⟩
 ·refine ⟨its.toList,r,⟨o,I.kIn a o hk,hc,n,by simpa using hs⟩,?_⟩
  have e:=r.length;simp only [ib] at e;lia
theorem Inv.list_inj (I:Inv X az σ H s)(h:SqL X.K H a xs)(h':SqL X.K H a ys):xs=ys:=by
 obtain ⟨its,r,⟨o,n,e,_,_,d⟩,_⟩:=I.list h;obtain ⟨its',r',⟨o',n',e',_,_,d'⟩,_⟩:=I.list h';rw [e] at e';cases e';rw [d] at d';injection d' with d1 _
 have:its=its':=by simpa using lO Array.toList d1
 subst this;exact r.inj r'
abbrev Cx.wish (X:Cx)(E:af→al→Prop):Cx:={ X with xe:=E }
abbrev Cx.nox (X:Cx):Cx:=X.wish fun _ _=>False
theorem Cx.Ok.wish (ok:X.Ok)(E:af→al→Prop):(X.wish E).Ok :=
 ⟨ok.mod,ok.kind,ok.glob,ok.blt,ok.above,ok.inj,ok.has,ok.cab,ok.hd,ok.frames,ok.stk,ok.exf,ok.bs,ok.bsz,ok.noex,ok.exfs,ok.funs,ok.frf⟩
theorem Cx.Ok.unwish (ok:(X.wish E).Ok):X.Ok :=
 ⟨ok.mod,ok.kind,ok.glob,ok.blt,ok.above,ok.inj,ok.has,ok.cab,ok.hd,ok.frames,ok.stk,ok.exf,ok.bs,ok.bsz,ok.noex,ok.exfs,ok.funs,ok.frf⟩
theorem Inv.wish (I:Inv X az σ H s)(E:af→al→Prop):Inv (X.wish E) az σ H s:=⟨I.ok.wish E,I.os,I.bare,I.base,I.loc,I.cell,I.free,I.freeC,I.pin,I.hok,I.len⟩
theorem Inv.unwish (I:Inv (X.wish E) az σ H s):Inv X az σ H s:=⟨I.ok.unwish,I.os,I.bare,I.base,I.loc,I.cell,I.free,I.freeC,I.pin,I.hok,I.len⟩
theorem SP.unwish {f:Flow}(h:SP (X.wish E) az D f s'):SP X az D f s':=by
 cases f with
 | next=>obtain ⟨σ',H',I,q⟩:=h;exact ⟨σ',H',I.unwish,q⟩
 | brk=>obtain ⟨σ',H',I,q⟩:=h;exact ⟨σ',H',I.unwish,q⟩
 | cont=>obtain ⟨σ',H',I,q⟩:=h;exact ⟨σ',H',I.unwish,q⟩
 | ret u=>obtain ⟨v,σ',H',I,r,q⟩:=h;exact ⟨v,σ',H',I.unwish,r,q⟩
theorem PSs.nox {st:List b8}{t:TS}(h:PSs X.nox st t):PSs X st t:=fun az s σ H D I hw =>
 c5 (h az s σ H D (I.wish _) hw) (fun _ _ q=>q.unwish) fun _ _ z=>eh z
section
variable {rest:List b8}{t u:TS}
def tNext:TS:=fun D σ H=>D.nx σ H
def tSeq (t u:TS):TS:=fun D σ H=>t { D with nx:=u D } σ H
theorem cM:PSs X [] tNext:=fun _ _ σ H _ I h=>wpAny_execs_nil ⟨σ,H,I,h⟩
theorem cz (h1:PS X st t)(h2:PSs X rest u):PSs X (st::rest) (tSeq t u):=by
 intro az s σ H D I h;refine wpAny_execs_cons (thn (h1 az s σ H { D with nx:=u D } I h) fun f s1 q=>?_);cases f with
 | next =>
  obtain ⟨σ',H',I',q⟩:=q;exact h2 az s1 σ' H' D I' q
 | ret v=>exact q
 | brk=>exact q
 | cont=>exact q
theorem bp (h1:PS X st t):PSs X [st] t:=by
 intro az s σ H D I h;refine wpAny_execs_cons (thn (h1 az s σ H D I h) fun f s1 q=>?_);cases f with
 | next=>exact wpAny_execs_nil q
 | ret v=>exact q
 | brk=>exact q
 | cont=>exact q
theorem Inv.quiet (I:Inv X az σ H s):interactive X.env=false:=by simp [interactive,I.ok.kind]
def tDrop (te:TE):TS:=fun D σ H=>te σ H fun _ H1=>D.nx σ H1
theorem iw (he:PE X e te)(hs:swapsWith e none pos.line X.env=fe false:=by rfl):PS X (.Expr e pos) (tDrop te):=by
 intro az s σ H D I h;exact wpAny_Expr_any (thn (he az s σ H _ I h) fun v s1 ⟨x,H1,I1,r1,q1⟩=>⟨σ,H1,I1,q1⟩) I.quiet hs
def tRet (te:TE):TS:=fun D σ H=>te σ H D.rt
theorem bI (he:PE X e te):PS X (.Return (some e) pos) (tRet te):=by
 intro az s σ H D I h;exact wpAny_Return_some (thn (he az s σ H _ I h) fun v s1 ⟨x,H1,I1,r1,q1⟩=>⟨x,σ,H1,I1,r1,q1⟩)
def tIfS (c:TT)(t u:TS):TS:=fun D σ H=>c σ H fun b H1=>if b=true then t D σ H1 else u D σ H1
theorem fQ {c:Expr}{a b:List b8}{tc:TT}(hc:PT X c tc)(ha:PSs X a t)(hb:PSs X b u):PS X (.If c a b pos) (tIfS tc t u):=by
 intro az s σ H D I h;refine wpAny_If (thn (hc az s σ H _ I h) fun d s1 ⟨H1,I1,q1⟩=>?_);cases d with
 | true=>exact ha az s1 σ H1 D I1 q1
 | false=>exact hb az s1 σ H1 D I1 q1
def tNever:TS:=fun _ _ _=>False
theorem gU:PS X st tNever:=fun _ _ _ _ _ _ h=>h.elim
end
abbrev TG:=V→St→Hp→(St→Hp→Prop)→Prop
abbrev TGs:=List V→St→Hp→(St→Hp→Prop)→Prop
def PG (X:Cx)(target:Expr)(t:TG):Prop :=
 ∀ (az:List (ak×Obj)) (s:al) (σ:St) (H:Hp) (v:V) (u:af) (Q:St→Hp→Prop),Inv X az σ H s→fD v u→t v σ H Q →
  aL (aZ X.prog X.w) X.A (assign target X.env u) (fun _ s'=>∃ σ' H',Inv X az σ' H' s'∧Q σ' H') X.xe s
def PGs (X:Cx)(ts:List Expr)(t:TGs):Prop :=
 ∀ (az:List (ak×Obj)) (s:al) (σ:St) (H:Hp) (vs:List V) (us:List af) (Q:St→Hp→Prop),Inv X az σ H s→eI vs us→t vs σ H Q →
  aL (aZ X.prog X.w) X.A (assignInOrder ((assignEach ts X.env).map (·.2)) us) (fun _ s'=>∃ σ' H',Inv X az σ' H' s'∧Q σ' H') X.xe s
abbrev TSet:=V→V→V→Hp→(Hp→Prop)→Prop
def PSet (X:Cx)(t:TSet):Prop :=
 ∀ (az:List (ak×Obj)) (s:al) (σ:St) (H:Hp) (o i v:V) (ov iv u:af) (Q:Hp→Prop),Inv X az σ H s→fD o ov→fD i iv→fD v u→t o i v H Q →
  aL (aZ X.prog X.w) X.A (setItem ov iv u) (fun _ s'=>∃ H',Inv X az σ H' s'∧Q H') X.xe s
def jq (i:Nat):TG:=fun v σ H Q=>Q (σ.set i (some v)) H
theorem jX {i:Nat}(hN:X.N.Nodup)(hi:X.N[i]? =some x)(hx:Loc X.env.scope x)(hf:X.fn x=true∨X.env.scope.names.lookup x=some .local:=by first | exact .inl rfl | exact .inr rfl | assumption):PG X (.Name x pos) (jq i):=by
 intro az s σ H v u Q I r h;exact wpAny_assign_Name (store_ok I hN hi hx r (fun s' I'=>⟨_,H,I',h⟩) hf)
def gNil:TGs:=fun vs σ H Q=>vs=[]∧Q σ H
def gCons (t:TG)(u:TGs):TGs:=fun vs σ H Q=>∃ v r,vs=v::r∧t v σ H fun σ' H'=>u r σ' H' Q
theorem i9:PGs X [] gNil:=by
 intro az s σ H vs us Q I r h;obtain ⟨e,h⟩:=h;subst e;cases r;exact assignInOrder_nil ⟨σ,H,I,h⟩
theorem dU {t:TG}{u:TGs}(h1:PG X e t)(h2:PGs X es u)
  (hs:(assignEach (e::es) X.env).map (·.2)=assign e X.env::(assignEach es X.env).map (·.2):=by rfl):PGs X (e::es) (gCons t u):=by
 intro az s σ H vs us Q I r h;obtain ⟨v,vr,e1,h⟩:=h;subst e1;cases r with
 | cons r rr =>
  rw [hs];refine assignInOrder_cons (thn (h1 az s σ H _ _ _ I r h) fun _ s1 ⟨σ1,H1,I1,q1⟩=>?_);exact h2 az s1 σ1 H1 _ _ Q I1 rr q1
def gTup (K:ai)(n:Nat)(t:TGs):TG:=fun v σ H Q=>∃ a xs,v= .ref a∧SqT K H a xs∧xs.length=n∧t xs σ H Q
theorem j7 {t:TGs}(hc:X.calm=true)(h:PGs X es t)
  (hn:(assignEach es X.env).length=n:=by rfl) (hst:(assignEach es X.env).findIdx? (·.1)=none:=by rfl):PG X (.Tuple es k pos) (gTup X.K n t):=by
 intro az s σ H v u Q I r hw;obtain ⟨a,xs,e1,hq,hl,hw⟩:=hw;subst e1;cases r;obtain ⟨its,rv,ht,hz⟩:=I.tuple hq;refine assign_Tuple_tuple (I.ok.hd hc) ht (by simp [hn,←hl,rv.length]) hst fun h' hx=>?_
 have I1:Inv X az σ H { s with heap:=h' }:=I.kept (t':=s.toks) fun b o e=>hx b o (bu (aE e)) e
 exact h az _ σ H xs _ Q I1 (by simpa using rv) hw
def gSub (to ti:TE)(t:TSet):TG:=fun v σ H Q=>to σ H fun o H1=>ti σ H1 fun i H2=>t o i v H2 fun H3=>Q σ H3
theorem pg_sub {o i:Expr}{ti:TE}{t:TSet}(ho:PE X o to)(hi:PE X i ti)(hs:PSet X t)
  (ha:∀ v,assign (.Subscript o i pos) X.env v=(do
   let ov ← holding [v] (cN o X.env)
   let iv ← holding [v,ov] (cN i X.env)
   standAt pos
   holding [v,ov,iv] (setItem ov iv v)
   release [v,ov,iv] []):=by intro _;rfl):PG X (.Subscript o i pos) (gSub to ti t):=by
 intro az s σ H v u Q I r h;rw [ha];refine ag (gG (thn (ho az s σ H _ I h) fun ov s1 ⟨x,H1,I1,r1,q1⟩=>?_));refine ag (gG (thn (hi az s1 σ H1 _ I1 q1) fun iv s2 ⟨y,H2,I2,r2,q2⟩=>?_));refine ag (wpAny_standAt (ag (gG (thn (hs az s2 σ H2 x y v ov iv u _ I2 r1 r2 r q2) fun _ s3 ⟨H3,I3,q3⟩=>?_))));exact wpAny_release ⟨σ,H3,I3,q3⟩
def tAsg (te:TE)(g:TG):TS:=fun D σ H=>te σ H fun x H1=>g x σ H1 D.nx
theorem ps_asg {g:TG}(he:PE X e te)(hg:PG X tg g)(hs:swapsWithSole [tg] e pos.line X.env=fe false:=by rfl)(hw:swappedStores [tg] e X.env=fe none:=by rfl)
  (h1:(assignEach [tg] X.env).map (·.2)=[assign tg X.env]:=by rfl):PS X (.Assign [tg] e pos) (tAsg te g):=by
 intro az s σ H D I h;refine wpAny_Assign_stores (thn (he az s σ H _ I h) fun v s1 ⟨x,H1,I1,r1,q1⟩=>?_) hs hw;rw [h1];exact thn (hg az s1 σ H1 x v _ I1 r1 q1) fun _ s2 q=>q
theorem ps_set {i:Nat}(hN:X.N.Nodup)(hi:X.N[i]? =some x)(hx:Loc X.env.scope x)(he:PE X e te)(hs:swapsWith e (some (.Name x pos')) pos.line X.env=fe false:=by rfl)(hf:X.fn x=true∨X.env.scope.names.lookup x=some .local:=by first | exact .inl rfl | exact .inr rfl | assumption) :
  PS X (.Assign [.Name x pos'] e pos) (tAsg te (jq i)):=by
 intro az s σ H D I h;refine wpAny_Assign_Name (thn (he az s σ H _ I h) fun v s1 ⟨y,H1,I1,r1,q1⟩=>?_) hs;exact store_ok I1 hN hi hx r1 (fun s2 I2=>⟨_,H1,I2,q1⟩) hf
structure It where
 go:Nat→Hp→Prop
 yld:Nat→Hp→V→Hp→Prop
 stop:Nat→Hp→Prop
def FpOk (X:Cx)(az:List (ak×Obj))(H:Hp)(b:ak):Prop :=
 H b=none∧b≠X.env.locals∧b ∉ X.fs∧(b∈X.ex∨X.s₀.heap.objs.size≤b)∧(∀ x c,X.env.cells.lookup x=some c→c≠b)∧∀ p∈X.pn++az,p.1≠b
theorem Inv.fpOk {b:ak}(I:Inv X az σ H s)(hb:s.heap.objs.size≤b)(hn:H' b=none):FpOk X az H' b:=by
 refine ⟨hn,fq (bz I.lt hb),I.nofs hb,.inr (bQ I.sz hb),fun x c e z=>?_,fun p hp z=>?_⟩
 ·obtain ⟨v,q⟩:=I.cell x c e
  exact lK (bz q.lt (by rw [z];exact hb)) (fE _)
 ·exact lK (bz (aE (I.pin p hp).1) (by rw [z];exact hb)) (fE _)
structure Turn (P:aB)(w:aV)(K:ai)(tg:Expr)(J:It)(fp:List ak)(it:ak)(tn:Nat→bj→Prop):Prop where
 mem:it∈fp
 obj:∀ i h,tn i h→∀ b∈fp,∃ o,h.get? b=some o∧∀ v,o.data≠ .cell v
 keep:∀ i h h',tn i h→(∀ b∈fp,∀ o,h.get? b=some o→h'.get? b=some o)→tn i h'
 item:∀ (X:Cx),X.prog=P→X.w=w→X.K=K→X.calm=true→∀ (i:Nat) (az:List (ak×Obj)) (s:al) (σ:St) (H:Hp) (E:af→al→Prop),Inv X az σ H s→(∀ b∈fp,FpOk X az H b)→tn i s.heap→J.go i H →
  aL (aZ P w) X.A (pyNext (.ref it)) (fun r s1=>∃ u,r=some u ∧
   aL (aZ P w) X.A (iJ tg (.ref it) u) (fun _ s2=>∃ x H',Inv X az σ H' s2∧fD x u∧J.yld i H x H'∧tn (i+1) s2.heap∧∀ b∈fp,H' b=none) E s1) E s
 done:∀ (X:Cx),X.prog=P→X.w=w→X.K=K→X.calm=true→∀ (i:Nat) (az:List (ak×Obj)) (s:al) (σ:St) (H:Hp) (E:af→al→Prop),Inv X az σ H s→(∀ b∈fp,FpOk X az H b)→tn i s.heap→J.stop i H →
  aL (aZ P w) X.A (pyNext (.ref it)) (fun r s1=>r=none∧Inv X az σ H s1) E s
 self:∀ (A:bB) (i:Nat) (s:al) (Q:af→al→Prop) (E:af→al→Prop),tn i s.heap→Q (.ref it) s→aL (aZ P w) A (pyIter (.ref it)) Q E s
abbrev TI:=St→Hp→(It→Hp→Prop)→Prop
def PIE (X:Cx)(az:List (ak×Obj))(σ:St)(tg:Expr)(R:It→Hp→Prop)(itv:af)(s2:al):Prop :=
 ∃ (it:ak) (fp:List ak) (tn:Nat→bj→Prop) (J:It) (H':Hp),itv= .ref it∧Inv X az σ H' s2∧Turn X.prog X.w X.K tg J fp it tn∧tn 0 s2.heap∧(∀ b∈fp,FpOk X az H' b)∧R J H'
def PI (X:Cx)(tg iter:Expr)(wi:TI):Prop :=
 ∀ (az:List (ak×Obj)) (s:al) (σ:St) (H:Hp) (R:It→Hp→Prop),Inv X az σ H s→wi σ H R →
  aL (aZ X.prog X.w) X.A (cN iter X.env) (fun v s1=>aL (aZ X.prog X.w) X.A (pyIter v) (PIE X az σ tg R) X.xe s1) X.xe s
theorem go_of {o:Obj}{n:String}{vs:Array af}{Q:Unit→al→Prop}(ho:s.heap.get? it=some o)(hc:o.cls= .type n)(hd:o.data= .fields vs)
  (hn:["enumerate","zip","dict_itemiterator","dict_reverseitemiterator","odict_iterator","itertools.zip_longest","itertools.pairwise"].contains n=false) (hQ:Q () s):aL M A (iJ tg (.ref it) u) Q E s:=by
 unfold iJ;cases tg <;> first
  | exact ax hQ
  | (cases u <;> first
    | exact ax hQ
    | (refine ag (wpAny_load ho ?_)
       rw [hc,hd];show aL M A (if (["enumerate","zip","dict_itemiterator","dict_reverseitemiterator","odict_iterator","itertools.zip_longest","itertools.pairwise"].contains n && vs[0]? == some (rawInt _))=true then _ else _) Q E s;rw [lI (by intro h;rw [hn,gK] at h;cases h)];exact ax hQ))
def Itl (K:ai)(a:ak):It :=
 ⟨fun i H=>∃ xs x,SqL K H a xs∧xs[i]? =some x,fun i H x H'=>H'=H∧∀ xs,SqL K H a xs→xs[i]? =some x,fun i H=>∃ xs,SqL K H a xs∧xs.length≤i⟩
def Itr (lo:Int)(n:Nat):It:=⟨fun i _=>i<n,fun i H x H'=>H'=H∧x= .int (lo+i),fun i _=>n≤i⟩
theorem turn_list {w:aV}(a it:ak):Turn P w K tg (Itl K a) [it] it (fun i h=>h.IsListIter it a i) where
 mem:=by simp
 obj:=fun i h st b hb=>by
  have e:b=it:=by simpa using hb
  subst e;obtain ⟨o,e,c,d⟩:=st;exact ⟨o,e,fun v z=>by rw [d] at z;cases z⟩
 keep:=fun i h h' st k=>st.at fun o e=>k it (by simp) o e
 item:=by
  intro X hP hw hK hc i az s σ H E I hf st hg;subst hP hw hK;obtain ⟨xs,x,hq,hx⟩:=hg;obtain ⟨its,rv,p,hz⟩:=I.list hq;obtain ⟨u,hu,ru⟩:=rv.get hx;obtain ⟨f0,f1,f2,f3,f4,f5⟩:=hf it (by simp);refine wpAny_pyNext_list_item st p.isList (x:=u) (by simpa using hu) fun h' st' sb=>?_
  have I1:Inv X az σ H { s with heap:=h' }:=I.turned (t':=s.toks) (fun b o hb e=>(sb.2 b hb).trans e) f0 f1 f3 f4 f5;obtain ⟨o,e,c,d⟩:=id st';exact ⟨u,rfl,go_of (s:={ s with heap:=h' }) e c d (by decide) ⟨x,H,I1,ru,⟨rfl,fun ys hy=>by rw [I.list_inj hy hq];exact hx⟩,st',fun b hb=>(hf b hb).1⟩⟩
 done:=by
  intro X hP hw hK hc i az s σ H E I hf st hg;subst hP hw hK;obtain ⟨xs,hq,hx⟩:=hg;obtain ⟨its,rv,p,hz⟩:=I.list hq;obtain ⟨f0,f1,f2,f3,f4,f5⟩:=hf it (by simp);have hl:=rv.length;exact wpAny_pyNext_list_end (I.ok.hd hc) st p.isList (by simp;lia) fun h' eb=>⟨rfl,I.turned (t':=s.toks) (fun b o hb e=>eb b o hb e) f0 f1 f3 f4 f5⟩
 self:=fun _ _ _ _ _ st h=>wpAny_pyIter_listiter st h
theorem turn_range {w:aV}(it:ak)(lo:Int)(n:Nat):Turn P w K tg (Itr lo n) [it] it (fun i h=>IsRangeIter h it (lo+(i:Nat) * 1) ((n:Int) - (i:Nat)) 1) where
 mem:=by simp
 obj:=fun i h st b hb=>by
  have e:b=it:=by simpa using hb
  subst e;exact ⟨_,st,fun v z=>by
   have z':Data.fields _=Data.cell v:=z;cases z'⟩
 keep:=fun i h h' st k=>k it (by simp) _ st
 item:=by
  intro X hP hw hK hc i az s σ H E I hf st hg;subst hP hw hK;obtain ⟨f0,f1,f2,f3,f4,f5⟩:=hf it (by simp);have W:=Walks.range (prog:=X.prog) (w:=X.w) (I.ok.hd hc) it lo 1 n;refine W.item i s _ _ hg st fun v h' tk hv st' kk=>?_
  obtain ⟨t,rfl⟩:=hv;have I1:Inv X az σ H { s with heap:=h',toks:=tk }:=I.turned (fun b o hb e=>kk b o (by simpa using hb) e) f0 f1 f3 f4 f5;refine ⟨_,rfl,go_of (s:={ s with heap:=h',toks:=tk }) (n := "range_iterator") st' rfl rfl (by decide) ⟨.int (lo+i),H,I1,⟨t,?_⟩,⟨rfl,rfl⟩,st',fun b hb=>(hf b hb).1⟩⟩;rw [Int.mul_one]
 done:=by
  intro X hP hw hK hc i az s σ H E I hf st hg;subst hP hw hK;obtain ⟨f0,f1,f2,f3,f4,f5⟩:=hf it (by simp);exact wpAny_pyNext_range_end (I.ok.hd hc) st (by have:n≤i:=hg;lia) fun h' eb=>⟨rfl,I.turned (t':=s.toks) (fun b o hb e=>eb b o hb e) f0 f1 f3 f4 f5⟩
 self:=fun _ _ _ _ _ st h=>wpAny_pyIter_rangeiter st h
def iList (K:ai)(tl:TE):TI:=fun σ H R=>tl σ H fun x H1=>∃ a,x= .ref a∧(∃ xs,SqL K H1 a xs)∧R (Itl K a) H1
theorem ix {l:Expr}{tl:TE}(hl:PE X l tl):PI X tg l (iList X.K tl):=by
 intro az s σ H R I h;refine thn (hl az s σ H _ I h) fun v s1 ⟨x,H1,I1,r1,q1⟩=>?_
 obtain ⟨a,e,⟨xs,hq⟩,q⟩:=q1;subst e;cases r1;obtain ⟨its,rv,p,hz⟩:=I1.list hq;refine eU p.isList ?_;refine ⟨s1.heap.objs.size,[s1.heap.objs.size],_,_,H1,rfl,I1.kept (t':=s1.toks) fun b o e=>aj _ e,turn_list a _,⟨_,aA _ rfl,rfl,rfl⟩,fun b hb=>?_,q⟩;have e:b=s1.heap.objs.size:=by simpa using hb
 subst e;exact I1.fpOk (aH _) (I1.hok.fresh (aH _))
theorem range_it {R:It→Hp→Prop}{hi:Int}{t u v:Tok}{tk:Nat}(I:Inv X az σ H s)(h1: -(2 ^ 62)≤lo)(h2:lo<2 ^ 62)(h3: -(2 ^ 62)≤hi)(h4:hi<2 ^ 62)
  (q:R (Itr lo (hi - lo).toNat) H):aL (aZ X.prog X.w) X.A (pyIter (.ref s.heap.objs.size)) (PIE X az σ tg R) E { s with heap:=s.heap.push { cls:= .type "range",data:= .fields #[.int lo t,.int hi u,.int 1 v] },toks:=tk }:=by
 refine wpAny_pyIter_range (IsRange.new ..) (small_one h1 h2 h3 h4) ?_;have I1:Inv X az σ H { s with heap:=s.heap.push { cls:= .type "range",data:= .fields #[.int lo t,.int hi u,.int 1 v] },toks:=tk }:=I.kept fun b o e=>aj _ e
 refine ⟨(s.heap.push { cls:= .type "range",data:= .fields #[.int lo t,.int hi u,.int 1 v] }).objs.size,[(s.heap.push { cls:= .type "range",data:= .fields #[.int lo t,.int hi u,.int 1 v] }).objs.size],_,_,H,rfl,
  I1.kept (t':=tk) fun b o e=>aj _ e,turn_range _ lo (hi - lo).toNat,?_,fun b hb=>?_,q⟩
 ·have e1:lo+((0:Nat):Int) * 1=lo:=by simp
  have e2:(((hi - lo).toNat:Nat):Int) - ((0:Nat):Int)=dY.Range.rangeSize lo hi 1:=by rw [rangeSize_one];split <;> lia
  show IsRangeIter _ _ (lo+((0:Nat):Int) * 1) ((((hi - lo).toNat:Nat):Int) - ((0:Nat):Int)) 1;rw [e1,e2];exact aA _ rfl
 ·have e:b=(s.heap.push { cls:= .type "range",data:= .fields #[.int lo t,.int hi u,.int 1 v] }).objs.size:=by simpa using hb
  subst e;exact I1.fpOk (aH _) (I1.hok.fresh (aH _))
def iRng1 (ta:TA):TI:=fun σ H R=>ta σ H fun vs H1=>∃ j:Int,vs=[.int j]∧ -(2 ^ 62)≤j∧j<2 ^ 62∧R (Itr 0 j.toNat) H1
def iRng2 (ta:TA):TI:=fun σ H R=>ta σ H fun vs H1=>∃ i j:Int,vs=[.int i,.int j]∧(-(2 ^ 62)≤i∧i<2 ^ 62∧ -(2 ^ 62)≤j∧j<2 ^ 62)∧R (Itr i (j - i).toNat) H1
theorem iF {a:Expr}{ta:TA}{p:Pos}(hg:Gl X "range")(hm:X.mg "range" =none)(ha:PA X [a] ta)(hs:aU [a] X.env=[(false,cN a X.env)]:=by rfl):PI X tg (.Call (.Name "range" p) [a] [] pos) (iRng1 ta):=by
 intro az s σ H R I h;refine Call_ (jP I hg hm boot_range (cE (thn (ha pos az s σ H _ I h) fun us s1 ⟨vs,H1,I1,r1,q1⟩=>?_) hs rfl));obtain ⟨j,e,q1,q2,q⟩:=q1;subst e;cases r1 with
 | cons r rr =>
  cases rr;obtain ⟨t,rfl⟩:=r;exact call_range_1 (range_it I1 (by lia) (by lia) q1 q2 (by simpa using q))
theorem pi_range2 {a b:Expr}{ta:TA}{p:Pos}(hg:Gl X "range")(hm:X.mg "range" =none)(ha:PA X [a,b] ta)(hs:aU [a,b] X.env=[(false,cN a X.env),(false,cN b X.env)]:=by rfl)(hs2:aU [b] X.env=[(false,cN b X.env)]:=by rfl) :
  PI X tg (.Call (.Name "range" p) [a,b] [] pos) (iRng2 ta):=by
 intro az s σ H R I h;refine Call_ (jP I hg hm boot_range (cE (thn (ha pos az s σ H _ I h) fun us s1 ⟨vs,H1,I1,r1,q1⟩=>?_) (by rw [hs,hs2]) (by rw [hs2];rfl)));obtain ⟨i,j,e,⟨q1,q2,q3,q4⟩,q⟩:=q1;subst e;cases r1 with
 | cons r rr =>
  cases rr with
  | cons r' rr =>
   cases rr;obtain ⟨t,rfl⟩:=r;obtain ⟨t',rfl⟩:=r';exact call_range_2 (range_it I1 q1 q2 q3 q4 q)
def tFor (wi:TI)(g:TG)(tb:TS):TS:=fun D σ H=>wi σ H fun J H1=>∃ W:Nat→Nat→St→Hp→Prop,(∃ m,W 0 m σ H1)∧∀ i m σ H,W i m σ H →
 (J.stop i H∧D.nx σ H)∨(J.go i H∧∃ N:St→Hp→Prop,(∀ σ' H',N σ' H'→∃ m',m'<m∧W (i+1) m' σ' H')∧∀ x H',J.yld i H x H'→g x σ H' fun σ2 H2=>tb { D with nx:=N,ct:=N,bk:=D.nx } σ2 H2)
def pinsAt (fp:List ak)(h:bj):List (ak×Obj):=fp.filterMap fun b=>(h.get? b).map fun o=>(b,o)
theorem ji {b:ak}{o:Obj}(hb:b∈fp)(e:h.get? b=some o):(b,o)∈pinsAt fp h:=List.mem_filterMap.mpr ⟨b,hb,by rw [e];rfl⟩
theorem of_pinsAt {p:ak×Obj}(hp:p∈pinsAt fp h):p.1∈fp∧h.get? p.1=some p.2:=by
 obtain ⟨b,hb,e⟩:=List.mem_filterMap.mp hp;cases q:h.get? b with
 | none=>rw [q] at e;cases e
 | some o =>
  rw [q] at e;have e':(b,o)=p:=bx e;subst e';exact ⟨hb,q⟩
theorem Inv.pinned (I:Inv X az σ H s)(hf:∀ b∈fp,FpOk X az H b)(ho:∀ b∈fp,∃ o,s.heap.get? b=some o∧∀ v,o.data≠ .cell v):Inv X (az++pinsAt fp s.heap) σ H s :=
 I.pins_of fun p hp=>(cx.mp hp).elim (fun z=>I.pin p (bF _ z)) fun z=>by
  obtain ⟨hb,e⟩:=of_pinsAt z;obtain ⟨f0,f1,f2,_⟩:=hf p.1 hb;obtain ⟨o,e',d⟩:=ho p.1 hb;rw [e] at e';cases e';exact ⟨e,f0,f1,f2,d⟩
theorem Inv.unpinned {pl:List (ak×Obj)}(I:Inv X (az++pl) σ H s):Inv X az σ H s:=I.pins_of fun p hp=>I.pin p (bF _ (List.mem_append_left _ hp))
theorem iV {wi:TI}{g:TG}{tb:TS}(hp:PassesOwn (aZ X.prog X.w) X.A X.env X.xe)(hc:X.calm=true)(hi:PI X tg iter wi)(hg:PG X tg g)(hb:PSs X body tb)
  (hs:∀ x,eY iter X.env x=fe x:=by intro _;rfl):PS X (.For tg iter body [] pos) (tFor wi g tb):=by
 intro az s σ H D I h;refine wpAny_For (thn (hi az s σ H _ I h) fun v s1 h1=>thn h1 fun itv s2 h2=>?_) hs;obtain ⟨it,fp,tn,J,H2,e,I2,T,st2,f2,W,⟨m0,w0⟩,turn⟩:=h2;subst e;have stat:∀ {H':Hp},(∀ b∈fp,H' b=none)→∀ b∈fp,FpOk X az H' b:=fun hn b hb=>⟨hn b hb,(f2 b hb).2⟩
 refine codeAny_forLoop_any (fun n s'=>∃ i σ' H',Inv X az σ' H' s'∧tn i s'.heap∧(∀ b∈fp,H' b=none)∧W i n σ' H') ?_ m0 ⟨0,σ,H2,I2,st2,fun b hb=>(f2 b hb).1,w0⟩;rintro n s3 ⟨i,σ3,H3,I3,st3,fr3,w3⟩
 rcases turn i n σ3 H3 w3 with ⟨stop,qn⟩ | ⟨go,N,hN,step⟩
 ·refine iE hp (thn (T.done X rfl rfl rfl hc i az s3 σ3 H3 X.xe I3 (stat fr3) st3 stop) fun r s4 ⟨hr,I4⟩=>?_)
  subst hr;exact wpAny_execs_nil ⟨σ3,H3,I4,qn⟩
 ·refine iE hp (thn (T.item X rfl rfl rfl hc i az s3 σ3 H3 X.xe I3 (stat fr3) st3 go) fun r s4 ⟨u,hr,h4⟩=>?_)
  subst hr;refine iE hp (thn h4 fun _ s5 ⟨x,H5,I5,r5,y5,st5,fr5⟩=>?_);have I5':=I5.pinned (stat fr5) (T.obj _ _ st5);refine iE hp (thn (hg _ s5 σ3 H5 x u _ I5' r5 (step x H5 y5)) fun _ s6 ⟨σ6,H6,I6,q6⟩=>?_);refine iE hp (thn (hb _ s6 σ6 H6 _ I6 q6) fun f s7 q7=>?_);have again:∀ {σ7:St} {H7:Hp},Inv X (az++pinsAt fp s5.heap) σ7 H7 s7→N σ7 H7→∃ m,m<n∧∃ i σ' H',Inv X az σ' H' s7∧tn i s7.heap∧(∀ b∈fp,H' b=none)∧W i m σ' H':=fun {σ7 H7} I7 n7=>by
   obtain ⟨m',hm,w7⟩:=hN σ7 H7 n7;refine ⟨m',hm,i+1,σ7,H7,I7.unpinned,T.keep _ _ _ st5 fun b hb o e=>(I7.pin (b,o) (bF _ (bF _ (ji hb e)))).1,fun b hb=>?_,w7⟩;obtain ⟨o,e,d⟩:=T.obj _ _ st5 b hb;exact (I7.pin (b,o) (bF _ (bF _ (ji hb e)))).2.1
  cases f with
  | next=>obtain ⟨σ7,H7,I7,n7⟩:=q7;exact again I7 n7
  | cont=>obtain ⟨σ7,H7,I7,n7⟩:=q7;exact again I7 n7
  | brk=>obtain ⟨σ7,H7,I7,q7⟩:=q7;exact ⟨σ7,H7,I7.unpinned,q7⟩
  | ret v=>obtain ⟨x7,σ7,H7,I7,r7,q7⟩:=q7;exact ⟨x7,σ7,H7,I7.unpinned,r7,q7⟩
theorem for_list {g:TG}{tb:TS}(Pv:Nat→St→Hp→Prop)(h0:Pv 0 σ H)(hl:∀ i σ H,i≤xs.length→Pv i σ H→SqL K H a xs)
  (hs:∀ i x σ H,xs[i]? =some x→Pv i σ H→g x σ H fun σ2 H2=>tb { D with nx:=Pv (i+1),ct:=Pv (i+1),bk:=D.nx } σ2 H2) (hd:∀ σ H,Pv xs.length σ H→D.nx σ H) :
  ∃ W:Nat→Nat→St→Hp→Prop,(∃ m,W 0 m σ H)∧∀ i m σ H,W i m σ H →
   ((Itl K a).stop i H∧D.nx σ H)∨((Itl K a).go i H∧∃ N:St→Hp→Prop,(∀ σ' H',N σ' H'→∃ m',m'<m∧W (i+1) m' σ' H')∧∀ x H',(Itl K a).yld i H x H'→g x σ H' fun σ2 H2=>tb { D with nx:=N,ct:=N,bk:=D.nx } σ2 H2):=by
 refine ⟨fun i m σ H=>m=xs.length - i∧i≤xs.length∧Pv i σ H,⟨xs.length,by simp,cK _,h0⟩,?_⟩;rintro i m σ H ⟨rfl,hi,p⟩;have q:=hl i σ H hi p
 by_cases hlt:i<xs.length
 ·refine .inr ⟨⟨xs,xs[i],q,by simp [hlt]⟩,Pv (i+1),fun σ' H' p'=>⟨xs.length - (i+1),by lia,rfl,hlt,p'⟩,fun x H' y=>?_⟩
  obtain ⟨e,y⟩:=y;subst e;exact hs i x σ _ (y xs q) p
 ·have e:i=xs.length:=by lia
  subst e;exact .inl ⟨⟨xs,q,aH _⟩,hd σ H p⟩
theorem kR {g:TG}{tb:TS}(Pv:Nat→St→Hp→Prop)(h0:Pv 0 σ H)
  (hs:∀ i σ H,i<n→Pv i σ H→g (.int (lo+i)) σ H fun σ2 H2=>tb { D with nx:=Pv (i+1),ct:=Pv (i+1),bk:=D.nx } σ2 H2) (hd:∀ σ H,Pv n σ H→D.nx σ H) :
  ∃ W:Nat→Nat→St→Hp→Prop,(∃ m,W 0 m σ H)∧∀ i m σ H,W i m σ H →
   ((Itr lo n).stop i H∧D.nx σ H)∨((Itr lo n).go i H∧∃ N:St→Hp→Prop,(∀ σ' H',N σ' H'→∃ m',m'<m∧W (i+1) m' σ' H')∧∀ x H',(Itr lo n).yld i H x H'→g x σ H' fun σ2 H2=>tb { D with nx:=N,ct:=N,bk:=D.nx } σ2 H2):=by
 refine ⟨fun i m σ H=>m=n - i∧i≤n∧Pv i σ H,⟨n,by simp,cK _,h0⟩,?_⟩;rintro i m σ H ⟨rfl,hi,p⟩
 by_cases hlt:i<n
 ·refine .inr ⟨hlt,Pv (i+1),fun σ' H' p'=>⟨n - (i+1),by lia,rfl,hlt,p'⟩,fun x H' y=>?_⟩
  obtain ⟨e,y⟩:=y;subst e y;exact hs i σ _ hlt p
 ·have e:i=n:=by lia
  subst e;exact .inl ⟨aH _,hd σ H p⟩
abbrev R2:=V→V→Hp→VK→Prop
def OpR (X:Cx)(f:af→af→Sem af)(r:R2):Prop :=
 ∀ (az:List (ak×Obj)) (s:al) (σ:St) (H:Hp) (x y:V) (v u:af) (Q:VK),Inv X az σ H s→fD x v→fD y u→r x y H Q →
  aL (aZ X.prog X.w) X.A (f v u) (EP X az σ Q) X.xe s
def UnR (X:Cx)(f:af→Sem af)(r:V→Hp→VK→Prop):Prop :=
 ∀ (az:List (ak×Obj)) (s:al) (σ:St) (H:Hp) (x:V) (v:af) (Q:VK),Inv X az σ H s→fD x v→r x H Q →
  aL (aZ X.prog X.w) X.A (f v) (EP X az σ Q) X.xe s
def gF (X:Cx)(f:af)(r:List V→Hp→VK→Prop):Prop :=
 ∀ (az:List (ak×Obj)) (s:al) (σ:St) (H:Hp) (xs:List V) (us:List af) (Q:VK),Inv X az σ H s→eI xs us→r xs H Q →
  aL (aZ X.prog X.w) X.A (call f us) (EP X az σ Q) X.xe s
def tOp (r:R2)(ta tb:TE):TE:=fun σ H Q=>ta σ H fun x H1=>tb σ H1 fun y H2=>r x y H2 Q
def tUn (r:V→Hp→VK→Prop)(ta:TE):TE:=fun σ H Q=>ta σ H fun x H1=>r x H1 Q
inductive rI (C:Int→Int→Prop)(g:Int→Int→V)(x:V)(y:V)(H:Hp)(Q:VK):Prop
 | mk (i j:_)(_:x= .int i)(_:y= .int j)(_:C i j)(_:Q (g i j) H)
inductive rI0 (g:Int→Int→V)(x:V)(y:V)(H:Hp)(Q:VK):Prop
 | mk (i j:_)(_:x= .int i)(_:y= .int j)(_:Q (g i j) H)
inductive rU (g:Int→V)(x:V)(H:Hp)(Q:VK):Prop
 | mk (i:_)(_:x= .int i)(_:Q (g i) H)
section
variable {a b c:Expr}{tb tc:TE}
theorem binT (ha:PE X a ta)(hb:PE X b tb){R:V→V→Hp→Prop}(I:Inv X az σ H s)
  (h:ta σ H fun x H1=>tb σ H1 fun y H2=>R x y H2) {f:af→af→Sem af}
  (hf:∀ v u s2 x y H2,Inv X az σ H2 s2→fD x v→fD y u→R x y H2→aL (aZ X.prog X.w) X.A (f v u) Q X.xe s2) :
  aL (aZ X.prog X.w) X.A (cN a X.env) (fun v s₁=>aL (aZ X.prog X.w) X.A (cN b X.env) (fun u s₂=>aL (aZ X.prog X.w) X.A (f v u) Q X.xe s₂) X.xe s₁) X.xe s:=by
 refine thn (ha az s σ H _ I h) fun v s1 ⟨x,H1,I1,r1,q1⟩=>?_
 refine thn (hb az s1 σ H1 _ I1 q1) fun u s2 ⟨y,H2,I2,r2,q2⟩=>?_
 exact hf v u s2 x y H2 I2 r1 r2 q2
theorem cn {op:Operator}{r:R2}(ho:OpR X (eZ op) r)(ha:PE X a ta)(hb:PE X b tb):PE X (.BinOp a op b pos) (tOp r ta tb):=by
 intro az s σ H Q I h;exact wpAny_BinOp (binT ha hb I h fun v u s2 x y H2 I2 rx ry q=>ho az s2 σ H2 x y v u Q I2 rx ry q)
theorem pe_un {op:UnaryOp}{r:V→Hp→VK→Prop}(ho:UnR X (unaryOp op) r)(ha:PE X a ta):PE X (.UnaryOp op a pos) (tUn r ta):=by
 intro az s σ H Q I h;exact UnaryOp_ (thn (ha az s σ H _ I h) fun v s1 ⟨x,H1,I1,r1,q1⟩=>ho az s1 σ H1 x v Q I1 r1 q1)
theorem opI {f:af→af→Sem af}{C:Int→Int→Prop}{g:Int→Int→Int}
  (rule:∀ (i j:Int) (t u:Tok) (s:al) (Q:af→al→Prop) (E:af→al→Prop),C i j→Q (.int (g i j) s.toks) { s with toks:=s.toks+1 }→aL (aZ X.prog X.w) X.A (f (.int i t) (.int j u)) Q E s) :
  OpR X f (rI C fun i j=> .int (g i j)):=by
 intro az s σ H x y v u Q I rx ry h;obtain ⟨i,j,rfl,rfl,hc,q⟩:=h;obtain ⟨t,rfl⟩:=rx;obtain ⟨t',rfl⟩:=ry;exact rule i j t t' s _ _ hc ⟨.int (g i j),H,I.tok _,⟨_,rfl⟩,q⟩
theorem opI0 {f:af→af→Sem af}{g:Int→Int→Int}
  (rule:∀ (i j:Int) (t u:Tok) (s:al) (Q:af→al→Prop) (E:af→al→Prop),Q (.int (g i j) s.toks) { s with toks:=s.toks+1 }→aL (aZ X.prog X.w) X.A (f (.int i t) (.int j u)) Q E s) :
  OpR X f (rI0 fun i j=> .int (g i j)):=by
 intro az s σ H x y v u Q I rx ry h;obtain ⟨i,j,rfl,rfl,q⟩:=h;obtain ⟨t,rfl⟩:=rx;obtain ⟨t',rfl⟩:=ry;exact rule i j t t' s _ _ ⟨.int (g i j),H,I.tok _,⟨_,rfl⟩,q⟩
theorem opB0 {f:af→af→Sem af}{g:Int→Int→Bool}
  (rule:∀ (i j:Int) (t u:Tok) (s:al) (Q:af→al→Prop) (E:af→al→Prop),Q (.bool (g i j)) s→aL (aZ X.prog X.w) X.A (f (.int i t) (.int j u)) Q E s) :
  OpR X f (rI0 fun i j=> .bl (g i j)):=by
 intro az s σ H x y v u Q I rx ry h;obtain ⟨i,j,rfl,rfl,q⟩:=h;obtain ⟨t,rfl⟩:=rx;obtain ⟨t',rfl⟩:=ry;exact rule i j t t' s _ _ ⟨.bl (g i j),H,I,rfl,q⟩
def CDiv (i j:Int):Prop:=0<j∧j<1073741824
def CPow (i j:Int):Prop:=0≤j∧j≤1000000∧i.natAbs<2 ^ 64
def CMul (i j:Int):Prop:=(-(2 ^ 64)<i∧i<2 ^ 64)∨(-(2 ^ 64)<j∧j<2 ^ 64)
theorem CMul.ok {j:Int}(h:CMul i j):IntMulOk i j:=by
 rcases h with ⟨h1,h2⟩ | ⟨h1,h2⟩
 ·exact .of_left (intBits_le_64 h1 h2)
 ·exact .of_right (intBits_le_64 h1 h2)
theorem eN:OpR X (eZ .Add) (rI0 fun i j=> .int (i+j)):=opI0 fun _ _ _ _ _ _ _ q=>add_int q
theorem eM:OpR X (eZ .Sub) (rI0 fun i j=> .int (i - j)):=opI0 fun _ _ _ _ _ _ _ q=>sub_int q
theorem iG:OpR X (eZ .Mult) (rI CMul fun i j=> .int (i * j)):=opI fun _ _ _ _ _ _ _ hc q=>mul_int q hc.ok
theorem op_fdiv:OpR X (eZ .FloorDiv) (rI CDiv fun i j=> .int (i / j)):=opI fun i j _ _ _ _ _ hc q=>by
 have h1:(0:Int)<j:=hc.1;have h2:j<1073741824:=hc.2;exact floordiv_int (by lia) (by rw [Int.fdiv_eq_ediv_of_nonneg i (by lia)];exact q) (.inl (PyProof.noPylong_small (by lia)))
theorem iH:OpR X (eZ .Mod) (rI (fun _ j=>0<j) fun i j=> .int (i % j)):=opI fun i j _ _ _ _ _ hc q=>by
 have h1:(0:Int)<j:=hc;exact mod_int' (by lia) (by rw [Int.fmod_eq_emod_of_nonneg i (by lia)];exact q)
theorem op_pow:OpR X (eZ .Pow) (rI CPow fun i j=> .int (i ^ j.toNat)):=opI fun _ _ _ _ _ _ _ hc q=>pow_int_small hc.1 hc.2.1 hc.2.2 q
theorem unI {f:af→Sem af}{g:Int→Int}
  (rule:∀ (i:Int) (t:Tok) (s:al) (Q:af→al→Prop) (E:af→al→Prop),Q (.int (g i) s.toks) { s with toks:=s.toks+1 }→aL (aZ X.prog X.w) X.A (f (.int i t)) Q E s) :
  UnR X f (rU fun i=> .int (g i)):=by
 intro az s σ H x v Q I rx h;obtain ⟨i,rfl,q⟩:=h;obtain ⟨t,rfl⟩:=rx;exact rule i t s _ _ ⟨.int (g i),H,I.tok _,⟨_,rfl⟩,q⟩
theorem un_neg:UnR X (unaryOp .USub) (rU fun i=> .int (-i)):=unI fun _ _ _ _ _ q=>neg_int q
end
def scal:V→V→Bool
 | .non,.non=>true | .non,.int _=>true | .int _,.non=>true | .non,.bl _=>true | .bl _,.non=>true | .non,.str _=>true | .str _,.non=>true
 | .int _,.int _=>true | .bl _,.bl _=>true | .str _,.str _=>true | .byt _,.byt _=>true
 | .int _,.str _=>true | .str _,.int _=>true | .bl _,.str _=>true | .str _,.bl _=>true
 | _,_=>false
def rEq:R2:=fun x y H Q=>scal x y=true∧Q (.bl (decide (x=y))) H
def rNe:R2:=fun x y H Q=>scal x y=true∧Q (.bl (!decide (x=y))) H
theorem dec_int {j:Int}:decide (V.int i=V.int j)=(i == j):=by
 rw [ia];simp
theorem dec_bl {i j:Bool}:decide (V.bl i=V.bl j)=(i == j):=by
 rw [ia];simp
theorem dec_str {i j:Str}:decide (V.str i=V.str j)=(i == j):=by
 rw [ia];simp
theorem dec_byt {i j:Array UInt8}:decide (V.byt i=V.byt j)=(i.toList == j.toList):=by
 rw [ia];cases i;cases j;simp
section
variable {a b c:Expr}{tb tc:TE}
theorem dC {Q:VK}{k k':Bool}(I:Inv X az σ H s)(q:Q (.bl k) H)(e:k=k'):EP X az σ Q (.bool k') s:=by
 subst e;exact ⟨.bl k,H,I,rfl,q⟩
theorem jC:OpR X (eG .Eq) rEq:=by
 intro az s σ H x y v u Q I rx ry h;obtain ⟨hs,q⟩:=h;cases x with
 | non =>
  cases rx;cases y with
  | non=>cases ry;exact PySem.EqNone.eq_none_none (dC I q (by simp))
  | bl j=>cases ry;exact PySem.EqNone.eq_none_bool (dC I q (by simp))
  | int j=>obtain ⟨t',rfl⟩:=ry;exact PySem.EqNone.eq_none_int (dC I q (by simp))
  | str j=>obtain ⟨t',rfl⟩:=ry;exact PySem.EqNone.eq_none_str (dC I q (by simp))
  | _=>exact lK (show false=true from hs) aQ
 | bl i =>
  cases rx;cases y with
  | non=>cases ry;exact PySem.EqNone.eq_bool_none (dC I q (by simp))
  | bl j=>cases ry;exact eq_bool (dC I q dec_bl)
  | str j=>obtain ⟨t',rfl⟩:=ry;exact PySem.EqMixed.eq_bool_str (dC I q (by simp))
  | _=>exact lK (show false=true from hs) aQ
 | int i =>
  obtain ⟨t,rfl⟩:=rx;cases y with
  | non=>cases ry;exact PySem.EqNone.eq_int_none (dC I q (by simp))
  | int j=>obtain ⟨t',rfl⟩:=ry;exact eq_int (dC I q dec_int)
  | str j=>obtain ⟨t',rfl⟩:=ry;exact PySem.EqMixed.eq_int_str (dC I q (by simp))
  | _=>exact lK (show false=true from hs) aQ
 | str i =>
  obtain ⟨t,rfl⟩:=rx;cases y with
  | non=>cases ry;exact PySem.EqNone.eq_str_none (dC I q (by simp))
  | bl j=>cases ry;exact PySem.EqMixed.eq_str_bool (dC I q (by simp))
  | int j=>obtain ⟨t',rfl⟩:=ry;exact PySem.EqMixed.eq_str_int (dC I q (by simp))
  | str j=>obtain ⟨t',rfl⟩:=ry;exact eq_str (dC I q dec_str)
  | _=>exact lK (show false=true from hs) aQ
 | byt i =>
  obtain ⟨t,rfl⟩:=rx;cases y with
  | byt j=>obtain ⟨t',rfl⟩:=ry;exact PySem.W.eq_bytes (dC I q dec_byt)
  | _=>exact lK (show false=true from hs) aQ
 | _=>cases y <;> exact lK (show false=true from hs) aQ
theorem op_ne:OpR X (eG .NotEq) rNe:=by
 intro az s σ H x y v u Q I rx ry h;obtain ⟨hs,q⟩:=h;cases x with
 | non =>
  cases rx;cases y with
  | non=>cases ry;exact PySem.EqNone.ne_none_none (dC I q (by simp))
  | bl j=>cases ry;exact PySem.EqNone.ne_none_bool (dC I q (by simp))
  | int j=>obtain ⟨t',rfl⟩:=ry;exact PySem.EqNone.ne_none_int (dC I q (by simp))
  | str j=>obtain ⟨t',rfl⟩:=ry;exact PySem.EqNone.ne_none_str (dC I q (by simp))
  | _=>exact lK (show false=true from hs) aQ
 | bl i =>
  cases rx;cases y with
  | non=>cases ry;exact PySem.EqNone.ne_bool_none (dC I q (by simp))
  | bl j=>cases ry;exact ne_bool (dC I q (lO not dec_bl))
  | str j=>obtain ⟨t',rfl⟩:=ry;exact PySem.EqMixed.ne_bool_str (dC I q (by simp))
  | _=>exact lK (show false=true from hs) aQ
 | int i =>
  obtain ⟨t,rfl⟩:=rx;cases y with
  | non=>cases ry;exact PySem.EqNone.ne_int_none (dC I q (by simp))
  | int j=>obtain ⟨t',rfl⟩:=ry;exact ne_int (dC I q (lO not dec_int))
  | str j=>obtain ⟨t',rfl⟩:=ry;exact PySem.EqMixed.ne_int_str (dC I q (by simp))
  | _=>exact lK (show false=true from hs) aQ
 | str i =>
  obtain ⟨t,rfl⟩:=rx;cases y with
  | non=>cases ry;exact PySem.EqNone.ne_str_none (dC I q (by simp))
  | bl j=>cases ry;exact PySem.EqMixed.ne_str_bool (dC I q (by simp))
  | int j=>obtain ⟨t',rfl⟩:=ry;exact PySem.EqMixed.ne_str_int (dC I q (by simp))
  | str j=>obtain ⟨t',rfl⟩:=ry;exact ne_str (dC I q (lO not dec_str))
  | _=>exact lK (show false=true from hs) aQ
 | byt i =>
  obtain ⟨t,rfl⟩:=rx;cases y with
  | byt j=>obtain ⟨t',rfl⟩:=ry;exact PySem.W.ne_bytes (dC I q (lO not dec_byt))
  | _=>exact lK (show false=true from hs) aQ
 | _=>cases y <;> exact lK (show false=true from hs) aQ
theorem op_lt:OpR X (eG .Lt) (rI0 fun i j=> .bl (decide (i<j))):=opB0 fun _ _ _ _ _ _ _ q=>lt_int q
theorem op_le:OpR X (eG .LtE) (rI0 fun i j=> .bl (decide (i≤j))):=opB0 fun _ _ _ _ _ _ _ q=>le_int q
theorem op_gt:OpR X (eG .Gt) (rI0 fun i j=> .bl (decide (j<i))):=opB0 fun _ _ _ _ _ _ _ q=>gt_int q
theorem op_ge:OpR X (eG .GtE) (rI0 fun i j=> .bl (decide (j≤i))):=opB0 fun _ _ _ _ _ _ _ q=>ge_int q
theorem op_in_str:OpR X (eG .In) (fun x y H Q=>∃ i j,x= .str i∧y= .str j∧Q (.bl (!(bM j i 0 j.length 1).isEmpty)) H):=by
 intro az s σ H x y v u Q I rx ry h;obtain ⟨i,j,rfl,rfl,q⟩:=h;obtain ⟨t,rfl⟩:=rx;obtain ⟨t',rfl⟩:=ry;exact in_str (dC I q rfl)
theorem op_isN:OpR X (eG .Is) (fun x y H Q=>y= .non∧Q (.bl (decide (x= .non))) H):=by
 intro az s σ H x y v u Q I rx ry h;obtain ⟨rfl,q⟩:=h;cases ry;refine is_none_gen (dC I q ?_);cases x <;> first
  | (cases rx;rfl)
  | (obtain ⟨t,rfl⟩:=rx;rfl)
theorem cP (b:Expr)(h:op≠ .In:=by decide)(h2:op≠ .NotIn:=by decide):behindInMarks op b=false:=by
 have e1:(op == CmpOp.In)=false:=by cases op <;> first | rfl | exact lK rfl h
 have e2:(op == CmpOp.NotIn)=false:=by cases op <;> first | rfl | exact lK rfl h2
 cases b <;> simp [behindInMarks,e1,e2]
theorem jb {r:R2}(ho:OpR X (eG op) r)(ha:PE X a ta)(hb:PE X b tb)(hm:behindInMarks op b=false):PE X (.Compare a [op] [b] pos) (tOp r ta tb):=by
 intro az s σ H Q I h;exact wpAny_Compare1 (binT ha hb I h fun v u s2 x y H2 I2 rx ry q=>ho az s2 σ H2 x y v u Q I2 rx ry q) hm
def tTest (t:TE):TT:=fun σ H Q=>t σ H fun x H'=>IsBl x fun k=>Q k H'
theorem cD {r:R2}(ho:OpR X (eG op) r)(ha:PE X a ta)(hb:PE X b tb)(hm:behindInMarks op b=false):PT X (.Compare a [op] [b] pos) (tTest (tOp r ta tb)):=by
 intro az s σ H Q I h;refine wpAny_isTrue_Compare1 (thn (ha az s σ H _ I h) fun v s1 ⟨x,H1,I1,r1,q1⟩=>thn (hb az s1 σ H1 _ I1 q1) fun u s2 ⟨y,H2,I2,r2,q2⟩ =>
  thn (ho az s2 σ H2 x y v u _ I2 r1 r2 q2) fun c s3 ⟨z,H3,I3,r3,k,e,q3⟩=>?_) hm
 subst e;cases r3;exact eT ⟨H3,I3,q3⟩
def tChain (r r':R2)(ta tb tc:TE):TE:=fun σ H Q=>ta σ H fun x H1=>tb σ H1 fun y H2=>r x y H2 fun z H3=>∃ k,z= .bl k ∧
 (if k=true then tc σ H3 fun w' H4=>r' y w' H4 Q else Q (.bl false) H3)
theorem pe_chain {op':CmpOp}{r r':R2}(ho:OpR X (eG op) r)(ho':OpR X (eG op') r')(ha:PE X a ta)(hb:PE X b tb)(hc:PE X c tc)
  (hm:lastMarks [op,op'] [b,c]=false:=by with_unfolding_all rfl):PE X (.Compare a [op,op'] [b,c] pos) (tChain r r' ta tb tc):=by
 intro az s σ H Q I h;refine Compare_chain (thn (ha az s σ H _ I h) fun v s1 ⟨x,H1,I1,r1,q1⟩=>chain_link (thn (hb az s1 σ H1 _ I1 q1) fun u s2 ⟨y,H2,I2,r2,q2⟩ =>
  thn (ho az s2 σ H2 x y v u _ I2 r1 r2 q2) fun d s3 ⟨z,H3,I3,r3,k,e,q3⟩=>?_)) hm
 subst e;cases r3;refine eT ?_;cases k with
 | false=>exact ite_ff ⟨.bl false,H3,I3,rfl,q3⟩
 | true=>exact ite_tt (chain_last (thn (hc az s3 σ H3 _ I3 q3) fun w' s4 ⟨z',H4,I4,r4,q4⟩=>ho' az s4 σ H4 y z' u w' Q I4 r2 r4 q4))
theorem lB:(ar:Nat)<2 ^ 63:=by rw [sizeLine_eq];decide
theorem op_add_str:OpR X (eZ .Add) (fun x y H Q=>∃ i j,x= .str i∧y= .str j∧i.length+j.length≤ar∧Q (.str (i++j)) H):=by
 intro az s σ H x y v u Q I rx ry h;obtain ⟨i,j,rfl,rfl,hz,q⟩:=h;obtain ⟨t,rfl⟩:=rx;obtain ⟨t',rfl⟩:=ry;exact add_str (fun t' tk=>⟨.str (i++j),H,I.tok _,⟨_,rfl⟩,q⟩) hz
theorem jA {x:V}(r:eI [x] us):∃ u,us=[u]∧fD x u:=by
 cases r with
 | cons r1 r2=>cases r2;exact ⟨_,rfl,r1⟩
theorem vals2 {x:V}(r:eI [x,y] us):∃ u w',us=[u,w']∧fD x u∧fD y w':=by
 cases r with
 | cons r1 r2 =>
  cases r2 with
  | cons r3 r4=>cases r4;exact ⟨_,_,rfl,r1,r3⟩
theorem call_max2 (hc:X.calm=true):gF X (.builtin "max") (fun xs H Q=>∃ i j,xs=[.int i,.int j]∧Q (.int (if j > i then j else i)) H):=by
 intro az s σ H xs us Q I r h;obtain ⟨i,j,rfl,q⟩:=h;obtain ⟨u,w',rfl,⟨t,rfl⟩,⟨t',rfl⟩⟩:=vals2 r;refine max_two_ints (I.ok.hd hc) fun h' tk k=>⟨_,H,I.kept k,?_,q⟩
 by_cases hj:j > i
 ·rw [lJ hj,lJ hj];exact ⟨_,rfl⟩
 ·rw [lI hj,lI hj];exact ⟨_,rfl⟩
theorem kX (hc:X.calm=true):gF X (.builtin "min") (fun xs H Q=>∃ i j,xs=[.int i,.int j]∧Q (.int (if j<i then j else i)) H):=by
 intro az s σ H xs us Q I r h;obtain ⟨i,j,rfl,q⟩:=h;obtain ⟨u,w',rfl,⟨t,rfl⟩,⟨t',rfl⟩⟩:=vals2 r;refine min_two_ints (I.ok.hd hc) fun h' tk k=>⟨_,H,I.kept k,?_,q⟩
 by_cases hj:j<i
 ·rw [lJ hj,lJ hj];exact ⟨_,rfl⟩
 ·rw [lI hj,lI hj];exact ⟨_,rfl⟩
theorem kY:gF X (.type "int") (fun xs H Q=>(∃ i,xs=[.int i]∧Q (.int i) H)∨∃ k,xs=[.bl k]∧Q (.int (if k then 1 else 0)) H):=by
 intro az s σ H xs us Q I r h
 rcases h with ⟨i,rfl,q⟩ | ⟨k,rfl,q⟩
 ·obtain ⟨u,rfl,t,rfl⟩:=jA r
  exact call_int_int ⟨.int i,H,I,⟨_,rfl⟩,q⟩
 ·obtain ⟨u,rfl,r1⟩:=jA r
  cases r1;exact call_int_bool ⟨.int (if k then 1 else 0),H,I.tok _,⟨_,rfl⟩,q⟩
theorem j8:gF X (.type "str") (fun xs H Q=>∃ i,xs=[.int i]∧i.natAbs.log2<1920∧Q (.str (toString i)) H):=by
 intro az s σ H xs us Q I r h;obtain ⟨i,rfl,hz,q⟩:=h;obtain ⟨u,rfl,t,rfl⟩:=jA r;exact PySem.P.str_of_int hz ⟨.str _,H,I.tok _,⟨_,rfl⟩,q⟩
end
structure ObjM (h:bj)(x dx C:ak)(mA:Str→Option af):Prop where
 obj:h.get? x=some (eF C dx)
 ns:h.Ns1 dx mA
 ne:dx≠x
theorem lookIn_ns (n:h.Ns1 dx mA):∃ od,h.get? dx=some od∧∀ name,PySem.W.lookIn name od=some (mA name):=by
 obtain ⟨o,es,ep,ho,hd,hk,_,hm⟩:=n;refine ⟨o,ho,fun name=>?_⟩;have e:=hm name;unfold nsFind findBy at e;rw [←Array.find?_toList] at e;unfold PySem.W.lookIn;rw [hd]
 dsimp only
 split
 ·rename_i y q
  rw [q] at e;exact lO some e
 ·rename_i q
  rw [q] at e;have a:es.toList.any (·.refKey)=false:=by
   rw [List.any_eq_false];intro y hy;obtain ⟨z,t,hkey⟩:=hk y (Array.mem_toList_iff.mp hy);simp [DictEntry.refKey,hkey]
  have a':¬ es.toList.any (·.refKey)=true:=by rw [a];exact aQ
  rw [lI a'];exact lO some e
theorem ObjM.look {x:ak}(I:ObjM h x dx C mA):∃ od,PySem.W.InstAt h x (eF C dx) C (some od)∧∀ name,PySem.W.lookIn name od=some (mA name) :=
 let ⟨od,ho,hl⟩:=lookIn_ns I.ns
 ⟨od,⟨I.obj,rfl,rfl,ho⟩,hl⟩
section
variable {w:aV}{x:ak}{v:af}
theorem get_map {expr:Bool}(X:K.In s.heap)(I:ObjM s.heap x dx C mA)(hg:fS K C name=true)(hh:gz K C=true)
  (ha:bw K (.ref C) name=some none) (hv:mA name=some v) (hv':PySem.W.handedIn v=true) (h:Q v { s with toks:=s.toks+1 }) :
  aL (aZ prog w) A (getAttr (.ref x) name expr) Q E s:=by
 obtain ⟨od,J,hl⟩:=I.look;exact PySem.W.get_value X J (PySem.W.plainGet_of hg).1 (PySem.W.findObj_own hh ha rfl (by rw [hl,hv])) hv' h
theorem get_meth {pl:Sem Bool}{Q:af×List af→al→Prop}(X:K.In s.heap)(I:ObjM s.heap x dx C mA)(hg:fS K C name=true)
  (hf:bw K (.ref C) name=some (some (.ref f))) (ht:PySem.W.isFn K (.ref f)=true) (hv:mA name=none) (h:Q (.ref f,[.ref x]) s) :
  aL (aZ prog w) A (getMethod (.ref x) name pl) Q E s:=by
 obtain ⟨od,J,hl⟩:=I.look;exact PySem.W.method_fn X J (PySem.W.plainGet_of hg).1 (PySem.W.plainGet_of hg).2 hf (beq_iff_eq.mp ht) (by show (PySem.W.lookIn name od).map (·.isSome)=some false;rw [hl,hv];rfl) h
theorem set_map {Q:Unit→al→Prop}(X:K.In s.heap)(I:ObjM s.heap x dx C mA)
  (hs:bw K (.ref C) "__setattr__" =some (some (.builtin "object.__setattr__"))) (hp:PySem.W.plainOver K C=true) (ht:PySem.W.takerIn K C name=some none) (hh:gz K C=true)
  (hw:PySem.Within mA ns) (hsz:ns.length≤ar)
  (h:∀ h',ObjM h' x dx C (fun y=>if y=name then some v else mA y)→bo dx s.heap h'→Q () { s with heap:=h',toks:=s.toks+2 }) :
  aL (aZ prog w) A (setAttr (.ref x) name v) Q E s:=by
 obtain ⟨od,J,hl⟩:=I.look;refine PySem.W.set_plain X J hs (PySem.W.osa_open (s:={ s with toks:=s.toks+1 }) (r:=none) X J hp ht fun b=>?_);obtain ⟨cd,hc,hd'⟩:=PySem.W.any_some hh;have hx:s.heap.get? x=some ⟨.ref C,some dx,.plain,#[]⟩:=I.obj;refine ag (ax (ag (ag (wpAny_loadPart hx (ag (PySem.W.Looks.here (s:={ s with toks:=s.toks+1 }) (PySem.W.looks_clsIn X hc) ?_))))));rw [hd'];refine ax (a:=some dx) (ag (ax (ag ?_)));refine wpAny_nsSet1 (s:={ s with toks:=s.toks+1 }) I.ns fun h' hn2 hs2=>?_
 obtain ⟨oD,esD,epD,hoD,hdD,hcD⟩:=hn2.count (PySem.Within.cons name v hw);refine ag (wpAny_lookBehind hoD (by rw [hdD];exact pastItsLine_dict (bQ hcD (by rw [aP];lia))) ?_);exact ax (h _ ⟨(hs2.2 _ (cf I.ne)).trans I.obj,hn2,I.ne⟩ hs2)
theorem make_map (X:K.In s.heap)(hm:PySem.W.makesIn K C=true)
  (hi:bw K (.ref C) "__init__" =some (some (.ref f))) (hf:PySem.W.typeIn K (.ref f)=some (.type "function"))
  (h:codeAny (aZ prog w) (A.under (.builtin "type.__call__" ⟨.ref C::vs,kw⟩)) (.call (.ref f) ⟨.ref (s.heap.objs.size+1)::vs,kw⟩) (PySem.W.InitBack (s.heap.objs.size+1) R)
   {s with heap:=(s.heap.push c7).push (eF C s.heap.objs.size) }) :
  codeAny (aZ prog w) A (.call (.ref C) ⟨vs,kw⟩) R s:=by
 obtain ⟨hh,g,d,t,os⟩:=s;exact PySem.W.make_core (PySem.W.makes_of X hm) (PySem.W.looks_findIn X hi) (fun self=>PySem.W.bind_fn X self hf) (.inl rfl) h
end
def putF (f:Str)(v:V):List (Str×V)→List (Str×V)
 | []=>[(f,v)]
 | (g,x)::r=>if g=f then (g,v)::r else (g,x)::putF f v r
theorem kL (f g:Str)(v:V):∀ fs:List (Str×V),(putF f v fs).lookup g=if g=f then some v else fs.lookup g
 | []=>by
  show dv g [(f,v)]=_
  by_cases h:g=f
  ·have hb:(g == f)=true:=beq_iff_eq.mpr h
   simp only [dv,hb,lJ h]
  ·have hb:(g == f)=false:=beq_eq_false_iff_ne.mpr h
   simp only [dv,hb,lI h]
 | (k,x)::r=>by
  have ih:=kL f g v r;rw [show putF f v ((k,x)::r)=(if k=f then (k,v)::r else (k,x)::putF f v r) from rfl]
  by_cases hk:k=f
  ·rw [lJ hk]
   by_cases h:g=k
   ·have hb:(g == k)=true:=beq_iff_eq.mpr h
    simp only [dv,hb,lJ (h.trans hk)]
   ·have hb:(g == k)=false:=beq_eq_false_iff_ne.mpr h
    simp only [dv,hb,lI (fun e:g=f=>h (e.trans hk.symm))]
  ·rw [lI hk]
   by_cases h:g=k
   ·have hb:(g == k)=true:=beq_iff_eq.mpr h
    simp only [dv,hb,lI (fun e:g=f=>hk (h.symm.trans e))]
   ·have hb:(g == k)=false:=beq_eq_false_iff_ne.mpr h
    simp only [dv,hb];exact ih
theorem kP (f:Str)(v:V):∀ fs:List (Str×V),f∈(putF f v fs).map (·.1)∧∀ g,g∈fs.map (·.1)→g∈(putF f v fs).map (·.1)
 | []=>⟨by simp [putF],fun g h=>by simp at h⟩
 | (k,x)::r=>by
  obtain ⟨i1,i2⟩:=kP f v r;rw [show putF f v ((k,x)::r)=(if k=f then (k,v)::r else (k,x)::putF f v r) from rfl]
  by_cases hk:k=f
  ·rw [lJ hk]
   subst hk;exact ⟨by simp,fun g h=>by simpa using h⟩
  ·rw [lI hk]
   refine ⟨?_,fun g h=>?_⟩
   ·rw [bJ]
    exact aS _ i1
   ·rw [bJ] at h ⊢
    rcases aq.mp h with e | e
    ·exact aq.mpr (.inl e)
    ·exact aS _ (i2 g e)
theorem kO (f:Str)(v:V):∀ fs:List (Str×V),(putF f v fs).length≤fs.length+1
 | []=>by simp [putF]
 | (k,x)::r=>by
  have ih:=kO f v r;rw [show putF f v ((k,x)::r)=(if k=f then (k,v)::r else (k,x)::putF f v r) from rfl]
  by_cases hk:k=f
  ·rw [lJ hk,aP,aP];lia
  ·rw [lI hk,aP,aP];lia
theorem RelO.some_of {o:Option af}(r:RelO (some v) o):∃ u,o=some u∧fD v u:=by
 cases o with
 | none=>exact (show False from r).elim
 | some u=>exact ⟨u,rfl,r⟩
theorem RelO.none_of {o:Option af}(r:RelO none o):o=none:=by
 cases o with
 | none=>rfl
 | some u=>exact (show False from r).elim
theorem handed_of (r:fD v u):PySem.W.handedIn u=true:=by
 cases v with
 | non=>cases (show u=af.none from r);rfl
 | bl b=>cases (show u=af.bool b from r);rfl
 | int i=>obtain ⟨t,e⟩:=(show ∃ t,u=af.int i t from r);cases e;rfl
 | str x=>obtain ⟨t,e⟩:=(show ∃ t,u=af.str x t from r);cases e;rfl
 | byt b=>obtain ⟨t,e⟩:=(show ∃ t,u=af.bytes b t from r);cases e;rfl
 | flt b=>obtain ⟨t,e⟩:=(show ∃ t,u=af.float b t from r);cases e;rfl
 | ref a=>cases (show u=af.ref a from r);rfl
 | ty n=>cases (show u=af.type n from r);rfl
section
variable {w:aV}{fs fs':List (Str×V)}
theorem ins_get (hok:HOk P w H h)(e:H a=some (.ins C dx fs)):∃ mA,ObjM h a dx C mA∧(∀ f,RelO (fs.lookup f) (mA f))∧PySem.Within mA (fs.map (·.1))∧fs.length≤1000∧H dx=some (.own a):=by
 obtain ⟨d,z,ne,ob,mA,n,r,q⟩:=(show fU P w H h a (.ins C dx fs) from hok a _ e);exact ⟨mA,⟨ob,n,ne⟩,r,q,z,d⟩
end
structure Cls (K:ai)(C:ak):Prop where
 pg:fS K C du=true
 hd:gz K C=true
 po:PySem.W.plainOver K C=true
 sa:bw K (.ref C) "__setattr__" =some (some (.builtin "object.__setattr__"))
theorem Cls.get (c:Cls K C)(f:Str):fS K C f=true:=c.pg
def ir (K:ai)(C:ak)(f:Str):Prop:=bw K (.ref C) f=some none
theorem ir.taker {f:Str}(n:ir K C f):PySem.W.takerIn K C f=some none:=by
 unfold PySem.W.takerIn;rw [show bw K (.ref C) f=some none from n];rfl
structure lG (K:ai)(C:ak)(m:Str)(f:ak):Prop where
 at_:bw K (.ref C) m=some (some (.ref f))
 fn:PySem.W.isFn K (.ref f)=true
 kp:c6 K (.ref f)=true
section
variable {fs:List (Str×V)}{f:Str}
theorem getattr_ok {b:Bool}(I:Inv X az σ H s)(e:H a=some (.ins C dx fs))(c:Cls X.K C)(n:ir X.K C f)(l:fs.lookup f=some v)
  (h:∀ u s',Inv X az σ H s'→fD v u→Q u s'):aL (aZ X.prog X.w) A (getAttr (.ref a) f b) Q E s:=by
 obtain ⟨mA,O,r,_,_,_⟩:=ins_get I.hok e;obtain ⟨u,hu,ru⟩:=RelO.some_of (v:=v) (o:=mA f) (by rw [←l];exact r f);exact get_map I.kIn O (c.get f) c.hd n hu (handed_of ru) (h u _ (I.tok _) ru)
theorem lE {m:Str}{g:ak}{pl:Sem Bool}{Q:af×List af→al→Prop}(I:Inv X az σ H s)(e:H a=some (.ins C dx fs))(c:Cls X.K C)(k:lG X.K C m g)(l:fs.lookup m=none)
  (h:Q (.ref g,[.ref a]) s):aL (aZ X.prog X.w) A (getMethod (.ref a) m pl) Q E s:=by
 obtain ⟨mA,O,r,_,_,_⟩:=ins_get I.hok e;have hn:mA m=none:=RelO.none_of (by rw [←l];exact r m);exact get_meth I.kIn O (c.get m) k.at_ k.fn hn h
theorem setattr_ok {Q:Unit→al→Prop}(I:Inv X az σ H s)(e:H a=some (.ins C dx fs))(c:Cls X.K C)(n:ir X.K C f)(hl:fs.length<1000)(ry:fD y u)
  (h:∀ s',Inv X az σ (upd H a (.ins C dx (putF f y fs))) s'→Q () s'):aL (aZ X.prog X.w) A (setAttr (.ref a) f u) Q E s:=by
 obtain ⟨mA,O,r,wi,_,ho⟩:=ins_get I.hok e;have hz:(fs.map (·.1)).length≤ar:=by rw [ae,sizeLine_eq];lia
 refine set_map I.kIn O c.sa c.po n.taker c.hd wi hz fun h' O' sb=>h _ ?_
 have hd:∃ o,h'.get? dx=some o:=let ⟨o,_,_,e',_⟩:=O'.ns;⟨o,e'⟩;refine I.write (x:=a) (e:=dx) (by rw [e];exact True.intro) (.inr ho) (fun b q hb z=>(sb.2 b hb).trans z) hd ?_;refine ⟨by rw [aR O.ne];exact ho,?_,O.ne,O'.obj,_,O'.ns,fun g=>?_,fun g hg=>?_⟩
 ·have:=kO f y fs;lia
 ·show RelO ((putF f y fs).lookup g) (if g=f then some u else mA g)
  rw [kL]
  by_cases q:g=f
  ·rw [lJ q,lJ q];exact ry
  ·rw [lI q,lI q];exact r g
 ·by_cases q:g=f
  ·rw [q];exact (kP f y fs).1
  ·refine (kP f y fs).2 g (wi g fun z=>hg ?_)
   show (if g=f then some u else mA g)=none;rw [lI q];exact z
theorem Inv.made (I:Inv X az σ H s):Inv X az σ (upd (upd H s.heap.objs.size (.own (s.heap.objs.size+1))) (s.heap.objs.size+1) (.ins C s.heap.objs.size []))
  {s with heap:=(s.heap.push c7).push (eF C s.heap.objs.size) }:=by
 have e1:(s.heap.push c7).get? s.heap.objs.size=some c7:=aA s.heap rfl;have e2:((s.heap.push c7).push (eF C s.heap.objs.size)).get? (s.heap.objs.size+1)=some (eF C s.heap.objs.size):=by
  have:=aA (s.heap.push c7) (o:=eF C s.heap.objs.size) rfl
  rwa [bX] at this
 have e3:(s.heap.push c7).Ns s.heap.objs.size (fun _=>none):=⟨c7,#[],_,e1,rfl,(fun e he=>lK he (by simp)),fun _=>rfl⟩;have I1:=I.laid (a:=s.heap.objs.size) (o:= .own (s.heap.objs.size+1)) (h':=s.heap.push c7) (t':=s.toks) (fun b u q=>aj _ q) (aH _) ⟨_,e1⟩;refine I1.laid (a:=s.heap.objs.size+1) (o:= .ins C s.heap.objs.size []) (t':=s.toks) (fun b u q=>aj _ q) (Nat.le_of_eq (bX _ _)) ?_;have ne:s.heap.objs.size≠s.heap.objs.size+1:=bu (Nat.lt_succ_self _);refine ⟨by rw [aR ne,aK],cK _,ne,e2,fun _=>none,(bj.Ns1.of_empty e3).at fun o q=>aj _ q,fun _=>True.intro,fun y hy=>lK rfl hy⟩
theorem attr_of {w:aV}{f:Str}(hb:fV e f env (cN e env)=cN e env)
  (h:aL (aZ prog w) A (cN e env) (fun o s₁=>aL (aZ prog w) A (getAttr o f true) Q E s₁) E s):aL (aZ prog w) A (cN (.Attribute e f pos) env) Q E s :=
 Attribute_any_ h (by rw [arm_eval_Attribute,hb])
end
def tFld (K:ai)(ta:TE)(f:Str):TE:=fun σ H Q=>ta σ H fun x H1=>∃ a C dx fs v,x= .ref a∧H1 a=some (.ins C dx fs)∧Cls K C∧ir K C f∧fs.lookup f=some v∧Q v H1
def sFld (K:ai)(ta tv:TE)(f:Str):TS:=fun D σ H=>tv σ H fun y H1=>ta σ H1 fun x H2=>∃ a C dx fs,x= .ref a∧H2 a=some (.ins C dx fs)∧Cls K C∧ir K C f∧fs.length<1000 ∧
 D.nx σ (upd H2 a (.ins C dx (putF f y fs)))
section
variable {o:Expr}{f:Str}{tpos:Pos}{tv:TE}
theorem dk (he:PE X e ta)(hb:fV e f X.env (cN e X.env)=cN e X.env):PE X (.Attribute e f pos) (tFld X.K ta f):=by
 intro az s σ H Q I h;refine attr_of hb (thn (he az s σ H _ I h) fun u s1 ⟨x,H1,I1,rx,a,C,dx,fs,v,ex,ea,c,n,l,q⟩=>?_);subst ex;obtain rfl:u=af.ref a:=rx;exact getattr_ok I1 ea c n l fun u' s2 I2 ru=>⟨v,H1,I2,ru,q⟩
theorem j6 (ha:PE X o ta)(hv:PE X value tv)(hs:swapsWith value (some (.Attribute o f pos')) pos.line X.env=fe false):PS X (.Assign [.Attribute o f pos'] value pos) (sFld X.K ta tv f):=by
 intro az s σ H D I h;refine plainObj_wpAny_Assign_Attribute (thn (hv az s σ H _ I h) fun u s1 ⟨y,H1,I1,ry,q⟩=>thn (ha az s1 σ H1 _ I1 q) fun ov s2 ⟨x,H2,I2,rx,a,C,dx,fs,ex,ea,c,n,l,q2⟩=>?_) hs;subst ex;obtain rfl:ov=af.ref a:=rx;exact setattr_ok I2 ea c n l ry fun s3 I3=>⟨σ,_,I3,q2⟩
end
section
variable {c:af}{b:Bool}
inductive TyOf (K:ai)(H:Hp):V→af→Prop where
 | non:TyOf K H .non (.type "NoneType")
 | bl (x:Bool):TyOf K H (.bl x) (.type "bool")
 | int (i:Int):TyOf K H (.int i) (.type "int")
 | str (x:Str):TyOf K H (.str x) (.type "str")
 | flt (x:UInt64):TyOf K H (.flt x) (.type "float")
 | lst {a:ak} {xs:List V} (e:H a=some (.lst xs)):TyOf K H (.ref a) (.type "list")
 | frz {a:ak} {o:Obj} {xs:List V} (e:H a=some (.frz o (.lst xs))):TyOf K H (.ref a) (.type "list")
 | tup {a:ak} {xs:List V} (e:H a=some (.tup xs)):TyOf K H (.ref a) (.type "tuple")
 | dK {a:ak} {kvs:List (Key×V)} (e:H a=some (.dK kvs)):TyOf K H (.ref a) (.type "dict")
 | dT {a:ak} {kvs:List (List Key×V)} (e:H a=some (.dT kvs)):TyOf K H (.ref a) (.type "dict")
 | ins {a C dx:ak} {fs:List (Str×V)} (e:H a=some (.ins C dx fs)) (cl:Cls K C) (ha:bw K (.ref C) "__class__" =some (some (.builtin "object.__class__")))
   (hn:PySem.W.specialIn K (.builtin "object.__class__") "__get__" =some (some (.builtin "getset_descriptor.__get__"))) (htk:PySem.W.takesIn K (.builtin "object.__class__")=some true)
   (hm:PySem.W.mroIn K C (.type "object")=some true):TyOf K H (.ref a) (.ref C)
theorem isinst_ok {x:V}{t:af}(I:Inv X az σ H s)(rx:fD x u)(ty:TyOf X.K H x t)(e:gy X.K t c=some b)(h:∀ tk,Q (.bool b) { s with toks:=tk }) :
  aL (aZ X.prog X.w) A (call (.builtin "isinstance") [u,c]) Q E s:=by
 cases ty with
 | non=>cases (show u=af.none from rx);exact cR PySem.W.kitx_none I.kIn True.intro e (fun z=>nomatch z) h
 | bl y=>cases (show u=af.bool y from rx);exact cR PySem.W.kitx_bool I.kIn True.intro e (fun z=>nomatch z) h
 | int i=>obtain ⟨t,q⟩:=(show ∃ t,u=af.int i t from rx);cases q;exact cR PySem.W.kitx_int I.kIn True.intro e (fun z=>nomatch z) h
 | str y=>obtain ⟨t,q⟩:=(show ∃ t,u=af.str y t from rx);cases q;exact cR PySem.W.kitx_str I.kIn True.intro e (fun z=>nomatch z) h
 | flt y=>obtain ⟨t,q⟩:=(show ∃ t,u=af.float y t from rx);cases q;exact cR PySem.W.kitx_float I.kIn True.intro e (fun z=>nomatch z) h
 | @lst a xs ea =>
  cases (show u=af.ref a from rx);obtain ⟨_,_,n,_,h1⟩:=(show fU X.prog X.w H s.heap a (.lst xs) from I.hok a _ ea);exact cR PySem.W.kitx_list I.kIn ⟨_,h1,rfl⟩ e (fun z=>nomatch z) h
 | @frz a ob xs ea =>
  cases (show u=af.ref a from rx);obtain ⟨_,_,_,n,_,h1⟩:=(show fU X.prog X.w H s.heap a (.frz ob (.lst xs)) from I.hok a _ ea);exact cR PySem.W.kitx_list I.kIn ⟨_,h1,rfl⟩ e (fun z=>nomatch z) h
 | @tup a xs ea =>
  cases (show u=af.ref a from rx);obtain ⟨_,_,_,p⟩:=(show fU X.prog X.w H s.heap a (.tup xs) from I.hok a _ ea);obtain ⟨o,h1,h2,_⟩:=p;exact cR PySem.W.kitx_tuple I.kIn ⟨o,h1,h2⟩ e (fun z=>nomatch z) h
 | @dK a kvs ea =>
  cases (show u=af.ref a from rx);obtain ⟨_,_,vs,_,p⟩:=(show fU X.prog X.w H s.heap a (.dK kvs) from I.hok a _ ea);obtain ⟨o,es,ep,h1,h2,_⟩:=p;exact cR PySem.W.kitx_dict I.kIn ⟨o,h1,h2.1⟩ e (fun z=>nomatch z) h
 | @dT a kvs ea =>
  cases (show u=af.ref a from rx);obtain ⟨_,_,xs,_,o,es,ep,h1,h2,_⟩:=(show fU X.prog X.w H s.heap a (.dT kvs) from I.hok a _ ea);exact cR PySem.W.kitx_dict I.kIn ⟨o,h1,h2.1⟩ e (fun z=>nomatch z) h
 | @ins a C dx fs ea cl ha hn htk hm =>
  cases (show u=af.ref a from rx);obtain ⟨mA,O,_⟩:=ins_get I.hok ea;obtain ⟨od,J,_⟩:=O.look;exact cR (PySem.W.kitx_own (cl.get _) cl.hd ha hn htk hm) I.kIn J e (fun z=>nomatch z) h
end
structure iZ (k:Nat)(A:bB):Prop where
 hd:A.handled=none
 dp:A.depth+3 * k+5<recursionLimit
 un:A.units+16 * k+200<cLine
theorem iZ.mono (r:iZ k A)(h:j≤k):iZ j A:=⟨r.hd,by have:=r.dp;lia,by have:=r.un;lia⟩
theorem iZ.deeper (r:iZ (k+1) A)(env:Env):iZ k (A.deeper env) :=
 ⟨r.hd,by have:=r.dp;show A.depth+1+3 * k+5<_;lia,by have:=r.un;show A.units+3+16 * k+200<_;lia⟩
theorem make_depth:(A.under (.builtin "type.__call__" ⟨.ref C::us,kw⟩)).depth=A.depth+1:=by
 first | rfl | simp [bB.under,Code.weight,Code.isCreation,Code.isGuard,Code.isCaller,Code.frames,Code.isFrame,guardIds]
theorem make_units:(A.under (.builtin "type.__call__" ⟨.ref C::us,kw⟩)).units=A.units+1:=by
 first | rfl | simp [bB.under,Code.cUnits,Code.frames,Code.isFrame]
theorem iZ.make (r:iZ (k+1) A)(C:ak)(us:List af)(kw:List (Str×af)):iZ k (A.under (.builtin "type.__call__" ⟨.ref C::us,kw⟩)) :=
 ⟨r.hd,by have:=r.dp;rw [make_depth];lia,by have:=r.un;rw [make_units];lia⟩
theorem iZ.depth (r:iZ k A):A.depth<recursionLimit:=by have:=r.dp;lia
theorem iZ.units (r:iZ k A):A.units+64<cLine:=by have:=r.un;lia
def tNil:TA:=fun _ H Q=>Q [] H
def kB (ta:TE)(tr:TA):TA:=fun σ H Q=>ta σ H fun x H1=>tr σ H1 fun xs H2=>Q (x::xs) H2
theorem aw:PA X [] tNil:=fun _ _ _ _ H Q I h=>Calls.spliced_nil ⟨[],H,I,.nil,h⟩
theorem ah (ha:PE X e te)(hr:PA X es t)(hs:aU (e::es) X.env=(false,cN e X.env)::aU es X.env:=by rfl):PA X (e::es) (kB te t):=by
 intro pos az s σ H Q I h;rw [hs];show aL _ _ (spliced ((false,cN e X.env)::eu pos (aU es X.env))) _ _ s;refine iD (thn (ha az s σ H _ I h) fun u s1 ⟨x,H1,I1,r1,q1⟩=>?_);exact thn (hr pos az s1 σ H1 _ I1 q1) fun us s2 ⟨xs,H2,I2,r2,q2⟩=>⟨x::xs,H2,I2,.cons r1 r2,q2⟩
def tTup (t:TA):TE:=fun σ H Q=>t σ H fun xs H1=>xs.length≤ar∧∀ p,H1 p=none→Q (.ref p) (upd H1 p (.tup xs))
def tLst (t:TA):TE:=fun σ H Q=>t σ H fun xs H1=>xs.length≤ar∧∀ p,H1 p=none→Q (.ref p) (upd H1 p (.lst xs))
theorem pe_tup {x1}(h:PA X es t):PE X (.Tuple es x1 pos) (tTup t):=by
 intro az s σ H Q I hq;refine wpAny_Tuple_spliced (thn (h pos az s σ H _ I hq) fun us s1 ⟨xs,H1,I1,r,z,q⟩=>⟨by rw [←r.length];exact z,?_⟩);have hf:H1 s1.heap.objs.size=none:=I1.hok.fresh (aH _);refine ⟨.ref s1.heap.objs.size,upd H1 s1.heap.objs.size (.tup xs),I1.laid (t':=s1.toks) (fun b u e=>aj _ e) (aH _) ?_,rfl,q _ hf⟩;exact ⟨z,us,r,⟨_,aA _ rfl,rfl,rfl,_,rfl⟩⟩
theorem ja (h:PA X es t):PE X (.List es pos) (tLst t):=by
 intro az s σ H Q I hq;refine wpAny_List_spliced (thn (h pos az s σ H _ I hq) fun us s1 ⟨xs,H1,I1,r,z,q⟩=>⟨by rw [←r.length];exact z,?_⟩);have hf:H1 s1.heap.objs.size=none:=I1.hok.fresh (aH _);refine ⟨.ref s1.heap.objs.size,upd H1 s1.heap.objs.size (.lst xs),I1.laid (t':=s1.toks) (fun b u e=>aj _ e) (aH _) ?_,rfl,q _ hf⟩;exact ⟨z,us,0,r,aA _ rfl⟩
abbrev Sp:=List V→Hp→VK→XK→Prop
abbrev CXT:=List Env→Hp→al→XK→af→al→Prop
structure Env0 (P:aB)(w:aV)(K:ai)(mg:Str→Option af)(base:bj)(A:bB)(outer:List Env)(s:al)(H:Hp):Prop where
 frames:A.frames=some outer
 mod:Mod K mg base
 bs:∀ b o,base.get? b=some o→s.heap.get? b=some o∧H b=none
 bsz:base.objs.size≤s.heap.objs.size
 funs:s.heap.FunFrames base outer
 frf:∀ b∈frs outer,H b=none
 hok:HOk P w H s.heap
 bare:AllBare s.gens
def CE (outer:List Env)(P:aB)(w:aV)(H:Hp)(s:al)(Q:VK)(u:af)(s':al):Prop :=
 ∃ v H',s'.os=s.os∧AllBare s'.gens∧Un (frs outer) [] H H' s.heap s'.heap∧HOk P w H' s'.heap∧fD v u∧Q v H'
def CR (CX:CXT)(outer:List Env)(P:aB)(w:aV)(H:Hp)(s:al)(Q:VK)(E:XK)(r:Result)(s':al):Prop :=
 match r with
 | .ok (.ret u)=>CE outer P w H s Q u s'
 | .ok _=>False
 | .error e=>CX outer H s E e s'
structure cI (P:aB)(w:aV)(K:ai)(mg:Str→Option af)(base:bj)(CX:CXT)(k:Nat)(f:ak)(fd:aO)(ps:List Str)(sp:Sp):Prop where
 len:∀ vs H Q E,sp vs H Q E→vs.length=ps.length
 run:∀ (A:bB) (outer:List Env) (s:al) (H:Hp) (args:Args) (us:List af) (vs:List V) (Q:VK) (E:XK),iZ k A→Env0 P w K mg base A outer s H→BindsTo s fd args (ps.zip us)→eI vs us→sp vs H Q E →
  codeAny (aZ P w) A (.call (.ref f) args) (CR CX outer P w H s Q E) s
theorem Env0.make {w:aV}(e:Env0 P w K mg base A outer s H)(C:ak)(us:List af)(kw:List (Str×af)) :
  Env0 P w K mg base (A.under (.builtin "type.__call__" ⟨.ref C::us,kw⟩)) outer s H:=⟨by first | exact e.frames | (simpa [bB.under,Code.envs,Code.isFrame,pushEnvs] using e.frames),e.mod,e.bs,e.bsz,e.funs,e.frf,e.hok,e.bare⟩
theorem Inv.env0 (I:Inv X az σ H s):Env0 X.prog X.w X.K X.mg X.base X.A X.stack s H :=
 ⟨I.ok.frames,I.ok.mod,I.bs,bQ I.ok.bsz I.sz,I.stack,I.stkFree,I.hok,I.bare⟩
theorem Inv.after {Q:VK}(I:Inv X az σ H s)(h:CE X.stack X.prog X.w H s Q u s'):EP X az σ Q u s':=by
 obtain ⟨v,H',os,bare,un,hok,r,q⟩:=h;obtain ⟨hh,g,d,t,os'⟩:=s';obtain rfl:os'=s.os:=os;exact ⟨v,H',I.call (h':=hh) (g':=g) (d':=d) (t':=t) (ch:=[]) un hok bare (fun b z=>lK z (by simp)),r,q⟩
def tCall (sp:Sp)(dvs:List V)(E:XK)(t:TA):TE:=fun σ H Q=>t σ H fun vs H1=>sp (vs++dvs) H1 Q E
def tMeth (C:ak)(m:Str)(sp:Sp)(dvs:List V)(E:XK)(ta:TE)(t:TA):TE:=fun σ H Q=>ta σ H fun x H1=>∃ a dx fs,x= .ref a∧H1 a=some (.ins C dx fs)∧fs.lookup m=none ∧
 t σ H1 fun vs H2=>sp (x::(vs++dvs)) H2 Q E
def tMake (C:ak)(sp:Sp)(dvs:List V)(E:XK)(t:TA):TE:=fun σ H Q=>t σ H fun vs H1=>∀ x dx,H1 x=none→H1 dx=none→dx≠x →
 sp (.ref x::(vs++dvs)) (upd (upd H1 dx (.own x)) x (.ins C dx [])) (fun v H2=>v= .non∧Q (.ref x) H2) E
def Binds (K:ai)(fd:aO)(ps:List Str)(ds:List af):Prop :=
 ∀ (s:al) (us:List af),K.In s.heap→(us++ds).length=ps.length→BindsTo s fd ⟨us,[]⟩ (ps.zip (us++ds))
theorem Binds.all (h:∀ us:List af,us.length=ps.length→bindArgs fd ⟨us,[]⟩=fe (ps.zip us)):Binds K fd ps []:=fun s us _ hl=>by
 rw [List.append_nil] at hl ⊢;exact .of_eq (h us hl)
def j9 (CX:CXT)(X:Cx)(E:XK):Prop:=∀ (az:List (ak×Obj)) (σ:St) (H:Hp) (s:al) (e:af) (s':al),Inv X az σ H s→CX X.stack H s E e s'→X.xe e s'
section
variable {CX:CXT}{sp:Sp}{dvs:List V}{ds:List af}{E:XK}{m:Str}{p:Pos}{o:Expr}
theorem run_fn {Q:VK}{vs:List V}(F:cI X.prog X.w X.K X.mg X.base CX k f fd ps sp)(hr:iZ k X.A)(hb:Binds X.K fd ps ds)(hd:eI dvs ds)(hx:j9 CX X E)
  (I:Inv X az σ H s) (r:eI vs us) (h:sp (vs++dvs) H Q E):aL (aZ X.prog X.w) X.A (call (.ref f) us) (EP X az σ Q) X.xe s:=by
 have r2:eI (vs++dvs) (us++ds):=r.append hd;have hl:(us++ds).length=ps.length:=by rw [←r2.length];exact F.len _ _ _ _ h
 refine wpAny_call (codeAny_mono (F.run X.A X.stack s H ⟨us,[]⟩ (us++ds) (vs++dvs) Q E hr I.env0 (hb s us I.kIn hl) r2 h) fun r s' hq=>?_);cases r with
 | error e=>exact hx az σ H s e s' I hq
 | ok fl =>
  cases fl with
  | ret u=>exact I.after hq
  | next=>exact eh hq
  | brk=>exact eh hq
  | cont=>exact eh hq
theorem pe_call (F:cI X.prog X.w X.K X.mg X.base CX k f fd ps sp)(hr:iZ k X.A)(hg:Gl X x)(hm:X.mg x=some (.ref f))(hk:c6 X.K (.ref f)=true)(hb:Binds X.K fd ps ds)(hd:eI dvs ds)(hx:j9 CX X E)
  (ha:PA X (e::es) t) (hdb:(x == ("__debug__" :Str))=false:=by decide) (he:aU (e::es) X.env=(false,cN e X.env)::aU es X.env:=by rfl) (hpl:(eu pos (aU es X.env)).any (·.1)=false:=by rfl) :
  PE X (.Call (.Name x p) (e::es) [] pos) (tCall sp dvs E t):=by
 intro az s σ H Q I h;refine gL (ld_glob I hg hm ?_ hdb);refine PySem.W.callWith_K (h₀:=X.base) I.ok.mod.kin hk (thn (ha pos az s σ H _ I h) fun us s1 ⟨vs,H1,I1,r,q⟩=>⟨I1.kIn,?_⟩) he hpl;exact run_fn F hr hb hd hx I1 r q
theorem pe_call0 (F:cI X.prog X.w X.K X.mg X.base CX k f fd ps sp)(hr:iZ k X.A)(hg:Gl X x)(hm:X.mg x=some (.ref f))(hk:c6 X.K (.ref f)=true)(hb:Binds X.K fd ps ds)(hd:eI dvs ds)(hx:j9 CX X E)
  (hdb:(x == ("__debug__" :Str))=false:=by decide):PE X (.Call (.Name x p) [] [] pos) (tCall sp dvs E tNil):=by
 intro az s σ H Q I h;refine gL (ld_glob I hg hm ?_ hdb);exact PySem.W.callWith_K0 I.kIn hk (run_fn (us:=[]) F hr hb hd hx I .nil h)
theorem eV {pl:Sem Bool}(he:PE X o ta)(c:Cls X.K C)(hm:lG X.K C m f)(F:cI X.prog X.w X.K X.mg X.base CX k f fd ps sp)(hr:iZ k X.A)(hb:Binds X.K fd ps ds)(hd:eI dvs ds)(hx:j9 CX X E)(ha:PA X (e::es) t)
  (hst:aU (e::es) X.env=(false,cN e X.env)::aU es X.env:=by rfl) (hpl:(eu pos (aU es X.env)).any (·.1)=false:=by rfl)
  (ht:cN (.Call (.Attribute o m apos) (e::es) [] pos) X.env=(do
   let ov ← cN o X.env
   standAt apos.atName
   let (f,first) ← holding [ov] (getMethod ov m pl)
   callWith pos f first (eu pos (aU (e::es) X.env)) (backToKw pos (iB [] X.env))):=by rfl) :
  PE X (.Call (.Attribute o m apos) (e::es) [] pos) (tMeth C m sp dvs E ta t):=by
 intro az s σ H Q I h;refine PySem.W.methodCall_KW (pl:=pl) (thn (he az s σ H _ I h) fun u s1 ⟨x,H1,I1,rx,a,dx,fs,ex,ea,l,q⟩=>?_) ht;subst ex;obtain rfl:u=af.ref a:=rx;refine lE I1 ea c hm l ?_;refine PySem.W.callWith_K (first:=[.ref a]) (h₀:=X.base) I.ok.mod.kin hm.kp (thn (ha pos az s1 σ H1 _ I1 q) fun us s2 ⟨vs,H2,I2,r,q2⟩=>⟨I2.kIn,?_⟩) hst hpl;exact run_fn (us:= .ref a::us) (vs:= .ref a::vs) F hr hb hd hx I2 (.cons rfl r) q2
theorem gd {pl:Sem Bool}(he:PE X o ta)(c:Cls X.K C)(hm:lG X.K C m f)(F:cI X.prog X.w X.K X.mg X.base CX k f fd ps sp)(hr:iZ k X.A)(hb:Binds X.K fd ps ds)(hd:eI dvs ds)(hx:j9 CX X E)
  (ht:cN (.Call (.Attribute o m apos) [] [] pos) X.env=(do
   let ov ← cN o X.env
   standAt apos.atName
   let (f,first) ← holding [ov] (getMethod ov m pl)
   callWith pos f first (eu pos (aU [] X.env)) (backToKw pos (iB [] X.env))):=by rfl) :
  PE X (.Call (.Attribute o m apos) [] [] pos) (tMeth C m sp dvs E ta tNil):=by
 intro az s σ H Q I h;refine PySem.W.methodCall_KW (pl:=pl) (thn (he az s σ H _ I h) fun u s1 ⟨x,H1,I1,rx,a,dx,fs,ex,ea,l,q⟩=>?_) ht;subst ex;obtain rfl:u=af.ref a:=rx;refine lE I1 ea c hm l ?_;exact PySem.W.callWith_K0 (first:=[.ref a]) I1.kIn hm.kp (run_fn (us:=[.ref a]) (vs:=[.ref a]) F hr hb hd hx I1 (.cons rfl .nil) q)
structure Mk (K:ai)(C f:ak):Prop where
 makes:PySem.W.makesIn K C=true
 init:bw K (.ref C) "__init__" =some (some (.ref f))
 fn:PySem.W.isFn K (.ref f)=true
 kp:c6 K (.ref C)=true
theorem run_make {Q:VK}{vs:List V}(M:Mk X.K C f)(F:cI X.prog X.w X.K X.mg X.base CX k f fd ps sp)(hr:iZ (k+1) X.A)(hb:Binds X.K fd ps ds)(hd:eI dvs ds)
  (hx:j9 CX X E) (I:Inv X az σ H s) (r:eI vs us)
  (h:∀ x dx,H x=none→H dx=none→dx≠x→sp (.ref x::(vs++dvs)) (upd (upd H dx (.own x)) x (.ins C dx [])) (fun v H2=>v= .non∧Q (.ref x) H2) E) :
  aL (aZ X.prog X.w) X.A (call (.ref C) us) (EP X az σ Q) X.xe s:=by
 have hq:=h (s.heap.objs.size+1) s.heap.objs.size (I.hok.fresh (Nat.le_succ _)) (I.hok.fresh (aH _)) (bu (Nat.lt_succ_self _));have I2:=Inv.made (C:=C) I;have r2:eI (V.ref (s.heap.objs.size+1)::(vs++dvs)) (af.ref (s.heap.objs.size+1)::(us++ds)):= .cons rfl (r.append hd);have hl:(af.ref (s.heap.objs.size+1)::us++ds).length=ps.length:=by
  have e:=r2.length;rw [F.len _ _ _ _ hq] at e;exact e.symm
 refine wpAny_call (make_map (f:=f) I.kIn M.makes M.init (beq_iff_eq.mp M.fn) (codeAny_mono (F.run _ X.stack _ _ ⟨af.ref (s.heap.objs.size+1)::us,[]⟩ (af.ref (s.heap.objs.size+1)::(us++ds)) _ _ E (hr.make C us [])
  (I2.env0.make C us []) (hb _ (af.ref (s.heap.objs.size+1)::us) I2.kIn hl) r2 hq) fun r s' hq'=>?_))
 cases r with
 | error e=>exact hx az σ _ _ e s' I2 hq'
 | ok fl =>
  cases fl with
  | ret u =>
   obtain ⟨v,H',I3,rv,ev,q3⟩:=I2.after hq';subst ev;exact ⟨rv,⟨V.ref (s.heap.objs.size+1),H',I3,rfl,q3⟩⟩
  | next=>exact eh hq'
  | brk=>exact eh hq'
  | cont=>exact eh hq'
theorem pe_make (M:Mk X.K C f)(F:cI X.prog X.w X.K X.mg X.base CX k f fd ps sp)(hr:iZ (k+1) X.A)(hg:Gl X x)(hm:X.mg x=some (.ref C))(hb:Binds X.K fd ps ds)(hd:eI dvs ds)(hx:j9 CX X E)
  (ha:PA X (e::es) t) (hdb:(x == ("__debug__" :Str))=false:=by decide) (he:aU (e::es) X.env=(false,cN e X.env)::aU es X.env:=by rfl) (hpl:(eu pos (aU es X.env)).any (·.1)=false:=by rfl) :
  PE X (.Call (.Name x p) (e::es) [] pos) (tMake C sp dvs E t):=by
 intro az s σ H Q I h;refine gL (ld_glob I hg hm ?_ hdb);refine PySem.W.callWith_K (h₀:=X.base) I.ok.mod.kin M.kp (thn (ha pos az s σ H _ I h) fun us s1 ⟨vs,H1,I1,r,q⟩=>⟨I1.kIn,?_⟩) he hpl;exact run_make M F hr hb hd hx I1 r q
end
structure bE (N P:List Str)(sc:Scope):Prop where
 kind:sc.kind= .function
 co:sc.isCoroutine=false
 gen:sc.isGenerator=false
 nd:N.Nodup
 pre:N.take P.length=P
 par:∀ x∈P,sc.names.lookup x=some .local∨sc.names.lookup x=some .cell
 nofree:∀ y∈sc.names,y.2≠ .free
theorem bindL_out {kindOf:Str→Option cB}{x:Str}:∀ {binds:List (Str×af)} {m:Str→Option af},(∀ v,(x,v) ∉ binds)→bindL kindOf binds m x=m x
 | [],_,_=>rfl
 | (n,v)::r,m,h=>by
  unfold bindL;rw [bindL_out fun w hw=>h w (aS _ hw)];split
  ·have:x≠n:=by rintro rfl;exact h v bW
   simp [this]
  ·rfl
theorem bindC_out {kindOf:Str→Option cB}{x:Str}:∀ {binds:List (Str×af)} {m:Str→Option af},(∀ v,(x,v) ∉ binds)→bindC kindOf binds m x=m x
 | [],_,_=>rfl
 | (n,v)::r,m,h=>by
  unfold bindC;rw [bindC_out fun w hw=>h w (aS _ hw)];split
  ·rfl
  ·have:x≠n:=by rintro rfl;exact h v bW
   simp [this]
theorem bindL_get {kindOf:Str→Option cB}{x:Str}{v:af}:∀ {P:List Str} {vs:List af} {i:Nat} {m:Str→Option af},P.Nodup→P[i]? =some x→vs[i]? =some v→kindOf x=some .local →
  bindL kindOf (P.zip vs) m x=some v
 | [],_,_,_,_,h,_,_=>by simp at h
 | _::_,[],_,_,_,_,h,_=>by simp at h
 | p::P,w::vs,0,m,nd,h1,h2,hk=>by
  simp at h1 h2;subst h1;subst h2;show bindL kindOf ((p,w)::P.zip vs) m p=_;unfold bindL;rw [bindL_out fun v hv=>(aX.mp nd).1 (List.of_mem_zip hv).1,lJ hk];simp
 | p::P,w::vs,i+1,m,nd,h1,h2,hk=>by
  show bindL kindOf ((p,w)::P.zip vs) m x=_;unfold bindL;exact bindL_get (i:=i) (aX.mp nd).2 (by simpa using h1) (by simpa using h2) hk
theorem bindC_get {kindOf:Str→Option cB}{x:Str}{v:af}:∀ {P:List Str} {vs:List af} {i:Nat} {m:Str→Option af},P.Nodup→P[i]? =some x→vs[i]? =some v→kindOf x≠some .local →
  bindC kindOf (P.zip vs) m x=some v
 | [],_,_,_,_,h,_,_=>by simp at h
 | _::_,[],_,_,_,_,h,_=>by simp at h
 | p::P,w::vs,0,m,nd,h1,h2,hk=>by
  simp at h1 h2;subst h1;subst h2;show bindC kindOf ((p,w)::P.zip vs) m p=_;unfold bindC;rw [bindC_out fun v hv=>(aX.mp nd).1 (List.of_mem_zip hv).1,lI hk];simp
 | p::P,w::vs,i+1,m,nd,h1,h2,hk=>by
  show bindC kindOf ((p,w)::P.zip vs) m x=_;unfold bindC;exact bindC_get (i:=i) (aX.mp nd).2 (by simpa using h1) (by simpa using h2) hk
def start (N:List Str)(vs:List V):St:=vs.map some++bV (N.length - vs.length) none
def cxOf (CX:CXT)(P:aB)(w:aV)(K:ai)(mg:Str→Option af)(base:bj)(N:List Str)(qual:Str)(scope:Scope)(f:ak)(cd:af)(A:bB)(outer:List Env)(s:al)(H:Hp)(E:XK):Cx where
 prog:=P
 w:=w
 K:=K
 mg:=mg
 base:=base
 A:=A.deeper (envOfC qual scope s.heap.objs.size f cd)
 N:=N
 s₀:=s
 H₀:=H
 env:=envOfC qual scope s.heap.objs.size f cd
 outer:=outer
 stack:=envOfC qual scope s.heap.objs.size f cd::outer
 ex:=[]
 calm:=true
 fn:=fun _=>true
 pn:=[]
 xe:=fun e s'=>aL (aZ P w) (A.deeper (envOfC qual scope s.heap.objs.size f cd)) (leaving (envOfC qual scope s.heap.objs.size f cd) e) (fun _ s''=>CX outer H s E e s'') (fun e' s''=>CX outer H s E e' s'') s'
theorem cell_has {sc:Scope}(h:sc.names.lookup x=some .cell):∃ c,(cellsFrom n sc.names []).lookup x=some c:=by
 have q:=PySem.W.cellsFrom_some sc.names n [] (.inl h);exact Option.isSome_iff_exists.mp q
theorem inv_start {CX:CXT}{w:aV}{cd:af}{s1:al}{E:XK}{vs:List V}
  (S:bE N ps scope) (hd:A.handled=none) (e0:Env0 P w K mg base A outer s H) (hl:vs.length=ps.length) (r:eI vs us)
  (x:InCallC s s.heap.objs.size (bindL (envOfC qual scope s.heap.objs.size f cd).kindOf (ps.zip us) fun _=>none) (cellsFrom (s.heap.objs.size+1) scope.names []) (bindC (envOfC qual scope s.heap.objs.size f cd).kindOf (ps.zip us) fun _=>none) s1) :
  Inv (cxOf CX P w K mg base N qual scope f cd A outer s H E) [] (start N vs) H s1:=by
 have hpl:ps.length≤N.length:=by have:=lO List.length S.pre;rw [bq] at this;lia
 obtain ⟨h1,tk,rfl,hk⟩:=x.done;have noA:∀ b:ak,b ∉ (cxOf CX P w K mg base N qual scope f cd A outer s H E).ex:=fun b z=>lK (show b∈([]:List ak) from z) (by simp)
 refine ⟨⟨e0.mod,S.kind,rfl,rfl,aH _,fun y z c h1 h2=>?_,fun y hy=>?_,fun y c _ h=>?_,fun _=>hd,bB.frames_deeper e0.frames,.inr ⟨rfl,rfl⟩,fun b z=>lK z (noA b),e0.bs,e0.bsz,fun b _ _=>noA b,fun b z=>lK z (noA b),e0.funs,e0.frf⟩,
  rfl,e0.bare,Un.kept hk,⟨_,x.toInCall.ns,fun i y v h1 h2 h3=>?_⟩,fun y c h=>⟨_,x.cell y c h⟩,e0.hok.fresh (aH _),fun y c h=>?_,fun p hp=>lK (show p∈([]:List (ak×Obj)) from hp) (by simp),e0.hok.kept hk,?_⟩
 ·exact name_of_addr x.apart (de h1) (de h2)
 ·have hy:scope.names.lookup y=some .cell∨scope.names.lookup y=some .free:=hy
  rcases hy with hy | hy
  ·exact cell_has hy
  ·exact lK rfl (S.nofree _ (de hy))
 ·exact Nat.le_of_lt (x.above y c (de h))
 ·have hi:i<vs.length:=by
   unfold start at h2
   by_cases hi:i<vs.length
   ·exact hi
   ·rw [dj (by simpa using hi)] at h2
    rw [List.getElem?_replicate] at h2;split at h2 <;> cases h2
  have ha:vs[i]? =some v:=by
   unfold start at h2;rw [eJ (by simpa using hi),aD] at h2;cases e:vs[i]? with
   | none=>rw [e] at h2;cases h2
   | some a=>rw [e] at h2;cases h2;rfl
  obtain ⟨u,hu,rv⟩:=r.get ha;have hp:ps[i]? =some y:=by
   rw [←S.pre,iX (by lia)];exact h1
  have ndP:ps.Nodup:=by rw [←S.pre];exact S.nd.sublist (List.take_sublist _ _)
  refine ⟨u,rv,?_⟩
  rcases S.par y (aG hp) with k | k
  ·exact .inl ⟨k,bindL_get ndP hp hu k⟩
  ·obtain ⟨c,e⟩:=cell_has (n:=s.heap.objs.size+1) k
   refine .inr ⟨.inl k,c,e,?_⟩;have q:=x.cell y c e;rw [bindC_get ndP hp hu (by show scope.names.lookup y≠_;rw [k];decide)] at q;exact q
 ·exact e0.hok.fresh (Nat.le_of_lt (x.above y c (de h)))
 ·unfold start
  show _=N.length;rw [av,ae,List.length_replicate];lia
theorem fn_of {CX:CXT}{w:aV}{params:Arguments}{dV kV doc pm cdv ct oc:af}{an:Option ak}
  {sp:Sp} (lk:K.lookup f=some ⟨oc,od,.func (dq name qual params body scope dV kV doc pm an cdv ct),osl⟩) (hcd:gC K cdv qual=true) (S:bE N ps scope)
  (len:∀ vs H Q E,sp vs H Q E→vs.length=ps.length)
  (hbody:∀ (A:bB) (outer:List Env) (s:al) (H:Hp) (vs:List V) (Q:VK) (E:XK),iZ k (A.deeper (envOfC qual scope s.heap.objs.size f cdv))→sp vs H Q E →
   ∃ t,PSs (cxOf CX P w K mg base N qual scope f cdv A outer s H E) body t∧t { nx:=fun _ H'=>Q .non H',rt:=Q } (start N vs) H) :
  cI P w K mg base CX (k+1) f (dq name qual params body scope dV kV doc pm an cdv ct) ps sp:=by
 refine ⟨len,fun A outer s H args us vs Q E hr e0 hb r hsp=>?_⟩;have hl:=len _ _ _ _ hsp;have KX:K.In s.heap:=e0.mod.kin.keeps fun b o e=>(e0.bs b o e).1
 have lim:s.heap.NoLimit:=e0.mod.nolimit.keeps fun b o e=>(e0.bs b o e).1
 have jH:∀ y∈ps.zip us,scope.names.lookup y.1=some .local∨(scope.names.lookup y.1=some .cell∧((cellsFrom (s.heap.objs.size+1) scope.names []).lookup y.1).isSome=true):=fun ⟨n,v⟩ hy=>by
  rcases S.par n (List.of_mem_zip hy).1 with q | q
  ·exact .inl q
  ·exact .inr ⟨q,PySem.W.cellsFrom_some _ _ _ (.inl q)⟩
 refine codeAny_call_function hr.depth (KX _ _ lk) rfl S.co S.gen rfl (PySem.W.codeRec_of KX hcd) (hb _ _ _ _ ?_);refine wpAny_newFunctionEnv_cells S.kind jH fun env he s1 x=>?_
 subst he;refine ⟨lim.keeps x.toInCall.keep,codeAny_func ?_⟩;obtain ⟨t,ht,hq⟩:=hbody A outer s H vs Q E (hr.deeper _) hsp;have I:Inv (cxOf CX P w K mg base N qual scope f cdv A outer s H E) [] (start N vs) H s1:=inv_start S hr.hd e0 hl r x;refine c5 (ht [] s1 (start N vs) H _ I hq) (fun fl s' hs=>?_) fun e s' hs=>hs
 have fin:∀ {σ':St} {H':Hp} {v:V} {u:af},Inv (cxOf CX P w K mg base N qual scope f cdv A outer s H E) [] σ' H' s'→fD v u→Q v H'→CE outer P w H s Q u s' :=
  fun {σ' H' v u} J rv q=>⟨v,H',J.os,J.bare,J.base,J.hok,rv,q⟩
 cases fl with
 | ret u =>
  obtain ⟨v,σ',H',J,rv,q⟩:=hs;exact fin J rv q
 | next =>
  obtain ⟨σ',H',J,q⟩:=hs;exact fin (v:=V.non) (u:=af.none) J rfl q
 | brk =>
  obtain ⟨_,_,_,q⟩:=hs;exact eh q
 | cont =>
  obtain ⟨_,_,_,q⟩:=hs;exact eh q
section
variable {p:Pos}{id:String}{r:List V→Hp→VK→Prop}
def tCB (r:List V→Hp→VK→Prop)(t:TA):TE:=fun σ H Q=>t σ H fun vs H1=>r vs H1 Q
theorem cw (hc:gF X (.builtin id) r)(hg:Gl X x)(hm:X.mg x=none)(hv:bootBuiltins x=some (.builtin id))(ha:PA X (e::es) t)(hn:x ≠ "__name__" := by decide)(hdb:(x == ("__debug__" :Str))=false:=by decide)
  (he:aU (e::es) X.env=(false,cN e X.env)::aU es X.env:=by rfl) (hpl:(eu pos (aU es X.env)).any (·.1)=false:=by rfl):PE X (.Call (.Name x p) (e::es) [] pos) (tCB r t):=by
 intro az s σ H Q I h;refine gL (jP I hg hm hv ?_ hn hdb);exact PyProof.Rows.callWith_builtin1 (thn (ha pos az s σ H _ I h) fun us s1 ⟨vs,H1,I1,r1,q1⟩=>hc az s1 σ H1 vs us Q I1 r1 q1) he hpl
theorem dQ (hc:gF X (.type T) r)(hg:Gl X x)(hm:X.mg x=none)(hv:bootBuiltins x=some (.type T))(ha:PA X (e::es) t)(hn:x ≠ "__name__" := by decide)(hdb:(x == ("__debug__" :Str))=false:=by decide)
  (he:aU (e::es) X.env=(false,cN e X.env)::aU es X.env:=by rfl) (hpl:(eu pos (aU es X.env)).any (·.1)=false:=by rfl):PE X (.Call (.Name x p) (e::es) [] pos) (tCB r t):=by
 intro az s σ H Q I h;refine gL (jP I hg hm hv ?_ hn hdb);exact cE (thn (ha pos az s σ H _ I h) fun us s1 ⟨vs,H1,I1,r1,q1⟩=>hc az s1 σ H1 vs us Q I1 r1 q1) he hpl
end
end L2
variable {CW:L2.St→L2.VK→L2.It→L2.Hp→Prop}{CX:L2.CXT}{g:L2.TG}{tb:L2.TS}{wi:L2.TI}
namespace HT
open PySem PyProof.Rows
section
variable {w:aV}
theorem cat_tup {t b:ak}{ws:List af}(ht:IsTup s.heap t vs.toArray)(hb:IsTup s.heap b ws.toArray)(hv:vs≠[])
  (h1:ws=[]→Q (.ref t) s) (h2:ws≠[]→Q (.ref s.heap.objs.size) { s with heap:=s.heap.push { cls:= .type "tuple",data:= .seq (vs++ws).toArray } })
  (hsz:vs.length+ws.length≤ar):aL (aZ prog w) A (eZ .Add (.ref t) (.ref b)) Q E s:=by
 obtain ⟨⟨cls,dd,data,sl⟩,ho,hc,n,hd⟩:=id ht;obtain ⟨⟨cls2,dd2,data2,sl2⟩,ho2,hc2,n2,hd2⟩:=id hb;simp only at hc hd hc2 hd2;subst hc hd hc2 hd2;have e:vs.toArray++ws.toArray=(vs++ws).toArray:=by simp
 by_cases hw:ws=[]
 ·exact concat_meets ⟨_,ho,rfl⟩ ⟨_,ho2,rfl⟩ noFill_tuple_add seq_tuple_add PySem.F.slot_tuple_add iU (iL _ _)
   (tuple_addW1 t b vs.toArray ws.toArray n n2 dd dd2 sl sl2 (by simpa using hv) (by simp [hw])) ⟨ho,ho2,h1 hw⟩
 ·refine concat_meets ⟨_,ho,rfl⟩ ⟨_,ho2,rfl⟩ noFill_tuple_add seq_tuple_add PySem.F.slot_tuple_add iU (iL _ _)
   (tuple_addW2 t b vs.toArray ws.toArray n n2 dd dd2 sl sl2 (by simpa using hv) (by simpa using hw) (by rw [ay,ay];exact hsz)) ⟨ho,ho2,?_⟩
  rw [e];exact h2 hw
def sIx (n d:Nat):Option Int→Nat
 | none=>d
 | some v=>if v<0 then (v+(n:Int)).toNat else min v.toNat n
theorem sIx_nat (n d k:Nat):sIx n d (some (k:Int))=min k n:=by
 show (if (k:Int)<0 then ((k:Int)+(n:Int)).toNat else min (k:Int).toNat n)=min k n;rw [lI (by lia),dE]
theorem sIx_le (n d:Nat)(hd:d≤n)(o:Option Int):sIx n d o≤n:=by
 cases o with
 | none=>exact hd
 | some v =>
  show (if v<0 then (v+(n:Int)).toNat else min v.toNat n)≤n
  by_cases hv:v<0
  ·rw [lJ hv];lia
  ·rw [lI hv];exact Nat.min_le_right _ _
theorem clip_eq (v:Int)(n d:Nat):(if v<0 then max (v+(n:Int)) 0 else min v (n:Int))=((sIx n d (some v):Nat):Int):=by
 show (if v<0 then max (v+(n:Int)) 0 else min v (n:Int))=(((if v<0 then (v+(n:Int)).toNat else min v.toNat n):Nat):Int)
 by_cases hv:v<0
 ·simp only [lJ hv];lia
 ·simp only [lI hv];lia
theorem adjust_gen (lo hi:Option Int)(n:Nat):gZ lo hi 1 (n:Int)=(((sIx n 0 lo:Nat):Int),((sIx n n hi:Nat):Int)):=by
 have h1:¬ ((1:Int)<0):=by lia
 unfold gZ;simp only [h1,if_false];refine Prod.ext ?_ ?_
 ·cases lo with
  | none=>rfl
  | some v=>exact clip_eq v n 0
 ·cases hi with
  | none=>rfl
  | some v=>exact clip_eq v n n
theorem places_gen (i j:Nat):fu (i:Int) (j:Int) 1=j - i:=by
 unfold fu;have h1:(1:Int) > 0:=by lia
 simp only [h1,if_true,Int.ediv_one];split <;> lia
theorem k8 {v:af}{o:Option Int}{Q:Option Int→al→Prop}(p:IsPart v o)(h:Q o s):aL (aZ prog w) A (dY.Slice.slicePartIndex v) Q E s:=by
 cases p with
 | none=>exact slicePart_none h
 | int i t=>exact slicePart_int h
theorem ke {sl:ak}{vl vu:af}{lo hi:Option Int}{Q:Int×Int×Nat→al→Prop}(hs:s.heap.IsSliceOf sl vl vu .none)(pl:IsPart vl lo)(pu:IsPart vu hi)
  (h:Q (((sIx n 0 lo:Nat):Int),1,sIx n n hi - sIx n 0 lo) s):aL (aZ prog w) A (dY.Slice.sliceApplied (.ref sl) (fe (n:Int))) Q E s:=by
 obtain ⟨os,hos,hcs,hds⟩:=id hs;unfold dY.Slice.sliceApplied dY.Slice.sliceFields;refine ag (ag (bC hos hds (x:=vl) rfl (ag (bC hos hds (x:=vu) rfl (ag (bC hos hds (x:= .none) rfl (ax ?_)))))));refine ag (slicePart_none ?_);show aL _ _ (if ((1:Int) == 0)=true then _ else _) _ _ s;rw [lI (by decide)];refine ag (k8 pl (ag (k8 pu (ag (ax ?_)))));show aL _ _ (match gZ lo hi 1 (n:Int) with | (lo,hi)=>fe (lo,(1:Int),fu lo hi 1)) _ _ s;rw [adjust_gen lo hi n];show aL _ _ (fe (((sIx n 0 lo:Nat):Int),(1:Int),fu ((sIx n 0 lo:Nat):Int) ((sIx n n hi:Nat):Int) 1)) _ _ s;rw [places_gen];exact ax h
theorem pick_gen (xs:Array af)(i k:Nat):((bH k).filterMap fun (m:Nat)=>xs[((i:Int)+(m:Int) * 1).toNat]?).toArray=((xs.toList.drop i).take k).toArray:=by
 have e:(fun (m:Nat)=>xs[((i:Int)+(m:Int) * 1).toNat]?)=fun m=>xs[i+m]? := by
  funext m
  have:((i:Int)+(m:Int) * 1).toNat=i+m:=by lia
  rw [this]
 rw [e];have:=pick_run xs i k;rw [List.filterMap_map] at this;have e2:((fun x=>xs[x]?) ∘ fun x=>i+x)=fun m=>xs[i+m]? := rfl
 rw [e2] at this;rw [this]
theorem getItem_tuple_cut {t sl:ak}{vl vu:af}{lo hi:Option Int}(ht:IsTup s.heap t items)(hs:s.heap.IsSliceOf sl vl vu .none)(pl:IsPart vl lo)(pu:IsPart vu hi)
  (hw:¬ (sIx items.size 0 lo=0∧sIx items.size items.size hi=items.size))
  (h:Q (.ref s.heap.objs.size) { s with heap:=s.heap.push { cls:= .type "tuple",data:= .seq ((items.toList.drop (sIx items.size 0 lo)).take (sIx items.size items.size hi - sIx items.size 0 lo)).toArray } })
  (hsz:items.size≤ar):aL (aZ prog w) A (getItem (.ref t) (.ref sl)) Q E s:=by
 have htake:sizeOk (.seq ((items.toList.drop (sIx items.size 0 lo)).take (sIx items.size items.size hi - sIx items.size 0 lo)).toArray):=by
  show ((items.toList.drop (sIx items.size 0 lo)).take (sIx items.size items.size hi - sIx items.size 0 lo)).toArray.size≤ar;rw [ay,bq,bR,ib];lia
 have hj:sIx items.size items.size hi≤items.size:=sIx_le _ _ (aH _) hi;obtain ⟨os,hos,hcs,hds⟩:=id hs;have hTs:s.TypeIs (.ref sl) "slice" := ⟨os,hos,hcs⟩;unfold getItem
 try with_reducible refine gG ?_
 first | refine ag (ax ?_) | skip
 refine ag (wpAny_sequenceKey ht.typeIs (by decide) ?_);refine ag (cA (name:=aY "__getitem__") ht.typeIs PyProof.Rows.slot_tuple_getitem
  (dw PyProof.Rows.slot_tuple_getitem ht.typeIs entry_tuple_getitem ?_ (args_tuple_getitem _ _)))
 show aL _ _ (dY.Tuple.tupleItemsOf (.ref t) >>= _) _ _ s;refine ag (tupleItemsOf_ ht ?_);refine ag (wpAny_typeOf hTs ?_);rw [lJ (by decide)];refine ag (ke hs pl pu ?_);have hno:¬ ((((sIx items.size 0 lo:Nat):Int) == 0 && (1:Int) == 1 && (sIx items.size items.size hi - sIx items.size 0 lo) == items.size)=true):=by
  intro q;rw [b9,b9] at q;have q1:((sIx items.size 0 lo:Nat):Int)=0:=eq_of_beq q.1.1;have q2:sIx items.size items.size hi - sIx items.size 0 lo=items.size:=eq_of_beq q.2;exact hw ⟨by lia,by lia⟩
 show aL _ _ (if (((sIx items.size 0 lo:Nat):Int) == 0 && (1:Int) == 1 && (sIx items.size items.size hi - sIx items.size 0 lo) == items.size)=true then _ else _) _ _ s;rw [lI hno,pick_gen]
 first
  | exact ag (m:=fJ _) (dS (ax ⟨_,rfl,ax h⟩) htake)
  | exact ag (m:=fJ _) (dS (ag (ax (ax ⟨_,rfl,ax h⟩))) htake)
  | exact ag (ag (m:=fJ _) (dS (ax (ax ⟨_,rfl,ax h⟩)) htake))
  | exact ag (ag (m:=fJ _) (dS (ax ⟨_,rfl,ax h⟩) htake))
end
end HT
namespace L2
open PySem PySem.Spec PyProof.Rows
abbrev TO:=St→Hp→(Option Int→Hp→Prop)→Prop
def PO (X:Cx)(e:Option Expr)(t:TO):Prop :=
 ∀ (az:List (ak×Obj)) (s:al) (σ:St) (H:Hp) (Q:Option Int→Hp→Prop),Inv X az σ H s→t σ H Q →
  aL (aZ X.prog X.w) X.A (evalPart e X.env) (fun u s'=>∃ o H',Inv X az σ H' s'∧IsPart u o∧Q o H') X.xe s
def tNoPart:TO:=fun _ H Q=>Q none H
def tPart (t:TE):TO:=fun σ H Q=>t σ H fun x H1=>∃ i,x= .int i∧Q (some i) H1
section
variable {lo hi:Option Expr}{tl th:TO}
theorem hE:PO X none tNoPart:=by
 intro az s σ H Q I h;rw [evalPart_none];exact ax ⟨none,H,I,.none,h⟩
theorem gH (h:PE X e te):PO X (some e) (tPart te):=by
 intro az s σ H Q I hw;rw [evalPart_some];refine thn (h az s σ H _ I hw) fun u s1 ⟨x,H1,I1,r1,q1⟩=>?_
 obtain ⟨i,rfl,q⟩:=q1;obtain ⟨t,rfl⟩:=r1;exact ⟨some i,H1,I1,.int i t,q⟩
def SlR (X:Cx)(r:V→Option Int→Option Int→Hp→VK→Prop):Prop :=
 ∀ (az:List (ak×Obj)) (s:al) (σ:St) (H:Hp) (x:V) (v vl vu:af) (lo hi:Option Int) (sl:ak) (Q:VK),Inv X az σ H s→fD x v→s.heap.IsSliceOf sl vl vu .none→IsPart vl lo→IsPart vu hi→r x lo hi H Q →
  ∃ T id,typeLookup (.type T) "__getitem__" =fe (some (.builtin id))∧s.TypeIs v T∧aL (aZ X.prog X.w) X.A (getItem v (.ref sl)) (EP X az σ Q) X.xe s
def tSl (r:V→Option Int→Option Int→Hp→VK→Prop)(te:TE)(tl th:TO):TE:=fun σ H Q=>te σ H fun x H1=>tl σ H1 fun l H2=>th σ H2 fun u H3=>r x l u H3 Q
theorem gc (hr:SlR X r)(he:PE X e te)(hl:PO X lo tl)(hu:PO X hi th):PE X (.Subscript e (.Slice lo hi none p2) pos) (tSl r te tl th):=by
 intro az s σ H Q I h;refine Subscript_ (thn (he az s σ H _ I h) fun v s1 ⟨x,H1,I1,r1,q1⟩=>?_);refine wpAny_Slice (thn (hl az s1 σ H1 _ I1 q1) fun vl s2 ⟨l,H2,I2,pl,q2⟩=>thn (hu az s2 σ H2 _ I2 q2) fun vu s3 ⟨u,H3,I3,pu,q3⟩=>?_);rw [evalPart_none];refine ax ?_;have I4:Inv X az σ H3 { s3 with heap:=s3.heap.push { cls:= .type "slice",data:= .fields #[vl,vu,.none] } }:=I3.kept (t':=s3.toks) fun b ob q=>aj _ q
 obtain ⟨T,id,hT,ht,hg⟩:=hr az { s3 with heap:=s3.heap.push { cls:= .type "slice",data:= .fields #[vl,vu,.none] } } σ H3 x v vl vu l u s3.heap.objs.size Q I4 r1 (bj.IsSliceOf.new ..) pl pu q3;show aL (aZ X.prog X.w) X.A (subscriptTail e (.Slice lo hi none p2) v (.ref s3.heap.objs.size)) (EP X az σ Q) X.xe { s3 with heap:=s3.heap.push { cls:= .type "slice",data:= .fields #[vl,vu,.none] } };exact tail_any (ops:=[.ref s3.heap.objs.size,v]) ht hT hg (by with_unfolding_all rfl)
def cutV (xs:List V)(lo hi:Option Int):List V:=(xs.drop (HT.sIx xs.length 0 lo)).take (HT.sIx xs.length xs.length hi - HT.sIx xs.length 0 lo)
theorem kW (xs:List V)(lo hi:Option Int):(cutV xs lo hi).length≤xs.length:=by
 unfold cutV;rw [bq,bR];lia
def rSlT (K:ai):V→Option Int→Option Int→Hp→VK→Prop:=fun x lo hi H Q=>∃ a xs,x= .ref a∧SqT K H a xs ∧
 ¬ (HT.sIx xs.length 0 lo=0∧HT.sIx xs.length xs.length hi=xs.length)∧∀ p,H p=none→Q (.ref p) (upd H p (.tup (cutV xs lo hi)))
theorem sl_tup:SlR X (rSlT X.K):=by
 intro az s σ H x v vl vu lo hi sl Q I rx hs pl pu h;obtain ⟨a,xs,rfl,hx,hw,q⟩:=h;cases rx;obtain ⟨its,r,ht,hz⟩:=I.tuple hx;have hlen:its.toArray.size=xs.length:=by rw [ay];exact r.length.symm
 refine ⟨"tuple",_,PyProof.Rows.slot_tuple_getitem.lookup,ht.typeIs,?_⟩;refine HT.getItem_tuple_cut ht hs pl pu (by rw [hlen];exact hw) ?_ (by rw [hlen];exact hz);rw [hlen];refine ⟨.ref s.heap.objs.size,_,I.laid (t':=s.toks) (o:= .tup (cutV xs lo hi)) (fun b ob q=>aj _ q) (aH _) ?_,rfl,q _ (I.hok.fresh (aH _))⟩;exact ⟨bQ (kW xs lo hi) hz,_,(r.drop (HT.sIx xs.length 0 lo)).take (HT.sIx xs.length xs.length hi - HT.sIx xs.length 0 lo),jg.new _ _⟩
inductive rCatT (K:ai)(x:V)(y:V)(H:Hp)(Q:VK):Prop
 | mk (a b xs ys:_)(_:x= .ref a)(_:y= .ref b)(_:SqT K H a xs)(_:SqT K H b ys)(_:xs≠[])(_:xs.length+ys.length≤ar)(_:(ys=[]→Q (.ref a) H))(_:(ys≠[]→∀ p,H p=none→Q (.ref p) (upd H p (.tup (xs++ys)))))
theorem eI.nil_iff (r:eI xs us):us=[]↔xs=[]:=by
 cases r with
 | nil=>simp
 | cons _ _=>simp
theorem op_catT:OpR X (eZ .Add) (rCatT X.K):=by
 intro az s σ H x y v u Q I rx ry h;obtain ⟨a,b,xs,ys,rfl,rfl,ha,hb,hx,hz,q1,q2⟩:=h;cases rx;cases ry;obtain ⟨its,r1,p1,_⟩:=I.tuple ha;obtain ⟨its2,r2,p2,_⟩:=I.tuple hb;refine HT.cat_tup p1 p2 (fun z=>hx (r1.nil_iff.mp z)) (fun z=>⟨.ref a,H,I,rfl,q1 (r2.nil_iff.mp z)⟩) (fun z=>?_) (by rw [←r1.length,←r2.length];exact hz);refine ⟨.ref s.heap.objs.size,_,I.laid (t':=s.toks) (o:= .tup (xs++ys)) (fun b ob q=>aj _ q) (aH _) ?_,rfl,q2 (fun w=>z (r2.nil_iff.mpr w)) _ (I.hok.fresh (aH _))⟩;exact ⟨by rw [av];exact hz,_,r1.append r2,jg.new _ _⟩
end
def ixN (n:Nat)(i:Int):Option Nat:=if 0≤i then (if i<n then some i.toNat else none) else if -(n:Int)≤i then some (i+n).toNat else none
def atI {α:Type}(xs:List α)(i:Int):Option α:=(ixN xs.length i).bind fun j=>xs[j]?
theorem ixN_seq (h:ixN n i=some j):seqIndex? i n=some j∧j<n∧ -(n:Int)≤i∧i<n:=by
 unfold ixN at h
 by_cases h0:0≤i
 ·rw [lJ h0] at h
  by_cases h1:i<n
  ·rw [lJ h1] at h
   have e:i.toNat=j:=bx h;exact ⟨by rw [seqIndex_of h0 h1,e],by lia,by lia,h1⟩
  ·rw [lI h1] at h;cases h
 ·rw [lI h0] at h
  by_cases h1: -(n:Int)≤i
  ·rw [lJ h1] at h
   have e:(i+n).toNat=j:=bx h;exact ⟨by rw [seqIndex_neg (by lia) h1,e],by lia,h1,by lia⟩
  ·rw [lI h1] at h;cases h
theorem atI_get {xs:List α}{v:α}(h:atI xs i=some v):∃ j,seqIndex? i xs.length=some j∧xs[j]? =some v∧j<xs.length∧ -(xs.length:Int)≤i∧i<xs.length:=by
 unfold atI at h;cases e:ixN xs.length i with
 | none=>rw [e] at h;cases h
 | some j =>
  rw [e] at h;obtain ⟨h1,h2,h3,h4⟩:=ixN_seq e;exact ⟨j,h1,h,h2,h3,h4⟩
theorem aC {xs:List α}{v:α}(h:xs[j]? =some v):atI xs (j:Int)=some v:=by
 have hj:j<xs.length:=(ao.mp h).1;have e:ixN xs.length (j:Int)=some j:=by
  unfold ixN;rw [lJ (by lia),lJ (by lia)];simp
 unfold atI;rw [e];exact h
def PlainIx (b:Expr):Prop:=∀ o i,subscripted b false o i=operate [o,i] (getItem o i)
def IxR (X:Cx)(r:R2):Prop :=
 ∀ (value slice:Expr) (az:List (ak×Obj)) (s:al) (σ:St) (H:Hp) (x y:V) (v u:af) (Q:VK),Inv X az σ H s→fD x v→fD y u→r x y H Q →
  subscripted slice false v u=operate [v,u] (getItem v u)→aL (aZ X.prog X.w) X.A (subscriptTail value slice v u) (EP X az σ Q) X.xe s
def MtR (X:Cx)(id:String)(r:V→List V→Hp→VK→Prop):Prop :=
 ∀ (az:List (ak×Obj)) (s:al) (σ:St) (H:Hp) (x:V) (xs:List V) (v:af) (us:List af) (Q:VK),Inv X az σ H s→fD x v→eI xs us→r x xs H Q →
  aL (aZ X.prog X.w) X.A (call (.builtin id) (v::us)) (EP X az σ Q) X.xe s
section
variable {a b:Expr}{tb:TE}
theorem dO {r:R2}(hr:IxR X r)(ha:PE X a ta)(hb:PE X b tb)(hs:PlainIx b):PE X (.Subscript a b pos) (tOp r ta tb):=by
 intro az s σ H Q I h;exact Subscript_ (binT ha hb I h fun v u s2 x y H2 I2 rx ry q=>hr a b az s2 σ H2 x y v u Q I2 rx ry q (hs _ _))
inductive rIxL (K:ai)(x:V)(y:V)(H:Hp)(Q:VK):Prop
 | mk (p xs i v:_)(_:x= .ref p)(_:y= .int i)(_:SqL K H p xs)(_:atI xs i=some v)(_:Q v H)
inductive rIxT (K:ai)(x:V)(y:V)(H:Hp)(Q:VK):Prop
 | mk (p xs i v:_)(_:x= .ref p)(_:y= .int i)(_:SqT K H p xs)(_:atI xs i=some v)(_:Q v H)
inductive rIxS (x:V)(y:V)(H:Hp)(Q:VK):Prop
 | mk (z i c:_)(_:x= .str z)(_:y= .int i)(_:z.length≤ar)(_:atI z.cps.toList i=some c)(_:Q (.str ⟨#[c]⟩) H)
theorem bh:IxR X (rIxL X.K):=by
 intro value slice az s σ H x y v u Q I rx ry h hs;obtain ⟨p,xs,i,z,rfl,rfl,hq,he,q⟩:=h;cases rx;obtain ⟨t,rfl⟩:=ry;obtain ⟨its,r,pl,hz⟩:=I.list hq;obtain ⟨j,h1,h2,h3,h4,h5⟩:=atI_get he;obtain ⟨w,ew,rw'⟩:=r.get h2;have hl:=r.length;have hn:=lB;have fin:EP X az σ Q w s:=⟨z,H,I,rw',q⟩
 by_cases h0:0≤i
 ·have hj:i.toNat=j:=by
   rw [seqIndex_of h0 h5] at h1;exact bx h1
  exact item_listR pl.isList h0 (by lia) (by rw [hj];simpa using ew) fin hs
 ·have hj:(i+(its.toArray.size:Int)).toNat=j:=by
   rw [seqIndex_neg (by lia) h4] at h1;rw [ay,←hl];exact bx h1
  exact subscriptTail_builtinR (x:=w) pl.isList.typeIs jh.lookup
   (wpAny_getItem_list_neg (Q:=fun r s'=>r=w∧EP X az σ Q r s') pl.isList (by lia) (by rw [ay] <;> lia) (by lia) (by rw [hj];simpa using ew) ⟨rfl,fin⟩) hs
theorem jQ:IxR X (rIxT X.K):=by
 intro value slice az s σ H x y v u Q I rx ry h hs;obtain ⟨p,xs,i,z,rfl,rfl,hq,he,q⟩:=h;cases rx;obtain ⟨t,rfl⟩:=ry;obtain ⟨its,r,pl,hz⟩:=I.tuple hq;obtain ⟨j,h1,h2,h3,h4,h5⟩:=atI_get he;obtain ⟨w,ew,rw'⟩:=r.get h2;have hl:=r.length;have hn:=lB;have fin:EP X az σ Q w s:=⟨z,H,I,rw',q⟩;exact subscriptTail_builtinR (x:=w) pl.typeIs slot_tuple_getitem.lookup
  (getItem_tuple (j:=j) (Q:=fun r s'=>r=w∧EP X az σ Q r s') pl (by lia) (by lia) (by rw [ay,←hl];exact h1) (by simpa using ew) ⟨rfl,fin⟩) hs
theorem ix_str:IxR X rIxS:=by
 intro value slice az s σ H x y v u Q I rx ry h hs;obtain ⟨z,i,c,rfl,rfl,hz,he,q⟩:=h;obtain ⟨t,rfl⟩:=rx;obtain ⟨t',rfl⟩:=ry;obtain ⟨j,h1,h2,h3,h4,h5⟩:=atI_get he;have hl:z.cps.toList.length=z.length:=by simp [Str.length]
 rw [hl] at h1 h4 h5;have hn:=lB;exact tail_any (typeIs_str s z t) slot_str_getitem.lookup (getItem_str (c:=c) (by
  have e1:decide (i< -(2 ^ 63:Int))=false:=lM (by lia);have e2:decide (i ≥ 2 ^ 63)=false:=lM (by lia);rw [e1,e2,Bool.or_false]) (by rw [h1];simpa using h2) ⟨.str ⟨#[c]⟩,H,I.tok _,⟨_,rfl⟩,q⟩) hs
theorem mapSeq_set (its:List af)(n j:Nat)(u:af):Obj.mapSeq (·.setIfInBounds j u) { cls:= .type "list",data:= .seq its.toArray n }={ cls:= .type "list",data:= .seq (its.set j u).toArray n }:=by
 simp [Obj.mapSeq]
theorem Inv.lst {az:List (ak×Obj)}{σ:St}{H:Hp}{s:al}{p:ak}{xs:List V}(I:Inv X az σ H s)(h:H p=some (.lst xs)) :
  ∃ (its:List af) (n:Nat),eI xs its∧s.heap.get? p=some { cls:= .type "list",data:= .seq its.toArray n }∧xs.length≤ar:=by
 obtain ⟨z,its,n,r,e⟩:=I.hok p _ h;exact ⟨its,n,r,e,z⟩
theorem Inv.lstUpd {its':List af}{n':Nat}{f:Obj→Obj}(I:Inv X az σ H s)(h:H p=some (.lst xs))
  (ho:s.heap.get? p=some { cls:= .type "list",data:= .seq its.toArray n }) (hf:f { cls:= .type "list",data:= .seq its.toArray n }={ cls:= .type "list",data:= .seq its'.toArray n' }) (r:eI ys its') (hz:ys.length≤ar) (t:Nat) :
  Inv X az σ (upd H p (.lst ys)) { s with heap:=s.heap.update p f,toks:=t }:=by
 have e:(s.heap.update p f).get? p=some { cls:= .type "list",data:= .seq its'.toArray n' }:=by
  rw [bj.get?_update_self f ho (by rw [hf] <;> rfl),hf]
 refine I.write (x:=p) (e:=p) (by rw [h];trivial) (.inl rfl) (fun b u hb q=>(bj.get?_update_other _ _ (cf hb)).trans q) ⟨_,e⟩ ?_;exact ⟨hz,its',n',r,e⟩
def rSetL:V→V→V→Hp→(Hp→Prop)→Prop:=fun o i v H Q=>∃ p xs k j,o= .ref p∧i= .int k∧H p=some (.lst xs)∧ixN xs.length k=some j∧Q (upd H p (.lst (xs.set j v)))
theorem set_list:PSet X rSetL:=by
 intro az s σ H o i v ov iv u Q I ro ri rv h;obtain ⟨p,xs,k,j,rfl,rfl,hp,hj,q⟩:=h;cases ro;obtain ⟨t,rfl⟩:=ri;obtain ⟨its,n,r,ho,hz⟩:=I.lst hp;obtain ⟨h1,h2,h3,h4⟩:=ixN_seq hj;have hl:=r.length;have hn:=lB;have I':Inv X az σ (upd H p (.lst (xs.set j v))) { s with heap:=s.heap.update p (Obj.mapSeq (·.setIfInBounds j u)) } :=
  I.lstUpd hp ho (mapSeq_set its n j u) (r.set rv j) (by rw [gv];exact hz) s.toks
 by_cases h0:0≤k
 ·have hk:k.toNat=j:=by
   rw [seqIndex_of h0 h4] at h1;exact bx h1
  exact PySem.W.ki_setAt ho h0 (by lia) (by rw [ay,←hl];exact h4) (by rw [hk];exact ⟨_,I',q⟩)
 ·have hk:(k+(its.toArray.size:Int)).toNat=j:=by
   rw [seqIndex_neg (by lia) h3] at h1;rw [ay,←hl];exact bx h1
  exact PySem.W.ki_setBack ho (by lia) (by rw [ay,←hl];exact h3) (by lia) (by rw [hk];exact ⟨_,I',q⟩)
theorem slice_bounds (lo hi:Option Int)(n:Nat):(gk lo hi none n).1=((HT.sIx n 0 lo:Nat):Int)∧(gk lo hi none n).2.1=((HT.sIx n n hi:Nat):Int)∧(gk lo hi none n).2.2=1:=by
 refine ⟨?_,?_,rfl⟩
 ·cases lo with
  | none=>simp [gk,HT.sIx]
  | some i =>
   simp only [gk,HT.sIx,Option.getD_none,show (1:Int) > 0 by decide,if_true]
   by_cases h:i<0
   ·simp only [h,if_true] <;> lia
   ·simp only [h,if_false] <;> lia
 ·cases hi with
  | none=>simp [gk,HT.sIx]
  | some i =>
   simp only [gk,HT.sIx,Option.getD_none,show (1:Int) > 0 by decide,if_true]
   by_cases h:i<0
   ·simp only [h,if_true] <;> lia
   ·simp only [h,if_false] <;> lia
theorem slicePick_cut (its:List af)(lo hi:Option Int):slicePick its.toArray lo hi none=((its.drop (HT.sIx its.length 0 lo)).take (HT.sIx its.length its.length hi - HT.sIx its.length 0 lo)).toArray:=by
 obtain ⟨h1,h2,h3⟩:=slice_bounds lo hi its.toArray.size;unfold slicePick;rw [h1,h2,h3];simp only [sliceRange_one,pick_run,ay] <;> rfl
def rSlL (K:ai):V→Option Int→Option Int→Hp→VK→Prop:=fun x lo hi H Q=>∃ a xs,x= .ref a∧SqL K H a xs∧∀ p,H p=none→Q (.ref p) (upd H p (.lst (cutV xs lo hi)))
theorem sl_list:SlR X (rSlL X.K):=by
 intro az s σ H x v vl vu lo hi sl Q I rx hs pl pu h;obtain ⟨a,xs,rfl,hx,q⟩:=h;cases rx;obtain ⟨its,r,ht,hz⟩:=I.list hx;have hlen:=r.length;refine ⟨"list",_,jh.lookup,ht.isList.typeIs,?_⟩;refine jn ht.isList hs pl pu .none (by simp) ?_ (by rw [ay] <;> lia);rw [slicePick_cut,←hlen];refine ⟨.ref s.heap.objs.size,_,I.laid (t':=s.toks) (o:= .lst (cutV xs lo hi)) (fun b ob q=>aj _ q) (aH _) ?_,rfl,q _ (I.hok.fresh (aH _))⟩;exact ⟨bQ (kW xs lo hi) hz,_,0,(r.drop (HT.sIx xs.length 0 lo)).take (HT.sIx xs.length xs.length hi - HT.sIx xs.length 0 lo),aA _ rfl⟩
def flatV:V→Bool
 | .non=>true
 | .bl _=>true
 | .int _=>true
 | .str _=>true
 | _=>false
def eqV:V→V→Bool
 | .non,.non=>true
 | .bl a,.bl b=>a == b
 | .bl a,.int b=>(if a then 1 else 0) == b
 | .int a,.bl b=>a == (if b then 1 else 0)
 | .int a,.int b=>a == b
 | .str a,.str b=>a == b
 | _,_=>false
theorem eqAt_V {x:V}{v:af}(ry:fD y u)(rx:fD x v)(fy:flatV y=true)(fx:flatV x=true):SeqAt.EqAt A s u v (eqV y x):=by
 cases y with
 | non =>
  cases ry;cases x with
  | non=>cases rx;exact SeqAt.EqAt.same _
  | bl b=>cases rx;exact SeqAt.EqAt.none_bool b
  | int b=>obtain ⟨t,rfl⟩:=rx;exact SeqAt.EqAt.none_int b t
  | str b=>obtain ⟨t,rfl⟩:=rx;exact SeqAt.EqAt.none_str b t
  | _=>exact lK (show false=true from fx) aQ
 | bl a =>
  cases ry;cases x with
  | non=>cases rx;exact SeqAt.EqAt.bool_none a
  | bl b=>cases rx;exact SeqAt.EqAt.bool_bool a b
  | int b=>obtain ⟨t,rfl⟩:=rx;exact SeqAt.EqAt.bool_int a b t
  | str b=>obtain ⟨t,rfl⟩:=rx;exact SeqAt.EqAt.bool_str a b t
  | _=>exact lK (show false=true from fx) aQ
 | int a =>
  obtain ⟨t',rfl⟩:=ry;cases x with
  | non=>cases rx;exact SeqAt.EqAt.int_none a t'
  | bl b=>cases rx;exact SeqAt.EqAt.int_bool a t' b
  | int b=>obtain ⟨t,rfl⟩:=rx;exact SeqAt.EqAt.int_int a t' b t
  | str b=>obtain ⟨t,rfl⟩:=rx;exact SeqAt.EqAt.int_str a t' b t
  | _=>exact lK (show false=true from fx) aQ
 | str a =>
  obtain ⟨t',rfl⟩:=ry;cases x with
  | non=>cases rx;exact SeqAt.EqAt.str_none a t'
  | bl b=>cases rx;exact SeqAt.EqAt.str_bool a t' b
  | int b=>obtain ⟨t,rfl⟩:=rx;exact SeqAt.EqAt.str_int a t' b t
  | str b=>obtain ⟨t,rfl⟩:=rx;exact SeqAt.EqAt.str_str a t' b t
  | _=>exact lK (show false=true from fx) aQ
 | _=>exact lK (show false=true from fy) aQ
def eqU (x:V)(u:af):Bool:=match u with
 | .none=>eqV .non x
 | .bool b=>eqV (.bl b) x
 | .int i _=>eqV (.int i) x
 | .str z _=>eqV (.str z) x
 | _=>false
theorem eqU_of {x:V}(r:fD y u)(f:flatV y=true):eqU x u=eqV y x:=by
 cases y with
 | non=>cases r;rfl
 | bl b=>cases r;rfl
 | int i=>obtain ⟨t,rfl⟩:=r;rfl
 | str z=>obtain ⟨t,rfl⟩:=r;rfl
 | _=>exact lK (show false=true from f) aQ
theorem any_eqU {x:V}:∀ {xs:List V} {us:List af},eI xs us→xs.all flatV=true→us.any (eqU x)=xs.any fun y=>eqV y x
 | _,_,.nil,_=>rfl
 | y::xs,u::us,.cons r t,f=>by
  rw [List.all_cons,b9] at f;rw [gm,gm,eqU_of r f.1,any_eqU t f.2]
theorem mem_eqAt {A:bB}{s:al}{x:V}{v:af}(rx:fD x v)(fx:flatV x=true):∀ {xs:List V} {us:List af},eI xs us→xs.all flatV=true→∀ u∈us,SeqAt.EqAt A s u v (eqU x u)
 | _,_,.nil,_=>fun u hu=>by cases hu
 | y::xs,u::us,.cons r t,f=>fun u' hu=>by
  rw [List.all_cons,b9] at f
  rcases aq.mp hu with rfl | hu
  ·rw [eqU_of r f.1];exact eqAt_V r rx f.1 fx
  ·exact mem_eqAt rx fx t f.2 u' hu
def inV (x:V)(xs:List V):Bool:=xs.any fun y=>eqV y x
inductive rIn (K:ai)(neg:Bool)(x:V)(y:V)(H:Hp)(Q:VK):Prop
 | mk (p xs:_)(_:y= .ref p)(_:(SqL K H p xs∨SqT K H p xs))(_:flatV x=true)(_:xs.all flatV=true)(_:Q (.bl (if neg then !inV x xs else inV x xs)) H)
theorem op_in_seq:OpR X (eG .In) (rIn X.K false):=by
 intro az s σ H x y v u Q I rx ry h;obtain ⟨p,xs,rfl,hq,fx,fs,q⟩:=h;cases ry
 rcases hq with hq | hq
 ·obtain ⟨its,r,pl,hz⟩:=I.list hq
  refine SeqAt.in_listAt (eqU x) pl.isList (fun w hw=>mem_eqAt rx fx r fs w (by simpa using hw)) ⟨.bl _,H,I,rfl,?_⟩;rw [show its.toArray.any (eqU x)=its.any (eqU x) by simp,any_eqU r fs];exact q
 ·obtain ⟨its,r,pl,hz⟩:=I.tuple hq
  refine SeqAt.in_tupleAt (eqU x) pl (fun w hw=>mem_eqAt rx fx r fs w (by simpa using hw)) ⟨.bl _,H,I,rfl,?_⟩;rw [show its.toArray.any (eqU x)=its.any (eqU x) by simp,any_eqU r fs];exact q
theorem cS:gF X (.builtin "len") (fun xs H Q=>∃ p ys,xs=[.ref p]∧(SqL X.K H p ys∨SqT X.K H p ys)∧Q (.int ys.length) H):=by
 intro az s σ H xs us Q I r h;obtain ⟨p,ys,rfl,hq,q⟩:=h;obtain ⟨u,rfl,rx⟩:=jA r;cases rx;have hn:=lB
 rcases hq with hq | hq
 ·obtain ⟨its,r',pl,hz⟩:=I.list hq
  have hlen:=r'.length;exact Calls.call_len_list pl.isList (by simp only [ay] <;> lia) ⟨.int ys.length,H,I.tok _,⟨s.toks+1,by rw [ay,hlen]⟩,q⟩
 ·obtain ⟨its,r',pl,hz⟩:=I.tuple hq
  have hlen:=r'.length;exact len_tuple pl (by simp only [ay] <;> lia) ⟨.int ys.length,H,I.tok _,⟨s.toks+1,by rw [ay,hlen]⟩,q⟩
theorem gO:gF X (.builtin "len") (fun xs H Q=>∃ z,xs=[.str z]∧z.length≤ar∧Q (.int z.length) H):=by
 intro az s σ H xs us Q I r h;obtain ⟨z,rfl,hz,q⟩:=h;obtain ⟨u,rfl,t,rfl⟩:=jA r;have hn:=lB;exact len_str (by lia) ⟨.int z.length,H,I.tok _,⟨_,rfl⟩,q⟩
theorem call_tuple_of:gF X (.type "tuple") (fun xs H Q=>∃ p ys,xs=[.ref p]∧((SqL X.K H p ys∧∀ l,H l=none→Q (.ref l) (upd H l (.tup ys)))∨(SqT X.K H p ys∧Q (.ref p) H))):=by
 intro az s σ H xs us Q I r h;obtain ⟨p,ys,rfl,h⟩:=h;obtain ⟨u,rfl,rx⟩:=jA r;cases rx
 rcases h with ⟨hq,q⟩ | ⟨hq,q⟩
 ·obtain ⟨its,r',pl,hz⟩:=I.list hq
  have hlen:=r'.length;refine call_tuple_list pl.isList (fun h' kp=>?_) (by simp only [ay] <;> lia);have I1:Inv X az σ H { s with heap:=h' }:=I.kept (t':=s.toks) kp;have I2:Inv X az σ (upd H h'.objs.size (.tup ys)) { s with heap:=h'.push { cls:= .type "tuple",data:= .seq its.toArray } } :=
   I1.laid (t':=s.toks) (fun b o e=>aj _ e) (aH _) (show fU X.prog X.w _ _ _ (.tup ys) from ⟨hz,its,r',jg.new _ _⟩)
  exact ⟨.ref h'.objs.size,_,I2,rfl,q _ (I1.hok.fresh (aH _))⟩
 ·obtain ⟨its,r',pl,hz⟩:=I.tuple hq
  exact call_tuple_same pl ⟨.ref p,H,I,rfl,q⟩
def tyV (K:ai)(T:String)(x:V)(H:Hp):Prop:=match x with
 | .str _=>T = "str"
 | .int _=>T = "int"
 | .ref p=>(T = "list" ∧∃ xs,SqL K H p xs)∨(T = "tuple" ∧∃ o,K.lookup p=some o∧o.cls= .type "tuple" ∧o.dict=none) ∨
   (T = "dict" ∧((∃ kvs,H p=some (.dK kvs))∨∃ kvs,H p=some (.dT kvs)))∨(T = "set" ∧∃ S n,H p=some (.set S n))
 | _=>False
theorem tyV_is {x:V}{v:af}(I:Inv X az σ H s)(r:fD x v)(ty:tyV X.K T x H) :
  s.TypeIs v T∧∀ a,v= .ref a→∃ ob,s.heap.get? a=some ob∧ob.dict=none:=by
 cases x with
 | str z =>
  obtain ⟨t,rfl⟩:=r;cases (show T = "str" from ty);exact ⟨typeIs_str s z t,fun _ e=>nomatch e⟩
 | int i =>
  obtain ⟨t,rfl⟩:=r;cases (show T = "int" from ty);exact ⟨typeIs_int s i t,fun _ e=>nomatch e⟩
 | ref p =>
  cases r
  rcases ty with ⟨rfl,xs,hq⟩ | ⟨rfl,o,hk,hc,hd⟩ | ⟨rfl,hk⟩ | ⟨rfl,S,n,hk⟩
  ·obtain ⟨its,_,pl,_⟩:=I.list hq
   refine ⟨pl.isList.typeIs,fun a e=>?_⟩;cases e;obtain ⟨o,n,e,c,hd,_⟩:=pl;exact ⟨o,e,hd⟩
  ·refine ⟨⟨o,I.kIn p o hk,hc⟩,fun a e=>?_⟩
   cases e;exact ⟨o,I.kIn _ o hk,hd⟩
  ·have z:∃ o,s.heap.get? p=some o∧o.ExactDict:=by
    rcases hk with ⟨kvs,hk⟩ | ⟨kvs,hk⟩
    ·obtain ⟨_,_,_,_,o,_,_,e,ex,_⟩:=I.hok p _ hk
     exact ⟨o,e,ex⟩
    ·obtain ⟨_,_,_,_,o,_,_,e,ex,_⟩:=I.hok p _ hk
     exact ⟨o,e,ex⟩
   obtain ⟨o,e,ex⟩:=z;refine ⟨⟨o,e,ex.1⟩,fun a e2=>?_⟩;cases e2;exact ⟨o,e,ex.2.1⟩
  ·obtain ⟨o,_,_,_,e,ex,_⟩:=I.hok p _ hk
   refine ⟨⟨o,e,ex.1⟩,fun a e2=>?_⟩;cases e2;exact ⟨o,e,ex.2.1⟩
 | _=>exact eh ty
def tBM (K:ai)(T:String)(r:V→List V→Hp→VK→Prop)(to:TE)(t:TA):TE:=fun σ H Q=>to σ H fun x H1=>tyV K T x H1∧t σ H1 fun xs H2=>r x xs H2 Q
variable {o:Expr}{id:String}{r:V→List V→Hp→VK→Prop}
theorem jc (pa:PlainAttrs T)(slot:Slot T name id)(hty:typeOf (.builtin id)=fe (.type "method_descriptor"))(hm:MtR X id r)(ho:PE X o to)(ha:PA X (e::es) t)
  (hbase:fV o name X.env (cN o X.env)=cN o X.env:=by rfl)
  (hfew:((eu cpos (aU (e::es) X.env)).all (fun x=> !x.1) && (backToKw cpos (iB [] X.env)).all (fun x=>x.1.isSome)
   && decide ((e::es).length+([]:List Keyword).length+(if ([]:List Keyword).isEmpty then 0 else 1)<30))=true:=by rfl)
  (hline:(apos.endLine == cpos.line)=true:=by rfl) (hs:aU (e::es) X.env=(false,cN e X.env)::aU es X.env:=by rfl) (hplain:(eu cpos (aU es X.env)).any (·.1)=false:=by rfl) :
  PE X (.Call (.Attribute o name apos) (e::es) [] cpos) (tBM X.K T r to t):=by
 intro az s σ H Q I h;refine wpAny_Call_method_late hbase hfew hline rfl (thn (ho az s σ H _ I h) fun v s1 ⟨x,H1,I1,r1,ty,q1⟩=>?_);obtain ⟨h1,h2⟩:=tyV_is I1 r1 ty;refine ⟨T,id,pa,slot,hty,h1,h2,?_⟩;have hA:=ha cpos az s1 σ H1 _ I1 q1;rw [hs] at hA ⊢;refine fj (by show (false || (eu cpos (aU es X.env)).any (·.1))=false;rw [hplain] <;> rfl) (gY ?_);exact thn hA fun us s2 ⟨vs,H2,I2,r2,q2⟩=>hm az s2 σ H2 x vs v us Q I2 r1 r2 q2
end
def MtM (X:Cx)(id:String)(r:V→List V→Hp→VK→Prop):Prop :=
 ∀ (az:List (ak×Obj)) (s:al) (σ:St) (H:Hp) (x:V) (xs:List V) (v:af) (us:List af) (Q:VK),Inv X az σ H s→fD x v→eI xs us→r x xs H Q →
  aL (aZ X.prog X.w) X.A (call (.builtin id) (v::us)) (EP X az σ Q) X.xe s
theorem eI.one:∀ {x:V} {us:List af},eI [x] us→∃ u,us=[u]∧fD x u
 | _,_,.cons r .nil=>⟨_,rfl,r⟩
theorem eI.rep {xs:List V}{us:List af}(h:eI xs us):∀ k:Nat,eI (bV k xs).flatten (bV k us).flatten
 | 0=> .nil
 | k+1=>by
  rw [gg,gg,List.flatten_cons,List.flatten_cons];exact eI.append h (eI.rep h k)
theorem foldl_rep (its:List af):∀ (k:Nat) (acc:List af),
  List.foldl (fun x1 x2=>x1++x2) acc.toArray (bV k its.toArray)=(acc++(bV k its).flatten).toArray
 | 0,acc=>by simp
 | k+1,acc=>by
  have e:acc.toArray++its.toArray=(acc++its).toArray:=by simp
  have e2:(acc++its)++(bV k its).flatten=acc++(bV (k+1) its).flatten:=by
   rw [gg,List.flatten_cons,List.append_assoc]
  rw [←e2,←foldl_rep its k (acc++its),←e,gg,List.foldl_cons]
section
variable {l b:ak}{zs:List V}
theorem Inv.lset {its':List af}{f:Array af→Array af}(I:Inv X az σ H s)(hH:H l=some (.lst xs))
  (e:s.heap.get? l=some { cls:= .type "list",data:= .seq its.toArray n }) (hf:f its.toArray=its'.toArray) (hv:eI ys its') (hz:ys.length≤ar) :
  Inv X az σ (upd H l (.lst ys)) { s with heap:=s.heap.update l (Obj.mapSeq f),toks:=t' }:=by
 have q:=PySem.IsL.update e f;rw [hf] at q;refine I.write (x:=l) (e:=l) (by rw [hH];exact trivial) (.inl rfl) (fun b' u hb hu=>(bj.get?_update_other s.heap (Obj.mapSeq f) (cf hb)).trans hu) ⟨_,q⟩ ?_;exact ⟨hz,its',_,hv,q⟩
theorem Inv.lnew (I:Inv X az σ H s)(hv:eI ys its)(hz:ys.length≤ar) :
  Inv X az σ (upd H s.heap.objs.size (.lst ys)) { s with heap:=s.heap.push { cls:= .type "list",data:= .seq its.toArray },toks:=t' } :=
 I.laid (fun _ _ q=>aj _ q) (aH _) ⟨hz,its,0,hv,aA _ rfl⟩
theorem Inv.fresh (I:Inv X az σ H s):H s.heap.objs.size=none:=I.hok.fresh (aH _)
theorem Inv.lstM (I:Inv X az σ H s)(hH:H l=some (.lst xs)):xs.length≤ar∧∃ (its:List af) (n:Nat),eI xs its∧xs.length=its.length∧s.heap.get? l=some { cls:= .type "list",data:= .seq its.toArray n }:=by
 obtain ⟨z,its,n,r,e⟩:=I.hok l _ hH;exact ⟨z,its,n,r,r.length,e⟩
theorem notLongL (h:n≤ar):fK n=false:=by
 unfold fK;exact lM (by lia)
end
inductive rAppend (x:V)(vs:List V)(H:Hp)(Q:VK):Prop
 | mk (l xs y:_)(_:x= .ref l)(_:vs=[y])(_:H l=some (.lst xs))(_:xs.length<ar)(_:Q .non (upd H l (.lst (xs++[y]))))
theorem gM:MtM X "list.append" rAppend:=by
 intro az s σ H x vs v us Q I rx rv h;obtain ⟨l,xs,y,rfl,rfl,hH,hz,q⟩:=h;cases rx;obtain ⟨u,rfl,ru⟩:=rv.one;obtain ⟨z,its,n,r,hl,e⟩:=I.lstM hH;refine ie F.slot_list_append ⟨_,e,rfl⟩ F.entry_list_append (F.args_list_append_2 _ _) (PySem.list_append l its.toArray n u (by rw [ay];lia)) ⟨e,?_⟩;refine ⟨.non,_,I.lset (its':=its++[u]) hH e (by simp) (r.append (.cons ru .nil)) ?_,rfl,q⟩;rw [av,List.length_singleton];lia
inductive rExtend (x:V)(vs:List V)(H:Hp)(Q:VK):Prop
 | mk (l b xs zs:_)(_:x= .ref l)(_:vs=[.ref b])(_:H l=some (.lst xs))(_:H b=some (.lst zs))(_:xs.length+zs.length≤ar)(_:Q .non (upd H l (.lst (xs++zs))))
theorem mt_extend:MtM X "list.extend" rExtend:=by
 intro az s σ H x vs v us Q I rx rv h;obtain ⟨l,b,xs,zs,rfl,rfl,hH,hB,hz,q⟩:=h;cases rx;obtain ⟨u,rfl,ru⟩:=rv.one;cases ru;obtain ⟨z,its,n,r,hl,e⟩:=I.lstM hH;obtain ⟨z2,its2,n2,r2,hl2,e2⟩:=I.lstM hB;have hsz:its.toArray.size+its2.toArray.size≤ar:=by rw [ay,ay];lia
 have hlong:¬ (!its.toArray.isEmpty && fK (its.toArray.size+its2.toArray.size))=true:=by
  rw [notLongL hsz,Bool.and_false];exact aQ
 refine ie F.slot_list_extend ⟨_,e,rfl⟩ F.entry_list_extend (F.args_list_extend_2 _ _)
  (AutoSeq1.list_extend_list_list_0 l its.toArray n b its2.toArray n2 hlong (by rw [ay];lia) (by lia)) ⟨e,e2,?_⟩
 refine ⟨.non,_,I.lset (its':=its++its2) hH e (by simp) (r.append r2) ?_,rfl,q⟩;rw [av];lia
inductive rCat (x:V)(y:V)(H:Hp)(Q:VK):Prop
 | mk (l b xs zs:_)(_:x= .ref l)(_:y= .ref b)(_:H l=some (.lst xs))(_:H b=some (.lst zs))(_:xs.length+zs.length≤ar)(_:∀ p,H p=none→Q (.ref p) (upd H p (.lst (xs++zs))))
theorem op_cat:OpR X (eZ .Add) rCat:=by
 intro az s σ H x y v u Q I rx ry h;obtain ⟨l,b,xs,zs,rfl,rfl,hH,hB,hz,q⟩:=h;cases rx;cases ry;obtain ⟨z,its,n,r,hl,e⟩:=I.lstM hH;obtain ⟨z2,its2,n2,r2,hl2,e2⟩:=I.lstM hB;refine PySem.P.add_list e e2 ?_ (by rw [ay,ay];lia);have ea:its.toArray++its2.toArray=(its++its2).toArray:=by simp
 rw [ea];exact ⟨.ref _,_,I.lnew (t':=s.toks) (r.append r2) (by rw [av];lia),rfl,q _ I.fresh⟩
inductive rRep (x:V)(y:V)(H:Hp)(Q:VK):Prop
 | mk (l k xs:_)(_:x= .ref l)(_:y= .int k)(_:H l=some (.lst xs))(_: -(2 ^ 63)≤k)(_:k<2 ^ 63)(_:xs.length * k.toNat≤ar)(_:∀ p,H p=none→Q (.ref p) (upd H p (.lst (bV k.toNat xs).flatten)))
theorem len_rep (xs:List α)(k:Nat):(bV k xs).flatten.length=k * xs.length:=by
 induction k with
 | zero=>simp
 | succ k ih=>rw [gg,List.flatten_cons,av,ih,Nat.succ_mul,Nat.add_comm]
theorem op_rep:OpR X (eZ .Mult) rRep:=by
 intro az s σ H x y v u Q I rx ry h;obtain ⟨l,k,xs,rfl,rfl,hH,h1,h2,hz,q⟩:=h;cases rx;obtain ⟨t,rfl⟩:=ry;obtain ⟨z,its,n,r,hl,e⟩:=I.lstM hH;have hlen:its.toArray.size * k.toNat≤ar:=by rw [ay,←hl];exact hz
 have hcap:¬ its.toArray.size * k.toNat > (2 ^ 63 - 1) / 8:=by
  have:(ar:Nat)≤(2 ^ 63 - 1) / 8:=by decide
  lia
 have hfit:¬ (!Builtin.List.listFitsIndex k)=true:=by
  rw [fitsIndex_both h1 h2];exact aQ
 have hlong:¬ fK (its.toArray.size * k.toNat)=true:=by
  rw [notLongL hlen];exact aQ
 have hnew:List.foldl (fun x1 x2=>x1++x2) #[] (bV (if its.toArray.isEmpty=true then 0 else k.toNat) its.toArray)=(bV k.toNat its).flatten.toArray:=by
  have f0:∀ m:Nat,List.foldl (fun x1 x2=>x1++x2) #[] (bV m its.toArray)=(bV m its).flatten.toArray:=fun m=>by
   have:=foldl_rep its m [];rw [List.nil_append] at this;exact this
  rw [f0];cases its with
  | nil=>simp
  | cons a r'=>rw [lI (by simp)]
 refine wpAny_binaryOp_repeat_ref (T := "list") (U := "int") (by decide) ⟨_,e,rfl⟩ (fun s'=>typeIs_int s' k t) noFill_list_mul F.fills_int_mul F.slot_int_rmul repeat_list F.slot_int_index.lookup
  (ie F.slot_int_rmul (typeIs_int s k t) F.entry_int_rmul (F.args_int_rmul_2 _ _) (int___rmul___int_list k t l its.toArray n)
   ⟨e,rfl,⟨_,e,rfl⟩,ie F.slot_list_mul ⟨_,e,rfl⟩ F.entry_list_mul (F.args_list_mul_2 _ _) (AutoListH.list___mul___list_int_3 l its.toArray n k t hfit hcap hlong) ⟨e,?_⟩⟩)
 rw [hnew];exact ⟨.ref _,_,I.lnew (t':=s.toks) (r.rep k.toNat) (by rw [len_rep,Nat.mul_comm];exact hz),rfl,q _ I.fresh⟩
end L2
namespace Att
open PySem PySem.W PySem.Calls PyProof.Rows
theorem kQ {P:Params}:∀ (ns:List Int) (vs:List af),WellAll P h vs (ns.map WData.int)→IntsAre vs ns:=by
 intro ns
 induction ns with
 | nil =>
  intro vs w;rw [List.map_nil] at w;cases w;exact .nil
 | cons n ns ih =>
  intro vs w;rw [bJ] at w;cases w with
  | cons a b =>
   cases a;exact .cons _ _ (ih _ b)
theorem script_of {l:OpenLaw}(hn:l.most=some n){P:Params}{args:List WData}{vals:List af}
  (hpre:l.row.toRowW.claim.pre args=true) (hwl:WellAll P h vals args) :
  ∃ a vs ns,vals=[af.ref a]∧args=[WData.list (ns.map WData.int)]∧h.get? a=some { cls:= .type "list",data:= .seq vs.toArray }∧IntsAre vs ns∧ns.length≤n:=by
 have hsh:WShape.hasAll [] args [.list .int]=true:=(pre_splitW hpre).1;have hc:l.pre.holds [] { args:=args }=true:=(pre_splitW hpre).2;obtain ⟨d,r,rfl,h1,h2⟩:=hasAllW_cons hsh;obtain rfl:=hasAllW_nil h2;obtain ⟨xs,rfl,h3⟩:=hasW_list h1;obtain ⟨ns,rfl⟩:=items_int h3;have hlen:ns.length≤n:=by
  unfold OpenLaw.pre at hc;have h4:(WTm.not (.lt (.lit (.int (n:Int))) (.len (.arg 0)))).holds [] { args:=[.list (ns.map .int)] }=true:=by
   have h4:=(holds_andW hc).1;rw [hn] at h4;exact h4
  have h5:=condW_of h4 (w_not (w_lt w_lit (w_len_list (w_arg rfl))));rw [ae] at h5;refine Nat.le_of_not_lt fun q=>?_
  have q':(n:Int)<((ns.length:Nat):Int):=by lia
  first
   | (rw [lL q'] at h5;exact lK h5 (by decide))
   | (simp at h5;lia)
 cases hwl with
 | cons w1 w2 =>
  cases w2;cases w1 with
  | list ho hall=>exact ⟨_,_,ns,rfl,rfl,ho,kQ ns _ hall,hlen⟩
theorem post_true (l:OpenLaw)(args:List WData):l.row.toRowW.claim.post args (.bool true) args=true :=
 postW_of (r:=l.row.toRowW) (X:=(true == true))
  (show WShape.has [] (.bool true) .bool=true by first | rfl | decide | simp [WShape.has,WShape.arms,WShape.armsAll])
  (show (WTm.eq .res (.lit (.bool true))).value [] { args:=args,res:=some (.bool true),after:=args }=some (.bool (true == true)) from w_eq_bool (w_res rfl) w_lit) rfl
theorem attach_call {l:OpenLaw}{d:DefRec}
  (hn:l.most=some n) (hdf:d.params.defaults=[])
  (call:∀ (w:aV) (s₀ s₁:al) (mg mb:Str→Option af) (fa:ak) (o:Obj) (pm cd doc:af) (a:ak) (vs:List af) (ns:List Int),
   Ground q loose [] XP w s₀ mg mb s₁.heap→YP w s₁.heap →
   s₁.heap.get? fa=some o→o.data= .func (docDef d.name d.params d.body d.scope pm cd doc)→s₁.heap.CodeRec cd d.name→mg d.name=some (.ref fa) →
   s₁.heap.get? a=some { cls:= .type "list",data:= .seq vs.toArray }→IntsAre vs ns→ns.length≤n→s₁.gens= #[] →
   codeAny (aZ l.prog w) callerA (.call (.ref fa) ⟨[.ref a],[]⟩) (fun r s'=>r= .ok (.ret (.bool true))∧OldK s₁.heap s'.heap∧s'.os=s₁.os∧AllBare s'.gens) s₁) :
  WalkO q loose XP YP l.row.toRowW d [] (fun f vs=>PySem.call f vs):=by
 intro w s₀ s₁ mg mb G Y fa o pm cd doc dV kV ho hd hcd hD hmg hg args vals as hpre hlay hrd hwl hlo;obtain rfl:dV= .none:=Dflts.none hD hdf;obtain rfl:kV= .none:=Dflts.noKw hD;obtain ⟨a,vs,ns,rfl,rfl,hobj,hints,hlen⟩:=script_of hn hpre hwl;refine enter_call (codeAny_mono (call w s₀ s₁ mg mb fa o pm cd doc a vs ns G Y ho (fd_plain hd) hcd hmg hobj hints hlen hg) fun r s' hq=>?_);obtain ⟨rfl,h2,h3,h4⟩:=hq;exact ⟨.inl ⟨.bool true,.bool true,[],rfl,fun _=>rfl,.bool true,post_true l _,fun _=>⟨List.Pairwise.nil,fun _ hm=>(nomatch hm)⟩⟩,h2,h3,h4⟩
end Att
namespace L2
open PySem PySem.Spec PyProof.Rows
theorem vals_ints:∀ {vs:List af} {ns:List Int},IntsAre vs ns→eI (ns.map V.int) vs
 | _,_,.nil=> .nil
 | _,_,.cons n t h=> .cons ⟨t,rfl⟩ (vals_ints h)
def Only (H:Hp):Prop:=∀ b,H b=none∨∃ o xs,H b=some (.frz o (.lst xs))
theorem law_call {w:aV}{mb:Str→Option af}{sp:Sp}{s₁:al}{ns:List Int}
  (KX:K.In s₁.heap) (hns:s₁.heap.Ns aW mg) (hb:s₁.heap.Ns builtinsNs mb) (hbb:∀ x:Str,x ≠ "__name__" →mb x=bootBuiltins x) (hlim:s₁.heap.NoLimit) (hg:s₁.gens= #[])
  (ha:s₁.heap.get? a=some { cls:= .type "list",data:= .seq vs.toArray }) (hi:IntsAre vs ns) (hl:ns.length≤ar) (hr:iZ k callerA)
  (F:∀ base:bj,K.In base→base.Ns aW mg→cI P w K mg base CX k fa fd [x] sp) (hbind:∀ (s:al) (u:af),BindsTo s fd ⟨[u],[]⟩ [(x,u)])
  (hsp:∀ H:Hp,Only H→SqL K H a (ns.map V.int)→sp [.ref a] H (fun v _=>v= .bl true) fun _ _ _=>False)
  (hCX:∀ H e s',CX [] H s₁ (fun _ _ _=>False) e s'→False) :
  codeAny (aZ P w) callerA (.call (.ref fa) ⟨[.ref a],[]⟩) (fun r s'=>r= .ok (.ret (.bool true))∧OldK s₁.heap s'.heap∧s'.os=s₁.os∧AllBare s'.gens) s₁:=by
 have rv:=vals_ints hi;have lenV:=hi.length;have core:∀ H:Hp,Only H→SqL K H a (ns.map V.int)→HOk P w H s₁.heap→(∀ b,H b≠none→b=a)→(H a≠none→K.lookup a=none) →
   codeAny (aZ P w) callerA (.call (.ref fa) ⟨[.ref a],[]⟩) (fun r s'=>r= .ok (.ret (.bool true))∧OldK s₁.heap s'.heap∧s'.os=s₁.os∧AllBare s'.gens) s₁:=by
  intro H hO hS hok hA hK;have base_of:∀ {b:ak} {o:Obj},s₁.heap.get? b=some o→H b=none→(hidT s₁.heap H).get? b=some o:=fun e n=>hidT_get e n
  have noA:∀ {b:ak} {o:Obj} {es:Array DictEntry} {ep:Nat},s₁.heap.get? b=some o→o.data= .dict es ep→H b=none:=fun {b o es ep} e d=>by
   cases q:H b with
   | none=>rfl
   | some u =>
    have e':b=a:=hA b (by rw [q];simp);subst e';rw [ha] at e;cases e;have d':Data.seq vs.toArray _=Data.dict es ep:=d;cases d'
  have nsK:∀ {b:ak} {m:Str→Option af},s₁.heap.Ns b m→(hidT s₁.heap H).Ns b m:=fun {b m} ⟨o,es,ep,e,d,r⟩=>⟨o,es,ep,base_of e (noA e d),d,r⟩
  have hKb:K.In (hidT s₁.heap H):=fun b o e=>base_of (KX b o e) (by
   cases q:H b with
   | none=>rfl
   | some u =>
    have e':b=a:=hA b (by rw [q];simp);subst e';rw [hK (by rw [q];simp)] at e;cases e)
  have hM:Mod K mg (hidT s₁.heap H):=⟨hKb,nsK hns,⟨mb,nsK hb,hbb⟩,let ⟨mc,h1,h2⟩:=hlim;⟨mc,nsK h1,h2⟩⟩;have e0:Env0 P w K mg (hidT s₁.heap H) callerA [] s₁ H:=⟨rfl,hM,fun b o e=>of_hidT e,Nat.le_of_eq (hidT_size _ _),trivial,fun b hb=>lK (show b∈([]:List ak) from hb) (by simp),hok,.of_eq hg⟩;refine codeAny_mono ((F _ hKb (nsK hns)).run callerA [] s₁ H ⟨[.ref a],[]⟩ [.ref a] [.ref a] _ _ hr e0 (hbind s₁ (.ref a)) (.cons rfl .nil) (hsp H hO hS)) fun r s' h=>?_
  cases r with
  | error e=>exact (hCX H e s' h).elim
  | ok fl =>
   cases fl with
   | next=>exact eh h
   | brk=>exact eh h
   | cont=>exact eh h
   | ret u =>
    obtain ⟨v,H',os,bare,un,hok',r',q⟩:=h;have q':v= .bl true:=q;subst q';obtain rfl:u=af.bool true:=r';refine ⟨rfl,OldK.of_keep fun b o e=>?_,os,bare⟩;cases q:H b with
    | none=>exact un.keep b o e q (by intro z;exact lK (show b∈([]:List ak) from z) (by simp)) (by simp)
    | some u =>
     rcases hO b with z | ⟨ob,xs,z⟩
     ·rw [q] at z;cases z
     ·have z2:=un.frzs b ob _ z
      obtain ⟨e1,_⟩:=hok b _ z;obtain ⟨e2,_⟩:=hok' b _ z2;rw [e] at e1;cases e1;exact e2
 cases hk:K.lookup a with
 | some o =>
  have e:=KX a o hk;rw [ha] at e;cases e;refine core (fun _=>none) (fun _=> .inl rfl) (.inr ⟨_,vs.toArray,_,hk,rfl,rfl,rfl,by rw [ay,lenV];exact hl,by simpa using rv⟩) (fun b u z=>by have z':(none:Option HO)=some u:=z;cases z') (fun b z=>lK rfl z) fun z=>lK rfl z
 | none =>
  refine core (fun b=>if b=a then some (.frz { cls:= .type "list",data:= .seq vs.toArray } (.lst (ns.map V.int))) else none) (fun b=>?_) (.inl (.inr ⟨{ cls:= .type "list",data:= .seq vs.toArray },lJ rfl⟩)) (fun b u z=>?_) (fun b z=>?_) fun _=>hk
  ·by_cases hb:b=a
   ·exact .inr ⟨_,_,lJ hb⟩
   ·exact .inl (lI hb)
  ·by_cases hb:b=a
   ·have z':=(lJ hb).symm.trans z
    cases z';subst hb;exact ⟨ha,by rw [ae];exact hl,vs,_,rv,ha⟩
   ·have z':=(lI hb).symm.trans z
    cases z'
  ·by_cases hb:b=a
   ·exact hb
   ·exact lK (lI hb) z
theorem walk_of {l:PySem.W.OpenLaw}{d:DefRec}{K:Params→ai}{CX:aV→CXT}{sp:aV→Sp}
  (hn:l.most=some n) (hn2:n≤ar) (hdf:d.params.defaults=[]) (hr:iZ k callerA)
  (hY:∀ (w:aV) (h:bj),YP w h→(K w.params).In h)
  (F:∀ (w:aV) (mg:Str→Option af) (fa:ak) (h:bj),(K w.params).In h→h.Ns aW mg→mg d.name=some (.ref fa) →
   ∃ fd:aO,(∀ (s:al) (u:af),BindsTo s fd ⟨[u],[]⟩ [(x,u)]) ∧
    ∀ base:bj,(K w.params).In base→base.Ns aW mg→cI l.prog w (K w.params) mg base (CX w) k fa fd [x] (sp w))
  (hsp:∀ (w:aV) (H:Hp) (a:ak) (ns:List Int),ns.length≤n→Only H→SqL (K w.params) H a (ns.map V.int)→sp w [.ref a] H (fun v _=>v= .bl true) fun _ _ _=>False)
  (hCX:∀ (w:aV) (H:Hp) (s:al) (e:af) (s':al),CX w [] H s (fun _ _ _=>False) e s'→False) :
  PySem.W.WalkO q loose XP YP l.row.toRowW d [] (fun f vs=>PySem.call f vs):=by
 refine Att.attach_call hn hdf fun w s₀ s₁ mg mb fa o pm cd doc a vs ns G Y ho hd hcd hmg hobj hints hlen hg=>?_
 have KX:=hY w _ Y;obtain ⟨fd,hb,hF⟩:=F w mg fa _ KX G.T.g hmg;exact law_call KX G.T.g G.T.b G.T.builtins G.T.nolimit hg hobj hints (bQ hlen hn2) hr hF hb (fun H hO hS=>hsp w H a ns hlen hO hS) fun H e s'=>hCX w H s₁ e s'
abbrev CX0:CXT:=fun _ _ _ _ _ _=>False
abbrev E0:XK:=fun _ _ _=>False
theorem fz:j9 CX0 X E0:=fun _ _ _ _ _ _ _ h=>h.elim
structure Fun (K:ai)(x qual:Str)(st:b8)(f:ak)(fd:aO):Prop where
 ex:∃ (oc:af) (od:Option ak) (kV doc pm:af) (an:Option ak) (cdv ct:af) (osl:Array (Option af)),
  fd=dq x qual (iC st) (hV st) (defScope st) .none kV doc pm an cdv ct∧K.lookup f=some ⟨oc,od,.func fd,osl⟩∧gC K cdv qual=true
 kp:c6 K (.ref f)=true
section
variable {w:aV}
theorem Fun.ok {sp:Sp}(F:Fun K x qual st f fd)(S:bE N ps (defScope st))(len:∀ vs H Q E,sp vs H Q E→vs.length=ps.length)
  (hbody:∀ (cdv:af) (A:bB) (outer:List Env) (s:al) (H:Hp) (vs:List V) (Q:VK) (E:XK),iZ k (A.deeper (envOfC qual (defScope st) s.heap.objs.size f cdv))→sp vs H Q E →
   ∃ t,PSs (cxOf CX0 P w K mg base N qual (defScope st) f cdv A outer s H E).nox (hV st) t∧t { nx:=fun _ H'=>Q .non H',rt:=Q } (start N vs) H):cI P w K mg base CX0 (k+1) f fd ps sp:=by
 obtain ⟨oc,od,kV,doc,pm,an,cdv,ct,osl,rfl,lk,hcd⟩:=F.ex;refine fn_of lk hcd S len fun A outer s H vs Q E hr hsp=>?_
 obtain ⟨t,h,q⟩:=hbody cdv A outer s H vs Q E hr hsp;exact ⟨t,h.nox,q⟩
theorem Fun.binds (F:Fun K x qual st f fd)
  (h:∀ (kV doc pm:af) (an:Option ak) (cdv ct:af) (us:List af),us.length=ps.length→bindArgs (dq x qual (iC st) (hV st) (defScope st) .none kV doc pm an cdv ct) ⟨us,[]⟩=fe (ps.zip us)):Binds K fd ps []:=by
 obtain ⟨oc,od,kV,doc,pm,an,cdv,ct,osl,rfl,lk,hcd⟩:=F.ex;exact .all (h kV doc pm an cdv ct)
theorem fun_mk {oc:af}{an:Option ak}{kV doc pm cdv ct:af}(l:K.lookup f=some ⟨oc,od,.func (dq x qual (iC st) (hV st) (defScope st) .none kV doc pm an cdv ct),osl⟩)
  (c:gC K cdv qual=true) (k:c6 K (.ref f)=true):Fun K x qual st f (dq x qual (iC st) (hV st) (defScope st) .none kV doc pm an cdv ct):=⟨⟨oc,od,kV,doc,pm,an,cdv,ct,osl,rfl,l,c⟩,k⟩
end
theorem pv (i:Nat)(hN:X.N[i]? =some x:=by rfl)(hv:Vis X.env.scope x:=by first | exact Or.inl rfl | exact Or.inr (Or.inl rfl) | exact Or.inr (Or.inr rfl))(hd:(x == ("__debug__" :Str))=false:=by decide)
  (hcd:(x == ("__classdict__" :Str))=false:=by decide):PE X (.Name x pos) (tVar i):=pe_var hN hv hd hcd
theorem iteT {A:Prop}(h:A):if true=true then A else B:=by
 rw [lJ rfl];exact h
theorem jG {c A:Prop}[Decidable c](h1:c→A)(h2:¬ c→B):if c then A else B:=by
 by_cases h:c
 ·rw [lJ h]
  exact h1 h
 ·rw [lI h]
  exact h2 h
def bO (H H':Hp):Prop:=∀ b o,H b=some o→H' b=some o
theorem bO.refl (H:Hp):bO H H:=fun _ _ h=>h
theorem bO.trans (a:bO H H1)(b:bO H1 H2):bO H H2:=fun c o h=>b c o (a c o h)
theorem op_fdivB:OpR X (eZ .FloorDiv) (rI (fun _ j=>0<j∧j.natAbs.log2<9000) fun i j=> .int (i / j)):=opI fun i j _ _ _ _ _ hc q=>by
 have e:i.fdiv j=i / j:=Int.fdiv_eq_ediv_of_nonneg i (Int.le_of_lt hc.1);refine floordiv_int (by have:=hc.1;lia) ?_ (.inl (PyProof.noPylong_of_log2 hc.2));rw [e];exact q
theorem bools_of:∀ {bs:List Bool} {us:List af},eI (bs.map V.bl) us→LSm.BoolsAre us bs
 | [],_,.nil=> .nil
 | b::bs,_,.cons r t=>by
  cases (show _=af.bool b from r);exact .cons b (bools_of t)
theorem call_all (hc:X.calm=true):gF X (.builtin "all") (fun xs H Q=>∃ (p:ak) (bs:List Bool),xs=[.ref p]∧SqL X.K H p (bs.map V.bl)∧Q (.bl (bs.all id)) H):=by
 intro az s σ H xs us Q I r h;obtain ⟨p,bs,rfl,hq,q⟩:=h;obtain ⟨u,rfl,ru⟩:=jA r;cases (show u=af.ref p from ru);obtain ⟨its,rv,pl,hz⟩:=I.list hq;have hb:=bools_of rv;have hil:s.heap.IsList p its.toArray:=pl.isList;have plt:p<s.heap.objs.size:=by obtain ⟨_,e,_⟩:=hil;exact aE e
 refine call_all_walk (eU hil ⟨s.heap.objs.size,[s.heap.objs.size,p],[s.heap.objs.size],its.toArray.size,_,_,fun i=>(bs[i]?).getD true,rfl,
  Walks.list (A:=X.A.in1) (I.ok.hd hc) _ p (bu plt) its.toArray,⟨⟨_,aA _ rfl,rfl,rfl⟩,hil.push _⟩,?_,?_⟩)
 ·intro i v s' Q' E' hP hT
  obtain ⟨b,e,rfl⟩:=hb.get i v (by simpa using hP);simp only [e,Option.getD_some] at hT;exact eT hT
 ·intro h' tk hk
  have e2:((bH its.toArray.size).all fun i=>(bs[i]?).getD true)=bs.all id:=by
   rw [ay,hb.length];exact LSm.range_all bs
  rw [e2];exact ⟨.bl _,H,I.kept (LSm.kept_iter hk),rfl,q⟩
def tyn (H:Hp):V→Option String
 | .non=>some "NoneType"
 | .bl _=>some "bool"
 | .int _=>some "int"
 | .str _=>some "str"
 | .ref a=>match H a with
  | some (.lst _)=>some "list"
  | some (.tup _)=>some "tuple"
  | some (.dK _)=>some "dict"
  | _=>none
 | _=>none
theorem TyOf.byName (h:tyn H v=some T):TyOf K H v (.type T):=by
 cases v with
 | non=>cases h;exact .non
 | bl b=>cases h;exact .bl b
 | int i=>cases h;exact .int i
 | str x=>cases h;exact .str x
 | ref a =>
  simp only [tyn] at h;cases e:H a with
  | none=>rw [e] at h;cases h
  | some o =>
   rw [e] at h;cases o <;> first | (cases h;first | exact .lst e | exact .tup e | exact .dK e) | cases h
 | _=>cases h
theorem kit_tuple (K:ai)(h:T∈["NoneType","bool","int","str","list","tuple","dict"]):gy K (.type T) (.type "tuple")=some (T == "tuple"):=by
 simp only [aq,aI,or_false] at h
 rcases h with rfl | rfl | rfl | rfl | rfl | rfl | rfl <;> kernel_rfl
theorem kit_int (K:ai)(h:T∈["NoneType","bool","int","str","list","tuple","dict"]):gy K (.type T) (.type "int")=some (T == "int" || T == "bool"):=by
 simp only [aq,aI,or_false] at h
 rcases h with rfl | rfl | rfl | rfl | rfl | rfl | rfl <;> kernel_rfl
theorem kit_bool (K:ai)(h:T∈["NoneType","bool","int","str","list","tuple","dict"]):gy K (.type T) (.type "bool")=some (T == "bool"):=by
 simp only [aq,aI,or_false] at h
 rcases h with rfl | rfl | rfl | rfl | rfl | rfl | rfl <;> kernel_rfl
theorem tyn_mem (h:tyn H v=some T):T∈["NoneType","bool","int","str","list","tuple","dict"]:=by
 cases v with
 | non=>cases h;simp
 | bl b=>cases h;simp
 | int i=>cases h;simp
 | str x=>cases h;simp
 | ref a =>
  simp only [tyn] at h;cases e:H a with
  | none=>rw [e] at h;cases h
  | some o =>
   rw [e] at h;cases o <;> first | (cases h;simp;done) | cases h
 | _=>cases h
theorem iS:gF X (.builtin "isinstance") (fun xs H Q=>∃ x n t b,xs=[x,.ty n]∧TyOf X.K H x t∧gy X.K t (.type n)=some b∧Q (.bl b) H):=by
 intro az s σ H xs us Q I r h;obtain ⟨x,n,t,b,rfl,ty,e,q⟩:=h;obtain ⟨u,w',rfl,ru,rw'⟩:=vals2 r;cases (show w'=af.type n from rw');exact isinst_ok I ru ty e fun tk=>⟨.bl b,H,I.tok tk,rfl,q⟩
theorem call_isTup:gF X (.builtin "isinstance") (fun xs H Q=>∃ x T,xs=[x,.ty "tuple"]∧tyn H x=some T∧Q (.bl (T == "tuple")) H) :=
 fun az s σ H xs us Q I r ⟨x,T,e,hT,q⟩=>iS az s σ H xs us Q I r ⟨x,_,_,_,e,.byName hT,kit_tuple _ (tyn_mem hT),q⟩
theorem call_isInt:gF X (.builtin "isinstance") (fun xs H Q=>∃ x T,xs=[x,.ty "int"]∧tyn H x=some T∧Q (.bl (T == "int" || T == "bool")) H) :=
 fun az s σ H xs us Q I r ⟨x,T,e,hT,q⟩=>iS az s σ H xs us Q I r ⟨x,_,_,_,e,.byName hT,kit_int _ (tyn_mem hT),q⟩
theorem call_isBool:gF X (.builtin "isinstance") (fun xs H Q=>∃ x T,xs=[x,.ty "bool"]∧tyn H x=some T∧Q (.bl (T == "bool")) H) :=
 fun az s σ H xs us Q I r ⟨x,T,e,hT,q⟩=>iS az s σ H xs us Q I r ⟨x,_,_,_,e,.byName hT,kit_bool _ (tyn_mem hT),q⟩
inductive rCatA (K:ai)(x:V)(y:V)(H:Hp)(Q:VK):Prop
 | mk (a b xs ys:_)(_:x= .ref a)(_:y= .ref b)(_:H a=some (.tup xs))(_:H b=some (.tup ys))(_:xs.length+ys.length≤ar)(_:∀ p H',bO H H'→H' p=some (.tup (xs++ys))→Q (.ref p) H')
theorem op_catA:OpR X (eZ .Add) (rCatA X.K):=by
 intro az s σ H x y v u Q I rx ry h;obtain ⟨a,b,xs,ys,rfl,rfl,ha,hb,hz,q⟩:=h;cases xs with
 | cons x xs =>
  refine op_catT az s σ H (.ref a) (.ref b) v u Q I rx ry ⟨a,b,_,ys,rfl,rfl,SqT.of ha,SqT.of hb,(by simp),hz,fun e=>?_,fun _ p hp=>?_⟩
  ·subst e
   exact q a H (bO.refl H) (by rw [List.append_nil];exact ha)
  ·exact q p _ (fun c o e=>by rw [aR (aJ e hp)];exact e) aK
 | nil =>
  cases (show v=af.ref a from rx);cases (show u=af.ref b from ry);obtain ⟨its,r1,p1,_⟩:=I.tuple (SqT.of (K:=X.K) ha);obtain ⟨its2,r2,p2,_⟩:=I.tuple (SqT.of (K:=X.K) hb);cases r1;obtain ⟨⟨c1,d1,t1,l1⟩,o1,k1,n1,g1⟩:=id p1;obtain ⟨⟨c2,d2,t2,l2⟩,o2,k2,n2,g2⟩:=id p2;simp only at k1 g1 k2 g2;subst k1 g1 k2 g2;exact concat_meets ⟨_,o1,rfl⟩ ⟨_,o2,rfl⟩ noFill_tuple_add seq_tuple_add PySem.F.slot_tuple_add iU (iL _ _)
   (tuple_addW0 a b _ its2.toArray n1 n2 d1 d2 l1 l2 (by simp)) ⟨o1,o2,⟨.ref b,H,I,rfl,q b H (bO.refl H) hb⟩⟩
def eQ (X:Cx)(scope:Scope)(cl:List (Str×ak))(C:ak)(N:List Str)(s:al)(H:Hp)(ex:List ak):Cx :=
 { X with N:=N,s₀:=s,H₀:=H,env:=compEnvC scope cl C X.env,outer:=X.stack,ex:=ex,fn:=fun _=>false,pn:=[],xe:=fun _ _=>False }
theorem closure_has (hf:∀ y∈scope.names,y.2= .free→∃ c,env.cells.lookup y.1=some c) :
  ∃ cl,closureFor scope env=fe cl∧(∀ x c,cl.lookup x=some c→env.cells.lookup x=some c)∧∀ y∈scope.names,y.2= .free→cl.lookup y.1=env.cells.lookup y.1:=by
 have aux:∀ (names:List (Str×cB)) (acc:List (Str×ak)),(∀ y∈names,y.2= .free→∃ c,env.cells.lookup y.1=some c)→(∀ x c,acc.lookup x=some c→env.cells.lookup x=some c) →
   ∃ cl,(forIn names acc fun x r=>match x with
     | (name,kind)=>if (kind == cB.free)=true then (cellOf env name >>= fun c=>fe (ForInStep.yield ((name,c)::r))) else fe (ForInStep.yield r):Sem (List (Str×ak)))=fe cl ∧
    (∀ x c,cl.lookup x=some c→env.cells.lookup x=some c)∧(∀ x c,acc.lookup x=some c→cl.lookup x=some c)∧∀ y∈names,y.2= .free→cl.lookup y.1=env.cells.lookup y.1:=by
  intro names
  induction names with
  | nil=>intro acc _ ha;exact ⟨acc,rfl,ha,fun _ _ e=>e,fun y hy=>lK hy (by simp)⟩
  | cons z r ih =>
   intro acc hn ha;obtain ⟨n,k⟩:=z;have hr:∀ y∈r,y.2= .free→∃ c,env.cells.lookup y.1=some c:=fun y hy=>hn y (aS _ hy)
   by_cases hk:k= .free
   ·subst hk
    obtain ⟨c,hc⟩:=hn (n,.free) bW rfl;have hc:env.cells.lookup n=some c:=hc;have ha':∀ x d,((n,c)::acc).lookup x=some d→env.cells.lookup x=some d:=fun x d e=>by
     rw [cX] at e;cases hx:x == n with
     | true =>
      rw [hx] at e;have e':c=d:=bx e;have ex:x=n:=eq_of_beq hx;rw [ex,←e'];exact hc
     | false=>rw [hx] at e;exact ha x d e
    obtain ⟨cl,e1,e2,e3,e4⟩:=ih ((n,c)::acc) hr ha';have jf:cellOf env n=fe c:=by unfold cellOf;rw [hc]
    refine ⟨cl,?_,e2,fun x d e=>?_,fun y hy hy2=>?_⟩
    ·rw [List.forIn_cons]
     show ((if (cB.free == cB.free)=true then (cellOf env n >>= fun c=>fe (ForInStep.yield ((n,c)::acc))) else fe (ForInStep.yield acc)) >>= _)=_;rw [lJ (by decide:(cB.free == cB.free)=true),jf];exact e1
    ·have h1:((n,c)::acc).lookup x=some (if x == n then c else d):=by
      rw [cX];cases hx:x == n with
      | true=>rfl
      | false=>exact e
     have h2:=e3 x _ h1;have h3:=e2 x _ h2;have h4:=ha x d e;rw [h3] at h4;rw [h2];exact h4
    ·rcases aq.mp hy with rfl | hy3
     ·have h1:((n,c)::acc).lookup n=some c:=by rw [cX,beq_self_eq_true]
      show cl.lookup n=_;rw [e3 n c h1,hc]
     ·exact e4 y hy3 hy2
   ·have hb:(k == cB.free)=false:=by simpa using hk
    obtain ⟨cl,e1,e2,e3,e4⟩:=ih acc hr ha;refine ⟨cl,?_,e2,e3,fun y hy hy2=>?_⟩
    ·rw [List.forIn_cons]
     show ((if (k == cB.free)=true then (cellOf env n >>= fun c=>fe (ForInStep.yield ((n,c)::acc))) else fe (ForInStep.yield acc)) >>= _)=_;rw [hb];exact e1
    ·rcases aq.mp hy with rfl | hy3
     ·exact lK hy2 hk
     ·exact e4 y hy3 hy2
 obtain ⟨cl,e1,e2,_,e4⟩:=aux scope.names [] hf fun x c e=>by cases e
 refine ⟨cl,Eq.trans ?_ e1,e2,e4⟩;unfold closureFor
 first
  | rfl
  | (simp only [bind_pure];done)
  | (simp only [bind_pure];rfl)
  | (simp only [bind_pure]
     congr 1
     funext x r
     obtain ⟨n,k⟩:=x;cases (k == cB.free) <;> rfl)
theorem jW {env:Env}:∀ {names:List (Str×cB)} {x:Str} {k':cB},
  (names.map fun (n,k)=>if (k == cB.free && env.scope.kind == .function && env.kindOf n == some .cell) then (n,cB.cell) else (n,k)).lookup x=some k' →
  names.lookup x=some k'∨(names.lookup x=some .free∧k'= .cell)
 | [],_,_,h=>by simp at h
 | (n,k)::r,x,k',h=>by
  have ih:= @jW env r x k';rw [bJ] at h;show dv x ((n,k)::r)=_∨(dv x ((n,k)::r)=_∧_);rw [cX]
  by_cases hq:(k == cB.free && env.scope.kind == .function && env.kindOf n == some .cell)=true
  ·have g:dv x ((if (k == cB.free && env.scope.kind == .function && env.kindOf n == some .cell)=true then (n,cB.cell) else (n,k))::_)=_:=h
   rw [lJ hq,cX] at g;have hk:k= .free:=by
    rw [b9,b9] at hq;exact eq_of_beq hq.1.1
   cases hx:x == n with
   | true=>rw [hx] at g;rw [hk];exact .inr ⟨rfl,(bx g).symm⟩
   | false=>rw [hx] at g;exact ih g
  ·have g:dv x ((if (k == cB.free && env.scope.kind == .function && env.kindOf n == some .cell)=true then (n,cB.cell) else (n,k))::_)=_:=h
   rw [lI hq,cX] at g;cases hx:x == n with
   | true=>rw [hx] at g;exact .inl g
   | false=>rw [hx] at g;exact ih g
theorem ij {env:Env}(hk:env.scope.kind= .function){x:Str}(hx:env.kindOf x=some .cell):∀ {names:List (Str×cB)},names.lookup x=some .free →
  (names.map fun (n,k)=>if (k == cB.free && env.scope.kind == .function && env.kindOf n == some .cell) then (n,cB.cell) else (n,k)).lookup x=some .cell
 | [],h=>by simp at h
 | (n,k)::r,h=>by
  have ih:= @ij env hk x hx r;show dv x ((if (k == cB.free && env.scope.kind == .function && env.kindOf n == some .cell)=true then (n,cB.cell) else (n,k))::_)=some cB.cell;rw [cX] at h;cases hxn:x == n with
  | true =>
   rw [hxn] at h;have ek:k= .free:=bx h;have en:x=n:=eq_of_beq hxn;subst ek en;rw [lJ (by rw [hk,hx];rfl),cX,beq_self_eq_true]
  | false =>
   rw [hxn] at h
   by_cases hq:(k == cB.free && env.scope.kind == .function && env.kindOf n == some .cell)=true
   ·rw [lJ hq,cX,hxn];exact ih h
   ·rw [lI hq,cX,hxn];exact ih h
def PTs (X:Cx)(ifs:List Expr)(t:TT):Prop :=
 ∀ (az:List (ak×Obj)) (s:al) (σ:St) (H:Hp) (Q:Bool→Hp→Prop),Inv X az σ H s→t σ H Q →
  aL (aZ X.prog X.w) X.A (forIn ifs true fun c r=>if r=true then do let ok ← isTrue c X.env (cN c X.env);fe (ForInStep.yield ok) else fe (ForInStep.yield r)) (TP X az σ Q) X.xe s
def tNoIf:TT:=fun _ H Q=>Q true H
theorem fk {A B:Hp→Prop}(h:A H):tNoIf σ H fun b H4=>if b=true then A H4 else B H4:=by
 show if true=true then A H else B H;rw [lJ rfl];exact h
theorem gp:PTs X [] tNoIf:=fun _ _ _ H _ I h=>wpAny_tests_nil ⟨H,I,h⟩
theorem pts_one {c:Expr}{t:TT}(h:PT X c t):PTs X [c] t:=fun az s σ H Q I q=>wpAny_tests_one (h az s σ H Q I q)
theorem HOk.take {w:aV}(x:HOk P w H h)(hn:H a=none)(new:fU P w (upd H a o) h a o):HOk P w (upd H a o) h:=fun b u e=>by
 by_cases hb:b=a
 ·subst hb;rw [aK] at e;cases e;exact new
 ·rw [aR hb] at e
  exact (x b u e).stay (fun _ _ _ q=>q) (fun c q=>by rw [aR (aJ q hn)];exact q) fun c xs q=>by rw [aR (aJ q hn)];exact q
def dz (σ:St)(js:List Nat):St:=js.map fun j=>(σ[j]?).getD none
def CompW (js:List Nat)(tt:TT)(te:TE)(σ:St)(Q:VK)(J:It)(H1:Hp):Prop:=∃ W:Nat→Nat→List V→Hp→Prop,(∃ m,W 0 m [] H1)∧∀ i m ys H2,W i m ys H2 →
 (J.stop i H2∧∀ D,H2 D=none→Q (.ref D) (upd H2 D (.lst ys))) ∨
 (J.go i H2∧ys.length<ar∧∃ N:List V→Hp→Prop,(∀ ys' H',N ys' H'→∃ m',m'<m∧W (i+1) m' ys' H')∧∀ x H3,J.yld i H2 x H3→tt (some x::dz σ js) H3 fun b H4 =>
  if b=true then te (some x::dz σ js) H4 fun y H5=>N (ys++[y]) H5 else N ys H4)
def tComp (wi:TI)(js:List Nat)(tt:TT)(te:TE):TE:=fun σ H Q=>wi σ H fun J H1=>CompW js tt te σ Q J H1
abbrev lobj (us:List af)(n:Nat):Obj:={ cls:= .type "list",data:= .seq us.toArray n }
section
variable {w:aV}
abbrev lF (prog:aB)(w:aV)(A:bB)(env:Env)(R:Result→al→Prop):af→al→Prop:=notedBy (aZ prog w) A env fun x t=>R (.error x) t
theorem loop_any {it acc:af}(J:Nat→al→Prop)
  (step:∀ k t,J k t→aL (aZ prog w) A (pyNext it) (fun r t1=>match r with
   | none=>R (.ok .next) t1
   | some v=>aL (aZ prog w) A (iJ tg it v) (fun _ t2=>aL (aZ prog w) A (assign tg env v) (fun _ t3 =>
     aL (aZ prog w) A (forIn ifs true fun c b=>if b=true then do let z ← isTrue c env (cN c env);fe (ForInStep.yield z) else fe (ForInStep.yield b)) (fun z t4 =>
      if z=true then aL (aZ prog w) A (cN elt env) (fun y t5=>aL (aZ prog w) A (call (.builtin "list.append") [acc,y]) (fun _ t6=>∃ m,m<k∧J m t6) (lF prog w A env R) t5) (lF prog w A env R) t4
      else ∃ m,m<k∧J m t4) (lF prog w A env R) t3) (lF prog w A env R) t2) (lF prog w A env R) t1) (lF prog w A env R) t)
  (k:Nat) (h:J k s):codeAny (aZ prog w) A (.compLoop (.ListComp elt [⟨tg,iter,ifs,0⟩] scope pos) 0 it acc env) R s:=by
 refine codeAny_loop rfl J (fun k t hJ=>?_) k h;show aL _ A ((compTurn (.ListComp elt [⟨tg,iter,ifs,0⟩] scope pos) 0 it acc env).onRaise (fun y=>do noteFrame y env;theTreesLotGoes y)) _ _ t;refine wpAny_noted ?_;rw [compTurn_list];refine ag (wpAny_standAt (ag (c5 (step k t hJ) (fun r t1 q1=>?_) fun _ _ f=>f)));cases r with
 | none=>exact ax q1
 | some v =>
  refine ag (c5 q1 (fun _ t2 q2=>?_) fun _ _ f=>f);refine ag (c5 q2 (fun _ t3 q3=>?_) fun _ _ f=>f);refine ag (c5 q3 (fun z t4 q4=>?_) fun _ _ f=>f);cases z with
  | false=>exact ax ⟨rfl,q4⟩
  | true=>exact ag (ag (c5 q4 (fun y t5 q5=>ag (c5 q5 (fun _ t6 q6=>ax (ax ⟨rfl,q6⟩)) fun _ _ f=>f)) fun _ _ f=>f))
end
def lH (n:Nat)(g:TG)(js:List Nat)(tt:TT)(te:TE)(σ:St)(Q:VK)(J:It)(H1:Hp):Prop:=∃ W:Nat→Nat→List V→Hp→Prop,(∃ m,W 0 m [] H1)∧∀ i m ys H2,W i m ys H2 →
 (J.stop i H2∧∀ D,H2 D=none→Q (.ref D) (upd H2 D (.lst ys))) ∨
 (J.go i H2∧ys.length<ar∧∃ N:List V→Hp→Prop,(∀ ys' H',N ys' H'→∃ m',m'<m∧W (i+1) m' ys' H')∧∀ x H3,J.yld i H2 x H3→∀ v0:St,v0.length=n→g x (v0++dz σ js) H3 fun σ4 H4 =>
  (∃ v1:St,v1.length=n∧σ4=v1++dz σ js)∧tt σ4 H4 fun b H5=>if b=true then te σ4 H5 fun y H6=>N (ys++[y]) H6 else N ys H5)
def tCompT (wi:TI)(n:Nat)(g:TG)(js:List Nat)(tt:TT)(te:TE):TE:=fun σ H Q=>wi σ H fun J H1=>lH n g js tt te σ Q J H1
theorem comp_core {Q:VK}{use:Option (af→Sem Unit)}{R:af→al→Prop}{xs:List Str}
  (hc:X.calm=true) (hi:PI X tg iter wi)
  (jf:∀ y∈scope.names,y.2≠ .cell) (jH:scope.kind= .function) (je:∀ y∈scope.names,y.2= .local→scope.names.lookup y.1=some .local)
  (hfr:∀ y∈scope.names,y.2= .free→X.env.scope.names.lookup y.1=some .cell) (hjs:js.map (fun j=>X.N[j]?)=fr.map some) (hfv:∀ y∈fr,scope.names.lookup y=some .free)
  (hg:∀ cl C s' H' ex,PG (eQ X scope cl C (xs++fr) s' H' ex) tg g)
  (hb:∀ cl C s' H' ex,PE (eQ X scope cl C (xs++fr) s' H' ex) elt te∧PTs (eQ X scope cl C (xs++fr) s' H' ex) ifs tt)
  (hCW:∀ σ Q J H1,CW σ Q J H1→lH xs.length g js tt te σ Q J H1) (I:Inv X az σ H s) (h:wi σ H fun J H1=>CW σ Q J H1)
  (fin:∀ (s4:al) (H5:Hp) (D C:ak) (mC:Str→Option af),s4.heap.Ns C mC→Inv X az σ H5 s4→H5 C=none→C≠X.env.locals→C ∉ X.fs→(∀ p∈X.pn++az,p.1≠C)→(∀ y c,X.env.cells.lookup y=some c→c≠C)→X.s₀.heap.objs.size≤C→Q (.ref D) H5→compPost (aZ X.prog X.w) X.A X.xe use R (.ref D) C (.ok .next) s4)
  (hs:∀ z,eY iter X.env z=fe z:=by intro _;rfl) :
  aL (aZ X.prog X.w) X.A (comprehension (.ListComp elt [⟨tg,iter,ifs,0⟩] scope pos) scope X.env pos' (newList []) false (cN iter X.env) use) R X.xe s:=by
 have hXk:X.env.scope.kind= .function:=I.ok.kind;obtain ⟨cl,hclos,c1,c2⟩:=closure_has (scope:=scope) (env:=X.env) fun y hy hk=>I.ok.has _ (.inl (hfr y hy hk))
 refine wpAny_comprehension_free rfl hs hclos jH je (thn (hi az s σ H _ I h) fun xv s1 h1=>thn h1 fun itv s2 h2=>?_);obtain ⟨it,fp,tn,J,H2,rfl,I2,T,st2,f2,hcw⟩:=h2;obtain ⟨W,⟨m0,w0⟩,turn⟩:=hCW _ _ _ _ hcw;refine dS (wpAny_newFunctionEnv jf (by intro y hy;simp at hy) (fun hA nsA sbA=>?_) jH)
 dsimp only at nsA sbA ⊢
 generalize hG:s2.heap.push { cls:= .type "list",dict:=none,data:= .seq ([]:List af).toArray }=G at nsA sbA ⊢;have hC:G.objs.size=s2.heap.objs.size+1:=by rw [←hG,bX]
 have hDC:s2.heap.objs.size≠G.objs.size:=by rw [hC];exact bu (Nat.lt_succ_self _)
 have i8:∀ b o,s2.heap.get? b=some o→b≠G.objs.size∧b≠s2.heap.objs.size:=fun b o e=>⟨by rw [hC];exact bu (Nat.lt_succ_of_lt (aE e)),bu (aE e)⟩
 have old:∀ b o,s2.heap.get? b=some o→hA.get? b=some o:=fun b o e=>sbA.extBut b o (i8 b o e).1 (aj _ (hG ▸ aj _ e))
 have hDA:hA.get? s2.heap.objs.size=some (lobj [] 0):=sbA.extBut _ _ hDC (aj _ (hG ▸ aA _ rfl));have fpo:∀ b∈fp,∃ o,s2.heap.get? b=some o:=fun b hb=>let ⟨o,e,_⟩:=T.obj _ _ st2 b hb;⟨o,e⟩
 have celo:∀ y c,cl.lookup y=some c→∃ o,s2.heap.get? c=some o:=fun y c e=>let ⟨_,o,ho,_⟩:=I2.cell y c (c1 y c e);⟨o,ho⟩
 have ok':(eQ X scope cl G.objs.size (xs++fr) s2 H2 fp).Ok:=by
  refine ⟨I2.ok.mod,jH,I2.ok.glob,I2.ok.blt,?_,fun a b c e1 e2=>I2.ok.inj a b c (c1 a c e1) (c1 b c e2),fun y hy=>?_,fun _ _ z=>lK z (by intro q;cases q),I2.ok.hd,I2.ok.frames,.inl rfl,fun b hb=>?_,I2.bs,bQ I2.ok.bsz I2.sz,fun b o e hb=>?_,fun b hb hz=>?_,I2.stack,I2.stkFree⟩
  ·show s2.heap.objs.size≤G.objs.size
   rw [hC];exact Nat.le_succ _
  ·have hy:(relabel scope X.env).names.lookup y=some .cell∨(relabel scope X.env).names.lookup y=some .free:=hy
   have key:scope.names.lookup y=some .free:=by
    rcases hy with hy | hy
    ·rcases jW hy with q | ⟨q,_⟩
     ·exact lK rfl (jf _ (de q))
     ·exact q
    ·rcases jW hy with q | ⟨q,_⟩
     ·exact q
     ·exact q
   have hm:=de key;obtain ⟨c,e⟩:=I.ok.has y (.inl (hfr _ hm rfl));exact ⟨c,(c2 _ hm rfl).trans e⟩
  ·obtain ⟨o,e⟩:=fpo b hb
   exact ⟨(i8 b o e).1,fun y c q=>(f2 b hb).2.2.2.2.1 y c (c1 y c q)⟩
  ·obtain ⟨_,_,_,f3,_⟩:=f2 b hb
   rcases f3 with f3 | f3
   ·exact I2.ok.noex b o e f3
   ·exact lK (bz (aE e) (bQ I2.ok.bsz f3)) (fE _)
  ·obtain ⟨_,n1,n2,_⟩:=f2 b hb
   exact (aq.mp (I2.stkSub b hz)).elim n1 n2
 have nofs:s2.heap.objs.size ∉ frs X.stack:=fun hz=>by
  obtain ⟨_,o,ho,_⟩:=I2.stack.mem hz;exact fE _ (aE ho)
 have lenB:(dz σ js).length=fr.length:=by
  have e:=lO List.length hjs;rw [ae,ae] at e;unfold dz;rw [ae];exact e
 have start':∀ t,Inv (eQ X scope cl G.objs.size (xs++fr) s2 H2 fp) [(s2.heap.objs.size,lobj [] 0)] ((xs.map fun _=>none)++dz σ js) H2 { s2 with heap:=hA,toks:=t }:=fun t=>by
  refine ⟨ok',rfl,I2.bare,Un.kept old,⟨_,nsA,fun i y v e1 e2 e3=>?_⟩,fun y c e=>?_,I2.hok.fresh (by rw [hC];exact Nat.le_succ _),fun y c e=>I2.freeC y c (c1 y c e),fun p hp=>?_,I2.hok.kept old,?_⟩
  ·by_cases hix:i<xs.length
   ·rw [eJ (by rw [ae];exact hix),aD,gE hix] at e2
    cases e2
   ·obtain ⟨i,rfl⟩:∃ j,i=xs.length+j:=⟨i - xs.length,by lia⟩
    have e1:(xs++fr)[xs.length+i]? =some y:=e1;have e1:fr[i]? =some y:=by rw [dj (by lia),show xs.length+i - xs.length=i by lia] at e1;exact e1
    have e2:(dz σ js)[i]? =some (some v):=by rw [dj (by rw [ae];lia),ae,show xs.length+i - xs.length=i by lia] at e2;exact e2
    unfold dz at e2;rw [aD] at e2;obtain ⟨j,ej,e2⟩:=aN.mp e2;have hN:X.N[j]? =some y:=by
     have q:=lO (fun l=>l[i]?) hjs;simp only [aD,ej,e1,Option.map_some] at q;exact bx q
    have hσ:σ[j]? =some (some v):=by
     cases z:σ[j]? with
     | none=>rw [z] at e2;cases e2
     | some w=>rw [z] at e2;exact lO some e2
    have hfree:=hfv y (aG e1);have hm:=de hfree;have hce:X.env.scope.names.lookup y=some .cell:=hfr _ hm rfl;obtain ⟨m,_,hl⟩:=I2.loc;obtain ⟨u,ru,look⟩:=hl j y v hN hσ (.inr (.inl hce));refine ⟨u,ru,.inr ⟨.inl (ij hXk hce hfree),?_⟩⟩
    rcases look with ⟨k,_⟩ | ⟨_,c,ec,ho⟩
    ·have k:X.env.scope.names.lookup y=some .local:=k
     rw [hce] at k;cases k
    ·obtain ⟨o,ho,hd⟩:=ho
     exact ⟨c,(c2 _ hm rfl).trans ec,o,old c o ho,hd⟩
  ·obtain ⟨v,o,ho,hd⟩:=I2.cell y c (c1 y c e)
   exact ⟨v,o,old c o ho,hd⟩
  ·have hp:p∈[(s2.heap.objs.size,lobj [] 0)]:=hp
   have e:=br.mp hp;subst e;exact ⟨hDA,I2.hok.fresh (aH _),hDC,nofs,fun v z=>by cases z⟩
  ·show ((xs.map fun _=>none)++dz σ js).length=(xs++fr).length
   rw [av,av,ae,lenB]
 have fok:∀ {us:List af} {n:Nat} {H':Hp},(∀ b∈fp,H' b=none)→∀ b∈fp,FpOk (eQ X scope cl G.objs.size (xs++fr) s2 H2 fp) [(s2.heap.objs.size,lobj us n)] H' b:=fun {us n H'} hn b hb=>by
  obtain ⟨o,e⟩:=fpo b hb;refine ⟨hn b hb,(i8 b o e).1,fun hz=>(aq.mp (I2.stkSub b hz)).elim (f2 b hb).2.1 (f2 b hb).2.2.1,.inl hb,fun y c q=>(f2 b hb).2.2.2.2.1 y c (c1 y c q),fun p hp=>?_⟩;have hp:p∈[(s2.heap.objs.size,lobj us n)]:=hp;have ep:=br.mp hp;subst ep;exact fun z=>(i8 b o e).2 z.symm
 have loop:∀ sB:al,(∃ t,sB={ s2 with heap:=hA,toks:=t }) →
   codeAny (aZ X.prog X.w) X.A (.compLoop (.ListComp elt [⟨tg,iter,ifs,0⟩] scope pos) 0 (.ref it) (.ref s2.heap.objs.size) (compEnvC scope cl G.objs.size X.env))
    (compPost (aZ X.prog X.w) X.A X.xe use R (.ref s2.heap.objs.size) G.objs.size) sB:=by
  rintro sB ⟨t,rfl⟩;refine loop_any (fun k s'=>∃ i ys us n v0 H',v0.length=xs.length∧Inv (eQ X scope cl G.objs.size (xs++fr) s2 H2 fp) [(s2.heap.objs.size,lobj us n)] (v0++dz σ js) H' s'∧eI ys us∧ys.length≤ar∧tn i s'.heap∧(∀ b∈fp,H' b=none)∧W i k ys H') ?_ m0
   ⟨0,[],[],0,xs.map fun _=>none,H2,ae ..,start' t,.nil,cK _,T.keep _ _ _ st2 fun b hb o e=>old b o e,fun b hb=>(f2 b hb).1,w0⟩
  rintro k s3 ⟨i,ys,us,n,v0,H3,hv0,I3,rv,hlen,st3,fr3,w3⟩
  rcases turn i k ys H3 w3 with ⟨stop,qn⟩ | ⟨go,hlt,N',hN',step⟩
  ·refine thn (T.done (eQ X scope cl G.objs.size (xs++fr) s2 H2 fp) rfl rfl rfl hc i _ s3 _ H3 _ I3 (fok fr3) st3 stop) fun r s4 ⟨hr,I4⟩=>?_
   subst hr;obtain ⟨mC,hnC,_⟩:=id I4.loc;obtain ⟨pD,nD,_,_,_⟩:=I4.pin (s2.heap.objs.size,lobj us n) (by show _∈[]++[_];simp);have pD:s4.heap.get? s2.heap.objs.size=some (lobj us n):=pD;have nD:H3 s2.heap.objs.size=none:=nD;have nC:H3 G.objs.size=none:=I4.free;have D2:∀ b o,s2.heap.get? b=some o→b≠s2.heap.objs.size:=fun b o e=>(i8 b o e).2
   have base4:Un (frs X.stack) fp H2 H3 s2.heap s4.heap:=I4.base;have u4:Un (frs X.stack) fp H2 (upd H3 s2.heap.objs.size (.lst ys)) s2.heap s4.heap :=
    {keep:=base4.keep
     slot:=base4.slot
     free:=fun b o e nb hx'=>by rw [aR (D2 b o e)];exact base4.free b o e nb hx'
     there:=base4.there
     tups:=fun b xs e=>by have q:=base4.tups b xs e;rw [aR (aJ q nD)];exact q
     frzs:=fun b o u e=>by have q:=base4.frzs b o u e;rw [aR (aJ q nD)];exact q
     tbls:=fun b ps e=>by obtain ⟨more,q⟩:=base4.tbls b ps e;exact ⟨more,by rw [aR (aJ q nD)];exact q⟩ }
   have I5:Inv X az σ (upd H3 s2.heap.objs.size (.lst ys)) s4:=I2.call' (s':=s4) (ch:=fp) I4.os u4 (I4.hok.take nD ⟨hlen,us,n,rv,pD⟩) I4.bare fun b hb=>by
    obtain ⟨_,g1,_,g3,g4,g5⟩:=f2 b hb;exact ⟨g3,g1,g4,g5⟩
   have locC:G.objs.size≠X.env.locals:=fun z=>by
    obtain ⟨_,⟨o,_,_,ho,_⟩,_⟩:=id I2.loc;exact (i8 _ o ho).1 z.symm
   have fsC:G.objs.size ∉ X.fs:=fun hz=>by
    obtain ⟨_,o,ho,_⟩:=I2.ok.funs.mem hz;have:=bz (aE ho) I2.sz;rw [hC] at this;exact fE _ (Nat.lt_of_succ_lt this)
   have pinX:∀ p∈X.pn++az,p.1≠G.objs.size:=fun p hp=>(i8 _ _ (I2.pin p hp).1).1
   have nCu:(upd H3 s2.heap.objs.size (.lst ys)) G.objs.size=none:=by rw [aR (cf hDC)];exact nC
   refine fin s4 _ _ _ mC hnC I5 nCu locC fsC pinX (fun y c q z=>?_) (bQ I2.sz (by rw [hC];exact Nat.le_succ _)) (qn _ nD);obtain ⟨v,o,ho,_⟩:=I2.cell y c q;exact (i8 c o ho).1 z
  ·refine thn (T.item (eQ X scope cl G.objs.size (xs++fr) s2 H2 fp) rfl rfl rfl hc i _ s3 _ H3 _ I3 (fok fr3) st3 go) fun r s4 ⟨u,hr,h4⟩=>?_
   subst hr;refine thn h4 fun _ s5 ⟨v,H5,I5,r5,y5,st5,fr5⟩=>?_
   have I5':=I5.pinned (fok fr5) (T.obj _ _ st5);refine c5 (hg cl G.objs.size s2 H2 fp _ s5 _ H5 v u _ I5' r5 (step v H5 y5 v0 hv0)) (fun _ s6 ⟨σ6,H6,I6,⟨w1,hw1,e6⟩,q6⟩=>?_) fun _ _ f=>f.elim
   subst e6;refine c5 ((hb cl G.objs.size s2 H2 fp).2 _ s6 _ H6 _ I6 q6) (fun b s7 ⟨H7,I7,q7⟩=>?_) fun _ _ f=>f.elim
   have back:∀ {s8:al} {H8:Hp},Inv (eQ X scope cl G.objs.size (xs++fr) s2 H2 fp) ([(s2.heap.objs.size,lobj us n)]++pinsAt fp s5.heap) (w1++dz σ js) H8 s8→tn (i+1) s8.heap∧∀ b∈fp,H8 b=none:=fun {s8 H8} I8=>by
    refine ⟨T.keep _ _ _ st5 fun b hb o e=>(I8.pin (b,o) (bF _ (bF _ (ji hb e)))).1,fun b hb=>?_⟩;obtain ⟨o,e,_⟩:=T.obj _ _ st5 b hb;exact (I8.pin (b,o) (bF _ (bF _ (ji hb e)))).2.1
   cases b with
   | false =>
    obtain ⟨m',hm,w7⟩:=hN' _ _ q7;obtain ⟨t7,n7⟩:=back I7;exact ⟨m',hm,i+1,ys,us,n,w1,H7,hw1,I7.unpinned,rv,hlen,t7,n7,w7⟩
   | true =>
    refine c5 ((hb cl G.objs.size s2 H2 fp).1 _ s7 _ H7 _ I7 q7) (fun y' s8 ⟨y,H8,I8,r8,q8⟩=>?_) fun _ _ f=>f.elim
    obtain ⟨m',hm,w8⟩:=hN' _ _ q8;obtain ⟨t8,n8⟩:=back I8;have I8':=I8.unpinned;obtain ⟨pD,nD,_,_,_⟩:=I8'.pin (s2.heap.objs.size,lobj us n) (by show _∈[]++[_];simp);have pD:s8.heap.get? s2.heap.objs.size=some (lobj us n):=pD;have nD:H8 s2.heap.objs.size=none:=nD;refine append_at pD (fun h9 hs9 e9=>?_) (by rw [ay,←rv.length];exact hlen);have e9:h9.get? s2.heap.objs.size=some (lobj (us++[y']) (n+1)):=by rw [e9];simp [lobj]
    have J0:Inv (eQ X scope cl G.objs.size (xs++fr) s2 H2 fp) [] (w1++dz σ js) H8 s8:=I8'.pins_of fun p hp=>lK hp (by simp)
    have J9:Inv (eQ X scope cl G.objs.size (xs++fr) s2 H2 fp) [] (w1++dz σ js) H8 { s8 with heap:=h9,toks:=s8.toks } :=
     J0.turned (it:=s2.heap.objs.size) (fun b o hb' e=>hs9.extBut b o hb' e) nD hDC (.inr (aH _)) (fun y0 c q z=>by
      obtain ⟨o,e⟩:=celo y0 c q;exact (i8 c o e).2 z) fun p hp=>lK (show p∈([]:List (ak×Obj)) from hp) (by simp)
    refine ⟨m',hm,i+1,ys++[y],us++[y'],n+1,w1,H8,hw1,J9.pins_of fun p hp=>?_,rv.append (.cons r8 .nil),(by rw [av,List.length_singleton];exact hlt),T.keep _ _ _ t8 fun b hb' o e=>hs9.extBut b o (by
     obtain ⟨o',e'⟩:=fpo b hb';exact (i8 b o' e').2) e,n8,w8⟩
    have ep:=br.mp hp;subst ep;exact ⟨e9,nD,hDC,nofs,fun v z=>by cases z⟩
 exact codeAny_compStart_list (loop _ ⟨_,rfl⟩) (T.self _ 0 _ _ _ (T.keep _ _ _ st2 fun b hb o e=>old b o e) (loop _ ⟨_,rfl⟩))
theorem pe_compC {xs:List Str}
  (hc:X.calm=true) (hi:PI X tg iter wi)
  (jf:∀ y∈scope.names,y.2≠ .cell) (jH:scope.kind= .function) (je:∀ y∈scope.names,y.2= .local→scope.names.lookup y.1=some .local)
  (hfr:∀ y∈scope.names,y.2= .free→X.env.scope.names.lookup y.1=some .cell) (hjs:js.map (fun j=>X.N[j]?)=fr.map some) (hfv:∀ y∈fr,scope.names.lookup y=some .free)
  (hg:∀ cl C s' H' ex,PG (eQ X scope cl C (xs++fr) s' H' ex) tg g)
  (hb:∀ cl C s' H' ex,PE (eQ X scope cl C (xs++fr) s' H' ex) elt te∧PTs (eQ X scope cl C (xs++fr) s' H' ex) ifs tt)
  (hCW:∀ σ Q J H1,CW σ Q J H1→lH xs.length g js tt te σ Q J H1) (hs:∀ z,eY iter X.env z=fe z:=by intro _;rfl) :
  PE X (.ListComp elt [⟨tg,iter,ifs,0⟩] scope pos) (fun σ H Q=>wi σ H fun J H1=>CW σ Q J H1):=by
 intro az s σ H Q I h;rw [eval_ListComp];exact comp_core (use:=none) (R:=EP X az σ Q) hc hi jf jH je hfr hjs hfv hg hb hCW I h (fun s4 H5 D C mC n I5 nC lC fC pC cC sC q=>⟨mC,n,fun h' hsb=>⟨.ref D,H5,I5.turned (t':=s4.toks) (it:=C) (fun b o hb' e=>hsb.extBut b o hb' e) nC lC (.inr sC) cC pC,rfl,q⟩⟩) hs
theorem compW_T {Q:VK}{J:It}(h:CompW js tt te σ Q J H1):lH 1 (jq 0) js tt te σ Q J H1:=by
 obtain ⟨W,w0,turn⟩:=h;refine ⟨W,w0,fun i m ys H2 hw=>?_⟩
 rcases turn i m ys H2 hw with h | ⟨h1,h2,N,h3,h4⟩
 ·exact .inl h
 ·refine .inr ⟨h1,h2,N,h3,fun x H3 hy v0 hv=>?_⟩
  obtain ⟨w,rfl⟩:∃ w,v0=[w]:=by
   obtain _ | ⟨w,v0⟩:=v0
   ·cases hv
   ·obtain _ | ⟨z,v0⟩:=v0
    ·exact ⟨w,rfl⟩
    ·cases hv
  exact ⟨⟨[some x],rfl,rfl⟩,h4 x H3 hy⟩
theorem hI {px:Pos}
  (hc:X.calm=true) (hi:PI X (.Name x px) iter wi)
  (jf:∀ y∈scope.names,y.2≠ .cell) (jH:scope.kind= .function) (je:∀ y∈scope.names,y.2= .local→scope.names.lookup y.1=some .local) (hx:scope.names.lookup x=some .local)
  (hfr:∀ y∈scope.names,y.2= .free→X.env.scope.names.lookup y.1=some .cell) (hnd:(x::fr).Nodup) (hjs:js.map (fun j=>X.N[j]?)=fr.map some) (hfv:∀ y∈fr,scope.names.lookup y=some .free)
  (hb:∀ cl C s' H' ex,PE (eQ X scope cl C (x::fr) s' H' ex) elt te∧PTs (eQ X scope cl C (x::fr) s' H' ex) ifs tt)
  (hs:∀ z,eY iter X.env z=fe z:=by intro _;rfl) :
  PE X (.ListComp elt [⟨.Name x px,iter,ifs,0⟩] scope pos) (tComp wi js tt te) :=
 pe_compC (xs:=[x]) (g:=jq 0) hc hi jf jH je hfr hjs hfv (fun _ _ _ _ _=>jX hnd rfl (.inl (c9 hx)) (.inr (c9 hx))) hb (fun _ _ _ _ h=>compW_T h) hs
section
variable {w:aV}
theorem lq {j t:ak}{i:Nat}{its}{v:af}(jt:s.heap.IsTupleIter j t i)(tt:s.heap.IsTuple t its)(hv:its[i]? =some v)
  (q:∀ g,g.IsTupleIter j t (i+1)→bo j s.heap g→Q v { s with heap:=g }):aL (aZ prog w) A (cj (.ref j)) Q E s:=by
 obtain ⟨ob,e1,e2,e3⟩:=id jt;obtain ⟨ot,g1,_,k,g2⟩:=tt;unfold cj;refine ag (cA (name:=aY "__next__") jt.typeIs gf (dw gf jt.typeIs F.entry_tuple_iterator_next ?_ (F.args_tuple_iterator_next_1 _)));show aL _ _ (field (.ref j) 0 >>= _) _ _ s;refine ag (bC e1 e3 (x:= .ref t) rfl ?_);show aL _ _ (ite ((af.ref t == af.none)=true) _ _) _ _ s;rw [lI (fun z:(af.ref t == af.none)=true=>aQ z)];show aL _ _ (field (.ref j) 1 >>= _) _ _ s;refine ag (bC e1 e3 (x:= .int i 0) rfl ?_);show aL _ _ (seqItems? (.ref t) >>= _) _ _ s;refine ag (gj g1 g2 ?_);simp only [dE,hv];refine ag (wpAny_setField e1 e3 (by simp) (ax ⟨v,rfl,ax (q _ ?_ (bo.update ..))⟩));exact ⟨_,bj.get?_update_self _ e1 (Obj.isFreed_of_fields (Obj.data_mapFields e3 _)),(Obj.cls_mapFields ..).trans e2,by rw [Obj.data_mapFields e3];simp [rawInt]⟩
theorem nextT_end {j t:ak}{i:Nat}{its}(hh:A.handled=none)(jt:s.heap.IsTupleIter j t i)(tt:s.heap.IsTuple t its)(hv:its[i]? =none)
  (q:∀ g x,bj.ExtBut j s.heap g→(∃ o,g.get? x=some o∧o.cls= .type "StopIteration")→E (.ref x) { s with heap:=g }):aL (aZ prog w) A (cj (.ref j)) Q E s:=by
 obtain ⟨ob,e1,e2,e3⟩:=id jt;obtain ⟨ot,g1,_,k,g2⟩:=tt;unfold cj;refine ag (cA (name:=aY "__next__") jt.typeIs gf (dw gf jt.typeIs F.entry_tuple_iterator_next ?_ (F.args_tuple_iterator_next_1 _)));show aL _ _ (field (.ref j) 0 >>= _) _ _ s;refine ag (bC e1 e3 (x:= .ref t) rfl ?_);show aL _ _ (ite ((af.ref t == af.none)=true) _ _) _ _ s;rw [lI (fun z:(af.ref t == af.none)=true=>aQ z)];show aL _ _ (field (.ref j) 1 >>= _) _ _ s;refine ag (bC e1 e3 (x:= .int i 0) rfl ?_);show aL _ _ (seqItems? (.ref t) >>= _) _ _ s;refine ag (gj g1 g2 ?_);simp only [dE,hv];refine ag (wpAny_rule (ag (wpAny_setField e1 e3 (by simp) ?_)));show aL _ _ (newExc (.type "StopIteration") [] >>= _) _ _ _;refine ag ?_;simp only [newExc,newTuple];refine ag (dS ?_ (by size_fits));refine ag (m:=firstArgMember _ _) (wpAny_of_eq (a:=af.none) (by first | rfl | (unfold firstArgMember;rfl)) ?_);refine dS ?_ (by size_fits);simp only [raiseNew];refine ag (wpAny_handled ?_)
 first | rw [show A.in1.handled=none from hh] | rw [hh]
 exact ag (ax (wpAny_throw (q _ _ (((bo.update ..).extBut.push _).push _) ⟨_,aA _ rfl,rfl⟩)))
end
theorem Inv.turnAll {g:bj}(I:Inv X az σ H s)(hf:∀ b∈ch,FpOk X az H b)
  (k:∀ b o,b ∉ ch→s.heap.get? b=some o→g.get? b=some o) (hH:∀ b u,H b=some u→H' b=some u) (hN:∀ b o,s.heap.get? b=some o→H b=none→H' b=none) (hok:HOk X.prog X.w H' g):Inv X az σ H' { s with heap:=g }:=by
 refine I.step (g':=s.gens) (d':=s.drawn) (t':=s.toks) (ch:=ch) (fun b hb=>?_) (fun b o _ _ hc e _=>k b o hc e) (fun b o _ _ hc e _=>⟨o.slots,k b o hc e⟩) (fun b o _ e n=>hN b o e n)
  (fun b o hc e=>⟨o,k b o hc e⟩) (fun b xs e=>hH b _ e) (fun b o u e=>hH b _ e) (fun b ps e=>⟨#[],by rw [hH b _ e];simp⟩) (fun m hm=>?_) hok I.bare
 ·obtain ⟨_,f1,_,f3,f4,f5⟩:=hf b hb
  exact ⟨f3,f1,f4,f5⟩
 ·obtain ⟨o,es,ep,ho,r⟩:=hm
  exact ⟨o,es,ep,k _ o (fun hb=>(hf _ hb).2.1 rfl) ho,r⟩
theorem bO.put (e:bO H H1)(h:H1 p=none):bO H (upd H1 p o):=fun b u q=>by rw [aR (aJ (e b u q) h)];exact e b u q
theorem Inv.big (I:Inv X az σ H s):eK<s.heap.objs.size:=by
 have h:aW<s.heap.objs.size:=(I.mod.glob.keeps I.bk).lt;exact Nat.lt_trans (by decide) h
theorem dk_empty {w:aV}(h:bj)(hb:eK<h.objs.size):fU P w H (h.push { cls:= .type "dict",data:= .dict #[] }) h.objs.size (.dK []) :=
 ⟨cK _,beq_eq_false_iff_ne.mpr (cf (bu hb)),[],.nil,bj.DictOf.new h⟩
def tDNewK:TE:=fun _ H Q=>∀ p,H p=none→Q (.ref p) (upd H p (.dK []))
theorem pe_dnewK:PE X (.Dict [] [] pos) tDNewK:=fun az s σ H Q I h =>
 wpAny_Dict_empty ⟨.ref s.heap.objs.size,_,I.laid (a:=s.heap.objs.size) (o:= .dK []) (t':=s.toks) (fun _ _ q=>aj _ q) (aH _) (dk_empty s.heap I.big),rfl,h _ (I.hok.fresh (aH _))⟩
theorem PE.imp {t t':TE}(h:PE X e t)(i:∀ σ H Q,t' σ H Q→t σ H Q):PE X e t':=fun az s σ H Q I q=>h az s σ H Q I (i σ H Q q)
theorem OpR.imp {f:af→af→Sem af}{r r':R2}(h:OpR X f r)(i:∀ x y H Q,r' x y H Q→r x y H Q):OpR X f r':=fun az s σ H x y v u Q I rx ry q=>h az s σ H x y v u Q I rx ry (i x y H Q q)
theorem gF.imp {f:af}{r r':List V→Hp→VK→Prop}(h:gF X f r)(i:∀ xs H Q,r' xs H Q→r xs H Q):gF X f r':=fun az s σ H xs us Q I rv q=>h az s σ H xs us Q I rv (i xs H Q q)
theorem SlR.imp (h:SlR X r)(i:∀ x lo hi H Q,r' x lo hi H Q→r x lo hi H Q):SlR X r':=fun az s σ H x v vl vu lo hi sl Q I rx hs pl pu q=>h az s σ H x v vl vu lo hi sl Q I rx hs pl pu (i x lo hi H Q q)
def tACut (t:TA):TA:=fun σ H R=>∃ R':List V→Hp→Prop,(∀ xs H,R' xs H→R xs H)∧t σ H R'
theorem PA.cut (h:PA X es t):PA X es (tACut t):=fun pos az s σ H Q I ⟨R',i,q⟩ =>
 thn (h pos az s σ H R' I q) fun us s' ⟨vs,H',I',rv,q'⟩=>⟨vs,H',I',rv,i _ _ q'⟩
def New (H:Hp)(o:HO)(Q:VK):Prop:=∀ p H',bO H H'→H' p=some o→Q (.ref p) H'
theorem New.of {Q:VK}(h:New H o Q):∀ p,H p=none→Q (.ref p) (upd H p o):=fun p hp=>h p _ (bO.put (bO.refl H) hp) aK
def tTupA (t:TA):TE:=fun σ H Q=>t σ H fun xs H1=>xs.length≤ar∧New H1 (.tup xs) Q
def tLstA (t:TA):TE:=fun σ H Q=>t σ H fun xs H1=>xs.length≤ar∧New H1 (.lst xs) Q
theorem gq {x1}(h:PA X es t):PE X (.Tuple es x1 pos) (tTupA t):=(pe_tup h.cut).imp fun _ _ _ q=>⟨_,fun _ _ z=>⟨z.1,z.2.of⟩,q⟩
theorem iQ (h:PA X es t):PE X (.List es pos) (tLstA t):=(ja h.cut).imp fun _ _ _ q=>⟨_,fun _ _ z=>⟨z.1,z.2.of⟩,q⟩
theorem jB:SlR X (fun x lo hi H Q=>∃ a xs,x= .ref a∧SqT X.K H a xs∧¬ (HT.sIx xs.length 0 lo=0∧HT.sIx xs.length xs.length hi=xs.length)∧New H (.tup (cutV xs lo hi)) Q) :=
 sl_tup.imp fun _ _ _ _ _ ⟨a,xs,e,h,n,q⟩=>⟨a,xs,e,h,n,q.of⟩
theorem jD:OpR X (eZ .Add) (fun x y H Q=>∃ l b xs zs,x= .ref l∧y= .ref b∧H l=some (.lst xs)∧H b=some (.lst zs)∧xs.length+zs.length≤ar∧New H (.lst (xs++zs)) Q) :=
 op_cat.imp fun _ _ _ _ ⟨l,b,xs,zs,e1,e2,e3,e4,e5,q⟩=>⟨l,b,xs,zs,e1,e2,e3,e4,e5,q.of⟩
inductive Dt where
 | non | bl (b:Bool) | int (i:Int) | str (x:Str) | tup (ds:List Dt) | oth (T:String)
mutual
inductive IsD (H:Hp):V→Dt→Prop where
 | non:IsD H .non .non
 | bl (b:Bool):IsD H (.bl b) (.bl b)
 | int (i:Int):IsD H (.int i) (.int i)
 | str (x:Str):IsD H (.str x) (.str x)
 | tup {a:ak} {xs:List V} {ds:List Dt} (h:H a=some (.tup xs)) (r:fI H xs ds):IsD H (.ref a) (.tup ds)
 | lst {a:ak} {xs:List V} (h:H a=some (.lst xs)):IsD H (.ref a) (.oth "list")
 | dct {a:ak} {kvs:List (Key×V)} (h:H a=some (.dK kvs)):IsD H (.ref a) (.oth "dict")
inductive fI (H:Hp):List V→List Dt→Prop where
 | nil:fI H [] []
 | cons {x:V} {d:Dt} {xs:List V} {ds:List Dt} (h:IsD H x d) (r:fI H xs ds):fI H (x::xs) (d::ds)
end
mutual
theorem IsD.same {H H':Hp}(e:bO H H'):∀ {v:V} {d:Dt},IsD H v d→IsD H' v d
 | _,_,.non=> .non
 | _,_,.bl b=> .bl b
 | _,_,.int i=> .int i
 | _,_,.str x=> .str x
 | _,_,.tup h r=> .tup (e _ _ h) (fI.same e r)
 | _,_,.lst h=> .lst (e _ _ h)
 | _,_,.dct h=> .dct (e _ _ h)
theorem fI.same {H H':Hp}(e:bO H H'):∀ {vs:List V} {ds:List Dt},fI H vs ds→fI H' vs ds
 | _,_,.nil=> .nil
 | _,_,.cons h r=> .cons (IsD.same e h) (fI.same e r)
end
mutual
theorem IsD.inj {H:Hp}:∀ {v:V} {d e:Dt},IsD H v d→IsD H v e→d=e
 | _,_,_,.non,.non=>rfl
 | _,_,_,.bl _,.bl _=>rfl
 | _,_,_,.int _,.int _=>rfl
 | _,_,_,.str _,.str _=>rfl
 | _,_,_,.tup h r,q=>by
  cases q with
  | tup h' r'=>rw [h] at h';cases h';rw [fI.inj r r']
  | lst h'=>rw [h] at h';cases h'
  | dct h'=>rw [h] at h';cases h'
 | _,_,_,.lst h,q=>by
  cases q with
  | tup h' r'=>rw [h] at h';cases h'
  | lst h'=>rfl
  | dct h'=>rw [h] at h';cases h'
 | _,_,_,.dct h,q=>by
  cases q with
  | tup h' r'=>rw [h] at h';cases h'
  | lst h'=>rw [h] at h';cases h'
  | dct h'=>rfl
theorem fI.inj {H:Hp}:∀ {vs:List V} {ds es:List Dt},fI H vs ds→fI H vs es→ds=es
 | _,_,_,.nil,.nil=>rfl
 | _,_,_,.cons h r,.cons h' r'=>by rw [IsD.inj h h',fI.inj r r']
end
theorem fI.length:∀ {xs:List V} {ds:List Dt},fI H xs ds→xs.length=ds.length
 | _,_,.nil=>rfl
 | _,_,.cons _ r=>by rw [aP,aP,fI.length r]
theorem fI.at:∀ {xs:List V} {ds:List Dt} {i:Nat} {d:Dt},fI H xs ds→ds[i]? =some d→∃ x,xs[i]? =some x∧IsD H x d
 | _,_,_,_,.nil,e=>by simp at e
 | _,_,0,_,.cons h _,e=>by simp at e;subst e;exact ⟨_,rfl,h⟩
 | _,_,i+1,d,.cons _ r,e=>by
  obtain ⟨x,h1,h2⟩:=fI.at (i:=i) (d:=d) r (by simpa using e);exact ⟨x,by simpa using h1,h2⟩
theorem fI.append:∀ {xs ys:List V} {ds es:List Dt},fI H xs ds→fI H ys es→fI H (xs++ys) (ds++es)
 | _,_,_,_,.nil,s=>s
 | _,_,_,_,.cons h r,s=> .cons h (fI.append r s)
theorem fI.one {x:V}{d:Dt}(h:IsD H x d):fI H [x] [d]:= .cons h .nil
theorem fI.ints:∀ (ns:List Int),fI H (ns.map V.int) (ns.map Dt.int)
 | []=> .nil
 | n::r=> .cons (.int n) (fI.ints r)
theorem fI.ints_of:∀ {xs:List V} {ns:List Int},fI H xs (ns.map Dt.int)→xs=ns.map V.int
 | _,[],.nil=>rfl
 | _,n::r,.cons h q=>by cases h;rw [fI.ints_of q];rfl
theorem IsD.tup_of {ds:List Dt}(h:IsD H v (.tup ds)):∃ a xs,v= .ref a∧H a=some (.tup xs)∧fI H xs ds:=by
 cases h with
 | tup h r=>exact ⟨_,_,rfl,h,r⟩
mutual
def eqD:Dt→Dt→Bool
 | .non,.non=>true
 | .bl a,.bl b=>a == b
 | .bl a,.int b=>(if a then 1 else 0) == b
 | .int a,.bl b=>a == (if b then 1 else 0)
 | .int a,.int b=>a == b
 | .str a,.str b=>a == b
 | .tup xs,.tup ys=>eqDs xs ys
 | _,_=>false
def eqDs:List Dt→List Dt→Bool
 | [],[]=>true
 | x::xs,y::ys=>eqD x y && eqDs xs ys
 | _,_=>false
end
mutual
def pl:Dt→Bool
 | .oth _=>false
 | .tup ds=>pls ds
 | _=>true
def pls:List Dt→Bool
 | []=>true
 | d::ds=>pl d && pls ds
end
mutual
def dep:Dt→Nat
 | .tup ds=>deps ds+1
 | _=>0
def deps:List Dt→Nat
 | []=>0
 | d::ds=>max (dep d) (deps ds)
end
mutual
theorem eqD_refl:∀ d:Dt,pl d=true→eqD d d=true
 | .non,_=>by unfold eqD;rfl
 | .bl b,_=>by unfold eqD;exact beq_self_eq_true b
 | .int i,_=>by unfold eqD;exact beq_self_eq_true i
 | .str x,_=>by unfold eqD;exact beq_self_eq_true x
 | .tup ds,h=>by
  unfold eqD;unfold pl at h;exact eqDs_refl ds h
 | .oth T,h=>by unfold pl at h;cases h
theorem eqDs_refl:∀ ds:List Dt,pls ds=true→eqDs ds ds=true
 | [],_=>by unfold eqDs;rfl
 | d::ds,h=>by
  unfold eqDs;unfold pls at h;rw [b9] at h;rw [eqD_refl d h.1,eqDs_refl ds h.2];rfl
end
end L2
namespace L2
open PySem PySem.Spec PyProof.Rows
theorem strs_are:∀ {zs:List Str} {us:List af},eI (zs.map V.str) us→StrsAre us zs
 | [],_,.nil=> .nil
 | z::zs,_,.cons r t=>by
  obtain ⟨tk,rfl⟩:=(show ∃ t,_=af.str z t from r);exact .cons z tk (strs_are t)
theorem vals_strs:∀ (l:List (Str×Tok)),eI ((l.map (·.1)).map V.str) (strValues l)
 | []=> .nil
 | p::r=> .cons ⟨p.2,rfl⟩ (vals_strs r)
theorem mt_join:MtM X "str.join" (fun x vs H Q=>∃ z p zs,x= .str z∧vs=[.ref p]∧SqL X.K H p (zs.map V.str)∧z.length≤16∧(zs.map (·.length)).sum+zs.length≤1048576∧Q (.str (gu z zs)) H):=by
 intro az s σ H x vs v us Q I rx rv h;obtain ⟨z,p,zs,rfl,rfl,hq,hz,hw,q⟩:=h;obtain ⟨t,rfl⟩:=(show ∃ t,v=af.str z t from rx);obtain ⟨u,rfl,ru⟩:=rv.one;cases (show u=af.ref p from ru);obtain ⟨its,r,pl,_⟩:=I.list hq;exact join_listW pl.isList (by simpa using strs_are r) hz hw fun t' k=>⟨.str _,H,I.tok k,⟨t',rfl⟩,q⟩
theorem split_run {w:aV}{y:Str}{t u:Tok}(hy:(y.length == 0)=false)(hsz:x.length+2≤ar)
  (h:∀ (l:List (Str×Tok)) (tk:Nat),l.map (·.1)=ck x y→Q (.ref s.heap.objs.size) { s with heap:=s.heap.push { cls:= .type "list",data:= .seq (strValues l).toArray },toks:=tk }) :
  aL (aZ prog w) A (call (.builtin "str.split") [.str x t,.str y u]) Q E s:=by
 have few:(eD x (bM x y 0 x.length (x.length+1)) y.length).length≤ar:=by
  have:=StrLaws.occ_length_le x y 0 x.length (x.length+1);rw [length_partsBetween];lia
 by_cases c1:(decide (x.length<y.length) || decide (dY.Str.strKind x<dY.Str.strKind y))=true
 ·refine ie F.slot_str_split (typeIs_str _ _ _) F.entry_str_split (F.args_str_split_2 _ _) (meets_str_split_cannot_occur x y t u c1) ?_
  refine h [(x,t)] s.toks ?_;unfold ck;rw [lJ c1];rfl
 ·have c1':=eL.mpr c1
  by_cases c2:(bM x y 0 x.length (x.length+1)).isEmpty=true
  ·refine ie F.slot_str_split (typeIs_str _ _ _) F.entry_str_split (F.args_str_split_2 _ _) (meets_str_split_not_found x y t u c1' hy c2) ?_
   refine h [(x,t)] s.toks ?_;unfold ck;rw [lI c1,lJ c2];rfl
  ·refine ie F.slot_str_split (typeIs_str _ _ _) F.entry_str_split (F.args_str_split_2 _ _) (meets_str_split_sep x y t u c1' hy (eL.mpr c2) (by lia) few) ?_
   have e:=strsFrom_eq s.toks (eD x (bM x y 0 x.length (x.length+1)) y.length);have k:=h (numbered s.toks (eD x (bM x y 0 x.length (x.length+1)) y.length)) (s.toks+(eD x (bM x y 0 x.length (x.length+1)) y.length).length) (by
    rw [numbered_texts];unfold ck;rw [lI c1,lI c2])
   rw [←e] at k;exact k
theorem mt_split:MtM X "str.split" (fun x vs H Q=>∃ z y,x= .str z∧vs=[.str y]∧(y.length == 0)=false∧z.length+2≤ar∧New H (.lst ((ck z y).map V.str)) Q):=by
 intro az s σ H x vs v us Q I rx rv h;obtain ⟨z,y,rfl,rfl,hy,hz,q⟩:=h;obtain ⟨t,rfl⟩:=(show ∃ t,v=af.str z t from rx);obtain ⟨u,rfl,ru⟩:=rv.one;obtain ⟨t',rfl⟩:=(show ∃ t,u=af.str y t from ru);refine split_run hy hz fun l tk e=>?_
 have hw:((ck z y).map (·.length)).sum+(ck z y).length≤z.length+1:=split_weight z y (by
  have:y.length≠0:=fun h0=>by rw [h0] at hy;cases hy
  lia)
 refine ⟨.ref s.heap.objs.size,_,I.laid (t':=tk) (o:= .lst ((ck z y).map V.str)) (fun _ _ k=>aj _ k) (aH _) ⟨?_,strValues l,0,?_,aA _ rfl⟩,rfl,q _ _ (bO.put (bO.refl H) I.fresh) aK⟩
 ·rw [ae];lia
 ·rw [←e];exact vals_strs l
theorem gN:gF X (.type "tuple") (fun xs H Q=>∃ p ys,xs=[.ref p]∧SqL X.K H p ys∧New H (.tup ys) Q) :=
 call_tuple_of.imp fun _ _ _ ⟨p,ys,e,h,q⟩=>⟨p,ys,e,.inl ⟨h,q.of⟩⟩
theorem jM:SlR X (fun x lo hi H Q=>∃ a xs,x= .ref a∧SqL X.K H a xs∧New H (.lst (cutV xs lo hi)) Q) :=
 sl_list.imp fun _ _ _ _ _ ⟨a,xs,e,h,q⟩=>⟨a,xs,e,h,q.of⟩
def Its (z:Str):It:=⟨fun i _=>i<z.cps.size,fun i H x H'=>H'=H∧∃ c,z.cps[i]? =some c∧x= .str ⟨#[c]⟩,fun i _=>z.cps.size≤i⟩
theorem turn_str {w:aV}(it:ak)(x:Str)(t:Tok){ty:String}(hty:ty = "str_ascii_iterator" ∨ty = "str_iterator"):Turn P w K tg (Its x) [it] it (fun i h=>h.IsStrIter it ty x t i) where
 mem:=by simp
 obj:=fun i h st b hb=>by
  have e:b=it:=by simpa using hb
  subst e;obtain ⟨o,e,c,d⟩:=st;exact ⟨o,e,fun v z=>by rw [d] at z;cases z⟩
 keep:=fun i h h' st k=>by
  obtain ⟨o,e,r⟩:=st;exact ⟨o,k it (by simp) o e,r⟩
 item:=by
  intro Y hP hw hK hc i az s σ H E I hf st hg;subst hP hw hK;obtain ⟨f0,f1,f2,f3,f4,f5⟩:=hf it (by simp);have hi:i<x.cps.size:=hg;have key:∀ h',h'.IsStrIter it ty x t (i+1)→bo it s.heap h'→∃ u,(some (af.str ⟨#[x.cps[i]]⟩ s.toks))=some u ∧
    aL (aZ Y.prog Y.w) Y.A (iJ tg (.ref it) u) (fun _ s2=>∃ x' H',Inv Y az σ H' s2∧fD x' u∧(Its x).yld i H x' H'∧s2.heap.IsStrIter it ty x t (i+1)∧∀ b∈[it],H' b=none) E { s with heap:=h',toks:=s.toks+1 }:=fun h' st' sb=>by
   have I1:Inv Y az σ H { s with heap:=h',toks:=s.toks+1 }:=I.turned (fun b o hb e=>(sb.2 b hb).trans e) f0 f1 f3 f4 f5;obtain ⟨o,e,c,d⟩:=id st';refine ⟨_,rfl,go_of (s:={ s with heap:=h',toks:=s.toks+1 }) e c d ?_ ⟨.str ⟨#[x.cps[i]]⟩,H,I1,⟨_,rfl⟩,⟨rfl,_,by simp [hi],rfl⟩,st',fun b hb=>(hf b hb).1⟩⟩
   rcases hty with rfl | rfl <;> decide
  rcases hty with rfl | rfl
  ·exact wpAny_pyNext_ascii_item st (c:=x.cps[i]) (by simp [hi]) fun h' st' sb=>key h' st' sb
  ·exact wpAny_pyNext_wide_item st (c:=x.cps[i]) (by simp [hi]) fun h' st' sb=>key h' st' sb
 done:=by
  intro Y hP hw hK hc i az s σ H E I hf st hg;subst hP hw hK;obtain ⟨f0,f1,f2,f3,f4,f5⟩:=hf it (by simp);have hi:x.cps.size≤i:=hg
  rcases hty with rfl | rfl
  ·exact wpAny_pyNext_ascii_end (I.ok.hd hc) st (by simp;lia) fun h' eb=>⟨rfl,I.turned (t':=s.toks) (fun b o hb e=>eb b o hb e) f0 f1 f3 f4 f5⟩
  ·exact wpAny_pyNext_wide_end (I.ok.hd hc) st (by simp;lia) fun h' eb=>⟨rfl,I.turned (t':=s.toks) (fun b o hb e=>eb b o hb e) f0 f1 f3 f4 f5⟩
 self:=fun A i s Q E st h=>by
  rcases hty with rfl | rfl
  ·exact wpAny_pyIter_striter_ascii st h
  ·exact wpAny_pyIter_striter_wide st h
def iStr (tl:TE):TI:=fun σ H R=>tl σ H fun x H1=>∃ z,x= .str z∧R (Its z) H1
theorem pi_str {l:Expr}{tl:TE}(hl:PE X l tl):PI X tg l (iStr tl):=by
 intro az s σ H R I h;refine thn (hl az s σ H _ I h) fun v s1 ⟨x,H1,I1,r1,q1⟩=>?_
 obtain ⟨z,rfl,q⟩:=q1;obtain ⟨t,rfl⟩:=(show ∃ t,v=af.str z t from r1);have fin:∀ b∈[s1.heap.objs.size],FpOk X az H1 b:=fun b hb=>by
  have e:b=s1.heap.objs.size:=by simpa using hb
  subst e;exact I1.fpOk (aH _) I1.fresh
 cases ha:z.cps.all (· < 128) with
 | true=>exact wpAny_pyIter_ascii ha ⟨s1.heap.objs.size,[s1.heap.objs.size],_,_,H1,rfl,I1.kept (t':=s1.toks) fun b o e=>aj _ e,turn_str _ z t (.inl rfl),⟨_,aA _ rfl,rfl,rfl⟩,fin,q⟩
 | false=>exact wpAny_pyIter_wide ha ⟨s1.heap.objs.size,[s1.heap.objs.size],_,_,H1,rfl,I1.kept (t':=s1.toks) fun b o e=>aj _ e,turn_str _ z t (.inr rfl),⟨_,aA _ rfl,rfl,rfl⟩,fin,q⟩
theorem kit_str (K:ai)(h:T∈["NoneType","bool","int","str","list","tuple","dict"]):gy K (.type T) (.type "str")=some (T == "str"):=by
 simp only [aq,aI,or_false] at h
 rcases h with rfl | rfl | rfl | rfl | rfl | rfl | rfl <;> kernel_rfl
theorem call_isStr:gF X (.builtin "isinstance") (fun xs H Q=>∃ x T,xs=[x,.ty "str"]∧tyn H x=some T∧Q (.bl (T == "str")) H) :=
 fun az s σ H xs us Q I r ⟨x,T,e,hT,q⟩=>iS az s σ H xs us Q I r ⟨x,_,_,_,e,.byName hT,kit_str _ (tyn_mem hT),q⟩
theorem hZ {Q:VK}(Pv:Nat→List V→Hp→Prop)(h0:Pv 0 [] H)(hl:∀ i ys H,i≤xs.length→Pv i ys H→SqL K H a xs∧ys.length≤i)(hz:xs.length≤ar)
  (hs:∀ i x ys H,xs[i]? =some x→Pv i ys H→tt (some x::dz σ js) H fun b H4=>if b=true then te (some x::dz σ js) H4 fun y H5=>Pv (i+1) (ys++[y]) H5 else Pv (i+1) ys H4)
  (hd:∀ ys H,Pv xs.length ys H→∀ D,H D=none→Q (.ref D) (upd H D (.lst ys))):CompW js tt te σ Q (Itl K a) H:=by
 refine ⟨fun i m ys H=>i≤xs.length∧m=xs.length - i∧Pv i ys H,⟨_,cK _,rfl,h0⟩,fun i m ys H2 ⟨hi,hm,hp⟩=>?_⟩;obtain ⟨hq,hy⟩:=hl i ys H2 hi hp
 by_cases e:i=xs.length
 ·subst e
  exact .inl ⟨⟨xs,hq,aH _⟩,hd ys H2 hp⟩
 ·have hlt:i<xs.length:=cW hi e
  refine .inr ⟨⟨xs,_,hq,gE hlt⟩,by lia,Pv (i+1),fun ys' H' hp'=>⟨xs.length - (i+1),by lia,by lia,rfl,hp'⟩,fun x H3 hy3=>?_⟩;obtain ⟨e3,hx⟩:=hy3;subst e3;exact hs i x ys H3 (hx xs hq) hp
theorem jk {Q:VK}(Pv:Nat→List V→Hp→Prop)(h0:Pv 0 [] H)(hl:∀ i ys H,i≤n→Pv i ys H→ys.length≤i)(hz:n≤ar)
  (hs:∀ (i:Nat) ys H,i<n→Pv i ys H→tt (some (.int (lo+i))::dz σ js) H fun b H4=>if b=true then te (some (.int (lo+i))::dz σ js) H4 fun y H5=>Pv (i+1) (ys++[y]) H5 else Pv (i+1) ys H4)
  (hd:∀ ys H,Pv n ys H→∀ D,H D=none→Q (.ref D) (upd H D (.lst ys))):CompW js tt te σ Q (Itr lo n) H:=by
 refine ⟨fun i m ys H=>i≤n∧m=n - i∧Pv i ys H,⟨_,cK _,rfl,h0⟩,fun i m ys H2 ⟨hi,hm,hp⟩=>?_⟩;have hy:=hl i ys H2 hi hp
 by_cases e:i=n
 ·subst e
  exact .inl ⟨aH _,hd ys H2 hp⟩
 ·have hlt:i<n:=cW hi e
  refine .inr ⟨hlt,by lia,Pv (i+1),fun ys' H' hp'=>⟨n - (i+1),by lia,by lia,rfl,hp'⟩,fun x H3 hy3=>?_⟩;obtain ⟨e3,hx⟩:=hy3;subst e3 hx;exact hs i ys H3 hlt hp
theorem comp_str {Q:VK}(Pv:Nat→List V→Hp→Prop)(h0:Pv 0 [] H)(hl:∀ i ys H,i≤z.cps.size→Pv i ys H→ys.length≤i)(hz:z.cps.size≤ar)
  (hs:∀ (i c:Nat) ys H,z.cps[i]? =some c→Pv i ys H→tt (some (.str ⟨#[c]⟩)::dz σ js) H fun b H4=>if b=true then te (some (.str ⟨#[c]⟩)::dz σ js) H4 fun y H5=>Pv (i+1) (ys++[y]) H5 else Pv (i+1) ys H4)
  (hd:∀ ys H,Pv z.cps.size ys H→∀ D,H D=none→Q (.ref D) (upd H D (.lst ys))):CompW js tt te σ Q (Its z) H:=by
 refine ⟨fun i m ys H=>i≤z.cps.size∧m=z.cps.size - i∧Pv i ys H,⟨_,cK _,rfl,h0⟩,fun i m ys H2 ⟨hi,hm,hp⟩=>?_⟩;have hy:=hl i ys H2 hi hp
 by_cases e:i=z.cps.size
 ·subst e
  exact .inl ⟨aH _,hd ys H2 hp⟩
 ·have hlt:i<z.cps.size:=cW hi e
  refine .inr ⟨hlt,by lia,Pv (i+1),fun ys' H' hp'=>⟨z.cps.size - (i+1),by lia,by lia,rfl,hp'⟩,fun x H3 hy3=>?_⟩;obtain ⟨e3,c,hc,hx⟩:=hy3;subst e3 hx;exact hs i c ys H3 hc hp
section
variable {w:aV}
theorem enumT_step {z:ak}{xs:Array af}{x:af}(E0:fZ s.heap z i1 k was)(J0:s.heap.IsTupleIter i1 a k)(T0:s.heap.IsTuple a xs)(hx:xs[k]? =some x)(hzi:z≠i1)
  (q:∀ g,IsEnumOut g z i1 ((k:Int)+1) x s.heap.objs.size→g.IsTupleIter i1 a (k+1)→g.get? s.heap.objs.size=some { cls:= .type "tuple",data:= .seq #[.int k s.toks,x] }→g.objs.size=s.heap.objs.size+1 →
   (∀ c o,c≠z→c≠i1→s.heap.get? c=some o→g.get? c=some o)→Q (.ref s.heap.objs.size) { s with heap:=g,toks:=s.toks+1 }) :
  aL (aZ prog w) A (dY.«enumerate.__next__» ⟨[.ref z],[]⟩) (fun fin s'=>∃ v,fin= .done (.ret v)∧Q v s') E s:=by
 obtain ⟨h0,gs,dr,tk,os⟩:=s;show aL _ _ (field (.ref z) 2 >>= _) _ _ _;refine ag (bC E0 rfl (x:= .ref i1) rfl ?_);refine ag (lq J0 T0 hx fun g1 J1 s1=>?_);have s1:bo i1 h0 g1:=s1;have E1:fZ g1 z i1 k was:=(s1.2 z hzi).trans E0;show aL _ _ (field (.ref z) 3 >>= _) _ _ ⟨g1,gs,dr,tk,os⟩;refine ag (bC E1 rfl (x:=rawInt k) rfl ?_);show aL _ _ (field (.ref z) 4 >>= _) _ _ ⟨g1,gs,dr,tk,os⟩;refine ag (bC E1 rfl (x:= .none) rfl ?_);show aL _ _ (mkInt k >>= _) _ _ ⟨g1,gs,dr,tk,os⟩;refine ag (wpAny_mkInt ?_);show aL _ _ (setField (.ref z) 3 (rawInt ((k:Int)+1)) >>= _) _ _ ⟨g1,gs,dr,tk+1,os⟩;refine ag (bK E1 (by simp) fun g2 E2 s2=>?_);have s2:bo z g1 g2:=s2;have E2:fZ g2 z i1 ((k:Int)+1) was:=E2;show aL _ _ (setField (.ref z) 4 .none >>= _) _ _ ⟨g2,gs,dr,tk+1,os⟩;refine ag (bK E2 (by simp) fun g3 E3 s3=>?_);have s3:bo z g2 g3:=s3;have E3:fZ g3 z i1 ((k:Int)+1) was:=E3;show aL _ _ (newTuple [.int k tk,x] >>= _) _ _ ⟨g3,gs,dr,tk+1,os⟩;refine ag (wpAny_newTuple ?_);have E4:fZ (g3.push { cls:= .type "tuple",data:= .seq #[.int k tk,x] }) z i1 ((k:Int)+1) was:=aj _ E3;have z3:g3.objs.size=h0.objs.size:=by rw [s3.1,s2.1,s1.1]
 have J4:(g3.push { cls:= .type "tuple",data:= .seq #[.int k tk,x] }).IsTupleIter i1 a (k+1):=by
  obtain ⟨o,e,r⟩:=(J1.extBut s2.extBut hzi.symm).extBut s3.extBut hzi.symm;exact ⟨o,aj _ e,r⟩
 have T4:(g3.push { cls:= .type "tuple",data:= .seq #[.int k tk,x] }).get? h0.objs.size=some { cls:= .type "tuple",data:= .seq #[.int k tk,x] }:=by rw [←z3];exact aA _ rfl
 have z4:(g3.push { cls:= .type "tuple",data:= .seq #[.int k tk,x] }).objs.size=h0.objs.size+1:=by rw [bX,z3]
 have k4:∀ c o,c≠z→c≠i1→h0.get? c=some o→(g3.push { cls:= .type "tuple",data:= .seq #[.int k tk,x] }).get? c=some o:=fun c o c1 c2 e=>aj _ (s3.extBut c o c1 (s2.extBut c o c1 (s1.extBut c o c2 e)))
 have zlt:z<h0.objs.size:=aE E0;generalize g3.push { cls:= .type "tuple",data:= .seq #[.int k tk,x] }=g4 at E4 J4 T4 z4 k4;rw [z3];show aL _ _ (cb (.ref z) >>= _) _ _ ⟨g4,gs,dr,tk+1,os⟩;refine ag ?_;unfold cb;refine ag (bC E4 rfl (x:= .none) rfl (ax ?_));simp only [if_true];refine ag (wpAny_rule ?_);refine ag (bC E4 rfl (x:=was) rfl ?_);refine ag (bK E4 (by simp) fun g5 E5 s5=>?_);have s5:bo z g4 g5:=s5;have E5:fZ g5 z i1 ((k:Int)+1) x:=E5;show aL _ _ (cH (.ref z) (.ref h0.objs.size) >>= _) _ _ ⟨g5,gs,dr,tk+1,os⟩;refine ag ?_;unfold cH;refine ag (bK E5 (by simp) fun g6 E6 s6=>?_);have s6:bo z g5 g6:=s6;have E6:IsEnumOut g6 z i1 ((k:Int)+1) x h0.objs.size:=E6;refine bK E6 (by simp) fun g7 E7 s7=>?_
 have s7:bo z g6 g7:=s7;have E7:IsEnumOut g7 z i1 ((k:Int)+1) x h0.objs.size:=E7;have up:∀ c o,c≠z→g4.get? c=some o→g7.get? c=some o:=fun c o c1 e=>s7.extBut c o c1 (s6.extBut c o c1 (s5.extBut c o c1 e))
 refine ag (wpAny_letGo (ax ⟨_,rfl,q g7 E7 ?_ (up _ _ (fq zlt) T4) (by rw [s7.1,s6.1,s5.1,z4]) fun c o c1 c2 e=>up c o c1 (k4 c o c1 c2 e)⟩));obtain ⟨o,e,r⟩:=J4;exact ⟨o,up _ o hzi.symm e,r⟩
theorem enumT_item {z:ak}{xs:Array af}{x:af}{Q:Option af→al→Prop}(E0:fZ s.heap z i1 k was)(J0:s.heap.IsTupleIter i1 a k)(T0:s.heap.IsTuple a xs)(hx:xs[k]? =some x)(hzi:z≠i1)
  (q:∀ g,IsEnumOut g z i1 ((k:Int)+1) x s.heap.objs.size→g.IsTupleIter i1 a (k+1)→g.get? s.heap.objs.size=some { cls:= .type "tuple",data:= .seq #[.int k s.toks,x] }→g.objs.size=s.heap.objs.size+1 →
   (∀ c o,c≠z→c≠i1→s.heap.get? c=some o→g.get? c=some o)→Q (some (.ref s.heap.objs.size)) { s with heap:=g,toks:=s.toks+1 }):aL (aZ prog w) A (pyNext (.ref z)) Q E s:=by
 have ht:s.TypeIs (.ref z) "enumerate" := ⟨_,E0,rfl⟩;unfold pyNext;refine ag (ig (cA (name:=aY "__next__") ht cU (dw cU ht gS ?_ (gJ _))));exact enumT_step E0 J0 T0 hx hzi fun g e1 e2 e3 e4 e5=>ax (q g e1 e2 e3 e4 e5)
theorem enumT_end {z:ak}{xs:Array af}{Q:Option af→al→Prop}(hh:A.handled=none)(E0:fZ s.heap z i1 k was)(J0:s.heap.IsTupleIter i1 a k)(T0:s.heap.IsTuple a xs)(hx:xs[k]? =none)
  (q:∀ g,bj.ExtBut i1 s.heap g→Q none { s with heap:=g }):aL (aZ prog w) A (pyNext (.ref z)) Q E s:=by
 have ht:s.TypeIs (.ref z) "enumerate" := ⟨_,E0,rfl⟩;unfold pyNext;refine ag (ig (cA (name:=aY "__next__") ht cU (dw cU ht gS ?_ (gJ _))));show aL _ _ (field (.ref z) 2 >>= _) _ _ _;refine ag (bC E0 rfl (x:= .ref i1) rfl ?_);refine ag (nextT_end hh J0 T0 hx fun g x kp hxx=>?_);obtain ⟨o,e1,e2⟩:=hxx;refine ag (wpAny_isInstance (T := "StopIteration") (b:=true) ⟨o,e1,e2⟩ isSubtype_stop ?_);exact ax (q _ kp)
end
section
open AutoSeq1 (wpAny_loadPart')
theorem enumT_new (a:ak)(xs:Array af) :
  Meets (dY.«enumerate.__new__» ⟨[.type "enumerate",.ref a],[]⟩) (fun _ R s=>s.heap.IsTuple a xs ∧
   R (.ok (.ret (.ref (s.heap.push { cls:= .type "tuple_iterator",data:= .fields #[.ref a,.int 0 0] }).objs.size)))
    {s with heap:=(s.heap.push { cls:= .type "tuple_iterator",data:= .fields #[.ref a,.int 0 0] }).push { cls:= .type "enumerate",data:= .fields #[.none,.bool false,.ref s.heap.objs.size,rawInt 0,.none,.none] } }) :=
 .of_wp fun prog w A R s h=>by
  obtain ⟨hp,g,d,tk,os⟩:=s;obtain ⟨h1,h⟩:=h;have subE:=sub_enumerate;have k1:bj.IsTuple (al.heap ⟨hp,g,d,tk,os⟩) a xs:=h1
  wp_walk using fG k1
  refine wpAny_stack_any fun st=>ax ?_
  split
  ·rename_i c _ _ _ _ _
   cases (c == af.type "enumerate")
   ·wp_walk using fG k1
    exact ⟨_,rfl,h⟩
   ·wp_walk using fG k1
    exact ⟨_,rfl,h⟩
  ·wp_walk using fG k1
   exact ⟨_,rfl,h⟩
theorem call_enumT {w:aV}{xs:Array af}(h1:s.heap.IsTuple a xs)
  (q:∀ g,fZ g (s.heap.objs.size+1) s.heap.objs.size 0 .none→g.IsTupleIter s.heap.objs.size a 0→g.objs.size=s.heap.objs.size+2→(∀ c o,s.heap.get? c=some o→g.get? c=some o)→Q (.ref (s.heap.objs.size+1)) { s with heap:=g }) :
  aL (aZ prog w) A (call (.type "enumerate") [.ref a]) Q E s:=by
 refine callType_new F.called_enumerate (by decide) (F.typeCall_enumerate_1 _) (F.newCall_enumerate_1 _) (fun obj=>F.args_object_init_2 obj _) F.entry_enumerate_new (enumT_new a xs) ⟨h1,?_⟩;have e1:(s.heap.push { cls:= .type "tuple_iterator",data:= .fields #[.ref a,.int 0 0] }).objs.size=s.heap.objs.size+1:=bX ..;have f2:=aA (s.heap.push { cls:= .type "tuple_iterator",data:= .fields #[.ref a,.int 0 0] }) (o:={ cls:= .type "enumerate",data:= .fields #[.none,.bool false,.ref s.heap.objs.size,rawInt 0,.none,.none] }) rfl;show _∧_;rw [e1] at f2 ⊢;exact ⟨⟨_,f2,rfl⟩,q _ f2 ⟨_,aj _ (aA _ rfl),rfl,rfl⟩ (by rw [bX,e1]) fun c o x=>aj _ (aj _ x)⟩
end
def Ite (a:ak):It :=
 ⟨fun i H=>∃ xs x,H a=some (.tup xs)∧xs[i]? =some x,
  fun i H v H'=>∃ p x,H p=none∧v= .ref p∧H'=upd H p (.tup [.int (i:Nat),x])∧∀ xs,H a=some (.tup xs)→xs[i]? =some x,
  fun i H=>∃ xs,H a=some (.tup xs)∧xs.length≤i⟩
theorem turn_enum {w:aV}{k0}{z:ak}(a:ak)(hzi:z≠i1) :
  Turn P w K (.Tuple es k0 pos) (Ite a) [z,i1] z (fun i h=>(∃ was,fZ h z i1 i was)∧h.IsTupleIter i1 a i) where
 mem:=by simp
 obj:=fun i h st c hc=>by
  obtain ⟨⟨was,e1⟩,⟨o2,e2,_,d2⟩⟩:=st;simp only [aq,aI,or_false] at hc
  rcases hc with rfl | rfl
  ·exact ⟨_,e1,fun v z=>by cases z⟩
  ·exact ⟨_,e2,fun v z=>by rw [d2] at z;cases z⟩
 keep:=fun i h h' st k=>by
  obtain ⟨⟨was,e1⟩,⟨o2,e2,r2⟩⟩:=st;exact ⟨⟨was,k z (by simp) _ e1⟩,⟨o2,k i1 (by simp) _ e2,r2⟩⟩
 item:=by
  intro X hP hw hK hc i az s σ H E I hf st hg;subst hP hw hK;obtain ⟨xs,x,ha,hx⟩:=hg;obtain ⟨⟨was,e1⟩,j1⟩:=st;obtain ⟨its,rv,pt,_⟩:=I.tuple (SqT.of (K:=X.K) ha);obtain ⟨u,hu,ru⟩:=rv.get hx;have nz:∀ e∈[z,i1],H e=none:=fun e he=>(hf e he).1
  have hT:H s.heap.objs.size=none:=I.fresh;refine enumT_item e1 j1 (show s.heap.IsTuple a its.toArray from pt) (x:=u) (by simpa using hu) hzi fun g z1 m1 tp sz kk=>⟨_,rfl,?_⟩
  refine wpAny_letOwnedTupleGo_enum z1 fun g2 z2 s2=>?_
  have s2:bo z g g2:=s2;have k2:∀ e o,e ∉ [z,i1]→s.heap.get? e=some o→g2.get? e=some o:=fun e o hn h=>by
   simp only [aq,aI,or_false,not_or] at hn;exact s2.extBut _ _ hn.1 (kk e o hn.1 hn.2 h)
  have zlt:z<s.heap.objs.size:=aE e1;have tp2:g2.get? s.heap.objs.size=some { cls:= .type "tuple",data:= .seq #[.int i s.toks,u] }:=s2.extBut _ _ (fq zlt) tp;have trk:∀ e o,H e=some o→e ∉ [z,i1]:=fun e o he hm=>by rw [nz e hm] at he;cases he
  have I':=I.tok (s.toks+1);have J:Inv X az σ (upd H s.heap.objs.size (.tup [.int (i:Nat),x])) { s with heap:=g2,toks:=s.toks+1 }:=by
   refine I'.turnAll (ch:=[z,i1]) (fun e he=>hf e he) k2 (fun e o h=>by rw [aR (aJ h hT)];exact h) (fun e o h n=>by rw [aR (bu (aE h))];exact n) fun e o h=>?_
   by_cases q:e=s.heap.objs.size
   ·subst q
    rw [aK] at h;cases h;exact ⟨by show 2≤ar;decide,[.int i s.toks,u],.cons ⟨_,rfl⟩ (.cons ru .nil),_,tp2,rfl,rfl,_,rfl⟩
   ·rw [aR q] at h
    refine (I.hok e o h).stay (fun c v hc' q'=>k2 c v (by
     rcases hc' with z' | z'
     ·rw [z'];exact trk e o h
     ·exact trk c _ z') q') (fun c q'=>by rw [aR (aJ q' hT)];exact q') fun c xs q'=>by rw [aR (aJ q' hT)];exact q'
  refine ⟨.ref s.heap.objs.size,_,J,rfl,⟨_,x,hT,rfl,rfl,fun xs' h'=>by rw [ha] at h';cases h';exact hx⟩,⟨⟨u,z2⟩,m1.extBut s2.extBut hzi.symm⟩,fun e he=>?_⟩;obtain ⟨o4,q4,_⟩:=j1;have hlt:e<s.heap.objs.size:=by
   simp only [aq,aI,or_false] at he
   rcases he with rfl | rfl
   ·exact aE e1
   ·exact aE q4
  rw [aR (bu hlt)];exact nz e he
 done:=by
  intro X hP hw hK hc i az s σ H E I hf st hg;subst hP hw hK;obtain ⟨xs,ha,hx⟩:=hg;obtain ⟨⟨was,e1⟩,j1⟩:=st;obtain ⟨its,rv,pt,_⟩:=I.tuple (SqT.of (K:=X.K) ha);obtain ⟨f0,f1,f2,f3,f4,f5⟩:=hf i1 (by simp);have hl:=rv.length;exact enumT_end (I.ok.hd hc) e1 j1 (show s.heap.IsTuple a its.toArray from pt) (by simp;lia) fun g kp=>⟨rfl,I.turned (t':=s.toks) (fun b o hb e=>kp b o hb e) f0 f1 f3 f4 f5⟩
 self:=fun _ _ _ _ _ st h=>let ⟨⟨_,e1⟩,_⟩:=st;wpAny_pyIter_enum e1 h
def iEnum (ta:TA):TI:=fun σ H R=>ta σ H fun vs H1=>∃ a xs,vs=[.ref a]∧H1 a=some (.tup xs)∧R (Ite a) H1
theorem pi_enum {ta:TA}{p:Pos}{k0}{pt:Pos}(hg:Gl X "enumerate")(hm:X.mg "enumerate" =none)(ha:PA X [ea] ta)(hs:aU [ea] X.env=[(false,cN ea X.env)]:=by rfl) :
  PI X (.Tuple es k0 pt) (.Call (.Name "enumerate" p) [ea] [] pos) (iEnum ta):=by
 intro az s σ H R I h;refine Call_ (jP I hg hm boot_enumerate (cE (thn (ha pos az s σ H _ I h) fun us s1 ⟨vs,H1,I1,r1,q1⟩=>?_) hs rfl));obtain ⟨a,xs,e,hA,q⟩:=q1;subst e;obtain ⟨u1,rfl,r2⟩:=jA r1;cases (show u1=af.ref a from r2);obtain ⟨its,rv,pt',_⟩:=I1.tuple (SqT.of (K:=X.K) hA);refine call_enumT (show s1.heap.IsTuple a its.toArray from pt') fun g z1 j1 sz kk=>?_
 refine wpAny_pyIter_enum z1 ⟨s1.heap.objs.size+1,[s1.heap.objs.size+1,s1.heap.objs.size],_,Ite a,H1,rfl,I1.kept (t':=s1.toks) kk,turn_enum a (by show @Ne Nat _ _;lia),⟨⟨_,z1⟩,j1⟩,fun e he=>?_,q⟩;have hge:s1.heap.objs.size≤e:=by
  simp only [aq,aI,or_false] at he
  rcases he with rfl | rfl <;> (show @LE.le Nat _ _ _;lia)
 exact I1.fpOk hge (I1.hok.fresh hge)
end L2
namespace HN
open PySem
end HN
namespace L2
open PySem PySem.Spec PyProof.Rows
theorem ps_setCC {iy:Nat}{y0:Str}{py spos:Pos}{xs:List Str}
  (hN0:X.N.Nodup) (hi0:X.N[iy]? =some y0) (hx0:Loc X.env.scope y0) (hc:X.calm=true) (hi:PI X tg iter wi)
  (jf:∀ y∈scope.names,y.2≠ .cell) (jH:scope.kind= .function) (je:∀ y∈scope.names,y.2= .local→scope.names.lookup y.1=some .local)
  (hfr:∀ y∈scope.names,y.2= .free→X.env.scope.names.lookup y.1=some .cell) (hjs:js.map (fun j=>X.N[j]?)=fr.map some) (hfv:∀ y∈fr,scope.names.lookup y=some .free)
  (hg:∀ cl C s' H' ex,PG (eQ X scope cl C (xs++fr) s' H' ex) tg g)
  (hb:∀ cl C s' H' ex,PE (eQ X scope cl C (xs++fr) s' H' ex) elt te∧PTs (eQ X scope cl C (xs++fr) s' H' ex) ifs tt)
  (hCW:∀ σ Q J H1,CW σ Q J H1→lH xs.length g js tt te σ Q J H1) (hs:∀ z,eY iter X.env z=fe z:=by intro _;rfl) (hsw:swapsWith (.ListComp elt [⟨tg,iter,ifs,0⟩] scope pos) (some (.Name y0 py)) spos.line X.env=fe true:=by rfl)
  (hf0:X.fn y0=true∨X.env.scope.names.lookup y0=some .local:=by first | exact .inl rfl | exact .inr rfl | assumption) :
  PS X (.Assign [.Name y0 py] (.ListComp elt [⟨tg,iter,ifs,0⟩] scope pos) spos) (tAsg (fun σ H Q=>wi σ H fun J H1=>CW σ Q J H1) (jq iy)):=by
 intro az s σ H Dn I h;rw [exec_Assign_Name_used _ _ _ _ hsw];refine ag (wpAny_standAt (ag ?_));show aL _ X.A (do let _ ← comprehension (.ListComp elt [⟨tg,iter,ifs,0⟩] scope pos) scope X.env _ (newList []) false (cN iter X.env) (some (assign (.Name y0 py) X.env))) _ _ s;refine ag (c5 (comp_core (use:=some (assign (.Name y0 py) X.env)) (R:=fun _ s'=>SP X az Dn .next s') hc hi jf jH je hfr hjs hfv hg hb hCW I h (fun s4 H5 D C mC hnC I5 nC locC fsC pinX cC sC q=>?_) hs) (fun _ s' hq=>ax (ax hq)) fun _ _ e=>e);obtain ⟨oC,esC,epC,hoC,rC⟩:=id hnC;have I6:Inv X ((C,oC)::az) σ H5 s4:=I5.pins_of fun p hp=>by
  rcases aq.mp hp with rfl | hp
  ·refine ⟨hoC,nC,locC,fsC,fun v z=>?_⟩
   rw [rC.1] at z;cases z
  ·exact I5.pin p (bF _ hp)
 have hPG0:PG X (.Name y0 py) (jq iy):=jX hN0 hi0 hx0 hf0;refine thn (hPG0 _ s4 σ _ (.ref D) (.ref D) (fun σ' H'=>Dn.nx σ' H'∧H' C=none) I6 rfl ⟨q,nC⟩) fun _ s6 ⟨σ6,H6,I7,q7,n7⟩=>?_
 have o7:=(I7.pin (C,oC) (bF _ (bW ..))).1;refine ⟨mC,⟨oC,esC,epC,o7,rC⟩,fun h' hsb=>⟨σ6,H6,?_,q7⟩⟩;have I8:Inv X az σ6 H6 s6:=I7.pins_of fun p hp=>I7.pin p (bF _ (aS _ hp))
 exact I8.turned (t':=s6.toks) (it:=C) (fun b o hb' e=>hsb.extBut b o hb' e) n7 locC (.inr sC) cC pinX
theorem ps_setC {iy:Nat}{y0:Str}{py spos:Pos}{px:Pos}
  (hN0:X.N.Nodup) (hi0:X.N[iy]? =some y0) (hx0:Loc X.env.scope y0) (hc:X.calm=true) (hi:PI X (.Name x px) iter wi)
  (jf:∀ y∈scope.names,y.2≠ .cell) (jH:scope.kind= .function) (je:∀ y∈scope.names,y.2= .local→scope.names.lookup y.1=some .local) (hx:scope.names.lookup x=some .local)
  (hfr:∀ y∈scope.names,y.2= .free→X.env.scope.names.lookup y.1=some .cell) (hnd:(x::fr).Nodup) (hjs:js.map (fun j=>X.N[j]?)=fr.map some) (hfv:∀ y∈fr,scope.names.lookup y=some .free)
  (hb:∀ cl C s' H' ex,PE (eQ X scope cl C (x::fr) s' H' ex) elt te∧PTs (eQ X scope cl C (x::fr) s' H' ex) ifs tt)
  (hs:∀ z,eY iter X.env z=fe z:=by intro _;rfl) (hsw:swapsWith (.ListComp elt [⟨.Name x px,iter,ifs,0⟩] scope pos) (some (.Name y0 py)) spos.line X.env=fe true:=by rfl)
  (hf0:X.fn y0=true∨X.env.scope.names.lookup y0=some .local:=by first | exact .inl rfl | exact .inr rfl | assumption) :
  PS X (.Assign [.Name y0 py] (.ListComp elt [⟨.Name x px,iter,ifs,0⟩] scope pos) spos) (tAsg (tComp wi js tt te) (jq iy)) :=
 ps_setCC (xs:=[x]) (g:=jq 0) hN0 hi0 hx0 hc hi jf jH je hfr hjs hfv (fun _ _ _ _ _=>jX hnd rfl (.inl (c9 hx)) (.inr (c9 hx))) hb (fun _ _ _ _ h=>compW_T h) hs hsw hf0
def notStar:Expr→Bool
 | .Starred _ _=>false
 | _=>true
theorem starEach_not (h:notStar e=true):aU (e::es) env=(false,cN e env)::aU es env:=by
 cases e <;> first | rfl | cases h
theorem pa_k (ha:PE X e te)(hr:PA X es t)(h:notStar e=true:=by rfl):PA X (e::es) (kB te t):=ah ha hr (starEach_not h)
structure PEs (X:Cx)(e:Expr)(t:TE):Prop where
 h:PE X e t
structure PAs (X:Cx)(es:List Expr)(t:TA):Prop where
 h:PA X es t
structure PSt (X:Cx)(st:b8)(t:TS):Prop where
 h:PS X st t
theorem kE {t:TS}(h:PS X st t):PS X st (fun D σ H=>∃ N:St→Hp→Prop,(∀ σ' H',N σ' H'→D.nx σ' H')∧t { D with nx:=N } σ H):=by
 intro az s σ H D I ⟨N,hN,ht⟩;refine thn (h az s σ H { D with nx:=N } I ht) fun f s' q=>?_
 cases f with
 | next=>obtain ⟨σ',H',I',n'⟩:=q;exact ⟨σ',H',I',hN _ _ n'⟩
 | brk=>exact q
 | cont=>exact q
 | ret u=>exact q
structure PSl (X:Cx)(sts:List b8)(t:TS):Prop where
 h:PSs X sts t
section
variable {a b:Expr}{tb:TE}
theorem ff {i j}:PEs X (.Constant (.int i) j pos) (tC (.int i)):=⟨aT⟩
theorem k_op {op:Operator}{r:R2}(ho:OpR X (eZ op) r)(ha:PEs X a ta)(hb:PEs X b tb):PEs X (.BinOp a op b pos) (tOp r ta tb):=⟨cn ho ha.h hb.h⟩
theorem jo {r:R2}(hr:IxR X r)(ha:PEs X a ta)(hb:PEs X b tb)(hs:PlainIx b):PEs X (.Subscript a b pos) (tOp r ta tb):=⟨dO hr ha.h hb.h hs⟩
theorem k_lst (h:PAs X es t):PEs X (.List es pos) (tLstA t):=⟨iQ h.h⟩
theorem a_nil:PAs X [] tNil:=⟨aw⟩
theorem cT (ha:PEs X e te)(hr:PAs X es t)(h:notStar e=true:=by rfl):PAs X (e::es) (kB te t):=⟨pa_k ha.h hr.h h⟩
theorem bf {sts:List b8}{t u:TS}(a:PSt X st t)(b:PSl X sts u):PSl X (st::sts) (tSeq t u):=⟨cz a.h b.h⟩
theorem fR {t:TS}(a:PSt X st t):PSl X [st] t:=⟨bp a.h⟩
end
theorem ints_are:∀ {ns:List Int} {us:List af},eI (ns.map V.int) us→IntsAre us ns
 | [],_,.nil=> .nil
 | _::_,_,.cons ⟨_,e⟩ r=>by cases e;exact .cons _ _ (ints_are r)
theorem pe_compT {xs:List Str}
  (hc:X.calm=true) (hi:PI X tg iter wi)
  (jf:∀ y∈scope.names,y.2≠ .cell) (jH:scope.kind= .function) (je:∀ y∈scope.names,y.2= .local→scope.names.lookup y.1=some .local)
  (hfr:∀ y∈scope.names,y.2= .free→X.env.scope.names.lookup y.1=some .cell) (hjs:js.map (fun j=>X.N[j]?)=fr.map some) (hfv:∀ y∈fr,scope.names.lookup y=some .free)
  (hg:∀ cl C s' H' ex,PG (eQ X scope cl C (xs++fr) s' H' ex) tg g)
  (hb:∀ cl C s' H' ex,PE (eQ X scope cl C (xs++fr) s' H' ex) elt te∧PTs (eQ X scope cl C (xs++fr) s' H' ex) ifs tt)
  (hs:∀ z,eY iter X.env z=fe z:=by intro _;rfl) :
  PE X (.ListComp elt [⟨tg,iter,ifs,0⟩] scope pos) (tCompT wi xs.length g js tt te) :=
 pe_compC hc hi jf jH je hfr hjs hfv hg hb (fun _ _ _ _ h=>h) hs
abbrev gPair (K:ai):TG:=gTup K 2 (gCons (jq 0) (gCons (jq 1) gNil))
theorem pg_two {cl:List (Str×ak)}{ex:List ak}{y:Str}{p1 pt:Pos}(hc:X.calm=true)(hnd:(x::y::fr).Nodup)(hx:scope.names.lookup x=some .local)(hy:scope.names.lookup y=some .local) :
  PG (eQ X scope cl C ([x,y]++fr) s H ex) (.Tuple [.Name x p1,.Name y p2] k pt) (gPair X.K) :=
 j7 hc (dU (jX (i:=0) hnd rfl (.inl (c9 hx)) (.inr (c9 hx))) (dU (jX (i:=1) hnd rfl (.inl (c9 hy)) (.inr (c9 hy))) i9))
theorem compT_enum {Q:VK}(Pv:Nat→List V→Hp→Prop)(h0:Pv 0 [] H)(hl:∀ i ys H,i≤xs.length→Pv i ys H→H a=some (.tup xs)∧ys.length≤i)(hz:xs.length≤ar)
  (hs:∀ i x ys p H,xs[i]? =some x→Pv i ys H→H p=none→tt (some (.int (i:Nat))::some x::dz σ js) (upd H p (.tup [.int (i:Nat),x])) fun b H4=>if b=true then te (some (.int (i:Nat))::some x::dz σ js) H4 fun y H5=>Pv (i+1) (ys++[y]) H5 else Pv (i+1) ys H4)
  (hd:∀ ys H,Pv xs.length ys H→∀ D,H D=none→Q (.ref D) (upd H D (.lst ys))):lH 2 (gPair K) js tt te σ Q (Ite a) H:=by
 refine ⟨fun i m ys H=>i≤xs.length∧m=xs.length - i∧Pv i ys H,⟨_,cK _,rfl,h0⟩,fun i m ys H2 ⟨hi,hm,hp⟩=>?_⟩;obtain ⟨hq,hy⟩:=hl i ys H2 hi hp
 by_cases e:i=xs.length
 ·subst e
  exact .inl ⟨⟨xs,hq,aH _⟩,hd ys H2 hp⟩
 ·have hlt:i<xs.length:=cW hi e
  refine .inr ⟨⟨xs,_,hq,gE hlt⟩,by lia,Pv (i+1),fun ys' H' hp'=>⟨xs.length - (i+1),by lia,by lia,rfl,hp'⟩,fun v H3 hy3 v0 hv0=>?_⟩;obtain ⟨p,x,hn,rfl,rfl,hx⟩:=hy3
  match v0,hv0 with
  | [v1,v2],_=>exact ⟨p,_,rfl,SqT.of aK,rfl,_,_,rfl,_,_,rfl,rfl,⟨[some (.int (i:Nat)),some x],rfl,rfl⟩,hs i x ys p H2 (hx xs hq) hp hn⟩
end L2
local macro_rules
 | `(tactic|exists $s:term) => `(tactic|(show ∀ y:bY×PySem.NameKind,y∈_→y.2=PySem.NameKind.free→dv y.1 (L2.defScope $s).names=some PySem.NameKind.cell;decide +kernel))
local macro_rules
 | `(tactic|trivial) => `(tactic|first|decide +kernel|exact ⟨rfl,rfl,rfl,by decide +kernel,rfl,by decide +kernel,by decide +kernel⟩|exact True.intro)
local macro_rules
 | `(tactic|contradiction) => `(tactic|(intro _ _ _ _ h;first | (cases h;subst_vars;rfl) | ((repeat (obtain ⟨_,h⟩:=h));subst_vars;rfl)))
namespace L2
open PySem PyProof.Rows
theorem ixZ {a:Expr}{p q:Pos}{j}(h:PE X a ta):PE X (.Subscript a (.Constant (.int i) j p) q) (tOp (rIxT X.K) ta (tC (.int i))):=dO jQ h aT (fun _ _=>rfl)
theorem szZ1:1≤ar:=by decide
theorem szZ2:2≤ar:=by decide
theorem szZ4:4≤ar:=by decide
theorem szZ5:5≤ar:=by decide
theorem psZ (i:Nat)(hN:X.N.Nodup)(he:PE X e te)(hi:X.N[i]? =some x:=by rfl)(hx:Loc X.env.scope x:=by first|exact .inl rfl|exact .inr rfl)(hs:swapsWith e (some (.Name x pos')) pos.line X.env=fe false:=by rfl)(hf:X.fn x=true∨X.env.scope.names.lookup x=some .local:=by first|exact .inl rfl|exact .inr rfl|assumption):PS X (.Assign [.Name x pos'] e pos) (tAsg te (jq i)):=ps_set hN hi hx he hs hf
theorem pgZ (i:Nat)(hN:X.N.Nodup)(hi:X.N[i]? =some x:=by rfl)(hx:Loc X.env.scope x:=by first|exact .inl rfl|exact .inr rfl)(hf:X.fn x=true∨X.env.scope.names.lookup x=some .local:=by first|exact .inl rfl|exact .inr rfl|assumption):PG X (.Name x pos) (jq i):=jX hN hi hx hf
end L2
namespace L2
abbrev pza:List bY:=["self"]
abbrev pzb:List bY:=["self","row"]
abbrev pzc:List bY:=["word"]
abbrev pzd:List bY:=["net","table"]
abbrev pze:List bY:=["_law_script","_law_k"]
abbrev pzf:List bY:=["text"]
abbrev pzg:List bY:=["self","stop"]
abbrev pzh:List bY:=["_law_pot_here","_law_most"]
abbrev pzi:List bY:=["beat","one","other","row"]
abbrev pzj:List bY:=["thing","low","high"]
abbrev pzk:List bY:=["beat","many","thing"]
abbrev pzl:List bY:=["beat","number"]
abbrev pzm:List bY:=["many","start","goal"]
abbrev pzn:List bY:=["beat","least","most"]
abbrev pzo:List bY:=["self","name","stops","runs","first"]
abbrev pzp:List bY:=["self","beat"]
abbrev pzq:List bY:=["one","other","row"]
abbrev pzr:List bY:=["_law_cell","_law_k"]
abbrev pzs:List bY:=["_law_pot_here","_law_lots"]
abbrev pzt:List bY:=["_law_beat","_law_rows"]
abbrev pzu:List bY:=["_law_rides","_law_first","_law_beat"]
abbrev pzv:List bY:=["_law_beat","_law_one","_law_other","_law_gap"]
abbrev pzw:List bY:=["_law_beat","_law_one","_law_other","_law_rides","_law_gap"]
abbrev pzx:List bY:=["_law_pot_here","_law_beat","_law_rides","_law_places","_law_pair","_law_gap"]
abbrev pzy:List bY:=["_law_script","_law_names_here","_law_stops","_law_beat","_law_back"]
abbrev pzz:List bY:=["self","stop","after"]
abbrev pzA:List bY:=["net","table","span"]
end L2
namespace HN
open PySem L2 PyProof.Rows
abbrev B60:Int:=10 ^ 60 - 1
def isI:V→Bool
 | .int _=>true
 | _=>false
def iv:V→Int
 | .int i=>i
 | _=>0
def inI (v:V)(lo hi:Int):Bool:=match v with
 | .int i=>decide (lo≤i) && decide (i≤hi)
 | _=>false
def jR (m:Int)(s g:V):Bool:=inI s 0 (m - 1) && (inI g 0 (m - 1) && !decide (s=g))
def kM (b:Int)(l o:V):Bool:=inI l 0 B60 && inI o (iv l) (if B60<iv l+b - 1 then B60 else iv l+b - 1)
def jL (H:Hp)(b m:Int)(v:V):Bool:=match v with
 | .ref a=>match H a with
  | some (.tup [s,g,l,o,w])=>jR m s g && (kM b l o && inI w 0 1000000000000)
  | _=>false
 | _=>false
def Kn (H:Hp)(v:V):Prop:=∃ T,tyn H v=some T
def Below (P:V→Prop)(H:Hp)(v:V):Prop:=Kn H v∧∀ a xs,v= .ref a→H a=some (.tup xs)→∀ x∈xs,P x
abbrev G1 (H:Hp)(v:V):Prop:=Below (Kn H) H v
theorem sort_int (h:tyn H v=some T):(T == "int" || T == "bool")=true→(!(T == "bool"))=isI v:=by
 cases v with
 | ref a =>
  simp only [tyn] at h;cases q:H a with
  | none=>rw [q] at h;cases h
  | some o=>rw [q] at h;cases o <;> first | (cases h;intro z;exact lK z (by decide)) | cases h
 | non=>cases h;intro z;exact lK z (by decide)
 | bl b=>cases h;intro _;show (!("bool" == "bool"))=false;decide
 | int i=>cases h;intro _;show (!("int" == "bool"))=true;decide
 | str x=>cases h;intro z;exact lK z (by decide)
 | _=>cases h
theorem sort_noInt (h:tyn H v=some T):¬ (T == "int" || T == "bool")=true→isI v=false:=by
 cases v with
 | int i=>cases h;intro z;exact lK (by decide) z
 | _=>intro _;rfl
theorem isI_of (h:isI v=true):∃ i,v= .int i:=by
 cases v with
 | int i=>exact ⟨i,rfl⟩
 | _=>cases h
theorem sort_tup (h:tyn H v=some T):(∃ a xs,v= .ref a∧H a=some (.tup xs)∧(T == "tuple")=true)∨((T == "tuple")=false∧∀ a xs,v= .ref a→H a≠some (.tup xs)):=by
 cases v with
 | ref a =>
  simp only [tyn] at h;cases q:H a with
  | none=>rw [q] at h;cases h
  | some o =>
   rw [q] at h;cases o with
   | tup xs=>cases h;exact .inl ⟨a,xs,rfl,q,by decide⟩
   | lst xs=>cases h;exact .inr ⟨by decide,fun b ys e z=>by cases e;rw [q] at z;cases z⟩
   | dK xs=>cases h;exact .inr ⟨by decide,fun b ys e z=>by cases e;rw [q] at z;cases z⟩
   | _=>cases h
 | non=>cases h;exact .inr ⟨by decide,fun a xs e=>by cases e⟩
 | bl b=>cases h;exact .inr ⟨by decide,fun a xs e=>by cases e⟩
 | int i=>cases h;exact .inr ⟨by decide,fun a xs e=>by cases e⟩
 | str x=>cases h;exact .inr ⟨by decide,fun a xs e=>by cases e⟩
 | _=>cases h
theorem spanOk_no {m:Int}(h:∀ a xs,v= .ref a→H a=some (.tup xs)→xs.length≠5):jL H b m v=false:=by
 cases v with
 | ref a =>
  simp only [jL];split
  ·rename_i s g l o w e
   exact lK rfl (h a _ rfl e)
  ·rfl
 | _=>rfl
theorem len5 (h:xs.length=5):∃ a b c d e,xs=[a,b,c,d,e]:=by
 match xs,h with
 | [a,b,c,d,e],_=>exact ⟨a,b,c,d,e,rfl⟩
theorem iteB {b:Bool}{A:Prop}(h:b=true)(x:A):if b=true then A else B:=by rw [lJ h];exact x
theorem jz {b:Bool}{A:Prop}(h:b=false)(x:B):if b=true then A else B:=by rw [lI (by rw [h];exact aQ)];exact x
structure Nm (mg:Str→Option af):Prop where
 isin:mg "isinstance" =none
 tint:mg "int" =none
 tbool:mg "bool" =none
 ttup:mg "tuple" =none
 len:mg "len" =none
 min:mg "min" =none
 all:mg "all" =none
structure Cs (mg:Str→Option af):Prop where
 mh:∃ t,mg "MOST_HAPPENINGS" =some (.int 16 t)
 ms:∃ t,mg "MOST_SPANS" =some (.int 40 t)
 mw:∃ t,mg "MOST_WEIGHT" =some (.int 1000000000000 t)
structure Fn (K:ai)(mg:Str→Option af)(x:Str)(st:b8)(ps:List Str)(f:ak)(fd:aO):Prop where
 F:Fun K x x st f fd
 mg:mg x=some (.ref f)
 b:Binds K fd ps []
theorem pc1 {sp:Sp}{p:Pos}(G:Fn X.K X.mg x st ps f fd)(F:cI X.prog X.w X.K X.mg X.base CX0 k f fd ps sp)(hr:iZ k X.A)
  (ha:PA X (e::es) t) (hg:Gl X x:=by rfl) (hdb:(x == ("__debug__" :Str))=false:=by decide) (he:aU (e::es) X.env=(false,cN e X.env)::aU es X.env:=by rfl) (hpl:(eu pos (aU es X.env)).any (·.1)=false:=by rfl) :
  PE X (.Call (.Name x p) (e::es) [] pos) (tCall sp [] E0 t):=pe_call F hr hg G.mg G.F.kp G.b .nil fz ha hdb he hpl
theorem pc0 {sp:Sp}{p:Pos}(G:Fn X.K X.mg x st [] f fd)(F:cI X.prog X.w X.K X.mg X.base CX0 k f fd [] sp)(hr:iZ k X.A)
  (hg:Gl X x:=by rfl) (hdb:(x == ("__debug__" :Str))=false:=by decide):PE X (.Call (.Name x p) [] [] pos) (tCall sp [] E0 tNil):=pe_call0 F hr hg G.mg G.F.kp G.b .nil fz hdb
theorem kG (hm:∃ t,X.mg x=some (.int i t))(hg:Gl X x:=by rfl)(hd:(x == ("__debug__" :Str))=false:=by decide):PE X (.Name x pos) (tC (.int i)) :=
 let ⟨t,e⟩:=hm;kF (v:= .int i) (u:= .int i t) hg e ⟨t,rfl⟩ hd
theorem pe_isTup {p:Pos}(N:Nm X.mg)(he:PE X e te)(hg:Gl X "isinstance" := by rfl)(hg2:Gl X "tuple" := by rfl)
  (hs1:aU [e,.Name "tuple" p2] X.env=(false,cN e X.env)::aU [.Name "tuple" p2] X.env:=by rfl) (hpl:(eu pos (aU [.Name "tuple" p2] X.env)).any (·.1)=false:=by rfl) :
  PE X (.Call (.Name "isinstance" p) [e,.Name "tuple" p2] [] pos) (tCB (fun xs H Q=>∃ x T,xs=[x,.ty "tuple"]∧tyn H x=some T∧Q (.bl (T == "tuple")) H) (kB te (kB (tC (.ty "tuple")) tNil))) :=
 cw call_isTup hg N.isin boot_isinstance (ah he (ah (pe_bltn hg2 N.ttup gP rfl) aw) hs1) (he:=hs1) (hpl:=hpl)
theorem pe_isInt {p:Pos}(N:Nm X.mg)(he:PE X e te)(hg:Gl X "isinstance" := by rfl)(hg2:Gl X "int" := by rfl)
  (hs1:aU [e,.Name "int" p2] X.env=(false,cN e X.env)::aU [.Name "int" p2] X.env:=by rfl) (hpl:(eu pos (aU [.Name "int" p2] X.env)).any (·.1)=false:=by rfl) :
  PE X (.Call (.Name "isinstance" p) [e,.Name "int" p2] [] pos) (tCB (fun xs H Q=>∃ x T,xs=[x,.ty "int"]∧tyn H x=some T∧Q (.bl (T == "int" || T == "bool")) H) (kB te (kB (tC (.ty "int")) tNil))) :=
 cw call_isInt hg N.isin boot_isinstance (ah he (ah (pe_bltn hg2 N.tint boot_int rfl) aw) hs1) (he:=hs1) (hpl:=hpl)
theorem pe_isBool {p:Pos}(N:Nm X.mg)(he:PE X e te)(hg:Gl X "isinstance" := by rfl)(hg2:Gl X "bool" := by rfl)
  (hs1:aU [e,.Name "bool" p2] X.env=(false,cN e X.env)::aU [.Name "bool" p2] X.env:=by rfl) (hpl:(eu pos (aU [.Name "bool" p2] X.env)).any (·.1)=false:=by rfl) :
  PE X (.Call (.Name "isinstance" p) [e,.Name "bool" p2] [] pos) (tCB (fun xs H Q=>∃ x T,xs=[x,.ty "bool"]∧tyn H x=some T∧Q (.bl (T == "bool")) H) (kB te (kB (tC (.ty "bool")) tNil))) :=
 cw call_isBool hg N.isin boot_isinstance (ah he (ah (pe_bltn hg2 N.tbool boot_bool rfl) aw) hs1) (he:=hs1) (hpl:=hpl)
def spGW:Sp:=fun vs H Q _=>vs=[]∧Q (.int B60) H
inductive spWhole (vs:List V)(H:Hp)(Q:VK)(_:XK):Prop
 | mk (v:_)(_:vs=[v])(_:Kn H v)(_:Q (.bl (isI v)) H)
inductive km (vs:List V)(H:Hp)(Q:VK)(_:XK):Prop
 | mk (v lo hi:_)(_:vs=[v,.int lo,.int hi])(_:Kn H v)(_:Q (.bl (inI v lo hi)) H)
inductive spEnds (vs:List V)(H:Hp)(Q:VK)(_:XK):Prop
 | mk (m s g:_)(_:vs=[.int m,s,g])(_:Kn H s)(_:Kn H g)(_:Q (.bl (jR m s g)) H)
inductive spLens (vs:List V)(H:Hp)(Q:VK)(_:XK):Prop
 | mk (b l o:_)(_:vs=[.int b,l,o])(_:Kn H l)(_:Kn H o)(_:Q (.bl (kM b l o)) H)
inductive spSpan (vs:List V)(H:Hp)(Q:VK)(_:XK):Prop
 | mk (b m v:_)(_:vs=[.int b,.int m,v])(_:G1 H v)(_:Q (.bl (jL H b m v)) H)
structure Sn where
 s:Int
 g:Int
 l:Int
 o:Int
 w:Int
abbrev Sn.row (x:Sn):List Int:=[x.s,x.g,x.l,x.o,x.w]
abbrev netP (b m:Int)(sp:List Sn):Dt:= .tup [.int b,.int m,.tup (sp.map fun x=> .tup (x.row.map Dt.int))]
theorem netP_of {m:Int}{sp:List Sn}(h:IsD H v (netP b m sp)):∃ t p ys,v= .ref t∧H t=some (.tup [.int b,.int m,.ref p])∧H p=some (.tup ys)∧ys.length=sp.length∧∀ (i:Nat) (x:Sn),sp[i]? =some x→∃ q,ys[i]? =some (.ref q)∧H q=some (.tup [.int x.s,.int x.g,.int x.l,.int x.o,.int x.w]):=by
 obtain ⟨t,xs,rfl,ht,rx⟩:=h.tup_of;cases rx with
 | cons h0 r0 =>
  cases r0 with
  | cons h1 r1 =>
   cases r1 with
   | cons h2 r2 =>
    cases r2;cases h0;cases h1;obtain ⟨p,ys,rfl,hp,ry⟩:=h2.tup_of;refine ⟨t,p,ys,rfl,ht,hp,by rw [ry.length,ae],fun i x hx=>?_⟩;obtain ⟨y,hy,dy⟩:=ry.at (i:=i) (d:= .tup (x.row.map Dt.int)) (by rw [aD,hx];rfl);obtain ⟨q,zs,rfl,hq,rz⟩:=dy.tup_of;have ez:=rz.ints_of;subst ez;exact ⟨q,hy,hq⟩
def tm (ts:List Int)(i:Int):Int:=ts.getD i.toNat 0
theorem tm_at (h0:0≤i)(h1:i<ts.length):atI (ts.map V.int) i=some (.int (tm ts i)):=by
 obtain ⟨j,rfl⟩:=dG h0;refine aC ?_;rw [aD,gE (by lia)];unfold tm;rw [dE,bN,gE (by lia)];rfl
structure Rdy (b:Int)(ts:List Int)(sp:List Sn):Prop where
 b1:0<b
 few:sp.length≤1000
 ends:∀ x∈sp,0≤x.s∧x.s<ts.length∧0≤x.g∧x.g<ts.length
def waitM (b:Int)(ts:List Int)(x:Sn):Int:=(tm ts x.g - tm ts x.s - x.l) % b
def j4 (b:Int)(ts:List Int)(sp:List Sn):List Int:=sp.map (waitM b ts)
def brk (b:Int)(ts:List Int)(x:Sn):Bool:=decide (x.o - x.l<waitM b ts x)
def brokenM (b:Int)(ts:List Int)(sp:List Sn):List Int:=((bH sp.length).filter fun i=>match sp[i]? with | some x=>brk b ts x | none=>false).map Int.ofNat
def fitsM (b:Int)(ts:List Int)(sp:List Sn):Bool:= !(sp.any (brk b ts))
theorem small_le (h:n≤1000):n≤ar:=bQ h (by decide)
theorem brokenM_nil {sp:List Sn}:((brokenM b ts sp).length=0)↔fitsM b ts sp=true:=by
 unfold brokenM fitsM;rw [ae,List.length_eq_zero_iff,List.filter_eq_nil_iff,Bool.not_eq_true',List.any_eq_false]
 constructor
 ·intro h x hx
  obtain ⟨i,hi,rfl⟩:=List.getElem_of_mem hx;have:=h i (List.mem_range.mpr hi);rw [gE hi] at this;exact this
 ·intro h i hi
  have hi:=List.mem_range.mp hi;rw [gE hi];exact h _ (List.getElem_mem hi)
def bkAt (b:Int)(ts:List Int)(sp:List Sn)(k:Nat):List Int:=((bH k).filter fun i=>match sp[i]? with | some x=>brk b ts x | none=>false).map Int.ofNat
theorem bkAt_more {sp:List Sn}{x:Sn}(h:sp[k]? =some x):bkAt b ts sp (k+1)=bkAt b ts sp k++(if brk b ts x=true then [(k:Int)] else []):=by
 unfold bkAt;rw [List.range_succ,List.filter_append,au];congr 1;rw [List.filter_cons,h]
 by_cases q:brk b ts x=true
 ·simp only [q,if_true];rfl
 ·simp only [q,if_false];rfl
theorem bkAt_len {sp:List Sn}(k:Nat):(bkAt b ts sp k).length≤k:=by
 unfold bkAt;rw [ae];exact bQ (List.length_filter_le _ _) (by rw [fH];exact aH _)
structure Nt (mg:Str→Option af):Prop where
 range:mg "range" =none
 enum:mg "enumerate" =none
 zip:mg "zip" =none
 sum:mg "sum" =none
 tlist:mg "list" =none
 max:mg "max" =none
theorem rest_two (x y l b:Int):(x % b - y % b - l) % b=(x - y - l) % b:=by
 have hx:=gT x b;have hy:=gT y b;have e:x - y - l=(x % b - y % b - l)+b * (x / b - y / b):=by rw [Int.mul_sub];lia
 rw [e,iP]
inductive spRest (vs:List V)(H:Hp)(Q:VK)(_:XK):Prop
 | mk (b n:_)(_:vs=[.int b,.int n])(_:0<b)(_:Q (.int (n % b)) H)
inductive spWidth (vs:List V)(H:Hp)(Q:VK)(_:XK):Prop
 | mk (v b m sp i x:_)(_:vs=[v,.int (i:Nat)])(_:IsD H v (netP b m sp))(_:sp[i]? =some x)(_:Q (.int (x.o - x.l)) H)
inductive spWaitIn (vs:List V)(H:Hp)(Q:VK)(_:XK):Prop
 | mk (v u b m sp ts i x:_)(_:vs=[v,.ref u,.int (i:Nat)])(_:IsD H v (netP b m sp))(_:H u=some (.tup (ts.map V.int)))(_:Rdy b ts sp)(_:sp[i]? =some x)(_:Q (.int (waitM b ts x)) H)
inductive spWaits (vs:List V)(H:Hp)(Q:VK)(_:XK):Prop
 | mk (v u b m sp ts:_)(_:vs=[v,.ref u])(_:IsD H v (netP b m sp))(_:H u=some (.tup (ts.map V.int)))(_:Rdy b ts sp)(_:∀ p H',bO H H'→H' p=some (.tup ((j4 b ts sp).map V.int))→Q (.ref p) H')
inductive spBroken (vs:List V)(H:Hp)(Q:VK)(_:XK):Prop
 | mk (v u b m sp ts:_)(_:vs=[v,.ref u])(_:IsD H v (netP b m sp))(_:H u=some (.tup (ts.map V.int)))(_:Rdy b ts sp)(_:∀ p H',bO H H'→H' p=some (.tup ((brokenM b ts sp).map V.int))→Q (.ref p) H')
inductive spFits (vs:List V)(H:Hp)(Q:VK)(_:XK):Prop
 | mk (v u b m sp ts:_)(_:vs=[v,.ref u])(_:IsD H v (netP b m sp))(_:H u=some (.tup (ts.map V.int)))(_:Rdy b ts sp)(_:∀ H',bO H H'→Q (.bl (fitsM b ts sp)) H')
inductive spCell (K:ai)(vs:List V)(H:Hp)(Q:VK)(_:XK):Prop
 | mk (a:ak)(ns:List Int)(k:Int)(_:vs=[.ref a,.int k])(_:SqL K H a (ns.map V.int))(_:0≤k)(_:∀ c:Int,Q (.int c) H)
theorem atI_in {xs:List α}{r:Int}(h0:0≤r)(h1:r<xs.length):∃ v,atI xs r=some v∧v∈xs:=by
 obtain ⟨j,rfl⟩:=dG h0;have hj:j<xs.length:=by lia
 exact ⟨xs[j],aC (gE hj),List.getElem_mem hj⟩
theorem log_ok {m:Int}(h0:0<m)(h:m<10 ^ 61):0<m∧m.natAbs.log2<9000:=by
 refine ⟨h0,?_⟩;have h1:m.natAbs<2 ^ 300:=by
  have:(10:Nat) ^ 61<2 ^ 300:=by trivial
  have h2:m.natAbs<10 ^ 61:=by lia
  exact Nat.lt_trans h2 this
 have h3:m.natAbs≠0:=by lia
 have:=(Nat.log2_lt h3).mpr h1;lia
end HN
variable {sp:List HN.Sn}
namespace L2
open PySem PySem.Spec PyProof.Rows
theorem fm_some {α β:Type}{f:α→Option β}{g:α→β}:∀ (l:List α),(∀ x∈l,f x=some (g x))→l.filterMap f=l.map g
 | [],_=>rfl
 | x::l,h=>by rw [gh,h x (by simp),bJ,fm_some l fun y hy=>h y (aS _ hy)]
theorem pick_back (xs:Array af):((bH xs.size).filterMap fun (k:Nat)=>xs[((xs.size:Int) - 1+(k:Int) * (-1)).toNat]?)=xs.toList.reverse:=by
 have e:∀ k∈bH xs.size,(fun (k:Nat)=>xs[((xs.size:Int) - 1+(k:Int) * (-1)).toNat]?) k=some ((fun k=>xs.toList.getD (xs.size - 1 - k) .none) k):=fun k hk=>by
  have hk:=List.mem_range.mp hk;have:((xs.size:Int) - 1+(k:Int) * (-1)).toNat=xs.size - 1 - k:=by lia
  show xs[((xs.size:Int) - 1+(k:Int) * (-1)).toNat]? =some (xs.toList.getD (xs.size - 1 - k) .none);rw [this,bN,Array.getElem?_toList,Array.getElem?_eq_getElem (by lia)];rfl
 rw [fm_some _ e];refine List.ext_getElem (by simp) fun i h1 h2=>?_
 have hi:i<xs.size:=by simpa using h1
 rw [cY,List.getElem_range,List.getElem_reverse,bN,gE (by rw [ib];lia)];simp
theorem vals_back:∀ {xs:List V} {us:List af},eI xs us→eI xs.reverse us.reverse
 | _,_,.nil=> .nil
 | _::_,_::_,.cons r t=>by rw [List.reverse_cons,List.reverse_cons];exact (vals_back t).append (.cons r .nil)
theorem call_sum (hc:X.calm=true):gF X (.builtin "sum") (fun xs H Q=>∃ (p:ak) (ns:List Int),xs=[.ref p]∧SqL X.K H p (ns.map V.int)∧Q (.int ns.sum) H):=by
 intro az s σ H xs us Q I r h;obtain ⟨p,ns,rfl,hq,q⟩:=h;obtain ⟨u,rfl,ru⟩:=jA r;cases (show u=af.ref p from ru);obtain ⟨its,rv,pl,hz⟩:=I.list hq;have hi:=ints_are rv;obtain ⟨ys,hx⟩:=hi.allInts.items;have hl':s.heap.IsList p (intItems ys):=hx ▸ pl.isList;refine sum_intListG (I.ok.hd hc) hl' fun h' tk t' hk=>?_
 have e1:ns=ys.toList.map (·.1):=by
  rw [←nums_intItems,←hx];exact (show numsOf its.toArray.toList=ns from hi.numsOf).symm
 have e2:preSum (numAt ys) ys.size=ns.sum:=by
  rw [preSum_eq,gI (by simp),e1]
 rw [e2];exact ⟨.int ns.sum,H,I.kept (t':=tk) hk,⟨t',rfl⟩,q⟩
end L2
namespace HN
open PySem L2 PyProof.Rows
theorem atI_last {xs:List α}{x:α}(h:xs[xs.length - 1]? =some x):atI xs (-1)=some x:=by
 have hl:xs.length - 1<xs.length:=(ao.mp h).1;unfold atI ixN;rw [lI (by decide),lJ (by lia)];show xs[(-1+(xs.length:Int)).toNat]? =some x;rw [show (-1+(xs.length:Int)).toNat=xs.length - 1 by lia];exact h
end HN
namespace L2
open PySem PySem.Spec PyProof.Rows
end L2
namespace HN
open PySem L2 PyProof.Rows
end HN
namespace L2
open PySem PySem.Spec PyProof.Rows
theorem k_str {x j}:PEs X (.Constant (.str x) j pos) (tC (.str x)):=⟨fY⟩
end L2
namespace HN
open PySem L2 PyProof.Rows
def Mv (p:ak)(H H':Hp):Prop:=(∀ b o,b≠p→H b=some o→H' b=some o)∧∃ n,H' p=some (.lst [.int n])
theorem Mv.trans (a:Mv p H H1)(b:Mv p H1 H2):Mv p H H2:=⟨fun c o hc e=>b.1 c o hc (a.1 c o hc e),b.2⟩
theorem Mv.new {q:ak}(a:Mv p H H1)(hq:H1 q=none):Mv p H (upd H1 q o):=by
 obtain ⟨n,hn⟩:=a.2;exact ⟨fun c u hc e=>by rw [aR (aJ (a.1 c u hc e) hq)];exact a.1 c u hc e,n,by rw [aR (aJ hn hq)];exact hn⟩
theorem Mv.then (a:Mv p H H1)(S:bO H1 H2):Mv p H H2:=⟨fun c o hc e=>S _ _ (a.1 c o hc e),by obtain ⟨n,hn⟩:=a.2;exact ⟨n,S _ _ hn⟩⟩
theorem Mv.of {n:Int}(S:bO H H1)(h:H1 p=some (.lst [.int n])):Mv p H H1:=⟨fun c o _ e=>S _ _ e,n,h⟩
theorem Mv.ne {q:ak}(a:Mv p H H1)(hq:H1 q=none):q≠p:=fun z=>by obtain ⟨n,hn⟩:=a.2;rw [z,hn] at hq;cases hq
theorem bO.mv (e:bO H H1)(hp:H p=none)(m:Mv p H1 H2):bO H H2:=fun b o q=>m.1 b o (fun z=>by rw [z,hp] at q;cases q) (e b o q)
inductive spTake (vs:List V)(H:Hp)(Q:VK)(_:XK):Prop
 | mk (p n m:_)(_:vs=[.ref p,.int m])(_:H p=some (.lst [.int n]))(_:0<m)(_:m<10 ^ 61)(_:∀ r H',0≤r→r<m→Mv p H H'→Q (.int r) H')
inductive spMix (vs:List V)(H:Hp)(Q:VK)(_:XK):Prop
 | mk (c k:_)(_:vs=[.int c,.int k])(_:0≤k)(_:k≤1000)(_:∀ n,Q (.int n) H)
inductive spPotT (K:ai)(vs:List V)(H:Hp)(Q:VK)(_:XK):Prop
 | mk (a:ak)(ns:List Int)(k:Int)(_:vs=[.ref a,.int k])(_:SqL K H a (ns.map V.int))(_:0≤k)(_:k≤100)(_:∀ n p,H p=none→Q (.ref p) (upd H p (.lst [.int n])))
abbrev sCell:b8:=top 44
abbrev sMix:b8:=top 45
abbrev sPotT:b8:=top 46
abbrev sTake:b8:=top 47
section
variable {w:aV}
theorem scCell:bE pze pze (defScope sCell):=by trivial
theorem ok_cell (F:Fun K "_law_cell_at" "_law_cell_at" sCell f fd)(T:Nm mg):cI P w K mg base CX0 1 f fd pze (spCell K):=by
 refine F.ok scCell (by contradiction) (fun cdv A outer s H vs Q E hr h=>?_);obtain ⟨a,ns,j,rfl,ha,hj,k⟩:=h;refine ⟨_,cz (fQ (cD op_lt (pv 1) (cw cS rfl T.len bD (ah (pv 0) aw)) (cP _)) (bp (bI (dO bh (pv 0) (pv 1) (fun _ _=>rfl)))) cM) (bp (bI aT)),?_⟩;refine ⟨_,rfl,_,rfl,a,_,rfl,.inl ha,_,_,rfl,rfl,_,rfl,?_⟩;refine jG (fun h1=>?_) (fun h1=>?_)
 ·have h1:j<((ns.map V.int).length:Int):=lN h1
  obtain ⟨v,e1,e2⟩:=atI_in hj h1;obtain ⟨c,_,rfl⟩:=bc.mp e2;exact ⟨_,rfl,_,rfl,a,_,_,_,rfl,rfl,ha,e1,k c⟩
 ·exact k 0
theorem scTake:bE ["_law_pot_here","_law_most","_law_number"] pzh (defScope sTake):=by trivial
theorem ok_take (F:Fun K "_law_take" "_law_take" sTake f fd):cI P w K mg base CX0 1 f fd pzh spTake:=by
 refine F.ok scTake (by contradiction) (fun cdv A outer s H vs Q E hr h=>?_);obtain ⟨p,n,m,rfl,hp,h0,h1,k⟩:=h;refine ⟨_,cz (psZ 2 scTake.nd (cn iH (dO bh (pv 0) aT (fun _ _=>rfl)) (pv 1)))
  (cz (ps_asg (cn op_fdivB (dO bh (pv 0) aT (fun _ _=>rfl)) (pv 1)) (pg_sub (pv 0) aT set_list)) (bp (bI (pv 2)))),?_⟩
 refine ⟨_,rfl,p,_,_,_,rfl,rfl,SqL.of hp,aC (j:=0) rfl,_,rfl,_,_,rfl,rfl,h0,?_⟩;refine ⟨_,rfl,p,_,_,_,rfl,rfl,SqL.of hp,aC (j:=0) rfl,_,rfl,_,_,rfl,rfl,log_ok h0 h1,?_⟩;refine ⟨_,rfl,p,_,_,0,rfl,rfl,hp,rfl,?_⟩;refine ⟨_,rfl,k _ _ (Int.emod_nonneg _ (by lia)) (iN _ h0) ⟨fun b o hb e=>by rw [aR hb];exact e,n / m,aK⟩⟩
theorem scMix:bE ["_law_cell","_law_k","_law_number"] pzr (defScope sMix):=by trivial
theorem ok_mix (F:Fun K "_law_mixed" "_law_mixed" sMix f fd):cI P w K mg base CX0 1 f fd pzr spMix:=by
 refine F.ok scMix (by contradiction) (fun cdv A outer s H vs Q E hr h=>?_);obtain ⟨c,j,rfl,j0,j1,k⟩:=h;refine ⟨_,PSl.h (bf ⟨(psZ 2 scMix.nd (cn iH (cn iG (cn eN (cn eN (cn iH (pv 0) aT) (cn iG aT (pv 1))) aT) aT) aT))⟩
  (bf ⟨(psZ 2 scMix.nd (cn iH (cn eN (cn eN (cn iG (pv 2) (pv 2)) (cn iG aT (pv 1))) aT) aT))⟩
  (fR ⟨(bI (cn iH (cn iG (pv 2) aT) aT))⟩))),?_⟩
 refine ⟨_,rfl,_,_,rfl,rfl,(by show (0:Int)<2147483629;decide),_,rfl,_,_,rfl,rfl,.inl ⟨by decide,by decide⟩,_,_,rfl,rfl,_,_,rfl,rfl,_,_,rfl,rfl,.inr ⟨by decide,by decide⟩,_,_,rfl,rfl,(by show (0:Int)<2147483647;decide),?_⟩;refine ⟨_,rfl,_,rfl,_,_,rfl,rfl,.inl ?_,_,rfl,_,_,rfl,rfl,.inl ⟨by decide,by decide⟩,_,_,rfl,rfl,_,_,rfl,rfl,_,_,rfl,rfl,(by show (0:Int)<2147483587;decide),?_⟩
 ·have h1:=Int.emod_nonneg ((c % 2147483629+7919 * j+1) * 48271) (by decide:(2147483647:Int)≠0)
  have h2:=iN ((c % 2147483629+7919 * j+1) * 48271) (by decide:(0:Int)<2147483647);exact ⟨by lia,by lia⟩
 ·exact ⟨_,rfl,_,_,rfl,rfl,.inr ⟨by decide,by decide⟩,_,_,rfl,rfl,(by show (0:Int)<2147483629;decide),k _⟩
theorem scPotT:bE ["_law_script","_law_k","_law_cell","_law_number","_law_j"] pze (defScope sPotT):=by trivial
theorem ok_potT (F:Fun K "_law_pot" "_law_pot" sPotT f fd)(T:Nm mg)(T2:Nt mg)(G1:Fn K mg "_law_cell_at" sCell pze f1 fd1)(G2:Fn K mg "_law_mixed" sMix pzr f2 fd2):cI P w K mg base CX0 2 f fd pze (spPotT K):=by
 have F1:cI P w K mg base CX0 1 f1 fd1 pze (spCell K):=ok_cell G1.F T;have F2:cI P w K mg base CX0 1 f2 fd2 pzr spMix:=ok_mix G2.F;refine F.ok scPotT (by contradiction) (fun cdv A outer s H vs Q E hr h=>?_);obtain ⟨a,ns,j,rfl,ha,j0,j1,k⟩:=h;refine ⟨_,PSl.h (bf ⟨(psZ 2 scPotT.nd (pc1 G1 F1 hr (ah (pv 0) (ah (pv 1) aw))))⟩
  (bf ⟨(fQ (cD jC (cn iH (pc1 G1 F1 hr (ah (pv 0) (ah aT aw))) aT) aT (cP _)) (bp (bI (ja (ah (pv 2) aw)))) cM)⟩
  (bf ⟨(psZ 3 scPotT.nd aT)⟩
  (bf ⟨(iV cJ rfl (iF rfl T2.range (ah aT aw)) (pgZ 4 scPotT.nd) (bp (psZ 3 scPotT.nd (cn eN (cn iG (pv 3) aT) (pc1 G2 F2 hr (ah (pv 2) (ah (cn eN (pv 1) (cn iG aT (pv 4))) aw)))))))⟩
  (fR ⟨(bI (ja (ah (pv 3) aw)))⟩))))),?_⟩
 refine ⟨_,rfl,_,rfl,a,ns,j,rfl,ha,j0,fun c=>?_⟩;refine ⟨_,rfl,a,ns,0,rfl,ha,by decide,fun c0=>⟨_,_,rfl,rfl,(by show (0:Int)<2;decide),rfl,_,rfl,?_⟩⟩;refine jG (fun _=>?_) (fun _=>?_)
 ·exact ⟨_,rfl,szZ1,fun p hp=>k _ p hp⟩
 ·refine ⟨9,rfl,by decide,by decide,kR (n:=9) (fun i σ H2=>H2=H∧∃ n vj,σ=[some (.ref a),some (.int j),some (.int c),some (.int n),vj]) ⟨rfl,0,none,rfl⟩ ?_ ?_⟩
  ·rintro i σ H2 hi ⟨rfl,n,vj,rfl⟩
   refine ⟨_,rfl,_,_,rfl,rfl,.inr ⟨by decide,by decide⟩,_,rfl,_,rfl,_,rfl,_,_,rfl,rfl,.inl ⟨by decide,by decide⟩,_,_,rfl,rfl,c,_,rfl,by lia,by lia,fun n2=>⟨_,_,rfl,rfl,?_⟩⟩;exact ⟨rfl,_,_,rfl⟩
  ·rintro σ H2 ⟨rfl,n,vj,rfl⟩
   exact ⟨_,rfl,szZ1,fun p hp=>k _ p hp⟩
end
end HN
namespace L2
open PySem PySem.Spec PyProof.Rows
end L2
namespace HN
open PySem L2 PyProof.Rows
abbrev sGW:b8:=top 7
abbrev lg:b8:=top 8
abbrev kD:b8:=top 9
abbrev sEnds:b8:=top 16
abbrev sLens:b8:=top 17
abbrev sSpan:b8:=top 18
section
variable {w:aV}
theorem scGW:bE [] [] (defScope sGW):=by trivial
theorem ok_gw (F:Fun K "greatest_whole" "greatest_whole" sGW f fd):cI P w K mg base CX0 1 f fd [] spGW:=by
 refine F.ok scGW (fun vs H Q E h=>by obtain ⟨rfl,_⟩:=h;rfl) (fun cdv A outer s H vs Q E hr h=>?_);obtain ⟨rfl,k⟩:=h;refine ⟨_,bp (bI (cn eM (cn op_pow aT aT) aT)),?_⟩;exact ⟨_,_,rfl,rfl,⟨by decide,by decide,by decide⟩,_,_,rfl,rfl,k⟩
theorem scWhole:bE ["thing"] ["thing"] (defScope lg):=by trivial
theorem ok_whole (F:Fun K "is_whole" "is_whole" lg f fd)(T:Nm mg):cI P w K mg base CX0 1 f fd ["thing"] spWhole:=by
 refine F.ok scWhole (by contradiction) (fun cdv A outer s H vs Q E hr h=>?_);obtain ⟨v,rfl,⟨S,hS⟩,k⟩:=h;refine ⟨_,bp (bI (lj (pe_isInt T (pv 0)) (pe_one (pe_not (pe_isBool T (pv 0)))))),?_⟩;refine ⟨_,rfl,_,_,rfl,hS,_,rfl,?_⟩;refine jG (fun hc=>?_) (fun hc=>?_)
 ·refine ⟨_,rfl,_,_,rfl,hS,_,rfl,?_⟩
  rw [sort_int hS hc];exact k
 ·rw [←sort_noInt hS hc];exact k
theorem scWithin:bE pzj pzj (defScope kD):=by trivial
theorem kJ (F:Fun K "is_within" "is_within" kD f fd)(T:Nm mg)(G1:Fn K mg "is_whole" lg ["thing"] f1 fd1):cI P w K mg base CX0 2 f fd pzj km:=by
 have F1:cI P w K mg base CX0 1 f1 fd1 ["thing"] spWhole:=ok_whole G1.F T;refine F.ok scWithin (by contradiction) (fun cdv A outer s H vs Q E hr h=>?_);obtain ⟨v,lo,hi,rfl,hS,k⟩:=h;refine ⟨_,bp (bI (lj (pc1 G1 F1 hr (ah (pv 0) aw)) (pe_one (pe_chain op_le op_le (pv 1) (pv 0) (pv 2))))),?_⟩;refine ⟨_,rfl,_,rfl,hS,_,rfl,?_⟩;refine jG (fun hc=>?_) (fun hc=>?_)
 ·obtain ⟨i,rfl⟩:=isI_of hc
  refine ⟨_,rfl,_,rfl,_,_,rfl,rfl,_,rfl,?_⟩;refine jG (fun h1=>?_) (fun h1=>?_)
  ·refine ⟨_,rfl,_,_,rfl,rfl,?_⟩
   have e:inI (.int i) lo hi=decide (i≤hi):=by show (decide (lo≤i) && decide (i≤hi))=_;rw [h1];rfl
   show Q (.bl (decide (i≤hi))) H;rw [←e];exact k
  ·have e:inI (.int i) lo hi=false:=by show (decide (lo≤i) && decide (i≤hi))=_;rw [eL.mpr h1];rfl
   rw [←e];exact k
 ·have e:inI v lo hi=false:=by
   cases v with
   | int i=>exact lK rfl hc
   | _=>rfl
  rw [←e];exact k
theorem scEnds:bE pzm pzm (defScope sEnds):=by trivial
theorem inI_int {hi:Int}(h:inI v lo hi=true):∃ i,v= .int i∧lo≤i∧i≤hi:=by
 cases v with
 | int i =>
  have h:(decide (lo≤i) && decide (i≤hi))=true:=h;rw [b9] at h;exact ⟨i,rfl,lN h.1,lN h.2⟩
 | _=>cases h
theorem ok_ends (F:Fun K "are_ends" "are_ends" sEnds f fd)(T:Nm mg)(G1:Fn K mg "is_whole" lg ["thing"] f1 fd1)(G2:Fn K mg "is_within" kD pzj f2 fd2) :
  cI P w K mg base CX0 3 f fd pzm spEnds:=by
 have F2:cI P w K mg base CX0 2 f2 fd2 pzj km:=kJ G2.F T G1;refine F.ok scEnds (by contradiction) (fun cdv A outer s H vs Q E hr h=>?_);obtain ⟨m,st,g,rfl,hs,hg,k⟩:=h;refine ⟨_,bp (bI (lj (pc1 G2 F2 hr (ah (pv 1) (ah aT (ah (cn eM (pv 0) aT) aw))))
  (lj (pc1 G2 F2 hr (ah (pv 2) (ah aT (ah (cn eM (pv 0) aT) aw)))) (pe_one (jb op_ne (pv 1) (pv 2) (cP _)))))),?_⟩
 refine ⟨_,rfl,_,rfl,_,_,rfl,rfl,_,_,_,rfl,hs,_,rfl,?_⟩;refine jG (fun h1=>?_) (fun h1=>?_)
 ·refine ⟨_,rfl,_,rfl,_,_,rfl,rfl,_,_,_,rfl,hg,_,rfl,?_⟩
  refine jG (fun h2=>?_) (fun h2=>?_)
  ·obtain ⟨i,rfl,_⟩:=inI_int h1
   obtain ⟨j,rfl,_⟩:=inI_int h2;refine ⟨_,rfl,_,rfl,rfl,?_⟩;have e:jR m (.int i) (.int j)= !decide (V.int i=V.int j):=by unfold jR;rw [h1,h2];rfl
   rw [←e];exact k
  ·have e:jR m st g=false:=by unfold jR;rw [h1,eL.mpr h2];rfl
   rw [←e];exact k
 ·have e:jR m st g=false:=by unfold jR;rw [eL.mpr h1];rfl
  rw [←e];exact k
theorem scLens:bE pzn pzn (defScope sLens):=by trivial
theorem ok_lens {f0:ak}{fd0:aO}(F:Fun K "are_lengths" "are_lengths" sLens f fd)(T:Nm mg)(G0:Fn K mg "greatest_whole" sGW [] f0 fd0)(G1:Fn K mg "is_whole" lg ["thing"] f1 fd1)(G2:Fn K mg "is_within" kD pzj f2 fd2) :
  cI P w K mg base CX0 3 f fd pzn spLens:=by
 have F0:cI P w K mg base CX0 1 f0 fd0 [] spGW:=ok_gw G0.F;have F2:cI P w K mg base CX0 2 f2 fd2 pzj km:=kJ G2.F T G1;refine F.ok scLens (by contradiction) (fun cdv A outer s H vs Q E hr h=>?_);obtain ⟨b,l,o,rfl,hl,ho,k⟩:=h;have hr1:iZ 1 _:=hr.mono (by decide);refine ⟨_,cz (fQ (j5 (jw (pc1 G2 F2 hr (ah (pv 1) (ah aT (ah (pc0 G0 F0 hr1) aw)))))) (bp (bI ki)) cM)
  (bp (bI (pc1 G2 F2 hr (ah (pv 2) (ah (pv 1) (ah (cw (kX rfl) rfl T.min boot_min (ah (cn eM (cn eN (pv 1) (pv 0)) aT) (ah (pc0 G0 F0 hr1) aw))) aw)))))),?_⟩
 refine ⟨_,rfl,rfl,_,_,_,rfl,hl,_,rfl,?_⟩;refine jG (fun h1=>?_) (fun h1=>?_)
 ·have e:kM b l o=false:=by
   unfold kM;have:inI l 0 B60=false:=by simpa using h1
   rw [this];rfl
  show Q (.bl false) H;rw [←e];exact k
 ·have h1:inI l 0 B60=true:=by simpa using h1
  obtain ⟨i,rfl,_⟩:=inI_int h1;refine ⟨_,rfl,_,rfl,_,rfl,_,rfl,_,_,rfl,rfl,_,_,rfl,rfl,rfl,_,_,rfl,_,_,_,rfl,ho,?_⟩;have e:kM b (.int i) o=inI o i (if B60<i+b - 1 then B60 else i+b - 1):=by
   unfold kM;rw [h1];rfl
  rw [e] at k;exact k
theorem scSpan:bE pzk pzk (defScope sSpan):=by trivial
theorem ok_span {f0 f3 f4:ak}{fd0 fd3 fd4:aO}(F:Fun K "is_span" "is_span" sSpan f fd)(T:Nm mg)(C:Cs mg)(G0:Fn K mg "greatest_whole" sGW [] f0 fd0)(G1:Fn K mg "is_whole" lg ["thing"] f1 fd1)(G2:Fn K mg "is_within" kD pzj f2 fd2)
  (G3:Fn K mg "are_ends" sEnds pzm f3 fd3) (G4:Fn K mg "are_lengths" sLens pzn f4 fd4):cI P w K mg base CX0 4 f fd pzk spSpan:=by
 have F2:cI P w K mg base CX0 2 f2 fd2 pzj km:=kJ G2.F T G1;have F3:cI P w K mg base CX0 3 f3 fd3 pzm spEnds:=ok_ends G3.F T G1 G2;have F4:cI P w K mg base CX0 3 f4 fd4 pzn spLens:=ok_lens G4.F T G0 G1 G2;refine F.ok scSpan (by contradiction) (fun cdv A outer s H vs Q E hr h=>?_);obtain ⟨b,m,v,rfl,hv,k⟩:=h;have hr2:iZ 2 _:=hr.mono (by decide);refine ⟨_,cz (fQ (PW.pt (kh (j5 (jw (pe_isTup T (pv 2)))) (jv (cD op_ne (cw cS rfl T.len bD (ah (pv 2) aw)) aT (cP _))))) (bp (bI ki)) cM)
  (cz (fQ (PW.pt (kh (j5 (jw (pc1 G3 F3 hr (ah (pv 1) (ah (ixZ (pv 2)) (ah (ixZ (pv 2)) aw))))))
   (jv (j5 (jw (pc1 G4 F4 hr (ah (pv 0) (ah (ixZ (pv 2)) (ah (ixZ (pv 2)) aw))))))))) (bp (bI ki)) cM)
  (bp (bI (pc1 G2 F2 hr2 (ah (ixZ (pv 2)) (ah aT (ah (kG C.mw) aw))))))),?_⟩
 obtain ⟨S,hS⟩:=hv.1;refine ⟨_,rfl,_,_,rfl,hS,_,rfl,?_⟩
 rcases sort_tup hS with ⟨a,xs,rfl,ha,hq⟩ | ⟨hq,hno⟩
 ·refine jz (by rw [hq];rfl) ?_
  refine ⟨_,rfl,a,xs,rfl,.inr (SqT.of ha),rfl,_,rfl,?_⟩;refine jG (fun h5=>?_) (fun h5=>?_)
  ·have e:jL H b m (.ref a)=false:=spanOk_no fun a' xs' e1 e2 z=>by
    cases e1;rw [ha] at e2;cases e2;rw [z] at h5;exact lK h5 (by decide)
   show Q (.bl false) H;rw [←e];exact k
  ·have hl:xs.length=5:=by
    have h5:¬ (!decide (V.int (xs.length:Int)=V.int 5))=true:=h5;rw [Bool.not_eq_true,Bool.not_eq_false'] at h5;have:=lN h5;injection this with this
    lia
   obtain ⟨x0,x1,x2,x3,x4,rfl⟩:=len5 hl;have kn:=hv.2 a _ rfl ha;have e:jL H b m (.ref a)=(jR m x0 x1 && (kM b x2 x3 && inI x4 0 1000000000000)):=by simp only [jL];rw [ha]
   rw [e] at k;refine ⟨_,rfl,_,rfl,a,_,_,_,rfl,rfl,SqT.of ha,aC (j:=0) rfl,_,rfl,a,_,_,_,rfl,rfl,SqT.of ha,aC (j:=1) rfl,_,_,_,rfl,kn _ (by simp),kn _ (by simp),_,rfl,?_⟩;refine jG (fun h1=>?_) (fun h1=>?_)
   ·have h1:jR m x0 x1=false:=by simpa using h1
    rw [h1] at k;exact k
   ·have h1:jR m x0 x1=true:=by simpa using h1
    rw [h1] at k;refine ⟨_,rfl,_,rfl,a,_,_,_,rfl,rfl,SqT.of ha,aC (j:=2) rfl,_,rfl,a,_,_,_,rfl,rfl,SqT.of ha,aC (j:=3) rfl,_,_,_,rfl,kn _ (by simp),kn _ (by simp),_,rfl,?_⟩;refine jG (fun h2=>?_) (fun h2=>?_)
    ·have h2:kM b x2 x3=false:=by simpa using h2
     rw [h2] at k;exact k
    ·have h2:kM b x2 x3=true:=by simpa using h2
     rw [h2] at k;exact ⟨_,rfl,a,_,_,_,rfl,rfl,SqT.of ha,aC (j:=4) rfl,_,_,_,rfl,kn _ (by simp),k⟩
 ·refine iteB (by rw [hq];rfl) ?_
  have e:jL H b m v=false:=spanOk_no fun a xs e1 e2=>lK e2 (hno a xs e1)
  show Q (.bl false) H;rw [←e];exact k
end
end HN
namespace L2
open PySem PySem.Spec PyProof.Rows
theorem ps_cut {t:TS}(h:PS X st t):PS X st (fun D σ H=>∃ N:St→Hp→Prop,(∀ σ' H',N σ' H'→D.nx σ' H')∧t { D with nx:=N } σ H):=by
 intro az s σ H D I ⟨N,hN,ht⟩;refine thn (h az s σ H { D with nx:=N } I ht) fun f s' q=>?_
 cases f with
 | next=>obtain ⟨σ',H',I',n'⟩:=q;exact ⟨σ',H',I',hN _ _ n'⟩
 | brk=>exact q
 | cont=>exact q
 | ret u=>exact q
end L2
namespace HT2
open PySem
theorem jj (y p q:Str)(r:List Str):eC y (p::q::r)=p++y++eC y (q::r):=rfl
theorem jS (c:Nat)(p q:Str)(r:List Str):(eC ⟨#[c]⟩ (p::q::r)).cps.toList=p.cps.toList++c::(eC ⟨#[c]⟩ (q::r)).cps.toList:=by
 rw [jj];simp only [Str.cps_append,Array.toList_append];simp
theorem str_ext {a b:Str}(h:a.cps.toList=b.cps.toList):a=b:=by
 cases a with | mk x=>cases b with | mk y =>
 have:x=y:=by
  have:=lO List.toArray h
  simpa using this
 rw [this]
theorem cut_first {c:Nat}:∀ {a b r s:List Nat},c ∉ a→c ∉ b→a++c::r=b++c::s→a=b∧r=s
 | [],[],_,_,_,_,e=>⟨rfl,(List.cons.inj e).2⟩
 | [],y::b,_,_,_,hb,e=>by
  have:=(List.cons.inj e).1;exact lK (this ▸ bW ..) hb
 | x::a,[],_,_,ha,_,e=>by
  have:=(List.cons.inj e).1;exact lK (this ▸ bW ..) ha
 | x::a,y::b,r,s,ha,hb,e=>by
  obtain ⟨e1,e2⟩:=List.cons.inj e;obtain ⟨h1,h2⟩:=cut_first (fun m=>ha (aS _ m)) (fun m=>hb (aS _ m)) e2;exact ⟨by rw [e1,h1],h2⟩
theorem no_cut {c:Nat}{a b r:List Nat}(ha:c ∉ a)(e:a=b++c::r):False:=ha (by rw [e];simp)
theorem join_inj {c:Nat}:∀ {as bs:List Str},as≠[]→bs≠[]→(∀ p∈as,c ∉ p.cps.toList)→(∀ p∈bs,c ∉ p.cps.toList)→eC ⟨#[c]⟩ as=eC ⟨#[c]⟩ bs→as=bs
 | [],_,h,_,_,_,_=>lK rfl h
 | _::_,[],_,h,_,_,_=>lK rfl h
 | [p],[q],_,_,_,_,e=>by
  have e:p=q:=e;rw [e]
 | [p],q::q2::r,_,_,ha,_,e=>by
  have:=lO (fun s:Str=>s.cps.toList) e;simp only [jS] at this;exact (no_cut (ha p (by simp)) this).elim
 | p::p2::r,[q],_,_,_,hb,e=>by
  have:=lO (fun s:Str=>s.cps.toList) e;simp only [jS] at this;exact (no_cut (hb q (by simp)) this.symm).elim
 | p::p2::r,q::q2::s,_,_,ha,hb,e=>by
  have:=lO (fun s:Str=>s.cps.toList) e;simp only [jS] at this;obtain ⟨h1,h2⟩:=cut_first (ha p (by simp)) (hb q (by simp)) this;have ih:=join_inj (as:=p2::r) (bs:=q2::s) (by simp) (by simp) (fun x hx=>ha x (aS _ hx)) (fun x hx=>hb x (aS _ hx)) (str_ext h2);rw [str_ext h1,ih]
theorem split_ne (x:Str)(c:Nat):ck x ⟨#[c]⟩≠[]:=by
 unfold ck;split
 ·simp
 ·split
  ·simp
  ·unfold eD
   intro h;have:=lO List.length h;simp at this
theorem jV {c:Nat}{ys:List Str}(h:ys≠[])(hf:∀ p∈ys,c ∉ p.cps.toList):ck (gu ⟨#[c]⟩ ys) ⟨#[c]⟩=ys:=by
 have e:gu ⟨#[c]⟩ ys=eC ⟨#[c]⟩ ys:=dZ _ _;rw [e];refine join_inj (c:=c) (split_ne _ _) h (fun p hp=>StrLaws.split_free _ c p hp) hf ?_;exact StrLaws.join_split _ _
def dig (m:Nat):List Nat:=(Nat.toDigits 10 m).map Char.toNat
theorem kU (h:m<10):dig m=[48+m]:=by
 unfold dig;rw [Nat.toDigits_of_lt_base h];have:∀ d:Nat,d<10→(Nat.digitChar d).toNat=48+d:=by decide
 show [(Nat.digitChar m).toNat]=_;rw [this m h]
theorem dig_ge (h:10≤m):dig m=dig (m / 10)++[48+m % 10]:=by
 have hm:m % 10<10:=Nat.mod_lt m (by decide);have t:Nat.toDigits 10 (m / 10)++Nat.toDigits 10 (m % 10)=Nat.toDigits 10 (10 * (m / 10)+m % 10):=Nat.toDigits_append_toDigits (by decide) (by lia) hm;rw [Nat.div_add_mod] at t;have e:=kU hm;unfold dig at e ⊢;rw [←t,au,e]
theorem dig_ne (m:Nat):dig m≠[]:=by
 rcases Nat.lt_or_ge m 10 with h | h
 ·rw [kU h];simp
 ·rw [dig_ge h];simp
theorem dig_all:∀ (m:Nat),∀ c∈dig m,48≤c∧c≤57:=by
 intro m
 induction m using Nat.strongRecOn with
 | _ m ih =>
  intro c hc
  rcases Nat.lt_or_ge m 10 with h | h
  ·rw [kU h] at hc
   have:=br.mp hc;lia
  ·rw [dig_ge h] at hc
   rcases cx.mp hc with q | q
   ·exact ih (m / 10) (by lia) c q
   ·have:=br.mp q
    lia
theorem dig_len:∀ (k m:Nat),m<10 ^ (k+1)→(dig m).length≤k+1
 | 0,m,h=>by rw [kU (by simpa using h)];simp
 | k+1,m,h=>by
  rcases Nat.lt_or_ge m 10 with q | q
  ·rw [kU q];simp
  ·rw [dig_ge q,av,List.length_singleton]
   have h2:m / 10<10 ^ (k+1):=by
    have e:(10:Nat) ^ (k+1+1)=10 ^ (k+1) * 10:=Nat.pow_succ ..;rw [e] at h;exact Nat.div_lt_of_lt_mul (by lia)
   have:=dig_len k (m / 10) h2;lia
theorem dig_head:∀ (m:Nat),1≤m→(dig m).head? ≠some 48:=by
 intro m
 induction m using Nat.strongRecOn with
 | _ m ih =>
  intro h1 e
  rcases Nat.lt_or_ge m 10 with h | h
  ·rw [kU h] at e
   have:48+m=48:=by simpa using e
   lia
  ·rw [dig_ge h] at e
   have ih':=ih (m / 10) (by lia) (by lia);cases hd:dig (m / 10) with
   | nil=>exact dig_ne _ hd
   | cons a r =>
    rw [hd] at e ih';exact ih' (by simpa using e)
theorem dig_one (h:1<(dig m).length):10≤m:=by
 rcases Nat.lt_or_ge m 10 with q | q
 ·rw [kU q] at h;simp at h
 ·exact q
def num (m:Nat):Str:=aY (toString ((m:Nat):Int))
theorem jd (m:Nat):(num m).cps.toList=dig m:=PySem.W.KIN.signs_num m
theorem num_len (h:m<10 ^ 60):(num m).length≤60:=by
 have:=dig_len 59 m h;rw [←jd] at this
 simpa [Str.length] using this
theorem num_pos (m:Nat):1≤(num m).length:=by
 have h:=dig_ne m;rw [←jd] at h;cases e:(num m).cps.toList with
 | nil=>exact lK e h
 | cons a r =>
  have:(num m).length=(num m).cps.toList.length:=by simp [Str.length]
  rw [this,e];simp
theorem num_int (h:m<10 ^ 60):PySem.intText? (num m)=some ((m:Nat):Int):=by
 have e:=PySem.intText_digits (x:=num m) (fun c hc=>dig_all m c (by rw [←jd];exact hc)) (by rw [jd];exact dig_ne m) (bQ (num_len h) (by decide));rw [jd] at e;rw [e];have v:=PySem.W.KIN.val_back m;unfold dig;rw [v]
end HT2
namespace HN
open PySem L2 PyProof.Rows HT2
abbrev sp_:Str := " "
abbrev nl_:Str := "\n"
theorem sp_eq:(sp_:Str)=⟨#[32]⟩:=by trivial
theorem nl_eq:(nl_:Str)=⟨#[10]⟩:=by trivial
def ik (i:Int):Str:=toString i
theorem kt (m:Nat):ik (m:Int)=num m:=rfl
def W60 (i:Int):Prop:=0≤i∧i<10 ^ 60
theorem W60.nat (h:W60 i):∃ m:Nat,i=m∧m<10 ^ 60:=by
 obtain ⟨m,rfl⟩:=dG h.1;exact ⟨m,rfl,by have:=h.2;lia⟩
theorem numI_cps (h:W60 i):∀ c∈(ik i).cps.toList,48≤c∧c≤57:=by
 obtain ⟨m,rfl,_⟩:=h.nat;rw [kt,jd];exact dig_all m
theorem iR (h:W60 i):(ik i).length≤60:=by
 obtain ⟨m,rfl,hm⟩:=h.nat;rw [kt];exact num_len hm
theorem numI_int (h:W60 i):PySem.intText? (ik i)=some i:=by
 obtain ⟨m,rfl,hm⟩:=h.nat;rw [kt];exact num_int hm
theorem log_60 (h:W60 i):i.natAbs.log2<1920:=by
 by_cases h0:i.natAbs=0
 ·rw [h0];decide
 ·have h1:i.natAbs<2 ^ 200:=by
   have:(10:Nat) ^ 60<2 ^ 200:=by trivial
   have h2:i.natAbs<10 ^ 60:=by have:=h.1;have:=h.2;lia
   lia
  have:=(Nat.log2_lt h0).mpr h1;lia
theorem kK (h:W60 i){c:Nat}(hc:c<48):c ∉ (ik i).cps.toList:=fun m=>by
 have:=numI_cps h c m;lia
theorem cps_app (a b:Str):(a++b).cps.toList=a.cps.toList++b.cps.toList:=by simp only [Str.cps_append,Array.toList_append]
theorem jF (a b:Str):(a++b).length=a.length+b.length:=Str.length_append a b
theorem join_mem {c:Nat}:∀ {ys:List Str} {x:Nat},x∈(eC ⟨#[c]⟩ ys).cps.toList→x=c∨∃ y∈ys,x∈y.cps.toList
 | [],x,h=>by
  have h:x∈(du).cps.toList:=h;exact lK h (by simp [du])
 | [y],x,h=> .inr ⟨y,by simp,h⟩
 | y::z::r,x,h=>by
  rw [jS] at h
  rcases cx.mp h with h | h
  ·exact .inr ⟨y,by simp,h⟩
  ·rcases aq.mp h with h | h
   ·exact .inl h
   ·rcases join_mem (ys:=z::r) h with q | ⟨w',hw,q⟩
    ·exact .inl q
    ·exact .inr ⟨w',aS _ hw,q⟩
theorem sum_le {α:Type}(f:α→Nat)(k:Nat):∀ (l:List α),(∀ x∈l,f x≤k)→(l.map f).sum≤l.length * k
 | [],_=>by simp
 | x::r,h=>by
  have h1:=h x (by simp);have h2:=sum_le f k r fun y hy=>h y (aS _ hy)
  simp only [bJ,List.sum_cons,aP,Nat.add_mul];lia
end HN
namespace L2
open PySem PySem.Spec PyProof.Rows
theorem call_int_str:gF X (.type "int") (fun xs H Q=>∃ x n,xs=[.str x]∧PySem.intText? x=some n∧x.length≤640∧Q (.int n) H):=by
 intro az s σ H xs us Q I r h;obtain ⟨x,n,rfl,hn,hl,q⟩:=h;obtain ⟨u,rfl,ru⟩:=jA r;obtain ⟨t,rfl⟩:=(show ∃ t,u=af.str x t from ru);exact PySem.W.KIN.call_text hn hl ⟨.int n,H,I.tok _,⟨_,rfl⟩,q⟩
end L2
namespace HN
open PySem L2 PyProof.Rows HT2
structure Nm2 (mg:Str→Option af):Prop where
 tstr:mg "str" =none
 tlist:mg "list" =none
structure Cs2 (mg:Str→Option af):Prop where
 ltr:∃ t,mg "LETTERS" =some (.str "abcdefghijklmnopqrstuvwxyz" t)
 ml:∃ t,mg "MOST_LETTERS" =some (.int 8 t)
 fig:∃ t,mg "FIGURES" =some (.str "0123456789" t)
 mf:∃ t,mg "MOST_FIGURES" =some (.int 60 t)
theorem pe_gstr (hm:∃ t,X.mg x=some (.str z t))(hg:Gl X x:=by rfl)(hd:(x == ("__debug__" :Str))=false:=by decide):PE X (.Name x pos) (tC (.str z)) :=
 let ⟨t,e⟩:=hm;kF (v:= .str z) (u:= .str z t) hg e ⟨t,rfl⟩ hd
theorem pe_isStr {p:Pos}(N:Nm X.mg)(N2:Nm2 X.mg)(he:PE X e te)(hg:Gl X "isinstance" := by rfl)(hg2:Gl X "str" := by rfl)
  (hs1:aU [e,.Name "str" p2] X.env=(false,cN e X.env)::aU [.Name "str" p2] X.env:=by rfl) (hpl:(eu pos (aU [.Name "str" p2] X.env)).any (·.1)=false:=by rfl) :
  PE X (.Call (.Name "isinstance" p) [e,.Name "str" p2] [] pos) (tCB (fun xs H Q=>∃ x T,xs=[x,.ty "str"]∧tyn H x=some T∧Q (.bl (T == "str")) H) (kB te (kB (tC (.ty "str")) tNil))) :=
 cw call_isStr hg N.isin boot_isinstance (ah he (ah (pe_bltn hg2 N2.tstr boot_str rfl) aw) hs1) (he:=hs1) (hpl:=hpl)
def iA (z:Str):Bool:=decide (1≤z.length) && (decide (z.length≤60) && (!(decide (z.cps.toList.head? =some 48) && decide (1<z.length)) && z.cps.toList.all fun c=>decide (48≤c∧c≤57)))
theorem fig_in (c:Nat):(!(bM ("0123456789" :Str) ⟨#[c]⟩ 0 ("0123456789" :Str).length 1).isEmpty)=decide (48≤c∧c≤57):=by
 rw [StrLaws.found_one];have e:("0123456789" :Str).cps.toList=[48,49,50,51,52,53,54,55,56,57]:=by trivial
 rw [e];rw [decide_eq_decide];simp only [aq,aI,or_false];omega
theorem numI_numeral (h:W60 i):iA (ik i)=true:=by
 obtain ⟨m,rfl,hm⟩:=h.nat;unfold iA;rw [kt];rw [lL (num_pos m),lL (num_len hm),jd];have h1:((dig m).all fun c=>decide (48≤c∧c≤57))=true:=by
  rw [List.all_eq_true];exact fun c hc=>lL (dig_all m c hc)
 rw [h1];have h2:(decide ((dig m).head? =some 48) && decide (1<(num m).length))=false:=by
  rw [eL];intro z;rw [b9] at z;have z1:=lN z.1;have z2:=lN z.2;have e:(num m).length=(dig m).length:=by rw [←jd];simp [Str.length]
  rw [e] at z2;exact dig_head m (by have:=dig_one z2;lia) z1
 rw [h2];rfl
inductive spNumeral (vs:List V)(H:Hp)(Q:VK)(_:XK):Prop
 | mk (z:Str)(_:vs=[.str z])(_:z.length≤100000)(_:∀ H',bO H H'→Q (.bl (iA z)) H')
inductive kC (vs:List V)(H:Hp)(Q:VK)(_:XK):Prop
 | mk (i:_)(_:vs=[.str (ik i)])(_:W60 i)(_:∀ H',bO H H'→Q (.int i) H')
abbrev kr:b8:=top 10
abbrev sRead:b8:=top 11
section
variable {w:aV}
theorem scNumeral:bE pzc pzc (defScope kr):=by trivial
theorem ok_numeral (F:Fun K "is_numeral" "is_numeral" kr f fd)(T:Nm mg)(C:Cs2 mg):cI P w K mg base CX0 1 f fd pzc spNumeral:=by
 refine F.ok scNumeral (by contradiction) (fun cdv A outer s H vs Q E hr h=>?_);obtain ⟨z,rfl,hz,k⟩:=h;refine ⟨_,cz (fQ (PW.pt (kh (cD op_lt (cw gO rfl T.len bD (ah (pv 0) aw)) aT (cP _)) (jv (cD op_gt (cw gO rfl T.len bD (ah (pv 0) aw)) (kG C.mf) (cP _))))) (bp (bI ki)) cM)
  (cz (ps_cut (fQ (PW.pt (pw_and (cD jC (dO ix_str (pv 0) aT (fun _ _=>rfl)) fY (cP _)) (pw_and1 (cD op_gt (cw gO rfl T.len bD (ah (pv 0) aw)) aT (cP _))))) (bp (bI ki)) cM))
  (bp (bI (cw (call_all rfl) rfl T.all boot_all (ah (hI (fr:=[]) (js:=[]) rfl (pi_str (pv 0)) (by trivial) rfl (by trivial) rfl (by exists kr) (by trivial) rfl (by trivial) (fun _ _ _ _ _=>⟨(jb op_in_str (pv 0) (pe_gstr C.fig) rfl),gp⟩)) aw))))),?_⟩
 have big:(100000:Nat)≤ar:=by decide
 have hz':z.length≤ar:=by lia
 have k0:=k H (bO.refl H);refine ⟨_,rfl,z,rfl,hz',_,_,rfl,rfl,_,rfl,?_⟩;refine jG (fun h1=>?_) (fun h1=>?_)
 ·have h1:(z.length:Int)<1:=lN h1
  have e:iA z=false:=by unfold iA;rw [lM (by lia)];rfl
  rw [e] at k0;exact k0
 have h1:¬ (z.length:Int)<1:=fun q=>h1 (lL q)
 refine ⟨_,rfl,z,rfl,hz',_,_,rfl,rfl,_,rfl,?_⟩;refine jG (fun h2=>?_) (fun h2=>?_)
 ·have h2:(60:Int)<(z.length:Int):=lN h2
  have e:iA z=false:=by unfold iA;rw [lM (by lia:¬ z.length≤60),gK,Bool.and_false]
  rw [e] at k0;exact k0
 have h2:¬ (60:Int)<(z.length:Int):=fun q=>h2 (lL q)
 have hl:z.cps.toList.length=z.length:=by simp [Str.length]
 obtain ⟨c0,r0,hc⟩:∃ c r,z.cps.toList=c::r:=by
  cases e:z.cps.toList with
  | nil=>rw [e] at hl;simp at hl;lia
  | cons c r=>exact ⟨c,r,rfl⟩
 have en:iA z=(!(decide (c0=48) && decide (1<z.length)) && z.cps.toList.all fun c=>decide (48≤c∧c≤57)):=by
  unfold iA;rw [lL (by lia:1≤z.length),lL (by lia:z.length≤60),gn,gn];congr 3;rw [decide_eq_decide,hc];simp
 have e48:decide (V.str ⟨#[c0]⟩=V.str "0")=decide (c0=48):=by
  rw [decide_eq_decide];have z0:("0" :Str)=⟨#[48]⟩:=by trivial
  rw [z0]
  constructor
  ·intro q
   injection q with q
   have:=lO (fun s:Str=>s.cps.toList) q
   simpa using this
  ·intro q;rw [q]
 refine ⟨fun σ' H'=>σ'=[some (.str z)]∧H'=H∧(decide (c0=48) && decide (1<z.length))=false,?_,?_⟩
 ·rintro σ' H' ⟨rfl,rfl,hq⟩
  rw [hq] at en;refine ⟨_,rfl,z,rfl,?_⟩;have hsz:z.cps.size=z.cps.toList.length:=by simp
  refine comp_str (fun i ys H2=>H2=H'∧ys=(z.cps.toList.take i).map fun c=>V.bl (decide (48≤c∧c≤57))) ⟨rfl,rfl⟩ (fun i ys H2 hi ⟨e1,e2⟩=>?_) hz' (fun i c ys H2 hx ⟨e1,e2⟩=>?_) (fun ys H2 ⟨e1,e2⟩ D hD=>?_)
  ·rw [e2,ae,bq];lia
  ·subst e1
   refine fk ?_;refine ⟨_,rfl,_,_,rfl,rfl,rfl,?_⟩;have hx':z.cps.toList[i]? =some c:=by rw [Array.getElem?_toList];exact hx
   rw [e2,bS,hx',au,fig_in];rfl
  ·subst e1
   rw [hsz,bP] at e2;refine ⟨D,z.cps.toList.map fun c=>decide (48≤c∧c≤57),rfl,SqL.of (by rw [aK,e2,bZ];rfl),?_⟩;have e3:((z.cps.toList.map fun c=>decide (48≤c∧c≤57)).all id)=iA z:=by rw [en,List.all_map];rfl
   rw [e3];exact k _ (bO.put (bO.refl H2) hD)
 ·refine ⟨_,rfl,z,0,c0,rfl,rfl,hz',by rw [hc];exact aC (j:=0) rfl,rfl,_,rfl,?_⟩
  rw [e48];refine jG (fun h3=>?_) (fun h3=>?_)
  ·refine ⟨_,rfl,z,rfl,hz',_,_,rfl,rfl,_,rfl,?_⟩
   refine jG (fun h4=>?_) (fun h4=>?_)
   ·have h4:(1:Int)<(z.length:Int):=lN h4
    rw [en,h3,lL (by lia:1<z.length)] at k0;exact k0
   ·have h4:¬ (1:Int)<(z.length:Int):=fun q=>h4 (lL q)
    exact ⟨rfl,rfl,by rw [lM (by lia:¬ 1<z.length),Bool.and_false]⟩
  ·exact ⟨rfl,rfl,by rw [eL.mpr h3,gK]⟩
theorem scRead:bE pzc pzc (defScope sRead):=by trivial
theorem ok_readW (F:Fun K "read_whole" "read_whole" sRead f fd)(T:Nm mg)(C:Cs2 mg)(GN:Fn K mg "is_numeral" kr pzc f1 fd1):cI P w K mg base CX0 2 f fd pzc kC:=by
 have FN:cI P w K mg base CX0 1 f1 fd1 pzc spNumeral:=ok_numeral GN.F T C;refine F.ok scRead (by contradiction) (fun cdv A outer s H vs Q E hr h=>?_);obtain ⟨i,rfl,hi,k⟩:=h;refine ⟨_,cz (fQ (j5 (jw (pc1 GN FN hr (ah (pv 0) aw)))) (bp gU) cM)
  (bp (bI (dQ call_int_str rfl T.tint boot_int (ah (pv 0) aw)))),?_⟩
 refine ⟨_,rfl,_,rfl,by have:=iR hi;lia,fun H1 S1=>⟨_,rfl,?_⟩⟩;rw [numI_numeral hi];refine jz rfl ?_;exact ⟨_,rfl,_,i,rfl,numI_int hi,by have:=iR hi;lia,k H1 S1⟩
def nam (z:Str):Bool:=decide (1≤z.length) && (decide (z.length≤8) && z.cps.toList.all fun c=>decide (97≤c∧c≤122))
theorem ltr_in (c:Nat):(!(bM ("abcdefghijklmnopqrstuvwxyz" :Str) ⟨#[c]⟩ 0 ("abcdefghijklmnopqrstuvwxyz" :Str).length 1).isEmpty)=decide (97≤c∧c≤122):=by
 rw [StrLaws.found_one];have e:("abcdefghijklmnopqrstuvwxyz" :Str).cps.toList=[97,98,99,100,101,102,103,104,105,106,107,108,109,110,111,112,113,114,115,116,117,118,119,120,121,122]:=by trivial
 rw [e];rw [decide_eq_decide];simp only [aq,aI,or_false];omega
inductive spNam (vs:List V)(H:Hp)(Q:VK)(_:XK):Prop
 | mk (z:Str)(_:vs=[.str z])(_:nam z=true)(_:∀ H',bO H H'→Q (.str z) H')
abbrev sNam:b8:=top 25
theorem scNam:bE pzc pzc (defScope sNam):=by trivial
theorem ok_nam (F:Fun K "read_name" "read_name" sNam f fd)(T:Nm mg)(C:Cs2 mg):cI P w K mg base CX0 1 f fd pzc spNam:=by
 refine F.ok scNam (by contradiction) (fun cdv A outer s H vs Q E hr h=>?_);obtain ⟨z,rfl,hn,k⟩:=h;unfold nam at hn;simp only [b9,decide_eq_true_eq] at hn;obtain ⟨n1,n2,n3⟩:=hn;refine ⟨_,cz (fQ (PW.pt (kh (cD op_lt (cw gO rfl T.len bD (ah (pv 0) aw)) aT (cP _)) (kh (cD op_gt (cw gO rfl T.len bD (ah (pv 0) aw)) (kG C.ml) (cP _)) (jv (j5 (jw (cw (call_all rfl) rfl T.all boot_all (ah (hI (fr:=[]) (js:=[]) rfl (pi_str (pv 0)) (by trivial) rfl (by trivial) rfl (by exists sNam) (by trivial) rfl (by trivial) (fun _ _ _ _ _=>⟨(jb op_in_str (pv 0) (pe_gstr C.ltr) rfl),gp⟩)) aw)))))))) (bp gU) cM)
  (bp (bI (pv 0))),?_⟩
 have big:(100000:Nat)≤ar:=by decide
 have hz':z.length≤ar:=by lia
 refine ⟨_,rfl,z,rfl,hz',_,_,rfl,rfl,_,rfl,?_⟩;refine jz (lM (by lia)) ?_;refine ⟨_,rfl,z,rfl,hz',_,_,rfl,rfl,_,rfl,?_⟩;refine jz (lM (by lia)) ?_;refine ⟨_,rfl,z,rfl,?_⟩;have hsz:z.cps.size=z.cps.toList.length:=by simp
 refine comp_str (fun i ys H2=>H2=H∧ys=(z.cps.toList.take i).map fun c=>V.bl (decide (97≤c∧c≤122))) ⟨rfl,rfl⟩ (fun i ys H2 hi ⟨e1,e2⟩=>?_) hz' (fun i c ys H2 hx ⟨e1,e2⟩=>?_) (fun ys H2 ⟨e1,e2⟩ D hD=>?_)
 ·have:z.cps.toList.length=z.length:=by simp [Str.length]
  rw [e2,ae,bq];lia
 ·subst e1
  refine fk ?_;refine ⟨_,rfl,_,_,rfl,rfl,rfl,?_⟩;have hx':z.cps.toList[i]? =some c:=by rw [Array.getElem?_toList];exact hx
  rw [e2,bS,hx',au,ltr_in];rfl
 ·subst e1
  rw [hsz,bP] at e2;refine ⟨D,z.cps.toList.map fun c=>decide (97≤c∧c≤122),rfl,SqL.of (by rw [aK,e2,bZ];rfl),_,rfl,?_⟩;have e3:((z.cps.toList.map fun c=>decide (97≤c∧c≤122)).all id)=true:=by rw [List.all_map];exact n3
  rw [e3];exact jz rfl ⟨_,rfl,k _ (bO.put (bO.refl H2) hD)⟩
end
end HN
namespace L2
open PySem PySem.Spec PyProof.Rows
theorem mt_indexT1:MtM X "str.index" (fun x vs H Q=>∃ (z y:Str) (i:Nat) (rest:List Nat),x= .str z∧vs=[.str y]∧bM z y 0 z.length 1=i::rest∧Q (.int (i:Nat)) H):=by
 intro az s σ H x vs v us Q I rx rv h;obtain ⟨z,y,i,rest,rfl,rfl,ho,q⟩:=h;obtain ⟨t,rfl⟩:=(show ∃ t,v=af.str z t from rx);obtain ⟨u,rfl,ru⟩:=rv.one;obtain ⟨t',rfl⟩:=(show ∃ t,u=af.str y t from ru);exact call_gives F.slot_str_index (typeIs_str _ _ _) F.entry_str_index (F.args_str_index_2 _ _) (gives_str_index z y t t' i rest ho) ⟨.int (i:Nat),H,I.tok _,⟨_,rfl⟩,q⟩
def strV:V→Option Str
 | .int i=>some (toString i)
 | .str z=>some z
 | _=>none
theorem call_strA:gF X (.type "str") (fun xs H Q=>∃ v z,xs=[v]∧strV v=some z∧(∀ i,v= .int i→i.natAbs.log2<1920)∧Q (.str z) H):=by
 intro az s σ H xs us Q I r h;obtain ⟨v,z,rfl,hv,hz,q⟩:=h;cases v with
 | int i =>
  cases hv;exact j8 az s σ H _ us Q I r ⟨i,rfl,hz i rfl,q⟩
 | str y =>
  cases hv;obtain ⟨u,rfl,t,rfl⟩:=jA r;exact PySem.P.str_of_str ⟨.str _,H,I,⟨_,rfl⟩,q⟩
 | _=>cases hv
end L2
namespace HN
open PySem L2 PyProof.Rows HT2
abbrev sNms:b8:=top 48
abbrev ABC:Str := "abcdefghijklmnopqrstuvwxyz"
abbrev lp (c:Nat):Str:=⟨#[c]⟩
def strOf (cs:List Nat):Str:=⟨cs.toArray⟩
theorem abc_at {r:Nat}(h:r<26):atI ABC.cps.toList (r:Int)=some (97+r):=by
 have:∀ i:Fin 26,atI ABC.cps.toList ((i:Nat):Int)=some (97+(i:Nat)):=by trivial
 exact this ⟨r,h⟩
theorem abc_ix {r:Nat}(h:r<26):bM ABC (lp (97+r)) 0 ABC.length 1=[r]:=by
 have:∀ i:Fin 26,bM ABC (lp (97+(i:Nat))) 0 ABC.length 1=[(i:Nat)]:=by trivial
 exact this ⟨r,h⟩
theorem join_one:∀ cs:List Nat,gu ("" :Str) (cs.map lp)=strOf cs:=fun cs=>by
 rw [show ("" :Str)=du by trivial];have e:gu du (cs.map lp)=eC du (cs.map lp):=dZ _ _;rw [e];have go:∀ cs:List Nat,(eC du (cs.map lp)).cps.toList=cs:=by
  intro cs
  induction cs with
  | nil=>rfl
  | cons c r ih =>
   cases r with
   | nil=>rfl
   | cons d r =>
    show (lp c++du++eC du ((d::r).map lp)).cps.toList=_;rw [cps_app,ih,cps_app];rfl
 exact str_ext (by rw [go cs];simp [strOf])
theorem strOf_cps (cs:List Nat):(strOf cs).cps.toList=cs:=by simp [strOf]
theorem strOf_nam {cs:List Nat}(h1:1≤cs.length)(h8:cs.length≤8)(h:∀ c∈cs,97≤c∧c≤122):nam (strOf cs)=true:=by
 have hl:(strOf cs).length=cs.length:=by show (strOf cs).cps.size=_;simp [strOf]
 unfold nam;rw [hl,strOf_cps,lL h1,lL h8,gn,gn,List.all_eq_true];exact fun c hc=>lL (h c hc)
def nmK (cs:List Nat)(m f k:Nat):Str:=strOf (cs.set m (97+(f+k) % 26))
def nms (cs:List Nat)(m f n:Nat):List Str:=(bH n).map (nmK cs m f)
theorem nms_nd {cs:List Nat}{f:Nat}(hm:m<cs.length)(hn:n≤26):(nms cs m f n).Nodup:=by
 refine dm.mpr fun i j hi hj hij e=>?_
 have l:(nms cs m f n).length=n:=by unfold nms;rw [ae,fH]
 simp only [nms,cY,List.getElem_range] at e;have e1:=lO (fun s:Str=>s.cps.toList[m]?) e;unfold nmK at e1;simp only [strOf_cps,List.getElem?_set_self hm] at e1;injection e1 with e1
 lia
inductive spNms (vs:List V)(H:Hp)(Q:VK)(_:XK):Prop
 | mk (p:ak)(n:Int)(k:Nat)(_:vs=[.ref p,.int (k:Nat)])(_:H p=some (.lst [.int n]))(_:k≤26)(_:∀ (L:ak) (ns:List Str) (H':Hp),Mv p H H'→H L=none→H' L=some (.lst (ns.map V.str))→ns.length=k→ns.Nodup→(∀ z∈ns,nam z=true)→Q (.ref L) H')
section
variable {w:aV}
theorem scNms:bE ["_law_pot_here","_law_lots","_law_letters","_law_base","_law_at","_law_first","_law_names_here","_law_k"] pzs (defScope sNms):=by trivial
theorem ok_nms (F:Fun K "_law_names" "_law_names" sNms f fd)(T:Nm mg)(T2:Nt mg)(G1:Fn K mg "_law_take" sTake pzh f1 fd1):cI P w K mg base CX0 2 f fd pzs spNms:=by
 have F1:cI P w K mg base CX0 1 f1 fd1 pzh spTake:=ok_take G1.F;refine F.ok scNms (by contradiction) (fun cdv A outer s H vs Q E hr h=>?_);obtain ⟨p,n,lots,rfl,hp,hk,k⟩:=h;have hr1:iZ 1 _:=hr;refine ⟨_,PSl.h (bf ⟨(psZ 2 scNms.nd fY)⟩
  (bf ⟨(ps_setC (iy:=3) (fr:=["_law_letters","_law_pot_here"]) (js:=[2,0]) scNms.nd rfl (.inl rfl) rfl (iF rfl T2.range (ah (cn eN aT (pc1 G1 F1 hr1 (ah (pv 0) (ah aT aw)))) aw)) (by trivial) rfl (by trivial) rfl (by exists sNms) (by trivial) rfl (by trivial) (fun _ _ _ _ _=>⟨(dO ix_str (pv 1) (pc1 G1 F1 hr1 (ah (pv 2) (ah aT aw))) (fun _ _=>rfl)),gp⟩))⟩
  (bf ⟨(psZ 4 scNms.nd (pc1 G1 F1 hr1 (ah (pv 0) (ah (cw cS rfl T.len bD (ah (pv 3) aw)) aw))))⟩
  (bf ⟨(psZ 5 scNms.nd (jc c8 PySem.F.slot_str_index PySem.F.type_str_index mt_indexT1 (pv 2) (ah (dO bh (pv 3) (pv 4) (fun _ _=>rfl)) aw)))⟩
  (bf ⟨(psZ 6 scNms.nd (ja aw))⟩
  (bf ⟨(iV cJ rfl (iF rfl T2.range (ah (pv 1) aw)) (pgZ 7 scNms.nd) (PSl.h (bf ⟨(ps_asg (dO ix_str (pv 2) (cn iH (cn eN (pv 5) (pv 7)) aT) (fun _ _=>rfl)) (pg_sub (pv 3) (pv 4) set_list))⟩
  (fR ⟨(iw (jc bU cG cF gM (pv 6) (ah (jc c8 PySem.F.slot_str_join PySem.F.type_str_join mt_join fY (ah (pv 3) aw)) aw)))⟩))))⟩
  (fR ⟨(bI (pv 6))⟩))))))),?_⟩
 refine ⟨_,rfl,p,n,8,rfl,hp,by decide,by decide,fun r H1 r0 r1 M1=>⟨_,_,rfl,rfl,1+r,rfl,by lia,by lia,?_⟩⟩;refine jk (n:=(1+r).toNat) (fun i zs H4=>Mv p H H4∧∃ cs:List Nat,zs=cs.map (fun c=>V.str (lp c))∧cs.length=i∧∀ c∈cs,97≤c∧c≤122) ⟨M1,[],rfl,rfl,fun _ h=>lK h (by simp)⟩ (fun i zs H4 _ ⟨_,cs,e,hl,_⟩=>by rw [e,ae,hl];exact aH _) (small_le (by lia)) (fun i zs H4 hi ⟨M4,cs,e4,hl4,all4⟩=>?_) (fun zs H4 ⟨M4,cs,e4,hl4,all4⟩ B hB=>?_)
 ·obtain ⟨n4,hp4⟩:=M4.2
  refine fk ?_;refine ⟨_,rfl,_,rfl,p,n4,26,rfl,hp4,by decide,by decide,fun r H5 r0 r1 M5=>?_⟩;obtain ⟨m,rfl⟩:=dG r0;refine ⟨_,_,97+m,rfl,rfl,(by trivial),abc_at (by lia),M4.trans M5,cs++[97+m],by rw [e4,au];rfl,by rw [av,hl4];rfl,fun c hc=>?_⟩
  rcases cx.mp hc with hc | hc
  ·exact all4 c hc
  ·rw [br.mp hc];lia
 have M5:Mv p H (upd H4 B (.lst zs)):=M4.new hB;have hB5:(upd H4 B (.lst zs)) B=some (.lst (cs.map fun c=>V.str (lp c))):=by rw [aK,e4]
 have nBp:B≠p:=M4.ne hB;have nB0:H B=none:=by
  cases e:H B with
  | none=>rfl
  | some o=>rw [M4.1 B o nBp e] at hB;cases hB
 have nB:H B=none∧B≠p:=⟨nB0,nBp⟩;generalize upd H4 B (.lst zs)=H5 at M5 hB5 ⊢;obtain ⟨n5,hp5⟩:=M5.2;have l1:1≤cs.length:=by lia
 have l8:cs.length≤8:=by lia
 refine ⟨_,rfl,_,rfl,B,_,rfl,.inl (SqL.of hB5),p,n5,_,rfl,hp5,(by rw [ae];lia),(by rw [ae];lia),fun r2 H6 a0 a1 M6=>?_⟩;obtain ⟨m,rfl⟩:=dG a0;rw [ae] at a1;have hm:m<cs.length:=by lia
 have hB6:=M6.1 _ _ nB.2 hB5;obtain ⟨c,hc⟩:∃ c,cs[m]? =some c:=⟨_,gE hm⟩;obtain ⟨c0,c1⟩:=all4 c (aG hc);obtain ⟨g,rfl⟩:∃ g,c=97+g:=⟨c - 97,by lia⟩;refine ⟨_,rfl,rfl,_,rfl,_,rfl,B,_,_,_,rfl,rfl,SqL.of hB6,aC (j:=m) (by rw [aD,hc];rfl),_,_,g,[],rfl,rfl,abc_ix (by lia),?_⟩;refine ⟨(by show 0≤ar;decide),fun L hL=>?_⟩;have M7:Mv p H (upd H6 L (.lst [])):=(M5.trans M6).new hL;have hL7:(upd H6 L (.lst [])) L=some (.lst []):=aK;have BL:B≠L:=aJ hB6 hL;have hB7:(upd H6 L (.lst [])) B=some (.lst (cs.map fun c=>V.str (lp c))):=by rw [aR BL];exact hB6
 have Lp:L≠p:=(M5.trans M6).ne hL;have nL:H L=none:=by
  cases e:H L with
  | none=>rfl
  | some o=>rw [(M5.trans M6).1 L o Lp e] at hL;cases hL
 generalize upd H6 L (.lst [])=H7 at M7 hL7 hB7 ⊢;refine ⟨_,rfl,(lots:Int),rfl,by lia,by lia,?_⟩;refine kR (n:=((lots:Nat):Int).toNat) (fun i σ H2=>(∀ c o,c≠B→c≠L→H7 c=some o→H2 c=some o)∧(∃ y,H2 B=some (.lst ((cs.set m y).map fun c=>V.str (lp c))))∧H2 L=some (.lst ((nms cs m g i).map V.str))∧∃ vj,σ=[some (.ref p),some (.int (lots:Nat)),some (.str ABC),some (.ref B),some (.int (m:Nat)),some (.int (g:Nat)),some (.ref L),vj])
  ⟨fun c o _ _ h=>h,⟨97+g,by rw [hB7,←(ao.mp hc).2,List.set_getElem_self]⟩,hL7,none,rfl⟩ ?_ ?_
 ·rintro i σ H2 hi ⟨k2,⟨y,hB2⟩,hL2,vj,rfl⟩
  have hr26:(g+i) % 26<26:=Nat.mod_lt _ (by decide);have ei:(((g:Nat):Int)+(0+(i:Nat))) % 26=(((g+i) % 26:Nat):Int):=by lia
  refine ⟨_,rfl,_,rfl,_,rfl,_,_,rfl,rfl,_,_,rfl,rfl,(by show (0:Int)<26;decide),_,_,97+(g+i) % 26,rfl,rfl,(by trivial),?_,?_⟩
  ·show atI ABC.cps.toList ((((g:Nat):Int)+(0+(i:Nat))) % 26)=_
   rw [ei];exact abc_at hr26
  refine ⟨_,rfl,_,rfl,B,_,_,m,rfl,rfl,hB2,?_,?_⟩
  ·rw [ae,gv]
   unfold ixN;rw [lJ (by lia),lJ (by lia)];rfl
  have k3:∀ c o,c≠B→H2 c=some o→(upd H2 B (.lst (((cs.set m y).map fun c=>V.str (lp c)).set m (.str (lp (97+(g+i) % 26)))))) c=some o:=fun c o hc e=>by rw [aR hc];exact e
  have hB3:(upd H2 B (.lst (((cs.set m y).map fun c=>V.str (lp c)).set m (.str (lp (97+(g+i) % 26)))))) B=some (.lst (((cs.set m (97+(g+i) % 26)).map lp).map V.str)):=by
   rw [aK,←List.map_set,List.set_set,bZ];rfl
  generalize upd H2 B (.lst (((cs.set m y).map fun c=>V.str (lp c)).set m (.str (lp (97+(g+i) % 26)))))=H3 at k3 hB3 ⊢;have hL3:=k3 _ _ (cf BL) hL2;have big:(100000:Nat)≤ar:=by decide
  refine ⟨_,rfl,.inl ⟨rfl,_,SqL.of hL3⟩,rfl,_,rfl,_,B,_,rfl,rfl,SqL.of hB3,(by trivial),?_,?_⟩
  ·rw [bZ,ae,gv]
   have:((cs.set m (97+(g+i) % 26)).map ((fun x:Str=>x.length) ∘ lp)).sum≤(cs.set m (97+(g+i) % 26)).length * 1:=sum_le _ 1 _ fun x _=>aH _
   rw [gv] at this;lia
  rw [join_one];refine ⟨L,_,_,rfl,rfl,hL3,(by unfold nms;rw [ae,ae,fH];lia),?_⟩;refine ⟨fun c o h1 h2 e=>by rw [aR h2];exact k3 _ _ h1 (k2 _ _ h1 h2 e),⟨97+(g+i) % 26,by rw [aR BL,hB3,bZ];rfl⟩,?_,_,rfl⟩;rw [aK];unfold nms;rw [List.range_succ,au,au];rfl
 ·rintro σ H2 ⟨k2,⟨y,hB2⟩,hL2,vj,rfl⟩
  have el:((lots:Nat):Int).toNat=lots:=by lia
  rw [el] at hL2;obtain ⟨n7,hp7⟩:=M7.2;refine ⟨_,rfl,k L _ H2 ⟨fun c o hcp e=>?_,n7,k2 _ _ (cf nB.2) (cf Lp) hp7⟩ nL hL2 (by unfold nms;rw [ae,fH]) (nms_nd hm hk) fun z hz=>?_⟩
  ·exact k2 c o (fun z=>by rw [z,nB.1] at e;cases e) (fun z=>by rw [z,nL] at e;cases e) (M7.1 c o hcp e)
  ·unfold nms at hz
   obtain ⟨i,_,rfl⟩:=bc.mp hz;refine strOf_nam (by rw [gv];exact l1) (by rw [gv];exact l8) fun c hc=>?_
   rcases List.mem_or_eq_of_mem_set hc with h | h
   ·exact all4 c h
   ·subst h
    have:(g+i) % 26<26:=Nat.mod_lt _ (by decide);lia
end
abbrev sTxt:b8:=top 55
abbrev sTms:b8:=top 56
abbrev sApk:b8:=top 57
abbrev sMek:b8:=top 58
def wdS (v:V):Str:=(strV v).getD du
def k6 (r:List V):Str:=gu sp_ (r.map wdS)
structure RwAt (H:Hp)(xs:List V)(rows:List (List V)):Prop where
 len:xs.length=rows.length
 get:∀ (i:Nat) (r:List V),rows[i]? =some r→∃ a:ak,xs[i]? =some (V.ref a)∧H a=some (.lst r)
def WdOk (v:V):Prop:=(∃ z,strV v=some z∧z.length≤100)∧∀ i,v= .int i→W60 i
def planT (b:Int)(rows:List (List V)):Str:=gu nl_ ((("beat " :Str)++ik b)::rows.map k6)
theorem rowW_len {r:List V}(h:∀ v∈r,WdOk v)(hl:r.length≤60):(k6 r).length≤7000:=by
 unfold k6;have e:gu sp_ (r.map wdS)=eC sp_ (r.map wdS):=dZ _ _;rw [e];have go:∀ ys:List Str,(∀ y∈ys,y.length≤100)→(eC sp_ ys).length≤ys.length * 101:=by
  intro ys
  induction ys with
  | nil=>intro _;decide +kernel
  | cons y ys ih =>
   intro hy;cases ys with
   | nil =>
    show y.length≤_;have:=hy y (by simp);simp only [aP,List.length_nil];lia
   | cons z ys =>
    rw [jj,jF,jF];have h1:=hy y (by simp);have h2:=ih fun x hx=>hy x (aS _ hx)
    have h3:(sp_:Str).length=1:=by trivial
    rw [h3];simp only [aP] at h2 ⊢;lia
 have:=go (r.map wdS) fun y hy=>by
  obtain ⟨v,hv,rfl⟩:=bc.mp hy;obtain ⟨⟨z,e,l⟩,_⟩:=h v hv;unfold wdS;rw [e];exact l
 rw [ae] at this;lia
inductive spTxt (vs:List V)(H:Hp)(Q:VK)(_:XK):Prop
 | mk (b:Int)(L:ak)(xs:List V)(rows:List (List V))(_:vs=[.int b,.ref L])(_:W60 b)(_:H L=some (.lst xs))(_:RwAt H xs rows)(_:rows.length≤70)(_:(∀ r∈rows,r.length≤60∧∀ v∈r,WdOk v))(_:∀ H',bO H H'→Q (.str (planT b rows)) H')
inductive spTms (vs:List V)(H:Hp)(Q:VK)(_:XK):Prop
 | mk (R:ak)(f b a0 a1:Int)(_:vs=[.ref R,.int f,.int b])(_:H R=some (.lst [.int a0,.int a1]))(_:1≤b)(_:∀ L H',bO H H'→H' L=some (.lst [.int f,.int ((f+a0) % b),.int ((f+a0) % b),.int (((f+a0) % b+a1) % b)])→Q (.ref L) H')
inductive spApk (vs:List V)(H:Hp)(Q:VK)(_:XK):Prop
 | mk (b x y g:Int)(_:vs=[.int b,.int x,.int y,.int g])(_:1≤b)(_:Q (.bl (decide (g≤(y - x) % b) && decide ((y - x) % b≤b - g))) H)
def mekB (b far p0 p1 g:Int):Bool:=(decide (p0+g≤far) && decide (p1+g≤b - far)) || (decide (p0+g≤far+b) && decide (p1+g≤b - (far+b)))
inductive spMek (vs:List V)(H:Hp)(Q:VK)(_:XK):Prop
 | mk (b x y p0 p1 g:Int)(R:ak)(_:vs=[.int b,.int x,.int y,.ref R,.int g])(_:H R=some (.lst [.int p0,.int p1]))(_:1≤b)(_:∀ H',bO H H'→Q (.bl (mekB b ((y - x) % b) p0 p1 g)) H')
section
variable {w:aV}
theorem scTxt:bE ["_law_beat","_law_rows","_law_texts","_law_row"] pzt (defScope sTxt):=by trivial
theorem ok_txt (F:Fun K "_law_text" "_law_text" sTxt f fd)(ht:mg "str" =none):cI P w K mg base CX0 1 f fd pzt spTxt:=by
 refine F.ok scTxt (by contradiction) (fun cdv A outer s H vs Q E hr h=>?_);obtain ⟨b,L,xs,rows,rfl,hb,hL,R,few,all,k⟩:=h;refine ⟨_,PSl.h (bf ⟨(psZ 2 scTxt.nd (ja (ah (cn op_add_str fY (dQ j8 rfl ht boot_str (ah (pv 0) aw))) aw)))⟩
  (bf ⟨(iV cJ rfl (ix (pv 1)) (pgZ 3 scTxt.nd) (bp (iw (jc bU cG cF gM (pv 2) (ah (jc c8 PySem.F.slot_str_join PySem.F.type_str_join mt_join fY (ah (hI (fr:=[]) (js:=[]) rfl (ix (pv 3)) (by trivial) rfl (by trivial) rfl (by exists sTxt) (by trivial) rfl (by trivial) (fun _ _ _ _ _=>⟨(dQ call_strA rfl ht boot_str (ah (pv 0) aw)),gp⟩)) aw)) aw)))))⟩
  (fR ⟨(bI (jc c8 PySem.F.slot_str_join PySem.F.type_str_join mt_join fY (ah (pv 2) aw)))⟩))),?_⟩
 have big:(1000000:Nat)≤ar:=by decide
 have lh:(("beat " :Str)++ik b).length≤65:=by
  rw [jF];have:=iR hb;have h5:("beat " :Str).length=5:=by trivial
  lia
 refine ⟨_,rfl,b,rfl,log_60 hb,_,_,rfl,rfl,?_,szZ1,fun M hM=>?_⟩
 ·have:=iR hb
  have h5:("beat " :Str).length=5:=by trivial
  show ("beat " :Str).length+(ik b).length≤_;lia
 have S0:bO H (upd H M (.lst [.str (("beat " :Str)++ik b)])):=bO.put (bO.refl H) hM;have hM0:(upd H M (.lst [.str (("beat " :Str)++ik b)])) M=some (.lst (((("beat " :Str)++ik b)::(rows.take 0).map k6).map V.str)):=by rw [aK];rfl
 refine ⟨_,rfl,L,rfl,⟨_,SqL.of (S0 _ _ hL)⟩,?_⟩;have ML:L≠M:=aJ hL hM;have kx:∀ c o,H c=some o→(upd H M (.lst [.str (("beat " :Str)++ik b)])) c=some o:=fun c o e=>S0 _ _ e
 change ∃ W,_
 generalize hH0:upd H M (.lst [.str (("beat " :Str)++ik b)])=H0 at S0 hM0;have hH0':upd H M (.lst [.str (aY "beat " ++ toString b)])=H0:=hH0;refine for_list (K:=K) (a:=L) (xs:=xs) (fun i σ H2=>(∀ c o,c≠M→H0 c=some o→H2 c=some o)∧H2 M=some (.lst (((("beat " :Str)++ik b)::(rows.take i).map k6).map V.str))∧∃ v3,σ=[some (.int b),some (.ref L),some (.ref M),v3])
  ⟨fun c o _ h=>(by rw [←hH0] at h;exact h),(by rw [←hH0] at hM0;exact hM0),none,rfl⟩ (fun i σ H2 _ q=>SqL.of (q.1 _ _ ML (S0 _ _ hL))) ?_ ?_
 ·rintro i x σ H2 hx ⟨k2,hM2,v3,rfl⟩
  have li:i<rows.length:=by rw [←R.len];exact (ao.mp hx).1
  obtain ⟨r,hr'⟩:∃ r,rows[i]? =some r:=⟨_,gE li⟩;obtain ⟨a,ha,har⟩:=R.get i r hr';rw [hx] at ha;cases ha;obtain ⟨lr,hw⟩:=all r (aG hr');have aM:a≠M:=aJ har hM;have ha2:=k2 _ _ aM (S0 _ _ har);refine ⟨_,rfl,.inl ⟨rfl,_,SqL.of hM2⟩,rfl,_,rfl,a,rfl,⟨_,SqL.of ha2⟩,?_⟩;refine hZ (K:=K) (a:=a) (xs:=r) (fun j zs H3=>H3=H2∧zs=((r.take j).map wdS).map V.str) ⟨rfl,rfl⟩ (fun j zs H3 hj q=>?_) (by lia) (fun j v zs H3 hv q=>?_) (fun zs H3 q D hD=>?_)
  ·obtain ⟨rfl,g2⟩:=q
   exact ⟨SqL.of ha2,by rw [g2,ae,ae,bq];lia⟩
  ·obtain ⟨rfl,g2⟩:=q
   obtain ⟨⟨z,ez,lz⟩,hi⟩:=hw v (aG hv);refine fk ?_;refine ⟨_,rfl,v,z,rfl,ez,fun i e=>log_60 (hi i e),rfl,?_⟩;rw [g2,bS,hv,au,au];show _=_++[V.str (wdS v)];unfold wdS;rw [ez];rfl
  ·obtain ⟨rfl,g2⟩:=q
   rw [bP] at g2;have S4:bO H3 (upd H3 D (.lst zs)):=bO.put (bO.refl _) hD;have hD4:(upd H3 D (.lst zs)) D=some (.lst ((r.map wdS).map V.str)):=by rw [aK,g2]
   generalize upd H3 D (.lst zs)=H4 at S4 hD4 ⊢;refine ⟨_,D,_,rfl,rfl,SqL.of hD4,(by trivial),?_,?_⟩
   ·have:=sum_le (fun x:Str=>x.length) 100 (r.map wdS) fun y hy=>by
     obtain ⟨v,hv,rfl⟩:=bc.mp hy;obtain ⟨⟨z,e,l⟩,_⟩:=hw v hv;unfold wdS;rw [e];exact l
    rw [ae] at this;rw [ae];have:r.length * 100≤60 * 100:=Nat.mul_le_mul_right _ lr;lia
   have hM4:=S4 _ _ hM2;refine ⟨M,_,_,rfl,rfl,hM4,(by simp only [ae,aP,bq];lia),?_⟩;refine ⟨fun c o hc e=>by rw [aR hc];exact S4 _ _ (k2 _ _ hc e),?_,_,rfl⟩;rw [aK,bS,hr',au];show some (HO.lst (_++[V.str (k6 r)]))=_;rw [←List.cons_append,au];rfl
 ·rintro σ H2 ⟨k2,hM2,v3,rfl⟩
  rw [R.len,bP] at hM2;refine ⟨rfl,_,rfl,_,M,_,rfl,rfl,SqL.of hM2,(by trivial),?_,k H2 fun c o e=>k2 c o (aJ e hM) (S0 _ _ e)⟩;have:=sum_le (fun x:Str=>x.length) 7000 ((("beat " :Str)++ik b)::rows.map k6) fun y hy=>by
   rcases aq.mp hy with e | hy
   ·subst e;lia
   ·obtain ⟨r,hr,rfl⟩:=bc.mp hy
    exact rowW_len (all r hr).2 (all r hr).1
  simp only [aP,ae] at this ⊢;have:(rows.length+1) * 7000≤71 * 7000:=Nat.mul_le_mul_right _ (by lia);lia
end
abbrev sTwT:b8:=top 60
theorem ip (h:xs.length≠ys.length):HO.lst xs≠HO.lst ys:=fun z=>h (by injection z with z;rw [z])
def tmI (b f a0 a1:Int):List Int:=[f,(f+a0) % b,(f+a0) % b,((f+a0) % b+a1) % b]
inductive spTwT (vs:List V)(H:Hp)(Q:VK)(_:XK):Prop
 | mk (p R A B S T:ak)(n b g a0 a1 b0 b1 p0 p1:Int)(i0 i1:Nat)(_:vs=[.ref p,.int b,.ref R,.ref S,.ref T,.int g])(_:H p=some (.lst [.int n]))(_:1≤b)(_:b<10 ^ 61)(_:H R=some (.lst [.ref A,.ref B]))(_:H A=some (.lst [.int a0,.int a1]))(_:H B=some (.lst [.int b0,.int b1]))(_:H S=some (.lst [.int (i0:Nat),.int (i1:Nat)]))(_:i0<4)(_:i1<4)(_:H T=some (.lst [.int p0,.int p1]))(_:∀ (q L1 L2:ak) (f m:Int) (H':Hp),Mv p H H'→0≤f→f<b→H' q=some (.tup [.ref L1,.ref L2])→H' L1=some (.lst ((tmI b f a0 a1).map V.int))→H' L2=some (.lst (((tmI b 0 b0 b1).map fun t=>(t+m) % b).map V.int))→Q (.ref q) H')
section
variable {w:aV}
theorem scTms:bE ["_law_rides","_law_first","_law_beat","_law_times","_law_ride_here"] pzu (defScope sTms):=by trivial
theorem ok_tms (F:Fun K "_law_line_times" "_law_line_times" sTms f fd):cI P w K mg base CX0 1 f fd pzu spTms:=by
 refine F.ok scTms (by contradiction) (fun cdv A outer s H vs Q E hr h=>?_);obtain ⟨R,f,b,a0,a1,rfl,hR,hb,k⟩:=h;refine ⟨_,PSl.h (bf ⟨(psZ 3 scTms.nd (iQ (ah (pv 1) aw)))⟩
  (bf ⟨(iV cJ rfl (ix (pv 0)) (pgZ 4 scTms.nd) (bp (psZ 3 scTms.nd (cn jD (pv 3) (cn op_rep (iQ (ah (cn iH (cn eN (dO bh (pv 3) (pe_un un_neg aT) (fun _ _=>rfl)) (pv 4)) (pv 2)) aw)) aT)))))⟩
  (fR ⟨(bI (gc jM (pv 3) hE (gH (pe_un un_neg aT))))⟩))),?_⟩
 refine ⟨_,rfl,szZ1,fun L0 H1 S1 h1=>?_⟩;refine ⟨_,rfl,R,rfl,⟨_,SqL.of (S1 _ _ hR)⟩,?_⟩;refine for_list (K:=K) (a:=R) (xs:=[.int a0,.int a1]) (fun i σ H2=>bO H1 H2∧∃ L v4,σ=[some (.ref R),some (.int f),some (.int b),some (.ref L),v4]∧H2 L=some (.lst (((([f,(f+a0) % b,(f+a0) % b,((f+a0) % b+a1) % b,((f+a0) % b+a1) % b]:List Int)).take (2 * i+1)).map V.int)))
  ⟨bO.refl _,L0,none,rfl,h1⟩ (fun i σ H2 _ q=>SqL.of (q.1 _ _ (S1 _ _ hR))) ?_ ?_
 ·rintro i x σ H2 hx ⟨S2,L,v4,rfl,hL⟩
  match i,hx with
  | 0,hx =>
   cases hx;have hL:H2 L=some (.lst [.int f]):=hL;refine ⟨_,rfl,_,rfl,⟨1,rfl,L,_,_,_,rfl,rfl,SqL.of hL,rfl,?_⟩⟩;refine ⟨_,rfl,_,_,rfl,rfl,_,rfl,_,_,rfl,rfl,(by lia),szZ1,fun L2 H3 S3 h3=>?_⟩;refine ⟨L2,2,_,rfl,rfl,h3,(by decide),(by decide),(by show 1 * 2≤ar;decide),fun L3 hL3=>?_⟩;have S4:bO H3 (upd H3 L3 (.lst (bV 2 [V.int ((f+a0) % b)]).flatten)):=bO.put (bO.refl _) hL3;refine ⟨L,L3,_,_,rfl,rfl,S4 _ _ (S3 _ _ hL),aK,(by show 1+2≤ar;decide),fun L5 H5 S5 h5=>?_⟩;exact ⟨S2.trans (S3.trans (S4.trans S5)),L5,_,rfl,h5⟩
  | 1,hx =>
   cases hx;have hL:H2 L=some (.lst [.int f,.int ((f+a0) % b),.int ((f+a0) % b)]):=hL;refine ⟨_,rfl,_,rfl,⟨1,rfl,L,_,_,_,rfl,rfl,SqL.of hL,rfl,?_⟩⟩;refine ⟨_,rfl,_,_,rfl,rfl,_,rfl,_,_,rfl,rfl,(by lia),szZ1,fun L2 H3 S3 h3=>?_⟩;refine ⟨L2,2,_,rfl,rfl,h3,(by decide),(by decide),(by show 1 * 2≤ar;decide),fun L3 hL3=>?_⟩;have S4:bO H3 (upd H3 L3 (.lst (bV 2 [V.int (((f+a0) % b+a1) % b)]).flatten)):=bO.put (bO.refl _) hL3;refine ⟨L,L3,_,_,rfl,rfl,S4 _ _ (S3 _ _ hL),aK,(by show 3+2≤ar;decide),fun L5 H5 S5 h5=>?_⟩;exact ⟨S2.trans (S3.trans (S4.trans S5)),L5,_,rfl,h5⟩
  | i+2,hx=>cases hx
 ·rintro σ H2 ⟨S2,L,v4,rfl,hL⟩
  have hL:H2 L=some (.lst [.int f,.int ((f+a0) % b),.int ((f+a0) % b),.int (((f+a0) % b+a1) % b),.int (((f+a0) % b+a1) % b)]):=hL;exact ⟨_,rfl,_,rfl,_,rfl,L,_,rfl,SqL.of hL,fun L6 H6 S6 h6=>k L6 H6 (S1.trans (S2.trans S6)) h6⟩
theorem scApk:bE ["_law_beat","_law_one","_law_other","_law_gap","_law_far"] pzv (defScope sApk):=by trivial
theorem ok_apk (F:Fun K "_law_apart_kept" "_law_apart_kept" sApk f fd):cI P w K mg base CX0 1 f fd pzv spApk:=by
 refine F.ok scApk (by contradiction) (fun cdv A outer s H vs Q E hr h=>?_);obtain ⟨b,x,y,g,rfl,hb,k⟩:=h;refine ⟨_,PSl.h (bf ⟨(psZ 4 scApk.nd (cn iH (cn eM (pv 2) (pv 1)) (pv 0)))⟩
  (fR ⟨(bI (pe_chain op_le op_le (pv 3) (pv 4) (cn eM (pv 0) (pv 3))))⟩)),?_⟩
 refine ⟨_,rfl,_,rfl,_,_,rfl,rfl,_,rfl,_,_,rfl,rfl,(by lia),?_⟩;refine ⟨_,rfl,_,rfl,_,_,rfl,rfl,_,rfl,jG (fun h1=>?_) (fun h1=>?_)⟩
 ·refine ⟨_,rfl,_,rfl,_,_,rfl,rfl,_,_,rfl,rfl,?_⟩
  have h1:decide (g≤(y - x) % b)=true:=h1;rw [h1,gn] at k;exact k
 ·have h1:decide (g≤(y - x) % b)=false:=by simpa using h1
  rw [h1,gK] at k;exact k
theorem scMek:bE ["_law_beat","_law_one","_law_other","_law_rides","_law_gap","_law_far","_law_there"] pzw (defScope sMek):=by trivial
theorem ok_mek (F:Fun K "_law_meet_kept" "_law_meet_kept" sMek f fd):cI P w K mg base CX0 1 f fd pzw spMek:=by
 refine F.ok scMek (by contradiction) (fun cdv A outer s H vs Q E hr h=>?_);obtain ⟨b,x,y,p0,p1,g,R,rfl,hR,hb,k⟩:=h;refine ⟨_,PSl.h (bf ⟨(psZ 5 scMek.nd (cn iH (cn eM (pv 2) (pv 1)) (pv 0)))⟩
  (bf ⟨(iV cJ rfl (ix (iQ (ah (pv 5) (ah (cn eN (pv 5) (pv 0)) aw)))) (pgZ 6 scMek.nd) (bp (fQ (PW.pt (pw_and (cD op_ge (pv 6) (cn eN (dO bh (pv 3) aT (fun _ _=>rfl)) (pv 4)) (cP _)) (pw_and1 (cD op_ge (cn eM (pv 0) (pv 6)) (cn eN (dO bh (pv 3) aT (fun _ _=>rfl)) (pv 4)) (cP _))))) (bp (bI ki)) cM)))⟩
  (fR ⟨(bI ki)⟩))),?_⟩
 refine ⟨_,rfl,_,rfl,_,_,rfl,rfl,_,rfl,_,_,rfl,rfl,(by lia),?_⟩;obtain ⟨fr,ef⟩:∃ fr,(y - x) % b=fr:=⟨_,rfl⟩;rw [ef] at k;show jq 5 (V.int ((y - x) % b)) _ _ _;rw [ef];refine ⟨_,rfl,_,rfl,_,rfl,_,_,rfl,rfl,szZ2,fun L H1 S1 h1=>⟨L,rfl,⟨_,SqL.of h1⟩,?_⟩⟩;refine for_list (K:=K) (a:=L) (xs:=[.int fr,.int (fr+b)]) (fun i σ H2=>H2=H1∧(1≤i→(decide (p0+g≤fr) && decide (p1+g≤b - fr))=false)∧(2≤i→(decide (p0+g≤fr+b) && decide (p1+g≤b - (fr+b)))=false)∧∃ v6,σ=[some (V.int b),some (.int x),some (.int y),some (.ref R),some (.int g),some (.int fr),v6])
  ⟨rfl,fun h=>lK h (by decide),fun h=>lK h (by decide),none,rfl⟩ (fun i σ H2 _ q=>by rw [q.1];exact SqL.of h1) ?_ ?_
 ·rintro i v σ H2 hv ⟨rfl,n1,n2,v6,rfl⟩
  have hR1:=S1 _ _ hR;obtain ⟨t,et,hi⟩:∃ t:Int,v= .int t∧((i=0∧t=fr)∨(i=1∧t=fr+b)):=by
   match i,hv with
   | 0,hv=>cases hv;exact ⟨_,rfl,.inl ⟨rfl,rfl⟩⟩
   | 1,hv=>cases hv;exact ⟨_,rfl,.inr ⟨rfl,rfl⟩⟩
   | i+2,hv=>cases hv
  subst et;have no:(decide (p0+g≤t) && decide (p1+g≤b - t))=false→(1≤i+1→(decide (p0+g≤fr) && decide (p1+g≤b - fr))=false)∧(2≤i+1→(decide (p0+g≤fr+b) && decide (p1+g≤b - (fr+b)))=false):=fun e=>by
   rcases hi with ⟨rfl,rfl⟩ | ⟨rfl,rfl⟩
   ·exact ⟨fun _=>e,fun h=>lK h (by decide)⟩
   ·exact ⟨fun _=>n1 (by decide),fun _=>e⟩
  refine ⟨_,rfl,_,rfl,R,_,_,_,rfl,rfl,SqL.of hR1,aC (j:=0) rfl,_,rfl,_,_,rfl,rfl,_,_,rfl,rfl,_,rfl,jG (fun c1=>?_) (fun c1=>?_)⟩
  ·have c1:decide (p0+g≤t)=true:=c1
   refine ⟨_,rfl,_,rfl,_,_,rfl,rfl,_,rfl,R,_,_,_,rfl,rfl,SqL.of hR1,aC (j:=1) rfl,_,rfl,_,_,rfl,rfl,_,_,rfl,rfl,_,rfl,jG (fun c2=>?_) (fun c2=>?_)⟩
   ·have c2:decide (p1+g≤b - t)=true:=c2
    have e:mekB b fr p0 p1 g=true:=by
     unfold mekB
     rcases hi with ⟨_,rfl⟩ | ⟨_,rfl⟩
     ·rw [c1,c2];rfl
     ·rw [c1,c2];simp
    have:=k H2 S1;rw [e] at this;exact this
   ·have c2:decide (p1+g≤b - t)=false:=by simpa using c2
    obtain ⟨m1,m2⟩:=no (by rw [c1,c2];rfl);exact ⟨rfl,m1,m2,_,rfl⟩
  ·have c1:decide (p0+g≤t)=false:=by simpa using c1
   obtain ⟨m1,m2⟩:=no (by rw [c1];rfl);exact ⟨rfl,m1,m2,_,rfl⟩
 ·rintro σ H2 ⟨rfl,n1,n2,v6,rfl⟩
  have e:mekB b fr p0 p1 g=false:=by unfold mekB;rw [n1 (by simp),n2 (by simp)];rfl
  have:=k H2 S1;rw [e] at this;exact this
theorem scTwT:bE ["_law_pot_here","_law_beat","_law_rides","_law_places","_law_pair","_law_gap","_law_one","_law_near","_law_step","_law_other","_law_move"] pzx (defScope sTwT):=by trivial
theorem ok_twT (F:Fun K "_law_two_tables" "_law_two_tables" sTwT f fd)(G1:Fn K mg "_law_take" sTake pzh f1 fd1)(G2:Fn K mg "_law_line_times" sTms pzu f2 fd2):cI P w K mg base CX0 2 f fd pzx spTwT:=by
 have F1:cI P w K mg base CX0 1 f1 fd1 pzh spTake:=ok_take G1.F;have F2:cI P w K mg base CX0 1 f2 fd2 pzu spTms:=ok_tms G2.F;refine F.ok scTwT (by contradiction) (fun cdv A outer s H vs Q E hr h=>?_);obtain ⟨p,R,A',B,S,T,n,b,g,a0,a1,b0,b1,p0,p1,i0,i1,rfl,hp,hb,hb2,hR,hA,hB,hS,l0,l1,hT,k⟩:=h;refine ⟨_,PSl.h (bf ⟨(psZ 6 scTwT.nd (pc1 G2 F2 hr (ah (dO bh (pv 2) aT (fun _ _=>rfl)) (ah (pc1 G1 F1 hr (ah (pv 0) (ah (pv 1) aw))) (ah (pv 1) aw)))))⟩
  (bf ⟨(psZ 7 scTwT.nd (PEs.h (k_lst (cT ⟨pv 5⟩ (cT (k_op eM ff ⟨pv 5⟩) (cT (k_op eM ⟨pv 5⟩ ff) (cT (k_op eN (jo bh ⟨pv 4⟩ ff (fun _ _=>rfl)) ⟨pv 5⟩) (cT (k_op eM (k_op eN (jo bh ⟨pv 4⟩ ff (fun _ _=>rfl)) ⟨pv 5⟩) ff) (cT (k_op eM (k_op eM ff (jo bh ⟨pv 4⟩ ff (fun _ _=>rfl))) ⟨pv 5⟩) (cT (k_op eM (k_op eM ff (jo bh ⟨pv 4⟩ ff (fun _ _=>rfl))) ⟨pv 5⟩) a_nil))))))))))⟩
  (bf ⟨(psZ 8 scTwT.nd (dO bh (cn jD (pv 7) (iQ (ah (pc1 G1 F1 hr (ah (pv 0) (ah (pv 1) aw))) aw))) (pc1 G1 F1 hr (ah (pv 0) (ah aT aw))) (fun _ _=>rfl)))⟩
  (bf ⟨(psZ 9 scTwT.nd (pc1 G2 F2 hr (ah (dO bh (pv 2) aT (fun _ _=>rfl)) (ah aT (ah (pv 1) aw)))))⟩
  (bf ⟨(psZ 10 scTwT.nd (cn eM (cn eN (dO bh (pv 6) (dO bh (pv 3) aT (fun _ _=>rfl)) (fun _ _=>rfl)) (pv 8)) (dO bh (pv 9) (dO bh (pv 3) aT (fun _ _=>rfl)) (fun _ _=>rfl))))⟩
  (fR ⟨(bI (gq (ah (pv 6) (ah (hI (fr:=["_law_beat","_law_move"]) (js:=[1,10]) rfl (ix (pv 9)) (by trivial) rfl (by trivial) rfl (by exists sTwT) (by trivial) rfl (by trivial) (fun _ _ _ _ _=>⟨(cn iH (cn eN (pv 0) (pv 2)) (pv 1)),gp⟩)) aw))))⟩)))))),?_⟩
 have two:∀ {c:ak} {xs:List V},xs.length≠1→H c=some (.lst xs)→c≠p:=fun h e=>cV e hp (ip h)
 refine ⟨_,rfl,R,_,_,_,rfl,rfl,SqL.of hR,aC (j:=0) rfl,_,rfl,_,rfl,p,n,b,rfl,hp,(by lia),hb2,fun f0 H1 c0 c1 M1=>?_⟩;have hA1:=M1.1 _ _ (two (by simp) hA) hA;refine ⟨_,rfl,A',f0,b,a0,a1,rfl,hA1,hb,fun L1 H2 S2 h2=>?_⟩;have M2:=M1.then S2;have hT2:=M2.1 _ _ (two (by simp) hT) hT;refine ⟨_,rfl,_,rfl,_,_,rfl,rfl,_,rfl,_,_,rfl,rfl,_,rfl,T,_,_,_,rfl,rfl,SqL.of hT2,aC (j:=0) rfl,_,rfl,_,_,rfl,rfl,_,rfl,T,_,_,_,rfl,rfl,SqL.of hT2,aC (j:=0) rfl,_,rfl,_,_,rfl,rfl,_,_,rfl,rfl,?_⟩;refine ⟨_,rfl,T,_,_,_,rfl,rfl,SqL.of hT2,aC (j:=1) rfl,_,_,rfl,rfl,_,rfl,_,_,rfl,rfl,_,rfl,T,_,_,_,rfl,rfl,SqL.of hT2,aC (j:=1) rfl,_,_,rfl,rfl,_,rfl,_,_,rfl,rfl,(by show 7≤ar;decide),fun N H3 S3 h3=>?_⟩;have M3:=M2.then S3;obtain ⟨n3,hp3⟩:=M3.2;obtain ⟨ws,ew,lw⟩:∃ ws:List Int,H3 N=some (.lst (ws.map V.int))∧ws.length=7:=⟨[g,0 - g,g - 1,p0+g,p0+g - 1,0 - p1 - g,1 - p1 - g],h3,rfl⟩;clear h3;have nN:N≠p:=cV ew hp3 (ip (by rw [ae,lw];simp));refine ⟨_,rfl,_,rfl,_,rfl,p,n3,b,rfl,hp3,(by lia),hb2,fun t0 H4 _ _ M4=>?_⟩;refine ⟨szZ1,fun N2 H5 S5 h5=>?_⟩;have ew5:=S5 _ _ (M4.1 _ _ nN ew);have M5:=(M3.trans M4).then S5;refine ⟨N,N2,_,_,rfl,rfl,ew5,h5,(by rw [ae,lw];show 7+1≤ar;decide),fun N3 H6 S6 h6=>?_⟩;have M6:=M5.then S6;obtain ⟨n6,hp6⟩:=M6.2;have h6:H6 N3=some (.lst ((ws++[t0]).map V.int)):=by rw [au];exact h6
 have nN3:N3≠p:=cV h6 hp6 (ip (by rw [ae,av,lw];simp));refine ⟨_,rfl,p,n6,8,rfl,hp6,(by decide),(by decide),fun r H7 r0 r1 M7=>?_⟩;have h7:=M7.1 _ _ nN3 h6;obtain ⟨v,e1,e2⟩:=atI_in (xs:=(ws++[t0]).map V.int) r0 (by rw [ae,av,lw];show r<8;lia);obtain ⟨st,_,rfl⟩:=bc.mp e2;refine ⟨N3,_,_,_,rfl,rfl,SqL.of h7,e1,?_⟩;have S5':=S5;clear e1 e2 h7 h6 nN3 ew5 h5 S5 nN ew lw;have M7':=M7;have M7:=M6.trans M7;have hR7:=M7.1 _ _ (two (by simp) hR) hR;have hB7:=M7.1 _ _ (two (by simp) hB) hB;have nL1:H2 L1=some (.lst ((tmI b f0 a0 a1).map V.int)):=h2;refine ⟨_,rfl,R,_,_,_,rfl,rfl,SqL.of hR7,aC (j:=1) rfl,_,rfl,B,0,b,b0,b1,rfl,hB7,hb,fun L2 H8 S8 h8=>?_⟩;have M8:=M7.then S8;obtain ⟨n2,hp2⟩:=M2.2;have nL:L1≠p:=cV nL1 hp2 (ip (by rw [ae];simp [tmI]));have M28:Mv p H2 H8:=((((Mv.of S3 hp3).trans M4).then (S5'.trans S6)).trans M7').then S8;have h18:=M28.1 _ _ nL nL1;have hS8:=M8.1 _ _ (two (by simp) hS) hS;obtain ⟨x1,hx1⟩:∃ x,(tmI b f0 a0 a1)[i0]? =some x:=⟨_,gE (by show i0<4;exact l0)⟩;obtain ⟨x2,hx2⟩:∃ x,(tmI b 0 b0 b1)[i1]? =some x:=⟨_,gE (by show i1<4;exact l1)⟩;have h8':H8 L2=some (.lst ((tmI b 0 b0 b1).map V.int)):=h8;refine ⟨_,rfl,_,rfl,S,_,_,_,rfl,rfl,SqL.of hS8,aC (j:=0) rfl,L1,_,_,_,rfl,rfl,SqL.of h18,aC (j:=i0) (by rw [aD,hx1];rfl),_,rfl,_,_,rfl,rfl,_,rfl,_,rfl,S,_,_,_,rfl,rfl,SqL.of hS8,aC (j:=1) rfl,L2,_,_,_,rfl,rfl,SqL.of h8',aC (j:=i1) (by rw [aD,hx2];rfl),_,_,rfl,rfl,?_⟩;obtain ⟨m,em⟩:∃ m,x1+st - x2=m:=⟨_,rfl⟩;show jq 10 (V.int (x1+st - x2)) _ _ _;rw [em];refine ⟨_,rfl,_,rfl,L2,rfl,⟨_,SqL.of h8'⟩,?_⟩;refine hZ (K:=K) (a:=L2) (xs:=(tmI b 0 b0 b1).map V.int) (fun j zs H9=>H9=H8∧zs=(((tmI b 0 b0 b1).take j).map fun t=>(t+m) % b).map V.int) ⟨rfl,rfl⟩ (fun j zs H9 hj q=>?_) (by rw [ae];show 4≤ar;decide) (fun j v zs H9 hv q=>?_) (fun zs H9 q D hD=>?_)
 ·obtain ⟨rfl,g2⟩:=q
  exact ⟨SqL.of h8',by rw [g2,ae,ae,bq];lia⟩
 ·obtain ⟨rfl,g2⟩:=q
  rw [aD] at hv;obtain ⟨x,hx,rfl⟩:=aN.mp hv;refine fk ?_;refine ⟨_,rfl,_,rfl,_,_,rfl,rfl,_,rfl,_,_,rfl,rfl,(by lia),rfl,?_⟩;rw [g2,bS,hx,au,au];rfl
 ·obtain ⟨rfl,g2⟩:=q
  rw [ae,bP] at g2;have S9:bO H9 (upd H9 D (.lst zs)):=bO.put (bO.refl _) hD;have hD9:(upd H9 D (.lst zs)) D=some (.lst (((tmI b 0 b0 b1).map fun t=>(t+m) % b).map V.int)):=by rw [aK,g2]
  generalize upd H9 D (.lst zs)=Ha at S9 hD9 ⊢;refine ⟨szZ2,fun q Hb Sb eb=>?_⟩;exact k q L1 D f0 m Hb ((M8.then S9).then Sb) c0 c1 eb (Sb _ _ (S9 _ _ h18)) (Sb _ _ hD9)
end
end HN
namespace L2
open PySem PySem.Spec PyProof.Rows
theorem pick_backL (its:List af):slicePick its.toArray none none (some (-1))=its.reverse.toArray:=by
 unfold slicePick;have e0:gk none none (some (-1)) its.toArray.size=((its.length:Int) - 1,-1,-1):=by
  rw [ay];rfl
 rw [e0];show ((sliceRange ((its.length:Int) - 1) (-1) (-1)).filterMap (its.toArray[·]?)).toArray=_;unfold sliceRange;have ec:(if (-1:Int) > 0 then (if (its.length:Int) - 1< -1 then (-1 - ((its.length:Int) - 1)+ -1 - 1) / -1 else 0) else (if (its.length:Int) - 1 > -1 then ((its.length:Int) - 1 - -1 - -1 - 1) / (- -1) else 0))=(its.length:Int):=by
  rw [lI (by decide),show -(-1:Int)=1 from rfl,Int.ediv_one];split <;> lia
 show (((bH (if (-1:Int) > 0 then (if (its.length:Int) - 1< -1 then (-1 - ((its.length:Int) - 1)+ -1 - 1) / -1 else 0) else (if (its.length:Int) - 1 > -1 then ((its.length:Int) - 1 - -1 - -1 - 1) / (- -1) else 0)).toNat).map fun (k:Nat)=>((its.length:Int) - 1+ -1 * (k:Int)).toNat).filterMap (its.toArray[·]?)).toArray=_;rw [ec,dE,List.filterMap_map];have h:=pick_back its.toArray;rw [ay] at h;congr 1;rw [←h];refine lO (fun f=>List.filterMap f (bH its.length)) (funext fun k=>?_);show its.toArray[((its.length:Int) - 1+ -1 * (k:Int)).toNat]? =its.toArray[((its.length:Int) - 1+(k:Int) * (-1)).toNat]?;rw [Int.mul_comm]
def tBackL (te:TE):TE:=fun σ H Q=>te σ H fun x H1=>∃ a xs,x= .ref a∧H1 a=some (.lst xs)∧New H1 (.lst xs.reverse) Q
theorem pe_backL {p1 p3:Pos}{j}(he:PE X e te):PE X (.Subscript e (.Slice none none (some (.UnaryOp .USub (.Constant (.int 1) j p3) p1)) p2) pos) (tBackL te):=by
 intro az s σ H Q I h;refine Subscript_ (thn (he az s σ H _ I h) fun v s1 ⟨x,H1,I1,r1,q1⟩=>?_);obtain ⟨a,xs,rfl,hx,q⟩:=q1;refine wpAny_Slice ?_;rw [evalPart_none,evalPart_some];refine ax (ax ?_);refine thn ((pe_un un_neg aT:PE X (.UnaryOp .USub (.Constant (.int 1) j p3) p1) _) az s1 σ H1 (fun x H2=>x= .int (-1)∧H2=H1) I1 ⟨_,rfl,rfl,rfl⟩) fun u s2 ⟨x2,H2,I2,r2,e2,e3⟩=>?_
 subst e2 e3;obtain ⟨t,rfl⟩:=r2;cases r1;have I4:Inv X az σ H2 { s2 with heap:=s2.heap.push { cls:= .type "slice",data:= .fields #[.none,.none,.int (-1) t] } }:=I2.kept (t':=s2.toks) fun b ob q=>aj _ q
 obtain ⟨its,r,ht,hz⟩:=I4.list (SqL.of (K:=X.K) hx);have hlen:its.length=xs.length:=r.length.symm;refine tail_any (ops:=[.ref a,.ref s2.heap.objs.size]) ht.isList.typeIs jh.lookup (jn ht.isList (bj.IsSliceOf.new ..) .none .none (.int (-1) t) (by decide) ?_ (by rw [ay,hlen];exact hz)) (by with_unfolding_all rfl);rw [pick_backL];refine ⟨.ref _,_,I4.laid (t':=s2.toks) (o:= .lst xs.reverse) (fun _ _ z=>aj _ z) (aH _) ⟨by rw [List.length_reverse];exact hz,its.reverse,0,vals_back r,aA _ rfl⟩,rfl,q.of _ I4.fresh⟩
end L2
namespace HN
open PySem L2 PyProof.Rows HT2
abbrev sTwL:b8:=top 59
theorem hfr_in2 {inner:Scope}{y:Str}(hk:env.scope.kind= .function)(hx:env.kindOf x=some .cell)(hn:scope.names.lookup x=some .free)(hx2:env.kindOf y=some .cell)(hn2:scope.names.lookup y=some .free)(hi:∀ z∈inner.names,z.2= .free→z.1=x∨z.1=y):∀ z∈inner.names,z.2= .free→(relabel scope env).names.lookup z.1=some .cell:=fun z hz hf=>by
 rcases hi z hz hf with e | e <;> rw [e]
 ·exact ij hk hx hn
 ·exact ij hk hx2 hn2
structure D9 (x:Int):Prop where
 a:0≤x
 b:x≤9
abbrev jY (n s0 s1 s2:Str)(a0 a1:Int):List V:=[.str "line",.str n,.str s0,.int a0,.str s1,.int a1,.str s2]
inductive spTwL (K:ai)(vs:List V)(H:Hp)(Q:VK)(_:XK):Prop
 | mk (a N S:ak)(ns:List Int)(n1 n2 s0 s1 s2:Str)(b:Int)(bk:Bool)(_:vs=[.ref a,.ref N,.ref S,.int b,.bl bk])(_:SqL K H a (ns.map V.int))(_:H N=some (.lst [.str n1,.str n2]))(_:H S=some (.lst [.str s0,.str s1,.str s2]))(_:0≤b)(_:∀ (q LL R r1 r2 A B:ak) (a0 a1 b0 b1:Int) (H':Hp),bO H H'→H' q=some (.tup [.ref LL,.ref R])→H' LL=some (.lst [.ref r1,.ref r2])→H' r1=some (.lst (jY n1 s0 s1 s2 a0 a1))→H' r2=some (.lst (jY n2 (if bk then s2 else s0) s1 (if bk then s0 else s2) b0 b1))→H' R=some (.lst [.ref A,.ref B])→H' A=some (.lst [.int a0,.int a1])→H' B=some (.lst [.int b0,.int b1])→D9 a0→D9 a1→D9 b0→D9 b1→Q (.ref q) H')
section
variable {w:aV}
theorem scTwL:bE ["_law_script","_law_names_here","_law_stops","_law_beat","_law_back","_law_pot_here","_law_rides","_law_others","_law_lines_here"] pzy (defScope sTwL):=by trivial
theorem ok_twL (F:Fun K "_law_two_lines" "_law_two_lines" sTwL f fd)(T:Nm mg)(T2:Nt mg)(hint:mg "int" =none)(G1:Fn K mg "_law_take" sTake pzh f1 fd1)(G2:Fn K mg "_law_pot" sPotT pze f2 fd2)(F2:cI P w K mg base CX0 2 f2 fd2 pze (spPotT K)):cI P w K mg base CX0 3 f fd pzy (spTwL K):=by
 have F1:cI P w K mg base CX0 1 f1 fd1 pzh spTake:=ok_take G1.F;refine F.ok scTwL (by contradiction) (fun cdv A outer s H vs Q E hr h=>?_);obtain ⟨a,N,S,ns,n1,n2,s0,s1,s2,b,bk,rfl,ha,hN,hS,hb,k⟩:=h;have hr1:iZ 1 _:=hr.mono (by decide);refine ⟨_,PSl.h (bf ⟨(psZ 5 scTwL.nd (pc1 G2 F2 hr (ah (pv 0) (ah aT aw))))⟩
  (bf ⟨(ps_setC (iy:=6) (fr:=["_law_pot_here","_law_beat"]) (js:=[5,3]) scTwL.nd rfl (.inl rfl) rfl (iF rfl T2.range (ah aT aw)) (by trivial) rfl (by trivial) rfl (by exists sTwL) (by trivial) rfl (by trivial) (fun _ _ _ _ _=>⟨(by exact hI (fr:=["_law_pot_here","_law_beat"]) (js:=[1,2]) rfl (iF rfl T2.range (ah aT aw)) (by trivial) rfl (by trivial) rfl (hfr_in2 (x := "_law_pot_here") (y := "_law_beat") rfl rfl rfl rfl rfl (by trivial)) (by trivial) rfl (by trivial) (fun _ _ _ _ _=>⟨(pc1 G1 F1 hr1 (ah (pv 1) (ah (cn eN (cw (kX rfl) rfl T.min boot_min (ah (cn op_fdiv (pv 2) aT) (ah aT aw))) aT) aw))),gp⟩)),gp⟩))⟩
  (bf ⟨(psZ 7 scTwL.nd (PEs.h (jo bh (k_lst (cT ⟨pv 2⟩ (cT ⟨pe_backL (pv 2)⟩ a_nil))) ⟨dQ kY rfl hint boot_int (ah (pv 4) aw)⟩ (fun _ _=>rfl))))⟩
  (bf ⟨(psZ 8 scTwL.nd (ja (ah (PEs.h (k_lst (cT k_str (cT (jo bh ⟨pv 1⟩ ff (fun _ _=>rfl)) (cT (jo bh ⟨pv 2⟩ ff (fun _ _=>rfl)) (cT (jo bh (jo bh ⟨pv 6⟩ ff (fun _ _=>rfl)) ff (fun _ _=>rfl)) (cT (jo bh ⟨pv 2⟩ ff (fun _ _=>rfl)) (cT (jo bh (jo bh ⟨pv 6⟩ ff (fun _ _=>rfl)) ff (fun _ _=>rfl)) (cT (jo bh ⟨pv 2⟩ ff (fun _ _=>rfl)) a_nil))))))))) aw)))⟩
  (bf ⟨(iw (jc bU cG cF gM (pv 8) (ah (PEs.h (k_lst (cT k_str (cT (jo bh ⟨pv 1⟩ ff (fun _ _=>rfl)) (cT (jo bh ⟨pv 7⟩ ff (fun _ _=>rfl)) (cT (jo bh (jo bh ⟨pv 6⟩ ff (fun _ _=>rfl)) ff (fun _ _=>rfl)) (cT (jo bh ⟨pv 7⟩ ff (fun _ _=>rfl)) (cT (jo bh (jo bh ⟨pv 6⟩ ff (fun _ _=>rfl)) ff (fun _ _=>rfl)) (cT (jo bh ⟨pv 7⟩ ff (fun _ _=>rfl)) a_nil))))))))) aw)))⟩
  (fR ⟨(bI (gq (ah (pv 8) (ah (pv 6) aw))))⟩)))))),?_⟩
 refine ⟨_,rfl,a,ns,3,rfl,ha,by decide,by decide,fun n p hp=>?_⟩;have S1:bO H (upd H p (.lst [.int n])):=bO.put (bO.refl H) hp;have h1:(upd H p (.lst [.int n])) p=some (.lst [.int n]):=aK;generalize upd H p (.lst [.int n])=H1 at S1 h1 ⊢;refine ⟨2,rfl,by decide,by decide,?_⟩;refine jk (n:=2) (fun i zs H4=>Mv p H1 H4∧∃ rr:List (ak×Int×Int),zs=rr.map (fun r=>V.ref r.1)∧rr.length=i∧∀ r∈rr,H4 r.1=some (.lst [.int r.2.1,.int r.2.2])∧D9 r.2.1∧D9 r.2.2) ⟨Mv.of (bO.refl _) h1,[],rfl,rfl,fun _ h=>lK h (by simp)⟩ (fun i zs H4 _ q=>by obtain ⟨_,rr,e,hl,_⟩:=q;rw [e,ae,hl];exact aH _) (by decide) (fun i zs H4 hi q=>?_) (fun zs H4 q R hR=>?_)
 ·obtain ⟨M4,rr,e4,hl4,all4⟩:=q
  refine fk ?_;refine ⟨2,rfl,by decide,by decide,?_⟩;refine jk (n:=2) (fun j ys H5=>Mv p H4 H5∧∃ xs:List Int,ys=xs.map V.int∧xs.length=j∧∀ x∈xs,D9 x) ⟨⟨fun c o _ e=>e,M4.2⟩,[],rfl,rfl,fun _ h=>lK h (by simp)⟩ (fun j ys H5 _ q=>by obtain ⟨_,xs,e,hl,_⟩:=q;rw [e,ae,hl];exact aH _) (by decide) (fun j ys H5 hj q=>?_) (fun ys H5 q D hD=>?_)
  ·obtain ⟨M5,xs,e5,hl5,all5⟩:=q
   obtain ⟨n5,hp5⟩:=M5.2;refine fk ?_;refine ⟨_,rfl,_,rfl,_,_,rfl,rfl,⟨by decide,by decide⟩,_,_,rfl,_,_,rfl,rfl,p,n5,_,rfl,hp5,?_,?_,fun r H6 r0 r1 M6=>?_⟩
   ·show 0<(if (9:Int)<b / 2 then (9:Int) else b / 2)+1
    split <;> lia
   ·show (if (9:Int)<b / 2 then (9:Int) else b / 2)+1<10 ^ 61
    split <;> lia
   ·have r1:r<(if (9:Int)<b / 2 then (9:Int) else b / 2)+1:=r1
    refine ⟨M5.trans M6,xs++[r],by rw [e5,au];rfl,by rw [av,hl5];rfl,fun x hx=>?_⟩
    rcases cx.mp hx with hx | hx
    ·exact all5 x hx
    ·rw [br.mp hx]
     exact ⟨r0,by split at r1 <;> lia⟩
  ·obtain ⟨M5,xs,e5,hl5,all5⟩:=q
   obtain ⟨x,y,rfl⟩:∃ x y,xs=[x,y]:=by
    match xs,hl5 with
    | [x,y],_=>exact ⟨x,y,rfl⟩
   obtain ⟨n4,hp4⟩:=M4.2;refine ⟨M4.trans (M5.new hD),rr++[(D,x,y)],by rw [e4,au];rfl,by rw [av,hl4];rfl,fun r hr=>?_⟩
   rcases cx.mp hr with hr | hr
   ·obtain ⟨g1,g2⟩:=all4 r hr
    exact ⟨(M5.new hD).1 _ _ (cV g1 hp4 (ip (by simp))) g1,g2⟩
   ·rw [br.mp hr]
    exact ⟨by rw [aK,e5];rfl,all5 x (by simp),all5 y (by simp)⟩
 obtain ⟨M4,rr,e4,hl4,all4⟩:=q;obtain ⟨⟨A',a0,a1⟩,⟨B,b0,b1⟩,rfl⟩:∃ x y,rr=[x,y]:=by
  match rr,hl4 with
  | [x,y],_=>exact ⟨x,y,rfl⟩
 obtain ⟨gA,dA0,dA1⟩:=all4 _ bW;obtain ⟨gB,dB0,dB1⟩:=all4 _ (aS _ bW);have S4:bO H (upd H4 R (.lst zs)):=(bO.mv S1 hp M4).trans (bO.put (bO.refl _) hR);have hR5:(upd H4 R (.lst zs)) R=some (.lst [.ref A',.ref B]):=by rw [aK,e4];rfl
 have hA5:(upd H4 R (.lst zs)) A'=some (.lst [.int a0,.int a1]):=by rw [aR (aJ gA hR)];exact gA
 have hB5:(upd H4 R (.lst zs)) B=some (.lst [.int b0,.int b1]):=by rw [aR (aJ gB hR)];exact gB
 generalize upd H4 R (.lst zs)=H5 at S4 hR5 hA5 hB5 ⊢;clear gA gB all4 e4 hR M4 hl4;refine ⟨_,rfl,_,rfl,S,_,rfl,S4 _ _ hS,fun L6 H6 S6 h6=>⟨szZ2,fun L7 H7 S7 h7=>?_⟩⟩;have S57:=S6.trans S7;obtain ⟨O,eO,hO⟩:∃ O,atI [V.ref S,V.ref L6] (if bk=true then 1 else 0)=some (.ref O)∧H7 O=some (.lst [.str (if bk then s2 else s0),.str s1,.str (if bk then s0 else s2)]):=by
  cases bk with
  | false=>exact ⟨S,rfl,S57 _ _ (S4 _ _ hS)⟩
  | true=>exact ⟨L6,rfl,S7 _ _ h6⟩
 refine ⟨_,rfl,.inr ⟨bk,rfl,L7,_,_,_,rfl,rfl,SqL.of h7,eO,?_⟩⟩;have hN7:=S57 _ _ (S4 _ _ hN);have hS7:=S57 _ _ (S4 _ _ hS);have hR7:=S57 _ _ hR5;have hA7:=S57 _ _ hA5;have hB7:=S57 _ _ hB5;refine ⟨_,rfl,N,_,_,_,rfl,rfl,SqL.of hN7,aC (j:=0) rfl,_,rfl,S,_,_,_,rfl,rfl,SqL.of hS7,aC (j:=0) rfl,_,rfl,R,_,_,_,rfl,rfl,SqL.of hR7,aC (j:=0) rfl,A',_,_,_,rfl,rfl,SqL.of hA7,aC (j:=0) rfl,_,rfl,S,_,_,_,rfl,rfl,SqL.of hS7,aC (j:=1) rfl,_,rfl,R,_,_,_,rfl,rfl,SqL.of hR7,aC (j:=0) rfl,A',_,_,_,rfl,rfl,SqL.of hA7,aC (j:=1) rfl,_,rfl,S,_,_,_,rfl,rfl,SqL.of hS7,aC (j:=2) rfl,(by show 7≤ar;decide),fun r1 H8 S8 h8=>?_⟩;refine ⟨szZ1,fun LL hLL=>?_⟩;have S9:bO H8 (upd H8 LL (.lst [.ref r1])):=bO.put (bO.refl _) hLL;have h9:(upd H8 LL (.lst [.ref r1])) LL=some (.lst [.ref r1]):=aK;have nLL:H LL=none:=by
  cases e:H LL with
  | none=>rfl
  | some o=>rw [S8 _ _ (S57 _ _ (S4 _ _ e))] at hLL;cases hLL
 generalize upd H8 LL (.lst [.ref r1])=H9 at S9 h9 ⊢;have S79:=S8.trans S9;have hN9:=S79 _ _ hN7;have hO9:=S79 _ _ hO;have hR9:=S79 _ _ hR7;have hB9:=S79 _ _ hB7;refine ⟨_,rfl,.inl ⟨rfl,_,SqL.of h9⟩,_,rfl,N,_,_,_,rfl,rfl,SqL.of hN9,aC (j:=1) rfl,_,rfl,O,_,_,_,rfl,rfl,SqL.of hO9,aC (j:=0) rfl,_,rfl,R,_,_,_,rfl,rfl,SqL.of hR9,aC (j:=1) rfl,B,_,_,_,rfl,rfl,SqL.of hB9,aC (j:=0) rfl,_,rfl,O,_,_,_,rfl,rfl,SqL.of hO9,aC (j:=1) rfl,_,rfl,R,_,_,_,rfl,rfl,SqL.of hR9,aC (j:=1) rfl,B,_,_,_,rfl,rfl,SqL.of hB9,aC (j:=1) rfl,_,rfl,O,_,_,_,rfl,rfl,SqL.of hO9,aC (j:=2) rfl,(by show 7≤ar;decide),fun r2 Ha Sa ha2=>?_⟩;have hLa:=Sa _ _ h9;refine ⟨LL,_,_,rfl,rfl,hLa,(by show 1<ar;decide),?_⟩;have kb:∀ c o,c≠LL→Ha c=some o→(upd Ha LL (.lst ([.ref r1]++[.ref r2]))) c=some o:=fun c o hc e=>by rw [aR hc];exact e
 have hb':(upd Ha LL (.lst ([.ref r1]++[.ref r2]))) LL=some (.lst [.ref r1,.ref r2]):=aK;generalize upd Ha LL (.lst ([.ref r1]++[.ref r2]))=Hb at kb hb' ⊢;have L1:∀ {c:ak} {xs:List V},xs.length≠1→Ha c=some (.lst xs)→c≠LL:=fun h e=>cV e hLa (ip h)
 refine ⟨_,rfl,_,rfl,szZ2,fun q Hc Sc ec=>?_⟩;have Sac:=S9.trans Sa;refine k q LL R r1 r2 A' B a0 a1 b0 b1 Hc (fun c o e=>Sc _ _ (kb _ _ (aJ e nLL) (Sa _ _ (S79 _ _ (S57 _ _ (S4 _ _ e)))))) ec (Sc _ _ hb') (Sc _ _ (kb _ _ (L1 (by simp) (Sac _ _ h8)) (Sac _ _ h8))) (Sc _ _ (kb _ _ (L1 (by simp) ha2) ha2)) (Sc _ _ (kb _ _ (L1 (by simp) (Sa _ _ hR9)) (Sa _ _ hR9))) (Sc _ _ (kb _ _ (L1 (by simp) (Sa _ _ (S79 _ _ hA7))) (Sa _ _ (S79 _ _ hA7)))) (Sc _ _ (kb _ _ (L1 (by simp) (Sa _ _ hB9)) (Sa _ _ hB9))) dA0 dA1 dB0 dB1
end
end HN
namespace L2
open PySem PySem.Spec PyProof.Rows
def evs {α:Type}:List α→List α
 | []=>[]
 | [x]=>[x]
 | x::_::r=>x::evs r
theorem evs_pick {α:Type}:∀ (l pre:List α),((bH ((l.length+1) / 2)).map fun k=>pre.length+2 * k).filterMap ((pre++l)[·]?)=evs l
 | [],pre=>by simp [evs]
 | [x],pre=>by
  have e:([x].length+1) / 2=1:=by simp
  rw [e];simp [evs]
 | x::y::r,pre=>by
  have ih:=evs_pick r (pre++[x,y]);have e:((x::y::r).length+1) / 2=(r.length+1) / 2+1:=by simp only [aP];lia
  rw [e,List.range_succ_eq_map,bJ,gh];have h0:(pre++x::y::r)[pre.length+2 * 0]? =some x:=by simp
  rw [h0];show x::_=x::evs r;congr 1;rw [←ih,bZ];have e2:pre++[x,y]++r=pre++x::y::r:=by simp
  rw [e2];congr 1;refine dJ fun k _=>?_
  show pre.length+2 * (k+1)=(pre++[x,y]).length+2 * k;rw [av];show _=pre.length+2+2 * k;lia
theorem evs_map {α β:Type}(f:α→β):∀ l:List α,(evs l).map f=evs (l.map f)
 | []=>rfl
 | [_]=>rfl
 | _::_::r=>lO _ (evs_map f r)
theorem evs_len {α:Type}:∀ l:List α,(evs l).length=(l.length+1) / 2
 | []=>by simp [evs]
 | [_]=>by simp [evs]
 | _::_::r=>by
  show (evs r).length+1=(r.length+1+1+1) / 2;rw [evs_len r];lia
theorem vals_evs:∀ {xs:List V} {us:List af},eI xs us→eI (evs xs) (evs us)
 | _,_,.nil=> .nil
 | _,_,.cons r .nil=> .cons r .nil
 | _,_,.cons r (.cons _ t)=> .cons r (vals_evs t)
theorem vals_drop:∀ {xs:List V} {us:List af} (n:Nat),eI xs us→eI (xs.drop n) (us.drop n)
 | _,_,0,h=>h
 | _,_,_+1,.nil=> .nil
 | _,_,n+1,.cons _ t=>vals_drop n t
theorem pick_two (its:List af){a:Nat}(ha:a≤its.length):slicePick its.toArray (some (a:Int)) none (some 2)=(evs (its.drop a)).toArray:=by
 unfold slicePick;have e0:gk (some (a:Int)) none (some 2) its.toArray.size=((a:Int),(its.length:Int),2):=by
  rw [ay];show (max 0 (min (if (a:Int)<0 then (a:Int)+its.length else (a:Int)) (its.length:Int)),(its.length:Int),(2:Int))=_;rw [lI (by lia),Int.min_eq_left (by lia),Int.max_eq_right (by lia)]
 rw [e0];congr 1;show ((bH (if (2:Int) > 0 then (if (a:Int)<(its.length:Int) then ((its.length:Int) - a+2 - 1) / 2 else 0) else _).toNat).map fun (k:Nat)=>((a:Int)+2 * (k:Int)).toNat).filterMap (its.toArray[·]?)=_;rw [lJ (by decide)];have ec:(if (a:Int)<(its.length:Int) then ((its.length:Int) - a+2 - 1) / 2 else 0).toNat=((its.drop a).length+1) / 2:=by
  rw [bR];split <;> lia
 rw [ec,←evs_pick (its.drop a) (its.take a),List.take_append_drop,bq,dI ha];have e1:((bH (((its.drop a).length+1) / 2)).map fun (k:Nat)=>((a:Int)+2 * (k:Int)).toNat)=(bH (((its.drop a).length+1) / 2)).map fun k=>a+2 * k:=dJ fun k _=>by lia
 rw [e1];refine lO (fun f=>List.filterMap f _) (funext fun k=>?_);simp
def tTwoL (K:ai)(a:Nat)(te:TE):TE:=fun σ H Q=>te σ H fun x H1=>∃ p xs,x= .ref p∧SqL K H1 p xs∧a≤xs.length∧New H1 (.lst (evs (xs.drop a))) Q
theorem pe_twoL {a:Nat}{p1 p3:Pos}{j1 j2}(he:PE X e te):PE X (.Subscript e (.Slice (some (.Constant (.int (a:Int)) j1 p1)) none (some (.Constant (.int 2) j2 p3)) p2) pos) (tTwoL X.K a te):=by
 intro az s σ H Q I h;refine Subscript_ (thn (he az s σ H _ I h) fun v s1 ⟨x,H1,I1,r1,q1⟩=>?_);obtain ⟨p,xs,rfl,hx,hl,q⟩:=q1;refine wpAny_Slice ?_;rw [evalPart_none,evalPart_some,evalPart_some];refine thn ((aT:PE X (.Constant (.int (a:Int)) j1 p1) _) az s1 σ H1 (fun x H2=>x= .int (a:Int)∧H2=H1) I1 ⟨rfl,rfl⟩) fun u1 s2 ⟨x2,H2,I2,r2,e2,e3⟩=>?_
 subst e2 e3;obtain ⟨t1,rfl⟩:=r2;refine ax ?_;refine thn ((aT:PE X (.Constant (.int 2) j2 p3) _) az s2 σ H2 (fun x H3=>x= .int 2∧H3=H2) I2 ⟨rfl,rfl⟩) fun u3 s3 ⟨x3,H3,I3,r3,e4,e5⟩=>?_
 subst e4 e5;obtain ⟨t3,rfl⟩:=r3;cases r1;have I4:Inv X az σ H3 { s3 with heap:=s3.heap.push { cls:= .type "slice",data:= .fields #[.int (a:Int) t1,.none,.int 2 t3] } }:=I3.kept (t':=s3.toks) fun b ob q=>aj _ q
 obtain ⟨its,r,ht,hz⟩:=I4.list hx;have hlen:its.length=xs.length:=r.length.symm;refine tail_any (ops:=[.ref p,.ref s3.heap.objs.size]) ht.isList.typeIs jh.lookup (jn ht.isList (bj.IsSliceOf.new ..) (.int _ t1) .none (.int 2 t3) (by decide) ?_ (by rw [ay,hlen];exact hz)) (by with_unfolding_all rfl);rw [pick_two its (by lia)];have el:(evs (xs.drop a)).length≤ar:=by
  rw [evs_len,bR];lia
 refine ⟨.ref _,_,I4.laid (t':=s3.toks) (o:= .lst (evs (xs.drop a))) (fun _ _ z=>aj _ z) (aH _) ⟨el,evs (its.drop a),0,vals_evs (vals_drop a r),aA _ rfl⟩,rfl,q.of _ I4.fresh⟩
end L2
namespace HN
open PySem L2 PyProof.Rows HT2
abbrev sBeatR:b8:=top 26
abbrev sLineR:b8:=top 27
inductive spBeatR (vs:List V)(H:Hp)(Q:VK)(_:XK):Prop
 | mk (z:Str)(b:Int)(_:vs=[.str z])(_:z.length≤100000)(_:ck z sp_=[("beat" :Str),ik b])(_:W60 b)(_:∀ p H',bO H H'→H' p=some (.tup [.str "beat",.int b])→Q (.ref p) H')
structure LnW (ws:List Str)(n:Str)(ss:List Str)(rs:List Int):Prop where
 five:5≤ws.length
 few:ws.length≤100000
 odd:ws.length % 2=1
 name:ws[1]? =some n
 stops:evs (ws.drop 2)=ss
 runs:evs (ws.drop 3)=rs.map ik
 nn:nam n=true
 sn:∀ z∈ss,nam z=true
 rn:∀ i∈rs,W60 i
inductive spLineR (vs:List V)(H:Hp)(Q:VK)(_:XK):Prop
 | mk (L:ak)(ws:List Str)(n:Str)(ss:List Str)(rs:List Int)(_:vs=[.ref L])(_:H L=some (.lst (ws.map V.str)))(_:LnW ws n ss rs)(_:∀ p a b H',bO H H'→H' a=some (.tup (ss.map V.str))→H' b=some (.tup (rs.map V.int))→H' p=some (.tup [.str "line",.str n,.ref a,.ref b])→Q (.ref p) H')
section
variable {w:aV}
theorem scBeatR:bE ["row","words"] ["row"] (defScope sBeatR):=by trivial
theorem ok_beatR (F:Fun K "read_beat" "read_beat" sBeatR f fd)(T:Nm mg)(GW:Fn K mg "read_whole" sRead pzc f1 fd1)(FW:cI P w K mg base CX0 2 f1 fd1 pzc kC):cI P w K mg base CX0 3 f fd ["row"] spBeatR:=by
 refine F.ok scBeatR (by contradiction) (fun cdv A outer s H vs Q E hr h=>?_);obtain ⟨z,b,rfl,hz,hs,hb,k⟩:=h;refine ⟨_,cz (psZ 1 scBeatR.nd (jc c8 PySem.F.slot_str_split PySem.F.type_str_split mt_split (pv 0) (ah fY aw)))
  (cz (fQ (PW.pt (kh (cD op_ne (cw cS rfl T.len bD (ah (pv 1) aw)) aT (cP _)) (jv (cD op_ne (dO bh (pv 1) aT (fun _ _=>rfl)) fY (cP _))))) (bp gU) cM)
  (bp (bI (gq (ah fY (ah (pc1 GW FW hr (ah (dO bh (pv 1) aT (fun _ _=>rfl)) aw)) aw)))))),?_⟩
 have one:((sp_:Str).length == 0)=false:=by trivial
 refine ⟨_,rfl,rfl,_,_,rfl,rfl,one,bQ (show _≤200000 by lia) (by decide),fun L H1 S1 e1=>?_⟩;have e1:H1 L=some (.lst ((ck z sp_).map V.str)):=e1;rw [hs] at e1;have e1:H1 L=some (.lst [V.str ("beat" :Str),V.str (ik b)]):=e1;refine ⟨_,rfl,L,_,rfl,.inl (SqL.of e1),rfl,_,rfl,jz (by show (!decide (V.int ((2:Nat):Int)=V.int 2))=false;decide) ?_⟩;refine ⟨_,rfl,L,_,_,_,rfl,rfl,SqL.of e1,aC (j:=0) rfl,rfl,_,rfl,jz (by trivial) ?_⟩;refine ⟨_,rfl,L,_,_,_,rfl,rfl,SqL.of e1,aC (j:=1) rfl,b,rfl,hb,fun H2 S2=>?_⟩;exact ⟨szZ2,fun p H4 S4 e4=>k p H4 (S1.trans (S2.trans S4)) e4⟩
theorem scLineR:bE ["words","stops","runs"] ["words"] (defScope sLineR):=by trivial
theorem ok_lineR (F:Fun K "read_line" "read_line" sLineR f fd)(T:Nm mg)(GN:Fn K mg "read_name" sNam pzc f1 fd1)(FN:cI P w K mg base CX0 1 f1 fd1 pzc spNam)(GW:Fn K mg "read_whole" sRead pzc f2 fd2)(FW:cI P w K mg base CX0 2 f2 fd2 pzc kC):cI P w K mg base CX0 3 f fd ["words"] spLineR:=by
 refine F.ok scLineR (by contradiction) (fun cdv A outer s H vs Q E hr h=>?_);obtain ⟨L,ws,n,ss,rs,rfl,hL,W,k⟩:=h;have hr1:=hr.mono (show 1≤2 by lia);refine ⟨_,cz (fQ (PW.pt (kh (cD op_lt (cw cS rfl T.len bD (ah (pv 0) aw)) aT (cP _)) (jv (cD jC (cn iH (cw cS rfl T.len bD (ah (pv 0) aw)) aT) aT (cP _))))) (bp gU) cM)
  (cz (psZ 1 scLineR.nd (dQ gN rfl T.ttup gP (ah (hI (fr:=[]) (js:=[]) rfl (ix (pe_twoL (a:=2) (pv 0))) (by trivial) rfl (by trivial) rfl (by exists sLineR) (by trivial) rfl (by trivial) (fun _ _ _ _ _=>⟨(pc1 GN FN hr1 (ah (pv 0) aw)),gp⟩)) aw)))
  (cz (psZ 2 scLineR.nd (dQ gN rfl T.ttup gP (ah (hI (fr:=[]) (js:=[]) rfl (ix (pe_twoL (a:=3) (pv 0))) (by trivial) rfl (by trivial) rfl (by exists sLineR) (by trivial) rfl (by trivial) (fun _ _ _ _ _=>⟨(pc1 GW FW hr (ah (pv 0) aw)),gp⟩)) aw)))
  (bp (bI (gq (ah fY (ah (pc1 GN FN hr1 (ah (dO bh (pv 0) aT (fun _ _=>rfl)) aw)) (ah (pv 1) (ah (pv 2) aw))))))))),?_⟩
 have hlw:(ws.map V.str).length=ws.length:=ae _;have w1:=W.five;have w2:=W.few;have w3:=W.odd;have big:(200000:Nat)≤ar:=by decide
 refine ⟨_,rfl,L,_,rfl,.inl (SqL.of hL),_,_,rfl,rfl,_,rfl,jz (lM (by rw [hlw];lia)) ?_⟩;refine ⟨_,rfl,L,_,rfl,.inl (SqL.of hL),_,_,rfl,rfl,(by show (0:Int)<2;decide),rfl,_,rfl,jz ?_ ?_⟩
 ·rw [hlw]
  refine lM fun z=>?_
  injection z with z
  lia
 refine ⟨_,rfl,L,_,rfl,SqL.of hL,by rw [hlw];lia,fun D1 H1 S1 d1=>?_⟩;rw [←gX,←evs_map,W.stops] at d1;have ls:ss.length≤200000:=by rw [←W.stops,evs_len,bR];lia
 have lr:rs.length≤200000:=by
  have:=lO List.length W.runs;rw [evs_len,bR,ae] at this;lia
 refine ⟨D1,rfl,⟨_,SqL.of d1⟩,?_⟩;refine hZ (K:=K) (a:=D1) (xs:=ss.map V.str) (fun j zs H3=>bO H1 H3∧zs=(ss.take j).map V.str) ⟨bO.refl _,rfl⟩ (fun j zs H3 hj ⟨g1,g2⟩=>?_) (by rw [ae];lia) (fun j x zs H3 hx3 ⟨g1,g2⟩=>?_) (fun zs H3 ⟨g1,g2⟩ D hD=>?_)
 ·refine ⟨SqL.of (g1 _ _ d1),?_⟩
  rw [g2,ae,bq];lia
 ·rw [aD] at hx3
  obtain ⟨z,hn3,rfl⟩:=aN.mp hx3;refine fk ?_;refine ⟨_,rfl,z,rfl,W.sn z (aG hn3),fun H4 S4=>⟨g1.trans S4,?_⟩⟩;rw [g2,bS,hn3,au];rfl
 rw [ae,bP] at g2;refine ⟨D,zs,rfl,SqL.of aK,fun a H4 S4 e4=>?_⟩;rw [g2] at e4;have S5:bO H H4:=S1.trans (g1.trans (bO.trans (bO.put (bO.refl H3) hD) S4));refine ⟨_,rfl,L,_,rfl,SqL.of (S5 _ _ hL),by rw [hlw];lia,fun D2 H6 S6 d2=>?_⟩;rw [←gX,←evs_map,W.runs] at d2;refine ⟨D2,rfl,⟨_,SqL.of d2⟩,?_⟩;refine hZ (K:=K) (a:=D2) (xs:=(rs.map ik).map V.str) (fun j zs H3=>bO H6 H3∧zs=(rs.take j).map V.int) ⟨bO.refl _,rfl⟩ (fun j zs H3 hj ⟨g1,g2⟩=>?_) (by rw [ae,ae];lia) (fun j x zs H3 hx3 ⟨g1,g2⟩=>?_) (fun zs2 H7 ⟨g3,g4⟩ D' hD'=>?_)
 ·refine ⟨SqL.of (g1 _ _ d2),?_⟩
  rw [g2,ae,bq];lia
 ·rw [bZ,aD] at hx3
  obtain ⟨i,hn3,rfl⟩:=aN.mp hx3;refine fk ?_;refine ⟨_,rfl,i,rfl,W.rn i (aG hn3),fun H4 S4=>⟨g1.trans S4,?_⟩⟩;rw [g2,bS,hn3,au];rfl
 rw [ae,ae,bP] at g4;refine ⟨D',zs2,rfl,SqL.of aK,fun b H8 S8 e8=>?_⟩;rw [g4] at e8;have S9:bO H4 H8:=S6.trans (g3.trans (bO.trans (bO.put (bO.refl H7) hD') S8));refine ⟨_,rfl,L,_,_,_,rfl,rfl,SqL.of (S9 _ _ (S5 _ _ hL)),aC (j:=1) (by rw [aD,W.name];rfl),n,rfl,W.nn,fun H10 S10=>?_⟩;exact ⟨_,rfl,_,rfl,szZ4,fun p H11 S11 e11=>k p a b H11 (S5.trans (S9.trans (S10.trans S11))) ((S9.trans (S10.trans S11)) _ _ e4) ((S10.trans S11) _ _ e8) e11⟩
end
end HN
namespace L2
open PySem PySem.Spec PyProof.Rows
section
variable {κ:Type} [DecidableEq κ]
def jT (kvs:List (κ×V))(k:κ):Option V:=(kvs.find? fun kv=>decide (kv.1=k)).map (·.2)
def putK (kvs:List (κ×V))(k:κ)(v:V):List (κ×V) :=
 if (kvs.any fun kv=>decide (kv.1=k))=true then kvs.map (fun kv=>if kv.1=k then (kv.1,v) else kv) else kvs++[(k,v)]
theorem kl {p:κ×V}{r:List (κ×V)}{k:κ}(e:p.1=k):jT (p::r) k=some p.2:=by simp [jT,gw,e]
theorem jK {p:κ×V}{r:List (κ×V)}{k:κ}(e:¬ p.1=k):jT (p::r) k=jT r k:=by simp [jT,gw,e]
theorem valV_any (k:κ):∀ kvs:List (κ×V),(kvs.any fun kv=>decide (kv.1=k))=(jT kvs k).isSome
 | []=>rfl
 | p::r=>by
  rw [gm]
  by_cases e:p.1=k
  ·simp only [kl e,lL e,Bool.true_or,Option.isSome_some]
  ·rw [jK e,lM e,Bool.false_or];exact valV_any k r
theorem kN (kvs:List (κ×V))(k:κ)(v:V):(putK kvs k v).length≤kvs.length+1:=by
 unfold putK;split
 ·rw [ae];lia
 ·rw [av,aP,List.length_nil];lia
theorem RelO.isSome_eq {o:Option V}{u:Option af}(r:RelO o u):o.isSome=u.isSome:=by
 cases o with
 | none=>cases u with
  | none=>rfl
  | some _=>exact (show False from r).elim
 | some _=>cases u with
  | none=>exact (show False from r).elim
  | some _=>rfl
theorem RelO.getD {o:Option V}{u:Option af}{d:V}{d':af}(r:RelO o u)(rd:fD d d'):fD (o.getD d) (u.getD d'):=by
 cases o with
 | none=>cases u with
  | none=>exact rd
  | some _=>exact (show False from r).elim
 | some _=>cases u with
  | none=>exact (show False from r).elim
  | some _=>exact r
theorem KV.val {kvs:List (κ×V)}{vs:List (κ×af)}(r:KV kvs vs)(k:κ):RelO (jT kvs k) (valueAt vs k):=by
 unfold KV at r
 induction r with
 | nil=>exact True.intro
 | @cons p q ps qs h t ih =>
  obtain ⟨h1,h2⟩:=h
  by_cases e:p.1=k
  ·have e':q.1=k:=h1.symm.trans e
   have b:valueAt (q::qs) k=some q.2:=by simp [valueAt,gw,e']
   rw [kl e,b];exact h2
  ·have e':¬ q.1=k:=fun z=>e (h1.trans z)
   have b:valueAt (q::qs) k=valueAt qs k:=by simp [valueAt,gw,e']
   rw [jK e,b];exact ih
theorem KV.any {kvs:List (κ×V)}{vs:List (κ×af)}(r:KV kvs vs)(k:κ):(kvs.any fun kv=>decide (kv.1=k))=vs.any fun kv=>decide (kv.1=k):=by
 unfold KV at r
 induction r with
 | nil=>rfl
 | cons h t ih=>rw [gm,gm,ih,h.1]
theorem KV.repl {kvs:List (κ×V)}{vs:List (κ×af)}(r:KV kvs vs)(k:κ)(ry:fD y u) :
  KV (kvs.map fun kv=>if kv.1=k then (kv.1,y) else kv) (vs.map fun kv=>if kv.1=k then (kv.1,u) else kv):=by
 unfold KV at r ⊢
 induction r with
 | nil=>exact .nil
 | @cons p q ps qs h t ih =>
  rw [bJ,bJ];refine .cons ?_ ih;obtain ⟨h1,h2⟩:=h
  by_cases e:p.1=k
  ·rw [lJ e,lJ (h1.symm.trans e)];exact ⟨h1,ry⟩
  ·rw [lI e,lI (fun z=>e (h1.trans z))];exact ⟨h1,h2⟩
theorem KV.put {kvs:List (κ×V)}{vs:List (κ×af)}(r:KV kvs vs)(k:κ)(ry:fD y u):KV (putK kvs k y) (stored vs k u):=by
 unfold putK stored;rw [r.any k]
 by_cases e:(vs.any fun kv=>decide (kv.1=k))=true
 ·rw [lJ e,lJ e];exact r.repl k ry
 ·rw [lI e,lI e];exact Paired.snoc r ⟨rfl,ry⟩
theorem KV.length {kvs:List (κ×V)}{vs:List (κ×af)}(r:KV kvs vs):kvs.length=vs.length:=Paired.length r
end
theorem kV_is {w:aV}{k:Key}(r:fD (kV k) u):(dR P w).is k u=true:=by
 cases k with
 | inl i=>obtain ⟨t,e⟩:=(show ∃ t,u=af.int i t from r);subst e;exact mixKind_int P w i t
 | inr x=>obtain ⟨t,e⟩:=(show ∃ t,u=af.str x t from r);subst e;exact jE P w x t
theorem items_are {P:aB}{w:aV}:∀ {ks:List Key} {us:List af},eI (ks.map kV) us→ItemsAre (dR P w) ks us
 | [],_,r=>by rw [List.map_nil] at r;cases r;exact .nil
 | k::ks,_,r=>by
  rw [bJ] at r;cases r with
  | cons h t=>exact .cons (kV_is h) (items_are t)
abbrev KT (H:Hp):List (List Key×V)→List (List Key×ak×af)→Prop:=Paired fun p q=>p.1=q.1∧H q.2.1=some (.tup (p.1.map kV))∧fD p.2 q.2.2
theorem KT.val {kvs:List (List Key×V)}{xs:List (List Key×ak×af)}(r:KT H kvs xs)(k:List Key):RelO (jT kvs k) ((atKey xs k).map (·.2)):=by
 induction r with
 | nil=>exact True.intro
 | @cons p q ps qs h t ih =>
  obtain ⟨h1,_,h2⟩:=h
  by_cases e:p.1=k
  ·have e':q.1=k:=h1.symm.trans e
   have b:atKey (q::qs) k=some q.2:=by simp [atKey,gw,e']
   rw [kl e,b];exact h2
  ·have e':¬ q.1=k:=fun z=>e (h1.trans z)
   have b:atKey (q::qs) k=atKey qs k:=by simp [atKey,gw,e']
   rw [jK e,b];exact ih
theorem KT.repl {kvs:List (List Key×V)}{xs:List (List Key×ak×af)}(r:KT H kvs xs)(k:List Key)(ry:fD y u) :
  KT H (kvs.map fun kv=>if kv.1=k then (kv.1,y) else kv) (xs.map (putAt k u)):=by
 induction r with
 | nil=>exact .nil
 | @cons p q ps qs h t ih =>
  rw [bJ,bJ];refine .cons ?_ ih;obtain ⟨h1,h2,h3⟩:=h;unfold putAt
  by_cases e:p.1=k
  ·rw [lJ e,lJ (h1.symm.trans e)];exact ⟨h1,h2,ry⟩
  ·rw [lI e,lI (fun z=>e (h1.trans z))];exact ⟨h1,h2,h3⟩
theorem KT.put {kvs:List (List Key×V)}{xs:List (List Key×ak×af)}(r:KT H kvs xs)(k:List Key){b:ak}(hb:H b=some (.tup (k.map kV)))(ry:fD y u) :
  KT H (putK kvs k y) (storedH xs k b u):=by
 have e:(kvs.any fun kv=>decide (kv.1=k))=(atKey xs k).isSome:=by
  rw [valV_any,(r.val k).isSome_eq,Option.isSome_map]
 unfold putK storedH;rw [e]
 by_cases q:(atKey xs k).isSome=true
 ·rw [lJ q,lJ q];exact r.repl k ry
 ·rw [lI q,lI q];exact Paired.snoc r ⟨rfl,hb,ry⟩
theorem KT.keeps {kvs:List (List Key×V)}{xs:List (List Key×ak×af)}(r:KT H kvs xs)(ht:∀ b ys,H b=some (.tup ys)→H' b=some (.tup ys)):KT H' kvs xs :=
 Paired.mapP r fun _ _ z=>⟨z.1,ht _ _ z.2.1,z.2.2⟩
section
variable {w:aV}
theorem rd_of {u:HO}(ok:HOk P w H h)(e:Rd H a u):fU P w H h a u:=e.ok ok
theorem dk_rd (ok:HOk P w H h)(e:Rd H a (.dK kvs)):kvs.length≤ar∧(a == eK)=false∧∃ vs,KV kvs vs∧h.DictOf (dR P w) a vs :=
 show fU P w H h a (.dK kvs) from rd_of ok e
theorem dk_of (ok:HOk P w H h)(e:H a=some (.dK kvs)):kvs.length≤ar∧(a == eK)=false∧∃ vs,KV kvs vs∧h.DictOf (dR P w) a vs:=dk_rd ok (.inl e)
theorem key_of {ks:List Key}(ok:HOk P w H h)(e:H a=some (.tup (ks.map kV))):(tupleKind (dR P w)).is h ks a:=by
 obtain ⟨_,its,r,o,h1,h2,_,n,h3⟩:=(show fU P w H h a (.tup (ks.map kV)) from ok a _ e);exact ⟨o,its.toArray,n,h1,h2,h3,by simpa using items_are r⟩
theorem dt_rd {kvs:List (List Key×V)}(ok:HOk P w H h)(e:Rd H a (.dT kvs)):kvs.length≤ar∧(a == eK)=false ∧
  ∃ xs,KT H kvs xs∧h.DictOfH (tupleKind (dR P w)) a xs:=by
 obtain ⟨z,y,xs,r,o,es,ep,h1,h2,h3,h4,h5⟩:=(show fU P w H h a (.dT kvs) from rd_of ok e);refine ⟨z,y,xs,r,o,es,ep,h1,h2,h3,h4,fun x hx=>?_,h5⟩;have all:∀ {l:List (List Key×V)} {m:List (List Key×ak×af)},KT H l m→∀ x∈m,(tupleKind (dR P w)).is h x.1 x.2.1:=by
  intro l m q
  induction q with
  | nil=>intro x hx;exact nomatch hx
  | @cons p q ps qs hq t ih =>
   intro x hx
   rcases aq.mp hx with e | hx
   ·subst e
    exact key_of ok (by rw [←hq.1];exact hq.2.1)
   ·exact ih x hx
 exact all r x hx
theorem dt_of {kvs:List (List Key×V)}(ok:HOk P w H h)(e:H a=some (.dT kvs)):kvs.length≤ar∧(a == eK)=false ∧
  ∃ xs,KT H kvs xs∧h.DictOfH (tupleKind (dR P w)) a xs:=dt_rd ok (.inl e)
end
def DGet (H:Hp)(a:ak)(y:V)(r:Option V):Prop :=
 (∃ kvs k,Rd H a (.dK kvs)∧y=kV k∧r=jT kvs k)∨∃ kvs k b,Rd H a (.dT kvs)∧y= .ref b∧H b=some (.tup (k.map kV))∧r=jT kvs k
def DPut (H:Hp)(a:ak)(y v:V)(H':Hp):Prop :=
 (∃ kvs k,H a=some (.dK kvs)∧y=kV k∧kvs.length<ar∧H'=upd H a (.dK (putK kvs k v))) ∨
 ∃ kvs k b,H a=some (.dT kvs)∧y= .ref b∧H b=some (.tup (k.map kV))∧kvs.length<ar∧H'=upd H a (.dT (putK kvs k v))
section
variable {r:af}{o:Option V}
theorem d_in (hu:A.units+1<cLine)(I:Inv X az σ H s)(g:DGet H a y o)(ry:fD y u)(h:∀ s',Inv X az σ H s'→Q (.bool o.isSome) s') :
  aL (aZ X.prog X.w) A (eG .In u (.ref a)) Q E s:=by
 rcases g with ⟨kvs,k,e,ey,l⟩ | ⟨kvs,k,b,e,ey,eb,l⟩
 ·subst ey
  obtain ⟨z,hd,vs,rel,dd⟩:=dk_rd I.hok e;refine wpAny_in_of (kV_is ry) hd dd.mapOf ?_;rw [←(rel.val k).isSome_eq,←l];exact h _ (I.tok _)
 ·subst ey
  cases (show u=af.ref b from ry);obtain ⟨z,hd,xs,rel,dd⟩:=dt_rd I.hok e;refine wpAny_in_heap (iY hu) (key_of I.hok eb) hd dd ?_;have q:=(rel.val k).isSome_eq;rw [Option.isSome_map] at q;rw [←q,←l];exact h _ (I.tok _)
theorem d_write {ob:HO}(I:Inv X az σ H s)(mu:Mut (H a))(hs:bo a s.heap h')(he:∃ q,h'.get? a=some q)(new:fU X.prog X.w (upd H a ob) h' a ob) :
  Inv X az σ (upd H a ob) { s with heap:=h',toks:=t' } :=
 I.write (x:=a) (e:=a) mu (.inl rfl) (fun b q hb z=>(hs.2 b hb).trans z) he new
theorem dk_new {w:aV}{vs:List (Key×af)}(z:kvs.length≤ar)(hd:(a == eK)=false)(rel:KV kvs vs)(dd:h'.DictOf (dR P w) a vs) :
  fU P w H' h' a (.dK kvs):=⟨z,hd,vs,rel,dd⟩
theorem d_setItem {Q:Unit→al→Prop}(hu:A.units+1<cLine)(I:Inv X az σ H s)(g:DPut H a y v H')(ry:fD y u)(rv:fD v r)(h:∀ s',Inv X az σ H' s'→Q () s') :
  aL (aZ X.prog X.w) A (setItem (.ref a) u r) Q E s:=by
 rcases g with ⟨kvs,k,e,ey,l,eH⟩ | ⟨kvs,k,b,e,ey,eb,l,eH⟩
 ·subst ey eH
  obtain ⟨z,hd,vs,rel,dd⟩:=dk_of I.hok e;have hz:vs.length≤ar:=by rw [←rel.length];exact z
  have hl:(putK kvs k v).length≤ar:=by have:=kN kvs k v;lia
  refine wpAny_setItem_pairs (hsz:=hz) (kV_is ry) dd fun h' dd' hs=>h _ ?_
  have he:∃ q,h'.get? a=some q:=let ⟨q,_,_,hq,_⟩:=dd';⟨q,hq⟩;exact d_write I (by rw [e];exact True.intro) hs he (dk_new hl hd (rel.put k rv) dd')
 ·subst ey eH
  cases (show u=af.ref b from ry);obtain ⟨z,hd,xs,rel,dd⟩:=dt_of I.hok e;have hz:xs.length≤ar:=by rw [←Paired.length rel];exact z
  have hl:(putK kvs k v).length≤ar:=by have:=kN kvs k v;lia
  refine wpAny_setItem_heap (hsz:=hz) (iY hu) (key_of I.hok eb) dd fun h' dd' hs=>h _ ?_
  obtain ⟨q,es,ep,hq,h2,h3,h4,_,h5⟩:=dd';refine d_write I (by rw [e];exact True.intro) hs ⟨q,hq⟩ ⟨hl,hd,_,(rel.put k eb rv).keeps fun c ys ec=>?_,q,es,ep,hq,h2,h3,h4,h5⟩;rw [aR (cV ec e (fun z=>nomatch z))];exact ec
end
section
variable {k:Key}
theorem d_len (I:Inv X az σ H s)(e:Rd H a (.dK kvs))(h:∀ t s',Inv X az σ H s'→Q (.int kvs.length t) s'):aL (aZ X.prog X.w) A (call (.builtin "len") [.ref a]) Q E s:=by
 obtain ⟨z,hd,vs,rel,dd⟩:=dk_rd I.hok e;refine call_len_dict hd dd (by rw [←rel.length];rw [sizeLine_eq] at z;lia) ?_;rw [←rel.length];exact h _ _ (I.tok _)
end
def NoSl (i:Expr):Prop:=∀ ov iv,subscripted i false ov iv=operate [ov,iv] (getItem ov iv)
theorem subD_of {w:aV}{slice:Expr}{id:String}
  (hl:typeLookup (.type T) "__getitem__" =fe (some (.builtin id))) (hs:NoSl slice)
  (h:aL (aZ prog w) A (cN value env) (fun o s₁=>aL (aZ prog w) A (cN slice env) (fun i s₂=>s₂.TypeIs o T∧aL (aZ prog w) A (getItem o i) Q E s₂) E s₁) E s) :
  aL (aZ prog w) A (cN (.Subscript value slice pos) env) Q E s:=by
 refine Subscript_ (c5 h (fun o s₁ h₁=>c5 h₁ (fun i s₂ h₂=>?_) fun _ _ x=>x) fun _ _ x=>x);obtain ⟨hT,h₂⟩:=h₂;unfold subscriptTail;refine ag ?_;rw [getitemInPython_of_ne hT.not_modules];refine ag (wpAny_specialOf hT hl ?_);have fin:aL (aZ prog w) A (subscripted slice false o i) (fun r s₃=>aL (aZ prog w) A (letTemporaryGo value o r >>= fun _=>fe r) Q E s₃) E s₂:=by
  rw [hs o i];exact wpAny_operating (c5 h₂ (fun r s₃ h₃=>ag (wpAny_letTemporaryGo (ax h₃))) fun _ _ x=>x)
 first
  | exact ax (ag fin)
  | exact ag (ax (ag fin))
  | exact ag fin
def tDIn (ty td:TE):TE:=fun σ H Q=>ty σ H fun y H1=>td σ H1 fun x H2=>∃ a o,x= .ref a∧DGet H2 a y o∧Q (.bl o.isSome) H2
def sDPut (td ty tv:TE):TS:=fun D σ H=>tv σ H fun v H1=>td σ H1 fun x H2=>ty σ H2 fun y H3=>∃ a H4,x= .ref a∧DPut H3 a y v H4∧D.nx σ H4
section
variable {o i:Expr}{tpos:Pos}{td ty tv:TE}
theorem pc_din (hu:X.A.units+1<cLine)(hi:PE X i ty)(ho:PE X o td):PC X .In i o (tDIn ty td):=by
 intro az s σ H Q I h;refine thn (hi az s σ H _ I h) fun iv s1 ⟨y,H1,I1,ry,q1⟩=>thn (ho az s1 σ H1 _ I1 q1) fun u s2 ⟨x,H2,I2,rx,a,ov,ex,g,q2⟩=>?_
 subst ex;obtain rfl:u=af.ref a:=rx;exact d_in hu I2 g ry fun s3 I3=>⟨.bl ov.isSome,H2,I3,rfl,q2⟩
theorem ps_dput (hu:X.A.units+1<cLine)(ho:PE X o td)(hi:PE X i ty)(hv:PE X value tv)(hs:swapsWith value (some (.Subscript o i pos')) pos.line X.env=fe false) :
  PS X (.Assign [.Subscript o i pos'] value pos) (sDPut td ty tv):=by
 intro az s σ H D I h;refine wpAny_Assign_Subscript (thn (hv az s σ H _ I h) fun r s1 ⟨v,H1,I1,rv,q1⟩=>thn (ho az s1 σ H1 _ I1 q1) fun u s2 ⟨x,H2,I2,rx,q2⟩=>thn (hi az s2 σ H2 _ I2 q2) fun iv s3 ⟨y,H3,I3,ry,a,H4,ex,g,q3⟩=>?_) hs;subst ex;obtain rfl:u=af.ref a:=rx;exact d_setItem hu I3 g ry rv fun s4 I4=>⟨σ,H4,I4,q3⟩
end
structure M1 (X:Cx)(o:Expr)(m:Str)(apos:Pos)(e:Expr)(cpos:Pos):Prop where
 base:fV o m X.env (cN o X.env)=cN o X.env
 few:((eu cpos (aU [e] X.env)).all (fun x=> !x.1) && (backToKw cpos (iB [] X.env)).all (fun x=>x.1.isSome)
  && decide (([e]:List Expr).length+([]:List Keyword).length+(if ([]:List Keyword).isEmpty then 0 else 1)<30))=true
 line:(apos.endLine == cpos.line)=true
 trees:eu cpos (aU [e] X.env)=[(false,cN e X.env)]
structure M2 (X:Cx)(o:Expr)(m:Str)(apos:Pos)(e f:Expr)(cpos:Pos):Prop where
 base:fV o m X.env (cN o X.env)=cN o X.env
 few:((eu cpos (aU [e,f] X.env)).all (fun x=> !x.1) && (backToKw cpos (iB [] X.env)).all (fun x=>x.1.isSome)
  && decide (([e,f]:List Expr).length+([]:List Keyword).length+(if ([]:List Keyword).isEmpty then 0 else 1)<30))=true
 line:(apos.endLine == cpos.line)=true
 trees:eu cpos (aU [e,f] X.env)=[(false,cN e X.env),(false,cN f X.env)]
def IsDct (H:Hp)(a:ak):Prop:=(∃ kvs,Rd H a (.dK kvs))∨∃ kvs,Rd H a (.dT kvs)
theorem isDct_at (I:Inv X az σ H s)(d:IsDct H a) :
  s.TypeIs (.ref a) "dict" ∧(∀ b,af.ref a= .ref b→∃ ob,s.heap.get? b=some ob∧ob.dict=none)∧(a == eK)=false:=by
 rcases d with ⟨kvs,e⟩ | ⟨kvs,e⟩
 ·obtain ⟨_,hd,vs,_,dd⟩:=dk_rd I.hok e
  refine ⟨dd.typeIs,fun b q=>?_,hd⟩;cases q;obtain ⟨ob,_,_,h1,h2,_⟩:=dd;exact ⟨ob,h1,h2.2.1⟩
 ·obtain ⟨_,hd,xs,_,dd⟩:=dt_rd I.hok e
  refine ⟨dd.typeIs,fun b q=>?_,hd⟩;cases q;obtain ⟨ob,_,_,h1,h2,_⟩:=dd;exact ⟨ob,h1,h2.2.1⟩
section
variable {d:V}{r:af}{o:Option V}
theorem d_get1 (hu:A.units+1<cLine)(I:Inv X az σ H s)(g:DGet H a y o)(ry:fD y u)(h:∀ w' s',Inv X az σ H s'→fD (o.getD .non) w'→Q w' s') :
  aL (aZ X.prog X.w) A (call (.builtin "dict.get") [.ref a,u]) Q E s:=by
 rcases g with ⟨kvs,k,e,ey,l⟩ | ⟨kvs,k,b,e,ey,eb,l⟩
 ·subst ey
  obtain ⟨z,hd,vs,rel,dd⟩:=dk_rd I.hok e;refine call_meetsIn ee dd.typeIs gD (PySem.F.args_dict_get_2 _ _) (meets_dict_get (dR X.prog X.w) a (kV_is ry) hd) ⟨_,dd.mapOf,h _ _ (I.tok _) ?_⟩;rw [l];exact (rel.val k).getD rfl
 ·subst ey
  cases (show u=af.ref b from ry);obtain ⟨z,hd,xs,rel,dd⟩:=dt_rd I.hok e;refine call_meetsIn ee dd.typeIs gD (PySem.F.args_dict_get_2 _ _) (meetsH_dict_get (tupleKind (dR X.prog X.w)) a b hd) ⟨iY hu,k,xs,key_of I.hok eb,dd,h _ _ (I.tok _) ?_⟩;rw [l];exact (rel.val k).getD rfl
theorem d_get2 (hu:A.units+1<cLine)(I:Inv X az σ H s)(g:DGet H a y o)(ry:fD y u)(rd:fD d r)(h:∀ w' s',Inv X az σ H s'→fD (o.getD d) w'→Q w' s') :
  aL (aZ X.prog X.w) A (call (.builtin "dict.get") [.ref a,u,r]) Q E s:=by
 rcases g with ⟨kvs,k,e,ey,l⟩ | ⟨kvs,k,b,e,ey,eb,l⟩
 ·subst ey
  obtain ⟨z,hd,vs,rel,dd⟩:=dk_rd I.hok e;refine call_meetsIn ee dd.typeIs gD (PySem.F.args_dict_get_3 _ _ _) (meets_dict_get_default (dR X.prog X.w) a (kV_is ry) hd r) ⟨_,dd.mapOf,h _ _ (I.tok _) ?_⟩;rw [l];exact (rel.val k).getD rd
 ·subst ey
  cases (show u=af.ref b from ry);obtain ⟨z,hd,xs,rel,dd⟩:=dt_rd I.hok e;refine call_meetsIn ee dd.typeIs gD (PySem.F.args_dict_get_3 _ _ _) (meetsH_dict_get_default (tupleKind (dR X.prog X.w)) a b hd r) ⟨iY hu,k,xs,key_of I.hok eb,dd,h _ _ (I.tok _) ?_⟩;rw [l];exact (rel.val k).getD rd
end
def tDGet1 (td ty:TE):TE:=fun σ H Q=>td σ H fun x H1=>∃ a,x= .ref a∧IsDct H1 a∧ty σ H1 fun y H2=>∃ o,DGet H2 a y o∧Q (o.getD .non) H2
def tDGet2 (td ty tx:TE):TE:=fun σ H Q=>td σ H fun x H1=>∃ a,x= .ref a∧IsDct H1 a∧ty σ H1 fun y H2=>tx σ H2 fun z H3=>∃ o,DGet H3 a y o∧Q (o.getD z) H3
section
variable {o f:Expr}{td ty tx:TE}
theorem pe_dget1 (hu:X.A.units+1<cLine)(ho:PE X o td)(he:PE X e ty)(m:M1 X o "get" apos e cpos):PE X (.Call (.Attribute o "get" apos) [e] [] cpos) (tDGet1 td ty):=by
 intro az s σ H Q I h;refine wpAny_Call_method m.base m.few m.line iT ee PySem.F.type_dict_get (thn (ho az s σ H _ I h) fun u s1 ⟨x,H1,I1,rx,a,ex,d,q1⟩=>?_);subst ex;obtain rfl:u=af.ref a:=rx;obtain ⟨t1,t2,_⟩:=isDct_at I1 d;refine ⟨t1,t2,?_⟩;rw [m.trees];refine fj rfl (gY (iD (thn (he az s1 σ H1 _ I1 q1) fun iv s2 ⟨y,H2,I2,ry,ov,g,q2⟩=>Calls.spliced_nil ?_)));exact d_get1 hu I2 g ry fun w' s3 I3 rw'=>⟨_,H2,I3,rw',q2⟩
theorem pe_dget2 (hu:X.A.units+1<cLine)(ho:PE X o td)(he:PE X e ty)(hf:PE X f tx)(m:M2 X o "get" apos e f cpos):PE X (.Call (.Attribute o "get" apos) [e,f] [] cpos) (tDGet2 td ty tx):=by
 intro az s σ H Q I h;refine wpAny_Call_method m.base m.few m.line iT ee PySem.F.type_dict_get (thn (ho az s σ H _ I h) fun u s1 ⟨x,H1,I1,rx,a,ex,d,q1⟩=>?_);subst ex;obtain rfl:u=af.ref a:=rx;obtain ⟨t1,t2,_⟩:=isDct_at I1 d;refine ⟨t1,t2,?_⟩;rw [m.trees];refine fj rfl (gY (iD (thn (he az s1 σ H1 _ I1 q1) fun iv s2 ⟨y,H2,I2,ry,q2⟩ =>
  iD (thn (hf az s2 σ H2 _ I2 q2) fun fv s3 ⟨z,H3,I3,rz,ov,g,q3⟩=>Calls.spliced_nil ?_))))
 exact d_get2 hu I3 g ry rz fun w' s4 I4 rw'=>⟨_,H3,I4,rw',q3⟩
end
end L2
namespace Att
open PySem PySem.W PySem.Calls PyProof.Rows
end Att
namespace L2
open PySem PySem.Spec PyProof.Rows
theorem call_lenD:gF X (.builtin "len") (fun xs H Q=>∃ a kvs,xs=[V.ref a]∧H a=some (.dK kvs)∧Q (.int kvs.length) H):=by
 intro az s σ H xs us Q I r h;obtain ⟨a,kvs,rfl,ha,q⟩:=h;obtain ⟨u,rfl,ru⟩:=jA r;cases ru;exact d_len I (.inl ha) fun t s' I'=>⟨.int kvs.length,H,I',⟨t,rfl⟩,q⟩
def DiK (P:aB)(w:aV)(K:ai)(a:ak)(kvs:List (Key×V)):Prop :=
 (a == eK)=false∧∃ vs,KV kvs vs∧∀ h:bj,K.In h→h.DictOf (dR P w) a vs
def tDGetK (kvs:List (Key×V))(ty:TE):TE:=fun σ H Q=>ty σ H fun y H1=>∃ k v,y=kV k∧jT kvs k=some v∧Q v H1
def tDNotInK (kvs:List (Key×V))(ty:TE):TE:=fun σ H Q=>ty σ H fun y H1=>∃ k,y=kV k∧Q (.bl (!(jT kvs k).isSome)) H1
section
variable {o i:Expr}{ty:TE}
theorem pe_dgetK (D:DiK X.prog X.w X.K a kvs)(ho:PE X o (tC (.ref a)))(hi:PE X i ty)(hs:NoSl i):PE X (.Subscript o i pos) (tDGetK kvs ty):=by
 intro az s σ H Q I h;obtain ⟨hd,vs,rel,dd⟩:=D;refine subD_of PySem.F.slot_dict_getitem.lookup hs (thn (ho az s σ H (fun x H1=>x= .ref a∧H1=H) I ⟨rfl,rfl⟩) fun u s1 ⟨x,H1,I1,rx,ex,e1⟩=>?_);subst ex e1;obtain rfl:u=af.ref a:=rx;refine thn (hi az s1 σ H1 _ I1 h) fun iv s2 ⟨y,H2,I2,ry,k,v,ey,l,q⟩=>?_
 subst ey;have dd:=dd _ I2.kIn;obtain ⟨w',hw,rw'⟩:=RelO.some_of (v:=v) (o:=valueAt vs k) (by rw [←l];exact rel.val k);exact ⟨dd.typeIs,wpAny_getItem_of (kV_is ry) dd.mapOf hw ⟨v,H2,I2.tok _,rw',q⟩⟩
theorem pc_dnotinK (D:DiK X.prog X.w X.K a kvs)(hi:PE X i ty)(ho:PE X o (tC (.ref a))):PC X .NotIn i o (tDNotInK kvs ty):=by
 intro az s σ H Q I h;obtain ⟨hd,vs,rel,dd⟩:=D;refine thn (hi az s σ H _ I h) fun iv s1 ⟨y,H1,I1,ry,k,ey,q⟩=>thn (ho az s1 σ H1 (fun x H2=>x= .ref a∧H2=H1) I1 ⟨rfl,rfl⟩) fun u s2 ⟨x,H2,I2,rx,ex,e2⟩=>?_
 subst ex e2 ey;obtain rfl:u=af.ref a:=rx;have dd:=dd _ I2.kIn;refine wpAny_notIn_of (kV_is ry) hd dd.mapOf ?_;rw [←(rel.val k).isSome_eq];exact ⟨.bl _,H2,I2.tok _,rfl,q⟩
end
end L2
namespace HN
open PySem L2 PyProof.Rows
theorem cutU (hi:i=(n:Int)):cutV xs none (some i)=xs.take n:=by
 unfold cutV;subst hi;have e:=HT.sIx_nat xs.length xs.length n;rw [e];show (xs.drop 0).take (min n xs.length - 0)=xs.take n;rw [List.drop_zero,Nat.sub_zero]
 by_cases h:n≤xs.length
 ·rw [dI h]
 ·rw [Nat.min_eq_right (by lia),bP,gI (by lia)]
theorem cutF (hi:i=(n:Int)):cutV xs (some i) none=xs.drop n:=by
 unfold cutV;subst hi;have e:=HT.sIx_nat xs.length 0 n;rw [e];show (xs.drop (min n xs.length)).take (xs.length - min n xs.length)=xs.drop n
 by_cases h:n≤xs.length
 ·rw [dI h,gI (by rw [bR];lia)]
 ·rw [Nat.min_eq_right (by lia),List.drop_length,List.drop_of_length_le (by lia),List.take_nil]
end HN
namespace HN
open PySem L2 PyProof.Rows HT2
abbrev sRowR:b8:=top 28
inductive PR where
 | beat (b:Int)
 | line (n:Str) (ss:List Str) (rs:List Int)
 | oth (k:Str) (ns:List Str) (is:List Int)
def PR.at (H:Hp)(p:ak):PR→Prop
 | .beat b=>H p=some (.tup [.str "beat",.int b])
 | .line n ss rs=>∃ a b,H a=some (.tup (ss.map V.str))∧H b=some (.tup (rs.map V.int))∧H p=some (.tup [.str "line",.str n,.ref a,.ref b])
 | .oth k ns is=>H p=some (.tup (.str k::(ns.map V.str++is.map V.int)))
theorem PR.at.kept (S:bO H H'):∀ {r:PR},r.at H p→r.at H' p
 | .beat _,h=>S _ _ h
 | .line _ _ _,⟨a,b,h1,h2,h3⟩=>⟨a,b,S _ _ h1,S _ _ h2,S _ _ h3⟩
 | .oth _ _ _,h=>S _ _ h
def fms:List (Str×Nat×Nat):=[("stay",2,3),("change",3,3),("apart",3,1),("meet",4,1)]
def PR.wds (ws:List Str):PR→Prop
 | .beat _=>False
 | .line n ss rs=>ws[0]? =some ("line" :Str)∧LnW ws n ss rs
 | .oth k ns is=>ws=k::(ns++is.map ik)∧(k,ns.length,is.length)∈fms∧(∀ z∈ns,nam z=true)∧∀ i∈is,W60 i
structure Fms (P:aB)(w:aV)(K:ai)(mg:Str→Option af):Prop where
 ex:∃ aF t1 t2 t3 t4,mg "FORMS" =some (.ref aF)∧DiK P w K aF [(.inr "stay",.ref t1),(.inr "change",.ref t2),(.inr "apart",.ref t3),(.inr "meet",.ref t4)] ∧
  (∀ H,SqT K H t1 [.int 2,.int 3])∧(∀ H,SqT K H t2 [.int 3,.int 3])∧(∀ H,SqT K H t3 [.int 3,.int 1])∧∀ H,SqT K H t4 [.int 4,.int 1]
theorem Fms.at {P:aB}{w:aV}{K:ai}{mg:Str→Option af}(M:Fms P w K mg):∃ aF kvs,mg "FORMS" =some (.ref aF)∧DiK P w K aF kvs ∧
  ∀ k a b,(k,a,b)∈fms→k ≠ "line" ∧∃ t,jT kvs (.inr k)=some (.ref t)∧∀ H,SqT K H t [.int (a:Nat),.int (b:Nat)]:=by
 obtain ⟨aF,t1,t2,t3,t4,h1,h2,q1,q2,q3,q4⟩:=M.ex;refine ⟨aF,_,h1,h2,fun k a b h=>?_⟩;unfold fms at h;simp only [aq,aI,or_false,Prod.mk.injEq] at h
 rcases h with ⟨rfl,rfl,rfl⟩ | ⟨rfl,rfl,rfl⟩ | ⟨rfl,rfl,rfl⟩ | ⟨rfl,rfl,rfl⟩
 ·exact ⟨by trivial,t1,rfl,q1⟩
 ·exact ⟨by trivial,t2,rfl,q2⟩
 ·exact ⟨by trivial,t3,rfl,q3⟩
 ·exact ⟨by trivial,t4,rfl,q4⟩
theorem fms_few {k:Str}{a b:Nat}(h:(k,a,b)∈fms):a≤4∧b≤3:=by
 unfold fms at h;simp only [aq,aI,or_false,Prod.mk.injEq] at h;lia
theorem cutA {j:Int}(hi:i=(m:Int))(hj:j=(n:Int))(h1:m≤xs.length)(h2:n≤xs.length):cutV xs (some i) (some j)=(xs.drop m).take (n - m):=by
 subst hi hj;unfold cutV;rw [HT.sIx_nat,HT.sIx_nat,dI h1,dI h2]
inductive spRowR (vs:List V)(H:Hp)(Q:VK)(_:XK):Prop
 | mk (z:Str)(ws:List Str)(r:PR)(_:vs=[.str z])(_:z.length≤100000)(_:ck z sp_=ws)(_:r.wds ws)(_:∀ p H',bO H H'→r.at H' p→Q (.ref p) H')
section
variable {w:aV}
theorem scRowR:bE ["row","words","form","behind","names"] ["row"] (defScope sRowR):=by trivial
theorem ok_rowR {f3:ak}{fd3:aO}(F:Fun K "read_row" "read_row" sRowR f fd)(T:Nm mg)(M:Fms P w K mg)(GN:Fn K mg "read_name" sNam pzc f1 fd1)(FN:cI P w K mg base CX0 1 f1 fd1 pzc spNam)(GW:Fn K mg "read_whole" sRead pzc f2 fd2)(FW:cI P w K mg base CX0 2 f2 fd2 pzc kC)
  (GL:Fn K mg "read_line" sLineR ["words"] f3 fd3) (FL:cI P w K mg base CX0 3 f3 fd3 ["words"] spLineR):cI P w K mg base CX0 4 f fd ["row"] spRowR:=by
 refine F.ok scRowR (by contradiction) (fun cdv A outer s H vs Q E hr h=>?_);obtain ⟨z,ws,r,rfl,hz,hs,hw,k⟩:=h;have hr1:=hr.mono (show 1≤3 by lia);have hr2:=hr.mono (show 2≤3 by lia);obtain ⟨aF,kvs,hF,D,fm⟩:=M.at;refine ⟨_,cz (psZ 1 scRowR.nd (jc c8 PySem.F.slot_str_split PySem.F.type_str_split mt_split (pv 0) (ah fY aw)))
  (cz (fQ (cD jC (dO bh (pv 1) aT (fun _ _=>rfl)) fY (cP _)) (bp (bI (pc1 GL FL hr (ah (pv 1) aw)))) cM)
  (cz (fQ (pt_cmp (pc_dnotinK D (dO bh (pv 1) aT (fun _ _=>rfl)) (kF (v:= .ref aF) rfl hF rfl)) rfl) (bp gU) cM)
  (cz (psZ 2 scRowR.nd (pe_dgetK D (kF (v:= .ref aF) rfl hF rfl) (dO bh (pv 1) aT (fun _ _=>rfl)) (fun _ _=>rfl)))
  (cz (psZ 3 scRowR.nd (cn eN aT (ixZ (pv 2))))
  (cz (fQ (cD op_ne (cw cS rfl T.len bD (ah (pv 1) aw)) (cn eN (pv 3) (ixZ (pv 2))) (cP _)) (bp gU) cM)
  (cz (ps_setC (iy:=4) (fr:=[]) (js:=[]) scRowR.nd rfl (.inl rfl) rfl (ix (gc jM (pv 1) (gH aT) (gH (pv 3)))) (by trivial) rfl (by trivial) rfl (by exists sRowR) (by trivial) rfl (by trivial) (fun _ _ _ _ _=>⟨(pc1 GN FN hr1 (ah (pv 0) aw)),gp⟩))
  (bp (bI (dQ gN rfl T.ttup gP (ah (cn jD (cn jD (gc jM (pv 1) hE (gH aT)) (pv 4)) (hI (fr:=[]) (js:=[]) rfl (ix (gc jM (pv 1) (gH (pv 3)) hE)) (by trivial) rfl (by trivial) rfl (by exists sRowR) (by trivial) rfl (by trivial) (fun _ _ _ _ _=>⟨(pc1 GW FW hr2 (ah (pv 0) aw)),gp⟩))) aw)))))))))),?_⟩
 have one:((sp_:Str).length == 0)=false:=by trivial
 refine ⟨_,rfl,rfl,_,_,rfl,rfl,one,bQ (show _≤200000 by lia) (by decide),fun L H1 S1 e1=>?_⟩;have e1:H1 L=some (.lst ((ck z sp_).map V.str)):=e1;rw [hs] at e1;cases r with
 | beat b=>exact hw.elim
 | line n ss rs =>
  obtain ⟨h0,W⟩:=hw;refine ⟨_,rfl,L,_,_,_,rfl,rfl,SqL.of e1,aC (j:=0) (by rw [aD,h0];rfl),rfl,_,rfl,?_⟩;rw [show decide (V.str "line" =V.str "line")=true from by trivial];refine iteT ?_;exact ⟨_,rfl,L,ws,n,ss,rs,rfl,e1,W,fun p a b H2 S2 g1 g2 g3=>k p H2 (S1.trans S2) ⟨a,b,g1,g2,g3⟩⟩
 | oth kd ns is =>
  obtain ⟨rfl,hf,nn,ii⟩:=hw;obtain ⟨hk,t,ht,hq⟩:=fm _ _ _ hf;have few:=fms_few hf;have e1:H1 L=some (.lst (V.str kd::(ns.map V.str++(is.map ik).map V.str))):=by rw [e1,bJ,au]
  have hlen:(V.str kd::(ns.map V.str++(is.map ik).map V.str)).length=1+ns.length+is.length:=by
   rw [aP,av,ae,ae,ae];lia
  have big:(100000:Nat)≤ar:=by decide
  refine ⟨_,rfl,L,_,_,_,rfl,rfl,SqL.of e1,aC (j:=0) rfl,rfl,_,rfl,jz (lM fun z=>hk (by injection z)) ?_⟩;refine ⟨_,rfl,L,_,_,_,rfl,rfl,SqL.of e1,aC (j:=0) rfl,.inr kd,rfl,_,rfl,jz (by rw [ht];rfl) ?_⟩;refine ⟨_,rfl,L,_,_,_,rfl,rfl,SqL.of e1,aC (j:=0) rfl,.inr kd,_,rfl,ht,?_⟩;refine ⟨_,rfl,t,_,_,_,rfl,rfl,hq H1,aC (j:=0) rfl,_,_,rfl,rfl,?_⟩;refine ⟨_,rfl,L,_,rfl,.inl (SqL.of e1),_,rfl,_,rfl,t,_,_,_,rfl,rfl,hq H1,aC (j:=1) rfl,_,_,rfl,rfl,rfl,_,rfl,jz ?_ ?_⟩
  ·rw [hlen,lL (by congr 1 <;> lia)];rfl
  refine ⟨_,rfl,_,rfl,_,rfl,_,rfl,L,_,rfl,SqL.of e1,fun D1 H2 S2 d1=>?_⟩;rw [cutA (i:=1) (j:=1+(ns.length:Int)) (m:=1) (n:=1+ns.length) rfl (by lia) (by rw [hlen];lia) (by rw [hlen];lia)] at d1;have d1:H2 D1=some (.lst (ns.map V.str)):=by
   rw [d1];show some (HO.lst ((ns.map V.str++(is.map ik).map V.str).take (1+ns.length - 1)))=_;rw [Nat.add_sub_cancel_left];congr 2;exact List.take_left' (ae _)
  refine ⟨D1,rfl,⟨_,SqL.of d1⟩,?_⟩;refine hZ (K:=K) (a:=D1) (xs:=ns.map V.str) (fun j zs H3=>bO H2 H3∧zs=(ns.take j).map V.str) ⟨bO.refl _,rfl⟩ (fun j zs H3 hj ⟨g1,g2⟩=>?_) (by rw [ae];lia) (fun j x zs H3 hx3 ⟨g1,g2⟩=>?_) (fun zs H3 ⟨g1,g2⟩ D hD=>?_)
  ·refine ⟨SqL.of (g1 _ _ d1),?_⟩
   rw [g2,ae,bq];lia
  ·rw [aD] at hx3
   obtain ⟨y,hn3,rfl⟩:=aN.mp hx3;refine fk ?_;refine ⟨_,rfl,y,rfl,nn y (aG hn3),fun H4 S4=>⟨g1.trans S4,?_⟩⟩;rw [g2,bS,hn3,au];rfl
  rw [ae,bP] at g2;have S5:bO H1 (upd H3 D (.lst zs)):=S2.trans (g1.trans (bO.put (bO.refl H3) hD));generalize hH:upd H3 D (.lst zs)=H5 at S5;have d5:H5 D=some (.lst (ns.map V.str)):=by rw [←hH,aK,g2]
  have e5:=S5 _ _ e1;refine ⟨_,rfl,_,rfl,L,_,rfl,SqL.of e5,fun D2 H6 S6 d6=>?_⟩;rw [cutU (i:=1) (n:=1) rfl] at d6;have d6:H6 D2=some (.lst [V.str kd]):=d6;refine ⟨_,rfl,D2,D,_,_,rfl,rfl,d6,S6 _ _ d5,(by rw [ae];show 1+ns.length≤ar;lia),fun D3 H7 S7 d7=>?_⟩;have e7:=(S6.trans S7) _ _ e5;refine ⟨_,rfl,_,rfl,_,rfl,L,_,rfl,SqL.of e7,fun D4 H8 S8 d8=>?_⟩;rw [cutF (i:=1+(ns.length:Int)) (n:=1+ns.length) (by lia)] at d8;have d8:H8 D4=some (.lst ((is.map ik).map V.str)):=by
   rw [d8];rw [Nat.add_comm 1 ns.length,List.drop_succ_cons];congr 2;exact List.drop_left' (ae _)
  refine ⟨D4,rfl,⟨_,SqL.of d8⟩,?_⟩;refine hZ (K:=K) (a:=D4) (xs:=(is.map ik).map V.str) (fun j zs H3=>bO H8 H3∧zs=(is.take j).map V.int) ⟨bO.refl _,rfl⟩ (fun j zs H3 hj ⟨g1,g2⟩=>?_) (by rw [ae,ae];lia) (fun j x zs H3 hx3 ⟨g1,g2⟩=>?_) (fun zs2 H9 ⟨g3,g4⟩ D' hD'=>?_)
  ·refine ⟨SqL.of (g1 _ _ d8),?_⟩
   rw [g2,ae,bq];lia
  ·rw [bZ,aD] at hx3
   obtain ⟨i,hn3,rfl⟩:=aN.mp hx3;refine fk ?_;refine ⟨_,rfl,i,rfl,ii i (aG hn3),fun H4 S4=>⟨g1.trans S4,?_⟩⟩;rw [g2,bS,hn3,au];rfl
  rw [ae,ae,bP] at g4;have S10:bO H7 (upd H9 D' (.lst zs2)):=S8.trans (g3.trans (bO.put (bO.refl H9) hD'));have d10:=S10 _ _ d7;refine ⟨D3,D',_,_,rfl,rfl,d10,(by rw [aK]),(by rw [g4,av,ae,ae];show 1+ns.length+is.length≤ar;lia),fun D5 H11 S11 d11=>?_⟩;refine ⟨D5,_,rfl,SqL.of d11,fun p H12 S12 d12=>k p H12 (S1.trans (S5.trans (S6.trans (S7.trans (S10.trans (S11.trans S12)))))) ?_⟩;show H12 p=some (.tup (.str kd::(ns.map V.str++is.map V.int)));rw [d12,g4];rfl
end
structure RsAt (H:Hp)(xs:List V)(rs:List PR):Prop where
 len:xs.length=rs.length
 get:∀ (i:Nat) (r:PR),rs[i]? =some r→∃ a:ak,xs[i]? =some (V.ref a)∧r.at H a
theorem RsAt.kept {rs:List PR}(S:bO H H')(h:RsAt H xs rs):RsAt H' xs rs:=⟨h.len,fun i r e=>let ⟨a,h1,h2⟩:=h.get i r e;⟨a,h1,h2.kept S⟩⟩
theorem RsAt.snoc {rs:List PR}{r:PR}(h:RsAt H xs rs)(q:r.at H a):RsAt H (xs++[V.ref a]) (rs++[r]):=by
 refine ⟨by rw [av,av,h.len];rfl,fun i r' e=>?_⟩
 by_cases hi:i<rs.length
 ·rw [eJ hi] at e
  obtain ⟨b,h1,h2⟩:=h.get i r' e;exact ⟨b,by rw [eJ (by rw [h.len];exact hi)];exact h1,h2⟩
 ·rw [dj (by lia)] at e
  have hl:=h.len;have h0:i - rs.length=0:=by
   have:=(ao.mp e).1;simp at this;lia
  rw [h0] at e;cases e;exact ⟨a,by rw [dj (by lia),hl,h0];rfl,q⟩
theorem RsAt.cons {H:Hp}{xs:List V}{rs:List PR}{a:ak}{r:PR}(h:RsAt H xs rs)(q:r.at H a):RsAt H (V.ref a::xs) (r::rs):=by
 refine ⟨by rw [aP,aP,h.len],fun i r' e=>?_⟩;cases i with
 | zero=>cases e;exact ⟨a,rfl,q⟩
 | succ i=>exact h.get i r' e
inductive spPlanR (vs:List V)(H:Hp)(Q:VK)(_:XK):Prop
 | mk (z z0:Str)(b:Int)(zr:List (Str×PR))(_:vs=[.str z])(_:z.length≤100000)(_:ck z nl_=z0::zr.map (·.1))(_:zr.length≤100000)(_:z0.length≤100000)(_:ck z0 sp_=[("beat" :Str),ik b])(_:W60 b)(_:(∀ q∈zr,q.1.length≤100000∧q.2.wds (ck q.1 sp_)))(_:∀ p xs H',bO H H'→H' p=some (.lst xs)→RsAt H' xs (.beat b::zr.map (·.2))→Q (.ref p) H')
abbrev sPlanR:b8:=top 29
section
variable {w:aV}
theorem scPlanR:bE ["text","rows"] pzf (defScope sPlanR):=by trivial
theorem ok_planR (F:Fun K "read_plan" "read_plan" sPlanR f fd)(T:Nm mg)(T2:Nm2 mg)(GB:Fn K mg "read_beat" sBeatR ["row"] f1 fd1)(FB:cI P w K mg base CX0 3 f1 fd1 ["row"] spBeatR)(GR:Fn K mg "read_row" sRowR ["row"] f2 fd2)(FR:cI P w K mg base CX0 4 f2 fd2 ["row"] spRowR) :
  cI P w K mg base CX0 5 f fd pzf spPlanR:=by
 refine F.ok scPlanR (by contradiction) (fun cdv A outer s H vs Q E hr h=>?_);obtain ⟨z,z0,b,zr,rfl,hz,hs,hn,hz0,hs0,hb,hw,k⟩:=h;have hr3:=hr.mono (show 3≤4 by lia);refine ⟨_,cz (fQ (j5 (jw (pe_isStr T T2 (pv 0)))) (bp gU) cM)
  (cz (psZ 1 scPlanR.nd (jc c8 PySem.F.slot_str_split PySem.F.type_str_split mt_split (pv 0) (ah fY aw)))
  (bp (bI (cn jD (iQ (ah (pc1 GB FB hr3 (ah (dO bh (pv 1) aT (fun _ _=>rfl)) aw)) aw)) (hI (fr:=[]) (js:=[]) rfl (ix (gc jM (pv 1) (gH aT) hE)) (by trivial) rfl (by trivial) rfl (by exists sPlanR) (by trivial) rfl (by trivial) (fun _ _ _ _ _=>⟨(pc1 GR FR hr (ah (pv 0) aw)),gp⟩)))))),?_⟩
 have one:((nl_:Str).length == 0)=false:=by trivial
 have big:(200000:Nat)≤ar:=by decide
 refine ⟨_,rfl,_,"str",rfl,rfl,_,rfl,jz (by decide) ?_⟩;refine ⟨_,rfl,rfl,_,_,rfl,rfl,one,bQ (show _≤200000 by lia) (by decide),fun L H1 S1 e1=>?_⟩;have e1:H1 L=some (.lst ((ck z nl_).map V.str)):=e1;rw [hs] at e1;have e1:H1 L=some (.lst (V.str z0::(zr.map (·.1)).map V.str)):=e1;refine ⟨_,rfl,L,_,_,_,rfl,rfl,SqL.of e1,aC (j:=0) rfl,z0,b,rfl,hz0,hs0,hb,fun p0 H2 S2 e2=>?_⟩;refine ⟨szZ1,fun D0 H3 S3 d3=>?_⟩;have S13:=S2.trans S3;refine ⟨_,rfl,_,rfl,L,_,rfl,SqL.of (S13 _ _ e1),fun D1 H4 S4 d4=>?_⟩;rw [cutF (i:=1) (n:=1) rfl] at d4;have d4:H4 D1=some (.lst ((zr.map (·.1)).map V.str)):=d4;refine ⟨D1,rfl,⟨_,SqL.of d4⟩,?_⟩;refine hZ (K:=K) (a:=D1) (xs:=(zr.map (·.1)).map V.str) (fun j zs H5=>bO H4 H5∧RsAt H5 zs ((zr.take j).map (·.2))) ⟨bO.refl _,⟨rfl,fun i r e=>nomatch e⟩⟩ (fun j zs H5 hj ⟨g1,g2⟩=>?_) (by rw [ae,ae];lia) (fun j x zs H5 hx ⟨g1,g2⟩=>?_) (fun zs H5 ⟨g1,g2⟩ D hD=>?_)
 ·refine ⟨SqL.of (g1 _ _ d4),?_⟩
  rw [g2.len,ae,bq];lia
 ·rw [bZ,aD] at hx
  obtain ⟨q,hq,rfl⟩:=aN.mp hx;obtain ⟨w1,w2⟩:=hw q (aG hq);refine fk ?_;refine ⟨_,rfl,q.1,_,q.2,rfl,w1,rfl,w2,fun p H6 S6 e6=>⟨g1.trans S6,?_⟩⟩;rw [bS,hq,au];exact (g2.kept S6).snoc e6
 rw [ae,ae,bP] at g2;have hl:=g2.len;rw [ae] at hl;have S7:bO H5 (upd H5 D (.lst zs)):=bO.put (bO.refl H5) hD;have S8:bO H3 (upd H5 D (.lst zs)):=S4.trans (g1.trans S7);refine ⟨D0,D,_,_,rfl,rfl,S8 _ _ d3,(by rw [aK]),(by show 1+zs.length≤ar;lia),fun p H9 S9 e9=>?_⟩;exact k p _ H9 (S1.trans (S13.trans (S8.trans S9))) e9 (((g2.kept S7).kept S9).cons (show PR.at H9 p0 (.beat b) from (S3.trans (S8.trans S9)) _ _ e2))
end
end HN
variable {rs:List HN.PR}
namespace L2
open PySem PySem.Spec PyProof.Rows
open AutoSeq1 (wpAny_loadPart')
theorem jU (p:ak)(items:Array af)(x:af)(e:af→Bool)(he:∀ y,y∈items→PySem.MeetsSeq.EqGives y x (e y))(j:Nat)(hj:j<items.size)(hit:e items[j]=true)(hno:∀ m (hm:m<items.size),m<j→e items[m]=false) :
  Meets (dY.«tuple.index» ⟨[.ref p,x],[]⟩) (fun _ R s=>IsTup s.heap p items∧R (.ok (.ret (.int j s.toks))) { s with toks:=s.toks+1 }) :=
 .of_wp fun prog w A R s h=>by
  obtain ⟨hp,g,d,tk,os⟩:=s;obtain ⟨⟨o,ho,hc,n,hd⟩,h⟩:=h
  wp_walk using fO ho
  rw [hd];refine ax (ax ?_)
  dsimp only
  refine ag (ax (ag (ax (ag ?_))));rw [Nat.min_self,Std.Legacy.Range.forIn_eq_forIn_range'];refine wpAny_forIn_list _ (fun l b s'=>∃ k,l=List.range' k (items.size - k)∧k≤j∧b=(none,())∧s'=⟨hp,g,d,tk,os⟩) _ ?_ ?_ _ _ ?_
  ·rintro i rest b s' ⟨k,hl,hk,rfl,rfl⟩
   have hk2:items.size - k=(items.size - (k+1))+1:=by lia
   rw [hk2,List.range'_succ] at hl;injection hl with h1 h2
   subst h1;have hik:i<items.size:=by lia
   rw [Array.getElem?_eq_getElem hik];refine ag (he _ (Array.getElem_mem hik) prog w _ _ _ _ ?_)
   by_cases hij:i=j
   ·subst hij
    rw [hit,lJ rfl]
    wp_walk
    first | exact ⟨_,rfl,h⟩ | exact h
   ·rw [hno i hik (by lia),lI aQ]
    exact ax ⟨i+1,h2,by lia,rfl,rfl⟩
  ·rintro b s' ⟨k,hl,hk,rfl,rfl⟩
   have hk2:items.size - k=(items.size - (k+1))+1:=by lia
   rw [hk2,List.range'_succ] at hl;cases hl
  ·refine ⟨0,?_,cK _,rfl,rfl⟩
   simp [Std.Legacy.Range.size]
theorem Inv.tupleN (I:Inv X az σ H s)(h:H a=some (.tup xs)):∃ its:List af,eI xs its∧jg s.heap a its.toArray:=by
 obtain ⟨z,its,r,p⟩:=I.hok a _ h;exact ⟨its,r,p⟩
def tBMT (r:V→List V→Hp→VK→Prop)(to:TE)(t:TA):TE:=fun σ H Q=>to σ H fun x H1=>(∃ p xs,x= .ref p∧H1 p=some (.tup xs))∧t σ H1 fun xs H2=>r x xs H2 Q
theorem pe_bmT {o:Expr}{id:String}{r:V→List V→Hp→VK→Prop}(slot:Slot "tuple" name id)(hty:typeOf (.builtin id)=fe (.type "method_descriptor"))(hm:MtR X id r)(ho:PE X o to)(ha:PA X (e::es) t)
  (hbase:fV o name X.env (cN o X.env)=cN o X.env:=by rfl)
  (hfew:((eu cpos (aU (e::es) X.env)).all (fun x=> !x.1) && (backToKw cpos (iB [] X.env)).all (fun x=>x.1.isSome) && decide ((e::es).length+([]:List Keyword).length+(if ([]:List Keyword).isEmpty then 0 else 1)<30))=true:=by rfl)
  (hline:(apos.endLine == cpos.line)=true:=by rfl) (hs:aU (e::es) X.env=(false,cN e X.env)::aU es X.env:=by rfl) (hplain:(eu cpos (aU es X.env)).any (·.1)=false:=by rfl) :
  PE X (.Call (.Attribute o name apos) (e::es) [] cpos) (tBMT r to t):=by
 intro az s σ H Q I h;refine wpAny_Call_method_late hbase hfew hline rfl (thn (ho az s σ H _ I h) fun v s1 ⟨x,H1,I1,r1,ty,q1⟩=>?_);obtain ⟨p,xs,rfl,hp⟩:=ty;cases (show v=af.ref p from r1);obtain ⟨its,rv,ob,e1,c1,d1,n,dd⟩:=I1.tupleN hp;refine ⟨"tuple",id,PySem.F.plainAttrs_tuple,slot,hty,⟨ob,e1,c1⟩,fun a ea=>by cases ea;exact ⟨ob,e1,d1⟩,?_⟩;have hA:=ha cpos az s1 σ H1 _ I1 q1;rw [hs] at hA ⊢;refine fj (by show (false || (eu cpos (aU es X.env)).any (·.1))=false;rw [hplain] <;> rfl) (gY ?_);exact thn hA fun us s2 ⟨vs,H2,I2,r2,q2⟩=>hm az s2 σ H2 (.ref p) vs (.ref p) us Q I2 r1 r2 q2
end L2
namespace L2
open PySem PySem.Spec PyProof.Rows
inductive rIndexS (K:ai)(x:V)(vs:List V)(H:Hp)(Q:VK):Prop
 | mk (p:ak)(ns:List Str)(k:Str)(i:Nat)(_:x= .ref p)(_:vs=[.str k])(_:SqT K H p (ns.map V.str))(_:ns[i]? =some k)(_:(∀ j,j<i→ns[j]? ≠some k))(_:Q (.int (i:Nat)) H)
theorem mt_indexS:MtM X "tuple.index" (rIndexS X.K):=by
 intro az s σ H x vs v us Q I rx rv h;obtain ⟨p,ns,k,i,rfl,rfl,hq,hi,hno,q⟩:=h;cases (show v=af.ref p from rx);obtain ⟨u,rfl,ru⟩:=rv.one;obtain ⟨t,rfl⟩:=(show ∃ t,u=af.str k t from ru);obtain ⟨its,r,pl,hz⟩:=I.tuple hq;have hl:its.length=ns.length:=by rw [←r.length,ae]
 have hil:i<ns.length:=(ao.mp hi).1;have at_:∀ (m:Nat) (hm:m<its.toArray.size),∃ tk,its.toArray[m]=af.str (ns[m]'(by rw [←hl];simpa using hm)) tk:=fun m hm=>by
  have hm':m<ns.length:=by rw [←hl];simpa using hm
  obtain ⟨u,hu,ru⟩:=r.get (i:=m) (x:=V.str ns[m]) (by rw [aD,gE hm'];rfl);obtain ⟨tk,rfl⟩:=(show ∃ t,u=af.str ns[m] t from ru);exact ⟨tk,by have:=(ao.mp hu).2;simpa using this⟩
 have e0:∀ (m:Nat) (hm:m<its.toArray.size),(match its.toArray[m] with | .str y _=>y == k | _=>false)=(ns[m]'(by rw [←hl];simpa using hm) == k):=fun m hm=>by
  obtain ⟨tk,e⟩:=at_ m hm;rw [e]
 have his:i<its.toArray.size:=by rw [ay,hl];exact hil
 refine ie F.slot_tuple_index ⟨_,pl.choose_spec.1,pl.choose_spec.2.1⟩ F.entry_tuple_index (F.args_tuple_index_2 _ _) (jU p its.toArray (.str k t) (fun v=>match v with | .str y _=>y == k | _=>false) (fun y hy=>?_) i his ?_ (fun m hm hmi=>?_)) ⟨pl,⟨.int (i:Nat),H,I.tok _,⟨_,rfl⟩,q⟩⟩
 ·obtain ⟨m,hm,rfl⟩:=Array.getElem_of_mem hy
  obtain ⟨tk,e⟩:=at_ m hm;rw [e];exact fun prog w A E s Q h=>wpAny_eqBool_str h
 ·rw [e0 i his,beq_iff_eq]
  exact (ao.mp hi).2
 ·rw [e0 m hm,beq_eq_false_iff_ne]
  have hm':m<ns.length:=by rw [←hl];simpa using hm
  intro z;exact hno m hmi (by rw [gE hm',z])
end L2
namespace HN
open PySem L2 PyProof.Rows HT2
abbrev cLin:b8:=top 30
abbrev sInitL:b8:=clsOf cLin 0
abbrev sComL:b8:=clsOf cLin 1
abbrev sGoL:b8:=clsOf cLin 2
structure LinC (K:ai)(C:ak):Prop where
 cl:Cls K C
 n1:ir K C "name"
 n2:ir K C "stops"
 n3:ir K C "runs"
 n4:ir K C "stays"
 n5:ir K C "first"
abbrev linF (n:Str)(a b D:ak)(fi:Int):List (Str×V):=[("name",.str n),("stops",.ref a),("runs",.ref b),("stays",.ref D),("first",.int fi)]
structure LinD (H:Hp)(C x:ak)(n:Str)(ss:List Str)(rs:List Int)(D:ak)(fi:Int):Prop where
 ex:∃ dx a b,H x=some (.ins C dx (linF n a b D fi))∧H a=some (.tup (ss.map V.str))∧H b=some (.tup (rs.map V.int))
inductive spInitL (C:ak)(vs:List V)(H:Hp)(Q:VK)(_:XK):Prop
 | mk (x dx a b:ak)(n:Str)(fi:Int)(_:vs=[.ref x,.str n,.ref a,.ref b,.int fi])(_:H x=some (.ins C dx []))(_:∀ (D:ak) (H':Hp),(∀ c o,c≠x→H c=some o→H' c=some o)→H D=none→H' D=some (.dK [])→H' x=some (.ins C dx (linF n a b D fi))→Q .non H')
inductive spGoL (C:ak)(vs:List V)(H:Hp)(Q:VK)(_:XK):Prop
 | mk (x D:ak)(n z:Str)(ss:List Str)(rs:List Int)(fi:Int)(_:vs=[.ref x,.str z])(_:LinD H C x n ss rs D fi)(_:ss.length≤1000)(_:2≤ss.length)(_:ss.Nodup)(_:∀ H',bO H H'→(∀ i:Nat,ss[i]? =some z→i+1<ss.length→Q (.int (fi+2 * i)) H')∧((∀ i:Nat,ss[i]? =some z→ss.length≤i+1)→Q .non H'))
theorem inV_strs (x:Str):∀ p:List Str,inV (.str x) (p.map V.str)=decide (x∈p)
 | []=>by simp [inV]
 | y::p=>by
  have ih:=inV_strs x p;unfold inV at ih ⊢;rw [bJ,gm,ih]
  by_cases e:y=x
  ·subst e;simp [eqV]
  ·have:eqV (.str y) (.str x)=false:=by simp [eqV,e]
   rw [this];simp [aq,cf e]
theorem kS:∀ p:List Str,(p.map V.str).all flatV=true
 | []=>rfl
 | _::p=>kS p
theorem il {i:Nat}(nd:ss.Nodup)(h:ss[i]? =some z):∀ j,j<i→ss[j]? ≠some z:=fun j hj e=>by
 have hi:=(ao.mp h);have hj':=(ao.mp e);obtain ⟨a,b⟩:=hi;obtain ⟨c,d⟩:=hj';exact (dm.mp nd) j i c a hj (d.trans b.symm)
inductive spComL (C:ak)(vs:List V)(H:Hp)(Q:VK)(_:XK):Prop
 | mk (x D:ak)(n z:Str)(ss:List Str)(rs:List Int)(fi:Int)(_:vs=[.ref x,.str z])(_:LinD H C x n ss rs D fi)(_:ss.length≤1000)(_:2≤ss.length)(_:ss.Nodup)(_:∀ H',bO H H'→(∀ i:Nat,ss[i]? =some z→1≤i→Q (.int (fi+2 * i - 1)) H')∧((∀ i:Nat,ss[i]? =some z→i=0)→Q .non H'))
section
variable {w:aV}
theorem scInitL:bE pzo pzo (defScope sInitL):=by trivial
theorem ok_initL (F:Fun K "__init__" "Line.__init__" sInitL f fd)(CC:LinC K C):cI P w K mg base CX0 1 f fd pzo (spInitL C):=by
 refine F.ok scInitL (by contradiction) (fun cdv A outer s H vs Q E hr h=>?_);obtain ⟨x,dx,a,b,n,fi,rfl,hx,k⟩:=h;refine ⟨_,cz (j6 (pv 0) (pv 1) rfl) (cz (j6 (pv 0) (pv 2) rfl) (cz (j6 (pv 0) (pv 3) rfl) (cz (j6 (pv 0) pe_dnewK rfl) (bp (j6 (pv 0) (pv 4) rfl))))),?_⟩;refine ⟨_,rfl,_,rfl,x,C,dx,_,rfl,hx,CC.cl,CC.n1,(by decide),?_⟩;refine ⟨_,rfl,_,rfl,x,C,dx,_,rfl,aK,CC.cl,CC.n2,(by show 1<1000;decide),?_⟩;refine ⟨_,rfl,_,rfl,x,C,dx,_,rfl,aK,CC.cl,CC.n3,(by show 2<1000;decide),?_⟩;refine fun D hD=>⟨_,rfl,x,C,dx,_,rfl,(by rw [aR (aJ aK hD)];exact aK),CC.cl,CC.n4,(by show 3<1000;decide),?_⟩
 have xD:x≠D:=aJ aK hD;refine ⟨_,rfl,_,rfl,x,C,dx,_,rfl,aK,CC.cl,CC.n5,(by show 4<1000;decide),?_⟩;rw [aR (cf xD),aR (cf xD),aR (cf xD)] at hD;refine k D _ (fun c o hc e=>?_) hD ?_ aK
 ·rw [aR hc,aR hc,aR (aJ e hD),aR hc,aR hc,aR hc];exact e
 ·rw [aR (cf xD),aR (cf xD),aK]
theorem scGoL:bE pzg pzg (defScope sGoL):=by trivial
theorem ok_goL (F:Fun K "going" "Line.going" sGoL f fd)(CC:LinC K C):cI P w K mg base CX0 1 f fd pzg (spGoL C):=by
 refine F.ok scGoL (by contradiction) (fun cdv A outer s H vs Q E hr h=>?_);obtain ⟨x,D,n,z,ss,rs,fi,rfl,⟨dx,a,b,hx,ha,hb⟩,few,two,nd,k⟩:=h;refine ⟨_,bp (bI (pe_ifExp (cD (r:=rIn K false) op_in_seq (pv 1) (gc jB (dk (pv 0) rfl) hE (gH (pe_un un_neg aT))) rfl) (cn eN (dk (pv 0) rfl) (cn iG aT (pe_bmT (r:=rIndexS K) PySem.F.slot_tuple_index PySem.F.type_tuple_index mt_indexS (dk (pv 0) rfl) (ah (pv 1) aw)))) jy)),?_⟩;have hls:(ss.map V.str).length=ss.length:=ae _;have e1:HT.sIx (ss.map V.str).length (ss.map V.str).length (some (-1))=ss.length - 1:=by
  rw [hls];show (if (-1:Int)<0 then ((-1:Int)+(ss.length:Int)).toNat else min (-1:Int).toNat ss.length)=_;rw [lJ (by decide)];lia
 refine ⟨_,rfl,_,rfl,x,C,dx,_,_,rfl,hx,CC.cl,CC.n2,rfl,_,rfl,_,rfl,a,_,rfl,SqT.of ha,?_,fun p H1 S1 e=>?_⟩
 ·rw [e1,hls]
  intro q;lia
 have ec:cutV (ss.map V.str) none (some (-1))=(ss.take (ss.length - 1)).map V.str:=by
  unfold cutV;rw [e1];show ((ss.map V.str).drop 0).take (ss.length - 1 - 0)=_;rw [List.drop_zero,Nat.sub_zero,List.map_take]
 rw [ec] at e;refine ⟨p,_,rfl,.inr (SqT.of e),rfl,kS _,_,rfl,?_⟩;show if inV (.str z) ((ss.take (ss.length - 1)).map V.str)=true then _ else _;rw [inV_strs];refine jG (fun hc=>?_) (fun hc=>?_)
 ·obtain ⟨i,hi⟩:=cZ (lN hc)
  have hi2:i<ss.length - 1:=by
   have:=(ao.mp hi).1;rw [bq] at this;lia
  rw [iX hi2] at hi;refine ⟨_,rfl,x,C,dx,_,_,rfl,S1 _ _ hx,CC.cl,CC.n5,rfl,_,rfl,x,C,dx,_,_,rfl,S1 _ _ hx,CC.cl,CC.n2,rfl,⟨a,_,rfl,S1 _ _ ha⟩,_,rfl,a,ss,z,i,rfl,rfl,SqT.of (S1 _ _ ha),hi,il nd hi,?_⟩;exact ⟨_,_,rfl,rfl,.inl ⟨by decide,by decide⟩,_,_,rfl,rfl,(k H1 S1).1 i hi (by lia)⟩
 ·refine (k H1 S1).2 fun i hi=>?_
  have hn:z ∉ ss.take (ss.length - 1):=fun q=>hc (lL q)
  by_cases q:i<ss.length - 1
  ·exact lK (aG (by rw [iX q];exact hi)) hn
  ·lia
theorem scComL:bE pzg pzg (defScope sComL):=by trivial
theorem ok_comL (F:Fun K "coming" "Line.coming" sComL f fd)(CC:LinC K C):cI P w K mg base CX0 1 f fd pzg (spComL C):=by
 refine F.ok scComL (by contradiction) (fun cdv A outer s H vs Q E hr h=>?_);obtain ⟨x,D,n,z,ss,rs,fi,rfl,⟨dx,a,b,hx,ha,hb⟩,few,two,nd,k⟩:=h;refine ⟨_,bp (bI (pe_ifExp (cD (r:=rIn K false) op_in_seq (pv 1) (gc jB (dk (pv 0) rfl) (gH aT) hE) rfl) (cn eM (cn eN (dk (pv 0) rfl) (cn iG aT (pe_bmT (r:=rIndexS K) PySem.F.slot_tuple_index PySem.F.type_tuple_index mt_indexS (dk (pv 0) rfl) (ah (pv 1) aw)))) aT) jy)),?_⟩;have hls:(ss.map V.str).length=ss.length:=ae _;have e1:HT.sIx (ss.map V.str).length 0 (some 1)=1:=by
  rw [hls];have:=HT.sIx_nat ss.length 0 1;rw [dI (by lia)] at this;exact this
 refine ⟨_,rfl,_,rfl,x,C,dx,_,_,rfl,hx,CC.cl,CC.n2,rfl,_,rfl,a,_,rfl,SqT.of ha,?_,fun p H1 S1 e=>?_⟩
 ·rw [e1]
  intro q;exact lK q.1 (by decide)
 rw [cutF (i:=1) (n:=1) rfl,←gX] at e;refine ⟨p,_,rfl,.inr (SqT.of e),rfl,kS _,_,rfl,?_⟩;show if inV (.str z) ((ss.drop 1).map V.str)=true then _ else _;rw [inV_strs];refine jG (fun hc=>?_) (fun hc=>?_)
 ·obtain ⟨i,hi⟩:=cZ (lN hc)
  rw [gx] at hi;refine ⟨_,rfl,x,C,dx,_,_,rfl,S1 _ _ hx,CC.cl,CC.n5,rfl,_,rfl,x,C,dx,_,_,rfl,S1 _ _ hx,CC.cl,CC.n2,rfl,⟨a,_,rfl,S1 _ _ ha⟩,_,rfl,a,ss,z,1+i,rfl,rfl,SqT.of (S1 _ _ ha),hi,il nd hi,?_⟩;exact ⟨_,_,rfl,rfl,.inl ⟨by decide,by decide⟩,_,_,rfl,rfl,_,_,rfl,rfl,(k H1 S1).1 (1+i) hi (by lia)⟩
 ·refine (k H1 S1).2 fun i hi=>?_
  have hn:z ∉ ss.drop 1:=fun q=>hc (lL q)
  by_cases q:i=0
  ·exact q
  ·exact lK (aG (i:=i - 1) (by rw [gx,show 1+(i - 1)=i by lia];exact hi)) hn
end
end HN
namespace L2
open PySem PySem.Spec PyProof.Rows
theorem kj {α β:Type}{f:α→β→Sem (ForInStep β)}{Q:β→al→Prop}:∀ (l:List α) (I:Nat→β→al→Prop) (b:β) (s:al),I 0 b s →
  (∀ i a b s,l[i]? =some a→I i b s→aL M A (f a b) (fun r s'=>∃ b',r= .yield b'∧I (i+1) b' s') E s)→(∀ b s,I l.length b s→Q b s)→aL M A (forIn l b f) Q E s
 | [],_,b,s,h0,_,hd=>by
  rw [List.forIn_nil];exact ax (hd b s h0)
 | a::l,I,b,s,h0,hs,hd=>by
  rw [List.forIn_cons];refine ag (c5 (hs 0 a b s rfl h0) (fun r s' ⟨b',e,h'⟩=>?_) fun _ _ f=>f);subst e;exact kj l (fun i=>I (i+1)) b' s' h' (fun i a b s ha hi=>hs (i+1) a b s ha hi) fun b s h=>hd b s h
structure Sq where
 l:Bool
 a:ak
def SqAt (h:bj)(c:Sq)(xs:Array af):Prop:=match c.l with | true=>h.IsList c.a xs | false=>h.IsTuple c.a xs
def ItAt (h:bj)(c:Sq)(i:ak)(k:Nat):Prop:=match c.l with | true=>h.IsListIter i c.a k | false=>h.IsTupleIter i c.a k
abbrev jJ (h:bj)(T:ak)(vs:List af):Prop:=h.get? T=some { cls:= .type "tuple",data:= .seq vs.toArray }
theorem SqAt.ext {g:bj}{c:Sq}{xs:Array af}(x:SqAt h c xs)(e:∀ o,h.get? c.a=some o→g.get? c.a=some o):SqAt g c xs:=by
 obtain ⟨l,a⟩:=c;cases l with
 | true=>obtain ⟨o,ho,r⟩:=(show h.IsList a xs from x);exact ⟨o,e o ho,r⟩
 | false=>obtain ⟨o,ho,r⟩:=(show h.IsTuple a xs from x);exact ⟨o,e o ho,r⟩
theorem ItAt.ext {g:bj}{c:Sq}{i:ak}(x:ItAt h c i k)(e:∀ o,h.get? i=some o→g.get? i=some o):ItAt g c i k:=by
 obtain ⟨l,a⟩:=c;cases l with
 | true=>obtain ⟨o,ho,r⟩:=(show h.IsListIter i a k from x);exact ⟨o,e o ho,r⟩
 | false=>obtain ⟨o,ho,r⟩:=(show h.IsTupleIter i a k from x);exact ⟨o,e o ho,r⟩
theorem ItAt.obj {c:Sq}{i:ak}(x:ItAt h c i k):∃ o,h.get? i=some o∧∀ v,o.data≠ .cell v:=by
 obtain ⟨l,a⟩:=c;cases l with
 | true=>obtain ⟨o,ho,_,d⟩:=(show h.IsListIter i a k from x);exact ⟨o,ho,fun v z=>by rw [d] at z;cases z⟩
 | false=>obtain ⟨o,ho,_,d⟩:=(show h.IsTupleIter i a k from x);exact ⟨o,ho,fun v z=>by rw [d] at z;cases z⟩
section
variable {w:aV}
theorem lA {c:Sq}{i:ak}{xs:Array af}{v:af}(jt:ItAt s.heap c i k)(tt:SqAt s.heap c xs)(hv:xs[k]? =some v)
  (q:∀ g,ItAt g c i (k+1)→bo i s.heap g→Q v { s with heap:=g }):aL (aZ prog w) A (cj (.ref i)) Q E s:=by
 obtain ⟨l,a⟩:=c;cases l with
 | true=>exact wpAny_nextOf_list_item (show s.heap.IsListIter i a k from jt) (show s.heap.IsList a xs from tt) hv fun g h1 h2=>q g h1 h2
 | false=>exact lq (show s.heap.IsTupleIter i a k from jt) (show s.heap.IsTuple a xs from tt) hv fun g h1 h2=>q g h1 h2
theorem nextS_end {c:Sq}{i:ak}{xs:Array af}(hh:A.handled=none)(jt:ItAt s.heap c i k)(tt:SqAt s.heap c xs)(hv:xs[k]? =none)
  (q:∀ g x,bj.ExtBut i s.heap g→(∃ o,g.get? x=some o∧o.cls= .type "StopIteration")→E (.ref x) { s with heap:=g }):aL (aZ prog w) A (cj (.ref i)) Q E s:=by
 obtain ⟨l,a⟩:=c;cases l with
 | true=>exact wpAny_nextOf_list_end hh (show s.heap.IsListIter i a k from jt) (show s.heap.IsList a xs from tt) hv fun g x h1 h2=>q g x h1 h2
 | false=>exact nextT_end hh (show s.heap.IsTupleIter i a k from jt) (show s.heap.IsTuple a xs from tt) hv fun g x h1 h2=>q g x h1 h2
theorem iterS {c:Sq}{xs:Array af}(tt:SqAt s.heap c xs)
  (q:∀ g,ItAt g c s.heap.objs.size 0→g.objs.size=s.heap.objs.size+1→(∀ b o,s.heap.get? b=some o→g.get? b=some o)→Q (.ref s.heap.objs.size) { s with heap:=g }):aL (aZ prog w) A (pyIter (.ref c.a)) Q E s:=by
 obtain ⟨l,a⟩:=c;cases l with
 | true=>exact eU (show s.heap.IsList a xs from tt) (q _ ⟨_,aA _ rfl,rfl,rfl⟩ (bX ..) fun b o e=>aj _ e)
 | false=>exact fG (show s.heap.IsTuple a xs from tt) (q _ ⟨_,aA _ rfl,rfl,rfl⟩ (bX ..) fun b o e=>aj _ e)
theorem updRow {T:ak}{x:af}{Q:Unit→al→Prop}(hT:jJ s.heap T vs)(hz:vs.length≤100)
  (h:∀ g,jJ g T (vs.set k x)→bo T s.heap g→Q () { s with heap:=g }):aL (aZ prog w) A (updateSeq T (·.setIfInBounds k x)) Q E s:=by
 refine wpAny_updateSeq hT rfl (h _ ?_ (bo.update ..)) (by rw [ay];exact bQ hz (by decide)) (by rw [Array.size_setIfInBounds,ay];exact bQ hz (by decide));show bj.get? _ T=_;rw [bj.get?_update_self _ hT rfl];simp [Obj.mapSeq]
structure ZIn (h g:bj)(z TI TO:ak)(cs:List Sq)(is:List ak)(k j:Nat)(vs old:List af):Prop where
 sz:g.objs.size=h.objs.size
 zip:IsZip g z TI TO .ellipsis
 row:jJ g TO (vs.take j++old.drop j)
 its:∀ (n:Nat) c i,cs[n]? =some c→is[n]? =some i→ItAt g c i (if n<j then k+1 else k)
 ext:∀ e o,e≠z→e≠TO→e ∉ is→h.get? e=some o→g.get? e=some o
structure ZOk (h:bj)(z TI TO:ak)(cs:List Sq)(is:List ak)(k:Nat)(old:List af):Prop where
 len:is.length=cs.length
 few:cs.length≤8
 pos:0<cs.length
 nod:(z::TI::TO::is).Nodup
 zip:IsZip h z TI TO .none
 ti:jJ h TI (is.map af.ref)
 to:jJ h TO old
 lo:old.length=cs.length
 its:∀ (n:Nat) c i,cs[n]? =some c→is[n]? =some i→ItAt h c i k
 off:∀ c∈cs,c.a≠z∧c.a≠TO∧c.a ∉ is
theorem nod_ne {i:ak}{e:ak}(hn:is.Nodup)(h1:is[j]? =some i)(h2:is[n]? =some e)(h:n≠j):e≠i:=fun z=>by
 subst z;have a:=(ao.mp h1);have b:=(ao.mp h2);obtain ⟨ha,ea⟩:=a;obtain ⟨hb,eb⟩:=b;exact h ((List.getElem_inj hn).mp (eb.trans ea.symm))
theorem ZIn.step {g:bj}{z TI TO:ak}{cs:List Sq}{i:ak}{c:Sq}(D:ZOk h z TI TO cs is k old)(Z:ZIn h g z TI TO cs is k j vs old)(hi:is[j]? =some i)(hc:cs[j]? =some c){g2 g3:bj}{v:af}(hv:vs[j]? =some v)(lv:vs.length=cs.length)
  (n2:ItAt g2 c i (k+1)) (s2:bo i g g2) (r3:jJ g3 TO ((vs.take j++old.drop j).set j v)) (s3:bo TO g2 g3):ZIn h g3 z TI TO cs is k (j+1) vs old:=by
 have nod:=D.nod;rw [aX,aX,aX] at nod;obtain ⟨nz,nT,nO,ni⟩:=nod;have mi:i∈is:=aG hi;have iz:z≠i:=fun q=>nz (by rw [q];simp [mi])
 have iO:TO≠i:=fun q=>nO (by rw [q];exact mi)
 have zO:z≠TO:=fun q=>nz (by rw [q];simp)
 have jl:j<cs.length:=(ao.mp hc).1;refine ⟨by rw [s3.1,s2.1,Z.sz],s3.extBut _ _ zO (s2.extBut _ _ iz Z.zip),?_,fun n c' i' hc' hi'=>?_,fun e o e1 e2 e3 q=>s3.extBut _ _ e2 (s2.extBut _ _ (fun y=>e3 (by rw [y];exact mi)) (Z.ext e o e1 e2 e3 q))⟩
 ·have lo:=D.lo
  have e:(vs.take j++old.drop j).set j v=vs.take (j+1)++old.drop (j+1):=by
   have l1:(vs.take j).length=j:=by rw [bq];lia
   rw [List.set_append,lI (by lia),l1,Nat.sub_self,List.drop_eq_getElem_cons (by lia:j<old.length),List.set_cons_zero,bS,hv];simp
  rw [←e];exact r3
 ·have mi':i'∈is:=aG hi'
  have iO':i'≠TO:=fun q=>nO (by rw [←q];exact mi')
  by_cases e:n=j
  ·subst e
   rw [hi] at hi';rw [hc] at hc';cases hi';cases hc';rw [lJ (by lia)];exact n2.ext fun o q=>s3.extBut _ _ iO' q
  ·have q:=Z.its n c' i' hc' hi'
   have e2:(if n<j+1 then k+1 else k)=(if n<j then k+1 else k):=by
    by_cases y:n<j
    ·rw [lJ y,lJ (by lia)]
    ·rw [lI y,lI (by lia)]
   rw [e2];exact q.ext fun o r=>s3.extBut _ _ iO' (s2.extBut _ _ (nod_ne ni hi hi' e) r)
theorem zipS_go {z TI TO:ak}{cs:List Sq}{Q:Option af→al→Prop}(D:ZOk s.heap z TI TO cs is k old)
  (hv:∀ (n:Nat) c,cs[n]? =some c→∃ xs v,SqAt s.heap c xs∧xs[k]? =some v∧vs[n]? =some v) (lv:vs.length=cs.length)
  (q:∀ g,IsZip g z TI TO (rawInt s.heap.objs.size)→jJ g TO vs→(∀ (n:Nat) c i,cs[n]? =some c→is[n]? =some i→ItAt g c i (k+1))→jJ g s.heap.objs.size vs→g.objs.size=s.heap.objs.size+1 →
   (∀ e o,e≠z→e≠TO→e ∉ is→s.heap.get? e=some o→g.get? e=some o)→Q (some (.ref s.heap.objs.size)) { s with heap:=g }):aL (aZ prog w) A (pyNext (.ref z)) Q E s:=by
 have hT:s.TypeIs (.ref z) "zip" := ⟨_,D.zip,rfl⟩;have nod:=D.nod;rw [aX,aX,aX] at nod;obtain ⟨nz,nT,nO,ni⟩:=nod;have zO:z≠TO:=fun q=>nz (by rw [q];simp)
 have few:=D.few;have len:=D.len;unfold pyNext;refine ag (ig (cA (name:=aY "__next__") hT F.slot_zip_next (dw F.slot_zip_next hT F.entry_zip_next ?_ (F.args_zip_next_1 _))));show aL _ _ (field (.ref z) 2 >>= _) _ _ s;refine ag (bC D.zip rfl (x:= .bool false) (by rfl) ?_);show aL _ _ (field (.ref z) 3 >>= _) _ _ s;refine ag (bC D.zip rfl (x:= .ref TI) (by rfl) ?_);refine ag (gj D.ti rfl ?_)
 dsimp only
 rw [lI (by intro y;rw [Array.isEmpty_iff_size_eq_zero,ay,ae,len] at y;have:=D.pos;lia)];refine ag ?_;unfold cb;refine ag (bC D.zip rfl (x:= .none) (by rfl) (ax ?_));simp only [if_true];refine ag (wpAny_rule ?_);refine ag (bC D.zip rfl (x:= .ref TO) (by rfl) ?_);refine ag (bK D.zip (by simp) fun g1 z1 s1=>?_);have z1:IsZip g1 z TI TO .ellipsis:=z1;refine ag ?_;refine kj _ (fun j b s'=>b=_∧∃ g,s'={ s with heap:=g }∧ZIn s.heap g z TI TO cs is k j vs old) _ _ ⟨rfl,g1,rfl,?_⟩ ?_ ?_
 ·refine ⟨s1.1,z1,s1.extBut _ _ zO.symm D.to,fun n c i hc hi=>?_,fun e o e1 _ _ h=>s1.extBut _ _ e1 h⟩
  rw [lI (by lia)];exact (D.its n c i hc hi).ext fun o h=>s1.extBut _ _ (fun y=>nz (by rw [←y];simp [aG hi])) h
 ·rintro j a b s' ha ⟨rfl,g,rfl,Z⟩
  rw [List.getElem?_zipIdx] at ha;obtain ⟨x,hx,rfl⟩:=aN.mp ha;have hx:(is.map af.ref)[j]? =some x:=by simpa using hx
  rw [aD] at hx;obtain ⟨i,hi,rfl⟩:=aN.mp hx;have jl:j<cs.length:=by rw [←len];exact (ao.mp hi).1
  have hc:cs[j]? =some cs[j]:=gE jl;obtain ⟨xs,v,hq,hxv,hvv⟩:=hv j _ hc;obtain ⟨o1,o2,o3⟩:=D.off _ (List.getElem_mem jl);have it:=Z.its j _ i hc hi;rw [lI (by lia)] at it
  dsimp only
  refine ag (wpAny_onRaise ?_);show aL _ _ (cj (.ref i) >>= _) _ _ _;refine ag (lA it (hq.ext fun o h=>Z.ext _ o o1 o2 o3 h) hxv fun g2 n2 s2=>ax ?_);have iO:TO≠i:=fun q=>nO (by rw [q];exact aG hi)
  have r2:jJ g2 TO (vs.take j++old.drop j):=s2.extBut _ _ iO Z.row;refine ag (gj r2 rfl ?_);refine ag (updRow (x:=v) (k:=0+j) r2 (by rw [av,bq,bR];have:=D.lo;lia) fun g3 r3 s3=>?_);rw [Nat.zero_add] at r3;refine ag (wpAny_letGo (ax ⟨_,rfl,rfl,g3,rfl,Z.step D hi hc hvv lv n2 s2 r3 s3⟩))
 ·rintro b s' ⟨rfl,g5,rfl,Z⟩
  have ll:((is.map af.ref).toArray.toList.zipIdx).length=cs.length:=by simp [len]
  rw [ll] at Z;have z5:=Z.zip;have o5:jJ g5 TO vs:=by
   have:=Z.row;rw [←lv,bP,lv,←D.lo,List.drop_length,List.append_nil] at this;exact this
  have m5:∀ (n:Nat) c i,cs[n]? =some c→is[n]? =some i→ItAt g5 c i (k+1):=fun n c i hc hi=>by
   have:=Z.its n c i hc hi;rw [lJ (ao.mp hc).1] at this;exact this
  dsimp only
  refine ag (gj o5 rfl ?_);refine ag (wpAny_newTuple ?_);have zlt:z<g5.objs.size:=aE z5;have sz:=Z.sz;refine ag ?_;unfold cH;have z6:IsZip (g5.push { cls:= .type "tuple",data:= .seq vs.toArray }) z TI TO .ellipsis:=aj _ z5;refine ag (bK z6 (by simp) fun g7 z7 s7=>?_);have z7:IsZip g7 z TI TO (rawInt g5.objs.size):=z7;refine bK z7 (by simp) fun g8 z8 s8=>?_
  have z8:IsZip g8 z TI TO (rawInt g5.objs.size):=z8;have up:∀ e o,e≠z→g5.get? e=some o→g8.get? e=some o:=fun e o c1 h=>s8.extBut _ _ c1 (s7.extBut _ _ c1 (aj _ h))
  have t8:jJ g8 g5.objs.size vs:=s8.extBut _ _ (fq zlt) (s7.extBut _ _ (fq zlt) (aA _ rfl));have sz8:g8.objs.size=g5.objs.size+1:=by rw [s8.1,s7.1,bX]
  rw [sz] at z8 t8 sz8;refine ax ⟨_,rfl,?_⟩;refine ax ?_;show Q (some (.ref g5.objs.size)) _;rw [sz];refine q g8 z8 (up _ _ zO.symm o5) (fun n c i hc hi=>(m5 n c i hc hi).ext fun o h=>up _ o (fun y=>nz (by rw [←y];simp [aG hi])) h) t8 sz8 fun e o c1 c2 c3 h=>up e o c1 (Z.ext e o c1 c2 c3 h)
theorem zipS_stop {z TI TO:ak}{cs:List Sq}{cm:Sq}{Q:Option af→al→Prop}(hh:A.handled=none)(D:ZOk s.heap z TI TO cs is k old)
  (hv:∀ (n:Nat) c,cs[n]? =some c→n<m→∃ xs v,SqAt s.heap c xs∧xs[k]? =some v∧vs[n]? =some v) (lv:vs.length=cs.length) (hm:cs[m]? =some cm) {xm:Array af} (hxm:SqAt s.heap cm xm) (hem:xm[k]? =none)
  (q:∀ g,(∀ e o,e≠z→e≠TO→e ∉ is→s.heap.get? e=some o→g.get? e=some o)→Q none { s with heap:=g }):aL (aZ prog w) A (pyNext (.ref z)) Q E s:=by
 have hT:s.TypeIs (.ref z) "zip" := ⟨_,D.zip,rfl⟩;have nod:=D.nod;rw [aX,aX,aX] at nod;obtain ⟨nz,nT,nO,ni⟩:=nod;have zO:z≠TO:=fun q=>nz (by rw [q];simp)
 have few:=D.few;have len:=D.len;have fin:∀ g x,(∀ e o,e≠z→e≠TO→e ∉ is→s.heap.get? e=some o→g.get? e=some o)→(∃ o,g.get? x=some o∧o.cls= .type "StopIteration") →
   aL (aZ prog w) A (do if ← isInstance (.ref x) (.type "StopIteration") then fe none else throw (.ref x)) Q E { s with heap:=g }:=fun g x k ⟨o,ho,hc⟩=>by
  refine ag (wpAny_isInstance (T := "StopIteration") (b:=true) ⟨o,ho,hc⟩ isSubtype_stop ?_);exact ax (q g k)
 have ml:m<cs.length:=(ao.mp hm).1;unfold pyNext;refine ag (ig (cA (name:=aY "__next__") hT F.slot_zip_next (dw F.slot_zip_next hT F.entry_zip_next ?_ (F.args_zip_next_1 _))));show aL _ _ (field (.ref z) 2 >>= _) _ _ s;refine ag (bC D.zip rfl (x:= .bool false) (by rfl) ?_);show aL _ _ (field (.ref z) 3 >>= _) _ _ s;refine ag (bC D.zip rfl (x:= .ref TI) (by rfl) ?_);refine ag (gj D.ti rfl ?_)
 dsimp only
 rw [lI (by intro y;rw [Array.isEmpty_iff_size_eq_zero,ay,ae,len] at y;have:=D.pos;lia)];refine ag ?_;unfold cb;refine ag (bC D.zip rfl (x:= .none) (by rfl) (ax ?_));simp only [if_true];refine ag (wpAny_rule ?_);refine ag (bC D.zip rfl (x:= .ref TO) (by rfl) ?_);refine ag (bK D.zip (by simp) fun g1 z1 s1=>?_);have z1:IsZip g1 z TI TO .ellipsis:=z1;refine ag ?_;refine kj _ (fun j b s'=>b=_∧j≤m∧∃ g,s'={ s with heap:=g }∧ZIn s.heap g z TI TO cs is k j vs old) _ _ ⟨rfl,cK _,g1,rfl,?_⟩ ?_ ?_
 ·refine ⟨s1.1,z1,s1.extBut _ _ zO.symm D.to,fun n c i hc hi=>?_,fun e o e1 _ _ h=>s1.extBut _ _ e1 h⟩
  rw [lI (by lia)];exact (D.its n c i hc hi).ext fun o h=>s1.extBut _ _ (fun y=>nz (by rw [←y];simp [aG hi])) h
 ·rintro j a b s' ha ⟨rfl,jm,g,rfl,Z⟩
  rw [List.getElem?_zipIdx] at ha;obtain ⟨x,hx,rfl⟩:=aN.mp ha;have hx:(is.map af.ref)[j]? =some x:=by simpa using hx
  rw [aD] at hx;obtain ⟨i,hi,rfl⟩:=aN.mp hx;have jl:j<cs.length:=by rw [←len];exact (ao.mp hi).1
  have hc:cs[j]? =some cs[j]:=gE jl;obtain ⟨o1,o2,o3⟩:=D.off _ (List.getElem_mem jl);have it:=Z.its j _ i hc hi;rw [lI (by lia)] at it;have iO:TO≠i:=fun q=>nO (by rw [q];exact aG hi)
  have iz:z≠i:=fun q=>nz (by rw [q];simp [aG hi])
  dsimp only
  refine ag (wpAny_onRaise ?_);show aL _ _ (cj (.ref i) >>= _) _ _ _
  by_cases e:j=m
  ·subst e
   rw [hc] at hm;cases hm;refine ag (nextS_end hh it (hxm.ext fun o h=>Z.ext _ o o1 o2 o3 h) hem fun g2 x s2 hx2=>?_);obtain ⟨oe,e1,e2⟩:=hx2;have z2:IsZip g2 z TI TO .ellipsis:=s2 _ _ iz Z.zip;have xz:x≠z:=fun r=>by subst r;rw [z2] at e1;cases e1;simp at e2
   exact bK z2 (by simp) fun g3 _ s3=>fin g3 x (fun e o c1 c2 c3 h=>s3.extBut _ _ c1 (s2 _ _ (fun y=>c3 (by rw [y];exact aG hi)) (Z.ext e o c1 c2 c3 h))) ⟨oe,s3.extBut _ _ xz e1,e2⟩
  ·obtain ⟨xs,v,hq,hxv,hvv⟩:=hv j _ hc (by lia)
   refine ag (lA it (hq.ext fun o h=>Z.ext _ o o1 o2 o3 h) hxv fun g2 n2 s2=>ax ?_);have r2:jJ g2 TO (vs.take j++old.drop j):=s2.extBut _ _ iO Z.row;refine ag (gj r2 rfl ?_);refine ag (updRow (x:=v) (k:=0+j) r2 (by rw [av,bq,bR];have:=D.lo;lia) fun g3 r3 s3=>?_);rw [Nat.zero_add] at r3;refine ag (wpAny_letGo (ax ⟨_,rfl,rfl,by lia,g3,rfl,Z.step D hi hc hvv lv n2 s2 r3 s3⟩))
 ·rintro b s' ⟨rfl,jm,g5,rfl,Z⟩
  have ll:((is.map af.ref).toArray.toList.zipIdx).length=cs.length:=by simp [len]
  rw [ll] at jm;lia
end
theorem jI {α:Type}{P:Nat→α→Prop}:∀ (k:Nat),(∀ n,n<k→∃ u,P n u)→∃ us:List α,us.length=k∧∀ (n:Nat) u,us[n]? =some u→P n u
 | 0,_=>⟨[],rfl,fun n u h=>by simp at h⟩
 | k+1,h=>by
  obtain ⟨us,hl,hu⟩:=jI k fun n hn=>h n (by lia)
  obtain ⟨u,pu⟩:=h k (by lia);refine ⟨us++[u],by rw [av,hl];rfl,fun n v hv=>?_⟩
  by_cases e:n<us.length
  ·rw [eJ e] at hv
   exact hu n v hv
  ·rw [dj (by lia)] at hv
   have hn:n=us.length:=by
    have:=(ao.mp hv).1;simp at this;lia
   subst hn;rw [Nat.sub_self] at hv;cases hv;rw [hl];exact pu
theorem vals_of:∀ {vs:List V} {us:List af},vs.length=us.length→(∀ (n:Nat) v u,vs[n]? =some v→us[n]? =some u→fD v u)→eI vs us
 | [],[],_,_=> .nil
 | v::vs,u::us,hl,h=> .cons (h 0 v u rfl rfl) (vals_of (by simpa using hl) fun n v' u' a b=>h (n+1) v' u' a b)
 | [],_::_,hl,_=>by simp at hl
 | _::_,[],hl,_=>by simp at hl
def HSq (H:Hp)(c:Sq)(xs:List V):Prop:=match c.l with | true=>H c.a=some (.lst xs) | false=>H c.a=some (.tup xs)
theorem HSq.inj {c:Sq}(a:HSq H c xs)(b:HSq H c ys):xs=ys:=by
 obtain ⟨l,q⟩:=c;cases l with
 | true=>have a:H q=some (.lst xs):=a;have b:H q=some (.lst ys):=b;rw [a] at b;cases b;rfl
 | false=>have a:H q=some (.tup xs):=a;have b:H q=some (.tup ys):=b;rw [a] at b;cases b;rfl
theorem HSq.has {c:Sq}(a:HSq H c xs):∃ o,H c.a=some o:=by
 obtain ⟨l,q⟩:=c;cases l with
 | true=>exact ⟨_,a⟩
 | false=>exact ⟨_,a⟩
theorem HSq.at {c:Sq}(I:Inv X az σ H s)(h:HSq H c xs):∃ its,eI xs its∧SqAt s.heap c its.toArray:=by
 obtain ⟨l,q⟩:=c;cases l with
 | true =>
  obtain ⟨its,r,p,_⟩:=I.list (SqL.of (K:=X.K) (show H q=some (.lst xs) from h));exact ⟨its,r,p.isList⟩
 | false =>
  obtain ⟨its,r,p,_⟩:=I.tuple (SqT.of (K:=X.K) (show H q=some (.tup xs) from h));exact ⟨its,r,p⟩
def Itq (cs:List Sq):It :=
 ⟨fun i H=>∃ vs:List V,vs.length=cs.length∧∀ (n:Nat) c,cs[n]? =some c→∃ xs x,HSq H c xs∧xs[i]? =some x∧vs[n]? =some x,
  fun i H v H'=>∃ p vs,H p=none∧v= .ref p∧H'=upd H p (.tup vs)∧vs.length=cs.length∧∀ (n:Nat) c x xs,cs[n]? =some c→HSq H c xs→vs[n]? =some x→xs[i]? =some x,
  fun i H=>∃ m cm xm,cs[m]? =some cm∧HSq H cm xm∧xm.length≤i∧∀ (n:Nat) c,cs[n]? =some c→n<m→∃ xs x,HSq H c xs∧xs[i]? =some x⟩
theorem turn_zipS {w:aV}{k0}{z TI TO:ak}{cs:List Sq} :
  Turn P w K (.Tuple es k0 pos) (Itq cs) (z::TI::TO::is) z (fun i h=>∃ old,ZOk h z TI TO cs is i old) where
 mem:=by simp
 obj:=fun i h st c hc=>by
  obtain ⟨old,D⟩:=st;simp only [aq] at hc
  rcases hc with rfl | rfl | rfl | hc
  ·exact ⟨_,D.zip,fun v z=>by cases z⟩
  ·exact ⟨_,D.ti,fun v z=>by cases z⟩
  ·exact ⟨_,D.to,fun v z=>by cases z⟩
  ·obtain ⟨n,hn⟩:=cZ hc
   have hl:n<cs.length:=by rw [←D.len];exact (ao.mp hn).1
   exact (D.its n _ c (gE hl) hn).obj
 keep:=fun i h h' st k=>by
  obtain ⟨old,D⟩:=st;exact ⟨old,D.len,D.few,D.pos,D.nod,k z (by simp) _ D.zip,k TI (by simp) _ D.ti,k TO (by simp) _ D.to,D.lo,fun n c i hc hi=>(D.its n c i hc hi).ext fun o e=>k i (by simp [aG hi]) o e,D.off⟩
 item:=by
  intro X hP hw hK hc i az s σ H E I hf st hg;subst hP hw hK;obtain ⟨old,D⟩:=st;obtain ⟨vs,lv,hv⟩:=hg;have nz:∀ e∈z::TI::TO::is,H e=none:=fun e he=>(hf e he).1
  have hT:H s.heap.objs.size=none:=I.fresh;have ex:∀ n,n<cs.length→∃ u:af,(∀ c,cs[n]? =some c→∃ xs,SqAt s.heap c xs∧xs[i]? =some u)∧∀ v,vs[n]? =some v→fD v u:=fun n hn=>by
   obtain ⟨xs,x,h1,h2,h3⟩:=hv n _ (gE hn);obtain ⟨its,r,p⟩:=h1.at I;obtain ⟨u,hu,ru⟩:=r.get h2;refine ⟨u,fun c hc=>?_,fun v hv'=>?_⟩
   ·rw [gE hn] at hc
    cases hc;exact ⟨_,p,by simpa using hu⟩
   ·rw [h3] at hv'
    cases hv';exact ru
  obtain ⟨us,lu,hu⟩:=jI cs.length ex;have hrel:eI vs us:=vals_of (by lia) fun n v u a b=>(hu n u b).2 v a
  refine zipS_go D (vs:=us) (fun n c hc=>?_) lu fun g z1 to1 m1 tp sz kk=>⟨_,rfl,?_⟩
  ·have hn:n<us.length:=by rw [lu];exact (ao.mp hc).1
   obtain ⟨xs,a,b⟩:=(hu n _ (gE hn)).1 c hc;exact ⟨xs,us[n],a,b,gE hn⟩
  refine wpAny_letOwnedTupleGo_zip z1 fun g2 z2 s2=>?_
  have s2:bo z g g2:=s2;have k2:∀ e o,e ∉ z::TO::is→s.heap.get? e=some o→g2.get? e=some o:=fun e o hn h=>by
   simp only [aq,not_or] at hn;exact s2.extBut _ _ hn.1 (kk e o hn.1 hn.2.1 hn.2.2 h)
  have zlt:z<s.heap.objs.size:=aE D.zip;have tp2:jJ g2 s.heap.objs.size us:=s2.extBut _ _ (fq zlt) tp;have sub:∀ e∈z::TO::is,e∈z::TI::TO::is:=fun e he=>by
   simp only [aq] at he ⊢
   rcases he with rfl | rfl | he <;> simp [*]
  have trk:∀ e o,H e=some o→e ∉ z::TO::is:=fun e o he hm=>by rw [nz e (sub e hm)] at he;cases he
  have J:Inv X az σ (upd H s.heap.objs.size (.tup vs)) { s with heap:=g2 }:=by
   refine I.turnAll (ch:=z::TO::is) (fun e he=>hf e (sub e he)) k2 (fun e o h=>by rw [aR (aJ h hT)];exact h) (fun e o h n=>by rw [aR (bu (aE h))];exact n) fun e o h=>?_
   by_cases q:e=s.heap.objs.size
   ·subst q
    rw [aK] at h;cases h;exact ⟨by rw [lv];exact bQ D.few (by decide),us,hrel,_,tp2,rfl,rfl,_,rfl⟩
   ·rw [aR q] at h
    refine (I.hok e o h).stay (fun c v hc' q'=>k2 c v (by
     rcases hc' with z' | z'
     ·rw [z'];exact trk e o h
     ·exact trk c _ z') q') (fun c q'=>by rw [aR (aJ q' hT)];exact q') fun c xs q'=>by rw [aR (aJ q' hT)];exact q'
  have nod:=D.nod;rw [aX,aX,aX] at nod;obtain ⟨nz',nT,nO,ni⟩:=nod;refine ⟨.ref s.heap.objs.size,_,J,rfl,⟨_,vs,hT,rfl,rfl,lv,fun n c x xs hc hq hx=>?_⟩,⟨us,D.len,D.few,D.pos,D.nod,z2,?_,s2.extBut _ _ (fun y=>nz' (by rw [←y];simp)) to1,lu,fun n c j hc hj=>?_,D.off⟩,fun e he=>?_⟩
  ·obtain ⟨ys,y,h1,h2,h3⟩:=hv n c hc
   rw [h1.inj hq] at h2;rw [h3] at hx;cases hx;exact h2
  ·refine k2 _ _ (fun y=>?_) D.ti
   rcases aq.mp y with y | y
   ·exact nz' (by rw [←y];simp)
   ·exact nT y
  ·exact (m1 n c j hc hj).ext fun o e=>s2.extBut _ _ (fun y=>nz' (by rw [←y];simp [aG hj])) e
  ·have hlt:e<s.heap.objs.size:=by
    simp only [aq] at he
    rcases he with rfl | rfl | rfl | he
    ·exact aE D.zip
    ·exact aE D.ti
    ·exact aE D.to
    ·obtain ⟨n,hn⟩:=cZ he
     have hl:n<cs.length:=by rw [←D.len];exact (ao.mp hn).1
     obtain ⟨o,ho,_⟩:=(D.its n _ e (gE hl) hn).obj;exact aE ho
   rw [aR (bu hlt)];exact nz e he
 done:=by
  intro X hP hw hK hc i az s σ H E I hf st hg;subst hP hw hK;obtain ⟨old,D⟩:=st;obtain ⟨m,cm,xm,hm,hxm,hi,hv⟩:=hg;have nz:∀ e∈z::TI::TO::is,H e=none:=fun e he=>(hf e he).1
  have ex:∀ n,n<cs.length→∃ u:af,∀ c,cs[n]? =some c→n<m→∃ xs,SqAt s.heap c xs∧xs[i]? =some u:=fun n hn=>by
   by_cases e:n<m
   ·obtain ⟨xs,x,h1,h2⟩:=hv n _ (gE hn) e
    obtain ⟨its,r,p⟩:=h1.at I;obtain ⟨u,hu,ru⟩:=r.get h2;refine ⟨u,fun c hc _=>?_⟩;rw [gE hn] at hc;cases hc;exact ⟨_,p,by simpa using hu⟩
   ·exact ⟨.none,fun c _ z=>lK z e⟩
  obtain ⟨us,lu,hu⟩:=jI cs.length ex;obtain ⟨its,r,p⟩:=hxm.at I;have hl:=r.length;refine zipS_stop (I.ok.hd hc) D (vs:=us) (m:=m) (fun n c hc hn=>?_) lu hm p (by simp;lia) fun g kk=>⟨rfl,?_⟩
  ·have hn':n<us.length:=by rw [lu];exact (ao.mp hc).1
   obtain ⟨xs,a,b⟩:=hu n _ (gE hn') c hc hn;exact ⟨xs,us[n],a,b,gE hn'⟩
  have sub:∀ e∈z::TO::is,e∈z::TI::TO::is:=fun e he=>by
   simp only [aq] at he ⊢
   rcases he with rfl | rfl | he <;> simp [*]
  have k2:∀ e o,e ∉ z::TO::is→s.heap.get? e=some o→g.get? e=some o:=fun e o hn h=>by
   simp only [aq,not_or] at hn;exact kk e o hn.1 hn.2.1 hn.2.2 h
  have trk:∀ e o,H e=some o→e ∉ z::TO::is:=fun e o he hm=>by rw [nz e (sub e hm)] at he;cases he
  refine I.turnAll (ch:=z::TO::is) (fun e he=>hf e (sub e he)) k2 (fun _ _ h=>h) (fun _ _ _ n=>n) fun e o h=>?_
  exact (I.hok e o h).stay (fun c v hc' q'=>k2 c v (by
   rcases hc' with z' | z'
   ·rw [z'];exact trk e o h
   ·exact trk c _ z') q') (fun _ q'=>q') fun _ _ q'=>q'
 self:=fun _ _ _ _ _ st h=>let ⟨_,D⟩:=st;wpAny_pyIter_zip D.zip h
structure ZNew (h g:bj)(cs:List Sq):Prop where
 zip:IsZip g (h.objs.size+cs.length+2) (h.objs.size+cs.length) (h.objs.size+cs.length+1) .none
 ti:jJ g (h.objs.size+cs.length) (((bH cs.length).map fun j=>h.objs.size+j).map af.ref)
 to:jJ g (h.objs.size+cs.length+1) (bV cs.length .none)
 its:∀ (n:Nat) c,cs[n]? =some c→ItAt g c (h.objs.size+n) 0
 ext:∀ b o,h.get? b=some o→g.get? b=some o
theorem newClass_zip (vs:List af):dY.SmallTypes.newClass "zip" ⟨.type "zip" :: vs,[]⟩=fe (.type "zip",vs):=by
 unfold dY.SmallTypes.newClass;simp only [isType,sub_zip,pure_bind,Bool.not_true,Bool.false_eq_true,if_false]
theorem zipS_new (cs:List Sq)(few:cs.length≤8) :
  Meets (dY.«zip.__new__» ⟨.type "zip" :: cs.map fun c=>af.ref c.a,[]⟩) (fun _ R s=>(∀ c∈cs,∃ xs,SqAt s.heap c xs)∧∀ g,ZNew s.heap g cs→R (.ok (.ret (.ref (s.heap.objs.size+cs.length+2)))) { s with heap:=g }) :=
 .of_wp fun prog w A R s h=>by
  obtain ⟨h1,h⟩:=h;unfold dY.«zip.__new__»;refine ag (wpAny_of_eq (newClass_zip _) ?_);show aL _ _ (dY.SmallTypes.iterAll (cs.map fun c=>af.ref c.a) >>= _) _ _ _;refine ag ?_;unfold dY.SmallTypes.iterAll;refine ag (kj _ (fun j its s'=>∃ g,s'={ s with heap:=g }∧g.objs.size=s.heap.objs.size+j∧its=((bH j).map fun i=>af.ref (s.heap.objs.size+i)).toArray∧(∀ (n:Nat) c,n<j→cs[n]? =some c→ItAt g c (s.heap.objs.size+n) 0)∧∀ b o,s.heap.get? b=some o→g.get? b=some o) _ _ ⟨s.heap,rfl,rfl,rfl,fun n c hn=>lK hn (by lia),fun _ _ e=>e⟩ ?_ ?_)
  ·rintro j a its s' ha ⟨g,rfl,sz,rfl,hit,ext⟩
   rw [aD] at ha;obtain ⟨c,hc,rfl⟩:=aN.mp ha;obtain ⟨xs,hx⟩:=h1 c (aG hc);refine ag (gG (iterS (c:=c) (xs:=xs) (hx.ext fun o e=>ext _ o e) fun g2 i2 z2 e2=>?_));refine ax ⟨_,rfl,g2,rfl,?_,?_,fun n c' hn hc'=>?_,fun b o e=>e2 b o (ext b o e)⟩
   ·show g2.objs.size=_
    rw [z2];show g.objs.size+1=_;rw [sz];lia
   ·show Array.push _ (af.ref g.objs.size)=_
    rw [sz,List.range_succ,au];simp
   ·by_cases e:n=j
    ·subst e
     rw [hc] at hc';cases hc';have i2:ItAt g2 c g.objs.size 0:=i2;rw [sz] at i2;exact i2
    ·exact (hit n c' (by lia) hc').ext fun o q=>e2 _ o q
  ·rintro its s' ⟨g,rfl,sz,rfl,hit,ext⟩
   have ll:(cs.map fun c=>af.ref c.a).length=cs.length:=ae ..;rw [ll] at sz hit ⊢;refine ax ?_
   dsimp only
   have n8:((bH cs.length).map fun i=>af.ref (s.heap.objs.size+i)).length≤ar:=by
    rw [ae,fH];exact bQ few (by decide)
   refine ag (wpAny_newTuple ?_ (by simpa using n8));refine ag (wpAny_newTuple ?_ (by simpa using n8));refine ag ?_;unfold dY.SmallTypes.newRecord;refine dS (ax ⟨_,rfl,?_⟩) (by show 5≤ar+2;decide);have e1:(g.push { cls:= .type "tuple",data:= .seq ((bH cs.length).map fun i=>af.ref (s.heap.objs.size+i)).toArray }).objs.size=s.heap.objs.size+cs.length+1:=by rw [bX,sz]
   have e2:((g.push { cls:= .type "tuple",data:= .seq ((bH cs.length).map fun i=>af.ref (s.heap.objs.size+i)).toArray }).push { cls:= .type "tuple",data:= .seq ((((bH cs.length).map fun i=>af.ref (s.heap.objs.size+i)).toArray.toList.map fun _=>af.none)).toArray }).objs.size=s.heap.objs.size+cs.length+2:=by rw [bX,e1]
   have key:=h (((g.push { cls:= .type "tuple",data:= .seq ((bH cs.length).map fun i=>af.ref (s.heap.objs.size+i)).toArray }).push { cls:= .type "tuple",data:= .seq ((((bH cs.length).map fun i=>af.ref (s.heap.objs.size+i)).toArray.toList.map fun _=>af.none)).toArray }).push { cls:= .type "zip",data:= .fields #[.none,.bool false,.bool false,.ref (s.heap.objs.size+cs.length),.ref (s.heap.objs.size+cs.length+1)] })
    ⟨by rw [←e2];exact aA _ rfl,?_,?_,fun n c hc=>(hit n c (ao.mp hc).1 hc).ext fun o q=>aj _ (aj _ (aj _ q)),fun b o q=>aj _ (aj _ (aj _ (ext b o q)))⟩
   ·rw [←e2] at key
    have e1':(s.heap.objs.size+cs.length:Nat)=g.objs.size:=sz.symm;rw [←e1,e1'] at key;exact key
   ·have em:(((bH cs.length).map fun j=>s.heap.objs.size+j).map af.ref)=((bH cs.length).map fun i=>af.ref (s.heap.objs.size+i)):=by rw [bZ];rfl
    show bj.get? _ _=_;rw [em,←sz];exact aj _ (aj _ (aA _ rfl))
   ·rw [←e1]
    have er:(((bH cs.length).map fun i=>af.ref (s.heap.objs.size+i)).toArray.toList.map fun _=>af.none)=bV cs.length af.none:=by
     rw [List.eq_replicate_iff];exact ⟨by simp,fun x hx=>by obtain ⟨_,_,rfl⟩:=bc.mp hx;rfl⟩
    rw [er];exact aj _ (aA _ rfl)
theorem zip_args3 (a b c d:af):argsOk "object.__init__" ⟨[a,b,c,d],[]⟩:=by
 unfold argsOk;rw [signature?_of (id := "object.__init__") (n:=['_','_','t','i','n','i','_','_']) (o:=['t','c','e','j','b','o']) (by kernel_rfl) F.owner_object]
 kernel_rfl
theorem zip_type3 (a b c:af):checkTypeCall "zip" ⟨[a,b,c],[]⟩=fe ():=by kernel_rfl
theorem zip_new3 (a b c:af):checkBuiltinCall "zip.__new__" ⟨[.type "zip",a,b,c],[]⟩=fe ():=by kernel_rfl
theorem zip_walk {s1:al}{k0}{pt:Pos}{R:It→Hp→Prop}{cs:List Sq}(I1:Inv X az σ H1 s1)(few:cs.length≤8)(pos:0<cs.length)(hq:∀ c∈cs,∃ xs,HSq H1 c xs)(q:R (Itq cs) H1){g:bj}(Z:ZNew s1.heap g cs) :
  aL (aZ X.prog X.w) X.A (pyIter (.ref (s1.heap.objs.size+cs.length+2))) (PIE X az σ (.Tuple es k0 pt) R) E { s1 with heap:=g }:=by
 have i8:∀ c∈cs,c.a<s1.heap.objs.size:=fun c hc=>by
  obtain ⟨xs,hx⟩:=hq c hc;obtain ⟨o,ho⟩:=hx.has;exact Nat.lt_of_not_le fun hge=>by rw [I1.hok.fresh hge] at ho;cases ho
 refine wpAny_pyIter_zip Z.zip ⟨_,(s1.heap.objs.size+cs.length+2)::(s1.heap.objs.size+cs.length)::(s1.heap.objs.size+cs.length+1)::((bH cs.length).map fun j=>s1.heap.objs.size+j),_,Itq cs,H1,rfl,I1.kept (t':=s1.toks) Z.ext,turn_zipS,⟨_,?_,few,pos,?_,Z.zip,Z.ti,Z.to,by rw [List.length_replicate],fun n c i hc hi=>?_,fun c hc=>?_⟩,fun e he=>?_,q⟩
 ·rw [ae,fH]
 ·have nd:((bH cs.length).map fun j=>s1.heap.objs.size+j).Nodup:=by
   rw [List.nodup_iff_pairwise_ne,List.pairwise_map];exact (List.nodup_iff_pairwise_ne.mp List.nodup_range).imp fun h e=>h (by lia)
  have out:∀ x,s1.heap.objs.size+cs.length≤x→x ∉ ((bH cs.length).map fun j=>s1.heap.objs.size+j):=fun x hx hm=>by
   obtain ⟨j,hj,rfl⟩:=bc.mp hm;have:=List.mem_range.mp hj;lia
  rw [aX,aX,aX];refine ⟨fun h=>?_,fun h=>?_,fun h=>out _ (by show @LE.le Nat _ _ _;lia) h,nd⟩
  ·rcases aq.mp h with h | h
   ·have h: @Eq Nat _ _:=h
    lia
   ·rcases aq.mp h with h | h
    ·have h: @Eq Nat _ _:=h
     lia
    ·exact out _ (by show @LE.le Nat _ _ _;lia) h
  ·rcases aq.mp h with h | h
   ·have h: @Eq Nat _ _:=h
    lia
   ·exact out _ (by show @LE.le Nat _ _ _;lia) h
 ·rw [aD,List.getElem?_range (ao.mp hc).1] at hi
  cases hi;exact Z.its n c hc
 ·have:=i8 c hc
  have this: @LT.lt Nat _ c.a s1.heap.objs.size:=this;refine ⟨by show @Ne Nat _ _;lia,by show @Ne Nat _ _;lia,fun hm=>?_⟩;obtain ⟨j,hj,e⟩:=bc.mp hm;have e: @Eq Nat _ _:=e;lia
 ·have hge:s1.heap.objs.size≤e:=by
   simp only [aq] at he
   rcases he with rfl | rfl | rfl | he
   ·show @LE.le Nat _ _ _;lia
   ·show @LE.le Nat _ _ _;lia
   ·show @LE.le Nat _ _ _;lia
   ·obtain ⟨j,hj,rfl⟩:=bc.mp he
    show @LE.le Nat _ _ _;lia
  exact I1.fpOk hge (I1.hok.fresh hge)
def iZip2 (ta:TA):TI:=fun σ H R=>ta σ H fun vs H1=>∃ c1 c2 xs ys,vs=[.ref c1.a,.ref c2.a]∧HSq H1 c1 xs∧HSq H1 c2 ys∧R (Itq [c1,c2]) H1
theorem pi_zip2 {eb:Expr}{ta:TA}{p:Pos}{k0}{pt:Pos}(hg:Gl X "zip")(hm:X.mg "zip" =none)(ha:PA X [ea,eb] ta)(hs:aU [ea,eb] X.env=[(false,cN ea X.env),(false,cN eb X.env)]:=by rfl)(hs2:aU [eb] X.env=[(false,cN eb X.env)]:=by rfl) :
  PI X (.Tuple es k0 pt) (.Call (.Name "zip" p) [ea,eb] [] pos) (iZip2 ta):=by
 intro az s σ H R I h;refine Call_ (jP I hg hm boot_zip (cE (thn (ha pos az s σ H _ I h) fun us s1 ⟨vs,H1,I1,r1,q1⟩=>?_) (by rw [hs,hs2]) (by rw [hs2];rfl)));obtain ⟨c1,c2,xs,ys,e,h1,h2,q⟩:=q1;subst e;obtain ⟨u1,u2,rfl,r2,r3⟩:=vals2 r1;cases (show u1=af.ref c1.a from r2);cases (show u2=af.ref c2.a from r3);obtain ⟨_,_,p1⟩:=h1.at I1;obtain ⟨_,_,p2⟩:=h2.at I1;refine callType_new F.called_zip (by decide) (F.typeCall_zip_2 _ _) (F.newCall_zip_2 _ _) (fun obj=>F.args_object_init_3 obj _ _) F.entry_zip_new (zipS_new [c1,c2] (by show 2≤8;decide)) ⟨fun c hc=>?_,fun g Z=>⟨⟨_,Z.zip,rfl⟩,?_⟩⟩
 ·simp only [aq,aI,or_false] at hc
  rcases hc with rfl | rfl
  ·exact ⟨_,p1⟩
  ·exact ⟨_,p2⟩
 ·refine zip_walk (cs:=[c1,c2]) I1 (by show 2≤8;decide) (by show 0<2;decide) (fun c hc=>?_) q Z
  simp only [aq,aI,or_false] at hc
  rcases hc with rfl | rfl
  ·exact ⟨_,h1⟩
  ·exact ⟨_,h2⟩
theorem valsThree {x z:V}(h:eI [x,y,z] us):∃ u1 u2 u3,us=[u1,u2,u3]∧fD x u1∧fD y u2∧fD z u3:=by
 cases h with
 | cons h1 r1=>cases r1 with
  | cons h2 r2=>cases r2 with
   | cons h3 r3=>cases r3;exact ⟨_,_,_,rfl,h1,h2,h3⟩
def iZip3 (ta:TA):TI:=fun σ H R=>ta σ H fun vs H1=>∃ c1 c2 c3 xs ys zs,vs=[.ref c1.a,.ref c2.a,.ref c3.a]∧HSq H1 c1 xs∧HSq H1 c2 ys∧HSq H1 c3 zs∧R (Itq [c1,c2,c3]) H1
theorem pi_zip3 {eb ec:Expr}{ta:TA}{p:Pos}{k0}{pt:Pos}(hg:Gl X "zip")(hm:X.mg "zip" =none)(ha:PA X [ea,eb,ec] ta)(hs:aU [ea,eb,ec] X.env=[(false,cN ea X.env),(false,cN eb X.env),(false,cN ec X.env)]:=by rfl)(hs2:aU [eb,ec] X.env=[(false,cN eb X.env),(false,cN ec X.env)]:=by rfl) :
  PI X (.Tuple es k0 pt) (.Call (.Name "zip" p) [ea,eb,ec] [] pos) (iZip3 ta):=by
 intro az s σ H R I h;refine Call_ (jP I hg hm boot_zip (cE (thn (ha pos az s σ H _ I h) fun us s1 ⟨vs,H1,I1,r1,q1⟩=>?_) (by rw [hs,hs2]) (by rw [hs2];rfl)));obtain ⟨c1,c2,c3,xs,ys,zs,e,h1,h2,h3,q⟩:=q1;subst e;obtain ⟨u1,u2,u3,rfl,r2,r3,r4⟩:=valsThree r1;cases (show u1=af.ref c1.a from r2);cases (show u2=af.ref c2.a from r3);cases (show u3=af.ref c3.a from r4);obtain ⟨_,_,p1⟩:=h1.at I1;obtain ⟨_,_,p2⟩:=h2.at I1;obtain ⟨_,_,p3⟩:=h3.at I1;refine callType_new F.called_zip (by decide) (zip_type3 _ _ _) (zip_new3 _ _ _) (fun obj=>zip_args3 obj _ _ _) F.entry_zip_new (zipS_new [c1,c2,c3] (by show 3≤8;decide)) ⟨fun c hc=>?_,fun g Z=>⟨⟨_,Z.zip,rfl⟩,?_⟩⟩
 ·simp only [aq,aI,or_false] at hc
  rcases hc with rfl | rfl | rfl
  ·exact ⟨_,p1⟩
  ·exact ⟨_,p2⟩
  ·exact ⟨_,p3⟩
 ·refine zip_walk (cs:=[c1,c2,c3]) I1 (by show 3≤8;decide) (by show 0<3;decide) (fun c hc=>?_) q Z
  simp only [aq,aI,or_false] at hc
  rcases hc with rfl | rfl | rfl
  ·exact ⟨_,h1⟩
  ·exact ⟨_,h2⟩
  ·exact ⟨_,h3⟩
theorem for_zipB2 {c1 c2:Sq}(Pv:Nat→St→Hp→Prop)(h0:Pv 0 σ H)(hl:∀ i σ H,i≤ys.length→Pv i σ H→HSq H c1 xs∧HSq H c2 ys)(hxy:ys.length≤xs.length)
  (hs:∀ i x y p σ H,xs[i]? =some x→ys[i]? =some y→Pv i σ H→H p=none→g (.ref p) σ (upd H p (.tup [x,y])) fun σ2 H2=>tb { D with nx:=Pv (i+1),ct:=Pv (i+1),bk:=D.nx } σ2 H2) (hd:∀ σ H,Pv ys.length σ H→D.nx σ H) :
  ∃ W:Nat→Nat→St→Hp→Prop,(∃ m,W 0 m σ H)∧∀ i m σ H,W i m σ H →
   ((Itq [c1,c2]).stop i H∧D.nx σ H)∨((Itq [c1,c2]).go i H∧∃ N:St→Hp→Prop,(∀ σ' H',N σ' H'→∃ m',m'<m∧W (i+1) m' σ' H')∧∀ x H',(Itq [c1,c2]).yld i H x H'→g x σ H' fun σ2 H2=>tb { D with nx:=N,ct:=N,bk:=D.nx } σ2 H2):=by
 refine ⟨fun i m σ H=>i≤ys.length∧m=ys.length - i∧Pv i σ H,⟨_,cK _,rfl,h0⟩,fun i m σ H w=>?_⟩;obtain ⟨hi,hm,hp⟩:=w;obtain ⟨qa,qb⟩:=hl i σ H hi hp
 by_cases e:i=ys.length
 ·subst e
  refine .inl ⟨?_,hd σ H hp⟩
  by_cases q:ys.length<xs.length
  ·refine ⟨1,c2,ys,rfl,qb,aH _,fun n c hc hn=>?_⟩
   obtain rfl:n=0:=by lia
   cases hc;exact ⟨xs,_,qa,gE q⟩
  ·exact ⟨0,c1,xs,rfl,qa,by lia,fun n c _ hn=>lK hn (by lia)⟩
 ·have hlt2:i<ys.length:=cW hi e
  have hlt:i<xs.length:=by lia
  refine .inr ⟨⟨[xs[i],ys[i]],rfl,fun n c hc=>?_⟩,Pv (i+1),fun σ' H' hp'=>⟨ys.length - (i+1),by lia,by lia,rfl,hp'⟩,fun v H3 hy=>?_⟩
  ·match n,hc with
   | 0,hc=>cases hc;exact ⟨xs,xs[i],qa,gE hlt,rfl⟩
   | 1,hc=>cases hc;exact ⟨ys,ys[i],qb,gE hlt2,rfl⟩
   | n+2,hc=>simp at hc
  ·obtain ⟨p,vs,hn,rfl,rfl,lv,hx⟩:=hy
   match vs,lv,hx with
   | [x,y],_,hx=>exact hs i x y p σ H (hx 0 c1 x xs rfl qa rfl) (hx 1 c2 y ys rfl qb rfl) hp hn
theorem for_zipB3 {c1 c2 c3:Sq}{zs:List V}(Pv:Nat→St→Hp→Prop)(h0:Pv 0 σ H)(hl:∀ i σ H,i≤ys.length→Pv i σ H→HSq H c1 xs∧HSq H c2 ys∧HSq H c3 zs)(hxy:ys.length≤xs.length)(hyz:ys.length=zs.length)
  (hs:∀ i x y z p σ H,xs[i]? =some x→ys[i]? =some y→zs[i]? =some z→Pv i σ H→H p=none→g (.ref p) σ (upd H p (.tup [x,y,z])) fun σ2 H2=>tb { D with nx:=Pv (i+1),ct:=Pv (i+1),bk:=D.nx } σ2 H2) (hd:∀ σ H,Pv ys.length σ H→D.nx σ H) :
  ∃ W:Nat→Nat→St→Hp→Prop,(∃ m,W 0 m σ H)∧∀ i m σ H,W i m σ H →
   ((Itq [c1,c2,c3]).stop i H∧D.nx σ H)∨((Itq [c1,c2,c3]).go i H∧∃ N:St→Hp→Prop,(∀ σ' H',N σ' H'→∃ m',m'<m∧W (i+1) m' σ' H')∧∀ x H',(Itq [c1,c2,c3]).yld i H x H'→g x σ H' fun σ2 H2=>tb { D with nx:=N,ct:=N,bk:=D.nx } σ2 H2):=by
 refine ⟨fun i m σ H=>i≤ys.length∧m=ys.length - i∧Pv i σ H,⟨_,cK _,rfl,h0⟩,fun i m σ H w=>?_⟩;obtain ⟨hi,hm,hp⟩:=w;obtain ⟨qa,qb,qc⟩:=hl i σ H hi hp
 by_cases e:i=ys.length
 ·subst e
  refine .inl ⟨?_,hd σ H hp⟩
  by_cases q:ys.length<xs.length
  ·refine ⟨1,c2,ys,rfl,qb,aH _,fun n c hc hn=>?_⟩
   obtain rfl:n=0:=by lia
   cases hc;exact ⟨xs,_,qa,gE q⟩
  ·exact ⟨0,c1,xs,rfl,qa,by lia,fun n c _ hn=>lK hn (by lia)⟩
 ·have hlt2:i<ys.length:=cW hi e
  have hlt:i<xs.length:=by lia
  have hlt3:i<zs.length:=by lia
  refine .inr ⟨⟨[xs[i],ys[i],zs[i]],rfl,fun n c hc=>?_⟩,Pv (i+1),fun σ' H' hp'=>⟨ys.length - (i+1),by lia,by lia,rfl,hp'⟩,fun v H3 hy=>?_⟩
  ·match n,hc with
   | 0,hc=>cases hc;exact ⟨xs,xs[i],qa,gE hlt,rfl⟩
   | 1,hc=>cases hc;exact ⟨ys,ys[i],qb,gE hlt2,rfl⟩
   | 2,hc=>cases hc;exact ⟨zs,zs[i],qc,gE hlt3,rfl⟩
   | n+3,hc=>simp at hc
  ·obtain ⟨p,vs,hn,rfl,rfl,lv,hx⟩:=hy
   match vs,lv,hx with
   | [x,y,z],_,hx=>exact hs i x y z p σ H (hx 0 c1 x xs rfl qa rfl) (hx 1 c2 y ys rfl qb rfl) (hx 2 c3 z zs rfl qc rfl) hp hn
end L2
variable {c:L2.Sq}{cs:List L2.Sq}
namespace HN
open PySem L2 PyProof.Rows HT2
abbrev sRideL:b8:=clsOf cLin 3
inductive spRideL (C:ak)(vs:List V)(H:Hp)(Q:VK)(_:XK):Prop
 | mk (x D:ak)(n z y:Str)(ss:List Str)(rs:List Int)(fi:Int)(_:vs=[.ref x,.str z,.str y])(_:LinD H C x n ss rs D fi)(_:ss.length=rs.length+1)(_:2≤ss.length)(_:ss.Nodup)(_:∀ H',bO H H'→(∀ (i:Nat) (r:Int),ss[i]? =some z→ss[i+1]? =some y→rs[i]? =some r→Q (.int r) H')∧((∀ i:Nat,ss[i]? =some z→ss[i+1]? ≠some y)→Q .non H'))
section
variable {w:aV}
theorem scRideL:bE ["self","stop","after","here","there","run"] pzz (defScope sRideL):=by trivial
theorem ok_rideL (F:Fun K "ride" "Line.ride" sRideL f fd)(hz:mg "zip" =none)(CC:LinC K C):cI P w K mg base CX0 1 f fd pzz (spRideL C):=by
 refine F.ok scRideL (by contradiction) (fun cdv A outer s H vs Q E hr h=>?_);obtain ⟨x,D,n,z,y,ss,rs,fi,rfl,⟨dx,a,b,hx,ha,hb⟩,hl,two,nd,k⟩:=h;refine ⟨_,PSl.h (bf ⟨(iV cJ rfl (pi_zip3 rfl hz (ah (dk (pv 0) rfl) (ah (gc jB (dk (pv 0) rfl) (gH aT) hE) (ah (dk (pv 0) rfl) aw)))) (j7 rfl (dU (pgZ 3 scRideL.nd) (dU (pgZ 4 scRideL.nd) (dU (pgZ 5 scRideL.nd) i9)))) (bp (fQ (PW.pt (pw_and (cD jC (pv 3) (pv 1) (cP _)) (pw_and1 (cD jC (pv 4) (pv 2) (cP _))))) (bp (bI (pv 5))) cM)))⟩ (fR ⟨(bI jy)⟩)),?_⟩;have hls:(ss.map V.str).length=ss.length:=ae _;have e1:HT.sIx (ss.map V.str).length 0 (some 1)=1:=by
  rw [hls];have:=HT.sIx_nat ss.length 0 1;rw [dI (by lia)] at this;exact this
 refine ⟨_,rfl,x,C,dx,_,_,rfl,hx,CC.cl,CC.n2,rfl,_,rfl,x,C,dx,_,_,rfl,hx,CC.cl,CC.n2,rfl,_,rfl,a,_,rfl,SqT.of ha,?_,fun p H1 S1 e=>?_⟩
 ·rw [e1]
  intro q;exact lK q.1 (by decide)
 rw [cutF (i:=1) (n:=1) rfl,←gX] at e;refine ⟨_,rfl,x,C,dx,_,_,rfl,S1 _ _ hx,CC.cl,CC.n3,rfl,⟨false,a⟩,⟨false,p⟩,⟨false,b⟩,_,_,_,rfl,S1 _ _ ha,e,S1 _ _ hb,?_⟩;refine for_zipB3 (c1:=⟨false,a⟩) (c2:=⟨false,p⟩) (c3:=⟨false,b⟩) (xs:=ss.map V.str) (ys:=(ss.drop 1).map V.str) (zs:=rs.map V.int) (fun i σ H2=>bO H1 H2∧(∀ j,j<i→ss[j]? =some z→ss[j+1]? ≠some y)∧∃ v3 v4 v5,σ=[some (.ref x),some (.str z),some (.str y),v3,v4,v5])
  ⟨bO.refl _,fun j hj=>lK hj (Nat.not_lt_zero _),none,none,none,rfl⟩ (fun i σ H2 _ q=>⟨q.1 _ _ (S1 _ _ ha),q.1 _ _ e,q.1 _ _ (S1 _ _ hb)⟩) (by rw [ae,ae,bR];lia) (by rw [ae,ae,bR];lia) ?_ ?_
 ·rintro i x1 x2 x3 q σ H2 h1 h2 h3 ⟨S2,no,v3,v4,v5,rfl⟩ hq
  rw [aD] at h1 h2 h3;obtain ⟨u1,g1,rfl⟩:=aN.mp h1;obtain ⟨u2,g2,rfl⟩:=aN.mp h2;obtain ⟨r,g3,rfl⟩:=aN.mp h3;rw [gx,Nat.add_comm] at g2;have S6:bO H1 (upd H2 q (.tup [.str u1,.str u2,.int r])):=S2.put hq;have h6:(upd H2 q (.tup [.str u1,.str u2,.int r])) q=some (.tup [.str u1,.str u2,.int r]):=aK;generalize upd H2 q (.tup [.str u1,.str u2,.int r])=H6 at S6 h6 ⊢;have nx:¬ (u1=z∧u2=y)→∀ j,j<i+1→ss[j]? =some z→ss[j+1]? ≠some y:=fun hne j hj w1 w2=>by
   rcases Nat.lt_succ_iff_lt_or_eq.mp hj with hj | hj
   ·exact no j hj w1 w2
   ·subst hj
    rw [g1] at w1;rw [g2] at w2;exact hne ⟨bx w1,bx w2⟩
  refine ⟨q,_,rfl,SqT.of h6,rfl,_,_,rfl,_,_,rfl,_,_,rfl,rfl,?_⟩;refine ⟨_,rfl,_,rfl,rfl,_,rfl,jG (fun c1=>?_) (fun c1=>?_)⟩
  ·have c1:u1=z:=by have:=lN c1;injection this
   refine ⟨_,rfl,_,rfl,rfl,_,rfl,jG (fun c2=>?_) (fun c2=>?_)⟩
   ·have c2:u2=y:=by have:=lN c2;injection this
    exact ⟨_,rfl,(k H6 (S1.trans S6)).1 i r (c1 ▸ g1) (c2 ▸ g2) g3⟩
   ·exact ⟨S6,nx fun z=>c2 (lL (by rw [z.2])),_,_,_,rfl⟩
  ·exact ⟨S6,nx fun z=>c1 (lL (by rw [z.1])),_,_,_,rfl⟩
 ·rintro σ H2 ⟨S2,no,v3,v4,v5,rfl⟩
  refine (k H2 (S1.trans S2)).2 fun i h1 h2=>no i ?_ h1 h2
  have:=(ao.mp h2).1;rw [ae,bR];lia
end
abbrev sLabL:b8:=clsOf cLin 5
def labs (n:Str):List Str→List (List V)
 | s::t::r=>[.str n,.str s,.str "goes"]::[.str n,.str t,.str "comes"]::labs n (t::r)
 | _=>[]
inductive spLabL (C:ak)(vs:List V)(H:Hp)(Q:VK)(_:XK):Prop
 | mk (x D:ak)(n:Str)(ss:List Str)(rs:List Int)(fi:Int)(_:vs=[.ref x])(_:LinD H C x n ss rs D fi)(_:2≤ss.length)(_:ss.length≤1000)(_:∀ (L:ak) (as:List ak) (H':Hp),bO H H'→H L=none→H' L=some (.lst (as.map V.ref))→as.map H'=(labs n ss).map (fun t=>some (HO.tup t))→Q (.ref L) H')
theorem labs_take {n:Str}:∀ {ss:List Str} {i:Nat} {s t:Str},ss[i]? =some s→ss[i+1]? =some t→labs n (ss.take (i+2))=labs n (ss.take (i+1))++[[.str n,.str s,.str "goes"],[.str n,.str t,.str "comes"]]
 | [],_,_,_,h,_=>by cases h
 | [_],0,_,_,_,h=>by cases h
 | [_],_+1,_,_,h,_=>by cases h
 | a::b::r,0,s,t,h1,h2=>by cases h1;cases h2;rfl
 | a::b::r,i+1,s,t,h1,h2=>by
  have ih:=labs_take (n:=n) (ss:=b::r) (i:=i) h1 h2;show _::_::labs n ((b::r).take (i+2))=_::_::(labs n ((b::r).take (i+1))++_);rw [ih]
theorem jO {L:ak}{as:List ak}{ts:List (List V)}(h:as.map H=ts.map (fun t=>some (HO.tup t)))(k:∀ c o,c≠L→H c=some o→H' c=some o)(hL:H L=some (.lst xs)):as.map H'=ts.map (fun t=>some (HO.tup t)):=by
 rw [←h];refine dJ fun c hc=>?_
 have hm:H c∈ts.map (fun t=>some (HO.tup t)):=by rw [←h];exact List.mem_map_of_mem hc
 obtain ⟨t,_,e⟩:=bc.mp hm;rw [←e];exact k c _ (fun z=>by rw [z,hL] at e;cases e) e.symm
section
variable {w:aV}
theorem scLabL:bE ["self","labels","here","there"] pza (defScope sLabL):=by trivial
theorem ok_labL (F:Fun K "own_labels" "Line.own_labels" sLabL f fd)(hz:mg "zip" =none)(CC:LinC K C):cI P w K mg base CX0 1 f fd pza (spLabL C):=by
 refine F.ok scLabL (by contradiction) (fun cdv A outer s H vs Q E hr h=>?_);obtain ⟨x,D,n,ss,rs,fi,rfl,⟨dx,a,b,hx,ha,hb⟩,two,few,k⟩:=h;refine ⟨_,PSl.h (bf ⟨(psZ 1 scLabL.nd (ja aw))⟩ (bf ⟨(iV cJ rfl (pi_zip2 rfl hz (ah (dk (pv 0) rfl) (ah (gc jB (dk (pv 0) rfl) (gH aT) hE) aw))) (j7 rfl (dU (pgZ 2 scLabL.nd) (dU (pgZ 3 scLabL.nd) i9)))
  (PSl.h (bf ⟨(iw (jc bU cG cF gM (pv 1) (ah (gq (ah (dk (pv 0) rfl) (ah (pv 2) (ah fY aw)))) aw)))⟩
   (fR ⟨(iw (jc bU cG cF gM (pv 1) (ah (gq (ah (dk (pv 0) rfl) (ah (pv 3) (ah fY aw)))) aw)))⟩))))⟩ (fR ⟨(bI (pv 1))⟩))),?_⟩
 have hls:(ss.map V.str).length=ss.length:=ae _;have e1:HT.sIx (ss.map V.str).length 0 (some 1)=1:=by
  rw [hls];have:=HT.sIx_nat ss.length 0 1;rw [dI (by lia)] at this;exact this
 refine ⟨(by show 0≤ar;decide),fun L hLn=>?_⟩;have S0:bO H (upd H L (.lst [])):=bO.put (bO.refl H) hLn;have hL:(upd H L (.lst [])) L=some (.lst []):=aK;generalize upd H L (.lst [])=H0 at S0 hL ⊢;have S0x:=S0 _ _ hx;refine ⟨_,rfl,x,C,dx,_,_,rfl,S0x,CC.cl,CC.n2,rfl,_,rfl,x,C,dx,_,_,rfl,S0x,CC.cl,CC.n2,rfl,_,rfl,a,_,rfl,SqT.of (S0 _ _ ha),?_,fun p H1 S1 e=>?_⟩
 ·rw [e1]
  intro q;exact lK q.1 (by decide)
 rw [cutF (i:=1) (n:=1) rfl,←gX] at e;have hL1:=S1 _ _ hL;have ha1:=S1 _ _ (S0 _ _ ha);have hx1:=S1 _ _ S0x;refine ⟨⟨false,a⟩,⟨false,p⟩,_,_,rfl,ha1,e,?_⟩;refine for_zipB2 (c1:=⟨false,a⟩) (c2:=⟨false,p⟩) (xs:=ss.map V.str) (ys:=(ss.drop 1).map V.str) (fun i σ H2=>(∀ c o,c≠L→H1 c=some o→H2 c=some o)∧(∃ as:List ak,as.length=2 * i∧H2 L=some (.lst (as.map V.ref))∧as.map H2=(labs n (ss.take (i+1))).map (fun t=>some (HO.tup t)))∧∃ v2 v3,σ=[some (.ref x),some (.ref L),v2,v3])
  ⟨fun c o _ h=>h,⟨[],rfl,hL1,by cases ss with | nil=>rfl | cons s r=>rfl⟩,none,none,rfl⟩ (fun i σ H2 _ q=>⟨q.1 _ _ (cV ha1 hL1 nofun) ha1,q.1 _ _ (cV e hL1 nofun) e⟩) (by rw [ae,ae,bR];lia) ?_ ?_
 ·rintro i x1 x2 q σ H2 h1 h2 ⟨k2,⟨as,la,hL2,hm⟩,v2,v3,rfl⟩ hq
  rw [aD] at h1 h2;obtain ⟨u1,g1,rfl⟩:=aN.mp h1;obtain ⟨u2,g2,rfl⟩:=aN.mp h2;rw [gx,Nat.add_comm] at g2;have li:i+1<ss.length:=(ao.mp g2).1;have big:(100000:Nat)≤ar:=by decide
  have S6:bO H2 (upd H2 q (.tup [.str u1,.str u2])):=bO.put (bO.refl H2) hq;have h6:(upd H2 q (.tup [.str u1,.str u2])) q=some (.tup [.str u1,.str u2]):=aK;generalize upd H2 q (.tup [.str u1,.str u2])=H6 at S6 h6 ⊢;have xL:x≠L:=cV hx1 hL1 nofun;have hx6:=S6 _ _ (k2 _ _ xL hx1);refine ⟨q,_,rfl,SqT.of h6,rfl,_,_,rfl,_,_,rfl,rfl,?_⟩;have hL6:=S6 _ _ hL2;refine ⟨_,rfl,.inl ⟨rfl,_,SqL.of hL6⟩,_,rfl,x,C,dx,_,_,rfl,hx6,CC.cl,CC.n1,rfl,_,rfl,(by show 3≤ar;decide),fun p1 H7 S7 e7=>?_⟩;have hL7:=S7 _ _ hL6;refine ⟨L,_,_,rfl,rfl,hL7,(by rw [ae,la];lia),?_⟩;have S68:∀ c o,c≠L→H2 c=some o→(upd H7 L (.lst (as.map V.ref++[.ref p1]))) c=some o:=fun c o hc h=>by rw [aR hc];exact S7 _ _ (S6 _ _ h)
  have p1L:p1≠L:=cV e7 hL7 nofun;have e8:(upd H7 L (.lst (as.map V.ref++[.ref p1]))) p1=some (.tup [.str n,.str u1,.str "goes"]):=by rw [aR p1L];exact e7
  have hL8:(upd H7 L (.lst (as.map V.ref++[.ref p1]))) L=some (.lst (as.map V.ref++[.ref p1])):=aK;generalize upd H7 L (.lst (as.map V.ref++[.ref p1]))=H8 at S68 e8 hL8 ⊢;have hm8:=jO hm S68 hL2;have hx8:=S68 _ _ xL (k2 _ _ xL hx1);refine ⟨_,rfl,.inl ⟨rfl,_,SqL.of hL8⟩,_,rfl,x,C,dx,_,_,rfl,hx8,CC.cl,CC.n1,rfl,_,rfl,(by show 3≤ar;decide),fun p2 H9 S9 e9=>?_⟩;have hL9:=S9 _ _ hL8;refine ⟨L,_,_,rfl,rfl,hL9,(by rw [av,ae,la];show 2 * i+1<ar;lia),?_⟩;have p2L:p2≠L:=cV e9 hL9 nofun;have k9:∀ c o,c≠L→H8 c=some o→(upd H9 L (.lst (as.map V.ref++[.ref p1]++[.ref p2]))) c=some o:=fun c o hc h=>by rw [aR hc];exact S9 _ _ h
  refine ⟨fun c o hc h=>k9 _ _ hc (S68 _ _ hc (k2 _ _ hc h)),⟨as++[p1,p2],by rw [av,la];show 2 * i+2=_;lia,?_,?_⟩,_,_,rfl⟩
  ·rw [aK,au,List.append_assoc];rfl
  ·rw [labs_take g1 g2,au,au,jO hm8 k9 hL8]
   congr 1;show [_,_]=[_,_];rw [k9 _ _ p1L e8,aR p2L,e9]
 ·rintro σ H2 ⟨k2,⟨as,la,hL2,hm⟩,v2,v3,rfl⟩
  refine ⟨_,rfl,k L as H2 (fun c o h=>k2 c o ?_ (S1 _ _ (S0 _ _ h))) ?_ hL2 ?_⟩
  ·intro z;rw [z,hLn] at h;cases h
  ·exact hLn
  ·rw [hm,ae,bR,gI (by lia)]
end
abbrev sApart:b8:=top 32
structure LinK (P:aB)(w:aV)(K:ai)(mg:Str→Option af)(base:bj)(C:ak)(fc fg fr:ak)(dc dg dr:aO):Prop where
 cc:LinC K C
 m1:lG K C "coming" fc
 f1:cI P w K mg base CX0 1 fc dc pzg (spComL C)
 b1:Binds K dc pzg []
 m2:lG K C "going" fg
 f2:cI P w K mg base CX0 1 fg dg pzg (spGoL C)
 b2:Binds K dg pzg []
 m3:lG K C "ride" fr
 f3:cI P w K mg base CX0 1 fr dr pzz (spRideL C)
 b3:Binds K dr pzz []
structure LnOk (H:Hp)(C x:ak)(ss:List Str)(rs:List Int)(fi:Int):Prop where
 d:∃ D n,LinD H C x n ss rs D fi
 nd:ss.Nodup
 two:2≤ss.length
 few:ss.length≤1000
 rl:ss.length=rs.length+1
theorem LnOk.kept {x:ak}{rs:List Int}{fi:Int}(S:bO H H')(h:LnOk H C x ss rs fi):LnOk H' C x ss rs fi:=by
 obtain ⟨⟨D,n,dx,a,b,h1,h2,h3⟩,q⟩:=h;exact ⟨⟨D,n,dx,a,b,S _ _ h1,S _ _ h2,S _ _ h3⟩,by assumption,by assumption,by assumption,by assumption⟩
inductive spApart (C:ak)(vs:List V)(H:Hp)(Q:VK)(_:XK):Prop
 | mk (bt d:Int)(x y p:ak)(n1 n2 z:Str)(ss tt:List Str)(rs us:List Int)(fi gi:Int)(i j:Nat)(_:vs=[.int bt,.ref x,.ref y,.ref p])(_:LnOk H C x ss rs fi)(_:LnOk H C y tt us gi)(_:H p=some (.tup [.str "apart",.str n1,.str n2,.str z,.int d]))(_:ss[i]? =some z)(_:i+1<ss.length)(_:tt[j]? =some z)(_:j+1<tt.length)(_:∀ q H',bO H H'→H' q=some (.tup [.int (fi+2 * i),.int (gi+2 * j),.int d,.int (bt - d),.int 0])→Q (.ref q) H')
section
variable {w:aV}
theorem scApart:bE pzi pzi (defScope sApart):=by trivial
theorem ok_apart {fc fg fr:ak}(F:Fun K "apart_span" "apart_span" sApart f fd)(CK:LinK P w K mg base C fc fg fr dc dg dr):cI P w K mg base CX0 2 f fd pzi (spApart C):=by
 refine F.ok scApart (by contradiction) (fun cdv A outer s H vs Q E hr h=>?_);obtain ⟨bt,d,x,y,p,n1,n2,z,ss,tt,rs,us,fi,gi,i,j,rfl,hx,hy,hp,e1,e2,e3,e4,k⟩:=h;refine ⟨_,bp (bI (gq (ah (eV (pv 1) CK.cc.cl CK.m2 CK.f2 hr CK.b2 .nil fz (ah (ixZ (pv 3)) aw)) (ah (eV (pv 2) CK.cc.cl CK.m2 CK.f2 hr CK.b2 .nil fz (ah (ixZ (pv 3)) aw)) (ah (ixZ (pv 3)) (ah (cn eM (pv 0) (ixZ (pv 3))) (ah aT aw))))))),?_⟩;obtain ⟨⟨D,n,L⟩,nd,two,few,_⟩:=hx;obtain ⟨dx,a,b,hx1,_⟩:=id L;refine ⟨_,rfl,x,dx,_,rfl,hx1,rfl,_,rfl,p,_,_,_,rfl,rfl,SqT.of hp,aC (j:=3) rfl,x,D,n,z,ss,rs,fi,rfl,L,few,two,nd,fun H1 S1=>⟨fun i' a1 a2=>?_,fun no=>lK (no i e1) (by lia)⟩⟩;obtain rfl:i'=i:=by
  rcases gQ i' i with q | q | q
  ·exact lK a1 (il nd e1 _ q)
  ·exact q
  ·exact lK e1 (il nd a1 _ q)
 obtain ⟨⟨D2,n2',L2'⟩,nd2,two2,few2,_⟩:=hy.kept S1;obtain ⟨dy,a3,b3,hy1,_⟩:=id L2';refine ⟨_,rfl,y,dy,_,rfl,hy1,rfl,_,rfl,p,_,_,_,rfl,rfl,SqT.of (S1 _ _ hp),aC (j:=3) rfl,y,D2,n2',z,tt,us,gi,rfl,L2',few2,two2,nd2,fun H2 S2=>⟨fun j' a1' a2'=>?_,fun no=>lK (no j e3) (by lia)⟩⟩;obtain rfl:j'=j:=by
  rcases gQ j' j with q | q | q
  ·exact lK a1' (il nd2 e3 _ q)
  ·exact q
  ·exact lK e3 (il nd2 a1' _ q)
 have hp2:=S2 _ _ (S1 _ _ hp);refine ⟨_,rfl,p,_,_,_,rfl,rfl,SqT.of hp2,aC (j:=4) rfl,_,rfl,_,rfl,p,_,_,_,rfl,rfl,SqT.of hp2,aC (j:=4) rfl,_,_,rfl,rfl,szZ5,fun q H3 S3 e=>?_⟩;exact k q H3 (S1.trans (S2.trans S3)) e
end
abbrev sMeet:b8:=top 33
inductive spMeet (C:ak)(vs:List V)(H:Hp)(Q:VK)(_:XK):Prop
 | mk (bt d r u:Int)(x y p:ak)(n1 n2 z z2:Str)(ss tt:List Str)(rs us:List Int)(fi gi:Int)(i j:Nat)(_:vs=[.int bt,.ref x,.ref y,.ref p])(_:LnOk H C x ss rs fi)(_:LnOk H C y tt us gi)(_:H p=some (.tup [.str "meet",.str n1,.str n2,.str z,.str z2,.int d]))(_:ss[i]? =some z)(_:ss[i+1]? =some z2)(_:rs[i]? =some r)(_:tt[j]? =some z2)(_:tt[j+1]? =some z)(_:us[j]? =some u)(_:∀ q H',bO H H'→H' q=some (.tup [.int (fi+2 * i),.int (gi+2 * j),.int (r+d),.int (bt - u - d),.int 0])→Q (.ref q) H')
theorem iI {i:Nat}(nd:ss.Nodup)(e:ss[i]? =some z)(a:ss[j]? =some z):j=i:=by
 rcases gQ j i with q | q | q
 ·exact lK a (il nd e _ q)
 ·exact q
 ·exact lK e (il nd a _ q)
section
variable {w:aV}
theorem scMeet:bE ["beat","one","other","row","ride","back"] pzi (defScope sMeet):=by trivial
theorem ok_meet {fc fg fr:ak}(F:Fun K "meet_span" "meet_span" sMeet f fd)(CK:LinK P w K mg base C fc fg fr dc dg dr):cI P w K mg base CX0 2 f fd pzi (spMeet C):=by
 refine F.ok scMeet (by contradiction) (fun cdv A outer s H vs Q E hr h=>?_);obtain ⟨bt,d,r,u,x,y,p,n1,n2,z,z2,ss,tt,rs,us,fi,gi,i,j,rfl,hx,hy,hp,e1,e2,e3,e4,e5,e6,k⟩:=h;refine ⟨_,PSl.h (bf ⟨(psZ 4 scMeet.nd (eV (pv 1) CK.cc.cl CK.m3 CK.f3 hr CK.b3 .nil fz (ah (ixZ (pv 3)) (ah (ixZ (pv 3)) aw))))⟩
  (bf ⟨(psZ 5 scMeet.nd (eV (pv 2) CK.cc.cl CK.m3 CK.f3 hr CK.b3 .nil fz (ah (ixZ (pv 3)) (ah (ixZ (pv 3)) aw))))⟩
  (bf ⟨(fQ (PW.pt (kh (cD op_isN (pv 4) jy (cP _)) (jv (cD op_isN (pv 5) jy (cP _))))) (bp (bI jy)) cM)⟩
  (fR ⟨(bI (gq (ah (eV (pv 1) CK.cc.cl CK.m2 CK.f2 hr CK.b2 .nil fz (ah (ixZ (pv 3)) aw)) (ah (eV (pv 2) CK.cc.cl CK.m2 CK.f2 hr CK.b2 .nil fz (ah (ixZ (pv 3)) aw)) (ah (cn eN (pv 4) (ixZ (pv 3))) (ah (cn eM (cn eM (pv 0) (pv 5)) (ixZ (pv 3))) (ah aT aw)))))))⟩)))),?_⟩
 obtain ⟨⟨D,n,L⟩,nd,two,few,rl⟩:=id hx;obtain ⟨dx,a,b,hx1,_⟩:=id L;refine ⟨_,rfl,x,dx,_,rfl,hx1,rfl,_,rfl,p,_,_,_,rfl,rfl,SqT.of hp,aC (j:=3) rfl,_,rfl,p,_,_,_,rfl,rfl,SqT.of hp,aC (j:=4) rfl,x,D,n,z,z2,ss,rs,fi,rfl,L,rl,two,nd,fun H1 S1=>⟨fun i' r' a1 a2 a3=>?_,fun no=>lK e2 (no i e1)⟩⟩;obtain rfl:=iI nd e1 a1;obtain rfl:r'=r:=bx (a3.symm.trans e3);obtain ⟨⟨D2,n2',L2'⟩,nd2,two2,few2,rl2⟩:=hy.kept S1;obtain ⟨dy,a4,b4,hy1,_⟩:=id L2';have hp1:=S1 _ _ hp;refine ⟨_,rfl,y,dy,_,rfl,hy1,rfl,_,rfl,p,_,_,_,rfl,rfl,SqT.of hp1,aC (j:=4) rfl,_,rfl,p,_,_,_,rfl,rfl,SqT.of hp1,aC (j:=3) rfl,y,D2,n2',z2,z,tt,us,gi,rfl,L2',rl2,two2,nd2,fun H2 S2=>⟨fun j' u' b1 b2 b3=>?_,fun no=>lK e5 (no j e4)⟩⟩;obtain rfl:=iI nd2 e4 b1;obtain rfl:u'=u:=bx (b3.symm.trans e6);have hp2:=S2 _ _ hp1;refine ⟨_,rfl,rfl,_,rfl,jz (lM nofun) ⟨_,rfl,rfl,_,rfl,jz (lM nofun) ?_⟩⟩;obtain ⟨⟨D3,n3,L3⟩,_,_,_,_⟩:=hx.kept (S1.trans S2);obtain ⟨dx3,a5,b5,hx3,_⟩:=id L3;have l1:=(ao.mp e2).1;have l2:=(ao.mp e5).1;refine ⟨_,rfl,x,dx3,_,rfl,hx3,rfl,_,rfl,p,_,_,_,rfl,rfl,SqT.of hp2,aC (j:=3) rfl,x,D3,n3,z,ss,rs,fi,rfl,L3,few,two,nd,fun H3 S3=>⟨fun i2 c1 c2=>?_,fun no=>lK (no _ e1) (by lia)⟩⟩;obtain rfl:=iI nd e1 c1;obtain ⟨⟨D4,n4,L4⟩,_,_,_,_⟩:=hy.kept (S1.trans (S2.trans S3));obtain ⟨dy4,a6,b6,hy4,_⟩:=id L4;have hp3:=S3 _ _ hp2;refine ⟨_,rfl,y,dy4,_,rfl,hy4,rfl,_,rfl,p,_,_,_,rfl,rfl,SqT.of hp3,aC (j:=4) rfl,y,D4,n4,z2,tt,us,gi,rfl,L4,few2,two2,nd2,fun H4 S4=>⟨fun j2 d1 d2=>?_,fun no=>lK (no _ e4) (by lia)⟩⟩;obtain rfl:=iI nd2 e4 d1;have hp4:=S4 _ _ hp3;refine ⟨_,rfl,_,rfl,p,_,_,_,rfl,rfl,SqT.of hp4,aC (j:=5) rfl,_,_,rfl,rfl,_,rfl,_,rfl,_,_,rfl,rfl,_,rfl,p,_,_,_,rfl,rfl,SqT.of hp4,aC (j:=5) rfl,_,_,rfl,rfl,szZ5,fun q H5 S5 e=>?_⟩;exact k q H5 (S1.trans (S2.trans (S3.trans (S4.trans S5)))) e
end
structure Ln where
 n:Str
 ss:List Str
 rs:List Int
 st:List (Str×Int×Int×Int)
 fi:Int
def sty (st:List (Str×Int×Int×Int))(z:Str):Int×Int×Int:=((st.find? fun p=>decide (p.1=z)).map (·.2)).getD (0,0,0)
def stp (l:Ln)(i:Nat):List Sn:=⟨l.fi+2 * i,l.fi+2 * i+1,l.rs.getD i 0,l.rs.getD i 0,0⟩ ::
 (if i+2<l.ss.length then [⟨l.fi+2 * i+1,l.fi+2 * i+2,(sty l.st (l.ss.getD (i+1) du)).1,(sty l.st (l.ss.getD (i+1) du)).2.1,(sty l.st (l.ss.getD (i+1) du)).2.2⟩] else [])
def ownN (l:Ln)(k:Nat):List Sn:=(bH k).flatMap (stp l)
abbrev ownS (l:Ln):List Sn:=ownN l l.rs.length
theorem kH (l:Ln)(k:Nat):ownN l (k+1)=ownN l k++stp l k:=by
 unfold ownN;rw [List.range_succ,List.flatMap_append];simp
theorem stp_len (l:Ln)(i:Nat):(stp l i).length≤2:=by
 unfold stp;split <;> simp
theorem ownN_len (l:Ln):∀ k,(ownN l k).length≤2 * k
 | 0=>by simp [ownN]
 | k+1=>by
  have:=ownN_len l k;have:=stp_len l k;rw [kH,av];lia
abbrev snD (x:Sn):Dt:= .tup (x.row.map Dt.int)
structure StA (H:Hp)(D:ak)(st:List (Str×Int×Int×Int)):Prop where
 ex:∃ kvs:List (Key×V),H D=some (.dK kvs)∧kvs.length=st.length∧∀ z,(∀ v,jT kvs (.inr z)=some v→∃ a,v= .ref a∧H a=some (.tup [.int (sty st z).1,.int (sty st z).2.1,.int (sty st z).2.2]))∧(jT kvs (.inr z)=none→sty st z=(0,0,0)∧z ∉ st.map (·.1))∧((jT kvs (.inr z)).isSome=true→z∈st.map (·.1))
structure LnA (H:Hp)(C x D:ak)(l:Ln):Prop where
 d:LinD H C x l.n l.ss l.rs D l.fi
 s:StA H D l.st
 nd:l.ss.Nodup
 two:2≤l.ss.length
 few:l.ss.length≤1000
 rl:l.ss.length=l.rs.length+1
theorem StA.kept {D:ak}{st:List (Str×Int×Int×Int)}(k:∀ b xs,H b=some (.tup xs)→H' b=some (.tup xs))(e:H' D=H D)(h:StA H D st):StA H' D st:=by
 obtain ⟨kvs,h1,h2,h3⟩:=h.ex;refine ⟨kvs,e.trans h1,h2,fun z=>⟨fun v hv=>?_,(h3 z).2⟩⟩;obtain ⟨a,e1,e2⟩:=(h3 z).1 v hv;exact ⟨a,e1,k _ _ e2⟩
theorem LnA.kept {x D:ak}{l:Ln}(k:∀ b xs,H b=some (.tup xs)→H' b=some (.tup xs))(k2:∀ b C dx fs,H b=some (.ins C dx fs)→H' b=some (.ins C dx fs))(e:H' D=H D)(h:LnA H C x D l):LnA H' C x D l:=by
 obtain ⟨dx,a,b,h1,h2,h3⟩:=h.d;exact ⟨⟨dx,a,b,k2 _ _ _ _ h1,k _ _ h2,k _ _ h3⟩,h.s.kept k e,h.nd,h.two,h.few,h.rl⟩
theorem LnA.same {x D:ak}{l:Ln}(S:bO H H')(h:LnA H C x D l):LnA H' C x D l:=by
 obtain ⟨kvs,h1,_⟩:=h.s.ex;exact h.kept (fun b xs e=>S _ _ e) (fun b C dx fs e=>S _ _ e) ((S _ _ h1).trans h1.symm)
structure Unt (K:ai)(mg:Str→Option af):Prop where
 ex:∃ t,mg "STAY_UNTOLD" =some (.ref t)∧∀ H,SqT K H t [.int 0,.int 0,.int 0]
inductive spOwn (C:ak)(vs:List V)(H:Hp)(Q:VK)(_:XK):Prop
 | mk (x D:ak)(l:Ln)(_:vs=[.ref x])(_:LnA H C x D l)(_:∀ (L:ak) (ys:List V) (H':Hp),bO H H'→H L=none→H' L=some (.lst ys)→fI H' ys ((ownS l).map snD)→Q (.ref L) H')
end HN
namespace L2
open PySem PySem.Spec PyProof.Rows
def isVV (r d:ak):HO:= .ext fun h=>h.IsValuesView r d
structure M0 (X:Cx)(o:Expr)(m:Str)(apos:Pos)(cpos:Pos):Prop where
 base:fV o m X.env (cN o X.env)=cN o X.env
 few:((eu cpos (aU [] X.env)).all (fun x=> !x.1) && (backToKw cpos (iB [] X.env)).all (fun x=>x.1.isSome)
  && decide (([]:List Expr).length+([]:List Keyword).length+(if ([]:List Keyword).isEmpty then 0 else 1)<30))=true
 line:(apos.endLine == cpos.line)=true
 trees:eu cpos (aU [] X.env)=[]
theorem Paired.getR {α β:Type}{F:α→β→Prop}:∀ {l:List α} {k:List β},Paired F l k→∀ {i:Nat} {x:α},l[i]? =some x→∃ y,k[i]? =some y∧F x y
 | _,_,.nil,_,_,h=>by cases h
 | _,_,.cons r t,0,x,h=>by cases h;exact ⟨_,rfl,r⟩
 | _,_,.cons r t,i+1,x,h=>Paired.getR t (i:=i) h
section
variable {a b:HO}
theorem Inv.retold (I:Inv X az σ H s)(hd:H d=some a)(n1:∀ xs,a≠ .tup xs)(n2:∀ c,a≠ .own c)(m1:∀ xs,X.H₀ d≠some (.tup xs))(m2:∀ o u,X.H₀ d≠some (.frz o u))(m3:∀ ps,X.H₀ d≠some (.tbl ps))
  (new:fU X.prog X.w (upd H d b) s.heap d b):Inv X az σ (upd H d b) s:=by
 have nn:∀ {c:ak},H c=none→(upd H d b) c=none:=fun {c} h=>by
  rw [aR (aJ hd h).symm];exact h
 refine ⟨I.ok,I.os,I.bare,⟨I.base.keep,I.base.slot,fun c o e n hx=>nn (I.base.free c o e n hx),I.base.there,fun c xs e=>?_,fun c o u e=>?_,fun c ps e=>?_⟩,I.loc,I.cell,nn I.free,fun x c e=>nn (I.freeC x c e),fun p hp=>?_,fun c o e=>?_,I.len⟩
 ·by_cases z:c=d
  ·subst z;exact lK e (m1 xs)
  ·rw [aR z];exact I.base.tups c xs e
 ·by_cases z:c=d
  ·subst z;exact lK e (m2 o u)
  ·rw [aR z];exact I.base.frzs c o u e
 ·by_cases z:c=d
  ·subst z;exact lK e (m3 ps)
  ·rw [aR z];exact I.base.tbls c ps e
 ·obtain ⟨h1,h2,h3⟩:=I.pin p hp
  exact ⟨h1,nn h2,h3⟩
 ·by_cases z:c=d
  ·subst z
   rw [aK] at e;cases e;exact new
  ·rw [aR z] at e
   refine (I.hok c o e).stay (fun _ _ _ e=>e) (fun b' e'=>?_) fun b' xs e'=>?_
   ·rw [aR fun z=>by subst z;rw [hd] at e';cases e';exact n2 _ rfl];exact e'
   ·rw [aR fun z=>by subst z;rw [hd] at e';cases e';exact n1 _ rfl];exact e'
theorem dk_put {w:aV}(x:fU P w H h d (.dK kvs)):fU P w H' h d (.dK kvs):=x
end
def Itd (d:ak)(o:Obj)(kvs:List (Key×V)):It :=
 ⟨fun i H=>H d=some (.frz o (.dK kvs))∧i<kvs.length,fun i H x H'=>H'=H∧∃ k,kvs[i]? =some (k,x),fun i H=>H d=some (.frz o (.dK kvs))∧i=kvs.length⟩
theorem turn_vals {w:aV}(d it:ak)(o:Obj)(kvs:List (Key×V))(vs:List (Key×af))(ep:Nat)(rel:KV kvs vs)(dd:∀ h:bj,h.get? d=some o→h.DictAt (dR P w) d vs ep) :
  Turn P w K tg (Itd d o kvs) [it] it (fun i h=>h.IsValIter it d i vs.length ep) where
 mem:=by simp
 obj:=fun i h st b hb=>by
  have e:b=it:=by simpa using hb
  subst e;obtain ⟨o,e,c,d⟩:=st;exact ⟨o,e,fun v z=>by rw [d] at z;cases z⟩
 keep:=fun i h h' st k=>by
  obtain ⟨o,e,r⟩:=st;exact ⟨o,k it (by simp) o e,r⟩
 item:=by
  intro X hP hw hK hc i az s σ H E I hf st hg;subst hP hw hK;obtain ⟨hd,hi⟩:=hg;obtain ⟨hg,_⟩:=(show fU X.prog X.w H s.heap d (.frz o (.dK kvs)) from I.hok d _ hd);obtain ⟨⟨k,v⟩,hx,rk⟩:=Paired.getR rel (gE hi);obtain ⟨f0,f1,f2,f3,f4,f5⟩:=hf it (by simp);refine wpAny_pyNext_values_item st (dd _ hg) hx fun h' st' sb=>?_
  have I1:Inv X az σ H { s with heap:=h' }:=I.turned (t':=s.toks) (fun b o hb e=>(sb.2 b hb).trans e) f0 f1 f3 f4 f5;obtain ⟨oi,e2,c,dt⟩:=id st';exact ⟨v,rfl,go_of (s:={ s with heap:=h' }) e2 c dt (by decide) ⟨kvs[i].2,H,I1,rk.2,⟨rfl,kvs[i].1,gE hi⟩,st',fun b hb=>(hf b hb).1⟩⟩
 done:=by
  intro X hP hw hK hc i az s σ H E I hf st hg;subst hP hw hK;obtain ⟨hd,hi⟩:=hg;obtain ⟨hg,_⟩:=(show fU X.prog X.w H s.heap d (.frz o (.dK kvs)) from I.hok d _ hd);obtain ⟨f0,f1,f2,f3,f4,f5⟩:=hf it (by simp);have hl:kvs.length=vs.length:=Paired.length rel;exact wpAny_pyNext_values_end (I.ok.hd hc) st (dd _ hg) (List.getElem?_eq_none (by lia)) fun h' eb=>⟨rfl,I.turned (t':=s.toks) (fun b o hb e=>eb b o hb e) f0 f1 f3 f4 f5⟩
 self:=fun A i s Q E st h=>wpAny_pyIter_valiter st h
def iVals (td:TE):TI:=fun σ H R=>td σ H fun x H1=>∃ d kvs,x= .ref d∧H1 d=some (.dK kvs)∧∀ p ob,H1 p=none→R (Itd d ob kvs) (upd (upd H1 p (isVV p d)) d (.frz ob (.dK kvs)))
def Thw (H H':Hp)(Q:Hp→Prop):Prop:=∃ d o kvs,H d=some (.dK kvs)∧H' d=some (.frz o (.dK kvs))∧Q (upd H' d (.dK kvs))
def tThawE (te:TE):TE:=fun σ H Q=>te σ H fun v H'=>Thw H H' (Q v)
def tThawS (t:TS):TS:=fun D σ H=>t { D with nx:=fun σ' H'=>Thw H H' (D.nx σ') } σ H
section
variable {σ':St}
theorem Inv.not0 (I:Inv X az σ H s)(e:H d=some (.dK kvs)):(∀ xs,X.H₀ d≠some (.tup xs))∧(∀ o u,X.H₀ d≠some (.frz o u))∧∀ ps,X.H₀ d≠some (.tbl ps) :=
 ⟨(fun xs z=>by have:=I.base.tups d xs z;rw [e] at this;cases this),(fun o u z=>by have:=I.base.frzs d o u z;rw [e] at this;cases this),fun ps z=>by obtain ⟨m,this⟩:=I.base.tbls d ps z;rw [e] at this;cases this⟩
theorem Thw.go {Q:Hp→Prop}(I:Inv X az σ H s)(I':Inv X az σ' H' s')(h:Thw H H' Q):∃ H2,Inv X az σ' H2 s'∧Q H2:=by
 obtain ⟨d,o,kvs,e1,e2,q⟩:=h;obtain ⟨n1,n2,n3⟩:=I.not0 e1;obtain ⟨_,x⟩:=(show fU X.prog X.w H' s'.heap d (.frz o (.dK kvs)) from I'.hok d _ e2);exact ⟨_,I'.retold e2 (fun _ z=>by cases z) (fun _ z=>by cases z) n1 n2 n3 (dk_put x),q⟩
theorem pe_thaw (h:PE X e te):PE X e (tThawE te):=fun az s σ H Q I hw =>
 thn (h az s σ H _ I hw) fun u s' z=>by
  obtain ⟨v,H',I',r,q⟩:=z;obtain ⟨H2,I2,q2⟩:=q.go I I';exact ⟨v,H2,I2,r,q2⟩
theorem ps_thaw {t:TS}(h:PS X st t):PS X st (tThawS t):=fun az s σ H D I hw =>
 thn (h az s σ H _ I hw) fun f s' z=>by
  cases f with
  | next =>
   obtain ⟨σ',H',I',q⟩:=z;obtain ⟨H2,I2,q2⟩:=q.go I I';exact ⟨σ',H2,I2,q2⟩
  | brk=>exact z
  | cont=>exact z
  | ret u=>exact z
theorem pi_vals {o:Expr}{td:TE}(ho:PE X o td)(m:M0 X o "values" apos cpos):PI X tg (.Call (.Attribute o "values" apos) [] [] cpos) (iVals td):=by
 intro az s σ H R I h;refine wpAny_Call_method m.base m.few m.line iT PySem.F.slot_dict_values PySem.F.type_dict_values (thn (ho az s σ H _ I h) fun u s1 z=>?_);obtain ⟨x,H1,I1,rx,d,kvs,ex,ea,q1⟩:=z;subst ex;obtain rfl:u=af.ref d:=rx;obtain ⟨t1,t2,_⟩:=isDct_at I1 (.inl ⟨kvs,.inl ea⟩);refine ⟨t1,t2,?_⟩;rw [m.trees];obtain ⟨zz,hd,vs,rel,dd⟩:=dk_of I1.hok ea;refine fj rfl (PySem.evalArgs_none ?_);refine call_meetsIn PySem.F.slot_dict_values dd.typeIs PySem.F.entry_dict_values (PySem.F.args_dict_values_1 _) (meets_dict_values (dR X.prog X.w) d hd) ⟨⟨vs,dd⟩,?_⟩;have hg:(s1.heap.push { cls:= .type "dict_values",data:= .fields #[.ref d] }).get? s1.heap.objs.size=some { cls:= .type "dict_values",data:= .fields #[.ref d] }:=aA _ rfl;have hv:(s1.heap.push { cls:= .type "dict_values",data:= .fields #[.ref d] }).IsValuesView s1.heap.objs.size d:=⟨_,hg,rfl,rfl⟩;have hp:=I1.fresh;have hq:=q1 s1.heap.objs.size;have I2:Inv X az σ (upd H1 s1.heap.objs.size (isVV s1.heap.objs.size d)) { s1 with heap:=s1.heap.push { cls:= .type "dict_values",data:= .fields #[.ref d] } }:=I1.laid (t':=s1.toks) (o:=isVV s1.heap.objs.size d) (fun _ _ z=>aj _ z) (aH _) ⟨hv,⟨_,hg⟩,fun h1 h2 ⟨o,e,r⟩ k=>⟨o,k o e,r⟩⟩;generalize s1.heap.objs.size=p at hv hp hq I2 ⊢;generalize s1.heap.push { cls:= .type "dict_values",data:= .fields #[.ref d] }=h2 at hv I2 ⊢;have ea2:(upd H1 p (isVV p d)) d=some (.dK kvs):=by rw [aR (aJ ea hp)];exact ea
 generalize upd H1 p (isVV p d)=H2 at I2 ea2 hq;obtain ⟨n1,n2,n3⟩:=I2.not0 ea2;obtain ⟨zz2,hd2,vs2,rel2,dd2⟩:=dk_of I2.hok ea2;obtain ⟨ep,hat⟩:=dd2.dictAt;refine wpAny_pyIter_values (s:={ s1 with heap:=h2 }) hv hat ?_;have hok2:=I2.hok d _ ea2;obtain ⟨ob,hob⟩:∃ ob,h2.get? d=some ob:=let ⟨o,es,ho,_⟩:=hat;⟨o,ho⟩;have I3:=I2.retold (b:= .frz ob (.dK kvs)) ea2 (fun _ z=>by cases z) (fun _ z=>by cases z) n1 n2 n3 ⟨hob,dk_put hok2⟩;refine ⟨h2.objs.size,[h2.objs.size],_,Itd d ob kvs,_,rfl,I3.kept (t':=s1.toks) fun c o e=>aj _ e,turn_vals d h2.objs.size ob kvs vs2 ep rel2 fun h hh=>?_,⟨_,aA _ rfl,rfl,rfl⟩,fun b hb=>?_,hq ob hp⟩
 ·obtain ⟨o,es,ho,r⟩:=hat
  rw [hob] at ho;cases ho;exact ⟨ob,es,hh,r⟩
 ·have e:b=h2.objs.size:=by simpa using hb
  subst e;exact I3.fpOk (aH _) (I3.hok.fresh (aH _))
end
theorem for_vals {o:Obj}(Pv:Nat→St→Hp→Prop)(h0:Pv 0 σ H)(hl:∀ i σ H,i≤kvs.length→Pv i σ H→H d=some (.frz o (.dK kvs)))
  (hs:∀ i k x σ H,kvs[i]? =some (k,x)→Pv i σ H→g x σ H fun σ2 H2=>tb { D with nx:=Pv (i+1),ct:=Pv (i+1),bk:=D.nx } σ2 H2) (hd:∀ σ H,Pv kvs.length σ H→D.nx σ H) :
  ∃ W:Nat→Nat→St→Hp→Prop,(∃ m,W 0 m σ H)∧∀ i m σ H,W i m σ H →
   ((Itd d o kvs).stop i H∧D.nx σ H)∨((Itd d o kvs).go i H∧∃ N:St→Hp→Prop,(∀ σ' H',N σ' H'→∃ m',m'<m∧W (i+1) m' σ' H')∧∀ x H',(Itd d o kvs).yld i H x H'→g x σ H' fun σ2 H2=>tb { D with nx:=N,ct:=N,bk:=D.nx } σ2 H2):=by
 refine ⟨fun i m σ H=>m=kvs.length - i∧i≤kvs.length∧Pv i σ H,⟨kvs.length,by simp,cK _,h0⟩,?_⟩;rintro i m σ H ⟨rfl,hi,p⟩;have q:=hl i σ H hi p
 by_cases e:i=kvs.length
 ·subst e
  exact .inl ⟨⟨q,rfl⟩,hd σ H p⟩
 ·have hlt:i<kvs.length:=cW hi e
  refine .inr ⟨⟨q,hlt⟩,Pv (i+1),fun σ' H' p'=>⟨kvs.length - (i+1),by lia,rfl,by lia,p'⟩,fun x H' hy=>?_⟩;obtain ⟨rfl,k,hx⟩:=hy;exact hs i k x σ _ hx p
theorem comp_vals {o:Obj}{Q:VK}(Pv:Nat→List V→Hp→Prop)(h0:Pv 0 [] H)(hl:∀ i ys H,i≤kvs.length→Pv i ys H→H d=some (.frz o (.dK kvs))∧ys.length≤i)(hz:kvs.length≤ar)
  (hs:∀ i k x ys H,kvs[i]? =some (k,x)→Pv i ys H→tt (some x::dz σ js) H fun b H4=>if b=true then te (some x::dz σ js) H4 fun y H5=>Pv (i+1) (ys++[y]) H5 else Pv (i+1) ys H4)
  (hd:∀ ys H,Pv kvs.length ys H→∀ D,H D=none→Q (.ref D) (upd H D (.lst ys))):CompW js tt te σ Q (Itd d o kvs) H:=by
 refine ⟨fun i m ys H=>i≤kvs.length∧m=kvs.length - i∧Pv i ys H,⟨_,cK _,rfl,h0⟩,fun i m ys H2 z=>?_⟩;obtain ⟨hi,hm,hp⟩:=z;obtain ⟨hq,hy⟩:=hl i ys H2 hi hp
 by_cases e:i=kvs.length
 ·subst e
  exact .inl ⟨⟨hq,rfl⟩,hd ys H2 hp⟩
 ·have hlt:i<kvs.length:=cW hi e
  refine .inr ⟨⟨hq,hlt⟩,by lia,Pv (i+1),fun ys' H' hp'=>⟨kvs.length - (i+1),by lia,by lia,rfl,hp'⟩,fun v H3 hy3=>?_⟩;obtain ⟨e3,k,hx⟩:=hy3;subst e3;exact hs i k v ys _ hx hp
end L2
namespace HN
open PySem L2 PyProof.Rows HT2
abbrev sOwnL:b8:=clsOf cLin 4
theorem iK {H H':Hp}{L:ak}{xs:List V}:∀ {vs:List V} {sp:List Sn},fI H vs (sp.map snD)→(∀ c o,c≠L→H c=some o→H' c=some o)→H L=some (.lst xs)→fI H' vs (sp.map snD)
 | _,[],.nil,_,_=> .nil
 | _,x::sp,.cons h r,k,hL=>by
  obtain ⟨a,zs,rfl,ha,rz⟩:=h.tup_of;have ez:=fI.ints_of rz;subst ez;exact .cons (.tup (k _ _ (cV ha hL nofun) ha) (fI.ints _)) (iK r k hL)
theorem snD_at {x:Sn}(h:H p=some (.tup [.int x.s,.int x.g,.int x.l,.int x.o,.int x.w])):IsD H (.ref p) (snD x):= .tup h (fI.ints x.row)
section
variable {w:aV}
theorem scOwnL:bE ["self","spans","here","there","run"] pza (defScope sOwnL):=by trivial
theorem ok_ownL {fc fg fr:ak}(F:Fun K "own_spans" "Line.own_spans" sOwnL f fd)(hz:mg "zip" =none)(U:Unt K mg)(CK:LinK P w K mg base C fc fg fr dc dg dr):cI P w K mg base CX0 2 f fd pza (spOwn C):=by
 refine F.ok scOwnL (by contradiction) (fun cdv A outer s H vs Q E hr h=>?_);obtain ⟨x,D,l,rfl,A0,k⟩:=h;obtain ⟨tu,hU,uU⟩:=U.ex;have CC:=CK.cc;have u1:=iM (iu (show 1≤64 by decide) _) hr.units;refine ⟨_,PSl.h (bf ⟨(psZ 1 scOwnL.nd (ja aw))⟩ (bf ⟨(iV cJ rfl (pi_zip3 rfl hz (ah (dk (pv 0) rfl) (ah (gc jB (dk (pv 0) rfl) (gH aT) hE) (ah (dk (pv 0) rfl) aw)))) (j7 rfl (dU (pgZ 2 scOwnL.nd) (dU (pgZ 3 scOwnL.nd) (dU (pgZ 4 scOwnL.nd) i9))))
  (PSl.h (bf ⟨(iw (jc bU cG cF gM (pv 1) (ah (gq (ah (eV (pv 0) CK.cc.cl CK.m2 CK.f2 (hr.mono (by decide)) CK.b2 .nil fz (ah (pv 2) aw)) (ah (eV (pv 0) CK.cc.cl CK.m1 CK.f1 (hr.mono (by decide)) CK.b1 .nil fz (ah (pv 3) aw)) (ah (pv 4) (ah (pv 4) (ah aT aw)))))) aw)))⟩
   (fR ⟨(fQ (cD op_ne (pv 3) (dO jQ (dk (pv 0) rfl) (pe_un un_neg aT) (fun _ _=>rfl)) (cP _)) (bp (iw (jc bU cG cF gM (pv 1) (ah (cn op_catT (gq (ah (eV (pv 0) CK.cc.cl CK.m1 CK.f1 (hr.mono (by decide)) CK.b1 .nil fz (ah (pv 3) aw)) (ah (eV (pv 0) CK.cc.cl CK.m2 CK.f2 (hr.mono (by decide)) CK.b2 .nil fz (ah (pv 3) aw)) aw))) (pe_dget2 u1 (dk (pv 0) rfl) (pv 3) (kF (v:= .ref tu) rfl hU rfl) ⟨rfl,rfl,rfl,rfl⟩)) aw)))) cM)⟩))))⟩ (fR ⟨(bI (pv 1))⟩))),?_⟩
 obtain ⟨n,ss,rs,st,fi⟩:=l;obtain ⟨dx,a,b,hx,ha,hb⟩:=A0.d;have nd:ss.Nodup:=A0.nd;have two:2≤ss.length:=A0.two;have few:ss.length≤1000:=A0.few;have rl:ss.length=rs.length+1:=A0.rl;have hls:(ss.map V.str).length=ss.length:=ae _;have e1:HT.sIx (ss.map V.str).length 0 (some 1)=1:=by
  rw [hls];have:=HT.sIx_nat ss.length 0 1;rw [dI (by lia)] at this;exact this
 refine ⟨(by show 0≤ar;decide),fun L hLn=>?_⟩;have S0:bO H (upd H L (.lst [])):=bO.put (bO.refl H) hLn;have hL:(upd H L (.lst [])) L=some (.lst []):=aK;generalize upd H L (.lst [])=H0 at S0 hL ⊢;have S0x:=S0 _ _ hx;refine ⟨_,rfl,x,C,dx,_,_,rfl,S0x,CC.cl,CC.n2,rfl,_,rfl,x,C,dx,_,_,rfl,S0x,CC.cl,CC.n2,rfl,_,rfl,a,_,rfl,SqT.of (S0 _ _ ha),?_,fun p H1 S1 e=>?_⟩
 ·rw [e1]
  intro q;exact lK q.1 (by decide)
 rw [cutF (i:=1) (n:=1) rfl,←gX] at e;have hL1:=S1 _ _ hL;have ha1:=S1 _ _ (S0 _ _ ha);have hb1:=S1 _ _ (S0 _ _ hb);have hx1:=S1 _ _ S0x;have A1:=(A0.same S0).same S1;refine ⟨_,rfl,x,C,dx,_,_,rfl,hx1,CC.cl,CC.n3,rfl,⟨false,a⟩,⟨false,p⟩,⟨false,b⟩,_,_,_,rfl,ha1,e,hb1,?_⟩;have lD:(ss.drop 1).length=rs.length:=by rw [bR];lia
 refine for_zipB3 (c1:=⟨false,a⟩) (c2:=⟨false,p⟩) (c3:=⟨false,b⟩) (xs:=ss.map V.str) (ys:=(ss.drop 1).map V.str) (zs:=rs.map V.int) (fun i σ H2=>(∀ c o,c≠L→H1 c=some o→H2 c=some o)∧(∃ ys:List V,H2 L=some (.lst ys)∧fI H2 ys ((ownN ⟨n,ss,rs,st,fi⟩ i).map snD))∧∃ v2 v3 v4,σ=[some (.ref x),some (.ref L),v2,v3,v4])
  ⟨fun c o _ h=>h,⟨[],hL1,.nil⟩,none,none,none,rfl⟩ (fun i σ H2 _ q=>⟨q.1 _ _ (cV ha1 hL1 nofun) ha1,q.1 _ _ (cV e hL1 nofun) e,q.1 _ _ (cV hb1 hL1 nofun) hb1⟩) (by rw [ae,ae,lD];lia) (by rw [ae,ae,lD]) ?_ ?_
 ·rintro i x1 x2 x3 q σ H2 h1 h2 h3 ⟨k2,⟨ys,hL2,hm⟩,v2,v3,v4,rfl⟩ hq
  rw [aD] at h1 h2 h3;obtain ⟨u1,g1,rfl⟩:=aN.mp h1;obtain ⟨u2,g2,rfl⟩:=aN.mp h2;obtain ⟨r,g3,rfl⟩:=aN.mp h3;rw [gx,Nat.add_comm] at g2;have li:i+1<ss.length:=(ao.mp g2).1;have big:(100000:Nat)≤ar:=by decide
  have ly:ys.length≤2 * i:=by
   have:=hm.length;rw [ae] at this;rw [this];exact ownN_len _ _
  have S6:bO H2 (upd H2 q (.tup [.str u1,.str u2,.int r])):=bO.put (bO.refl H2) hq;have h6:(upd H2 q (.tup [.str u1,.str u2,.int r])) q=some (.tup [.str u1,.str u2,.int r]):=aK;generalize upd H2 q (.tup [.str u1,.str u2,.int r])=H6 at S6 h6 ⊢;have A2:LnA H2 C x D ⟨n,ss,rs,st,fi⟩:=by
   obtain ⟨kvs,d1,_⟩:=A1.s.ex;refine A1.kept (fun b xs e=>k2 _ _ (cV e hL1 nofun) e) (fun b C dx fs e=>k2 _ _ (cV e hL1 nofun) e) ((k2 _ _ (cV d1 hL1 nofun) d1).trans d1.symm)
  have A6:=A2.same S6;refine ⟨q,_,rfl,SqT.of h6,rfl,_,_,rfl,_,_,rfl,_,_,rfl,rfl,?_⟩;have hL6:=S6 _ _ hL2;obtain ⟨dx6,a6,b6,hx6,_⟩:=id A6.d;refine ⟨_,rfl,.inl ⟨rfl,_,SqL.of hL6⟩,_,rfl,x,dx6,_,rfl,hx6,rfl,_,rfl,x,D,n,u1,ss,rs,fi,rfl,A6.d,few,two,nd,fun H7 S7=>⟨fun i' a1 a2=>?_,fun no=>lK (no i g1) (by lia)⟩⟩;obtain rfl:=(iI nd g1 a1).symm;have A7:=A6.same S7;obtain ⟨dx7,a7,b7,hx7,_⟩:=id A7.d;refine ⟨_,rfl,x,dx7,_,rfl,hx7,rfl,_,rfl,x,D,n,u2,ss,rs,fi,rfl,A7.d,few,two,nd,fun H8 S8=>⟨fun j a1 a2=>?_,fun no=>lK (no _ g2) (by lia)⟩⟩;obtain rfl:=(iI nd g2 a1).symm;refine ⟨_,rfl,_,rfl,szZ5,fun p1 H9 S9 e9=>?_⟩;have A9:=(A7.same S8).same S9;have S29:bO H2 H9:=S6.trans (S7.trans (S8.trans S9));have hL9:=S29 _ _ hL2;have hm9:=fI.same S29 hm;refine ⟨L,_,_,rfl,rfl,hL9,(by lia),?_⟩;have k9:∀ c o,c≠L→H9 c=some o→(upd H9 L (.lst (ys++[.ref p1]))) c=some o:=fun c o hc h=>by rw [aR hc];exact h
  have hLa:(upd H9 L (.lst (ys++[.ref p1]))) L=some (.lst (ys++[.ref p1])):=aK;generalize upd H9 L (.lst (ys++[.ref p1]))=Ha at k9 hLa ⊢;have p1L:p1≠L:=cV e9 hL9 nofun;have d1:IsD Ha (.ref p1) (snD ⟨fi+2 * i,fi+2 * i+1,r,r,0⟩):=snD_at (x:=⟨fi+2 * i,fi+2 * i+1,r,r,0⟩) (by
   have:=k9 _ _ p1L e9;rw [this];show some (HO.tup [.int (fi+2 * (i:Nat)),.int (fi+2 * ((i+1:Nat):Int) - 1),_,_,_])=_;rw [show fi+2 * ((i+1:Nat):Int) - 1=fi+2 * (i:Nat)+1 by lia])
  have da:fI Ha (ys++[.ref p1]) ((ownN ⟨n,ss,rs,st,fi⟩ i).map snD++[snD ⟨fi+2 * i,fi+2 * i+1,r,r,0⟩]):=(iK hm9 k9 hL9).append (fI.one d1);have Aa:LnA Ha C x D ⟨n,ss,rs,st,fi⟩:=by
   obtain ⟨kvs,d1,_⟩:=A9.s.ex;exact A9.kept (fun b xs e=>k9 _ _ (cV e hL9 nofun) e) (fun b C dx fs e=>k9 _ _ (cV e hL9 nofun) e) ((k9 _ _ (cV d1 hL9 nofun) d1).trans d1.symm)
  have ka:∀ c o,c≠L→H1 c=some o→Ha c=some o:=fun c o hc h=>k9 _ _ hc (S29 _ _ (k2 _ _ hc h))
  have er:rs.getD i 0=r:=by rw [bN,g3];rfl
  obtain ⟨dxa,aa,ba,hxa,haa,hba⟩:=id Aa.d;obtain ⟨z,hzl⟩:∃ z,ss[ss.length - 1]? =some z:=⟨_,gE (by lia)⟩;refine ⟨_,rfl,_,rfl,x,C,dxa,_,_,rfl,hxa,CC.cl,CC.n2,rfl,⟨1,rfl,aa,_,_,_,rfl,rfl,SqT.of haa,HN.atI_last (by rw [ae,aD,hzl];rfl),rfl,_,rfl,?_⟩⟩;have es:ss.getD (i+1) du=u2:=by rw [bN,g2];rfl
  refine jG (fun hc=>?_) (fun hc=>?_)
  ·have nl:i+2<ss.length:=by
    rcases Nat.lt_or_ge (i+2) ss.length with q | q
    ·exact q
    ·have:i+1=ss.length - 1:=by lia
     rw [this,hzl] at g2;cases g2;exact lK hc (by simp)
   refine ⟨_,rfl,.inl ⟨rfl,_,SqL.of hLa⟩,_,rfl,x,dxa,_,rfl,hxa,rfl,_,rfl,x,D,n,u2,ss,rs,fi,rfl,Aa.d,few,two,nd,fun Hb Sb=>⟨fun j a1 a2=>?_,fun no=>lK (no _ g2) (by lia)⟩⟩;obtain rfl:=(iI nd g2 a1).symm;have Ab:=Aa.same Sb;obtain ⟨dxb,ab,bb,hxb,_⟩:=id Ab.d;refine ⟨_,rfl,x,dxb,_,rfl,hxb,rfl,_,rfl,x,D,n,u2,ss,rs,fi,rfl,Ab.d,few,two,nd,fun Hc Sc=>⟨fun j a1 a2=>?_,fun no=>lK (no _ g2) (by lia)⟩⟩;obtain rfl:=(iI nd g2 a1).symm;refine ⟨szZ2,fun p2 Hd Sd ed=>?_⟩;have Ad:=(Ab.same Sc).same Sd;have Sad:bO Ha Hd:=Sb.trans (Sc.trans Sd);obtain ⟨dxd,ad,bd,hxd,_⟩:=id Ad.d;obtain ⟨kvs,hD,_,hst⟩:=Ad.s.ex;refine ⟨_,rfl,x,C,dxd,_,_,rfl,hxd,CC.cl,CC.n4,rfl,D,rfl,.inl ⟨kvs,.inl hD⟩,_,rfl,_,.inl ⟨kvs,.inr u2,.inl hD,rfl,rfl⟩,?_⟩;obtain ⟨t,et,hT⟩:∃ t,(jT kvs (.inr u2)).getD (.ref tu)= .ref t∧SqT K Hd t [.int (sty st u2).1,.int (sty st u2).2.1,.int (sty st u2).2.2]:=by
    cases hv:jT kvs (.inr u2) with
    | none =>
     have:=((hst u2).2.1 hv).1;exact ⟨tu,rfl,by rw [show sty st u2=(0,0,0) from this];exact uU _⟩
    | some v =>
     obtain ⟨t,rfl,q⟩:=(hst u2).1 v hv;exact ⟨t,rfl,SqT.of q⟩
   refine ⟨p2,t,_,_,rfl,et,SqT.of ed,hT,(by simp),szZ5,fun z=>lK z (by simp),fun _ p3 hp3=>?_⟩;have hLd:=Sad _ _ hLa;have S3:bO Hd (upd Hd p3 (.tup ([.int (fi+2 * ((i+1:Nat):Int) - 1),.int (fi+2 * ((i+1:Nat):Int))]++[.int (sty st u2).1,.int (sty st u2).2.1,.int (sty st u2).2.2]))):=bO.put (bO.refl _) hp3;have e3:(upd Hd p3 (.tup ([.int (fi+2 * ((i+1:Nat):Int) - 1),.int (fi+2 * ((i+1:Nat):Int))]++[.int (sty st u2).1,.int (sty st u2).2.1,.int (sty st u2).2.2]))) p3=some (.tup [.int (fi+2 * i+1),.int (fi+2 * i+2),.int (sty st u2).1,.int (sty st u2).2.1,.int (sty st u2).2.2]):=by
    rw [aK,show fi+2 * ((i+1:Nat):Int) - 1=fi+2 * (i:Nat)+1 by lia,show fi+2 * ((i+1:Nat):Int)=fi+2 * (i:Nat)+2 by lia];rfl
   refine ⟨L,ys++[.ref p1],_,rfl,rfl,S3 _ _ hLd,(by rw [av];show ys.length+1<ar;lia),?_⟩;generalize upd Hd p3 (.tup ([.int (fi+2 * ((i+1:Nat):Int) - 1),.int (fi+2 * ((i+1:Nat):Int))]++[.int (sty st u2).1,.int (sty st u2).2.1,.int (sty st u2).2.2]))=He at S3 e3 ⊢;have hLe:=S3 _ _ hLd;have kf:∀ c o,c≠L→He c=some o→(upd He L (.lst (ys++[.ref p1]++[.ref p3]))) c=some o:=fun c o hc h=>by rw [aR hc];exact h
   have p3L:p3≠L:=cV e3 hLe nofun;have d3:=snD_at (x:=⟨fi+2 * i+1,fi+2 * i+2,(sty st u2).1,(sty st u2).2.1,(sty st u2).2.2⟩) (kf _ _ p3L e3);have df:=(iK (sp:=ownN ⟨n,ss,rs,st,fi⟩ i++[⟨fi+2 * i,fi+2 * i+1,r,r,0⟩]) (fI.same (Sad.trans S3) (by rw [au];exact da)) kf hLe).append (fI.one d3);refine ⟨fun c o hc h=>kf _ _ hc (S3 _ _ (Sad _ _ (ka _ _ hc h))),⟨_,aK,?_⟩,_,_,_,rfl⟩;rw [kH];unfold stp;simp only [er,es];rw [lJ nl,au];rw [au] at df;refine Eq.mp (lO _ ?_) df;rw [List.append_assoc];rfl
  ·have nl:¬ i+2<ss.length:=fun q=>hc (by
    show (!decide (V.str u2=V.str z))=true;rw [Bool.not_eq_true'];refine lM fun e=>?_
    injection e with e
    subst e;have:=iI nd hzl g2;lia)
   refine ⟨ka,⟨_,hLa,?_⟩,_,_,_,rfl⟩;rw [kH];unfold stp;simp only [er];rw [lI nl,au];exact da
 ·rintro σ H2 ⟨k2,⟨ys,hL2,hm⟩,v2,v3,v4,rfl⟩
  refine ⟨_,rfl,k L ys H2 (fun c o h=>k2 c o ?_ (S1 _ _ (S0 _ _ h))) hLn hL2 ?_⟩
  ·intro z;rw [z,hLn] at h;cases h
  ·rw [ae,lD] at hm;exact hm
end
abbrev cPla:b8:=top 34
abbrev sInitP:b8:=clsOf cPla 0
abbrev sHap:b8:=clsOf cPla 1
abbrev sAllS:b8:=clsOf cPla 2
abbrev sAllL:b8:=clsOf cPla 3
abbrev sSmall:b8:=clsOf cPla 4
structure PlaC (K:ai)(C:ak):Prop where
 cl:Cls K C
 n1:ir K C "beat"
 n2:ir K C "lines"
 n3:ir K C "between"
abbrev LX:=Ln×ak×ak
def ic (zs:List LX):List (Key×V):=zs.map fun z=>(.inr z.1.n,.ref z.2.1)
abbrev plF (b:Int)(DL LB:ak):List (Str×V):=[("beat",.int b),("lines",.ref DL),("between",.ref LB)]
structure PlI (CP CL:ak)(H0 H:Hp)(p:ak)(b:Int)(zs:List LX)(bt:List Sn)(DL LB:ak):Prop where
 S:bO H0 H
 pl:∃ dp,H p=some (.ins CP dp (plF b DL LB))
 nL:H0 DL=none
 nB:H0 LB=none
 nD:∀ z∈zs,H0 z.2.2=none
 dl:H DL=some (.dK (ic zs))
 ln:∀ z∈zs,LnA H CL z.2.1 z.2.2 z.1
 nd:(DL::zs.map (·.2.2)).Nodup
 nn:(zs.map (·.1.n)).Nodup
 lb:∃ ys,H LB=some (.lst ys)∧fI H ys (bt.map snD)
theorem PlI.same {H0:Hp}{zs:List LX}{bt:List Sn}{DL LB:ak}(I:PlI CP CL H0 H p b zs bt DL LB)(S:bO H H'):PlI CP CL H0 H' p b zs bt DL LB:=by
 obtain ⟨dp,h1⟩:=I.pl;obtain ⟨ys,h2,h3⟩:=I.lb;exact ⟨I.S.trans S,⟨dp,S _ _ h1⟩,I.nL,I.nB,I.nD,S _ _ I.dl,fun z hz=>(I.ln z hz).same S,I.nd,I.nn,ys,S _ _ h2,fI.same S h3⟩
def jZ (zs:List LX):Int:=(zs.map fun z=>2 * (z.1.rs.length:Int)).sum
def allS (zs:List LX)(bt:List Sn):List Sn:=zs.flatMap (fun z=>ownS z.1)++bt
def allL (zs:List LX):List (List V):=zs.flatMap fun z=>labs z.1.n z.1.ss
structure Few (zs:List LX)(bt:List Sn):Prop where
 a:zs.length≤100
 b:bt.length≤100
inductive spInitP (C:ak)(vs:List V)(H:Hp)(Q:VK)(_:XK):Prop
 | mk (x dx:ak)(b:Int)(_:vs=[.ref x,.int b])(_:H x=some (.ins C dx []))(_:∀ (DL LB:ak) (H':Hp),(∀ c o,c≠x→H c=some o→H' c=some o)→H DL=none→H LB=none→DL≠LB→H' DL=some (.dK [])→H' LB=some (.lst [])→H' x=some (.ins C dx (plF b DL LB))→Q .non H')
inductive spHap (CP CL:ak)(vs:List V)(H:Hp)(Q:VK)(_:XK):Prop
 | mk (H0:Hp)(p DL LB:ak)(b:Int)(zs:List LX)(bt:List Sn)(_:vs=[.ref p])(_:PlI CP CL H0 H p b zs bt DL LB)(_:Few zs bt)(_:∀ H',bO H H'→Q (.int (jZ zs)) H')
inductive spAllS (CP CL:ak)(vs:List V)(H:Hp)(Q:VK)(_:XK):Prop
 | mk (H0:Hp)(p DL LB:ak)(b:Int)(zs:List LX)(bt:List Sn)(_:vs=[.ref p])(_:PlI CP CL H0 H p b zs bt DL LB)(_:Few zs bt)(_:∀ (L:ak) (ys:List V) (H':Hp),bO H H'→H L=none→H' L=some (.lst ys)→fI H' ys ((allS zs bt).map snD)→Q (.ref L) H')
inductive spAllL (CP CL:ak)(vs:List V)(H:Hp)(Q:VK)(_:XK):Prop
 | mk (H0:Hp)(p DL LB:ak)(b:Int)(zs:List LX)(bt:List Sn)(_:vs=[.ref p])(_:PlI CP CL H0 H p b zs bt DL LB)(_:Few zs bt)(_:∀ (L:ak) (as:List ak) (H':Hp),bO H H'→H L=none→H' L=some (.lst (as.map V.ref))→as.map H'=(allL zs).map (fun t=>some (HO.tup t))→Q (.ref L) H')
inductive spSmall (CP CL:ak)(vs:List V)(H:Hp)(Q:VK)(_:XK):Prop
 | mk (H0:Hp)(p DL LB:ak)(b:Int)(zs:List LX)(bt:List Sn)(_:vs=[.ref p])(_:PlI CP CL H0 H p b zs bt DL LB)(_:Few zs bt)(_:∀ H',bO H H'→Q (.bl (decide (jZ zs≤16) && decide ((allS zs bt).length≤40))) H')
theorem kA {H3:Hp}{pv:ak}{u:HO}{ob:Obj}(hp:H pv=none)(S:bO (upd (upd H pv u) d (.frz ob (.dK kvs))) H3):∀ c o,c≠d→H c=some o→H3 c=some o:=fun c o hc e =>
 S c o (by rw [aR hc,aR (aJ e hp)];exact e)
theorem thaw_same {H3:Hp}{pv:ak}{u:HO}{ob:Obj}(hd:H d=some (.dK kvs))(k:∀ c o,c≠d→H c=some o→H3 c=some o):bO H (upd H3 d (.dK kvs)):=fun c o e=>by
 by_cases z:c=d
 ·subst z;rw [hd] at e;rw [aK];exact e
 ·rw [aR z];exact k c o z e
theorem fldK (K:ai){f:Str}(he:PE X e ta)(hb:fV e f X.env (cN e X.env)=cN e X.env)(hK:X.K=K:=by rfl):PE X (.Attribute e f pos) (tFld K ta f):=by subst hK;exact dk he hb
theorem lenK (K:ai)(hK:X.K=K:=by rfl):gF X (.builtin "len") (fun xs H Q=>∃ p ys,xs=[.ref p]∧(SqL K H p ys∨SqT K H p ys)∧Q (.int ys.length) H):=by subst hK;exact cS
section
variable {w:aV}
theorem scInitP:bE pzp pzp (defScope sInitP):=by trivial
theorem ok_initP (F:Fun K "__init__" "Plan.__init__" sInitP f fd)(CC:PlaC K C):cI P w K mg base CX0 1 f fd pzp (spInitP C):=by
 refine F.ok scInitP (by contradiction) (fun cdv A outer s H vs Q E hr h=>?_);obtain ⟨x,dx,b,rfl,hx,k⟩:=h;refine ⟨_,cz (j6 (pv 0) (pv 1) rfl) (cz (j6 (pv 0) pe_dnewK rfl) (bp (j6 (pv 0) (ja aw) rfl))),?_⟩;refine ⟨_,rfl,_,rfl,x,C,dx,_,rfl,hx,CC.cl,CC.n1,(by decide),?_⟩;refine fun D hD=>⟨_,rfl,x,C,dx,_,rfl,(by rw [aR (aJ aK hD)];exact aK),CC.cl,CC.n2,(by show 1<1000;decide),?_⟩
 have xD:x≠D:=aJ aK hD;refine ⟨(by show 0≤ar;decide),fun L hL=>⟨_,rfl,x,C,dx,[("beat",.int b),("lines",.ref D)],rfl,?_,CC.cl,CC.n3,(by show 2<1000;decide),?_⟩⟩
 ·rw [aR (aJ aK hL)];exact aK
 have xL:x≠L:=aJ aK hL;have DL:D≠L:=aJ (H:=upd (upd (upd H x (.ins C dx (putF "beat" (.int b) []))) D (.dK [])) x (.ins C dx (putF "lines" (.ref D) (putF "beat" (.int b) [])))) (o:= .dK []) (by rw [aR (cf xD),aK]) hL;rw [aR (cf xD)] at hD;rw [aR (cf xL),aR (cf DL),aR (cf xL)] at hL;refine k D L _ (fun c o hc e=>?_) hD hL DL ?_ ?_ aK
 ·rw [aR hc,aR (aJ e hL),aR hc,aR (aJ e hD),aR hc];exact e
 ·rw [aR (cf xD),aR DL,aR (cf xD),aK]
 ·rw [aR (cf xL),aK]
theorem scHap:bE pza pza (defScope sHap):=by trivial
theorem ok_hap (F:Fun K "happenings" "Plan.happenings" sHap f fd)(T:Nm mg)(T2:Nt mg)(CC:PlaC K C)(LC:LinC K CL):cI P w K mg base CX0 1 f fd pza (spHap C CL):=by
 refine F.ok scHap (by contradiction) (fun cdv A outer s H vs Q E hr h=>?_);obtain ⟨H0,p,DL,LB,b,zs,bt,rfl,I,fw,k⟩:=h;refine ⟨_,bp (bI (cw (call_sum rfl) rfl T2.sum boot_sum (ah (pe_thaw (hI (fr:=[]) (js:=[]) rfl (pi_vals (dk (pv 0) rfl) ⟨rfl,rfl,rfl,rfl⟩) (by trivial) rfl (by trivial) rfl (by exists sHap) (by trivial) rfl (by trivial) (fun _ _ _ _ _=>⟨(cn iG aT (cw (lenK K) rfl T.len bD (ah (fldK K (pv 0) rfl) aw))),gp⟩))) aw))),?_⟩;obtain ⟨dp,hp⟩:=I.pl;refine ⟨_,rfl,p,C,dp,_,_,rfl,hp,CC.cl,CC.n2,rfl,DL,_,rfl,I.dl,fun pv ob hpv=>?_⟩;have lz:(ic zs).length=zs.length:=ae _;have big:(100000:Nat)≤ar:=by decide
 have f1:=fw.a;refine comp_vals (fun i ys H2=>bO (upd (upd H pv (isVV pv DL)) DL (.frz ob (.dK (ic zs)))) H2∧ys=(zs.take i).map fun z=>V.int (2 * (z.1.rs.length:Int))) ⟨bO.refl _,rfl⟩ (fun i ys H2 hi q=>⟨q.1 _ _ aK,by rw [q.2,ae,bq];lia⟩) (by lia) (fun i kk x ys H2 hx q=>?_) (fun ys H3 q D hD=>?_)
 ·obtain ⟨S2,ey⟩:=q
  unfold ic at hx;rw [aD] at hx;obtain ⟨z,hz,e⟩:=aN.mp hx;cases e;have L:=I.ln z (aG hz);obtain ⟨dx,a,bb,h1,h2,h3⟩:=L.d;have kk:=kA hpv S2;have h1':=kk _ _ (cV h1 I.dl nofun) h1;have h3':=kk _ _ (cV h3 I.dl nofun) h3;refine fk ?_;refine ⟨_,rfl,z.2.1,CL,dx,_,_,rfl,h1',LC.cl,LC.n3,rfl,bb,_,rfl,.inr (SqT.of h3'),_,_,rfl,rfl,.inl ⟨by decide,by decide⟩,S2,?_⟩;rw [ey,bS,hz,au,ae];rfl
 ·obtain ⟨S3,ey⟩:=q
  rw [lz,bP] at ey;have hD3:=S3 _ _ aK;have hDD:DL≠D:=aJ hD3 hD;have e5:(upd (upd H3 D (.lst ys)) DL (.dK (ic zs))) D=some (.lst ((zs.map fun z:LX=>2 * (z.1.rs.length:Int)).map V.int)):=by rw [aR (cf hDD),aK,ey,bZ];rfl
  refine ⟨DL,ob,ic zs,I.dl,(by rw [aR hDD];exact hD3),D,_,rfl,SqL.of e5,k _ (thaw_same (u:=isVV pv DL) (ob:=ob) (pv:=pv) I.dl fun c o hc e=>?_)⟩;have:=kA hpv S3 c o hc e;rw [aR (aJ this hD)];exact this
end
structure LinQ (P:aB)(w:aV)(K:ai)(mg:Str→Option af)(base:bj)(C:ak)(fo fl:ak)(d1 d2:aO):Prop where
 m4:lG K C "own_spans" fo
 f4:cI P w K mg base CX0 2 fo d1 pza (spOwn C)
 b4:Binds K d1 pza []
 m5:lG K C "own_labels" fl
 f5:cI P w K mg base CX0 1 fl d2 pza (spLabL C)
 b5:Binds K d2 pza []
theorem labs_len (n:Str):∀ ss:List Str,(labs n ss).length≤2 * ss.length
 | []=>by simp [labs]
 | [_]=>by simp [labs]
 | _::t::r=>by
  have:=labs_len n (t::r);show (labs n (t::r)).length+2≤_;simp only [aP] at this ⊢;lia
theorem take_flat {β:Type}(f:α→List β){zs:List α}{i:Nat}{z:α}(h:zs[i]? =some z):(zs.take (i+1)).flatMap f=(zs.take i).flatMap f++f z:=by
 rw [bS,h,List.flatMap_append];simp
section
variable {w:aV}
theorem scAllS:bE ["self","spans","line"] pza (defScope sAllS):=by trivial
theorem ok_allS {fo fl:ak}(F:Fun K "all_spans" "Plan.all_spans" sAllS f fd)(CC:PlaC K C)(LC:LinC K CL)(LQ:LinQ P w K mg base CL fo fl d1 d2):cI P w K mg base CX0 3 f fd pza (spAllS C CL):=by
 refine F.ok scAllS (by contradiction) (fun cdv A outer s H vs Q E hr h=>?_);obtain ⟨H0,p,DL,LB,b,zs,bt,rfl,I,fw,k⟩:=h;refine ⟨_,PSl.h (bf ⟨(psZ 1 scAllS.nd (ja aw))⟩ (bf ⟨ps_thaw (iV cJ rfl (pi_vals (dk (pv 0) rfl) ⟨rfl,rfl,rfl,rfl⟩) (pgZ 2 scAllS.nd) (bp (iw (jc bU PySem.F.slot_list_extend PySem.F.type_list_extend mt_extend (pv 1) (ah (gd (pv 2) LC.cl LQ.m4 LQ.f4 hr LQ.b4 .nil fz) aw)))))⟩
  (fR ⟨(bI (cn op_cat (pv 1) (dk (pv 0) rfl)))⟩))),?_⟩
 have lz:(ic zs).length=zs.length:=ae _;have big:(1000000:Nat)≤ar:=by decide
 have f1:=fw.a;have f2:=fw.b;refine ⟨(by show 0≤ar;decide),fun L hLn=>?_⟩;have S0:bO H (upd H L (.lst [])):=bO.put (bO.refl H) hLn;have hL:(upd H L (.lst [])) L=some (.lst []):=aK;generalize upd H L (.lst [])=H1 at S0 hL ⊢;have I1:=I.same S0;obtain ⟨dp,hp⟩:=I1.pl;refine ⟨_,rfl,p,C,dp,_,_,rfl,hp,CC.cl,CC.n2,rfl,DL,_,rfl,I1.dl,fun pv ob hpv=>?_⟩;have LDL:L≠DL:=cV hL I1.dl nofun;have hLf:(upd (upd H1 pv (isVV pv DL)) DL (.frz ob (.dK (ic zs)))) L=some (.lst []):=by rw [aR LDL,aR (aJ hL hpv)];exact hL
 have kf:∀ c o,c≠DL→H1 c=some o→(upd (upd H1 pv (isVV pv DL)) DL (.frz ob (.dK (ic zs)))) c=some o:=kA hpv (bO.refl _);have hDf:(upd (upd H1 pv (isVV pv DL)) DL (.frz ob (.dK (ic zs)))) DL=some (.frz ob (.dK (ic zs))):=aK;generalize upd (upd H1 pv (isVV pv DL)) DL (.frz ob (.dK (ic zs)))=Hf at hLf kf hDf ⊢;have Lf:∀ z∈zs,LnA Hf CL z.2.1 z.2.2 z.1:=fun z hz=>by
  have A:=I1.ln z hz;obtain ⟨kvs,d1,_⟩:=A.s.ex;have nz:z.2.2≠DL:=fun e=>(aX.mp I1.nd).1 (bc.mpr ⟨z,hz,e⟩)
  exact A.kept (fun b xs e=>kf _ _ (cV e I1.dl nofun) e) (fun b C dx fs e=>kf _ _ (cV e I1.dl nofun) e) ((kf _ _ nz d1).trans d1.symm)
 refine for_vals (fun i σ H2=>(∀ c o,c≠L→Hf c=some o→H2 c=some o)∧(∃ ys:List V,ys.length≤2000 * i∧H2 L=some (.lst ys)∧fI H2 ys (((zs.take i).flatMap fun z=>ownS z.1).map snD))∧∃ v2,σ=[some (.ref p),some (.ref L),v2])
  ⟨fun c o _ h=>h,⟨[],(by simp),hLf,.nil⟩,none,rfl⟩ (fun i σ H2 _ q=>q.1 _ _ (cf LDL) hDf) (fun i kk x σ H2 hx q=>?_) (fun σ H3 q=>?_)
 ·obtain ⟨k2,⟨ys,ly,hL2,hm⟩,v2,rfl⟩:=q
  unfold ic at hx;rw [aD] at hx;obtain ⟨z,hz,e⟩:=aN.mp hx;cases e;have A1:=Lf z (aG hz);have A2:LnA H2 CL z.2.1 z.2.2 z.1:=by
   obtain ⟨kvs,d1,_⟩:=A1.s.ex;exact A1.kept (fun b xs e=>k2 _ _ (cV e hLf nofun) e) (fun b C dx fs e=>k2 _ _ (cV e hLf nofun) e) ((k2 _ _ (cV d1 hLf nofun) d1).trans d1.symm)
  obtain ⟨dx,a,bb,h1,_⟩:=id A2.d;refine ⟨_,rfl,.inl ⟨rfl,_,SqL.of hL2⟩,_,rfl,z.2.1,dx,_,rfl,h1,rfl,z.2.1,z.2.2,z.1,rfl,A2,fun L2 us H4 S4 _ h4 d4=>?_⟩;have hL4:=S4 _ _ hL2;have lu:us.length≤2 * z.1.rs.length:=by
   have:=d4.length;rw [ae] at this;rw [this];exact ownN_len _ _
  have:=A2.few;have:=A2.rl;have hi:i<zs.length:=(ao.mp hz).1;refine ⟨L,L2,_,_,rfl,rfl,hL4,h4,(by lia),?_⟩;have kg:∀ c o,c≠L→H4 c=some o→(upd H4 L (.lst (ys++us))) c=some o:=fun c o hc h=>by rw [aR hc];exact h
  refine ⟨fun c o hc h=>kg _ _ hc (S4 _ _ (k2 _ _ hc h)),⟨_,(by rw [av];lia),aK,?_⟩,_,rfl⟩;rw [take_flat (fun z:LX=>ownS z.1) hz,au];exact (iK (fI.same S4 hm) kg hL4).append (iK d4 kg hL4)
 ·obtain ⟨k3,⟨ys,ly,hL3,hm⟩,v2,rfl⟩:=q
  rw [lz] at ly hm;rw [bP] at hm;have hD3:=k3 _ _ (cf LDL) hDf;have S5:bO H (upd H3 DL (.dK (ic zs))):=fun c o e=>by
   have e1:=S0 _ _ e;have cL:c≠L:=aJ e hLn
   by_cases z:c=DL
   ·subst z;rw [I1.dl] at e1;rw [aK];exact e1
   ·rw [aR z];exact k3 _ _ cL (kf _ _ z e1)
  have k5:∀ c o,c≠DL→H3 c=some o→(upd H3 DL (.dK (ic zs))) c=some o:=fun c o hc e=>by rw [aR hc];exact e
  refine ⟨DL,ob,ic zs,I1.dl,hD3,?_⟩;have hL5:=k5 _ _ LDL hL3;have hm5:fI (upd H3 DL (.dK (ic zs))) ys ((zs.flatMap fun z=>ownS z.1).map snD):=by
   clear ly;revert hm;generalize (zs.flatMap fun z=>ownS z.1)=sp;intro hm;have fin:∀ {vs:List V} {sp:List Sn},fI H3 vs (sp.map snD)→fI (upd H3 DL (.dK (ic zs))) vs (sp.map snD):=by
    intro vs sp
    induction sp generalizing vs with
    | nil=>intro h;cases h;exact .nil
    | cons x sp ih =>
     intro h;cases h with
     | cons h r =>
      obtain ⟨a,us,rfl,ha,rz⟩:=h.tup_of;have ez:=fI.ints_of rz;subst ez;exact .cons (.tup (k5 _ _ (cV ha hD3 nofun) ha) (fI.ints _)) (ih r)
   exact fin hm
  generalize upd H3 DL (.dK (ic zs))=H5 at S5 hL5 hm5 ⊢;have I5:=I.same S5;obtain ⟨dp5,hp5⟩:=I5.pl;obtain ⟨bs,hB,dB⟩:=I5.lb;have lbs:bs.length=bt.length:=by have:=dB.length;rwa [ae] at this
  refine ⟨_,rfl,_,rfl,p,C,dp5,_,_,rfl,hp5,CC.cl,CC.n3,rfl,L,LB,_,_,rfl,rfl,hL5,hB,(by lia),fun q hq=>?_⟩;have S6:bO H5 (upd H5 q (.lst (ys++bs))):=bO.put (bO.refl _) hq;refine k q _ _ (S5.trans S6) ?_ aK ?_
  ·cases e:H q with
   | none=>rfl
   | some o=>rw [S5 _ _ e] at hq;cases hq
  ·unfold allS
   rw [au];exact (fI.same S6 hm5).append (fI.same S6 dB)
theorem scSmall:bE pza pza (defScope sSmall):=by trivial
theorem ok_small {fh:ak}{da:aO}(F:Fun K "is_small" "Plan.is_small" sSmall f fd)(T:Nm mg)(CS:Cs mg)(CC:PlaC K C)(m1:lG K C "happenings" fh)(f1:cI P w K mg base CX0 1 fh dh pza (spHap C CL))(b1:Binds K dh pza [])
  (m2:lG K C "all_spans" fa) (f2:cI P w K mg base CX0 3 fa da pza (spAllS C CL)) (b2:Binds K da pza []):cI P w K mg base CX0 4 f fd pza (spSmall C CL):=by
 refine F.ok scSmall (by contradiction) (fun cdv A outer s H vs Q E hr h=>?_);obtain ⟨H0,p,DL,LB,b,zs,bt,rfl,I,fw,k⟩:=h;refine ⟨_,bp (bI (lj (jb op_le (gd (pv 0) CC.cl m1 f1 (hr.mono (by decide)) b1 .nil fz) (kG CS.mh) (cP _)) (pe_one (jb op_le (cw cS rfl T.len bD (ah (gd (pv 0) CC.cl m2 f2 hr b2 .nil fz) aw)) (kG CS.ms) (cP _))))),?_⟩;obtain ⟨dp,hp⟩:=I.pl;refine ⟨_,rfl,p,dp,_,rfl,hp,rfl,H0,p,DL,LB,b,zs,bt,rfl,I,fw,fun H1 S1=>?_⟩;refine ⟨_,_,rfl,rfl,_,rfl,jG (fun h1=>?_) (fun h1=>?_)⟩
 ·have I1:=I.same S1
  obtain ⟨dp1,hp1⟩:=I1.pl;refine ⟨_,rfl,p,dp1,_,rfl,hp1,rfl,H0,p,DL,LB,b,zs,bt,rfl,I1,fw,fun L ys H2 S2 _ hL d=>?_⟩;refine ⟨L,_,rfl,.inl (SqL.of hL),_,_,rfl,rfl,?_⟩;have e:=k H2 (S1.trans S2);have h1:decide (jZ zs≤16)=true:=h1;have ly:(ys.length:Int)=(allS zs bt).length:=by have:=d.length;rw [ae] at this;lia
  rw [h1,gn] at e;show Q (.bl (decide ((ys.length:Int)≤40))) H2;rw [ly];rw [show decide (((allS zs bt).length:Int)≤40)=decide ((allS zs bt).length≤40) from decide_eq_decide.mpr (by lia)];exact e
 ·have e:=k H1 S1
  have h1:decide (jZ zs≤16)=false:=by simpa using h1
  rw [h1,gK] at e;exact e
theorem scAllL:bE ["self","labels","line"] pza (defScope sAllL):=by trivial
theorem ok_allL {fo fl:ak}(F:Fun K "all_labels" "Plan.all_labels" sAllL f fd)(CC:PlaC K C)(LC:LinC K CL)(LQ:LinQ P w K mg base CL fo fl d1 d2):cI P w K mg base CX0 2 f fd pza (spAllL C CL):=by
 refine F.ok scAllL (by contradiction) (fun cdv A outer s H vs Q E hr h=>?_);obtain ⟨H0,p,DL,LB,b,zs,bt,rfl,I,fw,k⟩:=h;refine ⟨_,PSl.h (bf ⟨(psZ 1 scAllL.nd (ja aw))⟩ (bf ⟨ps_thaw (iV cJ rfl (pi_vals (dk (pv 0) rfl) ⟨rfl,rfl,rfl,rfl⟩) (pgZ 2 scAllL.nd) (bp (iw (jc bU PySem.F.slot_list_extend PySem.F.type_list_extend mt_extend (pv 1) (ah (gd (pv 2) LC.cl LQ.m5 LQ.f5 hr LQ.b5 .nil fz) aw)))))⟩
  (fR ⟨(bI (pv 1))⟩))),?_⟩
 have lz:(ic zs).length=zs.length:=ae _;have big:(1000000:Nat)≤ar:=by decide
 have f1:=fw.a;refine ⟨(by show 0≤ar;decide),fun L hLn=>?_⟩;have S0:bO H (upd H L (.lst [])):=bO.put (bO.refl H) hLn;have hL:(upd H L (.lst [])) L=some (.lst []):=aK;generalize upd H L (.lst [])=H1 at S0 hL ⊢;have I1:=I.same S0;obtain ⟨dp,hp⟩:=I1.pl;refine ⟨_,rfl,p,C,dp,_,_,rfl,hp,CC.cl,CC.n2,rfl,DL,_,rfl,I1.dl,fun pv ob hpv=>?_⟩;have LDL:L≠DL:=cV hL I1.dl nofun;have hLf:(upd (upd H1 pv (isVV pv DL)) DL (.frz ob (.dK (ic zs)))) L=some (.lst []):=by rw [aR LDL,aR (aJ hL hpv)];exact hL
 have kf:∀ c o,c≠DL→H1 c=some o→(upd (upd H1 pv (isVV pv DL)) DL (.frz ob (.dK (ic zs)))) c=some o:=kA hpv (bO.refl _);have hDf:(upd (upd H1 pv (isVV pv DL)) DL (.frz ob (.dK (ic zs)))) DL=some (.frz ob (.dK (ic zs))):=aK;generalize upd (upd H1 pv (isVV pv DL)) DL (.frz ob (.dK (ic zs)))=Hf at hLf kf hDf ⊢;refine for_vals (fun i σ H2=>(∀ c o,c≠L→Hf c=some o→H2 c=some o)∧(∃ as:List ak,as.length≤2000 * i∧H2 L=some (.lst (as.map V.ref))∧as.map H2=(allL (zs.take i)).map (fun t=>some (HO.tup t)))∧∃ v2,σ=[some (.ref p),some (.ref L),v2])
  ⟨fun c o _ h=>h,⟨[],(by simp),hLf,rfl⟩,none,rfl⟩ (fun i σ H2 _ q=>q.1 _ _ (cf LDL) hDf) (fun i kk x σ H2 hx q=>?_) (fun σ H3 q=>?_)
 ·obtain ⟨k2,⟨ys,ly,hL2,hm⟩,v2,rfl⟩:=q
  unfold ic at hx;rw [aD] at hx;obtain ⟨z,hz,e⟩:=aN.mp hx;cases e;have A1:=I1.ln z (aG hz);obtain ⟨dx,a,bb,g1,g2,g3⟩:=A1.d;have kb:∀ c o,c≠DL→c≠L→H1 c=some o→H2 c=some o:=fun c o h1 h2 h=>k2 _ _ h2 (kf _ _ h1 h)
  have D2:LinD H2 CL z.2.1 z.1.n z.1.ss z.1.rs z.2.2 z.1.fi:=⟨dx,a,bb,kb _ _ (cV g1 I1.dl nofun) (cV g1 hL nofun) g1,kb _ _ (cV g2 I1.dl nofun) (cV g2 hL nofun) g2,kb _ _ (cV g3 I1.dl nofun) (cV g3 hL nofun) g3⟩;obtain ⟨dx,a,bb,h1,_⟩:=id D2;refine ⟨_,rfl,.inl ⟨rfl,_,SqL.of hL2⟩,_,rfl,z.2.1,dx,_,rfl,h1,rfl,z.2.1,z.2.2,z.1.n,z.1.ss,z.1.rs,z.1.fi,rfl,D2,A1.two,A1.few,fun L2 us H4 S4 _ h4 d4=>?_⟩;have hL4:=S4 _ _ hL2;have lu:us.length≤2 * z.1.ss.length:=by
   have:=lO List.length d4;rw [ae,ae] at this;rw [this];exact labs_len _ _
  have:=A1.few;have hi:i<zs.length:=(ao.mp hz).1;refine ⟨L,L2,_,_,rfl,rfl,hL4,h4,(by rw [ae,ae];lia),?_⟩;have kg:∀ c o,c≠L→H4 c=some o→(upd H4 L (.lst (ys.map V.ref++us.map V.ref))) c=some o:=fun c o hc h=>by rw [aR hc];exact h
  have m4:ys.map H4=(allL (zs.take i)).map (fun t=>some (HO.tup t)):=jO hm (fun c o _ h=>S4 _ _ h) hL2;refine ⟨fun c o hc h=>kg _ _ hc (S4 _ _ (k2 _ _ hc h)),⟨ys++us,(by rw [av];lia),(by rw [aK,au]),?_⟩,_,rfl⟩;unfold allL at m4 ⊢;rw [take_flat (fun z:LX=>labs z.1.n z.1.ss) hz,au,au,jO m4 kg hL4,jO d4 kg hL4]
 ·obtain ⟨k3,⟨ys,ly,hL3,hm⟩,v2,rfl⟩:=q
  rw [lz] at ly hm;rw [bP] at hm;have hD3:=k3 _ _ (cf LDL) hDf;have S5:bO H (upd H3 DL (.dK (ic zs))):=fun c o e=>by
   have e1:=S0 _ _ e;have cL:c≠L:=aJ e hLn
   by_cases z:c=DL
   ·subst z;rw [I1.dl] at e1;rw [aK];exact e1
   ·rw [aR z];exact k3 _ _ cL (kf _ _ z e1)
  refine ⟨DL,ob,ic zs,I1.dl,hD3,_,rfl,k L ys _ S5 hLn (by rw [aR LDL];exact hL3) ?_⟩;rw [←hm];refine dJ fun c hc=>?_
  have hm2:H3 c∈(allL zs).map (fun t=>some (HO.tup t)):=by rw [←hm];exact List.mem_map_of_mem hc
  obtain ⟨t,_,e⟩:=bc.mp hm2;rw [aR fun z=>by rw [z,hD3] at e;cases e]
end
end HN
variable {zs:List HN.LX}
namespace L2
open PySem PySem.Spec PyProof.Rows
def hasK (l:List Key)(k:Key):Bool:=l.any fun q=>decide (q=k)
theorem hasK_iff {k:Key}:hasK l k=true↔k∈l:=by
 unfold hasK;rw [List.any_eq_true]
 constructor
 ·rintro ⟨q,h,e⟩
  rw [←lN e];exact h
 ·intro h
  exact ⟨k,h,lL rfl⟩
def iW (val:Nat→Key):Nat→List Key
 | 0=>[]
 | i+1=>if hasK (iW val i) (val i)=true then iW val i else iW val i++[val i]
theorem metK_le (val:Nat→Key):∀ i,(iW val i).length≤i
 | 0=>aH _
 | i+1=>by
  have:=metK_le val i;unfold iW;split
  ·lia
  ·rw [av];show _+1≤_;lia
theorem metK_mem {val:Nat→Key}{k:Key}:∀ {i:Nat},k∈iW val i↔∃ j,j<i∧val j=k
 | 0=>by
  constructor
  ·intro h;cases h
  ·rintro ⟨j,h,_⟩;lia
 | i+1=>by
  have ih:=metK_mem (val:=val) (k:=k) (i:=i);have e:k∈iW val (i+1)↔k∈iW val i∨val i=k:=by
   rw [iW];split
   ·rename_i h
    constructor
    ·exact .inl
    ·rintro (h' | h')
     ·exact h'
     ·rw [←h'];exact hasK_iff.mp h
   ·rw [cx,br]
    constructor
    ·rintro (h | h)
     ·exact .inl h
     ·exact .inr h.symm
    ·rintro (h | h)
     ·exact .inl h
     ·exact .inr h.symm
  rw [e,ih]
  constructor
  ·rintro (⟨j,h,q⟩ | h)
   ·exact ⟨j,by lia,q⟩
   ·exact ⟨i,by lia,h⟩
  ·rintro ⟨j,h,q⟩
   by_cases z:j=i
   ·subst z;exact .inr q
   ·exact .inl ⟨j,by lia,q⟩
theorem metK_nd {val:Nat→Key}:∀ {n:Nat},(∀ i j,i<j→j<n→val i≠val j)→(iW val n).length=n
 | 0,_=>rfl
 | n+1,h=>by
  have ih:=metK_nd (val:=val) (n:=n) fun i j a b=>h i j a (by lia)
  rw [iW,lI,av,ih]
  ·rfl
  ·intro q
   obtain ⟨j,hj,e⟩:=metK_mem.mp (hasK_iff.mp q);exact h j n hj (by lia) e
theorem metK_lt {val:Nat→Key}{i j:Nat}(h:i<j)(e:val i=val j):∀ {n:Nat},j<n→(iW val n).length<n
 | 0,hn=>lK hn (Nat.not_lt_zero _)
 | n+1,hn=>by
  have le:=metK_le val n;rw [iW];split
  ·lia
  ·rename_i q
   rw [av];show _+1<_
   by_cases z:j=n
   ·subst z
    exact lK (hasK_iff.mpr (metK_mem.mpr ⟨i,h,e⟩)) q
   ·have:=metK_lt h e (n:=n) (by lia)
    lia
section
variable {w:aV}{wr:List ak}{Pv:Nat→af→Prop}{St:Nat→al→Prop}
abbrev SetK (P:aB)(w:aV)(h:bj)(a:ak)(l:List Key):Prop:=h.SetOf (dR P w) a (hasK l) l.length
theorem SetK.at (x:SetK P w h a l)(k:∀ o,h.get? a=some o→h'.get? a=some o):SetK P w h' a l:=by
 obtain ⟨o,es,ep,t,ho,rest⟩:=x;exact ⟨o,es,ep,t,k _ ho,rest⟩
theorem upd_loop (W:WalksS P w A.in1 it fp wr G n Pv St)(S:ak)(hS:S ∉ fp)(val:Nat→Key)(hv:∀ i v,Pv i v→∃ x t,v= .str x t∧val i= .inr x)(hb:n+1<scanBound):∀ (k i:Nat) (s:al),n - i=k→i≤n→St i s→SetK P w s.heap S (iW val i) →
  (∀ s',Moved (S::wr) G s s'→SetK P w s'.heap S (iW val n)→R (.ok (.ret .none)) s')→codeAny (aZ P w) A (.builtin "set.update.loop" ⟨[.ref S,.ref it],[]⟩) R s
 | 0,i,s,hk,hi,st,hs,hR=>by
  have nw:S ∉ wr:=fun q=>hS (W.sub _ q)
  obtain rfl:i=n:=by lia
  refine codeAny_builtin F.entry_set_update_loop ?_;rw [bB.under_plainId jr _];refine ag (W.done s _ _ st fun s' hm=>?_);exact ax (hR s' (hm.mono fun b q=>aS _ q) (hs.at fun o e=>hm.heap S _ nw e))
 | k+1,i,s,hk,hi,st,hs,hR=>by
  have nw:S ∉ wr:=fun q=>hS (W.sub _ q)
  have up:∀ b∈wr,b∈S::wr:=fun b q=>aS _ q
  have hlt:i<n:=by lia
  refine codeAny_builtin F.entry_set_update_loop ?_;rw [bB.under_plainId jr _];refine ag (W.item i s _ _ hlt st fun v s' hP st' hm=>?_);obtain ⟨x,t,rfl,ev⟩:=hv i v hP;have hs':=hs.at (h':=s'.heap) fun o e=>hm.heap S _ nw e
  show aL _ A.in1 (holding [af.str x t] (setAdd S (.str x t)) >>= _) _ _ s';refine ag (gG ?_);unfold setAdd;refine gG ?_;refine ag ((dR P w).pyHash (k:= .inr x) (jE _ _ _ _) ?_);have room:(iW val i).length+1<scanBound:=by have:=metK_le val i;lia
  refine wpAny_setAddHashed_of (knd:=dR P w) (s:={ s' with toks:=s'.toks+1 }) (jE _ _ _ _) rfl hs' room fun h' sb h2=>?_
  have h3:SetK P w h' S (iW val (i+1)):=by
   have e1:(fun q=>hasK (iW val i) q || decide (q=Sum.inr x))=hasK (iW val (i+1)):=funext fun q=>by
    rw [iW,ev]
    by_cases z:hasK (iW val i) (Sum.inr x)=true
    ·rw [lJ z]
     by_cases y:q=Sum.inr x
     ·subst y;rw [z];rfl
     ·rw [lM y,Bool.or_false]
    ·rw [lI z]
     unfold hasK;rw [List.any_append];show _=(_ || (decide (Sum.inr x=q) || false));rw [Bool.or_false,decide_eq_decide.mpr (eq_comm (a:=q) (b:=Sum.inr x))]
   have e2:(if hasK (iW val i) (Sum.inr x)=true then (iW val i).length else (iW val i).length+1)=(iW val (i+1)).length:=by
    rw [iW,ev];split
    ·rfl
    ·rw [av];rfl
   rw [e1,e2] at h2;exact h2
  refine ax ⟨plainId_quiet jr _,upd_loop W S hS val hv hb k (i+1) _ (by lia) hlt (W.frame _ s' _ _ st' (Nat.le_succ _) fun b q o e=>?_) h3 fun s2 hm2 q2=>?_⟩
  ·rw [sb.2 b fun z=>hS (by rw [←z];exact q)];exact e
  ·refine hR s2 (Moved.trans W.gtrans ((hm.mono up).then_heap (Nat.le_succ _) fun b o q e=>?_) hm2) q2
   rw [sb.2 b fun z=>q (by rw [z];exact bW)];exact e
end
set_option maxRecDepth 100000 in
set_option maxHeartbeats 3200000 in
theorem set_tuple {w:aV}{l:ak}{its:Array af}{val:Nat→Key}
  (hh:A.handled=none) (hl:s.heap.IsTuple l its) (hv:∀ (i:Nat) v,its[i]? =some v→∃ x t,v= .str x t∧val i= .inr x) (hb:its.size+1<scanBound)
  (h:∀ (h':bj) (tk:Nat),SetK P w h' s.heap.objs.size (iW val its.size)→(∀ b o,b<s.heap.objs.size→s.heap.get? b=some o→h'.get? b=some o)→Q (.ref s.heap.objs.size) { s with heap:=h',toks:=tk }) :
  aL (aZ P w) A (call (.type "set") [.ref l]) Q E s:=by
 obtain ⟨c1,c2,mro1⟩:=PySem.F.called_set.mro;have made1:=PySem.F.called_set.made;have sub1:=PySem.F.called_set.sub;refine wpAny_call (codeAny_of_tree ?_);show aL _ _ (callAny (.type "set") _) _ _ _;refine ax ⟨Code.quiet_builtin _ (by trivial),codeAny_builtin PySem.F.entry_type_call ?_⟩;rw [bB.under_plain (weight_type_call_type "set" [.ref l] []) rfl];have no1:=PySem.F.called_set.notType;have can1:=PySem.F.called_set.canCreate;have ty1:=PySem.F.typeCall_set_1 (.ref l)
 repeat (any_goals (first | assumption | wp_step))
 refine codeAny_mono (code_set_new_1 (.ref l) (E:=E) (Q₁:=fun obj s₁=>∃ led:Bool,obj= .ref s.heap.objs.size∧s₁={ s with heap:=s.heap.push { cls:= .type "set",dict:=none,data:= .set #[] 0 (.fresh 0 0 led) } }) fun led=>⟨led,rfl,rfl⟩) fun r s₁ hr=>?_
 cases r with
 | error e=>exact hr
 | ok fl =>
  cases fl with
  | ret obj =>
   obtain ⟨led,rfl,rfl⟩:=hr;have g1:(s.heap.push { cls:= .type "set",dict:=none,data:= .set #[] 0 (.fresh 0 0 led) }).get? s.heap.objs.size=some { cls:= .type "set",dict:=none,data:= .set #[] 0 (.fresh 0 0 led) }:=aA _ rfl;have g2:al.TypeIs { s with heap:=s.heap.push { cls:= .type "set",dict:=none,data:= .set #[] 0 (.fresh 0 0 led) } } (.ref s.heap.objs.size) "set" := ⟨_,g1,rfl⟩;have i1:=PySem.F.called_set.init.lookup;have i2:=PySem.F.called_set.init.bind (.ref s.heap.objs.size)
   repeat (any_goals (first | assumption | wp_step))
   refine codeAny_mono (codeAny_call_builtin (R:=wants (fun r s₂=>r= .none∧∃ h' tk,s₂={ s with heap:=h',toks:=tk }∧SetK P w h' s.heap.objs.size (iW val its.size)∧(∀ b o,b<s.heap.objs.size→s.heap.get? b=some o→h'.get? b=some o)) E) PySem.F.called_set.init.plain PySem.F.entry_set_init (check_set_init_1 g2 ?_)) fun r₂ s₂ hr₂=>?_
   ·obtain ⟨ol,hol,hcl,nl,hdl⟩:=hl
    obtain ⟨ocls,odict,odata,oslots⟩:=ol;simp only at hcl hdl;subst hcl;subst hdl;have g3:(s.heap.push { cls:= .type "set",dict:=none,data:= .set #[] 0 (.fresh 0 0 led) }).get? l=some { cls:= .type "tuple",dict:=odict,data:= .seq its nl,slots:=oslots }:=aj _ hol;have n1:=PySem.F.sub_tuple_set;have n2:=PySem.F.sub_tuple_frozenset;have n3:(af.type "tuple" == af.type "dict")=false:=by decide
    have l1:(s.heap.push { cls:= .type "set",dict:=none,data:= .set #[] 0 (.fresh 0 0 led) }).IsTuple l its:=⟨_,g3,rfl,nl,rfl⟩;unfold dY.«set.__init__» noKeywords dY.Frozenset.updateFrom;generalize hPI:pyIter=PI
    wp_walk
    subst hPI;refine fG l1 ?_;refine ag (wpAny_runValue ?_);have lS:l<s.heap.objs.size:=aE hol;have h3:A.in1.in1.in1.handled=none:=by simp [hh]
    have nI:l≠(s.heap.push { cls:= .type "set",dict:=none,data:= .set #[] 0 (.fresh 0 0 led) }).objs.size:=by
     rw [bX];exact bu (Nat.lt_succ_of_lt lS)
    have nS:s.heap.objs.size ∉ [(s.heap.push { cls:= .type "set",dict:=none,data:= .set #[] 0 (.fresh 0 0 led) }).objs.size,l]:=by
     rw [bX];simp only [aq,br,aI,or_false,not_or];exact ⟨bu (Nat.lt_succ_self _),fq lS⟩
    refine upd_loop ((Walks.tuple h3 _ l nI its).toS) s.heap.objs.size nS val hv hb (its.size - 0) 0 _ (by lia) (cK _) ⟨⟨_,aA _ rfl,rfl,rfl⟩,?_⟩ ?hS0 ?hR
    ·exact l1.at fun o e=>aj _ e
    case hS0 =>
     exact ⟨_,#[],0,_,aj _ g1,⟨rfl,rfl,rfl⟩,rfl,fun e he=>by simp at he,fun k=>by simp [hasK,iW],(by show 0<scanBound;unfold scanBound;lia),rfl,rfl⟩
    case hR =>
     intro s' hm hS';obtain ⟨h',g',d',tk',os'⟩:=s';have eg:g'=s.gens:=hm.gens;have ed:d'=s.drawn:=hm.drawn;have eo:os'=s.os:=hm.os;subst eg;subst ed;subst eo;refine ax ?_;show aL _ _ (ret af.none) _ _ _;refine ax ⟨rfl,h',tk',rfl,hS',fun b o hb e=>?_⟩;have b1:b≠s.heap.objs.size:=bu hb;have b2:b≠(s.heap.push { cls:= .type "set",dict:=none,data:= .set #[] 0 (.fresh 0 0 led) }).objs.size:=by
      rw [bX];exact bu (Nat.lt_succ_of_lt hb)
     exact hm.heap b o (by simp only [aq,br,aI,or_false,not_or];exact ⟨b1,b2⟩) (aj _ (aj _ e))
   ·cases r₂ with
    | error e=>exact hr₂
    | ok fl₂ =>
     cases fl₂ with
     | ret r =>
      obtain ⟨rfl,h',tk,rfl,hS',hk'⟩:=hr₂
      repeat (any_goals (first | assumption | wp_step))
      exact h _ _ hS' hk'
     | _=>exact hr₂.elim
  | _=>exact hr.elim
def isSet (P:aB)(w:aV)(a:ak)(l:List Key):HO:= .ext fun h=>SetK P w h a l
def sAtK (ns:List Str)(i:Nat):Key:= .inr (ns.getD i du)
theorem call_setT (hc:X.calm=true):gF X (.type "set") (fun xs H Q=>∃ (p:ak) (ns:List Str),xs=[.ref p]∧SqT X.K H p (ns.map V.str)∧ns.length≤1000∧∀ a,H a=none→Q (.ref a) (upd H a (isSet X.prog X.w a (iW (sAtK ns) ns.length)))):=by
 intro az s σ H xs us Q I r h;obtain ⟨p,ns,rfl,hq,hn,q⟩:=h;obtain ⟨u,rfl,ru⟩:=jA r;cases (show u=af.ref p from ru);obtain ⟨its,rv,pl,hz⟩:=I.tuple hq;have hl:its.length=ns.length:=by rw [←rv.length,ae]
 have hl2:its.toArray.size=ns.length:=by rw [ay,hl]
 refine set_tuple (val:=sAtK ns) (I.ok.hd hc) pl (fun i v hv=>?_) (by rw [hl2];show ns.length+1<4096;lia) fun h' tk hs hk=>?_
 ·have hv:its[i]? =some v:=by simpa using hv
  have hi:i<ns.length:=by rw [←hl];exact (ao.mp hv).1
  obtain ⟨u,hu,ru⟩:=rv.get (i:=i) (x:= .str ns[i]) (by rw [aD,gE hi];rfl);rw [hv] at hu;cases hu;obtain ⟨t,rfl⟩:=(show ∃ t,v=af.str ns[i] t from ru);exact ⟨_,t,rfl,by unfold sAtK;rw [bN,gE hi];rfl⟩
 ·rw [hl2] at hs
  exact ⟨.ref s.heap.objs.size,_,I.laid (t':=tk) (o:=isSet X.prog X.w s.heap.objs.size (iW (sAtK ns) ns.length)) (fun b u e=>hk b u (aE e) e) (aH _) ⟨hs,(let ⟨o,_,_,_,ho,_⟩:=hs;⟨o,ho⟩),fun h1 h2 x k=>x.at k⟩,rfl,q _ I.fresh⟩
theorem call_lenK:gF X (.builtin "len") (fun xs H Q=>∃ (a:ak) (l:List Key),xs=[.ref a]∧H a=some (isSet X.prog X.w a l)∧Q (.int l.length) H):=by
 intro az s σ H xs us Q I r h;obtain ⟨a,l,rfl,ha,q⟩:=h;obtain ⟨u,rfl,ru⟩:=jA r;cases (show u=af.ref a from ru);obtain ⟨⟨o,es,ep,t,e1,e2,e3,_,_,e4,e5,e6⟩,_,_⟩:=I.hok a _ ha;have e4:es.size<4096:=e4;refine call_len_set e1 e2 e3 e5 (by lia) ?_;rw [←e6] at q;exact ⟨.int es.size,H,I.tok _,⟨_,rfl⟩,q⟩
end L2
namespace HN
open PySem L2 PyProof.Rows HT2
abbrev sTakeL:b8:=clsOf cPla 5
structure LinM (P:aB)(w:aV)(K:ai)(mg:Str→Option af)(base:bj)(C fi:ak)(di:aO):Prop where
 mke:Mk K C fi
 gl:mg "Line" =some (.ref C)
 f:cI P w K mg base CX0 1 fi di pzo (spInitL C)
 b:Binds K di pzo []
structure PlaK (P:aB)(w:aV)(K:ai)(mg:Str→Option af)(base:bj)(CP CL fh fs:ak)(dh ds:aO):Prop where
 cc:PlaC K CP
 m1:lG K CP "happenings" fh
 f1:cI P w K mg base CX0 1 fh dh pza (spHap CP CL)
 b1:Binds K dh pza []
 m2:lG K CP "is_small" fs
 f2:cI P w K mg base CX0 4 fs ds pza (spSmall CP CL)
 b2:Binds K ds pza []
def i8 (zs:List LX)(bt:List Sn):Bool:=decide (jZ zs≤16) && decide ((allS zs bt).length≤40)
inductive spTakeL (CP CL:ak)(vs:List V)(H:Hp)(Q:VK)(_:XK):Prop
 | mk (H0:Hp)(p q DL LB:ak)(b:Int)(zs:List LX)(bt:List Sn)(n:Str)(ss:List Str)(rs:List Int)(_:vs=[.ref p,.ref q])(_:PlI CP CL H0 H p b zs bt DL LB)(_:zs.length≤90)(_:bt.length≤90)(_:(PR.line n ss rs).at H q)(_:2≤ss.length)(_:ss.length≤1000)(_:ss.length=rs.length+1)(_:((n∈zs.map (·.1.n)∨¬ ss.Nodup)→∀ H',bO H H'→Q (.bl false) H'))(_:(n ∉ zs.map (·.1.n)→ss.Nodup→∀ x D H',PlI CP CL H0 H' p b (zs++[(⟨n,ss,rs,[],jZ zs⟩,x,D)]) bt DL LB→Q (.bl (i8 (zs++[(⟨n,ss,rs,[],jZ zs⟩,x,D)]) bt)) H'))
theorem linK_no {n:Str}(h:n ∉ zs.map (·.1.n)):jT (ic zs) (.inr n)=none:=by
 induction zs with
 | nil=>rfl
 | cons z zs ih =>
  rw [bJ,aq,not_or] at h;show jT ((.inr z.1.n,.ref z.2.1)::ic zs) (.inr n)=none;rw [jK (fun e=>h.1 (by injection e with e;exact e.symm))];exact ih h.2
theorem kz {z:LX}(nn:(zs.map (·.1.n)).Nodup)(h:z∈zs):jT (ic zs) (.inr z.1.n)=some (.ref z.2.1):=by
 induction zs with
 | nil=>cases h
 | cons y zs ih =>
  rw [bJ,aX] at nn;show jT ((.inr y.1.n,.ref y.2.1)::ic zs) (.inr z.1.n)=_
  rcases aq.mp h with e | e
  ·subst e;exact kl rfl
  ·rw [jK (fun q=>nn.1 (by injection q with q;exact bc.mpr ⟨z,e,q.symm⟩))]
   exact ih nn.2 e
theorem putK_new {k:Key}(h:jT kvs k=none):putK kvs k v=kvs++[(k,v)]:=by
 unfold putK;rw [valV_any,h];rfl
theorem str_nd:(iW (sAtK ss) ss.length).length=ss.length↔ss.Nodup:=by
 constructor
 ·intro h
  refine dm.mpr fun i j hi hj hij e=>?_
  have:=metK_lt (val:=sAtK ss) hij (by unfold sAtK;rw [bN,bN,gE hi,gE hj,e]) hj;lia
 ·intro nd
  refine metK_nd fun i j hij hj e=>?_
  unfold sAtK at e;rw [bN,bN,gE (Nat.lt_trans hij hj),gE hj] at e;injection e with e
  exact (dm.mp nd) i j _ hj hij e
theorem setTK (P:aB)(w:aV)(K:ai)(hc:X.calm=true)(hP:X.prog=P:=by rfl)(hw:X.w=w:=by rfl)(hK:X.K=K:=by rfl):gF X (.type "set") (fun xs H Q=>∃ (p:ak) (ns:List Str),xs=[.ref p]∧SqT K H p (ns.map V.str)∧ns.length≤1000∧∀ a,H a=none→Q (.ref a) (upd H a (isSet P w a (iW (sAtK ns) ns.length)))):=by subst hP hw hK;exact call_setT hc
theorem lenSK (P:aB)(w:aV)(hP:X.prog=P:=by rfl)(hw:X.w=w:=by rfl):gF X (.builtin "len") (fun xs H Q=>∃ (a:ak) (l:List Key),xs=[.ref a]∧H a=some (isSet P w a l)∧Q (.int l.length) H):=by subst hP hw;exact call_lenK
section
variable {w:aV}
theorem scTakeL:bE ["self","row","name","stops"] pzb (defScope sTakeL):=by trivial
theorem ok_takeL {fi fh fs:ak}{di ds:aO}(F:Fun K "take_line" "Plan.take_line" sTakeL f fd)(T:Nm mg)(hset:mg "set" =none)(PK:PlaK P w K mg base CP CL fh fs dh ds)(LM:LinM P w K mg base CL fi di):cI P w K mg base CX0 5 f fd pzb (spTakeL CP CL):=by
 refine F.ok scTakeL (by contradiction) (fun cdv A outer s H vs Q E hr h=>?_);obtain ⟨H0,p,q,DL,LB,b,zs,bt,n,ss,rs,rfl,I,f1,f2,⟨a,b',ha,hb,hq⟩,two,few,rl,kn,ky⟩:=h;have u1:=iM (iu (show 1≤64 by decide) _) hr.units;refine ⟨_,PSl.h (bf ⟨(psZ 2 scTakeL.nd (ixZ (pv 1)))⟩ (bf ⟨(psZ 3 scTakeL.nd (ixZ (pv 1)))⟩
  (bf ⟨(fQ (PW.pt (kh (pt_cmp (pc_din u1 (pv 2) (dk (pv 0) rfl)) rfl) (jv (cD op_ne (cw (lenSK P w) rfl T.len bD (ah (dQ (setTK P w K rfl) rfl hset boot_set (ah (pv 3) aw)) aw)) (cw cS rfl T.len bD (ah (pv 3) aw)) (cP _))))) (bp (bI ki)) cM)⟩
  (bf ⟨(ps_dput u1 (dk (pv 0) rfl) (pv 2) (pe_make LM.mke LM.f (hr.mono (by decide)) rfl LM.gl LM.b .nil fz (ah (pv 2) (ah (pv 3) (ah (ixZ (pv 1)) (ah (gd (pv 0) PK.cc.cl PK.m1 PK.f1 (hr.mono (by decide)) PK.b1 .nil fz) aw))))) rfl)⟩
  (fR ⟨(bI (gd (pv 0) PK.cc.cl PK.m2 PK.f2 hr PK.b2 .nil fz))⟩))))),?_⟩
 obtain ⟨dp,hp⟩:=I.pl;have CC:=PK.cc;refine ⟨_,rfl,q,_,_,_,rfl,rfl,SqT.of hq,aC (j:=1) rfl,?_⟩;refine ⟨_,rfl,q,_,_,_,rfl,rfl,SqT.of hq,aC (j:=2) rfl,?_⟩;refine ⟨_,rfl,_,rfl,p,CP,dp,_,_,rfl,hp,CC.cl,CC.n2,rfl,DL,_,rfl,.inl ⟨_,.inr n,.inl I.dl,rfl,rfl⟩,_,rfl,jG (fun hc=>?_) (fun hc=>?_)⟩
 ·refine kn (.inl ?_) H (bO.refl H)
  refine Classical.byContradiction fun no=>?_
  rw [linK_no no] at hc;cases hc
 have hn:n ∉ zs.map (·.1.n):=fun hm=>hc (by
  obtain ⟨z,hz,rfl⟩:=bc.mp hm;rw [kz I.nn hz];rfl)
 refine ⟨_,rfl,a,ss,rfl,SqT.of ha,few,fun sa hsa=>?_⟩;have S1:bO H (upd H sa (isSet P w sa (iW (sAtK ss) ss.length))):=bO.put (bO.refl H) hsa;have h1:(upd H sa (isSet P w sa (iW (sAtK ss) ss.length))) sa=some (isSet P w sa (iW (sAtK ss) ss.length)):=aK;generalize upd H sa (isSet P w sa (iW (sAtK ss) ss.length))=H1 at S1 h1 ⊢;refine ⟨sa,_,rfl,h1,_,rfl,a,_,rfl,.inr (SqT.of (S1 _ _ ha)),rfl,_,rfl,jG (fun hc=>?_) (fun hc=>?_)⟩
 ·refine kn (.inr fun nd=>?_) H1 S1
  rw [str_nd.mpr nd,ae] at hc;exact lK hc (by simp)
 have nd:ss.Nodup:=by
  refine str_nd.mp ?_;have hc:¬ (!decide (V.int ((iW (sAtK ss) ss.length).length:Int)=V.int ((ss.map V.str).length:Int)))=true:=hc;rw [Bool.not_eq_true,Bool.not_eq_false'] at hc;have:=lN hc;injection this with this
  rw [ae] at this;lia
 have I1:=I.same S1;obtain ⟨dp1,hp1⟩:=I1.pl;refine ⟨_,rfl,_,rfl,_,rfl,q,_,_,_,rfl,rfl,SqT.of (S1 _ _ hq),aC (j:=3) rfl,_,rfl,p,dp1,_,rfl,hp1,rfl,H0,p,DL,LB,b,zs,bt,rfl,I1,⟨by lia,by lia⟩,fun H2 S2=>?_⟩;intro x dx hx hdx dxx;refine ⟨x,dx,a,b',n,jZ zs,rfl,aK,fun D H3 k3 hD hD3 hx3=>⟨rfl,?_⟩⟩;have S12:=S1.trans S2;have I2:=I1.same S2;have e2:∀ c o,H2 c=some o→H3 c=some o:=fun c o e=>by
  refine k3 c o (aJ e hx) ?_;rw [aR (aJ e hx),aR (aJ e hdx)];exact e
 have S23:bO H2 H3:=fun c o e=>e2 c o e
 have hD2:H2 D=none:=by
  cases e:H2 D with
  | none=>rfl
  | some o =>
   rw [aR (aJ e hx),aR (aJ e hdx),e] at hD;cases hD
 have I3:=I2.same S23;obtain ⟨dp3,hp3⟩:=I3.pl;refine ⟨_,rfl,p,CP,dp3,_,_,rfl,hp3,CC.cl,CC.n2,rfl,_,rfl,DL,_,rfl,.inl ⟨_,.inr n,I3.dl,rfl,?_,rfl⟩,?_⟩
 ·show (ic zs).length<ar
  unfold ic;rw [ae];have:(100000:Nat)≤ar:=by decide
  lia
 rw [putK_new (linK_no hn)];have ez:ic zs++[(.inr n,.ref x)]=ic (zs++[(⟨n,ss,rs,[],jZ zs⟩,x,D)]):=by unfold ic;rw [au];rfl
 rw [ez];have k4:∀ c o,c≠DL→H3 c=some o→(upd H3 DL (.dK (ic (zs++[(⟨n,ss,rs,[],jZ zs⟩,x,D)])))) c=some o:=fun c o hc e=>by rw [aR hc];exact e
 have h4:(upd H3 DL (.dK (ic (zs++[(⟨n,ss,rs,[],jZ zs⟩,x,D)])))) DL=some (.dK (ic (zs++[(⟨n,ss,rs,[],jZ zs⟩,x,D)]))):=aK;generalize upd H3 DL (.dK (ic (zs++[(⟨n,ss,rs,[],jZ zs⟩,x,D)])))=H4 at k4 h4 ⊢;have DDL:D≠DL:=fun z=>by rw [z,I2.dl] at hD2;cases hD2
 have kT:∀ c xs,H3 c=some (.tup xs)→H4 c=some (.tup xs):=fun c xs e=>k4 _ _ (cV e I3.dl nofun) e
 have kI:∀ c C dx fs,H3 c=some (.ins C dx fs)→H4 c=some (.ins C dx fs):=fun c C dx fs e=>k4 _ _ (cV e I3.dl nofun) e
 have A4:LnA H4 CL x D ⟨n,ss,rs,[],jZ zs⟩:=⟨⟨dx,a,b',kI _ _ _ _ hx3,kT _ _ (e2 _ _ (S12 _ _ ha)),kT _ _ (e2 _ _ (S12 _ _ hb))⟩,⟨[],k4 _ _ DDL hD3,rfl,fun z=>⟨(fun v hv=>by cases hv),(fun _=>⟨rfl,by simp⟩),(fun hv=>by cases hv)⟩⟩,nd,two,few,rl⟩;have n0:H0 D=none:=by
  cases e:H0 D with
  | none=>rfl
  | some o=>rw [I2.S _ _ e] at hD2;cases hD2
 have I4:PlI CP CL H0 H4 p b (zs++[(⟨n,ss,rs,[],jZ zs⟩,x,D)]) bt DL LB:=by
  obtain ⟨ys,hB,dB⟩:=I3.lb;refine ⟨fun c o e=>k4 _ _ (aJ e I3.nL) (I3.S _ _ e),⟨dp3,kI _ _ _ _ hp3⟩,I3.nL,I3.nB,fun z hz=>?_,h4,fun z hz=>?_,?_,?_,ys,k4 _ _ (cV hB I3.dl nofun) hB,?_⟩
  ·rcases cx.mp hz with hz | hz
   ·exact I3.nD z hz
   ·rw [br.mp hz];exact n0
  ·rcases cx.mp hz with hz | hz
   ·have A:=I3.ln z hz
    obtain ⟨kvs,d1,_⟩:=A.s.ex;have nz:z.2.2≠DL:=fun e=>(aX.mp I3.nd).1 (bc.mpr ⟨z,hz,e⟩)
    exact A.kept kT kI ((k4 _ _ nz d1).trans d1.symm)
   ·rw [br.mp hz];exact A4
  ·rw [au,aX]
   obtain ⟨m1,m2⟩:=aX.mp I3.nd;refine ⟨fun hm=>?_,List.nodup_append.mpr ⟨m2,by simp,fun c hc d hd e=>?_⟩⟩
   ·rcases cx.mp hm with hm | hm
    ·exact m1 hm
    ·exact DDL (br.mp hm).symm
   ·have hd:d=D:=by simpa using hd
    subst hd;subst e;obtain ⟨z,hz,ez⟩:=bc.mp hc;obtain ⟨kvs,d1,_⟩:=(I2.ln z hz).s.ex;rw [ez,hD2] at d1;cases d1
  ·rw [au]
   refine List.nodup_append.mpr ⟨I3.nn,by simp,fun c hcc d hd e=>?_⟩;have hd:d=n:=by simpa using hd
   rw [e,hd] at hcc;exact hn hcc
  ·have fin:∀ {vs:List V} {sp:List Sn},fI H3 vs (sp.map snD)→fI H4 vs (sp.map snD):=by
    intro vs sp
    induction sp generalizing vs with
    | nil=>intro h;cases h;exact .nil
    | cons x sp ih =>
     intro h;cases h with
     | cons h r =>
      obtain ⟨a,us,rfl,ha,rz⟩:=h.tup_of;have ez:=fI.ints_of rz;subst ez;exact .cons (.tup (kT _ _ ha) (fI.ints _)) (ih r)
   exact fin dB
 obtain ⟨dp4,hp4⟩:=I4.pl;refine ⟨_,rfl,p,dp4,_,rfl,hp4,rfl,H0,p,DL,LB,b,_,bt,rfl,I4,⟨by rw [av];show zs.length+1≤100;lia,by lia⟩,fun H5 S5=>ky hn nd x D H5 (I4.same S5)⟩
end
abbrev sChange:b8:=top 31
abbrev sBtw:b8:=clsOf cPla 7
abbrev sTakeB:b8:=clsOf cPla 8
abbrev sTakeP:b8:=clsOf cPla 9
inductive spChange (C:ak)(vs:List V)(H:Hp)(Q:VK)(_:XK):Prop
 | mk (l o w:Int)(x y p:ak)(n1 n2 z:Str)(ss tt:List Str)(rs us:List Int)(fi gi:Int)(i j:Nat)(_:vs=[.ref x,.ref y,.ref p])(_:LnOk H C x ss rs fi)(_:LnOk H C y tt us gi)(_:H p=some (.tup [.str "change",.str n1,.str n2,.str z,.int l,.int o,.int w]))(_:ss[i]? =some z)(_:1≤i)(_:tt[j]? =some z)(_:j+1<tt.length)(_:∀ q H',bO H H'→H' q=some (.tup [.int (fi+2 * i - 1),.int (gi+2 * j),.int l,.int o,.int w])→Q (.ref q) H')
inductive Bt (b:Int)(x y:Ln):Str→List Str→List Int→Sn→Prop
 | change {z:Str} {l o w:Int} {i j:Nat} (h1:x.ss[i]? =some z) (h2:1≤i) (h3:y.ss[j]? =some z) (h4:j+1<y.ss.length):Bt b x y "change" [x.n,y.n,z] [l,o,w] ⟨x.fi+2 * i - 1,y.fi+2 * j,l,o,w⟩
 | apart {z:Str} {d:Int} {i j:Nat} (h1:x.ss[i]? =some z) (h2:i+1<x.ss.length) (h3:y.ss[j]? =some z) (h4:j+1<y.ss.length):Bt b x y "apart" [x.n,y.n,z] [d] ⟨x.fi+2 * i,y.fi+2 * j,d,b - d,0⟩
 | meet {z z2:Str} {d r u:Int} {i j:Nat} (h1:x.ss[i]? =some z) (h2:x.ss[i+1]? =some z2) (h3:x.rs[i]? =some r) (h4:y.ss[j]? =some z2) (h5:y.ss[j+1]? =some z) (h6:y.rs[j]? =some u):Bt b x y "meet" [x.n,y.n,z,z2] [d] ⟨x.fi+2 * i,y.fi+2 * j,r+d,b - u - d,0⟩
def Btw (b:Int)(ls:List Ln)(k:Str)(ns:List Str)(is:List Int)(sn:Sn):Prop:=∃ x y:Ln,x∈ls∧y∈ls∧x.n≠y.n∧Bt b x y k ns is sn
inductive spBtw (CP CL:ak)(vs:List V)(H:Hp)(Q:VK)(_:XK):Prop
 | mk (H0:Hp)(p q DL LB:ak)(b:Int)(zs:List LX)(bt:List Sn)(k:Str)(ns:List Str)(is:List Int)(sn:Sn)(_:vs=[.ref p,.ref q])(_:PlI CP CL H0 H p b zs bt DL LB)(_:(PR.oth k ns is).at H q)(_:Btw b (zs.map (·.1)) k ns is sn)(_:∀ t H',bO H H'→H' t=some (.tup [.int sn.s,.int sn.g,.int sn.l,.int sn.o,.int sn.w])→Q (.ref t) H')
def snB (b m:Int)(x:Sn):Bool:=jR m (.int x.s) (.int x.g) && (kM b (.int x.l) (.int x.o) && inI (.int x.w) 0 1000000000000)
inductive spTakeB (CP CL:ak)(vs:List V)(H:Hp)(Q:VK)(_:XK):Prop
 | mk (H0:Hp)(p q DL LB:ak)(b:Int)(zs:List LX)(bt:List Sn)(k:Str)(ns:List Str)(is:List Int)(sn:Sn)(_:vs=[.ref p,.ref q])(_:PlI CP CL H0 H p b zs bt DL LB)(_:zs.length≤90)(_:bt.length≤90)(_:(PR.oth k ns is).at H q)(_:Btw b (zs.map (·.1)) k ns is sn)(_:∀ H',PlI CP CL H0 H' p b zs (bt++[sn]) DL LB→Q (.bl (snB b (jZ zs) sn && i8 zs (bt++[sn]))) H')
theorem LnA.ok {x D:ak}{l:Ln}(A:LnA H C x D l):LnOk H C x l.ss l.rs l.fi:=⟨⟨D,l.n,A.d⟩,A.nd,A.two,A.few,A.rl⟩
section
variable {w:aV}
theorem scChange:bE pzq pzq (defScope sChange):=by trivial
theorem ok_change {fc fg fr:ak}(F:Fun K "change_span" "change_span" sChange f fd)(CK:LinK P w K mg base C fc fg fr dc dg dr):cI P w K mg base CX0 2 f fd pzq (spChange C):=by
 refine F.ok scChange (by contradiction) (fun cdv A outer s H vs Q E hr h=>?_);obtain ⟨l,o,w,x,y,p,n1,n2,z,ss,tt,rs,us,fi,gi,i,j,rfl,hx,hy,hp,e1,e2,e3,e4,k⟩:=h;refine ⟨_,bp (bI (gq (ah (eV (pv 0) CK.cc.cl CK.m1 CK.f1 hr CK.b1 .nil fz (ah (ixZ (pv 2)) aw)) (ah (eV (pv 1) CK.cc.cl CK.m2 CK.f2 hr CK.b2 .nil fz (ah (ixZ (pv 2)) aw)) (ah (ixZ (pv 2)) (ah (ixZ (pv 2)) (ah (ixZ (pv 2)) aw))))))),?_⟩;obtain ⟨⟨D,n,L⟩,nd,two,few,_⟩:=hx;obtain ⟨dx,a,b,hx1,_⟩:=id L;refine ⟨_,rfl,x,dx,_,rfl,hx1,rfl,_,rfl,p,_,_,_,rfl,rfl,SqT.of hp,aC (j:=3) rfl,x,D,n,z,ss,rs,fi,rfl,L,few,two,nd,fun H1 S1=>⟨fun i' a1 a2=>?_,fun no=>lK (no i e1) (by lia)⟩⟩;obtain rfl:=(iI nd e1 a1).symm;obtain ⟨⟨D2,n2',L2'⟩,nd2,two2,few2,_⟩:=hy.kept S1;obtain ⟨dy,a3,b3,hy1,_⟩:=id L2';refine ⟨_,rfl,y,dy,_,rfl,hy1,rfl,_,rfl,p,_,_,_,rfl,rfl,SqT.of (S1 _ _ hp),aC (j:=3) rfl,y,D2,n2',z,tt,us,gi,rfl,L2',few2,two2,nd2,fun H2 S2=>⟨fun j' a1' a2'=>?_,fun no=>lK (no j e3) (by lia)⟩⟩;obtain rfl:=(iI nd2 e3 a1').symm;have hp2:=S2 _ _ (S1 _ _ hp);refine ⟨_,rfl,p,_,_,_,rfl,rfl,SqT.of hp2,aC (j:=4) rfl,_,rfl,p,_,_,_,rfl,rfl,SqT.of hp2,aC (j:=5) rfl,_,rfl,p,_,_,_,rfl,rfl,SqT.of hp2,aC (j:=6) rfl,szZ5,fun q H3 S3 e=>?_⟩;exact k q H3 (S1.trans (S2.trans S3)) e
theorem scBtw:bE ["self","row","one","other"] pzb (defScope sBtw):=by trivial
theorem ok_btw {f3:ak}{d3:aO}(F:Fun K "span_between" "Plan.span_between" sBtw f fd)(CC:PlaC K CP)(G1:Fn K mg "change_span" sChange pzq f1 d1)(F1:cI P w K mg base CX0 2 f1 d1 pzq (spChange CL))
  (G2:Fn K mg "apart_span" sApart pzi f2 d2) (F2:cI P w K mg base CX0 2 f2 d2 pzi (spApart CL)) (G3:Fn K mg "meet_span" sMeet pzi f3 d3) (F3:cI P w K mg base CX0 2 f3 d3 pzi (spMeet CL)):cI P w K mg base CX0 3 f fd pzb (spBtw CP CL):=by
 refine F.ok scBtw (by contradiction) (fun cdv A outer s H vs Q E hr h=>?_);obtain ⟨H0,p,q,DL,LB,b,zs,bt,k,ns,is,sn,rfl,I,hq,B,kk⟩:=h;have u1:=iM (iu (show 1≤64 by decide) _) hr.units;refine ⟨_,PSl.h (bf ⟨(psZ 2 scBtw.nd (pe_dget1 u1 (dk (pv 0) rfl) (ixZ (pv 1)) ⟨rfl,rfl,rfl,rfl⟩))⟩ (bf ⟨(psZ 3 scBtw.nd (pe_dget1 u1 (dk (pv 0) rfl) (ixZ (pv 1)) ⟨rfl,rfl,rfl,rfl⟩))⟩
  (bf ⟨(fQ (PW.pt (kh (cD op_isN (pv 2) jy (cP _)) (kh (cD op_isN (pv 3) jy (cP _)) (jv (cD jC (ixZ (pv 1)) (ixZ (pv 1)) (cP _)))))) (bp (bI jy)) cM)⟩
  (bf ⟨(fQ (cD jC (ixZ (pv 1)) fY (cP _)) (bp (bI (pc1 G1 F1 hr (ah (pv 2) (ah (pv 3) (ah (pv 1) aw)))))) cM)⟩
  (bf ⟨(fQ (cD jC (ixZ (pv 1)) fY (cP _)) (bp (bI (pc1 G2 F2 hr (ah (dk (pv 0) rfl) (ah (pv 2) (ah (pv 3) (ah (pv 1) aw))))))) cM)⟩
  (fR ⟨(bI (pc1 G3 F3 hr (ah (dk (pv 0) rfl) (ah (pv 2) (ah (pv 3) (ah (pv 1) aw))))))⟩)))))),?_⟩
 obtain ⟨dp,hp⟩:=I.pl;have dl:=I.dl;obtain ⟨x',y',hx',hy',ne,B⟩:=B;obtain ⟨x,hx,rfl⟩:=bc.mp hx';obtain ⟨y,hy,rfl⟩:=bc.mp hy';obtain ⟨r,hq'⟩:∃ r:List V,H q=some (.tup (.str k:: .str x.1.n:: .str y.1.n::r)):=by
  cases B with
  | change=>exact ⟨_,hq⟩
  | apart=>exact ⟨_,hq⟩
  | meet=>exact ⟨_,hq⟩
 refine ⟨_,rfl,p,CP,dp,_,_,rfl,hp,CC.cl,CC.n2,rfl,DL,rfl,.inl ⟨_,.inl dl⟩,_,rfl,q,_,_,_,rfl,rfl,SqT.of hq',aC (j:=1) rfl,_,.inl ⟨_,.inr x.1.n,.inl dl,rfl,rfl⟩,?_⟩;rw [kz I.nn hx];refine ⟨_,rfl,p,CP,dp,_,_,rfl,hp,CC.cl,CC.n2,rfl,DL,rfl,.inl ⟨_,.inl dl⟩,_,rfl,q,_,_,_,rfl,rfl,SqT.of hq',aC (j:=2) rfl,_,.inl ⟨_,.inr y.1.n,.inl dl,rfl,rfl⟩,?_⟩;rw [kz I.nn hy];refine ⟨_,rfl,rfl,_,rfl,jz (lM nofun) ⟨_,rfl,rfl,_,rfl,jz (lM nofun) ?_⟩⟩;refine ⟨_,rfl,q,_,_,_,rfl,rfl,SqT.of hq',aC (j:=1) rfl,_,rfl,q,_,_,_,rfl,rfl,SqT.of hq',aC (j:=2) rfl,rfl,_,rfl,jz (lM fun z=>ne (by injection z)) ?_⟩;have Ax:=(I.ln x hx).ok;have Ay:=(I.ln y hy).ok;refine ⟨_,rfl,q,_,_,_,rfl,rfl,SqT.of hq',aC (j:=0) rfl,rfl,_,rfl,?_⟩;cases B with
 | change h1 h2 h3 h4 =>
  refine iteB (lL rfl) ?_;exact ⟨_,rfl,_,rfl,_,rfl,_,_,_,_,_,q,_,_,_,_,_,_,_,_,_,_,_,rfl,Ax,Ay,hq,h1,h2,h3,h4,kk⟩
 | apart h1 h2 h3 h4 =>
  refine jz (by trivial) ?_;refine ⟨_,rfl,q,_,_,_,rfl,rfl,SqT.of hq',aC (j:=0) rfl,rfl,_,rfl,iteB (lL rfl) ?_⟩;exact ⟨_,rfl,p,CP,dp,_,_,rfl,hp,CC.cl,CC.n1,rfl,_,rfl,_,rfl,_,rfl,b,_,_,_,q,_,_,_,_,_,_,_,_,_,_,_,rfl,Ax,Ay,hq,h1,h2,h3,h4,kk⟩
 | meet h1 h2 h3 h4 h5 h6 =>
  refine jz (by trivial) ?_;refine ⟨_,rfl,q,_,_,_,rfl,rfl,SqT.of hq',aC (j:=0) rfl,rfl,_,rfl,jz (by trivial) ?_⟩;exact ⟨_,rfl,p,CP,dp,_,_,rfl,hp,CC.cl,CC.n1,rfl,_,rfl,_,rfl,_,rfl,b,_,_,_,_,_,q,_,_,_,_,_,_,_,_,_,_,_,_,rfl,Ax,Ay,hq,h1,h2,h3,h4,h5,h6,kk⟩
theorem sn_at {t:ak}{x:Sn}(h:H t=some (.tup [.int x.s,.int x.g,.int x.l,.int x.o,.int x.w]))(b m:Int):jL H b m (.ref t)=snB b m x:=by
 simp only [jL,h];rfl
theorem sn_g1 {t:ak}{x:Sn}(h:H t=some (.tup [.int x.s,.int x.g,.int x.l,.int x.o,.int x.w])):G1 H (.ref t):=by
 refine ⟨⟨"tuple",by simp only [tyn,h]⟩,fun a xs ev ha x hx=>?_⟩;injection ev with ev
 subst ev;rw [h] at ha;injection ha with ha
 injection ha with ha
 subst ha;simp only [aq,aI,or_false] at hx
 rcases hx with rfl | rfl | rfl | rfl | rfl <;> exact ⟨"int",rfl⟩
theorem scTakeB:bE ["self","row","span"] pzb (defScope sTakeB):=by trivial
theorem ok_takeB {fb fh fs:ak}{db ds:aO}(F:Fun K "take_between" "Plan.take_between" sTakeB f fd)(PK:PlaK P w K mg base CP CL fh fs dh ds)(mb:lG K CP "span_between" fb)(FB:cI P w K mg base CX0 3 fb db pzb (spBtw CP CL))(bb:Binds K db pzb [])
  (GS:Fn K mg "is_span" sSpan pzk f1 d1) (FS:cI P w K mg base CX0 4 f1 d1 pzk spSpan):cI P w K mg base CX0 5 f fd pzb (spTakeB CP CL):=by
 refine F.ok scTakeB (by contradiction) (fun cdv A outer s H vs Q E hr h=>?_);obtain ⟨H0,p,q,DL,LB,b,zs,bt,k,ns,is,sn,rfl,I,f1,f2,hq,B,kk⟩:=h;have CC:=PK.cc;refine ⟨_,PSl.h (bf ⟨(psZ 2 scTakeB.nd (eV (pv 0) CC.cl mb FB (hr.mono (by decide)) bb .nil fz (ah (pv 1) aw)))⟩
  (bf ⟨(iw (jc bU cG cF gM (dk (pv 0) rfl) (ah (pv 2) aw)))⟩
  (fR ⟨(bI (lj (pc1 GS FS hr (ah (dk (pv 0) rfl) (ah (gd (pv 0) CC.cl PK.m1 PK.f1 (hr.mono (by decide)) PK.b1 .nil fz) (ah (pv 2) aw)))) (pe_one (gd (pv 0) CC.cl PK.m2 PK.f2 hr PK.b2 .nil fz))))⟩))),?_⟩
 obtain ⟨dp,hp⟩:=I.pl;have big:(100000:Nat)≤ar:=by decide
 refine ⟨_,rfl,p,dp,_,rfl,hp,rfl,_,rfl,H0,p,q,DL,LB,b,zs,bt,k,ns,is,sn,rfl,I,hq,B,fun t H1 S1 ht=>?_⟩;have I1:=I.same S1;obtain ⟨dp1,hp1⟩:=I1.pl;obtain ⟨ys,hB,dB⟩:=I1.lb;have ly:ys.length=bt.length:=by have:=dB.length;rwa [ae] at this
 refine ⟨_,rfl,p,CP,dp1,_,_,rfl,hp1,CC.cl,CC.n3,rfl,.inl ⟨rfl,_,SqL.of hB⟩,_,rfl,LB,_,_,rfl,rfl,hB,(by lia),?_⟩;have k2:∀ c o,c≠LB→H1 c=some o→(upd H1 LB (.lst (ys++[.ref t]))) c=some o:=fun c o hc e=>by rw [aR hc];exact e
 have h2:(upd H1 LB (.lst (ys++[.ref t]))) LB=some (.lst (ys++[.ref t])):=aK;generalize upd H1 LB (.lst (ys++[.ref t]))=H2 at k2 h2 ⊢;have ht2:=k2 _ _ (cV ht hB nofun) ht;have I2:PlI CP CL H0 H2 p b zs (bt++[sn]) DL LB:=by
  refine ⟨fun c o e=>k2 _ _ (aJ e I1.nB) (I1.S _ _ e),⟨dp1,k2 _ _ (cV hp1 hB nofun) hp1⟩,I1.nL,I1.nB,I1.nD,k2 _ _ (cV I1.dl hB nofun) I1.dl,fun z hz=>?_,I1.nd,I1.nn,_,h2,?_⟩
  ·have A:=I1.ln z hz
   obtain ⟨kvs,d1,_⟩:=A.s.ex;exact A.kept (fun b xs e=>k2 _ _ (cV e hB nofun) e) (fun b C dx fs e=>k2 _ _ (cV e hB nofun) e) ((k2 _ _ (cV d1 hB nofun) d1).trans d1.symm)
  ·rw [au]
   exact (iK dB k2 hB).append (fI.one (snD_at ht2))
 obtain ⟨dp2,hp2⟩:=I2.pl;have fw:Few zs (bt++[sn]):=⟨by lia,by rw [av];show bt.length+1≤100;lia⟩;refine ⟨_,rfl,p,CP,dp2,_,_,rfl,hp2,CC.cl,CC.n1,rfl,_,rfl,p,dp2,_,rfl,hp2,rfl,H0,p,DL,LB,b,zs,_,rfl,I2,fw,fun H3 S3=>?_⟩;have ht3:=S3 _ _ ht2;refine ⟨_,rfl,b,jZ zs,_,rfl,sn_g1 ht3,_,rfl,?_⟩;rw [sn_at ht3];refine jG (fun hc=>?_) (fun hc=>?_)
 ·have I3:=I2.same S3
  obtain ⟨dp3,hp3⟩:=I3.pl;refine ⟨_,rfl,p,dp3,_,rfl,hp3,rfl,H0,p,DL,LB,b,zs,_,rfl,I3,fw,fun H4 S4=>?_⟩;have e:=kk H4 (I3.same S4);rw [hc,gn] at e;exact e
 ·have e:=kk H3 (I2.same S3)
  have hc:snB b (jZ zs) sn=false:=by simpa using hc
  rw [hc,gK] at e;exact e
end
end HN
namespace L2
open PySem PySem.Spec PyProof.Rows
section
variable {w:aV}
theorem enumL_step {z:ak}{xs:Array af}{x:af}(E0:fZ s.heap z i1 k was)(J0:s.heap.IsListIter i1 a k)(T0:s.heap.IsList a xs)(hx:xs[k]? =some x)(hzi:z≠i1)
  (q:∀ g,IsEnumOut g z i1 ((k:Int)+1) x s.heap.objs.size→g.IsListIter i1 a (k+1)→g.get? s.heap.objs.size=some { cls:= .type "tuple",data:= .seq #[.int k s.toks,x] }→g.objs.size=s.heap.objs.size+1 →
   (∀ c o,c≠z→c≠i1→s.heap.get? c=some o→g.get? c=some o)→Q (.ref s.heap.objs.size) { s with heap:=g,toks:=s.toks+1 }) :
  aL (aZ prog w) A (dY.«enumerate.__next__» ⟨[.ref z],[]⟩) (fun fin s'=>∃ v,fin= .done (.ret v)∧Q v s') E s:=by
 obtain ⟨h0,gs,dr,tk,os⟩:=s;show aL _ _ (field (.ref z) 2 >>= _) _ _ _;refine ag (bC E0 rfl (x:= .ref i1) rfl ?_);refine ag (wpAny_nextOf_list_item J0 T0 hx fun g1 J1 s1=>?_);have s1:bo i1 h0 g1:=s1;have E1:fZ g1 z i1 k was:=(s1.2 z hzi).trans E0;show aL _ _ (field (.ref z) 3 >>= _) _ _ ⟨g1,gs,dr,tk,os⟩;refine ag (bC E1 rfl (x:=rawInt k) rfl ?_);show aL _ _ (field (.ref z) 4 >>= _) _ _ ⟨g1,gs,dr,tk,os⟩;refine ag (bC E1 rfl (x:= .none) rfl ?_);show aL _ _ (mkInt k >>= _) _ _ ⟨g1,gs,dr,tk,os⟩;refine ag (wpAny_mkInt ?_);show aL _ _ (setField (.ref z) 3 (rawInt ((k:Int)+1)) >>= _) _ _ ⟨g1,gs,dr,tk+1,os⟩;refine ag (bK E1 (by simp) fun g2 E2 s2=>?_);have s2:bo z g1 g2:=s2;have E2:fZ g2 z i1 ((k:Int)+1) was:=E2;show aL _ _ (setField (.ref z) 4 .none >>= _) _ _ ⟨g2,gs,dr,tk+1,os⟩;refine ag (bK E2 (by simp) fun g3 E3 s3=>?_);have s3:bo z g2 g3:=s3;have E3:fZ g3 z i1 ((k:Int)+1) was:=E3;show aL _ _ (newTuple [.int k tk,x] >>= _) _ _ ⟨g3,gs,dr,tk+1,os⟩;refine ag (wpAny_newTuple ?_);have E4:fZ (g3.push { cls:= .type "tuple",data:= .seq #[.int k tk,x] }) z i1 ((k:Int)+1) was:=aj _ E3;have z3:g3.objs.size=h0.objs.size:=by rw [s3.1,s2.1,s1.1]
 have J4:(g3.push { cls:= .type "tuple",data:= .seq #[.int k tk,x] }).IsListIter i1 a (k+1):=by
  obtain ⟨o,e,r⟩:=(J1.extBut s2.extBut hzi.symm).extBut s3.extBut hzi.symm;exact ⟨o,aj _ e,r⟩
 have T4:(g3.push { cls:= .type "tuple",data:= .seq #[.int k tk,x] }).get? h0.objs.size=some { cls:= .type "tuple",data:= .seq #[.int k tk,x] }:=by rw [←z3];exact aA _ rfl
 have z4:(g3.push { cls:= .type "tuple",data:= .seq #[.int k tk,x] }).objs.size=h0.objs.size+1:=by rw [bX,z3]
 have k4:∀ c o,c≠z→c≠i1→h0.get? c=some o→(g3.push { cls:= .type "tuple",data:= .seq #[.int k tk,x] }).get? c=some o:=fun c o c1 c2 e=>aj _ (s3.extBut c o c1 (s2.extBut c o c1 (s1.extBut c o c2 e)))
 have zlt:z<h0.objs.size:=aE E0;generalize g3.push { cls:= .type "tuple",data:= .seq #[.int k tk,x] }=g4 at E4 J4 T4 z4 k4;rw [z3];show aL _ _ (cb (.ref z) >>= _) _ _ ⟨g4,gs,dr,tk+1,os⟩;refine ag ?_;unfold cb;refine ag (bC E4 rfl (x:= .none) rfl (ax ?_));simp only [if_true];refine ag (wpAny_rule ?_);refine ag (bC E4 rfl (x:=was) rfl ?_);refine ag (bK E4 (by simp) fun g5 E5 s5=>?_);have s5:bo z g4 g5:=s5;have E5:fZ g5 z i1 ((k:Int)+1) x:=E5;show aL _ _ (cH (.ref z) (.ref h0.objs.size) >>= _) _ _ ⟨g5,gs,dr,tk+1,os⟩;refine ag ?_;unfold cH;refine ag (bK E5 (by simp) fun g6 E6 s6=>?_);have s6:bo z g5 g6:=s6;have E6:IsEnumOut g6 z i1 ((k:Int)+1) x h0.objs.size:=E6;refine bK E6 (by simp) fun g7 E7 s7=>?_
 have s7:bo z g6 g7:=s7;have E7:IsEnumOut g7 z i1 ((k:Int)+1) x h0.objs.size:=E7;have up:∀ c o,c≠z→g4.get? c=some o→g7.get? c=some o:=fun c o c1 e=>s7.extBut c o c1 (s6.extBut c o c1 (s5.extBut c o c1 e))
 refine ag (wpAny_letGo (ax ⟨_,rfl,q g7 E7 ?_ (up _ _ (fq zlt) T4) (by rw [s7.1,s6.1,s5.1,z4]) fun c o c1 c2 e=>up c o c1 (k4 c o c1 c2 e)⟩));obtain ⟨o,e,r⟩:=J4;exact ⟨o,up _ o hzi.symm e,r⟩
theorem enumL_item {z:ak}{xs:Array af}{x:af}{Q:Option af→al→Prop}(E0:fZ s.heap z i1 k was)(J0:s.heap.IsListIter i1 a k)(T0:s.heap.IsList a xs)(hx:xs[k]? =some x)(hzi:z≠i1)
  (q:∀ g,IsEnumOut g z i1 ((k:Int)+1) x s.heap.objs.size→g.IsListIter i1 a (k+1)→g.get? s.heap.objs.size=some { cls:= .type "tuple",data:= .seq #[.int k s.toks,x] }→g.objs.size=s.heap.objs.size+1 →
   (∀ c o,c≠z→c≠i1→s.heap.get? c=some o→g.get? c=some o)→Q (some (.ref s.heap.objs.size)) { s with heap:=g,toks:=s.toks+1 }):aL (aZ prog w) A (pyNext (.ref z)) Q E s:=by
 have ht:s.TypeIs (.ref z) "enumerate" := ⟨_,E0,rfl⟩;unfold pyNext;refine ag (ig (cA (name:=aY "__next__") ht cU (dw cU ht gS ?_ (gJ _))));exact enumL_step E0 J0 T0 hx hzi fun g e1 e2 e3 e4 e5=>ax (q g e1 e2 e3 e4 e5)
theorem enumL_end {z:ak}{xs:Array af}{Q:Option af→al→Prop}(hh:A.handled=none)(E0:fZ s.heap z i1 k was)(J0:s.heap.IsListIter i1 a k)(T0:s.heap.IsList a xs)(hx:xs[k]? =none)
  (q:∀ g,bj.ExtBut i1 s.heap g→Q none { s with heap:=g }):aL (aZ prog w) A (pyNext (.ref z)) Q E s:=by
 have ht:s.TypeIs (.ref z) "enumerate" := ⟨_,E0,rfl⟩;unfold pyNext;refine ag (ig (cA (name:=aY "__next__") ht cU (dw cU ht gS ?_ (gJ _))));show aL _ _ (field (.ref z) 2 >>= _) _ _ _;refine ag (bC E0 rfl (x:= .ref i1) rfl ?_);refine ag (wpAny_nextOf_list_end hh J0 T0 hx fun g x kp hxx=>?_);obtain ⟨o,e1,e2⟩:=hxx;refine ag (wpAny_isInstance (T := "StopIteration") (b:=true) ⟨o,e1,e2⟩ isSubtype_stop ?_);exact ax (q _ kp)
end
section
open AutoSeq1 (wpAny_loadPart')
theorem enumL_new (a:ak)(xs:Array af) :
  Meets (dY.«enumerate.__new__» ⟨[.type "enumerate",.ref a],[]⟩) (fun _ R s=>s.heap.IsList a xs ∧
   R (.ok (.ret (.ref (s.heap.push { cls:= .type "list_iterator",data:= .fields #[.ref a,.int 0 0] }).objs.size)))
    {s with heap:=(s.heap.push { cls:= .type "list_iterator",data:= .fields #[.ref a,.int 0 0] }).push { cls:= .type "enumerate",data:= .fields #[.none,.bool false,.ref s.heap.objs.size,rawInt 0,.none,.none] } }) :=
 .of_wp fun prog w A R s h=>by
  obtain ⟨hp,g,d,tk,os⟩:=s;obtain ⟨h1,h⟩:=h;have subE:=sub_enumerate;have k1:bj.IsList (al.heap ⟨hp,g,d,tk,os⟩) a xs:=h1
  wp_walk using eU k1
  refine wpAny_stack_any fun st=>ax ?_
  split
  ·rename_i c _ _ _ _ _
   cases (c == af.type "enumerate")
   ·wp_walk using eU k1
    exact ⟨_,rfl,h⟩
   ·wp_walk using eU k1
    exact ⟨_,rfl,h⟩
  ·wp_walk using eU k1
   exact ⟨_,rfl,h⟩
theorem call_enumL {w:aV}{xs:Array af}(h1:s.heap.IsList a xs)
  (q:∀ g,fZ g (s.heap.objs.size+1) s.heap.objs.size 0 .none→g.IsListIter s.heap.objs.size a 0→g.objs.size=s.heap.objs.size+2→(∀ c o,s.heap.get? c=some o→g.get? c=some o)→Q (.ref (s.heap.objs.size+1)) { s with heap:=g }) :
  aL (aZ prog w) A (call (.type "enumerate") [.ref a]) Q E s:=by
 refine callType_new F.called_enumerate (by decide) (F.typeCall_enumerate_1 _) (F.newCall_enumerate_1 _) (fun obj=>F.args_object_init_2 obj _) F.entry_enumerate_new (enumL_new a xs) ⟨h1,?_⟩;have e1:(s.heap.push { cls:= .type "list_iterator",data:= .fields #[.ref a,.int 0 0] }).objs.size=s.heap.objs.size+1:=bX ..;have f2:=aA (s.heap.push { cls:= .type "list_iterator",data:= .fields #[.ref a,.int 0 0] }) (o:={ cls:= .type "enumerate",data:= .fields #[.none,.bool false,.ref s.heap.objs.size,rawInt 0,.none,.none] }) rfl;show _∧_;rw [e1] at f2 ⊢;exact ⟨⟨_,f2,rfl⟩,q _ f2 ⟨_,aj _ (aA _ rfl),rfl,rfl⟩ (by rw [bX,e1]) fun c o x=>aj _ (aj _ x)⟩
end
def ItL (a:ak):It :=
 ⟨fun i H=>∃ xs x,H a=some (.lst xs)∧xs[i]? =some x,
  fun i H v H'=>∃ p x,H p=none∧v= .ref p∧H'=upd H p (.tup [.int (i:Nat),x])∧∀ xs,H a=some (.lst xs)→xs[i]? =some x,
  fun i H=>∃ xs,H a=some (.lst xs)∧xs.length≤i⟩
theorem turn_enumL {w:aV}{k0}{z:ak}(a:ak)(hzi:z≠i1) :
  Turn P w K (.Tuple es k0 pos) (ItL a) [z,i1] z (fun i h=>(∃ was,fZ h z i1 i was)∧h.IsListIter i1 a i) where
 mem:=by simp
 obj:=fun i h st c hc=>by
  obtain ⟨⟨was,e1⟩,⟨o2,e2,_,d2⟩⟩:=st;simp only [aq,aI,or_false] at hc
  rcases hc with rfl | rfl
  ·exact ⟨_,e1,fun v z=>by cases z⟩
  ·exact ⟨_,e2,fun v z=>by rw [d2] at z;cases z⟩
 keep:=fun i h h' st k=>by
  obtain ⟨⟨was,e1⟩,⟨o2,e2,r2⟩⟩:=st;exact ⟨⟨was,k z (by simp) _ e1⟩,⟨o2,k i1 (by simp) _ e2,r2⟩⟩
 item:=by
  intro X hP hw hK hc i az s σ H E I hf st hg;subst hP hw hK;obtain ⟨xs,x,ha,hx⟩:=hg;obtain ⟨⟨was,e1⟩,j1⟩:=st;obtain ⟨its,rv,pt,_⟩:=I.list (SqL.of (K:=X.K) ha);obtain ⟨u,hu,ru⟩:=rv.get hx;have nz:∀ e∈[z,i1],H e=none:=fun e he=>(hf e he).1
  have hT:H s.heap.objs.size=none:=I.fresh;refine enumL_item e1 j1 (pt.isList) (x:=u) (by simpa using hu) hzi fun g z1 m1 tp sz kk=>⟨_,rfl,?_⟩
  refine wpAny_letOwnedTupleGo_enum z1 fun g2 z2 s2=>?_
  have s2:bo z g g2:=s2;have k2:∀ e o,e ∉ [z,i1]→s.heap.get? e=some o→g2.get? e=some o:=fun e o hn h=>by
   simp only [aq,aI,or_false,not_or] at hn;exact s2.extBut _ _ hn.1 (kk e o hn.1 hn.2 h)
  have zlt:z<s.heap.objs.size:=aE e1;have tp2:g2.get? s.heap.objs.size=some { cls:= .type "tuple",data:= .seq #[.int i s.toks,u] }:=s2.extBut _ _ (fq zlt) tp;have trk:∀ e o,H e=some o→e ∉ [z,i1]:=fun e o he hm=>by rw [nz e hm] at he;cases he
  have I':=I.tok (s.toks+1);have J:Inv X az σ (upd H s.heap.objs.size (.tup [.int (i:Nat),x])) { s with heap:=g2,toks:=s.toks+1 }:=by
   refine I'.turnAll (ch:=[z,i1]) (fun e he=>hf e he) k2 (fun e o h=>by rw [aR (aJ h hT)];exact h) (fun e o h n=>by rw [aR (bu (aE h))];exact n) fun e o h=>?_
   by_cases q:e=s.heap.objs.size
   ·subst q
    rw [aK] at h;cases h;exact ⟨by show 2≤ar;decide,[.int i s.toks,u],.cons ⟨_,rfl⟩ (.cons ru .nil),_,tp2,rfl,rfl,_,rfl⟩
   ·rw [aR q] at h
    refine (I.hok e o h).stay (fun c v hc' q'=>k2 c v (by
     rcases hc' with z' | z'
     ·rw [z'];exact trk e o h
     ·exact trk c _ z') q') (fun c q'=>by rw [aR (aJ q' hT)];exact q') fun c xs q'=>by rw [aR (aJ q' hT)];exact q'
  refine ⟨.ref s.heap.objs.size,_,J,rfl,⟨_,x,hT,rfl,rfl,fun xs' h'=>by rw [ha] at h';cases h';exact hx⟩,⟨⟨u,z2⟩,m1.extBut s2.extBut hzi.symm⟩,fun e he=>?_⟩;obtain ⟨o4,q4,_⟩:=j1;have hlt:e<s.heap.objs.size:=by
   simp only [aq,aI,or_false] at he
   rcases he with rfl | rfl
   ·exact aE e1
   ·exact aE q4
  rw [aR (bu hlt)];exact nz e he
 done:=by
  intro X hP hw hK hc i az s σ H E I hf st hg;subst hP hw hK;obtain ⟨xs,ha,hx⟩:=hg;obtain ⟨⟨was,e1⟩,j1⟩:=st;obtain ⟨its,rv,pt,_⟩:=I.list (SqL.of (K:=X.K) ha);obtain ⟨f0,f1,f2,f3,f4,f5⟩:=hf i1 (by simp);have hl:=rv.length;exact enumL_end (I.ok.hd hc) e1 j1 (pt.isList) (by simp;lia) fun g kp=>⟨rfl,I.turned (t':=s.toks) (fun b o hb e=>kp b o hb e) f0 f1 f3 f4 f5⟩
 self:=fun _ _ _ _ _ st h=>let ⟨⟨_,e1⟩,_⟩:=st;wpAny_pyIter_enum e1 h
def iEnumL (ta:TA):TI:=fun σ H R=>ta σ H fun vs H1=>∃ a xs,vs=[.ref a]∧H1 a=some (.lst xs)∧R (ItL a) H1
theorem pi_enumL {ta:TA}{p:Pos}{k0}{pt:Pos}(hg:Gl X "enumerate")(hm:X.mg "enumerate" =none)(ha:PA X [ea] ta)(hs:aU [ea] X.env=[(false,cN ea X.env)]:=by rfl) :
  PI X (.Tuple es k0 pt) (.Call (.Name "enumerate" p) [ea] [] pos) (iEnumL ta):=by
 intro az s σ H R I h;refine Call_ (jP I hg hm boot_enumerate (cE (thn (ha pos az s σ H _ I h) fun us s1 ⟨vs,H1,I1,r1,q1⟩=>?_) hs rfl));obtain ⟨a,xs,e,hA,q⟩:=q1;subst e;obtain ⟨u1,rfl,r2⟩:=jA r1;cases (show u1=af.ref a from r2);obtain ⟨its,rv,pt',_⟩:=I1.list (SqL.of (K:=X.K) hA);refine call_enumL (pt'.isList) fun g z1 j1 sz kk=>?_
 refine wpAny_pyIter_enum z1 ⟨s1.heap.objs.size+1,[s1.heap.objs.size+1,s1.heap.objs.size],_,ItL a,H1,rfl,I1.kept (t':=s1.toks) kk,turn_enumL a (by show @Ne Nat _ _;lia),⟨⟨_,z1⟩,j1⟩,fun e he=>?_,q⟩;have hge:s1.heap.objs.size≤e:=by
  simp only [aq,aI,or_false] at he
  rcases he with rfl | rfl <;> (show @LE.le Nat _ _ _;lia)
 exact I1.fpOk hge (I1.hok.fresh hge)
theorem for_enumL (Pv:Nat→St→Hp→Prop)(h0:Pv 0 σ H)(hl:∀ i σ H,i≤xs.length→Pv i σ H→H a=some (.lst xs))
  (hs:∀ i x p σ H,xs[i]? =some x→Pv i σ H→H p=none→g (.ref p) σ (upd H p (.tup [.int (i:Nat),x])) fun σ2 H2=>tb { D with nx:=Pv (i+1),ct:=Pv (i+1),bk:=D.nx } σ2 H2) (hd:∀ σ H,Pv xs.length σ H→D.nx σ H) :
  ∃ W:Nat→Nat→St→Hp→Prop,(∃ m,W 0 m σ H)∧∀ i m σ H,W i m σ H →
   ((ItL a).stop i H∧D.nx σ H)∨((ItL a).go i H∧∃ N:St→Hp→Prop,(∀ σ' H',N σ' H'→∃ m',m'<m∧W (i+1) m' σ' H')∧∀ x H',(ItL a).yld i H x H'→g x σ H' fun σ2 H2=>tb { D with nx:=N,ct:=N,bk:=D.nx } σ2 H2):=by
 refine ⟨fun i m σ H=>i≤xs.length∧m=xs.length - i∧Pv i σ H,⟨_,cK _,rfl,h0⟩,fun i m σ H ⟨hi,hm,hp⟩=>?_⟩;have qa:=hl i σ H hi hp
 by_cases e:i=xs.length
 ·subst e
  exact .inl ⟨⟨xs,qa,aH _⟩,hd σ H hp⟩
 ·have hlt:i<xs.length:=cW hi e
  refine .inr ⟨⟨xs,_,qa,gE hlt⟩,Pv (i+1),fun σ' H' hp'=>⟨xs.length - (i+1),by lia,by lia,rfl,hp'⟩,fun v H3 hy=>?_⟩;obtain ⟨p,x,hn,rfl,rfl,hx⟩:=hy;exact hs i x p σ H (hx xs qa) hp hn
end L2
namespace HN
open PySem L2 PyProof.Rows HT2
abbrev sTakeS:b8:=clsOf cPla 6
def Ln.stay (x:Ln)(z:Str)(v:Int×Int×Int):Ln:={ x with st:=x.st++[(z,v)] }
def ju (n z:Str)(v:Int×Int×Int)(x:Ln):Ln:=if x.n=n then x.stay z v else x
def stayX (n z:Str)(v:Int×Int×Int)(x:LX):LX:=(ju n z v x.1,x.2)
theorem stayAt_n (n z:Str)(v:Int×Int×Int)(x:Ln):(ju n z v x).n=x.n:=by unfold ju;split <;> rfl
theorem stayAt_rs (n z:Str)(v:Int×Int×Int)(x:Ln):(ju n z v x).rs=x.rs:=by unfold ju;split <;> rfl
theorem sty_snoc {st:List (Str×Int×Int×Int)}{v:Int×Int×Int}(h:z ∉ st.map (·.1))(y:Str):sty (st++[(z,v)]) y=if y=z then v else sty st y:=by
 unfold sty;rw [List.find?_append]
 by_cases e:y=z
 ·subst e
  rw [lJ rfl];have:st.find? (fun p=>decide (p.1=y))=none:=by
   rw [List.find?_eq_none];intro p hp;have:p.1≠y:=fun z=>h (bc.mpr ⟨p,hp,z⟩)
   simp [this]
  rw [this];simp
 ·rw [lI e]
  have:[(z,v)].find? (fun p=>decide (p.1=y))=none:=by simp [cf e]
  rw [this];simp
theorem linK_stay (n z:Str)(v:Int×Int×Int)(zs:List LX):ic (zs.map (stayX n z v))=ic zs:=by
 unfold ic;rw [bZ];refine dJ fun x _=>?_
 show (Sum.inr (ju n z v x.1).n,V.ref x.2.1)=_;rw [stayAt_n]
theorem hapN_stay (n z:Str)(v:Int×Int×Int)(zs:List LX):jZ (zs.map (stayX n z v))=jZ zs:=by
 unfold jZ;rw [bZ];congr 1;refine dJ fun x _=>?_
 show 2 * (((ju n z v x.1).rs.length:Nat):Int)=_;rw [stayAt_rs]
inductive spTakeS (CP CL:ak)(vs:List V)(H:Hp)(Q:VK)(_:XK):Prop
 | mk (H0:Hp)(p q DL LB:ak)(b:Int)(zs:List LX)(bt:List Sn)(x:LX)(z:Str)(l o w:Int)(i:Nat)(_:vs=[.ref p,.ref q])(_:PlI CP CL H0 H p b zs bt DL LB)(_:Few zs bt)(_:H q=some (.tup [.str "stay",.str x.1.n,.str z,.int l,.int o,.int w]))(_:x∈zs)(_:z ∉ x.1.st.map (·.1))(_:x.1.st.length≤1000)(_:x.1.ss[i]? =some z)(_:1≤i)(_:i+1<x.1.ss.length)(_:∀ H',PlI CP CL H0 H' p b (zs.map (stayX x.1.n z (l,o,w))) bt DL LB→Q (.bl (snB b (jZ zs) ⟨x.1.fi+2 * i - 1,x.1.fi+2 * i,l,o,w⟩)) H')
section
variable {w:aV}
theorem scTakeS:bE ["self","row","line","stop"] pzb (defScope sTakeS):=by trivial
theorem ok_takeS {fh fs fc fg fr:ak}{ds:aO}(F:Fun K "take_stay" "Plan.take_stay" sTakeS f fd)(PK:PlaK P w K mg base CP CL fh fs dh ds)(LK:LinK P w K mg base CL fc fg fr dc dg dr)(GS:Fn K mg "is_span" sSpan pzk f1 d1)(FS:cI P w K mg base CX0 4 f1 d1 pzk spSpan):cI P w K mg base CX0 5 f fd pzb (spTakeS CP CL):=by
 refine F.ok scTakeS (by contradiction) (fun cdv A outer s H vs Q E hr h=>?_);obtain ⟨H0,p,q,DL,LB,b,zs,bt,x,z,l,o,w,i,rfl,I,fw,hq,hx,hz,lst,e1,e2,e3,k⟩:=h;have u1:=iM (iu (show 1≤64 by decide) _) hr.units;have CC:=PK.cc;have LC:=LK.cc;have big:(100000:Nat)≤ar:=by decide
 refine ⟨_,PSl.h (bf ⟨(psZ 2 scTakeS.nd (pe_dget1 u1 (dk (pv 0) rfl) (ixZ (pv 1)) ⟨rfl,rfl,rfl,rfl⟩))⟩ (bf ⟨(psZ 3 scTakeS.nd (ixZ (pv 1)))⟩
  (bf ⟨(fQ (PW.pt (kh (cD op_isN (pv 2) jy (cP _)) (jv (pt_cmp (pc_din u1 (pv 3) (dk (pv 2) rfl)) rfl)))) (bp (bI ki)) cM)⟩
  (bf ⟨(ps_dput u1 (dk (pv 2) rfl) (pv 3) (gc jB (pv 1) (gH aT) hE) rfl)⟩
  (fR ⟨(bI (pc1 GS FS hr (ah (dk (pv 0) rfl) (ah (gd (pv 0) CC.cl PK.m1 PK.f1 (hr.mono (by decide)) PK.b1 .nil fz) (ah (cn op_catA (gq (ah (eV (pv 2) LC.cl LK.m1 LK.f1 (hr.mono (by decide)) LK.b1 .nil fz (ah (pv 3) aw)) (ah (eV (pv 2) LC.cl LK.m2 LK.f2 (hr.mono (by decide)) LK.b2 .nil fz (ah (pv 3) aw)) aw))) (gc jB (pv 1) (gH aT) hE)) aw)))))⟩))))),?_⟩
 obtain ⟨dp,hp⟩:=I.pl;have dl:=I.dl;have cut3:cutV [V.str "stay",.str x.1.n,.str z,.int l,.int o,.int w] (some 3) none=[.int l,.int o,.int w]:=rfl;refine ⟨_,rfl,p,CP,dp,_,_,rfl,hp,CC.cl,CC.n2,rfl,DL,rfl,.inl ⟨_,.inl dl⟩,_,rfl,q,_,_,_,rfl,rfl,SqT.of hq,aC (j:=1) rfl,_,.inl ⟨_,.inr x.1.n,.inl dl,rfl,rfl⟩,?_⟩;rw [kz I.nn hx];refine ⟨_,rfl,q,_,_,_,rfl,rfl,SqT.of hq,aC (j:=2) rfl,?_⟩;have A:=I.ln x hx;obtain ⟨dx,a,bb,hX,ha,hb⟩:=id A.d;obtain ⟨kvs,hD,lk,hst⟩:=id A.s.ex;have hno:jT kvs (.inr z)=none:=by
  cases e:jT kvs (.inr z) with
  | none=>rfl
  | some v=>exact lK ((hst z).2.2 (by rw [e];rfl)) hz
 refine ⟨_,rfl,rfl,_,rfl,jz (lM nofun) ?_⟩;refine ⟨_,rfl,_,rfl,x.2.1,CL,dx,_,_,rfl,hX,LC.cl,LC.n4,rfl,x.2.2,_,rfl,.inl ⟨kvs,.inr z,.inl hD,rfl,rfl⟩,_,rfl,jz (by rw [hno];rfl) ?_⟩;refine ⟨_,rfl,_,rfl,q,_,rfl,SqT.of hq,(by intro y;exact lK y.1 (show ¬ (3:Nat)=0 by decide)),fun t1 H1 S1 h1=>?_⟩;rw [cut3] at h1;have I1:=I.same S1;refine ⟨_,rfl,x.2.1,CL,dx,_,_,rfl,S1 _ _ hX,LC.cl,LC.n4,rfl,_,rfl,x.2.2,_,rfl,.inl ⟨kvs,.inr z,S1 _ _ hD,rfl,by lia,rfl⟩,?_⟩;rw [putK_new hno];have k2:∀ c u,c≠x.2.2→H1 c=some u→(upd H1 x.2.2 (.dK (kvs++[(.inr z,.ref t1)]))) c=some u:=fun c u hc e=>by rw [aR hc];exact e
 have h2:(upd H1 x.2.2 (.dK (kvs++[(.inr z,.ref t1)]))) x.2.2=some (.dK (kvs++[(.inr z,.ref t1)])):=aK;generalize upd H1 x.2.2 (.dK (kvs++[(.inr z,.ref t1)]))=H2 at k2 h2 ⊢;have hD1:=S1 _ _ hD;have kT:∀ c xs,H1 c=some (.tup xs)→H2 c=some (.tup xs):=fun c xs e=>k2 _ _ (cV e hD1 nofun) e
 have kI:∀ c C dx fs,H1 c=some (.ins C dx fs)→H2 c=some (.ins C dx fs):=fun c C dx fs e=>k2 _ _ (cV e hD1 nofun) e
 have nDL:DL≠x.2.2:=fun e=>(aX.mp I.nd).1 (by rw [e];exact bc.mpr ⟨x,hx,rfl⟩)
 have S2:StA H2 x.2.2 (x.1.st++[(z,l,o,w)]):=by
  refine ⟨_,h2,by rw [av,av,lk];rfl,fun y=>?_⟩;have ev:jT (kvs++[(.inr z,.ref t1)]) (.inr y)=(jT kvs (.inr y)).or (if y=z then some (.ref t1) else none):=by
   unfold jT;rw [List.find?_append]
   by_cases e:y=z
   ·subst e
    rw [lJ rfl];have:[((Sum.inr y:Key),V.ref t1)].find? (fun kv=>decide (kv.1=Sum.inr y))=some (.inr y,.ref t1):=by simp
    rw [this];cases (kvs.find? fun kv=>decide (kv.1=Sum.inr y)) <;> rfl
   ·rw [lI e]
    have:[((Sum.inr z:Key),V.ref t1)].find? (fun kv=>decide (kv.1=Sum.inr y))=none:=by simp [cf e]
    rw [this];cases (kvs.find? fun kv=>decide (kv.1=Sum.inr y)) <;> rfl
  rw [ev,sty_snoc hz]
  by_cases e:y=z
  ·subst e
   rw [hno,lJ rfl,lJ rfl];refine ⟨fun v hv=>⟨t1,(by cases hv;rfl),kT _ _ h1⟩,(fun h=>by cases h),(fun _=>by simp)⟩
  ·rw [lI e,lI e,Option.or_none]
   obtain ⟨g1,g2,g3⟩:=hst y;refine ⟨fun v hv=>?_,fun h=>⟨(g2 h).1,fun m=>?_⟩,fun h=>?_⟩
   ·obtain ⟨a,q1,q2⟩:=g1 v hv
    exact ⟨a,q1,kT _ _ (S1 _ _ q2)⟩
   ·rw [au] at m
    rcases cx.mp m with m | m
    ·exact (g2 h).2 m
    ·exact e (br.mp m)
   ·rw [au]
    exact List.mem_append_left _ (g3 h)
 have nm:∀ y∈zs,y.1.n=x.1.n→y=x:=fun y hy e=>by
  obtain ⟨i1,h1⟩:=cZ hy;obtain ⟨i2,h2⟩:=cZ hx;have l1:=(ao.mp h1);have l2:=(ao.mp h2);obtain ⟨a1,b1⟩:=l1;obtain ⟨a2,b2⟩:=l2;have:i1=i2:=by
   have nn:=dm.mp I.nn
   rcases gQ i1 i2 with q | q | q
   ·exact lK (by rw [cY,cY,b1,b2];exact e) (nn i1 i2 (by rw [ae];exact a1) (by rw [ae];exact a2) q)
   ·exact q
   ·exact lK (by rw [cY,cY,b1,b2];exact e.symm) (nn i2 i1 (by rw [ae];exact a2) (by rw [ae];exact a1) q)
  subst this;rw [←b1,←b2]
 have I2:PlI CP CL H0 H2 p b (zs.map (stayX x.1.n z (l,o,w))) bt DL LB:=by
  obtain ⟨ys,hB,dB⟩:=I1.lb;obtain ⟨dp1,hp1⟩:=I1.pl;have nD0:=I.nD x hx;refine ⟨fun c u e=>k2 _ _ (aJ e nD0) (I1.S _ _ e),⟨dp1,kI _ _ _ _ hp1⟩,I.nL,I.nB,fun y hy=>?_,?_,fun y hy=>?_,?_,?_,ys,k2 _ _ (cV hB hD1 nofun) hB,?_⟩
  ·obtain ⟨y',hy',rfl⟩:=bc.mp hy
   exact I.nD y' hy'
  ·rw [linK_stay];exact k2 _ _ nDL I1.dl
  ·obtain ⟨y',hy',rfl⟩:=bc.mp hy
   have A':=I1.ln y' hy';show LnA H2 CL y'.2.1 y'.2.2 (ju x.1.n z (l,o,w) y'.1);unfold ju;split
   ·rename_i e
    obtain rfl:=nm y' hy' e;obtain ⟨dx',a',b',g1,g2,g3⟩:=A'.d;exact ⟨⟨dx',a',b',kI _ _ _ _ g1,kT _ _ g2,kT _ _ g3⟩,S2,A'.nd,A'.two,A'.few,A'.rl⟩
   ·rename_i e
    obtain ⟨kv',d1,_⟩:=A'.s.ex;have ny:y'.2.2≠x.2.2:=fun z=>by
     have nn:=(aX.mp I.nd).2;obtain ⟨i1,h1⟩:=cZ hy';obtain ⟨i2,h2⟩:=cZ hx;obtain ⟨a1,b1⟩:=(ao.mp h1);obtain ⟨a2,b2⟩:=(ao.mp h2);have nn:=dm.mp nn
     rcases gQ i1 i2 with q | q | q
     ·exact lK (by rw [cY,cY,b1,b2];exact z) (nn i1 i2 (by rw [ae];exact a1) (by rw [ae];exact a2) q)
     ·subst q
      exact e (by rw [←b1,←b2])
     ·exact lK (by rw [cY,cY,b1,b2];exact z.symm) (nn i2 i1 (by rw [ae];exact a2) (by rw [ae];exact a1) q)
    exact A'.kept kT kI ((k2 _ _ ny d1).trans d1.symm)
  ·rw [bZ]
   exact I.nd
  ·rw [bZ]
   have:(fun y:LX=>(stayX x.1.n z (l,o,w) y).1.n)=fun y:LX=>y.1.n:=funext fun y=>stayAt_n _ _ _ _
   rw [show ((fun y:LX=>y.1.n) ∘ stayX x.1.n z (l,o,w))=fun y:LX=>y.1.n from this];exact I.nn
  ·have fin:∀ {vs:List V} {sp:List Sn},fI H1 vs (sp.map snD)→fI H2 vs (sp.map snD):=by
    intro vs sp
    induction sp generalizing vs with
    | nil=>intro h;cases h;exact .nil
    | cons x sp ih =>
     intro h;cases h with
     | cons h r =>
      obtain ⟨a,us,rfl,ha,rz⟩:=h.tup_of;have ez:=fI.ints_of rz;subst ez;exact .cons (.tup (kT _ _ ha) (fI.ints _)) (ih r)
   exact fin dB
 obtain ⟨dp2,hp2⟩:=I2.pl;have fw2:Few (zs.map (stayX x.1.n z (l,o,w))) bt:=⟨by rw [ae];exact fw.a,fw.b⟩;refine ⟨_,rfl,p,CP,dp2,_,_,rfl,hp2,CC.cl,CC.n1,rfl,_,rfl,p,dp2,_,rfl,hp2,rfl,H0,p,DL,LB,b,_,bt,rfl,I2,fw2,fun H3 S3=>?_⟩;rw [hapN_stay];have L3:LinD H3 CL x.2.1 x.1.n x.1.ss x.1.rs x.2.2 x.1.fi:=⟨dx,a,bb,S3 _ _ (kI _ _ _ _ (S1 _ _ hX)),S3 _ _ (kT _ _ (S1 _ _ ha)),S3 _ _ (kT _ _ (S1 _ _ hb))⟩;obtain ⟨dx3,a3,b3,g3,gA,gB⟩:=id L3;refine ⟨_,rfl,x.2.1,dx3,_,rfl,g3,rfl,_,rfl,x.2.1,x.2.2,x.1.n,z,x.1.ss,x.1.rs,x.1.fi,rfl,L3,A.few,A.two,A.nd,fun H4 S4=>⟨fun i' c1 c2=>?_,fun no=>lK (no i e1) (by lia)⟩⟩;obtain rfl:=(iI A.nd e1 c1).symm;have L4:LinD H4 CL x.2.1 x.1.n x.1.ss x.1.rs x.2.2 x.1.fi:=⟨dx3,a3,b3,S4 _ _ g3,S4 _ _ gA,S4 _ _ gB⟩;refine ⟨_,rfl,x.2.1,dx3,_,rfl,S4 _ _ g3,rfl,_,rfl,x.2.1,x.2.2,x.1.n,z,x.1.ss,x.1.rs,x.1.fi,rfl,L4,A.few,A.two,A.nd,fun H5 S5=>⟨fun i' c1 c2=>?_,fun no=>lK (no i e1) (by lia)⟩⟩;obtain rfl:=(iI A.nd e1 c1).symm;refine ⟨szZ2,fun t6 H6 S6 h6=>?_⟩;have S36:=S4.trans (S5.trans S6);have hq6:H6 q=some (.tup [.str "stay",.str x.1.n,.str z,.int l,.int o,.int w]):=S36 _ _ (S3 _ _ (kT _ _ (S1 _ _ hq)));refine ⟨_,rfl,_,rfl,q,_,rfl,SqT.of hq6,(by intro y;exact lK y.1 (show ¬ (3:Nat)=0 by decide)),fun t7 H7 S7 h7=>?_⟩;rw [cut3] at h7;refine ⟨t6,t7,_,_,rfl,rfl,S7 _ _ h6,h7,(by show 2+3≤ar;decide),fun t8 H8 S8 h8=>?_⟩;have h8:H8 t8=some (.tup [.int (x.1.fi+2 * i - 1),.int (x.1.fi+2 * i),.int l,.int o,.int w]):=h8;refine ⟨b,jZ zs,_,rfl,sn_g1 (x:=⟨_,_,_,_,_⟩) h8,?_⟩;rw [sn_at (x:=⟨x.1.fi+2 * i - 1,x.1.fi+2 * i,l,o,w⟩) h8];exact k H8 (I2.same (S3.trans (S36.trans (S7.trans S8))))
end
abbrev sPlanBy:b8:=top 35
abbrev sNetBy:b8:=top 36
def hapL (ls:List Ln):Int:=(ls.map fun l=>2 * (l.rs.length:Int)).sum
def k7 (ls:List Ln)(bt:List Sn):List Sn:=ls.flatMap ownS++bt
def allLL (ls:List Ln):List (List V):=ls.flatMap fun l=>labs l.n l.ss
def smallL (ls:List Ln)(bt:List Sn):Bool:=decide (hapL ls≤16) && decide ((k7 ls bt).length≤40)
theorem j3 (zs:List LX):jZ zs=hapL (zs.map (·.1)):=by unfold jZ hapL;rw [bZ];rfl
theorem allSL_of (zs:List LX)(bt:List Sn):allS zs bt=k7 (zs.map (·.1)) bt:=by unfold allS k7;rw [List.flatMap_map]
theorem allLL_of (zs:List LX):allL zs=allLL (zs.map (·.1)):=by unfold allL allLL;rw [List.flatMap_map]
theorem smallL_of (zs:List LX)(bt:List Sn):i8 zs bt=smallL (zs.map (·.1)) bt:=by unfold i8 smallL;rw [j3,allSL_of]
inductive Tk (b:Int):List Ln→List Sn→PR→List Ln→List Sn→Prop
 | beat {ls:List Ln} {bt:List Sn} {b':Int} (h:1≤b'):Tk b ls bt (.beat b') ls bt
 | line {ls:List Ln} {bt:List Sn} {n:Str} {ss:List Str} {rs:List Int} (hn:n ∉ ls.map (·.n)) (nd:ss.Nodup) (two:2≤ss.length) (few:ss.length≤1000) (rl:ss.length=rs.length+1) (sm:smallL (ls++[⟨n,ss,rs,[],hapL ls⟩]) bt=true):Tk b ls bt (.line n ss rs) (ls++[⟨n,ss,rs,[],hapL ls⟩]) bt
 | btw {ls:List Ln} {bt:List Sn} {k:Str} {ns:List Str} {is:List Int} {sn:Sn} (B:Btw b ls k ns is sn) (h1:k ≠ "beat") (h2:k ≠ "line") (h3:k ≠ "stay") (ok:snB b (hapL ls) sn=true) (sm:smallL ls (bt++[sn])=true):Tk b ls bt (.oth k ns is) ls (bt++[sn])
 | stay {ls:List Ln} {bt:List Sn} {x:Ln} {z:Str} {l o w:Int} {i:Nat} (hx:x∈ls) (hz:z ∉ x.st.map (·.1)) (few:x.st.length≤1000) (h1:x.ss[i]? =some z) (h2:1≤i) (h3:i+1<x.ss.length) (ok:snB b (hapL ls) ⟨x.fi+2 * i - 1,x.fi+2 * i,l,o,w⟩=true):Tk b ls bt (.oth "stay" [x.n,z] [l,o,w]) (ls.map (ju x.n z (l,o,w))) bt
inductive Runs (b:Int):List Ln→List Sn→List PR→List Ln→List Sn→Prop
 | nil {ls:List Ln} {bt:List Sn}:Runs b ls bt [] ls bt
 | cons {ls l1 l2:List Ln} {bt b1 b2:List Sn} {r:PR} {rs:List PR} (h:Tk b ls bt r l1 b1) (t:Runs b l1 b1 rs l2 b2):Runs b ls bt (r::rs) l2 b2
inductive spTakeP (CP CL:ak)(vs:List V)(H:Hp)(Q:VK)(_:XK):Prop
 | mk (H0:Hp)(p q DL LB:ak)(b:Int)(zs:List LX)(bt bt':List Sn)(ls':List Ln)(r:PR)(_:vs=[.ref p,.ref q])(_:PlI CP CL H0 H p b zs bt DL LB)(_:zs.length≤90)(_:bt.length≤90)(_:r.at H q)(_:Tk b (zs.map (·.1)) bt r ls' bt')(_:∀ zs' H',zs'.map (·.1)=ls'→zs'.length≤zs.length+1→bt'.length≤bt.length+1→PlI CP CL H0 H' p b zs' bt' DL LB→Q (.bl true) H')
inductive spPlanBy (CP CL:ak)(vs:List V)(H:Hp)(Q:VK)(_:XK):Prop
 | mk (L:ak)(xs:List V)(b:Int)(rs:List PR)(ls:List Ln)(bt:List Sn)(_:vs=[.ref L])(_:H L=some (.lst xs))(_:RsAt H xs (.beat b::rs))(_:rs.length≤80)(_:Runs b [] [] (.beat b::rs) ls bt)(_:ls≠[])(_:∀ p zs DL LB H',zs.map (·.1)=ls→zs.length≤90→bt.length≤90→PlI CP CL H H' p b zs bt DL LB→Q (.ref p) H')
structure PlaT (P:aB)(w:aV)(K:ai)(mg:Str→Option af)(base:bj)(CP CL fi ft fa fl:ak)(di dt da dl:aO):Prop where
 mke:Mk K CP fi
 gl:mg "Plan" =some (.ref CP)
 f0:cI P w K mg base CX0 1 fi di pzp (spInitP CP)
 b0:Binds K di pzp []
 mT:lG K CP "take" ft
 fT:cI P w K mg base CX0 6 ft dt pzb (spTakeP CP CL)
 bT:Binds K dt pzb []
 mA:lG K CP "all_spans" fa
 fA:cI P w K mg base CX0 3 fa da pza (spAllS CP CL)
 bA:Binds K da pza []
 mL:lG K CP "all_labels" fl
 fL:cI P w K mg base CX0 2 fl dl pza (spAllL CP CL)
 bL:Binds K dl pza []
def vD:V→Dt
 | .str s=> .str s
 | _=> .non
theorem labs_strs (n:Str):∀ (ss:List Str),∀ t∈labs n ss,∃ a b c:Str,t=[.str a,.str b,.str c]
 | [],t,h=>by cases h
 | [_],t,h=>by cases h
 | s::u::r,t,h=>by
  rcases aq.mp h with e | h
  ·exact ⟨_,_,_,e⟩
  ·rcases aq.mp h with e | h
   ·exact ⟨_,_,_,e⟩
   ·exact labs_strs n (u::r) t h
theorem labs_isD {H:Hp}:∀ {as:List ak} {ts:List (List V)},as.map H=ts.map (fun t=>some (HO.tup t))→(∀ t∈ts,∃ a b c:Str,t=[.str a,.str b,.str c])→fI H (as.map V.ref) (ts.map fun t=> .tup (t.map vD))
 | [],[],_,_=> .nil
 | [],_::_,h,_=>by cases h
 | _::_,[],h,_=>by cases h
 | a::as,t::ts,h,q=>by
  rw [bJ,bJ] at h;injection h with h1 h2
  obtain ⟨x,y,z,rfl⟩:=q t bW;exact .cons (.tup h1 (.cons (.str _) (.cons (.str _) (.cons (.str _) .nil)))) (labs_isD h2 fun t ht=>q t (aS _ ht))
inductive spNetBy (vs:List V)(H:Hp)(Q:VK)(_:XK):Prop
 | mk (z z0:Str)(b:Int)(zr:List (Str×PR))(ls:List Ln)(bt:List Sn)(_:vs=[.str z])(_:z.length≤100000)(_:ck z nl_=z0::zr.map (·.1))(_:zr.length≤80)(_:z0.length≤100000)(_:ck z0 sp_=[("beat" :Str),ik b])(_:W60 b)(_:(∀ q∈zr,q.1.length≤100000∧q.2.wds (ck q.1 sp_)))(_:Runs b [] [] (.beat b::zr.map (·.2)) ls bt)(_:ls≠[])(_:∀ v H',bO H H'→IsD H' v (.tup [netP b (hapL ls) (k7 ls bt),.tup ((allLL ls).map fun t=> .tup (t.map vD))])→Q v H')
section
variable {w:aV}
theorem scTakeP:bE pzb pzb (defScope sTakeP):=by trivial
theorem ok_takeP {f3:ak}{d3:aO}(F:Fun K "take" "Plan.take" sTakeP f fd)(CC:PlaC K CP)(m1:lG K CP "take_line" f1)(F1:cI P w K mg base CX0 5 f1 d1 pzb (spTakeL CP CL))(b1:Binds K d1 pzb [])
  (m2:lG K CP "take_between" f2) (F2:cI P w K mg base CX0 5 f2 d2 pzb (spTakeB CP CL)) (b2:Binds K d2 pzb []) (m3:lG K CP "take_stay" f3) (F3:cI P w K mg base CX0 5 f3 d3 pzb (spTakeS CP CL)) (b3:Binds K d3 pzb []):cI P w K mg base CX0 6 f fd pzb (spTakeP CP CL):=by
 refine F.ok scTakeP (by contradiction) (fun cdv A outer s H vs Q E hr h=>?_);obtain ⟨H0,p,q,DL,LB,b,zs,bt,bt',ls',r,rfl,I,f1,f2,hq,tk,k⟩:=h;refine ⟨_,PSl.h (bf ⟨(fQ (cD jC (ixZ (pv 1)) fY (cP _)) (bp (bI (jb op_ge (ixZ (pv 1)) aT (cP _)))) cM)⟩
  (bf ⟨(fQ (cD jC (ixZ (pv 1)) fY (cP _)) (bp (bI (eV (pv 0) CC.cl m1 F1 hr b1 .nil fz (ah (pv 1) aw)))) cM)⟩
  (bf ⟨(fQ (cD jC (ixZ (pv 1)) fY (cP _)) (bp (bI (eV (pv 0) CC.cl m3 F3 hr b3 .nil fz (ah (pv 1) aw)))) cM)⟩
  (fR ⟨(bI (eV (pv 0) CC.cl m2 F2 hr b2 .nil fz (ah (pv 1) aw)))⟩)))),?_⟩
 obtain ⟨dp,hp⟩:=I.pl;cases tk with
 | beat h =>
  have hq:H q=some (.tup [.str "beat",.int _]):=hq;refine ⟨_,rfl,q,_,_,_,rfl,rfl,SqT.of hq,aC (j:=0) rfl,rfl,_,rfl,iteB (lL rfl) ?_⟩;refine ⟨_,rfl,q,_,_,_,rfl,rfl,SqT.of hq,aC (j:=1) rfl,_,_,rfl,rfl,?_⟩;have e:=k zs H rfl (by lia) (by lia) I;show Q (.bl (decide ((1:Int)≤_))) H;rw [lL h];exact e
 | @line n ss rs hn nd two few rl sm =>
  obtain ⟨a,b',h1,h2,h3⟩:=id hq;refine ⟨_,rfl,q,_,_,_,rfl,rfl,SqT.of h3,aC (j:=0) rfl,rfl,_,rfl,jz (by trivial) ?_⟩;refine ⟨_,rfl,q,_,_,_,rfl,rfl,SqT.of h3,aC (j:=0) rfl,rfl,_,rfl,iteB (lL rfl) ?_⟩;rw [bZ] at hn;refine ⟨_,rfl,p,dp,_,rfl,hp,rfl,_,rfl,H0,p,q,DL,LB,b,zs,bt,n,ss,rs,rfl,I,f1,f2,hq,two,few,rl,fun no=>?_,fun _ _ x D H' I'=>?_⟩
  ·rcases no with no | no
   ·exact lK no hn
   ·exact lK nd no
  ·have e:=k (zs++[(⟨n,ss,rs,[],jZ zs⟩,x,D)]) H' (by rw [au,j3];rfl) (by rw [av];exact aH _) (by lia) I'
   rw [smallL_of,au];show Q (.bl (smallL (zs.map (·.1)++[⟨n,ss,rs,[],jZ zs⟩]) bt)) H';rw [j3,sm];exact e
 | @btw k' ns is sn B h1 h2 h3 ok sm =>
  have hq':H q=some (.tup (.str k'::(ns.map V.str++is.map V.int))):=hq;refine ⟨_,rfl,q,_,_,_,rfl,rfl,SqT.of hq',aC (j:=0) rfl,rfl,_,rfl,jz (lM fun z=>h1 (by injection z)) ?_⟩;refine ⟨_,rfl,q,_,_,_,rfl,rfl,SqT.of hq',aC (j:=0) rfl,rfl,_,rfl,jz (lM fun z=>h2 (by injection z)) ?_⟩;refine ⟨_,rfl,q,_,_,_,rfl,rfl,SqT.of hq',aC (j:=0) rfl,rfl,_,rfl,jz (lM fun z=>h3 (by injection z)) ?_⟩;refine ⟨_,rfl,p,dp,_,rfl,hp,rfl,_,rfl,H0,p,q,DL,LB,b,zs,bt,k',ns,is,sn,rfl,I,f1,f2,hq,B,fun H' I'=>?_⟩;have e:=k zs H' rfl (by lia) (by rw [av];exact aH _) I';rw [smallL_of,j3,ok,sm];exact e
 | @stay x z l o w i hx hz few h1 h2 h3 ok =>
  have hq:H q=some (.tup [.str "stay",.str x.n,.str z,.int l,.int o,.int w]):=hq;obtain ⟨y,hy,rfl⟩:=bc.mp hx;refine ⟨_,rfl,q,_,_,_,rfl,rfl,SqT.of hq,aC (j:=0) rfl,rfl,_,rfl,jz (by trivial) ?_⟩;refine ⟨_,rfl,q,_,_,_,rfl,rfl,SqT.of hq,aC (j:=0) rfl,rfl,_,rfl,jz (by trivial) ?_⟩;refine ⟨_,rfl,q,_,_,_,rfl,rfl,SqT.of hq,aC (j:=0) rfl,rfl,_,rfl,iteB (lL rfl) ?_⟩;refine ⟨_,rfl,p,dp,_,rfl,hp,rfl,_,rfl,H0,p,q,DL,LB,b,zs,bt,y,z,l,o,w,i,rfl,I,⟨by lia,by lia⟩,hq,hy,hz,few,h1,h2,h3,fun H' I'=>?_⟩;have e:=k (zs.map (stayX y.1.n z (l,o,w))) H' (by rw [bZ,bZ];rfl) (by rw [ae];lia) (by lia) I';rw [j3,ok];exact e
theorem kq:bE ["rows","plan","number","row"] ["rows"] (defScope sPlanBy):=by trivial
theorem ok_planBy {fi ft fl:ak}{di dt da dl:aO}(F:Fun K "plan_by" "plan_by" sPlanBy f fd)(T:Nm mg)(he:mg "enumerate" =none)(CC:PlaC K CP)(PT:PlaT P w K mg base CP CL fi ft fa fl di dt da dl):cI P w K mg base CX0 7 f fd ["rows"] (spPlanBy CP CL):=by
 refine F.ok kq (by contradiction) (fun cdv A outer s H vs Q E hr h=>?_);obtain ⟨L,xs,b,rs,ls,bt,rfl,hL,R,few,runs,hne,k⟩:=h;refine ⟨_,PSl.h (bf ⟨(psZ 1 kq.nd (pe_make PT.mke PT.f0 (hr.mono (by decide)) rfl PT.gl PT.b0 .nil fz (ah (ixZ (dO bh (pv 0) aT (fun _ _=>rfl))) aw)))⟩
  (bf ⟨(iV cJ rfl (pi_enumL rfl he (ah (pv 0) aw)) (j7 rfl (dU (pgZ 2 kq.nd) (dU (pgZ 3 kq.nd) i9))) (bp (fQ (j5 (jw (eV (pv 1) CC.cl PT.mT PT.fT hr PT.bT .nil fz (ah (pv 3) aw)))) (bp gU) cM)))⟩
  (bf ⟨(fQ (cD jC (cw call_lenD rfl T.len bD (ah (dk (pv 1) rfl) aw)) aT (cP _)) (bp gU) cM)⟩
  (fR ⟨(bI (pv 1))⟩)))),?_⟩
 obtain ⟨a0,h0,r0⟩:=R.get 0 (.beat b) rfl;have r0:H a0=some (.tup [.str "beat",.int b]):=r0;refine ⟨_,rfl,L,_,_,_,rfl,rfl,SqL.of hL,aC (j:=0) h0,a0,_,_,_,rfl,rfl,SqT.of r0,aC (j:=1) rfl,?_⟩;intro x dx hx hdx dxx;refine ⟨x,dx,b,rfl,aK,fun DL LB H1 k1 hDL hLB dne h1 h2 h3=>⟨rfl,?_⟩⟩;have S1:bO H H1:=fun c o e=>by
  refine k1 c o (aJ e hx) ?_;rw [aR (aJ e hx),aR (aJ e hdx)];exact e
 have nn:∀ c,(upd (upd H dx (.own x)) x (.ins CP dx [])) c=none→H c=none:=fun c h=>by
  cases e:H c with
  | none=>rfl
  | some o=>rw [aR (aJ e hx),aR (aJ e hdx),e] at h;cases h
 have I1:PlI CP CL H H1 x b [] [] DL LB:=⟨S1,⟨dx,h3⟩,nn _ hDL,nn _ hLB,(fun z hz=>by cases hz),h1,(fun z hz=>by cases hz),(by simp),(by simp),[],h2,.nil⟩;have lx:xs.length=rs.length+1:=R.len;refine ⟨_,rfl,L,xs,rfl,S1 _ _ hL,?_⟩;refine for_enumL (a:=L) (xs:=xs) (fun i σ H2=>∃ zs b1,PlI CP CL H H2 x b zs b1 DL LB∧zs.length≤i∧b1.length≤i∧Runs b (zs.map (·.1)) b1 ((PR.beat b::rs).drop i) ls bt∧∃ v2 v3,σ=[some (.ref L),some (.ref x),v2,v3])
  ⟨[],[],I1,aH _,aH _,runs,none,none,rfl⟩ (fun i σ H2 _ q=>by obtain ⟨zs,b1,I,_⟩:=q;exact I.S _ _ hL) (fun i v p σ H2 hv q hp=>?_) (fun σ H2 q=>?_)
 ·obtain ⟨zs,b1,I,l1,l2,ru,v2,v3,rfl⟩:=q
  have li:i<xs.length:=(ao.mp hv).1;obtain ⟨r,hr'⟩:∃ r,(PR.beat b::rs)[i]? =some r:=⟨_,gE (by rw [aP];lia)⟩;obtain ⟨a,ha,ra⟩:=R.get i r hr';rw [hv] at ha;cases ha;have ed:(PR.beat b::rs).drop i=r::(PR.beat b::rs).drop (i+1):=by
   rw [List.drop_eq_getElem_cons (by rw [aP];lia)];congr 1;have:=(ao.mp hr').2;exact this
  rw [ed] at ru;cases ru with
  | cons tk ru =>
   have S6:bO H2 (upd H2 p (.tup [.int (i:Nat),.ref a])):=bO.put (bO.refl H2) hp;have h6:(upd H2 p (.tup [.int (i:Nat),.ref a])) p=some (.tup [.int (i:Nat),.ref a]):=aK;generalize upd H2 p (.tup [.int (i:Nat),.ref a])=H6 at S6 h6 ⊢;have I6:=I.same S6;obtain ⟨dp,hpp⟩:=I6.pl;refine ⟨p,_,rfl,SqT.of h6,rfl,_,_,rfl,_,_,rfl,rfl,?_⟩;refine ⟨_,rfl,x,dp,_,rfl,hpp,rfl,_,rfl,H,x,a,DL,LB,b,zs,b1,_,_,r,rfl,I6,(by lia),(by lia),ra.kept I6.S,tk,fun zs' H7 ez lz lb I7=>?_⟩;refine ⟨_,rfl,jz rfl ?_⟩;exact ⟨zs',_,I7,by lia,by lia,by rw [ez];exact ru,_,_,rfl⟩
 ·obtain ⟨zs,b1,I,l1,l2,ru,v2,v3,rfl⟩:=q
  rw [List.drop_of_length_le (by rw [aP];lia)] at ru;generalize ez:zs.map (·.1)=l0 at ru;cases ru;obtain ⟨dp,hpp⟩:=I.pl;refine ⟨_,rfl,x,CP,dp,_,_,rfl,hpp,CC.cl,CC.n2,rfl,DL,_,rfl,I.dl,rfl,_,rfl,jz (lM fun z=>?_) ⟨_,rfl,k x zs DL LB H2 ez (by lia) (by lia) I⟩⟩;injection z with z
  unfold ic at z;rw [ae] at z;refine hne ?_;rw [←ez];cases zs with
  | nil=>rfl
  | cons _ _=>simp at z;lia
theorem scNetBy:bE ["text","plan","net"] pzf (defScope sNetBy):=by trivial
theorem ok_netBy {fh fs fi ft fl:ak}{ds di dt da dl:aO}(F:Fun K "net_by" "net_by" sNetBy f fd)(T:Nm mg)(PK:PlaK P w K mg base CP CL fh fs dh ds)(PT:PlaT P w K mg base CP CL fi ft fa fl di dt da dl)(G1:Fn K mg "read_plan" sPlanR pzf f1 d1)(F1:cI P w K mg base CX0 5 f1 d1 pzf spPlanR)
  (G2:Fn K mg "plan_by" sPlanBy ["rows"] f2 d2) (F2:cI P w K mg base CX0 7 f2 d2 ["rows"] (spPlanBy CP CL)):cI P w K mg base CX0 8 f fd pzf spNetBy:=by
 refine F.ok scNetBy (by contradiction) (fun cdv A outer s H vs Q E hr h=>?_);obtain ⟨z,z0,b,zr,ls,bt,rfl,hz,hs,hn,hz0,hs0,hb,hw,runs,hne,k⟩:=h;have CC:=PK.cc;refine ⟨_,PSl.h (bf ⟨(psZ 1 scNetBy.nd (pc1 G2 F2 hr (ah (pc1 G1 F1 (hr.mono (by decide)) (ah (pv 0) aw)) aw)))⟩
  (bf ⟨(psZ 2 scNetBy.nd (gq (ah (dk (pv 1) rfl) (ah (gd (pv 1) CC.cl PK.m1 PK.f1 (hr.mono (by decide)) PK.b1 .nil fz) (ah (dQ gN rfl T.ttup gP (ah (gd (pv 1) CC.cl PT.mA PT.fA (hr.mono (by decide)) PT.bA .nil fz) aw)) aw)))))⟩
  (fR ⟨(bI (gq (ah (pv 2) (ah (dQ gN rfl T.ttup gP (ah (gd (pv 1) CC.cl PT.mL PT.fL (hr.mono (by decide)) PT.bL .nil fz) aw)) aw))))⟩))),?_⟩
 refine ⟨_,rfl,z,z0,b,zr,rfl,hz,hs,(by lia),hz0,hs0,hb,hw,fun p xs H1 S1 hL R=>?_⟩;refine ⟨p,xs,b,_,ls,bt,rfl,hL,R,(by rw [ae];exact hn),runs,hne,fun x zs DL LB H2 ez lz lb I2=>?_⟩;obtain ⟨dp2,hp2⟩:=I2.pl;have fw:Few zs bt:=⟨by lia,by lia⟩;refine ⟨_,rfl,x,CP,dp2,_,_,rfl,hp2,CC.cl,CC.n1,rfl,_,rfl,x,dp2,_,rfl,hp2,rfl,H1,x,DL,LB,b,zs,bt,rfl,I2,fw,fun H3 S3=>?_⟩;have I3:=I2.same S3;obtain ⟨dp3,hp3⟩:=I3.pl;refine ⟨_,rfl,x,dp3,_,rfl,hp3,rfl,H1,x,DL,LB,b,zs,bt,rfl,I3,fw,fun L ys H4 S4 _ hL4 d4=>?_⟩;refine ⟨L,ys,rfl,SqL.of hL4,fun t H5 S5 e5=>?_⟩;refine ⟨(by show 3≤ar;decide),fun n H6 S6 e6=>?_⟩;have S36:=S4.trans (S5.trans S6);have I6:=I3.same S36;obtain ⟨dp6,hp6⟩:=I6.pl;have dN:IsD H6 (.ref n) (netP b (hapL ls) (k7 ls bt)):=by
  rw [←ez,←j3,←allSL_of];exact .tup e6 (.cons (.int _) (.cons (.int _) (.cons (.tup (S6 _ _ e5) (fI.same (S5.trans S6) d4)) .nil)))
 refine ⟨_,rfl,_,rfl,x,dp6,_,rfl,hp6,rfl,H1,x,DL,LB,b,zs,bt,rfl,I6,fw,fun L2 as H7 S7 _ hL7 d7=>?_⟩;refine ⟨L2,as.map V.ref,rfl,SqL.of hL7,fun u H8 S8 e8=>?_⟩;refine ⟨szZ2,fun r H9 S9 e9=>?_⟩;have d9:as.map H9=(allL zs).map (fun t=>some (HO.tup t)):=by
  rw [←d7];refine dJ fun c hc=>?_
  have hm:H7 c∈(allL zs).map (fun t=>some (HO.tup t)):=by rw [←d7];exact List.mem_map_of_mem hc
  obtain ⟨t,_,e⟩:=bc.mp hm;rw [←e];exact (S8.trans S9) _ _ e.symm
 refine k _ H9 (S1.trans (I2.S.trans (S3.trans (S36.trans (S7.trans (S8.trans S9)))))) (.tup e9 (.cons (IsD.same (S7.trans (S8.trans S9)) dN) (.cons (.tup (S9 _ _ e8) ?_) .nil)));rw [←ez,←allLL_of];refine labs_isD d9 fun t ht=>?_
 unfold allL at ht;obtain ⟨y,_,hy⟩:=List.mem_flatMap.mp ht;exact labs_strs _ _ t hy
end
def WOk (v:V):Prop:=(∃ z,v= .str z∧nam z=true)∨∃ i,v= .int i∧W60 i
theorem nam_len (h:nam z=true):1≤z.length∧z.length≤8:=by
 unfold nam at h;rw [b9,b9] at h;exact ⟨lN h.1,lN h.2.1⟩
theorem nam_cps (h:nam z=true):∀ c∈z.cps.toList,97≤c∧c≤122:=by
 unfold nam at h;rw [b9,b9,List.all_eq_true] at h;exact fun c hc=>lN (h.2.2 c hc)
theorem WOk.wd (h:WOk v):WdOk v:=by
 rcases h with ⟨z,rfl,hz⟩ | ⟨i,rfl,hi⟩
 ·exact ⟨⟨z,rfl,by have:=nam_len hz;lia⟩,fun i e=>by cases e⟩
 ·exact ⟨⟨ik i,rfl,by have:=iR hi;lia⟩,fun j e=>by cases e;exact hi⟩
theorem WOk.free (h:WOk v){c:Nat}(hc:c<48):c ∉ (wdS v).cps.toList:=by
 rcases h with ⟨z,rfl,hz⟩ | ⟨i,rfl,hi⟩
 ·intro m
  have:=nam_cps hz c m;lia
 ·exact kK hi hc
theorem rowW_split {r:List V}(h:∀ v∈r,WOk v)(hne:r≠[]):ck (k6 r) sp_=r.map wdS:=by
 unfold k6;rw [sp_eq];refine jV (fun z=>hne (List.map_eq_nil_iff.mp z)) fun p hp=>?_
 obtain ⟨v,hv,rfl⟩:=bc.mp hp;exact (h v hv).free (by decide)
theorem rowW_free {r:List V}(h:∀ v∈r,WOk v):10 ∉ (k6 r).cps.toList:=fun m=>by
 unfold k6 at m;rw [sp_eq,show gu ⟨#[32]⟩ (r.map wdS)=eC ⟨#[32]⟩ (r.map wdS) from dZ _ _] at m
 rcases join_mem m with e | ⟨y,hy,m2⟩
 ·cases e
 ·obtain ⟨v,hv,rfl⟩:=bc.mp hy
  exact (h v hv).free (by decide) m2
theorem beat_two (b:Int):("beat " :Str)++ik b=gu sp_ ["beat",ik b]:=by
 rw [show gu sp_ ["beat",ik b]=eC sp_ ["beat",ik b] from dZ _ _,jj];show _=("beat" :Str)++sp_++ik b;rw [show ("beat " :Str)=("beat" :Str)++sp_ by trivial]
theorem beat_split (hb:W60 b):ck (("beat " :Str)++ik b) sp_=[("beat" :Str),ik b]:=by
 rw [beat_two,sp_eq];refine jV (by simp) fun p hp=>?_
 simp only [aq,aI,or_false] at hp
 rcases hp with rfl | rfl
 ·decide +kernel
 ·exact kK hb (by decide)
theorem beat_free (hb:W60 b):10 ∉ (("beat " :Str)++ik b).cps.toList:=by
 rw [cps_app];intro m
 rcases cx.mp m with m | m
 ·revert m;decide +kernel
 ·exact kK hb (by decide) m
theorem planT_split (hb:W60 b)(h:∀ r∈rows,∀ v∈r,WOk v):ck (planT b rows) nl_=(("beat " :Str)++ik b)::rows.map k6:=by
 unfold planT;rw [nl_eq];refine jV (by simp) fun p hp=>?_
 rcases aq.mp hp with rfl | hp
 ·exact beat_free hb
 ·obtain ⟨r,hr,rfl⟩:=bc.mp hp
  exact rowW_free (h r hr)
theorem planT_len (hb:W60 b)(h:∀ r∈rows,r.length≤60∧∀ v∈r,WOk v)(few:rows.length≤10):(planT b rows).length≤100000:=by
 unfold planT;rw [show gu nl_ (((("beat " :Str)++ik b))::rows.map k6)=eC nl_ (((("beat " :Str)++ik b))::rows.map k6) from dZ _ _];have go:∀ ys:List Str,(∀ y∈ys,y.length≤7000)→(eC nl_ ys).length≤ys.length * 7001:=by
  intro ys
  induction ys with
  | nil=>intro _;decide +kernel
  | cons y ys ih =>
   intro hy;cases ys with
   | nil =>
    show y.length≤_;have:=hy y (by simp);simp only [aP,List.length_nil];lia
   | cons z ys =>
    rw [jj,jF,jF];have h1:=hy y (by simp);have h2:=ih fun x hx=>hy x (aS _ hx)
    have h3:(nl_:Str).length=1:=by trivial
    rw [h3];simp only [aP] at h2 ⊢;lia
 have:=go ((("beat " :Str)++ik b)::rows.map k6) fun y hy=>by
  rcases aq.mp hy with rfl | hy
  ·rw [jF]
   have:=iR hb;have h5:("beat " :Str).length=5:=by trivial
   lia
  ·obtain ⟨r,hr,rfl⟩:=bc.mp hy
   exact rowW_len (fun v hv=>((h r hr).2 v hv).wd) (h r hr).1
 simp only [aP,ae] at this;have:(rows.length+1) * 7001≤11 * 7001:=Nat.mul_le_mul_right _ (by lia);lia
theorem lineV_wok {n s0 s1 s2:Str}(h:nam n=true)(h0:nam s0=true)(h1:nam s1=true)(h2:nam s2=true)(d0:W60 a0)(d1:W60 a1):∀ v∈jY n s0 s1 s2 a0 a1,WOk v:=fun v hv=>by
 simp only [jY,aq,aI,or_false] at hv
 rcases hv with rfl | rfl | rfl | rfl | rfl | rfl | rfl
 ·exact .inl ⟨_,rfl,by trivial⟩
 ·exact .inl ⟨_,rfl,h⟩
 ·exact .inl ⟨_,rfl,h0⟩
 ·exact .inr ⟨_,rfl,d0⟩
 ·exact .inl ⟨_,rfl,h1⟩
 ·exact .inr ⟨_,rfl,d1⟩
 ·exact .inl ⟨_,rfl,h2⟩
theorem lineV_wds {n s0 s1 s2:Str}(h:nam n=true)(h0:nam s0=true)(h1:nam s1=true)(h2:nam s2=true)(d0:W60 a0)(d1:W60 a1):(PR.line n [s0,s1,s2] [a0,a1]).wds ((jY n s0 s1 s2 a0 a1).map wdS):=by
 refine ⟨rfl,by simp,by simp,by simp,rfl,rfl,rfl,h,fun z hz=>?_,fun i hi=>?_⟩
 ·simp only [aq,aI,or_false] at hz
  rcases hz with rfl | rfl | rfl <;> assumption
 ·simp only [aq,aI,or_false] at hi
  rcases hi with rfl | rfl <;> assumption
theorem snB_of {m:Int}{x:Sn}(s0:0≤x.s)(s1:x.s<m)(g0:0≤x.g)(g1:x.g<m)(ne:x.s≠x.g)(l0:0≤x.l)(lo:x.l≤x.o)(ob:x.o<x.l+b)(o60:x.o<10 ^ 60)(w0:0≤x.w)(w1:x.w≤1000000000000):snB b m x=true:=by
 have inn:∀ i lo hi:Int,lo≤i→i≤hi→inI (.int i) lo hi=true:=fun i lo hi h1 h2=>by
  show (decide (lo≤i) && decide (i≤hi))=true;rw [lL h1,lL h2];rfl
 unfold snB;have e1:jR m (.int x.s) (.int x.g)=true:=by
  unfold jR;rw [inn x.s 0 (m - 1) s0 (by lia),inn x.g 0 (m - 1) g0 (by lia),lM (fun z=>ne (by injection z))];rfl
 have e2:kM b (.int x.l) (.int x.o)=true:=by
  show (inI (.int x.l) 0 B60 && inI (.int x.o) x.l (if B60<x.l+b - 1 then B60 else x.l+b - 1))=true;rw [inn x.l 0 B60 l0 (by unfold B60;lia),inn x.o x.l _ lo (by split <;> (unfold B60 at *;lia))];rfl
 rw [e1,e2,inn x.w 0 1000000000000 w0 w1];rfl
abbrev ln1 (n s0 s1 s2:Str)(a0 a1:Int):Ln:=⟨n,[s0,s1,s2],[a0,a1],[],0⟩
abbrev ln2 (n s0 s1 s2:Str)(a0 a1:Int):Ln:=⟨n,[s0,s1,s2],[a0,a1],[],4⟩
theorem two_runs {n1 n2 s0 s1 s2 t0 t1 t2 k:Str}{b0 b1:Int}{is:List Int}{sn:Sn}(hb:1≤b)(ne:n1≠n2)(nd:[s0,s1,s2].Nodup)(nd2:[t0,t1,t2].Nodup)(B:Bt b (ln1 n1 s0 s1 s2 a0 a1) (ln2 n2 t0 t1 t2 b0 b1) k ns is sn)(h1:k ≠ "beat")(h2:k ≠ "line")(h3:k ≠ "stay")(ok:snB b 8 sn=true) :
  Runs b [] [] [.beat b,.line n1 [s0,s1,s2] [a0,a1],.line n2 [t0,t1,t2] [b0,b1],.oth k ns is] [ln1 n1 s0 s1 s2 a0 a1,ln2 n2 t0 t1 t2 b0 b1] [sn]:=by
 refine .cons (.beat hb) (.cons (.line (by simp) nd (by simp) (by simp) rfl rfl) (.cons (.line ?_ nd2 (by simp) (by simp) rfl rfl) (.cons (.btw ⟨_,_,?_,?_,?_,B⟩ h1 h2 h3 ok rfl) .nil)))
 ·show n2 ∉ [n1]
  simp [cf ne]
 ·exact bW
 ·exact aS _ bW
 ·exact ne
theorem two_all (n1 n2 s0 s1 s2 t0 t1 t2:Str)(a0 a1 b0 b1:Int)(sn:Sn):k7 [ln1 n1 s0 s1 s2 a0 a1,ln2 n2 t0 t1 t2 b0 b1] [sn]=[⟨0,1,a0,a0,0⟩,⟨1,2,0,0,0⟩,⟨2,3,a1,a1,0⟩,⟨4,5,b0,b0,0⟩,⟨5,6,0,0,0⟩,⟨6,7,b1,b1,0⟩,sn]:=rfl
theorem ku (x l b:Int):((x+l) % b - x - l) % b=0:=by
 have h:=gT (x+l) b;have e:(x+l) % b - x - l=b * (- ((x+l) / b)):=by rw [Int.mul_neg];lia
 rw [e];exact Int.mul_emod_right _ _
def tab2 (b f m a0 a1 b0 b1:Int):List Int:=tmI b f a0 a1++(tmI b 0 b0 b1).map fun t=>(t+m) % b
theorem two_fits {f m b0 b1:Int}{sn:Sn}(hb:1≤b):fitsM b (tab2 b f m a0 a1 b0 b1) [⟨0,1,a0,a0,0⟩,⟨1,2,0,0,0⟩,⟨2,3,a1,a1,0⟩,⟨4,5,b0,b0,0⟩,⟨5,6,0,0,0⟩,⟨6,7,b1,b1,0⟩,sn]= !brk b (tab2 b f m a0 a1 b0 b1) sn:=by
 have z:∀ {x:Sn},waitM b (tab2 b f m a0 a1 b0 b1) x=0→x.o - x.l=0→brk b (tab2 b f m a0 a1 b0 b1) x=false:=fun {x} h1 h2=>by
  unfold brk;rw [h1,h2];decide
 have e1:brk b (tab2 b f m a0 a1 b0 b1) ⟨0,1,a0,a0,0⟩=false:=z (ku f a0 b) (by show a0 - a0=0;lia);have e2:brk b (tab2 b f m a0 a1 b0 b1) ⟨1,2,0,0,0⟩=false:=z (by show ((f+a0) % b - (f+a0) % b - 0) % b=0;rw [Int.sub_self,Int.sub_self,Int.zero_emod]) rfl;have e3:brk b (tab2 b f m a0 a1 b0 b1) ⟨2,3,a1,a1,0⟩=false:=z (ku ((f+a0) % b) a1 b) (by show a1 - a1=0;lia);have e4:brk b (tab2 b f m a0 a1 b0 b1) ⟨4,5,b0,b0,0⟩=false:=z (by
  show (((0+b0) % b+m) % b - (0+m) % b - b0) % b=0;rw [rest_two,show (0+b0) % b+m - (0+m) - b0=(0+b0) % b - 0 - b0 by lia];exact ku 0 b0 b) (by show b0 - b0=0;lia)
 have e5:brk b (tab2 b f m a0 a1 b0 b1) ⟨5,6,0,0,0⟩=false:=z (by show (((0+b0) % b+m) % b - ((0+b0) % b+m) % b - 0) % b=0;rw [Int.sub_self,Int.sub_self,Int.zero_emod]) rfl;have e6:brk b (tab2 b f m a0 a1 b0 b1) ⟨6,7,b1,b1,0⟩=false:=z (by
  show ((((0+b0) % b+b1) % b+m) % b - ((0+b0) % b+m) % b - b1) % b=0;rw [rest_two,show ((0+b0) % b+b1) % b+m - ((0+b0) % b+m) - b1=((0+b0) % b+b1) % b - (0+b0) % b - b1 by lia];exact ku _ b1 b) (by show b1 - b1=0;lia)
 unfold fitsM;simp only [gm,List.any_nil,e1,e2,e3,e4,e5,e6,Bool.false_or,Bool.or_false]
theorem wrap {r l:Int}(hb:1≤b)(r0:0≤r)(r1:r<b)(l0:0≤l)(l1:l≤b):(r - l) % b=if l≤r then r - l else r - l+b:=by
 split
 ·exact Int.emod_eq_of_lt (by lia) (by lia)
 ·have e:r - l=(r - l+b)+b * (-1):=by lia
  rw [e,iP];rw [show r - l+b+b * (-1)+b=r - l+b by lia];exact Int.emod_eq_of_lt (by lia) (by lia)
theorem mod_sub (x l b:Int):(x - l) % b=(x % b - l) % b:=by
 have h:=gT x b;have e:x - l=(x % b - l)+b * (x / b):=by lia
 rw [e,iP]
theorem apart_ok {g d:Int}(hb:1≤b)(hg:1≤g)(h2:2 * g≤b):(!decide (b - g - g<(d - g) % b))=(decide (g≤d % b) && decide (d % b≤b - g)):=by
 have r0:=Int.emod_nonneg d (show b≠0 by lia);have r1:=iN d (show 0<b by lia);rw [mod_sub,wrap hb r0 r1 (by lia) (by lia)];generalize d % b=r at r0 r1 ⊢;rw [←Bool.decide_and,←decide_not];refine decide_eq_decide.mpr ?_;split <;> lia
theorem meet_ok {g d p0 p1:Int}(hb:1≤b)(hg:1≤g)(q0:0≤p0)(q1:0≤p1)(h2:2 * g≤b - p0 - p1):(!decide (b - p1 - g - (p0+g)<(d - (p0+g)) % b))=mekB b (d % b) p0 p1 g:=by
 have r0:=Int.emod_nonneg d (show b≠0 by lia);have r1:=iN d (show 0<b by lia);rw [mod_sub,wrap hb r0 r1 (by lia) (by lia)];unfold mekB;generalize d % b=r at r0 r1 ⊢;rw [←Bool.decide_and,←Bool.decide_and,←Bool.decide_or,←decide_not];refine decide_eq_decide.mpr ?_;split <;> lia
abbrev pk2 {α:Type}(at_:Nat)(x y:α):α:=if at_=0 then x else y
def snBk (bk:Bool)(at_:Nat)(b g a0 a1 b0 b1:Int):Sn:=if bk then ⟨2 * at_,4+2 * ((1 - at_:Nat):Int),pk2 at_ a0 a1+g,b - pk2 at_ b1 b0 - g,0⟩ else ⟨2 * at_,4+2 * at_,g,b - g,0⟩
def kdBk (bk:Bool):Str:=if bk then "meet" else "apart"
def nsBk (bk:Bool)(at_:Nat)(n1 n2 s0 s1 s2:Str):List Str:=if bk then [n1,n2,pk2 at_ s0 s1,pk2 at_ s1 s2] else [n1,n2,pk2 at_ s0 s1]
def rwBk (bk:Bool)(at_:Nat)(n1 n2 s0 s1 s2:Str)(g:Int):List V:= .str (kdBk bk)::((nsBk bk at_ n1 n2 s0 s1 s2).map V.str++[.int g])
abbrev bk1 (bk:Bool)(s0 s2:Str):Str:=if bk then s2 else s0
abbrev bk2 (bk:Bool)(s0 s2:Str):Str:=if bk then s0 else s2
def jN (bk:Bool)(at_:Nat)(b a0 a1 b0 b1:Int):Int:=if bk then b - pk2 at_ a0 a1 - pk2 at_ b1 b0 else b
theorem bt_of (bk:Bool){at_:Nat}(h:at_<2)(n1 n2 s0 s1 s2:Str)(b g a0 a1 b0 b1:Int):Bt b (ln1 n1 s0 s1 s2 a0 a1) (ln2 n2 (bk1 bk s0 s2) s1 (bk2 bk s0 s2) b0 b1) (kdBk bk) (nsBk bk at_ n1 n2 s0 s1 s2) [g] (snBk bk at_ b g a0 a1 b0 b1):=by
 obtain rfl | rfl:at_=0∨at_=1:=by lia
 ·cases bk with
  | false=>exact .apart (x:=ln1 n1 s0 s1 s2 a0 a1) (y:=ln2 n2 s0 s1 s2 b0 b1) (i:=0) (j:=0) rfl (by simp) rfl (by simp)
  | true=>exact .meet (x:=ln1 n1 s0 s1 s2 a0 a1) (y:=ln2 n2 s2 s1 s0 b0 b1) (i:=0) (j:=1) rfl rfl rfl rfl rfl rfl
 ·cases bk with
  | false=>exact .apart (x:=ln1 n1 s0 s1 s2 a0 a1) (y:=ln2 n2 s0 s1 s2 b0 b1) (i:=1) (j:=1) rfl (by simp) rfl (by simp)
  | true=>exact .meet (x:=ln1 n1 s0 s1 s2 a0 a1) (y:=ln2 n2 s2 s1 s0 b0 b1) (i:=1) (j:=0) rfl rfl rfl rfl rfl rfl
structure Hyp (bk:Bool)(at_:Nat)(n1 n2 s0 s1 s2:Str)(b g a0 a1 b0 b1:Int):Prop where
 at2:at_<2
 hb1:1≤b
 hb2:b<10 ^ 30
 ne:n1≠n2
 nd:[s0,s1,s2].Nodup
 m1:nam n1=true
 m2:nam n2=true
 m3:nam s0=true
 m4:nam s1=true
 m5:nam s2=true
 d1:D9 a0
 d2:D9 a1
 d3:D9 b0
 d4:D9 b1
 hg1:1≤g
 hg2:2 * g≤jN bk at_ b a0 a1 b0 b1
section
variable {bk:Bool}{at_:Nat}{n1 n2 s0 s1 s2:Str}{g b0 b1:Int}
theorem D9.w {x:Int}(h:D9 x):W60 x:=⟨h.a,by have:=h.b;lia⟩
theorem pk_D9 {x y:Int}(h1:D9 x)(h2:D9 y):D9 (pk2 at_ x y):=by
 unfold pk2;split <;> assumption
theorem Hyp.gb (h:Hyp bk at_ n1 n2 s0 s1 s2 b g a0 a1 b0 b1):2 * g≤b:=by
 have g2:=h.hg2;have p0:=(pk_D9 (at_:=at_) h.d1 h.d2).a;have p1:=(pk_D9 (at_:=at_) h.d4 h.d3).a;unfold jN at g2;split at g2 <;> lia
theorem Hyp.snB (h:Hyp bk at_ n1 n2 s0 s1 s2 b g a0 a1 b0 b1):snB b 8 (snBk bk at_ b g a0 a1 b0 b1)=true:=by
 have at2:=h.at2;have b1':=h.hb1;have b2':=h.hb2;have g1:=h.hg1;have g2:=h.hg2;have p0:=pk_D9 (at_:=at_) h.d1 h.d2;have p1:=pk_D9 (at_:=at_) h.d4 h.d3;have q0:=p0.a;have q1:=p1.a;have q2:=p0.b;have q3:=p1.b;unfold jN at g2;cases bk with
 | false =>
  have g2:2 * g≤b:=g2;show HN.snB b 8 ⟨2 * at_,4+2 * at_,g,b - g,0⟩=true;refine snB_of ?_ ?_ ?_ ?_ ?_ ?_ ?_ ?_ ?_ ?_ ?_ <;> dsimp only <;> lia
 | true =>
  have g2:2 * g≤b - pk2 at_ a0 a1 - pk2 at_ b1 b0:=g2;show HN.snB b 8 ⟨2 * at_,4+2 * ((1 - at_:Nat):Int),pk2 at_ a0 a1+g,b - pk2 at_ b1 b0 - g,0⟩=true;generalize pk2 at_ a0 a1=x0 at q0 q2 g2 ⊢;generalize pk2 at_ b1 b0=x1 at q1 q3 g2 ⊢;refine snB_of ?_ ?_ ?_ ?_ ?_ ?_ ?_ ?_ ?_ ?_ ?_ <;> dsimp only <;> lia
abbrev kZ (bk:Bool)(at_:Nat)(n1 n2 s0 s1 s2:Str)(g a0 a1 b0 b1:Int):List (List V):=[jY n1 s0 s1 s2 a0 a1,jY n2 (bk1 bk s0 s2) s1 (bk2 bk s0 s2) b0 b1,rwBk bk at_ n1 n2 s0 s1 s2 g]
theorem nsBk_nam (h:Hyp bk at_ n1 n2 s0 s1 s2 b g a0 a1 b0 b1):∀ z∈nsBk bk at_ n1 n2 s0 s1 s2,nam z=true:=fun z hz=>by
 have e1:nam (pk2 at_ s0 s1)=true:=by unfold pk2;split;exact h.m3;exact h.m4
 have e2:nam (pk2 at_ s1 s2)=true:=by unfold pk2;split;exact h.m4;exact h.m5
 unfold nsBk at hz;cases bk with
 | false =>
  have hz:z∈[n1,n2,pk2 at_ s0 s1]:=hz;simp only [aq,aI,or_false] at hz
  rcases hz with rfl | rfl | rfl
  ·exact h.m1
  ·exact h.m2
  ·exact e1
 | true =>
  have hz:z∈[n1,n2,pk2 at_ s0 s1,pk2 at_ s1 s2]:=hz;simp only [aq,aI,or_false] at hz
  rcases hz with rfl | rfl | rfl | rfl
  ·exact h.m1
  ·exact h.m2
  ·exact e1
  ·exact e2
theorem Hyp.wg (h:Hyp bk at_ n1 n2 s0 s1 s2 b g a0 a1 b0 b1):W60 g:=⟨by have:=h.hg1;lia,by have:=h.gb;have:=h.hb2;lia⟩
theorem Hyp.wb (h:Hyp bk at_ n1 n2 s0 s1 s2 b g a0 a1 b0 b1):W60 b:=⟨by have:=h.hb1;lia,by have:=h.hb2;lia⟩
theorem bk_nam (h1:nam s0=true)(h2:nam s2=true):nam (bk1 bk s0 s2)=true∧nam (bk2 bk s0 s2)=true:=by
 cases bk <;> exact ⟨by assumption,by assumption⟩
theorem rows3_ok (h:Hyp bk at_ n1 n2 s0 s1 s2 b g a0 a1 b0 b1):∀ r∈kZ bk at_ n1 n2 s0 s1 s2 g a0 a1 b0 b1,r.length≤60∧∀ v∈r,WOk v:=fun r hr=>by
 obtain ⟨k1,k2⟩:=bk_nam (bk:=bk) h.m3 h.m5;simp only [kZ,aq,aI,or_false] at hr
 rcases hr with rfl | rfl | rfl
 ·exact ⟨by simp,lineV_wok h.m1 h.m3 h.m4 h.m5 h.d1.w h.d2.w⟩
 ·exact ⟨by simp,lineV_wok h.m2 k1 h.m4 k2 h.d3.w h.d4.w⟩
 ·refine ⟨by unfold rwBk nsBk;cases bk <;> simp,fun v hv=>?_⟩
  unfold rwBk at hv
  rcases aq.mp hv with rfl | hv
  ·exact .inl ⟨_,rfl,by cases bk <;> decide +kernel⟩
  ·rcases cx.mp hv with hv | hv
   ·obtain ⟨z,hz,rfl⟩:=bc.mp hv
    exact .inl ⟨_,rfl,nsBk_nam h z hz⟩
   ·rw [br.mp hv];exact .inr ⟨_,rfl,h.wg⟩
abbrev prs3 (bk:Bool)(at_:Nat)(n1 n2 s0 s1 s2:Str)(g a0 a1 b0 b1:Int):List PR:=[.line n1 [s0,s1,s2] [a0,a1],.line n2 [bk1 bk s0 s2,s1,bk2 bk s0 s2] [b0,b1],.oth (kdBk bk) (nsBk bk at_ n1 n2 s0 s1 s2) [g]]
theorem rw_wds (h:Hyp bk at_ n1 n2 s0 s1 s2 b g a0 a1 b0 b1):(PR.oth (kdBk bk) (nsBk bk at_ n1 n2 s0 s1 s2) [g]).wds ((rwBk bk at_ n1 n2 s0 s1 s2 g).map wdS):=by
 refine ⟨?_,?_,nsBk_nam h,fun i hi=>by rw [br.mp hi];exact h.wg⟩
 ·unfold rwBk
  rw [bJ,au,bZ];show kdBk bk::((nsBk bk at_ n1 n2 s0 s1 s2).map (wdS ∘ V.str)++[ik g])=_;rw [show (wdS ∘ V.str)=id from rfl,List.map_id];rfl
 ·cases bk
  ·show ((("apart" :Str),3,1):Str×Nat×Nat)∈fms
   simp [fms]
  ·show ((("meet" :Str),4,1):Str×Nat×Nat)∈fms
   simp [fms]
theorem rows3_ne (r:List V)(hr:r∈kZ bk at_ n1 n2 s0 s1 s2 g a0 a1 b0 b1):r≠[]:=by
 simp only [kZ,aq,aI,or_false] at hr
 rcases hr with rfl | rfl | rfl
 ·simp
 ·simp
 ·unfold rwBk;simp
theorem Hyp.net (h:Hyp bk at_ n1 n2 s0 s1 s2 b g a0 a1 b0 b1){Q:VK}{E:XK}(k:∀ v H',bO H H'→IsD H' v (.tup [netP b 8 (k7 [ln1 n1 s0 s1 s2 a0 a1,ln2 n2 (bk1 bk s0 s2) s1 (bk2 bk s0 s2) b0 b1] [snBk bk at_ b g a0 a1 b0 b1]),.tup ((allLL [ln1 n1 s0 s1 s2 a0 a1,ln2 n2 (bk1 bk s0 s2) s1 (bk2 bk s0 s2) b0 b1]).map fun t=> .tup (t.map vD))])→Q v H') :
  spNetBy [.str (planT b (kZ bk at_ n1 n2 s0 s1 s2 g a0 a1 b0 b1))] H Q E:=by
 have ok:=rows3_ok h;obtain ⟨k1,k2⟩:=bk_nam (bk:=bk) h.m3 h.m5;have nd:=h.nd;have nd2:[bk1 bk s0 s2,s1,bk2 bk s0 s2].Nodup:=by
  cases bk with
  | false=>exact nd
  | true =>
   show [s2,s1,s0].Nodup;simp only [aX,aq,aI,or_false,not_or] at nd ⊢;obtain ⟨⟨q1,q2⟩,q3,q4⟩:=nd;exact ⟨⟨cf q3,cf q2⟩,cf q1,q4⟩
 refine ⟨_,("beat " :Str)++ik b,b,(kZ bk at_ n1 n2 s0 s1 s2 g a0 a1 b0 b1).zipWith (fun r q=>(k6 r,q)) (prs3 bk at_ n1 n2 s0 s1 s2 g a0 a1 b0 b1),_,_,rfl,planT_len h.wb ok (by simp),planT_split h.wb fun r hr=>(ok r hr).2,by simp,?_,beat_split h.wb,h.wb,?_,two_runs h.hb1 h.ne nd nd2 (bt_of bk h.at2 n1 n2 s0 s1 s2 b g a0 a1 b0 b1) ?_ ?_ ?_ h.snB,by simp,k⟩
 ·rw [jF]
  have:=iR h.wb;have h5:("beat " :Str).length=5:=by trivial
  lia
 ·intro q hq
  have hq:q=(k6 (jY n1 s0 s1 s2 a0 a1),PR.line n1 [s0,s1,s2] [a0,a1])∨q=(k6 (jY n2 (bk1 bk s0 s2) s1 (bk2 bk s0 s2) b0 b1),PR.line n2 [bk1 bk s0 s2,s1,bk2 bk s0 s2] [b0,b1])∨q=(k6 (rwBk bk at_ n1 n2 s0 s1 s2 g),PR.oth (kdBk bk) (nsBk bk at_ n1 n2 s0 s1 s2) [g]):=by
   simpa [kZ,prs3] using hq
  have len:∀ r∈kZ bk at_ n1 n2 s0 s1 s2 g a0 a1 b0 b1,(k6 r).length≤100000∧ck (k6 r) sp_=r.map wdS:=fun r hr=>⟨by have:=rowW_len (fun v hv=>((ok r hr).2 v hv).wd) (ok r hr).1;lia,rowW_split (ok r hr).2 (rows3_ne r hr)⟩
  rcases hq with rfl | rfl | rfl
  ·obtain ⟨l1,l2⟩:=len (jY n1 s0 s1 s2 a0 a1) (by simp)
   exact ⟨l1,by rw [l2];exact lineV_wds h.m1 h.m3 h.m4 h.m5 h.d1.w h.d2.w⟩
  ·obtain ⟨l1,l2⟩:=len (jY n2 (bk1 bk s0 s2) s1 (bk2 bk s0 s2) b0 b1) (by simp)
   exact ⟨l1,by rw [l2];exact lineV_wds h.m2 k1 h.m4 k2 h.d3.w h.d4.w⟩
  ·obtain ⟨l1,l2⟩:=len (rwBk bk at_ n1 n2 s0 s1 s2 g) (by simp)
   exact ⟨l1,by rw [l2];exact rw_wds h⟩
 ·cases bk <;> decide +kernel
 ·cases bk <;> decide +kernel
 ·cases bk <;> decide +kernel
def dueBk (bk:Bool)(at_:Nat)(b g a0 a1 b0 b1 d:Int):Bool:=if bk then mekB b (d % b) (pk2 at_ a0 a1) (pk2 at_ b1 b0) g else (decide (g≤d % b) && decide (d % b≤b - g))
theorem Hyp.fit (h:Hyp bk at_ n1 n2 s0 s1 s2 b g a0 a1 b0 b1){f m x y:Int}(hx:(tmI b f a0 a1)[2 * at_]? =some x)(hy:((tmI b 0 b0 b1).map fun t=>(t+m) % b)[2 * (if bk then 1 - at_ else at_)]? =some y) :
  fitsM b (tab2 b f m a0 a1 b0 b1) (k7 [ln1 n1 s0 s1 s2 a0 a1,ln2 n2 (bk1 bk s0 s2) s1 (bk2 bk s0 s2) b0 b1] [snBk bk at_ b g a0 a1 b0 b1])=dueBk bk at_ b g a0 a1 b0 b1 (y - x):=by
 rw [two_all,two_fits h.hb1];have at2:=h.at2;have w:waitM b (tab2 b f m a0 a1 b0 b1) (snBk bk at_ b g a0 a1 b0 b1)=(y - x - (snBk bk at_ b g a0 a1 b0 b1).l) % b:=by
  obtain rfl | rfl:at_=0∨at_=1:=by lia
  ·cases bk with
   | false=>cases hx;cases hy;rfl
   | true=>cases hx;cases hy;rfl
  ·cases bk with
   | false=>cases hx;cases hy;rfl
   | true=>cases hx;cases hy;rfl
 have g2:=h.hg2;unfold brk dueBk;rw [w];unfold jN at g2;cases bk with
 | false=>exact apart_ok h.hb1 h.hg1 g2
 | true=>exact meet_ok h.hb1 h.hg1 (pk_D9 h.d1 h.d2).a (pk_D9 h.d4 h.d3).a g2
theorem Hyp.rdy (h:Hyp bk at_ n1 n2 s0 s1 s2 b g a0 a1 b0 b1)(f m:Int):Rdy b (tab2 b f m a0 a1 b0 b1) (k7 [ln1 n1 s0 s1 s2 a0 a1,ln2 n2 (bk1 bk s0 s2) s1 (bk2 bk s0 s2) b0 b1] [snBk bk at_ b g a0 a1 b0 b1]):=by
 have b1':=h.hb1;have at2:=h.at2;rw [two_all];refine ⟨by lia,by simp,fun x hx=>?_⟩;have l:(tab2 b f m a0 a1 b0 b1).length=8:=rfl;rw [l];simp only [aq,aI,or_false] at hx
 rcases hx with rfl | rfl | rfl | rfl | rfl | rfl | rfl
 ·exact ⟨by dsimp only;lia,by dsimp only;lia,by dsimp only;lia,by dsimp only;lia⟩
 ·exact ⟨by dsimp only;lia,by dsimp only;lia,by dsimp only;lia,by dsimp only;lia⟩
 ·exact ⟨by dsimp only;lia,by dsimp only;lia,by dsimp only;lia,by dsimp only;lia⟩
 ·exact ⟨by dsimp only;lia,by dsimp only;lia,by dsimp only;lia,by dsimp only;lia⟩
 ·exact ⟨by dsimp only;lia,by dsimp only;lia,by dsimp only;lia,by dsimp only;lia⟩
 ·exact ⟨by dsimp only;lia,by dsimp only;lia,by dsimp only;lia,by dsimp only;lia⟩
 unfold snBk;split
 ·exact ⟨by show (0:Int)≤2 * at_;lia,by show (2 * at_:Int)<8;lia,by show (0:Int)≤4+2 * ((1 - at_:Nat):Int);lia,by show (4+2 * ((1 - at_:Nat):Int):Int)<8;lia⟩
 ·exact ⟨by show (0:Int)≤2 * at_;lia,by show (2 * at_:Int)<8;lia,by show (0:Int)≤4+2 * (at_:Int);lia,by show (4+2 * (at_:Int):Int)<8;lia⟩
end
end HN
namespace HN
open PySem L2 PyProof.Rows
abbrev sRest:b8:=top 38
abbrev sWaitIn:b8:=top 39
abbrev sWaits:b8:=top 40
section
variable {w:aV}
theorem scRest:bE pzl pzl (defScope sRest):=by trivial
theorem ok_rest (F:Fun K "rest_by" "rest_by" sRest f fd):cI P w K mg base CX0 1 f fd pzl spRest:=by
 refine F.ok scRest (by contradiction) (fun cdv A outer s H vs Q E hr h=>?_);obtain ⟨b,n,rfl,hb,k⟩:=h;refine ⟨_,PSl.h (fR ⟨(bI (cn iH (pv 1) (pv 0)))⟩),?_⟩;exact ⟨_,rfl,_,rfl,_,_,rfl,rfl,hb,k⟩
theorem ko:bE ["net","table","span","start","goal","least"] pzA (defScope sWaitIn):=by trivial
theorem ok_waitIn (F:Fun K "wait_in" "wait_in" sWaitIn f fd)(G1:Fn K mg "rest_by" sRest pzl f1 fd1):cI P w K mg base CX0 2 f fd pzA spWaitIn:=by
 have F1:cI P w K mg base CX0 1 f1 fd1 pzl spRest:=ok_rest G1.F;refine F.ok ko (by contradiction) (fun cdv A outer s H vs Q E hr h=>?_);obtain ⟨v,u,b,m,sp,ts,i,x,rfl,hv,hu,R,hx,k⟩:=h;obtain ⟨t,p,ys,rfl,ht,hp,hl,hy⟩:=netP_of hv;obtain ⟨q,hq,hq2⟩:=hy i x hx;obtain ⟨s0,s1,g0,g1⟩:=R.ends x (aG hx);refine ⟨_,PSl.h (bf ⟨(psZ 3 ko.nd (ixZ (dO jQ (ixZ (pv 0)) (pv 2) (fun _ _=>rfl))))⟩
  (bf ⟨(psZ 4 ko.nd (ixZ (dO jQ (ixZ (pv 0)) (pv 2) (fun _ _=>rfl))))⟩
  (bf ⟨(psZ 5 ko.nd (ixZ (dO jQ (ixZ (pv 0)) (pv 2) (fun _ _=>rfl))))⟩
  (fR ⟨(bI (pc1 G1 F1 hr (ah (ixZ (pv 0)) (ah (cn eM (cn eM (dO jQ (pv 1) (pv 4) (fun _ _=>rfl)) (dO jQ (pv 1) (pv 3) (fun _ _=>rfl))) (pv 5)) aw))))⟩)))),?_⟩
 refine ⟨_,rfl,t,_,_,_,rfl,rfl,SqT.of ht,aC (j:=2) rfl,_,rfl,p,_,_,_,rfl,rfl,SqT.of hp,aC (j:=i) hq,q,_,_,_,rfl,rfl,SqT.of hq2,aC (j:=0) rfl,?_⟩;refine ⟨_,rfl,t,_,_,_,rfl,rfl,SqT.of ht,aC (j:=2) rfl,_,rfl,p,_,_,_,rfl,rfl,SqT.of hp,aC (j:=i) hq,q,_,_,_,rfl,rfl,SqT.of hq2,aC (j:=1) rfl,?_⟩;refine ⟨_,rfl,t,_,_,_,rfl,rfl,SqT.of ht,aC (j:=2) rfl,_,rfl,p,_,_,_,rfl,rfl,SqT.of hp,aC (j:=i) hq,q,_,_,_,rfl,rfl,SqT.of hq2,aC (j:=2) rfl,?_⟩;refine ⟨_,rfl,t,_,_,_,rfl,rfl,SqT.of ht,aC (j:=0) rfl,?_⟩;refine ⟨_,rfl,_,rfl,u,_,_,_,rfl,rfl,SqT.of hu,tm_at g0 g1,_,rfl,_,rfl,u,_,_,_,rfl,rfl,SqT.of hu,tm_at s0 s1,_,_,rfl,rfl,_,rfl,_,_,rfl,rfl,?_⟩;exact ⟨b,_,rfl,R.b1,k⟩
theorem scWaits:bE pzd pzd (defScope sWaits):=by trivial
theorem ok_waits (F:Fun K "waits_of" "waits_of" sWaits f fd)(T:Nm mg)(T2:Nt mg)(G1:Fn K mg "rest_by" sRest pzl f1 fd1)(G2:Fn K mg "wait_in" sWaitIn pzA f2 fd2):cI P w K mg base CX0 3 f fd pzd spWaits:=by
 have F2:cI P w K mg base CX0 2 f2 fd2 pzA spWaitIn:=ok_waitIn G2.F G1;refine F.ok scWaits (by contradiction) (fun cdv A outer s H vs Q E hr h=>?_);obtain ⟨v,u,b,m,sp,ts,rfl,hv,hu,R,k⟩:=h;obtain ⟨t,p,ys,rfl,ht,hp,hl,hy⟩:=netP_of hv;refine ⟨_,PSl.h (fR ⟨(bI (dQ gN rfl T.ttup gP (ah (hI (fr:=pzd) (js:=[0,1]) rfl (iF rfl T2.range (ah (cw cS rfl T.len bD (ah (ixZ (pv 0)) aw)) aw)) (by trivial) rfl (by trivial) rfl (by exists sWaits) (by trivial) rfl (by trivial) (fun _ _ _ _ _=>⟨(pc1 G2 F2 hr (ah (pv 1) (ah (pv 2) (ah (pv 0) aw)))),gp⟩)) aw)))⟩),?_⟩;have few:=R.few;refine ⟨_,rfl,t,_,_,_,rfl,rfl,SqT.of ht,aC (j:=2) rfl,p,_,rfl,.inr (SqT.of hp),_,rfl,by lia,by lia,?_⟩;refine jk (n:=((ys.length:Int)).toNat) (fun i zs H2=>H2=H∧zs=(j4 b ts (sp.take i)).map V.int) ⟨rfl,rfl⟩ (fun i zs H2 hi ⟨e1,e2⟩=>?_) (by rw [dE,hl];exact small_le few) (fun i zs H2 hi ⟨e1,e2⟩=>?_) (fun zs H2 ⟨e1,e2⟩ D hD=>?_)
 ·rw [e2,ae];unfold j4;rw [ae,bq];lia
 ·subst e1
  rw [dE,hl] at hi;refine fk ?_;refine ⟨_,rfl,_,rfl,_,rfl,.ref t,u,b,m,sp,ts,i,sp[i],?_,hv,hu,R,gE hi,rfl,?_⟩
  ·rw [Int.zero_add];rfl
  ·rw [e2];unfold j4
   rw [bS,gE hi,au,au];rfl
 ·subst e1
  refine ⟨D,_,rfl,SqL.of aK,fun p3 H3 S3 h3=>?_⟩;refine k p3 H3 ((bO.put (bO.refl H2) hD).trans S3) ?_;rw [h3,e2,dE,hl,bP]
end
abbrev sWidth:b8:=top 19
abbrev sBroken:b8:=top 41
abbrev sFits:b8:=top 42
section
variable {w:aV}
theorem scWidth:bE ["net","span","least","most"] ["net","span"] (defScope sWidth):=by trivial
theorem ok_width (F:Fun K "width_of" "width_of" sWidth f fd):cI P w K mg base CX0 1 f fd ["net","span"] spWidth:=by
 refine F.ok scWidth (by contradiction) (fun cdv A outer s H vs Q E hr h=>?_);obtain ⟨v,b,m,sp,i,x,rfl,hv,hx,k⟩:=h;obtain ⟨t,p,ys,rfl,ht,hp,hl,hy⟩:=netP_of hv;obtain ⟨q,hq,hq2⟩:=hy i x hx;refine ⟨_,PSl.h (bf ⟨(psZ 2 scWidth.nd (ixZ (dO jQ (ixZ (pv 0)) (pv 1) (fun _ _=>rfl))))⟩
  (bf ⟨(psZ 3 scWidth.nd (ixZ (dO jQ (ixZ (pv 0)) (pv 1) (fun _ _=>rfl))))⟩
  (fR ⟨(bI (cn eM (pv 3) (pv 2)))⟩))),?_⟩
 refine ⟨_,rfl,t,_,_,_,rfl,rfl,SqT.of ht,aC (j:=2) rfl,_,rfl,p,_,_,_,rfl,rfl,SqT.of hp,aC (j:=i) hq,q,_,_,_,rfl,rfl,SqT.of hq2,aC (j:=2) rfl,?_⟩;refine ⟨_,rfl,t,_,_,_,rfl,rfl,SqT.of ht,aC (j:=2) rfl,_,rfl,p,_,_,_,rfl,rfl,SqT.of hp,aC (j:=i) hq,q,_,_,_,rfl,rfl,SqT.of hq2,aC (j:=3) rfl,?_⟩;exact ⟨_,rfl,_,rfl,_,_,rfl,rfl,k⟩
theorem scBroken:bE ["net","table","waits"] pzd (defScope sBroken):=by trivial
theorem ok_broken (F:Fun K "broken_in" "broken_in" sBroken f fd)(T:Nm mg)(T2:Nt mg)(G1:Fn K mg "waits_of" sWaits pzd f1 fd1)(F1:cI P w K mg base CX0 3 f1 fd1 pzd spWaits)(G2:Fn K mg "width_of" sWidth ["net","span"] f2 fd2):cI P w K mg base CX0 4 f fd pzd spBroken:=by
 have F2:cI P w K mg base CX0 1 f2 fd2 ["net","span"] spWidth:=ok_width G2.F;refine F.ok scBroken (by contradiction) (fun cdv A outer s H vs Q E hr h=>?_);obtain ⟨v,u,b,m,sp,ts,rfl,hv,hu,R,k⟩:=h;have hr1:iZ 1 _:=hr.mono (by decide);refine ⟨_,PSl.h (bf ⟨(psZ 2 scBroken.nd (pc1 G1 F1 hr (ah (pv 0) (ah (pv 1) aw))))⟩
  (fR ⟨(bI (dQ gN rfl T.ttup gP (ah (pe_compT (xs:=["span","wait"]) (fr:=["net"]) (js:=[0]) rfl (pi_enum rfl T2.enum (ah (pv 2) aw)) (by trivial) rfl (by trivial) (by exists sBroken) rfl (by trivial) (fun _ _ _ _ _=>pg_two rfl (by trivial) rfl rfl) (fun _ _ _ _ _=>⟨(pv 0),(pts_one (cD op_gt (pv 1) (pc1 G2 F2 hr1 (ah (pv 2) (ah (pv 0) aw))) (cP _)))⟩)) aw)))⟩)),?_⟩
 have few:=R.few;refine ⟨_,rfl,_,rfl,v,u,b,m,sp,ts,rfl,hv,hu,R,fun p1 H1 S1 h1=>?_⟩;have hlen:((j4 b ts sp).map V.int).length=sp.length:=by unfold j4;rw [ae,ae]
 refine ⟨_,rfl,p1,_,rfl,h1,?_⟩;refine compT_enum (K:=K) (a:=p1) (xs:=(j4 b ts sp).map V.int) (fun i zs H2=>bO H1 H2∧zs=(bkAt b ts sp i).map V.int) ⟨bO.refl _,rfl⟩ (fun i zs H2 hi ⟨e1,e2⟩=>?_) (by rw [hlen];exact small_le few) (fun i x zs p2 H2 hx ⟨e1,e2⟩ hp2=>?_) (fun zs H2 ⟨e1,e2⟩ D hD=>?_)
 ·refine ⟨e1 _ _ h1,?_⟩
  rw [e2,ae];exact bkAt_len i
 ·have hi:i<sp.length:=by
   rw [←hlen];exact (ao.mp hx).1
  have hxe:x= .int (waitM b ts sp[i]):=by
   unfold j4 at hx;rw [aD,aD,gE hi] at hx;exact (bx hx).symm
  subst hxe;have S2:bO H1 (upd H2 p2 (.tup [.int (i:Nat),.int (waitM b ts sp[i])])):=e1.put hp2;refine ⟨_,rfl,_,rfl,_,rfl,v,b,m,sp,i,sp[i],rfl,(hv.same S1).same S2,gE hi,_,_,rfl,rfl,_,rfl,?_⟩;have hm:=bkAt_more (b:=b) (ts:=ts) (gE hi);refine jG (fun h1=>?_) (fun h1=>?_)
  ·have h1:brk b ts sp[i]=true:=h1
   refine ⟨_,rfl,S2,?_⟩;rw [hm,lJ h1,au,e2];rfl
  ·have h1:¬ brk b ts sp[i]=true:=h1
   refine ⟨S2,?_⟩;rw [hm,lI h1,List.append_nil,e2]
 ·refine ⟨D,_,rfl,SqL.of aK,fun p3 H3 S3 h3=>?_⟩
  refine k p3 H3 (S1.trans ((e1.put hD).trans S3)) ?_;rw [h3,e2,hlen];rfl
theorem scFits:bE pzd pzd (defScope sFits):=by trivial
theorem ok_fits (F:Fun K "fits" "fits" sFits f fd)(T:Nm mg)(G1:Fn K mg "broken_in" sBroken pzd f1 fd1)(F1:cI P w K mg base CX0 4 f1 fd1 pzd spBroken):cI P w K mg base CX0 5 f fd pzd spFits:=by
 refine F.ok scFits (by contradiction) (fun cdv A outer s H vs Q E hr h=>?_);obtain ⟨v,u,b,m,sp,ts,rfl,hv,hu,R,k⟩:=h;refine ⟨_,PSl.h (fR ⟨(bI (jb jC (cw cS rfl T.len bD (ah (pc1 G1 F1 hr (ah (pv 0) (ah (pv 1) aw))) aw)) aT (cP _)))⟩),?_⟩;refine ⟨_,rfl,_,rfl,v,u,b,m,sp,ts,rfl,hv,hu,R,fun p1 H1 S1 h1=>?_⟩;refine ⟨p1,_,rfl,.inr (SqT.of h1),rfl,?_⟩;have e:decide (V.int (((brokenM b ts sp).map V.int).length:Nat)=V.int 0)=fitsM b ts sp:=by
  rw [ia,decide_eq_true_iff,←brokenM_nil,ae]
  constructor
  ·intro z;injection z with z;lia
  ·intro z;rw [z];rfl
 rw [e];exact k H1 S1
end
end HN
namespace HN
open PySem L2 PyProof.Rows HT2
abbrev sLaw:b8:=top 61
inductive spLaw (K:ai)(vs:List V)(H:Hp)(Q:VK)(_:XK):Prop
 | mk (a:ak)(ns:List Int)(_:vs=[.ref a])(_:SqL K H a (ns.map V.int))(_:ns.length≤63)(_:∀ H',Q (.bl true) H')
theorem SqL.same' (S:bO H H')(h:SqL K H a xs):SqL K H' a xs:=by
 rcases h with (h | ⟨o,h⟩) | h
 ·exact .inl (.inl (S _ _ h))
 ·exact .inl (.inr ⟨o,S _ _ h⟩)
 ·exact .inr h
section
variable {w:aV}
theorem g9:bE ["_law_script","_law_pot_here","_law_names_here","_law_stops","_law_beat","_law_back","_law_at","_law_lines_here","_law_rides","_law_pair","_law_room","_law_gap","_law_row","_law_net","_law_labels","_law_places","_law_k","_law_one","_law_other","_law_due"] ["_law_script"] (defScope sLaw):=by trivial
theorem ok_law {fT fP fN fL fX fB fF fW fA fM:ak}{dT dP dN dL dX dB dF dW dA dM:aO}(F:Fun K "law" "law" sLaw f fd)(T:Nm mg)(T2:Nt mg)(hint:mg "int" =none)
  (GT:Fn K mg "_law_take" sTake pzh fT dT) (GP:Fn K mg "_law_pot" sPotT pze fP dP) (FP:cI P w K mg base CX0 2 fP dP pze (spPotT K))
  (GN:Fn K mg "_law_names" sNms pzs fN dN) (FN:cI P w K mg base CX0 2 fN dN pzs spNms)
  (GL:Fn K mg "_law_two_lines" sTwL pzy fL dL) (FL:cI P w K mg base CX0 3 fL dL pzy (spTwL K))
  (GX:Fn K mg "_law_text" sTxt pzt fX dX) (FX:cI P w K mg base CX0 1 fX dX pzt spTxt)
  (GB:Fn K mg "net_by" sNetBy pzf fB dB) (FB:cI P w K mg base CX0 8 fB dB pzf spNetBy)
  (GF:Fn K mg "fits" sFits pzd fF dF) (FF:cI P w K mg base CX0 5 fF dF pzd spFits)
  (GW:Fn K mg "_law_two_tables" sTwT pzx fW dW) (FW:cI P w K mg base CX0 2 fW dW pzx spTwT)
  (GA:Fn K mg "_law_apart_kept" sApk pzv fA dA) (FA:cI P w K mg base CX0 1 fA dA pzv spApk)
  (GM:Fn K mg "_law_meet_kept" sMek pzw fM dM) (FM:cI P w K mg base CX0 1 fM dM pzw spMek):cI P w K mg base CX0 9 f fd ["_law_script"] (spLaw K):=by
 have FT:cI P w K mg base CX0 1 fT dT pzh spTake:=ok_take GT.F;refine F.ok g9 (by contradiction) (fun cdv A outer s H vs Q E hr h=>?_);obtain ⟨a,ns,rfl,ha,hl,k⟩:=h;have hr1:iZ 1 _:=hr.mono (by decide);have hr2:iZ 2 _:=hr.mono (by decide);have hr3:iZ 3 _:=hr.mono (by decide);have hr5:iZ 5 _:=hr.mono (by decide);have hr8:iZ 8 _:=hr;refine ⟨_,PSl.h (bf ⟨(psZ 1 g9.nd (pc1 GP FP hr2 (ah (pv 0) (ah aT aw))))⟩
  (bf ⟨(psZ 2 g9.nd (pc1 GN FN hr2 (ah (pc1 GP FP hr2 (ah (pv 0) (ah aT aw))) (ah aT aw))))⟩
  (bf ⟨(psZ 3 g9.nd (pc1 GN FN hr2 (ah (pv 1) (ah aT aw))))⟩
  (bf ⟨(psZ 4 g9.nd (cn eN aT (pc1 GT FT hr1 (ah (pv 1) (ah (PEs.h (jo bh (k_lst (cT ff (cT ff (cT (k_op op_pow ff ff) a_nil)))) ⟨pc1 GT FT hr1 (ah (pv 1) (ah aT aw))⟩ (fun _ _=>rfl))) aw)))))⟩
  (bf ⟨(psZ 1 g9.nd (pc1 GP FP hr2 (ah (pv 0) (ah aT aw))))⟩
  (bf ⟨(psZ 5 g9.nd (jb jC (pc1 GT FT hr1 (ah (pv 1) (ah aT aw))) aT (cP _)))⟩
  (bf ⟨(psZ 6 g9.nd (pc1 GT FT hr1 (ah (pv 1) (ah aT aw))))⟩
  (bf ⟨(kE (ps_asg (pc1 GL FL hr3 (ah (pv 0) (ah (pv 2) (ah (pv 3) (ah (pv 4) (ah (pv 5) aw)))))) (j7 rfl (dU (pgZ 7 g9.nd) (dU (pgZ 8 g9.nd) i9)))))⟩
  (bf ⟨(psZ 9 g9.nd (iQ (ah (dO bh (dO bh (pv 8) aT (fun _ _=>rfl)) (pv 6) (fun _ _=>rfl)) (ah (dO bh (dO bh (pv 8) aT (fun _ _=>rfl)) (cn eM aT (pv 6)) (fun _ _=>rfl)) aw))))⟩
  (bf ⟨(psZ 10 g9.nd (PEs.h (jo bh (k_lst (cT ⟨pv 4⟩ (cT (k_op eM (k_op eM ⟨pv 4⟩ (jo bh ⟨pv 9⟩ ff (fun _ _=>rfl))) (jo bh ⟨pv 9⟩ ff (fun _ _=>rfl))) a_nil))) ⟨dQ kY rfl hint boot_int (ah (pv 5) aw)⟩ (fun _ _=>rfl))))⟩
  (bf ⟨(psZ 11 g9.nd (cn eN aT (pc1 GT FT hr1 (ah (pv 1) (ah (cw (call_max2 rfl) rfl T2.max boot_max (ah aT (ah (cn op_fdiv (pv 10) aT) aw))) aw)))))⟩
  (bf ⟨(fQ (cD op_lt (pv 10) (cn iG aT (pv 11)) (cP _)) (bp (bI ki)) cM)⟩
  (bf ⟨(psZ 12 g9.nd (PEs.h (k_lst (cT k_str (cT (jo bh ⟨pv 2⟩ ff (fun _ _=>rfl)) (cT (jo bh ⟨pv 2⟩ ff (fun _ _=>rfl)) (cT (jo bh ⟨pv 3⟩ ⟨pv 6⟩ (fun _ _=>rfl)) (cT ⟨pv 11⟩ a_nil))))))))⟩
  (bf ⟨(kE (fQ (jw (pv 5)) (bp (psZ 12 g9.nd (PEs.h (k_lst (cT k_str (cT (jo bh ⟨pv 2⟩ ff (fun _ _=>rfl)) (cT (jo bh ⟨pv 2⟩ ff (fun _ _=>rfl)) (cT (jo bh ⟨pv 3⟩ ⟨pv 6⟩ (fun _ _=>rfl)) (cT (jo bh ⟨pv 3⟩ (k_op eN ⟨pv 6⟩ ff) (fun _ _=>rfl)) (cT ⟨pv 11⟩ a_nil)))))))))) cM))⟩
  (bf ⟨(kE (ps_asg (pc1 GB FB hr8 (ah (pc1 GX FX hr1 (ah (pv 4) (ah (cn jD (pv 7) (iQ (ah (pv 12) aw))) aw))) aw)) (j7 rfl (dU (pgZ 13 g9.nd) (dU (pgZ 14 g9.nd) i9)))))⟩
  (bf ⟨(psZ 15 g9.nd (iQ (ah (cn iG aT (pv 6)) (ah (cn iG aT (PEs.h (jo bh (k_lst (cT ⟨pv 6⟩ (cT (k_op eM ff ⟨pv 6⟩) a_nil))) ⟨dQ kY rfl hint boot_int (ah (pv 5) aw)⟩ (fun _ _=>rfl)))) aw))))⟩
  (bf ⟨(iV cJ rfl (pi_range2 rfl T2.range (ah aT (ah (cw (call_max2 rfl) rfl T2.max boot_max (ah aT (ah (cw (kX rfl) rfl T.min boot_min (ah (cw cS rfl T.len bD (ah (pv 0) aw)) (ah aT aw))) aw))) aw))) (pgZ 16 g9.nd) (PSl.h (bf ⟨(kE (ps_asg (pc1 GW FW hr2 (ah (pc1 GP FP hr2 (ah (pv 0) (ah (pv 16) aw))) (ah (pv 4) (ah (pv 8) (ah (pv 15) (ah (pv 9) (ah (pv 11) aw))))))) (j7 rfl (dU (pgZ 17 g9.nd) (dU (pgZ 18 g9.nd) i9)))))⟩
  (bf ⟨(psZ 19 g9.nd (pc1 GA FA hr1 (ah (pv 4) (ah (dO bh (pv 17) (dO bh (pv 15) aT (fun _ _=>rfl)) (fun _ _=>rfl)) (ah (dO bh (pv 18) (dO bh (pv 15) aT (fun _ _=>rfl)) (fun _ _=>rfl)) (ah (pv 11) aw))))))⟩
  (bf ⟨(kE (fQ (jw (pv 5)) (bp (psZ 19 g9.nd (pc1 GM FM hr1 (ah (pv 4) (ah (dO bh (pv 17) (dO bh (pv 15) aT (fun _ _=>rfl)) (fun _ _=>rfl)) (ah (dO bh (pv 18) (dO bh (pv 15) aT (fun _ _=>rfl)) (fun _ _=>rfl)) (ah (pv 9) (ah (pv 11) aw)))))))) cM))⟩
  (fR ⟨(fQ (cD op_ne (pc1 GF FF hr5 (ah (pv 13) (ah (dQ gN rfl T.ttup gP (ah (cn jD (pv 17) (pv 18)) aw)) aw))) (pv 19) (cP _)) (bp (bI ki)) cM)⟩))))))⟩
  (fR ⟨(bI ki)⟩)))))))))))))))))),?_⟩
 have dr:∀ {H':Hp},bO H H'→SqL K H' a (ns.map V.int):=fun S=>SqL.same' S ha
 refine ⟨_,rfl,a,ns,1,rfl,ha,by decide,by decide,fun m1 p1 hp1=>?_⟩;have S1:bO H (upd H p1 (.lst [.int m1])):=bO.put (bO.refl H) hp1;have h1:(upd H p1 (.lst [.int m1])) p1=some (.lst [.int m1]):=aK;generalize upd H p1 (.lst [.int m1])=H1 at S1 h1 ⊢;refine ⟨_,rfl,a,ns,2,rfl,dr S1,by decide,by decide,fun m2 p2 hp2=>?_⟩;have S2:bO H1 (upd H1 p2 (.lst [.int m2])):=bO.put (bO.refl H1) hp2;have h2:(upd H1 p2 (.lst [.int m2])) p2=some (.lst [.int m2]):=aK;generalize upd H1 p2 (.lst [.int m2])=H2 at S2 h2 ⊢;refine ⟨p2,m2,2,rfl,h2,by decide,fun N nn H3 M3 _ hN ln ndN okN=>?_⟩;have S3:bO H1 H3:=bO.mv S2 hp2 M3;obtain ⟨n1,n2,rfl⟩:∃ x y,nn=[x,y]:=by
  match nn,ln with
  | [x,y],_=>exact ⟨x,y,rfl⟩
 have hN:H3 N=some (.lst [.str n1,.str n2]):=hN;refine ⟨_,rfl,p1,m1,3,rfl,S3 _ _ h1,by decide,fun S ss H4 M4 _ hS ls ndS okS=>?_⟩;have S4:bO H H4:=bO.mv (S1.trans S3) hp1 M4;obtain ⟨s0,s1,s2,rfl⟩:∃ x y z,ss=[x,y,z]:=by
  match ss,ls with
  | [x,y,z],_=>exact ⟨x,y,z,rfl⟩
 have hS:H4 S=some (.lst [.str s0,.str s1,.str s2]):=hS;have hN4:=M4.1 _ _ (cV hN (S3 _ _ h1) (ip (by simp))) hN;obtain ⟨m4,hp4⟩:=M4.2;clear h1 h2 S2 S3 M3 M4 hN hp2;refine ⟨_,rfl,_,_,rfl,rfl,⟨by decide,by decide,by decide⟩,(by show 3≤ar;decide),fun L5 H5 S5 h5=>?_⟩;refine ⟨_,rfl,p1,m4,3,rfl,S5 _ _ hp4,by decide,by decide,fun r6 H6 a60 a61 M6=>?_⟩;have h6:=M6.1 _ _ (cV h5 (S5 _ _ hp4) (ip (by simp))) h5;obtain ⟨v,ev,mv⟩:=atI_in (xs:=[V.int 59,.int 8,.int (10 ^ 20)]) a60 (by show r6<3;lia);obtain ⟨M,rfl,M1,M2⟩:∃ M:Int,v= .int M∧1≤M∧M≤10 ^ 20:=by
  simp only [aq,aI,or_false] at mv
  rcases mv with rfl | rfl | rfl
  ·exact ⟨_,rfl,by decide,by decide⟩
  ·exact ⟨_,rfl,by decide,by decide⟩
  ·exact ⟨_,rfl,by decide,by decide⟩
 obtain ⟨m6,hp6⟩:=M6.2;refine ⟨L5,_,_,_,rfl,rfl,SqL.of h6,ev,p1,m6,M,rfl,hp6,by lia,by lia,fun r7 H7 a70 a71 M7=>⟨_,_,rfl,rfl,?_⟩⟩;obtain ⟨b,eb⟩:∃ b,2+r7=b:=⟨_,rfl⟩;have hb2:2≤b:=by lia
 have hb3:b≤10 ^ 20+2:=by lia
 show jq 4 (V.int (2+r7)) _ _ _;rw [eb];have M47:Mv p1 H4 H7:=((Mv.of S5 (S5 _ _ hp4)).trans M6).trans M7;have nSp:S≠p1:=cV hS hp4 (ip (by simp));have nNp:N≠p1:=cV hN4 hp4 (ip (by simp));have hS7:=M47.1 _ _ nSp hS;have hN7:=M47.1 _ _ nNp hN4;have S7:bO H H7:=bO.mv S4 hp1 M47;clear h5 h6 ev mv M6 M7 M47 hp6 hp4 hS hN4 S5 eb a70 a71 a60 a61;refine ⟨_,rfl,a,ns,4,rfl,dr S7,by decide,by decide,fun m8 p hp=>?_⟩;have S8:bO H7 (upd H7 p (.lst [.int m8])):=bO.put (bO.refl H7) hp;have h8:(upd H7 p (.lst [.int m8])) p=some (.lst [.int m8]):=aK;have np:H p=none:=by
  cases e:H p with
  | none=>rfl
  | some o=>rw [S7 _ _ e] at hp;cases hp
 generalize upd H7 p (.lst [.int m8])=H8 at S8 h8 ⊢;refine ⟨_,rfl,p,m8,2,rfl,h8,by decide,by decide,fun r9 H9 _ _ M9=>⟨rfl,?_⟩⟩;obtain ⟨m9,hp9⟩:=M9.2;refine ⟨_,rfl,p,m9,2,rfl,hp9,by decide,by decide,fun r10 H10 c0 c1 M10=>?_⟩;have Ma:Mv p H8 H10:=M9.trans M10;have nS:S≠p:=cV (S8 _ _ hS7) h8 (ip (by simp));have nN:N≠p:=cV (S8 _ _ hN7) h8 (ip (by simp));have hSa:=Ma.1 _ _ nS (S8 _ _ hS7);have hNa:=Ma.1 _ _ nN (S8 _ _ hN7);have Sa:bO H H10:=fun c o e=>Ma.1 _ _ (aJ e np) (S8 _ _ (S7 _ _ e))
 obtain ⟨ma,hpa⟩:=Ma.2;obtain ⟨at_,rfl⟩:=dG c0;have at2:at_<2:=by lia
 clear M9 M10 Ma hp9 h8 S8 hS7 hN7 S7 hp;refine ⟨fun σ' H'=>∃ (bk:Bool) (LL R r1 r2 A B:ak) (a0 a1 b0 b1:Int),bO H10 H'∧H' LL=some (.lst [.ref r1,.ref r2])∧H' r1=some (.lst (jY n1 s0 s1 s2 a0 a1))∧H' r2=some (.lst (jY n2 (if bk then s2 else s0) s1 (if bk then s0 else s2) b0 b1)) ∧
  H' R=some (.lst [.ref A,.ref B])∧H' A=some (.lst [.int a0,.int a1])∧H' B=some (.lst [.int b0,.int b1])∧D9 a0∧D9 a1∧D9 b0∧D9 b1 ∧
  σ'=[some (.ref a),some (.ref p),some (.ref N),some (.ref S),some (.int b),some (.bl bk),some (.int (at_:Nat)),some (.ref LL),some (.ref R),none,none,none,none,none,none,none,none,none,none,none],fun σ' H11 q=>?_,?_⟩
 rotate_left
 ·refine ⟨_,rfl,_,rfl,_,rfl,_,rfl,_,rfl,a,N,S,ns,n1,n2,s0,s1,s2,b,_,rfl,dr Sa,hNa,hSa,by lia,fun q LL R r1 r2 A B a0 a1 b0 b1 H11 S11 e1 e2 e3 e4 e5 e6 e7 d1 d2 d3 d4=>?_⟩
  refine ⟨q,_,rfl,SqT.of e1,rfl,_,_,rfl,_,_,rfl,rfl,?_⟩;exact ⟨_,LL,R,r1,r2,A,B,a0,a1,b0,b1,S11,e2,e3,e4,e5,e6,e7,d1,d2,d3,d4,rfl⟩
 obtain ⟨bk,LL,R,r1,r2,A',B,a0,a1,b0,b1,Sb,hLL,hr1',hr2',hR,hA,hB,d1,d2,d3,d4,rfl⟩:=q;have hpb:=Sb _ _ hpa;have hNb:=Sb _ _ hNa;have hSb:=Sb _ _ hSa;have Sb':bO H H11:=Sa.trans Sb;clear hSa hNa hpa Sb;have eA:atI [V.int a0,V.int a1] (at_:Int)=some (.int (pk2 at_ a0 a1)):=by
  obtain rfl | rfl:at_=0∨at_=1:=by lia
  ·rfl
  ·rfl
 have eB:atI [V.int b0,V.int b1] (1 - (at_:Int))=some (.int (pk2 at_ b1 b0)):=by
  obtain rfl | rfl:at_=0∨at_=1:=by lia
  ·rfl
  ·rfl
 refine ⟨_,rfl,R,_,_,_,rfl,rfl,SqL.of hR,aC (j:=0) rfl,_,rfl,A',_,_,_,rfl,rfl,SqL.of hA,eA,_,rfl,R,_,_,_,rfl,rfl,SqL.of hR,aC (j:=1) rfl,_,rfl,_,_,rfl,rfl,B,_,_,_,rfl,rfl,SqL.of hB,eB,szZ2,fun Tp H12 S12 h12=>?_⟩;have p0:=pk_D9 (at_:=at_) d1 d2;have p1':=pk_D9 (at_:=at_) d4 d3;have eR:atI [V.int b,V.int (b - pk2 at_ a0 a1 - pk2 at_ b1 b0)] (if bk=true then 1 else 0)=some (.int (jN bk at_ b a0 a1 b0 b1)):=by cases bk <;> rfl
 have hR3:jN bk at_ b a0 a1 b0 b1≤b:=by
  have:=p0.a;have:=p1'.a;unfold jN;split <;> lia
 refine ⟨_,rfl,_,rfl,_,rfl,Tp,_,_,_,rfl,rfl,SqL.of h12,aC (j:=0) rfl,_,_,rfl,rfl,_,rfl,Tp,_,_,_,rfl,rfl,SqL.of h12,aC (j:=1) rfl,_,_,rfl,rfl,szZ2,fun L13 H13 S13 h13=>?_⟩;refine ⟨_,rfl,.inr ⟨bk,rfl,L13,_,_,_,rfl,rfl,SqL.of h13,eR,?_⟩⟩;generalize hrm:jN bk at_ b a0 a1 b0 b1=rm at hR3;have hp13:=S13 _ _ (S12 _ _ hpb);refine ⟨_,rfl,_,rfl,_,_,rfl,rfl,⟨by decide,by decide⟩,_,_,rfl,p,ma,_,rfl,hp13,?_,?_,fun r14 H14 a14 c14 M14=>⟨_,_,rfl,rfl,?_⟩⟩
 ·show 0<(if (1:Int)<rm / 2 then rm / 2 else 1)
  split <;> lia
 ·show (if (1:Int)<rm / 2 then rm / 2 else 1)<10 ^ 61
  split <;> lia
 obtain ⟨g,eg⟩:∃ g,1+r14=g:=⟨_,rfl⟩;have g1:1≤g:=by lia
 show jq 11 (V.int (1+r14)) _ _ _;rw [eg];refine ⟨_,rfl,_,rfl,_,_,rfl,rfl,.inl ⟨by decide,by decide⟩,_,_,rfl,rfl,_,rfl,jG (fun _=>k H14) (fun hc=>?_)⟩;have g2:2 * g≤jN bk at_ b a0 a1 b0 b1:=by
  have hc:¬ decide (rm<2 * g)=true:=hc;have:¬ rm<2 * g:=fun z=>hc (lL z)
  lia
 have m1':=okN n1 (by simp);have m2':=okN n2 (by simp);have m3':=okS s0 (by simp);have m4':=okS s1 (by simp);have m5':=okS s2 (by simp);have hyp:Hyp bk at_ n1 n2 s0 s1 s2 b g a0 a1 b0 b1:=⟨at2,by lia,by lia,fun z=>(aX.mp ndN).1 (by rw [z];simp),ndS,m1',m2',m3',m4',m5',d1,d2,d3,d4,g1,g2⟩;have S1214:Mv p H11 H14:=((Mv.of S12 (S12 _ _ hpb)).then S13).trans M14;have far:∀ {c:ak} {xs:List V},xs.length≠1→H11 c=some (.lst xs)→H14 c=some (.lst xs):=fun h e=>S1214.1 _ _ (cV e hpb (ip h)) e
 have hLL4:=far (by simp) hLL;have hr14:=far (by simp) hr1';have hr24:=far (by simp) hr2';have hR4:=far (by simp) hR;have hA4:=far (by simp) hA;have hB4:=far (by simp) hB;have hN4':=far (by simp) hNb;have hS4':=far (by simp) hSb;have hT4:H14 Tp=some (.lst [.int (pk2 at_ a0 a1),.int (pk2 at_ b1 b0)]):=M14.1 _ _ (cV (S13 _ _ h12) hp13 (ip (by simp))) (S13 _ _ h12);have S14:bO H H14:=fun c o e=>S1214.1 _ _ (aJ e np) (Sb' _ _ e)
 clear far S1214 hLL hr1' hr2' hR hA hB hNb hSb h12 h13 S12 S13 M14 hp13 hpb;have eS:atI [V.str s0,V.str s1,V.str s2] (at_:Int)=some (.str (pk2 at_ s0 s1)):=by
  obtain rfl | rfl:at_=0∨at_=1:=by lia
  ·rfl
  ·rfl
 have eS2:atI [V.str s0,V.str s1,V.str s2] ((at_:Int)+1)=some (.str (pk2 at_ s1 s2)):=by
  obtain rfl | rfl:at_=0∨at_=1:=by lia
  ·rfl
  ·rfl
 refine ⟨_,rfl,N,_,_,_,rfl,rfl,SqL.of hN4',aC (j:=0) rfl,_,rfl,N,_,_,_,rfl,rfl,SqL.of hN4',aC (j:=1) rfl,_,rfl,_,rfl,S,_,_,_,rfl,rfl,SqL.of hS4',eS,_,rfl,szZ5,fun W H15 S15 h15=>?_⟩;refine ⟨fun σ' H'=>∃ W:ak,bO H14 H'∧H' W=some (.lst (rwBk bk at_ n1 n2 s0 s1 s2 g)) ∧
  σ'=[some (.ref a),some (.ref p),some (.ref N),some (.ref S),some (.int b),some (.bl bk),some (.int (at_:Nat)),some (.ref LL),some (.ref R),some (.ref Tp),some (.int rm),some (.int g),some (.ref W),none,none,none,none,none,none,none],fun σ' H16 q=>?_,?_⟩
 rotate_left
 ·refine ⟨_,rfl,_,rfl,jG (fun hbk=>?_) (fun hbk=>?_)⟩
  ·subst hbk
   refine ⟨_,rfl,N,_,_,_,rfl,rfl,SqL.of (S15 _ _ hN4'),aC (j:=0) rfl,_,rfl,N,_,_,_,rfl,rfl,SqL.of (S15 _ _ hN4'),aC (j:=1) rfl,_,rfl,_,rfl,S,_,_,_,rfl,rfl,SqL.of (S15 _ _ hS4'),eS,_,rfl,_,rfl,_,_,rfl,rfl,S,_,_,_,rfl,rfl,SqL.of (S15 _ _ hS4'),eS2,_,rfl,(by show 6≤ar;decide),fun W2 H16 S16 h16=>?_⟩;exact ⟨W2,S15.trans S16,h16,by rw [←hrm];rfl⟩
  ·have hbk:bk=false:=by simpa using hbk
   subst hbk;exact ⟨W,S15,h15,by rw [←hrm];rfl⟩
 obtain ⟨W',S16,hW,rfl⟩:=q;clear h15 S15;have rowsAt:∀ {H':Hp},bO H16 H'→RwAt H' [.ref r1,.ref r2,.ref W'] (kZ bk at_ n1 n2 s0 s1 s2 g a0 a1 b0 b1):=fun S'=>by
  refine ⟨rfl,fun i r hr=>?_⟩
  match i,hr with
  | 0,hr=>cases hr;exact ⟨r1,rfl,S' _ _ (S16 _ _ hr14)⟩
  | 1,hr=>cases hr;exact ⟨r2,rfl,S' _ _ (S16 _ _ hr24)⟩
  | 2,hr=>cases hr;exact ⟨W',rfl,S' _ _ hW⟩
  | i+3,hr=>cases hr
 refine ⟨fun σ' H'=>∃ vn vl:V,bO H16 H'∧IsD H' vn (netP b 8 (k7 [ln1 n1 s0 s1 s2 a0 a1,ln2 n2 (bk1 bk s0 s2) s1 (bk2 bk s0 s2) b0 b1] [snBk bk at_ b g a0 a1 b0 b1])) ∧
  σ'=[some (.ref a),some (.ref p),some (.ref N),some (.ref S),some (.int b),some (.bl bk),some (.int (at_:Nat)),some (.ref LL),some (.ref R),some (.ref Tp),some (.int rm),some (.int g),some (.ref W'),some vn,some vl,none,none,none,none,none],fun σ' H20 q=>?_,?_⟩
 rotate_left
 ·refine ⟨_,rfl,_,rfl,_,rfl,szZ1,fun L17 H17 S17 h17=>⟨LL,L17,_,_,rfl,rfl,S17 _ _ (S16 _ _ hLL4),h17,(by show 2+1≤ar;decide),fun L18 H18 S18 h18=>?_⟩⟩
  refine ⟨b,L18,_,kZ bk at_ n1 n2 s0 s1 s2 g a0 a1 b0 b1,rfl,hyp.wb,h18,rowsAt (S17.trans S18),by simp,fun r hr=>⟨(rows3_ok hyp r hr).1,fun v hv=>((rows3_ok hyp r hr).2 v hv).wd⟩,fun H19 S19=>?_⟩;refine hyp.net fun v H20 S20 d=>?_
  obtain ⟨q,xs,rfl,hq,dd⟩:=d.tup_of;cases dd with
  | cons dn dd =>
   cases dd with
   | cons dl dd =>
    cases dd;exact ⟨q,_,rfl,SqT.of hq,rfl,_,_,rfl,_,_,rfl,rfl,_,_,S17.trans (S18.trans (S19.trans S20)),dn,rfl⟩
 obtain ⟨vn,vl,S20,dn,rfl⟩:=q;have hT20:=S20 _ _ (S16 _ _ hT4);have hR20:=S20 _ _ (S16 _ _ hR4);have hA20:=S20 _ _ (S16 _ _ hA4);have hB20:=S20 _ _ (S16 _ _ hB4);have SH20:bO H H20:=S14.trans (S16.trans S20);clear hLL4 hr14 hr24 hR4 hA4 hB4 hN4' hS4' hT4 hW rowsAt S14 S16;have eP:atI [V.int (at_:Nat),V.int (1 - (at_:Nat))] (if bk=true then 1 else 0)=some (.int ((if bk then 1 - at_ else at_:Nat):Int)):=by
  obtain rfl | rfl:at_=0∨at_=1:=by lia
  ·cases bk <;> rfl
  ·cases bk <;> rfl
 refine ⟨_,rfl,_,_,rfl,rfl,.inl ⟨by decide,by decide⟩,_,rfl,_,rfl,_,_,rfl,rfl,szZ2,fun L21 H21 S21 h21=>⟨_,rfl,.inr ⟨bk,rfl,L21,_,_,_,rfl,rfl,SqL.of h21,eP,_,_,rfl,rfl,.inl ⟨by decide,by decide⟩,szZ2,fun PL H22 S22 h22=>?_⟩⟩⟩;obtain ⟨jx,ejx,jl⟩:∃ jx:Nat,(if bk then 1 - at_ else at_)=jx∧jx<2:=⟨_,rfl,by split <;> lia⟩;have h22:H22 PL=some (.lst [.int ((2 * at_:Nat):Int),.int ((2 * (if bk then 1 - at_ else at_):Nat):Int)]):=by
  rw [show ((2 * at_:Nat):Int)=2 * (at_:Int) by lia,show ((2 * (if bk then 1 - at_ else at_):Nat):Int)=2 * ((if bk then 1 - at_ else at_:Nat):Int) by lia];exact h22
 have S2022:=S21.trans S22;have SH22:=SH20.trans S2022;have dn22:=IsD.same S2022 dn;have hT22:=S2022 _ _ hT20;have hR22:=S2022 _ _ hR20;have hA22:=S2022 _ _ hA20;have hB22:=S2022 _ _ hB20;clear h21 S21 S22 S2022 dn hT20 hR20 hA20 hB20 SH20 S20;refine ⟨_,rfl,a,_,rfl,.inl (dr SH22),_,_,rfl,_,_,rfl,8,_,rfl,?_,?_⟩
 ·refine ⟨by decide,by decide,?_,?_⟩
  ·show -(2 ^ 62)≤(if (if (48:Int)<((ns.map V.int).length:Int) then (48:Int) else ((ns.map V.int).length:Int)) > 9 then (if (48:Int)<((ns.map V.int).length:Int) then (48:Int) else ((ns.map V.int).length:Int)) else 9)
   split <;> lia
  ·show (if (if (48:Int)<((ns.map V.int).length:Int) then (48:Int) else ((ns.map V.int).length:Int)) > 9 then (if (48:Int)<((ns.map V.int).length:Int) then (48:Int) else ((ns.map V.int).length:Int)) else 9)<2 ^ 62
   split
   ·split <;> lia
   ·lia
 have hn:((if (if (48:Int)<((ns.map V.int).length:Int) then (48:Int) else ((ns.map V.int).length:Int)) > 9 then (if (48:Int)<((ns.map V.int).length:Int) then (48:Int) else ((ns.map V.int).length:Int)) else 9) - 8).toNat≤40:=by
  split
  ·split <;> lia
  ·lia
 refine kR (lo:=8) (n:=((if (if (48:Int)<((ns.map V.int).length:Int) then (48:Int) else ((ns.map V.int).length:Int)) > 9 then (if (48:Int)<((ns.map V.int).length:Int) then (48:Int) else ((ns.map V.int).length:Int)) else 9) - 8).toNat) (fun i σ H2=>bO H22 H2∧∃ v16 v17 v18 v19,σ=[some (.ref a),some (.ref p),some (.ref N),some (.ref S),some (.int b),some (.bl bk),some (.int (at_:Nat)),some (.ref LL),some (.ref R),some (.ref Tp),some (.int rm),some (.int g),some (.ref W'),some vn,some vl,some (.ref PL),v16,v17,v18,v19])
  ⟨bO.refl _,none,none,none,none,rfl⟩ ?_ ?_
 ·rintro i σ H2 hi ⟨S2,v16,v17,v18,v19,rfl⟩
  refine ⟨fun σ' H'=>∃ (L1 L2:ak) (f m:Int),bO H22 H'∧H' L1=some (.lst ((tmI b f a0 a1).map V.int))∧H' L2=some (.lst (((tmI b 0 b0 b1).map fun t=>(t+m) % b).map V.int)) ∧
   σ'=[some (.ref a),some (.ref p),some (.ref N),some (.ref S),some (.int b),some (.bl bk),some (.int (at_:Nat)),some (.ref LL),some (.ref R),some (.ref Tp),some (.int rm),some (.int g),some (.ref W'),some vn,some vl,some (.ref PL),some (.int (8+(i:Nat))),some (.ref L1),some (.ref L2),v19],fun σ' H4 q=>?_,?_⟩
  rotate_left
  ·refine ⟨_,rfl,_,rfl,a,ns,8+(i:Nat),rfl,dr (SH22.trans S2),by lia,by lia,fun mk pk hpk=>?_⟩
   have S3:bO H2 (upd H2 pk (.lst [.int mk])):=bO.put (bO.refl H2) hpk;have h3:(upd H2 pk (.lst [.int mk])) pk=some (.lst [.int mk]):=aK;have npk:H22 pk=none:=by
    cases e:H22 pk with
    | none=>rfl
    | some o=>rw [S2 _ _ e] at hpk;cases hpk
   generalize upd H2 pk (.lst [.int mk])=H3 at S3 h3 ⊢;have S23:=S2.trans S3;refine ⟨_,rfl,_,rfl,_,rfl,_,rfl,_,rfl,pk,R,A',B,PL,Tp,mk,b,g,a0,a1,b0,b1,_,_,2 * at_,2 * (if bk then 1 - at_ else at_),rfl,h3,by lia,by lia,S23 _ _ hR22,S23 _ _ hA22,S23 _ _ hB22,S23 _ _ h22,by lia,by split <;> lia,S23 _ _ hT22,fun q L1 L2 f m H4 M4 _ _ hq h1 h2=>?_⟩;exact ⟨q,_,rfl,SqT.of hq,rfl,_,_,rfl,_,_,rfl,rfl,L1,L2,f,m,fun c o e=>M4.1 _ _ (aJ e npk) (S23 _ _ e),h1,h2,rfl⟩
  obtain ⟨L1,L2,f,m,S4,h1,h2,rfl⟩:=q;obtain ⟨x,hx⟩:∃ x,(tmI b f a0 a1)[2 * at_]? =some x:=⟨_,gE (by show 2 * at_<4;lia)⟩;obtain ⟨y,hy⟩:∃ y,((tmI b 0 b0 b1).map fun t=>(t+m) % b)[2 * (if bk then 1 - at_ else at_)]? =some y:=⟨_,gE (by rw [ae];show 2 * (if bk then 1 - at_ else at_)<4;split <;> lia)⟩;have h224:=S4 _ _ h22;have hx':((tmI b f a0 a1).map V.int)[2 * at_]? =some (.int x):=by rw [aD,hx];rfl
  have hy':(((tmI b 0 b0 b1).map fun t=>(t+m) % b).map V.int)[2 * (if bk then 1 - at_ else at_)]? =some (.int y):=by rw [aD,hy];rfl
  refine ⟨_,rfl,_,rfl,_,rfl,PL,_,_,_,rfl,rfl,SqL.of h224,aC (j:=0) rfl,L1,_,_,_,rfl,rfl,SqL.of h1,aC hx',_,rfl,_,rfl,PL,_,_,_,rfl,rfl,SqL.of h224,aC (j:=1) rfl,L2,_,_,_,rfl,rfl,SqL.of h2,aC hy',_,rfl,b,x,y,g,rfl,by lia,?_⟩;refine ⟨fun σ' H'=>bO H4 H'∧σ'=[some (.ref a),some (.ref p),some (.ref N),some (.ref S),some (.int b),some (.bl bk),some (.int (at_:Nat)),some (.ref LL),some (.ref R),some (.ref Tp),some (.int rm),some (.int g),some (.ref W'),some vn,some vl,some (.ref PL),some (.int (8+(i:Nat))),some (.ref L1),some (.ref L2),some (.bl (dueBk bk at_ b g a0 a1 b0 b1 (y - x)))],fun σ' H5 q=>?_,?_⟩
  rotate_left
  ·refine ⟨_,rfl,_,rfl,jG (fun hbk=>?_) (fun hbk=>?_)⟩
   ·subst hbk
    refine ⟨_,rfl,_,rfl,_,rfl,PL,_,_,_,rfl,rfl,SqL.of h224,aC (j:=0) rfl,L1,_,_,_,rfl,rfl,SqL.of h1,aC hx',_,rfl,_,rfl,PL,_,_,_,rfl,rfl,SqL.of h224,aC (j:=1) rfl,L2,_,_,_,rfl,rfl,SqL.of h2,aC hy',_,rfl,_,rfl,b,x,y,_,_,g,Tp,rfl,S4 _ _ hT22,by lia,fun H5 S5=>?_⟩;exact ⟨S5,rfl⟩
   ·have hbk:bk=false:=by simpa using hbk
    subst hbk;exact ⟨bO.refl _,rfl⟩
  obtain ⟨S5,rfl⟩:=q;refine ⟨_,rfl,_,rfl,_,rfl,L1,L2,_,_,rfl,rfl,S5 _ _ h1,S5 _ _ h2,(by show 4+4≤ar;decide),fun L6 H6 S6 h6=>⟨L6,_,rfl,SqL.of h6,fun t H7 S7 h7=>?_⟩⟩;have S47:=S5.trans (S6.trans S7);refine ⟨vn,t,b,8,_,tab2 b f m a0 a1 b0 b1,rfl,IsD.same (S4.trans S47) dn22,?_,hyp.rdy f m,fun H8 S8=>?_⟩
  ·rw [h7]
   unfold tab2;rw [au]
  rw [hyp.fit hx hy];refine ⟨_,rfl,rfl,_,rfl,jz (by simp) ?_⟩;exact ⟨S4.trans (S47.trans S8),_,_,_,_,rfl⟩
 ·rintro σ H2 ⟨S2,v16,v17,v18,v19,rfl⟩
  exact k H2
end
theorem tupK2 {t:ak}{x y:Int}{a b:Tok}(h:K.lookup t=some ⟨.type "tuple",od,.seq #[.int x a,.int y b] n,sl⟩)(H:Hp):SqT K H t [.int x,.int y] :=
 .inr ⟨_,#[.int x a,.int y b],n,h,rfl,rfl,szZ2,.cons ⟨_,rfl⟩ (.cons ⟨_,rfl⟩ .nil)⟩
theorem unt_mk {t:ak}{a b c:Tok}(hm:mg "STAY_UNTOLD" =some (.ref t))(h:K.lookup t=some ⟨.type "tuple",od,.seq #[.int 0 a,.int 0 b,.int 0 c] n,sl⟩):Unt K mg :=
 ⟨t,hm,fun H=> .inr ⟨_,#[.int 0 a,.int 0 b,.int 0 c],n,h,rfl,rfl,(by show 3≤ar;decide),.cons ⟨_,rfl⟩ (.cons ⟨_,rfl⟩ (.cons ⟨_,rfl⟩ .nil))⟩⟩
theorem fms_mk {w:aV}{aF t1 t2 t3 t4:ak}{k1 k2 k3 k4 a1 a2 a3 a4 b1 b2 b3 b4:Tok}{m1 m2 m3 m4:Nat}{o1 o2 o3 o4:Option ak}{l1 l2 l3 l4:Array (Option af)}(hm:mg "FORMS" =some (.ref aF))(hs:(aF == eK)=false)
  (hl:K.lookup aF=some ⟨.type "dict",none,.dict #[⟨cQ w.params "stay",.str "stay" k1,.ref t1⟩,⟨cQ w.params "change",.str "change" k2,.ref t2⟩,⟨cQ w.params "apart",.str "apart" k3,.ref t3⟩,⟨cQ w.params "meet",.str "meet" k4,.ref t4⟩] n,#[]⟩)
  (h1:K.lookup t1=some ⟨.type "tuple",o1,.seq #[.int 2 a1,.int 3 b1] m1,l1⟩) (h2:K.lookup t2=some ⟨.type "tuple",o2,.seq #[.int 3 a2,.int 3 b2] m2,l2⟩) (h3:K.lookup t3=some ⟨.type "tuple",o3,.seq #[.int 3 a3,.int 1 b3] m3,l3⟩) (h4:K.lookup t4=some ⟨.type "tuple",o4,.seq #[.int 4 a4,.int 1 b4] m4,l4⟩):Fms P w K mg:=by
 refine ⟨aF,t1,t2,t3,t4,hm,⟨hs,[(.inr "stay",.ref t1),(.inr "change",.ref t2),(.inr "apart",.ref t3),(.inr "meet",.ref t4)],.cons ⟨rfl,rfl⟩ (.cons ⟨rfl,rfl⟩ (.cons ⟨rfl,rfl⟩ (.cons ⟨rfl,rfl⟩ .nil))),fun h hi=>⟨_,_,n,hi _ _ hl,⟨rfl,rfl,rfl⟩,rfl,fun e he=>?_,?_,?_⟩⟩,tupK2 h1,tupK2 h2,tupK2 h3,tupK2 h4⟩
 ·have he:e∈[DictEntry.mk (cQ w.params "stay") (.str "stay" k1) (.ref t1),⟨cQ w.params "change",.str "change" k2,.ref t2⟩,⟨cQ w.params "apart",.str "apart" k3,.ref t3⟩,⟨cQ w.params "meet",.str "meet" k4,.ref t4⟩]:=by simpa using he
  simp only [aq,aI,or_false] at he
  rcases he with rfl | rfl | rfl | rfl
  ·exact ⟨.inr "stay",gr "stay" k1,rfl⟩
  ·exact ⟨.inr "change",gr "change" k2,rfl⟩
  ·exact ⟨.inr "apart",gr "apart" k3,rfl⟩
  ·exact ⟨.inr "meet",gr "meet" k4,rfl⟩
 ·exact .cons (gr "stay" k1) rfl (.cons (gr "change" k2) rfl (.cons (gr "apart" k3) rfl (.cons (gr "meet" k4) rfl .nil)))
 ·show [(Sum.inr ("stay" :Str):Key),.inr "change",.inr "apart",.inr "meet"].Nodup
  decide +kernel
end HN
namespace HN
open PySem L2 PyProof.Rows
theorem args0 {P:List af→Prop}(h:P []):∀ us:List af,us.length=0→P us:=fun us hl=>by rw [List.length_eq_zero_iff.mp hl];exact h
theorem args1 {P:List af→Prop}(h:∀ x0,P [x0]):∀ us:List af,us.length=1→P us:=by
 intro us hl;obtain _ | ⟨x0,us⟩:=us <;> try (cases hl;done)
 obtain _ | ⟨y,us⟩:=us
 ·exact h x0
 ·exact lK hl (by simp only [aP];lia)
theorem args2 {P:List af→Prop}(h:∀ x0 x1,P [x0,x1]):∀ us:List af,us.length=2→P us:=by
 intro us hl;obtain _ | ⟨x0,us⟩:=us <;> try (cases hl;done)
 obtain _ | ⟨x1,us⟩:=us <;> try (cases hl;done)
 obtain _ | ⟨y,us⟩:=us
 ·exact h x0 x1
 ·exact lK hl (by simp only [aP];lia)
theorem args3 {P:List af→Prop}(h:∀ x0 x1 x2,P [x0,x1,x2]):∀ us:List af,us.length=3→P us:=by
 intro us hl;obtain _ | ⟨x0,us⟩:=us <;> try (cases hl;done)
 obtain _ | ⟨x1,us⟩:=us <;> try (cases hl;done)
 obtain _ | ⟨x2,us⟩:=us <;> try (cases hl;done)
 obtain _ | ⟨y,us⟩:=us
 ·exact h x0 x1 x2
 ·exact lK hl (by simp only [aP];lia)
theorem args4 {P:List af→Prop}(h:∀ x0 x1 x2 x3,P [x0,x1,x2,x3]):∀ us:List af,us.length=4→P us:=by
 intro us hl;obtain _ | ⟨x0,us⟩:=us <;> try (cases hl;done)
 obtain _ | ⟨x1,us⟩:=us <;> try (cases hl;done)
 obtain _ | ⟨x2,us⟩:=us <;> try (cases hl;done)
 obtain _ | ⟨x3,us⟩:=us <;> try (cases hl;done)
 obtain _ | ⟨y,us⟩:=us
 ·exact h x0 x1 x2 x3
 ·exact lK hl (by simp only [aP];lia)
theorem args5 {P:List af→Prop}(h:∀ x0 x1 x2 x3 x4,P [x0,x1,x2,x3,x4]):∀ us:List af,us.length=5→P us:=by
 intro us hl;obtain _ | ⟨x0,us⟩:=us <;> try (cases hl;done)
 obtain _ | ⟨x1,us⟩:=us <;> try (cases hl;done)
 obtain _ | ⟨x2,us⟩:=us <;> try (cases hl;done)
 obtain _ | ⟨x3,us⟩:=us <;> try (cases hl;done)
 obtain _ | ⟨x4,us⟩:=us <;> try (cases hl;done)
 obtain _ | ⟨y,us⟩:=us
 ·exact h x0 x1 x2 x3 x4
 ·exact lK hl (by simp only [aP];lia)
theorem args6 {P:List af→Prop}(h:∀ x0 x1 x2 x3 x4 x5,P [x0,x1,x2,x3,x4,x5]):∀ us:List af,us.length=6→P us:=by
 intro us hl;obtain _ | ⟨x0,us⟩:=us <;> try (cases hl;done)
 obtain _ | ⟨x1,us⟩:=us <;> try (cases hl;done)
 obtain _ | ⟨x2,us⟩:=us <;> try (cases hl;done)
 obtain _ | ⟨x3,us⟩:=us <;> try (cases hl;done)
 obtain _ | ⟨x4,us⟩:=us <;> try (cases hl;done)
 obtain _ | ⟨x5,us⟩:=us <;> try (cases hl;done)
 obtain _ | ⟨y,us⟩:=us
 ·exact h x0 x1 x2 x3 x4 x5
 ·exact lK hl (by simp only [aP];lia)
theorem Df.fn (a:Df K x st f)(X:K.In h)(G:h.Ns aW mg)
  (hb:∀ (kV dc pm:af) (an:Option ak) (cd ct:af) (us:List af),us.length=ps.length→bindArgs (dq x x (iC st) (hV st) (defScope st) .none kV dc pm an cd ct) ⟨us,[]⟩=fe (ps.zip us):=by intro _ _ _ _ _ _;first  | exact args0 rfl | exact args1 fun _=>rfl | exact args2 fun _ _=>rfl | exact args3 fun _ _ _=>rfl | exact args4 fun _ _ _ _=>rfl | exact args5 fun _ _ _ _ _=>rfl | exact args6 fun _ _ _ _ _ _=>rfl):∃ fd,Fn K mg x st ps f fd:=by
 obtain ⟨n,oc,od,an,sl,kV,dc,pm,cd,ct,l,c,k⟩:=a;have F:=fun_mk (st:=st) l c k;exact ⟨_,F,cO X G n,F.binds hb⟩
theorem Mf.fn {q:Str}(a:Mf K C x q st f)
  (hb:∀ (kV dc pm:af) (an:Option ak) (cd ct:af) (us:List af),us.length=ps.length→bindArgs (dq x q (iC st) (hV st) (defScope st) .none kV dc pm an cd ct) ⟨us,[]⟩=fe (ps.zip us):=by intro _ _ _ _ _ _;first | exact args1 fun _=>rfl | exact args2 fun _ _=>rfl | exact args3 fun _ _ _=>rfl | exact args5 fun _ _ _ _ _=>rfl):∃ fd,Fun K x q st f fd∧lG K C x f∧L2.Binds K fd ps []:=by
 obtain ⟨n,b,oc,od,an,sl,kV,dc,pm,cd,ct,l,c,k⟩:=a;have F:=fun_mk (st:=st) l c k;exact ⟨_,F,⟨n,b,k⟩,F.binds hb⟩
theorem all_mk {l:PySem.W.OpenLaw}{w:aV}(X:K.In h)(G:h.Ns aW mg)(hfa:mg "law" =some (.ref fa))(Fc:Facts K w)
  : ∃ fd:aO,(∀ (s:al) (v:af),BindsTo s fd ⟨[v],[]⟩ [("_law_script",v)])∧∀ base:bj,K.In base→base.Ns aW mg→cI l.prog w K mg base CX0 9 fa fd ["_law_script"] (spLaw K):=by
 refine Fc _ ?_;intro f1 a1 f2 a2 f3 a3 f4 a4 f5 a5 f6 a6 f7 a7 f8 a8 f9 a9 f10 a10 f11 a11 f12 a12 f13 a13 f14 a14 f15 a15 f16 a16 f17 a17 f18 a18 f19 a19 f20 a20 f21 a21 f22 a22 f23 a23 f24 a24 f25 a25 f26 a26 f27 a27 f28 a28 f29 a29 f30 a30 f31 a31 f32 a32 f33 a33 f34 a34 f35 a35 f36 a36 t1 t2 t3 t4 t5 t6 t7 xL xP xF q1 q2 q3 q4 q5 jy1 jy2 jy3 jy4 jy5 jy6 jz1 jz2 jz3 jz4 jz5 jz6 jz7 jz8 jz9 jza ka kb kc kd ua1 ub1 ua2 ub2 ua3 ub3 ua4 ub4 uc ud ue nF nn1 nn2 nn3 nn4 nn5 y1 y2 y3 y4 y5 y6 y7 z1 z2 z3 z4 z5 z6 z7 z8 z9 z10 z11 z12 z13 z14 z15 w1 w2 w3 w4 w5 w6 w7 w8 w9 w10 w11 w12 w13 w14 w15 w16 w17 w18 w19 w20 w21 w22 w23 w24 w25 w26 w27 w28 w29 w30 w31 w32 w33 w34 w35 w36 w37 w38 w39 w40 w41 w42 w43 w44 w45 w46 w47;have e:=hfa.symm.trans (cO X G a36.n);cases e;obtain ⟨fd1,G1⟩:=a1.fn X G (ps:=[]);obtain ⟨fd2,G2⟩:=a2.fn X G (ps:=["thing"]);obtain ⟨fd3,G3⟩:=a3.fn X G (ps:=pzj);obtain ⟨fd4,G4⟩:=a4.fn X G (ps:=pzc);obtain ⟨fd5,G5⟩:=a5.fn X G (ps:=pzc);obtain ⟨fd6,G6⟩:=a6.fn X G (ps:=pzm);obtain ⟨fd7,G7⟩:=a7.fn X G (ps:=pzn);obtain ⟨fd8,G8⟩:=a8.fn X G (ps:=pzk);obtain ⟨fd9,G9⟩:=a9.fn X G (ps:=pzc);obtain ⟨fd10,G10⟩:=a10.fn X G (ps:=["row"]);obtain ⟨fd11,G11⟩:=a11.fn X G (ps:=["words"]);obtain ⟨fd12,G12⟩:=a12.fn X G (ps:=["row"]);obtain ⟨fd13,G13⟩:=a13.fn X G (ps:=pzf);obtain ⟨fd14,G14⟩:=a14.fn X G (ps:=pzq);obtain ⟨fd15,G15⟩:=a15.fn X G (ps:=pzi);obtain ⟨fd16,G16⟩:=a16.fn X G (ps:=pzi);obtain ⟨fd17,G17⟩:=a17.fn X G (ps:=["rows"]);obtain ⟨fd18,G18⟩:=a18.fn X G (ps:=pzf);obtain ⟨fd19,G19⟩:=a19.fn X G (ps:=["net","span"]);obtain ⟨fd20,G20⟩:=a20.fn X G (ps:=pzl);obtain ⟨fd21,G21⟩:=a21.fn X G (ps:=pzA);obtain ⟨fd22,G22⟩:=a22.fn X G (ps:=pzd);obtain ⟨fd23,G23⟩:=a23.fn X G (ps:=pzd);obtain ⟨fd24,G24⟩:=a24.fn X G (ps:=pzd);obtain ⟨fd25,G25⟩:=a25.fn X G (ps:=pze);obtain ⟨fd26,G26⟩:=a26.fn X G (ps:=pzr);obtain ⟨fd27,G27⟩:=a27.fn X G (ps:=pze);obtain ⟨fd28,G28⟩:=a28.fn X G (ps:=pzh);obtain ⟨fd29,G29⟩:=a29.fn X G (ps:=pzs);obtain ⟨fd30,G30⟩:=a30.fn X G (ps:=pzt);obtain ⟨fd31,G31⟩:=a31.fn X G (ps:=pzu);obtain ⟨fd32,G32⟩:=a32.fn X G (ps:=pzv);obtain ⟨fd33,G33⟩:=a33.fn X G (ps:=pzw);obtain ⟨fd34,G34⟩:=a34.fn X G (ps:=pzy);obtain ⟨fd35,G35⟩:=a35.fn X G (ps:=pzx);obtain ⟨_,oc,od,an,sl,kV,dc,pm,cd,ct,l36,c36,k36⟩:=a36;have F36:=fun_mk (st:=sLaw) l36 c36 k36;have m1:=bG X G z1;have m2:=bG X G z2;have m3:=bG X G z3;have m4:=bG X G z4;have m5:=bG X G z5;have m6:=bG X G z6;have m7:=bG X G z7;have m8:=bG X G z8;have m9:=bG X G z9;have m10:=bG X G z10;have m11:=bG X G z11;have m12:=bG X G z12;have m13:=bG X G z13;have m14:=bG X G z14;have m15:=bG X G z15;have i1:=cO X G y1;have i2:=cO X G y2;have i3:=cO X G y3;have i4:=cO X G y4;have i5:=cO X G y5;have i6:=cO X G y6;have i7:=cO X G y7;refine ⟨dq "law" "law" (iC sLaw) (hV sLaw) (defScope sLaw) .none kV dc pm an cd ct,fun s v=> .of_eq rfl,fun base _ _=>?_⟩;have T:Nm mg:=⟨m1,m2,m3,m4,m5,m6,m7⟩;have T2:Nt mg:=⟨m8,m9,m10,m11,m12,m13⟩;have C:Cs mg:=⟨⟨_,i1⟩,⟨_,i2⟩,⟨_,i3⟩⟩;have C2:Cs2 mg:=⟨⟨_,i4⟩,⟨_,i5⟩,⟨_,i6⟩,⟨_,i7⟩⟩;have N2:Nm2 mg:=⟨m15,m12⟩;obtain ⟨_,Fjy1,mjy1,bjy1⟩:=w13.fn (ps:=pzo);obtain ⟨_,Fjy2,mjy2,bjy2⟩:=w14.fn (ps:=pzg);obtain ⟨_,Fjy3,mjy3,bjy3⟩:=w15.fn (ps:=pzg);obtain ⟨_,Fjy4,mjy4,bjy4⟩:=w16.fn (ps:=pzz);obtain ⟨_,Fjy5,mjy5,bjy5⟩:=w17.fn (ps:=pza);obtain ⟨_,Fjy6,mjy6,bjy6⟩:=w18.fn (ps:=pza);obtain ⟨_,Fjz1,mjz1,bjz1⟩:=w29.fn (ps:=pzp);obtain ⟨_,Fjz2,mjz2,bjz2⟩:=w30.fn (ps:=pza);obtain ⟨_,Fjz3,mjz3,bjz3⟩:=w31.fn (ps:=pza);obtain ⟨_,Fjz4,mjz4,bjz4⟩:=w32.fn (ps:=pza);obtain ⟨_,Fjz5,mjz5,bjz5⟩:=w33.fn (ps:=pza);obtain ⟨_,Fjz6,mjz6,bjz6⟩:=w34.fn (ps:=pzb);obtain ⟨_,Fjz7,mjz7,bjz7⟩:=w35.fn (ps:=pzb);obtain ⟨_,Fjz8,mjz8,bjz8⟩:=w36.fn (ps:=pzb);obtain ⟨_,Fjz9,mjz9,bjz9⟩:=w37.fn (ps:=pzb);obtain ⟨_,Fjza,mjza,bjza⟩:=w38.fn (ps:=pzb);have LC:LinC K xL:=⟨⟨w2,w3,w4,w5⟩,w6,w7,w8,w9,w10⟩;have PC:PlaC K xP:=⟨⟨w20,w21,w22,w23⟩,w24,w25,w26⟩;have FW:cI l.prog w K mg base CX0 2 f5 _ pzc kC:=ok_readW G5.F T C2 G4;have FN:cI l.prog w K mg base CX0 1 f9 _ pzc spNam:=ok_nam G9.F T C2;have M:Fms l.prog w K mg:=fms_mk (cO X G w39) w40 w41 w42 w43 w44 w45;have FL:cI l.prog w K mg base CX0 3 f11 _ ["words"] spLineR:=ok_lineR G11.F T G9 FN G5 FW;have FR:cI l.prog w K mg base CX0 5 f13 _ pzf spPlanR:=ok_planR G13.F T N2 G10 (ok_beatR G10.F T G5 FW) G12 (ok_rowR G12.F T M G9 FN G5 FW G11 FL);have LK:LinK l.prog w K mg base xL jy2 jy3 jy4 _ _ _:=⟨LC,mjy2,ok_comL Fjy2 LC,bjy2,mjy3,ok_goL Fjy3 LC,bjy3,mjy4,ok_rideL Fjy4 m10 LC,bjy4⟩;have U:Unt K mg:=unt_mk (cO X G w46) w47;have LQ:LinQ l.prog w K mg base xL jy5 jy6 _ _:=⟨mjy5,ok_ownL Fjy5 m10 U LK,bjy5,mjy6,ok_labL Fjy6 m10 LC,bjy6⟩;have FA:cI l.prog w K mg base CX0 3 jz3 _ pza (spAllS xP xL):=ok_allS Fjz3 PC LC LQ;have FH:cI l.prog w K mg base CX0 1 jz2 _ pza (spHap xP xL):=ok_hap Fjz2 T T2 PC LC;have PK:PlaK l.prog w K mg base xP xL jz2 jz5 _ _:=⟨PC,mjz2,FH,bjz2,mjz5,ok_small Fjz5 T C PC mjz2 FH bjz2 mjz3 FA bjz3,bjz5⟩;have LM:LinM l.prog w K mg base xL jy1 _:=⟨⟨w11,mjy1.at_,mjy1.fn,w12⟩,cO X G w1,ok_initL Fjy1 LC,bjy1⟩;have FS:cI l.prog w K mg base CX0 4 f8 _ pzk spSpan:=ok_span G8.F T C G1 G2 G3 G6 G7;have FB:cI l.prog w K mg base CX0 3 jz7 _ pzb (spBtw xP xL):=ok_btw Fjz7 PC G14 (ok_change G14.F LK) G15 (ok_apart G15.F LK) G16 (ok_meet G16.F LK);have FT:cI l.prog w K mg base CX0 6 jz9 _ pzb (spTakeP xP xL):=ok_takeP Fjz9 PC mjz6 (ok_takeL Fjz6 T m14 PK LM) bjz6 mjz8 (ok_takeB Fjz8 PK mjz7 FB bjz7 G8 FS) bjz8 mjza (ok_takeS Fjza PK LK G8 FS) bjza;have PT:PlaT l.prog w K mg base xP xL jz1 jz9 jz3 jz4 _ _ _ _:=⟨⟨w27,mjz1.at_,mjz1.fn,w28⟩,cO X G w19,ok_initP Fjz1 PC,bjz1,mjz9,FT,bjz9,mjz3,FA,bjz3,mjz4,ok_allL Fjz4 PC LC LQ,bjz4⟩;have NB:cI l.prog w K mg base CX0 8 f18 _ pzf spNetBy:=ok_netBy G18.F T PK PT G13 FR G17 (ok_planBy G17.F T m9 PC PT);have PO:cI l.prog w K mg base CX0 2 f27 _ pze (spPotT K):=ok_potT G27.F T T2 G25 G26;have WA:cI l.prog w K mg base CX0 3 f22 _ pzd spWaits:=ok_waits G22.F T T2 G20 G21;have BR:cI l.prog w K mg base CX0 4 f23 _ pzd spBroken:=ok_broken G23.F T T2 G22 WA G19;exact ok_law F36 T T2 m2 G28 G27 PO G29 (ok_nms G29.F T T2 G28) G34 (ok_twL G34.F T T2 m2 G28 G27 PO) G30 (ok_txt G30.F m15) G18 NB G24 (ok_fits G24.F T G23 BR) G35 (ok_twT G35.F G28 G31) G32 (ok_apk G32.F) G33 (ok_mek G33.F)
theorem walk {l:PySem.W.OpenLaw}{d:DefRec}{K:Params→ai}(hn:l.most=some 63)(hdf:d.params.defaults=[])
  (hY:∀ (w:aV) (h:bj),YP w h→(K w.params).In h)
  (F:∀ (w:aV) (mg:Str→Option af) (fa:ak) (h:bj),(K w.params).In h→h.Ns aW mg→mg d.name=some (.ref fa) →
   ∃ fd:aO,(∀ (s:al) (u:af),BindsTo s fd ⟨[u],[]⟩ [("_law_script",u)])∧∀ base:bj,(K w.params).In base→base.Ns aW mg→cI l.prog w (K w.params) mg base CX0 9 fa fd ["_law_script"] (spLaw (K w.params))) :
  PySem.W.WalkO q loose XP YP l.row.toRowW d [] (fun f vs=>PySem.call f vs) :=
 L2.walk_of (n:=63) (k:=9) (x := "_law_script") (CX:=fun _=>CX0) (sp:=fun w=>spLaw (K w.params)) hn (by decide) hdf ⟨rfl,by decide,by decide⟩ hY F (fun _ _ a ns hl _ hS=>⟨a,ns,rfl,hS,hl,fun _=>rfl⟩) fun _ _ _ _ _ z=>z
end HN
set_option maxHeartbeats 0 in
theorem PySem.Challenge.cw_hourtable_k85_apart_and_meets_holds : PySem.Challenge.rw_hourtable_k85_apart_and_meets.Holds := by
 refine HN.head0.2 ?_ HN.leftA (PySem.W.byRow2 "special-get-raises" HN.scf HN.sct);intro q loose XP YP d K hdf hd h0 Fc;exact HN.walk (l:=dH) rfl hdf h0 fun w mg fa h KX G hmg=>HN.all_mk KX G (by rw [hd] at hmg;exact hmg) (Fc w)
