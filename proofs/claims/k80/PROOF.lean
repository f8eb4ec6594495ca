import PyProof.Rows.All
import KE.KIsAll
import OpenK.KMore
import KE.LcSums
import KE.KBools
import KE.KxBytes
import Lean
import PyProof.EqAt
import PyProof.EqKinds
import PyProof.TupleCall
import KE.KIntText
import KE.KEqSeq
import PyProof.NeKinds
import PyProof.FitsBits
import PyProof.Rows.SumAny
import PyProof.Rows.SetFrom
import PyProof.SetRoads
import PyProof.ListRange
import PyProof.MeetsSeq
import PyProof.FactsAll.tuple
import KE.KDictList
import KE.KDictLaws
import PyProof.CallRoads
import PyProof.DictValues
import PyProof.DictWalks
import PyProof.WalksMore
import PyProof.FactsAll.subtypes_4
import PyProof.TupleIter
import PyProof.Rows.Range3
import PyProof.Rows.MinMaxN
import PyProof.WalkInts
import PyProof.SeqI3
import KE.RegKIsAll
import Wide.FinOn
import KE.KLam
import KE.KNestM
import PySem.Challenge.RW_hourtable_k80_nets_of_plans
set_option Elab.async false
set_option linter.all false
set_option maxRecDepth 100000
set_option bootstrap.genMatcherCode false
open List renaming length_map → ae, getElem?_eq_some_iff → ah, length_append → aj, map_append → aq, mem_cons → av, getElem?_map → ax, mem_of_getElem? → ay, size_toArray → aA, mem_singleton → aB, length_cons → aD, mem_map → aG, getElem?_cons_succ → aH, not_mem_nil → aL, getElem?_append_right → aN, mem_cons_of_mem → aO, map_cons → aT, length_take → aU, take_add_one → aW, mem_append → bg, getD_eq_getElem?_getD → bh, mem_append_right → bp, mem_cons_self → bG, nodup_cons → bH, take_length → bI, getElem?_append_left → bJ, take_of_length_le → bN, map_map → bO, getElem?_of_mem → bR, length_drop → bV, range → cq, append_assoc → cw, mem_append_left → cB, append_nil → cG, getElem_mem → cJ, map_congr_left → cP, mem_map_of_mem → cX, sum_cons → dq, take_append_drop → dF, getElem?_take_of_lt → dG, getElem?_drop → dQ, lookup_cons → dW, getElem_toArray → dY, getElem_map → dZ, pairwise_iff_getElem → fe, lookup → fz, take_left' → fJ, map_drop → gb, length → gc, getElem?_eq_none → gp, filterMap_cons → gI, all_eq_true → gJ, take_append_of_le_length → gO, mem_filterMap → gW, sum_append → g9, any_cons → hZ, filterMap_append → ib, drop_eq_getElem_cons → iI, length_set → iY, length_nil → iZ, find?_cons → i8, length_range → jn, foldl_append → jo, drop_of_length_le → jq, mem_flatMap → jM, map_take → jQ, mem_of_mem_take → jU, flatMap_append → j9, length_eq_zero_iff → kW
open PySem renaming Value → ag, Addr → ak, wpAny_bind → al, Shared → ar, sizeLine → au, Program → aK, wpAny_pure → aQ, boot_len → aR, FuncData → aZ, wpAny → bo, World → br, starEach → bw, mainGlobals → bC, model → bQ, Heap → bX, Around → b9, Str → cE, Stmt → cN, wpAny_field → cQ, Spec → cY, NameKind → c8, compareOp → dj, eval → dn, wpAny_setField_rec → dw, importedModules → ee, wpAny_mono → eh, wpAny_callSpecial?_slot → eO, mem_of_lookup → eQ, wpAny_newObj_type → fV, Builtin → fW, sysModules → fY, backTo → gk, wpAny_truthy_bool → gz, wpAny_pyIter_list → gC, wpAny_call_entry → gX, binaryOp → gY, wpAny_loadPart' → ip, attributeBase → iu, foldedSetIterable → iH, wpAny_seqItems → iM, sliceBounds → iN, wpAny_holding → jf, cLine → ji, wpAny_Call_Name_kw → jr, treeTable → jF, call_meets → j8, lookup_relabel_local → kt, keywordEach → ku, wpAny_passesOwn → kD, letOwnedTupleGo → kF, tupleKind_room_in1 → kS, slot_list_getitem → lg, wpAny_getItem_list_slice → lF
open PySem.W renaming Frag → ai, nsIn → bW, findIn → cf, mg_none_of → cu, mg_of → dA, kia_one → dD, keepIn → eF, emptyDict → eM, fnOf → fk, instObj → gu, openEnds → gG, plainGet → ir, kitOne → ja, hasDictIn → jb, codeIn → jc, openSeen → jO, fencedOpening → ki
open PySem.Heap renaming get?_push_of_some → ao, get?_push_size → aJ, lt_size → bc, SameBut → cI, size_push → dk
open Nat renaming le_refl → az, ne_of_lt → cg, lt_of_lt_of_le → ck, le_trans → cn, zero_le → cz, min_eq_left → dm, sub_self → dJ, lt_of_le_of_ne → dU, lt_trichotomy → gx, lt_of_le_of_lt → gZ, lt_irrefl → ia, add_le_add_left → iP, lt_succ_iff_lt_or_eq → iX, ne_of_gt → jE, le_succ → jZ
open Option renaming map_eq_some_iff → aS, map_some → jT
open PySem.F renaming plainAttrs_list → bf, type_list_append → bD, slot_list_append → bE, plainAttrs_str → eN, slot_dict_get → gg, slot_tuple_iterator_next → iJ, entry_dict_get → jd, slot_enumerate_next → jV, args_tuple_add_2 → kH, plainAttrs_dict → kM, entry_tuple_add → kO
open Option.some renaming inj → bu
open Bool renaming false_ne_true → bz, and_eq_true → bY, eq_false_iff → fG, true_and → gy, eq_iff_iff → j5
open PySem.Str renaming ofString → bF, empty → ef, join → fU
open PySem.SeqAt renaming EqAt → bP
open PySem.PassesOwn renaming never → bS
open PySem.Builtin.Str renaming occurrences → cA, partsBetween → gq
open Int renaming eq_ofNat_of_zero_le → cF, toNat_natCast → eU, le_refl → iB
open PySem.Txt renaming split → cM, join → iA
open Ne renaming symm → cO
open PySem.Builtin.SmallTypes renaming nextOf → cR, ownedTupleIsFree → fq, ownedTupleHandOut → gL
open PySem.W.Fast renaming te14364793385576792824 → cT, te14289696077712309145 → cU, te14082659384304107361 → cV, te10274390034422433532 → cW, te1435165496053646825 → cZ, te4187177175401517315 → fH
open PyProof.Rows renaming callWith_type1 → c9, boot_tuple → jD
open PySem.PyData renaming keyHash → dC
open PySem.StrLaws renaming glued_eq_join → eV
open Lean renaming maxHeartbeats → eW
open Array renaming length_toList → fK, getElem?_toList → jG
open PySem.Challenge renaming rw_hourtable_k80_nets_of_plans → fZ
open False renaming elim → gh
open Pure renaming pure → gK
open PySem.Calls renaming callWith_builtin → gQ, evalArgs_plain → jR, spliced_cons → kB
open PySem.Builtin.Slice renaming slicePlaces → hE, sliceAdjust → jS
open PySem.Builtin.Tuple renaming tupleExact → ij
open PySem.Builtin.Range renaming rangeSize → iw
open PySem.Builtin.List renaming listTooLong → j4
open Classical renaming propDecidable → kJ
open PyProof.Rows.F renaming plain_set_update_loop → lI
noncomputable section
abbrev pB:=@if_neg
abbrev pE:=@if_pos
abbrev pF:=@absurd
abbrev pG:=@decide_eq_true
abbrev pH:=@decide_eq_false
abbrev pI:=@of_decide_eq_true
abbrev pJ:=@congrArg
set_option maxHeartbeats 4000000
theorem gE {α:Type}{l:List α}{i:Nat}(h:i<l.length):l[i]? =some l[i]:=List.getElem?_eq_getElem h
variable {A:b9}{B C CL CP D L a d dx f f1 f2 fa it p q:ak}{E Q:ag→ar→Prop}{G:Array PySem.GenState→Array PySem.GenState→Prop}{K:ai}{M:PySem.Model}{N fr loose nn ns ps ss ys:List PySem.Str}{P prog:aK}{R:PySem.Result→ar→Prop}{T:String}{XP:(PySem.Str→Option ag)→bX→Prop}{YP:br→bX→Prop}{aI pins':List (ak×PySem.Obj)}{apos cpos p2 pos pos':PySem.Pos}{as ch fp:List ak}{b hi lo:Int}{base h h':bX}{body sts:List cN}{d':PySem.Drawn}{d1 d2 dc dg dh dr fd fd1 fd2:aZ}{e ea elt iter tg value:PySem.Expr}{env:PySem.Env}{es ifs:List PySem.Expr}{g':Array PySem.GenState}{i j k m n t':Nat}{is:List Int}{items:Array ag}{its old us vs:List ag}{js:List Nat}{kw:List (PySem.Str×ag)}{mA mg:PySem.Str→Option ag}{name qual x z:PySem.Str}{od:Option ak}{op:PySem.CmpOp}{osl sl:Array (Option ag)}{outer:List PySem.Env}{s s':ar}{scope:PySem.Scope}{st:cN}{u was:ag}{w:br}{α:Type}
namespace L2
open PySem PySem.Spec PyProof.Rows
def kz (s:cN):Arguments:=match s with
 | .FunctionDef _ a _ _ _ _ _ _ _ _=>a
 | _=>{ posonlyargs:=[],args:=[],vararg:=none,kwonlyargs:=[],kw_defaults:=[],kwarg:=none,defaults:=[] }
def jY (s:cN):List cN:=match s with
 | .FunctionDef _ _ b _ _ _ _ _ _ _=>b
 | _=>[]
def defScope (s:cN):Scope:=match s with
 | .FunctionDef _ _ _ _ _ _ sc _ _ _=>sc
 | _=>{ kind:= .function,names:=[],isGenerator:=false,isCoroutine:=false }
end L2
namespace HN
open PySem L2 PyProof.Rows
def top (i:Nat):cN:=PySem.Challenge.pw_hourtable_k80_nets_of_plans.main.body.getD i (.Pass ⟨0,0,0,0⟩)
def clsOf (s:cN)(i:Nat):cN:=match s with
 | .ClassDef _ _ _ body _ _ _ _ _ _ _=>body.getD i (.Pass ⟨0,0,0,0⟩)
 | s=>s
structure Df (K:ai)(x:Str)(st:cN)(f:ak):Prop where
 n:bW K bC x=some (some (.ref f))
 l:∃ (oc:ag) (od an:Option ak) (sl:Array (Option ag)) (kV dc pm cd ct:ag),K.lookup f=some ⟨oc,od,.func (fk x x (kz st) (jY st) (defScope st) .none kV dc pm an cd ct),sl⟩∧jc K cd x=true∧eF K (.ref f)=true
structure Mf (K:ai)(C:ak)(x q:Str)(st:cN)(f:ak):Prop where
 a:cf K (.ref C) x=some (some (.ref f))
 b:PySem.W.isFn K (.ref f)=true
 l:∃ (oc:ag) (od an:Option ak) (sl:Array (Option ag)) (kV dc pm cd ct:ag),K.lookup f=some ⟨oc,od,.func (fk x q (kz st) (jY st) (defScope st) .none kV dc pm an cd ct),sl⟩∧jc K cd q=true∧eF K (.ref f)=true
def adr (K:ai)(x:Str):ak:=match bW K bC x with | some (some (.ref f))=>f | _=>0
def reb (x:Str)(st:cN):Option Obj→Option Obj | some ⟨oc,od,.func d,sl⟩=>some ⟨oc,od,.func (fk x x (kz st) (jY st) (defScope st) .none d.kwdefaults d.doc d.pyModule d.annotations d.code d.closureTuple),sl⟩ | _=>none
def cdO:Option Obj→ag | some ⟨_,_,.func d,_⟩=>d.code | _=> .none
def isO:Option Obj→Bool | some ⟨_,_,.func _,_⟩=>true | _=>false
def dfL (K:ai)(e:Str×cN):Option (Option ag)×Bool×Option Obj×Bool×Bool:=(bW K bC e.1,isO (K.lookup (adr K e.1)),K.lookup (adr K e.1),jc K (cdO (K.lookup (adr K e.1))) e.1,eF K (.ref (adr K e.1)))
def dfR (K:ai)(e:Str×cN):Option (Option ag)×Bool×Option Obj×Bool×Bool:=(some (some (.ref (adr K e.1))),true,reb e.1 e.2 (K.lookup (adr K e.1)),true,true)
theorem df_of (h:dfL K (x,st)=dfR K (x,st)):Df K x st (adr K x):=by
 unfold dfL dfR at h;simp only [Prod.mk.injEq] at h;obtain ⟨h1,h2,h3,h4,h5⟩:=h;refine ⟨h1,?_⟩;revert h2 h3 h4;cases hk:K.lookup (adr K x) with
 | none=>intro h2;cases h2
 | some o =>
  obtain ⟨oc,od,d,sl⟩:=o;cases d <;> intro h2 h3 h4 <;> first | (cases h2;done) | exact ⟨oc,od,_,sl,_,_,_,_,_,h3,h4,h5⟩
def Fcx (K:ai):List (Str×cN)→(List ak→Prop)→Prop
 | [],C=>C []
 | (x,st)::r,C=>∀ f:ak,Df K x st f→Fcx K r fun l=>C (f::l)
theorem fcx_of {K:ai}:∀ {L:List (Str×cN)} {C:List ak→Prop},L.map (dfL K)=L.map (dfR K)→Fcx K L C→C (L.map fun e=>adr K e.1)
 | [],_,_,k=>k
 | (x,st)::r,C,h,k=>by
  rw [aT,aT] at h;injection h with h1 h2
  exact fcx_of (L:=r) (C:=fun l=>C (adr K x::l)) h2 (k _ (df_of h1))
def Facts (K:ai)(w:br):Prop:=∀ C:Prop,Fcx K (("greatest_whole",top 7)::("is_whole",top 8)::("is_within",top 9)::("is_numeral",top 10)::("read_whole",top 11)::("are_ends",top 16)::("are_lengths",top 17)::("is_span",top 18)::("read_name",top 25)::("read_beat",top 26)::("read_line",top 27)::("read_row",top 28)::("read_plan",top 29)::("change_span",top 31)::("apart_span",top 32)::("meet_span",top 33)::("plan_by",top 35)::("net_by",top 36)::("is_net",top 19)::("_law_cell_at",top 38)::("_law_mixed",top 39)::("_law_pot",top 40)::("_law_take",top 41)::("_law_names",top 42)::("_law_line_row",top 43)::("_law_lines",top 44)::("_law_ends",top 45)::("_law_ride",top 46)::("_law_text",top 49)::("_law_span_words",top 50)::("_law_pairs",top 51)::("_law_inner",top 52)::("_law_more_row",top 53)::("_law_plan",top 54)::("_law_two",top 47)::("_law_net_of",top 48)::("_law_is_plain",top 55)::("law",top 56)::[]) (fun l=>∀ {t1 t2 t3 t4 t5 t6 t7:Tok} {xL xP xF q1 q2 q3 q4 q5 jy1 jy2 jy3 jy4 jy5 jy6 jz1 jz2 jz3 jz4 jz5 jz6 jz7 jz8 jz9 jza:ak} {ka kb kc kd ua1 ub1 ua2 ub2 ua3 ub3 ua4 ub4 uc ud ue:Tok} {nF nn1 nn2 nn3 nn4 nn5:Nat},(bW K bC "MOST_HAPPENINGS" =some (some (.int 16 t1))) →
 (bW K bC "MOST_SPANS" =some (some (.int 40 t2))) →
 (bW K bC "MOST_WEIGHT" =some (some (.int 1000000000000 t3))) →
 (bW K bC "LETTERS" =some (some (.str "abcdefghijklmnopqrstuvwxyz" t4))) →
 (bW K bC "MOST_LETTERS" =some (some (.int 8 t5))) →
 (bW K bC "FIGURES" =some (some (.str "0123456789" t6))) →
 (bW K bC "MOST_FIGURES" =some (some (.int 60 t7))) →
 (bW K bC "isinstance" =some none) →
 (bW K bC "int" =some none) →
 (bW K bC "bool" =some none) →
 (bW K bC "tuple" =some none) →
 (bW K bC "len" =some none) →
 (bW K bC "min" =some none) →
 (bW K bC "all" =some none) →
 (bW K bC "range" =some none) →
 (bW K bC "enumerate" =some none) →
 (bW K bC "zip" =some none) →
 (bW K bC "sum" =some none) →
 (bW K bC "list" =some none) →
 (bW K bC "max" =some none) →
 (bW K bC "set" =some none) →
 (bW K bC "str" =some none) →
 (bW K bC "Line" =some (some (.ref xL))) →
 (ir K xL ef=true) →
 (jb K xL=true) →
 (PySem.W.plainOver K xL=true) →
 (cf K (.ref xL) "__setattr__" =some (some (.builtin "object.__setattr__"))) →
 (cf K (.ref xL) "name" =some none) →
 (cf K (.ref xL) "stops" =some none) →
 (cf K (.ref xL) "runs" =some none) →
 (cf K (.ref xL) "stays" =some none) →
 (cf K (.ref xL) "first" =some none) →
 (PySem.W.makesIn K xL=true) →
 (eF K (.ref xL)=true) →
 (Mf K xL "__init__" "Line.__init__" (clsOf (top 30) 0) jy1) →
 (Mf K xL "coming" "Line.coming" (clsOf (top 30) 1) jy2) →
 (Mf K xL "going" "Line.going" (clsOf (top 30) 2) jy3) →
 (Mf K xL "ride" "Line.ride" (clsOf (top 30) 3) jy4) →
 (Mf K xL "own_spans" "Line.own_spans" (clsOf (top 30) 4) jy5) →
 (Mf K xL "own_labels" "Line.own_labels" (clsOf (top 30) 5) jy6) →
 (bW K bC "Plan" =some (some (.ref xP))) →
 (ir K xP ef=true) →
 (jb K xP=true) →
 (PySem.W.plainOver K xP=true) →
 (cf K (.ref xP) "__setattr__" =some (some (.builtin "object.__setattr__"))) →
 (cf K (.ref xP) "beat" =some none) →
 (cf K (.ref xP) "lines" =some none) →
 (cf K (.ref xP) "between" =some none) →
 (PySem.W.makesIn K xP=true) →
 (eF K (.ref xP)=true) →
 (Mf K xP "__init__" "Plan.__init__" (clsOf (top 34) 0) jz1) →
 (Mf K xP "happenings" "Plan.happenings" (clsOf (top 34) 1) jz2) →
 (Mf K xP "all_spans" "Plan.all_spans" (clsOf (top 34) 2) jz3) →
 (Mf K xP "all_labels" "Plan.all_labels" (clsOf (top 34) 3) jz4) →
 (Mf K xP "is_small" "Plan.is_small" (clsOf (top 34) 4) jz5) →
 (Mf K xP "take_line" "Plan.take_line" (clsOf (top 34) 5) jz6) →
 (Mf K xP "span_between" "Plan.span_between" (clsOf (top 34) 7) jz7) →
 (Mf K xP "take_between" "Plan.take_between" (clsOf (top 34) 8) jz8) →
 (Mf K xP "take" "Plan.take" (clsOf (top 34) 9) jz9) →
 (Mf K xP "take_stay" "Plan.take_stay" (clsOf (top 34) 6) jza) →
 (bW K bC "FORMS" =some (some (.ref xF))) →
 ((xF == fY)=false) →
 (K.lookup xF=some ⟨.type "dict",none,.dict #[⟨dC w.params "stay",.str "stay" ka,.ref q1⟩,⟨dC w.params "change",.str "change" kb,.ref q2⟩,⟨dC w.params "apart",.str "apart" kc,.ref q3⟩,⟨dC w.params "meet",.str "meet" kd,.ref q4⟩] nF,#[]⟩) →
 (K.lookup q1=some ⟨.type "tuple",none,.seq #[.int 2 ua1,.int 3 ub1] nn1,#[]⟩) →
 (K.lookup q2=some ⟨.type "tuple",none,.seq #[.int 3 ua2,.int 3 ub2] nn2,#[]⟩) →
 (K.lookup q3=some ⟨.type "tuple",none,.seq #[.int 3 ua3,.int 1 ub3] nn3,#[]⟩) →
 (K.lookup q4=some ⟨.type "tuple",none,.seq #[.int 4 ua4,.int 1 ub4] nn4,#[]⟩) →
 (bW K bC "STAY_UNTOLD" =some (some (.ref q5))) →
 (K.lookup q5=some ⟨.type "tuple",none,.seq #[.int 0 uc,.int 0 ud,.int 0 ue] nn5,#[]⟩)→C)→C
def Wp:Prop:=∀ {q:aK} {loose:List Str} {XP:(Str→Option ag)→bX→Prop} {YP:br→bX→Prop} {d:DefRec} {K:Params→ai},d.params.defaults=[]→d.name = "law" →(∀ (w:br) (h:bX),YP w h→(K w.params).In h)→(∀ w:br,Facts (K w.params) w)→PySem.W.WalkO q loose XP YP (fZ).row.toRowW d [] (fun f vs=>PySem.call f vs)
end HN
section
open PySem PySem.W PyProof.Rows
def HN.seenOf:aK:={ PySem.Challenge.pw_hourtable_k80_nets_of_plans with main:={ PySem.Challenge.pw_hourtable_k80_nets_of_plans.main with body:=[1,2,3,5,6,7,8,9,10,11,13,14,15,16,17,18,19,21,22,23,24,25,26,27,28,29,30,31,32,33,34,35,36,38,39,40,41,42,43,44,45,46,47,48,49,50,51,52,53,54,55,56].map HN.top } }
def HN.isSeen (s:ar):Bool:=xlAt HN.seenOf [] s && recOk (RowW.records (OpenRow.toRowW (OpenLaw.row fZ))) s
local macro_rules
 | `(tactic| o_head $H:term) => `(tactic| (refine holds_open (q := HN.seenOf) (loose := [bF "FORMS"]) (XP := XL HN.seenOf []) (Xt := HN.isSeen) (Yf := Hook.obs $H) (Ya := Hook.val $H) (YP := Hook.says $H) (N := 2969) ?_ (Hook.of $H) (Hook.keeps $H) (fun s e => xl_of s (Bool.and_eq_true_iff.mp e).1) XL.keeps (by rfl) (by rfl) (by rfl) (fun s e => recFacts_of (Bool.and_eq_true_iff.mp e).2) ?_ ?_ ?_ ?_ ?_ ?_))
theorem HN.left_two {σ β:Type}{e:Option σ}{f:σ→α}{g:σ→β}{a:α}{b:β}(h1:e.map f=some a)(h2:e.map g=some b):e.map (fun s=>(f s,g s))=some (a,b):=by
 cases e with
 | none=>cases h1
 | some s=>injection h1 with h1;injection h2 with h2;show some (f s,g s)=_;rw [h1,h2]
theorem HN.left_pr {σ β:Type}{e:Option σ}{f:σ→α×β}{a:α×β}(h1:e.map (fun s=>(f s).1)=some a.1)(h2:e.map (fun s=>(f s).2)=some a.2):e.map f=some a:=by
 cases e with
 | none=>cases h1
 | some s=>injection h1 with h1;injection h2 with h2;exact pJ some (Prod.ext h1 h2)
set_option maxRecDepth 100000 in
set_option maxHeartbeats 0 in
def HN.head0:(P:br→Prop) ×' (HN.Wp→(∀ w:br,(gG jF PySem.Challenge.rw_hourtable_k80_nets_of_plans.row.prog w 2969).map (jO HN.seenOf [bF "FORMS"] (ee PySem.Challenge.rw_hourtable_k80_nets_of_plans.row.prog.main.body) HN.isSeen true)=some (openGood HN.seenOf [bF "FORMS"]))→(∀ w,P w)→PySem.Challenge.rw_hourtable_k80_nets_of_plans.Holds):=by
 apply PSigma.mk
 intro W Lf Sc
 w_on;refine holds_law (by decide +kernel) fun said=>?_;k_head
 ·exact fun w=>HN.left_two (Lf w) (Sc w)
 ·rfl
 ·assumption
 ·decide +kernel
 ·exact ⟨rfl,rfl,rfl,rfl,rfl,by decide +kernel⟩
 ·w_witness2
 k_fill
 refine W rfl rfl (fun w h Y=>PySem.W.kIn_of Y) ?F
 case F =>
  intro w C k;refine' HN.fcx_of ?E k ?y1 ?y2 ?y3 ?y4 ?y5 ?y6 ?y7 ?z1 ?z2 ?z3 ?z4 ?z5 ?z6 ?z7 ?z8 ?z9 ?z10 ?z11 ?z12 ?z13 ?z14 ?z15 ?w1 ?w2 ?w3 ?w4 ?w5 ?w6 ?w7 ?w8 ?w9 ?w10 ?w11 ?w12 ?w13 ?w14 ?w15 ?w16 ?w17 ?w18 ?w19 ?w20 ?w21 ?w22 ?w23 ?w24 ?w25 ?w26 ?w27 ?w28 ?w29 ?w30 ?w31 ?w32 ?w33 ?w34 ?w35 ?w36 ?w37 ?w38 ?w39 ?w40 ?w41 ?w42 ?w43 ?w44 ?w45 ?w46 ?w47
  (case E=>kernel_rfl)
  (case y1=>k_is);(case y2=>k_is);(case y3=>k_is);(case y4=>k_is);(case y5=>k_is);(case y6=>k_is);(case y7=>k_is);(case z1=>k_is);(case z2=>k_is);(case z3=>k_is);(case z4=>k_is);(case z5=>k_is);(case z6=>k_is);(case z7=>k_is);(case z8=>k_is);(case z9=>k_is);(case z10=>k_is);(case z11=>k_is);(case z12=>k_is);(case z13=>k_is);(case z14=>k_is);(case z15=>k_is)
  (case w1=>k_is)
  (case w2=>k_is)
  (case w3=>k_is)
  (case w4=>k_is)
  (case w5=>k_is)
  (case w6=>k_is)
  (case w7=>k_is)
  (case w8=>k_is)
  (case w9=>k_is)
  (case w10=>k_is)
  (case w11=>k_is)
  (case w12=>k_is)
  (case w13=>exact ⟨by k_is,by k_is,_,_,_,_,_,_,_,_,_,by k_is,by k_is,by k_is⟩)
  (case w14=>exact ⟨by k_is,by k_is,_,_,_,_,_,_,_,_,_,by k_is,by k_is,by k_is⟩)
  (case w15=>exact ⟨by k_is,by k_is,_,_,_,_,_,_,_,_,_,by k_is,by k_is,by k_is⟩)
  (case w16=>exact ⟨by k_is,by k_is,_,_,_,_,_,_,_,_,_,by k_is,by k_is,by k_is⟩)
  (case w17=>exact ⟨by k_is,by k_is,_,_,_,_,_,_,_,_,_,by k_is,by k_is,by k_is⟩)
  (case w18=>exact ⟨by k_is,by k_is,_,_,_,_,_,_,_,_,_,by k_is,by k_is,by k_is⟩)
  (case w19=>k_is)
  (case w20=>k_is)
  (case w21=>k_is)
  (case w22=>k_is)
  (case w23=>k_is)
  (case w24=>k_is)
  (case w25=>k_is)
  (case w26=>k_is)
  (case w27=>k_is)
  (case w28=>k_is)
  (case w29=>exact ⟨by k_is,by k_is,_,_,_,_,_,_,_,_,_,by k_is,by k_is,by k_is⟩)
  (case w30=>exact ⟨by k_is,by k_is,_,_,_,_,_,_,_,_,_,by k_is,by k_is,by k_is⟩)
  (case w31=>exact ⟨by k_is,by k_is,_,_,_,_,_,_,_,_,_,by k_is,by k_is,by k_is⟩)
  (case w32=>exact ⟨by k_is,by k_is,_,_,_,_,_,_,_,_,_,by k_is,by k_is,by k_is⟩)
  (case w33=>exact ⟨by k_is,by k_is,_,_,_,_,_,_,_,_,_,by k_is,by k_is,by k_is⟩)
  (case w34=>exact ⟨by k_is,by k_is,_,_,_,_,_,_,_,_,_,by k_is,by k_is,by k_is⟩)
  (case w35=>exact ⟨by k_is,by k_is,_,_,_,_,_,_,_,_,_,by k_is,by k_is,by k_is⟩)
  (case w36=>exact ⟨by k_is,by k_is,_,_,_,_,_,_,_,_,_,by k_is,by k_is,by k_is⟩)
  (case w37=>exact ⟨by k_is,by k_is,_,_,_,_,_,_,_,_,_,by k_is,by k_is,by k_is⟩)
  (case w38=>exact ⟨by k_is,by k_is,_,_,_,_,_,_,_,_,_,by k_is,by k_is,by k_is⟩)
  (case w39=>k_is)
  (case w40=>rfl)
  (case w41=>k_is)
  (case w42=>k_is)
  (case w43=>k_is)
  (case w44=>k_is)
  (case w45=>k_is)
  (case w46=>k_is)
  (case w47=>k_is)
set_option maxRecDepth 100000 in
set_option maxHeartbeats 0 in
theorem HN.scf (w:br):HN.head0.1 (w.withFollow "special-get-raises" false):=by
 show _=_;unfold gG ki topFrom;rewrite [cW,cU,cT,cZ,cV];kernel_rfl
set_option maxRecDepth 100000 in
set_option maxHeartbeats 0 in
theorem HN.sct (w:br):HN.head0.1 (w.withFollow "special-get-raises" true):=by
 show _=_;unfold gG ki topFrom;rewrite [cW,cU,cT,cZ,cV];kernel_rfl
set_option maxHeartbeats 0 in
theorem HN.left1f (w:br):(gG jF PySem.Challenge.rw_hourtable_k80_nets_of_plans.row.prog (w.withFollow "special-get-raises" false) 2969).map (fun s=>(jO HN.seenOf [bF "FORMS"] (ee PySem.Challenge.rw_hourtable_k80_nets_of_plans.row.prog.main.body) HN.isSeen true s).1)=some (openGood HN.seenOf [bF "FORMS"]).1:=by
 unfold gG ki topFrom;rewrite [cW,cU,cT,cZ,cV,fH];kernel_rfl
set_option maxHeartbeats 0 in
theorem HN.left1t (w:br):(gG jF PySem.Challenge.rw_hourtable_k80_nets_of_plans.row.prog (w.withFollow "special-get-raises" true) 2969).map (fun s=>(jO HN.seenOf [bF "FORMS"] (ee PySem.Challenge.rw_hourtable_k80_nets_of_plans.row.prog.main.body) HN.isSeen true s).1)=some (openGood HN.seenOf [bF "FORMS"]).1:=by
 unfold gG ki topFrom;rewrite [cW,cU,cT,cZ,cV,fH];kernel_rfl
set_option maxHeartbeats 0 in
theorem HN.left1 (w:br):(gG jF PySem.Challenge.rw_hourtable_k80_nets_of_plans.row.prog w 2969).map (fun s=>(jO HN.seenOf [bF "FORMS"] (ee PySem.Challenge.rw_hourtable_k80_nets_of_plans.row.prog.main.body) HN.isSeen true s).1)=some (openGood HN.seenOf [bF "FORMS"]).1:=by
 exact PySem.W.byRow2 "special-get-raises" (P:=fun w=>(gG jF PySem.Challenge.rw_hourtable_k80_nets_of_plans.row.prog w 2969).map (fun s=>(jO HN.seenOf [bF "FORMS"] (ee PySem.Challenge.rw_hourtable_k80_nets_of_plans.row.prog.main.body) HN.isSeen true s).1)=some (openGood HN.seenOf [bF "FORMS"]).1) HN.left1f HN.left1t w
set_option maxHeartbeats 0 in
theorem HN.left2f (w:br):(gG jF PySem.Challenge.rw_hourtable_k80_nets_of_plans.row.prog (w.withFollow "special-get-raises" false) 2969).map (fun s=>(jO HN.seenOf [bF "FORMS"] (ee PySem.Challenge.rw_hourtable_k80_nets_of_plans.row.prog.main.body) HN.isSeen true s).2)=some (openGood HN.seenOf [bF "FORMS"]).2:=by
 unfold gG ki topFrom;rewrite [cW,cU,cT,cZ,cV,fH];kernel_rfl
set_option maxHeartbeats 0 in
theorem HN.left2t (w:br):(gG jF PySem.Challenge.rw_hourtable_k80_nets_of_plans.row.prog (w.withFollow "special-get-raises" true) 2969).map (fun s=>(jO HN.seenOf [bF "FORMS"] (ee PySem.Challenge.rw_hourtable_k80_nets_of_plans.row.prog.main.body) HN.isSeen true s).2)=some (openGood HN.seenOf [bF "FORMS"]).2:=by
 unfold gG ki topFrom;rewrite [cW,cU,cT,cZ,cV,fH];kernel_rfl
set_option maxHeartbeats 0 in
theorem HN.left2 (w:br):(gG jF PySem.Challenge.rw_hourtable_k80_nets_of_plans.row.prog w 2969).map (fun s=>(jO HN.seenOf [bF "FORMS"] (ee PySem.Challenge.rw_hourtable_k80_nets_of_plans.row.prog.main.body) HN.isSeen true s).2)=some (openGood HN.seenOf [bF "FORMS"]).2:=by
 exact PySem.W.byRow2 "special-get-raises" (P:=fun w=>(gG jF PySem.Challenge.rw_hourtable_k80_nets_of_plans.row.prog w 2969).map (fun s=>(jO HN.seenOf [bF "FORMS"] (ee PySem.Challenge.rw_hourtable_k80_nets_of_plans.row.prog.main.body) HN.isSeen true s).2)=some (openGood HN.seenOf [bF "FORMS"]).2) HN.left2f HN.left2t w
theorem HN.leftA (w:br):(gG jF PySem.Challenge.rw_hourtable_k80_nets_of_plans.row.prog w 2969).map (jO HN.seenOf [bF "FORMS"] (ee PySem.Challenge.rw_hourtable_k80_nets_of_plans.row.prog.main.body) HN.isSeen true)=some (openGood HN.seenOf [bF "FORMS"]):=HN.left_pr (f:=jO HN.seenOf [bF "FORMS"] (ee PySem.Challenge.rw_hourtable_k80_nets_of_plans.row.prog.main.body) HN.isSeen true) (HN.left1 w) (HN.left2 w)
end
namespace L2
open PySem PySem.Spec PyProof.Rows
abbrev Key:=Sum Int Str
def keyIs:Key→ag→Bool
 | .inl k,v=>ag.isInt k v
 | .inr x,v=>ag.isStrOf x v
def keyH (w:br):Key→Int
 | .inl k=>hashInt k
 | .inr x=>hashStr w x
theorem gH:∀ {k:Key} {v:ag},keyIs k v=true→(∃ i t,k=Sum.inl i∧v=ag.int i t)∨(∃ x t,k=Sum.inr x∧v=ag.str x t)
 | .inl i,v,h=>by
  obtain ⟨t,e⟩:=ag.isInt_shape (k:=i) (v:=v) h;exact .inl ⟨i,t,rfl,e⟩
 | .inr x,v,h=>by
  obtain ⟨t,e⟩:=ag.isStrOf_shape (x:=x) (v:=v) h;exact .inr ⟨x,t,rfl,e⟩
theorem keyIs_int (i:Int)(t:Tok):keyIs (.inl i) (.int i t)=true:=by simp [keyIs,ag.isInt]
theorem iV (x:Str)(t:Tok):keyIs (.inr x) (.str x t)=true:=by simp [keyIs,ag.isStrOf]
theorem key_ll (a b:Int):decide ((Sum.inl a:Key)=Sum.inl b)=(a == b):=by
 by_cases e:a=b
 ·subst e;simp
 ·have h:¬ (Sum.inl a:Key)=Sum.inl b:=fun q=>e (Sum.inl.inj q)
  rw [pH h];exact (beq_eq_false_iff_ne.mpr e).symm
theorem key_rr (a b:Str):decide ((Sum.inr a:Key)=Sum.inr b)=decide (a=b):=by
 by_cases e:a=b
 ·subst e;simp
 ·have h:¬ (Sum.inr a:Key)=Sum.inr b:=fun q=>e (Sum.inr.inj q)
  rw [pH h,pH e]
theorem key_lr (a:Int)(b:Str):decide ((Sum.inl a:Key)=Sum.inr b)=false:=pH (fun q=>nomatch q)
theorem key_rl (a:Str)(b:Int):decide ((Sum.inr a:Key)=Sum.inl b)=false:=pH (fun q=>nomatch q)
def fQ (prog:aK)(w:br):PySem.KeyKind prog w Key where
 is:=keyIs
 hash:=keyH w
 inj:=fun v a b ha hb=>by
  rcases gH ha with ⟨i,t,rfl,rfl⟩ | ⟨x,t,rfl,rfl⟩
  ·rcases gH hb with ⟨j,u,rfl,e⟩ | ⟨y,u,rfl,e⟩
   ·injection e with e1 _;rw [e1]
   ·exact nomatch e
  ·rcases gH hb with ⟨j,u,rfl,e⟩ | ⟨y,u,rfl,e⟩
   ·exact nomatch e
   ·injection e with e1 _;rw [e1]
 byValue:=fun k v h=>by
  rcases gH h with ⟨i,t,rfl,rfl⟩ | ⟨x,t,rfl,rfl⟩ <;> rfl
 pyHash:=fun hv h=>by
  rcases gH hv with ⟨i,t,rfl,rfl⟩ | ⟨x,t,rfl,rfl⟩
  ·exact wpAny_pyHash_int h
  ·exact wpAny_pyHash_str h
 eqBool:=fun hu hv h=>by
  rcases gH hu with ⟨i,t,rfl,rfl⟩ | ⟨x,t,rfl,rfl⟩
  ·rcases gH hv with ⟨j,u,rfl,rfl⟩ | ⟨y,u,rfl,rfl⟩
   ·rw [key_ll] at h;exact wpAny_eqBool_int h
   ·rw [key_lr] at h;exact bP.int_str i t y u _ _ _ _ h
  ·rcases gH hv with ⟨j,u,rfl,rfl⟩ | ⟨y,u,rfl,rfl⟩
   ·rw [key_rl] at h;exact bP.str_int x t j u _ _ _ _ h
   ·rw [key_rr] at h;exact wpAny_eqBool_str h
 «strs» := fun k x t v h=>by
  rcases gH h with ⟨i,u,rfl,e⟩ | ⟨y,u,rfl,e⟩
  ·exact nomatch e
  ·injection e with e1 _
   subst e1;cases v <;> rfl
theorem mixKind_int (prog:aK)(w:br)(i:Int)(t:Tok):(fQ prog w).is (.inl i) (.int i t)=true:=keyIs_int i t
theorem lP (prog:aK)(w:br)(x:Str)(t:Tok):(fQ prog w).is (.inr x) (.str x t)=true:=iV x t
inductive V where
 | non | bl (b:Bool) | int (i:Int) | str (x:Str) | byt (b:Array UInt8) | flt (b:UInt64) | ref (a:ak) | ty (n:String)
 deriving DecidableEq
def gU:V→ag→Prop
 | .non,u=>u=ag.none
 | .bl b,u=>u=ag.bool b
 | .int i,u=>∃ t,u=ag.int i t
 | .str x,u=>∃ t,u=ag.str x t
 | .byt b,u=>∃ t,u=ag.bytes b t
 | .flt b,u=>∃ t,u=ag.float b t
 | .ref a,u=>u=ag.ref a
 | .ty n,u=>u=ag.type n
abbrev gr:List V→List ag→Prop:=Paired gU
theorem gr.length {xs:List V}(r:gr xs us):xs.length=us.length:=Paired.length r
theorem gr.get:∀ {xs:List V} {us:List ag} {i:Nat} {x:V},gr xs us→xs[i]? =some x→∃ u,us[i]? =some u∧gU x u
 | _,_,_,_,.nil,e=>by simp at e
 | _,_,0,_,.cons r _,e=>by simp at e;subst e;exact ⟨_,rfl,r⟩
 | _,_,i+1,x,.cons _ t,e=>by
  obtain ⟨u,h1,h2⟩:=gr.get (i:=i) (x:=x) t (by simpa using e);exact ⟨u,by simpa using h1,h2⟩
theorem gr.set {x:V}{u:ag}(r:gU x u):∀ {xs:List V} {us:List ag} (i:Nat),gr xs us→gr (xs.set i x) (us.set i u)
 | _,_,_,.nil=> .nil
 | _,_,0,.cons _ t=> .cons r t
 | _,_,i+1,.cons q t=> .cons q (gr.set r i t)
theorem gr.append:∀ {xs ys:List V} {us ws:List ag},gr xs us→gr ys ws→gr (xs++ys) (us++ws)
 | _,_,_,_,.nil,s=>s
 | _,_,_,_,.cons r t,s=> .cons r (gr.append t s)
theorem gr.take:∀ {xs:List V} {us:List ag} (n:Nat),gr xs us→gr (xs.take n) (us.take n)
 | _,_,0,_=> .nil
 | _,_,_+1,.nil=> .nil
 | _,_,n+1,.cons r t=> .cons r (gr.take n t)
theorem gr.drop:∀ {xs:List V} {us:List ag} (n:Nat),gr xs us→gr (xs.drop n) (us.drop n)
 | _,_,0,r=>r
 | _,_,_+1,.nil=> .nil
 | _,_,n+1,.cons _ t=>gr.drop n t
def RelO:Option V→Option ag→Prop
 | some v,some u=>gU v u
 | none,none=>True
 | _,_=>False
def KV {κ:Type}:List (κ×V)→List (κ×ag)→Prop:=Paired fun (p:κ×V) (q:κ×ag)=>p.1=q.1∧gU p.2 q.2
def kV:Key→V
 | .inl i=> .int i
 | .inr x=> .str x
inductive HO where
 | lst (xs:List V)
 | tup (xs:List V)
 | dK (kvs:List (Key×V)) | dT (kvs:List (List Key×V))
 | set (S:Int→Bool) (n:Nat)
 | ins (C dx:ak) (fs:List (Str×V))
 | own (x:ak)
 | xd (fs:List (Str×V))
 | met (f x:ak)
 | rng (lo hi:Int)
 | frz (o:Obj) (u:HO)
 | tbl (ps:Array ag)
 | ext (φ:bX→Prop)
abbrev Hp:=ak→Option HO
def upd (H:Hp)(a:ak)(o:HO):Hp:=fun b=>if b=a then some o else H b
theorem aP {H:Hp}{o:HO}:upd H a o a=some o:=by unfold upd;rw [pE rfl]
theorem aX {H:Hp}{b:ak}{o:HO}(h:b≠a):upd H a o b=H b:=by unfold upd;rw [pB h]
theorem de {H:Hp}{b:ak}{o u:HO}(h:H a=some o)(h':H b=some u)(d:o≠u):a≠b:=by
 intro e;subst e;rw [h] at h';exact d (bu h')
theorem aV {H:Hp}{b:ak}{o:HO}(h:H a=some o)(h':H b=none):a≠b:=by
 intro e;subst e;rw [h] at h';cases h'
def k8 (h:bX)(a:ak)(items:Array ag):Prop:=∃ o,h.get? a=some o∧o.cls= .type "tuple" ∧o.dict=none∧∃ n,o.data= .seq items n
theorem k8.tup {h:bX}{a:ak}{items:Array ag}(p:k8 h a items):IsTup h a items:=let ⟨o,e,c,_,n,d⟩:=p;⟨o,e,c,n,d⟩
theorem k8.lt (p:k8 h a items):a<h.objs.size:=p.tup.lt
theorem k8.new (h:bX)(items:Array ag):k8 (h.push { cls:= .type "tuple",data:= .seq items }) h.objs.size items:=⟨_,aJ _ rfl,rfl,rfl,_,rfl⟩
section
variable (P:aK) (w:br)
def hW (H:Hp)(h:bX)(a:ak):HO→Prop
 | .lst xs=>xs.length≤au∧∃ (its:List ag) (n:Nat),gr xs its∧h.get? a=some { cls:= .type "list",data:= .seq its.toArray n }
 | .tup xs=>xs.length≤au∧∃ its:List ag,gr xs its∧k8 h a its.toArray
 | .dK kvs=>kvs.length≤au∧(a == fY)=false∧∃ vs,KV kvs vs∧h.DictOf (fQ P w) a vs
 | .dT kvs=>kvs.length≤au∧(a == fY)=false∧∃ xs:List (List Key×ak×ag),
   Paired (fun (p:List Key×V) (q:List Key×ak×ag)=>p.1=q.1∧H q.2.1=some (.tup (p.1.map kV))∧gU p.2 q.2.2) kvs xs ∧
   ∃ o es ep,h.get? a=some o∧o.ExactDict∧o.data= .dict es ep∧es.toList=xs.map (entryOfKey (tupleKind (fQ P w)))∧(xs.map (·.1)).Nodup
 | .set S n=>h.SetOf (intKind P w) a S n
 | .ins C dx fs=>H dx=some (.own a)∧fs.length≤1000∧dx≠a∧h.get? a=some (gu C dx) ∧
   ∃ mA,h.Ns1 dx mA∧(∀ f,RelO (fs.lookup f) (mA f))∧PySem.Within mA (fs.map (·.1))
 | .own _=>∃ o,h.get? a=some o
 | .xd fs=>∃ mA,h.Ns1 a mA∧∀ f,RelO (fs.lookup f) (mA f)
 | .rng lo hi=>∃ t u v,h.get? a=some { cls:= .type "range",data:= .fields #[.int lo t,.int hi u,.int 1 v] }
 | .frz o u=>h.get? a=some o∧hW H h a u
 | .tbl ps=>h.get? a=some { cls:= .none,data:= .fields ps }
 | .met f x=>h.get? a=some (PySem.W.methodObj (.ref f) (.ref x))
 | .ext φ=>φ h∧(∃ o,h.get? a=some o)∧∀ h1 h2:bX,φ h1→(∀ o,h1.get? a=some o→h2.get? a=some o)→φ h2
def HOk (H:Hp)(h:bX):Prop:=∀ a o,H a=some o→hW P w H h a o
end
section
variable {H H':Hp}{o:HO}
theorem hW.lt (x:hW P w H h a o):a<h.objs.size:=by
 cases o with
 | lst xs=>obtain ⟨_,_,_,_,e⟩:=x;exact bc e
 | tup xs=>obtain ⟨_,_,_,p⟩:=x;exact p.lt
 | dK kvs=>obtain ⟨_,_,_,_,o,_,_,e,_⟩:=x;exact bc e
 | dT kvs=>obtain ⟨_,_,_,_,o,_,_,e,_⟩:=x;exact bc e
 | set S n=>obtain ⟨o,_,_,_,e,_⟩:=x;exact bc e
 | ins C dx fs=>obtain ⟨_,_,_,e,_⟩:=x;exact bc e
 | own y=>obtain ⟨_,e⟩:=x;exact bc e
 | xd fs=>obtain ⟨_,⟨_,_,_,e,_⟩,_⟩:=x;exact bc e
 | rng lo hi=>obtain ⟨_,_,_,e⟩:=x;exact bc e
 | frz ob u=>obtain ⟨e,_⟩:=x;exact bc e
 | tbl ps=>exact bc (show h.get? a=some _ from x)
 | met f y=>exact bc (show h.get? a=some _ from x)
 | ext φ=>obtain ⟨_,⟨_,e⟩,_⟩:=x;exact bc e
theorem Paired.mapP {α β:Type}{F G:α→β→Prop}:∀ {l₁:List α} {l₂:List β},Paired F l₁ l₂→(∀ a b,F a b→G a b)→Paired G l₁ l₂
 | _,_,.nil,_=> .nil
 | _,_,.cons r t,f=> .cons (f _ _ r) (Paired.mapP t f)
theorem hW.stay (x:hW P w H h a o)(k:∀ b u,(b=a∨H b=some (.own a))→h.get? b=some u→h'.get? b=some u)
  (ho:∀ b,H b=some (.own a)→H' b=some (.own a)) (ht:∀ b xs,H b=some (.tup xs)→H' b=some (.tup xs)):hW P w H' h' a o:=by
 induction o with
 | lst xs=>obtain ⟨z,its,n,r,e⟩:=x;exact ⟨z,its,n,r,k _ _ (.inl rfl) e⟩
 | tup xs=>obtain ⟨z,its,r,ob,e,c⟩:=x;exact ⟨z,its,r,ob,k _ _ (.inl rfl) e,c⟩
 | dK kvs=>obtain ⟨z,y,vs,r,ob,es,ep,e,c⟩:=x;exact ⟨z,y,vs,r,ob,es,ep,k _ _ (.inl rfl) e,c⟩
 | dT kvs =>
  obtain ⟨z,y,xs,r,ob,es,ep,e,c⟩:=x;exact ⟨z,y,xs,Paired.mapP r fun p q z=>⟨z.1,ht _ _ z.2.1,z.2.2⟩,ob,es,ep,k _ _ (.inl rfl) e,c⟩
 | set S n=>obtain ⟨ob,es,ep,t,e,c⟩:=x;exact ⟨ob,es,ep,t,k _ _ (.inl rfl) e,c⟩
 | ins C dx fs =>
  obtain ⟨d,z,ne,e,mA,⟨od,es,ep,e2,c⟩,r⟩:=x;exact ⟨ho _ d,z,ne,k _ _ (.inl rfl) e,mA,⟨od,es,ep,k _ _ (.inr d) e2,c⟩,r⟩
 | own y=>obtain ⟨ob,e⟩:=x;exact ⟨ob,k _ _ (.inl rfl) e⟩
 | xd fs=>obtain ⟨mA,⟨od,es,ep,e,c⟩,r⟩:=x;exact ⟨mA,⟨od,es,ep,k _ _ (.inl rfl) e,c⟩,r⟩
 | rng lo hi=>obtain ⟨t,u,v,e⟩:=x;exact ⟨t,u,v,k _ _ (.inl rfl) e⟩
 | frz ob u ih=>obtain ⟨e,q⟩:=x;exact ⟨k _ _ (.inl rfl) e,ih q⟩
 | tbl ps =>
  have e:h.get? a=some { cls:= .none,data:= .fields ps }:=x;show h'.get? a=some { cls:= .none,data:= .fields ps };exact k a _ (.inl rfl) e
 | met f y =>
  have e:h.get? a=some (PySem.W.methodObj (.ref f) (.ref y)):=x;show h'.get? a=some (PySem.W.methodObj (.ref f) (.ref y));exact k a _ (.inl rfl) e
 | ext φ=>obtain ⟨p,⟨o,e⟩,st⟩:=x;exact ⟨st _ _ p fun o q=>k _ _ (.inl rfl) q,⟨o,k _ _ (.inl rfl) e⟩,st⟩
theorem HOk.lt (x:HOk P w H h)(e:H a=some o):a<h.objs.size:=(x a o e).lt
theorem HOk.fresh (x:HOk P w H h)(e:h.objs.size≤a):H a=none:=by
 cases q:H a with
 | none=>rfl
 | some u=>exact pF (ck (x.lt q) e) (ia _)
theorem HOk.kept (x:HOk P w H h)(k:∀ b u,h.get? b=some u→h'.get? b=some u):HOk P w H h':=fun a o e =>
 (x a o e).stay (fun b u _ q=>k b u q) (fun _ q=>q) fun _ _ q=>q
theorem HOk.laid (x:HOk P w H h)(k:∀ b u,h.get? b=some u→h'.get? b=some u)(hp:h.objs.size≤a)(new:hW P w (upd H a o) h' a o):HOk P w (upd H a o) h':=fun b u e=>by
 have hn:=x.fresh hp
 by_cases hb:b=a
 ·subst hb;rw [aP] at e;cases e;exact new
 ·rw [aX hb] at e
  exact (x b u e).stay (fun c v _ q=>k c v q) (fun c q=>by rw [aX (aV q hn)];exact q) fun c xs q=>by rw [aX (aV q hn)];exact q
end
def Rd (H:Hp)(a:ak)(u:HO):Prop:=H a=some u∨∃ o,H a=some (.frz o u)
theorem Rd.ok {H:Hp}{u:HO}(r:Rd H a u)(x:HOk P w H h):hW P w H h a u:=by
 rcases r with r | ⟨o,r⟩
 ·exact x a u r
 ·obtain ⟨_,q⟩:=x a _ r
  exact q
def Mut:Option HO→Prop
 | some (.lst _)=>True
 | some (.dK _)=>True
 | some (.dT _)=>True
 | some (.set _ _)=>True
 | some (.ins _ _ _)=>True
 | some (.ext _)=>True
 | _=>False
section
variable {H:Hp}{x e:ak}{o':HO}
theorem HOk.write (ok:HOk P w H h)(mu:Mut (H x))(he:e=x∨H e=some (.own x))(k:∀ b u,b≠e→h.get? b=some u→h'.get? b=some u)(heo:∃ u,h'.get? e=some u)
  (new:hW P w (upd H x o') h' x o'):HOk P w (upd H x o') h':=fun b u q=>by
 have nown:∀ c y,H c=some (.own y)→c≠x:=fun c y r z=>by subst z;rw [r] at mu;exact mu
 have ntup:∀ c xs,H c=some (.tup xs)→c≠x:=fun c xs r z=>by subst z;rw [r] at mu;exact mu
 by_cases hb:b=x
 ·subst hb;rw [aP] at q;cases q;exact new
 ·rw [aX hb] at q
  by_cases hbe:b=e
  ·have q':H b=some (.own x):=by
    rcases he with z | z
    ·exact pF (hbe.trans z) hb
    ·rw [hbe];exact z
   rw [q] at q';cases q';obtain ⟨v,hv⟩:=heo;exact ⟨v,by rw [hbe];exact hv⟩
  ·refine (ok b u q).stay (fun c v hc r=>k c v ?_ r) (fun c r=>by rw [aX (nown c b r)];exact r) fun c xs r=>by rw [aX (ntup c xs r)];exact r
   rcases hc with rfl | hc
   ·exact hbe
   ·rintro rfl
    rcases he with z | z
    ·exact nown c b hc z
    ·rw [hc] at z;cases z;exact hb rfl
end
structure Un (fs ex:List ak)(H H':Hp)(h h':bX):Prop where
 keep:∀ b o,h.get? b=some o→H b=none→b ∉ fs→b ∉ ex→h'.get? b=some o
 slot:∀ b o,h.get? b=some o→H b=none→b∈fs→b ∉ ex→∃ sl,h'.get? b=some { o with slots:=sl }
 free:∀ b o,h.get? b=some o→H b=none→b ∉ ex→H' b=none
 there:∀ b o,h.get? b=some o→b ∉ ex→∃ o',h'.get? b=some o'
 tups:∀ b xs,H b=some (.tup xs)→H' b=some (.tup xs)
 frzs:∀ b o u,H b=some (.frz o u)→H' b=some (.frz o u)
 tbls:∀ b ps,H b=some (.tbl ps)→∃ more,H' b=some (.tbl (ps++more))
section
variable {fs fs' ex ex':List ak}{H H1 H2:Hp}{h1 h2:bX}{x e:ak}{o:HO}
theorem Un.any (u:Un fs ex H H1 h h1){b:ak}{ob:Obj}(q:h.get? b=some ob)(n:H b=none)(hx:b ∉ ex):∃ sl,h1.get? b=some { ob with slots:=sl }:=by
 by_cases hb:b∈fs
 ·exact u.slot b ob q n hb hx
 ·exact ⟨ob.slots,u.keep b ob q n hb hx⟩
theorem Un.kept (k:∀ b u,h.get? b=some u→h'.get? b=some u):Un fs ex H H h h' :=
 ⟨fun b ob q _ _ _=>k b ob q,fun b ob q _ _ _=>⟨ob.slots,k b ob q⟩,fun _ _ _ n _=>n,fun b ob q _=>⟨ob,k b ob q⟩,fun _ _ q=>q,fun _ _ _ q=>q,fun _ ps q=>⟨#[],by rw [q];simp⟩⟩
theorem Un.refl:Un fs ex H H h h:=Un.kept fun _ _ q=>q
theorem Un.laid (k:∀ b u,h.get? b=some u→h'.get? b=some u)(hp:h.objs.size≤a)(hn:H a=none):Un fs ex H (upd H a o) h h' where
 keep:=fun b u q _ _ _=>k b u q
 slot:=fun b u q _ _ _=>⟨u.slots,k b u q⟩
 free:=fun b u q n _=>by rw [aX (cg (ck (bc q) hp))];exact n
 there:=fun b u q _=>⟨u,k b u q⟩
 tups:=fun b xs q=>by rw [aX (aV q hn)];exact q
 frzs:=fun b u xs q=>by rw [aX (aV q hn)];exact q
 tbls:=fun b ps q=>⟨#[],by rw [aX (aV q hn),q];simp⟩
theorem Un.write (mu:Mut (H x))(he:e=x∨H e=some (.own x))(k:∀ b u,b≠e→h.get? b=some u→h'.get? b=some u)(heo:∃ u,h'.get? e=some u):Un fs ex H (upd H x o) h h':=by
 have hx:∀ b,H b=none→b≠x:=fun b n z=>by subst z;rw [n] at mu;exact mu
 have hb:∀ b,H b=none→b≠e:=fun b n z=>by
  subst z
  rcases he with r | r
  ·exact hx b n r
  ·rw [n] at r;cases r
 have hm:∀ b u,H b=some u→¬ Mut (some u)→b≠x:=fun b u q nm z=>by subst z;rw [q] at mu;exact nm mu
 refine ⟨fun b u q n _ _=>k b u (hb b n) q,fun b u q n _ _=>⟨u.slots,k b u (hb b n) q⟩,fun b u q n _=>by rw [aX (hx b n)];exact n,fun b u q _=>?_,
  fun b xs q=>by rw [aX (hm b _ q fun z=>z)];exact q,fun b u xs q=>by rw [aX (hm b _ q fun z=>z)];exact q,fun b ps q=>⟨#[],by rw [aX (hm b _ q fun z=>z),q];simp⟩⟩
 by_cases hbe:b=e
 ·subst hbe;exact heo
 ·exact ⟨u,k b u hbe q⟩
end
def trk (h:bX)(H:Hp):List ak:=(cq h.objs.size).filter fun a=>(H a).isSome
def hidT (h:bX)(H:Hp):bX:=PySem.W.hideAll h (trk h H)
theorem hidT_size (h:bX)(H:Hp):(hidT h H).objs.size=h.objs.size:=PySem.W.hideAll_size _ _
theorem hidT_get {H:Hp}{b:ak}{o:Obj}(e:h.get? b=some o)(n:H b=none):(hidT h H).get? b=some o :=
 PySem.W.hideAll_get _ e fun hm=>by
  have q:(H b).isSome=true:=(List.mem_filter.mp hm).2;rw [n] at q;simp at q
theorem of_hidT {H:Hp}{b:ak}{o:Obj}(e:(hidT h H).get? b=some o):h.get? b=some o∧H b=none:=by
 have e':h.get? b=some o:=PySem.W.of_hideAll (trk h H) e;refine ⟨e',?_⟩;cases q:H b with
 | none=>rfl
 | some x =>
  have hm:b∈trk h H:=List.mem_filter.mpr ⟨List.mem_range.mpr (bc e'),by simp [q]⟩;have z:(hidT h H).get? b=none:=PySem.W.hideAll_none (trk h H) hm;rw [z] at e;cases e
structure Mod (K:ai)(mg:Str→Option ag)(base:bX):Prop where
 kin:K.In base
 glob:base.Ns bC mg
 blt:∃ mb,base.Ns builtinsNs mb∧∀ x:Str,x ≠ "__name__" →mb x=bootBuiltins x
 nolimit:base.NoLimit
structure Cx where
 prog:aK
 w:br
 K:ai
 mg:Str→Option ag
 base:bX
 A:b9
 N:List Str
 s₀:ar
 H₀:Hp
 env:Env
 outer:List Env
 stack:List Env
 ex:List ak
 fn:Str→Bool
 calm:Bool
 pn:List (ak×Obj)
 xe:ag→ar→Prop
def frs (l:List Env):List ak:=l.filterMap (·.frame)
abbrev Cx.fs (X:Cx):List ak:=frs X.outer
def Vis (sc:Scope)(x:Str):Prop:=sc.names.lookup x=some .local∨sc.names.lookup x=some .cell∨sc.names.lookup x=some .free
def Loc (sc:Scope)(x:Str):Prop:=sc.names.lookup x=some .local∨sc.names.lookup x=some .cell
def Look (env:Env)(h:bX)(m:Str→Option ag)(x:Str)(u:ag):Prop :=
 (env.kindOf x=some .local∧m x=some u)∨((env.kindOf x=some .cell∨env.kindOf x=some .free)∧∃ c,env.cells.lookup x=some c∧h.IsCell c (some u))
structure Cx.Ok (X:Cx):Prop where
 mod:Mod X.K X.mg X.base
 kind:X.env.scope.kind= .function
 glob:X.env.globals=bC
 blt:X.env.builtins=builtinsNs
 above:X.s₀.heap.objs.size≤X.env.locals
 inj:∀ x y c,X.env.cells.lookup x=some c→X.env.cells.lookup y=some c→x=y
 has:∀ x,(X.env.kindOf x=some .cell∨X.env.kindOf x=some .free)→∃ c,X.env.cells.lookup x=some c
 cab:∀ x c,X.fn x=true→X.env.cells.lookup x=some c→X.s₀.heap.objs.size≤c
 hd:X.calm=true→X.A.handled=none
 frames:X.A.frames=some X.stack
 stk:X.stack=X.outer∨(X.stack=X.env::X.outer∧X.env.frame=some X.env.locals)
 exf:∀ b∈X.ex,b≠X.env.locals∧∀ x c,X.env.cells.lookup x=some c→c≠b
 bs:∀ b o,X.base.get? b=some o→X.s₀.heap.get? b=some o∧X.H₀ b=none
 bsz:X.base.objs.size≤X.s₀.heap.objs.size
 noex:∀ b o,X.base.get? b=some o→b ∉ X.ex
 exfs:∀ b∈X.ex,b ∉ X.fs
 funs:X.s₀.heap.FunFrames X.base X.outer
 frf:∀ b∈X.fs,X.H₀ b=none
structure Inv (X:Cx)(aI:List (ak×Obj))(σ:List (Option V))(H:Hp)(s:ar):Prop where
 ok:X.Ok
 os:s.os=X.s₀.os
 bare:AllBare s.gens
 base:Un X.fs X.ex X.H₀ H X.s₀.heap s.heap
 loc:∃ m,s.heap.Ns X.env.locals m∧∀ (i:Nat) (x:Str) (v:V),X.N[i]? =some x→σ[i]? =some (some v)→Vis X.env.scope x→∃ u,gU v u∧Look X.env s.heap m x u
 cell:∀ x c,X.env.cells.lookup x=some c→∃ v,s.heap.IsCell c v
 free:H X.env.locals=none
 freeC:∀ x c,X.env.cells.lookup x=some c→H c=none
 pin:∀ p∈X.pn++aI,s.heap.get? p.1=some p.2∧H p.1=none∧p.1≠X.env.locals∧p.1 ∉ X.fs∧∀ v,p.2.data≠ .cell v
 hok:HOk X.prog X.w H s.heap
 len:σ.length=X.N.length
section
variable {X:Cx}{σ:List (Option V)}{H H':Hp}
theorem Cx.Ok.nofr (ok:X.Ok){b:ak}{o:Obj}(e:X.base.get? b=some o):b ∉ X.fs:=fun hb=>by
 have:=(ok.funs.mem hb).1;rw [e] at this;cases this
theorem Inv.bs (I:Inv X aI σ H s):∀ b o,X.base.get? b=some o→s.heap.get? b=some o∧H b=none:=fun b o e =>
 ⟨I.base.keep b o (I.ok.bs b o e).1 (I.ok.bs b o e).2 (I.ok.nofr e) (I.ok.noex b o e),I.base.free b o (I.ok.bs b o e).1 (I.ok.bs b o e).2 (I.ok.noex b o e)⟩
theorem Inv.bk (I:Inv X aI σ H s):∀ b o,X.base.get? b=some o→s.heap.get? b=some o:=fun b o e=>(I.bs b o e).1
theorem Inv.mod (I:Inv X aI σ H s):Mod X.K X.mg X.base:=I.ok.mod
theorem Inv.kIn (I:Inv X aI σ H s):X.K.In s.heap:=I.ok.mod.kin.keeps I.bk
theorem Inv.lt (I:Inv X aI σ H s):X.env.locals<s.heap.objs.size:=let ⟨_,hn,_⟩:=I.loc;hn.lt
theorem Inv.sz (I:Inv X aI σ H s):X.s₀.heap.objs.size≤s.heap.objs.size:=cn I.ok.above (Nat.le_of_lt I.lt)
theorem Inv.nofs (I:Inv X aI σ H s)(h:s.heap.objs.size≤a):a ∉ X.fs:=fun hb=>by
 obtain ⟨_,o,ho,_⟩:=I.ok.funs.mem hb;exact pF (ck (bc ho) (cn I.sz h)) (ia _)
theorem Inv.cne (I:Inv X aI σ H s):∀ x c,X.env.cells.lookup x=some c→c≠X.env.locals:=fun x c e z=>by
 obtain ⟨v,o,ho,hd⟩:=I.cell x c e;obtain ⟨m,⟨o',es,ep,ho',hd',_⟩,_⟩:=I.loc;rw [z,ho'] at ho;cases ho;rw [hd'] at hd;cases hd
theorem Inv.funs (I:Inv X aI σ H s):s.heap.FunFrames X.base X.outer:=by
 have all:∀ (l:List Env),(∀ b∈frs l,b∈X.fs)→X.s₀.heap.FunFrames X.base l→s.heap.FunFrames X.base l:=by
  intro l
  induction l with
  | nil=>intro _ _;trivial
  | cons env r ih =>
   intro hs hl;obtain ⟨hk,⟨L,o,hf,hn,ho,hd⟩,hr⟩:=hl;have hL:L∈X.fs:=hs L (by unfold frs;rw [gI,hf];exact bG);obtain ⟨sl,e⟩:=I.base.slot L o ho (I.ok.frf L hL) hL fun z=>I.ok.exfs L z hL
   exact ⟨hk,⟨L,_,hf,hn,e,hd⟩,ih (fun b hb=>hs b (by unfold frs;rw [gI,hf];exact aO _ hb)) hr⟩
 exact all X.outer (fun _ hb=>hb) I.ok.funs
theorem Inv.stack (I:Inv X aI σ H s):s.heap.FunFrames X.base X.stack:=by
 rcases I.ok.stk with e | ⟨e,hf⟩
 ·rw [e];exact I.funs
 ·rw [e]
  obtain ⟨m,hn,_⟩:=I.loc;refine .cons (by rw [I.ok.kind];decide) hf hn ?_ I.funs;exact bX.get?_none_of_le (cn I.ok.bsz I.ok.above)
theorem Inv.stkSub (I:Inv X aI σ H s):∀ b∈frs X.stack,b∈X.env.locals::X.fs:=fun b hb=>by
 rcases I.ok.stk with e | ⟨e,hf⟩
 ·rw [e] at hb;exact aO _ hb
 ·rw [e] at hb
  unfold frs at hb;rw [gI,hf] at hb;exact hb
theorem Inv.stkFree (I:Inv X aI σ H s):∀ b∈frs X.stack,H b=none:=fun b hb=>by
 rcases av.mp (I.stkSub b hb) with e | hb
 ·rw [e];exact I.free
 ·obtain ⟨_,o,ho,_⟩:=I.ok.funs.mem hb
  exact I.base.free b o ho (I.ok.frf b hb) fun z=>I.ok.exfs b z hb
theorem Inv.step (I:Inv X aI σ H s)
  (hch:∀ b∈ch,(b∈X.ex∨X.s₀.heap.objs.size≤b)∧b≠X.env.locals∧(∀ x c,X.env.cells.lookup x=some c→c≠b)∧∀ p∈X.pn++aI,p.1≠b)
  (keep:∀ b o,b≠X.env.locals→b ∉ X.fs→b ∉ ch→s.heap.get? b=some o→H b=none→h'.get? b=some o)
  (slot:∀ b o,b≠X.env.locals→b∈X.fs→b ∉ ch→s.heap.get? b=some o→H b=none→∃ sl,h'.get? b=some { o with slots:=sl }) (free:∀ b o,b ∉ ch→s.heap.get? b=some o→H b=none→H' b=none)
  (there:∀ b o,b ∉ ch→s.heap.get? b=some o→∃ o',h'.get? b=some o')
  (tups:∀ b xs,H b=some (.tup xs)→H' b=some (.tup xs)) (frzs:∀ b o u,H b=some (.frz o u)→H' b=some (.frz o u)) (tbls:∀ b ps,H b=some (.tbl ps)→∃ more,H' b=some (.tbl (ps++more)))
  (ns:∀ m,s.heap.Ns X.env.locals m→h'.Ns X.env.locals m) (hok:HOk X.prog X.w H' h') (hg:AllBare g') :
  Inv X aI σ H' { s with heap:=h',gens:=g',drawn:=d',toks:=t' }:=by
 have neL:∀ b o,X.s₀.heap.get? b=some o→b≠X.env.locals:=fun b o e=>cg (ck (bc e) I.ok.above)
 have neC:∀ b o,X.s₀.heap.get? b=some o→b ∉ X.ex→b ∉ ch:=fun b o e hx hb=>by
  rcases (hch b hb).1 with z | z
  ·exact hx z
  ·exact pF (ck (bc e) z) (ia _)
 have cellK:∀ x c,X.env.cells.lookup x=some c→∀ v,s.heap.IsCell c v→h'.IsCell c v:=fun x c e v ⟨o,ho,hd⟩=>by
  have nch:c ∉ ch:=fun z=>(hch c z).2.2.1 x c e rfl
  by_cases hc:c∈X.fs
  ·obtain ⟨sl,q⟩:=slot c o (I.cne x c e) hc nch ho (I.freeC x c e)
   exact ⟨_,q,hd⟩
  ·exact ⟨o,keep c o (I.cne x c e) hc nch ho (I.freeC x c e),hd⟩
 refine ⟨I.ok,I.os,hg,⟨fun b o e n hb hx=>?_,fun b o e n hb hx=>?_,fun b o e n hx=>?_,fun b o e hx=>?_,fun b xs e=>tups b xs (I.base.tups b xs e),fun b o xs e=>frzs b o xs (I.base.frzs b o xs e),fun b ps e=>?_⟩,?_,fun x c e=>?_,?_,fun x c e=>?_,fun p hp=>?_,hok,I.len⟩
 ·exact keep b o (neL b o e) hb (neC b o e hx) (I.base.keep b o e n hb hx) (I.base.free b o e n hx)
 ·obtain ⟨sl,e1⟩:=I.base.slot b o e n hb hx
  obtain ⟨sl',e2⟩:=slot b _ (neL b o e) hb (neC b o e hx) e1 (I.base.free b o e n hx);exact ⟨sl',e2⟩
 ·obtain ⟨o',e1⟩:=I.base.there b o e hx
  exact free b o' (neC b o e hx) e1 (I.base.free b o e n hx)
 ·obtain ⟨o',e1⟩:=I.base.there b o e hx
  exact there b o' (neC b o e hx) e1
 ·obtain ⟨m1,e1⟩:=I.base.tbls b ps e
  obtain ⟨m2,e2⟩:=tbls b _ e1;exact ⟨m1++m2,by rw [e2,Array.append_assoc]⟩
 ·obtain ⟨m,hn,hl⟩:=I.loc
  refine ⟨m,ns m hn,fun i x v e1 e2 e3=>?_⟩;obtain ⟨u,r,l⟩:=hl i x v e1 e2 e3;refine ⟨u,r,?_⟩
  rcases l with l | ⟨k,c,e,z⟩
  ·exact .inl l
  ·exact .inr ⟨k,c,e,cellK x c e _ z⟩
 ·obtain ⟨v,z⟩:=I.cell x c e
  exact ⟨v,cellK x c e v z⟩
 ·obtain ⟨m,⟨o,_,_,ho,_⟩,_⟩:=I.loc
  exact free _ o (fun z=>(hch _ z).2.1 rfl) ho I.free
 ·obtain ⟨v,o,ho,hd⟩:=I.cell x c e
  exact free c o (fun z=>(hch c z).2.2.1 x c e rfl) ho (I.freeC x c e)
 ·obtain ⟨e,n,ne,nf,d⟩:=I.pin p hp
  have nch:p.1 ∉ ch:=fun z=>(hch p.1 z).2.2.2 p hp rfl
  exact ⟨keep p.1 p.2 ne nf nch e n,free p.1 p.2 nch e n,ne,nf,d⟩
theorem Inv.un (I:Inv X aI σ H s)(u:Un X.fs [] H H' s.heap h')(hok:HOk X.prog X.w H' h'):Inv X aI σ H' { s with heap:=h',toks:=t' }:=by
 obtain ⟨m,⟨o,es,ep,ho,r⟩,_⟩:=id I.loc;obtain ⟨sl,hL⟩:=u.any ho I.free (by simp);exact I.step (g':=s.gens) (d':=s.drawn) (ch:=[]) (fun _ z=>nomatch z) (fun b o _ hb _ e n=>u.keep b o e n hb (by simp)) (fun b o _ hb _ e n=>u.slot b o e n hb (by simp)) (fun b o _ e n=>u.free b o e n (by simp)) (fun b o _ e=>u.there b o e (by simp)) u.tups u.frzs u.tbls (fun m' hm=>by
  obtain ⟨o',es',ep',ho',r'⟩:=hm;rw [ho] at ho';cases ho';exact ⟨_,es',ep',hL,r'⟩) hok I.bare
theorem Inv.call (I:Inv X aI σ H s)(u:Un (frs X.stack) ch H H' s.heap h')(hok:HOk X.prog X.w H' h')(hg:AllBare g')
  (hch:∀ b∈ch,(b∈X.ex∨X.s₀.heap.objs.size≤b)∧b≠X.env.locals∧(∀ x c,X.env.cells.lookup x=some c→c≠b)∧∀ p∈X.pn++aI,p.1≠b) :
  Inv X aI σ H' { s with heap:=h',gens:=g',drawn:=d',toks:=t' }:=by
 obtain ⟨m,⟨o,es,ep,ho,r⟩,_⟩:=id I.loc;obtain ⟨sl,hL⟩:=u.any ho I.free fun z=>(hch _ z).2.1 rfl
 exact I.step (ch:=ch) hch (fun b o hL hb hc e n=>u.keep b o e n (fun z=>(av.mp (I.stkSub b z)).elim hL hb) hc) (fun b o _ _ hc e n=>u.any e n hc) (fun b o hc e n=>u.free b o e n hc) (fun b o hc e=>u.there b o e hc) u.tups u.frzs u.tbls (fun m' hm=>by
  obtain ⟨o',es',ep',ho',r'⟩:=hm;rw [ho] at ho';cases ho';exact ⟨_,es',ep',hL,r'⟩) hok hg
theorem Inv.turned (I:Inv X aI σ H s)(k:∀ b o,b≠it→s.heap.get? b=some o→h'.get? b=some o)(hn:H it=none)(hL:it≠X.env.locals)
  (h1:it∈X.ex∨X.s₀.heap.objs.size≤it) (h2:∀ x c,X.env.cells.lookup x=some c→c≠it) (h3:∀ p∈X.pn++aI,p.1≠it):Inv X aI σ H { s with heap:=h',toks:=t' }:=by
 have nit:∀ b u,H b=some u→b≠it:=fun b u e z=>by rw [z,hn] at e;cases e
 refine I.step (g':=s.gens) (d':=s.drawn) (ch:=[it]) (fun b hb=>?_) (fun b o _ _ hc e _=>k b o (fun z=>hc (by simp [z])) e) (fun b o _ _ hc e _=>⟨o.slots,k b o (fun z=>hc (by simp [z])) e⟩) (fun _ _ _ _ n=>n)
  (fun b o hc e=>⟨o,k b o (fun z=>hc (by simp [z])) e⟩) (fun _ _ e=>e) (fun _ _ _ e=>e) (fun b ps e=>⟨#[],by rw [e];simp⟩) (fun m hm=>?_) (fun b u e=>?_) I.bare
 ·have e:b=it:=by simpa using hb
  subst e;exact ⟨h1,hL,h2,h3⟩
 ·obtain ⟨o,es,ep,ho,r⟩:=hm
  exact ⟨o,es,ep,k _ o (cO hL) ho,r⟩
 ·refine (I.hok b u e).stay (fun c v hc q=>k c v ?_ q) (fun _ q=>q) fun _ _ q=>q
  rcases hc with z | z
  ·rw [z];exact nit b u e
  ·exact nit c _ z
theorem Inv.tok (I:Inv X aI σ H s)(t:Nat):Inv X aI σ H { s with toks:=t }:=I.un (h':=s.heap) (t':=t) Un.refl I.hok
theorem Inv.kept (I:Inv X aI σ H s)(k:∀ b u,s.heap.get? b=some u→h'.get? b=some u):Inv X aI σ H { s with heap:=h',toks:=t' }:=I.un (Un.kept k) (I.hok.kept k)
theorem Inv.laid {o:HO}(I:Inv X aI σ H s)(k:∀ b u,s.heap.get? b=some u→h'.get? b=some u)(hp:s.heap.objs.size≤a)(new:hW X.prog X.w (upd H a o) h' a o) :
  Inv X aI σ (upd H a o) { s with heap:=h',toks:=t' }:=I.un (Un.laid k hp (I.hok.fresh hp)) (I.hok.laid k hp new)
theorem Inv.write {x e:ak}{o:HO}(I:Inv X aI σ H s)(mu:Mut (H x))(he:e=x∨H e=some (.own x))(k:∀ b u,b≠e→s.heap.get? b=some u→h'.get? b=some u)(heo:∃ u,h'.get? e=some u)
  (new:hW X.prog X.w (upd H x o) h' x o):Inv X aI σ (upd H x o) { s with heap:=h',toks:=t' }:=I.un (Un.write mu he k heo) (I.hok.write mu he k heo new)
theorem Inv.pins_of (I:Inv X aI σ H s)(h:∀ p∈pins',s.heap.get? p.1=some p.2∧H p.1=none∧p.1≠X.env.locals∧p.1 ∉ X.fs∧∀ v,p.2.data≠ .cell v):Inv X pins' σ H s :=
 ⟨I.ok,I.os,I.bare,I.base,I.loc,I.cell,I.free,I.freeC,fun p hp=>(bg.mp hp).elim (fun z=>I.pin p (cB _ z)) (h p),I.hok,I.len⟩
theorem nodup_ix (hN:N.Nodup)(a:N[i]? =some x)(b:N[j]? =some x):i=j:=by
 obtain ⟨h1,e1⟩:=ah.mp a;obtain ⟨h2,e2⟩:=ah.mp b;exact (List.getElem_inj hN).mp (e1.trans e2.symm)
theorem store_ok2 {v:V}{Q:Unit→ar→Prop}(I:Inv X aI σ H s)(hN:X.N.Nodup)(hi:X.N[i]? =some x)(hx:Loc X.env.scope x)(r:gU v u)
  (h:∀ s',Inv X aI (σ.set i (some v)) H s'→(∃ a,cI a s.heap s'.heap∧(a=X.env.locals∨X.env.cells.lookup x=some a))→Q () s') (hf:X.fn x=true∨X.env.scope.names.lookup x=some .local:=by first | exact .inl rfl | exact .inr rfl | assumption):bo M A (storeName X.env x u) Q E s:=by
 obtain ⟨m,hn,hl⟩:=id I.loc;have hcls:(X.env.scope.kind == .class || (X.env.scope.kind == .module && X.env.locals != X.env.globals))=false:=by rw [I.ok.kind];rfl
 have hiσ:i<σ.length:=by rw [I.len];exact (ah.mp hi).1
 have cne:=I.cne;have tracked:∀ {a:ak} {h':bX},(∃ o,s.heap.get? a=some o∧H a=none)→cI a s.heap h'→HOk X.prog X.w H h':=fun {a h'} ha hs b ob e=>by
  obtain ⟨_,_,hfree⟩:=ha;refine (I.hok b ob e).stay (fun c w' hc q=>(hs.2 c ?_).trans q) (fun _ q=>q) fun _ _ q=>q
  rintro rfl
  rcases hc with rfl | hc
  ·rw [hfree] at e;cases e
  ·rw [hfree] at hc;cases hc
 rcases hx with hk | hk
 ·refine wpAny_storeName_local hk hn (fun h' hn' hs=>?_) hcls
  obtain ⟨oL,_,_,hoL,_⟩:=id hn;refine h _ ⟨I.ok,I.os,I.bare,⟨fun b o e n hb hx=>?_,fun b o e n hb hx=>?_,I.base.free,fun b o e hx=>?_,I.base.tups,I.base.frzs,I.base.tbls⟩,⟨_,hn',fun j y v' e1 e2 e3=>?_⟩,fun y c e=>?_,I.free,I.freeC,fun p hp=>?_,tracked ⟨oL,hoL,I.free⟩ hs,by simpa using I.len⟩ ⟨_,hs,.inl rfl⟩
  ·exact (hs.2 b (cg (ck (bc e) I.ok.above))).trans (I.base.keep b o e n hb hx)
  ·obtain ⟨sl,e1⟩:=I.base.slot b o e n hb hx
   exact ⟨sl,(hs.2 b (cg (ck (bc e) I.ok.above))).trans e1⟩
  ·obtain ⟨o',e1⟩:=I.base.there b o e hx
   exact ⟨o',(hs.2 b (cg (ck (bc e) I.ok.above))).trans e1⟩
  ·by_cases hj:j=i
   ·subst hj
    rw [hi] at e1;cases e1;rw [List.getElem?_set_self hiσ] at e2;cases e2;exact ⟨u,r,.inl ⟨hk,by simp⟩⟩
   ·rw [List.getElem?_set_ne (cO hj)] at e2
    obtain ⟨u',r',q⟩:=hl j y v' e1 e2 e3;refine ⟨u',r',?_⟩
    rcases q with ⟨k,e⟩ | ⟨k,c,e,z⟩
    ·refine .inl ⟨k,?_⟩
     have:y≠x:=fun e=>hj (nodup_ix hN e1 (e ▸ hi))
     simp [this,e]
    ·exact .inr ⟨k,c,e,z.sameBut hs (cne y c e)⟩
  ·obtain ⟨w',z⟩:=I.cell y c e
   exact ⟨w',z.sameBut hs (cne y c e)⟩
  ·obtain ⟨e,n,ne,nf,d⟩:=I.pin p hp
   exact ⟨(hs.2 p.1 ne).trans e,n,ne,nf,d⟩
 ·have hfn:X.fn x=true:=by
   rcases hf with z | z
   ·exact z
   ·rw [z] at hk;cases hk
  obtain ⟨c,hc⟩:=I.ok.has x (.inl hk);obtain ⟨w',z⟩:=I.cell x c hc;refine wpAny_storeName_cell I.ok.kind hk hc z (fun h' hc' hs=>?_);obtain ⟨oc,hoc,hocd⟩:=id z;refine h { s with heap:=h' } ⟨I.ok,I.os,I.bare,⟨fun b o e n hb hx=>?_,fun b o e n hb hx=>?_,I.base.free,fun b o e hx=>?_,I.base.tups,I.base.frzs,I.base.tbls⟩,⟨m,hn.sameBut hs (cO (cne x c hc)),fun j y v' e1 e2 e3=>?_⟩,fun y c' e=>?_,I.free,I.freeC,fun p hp=>?_,tracked ⟨oc,hoc,I.freeC x c hc⟩ hs,by simpa using I.len⟩ ⟨c,hs,.inr hc⟩
  ·exact (hs.2 b (cg (ck (bc e) (I.ok.cab x c hfn hc)))).trans (I.base.keep b o e n hb hx)
  ·obtain ⟨sl,e1⟩:=I.base.slot b o e n hb hx
   exact ⟨sl,(hs.2 b (cg (ck (bc e) (I.ok.cab x c hfn hc)))).trans e1⟩
  ·obtain ⟨o',e1⟩:=I.base.there b o e hx
   exact ⟨o',(hs.2 b (cg (ck (bc e) (I.ok.cab x c hfn hc)))).trans e1⟩
  ·by_cases hj:j=i
   ·subst hj
    rw [hi] at e1;cases e1;rw [List.getElem?_set_self hiσ] at e2;cases e2;exact ⟨u,r,.inr ⟨.inl hk,c,hc,hc'⟩⟩
   ·rw [List.getElem?_set_ne (cO hj)] at e2
    obtain ⟨u',r',q⟩:=hl j y v' e1 e2 e3;refine ⟨u',r',?_⟩
    rcases q with q | ⟨k,c',e,z'⟩
    ·exact .inl q
    ·refine .inr ⟨k,c',e,z'.sameBut hs ?_⟩
     rintro rfl;exact hj (nodup_ix hN e1 (I.ok.inj _ _ _ e hc ▸ hi))
  ·by_cases hcc:c'=c
   ·subst hcc;exact ⟨_,hc'⟩
   ·obtain ⟨w2,z2⟩:=I.cell y c' e
    exact ⟨w2,z2.sameBut hs hcc⟩
  ·obtain ⟨e,n,ne,nf,d⟩:=I.pin p hp
   refine ⟨(hs.2 p.1 ?_).trans e,n,ne,nf,d⟩;intro q;rw [q,hoc] at e;have q':oc=p.2:=bu e;exact d w' (by rw [←q'];exact hocd)
theorem store_ok {v:V}{Q:Unit→ar→Prop}(I:Inv X aI σ H s)(hN:X.N.Nodup)(hi:X.N[i]? =some x)(hx:Loc X.env.scope x)(r:gU v u)
  (h:∀ s',Inv X aI (σ.set i (some v)) H s'→Q () s') (hf:X.fn x=true∨X.env.scope.names.lookup x=some .local:=by first | exact .inl rfl | exact .inr rfl | assumption):bo M A (storeName X.env x u) Q E s :=
 store_ok2 I hN hi hx r (fun s' I' _=>h s' I') hf
theorem Inv.call' (I:Inv X aI σ H s)(ho:s'.os=s.os)(u:Un (frs X.stack) ch H H' s.heap s'.heap)(hok:HOk X.prog X.w H' s'.heap)(hg:AllBare s'.gens)
  (hch:∀ b∈ch,(b∈X.ex∨X.s₀.heap.objs.size≤b)∧b≠X.env.locals∧(∀ x c,X.env.cells.lookup x=some c→c≠b)∧∀ p∈X.pn++aI,p.1≠b):Inv X aI σ H' s':=by
 obtain ⟨h',g',d',t',o'⟩:=s';have e:o'=s.os:=ho;subst e;exact I.call (g':=g') (t':=t') (d':=d') u hok hg hch
end
abbrev XK:=ag→Option ak→Hp→Prop
abbrev St:=List (Option V)
abbrev VK:=V→Hp→Prop
abbrev TE:=St→Hp→VK→Prop
abbrev TT:=St→Hp→(Bool→Hp→Prop)→Prop
abbrev TA:=St→Hp→(List V→Hp→Prop)→Prop
structure mW where
 nx:St→Hp→Prop
 rt:VK
 bk:St→Hp→Prop:=fun _ _=>False
 ct:St→Hp→Prop:=fun _ _=>False
abbrev TS:=mW→St→Hp→Prop
end L2
variable {H H' H1 H2 HA:L2.Hp}{X:L2.Cx}{kvs:List (List L2.Key×L2.V)}{lb ts:List (List L2.V)}{o:L2.HO}{r':L2.V→Option Int→Option Int→L2.Hp→L2.VK→Prop}{ta te tl to:L2.TE}{tb:L2.TS}{tt:L2.TT}{v y:L2.V}{xs:List L2.V}{σ:L2.St}
namespace L2
open PySem PySem.Spec PyProof.Rows
def EP (X:Cx)(aI:List (ak×Obj))(σ:St)(Q:VK)(u:ag)(s':ar):Prop:=∃ v H',Inv X aI σ H' s'∧gU v u∧Q v H'
def TP (X:Cx)(aI:List (ak×Obj))(σ:St)(Q:Bool→Hp→Prop)(b:Bool)(s':ar):Prop:=∃ H',Inv X aI σ H' s'∧Q b H'
def AP (X:Cx)(aI:List (ak×Obj))(σ:St)(Q:List V→Hp→Prop)(us:List ag)(s':ar):Prop:=∃ vs H',Inv X aI σ H' s'∧gr vs us∧Q vs H'
def SP (X:Cx)(aI:List (ak×Obj))(D:mW)(f:Flow)(s':ar):Prop :=
 match f with
 | .next=>∃ σ' H',Inv X aI σ' H' s'∧D.nx σ' H'
 | .brk=>∃ σ' H',Inv X aI σ' H' s'∧D.bk σ' H'
 | .cont=>∃ σ' H',Inv X aI σ' H' s'∧D.ct σ' H'
 | .ret u=>∃ v σ' H',Inv X aI σ' H' s'∧gU v u∧D.rt v H'
def PE (X:Cx)(e:Expr)(t:TE):Prop :=
 ∀ (aI:List (ak×Obj)) (s:ar) (σ:St) (H:Hp) (Q:VK),Inv X aI σ H s→t σ H Q→bo (bQ X.prog X.w) X.A (dn e X.env) (EP X aI σ Q) X.xe s
def PT (X:Cx)(e:Expr)(t:TT):Prop :=
 ∀ (aI:List (ak×Obj)) (s:ar) (σ:St) (H:Hp) (Q:Bool→Hp→Prop),Inv X aI σ H s→t σ H Q→bo (bQ X.prog X.w) X.A (isTrue e X.env (dn e X.env)) (TP X aI σ Q) X.xe s
def PW (X:Cx)(e:Expr)(t:TT):Prop :=
 ∀ (whole:Sem ag) (aI:List (ak×Obj)) (s:ar) (σ:St) (H:Hp) (Q:Bool→Hp→Prop),Inv X aI σ H s→t σ H Q→bo (bQ X.prog X.w) X.A (isTrue e X.env whole) (TP X aI σ Q) X.xe s
theorem PW.pt {t:TT}(h:PW X e t):PT X e t:=h _
def PA (X:Cx)(es:List Expr)(t:TA):Prop :=
 ∀ (pos:Pos) (aI:List (ak×Obj)) (s:ar) (σ:St) (H:Hp) (Q:List V→Hp→Prop),Inv X aI σ H s→t σ H Q→bo (bQ X.prog X.w) X.A (spliced (gk pos (bw es X.env))) (AP X aI σ Q) X.xe s
def PS (X:Cx)(st:cN)(t:TS):Prop :=
 ∀ (aI:List (ak×Obj)) (s:ar) (σ:St) (H:Hp) (D:mW),Inv X aI σ H s→t D σ H→bo (bQ X.prog X.w) X.A (exec st X.env) (SP X aI D) X.xe s
def PSs (X:Cx)(st:List cN)(t:TS):Prop :=
 ∀ (aI:List (ak×Obj)) (s:ar) (σ:St) (H:Hp) (D:mW),Inv X aI σ H s→t D σ H→bo (bQ X.prog X.w) X.A (execs st X.env) (SP X aI D) X.xe s
theorem thn {t:Sem α}{Q Q':α→ar→Prop}(h:bo M A t Q E s)(hQ:∀ a s,Q a s→Q' a s):bo M A t Q' E s:=eh h hQ fun _ _ x=>x
section
inductive HasV (o:Option (Option V))(k:V→Prop):Prop
 | mk (v:V)(h:o=some (some v))(q:k v):HasV o k
inductive IsBl (x:V)(k:Bool→Prop):Prop
 | mk (c:Bool)(h:x= .bl c)(q:k c):IsBl x k
def tVar (i:Nat):TE:=fun σ H Q=>HasV σ[i]? fun v=>Q v H
def tC (v:V):TE:=fun _ H Q=>Q v H
theorem pe_var (hN:X.N[i]? =some x)(hv:Vis X.env.scope x)(hd:(x == ("__debug__" :Str))=false:=by decide)(hcd:(x == ("__classdict__" :Str))=false:=by decide):PE X (.Name x pos) (tVar i):=by
 intro aI s σ H Q I h;obtain ⟨v,e,h⟩:=h;obtain ⟨m,hn,hl⟩:=I.loc;obtain ⟨u,r,l⟩:=hl i x v hN e hv;have fin:EP X aI σ Q u s:=⟨v,H,I,r,h⟩
 rcases l with ⟨hk,hm⟩ | ⟨hk,c,hc,lT⟩
 ·exact wpAny_Name (wpAny_loadName_local I.ok.kind hk hn hm fin) hd
 ·rcases hk with hk | hk
  ·exact wpAny_Name (wpAny_loadName_cell I.ok.kind hk hc lT fin) hd
  ·exact wpAny_Name (wpAny_loadName_free I.ok.kind hk hc lT fin hcd) hd
theorem aC {i j pos}:PE X (.Constant (.int i) j pos) (tC (.int i)):=fun _ _ _ H _ I h=>wpAny_Constant_int ⟨.int i,H,I.tok _,⟨_,rfl⟩,h⟩
theorem lO {b j pos}:PE X (.Constant (.bool b) j pos) (tC (.bl b)):=fun _ _ _ H _ I h=>Constant_bool ⟨.bl b,H,I,rfl,h⟩
theorem gT {j pos}:PE X (.Constant .none j pos) (tC .non):=fun _ _ _ H _ I h=>Constant_none ⟨.non,H,I,rfl,h⟩
theorem dv {x j pos}:PE X (.Constant (.str x) j pos) (tC (.str x)):=fun _ _ _ H _ I h=>Calls.Constant_str ⟨.str x,H,I.tok _,⟨_,rfl⟩,h⟩
def Gl (X:Cx)(x:Str):Prop:=X.env.kindOf x=some .globalImplicit
theorem ld_glob (I:Inv X aI σ H s)(hg:Gl X x)(hm:X.mg x=some u)(h:Q u s)
  (hd:(x == ("__debug__" :Str))=false:=by decide):bo (bQ X.prog X.w) X.A (dn (.Name x pos) X.env) Q E s :=
 Calls.Name_function_global I.ok.kind hg (Calls.loadGlobal_global (by rw [I.ok.glob];exact I.mod.glob.keeps I.bk) hm h) hd
theorem mm (I:Inv X aI σ H s)(hg:Gl X x)(hm:X.mg x=none)(hv:bootBuiltins x=some u)(h:Q u s)
  (hn:x ≠ "__name__" := by decide) (hd:(x == ("__debug__" :Str))=false:=by decide):bo (bQ X.prog X.w) X.A (dn (.Name x pos) X.env) Q E s:=by
 obtain ⟨mb,h1,h2⟩:=I.mod.blt;exact Calls.Name_function_global I.ok.kind hg (Calls.loadGlobal_builtin (by rw [I.ok.glob];exact I.mod.glob.keeps I.bk) hm (by rw [I.ok.blt];exact h1.keeps I.bk) ((h2 x hn).trans hv) h) hd
theorem oj (hg:Gl X x)(hm:X.mg x=some u)(r:gU v u)(hd:(x == ("__debug__" :Str))=false:=by decide):PE X (.Name x pos) (tC v) :=
 fun _ _ _ H _ I h=>ld_glob I hg hm ⟨v,H,I,r,h⟩ hd
theorem pe_bltn (hg:Gl X x)(hm:X.mg x=none)(hv:bootBuiltins x=some u)(r:gU v u)(hn:x ≠ "__name__" := by decide)(hd:(x == ("__debug__" :Str))=false:=by decide):PE X (.Name x pos) (tC v) :=
 fun _ _ _ H _ I h=>mm I hg hm hv ⟨v,H,I,r,h⟩ hn hd
variable {a b:Expr}{tb:TE}
def PC (X:Cx)(op:CmpOp)(a b:Expr)(t:TE):Prop :=
 ∀ (aI:List (ak×Obj)) (s:ar) (σ:St) (H:Hp) (Q:VK),Inv X aI σ H s→t σ H Q →
  bo (bQ X.prog X.w) X.A (dn a X.env) (fun v s₁=>bo (bQ X.prog X.w) X.A (dn b X.env) (fun u s₂=>bo (bQ X.prog X.w) X.A (dj op v u) (EP X aI σ Q) X.xe s₂) X.xe s₁) X.xe s
def tB (t:TE):TT:=fun σ H Q=>t σ H fun x H1=>IsBl x fun c=>Q c H1
theorem pt_cmp {t:TE}(h:PC X op a b t)(h1:behindInMarks op b=false:=by first | exact nobehind _ (by decide) (by decide) | rfl):PT X (.Compare a [op] [b] pos) (tB t):=by
 intro aI s σ H Q I hw;refine wpAny_isTrue_Compare1 (thn (h aI s σ H _ I hw) fun v s1 h1=>thn h1 fun u s2 h2=>thn h2 fun c s3 ⟨x,H1,I1,r1,q1⟩=>?_) h1;obtain ⟨d,rfl,q⟩:=q1;cases r1;exact gz ⟨H1,I1,q⟩
theorem jv {t:TE}(h:PE X e t)(he:∀ whole,isTrue e X.env whole=(do let v ← whole;standAt e.pos;holding [v] (truthy v)):=by intro _;rfl):PT X e (tB t):=by
 intro aI s σ H Q I hw;refine isTrue_plain (thn (h aI s σ H _ I hw) fun v s1 ⟨x,H1,I1,r1,q1⟩=>?_) (he _);obtain ⟨d,rfl,q⟩:=q1;cases r1;exact gz ⟨H1,I1,q⟩
variable {tA tB':TT} {rest:List Expr}
def tAnd (t u:TT):TT:=fun σ H Q=>t σ H fun c H1=>if c=true then u σ H1 Q else Q false H1
def tOr (t u:TT):TT:=fun σ H Q=>t σ H fun c H1=>if c=true then Q true H1 else u σ H1 Q
def tNot (t:TT):TT:=fun σ H Q=>t σ H fun c H1=>Q (!c) H1
theorem kq (ha:PT X a tA):PW X (.BoolOp .And [a] pos) tA:=by
 intro wh aI s σ H Q I h;refine isTrue_and (thn (ha aI s σ H Q I h) fun c s1 e=>?_);cases c with
 | true=>exact isTrue_and_nil e
 | false=>exact e
theorem je (ha:PT X a tA):PW X (.BoolOp .Or [a] pos) tA:=by
 intro wh aI s σ H Q I h;refine isTrue_or (thn (ha aI s σ H Q I h) fun c s1 e=>?_);cases c with
 | false=>exact isTrue_or_nil e
 | true=>exact e
theorem lJ (ha:PT X a tA)(hb:PW X (.BoolOp .And (b::rest) pos) tB'):PW X (.BoolOp .And (a::b::rest) pos) (tAnd tA tB'):=by
 intro wh aI s σ H Q I h;refine isTrue_and (thn (ha aI s σ H _ I h) fun c s1 ⟨H1,I1,q1⟩=>?_);cases c with
 | true=>exact hb wh aI s1 σ H1 Q I1 q1
 | false=>exact ⟨H1,I1,q1⟩
theorem j6 (ha:PT X a tA)(hb:PW X (.BoolOp .Or (b::rest) pos) tB'):PW X (.BoolOp .Or (a::b::rest) pos) (tOr tA tB'):=by
 intro wh aI s σ H Q I h;refine isTrue_or (thn (ha aI s σ H _ I h) fun c s1 ⟨H1,I1,q1⟩=>?_);cases c with
 | true=>exact ⟨H1,I1,q1⟩
 | false=>exact hb wh aI s1 σ H1 Q I1 q1
theorem jw (ha:PT X a tA):PT X (.UnaryOp .Not a pos) (tNot tA):=by
 intro aI s σ H Q I h;exact isTrue_not (ha aI s σ H (fun c H1=>Q (!c) H1) I h)
def tAndV (ta tb:TE):TE:=fun σ H Q=>ta σ H fun x H1=>IsBl x fun c=>if c=true then tb σ H1 Q else Q (.bl false) H1
def tNotV (ta:TE):TE:=fun σ H Q=>ta σ H fun x H1=>IsBl x fun c=>Q (.bl (!c)) H1
theorem pe_one {op}{t:TE}(h:PE X a t):PE X (.BoolOp op [a] pos) t:=fun aI s σ H Q I hw=>BoolOp_one (h aI s σ H Q I hw)
theorem oZ (ha:PE X a ta)(hb:PE X (.BoolOp .And (b::rest) pos) tb):PE X (.BoolOp .And (a::b::rest) pos) (tAndV ta tb):=by
 intro aI s σ H Q I h;refine BoolOp_and (thn (ha aI s σ H _ I h) fun v s1 ⟨x,H1,I1,r1,q1⟩=>?_);obtain ⟨c,rfl,q1⟩:=q1;cases r1;refine gz ?_;cases c with
 | true=>exact hb aI s1 σ H1 Q I1 q1
 | false=>exact ⟨.bl false,H1,I1,rfl,q1⟩
theorem pe_not (ha:PE X a ta):PE X (.UnaryOp .Not a pos) (tNotV ta):=by
 intro aI s σ H Q I h;refine UnaryOp_ (thn (ha aI s σ H _ I h) fun v s1 ⟨x,H1,I1,r1,q1⟩=>?_);obtain ⟨c,rfl,q1⟩:=q1;cases r1;exact not_of (gz ⟨.bl (!c),H1,I1,rfl,q1⟩)
def tIf (t:TT)(ta tb:TE):TE:=fun σ H Q=>t σ H fun c H1=>if c=true then ta σ H1 Q else tb σ H1 Q
theorem pe_ifExp {c:Expr}(hc:PT X c tA)(ha:PE X a ta)(hb:PE X b tb):PE X (.IfExp c a b pos) (tIf tA ta tb):=by
 intro aI s σ H Q I h;refine wpAny_IfExp (thn (hc aI s σ H _ I h) fun d s1 ⟨H1,I1,q1⟩=>?_);cases d with
 | true=>exact ha aI s1 σ H1 Q I1 q1
 | false=>exact hb aI s1 σ H1 Q I1 q1
end
def SqL (K:ai)(H:Hp)(a:ak)(xs:List V):Prop :=
 Rd H a (.lst xs) ∨
  ∃ (o:Obj) (its:Array ag) (n:Nat),K.lookup a=some o∧o.cls= .type "list" ∧o.dict=none∧o.data= .seq its n∧its.size≤au∧gr xs its.toList
def SqT (K:ai)(H:Hp)(a:ak)(xs:List V):Prop :=
 Rd H a (.tup xs) ∨
  ∃ (o:Obj) (its:Array ag) (n:Nat),K.lookup a=some o∧o.cls= .type "tuple" ∧o.data= .seq its n∧its.size≤au∧gr xs its.toList
def absV:ag→Option V
 | .none=>some .non
 | .bool b=>some (.bl b)
 | .int i _=>some (.int i)
 | .str x _=>some (.str x)
 | .bytes b _=>some (.byt b)
 | .float b _=>some (.flt b)
 | .ref a=>some (.ref a)
 | .type n=>some (.ty n)
 | _=>none
theorem gU.abs {x:V}(r:gU x u):absV u=some x:=by
 cases x with
 | non=>cases r;rfl
 | bl _=>cases r;rfl
 | int _=>obtain ⟨t,rfl⟩:=r;rfl
 | str _=>obtain ⟨t,rfl⟩:=r;rfl
 | byt _=>obtain ⟨t,rfl⟩:=r;rfl
 | flt _=>obtain ⟨t,rfl⟩:=r;rfl
 | ref _=>cases r;rfl
 | ty _=>cases r;rfl
theorem gU.inj {x:V}(r:gU x u)(q:gU y u):x=y:=bu (r.abs.symm.trans q.abs)
theorem gr.inj:∀ {xs ys:List V} {us:List ag},gr xs us→gr ys us→xs=ys
 | _,_,_,.nil,.nil=>rfl
 | _,_,_,.cons r t,.cons r' t'=>by rw [r.inj r',gr.inj t t']
section
variable {ys:List V}
theorem SqL.of (h:H a=some (.lst xs)):SqL K H a xs:= .inl (.inl h)
theorem SqT.of (h:H a=some (.tup xs)):SqT K H a xs:= .inl (.inl h)
theorem Inv.list (I:Inv X aI σ H s)(h:SqL X.K H a xs):∃ its:List ag,gr xs its∧PlainL s.heap a its.toArray∧xs.length≤au:=by
 rcases h with h | ⟨o,its,n,hk,hc,hd,hs,hz,r⟩
 ·obtain ⟨z,its,n,r,e⟩:=h.ok I.hok
  exact ⟨its,r,⟨_,n,e,rfl,rfl,rfl⟩,z⟩
 ·refine ⟨its.toList,r,⟨o,n,I.kIn a o hk,hc,hd,by simpa using hs⟩,?_⟩
  have e:=r.length;simp only [fK] at e;lia
theorem Inv.tuple (I:Inv X aI σ H s)(h:SqT X.K H a xs):∃ its:List ag,gr xs its∧IsTup s.heap a its.toArray∧xs.length≤au:=by
 rcases h with h | ⟨o,its,n,hk,hc,hs,hz,r⟩
 ·obtain ⟨z,its,r,p⟩:=h.ok I.hok
  exact ⟨its,r,p.tup,z⟩
 ·refine ⟨its.toList,r,⟨o,I.kIn a o hk,hc,n,by simpa using hs⟩,?_⟩
  have e:=r.length;simp only [fK] at e;lia
theorem Inv.list_inj (I:Inv X aI σ H s)(h:SqL X.K H a xs)(h':SqL X.K H a ys):xs=ys:=by
 obtain ⟨its,r,⟨o,n,e,_,_,d⟩,_⟩:=I.list h;obtain ⟨its',r',⟨o',n',e',_,_,d'⟩,_⟩:=I.list h';rw [e] at e';cases e';rw [d] at d';injection d' with d1 _
 have:its=its':=by simpa using pJ Array.toList d1
 subst this;exact r.inj r'
theorem Inv.tuple_inj (I:Inv X aI σ H s)(h:SqT X.K H a xs)(h':SqT X.K H a ys):xs=ys:=by
 obtain ⟨its,r,⟨o,e,_,n,d⟩,_⟩:=I.tuple h;obtain ⟨its',r',⟨o',e',_,n',d'⟩,_⟩:=I.tuple h';rw [e] at e';cases e';rw [d] at d';injection d' with d1 _
 have:its=its':=by simpa using pJ Array.toList d1
 subst this;exact r.inj r'
end
abbrev Cx.wish (X:Cx)(E:ag→ar→Prop):Cx:={ X with xe:=E }
abbrev Cx.nox (X:Cx):Cx:=X.wish fun _ _=>False
theorem Cx.Ok.wish (ok:X.Ok)(E:ag→ar→Prop):(X.wish E).Ok :=
 ⟨ok.mod,ok.kind,ok.glob,ok.blt,ok.above,ok.inj,ok.has,ok.cab,ok.hd,ok.frames,ok.stk,ok.exf,ok.bs,ok.bsz,ok.noex,ok.exfs,ok.funs,ok.frf⟩
theorem Cx.Ok.unwish (ok:(X.wish E).Ok):X.Ok :=
 ⟨ok.mod,ok.kind,ok.glob,ok.blt,ok.above,ok.inj,ok.has,ok.cab,ok.hd,ok.frames,ok.stk,ok.exf,ok.bs,ok.bsz,ok.noex,ok.exfs,ok.funs,ok.frf⟩
theorem Inv.wish (I:Inv X aI σ H s)(E:ag→ar→Prop):Inv (X.wish E) aI σ H s:=⟨I.ok.wish E,I.os,I.bare,I.base,I.loc,I.cell,I.free,I.freeC,I.pin,I.hok,I.len⟩
theorem Inv.unwish (I:Inv (X.wish E) aI σ H s):Inv X aI σ H s:=⟨I.ok.unwish,I.os,I.bare,I.base,I.loc,I.cell,I.free,I.freeC,I.pin,I.hok,I.len⟩
theorem SP.unwish {D:mW}{f:Flow}(h:SP (X.wish E) aI D f s'):SP X aI D f s':=by
 cases f with
 | next=>obtain ⟨σ',H',I,q⟩:=h;exact ⟨σ',H',I.unwish,q⟩
 | brk=>obtain ⟨σ',H',I,q⟩:=h;exact ⟨σ',H',I.unwish,q⟩
 | cont=>obtain ⟨σ',H',I,q⟩:=h;exact ⟨σ',H',I.unwish,q⟩
 | ret u=>obtain ⟨v,σ',H',I,r,q⟩:=h;exact ⟨v,σ',H',I.unwish,r,q⟩
theorem PSs.nox {st:List cN}{t:TS}(h:PSs X.nox st t):PSs X st t:=fun aI s σ H D I hw =>
 eh (h aI s σ H D (I.wish _) hw) (fun _ _ q=>q.unwish) fun _ _ z=>gh z
section
variable {rest:List cN}{t u:TS}
def tNext:TS:=fun D σ H=>D.nx σ H
def tSeq (t u:TS):TS:=fun D σ H=>t { D with nx:=u D } σ H
theorem cv:PSs X [] tNext:=fun _ _ σ H _ I h=>wpAny_execs_nil ⟨σ,H,I,h⟩
theorem cK (h1:PS X st t)(h2:PSs X rest u):PSs X (st::rest) (tSeq t u):=by
 intro aI s σ H D I h;refine wpAny_execs_cons (thn (h1 aI s σ H { D with nx:=u D } I h) fun f s1 q=>?_);cases f with
 | next =>
  obtain ⟨σ',H',I',q⟩:=q;exact h2 aI s1 σ' H' D I' q
 | ret v=>exact q
 | brk=>exact q
 | cont=>exact q
theorem bB (h1:PS X st t):PSs X [st] t:=by
 intro aI s σ H D I h;refine wpAny_execs_cons (thn (h1 aI s σ H D I h) fun f s1 q=>?_);cases f with
 | next=>exact wpAny_execs_nil q
 | ret v=>exact q
 | brk=>exact q
 | cont=>exact q
theorem Inv.quiet (I:Inv X aI σ H s):interactive X.env=false:=by simp [interactive,I.ok.kind]
def tDrop (te:TE):TS:=fun D σ H=>te σ H fun _ H1=>D.nx σ H1
theorem gD (he:PE X e te)(hs:swapsWith e none pos.line X.env=gK false:=by rfl):PS X (.Expr e pos) (tDrop te):=by
 intro aI s σ H D I h;exact wpAny_Expr_any (thn (he aI s σ H _ I h) fun v s1 ⟨x,H1,I1,r1,q1⟩=>⟨σ,H1,I1,q1⟩) I.quiet hs
def tRet (te:TE):TS:=fun D σ H=>te σ H D.rt
theorem bZ (he:PE X e te):PS X (.Return (some e) pos) (tRet te):=by
 intro aI s σ H D I h;exact wpAny_Return_some (thn (he aI s σ H _ I h) fun v s1 ⟨x,H1,I1,r1,q1⟩=>⟨x,σ,H1,I1,r1,q1⟩)
def tIfS (c:TT)(t u:TS):TS:=fun D σ H=>c σ H fun b H1=>if b=true then t D σ H1 else u D σ H1
theorem eX {c:Expr}{a b:List cN}{tc:TT}(hc:PT X c tc)(ha:PSs X a t)(hb:PSs X b u):PS X (.If c a b pos) (tIfS tc t u):=by
 intro aI s σ H D I h;refine wpAny_If (thn (hc aI s σ H _ I h) fun d s1 ⟨H1,I1,q1⟩=>?_);cases d with
 | true=>exact ha aI s1 σ H1 D I1 q1
 | false=>exact hb aI s1 σ H1 D I1 q1
def tNever:TS:=fun _ _ _=>False
theorem jN:PS X st tNever:=fun _ _ _ _ _ _ h=>h.elim
end
abbrev TG:=V→St→Hp→(St→Hp→Prop)→Prop
abbrev TGs:=List V→St→Hp→(St→Hp→Prop)→Prop
def PG (X:Cx)(target:Expr)(t:TG):Prop :=
 ∀ (aI:List (ak×Obj)) (s:ar) (σ:St) (H:Hp) (v:V) (u:ag) (Q:St→Hp→Prop),Inv X aI σ H s→gU v u→t v σ H Q →
  bo (bQ X.prog X.w) X.A (assign target X.env u) (fun _ s'=>∃ σ' H',Inv X aI σ' H' s'∧Q σ' H') X.xe s
def PGs (X:Cx)(ts:List Expr)(t:TGs):Prop :=
 ∀ (aI:List (ak×Obj)) (s:ar) (σ:St) (H:Hp) (vs:List V) (us:List ag) (Q:St→Hp→Prop),Inv X aI σ H s→gr vs us→t vs σ H Q →
  bo (bQ X.prog X.w) X.A (assignInOrder ((assignEach ts X.env).map (·.2)) us) (fun _ s'=>∃ σ' H',Inv X aI σ' H' s'∧Q σ' H') X.xe s
abbrev TSet:=V→V→V→Hp→(Hp→Prop)→Prop
def PSet (X:Cx)(t:TSet):Prop :=
 ∀ (aI:List (ak×Obj)) (s:ar) (σ:St) (H:Hp) (o i v:V) (ov iv u:ag) (Q:Hp→Prop),Inv X aI σ H s→gU o ov→gU i iv→gU v u→t o i v H Q →
  bo (bQ X.prog X.w) X.A (setItem ov iv u) (fun _ s'=>∃ H',Inv X aI σ H' s'∧Q H') X.xe s
def mR (i:Nat):TG:=fun v σ H Q=>Q (σ.set i (some v)) H
theorem pg_name (hN:X.N.Nodup)(hi:X.N[i]? =some x)(hx:Loc X.env.scope x)(hf:X.fn x=true∨X.env.scope.names.lookup x=some .local:=by first | exact .inl rfl | exact .inr rfl | assumption):PG X (.Name x pos) (mR i):=by
 intro aI s σ H v u Q I r h;exact wpAny_assign_Name (store_ok I hN hi hx r (fun s' I'=>⟨_,H,I',h⟩) hf)
def gNil:TGs:=fun vs σ H Q=>vs=[]∧Q σ H
def gCons (t:TG)(u:TGs):TGs:=fun vs σ H Q=>∃ v r,vs=v::r∧t v σ H fun σ' H'=>u r σ' H' Q
theorem oh:PGs X [] gNil:=by
 intro aI s σ H vs us Q I r h;obtain ⟨e,h⟩:=h;subst e;cases r;exact assignInOrder_nil ⟨σ,H,I,h⟩
theorem iE {t:TG}{u:TGs}(h1:PG X e t)(h2:PGs X es u)
  (hs:(assignEach (e::es) X.env).map (·.2)=assign e X.env::(assignEach es X.env).map (·.2):=by rfl):PGs X (e::es) (gCons t u):=by
 intro aI s σ H vs us Q I r h;obtain ⟨v,vr,e1,h⟩:=h;subst e1;cases r with
 | cons r rr =>
  rw [hs];refine assignInOrder_cons (thn (h1 aI s σ H _ _ _ I r h) fun _ s1 ⟨σ1,H1,I1,q1⟩=>?_);exact h2 aI s1 σ1 H1 _ _ Q I1 rr q1
def gTup (K:ai)(n:Nat)(t:TGs):TG:=fun v σ H Q=>∃ a xs,v= .ref a∧SqT K H a xs∧xs.length=n∧t xs σ H Q
theorem pg_tup {t:TGs}(hc:X.calm=true)(h:PGs X es t)
  (hn:(assignEach es X.env).length=n:=by rfl) (hst:(assignEach es X.env).findIdx? (·.1)=none:=by rfl):PG X (.Tuple es k pos) (gTup X.K n t):=by
 intro aI s σ H v u Q I r hw;obtain ⟨a,xs,e1,hq,hl,hw⟩:=hw;subst e1;cases r;obtain ⟨its,rv,ht,hz⟩:=I.tuple hq;refine assign_Tuple_tuple (I.ok.hd hc) ht (by simp [hn,←hl,rv.length]) hst fun h' hx=>?_
 have I1:Inv X aI σ H { s with heap:=h' }:=I.kept (t':=s.toks) fun b o e=>hx b o (cg (bc e)) e
 exact h aI _ σ H xs _ Q I1 (by simpa using rv) hw
def gSub (to ti:TE)(t:TSet):TG:=fun v σ H Q=>to σ H fun o H1=>ti σ H1 fun i H2=>t o i v H2 fun H3=>Q σ H3
theorem pg_sub {o i:Expr}{ti:TE}{t:TSet}(ho:PE X o to)(hi:PE X i ti)(hs:PSet X t)
  (ha:∀ v,assign (.Subscript o i pos) X.env v=(do
   let ov ← holding [v] (dn o X.env)
   let iv ← holding [v,ov] (dn i X.env)
   standAt pos
   holding [v,ov,iv] (setItem ov iv v)
   release [v,ov,iv] []):=by intro _;rfl):PG X (.Subscript o i pos) (gSub to ti t):=by
 intro aI s σ H v u Q I r h;rw [ha];refine al (jf (thn (ho aI s σ H _ I h) fun ov s1 ⟨x,H1,I1,r1,q1⟩=>?_));refine al (jf (thn (hi aI s1 σ H1 _ I1 q1) fun iv s2 ⟨y,H2,I2,r2,q2⟩=>?_));refine al (wpAny_standAt (al (jf (thn (hs aI s2 σ H2 x y v ov iv u _ I2 r1 r2 r q2) fun _ s3 ⟨H3,I3,q3⟩=>?_))));exact wpAny_release ⟨σ,H3,I3,q3⟩
def tAsg (te:TE)(g:TG):TS:=fun D σ H=>te σ H fun x H1=>g x σ H1 D.nx
theorem ps_asg {g:TG}(he:PE X e te)(hg:PG X tg g)(hs:swapsWithSole [tg] e pos.line X.env=gK false:=by rfl)(hw:swappedStores [tg] e X.env=gK none:=by rfl)
  (h1:(assignEach [tg] X.env).map (·.2)=[assign tg X.env]:=by rfl):PS X (.Assign [tg] e pos) (tAsg te g):=by
 intro aI s σ H D I h;refine wpAny_Assign_stores (thn (he aI s σ H _ I h) fun v s1 ⟨x,H1,I1,r1,q1⟩=>?_) hs hw;rw [h1];exact thn (hg aI s1 σ H1 x v _ I1 r1 q1) fun _ s2 q=>q
theorem ps_set (hN:X.N.Nodup)(hi:X.N[i]? =some x)(hx:Loc X.env.scope x)(he:PE X e te)(hs:swapsWith e (some (.Name x pos')) pos.line X.env=gK false:=by rfl)(hf:X.fn x=true∨X.env.scope.names.lookup x=some .local:=by first | exact .inl rfl | exact .inr rfl | assumption) :
  PS X (.Assign [.Name x pos'] e pos) (tAsg te (mR i)):=by
 intro aI s σ H D I h;refine wpAny_Assign_Name (thn (he aI s σ H _ I h) fun v s1 ⟨y,H1,I1,r1,q1⟩=>?_) hs;exact store_ok I1 hN hi hx r1 (fun s2 I2=>⟨_,H1,I2,q1⟩) hf
structure It where
 go:Nat→Hp→Prop
 yld:Nat→Hp→V→Hp→Prop
 stop:Nat→Hp→Prop
def FpOk (X:Cx)(aI:List (ak×Obj))(H:Hp)(b:ak):Prop :=
 H b=none∧b≠X.env.locals∧b ∉ X.fs∧(b∈X.ex∨X.s₀.heap.objs.size≤b)∧(∀ x c,X.env.cells.lookup x=some c→c≠b)∧∀ p∈X.pn++aI,p.1≠b
theorem Inv.fpOk {b:ak}(I:Inv X aI σ H s)(hb:s.heap.objs.size≤b)(hn:H' b=none):FpOk X aI H' b:=by
 refine ⟨hn,jE (ck I.lt hb),I.nofs hb,.inr (cn I.sz hb),fun x c e z=>?_,fun p hp z=>?_⟩
 ·obtain ⟨v,q⟩:=I.cell x c e
  exact pF (ck q.lt (by rw [z];exact hb)) (ia _)
 ·exact pF (ck (bc (I.pin p hp).1) (by rw [z];exact hb)) (ia _)
structure Turn (P:aK)(w:br)(K:ai)(tg:Expr)(J:It)(fp:List ak)(it:ak)(tn:Nat→bX→Prop):Prop where
 mem:it∈fp
 obj:∀ i h,tn i h→∀ b∈fp,∃ o,h.get? b=some o∧∀ v,o.data≠ .cell v
 keep:∀ i h h',tn i h→(∀ b∈fp,∀ o,h.get? b=some o→h'.get? b=some o)→tn i h'
 item:∀ (X:Cx),X.prog=P→X.w=w→X.K=K→X.calm=true→∀ (i:Nat) (aI:List (ak×Obj)) (s:ar) (σ:St) (H:Hp) (E:ag→ar→Prop),Inv X aI σ H s→(∀ b∈fp,FpOk X aI H b)→tn i s.heap→J.go i H →
  bo (bQ P w) X.A (pyNext (.ref it)) (fun r s1=>∃ u,r=some u ∧
   bo (bQ P w) X.A (kF tg (.ref it) u) (fun _ s2=>∃ x H',Inv X aI σ H' s2∧gU x u∧J.yld i H x H'∧tn (i+1) s2.heap∧∀ b∈fp,H' b=none) E s1) E s
 done:∀ (X:Cx),X.prog=P→X.w=w→X.K=K→X.calm=true→∀ (i:Nat) (aI:List (ak×Obj)) (s:ar) (σ:St) (H:Hp) (E:ag→ar→Prop),Inv X aI σ H s→(∀ b∈fp,FpOk X aI H b)→tn i s.heap→J.stop i H →
  bo (bQ P w) X.A (pyNext (.ref it)) (fun r s1=>r=none∧Inv X aI σ H s1) E s
 self:∀ (A:b9) (i:Nat) (s:ar) (Q:ag→ar→Prop) (E:ag→ar→Prop),tn i s.heap→Q (.ref it) s→bo (bQ P w) A (pyIter (.ref it)) Q E s
abbrev TI:=St→Hp→(It→Hp→Prop)→Prop
def PIE (X:Cx)(aI:List (ak×Obj))(σ:St)(tg:Expr)(R:It→Hp→Prop)(itv:ag)(s2:ar):Prop :=
 ∃ (it:ak) (fp:List ak) (tn:Nat→bX→Prop) (J:It) (H':Hp),itv= .ref it∧Inv X aI σ H' s2∧Turn X.prog X.w X.K tg J fp it tn∧tn 0 s2.heap∧(∀ b∈fp,FpOk X aI H' b)∧R J H'
def PI (X:Cx)(tg iter:Expr)(wi:TI):Prop :=
 ∀ (aI:List (ak×Obj)) (s:ar) (σ:St) (H:Hp) (R:It→Hp→Prop),Inv X aI σ H s→wi σ H R →
  bo (bQ X.prog X.w) X.A (dn iter X.env) (fun v s1=>bo (bQ X.prog X.w) X.A (pyIter v) (PIE X aI σ tg R) X.xe s1) X.xe s
theorem go_of {o:Obj}{n:String}{vs:Array ag}{Q:Unit→ar→Prop}(ho:s.heap.get? it=some o)(hc:o.cls= .type n)(hd:o.data= .fields vs)
  (hn:["enumerate","zip","dict_itemiterator","dict_reverseitemiterator","odict_iterator","itertools.zip_longest","itertools.pairwise"].contains n=false) (hQ:Q () s):bo M A (kF tg (.ref it) u) Q E s:=by
 unfold kF;cases tg <;> first
  | exact aQ hQ
  | (cases u <;> first
    | exact aQ hQ
    | (refine al (wpAny_load ho ?_)
       rw [hc,hd];show bo M A (if (["enumerate","zip","dict_itemiterator","dict_reverseitemiterator","odict_iterator","itertools.zip_longest","itertools.pairwise"].contains n && vs[0]? == some (rawInt _))=true then _ else _) Q E s;rw [pB (by intro h;rw [hn,Bool.false_and] at h;cases h)];exact aQ hQ))
def Itl (K:ai)(a:ak):It :=
 ⟨fun i H=>∃ xs x,SqL K H a xs∧xs[i]? =some x,fun i H x H'=>H'=H∧∀ xs,SqL K H a xs→xs[i]? =some x,fun i H=>∃ xs,SqL K H a xs∧xs.length≤i⟩
def Itt (K:ai)(a:ak):It :=
 ⟨fun i H=>∃ xs x,SqT K H a xs∧xs[i]? =some x,fun i H x H'=>H'=H∧∀ xs,SqT K H a xs→xs[i]? =some x,fun i H=>∃ xs,SqT K H a xs∧xs.length≤i⟩
def Itr (lo:Int)(n:Nat):It:=⟨fun i _=>i<n,fun i H x H'=>H'=H∧x= .int (lo+i),fun i _=>n≤i⟩
theorem turn_list (a it:ak):Turn P w K tg (Itl K a) [it] it (fun i h=>h.IsListIter it a i) where
 mem:=by simp
 obj:=fun i h st b hb=>by
  have e:b=it:=by simpa using hb
  subst e;obtain ⟨o,e,c,d⟩:=st;exact ⟨o,e,fun v z=>by rw [d] at z;cases z⟩
 keep:=fun i h h' st k=>st.at fun o e=>k it (by simp) o e
 item:=by
  intro X hP hw hK hc i aI s σ H E I hf st hg;subst hP hw hK;obtain ⟨xs,x,hq,hx⟩:=hg;obtain ⟨its,rv,p,hz⟩:=I.list hq;obtain ⟨u,hu,ru⟩:=rv.get hx;obtain ⟨f0,f1,f2,f3,f4,f5⟩:=hf it (by simp);refine wpAny_pyNext_list_item st p.isList (x:=u) (by simpa using hu) fun h' st' sb=>?_
  have I1:Inv X aI σ H { s with heap:=h' }:=I.turned (t':=s.toks) (fun b o hb e=>(sb.2 b hb).trans e) f0 f1 f3 f4 f5;obtain ⟨o,e,c,d⟩:=id st';exact ⟨u,rfl,go_of (s:={ s with heap:=h' }) e c d (by decide) ⟨x,H,I1,ru,⟨rfl,fun ys hy=>by rw [I.list_inj hy hq];exact hx⟩,st',fun b hb=>(hf b hb).1⟩⟩
 done:=by
  intro X hP hw hK hc i aI s σ H E I hf st hg;subst hP hw hK;obtain ⟨xs,hq,hx⟩:=hg;obtain ⟨its,rv,p,hz⟩:=I.list hq;obtain ⟨f0,f1,f2,f3,f4,f5⟩:=hf it (by simp);have hl:=rv.length;exact wpAny_pyNext_list_end (I.ok.hd hc) st p.isList (by simp;lia) fun h' eb=>⟨rfl,I.turned (t':=s.toks) (fun b o hb e=>eb b o hb e) f0 f1 f3 f4 f5⟩
 self:=fun _ _ _ _ _ st h=>wpAny_pyIter_listiter st h
theorem turn_tuple (a it:ak):Turn P w K tg (Itt K a) [it] it (fun i h=>h.IsTupleIter it a i) where
 mem:=by simp
 obj:=fun i h st b hb=>by
  have e:b=it:=by simpa using hb
  subst e;obtain ⟨o,e,c,d⟩:=st;exact ⟨o,e,fun v z=>by rw [d] at z;cases z⟩
 keep:=fun i h h' st k=>st.at fun o e=>k it (by simp) o e
 item:=by
  intro X hP hw hK hc i aI s σ H E I hf st hg;subst hP hw hK;obtain ⟨xs,x,hq,hx⟩:=hg;obtain ⟨its,rv,p,hz⟩:=I.tuple hq;obtain ⟨u,hu,ru⟩:=rv.get hx;obtain ⟨f0,f1,f2,f3,f4,f5⟩:=hf it (by simp);refine wpAny_pyNext_tuple_item st (show s.heap.IsTuple a its.toArray from p) (x:=u) (by simpa using hu) fun h' st' sb=>?_
  have I1:Inv X aI σ H { s with heap:=h' }:=I.turned (t':=s.toks) (fun b o hb e=>(sb.2 b hb).trans e) f0 f1 f3 f4 f5;obtain ⟨o,e,c,d⟩:=id st';exact ⟨u,rfl,go_of (s:={ s with heap:=h' }) e c d (by decide) ⟨x,H,I1,ru,⟨rfl,fun ys hy=>by rw [I.tuple_inj hy hq];exact hx⟩,st',fun b hb=>(hf b hb).1⟩⟩
 done:=by
  intro X hP hw hK hc i aI s σ H E I hf st hg;subst hP hw hK;obtain ⟨xs,hq,hx⟩:=hg;obtain ⟨its,rv,p,hz⟩:=I.tuple hq;obtain ⟨f0,f1,f2,f3,f4,f5⟩:=hf it (by simp);have hl:=rv.length;exact wpAny_pyNext_tuple_end (I.ok.hd hc) st (show s.heap.IsTuple a its.toArray from p) (by simp;lia) fun h' eb=>⟨rfl,I.turned (t':=s.toks) (fun b o hb e=>eb b o hb e) f0 f1 f3 f4 f5⟩
 self:=fun _ _ _ _ _ st h=>wpAny_pyIter_tupleiter st h
theorem turn_range (it:ak)(lo:Int)(n:Nat):Turn P w K tg (Itr lo n) [it] it (fun i h=>IsRangeIter h it (lo+(i:Nat) * 1) ((n:Int) - (i:Nat)) 1) where
 mem:=by simp
 obj:=fun i h st b hb=>by
  have e:b=it:=by simpa using hb
  subst e;exact ⟨_,st,fun v z=>by
   have z':Data.fields _=Data.cell v:=z;cases z'⟩
 keep:=fun i h h' st k=>k it (by simp) _ st
 item:=by
  intro X hP hw hK hc i aI s σ H E I hf st hg;subst hP hw hK;obtain ⟨f0,f1,f2,f3,f4,f5⟩:=hf it (by simp);have W:=Walks.range (prog:=X.prog) (w:=X.w) (I.ok.hd hc) it lo 1 n;refine W.item i s _ _ hg st fun v h' tk hv st' kk=>?_
  obtain ⟨t,rfl⟩:=hv;have I1:Inv X aI σ H { s with heap:=h',toks:=tk }:=I.turned (fun b o hb e=>kk b o (by simpa using hb) e) f0 f1 f3 f4 f5;refine ⟨_,rfl,go_of (s:={ s with heap:=h',toks:=tk }) (n := "range_iterator") st' rfl rfl (by decide) ⟨.int (lo+i),H,I1,⟨t,?_⟩,⟨rfl,rfl⟩,st',fun b hb=>(hf b hb).1⟩⟩;rw [Int.mul_one]
 done:=by
  intro X hP hw hK hc i aI s σ H E I hf st hg;subst hP hw hK;obtain ⟨f0,f1,f2,f3,f4,f5⟩:=hf it (by simp);exact wpAny_pyNext_range_end (I.ok.hd hc) st (by have:n≤i:=hg;lia) fun h' eb=>⟨rfl,I.turned (t':=s.toks) (fun b o hb e=>eb b o hb e) f0 f1 f3 f4 f5⟩
 self:=fun _ _ _ _ _ st h=>wpAny_pyIter_rangeiter st h
def iList (K:ai)(tl:TE):TI:=fun σ H R=>tl σ H fun x H1=>∃ a,x= .ref a∧(∃ xs,SqL K H1 a xs)∧R (Itl K a) H1
def iTup (K:ai)(tl:TE):TI:=fun σ H R=>tl σ H fun x H1=>∃ a,x= .ref a∧(∃ xs,SqT K H1 a xs)∧R (Itt K a) H1
theorem gN {l:Expr}(hl:PE X l tl):PI X tg l (iList X.K tl):=by
 intro aI s σ H R I h;refine thn (hl aI s σ H _ I h) fun v s1 ⟨x,H1,I1,r1,q1⟩=>?_
 obtain ⟨a,e,⟨xs,hq⟩,q⟩:=q1;subst e;cases r1;obtain ⟨its,rv,p,hz⟩:=I1.list hq;refine gC p.isList ?_;refine ⟨s1.heap.objs.size,[s1.heap.objs.size],_,_,H1,rfl,I1.kept (t':=s1.toks) fun b o e=>ao _ e,turn_list a _,⟨_,aJ _ rfl,rfl,rfl⟩,fun b hb=>?_,q⟩;have e:b=s1.heap.objs.size:=by simpa using hb
 subst e;exact I1.fpOk (az _) (I1.hok.fresh (az _))
theorem pi_tup {l:Expr}(hl:PE X l tl):PI X tg l (iTup X.K tl):=by
 intro aI s σ H R I h;refine thn (hl aI s σ H _ I h) fun v s1 ⟨x,H1,I1,r1,q1⟩=>?_
 obtain ⟨a,e,⟨xs,hq⟩,q⟩:=q1;subst e;cases r1;obtain ⟨its,rv,p,hz⟩:=I1.tuple hq;refine wpAny_pyIter_tuple (show s1.heap.IsTuple a its.toArray from p) ?_;refine ⟨s1.heap.objs.size,[s1.heap.objs.size],_,_,H1,rfl,I1.kept (t':=s1.toks) fun b o e=>ao _ e,turn_tuple a _,⟨_,aJ _ rfl,rfl,rfl⟩,fun b hb=>?_,q⟩;have e:b=s1.heap.objs.size:=by simpa using hb
 subst e;exact I1.fpOk (az _) (I1.hok.fresh (az _))
theorem range_it {R:It→Hp→Prop}{t u v:Tok}{tk:Nat}(I:Inv X aI σ H s)(h1: -(2 ^ 62)≤lo)(h2:lo<2 ^ 62)(h3: -(2 ^ 62)≤hi)(h4:hi<2 ^ 62)
  (q:R (Itr lo (hi - lo).toNat) H):bo (bQ X.prog X.w) X.A (pyIter (.ref s.heap.objs.size)) (PIE X aI σ tg R) E { s with heap:=s.heap.push { cls:= .type "range",data:= .fields #[.int lo t,.int hi u,.int 1 v] },toks:=tk }:=by
 refine wpAny_pyIter_range (IsRange.new ..) (small_one h1 h2 h3 h4) ?_;have I1:Inv X aI σ H { s with heap:=s.heap.push { cls:= .type "range",data:= .fields #[.int lo t,.int hi u,.int 1 v] },toks:=tk }:=I.kept fun b o e=>ao _ e
 refine ⟨(s.heap.push { cls:= .type "range",data:= .fields #[.int lo t,.int hi u,.int 1 v] }).objs.size,[(s.heap.push { cls:= .type "range",data:= .fields #[.int lo t,.int hi u,.int 1 v] }).objs.size],_,_,H,rfl,
  I1.kept (t':=tk) fun b o e=>ao _ e,turn_range _ lo (hi - lo).toNat,?_,fun b hb=>?_,q⟩
 ·have e1:lo+((0:Nat):Int) * 1=lo:=by simp
  have e2:(((hi - lo).toNat:Nat):Int) - ((0:Nat):Int)=iw lo hi 1:=by rw [rangeSize_one];split <;> lia
  show IsRangeIter _ _ (lo+((0:Nat):Int) * 1) ((((hi - lo).toNat:Nat):Int) - ((0:Nat):Int)) 1;rw [e1,e2];exact aJ _ rfl
 ·have e:b=(s.heap.push { cls:= .type "range",data:= .fields #[.int lo t,.int hi u,.int 1 v] }).objs.size:=by simpa using hb
  subst e;exact I1.fpOk (az _) (I1.hok.fresh (az _))
def iRng1 (ta:TA):TI:=fun σ H R=>ta σ H fun vs H1=>∃ j:Int,vs=[.int j]∧ -(2 ^ 62)≤j∧j<2 ^ 62∧R (Itr 0 j.toNat) H1
def iRng2 (ta:TA):TI:=fun σ H R=>ta σ H fun vs H1=>∃ i j:Int,vs=[.int i,.int j]∧(-(2 ^ 62)≤i∧i<2 ^ 62∧ -(2 ^ 62)≤j∧j<2 ^ 62)∧R (Itr i (j - i).toNat) H1
theorem kE {a:Expr}{ta:TA}{p:Pos}(hg:Gl X "range")(hm:X.mg "range" =none)(ha:PA X [a] ta)(hs:bw [a] X.env=[(false,dn a X.env)]:=by rfl):PI X tg (.Call (.Name "range" p) [a] [] pos) (iRng1 ta):=by
 intro aI s σ H R I h;refine Call_ (mm I hg hm boot_range (c9 (thn (ha pos aI s σ H _ I h) fun us s1 ⟨vs,H1,I1,r1,q1⟩=>?_) hs rfl));obtain ⟨j,e,q1,q2,q⟩:=q1;subst e;cases r1 with
 | cons r rr =>
  cases rr;obtain ⟨t,rfl⟩:=r;exact call_range_1 (range_it I1 (by lia) (by lia) q1 q2 (by simpa using q))
theorem pi_range2 {a b:Expr}{ta:TA}{p:Pos}(hg:Gl X "range")(hm:X.mg "range" =none)(ha:PA X [a,b] ta)(hs:bw [a,b] X.env=[(false,dn a X.env),(false,dn b X.env)]:=by rfl)(hs2:bw [b] X.env=[(false,dn b X.env)]:=by rfl) :
  PI X tg (.Call (.Name "range" p) [a,b] [] pos) (iRng2 ta):=by
 intro aI s σ H R I h;refine Call_ (mm I hg hm boot_range (c9 (thn (ha pos aI s σ H _ I h) fun us s1 ⟨vs,H1,I1,r1,q1⟩=>?_) (by rw [hs,hs2]) (by rw [hs2];rfl)));obtain ⟨i,j,e,⟨q1,q2,q3,q4⟩,q⟩:=q1;subst e;cases r1 with
 | cons r rr =>
  cases rr with
  | cons r' rr =>
   cases rr;obtain ⟨t,rfl⟩:=r;obtain ⟨t',rfl⟩:=r';exact call_range_2 (range_it I1 q1 q2 q3 q4 q)
def tFor (wi:TI)(g:TG)(tb:TS):TS:=fun D σ H=>wi σ H fun J H1=>∃ W:Nat→Nat→St→Hp→Prop,(∃ m,W 0 m σ H1)∧∀ i m σ H,W i m σ H →
 (J.stop i H∧D.nx σ H)∨(J.go i H∧∃ N:St→Hp→Prop,(∀ σ' H',N σ' H'→∃ m',m'<m∧W (i+1) m' σ' H')∧∀ x H',J.yld i H x H'→g x σ H' fun σ2 H2=>tb { D with nx:=N,ct:=N,bk:=D.nx } σ2 H2)
def pinsAt (fp:List ak)(h:bX):List (ak×Obj):=fp.filterMap fun b=>(h.get? b).map fun o=>(b,o)
theorem lq {b:ak}{o:Obj}(hb:b∈fp)(e:h.get? b=some o):(b,o)∈pinsAt fp h:=gW.mpr ⟨b,hb,by rw [e];rfl⟩
theorem of_pinsAt {p:ak×Obj}(hp:p∈pinsAt fp h):p.1∈fp∧h.get? p.1=some p.2:=by
 obtain ⟨b,hb,e⟩:=gW.mp hp;cases q:h.get? b with
 | none=>rw [q] at e;cases e
 | some o =>
  rw [q] at e;have e':(b,o)=p:=bu e;subst e';exact ⟨hb,q⟩
theorem Inv.pinned (I:Inv X aI σ H s)(hf:∀ b∈fp,FpOk X aI H b)(ho:∀ b∈fp,∃ o,s.heap.get? b=some o∧∀ v,o.data≠ .cell v):Inv X (aI++pinsAt fp s.heap) σ H s :=
 I.pins_of fun p hp=>(bg.mp hp).elim (fun z=>I.pin p (bp _ z)) fun z=>by
  obtain ⟨hb,e⟩:=of_pinsAt z;obtain ⟨f0,f1,f2,_⟩:=hf p.1 hb;obtain ⟨o,e',d⟩:=ho p.1 hb;rw [e] at e';cases e';exact ⟨e,f0,f1,f2,d⟩
theorem Inv.unpinned {pl:List (ak×Obj)}(I:Inv X (aI++pl) σ H s):Inv X aI σ H s:=I.pins_of fun p hp=>I.pin p (bp _ (cB _ hp))
theorem gS {wi:TI}{g:TG}(hp:PassesOwn (bQ X.prog X.w) X.A X.env X.xe)(hc:X.calm=true)(hi:PI X tg iter wi)(hg:PG X tg g)(hb:PSs X body tb)
  (hs:∀ x,iH iter X.env x=gK x:=by intro _;rfl):PS X (.For tg iter body [] pos) (tFor wi g tb):=by
 intro aI s σ H D I h;refine wpAny_For (thn (hi aI s σ H _ I h) fun v s1 h1=>thn h1 fun itv s2 h2=>?_) hs;obtain ⟨it,fp,tn,J,H2,e,I2,T,st2,f2,W,⟨m0,w0⟩,turn⟩:=h2;subst e;have stat:∀ {H':Hp},(∀ b∈fp,H' b=none)→∀ b∈fp,FpOk X aI H' b:=fun hn b hb=>⟨hn b hb,(f2 b hb).2⟩
 refine codeAny_forLoop_any (fun n s'=>∃ i σ' H',Inv X aI σ' H' s'∧tn i s'.heap∧(∀ b∈fp,H' b=none)∧W i n σ' H') ?_ m0 ⟨0,σ,H2,I2,st2,fun b hb=>(f2 b hb).1,w0⟩;rintro n s3 ⟨i,σ3,H3,I3,st3,fr3,w3⟩
 rcases turn i n σ3 H3 w3 with ⟨stop,qn⟩ | ⟨go,N,hN,step⟩
 ·refine kD hp (thn (T.done X rfl rfl rfl hc i aI s3 σ3 H3 X.xe I3 (stat fr3) st3 stop) fun r s4 ⟨hr,I4⟩=>?_)
  subst hr;exact wpAny_execs_nil ⟨σ3,H3,I4,qn⟩
 ·refine kD hp (thn (T.item X rfl rfl rfl hc i aI s3 σ3 H3 X.xe I3 (stat fr3) st3 go) fun r s4 ⟨u,hr,h4⟩=>?_)
  subst hr;refine kD hp (thn h4 fun _ s5 ⟨x,H5,I5,r5,y5,st5,fr5⟩=>?_);have I5':=I5.pinned (stat fr5) (T.obj _ _ st5);refine kD hp (thn (hg _ s5 σ3 H5 x u _ I5' r5 (step x H5 y5)) fun _ s6 ⟨σ6,H6,I6,q6⟩=>?_);refine kD hp (thn (hb _ s6 σ6 H6 _ I6 q6) fun f s7 q7=>?_);have again:∀ {σ7:St} {H7:Hp},Inv X (aI++pinsAt fp s5.heap) σ7 H7 s7→N σ7 H7→∃ m,m<n∧∃ i σ' H',Inv X aI σ' H' s7∧tn i s7.heap∧(∀ b∈fp,H' b=none)∧W i m σ' H':=fun {σ7 H7} I7 n7=>by
   obtain ⟨m',hm,w7⟩:=hN σ7 H7 n7;refine ⟨m',hm,i+1,σ7,H7,I7.unpinned,T.keep _ _ _ st5 fun b hb o e=>(I7.pin (b,o) (bp _ (bp _ (lq hb e)))).1,fun b hb=>?_,w7⟩;obtain ⟨o,e,d⟩:=T.obj _ _ st5 b hb;exact (I7.pin (b,o) (bp _ (bp _ (lq hb e)))).2.1
  cases f with
  | next=>obtain ⟨σ7,H7,I7,n7⟩:=q7;exact again I7 n7
  | cont=>obtain ⟨σ7,H7,I7,n7⟩:=q7;exact again I7 n7
  | brk=>obtain ⟨σ7,H7,I7,q7⟩:=q7;exact ⟨σ7,H7,I7.unpinned,q7⟩
  | ret v=>obtain ⟨x7,σ7,H7,I7,r7,q7⟩:=q7;exact ⟨x7,σ7,H7,I7.unpinned,r7,q7⟩
theorem jP {g:TG}{D:mW}(Pv:Nat→St→Hp→Prop)(h0:Pv 0 σ H)(hl:∀ i σ H,i≤xs.length→Pv i σ H→SqL K H a xs)
  (hs:∀ i x σ H,xs[i]? =some x→Pv i σ H→g x σ H fun σ2 H2=>tb { D with nx:=Pv (i+1),ct:=Pv (i+1),bk:=D.nx } σ2 H2) (hd:∀ σ H,Pv xs.length σ H→D.nx σ H) :
  ∃ W:Nat→Nat→St→Hp→Prop,(∃ m,W 0 m σ H)∧∀ i m σ H,W i m σ H →
   ((Itl K a).stop i H∧D.nx σ H)∨((Itl K a).go i H∧∃ N:St→Hp→Prop,(∀ σ' H',N σ' H'→∃ m',m'<m∧W (i+1) m' σ' H')∧∀ x H',(Itl K a).yld i H x H'→g x σ H' fun σ2 H2=>tb { D with nx:=N,ct:=N,bk:=D.nx } σ2 H2):=by
 refine ⟨fun i m σ H=>m=xs.length - i∧i≤xs.length∧Pv i σ H,⟨xs.length,by simp,cz _,h0⟩,?_⟩;rintro i m σ H ⟨rfl,hi,p⟩;have q:=hl i σ H hi p
 by_cases hlt:i<xs.length
 ·refine .inr ⟨⟨xs,xs[i],q,by simp [hlt]⟩,Pv (i+1),fun σ' H' p'=>⟨xs.length - (i+1),by lia,rfl,hlt,p'⟩,fun x H' y=>?_⟩
  obtain ⟨e,y⟩:=y;subst e;exact hs i x σ _ (y xs q) p
 ·have e:i=xs.length:=by lia
  subst e;exact .inl ⟨⟨xs,q,az _⟩,hd σ H p⟩
theorem for_tup {g:TG}{D:mW}(Pv:Nat→St→Hp→Prop)(h0:Pv 0 σ H)(hl:∀ i σ H,i≤xs.length→Pv i σ H→SqT K H a xs)
  (hs:∀ i x σ H,xs[i]? =some x→Pv i σ H→g x σ H fun σ2 H2=>tb { D with nx:=Pv (i+1),ct:=Pv (i+1),bk:=D.nx } σ2 H2) (hd:∀ σ H,Pv xs.length σ H→D.nx σ H) :
  ∃ W:Nat→Nat→St→Hp→Prop,(∃ m,W 0 m σ H)∧∀ i m σ H,W i m σ H →
   ((Itt K a).stop i H∧D.nx σ H)∨((Itt K a).go i H∧∃ N:St→Hp→Prop,(∀ σ' H',N σ' H'→∃ m',m'<m∧W (i+1) m' σ' H')∧∀ x H',(Itt K a).yld i H x H'→g x σ H' fun σ2 H2=>tb { D with nx:=N,ct:=N,bk:=D.nx } σ2 H2):=by
 refine ⟨fun i m σ H=>m=xs.length - i∧i≤xs.length∧Pv i σ H,⟨xs.length,by simp,cz _,h0⟩,?_⟩;rintro i m σ H ⟨rfl,hi,p⟩;have q:=hl i σ H hi p
 by_cases hlt:i<xs.length
 ·refine .inr ⟨⟨xs,xs[i],q,by simp [hlt]⟩,Pv (i+1),fun σ' H' p'=>⟨xs.length - (i+1),by lia,rfl,hlt,p'⟩,fun x H' y=>?_⟩
  obtain ⟨e,y⟩:=y;subst e;exact hs i x σ _ (y xs q) p
 ·have e:i=xs.length:=by lia
  subst e;exact .inl ⟨⟨xs,q,az _⟩,hd σ H p⟩
theorem mr {g:TG}{D:mW}(Pv:Nat→St→Hp→Prop)(h0:Pv 0 σ H)
  (hs:∀ i σ H,i<n→Pv i σ H→g (.int (lo+i)) σ H fun σ2 H2=>tb { D with nx:=Pv (i+1),ct:=Pv (i+1),bk:=D.nx } σ2 H2) (hd:∀ σ H,Pv n σ H→D.nx σ H) :
  ∃ W:Nat→Nat→St→Hp→Prop,(∃ m,W 0 m σ H)∧∀ i m σ H,W i m σ H →
   ((Itr lo n).stop i H∧D.nx σ H)∨((Itr lo n).go i H∧∃ N:St→Hp→Prop,(∀ σ' H',N σ' H'→∃ m',m'<m∧W (i+1) m' σ' H')∧∀ x H',(Itr lo n).yld i H x H'→g x σ H' fun σ2 H2=>tb { D with nx:=N,ct:=N,bk:=D.nx } σ2 H2):=by
 refine ⟨fun i m σ H=>m=n - i∧i≤n∧Pv i σ H,⟨n,by simp,cz _,h0⟩,?_⟩;rintro i m σ H ⟨rfl,hi,p⟩
 by_cases hlt:i<n
 ·refine .inr ⟨hlt,Pv (i+1),fun σ' H' p'=>⟨n - (i+1),by lia,rfl,hlt,p'⟩,fun x H' y=>?_⟩
  obtain ⟨e,y⟩:=y;subst e y;exact hs i σ _ hlt p
 ·have e:i=n:=by lia
  subst e;exact .inl ⟨az _,hd σ H p⟩
abbrev R2:=V→V→Hp→VK→Prop
def OpR (X:Cx)(f:ag→ag→Sem ag)(r:R2):Prop :=
 ∀ (aI:List (ak×Obj)) (s:ar) (σ:St) (H:Hp) (x y:V) (v u:ag) (Q:VK),Inv X aI σ H s→gU x v→gU y u→r x y H Q →
  bo (bQ X.prog X.w) X.A (f v u) (EP X aI σ Q) X.xe s
def UnR (X:Cx)(f:ag→Sem ag)(r:V→Hp→VK→Prop):Prop :=
 ∀ (aI:List (ak×Obj)) (s:ar) (σ:St) (H:Hp) (x:V) (v:ag) (Q:VK),Inv X aI σ H s→gU x v→r x H Q →
  bo (bQ X.prog X.w) X.A (f v) (EP X aI σ Q) X.xe s
def iK (X:Cx)(f:ag)(r:List V→Hp→VK→Prop):Prop :=
 ∀ (aI:List (ak×Obj)) (s:ar) (σ:St) (H:Hp) (xs:List V) (us:List ag) (Q:VK),Inv X aI σ H s→gr xs us→r xs H Q →
  bo (bQ X.prog X.w) X.A (call f us) (EP X aI σ Q) X.xe s
def tOp (r:R2)(ta tb:TE):TE:=fun σ H Q=>ta σ H fun x H1=>tb σ H1 fun y H2=>r x y H2 Q
def tUn (r:V→Hp→VK→Prop)(ta:TE):TE:=fun σ H Q=>ta σ H fun x H1=>r x H1 Q
inductive rI (C:Int→Int→Prop)(g:Int→Int→V)(x:V)(y:V)(H:Hp)(Q:VK):Prop
 | mk (i j:_)(_:x= .int i)(_:y= .int j)(_:C i j)(_:Q (g i j) H)
inductive rI0 (g:Int→Int→V)(x:V)(y:V)(H:Hp)(Q:VK):Prop
 | mk (i j:_)(_:x= .int i)(_:y= .int j)(_:Q (g i j) H)
inductive rU (g:Int→V)(x:V)(H:Hp)(Q:VK):Prop
 | mk (i:_)(_:x= .int i)(_:Q (g i) H)
section
variable {a b c:Expr}{tb tc:TE}
theorem binT (ha:PE X a ta)(hb:PE X b tb){R:V→V→Hp→Prop}(I:Inv X aI σ H s)
  (h:ta σ H fun x H1=>tb σ H1 fun y H2=>R x y H2) {f:ag→ag→Sem ag}
  (hf:∀ v u s2 x y H2,Inv X aI σ H2 s2→gU x v→gU y u→R x y H2→bo (bQ X.prog X.w) X.A (f v u) Q X.xe s2) :
  bo (bQ X.prog X.w) X.A (dn a X.env) (fun v s₁=>bo (bQ X.prog X.w) X.A (dn b X.env) (fun u s₂=>bo (bQ X.prog X.w) X.A (f v u) Q X.xe s₂) X.xe s₁) X.xe s:=by
 refine thn (ha aI s σ H _ I h) fun v s1 ⟨x,H1,I1,r1,q1⟩=>?_
 refine thn (hb aI s1 σ H1 _ I1 q1) fun u s2 ⟨y,H2,I2,r2,q2⟩=>?_
 exact hf v u s2 x y H2 I2 r1 r2 q2
theorem cD {op:Operator}{r:R2}(ho:OpR X (gY op) r)(ha:PE X a ta)(hb:PE X b tb):PE X (.BinOp a op b pos) (tOp r ta tb):=by
 intro aI s σ H Q I h;exact wpAny_BinOp (binT ha hb I h fun v u s2 x y H2 I2 rx ry q=>ho aI s2 σ H2 x y v u Q I2 rx ry q)
theorem pe_un {op:UnaryOp}{r:V→Hp→VK→Prop}(ho:UnR X (unaryOp op) r)(ha:PE X a ta):PE X (.UnaryOp op a pos) (tUn r ta):=by
 intro aI s σ H Q I h;exact UnaryOp_ (thn (ha aI s σ H _ I h) fun v s1 ⟨x,H1,I1,r1,q1⟩=>ho aI s1 σ H1 x v Q I1 r1 q1)
theorem opI {f:ag→ag→Sem ag}{C:Int→Int→Prop}{g:Int→Int→Int}
  (rule:∀ (i j:Int) (t u:Tok) (s:ar) (Q:ag→ar→Prop) (E:ag→ar→Prop),C i j→Q (.int (g i j) s.toks) { s with toks:=s.toks+1 }→bo (bQ X.prog X.w) X.A (f (.int i t) (.int j u)) Q E s) :
  OpR X f (rI C fun i j=> .int (g i j)):=by
 intro aI s σ H x y v u Q I rx ry h;obtain ⟨i,j,rfl,rfl,hc,q⟩:=h;obtain ⟨t,rfl⟩:=rx;obtain ⟨t',rfl⟩:=ry;exact rule i j t t' s _ _ hc ⟨.int (g i j),H,I.tok _,⟨_,rfl⟩,q⟩
theorem opI0 {f:ag→ag→Sem ag}{g:Int→Int→Int}
  (rule:∀ (i j:Int) (t u:Tok) (s:ar) (Q:ag→ar→Prop) (E:ag→ar→Prop),Q (.int (g i j) s.toks) { s with toks:=s.toks+1 }→bo (bQ X.prog X.w) X.A (f (.int i t) (.int j u)) Q E s) :
  OpR X f (rI0 fun i j=> .int (g i j)):=by
 intro aI s σ H x y v u Q I rx ry h;obtain ⟨i,j,rfl,rfl,q⟩:=h;obtain ⟨t,rfl⟩:=rx;obtain ⟨t',rfl⟩:=ry;exact rule i j t t' s _ _ ⟨.int (g i j),H,I.tok _,⟨_,rfl⟩,q⟩
theorem opB0 {f:ag→ag→Sem ag}{g:Int→Int→Bool}
  (rule:∀ (i j:Int) (t u:Tok) (s:ar) (Q:ag→ar→Prop) (E:ag→ar→Prop),Q (.bool (g i j)) s→bo (bQ X.prog X.w) X.A (f (.int i t) (.int j u)) Q E s) :
  OpR X f (rI0 fun i j=> .bl (g i j)):=by
 intro aI s σ H x y v u Q I rx ry h;obtain ⟨i,j,rfl,rfl,q⟩:=h;obtain ⟨t,rfl⟩:=rx;obtain ⟨t',rfl⟩:=ry;exact rule i j t t' s _ _ ⟨.bl (g i j),H,I,rfl,q⟩
def CDiv (i j:Int):Prop:=0<j∧j<1073741824
def CPow (i j:Int):Prop:=0≤j∧j≤1000000∧i.natAbs<2 ^ 64
def CMul (i j:Int):Prop:=(-(2 ^ 64)<i∧i<2 ^ 64)∨(-(2 ^ 64)<j∧j<2 ^ 64)
theorem CMul.ok {i j:Int}(h:CMul i j):IntMulOk i j:=by
 rcases h with ⟨h1,h2⟩ | ⟨h1,h2⟩
 ·exact .of_left (intBits_le_64 h1 h2)
 ·exact .of_right (intBits_le_64 h1 h2)
theorem ff:OpR X (gY .Add) (rI0 fun i j=> .int (i+j)):=opI0 fun _ _ _ _ _ _ _ q=>add_int q
theorem gv:OpR X (gY .Sub) (rI0 fun i j=> .int (i - j)):=opI0 fun _ _ _ _ _ _ _ q=>sub_int q
theorem jL:OpR X (gY .Mult) (rI CMul fun i j=> .int (i * j)):=opI fun _ _ _ _ _ _ _ hc q=>mul_int q hc.ok
theorem op_fdiv:OpR X (gY .FloorDiv) (rI CDiv fun i j=> .int (i / j)):=opI fun i j _ _ _ _ _ hc q=>by
 have h1:(0:Int)<j:=hc.1;have h2:j<1073741824:=hc.2;exact floordiv_int (by lia) (by rw [Int.fdiv_eq_ediv_of_nonneg i (by lia)];exact q) (.inl (PyProof.noPylong_small (by lia)))
theorem mZ:OpR X (gY .Mod) (rI (fun _ j=>0<j) fun i j=> .int (i % j)):=opI fun i j _ _ _ _ _ hc q=>by
 have h1:(0:Int)<j:=hc;exact mod_int' (by lia) (by rw [Int.fmod_eq_emod_of_nonneg i (by lia)];exact q)
theorem op_pow:OpR X (gY .Pow) (rI CPow fun i j=> .int (i ^ j.toNat)):=opI fun _ _ _ _ _ _ _ hc q=>pow_int_small hc.1 hc.2.1 hc.2.2 q
theorem unI {f:ag→Sem ag}{g:Int→Int}
  (rule:∀ (i:Int) (t:Tok) (s:ar) (Q:ag→ar→Prop) (E:ag→ar→Prop),Q (.int (g i) s.toks) { s with toks:=s.toks+1 }→bo (bQ X.prog X.w) X.A (f (.int i t)) Q E s) :
  UnR X f (rU fun i=> .int (g i)):=by
 intro aI s σ H x v Q I rx h;obtain ⟨i,rfl,q⟩:=h;obtain ⟨t,rfl⟩:=rx;exact rule i t s _ _ ⟨.int (g i),H,I.tok _,⟨_,rfl⟩,q⟩
theorem un_neg:UnR X (unaryOp .USub) (rU fun i=> .int (-i)):=unI fun _ _ _ _ _ q=>neg_int q
end
def scal:V→V→Bool
 | .non,.non=>true | .non,.int _=>true | .int _,.non=>true | .non,.bl _=>true | .bl _,.non=>true | .non,.str _=>true | .str _,.non=>true
 | .int _,.int _=>true | .bl _,.bl _=>true | .str _,.str _=>true | .byt _,.byt _=>true
 | .int _,.str _=>true | .str _,.int _=>true | .bl _,.str _=>true | .str _,.bl _=>true
 | _,_=>false
def rEq:R2:=fun x y H Q=>scal x y=true∧Q (.bl (decide (x=y))) H
def rNe:R2:=fun x y H Q=>scal x y=true∧Q (.bl (!decide (x=y))) H
theorem dec_int {i j:Int}:decide (V.int i=V.int j)=(i == j):=by
 rw [j5];simp
theorem dec_bl {i j:Bool}:decide (V.bl i=V.bl j)=(i == j):=by
 rw [j5];simp
theorem dec_str {i j:Str}:decide (V.str i=V.str j)=(i == j):=by
 rw [j5];simp
theorem dec_byt {i j:Array UInt8}:decide (V.byt i=V.byt j)=(i.toList == j.toList):=by
 rw [j5];cases i;cases j;simp
section
variable {a b c:Expr}{tb tc:TE}
theorem dH {Q:VK}{k k':Bool}(I:Inv X aI σ H s)(q:Q (.bl k) H)(e:k=k'):EP X aI σ Q (.bool k') s:=by
 subst e;exact ⟨.bl k,H,I,rfl,q⟩
theorem iT:OpR X (dj .Eq) rEq:=by
 intro aI s σ H x y v u Q I rx ry h;obtain ⟨hs,q⟩:=h;cases x with
 | non =>
  cases rx;cases y with
  | non=>cases ry;exact PySem.EqNone.eq_none_none (dH I q (by simp))
  | bl j=>cases ry;exact PySem.EqNone.eq_none_bool (dH I q (by simp))
  | int j=>obtain ⟨t',rfl⟩:=ry;exact PySem.EqNone.eq_none_int (dH I q (by simp))
  | str j=>obtain ⟨t',rfl⟩:=ry;exact PySem.EqNone.eq_none_str (dH I q (by simp))
  | _=>exact pF (show false=true from hs) bz
 | bl i =>
  cases rx;cases y with
  | non=>cases ry;exact PySem.EqNone.eq_bool_none (dH I q (by simp))
  | bl j=>cases ry;exact eq_bool (dH I q dec_bl)
  | str j=>obtain ⟨t',rfl⟩:=ry;exact PySem.EqMixed.eq_bool_str (dH I q (by simp))
  | _=>exact pF (show false=true from hs) bz
 | int i =>
  obtain ⟨t,rfl⟩:=rx;cases y with
  | non=>cases ry;exact PySem.EqNone.eq_int_none (dH I q (by simp))
  | int j=>obtain ⟨t',rfl⟩:=ry;exact eq_int (dH I q dec_int)
  | str j=>obtain ⟨t',rfl⟩:=ry;exact PySem.EqMixed.eq_int_str (dH I q (by simp))
  | _=>exact pF (show false=true from hs) bz
 | str i =>
  obtain ⟨t,rfl⟩:=rx;cases y with
  | non=>cases ry;exact PySem.EqNone.eq_str_none (dH I q (by simp))
  | bl j=>cases ry;exact PySem.EqMixed.eq_str_bool (dH I q (by simp))
  | int j=>obtain ⟨t',rfl⟩:=ry;exact PySem.EqMixed.eq_str_int (dH I q (by simp))
  | str j=>obtain ⟨t',rfl⟩:=ry;exact eq_str (dH I q dec_str)
  | _=>exact pF (show false=true from hs) bz
 | byt i =>
  obtain ⟨t,rfl⟩:=rx;cases y with
  | byt j=>obtain ⟨t',rfl⟩:=ry;exact PySem.W.eq_bytes (dH I q dec_byt)
  | _=>exact pF (show false=true from hs) bz
 | _=>cases y <;> exact pF (show false=true from hs) bz
theorem nk:OpR X (dj .NotEq) rNe:=by
 intro aI s σ H x y v u Q I rx ry h;obtain ⟨hs,q⟩:=h;cases x with
 | non =>
  cases rx;cases y with
  | non=>cases ry;exact PySem.EqNone.ne_none_none (dH I q (by simp))
  | bl j=>cases ry;exact PySem.EqNone.ne_none_bool (dH I q (by simp))
  | int j=>obtain ⟨t',rfl⟩:=ry;exact PySem.EqNone.ne_none_int (dH I q (by simp))
  | str j=>obtain ⟨t',rfl⟩:=ry;exact PySem.EqNone.ne_none_str (dH I q (by simp))
  | _=>exact pF (show false=true from hs) bz
 | bl i =>
  cases rx;cases y with
  | non=>cases ry;exact PySem.EqNone.ne_bool_none (dH I q (by simp))
  | bl j=>cases ry;exact ne_bool (dH I q (pJ not dec_bl))
  | str j=>obtain ⟨t',rfl⟩:=ry;exact PySem.EqMixed.ne_bool_str (dH I q (by simp))
  | _=>exact pF (show false=true from hs) bz
 | int i =>
  obtain ⟨t,rfl⟩:=rx;cases y with
  | non=>cases ry;exact PySem.EqNone.ne_int_none (dH I q (by simp))
  | int j=>obtain ⟨t',rfl⟩:=ry;exact ne_int (dH I q (pJ not dec_int))
  | str j=>obtain ⟨t',rfl⟩:=ry;exact PySem.EqMixed.ne_int_str (dH I q (by simp))
  | _=>exact pF (show false=true from hs) bz
 | str i =>
  obtain ⟨t,rfl⟩:=rx;cases y with
  | non=>cases ry;exact PySem.EqNone.ne_str_none (dH I q (by simp))
  | bl j=>cases ry;exact PySem.EqMixed.ne_str_bool (dH I q (by simp))
  | int j=>obtain ⟨t',rfl⟩:=ry;exact PySem.EqMixed.ne_str_int (dH I q (by simp))
  | str j=>obtain ⟨t',rfl⟩:=ry;exact ne_str (dH I q (pJ not dec_str))
  | _=>exact pF (show false=true from hs) bz
 | byt i =>
  obtain ⟨t,rfl⟩:=rx;cases y with
  | byt j=>obtain ⟨t',rfl⟩:=ry;exact PySem.W.ne_bytes (dH I q (pJ not dec_byt))
  | _=>exact pF (show false=true from hs) bz
 | _=>cases y <;> exact pF (show false=true from hs) bz
theorem oS:OpR X (dj .Lt) (rI0 fun i j=> .bl (decide (i<j))):=opB0 fun _ _ _ _ _ _ _ q=>lt_int q
theorem op_le:OpR X (dj .LtE) (rI0 fun i j=> .bl (decide (i≤j))):=opB0 fun _ _ _ _ _ _ _ q=>le_int q
theorem op_gt:OpR X (dj .Gt) (rI0 fun i j=> .bl (decide (j<i))):=opB0 fun _ _ _ _ _ _ _ q=>gt_int q
theorem op_ge:OpR X (dj .GtE) (rI0 fun i j=> .bl (decide (j≤i))):=opB0 fun _ _ _ _ _ _ _ q=>ge_int q
theorem op_in_str:OpR X (dj .In) (fun x y H Q=>∃ i j,x= .str i∧y= .str j∧Q (.bl (!(cA j i 0 j.length 1).isEmpty)) H):=by
 intro aI s σ H x y v u Q I rx ry h;obtain ⟨i,j,rfl,rfl,q⟩:=h;obtain ⟨t,rfl⟩:=rx;obtain ⟨t',rfl⟩:=ry;exact in_str (dH I q rfl)
theorem om:OpR X (dj .Is) (fun x y H Q=>y= .non∧Q (.bl (decide (x= .non))) H):=by
 intro aI s σ H x y v u Q I rx ry h;obtain ⟨rfl,q⟩:=h;cases ry;refine is_none_gen (dH I q ?_);cases x <;> first
  | (cases rx;rfl)
  | (obtain ⟨t,rfl⟩:=rx;rfl)
theorem op_notN:OpR X (dj .IsNot) (fun x y H Q=>y= .non∧Q (.bl (!decide (x= .non))) H):=by
 intro aI s σ H x y v u Q I rx ry h;obtain ⟨rfl,q⟩:=h;cases ry;refine isnot_none_gen (dH I q ?_);cases x <;> first
  | (cases rx;rfl)
  | (obtain ⟨t,rfl⟩:=rx;rfl)
theorem cb (b:Expr)(h:op≠ .In:=by decide)(h2:op≠ .NotIn:=by decide):behindInMarks op b=false:=by
 have e1:(op == CmpOp.In)=false:=by cases op <;> first | rfl | exact pF rfl h
 have e2:(op == CmpOp.NotIn)=false:=by cases op <;> first | rfl | exact pF rfl h2
 cases b <;> simp [behindInMarks,e1,e2]
theorem jW {r:R2}(ho:OpR X (dj op) r)(ha:PE X a ta)(hb:PE X b tb)(hm:behindInMarks op b=false):PE X (.Compare a [op] [b] pos) (tOp r ta tb):=by
 intro aI s σ H Q I h;exact wpAny_Compare1 (binT ha hb I h fun v u s2 x y H2 I2 rx ry q=>ho aI s2 σ H2 x y v u Q I2 rx ry q) hm
def tTest (t:TE):TT:=fun σ H Q=>t σ H fun x H'=>IsBl x fun k=>Q k H'
theorem bK {r:R2}(ho:OpR X (dj op) r)(ha:PE X a ta)(hb:PE X b tb)(hm:behindInMarks op b=false):PT X (.Compare a [op] [b] pos) (tTest (tOp r ta tb)):=by
 intro aI s σ H Q I h;refine wpAny_isTrue_Compare1 (thn (ha aI s σ H _ I h) fun v s1 ⟨x,H1,I1,r1,q1⟩=>thn (hb aI s1 σ H1 _ I1 q1) fun u s2 ⟨y,H2,I2,r2,q2⟩ =>
  thn (ho aI s2 σ H2 x y v u _ I2 r1 r2 q2) fun c s3 ⟨z,H3,I3,r3,k,e,q3⟩=>?_) hm
 subst e;cases r3;exact gz ⟨H3,I3,q3⟩
def tChain (r r':R2)(ta tb tc:TE):TE:=fun σ H Q=>ta σ H fun x H1=>tb σ H1 fun y H2=>r x y H2 fun z H3=>∃ k,z= .bl k ∧
 (if k=true then tc σ H3 fun w' H4=>r' y w' H4 Q else Q (.bl false) H3)
theorem pe_chain {op':CmpOp}{r r':R2}(ho:OpR X (dj op) r)(ho':OpR X (dj op') r')(ha:PE X a ta)(hb:PE X b tb)(hc:PE X c tc)
  (hm:lastMarks [op,op'] [b,c]=false:=by with_unfolding_all rfl):PE X (.Compare a [op,op'] [b,c] pos) (tChain r r' ta tb tc):=by
 intro aI s σ H Q I h;refine Compare_chain (thn (ha aI s σ H _ I h) fun v s1 ⟨x,H1,I1,r1,q1⟩=>chain_link (thn (hb aI s1 σ H1 _ I1 q1) fun u s2 ⟨y,H2,I2,r2,q2⟩ =>
  thn (ho aI s2 σ H2 x y v u _ I2 r1 r2 q2) fun d s3 ⟨z,H3,I3,r3,k,e,q3⟩=>?_)) hm
 subst e;cases r3;refine gz ?_;cases k with
 | false=>exact ite_ff ⟨.bl false,H3,I3,rfl,q3⟩
 | true=>exact ite_tt (chain_last (thn (hc aI s3 σ H3 _ I3 q3) fun w' s4 ⟨z',H4,I4,r4,q4⟩=>ho' aI s4 σ H4 y z' u w' Q I4 r2 r4 q4))
theorem ph:(au:Nat)<2 ^ 63:=by rw [sizeLine_eq];decide
theorem op_add_str:OpR X (gY .Add) (fun x y H Q=>∃ i j,x= .str i∧y= .str j∧i.length+j.length≤au∧Q (.str (i++j)) H):=by
 intro aI s σ H x y v u Q I rx ry h;obtain ⟨i,j,rfl,rfl,hz,q⟩:=h;obtain ⟨t,rfl⟩:=rx;obtain ⟨t',rfl⟩:=ry;exact add_str (fun t' tk=>⟨.str (i++j),H,I.tok _,⟨_,rfl⟩,q⟩) hz
theorem lG {x:V}(r:gr [x] us):∃ u,us=[u]∧gU x u:=by
 cases r with
 | cons r1 r2=>cases r2;exact ⟨_,rfl,r1⟩
theorem vals2 {x:V}(r:gr [x,y] us):∃ u w',us=[u,w']∧gU x u∧gU y w':=by
 cases r with
 | cons r1 r2 =>
  cases r2 with
  | cons r3 r4=>cases r4;exact ⟨_,_,rfl,r1,r3⟩
theorem call_max2 (hc:X.calm=true):iK X (.builtin "max") (fun xs H Q=>∃ i j,xs=[.int i,.int j]∧Q (.int (if j > i then j else i)) H):=by
 intro aI s σ H xs us Q I r h;obtain ⟨i,j,rfl,q⟩:=h;obtain ⟨u,w',rfl,⟨t,rfl⟩,⟨t',rfl⟩⟩:=vals2 r;refine max_two_ints (I.ok.hd hc) fun h' tk k=>⟨_,H,I.kept k,?_,q⟩
 by_cases hj:j > i
 ·rw [pE hj,pE hj];exact ⟨_,rfl⟩
 ·rw [pB hj,pB hj];exact ⟨_,rfl⟩
theorem oN (hc:X.calm=true):iK X (.builtin "min") (fun xs H Q=>∃ i j,xs=[.int i,.int j]∧Q (.int (if j<i then j else i)) H):=by
 intro aI s σ H xs us Q I r h;obtain ⟨i,j,rfl,q⟩:=h;obtain ⟨u,w',rfl,⟨t,rfl⟩,⟨t',rfl⟩⟩:=vals2 r;refine min_two_ints (I.ok.hd hc) fun h' tk k=>⟨_,H,I.kept k,?_,q⟩
 by_cases hj:j<i
 ·rw [pE hj,pE hj];exact ⟨_,rfl⟩
 ·rw [pB hj,pB hj];exact ⟨_,rfl⟩
theorem mz:iK X (.type "int") (fun xs H Q=>(∃ i,xs=[.int i]∧Q (.int i) H)∨∃ k,xs=[.bl k]∧Q (.int (if k then 1 else 0)) H):=by
 intro aI s σ H xs us Q I r h
 rcases h with ⟨i,rfl,q⟩ | ⟨k,rfl,q⟩
 ·obtain ⟨u,rfl,t,rfl⟩:=lG r
  exact call_int_int ⟨.int i,H,I,⟨_,rfl⟩,q⟩
 ·obtain ⟨u,rfl,r1⟩:=lG r
  cases r1;exact call_int_bool ⟨.int (if k then 1 else 0),H,I.tok _,⟨_,rfl⟩,q⟩
theorem na:iK X (.type "str") (fun xs H Q=>∃ i,xs=[.int i]∧i.natAbs.log2<1920∧Q (.str (toString i)) H):=by
 intro aI s σ H xs us Q I r h;obtain ⟨i,rfl,hz,q⟩:=h;obtain ⟨u,rfl,t,rfl⟩:=lG r;exact PySem.P.str_of_int hz ⟨.str _,H,I.tok _,⟨_,rfl⟩,q⟩
end
structure ObjM (h:bX)(x dx C:ak)(mA:Str→Option ag):Prop where
 obj:h.get? x=some (gu C dx)
 ns:h.Ns1 dx mA
 ne:dx≠x
theorem lookIn_ns (n:h.Ns1 dx mA):∃ od,h.get? dx=some od∧∀ name,PySem.W.lookIn name od=some (mA name):=by
 obtain ⟨o,es,ep,ho,hd,hk,_,hm⟩:=n;refine ⟨o,ho,fun name=>?_⟩;have e:=hm name;unfold nsFind findBy at e;rw [←Array.find?_toList] at e;unfold PySem.W.lookIn;rw [hd]
 dsimp only
 split
 ·rename_i y q
  rw [q] at e;exact pJ some e
 ·rename_i q
  rw [q] at e;have a:es.toList.any (·.refKey)=false:=by
   rw [List.any_eq_false];intro y hy;obtain ⟨z,t,hkey⟩:=hk y (Array.mem_toList_iff.mp hy);simp [DictEntry.refKey,hkey]
  have a':¬ es.toList.any (·.refKey)=true:=by rw [a];exact bz
  rw [pB a'];exact pJ some e
theorem ObjM.look {x:ak}(I:ObjM h x dx C mA):∃ od,PySem.W.InstAt h x (gu C dx) C (some od)∧∀ name,PySem.W.lookIn name od=some (mA name) :=
 let ⟨od,ho,hl⟩:=lookIn_ns I.ns
 ⟨od,⟨I.obj,rfl,rfl,ho⟩,hl⟩
section
variable {x:ak}{v:ag}
theorem get_map {expr:Bool}(X:K.In s.heap)(I:ObjM s.heap x dx C mA)(hg:ir K C name=true)(hh:jb K C=true)
  (ha:cf K (.ref C) name=some none) (hv:mA name=some v) (hv':PySem.W.handedIn v=true) (h:Q v { s with toks:=s.toks+1 }) :
  bo (bQ prog w) A (getAttr (.ref x) name expr) Q E s:=by
 obtain ⟨od,J,hl⟩:=I.look;exact PySem.W.get_value X J (PySem.W.plainGet_of hg).1 (PySem.W.findObj_own hh ha rfl (by rw [hl,hv])) hv' h
theorem get_meth {pl:Sem Bool}{Q:ag×List ag→ar→Prop}(X:K.In s.heap)(I:ObjM s.heap x dx C mA)(hg:ir K C name=true)
  (hf:cf K (.ref C) name=some (some (.ref f))) (ht:PySem.W.isFn K (.ref f)=true) (hv:mA name=none) (h:Q (.ref f,[.ref x]) s) :
  bo (bQ prog w) A (getMethod (.ref x) name pl) Q E s:=by
 obtain ⟨od,J,hl⟩:=I.look;exact PySem.W.method_fn X J (PySem.W.plainGet_of hg).1 (PySem.W.plainGet_of hg).2 hf (beq_iff_eq.mp ht) (by show (PySem.W.lookIn name od).map (·.isSome)=some false;rw [hl,hv];rfl) h
theorem set_map {Q:Unit→ar→Prop}(X:K.In s.heap)(I:ObjM s.heap x dx C mA)
  (hs:cf K (.ref C) "__setattr__" =some (some (.builtin "object.__setattr__"))) (hp:PySem.W.plainOver K C=true) (ht:PySem.W.takerIn K C name=some none) (hh:jb K C=true)
  (hw:PySem.Within mA ns) (hsz:ns.length≤au)
  (h:∀ h',ObjM h' x dx C (fun y=>if y=name then some v else mA y)→cI dx s.heap h'→Q () { s with heap:=h',toks:=s.toks+2 }) :
  bo (bQ prog w) A (setAttr (.ref x) name v) Q E s:=by
 obtain ⟨od,J,hl⟩:=I.look;refine PySem.W.set_plain X J hs (PySem.W.osa_open (s:={ s with toks:=s.toks+1 }) (r:=none) X J hp ht fun b=>?_);obtain ⟨cd,hc,hd'⟩:=PySem.W.any_some hh;have hx:s.heap.get? x=some ⟨.ref C,some dx,.plain,#[]⟩:=I.obj;refine al (aQ (al (al (wpAny_loadPart hx (al (PySem.W.Looks.here (s:={ s with toks:=s.toks+1 }) (PySem.W.looks_clsIn X hc) ?_))))));rw [hd'];refine aQ (a:=some dx) (al (aQ (al ?_)));refine wpAny_nsSet1 (s:={ s with toks:=s.toks+1 }) I.ns fun h' hn2 hs2=>?_
 obtain ⟨oD,esD,epD,hoD,hdD,hcD⟩:=hn2.count (PySem.Within.cons name v hw);refine al (wpAny_lookBehind hoD (by rw [hdD];exact pastItsLine_dict (cn hcD (by rw [aD];lia))) ?_);exact aQ (h _ ⟨(hs2.2 _ (cO I.ne)).trans I.obj,hn2,I.ne⟩ hs2)
theorem make_map (X:K.In s.heap)(hm:PySem.W.makesIn K C=true)
  (hi:cf K (.ref C) "__init__" =some (some (.ref f))) (hf:PySem.W.typeIn K (.ref f)=some (.type "function"))
  (h:codeAny (bQ prog w) (A.under (.builtin "type.__call__" ⟨.ref C::vs,kw⟩)) (.call (.ref f) ⟨.ref (s.heap.objs.size+1)::vs,kw⟩) (PySem.W.InitBack (s.heap.objs.size+1) R)
   {s with heap:=(s.heap.push eM).push (gu C s.heap.objs.size) }) :
  codeAny (bQ prog w) A (.call (.ref C) ⟨vs,kw⟩) R s:=by
 obtain ⟨hh,g,d,t,os⟩:=s;exact PySem.W.make_core (PySem.W.makes_of X hm) (PySem.W.looks_findIn X hi) (fun self=>PySem.W.bind_fn X self hf) (.inl rfl) h
end
def putF (f:Str)(v:V):List (Str×V)→List (Str×V)
 | []=>[(f,v)]
 | (g,x)::r=>if g=f then (g,v)::r else (g,x)::putF f v r
theorem ou (f g:Str)(v:V):∀ fs:List (Str×V),(putF f v fs).lookup g=if g=f then some v else fs.lookup g
 | []=>by
  show fz g [(f,v)]=_
  by_cases h:g=f
  ·have hb:(g == f)=true:=beq_iff_eq.mpr h
   simp only [fz,hb,pE h]
  ·have hb:(g == f)=false:=beq_eq_false_iff_ne.mpr h
   simp only [fz,hb,pB h]
 | (k,x)::r=>by
  have ih:=ou f g v r;rw [show putF f v ((k,x)::r)=(if k=f then (k,v)::r else (k,x)::putF f v r) from rfl]
  by_cases hk:k=f
  ·rw [pE hk]
   by_cases h:g=k
   ·have hb:(g == k)=true:=beq_iff_eq.mpr h
    simp only [fz,hb,pE (h.trans hk)]
   ·have hb:(g == k)=false:=beq_eq_false_iff_ne.mpr h
    simp only [fz,hb,pB (fun e:g=f=>h (e.trans hk.symm))]
  ·rw [pB hk]
   by_cases h:g=k
   ·have hb:(g == k)=true:=beq_iff_eq.mpr h
    simp only [fz,hb,pB (fun e:g=f=>hk (h.symm.trans e))]
   ·have hb:(g == k)=false:=beq_eq_false_iff_ne.mpr h
    simp only [fz,hb];exact ih
theorem oz (f:Str)(v:V):∀ fs:List (Str×V),f∈(putF f v fs).map (·.1)∧∀ g,g∈fs.map (·.1)→g∈(putF f v fs).map (·.1)
 | []=>⟨by simp [putF],fun g h=>by simp at h⟩
 | (k,x)::r=>by
  obtain ⟨i1,i2⟩:=oz f v r;rw [show putF f v ((k,x)::r)=(if k=f then (k,v)::r else (k,x)::putF f v r) from rfl]
  by_cases hk:k=f
  ·rw [pE hk]
   subst hk;exact ⟨by simp,fun g h=>by simpa using h⟩
  ·rw [pB hk]
   refine ⟨?_,fun g h=>?_⟩
   ·rw [aT]
    exact aO _ i1
   ·rw [aT] at h ⊢
    rcases av.mp h with e | e
    ·exact av.mpr (.inl e)
    ·exact aO _ (i2 g e)
theorem ox (f:Str)(v:V):∀ fs:List (Str×V),(putF f v fs).length≤fs.length+1
 | []=>by simp [putF]
 | (k,x)::r=>by
  have ih:=ox f v r;rw [show putF f v ((k,x)::r)=(if k=f then (k,v)::r else (k,x)::putF f v r) from rfl]
  by_cases hk:k=f
  ·rw [pE hk,aD,aD];lia
  ·rw [pB hk,aD,aD];lia
theorem RelO.some_of {o:Option ag}(r:RelO (some v) o):∃ u,o=some u∧gU v u:=by
 cases o with
 | none=>exact (show False from r).elim
 | some u=>exact ⟨u,rfl,r⟩
theorem RelO.none_of {o:Option ag}(r:RelO none o):o=none:=by
 cases o with
 | none=>rfl
 | some u=>exact (show False from r).elim
theorem handed_of (r:gU v u):PySem.W.handedIn u=true:=by
 cases v with
 | non=>cases (show u=ag.none from r);rfl
 | bl b=>cases (show u=ag.bool b from r);rfl
 | int i=>obtain ⟨t,e⟩:=(show ∃ t,u=ag.int i t from r);cases e;rfl
 | str x=>obtain ⟨t,e⟩:=(show ∃ t,u=ag.str x t from r);cases e;rfl
 | byt b=>obtain ⟨t,e⟩:=(show ∃ t,u=ag.bytes b t from r);cases e;rfl
 | flt b=>obtain ⟨t,e⟩:=(show ∃ t,u=ag.float b t from r);cases e;rfl
 | ref a=>cases (show u=ag.ref a from r);rfl
 | ty n=>cases (show u=ag.type n from r);rfl
section
variable {fs fs':List (Str×V)}
theorem ins_get (hok:HOk P w H h)(e:H a=some (.ins C dx fs)):∃ mA,ObjM h a dx C mA∧(∀ f,RelO (fs.lookup f) (mA f))∧PySem.Within mA (fs.map (·.1))∧fs.length≤1000∧H dx=some (.own a):=by
 obtain ⟨d,z,ne,ob,mA,n,r,q⟩:=(show hW P w H h a (.ins C dx fs) from hok a _ e);exact ⟨mA,⟨ob,n,ne⟩,r,q,z,d⟩
end
structure Cls (K:ai)(C:ak):Prop where
 pg:ir K C ef=true
 hd:jb K C=true
 po:PySem.W.plainOver K C=true
 sa:cf K (.ref C) "__setattr__" =some (some (.builtin "object.__setattr__"))
theorem Cls.get (c:Cls K C)(f:Str):ir K C f=true:=c.pg
def kj (K:ai)(C:ak)(f:Str):Prop:=cf K (.ref C) f=some none
theorem kj.taker {f:Str}(n:kj K C f):PySem.W.takerIn K C f=some none:=by
 unfold PySem.W.takerIn;rw [show cf K (.ref C) f=some none from n];rfl
structure pA (K:ai)(C:ak)(m:Str)(f:ak):Prop where
 at_:cf K (.ref C) m=some (some (.ref f))
 fn:PySem.W.isFn K (.ref f)=true
 kp:eF K (.ref f)=true
section
variable {fs:List (Str×V)}{f:Str}
theorem getattr_ok {b:Bool}(I:Inv X aI σ H s)(e:H a=some (.ins C dx fs))(c:Cls X.K C)(n:kj X.K C f)(l:fs.lookup f=some v)
  (h:∀ u s',Inv X aI σ H s'→gU v u→Q u s'):bo (bQ X.prog X.w) A (getAttr (.ref a) f b) Q E s:=by
 obtain ⟨mA,O,r,_,_,_⟩:=ins_get I.hok e;obtain ⟨u,hu,ru⟩:=RelO.some_of (v:=v) (o:=mA f) (by rw [←l];exact r f);exact get_map I.kIn O (c.get f) c.hd n hu (handed_of ru) (h u _ (I.tok _) ru)
theorem pq {m:Str}{g:ak}{pl:Sem Bool}{Q:ag×List ag→ar→Prop}(I:Inv X aI σ H s)(e:H a=some (.ins C dx fs))(c:Cls X.K C)(k:pA X.K C m g)(l:fs.lookup m=none)
  (h:Q (.ref g,[.ref a]) s):bo (bQ X.prog X.w) A (getMethod (.ref a) m pl) Q E s:=by
 obtain ⟨mA,O,r,_,_,_⟩:=ins_get I.hok e;have hn:mA m=none:=RelO.none_of (by rw [←l];exact r m);exact get_meth I.kIn O (c.get m) k.at_ k.fn hn h
theorem setattr_ok {Q:Unit→ar→Prop}(I:Inv X aI σ H s)(e:H a=some (.ins C dx fs))(c:Cls X.K C)(n:kj X.K C f)(hl:fs.length<1000)(ry:gU y u)
  (h:∀ s',Inv X aI σ (upd H a (.ins C dx (putF f y fs))) s'→Q () s'):bo (bQ X.prog X.w) A (setAttr (.ref a) f u) Q E s:=by
 obtain ⟨mA,O,r,wi,_,ho⟩:=ins_get I.hok e;have hz:(fs.map (·.1)).length≤au:=by rw [ae,sizeLine_eq];lia
 refine set_map I.kIn O c.sa c.po n.taker c.hd wi hz fun h' O' sb=>h _ ?_
 have hd:∃ o,h'.get? dx=some o:=let ⟨o,_,_,e',_⟩:=O'.ns;⟨o,e'⟩;refine I.write (x:=a) (e:=dx) (by rw [e];exact True.intro) (.inr ho) (fun b q hb z=>(sb.2 b hb).trans z) hd ?_;refine ⟨by rw [aX O.ne];exact ho,?_,O.ne,O'.obj,_,O'.ns,fun g=>?_,fun g hg=>?_⟩
 ·have:=ox f y fs;lia
 ·show RelO ((putF f y fs).lookup g) (if g=f then some u else mA g)
  rw [ou]
  by_cases q:g=f
  ·rw [pE q,pE q];exact ry
  ·rw [pB q,pB q];exact r g
 ·by_cases q:g=f
  ·rw [q];exact (oz f y fs).1
  ·refine (oz f y fs).2 g (wi g fun z=>hg ?_)
   show (if g=f then some u else mA g)=none;rw [pB q];exact z
theorem Inv.made (I:Inv X aI σ H s):Inv X aI σ (upd (upd H s.heap.objs.size (.own (s.heap.objs.size+1))) (s.heap.objs.size+1) (.ins C s.heap.objs.size []))
  {s with heap:=(s.heap.push eM).push (gu C s.heap.objs.size) }:=by
 have e1:(s.heap.push eM).get? s.heap.objs.size=some eM:=aJ s.heap rfl;have e2:((s.heap.push eM).push (gu C s.heap.objs.size)).get? (s.heap.objs.size+1)=some (gu C s.heap.objs.size):=by
  have:=aJ (s.heap.push eM) (o:=gu C s.heap.objs.size) rfl
  rwa [dk] at this
 have e3:(s.heap.push eM).Ns s.heap.objs.size (fun _=>none):=⟨eM,#[],_,e1,rfl,(fun e he=>pF he (by simp)),fun _=>rfl⟩;have I1:=I.laid (a:=s.heap.objs.size) (o:= .own (s.heap.objs.size+1)) (h':=s.heap.push eM) (t':=s.toks) (fun b u q=>ao _ q) (az _) ⟨_,e1⟩;refine I1.laid (a:=s.heap.objs.size+1) (o:= .ins C s.heap.objs.size []) (t':=s.toks) (fun b u q=>ao _ q) (Nat.le_of_eq (dk _ _)) ?_;have ne:s.heap.objs.size≠s.heap.objs.size+1:=cg (Nat.lt_succ_self _);refine ⟨by rw [aX ne,aP],cz _,ne,e2,fun _=>none,(bX.Ns1.of_empty e3).at fun o q=>ao _ q,fun _=>True.intro,fun y hy=>pF rfl hy⟩
theorem attr_of {f:Str}(hb:iu e f env (dn e env)=dn e env)
  (h:bo (bQ prog w) A (dn e env) (fun o s₁=>bo (bQ prog w) A (getAttr o f true) Q E s₁) E s):bo (bQ prog w) A (dn (.Attribute e f pos) env) Q E s :=
 Attribute_any_ h (by rw [arm_eval_Attribute,hb])
end
def tFld (K:ai)(ta:TE)(f:Str):TE:=fun σ H Q=>ta σ H fun x H1=>∃ a C dx fs v,x= .ref a∧H1 a=some (.ins C dx fs)∧Cls K C∧kj K C f∧fs.lookup f=some v∧Q v H1
def sFld (K:ai)(ta tv:TE)(f:Str):TS:=fun D σ H=>tv σ H fun y H1=>ta σ H1 fun x H2=>∃ a C dx fs,x= .ref a∧H2 a=some (.ins C dx fs)∧Cls K C∧kj K C f∧fs.length<1000 ∧
 D.nx σ (upd H2 a (.ins C dx (putF f y fs)))
section
variable {o:Expr}{f:Str}{tpos:Pos}{tv:TE}
theorem eR (he:PE X e ta)(hb:iu e f X.env (dn e X.env)=dn e X.env):PE X (.Attribute e f pos) (tFld X.K ta f):=by
 intro aI s σ H Q I h;refine attr_of hb (thn (he aI s σ H _ I h) fun u s1 ⟨x,H1,I1,rx,a,C,dx,fs,v,ex,ea,c,n,l,q⟩=>?_);subst ex;obtain rfl:u=ag.ref a:=rx;exact getattr_ok I1 ea c n l fun u' s2 I2 ru=>⟨v,H1,I2,ru,q⟩
theorem mY (ha:PE X o ta)(hv:PE X value tv)(hs:swapsWith value (some (.Attribute o f pos')) pos.line X.env=gK false):PS X (.Assign [.Attribute o f pos'] value pos) (sFld X.K ta tv f):=by
 intro aI s σ H D I h;refine plainObj_wpAny_Assign_Attribute (thn (hv aI s σ H _ I h) fun u s1 ⟨y,H1,I1,ry,q⟩=>thn (ha aI s1 σ H1 _ I1 q) fun ov s2 ⟨x,H2,I2,rx,a,C,dx,fs,ex,ea,c,n,l,q2⟩=>?_) hs;subst ex;obtain rfl:ov=ag.ref a:=rx;exact setattr_ok I2 ea c n l ry fun s3 I3=>⟨σ,_,I3,q2⟩
end
section
variable {c:ag}{b:Bool}
inductive TyOf (K:ai)(H:Hp):V→ag→Prop where
 | non:TyOf K H .non (.type "NoneType")
 | bl (x:Bool):TyOf K H (.bl x) (.type "bool")
 | int (i:Int):TyOf K H (.int i) (.type "int")
 | str (x:Str):TyOf K H (.str x) (.type "str")
 | flt (x:UInt64):TyOf K H (.flt x) (.type "float")
 | lst {a:ak} {xs:List V} (e:H a=some (.lst xs)):TyOf K H (.ref a) (.type "list")
 | frz {a:ak} {o:Obj} {xs:List V} (e:H a=some (.frz o (.lst xs))):TyOf K H (.ref a) (.type "list")
 | tup {a:ak} {xs:List V} (e:H a=some (.tup xs)):TyOf K H (.ref a) (.type "tuple")
 | dK {a:ak} {kvs:List (Key×V)} (e:H a=some (.dK kvs)):TyOf K H (.ref a) (.type "dict")
 | dT {a:ak} {kvs:List (List Key×V)} (e:H a=some (.dT kvs)):TyOf K H (.ref a) (.type "dict")
 | ins {a C dx:ak} {fs:List (Str×V)} (e:H a=some (.ins C dx fs)) (cl:Cls K C) (ha:cf K (.ref C) "__class__" =some (some (.builtin "object.__class__")))
   (hn:PySem.W.specialIn K (.builtin "object.__class__") "__get__" =some (some (.builtin "getset_descriptor.__get__"))) (htk:PySem.W.takesIn K (.builtin "object.__class__")=some true)
   (hm:PySem.W.mroIn K C (.type "object")=some true):TyOf K H (.ref a) (.ref C)
theorem isinst_ok {x:V}{t:ag}(I:Inv X aI σ H s)(rx:gU x u)(ty:TyOf X.K H x t)(e:ja X.K t c=some b)(h:∀ tk,Q (.bool b) { s with toks:=tk }) :
  bo (bQ X.prog X.w) A (call (.builtin "isinstance") [u,c]) Q E s:=by
 cases ty with
 | non=>cases (show u=ag.none from rx);exact dD PySem.W.kitx_none I.kIn True.intro e (fun z=>nomatch z) h
 | bl y=>cases (show u=ag.bool y from rx);exact dD PySem.W.kitx_bool I.kIn True.intro e (fun z=>nomatch z) h
 | int i=>obtain ⟨t,q⟩:=(show ∃ t,u=ag.int i t from rx);cases q;exact dD PySem.W.kitx_int I.kIn True.intro e (fun z=>nomatch z) h
 | str y=>obtain ⟨t,q⟩:=(show ∃ t,u=ag.str y t from rx);cases q;exact dD PySem.W.kitx_str I.kIn True.intro e (fun z=>nomatch z) h
 | flt y=>obtain ⟨t,q⟩:=(show ∃ t,u=ag.float y t from rx);cases q;exact dD PySem.W.kitx_float I.kIn True.intro e (fun z=>nomatch z) h
 | @lst a xs ea =>
  cases (show u=ag.ref a from rx);obtain ⟨_,_,n,_,h1⟩:=(show hW X.prog X.w H s.heap a (.lst xs) from I.hok a _ ea);exact dD PySem.W.kitx_list I.kIn ⟨_,h1,rfl⟩ e (fun z=>nomatch z) h
 | @frz a ob xs ea =>
  cases (show u=ag.ref a from rx);obtain ⟨_,_,_,n,_,h1⟩:=(show hW X.prog X.w H s.heap a (.frz ob (.lst xs)) from I.hok a _ ea);exact dD PySem.W.kitx_list I.kIn ⟨_,h1,rfl⟩ e (fun z=>nomatch z) h
 | @tup a xs ea =>
  cases (show u=ag.ref a from rx);obtain ⟨_,_,_,p⟩:=(show hW X.prog X.w H s.heap a (.tup xs) from I.hok a _ ea);obtain ⟨o,h1,h2,_⟩:=p;exact dD PySem.W.kitx_tuple I.kIn ⟨o,h1,h2⟩ e (fun z=>nomatch z) h
 | @dK a kvs ea =>
  cases (show u=ag.ref a from rx);obtain ⟨_,_,vs,_,p⟩:=(show hW X.prog X.w H s.heap a (.dK kvs) from I.hok a _ ea);obtain ⟨o,es,ep,h1,h2,_⟩:=p;exact dD PySem.W.kitx_dict I.kIn ⟨o,h1,h2.1⟩ e (fun z=>nomatch z) h
 | @dT a kvs ea =>
  cases (show u=ag.ref a from rx);obtain ⟨_,_,xs,_,o,es,ep,h1,h2,_⟩:=(show hW X.prog X.w H s.heap a (.dT kvs) from I.hok a _ ea);exact dD PySem.W.kitx_dict I.kIn ⟨o,h1,h2.1⟩ e (fun z=>nomatch z) h
 | @ins a C dx fs ea cl ha hn htk hm =>
  cases (show u=ag.ref a from rx);obtain ⟨mA,O,_⟩:=ins_get I.hok ea;obtain ⟨od,J,_⟩:=O.look;exact dD (PySem.W.kitx_own (cl.get _) cl.hd ha hn htk hm) I.kIn J e (fun z=>nomatch z) h
end
structure jJ (k:Nat)(A:b9):Prop where
 hd:A.handled=none
 dp:A.depth+3 * k+5<recursionLimit
 un:A.units+16 * k+200<ji
theorem jJ.mono (r:jJ k A)(h:j≤k):jJ j A:=⟨r.hd,by have:=r.dp;lia,by have:=r.un;lia⟩
theorem jJ.deeper (r:jJ (k+1) A)(env:Env):jJ k (A.deeper env) :=
 ⟨r.hd,by have:=r.dp;show A.depth+1+3 * k+5<_;lia,by have:=r.un;show A.units+3+16 * k+200<_;lia⟩
theorem make_depth:(A.under (.builtin "type.__call__" ⟨.ref C::us,kw⟩)).depth=A.depth+1:=by
 first | rfl | simp [b9.under,Code.weight,Code.isCreation,Code.isGuard,Code.isCaller,Code.frames,Code.isFrame,guardIds]
theorem make_units:(A.under (.builtin "type.__call__" ⟨.ref C::us,kw⟩)).units=A.units+1:=by
 first | rfl | simp [b9.under,Code.cUnits,Code.frames,Code.isFrame]
theorem jJ.make (r:jJ (k+1) A)(C:ak)(us:List ag)(kw:List (Str×ag)):jJ k (A.under (.builtin "type.__call__" ⟨.ref C::us,kw⟩)) :=
 ⟨r.hd,by have:=r.dp;rw [make_depth];lia,by have:=r.un;rw [make_units];lia⟩
theorem jJ.depth (r:jJ k A):A.depth<recursionLimit:=by have:=r.dp;lia
theorem jJ.units (r:jJ k A):A.units+64<ji:=by have:=r.un;lia
theorem jJ.units0 (r:jJ k A):A.units<ji:=by have:=r.un;lia
def tNil:TA:=fun _ H Q=>Q [] H
def nU (ta:TE)(tr:TA):TA:=fun σ H Q=>ta σ H fun x H1=>tr σ H1 fun xs H2=>Q (x::xs) H2
section
variable {t:TA}
theorem aw:PA X [] tNil:=fun _ _ _ _ H Q I h=>Calls.spliced_nil ⟨[],H,I,.nil,h⟩
theorem af (ha:PE X e te)(hr:PA X es t)(hs:bw (e::es) X.env=(false,dn e X.env)::bw es X.env:=by rfl):PA X (e::es) (nU te t):=by
 intro pos aI s σ H Q I h;rw [hs];show bo _ _ (spliced ((false,dn e X.env)::gk pos (bw es X.env))) _ _ s;refine kB (thn (ha aI s σ H _ I h) fun u s1 ⟨x,H1,I1,r1,q1⟩=>?_);exact thn (hr pos aI s1 σ H1 _ I1 q1) fun us s2 ⟨xs,H2,I2,r2,q2⟩=>⟨x::xs,H2,I2,.cons r1 r2,q2⟩
def tTup (t:TA):TE:=fun σ H Q=>t σ H fun xs H1=>xs.length≤au∧∀ p,H1 p=none→Q (.ref p) (upd H1 p (.tup xs))
def tLst (t:TA):TE:=fun σ H Q=>t σ H fun xs H1=>xs.length≤au∧∀ p,H1 p=none→Q (.ref p) (upd H1 p (.lst xs))
theorem pe_tup {x1}(h:PA X es t):PE X (.Tuple es x1 pos) (tTup t):=by
 intro aI s σ H Q I hq;refine wpAny_Tuple_spliced (thn (h pos aI s σ H _ I hq) fun us s1 ⟨xs,H1,I1,r,z,q⟩=>⟨by rw [←r.length];exact z,?_⟩);have hf:H1 s1.heap.objs.size=none:=I1.hok.fresh (az _);refine ⟨.ref s1.heap.objs.size,upd H1 s1.heap.objs.size (.tup xs),I1.laid (t':=s1.toks) (fun b u e=>ao _ e) (az _) ?_,rfl,q _ hf⟩;exact ⟨z,us,r,⟨_,aJ _ rfl,rfl,rfl,_,rfl⟩⟩
theorem jK (h:PA X es t):PE X (.List es pos) (tLst t):=by
 intro aI s σ H Q I hq;refine wpAny_List_spliced (thn (h pos aI s σ H _ I hq) fun us s1 ⟨xs,H1,I1,r,z,q⟩=>⟨by rw [←r.length];exact z,?_⟩);have hf:H1 s1.heap.objs.size=none:=I1.hok.fresh (az _);refine ⟨.ref s1.heap.objs.size,upd H1 s1.heap.objs.size (.lst xs),I1.laid (t':=s1.toks) (fun b u e=>ao _ e) (az _) ?_,rfl,q _ hf⟩;exact ⟨z,us,0,r,aJ _ rfl⟩
end
abbrev Sp:=List V→Hp→VK→XK→Prop
abbrev CXT:=List Env→Hp→ar→XK→ag→ar→Prop
structure Env0 (P:aK)(w:br)(K:ai)(mg:Str→Option ag)(base:bX)(A:b9)(outer:List Env)(s:ar)(H:Hp):Prop where
 frames:A.frames=some outer
 mod:Mod K mg base
 bs:∀ b o,base.get? b=some o→s.heap.get? b=some o∧H b=none
 bsz:base.objs.size≤s.heap.objs.size
 funs:s.heap.FunFrames base outer
 frf:∀ b∈frs outer,H b=none
 hok:HOk P w H s.heap
 bare:AllBare s.gens
def CE (outer:List Env)(P:aK)(w:br)(H:Hp)(s:ar)(Q:VK)(u:ag)(s':ar):Prop :=
 ∃ v H',s'.os=s.os∧AllBare s'.gens∧Un (frs outer) [] H H' s.heap s'.heap∧HOk P w H' s'.heap∧gU v u∧Q v H'
def CR (CX:CXT)(outer:List Env)(P:aK)(w:br)(H:Hp)(s:ar)(Q:VK)(E:XK)(r:Result)(s':ar):Prop :=
 match r with
 | .ok (.ret u)=>CE outer P w H s Q u s'
 | .ok _=>False
 | .error e=>CX outer H s E e s'
structure c7 (P:aK)(w:br)(K:ai)(mg:Str→Option ag)(base:bX)(CX:CXT)(k:Nat)(f:ak)(fd:aZ)(ps:List Str)(sp:Sp):Prop where
 len:∀ vs H Q E,sp vs H Q E→vs.length=ps.length
 run:∀ (A:b9) (outer:List Env) (s:ar) (H:Hp) (args:Args) (us:List ag) (vs:List V) (Q:VK) (E:XK),jJ k A→Env0 P w K mg base A outer s H→BindsTo s fd args (ps.zip us)→gr vs us→sp vs H Q E →
  codeAny (bQ P w) A (.call (.ref f) args) (CR CX outer P w H s Q E) s
theorem Env0.make (e:Env0 P w K mg base A outer s H)(C:ak)(us:List ag)(kw:List (Str×ag)) :
  Env0 P w K mg base (A.under (.builtin "type.__call__" ⟨.ref C::us,kw⟩)) outer s H:=⟨by first | exact e.frames | (simpa [b9.under,Code.envs,Code.isFrame,pushEnvs] using e.frames),e.mod,e.bs,e.bsz,e.funs,e.frf,e.hok,e.bare⟩
theorem Inv.env0 (I:Inv X aI σ H s):Env0 X.prog X.w X.K X.mg X.base X.A X.stack s H :=
 ⟨I.ok.frames,I.ok.mod,I.bs,cn I.ok.bsz I.sz,I.stack,I.stkFree,I.hok,I.bare⟩
theorem Inv.after {Q:VK}(I:Inv X aI σ H s)(h:CE X.stack X.prog X.w H s Q u s'):EP X aI σ Q u s':=by
 obtain ⟨v,H',os,bare,un,hok,r,q⟩:=h;obtain ⟨hh,g,d,t,os'⟩:=s';obtain rfl:os'=s.os:=os;exact ⟨v,H',I.call (h':=hh) (g':=g) (d':=d) (t':=t) (ch:=[]) un hok bare (fun b z=>pF z (by simp)),r,q⟩
def tCall (sp:Sp)(dvs:List V)(E:XK)(t:TA):TE:=fun σ H Q=>t σ H fun vs H1=>sp (vs++dvs) H1 Q E
def tMeth (C:ak)(m:Str)(sp:Sp)(dvs:List V)(E:XK)(ta:TE)(t:TA):TE:=fun σ H Q=>ta σ H fun x H1=>∃ a dx fs,x= .ref a∧H1 a=some (.ins C dx fs)∧fs.lookup m=none ∧
 t σ H1 fun vs H2=>sp (x::(vs++dvs)) H2 Q E
def tMake (C:ak)(sp:Sp)(dvs:List V)(E:XK)(t:TA):TE:=fun σ H Q=>t σ H fun vs H1=>∀ x dx,H1 x=none→H1 dx=none→dx≠x →
 sp (.ref x::(vs++dvs)) (upd (upd H1 dx (.own x)) x (.ins C dx [])) (fun v H2=>v= .non∧Q (.ref x) H2) E
def Binds (K:ai)(fd:aZ)(ps:List Str)(ds:List ag):Prop :=
 ∀ (s:ar) (us:List ag),K.In s.heap→(us++ds).length=ps.length→BindsTo s fd ⟨us,[]⟩ (ps.zip (us++ds))
theorem Binds.all (h:∀ us:List ag,us.length=ps.length→bindArgs fd ⟨us,[]⟩=gK (ps.zip us)):Binds K fd ps []:=fun s us _ hl=>by
 rw [cG] at hl ⊢;exact .of_eq (h us hl)
def ng (CX:CXT)(X:Cx)(E:XK):Prop:=∀ (aI:List (ak×Obj)) (σ:St) (H:Hp) (s:ar) (e:ag) (s':ar),Inv X aI σ H s→CX X.stack H s E e s'→X.xe e s'
section
variable {CX:CXT}{sp:Sp}{dvs:List V}{ds:List ag}{E:XK}{m:Str}{p:Pos}{o:Expr}{t:TA}
theorem run_fn {Q:VK}{vs:List V}(F:c7 X.prog X.w X.K X.mg X.base CX k f fd ps sp)(hr:jJ k X.A)(hb:Binds X.K fd ps ds)(hd:gr dvs ds)(hx:ng CX X E)
  (I:Inv X aI σ H s) (r:gr vs us) (h:sp (vs++dvs) H Q E):bo (bQ X.prog X.w) X.A (call (.ref f) us) (EP X aI σ Q) X.xe s:=by
 have r2:gr (vs++dvs) (us++ds):=r.append hd;have hl:(us++ds).length=ps.length:=by rw [←r2.length];exact F.len _ _ _ _ h
 refine wpAny_call (codeAny_mono (F.run X.A X.stack s H ⟨us,[]⟩ (us++ds) (vs++dvs) Q E hr I.env0 (hb s us I.kIn hl) r2 h) fun r s' hq=>?_);cases r with
 | error e=>exact hx aI σ H s e s' I hq
 | ok fl =>
  cases fl with
  | ret u=>exact I.after hq
  | next=>exact gh hq
  | brk=>exact gh hq
  | cont=>exact gh hq
theorem pe_call (F:c7 X.prog X.w X.K X.mg X.base CX k f fd ps sp)(hr:jJ k X.A)(hg:Gl X x)(hm:X.mg x=some (.ref f))(hk:eF X.K (.ref f)=true)(hb:Binds X.K fd ps ds)(hd:gr dvs ds)(hx:ng CX X E)
  (ha:PA X (e::es) t) (hdb:(x == ("__debug__" :Str))=false:=by decide) (he:bw (e::es) X.env=(false,dn e X.env)::bw es X.env:=by rfl) (hpl:(gk pos (bw es X.env)).any (·.1)=false:=by rfl) :
  PE X (.Call (.Name x p) (e::es) [] pos) (tCall sp dvs E t):=by
 intro aI s σ H Q I h;refine jr (ld_glob I hg hm ?_ hdb);refine PySem.W.callWith_K (h₀:=X.base) I.ok.mod.kin hk (thn (ha pos aI s σ H _ I h) fun us s1 ⟨vs,H1,I1,r,q⟩=>⟨I1.kIn,?_⟩) he hpl;exact run_fn F hr hb hd hx I1 r q
theorem pe_call0 (F:c7 X.prog X.w X.K X.mg X.base CX k f fd ps sp)(hr:jJ k X.A)(hg:Gl X x)(hm:X.mg x=some (.ref f))(hk:eF X.K (.ref f)=true)(hb:Binds X.K fd ps ds)(hd:gr dvs ds)(hx:ng CX X E)
  (hdb:(x == ("__debug__" :Str))=false:=by decide):PE X (.Call (.Name x p) [] [] pos) (tCall sp dvs E tNil):=by
 intro aI s σ H Q I h;refine jr (ld_glob I hg hm ?_ hdb);exact PySem.W.callWith_K0 I.kIn hk (run_fn (us:=[]) F hr hb hd hx I .nil h)
theorem gF {pl:Sem Bool}(he:PE X o ta)(c:Cls X.K C)(hm:pA X.K C m f)(F:c7 X.prog X.w X.K X.mg X.base CX k f fd ps sp)(hr:jJ k X.A)(hb:Binds X.K fd ps ds)(hd:gr dvs ds)(hx:ng CX X E)(ha:PA X (e::es) t)
  (hst:bw (e::es) X.env=(false,dn e X.env)::bw es X.env:=by rfl) (hpl:(gk pos (bw es X.env)).any (·.1)=false:=by rfl)
  (ht:dn (.Call (.Attribute o m apos) (e::es) [] pos) X.env=(do
   let ov ← dn o X.env
   standAt apos.atName
   let (f,first) ← holding [ov] (getMethod ov m pl)
   callWith pos f first (gk pos (bw (e::es) X.env)) (backToKw pos (ku [] X.env))):=by rfl) :
  PE X (.Call (.Attribute o m apos) (e::es) [] pos) (tMeth C m sp dvs E ta t):=by
 intro aI s σ H Q I h;refine PySem.W.methodCall_KW (pl:=pl) (thn (he aI s σ H _ I h) fun u s1 ⟨x,H1,I1,rx,a,dx,fs,ex,ea,l,q⟩=>?_) ht;subst ex;obtain rfl:u=ag.ref a:=rx;refine pq I1 ea c hm l ?_;refine PySem.W.callWith_K (first:=[.ref a]) (h₀:=X.base) I.ok.mod.kin hm.kp (thn (ha pos aI s1 σ H1 _ I1 q) fun us s2 ⟨vs,H2,I2,r,q2⟩=>⟨I2.kIn,?_⟩) hst hpl;exact run_fn (us:= .ref a::us) (vs:= .ref a::vs) F hr hb hd hx I2 (.cons rfl r) q2
theorem iF {pl:Sem Bool}(he:PE X o ta)(c:Cls X.K C)(hm:pA X.K C m f)(F:c7 X.prog X.w X.K X.mg X.base CX k f fd ps sp)(hr:jJ k X.A)(hb:Binds X.K fd ps ds)(hd:gr dvs ds)(hx:ng CX X E)
  (ht:dn (.Call (.Attribute o m apos) [] [] pos) X.env=(do
   let ov ← dn o X.env
   standAt apos.atName
   let (f,first) ← holding [ov] (getMethod ov m pl)
   callWith pos f first (gk pos (bw [] X.env)) (backToKw pos (ku [] X.env))):=by rfl) :
  PE X (.Call (.Attribute o m apos) [] [] pos) (tMeth C m sp dvs E ta tNil):=by
 intro aI s σ H Q I h;refine PySem.W.methodCall_KW (pl:=pl) (thn (he aI s σ H _ I h) fun u s1 ⟨x,H1,I1,rx,a,dx,fs,ex,ea,l,q⟩=>?_) ht;subst ex;obtain rfl:u=ag.ref a:=rx;refine pq I1 ea c hm l ?_;exact PySem.W.callWith_K0 (first:=[.ref a]) I1.kIn hm.kp (run_fn (us:=[.ref a]) (vs:=[.ref a]) F hr hb hd hx I1 (.cons rfl .nil) q)
structure Mk (K:ai)(C f:ak):Prop where
 makes:PySem.W.makesIn K C=true
 init:cf K (.ref C) "__init__" =some (some (.ref f))
 fn:PySem.W.isFn K (.ref f)=true
 kp:eF K (.ref C)=true
theorem run_make {Q:VK}{vs:List V}(M:Mk X.K C f)(F:c7 X.prog X.w X.K X.mg X.base CX k f fd ps sp)(hr:jJ (k+1) X.A)(hb:Binds X.K fd ps ds)(hd:gr dvs ds)
  (hx:ng CX X E) (I:Inv X aI σ H s) (r:gr vs us)
  (h:∀ x dx,H x=none→H dx=none→dx≠x→sp (.ref x::(vs++dvs)) (upd (upd H dx (.own x)) x (.ins C dx [])) (fun v H2=>v= .non∧Q (.ref x) H2) E) :
  bo (bQ X.prog X.w) X.A (call (.ref C) us) (EP X aI σ Q) X.xe s:=by
 have hq:=h (s.heap.objs.size+1) s.heap.objs.size (I.hok.fresh (jZ _)) (I.hok.fresh (az _)) (cg (Nat.lt_succ_self _));have I2:=Inv.made (C:=C) I;have r2:gr (V.ref (s.heap.objs.size+1)::(vs++dvs)) (ag.ref (s.heap.objs.size+1)::(us++ds)):= .cons rfl (r.append hd);have hl:(ag.ref (s.heap.objs.size+1)::us++ds).length=ps.length:=by
  have e:=r2.length;rw [F.len _ _ _ _ hq] at e;exact e.symm
 refine wpAny_call (make_map (f:=f) I.kIn M.makes M.init (beq_iff_eq.mp M.fn) (codeAny_mono (F.run _ X.stack _ _ ⟨ag.ref (s.heap.objs.size+1)::us,[]⟩ (ag.ref (s.heap.objs.size+1)::(us++ds)) _ _ E (hr.make C us [])
  (I2.env0.make C us []) (hb _ (ag.ref (s.heap.objs.size+1)::us) I2.kIn hl) r2 hq) fun r s' hq'=>?_))
 cases r with
 | error e=>exact hx aI σ _ _ e s' I2 hq'
 | ok fl =>
  cases fl with
  | ret u =>
   obtain ⟨v,H',I3,rv,ev,q3⟩:=I2.after hq';subst ev;exact ⟨rv,⟨V.ref (s.heap.objs.size+1),H',I3,rfl,q3⟩⟩
  | next=>exact gh hq'
  | brk=>exact gh hq'
  | cont=>exact gh hq'
theorem pe_make (M:Mk X.K C f)(F:c7 X.prog X.w X.K X.mg X.base CX k f fd ps sp)(hr:jJ (k+1) X.A)(hg:Gl X x)(hm:X.mg x=some (.ref C))(hb:Binds X.K fd ps ds)(hd:gr dvs ds)(hx:ng CX X E)
  (ha:PA X (e::es) t) (hdb:(x == ("__debug__" :Str))=false:=by decide) (he:bw (e::es) X.env=(false,dn e X.env)::bw es X.env:=by rfl) (hpl:(gk pos (bw es X.env)).any (·.1)=false:=by rfl) :
  PE X (.Call (.Name x p) (e::es) [] pos) (tMake C sp dvs E t):=by
 intro aI s σ H Q I h;refine jr (ld_glob I hg hm ?_ hdb);refine PySem.W.callWith_K (h₀:=X.base) I.ok.mod.kin M.kp (thn (ha pos aI s σ H _ I h) fun us s1 ⟨vs,H1,I1,r,q⟩=>⟨I1.kIn,?_⟩) he hpl;exact run_make M F hr hb hd hx I1 r q
end
structure cp (N P:List Str)(sc:Scope):Prop where
 kind:sc.kind= .function
 co:sc.isCoroutine=false
 gen:sc.isGenerator=false
 nd:N.Nodup
 pre:N.take P.length=P
 par:∀ x∈P,sc.names.lookup x=some .local∨sc.names.lookup x=some .cell
 nofree:∀ y∈sc.names,y.2≠ .free
theorem bindL_out {kindOf:Str→Option c8}{x:Str}:∀ {binds:List (Str×ag)} {m:Str→Option ag},(∀ v,(x,v) ∉ binds)→bindL kindOf binds m x=m x
 | [],_,_=>rfl
 | (n,v)::r,m,h=>by
  unfold bindL;rw [bindL_out fun w hw=>h w (aO _ hw)];split
  ·have:x≠n:=by rintro rfl;exact h v bG
   simp [this]
  ·rfl
theorem bindC_out {kindOf:Str→Option c8}{x:Str}:∀ {binds:List (Str×ag)} {m:Str→Option ag},(∀ v,(x,v) ∉ binds)→bindC kindOf binds m x=m x
 | [],_,_=>rfl
 | (n,v)::r,m,h=>by
  unfold bindC;rw [bindC_out fun w hw=>h w (aO _ hw)];split
  ·rfl
  ·have:x≠n:=by rintro rfl;exact h v bG
   simp [this]
theorem bindL_get {kindOf:Str→Option c8}{x:Str}{v:ag}:∀ {P:List Str} {vs:List ag} {i:Nat} {m:Str→Option ag},P.Nodup→P[i]? =some x→vs[i]? =some v→kindOf x=some .local →
  bindL kindOf (P.zip vs) m x=some v
 | [],_,_,_,_,h,_,_=>by simp at h
 | _::_,[],_,_,_,_,h,_=>by simp at h
 | p::P,w::vs,0,m,nd,h1,h2,hk=>by
  simp at h1 h2;subst h1;subst h2;show bindL kindOf ((p,w)::P.zip vs) m p=_;unfold bindL;rw [bindL_out fun v hv=>(bH.mp nd).1 (List.of_mem_zip hv).1,pE hk];simp
 | p::P,w::vs,i+1,m,nd,h1,h2,hk=>by
  show bindL kindOf ((p,w)::P.zip vs) m x=_;unfold bindL;exact bindL_get (i:=i) (bH.mp nd).2 (by simpa using h1) (by simpa using h2) hk
theorem bindC_get {kindOf:Str→Option c8}{x:Str}{v:ag}:∀ {P:List Str} {vs:List ag} {i:Nat} {m:Str→Option ag},P.Nodup→P[i]? =some x→vs[i]? =some v→kindOf x≠some .local →
  bindC kindOf (P.zip vs) m x=some v
 | [],_,_,_,_,h,_,_=>by simp at h
 | _::_,[],_,_,_,_,h,_=>by simp at h
 | p::P,w::vs,0,m,nd,h1,h2,hk=>by
  simp at h1 h2;subst h1;subst h2;show bindC kindOf ((p,w)::P.zip vs) m p=_;unfold bindC;rw [bindC_out fun v hv=>(bH.mp nd).1 (List.of_mem_zip hv).1,pB hk];simp
 | p::P,w::vs,i+1,m,nd,h1,h2,hk=>by
  show bindC kindOf ((p,w)::P.zip vs) m x=_;unfold bindC;exact bindC_get (i:=i) (bH.mp nd).2 (by simpa using h1) (by simpa using h2) hk
def start (N:List Str)(vs:List V):St:=vs.map some++List.replicate (N.length - vs.length) none
def cxOf (CX:CXT)(P:aK)(w:br)(K:ai)(mg:Str→Option ag)(base:bX)(N:List Str)(qual:Str)(scope:Scope)(f:ak)(cd:ag)(A:b9)(outer:List Env)(s:ar)(H:Hp)(E:XK):Cx where
 prog:=P
 w:=w
 K:=K
 mg:=mg
 base:=base
 A:=A.deeper (envOfC qual scope s.heap.objs.size f cd)
 N:=N
 s₀:=s
 H₀:=H
 env:=envOfC qual scope s.heap.objs.size f cd
 outer:=outer
 stack:=envOfC qual scope s.heap.objs.size f cd::outer
 ex:=[]
 calm:=true
 fn:=fun _=>true
 pn:=[]
 xe:=fun e s'=>bo (bQ P w) (A.deeper (envOfC qual scope s.heap.objs.size f cd)) (leaving (envOfC qual scope s.heap.objs.size f cd) e) (fun _ s''=>CX outer H s E e s'') (fun e' s''=>CX outer H s E e' s'') s'
theorem cell_has {sc:Scope}(h:sc.names.lookup x=some .cell):∃ c,(cellsFrom n sc.names []).lookup x=some c:=by
 have q:=PySem.W.cellsFrom_some sc.names n [] (.inl h);exact Option.isSome_iff_exists.mp q
theorem inv_start {CX:CXT}{cd:ag}{s1:ar}{E:XK}{vs:List V}
  (S:cp N ps scope) (hd:A.handled=none) (e0:Env0 P w K mg base A outer s H) (hl:vs.length=ps.length) (r:gr vs us)
  (x:InCallC s s.heap.objs.size (bindL (envOfC qual scope s.heap.objs.size f cd).kindOf (ps.zip us) fun _=>none) (cellsFrom (s.heap.objs.size+1) scope.names []) (bindC (envOfC qual scope s.heap.objs.size f cd).kindOf (ps.zip us) fun _=>none) s1) :
  Inv (cxOf CX P w K mg base N qual scope f cd A outer s H E) [] (start N vs) H s1:=by
 have hpl:ps.length≤N.length:=by have:=pJ gc S.pre;rw [aU] at this;lia
 obtain ⟨h1,tk,rfl,hk⟩:=x.done;have noA:∀ b:ak,b ∉ (cxOf CX P w K mg base N qual scope f cd A outer s H E).ex:=fun b z=>pF (show b∈([]:List ak) from z) (by simp)
 refine ⟨⟨e0.mod,S.kind,rfl,rfl,az _,fun y z c h1 h2=>?_,fun y hy=>?_,fun y c _ h=>?_,fun _=>hd,b9.frames_deeper e0.frames,.inr ⟨rfl,rfl⟩,fun b z=>pF z (noA b),e0.bs,e0.bsz,fun b _ _=>noA b,fun b z=>pF z (noA b),e0.funs,e0.frf⟩,
  rfl,e0.bare,Un.kept hk,⟨_,x.toInCall.ns,fun i y v h1 h2 h3=>?_⟩,fun y c h=>⟨_,x.cell y c h⟩,e0.hok.fresh (az _),fun y c h=>?_,fun p hp=>pF (show p∈([]:List (ak×Obj)) from hp) (by simp),e0.hok.kept hk,?_⟩
 ·exact name_of_addr x.apart (eQ h1) (eQ h2)
 ·have hy:scope.names.lookup y=some .cell∨scope.names.lookup y=some .free:=hy
  rcases hy with hy | hy
  ·exact cell_has hy
  ·exact pF rfl (S.nofree _ (eQ hy))
 ·exact Nat.le_of_lt (x.above y c (eQ h))
 ·have hi:i<vs.length:=by
   unfold start at h2
   by_cases hi:i<vs.length
   ·exact hi
   ·rw [aN (by simpa using hi)] at h2
    rw [List.getElem?_replicate] at h2;split at h2 <;> cases h2
  have ha:vs[i]? =some v:=by
   unfold start at h2;rw [bJ (by simpa using hi),ax] at h2;cases e:vs[i]? with
   | none=>rw [e] at h2;cases h2
   | some a=>rw [e] at h2;cases h2;rfl
  obtain ⟨u,hu,rv⟩:=r.get ha;have hp:ps[i]? =some y:=by
   rw [←S.pre,dG (by lia)];exact h1
  have ndP:ps.Nodup:=by rw [←S.pre];exact S.nd.sublist (List.take_sublist _ _)
  refine ⟨u,rv,?_⟩
  rcases S.par y (ay hp) with k | k
  ·exact .inl ⟨k,bindL_get ndP hp hu k⟩
  ·obtain ⟨c,e⟩:=cell_has (n:=s.heap.objs.size+1) k
   refine .inr ⟨.inl k,c,e,?_⟩;have q:=x.cell y c e;rw [bindC_get ndP hp hu (by show scope.names.lookup y≠_;rw [k];decide)] at q;exact q
 ·exact e0.hok.fresh (Nat.le_of_lt (x.above y c (eQ h)))
 ·unfold start
  show _=N.length;rw [aj,ae,List.length_replicate];lia
theorem fn_of {CX:CXT}{params:Arguments}{dV kV doc pm cdv ct oc:ag}{an:Option ak}
  {sp:Sp} (lk:K.lookup f=some ⟨oc,od,.func (fk name qual params body scope dV kV doc pm an cdv ct),osl⟩) (hcd:jc K cdv qual=true) (S:cp N ps scope)
  (len:∀ vs H Q E,sp vs H Q E→vs.length=ps.length)
  (hbody:∀ (A:b9) (outer:List Env) (s:ar) (H:Hp) (vs:List V) (Q:VK) (E:XK),jJ k (A.deeper (envOfC qual scope s.heap.objs.size f cdv))→sp vs H Q E →
   ∃ t,PSs (cxOf CX P w K mg base N qual scope f cdv A outer s H E) body t∧t { nx:=fun _ H'=>Q .non H',rt:=Q } (start N vs) H) :
  c7 P w K mg base CX (k+1) f (fk name qual params body scope dV kV doc pm an cdv ct) ps sp:=by
 refine ⟨len,fun A outer s H args us vs Q E hr e0 hb r hsp=>?_⟩;have hl:=len _ _ _ _ hsp;have KX:K.In s.heap:=e0.mod.kin.keeps fun b o e=>(e0.bs b o e).1
 have lim:s.heap.NoLimit:=e0.mod.nolimit.keeps fun b o e=>(e0.bs b o e).1
 have mO:∀ y∈ps.zip us,scope.names.lookup y.1=some .local∨(scope.names.lookup y.1=some .cell∧((cellsFrom (s.heap.objs.size+1) scope.names []).lookup y.1).isSome=true):=fun ⟨n,v⟩ hy=>by
  rcases S.par n (List.of_mem_zip hy).1 with q | q
  ·exact .inl q
  ·exact .inr ⟨q,PySem.W.cellsFrom_some _ _ _ (.inl q)⟩
 refine codeAny_call_function hr.depth (KX _ _ lk) rfl S.co S.gen rfl (PySem.W.codeRec_of KX hcd) (hb _ _ _ _ ?_);refine wpAny_newFunctionEnv_cells S.kind mO fun env he s1 x=>?_
 subst he;refine ⟨lim.keeps x.toInCall.keep,codeAny_func ?_⟩;obtain ⟨t,ht,hq⟩:=hbody A outer s H vs Q E (hr.deeper _) hsp;have I:Inv (cxOf CX P w K mg base N qual scope f cdv A outer s H E) [] (start N vs) H s1:=inv_start S hr.hd e0 hl r x;refine eh (ht [] s1 (start N vs) H _ I hq) (fun fl s' hs=>?_) fun e s' hs=>hs
 have fin:∀ {σ':St} {H':Hp} {v:V} {u:ag},Inv (cxOf CX P w K mg base N qual scope f cdv A outer s H E) [] σ' H' s'→gU v u→Q v H'→CE outer P w H s Q u s' :=
  fun {σ' H' v u} J rv q=>⟨v,H',J.os,J.bare,J.base,J.hok,rv,q⟩
 cases fl with
 | ret u =>
  obtain ⟨v,σ',H',J,rv,q⟩:=hs;exact fin J rv q
 | next =>
  obtain ⟨σ',H',J,q⟩:=hs;exact fin (v:=V.non) (u:=ag.none) J rfl q
 | brk =>
  obtain ⟨_,_,_,q⟩:=hs;exact gh q
 | cont =>
  obtain ⟨_,_,_,q⟩:=hs;exact gh q
section
variable {p:Pos}{t:TA}{id:String}{r:List V→Hp→VK→Prop}
def tCB (r:List V→Hp→VK→Prop)(t:TA):TE:=fun σ H Q=>t σ H fun vs H1=>r vs H1 Q
theorem bU (hc:iK X (.builtin id) r)(hg:Gl X x)(hm:X.mg x=none)(hv:bootBuiltins x=some (.builtin id))(ha:PA X (e::es) t)(hn:x ≠ "__name__" := by decide)(hdb:(x == ("__debug__" :Str))=false:=by decide)
  (he:bw (e::es) X.env=(false,dn e X.env)::bw es X.env:=by rfl) (hpl:(gk pos (bw es X.env)).any (·.1)=false:=by rfl):PE X (.Call (.Name x p) (e::es) [] pos) (tCB r t):=by
 intro aI s σ H Q I h;refine jr (mm I hg hm hv ?_ hn hdb);exact PyProof.Rows.callWith_builtin1 (thn (ha pos aI s σ H _ I h) fun us s1 ⟨vs,H1,I1,r1,q1⟩=>hc aI s1 σ H1 vs us Q I1 r1 q1) he hpl
theorem eS (hc:iK X (.type T) r)(hg:Gl X x)(hm:X.mg x=none)(hv:bootBuiltins x=some (.type T))(ha:PA X (e::es) t)(hn:x ≠ "__name__" := by decide)(hdb:(x == ("__debug__" :Str))=false:=by decide)
  (he:bw (e::es) X.env=(false,dn e X.env)::bw es X.env:=by rfl) (hpl:(gk pos (bw es X.env)).any (·.1)=false:=by rfl):PE X (.Call (.Name x p) (e::es) [] pos) (tCB r t):=by
 intro aI s σ H Q I h;refine jr (mm I hg hm hv ?_ hn hdb);exact c9 (thn (ha pos aI s σ H _ I h) fun us s1 ⟨vs,H1,I1,r1,q1⟩=>hc aI s1 σ H1 vs us Q I1 r1 q1) he hpl
end
end L2
variable {CW:L2.St→L2.VK→L2.It→L2.Hp→Prop}{CX:L2.CXT}{g:L2.TG}{sp:L2.Sp}{wi:L2.TI}
namespace HT
open PySem PyProof.Rows
theorem cat_tup {t b:ak}{ws:List ag}(ht:IsTup s.heap t vs.toArray)(hb:IsTup s.heap b ws.toArray)(hv:vs≠[])
  (h1:ws=[]→Q (.ref t) s) (h2:ws≠[]→Q (.ref s.heap.objs.size) { s with heap:=s.heap.push { cls:= .type "tuple",data:= .seq (vs++ws).toArray } })
  (hsz:vs.length+ws.length≤au):bo (bQ prog w) A (gY .Add (.ref t) (.ref b)) Q E s:=by
 obtain ⟨⟨cls,dd,data,sl⟩,ho,hc,n,hd⟩:=id ht;obtain ⟨⟨cls2,dd2,data2,sl2⟩,ho2,hc2,n2,hd2⟩:=id hb;simp only at hc hd hc2 hd2;subst hc hd hc2 hd2;have e:vs.toArray++ws.toArray=(vs++ws).toArray:=by simp
 by_cases hw:ws=[]
 ·exact concat_meets ⟨_,ho,rfl⟩ ⟨_,ho2,rfl⟩ noFill_tuple_add seq_tuple_add PySem.F.slot_tuple_add kO (kH _ _)
   (tuple_addW1 t b vs.toArray ws.toArray n n2 dd dd2 sl sl2 (by simpa using hv) (by simp [hw])) ⟨ho,ho2,h1 hw⟩
 ·refine concat_meets ⟨_,ho,rfl⟩ ⟨_,ho2,rfl⟩ noFill_tuple_add seq_tuple_add PySem.F.slot_tuple_add kO (kH _ _)
   (tuple_addW2 t b vs.toArray ws.toArray n n2 dd dd2 sl sl2 (by simpa using hv) (by simpa using hw) (by rw [aA,aA];exact hsz)) ⟨ho,ho2,?_⟩
  rw [e];exact h2 hw
def sIx (n d:Nat):Option Int→Nat
 | none=>d
 | some v=>if v<0 then (v+(n:Int)).toNat else min v.toNat n
theorem sIx_nat (n d k:Nat):sIx n d (some (k:Int))=min k n:=by
 show (if (k:Int)<0 then ((k:Int)+(n:Int)).toNat else min (k:Int).toNat n)=min k n;rw [pB (by lia),eU]
theorem sIx_le (n d:Nat)(hd:d≤n)(o:Option Int):sIx n d o≤n:=by
 cases o with
 | none=>exact hd
 | some v =>
  show (if v<0 then (v+(n:Int)).toNat else min v.toNat n)≤n
  by_cases hv:v<0
  ·rw [pE hv];lia
  ·rw [pB hv];exact Nat.min_le_right _ _
theorem clip_eq (v:Int)(n d:Nat):(if v<0 then max (v+(n:Int)) 0 else min v (n:Int))=((sIx n d (some v):Nat):Int):=by
 show (if v<0 then max (v+(n:Int)) 0 else min v (n:Int))=(((if v<0 then (v+(n:Int)).toNat else min v.toNat n):Nat):Int)
 by_cases hv:v<0
 ·simp only [pE hv];lia
 ·simp only [pB hv];lia
theorem adjust_gen (lo hi:Option Int)(n:Nat):jS lo hi 1 (n:Int)=(((sIx n 0 lo:Nat):Int),((sIx n n hi:Nat):Int)):=by
 have h1:¬ ((1:Int)<0):=by lia
 unfold jS;simp only [h1,if_false];refine Prod.ext ?_ ?_
 ·cases lo with
  | none=>rfl
  | some v=>exact clip_eq v n 0
 ·cases hi with
  | none=>rfl
  | some v=>exact clip_eq v n n
theorem places_gen (i j:Nat):hE (i:Int) (j:Int) 1=j - i:=by
 unfold hE;have h1:(1:Int) > 0:=by lia
 simp only [h1,if_true,Int.ediv_one];split <;> lia
theorem oU {v:ag}{o:Option Int}{Q:Option Int→ar→Prop}(p:IsPart v o)(h:Q o s):bo (bQ prog w) A (fW.Slice.slicePartIndex v) Q E s:=by
 cases p with
 | none=>exact slicePart_none h
 | int i t=>exact slicePart_int h
theorem nj {sl:ak}{vl vu:ag}{lo hi:Option Int}{Q:Int×Int×Nat→ar→Prop}(hs:s.heap.IsSliceOf sl vl vu .none)(pl:IsPart vl lo)(pu:IsPart vu hi)
  (h:Q (((sIx n 0 lo:Nat):Int),1,sIx n n hi - sIx n 0 lo) s):bo (bQ prog w) A (fW.Slice.sliceApplied (.ref sl) (gK (n:Int))) Q E s:=by
 obtain ⟨os,hos,hcs,hds⟩:=id hs;unfold fW.Slice.sliceApplied fW.Slice.sliceFields;refine al (al (cQ hos hds (x:=vl) rfl (al (cQ hos hds (x:=vu) rfl (al (cQ hos hds (x:= .none) rfl (aQ ?_)))))));refine al (slicePart_none ?_);show bo _ _ (if ((1:Int) == 0)=true then _ else _) _ _ s;rw [pB (by decide)];refine al (oU pl (al (oU pu (al (aQ ?_)))));show bo _ _ (match jS lo hi 1 (n:Int) with | (lo,hi)=>gK (lo,(1:Int),hE lo hi 1)) _ _ s;rw [adjust_gen lo hi n];show bo _ _ (gK (((sIx n 0 lo:Nat):Int),(1:Int),hE ((sIx n 0 lo:Nat):Int) ((sIx n n hi:Nat):Int) 1)) _ _ s;rw [places_gen];exact aQ h
theorem pick_gen (xs:Array ag)(i k:Nat):((cq k).filterMap fun (m:Nat)=>xs[((i:Int)+(m:Int) * 1).toNat]?).toArray=((xs.toList.drop i).take k).toArray:=by
 have e:(fun (m:Nat)=>xs[((i:Int)+(m:Int) * 1).toNat]?)=fun m=>xs[i+m]? := by
  funext m
  have:((i:Int)+(m:Int) * 1).toNat=i+m:=by lia
  rw [this]
 rw [e];have:=pick_run xs i k;rw [List.filterMap_map] at this;have e2:((fun x=>xs[x]?) ∘ fun x=>i+x)=fun m=>xs[i+m]? := rfl
 rw [e2] at this;rw [this]
theorem getItem_tuple_cut {t sl:ak}{vl vu:ag}{lo hi:Option Int}(ht:IsTup s.heap t items)(hs:s.heap.IsSliceOf sl vl vu .none)(pl:IsPart vl lo)(pu:IsPart vu hi)
  (hw:¬ (sIx items.size 0 lo=0∧sIx items.size items.size hi=items.size))
  (h:Q (.ref s.heap.objs.size) { s with heap:=s.heap.push { cls:= .type "tuple",data:= .seq ((items.toList.drop (sIx items.size 0 lo)).take (sIx items.size items.size hi - sIx items.size 0 lo)).toArray } })
  (hsz:items.size≤au):bo (bQ prog w) A (getItem (.ref t) (.ref sl)) Q E s:=by
 have htake:sizeOk (.seq ((items.toList.drop (sIx items.size 0 lo)).take (sIx items.size items.size hi - sIx items.size 0 lo)).toArray):=by
  show ((items.toList.drop (sIx items.size 0 lo)).take (sIx items.size items.size hi - sIx items.size 0 lo)).toArray.size≤au;rw [aA,aU,bV,fK];lia
 have hj:sIx items.size items.size hi≤items.size:=sIx_le _ _ (az _) hi;obtain ⟨os,hos,hcs,hds⟩:=id hs;have hTs:s.TypeIs (.ref sl) "slice" := ⟨os,hos,hcs⟩;unfold getItem
 try with_reducible refine jf ?_
 first | refine al (aQ ?_) | skip
 refine al (wpAny_sequenceKey ht.typeIs (by decide) ?_);refine al (eO (name:=bF "__getitem__") ht.typeIs PyProof.Rows.slot_tuple_getitem
  (gX PyProof.Rows.slot_tuple_getitem ht.typeIs entry_tuple_getitem ?_ (args_tuple_getitem _ _)))
 show bo _ _ (fW.Tuple.tupleItemsOf (.ref t) >>= _) _ _ s;refine al (tupleItemsOf_ ht ?_);refine al (wpAny_typeOf hTs ?_);rw [pE (by decide)];refine al (nj hs pl pu ?_);have hno:¬ ((((sIx items.size 0 lo:Nat):Int) == 0 && (1:Int) == 1 && (sIx items.size items.size hi - sIx items.size 0 lo) == items.size)=true):=by
  intro q;rw [bY,bY] at q;have q1:((sIx items.size 0 lo:Nat):Int)=0:=eq_of_beq q.1.1;have q2:sIx items.size items.size hi - sIx items.size 0 lo=items.size:=eq_of_beq q.2;exact hw ⟨by lia,by lia⟩
 show bo _ _ (if (((sIx items.size 0 lo:Nat):Int) == 0 && (1:Int) == 1 && (sIx items.size items.size hi - sIx items.size 0 lo) == items.size)=true then _ else _) _ _ s;rw [pB hno,pick_gen]
 first
  | exact al (m:=ij _) (fV (aQ ⟨_,rfl,aQ h⟩) htake)
  | exact al (m:=ij _) (fV (al (aQ (aQ ⟨_,rfl,aQ h⟩))) htake)
  | exact al (al (m:=ij _) (fV (aQ (aQ ⟨_,rfl,aQ h⟩)) htake))
  | exact al (al (m:=ij _) (fV (aQ ⟨_,rfl,aQ h⟩) htake))
end HT
namespace L2
open PySem PySem.Spec PyProof.Rows
abbrev TO:=St→Hp→(Option Int→Hp→Prop)→Prop
def PO (X:Cx)(e:Option Expr)(t:TO):Prop :=
 ∀ (aI:List (ak×Obj)) (s:ar) (σ:St) (H:Hp) (Q:Option Int→Hp→Prop),Inv X aI σ H s→t σ H Q →
  bo (bQ X.prog X.w) X.A (evalPart e X.env) (fun u s'=>∃ o H',Inv X aI σ H' s'∧IsPart u o∧Q o H') X.xe s
def tNoPart:TO:=fun _ H Q=>Q none H
def tPart (t:TE):TO:=fun σ H Q=>t σ H fun x H1=>∃ i,x= .int i∧Q (some i) H1
section
variable {lo hi:Option Expr}{tl th:TO}
theorem gM:PO X none tNoPart:=by
 intro aI s σ H Q I h;rw [evalPart_none];exact aQ ⟨none,H,I,.none,h⟩
theorem fD (h:PE X e te):PO X (some e) (tPart te):=by
 intro aI s σ H Q I hw;rw [evalPart_some];refine thn (h aI s σ H _ I hw) fun u s1 ⟨x,H1,I1,r1,q1⟩=>?_
 obtain ⟨i,rfl,q⟩:=q1;obtain ⟨t,rfl⟩:=r1;exact ⟨some i,H1,I1,.int i t,q⟩
def SlR (X:Cx)(r:V→Option Int→Option Int→Hp→VK→Prop):Prop :=
 ∀ (aI:List (ak×Obj)) (s:ar) (σ:St) (H:Hp) (x:V) (v vl vu:ag) (lo hi:Option Int) (sl:ak) (Q:VK),Inv X aI σ H s→gU x v→s.heap.IsSliceOf sl vl vu .none→IsPart vl lo→IsPart vu hi→r x lo hi H Q →
  ∃ T id,typeLookup (.type T) "__getitem__" =gK (some (.builtin id))∧s.TypeIs v T∧bo (bQ X.prog X.w) X.A (getItem v (.ref sl)) (EP X aI σ Q) X.xe s
def tSl (r:V→Option Int→Option Int→Hp→VK→Prop)(te:TE)(tl th:TO):TE:=fun σ H Q=>te σ H fun x H1=>tl σ H1 fun l H2=>th σ H2 fun u H3=>r x l u H3 Q
theorem eZ {r:V→Option Int→Option Int→Hp→VK→Prop}(hr:SlR X r)(he:PE X e te)(hl:PO X lo tl)(hu:PO X hi th):PE X (.Subscript e (.Slice lo hi none p2) pos) (tSl r te tl th):=by
 intro aI s σ H Q I h;refine Subscript_ (thn (he aI s σ H _ I h) fun v s1 ⟨x,H1,I1,r1,q1⟩=>?_);refine wpAny_Slice (thn (hl aI s1 σ H1 _ I1 q1) fun vl s2 ⟨l,H2,I2,pl,q2⟩=>thn (hu aI s2 σ H2 _ I2 q2) fun vu s3 ⟨u,H3,I3,pu,q3⟩=>?_);rw [evalPart_none];refine aQ ?_;have I4:Inv X aI σ H3 { s3 with heap:=s3.heap.push { cls:= .type "slice",data:= .fields #[vl,vu,.none] } }:=I3.kept (t':=s3.toks) fun b ob q=>ao _ q
 obtain ⟨T,id,hT,ht,hg⟩:=hr aI { s3 with heap:=s3.heap.push { cls:= .type "slice",data:= .fields #[vl,vu,.none] } } σ H3 x v vl vu l u s3.heap.objs.size Q I4 r1 (bX.IsSliceOf.new ..) pl pu q3;show bo (bQ X.prog X.w) X.A (subscriptTail e (.Slice lo hi none p2) v (.ref s3.heap.objs.size)) (EP X aI σ Q) X.xe { s3 with heap:=s3.heap.push { cls:= .type "slice",data:= .fields #[vl,vu,.none] } };exact tail_any (ops:=[.ref s3.heap.objs.size,v]) ht hT hg (by with_unfolding_all rfl)
def pw (xs:List V)(lo hi:Option Int):List V:=(xs.drop (HT.sIx xs.length 0 lo)).take (HT.sIx xs.length xs.length hi - HT.sIx xs.length 0 lo)
theorem oM (xs:List V)(lo hi:Option Int):(pw xs lo hi).length≤xs.length:=by
 unfold pw;rw [aU,bV];lia
def rSlT (K:ai):V→Option Int→Option Int→Hp→VK→Prop:=fun x lo hi H Q=>∃ a xs,x= .ref a∧SqT K H a xs ∧
 ¬ (HT.sIx xs.length 0 lo=0∧HT.sIx xs.length xs.length hi=xs.length)∧∀ p,H p=none→Q (.ref p) (upd H p (.tup (pw xs lo hi)))
theorem sl_tup:SlR X (rSlT X.K):=by
 intro aI s σ H x v vl vu lo hi sl Q I rx hs pl pu h;obtain ⟨a,xs,rfl,hx,hw,q⟩:=h;cases rx;obtain ⟨its,r,ht,hz⟩:=I.tuple hx;have hlen:its.toArray.size=xs.length:=by rw [aA];exact r.length.symm
 refine ⟨"tuple",_,PyProof.Rows.slot_tuple_getitem.lookup,ht.typeIs,?_⟩;refine HT.getItem_tuple_cut ht hs pl pu (by rw [hlen];exact hw) ?_ (by rw [hlen];exact hz);rw [hlen];refine ⟨.ref s.heap.objs.size,_,I.laid (t':=s.toks) (o:= .tup (pw xs lo hi)) (fun b ob q=>ao _ q) (az _) ?_,rfl,q _ (I.hok.fresh (az _))⟩;exact ⟨cn (oM xs lo hi) hz,_,(r.drop (HT.sIx xs.length 0 lo)).take (HT.sIx xs.length xs.length hi - HT.sIx xs.length 0 lo),k8.new _ _⟩
inductive rCatT (K:ai)(x:V)(y:V)(H:Hp)(Q:VK):Prop
 | mk (a b xs ys:_)(_:x= .ref a)(_:y= .ref b)(_:SqT K H a xs)(_:SqT K H b ys)(_:xs≠[])(_:xs.length+ys.length≤au)(_:(ys=[]→Q (.ref a) H))(_:(ys≠[]→∀ p,H p=none→Q (.ref p) (upd H p (.tup (xs++ys)))))
theorem gr.nil_iff (r:gr xs us):us=[]↔xs=[]:=by
 cases r with
 | nil=>simp
 | cons _ _=>simp
theorem op_catT:OpR X (gY .Add) (rCatT X.K):=by
 intro aI s σ H x y v u Q I rx ry h;obtain ⟨a,b,xs,ys,rfl,rfl,ha,hb,hx,hz,q1,q2⟩:=h;cases rx;cases ry;obtain ⟨its,r1,p1,_⟩:=I.tuple ha;obtain ⟨its2,r2,p2,_⟩:=I.tuple hb;refine HT.cat_tup p1 p2 (fun z=>hx (r1.nil_iff.mp z)) (fun z=>⟨.ref a,H,I,rfl,q1 (r2.nil_iff.mp z)⟩) (fun z=>?_) (by rw [←r1.length,←r2.length];exact hz);refine ⟨.ref s.heap.objs.size,_,I.laid (t':=s.toks) (o:= .tup (xs++ys)) (fun b ob q=>ao _ q) (az _) ?_,rfl,q2 (fun w=>z (r2.nil_iff.mpr w)) _ (I.hok.fresh (az _))⟩;exact ⟨by rw [aj];exact hz,_,r1.append r2,k8.new _ _⟩
end
def ixN (n:Nat)(i:Int):Option Nat:=if 0≤i then (if i<n then some i.toNat else none) else if -(n:Int)≤i then some (i+n).toNat else none
def atI {α:Type}(xs:List α)(i:Int):Option α:=(ixN xs.length i).bind fun j=>xs[j]?
theorem ixN_seq {i:Int}(h:ixN n i=some j):seqIndex? i n=some j∧j<n∧ -(n:Int)≤i∧i<n:=by
 unfold ixN at h
 by_cases h0:0≤i
 ·rw [pE h0] at h
  by_cases h1:i<n
  ·rw [pE h1] at h
   have e:i.toNat=j:=bu h;exact ⟨by rw [seqIndex_of h0 h1,e],by lia,by lia,h1⟩
  ·rw [pB h1] at h;cases h
 ·rw [pB h0] at h
  by_cases h1: -(n:Int)≤i
  ·rw [pE h1] at h
   have e:(i+n).toNat=j:=bu h;exact ⟨by rw [seqIndex_neg (by lia) h1,e],by lia,h1,by lia⟩
  ·rw [pB h1] at h;cases h
theorem atI_get {xs:List α}{i:Int}{v:α}(h:atI xs i=some v):∃ j,seqIndex? i xs.length=some j∧xs[j]? =some v∧j<xs.length∧ -(xs.length:Int)≤i∧i<xs.length:=by
 unfold atI at h;cases e:ixN xs.length i with
 | none=>rw [e] at h;cases h
 | some j =>
  rw [e] at h;obtain ⟨h1,h2,h3,h4⟩:=ixN_seq e;exact ⟨j,h1,h,h2,h3,h4⟩
theorem aE {xs:List α}{v:α}(h:xs[j]? =some v):atI xs (j:Int)=some v:=by
 have hj:j<xs.length:=(ah.mp h).1;have e:ixN xs.length (j:Int)=some j:=by
  unfold ixN;rw [pE (by lia),pE (by lia)];simp
 unfold atI;rw [e];exact h
def PlainIx (b:Expr):Prop:=∀ o i,subscripted b false o i=operate [o,i] (getItem o i)
def IxR (X:Cx)(r:R2):Prop :=
 ∀ (value slice:Expr) (aI:List (ak×Obj)) (s:ar) (σ:St) (H:Hp) (x y:V) (v u:ag) (Q:VK),Inv X aI σ H s→gU x v→gU y u→r x y H Q →
  subscripted slice false v u=operate [v,u] (getItem v u)→bo (bQ X.prog X.w) X.A (subscriptTail value slice v u) (EP X aI σ Q) X.xe s
def MtR (X:Cx)(id:String)(r:V→List V→Hp→VK→Prop):Prop :=
 ∀ (aI:List (ak×Obj)) (s:ar) (σ:St) (H:Hp) (x:V) (xs:List V) (v:ag) (us:List ag) (Q:VK),Inv X aI σ H s→gU x v→gr xs us→r x xs H Q →
  bo (bQ X.prog X.w) X.A (call (.builtin id) (v::us)) (EP X aI σ Q) X.xe s
section
variable {a b:Expr}{tb:TE}
theorem cH {r:R2}(hr:IxR X r)(ha:PE X a ta)(hb:PE X b tb)(hs:PlainIx b):PE X (.Subscript a b pos) (tOp r ta tb):=by
 intro aI s σ H Q I h;exact Subscript_ (binT ha hb I h fun v u s2 x y H2 I2 rx ry q=>hr a b aI s2 σ H2 x y v u Q I2 rx ry q (hs _ _))
inductive rIxL (K:ai)(x:V)(y:V)(H:Hp)(Q:VK):Prop
 | mk (p xs i v:_)(_:x= .ref p)(_:y= .int i)(_:SqL K H p xs)(_:atI xs i=some v)(_:Q v H)
inductive rIxT (K:ai)(x:V)(y:V)(H:Hp)(Q:VK):Prop
 | mk (p xs i v:_)(_:x= .ref p)(_:y= .int i)(_:SqT K H p xs)(_:atI xs i=some v)(_:Q v H)
inductive rIxS (x:V)(y:V)(H:Hp)(Q:VK):Prop
 | mk (z i c:_)(_:x= .str z)(_:y= .int i)(_:z.length≤au)(_:atI z.cps.toList i=some c)(_:Q (.str ⟨#[c]⟩) H)
theorem aY:IxR X (rIxL X.K):=by
 intro value slice aI s σ H x y v u Q I rx ry h hs;obtain ⟨p,xs,i,z,rfl,rfl,hq,he,q⟩:=h;cases rx;obtain ⟨t,rfl⟩:=ry;obtain ⟨its,r,pl,hz⟩:=I.list hq;obtain ⟨j,h1,h2,h3,h4,h5⟩:=atI_get he;obtain ⟨w,ew,rw'⟩:=r.get h2;have hl:=r.length;have hn:=ph;have fin:EP X aI σ Q w s:=⟨z,H,I,rw',q⟩
 by_cases h0:0≤i
 ·have hj:i.toNat=j:=by
   rw [seqIndex_of h0 h5] at h1;exact bu h1
  exact item_listR pl.isList h0 (by lia) (by rw [hj];simpa using ew) fin hs
 ·have hj:(i+(its.toArray.size:Int)).toNat=j:=by
   rw [seqIndex_neg (by lia) h4] at h1;rw [aA,←hl];exact bu h1
  exact subscriptTail_builtinR (x:=w) pl.isList.typeIs lg.lookup
   (wpAny_getItem_list_neg (Q:=fun r s'=>r=w∧EP X aI σ Q r s') pl.isList (by lia) (by rw [aA] <;> lia) (by lia) (by rw [hj];simpa using ew) ⟨rfl,fin⟩) hs
theorem ix_tup:IxR X (rIxT X.K):=by
 intro value slice aI s σ H x y v u Q I rx ry h hs;obtain ⟨p,xs,i,z,rfl,rfl,hq,he,q⟩:=h;cases rx;obtain ⟨t,rfl⟩:=ry;obtain ⟨its,r,pl,hz⟩:=I.tuple hq;obtain ⟨j,h1,h2,h3,h4,h5⟩:=atI_get he;obtain ⟨w,ew,rw'⟩:=r.get h2;have hl:=r.length;have hn:=ph;have fin:EP X aI σ Q w s:=⟨z,H,I,rw',q⟩;exact subscriptTail_builtinR (x:=w) pl.typeIs slot_tuple_getitem.lookup
  (getItem_tuple (j:=j) (Q:=fun r s'=>r=w∧EP X aI σ Q r s') pl (by lia) (by lia) (by rw [aA,←hl];exact h1) (by simpa using ew) ⟨rfl,fin⟩) hs
theorem ix_str:IxR X rIxS:=by
 intro value slice aI s σ H x y v u Q I rx ry h hs;obtain ⟨z,i,c,rfl,rfl,hz,he,q⟩:=h;obtain ⟨t,rfl⟩:=rx;obtain ⟨t',rfl⟩:=ry;obtain ⟨j,h1,h2,h3,h4,h5⟩:=atI_get he;have hl:z.cps.toList.length=z.length:=by simp [Str.length]
 rw [hl] at h1 h4 h5;have hn:=ph;exact tail_any (typeIs_str s z t) slot_str_getitem.lookup (getItem_str (c:=c) (by
  have e1:decide (i< -(2 ^ 63:Int))=false:=pH (by lia);have e2:decide (i ≥ 2 ^ 63)=false:=pH (by lia);rw [e1,e2,Bool.or_false]) (by rw [h1];simpa using h2) ⟨.str ⟨#[c]⟩,H,I.tok _,⟨_,rfl⟩,q⟩) hs
theorem mapSeq_set (its:List ag)(n j:Nat)(u:ag):Obj.mapSeq (·.setIfInBounds j u) { cls:= .type "list",data:= .seq its.toArray n }={ cls:= .type "list",data:= .seq (its.set j u).toArray n }:=by
 simp [Obj.mapSeq]
theorem Inv.lst {aI:List (ak×Obj)}{σ:St}{H:Hp}{s:ar}{p:ak}{xs:List V}(I:Inv X aI σ H s)(h:H p=some (.lst xs)) :
  ∃ (its:List ag) (n:Nat),gr xs its∧s.heap.get? p=some { cls:= .type "list",data:= .seq its.toArray n }∧xs.length≤au:=by
 obtain ⟨z,its,n,r,e⟩:=I.hok p _ h;exact ⟨its,n,r,e,z⟩
theorem Inv.lstUpd {ys:List V}{its':List ag}{n':Nat}{f:Obj→Obj}(I:Inv X aI σ H s)(h:H p=some (.lst xs))
  (ho:s.heap.get? p=some { cls:= .type "list",data:= .seq its.toArray n }) (hf:f { cls:= .type "list",data:= .seq its.toArray n }={ cls:= .type "list",data:= .seq its'.toArray n' }) (r:gr ys its') (hz:ys.length≤au) (t:Nat) :
  Inv X aI σ (upd H p (.lst ys)) { s with heap:=s.heap.update p f,toks:=t }:=by
 have e:(s.heap.update p f).get? p=some { cls:= .type "list",data:= .seq its'.toArray n' }:=by
  rw [bX.get?_update_self f ho (by rw [hf] <;> rfl),hf]
 refine I.write (x:=p) (e:=p) (by rw [h];trivial) (.inl rfl) (fun b u hb q=>(bX.get?_update_other _ _ (cO hb)).trans q) ⟨_,e⟩ ?_;exact ⟨hz,its',n',r,e⟩
def rSetL:V→V→V→Hp→(Hp→Prop)→Prop:=fun o i v H Q=>∃ p xs k j,o= .ref p∧i= .int k∧H p=some (.lst xs)∧ixN xs.length k=some j∧Q (upd H p (.lst (xs.set j v)))
theorem set_list:PSet X rSetL:=by
 intro aI s σ H o i v ov iv u Q I ro ri rv h;obtain ⟨p,xs,k,j,rfl,rfl,hp,hj,q⟩:=h;cases ro;obtain ⟨t,rfl⟩:=ri;obtain ⟨its,n,r,ho,hz⟩:=I.lst hp;obtain ⟨h1,h2,h3,h4⟩:=ixN_seq hj;have hl:=r.length;have hn:=ph;have I':Inv X aI σ (upd H p (.lst (xs.set j v))) { s with heap:=s.heap.update p (Obj.mapSeq (·.setIfInBounds j u)) } :=
  I.lstUpd hp ho (mapSeq_set its n j u) (r.set rv j) (by rw [iY];exact hz) s.toks
 by_cases h0:0≤k
 ·have hk:k.toNat=j:=by
   rw [seqIndex_of h0 h4] at h1;exact bu h1
  exact PySem.W.ki_setAt ho h0 (by lia) (by rw [aA,←hl];exact h4) (by rw [hk];exact ⟨_,I',q⟩)
 ·have hk:(k+(its.toArray.size:Int)).toNat=j:=by
   rw [seqIndex_neg (by lia) h3] at h1;rw [aA,←hl];exact bu h1
  exact PySem.W.ki_setBack ho (by lia) (by rw [aA,←hl];exact h3) (by lia) (by rw [hk];exact ⟨_,I',q⟩)
theorem slice_bounds (lo hi:Option Int)(n:Nat):(iN lo hi none n).1=((HT.sIx n 0 lo:Nat):Int)∧(iN lo hi none n).2.1=((HT.sIx n n hi:Nat):Int)∧(iN lo hi none n).2.2=1:=by
 refine ⟨?_,?_,rfl⟩
 ·cases lo with
  | none=>simp [iN,HT.sIx]
  | some i =>
   simp only [iN,HT.sIx,Option.getD_none,show (1:Int) > 0 by decide,if_true]
   by_cases h:i<0
   ·simp only [h,if_true] <;> lia
   ·simp only [h,if_false] <;> lia
 ·cases hi with
  | none=>simp [iN,HT.sIx]
  | some i =>
   simp only [iN,HT.sIx,Option.getD_none,show (1:Int) > 0 by decide,if_true]
   by_cases h:i<0
   ·simp only [h,if_true] <;> lia
   ·simp only [h,if_false] <;> lia
theorem slicePick_cut (its:List ag)(lo hi:Option Int):slicePick its.toArray lo hi none=((its.drop (HT.sIx its.length 0 lo)).take (HT.sIx its.length its.length hi - HT.sIx its.length 0 lo)).toArray:=by
 obtain ⟨h1,h2,h3⟩:=slice_bounds lo hi its.toArray.size;unfold slicePick;rw [h1,h2,h3];simp only [sliceRange_one,pick_run,aA] <;> rfl
def rSlL (K:ai):V→Option Int→Option Int→Hp→VK→Prop:=fun x lo hi H Q=>∃ a xs,x= .ref a∧SqL K H a xs∧∀ p,H p=none→Q (.ref p) (upd H p (.lst (pw xs lo hi)))
theorem sl_list:SlR X (rSlL X.K):=by
 intro aI s σ H x v vl vu lo hi sl Q I rx hs pl pu h;obtain ⟨a,xs,rfl,hx,q⟩:=h;cases rx;obtain ⟨its,r,ht,hz⟩:=I.list hx;have hlen:=r.length;refine ⟨"list",_,lg.lookup,ht.isList.typeIs,?_⟩;refine lF ht.isList hs pl pu .none (by simp) ?_ (by rw [aA] <;> lia);rw [slicePick_cut,←hlen];refine ⟨.ref s.heap.objs.size,_,I.laid (t':=s.toks) (o:= .lst (pw xs lo hi)) (fun b ob q=>ao _ q) (az _) ?_,rfl,q _ (I.hok.fresh (az _))⟩;exact ⟨cn (oM xs lo hi) hz,_,0,(r.drop (HT.sIx xs.length 0 lo)).take (HT.sIx xs.length xs.length hi - HT.sIx xs.length 0 lo),aJ _ rfl⟩
def mS:V→Bool
 | .non=>true
 | .bl _=>true
 | .int _=>true
 | .str _=>true
 | _=>false
def eqV:V→V→Bool
 | .non,.non=>true
 | .bl a,.bl b=>a == b
 | .bl a,.int b=>(if a then 1 else 0) == b
 | .int a,.bl b=>a == (if b then 1 else 0)
 | .int a,.int b=>a == b
 | .str a,.str b=>a == b
 | _,_=>false
theorem jA {x:V}{v:ag}(ry:gU y u)(rx:gU x v)(fy:mS y=true)(fx:mS x=true):bP A s u v (eqV y x):=by
 cases y with
 | non =>
  cases ry;cases x with
  | non=>cases rx;exact bP.same _
  | bl b=>cases rx;exact bP.none_bool b
  | int b=>obtain ⟨t,rfl⟩:=rx;exact bP.none_int b t
  | str b=>obtain ⟨t,rfl⟩:=rx;exact bP.none_str b t
  | _=>exact pF (show false=true from fx) bz
 | bl a =>
  cases ry;cases x with
  | non=>cases rx;exact bP.bool_none a
  | bl b=>cases rx;exact bP.bool_bool a b
  | int b=>obtain ⟨t,rfl⟩:=rx;exact bP.bool_int a b t
  | str b=>obtain ⟨t,rfl⟩:=rx;exact bP.bool_str a b t
  | _=>exact pF (show false=true from fx) bz
 | int a =>
  obtain ⟨t',rfl⟩:=ry;cases x with
  | non=>cases rx;exact bP.int_none a t'
  | bl b=>cases rx;exact bP.int_bool a t' b
  | int b=>obtain ⟨t,rfl⟩:=rx;exact bP.int_int a t' b t
  | str b=>obtain ⟨t,rfl⟩:=rx;exact bP.int_str a t' b t
  | _=>exact pF (show false=true from fx) bz
 | str a =>
  obtain ⟨t',rfl⟩:=ry;cases x with
  | non=>cases rx;exact bP.str_none a t'
  | bl b=>cases rx;exact bP.str_bool a t' b
  | int b=>obtain ⟨t,rfl⟩:=rx;exact bP.str_int a t' b t
  | str b=>obtain ⟨t,rfl⟩:=rx;exact bP.str_str a t' b t
  | _=>exact pF (show false=true from fx) bz
 | _=>exact pF (show false=true from fy) bz
def eqU (x:V)(u:ag):Bool:=match u with
 | .none=>eqV .non x
 | .bool b=>eqV (.bl b) x
 | .int i _=>eqV (.int i) x
 | .str z _=>eqV (.str z) x
 | _=>false
theorem eqU_of {x:V}(r:gU y u)(f:mS y=true):eqU x u=eqV y x:=by
 cases y with
 | non=>cases r;rfl
 | bl b=>cases r;rfl
 | int i=>obtain ⟨t,rfl⟩:=r;rfl
 | str z=>obtain ⟨t,rfl⟩:=r;rfl
 | _=>exact pF (show false=true from f) bz
theorem oP {x:V}:∀ {xs:List V} {us:List ag},gr xs us→xs.all mS=true→us.any (eqU x)=xs.any fun y=>eqV y x
 | _,_,.nil,_=>rfl
 | y::xs,u::us,.cons r t,f=>by
  rw [List.all_cons,bY] at f;rw [hZ,hZ,eqU_of r f.1,oP t f.2]
theorem me {A:b9}{s:ar}{x:V}{v:ag}(rx:gU x v)(fx:mS x=true):∀ {xs:List V} {us:List ag},gr xs us→xs.all mS=true→∀ u∈us,bP A s u v (eqU x u)
 | _,_,.nil,_=>fun u hu=>by cases hu
 | y::xs,u::us,.cons r t,f=>fun u' hu=>by
  rw [List.all_cons,bY] at f
  rcases av.mp hu with rfl | hu
  ·rw [eqU_of r f.1];exact jA r rx f.1 fx
  ·exact me rx fx t f.2 u' hu
def inV (x:V)(xs:List V):Bool:=xs.any fun y=>eqV y x
inductive rIn (K:ai)(neg:Bool)(x:V)(y:V)(H:Hp)(Q:VK):Prop
 | mk (p xs:_)(_:y= .ref p)(_:(SqL K H p xs∨SqT K H p xs))(_:mS x=true)(_:xs.all mS=true)(_:Q (.bl (if neg then !inV x xs else inV x xs)) H)
theorem kX:OpR X (dj .In) (rIn X.K false):=by
 intro aI s σ H x y v u Q I rx ry h;obtain ⟨p,xs,rfl,hq,fx,fs,q⟩:=h;cases ry
 rcases hq with hq | hq
 ·obtain ⟨its,r,pl,hz⟩:=I.list hq
  refine SeqAt.in_listAt (eqU x) pl.isList (fun w hw=>me rx fx r fs w (by simpa using hw)) ⟨.bl _,H,I,rfl,?_⟩;rw [show its.toArray.any (eqU x)=its.any (eqU x) by simp,oP r fs];exact q
 ·obtain ⟨its,r,pl,hz⟩:=I.tuple hq
  refine SeqAt.in_tupleAt (eqU x) pl (fun w hw=>me rx fx r fs w (by simpa using hw)) ⟨.bl _,H,I,rfl,?_⟩;rw [show its.toArray.any (eqU x)=its.any (eqU x) by simp,oP r fs];exact q
theorem op_notIn_seq:OpR X (dj .NotIn) (rIn X.K true):=by
 intro aI s σ H x y v u Q I rx ry h;obtain ⟨p,xs,rfl,hq,fx,fs,q⟩:=h;cases ry
 rcases hq with hq | hq
 ·obtain ⟨its,r,pl,hz⟩:=I.list hq
  refine SeqAt.notIn_listAt (eqU x) pl.isList (fun w hw=>me rx fx r fs w (by simpa using hw)) ⟨.bl _,H,I,rfl,?_⟩;rw [show its.toArray.any (eqU x)=its.any (eqU x) by simp,oP r fs];exact q
 ·obtain ⟨its,r,pl,hz⟩:=I.tuple hq
  refine SeqAt.notIn_tupleAt (eqU x) pl (fun w hw=>me rx fx r fs w (by simpa using hw)) ⟨.bl _,H,I,rfl,?_⟩;rw [show its.toArray.any (eqU x)=its.any (eqU x) by simp,oP r fs];exact q
theorem bM:iK X (.builtin "len") (fun xs H Q=>∃ p ys,xs=[.ref p]∧(SqL X.K H p ys∨SqT X.K H p ys)∧Q (.int ys.length) H):=by
 intro aI s σ H xs us Q I r h;obtain ⟨p,ys,rfl,hq,q⟩:=h;obtain ⟨u,rfl,rx⟩:=lG r;cases rx;have hn:=ph
 rcases hq with hq | hq
 ·obtain ⟨its,r',pl,hz⟩:=I.list hq
  have hlen:=r'.length;exact Calls.call_len_list pl.isList (by simp only [aA] <;> lia) ⟨.int ys.length,H,I.tok _,⟨s.toks+1,by rw [aA,hlen]⟩,q⟩
 ·obtain ⟨its,r',pl,hz⟩:=I.tuple hq
  have hlen:=r'.length;exact len_tuple pl (by simp only [aA] <;> lia) ⟨.int ys.length,H,I.tok _,⟨s.toks+1,by rw [aA,hlen]⟩,q⟩
theorem jC:iK X (.builtin "len") (fun xs H Q=>∃ z,xs=[.str z]∧z.length≤au∧Q (.int z.length) H):=by
 intro aI s σ H xs us Q I r h;obtain ⟨z,rfl,hz,q⟩:=h;obtain ⟨u,rfl,t,rfl⟩:=lG r;have hn:=ph;exact len_str (by lia) ⟨.int z.length,H,I.tok _,⟨_,rfl⟩,q⟩
theorem nc:iK X (.type "list") (fun xs H Q=>∃ p ys,xs=[.ref p]∧(SqL X.K H p ys∨SqT X.K H p ys)∧∀ l,H l=none→Q (.ref l) (upd H l (.lst ys))):=by
 intro aI s σ H xs us Q I r h;obtain ⟨p,ys,rfl,hq,q⟩:=h;obtain ⟨u,rfl,rx⟩:=lG r;cases rx;have fin:∀ (its:List ag),gr ys its→ys.length≤au→∀ (h':bX) (c':Nat),(∀ b o',s.heap.get? b=some o'→h'.get? b=some o') →
   h'.get? s.heap.objs.size=some { cls:= .type "list",dict:=none,data:= .seq its.toArray c',slots:= #[] }→EP X aI σ Q (.ref s.heap.objs.size) { s with heap:=h' }:=fun its r' hz h' c' kp e =>
  ⟨.ref s.heap.objs.size,_,I.laid (t':=s.toks) kp (az _) (show hW X.prog X.w _ h' _ (.lst ys) from ⟨hz,its,c',r',e⟩),rfl,q _ (I.hok.fresh (az _))⟩
 rcases hq with hq | hq
 ·obtain ⟨its,r',pl,hz⟩:=I.list hq
  have hlen:=r'.length;obtain ⟨o,ho,hc,n,hd⟩:=pl.isList;exact call_list_seq p (.inl rfl) ho hc hd (fun h' c' kp e=>fin its r' hz h' c' kp e) (by simp only [aA] <;> lia)
 ·obtain ⟨its,r',pl,hz⟩:=I.tuple hq
  have hlen:=r'.length;obtain ⟨o,ho,hc,n,hd⟩:=pl;exact call_list_seq p (.inr rfl) ho hc hd (fun h' c' kp e=>fin its r' hz h' c' kp e) (by simp only [aA] <;> lia)
theorem call_tuple_of:iK X (.type "tuple") (fun xs H Q=>∃ p ys,xs=[.ref p]∧((SqL X.K H p ys∧∀ l,H l=none→Q (.ref l) (upd H l (.tup ys)))∨(SqT X.K H p ys∧Q (.ref p) H))):=by
 intro aI s σ H xs us Q I r h;obtain ⟨p,ys,rfl,h⟩:=h;obtain ⟨u,rfl,rx⟩:=lG r;cases rx
 rcases h with ⟨hq,q⟩ | ⟨hq,q⟩
 ·obtain ⟨its,r',pl,hz⟩:=I.list hq
  have hlen:=r'.length;refine call_tuple_list pl.isList (fun h' kp=>?_) (by simp only [aA] <;> lia);have I1:Inv X aI σ H { s with heap:=h' }:=I.kept (t':=s.toks) kp;have I2:Inv X aI σ (upd H h'.objs.size (.tup ys)) { s with heap:=h'.push { cls:= .type "tuple",data:= .seq its.toArray } } :=
   I1.laid (t':=s.toks) (fun b o e=>ao _ e) (az _) (show hW X.prog X.w _ _ _ (.tup ys) from ⟨hz,its,r',k8.new _ _⟩)
  exact ⟨.ref h'.objs.size,_,I2,rfl,q _ (I1.hok.fresh (az _))⟩
 ·obtain ⟨its,r',pl,hz⟩:=I.tuple hq
  exact call_tuple_same pl ⟨.ref p,H,I,rfl,q⟩
def tyV (K:ai)(T:String)(x:V)(H:Hp):Prop:=match x with
 | .str _=>T = "str"
 | .int _=>T = "int"
 | .ref p=>(T = "list" ∧∃ xs,SqL K H p xs)∨(T = "tuple" ∧∃ o,K.lookup p=some o∧o.cls= .type "tuple" ∧o.dict=none) ∨
   (T = "dict" ∧((∃ kvs,H p=some (.dK kvs))∨∃ kvs,H p=some (.dT kvs)))∨(T = "set" ∧∃ S n,H p=some (.set S n))
 | _=>False
theorem tyV_is {x:V}{v:ag}(I:Inv X aI σ H s)(r:gU x v)(ty:tyV X.K T x H) :
  s.TypeIs v T∧∀ a,v= .ref a→∃ ob,s.heap.get? a=some ob∧ob.dict=none:=by
 cases x with
 | str z =>
  obtain ⟨t,rfl⟩:=r;cases (show T = "str" from ty);exact ⟨typeIs_str s z t,fun _ e=>nomatch e⟩
 | int i =>
  obtain ⟨t,rfl⟩:=r;cases (show T = "int" from ty);exact ⟨typeIs_int s i t,fun _ e=>nomatch e⟩
 | ref p =>
  cases r
  rcases ty with ⟨rfl,xs,hq⟩ | ⟨rfl,o,hk,hc,hd⟩ | ⟨rfl,hk⟩ | ⟨rfl,S,n,hk⟩
  ·obtain ⟨its,_,pl,_⟩:=I.list hq
   refine ⟨pl.isList.typeIs,fun a e=>?_⟩;cases e;obtain ⟨o,n,e,c,hd,_⟩:=pl;exact ⟨o,e,hd⟩
  ·refine ⟨⟨o,I.kIn p o hk,hc⟩,fun a e=>?_⟩
   cases e;exact ⟨o,I.kIn _ o hk,hd⟩
  ·have z:∃ o,s.heap.get? p=some o∧o.ExactDict:=by
    rcases hk with ⟨kvs,hk⟩ | ⟨kvs,hk⟩
    ·obtain ⟨_,_,_,_,o,_,_,e,ex,_⟩:=I.hok p _ hk
     exact ⟨o,e,ex⟩
    ·obtain ⟨_,_,_,_,o,_,_,e,ex,_⟩:=I.hok p _ hk
     exact ⟨o,e,ex⟩
   obtain ⟨o,e,ex⟩:=z;refine ⟨⟨o,e,ex.1⟩,fun a e2=>?_⟩;cases e2;exact ⟨o,e,ex.2.1⟩
  ·obtain ⟨o,_,_,_,e,ex,_⟩:=I.hok p _ hk
   refine ⟨⟨o,e,ex.1⟩,fun a e2=>?_⟩;cases e2;exact ⟨o,e,ex.2.1⟩
 | _=>exact gh ty
def tBM (K:ai)(T:String)(r:V→List V→Hp→VK→Prop)(to:TE)(t:TA):TE:=fun σ H Q=>to σ H fun x H1=>tyV K T x H1∧t σ H1 fun xs H2=>r x xs H2 Q
variable {o:Expr}{t:TA}{id:String}{r:V→List V→Hp→VK→Prop}
theorem i9 (pa:PlainAttrs T)(slot:Slot T name id)(hty:typeOf (.builtin id)=gK (.type "method_descriptor"))(hm:MtR X id r)(ho:PE X o to)(ha:PA X (e::es) t)
  (hbase:iu o name X.env (dn o X.env)=dn o X.env:=by rfl)
  (hfew:((gk cpos (bw (e::es) X.env)).all (fun x=> !x.1) && (backToKw cpos (ku [] X.env)).all (fun x=>x.1.isSome)
   && decide ((e::es).length+([]:List Keyword).length+(if ([]:List Keyword).isEmpty then 0 else 1)<30))=true:=by rfl)
  (hline:(apos.endLine == cpos.line)=true:=by rfl) (hs:bw (e::es) X.env=(false,dn e X.env)::bw es X.env:=by rfl) (hplain:(gk cpos (bw es X.env)).any (·.1)=false:=by rfl) :
  PE X (.Call (.Attribute o name apos) (e::es) [] cpos) (tBM X.K T r to t):=by
 intro aI s σ H Q I h;refine wpAny_Call_method_late hbase hfew hline rfl (thn (ho aI s σ H _ I h) fun v s1 ⟨x,H1,I1,r1,ty,q1⟩=>?_);obtain ⟨h1,h2⟩:=tyV_is I1 r1 ty;refine ⟨T,id,pa,slot,hty,h1,h2,?_⟩;have hA:=ha cpos aI s1 σ H1 _ I1 q1;rw [hs] at hA ⊢;refine gQ (by show (false || (gk cpos (bw es X.env)).any (·.1))=false;rw [hplain] <;> rfl) (jR ?_);exact thn hA fun us s2 ⟨vs,H2,I2,r2,q2⟩=>hm aI s2 σ H2 x vs v us Q I2 r1 r2 q2
end
def MtM (X:Cx)(id:String)(r:V→List V→Hp→VK→Prop):Prop :=
 ∀ (aI:List (ak×Obj)) (s:ar) (σ:St) (H:Hp) (x:V) (xs:List V) (v:ag) (us:List ag) (Q:VK),Inv X aI σ H s→gU x v→gr xs us→r x xs H Q →
  bo (bQ X.prog X.w) X.A (call (.builtin id) (v::us)) (EP X aI σ Q) X.xe s
theorem gr.one:∀ {x:V} {us:List ag},gr [x] us→∃ u,us=[u]∧gU x u
 | _,_,.cons r .nil=>⟨_,rfl,r⟩
theorem gr.eraseIdx:∀ {xs:List V} {us:List ag} (i:Nat),gr xs us→gr (xs.eraseIdx i) (us.eraseIdx i)
 | _,_,_,.nil=> .nil
 | _,_,0,.cons _ t=>t
 | _,_,i+1,.cons r t=> .cons r (gr.eraseIdx i t)
theorem len_erase {α:Type}:∀ (l:List α) (i:Nat),(l.eraseIdx i).length≤l.length
 | [],_=>az _
 | _::_,0=>jZ _
 | _::r,i+1=>Nat.succ_le_succ (len_erase r i)
section
variable {l b:ak}{ys zs:List V}
theorem Inv.lset {its':List ag}{f:Array ag→Array ag}(I:Inv X aI σ H s)(hH:H l=some (.lst xs))
  (e:s.heap.get? l=some { cls:= .type "list",data:= .seq its.toArray n }) (hf:f its.toArray=its'.toArray) (hv:gr ys its') (hz:ys.length≤au) :
  Inv X aI σ (upd H l (.lst ys)) { s with heap:=s.heap.update l (Obj.mapSeq f),toks:=t' }:=by
 have q:=PySem.IsL.update e f;rw [hf] at q;refine I.write (x:=l) (e:=l) (by rw [hH];exact trivial) (.inl rfl) (fun b' u hb hu=>(bX.get?_update_other s.heap (Obj.mapSeq f) (cO hb)).trans hu) ⟨_,q⟩ ?_;exact ⟨hz,its',_,hv,q⟩
theorem Inv.lnew (I:Inv X aI σ H s)(hv:gr ys its)(hz:ys.length≤au) :
  Inv X aI σ (upd H s.heap.objs.size (.lst ys)) { s with heap:=s.heap.push { cls:= .type "list",data:= .seq its.toArray },toks:=t' } :=
 I.laid (fun _ _ q=>ao _ q) (az _) ⟨hz,its,0,hv,aJ _ rfl⟩
theorem Inv.fresh (I:Inv X aI σ H s):H s.heap.objs.size=none:=I.hok.fresh (az _)
theorem Inv.lstM (I:Inv X aI σ H s)(hH:H l=some (.lst xs)):xs.length≤au∧∃ (its:List ag) (n:Nat),gr xs its∧xs.length=its.length∧s.heap.get? l=some { cls:= .type "list",data:= .seq its.toArray n }:=by
 obtain ⟨z,its,n,r,e⟩:=I.hok l _ hH;exact ⟨z,its,n,r,r.length,e⟩
theorem notLongL (h:n≤au):j4 n=false:=by
 unfold j4;exact pH (by lia)
end
inductive rAppend (x:V)(vs:List V)(H:Hp)(Q:VK):Prop
 | mk (l xs y:_)(_:x= .ref l)(_:vs=[y])(_:H l=some (.lst xs))(_:xs.length<au)(_:Q .non (upd H l (.lst (xs++[y]))))
theorem fj:MtM X "list.append" rAppend:=by
 intro aI s σ H x vs v us Q I rx rv h;obtain ⟨l,xs,y,rfl,rfl,hH,hz,q⟩:=h;cases rx;obtain ⟨u,rfl,ru⟩:=rv.one;obtain ⟨z,its,n,r,hl,e⟩:=I.lstM hH;refine j8 F.slot_list_append ⟨_,e,rfl⟩ F.entry_list_append (F.args_list_append_2 _ _) (PySem.list_append l its.toArray n u (by rw [aA];lia)) ⟨e,?_⟩;refine ⟨.non,_,I.lset (its':=its++[u]) hH e (by simp) (r.append (.cons ru .nil)) ?_,rfl,q⟩;rw [aj,List.length_singleton];lia
inductive rExtend (x:V)(vs:List V)(H:Hp)(Q:VK):Prop
 | mk (l b xs zs:_)(_:x= .ref l)(_:vs=[.ref b])(_:H l=some (.lst xs))(_:H b=some (.lst zs))(_:xs.length+zs.length≤au)(_:Q .non (upd H l (.lst (xs++zs))))
theorem mt_extend:MtM X "list.extend" rExtend:=by
 intro aI s σ H x vs v us Q I rx rv h;obtain ⟨l,b,xs,zs,rfl,rfl,hH,hB,hz,q⟩:=h;cases rx;obtain ⟨u,rfl,ru⟩:=rv.one;cases ru;obtain ⟨z,its,n,r,hl,e⟩:=I.lstM hH;obtain ⟨z2,its2,n2,r2,hl2,e2⟩:=I.lstM hB;have hsz:its.toArray.size+its2.toArray.size≤au:=by rw [aA,aA];lia
 have hlong:¬ (!its.toArray.isEmpty && j4 (its.toArray.size+its2.toArray.size))=true:=by
  rw [notLongL hsz,Bool.and_false];exact bz
 refine j8 F.slot_list_extend ⟨_,e,rfl⟩ F.entry_list_extend (F.args_list_extend_2 _ _)
  (AutoSeq1.list_extend_list_list_0 l its.toArray n b its2.toArray n2 hlong (by rw [aA];lia) (by lia)) ⟨e,e2,?_⟩
 refine ⟨.non,_,I.lset (its':=its++its2) hH e (by simp) (r.append r2) ?_,rfl,q⟩;rw [aj];lia
inductive rPopAt (x:V)(vs:List V)(H:Hp)(Q:VK):Prop
 | mk (l xs i k y:_)(_:x= .ref l)(_:vs=[.int i])(_:H l=some (.lst xs))(_: -(2 ^ 63)≤i)(_:i<2 ^ 63)(_:seqIndex? i xs.length=some k)(_:xs[k]? =some y)(_:Q y (upd H l (.lst (xs.eraseIdx k))))
theorem mt_popAt:MtM X "list.pop" rPopAt:=by
 intro aI s σ H x vs v us Q I rx rv h;obtain ⟨l,xs,i,k,y,rfl,rfl,hH,h1,h2,hk,hy,q⟩:=h;cases rx;obtain ⟨u,rfl,ru⟩:=rv.one;obtain ⟨t,rfl⟩:=ru;obtain ⟨z,its,n,r,hl,e⟩:=I.lstM hH;obtain ⟨w,hw,rw'⟩:=r.get hy;refine j8 F.slot_list_pop ⟨_,e,rfl⟩ F.entry_list_pop (F.args_list_pop_2 _ _)
  (MeetsSeq.list_pop_at l its.toArray n i t k w (fitsIndex_both h1 h2) (by rw [aA,←hl];exact hk) (by rw [←jG];exact hw) (by rw [aA];lia)) ⟨e,?_⟩
 refine ⟨y,_,I.lset (its':=its.eraseIdx k) hH e ?_ (r.eraseIdx k) ?_,rw',q⟩
 ·show its.toArray.eraseIdxIfInBounds k=(its.eraseIdx k).toArray
  rw [List.eraseIdxIfInBounds_toArray]
 ·have:=len_erase xs k
  lia
inductive rCat (x:V)(y:V)(H:Hp)(Q:VK):Prop
 | mk (l b xs zs:_)(_:x= .ref l)(_:y= .ref b)(_:H l=some (.lst xs))(_:H b=some (.lst zs))(_:xs.length+zs.length≤au)(_:∀ p,H p=none→Q (.ref p) (upd H p (.lst (xs++zs))))
theorem op_cat:OpR X (gY .Add) rCat:=by
 intro aI s σ H x y v u Q I rx ry h;obtain ⟨l,b,xs,zs,rfl,rfl,hH,hB,hz,q⟩:=h;cases rx;cases ry;obtain ⟨z,its,n,r,hl,e⟩:=I.lstM hH;obtain ⟨z2,its2,n2,r2,hl2,e2⟩:=I.lstM hB;refine PySem.P.add_list e e2 ?_ (by rw [aA,aA];lia);have ea:its.toArray++its2.toArray=(its++its2).toArray:=by simp
 rw [ea];exact ⟨.ref _,_,I.lnew (t':=s.toks) (r.append r2) (by rw [aj];lia),rfl,q _ I.fresh⟩
end L2
namespace Att
open PySem PySem.W PySem.Calls PyProof.Rows
theorem oB {P:Params}:∀ (ns:List Int) (vs:List ag),WellAll P h vs (ns.map WData.int)→IntsAre vs ns:=by
 intro ns
 induction ns with
 | nil =>
  intro vs w;rw [List.map_nil] at w;cases w;exact .nil
 | cons n ns ih =>
  intro vs w;rw [aT] at w;cases w with
  | cons a b =>
   cases a;exact .cons _ _ (ih _ b)
theorem script_of {l:OpenLaw}(hn:l.most=some n){P:Params}{args:List WData}{vals:List ag}
  (hpre:l.row.toRowW.claim.pre args=true) (hwl:WellAll P h vals args) :
  ∃ a vs ns,vals=[ag.ref a]∧args=[WData.list (ns.map WData.int)]∧h.get? a=some { cls:= .type "list",data:= .seq vs.toArray }∧IntsAre vs ns∧ns.length≤n:=by
 have hsh:WShape.hasAll [] args [.list .int]=true:=(pre_splitW hpre).1;have hc:l.pre.holds [] { args:=args }=true:=(pre_splitW hpre).2;obtain ⟨d,r,rfl,h1,h2⟩:=hasAllW_cons hsh;obtain rfl:=hasAllW_nil h2;obtain ⟨xs,rfl,h3⟩:=hasW_list h1;obtain ⟨ns,rfl⟩:=items_int h3;have hlen:ns.length≤n:=by
  unfold OpenLaw.pre at hc;have h4:(WTm.not (.lt (.lit (.int (n:Int))) (.len (.arg 0)))).holds [] { args:=[.list (ns.map .int)] }=true:=by
   have h4:=(holds_andW hc).1;rw [hn] at h4;exact h4
  have h5:=condW_of h4 (w_not (w_lt w_lit (w_len_list (w_arg rfl))));rw [ae] at h5;refine Nat.le_of_not_lt fun q=>?_
  have q':(n:Int)<((ns.length:Nat):Int):=by lia
  first
   | (rw [pG q'] at h5;exact pF h5 (by decide))
   | (simp at h5;lia)
 cases hwl with
 | cons w1 w2 =>
  cases w2;cases w1 with
  | list ho hall=>exact ⟨_,_,ns,rfl,rfl,ho,oB ns _ hall,hlen⟩
theorem post_true (l:OpenLaw)(args:List WData):l.row.toRowW.claim.post args (.bool true) args=true :=
 postW_of (r:=l.row.toRowW) (X:=(true == true))
  (show WShape.has [] (.bool true) .bool=true by first | rfl | decide | simp [WShape.has,WShape.arms,WShape.armsAll])
  (show (WTm.eq .res (.lit (.bool true))).value [] { args:=args,res:=some (.bool true),after:=args }=some (.bool (true == true)) from w_eq_bool (w_res rfl) w_lit) rfl
theorem attach_call {l:OpenLaw}{q:aK}{d:DefRec}
  (hn:l.most=some n) (hdf:d.params.defaults=[])
  (call:∀ (w:br) (s₀ s₁:ar) (mg mb:Str→Option ag) (fa:ak) (o:Obj) (pm cd doc:ag) (a:ak) (vs:List ag) (ns:List Int),
   Ground q loose [] XP w s₀ mg mb s₁.heap→YP w s₁.heap →
   s₁.heap.get? fa=some o→o.data= .func (docDef d.name d.params d.body d.scope pm cd doc)→s₁.heap.CodeRec cd d.name→mg d.name=some (.ref fa) →
   s₁.heap.get? a=some { cls:= .type "list",data:= .seq vs.toArray }→IntsAre vs ns→ns.length≤n→s₁.gens= #[] →
   codeAny (bQ l.prog w) callerA (.call (.ref fa) ⟨[.ref a],[]⟩) (fun r s'=>r= .ok (.ret (.bool true))∧OldK s₁.heap s'.heap∧s'.os=s₁.os∧AllBare s'.gens) s₁) :
  WalkO q loose XP YP l.row.toRowW d [] (fun f vs=>PySem.call f vs):=by
 intro w s₀ s₁ mg mb G Y fa o pm cd doc dV kV ho hd hcd hD hmg hg args vals as hpre hlay hrd hwl hlo;obtain rfl:dV= .none:=Dflts.none hD hdf;obtain rfl:kV= .none:=Dflts.noKw hD;obtain ⟨a,vs,ns,rfl,rfl,hobj,hints,hlen⟩:=script_of hn hpre hwl;refine enter_call (codeAny_mono (call w s₀ s₁ mg mb fa o pm cd doc a vs ns G Y ho (fd_plain hd) hcd hmg hobj hints hlen hg) fun r s' hq=>?_);obtain ⟨rfl,h2,h3,h4⟩:=hq;exact ⟨.inl ⟨.bool true,.bool true,[],rfl,fun _=>rfl,.bool true,post_true l _,fun _=>⟨List.Pairwise.nil,fun _ hm=>(nomatch hm)⟩⟩,h2,h3,h4⟩
end Att
namespace L2
open PySem PySem.Spec PyProof.Rows
theorem vals_ints:∀ {vs:List ag} {ns:List Int},IntsAre vs ns→gr (ns.map V.int) vs
 | _,_,.nil=> .nil
 | _,_,.cons n t h=> .cons ⟨t,rfl⟩ (vals_ints h)
def Only (H:Hp):Prop:=∀ b,H b=none∨∃ o xs,H b=some (.frz o (.lst xs))
theorem law_call {mb:Str→Option ag}{s₁:ar}{ns:List Int}
  (KX:K.In s₁.heap) (hns:s₁.heap.Ns bC mg) (hb:s₁.heap.Ns builtinsNs mb) (hbb:∀ x:Str,x ≠ "__name__" →mb x=bootBuiltins x) (hlim:s₁.heap.NoLimit) (hg:s₁.gens= #[])
  (ha:s₁.heap.get? a=some { cls:= .type "list",data:= .seq vs.toArray }) (hi:IntsAre vs ns) (hl:ns.length≤au) (hr:jJ k callerA)
  (F:∀ base:bX,K.In base→base.Ns bC mg→c7 P w K mg base CX k fa fd [x] sp) (hbind:∀ (s:ar) (u:ag),BindsTo s fd ⟨[u],[]⟩ [(x,u)])
  (hsp:∀ H:Hp,Only H→SqL K H a (ns.map V.int)→sp [.ref a] H (fun v _=>v= .bl true) fun _ _ _=>False)
  (hCX:∀ H e s',CX [] H s₁ (fun _ _ _=>False) e s'→False) :
  codeAny (bQ P w) callerA (.call (.ref fa) ⟨[.ref a],[]⟩) (fun r s'=>r= .ok (.ret (.bool true))∧OldK s₁.heap s'.heap∧s'.os=s₁.os∧AllBare s'.gens) s₁:=by
 have rv:=vals_ints hi;have lenV:=hi.length;have core:∀ H:Hp,Only H→SqL K H a (ns.map V.int)→HOk P w H s₁.heap→(∀ b,H b≠none→b=a)→(H a≠none→K.lookup a=none) →
   codeAny (bQ P w) callerA (.call (.ref fa) ⟨[.ref a],[]⟩) (fun r s'=>r= .ok (.ret (.bool true))∧OldK s₁.heap s'.heap∧s'.os=s₁.os∧AllBare s'.gens) s₁:=by
  intro H hO hS hok hA hK;have base_of:∀ {b:ak} {o:Obj},s₁.heap.get? b=some o→H b=none→(hidT s₁.heap H).get? b=some o:=fun e n=>hidT_get e n
  have noA:∀ {b:ak} {o:Obj} {es:Array DictEntry} {ep:Nat},s₁.heap.get? b=some o→o.data= .dict es ep→H b=none:=fun {b o es ep} e d=>by
   cases q:H b with
   | none=>rfl
   | some u =>
    have e':b=a:=hA b (by rw [q];simp);subst e';rw [ha] at e;cases e;have d':Data.seq vs.toArray _=Data.dict es ep:=d;cases d'
  have nsK:∀ {b:ak} {m:Str→Option ag},s₁.heap.Ns b m→(hidT s₁.heap H).Ns b m:=fun {b m} ⟨o,es,ep,e,d,r⟩=>⟨o,es,ep,base_of e (noA e d),d,r⟩
  have hKb:K.In (hidT s₁.heap H):=fun b o e=>base_of (KX b o e) (by
   cases q:H b with
   | none=>rfl
   | some u =>
    have e':b=a:=hA b (by rw [q];simp);subst e';rw [hK (by rw [q];simp)] at e;cases e)
  have hM:Mod K mg (hidT s₁.heap H):=⟨hKb,nsK hns,⟨mb,nsK hb,hbb⟩,let ⟨mc,h1,h2⟩:=hlim;⟨mc,nsK h1,h2⟩⟩;have e0:Env0 P w K mg (hidT s₁.heap H) callerA [] s₁ H:=⟨rfl,hM,fun b o e=>of_hidT e,Nat.le_of_eq (hidT_size _ _),trivial,fun b hb=>pF (show b∈([]:List ak) from hb) (by simp),hok,.of_eq hg⟩;refine codeAny_mono ((F _ hKb (nsK hns)).run callerA [] s₁ H ⟨[.ref a],[]⟩ [.ref a] [.ref a] _ _ hr e0 (hbind s₁ (.ref a)) (.cons rfl .nil) (hsp H hO hS)) fun r s' h=>?_
  cases r with
  | error e=>exact (hCX H e s' h).elim
  | ok fl =>
   cases fl with
   | next=>exact gh h
   | brk=>exact gh h
   | cont=>exact gh h
   | ret u =>
    obtain ⟨v,H',os,bare,un,hok',r',q⟩:=h;have q':v= .bl true:=q;subst q';obtain rfl:u=ag.bool true:=r';refine ⟨rfl,OldK.of_keep fun b o e=>?_,os,bare⟩;cases q:H b with
    | none=>exact un.keep b o e q (by intro z;exact pF (show b∈([]:List ak) from z) (by simp)) (by simp)
    | some u =>
     rcases hO b with z | ⟨ob,xs,z⟩
     ·rw [q] at z;cases z
     ·have z2:=un.frzs b ob _ z
      obtain ⟨e1,_⟩:=hok b _ z;obtain ⟨e2,_⟩:=hok' b _ z2;rw [e] at e1;cases e1;exact e2
 cases hk:K.lookup a with
 | some o =>
  have e:=KX a o hk;rw [ha] at e;cases e;refine core (fun _=>none) (fun _=> .inl rfl) (.inr ⟨_,vs.toArray,_,hk,rfl,rfl,rfl,by rw [aA,lenV];exact hl,by simpa using rv⟩) (fun b u z=>by have z':(none:Option HO)=some u:=z;cases z') (fun b z=>pF rfl z) fun z=>pF rfl z
 | none =>
  refine core (fun b=>if b=a then some (.frz { cls:= .type "list",data:= .seq vs.toArray } (.lst (ns.map V.int))) else none) (fun b=>?_) (.inl (.inr ⟨{ cls:= .type "list",data:= .seq vs.toArray },pE rfl⟩)) (fun b u z=>?_) (fun b z=>?_) fun _=>hk
  ·by_cases hb:b=a
   ·exact .inr ⟨_,_,pE hb⟩
   ·exact .inl (pB hb)
  ·by_cases hb:b=a
   ·have z':=(pE hb).symm.trans z
    cases z';subst hb;exact ⟨ha,by rw [ae];exact hl,vs,_,rv,ha⟩
   ·have z':=(pB hb).symm.trans z
    cases z'
  ·by_cases hb:b=a
   ·exact hb
   ·exact pF (pB hb) z
theorem walk_of {l:PySem.W.OpenLaw}{q:aK}{d:DefRec}{K:Params→ai}{CX:br→CXT}{sp:br→Sp}
  (hn:l.most=some n) (hn2:n≤au) (hdf:d.params.defaults=[]) (hr:jJ k callerA)
  (hY:∀ (w:br) (h:bX),YP w h→(K w.params).In h)
  (F:∀ (w:br) (mg:Str→Option ag) (fa:ak) (h:bX),(K w.params).In h→h.Ns bC mg→mg d.name=some (.ref fa) →
   ∃ fd:aZ,(∀ (s:ar) (u:ag),BindsTo s fd ⟨[u],[]⟩ [(x,u)]) ∧
    ∀ base:bX,(K w.params).In base→base.Ns bC mg→c7 l.prog w (K w.params) mg base (CX w) k fa fd [x] (sp w))
  (hsp:∀ (w:br) (H:Hp) (a:ak) (ns:List Int),ns.length≤n→Only H→SqL (K w.params) H a (ns.map V.int)→sp w [.ref a] H (fun v _=>v= .bl true) fun _ _ _=>False)
  (hCX:∀ (w:br) (H:Hp) (s:ar) (e:ag) (s':ar),CX w [] H s (fun _ _ _=>False) e s'→False) :
  PySem.W.WalkO q loose XP YP l.row.toRowW d [] (fun f vs=>PySem.call f vs):=by
 refine Att.attach_call hn hdf fun w s₀ s₁ mg mb fa o pm cd doc a vs ns G Y ho hd hcd hmg hobj hints hlen hg=>?_
 have KX:=hY w _ Y;obtain ⟨fd,hb,hF⟩:=F w mg fa _ KX G.T.g hmg;exact law_call KX G.T.g G.T.b G.T.builtins G.T.nolimit hg hobj hints (cn hlen hn2) hr hF hb (fun H hO hS=>hsp w H a ns hlen hO hS) fun H e s'=>hCX w H s₁ e s'
abbrev CX0:CXT:=fun _ _ _ _ _ _=>False
abbrev E0:XK:=fun _ _ _=>False
theorem hV:ng CX0 X E0:=fun _ _ _ _ _ _ _ h=>h.elim
structure Fun (K:ai)(x qual:Str)(st:cN)(f:ak)(fd:aZ):Prop where
 ex:∃ (oc:ag) (od:Option ak) (kV doc pm:ag) (an:Option ak) (cdv ct:ag) (osl:Array (Option ag)),
  fd=fk x qual (kz st) (jY st) (defScope st) .none kV doc pm an cdv ct∧K.lookup f=some ⟨oc,od,.func fd,osl⟩∧jc K cdv qual=true
 kp:eF K (.ref f)=true
theorem Fun.ok (F:Fun K x qual st f fd)(S:cp N ps (defScope st))(len:∀ vs H Q E,sp vs H Q E→vs.length=ps.length)
  (hbody:∀ (cdv:ag) (A:b9) (outer:List Env) (s:ar) (H:Hp) (vs:List V) (Q:VK) (E:XK),jJ k (A.deeper (envOfC qual (defScope st) s.heap.objs.size f cdv))→sp vs H Q E →
   ∃ t,PSs (cxOf CX0 P w K mg base N qual (defScope st) f cdv A outer s H E).nox (jY st) t∧t { nx:=fun _ H'=>Q .non H',rt:=Q } (start N vs) H):c7 P w K mg base CX0 (k+1) f fd ps sp:=by
 obtain ⟨oc,od,kV,doc,pm,an,cdv,ct,osl,rfl,lk,hcd⟩:=F.ex;refine fn_of lk hcd S len fun A outer s H vs Q E hr hsp=>?_
 obtain ⟨t,h,q⟩:=hbody cdv A outer s H vs Q E hr hsp;exact ⟨t,h.nox,q⟩
theorem Fun.binds (F:Fun K x qual st f fd)
  (h:∀ (kV doc pm:ag) (an:Option ak) (cdv ct:ag) (us:List ag),us.length=ps.length→bindArgs (fk x qual (kz st) (jY st) (defScope st) .none kV doc pm an cdv ct) ⟨us,[]⟩=gK (ps.zip us)):Binds K fd ps []:=by
 obtain ⟨oc,od,kV,doc,pm,an,cdv,ct,osl,rfl,lk,hcd⟩:=F.ex;exact .all (h kV doc pm an cdv ct)
theorem fun_mk {oc:ag}{an:Option ak}{kV doc pm cdv ct:ag}(l:K.lookup f=some ⟨oc,od,.func (fk x qual (kz st) (jY st) (defScope st) .none kV doc pm an cdv ct),osl⟩)
  (c:jc K cdv qual=true) (k:eF K (.ref f)=true):Fun K x qual st f (fk x qual (kz st) (jY st) (defScope st) .none kV doc pm an cdv ct):=⟨⟨oc,od,kV,doc,pm,an,cdv,ct,osl,rfl,l,c⟩,k⟩
theorem pv (i:Nat)(hN:X.N[i]? =some x:=by rfl)(hv:Vis X.env.scope x:=by first | exact Or.inl rfl | exact Or.inr (Or.inl rfl) | exact Or.inr (Or.inr rfl))(hd:(x == ("__debug__" :Str))=false:=by decide)
  (hcd:(x == ("__classdict__" :Str))=false:=by decide):PE X (.Name x pos) (tVar i):=pe_var hN hv hd hcd
theorem iteT {A B:Prop}(h:A):if true=true then A else B:=by
 rw [pE rfl];exact h
theorem jj {c A B:Prop}[Decidable c](h1:c→A)(h2:¬ c→B):if c then A else B:=by
 by_cases h:c
 ·rw [pE h]
  exact h1 h
 ·rw [pB h]
  exact h2 h
def b8 (H H':Hp):Prop:=∀ b o,H b=some o→H' b=some o
theorem b8.refl (H:Hp):b8 H H:=fun _ _ h=>h
theorem b8.trans (a:b8 H H1)(b:b8 H1 H2):b8 H H2:=fun c o h=>b c o (a c o h)
theorem b8.free (e:b8 H H'){l:ak}(h:H' l=Option.none):H l=Option.none:=by
 cases q:H l with
 | none=>rfl
 | some o =>
  rw [e l o q] at h;cases h
theorem op_fdivB:OpR X (gY .FloorDiv) (rI (fun _ j=>0<j∧j.natAbs.log2<9000) fun i j=> .int (i / j)):=opI fun i j _ _ _ _ _ hc q=>by
 have e:i.fdiv j=i / j:=Int.fdiv_eq_ediv_of_nonneg i (Int.le_of_lt hc.1);refine floordiv_int (by have:=hc.1;lia) ?_ (.inl (PyProof.noPylong_of_log2 hc.2));rw [e];exact q
theorem op_isNotB:OpR X (dj .IsNot) (fun x y H Q=>∃ b c,x= .bl b∧y= .bl c∧Q (.bl (!(b == c))) H):=by
 intro aI s σ H x y v u Q I rx ry h;obtain ⟨b,c,rfl,rfl,q⟩:=h;cases (show v=ag.bool b from rx);cases (show u=ag.bool c from ry);refine wpAny_isNot_plain rfl (dH I q ?_);cases b <;> cases c <;> rfl
theorem bools_of:∀ {bs:List Bool} {us:List ag},gr (bs.map V.bl) us→LSm.BoolsAre us bs
 | [],_,.nil=> .nil
 | b::bs,_,.cons r t=>by
  cases (show _=ag.bool b from r);exact .cons b (bools_of t)
theorem call_all (hc:X.calm=true):iK X (.builtin "all") (fun xs H Q=>∃ (p:ak) (bs:List Bool),xs=[.ref p]∧SqL X.K H p (bs.map V.bl)∧Q (.bl (bs.all id)) H):=by
 intro aI s σ H xs us Q I r h;obtain ⟨p,bs,rfl,hq,q⟩:=h;obtain ⟨u,rfl,ru⟩:=lG r;cases (show u=ag.ref p from ru);obtain ⟨its,rv,pl,hz⟩:=I.list hq;have hb:=bools_of rv;have hil:s.heap.IsList p its.toArray:=pl.isList;have plt:p<s.heap.objs.size:=by obtain ⟨_,e,_⟩:=hil;exact bc e
 refine call_all_walk (gC hil ⟨s.heap.objs.size,[s.heap.objs.size,p],[s.heap.objs.size],its.toArray.size,_,_,fun i=>(bs[i]?).getD true,rfl,
  Walks.list (A:=X.A.in1) (I.ok.hd hc) _ p (cg plt) its.toArray,⟨⟨_,aJ _ rfl,rfl,rfl⟩,hil.push _⟩,?_,?_⟩)
 ·intro i v s' Q' E' hP hT
  obtain ⟨b,e,rfl⟩:=hb.get i v (by simpa using hP);simp only [e,Option.getD_some] at hT;exact gz hT
 ·intro h' tk hk
  have e2:((cq its.toArray.size).all fun i=>(bs[i]?).getD true)=bs.all id:=by
   rw [aA,hb.length];exact LSm.range_all bs
  rw [e2];exact ⟨.bl _,H,I.kept (LSm.kept_iter hk),rfl,q⟩
theorem op_eqL0 (hu:X.A.units<ji):OpR X (dj .Eq) (fun x y H Q=>∃ a b xs,x= .ref a∧y= .ref b∧SqL X.K H a xs∧SqL X.K H b []∧Q (.bl xs.isEmpty) H):=by
 intro aI s σ H x y v u Q I rx ry h;obtain ⟨a,b,xs,rfl,rfl,ha,hb,q⟩:=h;cases (show v=ag.ref a from rx);cases (show u=ag.ref b from ry);obtain ⟨its,r1,p1,_⟩:=I.list ha;obtain ⟨its2,r2,p2,_⟩:=I.list hb;cases r2;cases r1 with
 | nil=>exact SeqAt.eq_listAt (e:=fun _=>true) p1.isList p2.isList rfl hu (fun j h1 _=>pF h1 (by simp)) (dH I q (by simp))
 | cons _ _=>exact SeqAt.eq_list_lengthsAt p1.isList p2.isList (by simp) hu (dH I q (by simp))
def tyn (H:Hp):V→Option String
 | .non=>some "NoneType"
 | .bl _=>some "bool"
 | .int _=>some "int"
 | .str _=>some "str"
 | .ref a=>match H a with
  | some (.lst _)=>some "list"
  | some (.tup _)=>some "tuple"
  | some (.dK _)=>some "dict"
  | _=>none
 | _=>none
theorem TyOf.byName (h:tyn H v=some T):TyOf K H v (.type T):=by
 cases v with
 | non=>cases h;exact .non
 | bl b=>cases h;exact .bl b
 | int i=>cases h;exact .int i
 | str x=>cases h;exact .str x
 | ref a =>
  simp only [tyn] at h;cases e:H a with
  | none=>rw [e] at h;cases h
  | some o =>
   rw [e] at h;cases o <;> first | (cases h;first | exact .lst e | exact .tup e | exact .dK e) | cases h
 | _=>cases h
theorem kit_tuple (K:ai)(h:T∈["NoneType","bool","int","str","list","tuple","dict"]):ja K (.type T) (.type "tuple")=some (T == "tuple"):=by
 simp only [av,aL,or_false] at h
 rcases h with rfl | rfl | rfl | rfl | rfl | rfl | rfl <;> kernel_rfl
theorem kit_int (K:ai)(h:T∈["NoneType","bool","int","str","list","tuple","dict"]):ja K (.type T) (.type "int")=some (T == "int" || T == "bool"):=by
 simp only [av,aL,or_false] at h
 rcases h with rfl | rfl | rfl | rfl | rfl | rfl | rfl <;> kernel_rfl
theorem kit_bool (K:ai)(h:T∈["NoneType","bool","int","str","list","tuple","dict"]):ja K (.type T) (.type "bool")=some (T == "bool"):=by
 simp only [av,aL,or_false] at h
 rcases h with rfl | rfl | rfl | rfl | rfl | rfl | rfl <;> kernel_rfl
theorem tyn_mem (h:tyn H v=some T):T∈["NoneType","bool","int","str","list","tuple","dict"]:=by
 cases v with
 | non=>cases h;simp
 | bl b=>cases h;simp
 | int i=>cases h;simp
 | str x=>cases h;simp
 | ref a =>
  simp only [tyn] at h;cases e:H a with
  | none=>rw [e] at h;cases h
  | some o =>
   rw [e] at h;cases o <;> first | (cases h;simp;done) | cases h
 | _=>cases h
theorem kL:iK X (.builtin "isinstance") (fun xs H Q=>∃ x n t b,xs=[x,.ty n]∧TyOf X.K H x t∧ja X.K t (.type n)=some b∧Q (.bl b) H):=by
 intro aI s σ H xs us Q I r h;obtain ⟨x,n,t,b,rfl,ty,e,q⟩:=h;obtain ⟨u,w',rfl,ru,rw'⟩:=vals2 r;cases (show w'=ag.type n from rw');exact isinst_ok I ru ty e fun tk=>⟨.bl b,H,I.tok tk,rfl,q⟩
theorem call_isTup:iK X (.builtin "isinstance") (fun xs H Q=>∃ x T,xs=[x,.ty "tuple"]∧tyn H x=some T∧Q (.bl (T == "tuple")) H) :=
 fun aI s σ H xs us Q I r ⟨x,T,e,hT,q⟩=>kL aI s σ H xs us Q I r ⟨x,_,_,_,e,.byName hT,kit_tuple _ (tyn_mem hT),q⟩
theorem call_isInt:iK X (.builtin "isinstance") (fun xs H Q=>∃ x T,xs=[x,.ty "int"]∧tyn H x=some T∧Q (.bl (T == "int" || T == "bool")) H) :=
 fun aI s σ H xs us Q I r ⟨x,T,e,hT,q⟩=>kL aI s σ H xs us Q I r ⟨x,_,_,_,e,.byName hT,kit_int _ (tyn_mem hT),q⟩
theorem call_isBool:iK X (.builtin "isinstance") (fun xs H Q=>∃ x T,xs=[x,.ty "bool"]∧tyn H x=some T∧Q (.bl (T == "bool")) H) :=
 fun aI s σ H xs us Q I r ⟨x,T,e,hT,q⟩=>kL aI s σ H xs us Q I r ⟨x,_,_,_,e,.byName hT,kit_bool _ (tyn_mem hT),q⟩
inductive rCatA (K:ai)(x:V)(y:V)(H:Hp)(Q:VK):Prop
 | mk (a b xs ys:_)(_:x= .ref a)(_:y= .ref b)(_:H a=some (.tup xs))(_:H b=some (.tup ys))(_:xs.length+ys.length≤au)(_:∀ p H',b8 H H'→H' p=some (.tup (xs++ys))→Q (.ref p) H')
theorem op_catA:OpR X (gY .Add) (rCatA X.K):=by
 intro aI s σ H x y v u Q I rx ry h;obtain ⟨a,b,xs,ys,rfl,rfl,ha,hb,hz,q⟩:=h;cases xs with
 | cons x xs =>
  refine op_catT aI s σ H (.ref a) (.ref b) v u Q I rx ry ⟨a,b,_,ys,rfl,rfl,SqT.of ha,SqT.of hb,(by simp),hz,fun e=>?_,fun _ p hp=>?_⟩
  ·subst e
   exact q a H (b8.refl H) (by rw [cG];exact ha)
  ·exact q p _ (fun c o e=>by rw [aX (aV e hp)];exact e) aP
 | nil =>
  cases (show v=ag.ref a from rx);cases (show u=ag.ref b from ry);obtain ⟨its,r1,p1,_⟩:=I.tuple (SqT.of (K:=X.K) ha);obtain ⟨its2,r2,p2,_⟩:=I.tuple (SqT.of (K:=X.K) hb);cases r1;obtain ⟨⟨c1,d1,t1,l1⟩,o1,k1,n1,g1⟩:=id p1;obtain ⟨⟨c2,d2,t2,l2⟩,o2,k2,n2,g2⟩:=id p2;simp only at k1 g1 k2 g2;subst k1 g1 k2 g2;exact concat_meets ⟨_,o1,rfl⟩ ⟨_,o2,rfl⟩ noFill_tuple_add seq_tuple_add PySem.F.slot_tuple_add kO (kH _ _)
   (tuple_addW0 a b _ its2.toArray n1 n2 d1 d2 l1 l2 (by simp)) ⟨o1,o2,⟨.ref b,H,I,rfl,q b H (b8.refl H) hb⟩⟩
def ik (X:Cx)(scope:Scope)(cl:List (Str×ak))(C:ak)(N:List Str)(s:ar)(H:Hp)(ex:List ak):Cx :=
 { X with N:=N,s₀:=s,H₀:=H,env:=compEnvC scope cl C X.env,outer:=X.stack,ex:=ex,fn:=fun _=>false,pn:=[],xe:=fun _ _=>False }
theorem closure_has (hf:∀ y∈scope.names,y.2= .free→∃ c,env.cells.lookup y.1=some c) :
  ∃ cl,closureFor scope env=gK cl∧(∀ x c,cl.lookup x=some c→env.cells.lookup x=some c)∧∀ y∈scope.names,y.2= .free→cl.lookup y.1=env.cells.lookup y.1:=by
 have aux:∀ (names:List (Str×c8)) (acc:List (Str×ak)),(∀ y∈names,y.2= .free→∃ c,env.cells.lookup y.1=some c)→(∀ x c,acc.lookup x=some c→env.cells.lookup x=some c) →
   ∃ cl,(forIn names acc fun x r=>match x with
     | (name,kind)=>if (kind == c8.free)=true then (cellOf env name >>= fun c=>gK (ForInStep.yield ((name,c)::r))) else gK (ForInStep.yield r):Sem (List (Str×ak)))=gK cl ∧
    (∀ x c,cl.lookup x=some c→env.cells.lookup x=some c)∧(∀ x c,acc.lookup x=some c→cl.lookup x=some c)∧∀ y∈names,y.2= .free→cl.lookup y.1=env.cells.lookup y.1:=by
  intro names
  induction names with
  | nil=>intro acc _ ha;exact ⟨acc,rfl,ha,fun _ _ e=>e,fun y hy=>pF hy (by simp)⟩
  | cons z r ih =>
   intro acc hn ha;obtain ⟨n,k⟩:=z;have hr:∀ y∈r,y.2= .free→∃ c,env.cells.lookup y.1=some c:=fun y hy=>hn y (aO _ hy)
   by_cases hk:k= .free
   ·subst hk
    obtain ⟨c,hc⟩:=hn (n,.free) bG rfl;have hc:env.cells.lookup n=some c:=hc;have ha':∀ x d,((n,c)::acc).lookup x=some d→env.cells.lookup x=some d:=fun x d e=>by
     rw [dW] at e;cases hx:x == n with
     | true =>
      rw [hx] at e;have e':c=d:=bu e;have ex:x=n:=eq_of_beq hx;rw [ex,←e'];exact hc
     | false=>rw [hx] at e;exact ha x d e
    obtain ⟨cl,e1,e2,e3,e4⟩:=ih ((n,c)::acc) hr ha';have lT:cellOf env n=gK c:=by unfold cellOf;rw [hc]
    refine ⟨cl,?_,e2,fun x d e=>?_,fun y hy hy2=>?_⟩
    ·rw [List.forIn_cons]
     show ((if (c8.free == c8.free)=true then (cellOf env n >>= fun c=>gK (ForInStep.yield ((n,c)::acc))) else gK (ForInStep.yield acc)) >>= _)=_;rw [pE (by decide:(c8.free == c8.free)=true),lT];exact e1
    ·have h1:((n,c)::acc).lookup x=some (if x == n then c else d):=by
      rw [dW];cases hx:x == n with
      | true=>rfl
      | false=>exact e
     have h2:=e3 x _ h1;have h3:=e2 x _ h2;have h4:=ha x d e;rw [h3] at h4;rw [h2];exact h4
    ·rcases av.mp hy with rfl | hy3
     ·have h1:((n,c)::acc).lookup n=some c:=by rw [dW,beq_self_eq_true]
      show cl.lookup n=_;rw [e3 n c h1,hc]
     ·exact e4 y hy3 hy2
   ·have hb:(k == c8.free)=false:=by simpa using hk
    obtain ⟨cl,e1,e2,e3,e4⟩:=ih acc hr ha;refine ⟨cl,?_,e2,e3,fun y hy hy2=>?_⟩
    ·rw [List.forIn_cons]
     show ((if (k == c8.free)=true then (cellOf env n >>= fun c=>gK (ForInStep.yield ((n,c)::acc))) else gK (ForInStep.yield acc)) >>= _)=_;rw [hb];exact e1
    ·rcases av.mp hy with rfl | hy3
     ·exact pF hy2 hk
     ·exact e4 y hy3 hy2
 obtain ⟨cl,e1,e2,_,e4⟩:=aux scope.names [] hf fun x c e=>by cases e
 refine ⟨cl,Eq.trans ?_ e1,e2,e4⟩;unfold closureFor
 first
  | rfl
  | (simp only [bind_pure];done)
  | (simp only [bind_pure];rfl)
  | (simp only [bind_pure]
     congr 1
     funext x r
     obtain ⟨n,k⟩:=x;cases (k == c8.free) <;> rfl)
theorem mK {env:Env}:∀ {names:List (Str×c8)} {x:Str} {k':c8},
  (names.map fun (n,k)=>if (k == c8.free && env.scope.kind == .function && env.kindOf n == some .cell) then (n,c8.cell) else (n,k)).lookup x=some k' →
  names.lookup x=some k'∨(names.lookup x=some .free∧k'= .cell)
 | [],_,_,h=>by simp at h
 | (n,k)::r,x,k',h=>by
  have ih:= @mK env r x k';rw [aT] at h;show fz x ((n,k)::r)=_∨(fz x ((n,k)::r)=_∧_);rw [dW]
  by_cases hq:(k == c8.free && env.scope.kind == .function && env.kindOf n == some .cell)=true
  ·have g:fz x ((if (k == c8.free && env.scope.kind == .function && env.kindOf n == some .cell)=true then (n,c8.cell) else (n,k))::_)=_:=h
   rw [pE hq,dW] at g;have hk:k= .free:=by
    rw [bY,bY] at hq;exact eq_of_beq hq.1.1
   cases hx:x == n with
   | true=>rw [hx] at g;rw [hk];exact .inr ⟨rfl,(bu g).symm⟩
   | false=>rw [hx] at g;exact ih g
  ·have g:fz x ((if (k == c8.free && env.scope.kind == .function && env.kindOf n == some .cell)=true then (n,c8.cell) else (n,k))::_)=_:=h
   rw [pB hq,dW] at g;cases hx:x == n with
   | true=>rw [hx] at g;exact .inl g
   | false=>rw [hx] at g;exact ih g
theorem mX {env:Env}(hk:env.scope.kind= .function){x:Str}(hx:env.kindOf x=some .cell):∀ {names:List (Str×c8)},names.lookup x=some .free →
  (names.map fun (n,k)=>if (k == c8.free && env.scope.kind == .function && env.kindOf n == some .cell) then (n,c8.cell) else (n,k)).lookup x=some .cell
 | [],h=>by simp at h
 | (n,k)::r,h=>by
  have ih:= @mX env hk x hx r;show fz x ((if (k == c8.free && env.scope.kind == .function && env.kindOf n == some .cell)=true then (n,c8.cell) else (n,k))::_)=some c8.cell;rw [dW] at h;cases hxn:x == n with
  | true =>
   rw [hxn] at h;have ek:k= .free:=bu h;have en:x=n:=eq_of_beq hxn;subst ek en;rw [pE (by rw [hk,hx];rfl),dW,beq_self_eq_true]
  | false =>
   rw [hxn] at h
   by_cases hq:(k == c8.free && env.scope.kind == .function && env.kindOf n == some .cell)=true
   ·rw [pE hq,dW,hxn];exact ih h
   ·rw [pB hq,dW,hxn];exact ih h
def PTs (X:Cx)(ifs:List Expr)(t:TT):Prop :=
 ∀ (aI:List (ak×Obj)) (s:ar) (σ:St) (H:Hp) (Q:Bool→Hp→Prop),Inv X aI σ H s→t σ H Q →
  bo (bQ X.prog X.w) X.A (forIn ifs true fun c r=>if r=true then do let ok ← isTrue c X.env (dn c X.env);gK (ForInStep.yield ok) else gK (ForInStep.yield r)) (TP X aI σ Q) X.xe s
def tNoIf:TT:=fun _ H Q=>Q true H
theorem ie {A B:Hp→Prop}(h:A H):tNoIf σ H fun b H4=>if b=true then A H4 else B H4:=by
 show if true=true then A H else B H;rw [pE rfl];exact h
theorem jg:PTs X [] tNoIf:=fun _ _ _ H _ I h=>wpAny_tests_nil ⟨H,I,h⟩
theorem pts_one {c:Expr}{t:TT}(h:PT X c t):PTs X [c] t:=fun aI s σ H Q I q=>wpAny_tests_one (h aI s σ H Q I q)
theorem HOk.take (x:HOk P w H h)(hn:H a=none)(new:hW P w (upd H a o) h a o):HOk P w (upd H a o) h:=fun b u e=>by
 by_cases hb:b=a
 ·subst hb;rw [aP] at e;cases e;exact new
 ·rw [aX hb] at e
  exact (x b u e).stay (fun _ _ _ q=>q) (fun c q=>by rw [aX (aV q hn)];exact q) fun c xs q=>by rw [aX (aV q hn)];exact q
def fF (σ:St)(js:List Nat):St:=js.map fun j=>(σ[j]?).getD none
def CompW (js:List Nat)(tt:TT)(te:TE)(σ:St)(Q:VK)(J:It)(H1:Hp):Prop:=∃ W:Nat→Nat→List V→Hp→Prop,(∃ m,W 0 m [] H1)∧∀ i m ys H2,W i m ys H2 →
 (J.stop i H2∧∀ D,H2 D=none→Q (.ref D) (upd H2 D (.lst ys))) ∨
 (J.go i H2∧ys.length<au∧∃ N:List V→Hp→Prop,(∀ ys' H',N ys' H'→∃ m',m'<m∧W (i+1) m' ys' H')∧∀ x H3,J.yld i H2 x H3→tt (some x::fF σ js) H3 fun b H4 =>
  if b=true then te (some x::fF σ js) H4 fun y H5=>N (ys++[y]) H5 else N ys H4)
def tComp (wi:TI)(js:List Nat)(tt:TT)(te:TE):TE:=fun σ H Q=>wi σ H fun J H1=>CompW js tt te σ Q J H1
abbrev lobj (us:List ag)(n:Nat):Obj:={ cls:= .type "list",data:= .seq us.toArray n }
abbrev pz (prog:aK)(w:br)(A:b9)(env:Env)(R:Result→ar→Prop):ag→ar→Prop:=notedBy (bQ prog w) A env fun x t=>R (.error x) t
theorem loop_any {it acc:ag}(J:Nat→ar→Prop)
  (step:∀ k t,J k t→bo (bQ prog w) A (pyNext it) (fun r t1=>match r with
   | none=>R (.ok .next) t1
   | some v=>bo (bQ prog w) A (kF tg it v) (fun _ t2=>bo (bQ prog w) A (assign tg env v) (fun _ t3 =>
     bo (bQ prog w) A (forIn ifs true fun c b=>if b=true then do let z ← isTrue c env (dn c env);gK (ForInStep.yield z) else gK (ForInStep.yield b)) (fun z t4 =>
      if z=true then bo (bQ prog w) A (dn elt env) (fun y t5=>bo (bQ prog w) A (call (.builtin "list.append") [acc,y]) (fun _ t6=>∃ m,m<k∧J m t6) (pz prog w A env R) t5) (pz prog w A env R) t4
      else ∃ m,m<k∧J m t4) (pz prog w A env R) t3) (pz prog w A env R) t2) (pz prog w A env R) t1) (pz prog w A env R) t)
  (k:Nat) (h:J k s):codeAny (bQ prog w) A (.compLoop (.ListComp elt [⟨tg,iter,ifs,0⟩] scope pos) 0 it acc env) R s:=by
 refine codeAny_loop rfl J (fun k t hJ=>?_) k h;show bo _ A ((compTurn (.ListComp elt [⟨tg,iter,ifs,0⟩] scope pos) 0 it acc env).onRaise (fun y=>do noteFrame y env;theTreesLotGoes y)) _ _ t;refine wpAny_noted ?_;rw [compTurn_list];refine al (wpAny_standAt (al (eh (step k t hJ) (fun r t1 q1=>?_) fun _ _ f=>f)));cases r with
 | none=>exact aQ q1
 | some v =>
  refine al (eh q1 (fun _ t2 q2=>?_) fun _ _ f=>f);refine al (eh q2 (fun _ t3 q3=>?_) fun _ _ f=>f);refine al (eh q3 (fun z t4 q4=>?_) fun _ _ f=>f);cases z with
  | false=>exact aQ ⟨rfl,q4⟩
  | true=>exact al (al (eh q4 (fun y t5 q5=>al (eh q5 (fun _ t6 q6=>aQ (aQ ⟨rfl,q6⟩)) fun _ _ f=>f)) fun _ _ f=>f))
def CompWT (n:Nat)(g:TG)(js:List Nat)(tt:TT)(te:TE)(σ:St)(Q:VK)(J:It)(H1:Hp):Prop:=∃ W:Nat→Nat→List V→Hp→Prop,(∃ m,W 0 m [] H1)∧∀ i m ys H2,W i m ys H2 →
 (J.stop i H2∧∀ D,H2 D=none→Q (.ref D) (upd H2 D (.lst ys))) ∨
 (J.go i H2∧ys.length<au∧∃ N:List V→Hp→Prop,(∀ ys' H',N ys' H'→∃ m',m'<m∧W (i+1) m' ys' H')∧∀ x H3,J.yld i H2 x H3→∀ v0:St,v0.length=n→g x (v0++fF σ js) H3 fun σ4 H4 =>
  (∃ v1:St,v1.length=n∧σ4=v1++fF σ js)∧tt σ4 H4 fun b H5=>if b=true then te σ4 H5 fun y H6=>N (ys++[y]) H6 else N ys H5)
theorem comp_core {Q:VK}{use:Option (ag→Sem Unit)}{R:ag→ar→Prop}{xs:List Str}
  (hc:X.calm=true) (hi:PI X tg iter wi)
  (lT:∀ y∈scope.names,y.2≠ .cell) (mO:scope.kind= .function) (mq:∀ y∈scope.names,y.2= .local→scope.names.lookup y.1=some .local)
  (hfr:∀ y∈scope.names,y.2= .free→X.env.scope.names.lookup y.1=some .cell) (hjs:js.map (fun j=>X.N[j]?)=fr.map some) (hfv:∀ y∈fr,scope.names.lookup y=some .free)
  (hg:∀ cl C s' H' ex,PG (ik X scope cl C (xs++fr) s' H' ex) tg g)
  (hb:∀ cl C s' H' ex,PE (ik X scope cl C (xs++fr) s' H' ex) elt te∧PTs (ik X scope cl C (xs++fr) s' H' ex) ifs tt)
  (hCW:∀ σ Q J H1,CW σ Q J H1→CompWT xs.length g js tt te σ Q J H1) (I:Inv X aI σ H s) (h:wi σ H fun J H1=>CW σ Q J H1)
  (fin:∀ (s4:ar) (H5:Hp) (D C:ak) (mC:Str→Option ag),s4.heap.Ns C mC→Inv X aI σ H5 s4→H5 C=none→C≠X.env.locals→C ∉ X.fs→(∀ p∈X.pn++aI,p.1≠C)→(∀ y c,X.env.cells.lookup y=some c→c≠C)→X.s₀.heap.objs.size≤C→Q (.ref D) H5→compPost (bQ X.prog X.w) X.A X.xe use R (.ref D) C (.ok .next) s4)
  (hs:∀ z,iH iter X.env z=gK z:=by intro _;rfl) :
  bo (bQ X.prog X.w) X.A (comprehension (.ListComp elt [⟨tg,iter,ifs,0⟩] scope pos) scope X.env pos' (newList []) false (dn iter X.env) use) R X.xe s:=by
 have hXk:X.env.scope.kind= .function:=I.ok.kind;obtain ⟨cl,hclos,c1,c2⟩:=closure_has (scope:=scope) (env:=X.env) fun y hy hk=>I.ok.has _ (.inl (hfr y hy hk))
 refine wpAny_comprehension_free rfl hs hclos mO mq (thn (hi aI s σ H _ I h) fun xv s1 h1=>thn h1 fun itv s2 h2=>?_);obtain ⟨it,fp,tn,J,H2,rfl,I2,T,st2,f2,hcw⟩:=h2;obtain ⟨W,⟨m0,w0⟩,turn⟩:=hCW _ _ _ _ hcw;refine fV (wpAny_newFunctionEnv lT (by intro y hy;simp at hy) (fun hA nsA sbA=>?_) mO)
 dsimp only at nsA sbA ⊢
 generalize hG:s2.heap.push { cls:= .type "list",dict:=none,data:= .seq ([]:List ag).toArray }=G at nsA sbA ⊢;have hC:G.objs.size=s2.heap.objs.size+1:=by rw [←hG,dk]
 have hDC:s2.heap.objs.size≠G.objs.size:=by rw [hC];exact cg (Nat.lt_succ_self _)
 have small:∀ b o,s2.heap.get? b=some o→b≠G.objs.size∧b≠s2.heap.objs.size:=fun b o e=>⟨by rw [hC];exact cg (Nat.lt_succ_of_lt (bc e)),cg (bc e)⟩
 have old:∀ b o,s2.heap.get? b=some o→hA.get? b=some o:=fun b o e=>sbA.extBut b o (small b o e).1 (ao _ (hG ▸ ao _ e))
 have hDA:hA.get? s2.heap.objs.size=some (lobj [] 0):=sbA.extBut _ _ hDC (ao _ (hG ▸ aJ _ rfl));have fpo:∀ b∈fp,∃ o,s2.heap.get? b=some o:=fun b hb=>let ⟨o,e,_⟩:=T.obj _ _ st2 b hb;⟨o,e⟩
 have celo:∀ y c,cl.lookup y=some c→∃ o,s2.heap.get? c=some o:=fun y c e=>let ⟨_,o,ho,_⟩:=I2.cell y c (c1 y c e);⟨o,ho⟩
 have ok':(ik X scope cl G.objs.size (xs++fr) s2 H2 fp).Ok:=by
  refine ⟨I2.ok.mod,mO,I2.ok.glob,I2.ok.blt,?_,fun a b c e1 e2=>I2.ok.inj a b c (c1 a c e1) (c1 b c e2),fun y hy=>?_,fun _ _ z=>pF z (by intro q;cases q),I2.ok.hd,I2.ok.frames,.inl rfl,fun b hb=>?_,I2.bs,cn I2.ok.bsz I2.sz,fun b o e hb=>?_,fun b hb hz=>?_,I2.stack,I2.stkFree⟩
  ·show s2.heap.objs.size≤G.objs.size
   rw [hC];exact jZ _
  ·have hy:(relabel scope X.env).names.lookup y=some .cell∨(relabel scope X.env).names.lookup y=some .free:=hy
   have key:scope.names.lookup y=some .free:=by
    rcases hy with hy | hy
    ·rcases mK hy with q | ⟨q,_⟩
     ·exact pF rfl (lT _ (eQ q))
     ·exact q
    ·rcases mK hy with q | ⟨q,_⟩
     ·exact q
     ·exact q
   have hm:=eQ key;obtain ⟨c,e⟩:=I.ok.has y (.inl (hfr _ hm rfl));exact ⟨c,(c2 _ hm rfl).trans e⟩
  ·obtain ⟨o,e⟩:=fpo b hb
   exact ⟨(small b o e).1,fun y c q=>(f2 b hb).2.2.2.2.1 y c (c1 y c q)⟩
  ·obtain ⟨_,_,_,f3,_⟩:=f2 b hb
   rcases f3 with f3 | f3
   ·exact I2.ok.noex b o e f3
   ·exact pF (ck (bc e) (cn I2.ok.bsz f3)) (ia _)
  ·obtain ⟨_,n1,n2,_⟩:=f2 b hb
   exact (av.mp (I2.stkSub b hz)).elim n1 n2
 have nofs:s2.heap.objs.size ∉ frs X.stack:=fun hz=>by
  obtain ⟨_,o,ho,_⟩:=I2.stack.mem hz;exact ia _ (bc ho)
 have lenB:(fF σ js).length=fr.length:=by
  have e:=pJ gc hjs;rw [ae,ae] at e;unfold fF;rw [ae];exact e
 have start':∀ t,Inv (ik X scope cl G.objs.size (xs++fr) s2 H2 fp) [(s2.heap.objs.size,lobj [] 0)] ((xs.map fun _=>none)++fF σ js) H2 { s2 with heap:=hA,toks:=t }:=fun t=>by
  refine ⟨ok',rfl,I2.bare,Un.kept old,⟨_,nsA,fun i y v e1 e2 e3=>?_⟩,fun y c e=>?_,I2.hok.fresh (by rw [hC];exact jZ _),fun y c e=>I2.freeC y c (c1 y c e),fun p hp=>?_,I2.hok.kept old,?_⟩
  ·by_cases hix:i<xs.length
   ·rw [bJ (by rw [ae];exact hix),ax,gE hix] at e2
    cases e2
   ·obtain ⟨i,rfl⟩:∃ j,i=xs.length+j:=⟨i - xs.length,by lia⟩
    have e1:(xs++fr)[xs.length+i]? =some y:=e1;have e1:fr[i]? =some y:=by rw [aN (by lia),show xs.length+i - xs.length=i by lia] at e1;exact e1
    have e2:(fF σ js)[i]? =some (some v):=by rw [aN (by rw [ae];lia),ae,show xs.length+i - xs.length=i by lia] at e2;exact e2
    unfold fF at e2;rw [ax] at e2;obtain ⟨j,ej,e2⟩:=aS.mp e2;have hN:X.N[j]? =some y:=by
     have q:=pJ (fun l=>l[i]?) hjs;simp only [ax,ej,e1,jT] at q;exact bu q
    have hσ:σ[j]? =some (some v):=by
     cases z:σ[j]? with
     | none=>rw [z] at e2;cases e2
     | some w=>rw [z] at e2;exact pJ some e2
    have hfree:=hfv y (ay e1);have hm:=eQ hfree;have hce:X.env.scope.names.lookup y=some .cell:=hfr _ hm rfl;obtain ⟨m,_,hl⟩:=I2.loc;obtain ⟨u,ru,look⟩:=hl j y v hN hσ (.inr (.inl hce));refine ⟨u,ru,.inr ⟨.inl (mX hXk hce hfree),?_⟩⟩
    rcases look with ⟨k,_⟩ | ⟨_,c,ec,ho⟩
    ·have k:X.env.scope.names.lookup y=some .local:=k
     rw [hce] at k;cases k
    ·obtain ⟨o,ho,hd⟩:=ho
     exact ⟨c,(c2 _ hm rfl).trans ec,o,old c o ho,hd⟩
  ·obtain ⟨v,o,ho,hd⟩:=I2.cell y c (c1 y c e)
   exact ⟨v,o,old c o ho,hd⟩
  ·have hp:p∈[(s2.heap.objs.size,lobj [] 0)]:=hp
   have e:=aB.mp hp;subst e;exact ⟨hDA,I2.hok.fresh (az _),hDC,nofs,fun v z=>by cases z⟩
  ·show ((xs.map fun _=>none)++fF σ js).length=(xs++fr).length
   rw [aj,aj,ae,lenB]
 have fok:∀ {us:List ag} {n:Nat} {H':Hp},(∀ b∈fp,H' b=none)→∀ b∈fp,FpOk (ik X scope cl G.objs.size (xs++fr) s2 H2 fp) [(s2.heap.objs.size,lobj us n)] H' b:=fun {us n H'} hn b hb=>by
  obtain ⟨o,e⟩:=fpo b hb;refine ⟨hn b hb,(small b o e).1,fun hz=>(av.mp (I2.stkSub b hz)).elim (f2 b hb).2.1 (f2 b hb).2.2.1,.inl hb,fun y c q=>(f2 b hb).2.2.2.2.1 y c (c1 y c q),fun p hp=>?_⟩;have hp:p∈[(s2.heap.objs.size,lobj us n)]:=hp;have ep:=aB.mp hp;subst ep;exact fun z=>(small b o e).2 z.symm
 have loop:∀ sB:ar,(∃ t,sB={ s2 with heap:=hA,toks:=t }) →
   codeAny (bQ X.prog X.w) X.A (.compLoop (.ListComp elt [⟨tg,iter,ifs,0⟩] scope pos) 0 (.ref it) (.ref s2.heap.objs.size) (compEnvC scope cl G.objs.size X.env))
    (compPost (bQ X.prog X.w) X.A X.xe use R (.ref s2.heap.objs.size) G.objs.size) sB:=by
  rintro sB ⟨t,rfl⟩;refine loop_any (fun k s'=>∃ i ys us n v0 H',v0.length=xs.length∧Inv (ik X scope cl G.objs.size (xs++fr) s2 H2 fp) [(s2.heap.objs.size,lobj us n)] (v0++fF σ js) H' s'∧gr ys us∧ys.length≤au∧tn i s'.heap∧(∀ b∈fp,H' b=none)∧W i k ys H') ?_ m0
   ⟨0,[],[],0,xs.map fun _=>none,H2,ae ..,start' t,.nil,cz _,T.keep _ _ _ st2 fun b hb o e=>old b o e,fun b hb=>(f2 b hb).1,w0⟩
  rintro k s3 ⟨i,ys,us,n,v0,H3,hv0,I3,rv,hlen,st3,fr3,w3⟩
  rcases turn i k ys H3 w3 with ⟨stop,qn⟩ | ⟨go,hlt,N',hN',step⟩
  ·refine thn (T.done (ik X scope cl G.objs.size (xs++fr) s2 H2 fp) rfl rfl rfl hc i _ s3 _ H3 _ I3 (fok fr3) st3 stop) fun r s4 ⟨hr,I4⟩=>?_
   subst hr;obtain ⟨mC,hnC,_⟩:=id I4.loc;obtain ⟨pD,nD,_,_,_⟩:=I4.pin (s2.heap.objs.size,lobj us n) (by show _∈[]++[_];simp);have pD:s4.heap.get? s2.heap.objs.size=some (lobj us n):=pD;have nD:H3 s2.heap.objs.size=none:=nD;have nC:H3 G.objs.size=none:=I4.free;have D2:∀ b o,s2.heap.get? b=some o→b≠s2.heap.objs.size:=fun b o e=>(small b o e).2
   have base4:Un (frs X.stack) fp H2 H3 s2.heap s4.heap:=I4.base;have u4:Un (frs X.stack) fp H2 (upd H3 s2.heap.objs.size (.lst ys)) s2.heap s4.heap :=
    {keep:=base4.keep
     slot:=base4.slot
     free:=fun b o e nb hx'=>by rw [aX (D2 b o e)];exact base4.free b o e nb hx'
     there:=base4.there
     tups:=fun b xs e=>by have q:=base4.tups b xs e;rw [aX (aV q nD)];exact q
     frzs:=fun b o u e=>by have q:=base4.frzs b o u e;rw [aX (aV q nD)];exact q
     tbls:=fun b ps e=>by obtain ⟨more,q⟩:=base4.tbls b ps e;exact ⟨more,by rw [aX (aV q nD)];exact q⟩ }
   have I5:Inv X aI σ (upd H3 s2.heap.objs.size (.lst ys)) s4:=I2.call' (s':=s4) (ch:=fp) I4.os u4 (I4.hok.take nD ⟨hlen,us,n,rv,pD⟩) I4.bare fun b hb=>by
    obtain ⟨_,g1,_,g3,g4,g5⟩:=f2 b hb;exact ⟨g3,g1,g4,g5⟩
   have locC:G.objs.size≠X.env.locals:=fun z=>by
    obtain ⟨_,⟨o,_,_,ho,_⟩,_⟩:=id I2.loc;exact (small _ o ho).1 z.symm
   have fsC:G.objs.size ∉ X.fs:=fun hz=>by
    obtain ⟨_,o,ho,_⟩:=I2.ok.funs.mem hz;have:=ck (bc ho) I2.sz;rw [hC] at this;exact ia _ (Nat.lt_of_succ_lt this)
   have pinX:∀ p∈X.pn++aI,p.1≠G.objs.size:=fun p hp=>(small _ _ (I2.pin p hp).1).1
   have nCu:(upd H3 s2.heap.objs.size (.lst ys)) G.objs.size=none:=by rw [aX (cO hDC)];exact nC
   refine fin s4 _ _ _ mC hnC I5 nCu locC fsC pinX (fun y c q z=>?_) (cn I2.sz (by rw [hC];exact jZ _)) (qn _ nD);obtain ⟨v,o,ho,_⟩:=I2.cell y c q;exact (small c o ho).1 z
  ·refine thn (T.item (ik X scope cl G.objs.size (xs++fr) s2 H2 fp) rfl rfl rfl hc i _ s3 _ H3 _ I3 (fok fr3) st3 go) fun r s4 ⟨u,hr,h4⟩=>?_
   subst hr;refine thn h4 fun _ s5 ⟨v,H5,I5,r5,y5,st5,fr5⟩=>?_
   have I5':=I5.pinned (fok fr5) (T.obj _ _ st5);refine eh (hg cl G.objs.size s2 H2 fp _ s5 _ H5 v u _ I5' r5 (step v H5 y5 v0 hv0)) (fun _ s6 ⟨σ6,H6,I6,⟨w1,hw1,e6⟩,q6⟩=>?_) fun _ _ f=>f.elim
   subst e6;refine eh ((hb cl G.objs.size s2 H2 fp).2 _ s6 _ H6 _ I6 q6) (fun b s7 ⟨H7,I7,q7⟩=>?_) fun _ _ f=>f.elim
   have back:∀ {s8:ar} {H8:Hp},Inv (ik X scope cl G.objs.size (xs++fr) s2 H2 fp) ([(s2.heap.objs.size,lobj us n)]++pinsAt fp s5.heap) (w1++fF σ js) H8 s8→tn (i+1) s8.heap∧∀ b∈fp,H8 b=none:=fun {s8 H8} I8=>by
    refine ⟨T.keep _ _ _ st5 fun b hb o e=>(I8.pin (b,o) (bp _ (bp _ (lq hb e)))).1,fun b hb=>?_⟩;obtain ⟨o,e,_⟩:=T.obj _ _ st5 b hb;exact (I8.pin (b,o) (bp _ (bp _ (lq hb e)))).2.1
   cases b with
   | false =>
    obtain ⟨m',hm,w7⟩:=hN' _ _ q7;obtain ⟨t7,n7⟩:=back I7;exact ⟨m',hm,i+1,ys,us,n,w1,H7,hw1,I7.unpinned,rv,hlen,t7,n7,w7⟩
   | true =>
    refine eh ((hb cl G.objs.size s2 H2 fp).1 _ s7 _ H7 _ I7 q7) (fun y' s8 ⟨y,H8,I8,r8,q8⟩=>?_) fun _ _ f=>f.elim
    obtain ⟨m',hm,w8⟩:=hN' _ _ q8;obtain ⟨t8,n8⟩:=back I8;have I8':=I8.unpinned;obtain ⟨pD,nD,_,_,_⟩:=I8'.pin (s2.heap.objs.size,lobj us n) (by show _∈[]++[_];simp);have pD:s8.heap.get? s2.heap.objs.size=some (lobj us n):=pD;have nD:H8 s2.heap.objs.size=none:=nD;refine append_at pD (fun h9 hs9 e9=>?_) (by rw [aA,←rv.length];exact hlen);have e9:h9.get? s2.heap.objs.size=some (lobj (us++[y']) (n+1)):=by rw [e9];simp [lobj]
    have J0:Inv (ik X scope cl G.objs.size (xs++fr) s2 H2 fp) [] (w1++fF σ js) H8 s8:=I8'.pins_of fun p hp=>pF hp (by simp)
    have J9:Inv (ik X scope cl G.objs.size (xs++fr) s2 H2 fp) [] (w1++fF σ js) H8 { s8 with heap:=h9,toks:=s8.toks } :=
     J0.turned (it:=s2.heap.objs.size) (fun b o hb' e=>hs9.extBut b o hb' e) nD hDC (.inr (az _)) (fun y0 c q z=>by
      obtain ⟨o,e⟩:=celo y0 c q;exact (small c o e).2 z) fun p hp=>pF (show p∈([]:List (ak×Obj)) from hp) (by simp)
    refine ⟨m',hm,i+1,ys++[y],us++[y'],n+1,w1,H8,hw1,J9.pins_of fun p hp=>?_,rv.append (.cons r8 .nil),(by rw [aj,List.length_singleton];exact hlt),T.keep _ _ _ t8 fun b hb' o e=>hs9.extBut b o (by
     obtain ⟨o',e'⟩:=fpo b hb';exact (small b o' e').2) e,n8,w8⟩
    have ep:=aB.mp hp;subst ep;exact ⟨e9,nD,hDC,nofs,fun v z=>by cases z⟩
 exact codeAny_compStart_list (loop _ ⟨_,rfl⟩) (T.self _ 0 _ _ _ (T.keep _ _ _ st2 fun b hb o e=>old b o e) (loop _ ⟨_,rfl⟩))
theorem pe_compC {xs:List Str}
  (hc:X.calm=true) (hi:PI X tg iter wi)
  (lT:∀ y∈scope.names,y.2≠ .cell) (mO:scope.kind= .function) (mq:∀ y∈scope.names,y.2= .local→scope.names.lookup y.1=some .local)
  (hfr:∀ y∈scope.names,y.2= .free→X.env.scope.names.lookup y.1=some .cell) (hjs:js.map (fun j=>X.N[j]?)=fr.map some) (hfv:∀ y∈fr,scope.names.lookup y=some .free)
  (hg:∀ cl C s' H' ex,PG (ik X scope cl C (xs++fr) s' H' ex) tg g)
  (hb:∀ cl C s' H' ex,PE (ik X scope cl C (xs++fr) s' H' ex) elt te∧PTs (ik X scope cl C (xs++fr) s' H' ex) ifs tt)
  (hCW:∀ σ Q J H1,CW σ Q J H1→CompWT xs.length g js tt te σ Q J H1) (hs:∀ z,iH iter X.env z=gK z:=by intro _;rfl) :
  PE X (.ListComp elt [⟨tg,iter,ifs,0⟩] scope pos) (fun σ H Q=>wi σ H fun J H1=>CW σ Q J H1):=by
 intro aI s σ H Q I h;rw [eval_ListComp];exact comp_core (use:=none) (R:=EP X aI σ Q) hc hi lT mO mq hfr hjs hfv hg hb hCW I h (fun s4 H5 D C mC n I5 nC lC fC pC cC sC q=>⟨mC,n,fun h' hsb=>⟨.ref D,H5,I5.turned (t':=s4.toks) (it:=C) (fun b o hb' e=>hsb.extBut b o hb' e) nC lC (.inr sC) cC pC,rfl,q⟩⟩) hs
theorem compW_T {Q:VK}{J:It}(h:CompW js tt te σ Q J H1):CompWT 1 (mR 0) js tt te σ Q J H1:=by
 obtain ⟨W,w0,turn⟩:=h;refine ⟨W,w0,fun i m ys H2 hw=>?_⟩
 rcases turn i m ys H2 hw with h | ⟨h1,h2,N,h3,h4⟩
 ·exact .inl h
 ·refine .inr ⟨h1,h2,N,h3,fun x H3 hy v0 hv=>?_⟩
  obtain ⟨w,rfl⟩:∃ w,v0=[w]:=by
   obtain _ | ⟨w,v0⟩:=v0
   ·cases hv
   ·obtain _ | ⟨z,v0⟩:=v0
    ·exact ⟨w,rfl⟩
    ·cases hv
  exact ⟨⟨[some x],rfl,rfl⟩,h4 x H3 hy⟩
theorem jH {px:Pos}
  (hc:X.calm=true) (hi:PI X (.Name x px) iter wi)
  (lT:∀ y∈scope.names,y.2≠ .cell) (mO:scope.kind= .function) (mq:∀ y∈scope.names,y.2= .local→scope.names.lookup y.1=some .local) (hx:scope.names.lookup x=some .local)
  (hfr:∀ y∈scope.names,y.2= .free→X.env.scope.names.lookup y.1=some .cell) (hnd:(x::fr).Nodup) (hjs:js.map (fun j=>X.N[j]?)=fr.map some) (hfv:∀ y∈fr,scope.names.lookup y=some .free)
  (hb:∀ cl C s' H' ex,PE (ik X scope cl C (x::fr) s' H' ex) elt te∧PTs (ik X scope cl C (x::fr) s' H' ex) ifs tt)
  (hs:∀ z,iH iter X.env z=gK z:=by intro _;rfl) :
  PE X (.ListComp elt [⟨.Name x px,iter,ifs,0⟩] scope pos) (tComp wi js tt te) :=
 pe_compC (xs:=[x]) (g:=mR 0) hc hi lT mO mq hfr hjs hfv (fun _ _ _ _ _=>pg_name hnd rfl (.inl (kt hx)) (.inr (kt hx))) hb (fun _ _ _ _ h=>compW_T h) hs
theorem comp_tup {Q:VK}(Pv:Nat→List V→Hp→Prop)(h0:Pv 0 [] H)(hl:∀ i ys H,i≤xs.length→Pv i ys H→SqT K H a xs∧ys.length≤i)(hz:xs.length≤au)
  (hs:∀ i x ys H,xs[i]? =some x→Pv i ys H→tt (some x::fF σ js) H fun b H4=>if b=true then te (some x::fF σ js) H4 fun y H5=>Pv (i+1) (ys++[y]) H5 else Pv (i+1) ys H4)
  (hd:∀ ys H,Pv xs.length ys H→∀ D,H D=none→Q (.ref D) (upd H D (.lst ys))):CompW js tt te σ Q (Itt K a) H:=by
 refine ⟨fun i m ys H=>i≤xs.length∧m=xs.length - i∧Pv i ys H,⟨_,cz _,rfl,h0⟩,fun i m ys H2 ⟨hi,hm,hp⟩=>?_⟩;obtain ⟨hq,hy⟩:=hl i ys H2 hi hp
 by_cases e:i=xs.length
 ·subst e
  exact .inl ⟨⟨xs,hq,az _⟩,hd ys H2 hp⟩
 ·have hlt:i<xs.length:=dU hi e
  refine .inr ⟨⟨xs,_,hq,gE hlt⟩,by lia,Pv (i+1),fun ys' H' hp'=>⟨xs.length - (i+1),by lia,by lia,rfl,hp'⟩,fun x H3 hy3=>?_⟩;obtain ⟨e3,hx⟩:=hy3;subst e3;exact hs i x ys H3 (hx xs hq) hp
theorem nextT_item {j t:ak}{its}{v:ag}(jt:s.heap.IsTupleIter j t i)(tt:s.heap.IsTuple t its)(hv:its[i]? =some v)
  (q:∀ g,g.IsTupleIter j t (i+1)→cI j s.heap g→Q v { s with heap:=g }):bo (bQ prog w) A (cR (.ref j)) Q E s:=by
 obtain ⟨ob,e1,e2,e3⟩:=id jt;obtain ⟨ot,g1,_,k,g2⟩:=tt;unfold cR;refine al (eO (name:=bF "__next__") jt.typeIs iJ (gX iJ jt.typeIs F.entry_tuple_iterator_next ?_ (F.args_tuple_iterator_next_1 _)));show bo _ _ (field (.ref j) 0 >>= _) _ _ s;refine al (cQ e1 e3 (x:= .ref t) rfl ?_);show bo _ _ (ite ((ag.ref t == ag.none)=true) _ _) _ _ s;rw [pB (fun z:(ag.ref t == ag.none)=true=>bz z)];show bo _ _ (field (.ref j) 1 >>= _) _ _ s;refine al (cQ e1 e3 (x:= .int i 0) rfl ?_);show bo _ _ (seqItems? (.ref t) >>= _) _ _ s;refine al (iM g1 g2 ?_);simp only [eU,hv];refine al (wpAny_setField e1 e3 (by simp) (aQ ⟨v,rfl,aQ (q _ ?_ (cI.update ..))⟩));exact ⟨_,bX.get?_update_self _ e1 (Obj.isFreed_of_fields (Obj.data_mapFields e3 _)),(Obj.cls_mapFields ..).trans e2,by rw [Obj.data_mapFields e3];simp [rawInt]⟩
theorem nextT_end {j t:ak}{its}(hh:A.handled=none)(jt:s.heap.IsTupleIter j t i)(tt:s.heap.IsTuple t its)(hv:its[i]? =none)
  (q:∀ g x,bX.ExtBut j s.heap g→(∃ o,g.get? x=some o∧o.cls= .type "StopIteration")→E (.ref x) { s with heap:=g }):bo (bQ prog w) A (cR (.ref j)) Q E s:=by
 obtain ⟨ob,e1,e2,e3⟩:=id jt;obtain ⟨ot,g1,_,k,g2⟩:=tt;unfold cR;refine al (eO (name:=bF "__next__") jt.typeIs iJ (gX iJ jt.typeIs F.entry_tuple_iterator_next ?_ (F.args_tuple_iterator_next_1 _)));show bo _ _ (field (.ref j) 0 >>= _) _ _ s;refine al (cQ e1 e3 (x:= .ref t) rfl ?_);show bo _ _ (ite ((ag.ref t == ag.none)=true) _ _) _ _ s;rw [pB (fun z:(ag.ref t == ag.none)=true=>bz z)];show bo _ _ (field (.ref j) 1 >>= _) _ _ s;refine al (cQ e1 e3 (x:= .int i 0) rfl ?_);show bo _ _ (seqItems? (.ref t) >>= _) _ _ s;refine al (iM g1 g2 ?_);simp only [eU,hv];refine al (wpAny_rule (al (wpAny_setField e1 e3 (by simp) ?_)));show bo _ _ (newExc (.type "StopIteration") [] >>= _) _ _ _;refine al ?_;simp only [newExc,newTuple];refine al (fV ?_ (by size_fits));refine al (m:=firstArgMember _ _) (wpAny_of_eq (a:=ag.none) (by first | rfl | (unfold firstArgMember;rfl)) ?_);refine fV ?_ (by size_fits);simp only [raiseNew];refine al (wpAny_handled ?_)
 first | rw [show A.in1.handled=none from hh] | rw [hh]
 exact al (aQ (wpAny_throw (q _ _ (((cI.update ..).extBut.push _).push _) ⟨_,aJ _ rfl,rfl⟩)))
theorem Inv.turnAll {g:bX}(I:Inv X aI σ H s)(hf:∀ b∈ch,FpOk X aI H b)
  (k:∀ b o,b ∉ ch→s.heap.get? b=some o→g.get? b=some o) (hH:∀ b u,H b=some u→H' b=some u) (hN:∀ b o,s.heap.get? b=some o→H b=none→H' b=none) (hok:HOk X.prog X.w H' g):Inv X aI σ H' { s with heap:=g }:=by
 refine I.step (g':=s.gens) (d':=s.drawn) (t':=s.toks) (ch:=ch) (fun b hb=>?_) (fun b o _ _ hc e _=>k b o hc e) (fun b o _ _ hc e _=>⟨o.slots,k b o hc e⟩) (fun b o _ e n=>hN b o e n)
  (fun b o hc e=>⟨o,k b o hc e⟩) (fun b xs e=>hH b _ e) (fun b o u e=>hH b _ e) (fun b ps e=>⟨#[],by rw [hH b _ e];simp⟩) (fun m hm=>?_) hok I.bare
 ·obtain ⟨_,f1,_,f3,f4,f5⟩:=hf b hb
  exact ⟨f3,f1,f4,f5⟩
 ·obtain ⟨o,es,ep,ho,r⟩:=hm
  exact ⟨o,es,ep,k _ o (fun hb=>(hf _ hb).2.1 rfl) ho,r⟩
theorem b8.put (e:b8 H H1)(h:H1 p=none):b8 H (upd H1 p o):=fun b u q=>by rw [aX (aV (e b u q) h)];exact e b u q
theorem Inv.big (I:Inv X aI σ H s):fY<s.heap.objs.size:=by
 have h:bC<s.heap.objs.size:=(I.mod.glob.keeps I.bk).lt;exact Nat.lt_trans (by decide) h
theorem dk_empty (h:bX)(hb:fY<h.objs.size):hW P w H (h.push { cls:= .type "dict",data:= .dict #[] }) h.objs.size (.dK []) :=
 ⟨cz _,beq_eq_false_iff_ne.mpr (cO (cg hb)),[],.nil,bX.DictOf.new h⟩
def tDNewK:TE:=fun _ H Q=>∀ p,H p=none→Q (.ref p) (upd H p (.dK []))
theorem pe_dnewK:PE X (.Dict [] [] pos) tDNewK:=fun aI s σ H Q I h =>
 wpAny_Dict_empty ⟨.ref s.heap.objs.size,_,I.laid (a:=s.heap.objs.size) (o:= .dK []) (t':=s.toks) (fun _ _ q=>ao _ q) (az _) (dk_empty s.heap I.big),rfl,h _ (I.hok.fresh (az _))⟩
theorem PE.imp {t t':TE}(h:PE X e t)(i:∀ σ H Q,t' σ H Q→t σ H Q):PE X e t':=fun aI s σ H Q I q=>h aI s σ H Q I (i σ H Q q)
theorem OpR.imp {f:ag→ag→Sem ag}{r r':R2}(h:OpR X f r)(i:∀ x y H Q,r' x y H Q→r x y H Q):OpR X f r':=fun aI s σ H x y v u Q I rx ry q=>h aI s σ H x y v u Q I rx ry (i x y H Q q)
theorem iK.imp {f:ag}{r r':List V→Hp→VK→Prop}(h:iK X f r)(i:∀ xs H Q,r' xs H Q→r xs H Q):iK X f r':=fun aI s σ H xs us Q I rv q=>h aI s σ H xs us Q I rv (i xs H Q q)
theorem SlR.imp {r:V→Option Int→Option Int→Hp→VK→Prop}(h:SlR X r)(i:∀ x lo hi H Q,r' x lo hi H Q→r x lo hi H Q):SlR X r':=fun aI s σ H x v vl vu lo hi sl Q I rx hs pl pu q=>h aI s σ H x v vl vu lo hi sl Q I rx hs pl pu (i x lo hi H Q q)
def tACut (t:TA):TA:=fun σ H R=>∃ R':List V→Hp→Prop,(∀ xs H,R' xs H→R xs H)∧t σ H R'
theorem PA.cut {t:TA}(h:PA X es t):PA X es (tACut t):=fun pos aI s σ H Q I ⟨R',i,q⟩ =>
 thn (h pos aI s σ H R' I q) fun us s' ⟨vs,H',I',rv,q'⟩=>⟨vs,H',I',rv,i _ _ q'⟩
def New (H:Hp)(o:HO)(Q:VK):Prop:=∀ p H',b8 H H'→H' p=some o→Q (.ref p) H'
theorem New.of {Q:VK}(h:New H o Q):∀ p,H p=none→Q (.ref p) (upd H p o):=fun p hp=>h p _ (b8.put (b8.refl H) hp) aP
def tTupA (t:TA):TE:=fun σ H Q=>t σ H fun xs H1=>xs.length≤au∧New H1 (.tup xs) Q
def tLstA (t:TA):TE:=fun σ H Q=>t σ H fun xs H1=>xs.length≤au∧New H1 (.lst xs) Q
theorem eP {t:TA}{x1}(h:PA X es t):PE X (.Tuple es x1 pos) (tTupA t):=(pe_tup h.cut).imp fun _ _ _ q=>⟨_,fun _ _ z=>⟨z.1,z.2.of⟩,q⟩
theorem hI {t:TA}(h:PA X es t):PE X (.List es pos) (tLstA t):=(jK h.cut).imp fun _ _ _ q=>⟨_,fun _ _ z=>⟨z.1,z.2.of⟩,q⟩
theorem lL:SlR X (fun x lo hi H Q=>∃ a xs,x= .ref a∧SqT X.K H a xs∧¬ (HT.sIx xs.length 0 lo=0∧HT.sIx xs.length xs.length hi=xs.length)∧New H (.tup (pw xs lo hi)) Q) :=
 sl_tup.imp fun _ _ _ _ _ ⟨a,xs,e,h,n,q⟩=>⟨a,xs,e,h,n,q.of⟩
theorem call_listA:iK X (.type "list") (fun xs H Q=>∃ p ys,xs=[.ref p]∧(SqL X.K H p ys∨SqT X.K H p ys)∧New H (.lst ys) Q) :=
 nc.imp fun _ _ _ ⟨p,ys,e,h,q⟩=>⟨p,ys,e,h,q.of⟩
theorem jh:OpR X (gY .Add) (fun x y H Q=>∃ l b xs zs,x= .ref l∧y= .ref b∧H l=some (.lst xs)∧H b=some (.lst zs)∧xs.length+zs.length≤au∧New H (.lst (xs++zs)) Q) :=
 op_cat.imp fun _ _ _ _ ⟨l,b,xs,zs,e1,e2,e3,e4,e5,q⟩=>⟨l,b,xs,zs,e1,e2,e3,e4,e5,q.of⟩
inductive Dt where
 | non | bl (b:Bool) | int (i:Int) | str (x:Str) | tup (ds:List Dt) | oth (T:String)
mutual
inductive IsD (H:Hp):V→Dt→Prop where
 | non:IsD H .non .non
 | bl (b:Bool):IsD H (.bl b) (.bl b)
 | int (i:Int):IsD H (.int i) (.int i)
 | str (x:Str):IsD H (.str x) (.str x)
 | tup {a:ak} {xs:List V} {ds:List Dt} (h:H a=some (.tup xs)) (r:gP H xs ds):IsD H (.ref a) (.tup ds)
 | lst {a:ak} {xs:List V} (h:H a=some (.lst xs)):IsD H (.ref a) (.oth "list")
 | dct {a:ak} {kvs:List (Key×V)} (h:H a=some (.dK kvs)):IsD H (.ref a) (.oth "dict")
inductive gP (H:Hp):List V→List Dt→Prop where
 | nil:gP H [] []
 | cons {x:V} {d:Dt} {xs:List V} {ds:List Dt} (h:IsD H x d) (r:gP H xs ds):gP H (x::xs) (d::ds)
end
mutual
theorem IsD.same {H H':Hp}(e:b8 H H'):∀ {v:V} {d:Dt},IsD H v d→IsD H' v d
 | _,_,.non=> .non
 | _,_,.bl b=> .bl b
 | _,_,.int i=> .int i
 | _,_,.str x=> .str x
 | _,_,.tup h r=> .tup (e _ _ h) (gP.same e r)
 | _,_,.lst h=> .lst (e _ _ h)
 | _,_,.dct h=> .dct (e _ _ h)
theorem gP.same {H H':Hp}(e:b8 H H'):∀ {vs:List V} {ds:List Dt},gP H vs ds→gP H' vs ds
 | _,_,.nil=> .nil
 | _,_,.cons h r=> .cons (IsD.same e h) (gP.same e r)
end
mutual
theorem IsD.inj {H:Hp}:∀ {v:V} {d e:Dt},IsD H v d→IsD H v e→d=e
 | _,_,_,.non,.non=>rfl
 | _,_,_,.bl _,.bl _=>rfl
 | _,_,_,.int _,.int _=>rfl
 | _,_,_,.str _,.str _=>rfl
 | _,_,_,.tup h r,q=>by
  cases q with
  | tup h' r'=>rw [h] at h';cases h';rw [gP.inj r r']
  | lst h'=>rw [h] at h';cases h'
  | dct h'=>rw [h] at h';cases h'
 | _,_,_,.lst h,q=>by
  cases q with
  | tup h' r'=>rw [h] at h';cases h'
  | lst h'=>rfl
  | dct h'=>rw [h] at h';cases h'
 | _,_,_,.dct h,q=>by
  cases q with
  | tup h' r'=>rw [h] at h';cases h'
  | lst h'=>rw [h] at h';cases h'
  | dct h'=>rfl
theorem gP.inj {H:Hp}:∀ {vs:List V} {ds es:List Dt},gP H vs ds→gP H vs es→ds=es
 | _,_,_,.nil,.nil=>rfl
 | _,_,_,.cons h r,.cons h' r'=>by rw [IsD.inj h h',gP.inj r r']
end
theorem gP.length:∀ {xs:List V} {ds:List Dt},gP H xs ds→xs.length=ds.length
 | _,_,.nil=>rfl
 | _,_,.cons _ r=>by rw [aD,aD,gP.length r]
theorem gP.get:∀ {xs:List V} {ds:List Dt} {i:Nat} {x:V},gP H xs ds→xs[i]? =some x→∃ d,ds[i]? =some d∧IsD H x d
 | _,_,_,_,.nil,e=>by simp at e
 | _,_,0,_,.cons h _,e=>by simp at e;subst e;exact ⟨_,rfl,h⟩
 | _,_,i+1,x,.cons _ r,e=>by
  obtain ⟨d,h1,h2⟩:=gP.get (i:=i) (x:=x) r (by simpa using e);exact ⟨d,by simpa using h1,h2⟩
theorem gP.at:∀ {xs:List V} {ds:List Dt} {i:Nat} {d:Dt},gP H xs ds→ds[i]? =some d→∃ x,xs[i]? =some x∧IsD H x d
 | _,_,_,_,.nil,e=>by simp at e
 | _,_,0,_,.cons h _,e=>by simp at e;subst e;exact ⟨_,rfl,h⟩
 | _,_,i+1,d,.cons _ r,e=>by
  obtain ⟨x,h1,h2⟩:=gP.at (i:=i) (d:=d) r (by simpa using e);exact ⟨x,by simpa using h1,h2⟩
theorem gP.append:∀ {xs ys:List V} {ds es:List Dt},gP H xs ds→gP H ys es→gP H (xs++ys) (ds++es)
 | _,_,_,_,.nil,s=>s
 | _,_,_,_,.cons h r,s=> .cons h (gP.append r s)
theorem gP.one {x:V}{d:Dt}(h:IsD H x d):gP H [x] [d]:= .cons h .nil
theorem gP.ints:∀ (ns:List Int),gP H (ns.map V.int) (ns.map Dt.int)
 | []=> .nil
 | n::r=> .cons (.int n) (gP.ints r)
theorem gP.ints_of:∀ {xs:List V} {ns:List Int},gP H xs (ns.map Dt.int)→xs=ns.map V.int
 | _,[],.nil=>rfl
 | _,n::r,.cons h q=>by cases h;rw [gP.ints_of q];rfl
theorem IsD.tup_of {ds:List Dt}(h:IsD H v (.tup ds)):∃ a xs,v= .ref a∧H a=some (.tup xs)∧gP H xs ds:=by
 cases h with
 | tup h r=>exact ⟨_,_,rfl,h,r⟩
mutual
def eqD:Dt→Dt→Bool
 | .non,.non=>true
 | .bl a,.bl b=>a == b
 | .bl a,.int b=>(if a then 1 else 0) == b
 | .int a,.bl b=>a == (if b then 1 else 0)
 | .int a,.int b=>a == b
 | .str a,.str b=>a == b
 | .tup xs,.tup ys=>eqDs xs ys
 | _,_=>false
def eqDs:List Dt→List Dt→Bool
 | [],[]=>true
 | x::xs,y::ys=>eqD x y && eqDs xs ys
 | _,_=>false
end
mutual
def pl:Dt→Bool
 | .oth _=>false
 | .tup ds=>pls ds
 | _=>true
def pls:List Dt→Bool
 | []=>true
 | d::ds=>pl d && pls ds
end
mutual
def dep:Dt→Nat
 | .tup ds=>deps ds+1
 | _=>0
def deps:List Dt→Nat
 | []=>0
 | d::ds=>max (dep d) (deps ds)
end
mutual
theorem eqD_refl:∀ d:Dt,pl d=true→eqD d d=true
 | .non,_=>by unfold eqD;rfl
 | .bl b,_=>by unfold eqD;exact beq_self_eq_true b
 | .int i,_=>by unfold eqD;exact beq_self_eq_true i
 | .str x,_=>by unfold eqD;exact beq_self_eq_true x
 | .tup ds,h=>by
  unfold eqD;unfold pl at h;exact mx ds h
 | .oth T,h=>by unfold pl at h;cases h
theorem mx:∀ ds:List Dt,pls ds=true→eqDs ds ds=true
 | [],_=>by unfold eqDs;rfl
 | d::ds,h=>by
  unfold eqDs;unfold pls at h;rw [bY] at h;rw [eqD_refl d h.1,mx ds h.2];rfl
end
theorem eqD_tup (xs ys:List Dt):eqD (.tup xs) (.tup ys)=eqDs xs ys:=by unfold eqD;rfl
theorem nP:∀ (ds es:List Dt),eqDs ds es=((cq (min ds.length es.length)).all (fun j=>eqD (ds.getD j .non) (es.getD j .non)) && ds.length == es.length)
 | [],[]=>by unfold eqDs;rfl
 | [],e::es=>by unfold eqDs;simp
 | d::ds,[]=>by unfold eqDs;simp
 | d::ds,e::es=>by
  unfold eqDs;rw [nP ds es];rw [aD,aD];have h1:min (ds.length+1) (es.length+1)=min ds.length es.length+1:=by lia
  rw [h1,List.range_succ_eq_map,List.all_cons,List.all_map];have h2:((ds.length+1) == (es.length+1))=(ds.length == es.length):=by rw [j5];simp
  rw [h2,Bool.and_assoc];rfl
theorem lM:∀ {ds:List Dt} {i:Nat} {d:Dt},pls ds=true→ds[i]? =some d→pl d=true
 | [],_,_,_,e=>by simp at e
 | d::ds,0,_,h,e=>by
  unfold pls at h;rw [bY] at h;simp at e;subst e;exact h.1
 | d::ds,i+1,x,h,e=>by
  unfold pls at h;rw [bY] at h;exact lM (i:=i) h.2 (by simpa using e)
theorem nQ:∀ {ds:List Dt} {i:Nat} {d:Dt},ds[i]? =some d→dep d≤deps ds
 | [],_,_,e=>by simp at e
 | d::ds,0,_,e=>by
  simp at e;subst e;unfold deps;exact Nat.le_max_left _ _
 | d::ds,i+1,x,e=>by
  have:=nQ (ds:=ds) (i:=i) (d:=x) (by simpa using e);unfold deps;exact cn this (Nat.le_max_right _ _)
theorem Inv.tupD {ds:List Dt}(I:Inv X aI σ H s)(h:IsD H v (.tup ds))(r:gU v u):∃ a its,u= .ref a∧v= .ref a∧s.heap.IsTuple a its.toArray∧∃ xs,gr xs its∧gP H xs ds∧its.length=ds.length:=by
 obtain ⟨a,xs,rfl,ha,hd⟩:=h.tup_of;cases (show u=ag.ref a from r);obtain ⟨its,rv,p,_⟩:=I.tuple (SqT.of (K:=X.K) ha);exact ⟨a,its,rfl,rfl,p,xs,rv,hd,by rw [←rv.length,hd.length]⟩
theorem eqAt_D:∀ (n:Nat) {A:b9} {x y:V} {u v:ag} {d e:Dt},dep d≤n→A.units+n<ji→Inv X aI σ H s→IsD H x d→IsD H y e→gU x u→gU y v→pl d=true→pl e=true→bP A s u v (eqD d e):=by
 intro n
 induction n with
 | zero =>
  intro A x y u v d e hd hu I ix iy rx ry px py;cases ix with
  | tup h r=>unfold dep at hd;lia
  | lst h=>unfold pl at px;cases px
  | dct h=>unfold pl at px;cases px
  | non =>
   cases iy with
   | tup h' r' =>
    obtain ⟨a,its,rfl,_,hb,_⟩:=I.tupD (.tup h' r') ry;cases rx;exact bP.none_tuple hb (by lia)
   | lst h'=>unfold pl at py;cases py
   | dct h'=>unfold pl at py;cases py
   | non=>exact jA rx ry rfl rfl
   | bl b=>exact jA rx ry rfl rfl
   | int b=>exact jA rx ry rfl rfl
   | str b=>exact jA rx ry rfl rfl
  | bl b =>
   cases iy with
   | tup h' r' =>
    obtain ⟨a,its,rfl,_,hb,_⟩:=I.tupD (.tup h' r') ry;cases rx;exact bP.bool_tuple b hb (by lia)
   | lst h'=>unfold pl at py;cases py
   | dct h'=>unfold pl at py;cases py
   | non=>exact jA rx ry rfl rfl
   | bl b=>exact jA rx ry rfl rfl
   | int b=>exact jA rx ry rfl rfl
   | str b=>exact jA rx ry rfl rfl
  | int i =>
   cases iy with
   | tup h' r' =>
    obtain ⟨a,its,rfl,_,hb,_⟩:=I.tupD (.tup h' r') ry;obtain ⟨t,rfl⟩:=rx;exact bP.int_tuple i t hb (by lia)
   | lst h'=>unfold pl at py;cases py
   | dct h'=>unfold pl at py;cases py
   | non=>exact jA rx ry rfl rfl
   | bl b=>exact jA rx ry rfl rfl
   | int b=>exact jA rx ry rfl rfl
   | str b=>exact jA rx ry rfl rfl
  | str z =>
   cases iy with
   | tup h' r' =>
    obtain ⟨a,its,rfl,_,hb,_⟩:=I.tupD (.tup h' r') ry;obtain ⟨t,rfl⟩:=rx;exact bP.str_tuple z t hb (by lia)
   | lst h'=>unfold pl at py;cases py
   | dct h'=>unfold pl at py;cases py
   | non=>exact jA rx ry rfl rfl
   | bl b=>exact jA rx ry rfl rfl
   | int b=>exact jA rx ry rfl rfl
   | str b=>exact jA rx ry rfl rfl
 | succ n ih =>
  intro A x y u v d e hd hu I ix iy rx ry px py
  by_cases hz:dep d=0
  ·
   cases ix with
   | tup h r=>unfold dep at hz;lia
   | lst h=>unfold pl at px;cases px
   | dct h=>unfold pl at px;cases px
   | non=>exact ih (by rw [hz];exact cz _) (by lia) I .non iy rx ry px py
   | bl b=>exact ih (by rw [hz];exact cz _) (by lia) I (.bl b) iy rx ry px py
   | int i=>exact ih (by rw [hz];exact cz _) (by lia) I (.int i) iy rx ry px py
   | str z=>exact ih (by rw [hz];exact cz _) (by lia) I (.str z) iy rx ry px py
  ·cases ix with
   | lst h=>unfold pl at px;cases px
   | dct h=>unfold pl at px;cases px
   | non=>exact pF (by unfold dep;rfl) hz
   | bl b=>exact pF (by unfold dep;rfl) hz
   | int i=>exact pF (by unfold dep;rfl) hz
   | str z=>exact pF (by unfold dep;rfl) hz
   | tup h r =>
    rename_i a xs ds;cases (show u=ag.ref a from rx);obtain ⟨its,rv,p,_⟩:=I.tuple (SqT.of (K:=X.K) h);have p:s.heap.IsTuple a its.toArray:=p;cases iy with
    | lst h'=>unfold pl at py;cases py
    | dct h'=>unfold pl at py;cases py
    | non=>cases ry;exact bP.tuple_none p (by lia)
    | bl b=>cases ry;exact bP.tuple_bool b p (by lia)
    | int b=>obtain ⟨t,rfl⟩:=ry;exact bP.tuple_int b t p (by lia)
    | str b=>obtain ⟨t,rfl⟩:=ry;exact bP.tuple_str b t p (by lia)
    | tup h' r' =>
     rename_i b ys es;cases (show v=ag.ref b from ry)
     by_cases hab:a=b
     ·subst hab
      have e1:Dt.tup ds=Dt.tup es:=IsD.inj (.tup h r) (.tup h' r');rw [e1];rw [eqD_refl _ py];exact bP.same _
     ·obtain ⟨its2,rv2,p2,_⟩:=I.tuple (SqT.of (K:=X.K) h')
      have p2:s.heap.IsTuple b its2.toArray:=p2;have l1:its.length=ds.length:=by rw [←rv.length,r.length]
      have l2:its2.length=es.length:=by rw [←rv2.length,r'.length]
      have pd:pls ds=true:=by unfold pl at px;exact px
      have pe:pls es=true:=by unfold pl at py;exact py
      have hd':deps ds≤n:=by unfold dep at hd;lia
      have key:=SeqAt.RcAt.tuples (A:=A) (e:=fun j=>eqD (ds.getD j .non) (es.getD j .non)) p p2 (by lia) fun j h1 h2=>by
       have h1':j<its.length:=by simpa using h1
       have h2':j<its2.length:=by simpa using h2
       obtain ⟨x',ex,dx⟩:=r.at (i:=j) (d:=ds[j]'(by lia)) (gE (by lia));obtain ⟨y',ey,dy⟩:=r'.at (i:=j) (d:=es[j]'(by lia)) (gE (by lia));obtain ⟨u',eu,ru⟩:=rv.get ex;obtain ⟨v',ev,rw'⟩:=rv2.get ey;have eu':its[j]=u':=by rw [gE h1'] at eu;exact bu eu
       have ev':its2[j]=v':=by rw [gE h2'] at ev;exact bu ev
       have g1:ds.getD j .non=ds[j]'(by lia):=by rw [bh,gE (by lia)];rfl
       have g2:es.getD j .non=es[j]'(by lia):=by rw [bh,gE (by lia)];rfl
       show bP A.in1 s (its.toArray[j]) (its2.toArray[j]) (eqD (ds.getD j .non) (es.getD j .non));rw [dY,dY,eu',ev',g1,g2];exact ih (cn (nQ (gE (by lia))) hd') (by show A.units+1+n<ji;lia) I dx dy ru rw' (lM pd (gE (by lia))) (lM pe (gE (by lia)))
      have e2:eqD (.tup ds) (.tup es)=((cq (min its.toArray.size its2.toArray.size)).all (fun j=>eqD (ds.getD j .non) (es.getD j .non)) && its.toArray.size == its2.toArray.size):=by
       rw [eqD_tup,nP,aA,aA,l1,l2]
      rw [e2];exact bP.of_refs hab key
theorem op_eqD (hu:X.A.units+64<ji):OpR X (dj .Eq) (fun x y H Q=>∃ ds es,IsD H x (.tup ds)∧IsD H y (.tup es)∧pls ds=true∧pls es=true∧deps ds<60∧Q (.bl (eqDs ds es)) H):=by
 intro aI s σ H x y v u Q I rx ry h;obtain ⟨ds,es,ix,iy,pd,pe,hd,q⟩:=h;obtain ⟨a,xs,rfl,ha,r⟩:=ix.tup_of;obtain ⟨b,ys,rfl,hb,r'⟩:=iy.tup_of;cases (show v=ag.ref a from rx);cases (show u=ag.ref b from ry);obtain ⟨its,rv,p,_⟩:=I.tuple (SqT.of (K:=X.K) ha);obtain ⟨its2,rv2,p2,_⟩:=I.tuple (SqT.of (K:=X.K) hb);have p:s.heap.IsTuple a its.toArray:=p;have p2:s.heap.IsTuple b its2.toArray:=p2;have l1:its.length=ds.length:=by rw [←rv.length,r.length]
 have l2:its2.length=es.length:=by rw [←rv2.length,r'.length]
 refine SeqAt.eq_tupleAt (e:=fun j=>eqD (ds.getD j .non) (es.getD j .non)) p p2 (by lia) (fun j h1 h2=>?_) (dH I q ?_)
 ·have h1':j<its.length:=by simpa using h1
  have h2':j<its2.length:=by simpa using h2
  obtain ⟨x',ex,dx⟩:=r.at (i:=j) (d:=ds[j]'(by lia)) (gE (by lia));obtain ⟨y',ey,dy⟩:=r'.at (i:=j) (d:=es[j]'(by lia)) (gE (by lia));obtain ⟨u',eu,ru⟩:=rv.get ex;obtain ⟨v',ev,rw'⟩:=rv2.get ey;have eu':its[j]=u':=by rw [gE h1'] at eu;exact bu eu
  have ev':its2[j]=v':=by rw [gE h2'] at ev;exact bu ev
  have g1:ds.getD j .non=ds[j]'(by lia):=by rw [bh,gE (by lia)];rfl
  have g2:es.getD j .non=es[j]'(by lia):=by rw [bh,gE (by lia)];rfl
  show bP X.A.in1 s (its.toArray[j]) (its2.toArray[j]) (eqD (ds.getD j .non) (es.getD j .non));rw [dY,dY,eu',ev',g1,g2];exact eqAt_D 60 (cn (nQ (gE (by lia))) (by lia)) (by show X.A.units+1+60<ji;lia) I dx dy ru rw' (lM pd (gE (by lia))) (lM pe (gE (by lia)))
 ·rw [nP,aA,aA,l1,l2]
end L2
variable {ds:List L2.Dt}
namespace L2
open PySem PySem.Spec PyProof.Rows
theorem strs_are:∀ {zs:List Str} {us:List ag},gr (zs.map V.str) us→StrsAre us zs
 | [],_,.nil=> .nil
 | z::zs,_,.cons r t=>by
  obtain ⟨tk,rfl⟩:=(show ∃ t,_=ag.str z t from r);exact .cons z tk (strs_are t)
theorem vals_strs:∀ (l:List (Str×Tok)),gr ((l.map (·.1)).map V.str) (strValues l)
 | []=> .nil
 | p::r=> .cons ⟨p.2,rfl⟩ (vals_strs r)
theorem mt_join:MtM X "str.join" (fun x vs H Q=>∃ z p zs,x= .str z∧vs=[.ref p]∧SqL X.K H p (zs.map V.str)∧z.length≤16∧(zs.map (·.length)).sum+zs.length≤1048576∧Q (.str (iA z zs)) H):=by
 intro aI s σ H x vs v us Q I rx rv h;obtain ⟨z,p,zs,rfl,rfl,hq,hz,hw,q⟩:=h;obtain ⟨t,rfl⟩:=(show ∃ t,v=ag.str z t from rx);obtain ⟨u,rfl,ru⟩:=rv.one;cases (show u=ag.ref p from ru);obtain ⟨its,r,pl,_⟩:=I.list hq;exact join_listW pl.isList (by simpa using strs_are r) hz hw fun t' k=>⟨.str _,H,I.tok k,⟨t',rfl⟩,q⟩
theorem split_run {y:Str}{t u:Tok}(hy:(y.length == 0)=false)(hsz:x.length+2≤au)
  (h:∀ (l:List (Str×Tok)) (tk:Nat),l.map (·.1)=cM x y→Q (.ref s.heap.objs.size) { s with heap:=s.heap.push { cls:= .type "list",data:= .seq (strValues l).toArray },toks:=tk }) :
  bo (bQ prog w) A (call (.builtin "str.split") [.str x t,.str y u]) Q E s:=by
 have few:(gq x (cA x y 0 x.length (x.length+1)) y.length).length≤au:=by
  have:=StrLaws.occ_length_le x y 0 x.length (x.length+1);rw [length_partsBetween];lia
 by_cases c1:(decide (x.length<y.length) || decide (fW.Str.strKind x<fW.Str.strKind y))=true
 ·refine j8 F.slot_str_split (typeIs_str _ _ _) F.entry_str_split (F.args_str_split_2 _ _) (meets_str_split_cannot_occur x y t u c1) ?_
  refine h [(x,t)] s.toks ?_;unfold cM;rw [pE c1];rfl
 ·have c1':=fG.mpr c1
  by_cases c2:(cA x y 0 x.length (x.length+1)).isEmpty=true
  ·refine j8 F.slot_str_split (typeIs_str _ _ _) F.entry_str_split (F.args_str_split_2 _ _) (meets_str_split_not_found x y t u c1' hy c2) ?_
   refine h [(x,t)] s.toks ?_;unfold cM;rw [pB c1,pE c2];rfl
  ·refine j8 F.slot_str_split (typeIs_str _ _ _) F.entry_str_split (F.args_str_split_2 _ _) (meets_str_split_sep x y t u c1' hy (fG.mpr c2) (by lia) few) ?_
   have e:=strsFrom_eq s.toks (gq x (cA x y 0 x.length (x.length+1)) y.length);have k:=h (numbered s.toks (gq x (cA x y 0 x.length (x.length+1)) y.length)) (s.toks+(gq x (cA x y 0 x.length (x.length+1)) y.length).length) (by
    rw [numbered_texts];unfold cM;rw [pB c1,pB c2])
   rw [←e] at k;exact k
theorem mt_split:MtM X "str.split" (fun x vs H Q=>∃ z y,x= .str z∧vs=[.str y]∧(y.length == 0)=false∧z.length+2≤au∧New H (.lst ((cM z y).map V.str)) Q):=by
 intro aI s σ H x vs v us Q I rx rv h;obtain ⟨z,y,rfl,rfl,hy,hz,q⟩:=h;obtain ⟨t,rfl⟩:=(show ∃ t,v=ag.str z t from rx);obtain ⟨u,rfl,ru⟩:=rv.one;obtain ⟨t',rfl⟩:=(show ∃ t,u=ag.str y t from ru);refine split_run hy hz fun l tk e=>?_
 have hw:((cM z y).map (·.length)).sum+(cM z y).length≤z.length+1:=split_weight z y (by
  have:y.length≠0:=fun h0=>by rw [h0] at hy;cases hy
  lia)
 refine ⟨.ref s.heap.objs.size,_,I.laid (t':=tk) (o:= .lst ((cM z y).map V.str)) (fun _ _ k=>ao _ k) (az _) ⟨?_,strValues l,0,?_,aJ _ rfl⟩,rfl,q _ _ (b8.put (b8.refl H) I.fresh) aP⟩
 ·rw [ae];lia
 ·rw [←e];exact vals_strs l
theorem jB:iK X (.type "tuple") (fun xs H Q=>∃ p ys,xs=[.ref p]∧SqL X.K H p ys∧New H (.tup ys) Q) :=
 call_tuple_of.imp fun _ _ _ ⟨p,ys,e,h,q⟩=>⟨p,ys,e,.inl ⟨h,q.of⟩⟩
theorem iD:SlR X (fun x lo hi H Q=>∃ a xs,x= .ref a∧SqL X.K H a xs∧New H (.lst (pw xs lo hi)) Q) :=
 sl_list.imp fun _ _ _ _ _ ⟨a,xs,e,h,q⟩=>⟨a,xs,e,h,q.of⟩
def Its (z:Str):It:=⟨fun i _=>i<z.cps.size,fun i H x H'=>H'=H∧∃ c,z.cps[i]? =some c∧x= .str ⟨#[c]⟩,fun i _=>z.cps.size≤i⟩
theorem turn_str (it:ak)(x:Str)(t:Tok){ty:String}(hty:ty = "str_ascii_iterator" ∨ty = "str_iterator"):Turn P w K tg (Its x) [it] it (fun i h=>h.IsStrIter it ty x t i) where
 mem:=by simp
 obj:=fun i h st b hb=>by
  have e:b=it:=by simpa using hb
  subst e;obtain ⟨o,e,c,d⟩:=st;exact ⟨o,e,fun v z=>by rw [d] at z;cases z⟩
 keep:=fun i h h' st k=>by
  obtain ⟨o,e,r⟩:=st;exact ⟨o,k it (by simp) o e,r⟩
 item:=by
  intro Y hP hw hK hc i aI s σ H E I hf st hg;subst hP hw hK;obtain ⟨f0,f1,f2,f3,f4,f5⟩:=hf it (by simp);have hi:i<x.cps.size:=hg;have key:∀ h',h'.IsStrIter it ty x t (i+1)→cI it s.heap h'→∃ u,(some (ag.str ⟨#[x.cps[i]]⟩ s.toks))=some u ∧
    bo (bQ Y.prog Y.w) Y.A (kF tg (.ref it) u) (fun _ s2=>∃ x' H',Inv Y aI σ H' s2∧gU x' u∧(Its x).yld i H x' H'∧s2.heap.IsStrIter it ty x t (i+1)∧∀ b∈[it],H' b=none) E { s with heap:=h',toks:=s.toks+1 }:=fun h' st' sb=>by
   have I1:Inv Y aI σ H { s with heap:=h',toks:=s.toks+1 }:=I.turned (fun b o hb e=>(sb.2 b hb).trans e) f0 f1 f3 f4 f5;obtain ⟨o,e,c,d⟩:=id st';refine ⟨_,rfl,go_of (s:={ s with heap:=h',toks:=s.toks+1 }) e c d ?_ ⟨.str ⟨#[x.cps[i]]⟩,H,I1,⟨_,rfl⟩,⟨rfl,_,by simp [hi],rfl⟩,st',fun b hb=>(hf b hb).1⟩⟩
   rcases hty with rfl | rfl <;> decide
  rcases hty with rfl | rfl
  ·exact wpAny_pyNext_ascii_item st (c:=x.cps[i]) (by simp [hi]) fun h' st' sb=>key h' st' sb
  ·exact wpAny_pyNext_wide_item st (c:=x.cps[i]) (by simp [hi]) fun h' st' sb=>key h' st' sb
 done:=by
  intro Y hP hw hK hc i aI s σ H E I hf st hg;subst hP hw hK;obtain ⟨f0,f1,f2,f3,f4,f5⟩:=hf it (by simp);have hi:x.cps.size≤i:=hg
  rcases hty with rfl | rfl
  ·exact wpAny_pyNext_ascii_end (I.ok.hd hc) st (by simp;lia) fun h' eb=>⟨rfl,I.turned (t':=s.toks) (fun b o hb e=>eb b o hb e) f0 f1 f3 f4 f5⟩
  ·exact wpAny_pyNext_wide_end (I.ok.hd hc) st (by simp;lia) fun h' eb=>⟨rfl,I.turned (t':=s.toks) (fun b o hb e=>eb b o hb e) f0 f1 f3 f4 f5⟩
 self:=fun A i s Q E st h=>by
  rcases hty with rfl | rfl
  ·exact wpAny_pyIter_striter_ascii st h
  ·exact wpAny_pyIter_striter_wide st h
def iStr (tl:TE):TI:=fun σ H R=>tl σ H fun x H1=>∃ z,x= .str z∧R (Its z) H1
theorem pi_str {l:Expr}(hl:PE X l tl):PI X tg l (iStr tl):=by
 intro aI s σ H R I h;refine thn (hl aI s σ H _ I h) fun v s1 ⟨x,H1,I1,r1,q1⟩=>?_
 obtain ⟨z,rfl,q⟩:=q1;obtain ⟨t,rfl⟩:=(show ∃ t,v=ag.str z t from r1);have fin:∀ b∈[s1.heap.objs.size],FpOk X aI H1 b:=fun b hb=>by
  have e:b=s1.heap.objs.size:=by simpa using hb
  subst e;exact I1.fpOk (az _) I1.fresh
 cases ha:z.cps.all (· < 128) with
 | true=>exact wpAny_pyIter_ascii ha ⟨s1.heap.objs.size,[s1.heap.objs.size],_,_,H1,rfl,I1.kept (t':=s1.toks) fun b o e=>ao _ e,turn_str _ z t (.inl rfl),⟨_,aJ _ rfl,rfl,rfl⟩,fin,q⟩
 | false=>exact wpAny_pyIter_wide ha ⟨s1.heap.objs.size,[s1.heap.objs.size],_,_,H1,rfl,I1.kept (t':=s1.toks) fun b o e=>ao _ e,turn_str _ z t (.inr rfl),⟨_,aJ _ rfl,rfl,rfl⟩,fin,q⟩
theorem kit_str (K:ai)(h:T∈["NoneType","bool","int","str","list","tuple","dict"]):ja K (.type T) (.type "str")=some (T == "str"):=by
 simp only [av,aL,or_false] at h
 rcases h with rfl | rfl | rfl | rfl | rfl | rfl | rfl <;> kernel_rfl
theorem call_isStr:iK X (.builtin "isinstance") (fun xs H Q=>∃ x T,xs=[x,.ty "str"]∧tyn H x=some T∧Q (.bl (T == "str")) H) :=
 fun aI s σ H xs us Q I r ⟨x,T,e,hT,q⟩=>kL aI s σ H xs us Q I r ⟨x,_,_,_,e,.byName hT,kit_str _ (tyn_mem hT),q⟩
theorem iW {Q:VK}(Pv:Nat→List V→Hp→Prop)(h0:Pv 0 [] H)(hl:∀ i ys H,i≤xs.length→Pv i ys H→SqL K H a xs∧ys.length≤i)(hz:xs.length≤au)
  (hs:∀ i x ys H,xs[i]? =some x→Pv i ys H→tt (some x::fF σ js) H fun b H4=>if b=true then te (some x::fF σ js) H4 fun y H5=>Pv (i+1) (ys++[y]) H5 else Pv (i+1) ys H4)
  (hd:∀ ys H,Pv xs.length ys H→∀ D,H D=none→Q (.ref D) (upd H D (.lst ys))):CompW js tt te σ Q (Itl K a) H:=by
 refine ⟨fun i m ys H=>i≤xs.length∧m=xs.length - i∧Pv i ys H,⟨_,cz _,rfl,h0⟩,fun i m ys H2 ⟨hi,hm,hp⟩=>?_⟩;obtain ⟨hq,hy⟩:=hl i ys H2 hi hp
 by_cases e:i=xs.length
 ·subst e
  exact .inl ⟨⟨xs,hq,az _⟩,hd ys H2 hp⟩
 ·have hlt:i<xs.length:=dU hi e
  refine .inr ⟨⟨xs,_,hq,gE hlt⟩,by lia,Pv (i+1),fun ys' H' hp'=>⟨xs.length - (i+1),by lia,by lia,rfl,hp'⟩,fun x H3 hy3=>?_⟩;obtain ⟨e3,hx⟩:=hy3;subst e3;exact hs i x ys H3 (hx xs hq) hp
theorem mV {Q:VK}(Pv:Nat→List V→Hp→Prop)(h0:Pv 0 [] H)(hl:∀ i ys H,i≤n→Pv i ys H→ys.length≤i)(hz:n≤au)
  (hs:∀ (i:Nat) ys H,i<n→Pv i ys H→tt (some (.int (lo+i))::fF σ js) H fun b H4=>if b=true then te (some (.int (lo+i))::fF σ js) H4 fun y H5=>Pv (i+1) (ys++[y]) H5 else Pv (i+1) ys H4)
  (hd:∀ ys H,Pv n ys H→∀ D,H D=none→Q (.ref D) (upd H D (.lst ys))):CompW js tt te σ Q (Itr lo n) H:=by
 refine ⟨fun i m ys H=>i≤n∧m=n - i∧Pv i ys H,⟨_,cz _,rfl,h0⟩,fun i m ys H2 ⟨hi,hm,hp⟩=>?_⟩;have hy:=hl i ys H2 hi hp
 by_cases e:i=n
 ·subst e
  exact .inl ⟨az _,hd ys H2 hp⟩
 ·have hlt:i<n:=dU hi e
  refine .inr ⟨hlt,by lia,Pv (i+1),fun ys' H' hp'=>⟨n - (i+1),by lia,by lia,rfl,hp'⟩,fun x H3 hy3=>?_⟩;obtain ⟨e3,hx⟩:=hy3;subst e3 hx;exact hs i ys H3 hlt hp
theorem comp_str {Q:VK}(Pv:Nat→List V→Hp→Prop)(h0:Pv 0 [] H)(hl:∀ i ys H,i≤z.cps.size→Pv i ys H→ys.length≤i)(hz:z.cps.size≤au)
  (hs:∀ (i c:Nat) ys H,z.cps[i]? =some c→Pv i ys H→tt (some (.str ⟨#[c]⟩)::fF σ js) H fun b H4=>if b=true then te (some (.str ⟨#[c]⟩)::fF σ js) H4 fun y H5=>Pv (i+1) (ys++[y]) H5 else Pv (i+1) ys H4)
  (hd:∀ ys H,Pv z.cps.size ys H→∀ D,H D=none→Q (.ref D) (upd H D (.lst ys))):CompW js tt te σ Q (Its z) H:=by
 refine ⟨fun i m ys H=>i≤z.cps.size∧m=z.cps.size - i∧Pv i ys H,⟨_,cz _,rfl,h0⟩,fun i m ys H2 ⟨hi,hm,hp⟩=>?_⟩;have hy:=hl i ys H2 hi hp
 by_cases e:i=z.cps.size
 ·subst e
  exact .inl ⟨az _,hd ys H2 hp⟩
 ·have hlt:i<z.cps.size:=dU hi e
  refine .inr ⟨hlt,by lia,Pv (i+1),fun ys' H' hp'=>⟨z.cps.size - (i+1),by lia,by lia,rfl,hp'⟩,fun x H3 hy3=>?_⟩;obtain ⟨e3,c,hc,hx⟩:=hy3;subst e3 hx;exact hs i c ys H3 hc hp
end L2
namespace HN
open PySem
end HN
local macro_rules
 | `(tactic|exists $s:term) => `(tactic|(show ∀ y:cE×PySem.NameKind,y∈_→y.2=PySem.NameKind.free→fz y.1 (L2.defScope $s).names=some PySem.NameKind.cell;decide +kernel))
local macro_rules
 | `(tactic|trivial) => `(tactic|first|decide +kernel|exact ⟨rfl,rfl,rfl,by decide +kernel,rfl,by decide +kernel,by decide +kernel⟩|exact True.intro)
local macro_rules
 | `(tactic|contradiction) => `(tactic|(intro _ _ _ _ h;first | (cases h;subst_vars;rfl) | ((repeat (obtain ⟨_,h⟩:=h));subst_vars;rfl)))
namespace L2
open PySem PyProof.Rows
theorem ixZ {a:Expr}{p q:Pos}{i:Int}{j}(h:PE X a ta):PE X (.Subscript a (.Constant (.int i) j p) q) (tOp (rIxT X.K) ta (tC (.int i))):=cH ix_tup h aC (fun _ _=>rfl)
theorem szZ1:1≤au:=by decide
theorem oR:2≤au:=by decide
theorem szZ4:4≤au:=by decide
theorem szZ5:5≤au:=by decide
theorem psZ (i:Nat)(hN:X.N.Nodup)(he:PE X e te)(hi:X.N[i]? =some x:=by rfl)(hx:Loc X.env.scope x:=by first|exact .inl rfl|exact .inr rfl)(hs:swapsWith e (some (.Name x pos')) pos.line X.env=gK false:=by rfl)(hf:X.fn x=true∨X.env.scope.names.lookup x=some .local:=by first|exact .inl rfl|exact .inr rfl|assumption):PS X (.Assign [.Name x pos'] e pos) (tAsg te (mR i)):=ps_set hN hi hx he hs hf
theorem pgZ (i:Nat)(hN:X.N.Nodup)(hi:X.N[i]? =some x:=by rfl)(hx:Loc X.env.scope x:=by first|exact .inl rfl|exact .inr rfl)(hf:X.fn x=true∨X.env.scope.names.lookup x=some .local:=by first|exact .inl rfl|exact .inr rfl|assumption):PG X (.Name x pos) (mR i):=pg_name hN hi hx hf
end L2
namespace L2
abbrev pza:List cE:=["self"]
abbrev pzb:List cE:=["self","row"]
abbrev pzc:List cE:=["word"]
abbrev pzd:List cE:=["thing"]
abbrev pze:List cE:=["_law_pot_here","_law_most"]
abbrev pzf:List cE:=["_law_script","_law_k"]
abbrev pzg:List cE:=["thing","low","high"]
abbrev pzh:List cE:=["text"]
abbrev pzi:List cE:=["self","stop"]
abbrev pzj:List cE:=["beat","many","thing"]
abbrev pzk:List cE:=["beat","one","other","row"]
abbrev pzl:List cE:=["_law_beat","_law_rows"]
abbrev pzm:List cE:=["_law_rows","_law_name","_law_stop","_law_other"]
abbrev pzn:List cE:=["_law_script"]
abbrev pzo:List cE:=["_law_rows","_law_name","_law_stop"]
abbrev pzp:List cE:=["many","start","goal"]
abbrev pzq:List cE:=["beat","least","most"]
abbrev pzr:List cE:=["self","name","stops","runs","first"]
abbrev pzs:List cE:=["self","beat"]
abbrev pzt:List cE:=["one","other","row"]
abbrev pzu:List cE:=["_law_pot_here","_law_beat","_law_lines_here","_law_rows"]
abbrev pzv:List cE:=["_law_rows","_law_beat","_law_row"]
abbrev pzw:List cE:=["self","stop","after"]
abbrev pzx:List cE:=["_law_cell","_law_k"]
abbrev pzy:List cE:=["_law_pot_here","_law_lots"]
abbrev pzz:List cE:=["_law_pot_here","_law_name","_law_stops","_law_rows"]
abbrev pzA:List cE:=["_law_script","_law_names_here","_law_stops","_law_most"]
abbrev pzB:List cE:=["_law_pot_here","_law_beat"]
abbrev pzC:List cE:=["_law_lines_here","_law_rows"]
abbrev pzD:List cE:=["_law_rows","_law_kind"]
end L2
namespace HN
open PySem L2 PyProof.Rows
abbrev B60:Int:=10 ^ 60 - 1
def isI:V→Bool
 | .int _=>true
 | _=>false
def iv:V→Int
 | .int i=>i
 | _=>0
def inI (v:V)(lo hi:Int):Bool:=match v with
 | .int i=>decide (lo≤i) && decide (i≤hi)
 | _=>false
def lU (m:Int)(s g:V):Bool:=inI s 0 (m - 1) && (inI g 0 (m - 1) && !decide (s=g))
def ow (b:Int)(l o:V):Bool:=inI l 0 B60 && inI o (iv l) (if B60<iv l+b - 1 then B60 else iv l+b - 1)
def ju (H:Hp)(b m:Int)(v:V):Bool:=match v with
 | .ref a=>match H a with
  | some (.tup [s,g,l,o,w])=>lU m s g && (ow b l o && inI w 0 1000000000000)
  | _=>false
 | _=>false
def km (H:Hp)(b m:Int)(v:V):Bool:=match v with
 | .ref a=>match H a with
  | some (.tup xs)=>decide (xs.length≤40) && xs.all (ju H b m)
  | _=>false
 | _=>false
def netOk (H:Hp)(v:V):Bool:=match v with
 | .ref a=>match H a with
  | some (.tup [b,m,s])=>inI b 1 B60 && (inI m 1 16 && km H (iv b) (iv m) s)
  | _=>false
 | _=>false
def Kn (H:Hp)(v:V):Prop:=∃ T,tyn H v=some T
def Below (P:V→Prop)(H:Hp)(v:V):Prop:=Kn H v∧∀ a xs,v= .ref a→H a=some (.tup xs)→∀ x∈xs,P x
abbrev G1 (H:Hp)(v:V):Prop:=Below (Kn H) H v
abbrev G2 (H:Hp)(v:V):Prop:=Below (G1 H) H v
abbrev G3 (H:Hp)(v:V):Prop:=Below (G2 H) H v
theorem sort_int (h:tyn H v=some T):(T == "int" || T == "bool")=true→(!(T == "bool"))=isI v:=by
 cases v with
 | ref a =>
  simp only [tyn] at h;cases q:H a with
  | none=>rw [q] at h;cases h
  | some o=>rw [q] at h;cases o <;> first | (cases h;intro z;exact pF z (by decide)) | cases h
 | non=>cases h;intro z;exact pF z (by decide)
 | bl b=>cases h;intro _;show (!("bool" == "bool"))=false;decide
 | int i=>cases h;intro _;show (!("int" == "bool"))=true;decide
 | str x=>cases h;intro z;exact pF z (by decide)
 | _=>cases h
theorem sort_noInt (h:tyn H v=some T):¬ (T == "int" || T == "bool")=true→isI v=false:=by
 cases v with
 | int i=>cases h;intro z;exact pF (by decide) z
 | _=>intro _;rfl
theorem isI_of (h:isI v=true):∃ i,v= .int i:=by
 cases v with
 | int i=>exact ⟨i,rfl⟩
 | _=>cases h
theorem sort_tup (h:tyn H v=some T):(∃ a xs,v= .ref a∧H a=some (.tup xs)∧(T == "tuple")=true)∨((T == "tuple")=false∧∀ a xs,v= .ref a→H a≠some (.tup xs)):=by
 cases v with
 | ref a =>
  simp only [tyn] at h;cases q:H a with
  | none=>rw [q] at h;cases h
  | some o =>
   rw [q] at h;cases o with
   | tup xs=>cases h;exact .inl ⟨a,xs,rfl,q,by decide⟩
   | lst xs=>cases h;exact .inr ⟨by decide,fun b ys e z=>by cases e;rw [q] at z;cases z⟩
   | dK xs=>cases h;exact .inr ⟨by decide,fun b ys e z=>by cases e;rw [q] at z;cases z⟩
   | _=>cases h
 | non=>cases h;exact .inr ⟨by decide,fun a xs e=>by cases e⟩
 | bl b=>cases h;exact .inr ⟨by decide,fun a xs e=>by cases e⟩
 | int i=>cases h;exact .inr ⟨by decide,fun a xs e=>by cases e⟩
 | str x=>cases h;exact .inr ⟨by decide,fun a xs e=>by cases e⟩
 | _=>cases h
theorem spanOk_no {m:Int}(h:∀ a xs,v= .ref a→H a=some (.tup xs)→xs.length≠5):ju H b m v=false:=by
 cases v with
 | ref a =>
  simp only [ju];split
  ·rename_i s g l o w e
   exact pF rfl (h a _ rfl e)
  ·rfl
 | _=>rfl
theorem netOk_no (h:∀ a xs,v= .ref a→H a=some (.tup xs)→xs.length≠3):netOk H v=false:=by
 cases v with
 | ref a =>
  simp only [netOk];split
  ·rename_i b m s e
   exact pF rfl (h a _ rfl e)
  ·rfl
 | _=>rfl
theorem oT {m:Int}(h:∀ a xs,v= .ref a→H a=some (.tup xs)→40<xs.length):km H b m v=false:=by
 cases v with
 | ref a =>
  simp only [km];split
  ·rename_i xs e
   have:=h a _ rfl e;rw [pH (by lia)];rfl
  ·rfl
 | _=>rfl
theorem len5 (h:xs.length=5):∃ a b c d e,xs=[a,b,c,d,e]:=by
 match xs,h with
 | [a,b,c,d,e],_=>exact ⟨a,b,c,d,e,rfl⟩
theorem len3 (h:xs.length=3):∃ a b c,xs=[a,b,c]:=by
 match xs,h with
 | [a,b,c],_=>exact ⟨a,b,c,rfl⟩
theorem oA {b:Bool}{A B:Prop}(h:b=true)(x:A):if b=true then A else B:=by rw [pE h];exact x
theorem iL {b:Bool}{A B:Prop}(h:b=false)(x:B):if b=true then A else B:=by rw [pB (by rw [h];exact bz)];exact x
structure Nm (mg:Str→Option ag):Prop where
 isin:mg "isinstance" =none
 tint:mg "int" =none
 tbool:mg "bool" =none
 ttup:mg "tuple" =none
 len:mg "len" =none
 min:mg "min" =none
 all:mg "all" =none
structure Cs (mg:Str→Option ag):Prop where
 mh:∃ t,mg "MOST_HAPPENINGS" =some (.int 16 t)
 ms:∃ t,mg "MOST_SPANS" =some (.int 40 t)
 mw:∃ t,mg "MOST_WEIGHT" =some (.int 1000000000000 t)
structure Fn (K:ai)(mg:Str→Option ag)(x:Str)(st:cN)(ps:List Str)(f:ak)(fd:aZ):Prop where
 F:Fun K x x st f fd
 mg:mg x=some (.ref f)
 b:Binds K fd ps []
theorem pc1 {p:Pos}{t:TA}(G:Fn X.K X.mg x st ps f fd)(F:c7 X.prog X.w X.K X.mg X.base CX0 k f fd ps sp)(hr:jJ k X.A)
  (ha:PA X (e::es) t) (hg:Gl X x:=by rfl) (hdb:(x == ("__debug__" :Str))=false:=by decide) (he:bw (e::es) X.env=(false,dn e X.env)::bw es X.env:=by rfl) (hpl:(gk pos (bw es X.env)).any (·.1)=false:=by rfl) :
  PE X (.Call (.Name x p) (e::es) [] pos) (tCall sp [] E0 t):=pe_call F hr hg G.mg G.F.kp G.b .nil hV ha hdb he hpl
theorem pc0 {p:Pos}(G:Fn X.K X.mg x st [] f fd)(F:c7 X.prog X.w X.K X.mg X.base CX0 k f fd [] sp)(hr:jJ k X.A)
  (hg:Gl X x:=by rfl) (hdb:(x == ("__debug__" :Str))=false:=by decide):PE X (.Call (.Name x p) [] [] pos) (tCall sp [] E0 tNil):=pe_call0 F hr hg G.mg G.F.kp G.b .nil hV hdb
theorem lN {i:Int}(hm:∃ t,X.mg x=some (.int i t))(hg:Gl X x:=by rfl)(hd:(x == ("__debug__" :Str))=false:=by decide):PE X (.Name x pos) (tC (.int i)) :=
 let ⟨t,e⟩:=hm;oj (v:= .int i) (u:= .int i t) hg e ⟨t,rfl⟩ hd
theorem lp {p:Pos}(N:Nm X.mg)(he:PE X e te)(hg:Gl X "isinstance" := by rfl)(hg2:Gl X "tuple" := by rfl)
  (hs1:bw [e,.Name "tuple" p2] X.env=(false,dn e X.env)::bw [.Name "tuple" p2] X.env:=by rfl) (hpl:(gk pos (bw [.Name "tuple" p2] X.env)).any (·.1)=false:=by rfl) :
  PE X (.Call (.Name "isinstance" p) [e,.Name "tuple" p2] [] pos) (tCB (fun xs H Q=>∃ x T,xs=[x,.ty "tuple"]∧tyn H x=some T∧Q (.bl (T == "tuple")) H) (nU te (nU (tC (.ty "tuple")) tNil))) :=
 bU call_isTup hg N.isin boot_isinstance (af he (af (pe_bltn hg2 N.ttup jD rfl) aw) hs1) (he:=hs1) (hpl:=hpl)
theorem pe_isInt {p:Pos}(N:Nm X.mg)(he:PE X e te)(hg:Gl X "isinstance" := by rfl)(hg2:Gl X "int" := by rfl)
  (hs1:bw [e,.Name "int" p2] X.env=(false,dn e X.env)::bw [.Name "int" p2] X.env:=by rfl) (hpl:(gk pos (bw [.Name "int" p2] X.env)).any (·.1)=false:=by rfl) :
  PE X (.Call (.Name "isinstance" p) [e,.Name "int" p2] [] pos) (tCB (fun xs H Q=>∃ x T,xs=[x,.ty "int"]∧tyn H x=some T∧Q (.bl (T == "int" || T == "bool")) H) (nU te (nU (tC (.ty "int")) tNil))) :=
 bU call_isInt hg N.isin boot_isinstance (af he (af (pe_bltn hg2 N.tint boot_int rfl) aw) hs1) (he:=hs1) (hpl:=hpl)
theorem pe_isBool {p:Pos}(N:Nm X.mg)(he:PE X e te)(hg:Gl X "isinstance" := by rfl)(hg2:Gl X "bool" := by rfl)
  (hs1:bw [e,.Name "bool" p2] X.env=(false,dn e X.env)::bw [.Name "bool" p2] X.env:=by rfl) (hpl:(gk pos (bw [.Name "bool" p2] X.env)).any (·.1)=false:=by rfl) :
  PE X (.Call (.Name "isinstance" p) [e,.Name "bool" p2] [] pos) (tCB (fun xs H Q=>∃ x T,xs=[x,.ty "bool"]∧tyn H x=some T∧Q (.bl (T == "bool")) H) (nU te (nU (tC (.ty "bool")) tNil))) :=
 bU call_isBool hg N.isin boot_isinstance (af he (af (pe_bltn hg2 N.tbool boot_bool rfl) aw) hs1) (he:=hs1) (hpl:=hpl)
def spGW:Sp:=fun vs H Q _=>vs=[]∧Q (.int B60) H
inductive spWhole (vs:List V)(H:Hp)(Q:VK)(_:XK):Prop
 | mk (v:_)(_:vs=[v])(_:Kn H v)(_:Q (.bl (isI v)) H)
inductive l7 (vs:List V)(H:Hp)(Q:VK)(_:XK):Prop
 | mk (v lo hi:_)(_:vs=[v,.int lo,.int hi])(_:Kn H v)(_:Q (.bl (inI v lo hi)) H)
inductive spEnds (vs:List V)(H:Hp)(Q:VK)(_:XK):Prop
 | mk (m s g:_)(_:vs=[.int m,s,g])(_:Kn H s)(_:Kn H g)(_:Q (.bl (lU m s g)) H)
inductive spLens (vs:List V)(H:Hp)(Q:VK)(_:XK):Prop
 | mk (b l o:_)(_:vs=[.int b,l,o])(_:Kn H l)(_:Kn H o)(_:Q (.bl (ow b l o)) H)
inductive spSpan (vs:List V)(H:Hp)(Q:VK)(_:XK):Prop
 | mk (b m v:_)(_:vs=[.int b,.int m,v])(_:G1 H v)(_:Q (.bl (ju H b m v)) H)
inductive spNet (vs:List V)(H:Hp)(Q:VK)(_:XK):Prop
 | mk (v:_)(_:vs=[v])(_:G3 H v)(_:∀ H',b8 H H'→Q (.bl (netOk H v)) H')
end HN
namespace L2
open PySem PySem.Spec PyProof.Rows
theorem ps_setCC {iy:Nat}{y0:Str}{py spos:Pos}{xs:List Str}
  (hN0:X.N.Nodup) (hi0:X.N[iy]? =some y0) (hx0:Loc X.env.scope y0) (hc:X.calm=true) (hi:PI X tg iter wi)
  (lT:∀ y∈scope.names,y.2≠ .cell) (mO:scope.kind= .function) (mq:∀ y∈scope.names,y.2= .local→scope.names.lookup y.1=some .local)
  (hfr:∀ y∈scope.names,y.2= .free→X.env.scope.names.lookup y.1=some .cell) (hjs:js.map (fun j=>X.N[j]?)=fr.map some) (hfv:∀ y∈fr,scope.names.lookup y=some .free)
  (hg:∀ cl C s' H' ex,PG (ik X scope cl C (xs++fr) s' H' ex) tg g)
  (hb:∀ cl C s' H' ex,PE (ik X scope cl C (xs++fr) s' H' ex) elt te∧PTs (ik X scope cl C (xs++fr) s' H' ex) ifs tt)
  (hCW:∀ σ Q J H1,CW σ Q J H1→CompWT xs.length g js tt te σ Q J H1) (hs:∀ z,iH iter X.env z=gK z:=by intro _;rfl) (hsw:swapsWith (.ListComp elt [⟨tg,iter,ifs,0⟩] scope pos) (some (.Name y0 py)) spos.line X.env=gK true:=by rfl)
  (hf0:X.fn y0=true∨X.env.scope.names.lookup y0=some .local:=by first | exact .inl rfl | exact .inr rfl | assumption) :
  PS X (.Assign [.Name y0 py] (.ListComp elt [⟨tg,iter,ifs,0⟩] scope pos) spos) (tAsg (fun σ H Q=>wi σ H fun J H1=>CW σ Q J H1) (mR iy)):=by
 intro aI s σ H Dn I h;rw [exec_Assign_Name_used _ _ _ _ hsw];refine al (wpAny_standAt (al ?_));show bo _ X.A (do let _ ← comprehension (.ListComp elt [⟨tg,iter,ifs,0⟩] scope pos) scope X.env _ (newList []) false (dn iter X.env) (some (assign (.Name y0 py) X.env))) _ _ s;refine al (eh (comp_core (use:=some (assign (.Name y0 py) X.env)) (R:=fun _ s'=>SP X aI Dn .next s') hc hi lT mO mq hfr hjs hfv hg hb hCW I h (fun s4 H5 D C mC hnC I5 nC locC fsC pinX cC sC q=>?_) hs) (fun _ s' hq=>aQ (aQ hq)) fun _ _ e=>e);obtain ⟨oC,esC,epC,hoC,rC⟩:=id hnC;have I6:Inv X ((C,oC)::aI) σ H5 s4:=I5.pins_of fun p hp=>by
  rcases av.mp hp with rfl | hp
  ·refine ⟨hoC,nC,locC,fsC,fun v z=>?_⟩
   rw [rC.1] at z;cases z
  ·exact I5.pin p (bp _ hp)
 have hPG0:PG X (.Name y0 py) (mR iy):=pg_name hN0 hi0 hx0 hf0;refine thn (hPG0 _ s4 σ _ (.ref D) (.ref D) (fun σ' H'=>Dn.nx σ' H'∧H' C=none) I6 rfl ⟨q,nC⟩) fun _ s6 ⟨σ6,H6,I7,q7,n7⟩=>?_
 have o7:=(I7.pin (C,oC) (bp _ (bG ..))).1;refine ⟨mC,⟨oC,esC,epC,o7,rC⟩,fun h' hsb=>⟨σ6,H6,?_,q7⟩⟩;have I8:Inv X aI σ6 H6 s6:=I7.pins_of fun p hp=>I7.pin p (bp _ (aO _ hp))
 exact I8.turned (t':=s6.toks) (it:=C) (fun b o hb' e=>hsb.extBut b o hb' e) n7 locC (.inr sC) cC pinX
theorem og {iy:Nat}{y0:Str}{py spos:Pos}{px:Pos}
  (hN0:X.N.Nodup) (hi0:X.N[iy]? =some y0) (hx0:Loc X.env.scope y0) (hc:X.calm=true) (hi:PI X (.Name x px) iter wi)
  (lT:∀ y∈scope.names,y.2≠ .cell) (mO:scope.kind= .function) (mq:∀ y∈scope.names,y.2= .local→scope.names.lookup y.1=some .local) (hx:scope.names.lookup x=some .local)
  (hfr:∀ y∈scope.names,y.2= .free→X.env.scope.names.lookup y.1=some .cell) (hnd:(x::fr).Nodup) (hjs:js.map (fun j=>X.N[j]?)=fr.map some) (hfv:∀ y∈fr,scope.names.lookup y=some .free)
  (hb:∀ cl C s' H' ex,PE (ik X scope cl C (x::fr) s' H' ex) elt te∧PTs (ik X scope cl C (x::fr) s' H' ex) ifs tt)
  (hs:∀ z,iH iter X.env z=gK z:=by intro _;rfl) (hsw:swapsWith (.ListComp elt [⟨.Name x px,iter,ifs,0⟩] scope pos) (some (.Name y0 py)) spos.line X.env=gK true:=by rfl)
  (hf0:X.fn y0=true∨X.env.scope.names.lookup y0=some .local:=by first | exact .inl rfl | exact .inr rfl | assumption) :
  PS X (.Assign [.Name y0 py] (.ListComp elt [⟨.Name x px,iter,ifs,0⟩] scope pos) spos) (tAsg (tComp wi js tt te) (mR iy)) :=
 ps_setCC (xs:=[x]) (g:=mR 0) hN0 hi0 hx0 hc hi lT mO mq hfr hjs hfv (fun _ _ _ _ _=>pg_name hnd rfl (.inl (kt hx)) (.inr (kt hx))) hb (fun _ _ _ _ h=>compW_T h) hs hsw hf0
def notStar:Expr→Bool
 | .Starred _ _=>false
 | _=>true
theorem starEach_not (h:notStar e=true):bw (e::es) env=(false,dn e env)::bw es env:=by
 cases e <;> first | rfl | cases h
theorem pa_k {t:TA}(ha:PE X e te)(hr:PA X es t)(h:notStar e=true:=by rfl):PA X (e::es) (nU te t):=af ha hr (starEach_not h)
structure PEs (X:Cx)(e:Expr)(t:TE):Prop where
 h:PE X e t
structure PAs (X:Cx)(es:List Expr)(t:TA):Prop where
 h:PA X es t
structure PSt (X:Cx)(st:cN)(t:TS):Prop where
 h:PS X st t
theorem ps_cutK {t:TS}(h:PS X st t):PS X st (fun D σ H=>∃ N:St→Hp→Prop,(∀ σ' H',N σ' H'→D.nx σ' H')∧t { D with nx:=N } σ H):=by
 intro aI s σ H D I ⟨N,hN,ht⟩;refine thn (h aI s σ H { D with nx:=N } I ht) fun f s' q=>?_
 cases f with
 | next=>obtain ⟨σ',H',I',n'⟩:=q;exact ⟨σ',H',I',hN _ _ n'⟩
 | brk=>exact q
 | cont=>exact q
 | ret u=>exact q
structure PSl (X:Cx)(sts:List cN)(t:TS):Prop where
 h:PSs X sts t
section
variable {a b:Expr}{tb:TE}{t:TA}
theorem jI {i j}:PEs X (.Constant (.int i) j pos) (tC (.int i)):=⟨aC⟩
theorem k_op {op:Operator}{r:R2}(ho:OpR X (gY op) r)(ha:PEs X a ta)(hb:PEs X b tb):PEs X (.BinOp a op b pos) (tOp r ta tb):=⟨cD ho ha.h hb.h⟩
theorem k_ix {r:R2}(hr:IxR X r)(ha:PEs X a ta)(hb:PEs X b tb)(hs:PlainIx b):PEs X (.Subscript a b pos) (tOp r ta tb):=⟨cH hr ha.h hb.h hs⟩
theorem mN (h:PAs X es t):PEs X (.List es pos) (tLstA t):=⟨hI h.h⟩
theorem mD:PAs X [] tNil:=⟨aw⟩
theorem cS (ha:PEs X e te)(hr:PAs X es t)(h:notStar e=true:=by rfl):PAs X (e::es) (nU te t):=⟨pa_k ha.h hr.h h⟩
theorem bq {t u:TS}(a:PSt X st t)(b:PSl X sts u):PSl X (st::sts) (tSeq t u):=⟨cK a.h b.h⟩
theorem fu {t:TS}(a:PSt X st t):PSl X [st] t:=⟨bB a.h⟩
end
end L2
namespace HN
open PySem L2 PyProof.Rows
abbrev sGW:cN:=top 7
abbrev oa:cN:=top 8
abbrev mJ:cN:=top 9
abbrev sEnds:cN:=top 16
abbrev sLens:cN:=top 17
abbrev sSpan:cN:=top 18
abbrev sNet:cN:=top 19
theorem scGW:cp [] [] (defScope sGW):=by trivial
theorem ok_gw (F:Fun K "greatest_whole" "greatest_whole" sGW f fd):c7 P w K mg base CX0 1 f fd [] spGW:=by
 refine F.ok scGW (fun vs H Q E h=>by obtain ⟨rfl,_⟩:=h;rfl) (fun cdv A outer s H vs Q E hr h=>?_);obtain ⟨rfl,k⟩:=h;refine ⟨_,bB (bZ (cD gv (cD op_pow aC aC) aC)),?_⟩;exact ⟨_,_,rfl,rfl,⟨by decide,by decide,by decide⟩,_,_,rfl,rfl,k⟩
theorem scWhole:cp pzd pzd (defScope oa):=by trivial
theorem ok_whole (F:Fun K "is_whole" "is_whole" oa f fd)(T:Nm mg):c7 P w K mg base CX0 1 f fd pzd spWhole:=by
 refine F.ok scWhole (by contradiction) (fun cdv A outer s H vs Q E hr h=>?_);obtain ⟨v,rfl,⟨S,hS⟩,k⟩:=h;refine ⟨_,bB (bZ (oZ (pe_isInt T (pv 0)) (pe_one (pe_not (pe_isBool T (pv 0)))))),?_⟩;refine ⟨_,rfl,_,_,rfl,hS,_,rfl,?_⟩;refine jj (fun hc=>?_) (fun hc=>?_)
 ·refine ⟨_,rfl,_,_,rfl,hS,_,rfl,?_⟩
  rw [sort_int hS hc];exact k
 ·rw [←sort_noInt hS hc];exact k
theorem scWithin:cp pzg pzg (defScope mJ):=by trivial
theorem md (F:Fun K "is_within" "is_within" mJ f fd)(T:Nm mg)(G1:Fn K mg "is_whole" oa pzd f1 fd1):c7 P w K mg base CX0 2 f fd pzg l7:=by
 have F1:c7 P w K mg base CX0 1 f1 fd1 pzd spWhole:=ok_whole G1.F T;refine F.ok scWithin (by contradiction) (fun cdv A outer s H vs Q E hr h=>?_);obtain ⟨v,lo,hi,rfl,hS,k⟩:=h;refine ⟨_,bB (bZ (oZ (pc1 G1 F1 hr (af (pv 0) aw)) (pe_one (pe_chain op_le op_le (pv 1) (pv 0) (pv 2))))),?_⟩;refine ⟨_,rfl,_,rfl,hS,_,rfl,?_⟩;refine jj (fun hc=>?_) (fun hc=>?_)
 ·obtain ⟨i,rfl⟩:=isI_of hc
  refine ⟨_,rfl,_,rfl,_,_,rfl,rfl,_,rfl,?_⟩;refine jj (fun h1=>?_) (fun h1=>?_)
  ·refine ⟨_,rfl,_,_,rfl,rfl,?_⟩
   have e:inI (.int i) lo hi=decide (i≤hi):=by show (decide (lo≤i) && decide (i≤hi))=_;rw [h1];rfl
   show Q (.bl (decide (i≤hi))) H;rw [←e];exact k
  ·have e:inI (.int i) lo hi=false:=by show (decide (lo≤i) && decide (i≤hi))=_;rw [fG.mpr h1];rfl
   rw [←e];exact k
 ·have e:inI v lo hi=false:=by
   cases v with
   | int i=>exact pF rfl hc
   | _=>rfl
  rw [←e];exact k
theorem scEnds:cp pzp pzp (defScope sEnds):=by trivial
theorem oF (h:inI v lo hi=true):∃ i,v= .int i∧lo≤i∧i≤hi:=by
 cases v with
 | int i =>
  have h:(decide (lo≤i) && decide (i≤hi))=true:=h;rw [bY] at h;exact ⟨i,rfl,pI h.1,pI h.2⟩
 | _=>cases h
theorem ok_ends (F:Fun K "are_ends" "are_ends" sEnds f fd)(T:Nm mg)(G1:Fn K mg "is_whole" oa pzd f1 fd1)(G2:Fn K mg "is_within" mJ pzg f2 fd2) :
  c7 P w K mg base CX0 3 f fd pzp spEnds:=by
 have F2:c7 P w K mg base CX0 2 f2 fd2 pzg l7:=md G2.F T G1;refine F.ok scEnds (by contradiction) (fun cdv A outer s H vs Q E hr h=>?_);obtain ⟨m,st,g,rfl,hs,hg,k⟩:=h;refine ⟨_,bB (bZ (oZ (pc1 G2 F2 hr (af (pv 1) (af aC (af (cD gv (pv 0) aC) aw))))
  (oZ (pc1 G2 F2 hr (af (pv 2) (af aC (af (cD gv (pv 0) aC) aw)))) (pe_one (jW nk (pv 1) (pv 2) (cb _)))))),?_⟩
 refine ⟨_,rfl,_,rfl,_,_,rfl,rfl,_,_,_,rfl,hs,_,rfl,?_⟩;refine jj (fun h1=>?_) (fun h1=>?_)
 ·refine ⟨_,rfl,_,rfl,_,_,rfl,rfl,_,_,_,rfl,hg,_,rfl,?_⟩
  refine jj (fun h2=>?_) (fun h2=>?_)
  ·obtain ⟨i,rfl,_⟩:=oF h1
   obtain ⟨j,rfl,_⟩:=oF h2;refine ⟨_,rfl,_,rfl,rfl,?_⟩;have e:lU m (.int i) (.int j)= !decide (V.int i=V.int j):=by unfold lU;rw [h1,h2];rfl
   rw [←e];exact k
  ·have e:lU m st g=false:=by unfold lU;rw [h1,fG.mpr h2];rfl
   rw [←e];exact k
 ·have e:lU m st g=false:=by unfold lU;rw [fG.mpr h1];rfl
  rw [←e];exact k
theorem scLens:cp pzq pzq (defScope sLens):=by trivial
theorem ok_lens {f0:ak}{fd0:aZ}(F:Fun K "are_lengths" "are_lengths" sLens f fd)(T:Nm mg)(G0:Fn K mg "greatest_whole" sGW [] f0 fd0)(G1:Fn K mg "is_whole" oa pzd f1 fd1)(G2:Fn K mg "is_within" mJ pzg f2 fd2) :
  c7 P w K mg base CX0 3 f fd pzq spLens:=by
 have F0:c7 P w K mg base CX0 1 f0 fd0 [] spGW:=ok_gw G0.F;have F2:c7 P w K mg base CX0 2 f2 fd2 pzg l7:=md G2.F T G1;refine F.ok scLens (by contradiction) (fun cdv A outer s H vs Q E hr h=>?_);obtain ⟨b,l,o,rfl,hl,ho,k⟩:=h;have hr1:jJ 1 _:=hr.mono (by decide);refine ⟨_,cK (eX (jw (jv (pc1 G2 F2 hr (af (pv 1) (af aC (af (pc0 G0 F0 hr1) aw)))))) (bB (bZ lO)) cv)
  (bB (bZ (pc1 G2 F2 hr (af (pv 2) (af (pv 1) (af (bU (oN rfl) rfl T.min boot_min (af (cD gv (cD ff (pv 1) (pv 0)) aC) (af (pc0 G0 F0 hr1) aw))) aw)))))),?_⟩
 refine ⟨_,rfl,rfl,_,_,_,rfl,hl,_,rfl,?_⟩;refine jj (fun h1=>?_) (fun h1=>?_)
 ·have e:ow b l o=false:=by
   unfold ow;have:inI l 0 B60=false:=by simpa using h1
   rw [this];rfl
  show Q (.bl false) H;rw [←e];exact k
 ·have h1:inI l 0 B60=true:=by simpa using h1
  obtain ⟨i,rfl,_⟩:=oF h1;refine ⟨_,rfl,_,rfl,_,rfl,_,rfl,_,_,rfl,rfl,_,_,rfl,rfl,rfl,_,_,rfl,_,_,_,rfl,ho,?_⟩;have e:ow b (.int i) o=inI o i (if B60<i+b - 1 then B60 else i+b - 1):=by
   unfold ow;rw [h1];rfl
  rw [e] at k;exact k
theorem scSpan:cp pzj pzj (defScope sSpan):=by trivial
theorem ok_span {f0 f3 f4:ak}{fd0 fd3 fd4:aZ}(F:Fun K "is_span" "is_span" sSpan f fd)(T:Nm mg)(C:Cs mg)(G0:Fn K mg "greatest_whole" sGW [] f0 fd0)(G1:Fn K mg "is_whole" oa pzd f1 fd1)(G2:Fn K mg "is_within" mJ pzg f2 fd2)
  (G3:Fn K mg "are_ends" sEnds pzp f3 fd3) (G4:Fn K mg "are_lengths" sLens pzq f4 fd4):c7 P w K mg base CX0 4 f fd pzj spSpan:=by
 have F2:c7 P w K mg base CX0 2 f2 fd2 pzg l7:=md G2.F T G1;have F3:c7 P w K mg base CX0 3 f3 fd3 pzp spEnds:=ok_ends G3.F T G1 G2;have F4:c7 P w K mg base CX0 3 f4 fd4 pzq spLens:=ok_lens G4.F T G0 G1 G2;refine F.ok scSpan (by contradiction) (fun cdv A outer s H vs Q E hr h=>?_);obtain ⟨b,m,v,rfl,hv,k⟩:=h;have hr2:jJ 2 _:=hr.mono (by decide);refine ⟨_,cK (eX (PW.pt (j6 (jw (jv (lp T (pv 2)))) (je (bK nk (bU bM rfl T.len aR (af (pv 2) aw)) aC (cb _))))) (bB (bZ lO)) cv)
  (cK (eX (PW.pt (j6 (jw (jv (pc1 G3 F3 hr (af (pv 1) (af (ixZ (pv 2)) (af (ixZ (pv 2)) aw))))))
   (je (jw (jv (pc1 G4 F4 hr (af (pv 0) (af (ixZ (pv 2)) (af (ixZ (pv 2)) aw))))))))) (bB (bZ lO)) cv)
  (bB (bZ (pc1 G2 F2 hr2 (af (ixZ (pv 2)) (af aC (af (lN C.mw) aw))))))),?_⟩
 obtain ⟨S,hS⟩:=hv.1;refine ⟨_,rfl,_,_,rfl,hS,_,rfl,?_⟩
 rcases sort_tup hS with ⟨a,xs,rfl,ha,hq⟩ | ⟨hq,hno⟩
 ·refine iL (by rw [hq];rfl) ?_
  refine ⟨_,rfl,a,xs,rfl,.inr (SqT.of ha),rfl,_,rfl,?_⟩;refine jj (fun h5=>?_) (fun h5=>?_)
  ·have e:ju H b m (.ref a)=false:=spanOk_no fun a' xs' e1 e2 z=>by
    cases e1;rw [ha] at e2;cases e2;rw [z] at h5;exact pF h5 (by decide)
   show Q (.bl false) H;rw [←e];exact k
  ·have hl:xs.length=5:=by
    have h5:¬ (!decide (V.int (xs.length:Int)=V.int 5))=true:=h5;rw [Bool.not_eq_true,Bool.not_eq_false'] at h5;have:=pI h5;injection this with this
    lia
   obtain ⟨x0,x1,x2,x3,x4,rfl⟩:=len5 hl;have kn:=hv.2 a _ rfl ha;have e:ju H b m (.ref a)=(lU m x0 x1 && (ow b x2 x3 && inI x4 0 1000000000000)):=by simp only [ju];rw [ha]
   rw [e] at k;refine ⟨_,rfl,_,rfl,a,_,_,_,rfl,rfl,SqT.of ha,aE (j:=0) rfl,_,rfl,a,_,_,_,rfl,rfl,SqT.of ha,aE (j:=1) rfl,_,_,_,rfl,kn _ (by simp),kn _ (by simp),_,rfl,?_⟩;refine jj (fun h1=>?_) (fun h1=>?_)
   ·have h1:lU m x0 x1=false:=by simpa using h1
    rw [h1] at k;exact k
   ·have h1:lU m x0 x1=true:=by simpa using h1
    rw [h1] at k;refine ⟨_,rfl,_,rfl,a,_,_,_,rfl,rfl,SqT.of ha,aE (j:=2) rfl,_,rfl,a,_,_,_,rfl,rfl,SqT.of ha,aE (j:=3) rfl,_,_,_,rfl,kn _ (by simp),kn _ (by simp),_,rfl,?_⟩;refine jj (fun h2=>?_) (fun h2=>?_)
    ·have h2:ow b x2 x3=false:=by simpa using h2
     rw [h2] at k;exact k
    ·have h2:ow b x2 x3=true:=by simpa using h2
     rw [h2] at k;exact ⟨_,rfl,a,_,_,_,rfl,rfl,SqT.of ha,aE (j:=4) rfl,_,_,_,rfl,kn _ (by simp),k⟩
 ·refine oA (by rw [hq];rfl) ?_
  have e:ju H b m v=false:=spanOk_no fun a xs e1 e2=>pF e2 (hno a xs e1)
  show Q (.bl false) H;rw [←e];exact k
theorem scNet:cp ["thing","beat","many","spans"] pzd (defScope sNet):=by trivial
theorem ok_net {f0 f3 f4 f5:ak}{fd0 fd3 fd4 fd5:aZ}(F:Fun K "is_net" "is_net" sNet f fd)(T:Nm mg)(C:Cs mg)(G0:Fn K mg "greatest_whole" sGW [] f0 fd0)(G1:Fn K mg "is_whole" oa pzd f1 fd1)(G2:Fn K mg "is_within" mJ pzg f2 fd2)
  (G3:Fn K mg "are_ends" sEnds pzp f3 fd3) (G4:Fn K mg "are_lengths" sLens pzq f4 fd4) (G5:Fn K mg "is_span" sSpan pzj f5 fd5):c7 P w K mg base CX0 5 f fd pzd spNet:=by
 have F0:c7 P w K mg base CX0 1 f0 fd0 [] spGW:=ok_gw G0.F;have F2:c7 P w K mg base CX0 2 f2 fd2 pzg l7:=md G2.F T G1;have F5:c7 P w K mg base CX0 4 f5 fd5 pzj spSpan:=ok_span G5.F T C G0 G1 G2 G3 G4;refine F.ok scNet (by contradiction) (fun cdv A outer s H vs Q E hr h=>?_);obtain ⟨v,rfl,hv,k⟩:=h;have hr1:jJ 1 _:=hr.mono (by decide);have hr2:jJ 2 _:=hr.mono (by decide);refine ⟨_,cK (eX (PW.pt (j6 (jw (jv (lp T (pv 0)))) (je (bK nk (bU bM rfl T.len aR (af (pv 0) aw)) aC (cb _))))) (bB (bZ lO)) cv)
  (cK (psZ 1 scNet.nd (ixZ (pv 0)))
  (cK (psZ 2 scNet.nd (ixZ (pv 0)))
  (cK (psZ 3 scNet.nd (ixZ (pv 0)))
  (cK (eX (PW.pt (j6 (jw (jv (pc1 G2 F2 hr2 (af (pv 1) (af aC (af (pc0 G0 F0 hr1) aw)))))) (je (jw (jv (pc1 G2 F2 hr2 (af (pv 2) (af aC (af (lN C.mh) aw))))))))) (bB (bZ lO)) cv)
  (cK (eX (PW.pt (j6 (jw (jv (lp T (pv 3)))) (je (bK op_gt (bU bM rfl T.len aR (af (pv 3) aw)) (lN C.ms) (cb _))))) (bB (bZ lO)) cv)
  (bB (bZ (bU (call_all rfl) rfl T.all boot_all (af (jH (fr:=["beat","many"]) (js:=[1,2]) rfl (pi_tup (pv 3)) (by trivial) rfl (by trivial) rfl (by exists sNet) (by trivial) rfl (by trivial)
   (fun _ _ _ _ _=>⟨pc1 G5 F5 hr (af (pv 1) (af (pv 2) (af (pv 0) aw))),jg⟩)) aw))))))))),?_⟩
 obtain ⟨S,hS⟩:=hv.1;refine ⟨_,rfl,_,_,rfl,hS,_,rfl,?_⟩
 rcases sort_tup hS with ⟨a,xs,rfl,ha,hq⟩ | ⟨hq,hno⟩
 ·refine iL (by rw [hq];rfl) ?_
  refine ⟨_,rfl,a,xs,rfl,.inr (SqT.of ha),rfl,_,rfl,?_⟩;refine jj (fun h3=>?_) (fun h3=>?_)
  ·have e:netOk H (.ref a)=false:=netOk_no fun a' xs' e1 e2 z=>by
    cases e1;rw [ha] at e2;cases e2;rw [z] at h3;exact pF h3 (by decide)
   show Q (.bl false) H;rw [←e];exact k H (b8.refl H)
  ·have hl:xs.length=3:=by
    have h3:¬ (!decide (V.int (xs.length:Int)=V.int 3))=true:=h3;rw [Bool.not_eq_true,Bool.not_eq_false'] at h3;have:=pI h3;injection this with this
    lia
   obtain ⟨b,m,sp,rfl⟩:=len3 hl;have kn:=hv.2 a _ rfl ha;have e:netOk H (.ref a)=(inI b 1 B60 && (inI m 1 16 && km H (iv b) (iv m) sp)):=by simp only [netOk];rw [ha]
   rw [e] at k;refine ⟨_,rfl,a,_,_,_,rfl,rfl,SqT.of ha,aE (j:=0) rfl,?_⟩;refine ⟨_,rfl,a,_,_,_,rfl,rfl,SqT.of ha,aE (j:=1) rfl,?_⟩;refine ⟨_,rfl,a,_,_,_,rfl,rfl,SqT.of ha,aE (j:=2) rfl,?_⟩;refine ⟨_,rfl,rfl,_,_,_,rfl,(kn b (by simp)).1,_,rfl,?_⟩;refine jj (fun h1=>?_) (fun h1=>?_)
   ·have h1:inI b 1 B60=false:=by simpa using h1
    rw [h1] at k;exact k H (b8.refl H)
   ·have h1:inI b 1 B60=true:=by simpa using h1
    rw [h1] at k;refine ⟨_,rfl,_,_,_,rfl,(kn m (by simp)).1,_,rfl,?_⟩;refine jj (fun h2=>?_) (fun h2=>?_)
    ·have h2:inI m 1 16=false:=by simpa using h2
     rw [h2] at k;exact k H (b8.refl H)
    ·have h2:inI m 1 16=true:=by simpa using h2
     rw [h2] at k;obtain ⟨bi,rfl,_⟩:=oF h1;obtain ⟨mi,rfl,_⟩:=oF h2;obtain ⟨S2,hS2⟩:=(kn sp (by simp)).1;refine ⟨_,rfl,_,_,rfl,hS2,_,rfl,?_⟩
     rcases sort_tup hS2 with ⟨p,ys,rfl,hp,hq2⟩ | ⟨hq2,hno2⟩
     ·refine iL (by rw [hq2];rfl) ?_
      refine ⟨_,rfl,p,ys,rfl,.inr (SqT.of hp),_,_,rfl,rfl,_,rfl,?_⟩;refine jj (fun h4=>?_) (fun h4=>?_)
      ·have h4:(40:Int)<(ys.length:Int):=pI h4
       have e2:km H (iv (.int bi)) (iv (.int mi)) (.ref p)=false:=oT fun a' xs' e1 e2=>by
        cases e1;rw [hp] at e2;cases e2;lia
       rw [e2] at k;exact k H (b8.refl H)
      ·have h4:¬ (40:Int)<(ys.length:Int):=fun z=>h4 (pG z)
       have e2:km H (iv (.int bi)) (iv (.int mi)) (.ref p)=ys.all (ju H bi mi):=by
        simp only [km];rw [hp];show (decide (ys.length≤40) && ys.all (ju H bi mi))=_;rw [pG (by lia)];rfl
       rw [e2] at k;have kn2:=(kn (.ref p) (by simp)).2 p ys rfl hp;have h40:(40:Nat)≤au:=by decide
       have hz:ys.length≤au:=by lia
       refine ⟨_,rfl,p,rfl,⟨ys,SqT.of hp⟩,?_⟩;refine comp_tup (K:=K) (a:=p) (xs:=ys) (fun i zs H2=>H2=H∧zs=(ys.take i).map fun x=>V.bl (ju H bi mi x)) ⟨rfl,rfl⟩ (fun i zs H2 hi ⟨e1,e2⟩=>?_) hz (fun i x zs H2 hx ⟨e1,e2⟩=>?_) (fun zs H2 ⟨e1,e2⟩ D hD=>?_)
       ·subst e1 e2
        refine ⟨SqT.of hp,?_⟩;rw [ae,aU];lia
       ·subst e1
        refine ie ?_;refine ⟨_,rfl,_,rfl,_,rfl,_,_,_,rfl,kn2 x (ay hx),rfl,?_⟩;rw [e2,aW,hx,aq];rfl
       ·subst e1
        rw [bI] at e2;refine ⟨D,ys.map (ju H2 bi mi),rfl,SqL.of (by rw [aP,e2,bO];rfl),?_⟩;have e3:(ys.map (ju H2 bi mi)).all id=ys.all (ju H2 bi mi):=by rw [List.all_map];rfl
        rw [e3];exact k _ fun c o q=>by rw [aX (aV q hD)];exact q
     ·refine oA (by rw [hq2];rfl) ?_
      have e2:km H (iv (.int bi)) (iv (.int mi)) sp=false:=oT fun a' xs' e1 e2=>pF e2 (hno2 a' xs' e1)
      rw [e2] at k;exact k H (b8.refl H)
 ·refine oA (by rw [hq];rfl) ?_
  have e:netOk H v=false:=netOk_no fun a xs e1 e2=>pF e2 (hno a xs e1)
  show Q (.bl false) H;rw [←e];exact k H (b8.refl H)
end HN
namespace L2
open PySem PySem.Spec PyProof.Rows
theorem ps_cut {t:TS}(h:PS X st t):PS X st (fun D σ H=>∃ N:St→Hp→Prop,(∀ σ' H',N σ' H'→D.nx σ' H')∧t { D with nx:=N } σ H):=by
 intro aI s σ H D I ⟨N,hN,ht⟩;refine thn (h aI s σ H { D with nx:=N } I ht) fun f s' q=>?_
 cases f with
 | next=>obtain ⟨σ',H',I',n'⟩:=q;exact ⟨σ',H',I',hN _ _ n'⟩
 | brk=>exact q
 | cont=>exact q
 | ret u=>exact q
end L2
namespace HT2
open PySem
theorem lB (y p q:Str)(r:List Str):fU y (p::q::r)=p++y++fU y (q::r):=rfl
theorem my (c:Nat)(p q:Str)(r:List Str):(fU ⟨#[c]⟩ (p::q::r)).cps.toList=p.cps.toList++c::(fU ⟨#[c]⟩ (q::r)).cps.toList:=by
 rw [lB];simp only [Str.cps_append,Array.toList_append];simp
theorem str_ext {a b:Str}(h:a.cps.toList=b.cps.toList):a=b:=by
 cases a with | mk x=>cases b with | mk y =>
 have:x=y:=by
  have:=pJ List.toArray h
  simpa using this
 rw [this]
theorem cut_first {c:Nat}:∀ {a b r s:List Nat},c ∉ a→c ∉ b→a++c::r=b++c::s→a=b∧r=s
 | [],[],_,_,_,_,e=>⟨rfl,(List.cons.inj e).2⟩
 | [],y::b,_,_,_,hb,e=>by
  have:=(List.cons.inj e).1;exact pF (this ▸ bG ..) hb
 | x::a,[],_,_,ha,_,e=>by
  have:=(List.cons.inj e).1;exact pF (this ▸ bG ..) ha
 | x::a,y::b,r,s,ha,hb,e=>by
  obtain ⟨e1,e2⟩:=List.cons.inj e;obtain ⟨h1,h2⟩:=cut_first (fun m=>ha (aO _ m)) (fun m=>hb (aO _ m)) e2;exact ⟨by rw [e1,h1],h2⟩
theorem no_cut {c:Nat}{a b r:List Nat}(ha:c ∉ a)(e:a=b++c::r):False:=ha (by rw [e];simp)
theorem join_inj {c:Nat}:∀ {as bs:List Str},as≠[]→bs≠[]→(∀ p∈as,c ∉ p.cps.toList)→(∀ p∈bs,c ∉ p.cps.toList)→fU ⟨#[c]⟩ as=fU ⟨#[c]⟩ bs→as=bs
 | [],_,h,_,_,_,_=>pF rfl h
 | _::_,[],_,h,_,_,_=>pF rfl h
 | [p],[q],_,_,_,_,e=>by
  have e:p=q:=e;rw [e]
 | [p],q::q2::r,_,_,ha,_,e=>by
  have:=pJ (fun s:Str=>s.cps.toList) e;simp only [my] at this;exact (no_cut (ha p (by simp)) this).elim
 | p::p2::r,[q],_,_,_,hb,e=>by
  have:=pJ (fun s:Str=>s.cps.toList) e;simp only [my] at this;exact (no_cut (hb q (by simp)) this.symm).elim
 | p::p2::r,q::q2::s,_,_,ha,hb,e=>by
  have:=pJ (fun s:Str=>s.cps.toList) e;simp only [my] at this;obtain ⟨h1,h2⟩:=cut_first (ha p (by simp)) (hb q (by simp)) this;have ih:=join_inj (as:=p2::r) (bs:=q2::s) (by simp) (by simp) (fun x hx=>ha x (aO _ hx)) (fun x hx=>hb x (aO _ hx)) (str_ext h2);rw [str_ext h1,ih]
theorem split_ne (x:Str)(c:Nat):cM x ⟨#[c]⟩≠[]:=by
 unfold cM;split
 ·simp
 ·split
  ·simp
  ·unfold gq
   intro h;have:=pJ gc h;simp at this
theorem mH {c:Nat}(h:ys≠[])(hf:∀ p∈ys,c ∉ p.cps.toList):cM (iA ⟨#[c]⟩ ys) ⟨#[c]⟩=ys:=by
 have e:iA ⟨#[c]⟩ ys=fU ⟨#[c]⟩ ys:=eV _ _;rw [e];refine join_inj (c:=c) (split_ne _ _) h (fun p hp=>StrLaws.split_free _ c p hp) hf ?_;exact StrLaws.join_split _ _
def dig (m:Nat):List Nat:=(Nat.toDigits 10 m).map Char.toNat
theorem oJ (h:m<10):dig m=[48+m]:=by
 unfold dig;rw [Nat.toDigits_of_lt_base h];have:∀ d:Nat,d<10→(Nat.digitChar d).toNat=48+d:=by decide
 show [(Nat.digitChar m).toNat]=_;rw [this m h]
theorem dig_ge (h:10≤m):dig m=dig (m / 10)++[48+m % 10]:=by
 have hm:m % 10<10:=Nat.mod_lt m (by decide);have t:Nat.toDigits 10 (m / 10)++Nat.toDigits 10 (m % 10)=Nat.toDigits 10 (10 * (m / 10)+m % 10):=Nat.toDigits_append_toDigits (by decide) (by lia) hm;rw [Nat.div_add_mod] at t;have e:=oJ hm;unfold dig at e ⊢;rw [←t,aq,e]
theorem dig_ne (m:Nat):dig m≠[]:=by
 rcases Nat.lt_or_ge m 10 with h | h
 ·rw [oJ h];simp
 ·rw [dig_ge h];simp
theorem dig_all:∀ (m:Nat),∀ c∈dig m,48≤c∧c≤57:=by
 intro m
 induction m using Nat.strongRecOn with
 | _ m ih =>
  intro c hc
  rcases Nat.lt_or_ge m 10 with h | h
  ·rw [oJ h] at hc
   have:=aB.mp hc;lia
  ·rw [dig_ge h] at hc
   rcases bg.mp hc with q | q
   ·exact ih (m / 10) (by lia) c q
   ·have:=aB.mp q
    lia
theorem dig_len:∀ (k m:Nat),m<10 ^ (k+1)→(dig m).length≤k+1
 | 0,m,h=>by rw [oJ (by simpa using h)];simp
 | k+1,m,h=>by
  rcases Nat.lt_or_ge m 10 with q | q
  ·rw [oJ q];simp
  ·rw [dig_ge q,aj,List.length_singleton]
   have h2:m / 10<10 ^ (k+1):=by
    have e:(10:Nat) ^ (k+1+1)=10 ^ (k+1) * 10:=Nat.pow_succ ..;rw [e] at h;exact Nat.div_lt_of_lt_mul (by lia)
   have:=dig_len k (m / 10) h2;lia
theorem dig_head:∀ (m:Nat),1≤m→(dig m).head? ≠some 48:=by
 intro m
 induction m using Nat.strongRecOn with
 | _ m ih =>
  intro h1 e
  rcases Nat.lt_or_ge m 10 with h | h
  ·rw [oJ h] at e
   have:48+m=48:=by simpa using e
   lia
  ·rw [dig_ge h] at e
   have ih':=ih (m / 10) (by lia) (by lia);cases hd:dig (m / 10) with
   | nil=>exact dig_ne _ hd
   | cons a r =>
    rw [hd] at e ih';exact ih' (by simpa using e)
theorem dig_one (h:1<(dig m).length):10≤m:=by
 rcases Nat.lt_or_ge m 10 with q | q
 ·rw [oJ q] at h;simp at h
 ·exact q
def num (m:Nat):Str:=bF (toString ((m:Nat):Int))
theorem kY (m:Nat):(num m).cps.toList=dig m:=PySem.W.KIN.signs_num m
theorem num_len (h:m<10 ^ 60):(num m).length≤60:=by
 have:=dig_len 59 m h;rw [←kY] at this
 simpa [Str.length] using this
theorem num_pos (m:Nat):1≤(num m).length:=by
 have h:=dig_ne m;rw [←kY] at h;cases e:(num m).cps.toList with
 | nil=>exact pF e h
 | cons a r =>
  have:(num m).length=(num m).cps.toList.length:=by simp [Str.length]
  rw [this,e];simp
theorem num_int (h:m<10 ^ 60):PySem.intText? (num m)=some ((m:Nat):Int):=by
 have e:=PySem.intText_digits (x:=num m) (fun c hc=>dig_all m c (by rw [←kY];exact hc)) (by rw [kY];exact dig_ne m) (cn (num_len h) (by decide));rw [kY] at e;rw [e];have v:=PySem.W.KIN.val_back m;unfold dig;rw [v]
end HT2
namespace HN
open PySem L2 PyProof.Rows HT2
abbrev sp_:Str := " "
abbrev nl_:Str := "\n"
theorem sp_eq:(sp_:Str)=⟨#[32]⟩:=by trivial
theorem nl_eq:(nl_:Str)=⟨#[10]⟩:=by trivial
def j3 (i:Int):Str:=toString i
theorem nH (m:Nat):j3 (m:Int)=num m:=rfl
def W60 (i:Int):Prop:=0≤i∧i<10 ^ 60
theorem W60.nat {i:Int}(h:W60 i):∃ m:Nat,i=m∧m<10 ^ 60:=by
 obtain ⟨m,rfl⟩:=cF h.1;exact ⟨m,rfl,by have:=h.2;lia⟩
theorem numI_cps {i:Int}(h:W60 i):∀ c∈(j3 i).cps.toList,48≤c∧c≤57:=by
 obtain ⟨m,rfl,_⟩:=h.nat;rw [nH,kY];exact dig_all m
theorem kK {i:Int}(h:W60 i):(j3 i).length≤60:=by
 obtain ⟨m,rfl,hm⟩:=h.nat;rw [nH];exact num_len hm
theorem numI_int {i:Int}(h:W60 i):PySem.intText? (j3 i)=some i:=by
 obtain ⟨m,rfl,hm⟩:=h.nat;rw [nH];exact num_int hm
theorem log_60 {i:Int}(h:W60 i):i.natAbs.log2<1920:=by
 by_cases h0:i.natAbs=0
 ·rw [h0];decide
 ·have h1:i.natAbs<2 ^ 200:=by
   have:(10:Nat) ^ 60<2 ^ 200:=by trivial
   have h2:i.natAbs<10 ^ 60:=by have:=h.1;have:=h.2;lia
   lia
  have:=(Nat.log2_lt h0).mpr h1;lia
theorem oo {i:Int}(h:W60 i){c:Nat}(hc:c<48):c ∉ (j3 i).cps.toList:=fun m=>by
 have:=numI_cps h c m;lia
theorem cps_app (a b:Str):(a++b).cps.toList=a.cps.toList++b.cps.toList:=by simp only [Str.cps_append,Array.toList_append]
theorem lR (a b:Str):(a++b).length=a.length+b.length:=Str.length_append a b
theorem join_mem {c:Nat}:∀ {ys:List Str} {x:Nat},x∈(fU ⟨#[c]⟩ ys).cps.toList→x=c∨∃ y∈ys,x∈y.cps.toList
 | [],x,h=>by
  have h:x∈(ef).cps.toList:=h;exact pF h (by simp [ef])
 | [y],x,h=> .inr ⟨y,by simp,h⟩
 | y::z::r,x,h=>by
  rw [my] at h
  rcases bg.mp h with h | h
  ·exact .inr ⟨y,by simp,h⟩
  ·rcases av.mp h with h | h
   ·exact .inl h
   ·rcases join_mem (ys:=z::r) h with q | ⟨w',hw,q⟩
    ·exact .inl q
    ·exact .inr ⟨w',aO _ hw,q⟩
theorem sum_le {α:Type}(f:α→Nat)(k:Nat):∀ (l:List α),(∀ x∈l,f x≤k)→(l.map f).sum≤l.length * k
 | [],_=>by simp
 | x::r,h=>by
  have h1:=h x (by simp);have h2:=sum_le f k r fun y hy=>h y (aO _ hy)
  simp only [aT,dq,aD,Nat.add_mul];lia
end HN
namespace L2
open PySem PySem.Spec PyProof.Rows
theorem call_int_str:iK X (.type "int") (fun xs H Q=>∃ x n,xs=[.str x]∧PySem.intText? x=some n∧x.length≤640∧Q (.int n) H):=by
 intro aI s σ H xs us Q I r h;obtain ⟨x,n,rfl,hn,hl,q⟩:=h;obtain ⟨u,rfl,ru⟩:=lG r;obtain ⟨t,rfl⟩:=(show ∃ t,u=ag.str x t from ru);exact PySem.W.KIN.call_text hn hl ⟨.int n,H,I.tok _,⟨_,rfl⟩,q⟩
end L2
namespace HN
open PySem L2 PyProof.Rows HT2
structure Nm2 (mg:Str→Option ag):Prop where
 tstr:mg "str" =none
 tlist:mg "list" =none
structure Cs2 (mg:Str→Option ag):Prop where
 ltr:∃ t,mg "LETTERS" =some (.str "abcdefghijklmnopqrstuvwxyz" t)
 ml:∃ t,mg "MOST_LETTERS" =some (.int 8 t)
 fig:∃ t,mg "FIGURES" =some (.str "0123456789" t)
 mf:∃ t,mg "MOST_FIGURES" =some (.int 60 t)
theorem pe_gstr (hm:∃ t,X.mg x=some (.str z t))(hg:Gl X x:=by rfl)(hd:(x == ("__debug__" :Str))=false:=by decide):PE X (.Name x pos) (tC (.str z)) :=
 let ⟨t,e⟩:=hm;oj (v:= .str z) (u:= .str z t) hg e ⟨t,rfl⟩ hd
theorem pe_isStr {p:Pos}(N:Nm X.mg)(N2:Nm2 X.mg)(he:PE X e te)(hg:Gl X "isinstance" := by rfl)(hg2:Gl X "str" := by rfl)
  (hs1:bw [e,.Name "str" p2] X.env=(false,dn e X.env)::bw [.Name "str" p2] X.env:=by rfl) (hpl:(gk pos (bw [.Name "str" p2] X.env)).any (·.1)=false:=by rfl) :
  PE X (.Call (.Name "isinstance" p) [e,.Name "str" p2] [] pos) (tCB (fun xs H Q=>∃ x T,xs=[x,.ty "str"]∧tyn H x=some T∧Q (.bl (T == "str")) H) (nU te (nU (tC (.ty "str")) tNil))) :=
 bU call_isStr hg N.isin boot_isinstance (af he (af (pe_bltn hg2 N2.tstr boot_str rfl) aw) hs1) (he:=hs1) (hpl:=hpl)
def kr (z:Str):Bool:=decide (1≤z.length) && (decide (z.length≤60) && (!(decide (z.cps.toList.head? =some 48) && decide (1<z.length)) && z.cps.toList.all fun c=>decide (48≤c∧c≤57)))
theorem fig_in (c:Nat):(!(cA ("0123456789" :Str) ⟨#[c]⟩ 0 ("0123456789" :Str).length 1).isEmpty)=decide (48≤c∧c≤57):=by
 rw [StrLaws.found_one];have e:("0123456789" :Str).cps.toList=[48,49,50,51,52,53,54,55,56,57]:=by trivial
 rw [e];rw [decide_eq_decide];simp only [av,aL,or_false];omega
theorem numI_numeral {i:Int}(h:W60 i):kr (j3 i)=true:=by
 obtain ⟨m,rfl,hm⟩:=h.nat;unfold kr;rw [nH];rw [pG (num_pos m),pG (num_len hm),kY];have h1:((dig m).all fun c=>decide (48≤c∧c≤57))=true:=by
  rw [gJ];exact fun c hc=>pG (dig_all m c hc)
 rw [h1];have h2:(decide ((dig m).head? =some 48) && decide (1<(num m).length))=false:=by
  rw [fG];intro z;rw [bY] at z;have z1:=pI z.1;have z2:=pI z.2;have e:(num m).length=(dig m).length:=by rw [←kY];simp [Str.length]
  rw [e] at z2;exact dig_head m (by have:=dig_one z2;lia) z1
 rw [h2];rfl
inductive spNumeral (vs:List V)(H:Hp)(Q:VK)(_:XK):Prop
 | mk (z:Str)(_:vs=[.str z])(_:z.length≤100000)(_:∀ H',b8 H H'→Q (.bl (kr z)) H')
inductive nY (vs:List V)(H:Hp)(Q:VK)(_:XK):Prop
 | mk (i:_)(_:vs=[.str (j3 i)])(_:W60 i)(_:∀ H',b8 H H'→Q (.int i) H')
abbrev nv:cN:=top 10
abbrev sRead:cN:=top 11
theorem scNumeral:cp pzc pzc (defScope nv):=by trivial
theorem ok_numeral (F:Fun K "is_numeral" "is_numeral" nv f fd)(T:Nm mg)(C:Cs2 mg):c7 P w K mg base CX0 1 f fd pzc spNumeral:=by
 refine F.ok scNumeral (by contradiction) (fun cdv A outer s H vs Q E hr h=>?_);obtain ⟨z,rfl,hz,k⟩:=h;refine ⟨_,cK (eX (PW.pt (j6 (bK oS (bU jC rfl T.len aR (af (pv 0) aw)) aC (cb _)) (je (bK op_gt (bU jC rfl T.len aR (af (pv 0) aw)) (lN C.mf) (cb _))))) (bB (bZ lO)) cv)
  (cK (ps_cut (eX (PW.pt (lJ (bK iT (cH ix_str (pv 0) aC (fun _ _=>rfl)) dv (cb _)) (kq (bK op_gt (bU jC rfl T.len aR (af (pv 0) aw)) aC (cb _))))) (bB (bZ lO)) cv))
  (bB (bZ (bU (call_all rfl) rfl T.all boot_all (af (jH (fr:=[]) (js:=[]) rfl (pi_str (pv 0)) (by trivial) rfl (by trivial) rfl (by exists nv) (by trivial) rfl (by trivial) (fun _ _ _ _ _=>⟨(jW op_in_str (pv 0) (pe_gstr C.fig) rfl),jg⟩)) aw))))),?_⟩
 have big:(100000:Nat)≤au:=by decide
 have hz':z.length≤au:=by lia
 have k0:=k H (b8.refl H);refine ⟨_,rfl,z,rfl,hz',_,_,rfl,rfl,_,rfl,?_⟩;refine jj (fun h1=>?_) (fun h1=>?_)
 ·have h1:(z.length:Int)<1:=pI h1
  have e:kr z=false:=by unfold kr;rw [pH (by lia)];rfl
  rw [e] at k0;exact k0
 have h1:¬ (z.length:Int)<1:=fun q=>h1 (pG q)
 refine ⟨_,rfl,z,rfl,hz',_,_,rfl,rfl,_,rfl,?_⟩;refine jj (fun h2=>?_) (fun h2=>?_)
 ·have h2:(60:Int)<(z.length:Int):=pI h2
  have e:kr z=false:=by unfold kr;rw [pH (by lia:¬ z.length≤60),Bool.false_and,Bool.and_false]
  rw [e] at k0;exact k0
 have h2:¬ (60:Int)<(z.length:Int):=fun q=>h2 (pG q)
 have hl:z.cps.toList.length=z.length:=by simp [Str.length]
 obtain ⟨c0,r0,hc⟩:∃ c r,z.cps.toList=c::r:=by
  cases e:z.cps.toList with
  | nil=>rw [e] at hl;simp at hl;lia
  | cons c r=>exact ⟨c,r,rfl⟩
 have en:kr z=(!(decide (c0=48) && decide (1<z.length)) && z.cps.toList.all fun c=>decide (48≤c∧c≤57)):=by
  unfold kr;rw [pG (by lia:1≤z.length),pG (by lia:z.length≤60),gy,gy];congr 3;rw [decide_eq_decide,hc];simp
 have e48:decide (V.str ⟨#[c0]⟩=V.str "0")=decide (c0=48):=by
  rw [decide_eq_decide];have z0:("0" :Str)=⟨#[48]⟩:=by trivial
  rw [z0]
  constructor
  ·intro q
   injection q with q
   have:=pJ (fun s:Str=>s.cps.toList) q
   simpa using this
  ·intro q;rw [q]
 refine ⟨fun σ' H'=>σ'=[some (.str z)]∧H'=H∧(decide (c0=48) && decide (1<z.length))=false,?_,?_⟩
 ·rintro σ' H' ⟨rfl,rfl,hq⟩
  rw [hq] at en;refine ⟨_,rfl,z,rfl,?_⟩;have hsz:z.cps.size=z.cps.toList.length:=by simp
  refine comp_str (fun i ys H2=>H2=H'∧ys=(z.cps.toList.take i).map fun c=>V.bl (decide (48≤c∧c≤57))) ⟨rfl,rfl⟩ (fun i ys H2 hi ⟨e1,e2⟩=>?_) hz' (fun i c ys H2 hx ⟨e1,e2⟩=>?_) (fun ys H2 ⟨e1,e2⟩ D hD=>?_)
  ·rw [e2,ae,aU];lia
  ·subst e1
   refine ie ?_;refine ⟨_,rfl,_,_,rfl,rfl,rfl,?_⟩;have hx':z.cps.toList[i]? =some c:=by rw [jG];exact hx
   rw [e2,aW,hx',aq,fig_in];rfl
  ·subst e1
   rw [hsz,bI] at e2;refine ⟨D,z.cps.toList.map fun c=>decide (48≤c∧c≤57),rfl,SqL.of (by rw [aP,e2,bO];rfl),?_⟩;have e3:((z.cps.toList.map fun c=>decide (48≤c∧c≤57)).all id)=kr z:=by rw [en,List.all_map];rfl
   rw [e3];exact k _ (b8.put (b8.refl H2) hD)
 ·refine ⟨_,rfl,z,0,c0,rfl,rfl,hz',by rw [hc];exact aE (j:=0) rfl,rfl,_,rfl,?_⟩
  rw [e48];refine jj (fun h3=>?_) (fun h3=>?_)
  ·refine ⟨_,rfl,z,rfl,hz',_,_,rfl,rfl,_,rfl,?_⟩
   refine jj (fun h4=>?_) (fun h4=>?_)
   ·have h4:(1:Int)<(z.length:Int):=pI h4
    rw [en,h3,pG (by lia:1<z.length)] at k0;exact k0
   ·have h4:¬ (1:Int)<(z.length:Int):=fun q=>h4 (pG q)
    exact ⟨rfl,rfl,by rw [pH (by lia:¬ 1<z.length),Bool.and_false]⟩
  ·exact ⟨rfl,rfl,by rw [fG.mpr h3,Bool.false_and]⟩
theorem scRead:cp pzc pzc (defScope sRead):=by trivial
theorem ok_readW (F:Fun K "read_whole" "read_whole" sRead f fd)(T:Nm mg)(C:Cs2 mg)(GN:Fn K mg "is_numeral" nv pzc f1 fd1):c7 P w K mg base CX0 2 f fd pzc nY:=by
 have FN:c7 P w K mg base CX0 1 f1 fd1 pzc spNumeral:=ok_numeral GN.F T C;refine F.ok scRead (by contradiction) (fun cdv A outer s H vs Q E hr h=>?_);obtain ⟨i,rfl,hi,k⟩:=h;refine ⟨_,cK (eX (jw (jv (pc1 GN FN hr (af (pv 0) aw)))) (bB jN) cv)
  (bB (bZ (eS call_int_str rfl T.tint boot_int (af (pv 0) aw)))),?_⟩
 refine ⟨_,rfl,_,rfl,by have:=kK hi;lia,fun H1 S1=>⟨_,rfl,?_⟩⟩;rw [numI_numeral hi];refine iL rfl ?_;exact ⟨_,rfl,_,i,rfl,numI_int hi,by have:=kK hi;lia,k H1 S1⟩
def nam (z:Str):Bool:=decide (1≤z.length) && (decide (z.length≤8) && z.cps.toList.all fun c=>decide (97≤c∧c≤122))
theorem ltr_in (c:Nat):(!(cA ("abcdefghijklmnopqrstuvwxyz" :Str) ⟨#[c]⟩ 0 ("abcdefghijklmnopqrstuvwxyz" :Str).length 1).isEmpty)=decide (97≤c∧c≤122):=by
 rw [StrLaws.found_one];have e:("abcdefghijklmnopqrstuvwxyz" :Str).cps.toList=[97,98,99,100,101,102,103,104,105,106,107,108,109,110,111,112,113,114,115,116,117,118,119,120,121,122]:=by trivial
 rw [e];rw [decide_eq_decide];simp only [av,aL,or_false];omega
inductive spNam (vs:List V)(H:Hp)(Q:VK)(_:XK):Prop
 | mk (z:Str)(_:vs=[.str z])(_:nam z=true)(_:∀ H',b8 H H'→Q (.str z) H')
abbrev sNam:cN:=top 25
theorem scNam:cp pzc pzc (defScope sNam):=by trivial
theorem ok_nam (F:Fun K "read_name" "read_name" sNam f fd)(T:Nm mg)(C:Cs2 mg):c7 P w K mg base CX0 1 f fd pzc spNam:=by
 refine F.ok scNam (by contradiction) (fun cdv A outer s H vs Q E hr h=>?_);obtain ⟨z,rfl,hn,k⟩:=h;unfold nam at hn;simp only [bY,decide_eq_true_eq] at hn;obtain ⟨n1,n2,n3⟩:=hn;refine ⟨_,cK (eX (PW.pt (j6 (bK oS (bU jC rfl T.len aR (af (pv 0) aw)) aC (cb _)) (j6 (bK op_gt (bU jC rfl T.len aR (af (pv 0) aw)) (lN C.ml) (cb _)) (je (jw (jv (bU (call_all rfl) rfl T.all boot_all (af (jH (fr:=[]) (js:=[]) rfl (pi_str (pv 0)) (by trivial) rfl (by trivial) rfl (by exists sNam) (by trivial) rfl (by trivial) (fun _ _ _ _ _=>⟨(jW op_in_str (pv 0) (pe_gstr C.ltr) rfl),jg⟩)) aw)))))))) (bB jN) cv)
  (bB (bZ (pv 0))),?_⟩
 have big:(100000:Nat)≤au:=by decide
 have hz':z.length≤au:=by lia
 refine ⟨_,rfl,z,rfl,hz',_,_,rfl,rfl,_,rfl,?_⟩;refine iL (pH (by lia)) ?_;refine ⟨_,rfl,z,rfl,hz',_,_,rfl,rfl,_,rfl,?_⟩;refine iL (pH (by lia)) ?_;refine ⟨_,rfl,z,rfl,?_⟩;have hsz:z.cps.size=z.cps.toList.length:=by simp
 refine comp_str (fun i ys H2=>H2=H∧ys=(z.cps.toList.take i).map fun c=>V.bl (decide (97≤c∧c≤122))) ⟨rfl,rfl⟩ (fun i ys H2 hi ⟨e1,e2⟩=>?_) hz' (fun i c ys H2 hx ⟨e1,e2⟩=>?_) (fun ys H2 ⟨e1,e2⟩ D hD=>?_)
 ·have:z.cps.toList.length=z.length:=by simp [Str.length]
  rw [e2,ae,aU];lia
 ·subst e1
  refine ie ?_;refine ⟨_,rfl,_,_,rfl,rfl,rfl,?_⟩;have hx':z.cps.toList[i]? =some c:=by rw [jG];exact hx
  rw [e2,aW,hx',aq,ltr_in];rfl
 ·subst e1
  rw [hsz,bI] at e2;refine ⟨D,z.cps.toList.map fun c=>decide (97≤c∧c≤122),rfl,SqL.of (by rw [aP,e2,bO];rfl),_,rfl,?_⟩;have e3:((z.cps.toList.map fun c=>decide (97≤c∧c≤122)).all id)=true:=by rw [List.all_map];exact n3
  rw [e3];exact iL rfl ⟨_,rfl,k _ (b8.put (b8.refl H2) hD)⟩
end HN
namespace L2
open PySem PySem.Spec PyProof.Rows
theorem op_neD (hu:X.A.units+64<ji):OpR X (dj .NotEq) (fun x y H Q=>∃ ds es,IsD H x (.tup ds)∧IsD H y (.tup es)∧pls ds=true∧pls es=true∧deps ds<60∧Q (.bl (!(eqDs ds es))) H):=by
 intro aI s σ H x y v u Q I rx ry h;obtain ⟨ds,es,ix,iy,pd,pe,hd,q⟩:=h;obtain ⟨a,xs,rfl,ha,r⟩:=ix.tup_of;obtain ⟨b,ys,rfl,hb,r'⟩:=iy.tup_of;cases (show v=ag.ref a from rx);cases (show u=ag.ref b from ry);obtain ⟨its,rv,p,_⟩:=I.tuple (SqT.of (K:=X.K) ha);obtain ⟨its2,rv2,p2,_⟩:=I.tuple (SqT.of (K:=X.K) hb);have p:s.heap.IsTuple a its.toArray:=p;have p2:s.heap.IsTuple b its2.toArray:=p2;have l1:its.length=ds.length:=by rw [←rv.length,r.length]
 have l2:its2.length=es.length:=by rw [←rv2.length,r'.length]
 have key:=SeqAt.RcNeAt.tuples (A:=X.A) (e:=fun j=>eqD (ds.getD j .non) (es.getD j .non)) p p2 (by lia) (fun j h1 h2=>by
  have h1':j<its.length:=by simpa using h1
  have h2':j<its2.length:=by simpa using h2
  obtain ⟨x',ex,dx⟩:=r.at (i:=j) (d:=ds[j]'(by lia)) (gE (by lia));obtain ⟨y',ey,dy⟩:=r'.at (i:=j) (d:=es[j]'(by lia)) (gE (by lia));obtain ⟨u',eu,ru⟩:=rv.get ex;obtain ⟨v',ev,rw'⟩:=rv2.get ey;have eu':its[j]=u':=by rw [gE h1'] at eu;exact bu eu
  have ev':its2[j]=v':=by rw [gE h2'] at ev;exact bu ev
  have g1:ds.getD j .non=ds[j]'(by lia):=by rw [bh,gE (by lia)];rfl
  have g2:es.getD j .non=es[j]'(by lia):=by rw [bh,gE (by lia)];rfl
  show bP X.A.in1 s (its.toArray[j]) (its2.toArray[j]) (eqD (ds.getD j .non) (es.getD j .non));rw [dY,dY,eu',ev',g1,g2];exact eqAt_D 60 (cn (nQ (gE (by lia))) (by lia)) (by show X.A.units+1+60<ji;lia) I dx dy ru rw' (lM pd (gE (by lia))) (lM pe (gE (by lia))))
 refine key X.prog X.w _ _ (dH I q ?_);rw [nP,aA,aA,l1,l2]
theorem ints_are:∀ {ns:List Int} {us:List ag},gr (ns.map V.int) us→IntsAre us ns
 | [],_,.nil=> .nil
 | _::_,_,.cons ⟨_,e⟩ r=>by cases e;exact .cons _ _ (ints_are r)
theorem pls_ints:∀ ns:List Int,pls (ns.map Dt.int)=true
 | []=>by unfold pls;rfl
 | n::r=>by rw [aT];unfold pls;rw [pls_ints r];unfold pl;rfl
theorem deps_ints:∀ ns:List Int,deps (ns.map Dt.int)=0
 | []=>by unfold deps;rfl
 | n::r=>by rw [aT];unfold deps;rw [deps_ints r];unfold dep;rfl
theorem fm_some {α β:Type}{f:α→Option β}{g:α→β}:∀ (l:List α),(∀ x∈l,f x=some (g x))→l.filterMap f=l.map g
 | [],_=>rfl
 | x::l,h=>by rw [gI,h x (by simp),aT,fm_some l fun y hy=>h y (aO _ hy)]
theorem pick_back (xs:Array ag):((cq xs.size).filterMap fun (k:Nat)=>xs[((xs.size:Int) - 1+(k:Int) * (-1)).toNat]?)=xs.toList.reverse:=by
 have e:∀ k∈cq xs.size,(fun (k:Nat)=>xs[((xs.size:Int) - 1+(k:Int) * (-1)).toNat]?) k=some ((fun k=>xs.toList.getD (xs.size - 1 - k) .none) k):=fun k hk=>by
  have hk:=List.mem_range.mp hk;have:((xs.size:Int) - 1+(k:Int) * (-1)).toNat=xs.size - 1 - k:=by lia
  show xs[((xs.size:Int) - 1+(k:Int) * (-1)).toNat]? =some (xs.toList.getD (xs.size - 1 - k) .none);rw [this,bh,jG,Array.getElem?_eq_getElem (by lia)];rfl
 rw [fm_some _ e];refine List.ext_getElem (by simp) fun i h1 h2=>?_
 have hi:i<xs.size:=by simpa using h1
 rw [dZ,List.getElem_range,List.getElem_reverse,bh,gE (by rw [fK];lia)];simp
theorem vals_back:∀ {xs:List V} {us:List ag},gr xs us→gr xs.reverse us.reverse
 | _,_,.nil=> .nil
 | _::_,_::_,.cons r t=>by rw [List.reverse_cons,List.reverse_cons];exact (vals_back t).append (.cons r .nil)
theorem call_sum (hc:X.calm=true):iK X (.builtin "sum") (fun xs H Q=>∃ (p:ak) (ns:List Int),xs=[.ref p]∧SqL X.K H p (ns.map V.int)∧Q (.int ns.sum) H):=by
 intro aI s σ H xs us Q I r h;obtain ⟨p,ns,rfl,hq,q⟩:=h;obtain ⟨u,rfl,ru⟩:=lG r;cases (show u=ag.ref p from ru);obtain ⟨its,rv,pl,hz⟩:=I.list hq;have hi:=ints_are rv;obtain ⟨ys,hx⟩:=hi.allInts.items;have hl':s.heap.IsList p (intItems ys):=hx ▸ pl.isList;refine sum_intListG (I.ok.hd hc) hl' fun h' tk t' hk=>?_
 have e1:ns=ys.toList.map (·.1):=by
  rw [←nums_intItems,←hx];exact (show numsOf its.toArray.toList=ns from hi.numsOf).symm
 have e2:preSum (numAt ys) ys.size=ns.sum:=by
  rw [preSum_eq,bN (by simp),e1]
 rw [e2];exact ⟨.int ns.sum,H,I.kept (t':=tk) hk,⟨t',rfl⟩,q⟩
theorem op_neL0 (hu:X.A.units<ji):OpR X (dj .NotEq) (fun x y H Q=>∃ a b xs,x= .ref a∧y= .ref b∧SqL X.K H a xs∧SqL X.K H b []∧Q (.bl (!xs.isEmpty)) H):=by
 intro aI s σ H x y v u Q I rx ry h;obtain ⟨a,b,xs,rfl,rfl,ha,hb,q⟩:=h;cases (show v=ag.ref a from rx);cases (show u=ag.ref b from ry);obtain ⟨its,r1,p1,_⟩:=I.list ha;obtain ⟨its2,r2,p2,_⟩:=I.list hb;cases r2;cases r1 with
 | nil =>
  refine SeqAt.RcNeAt.lists (A:=X.A) (e:=fun _=>true) p1.isList p2.isList rfl hu (fun j h1 _=>pF h1 (by simp)) X.prog X.w _ _ (dH I q (by simp))
 | cons _ _=>exact SeqAt.RcNeAt.lists_lengths (A:=X.A) p1.isList p2.isList (by simp) hu X.prog X.w _ _ (dH I q (by simp))
section
variable {t:TA}
theorem k_non {j}:PEs X (.Constant .none j pos) (tC .non):=⟨gT⟩
theorem k7 {x j}:PEs X (.Constant (.str x) j pos) (tC (.str x)):=⟨dv⟩
end
theorem k_lstF {t:TA}(h:PAs X es t):PEs X (.List es pos) (tLst t):=⟨jK h.h⟩
theorem pick_backL (its:List ag):slicePick its.toArray none none (some (-1))=its.reverse.toArray:=by
 unfold slicePick;have e0:iN none none (some (-1)) its.toArray.size=((its.length:Int) - 1,-1,-1):=by
  rw [aA];rfl
 rw [e0];show ((sliceRange ((its.length:Int) - 1) (-1) (-1)).filterMap (its.toArray[·]?)).toArray=_;unfold sliceRange;have ec:(if (-1:Int) > 0 then (if (its.length:Int) - 1< -1 then (-1 - ((its.length:Int) - 1)+ -1 - 1) / -1 else 0) else (if (its.length:Int) - 1 > -1 then ((its.length:Int) - 1 - -1 - -1 - 1) / (- -1) else 0))=(its.length:Int):=by
  rw [pB (by decide),show -(-1:Int)=1 from rfl,Int.ediv_one];split <;> lia
 show (((cq (if (-1:Int) > 0 then (if (its.length:Int) - 1< -1 then (-1 - ((its.length:Int) - 1)+ -1 - 1) / -1 else 0) else (if (its.length:Int) - 1 > -1 then ((its.length:Int) - 1 - -1 - -1 - 1) / (- -1) else 0)).toNat).map fun (k:Nat)=>((its.length:Int) - 1+ -1 * (k:Int)).toNat).filterMap (its.toArray[·]?)).toArray=_;rw [ec,eU,List.filterMap_map];have h:=pick_back its.toArray;rw [aA] at h;congr 1;rw [←h];refine pJ (fun f=>List.filterMap f (cq its.length)) (funext fun k=>?_);show its.toArray[((its.length:Int) - 1+ -1 * (k:Int)).toNat]? =its.toArray[((its.length:Int) - 1+(k:Int) * (-1)).toNat]?;rw [Int.mul_comm]
def tBackL (te:TE):TE:=fun σ H Q=>te σ H fun x H1=>∃ a xs,x= .ref a∧H1 a=some (.lst xs)∧New H1 (.lst xs.reverse) Q
theorem pe_backL {p1 p3:Pos}{j}(he:PE X e te):PE X (.Subscript e (.Slice none none (some (.UnaryOp .USub (.Constant (.int 1) j p3) p1)) p2) pos) (tBackL te):=by
 intro aI s σ H Q I h;refine Subscript_ (thn (he aI s σ H _ I h) fun v s1 ⟨x,H1,I1,r1,q1⟩=>?_);obtain ⟨a,xs,rfl,hx,q⟩:=q1;refine wpAny_Slice ?_;rw [evalPart_none,evalPart_some];refine aQ (aQ ?_);refine thn ((pe_un un_neg aC:PE X (.UnaryOp .USub (.Constant (.int 1) j p3) p1) _) aI s1 σ H1 (fun x H2=>x= .int (-1)∧H2=H1) I1 ⟨_,rfl,rfl,rfl⟩) fun u s2 ⟨x2,H2,I2,r2,e2,e3⟩=>?_
 subst e2 e3;obtain ⟨t,rfl⟩:=r2;cases r1;have I4:Inv X aI σ H2 { s2 with heap:=s2.heap.push { cls:= .type "slice",data:= .fields #[.none,.none,.int (-1) t] } }:=I2.kept (t':=s2.toks) fun b ob q=>ao _ q
 obtain ⟨its,r,ht,hz⟩:=I4.list (SqL.of (K:=X.K) hx);have hlen:its.length=xs.length:=r.length.symm;refine tail_any (ops:=[.ref a,.ref s2.heap.objs.size]) ht.isList.typeIs lg.lookup (lF ht.isList (bX.IsSliceOf.new ..) .none .none (.int (-1) t) (by decide) ?_ (by rw [aA,hlen];exact hz)) (by with_unfolding_all rfl);rw [pick_backL];refine ⟨.ref _,_,I4.laid (t':=s2.toks) (o:= .lst xs.reverse) (fun _ _ z=>ao _ z) (az _) ⟨by rw [List.length_reverse];exact hz,its.reverse,0,vals_back r,aJ _ rfl⟩,rfl,q.of _ I4.fresh⟩
def evs {α:Type}:List α→List α
 | []=>[]
 | [x]=>[x]
 | x::_::r=>x::evs r
theorem evs_pick {α:Type}:∀ (l pre:List α),((cq ((l.length+1) / 2)).map fun k=>pre.length+2 * k).filterMap ((pre++l)[·]?)=evs l
 | [],pre=>by simp [evs]
 | [x],pre=>by
  have e:([x].length+1) / 2=1:=by simp
  rw [e];simp [evs]
 | x::y::r,pre=>by
  have ih:=evs_pick r (pre++[x,y]);have e:((x::y::r).length+1) / 2=(r.length+1) / 2+1:=by simp only [aD];lia
  rw [e,List.range_succ_eq_map,aT,gI];have h0:(pre++x::y::r)[pre.length+2 * 0]? =some x:=by simp
  rw [h0];show x::_=x::evs r;congr 1;rw [←ih,bO];have e2:pre++[x,y]++r=pre++x::y::r:=by simp
  rw [e2];congr 1;refine cP fun k _=>?_
  show pre.length+2 * (k+1)=(pre++[x,y]).length+2 * k;rw [aj];show _=pre.length+2+2 * k;lia
theorem oH {α β:Type}(f:α→β):∀ l:List α,(evs l).map f=evs (l.map f)
 | []=>rfl
 | [_]=>rfl
 | _::_::r=>pJ _ (oH f r)
theorem evs_len {α:Type}:∀ l:List α,(evs l).length=(l.length+1) / 2
 | []=>by simp [evs]
 | [_]=>by simp [evs]
 | _::_::r=>by
  show (evs r).length+1=(r.length+1+1+1) / 2;rw [evs_len r];lia
theorem vals_evs:∀ {xs:List V} {us:List ag},gr xs us→gr (evs xs) (evs us)
 | _,_,.nil=> .nil
 | _,_,.cons r .nil=> .cons r .nil
 | _,_,.cons r (.cons _ t)=> .cons r (vals_evs t)
theorem vals_drop:∀ {xs:List V} {us:List ag} (n:Nat),gr xs us→gr (xs.drop n) (us.drop n)
 | _,_,0,h=>h
 | _,_,_+1,.nil=> .nil
 | _,_,n+1,.cons _ t=>vals_drop n t
theorem pick_two (its:List ag){a:Nat}(ha:a≤its.length):slicePick its.toArray (some (a:Int)) none (some 2)=(evs (its.drop a)).toArray:=by
 unfold slicePick;have e0:iN (some (a:Int)) none (some 2) its.toArray.size=((a:Int),(its.length:Int),2):=by
  rw [aA];show (max 0 (min (if (a:Int)<0 then (a:Int)+its.length else (a:Int)) (its.length:Int)),(its.length:Int),(2:Int))=_;rw [pB (by lia),Int.min_eq_left (by lia),Int.max_eq_right (by lia)]
 rw [e0];congr 1;show ((cq (if (2:Int) > 0 then (if (a:Int)<(its.length:Int) then ((its.length:Int) - a+2 - 1) / 2 else 0) else _).toNat).map fun (k:Nat)=>((a:Int)+2 * (k:Int)).toNat).filterMap (its.toArray[·]?)=_;rw [pE (by decide)];have ec:(if (a:Int)<(its.length:Int) then ((its.length:Int) - a+2 - 1) / 2 else 0).toNat=((its.drop a).length+1) / 2:=by
  rw [bV];split <;> lia
 rw [ec,←evs_pick (its.drop a) (its.take a),dF,aU,dm ha];have e1:((cq (((its.drop a).length+1) / 2)).map fun (k:Nat)=>((a:Int)+2 * (k:Int)).toNat)=(cq (((its.drop a).length+1) / 2)).map fun k=>a+2 * k:=cP fun k _=>by lia
 rw [e1];refine pJ (fun f=>List.filterMap f _) (funext fun k=>?_);simp
def tTwoL (K:ai)(a:Nat)(te:TE):TE:=fun σ H Q=>te σ H fun x H1=>∃ p xs,x= .ref p∧SqL K H1 p xs∧a≤xs.length∧New H1 (.lst (evs (xs.drop a))) Q
theorem pe_twoL {a:Nat}{p1 p3:Pos}{j1 j2}(he:PE X e te):PE X (.Subscript e (.Slice (some (.Constant (.int (a:Int)) j1 p1)) none (some (.Constant (.int 2) j2 p3)) p2) pos) (tTwoL X.K a te):=by
 intro aI s σ H Q I h;refine Subscript_ (thn (he aI s σ H _ I h) fun v s1 ⟨x,H1,I1,r1,q1⟩=>?_);obtain ⟨p,xs,rfl,hx,hl,q⟩:=q1;refine wpAny_Slice ?_;rw [evalPart_none,evalPart_some,evalPart_some];refine thn ((aC:PE X (.Constant (.int (a:Int)) j1 p1) _) aI s1 σ H1 (fun x H2=>x= .int (a:Int)∧H2=H1) I1 ⟨rfl,rfl⟩) fun u1 s2 ⟨x2,H2,I2,r2,e2,e3⟩=>?_
 subst e2 e3;obtain ⟨t1,rfl⟩:=r2;refine aQ ?_;refine thn ((aC:PE X (.Constant (.int 2) j2 p3) _) aI s2 σ H2 (fun x H3=>x= .int 2∧H3=H2) I2 ⟨rfl,rfl⟩) fun u3 s3 ⟨x3,H3,I3,r3,e4,e5⟩=>?_
 subst e4 e5;obtain ⟨t3,rfl⟩:=r3;cases r1;have I4:Inv X aI σ H3 { s3 with heap:=s3.heap.push { cls:= .type "slice",data:= .fields #[.int (a:Int) t1,.none,.int 2 t3] } }:=I3.kept (t':=s3.toks) fun b ob q=>ao _ q
 obtain ⟨its,r,ht,hz⟩:=I4.list hx;have hlen:its.length=xs.length:=r.length.symm;refine tail_any (ops:=[.ref p,.ref s3.heap.objs.size]) ht.isList.typeIs lg.lookup (lF ht.isList (bX.IsSliceOf.new ..) (.int _ t1) .none (.int 2 t3) (by decide) ?_ (by rw [aA,hlen];exact hz)) (by with_unfolding_all rfl);rw [pick_two its (by lia)];have el:(evs (xs.drop a)).length≤au:=by
  rw [evs_len,bV];lia
 refine ⟨.ref _,_,I4.laid (t':=s3.toks) (o:= .lst (evs (xs.drop a))) (fun _ _ z=>ao _ z) (az _) ⟨el,evs (its.drop a),0,vals_evs (vals_drop a r),aJ _ rfl⟩,rfl,q.of _ I4.fresh⟩
end L2
namespace HN
open PySem L2 PyProof.Rows HT2
abbrev sBeatR:cN:=top 26
abbrev sLineR:cN:=top 27
inductive spBeatR (vs:List V)(H:Hp)(Q:VK)(_:XK):Prop
 | mk (z:Str)(b:Int)(_:vs=[.str z])(_:z.length≤100000)(_:cM z sp_=[("beat" :Str),j3 b])(_:W60 b)(_:∀ p H',b8 H H'→H' p=some (.tup [.str "beat",.int b])→Q (.ref p) H')
structure LnW (ws:List Str)(n:Str)(ss:List Str)(rs:List Int):Prop where
 five:5≤ws.length
 few:ws.length≤100000
 odd:ws.length % 2=1
 name:ws[1]? =some n
 stops:evs (ws.drop 2)=ss
 runs:evs (ws.drop 3)=rs.map j3
 nn:nam n=true
 sn:∀ z∈ss,nam z=true
 rn:∀ i∈rs,W60 i
inductive spLineR (vs:List V)(H:Hp)(Q:VK)(_:XK):Prop
 | mk (L:ak)(ws:List Str)(n:Str)(ss:List Str)(rs:List Int)(_:vs=[.ref L])(_:H L=some (.lst (ws.map V.str)))(_:LnW ws n ss rs)(_:∀ p a b H',b8 H H'→H' a=some (.tup (ss.map V.str))→H' b=some (.tup (rs.map V.int))→H' p=some (.tup [.str "line",.str n,.ref a,.ref b])→Q (.ref p) H')
theorem scBeatR:cp ["row","words"] ["row"] (defScope sBeatR):=by trivial
theorem ok_beatR (F:Fun K "read_beat" "read_beat" sBeatR f fd)(T:Nm mg)(GW:Fn K mg "read_whole" sRead pzc f1 fd1)(FW:c7 P w K mg base CX0 2 f1 fd1 pzc nY):c7 P w K mg base CX0 3 f fd ["row"] spBeatR:=by
 refine F.ok scBeatR (by contradiction) (fun cdv A outer s H vs Q E hr h=>?_);obtain ⟨z,b,rfl,hz,hs,hb,k⟩:=h;refine ⟨_,cK (psZ 1 scBeatR.nd (i9 eN PySem.F.slot_str_split PySem.F.type_str_split mt_split (pv 0) (af dv aw)))
  (cK (eX (PW.pt (j6 (bK nk (bU bM rfl T.len aR (af (pv 1) aw)) aC (cb _)) (je (bK nk (cH aY (pv 1) aC (fun _ _=>rfl)) dv (cb _))))) (bB jN) cv)
  (bB (bZ (eP (af dv (af (pc1 GW FW hr (af (cH aY (pv 1) aC (fun _ _=>rfl)) aw)) aw)))))),?_⟩
 have one:((sp_:Str).length == 0)=false:=by trivial
 refine ⟨_,rfl,rfl,_,_,rfl,rfl,one,cn (show _≤200000 by lia) (by decide),fun L H1 S1 e1=>?_⟩;have e1:H1 L=some (.lst ((cM z sp_).map V.str)):=e1;rw [hs] at e1;have e1:H1 L=some (.lst [V.str ("beat" :Str),V.str (j3 b)]):=e1;refine ⟨_,rfl,L,_,rfl,.inl (SqL.of e1),rfl,_,rfl,iL (by show (!decide (V.int ((2:Nat):Int)=V.int 2))=false;decide) ?_⟩;refine ⟨_,rfl,L,_,_,_,rfl,rfl,SqL.of e1,aE (j:=0) rfl,rfl,_,rfl,iL (by trivial) ?_⟩;refine ⟨_,rfl,L,_,_,_,rfl,rfl,SqL.of e1,aE (j:=1) rfl,b,rfl,hb,fun H2 S2=>?_⟩;exact ⟨oR,fun p H4 S4 e4=>k p H4 (S1.trans (S2.trans S4)) e4⟩
theorem scLineR:cp ["words","stops","runs"] ["words"] (defScope sLineR):=by trivial
theorem ok_lineR (F:Fun K "read_line" "read_line" sLineR f fd)(T:Nm mg)(GN:Fn K mg "read_name" sNam pzc f1 fd1)(FN:c7 P w K mg base CX0 1 f1 fd1 pzc spNam)(GW:Fn K mg "read_whole" sRead pzc f2 fd2)(FW:c7 P w K mg base CX0 2 f2 fd2 pzc nY):c7 P w K mg base CX0 3 f fd ["words"] spLineR:=by
 refine F.ok scLineR (by contradiction) (fun cdv A outer s H vs Q E hr h=>?_);obtain ⟨L,ws,n,ss,rs,rfl,hL,W,k⟩:=h;have hr1:=hr.mono (show 1≤2 by lia);refine ⟨_,cK (eX (PW.pt (j6 (bK oS (bU bM rfl T.len aR (af (pv 0) aw)) aC (cb _)) (je (bK iT (cD mZ (bU bM rfl T.len aR (af (pv 0) aw)) aC) aC (cb _))))) (bB jN) cv)
  (cK (psZ 1 scLineR.nd (eS jB rfl T.ttup jD (af (jH (fr:=[]) (js:=[]) rfl (gN (pe_twoL (a:=2) (pv 0))) (by trivial) rfl (by trivial) rfl (by exists sLineR) (by trivial) rfl (by trivial) (fun _ _ _ _ _=>⟨(pc1 GN FN hr1 (af (pv 0) aw)),jg⟩)) aw)))
  (cK (psZ 2 scLineR.nd (eS jB rfl T.ttup jD (af (jH (fr:=[]) (js:=[]) rfl (gN (pe_twoL (a:=3) (pv 0))) (by trivial) rfl (by trivial) rfl (by exists sLineR) (by trivial) rfl (by trivial) (fun _ _ _ _ _=>⟨(pc1 GW FW hr (af (pv 0) aw)),jg⟩)) aw)))
  (bB (bZ (eP (af dv (af (pc1 GN FN hr1 (af (cH aY (pv 0) aC (fun _ _=>rfl)) aw)) (af (pv 1) (af (pv 2) aw))))))))),?_⟩
 have hlw:(ws.map V.str).length=ws.length:=ae _;have w1:=W.five;have w2:=W.few;have w3:=W.odd;have big:(200000:Nat)≤au:=by decide
 refine ⟨_,rfl,L,_,rfl,.inl (SqL.of hL),_,_,rfl,rfl,_,rfl,iL (pH (by rw [hlw];lia)) ?_⟩;refine ⟨_,rfl,L,_,rfl,.inl (SqL.of hL),_,_,rfl,rfl,(by show (0:Int)<2;decide),rfl,_,rfl,iL ?_ ?_⟩
 ·rw [hlw]
  refine pH fun z=>?_
  injection z with z
  lia
 refine ⟨_,rfl,L,_,rfl,SqL.of hL,by rw [hlw];lia,fun D1 H1 S1 d1=>?_⟩;rw [←gb,←oH,W.stops] at d1;have ls:ss.length≤200000:=by rw [←W.stops,evs_len,bV];lia
 have lr:rs.length≤200000:=by
  have:=pJ gc W.runs;rw [evs_len,bV,ae] at this;lia
 refine ⟨D1,rfl,⟨_,SqL.of d1⟩,?_⟩;refine iW (K:=K) (a:=D1) (xs:=ss.map V.str) (fun j zs H3=>b8 H1 H3∧zs=(ss.take j).map V.str) ⟨b8.refl _,rfl⟩ (fun j zs H3 hj ⟨g1,g2⟩=>?_) (by rw [ae];lia) (fun j x zs H3 hx3 ⟨g1,g2⟩=>?_) (fun zs H3 ⟨g1,g2⟩ D hD=>?_)
 ·refine ⟨SqL.of (g1 _ _ d1),?_⟩
  rw [g2,ae,aU];lia
 ·rw [ax] at hx3
  obtain ⟨z,hn3,rfl⟩:=aS.mp hx3;refine ie ?_;refine ⟨_,rfl,z,rfl,W.sn z (ay hn3),fun H4 S4=>⟨g1.trans S4,?_⟩⟩;rw [g2,aW,hn3,aq];rfl
 rw [ae,bI] at g2;refine ⟨D,zs,rfl,SqL.of aP,fun a H4 S4 e4=>?_⟩;rw [g2] at e4;have S5:b8 H H4:=S1.trans (g1.trans (b8.trans (b8.put (b8.refl H3) hD) S4));refine ⟨_,rfl,L,_,rfl,SqL.of (S5 _ _ hL),by rw [hlw];lia,fun D2 H6 S6 d2=>?_⟩;rw [←gb,←oH,W.runs] at d2;refine ⟨D2,rfl,⟨_,SqL.of d2⟩,?_⟩;refine iW (K:=K) (a:=D2) (xs:=(rs.map j3).map V.str) (fun j zs H3=>b8 H6 H3∧zs=(rs.take j).map V.int) ⟨b8.refl _,rfl⟩ (fun j zs H3 hj ⟨g1,g2⟩=>?_) (by rw [ae,ae];lia) (fun j x zs H3 hx3 ⟨g1,g2⟩=>?_) (fun zs2 H7 ⟨g3,g4⟩ D' hD'=>?_)
 ·refine ⟨SqL.of (g1 _ _ d2),?_⟩
  rw [g2,ae,aU];lia
 ·rw [bO,ax] at hx3
  obtain ⟨i,hn3,rfl⟩:=aS.mp hx3;refine ie ?_;refine ⟨_,rfl,i,rfl,W.rn i (ay hn3),fun H4 S4=>⟨g1.trans S4,?_⟩⟩;rw [g2,aW,hn3,aq];rfl
 rw [ae,ae,bI] at g4;refine ⟨D',zs2,rfl,SqL.of aP,fun b H8 S8 e8=>?_⟩;rw [g4] at e8;have S9:b8 H4 H8:=S6.trans (g3.trans (b8.trans (b8.put (b8.refl H7) hD') S8));refine ⟨_,rfl,L,_,_,_,rfl,rfl,SqL.of (S9 _ _ (S5 _ _ hL)),aE (j:=1) (by rw [ax,W.name];rfl),n,rfl,W.nn,fun H10 S10=>?_⟩;exact ⟨_,rfl,_,rfl,szZ4,fun p H11 S11 e11=>k p a b H11 (S5.trans (S9.trans (S10.trans S11))) ((S9.trans (S10.trans S11)) _ _ e4) ((S10.trans S11) _ _ e8) e11⟩
end HN
namespace L2
open PySem PySem.Spec PyProof.Rows
section
variable {κ:Type} [DecidableEq κ]
def kC (kvs:List (κ×V))(k:κ):Option V:=(kvs.find? fun kv=>decide (kv.1=k)).map (·.2)
def putK (kvs:List (κ×V))(k:κ)(v:V):List (κ×V) :=
 if (kvs.any fun kv=>decide (kv.1=k))=true then kvs.map (fun kv=>if kv.1=k then (kv.1,v) else kv) else kvs++[(k,v)]
theorem iC {p:κ×V}{r:List (κ×V)}{k:κ}(e:p.1=k):kC (p::r) k=some p.2:=by simp [kC,i8,e]
theorem ic {p:κ×V}{r:List (κ×V)}{k:κ}(e:¬ p.1=k):kC (p::r) k=kC r k:=by simp [kC,i8,e]
theorem lY (k:κ):∀ kvs:List (κ×V),(kvs.any fun kv=>decide (kv.1=k))=(kC kvs k).isSome
 | []=>rfl
 | p::r=>by
  rw [hZ]
  by_cases e:p.1=k
  ·simp only [iC e,pG e,Bool.true_or,Option.isSome_some]
  ·rw [ic e,pH e,Bool.false_or];exact lY k r
theorem valV_map (k j:κ)(y:V):∀ kvs:List (κ×V),kC (kvs.map fun kv=>if kv.1=k then (kv.1,y) else kv) j=(kC kvs j).map fun x=>if j=k then y else x
 | []=>rfl
 | p::r=>by
  have ih:=valV_map k j y r;rw [aT]
  by_cases h:p.1=k
  ·rw [pE h]
   by_cases e:p.1=j
   ·rw [iC (p:=(p.1,y)) e,iC e,jT,pE (e.symm.trans h)]
   ·rw [ic (p:=(p.1,y)) e,ic e,ih]
  ·rw [pB h]
   by_cases e:p.1=j
   ·rw [iC (p:=p) e,iC e,jT,pB (fun z=>h (e.trans z))]
   ·rw [ic (p:=p) e,ic e,ih]
theorem valV_snoc (k j:κ)(y:V):∀ kvs:List (κ×V),kC kvs k=none→kC (kvs++[(k,y)]) j=if j=k then some y else kC kvs j
 | [],_=>by
  by_cases e:k=j
  ·rw [pE e.symm];exact iC (p:=(k,y)) e
  ·rw [pB (fun z=>e z.symm)];exact ic (p:=(k,y)) e
 | p::r,hn=>by
  rw [List.cons_append];have hk:¬ p.1=k:=fun z=>by rw [iC z] at hn;cases hn
  rw [ic hk] at hn;have ih:=valV_snoc k j y r hn
  by_cases e:p.1=j
  ·rw [iC e,iC e,pB (fun z=>hk (e.trans z))]
  ·rw [ic e,ic e,ih]
theorem valV_put (kvs:List (κ×V))(k j:κ)(y:V):kC (putK kvs k y) j=if j=k then some y else kC kvs j:=by
 unfold putK
 by_cases a:(kvs.any fun kv=>decide (kv.1=k))=true
 ·rw [pE a,valV_map]
  rw [lY] at a
  by_cases e:j=k
  ·obtain ⟨x,hx⟩:=Option.isSome_iff_exists.mp a
   rw [pE e,e,hx,jT,pE rfl]
  ·rw [pB e]
   cases kC kvs j with
   | none=>rfl
   | some x=>rw [jT,pB e]
 ·rw [pB a]
  refine valV_snoc k j y kvs ?_;rw [lY] at a;cases q:kC kvs k with
  | none=>rfl
  | some x=>rw [q] at a;exact (a rfl).elim
theorem lQ (kvs:List (κ×V))(k:κ)(v:V):(putK kvs k v).length≤kvs.length+1:=by
 unfold putK;split
 ·rw [ae];lia
 ·rw [aj,aD,iZ];lia
theorem RelO.isSome_eq {o:Option V}{u:Option ag}(r:RelO o u):o.isSome=u.isSome:=by
 cases o with
 | none=>cases u with
  | none=>rfl
  | some _=>exact (show False from r).elim
 | some _=>cases u with
  | none=>exact (show False from r).elim
  | some _=>rfl
theorem RelO.getD {o:Option V}{u:Option ag}{d:V}{d':ag}(r:RelO o u)(rd:gU d d'):gU (o.getD d) (u.getD d'):=by
 cases o with
 | none=>cases u with
  | none=>exact rd
  | some _=>exact (show False from r).elim
 | some _=>cases u with
  | none=>exact (show False from r).elim
  | some _=>exact r
theorem KV.val {kvs:List (κ×V)}{vs:List (κ×ag)}(r:KV kvs vs)(k:κ):RelO (kC kvs k) (valueAt vs k):=by
 unfold KV at r
 induction r with
 | nil=>exact True.intro
 | @cons p q ps qs h t ih =>
  obtain ⟨h1,h2⟩:=h
  by_cases e:p.1=k
  ·have e':q.1=k:=h1.symm.trans e
   have b:valueAt (q::qs) k=some q.2:=by simp [valueAt,i8,e']
   rw [iC e,b];exact h2
  ·have e':¬ q.1=k:=fun z=>e (h1.trans z)
   have b:valueAt (q::qs) k=valueAt qs k:=by simp [valueAt,i8,e']
   rw [ic e,b];exact ih
theorem KV.any {kvs:List (κ×V)}{vs:List (κ×ag)}(r:KV kvs vs)(k:κ):(kvs.any fun kv=>decide (kv.1=k))=vs.any fun kv=>decide (kv.1=k):=by
 unfold KV at r
 induction r with
 | nil=>rfl
 | cons h t ih=>rw [hZ,hZ,ih,h.1]
theorem KV.repl {kvs:List (κ×V)}{vs:List (κ×ag)}(r:KV kvs vs)(k:κ)(ry:gU y u) :
  KV (kvs.map fun kv=>if kv.1=k then (kv.1,y) else kv) (vs.map fun kv=>if kv.1=k then (kv.1,u) else kv):=by
 unfold KV at r ⊢
 induction r with
 | nil=>exact .nil
 | @cons p q ps qs h t ih =>
  rw [aT,aT];refine .cons ?_ ih;obtain ⟨h1,h2⟩:=h
  by_cases e:p.1=k
  ·rw [pE e,pE (h1.symm.trans e)];exact ⟨h1,ry⟩
  ·rw [pB e,pB (fun z=>e (h1.trans z))];exact ⟨h1,h2⟩
theorem KV.put {kvs:List (κ×V)}{vs:List (κ×ag)}(r:KV kvs vs)(k:κ)(ry:gU y u):KV (putK kvs k y) (stored vs k u):=by
 unfold putK stored;rw [r.any k]
 by_cases e:(vs.any fun kv=>decide (kv.1=k))=true
 ·rw [pE e,pE e];exact r.repl k ry
 ·rw [pB e,pB e];exact Paired.snoc r ⟨rfl,ry⟩
theorem KV.length {kvs:List (κ×V)}{vs:List (κ×ag)}(r:KV kvs vs):kvs.length=vs.length:=Paired.length r
end
theorem kV_is {k:Key}(r:gU (kV k) u):(fQ P w).is k u=true:=by
 cases k with
 | inl i=>obtain ⟨t,e⟩:=(show ∃ t,u=ag.int i t from r);subst e;exact mixKind_int P w i t
 | inr x=>obtain ⟨t,e⟩:=(show ∃ t,u=ag.str x t from r);subst e;exact lP P w x t
theorem items_are {P:aK}{w:br}:∀ {ks:List Key} {us:List ag},gr (ks.map kV) us→ItemsAre (fQ P w) ks us
 | [],_,r=>by rw [List.map_nil] at r;cases r;exact .nil
 | k::ks,_,r=>by
  rw [aT] at r;cases r with
  | cons h t=>exact .cons (kV_is h) (items_are t)
abbrev KT (H:Hp):List (List Key×V)→List (List Key×ak×ag)→Prop:=Paired fun p q=>p.1=q.1∧H q.2.1=some (.tup (p.1.map kV))∧gU p.2 q.2.2
theorem KT.val {xs:List (List Key×ak×ag)}(r:KT H kvs xs)(k:List Key):RelO (kC kvs k) ((atKey xs k).map (·.2)):=by
 induction r with
 | nil=>exact True.intro
 | @cons p q ps qs h t ih =>
  obtain ⟨h1,_,h2⟩:=h
  by_cases e:p.1=k
  ·have e':q.1=k:=h1.symm.trans e
   have b:atKey (q::qs) k=some q.2:=by simp [atKey,i8,e']
   rw [iC e,b];exact h2
  ·have e':¬ q.1=k:=fun z=>e (h1.trans z)
   have b:atKey (q::qs) k=atKey qs k:=by simp [atKey,i8,e']
   rw [ic e,b];exact ih
theorem KT.repl {xs:List (List Key×ak×ag)}(r:KT H kvs xs)(k:List Key)(ry:gU y u) :
  KT H (kvs.map fun kv=>if kv.1=k then (kv.1,y) else kv) (xs.map (putAt k u)):=by
 induction r with
 | nil=>exact .nil
 | @cons p q ps qs h t ih =>
  rw [aT,aT];refine .cons ?_ ih;obtain ⟨h1,h2,h3⟩:=h;unfold putAt
  by_cases e:p.1=k
  ·rw [pE e,pE (h1.symm.trans e)];exact ⟨h1,h2,ry⟩
  ·rw [pB e,pB (fun z=>e (h1.trans z))];exact ⟨h1,h2,h3⟩
theorem KT.put {xs:List (List Key×ak×ag)}(r:KT H kvs xs)(k:List Key){b:ak}(hb:H b=some (.tup (k.map kV)))(ry:gU y u) :
  KT H (putK kvs k y) (storedH xs k b u):=by
 have e:(kvs.any fun kv=>decide (kv.1=k))=(atKey xs k).isSome:=by
  rw [lY,(r.val k).isSome_eq,Option.isSome_map]
 unfold putK storedH;rw [e]
 by_cases q:(atKey xs k).isSome=true
 ·rw [pE q,pE q];exact r.repl k ry
 ·rw [pB q,pB q];exact Paired.snoc r ⟨rfl,hb,ry⟩
theorem KT.keeps {xs:List (List Key×ak×ag)}(r:KT H kvs xs)(ht:∀ b ys,H b=some (.tup ys)→H' b=some (.tup ys)):KT H' kvs xs :=
 Paired.mapP r fun _ _ z=>⟨z.1,ht _ _ z.2.1,z.2.2⟩
theorem rd_of {u:HO}(ok:HOk P w H h)(e:Rd H a u):hW P w H h a u:=e.ok ok
theorem dk_rd {kvs:List (Key×V)}(ok:HOk P w H h)(e:Rd H a (.dK kvs)):kvs.length≤au∧(a == fY)=false∧∃ vs,KV kvs vs∧h.DictOf (fQ P w) a vs :=
 show hW P w H h a (.dK kvs) from rd_of ok e
theorem dk_of {kvs:List (Key×V)}(ok:HOk P w H h)(e:H a=some (.dK kvs)):kvs.length≤au∧(a == fY)=false∧∃ vs,KV kvs vs∧h.DictOf (fQ P w) a vs:=dk_rd ok (.inl e)
theorem key_of {ks:List Key}(ok:HOk P w H h)(e:H a=some (.tup (ks.map kV))):(tupleKind (fQ P w)).is h ks a:=by
 obtain ⟨_,its,r,o,h1,h2,_,n,h3⟩:=(show hW P w H h a (.tup (ks.map kV)) from ok a _ e);exact ⟨o,its.toArray,n,h1,h2,h3,by simpa using items_are r⟩
theorem dt_rd (ok:HOk P w H h)(e:Rd H a (.dT kvs)):kvs.length≤au∧(a == fY)=false ∧
  ∃ xs,KT H kvs xs∧h.DictOfH (tupleKind (fQ P w)) a xs:=by
 obtain ⟨z,y,xs,r,o,es,ep,h1,h2,h3,h4,h5⟩:=(show hW P w H h a (.dT kvs) from rd_of ok e);refine ⟨z,y,xs,r,o,es,ep,h1,h2,h3,h4,fun x hx=>?_,h5⟩;have all:∀ {l:List (List Key×V)} {m:List (List Key×ak×ag)},KT H l m→∀ x∈m,(tupleKind (fQ P w)).is h x.1 x.2.1:=by
  intro l m q
  induction q with
  | nil=>intro x hx;exact nomatch hx
  | @cons p q ps qs hq t ih =>
   intro x hx
   rcases av.mp hx with e | hx
   ·subst e
    exact key_of ok (by rw [←hq.1];exact hq.2.1)
   ·exact ih x hx
 exact all r x hx
theorem dt_of (ok:HOk P w H h)(e:H a=some (.dT kvs)):kvs.length≤au∧(a == fY)=false ∧
  ∃ xs,KT H kvs xs∧h.DictOfH (tupleKind (fQ P w)) a xs:=dt_rd ok (.inl e)
def DGet (H:Hp)(a:ak)(y:V)(r:Option V):Prop :=
 (∃ kvs k,Rd H a (.dK kvs)∧y=kV k∧r=kC kvs k)∨∃ kvs k b,Rd H a (.dT kvs)∧y= .ref b∧H b=some (.tup (k.map kV))∧r=kC kvs k
def DPut (H:Hp)(a:ak)(y v:V)(H':Hp):Prop :=
 (∃ kvs k,H a=some (.dK kvs)∧y=kV k∧kvs.length<au∧H'=upd H a (.dK (putK kvs k v))) ∨
 ∃ kvs k b,H a=some (.dT kvs)∧y= .ref b∧H b=some (.tup (k.map kV))∧kvs.length<au∧H'=upd H a (.dT (putK kvs k v))
theorem DGet.t {b:ak}{k:List Key}(e:H a=some (.dT kvs))(eb:H b=some (.tup (k.map kV))):DGet H a (.ref b) (kC kvs k):= .inr ⟨kvs,k,b,.inl e,rfl,eb,rfl⟩
theorem DPut.t {b:ak}{k:List Key}(e:H a=some (.dT kvs))(eb:H b=some (.tup (k.map kV)))(hl:kvs.length<au) :
  DPut H a (.ref b) v (upd H a (.dT (putK kvs k v))):= .inr ⟨kvs,k,b,e,rfl,eb,hl,rfl⟩
section
variable {r:ag}{o:Option V}
theorem d_in (hu:A.units+1<ji)(I:Inv X aI σ H s)(g:DGet H a y o)(ry:gU y u)(h:∀ s',Inv X aI σ H s'→Q (.bool o.isSome) s') :
  bo (bQ X.prog X.w) A (dj .In u (.ref a)) Q E s:=by
 rcases g with ⟨kvs,k,e,ey,l⟩ | ⟨kvs,k,b,e,ey,eb,l⟩
 ·subst ey
  obtain ⟨z,hd,vs,rel,dd⟩:=dk_rd I.hok e;refine wpAny_in_of (kV_is ry) hd dd.mapOf ?_;rw [←(rel.val k).isSome_eq,←l];exact h _ (I.tok _)
 ·subst ey
  cases (show u=ag.ref b from ry);obtain ⟨z,hd,xs,rel,dd⟩:=dt_rd I.hok e;refine wpAny_in_heap (kS hu) (key_of I.hok eb) hd dd ?_;have q:=(rel.val k).isSome_eq;rw [Option.isSome_map] at q;rw [←q,←l];exact h _ (I.tok _)
theorem d_write {ob:HO}(I:Inv X aI σ H s)(mu:Mut (H a))(hs:cI a s.heap h')(he:∃ q,h'.get? a=some q)(new:hW X.prog X.w (upd H a ob) h' a ob) :
  Inv X aI σ (upd H a ob) { s with heap:=h',toks:=t' } :=
 I.write (x:=a) (e:=a) mu (.inl rfl) (fun b q hb z=>(hs.2 b hb).trans z) he new
theorem dk_new {kvs:List (Key×V)}{vs:List (Key×ag)}(z:kvs.length≤au)(hd:(a == fY)=false)(rel:KV kvs vs)(dd:h'.DictOf (fQ P w) a vs) :
  hW P w H' h' a (.dK kvs):=⟨z,hd,vs,rel,dd⟩
theorem d_setItem {Q:Unit→ar→Prop}(hu:A.units+1<ji)(I:Inv X aI σ H s)(g:DPut H a y v H')(ry:gU y u)(rv:gU v r)(h:∀ s',Inv X aI σ H' s'→Q () s') :
  bo (bQ X.prog X.w) A (setItem (.ref a) u r) Q E s:=by
 rcases g with ⟨kvs,k,e,ey,l,eH⟩ | ⟨kvs,k,b,e,ey,eb,l,eH⟩
 ·subst ey eH
  obtain ⟨z,hd,vs,rel,dd⟩:=dk_of I.hok e;have hz:vs.length≤au:=by rw [←rel.length];exact z
  have hl:(putK kvs k v).length≤au:=by have:=lQ kvs k v;lia
  refine wpAny_setItem_pairs (hsz:=hz) (kV_is ry) dd fun h' dd' hs=>h _ ?_
  have he:∃ q,h'.get? a=some q:=let ⟨q,_,_,hq,_⟩:=dd';⟨q,hq⟩;exact d_write I (by rw [e];exact True.intro) hs he (dk_new hl hd (rel.put k rv) dd')
 ·subst ey eH
  cases (show u=ag.ref b from ry);obtain ⟨z,hd,xs,rel,dd⟩:=dt_of I.hok e;have hz:xs.length≤au:=by rw [←Paired.length rel];exact z
  have hl:(putK kvs k v).length≤au:=by have:=lQ kvs k v;lia
  refine wpAny_setItem_heap (hsz:=hz) (kS hu) (key_of I.hok eb) dd fun h' dd' hs=>h _ ?_
  obtain ⟨q,es,ep,hq,h2,h3,h4,_,h5⟩:=dd';refine d_write I (by rw [e];exact True.intro) hs ⟨q,hq⟩ ⟨hl,hd,_,(rel.put k eb rv).keeps fun c ys ec=>?_,q,es,ep,hq,h2,h3,h4,h5⟩;rw [aX (de ec e (fun z=>nomatch z))];exact ec
end
section
variable {kvs:List (Key×V)}{k:Key}
theorem d_len (I:Inv X aI σ H s)(e:Rd H a (.dK kvs))(h:∀ t s',Inv X aI σ H s'→Q (.int kvs.length t) s'):bo (bQ X.prog X.w) A (call (.builtin "len") [.ref a]) Q E s:=by
 obtain ⟨z,hd,vs,rel,dd⟩:=dk_rd I.hok e;refine call_len_dict hd dd (by rw [←rel.length];rw [sizeLine_eq] at z;lia) ?_;rw [←rel.length];exact h _ _ (I.tok _)
end
def NoSl (i:Expr):Prop:=∀ ov iv,subscripted i false ov iv=operate [ov,iv] (getItem ov iv)
theorem subD_of {slice:Expr}{id:String}
  (hl:typeLookup (.type T) "__getitem__" =gK (some (.builtin id))) (hs:NoSl slice)
  (h:bo (bQ prog w) A (dn value env) (fun o s₁=>bo (bQ prog w) A (dn slice env) (fun i s₂=>s₂.TypeIs o T∧bo (bQ prog w) A (getItem o i) Q E s₂) E s₁) E s) :
  bo (bQ prog w) A (dn (.Subscript value slice pos) env) Q E s:=by
 refine Subscript_ (eh h (fun o s₁ h₁=>eh h₁ (fun i s₂ h₂=>?_) fun _ _ x=>x) fun _ _ x=>x);obtain ⟨hT,h₂⟩:=h₂;unfold subscriptTail;refine al ?_;rw [getitemInPython_of_ne hT.not_modules];refine al (wpAny_specialOf hT hl ?_);have fin:bo (bQ prog w) A (subscripted slice false o i) (fun r s₃=>bo (bQ prog w) A (letTemporaryGo value o r >>= fun _=>gK r) Q E s₃) E s₂:=by
  rw [hs o i];exact wpAny_operating (eh h₂ (fun r s₃ h₃=>al (wpAny_letTemporaryGo (aQ h₃))) fun _ _ x=>x)
 first
  | exact aQ (al fin)
  | exact al (aQ (al fin))
  | exact al fin
def tDIn (ty td:TE):TE:=fun σ H Q=>ty σ H fun y H1=>td σ H1 fun x H2=>∃ a o,x= .ref a∧DGet H2 a y o∧Q (.bl o.isSome) H2
def sDPut (td ty tv:TE):TS:=fun D σ H=>tv σ H fun v H1=>td σ H1 fun x H2=>ty σ H2 fun y H3=>∃ a H4,x= .ref a∧DPut H3 a y v H4∧D.nx σ H4
section
variable {o i:Expr}{tpos:Pos}{td ty tv:TE}
theorem pc_din (hu:X.A.units+1<ji)(hi:PE X i ty)(ho:PE X o td):PC X .In i o (tDIn ty td):=by
 intro aI s σ H Q I h;refine thn (hi aI s σ H _ I h) fun iv s1 ⟨y,H1,I1,ry,q1⟩=>thn (ho aI s1 σ H1 _ I1 q1) fun u s2 ⟨x,H2,I2,rx,a,ov,ex,g,q2⟩=>?_
 subst ex;obtain rfl:u=ag.ref a:=rx;exact d_in hu I2 g ry fun s3 I3=>⟨.bl ov.isSome,H2,I3,rfl,q2⟩
theorem ps_dput (hu:X.A.units+1<ji)(ho:PE X o td)(hi:PE X i ty)(hv:PE X value tv)(hs:swapsWith value (some (.Subscript o i pos')) pos.line X.env=gK false) :
  PS X (.Assign [.Subscript o i pos'] value pos) (sDPut td ty tv):=by
 intro aI s σ H D I h;refine wpAny_Assign_Subscript (thn (hv aI s σ H _ I h) fun r s1 ⟨v,H1,I1,rv,q1⟩=>thn (ho aI s1 σ H1 _ I1 q1) fun u s2 ⟨x,H2,I2,rx,q2⟩=>thn (hi aI s2 σ H2 _ I2 q2) fun iv s3 ⟨y,H3,I3,ry,a,H4,ex,g,q3⟩=>?_) hs;subst ex;obtain rfl:u=ag.ref a:=rx;exact d_setItem hu I3 g ry rv fun s4 I4=>⟨σ,H4,I4,q3⟩
end
theorem dt_empty (h:bX)(hb:fY<h.objs.size):hW P w H (h.push { cls:= .type "dict",data:= .dict #[] }) h.objs.size (.dT []) :=
 ⟨cz _,beq_eq_false_iff_ne.mpr (cO (cg hb)),[],.nil,_,#[],0,aJ _ rfl,⟨rfl,rfl,rfl⟩,rfl,rfl,List.nodup_nil⟩
def tDNewT:TE:=fun _ H Q=>∀ p,H p=none→Q (.ref p) (upd H p (.dT []))
theorem pe_dnewT:PE X (.Dict [] [] pos) tDNewT:=fun aI s σ H Q I h =>
 wpAny_Dict_empty ⟨.ref s.heap.objs.size,_,I.laid (a:=s.heap.objs.size) (o:= .dT []) (t':=s.toks) (fun _ _ q=>ao _ q) (az _) (dt_empty s.heap I.big),rfl,h _ (I.hok.fresh (az _))⟩
structure M1 (X:Cx)(o:Expr)(m:Str)(apos:Pos)(e:Expr)(cpos:Pos):Prop where
 base:iu o m X.env (dn o X.env)=dn o X.env
 few:((gk cpos (bw [e] X.env)).all (fun x=> !x.1) && (backToKw cpos (ku [] X.env)).all (fun x=>x.1.isSome)
  && decide (([e]:List Expr).length+([]:List Keyword).length+(if ([]:List Keyword).isEmpty then 0 else 1)<30))=true
 line:(apos.endLine == cpos.line)=true
 trees:gk cpos (bw [e] X.env)=[(false,dn e X.env)]
structure M2 (X:Cx)(o:Expr)(m:Str)(apos:Pos)(e f:Expr)(cpos:Pos):Prop where
 base:iu o m X.env (dn o X.env)=dn o X.env
 few:((gk cpos (bw [e,f] X.env)).all (fun x=> !x.1) && (backToKw cpos (ku [] X.env)).all (fun x=>x.1.isSome)
  && decide (([e,f]:List Expr).length+([]:List Keyword).length+(if ([]:List Keyword).isEmpty then 0 else 1)<30))=true
 line:(apos.endLine == cpos.line)=true
 trees:gk cpos (bw [e,f] X.env)=[(false,dn e X.env),(false,dn f X.env)]
def IsDct (H:Hp)(a:ak):Prop:=(∃ kvs,Rd H a (.dK kvs))∨∃ kvs,Rd H a (.dT kvs)
theorem isDct_at (I:Inv X aI σ H s)(d:IsDct H a) :
  s.TypeIs (.ref a) "dict" ∧(∀ b,ag.ref a= .ref b→∃ ob,s.heap.get? b=some ob∧ob.dict=none)∧(a == fY)=false:=by
 rcases d with ⟨kvs,e⟩ | ⟨kvs,e⟩
 ·obtain ⟨_,hd,vs,_,dd⟩:=dk_rd I.hok e
  refine ⟨dd.typeIs,fun b q=>?_,hd⟩;cases q;obtain ⟨ob,_,_,h1,h2,_⟩:=dd;exact ⟨ob,h1,h2.2.1⟩
 ·obtain ⟨_,hd,xs,_,dd⟩:=dt_rd I.hok e
  refine ⟨dd.typeIs,fun b q=>?_,hd⟩;cases q;obtain ⟨ob,_,_,h1,h2,_⟩:=dd;exact ⟨ob,h1,h2.2.1⟩
section
variable {d:V}{r:ag}{o:Option V}
theorem d_get1 (hu:A.units+1<ji)(I:Inv X aI σ H s)(g:DGet H a y o)(ry:gU y u)(h:∀ w' s',Inv X aI σ H s'→gU (o.getD .non) w'→Q w' s') :
  bo (bQ X.prog X.w) A (call (.builtin "dict.get") [.ref a,u]) Q E s:=by
 rcases g with ⟨kvs,k,e,ey,l⟩ | ⟨kvs,k,b,e,ey,eb,l⟩
 ·subst ey
  obtain ⟨z,hd,vs,rel,dd⟩:=dk_rd I.hok e;refine call_meetsIn gg dd.typeIs jd (PySem.F.args_dict_get_2 _ _) (meets_dict_get (fQ X.prog X.w) a (kV_is ry) hd) ⟨_,dd.mapOf,h _ _ (I.tok _) ?_⟩;rw [l];exact (rel.val k).getD rfl
 ·subst ey
  cases (show u=ag.ref b from ry);obtain ⟨z,hd,xs,rel,dd⟩:=dt_rd I.hok e;refine call_meetsIn gg dd.typeIs jd (PySem.F.args_dict_get_2 _ _) (meetsH_dict_get (tupleKind (fQ X.prog X.w)) a b hd) ⟨kS hu,k,xs,key_of I.hok eb,dd,h _ _ (I.tok _) ?_⟩;rw [l];exact (rel.val k).getD rfl
theorem d_get2 (hu:A.units+1<ji)(I:Inv X aI σ H s)(g:DGet H a y o)(ry:gU y u)(rd:gU d r)(h:∀ w' s',Inv X aI σ H s'→gU (o.getD d) w'→Q w' s') :
  bo (bQ X.prog X.w) A (call (.builtin "dict.get") [.ref a,u,r]) Q E s:=by
 rcases g with ⟨kvs,k,e,ey,l⟩ | ⟨kvs,k,b,e,ey,eb,l⟩
 ·subst ey
  obtain ⟨z,hd,vs,rel,dd⟩:=dk_rd I.hok e;refine call_meetsIn gg dd.typeIs jd (PySem.F.args_dict_get_3 _ _ _) (meets_dict_get_default (fQ X.prog X.w) a (kV_is ry) hd r) ⟨_,dd.mapOf,h _ _ (I.tok _) ?_⟩;rw [l];exact (rel.val k).getD rd
 ·subst ey
  cases (show u=ag.ref b from ry);obtain ⟨z,hd,xs,rel,dd⟩:=dt_rd I.hok e;refine call_meetsIn gg dd.typeIs jd (PySem.F.args_dict_get_3 _ _ _) (meetsH_dict_get_default (tupleKind (fQ X.prog X.w)) a b hd r) ⟨kS hu,k,xs,key_of I.hok eb,dd,h _ _ (I.tok _) ?_⟩;rw [l];exact (rel.val k).getD rd
end
def tDGet1 (td ty:TE):TE:=fun σ H Q=>td σ H fun x H1=>∃ a,x= .ref a∧IsDct H1 a∧ty σ H1 fun y H2=>∃ o,DGet H2 a y o∧Q (o.getD .non) H2
def tDGet2 (td ty tx:TE):TE:=fun σ H Q=>td σ H fun x H1=>∃ a,x= .ref a∧IsDct H1 a∧ty σ H1 fun y H2=>tx σ H2 fun z H3=>∃ o,DGet H3 a y o∧Q (o.getD z) H3
section
variable {o f:Expr}{td ty tx:TE}
theorem pe_dget1 (hu:X.A.units+1<ji)(ho:PE X o td)(he:PE X e ty)(m:M1 X o "get" apos e cpos):PE X (.Call (.Attribute o "get" apos) [e] [] cpos) (tDGet1 td ty):=by
 intro aI s σ H Q I h;refine wpAny_Call_method m.base m.few m.line kM gg PySem.F.type_dict_get (thn (ho aI s σ H _ I h) fun u s1 ⟨x,H1,I1,rx,a,ex,d,q1⟩=>?_);subst ex;obtain rfl:u=ag.ref a:=rx;obtain ⟨t1,t2,_⟩:=isDct_at I1 d;refine ⟨t1,t2,?_⟩;rw [m.trees];refine gQ rfl (jR (kB (thn (he aI s1 σ H1 _ I1 q1) fun iv s2 ⟨y,H2,I2,ry,ov,g,q2⟩=>Calls.spliced_nil ?_)));exact d_get1 hu I2 g ry fun w' s3 I3 rw'=>⟨_,H2,I3,rw',q2⟩
theorem pe_dget2 (hu:X.A.units+1<ji)(ho:PE X o td)(he:PE X e ty)(hf:PE X f tx)(m:M2 X o "get" apos e f cpos):PE X (.Call (.Attribute o "get" apos) [e,f] [] cpos) (tDGet2 td ty tx):=by
 intro aI s σ H Q I h;refine wpAny_Call_method m.base m.few m.line kM gg PySem.F.type_dict_get (thn (ho aI s σ H _ I h) fun u s1 ⟨x,H1,I1,rx,a,ex,d,q1⟩=>?_);subst ex;obtain rfl:u=ag.ref a:=rx;obtain ⟨t1,t2,_⟩:=isDct_at I1 d;refine ⟨t1,t2,?_⟩;rw [m.trees];refine gQ rfl (jR (kB (thn (he aI s1 σ H1 _ I1 q1) fun iv s2 ⟨y,H2,I2,ry,q2⟩ =>
  kB (thn (hf aI s2 σ H2 _ I2 q2) fun fv s3 ⟨z,H3,I3,rz,ov,g,q3⟩=>Calls.spliced_nil ?_))))
 exact d_get2 hu I3 g ry rz fun w' s4 I4 rw'=>⟨_,H3,I4,rw',q3⟩
end
end L2
namespace Att
open PySem PySem.W PySem.Calls PyProof.Rows
end Att
namespace L2
open PySem PySem.Spec PyProof.Rows
theorem call_lenD:iK X (.builtin "len") (fun xs H Q=>∃ a kvs,xs=[V.ref a]∧H a=some (.dK kvs)∧Q (.int kvs.length) H):=by
 intro aI s σ H xs us Q I r h;obtain ⟨a,kvs,rfl,ha,q⟩:=h;obtain ⟨u,rfl,ru⟩:=lG r;cases ru;exact d_len I (.inl ha) fun t s' I'=>⟨.int kvs.length,H,I',⟨t,rfl⟩,q⟩
def DiK (P:aK)(w:br)(K:ai)(a:ak)(kvs:List (Key×V)):Prop :=
 (a == fY)=false∧∃ vs,KV kvs vs∧∀ h:bX,K.In h→h.DictOf (fQ P w) a vs
def tDGetK (kvs:List (Key×V))(ty:TE):TE:=fun σ H Q=>ty σ H fun y H1=>∃ k v,y=kV k∧kC kvs k=some v∧Q v H1
def tDNotInK (kvs:List (Key×V))(ty:TE):TE:=fun σ H Q=>ty σ H fun y H1=>∃ k,y=kV k∧Q (.bl (!(kC kvs k).isSome)) H1
section
variable {o i:Expr}{kvs:List (Key×V)}{ty:TE}
theorem pe_dgetK (D:DiK X.prog X.w X.K a kvs)(ho:PE X o (tC (.ref a)))(hi:PE X i ty)(hs:NoSl i):PE X (.Subscript o i pos) (tDGetK kvs ty):=by
 intro aI s σ H Q I h;obtain ⟨hd,vs,rel,dd⟩:=D;refine subD_of PySem.F.slot_dict_getitem.lookup hs (thn (ho aI s σ H (fun x H1=>x= .ref a∧H1=H) I ⟨rfl,rfl⟩) fun u s1 ⟨x,H1,I1,rx,ex,e1⟩=>?_);subst ex e1;obtain rfl:u=ag.ref a:=rx;refine thn (hi aI s1 σ H1 _ I1 h) fun iv s2 ⟨y,H2,I2,ry,k,v,ey,l,q⟩=>?_
 subst ey;have dd:=dd _ I2.kIn;obtain ⟨w',hw,rw'⟩:=RelO.some_of (v:=v) (o:=valueAt vs k) (by rw [←l];exact rel.val k);exact ⟨dd.typeIs,wpAny_getItem_of (kV_is ry) dd.mapOf hw ⟨v,H2,I2.tok _,rw',q⟩⟩
theorem pc_dnotinK (D:DiK X.prog X.w X.K a kvs)(hi:PE X i ty)(ho:PE X o (tC (.ref a))):PC X .NotIn i o (tDNotInK kvs ty):=by
 intro aI s σ H Q I h;obtain ⟨hd,vs,rel,dd⟩:=D;refine thn (hi aI s σ H _ I h) fun iv s1 ⟨y,H1,I1,ry,k,ey,q⟩=>thn (ho aI s1 σ H1 (fun x H2=>x= .ref a∧H2=H1) I1 ⟨rfl,rfl⟩) fun u s2 ⟨x,H2,I2,rx,ex,e2⟩=>?_
 subst ex e2 ey;obtain rfl:u=ag.ref a:=rx;have dd:=dd _ I2.kIn;refine wpAny_notIn_of (kV_is ry) hd dd.mapOf ?_;rw [←(rel.val k).isSome_eq];exact ⟨.bl _,H2,I2.tok _,rfl,q⟩
end
end L2
namespace HN
open PySem L2 PyProof.Rows
theorem cutU {i:Int}(hi:i=(n:Int)):pw xs none (some i)=xs.take n:=by
 unfold pw;subst hi;have e:=HT.sIx_nat xs.length xs.length n;rw [e];show (xs.drop 0).take (min n xs.length - 0)=xs.take n;rw [List.drop_zero,Nat.sub_zero]
 by_cases h:n≤xs.length
 ·rw [dm h]
 ·rw [Nat.min_eq_right (by lia),bI,bN (by lia)]
theorem cutF {i:Int}(hi:i=(n:Int)):pw xs (some i) none=xs.drop n:=by
 unfold pw;subst hi;have e:=HT.sIx_nat xs.length 0 n;rw [e];show (xs.drop (min n xs.length)).take (xs.length - min n xs.length)=xs.drop n
 by_cases h:n≤xs.length
 ·rw [dm h,bN (by rw [bV];lia)]
 ·rw [Nat.min_eq_right (by lia),List.drop_length,jq (by lia),List.take_nil]
end HN
namespace HN
open PySem L2 PyProof.Rows HT2
abbrev sRowR:cN:=top 28
inductive PR where
 | beat (b:Int)
 | line (n:Str) (ss:List Str) (rs:List Int)
 | oth (k:Str) (ns:List Str) (is:List Int)
def PR.at (H:Hp)(p:ak):PR→Prop
 | .beat b=>H p=some (.tup [.str "beat",.int b])
 | .line n ss rs=>∃ a b,H a=some (.tup (ss.map V.str))∧H b=some (.tup (rs.map V.int))∧H p=some (.tup [.str "line",.str n,.ref a,.ref b])
 | .oth k ns is=>H p=some (.tup (.str k::(ns.map V.str++is.map V.int)))
theorem PR.at.kept (S:b8 H H'):∀ {r:PR},r.at H p→r.at H' p
 | .beat _,h=>S _ _ h
 | .line _ _ _,⟨a,b,h1,h2,h3⟩=>⟨a,b,S _ _ h1,S _ _ h2,S _ _ h3⟩
 | .oth _ _ _,h=>S _ _ h
def fms:List (Str×Nat×Nat):=[("stay",2,3),("change",3,3),("apart",3,1),("meet",4,1)]
def PR.wds (ws:List Str):PR→Prop
 | .beat _=>False
 | .line n ss rs=>ws[0]? =some ("line" :Str)∧LnW ws n ss rs
 | .oth k ns is=>ws=k::(ns++is.map j3)∧(k,ns.length,is.length)∈fms∧(∀ z∈ns,nam z=true)∧∀ i∈is,W60 i
structure Fms (P:aK)(w:br)(K:ai)(mg:Str→Option ag):Prop where
 ex:∃ aF t1 t2 t3 t4,mg "FORMS" =some (.ref aF)∧DiK P w K aF [(.inr "stay",.ref t1),(.inr "change",.ref t2),(.inr "apart",.ref t3),(.inr "meet",.ref t4)] ∧
  (∀ H,SqT K H t1 [.int 2,.int 3])∧(∀ H,SqT K H t2 [.int 3,.int 3])∧(∀ H,SqT K H t3 [.int 3,.int 1])∧∀ H,SqT K H t4 [.int 4,.int 1]
theorem Fms.at {P:aK}{w:br}{K:ai}{mg:Str→Option ag}(M:Fms P w K mg):∃ aF kvs,mg "FORMS" =some (.ref aF)∧DiK P w K aF kvs ∧
  ∀ k a b,(k,a,b)∈fms→k ≠ "line" ∧∃ t,kC kvs (.inr k)=some (.ref t)∧∀ H,SqT K H t [.int (a:Nat),.int (b:Nat)]:=by
 obtain ⟨aF,t1,t2,t3,t4,h1,h2,q1,q2,q3,q4⟩:=M.ex;refine ⟨aF,_,h1,h2,fun k a b h=>?_⟩;unfold fms at h;simp only [av,aL,or_false,Prod.mk.injEq] at h
 rcases h with ⟨rfl,rfl,rfl⟩ | ⟨rfl,rfl,rfl⟩ | ⟨rfl,rfl,rfl⟩ | ⟨rfl,rfl,rfl⟩
 ·exact ⟨by trivial,t1,rfl,q1⟩
 ·exact ⟨by trivial,t2,rfl,q2⟩
 ·exact ⟨by trivial,t3,rfl,q3⟩
 ·exact ⟨by trivial,t4,rfl,q4⟩
theorem fms_few {k:Str}{a b:Nat}(h:(k,a,b)∈fms):a≤4∧b≤3:=by
 unfold fms at h;simp only [av,aL,or_false,Prod.mk.injEq] at h;lia
theorem cutA {i j:Int}(hi:i=(m:Int))(hj:j=(n:Int))(h1:m≤xs.length)(h2:n≤xs.length):pw xs (some i) (some j)=(xs.drop m).take (n - m):=by
 subst hi hj;unfold pw;rw [HT.sIx_nat,HT.sIx_nat,dm h1,dm h2]
inductive spRowR (vs:List V)(H:Hp)(Q:VK)(_:XK):Prop
 | mk (z:Str)(ws:List Str)(r:PR)(_:vs=[.str z])(_:z.length≤100000)(_:cM z sp_=ws)(_:r.wds ws)(_:∀ p H',b8 H H'→r.at H' p→Q (.ref p) H')
theorem scRowR:cp ["row","words","form","behind","names"] ["row"] (defScope sRowR):=by trivial
theorem ok_rowR {f3:ak}{fd3:aZ}(F:Fun K "read_row" "read_row" sRowR f fd)(T:Nm mg)(M:Fms P w K mg)(GN:Fn K mg "read_name" sNam pzc f1 fd1)(FN:c7 P w K mg base CX0 1 f1 fd1 pzc spNam)(GW:Fn K mg "read_whole" sRead pzc f2 fd2)(FW:c7 P w K mg base CX0 2 f2 fd2 pzc nY)
  (GL:Fn K mg "read_line" sLineR ["words"] f3 fd3) (FL:c7 P w K mg base CX0 3 f3 fd3 ["words"] spLineR):c7 P w K mg base CX0 4 f fd ["row"] spRowR:=by
 refine F.ok scRowR (by contradiction) (fun cdv A outer s H vs Q E hr h=>?_);obtain ⟨z,ws,r,rfl,hz,hs,hw,k⟩:=h;have hr1:=hr.mono (show 1≤3 by lia);have hr2:=hr.mono (show 2≤3 by lia);obtain ⟨aF,kvs,hF,D,fm⟩:=M.at;refine ⟨_,cK (psZ 1 scRowR.nd (i9 eN PySem.F.slot_str_split PySem.F.type_str_split mt_split (pv 0) (af dv aw)))
  (cK (eX (bK iT (cH aY (pv 1) aC (fun _ _=>rfl)) dv (cb _)) (bB (bZ (pc1 GL FL hr (af (pv 1) aw)))) cv)
  (cK (eX (pt_cmp (pc_dnotinK D (cH aY (pv 1) aC (fun _ _=>rfl)) (oj (v:= .ref aF) rfl hF rfl)) rfl) (bB jN) cv)
  (cK (psZ 2 scRowR.nd (pe_dgetK D (oj (v:= .ref aF) rfl hF rfl) (cH aY (pv 1) aC (fun _ _=>rfl)) (fun _ _=>rfl)))
  (cK (psZ 3 scRowR.nd (cD ff aC (ixZ (pv 2))))
  (cK (eX (bK nk (bU bM rfl T.len aR (af (pv 1) aw)) (cD ff (pv 3) (ixZ (pv 2))) (cb _)) (bB jN) cv)
  (cK (og (iy:=4) (fr:=[]) (js:=[]) scRowR.nd rfl (.inl rfl) rfl (gN (eZ iD (pv 1) (fD aC) (fD (pv 3)))) (by trivial) rfl (by trivial) rfl (by exists sRowR) (by trivial) rfl (by trivial) (fun _ _ _ _ _=>⟨(pc1 GN FN hr1 (af (pv 0) aw)),jg⟩))
  (bB (bZ (eS jB rfl T.ttup jD (af (cD jh (cD jh (eZ iD (pv 1) gM (fD aC)) (pv 4)) (jH (fr:=[]) (js:=[]) rfl (gN (eZ iD (pv 1) (fD (pv 3)) gM)) (by trivial) rfl (by trivial) rfl (by exists sRowR) (by trivial) rfl (by trivial) (fun _ _ _ _ _=>⟨(pc1 GW FW hr2 (af (pv 0) aw)),jg⟩))) aw)))))))))),?_⟩
 have one:((sp_:Str).length == 0)=false:=by trivial
 refine ⟨_,rfl,rfl,_,_,rfl,rfl,one,cn (show _≤200000 by lia) (by decide),fun L H1 S1 e1=>?_⟩;have e1:H1 L=some (.lst ((cM z sp_).map V.str)):=e1;rw [hs] at e1;cases r with
 | beat b=>exact hw.elim
 | line n ss rs =>
  obtain ⟨h0,W⟩:=hw;refine ⟨_,rfl,L,_,_,_,rfl,rfl,SqL.of e1,aE (j:=0) (by rw [ax,h0];rfl),rfl,_,rfl,?_⟩;rw [show decide (V.str "line" =V.str "line")=true from by trivial];refine iteT ?_;exact ⟨_,rfl,L,ws,n,ss,rs,rfl,e1,W,fun p a b H2 S2 g1 g2 g3=>k p H2 (S1.trans S2) ⟨a,b,g1,g2,g3⟩⟩
 | oth kd ns is =>
  obtain ⟨rfl,hf,nn,ii⟩:=hw;obtain ⟨hk,t,ht,hq⟩:=fm _ _ _ hf;have few:=fms_few hf;have e1:H1 L=some (.lst (V.str kd::(ns.map V.str++(is.map j3).map V.str))):=by rw [e1,aT,aq]
  have hlen:(V.str kd::(ns.map V.str++(is.map j3).map V.str)).length=1+ns.length+is.length:=by
   rw [aD,aj,ae,ae,ae];lia
  have big:(100000:Nat)≤au:=by decide
  refine ⟨_,rfl,L,_,_,_,rfl,rfl,SqL.of e1,aE (j:=0) rfl,rfl,_,rfl,iL (pH fun z=>hk (by injection z)) ?_⟩;refine ⟨_,rfl,L,_,_,_,rfl,rfl,SqL.of e1,aE (j:=0) rfl,.inr kd,rfl,_,rfl,iL (by rw [ht];rfl) ?_⟩;refine ⟨_,rfl,L,_,_,_,rfl,rfl,SqL.of e1,aE (j:=0) rfl,.inr kd,_,rfl,ht,?_⟩;refine ⟨_,rfl,t,_,_,_,rfl,rfl,hq H1,aE (j:=0) rfl,_,_,rfl,rfl,?_⟩;refine ⟨_,rfl,L,_,rfl,.inl (SqL.of e1),_,rfl,_,rfl,t,_,_,_,rfl,rfl,hq H1,aE (j:=1) rfl,_,_,rfl,rfl,rfl,_,rfl,iL ?_ ?_⟩
  ·rw [hlen,pG (by congr 1 <;> lia)];rfl
  refine ⟨_,rfl,_,rfl,_,rfl,_,rfl,L,_,rfl,SqL.of e1,fun D1 H2 S2 d1=>?_⟩;rw [cutA (i:=1) (j:=1+(ns.length:Int)) (m:=1) (n:=1+ns.length) rfl (by lia) (by rw [hlen];lia) (by rw [hlen];lia)] at d1;have d1:H2 D1=some (.lst (ns.map V.str)):=by
   rw [d1];show some (HO.lst ((ns.map V.str++(is.map j3).map V.str).take (1+ns.length - 1)))=_;rw [Nat.add_sub_cancel_left];congr 2;exact fJ (ae _)
  refine ⟨D1,rfl,⟨_,SqL.of d1⟩,?_⟩;refine iW (K:=K) (a:=D1) (xs:=ns.map V.str) (fun j zs H3=>b8 H2 H3∧zs=(ns.take j).map V.str) ⟨b8.refl _,rfl⟩ (fun j zs H3 hj ⟨g1,g2⟩=>?_) (by rw [ae];lia) (fun j x zs H3 hx3 ⟨g1,g2⟩=>?_) (fun zs H3 ⟨g1,g2⟩ D hD=>?_)
  ·refine ⟨SqL.of (g1 _ _ d1),?_⟩
   rw [g2,ae,aU];lia
  ·rw [ax] at hx3
   obtain ⟨y,hn3,rfl⟩:=aS.mp hx3;refine ie ?_;refine ⟨_,rfl,y,rfl,nn y (ay hn3),fun H4 S4=>⟨g1.trans S4,?_⟩⟩;rw [g2,aW,hn3,aq];rfl
  rw [ae,bI] at g2;have S5:b8 H1 (upd H3 D (.lst zs)):=S2.trans (g1.trans (b8.put (b8.refl H3) hD));generalize hH:upd H3 D (.lst zs)=H5 at S5;have d5:H5 D=some (.lst (ns.map V.str)):=by rw [←hH,aP,g2]
  have e5:=S5 _ _ e1;refine ⟨_,rfl,_,rfl,L,_,rfl,SqL.of e5,fun D2 H6 S6 d6=>?_⟩;rw [cutU (i:=1) (n:=1) rfl] at d6;have d6:H6 D2=some (.lst [V.str kd]):=d6;refine ⟨_,rfl,D2,D,_,_,rfl,rfl,d6,S6 _ _ d5,(by rw [ae];show 1+ns.length≤au;lia),fun D3 H7 S7 d7=>?_⟩;have e7:=(S6.trans S7) _ _ e5;refine ⟨_,rfl,_,rfl,_,rfl,L,_,rfl,SqL.of e7,fun D4 H8 S8 d8=>?_⟩;rw [cutF (i:=1+(ns.length:Int)) (n:=1+ns.length) (by lia)] at d8;have d8:H8 D4=some (.lst ((is.map j3).map V.str)):=by
   rw [d8];rw [Nat.add_comm 1 ns.length,List.drop_succ_cons];congr 2;exact List.drop_left' (ae _)
  refine ⟨D4,rfl,⟨_,SqL.of d8⟩,?_⟩;refine iW (K:=K) (a:=D4) (xs:=(is.map j3).map V.str) (fun j zs H3=>b8 H8 H3∧zs=(is.take j).map V.int) ⟨b8.refl _,rfl⟩ (fun j zs H3 hj ⟨g1,g2⟩=>?_) (by rw [ae,ae];lia) (fun j x zs H3 hx3 ⟨g1,g2⟩=>?_) (fun zs2 H9 ⟨g3,g4⟩ D' hD'=>?_)
  ·refine ⟨SqL.of (g1 _ _ d8),?_⟩
   rw [g2,ae,aU];lia
  ·rw [bO,ax] at hx3
   obtain ⟨i,hn3,rfl⟩:=aS.mp hx3;refine ie ?_;refine ⟨_,rfl,i,rfl,ii i (ay hn3),fun H4 S4=>⟨g1.trans S4,?_⟩⟩;rw [g2,aW,hn3,aq];rfl
  rw [ae,ae,bI] at g4;have S10:b8 H7 (upd H9 D' (.lst zs2)):=S8.trans (g3.trans (b8.put (b8.refl H9) hD'));have d10:=S10 _ _ d7;refine ⟨D3,D',_,_,rfl,rfl,d10,(by rw [aP]),(by rw [g4,aj,ae,ae];show 1+ns.length+is.length≤au;lia),fun D5 H11 S11 d11=>?_⟩;refine ⟨D5,_,rfl,SqL.of d11,fun p H12 S12 d12=>k p H12 (S1.trans (S5.trans (S6.trans (S7.trans (S10.trans (S11.trans S12)))))) ?_⟩;show H12 p=some (.tup (.str kd::(ns.map V.str++is.map V.int)));rw [d12,g4];rfl
structure RsAt (H:Hp)(xs:List V)(rs:List PR):Prop where
 len:xs.length=rs.length
 get:∀ (i:Nat) (r:PR),rs[i]? =some r→∃ a:ak,xs[i]? =some (V.ref a)∧r.at H a
theorem RsAt.kept {rs:List PR}(S:b8 H H')(h:RsAt H xs rs):RsAt H' xs rs:=⟨h.len,fun i r e=>let ⟨a,h1,h2⟩:=h.get i r e;⟨a,h1,h2.kept S⟩⟩
theorem RsAt.snoc {rs:List PR}{r:PR}(h:RsAt H xs rs)(q:r.at H a):RsAt H (xs++[V.ref a]) (rs++[r]):=by
 refine ⟨by rw [aj,aj,h.len];rfl,fun i r' e=>?_⟩
 by_cases hi:i<rs.length
 ·rw [bJ hi] at e
  obtain ⟨b,h1,h2⟩:=h.get i r' e;exact ⟨b,by rw [bJ (by rw [h.len];exact hi)];exact h1,h2⟩
 ·rw [aN (by lia)] at e
  have hl:=h.len;have h0:i - rs.length=0:=by
   have:=(ah.mp e).1;simp at this;lia
  rw [h0] at e;cases e;exact ⟨a,by rw [aN (by lia),hl,h0];rfl,q⟩
theorem RsAt.cons {H:Hp}{xs:List V}{rs:List PR}{a:ak}{r:PR}(h:RsAt H xs rs)(q:r.at H a):RsAt H (V.ref a::xs) (r::rs):=by
 refine ⟨by rw [aD,aD,h.len],fun i r' e=>?_⟩;cases i with
 | zero=>cases e;exact ⟨a,rfl,q⟩
 | succ i=>exact h.get i r' e
inductive spPlanR (vs:List V)(H:Hp)(Q:VK)(_:XK):Prop
 | mk (z z0:Str)(b:Int)(zr:List (Str×PR))(_:vs=[.str z])(_:z.length≤100000)(_:cM z nl_=z0::zr.map (·.1))(_:zr.length≤100000)(_:z0.length≤100000)(_:cM z0 sp_=[("beat" :Str),j3 b])(_:W60 b)(_:(∀ q∈zr,q.1.length≤100000∧q.2.wds (cM q.1 sp_)))(_:∀ p xs H',b8 H H'→H' p=some (.lst xs)→RsAt H' xs (.beat b::zr.map (·.2))→Q (.ref p) H')
abbrev sPlanR:cN:=top 29
theorem scPlanR:cp ["text","rows"] pzh (defScope sPlanR):=by trivial
theorem ok_planR (F:Fun K "read_plan" "read_plan" sPlanR f fd)(T:Nm mg)(T2:Nm2 mg)(GB:Fn K mg "read_beat" sBeatR ["row"] f1 fd1)(FB:c7 P w K mg base CX0 3 f1 fd1 ["row"] spBeatR)(GR:Fn K mg "read_row" sRowR ["row"] f2 fd2)(FR:c7 P w K mg base CX0 4 f2 fd2 ["row"] spRowR) :
  c7 P w K mg base CX0 5 f fd pzh spPlanR:=by
 refine F.ok scPlanR (by contradiction) (fun cdv A outer s H vs Q E hr h=>?_);obtain ⟨z,z0,b,zr,rfl,hz,hs,hn,hz0,hs0,hb,hw,k⟩:=h;have hr3:=hr.mono (show 3≤4 by lia);refine ⟨_,cK (eX (jw (jv (pe_isStr T T2 (pv 0)))) (bB jN) cv)
  (cK (psZ 1 scPlanR.nd (i9 eN PySem.F.slot_str_split PySem.F.type_str_split mt_split (pv 0) (af dv aw)))
  (bB (bZ (cD jh (hI (af (pc1 GB FB hr3 (af (cH aY (pv 1) aC (fun _ _=>rfl)) aw)) aw)) (jH (fr:=[]) (js:=[]) rfl (gN (eZ iD (pv 1) (fD aC) gM)) (by trivial) rfl (by trivial) rfl (by exists sPlanR) (by trivial) rfl (by trivial) (fun _ _ _ _ _=>⟨(pc1 GR FR hr (af (pv 0) aw)),jg⟩)))))),?_⟩
 have one:((nl_:Str).length == 0)=false:=by trivial
 have big:(200000:Nat)≤au:=by decide
 refine ⟨_,rfl,_,"str",rfl,rfl,_,rfl,iL (by decide) ?_⟩;refine ⟨_,rfl,rfl,_,_,rfl,rfl,one,cn (show _≤200000 by lia) (by decide),fun L H1 S1 e1=>?_⟩;have e1:H1 L=some (.lst ((cM z nl_).map V.str)):=e1;rw [hs] at e1;have e1:H1 L=some (.lst (V.str z0::(zr.map (·.1)).map V.str)):=e1;refine ⟨_,rfl,L,_,_,_,rfl,rfl,SqL.of e1,aE (j:=0) rfl,z0,b,rfl,hz0,hs0,hb,fun p0 H2 S2 e2=>?_⟩;refine ⟨szZ1,fun D0 H3 S3 d3=>?_⟩;have S13:=S2.trans S3;refine ⟨_,rfl,_,rfl,L,_,rfl,SqL.of (S13 _ _ e1),fun D1 H4 S4 d4=>?_⟩;rw [cutF (i:=1) (n:=1) rfl] at d4;have d4:H4 D1=some (.lst ((zr.map (·.1)).map V.str)):=d4;refine ⟨D1,rfl,⟨_,SqL.of d4⟩,?_⟩;refine iW (K:=K) (a:=D1) (xs:=(zr.map (·.1)).map V.str) (fun j zs H5=>b8 H4 H5∧RsAt H5 zs ((zr.take j).map (·.2))) ⟨b8.refl _,⟨rfl,fun i r e=>nomatch e⟩⟩ (fun j zs H5 hj ⟨g1,g2⟩=>?_) (by rw [ae,ae];lia) (fun j x zs H5 hx ⟨g1,g2⟩=>?_) (fun zs H5 ⟨g1,g2⟩ D hD=>?_)
 ·refine ⟨SqL.of (g1 _ _ d4),?_⟩
  rw [g2.len,ae,aU];lia
 ·rw [bO,ax] at hx
  obtain ⟨q,hq,rfl⟩:=aS.mp hx;obtain ⟨w1,w2⟩:=hw q (ay hq);refine ie ?_;refine ⟨_,rfl,q.1,_,q.2,rfl,w1,rfl,w2,fun p H6 S6 e6=>⟨g1.trans S6,?_⟩⟩;rw [aW,hq,aq];exact (g2.kept S6).snoc e6
 rw [ae,ae,bI] at g2;have hl:=g2.len;rw [ae] at hl;have S7:b8 H5 (upd H5 D (.lst zs)):=b8.put (b8.refl H5) hD;have S8:b8 H3 (upd H5 D (.lst zs)):=S4.trans (g1.trans S7);refine ⟨D0,D,_,_,rfl,rfl,S8 _ _ d3,(by rw [aP]),(by show 1+zs.length≤au;lia),fun p H9 S9 e9=>?_⟩;exact k p _ H9 (S1.trans (S13.trans (S8.trans S9))) e9 (((g2.kept S7).kept S9).cons (show PR.at H9 p0 (.beat b) from (S3.trans (S8.trans S9)) _ _ e2))
end HN
variable {pre prs rows rs:List HN.PR}{r:HN.PR}
namespace L2
open PySem PySem.Spec PyProof.Rows
open AutoSeq1 (wpAny_loadPart')
theorem mE (p:ak)(items:Array ag)(x:ag)(e:ag→Bool)(he:∀ y,y∈items→PySem.MeetsSeq.EqGives y x (e y))(j:Nat)(hj:j<items.size)(hit:e items[j]=true)(hno:∀ m (hm:m<items.size),m<j→e items[m]=false) :
  Meets (fW.«tuple.index» ⟨[.ref p,x],[]⟩) (fun _ R s=>IsTup s.heap p items∧R (.ok (.ret (.int j s.toks))) { s with toks:=s.toks+1 }) :=
 .of_wp fun prog w A R s h=>by
  obtain ⟨hp,g,d,tk,os⟩:=s;obtain ⟨⟨o,ho,hc,n,hd⟩,h⟩:=h
  wp_walk using ip ho
  rw [hd];refine aQ (aQ ?_)
  dsimp only
  refine al (aQ (al (aQ (al ?_))));rw [Nat.min_self,Std.Legacy.Range.forIn_eq_forIn_range'];refine wpAny_forIn_list _ (fun l b s'=>∃ k,l=List.range' k (items.size - k)∧k≤j∧b=(none,())∧s'=⟨hp,g,d,tk,os⟩) _ ?_ ?_ _ _ ?_
  ·rintro i rest b s' ⟨k,hl,hk,rfl,rfl⟩
   have hk2:items.size - k=(items.size - (k+1))+1:=by lia
   rw [hk2,List.range'_succ] at hl;injection hl with h1 h2
   subst h1;have hik:i<items.size:=by lia
   rw [Array.getElem?_eq_getElem hik];refine al (he _ (Array.getElem_mem hik) prog w _ _ _ _ ?_)
   by_cases hij:i=j
   ·subst hij
    rw [hit,pE rfl]
    wp_walk
    first | exact ⟨_,rfl,h⟩ | exact h
   ·rw [hno i hik (by lia),pB bz]
    exact aQ ⟨i+1,h2,by lia,rfl,rfl⟩
  ·rintro b s' ⟨k,hl,hk,rfl,rfl⟩
   have hk2:items.size - k=(items.size - (k+1))+1:=by lia
   rw [hk2,List.range'_succ] at hl;cases hl
  ·refine ⟨0,?_,cz _,rfl,rfl⟩
   simp [Std.Legacy.Range.size]
theorem Inv.tupleN (I:Inv X aI σ H s)(h:H a=some (.tup xs)):∃ its:List ag,gr xs its∧k8 s.heap a its.toArray:=by
 obtain ⟨z,its,r,p⟩:=I.hok a _ h;exact ⟨its,r,p⟩
def tBMT (r:V→List V→Hp→VK→Prop)(to:TE)(t:TA):TE:=fun σ H Q=>to σ H fun x H1=>(∃ p xs,x= .ref p∧H1 p=some (.tup xs))∧t σ H1 fun xs H2=>r x xs H2 Q
theorem pe_bmT {o:Expr}{t:TA}{id:String}{r:V→List V→Hp→VK→Prop}(slot:Slot "tuple" name id)(hty:typeOf (.builtin id)=gK (.type "method_descriptor"))(hm:MtR X id r)(ho:PE X o to)(ha:PA X (e::es) t)
  (hbase:iu o name X.env (dn o X.env)=dn o X.env:=by rfl)
  (hfew:((gk cpos (bw (e::es) X.env)).all (fun x=> !x.1) && (backToKw cpos (ku [] X.env)).all (fun x=>x.1.isSome) && decide ((e::es).length+([]:List Keyword).length+(if ([]:List Keyword).isEmpty then 0 else 1)<30))=true:=by rfl)
  (hline:(apos.endLine == cpos.line)=true:=by rfl) (hs:bw (e::es) X.env=(false,dn e X.env)::bw es X.env:=by rfl) (hplain:(gk cpos (bw es X.env)).any (·.1)=false:=by rfl) :
  PE X (.Call (.Attribute o name apos) (e::es) [] cpos) (tBMT r to t):=by
 intro aI s σ H Q I h;refine wpAny_Call_method_late hbase hfew hline rfl (thn (ho aI s σ H _ I h) fun v s1 ⟨x,H1,I1,r1,ty,q1⟩=>?_);obtain ⟨p,xs,rfl,hp⟩:=ty;cases (show v=ag.ref p from r1);obtain ⟨its,rv,ob,e1,c1,d1,n,dd⟩:=I1.tupleN hp;refine ⟨"tuple",id,PySem.F.plainAttrs_tuple,slot,hty,⟨ob,e1,c1⟩,fun a ea=>by cases ea;exact ⟨ob,e1,d1⟩,?_⟩;have hA:=ha cpos aI s1 σ H1 _ I1 q1;rw [hs] at hA ⊢;refine gQ (by show (false || (gk cpos (bw es X.env)).any (·.1))=false;rw [hplain] <;> rfl) (jR ?_);exact thn hA fun us s2 ⟨vs,H2,I2,r2,q2⟩=>hm aI s2 σ H2 (.ref p) vs (.ref p) us Q I2 r1 r2 q2
end L2
namespace L2
open PySem PySem.Spec PyProof.Rows
inductive rIndexS (K:ai)(x:V)(vs:List V)(H:Hp)(Q:VK):Prop
 | mk (p:ak)(ns:List Str)(k:Str)(i:Nat)(_:x= .ref p)(_:vs=[.str k])(_:SqT K H p (ns.map V.str))(_:ns[i]? =some k)(_:(∀ j,j<i→ns[j]? ≠some k))(_:Q (.int (i:Nat)) H)
theorem mt_indexS:MtM X "tuple.index" (rIndexS X.K):=by
 intro aI s σ H x vs v us Q I rx rv h;obtain ⟨p,ns,k,i,rfl,rfl,hq,hi,hno,q⟩:=h;cases (show v=ag.ref p from rx);obtain ⟨u,rfl,ru⟩:=rv.one;obtain ⟨t,rfl⟩:=(show ∃ t,u=ag.str k t from ru);obtain ⟨its,r,pl,hz⟩:=I.tuple hq;have hl:its.length=ns.length:=by rw [←r.length,ae]
 have hil:i<ns.length:=(ah.mp hi).1;have at_:∀ (m:Nat) (hm:m<its.toArray.size),∃ tk,its.toArray[m]=ag.str (ns[m]'(by rw [←hl];simpa using hm)) tk:=fun m hm=>by
  have hm':m<ns.length:=by rw [←hl];simpa using hm
  obtain ⟨u,hu,ru⟩:=r.get (i:=m) (x:=V.str ns[m]) (by rw [ax,gE hm'];rfl);obtain ⟨tk,rfl⟩:=(show ∃ t,u=ag.str ns[m] t from ru);exact ⟨tk,by have:=(ah.mp hu).2;simpa using this⟩
 have e0:∀ (m:Nat) (hm:m<its.toArray.size),(match its.toArray[m] with | .str y _=>y == k | _=>false)=(ns[m]'(by rw [←hl];simpa using hm) == k):=fun m hm=>by
  obtain ⟨tk,e⟩:=at_ m hm;rw [e]
 have his:i<its.toArray.size:=by rw [aA,hl];exact hil
 refine j8 F.slot_tuple_index ⟨_,pl.choose_spec.1,pl.choose_spec.2.1⟩ F.entry_tuple_index (F.args_tuple_index_2 _ _) (mE p its.toArray (.str k t) (fun v=>match v with | .str y _=>y == k | _=>false) (fun y hy=>?_) i his ?_ (fun m hm hmi=>?_)) ⟨pl,⟨.int (i:Nat),H,I.tok _,⟨_,rfl⟩,q⟩⟩
 ·obtain ⟨m,hm,rfl⟩:=Array.getElem_of_mem hy
  obtain ⟨tk,e⟩:=at_ m hm;rw [e];exact fun prog w A E s Q h=>wpAny_eqBool_str h
 ·rw [e0 i his,beq_iff_eq]
  exact (ah.mp hi).2
 ·rw [e0 m hm,beq_eq_false_iff_ne]
  have hm':m<ns.length:=by rw [←hl];simpa using hm
  intro z;exact hno m hmi (by rw [gE hm',z])
end L2
namespace HN
open PySem L2 PyProof.Rows HT2
abbrev cLin:cN:=top 30
abbrev sInitL:cN:=clsOf cLin 0
abbrev sComL:cN:=clsOf cLin 1
abbrev sGoL:cN:=clsOf cLin 2
structure LinC (K:ai)(C:ak):Prop where
 cl:Cls K C
 n1:kj K C "name"
 n2:kj K C "stops"
 n3:kj K C "runs"
 n4:kj K C "stays"
 n5:kj K C "first"
abbrev linF (n:Str)(a b D:ak)(fi:Int):List (Str×V):=[("name",.str n),("stops",.ref a),("runs",.ref b),("stays",.ref D),("first",.int fi)]
structure LinD (H:Hp)(C x:ak)(n:Str)(ss:List Str)(rs:List Int)(D:ak)(fi:Int):Prop where
 ex:∃ dx a b,H x=some (.ins C dx (linF n a b D fi))∧H a=some (.tup (ss.map V.str))∧H b=some (.tup (rs.map V.int))
inductive spInitL (C:ak)(vs:List V)(H:Hp)(Q:VK)(_:XK):Prop
 | mk (x dx a b:ak)(n:Str)(fi:Int)(_:vs=[.ref x,.str n,.ref a,.ref b,.int fi])(_:H x=some (.ins C dx []))(_:∀ (D:ak) (H':Hp),(∀ c o,c≠x→H c=some o→H' c=some o)→H D=none→H' D=some (.dK [])→H' x=some (.ins C dx (linF n a b D fi))→Q .non H')
inductive spGoL (C:ak)(vs:List V)(H:Hp)(Q:VK)(_:XK):Prop
 | mk (x D:ak)(n z:Str)(ss:List Str)(rs:List Int)(fi:Int)(_:vs=[.ref x,.str z])(_:LinD H C x n ss rs D fi)(_:ss.length≤1000)(_:2≤ss.length)(_:ss.Nodup)(_:∀ H',b8 H H'→(∀ i:Nat,ss[i]? =some z→i+1<ss.length→Q (.int (fi+2 * i)) H')∧((∀ i:Nat,ss[i]? =some z→ss.length≤i+1)→Q .non H'))
theorem inV_strs (x:Str):∀ p:List Str,inV (.str x) (p.map V.str)=decide (x∈p)
 | []=>by simp [inV]
 | y::p=>by
  have ih:=inV_strs x p;unfold inV at ih ⊢;rw [aT,hZ,ih]
  by_cases e:y=x
  ·subst e;simp [eqV]
  ·have:eqV (.str y) (.str x)=false:=by simp [eqV,e]
   rw [this];simp [av,cO e]
theorem oG:∀ p:List Str,(p.map V.str).all mS=true
 | []=>rfl
 | _::p=>oG p
theorem ke (nd:ss.Nodup)(h:ss[i]? =some z):∀ j,j<i→ss[j]? ≠some z:=fun j hj e=>by
 have hi:=(ah.mp h);have hj':=(ah.mp e);obtain ⟨a,b⟩:=hi;obtain ⟨c,d⟩:=hj';exact (fe.mp nd) j i c a hj (d.trans b.symm)
inductive spComL (C:ak)(vs:List V)(H:Hp)(Q:VK)(_:XK):Prop
 | mk (x D:ak)(n z:Str)(ss:List Str)(rs:List Int)(fi:Int)(_:vs=[.ref x,.str z])(_:LinD H C x n ss rs D fi)(_:ss.length≤1000)(_:2≤ss.length)(_:ss.Nodup)(_:∀ H',b8 H H'→(∀ i:Nat,ss[i]? =some z→1≤i→Q (.int (fi+2 * i - 1)) H')∧((∀ i:Nat,ss[i]? =some z→i=0)→Q .non H'))
theorem scInitL:cp pzr pzr (defScope sInitL):=by trivial
theorem ok_initL (F:Fun K "__init__" "Line.__init__" sInitL f fd)(CC:LinC K C):c7 P w K mg base CX0 1 f fd pzr (spInitL C):=by
 refine F.ok scInitL (by contradiction) (fun cdv A outer s H vs Q E hr h=>?_);obtain ⟨x,dx,a,b,n,fi,rfl,hx,k⟩:=h;refine ⟨_,cK (mY (pv 0) (pv 1) rfl) (cK (mY (pv 0) (pv 2) rfl) (cK (mY (pv 0) (pv 3) rfl) (cK (mY (pv 0) pe_dnewK rfl) (bB (mY (pv 0) (pv 4) rfl))))),?_⟩;refine ⟨_,rfl,_,rfl,x,C,dx,_,rfl,hx,CC.cl,CC.n1,(by decide),?_⟩;refine ⟨_,rfl,_,rfl,x,C,dx,_,rfl,aP,CC.cl,CC.n2,(by show 1<1000;decide),?_⟩;refine ⟨_,rfl,_,rfl,x,C,dx,_,rfl,aP,CC.cl,CC.n3,(by show 2<1000;decide),?_⟩;refine fun D hD=>⟨_,rfl,x,C,dx,_,rfl,(by rw [aX (aV aP hD)];exact aP),CC.cl,CC.n4,(by show 3<1000;decide),?_⟩
 have xD:x≠D:=aV aP hD;refine ⟨_,rfl,_,rfl,x,C,dx,_,rfl,aP,CC.cl,CC.n5,(by show 4<1000;decide),?_⟩;rw [aX (cO xD),aX (cO xD),aX (cO xD)] at hD;refine k D _ (fun c o hc e=>?_) hD ?_ aP
 ·rw [aX hc,aX hc,aX (aV e hD),aX hc,aX hc,aX hc];exact e
 ·rw [aX (cO xD),aX (cO xD),aP]
theorem scGoL:cp pzi pzi (defScope sGoL):=by trivial
theorem ok_goL (F:Fun K "going" "Line.going" sGoL f fd)(CC:LinC K C):c7 P w K mg base CX0 1 f fd pzi (spGoL C):=by
 refine F.ok scGoL (by contradiction) (fun cdv A outer s H vs Q E hr h=>?_);obtain ⟨x,D,n,z,ss,rs,fi,rfl,⟨dx,a,b,hx,ha,hb⟩,few,two,nd,k⟩:=h;refine ⟨_,bB (bZ (pe_ifExp (bK (r:=rIn K false) kX (pv 1) (eZ lL (eR (pv 0) rfl) gM (fD (pe_un un_neg aC))) rfl) (cD ff (eR (pv 0) rfl) (cD jL aC (pe_bmT (r:=rIndexS K) PySem.F.slot_tuple_index PySem.F.type_tuple_index mt_indexS (eR (pv 0) rfl) (af (pv 1) aw)))) gT)),?_⟩;have hls:(ss.map V.str).length=ss.length:=ae _;have e1:HT.sIx (ss.map V.str).length (ss.map V.str).length (some (-1))=ss.length - 1:=by
  rw [hls];show (if (-1:Int)<0 then ((-1:Int)+(ss.length:Int)).toNat else min (-1:Int).toNat ss.length)=_;rw [pE (by decide)];lia
 refine ⟨_,rfl,_,rfl,x,C,dx,_,_,rfl,hx,CC.cl,CC.n2,rfl,_,rfl,_,rfl,a,_,rfl,SqT.of ha,?_,fun p H1 S1 e=>?_⟩
 ·rw [e1,hls]
  intro q;lia
 have ec:pw (ss.map V.str) none (some (-1))=(ss.take (ss.length - 1)).map V.str:=by
  unfold pw;rw [e1];show ((ss.map V.str).drop 0).take (ss.length - 1 - 0)=_;rw [List.drop_zero,Nat.sub_zero,jQ]
 rw [ec] at e;refine ⟨p,_,rfl,.inr (SqT.of e),rfl,oG _,_,rfl,?_⟩;show if inV (.str z) ((ss.take (ss.length - 1)).map V.str)=true then _ else _;rw [inV_strs];refine jj (fun hc=>?_) (fun hc=>?_)
 ·obtain ⟨i,hi⟩:=bR (pI hc)
  have hi2:i<ss.length - 1:=by
   have:=(ah.mp hi).1;rw [aU] at this;lia
  rw [dG hi2] at hi;refine ⟨_,rfl,x,C,dx,_,_,rfl,S1 _ _ hx,CC.cl,CC.n5,rfl,_,rfl,x,C,dx,_,_,rfl,S1 _ _ hx,CC.cl,CC.n2,rfl,⟨a,_,rfl,S1 _ _ ha⟩,_,rfl,a,ss,z,i,rfl,rfl,SqT.of (S1 _ _ ha),hi,ke nd hi,?_⟩;exact ⟨_,_,rfl,rfl,.inl ⟨by decide,by decide⟩,_,_,rfl,rfl,(k H1 S1).1 i hi (by lia)⟩
 ·refine (k H1 S1).2 fun i hi=>?_
  have hn:z ∉ ss.take (ss.length - 1):=fun q=>hc (pG q)
  by_cases q:i<ss.length - 1
  ·exact pF (ay (by rw [dG q];exact hi)) hn
  ·lia
theorem scComL:cp pzi pzi (defScope sComL):=by trivial
theorem ok_comL (F:Fun K "coming" "Line.coming" sComL f fd)(CC:LinC K C):c7 P w K mg base CX0 1 f fd pzi (spComL C):=by
 refine F.ok scComL (by contradiction) (fun cdv A outer s H vs Q E hr h=>?_);obtain ⟨x,D,n,z,ss,rs,fi,rfl,⟨dx,a,b,hx,ha,hb⟩,few,two,nd,k⟩:=h;refine ⟨_,bB (bZ (pe_ifExp (bK (r:=rIn K false) kX (pv 1) (eZ lL (eR (pv 0) rfl) (fD aC) gM) rfl) (cD gv (cD ff (eR (pv 0) rfl) (cD jL aC (pe_bmT (r:=rIndexS K) PySem.F.slot_tuple_index PySem.F.type_tuple_index mt_indexS (eR (pv 0) rfl) (af (pv 1) aw)))) aC) gT)),?_⟩;have hls:(ss.map V.str).length=ss.length:=ae _;have e1:HT.sIx (ss.map V.str).length 0 (some 1)=1:=by
  rw [hls];have:=HT.sIx_nat ss.length 0 1;rw [dm (by lia)] at this;exact this
 refine ⟨_,rfl,_,rfl,x,C,dx,_,_,rfl,hx,CC.cl,CC.n2,rfl,_,rfl,a,_,rfl,SqT.of ha,?_,fun p H1 S1 e=>?_⟩
 ·rw [e1]
  intro q;exact pF q.1 (by decide)
 rw [cutF (i:=1) (n:=1) rfl,←gb] at e;refine ⟨p,_,rfl,.inr (SqT.of e),rfl,oG _,_,rfl,?_⟩;show if inV (.str z) ((ss.drop 1).map V.str)=true then _ else _;rw [inV_strs];refine jj (fun hc=>?_) (fun hc=>?_)
 ·obtain ⟨i,hi⟩:=bR (pI hc)
  rw [dQ] at hi;refine ⟨_,rfl,x,C,dx,_,_,rfl,S1 _ _ hx,CC.cl,CC.n5,rfl,_,rfl,x,C,dx,_,_,rfl,S1 _ _ hx,CC.cl,CC.n2,rfl,⟨a,_,rfl,S1 _ _ ha⟩,_,rfl,a,ss,z,1+i,rfl,rfl,SqT.of (S1 _ _ ha),hi,ke nd hi,?_⟩;exact ⟨_,_,rfl,rfl,.inl ⟨by decide,by decide⟩,_,_,rfl,rfl,_,_,rfl,rfl,(k H1 S1).1 (1+i) hi (by lia)⟩
 ·refine (k H1 S1).2 fun i hi=>?_
  have hn:z ∉ ss.drop 1:=fun q=>hc (pG q)
  by_cases q:i=0
  ·exact q
  ·exact pF (ay (i:=i - 1) (by rw [dQ,show 1+(i - 1)=i by lia];exact hi)) hn
end HN
namespace L2
open PySem PySem.Spec PyProof.Rows
theorem nr {α β:Type}{f:α→β→Sem (ForInStep β)}{Q:β→ar→Prop}:∀ (l:List α) (I:Nat→β→ar→Prop) (b:β) (s:ar),I 0 b s →
  (∀ i a b s,l[i]? =some a→I i b s→bo M A (f a b) (fun r s'=>∃ b',r= .yield b'∧I (i+1) b' s') E s)→(∀ b s,I l.length b s→Q b s)→bo M A (forIn l b f) Q E s
 | [],_,b,s,h0,_,hd=>by
  rw [List.forIn_nil];exact aQ (hd b s h0)
 | a::l,I,b,s,h0,hs,hd=>by
  rw [List.forIn_cons];refine al (eh (hs 0 a b s rfl h0) (fun r s' ⟨b',e,h'⟩=>?_) fun _ _ f=>f);subst e;exact nr l (fun i=>I (i+1)) b' s' h' (fun i a b s ha hi=>hs (i+1) a b s ha hi) fun b s h=>hd b s h
structure Sq where
 l:Bool
 a:ak
def SqAt (h:bX)(c:Sq)(xs:Array ag):Prop:=match c.l with | true=>h.IsList c.a xs | false=>h.IsTuple c.a xs
def ItAt (h:bX)(c:Sq)(i:ak)(k:Nat):Prop:=match c.l with | true=>h.IsListIter i c.a k | false=>h.IsTupleIter i c.a k
abbrev lW (h:bX)(T:ak)(vs:List ag):Prop:=h.get? T=some { cls:= .type "tuple",data:= .seq vs.toArray }
theorem SqAt.ext {g:bX}{c:Sq}{xs:Array ag}(x:SqAt h c xs)(e:∀ o,h.get? c.a=some o→g.get? c.a=some o):SqAt g c xs:=by
 obtain ⟨l,a⟩:=c;cases l with
 | true=>obtain ⟨o,ho,r⟩:=(show h.IsList a xs from x);exact ⟨o,e o ho,r⟩
 | false=>obtain ⟨o,ho,r⟩:=(show h.IsTuple a xs from x);exact ⟨o,e o ho,r⟩
theorem ItAt.ext {g:bX}{c:Sq}{i:ak}(x:ItAt h c i k)(e:∀ o,h.get? i=some o→g.get? i=some o):ItAt g c i k:=by
 obtain ⟨l,a⟩:=c;cases l with
 | true=>obtain ⟨o,ho,r⟩:=(show h.IsListIter i a k from x);exact ⟨o,e o ho,r⟩
 | false=>obtain ⟨o,ho,r⟩:=(show h.IsTupleIter i a k from x);exact ⟨o,e o ho,r⟩
theorem ItAt.obj {c:Sq}{i:ak}(x:ItAt h c i k):∃ o,h.get? i=some o∧∀ v,o.data≠ .cell v:=by
 obtain ⟨l,a⟩:=c;cases l with
 | true=>obtain ⟨o,ho,_,d⟩:=(show h.IsListIter i a k from x);exact ⟨o,ho,fun v z=>by rw [d] at z;cases z⟩
 | false=>obtain ⟨o,ho,_,d⟩:=(show h.IsTupleIter i a k from x);exact ⟨o,ho,fun v z=>by rw [d] at z;cases z⟩
theorem pf {c:Sq}{i:ak}{xs:Array ag}{v:ag}(jt:ItAt s.heap c i k)(tt:SqAt s.heap c xs)(hv:xs[k]? =some v)
  (q:∀ g,ItAt g c i (k+1)→cI i s.heap g→Q v { s with heap:=g }):bo (bQ prog w) A (cR (.ref i)) Q E s:=by
 obtain ⟨l,a⟩:=c;cases l with
 | true=>exact wpAny_nextOf_list_item (show s.heap.IsListIter i a k from jt) (show s.heap.IsList a xs from tt) hv fun g h1 h2=>q g h1 h2
 | false=>exact nextT_item (show s.heap.IsTupleIter i a k from jt) (show s.heap.IsTuple a xs from tt) hv fun g h1 h2=>q g h1 h2
theorem nextS_end {c:Sq}{i:ak}{xs:Array ag}(hh:A.handled=none)(jt:ItAt s.heap c i k)(tt:SqAt s.heap c xs)(hv:xs[k]? =none)
  (q:∀ g x,bX.ExtBut i s.heap g→(∃ o,g.get? x=some o∧o.cls= .type "StopIteration")→E (.ref x) { s with heap:=g }):bo (bQ prog w) A (cR (.ref i)) Q E s:=by
 obtain ⟨l,a⟩:=c;cases l with
 | true=>exact wpAny_nextOf_list_end hh (show s.heap.IsListIter i a k from jt) (show s.heap.IsList a xs from tt) hv fun g x h1 h2=>q g x h1 h2
 | false=>exact nextT_end hh (show s.heap.IsTupleIter i a k from jt) (show s.heap.IsTuple a xs from tt) hv fun g x h1 h2=>q g x h1 h2
theorem iterS {c:Sq}{xs:Array ag}(tt:SqAt s.heap c xs)
  (q:∀ g,ItAt g c s.heap.objs.size 0→g.objs.size=s.heap.objs.size+1→(∀ b o,s.heap.get? b=some o→g.get? b=some o)→Q (.ref s.heap.objs.size) { s with heap:=g }):bo (bQ prog w) A (pyIter (.ref c.a)) Q E s:=by
 obtain ⟨l,a⟩:=c;cases l with
 | true=>exact gC (show s.heap.IsList a xs from tt) (q _ ⟨_,aJ _ rfl,rfl,rfl⟩ (dk ..) fun b o e=>ao _ e)
 | false=>exact wpAny_pyIter_tuple (show s.heap.IsTuple a xs from tt) (q _ ⟨_,aJ _ rfl,rfl,rfl⟩ (dk ..) fun b o e=>ao _ e)
theorem updRow {T:ak}{x:ag}{Q:Unit→ar→Prop}(hT:lW s.heap T vs)(hz:vs.length≤100)
  (h:∀ g,lW g T (vs.set k x)→cI T s.heap g→Q () { s with heap:=g }):bo (bQ prog w) A (updateSeq T (·.setIfInBounds k x)) Q E s:=by
 refine wpAny_updateSeq hT rfl (h _ ?_ (cI.update ..)) (by rw [aA];exact cn hz (by decide)) (by rw [Array.size_setIfInBounds,aA];exact cn hz (by decide));show bX.get? _ T=_;rw [bX.get?_update_self _ hT rfl];simp [Obj.mapSeq]
structure ZIn (h g:bX)(z TI TO:ak)(cs:List Sq)(is:List ak)(k j:Nat)(vs old:List ag):Prop where
 sz:g.objs.size=h.objs.size
 zip:IsZip g z TI TO .ellipsis
 row:lW g TO (vs.take j++old.drop j)
 its:∀ (n:Nat) c i,cs[n]? =some c→is[n]? =some i→ItAt g c i (if n<j then k+1 else k)
 ext:∀ e o,e≠z→e≠TO→e ∉ is→h.get? e=some o→g.get? e=some o
structure ZOk (h:bX)(z TI TO:ak)(cs:List Sq)(is:List ak)(k:Nat)(old:List ag):Prop where
 len:is.length=cs.length
 few:cs.length≤8
 pos:0<cs.length
 nod:(z::TI::TO::is).Nodup
 zip:IsZip h z TI TO .none
 ti:lW h TI (is.map ag.ref)
 to:lW h TO old
 lo:old.length=cs.length
 its:∀ (n:Nat) c i,cs[n]? =some c→is[n]? =some i→ItAt h c i k
 off:∀ c∈cs,c.a≠z∧c.a≠TO∧c.a ∉ is
theorem nod_ne {is:List ak}{i:ak}{e:ak}(hn:is.Nodup)(h1:is[j]? =some i)(h2:is[n]? =some e)(h:n≠j):e≠i:=fun z=>by
 subst z;have a:=(ah.mp h1);have b:=(ah.mp h2);obtain ⟨ha,ea⟩:=a;obtain ⟨hb,eb⟩:=b;exact h ((List.getElem_inj hn).mp (eb.trans ea.symm))
theorem ZIn.step {g:bX}{z TI TO:ak}{cs:List Sq}{is:List ak}{i:ak}{c:Sq}(D:ZOk h z TI TO cs is k old)(Z:ZIn h g z TI TO cs is k j vs old)(hi:is[j]? =some i)(hc:cs[j]? =some c){g2 g3:bX}{v:ag}(hv:vs[j]? =some v)(lv:vs.length=cs.length)
  (n2:ItAt g2 c i (k+1)) (s2:cI i g g2) (r3:lW g3 TO ((vs.take j++old.drop j).set j v)) (s3:cI TO g2 g3):ZIn h g3 z TI TO cs is k (j+1) vs old:=by
 have nod:=D.nod;rw [bH,bH,bH] at nod;obtain ⟨nz,nT,nO,ni⟩:=nod;have mi:i∈is:=ay hi;have iz:z≠i:=fun q=>nz (by rw [q];simp [mi])
 have iO:TO≠i:=fun q=>nO (by rw [q];exact mi)
 have zO:z≠TO:=fun q=>nz (by rw [q];simp)
 have jl:j<cs.length:=(ah.mp hc).1;refine ⟨by rw [s3.1,s2.1,Z.sz],s3.extBut _ _ zO (s2.extBut _ _ iz Z.zip),?_,fun n c' i' hc' hi'=>?_,fun e o e1 e2 e3 q=>s3.extBut _ _ e2 (s2.extBut _ _ (fun y=>e3 (by rw [y];exact mi)) (Z.ext e o e1 e2 e3 q))⟩
 ·have lo:=D.lo
  have e:(vs.take j++old.drop j).set j v=vs.take (j+1)++old.drop (j+1):=by
   have l1:(vs.take j).length=j:=by rw [aU];lia
   rw [List.set_append,pB (by lia),l1,dJ,iI (by lia:j<old.length),List.set_cons_zero,aW,hv];simp
  rw [←e];exact r3
 ·have mi':i'∈is:=ay hi'
  have iO':i'≠TO:=fun q=>nO (by rw [←q];exact mi')
  by_cases e:n=j
  ·subst e
   rw [hi] at hi';rw [hc] at hc';cases hi';cases hc';rw [pE (by lia)];exact n2.ext fun o q=>s3.extBut _ _ iO' q
  ·have q:=Z.its n c' i' hc' hi'
   have e2:(if n<j+1 then k+1 else k)=(if n<j then k+1 else k):=by
    by_cases y:n<j
    ·rw [pE y,pE (by lia)]
    ·rw [pB y,pB (by lia)]
   rw [e2];exact q.ext fun o r=>s3.extBut _ _ iO' (s2.extBut _ _ (nod_ne ni hi hi' e) r)
theorem zipS_go {z TI TO:ak}{cs:List Sq}{is:List ak}{Q:Option ag→ar→Prop}(D:ZOk s.heap z TI TO cs is k old)
  (hv:∀ (n:Nat) c,cs[n]? =some c→∃ xs v,SqAt s.heap c xs∧xs[k]? =some v∧vs[n]? =some v) (lv:vs.length=cs.length)
  (q:∀ g,IsZip g z TI TO (rawInt s.heap.objs.size)→lW g TO vs→(∀ (n:Nat) c i,cs[n]? =some c→is[n]? =some i→ItAt g c i (k+1))→lW g s.heap.objs.size vs→g.objs.size=s.heap.objs.size+1 →
   (∀ e o,e≠z→e≠TO→e ∉ is→s.heap.get? e=some o→g.get? e=some o)→Q (some (.ref s.heap.objs.size)) { s with heap:=g }):bo (bQ prog w) A (pyNext (.ref z)) Q E s:=by
 have hT:s.TypeIs (.ref z) "zip" := ⟨_,D.zip,rfl⟩;have nod:=D.nod;rw [bH,bH,bH] at nod;obtain ⟨nz,nT,nO,ni⟩:=nod;have zO:z≠TO:=fun q=>nz (by rw [q];simp)
 have few:=D.few;have len:=D.len;unfold pyNext;refine al (wpAny_attempt (eO (name:=bF "__next__") hT F.slot_zip_next (gX F.slot_zip_next hT F.entry_zip_next ?_ (F.args_zip_next_1 _))));show bo _ _ (field (.ref z) 2 >>= _) _ _ s;refine al (cQ D.zip rfl (x:= .bool false) (by rfl) ?_);show bo _ _ (field (.ref z) 3 >>= _) _ _ s;refine al (cQ D.zip rfl (x:= .ref TI) (by rfl) ?_);refine al (iM D.ti rfl ?_)
 dsimp only
 rw [pB (by intro y;rw [Array.isEmpty_iff_size_eq_zero,aA,ae,len] at y;have:=D.pos;lia)];refine al ?_;unfold fq;refine al (cQ D.zip rfl (x:= .none) (by rfl) (aQ ?_));simp only [if_true];refine al (wpAny_rule ?_);refine al (cQ D.zip rfl (x:= .ref TO) (by rfl) ?_);refine al (dw D.zip (by simp) fun g1 z1 s1=>?_);have z1:IsZip g1 z TI TO .ellipsis:=z1;refine al ?_;refine nr _ (fun j b s'=>b=_∧∃ g,s'={ s with heap:=g }∧ZIn s.heap g z TI TO cs is k j vs old) _ _ ⟨rfl,g1,rfl,?_⟩ ?_ ?_
 ·refine ⟨s1.1,z1,s1.extBut _ _ zO.symm D.to,fun n c i hc hi=>?_,fun e o e1 _ _ h=>s1.extBut _ _ e1 h⟩
  rw [pB (by lia)];exact (D.its n c i hc hi).ext fun o h=>s1.extBut _ _ (fun y=>nz (by rw [←y];simp [ay hi])) h
 ·rintro j a b s' ha ⟨rfl,g,rfl,Z⟩
  rw [List.getElem?_zipIdx] at ha;obtain ⟨x,hx,rfl⟩:=aS.mp ha;have hx:(is.map ag.ref)[j]? =some x:=by simpa using hx
  rw [ax] at hx;obtain ⟨i,hi,rfl⟩:=aS.mp hx;have jl:j<cs.length:=by rw [←len];exact (ah.mp hi).1
  have hc:cs[j]? =some cs[j]:=gE jl;obtain ⟨xs,v,hq,hxv,hvv⟩:=hv j _ hc;obtain ⟨o1,o2,o3⟩:=D.off _ (cJ jl);have it:=Z.its j _ i hc hi;rw [pB (by lia)] at it
  dsimp only
  refine al (wpAny_onRaise ?_);show bo _ _ (cR (.ref i) >>= _) _ _ _;refine al (pf it (hq.ext fun o h=>Z.ext _ o o1 o2 o3 h) hxv fun g2 n2 s2=>aQ ?_);have iO:TO≠i:=fun q=>nO (by rw [q];exact ay hi)
  have r2:lW g2 TO (vs.take j++old.drop j):=s2.extBut _ _ iO Z.row;refine al (iM r2 rfl ?_);refine al (updRow (x:=v) (k:=0+j) r2 (by rw [aj,aU,bV];have:=D.lo;lia) fun g3 r3 s3=>?_);rw [Nat.zero_add] at r3;refine al (wpAny_letGo (aQ ⟨_,rfl,rfl,g3,rfl,Z.step D hi hc hvv lv n2 s2 r3 s3⟩))
 ·rintro b s' ⟨rfl,g5,rfl,Z⟩
  have ll:((is.map ag.ref).toArray.toList.zipIdx).length=cs.length:=by simp [len]
  rw [ll] at Z;have z5:=Z.zip;have o5:lW g5 TO vs:=by
   have:=Z.row;rw [←lv,bI,lv,←D.lo,List.drop_length,cG] at this;exact this
  have m5:∀ (n:Nat) c i,cs[n]? =some c→is[n]? =some i→ItAt g5 c i (k+1):=fun n c i hc hi=>by
   have:=Z.its n c i hc hi;rw [pE (ah.mp hc).1] at this;exact this
  dsimp only
  refine al (iM o5 rfl ?_);refine al (wpAny_newTuple ?_);have zlt:z<g5.objs.size:=bc z5;have sz:=Z.sz;refine al ?_;unfold gL;have z6:IsZip (g5.push { cls:= .type "tuple",data:= .seq vs.toArray }) z TI TO .ellipsis:=ao _ z5;refine al (dw z6 (by simp) fun g7 z7 s7=>?_);have z7:IsZip g7 z TI TO (rawInt g5.objs.size):=z7;refine dw z7 (by simp) fun g8 z8 s8=>?_
  have z8:IsZip g8 z TI TO (rawInt g5.objs.size):=z8;have up:∀ e o,e≠z→g5.get? e=some o→g8.get? e=some o:=fun e o c1 h=>s8.extBut _ _ c1 (s7.extBut _ _ c1 (ao _ h))
  have t8:lW g8 g5.objs.size vs:=s8.extBut _ _ (jE zlt) (s7.extBut _ _ (jE zlt) (aJ _ rfl));have sz8:g8.objs.size=g5.objs.size+1:=by rw [s8.1,s7.1,dk]
  rw [sz] at z8 t8 sz8;refine aQ ⟨_,rfl,?_⟩;refine aQ ?_;show Q (some (.ref g5.objs.size)) _;rw [sz];refine q g8 z8 (up _ _ zO.symm o5) (fun n c i hc hi=>(m5 n c i hc hi).ext fun o h=>up _ o (fun y=>nz (by rw [←y];simp [ay hi])) h) t8 sz8 fun e o c1 c2 c3 h=>up e o c1 (Z.ext e o c1 c2 c3 h)
theorem zipS_stop {z TI TO:ak}{cs:List Sq}{is:List ak}{cm:Sq}{Q:Option ag→ar→Prop}(hh:A.handled=none)(D:ZOk s.heap z TI TO cs is k old)
  (hv:∀ (n:Nat) c,cs[n]? =some c→n<m→∃ xs v,SqAt s.heap c xs∧xs[k]? =some v∧vs[n]? =some v) (lv:vs.length=cs.length) (hm:cs[m]? =some cm) {xm:Array ag} (hxm:SqAt s.heap cm xm) (hem:xm[k]? =none)
  (q:∀ g,(∀ e o,e≠z→e≠TO→e ∉ is→s.heap.get? e=some o→g.get? e=some o)→Q none { s with heap:=g }):bo (bQ prog w) A (pyNext (.ref z)) Q E s:=by
 have hT:s.TypeIs (.ref z) "zip" := ⟨_,D.zip,rfl⟩;have nod:=D.nod;rw [bH,bH,bH] at nod;obtain ⟨nz,nT,nO,ni⟩:=nod;have zO:z≠TO:=fun q=>nz (by rw [q];simp)
 have few:=D.few;have len:=D.len;have fin:∀ g x,(∀ e o,e≠z→e≠TO→e ∉ is→s.heap.get? e=some o→g.get? e=some o)→(∃ o,g.get? x=some o∧o.cls= .type "StopIteration") →
   bo (bQ prog w) A (do if ← isInstance (.ref x) (.type "StopIteration") then gK none else throw (.ref x)) Q E { s with heap:=g }:=fun g x k ⟨o,ho,hc⟩=>by
  refine al (wpAny_isInstance (T := "StopIteration") (b:=true) ⟨o,ho,hc⟩ isSubtype_stop ?_);exact aQ (q g k)
 have ml:m<cs.length:=(ah.mp hm).1;unfold pyNext;refine al (wpAny_attempt (eO (name:=bF "__next__") hT F.slot_zip_next (gX F.slot_zip_next hT F.entry_zip_next ?_ (F.args_zip_next_1 _))));show bo _ _ (field (.ref z) 2 >>= _) _ _ s;refine al (cQ D.zip rfl (x:= .bool false) (by rfl) ?_);show bo _ _ (field (.ref z) 3 >>= _) _ _ s;refine al (cQ D.zip rfl (x:= .ref TI) (by rfl) ?_);refine al (iM D.ti rfl ?_)
 dsimp only
 rw [pB (by intro y;rw [Array.isEmpty_iff_size_eq_zero,aA,ae,len] at y;have:=D.pos;lia)];refine al ?_;unfold fq;refine al (cQ D.zip rfl (x:= .none) (by rfl) (aQ ?_));simp only [if_true];refine al (wpAny_rule ?_);refine al (cQ D.zip rfl (x:= .ref TO) (by rfl) ?_);refine al (dw D.zip (by simp) fun g1 z1 s1=>?_);have z1:IsZip g1 z TI TO .ellipsis:=z1;refine al ?_;refine nr _ (fun j b s'=>b=_∧j≤m∧∃ g,s'={ s with heap:=g }∧ZIn s.heap g z TI TO cs is k j vs old) _ _ ⟨rfl,cz _,g1,rfl,?_⟩ ?_ ?_
 ·refine ⟨s1.1,z1,s1.extBut _ _ zO.symm D.to,fun n c i hc hi=>?_,fun e o e1 _ _ h=>s1.extBut _ _ e1 h⟩
  rw [pB (by lia)];exact (D.its n c i hc hi).ext fun o h=>s1.extBut _ _ (fun y=>nz (by rw [←y];simp [ay hi])) h
 ·rintro j a b s' ha ⟨rfl,jm,g,rfl,Z⟩
  rw [List.getElem?_zipIdx] at ha;obtain ⟨x,hx,rfl⟩:=aS.mp ha;have hx:(is.map ag.ref)[j]? =some x:=by simpa using hx
  rw [ax] at hx;obtain ⟨i,hi,rfl⟩:=aS.mp hx;have jl:j<cs.length:=by rw [←len];exact (ah.mp hi).1
  have hc:cs[j]? =some cs[j]:=gE jl;obtain ⟨o1,o2,o3⟩:=D.off _ (cJ jl);have it:=Z.its j _ i hc hi;rw [pB (by lia)] at it;have iO:TO≠i:=fun q=>nO (by rw [q];exact ay hi)
  have iz:z≠i:=fun q=>nz (by rw [q];simp [ay hi])
  dsimp only
  refine al (wpAny_onRaise ?_);show bo _ _ (cR (.ref i) >>= _) _ _ _
  by_cases e:j=m
  ·subst e
   rw [hc] at hm;cases hm;refine al (nextS_end hh it (hxm.ext fun o h=>Z.ext _ o o1 o2 o3 h) hem fun g2 x s2 hx2=>?_);obtain ⟨oe,e1,e2⟩:=hx2;have z2:IsZip g2 z TI TO .ellipsis:=s2 _ _ iz Z.zip;have xz:x≠z:=fun r=>by subst r;rw [z2] at e1;cases e1;simp at e2
   exact dw z2 (by simp) fun g3 _ s3=>fin g3 x (fun e o c1 c2 c3 h=>s3.extBut _ _ c1 (s2 _ _ (fun y=>c3 (by rw [y];exact ay hi)) (Z.ext e o c1 c2 c3 h))) ⟨oe,s3.extBut _ _ xz e1,e2⟩
  ·obtain ⟨xs,v,hq,hxv,hvv⟩:=hv j _ hc (by lia)
   refine al (pf it (hq.ext fun o h=>Z.ext _ o o1 o2 o3 h) hxv fun g2 n2 s2=>aQ ?_);have r2:lW g2 TO (vs.take j++old.drop j):=s2.extBut _ _ iO Z.row;refine al (iM r2 rfl ?_);refine al (updRow (x:=v) (k:=0+j) r2 (by rw [aj,aU,bV];have:=D.lo;lia) fun g3 r3 s3=>?_);rw [Nat.zero_add] at r3;refine al (wpAny_letGo (aQ ⟨_,rfl,rfl,by lia,g3,rfl,Z.step D hi hc hvv lv n2 s2 r3 s3⟩))
 ·rintro b s' ⟨rfl,jm,g5,rfl,Z⟩
  have ll:((is.map ag.ref).toArray.toList.zipIdx).length=cs.length:=by simp [len]
  rw [ll] at jm;lia
theorem lV {α:Type}{P:Nat→α→Prop}:∀ (k:Nat),(∀ n,n<k→∃ u,P n u)→∃ us:List α,us.length=k∧∀ (n:Nat) u,us[n]? =some u→P n u
 | 0,_=>⟨[],rfl,fun n u h=>by simp at h⟩
 | k+1,h=>by
  obtain ⟨us,hl,hu⟩:=lV k fun n hn=>h n (by lia)
  obtain ⟨u,pu⟩:=h k (by lia);refine ⟨us++[u],by rw [aj,hl];rfl,fun n v hv=>?_⟩
  by_cases e:n<us.length
  ·rw [bJ e] at hv
   exact hu n v hv
  ·rw [aN (by lia)] at hv
   have hn:n=us.length:=by
    have:=(ah.mp hv).1;simp at this;lia
   subst hn;rw [dJ] at hv;cases hv;rw [hl];exact pu
theorem vals_of:∀ {vs:List V} {us:List ag},vs.length=us.length→(∀ (n:Nat) v u,vs[n]? =some v→us[n]? =some u→gU v u)→gr vs us
 | [],[],_,_=> .nil
 | v::vs,u::us,hl,h=> .cons (h 0 v u rfl rfl) (vals_of (by simpa using hl) fun n v' u' a b=>h (n+1) v' u' a b)
 | [],_::_,hl,_=>by simp at hl
 | _::_,[],hl,_=>by simp at hl
def HSq (H:Hp)(c:Sq)(xs:List V):Prop:=match c.l with | true=>H c.a=some (.lst xs) | false=>H c.a=some (.tup xs)
theorem HSq.inj {c:Sq}{ys:List V}(a:HSq H c xs)(b:HSq H c ys):xs=ys:=by
 obtain ⟨l,q⟩:=c;cases l with
 | true=>have a:H q=some (.lst xs):=a;have b:H q=some (.lst ys):=b;rw [a] at b;cases b;rfl
 | false=>have a:H q=some (.tup xs):=a;have b:H q=some (.tup ys):=b;rw [a] at b;cases b;rfl
theorem HSq.has {c:Sq}(a:HSq H c xs):∃ o,H c.a=some o:=by
 obtain ⟨l,q⟩:=c;cases l with
 | true=>exact ⟨_,a⟩
 | false=>exact ⟨_,a⟩
theorem HSq.at {c:Sq}(I:Inv X aI σ H s)(h:HSq H c xs):∃ its,gr xs its∧SqAt s.heap c its.toArray:=by
 obtain ⟨l,q⟩:=c;cases l with
 | true =>
  obtain ⟨its,r,p,_⟩:=I.list (SqL.of (K:=X.K) (show H q=some (.lst xs) from h));exact ⟨its,r,p.isList⟩
 | false =>
  obtain ⟨its,r,p,_⟩:=I.tuple (SqT.of (K:=X.K) (show H q=some (.tup xs) from h));exact ⟨its,r,p⟩
def Itq (cs:List Sq):It :=
 ⟨fun i H=>∃ vs:List V,vs.length=cs.length∧∀ (n:Nat) c,cs[n]? =some c→∃ xs x,HSq H c xs∧xs[i]? =some x∧vs[n]? =some x,
  fun i H v H'=>∃ p vs,H p=none∧v= .ref p∧H'=upd H p (.tup vs)∧vs.length=cs.length∧∀ (n:Nat) c x xs,cs[n]? =some c→HSq H c xs→vs[n]? =some x→xs[i]? =some x,
  fun i H=>∃ m cm xm,cs[m]? =some cm∧HSq H cm xm∧xm.length≤i∧∀ (n:Nat) c,cs[n]? =some c→n<m→∃ xs x,HSq H c xs∧xs[i]? =some x⟩
theorem turn_zipS {k0}{z TI TO:ak}{cs:List Sq}{is:List ak} :
  Turn P w K (.Tuple es k0 pos) (Itq cs) (z::TI::TO::is) z (fun i h=>∃ old,ZOk h z TI TO cs is i old) where
 mem:=by simp
 obj:=fun i h st c hc=>by
  obtain ⟨old,D⟩:=st;simp only [av] at hc
  rcases hc with rfl | rfl | rfl | hc
  ·exact ⟨_,D.zip,fun v z=>by cases z⟩
  ·exact ⟨_,D.ti,fun v z=>by cases z⟩
  ·exact ⟨_,D.to,fun v z=>by cases z⟩
  ·obtain ⟨n,hn⟩:=bR hc
   have hl:n<cs.length:=by rw [←D.len];exact (ah.mp hn).1
   exact (D.its n _ c (gE hl) hn).obj
 keep:=fun i h h' st k=>by
  obtain ⟨old,D⟩:=st;exact ⟨old,D.len,D.few,D.pos,D.nod,k z (by simp) _ D.zip,k TI (by simp) _ D.ti,k TO (by simp) _ D.to,D.lo,fun n c i hc hi=>(D.its n c i hc hi).ext fun o e=>k i (by simp [ay hi]) o e,D.off⟩
 item:=by
  intro X hP hw hK hc i aI s σ H E I hf st hg;subst hP hw hK;obtain ⟨old,D⟩:=st;obtain ⟨vs,lv,hv⟩:=hg;have nz:∀ e∈z::TI::TO::is,H e=none:=fun e he=>(hf e he).1
  have hT:H s.heap.objs.size=none:=I.fresh;have ex:∀ n,n<cs.length→∃ u:ag,(∀ c,cs[n]? =some c→∃ xs,SqAt s.heap c xs∧xs[i]? =some u)∧∀ v,vs[n]? =some v→gU v u:=fun n hn=>by
   obtain ⟨xs,x,h1,h2,h3⟩:=hv n _ (gE hn);obtain ⟨its,r,p⟩:=h1.at I;obtain ⟨u,hu,ru⟩:=r.get h2;refine ⟨u,fun c hc=>?_,fun v hv'=>?_⟩
   ·rw [gE hn] at hc
    cases hc;exact ⟨_,p,by simpa using hu⟩
   ·rw [h3] at hv'
    cases hv';exact ru
  obtain ⟨us,lu,hu⟩:=lV cs.length ex;have hrel:gr vs us:=vals_of (by lia) fun n v u a b=>(hu n u b).2 v a
  refine zipS_go D (vs:=us) (fun n c hc=>?_) lu fun g z1 to1 m1 tp sz kk=>⟨_,rfl,?_⟩
  ·have hn:n<us.length:=by rw [lu];exact (ah.mp hc).1
   obtain ⟨xs,a,b⟩:=(hu n _ (gE hn)).1 c hc;exact ⟨xs,us[n],a,b,gE hn⟩
  refine wpAny_letOwnedTupleGo_zip z1 fun g2 z2 s2=>?_
  have s2:cI z g g2:=s2;have k2:∀ e o,e ∉ z::TO::is→s.heap.get? e=some o→g2.get? e=some o:=fun e o hn h=>by
   simp only [av,not_or] at hn;exact s2.extBut _ _ hn.1 (kk e o hn.1 hn.2.1 hn.2.2 h)
  have zlt:z<s.heap.objs.size:=bc D.zip;have tp2:lW g2 s.heap.objs.size us:=s2.extBut _ _ (jE zlt) tp;have sub:∀ e∈z::TO::is,e∈z::TI::TO::is:=fun e he=>by
   simp only [av] at he ⊢
   rcases he with rfl | rfl | he <;> simp [*]
  have trk:∀ e o,H e=some o→e ∉ z::TO::is:=fun e o he hm=>by rw [nz e (sub e hm)] at he;cases he
  have J:Inv X aI σ (upd H s.heap.objs.size (.tup vs)) { s with heap:=g2 }:=by
   refine I.turnAll (ch:=z::TO::is) (fun e he=>hf e (sub e he)) k2 (fun e o h=>by rw [aX (aV h hT)];exact h) (fun e o h n=>by rw [aX (cg (bc h))];exact n) fun e o h=>?_
   by_cases q:e=s.heap.objs.size
   ·subst q
    rw [aP] at h;cases h;exact ⟨by rw [lv];exact cn D.few (by decide),us,hrel,_,tp2,rfl,rfl,_,rfl⟩
   ·rw [aX q] at h
    refine (I.hok e o h).stay (fun c v hc' q'=>k2 c v (by
     rcases hc' with z' | z'
     ·rw [z'];exact trk e o h
     ·exact trk c _ z') q') (fun c q'=>by rw [aX (aV q' hT)];exact q') fun c xs q'=>by rw [aX (aV q' hT)];exact q'
  have nod:=D.nod;rw [bH,bH,bH] at nod;obtain ⟨nz',nT,nO,ni⟩:=nod;refine ⟨.ref s.heap.objs.size,_,J,rfl,⟨_,vs,hT,rfl,rfl,lv,fun n c x xs hc hq hx=>?_⟩,⟨us,D.len,D.few,D.pos,D.nod,z2,?_,s2.extBut _ _ (fun y=>nz' (by rw [←y];simp)) to1,lu,fun n c j hc hj=>?_,D.off⟩,fun e he=>?_⟩
  ·obtain ⟨ys,y,h1,h2,h3⟩:=hv n c hc
   rw [h1.inj hq] at h2;rw [h3] at hx;cases hx;exact h2
  ·refine k2 _ _ (fun y=>?_) D.ti
   rcases av.mp y with y | y
   ·exact nz' (by rw [←y];simp)
   ·exact nT y
  ·exact (m1 n c j hc hj).ext fun o e=>s2.extBut _ _ (fun y=>nz' (by rw [←y];simp [ay hj])) e
  ·have hlt:e<s.heap.objs.size:=by
    simp only [av] at he
    rcases he with rfl | rfl | rfl | he
    ·exact bc D.zip
    ·exact bc D.ti
    ·exact bc D.to
    ·obtain ⟨n,hn⟩:=bR he
     have hl:n<cs.length:=by rw [←D.len];exact (ah.mp hn).1
     obtain ⟨o,ho,_⟩:=(D.its n _ e (gE hl) hn).obj;exact bc ho
   rw [aX (cg hlt)];exact nz e he
 done:=by
  intro X hP hw hK hc i aI s σ H E I hf st hg;subst hP hw hK;obtain ⟨old,D⟩:=st;obtain ⟨m,cm,xm,hm,hxm,hi,hv⟩:=hg;have nz:∀ e∈z::TI::TO::is,H e=none:=fun e he=>(hf e he).1
  have ex:∀ n,n<cs.length→∃ u:ag,∀ c,cs[n]? =some c→n<m→∃ xs,SqAt s.heap c xs∧xs[i]? =some u:=fun n hn=>by
   by_cases e:n<m
   ·obtain ⟨xs,x,h1,h2⟩:=hv n _ (gE hn) e
    obtain ⟨its,r,p⟩:=h1.at I;obtain ⟨u,hu,ru⟩:=r.get h2;refine ⟨u,fun c hc _=>?_⟩;rw [gE hn] at hc;cases hc;exact ⟨_,p,by simpa using hu⟩
   ·exact ⟨.none,fun c _ z=>pF z e⟩
  obtain ⟨us,lu,hu⟩:=lV cs.length ex;obtain ⟨its,r,p⟩:=hxm.at I;have hl:=r.length;refine zipS_stop (I.ok.hd hc) D (vs:=us) (m:=m) (fun n c hc hn=>?_) lu hm p (by simp;lia) fun g kk=>⟨rfl,?_⟩
  ·have hn':n<us.length:=by rw [lu];exact (ah.mp hc).1
   obtain ⟨xs,a,b⟩:=hu n _ (gE hn') c hc hn;exact ⟨xs,us[n],a,b,gE hn'⟩
  have sub:∀ e∈z::TO::is,e∈z::TI::TO::is:=fun e he=>by
   simp only [av] at he ⊢
   rcases he with rfl | rfl | he <;> simp [*]
  have k2:∀ e o,e ∉ z::TO::is→s.heap.get? e=some o→g.get? e=some o:=fun e o hn h=>by
   simp only [av,not_or] at hn;exact kk e o hn.1 hn.2.1 hn.2.2 h
  have trk:∀ e o,H e=some o→e ∉ z::TO::is:=fun e o he hm=>by rw [nz e (sub e hm)] at he;cases he
  refine I.turnAll (ch:=z::TO::is) (fun e he=>hf e (sub e he)) k2 (fun _ _ h=>h) (fun _ _ _ n=>n) fun e o h=>?_
  exact (I.hok e o h).stay (fun c v hc' q'=>k2 c v (by
   rcases hc' with z' | z'
   ·rw [z'];exact trk e o h
   ·exact trk c _ z') q') (fun _ q'=>q') fun _ _ q'=>q'
 self:=fun _ _ _ _ _ st h=>let ⟨_,D⟩:=st;wpAny_pyIter_zip D.zip h
structure ZNew (h g:bX)(cs:List Sq):Prop where
 zip:IsZip g (h.objs.size+cs.length+2) (h.objs.size+cs.length) (h.objs.size+cs.length+1) .none
 ti:lW g (h.objs.size+cs.length) (((cq cs.length).map fun j=>h.objs.size+j).map ag.ref)
 to:lW g (h.objs.size+cs.length+1) (List.replicate cs.length .none)
 its:∀ (n:Nat) c,cs[n]? =some c→ItAt g c (h.objs.size+n) 0
 ext:∀ b o,h.get? b=some o→g.get? b=some o
theorem newClass_zip (vs:List ag):fW.SmallTypes.newClass "zip" ⟨.type "zip" :: vs,[]⟩=gK (.type "zip",vs):=by
 unfold fW.SmallTypes.newClass;simp only [isType,sub_zip,pure_bind,Bool.not_true,Bool.false_eq_true,if_false]
theorem zipS_new (cs:List Sq)(few:cs.length≤8) :
  Meets (fW.«zip.__new__» ⟨.type "zip" :: cs.map fun c=>ag.ref c.a,[]⟩) (fun _ R s=>(∀ c∈cs,∃ xs,SqAt s.heap c xs)∧∀ g,ZNew s.heap g cs→R (.ok (.ret (.ref (s.heap.objs.size+cs.length+2)))) { s with heap:=g }) :=
 .of_wp fun prog w A R s h=>by
  obtain ⟨h1,h⟩:=h;unfold fW.«zip.__new__»;refine al (wpAny_of_eq (newClass_zip _) ?_);show bo _ _ (fW.SmallTypes.iterAll (cs.map fun c=>ag.ref c.a) >>= _) _ _ _;refine al ?_;unfold fW.SmallTypes.iterAll;refine al (nr _ (fun j its s'=>∃ g,s'={ s with heap:=g }∧g.objs.size=s.heap.objs.size+j∧its=((cq j).map fun i=>ag.ref (s.heap.objs.size+i)).toArray∧(∀ (n:Nat) c,n<j→cs[n]? =some c→ItAt g c (s.heap.objs.size+n) 0)∧∀ b o,s.heap.get? b=some o→g.get? b=some o) _ _ ⟨s.heap,rfl,rfl,rfl,fun n c hn=>pF hn (by lia),fun _ _ e=>e⟩ ?_ ?_)
  ·rintro j a its s' ha ⟨g,rfl,sz,rfl,hit,ext⟩
   rw [ax] at ha;obtain ⟨c,hc,rfl⟩:=aS.mp ha;obtain ⟨xs,hx⟩:=h1 c (ay hc);refine al (jf (iterS (c:=c) (xs:=xs) (hx.ext fun o e=>ext _ o e) fun g2 i2 z2 e2=>?_));refine aQ ⟨_,rfl,g2,rfl,?_,?_,fun n c' hn hc'=>?_,fun b o e=>e2 b o (ext b o e)⟩
   ·show g2.objs.size=_
    rw [z2];show g.objs.size+1=_;rw [sz];lia
   ·show Array.push _ (ag.ref g.objs.size)=_
    rw [sz,List.range_succ,aq];simp
   ·by_cases e:n=j
    ·subst e
     rw [hc] at hc';cases hc';have i2:ItAt g2 c g.objs.size 0:=i2;rw [sz] at i2;exact i2
    ·exact (hit n c' (by lia) hc').ext fun o q=>e2 _ o q
  ·rintro its s' ⟨g,rfl,sz,rfl,hit,ext⟩
   have ll:(cs.map fun c=>ag.ref c.a).length=cs.length:=ae ..;rw [ll] at sz hit ⊢;refine aQ ?_
   dsimp only
   have n8:((cq cs.length).map fun i=>ag.ref (s.heap.objs.size+i)).length≤au:=by
    rw [ae,jn];exact cn few (by decide)
   refine al (wpAny_newTuple ?_ (by simpa using n8));refine al (wpAny_newTuple ?_ (by simpa using n8));refine al ?_;unfold fW.SmallTypes.newRecord;refine fV (aQ ⟨_,rfl,?_⟩) (by show 5≤au+2;decide);have e1:(g.push { cls:= .type "tuple",data:= .seq ((cq cs.length).map fun i=>ag.ref (s.heap.objs.size+i)).toArray }).objs.size=s.heap.objs.size+cs.length+1:=by rw [dk,sz]
   have e2:((g.push { cls:= .type "tuple",data:= .seq ((cq cs.length).map fun i=>ag.ref (s.heap.objs.size+i)).toArray }).push { cls:= .type "tuple",data:= .seq ((((cq cs.length).map fun i=>ag.ref (s.heap.objs.size+i)).toArray.toList.map fun _=>ag.none)).toArray }).objs.size=s.heap.objs.size+cs.length+2:=by rw [dk,e1]
   have key:=h (((g.push { cls:= .type "tuple",data:= .seq ((cq cs.length).map fun i=>ag.ref (s.heap.objs.size+i)).toArray }).push { cls:= .type "tuple",data:= .seq ((((cq cs.length).map fun i=>ag.ref (s.heap.objs.size+i)).toArray.toList.map fun _=>ag.none)).toArray }).push { cls:= .type "zip",data:= .fields #[.none,.bool false,.bool false,.ref (s.heap.objs.size+cs.length),.ref (s.heap.objs.size+cs.length+1)] })
    ⟨by rw [←e2];exact aJ _ rfl,?_,?_,fun n c hc=>(hit n c (ah.mp hc).1 hc).ext fun o q=>ao _ (ao _ (ao _ q)),fun b o q=>ao _ (ao _ (ao _ (ext b o q)))⟩
   ·rw [←e2] at key
    have e1':(s.heap.objs.size+cs.length:Nat)=g.objs.size:=sz.symm;rw [←e1,e1'] at key;exact key
   ·have em:(((cq cs.length).map fun j=>s.heap.objs.size+j).map ag.ref)=((cq cs.length).map fun i=>ag.ref (s.heap.objs.size+i)):=by rw [bO];rfl
    show bX.get? _ _=_;rw [em,←sz];exact ao _ (ao _ (aJ _ rfl))
   ·rw [←e1]
    have er:(((cq cs.length).map fun i=>ag.ref (s.heap.objs.size+i)).toArray.toList.map fun _=>ag.none)=List.replicate cs.length ag.none:=by
     rw [List.eq_replicate_iff];exact ⟨by simp,fun x hx=>by obtain ⟨_,_,rfl⟩:=aG.mp hx;rfl⟩
    rw [er];exact ao _ (aJ _ rfl)
theorem zip_args3 (a b c d:ag):argsOk "object.__init__" ⟨[a,b,c,d],[]⟩:=by
 unfold argsOk;rw [signature?_of (id := "object.__init__") (n:=['_','_','t','i','n','i','_','_']) (o:=['t','c','e','j','b','o']) (by kernel_rfl) F.owner_object]
 kernel_rfl
theorem zip_type3 (a b c:ag):checkTypeCall "zip" ⟨[a,b,c],[]⟩=gK ():=by kernel_rfl
theorem zip_new3 (a b c:ag):checkBuiltinCall "zip.__new__" ⟨[.type "zip",a,b,c],[]⟩=gK ():=by kernel_rfl
theorem zip_walk {s1:ar}{k0}{pt:Pos}{R:It→Hp→Prop}{cs:List Sq}(I1:Inv X aI σ H1 s1)(few:cs.length≤8)(pos:0<cs.length)(hq:∀ c∈cs,∃ xs,HSq H1 c xs)(q:R (Itq cs) H1){g:bX}(Z:ZNew s1.heap g cs) :
  bo (bQ X.prog X.w) X.A (pyIter (.ref (s1.heap.objs.size+cs.length+2))) (PIE X aI σ (.Tuple es k0 pt) R) E { s1 with heap:=g }:=by
 have small:∀ c∈cs,c.a<s1.heap.objs.size:=fun c hc=>by
  obtain ⟨xs,hx⟩:=hq c hc;obtain ⟨o,ho⟩:=hx.has;exact Nat.lt_of_not_le fun hge=>by rw [I1.hok.fresh hge] at ho;cases ho
 refine wpAny_pyIter_zip Z.zip ⟨_,(s1.heap.objs.size+cs.length+2)::(s1.heap.objs.size+cs.length)::(s1.heap.objs.size+cs.length+1)::((cq cs.length).map fun j=>s1.heap.objs.size+j),_,Itq cs,H1,rfl,I1.kept (t':=s1.toks) Z.ext,turn_zipS,⟨_,?_,few,pos,?_,Z.zip,Z.ti,Z.to,by rw [List.length_replicate],fun n c i hc hi=>?_,fun c hc=>?_⟩,fun e he=>?_,q⟩
 ·rw [ae,jn]
 ·have nd:((cq cs.length).map fun j=>s1.heap.objs.size+j).Nodup:=by
   rw [List.nodup_iff_pairwise_ne,List.pairwise_map];exact (List.nodup_iff_pairwise_ne.mp List.nodup_range).imp fun h e=>h (by lia)
  have out:∀ x,s1.heap.objs.size+cs.length≤x→x ∉ ((cq cs.length).map fun j=>s1.heap.objs.size+j):=fun x hx hm=>by
   obtain ⟨j,hj,rfl⟩:=aG.mp hm;have:=List.mem_range.mp hj;lia
  rw [bH,bH,bH];refine ⟨fun h=>?_,fun h=>?_,fun h=>out _ (by show @LE.le Nat _ _ _;lia) h,nd⟩
  ·rcases av.mp h with h | h
   ·have h: @Eq Nat _ _:=h
    lia
   ·rcases av.mp h with h | h
    ·have h: @Eq Nat _ _:=h
     lia
    ·exact out _ (by show @LE.le Nat _ _ _;lia) h
  ·rcases av.mp h with h | h
   ·have h: @Eq Nat _ _:=h
    lia
   ·exact out _ (by show @LE.le Nat _ _ _;lia) h
 ·rw [ax,List.getElem?_range (ah.mp hc).1] at hi
  cases hi;exact Z.its n c hc
 ·have:=small c hc
  have this: @LT.lt Nat _ c.a s1.heap.objs.size:=this;refine ⟨by show @Ne Nat _ _;lia,by show @Ne Nat _ _;lia,fun hm=>?_⟩;obtain ⟨j,hj,e⟩:=aG.mp hm;have e: @Eq Nat _ _:=e;lia
 ·have hge:s1.heap.objs.size≤e:=by
   simp only [av] at he
   rcases he with rfl | rfl | rfl | he
   ·show @LE.le Nat _ _ _;lia
   ·show @LE.le Nat _ _ _;lia
   ·show @LE.le Nat _ _ _;lia
   ·obtain ⟨j,hj,rfl⟩:=aG.mp he
    show @LE.le Nat _ _ _;lia
  exact I1.fpOk hge (I1.hok.fresh hge)
def iZip2 (ta:TA):TI:=fun σ H R=>ta σ H fun vs H1=>∃ c1 c2 xs ys,vs=[.ref c1.a,.ref c2.a]∧HSq H1 c1 xs∧HSq H1 c2 ys∧R (Itq [c1,c2]) H1
theorem pi_zip2 {eb:Expr}{ta:TA}{p:Pos}{k0}{pt:Pos}(hg:Gl X "zip")(hm:X.mg "zip" =none)(ha:PA X [ea,eb] ta)(hs:bw [ea,eb] X.env=[(false,dn ea X.env),(false,dn eb X.env)]:=by rfl)(hs2:bw [eb] X.env=[(false,dn eb X.env)]:=by rfl) :
  PI X (.Tuple es k0 pt) (.Call (.Name "zip" p) [ea,eb] [] pos) (iZip2 ta):=by
 intro aI s σ H R I h;refine Call_ (mm I hg hm boot_zip (c9 (thn (ha pos aI s σ H _ I h) fun us s1 ⟨vs,H1,I1,r1,q1⟩=>?_) (by rw [hs,hs2]) (by rw [hs2];rfl)));obtain ⟨c1,c2,xs,ys,e,h1,h2,q⟩:=q1;subst e;obtain ⟨u1,u2,rfl,r2,r3⟩:=vals2 r1;cases (show u1=ag.ref c1.a from r2);cases (show u2=ag.ref c2.a from r3);obtain ⟨_,_,p1⟩:=h1.at I1;obtain ⟨_,_,p2⟩:=h2.at I1;refine callType_new F.called_zip (by decide) (F.typeCall_zip_2 _ _) (F.newCall_zip_2 _ _) (fun obj=>F.args_object_init_3 obj _ _) F.entry_zip_new (zipS_new [c1,c2] (by show 2≤8;decide)) ⟨fun c hc=>?_,fun g Z=>⟨⟨_,Z.zip,rfl⟩,?_⟩⟩
 ·simp only [av,aL,or_false] at hc
  rcases hc with rfl | rfl
  ·exact ⟨_,p1⟩
  ·exact ⟨_,p2⟩
 ·refine zip_walk (cs:=[c1,c2]) I1 (by show 2≤8;decide) (by show 0<2;decide) (fun c hc=>?_) q Z
  simp only [av,aL,or_false] at hc
  rcases hc with rfl | rfl
  ·exact ⟨_,h1⟩
  ·exact ⟨_,h2⟩
theorem valsThree {x z:V}(h:gr [x,y,z] us):∃ u1 u2 u3,us=[u1,u2,u3]∧gU x u1∧gU y u2∧gU z u3:=by
 cases h with
 | cons h1 r1=>cases r1 with
  | cons h2 r2=>cases r2 with
   | cons h3 r3=>cases r3;exact ⟨_,_,_,rfl,h1,h2,h3⟩
def iZip3 (ta:TA):TI:=fun σ H R=>ta σ H fun vs H1=>∃ c1 c2 c3 xs ys zs,vs=[.ref c1.a,.ref c2.a,.ref c3.a]∧HSq H1 c1 xs∧HSq H1 c2 ys∧HSq H1 c3 zs∧R (Itq [c1,c2,c3]) H1
theorem pi_zip3 {eb ec:Expr}{ta:TA}{p:Pos}{k0}{pt:Pos}(hg:Gl X "zip")(hm:X.mg "zip" =none)(ha:PA X [ea,eb,ec] ta)(hs:bw [ea,eb,ec] X.env=[(false,dn ea X.env),(false,dn eb X.env),(false,dn ec X.env)]:=by rfl)(hs2:bw [eb,ec] X.env=[(false,dn eb X.env),(false,dn ec X.env)]:=by rfl) :
  PI X (.Tuple es k0 pt) (.Call (.Name "zip" p) [ea,eb,ec] [] pos) (iZip3 ta):=by
 intro aI s σ H R I h;refine Call_ (mm I hg hm boot_zip (c9 (thn (ha pos aI s σ H _ I h) fun us s1 ⟨vs,H1,I1,r1,q1⟩=>?_) (by rw [hs,hs2]) (by rw [hs2];rfl)));obtain ⟨c1,c2,c3,xs,ys,zs,e,h1,h2,h3,q⟩:=q1;subst e;obtain ⟨u1,u2,u3,rfl,r2,r3,r4⟩:=valsThree r1;cases (show u1=ag.ref c1.a from r2);cases (show u2=ag.ref c2.a from r3);cases (show u3=ag.ref c3.a from r4);obtain ⟨_,_,p1⟩:=h1.at I1;obtain ⟨_,_,p2⟩:=h2.at I1;obtain ⟨_,_,p3⟩:=h3.at I1;refine callType_new F.called_zip (by decide) (zip_type3 _ _ _) (zip_new3 _ _ _) (fun obj=>zip_args3 obj _ _ _) F.entry_zip_new (zipS_new [c1,c2,c3] (by show 3≤8;decide)) ⟨fun c hc=>?_,fun g Z=>⟨⟨_,Z.zip,rfl⟩,?_⟩⟩
 ·simp only [av,aL,or_false] at hc
  rcases hc with rfl | rfl | rfl
  ·exact ⟨_,p1⟩
  ·exact ⟨_,p2⟩
  ·exact ⟨_,p3⟩
 ·refine zip_walk (cs:=[c1,c2,c3]) I1 (by show 3≤8;decide) (by show 0<3;decide) (fun c hc=>?_) q Z
  simp only [av,aL,or_false] at hc
  rcases hc with rfl | rfl | rfl
  ·exact ⟨_,h1⟩
  ·exact ⟨_,h2⟩
  ·exact ⟨_,h3⟩
theorem for_zipB2 {c1 c2:Sq}{ys:List V}{D:mW}(Pv:Nat→St→Hp→Prop)(h0:Pv 0 σ H)(hl:∀ i σ H,i≤ys.length→Pv i σ H→HSq H c1 xs∧HSq H c2 ys)(hxy:ys.length≤xs.length)
  (hs:∀ i x y p σ H,xs[i]? =some x→ys[i]? =some y→Pv i σ H→H p=none→g (.ref p) σ (upd H p (.tup [x,y])) fun σ2 H2=>tb { D with nx:=Pv (i+1),ct:=Pv (i+1),bk:=D.nx } σ2 H2) (hd:∀ σ H,Pv ys.length σ H→D.nx σ H) :
  ∃ W:Nat→Nat→St→Hp→Prop,(∃ m,W 0 m σ H)∧∀ i m σ H,W i m σ H →
   ((Itq [c1,c2]).stop i H∧D.nx σ H)∨((Itq [c1,c2]).go i H∧∃ N:St→Hp→Prop,(∀ σ' H',N σ' H'→∃ m',m'<m∧W (i+1) m' σ' H')∧∀ x H',(Itq [c1,c2]).yld i H x H'→g x σ H' fun σ2 H2=>tb { D with nx:=N,ct:=N,bk:=D.nx } σ2 H2):=by
 refine ⟨fun i m σ H=>i≤ys.length∧m=ys.length - i∧Pv i σ H,⟨_,cz _,rfl,h0⟩,fun i m σ H w=>?_⟩;obtain ⟨hi,hm,hp⟩:=w;obtain ⟨qa,qb⟩:=hl i σ H hi hp
 by_cases e:i=ys.length
 ·subst e
  refine .inl ⟨?_,hd σ H hp⟩
  by_cases q:ys.length<xs.length
  ·refine ⟨1,c2,ys,rfl,qb,az _,fun n c hc hn=>?_⟩
   obtain rfl:n=0:=by lia
   cases hc;exact ⟨xs,_,qa,gE q⟩
  ·exact ⟨0,c1,xs,rfl,qa,by lia,fun n c _ hn=>pF hn (by lia)⟩
 ·have hlt2:i<ys.length:=dU hi e
  have hlt:i<xs.length:=by lia
  refine .inr ⟨⟨[xs[i],ys[i]],rfl,fun n c hc=>?_⟩,Pv (i+1),fun σ' H' hp'=>⟨ys.length - (i+1),by lia,by lia,rfl,hp'⟩,fun v H3 hy=>?_⟩
  ·match n,hc with
   | 0,hc=>cases hc;exact ⟨xs,xs[i],qa,gE hlt,rfl⟩
   | 1,hc=>cases hc;exact ⟨ys,ys[i],qb,gE hlt2,rfl⟩
   | n+2,hc=>simp at hc
  ·obtain ⟨p,vs,hn,rfl,rfl,lv,hx⟩:=hy
   match vs,lv,hx with
   | [x,y],_,hx=>exact hs i x y p σ H (hx 0 c1 x xs rfl qa rfl) (hx 1 c2 y ys rfl qb rfl) hp hn
theorem for_zipB3 {c1 c2 c3:Sq}{ys zs:List V}{D:mW}(Pv:Nat→St→Hp→Prop)(h0:Pv 0 σ H)(hl:∀ i σ H,i≤ys.length→Pv i σ H→HSq H c1 xs∧HSq H c2 ys∧HSq H c3 zs)(hxy:ys.length≤xs.length)(hyz:ys.length=zs.length)
  (hs:∀ i x y z p σ H,xs[i]? =some x→ys[i]? =some y→zs[i]? =some z→Pv i σ H→H p=none→g (.ref p) σ (upd H p (.tup [x,y,z])) fun σ2 H2=>tb { D with nx:=Pv (i+1),ct:=Pv (i+1),bk:=D.nx } σ2 H2) (hd:∀ σ H,Pv ys.length σ H→D.nx σ H) :
  ∃ W:Nat→Nat→St→Hp→Prop,(∃ m,W 0 m σ H)∧∀ i m σ H,W i m σ H →
   ((Itq [c1,c2,c3]).stop i H∧D.nx σ H)∨((Itq [c1,c2,c3]).go i H∧∃ N:St→Hp→Prop,(∀ σ' H',N σ' H'→∃ m',m'<m∧W (i+1) m' σ' H')∧∀ x H',(Itq [c1,c2,c3]).yld i H x H'→g x σ H' fun σ2 H2=>tb { D with nx:=N,ct:=N,bk:=D.nx } σ2 H2):=by
 refine ⟨fun i m σ H=>i≤ys.length∧m=ys.length - i∧Pv i σ H,⟨_,cz _,rfl,h0⟩,fun i m σ H w=>?_⟩;obtain ⟨hi,hm,hp⟩:=w;obtain ⟨qa,qb,qc⟩:=hl i σ H hi hp
 by_cases e:i=ys.length
 ·subst e
  refine .inl ⟨?_,hd σ H hp⟩
  by_cases q:ys.length<xs.length
  ·refine ⟨1,c2,ys,rfl,qb,az _,fun n c hc hn=>?_⟩
   obtain rfl:n=0:=by lia
   cases hc;exact ⟨xs,_,qa,gE q⟩
  ·exact ⟨0,c1,xs,rfl,qa,by lia,fun n c _ hn=>pF hn (by lia)⟩
 ·have hlt2:i<ys.length:=dU hi e
  have hlt:i<xs.length:=by lia
  have hlt3:i<zs.length:=by lia
  refine .inr ⟨⟨[xs[i],ys[i],zs[i]],rfl,fun n c hc=>?_⟩,Pv (i+1),fun σ' H' hp'=>⟨ys.length - (i+1),by lia,by lia,rfl,hp'⟩,fun v H3 hy=>?_⟩
  ·match n,hc with
   | 0,hc=>cases hc;exact ⟨xs,xs[i],qa,gE hlt,rfl⟩
   | 1,hc=>cases hc;exact ⟨ys,ys[i],qb,gE hlt2,rfl⟩
   | 2,hc=>cases hc;exact ⟨zs,zs[i],qc,gE hlt3,rfl⟩
   | n+3,hc=>simp at hc
  ·obtain ⟨p,vs,hn,rfl,rfl,lv,hx⟩:=hy
   match vs,lv,hx with
   | [x,y,z],_,hx=>exact hs i x y z p σ H (hx 0 c1 x xs rfl qa rfl) (hx 1 c2 y ys rfl qb rfl) (hx 2 c3 z zs rfl qc rfl) hp hn
end L2
variable {c:L2.Sq}{cs:List L2.Sq}
namespace HN
open PySem L2 PyProof.Rows HT2
abbrev sRideL:cN:=clsOf cLin 3
inductive spRideL (C:ak)(vs:List V)(H:Hp)(Q:VK)(_:XK):Prop
 | mk (x D:ak)(n z y:Str)(ss:List Str)(rs:List Int)(fi:Int)(_:vs=[.ref x,.str z,.str y])(_:LinD H C x n ss rs D fi)(_:ss.length=rs.length+1)(_:2≤ss.length)(_:ss.Nodup)(_:∀ H',b8 H H'→(∀ (i:Nat) (r:Int),ss[i]? =some z→ss[i+1]? =some y→rs[i]? =some r→Q (.int r) H')∧((∀ i:Nat,ss[i]? =some z→ss[i+1]? ≠some y)→Q .non H'))
theorem scRideL:cp ["self","stop","after","here","there","run"] pzw (defScope sRideL):=by trivial
theorem ok_rideL (F:Fun K "ride" "Line.ride" sRideL f fd)(hz:mg "zip" =none)(CC:LinC K C):c7 P w K mg base CX0 1 f fd pzw (spRideL C):=by
 refine F.ok scRideL (by contradiction) (fun cdv A outer s H vs Q E hr h=>?_);obtain ⟨x,D,n,z,y,ss,rs,fi,rfl,⟨dx,a,b,hx,ha,hb⟩,hl,two,nd,k⟩:=h;refine ⟨_,PSl.h (bq ⟨(gS bS rfl (pi_zip3 rfl hz (af (eR (pv 0) rfl) (af (eZ lL (eR (pv 0) rfl) (fD aC) gM) (af (eR (pv 0) rfl) aw)))) (pg_tup rfl (iE (pgZ 3 scRideL.nd) (iE (pgZ 4 scRideL.nd) (iE (pgZ 5 scRideL.nd) oh)))) (bB (eX (PW.pt (lJ (bK iT (pv 3) (pv 1) (cb _)) (kq (bK iT (pv 4) (pv 2) (cb _))))) (bB (bZ (pv 5))) cv)))⟩ (fu ⟨(bZ gT)⟩)),?_⟩;have hls:(ss.map V.str).length=ss.length:=ae _;have e1:HT.sIx (ss.map V.str).length 0 (some 1)=1:=by
  rw [hls];have:=HT.sIx_nat ss.length 0 1;rw [dm (by lia)] at this;exact this
 refine ⟨_,rfl,x,C,dx,_,_,rfl,hx,CC.cl,CC.n2,rfl,_,rfl,x,C,dx,_,_,rfl,hx,CC.cl,CC.n2,rfl,_,rfl,a,_,rfl,SqT.of ha,?_,fun p H1 S1 e=>?_⟩
 ·rw [e1]
  intro q;exact pF q.1 (by decide)
 rw [cutF (i:=1) (n:=1) rfl,←gb] at e;refine ⟨_,rfl,x,C,dx,_,_,rfl,S1 _ _ hx,CC.cl,CC.n3,rfl,⟨false,a⟩,⟨false,p⟩,⟨false,b⟩,_,_,_,rfl,S1 _ _ ha,e,S1 _ _ hb,?_⟩;refine for_zipB3 (c1:=⟨false,a⟩) (c2:=⟨false,p⟩) (c3:=⟨false,b⟩) (xs:=ss.map V.str) (ys:=(ss.drop 1).map V.str) (zs:=rs.map V.int) (fun i σ H2=>b8 H1 H2∧(∀ j,j<i→ss[j]? =some z→ss[j+1]? ≠some y)∧∃ v3 v4 v5,σ=[some (.ref x),some (.str z),some (.str y),v3,v4,v5])
  ⟨b8.refl _,fun j hj=>pF hj (Nat.not_lt_zero _),none,none,none,rfl⟩ (fun i σ H2 _ q=>⟨q.1 _ _ (S1 _ _ ha),q.1 _ _ e,q.1 _ _ (S1 _ _ hb)⟩) (by rw [ae,ae,bV];lia) (by rw [ae,ae,bV];lia) ?_ ?_
 ·rintro i x1 x2 x3 q σ H2 h1 h2 h3 ⟨S2,no,v3,v4,v5,rfl⟩ hq
  rw [ax] at h1 h2 h3;obtain ⟨u1,g1,rfl⟩:=aS.mp h1;obtain ⟨u2,g2,rfl⟩:=aS.mp h2;obtain ⟨r,g3,rfl⟩:=aS.mp h3;rw [dQ,Nat.add_comm] at g2;have S6:b8 H1 (upd H2 q (.tup [.str u1,.str u2,.int r])):=S2.put hq;have h6:(upd H2 q (.tup [.str u1,.str u2,.int r])) q=some (.tup [.str u1,.str u2,.int r]):=aP;generalize upd H2 q (.tup [.str u1,.str u2,.int r])=H6 at S6 h6 ⊢;have nx:¬ (u1=z∧u2=y)→∀ j,j<i+1→ss[j]? =some z→ss[j+1]? ≠some y:=fun hne j hj w1 w2=>by
   rcases iX.mp hj with hj | hj
   ·exact no j hj w1 w2
   ·subst hj
    rw [g1] at w1;rw [g2] at w2;exact hne ⟨bu w1,bu w2⟩
  refine ⟨q,_,rfl,SqT.of h6,rfl,_,_,rfl,_,_,rfl,_,_,rfl,rfl,?_⟩;refine ⟨_,rfl,_,rfl,rfl,_,rfl,jj (fun c1=>?_) (fun c1=>?_)⟩
  ·have c1:u1=z:=by have:=pI c1;injection this
   refine ⟨_,rfl,_,rfl,rfl,_,rfl,jj (fun c2=>?_) (fun c2=>?_)⟩
   ·have c2:u2=y:=by have:=pI c2;injection this
    exact ⟨_,rfl,(k H6 (S1.trans S6)).1 i r (c1 ▸ g1) (c2 ▸ g2) g3⟩
   ·exact ⟨S6,nx fun z=>c2 (pG (by rw [z.2])),_,_,_,rfl⟩
  ·exact ⟨S6,nx fun z=>c1 (pG (by rw [z.1])),_,_,_,rfl⟩
 ·rintro σ H2 ⟨S2,no,v3,v4,v5,rfl⟩
  refine (k H2 (S1.trans S2)).2 fun i h1 h2=>no i ?_ h1 h2
  have:=(ah.mp h2).1;rw [ae,bV];lia
abbrev sLabL:cN:=clsOf cLin 5
def kU (n:Str):List Str→List (List V)
 | s::t::r=>[.str n,.str s,.str "goes"]::[.str n,.str t,.str "comes"]::kU n (t::r)
 | _=>[]
inductive spLabL (C:ak)(vs:List V)(H:Hp)(Q:VK)(_:XK):Prop
 | mk (x D:ak)(n:Str)(ss:List Str)(rs:List Int)(fi:Int)(_:vs=[.ref x])(_:LinD H C x n ss rs D fi)(_:2≤ss.length)(_:ss.length≤1000)(_:∀ (L:ak) (as:List ak) (H':Hp),b8 H H'→H L=none→H' L=some (.lst (as.map V.ref))→as.map H'=(kU n ss).map (fun t=>some (HO.tup t))→Q (.ref L) H')
theorem labs_take {n:Str}:∀ {ss:List Str} {i:Nat} {s t:Str},ss[i]? =some s→ss[i+1]? =some t→kU n (ss.take (i+2))=kU n (ss.take (i+1))++[[.str n,.str s,.str "goes"],[.str n,.str t,.str "comes"]]
 | [],_,_,_,h,_=>by cases h
 | [_],0,_,_,_,h=>by cases h
 | [_],_+1,_,_,h,_=>by cases h
 | a::b::r,0,s,t,h1,h2=>by cases h1;cases h2;rfl
 | a::b::r,i+1,s,t,h1,h2=>by
  have ih:=labs_take (n:=n) (ss:=b::r) (i:=i) h1 h2;show _::_::kU n ((b::r).take (i+2))=_::_::(kU n ((b::r).take (i+1))++_);rw [ih]
theorem mj (h:as.map H=ts.map (fun t=>some (HO.tup t)))(k:∀ c o,c≠L→H c=some o→H' c=some o)(hL:H L=some (.lst xs)):as.map H'=ts.map (fun t=>some (HO.tup t)):=by
 rw [←h];refine cP fun c hc=>?_
 have hm:H c∈ts.map (fun t=>some (HO.tup t)):=by rw [←h];exact cX hc
 obtain ⟨t,_,e⟩:=aG.mp hm;rw [←e];exact k c _ (fun z=>by rw [z,hL] at e;cases e) e.symm
theorem scLabL:cp ["self","labels","here","there"] pza (defScope sLabL):=by trivial
theorem ok_labL (F:Fun K "own_labels" "Line.own_labels" sLabL f fd)(hz:mg "zip" =none)(CC:LinC K C):c7 P w K mg base CX0 1 f fd pza (spLabL C):=by
 refine F.ok scLabL (by contradiction) (fun cdv A outer s H vs Q E hr h=>?_);obtain ⟨x,D,n,ss,rs,fi,rfl,⟨dx,a,b,hx,ha,hb⟩,two,few,k⟩:=h;refine ⟨_,PSl.h (bq ⟨(psZ 1 scLabL.nd (jK aw))⟩ (bq ⟨(gS bS rfl (pi_zip2 rfl hz (af (eR (pv 0) rfl) (af (eZ lL (eR (pv 0) rfl) (fD aC) gM) aw))) (pg_tup rfl (iE (pgZ 2 scLabL.nd) (iE (pgZ 3 scLabL.nd) oh)))
  (PSl.h (bq ⟨(gD (i9 bf bE bD fj (pv 1) (af (eP (af (eR (pv 0) rfl) (af (pv 2) (af dv aw)))) aw)))⟩
   (fu ⟨(gD (i9 bf bE bD fj (pv 1) (af (eP (af (eR (pv 0) rfl) (af (pv 3) (af dv aw)))) aw)))⟩))))⟩ (fu ⟨(bZ (pv 1))⟩))),?_⟩
 have hls:(ss.map V.str).length=ss.length:=ae _;have e1:HT.sIx (ss.map V.str).length 0 (some 1)=1:=by
  rw [hls];have:=HT.sIx_nat ss.length 0 1;rw [dm (by lia)] at this;exact this
 refine ⟨(by show 0≤au;decide),fun L hLn=>?_⟩;have S0:b8 H (upd H L (.lst [])):=b8.put (b8.refl H) hLn;have hL:(upd H L (.lst [])) L=some (.lst []):=aP;generalize upd H L (.lst [])=H0 at S0 hL ⊢;have S0x:=S0 _ _ hx;refine ⟨_,rfl,x,C,dx,_,_,rfl,S0x,CC.cl,CC.n2,rfl,_,rfl,x,C,dx,_,_,rfl,S0x,CC.cl,CC.n2,rfl,_,rfl,a,_,rfl,SqT.of (S0 _ _ ha),?_,fun p H1 S1 e=>?_⟩
 ·rw [e1]
  intro q;exact pF q.1 (by decide)
 rw [cutF (i:=1) (n:=1) rfl,←gb] at e;have hL1:=S1 _ _ hL;have ha1:=S1 _ _ (S0 _ _ ha);have hx1:=S1 _ _ S0x;refine ⟨⟨false,a⟩,⟨false,p⟩,_,_,rfl,ha1,e,?_⟩;refine for_zipB2 (c1:=⟨false,a⟩) (c2:=⟨false,p⟩) (xs:=ss.map V.str) (ys:=(ss.drop 1).map V.str) (fun i σ H2=>(∀ c o,c≠L→H1 c=some o→H2 c=some o)∧(∃ as:List ak,as.length=2 * i∧H2 L=some (.lst (as.map V.ref))∧as.map H2=(kU n (ss.take (i+1))).map (fun t=>some (HO.tup t)))∧∃ v2 v3,σ=[some (.ref x),some (.ref L),v2,v3])
  ⟨fun c o _ h=>h,⟨[],rfl,hL1,by cases ss with | nil=>rfl | cons s r=>rfl⟩,none,none,rfl⟩ (fun i σ H2 _ q=>⟨q.1 _ _ (de ha1 hL1 nofun) ha1,q.1 _ _ (de e hL1 nofun) e⟩) (by rw [ae,ae,bV];lia) ?_ ?_
 ·rintro i x1 x2 q σ H2 h1 h2 ⟨k2,⟨as,la,hL2,hm⟩,v2,v3,rfl⟩ hq
  rw [ax] at h1 h2;obtain ⟨u1,g1,rfl⟩:=aS.mp h1;obtain ⟨u2,g2,rfl⟩:=aS.mp h2;rw [dQ,Nat.add_comm] at g2;have li:i+1<ss.length:=(ah.mp g2).1;have big:(100000:Nat)≤au:=by decide
  have S6:b8 H2 (upd H2 q (.tup [.str u1,.str u2])):=b8.put (b8.refl H2) hq;have h6:(upd H2 q (.tup [.str u1,.str u2])) q=some (.tup [.str u1,.str u2]):=aP;generalize upd H2 q (.tup [.str u1,.str u2])=H6 at S6 h6 ⊢;have xL:x≠L:=de hx1 hL1 nofun;have hx6:=S6 _ _ (k2 _ _ xL hx1);refine ⟨q,_,rfl,SqT.of h6,rfl,_,_,rfl,_,_,rfl,rfl,?_⟩;have hL6:=S6 _ _ hL2;refine ⟨_,rfl,.inl ⟨rfl,_,SqL.of hL6⟩,_,rfl,x,C,dx,_,_,rfl,hx6,CC.cl,CC.n1,rfl,_,rfl,(by show 3≤au;decide),fun p1 H7 S7 e7=>?_⟩;have hL7:=S7 _ _ hL6;refine ⟨L,_,_,rfl,rfl,hL7,(by rw [ae,la];lia),?_⟩;have S68:∀ c o,c≠L→H2 c=some o→(upd H7 L (.lst (as.map V.ref++[.ref p1]))) c=some o:=fun c o hc h=>by rw [aX hc];exact S7 _ _ (S6 _ _ h)
  have p1L:p1≠L:=de e7 hL7 nofun;have e8:(upd H7 L (.lst (as.map V.ref++[.ref p1]))) p1=some (.tup [.str n,.str u1,.str "goes"]):=by rw [aX p1L];exact e7
  have hL8:(upd H7 L (.lst (as.map V.ref++[.ref p1]))) L=some (.lst (as.map V.ref++[.ref p1])):=aP;generalize upd H7 L (.lst (as.map V.ref++[.ref p1]))=H8 at S68 e8 hL8 ⊢;have hm8:=mj hm S68 hL2;have hx8:=S68 _ _ xL (k2 _ _ xL hx1);refine ⟨_,rfl,.inl ⟨rfl,_,SqL.of hL8⟩,_,rfl,x,C,dx,_,_,rfl,hx8,CC.cl,CC.n1,rfl,_,rfl,(by show 3≤au;decide),fun p2 H9 S9 e9=>?_⟩;have hL9:=S9 _ _ hL8;refine ⟨L,_,_,rfl,rfl,hL9,(by rw [aj,ae,la];show 2 * i+1<au;lia),?_⟩;have p2L:p2≠L:=de e9 hL9 nofun;have k9:∀ c o,c≠L→H8 c=some o→(upd H9 L (.lst (as.map V.ref++[.ref p1]++[.ref p2]))) c=some o:=fun c o hc h=>by rw [aX hc];exact S9 _ _ h
  refine ⟨fun c o hc h=>k9 _ _ hc (S68 _ _ hc (k2 _ _ hc h)),⟨as++[p1,p2],by rw [aj,la];show 2 * i+2=_;lia,?_,?_⟩,_,_,rfl⟩
  ·rw [aP,aq,cw];rfl
  ·rw [labs_take g1 g2,aq,aq,mj hm8 k9 hL8]
   congr 1;show [_,_]=[_,_];rw [k9 _ _ p1L e8,aX p2L,e9]
 ·rintro σ H2 ⟨k2,⟨as,la,hL2,hm⟩,v2,v3,rfl⟩
  refine ⟨_,rfl,k L as H2 (fun c o h=>k2 c o ?_ (S1 _ _ (S0 _ _ h))) ?_ hL2 ?_⟩
  ·intro z;rw [z,hLn] at h;cases h
  ·exact hLn
  ·rw [hm,ae,bV,bN (by lia)]
abbrev sApart:cN:=top 32
structure LinK (P:aK)(w:br)(K:ai)(mg:Str→Option ag)(base:bX)(C:ak)(fc fg fr:ak)(dc dg dr:aZ):Prop where
 cc:LinC K C
 m1:pA K C "coming" fc
 f1:c7 P w K mg base CX0 1 fc dc pzi (spComL C)
 b1:Binds K dc pzi []
 m2:pA K C "going" fg
 f2:c7 P w K mg base CX0 1 fg dg pzi (spGoL C)
 b2:Binds K dg pzi []
 m3:pA K C "ride" fr
 f3:c7 P w K mg base CX0 1 fr dr pzw (spRideL C)
 b3:Binds K dr pzw []
structure LnOk (H:Hp)(C x:ak)(ss:List Str)(rs:List Int)(fi:Int):Prop where
 d:∃ D n,LinD H C x n ss rs D fi
 nd:ss.Nodup
 two:2≤ss.length
 few:ss.length≤1000
 rl:ss.length=rs.length+1
theorem LnOk.kept {x:ak}{rs:List Int}{fi:Int}(S:b8 H H')(h:LnOk H C x ss rs fi):LnOk H' C x ss rs fi:=by
 obtain ⟨⟨D,n,dx,a,b,h1,h2,h3⟩,q⟩:=h;exact ⟨⟨D,n,dx,a,b,S _ _ h1,S _ _ h2,S _ _ h3⟩,by assumption,by assumption,by assumption,by assumption⟩
inductive spApart (C:ak)(vs:List V)(H:Hp)(Q:VK)(_:XK):Prop
 | mk (bt d:Int)(x y p:ak)(n1 n2 z:Str)(ss tt:List Str)(rs us:List Int)(fi gi:Int)(i j:Nat)(_:vs=[.int bt,.ref x,.ref y,.ref p])(_:LnOk H C x ss rs fi)(_:LnOk H C y tt us gi)(_:H p=some (.tup [.str "apart",.str n1,.str n2,.str z,.int d]))(_:ss[i]? =some z)(_:i+1<ss.length)(_:tt[j]? =some z)(_:j+1<tt.length)(_:∀ q H',b8 H H'→H' q=some (.tup [.int (fi+2 * i),.int (gi+2 * j),.int d,.int (bt - d),.int 0])→Q (.ref q) H')
theorem scApart:cp pzk pzk (defScope sApart):=by trivial
theorem ok_apart {fc fg fr:ak}(F:Fun K "apart_span" "apart_span" sApart f fd)(CK:LinK P w K mg base C fc fg fr dc dg dr):c7 P w K mg base CX0 2 f fd pzk (spApart C):=by
 refine F.ok scApart (by contradiction) (fun cdv A outer s H vs Q E hr h=>?_);obtain ⟨bt,d,x,y,p,n1,n2,z,ss,tt,rs,us,fi,gi,i,j,rfl,hx,hy,hp,e1,e2,e3,e4,k⟩:=h;refine ⟨_,bB (bZ (eP (af (gF (pv 1) CK.cc.cl CK.m2 CK.f2 hr CK.b2 .nil hV (af (ixZ (pv 3)) aw)) (af (gF (pv 2) CK.cc.cl CK.m2 CK.f2 hr CK.b2 .nil hV (af (ixZ (pv 3)) aw)) (af (ixZ (pv 3)) (af (cD gv (pv 0) (ixZ (pv 3))) (af aC aw))))))),?_⟩;obtain ⟨⟨D,n,L⟩,nd,two,few,_⟩:=hx;obtain ⟨dx,a,b,hx1,_⟩:=id L;refine ⟨_,rfl,x,dx,_,rfl,hx1,rfl,_,rfl,p,_,_,_,rfl,rfl,SqT.of hp,aE (j:=3) rfl,x,D,n,z,ss,rs,fi,rfl,L,few,two,nd,fun H1 S1=>⟨fun i' a1 a2=>?_,fun no=>pF (no i e1) (by lia)⟩⟩;obtain rfl:i'=i:=by
  rcases gx i' i with q | q | q
  ·exact pF a1 (ke nd e1 _ q)
  ·exact q
  ·exact pF e1 (ke nd a1 _ q)
 obtain ⟨⟨D2,n2',L2'⟩,nd2,two2,few2,_⟩:=hy.kept S1;obtain ⟨dy,a3,b3,hy1,_⟩:=id L2';refine ⟨_,rfl,y,dy,_,rfl,hy1,rfl,_,rfl,p,_,_,_,rfl,rfl,SqT.of (S1 _ _ hp),aE (j:=3) rfl,y,D2,n2',z,tt,us,gi,rfl,L2',few2,two2,nd2,fun H2 S2=>⟨fun j' a1' a2'=>?_,fun no=>pF (no j e3) (by lia)⟩⟩;obtain rfl:j'=j:=by
  rcases gx j' j with q | q | q
  ·exact pF a1' (ke nd2 e3 _ q)
  ·exact q
  ·exact pF e3 (ke nd2 a1' _ q)
 have hp2:=S2 _ _ (S1 _ _ hp);refine ⟨_,rfl,p,_,_,_,rfl,rfl,SqT.of hp2,aE (j:=4) rfl,_,rfl,_,rfl,p,_,_,_,rfl,rfl,SqT.of hp2,aE (j:=4) rfl,_,_,rfl,rfl,szZ5,fun q H3 S3 e=>?_⟩;exact k q H3 (S1.trans (S2.trans S3)) e
abbrev sMeet:cN:=top 33
inductive spMeet (C:ak)(vs:List V)(H:Hp)(Q:VK)(_:XK):Prop
 | mk (bt d r u:Int)(x y p:ak)(n1 n2 z z2:Str)(ss tt:List Str)(rs us:List Int)(fi gi:Int)(i j:Nat)(_:vs=[.int bt,.ref x,.ref y,.ref p])(_:LnOk H C x ss rs fi)(_:LnOk H C y tt us gi)(_:H p=some (.tup [.str "meet",.str n1,.str n2,.str z,.str z2,.int d]))(_:ss[i]? =some z)(_:ss[i+1]? =some z2)(_:rs[i]? =some r)(_:tt[j]? =some z2)(_:tt[j+1]? =some z)(_:us[j]? =some u)(_:∀ q H',b8 H H'→H' q=some (.tup [.int (fi+2 * i),.int (gi+2 * j),.int (r+d),.int (bt - u - d),.int 0])→Q (.ref q) H')
theorem iU (nd:ss.Nodup)(e:ss[i]? =some z)(a:ss[j]? =some z):j=i:=by
 rcases gx j i with q | q | q
 ·exact pF a (ke nd e _ q)
 ·exact q
 ·exact pF e (ke nd a _ q)
theorem scMeet:cp ["beat","one","other","row","ride","back"] pzk (defScope sMeet):=by trivial
theorem ok_meet {fc fg fr:ak}(F:Fun K "meet_span" "meet_span" sMeet f fd)(CK:LinK P w K mg base C fc fg fr dc dg dr):c7 P w K mg base CX0 2 f fd pzk (spMeet C):=by
 refine F.ok scMeet (by contradiction) (fun cdv A outer s H vs Q E hr h=>?_);obtain ⟨bt,d,r,u,x,y,p,n1,n2,z,z2,ss,tt,rs,us,fi,gi,i,j,rfl,hx,hy,hp,e1,e2,e3,e4,e5,e6,k⟩:=h;refine ⟨_,PSl.h (bq ⟨(psZ 4 scMeet.nd (gF (pv 1) CK.cc.cl CK.m3 CK.f3 hr CK.b3 .nil hV (af (ixZ (pv 3)) (af (ixZ (pv 3)) aw))))⟩
  (bq ⟨(psZ 5 scMeet.nd (gF (pv 2) CK.cc.cl CK.m3 CK.f3 hr CK.b3 .nil hV (af (ixZ (pv 3)) (af (ixZ (pv 3)) aw))))⟩
  (bq ⟨(eX (PW.pt (j6 (bK om (pv 4) gT (cb _)) (je (bK om (pv 5) gT (cb _))))) (bB (bZ gT)) cv)⟩
  (fu ⟨(bZ (eP (af (gF (pv 1) CK.cc.cl CK.m2 CK.f2 hr CK.b2 .nil hV (af (ixZ (pv 3)) aw)) (af (gF (pv 2) CK.cc.cl CK.m2 CK.f2 hr CK.b2 .nil hV (af (ixZ (pv 3)) aw)) (af (cD ff (pv 4) (ixZ (pv 3))) (af (cD gv (cD gv (pv 0) (pv 5)) (ixZ (pv 3))) (af aC aw)))))))⟩)))),?_⟩
 obtain ⟨⟨D,n,L⟩,nd,two,few,rl⟩:=id hx;obtain ⟨dx,a,b,hx1,_⟩:=id L;refine ⟨_,rfl,x,dx,_,rfl,hx1,rfl,_,rfl,p,_,_,_,rfl,rfl,SqT.of hp,aE (j:=3) rfl,_,rfl,p,_,_,_,rfl,rfl,SqT.of hp,aE (j:=4) rfl,x,D,n,z,z2,ss,rs,fi,rfl,L,rl,two,nd,fun H1 S1=>⟨fun i' r' a1 a2 a3=>?_,fun no=>pF e2 (no i e1)⟩⟩;obtain rfl:=iU nd e1 a1;obtain rfl:r'=r:=bu (a3.symm.trans e3);obtain ⟨⟨D2,n2',L2'⟩,nd2,two2,few2,rl2⟩:=hy.kept S1;obtain ⟨dy,a4,b4,hy1,_⟩:=id L2';have hp1:=S1 _ _ hp;refine ⟨_,rfl,y,dy,_,rfl,hy1,rfl,_,rfl,p,_,_,_,rfl,rfl,SqT.of hp1,aE (j:=4) rfl,_,rfl,p,_,_,_,rfl,rfl,SqT.of hp1,aE (j:=3) rfl,y,D2,n2',z2,z,tt,us,gi,rfl,L2',rl2,two2,nd2,fun H2 S2=>⟨fun j' u' b1 b2 b3=>?_,fun no=>pF e5 (no j e4)⟩⟩;obtain rfl:=iU nd2 e4 b1;obtain rfl:u'=u:=bu (b3.symm.trans e6);have hp2:=S2 _ _ hp1;refine ⟨_,rfl,rfl,_,rfl,iL (pH nofun) ⟨_,rfl,rfl,_,rfl,iL (pH nofun) ?_⟩⟩;obtain ⟨⟨D3,n3,L3⟩,_,_,_,_⟩:=hx.kept (S1.trans S2);obtain ⟨dx3,a5,b5,hx3,_⟩:=id L3;have l1:=(ah.mp e2).1;have l2:=(ah.mp e5).1;refine ⟨_,rfl,x,dx3,_,rfl,hx3,rfl,_,rfl,p,_,_,_,rfl,rfl,SqT.of hp2,aE (j:=3) rfl,x,D3,n3,z,ss,rs,fi,rfl,L3,few,two,nd,fun H3 S3=>⟨fun i2 c1 c2=>?_,fun no=>pF (no _ e1) (by lia)⟩⟩;obtain rfl:=iU nd e1 c1;obtain ⟨⟨D4,n4,L4⟩,_,_,_,_⟩:=hy.kept (S1.trans (S2.trans S3));obtain ⟨dy4,a6,b6,hy4,_⟩:=id L4;have hp3:=S3 _ _ hp2;refine ⟨_,rfl,y,dy4,_,rfl,hy4,rfl,_,rfl,p,_,_,_,rfl,rfl,SqT.of hp3,aE (j:=4) rfl,y,D4,n4,z2,tt,us,gi,rfl,L4,few2,two2,nd2,fun H4 S4=>⟨fun j2 d1 d2=>?_,fun no=>pF (no _ e4) (by lia)⟩⟩;obtain rfl:=iU nd2 e4 d1;have hp4:=S4 _ _ hp3;refine ⟨_,rfl,_,rfl,p,_,_,_,rfl,rfl,SqT.of hp4,aE (j:=5) rfl,_,_,rfl,rfl,_,rfl,_,rfl,_,_,rfl,rfl,_,rfl,p,_,_,_,rfl,rfl,SqT.of hp4,aE (j:=5) rfl,_,_,rfl,rfl,szZ5,fun q H5 S5 e=>?_⟩;exact k q H5 (S1.trans (S2.trans (S3.trans (S4.trans S5)))) e
end HN
namespace HN
open PySem L2 PyProof.Rows
structure Sn where
 s:Int
 g:Int
 l:Int
 o:Int
 w:Int
abbrev Sn.row (x:Sn):List Int:=[x.s,x.g,x.l,x.o,x.w]
abbrev netP (b m:Int)(sp:List Sn):Dt:= .tup [.int b,.int m,.tup (sp.map fun x=> .tup (x.row.map Dt.int))]
theorem netP_of {m:Int}{sp:List Sn}(h:IsD H v (netP b m sp)):∃ t p ys,v= .ref t∧H t=some (.tup [.int b,.int m,.ref p])∧H p=some (.tup ys)∧ys.length=sp.length∧∀ (i:Nat) (x:Sn),sp[i]? =some x→∃ q,ys[i]? =some (.ref q)∧H q=some (.tup [.int x.s,.int x.g,.int x.l,.int x.o,.int x.w]):=by
 obtain ⟨t,xs,rfl,ht,rx⟩:=h.tup_of;cases rx with
 | cons h0 r0 =>
  cases r0 with
  | cons h1 r1 =>
   cases r1 with
   | cons h2 r2 =>
    cases r2;cases h0;cases h1;obtain ⟨p,ys,rfl,hp,ry⟩:=h2.tup_of;refine ⟨t,p,ys,rfl,ht,hp,by rw [ry.length,ae],fun i x hx=>?_⟩;obtain ⟨y,hy,dy⟩:=ry.at (i:=i) (d:= .tup (x.row.map Dt.int)) (by rw [ax,hx];rfl);obtain ⟨q,zs,rfl,hq,rz⟩:=dy.tup_of;have ez:=rz.ints_of;subst ez;exact ⟨q,hy,hq⟩
theorem small_le (h:n≤1000):n≤au:=cn h (by decide)
structure Nt (mg:Str→Option ag):Prop where
 range:mg "range" =none
 enum:mg "enumerate" =none
 zip:mg "zip" =none
 sum:mg "sum" =none
 tlist:mg "list" =none
 max:mg "max" =none
end HN
variable {bt:List HN.Sn}{sn:HN.Sn}
namespace HN
open PySem L2 PyProof.Rows HT2
structure Ln where
 n:Str
 ss:List Str
 rs:List Int
 st:List (Str×Int×Int×Int)
 fi:Int
def sty (st:List (Str×Int×Int×Int))(z:Str):Int×Int×Int:=((st.find? fun p=>decide (p.1=z)).map (·.2)).getD (0,0,0)
def stp (l:Ln)(i:Nat):List Sn:=⟨l.fi+2 * i,l.fi+2 * i+1,l.rs.getD i 0,l.rs.getD i 0,0⟩ ::
 (if i+2<l.ss.length then [⟨l.fi+2 * i+1,l.fi+2 * i+2,(sty l.st (l.ss.getD (i+1) ef)).1,(sty l.st (l.ss.getD (i+1) ef)).2.1,(sty l.st (l.ss.getD (i+1) ef)).2.2⟩] else [])
def ownN (l:Ln)(k:Nat):List Sn:=(cq k).flatMap (stp l)
abbrev lX (l:Ln):List Sn:=ownN l l.rs.length
theorem iS (l:Ln)(k:Nat):ownN l (k+1)=ownN l k++stp l k:=by
 unfold ownN;rw [List.range_succ,j9];simp
theorem stp_len (l:Ln)(i:Nat):(stp l i).length≤2:=by
 unfold stp;split <;> simp
theorem nG (l:Ln):∀ k,(ownN l k).length≤2 * k
 | 0=>by simp [ownN]
 | k+1=>by
  have:=nG l k;have:=stp_len l k;rw [iS,aj];lia
abbrev snD (x:Sn):Dt:= .tup (x.row.map Dt.int)
structure StA (H:Hp)(D:ak)(st:List (Str×Int×Int×Int)):Prop where
 ex:∃ kvs:List (Key×V),H D=some (.dK kvs)∧kvs.length=st.length∧∀ z,(∀ v,kC kvs (.inr z)=some v→∃ a,v= .ref a∧H a=some (.tup [.int (sty st z).1,.int (sty st z).2.1,.int (sty st z).2.2]))∧(kC kvs (.inr z)=none→sty st z=(0,0,0)∧z ∉ st.map (·.1))∧((kC kvs (.inr z)).isSome=true→z∈st.map (·.1))
structure LnA (H:Hp)(C x D:ak)(l:Ln):Prop where
 d:LinD H C x l.n l.ss l.rs D l.fi
 s:StA H D l.st
 nd:l.ss.Nodup
 two:2≤l.ss.length
 few:l.ss.length≤1000
 rl:l.ss.length=l.rs.length+1
theorem StA.kept {st:List (Str×Int×Int×Int)}(k:∀ b xs,H b=some (.tup xs)→H' b=some (.tup xs))(e:H' D=H D)(h:StA H D st):StA H' D st:=by
 obtain ⟨kvs,h1,h2,h3⟩:=h.ex;refine ⟨kvs,e.trans h1,h2,fun z=>⟨fun v hv=>?_,(h3 z).2⟩⟩;obtain ⟨a,e1,e2⟩:=(h3 z).1 v hv;exact ⟨a,e1,k _ _ e2⟩
theorem LnA.kept {x:ak}{l:Ln}(k:∀ b xs,H b=some (.tup xs)→H' b=some (.tup xs))(k2:∀ b C dx fs,H b=some (.ins C dx fs)→H' b=some (.ins C dx fs))(e:H' D=H D)(h:LnA H C x D l):LnA H' C x D l:=by
 obtain ⟨dx,a,b,h1,h2,h3⟩:=h.d;exact ⟨⟨dx,a,b,k2 _ _ _ _ h1,k _ _ h2,k _ _ h3⟩,h.s.kept k e,h.nd,h.two,h.few,h.rl⟩
theorem LnA.same {x:ak}{l:Ln}(S:b8 H H')(h:LnA H C x D l):LnA H' C x D l:=by
 obtain ⟨kvs,h1,_⟩:=h.s.ex;exact h.kept (fun b xs e=>S _ _ e) (fun b C dx fs e=>S _ _ e) ((S _ _ h1).trans h1.symm)
structure Unt (K:ai)(mg:Str→Option ag):Prop where
 ex:∃ t,mg "STAY_UNTOLD" =some (.ref t)∧∀ H,SqT K H t [.int 0,.int 0,.int 0]
inductive spOwn (C:ak)(vs:List V)(H:Hp)(Q:VK)(_:XK):Prop
 | mk (x D:ak)(l:Ln)(_:vs=[.ref x])(_:LnA H C x D l)(_:∀ (L:ak) (ys:List V) (H':Hp),b8 H H'→H L=none→H' L=some (.lst ys)→gP H' ys ((lX l).map snD)→Q (.ref L) H')
end HN
variable {l:HN.Ln}{ls:List HN.Ln}
namespace HN
open PySem L2 PyProof.Rows
theorem atI_last {xs:List α}{x:α}(h:xs[xs.length - 1]? =some x):atI xs (-1)=some x:=by
 have hl:xs.length - 1<xs.length:=(ah.mp h).1;unfold atI ixN;rw [pB (by decide),pE (by lia)];show xs[(-1+(xs.length:Int)).toNat]? =some x;rw [show (-1+(xs.length:Int)).toNat=xs.length - 1 by lia];exact h
end HN
namespace L2
open PySem PySem.Spec PyProof.Rows
def isVV (r d:ak):HO:= .ext fun h=>h.IsValuesView r d
structure M0 (X:Cx)(o:Expr)(m:Str)(apos:Pos)(cpos:Pos):Prop where
 base:iu o m X.env (dn o X.env)=dn o X.env
 few:((gk cpos (bw [] X.env)).all (fun x=> !x.1) && (backToKw cpos (ku [] X.env)).all (fun x=>x.1.isSome)
  && decide (([]:List Expr).length+([]:List Keyword).length+(if ([]:List Keyword).isEmpty then 0 else 1)<30))=true
 line:(apos.endLine == cpos.line)=true
 trees:gk cpos (bw [] X.env)=[]
theorem Paired.getR {α β:Type}{F:α→β→Prop}:∀ {l:List α} {k:List β},Paired F l k→∀ {i:Nat} {x:α},l[i]? =some x→∃ y,k[i]? =some y∧F x y
 | _,_,.nil,_,_,h=>by cases h
 | _,_,.cons r t,0,x,h=>by cases h;exact ⟨_,rfl,r⟩
 | _,_,.cons r t,i+1,x,h=>Paired.getR t (i:=i) h
section
variable {a b:HO}
theorem Inv.retold (I:Inv X aI σ H s)(hd:H d=some a)(n1:∀ xs,a≠ .tup xs)(n2:∀ c,a≠ .own c)(m1:∀ xs,X.H₀ d≠some (.tup xs))(m2:∀ o u,X.H₀ d≠some (.frz o u))(m3:∀ ps,X.H₀ d≠some (.tbl ps))
  (new:hW X.prog X.w (upd H d b) s.heap d b):Inv X aI σ (upd H d b) s:=by
 have nn:∀ {c:ak},H c=none→(upd H d b) c=none:=fun {c} h=>by
  rw [aX (aV hd h).symm];exact h
 refine ⟨I.ok,I.os,I.bare,⟨I.base.keep,I.base.slot,fun c o e n hx=>nn (I.base.free c o e n hx),I.base.there,fun c xs e=>?_,fun c o u e=>?_,fun c ps e=>?_⟩,I.loc,I.cell,nn I.free,fun x c e=>nn (I.freeC x c e),fun p hp=>?_,fun c o e=>?_,I.len⟩
 ·by_cases z:c=d
  ·subst z;exact pF e (m1 xs)
  ·rw [aX z];exact I.base.tups c xs e
 ·by_cases z:c=d
  ·subst z;exact pF e (m2 o u)
  ·rw [aX z];exact I.base.frzs c o u e
 ·by_cases z:c=d
  ·subst z;exact pF e (m3 ps)
  ·rw [aX z];exact I.base.tbls c ps e
 ·obtain ⟨h1,h2,h3⟩:=I.pin p hp
  exact ⟨h1,nn h2,h3⟩
 ·by_cases z:c=d
  ·subst z
   rw [aP] at e;cases e;exact new
  ·rw [aX z] at e
   refine (I.hok c o e).stay (fun _ _ _ e=>e) (fun b' e'=>?_) fun b' xs e'=>?_
   ·rw [aX fun z=>by subst z;rw [hd] at e';cases e';exact n2 _ rfl];exact e'
   ·rw [aX fun z=>by subst z;rw [hd] at e';cases e';exact n1 _ rfl];exact e'
theorem dk_put {kvs:List (Key×V)}(x:hW P w H h d (.dK kvs)):hW P w H' h d (.dK kvs):=x
end
def Itd (d:ak)(o:Obj)(kvs:List (Key×V)):It :=
 ⟨fun i H=>H d=some (.frz o (.dK kvs))∧i<kvs.length,fun i H x H'=>H'=H∧∃ k,kvs[i]? =some (k,x),fun i H=>H d=some (.frz o (.dK kvs))∧i=kvs.length⟩
theorem turn_vals (d it:ak)(o:Obj)(kvs:List (Key×V))(vs:List (Key×ag))(ep:Nat)(rel:KV kvs vs)(dd:∀ h:bX,h.get? d=some o→h.DictAt (fQ P w) d vs ep) :
  Turn P w K tg (Itd d o kvs) [it] it (fun i h=>h.IsValIter it d i vs.length ep) where
 mem:=by simp
 obj:=fun i h st b hb=>by
  have e:b=it:=by simpa using hb
  subst e;obtain ⟨o,e,c,d⟩:=st;exact ⟨o,e,fun v z=>by rw [d] at z;cases z⟩
 keep:=fun i h h' st k=>by
  obtain ⟨o,e,r⟩:=st;exact ⟨o,k it (by simp) o e,r⟩
 item:=by
  intro X hP hw hK hc i aI s σ H E I hf st hg;subst hP hw hK;obtain ⟨hd,hi⟩:=hg;obtain ⟨hg,_⟩:=(show hW X.prog X.w H s.heap d (.frz o (.dK kvs)) from I.hok d _ hd);obtain ⟨⟨k,v⟩,hx,rk⟩:=Paired.getR rel (gE hi);obtain ⟨f0,f1,f2,f3,f4,f5⟩:=hf it (by simp);refine wpAny_pyNext_values_item st (dd _ hg) hx fun h' st' sb=>?_
  have I1:Inv X aI σ H { s with heap:=h' }:=I.turned (t':=s.toks) (fun b o hb e=>(sb.2 b hb).trans e) f0 f1 f3 f4 f5;obtain ⟨oi,e2,c,dt⟩:=id st';exact ⟨v,rfl,go_of (s:={ s with heap:=h' }) e2 c dt (by decide) ⟨kvs[i].2,H,I1,rk.2,⟨rfl,kvs[i].1,gE hi⟩,st',fun b hb=>(hf b hb).1⟩⟩
 done:=by
  intro X hP hw hK hc i aI s σ H E I hf st hg;subst hP hw hK;obtain ⟨hd,hi⟩:=hg;obtain ⟨hg,_⟩:=(show hW X.prog X.w H s.heap d (.frz o (.dK kvs)) from I.hok d _ hd);obtain ⟨f0,f1,f2,f3,f4,f5⟩:=hf it (by simp);have hl:kvs.length=vs.length:=Paired.length rel;exact wpAny_pyNext_values_end (I.ok.hd hc) st (dd _ hg) (gp (by lia)) fun h' eb=>⟨rfl,I.turned (t':=s.toks) (fun b o hb e=>eb b o hb e) f0 f1 f3 f4 f5⟩
 self:=fun A i s Q E st h=>wpAny_pyIter_valiter st h
def iVals (td:TE):TI:=fun σ H R=>td σ H fun x H1=>∃ d kvs,x= .ref d∧H1 d=some (.dK kvs)∧∀ p ob,H1 p=none→R (Itd d ob kvs) (upd (upd H1 p (isVV p d)) d (.frz ob (.dK kvs)))
def Thw (H H':Hp)(Q:Hp→Prop):Prop:=∃ d o kvs,H d=some (.dK kvs)∧H' d=some (.frz o (.dK kvs))∧Q (upd H' d (.dK kvs))
def tThawE (te:TE):TE:=fun σ H Q=>te σ H fun v H'=>Thw H H' (Q v)
def tThawS (t:TS):TS:=fun D σ H=>t { D with nx:=fun σ' H'=>Thw H H' (D.nx σ') } σ H
section
variable {σ':St}
theorem Inv.not0 (I:Inv X aI σ H s){kvs:List (Key×V)}(e:H d=some (.dK kvs)):(∀ xs,X.H₀ d≠some (.tup xs))∧(∀ o u,X.H₀ d≠some (.frz o u))∧∀ ps,X.H₀ d≠some (.tbl ps) :=
 ⟨(fun xs z=>by have:=I.base.tups d xs z;rw [e] at this;cases this),(fun o u z=>by have:=I.base.frzs d o u z;rw [e] at this;cases this),fun ps z=>by obtain ⟨m,this⟩:=I.base.tbls d ps z;rw [e] at this;cases this⟩
theorem Thw.go {Q:Hp→Prop}(I:Inv X aI σ H s)(I':Inv X aI σ' H' s')(h:Thw H H' Q):∃ H2,Inv X aI σ' H2 s'∧Q H2:=by
 obtain ⟨d,o,kvs,e1,e2,q⟩:=h;obtain ⟨n1,n2,n3⟩:=I.not0 e1;obtain ⟨_,x⟩:=(show hW X.prog X.w H' s'.heap d (.frz o (.dK kvs)) from I'.hok d _ e2);exact ⟨_,I'.retold e2 (fun _ z=>by cases z) (fun _ z=>by cases z) n1 n2 n3 (dk_put x),q⟩
theorem pe_thaw (h:PE X e te):PE X e (tThawE te):=fun aI s σ H Q I hw =>
 thn (h aI s σ H _ I hw) fun u s' z=>by
  obtain ⟨v,H',I',r,q⟩:=z;obtain ⟨H2,I2,q2⟩:=q.go I I';exact ⟨v,H2,I2,r,q2⟩
theorem ps_thaw {t:TS}(h:PS X st t):PS X st (tThawS t):=fun aI s σ H D I hw =>
 thn (h aI s σ H _ I hw) fun f s' z=>by
  cases f with
  | next =>
   obtain ⟨σ',H',I',q⟩:=z;obtain ⟨H2,I2,q2⟩:=q.go I I';exact ⟨σ',H2,I2,q2⟩
  | brk=>exact z
  | cont=>exact z
  | ret u=>exact z
theorem pi_vals {o:Expr}{td:TE}(ho:PE X o td)(m:M0 X o "values" apos cpos):PI X tg (.Call (.Attribute o "values" apos) [] [] cpos) (iVals td):=by
 intro aI s σ H R I h;refine wpAny_Call_method m.base m.few m.line kM PySem.F.slot_dict_values PySem.F.type_dict_values (thn (ho aI s σ H _ I h) fun u s1 z=>?_);obtain ⟨x,H1,I1,rx,d,kvs,ex,ea,q1⟩:=z;subst ex;obtain rfl:u=ag.ref d:=rx;obtain ⟨t1,t2,_⟩:=isDct_at I1 (.inl ⟨kvs,.inl ea⟩);refine ⟨t1,t2,?_⟩;rw [m.trees];obtain ⟨zz,hd,vs,rel,dd⟩:=dk_of I1.hok ea;refine gQ rfl (PySem.evalArgs_none ?_);refine call_meetsIn PySem.F.slot_dict_values dd.typeIs PySem.F.entry_dict_values (PySem.F.args_dict_values_1 _) (meets_dict_values (fQ X.prog X.w) d hd) ⟨⟨vs,dd⟩,?_⟩;have hg:(s1.heap.push { cls:= .type "dict_values",data:= .fields #[.ref d] }).get? s1.heap.objs.size=some { cls:= .type "dict_values",data:= .fields #[.ref d] }:=aJ _ rfl;have hv:(s1.heap.push { cls:= .type "dict_values",data:= .fields #[.ref d] }).IsValuesView s1.heap.objs.size d:=⟨_,hg,rfl,rfl⟩;have hp:=I1.fresh;have hq:=q1 s1.heap.objs.size;have I2:Inv X aI σ (upd H1 s1.heap.objs.size (isVV s1.heap.objs.size d)) { s1 with heap:=s1.heap.push { cls:= .type "dict_values",data:= .fields #[.ref d] } }:=I1.laid (t':=s1.toks) (o:=isVV s1.heap.objs.size d) (fun _ _ z=>ao _ z) (az _) ⟨hv,⟨_,hg⟩,fun h1 h2 ⟨o,e,r⟩ k=>⟨o,k o e,r⟩⟩;generalize s1.heap.objs.size=p at hv hp hq I2 ⊢;generalize s1.heap.push { cls:= .type "dict_values",data:= .fields #[.ref d] }=h2 at hv I2 ⊢;have ea2:(upd H1 p (isVV p d)) d=some (.dK kvs):=by rw [aX (aV ea hp)];exact ea
 generalize upd H1 p (isVV p d)=H2 at I2 ea2 hq;obtain ⟨n1,n2,n3⟩:=I2.not0 ea2;obtain ⟨zz2,hd2,vs2,rel2,dd2⟩:=dk_of I2.hok ea2;obtain ⟨ep,hat⟩:=dd2.dictAt;refine wpAny_pyIter_values (s:={ s1 with heap:=h2 }) hv hat ?_;have hok2:=I2.hok d _ ea2;obtain ⟨ob,hob⟩:∃ ob,h2.get? d=some ob:=let ⟨o,es,ho,_⟩:=hat;⟨o,ho⟩;have I3:=I2.retold (b:= .frz ob (.dK kvs)) ea2 (fun _ z=>by cases z) (fun _ z=>by cases z) n1 n2 n3 ⟨hob,dk_put hok2⟩;refine ⟨h2.objs.size,[h2.objs.size],_,Itd d ob kvs,_,rfl,I3.kept (t':=s1.toks) fun c o e=>ao _ e,turn_vals d h2.objs.size ob kvs vs2 ep rel2 fun h hh=>?_,⟨_,aJ _ rfl,rfl,rfl⟩,fun b hb=>?_,hq ob hp⟩
 ·obtain ⟨o,es,ho,r⟩:=hat
  rw [hob] at ho;cases ho;exact ⟨ob,es,hh,r⟩
 ·have e:b=h2.objs.size:=by simpa using hb
  subst e;exact I3.fpOk (az _) (I3.hok.fresh (az _))
end
theorem for_vals {o:Obj}{kvs:List (Key×V)}{D:mW}(Pv:Nat→St→Hp→Prop)(h0:Pv 0 σ H)(hl:∀ i σ H,i≤kvs.length→Pv i σ H→H d=some (.frz o (.dK kvs)))
  (hs:∀ i k x σ H,kvs[i]? =some (k,x)→Pv i σ H→g x σ H fun σ2 H2=>tb { D with nx:=Pv (i+1),ct:=Pv (i+1),bk:=D.nx } σ2 H2) (hd:∀ σ H,Pv kvs.length σ H→D.nx σ H) :
  ∃ W:Nat→Nat→St→Hp→Prop,(∃ m,W 0 m σ H)∧∀ i m σ H,W i m σ H →
   ((Itd d o kvs).stop i H∧D.nx σ H)∨((Itd d o kvs).go i H∧∃ N:St→Hp→Prop,(∀ σ' H',N σ' H'→∃ m',m'<m∧W (i+1) m' σ' H')∧∀ x H',(Itd d o kvs).yld i H x H'→g x σ H' fun σ2 H2=>tb { D with nx:=N,ct:=N,bk:=D.nx } σ2 H2):=by
 refine ⟨fun i m σ H=>m=kvs.length - i∧i≤kvs.length∧Pv i σ H,⟨kvs.length,by simp,cz _,h0⟩,?_⟩;rintro i m σ H ⟨rfl,hi,p⟩;have q:=hl i σ H hi p
 by_cases e:i=kvs.length
 ·subst e
  exact .inl ⟨⟨q,rfl⟩,hd σ H p⟩
 ·have hlt:i<kvs.length:=dU hi e
  refine .inr ⟨⟨q,hlt⟩,Pv (i+1),fun σ' H' p'=>⟨kvs.length - (i+1),by lia,rfl,by lia,p'⟩,fun x H' hy=>?_⟩;obtain ⟨rfl,k,hx⟩:=hy;exact hs i k x σ _ hx p
theorem comp_vals {o:Obj}{kvs:List (Key×V)}{Q:VK}(Pv:Nat→List V→Hp→Prop)(h0:Pv 0 [] H)(hl:∀ i ys H,i≤kvs.length→Pv i ys H→H d=some (.frz o (.dK kvs))∧ys.length≤i)(hz:kvs.length≤au)
  (hs:∀ i k x ys H,kvs[i]? =some (k,x)→Pv i ys H→tt (some x::fF σ js) H fun b H4=>if b=true then te (some x::fF σ js) H4 fun y H5=>Pv (i+1) (ys++[y]) H5 else Pv (i+1) ys H4)
  (hd:∀ ys H,Pv kvs.length ys H→∀ D,H D=none→Q (.ref D) (upd H D (.lst ys))):CompW js tt te σ Q (Itd d o kvs) H:=by
 refine ⟨fun i m ys H=>i≤kvs.length∧m=kvs.length - i∧Pv i ys H,⟨_,cz _,rfl,h0⟩,fun i m ys H2 z=>?_⟩;obtain ⟨hi,hm,hp⟩:=z;obtain ⟨hq,hy⟩:=hl i ys H2 hi hp
 by_cases e:i=kvs.length
 ·subst e
  exact .inl ⟨⟨hq,rfl⟩,hd ys H2 hp⟩
 ·have hlt:i<kvs.length:=dU hi e
  refine .inr ⟨⟨hq,hlt⟩,by lia,Pv (i+1),fun ys' H' hp'=>⟨kvs.length - (i+1),by lia,by lia,rfl,hp'⟩,fun v H3 hy3=>?_⟩;obtain ⟨e3,k,hx⟩:=hy3;subst e3;exact hs i k v ys _ hx hp
end L2
namespace HN
open PySem L2 PyProof.Rows HT2
abbrev sOwnL:cN:=clsOf cLin 4
theorem kG {H H':Hp}{L:ak}{xs:List V}:∀ {vs:List V} {sp:List Sn},gP H vs (sp.map snD)→(∀ c o,c≠L→H c=some o→H' c=some o)→H L=some (.lst xs)→gP H' vs (sp.map snD)
 | _,[],.nil,_,_=> .nil
 | _,x::sp,.cons h r,k,hL=>by
  obtain ⟨a,zs,rfl,ha,rz⟩:=h.tup_of;have ez:=gP.ints_of rz;subst ez;exact .cons (.tup (k _ _ (de ha hL nofun) ha) (gP.ints _)) (kG r k hL)
theorem snD_at {x:Sn}(h:H p=some (.tup [.int x.s,.int x.g,.int x.l,.int x.o,.int x.w])):IsD H (.ref p) (snD x):= .tup h (gP.ints x.row)
theorem scOwnL:cp ["self","spans","here","there","run"] pza (defScope sOwnL):=by trivial
theorem ok_ownL {fc fg fr:ak}(F:Fun K "own_spans" "Line.own_spans" sOwnL f fd)(hz:mg "zip" =none)(U:Unt K mg)(CK:LinK P w K mg base C fc fg fr dc dg dr):c7 P w K mg base CX0 2 f fd pza (spOwn C):=by
 refine F.ok scOwnL (by contradiction) (fun cdv A outer s H vs Q E hr h=>?_);obtain ⟨x,D,l,rfl,A0,k⟩:=h;obtain ⟨tu,hU,uU⟩:=U.ex;have CC:=CK.cc;have u1:=gZ (iP (show 1≤64 by decide) _) hr.units;refine ⟨_,PSl.h (bq ⟨(psZ 1 scOwnL.nd (jK aw))⟩ (bq ⟨(gS bS rfl (pi_zip3 rfl hz (af (eR (pv 0) rfl) (af (eZ lL (eR (pv 0) rfl) (fD aC) gM) (af (eR (pv 0) rfl) aw)))) (pg_tup rfl (iE (pgZ 2 scOwnL.nd) (iE (pgZ 3 scOwnL.nd) (iE (pgZ 4 scOwnL.nd) oh))))
  (PSl.h (bq ⟨(gD (i9 bf bE bD fj (pv 1) (af (eP (af (gF (pv 0) CK.cc.cl CK.m2 CK.f2 (hr.mono (by decide)) CK.b2 .nil hV (af (pv 2) aw)) (af (gF (pv 0) CK.cc.cl CK.m1 CK.f1 (hr.mono (by decide)) CK.b1 .nil hV (af (pv 3) aw)) (af (pv 4) (af (pv 4) (af aC aw)))))) aw)))⟩
   (fu ⟨(eX (bK nk (pv 3) (cH ix_tup (eR (pv 0) rfl) (pe_un un_neg aC) (fun _ _=>rfl)) (cb _)) (bB (gD (i9 bf bE bD fj (pv 1) (af (cD op_catT (eP (af (gF (pv 0) CK.cc.cl CK.m1 CK.f1 (hr.mono (by decide)) CK.b1 .nil hV (af (pv 3) aw)) (af (gF (pv 0) CK.cc.cl CK.m2 CK.f2 (hr.mono (by decide)) CK.b2 .nil hV (af (pv 3) aw)) aw))) (pe_dget2 u1 (eR (pv 0) rfl) (pv 3) (oj (v:= .ref tu) rfl hU rfl) ⟨rfl,rfl,rfl,rfl⟩)) aw)))) cv)⟩))))⟩ (fu ⟨(bZ (pv 1))⟩))),?_⟩
 obtain ⟨n,ss,rs,st,fi⟩:=l;obtain ⟨dx,a,b,hx,ha,hb⟩:=A0.d;have nd:ss.Nodup:=A0.nd;have two:2≤ss.length:=A0.two;have few:ss.length≤1000:=A0.few;have rl:ss.length=rs.length+1:=A0.rl;have hls:(ss.map V.str).length=ss.length:=ae _;have e1:HT.sIx (ss.map V.str).length 0 (some 1)=1:=by
  rw [hls];have:=HT.sIx_nat ss.length 0 1;rw [dm (by lia)] at this;exact this
 refine ⟨(by show 0≤au;decide),fun L hLn=>?_⟩;have S0:b8 H (upd H L (.lst [])):=b8.put (b8.refl H) hLn;have hL:(upd H L (.lst [])) L=some (.lst []):=aP;generalize upd H L (.lst [])=H0 at S0 hL ⊢;have S0x:=S0 _ _ hx;refine ⟨_,rfl,x,C,dx,_,_,rfl,S0x,CC.cl,CC.n2,rfl,_,rfl,x,C,dx,_,_,rfl,S0x,CC.cl,CC.n2,rfl,_,rfl,a,_,rfl,SqT.of (S0 _ _ ha),?_,fun p H1 S1 e=>?_⟩
 ·rw [e1]
  intro q;exact pF q.1 (by decide)
 rw [cutF (i:=1) (n:=1) rfl,←gb] at e;have hL1:=S1 _ _ hL;have ha1:=S1 _ _ (S0 _ _ ha);have hb1:=S1 _ _ (S0 _ _ hb);have hx1:=S1 _ _ S0x;have A1:=(A0.same S0).same S1;refine ⟨_,rfl,x,C,dx,_,_,rfl,hx1,CC.cl,CC.n3,rfl,⟨false,a⟩,⟨false,p⟩,⟨false,b⟩,_,_,_,rfl,ha1,e,hb1,?_⟩;have lD:(ss.drop 1).length=rs.length:=by rw [bV];lia
 refine for_zipB3 (c1:=⟨false,a⟩) (c2:=⟨false,p⟩) (c3:=⟨false,b⟩) (xs:=ss.map V.str) (ys:=(ss.drop 1).map V.str) (zs:=rs.map V.int) (fun i σ H2=>(∀ c o,c≠L→H1 c=some o→H2 c=some o)∧(∃ ys:List V,H2 L=some (.lst ys)∧gP H2 ys ((ownN ⟨n,ss,rs,st,fi⟩ i).map snD))∧∃ v2 v3 v4,σ=[some (.ref x),some (.ref L),v2,v3,v4])
  ⟨fun c o _ h=>h,⟨[],hL1,.nil⟩,none,none,none,rfl⟩ (fun i σ H2 _ q=>⟨q.1 _ _ (de ha1 hL1 nofun) ha1,q.1 _ _ (de e hL1 nofun) e,q.1 _ _ (de hb1 hL1 nofun) hb1⟩) (by rw [ae,ae,lD];lia) (by rw [ae,ae,lD]) ?_ ?_
 ·rintro i x1 x2 x3 q σ H2 h1 h2 h3 ⟨k2,⟨ys,hL2,hm⟩,v2,v3,v4,rfl⟩ hq
  rw [ax] at h1 h2 h3;obtain ⟨u1,g1,rfl⟩:=aS.mp h1;obtain ⟨u2,g2,rfl⟩:=aS.mp h2;obtain ⟨r,g3,rfl⟩:=aS.mp h3;rw [dQ,Nat.add_comm] at g2;have li:i+1<ss.length:=(ah.mp g2).1;have big:(100000:Nat)≤au:=by decide
  have ly:ys.length≤2 * i:=by
   have:=hm.length;rw [ae] at this;rw [this];exact nG _ _
  have S6:b8 H2 (upd H2 q (.tup [.str u1,.str u2,.int r])):=b8.put (b8.refl H2) hq;have h6:(upd H2 q (.tup [.str u1,.str u2,.int r])) q=some (.tup [.str u1,.str u2,.int r]):=aP;generalize upd H2 q (.tup [.str u1,.str u2,.int r])=H6 at S6 h6 ⊢;have A2:LnA H2 C x D ⟨n,ss,rs,st,fi⟩:=by
   obtain ⟨kvs,d1,_⟩:=A1.s.ex;refine A1.kept (fun b xs e=>k2 _ _ (de e hL1 nofun) e) (fun b C dx fs e=>k2 _ _ (de e hL1 nofun) e) ((k2 _ _ (de d1 hL1 nofun) d1).trans d1.symm)
  have A6:=A2.same S6;refine ⟨q,_,rfl,SqT.of h6,rfl,_,_,rfl,_,_,rfl,_,_,rfl,rfl,?_⟩;have hL6:=S6 _ _ hL2;obtain ⟨dx6,a6,b6,hx6,_⟩:=id A6.d;refine ⟨_,rfl,.inl ⟨rfl,_,SqL.of hL6⟩,_,rfl,x,dx6,_,rfl,hx6,rfl,_,rfl,x,D,n,u1,ss,rs,fi,rfl,A6.d,few,two,nd,fun H7 S7=>⟨fun i' a1 a2=>?_,fun no=>pF (no i g1) (by lia)⟩⟩;obtain rfl:=(iU nd g1 a1).symm;have A7:=A6.same S7;obtain ⟨dx7,a7,b7,hx7,_⟩:=id A7.d;refine ⟨_,rfl,x,dx7,_,rfl,hx7,rfl,_,rfl,x,D,n,u2,ss,rs,fi,rfl,A7.d,few,two,nd,fun H8 S8=>⟨fun j a1 a2=>?_,fun no=>pF (no _ g2) (by lia)⟩⟩;obtain rfl:=(iU nd g2 a1).symm;refine ⟨_,rfl,_,rfl,szZ5,fun p1 H9 S9 e9=>?_⟩;have A9:=(A7.same S8).same S9;have S29:b8 H2 H9:=S6.trans (S7.trans (S8.trans S9));have hL9:=S29 _ _ hL2;have hm9:=gP.same S29 hm;refine ⟨L,_,_,rfl,rfl,hL9,(by lia),?_⟩;have k9:∀ c o,c≠L→H9 c=some o→(upd H9 L (.lst (ys++[.ref p1]))) c=some o:=fun c o hc h=>by rw [aX hc];exact h
  have hLa:(upd H9 L (.lst (ys++[.ref p1]))) L=some (.lst (ys++[.ref p1])):=aP;generalize upd H9 L (.lst (ys++[.ref p1]))=Ha at k9 hLa ⊢;have p1L:p1≠L:=de e9 hL9 nofun;have d1:IsD Ha (.ref p1) (snD ⟨fi+2 * i,fi+2 * i+1,r,r,0⟩):=snD_at (x:=⟨fi+2 * i,fi+2 * i+1,r,r,0⟩) (by
   have:=k9 _ _ p1L e9;rw [this];show some (HO.tup [.int (fi+2 * (i:Nat)),.int (fi+2 * ((i+1:Nat):Int) - 1),_,_,_])=_;rw [show fi+2 * ((i+1:Nat):Int) - 1=fi+2 * (i:Nat)+1 by lia])
  have da:gP Ha (ys++[.ref p1]) ((ownN ⟨n,ss,rs,st,fi⟩ i).map snD++[snD ⟨fi+2 * i,fi+2 * i+1,r,r,0⟩]):=(kG hm9 k9 hL9).append (gP.one d1);have Aa:LnA Ha C x D ⟨n,ss,rs,st,fi⟩:=by
   obtain ⟨kvs,d1,_⟩:=A9.s.ex;exact A9.kept (fun b xs e=>k9 _ _ (de e hL9 nofun) e) (fun b C dx fs e=>k9 _ _ (de e hL9 nofun) e) ((k9 _ _ (de d1 hL9 nofun) d1).trans d1.symm)
  have ka:∀ c o,c≠L→H1 c=some o→Ha c=some o:=fun c o hc h=>k9 _ _ hc (S29 _ _ (k2 _ _ hc h))
  have er:rs.getD i 0=r:=by rw [bh,g3];rfl
  obtain ⟨dxa,aa,ba,hxa,haa,hba⟩:=id Aa.d;obtain ⟨z,hzl⟩:∃ z,ss[ss.length - 1]? =some z:=⟨_,gE (by lia)⟩;refine ⟨_,rfl,_,rfl,x,C,dxa,_,_,rfl,hxa,CC.cl,CC.n2,rfl,⟨1,rfl,aa,_,_,_,rfl,rfl,SqT.of haa,HN.atI_last (by rw [ae,ax,hzl];rfl),rfl,_,rfl,?_⟩⟩;have es:ss.getD (i+1) ef=u2:=by rw [bh,g2];rfl
  refine jj (fun hc=>?_) (fun hc=>?_)
  ·have nl:i+2<ss.length:=by
    rcases Nat.lt_or_ge (i+2) ss.length with q | q
    ·exact q
    ·have:i+1=ss.length - 1:=by lia
     rw [this,hzl] at g2;cases g2;exact pF hc (by simp)
   refine ⟨_,rfl,.inl ⟨rfl,_,SqL.of hLa⟩,_,rfl,x,dxa,_,rfl,hxa,rfl,_,rfl,x,D,n,u2,ss,rs,fi,rfl,Aa.d,few,two,nd,fun Hb Sb=>⟨fun j a1 a2=>?_,fun no=>pF (no _ g2) (by lia)⟩⟩;obtain rfl:=(iU nd g2 a1).symm;have Ab:=Aa.same Sb;obtain ⟨dxb,ab,bb,hxb,_⟩:=id Ab.d;refine ⟨_,rfl,x,dxb,_,rfl,hxb,rfl,_,rfl,x,D,n,u2,ss,rs,fi,rfl,Ab.d,few,two,nd,fun Hc Sc=>⟨fun j a1 a2=>?_,fun no=>pF (no _ g2) (by lia)⟩⟩;obtain rfl:=(iU nd g2 a1).symm;refine ⟨oR,fun p2 Hd Sd ed=>?_⟩;have Ad:=(Ab.same Sc).same Sd;have Sad:b8 Ha Hd:=Sb.trans (Sc.trans Sd);obtain ⟨dxd,ad,bd,hxd,_⟩:=id Ad.d;obtain ⟨kvs,hD,_,hst⟩:=Ad.s.ex;refine ⟨_,rfl,x,C,dxd,_,_,rfl,hxd,CC.cl,CC.n4,rfl,D,rfl,.inl ⟨kvs,.inl hD⟩,_,rfl,_,.inl ⟨kvs,.inr u2,.inl hD,rfl,rfl⟩,?_⟩;obtain ⟨t,et,hT⟩:∃ t,(kC kvs (.inr u2)).getD (.ref tu)= .ref t∧SqT K Hd t [.int (sty st u2).1,.int (sty st u2).2.1,.int (sty st u2).2.2]:=by
    cases hv:kC kvs (.inr u2) with
    | none =>
     have:=((hst u2).2.1 hv).1;exact ⟨tu,rfl,by rw [show sty st u2=(0,0,0) from this];exact uU _⟩
    | some v =>
     obtain ⟨t,rfl,q⟩:=(hst u2).1 v hv;exact ⟨t,rfl,SqT.of q⟩
   refine ⟨p2,t,_,_,rfl,et,SqT.of ed,hT,(by simp),szZ5,fun z=>pF z (by simp),fun _ p3 hp3=>?_⟩;have hLd:=Sad _ _ hLa;have S3:b8 Hd (upd Hd p3 (.tup ([.int (fi+2 * ((i+1:Nat):Int) - 1),.int (fi+2 * ((i+1:Nat):Int))]++[.int (sty st u2).1,.int (sty st u2).2.1,.int (sty st u2).2.2]))):=b8.put (b8.refl _) hp3;have e3:(upd Hd p3 (.tup ([.int (fi+2 * ((i+1:Nat):Int) - 1),.int (fi+2 * ((i+1:Nat):Int))]++[.int (sty st u2).1,.int (sty st u2).2.1,.int (sty st u2).2.2]))) p3=some (.tup [.int (fi+2 * i+1),.int (fi+2 * i+2),.int (sty st u2).1,.int (sty st u2).2.1,.int (sty st u2).2.2]):=by
    rw [aP,show fi+2 * ((i+1:Nat):Int) - 1=fi+2 * (i:Nat)+1 by lia,show fi+2 * ((i+1:Nat):Int)=fi+2 * (i:Nat)+2 by lia];rfl
   refine ⟨L,ys++[.ref p1],_,rfl,rfl,S3 _ _ hLd,(by rw [aj];show ys.length+1<au;lia),?_⟩;generalize upd Hd p3 (.tup ([.int (fi+2 * ((i+1:Nat):Int) - 1),.int (fi+2 * ((i+1:Nat):Int))]++[.int (sty st u2).1,.int (sty st u2).2.1,.int (sty st u2).2.2]))=He at S3 e3 ⊢;have hLe:=S3 _ _ hLd;have kf:∀ c o,c≠L→He c=some o→(upd He L (.lst (ys++[.ref p1]++[.ref p3]))) c=some o:=fun c o hc h=>by rw [aX hc];exact h
   have p3L:p3≠L:=de e3 hLe nofun;have d3:=snD_at (x:=⟨fi+2 * i+1,fi+2 * i+2,(sty st u2).1,(sty st u2).2.1,(sty st u2).2.2⟩) (kf _ _ p3L e3);have df:=(kG (sp:=ownN ⟨n,ss,rs,st,fi⟩ i++[⟨fi+2 * i,fi+2 * i+1,r,r,0⟩]) (gP.same (Sad.trans S3) (by rw [aq];exact da)) kf hLe).append (gP.one d3);refine ⟨fun c o hc h=>kf _ _ hc (S3 _ _ (Sad _ _ (ka _ _ hc h))),⟨_,aP,?_⟩,_,_,_,rfl⟩;rw [iS];unfold stp;simp only [er,es];rw [pE nl,aq];rw [aq] at df;refine Eq.mp (pJ _ ?_) df;rw [cw];rfl
  ·have nl:¬ i+2<ss.length:=fun q=>hc (by
    show (!decide (V.str u2=V.str z))=true;rw [Bool.not_eq_true'];refine pH fun e=>?_
    injection e with e
    subst e;have:=iU nd hzl g2;lia)
   refine ⟨ka,⟨_,hLa,?_⟩,_,_,_,rfl⟩;rw [iS];unfold stp;simp only [er];rw [pB nl,aq];exact da
 ·rintro σ H2 ⟨k2,⟨ys,hL2,hm⟩,v2,v3,v4,rfl⟩
  refine ⟨_,rfl,k L ys H2 (fun c o h=>k2 c o ?_ (S1 _ _ (S0 _ _ h))) hLn hL2 ?_⟩
  ·intro z;rw [z,hLn] at h;cases h
  ·rw [ae,lD] at hm;exact hm
abbrev cPla:cN:=top 34
abbrev sInitP:cN:=clsOf cPla 0
abbrev sHap:cN:=clsOf cPla 1
abbrev sAllS:cN:=clsOf cPla 2
abbrev sAllL:cN:=clsOf cPla 3
abbrev sSmall:cN:=clsOf cPla 4
structure PlaC (K:ai)(C:ak):Prop where
 cl:Cls K C
 n1:kj K C "beat"
 n2:kj K C "lines"
 n3:kj K C "between"
abbrev LX:=Ln×ak×ak
def j7 (zs:List LX):List (Key×V):=zs.map fun z=>(.inr z.1.n,.ref z.2.1)
abbrev plF (b:Int)(DL LB:ak):List (Str×V):=[("beat",.int b),("lines",.ref DL),("between",.ref LB)]
structure PlI (CP CL:ak)(H0 H:Hp)(p:ak)(b:Int)(zs:List LX)(bt:List Sn)(DL LB:ak):Prop where
 S:b8 H0 H
 pl:∃ dp,H p=some (.ins CP dp (plF b DL LB))
 nL:H0 DL=none
 nB:H0 LB=none
 nD:∀ z∈zs,H0 z.2.2=none
 dl:H DL=some (.dK (j7 zs))
 ln:∀ z∈zs,LnA H CL z.2.1 z.2.2 z.1
 nd:(DL::zs.map (·.2.2)).Nodup
 nn:(zs.map (·.1.n)).Nodup
 lb:∃ ys,H LB=some (.lst ys)∧gP H ys (bt.map snD)
theorem PlI.same {H0:Hp}{zs:List LX}{DL LB:ak}(I:PlI CP CL H0 H p b zs bt DL LB)(S:b8 H H'):PlI CP CL H0 H' p b zs bt DL LB:=by
 obtain ⟨dp,h1⟩:=I.pl;obtain ⟨ys,h2,h3⟩:=I.lb;exact ⟨I.S.trans S,⟨dp,S _ _ h1⟩,I.nL,I.nB,I.nD,S _ _ I.dl,fun z hz=>(I.ln z hz).same S,I.nd,I.nn,ys,S _ _ h2,gP.same S h3⟩
def mP (zs:List LX):Int:=(zs.map fun z=>2 * (z.1.rs.length:Int)).sum
def allS (zs:List LX)(bt:List Sn):List Sn:=zs.flatMap (fun z=>lX z.1)++bt
def allL (zs:List LX):List (List V):=zs.flatMap fun z=>kU z.1.n z.1.ss
structure Few (zs:List LX)(bt:List Sn):Prop where
 a:zs.length≤100
 b:bt.length≤100
inductive spInitP (C:ak)(vs:List V)(H:Hp)(Q:VK)(_:XK):Prop
 | mk (x dx:ak)(b:Int)(_:vs=[.ref x,.int b])(_:H x=some (.ins C dx []))(_:∀ (DL LB:ak) (H':Hp),(∀ c o,c≠x→H c=some o→H' c=some o)→H DL=none→H LB=none→DL≠LB→H' DL=some (.dK [])→H' LB=some (.lst [])→H' x=some (.ins C dx (plF b DL LB))→Q .non H')
inductive spHap (CP CL:ak)(vs:List V)(H:Hp)(Q:VK)(_:XK):Prop
 | mk (H0:Hp)(p DL LB:ak)(b:Int)(zs:List LX)(bt:List Sn)(_:vs=[.ref p])(_:PlI CP CL H0 H p b zs bt DL LB)(_:Few zs bt)(_:∀ H',b8 H H'→Q (.int (mP zs)) H')
inductive spAllS (CP CL:ak)(vs:List V)(H:Hp)(Q:VK)(_:XK):Prop
 | mk (H0:Hp)(p DL LB:ak)(b:Int)(zs:List LX)(bt:List Sn)(_:vs=[.ref p])(_:PlI CP CL H0 H p b zs bt DL LB)(_:Few zs bt)(_:∀ (L:ak) (ys:List V) (H':Hp),b8 H H'→H L=none→H' L=some (.lst ys)→gP H' ys ((allS zs bt).map snD)→Q (.ref L) H')
inductive spAllL (CP CL:ak)(vs:List V)(H:Hp)(Q:VK)(_:XK):Prop
 | mk (H0:Hp)(p DL LB:ak)(b:Int)(zs:List LX)(bt:List Sn)(_:vs=[.ref p])(_:PlI CP CL H0 H p b zs bt DL LB)(_:Few zs bt)(_:∀ (L:ak) (as:List ak) (H':Hp),b8 H H'→H L=none→H' L=some (.lst (as.map V.ref))→as.map H'=(allL zs).map (fun t=>some (HO.tup t))→Q (.ref L) H')
inductive spSmall (CP CL:ak)(vs:List V)(H:Hp)(Q:VK)(_:XK):Prop
 | mk (H0:Hp)(p DL LB:ak)(b:Int)(zs:List LX)(bt:List Sn)(_:vs=[.ref p])(_:PlI CP CL H0 H p b zs bt DL LB)(_:Few zs bt)(_:∀ H',b8 H H'→Q (.bl (decide (mP zs≤16) && decide ((allS zs bt).length≤40))) H')
theorem nN {H3:Hp}{pv:ak}{u:HO}{ob:Obj}{kvs:List (Key×V)}(hp:H pv=none)(S:b8 (upd (upd H pv u) d (.frz ob (.dK kvs))) H3):∀ c o,c≠d→H c=some o→H3 c=some o:=fun c o hc e =>
 S c o (by rw [aX hc,aX (aV e hp)];exact e)
theorem thaw_same {H3:Hp}{pv:ak}{u:HO}{ob:Obj}{kvs:List (Key×V)}(hd:H d=some (.dK kvs))(k:∀ c o,c≠d→H c=some o→H3 c=some o):b8 H (upd H3 d (.dK kvs)):=fun c o e=>by
 by_cases z:c=d
 ·subst z;rw [hd] at e;rw [aP];exact e
 ·rw [aX z];exact k c o z e
theorem fldK (K:ai){f:Str}(he:PE X e ta)(hb:iu e f X.env (dn e X.env)=dn e X.env)(hK:X.K=K:=by rfl):PE X (.Attribute e f pos) (tFld K ta f):=by subst hK;exact eR he hb
theorem lenK (K:ai)(hK:X.K=K:=by rfl):iK X (.builtin "len") (fun xs H Q=>∃ p ys,xs=[.ref p]∧(SqL K H p ys∨SqT K H p ys)∧Q (.int ys.length) H):=by subst hK;exact bM
theorem scInitP:cp pzs pzs (defScope sInitP):=by trivial
theorem ok_initP (F:Fun K "__init__" "Plan.__init__" sInitP f fd)(CC:PlaC K C):c7 P w K mg base CX0 1 f fd pzs (spInitP C):=by
 refine F.ok scInitP (by contradiction) (fun cdv A outer s H vs Q E hr h=>?_);obtain ⟨x,dx,b,rfl,hx,k⟩:=h;refine ⟨_,cK (mY (pv 0) (pv 1) rfl) (cK (mY (pv 0) pe_dnewK rfl) (bB (mY (pv 0) (jK aw) rfl))),?_⟩;refine ⟨_,rfl,_,rfl,x,C,dx,_,rfl,hx,CC.cl,CC.n1,(by decide),?_⟩;refine fun D hD=>⟨_,rfl,x,C,dx,_,rfl,(by rw [aX (aV aP hD)];exact aP),CC.cl,CC.n2,(by show 1<1000;decide),?_⟩
 have xD:x≠D:=aV aP hD;refine ⟨(by show 0≤au;decide),fun L hL=>⟨_,rfl,x,C,dx,[("beat",.int b),("lines",.ref D)],rfl,?_,CC.cl,CC.n3,(by show 2<1000;decide),?_⟩⟩
 ·rw [aX (aV aP hL)];exact aP
 have xL:x≠L:=aV aP hL;have DL:D≠L:=aV (H:=upd (upd (upd H x (.ins C dx (putF "beat" (.int b) []))) D (.dK [])) x (.ins C dx (putF "lines" (.ref D) (putF "beat" (.int b) [])))) (o:= .dK []) (by rw [aX (cO xD),aP]) hL;rw [aX (cO xD)] at hD;rw [aX (cO xL),aX (cO DL),aX (cO xL)] at hL;refine k D L _ (fun c o hc e=>?_) hD hL DL ?_ ?_ aP
 ·rw [aX hc,aX (aV e hL),aX hc,aX (aV e hD),aX hc];exact e
 ·rw [aX (cO xD),aX DL,aX (cO xD),aP]
 ·rw [aX (cO xL),aP]
theorem scHap:cp pza pza (defScope sHap):=by trivial
theorem ok_hap (F:Fun K "happenings" "Plan.happenings" sHap f fd)(T:Nm mg)(T2:Nt mg)(CC:PlaC K C)(LC:LinC K CL):c7 P w K mg base CX0 1 f fd pza (spHap C CL):=by
 refine F.ok scHap (by contradiction) (fun cdv A outer s H vs Q E hr h=>?_);obtain ⟨H0,p,DL,LB,b,zs,bt,rfl,I,fw,k⟩:=h;refine ⟨_,bB (bZ (bU (call_sum rfl) rfl T2.sum boot_sum (af (pe_thaw (jH (fr:=[]) (js:=[]) rfl (pi_vals (eR (pv 0) rfl) ⟨rfl,rfl,rfl,rfl⟩) (by trivial) rfl (by trivial) rfl (by exists sHap) (by trivial) rfl (by trivial) (fun _ _ _ _ _=>⟨(cD jL aC (bU (lenK K) rfl T.len aR (af (fldK K (pv 0) rfl) aw))),jg⟩))) aw))),?_⟩;obtain ⟨dp,hp⟩:=I.pl;refine ⟨_,rfl,p,C,dp,_,_,rfl,hp,CC.cl,CC.n2,rfl,DL,_,rfl,I.dl,fun pv ob hpv=>?_⟩;have lz:(j7 zs).length=zs.length:=ae _;have big:(100000:Nat)≤au:=by decide
 have f1:=fw.a;refine comp_vals (fun i ys H2=>b8 (upd (upd H pv (isVV pv DL)) DL (.frz ob (.dK (j7 zs)))) H2∧ys=(zs.take i).map fun z=>V.int (2 * (z.1.rs.length:Int))) ⟨b8.refl _,rfl⟩ (fun i ys H2 hi q=>⟨q.1 _ _ aP,by rw [q.2,ae,aU];lia⟩) (by lia) (fun i kk x ys H2 hx q=>?_) (fun ys H3 q D hD=>?_)
 ·obtain ⟨S2,ey⟩:=q
  unfold j7 at hx;rw [ax] at hx;obtain ⟨z,hz,e⟩:=aS.mp hx;cases e;have L:=I.ln z (ay hz);obtain ⟨dx,a,bb,h1,h2,h3⟩:=L.d;have kk:=nN hpv S2;have h1':=kk _ _ (de h1 I.dl nofun) h1;have h3':=kk _ _ (de h3 I.dl nofun) h3;refine ie ?_;refine ⟨_,rfl,z.2.1,CL,dx,_,_,rfl,h1',LC.cl,LC.n3,rfl,bb,_,rfl,.inr (SqT.of h3'),_,_,rfl,rfl,.inl ⟨by decide,by decide⟩,S2,?_⟩;rw [ey,aW,hz,aq,ae];rfl
 ·obtain ⟨S3,ey⟩:=q
  rw [lz,bI] at ey;have hD3:=S3 _ _ aP;have hDD:DL≠D:=aV hD3 hD;have e5:(upd (upd H3 D (.lst ys)) DL (.dK (j7 zs))) D=some (.lst ((zs.map fun z:LX=>2 * (z.1.rs.length:Int)).map V.int)):=by rw [aX (cO hDD),aP,ey,bO];rfl
  refine ⟨DL,ob,j7 zs,I.dl,(by rw [aX hDD];exact hD3),D,_,rfl,SqL.of e5,k _ (thaw_same (u:=isVV pv DL) (ob:=ob) (pv:=pv) I.dl fun c o hc e=>?_)⟩;have:=nN hpv S3 c o hc e;rw [aX (aV this hD)];exact this
structure LinQ (P:aK)(w:br)(K:ai)(mg:Str→Option ag)(base:bX)(C:ak)(fo fl:ak)(d1 d2:aZ):Prop where
 m4:pA K C "own_spans" fo
 f4:c7 P w K mg base CX0 2 fo d1 pza (spOwn C)
 b4:Binds K d1 pza []
 m5:pA K C "own_labels" fl
 f5:c7 P w K mg base CX0 1 fl d2 pza (spLabL C)
 b5:Binds K d2 pza []
theorem labs_len (n:Str):∀ ss:List Str,(kU n ss).length≤2 * ss.length
 | []=>by simp [kU]
 | [_]=>by simp [kU]
 | _::t::r=>by
  have:=labs_len n (t::r);show (kU n (t::r)).length+2≤_;simp only [aD] at this ⊢;lia
theorem take_flat {β:Type}(f:α→List β){zs:List α}{z:α}(h:zs[i]? =some z):(zs.take (i+1)).flatMap f=(zs.take i).flatMap f++f z:=by
 rw [aW,h,j9];simp
theorem scAllS:cp ["self","spans","line"] pza (defScope sAllS):=by trivial
theorem ok_allS {fo fl:ak}(F:Fun K "all_spans" "Plan.all_spans" sAllS f fd)(CC:PlaC K C)(LC:LinC K CL)(LQ:LinQ P w K mg base CL fo fl d1 d2):c7 P w K mg base CX0 3 f fd pza (spAllS C CL):=by
 refine F.ok scAllS (by contradiction) (fun cdv A outer s H vs Q E hr h=>?_);obtain ⟨H0,p,DL,LB,b,zs,bt,rfl,I,fw,k⟩:=h;refine ⟨_,PSl.h (bq ⟨(psZ 1 scAllS.nd (jK aw))⟩ (bq ⟨ps_thaw (gS bS rfl (pi_vals (eR (pv 0) rfl) ⟨rfl,rfl,rfl,rfl⟩) (pgZ 2 scAllS.nd) (bB (gD (i9 bf PySem.F.slot_list_extend PySem.F.type_list_extend mt_extend (pv 1) (af (iF (pv 2) LC.cl LQ.m4 LQ.f4 hr LQ.b4 .nil hV) aw)))))⟩
  (fu ⟨(bZ (cD op_cat (pv 1) (eR (pv 0) rfl)))⟩))),?_⟩
 have lz:(j7 zs).length=zs.length:=ae _;have big:(1000000:Nat)≤au:=by decide
 have f1:=fw.a;have f2:=fw.b;refine ⟨(by show 0≤au;decide),fun L hLn=>?_⟩;have S0:b8 H (upd H L (.lst [])):=b8.put (b8.refl H) hLn;have hL:(upd H L (.lst [])) L=some (.lst []):=aP;generalize upd H L (.lst [])=H1 at S0 hL ⊢;have I1:=I.same S0;obtain ⟨dp,hp⟩:=I1.pl;refine ⟨_,rfl,p,C,dp,_,_,rfl,hp,CC.cl,CC.n2,rfl,DL,_,rfl,I1.dl,fun pv ob hpv=>?_⟩;have LDL:L≠DL:=de hL I1.dl nofun;have hLf:(upd (upd H1 pv (isVV pv DL)) DL (.frz ob (.dK (j7 zs)))) L=some (.lst []):=by rw [aX LDL,aX (aV hL hpv)];exact hL
 have kf:∀ c o,c≠DL→H1 c=some o→(upd (upd H1 pv (isVV pv DL)) DL (.frz ob (.dK (j7 zs)))) c=some o:=nN hpv (b8.refl _);have hDf:(upd (upd H1 pv (isVV pv DL)) DL (.frz ob (.dK (j7 zs)))) DL=some (.frz ob (.dK (j7 zs))):=aP;generalize upd (upd H1 pv (isVV pv DL)) DL (.frz ob (.dK (j7 zs)))=Hf at hLf kf hDf ⊢;have Lf:∀ z∈zs,LnA Hf CL z.2.1 z.2.2 z.1:=fun z hz=>by
  have A:=I1.ln z hz;obtain ⟨kvs,d1,_⟩:=A.s.ex;have nz:z.2.2≠DL:=fun e=>(bH.mp I1.nd).1 (aG.mpr ⟨z,hz,e⟩)
  exact A.kept (fun b xs e=>kf _ _ (de e I1.dl nofun) e) (fun b C dx fs e=>kf _ _ (de e I1.dl nofun) e) ((kf _ _ nz d1).trans d1.symm)
 refine for_vals (fun i σ H2=>(∀ c o,c≠L→Hf c=some o→H2 c=some o)∧(∃ ys:List V,ys.length≤2000 * i∧H2 L=some (.lst ys)∧gP H2 ys (((zs.take i).flatMap fun z=>lX z.1).map snD))∧∃ v2,σ=[some (.ref p),some (.ref L),v2])
  ⟨fun c o _ h=>h,⟨[],(by simp),hLf,.nil⟩,none,rfl⟩ (fun i σ H2 _ q=>q.1 _ _ (cO LDL) hDf) (fun i kk x σ H2 hx q=>?_) (fun σ H3 q=>?_)
 ·obtain ⟨k2,⟨ys,ly,hL2,hm⟩,v2,rfl⟩:=q
  unfold j7 at hx;rw [ax] at hx;obtain ⟨z,hz,e⟩:=aS.mp hx;cases e;have A1:=Lf z (ay hz);have A2:LnA H2 CL z.2.1 z.2.2 z.1:=by
   obtain ⟨kvs,d1,_⟩:=A1.s.ex;exact A1.kept (fun b xs e=>k2 _ _ (de e hLf nofun) e) (fun b C dx fs e=>k2 _ _ (de e hLf nofun) e) ((k2 _ _ (de d1 hLf nofun) d1).trans d1.symm)
  obtain ⟨dx,a,bb,h1,_⟩:=id A2.d;refine ⟨_,rfl,.inl ⟨rfl,_,SqL.of hL2⟩,_,rfl,z.2.1,dx,_,rfl,h1,rfl,z.2.1,z.2.2,z.1,rfl,A2,fun L2 us H4 S4 _ h4 d4=>?_⟩;have hL4:=S4 _ _ hL2;have lu:us.length≤2 * z.1.rs.length:=by
   have:=d4.length;rw [ae] at this;rw [this];exact nG _ _
  have:=A2.few;have:=A2.rl;have hi:i<zs.length:=(ah.mp hz).1;refine ⟨L,L2,_,_,rfl,rfl,hL4,h4,(by lia),?_⟩;have kg:∀ c o,c≠L→H4 c=some o→(upd H4 L (.lst (ys++us))) c=some o:=fun c o hc h=>by rw [aX hc];exact h
  refine ⟨fun c o hc h=>kg _ _ hc (S4 _ _ (k2 _ _ hc h)),⟨_,(by rw [aj];lia),aP,?_⟩,_,rfl⟩;rw [take_flat (fun z:LX=>lX z.1) hz,aq];exact (kG (gP.same S4 hm) kg hL4).append (kG d4 kg hL4)
 ·obtain ⟨k3,⟨ys,ly,hL3,hm⟩,v2,rfl⟩:=q
  rw [lz] at ly hm;rw [bI] at hm;have hD3:=k3 _ _ (cO LDL) hDf;have S5:b8 H (upd H3 DL (.dK (j7 zs))):=fun c o e=>by
   have e1:=S0 _ _ e;have cL:c≠L:=aV e hLn
   by_cases z:c=DL
   ·subst z;rw [I1.dl] at e1;rw [aP];exact e1
   ·rw [aX z];exact k3 _ _ cL (kf _ _ z e1)
  have k5:∀ c o,c≠DL→H3 c=some o→(upd H3 DL (.dK (j7 zs))) c=some o:=fun c o hc e=>by rw [aX hc];exact e
  refine ⟨DL,ob,j7 zs,I1.dl,hD3,?_⟩;have hL5:=k5 _ _ LDL hL3;have hm5:gP (upd H3 DL (.dK (j7 zs))) ys ((zs.flatMap fun z=>lX z.1).map snD):=by
   clear ly;revert hm;generalize (zs.flatMap fun z=>lX z.1)=sp;intro hm;have fin:∀ {vs:List V} {sp:List Sn},gP H3 vs (sp.map snD)→gP (upd H3 DL (.dK (j7 zs))) vs (sp.map snD):=by
    intro vs sp
    induction sp generalizing vs with
    | nil=>intro h;cases h;exact .nil
    | cons x sp ih =>
     intro h;cases h with
     | cons h r =>
      obtain ⟨a,us,rfl,ha,rz⟩:=h.tup_of;have ez:=gP.ints_of rz;subst ez;exact .cons (.tup (k5 _ _ (de ha hD3 nofun) ha) (gP.ints _)) (ih r)
   exact fin hm
  generalize upd H3 DL (.dK (j7 zs))=H5 at S5 hL5 hm5 ⊢;have I5:=I.same S5;obtain ⟨dp5,hp5⟩:=I5.pl;obtain ⟨bs,hB,dB⟩:=I5.lb;have lbs:bs.length=bt.length:=by have:=dB.length;rwa [ae] at this
  refine ⟨_,rfl,_,rfl,p,C,dp5,_,_,rfl,hp5,CC.cl,CC.n3,rfl,L,LB,_,_,rfl,rfl,hL5,hB,(by lia),fun q hq=>?_⟩;have S6:b8 H5 (upd H5 q (.lst (ys++bs))):=b8.put (b8.refl _) hq;refine k q _ _ (S5.trans S6) ?_ aP ?_
  ·cases e:H q with
   | none=>rfl
   | some o=>rw [S5 _ _ e] at hq;cases hq
  ·unfold allS
   rw [aq];exact (gP.same S6 hm5).append (gP.same S6 dB)
theorem scSmall:cp pza pza (defScope sSmall):=by trivial
theorem ok_small {fh:ak}{da:aZ}(F:Fun K "is_small" "Plan.is_small" sSmall f fd)(T:Nm mg)(CS:Cs mg)(CC:PlaC K C)(m1:pA K C "happenings" fh)(f1:c7 P w K mg base CX0 1 fh dh pza (spHap C CL))(b1:Binds K dh pza [])
  (m2:pA K C "all_spans" fa) (f2:c7 P w K mg base CX0 3 fa da pza (spAllS C CL)) (b2:Binds K da pza []):c7 P w K mg base CX0 4 f fd pza (spSmall C CL):=by
 refine F.ok scSmall (by contradiction) (fun cdv A outer s H vs Q E hr h=>?_);obtain ⟨H0,p,DL,LB,b,zs,bt,rfl,I,fw,k⟩:=h;refine ⟨_,bB (bZ (oZ (jW op_le (iF (pv 0) CC.cl m1 f1 (hr.mono (by decide)) b1 .nil hV) (lN CS.mh) (cb _)) (pe_one (jW op_le (bU bM rfl T.len aR (af (iF (pv 0) CC.cl m2 f2 hr b2 .nil hV) aw)) (lN CS.ms) (cb _))))),?_⟩;obtain ⟨dp,hp⟩:=I.pl;refine ⟨_,rfl,p,dp,_,rfl,hp,rfl,H0,p,DL,LB,b,zs,bt,rfl,I,fw,fun H1 S1=>?_⟩;refine ⟨_,_,rfl,rfl,_,rfl,jj (fun h1=>?_) (fun h1=>?_)⟩
 ·have I1:=I.same S1
  obtain ⟨dp1,hp1⟩:=I1.pl;refine ⟨_,rfl,p,dp1,_,rfl,hp1,rfl,H0,p,DL,LB,b,zs,bt,rfl,I1,fw,fun L ys H2 S2 _ hL d=>?_⟩;refine ⟨L,_,rfl,.inl (SqL.of hL),_,_,rfl,rfl,?_⟩;have e:=k H2 (S1.trans S2);have h1:decide (mP zs≤16)=true:=h1;have ly:(ys.length:Int)=(allS zs bt).length:=by have:=d.length;rw [ae] at this;lia
  rw [h1,gy] at e;show Q (.bl (decide ((ys.length:Int)≤40))) H2;rw [ly];rw [show decide (((allS zs bt).length:Int)≤40)=decide ((allS zs bt).length≤40) from decide_eq_decide.mpr (by lia)];exact e
 ·have e:=k H1 S1
  have h1:decide (mP zs≤16)=false:=by simpa using h1
  rw [h1,Bool.false_and] at e;exact e
theorem scAllL:cp ["self","labels","line"] pza (defScope sAllL):=by trivial
theorem ok_allL {fo fl:ak}(F:Fun K "all_labels" "Plan.all_labels" sAllL f fd)(CC:PlaC K C)(LC:LinC K CL)(LQ:LinQ P w K mg base CL fo fl d1 d2):c7 P w K mg base CX0 2 f fd pza (spAllL C CL):=by
 refine F.ok scAllL (by contradiction) (fun cdv A outer s H vs Q E hr h=>?_);obtain ⟨H0,p,DL,LB,b,zs,bt,rfl,I,fw,k⟩:=h;refine ⟨_,PSl.h (bq ⟨(psZ 1 scAllL.nd (jK aw))⟩ (bq ⟨ps_thaw (gS bS rfl (pi_vals (eR (pv 0) rfl) ⟨rfl,rfl,rfl,rfl⟩) (pgZ 2 scAllL.nd) (bB (gD (i9 bf PySem.F.slot_list_extend PySem.F.type_list_extend mt_extend (pv 1) (af (iF (pv 2) LC.cl LQ.m5 LQ.f5 hr LQ.b5 .nil hV) aw)))))⟩
  (fu ⟨(bZ (pv 1))⟩))),?_⟩
 have lz:(j7 zs).length=zs.length:=ae _;have big:(1000000:Nat)≤au:=by decide
 have f1:=fw.a;refine ⟨(by show 0≤au;decide),fun L hLn=>?_⟩;have S0:b8 H (upd H L (.lst [])):=b8.put (b8.refl H) hLn;have hL:(upd H L (.lst [])) L=some (.lst []):=aP;generalize upd H L (.lst [])=H1 at S0 hL ⊢;have I1:=I.same S0;obtain ⟨dp,hp⟩:=I1.pl;refine ⟨_,rfl,p,C,dp,_,_,rfl,hp,CC.cl,CC.n2,rfl,DL,_,rfl,I1.dl,fun pv ob hpv=>?_⟩;have LDL:L≠DL:=de hL I1.dl nofun;have hLf:(upd (upd H1 pv (isVV pv DL)) DL (.frz ob (.dK (j7 zs)))) L=some (.lst []):=by rw [aX LDL,aX (aV hL hpv)];exact hL
 have kf:∀ c o,c≠DL→H1 c=some o→(upd (upd H1 pv (isVV pv DL)) DL (.frz ob (.dK (j7 zs)))) c=some o:=nN hpv (b8.refl _);have hDf:(upd (upd H1 pv (isVV pv DL)) DL (.frz ob (.dK (j7 zs)))) DL=some (.frz ob (.dK (j7 zs))):=aP;generalize upd (upd H1 pv (isVV pv DL)) DL (.frz ob (.dK (j7 zs)))=Hf at hLf kf hDf ⊢;refine for_vals (fun i σ H2=>(∀ c o,c≠L→Hf c=some o→H2 c=some o)∧(∃ as:List ak,as.length≤2000 * i∧H2 L=some (.lst (as.map V.ref))∧as.map H2=(allL (zs.take i)).map (fun t=>some (HO.tup t)))∧∃ v2,σ=[some (.ref p),some (.ref L),v2])
  ⟨fun c o _ h=>h,⟨[],(by simp),hLf,rfl⟩,none,rfl⟩ (fun i σ H2 _ q=>q.1 _ _ (cO LDL) hDf) (fun i kk x σ H2 hx q=>?_) (fun σ H3 q=>?_)
 ·obtain ⟨k2,⟨ys,ly,hL2,hm⟩,v2,rfl⟩:=q
  unfold j7 at hx;rw [ax] at hx;obtain ⟨z,hz,e⟩:=aS.mp hx;cases e;have A1:=I1.ln z (ay hz);obtain ⟨dx,a,bb,g1,g2,g3⟩:=A1.d;have kb:∀ c o,c≠DL→c≠L→H1 c=some o→H2 c=some o:=fun c o h1 h2 h=>k2 _ _ h2 (kf _ _ h1 h)
  have D2:LinD H2 CL z.2.1 z.1.n z.1.ss z.1.rs z.2.2 z.1.fi:=⟨dx,a,bb,kb _ _ (de g1 I1.dl nofun) (de g1 hL nofun) g1,kb _ _ (de g2 I1.dl nofun) (de g2 hL nofun) g2,kb _ _ (de g3 I1.dl nofun) (de g3 hL nofun) g3⟩;obtain ⟨dx,a,bb,h1,_⟩:=id D2;refine ⟨_,rfl,.inl ⟨rfl,_,SqL.of hL2⟩,_,rfl,z.2.1,dx,_,rfl,h1,rfl,z.2.1,z.2.2,z.1.n,z.1.ss,z.1.rs,z.1.fi,rfl,D2,A1.two,A1.few,fun L2 us H4 S4 _ h4 d4=>?_⟩;have hL4:=S4 _ _ hL2;have lu:us.length≤2 * z.1.ss.length:=by
   have:=pJ gc d4;rw [ae,ae] at this;rw [this];exact labs_len _ _
  have:=A1.few;have hi:i<zs.length:=(ah.mp hz).1;refine ⟨L,L2,_,_,rfl,rfl,hL4,h4,(by rw [ae,ae];lia),?_⟩;have kg:∀ c o,c≠L→H4 c=some o→(upd H4 L (.lst (ys.map V.ref++us.map V.ref))) c=some o:=fun c o hc h=>by rw [aX hc];exact h
  have m4:ys.map H4=(allL (zs.take i)).map (fun t=>some (HO.tup t)):=mj hm (fun c o _ h=>S4 _ _ h) hL2;refine ⟨fun c o hc h=>kg _ _ hc (S4 _ _ (k2 _ _ hc h)),⟨ys++us,(by rw [aj];lia),(by rw [aP,aq]),?_⟩,_,rfl⟩;unfold allL at m4 ⊢;rw [take_flat (fun z:LX=>kU z.1.n z.1.ss) hz,aq,aq,mj m4 kg hL4,mj d4 kg hL4]
 ·obtain ⟨k3,⟨ys,ly,hL3,hm⟩,v2,rfl⟩:=q
  rw [lz] at ly hm;rw [bI] at hm;have hD3:=k3 _ _ (cO LDL) hDf;have S5:b8 H (upd H3 DL (.dK (j7 zs))):=fun c o e=>by
   have e1:=S0 _ _ e;have cL:c≠L:=aV e hLn
   by_cases z:c=DL
   ·subst z;rw [I1.dl] at e1;rw [aP];exact e1
   ·rw [aX z];exact k3 _ _ cL (kf _ _ z e1)
  refine ⟨DL,ob,j7 zs,I1.dl,hD3,_,rfl,k L ys _ S5 hLn (by rw [aX LDL];exact hL3) ?_⟩;rw [←hm];refine cP fun c hc=>?_
  have hm2:H3 c∈(allL zs).map (fun t=>some (HO.tup t)):=by rw [←hm];exact cX hc
  obtain ⟨t,_,e⟩:=aG.mp hm2;rw [aX fun z=>by rw [z,hD3] at e;cases e]
end HN
variable {zs:List HN.LX}
namespace L2
open PySem PySem.Spec PyProof.Rows
def hasK (l:List Key)(k:Key):Bool:=l.any fun q=>decide (q=k)
theorem hasK_iff {l:List Key}{k:Key}:hasK l k=true↔k∈l:=by
 unfold hasK;rw [List.any_eq_true]
 constructor
 ·rintro ⟨q,h,e⟩
  rw [←pI e];exact h
 ·intro h
  exact ⟨k,h,pG rfl⟩
def kP (val:Nat→Key):Nat→List Key
 | 0=>[]
 | i+1=>if hasK (kP val i) (val i)=true then kP val i else kP val i++[val i]
theorem metK_le (val:Nat→Key):∀ i,(kP val i).length≤i
 | 0=>az _
 | i+1=>by
  have:=metK_le val i;unfold kP;split
  ·lia
  ·rw [aj];show _+1≤_;lia
theorem metK_mem {val:Nat→Key}{k:Key}:∀ {i:Nat},k∈kP val i↔∃ j,j<i∧val j=k
 | 0=>by
  constructor
  ·intro h;cases h
  ·rintro ⟨j,h,_⟩;lia
 | i+1=>by
  have ih:=metK_mem (val:=val) (k:=k) (i:=i);have e:k∈kP val (i+1)↔k∈kP val i∨val i=k:=by
   rw [kP];split
   ·rename_i h
    constructor
    ·exact .inl
    ·rintro (h' | h')
     ·exact h'
     ·rw [←h'];exact hasK_iff.mp h
   ·rw [bg,aB]
    constructor
    ·rintro (h | h)
     ·exact .inl h
     ·exact .inr h.symm
    ·rintro (h | h)
     ·exact .inl h
     ·exact .inr h.symm
  rw [e,ih]
  constructor
  ·rintro (⟨j,h,q⟩ | h)
   ·exact ⟨j,by lia,q⟩
   ·exact ⟨i,by lia,h⟩
  ·rintro ⟨j,h,q⟩
   by_cases z:j=i
   ·subst z;exact .inr q
   ·exact .inl ⟨j,by lia,q⟩
theorem metK_nd {val:Nat→Key}:∀ {n:Nat},(∀ i j,i<j→j<n→val i≠val j)→(kP val n).length=n
 | 0,_=>rfl
 | n+1,h=>by
  have ih:=metK_nd (val:=val) (n:=n) fun i j a b=>h i j a (by lia)
  rw [kP,pB,aj,ih]
  ·rfl
  ·intro q
   obtain ⟨j,hj,e⟩:=metK_mem.mp (hasK_iff.mp q);exact h j n hj (by lia) e
theorem metK_lt {val:Nat→Key}{i j:Nat}(h:i<j)(e:val i=val j):∀ {n:Nat},j<n→(kP val n).length<n
 | 0,hn=>pF hn (Nat.not_lt_zero _)
 | n+1,hn=>by
  have le:=metK_le val n;rw [kP];split
  ·lia
  ·rename_i q
   rw [aj];show _+1<_
   by_cases z:j=n
   ·subst z
    exact pF (hasK_iff.mpr (metK_mem.mpr ⟨i,h,e⟩)) q
   ·have:=metK_lt h e (n:=n) (by lia)
    lia
section
variable {wr:List ak}{Pv:Nat→ag→Prop}{St:Nat→ar→Prop}
abbrev SetK (P:aK)(w:br)(h:bX)(a:ak)(l:List Key):Prop:=h.SetOf (fQ P w) a (hasK l) l.length
theorem SetK.at {l:List Key}(x:SetK P w h a l)(k:∀ o,h.get? a=some o→h'.get? a=some o):SetK P w h' a l:=by
 obtain ⟨o,es,ep,t,ho,rest⟩:=x;exact ⟨o,es,ep,t,k _ ho,rest⟩
theorem upd_loop (W:WalksS P w A.in1 it fp wr G n Pv St)(S:ak)(hS:S ∉ fp)(val:Nat→Key)(hv:∀ i v,Pv i v→∃ x t,v= .str x t∧val i= .inr x)(hb:n+1<scanBound):∀ (k i:Nat) (s:ar),n - i=k→i≤n→St i s→SetK P w s.heap S (kP val i) →
  (∀ s',Moved (S::wr) G s s'→SetK P w s'.heap S (kP val n)→R (.ok (.ret .none)) s')→codeAny (bQ P w) A (.builtin "set.update.loop" ⟨[.ref S,.ref it],[]⟩) R s
 | 0,i,s,hk,hi,st,hs,hR=>by
  have nw:S ∉ wr:=fun q=>hS (W.sub _ q)
  obtain rfl:i=n:=by lia
  refine codeAny_builtin F.entry_set_update_loop ?_;rw [b9.under_plainId lI _];refine al (W.done s _ _ st fun s' hm=>?_);exact aQ (hR s' (hm.mono fun b q=>aO _ q) (hs.at fun o e=>hm.heap S _ nw e))
 | k+1,i,s,hk,hi,st,hs,hR=>by
  have nw:S ∉ wr:=fun q=>hS (W.sub _ q)
  have up:∀ b∈wr,b∈S::wr:=fun b q=>aO _ q
  have hlt:i<n:=by lia
  refine codeAny_builtin F.entry_set_update_loop ?_;rw [b9.under_plainId lI _];refine al (W.item i s _ _ hlt st fun v s' hP st' hm=>?_);obtain ⟨x,t,rfl,ev⟩:=hv i v hP;have hs':=hs.at (h':=s'.heap) fun o e=>hm.heap S _ nw e
  show bo _ A.in1 (holding [ag.str x t] (setAdd S (.str x t)) >>= _) _ _ s';refine al (jf ?_);unfold setAdd;refine jf ?_;refine al ((fQ P w).pyHash (k:= .inr x) (lP _ _ _ _) ?_);have room:(kP val i).length+1<scanBound:=by have:=metK_le val i;lia
  refine wpAny_setAddHashed_of (knd:=fQ P w) (s:={ s' with toks:=s'.toks+1 }) (lP _ _ _ _) rfl hs' room fun h' sb h2=>?_
  have h3:SetK P w h' S (kP val (i+1)):=by
   have e1:(fun q=>hasK (kP val i) q || decide (q=Sum.inr x))=hasK (kP val (i+1)):=funext fun q=>by
    rw [kP,ev]
    by_cases z:hasK (kP val i) (Sum.inr x)=true
    ·rw [pE z]
     by_cases y:q=Sum.inr x
     ·subst y;rw [z];rfl
     ·rw [pH y,Bool.or_false]
    ·rw [pB z]
     unfold hasK;rw [List.any_append];show _=(_ || (decide (Sum.inr x=q) || false));rw [Bool.or_false,decide_eq_decide.mpr (eq_comm (a:=q) (b:=Sum.inr x))]
   have e2:(if hasK (kP val i) (Sum.inr x)=true then (kP val i).length else (kP val i).length+1)=(kP val (i+1)).length:=by
    rw [kP,ev];split
    ·rfl
    ·rw [aj];rfl
   rw [e1,e2] at h2;exact h2
  refine aQ ⟨plainId_quiet lI _,upd_loop W S hS val hv hb k (i+1) _ (by lia) hlt (W.frame _ s' _ _ st' (jZ _) fun b q o e=>?_) h3 fun s2 hm2 q2=>?_⟩
  ·rw [sb.2 b fun z=>hS (by rw [←z];exact q)];exact e
  ·refine hR s2 (Moved.trans W.gtrans ((hm.mono up).then_heap (jZ _) fun b o q e=>?_) hm2) q2
   rw [sb.2 b fun z=>q (by rw [z];exact bG)];exact e
end
set_option maxRecDepth 100000 in
set_option maxHeartbeats 3200000 in
theorem set_tuple {l:ak}{its:Array ag}{val:Nat→Key}
  (hh:A.handled=none) (hl:s.heap.IsTuple l its) (hv:∀ (i:Nat) v,its[i]? =some v→∃ x t,v= .str x t∧val i= .inr x) (hb:its.size+1<scanBound)
  (h:∀ (h':bX) (tk:Nat),SetK P w h' s.heap.objs.size (kP val its.size)→(∀ b o,b<s.heap.objs.size→s.heap.get? b=some o→h'.get? b=some o)→Q (.ref s.heap.objs.size) { s with heap:=h',toks:=tk }) :
  bo (bQ P w) A (call (.type "set") [.ref l]) Q E s:=by
 obtain ⟨c1,c2,mro1⟩:=PySem.F.called_set.mro;have made1:=PySem.F.called_set.made;have sub1:=PySem.F.called_set.sub;refine wpAny_call (codeAny_of_tree ?_);show bo _ _ (callAny (.type "set") _) _ _ _;refine aQ ⟨Code.quiet_builtin _ (by trivial),codeAny_builtin PySem.F.entry_type_call ?_⟩;rw [b9.under_plain (weight_type_call_type "set" [.ref l] []) rfl];have no1:=PySem.F.called_set.notType;have can1:=PySem.F.called_set.canCreate;have ty1:=PySem.F.typeCall_set_1 (.ref l)
 repeat (any_goals (first | assumption | wp_step))
 refine codeAny_mono (code_set_new_1 (.ref l) (E:=E) (Q₁:=fun obj s₁=>∃ led:Bool,obj= .ref s.heap.objs.size∧s₁={ s with heap:=s.heap.push { cls:= .type "set",dict:=none,data:= .set #[] 0 (.fresh 0 0 led) } }) fun led=>⟨led,rfl,rfl⟩) fun r s₁ hr=>?_
 cases r with
 | error e=>exact hr
 | ok fl =>
  cases fl with
  | ret obj =>
   obtain ⟨led,rfl,rfl⟩:=hr;have g1:(s.heap.push { cls:= .type "set",dict:=none,data:= .set #[] 0 (.fresh 0 0 led) }).get? s.heap.objs.size=some { cls:= .type "set",dict:=none,data:= .set #[] 0 (.fresh 0 0 led) }:=aJ _ rfl;have g2:ar.TypeIs { s with heap:=s.heap.push { cls:= .type "set",dict:=none,data:= .set #[] 0 (.fresh 0 0 led) } } (.ref s.heap.objs.size) "set" := ⟨_,g1,rfl⟩;have i1:=PySem.F.called_set.init.lookup;have i2:=PySem.F.called_set.init.bind (.ref s.heap.objs.size)
   repeat (any_goals (first | assumption | wp_step))
   refine codeAny_mono (codeAny_call_builtin (R:=wants (fun r s₂=>r= .none∧∃ h' tk,s₂={ s with heap:=h',toks:=tk }∧SetK P w h' s.heap.objs.size (kP val its.size)∧(∀ b o,b<s.heap.objs.size→s.heap.get? b=some o→h'.get? b=some o)) E) PySem.F.called_set.init.plain PySem.F.entry_set_init (check_set_init_1 g2 ?_)) fun r₂ s₂ hr₂=>?_
   ·obtain ⟨ol,hol,hcl,nl,hdl⟩:=hl
    obtain ⟨ocls,odict,odata,oslots⟩:=ol;simp only at hcl hdl;subst hcl;subst hdl;have g3:(s.heap.push { cls:= .type "set",dict:=none,data:= .set #[] 0 (.fresh 0 0 led) }).get? l=some { cls:= .type "tuple",dict:=odict,data:= .seq its nl,slots:=oslots }:=ao _ hol;have n1:=PySem.F.sub_tuple_set;have n2:=PySem.F.sub_tuple_frozenset;have n3:(ag.type "tuple" == ag.type "dict")=false:=by decide
    have l1:(s.heap.push { cls:= .type "set",dict:=none,data:= .set #[] 0 (.fresh 0 0 led) }).IsTuple l its:=⟨_,g3,rfl,nl,rfl⟩;unfold fW.«set.__init__» noKeywords fW.Frozenset.updateFrom;generalize hPI:pyIter=PI
    wp_walk
    subst hPI;refine wpAny_pyIter_tuple l1 ?_;refine al (wpAny_runValue ?_);have lS:l<s.heap.objs.size:=bc hol;have h3:A.in1.in1.in1.handled=none:=by simp [hh]
    have nI:l≠(s.heap.push { cls:= .type "set",dict:=none,data:= .set #[] 0 (.fresh 0 0 led) }).objs.size:=by
     rw [dk];exact cg (Nat.lt_succ_of_lt lS)
    have nS:s.heap.objs.size ∉ [(s.heap.push { cls:= .type "set",dict:=none,data:= .set #[] 0 (.fresh 0 0 led) }).objs.size,l]:=by
     rw [dk];simp only [av,aB,aL,or_false,not_or];exact ⟨cg (Nat.lt_succ_self _),jE lS⟩
    refine upd_loop ((Walks.tuple h3 _ l nI its).toS) s.heap.objs.size nS val hv hb (its.size - 0) 0 _ (by lia) (cz _) ⟨⟨_,aJ _ rfl,rfl,rfl⟩,?_⟩ ?hS0 ?hR
    ·exact l1.at fun o e=>ao _ e
    case hS0 =>
     exact ⟨_,#[],0,_,ao _ g1,⟨rfl,rfl,rfl⟩,rfl,fun e he=>by simp at he,fun k=>by simp [hasK,kP],(by show 0<scanBound;unfold scanBound;lia),rfl,rfl⟩
    case hR =>
     intro s' hm hS';obtain ⟨h',g',d',tk',os'⟩:=s';have eg:g'=s.gens:=hm.gens;have ed:d'=s.drawn:=hm.drawn;have eo:os'=s.os:=hm.os;subst eg;subst ed;subst eo;refine aQ ?_;show bo _ _ (ret ag.none) _ _ _;refine aQ ⟨rfl,h',tk',rfl,hS',fun b o hb e=>?_⟩;have b1:b≠s.heap.objs.size:=cg hb;have b2:b≠(s.heap.push { cls:= .type "set",dict:=none,data:= .set #[] 0 (.fresh 0 0 led) }).objs.size:=by
      rw [dk];exact cg (Nat.lt_succ_of_lt hb)
     exact hm.heap b o (by simp only [av,aB,aL,or_false,not_or];exact ⟨b1,b2⟩) (ao _ (ao _ e))
   ·cases r₂ with
    | error e=>exact hr₂
    | ok fl₂ =>
     cases fl₂ with
     | ret r =>
      obtain ⟨rfl,h',tk,rfl,hS',hk'⟩:=hr₂
      repeat (any_goals (first | assumption | wp_step))
      exact h _ _ hS' hk'
     | _=>exact hr₂.elim
  | _=>exact hr.elim
def isSet (P:aK)(w:br)(a:ak)(l:List Key):HO:= .ext fun h=>SetK P w h a l
def sAtK (ns:List Str)(i:Nat):Key:= .inr (ns.getD i ef)
theorem call_setT (hc:X.calm=true):iK X (.type "set") (fun xs H Q=>∃ (p:ak) (ns:List Str),xs=[.ref p]∧SqT X.K H p (ns.map V.str)∧ns.length≤1000∧∀ a,H a=none→Q (.ref a) (upd H a (isSet X.prog X.w a (kP (sAtK ns) ns.length)))):=by
 intro aI s σ H xs us Q I r h;obtain ⟨p,ns,rfl,hq,hn,q⟩:=h;obtain ⟨u,rfl,ru⟩:=lG r;cases (show u=ag.ref p from ru);obtain ⟨its,rv,pl,hz⟩:=I.tuple hq;have hl:its.length=ns.length:=by rw [←rv.length,ae]
 have hl2:its.toArray.size=ns.length:=by rw [aA,hl]
 refine set_tuple (val:=sAtK ns) (I.ok.hd hc) pl (fun i v hv=>?_) (by rw [hl2];show ns.length+1<4096;lia) fun h' tk hs hk=>?_
 ·have hv:its[i]? =some v:=by simpa using hv
  have hi:i<ns.length:=by rw [←hl];exact (ah.mp hv).1
  obtain ⟨u,hu,ru⟩:=rv.get (i:=i) (x:= .str ns[i]) (by rw [ax,gE hi];rfl);rw [hv] at hu;cases hu;obtain ⟨t,rfl⟩:=(show ∃ t,v=ag.str ns[i] t from ru);exact ⟨_,t,rfl,by unfold sAtK;rw [bh,gE hi];rfl⟩
 ·rw [hl2] at hs
  exact ⟨.ref s.heap.objs.size,_,I.laid (t':=tk) (o:=isSet X.prog X.w s.heap.objs.size (kP (sAtK ns) ns.length)) (fun b u e=>hk b u (bc e) e) (az _) ⟨hs,(let ⟨o,_,_,_,ho,_⟩:=hs;⟨o,ho⟩),fun h1 h2 x k=>x.at k⟩,rfl,q _ I.fresh⟩
theorem call_lenK:iK X (.builtin "len") (fun xs H Q=>∃ (a:ak) (l:List Key),xs=[.ref a]∧H a=some (isSet X.prog X.w a l)∧Q (.int l.length) H):=by
 intro aI s σ H xs us Q I r h;obtain ⟨a,l,rfl,ha,q⟩:=h;obtain ⟨u,rfl,ru⟩:=lG r;cases (show u=ag.ref a from ru);obtain ⟨⟨o,es,ep,t,e1,e2,e3,_,_,e4,e5,e6⟩,_,_⟩:=I.hok a _ ha;have e4:es.size<4096:=e4;refine call_len_set e1 e2 e3 e5 (by lia) ?_;rw [←e6] at q;exact ⟨.int es.size,H,I.tok _,⟨_,rfl⟩,q⟩
end L2
namespace HN
open PySem L2 PyProof.Rows HT2
abbrev sTakeL:cN:=clsOf cPla 5
structure LinM (P:aK)(w:br)(K:ai)(mg:Str→Option ag)(base:bX)(C fi:ak)(di:aZ):Prop where
 mke:Mk K C fi
 gl:mg "Line" =some (.ref C)
 f:c7 P w K mg base CX0 1 fi di pzr (spInitL C)
 b:Binds K di pzr []
structure PlaK (P:aK)(w:br)(K:ai)(mg:Str→Option ag)(base:bX)(CP CL fh fs:ak)(dh ds:aZ):Prop where
 cc:PlaC K CP
 m1:pA K CP "happenings" fh
 f1:c7 P w K mg base CX0 1 fh dh pza (spHap CP CL)
 b1:Binds K dh pza []
 m2:pA K CP "is_small" fs
 f2:c7 P w K mg base CX0 4 fs ds pza (spSmall CP CL)
 b2:Binds K ds pza []
def small (zs:List LX)(bt:List Sn):Bool:=decide (mP zs≤16) && decide ((allS zs bt).length≤40)
inductive spTakeL (CP CL:ak)(vs:List V)(H:Hp)(Q:VK)(_:XK):Prop
 | mk (H0:Hp)(p q DL LB:ak)(b:Int)(zs:List LX)(bt:List Sn)(n:Str)(ss:List Str)(rs:List Int)(_:vs=[.ref p,.ref q])(_:PlI CP CL H0 H p b zs bt DL LB)(_:zs.length≤90)(_:bt.length≤90)(_:(PR.line n ss rs).at H q)(_:2≤ss.length)(_:ss.length≤1000)(_:ss.length=rs.length+1)(_:((n∈zs.map (·.1.n)∨¬ ss.Nodup)→∀ H',b8 H H'→Q (.bl false) H'))(_:(n ∉ zs.map (·.1.n)→ss.Nodup→∀ x D H',PlI CP CL H0 H' p b (zs++[(⟨n,ss,rs,[],mP zs⟩,x,D)]) bt DL LB→Q (.bl (small (zs++[(⟨n,ss,rs,[],mP zs⟩,x,D)]) bt)) H'))
theorem linK_no {n:Str}(h:n ∉ zs.map (·.1.n)):kC (j7 zs) (.inr n)=none:=by
 induction zs with
 | nil=>rfl
 | cons z zs ih =>
  rw [aT,av,not_or] at h;show kC ((.inr z.1.n,.ref z.2.1)::j7 zs) (.inr n)=none;rw [ic (fun e=>h.1 (by injection e with e;exact e.symm))];exact ih h.2
theorem nK {z:LX}(nn:(zs.map (·.1.n)).Nodup)(h:z∈zs):kC (j7 zs) (.inr z.1.n)=some (.ref z.2.1):=by
 induction zs with
 | nil=>cases h
 | cons y zs ih =>
  rw [aT,bH] at nn;show kC ((.inr y.1.n,.ref y.2.1)::j7 zs) (.inr z.1.n)=_
  rcases av.mp h with e | e
  ·subst e;exact iC rfl
  ·rw [ic (fun q=>nn.1 (by injection q with q;exact aG.mpr ⟨z,e,q.symm⟩))]
   exact ih nn.2 e
theorem putK_new {kvs:List (Key×V)}{k:Key}(h:kC kvs k=none):putK kvs k v=kvs++[(k,v)]:=by
 unfold putK;rw [lY,h];rfl
theorem str_nd:(kP (sAtK ss) ss.length).length=ss.length↔ss.Nodup:=by
 constructor
 ·intro h
  refine fe.mpr fun i j hi hj hij e=>?_
  have:=metK_lt (val:=sAtK ss) hij (by unfold sAtK;rw [bh,bh,gE hi,gE hj,e]) hj;lia
 ·intro nd
  refine metK_nd fun i j hij hj e=>?_
  unfold sAtK at e;rw [bh,bh,gE (Nat.lt_trans hij hj),gE hj] at e;injection e with e
  exact (fe.mp nd) i j _ hj hij e
theorem setTK (P:aK)(w:br)(K:ai)(hc:X.calm=true)(hP:X.prog=P:=by rfl)(hw:X.w=w:=by rfl)(hK:X.K=K:=by rfl):iK X (.type "set") (fun xs H Q=>∃ (p:ak) (ns:List Str),xs=[.ref p]∧SqT K H p (ns.map V.str)∧ns.length≤1000∧∀ a,H a=none→Q (.ref a) (upd H a (isSet P w a (kP (sAtK ns) ns.length)))):=by subst hP hw hK;exact call_setT hc
theorem lenSK (P:aK)(w:br)(hP:X.prog=P:=by rfl)(hw:X.w=w:=by rfl):iK X (.builtin "len") (fun xs H Q=>∃ (a:ak) (l:List Key),xs=[.ref a]∧H a=some (isSet P w a l)∧Q (.int l.length) H):=by subst hP hw;exact call_lenK
theorem scTakeL:cp ["self","row","name","stops"] pzb (defScope sTakeL):=by trivial
theorem ok_takeL {fi fh fs:ak}{di ds:aZ}(F:Fun K "take_line" "Plan.take_line" sTakeL f fd)(T:Nm mg)(hset:mg "set" =none)(PK:PlaK P w K mg base CP CL fh fs dh ds)(LM:LinM P w K mg base CL fi di):c7 P w K mg base CX0 5 f fd pzb (spTakeL CP CL):=by
 refine F.ok scTakeL (by contradiction) (fun cdv A outer s H vs Q E hr h=>?_);obtain ⟨H0,p,q,DL,LB,b,zs,bt,n,ss,rs,rfl,I,f1,f2,⟨a,b',ha,hb,hq⟩,two,few,rl,kn,ky⟩:=h;have u1:=gZ (iP (show 1≤64 by decide) _) hr.units;refine ⟨_,PSl.h (bq ⟨(psZ 2 scTakeL.nd (ixZ (pv 1)))⟩ (bq ⟨(psZ 3 scTakeL.nd (ixZ (pv 1)))⟩
  (bq ⟨(eX (PW.pt (j6 (pt_cmp (pc_din u1 (pv 2) (eR (pv 0) rfl)) rfl) (je (bK nk (bU (lenSK P w) rfl T.len aR (af (eS (setTK P w K rfl) rfl hset boot_set (af (pv 3) aw)) aw)) (bU bM rfl T.len aR (af (pv 3) aw)) (cb _))))) (bB (bZ lO)) cv)⟩
  (bq ⟨(ps_dput u1 (eR (pv 0) rfl) (pv 2) (pe_make LM.mke LM.f (hr.mono (by decide)) rfl LM.gl LM.b .nil hV (af (pv 2) (af (pv 3) (af (ixZ (pv 1)) (af (iF (pv 0) PK.cc.cl PK.m1 PK.f1 (hr.mono (by decide)) PK.b1 .nil hV) aw))))) rfl)⟩
  (fu ⟨(bZ (iF (pv 0) PK.cc.cl PK.m2 PK.f2 hr PK.b2 .nil hV))⟩))))),?_⟩
 obtain ⟨dp,hp⟩:=I.pl;have CC:=PK.cc;refine ⟨_,rfl,q,_,_,_,rfl,rfl,SqT.of hq,aE (j:=1) rfl,?_⟩;refine ⟨_,rfl,q,_,_,_,rfl,rfl,SqT.of hq,aE (j:=2) rfl,?_⟩;refine ⟨_,rfl,_,rfl,p,CP,dp,_,_,rfl,hp,CC.cl,CC.n2,rfl,DL,_,rfl,.inl ⟨_,.inr n,.inl I.dl,rfl,rfl⟩,_,rfl,jj (fun hc=>?_) (fun hc=>?_)⟩
 ·refine kn (.inl ?_) H (b8.refl H)
  refine Classical.byContradiction fun no=>?_
  rw [linK_no no] at hc;cases hc
 have hn:n ∉ zs.map (·.1.n):=fun hm=>hc (by
  obtain ⟨z,hz,rfl⟩:=aG.mp hm;rw [nK I.nn hz];rfl)
 refine ⟨_,rfl,a,ss,rfl,SqT.of ha,few,fun sa hsa=>?_⟩;have S1:b8 H (upd H sa (isSet P w sa (kP (sAtK ss) ss.length))):=b8.put (b8.refl H) hsa;have h1:(upd H sa (isSet P w sa (kP (sAtK ss) ss.length))) sa=some (isSet P w sa (kP (sAtK ss) ss.length)):=aP;generalize upd H sa (isSet P w sa (kP (sAtK ss) ss.length))=H1 at S1 h1 ⊢;refine ⟨sa,_,rfl,h1,_,rfl,a,_,rfl,.inr (SqT.of (S1 _ _ ha)),rfl,_,rfl,jj (fun hc=>?_) (fun hc=>?_)⟩
 ·refine kn (.inr fun nd=>?_) H1 S1
  rw [str_nd.mpr nd,ae] at hc;exact pF hc (by simp)
 have nd:ss.Nodup:=by
  refine str_nd.mp ?_;have hc:¬ (!decide (V.int ((kP (sAtK ss) ss.length).length:Int)=V.int ((ss.map V.str).length:Int)))=true:=hc;rw [Bool.not_eq_true,Bool.not_eq_false'] at hc;have:=pI hc;injection this with this
  rw [ae] at this;lia
 have I1:=I.same S1;obtain ⟨dp1,hp1⟩:=I1.pl;refine ⟨_,rfl,_,rfl,_,rfl,q,_,_,_,rfl,rfl,SqT.of (S1 _ _ hq),aE (j:=3) rfl,_,rfl,p,dp1,_,rfl,hp1,rfl,H0,p,DL,LB,b,zs,bt,rfl,I1,⟨by lia,by lia⟩,fun H2 S2=>?_⟩;intro x dx hx hdx dxx;refine ⟨x,dx,a,b',n,mP zs,rfl,aP,fun D H3 k3 hD hD3 hx3=>⟨rfl,?_⟩⟩;have S12:=S1.trans S2;have I2:=I1.same S2;have e2:∀ c o,H2 c=some o→H3 c=some o:=fun c o e=>by
  refine k3 c o (aV e hx) ?_;rw [aX (aV e hx),aX (aV e hdx)];exact e
 have S23:b8 H2 H3:=fun c o e=>e2 c o e
 have hD2:H2 D=none:=by
  cases e:H2 D with
  | none=>rfl
  | some o =>
   rw [aX (aV e hx),aX (aV e hdx),e] at hD;cases hD
 have I3:=I2.same S23;obtain ⟨dp3,hp3⟩:=I3.pl;refine ⟨_,rfl,p,CP,dp3,_,_,rfl,hp3,CC.cl,CC.n2,rfl,_,rfl,DL,_,rfl,.inl ⟨_,.inr n,I3.dl,rfl,?_,rfl⟩,?_⟩
 ·show (j7 zs).length<au
  unfold j7;rw [ae];have:(100000:Nat)≤au:=by decide
  lia
 rw [putK_new (linK_no hn)];have ez:j7 zs++[(.inr n,.ref x)]=j7 (zs++[(⟨n,ss,rs,[],mP zs⟩,x,D)]):=by unfold j7;rw [aq];rfl
 rw [ez];have k4:∀ c o,c≠DL→H3 c=some o→(upd H3 DL (.dK (j7 (zs++[(⟨n,ss,rs,[],mP zs⟩,x,D)])))) c=some o:=fun c o hc e=>by rw [aX hc];exact e
 have h4:(upd H3 DL (.dK (j7 (zs++[(⟨n,ss,rs,[],mP zs⟩,x,D)])))) DL=some (.dK (j7 (zs++[(⟨n,ss,rs,[],mP zs⟩,x,D)]))):=aP;generalize upd H3 DL (.dK (j7 (zs++[(⟨n,ss,rs,[],mP zs⟩,x,D)])))=H4 at k4 h4 ⊢;have DDL:D≠DL:=fun z=>by rw [z,I2.dl] at hD2;cases hD2
 have kT:∀ c xs,H3 c=some (.tup xs)→H4 c=some (.tup xs):=fun c xs e=>k4 _ _ (de e I3.dl nofun) e
 have kI:∀ c C dx fs,H3 c=some (.ins C dx fs)→H4 c=some (.ins C dx fs):=fun c C dx fs e=>k4 _ _ (de e I3.dl nofun) e
 have A4:LnA H4 CL x D ⟨n,ss,rs,[],mP zs⟩:=⟨⟨dx,a,b',kI _ _ _ _ hx3,kT _ _ (e2 _ _ (S12 _ _ ha)),kT _ _ (e2 _ _ (S12 _ _ hb))⟩,⟨[],k4 _ _ DDL hD3,rfl,fun z=>⟨(fun v hv=>by cases hv),(fun _=>⟨rfl,by simp⟩),(fun hv=>by cases hv)⟩⟩,nd,two,few,rl⟩;have n0:H0 D=none:=by
  cases e:H0 D with
  | none=>rfl
  | some o=>rw [I2.S _ _ e] at hD2;cases hD2
 have I4:PlI CP CL H0 H4 p b (zs++[(⟨n,ss,rs,[],mP zs⟩,x,D)]) bt DL LB:=by
  obtain ⟨ys,hB,dB⟩:=I3.lb;refine ⟨fun c o e=>k4 _ _ (aV e I3.nL) (I3.S _ _ e),⟨dp3,kI _ _ _ _ hp3⟩,I3.nL,I3.nB,fun z hz=>?_,h4,fun z hz=>?_,?_,?_,ys,k4 _ _ (de hB I3.dl nofun) hB,?_⟩
  ·rcases bg.mp hz with hz | hz
   ·exact I3.nD z hz
   ·rw [aB.mp hz];exact n0
  ·rcases bg.mp hz with hz | hz
   ·have A:=I3.ln z hz
    obtain ⟨kvs,d1,_⟩:=A.s.ex;have nz:z.2.2≠DL:=fun e=>(bH.mp I3.nd).1 (aG.mpr ⟨z,hz,e⟩)
    exact A.kept kT kI ((k4 _ _ nz d1).trans d1.symm)
   ·rw [aB.mp hz];exact A4
  ·rw [aq,bH]
   obtain ⟨m1,m2⟩:=bH.mp I3.nd;refine ⟨fun hm=>?_,List.nodup_append.mpr ⟨m2,by simp,fun c hc d hd e=>?_⟩⟩
   ·rcases bg.mp hm with hm | hm
    ·exact m1 hm
    ·exact DDL (aB.mp hm).symm
   ·have hd:d=D:=by simpa using hd
    subst hd;subst e;obtain ⟨z,hz,ez⟩:=aG.mp hc;obtain ⟨kvs,d1,_⟩:=(I2.ln z hz).s.ex;rw [ez,hD2] at d1;cases d1
  ·rw [aq]
   refine List.nodup_append.mpr ⟨I3.nn,by simp,fun c hcc d hd e=>?_⟩;have hd:d=n:=by simpa using hd
   rw [e,hd] at hcc;exact hn hcc
  ·have fin:∀ {vs:List V} {sp:List Sn},gP H3 vs (sp.map snD)→gP H4 vs (sp.map snD):=by
    intro vs sp
    induction sp generalizing vs with
    | nil=>intro h;cases h;exact .nil
    | cons x sp ih =>
     intro h;cases h with
     | cons h r =>
      obtain ⟨a,us,rfl,ha,rz⟩:=h.tup_of;have ez:=gP.ints_of rz;subst ez;exact .cons (.tup (kT _ _ ha) (gP.ints _)) (ih r)
   exact fin dB
 obtain ⟨dp4,hp4⟩:=I4.pl;refine ⟨_,rfl,p,dp4,_,rfl,hp4,rfl,H0,p,DL,LB,b,_,bt,rfl,I4,⟨by rw [aj];show zs.length+1≤100;lia,by lia⟩,fun H5 S5=>ky hn nd x D H5 (I4.same S5)⟩
abbrev sChange:cN:=top 31
abbrev sBtw:cN:=clsOf cPla 7
abbrev sTakeB:cN:=clsOf cPla 8
abbrev sTakeP:cN:=clsOf cPla 9
inductive spChange (C:ak)(vs:List V)(H:Hp)(Q:VK)(_:XK):Prop
 | mk (l o w:Int)(x y p:ak)(n1 n2 z:Str)(ss tt:List Str)(rs us:List Int)(fi gi:Int)(i j:Nat)(_:vs=[.ref x,.ref y,.ref p])(_:LnOk H C x ss rs fi)(_:LnOk H C y tt us gi)(_:H p=some (.tup [.str "change",.str n1,.str n2,.str z,.int l,.int o,.int w]))(_:ss[i]? =some z)(_:1≤i)(_:tt[j]? =some z)(_:j+1<tt.length)(_:∀ q H',b8 H H'→H' q=some (.tup [.int (fi+2 * i - 1),.int (gi+2 * j),.int l,.int o,.int w])→Q (.ref q) H')
inductive Bt (b:Int)(x y:Ln):Str→List Str→List Int→Sn→Prop
 | change {z:Str} {l o w:Int} {i j:Nat} (h1:x.ss[i]? =some z) (h2:1≤i) (h3:y.ss[j]? =some z) (h4:j+1<y.ss.length):Bt b x y "change" [x.n,y.n,z] [l,o,w] ⟨x.fi+2 * i - 1,y.fi+2 * j,l,o,w⟩
 | apart {z:Str} {d:Int} {i j:Nat} (h1:x.ss[i]? =some z) (h2:i+1<x.ss.length) (h3:y.ss[j]? =some z) (h4:j+1<y.ss.length):Bt b x y "apart" [x.n,y.n,z] [d] ⟨x.fi+2 * i,y.fi+2 * j,d,b - d,0⟩
 | meet {z z2:Str} {d r u:Int} {i j:Nat} (h1:x.ss[i]? =some z) (h2:x.ss[i+1]? =some z2) (h3:x.rs[i]? =some r) (h4:y.ss[j]? =some z2) (h5:y.ss[j+1]? =some z) (h6:y.rs[j]? =some u):Bt b x y "meet" [x.n,y.n,z,z2] [d] ⟨x.fi+2 * i,y.fi+2 * j,r+d,b - u - d,0⟩
def Btw (b:Int)(ls:List Ln)(k:Str)(ns:List Str)(is:List Int)(sn:Sn):Prop:=∃ x y:Ln,x∈ls∧y∈ls∧x.n≠y.n∧Bt b x y k ns is sn
inductive spBtw (CP CL:ak)(vs:List V)(H:Hp)(Q:VK)(_:XK):Prop
 | mk (H0:Hp)(p q DL LB:ak)(b:Int)(zs:List LX)(bt:List Sn)(k:Str)(ns:List Str)(is:List Int)(sn:Sn)(_:vs=[.ref p,.ref q])(_:PlI CP CL H0 H p b zs bt DL LB)(_:(PR.oth k ns is).at H q)(_:Btw b (zs.map (·.1)) k ns is sn)(_:∀ t H',b8 H H'→H' t=some (.tup [.int sn.s,.int sn.g,.int sn.l,.int sn.o,.int sn.w])→Q (.ref t) H')
def snB (b m:Int)(x:Sn):Bool:=lU m (.int x.s) (.int x.g) && (ow b (.int x.l) (.int x.o) && inI (.int x.w) 0 1000000000000)
inductive spTakeB (CP CL:ak)(vs:List V)(H:Hp)(Q:VK)(_:XK):Prop
 | mk (H0:Hp)(p q DL LB:ak)(b:Int)(zs:List LX)(bt:List Sn)(k:Str)(ns:List Str)(is:List Int)(sn:Sn)(_:vs=[.ref p,.ref q])(_:PlI CP CL H0 H p b zs bt DL LB)(_:zs.length≤90)(_:bt.length≤90)(_:(PR.oth k ns is).at H q)(_:Btw b (zs.map (·.1)) k ns is sn)(_:∀ H',PlI CP CL H0 H' p b zs (bt++[sn]) DL LB→Q (.bl (snB b (mP zs) sn && small zs (bt++[sn]))) H')
theorem LnA.ok {x:ak}(A:LnA H C x D l):LnOk H C x l.ss l.rs l.fi:=⟨⟨D,l.n,A.d⟩,A.nd,A.two,A.few,A.rl⟩
theorem scChange:cp pzt pzt (defScope sChange):=by trivial
theorem ok_change {fc fg fr:ak}(F:Fun K "change_span" "change_span" sChange f fd)(CK:LinK P w K mg base C fc fg fr dc dg dr):c7 P w K mg base CX0 2 f fd pzt (spChange C):=by
 refine F.ok scChange (by contradiction) (fun cdv A outer s H vs Q E hr h=>?_);obtain ⟨l,o,w,x,y,p,n1,n2,z,ss,tt,rs,us,fi,gi,i,j,rfl,hx,hy,hp,e1,e2,e3,e4,k⟩:=h;refine ⟨_,bB (bZ (eP (af (gF (pv 0) CK.cc.cl CK.m1 CK.f1 hr CK.b1 .nil hV (af (ixZ (pv 2)) aw)) (af (gF (pv 1) CK.cc.cl CK.m2 CK.f2 hr CK.b2 .nil hV (af (ixZ (pv 2)) aw)) (af (ixZ (pv 2)) (af (ixZ (pv 2)) (af (ixZ (pv 2)) aw))))))),?_⟩;obtain ⟨⟨D,n,L⟩,nd,two,few,_⟩:=hx;obtain ⟨dx,a,b,hx1,_⟩:=id L;refine ⟨_,rfl,x,dx,_,rfl,hx1,rfl,_,rfl,p,_,_,_,rfl,rfl,SqT.of hp,aE (j:=3) rfl,x,D,n,z,ss,rs,fi,rfl,L,few,two,nd,fun H1 S1=>⟨fun i' a1 a2=>?_,fun no=>pF (no i e1) (by lia)⟩⟩;obtain rfl:=(iU nd e1 a1).symm;obtain ⟨⟨D2,n2',L2'⟩,nd2,two2,few2,_⟩:=hy.kept S1;obtain ⟨dy,a3,b3,hy1,_⟩:=id L2';refine ⟨_,rfl,y,dy,_,rfl,hy1,rfl,_,rfl,p,_,_,_,rfl,rfl,SqT.of (S1 _ _ hp),aE (j:=3) rfl,y,D2,n2',z,tt,us,gi,rfl,L2',few2,two2,nd2,fun H2 S2=>⟨fun j' a1' a2'=>?_,fun no=>pF (no j e3) (by lia)⟩⟩;obtain rfl:=(iU nd2 e3 a1').symm;have hp2:=S2 _ _ (S1 _ _ hp);refine ⟨_,rfl,p,_,_,_,rfl,rfl,SqT.of hp2,aE (j:=4) rfl,_,rfl,p,_,_,_,rfl,rfl,SqT.of hp2,aE (j:=5) rfl,_,rfl,p,_,_,_,rfl,rfl,SqT.of hp2,aE (j:=6) rfl,szZ5,fun q H3 S3 e=>?_⟩;exact k q H3 (S1.trans (S2.trans S3)) e
theorem scBtw:cp ["self","row","one","other"] pzb (defScope sBtw):=by trivial
theorem ok_btw {f3:ak}{d3:aZ}(F:Fun K "span_between" "Plan.span_between" sBtw f fd)(CC:PlaC K CP)(G1:Fn K mg "change_span" sChange pzt f1 d1)(F1:c7 P w K mg base CX0 2 f1 d1 pzt (spChange CL))
  (G2:Fn K mg "apart_span" sApart pzk f2 d2) (F2:c7 P w K mg base CX0 2 f2 d2 pzk (spApart CL)) (G3:Fn K mg "meet_span" sMeet pzk f3 d3) (F3:c7 P w K mg base CX0 2 f3 d3 pzk (spMeet CL)):c7 P w K mg base CX0 3 f fd pzb (spBtw CP CL):=by
 refine F.ok scBtw (by contradiction) (fun cdv A outer s H vs Q E hr h=>?_);obtain ⟨H0,p,q,DL,LB,b,zs,bt,k,ns,is,sn,rfl,I,hq,B,kk⟩:=h;have u1:=gZ (iP (show 1≤64 by decide) _) hr.units;refine ⟨_,PSl.h (bq ⟨(psZ 2 scBtw.nd (pe_dget1 u1 (eR (pv 0) rfl) (ixZ (pv 1)) ⟨rfl,rfl,rfl,rfl⟩))⟩ (bq ⟨(psZ 3 scBtw.nd (pe_dget1 u1 (eR (pv 0) rfl) (ixZ (pv 1)) ⟨rfl,rfl,rfl,rfl⟩))⟩
  (bq ⟨(eX (PW.pt (j6 (bK om (pv 2) gT (cb _)) (j6 (bK om (pv 3) gT (cb _)) (je (bK iT (ixZ (pv 1)) (ixZ (pv 1)) (cb _)))))) (bB (bZ gT)) cv)⟩
  (bq ⟨(eX (bK iT (ixZ (pv 1)) dv (cb _)) (bB (bZ (pc1 G1 F1 hr (af (pv 2) (af (pv 3) (af (pv 1) aw)))))) cv)⟩
  (bq ⟨(eX (bK iT (ixZ (pv 1)) dv (cb _)) (bB (bZ (pc1 G2 F2 hr (af (eR (pv 0) rfl) (af (pv 2) (af (pv 3) (af (pv 1) aw))))))) cv)⟩
  (fu ⟨(bZ (pc1 G3 F3 hr (af (eR (pv 0) rfl) (af (pv 2) (af (pv 3) (af (pv 1) aw))))))⟩)))))),?_⟩
 obtain ⟨dp,hp⟩:=I.pl;have dl:=I.dl;obtain ⟨x',y',hx',hy',ne,B⟩:=B;obtain ⟨x,hx,rfl⟩:=aG.mp hx';obtain ⟨y,hy,rfl⟩:=aG.mp hy';obtain ⟨r,hq'⟩:∃ r:List V,H q=some (.tup (.str k:: .str x.1.n:: .str y.1.n::r)):=by
  cases B with
  | change=>exact ⟨_,hq⟩
  | apart=>exact ⟨_,hq⟩
  | meet=>exact ⟨_,hq⟩
 refine ⟨_,rfl,p,CP,dp,_,_,rfl,hp,CC.cl,CC.n2,rfl,DL,rfl,.inl ⟨_,.inl dl⟩,_,rfl,q,_,_,_,rfl,rfl,SqT.of hq',aE (j:=1) rfl,_,.inl ⟨_,.inr x.1.n,.inl dl,rfl,rfl⟩,?_⟩;rw [nK I.nn hx];refine ⟨_,rfl,p,CP,dp,_,_,rfl,hp,CC.cl,CC.n2,rfl,DL,rfl,.inl ⟨_,.inl dl⟩,_,rfl,q,_,_,_,rfl,rfl,SqT.of hq',aE (j:=2) rfl,_,.inl ⟨_,.inr y.1.n,.inl dl,rfl,rfl⟩,?_⟩;rw [nK I.nn hy];refine ⟨_,rfl,rfl,_,rfl,iL (pH nofun) ⟨_,rfl,rfl,_,rfl,iL (pH nofun) ?_⟩⟩;refine ⟨_,rfl,q,_,_,_,rfl,rfl,SqT.of hq',aE (j:=1) rfl,_,rfl,q,_,_,_,rfl,rfl,SqT.of hq',aE (j:=2) rfl,rfl,_,rfl,iL (pH fun z=>ne (by injection z)) ?_⟩;have Ax:=(I.ln x hx).ok;have Ay:=(I.ln y hy).ok;refine ⟨_,rfl,q,_,_,_,rfl,rfl,SqT.of hq',aE (j:=0) rfl,rfl,_,rfl,?_⟩;cases B with
 | change h1 h2 h3 h4 =>
  refine oA (pG rfl) ?_;exact ⟨_,rfl,_,rfl,_,rfl,_,_,_,_,_,q,_,_,_,_,_,_,_,_,_,_,_,rfl,Ax,Ay,hq,h1,h2,h3,h4,kk⟩
 | apart h1 h2 h3 h4 =>
  refine iL (by trivial) ?_;refine ⟨_,rfl,q,_,_,_,rfl,rfl,SqT.of hq',aE (j:=0) rfl,rfl,_,rfl,oA (pG rfl) ?_⟩;exact ⟨_,rfl,p,CP,dp,_,_,rfl,hp,CC.cl,CC.n1,rfl,_,rfl,_,rfl,_,rfl,b,_,_,_,q,_,_,_,_,_,_,_,_,_,_,_,rfl,Ax,Ay,hq,h1,h2,h3,h4,kk⟩
 | meet h1 h2 h3 h4 h5 h6 =>
  refine iL (by trivial) ?_;refine ⟨_,rfl,q,_,_,_,rfl,rfl,SqT.of hq',aE (j:=0) rfl,rfl,_,rfl,iL (by trivial) ?_⟩;exact ⟨_,rfl,p,CP,dp,_,_,rfl,hp,CC.cl,CC.n1,rfl,_,rfl,_,rfl,_,rfl,b,_,_,_,_,_,q,_,_,_,_,_,_,_,_,_,_,_,_,rfl,Ax,Ay,hq,h1,h2,h3,h4,h5,h6,kk⟩
theorem sn_at {t:ak}{x:Sn}(h:H t=some (.tup [.int x.s,.int x.g,.int x.l,.int x.o,.int x.w]))(b m:Int):ju H b m (.ref t)=snB b m x:=by
 simp only [ju,h];rfl
theorem sn_g1 {t:ak}{x:Sn}(h:H t=some (.tup [.int x.s,.int x.g,.int x.l,.int x.o,.int x.w])):G1 H (.ref t):=by
 refine ⟨⟨"tuple",by simp only [tyn,h]⟩,fun a xs ev ha x hx=>?_⟩;injection ev with ev
 subst ev;rw [h] at ha;injection ha with ha
 injection ha with ha
 subst ha;simp only [av,aL,or_false] at hx
 rcases hx with rfl | rfl | rfl | rfl | rfl <;> exact ⟨"int",rfl⟩
theorem scTakeB:cp ["self","row","span"] pzb (defScope sTakeB):=by trivial
theorem ok_takeB {fb fh fs:ak}{db ds:aZ}(F:Fun K "take_between" "Plan.take_between" sTakeB f fd)(PK:PlaK P w K mg base CP CL fh fs dh ds)(mb:pA K CP "span_between" fb)(FB:c7 P w K mg base CX0 3 fb db pzb (spBtw CP CL))(bb:Binds K db pzb [])
  (GS:Fn K mg "is_span" sSpan pzj f1 d1) (FS:c7 P w K mg base CX0 4 f1 d1 pzj spSpan):c7 P w K mg base CX0 5 f fd pzb (spTakeB CP CL):=by
 refine F.ok scTakeB (by contradiction) (fun cdv A outer s H vs Q E hr h=>?_);obtain ⟨H0,p,q,DL,LB,b,zs,bt,k,ns,is,sn,rfl,I,f1,f2,hq,B,kk⟩:=h;have CC:=PK.cc;refine ⟨_,PSl.h (bq ⟨(psZ 2 scTakeB.nd (gF (pv 0) CC.cl mb FB (hr.mono (by decide)) bb .nil hV (af (pv 1) aw)))⟩
  (bq ⟨(gD (i9 bf bE bD fj (eR (pv 0) rfl) (af (pv 2) aw)))⟩
  (fu ⟨(bZ (oZ (pc1 GS FS hr (af (eR (pv 0) rfl) (af (iF (pv 0) CC.cl PK.m1 PK.f1 (hr.mono (by decide)) PK.b1 .nil hV) (af (pv 2) aw)))) (pe_one (iF (pv 0) CC.cl PK.m2 PK.f2 hr PK.b2 .nil hV))))⟩))),?_⟩
 obtain ⟨dp,hp⟩:=I.pl;have big:(100000:Nat)≤au:=by decide
 refine ⟨_,rfl,p,dp,_,rfl,hp,rfl,_,rfl,H0,p,q,DL,LB,b,zs,bt,k,ns,is,sn,rfl,I,hq,B,fun t H1 S1 ht=>?_⟩;have I1:=I.same S1;obtain ⟨dp1,hp1⟩:=I1.pl;obtain ⟨ys,hB,dB⟩:=I1.lb;have ly:ys.length=bt.length:=by have:=dB.length;rwa [ae] at this
 refine ⟨_,rfl,p,CP,dp1,_,_,rfl,hp1,CC.cl,CC.n3,rfl,.inl ⟨rfl,_,SqL.of hB⟩,_,rfl,LB,_,_,rfl,rfl,hB,(by lia),?_⟩;have k2:∀ c o,c≠LB→H1 c=some o→(upd H1 LB (.lst (ys++[.ref t]))) c=some o:=fun c o hc e=>by rw [aX hc];exact e
 have h2:(upd H1 LB (.lst (ys++[.ref t]))) LB=some (.lst (ys++[.ref t])):=aP;generalize upd H1 LB (.lst (ys++[.ref t]))=H2 at k2 h2 ⊢;have ht2:=k2 _ _ (de ht hB nofun) ht;have I2:PlI CP CL H0 H2 p b zs (bt++[sn]) DL LB:=by
  refine ⟨fun c o e=>k2 _ _ (aV e I1.nB) (I1.S _ _ e),⟨dp1,k2 _ _ (de hp1 hB nofun) hp1⟩,I1.nL,I1.nB,I1.nD,k2 _ _ (de I1.dl hB nofun) I1.dl,fun z hz=>?_,I1.nd,I1.nn,_,h2,?_⟩
  ·have A:=I1.ln z hz
   obtain ⟨kvs,d1,_⟩:=A.s.ex;exact A.kept (fun b xs e=>k2 _ _ (de e hB nofun) e) (fun b C dx fs e=>k2 _ _ (de e hB nofun) e) ((k2 _ _ (de d1 hB nofun) d1).trans d1.symm)
  ·rw [aq]
   exact (kG dB k2 hB).append (gP.one (snD_at ht2))
 obtain ⟨dp2,hp2⟩:=I2.pl;have fw:Few zs (bt++[sn]):=⟨by lia,by rw [aj];show bt.length+1≤100;lia⟩;refine ⟨_,rfl,p,CP,dp2,_,_,rfl,hp2,CC.cl,CC.n1,rfl,_,rfl,p,dp2,_,rfl,hp2,rfl,H0,p,DL,LB,b,zs,_,rfl,I2,fw,fun H3 S3=>?_⟩;have ht3:=S3 _ _ ht2;refine ⟨_,rfl,b,mP zs,_,rfl,sn_g1 ht3,_,rfl,?_⟩;rw [sn_at ht3];refine jj (fun hc=>?_) (fun hc=>?_)
 ·have I3:=I2.same S3
  obtain ⟨dp3,hp3⟩:=I3.pl;refine ⟨_,rfl,p,dp3,_,rfl,hp3,rfl,H0,p,DL,LB,b,zs,_,rfl,I3,fw,fun H4 S4=>?_⟩;have e:=kk H4 (I3.same S4);rw [hc,gy] at e;exact e
 ·have e:=kk H3 (I2.same S3)
  have hc:snB b (mP zs) sn=false:=by simpa using hc
  rw [hc,Bool.false_and] at e;exact e
end HN
namespace L2
open PySem PySem.Spec PyProof.Rows
theorem enumL_step {z i1:ak}{xs:Array ag}{x:ag}(E0:IsEnum s.heap z i1 k was)(J0:s.heap.IsListIter i1 a k)(T0:s.heap.IsList a xs)(hx:xs[k]? =some x)(hzi:z≠i1)
  (q:∀ g,IsEnumOut g z i1 ((k:Int)+1) x s.heap.objs.size→g.IsListIter i1 a (k+1)→g.get? s.heap.objs.size=some { cls:= .type "tuple",data:= .seq #[.int k s.toks,x] }→g.objs.size=s.heap.objs.size+1 →
   (∀ c o,c≠z→c≠i1→s.heap.get? c=some o→g.get? c=some o)→Q (.ref s.heap.objs.size) { s with heap:=g,toks:=s.toks+1 }) :
  bo (bQ prog w) A (fW.«enumerate.__next__» ⟨[.ref z],[]⟩) (fun fin s'=>∃ v,fin= .done (.ret v)∧Q v s') E s:=by
 obtain ⟨h0,gs,dr,tk,os⟩:=s;show bo _ _ (field (.ref z) 2 >>= _) _ _ _;refine al (cQ E0 rfl (x:= .ref i1) rfl ?_);refine al (wpAny_nextOf_list_item J0 T0 hx fun g1 J1 s1=>?_);have s1:cI i1 h0 g1:=s1;have E1:IsEnum g1 z i1 k was:=(s1.2 z hzi).trans E0;show bo _ _ (field (.ref z) 3 >>= _) _ _ ⟨g1,gs,dr,tk,os⟩;refine al (cQ E1 rfl (x:=rawInt k) rfl ?_);show bo _ _ (field (.ref z) 4 >>= _) _ _ ⟨g1,gs,dr,tk,os⟩;refine al (cQ E1 rfl (x:= .none) rfl ?_);show bo _ _ (mkInt k >>= _) _ _ ⟨g1,gs,dr,tk,os⟩;refine al (wpAny_mkInt ?_);show bo _ _ (setField (.ref z) 3 (rawInt ((k:Int)+1)) >>= _) _ _ ⟨g1,gs,dr,tk+1,os⟩;refine al (dw E1 (by simp) fun g2 E2 s2=>?_);have s2:cI z g1 g2:=s2;have E2:IsEnum g2 z i1 ((k:Int)+1) was:=E2;show bo _ _ (setField (.ref z) 4 .none >>= _) _ _ ⟨g2,gs,dr,tk+1,os⟩;refine al (dw E2 (by simp) fun g3 E3 s3=>?_);have s3:cI z g2 g3:=s3;have E3:IsEnum g3 z i1 ((k:Int)+1) was:=E3;show bo _ _ (newTuple [.int k tk,x] >>= _) _ _ ⟨g3,gs,dr,tk+1,os⟩;refine al (wpAny_newTuple ?_);have E4:IsEnum (g3.push { cls:= .type "tuple",data:= .seq #[.int k tk,x] }) z i1 ((k:Int)+1) was:=ao _ E3;have z3:g3.objs.size=h0.objs.size:=by rw [s3.1,s2.1,s1.1]
 have J4:(g3.push { cls:= .type "tuple",data:= .seq #[.int k tk,x] }).IsListIter i1 a (k+1):=by
  obtain ⟨o,e,r⟩:=(J1.extBut s2.extBut hzi.symm).extBut s3.extBut hzi.symm;exact ⟨o,ao _ e,r⟩
 have T4:(g3.push { cls:= .type "tuple",data:= .seq #[.int k tk,x] }).get? h0.objs.size=some { cls:= .type "tuple",data:= .seq #[.int k tk,x] }:=by rw [←z3];exact aJ _ rfl
 have z4:(g3.push { cls:= .type "tuple",data:= .seq #[.int k tk,x] }).objs.size=h0.objs.size+1:=by rw [dk,z3]
 have k4:∀ c o,c≠z→c≠i1→h0.get? c=some o→(g3.push { cls:= .type "tuple",data:= .seq #[.int k tk,x] }).get? c=some o:=fun c o c1 c2 e=>ao _ (s3.extBut c o c1 (s2.extBut c o c1 (s1.extBut c o c2 e)))
 have zlt:z<h0.objs.size:=bc E0;generalize g3.push { cls:= .type "tuple",data:= .seq #[.int k tk,x] }=g4 at E4 J4 T4 z4 k4;rw [z3];show bo _ _ (fq (.ref z) >>= _) _ _ ⟨g4,gs,dr,tk+1,os⟩;refine al ?_;unfold fq;refine al (cQ E4 rfl (x:= .none) rfl (aQ ?_));simp only [if_true];refine al (wpAny_rule ?_);refine al (cQ E4 rfl (x:=was) rfl ?_);refine al (dw E4 (by simp) fun g5 E5 s5=>?_);have s5:cI z g4 g5:=s5;have E5:IsEnum g5 z i1 ((k:Int)+1) x:=E5;show bo _ _ (gL (.ref z) (.ref h0.objs.size) >>= _) _ _ ⟨g5,gs,dr,tk+1,os⟩;refine al ?_;unfold gL;refine al (dw E5 (by simp) fun g6 E6 s6=>?_);have s6:cI z g5 g6:=s6;have E6:IsEnumOut g6 z i1 ((k:Int)+1) x h0.objs.size:=E6;refine dw E6 (by simp) fun g7 E7 s7=>?_
 have s7:cI z g6 g7:=s7;have E7:IsEnumOut g7 z i1 ((k:Int)+1) x h0.objs.size:=E7;have up:∀ c o,c≠z→g4.get? c=some o→g7.get? c=some o:=fun c o c1 e=>s7.extBut c o c1 (s6.extBut c o c1 (s5.extBut c o c1 e))
 refine al (wpAny_letGo (aQ ⟨_,rfl,q g7 E7 ?_ (up _ _ (jE zlt) T4) (by rw [s7.1,s6.1,s5.1,z4]) fun c o c1 c2 e=>up c o c1 (k4 c o c1 c2 e)⟩));obtain ⟨o,e,r⟩:=J4;exact ⟨o,up _ o hzi.symm e,r⟩
theorem enumL_item {z i1:ak}{xs:Array ag}{x:ag}{Q:Option ag→ar→Prop}(E0:IsEnum s.heap z i1 k was)(J0:s.heap.IsListIter i1 a k)(T0:s.heap.IsList a xs)(hx:xs[k]? =some x)(hzi:z≠i1)
  (q:∀ g,IsEnumOut g z i1 ((k:Int)+1) x s.heap.objs.size→g.IsListIter i1 a (k+1)→g.get? s.heap.objs.size=some { cls:= .type "tuple",data:= .seq #[.int k s.toks,x] }→g.objs.size=s.heap.objs.size+1 →
   (∀ c o,c≠z→c≠i1→s.heap.get? c=some o→g.get? c=some o)→Q (some (.ref s.heap.objs.size)) { s with heap:=g,toks:=s.toks+1 }):bo (bQ prog w) A (pyNext (.ref z)) Q E s:=by
 have ht:s.TypeIs (.ref z) "enumerate" := ⟨_,E0,rfl⟩;unfold pyNext;refine al (wpAny_attempt (eO (name:=bF "__next__") ht jV (gX jV ht F.entry_enumerate_next ?_ (F.args_enumerate_next_1 _))));exact enumL_step E0 J0 T0 hx hzi fun g e1 e2 e3 e4 e5=>aQ (q g e1 e2 e3 e4 e5)
theorem enumL_end {z i1:ak}{xs:Array ag}{Q:Option ag→ar→Prop}(hh:A.handled=none)(E0:IsEnum s.heap z i1 k was)(J0:s.heap.IsListIter i1 a k)(T0:s.heap.IsList a xs)(hx:xs[k]? =none)
  (q:∀ g,bX.ExtBut i1 s.heap g→Q none { s with heap:=g }):bo (bQ prog w) A (pyNext (.ref z)) Q E s:=by
 have ht:s.TypeIs (.ref z) "enumerate" := ⟨_,E0,rfl⟩;unfold pyNext;refine al (wpAny_attempt (eO (name:=bF "__next__") ht jV (gX jV ht F.entry_enumerate_next ?_ (F.args_enumerate_next_1 _))));show bo _ _ (field (.ref z) 2 >>= _) _ _ _;refine al (cQ E0 rfl (x:= .ref i1) rfl ?_);refine al (wpAny_nextOf_list_end hh J0 T0 hx fun g x kp hxx=>?_);obtain ⟨o,e1,e2⟩:=hxx;refine al (wpAny_isInstance (T := "StopIteration") (b:=true) ⟨o,e1,e2⟩ isSubtype_stop ?_);exact aQ (q _ kp)
section
open AutoSeq1 (wpAny_loadPart')
theorem enumL_new (a:ak)(xs:Array ag) :
  Meets (fW.«enumerate.__new__» ⟨[.type "enumerate",.ref a],[]⟩) (fun _ R s=>s.heap.IsList a xs ∧
   R (.ok (.ret (.ref (s.heap.push { cls:= .type "list_iterator",data:= .fields #[.ref a,.int 0 0] }).objs.size)))
    {s with heap:=(s.heap.push { cls:= .type "list_iterator",data:= .fields #[.ref a,.int 0 0] }).push { cls:= .type "enumerate",data:= .fields #[.none,.bool false,.ref s.heap.objs.size,rawInt 0,.none,.none] } }) :=
 .of_wp fun prog w A R s h=>by
  obtain ⟨hp,g,d,tk,os⟩:=s;obtain ⟨h1,h⟩:=h;have subE:=sub_enumerate;have k1:bX.IsList (ar.heap ⟨hp,g,d,tk,os⟩) a xs:=h1
  wp_walk using gC k1
  refine wpAny_stack_any fun st=>aQ ?_
  split
  ·rename_i c _ _ _ _ _
   cases (c == ag.type "enumerate")
   ·wp_walk using gC k1
    exact ⟨_,rfl,h⟩
   ·wp_walk using gC k1
    exact ⟨_,rfl,h⟩
  ·wp_walk using gC k1
   exact ⟨_,rfl,h⟩
theorem call_enumL {xs:Array ag}(h1:s.heap.IsList a xs)
  (q:∀ g,IsEnum g (s.heap.objs.size+1) s.heap.objs.size 0 .none→g.IsListIter s.heap.objs.size a 0→g.objs.size=s.heap.objs.size+2→(∀ c o,s.heap.get? c=some o→g.get? c=some o)→Q (.ref (s.heap.objs.size+1)) { s with heap:=g }) :
  bo (bQ prog w) A (call (.type "enumerate") [.ref a]) Q E s:=by
 refine callType_new F.called_enumerate (by decide) (F.typeCall_enumerate_1 _) (F.newCall_enumerate_1 _) (fun obj=>F.args_object_init_2 obj _) F.entry_enumerate_new (enumL_new a xs) ⟨h1,?_⟩;have e1:(s.heap.push { cls:= .type "list_iterator",data:= .fields #[.ref a,.int 0 0] }).objs.size=s.heap.objs.size+1:=dk ..;have f2:=aJ (s.heap.push { cls:= .type "list_iterator",data:= .fields #[.ref a,.int 0 0] }) (o:={ cls:= .type "enumerate",data:= .fields #[.none,.bool false,.ref s.heap.objs.size,rawInt 0,.none,.none] }) rfl;show _∧_;rw [e1] at f2 ⊢;exact ⟨⟨_,f2,rfl⟩,q _ f2 ⟨_,ao _ (aJ _ rfl),rfl,rfl⟩ (by rw [dk,e1]) fun c o x=>ao _ (ao _ x)⟩
end
def ItL (a:ak):It :=
 ⟨fun i H=>∃ xs x,H a=some (.lst xs)∧xs[i]? =some x,
  fun i H v H'=>∃ p x,H p=none∧v= .ref p∧H'=upd H p (.tup [.int (i:Nat),x])∧∀ xs,H a=some (.lst xs)→xs[i]? =some x,
  fun i H=>∃ xs,H a=some (.lst xs)∧xs.length≤i⟩
theorem turn_enumL {k0}{z i1:ak}(a:ak)(hzi:z≠i1) :
  Turn P w K (.Tuple es k0 pos) (ItL a) [z,i1] z (fun i h=>(∃ was,IsEnum h z i1 i was)∧h.IsListIter i1 a i) where
 mem:=by simp
 obj:=fun i h st c hc=>by
  obtain ⟨⟨was,e1⟩,⟨o2,e2,_,d2⟩⟩:=st;simp only [av,aL,or_false] at hc
  rcases hc with rfl | rfl
  ·exact ⟨_,e1,fun v z=>by cases z⟩
  ·exact ⟨_,e2,fun v z=>by rw [d2] at z;cases z⟩
 keep:=fun i h h' st k=>by
  obtain ⟨⟨was,e1⟩,⟨o2,e2,r2⟩⟩:=st;exact ⟨⟨was,k z (by simp) _ e1⟩,⟨o2,k i1 (by simp) _ e2,r2⟩⟩
 item:=by
  intro X hP hw hK hc i aI s σ H E I hf st hg;subst hP hw hK;obtain ⟨xs,x,ha,hx⟩:=hg;obtain ⟨⟨was,e1⟩,j1⟩:=st;obtain ⟨its,rv,pt,_⟩:=I.list (SqL.of (K:=X.K) ha);obtain ⟨u,hu,ru⟩:=rv.get hx;have nz:∀ e∈[z,i1],H e=none:=fun e he=>(hf e he).1
  have hT:H s.heap.objs.size=none:=I.fresh;refine enumL_item e1 j1 (pt.isList) (x:=u) (by simpa using hu) hzi fun g z1 m1 tp sz kk=>⟨_,rfl,?_⟩
  refine wpAny_letOwnedTupleGo_enum z1 fun g2 z2 s2=>?_
  have s2:cI z g g2:=s2;have k2:∀ e o,e ∉ [z,i1]→s.heap.get? e=some o→g2.get? e=some o:=fun e o hn h=>by
   simp only [av,aL,or_false,not_or] at hn;exact s2.extBut _ _ hn.1 (kk e o hn.1 hn.2 h)
  have zlt:z<s.heap.objs.size:=bc e1;have tp2:g2.get? s.heap.objs.size=some { cls:= .type "tuple",data:= .seq #[.int i s.toks,u] }:=s2.extBut _ _ (jE zlt) tp;have trk:∀ e o,H e=some o→e ∉ [z,i1]:=fun e o he hm=>by rw [nz e hm] at he;cases he
  have I':=I.tok (s.toks+1);have J:Inv X aI σ (upd H s.heap.objs.size (.tup [.int (i:Nat),x])) { s with heap:=g2,toks:=s.toks+1 }:=by
   refine I'.turnAll (ch:=[z,i1]) (fun e he=>hf e he) k2 (fun e o h=>by rw [aX (aV h hT)];exact h) (fun e o h n=>by rw [aX (cg (bc h))];exact n) fun e o h=>?_
   by_cases q:e=s.heap.objs.size
   ·subst q
    rw [aP] at h;cases h;exact ⟨by show 2≤au;decide,[.int i s.toks,u],.cons ⟨_,rfl⟩ (.cons ru .nil),_,tp2,rfl,rfl,_,rfl⟩
   ·rw [aX q] at h
    refine (I.hok e o h).stay (fun c v hc' q'=>k2 c v (by
     rcases hc' with z' | z'
     ·rw [z'];exact trk e o h
     ·exact trk c _ z') q') (fun c q'=>by rw [aX (aV q' hT)];exact q') fun c xs q'=>by rw [aX (aV q' hT)];exact q'
  refine ⟨.ref s.heap.objs.size,_,J,rfl,⟨_,x,hT,rfl,rfl,fun xs' h'=>by rw [ha] at h';cases h';exact hx⟩,⟨⟨u,z2⟩,m1.extBut s2.extBut hzi.symm⟩,fun e he=>?_⟩;obtain ⟨o4,q4,_⟩:=j1;have hlt:e<s.heap.objs.size:=by
   simp only [av,aL,or_false] at he
   rcases he with rfl | rfl
   ·exact bc e1
   ·exact bc q4
  rw [aX (cg hlt)];exact nz e he
 done:=by
  intro X hP hw hK hc i aI s σ H E I hf st hg;subst hP hw hK;obtain ⟨xs,ha,hx⟩:=hg;obtain ⟨⟨was,e1⟩,j1⟩:=st;obtain ⟨its,rv,pt,_⟩:=I.list (SqL.of (K:=X.K) ha);obtain ⟨f0,f1,f2,f3,f4,f5⟩:=hf i1 (by simp);have hl:=rv.length;exact enumL_end (I.ok.hd hc) e1 j1 (pt.isList) (by simp;lia) fun g kp=>⟨rfl,I.turned (t':=s.toks) (fun b o hb e=>kp b o hb e) f0 f1 f3 f4 f5⟩
 self:=fun _ _ _ _ _ st h=>let ⟨⟨_,e1⟩,_⟩:=st;wpAny_pyIter_enum e1 h
def iEnumL (ta:TA):TI:=fun σ H R=>ta σ H fun vs H1=>∃ a xs,vs=[.ref a]∧H1 a=some (.lst xs)∧R (ItL a) H1
theorem pi_enumL {ta:TA}{p:Pos}{k0}{pt:Pos}(hg:Gl X "enumerate")(hm:X.mg "enumerate" =none)(ha:PA X [ea] ta)(hs:bw [ea] X.env=[(false,dn ea X.env)]:=by rfl) :
  PI X (.Tuple es k0 pt) (.Call (.Name "enumerate" p) [ea] [] pos) (iEnumL ta):=by
 intro aI s σ H R I h;refine Call_ (mm I hg hm boot_enumerate (c9 (thn (ha pos aI s σ H _ I h) fun us s1 ⟨vs,H1,I1,r1,q1⟩=>?_) hs rfl));obtain ⟨a,xs,e,hA,q⟩:=q1;subst e;obtain ⟨u1,rfl,r2⟩:=lG r1;cases (show u1=ag.ref a from r2);obtain ⟨its,rv,pt',_⟩:=I1.list (SqL.of (K:=X.K) hA);refine call_enumL (pt'.isList) fun g z1 j1 sz kk=>?_
 refine wpAny_pyIter_enum z1 ⟨s1.heap.objs.size+1,[s1.heap.objs.size+1,s1.heap.objs.size],_,ItL a,H1,rfl,I1.kept (t':=s1.toks) kk,turn_enumL a (by show @Ne Nat _ _;lia),⟨⟨_,z1⟩,j1⟩,fun e he=>?_,q⟩;have hge:s1.heap.objs.size≤e:=by
  simp only [av,aL,or_false] at he
  rcases he with rfl | rfl <;> (show @LE.le Nat _ _ _;lia)
 exact I1.fpOk hge (I1.hok.fresh hge)
theorem for_enumL {D:mW}(Pv:Nat→St→Hp→Prop)(h0:Pv 0 σ H)(hl:∀ i σ H,i≤xs.length→Pv i σ H→H a=some (.lst xs))
  (hs:∀ i x p σ H,xs[i]? =some x→Pv i σ H→H p=none→g (.ref p) σ (upd H p (.tup [.int (i:Nat),x])) fun σ2 H2=>tb { D with nx:=Pv (i+1),ct:=Pv (i+1),bk:=D.nx } σ2 H2) (hd:∀ σ H,Pv xs.length σ H→D.nx σ H) :
  ∃ W:Nat→Nat→St→Hp→Prop,(∃ m,W 0 m σ H)∧∀ i m σ H,W i m σ H →
   ((ItL a).stop i H∧D.nx σ H)∨((ItL a).go i H∧∃ N:St→Hp→Prop,(∀ σ' H',N σ' H'→∃ m',m'<m∧W (i+1) m' σ' H')∧∀ x H',(ItL a).yld i H x H'→g x σ H' fun σ2 H2=>tb { D with nx:=N,ct:=N,bk:=D.nx } σ2 H2):=by
 refine ⟨fun i m σ H=>i≤xs.length∧m=xs.length - i∧Pv i σ H,⟨_,cz _,rfl,h0⟩,fun i m σ H ⟨hi,hm,hp⟩=>?_⟩;have qa:=hl i σ H hi hp
 by_cases e:i=xs.length
 ·subst e
  exact .inl ⟨⟨xs,qa,az _⟩,hd σ H hp⟩
 ·have hlt:i<xs.length:=dU hi e
  refine .inr ⟨⟨xs,_,qa,gE hlt⟩,Pv (i+1),fun σ' H' hp'=>⟨xs.length - (i+1),by lia,by lia,rfl,hp'⟩,fun v H3 hy=>?_⟩;obtain ⟨p,x,hn,rfl,rfl,hx⟩:=hy;exact hs i x p σ H (hx xs qa) hp hn
end L2
namespace HN
open PySem L2 PyProof.Rows HT2
abbrev sTakeS:cN:=clsOf cPla 6
def Ln.stay (x:Ln)(z:Str)(v:Int×Int×Int):Ln:={ x with st:=x.st++[(z,v)] }
def iR (n z:Str)(v:Int×Int×Int)(x:Ln):Ln:=if x.n=n then x.stay z v else x
def stayX (n z:Str)(v:Int×Int×Int)(x:LX):LX:=(iR n z v x.1,x.2)
theorem stayAt_n (n z:Str)(v:Int×Int×Int)(x:Ln):(iR n z v x).n=x.n:=by unfold iR;split <;> rfl
theorem stayAt_rs (n z:Str)(v:Int×Int×Int)(x:Ln):(iR n z v x).rs=x.rs:=by unfold iR;split <;> rfl
theorem sty_snoc {st:List (Str×Int×Int×Int)}{v:Int×Int×Int}(h:z ∉ st.map (·.1))(y:Str):sty (st++[(z,v)]) y=if y=z then v else sty st y:=by
 unfold sty;rw [List.find?_append]
 by_cases e:y=z
 ·subst e
  rw [pE rfl];have:st.find? (fun p=>decide (p.1=y))=none:=by
   rw [List.find?_eq_none];intro p hp;have:p.1≠y:=fun z=>h (aG.mpr ⟨p,hp,z⟩)
   simp [this]
  rw [this];simp
 ·rw [pB e]
  have:[(z,v)].find? (fun p=>decide (p.1=y))=none:=by simp [cO e]
  rw [this];simp
theorem linK_stay (n z:Str)(v:Int×Int×Int)(zs:List LX):j7 (zs.map (stayX n z v))=j7 zs:=by
 unfold j7;rw [bO];refine cP fun x _=>?_
 show (Sum.inr (iR n z v x.1).n,V.ref x.2.1)=_;rw [stayAt_n]
theorem hapN_stay (n z:Str)(v:Int×Int×Int)(zs:List LX):mP (zs.map (stayX n z v))=mP zs:=by
 unfold mP;rw [bO];congr 1;refine cP fun x _=>?_
 show 2 * (((iR n z v x.1).rs.length:Nat):Int)=_;rw [stayAt_rs]
inductive spTakeS (CP CL:ak)(vs:List V)(H:Hp)(Q:VK)(_:XK):Prop
 | mk (H0:Hp)(p q DL LB:ak)(b:Int)(zs:List LX)(bt:List Sn)(x:LX)(z:Str)(l o w:Int)(i:Nat)(_:vs=[.ref p,.ref q])(_:PlI CP CL H0 H p b zs bt DL LB)(_:Few zs bt)(_:H q=some (.tup [.str "stay",.str x.1.n,.str z,.int l,.int o,.int w]))(_:x∈zs)(_:z ∉ x.1.st.map (·.1))(_:x.1.st.length≤1000)(_:x.1.ss[i]? =some z)(_:1≤i)(_:i+1<x.1.ss.length)(_:∀ H',PlI CP CL H0 H' p b (zs.map (stayX x.1.n z (l,o,w))) bt DL LB→Q (.bl (snB b (mP zs) ⟨x.1.fi+2 * i - 1,x.1.fi+2 * i,l,o,w⟩)) H')
theorem scTakeS:cp ["self","row","line","stop"] pzb (defScope sTakeS):=by trivial
theorem ok_takeS {fh fs fc fg fr:ak}{ds:aZ}(F:Fun K "take_stay" "Plan.take_stay" sTakeS f fd)(PK:PlaK P w K mg base CP CL fh fs dh ds)(LK:LinK P w K mg base CL fc fg fr dc dg dr)(GS:Fn K mg "is_span" sSpan pzj f1 d1)(FS:c7 P w K mg base CX0 4 f1 d1 pzj spSpan):c7 P w K mg base CX0 5 f fd pzb (spTakeS CP CL):=by
 refine F.ok scTakeS (by contradiction) (fun cdv A outer s H vs Q E hr h=>?_);obtain ⟨H0,p,q,DL,LB,b,zs,bt,x,z,l,o,w,i,rfl,I,fw,hq,hx,hz,lst,e1,e2,e3,k⟩:=h;have u1:=gZ (iP (show 1≤64 by decide) _) hr.units;have CC:=PK.cc;have LC:=LK.cc;have big:(100000:Nat)≤au:=by decide
 refine ⟨_,PSl.h (bq ⟨(psZ 2 scTakeS.nd (pe_dget1 u1 (eR (pv 0) rfl) (ixZ (pv 1)) ⟨rfl,rfl,rfl,rfl⟩))⟩ (bq ⟨(psZ 3 scTakeS.nd (ixZ (pv 1)))⟩
  (bq ⟨(eX (PW.pt (j6 (bK om (pv 2) gT (cb _)) (je (pt_cmp (pc_din u1 (pv 3) (eR (pv 2) rfl)) rfl)))) (bB (bZ lO)) cv)⟩
  (bq ⟨(ps_dput u1 (eR (pv 2) rfl) (pv 3) (eZ lL (pv 1) (fD aC) gM) rfl)⟩
  (fu ⟨(bZ (pc1 GS FS hr (af (eR (pv 0) rfl) (af (iF (pv 0) CC.cl PK.m1 PK.f1 (hr.mono (by decide)) PK.b1 .nil hV) (af (cD op_catA (eP (af (gF (pv 2) LC.cl LK.m1 LK.f1 (hr.mono (by decide)) LK.b1 .nil hV (af (pv 3) aw)) (af (gF (pv 2) LC.cl LK.m2 LK.f2 (hr.mono (by decide)) LK.b2 .nil hV (af (pv 3) aw)) aw))) (eZ lL (pv 1) (fD aC) gM)) aw)))))⟩))))),?_⟩
 obtain ⟨dp,hp⟩:=I.pl;have dl:=I.dl;have cut3:pw [V.str "stay",.str x.1.n,.str z,.int l,.int o,.int w] (some 3) none=[.int l,.int o,.int w]:=rfl;refine ⟨_,rfl,p,CP,dp,_,_,rfl,hp,CC.cl,CC.n2,rfl,DL,rfl,.inl ⟨_,.inl dl⟩,_,rfl,q,_,_,_,rfl,rfl,SqT.of hq,aE (j:=1) rfl,_,.inl ⟨_,.inr x.1.n,.inl dl,rfl,rfl⟩,?_⟩;rw [nK I.nn hx];refine ⟨_,rfl,q,_,_,_,rfl,rfl,SqT.of hq,aE (j:=2) rfl,?_⟩;have A:=I.ln x hx;obtain ⟨dx,a,bb,hX,ha,hb⟩:=id A.d;obtain ⟨kvs,hD,lk,hst⟩:=id A.s.ex;have hno:kC kvs (.inr z)=none:=by
  cases e:kC kvs (.inr z) with
  | none=>rfl
  | some v=>exact pF ((hst z).2.2 (by rw [e];rfl)) hz
 refine ⟨_,rfl,rfl,_,rfl,iL (pH nofun) ?_⟩;refine ⟨_,rfl,_,rfl,x.2.1,CL,dx,_,_,rfl,hX,LC.cl,LC.n4,rfl,x.2.2,_,rfl,.inl ⟨kvs,.inr z,.inl hD,rfl,rfl⟩,_,rfl,iL (by rw [hno];rfl) ?_⟩;refine ⟨_,rfl,_,rfl,q,_,rfl,SqT.of hq,(by intro y;exact pF y.1 (show ¬ (3:Nat)=0 by decide)),fun t1 H1 S1 h1=>?_⟩;rw [cut3] at h1;have I1:=I.same S1;refine ⟨_,rfl,x.2.1,CL,dx,_,_,rfl,S1 _ _ hX,LC.cl,LC.n4,rfl,_,rfl,x.2.2,_,rfl,.inl ⟨kvs,.inr z,S1 _ _ hD,rfl,by lia,rfl⟩,?_⟩;rw [putK_new hno];have k2:∀ c u,c≠x.2.2→H1 c=some u→(upd H1 x.2.2 (.dK (kvs++[(.inr z,.ref t1)]))) c=some u:=fun c u hc e=>by rw [aX hc];exact e
 have h2:(upd H1 x.2.2 (.dK (kvs++[(.inr z,.ref t1)]))) x.2.2=some (.dK (kvs++[(.inr z,.ref t1)])):=aP;generalize upd H1 x.2.2 (.dK (kvs++[(.inr z,.ref t1)]))=H2 at k2 h2 ⊢;have hD1:=S1 _ _ hD;have kT:∀ c xs,H1 c=some (.tup xs)→H2 c=some (.tup xs):=fun c xs e=>k2 _ _ (de e hD1 nofun) e
 have kI:∀ c C dx fs,H1 c=some (.ins C dx fs)→H2 c=some (.ins C dx fs):=fun c C dx fs e=>k2 _ _ (de e hD1 nofun) e
 have nDL:DL≠x.2.2:=fun e=>(bH.mp I.nd).1 (by rw [e];exact aG.mpr ⟨x,hx,rfl⟩)
 have S2:StA H2 x.2.2 (x.1.st++[(z,l,o,w)]):=by
  refine ⟨_,h2,by rw [aj,aj,lk];rfl,fun y=>?_⟩;have ev:kC (kvs++[(.inr z,.ref t1)]) (.inr y)=(kC kvs (.inr y)).or (if y=z then some (.ref t1) else none):=by
   unfold kC;rw [List.find?_append]
   by_cases e:y=z
   ·subst e
    rw [pE rfl];have:[((Sum.inr y:Key),V.ref t1)].find? (fun kv=>decide (kv.1=Sum.inr y))=some (.inr y,.ref t1):=by simp
    rw [this];cases (kvs.find? fun kv=>decide (kv.1=Sum.inr y)) <;> rfl
   ·rw [pB e]
    have:[((Sum.inr z:Key),V.ref t1)].find? (fun kv=>decide (kv.1=Sum.inr y))=none:=by simp [cO e]
    rw [this];cases (kvs.find? fun kv=>decide (kv.1=Sum.inr y)) <;> rfl
  rw [ev,sty_snoc hz]
  by_cases e:y=z
  ·subst e
   rw [hno,pE rfl,pE rfl];refine ⟨fun v hv=>⟨t1,(by cases hv;rfl),kT _ _ h1⟩,(fun h=>by cases h),(fun _=>by simp)⟩
  ·rw [pB e,pB e,Option.or_none]
   obtain ⟨g1,g2,g3⟩:=hst y;refine ⟨fun v hv=>?_,fun h=>⟨(g2 h).1,fun m=>?_⟩,fun h=>?_⟩
   ·obtain ⟨a,q1,q2⟩:=g1 v hv
    exact ⟨a,q1,kT _ _ (S1 _ _ q2)⟩
   ·rw [aq] at m
    rcases bg.mp m with m | m
    ·exact (g2 h).2 m
    ·exact e (aB.mp m)
   ·rw [aq]
    exact cB _ (g3 h)
 have nm:∀ y∈zs,y.1.n=x.1.n→y=x:=fun y hy e=>by
  obtain ⟨i1,h1⟩:=bR hy;obtain ⟨i2,h2⟩:=bR hx;have l1:=(ah.mp h1);have l2:=(ah.mp h2);obtain ⟨a1,b1⟩:=l1;obtain ⟨a2,b2⟩:=l2;have:i1=i2:=by
   have nn:=fe.mp I.nn
   rcases gx i1 i2 with q | q | q
   ·exact pF (by rw [dZ,dZ,b1,b2];exact e) (nn i1 i2 (by rw [ae];exact a1) (by rw [ae];exact a2) q)
   ·exact q
   ·exact pF (by rw [dZ,dZ,b1,b2];exact e.symm) (nn i2 i1 (by rw [ae];exact a2) (by rw [ae];exact a1) q)
  subst this;rw [←b1,←b2]
 have I2:PlI CP CL H0 H2 p b (zs.map (stayX x.1.n z (l,o,w))) bt DL LB:=by
  obtain ⟨ys,hB,dB⟩:=I1.lb;obtain ⟨dp1,hp1⟩:=I1.pl;have nD0:=I.nD x hx;refine ⟨fun c u e=>k2 _ _ (aV e nD0) (I1.S _ _ e),⟨dp1,kI _ _ _ _ hp1⟩,I.nL,I.nB,fun y hy=>?_,?_,fun y hy=>?_,?_,?_,ys,k2 _ _ (de hB hD1 nofun) hB,?_⟩
  ·obtain ⟨y',hy',rfl⟩:=aG.mp hy
   exact I.nD y' hy'
  ·rw [linK_stay];exact k2 _ _ nDL I1.dl
  ·obtain ⟨y',hy',rfl⟩:=aG.mp hy
   have A':=I1.ln y' hy';show LnA H2 CL y'.2.1 y'.2.2 (iR x.1.n z (l,o,w) y'.1);unfold iR;split
   ·rename_i e
    obtain rfl:=nm y' hy' e;obtain ⟨dx',a',b',g1,g2,g3⟩:=A'.d;exact ⟨⟨dx',a',b',kI _ _ _ _ g1,kT _ _ g2,kT _ _ g3⟩,S2,A'.nd,A'.two,A'.few,A'.rl⟩
   ·rename_i e
    obtain ⟨kv',d1,_⟩:=A'.s.ex;have ny:y'.2.2≠x.2.2:=fun z=>by
     have nn:=(bH.mp I.nd).2;obtain ⟨i1,h1⟩:=bR hy';obtain ⟨i2,h2⟩:=bR hx;obtain ⟨a1,b1⟩:=(ah.mp h1);obtain ⟨a2,b2⟩:=(ah.mp h2);have nn:=fe.mp nn
     rcases gx i1 i2 with q | q | q
     ·exact pF (by rw [dZ,dZ,b1,b2];exact z) (nn i1 i2 (by rw [ae];exact a1) (by rw [ae];exact a2) q)
     ·subst q
      exact e (by rw [←b1,←b2])
     ·exact pF (by rw [dZ,dZ,b1,b2];exact z.symm) (nn i2 i1 (by rw [ae];exact a2) (by rw [ae];exact a1) q)
    exact A'.kept kT kI ((k2 _ _ ny d1).trans d1.symm)
  ·rw [bO]
   exact I.nd
  ·rw [bO]
   have:(fun y:LX=>(stayX x.1.n z (l,o,w) y).1.n)=fun y:LX=>y.1.n:=funext fun y=>stayAt_n _ _ _ _
   rw [show ((fun y:LX=>y.1.n) ∘ stayX x.1.n z (l,o,w))=fun y:LX=>y.1.n from this];exact I.nn
  ·have fin:∀ {vs:List V} {sp:List Sn},gP H1 vs (sp.map snD)→gP H2 vs (sp.map snD):=by
    intro vs sp
    induction sp generalizing vs with
    | nil=>intro h;cases h;exact .nil
    | cons x sp ih =>
     intro h;cases h with
     | cons h r =>
      obtain ⟨a,us,rfl,ha,rz⟩:=h.tup_of;have ez:=gP.ints_of rz;subst ez;exact .cons (.tup (kT _ _ ha) (gP.ints _)) (ih r)
   exact fin dB
 obtain ⟨dp2,hp2⟩:=I2.pl;have fw2:Few (zs.map (stayX x.1.n z (l,o,w))) bt:=⟨by rw [ae];exact fw.a,fw.b⟩;refine ⟨_,rfl,p,CP,dp2,_,_,rfl,hp2,CC.cl,CC.n1,rfl,_,rfl,p,dp2,_,rfl,hp2,rfl,H0,p,DL,LB,b,_,bt,rfl,I2,fw2,fun H3 S3=>?_⟩;rw [hapN_stay];have L3:LinD H3 CL x.2.1 x.1.n x.1.ss x.1.rs x.2.2 x.1.fi:=⟨dx,a,bb,S3 _ _ (kI _ _ _ _ (S1 _ _ hX)),S3 _ _ (kT _ _ (S1 _ _ ha)),S3 _ _ (kT _ _ (S1 _ _ hb))⟩;obtain ⟨dx3,a3,b3,g3,gA,gB⟩:=id L3;refine ⟨_,rfl,x.2.1,dx3,_,rfl,g3,rfl,_,rfl,x.2.1,x.2.2,x.1.n,z,x.1.ss,x.1.rs,x.1.fi,rfl,L3,A.few,A.two,A.nd,fun H4 S4=>⟨fun i' c1 c2=>?_,fun no=>pF (no i e1) (by lia)⟩⟩;obtain rfl:=(iU A.nd e1 c1).symm;have L4:LinD H4 CL x.2.1 x.1.n x.1.ss x.1.rs x.2.2 x.1.fi:=⟨dx3,a3,b3,S4 _ _ g3,S4 _ _ gA,S4 _ _ gB⟩;refine ⟨_,rfl,x.2.1,dx3,_,rfl,S4 _ _ g3,rfl,_,rfl,x.2.1,x.2.2,x.1.n,z,x.1.ss,x.1.rs,x.1.fi,rfl,L4,A.few,A.two,A.nd,fun H5 S5=>⟨fun i' c1 c2=>?_,fun no=>pF (no i e1) (by lia)⟩⟩;obtain rfl:=(iU A.nd e1 c1).symm;refine ⟨oR,fun t6 H6 S6 h6=>?_⟩;have S36:=S4.trans (S5.trans S6);have hq6:H6 q=some (.tup [.str "stay",.str x.1.n,.str z,.int l,.int o,.int w]):=S36 _ _ (S3 _ _ (kT _ _ (S1 _ _ hq)));refine ⟨_,rfl,_,rfl,q,_,rfl,SqT.of hq6,(by intro y;exact pF y.1 (show ¬ (3:Nat)=0 by decide)),fun t7 H7 S7 h7=>?_⟩;rw [cut3] at h7;refine ⟨t6,t7,_,_,rfl,rfl,S7 _ _ h6,h7,(by show 2+3≤au;decide),fun t8 H8 S8 h8=>?_⟩;have h8:H8 t8=some (.tup [.int (x.1.fi+2 * i - 1),.int (x.1.fi+2 * i),.int l,.int o,.int w]):=h8;refine ⟨b,mP zs,_,rfl,sn_g1 (x:=⟨_,_,_,_,_⟩) h8,?_⟩;rw [sn_at (x:=⟨x.1.fi+2 * i - 1,x.1.fi+2 * i,l,o,w⟩) h8];exact k H8 (I2.same (S3.trans (S36.trans (S7.trans S8))))
abbrev sPlanBy:cN:=top 35
abbrev sNetBy:cN:=top 36
def gf (ls:List Ln):Int:=(ls.map fun l=>2 * (l.rs.length:Int)).sum
def mB (ls:List Ln)(bt:List Sn):List Sn:=ls.flatMap lX++bt
def allLL (ls:List Ln):List (List V):=ls.flatMap fun l=>kU l.n l.ss
def nZ (ls:List Ln)(bt:List Sn):Bool:=decide (gf ls≤16) && decide ((mB ls bt).length≤40)
theorem mQ (zs:List LX):mP zs=gf (zs.map (·.1)):=by unfold mP gf;rw [bO];rfl
theorem allSL_of (zs:List LX)(bt:List Sn):allS zs bt=mB (zs.map (·.1)) bt:=by unfold allS mB;rw [List.flatMap_map]
theorem allLL_of (zs:List LX):allL zs=allLL (zs.map (·.1)):=by unfold allL allLL;rw [List.flatMap_map]
theorem smallL_of (zs:List LX)(bt:List Sn):small zs bt=nZ (zs.map (·.1)) bt:=by unfold small nZ;rw [mQ,allSL_of]
inductive Tk (b:Int):List Ln→List Sn→PR→List Ln→List Sn→Prop
 | beat {ls:List Ln} {bt:List Sn} {b':Int} (h:1≤b'):Tk b ls bt (.beat b') ls bt
 | line {ls:List Ln} {bt:List Sn} {n:Str} {ss:List Str} {rs:List Int} (hn:n ∉ ls.map (·.n)) (nd:ss.Nodup) (two:2≤ss.length) (few:ss.length≤1000) (rl:ss.length=rs.length+1) (sm:nZ (ls++[⟨n,ss,rs,[],gf ls⟩]) bt=true):Tk b ls bt (.line n ss rs) (ls++[⟨n,ss,rs,[],gf ls⟩]) bt
 | btw {ls:List Ln} {bt:List Sn} {k:Str} {ns:List Str} {is:List Int} {sn:Sn} (B:Btw b ls k ns is sn) (h1:k ≠ "beat") (h2:k ≠ "line") (h3:k ≠ "stay") (ok:snB b (gf ls) sn=true) (sm:nZ ls (bt++[sn])=true):Tk b ls bt (.oth k ns is) ls (bt++[sn])
 | stay {ls:List Ln} {bt:List Sn} {x:Ln} {z:Str} {l o w:Int} {i:Nat} (hx:x∈ls) (hz:z ∉ x.st.map (·.1)) (few:x.st.length≤1000) (h1:x.ss[i]? =some z) (h2:1≤i) (h3:i+1<x.ss.length) (ok:snB b (gf ls) ⟨x.fi+2 * i - 1,x.fi+2 * i,l,o,w⟩=true):Tk b ls bt (.oth "stay" [x.n,z] [l,o,w]) (ls.map (iR x.n z (l,o,w))) bt
inductive Runs (b:Int):List Ln→List Sn→List PR→List Ln→List Sn→Prop
 | nil {ls:List Ln} {bt:List Sn}:Runs b ls bt [] ls bt
 | cons {ls l1 l2:List Ln} {bt b1 b2:List Sn} {r:PR} {rs:List PR} (h:Tk b ls bt r l1 b1) (t:Runs b l1 b1 rs l2 b2):Runs b ls bt (r::rs) l2 b2
inductive spTakeP (CP CL:ak)(vs:List V)(H:Hp)(Q:VK)(_:XK):Prop
 | mk (H0:Hp)(p q DL LB:ak)(b:Int)(zs:List LX)(bt bt':List Sn)(ls':List Ln)(r:PR)(_:vs=[.ref p,.ref q])(_:PlI CP CL H0 H p b zs bt DL LB)(_:zs.length≤90)(_:bt.length≤90)(_:r.at H q)(_:Tk b (zs.map (·.1)) bt r ls' bt')(_:∀ zs' H',zs'.map (·.1)=ls'→zs'.length≤zs.length+1→bt'.length≤bt.length+1→PlI CP CL H0 H' p b zs' bt' DL LB→Q (.bl true) H')
inductive spPlanBy (CP CL:ak)(vs:List V)(H:Hp)(Q:VK)(_:XK):Prop
 | mk (L:ak)(xs:List V)(b:Int)(rs:List PR)(ls:List Ln)(bt:List Sn)(_:vs=[.ref L])(_:H L=some (.lst xs))(_:RsAt H xs (.beat b::rs))(_:rs.length≤80)(_:Runs b [] [] (.beat b::rs) ls bt)(_:ls≠[])(_:∀ p zs DL LB H',zs.map (·.1)=ls→zs.length≤90→bt.length≤90→PlI CP CL H H' p b zs bt DL LB→Q (.ref p) H')
structure PlaT (P:aK)(w:br)(K:ai)(mg:Str→Option ag)(base:bX)(CP CL fi ft fa fl:ak)(di dt da dl:aZ):Prop where
 mke:Mk K CP fi
 gl:mg "Plan" =some (.ref CP)
 f0:c7 P w K mg base CX0 1 fi di pzs (spInitP CP)
 b0:Binds K di pzs []
 mT:pA K CP "take" ft
 fT:c7 P w K mg base CX0 6 ft dt pzb (spTakeP CP CL)
 bT:Binds K dt pzb []
 mA:pA K CP "all_spans" fa
 fA:c7 P w K mg base CX0 3 fa da pza (spAllS CP CL)
 bA:Binds K da pza []
 mL:pA K CP "all_labels" fl
 fL:c7 P w K mg base CX0 2 fl dl pza (spAllL CP CL)
 bL:Binds K dl pza []
def vD:V→Dt
 | .str s=> .str s
 | _=> .non
theorem mn (n:Str):∀ (ss:List Str),∀ t∈kU n ss,∃ a b c:Str,t=[.str a,.str b,.str c]
 | [],t,h=>by cases h
 | [_],t,h=>by cases h
 | s::u::r,t,h=>by
  rcases av.mp h with e | h
  ·exact ⟨_,_,_,e⟩
  ·rcases av.mp h with e | h
   ·exact ⟨_,_,_,e⟩
   ·exact mn n (u::r) t h
theorem labs_isD {H:Hp}:∀ {as:List ak} {ts:List (List V)},as.map H=ts.map (fun t=>some (HO.tup t))→(∀ t∈ts,∃ a b c:Str,t=[.str a,.str b,.str c])→gP H (as.map V.ref) (ts.map fun t=> .tup (t.map vD))
 | [],[],_,_=> .nil
 | [],_::_,h,_=>by cases h
 | _::_,[],h,_=>by cases h
 | a::as,t::ts,h,q=>by
  rw [aT,aT] at h;injection h with h1 h2
  obtain ⟨x,y,z,rfl⟩:=q t bG;exact .cons (.tup h1 (.cons (.str _) (.cons (.str _) (.cons (.str _) .nil)))) (labs_isD h2 fun t ht=>q t (aO _ ht))
inductive spNetBy (vs:List V)(H:Hp)(Q:VK)(_:XK):Prop
 | mk (z z0:Str)(b:Int)(zr:List (Str×PR))(ls:List Ln)(bt:List Sn)(_:vs=[.str z])(_:z.length≤100000)(_:cM z nl_=z0::zr.map (·.1))(_:zr.length≤80)(_:z0.length≤100000)(_:cM z0 sp_=[("beat" :Str),j3 b])(_:W60 b)(_:(∀ q∈zr,q.1.length≤100000∧q.2.wds (cM q.1 sp_)))(_:Runs b [] [] (.beat b::zr.map (·.2)) ls bt)(_:ls≠[])(_:∀ v H',b8 H H'→IsD H' v (.tup [netP b (gf ls) (mB ls bt),.tup ((allLL ls).map fun t=> .tup (t.map vD))])→Q v H')
theorem scTakeP:cp pzb pzb (defScope sTakeP):=by trivial
theorem ok_takeP {f3:ak}{d3:aZ}(F:Fun K "take" "Plan.take" sTakeP f fd)(CC:PlaC K CP)(m1:pA K CP "take_line" f1)(F1:c7 P w K mg base CX0 5 f1 d1 pzb (spTakeL CP CL))(b1:Binds K d1 pzb [])
  (m2:pA K CP "take_between" f2) (F2:c7 P w K mg base CX0 5 f2 d2 pzb (spTakeB CP CL)) (b2:Binds K d2 pzb []) (m3:pA K CP "take_stay" f3) (F3:c7 P w K mg base CX0 5 f3 d3 pzb (spTakeS CP CL)) (b3:Binds K d3 pzb []):c7 P w K mg base CX0 6 f fd pzb (spTakeP CP CL):=by
 refine F.ok scTakeP (by contradiction) (fun cdv A outer s H vs Q E hr h=>?_);obtain ⟨H0,p,q,DL,LB,b,zs,bt,bt',ls',r,rfl,I,f1,f2,hq,tk,k⟩:=h;refine ⟨_,PSl.h (bq ⟨(eX (bK iT (ixZ (pv 1)) dv (cb _)) (bB (bZ (jW op_ge (ixZ (pv 1)) aC (cb _)))) cv)⟩
  (bq ⟨(eX (bK iT (ixZ (pv 1)) dv (cb _)) (bB (bZ (gF (pv 0) CC.cl m1 F1 hr b1 .nil hV (af (pv 1) aw)))) cv)⟩
  (bq ⟨(eX (bK iT (ixZ (pv 1)) dv (cb _)) (bB (bZ (gF (pv 0) CC.cl m3 F3 hr b3 .nil hV (af (pv 1) aw)))) cv)⟩
  (fu ⟨(bZ (gF (pv 0) CC.cl m2 F2 hr b2 .nil hV (af (pv 1) aw)))⟩)))),?_⟩
 obtain ⟨dp,hp⟩:=I.pl;cases tk with
 | beat h =>
  have hq:H q=some (.tup [.str "beat",.int _]):=hq;refine ⟨_,rfl,q,_,_,_,rfl,rfl,SqT.of hq,aE (j:=0) rfl,rfl,_,rfl,oA (pG rfl) ?_⟩;refine ⟨_,rfl,q,_,_,_,rfl,rfl,SqT.of hq,aE (j:=1) rfl,_,_,rfl,rfl,?_⟩;have e:=k zs H rfl (by lia) (by lia) I;show Q (.bl (decide ((1:Int)≤_))) H;rw [pG h];exact e
 | @line n ss rs hn nd two few rl sm =>
  obtain ⟨a,b',h1,h2,h3⟩:=id hq;refine ⟨_,rfl,q,_,_,_,rfl,rfl,SqT.of h3,aE (j:=0) rfl,rfl,_,rfl,iL (by trivial) ?_⟩;refine ⟨_,rfl,q,_,_,_,rfl,rfl,SqT.of h3,aE (j:=0) rfl,rfl,_,rfl,oA (pG rfl) ?_⟩;rw [bO] at hn;refine ⟨_,rfl,p,dp,_,rfl,hp,rfl,_,rfl,H0,p,q,DL,LB,b,zs,bt,n,ss,rs,rfl,I,f1,f2,hq,two,few,rl,fun no=>?_,fun _ _ x D H' I'=>?_⟩
  ·rcases no with no | no
   ·exact pF no hn
   ·exact pF nd no
  ·have e:=k (zs++[(⟨n,ss,rs,[],mP zs⟩,x,D)]) H' (by rw [aq,mQ];rfl) (by rw [aj];exact az _) (by lia) I'
   rw [smallL_of,aq];show Q (.bl (nZ (zs.map (·.1)++[⟨n,ss,rs,[],mP zs⟩]) bt)) H';rw [mQ,sm];exact e
 | @btw k' ns is sn B h1 h2 h3 ok sm =>
  have hq':H q=some (.tup (.str k'::(ns.map V.str++is.map V.int))):=hq;refine ⟨_,rfl,q,_,_,_,rfl,rfl,SqT.of hq',aE (j:=0) rfl,rfl,_,rfl,iL (pH fun z=>h1 (by injection z)) ?_⟩;refine ⟨_,rfl,q,_,_,_,rfl,rfl,SqT.of hq',aE (j:=0) rfl,rfl,_,rfl,iL (pH fun z=>h2 (by injection z)) ?_⟩;refine ⟨_,rfl,q,_,_,_,rfl,rfl,SqT.of hq',aE (j:=0) rfl,rfl,_,rfl,iL (pH fun z=>h3 (by injection z)) ?_⟩;refine ⟨_,rfl,p,dp,_,rfl,hp,rfl,_,rfl,H0,p,q,DL,LB,b,zs,bt,k',ns,is,sn,rfl,I,f1,f2,hq,B,fun H' I'=>?_⟩;have e:=k zs H' rfl (by lia) (by rw [aj];exact az _) I';rw [smallL_of,mQ,ok,sm];exact e
 | @stay x z l o w i hx hz few h1 h2 h3 ok =>
  have hq:H q=some (.tup [.str "stay",.str x.n,.str z,.int l,.int o,.int w]):=hq;obtain ⟨y,hy,rfl⟩:=aG.mp hx;refine ⟨_,rfl,q,_,_,_,rfl,rfl,SqT.of hq,aE (j:=0) rfl,rfl,_,rfl,iL (by trivial) ?_⟩;refine ⟨_,rfl,q,_,_,_,rfl,rfl,SqT.of hq,aE (j:=0) rfl,rfl,_,rfl,iL (by trivial) ?_⟩;refine ⟨_,rfl,q,_,_,_,rfl,rfl,SqT.of hq,aE (j:=0) rfl,rfl,_,rfl,oA (pG rfl) ?_⟩;refine ⟨_,rfl,p,dp,_,rfl,hp,rfl,_,rfl,H0,p,q,DL,LB,b,zs,bt,y,z,l,o,w,i,rfl,I,⟨by lia,by lia⟩,hq,hy,hz,few,h1,h2,h3,fun H' I'=>?_⟩;have e:=k (zs.map (stayX y.1.n z (l,o,w))) H' (by rw [bO,bO];rfl) (by rw [ae];lia) (by lia) I';rw [mQ,ok];exact e
theorem nu:cp ["rows","plan","number","row"] ["rows"] (defScope sPlanBy):=by trivial
theorem ok_planBy {fi ft fl:ak}{di dt da dl:aZ}(F:Fun K "plan_by" "plan_by" sPlanBy f fd)(T:Nm mg)(he:mg "enumerate" =none)(CC:PlaC K CP)(PT:PlaT P w K mg base CP CL fi ft fa fl di dt da dl):c7 P w K mg base CX0 7 f fd ["rows"] (spPlanBy CP CL):=by
 refine F.ok nu (by contradiction) (fun cdv A outer s H vs Q E hr h=>?_);obtain ⟨L,xs,b,rs,ls,bt,rfl,hL,R,few,runs,hne,k⟩:=h;refine ⟨_,PSl.h (bq ⟨(psZ 1 nu.nd (pe_make PT.mke PT.f0 (hr.mono (by decide)) rfl PT.gl PT.b0 .nil hV (af (ixZ (cH aY (pv 0) aC (fun _ _=>rfl))) aw)))⟩
  (bq ⟨(gS bS rfl (pi_enumL rfl he (af (pv 0) aw)) (pg_tup rfl (iE (pgZ 2 nu.nd) (iE (pgZ 3 nu.nd) oh))) (bB (eX (jw (jv (gF (pv 1) CC.cl PT.mT PT.fT hr PT.bT .nil hV (af (pv 3) aw)))) (bB jN) cv)))⟩
  (bq ⟨(eX (bK iT (bU call_lenD rfl T.len aR (af (eR (pv 1) rfl) aw)) aC (cb _)) (bB jN) cv)⟩
  (fu ⟨(bZ (pv 1))⟩)))),?_⟩
 obtain ⟨a0,h0,r0⟩:=R.get 0 (.beat b) rfl;have r0:H a0=some (.tup [.str "beat",.int b]):=r0;refine ⟨_,rfl,L,_,_,_,rfl,rfl,SqL.of hL,aE (j:=0) h0,a0,_,_,_,rfl,rfl,SqT.of r0,aE (j:=1) rfl,?_⟩;intro x dx hx hdx dxx;refine ⟨x,dx,b,rfl,aP,fun DL LB H1 k1 hDL hLB dne h1 h2 h3=>⟨rfl,?_⟩⟩;have S1:b8 H H1:=fun c o e=>by
  refine k1 c o (aV e hx) ?_;rw [aX (aV e hx),aX (aV e hdx)];exact e
 have nn:∀ c,(upd (upd H dx (.own x)) x (.ins CP dx [])) c=none→H c=none:=fun c h=>by
  cases e:H c with
  | none=>rfl
  | some o=>rw [aX (aV e hx),aX (aV e hdx),e] at h;cases h
 have I1:PlI CP CL H H1 x b [] [] DL LB:=⟨S1,⟨dx,h3⟩,nn _ hDL,nn _ hLB,(fun z hz=>by cases hz),h1,(fun z hz=>by cases hz),(by simp),(by simp),[],h2,.nil⟩;have lx:xs.length=rs.length+1:=R.len;refine ⟨_,rfl,L,xs,rfl,S1 _ _ hL,?_⟩;refine for_enumL (a:=L) (xs:=xs) (fun i σ H2=>∃ zs b1,PlI CP CL H H2 x b zs b1 DL LB∧zs.length≤i∧b1.length≤i∧Runs b (zs.map (·.1)) b1 ((PR.beat b::rs).drop i) ls bt∧∃ v2 v3,σ=[some (.ref L),some (.ref x),v2,v3])
  ⟨[],[],I1,az _,az _,runs,none,none,rfl⟩ (fun i σ H2 _ q=>by obtain ⟨zs,b1,I,_⟩:=q;exact I.S _ _ hL) (fun i v p σ H2 hv q hp=>?_) (fun σ H2 q=>?_)
 ·obtain ⟨zs,b1,I,l1,l2,ru,v2,v3,rfl⟩:=q
  have li:i<xs.length:=(ah.mp hv).1;obtain ⟨r,hr'⟩:∃ r,(PR.beat b::rs)[i]? =some r:=⟨_,gE (by rw [aD];lia)⟩;obtain ⟨a,ha,ra⟩:=R.get i r hr';rw [hv] at ha;cases ha;have ed:(PR.beat b::rs).drop i=r::(PR.beat b::rs).drop (i+1):=by
   rw [iI (by rw [aD];lia)];congr 1;have:=(ah.mp hr').2;exact this
  rw [ed] at ru;cases ru with
  | cons tk ru =>
   have S6:b8 H2 (upd H2 p (.tup [.int (i:Nat),.ref a])):=b8.put (b8.refl H2) hp;have h6:(upd H2 p (.tup [.int (i:Nat),.ref a])) p=some (.tup [.int (i:Nat),.ref a]):=aP;generalize upd H2 p (.tup [.int (i:Nat),.ref a])=H6 at S6 h6 ⊢;have I6:=I.same S6;obtain ⟨dp,hpp⟩:=I6.pl;refine ⟨p,_,rfl,SqT.of h6,rfl,_,_,rfl,_,_,rfl,rfl,?_⟩;refine ⟨_,rfl,x,dp,_,rfl,hpp,rfl,_,rfl,H,x,a,DL,LB,b,zs,b1,_,_,r,rfl,I6,(by lia),(by lia),ra.kept I6.S,tk,fun zs' H7 ez lz lb I7=>?_⟩;refine ⟨_,rfl,iL rfl ?_⟩;exact ⟨zs',_,I7,by lia,by lia,by rw [ez];exact ru,_,_,rfl⟩
 ·obtain ⟨zs,b1,I,l1,l2,ru,v2,v3,rfl⟩:=q
  rw [jq (by rw [aD];lia)] at ru;generalize ez:zs.map (·.1)=l0 at ru;cases ru;obtain ⟨dp,hpp⟩:=I.pl;refine ⟨_,rfl,x,CP,dp,_,_,rfl,hpp,CC.cl,CC.n2,rfl,DL,_,rfl,I.dl,rfl,_,rfl,iL (pH fun z=>?_) ⟨_,rfl,k x zs DL LB H2 ez (by lia) (by lia) I⟩⟩;injection z with z
  unfold j7 at z;rw [ae] at z;refine hne ?_;rw [←ez];cases zs with
  | nil=>rfl
  | cons _ _=>simp at z;lia
theorem scNetBy:cp ["text","plan","net"] pzh (defScope sNetBy):=by trivial
theorem ok_netBy {fh fs fi ft fl:ak}{ds di dt da dl:aZ}(F:Fun K "net_by" "net_by" sNetBy f fd)(T:Nm mg)(PK:PlaK P w K mg base CP CL fh fs dh ds)(PT:PlaT P w K mg base CP CL fi ft fa fl di dt da dl)(G1:Fn K mg "read_plan" sPlanR pzh f1 d1)(F1:c7 P w K mg base CX0 5 f1 d1 pzh spPlanR)
  (G2:Fn K mg "plan_by" sPlanBy ["rows"] f2 d2) (F2:c7 P w K mg base CX0 7 f2 d2 ["rows"] (spPlanBy CP CL)):c7 P w K mg base CX0 8 f fd pzh spNetBy:=by
 refine F.ok scNetBy (by contradiction) (fun cdv A outer s H vs Q E hr h=>?_);obtain ⟨z,z0,b,zr,ls,bt,rfl,hz,hs,hn,hz0,hs0,hb,hw,runs,hne,k⟩:=h;have CC:=PK.cc;refine ⟨_,PSl.h (bq ⟨(psZ 1 scNetBy.nd (pc1 G2 F2 hr (af (pc1 G1 F1 (hr.mono (by decide)) (af (pv 0) aw)) aw)))⟩
  (bq ⟨(psZ 2 scNetBy.nd (eP (af (eR (pv 1) rfl) (af (iF (pv 1) CC.cl PK.m1 PK.f1 (hr.mono (by decide)) PK.b1 .nil hV) (af (eS jB rfl T.ttup jD (af (iF (pv 1) CC.cl PT.mA PT.fA (hr.mono (by decide)) PT.bA .nil hV) aw)) aw)))))⟩
  (fu ⟨(bZ (eP (af (pv 2) (af (eS jB rfl T.ttup jD (af (iF (pv 1) CC.cl PT.mL PT.fL (hr.mono (by decide)) PT.bL .nil hV) aw)) aw))))⟩))),?_⟩
 refine ⟨_,rfl,z,z0,b,zr,rfl,hz,hs,(by lia),hz0,hs0,hb,hw,fun p xs H1 S1 hL R=>?_⟩;refine ⟨p,xs,b,_,ls,bt,rfl,hL,R,(by rw [ae];exact hn),runs,hne,fun x zs DL LB H2 ez lz lb I2=>?_⟩;obtain ⟨dp2,hp2⟩:=I2.pl;have fw:Few zs bt:=⟨by lia,by lia⟩;refine ⟨_,rfl,x,CP,dp2,_,_,rfl,hp2,CC.cl,CC.n1,rfl,_,rfl,x,dp2,_,rfl,hp2,rfl,H1,x,DL,LB,b,zs,bt,rfl,I2,fw,fun H3 S3=>?_⟩;have I3:=I2.same S3;obtain ⟨dp3,hp3⟩:=I3.pl;refine ⟨_,rfl,x,dp3,_,rfl,hp3,rfl,H1,x,DL,LB,b,zs,bt,rfl,I3,fw,fun L ys H4 S4 _ hL4 d4=>?_⟩;refine ⟨L,ys,rfl,SqL.of hL4,fun t H5 S5 e5=>?_⟩;refine ⟨(by show 3≤au;decide),fun n H6 S6 e6=>?_⟩;have S36:=S4.trans (S5.trans S6);have I6:=I3.same S36;obtain ⟨dp6,hp6⟩:=I6.pl;have dN:IsD H6 (.ref n) (netP b (gf ls) (mB ls bt)):=by
  rw [←ez,←mQ,←allSL_of];exact .tup e6 (.cons (.int _) (.cons (.int _) (.cons (.tup (S6 _ _ e5) (gP.same (S5.trans S6) d4)) .nil)))
 refine ⟨_,rfl,_,rfl,x,dp6,_,rfl,hp6,rfl,H1,x,DL,LB,b,zs,bt,rfl,I6,fw,fun L2 as H7 S7 _ hL7 d7=>?_⟩;refine ⟨L2,as.map V.ref,rfl,SqL.of hL7,fun u H8 S8 e8=>?_⟩;refine ⟨oR,fun r H9 S9 e9=>?_⟩;have d9:as.map H9=(allL zs).map (fun t=>some (HO.tup t)):=by
  rw [←d7];refine cP fun c hc=>?_
  have hm:H7 c∈(allL zs).map (fun t=>some (HO.tup t)):=by rw [←d7];exact cX hc
  obtain ⟨t,_,e⟩:=aG.mp hm;rw [←e];exact (S8.trans S9) _ _ e.symm
 refine k _ H9 (S1.trans (I2.S.trans (S3.trans (S36.trans (S7.trans (S8.trans S9)))))) (.tup e9 (.cons (IsD.same (S7.trans (S8.trans S9)) dN) (.cons (.tup (S9 _ _ e8) ?_) .nil)));rw [←ez,←allLL_of];refine labs_isD d9 fun t ht=>?_
 unfold allL at ht;obtain ⟨y,_,hy⟩:=jM.mp ht;exact mn _ _ t hy
end HN
namespace HN
open PySem L2 PyProof.Rows
inductive spCell (K:ai)(vs:List V)(H:Hp)(Q:VK)(_:XK):Prop
 | mk (a:ak)(ns:List Int)(k:Int)(_:vs=[.ref a,.int k])(_:SqL K H a (ns.map V.int))(_:0≤k)(_:∀ c:Int,Q (.int c) H)
theorem oO {xs:List α}{r:Int}(h0:0≤r)(h1:r<xs.length):∃ v,atI xs r=some v∧v∈xs:=by
 obtain ⟨j,rfl⟩:=cF h0;have hj:j<xs.length:=by lia
 exact ⟨xs[j],aE (gE hj),cJ hj⟩
theorem log_ok {m:Int}(h0:0<m)(h:m<10 ^ 61):0<m∧m.natAbs.log2<9000:=by
 refine ⟨h0,?_⟩;have h1:m.natAbs<2 ^ 300:=by
  have:(10:Nat) ^ 61<2 ^ 300:=by trivial
  have h2:m.natAbs<10 ^ 61:=by lia
  exact Nat.lt_trans h2 this
 have h3:m.natAbs≠0:=by lia
 have:=(Nat.log2_lt h3).mpr h1;lia
def Mv (p:ak)(H H':Hp):Prop:=(∀ b o,b≠p→H b=some o→H' b=some o)∧∃ n,H' p=some (.lst [.int n])
theorem Mv.trans (a:Mv p H H1)(b:Mv p H1 H2):Mv p H H2:=⟨fun c o hc e=>b.1 c o hc (a.1 c o hc e),b.2⟩
theorem Mv.new (a:Mv p H H1)(hq:H1 q=none):Mv p H (upd H1 q o):=by
 obtain ⟨n,hn⟩:=a.2;exact ⟨fun c u hc e=>by rw [aX (aV (a.1 c u hc e) hq)];exact a.1 c u hc e,n,by rw [aX (aV hn hq)];exact hn⟩
theorem Mv.at (a:Mv p H H1)(h:H q=some o)(hne:q≠p):H1 q=some o:=a.1 q o hne h
theorem Mv.then (a:Mv p H H1)(S:b8 H1 H2):Mv p H H2:=⟨fun c o hc e=>S _ _ (a.1 c o hc e),by obtain ⟨n,hn⟩:=a.2;exact ⟨n,S _ _ hn⟩⟩
theorem Mv.of {n:Int}(S:b8 H H1)(h:H1 p=some (.lst [.int n])):Mv p H H1:=⟨fun c o _ e=>S _ _ e,n,h⟩
theorem Mv.ne (a:Mv p H H1)(hq:H1 q=none):q≠p:=fun z=>by obtain ⟨n,hn⟩:=a.2;rw [z,hn] at hq;cases hq
theorem b8.mv (e:b8 H H1)(hp:H p=none)(m:Mv p H1 H2):b8 H H2:=fun b o q=>m.1 b o (fun z=>by rw [z,hp] at q;cases q) (e b o q)
inductive nX (vs:List V)(H:Hp)(Q:VK)(_:XK):Prop
 | mk (p n m:_)(_:vs=[.ref p,.int m])(_:H p=some (.lst [.int n]))(_:0<m)(_:m<10 ^ 61)(_:∀ r H',0≤r→r<m→Mv p H H'→Q (.int r) H')
inductive spMix (vs:List V)(H:Hp)(Q:VK)(_:XK):Prop
 | mk (c k:_)(_:vs=[.int c,.int k])(_:0≤k)(_:k≤1000)(_:∀ n,Q (.int n) H)
inductive spPotT (K:ai)(vs:List V)(H:Hp)(Q:VK)(_:XK):Prop
 | mk (a:ak)(ns:List Int)(k:Int)(_:vs=[.ref a,.int k])(_:SqL K H a (ns.map V.int))(_:0≤k)(_:k≤100)(_:∀ n p,H p=none→Q (.ref p) (upd H p (.lst [.int n])))
abbrev sCell:cN:=top 38
abbrev sMix:cN:=top 39
abbrev sPotT:cN:=top 40
abbrev sTake:cN:=top 41
theorem scCell:cp pzf pzf (defScope sCell):=by trivial
theorem ok_cell (F:Fun K "_law_cell_at" "_law_cell_at" sCell f fd)(T:Nm mg):c7 P w K mg base CX0 1 f fd pzf (spCell K):=by
 refine F.ok scCell (by contradiction) (fun cdv A outer s H vs Q E hr h=>?_);obtain ⟨a,ns,j,rfl,ha,hj,k⟩:=h;refine ⟨_,cK (eX (bK oS (pv 1) (bU bM rfl T.len aR (af (pv 0) aw)) (cb _)) (bB (bZ (cH aY (pv 0) (pv 1) (fun _ _=>rfl)))) cv) (bB (bZ aC)),?_⟩;refine ⟨_,rfl,_,rfl,a,_,rfl,.inl ha,_,_,rfl,rfl,_,rfl,?_⟩;refine jj (fun h1=>?_) (fun h1=>?_)
 ·have h1:j<((ns.map V.int).length:Int):=pI h1
  obtain ⟨v,e1,e2⟩:=oO hj h1;obtain ⟨c,_,rfl⟩:=aG.mp e2;exact ⟨_,rfl,_,rfl,a,_,_,_,rfl,rfl,ha,e1,k c⟩
 ·exact k 0
theorem scTake:cp ["_law_pot_here","_law_most","_law_number"] pze (defScope sTake):=by trivial
theorem mM (F:Fun K "_law_take" "_law_take" sTake f fd):c7 P w K mg base CX0 1 f fd pze nX:=by
 refine F.ok scTake (by contradiction) (fun cdv A outer s H vs Q E hr h=>?_);obtain ⟨p,n,m,rfl,hp,h0,h1,k⟩:=h;refine ⟨_,cK (psZ 2 scTake.nd (cD mZ (cH aY (pv 0) aC (fun _ _=>rfl)) (pv 1)))
  (cK (ps_asg (cD op_fdivB (cH aY (pv 0) aC (fun _ _=>rfl)) (pv 1)) (pg_sub (pv 0) aC set_list)) (bB (bZ (pv 2)))),?_⟩
 refine ⟨_,rfl,p,_,_,_,rfl,rfl,SqL.of hp,aE (j:=0) rfl,_,rfl,_,_,rfl,rfl,h0,?_⟩;refine ⟨_,rfl,p,_,_,_,rfl,rfl,SqL.of hp,aE (j:=0) rfl,_,rfl,_,_,rfl,rfl,log_ok h0 h1,?_⟩;refine ⟨_,rfl,p,_,_,0,rfl,rfl,hp,rfl,?_⟩;refine ⟨_,rfl,k _ _ (Int.emod_nonneg _ (by lia)) (Int.emod_lt_of_pos _ h0) ⟨fun b o hb e=>by rw [aX hb];exact e,n / m,aP⟩⟩
theorem scMix:cp ["_law_cell","_law_k","_law_number"] pzx (defScope sMix):=by trivial
theorem ok_mix (F:Fun K "_law_mixed" "_law_mixed" sMix f fd):c7 P w K mg base CX0 1 f fd pzx spMix:=by
 refine F.ok scMix (by contradiction) (fun cdv A outer s H vs Q E hr h=>?_);obtain ⟨c,j,rfl,j0,j1,k⟩:=h;refine ⟨_,PSl.h (bq ⟨(psZ 2 scMix.nd (cD mZ (cD jL (cD ff (cD ff (cD mZ (pv 0) aC) (cD jL aC (pv 1))) aC) aC) aC))⟩
  (bq ⟨(psZ 2 scMix.nd (cD mZ (cD ff (cD ff (cD jL (pv 2) (pv 2)) (cD jL aC (pv 1))) aC) aC))⟩
  (fu ⟨(bZ (cD mZ (cD jL (pv 2) aC) aC))⟩))),?_⟩
 refine ⟨_,rfl,_,_,rfl,rfl,(by show (0:Int)<2147483629;decide),_,rfl,_,_,rfl,rfl,.inl ⟨by decide,by decide⟩,_,_,rfl,rfl,_,_,rfl,rfl,_,_,rfl,rfl,.inr ⟨by decide,by decide⟩,_,_,rfl,rfl,(by show (0:Int)<2147483647;decide),?_⟩;refine ⟨_,rfl,_,rfl,_,_,rfl,rfl,.inl ?_,_,rfl,_,_,rfl,rfl,.inl ⟨by decide,by decide⟩,_,_,rfl,rfl,_,_,rfl,rfl,_,_,rfl,rfl,(by show (0:Int)<2147483587;decide),?_⟩
 ·have h1:=Int.emod_nonneg ((c % 2147483629+7919 * j+1) * 48271) (by decide:(2147483647:Int)≠0)
  have h2:=Int.emod_lt_of_pos ((c % 2147483629+7919 * j+1) * 48271) (by decide:(0:Int)<2147483647);exact ⟨by lia,by lia⟩
 ·exact ⟨_,rfl,_,_,rfl,rfl,.inr ⟨by decide,by decide⟩,_,_,rfl,rfl,(by show (0:Int)<2147483629;decide),k _⟩
theorem scPotT:cp ["_law_script","_law_k","_law_cell","_law_number","_law_j"] pzf (defScope sPotT):=by trivial
theorem ok_potT (F:Fun K "_law_pot" "_law_pot" sPotT f fd)(T:Nm mg)(T2:Nt mg)(G1:Fn K mg "_law_cell_at" sCell pzf f1 fd1)(G2:Fn K mg "_law_mixed" sMix pzx f2 fd2):c7 P w K mg base CX0 2 f fd pzf (spPotT K):=by
 have F1:c7 P w K mg base CX0 1 f1 fd1 pzf (spCell K):=ok_cell G1.F T;have F2:c7 P w K mg base CX0 1 f2 fd2 pzx spMix:=ok_mix G2.F;refine F.ok scPotT (by contradiction) (fun cdv A outer s H vs Q E hr h=>?_);obtain ⟨a,ns,j,rfl,ha,j0,j1,k⟩:=h;refine ⟨_,PSl.h (bq ⟨(psZ 2 scPotT.nd (pc1 G1 F1 hr (af (pv 0) (af (pv 1) aw))))⟩
  (bq ⟨(eX (bK iT (cD mZ (pc1 G1 F1 hr (af (pv 0) (af aC aw))) aC) aC (cb _)) (bB (bZ (jK (af (pv 2) aw)))) cv)⟩
  (bq ⟨(psZ 3 scPotT.nd aC)⟩
  (bq ⟨(gS bS rfl (kE rfl T2.range (af aC aw)) (pgZ 4 scPotT.nd) (bB (psZ 3 scPotT.nd (cD ff (cD jL (pv 3) aC) (pc1 G2 F2 hr (af (pv 2) (af (cD ff (pv 1) (cD jL aC (pv 4))) aw)))))))⟩
  (fu ⟨(bZ (jK (af (pv 3) aw)))⟩))))),?_⟩
 refine ⟨_,rfl,_,rfl,a,ns,j,rfl,ha,j0,fun c=>?_⟩;refine ⟨_,rfl,a,ns,0,rfl,ha,by decide,fun c0=>⟨_,_,rfl,rfl,(by show (0:Int)<2;decide),rfl,_,rfl,?_⟩⟩;refine jj (fun _=>?_) (fun _=>?_)
 ·exact ⟨_,rfl,szZ1,fun p hp=>k _ p hp⟩
 ·refine ⟨9,rfl,by decide,by decide,mr (n:=9) (fun i σ H2=>H2=H∧∃ n vj,σ=[some (.ref a),some (.int j),some (.int c),some (.int n),vj]) ⟨rfl,0,none,rfl⟩ ?_ ?_⟩
  ·rintro i σ H2 hi ⟨rfl,n,vj,rfl⟩
   refine ⟨_,rfl,_,_,rfl,rfl,.inr ⟨by decide,by decide⟩,_,rfl,_,rfl,_,rfl,_,_,rfl,rfl,.inl ⟨by decide,by decide⟩,_,_,rfl,rfl,c,_,rfl,by lia,by lia,fun n2=>⟨_,_,rfl,rfl,?_⟩⟩;exact ⟨rfl,_,_,rfl⟩
  ·rintro σ H2 ⟨rfl,n,vj,rfl⟩
   exact ⟨_,rfl,szZ1,fun p hp=>k _ p hp⟩
end HN
namespace L2
open PySem PySem.Spec PyProof.Rows
theorem mt_indexT1:MtM X "str.index" (fun x vs H Q=>∃ (z y:Str) (i:Nat) (rest:List Nat),x= .str z∧vs=[.str y]∧cA z y 0 z.length 1=i::rest∧Q (.int (i:Nat)) H):=by
 intro aI s σ H x vs v us Q I rx rv h;obtain ⟨z,y,i,rest,rfl,rfl,ho,q⟩:=h;obtain ⟨t,rfl⟩:=(show ∃ t,v=ag.str z t from rx);obtain ⟨u,rfl,ru⟩:=rv.one;obtain ⟨t',rfl⟩:=(show ∃ t,u=ag.str y t from ru);exact call_gives F.slot_str_index (typeIs_str _ _ _) F.entry_str_index (F.args_str_index_2 _ _) (gives_str_index z y t t' i rest ho) ⟨.int (i:Nat),H,I.tok _,⟨_,rfl⟩,q⟩
def strV:V→Option Str
 | .int i=>some (toString i)
 | .str z=>some z
 | _=>none
theorem call_strA:iK X (.type "str") (fun xs H Q=>∃ v z,xs=[v]∧strV v=some z∧(∀ i,v= .int i→i.natAbs.log2<1920)∧Q (.str z) H):=by
 intro aI s σ H xs us Q I r h;obtain ⟨v,z,rfl,hv,hz,q⟩:=h;cases v with
 | int i =>
  cases hv;exact na aI s σ H _ us Q I r ⟨i,rfl,hz i rfl,q⟩
 | str y =>
  cases hv;obtain ⟨u,rfl,t,rfl⟩:=lG r;exact PySem.P.str_of_str ⟨.str _,H,I,⟨_,rfl⟩,q⟩
 | _=>cases hv
end L2
namespace HN
open PySem L2 PyProof.Rows HT2
abbrev sTxt:cN:=top 49
def wdS (v:V):Str:=(strV v).getD ef
def oX (r:List V):Str:=iA sp_ (r.map wdS)
structure kQ (H:Hp)(xs:List V)(rows:List (List V)):Prop where
 len:xs.length=rows.length
 get:∀ (i:Nat) (r:List V),rows[i]? =some r→∃ a:ak,xs[i]? =some (V.ref a)∧H a=some (.lst r)
def WdOk (v:V):Prop:=(∃ z,strV v=some z∧z.length≤100)∧∀ i,v= .int i→W60 i
def planT (b:Int)(rows:List (List V)):Str:=iA nl_ ((("beat " :Str)++j3 b)::rows.map oX)
theorem rowW_len {r:List V}(h:∀ v∈r,WdOk v)(hl:r.length≤60):(oX r).length≤7000:=by
 unfold oX;have e:iA sp_ (r.map wdS)=fU sp_ (r.map wdS):=eV _ _;rw [e];have go:∀ ys:List Str,(∀ y∈ys,y.length≤100)→(fU sp_ ys).length≤ys.length * 101:=by
  intro ys
  induction ys with
  | nil=>intro _;decide +kernel
  | cons y ys ih =>
   intro hy;cases ys with
   | nil =>
    show y.length≤_;have:=hy y (by simp);simp only [aD,iZ];lia
   | cons z ys =>
    rw [lB,lR,lR];have h1:=hy y (by simp);have h2:=ih fun x hx=>hy x (aO _ hx)
    have h3:(sp_:Str).length=1:=by trivial
    rw [h3];simp only [aD] at h2 ⊢;lia
 have:=go (r.map wdS) fun y hy=>by
  obtain ⟨v,hv,rfl⟩:=aG.mp hy;obtain ⟨⟨z,e,l⟩,_⟩:=h v hv;unfold wdS;rw [e];exact l
 rw [ae] at this;lia
inductive spTxt (vs:List V)(H:Hp)(Q:VK)(_:XK):Prop
 | mk (b:Int)(L:ak)(xs:List V)(rows:List (List V))(_:vs=[.int b,.ref L])(_:W60 b)(_:H L=some (.lst xs))(_:kQ H xs rows)(_:rows.length≤70)(_:(∀ r∈rows,r.length≤60∧∀ v∈r,WdOk v))(_:∀ H',b8 H H'→Q (.str (planT b rows)) H')
theorem scTxt:cp ["_law_beat","_law_rows","_law_texts","_law_row"] pzl (defScope sTxt):=by trivial
theorem ok_txt (F:Fun K "_law_text" "_law_text" sTxt f fd)(ht:mg "str" =none):c7 P w K mg base CX0 1 f fd pzl spTxt:=by
 refine F.ok scTxt (by contradiction) (fun cdv A outer s H vs Q E hr h=>?_);obtain ⟨b,L,xs,rows,rfl,hb,hL,R,few,all,k⟩:=h;refine ⟨_,PSl.h (bq ⟨(psZ 2 scTxt.nd (jK (af (cD op_add_str dv (eS na rfl ht boot_str (af (pv 0) aw))) aw)))⟩
  (bq ⟨(gS bS rfl (gN (pv 1)) (pgZ 3 scTxt.nd) (bB (gD (i9 bf bE bD fj (pv 2) (af (i9 eN PySem.F.slot_str_join PySem.F.type_str_join mt_join dv (af (jH (fr:=[]) (js:=[]) rfl (gN (pv 3)) (by trivial) rfl (by trivial) rfl (by exists sTxt) (by trivial) rfl (by trivial) (fun _ _ _ _ _=>⟨(eS call_strA rfl ht boot_str (af (pv 0) aw)),jg⟩)) aw)) aw)))))⟩
  (fu ⟨(bZ (i9 eN PySem.F.slot_str_join PySem.F.type_str_join mt_join dv (af (pv 2) aw)))⟩))),?_⟩
 have big:(1000000:Nat)≤au:=by decide
 have lh:(("beat " :Str)++j3 b).length≤65:=by
  rw [lR];have:=kK hb;have h5:("beat " :Str).length=5:=by trivial
  lia
 refine ⟨_,rfl,b,rfl,log_60 hb,_,_,rfl,rfl,?_,szZ1,fun M hM=>?_⟩
 ·have:=kK hb
  have h5:("beat " :Str).length=5:=by trivial
  show ("beat " :Str).length+(j3 b).length≤_;lia
 have S0:b8 H (upd H M (.lst [.str (("beat " :Str)++j3 b)])):=b8.put (b8.refl H) hM;have hM0:(upd H M (.lst [.str (("beat " :Str)++j3 b)])) M=some (.lst (((("beat " :Str)++j3 b)::(rows.take 0).map oX).map V.str)):=by rw [aP];rfl
 refine ⟨_,rfl,L,rfl,⟨_,SqL.of (S0 _ _ hL)⟩,?_⟩;have ML:L≠M:=aV hL hM;have kx:∀ c o,H c=some o→(upd H M (.lst [.str (("beat " :Str)++j3 b)])) c=some o:=fun c o e=>S0 _ _ e
 change ∃ W,_
 generalize hH0:upd H M (.lst [.str (("beat " :Str)++j3 b)])=H0 at S0 hM0;have hH0':upd H M (.lst [.str (bF "beat " ++ toString b)])=H0:=hH0;refine jP (K:=K) (a:=L) (xs:=xs) (fun i σ H2=>(∀ c o,c≠M→H0 c=some o→H2 c=some o)∧H2 M=some (.lst (((("beat " :Str)++j3 b)::(rows.take i).map oX).map V.str))∧∃ v3,σ=[some (.int b),some (.ref L),some (.ref M),v3])
  ⟨fun c o _ h=>(by rw [←hH0] at h;exact h),(by rw [←hH0] at hM0;exact hM0),none,rfl⟩ (fun i σ H2 _ q=>SqL.of (q.1 _ _ ML (S0 _ _ hL))) ?_ ?_
 ·rintro i x σ H2 hx ⟨k2,hM2,v3,rfl⟩
  have li:i<rows.length:=by rw [←R.len];exact (ah.mp hx).1
  obtain ⟨r,hr'⟩:∃ r,rows[i]? =some r:=⟨_,gE li⟩;obtain ⟨a,ha,har⟩:=R.get i r hr';rw [hx] at ha;cases ha;obtain ⟨lr,hw⟩:=all r (ay hr');have aM:a≠M:=aV har hM;have ha2:=k2 _ _ aM (S0 _ _ har);refine ⟨_,rfl,.inl ⟨rfl,_,SqL.of hM2⟩,rfl,_,rfl,a,rfl,⟨_,SqL.of ha2⟩,?_⟩;refine iW (K:=K) (a:=a) (xs:=r) (fun j zs H3=>H3=H2∧zs=((r.take j).map wdS).map V.str) ⟨rfl,rfl⟩ (fun j zs H3 hj q=>?_) (by lia) (fun j v zs H3 hv q=>?_) (fun zs H3 q D hD=>?_)
  ·obtain ⟨rfl,g2⟩:=q
   exact ⟨SqL.of ha2,by rw [g2,ae,ae,aU];lia⟩
  ·obtain ⟨rfl,g2⟩:=q
   obtain ⟨⟨z,ez,lz⟩,hi⟩:=hw v (ay hv);refine ie ?_;refine ⟨_,rfl,v,z,rfl,ez,fun i e=>log_60 (hi i e),rfl,?_⟩;rw [g2,aW,hv,aq,aq];show _=_++[V.str (wdS v)];unfold wdS;rw [ez];rfl
  ·obtain ⟨rfl,g2⟩:=q
   rw [bI] at g2;have S4:b8 H3 (upd H3 D (.lst zs)):=b8.put (b8.refl _) hD;have hD4:(upd H3 D (.lst zs)) D=some (.lst ((r.map wdS).map V.str)):=by rw [aP,g2]
   generalize upd H3 D (.lst zs)=H4 at S4 hD4 ⊢;refine ⟨_,D,_,rfl,rfl,SqL.of hD4,(by trivial),?_,?_⟩
   ·have:=sum_le (fun x:Str=>x.length) 100 (r.map wdS) fun y hy=>by
     obtain ⟨v,hv,rfl⟩:=aG.mp hy;obtain ⟨⟨z,e,l⟩,_⟩:=hw v hv;unfold wdS;rw [e];exact l
    rw [ae] at this;rw [ae];have:r.length * 100≤60 * 100:=Nat.mul_le_mul_right _ lr;lia
   have hM4:=S4 _ _ hM2;refine ⟨M,_,_,rfl,rfl,hM4,(by simp only [ae,aD,aU];lia),?_⟩;refine ⟨fun c o hc e=>by rw [aX hc];exact S4 _ _ (k2 _ _ hc e),?_,_,rfl⟩;rw [aP,aW,hr',aq];show some (HO.lst (_++[V.str (oX r)]))=_;rw [←List.cons_append,aq];rfl
 ·rintro σ H2 ⟨k2,hM2,v3,rfl⟩
  rw [R.len,bI] at hM2;refine ⟨rfl,_,rfl,_,M,_,rfl,rfl,SqL.of hM2,(by trivial),?_,k H2 fun c o e=>k2 c o (aV e hM) (S0 _ _ e)⟩;have:=sum_le (fun x:Str=>x.length) 7000 ((("beat " :Str)++j3 b)::rows.map oX) fun y hy=>by
   rcases av.mp hy with e | hy
   ·subst e;lia
   ·obtain ⟨r,hr,rfl⟩:=aG.mp hy
    exact rowW_len (all r hr).2 (all r hr).1
  simp only [aD,ae] at this ⊢;have:(rows.length+1) * 7000≤71 * 7000:=Nat.mul_le_mul_right _ (by lia);lia
def WOk (v:V):Prop:=(∃ z,v= .str z∧nam z=true)∨∃ i,v= .int i∧W60 i
theorem nam_len (h:nam z=true):1≤z.length∧z.length≤8:=by
 unfold nam at h;rw [bY,bY] at h;exact ⟨pI h.1,pI h.2.1⟩
theorem nam_cps (h:nam z=true):∀ c∈z.cps.toList,97≤c∧c≤122:=by
 unfold nam at h;rw [bY,bY,gJ] at h;exact fun c hc=>pI (h.2.2 c hc)
theorem WOk.wd (h:WOk v):WdOk v:=by
 rcases h with ⟨z,rfl,hz⟩ | ⟨i,rfl,hi⟩
 ·exact ⟨⟨z,rfl,by have:=nam_len hz;lia⟩,fun i e=>by cases e⟩
 ·exact ⟨⟨j3 i,rfl,by have:=kK hi;lia⟩,fun j e=>by cases e;exact hi⟩
theorem WOk.free (h:WOk v){c:Nat}(hc:c<48):c ∉ (wdS v).cps.toList:=by
 rcases h with ⟨z,rfl,hz⟩ | ⟨i,rfl,hi⟩
 ·intro m
  have:=nam_cps hz c m;lia
 ·exact oo hi hc
theorem rowW_split {r:List V}(h:∀ v∈r,WOk v)(hne:r≠[]):cM (oX r) sp_=r.map wdS:=by
 unfold oX;rw [sp_eq];refine mH (fun z=>hne (List.map_eq_nil_iff.mp z)) fun p hp=>?_
 obtain ⟨v,hv,rfl⟩:=aG.mp hp;exact (h v hv).free (by decide)
theorem rowW_free {r:List V}(h:∀ v∈r,WOk v):10 ∉ (oX r).cps.toList:=fun m=>by
 unfold oX at m;rw [sp_eq,show iA ⟨#[32]⟩ (r.map wdS)=fU ⟨#[32]⟩ (r.map wdS) from eV _ _] at m
 rcases join_mem m with e | ⟨y,hy,m2⟩
 ·cases e
 ·obtain ⟨v,hv,rfl⟩:=aG.mp hy
  exact (h v hv).free (by decide) m2
theorem beat_two (b:Int):("beat " :Str)++j3 b=iA sp_ ["beat",j3 b]:=by
 rw [show iA sp_ ["beat",j3 b]=fU sp_ ["beat",j3 b] from eV _ _,lB];show _=("beat" :Str)++sp_++j3 b;rw [show ("beat " :Str)=("beat" :Str)++sp_ by trivial]
theorem beat_split (hb:W60 b):cM (("beat " :Str)++j3 b) sp_=[("beat" :Str),j3 b]:=by
 rw [beat_two,sp_eq];refine mH (by simp) fun p hp=>?_
 simp only [av,aL,or_false] at hp
 rcases hp with rfl | rfl
 ·decide +kernel
 ·exact oo hb (by decide)
theorem beat_free (hb:W60 b):10 ∉ (("beat " :Str)++j3 b).cps.toList:=by
 rw [cps_app];intro m
 rcases bg.mp m with m | m
 ·revert m;decide +kernel
 ·exact oo hb (by decide) m
theorem planT_split {rows:List (List V)}(hb:W60 b)(h:∀ r∈rows,∀ v∈r,WOk v):cM (planT b rows) nl_=(("beat " :Str)++j3 b)::rows.map oX:=by
 unfold planT;rw [nl_eq];refine mH (by simp) fun p hp=>?_
 rcases av.mp hp with rfl | hp
 ·exact beat_free hb
 ·obtain ⟨r,hr,rfl⟩:=aG.mp hp
  exact rowW_free (h r hr)
theorem join_len {c:Str}(hc:c.length=1){m:Nat}:∀ ys:List Str,(∀ y∈ys,y.length≤m)→(fU c ys).length≤ys.length * (m+1)
 | [],_=>by show 0≤_;lia
 | [y],hy=>by
  show y.length≤_;have:=hy y (by simp);simp only [aD,iZ];lia
 | y::z::ys,hy=>by
  rw [lB,lR,lR,hc];have h1:=hy y (by simp);have h2:=join_len hc (z::ys) fun x hx=>hy x (aO _ hx)
  have e:(y::z::ys).length * (m+1)=(z::ys).length * (m+1)+(m+1):=by rw [aD,Nat.succ_mul]
  lia
theorem rowW_len2 {r:List V}(h:∀ v∈r,WOk v)(hl:r.length≤12):(oX r).length≤1220:=by
 unfold oX;rw [show iA sp_ (r.map wdS)=fU sp_ (r.map wdS) from eV _ _];have:=join_len (c:=sp_) (by trivial) (m:=100) (r.map wdS) fun y hy=>by
  obtain ⟨v,hv,rfl⟩:=aG.mp hy;obtain ⟨⟨z,e,l⟩,_⟩:=(h v hv).wd;unfold wdS;rw [e];exact l
 rw [ae] at this;lia
theorem planT_len2 {rows:List (List V)}(hb:W60 b)(h:∀ r∈rows,r.length≤12∧∀ v∈r,WOk v)(few:rows.length≤70):(planT b rows).length≤100000:=by
 unfold planT;rw [show iA nl_ (((("beat " :Str)++j3 b))::rows.map oX)=fU nl_ (((("beat " :Str)++j3 b))::rows.map oX) from eV _ _];have:=join_len (c:=nl_) (by trivial) (m:=1220) ((("beat " :Str)++j3 b)::rows.map oX) fun y hy=>by
  rcases av.mp hy with rfl | hy
  ·rw [lR]
   have:=kK hb;have h5:("beat " :Str).length=5:=by trivial
   lia
  ·obtain ⟨r,hr,rfl⟩:=aG.mp hy
   exact rowW_len2 (h r hr).2 (h r hr).1
 simp only [aD,ae] at this;have:(rows.length+1) * (1220+1)≤71 * (1220+1):=Nat.mul_le_mul_right _ (by lia);lia
theorem snB_of {m:Int}{x:Sn}(s0:0≤x.s)(s1:x.s<m)(g0:0≤x.g)(g1:x.g<m)(ne:x.s≠x.g)(l0:0≤x.l)(lo:x.l≤x.o)(ob:x.o<x.l+b)(o60:x.o<10 ^ 60)(w0:0≤x.w)(w1:x.w≤1000000000000):snB b m x=true:=by
 have inn:∀ i lo hi:Int,lo≤i→i≤hi→inI (.int i) lo hi=true:=fun i lo hi h1 h2=>by
  show (decide (lo≤i) && decide (i≤hi))=true;rw [pG h1,pG h2];rfl
 unfold snB;have e1:lU m (.int x.s) (.int x.g)=true:=by
  unfold lU;rw [inn x.s 0 (m - 1) s0 (by lia),inn x.g 0 (m - 1) g0 (by lia),pH (fun z=>ne (by injection z))];rfl
 have e2:ow b (.int x.l) (.int x.o)=true:=by
  show (inI (.int x.l) 0 B60 && inI (.int x.o) x.l (if B60<x.l+b - 1 then B60 else x.l+b - 1))=true;rw [inn x.l 0 B60 l0 (by unfold B60;lia),inn x.o x.l _ lo (by split <;> (unfold B60 at *;lia))];rfl
 rw [e1,e2,inn x.w 0 1000000000000 w0 w1];rfl
end HN
namespace L2
open PySem PySem.Spec PyProof.Rows
def Itr2 (lo:Int)(n:Nat):It:=⟨fun i _=>i<n,fun i H x H'=>H'=H∧x= .int (lo+i * 2),fun i _=>n≤i⟩
theorem turn_range2 (it:ak)(lo:Int)(n:Nat):Turn P w K tg (Itr2 lo n) [it] it (fun i h=>IsRangeIter h it (lo+(i:Nat) * 2) ((n:Int) - (i:Nat)) 2) where
 mem:=by simp
 obj:=fun i h st b hb=>by
  have e:b=it:=by simpa using hb
  subst e;exact ⟨_,st,fun v z=>by
   have z':Data.fields _=Data.cell v:=z;cases z'⟩
 keep:=fun i h h' st k=>k it (by simp) _ st
 item:=by
  intro X hP hw hK hc i aI s σ H E I hf st hg;subst hP hw hK;obtain ⟨f0,f1,f2,f3,f4,f5⟩:=hf it (by simp);have W:=Walks.range (prog:=X.prog) (w:=X.w) (I.ok.hd hc) it lo 2 n;refine W.item i s _ _ hg st fun v h' tk hv st' kk=>?_
  obtain ⟨t,rfl⟩:=hv;have I1:Inv X aI σ H { s with heap:=h',toks:=tk }:=I.turned (fun b o hb e=>kk b o (by simpa using hb) e) f0 f1 f3 f4 f5;exact ⟨_,rfl,go_of (s:={ s with heap:=h',toks:=tk }) (n := "range_iterator") st' rfl rfl (by decide) ⟨.int (lo+i * 2),H,I1,⟨t,rfl⟩,⟨rfl,rfl⟩,st',fun b hb=>(hf b hb).1⟩⟩
 done:=by
  intro X hP hw hK hc i aI s σ H E I hf st hg;subst hP hw hK;obtain ⟨f0,f1,f2,f3,f4,f5⟩:=hf it (by simp);exact wpAny_pyNext_range_end (I.ok.hd hc) st (by have:n≤i:=hg;lia) fun h' eb=>⟨rfl,I.turned (t':=s.toks) (fun b o hb e=>eb b o hb e) f0 f1 f3 f4 f5⟩
 self:=fun _ _ _ _ _ st h=>wpAny_pyIter_rangeiter st h
theorem l9 (a b:Int):iw a b 2=((((b - a+1) / 2).toNat:Nat):Int):=by
 unfold iw;simp only [show (2:Int) > 0 by decide,if_true];split <;> lia
theorem small_two {a:Int}(ha: -(2 ^ 40)≤a)(ha':a<2 ^ 40)(hb: -(2 ^ 40)≤b)(hb':b<2 ^ 40):fW.Range.small a b 2=true:=by
 unfold fW.Range.small;rw [l9];simp only [fW.Range.rangeFitsLong,bY,Bool.or_eq_true,decide_eq_true_eq,beq_iff_eq,show (2:Int) > 0 by decide,if_true];lia
theorem range_it2 {R:It→Hp→Prop}{t u v:Tok}{tk:Nat}(I:Inv X aI σ H s)(h1: -(2 ^ 40)≤lo)(h2:lo<2 ^ 40)(h3: -(2 ^ 40)≤hi)(h4:hi<2 ^ 40)
  (q:R (Itr2 lo ((hi - lo+1) / 2).toNat) H):bo (bQ X.prog X.w) X.A (pyIter (.ref s.heap.objs.size)) (PIE X aI σ tg R) E { s with heap:=s.heap.push { cls:= .type "range",data:= .fields #[.int lo t,.int hi u,.int 2 v] },toks:=tk }:=by
 refine wpAny_pyIter_range (IsRange.new ..) (small_two h1 h2 h3 h4) ?_;have I1:Inv X aI σ H { s with heap:=s.heap.push { cls:= .type "range",data:= .fields #[.int lo t,.int hi u,.int 2 v] },toks:=tk }:=I.kept fun b o e=>ao _ e
 refine ⟨(s.heap.push { cls:= .type "range",data:= .fields #[.int lo t,.int hi u,.int 2 v] }).objs.size,[(s.heap.push { cls:= .type "range",data:= .fields #[.int lo t,.int hi u,.int 2 v] }).objs.size],_,_,H,rfl,
  I1.kept (t':=tk) fun b o e=>ao _ e,turn_range2 _ lo ((hi - lo+1) / 2).toNat,?_,fun b hb=>?_,q⟩
 ·have e1:lo+((0:Nat):Int) * 2=lo:=by simp
  have e2:((((hi - lo+1) / 2).toNat:Nat):Int) - ((0:Nat):Int)=iw lo hi 2:=by rw [l9];simp
  show IsRangeIter _ _ (lo+((0:Nat):Int) * 2) (((((hi - lo+1) / 2).toNat:Nat):Int) - ((0:Nat):Int)) 2;rw [e1,e2];exact aJ _ rfl
 ·have e:b=(s.heap.push { cls:= .type "range",data:= .fields #[.int lo t,.int hi u,.int 2 v] }).objs.size:=by simpa using hb
  subst e;exact I1.fpOk (az _) (I1.hok.fresh (az _))
def iRng3 (ta:TA):TI:=fun σ H R=>ta σ H fun vs H1=>∃ i j:Int,vs=[.int i,.int j,.int 2]∧(-(2 ^ 40)≤i∧i<2 ^ 40∧ -(2 ^ 40)≤j∧j<2 ^ 40)∧R (Itr2 i ((j - i+1) / 2).toNat) H1
theorem ma {a b c:Expr}{ta:TA}{p:Pos}(hg:Gl X "range")(hm:X.mg "range" =none)(ha:PA X [a,b,c] ta)(hs:bw [a,b,c] X.env=[(false,dn a X.env),(false,dn b X.env),(false,dn c X.env)]:=by rfl)(hs2:bw [b,c] X.env=[(false,dn b X.env),(false,dn c X.env)]:=by rfl) :
  PI X tg (.Call (.Name "range" p) [a,b,c] [] pos) (iRng3 ta):=by
 intro aI s σ H R I h;refine Call_ (mm I hg hm boot_range (c9 (thn (ha pos aI s σ H _ I h) fun us s1 ⟨vs,H1,I1,r1,q1⟩=>?_) (by rw [hs,hs2]) (by rw [hs2];rfl)));obtain ⟨i,j,e,⟨q1,q2,q3,q4⟩,q⟩:=q1;subst e;cases r1 with
 | cons r rr =>
  cases rr with
  | cons r' rr =>
   cases rr with
   | cons r'' rr =>
    cases rr;obtain ⟨t,rfl⟩:=r;obtain ⟨t',rfl⟩:=r';obtain ⟨t'',rfl⟩:=r'';exact call_range_3 (by decide) (range_it2 I1 q1 q2 q3 q4 q) (Or.inl (PyProof.noPylong_small (by lia)))
theorem lE {D:mW}(Pv:Nat→St→Hp→Prop)(h0:Pv 0 σ H)
  (hs:∀ i σ H,i<n→Pv i σ H→g (.int (lo+i * 2)) σ H fun σ2 H2=>tb { D with nx:=Pv (i+1),ct:=Pv (i+1),bk:=D.nx } σ2 H2) (hd:∀ σ H,Pv n σ H→D.nx σ H) :
  ∃ W:Nat→Nat→St→Hp→Prop,(∃ m,W 0 m σ H)∧∀ i m σ H,W i m σ H →
   ((Itr2 lo n).stop i H∧D.nx σ H)∨((Itr2 lo n).go i H∧∃ N:St→Hp→Prop,(∀ σ' H',N σ' H'→∃ m',m'<m∧W (i+1) m' σ' H')∧∀ x H',(Itr2 lo n).yld i H x H'→g x σ H' fun σ2 H2=>tb { D with nx:=N,ct:=N,bk:=D.nx } σ2 H2):=by
 refine ⟨fun i m σ H=>m=n - i∧i≤n∧Pv i σ H,⟨n,by simp,cz _,h0⟩,?_⟩;rintro i m σ H ⟨rfl,hi,p⟩
 by_cases hlt:i<n
 ·refine .inr ⟨hlt,Pv (i+1),fun σ' H' p'=>⟨n - (i+1),by lia,rfl,hlt,p'⟩,fun x H' y=>?_⟩
  obtain ⟨e,y⟩:=y;subst e y;exact hs i σ _ hlt p
 ·have e:i=n:=by lia
  subst e;exact .inl ⟨az _,hd σ H p⟩
end L2
namespace HN
open PySem L2 PyProof.Rows HT2
def iG:List Str→List Int→List V
 | s::ss,r::rs=> .str s:: .int r::iG ss rs
 | s::_,[]=>[.str s]
 | [],_=>[]
def PR.rowV:PR→List V
 | .beat b=>[.str "beat",.int b]
 | .line n ss rs=> .str "line" :: .str n::iG ss rs
 | .oth k ns is=> .str k::(ns.map V.str++is.map V.int)
theorem jk:∀ {ss:List Str} {rs:List Int},ss.length=rs.length+1→(iG ss rs).length=2 * ss.length - 1
 | [],_,h=>by simp at h
 | [_],[],_=>rfl
 | _::_::_,[],h=>by simp at h
 | s::ss,r::rs,h=>by
  have hl:ss.length=rs.length+1:=by simpa using h
  show (iG ss rs).length+1+1=_;rw [jk hl,aD];lia
theorem oE:∀ {ss:List Str} {rs:List Int} (i:Nat),ss.length=rs.length+1→(iG ss rs)[2 * i]? =(ss[i]?).map V.str
 | [],_,_,h=>by simp at h
 | [_],[],0,_=>rfl
 | [_],[],i+1,_=>rfl
 | _::_::_,[],_,h=>by simp at h
 | s::ss,r::rs,0,_=>rfl
 | s::ss,r::rs,i+1,h=>by
  have hl:ss.length=rs.length+1:=by simpa using h
  show (V.str s:: .int r::iG ss rs)[2 * i+1+1]? =_;rw [aH,aH,oE i hl,aH]
theorem snocI {P:List α→Prop}(h0:P [])(h1:∀ l a,P l→P (l++[a]))(l:List α):P l:=by
 have go:∀ m:List α,P m.reverse:=by
  intro m
  induction m with
  | nil=>exact h0
  | cons a m ih=>rw [List.reverse_cons];exact h1 _ _ ih
 have:=go l.reverse
 rwa [List.reverse_reverse] at this
def Ln.core (x:Ln):Ln:={ x with st:=[] }
def mF (ls:List Ln):PR→List Ln
 | .line n ss rs=>ls++[⟨n,ss,rs,[],gf ls⟩]
 | .oth k [n,z] [l,o,w]=>if k = "stay" then ls.map (iR n z (l,o,w)) else ls
 | _=>ls
def ig (rs:List PR):List Ln:=rs.foldl mF []
def nV (ls:List Ln):PR→List Ln
 | .line n ss rs=>ls++[⟨n,ss,rs,[],gf ls⟩]
 | _=>ls
def lsC (rs:List PR):List Ln:=rs.foldl nV []
def PR.isL:PR→Bool
 | .line _ _ _=>true
 | _=>false
theorem k6 (rs:List PR)(r:PR):ig (rs++[r])=mF (ig rs) r:=by unfold ig;rw [jo];rfl
theorem gj (rs:List PR)(r:PR):lsC (rs++[r])=nV (lsC rs) r:=by unfold lsC;rw [jo];rfl
theorem stepC_no (h:r.isL=false):nV ls r=ls:=by
 cases r with
 | line=>cases h
 | _=>rfl
theorem lsC_ins {a c:List PR}(h:r.isL=false):lsC (a++r::c)=lsC (a++c):=by
 unfold lsC;rw [jo,jo,List.foldl_cons,stepC_no h]
theorem jz (ls:List Ln):gf (ls.map Ln.core)=gf ls:=by unfold gf;rw [bO];rfl
theorem nW (n z:Str)(v:Int×Int×Int)(x:Ln):(iR n z v x).core=x.core:=by unfold iR;split <;> rfl
theorem step_core (ls:List Ln)(r:PR):(mF ls r).map Ln.core=nV (ls.map Ln.core) r:=by
 unfold mF;split
 ·rw [aq]
  show _=ls.map Ln.core++[_];rw [jz];rfl
 ·have e:∀ (c:Prop) [Decidable c] (f:Ln→Ln),(∀ x,(f x).core=x.core)→(if c then ls.map f else ls).map Ln.core=ls.map Ln.core:=fun c _ f hf=>by
   split
   ·rw [bO]
    exact cP fun x _=>hf x
   ·rfl
  exact e _ _ fun x=>nW _ _ _ x
 ·next h1 h2 =>
  cases r with
  | line n ss rs=>exact pF rfl (h1 n ss rs)
  | _=>rfl
theorem eT (rs:List PR):(ig rs).map Ln.core=lsC rs:=by
 have go:∀ (rs:List PR) (ls:List Ln),(rs.foldl mF ls).map Ln.core=rs.foldl nV (ls.map Ln.core):=by
  intro rs
  induction rs with
  | nil=>intro ls;rfl
  | cons r rs ih =>
   intro ls;rw [List.foldl_cons,List.foldl_cons,ih,step_core]
 exact go rs []
def PR.lnOk:PR→Prop
 | .line n ss rs=>nam n=true∧(∀ s∈ss,nam s=true)∧ss.Nodup∧2≤ss.length∧ss.length≤5∧ss.length=rs.length+1∧∀ r∈rs,0≤r∧r<10 ^ 12
 | _=>False
def PR.sty2:PR→Option (Str×Str)
 | .oth k [n,z] _=>if k = "stay" then some (n,z) else none
 | _=>none
def stz (rs:List PR):List (Str×Str):=rs.filterMap PR.sty2
def NumOk (b l o w:Int):Prop:=0≤l∧l≤o∧o<l+b∧o<10 ^ 60∧0≤w∧w≤1000000000000
def StOk (b:Int)(pre:List PR)(ns:List Str)(is:List Int):Prop:=∃ (x:Ln) (z:Str) (l o w:Int) (i:Nat),x∈lsC pre∧ns=[x.n,z]∧is=[l,o,w]∧x.ss[i]? =some z∧1≤i∧i+1<x.ss.length∧(x.n,z) ∉ stz pre∧NumOk b l o w
def BwOk (b:Int)(pre:List PR)(k:Str)(ns:List Str)(is:List Int):Prop:=∃ sn:Sn,Btw b (lsC pre) k ns is sn∧NumOk b sn.l sn.o sn.w∧∀ i∈is,W60 i
def lH (b:Int)(pre:List PR):PR→Prop
 | .beat _=>False
 | .line n ss rs=>n ∉ (lsC pre).map (·.n)∧(PR.line n ss rs).lnOk
 | .oth k ns is=>(k = "stay" ∧StOk b pre ns is)∨(k ≠ "stay" ∧BwOk b pre k ns is)
def gn (b:Int)(rows:List PR):Prop:=∀ i r,rows[i]? =some r→lH b (rows.take i) r
theorem lH.more {a c:List PR}{q:PR}(hr:r.isL=false)(hs:∀ p,q.sty2=some p→r.sty2≠some p)(h:lH b (a++c) q):lH b (a++r::c) q:=by
 cases q with
 | beat b'=>exact h
 | line n ss rs =>
  obtain ⟨h1,h2⟩:=h;exact ⟨by rw [lsC_ins hr];exact h1,h2⟩
 | oth k ns is =>
  rcases h with ⟨rfl,x,z,l,o,w,i,h1,rfl,rfl,h2,h3,h4,h5,h6⟩ | ⟨hk,sn,h1,h2⟩
  ·refine .inl ⟨rfl,x,z,l,o,w,i,by rw [lsC_ins hr];exact h1,rfl,rfl,h2,h3,h4,fun m=>h5 ?_,h6⟩
   unfold stz at m ⊢;rw [ib,gI] at m;rw [ib];have ne:=hs (x.n,z) (by unfold PR.sty2;exact pE rfl);cases e:r.sty2 with
   | none=>rw [e] at m;exact m
   | some p =>
    rw [e] at m ne
    rcases bg.mp m with m | m
    ·exact cB _ m
    ·rcases av.mp m with m | m
     ·exact pF (pJ some m.symm) ne
     ·exact bp _ m
  ·exact .inr ⟨hk,sn,by rw [lsC_ins hr];exact h1,h2⟩
theorem gn.ins {b:Int}{rows:List PR}{r:PR}{m:Nat}(h:gn b rows)(hm:m≤rows.length)(hr:r.isL=false)(ok:lH b (rows.take m) r)(hs:∀ p,r.sty2=some p→p ∉ stz rows):gn b (rows.take m++r::rows.drop m):=by
 have lt:(rows.take m).length=m:=by rw [aU];lia
 intro i q hq
 rcases gx i m with c | c | c
 ·rw [bJ (by lia),dG c] at hq
  have:=h i q hq
  rwa [gO (by lia),List.take_take,dm (by lia)]
 ·subst c
  rw [aN (by lia),lt,dJ,List.getElem?_cons_zero] at hq;cases hq
  rwa [gO (by lia),List.take_take,Nat.min_self]
 ·obtain ⟨j,rfl⟩:∃ j,i=m+1+j:=⟨i - m - 1,by lia⟩
  rw [aN (by lia),lt,show m+1+j - m=j+1 by lia,aH,dQ] at hq;have o:=h (m+j) q hq;have e:(rows.take m++r::rows.drop m).take (m+1+j)=rows.take m++r::(rows.drop m).take j:=by
   rw [List.take_append,lt,show m+1+j - m=j+1 by lia,bN (by lia),List.take_succ_cons]
  have e2:rows.take (m+j)=rows.take m++(rows.drop m).take j:=by rw [List.take_add]
  rw [e];rw [e2] at o;refine o.more hr fun p hp e3=>hs p e3 ?_
  unfold stz;exact gW.mpr ⟨q,ay hq,hp⟩
theorem lsC_mem:∀ {rs:List PR} {x:Ln},x∈lsC rs→PR.line x.n x.ss x.rs∈rs∧x.st=[]:=by
 intro rs
 induction rs using snocI with
 | h0=>intro x h;cases h
 | h1 rs r ih =>
  intro x h;rw [gj] at h;cases r with
  | line n ss rs' =>
   rcases bg.mp h with h | h
   ·obtain ⟨a,b⟩:=ih h
    exact ⟨cB _ a,b⟩
   ·rw [aB.mp h]
    exact ⟨bp _ (aB.mpr rfl),rfl⟩
  | beat b=>obtain ⟨a,b⟩:=ih h;exact ⟨cB _ a,b⟩
  | oth k ns is=>obtain ⟨a,b⟩:=ih h;exact ⟨cB _ a,b⟩
theorem hapL_nn (ls:List Ln):0≤gf ls:=by
 unfold gf
 induction ls with
 | nil=>simp
 | cons x ls ih=>rw [aT,dq];lia
theorem jX (ls:List Ln)(x:Ln):gf (ls++[x])=gf ls+2 * (x.rs.length:Int):=by unfold gf;simp
structure Lay (ls:List Ln):Prop where
 in_:∀ x∈ls,0≤x.fi∧x.fi+2 * (x.rs.length:Int)≤gf ls
 ap:∀ x∈ls,∀ y∈ls,x.n≠y.n→x.fi+2 * (x.rs.length:Int)≤y.fi∨y.fi+2 * (y.rs.length:Int)≤x.fi
theorem lay_C (rs:List PR):Lay (lsC rs):=by
 induction rs using snocI with
 | h0=>exact ⟨(fun x h=>by cases h),(fun x h=>by cases h)⟩
 | h1 rs r ih =>
  rw [gj];cases r with
  | line n ss rs' =>
   show Lay (lsC rs++[⟨n,ss,rs',[],gf (lsC rs)⟩]);have nn:=hapL_nn (lsC rs);refine ⟨fun x hx=>?_,fun x hx y hy ne=>?_⟩
   ·rw [jX]
    rcases bg.mp hx with hx | hx
    ·have:=ih.in_ x hx
     dsimp only
     lia
    ·rw [aB.mp hx]
     dsimp only
     lia
   ·rcases bg.mp hx with hx | hx
    ·rcases bg.mp hy with hy | hy
     ·exact ih.ap x hx y hy ne
     ·rw [aB.mp hy]
      have:=ih.in_ x hx
      dsimp only
      lia
    ·rw [aB.mp hx]
     rcases bg.mp hy with hy | hy
     ·have:=ih.in_ y hy
      dsimp only
      lia
     ·rw [aB.mp hx,aB.mp hy] at ne
      exact pF rfl ne
  | beat b=>exact ih
  | oth k ns is=>exact ih
theorem gn.take (h:gn b rows)(m:Nat):gn b (rows.take m):=fun i r hr=>by
 have hi:i<m:=by
  by_cases c:i<m
  ·exact c
  ·rw [gp (by rw [aU];lia)] at hr;cases hr
 rw [dG hi] at hr;rw [List.take_take,dm (by lia)];exact h i r hr
theorem gn.lnOk (h:gn b rows){x:Ln}(hx:x∈lsC rows):(PR.line x.n x.ss x.rs).lnOk:=by
 obtain ⟨i,hi⟩:=bR (lsC_mem hx).1;exact (h i _ hi).2
theorem gn.nd (h:gn b rows):((lsC rows).map (·.n)).Nodup:=by
 have go:∀ m,m≤rows.length→((lsC (rows.take m)).map (·.n)).Nodup:=by
  intro m
  induction m with
  | zero=>intro _;exact List.nodup_nil
  | succ m ih =>
   intro hm;have e:=gE (show m<rows.length by lia);rw [aW,e];show ((lsC (rows.take m++[rows[m]])).map (·.n)).Nodup;rw [gj];have o:=h m _ e;generalize rows[m]=r at o;cases r with
   | line n ss rs =>
    show ((lsC (rows.take m)++[(⟨n,ss,rs,[],gf (lsC (rows.take m))⟩:Ln)]).map (·.n)).Nodup;rw [aq];refine List.nodup_append.mpr ⟨ih (by lia),by simp,fun a ha b hb=>?_⟩;have:b=n:=by simpa using hb
    rw [this];exact fun z=>o.1 (z ▸ ha)
   | beat b=>exact ih (by lia)
   | oth k ns is=>exact ih (by lia)
 have:=go rows.length (az _)
 rwa [bI] at this
theorem ownS_len (h:l.ss.length=l.rs.length+1):(lX l).length+1=2 * l.rs.length∨l.rs.length=0:=by
 have go:∀ k,k<l.rs.length→(ownN l k).length=2 * k:=by
  intro k
  induction k with
  | zero=>intro _;rfl
  | succ k ih =>
   intro hk;rw [iS,aj,ih (by lia)];unfold stp;rw [pE (by lia)];rfl
 cases e:l.rs.length with
 | zero=>exact .inr rfl
 | succ k =>
  left
  show (ownN l l.rs.length).length+1=_;rw [e,iS,aj,go k (by lia)];unfold stp;rw [pB (by lia)];rfl
def PR.spn:PR→Nat
 | .line _ _ rs=>2 * rs.length - 1
 | .oth k _ _=>if k = "stay" then 0 else 1
 | _=>0
def mG (rows:List PR):Nat:=(rows.map PR.spn).sum
def PR.bwn:PR→Nat
 | .oth k _ _=>if k = "stay" then 0 else 1
 | _=>0
def bwP (rows:List PR):Nat:=(rows.map PR.bwn).sum
def ownL (ls:List Ln):Nat:=(ls.map fun l=>2 * l.rs.length - 1).sum
theorem ownL_core (ls:List Ln):ownL (ls.map Ln.core)=ownL ls:=by unfold ownL;rw [bO];rfl
theorem own_C (rows:List PR):ownL (lsC rows)+bwP rows=mG rows:=by
 induction rows using snocI with
 | h0=>rfl
 | h1 rs r ih =>
  rw [gj];unfold mG bwP at *;rw [aq,aq,g9,g9];cases r with
  | line n ss rs' =>
   show ownL (lsC rs++[_])+_=_;have e:∀ x:Ln,ownL (lsC rs++[x])=ownL (lsC rs)+(2 * x.rs.length - 1):=fun x=>by unfold ownL;rw [aq,g9];simp
   rw [e];show ownL (lsC rs)+(2 * rs'.length - 1)+(_+(0+0))=_+((2 * rs'.length - 1)+0);lia
  | beat b=>show ownL (lsC rs)+(_+(0+0))=_+(0+0);lia
  | oth k ns is=>show ownL (lsC rs)+(_+((if k = "stay" then 0 else 1)+0))=_+((if k = "stay" then 0 else 1)+0);lia
theorem allS_len (h:∀ l∈ls,l.ss.length=l.rs.length+1∧1≤l.rs.length):(mB ls bt).length=ownL ls+bt.length:=by
 unfold mB ownL;rw [aj];congr 1
 induction ls with
 | nil=>rfl
 | cons l ls ih =>
  rw [List.flatMap_cons,aj,aT,dq,ih fun x hx=>h x (aO _ hx)];have:=h l bG
  rcases ownS_len this.1 with e | e <;> lia
theorem bwP_snoc (rs:List PR)(r:PR):bwP (rs++[r])=bwP rs+r.bwn:=by unfold bwP;simp
theorem spnP_take (rs:List PR)(m:Nat):mG (rs.take m)≤mG rs:=by
 have e:mG rs=mG (rs.take m)+mG (rs.drop m):=by
  conv=>lhs;rw [←dF m rs]
  unfold mG;rw [aq,g9]
 lia
theorem hap_take (rs:List PR)(m:Nat):gf (lsC (rs.take m))≤gf (lsC rs):=by
 have go:∀ (c a:List PR),gf (lsC a)≤gf (lsC (a++c)):=by
  intro c
  induction c with
  | nil=>intro a;rw [cG];exact iB _
  | cons r c ih =>
   intro a;have:=ih (a++[r]);rw [cw] at this;refine Int.le_trans ?_ this;rw [gj];cases r with
   | line n ss rs=>show _≤gf (lsC a++[_]);rw [jX];dsimp only;lia
   | beat b=>exact iB _
   | oth k ns is=>exact iB _
 have:=go (rs.drop m) (rs.take m)
 rwa [dF] at this
theorem st_told:∀ {rs:List PR} {x:Ln},x∈ig rs→(∀ z∈x.st.map (·.1),(x.n,z)∈stz rs)∧x.st.length≤rs.length:=by
 intro rs
 induction rs using snocI with
 | h0=>intro x h;cases h
 | h1 rs r ih =>
  intro x h;have up:∀ p,p∈stz rs→p∈stz (rs++[r]):=fun p hp=>by unfold stz;rw [ib];exact cB _ hp
  have le:(rs++[r]).length=rs.length+1:=by simp
  have old:∀ x∈ig rs,(∀ z∈x.st.map (·.1),(x.n,z)∈stz (rs++[r]))∧x.st.length≤(rs++[r]).length:=fun x hx=>by
   obtain ⟨a,b⟩:=ih hx;exact ⟨fun z hz=>up _ (a z hz),by lia⟩
  rw [k6] at h;unfold mF at h;split at h
  ·rcases bg.mp h with h | h
   ·exact old x h
   ·rw [aB.mp h]
    exact ⟨(fun z hz=>by cases hz),cz _⟩
  ·next k n z l o w =>
   by_cases hk:k = "stay"
   ·rw [pE hk] at h
    obtain ⟨y,hy,rfl⟩:=aG.mp h;obtain ⟨a,b⟩:=old y hy;obtain ⟨a',b'⟩:=ih hy;unfold iR;split
    ·next en =>
     refine ⟨fun z' hz=>?_,by show (y.st++[_]).length≤_;rw [aj,le];simp;lia⟩;have hz:z'∈(y.st++[(z,l,o,w)]).map (·.1):=hz;rw [aq] at hz
     rcases bg.mp hz with hz | hz
     ·exact a z' hz
     ·have:z'=z:=by simpa using hz
      subst this;show (y.n,z')∈_;rw [en];unfold stz;rw [ib];refine bp _ (gW.mpr ⟨_,aB.mpr rfl,?_⟩);show (if k = "stay" then some (n,z') else none)=_;rw [pE hk]
    ·exact ⟨a,b⟩
   ·rw [pB hk] at h
    exact old x h
  ·exact old x h
structure lK (b:Int)(rows:List PR):Prop where
 b1:1≤b
 ok:gn b rows
 hap:gf (lsC rows)≤16
 spn:mG rows≤40
 few:rows.length≤70
 ne:lsC rows≠[]
theorem bt_core {x y:Ln}{k:Str}(B:Bt b x.core y.core k ns is sn):Bt b x y k ns is sn:=by
 cases B with
 | change h1 h2 h3 h4=>exact .change (x:=x) (y:=y) h1 h2 h3 h4
 | apart h1 h2 h3 h4=>exact .apart (x:=x) (y:=y) h1 h2 h3 h4
 | meet h1 h2 h3 h4 h5 h6=>exact .meet (x:=x) (y:=y) h1 h2 h3 h4 h5 h6
theorem bt_ends {x y:Ln}{k:Str}(B:Bt b x y k ns is sn)(rx:x.ss.length=x.rs.length+1)(ry:y.ss.length=y.rs.length+1):(x.fi≤sn.s∧sn.s<x.fi+2 * (x.rs.length:Int))∧y.fi≤sn.g∧sn.g<y.fi+2 * (y.rs.length:Int):=by
 have lt:∀ {xs:List Str} {i:Nat} {z:Str},xs[i]? =some z→i<xs.length:=fun h=>(ah.mp h).1
 cases B with
 | change h1 h2 h3 h4=>have:=lt h1;dsimp only;lia
 | apart h1 h2 h3 h4=>dsimp only;lia
 | meet h1 h2 h3 h4 h5 h6=>have:=lt h2;have:=lt h5;dsimp only;lia
theorem bt_kind {x y:Ln}{k:Str}(B:Bt b x y k ns is sn):k ≠ "beat" ∧k ≠ "line" ∧k ≠ "stay" := by
 cases B <;> decide +kernel
theorem runs_of {b:Int}(hb:1≤b):∀ (suf pre:List PR) (bt:List Sn),gn b (pre++suf)→gf (lsC (pre++suf))≤16→mG (pre++suf)≤40→(pre++suf).length≤70→bt.length=bwP pre→∃ bt',Runs b (ig pre) bt suf (ig (pre++suf)) bt'∧bt'.length=bwP (pre++suf)
 | [],pre,bt,_,_,_,_,hl=>⟨bt,by rw [cG];exact .nil,by rw [cG];exact hl⟩
 | r::suf,pre,bt,ok,hh,hs,hn,hl=>by
  have ea:pre++r::suf=pre++[r]++suf:=by simp
  have e1:(pre++r::suf).take (pre.length+1)=pre++[r]:=by rw [ea];exact fJ (by simp)
  have e0:(pre++r::suf).take pre.length=pre:=fJ rfl;have o:lH b pre r:=by
   have:=ok pre.length r (by rw [aN (az _),dJ];rfl)
   rwa [e0] at this
  have ok0:gn b pre:=by have:=ok.take pre.length;rwa [e0] at this
  have ok1:gn b (pre++[r]):=by have:=ok.take (pre.length+1);rwa [e1] at this
  have h1:gf (lsC (pre++[r]))≤16:=by have:=hap_take (pre++r::suf) (pre.length+1);rw [e1] at this;lia
  have s1:mG (pre++[r])≤40:=by have:=spnP_take (pre++r::suf) (pre.length+1);rw [e1] at this;lia
  have lok:∀ {rs:List PR},gn b rs→∀ l∈ig rs,l.ss.length=l.rs.length+1∧1≤l.rs.length:=fun {rs} ok l hl=>by
   have m:l.core∈lsC rs:=by rw [←eT];exact cX hl
   obtain ⟨_,_,_,a,_,c,_⟩:=ok.lnOk m;have a:2≤l.ss.length:=a;have c:l.ss.length=l.rs.length+1:=c;exact ⟨c,by lia⟩
  have small:∀ {bt1:List Sn},bt1.length=bwP (pre++[r])→nZ (ig (pre++[r])) bt1=true:=fun {bt1} hb1=>by
   unfold nZ;have c1:gf (ig (pre++[r]))≤16:=by rw [←jz,eT];exact h1
   have c2:(mB (ig (pre++[r])) bt1).length≤40:=by
    rw [allS_len (lok ok1),hb1,←ownL_core,eT,own_C];exact s1
   rw [pG c1,pG c2];rfl
  have hapO:gf (ig pre)=gf (lsC pre):=by rw [←jz,eT]
  have lay:=lay_C pre;have step:∃ bt1,Tk b (ig pre) bt r (ig (pre++[r])) bt1∧bt1.length=bwP (pre++[r]):=by
   cases r with
   | beat b'=>exact pF o id
   | line n ss rs =>
    obtain ⟨o1,o2,o3,o4,o5,o6,o7,o8⟩:=o;have hb1:bt.length=bwP (pre++[.line n ss rs]):=by rw [bwP_snoc,hl];rfl
    refine ⟨bt,?_,hb1⟩;have sm:=small hb1;rw [k6] at sm ⊢;refine .line (fun m=>o1 ?_) o4 o5 (by lia) o7 sm;rw [←eT,bO];exact m
   | oth k ns is =>
    rcases o with ⟨rfl,x,z,l,o,w,i,hx,rfl,rfl,q1,q2,q3,q4,q5,q6,q7,q8,q9,q10⟩ | ⟨hk,sn,⟨x,y,hx,hy,ne,B⟩,⟨q5,q6,q7,q8,q9,q10⟩,wi⟩
    ·refine ⟨bt,?_,by rw [bwP_snoc,hl];rfl⟩
     obtain ⟨hx1,hx2⟩:=lay.in_ x hx;obtain ⟨_,_,_,_,_,c,_⟩:=ok0.lnOk hx;rw [←eT] at hx;obtain ⟨x',hx',rfl⟩:=aG.mp hx;obtain ⟨t1,t2⟩:=st_told hx';rw [k6,show mF (ig pre) (.oth "stay" [x'.core.n,z] [l,o,w])=(ig pre).map (iR x'.n z (l,o,w)) from by unfold mF;exact pE rfl];have c:x'.ss.length=x'.rs.length+1:=c;have q3:i+1<x'.ss.length:=q3;have hx1:0≤x'.fi:=hx1;have hx2:x'.fi+2 * (x'.rs.length:Int)≤gf (lsC pre):=hx2;have hn2:pre.length≤70:=by rw [aj] at hn;lia
     exact .stay (x:=x') hx' (fun m=>q4 (t1 z m)) (by lia) q1 q2 q3 (snB_of (by dsimp only;lia) (by dsimp only;lia) (by dsimp only;lia) (by dsimp only;lia) (by dsimp only;lia) q5 q6 q7 q8 q9 q10)
    ·obtain ⟨k1,k2,k3⟩:=bt_kind B
     have hb1:(bt++[sn]).length=bwP (pre++[.oth k ns is]):=by
      rw [bwP_snoc,aj,hl];show _=_+(if k = "stay" then 0 else 1);rw [pB k3];rfl
     refine ⟨bt++[sn],?_,hb1⟩;have sm:=small hb1;have es:ig (pre++[.oth k ns is])=ig pre:=by
      rw [k6];unfold mF;split
      ·next h=>cases h
      ·next h=>cases h;rw [pB k3]
      ·rfl
     rw [es] at sm ⊢;obtain ⟨hx1,hx2⟩:=lay.in_ x hx;obtain ⟨hy1,hy2⟩:=lay.in_ y hy;have ap:=lay.ap x hx y hy ne;obtain ⟨_,_,_,_,_,cx,_⟩:=ok0.lnOk hx;obtain ⟨_,_,_,_,_,cy,_⟩:=ok0.lnOk hy;obtain ⟨⟨e1,e2⟩,e3,e4⟩:=bt_ends B cx cy;rw [←eT] at hx hy;obtain ⟨x',hx',rfl⟩:=aG.mp hx;obtain ⟨y',hy',rfl⟩:=aG.mp hy;exact .btw ⟨x',y',hx',hy',ne,bt_core B⟩ k1 k2 k3 (by rw [hapO];exact snB_of (by lia) (by lia) (by lia) (by lia) (by lia) q5 q6 q7 q8 q9 q10) sm
  obtain ⟨bt1,tk,hb1⟩:=step;obtain ⟨bt',ru,hb'⟩:=runs_of hb suf (pre++[r]) bt1 (by rw [←ea];exact ok) (by rw [←ea];exact hh) (by rw [←ea];exact hs) (by rw [←ea];exact hn) hb1;exact ⟨bt',.cons tk (by rw [ea];exact ru),by rw [ea];exact hb'⟩
theorem lK.runs (h:lK b rows):∃ bt,Runs b [] [] (.beat b::rows) (ig rows) bt:=by
 obtain ⟨bt,r,_⟩:=runs_of h.b1 rows [] [] h.ok h.hap h.spn h.few rfl;exact ⟨bt,.cons (.beat h.b1) r⟩
end HN
namespace L2
open PySem PySem.Spec PyProof.Rows
theorem mapS_inj {xs:List Str}(h:xs.map V.str=ys.map V.str):xs=ys:=by
 induction xs generalizing ys with
 | nil=>cases ys with
  | nil=>rfl
  | cons _ _=>cases h
 | cons x xs ih=>cases ys with
  | nil=>cases h
  | cons y ys =>
   rw [aT,aT] at h;injection h with h1 h2
   injection h1 with h1
   rw [h1,ih h2]
def eqJ (xs ys:List Str)(j:Nat):Bool:=decide (xs[j]? =ys[j]?)
theorem eqJ_all {xs:List Str}(hl:xs.length=ys.length):(cq xs.length).all (eqJ xs ys)=decide (xs=ys):=by
 by_cases e:xs=ys
 ·subst e
  rw [pG rfl,gJ];exact fun j _=>pG rfl
 ·rw [pH e]
  refine fG.mpr fun h=>e (List.ext_getElem? fun j=>?_)
  by_cases hj:j<xs.length
  ·exact pI (gJ.mp h j (List.mem_range.mpr hj))
  ·rw [gp (by lia),gp (by lia)]
theorem itemS {b:ak}{xs:List Str}(I:Inv X aI σ H s)(ha:H a=some (.lst (xs.map V.str)))(hb:H b=some (.lst (ys.map V.str)))(hl:xs.length=ys.length) :
  ∃ its its2:List ag,s.heap.IsList a its.toArray∧s.heap.IsList b its2.toArray∧its.length=xs.length∧its2.length=ys.length∧∀ (A:b9) (j:Nat) (h1:j<its.toArray.size) (h2:j<its2.toArray.size),bP A s its.toArray[j] its2.toArray[j] (eqJ xs ys j):=by
 obtain ⟨its,rv,p,_⟩:=I.list (SqL.of (K:=X.K) ha);obtain ⟨its2,rv2,p2,_⟩:=I.list (SqL.of (K:=X.K) hb);have l1:its.length=xs.length:=by rw [←rv.length,ae]
 have l2:its2.length=ys.length:=by rw [←rv2.length,ae]
 refine ⟨its,its2,p.isList,p2.isList,l1,l2,fun A j h1 h2=>?_⟩;have h1':j<its.length:=by simpa using h1
 have h2':j<its2.length:=by simpa using h2
 have jx:j<xs.length:=by lia
 have jy:j<ys.length:=by lia
 obtain ⟨u',eu,ru⟩:=rv.get (i:=j) (x:=V.str xs[j]) (by rw [ax,gE jx];rfl);obtain ⟨v',ev,rw'⟩:=rv2.get (i:=j) (x:=V.str ys[j]) (by rw [ax,gE jy];rfl);have eu':its[j]=u':=by rw [gE h1'] at eu;exact bu eu
 have ev':its2[j]=v':=by rw [gE h2'] at ev;exact bu ev
 obtain ⟨t1,rfl⟩:=(show ∃ t,u'=ag.str xs[j] t from ru);obtain ⟨t2,rfl⟩:=(show ∃ t,v'=ag.str ys[j] t from rw');rw [dY,dY,eu',ev'];have e:eqJ xs ys j=(xs[j] == ys[j]):=by
  unfold eqJ;rw [gE jx,gE jy]
  by_cases q:xs[j]=ys[j]
  ·rw [q,pG rfl,beq_self_eq_true]
  ·rw [pH fun z=>q (bu z),beq_eq_false_iff_ne.mpr q]
 rw [e];exact bP.str_str _ _ _ _
theorem op_eqLS (hu:X.A.units+64<ji):OpR X (dj .Eq) (fun x y H Q=>∃ (a b:ak) (xs ys:List Str),x= .ref a∧y= .ref b∧H a=some (.lst (xs.map V.str))∧H b=some (.lst (ys.map V.str))∧xs.length=ys.length∧Q (.bl (decide (xs=ys))) H):=by
 intro aI s σ H x y v u Q I rx ry h;obtain ⟨a,b,xs,ys,rfl,rfl,ha,hb,hl,q⟩:=h;cases (show v=ag.ref a from rx);cases (show u=ag.ref b from ry);obtain ⟨its,its2,p,p2,l1,l2,key⟩:=itemS I ha hb hl;refine SeqAt.eq_listAt (e:=eqJ xs ys) p p2 (by rw [aA,aA];lia) (by lia) (fun j h1 h2=>key _ j h1 h2) (dH I q ?_);rw [aA,l1,eqJ_all hl]
theorem eqAt_S {b:ak}{xs:List Str}(hu:A.units<ji)(I:Inv X aI σ H s)(ha:H a=some (.lst (xs.map V.str)))(hb:H b=some (.lst (ys.map V.str)))(hl:xs.length=ys.length):bP A s (.ref a) (.ref b) (decide (xs=ys)):=by
 by_cases hab:a=b
 ·subst hab
  rw [ha] at hb;have e:xs=ys:=mapS_inj (by injection hb with hb;injection hb);rw [pG e];exact bP.same _
 ·obtain ⟨its,its2,p,p2,l1,l2,key⟩:=itemS I ha hb hl
  have k:=SeqAt.RcAt.lists (A:=A) (e:=eqJ xs ys) p p2 (by rw [aA,aA];lia) hu fun j h1 h2=>key _ j h1 h2
  rw [aA,l1,eqJ_all hl] at k;exact bP.of_refs hab k
def memS (H:Hp)(xs:List Str):ag→Bool
 | .ref q=> @decide (H q=some (.lst (xs.map V.str))) (kJ _)
 | _=>false
theorem memS_ref {xs:List Str}(h:H q=some (.lst (ys.map V.str))):memS H xs (.ref q)=decide (ys=xs):=by
 unfold memS
 by_cases e:ys=xs
 ·subst e
  rw [pG rfl];exact @pG _ (kJ _) h
 ·rw [pH e]
  refine @pH _ (kJ _) fun z=>e ?_
  rw [h] at z;exact mapS_inj (by injection z with z;injection z)
theorem any_memS {H:Hp}{xs:List Str}:∀ {as:List ak} {its:List ag} {ts:List (List Str)},gr (as.map V.ref) its→as.map H=ts.map (fun t=>some (.lst (t.map V.str)))→its.any (memS H xs)=decide (xs∈ts)
 | [],_,[],r,_=>by
  cases r;simp
 | [],_,_::_,_,h=>by cases h
 | _::_,_,[],_,h=>by cases h
 | a::as,_,t::ts,r,h=>by
  rw [aT,aT] at h;injection h with h1 h2
  cases r with
  | cons r0 rs =>
   have r0:_=ag.ref a:=r0;subst r0;rw [hZ,memS_ref h1,any_memS rs h2]
   by_cases e:t=xs
   ·subst e;simp
   ·have:(xs∈t::ts)↔xs∈ts:=by
     rw [av];exact ⟨fun z=>z.resolve_left fun q=>e q.symm,Or.inr⟩
    rw [pH e,Bool.false_or];exact decide_eq_decide.mpr this.symm
theorem op_notInLS (hu:X.A.units+64<ji):OpR X (dj .NotIn) (fun x y H Q=>∃ (a p:ak) (xs:List Str) (as:List ak) (ts:List (List Str)),x= .ref a∧y= .ref p∧H a=some (.lst (xs.map V.str))∧H p=some (.lst (as.map V.ref))∧as.map H=ts.map (fun t=>some (.lst (t.map V.str)))∧(∀ t∈ts,t.length=xs.length)∧Q (.bl (!decide (xs∈ts))) H):=by
 intro aI s σ H x y v u Q I rx ry h;obtain ⟨a,p,xs,as,ts,rfl,rfl,ha,hp,hm,hl,q⟩:=h;cases (show v=ag.ref a from rx);cases (show u=ag.ref p from ry);obtain ⟨its,r,pl,hz⟩:=I.list (SqL.of (K:=X.K) hp);refine SeqAt.notIn_listAt (memS H xs) pl.isList (fun w hw=>?_) ⟨.bl _,H,I,rfl,?_⟩
 ·have hw:w∈its:=by simpa using hw
  obtain ⟨i,hi⟩:=bR hw;have il:i<as.length:=by have:=r.length;rw [ae] at this;rw [this];exact (ah.mp hi).1
  obtain ⟨w',e1,rw'⟩:=r.get (i:=i) (x:=V.ref as[i]) (by rw [ax,gE il];rfl);rw [hi] at e1;cases e1;have rw2:w=ag.ref as[i]:=rw';subst rw2;have e2:(as.map H)[i]? =some (H as[i]):=by rw [ax,gE il];rfl
  rw [hm,ax] at e2;obtain ⟨t,ht,e3⟩:=aS.mp e2;rw [memS_ref e3.symm];exact eqAt_S (A:=X.A.in1) (by show X.A.units+1<ji;lia) I e3.symm ha (hl t (ay ht))
 ·rw [show its.toArray.any (memS H xs)=its.any (memS H xs) by simp,any_memS r hm]
  exact q
def isS (k:Str):ag→Bool:=fun v=>match v with | .str y _=>y == k | _=>false
theorem mt_indexLS:MtM X "list.index" (fun x vs H Q=>∃ (l:ak) (ns:List Str) (k:Str) (i:Nat),x= .ref l∧vs=[.str k]∧H l=some (.lst (ns.map V.str))∧ns[i]? =some k∧(∀ j,j<i→ns[j]? ≠some k)∧i≤1000∧Q (.int (i:Nat)) H):=by
 intro aI s σ H x vs v us Q I rx rv h;obtain ⟨l,ns,k,i,rfl,rfl,hH,hi,hno,hsm,q⟩:=h;cases (show v=ag.ref l from rx);obtain ⟨u,rfl,ru⟩:=rv.one;obtain ⟨t,rfl⟩:=(show ∃ t,u=ag.str k t from ru);obtain ⟨z,its,n,r,hl,e⟩:=I.lstM hH;rw [ae] at hl;have at_:∀ (m:Nat) (hm:m<its.toArray.size) (hm':m<ns.length),∃ tk,its.toArray[m]=ag.str ns[m] tk:=fun m hm hm'=>by
  obtain ⟨u,hu,ru⟩:=r.get (i:=m) (x:=V.str ns[m]) (by rw [ax,gE hm'];rfl);obtain ⟨tk,rfl⟩:=(show ∃ t,u=ag.str ns[m] t from ru);exact ⟨tk,by have:=(ah.mp hu).2;simpa using this⟩
 obtain ⟨hil,hib⟩:=ah.mp hi;have sz:its.toArray.size=ns.length:=by rw [aA];lia
 refine j8 F.slot_list_index ⟨_,e,rfl⟩ F.entry_list_index (F.args_list_index_2 _ _) (SeqAt.list_indexAt l its.toArray n none #[] (.str k t) (isS k) i (by rw [sz];exact hil) (by lia) ?_ fun m hm hmi=>?_) ⟨e,fun y hy=>?_,⟨.int (i:Nat),H,I.tok _,⟨_,rfl⟩,q⟩⟩
 ·obtain ⟨tk,e1⟩:=at_ i (by rw [sz];exact hil) hil
  rw [e1,hib];exact beq_self_eq_true k
 ·obtain ⟨tk,e1⟩:=at_ m hm (by lia)
  rw [e1];refine beq_eq_false_iff_ne.mpr fun z=>hno m hmi ?_
  rw [gE (by lia),z]
 ·obtain ⟨m,hm,rfl⟩:=Array.getElem_of_mem hy
  obtain ⟨tk,e1⟩:=at_ m hm (by lia);rw [e1];exact bP.str_str _ _ _ _
end L2
namespace HN
open PySem L2 PyProof.Rows HT2
abbrev sEndW:cN:=top 45
abbrev sRidW:cN:=top 46
theorem intr_r:∀ {ss:List Str} {rs:List Int} (i:Nat),ss.length=rs.length+1→(iG ss rs)[2 * i+1]? =(rs[i]?).map V.int
 | [],_,_,h=>by simp at h
 | [_],[],0,_=>rfl
 | [_],[],i+1,_=>rfl
 | _::_::_,[],_,h=>by simp at h
 | s::ss,r::rs,0,_=>rfl
 | s::ss,r::rs,i+1,h=>by
  have hl:ss.length=rs.length+1:=by simpa using h
  show (V.str s:: .int r::iG ss rs)[2 * i+1+1+1]? =_;rw [aH,aH,intr_r i hl,aH]
theorem nM:∀ {ss:List Str} {rs:List Int},ss.length=rs.length+1→evs (iG ss rs)=ss.map V.str
 | [],_,h=>by simp at h
 | [_],[],_=>rfl
 | _::_::_,[],h=>by simp at h
 | s::ss,r::rs,h=>by
  have hl:ss.length=rs.length+1:=by simpa using h
  show V.str s::evs (iG ss rs)=_;rw [nM hl];rfl
theorem lsC_sub (c:List PR):∀ (a:List PR) {x:Ln},x∈lsC a→x∈lsC (a++c):=by
 induction c with
 | nil=>intro a x h;rw [cG];exact h
 | cons r c ih =>
  intro a x h;have:=ih (a++[r]) (x:=x) (by
   rw [gj];cases r with
   | line n ss rs=>exact cB _ h
   | beat b=>exact h
   | oth k ns is=>exact h)
  rwa [cw] at this
theorem nJ {x:Ln}(h:x∈lsC (rs.take m)):x∈lsC rs:=by
 have:=lsC_sub (rs.drop m) _ h
 rwa [dF] at this
def PR.okE:PR→Prop
 | .beat _=>False
 | .line _ ss rs=>ss.length=rs.length+1∧2≤ss.length∧ss.length≤400∧ss.Nodup
 | .oth k ns _=>k ≠ "line" ∧ns≠[]
def oV:Option Int→V
 | none=> .non
 | some i=> .int i
def oI (c:Prop)[Decidable c](i:Int):Option Int:=if c then some i else none
def mW (prs:List PR)(n z:Str)(c g:Option Int):Prop:=(∃ x∈lsC prs,∃ i:Nat,x.n=n∧x.ss[i]? =some z∧c=oI (0<i) (x.fi+2 * i - 1)∧g=oI (i+1<x.ss.length) (x.fi+2 * i))∨((∀ x∈lsC prs,x.n=n→z ∉ x.ss)∧c=none∧g=none)
inductive spEndW (vs:List V)(H:Hp)(Q:VK)(_:XK):Prop
 | mk (R:ak)(xs:List V)(prs:List PR)(n z:Str)(_:vs=[.ref R,.str n,.str z])(_:H R=some (.lst xs))(_:kQ H xs (prs.map PR.rowV))(_:(∀ r∈prs,r.okE))(_:prs.length≤100)(_:∀ L c g H',b8 H H'→H' L=some (.lst [oV c,oV g])→mW prs n z c g→Q (.ref L) H')
def Ride (prs:List PR)(n z y:Str)(o:Option Int):Prop:=(∃ x∈lsC prs,∃ (i:Nat) (r:Int),x.n=n∧x.ss[i]? =some z∧x.ss[i+1]? =some y∧x.rs[i]? =some r∧o=some r)∨((∀ x∈lsC prs,x.n=n→∀ i:Nat,x.ss[i]? =some z→x.ss[i+1]? ≠some y)∧o=none)
inductive spRidW (vs:List V)(H:Hp)(Q:VK)(_:XK):Prop
 | mk (R:ak)(xs:List V)(prs:List PR)(n z y:Str)(_:vs=[.ref R,.str n,.str z,.str y])(_:H R=some (.lst xs))(_:kQ H xs (prs.map PR.rowV))(_:(∀ r∈prs,r.okE))(_:prs.length≤100)(_:∀ o H',b8 H H'→Ride prs n z y o→Q (oV o) H')
theorem inV_str:inV (.str z) (ss.map V.str)=decide (z∈ss):=by
 unfold inV
 induction ss with
 | nil=>simp
 | cons s ss ih =>
  rw [aT,hZ,ih];show ((s == z) || _)=_
  by_cases e:s=z
  ·subst e;simp
  ·rw [beq_eq_false_iff_ne.mpr e,Bool.false_or]
   refine decide_eq_decide.mpr ?_;rw [av];exact ⟨Or.inr,fun q=>q.resolve_left fun y=>e y.symm⟩
theorem flat_str (ss:List Str):(ss.map V.str).all mS=true:=by
 rw [gJ];intro v hv;obtain ⟨z,_,rfl⟩:=aG.mp hv;rfl
theorem oW:cp ["_law_rows","_law_name","_law_stop","_law_begin","_law_row","_law_stops","_law_at"] pzo (defScope sEndW):=by trivial
theorem ok_endW (F:Fun K "_law_ends" "_law_ends" sEndW f fd)(T:Nm mg)(hint:mg "int" =none):c7 P w K mg base CX0 1 f fd pzo spEndW:=by
 refine F.ok oW (by contradiction) (fun cdv A outer s H vs Q E hr h=>?_);obtain ⟨R,xs,prs,n,z,rfl,hR,rw_,ok,few,k⟩:=h;refine ⟨_,PSl.h (bq ⟨(psZ 3 oW.nd aC)⟩
  (bq ⟨(gS bS rfl (gN (pv 0)) (pgZ 4 oW.nd) (bB (eX (bK iT (cH aY (pv 4) aC (fun _ _=>rfl)) dv (cb _)) (PSl.h (bq ⟨(psZ 5 oW.nd (pe_twoL (a:=2) (pv 4)))⟩
  (bq ⟨(eX (PW.pt (lJ (bK iT (cH aY (pv 4) aC (fun _ _=>rfl)) (pv 1) (cb _)) (kq (bK kX (pv 2) (pv 5) rfl)))) (PSl.h (bq ⟨(psZ 6 oW.nd (i9 bf PySem.F.slot_list_index PySem.F.type_list_index mt_indexLS (pv 5) (af (pv 2) aw)))⟩
  (fu ⟨(bZ (hI (af (PEs.h (k_ix aY (mN (cS k_non (cS (k_op gv (k_op ff ⟨pv 3⟩ (k_op jL jI ⟨pv 6⟩)) jI) mD))) ⟨eS mz rfl hint boot_int (af (jW op_gt (pv 6) aC (cb _)) aw)⟩ (fun _ _=>rfl))) (af (PEs.h (k_ix aY (mN (cS k_non (cS (k_op ff ⟨pv 3⟩ (k_op jL jI ⟨pv 6⟩)) mD))) ⟨eS mz rfl hint boot_int (af (jW oS (pv 6) (cD gv (bU bM rfl T.len aR (af (pv 5) aw)) aC) (cb _)) aw)⟩ (fun _ _=>rfl))) aw))))⟩))) cv)⟩
  (fu ⟨(psZ 3 oW.nd (cD gv (cD ff (pv 3) (cD jL aC (bU bM rfl T.len aR (af (pv 5) aw)))) aC))⟩)))) cv)))⟩
  (fu ⟨(bZ (hI (af gT (af gT aw))))⟩))),?_⟩
 have lxs:xs.length=prs.length:=by rw [rw_.len,ae]
 refine ⟨_,rfl,R,rfl,⟨_,SqL.of hR⟩,?_⟩;refine jP (K:=K) (a:=R) (xs:=xs) (fun i σ H2=>b8 H H2∧(∀ x∈lsC (prs.take i),x.n=n→z ∉ x.ss)∧∃ v4 v5 v6,σ=[some (.ref R),some (.str n),some (.str z),some (.int (gf (lsC (prs.take i)))),v4,v5,v6])
  ⟨b8.refl H,(fun x hx=>by cases hx),none,none,none,rfl⟩ (fun i σ H2 _ q=>SqL.of (q.1 _ _ hR)) ?_ ?_
 ·rintro i x σ H2 hx ⟨S2,no,v4,v5,v6,rfl⟩
  have hi:i<prs.length:=by rw [←lxs];exact (ah.mp hx).1
  have hp:=gE hi;have et:prs.take (i+1)=prs.take i++[prs[i]]:=by rw [aW,hp];rfl
  have okr:=ok _ (cJ hi);obtain ⟨a,hxa,hra⟩:=rw_.get i prs[i].rowV (by rw [ax,hp];rfl);rw [hx] at hxa;cases hxa;have sub:∀ x,x∈lsC (prs.take (i+1))→x∈lsC prs:=fun x h=>nJ h
  rw [et] at sub ⊢;rw [gj] at sub ⊢;generalize prs[i]=r at okr hra sub ⊢;have hra2:=S2 _ _ hra;cases r with
  | beat b=>exact pF okr id
  | oth kk ns is =>
   have hra2:H2 a=some (.lst (.str kk::(ns.map V.str++is.map V.int))):=hra2;refine ⟨_,rfl,a,_,_,_,rfl,rfl,SqL.of hra2,aE (j:=0) rfl,rfl,_,rfl,iL (pH fun z=>okr.1 (by injection z)) ?_⟩;exact ⟨S2,no,_,_,_,rfl⟩
  | line m ss rs =>
   obtain ⟨o1,o2,o3,nd⟩:=okr;have hra2:H2 a=some (.lst (.str "line" :: .str m::iG ss rs)):=hra2;refine ⟨_,rfl,a,_,_,_,rfl,rfl,SqL.of hra2,aE (j:=0) rfl,rfl,_,rfl,oA (pG rfl) ?_⟩;refine ⟨_,rfl,a,_,rfl,SqL.of hra2,(by simp only [aD];lia),fun St H3 S3 e3=>?_⟩;have e3:H3 St=some (.lst (ss.map V.str)):=by rw [e3];show some (HO.lst (evs (iG ss rs)))=_;rw [nM o1]
   have hra3:=S3 _ _ hra2;have nx:¬ (m=n∧z∈ss)→∀ x∈nV (lsC (prs.take i)) (.line m ss rs),x.n=n→z ∉ x.ss:=fun hne x hx en=>by
    rcases bg.mp hx with hx | hx
    ·exact no x hx en
    ·rw [aB.mp hx] at en ⊢
     exact fun hz=>hne ⟨en,hz⟩
   have en:gf (lsC (prs.take i))+2 * (((ss.map V.str).length:Nat):Int) - 2=gf (nV (lsC (prs.take i)) (.line m ss rs)):=by
    rw [show nV (lsC (prs.take i)) (.line m ss rs)=lsC (prs.take i)++[⟨m,ss,rs,[],gf (lsC (prs.take i))⟩] from rfl,jX,ae]
    dsimp only
    lia
   have xin:(⟨m,ss,rs,[],gf (lsC (prs.take i))⟩:Ln)∈lsC prs:=sub _ (bp _ (aB.mpr rfl));generalize gf (nV (lsC (prs.take i)) (.line m ss rs))=hap1 at en ⊢;generalize gf (lsC (prs.take i))=hap0 at en xin ⊢;have go:∀ σ5 σ6,¬ (m=n∧z∈ss)→b8 H H3∧(∀ x∈nV (lsC (prs.take i)) (.line m ss rs),x.n=n→z ∉ x.ss)∧∃ v4 v5 v6,[some (.ref R),some (.str n),some (.str z),some (V.int (hap0+2 * (((ss.map V.str).length:Nat):Int) - 2)),some (.ref a),σ5,σ6]=[some (.ref R),some (.str n),some (.str z),some (.int hap1),v4,v5,v6]:=fun σ5 σ6 hne=>⟨S2.trans S3,nx hne,_,_,_,by rw [en]⟩
   refine ⟨_,rfl,a,_,_,_,rfl,rfl,SqL.of hra3,aE (j:=1) rfl,_,rfl,rfl,_,rfl,jj (fun c1=>?_) (fun c1=>?_)⟩
   ·have c1:m=n:=by have:=pI c1;injection this
    refine ⟨_,rfl,_,rfl,St,_,rfl,.inl (SqL.of e3),rfl,flat_str ss,_,rfl,jj (fun c2=>?_) (fun c2=>?_)⟩
    ·have c2:z∈ss:=by
      have:inV (.str z) (ss.map V.str)=true:=c2;rw [inV_str] at this;exact pI this
     obtain ⟨j,hj⟩:=bR c2;have lj:=(ah.mp hj).1;refine ⟨_,rfl,.inl ⟨rfl,_,SqL.of e3⟩,_,rfl,St,ss,z,j,rfl,rfl,e3,hj,fun j' h1 h2=>pF (iU nd h2 hj) (by lia),by lia,?_⟩;refine ⟨_,rfl,_,rfl,_,_,rfl,rfl,.inl ⟨by decide,by decide⟩,_,_,rfl,rfl,_,_,rfl,rfl,oR,fun L4 H4 S4 e4=>?_⟩;refine ⟨_,rfl,_,_,rfl,rfl,.inr ⟨_,rfl,?_⟩⟩;refine ⟨L4,_,_,oV (oI (0<j) (hap0+2 * j - 1)),rfl,rfl,SqL.of e4,?_,?_⟩
     ·unfold oI
      by_cases c:0<j
      ·rw [pE c,pG (by lia)];rfl
      ·rw [pB c,pH (by lia)];rfl
     refine ⟨_,rfl,_,rfl,_,_,rfl,rfl,.inl ⟨by decide,by decide⟩,_,_,rfl,rfl,oR,fun L5 H5 S5 e5=>?_⟩;have S35:b8 H3 H5:=S4.trans S5;refine ⟨_,rfl,_,rfl,St,_,rfl,.inl (SqL.of (S35 _ _ e3)),_,_,rfl,rfl,_,_,rfl,rfl,.inr ⟨_,rfl,?_⟩⟩;refine ⟨L5,_,_,oV (oI (j+1<ss.length) (hap0+2 * j)),rfl,rfl,SqL.of e5,?_,?_⟩
     ·rw [ae]
      unfold oI
      by_cases c:j+1<ss.length
      ·rw [pE c,pG (by lia)];rfl
      ·rw [pB c,pH (by lia)];rfl
     refine ⟨oR,fun L6 H6 S6 e6=>?_⟩;exact k L6 _ _ H6 (S2.trans (S3.trans (S35.trans S6))) e6 (.inl ⟨_,xin,j,c1,hj,rfl,rfl⟩)
    ·have c2:z ∉ ss:=fun hz=>c2 (by show inV (.str z) (ss.map V.str)=true;rw [inV_str];exact pG hz)
     exact ⟨_,rfl,_,rfl,St,_,rfl,.inl (SqL.of e3),_,_,rfl,rfl,.inl ⟨by decide,by decide⟩,_,_,rfl,rfl,_,_,rfl,rfl,go _ _ fun z=>c2 z.2⟩
   ·have c1:m≠n:=fun z=>c1 (pG (by rw [z]))
    exact ⟨_,rfl,_,rfl,St,_,rfl,.inl (SqL.of e3),_,_,rfl,rfl,.inl ⟨by decide,by decide⟩,_,_,rfl,rfl,_,_,rfl,rfl,go _ _ fun z=>c1 z.1⟩
 ·rintro σ H2 ⟨S2,no,v4,v5,v6,rfl⟩
  rw [lxs,bI] at no;refine ⟨oR,fun L H3 S3 e=>?_⟩;exact k L none none H3 (S2.trans S3) e (.inr ⟨no,rfl,rfl⟩)
theorem scRidW:cp ["_law_rows","_law_name","_law_stop","_law_other","_law_row","_law_k"] pzm (defScope sRidW):=by trivial
theorem ok_ridW (F:Fun K "_law_ride" "_law_ride" sRidW f fd)(T:Nm mg)(T2:Nt mg):c7 P w K mg base CX0 1 f fd pzm spRidW:=by
 refine F.ok scRidW (by contradiction) (fun cdv A outer s H vs Q E hr h=>?_);obtain ⟨R,xs,prs,n,z,y,rfl,hR,rw_,ok,few,k⟩:=h;refine ⟨_,PSl.h (bq ⟨(gS bS rfl (gN (pv 0)) (pgZ 4 scRidW.nd) (bB (eX (bK (op_eqLS hr.units) (eZ iD (pv 4) gM (fD aC)) (hI (af dv (af (pv 1) aw))) (cb _)) (bB (gS bS rfl (ma rfl T2.range (af aC (af (cD gv (bU bM rfl T.len aR (af (pv 4) aw)) aC) (af aC aw)))) (pgZ 5 scRidW.nd) (bB (eX (PW.pt (lJ (bK iT (cH aY (pv 4) (pv 5) (fun _ _=>rfl)) (pv 2) (cb _)) (kq (bK iT (cH aY (pv 4) (cD ff (pv 5) aC) (fun _ _=>rfl)) (pv 3) (cb _))))) (bB (bZ (cH aY (pv 4) (cD ff (pv 5) aC) (fun _ _=>rfl)))) cv)))) cv)))⟩
  (fu ⟨(bZ gT)⟩)),?_⟩
 have lxs:xs.length=prs.length:=by rw [rw_.len,ae]
 refine ⟨_,rfl,R,rfl,⟨_,SqL.of hR⟩,?_⟩;refine jP (K:=K) (a:=R) (xs:=xs) (fun i σ H2=>b8 H H2∧(∀ x∈lsC (prs.take i),x.n=n→∀ j:Nat,x.ss[j]? =some z→x.ss[j+1]? ≠some y)∧∃ v4 v5,σ=[some (.ref R),some (.str n),some (.str z),some (.str y),v4,v5])
  ⟨b8.refl H,(fun x hx=>by cases hx),none,none,rfl⟩ (fun i σ H2 _ q=>SqL.of (q.1 _ _ hR)) ?_ ?_
 ·rintro i x σ H2 hx ⟨S2,no,v4,v5,rfl⟩
  have hi:i<prs.length:=by rw [←lxs];exact (ah.mp hx).1
  have hp:=gE hi;have et:prs.take (i+1)=prs.take i++[prs[i]]:=by rw [aW,hp];rfl
  have okr:=ok _ (cJ hi);obtain ⟨a,hxa,hra⟩:=rw_.get i prs[i].rowV (by rw [ax,hp];rfl);rw [hx] at hxa;cases hxa;have sub:∀ x,x∈lsC (prs.take (i+1))→x∈lsC prs:=fun x h=>nJ h
  rw [et] at sub ⊢;rw [gj] at sub ⊢;generalize prs[i]=r at okr hra sub ⊢;have hra2:=S2 _ _ hra;cases r with
  | beat b=>exact pF okr id
  | oth kk ns is =>
   obtain ⟨o1,o2⟩:=okr;obtain ⟨n0,ns',rfl⟩:∃ a b,ns=a::b:=by
    cases ns with
    | nil=>exact pF rfl o2
    | cons a b=>exact ⟨a,b,rfl⟩
   have hra2:H2 a=some (.lst (.str kk:: .str n0::(ns'.map V.str++is.map V.int))):=hra2;refine ⟨_,rfl,_,rfl,a,_,rfl,SqL.of hra2,fun C1 H3 S3 e3=>?_⟩;rw [cutU (i:=2) (n:=2) rfl] at e3;refine ⟨_,rfl,oR,fun C2 H4 S4 e4=>?_⟩;refine ⟨C1,C2,[kk,n0],["line",n],rfl,rfl,S4 _ _ e3,e4,rfl,_,rfl,iL (pH fun z=>o1 (by injection z)) ?_⟩;exact ⟨S2.trans (S3.trans S4),no,_,_,rfl⟩
  | line m ss rs =>
   obtain ⟨o1,o2,o3,nd⟩:=okr;have hra2:H2 a=some (.lst (.str "line" :: .str m::iG ss rs)):=hra2;have lrow:(V.str "line" :: .str m::iG ss rs).length=2 * ss.length+1:=by rw [aD,aD,jk o1];lia
   refine ⟨_,rfl,_,rfl,a,_,rfl,SqL.of hra2,fun C1 H3 S3 e3=>?_⟩;rw [cutU (i:=2) (n:=2) rfl] at e3;refine ⟨_,rfl,oR,fun C2 H4 S4 e4=>?_⟩;have S24:=S3.trans S4;refine ⟨C1,C2,["line",m],["line",n],rfl,rfl,S4 _ _ e3,e4,rfl,_,rfl,jj (fun c1=>?_) (fun c1=>?_)⟩
   ·have c1:m=n:=by have:=pI c1;injection this with _ this;injection this
    have hra4:=S24 _ _ hra2;have xin:(⟨m,ss,rs,[],gf (lsC (prs.take i))⟩:Ln)∈lsC prs:=sub _ (bp _ (aB.mpr rfl));refine ⟨_,rfl,a,_,rfl,.inl (SqL.of hra4),_,_,rfl,rfl,2,_,rfl,⟨by decide,by decide,by rw [lrow];lia,by rw [lrow];lia⟩,?_⟩;have en:(((((V.str "line" :: .str m::iG ss rs).length:Nat):Int) - 2) - 2+1) / 2=((ss.length - 1:Nat):Int):=by rw [lrow];lia
    rw [en,eU];refine lE (lo:=2) (n:=ss.length - 1) (fun j σ H5=>b8 H4 H5∧(∀ q:Nat,q<j→ss[q]? =some z→ss[q+1]? ≠some y)∧∃ v5,σ=[some (.ref R),some (.str n),some (.str z),some (.str y),some (.ref a),v5])
     ⟨b8.refl _,(fun q hq=>pF hq (Nat.not_lt_zero _)),_,rfl⟩ ?_ ?_
    ·rintro j σ H5 hj ⟨S5,nq,v5,rfl⟩
     obtain ⟨s1,hs1⟩:∃ s,ss[j]? =some s:=⟨_,gE (by lia)⟩;obtain ⟨s2,hs2⟩:∃ s,ss[j+1]? =some s:=⟨_,gE (by lia)⟩;obtain ⟨r1,hr1⟩:∃ r,rs[j]? =some r:=⟨_,gE (by lia)⟩;have hra5:=S5 _ _ hra4;have g1:atI (V.str "line" :: .str m::iG ss rs) ((2:Int)+(j:Nat) * 2)=some (.str s1):=by
      rw [show (2:Int)+(j:Nat) * 2=((2 * j+1+1:Nat):Int) by lia];exact aE (by rw [aH,aH,oE j o1,hs1];rfl)
     have g2:atI (V.str "line" :: .str m::iG ss rs) ((2:Int)+(j:Nat) * 2+2)=some (.str s2):=by
      rw [show (2:Int)+(j:Nat) * 2+2=((2 * (j+1)+1+1:Nat):Int) by lia];exact aE (by rw [aH,aH,oE (j+1) o1,hs2];rfl)
     have g3:atI (V.str "line" :: .str m::iG ss rs) ((2:Int)+(j:Nat) * 2+1)=some (.int r1):=by
      rw [show (2:Int)+(j:Nat) * 2+1=((2 * j+1+1+1:Nat):Int) by lia];exact aE (by rw [aH,aH,intr_r j o1,hr1];rfl)
     have nx:¬ (s1=z∧s2=y)→∀ q:Nat,q<j+1→ss[q]? =some z→ss[q+1]? ≠some y:=fun hne q hq w1 w2=>by
      rcases iX.mp hq with hq | hq
      ·exact nq q hq w1 w2
      ·subst hq
       rw [hs1] at w1;rw [hs2] at w2;exact hne ⟨bu w1,bu w2⟩
     refine ⟨_,rfl,_,rfl,a,_,_,_,rfl,rfl,SqL.of hra5,g1,_,rfl,rfl,_,rfl,jj (fun c2=>?_) (fun c2=>?_)⟩
     ·have c2:s1=z:=by have:=pI c2;injection this
      refine ⟨_,rfl,_,rfl,_,_,rfl,rfl,a,_,_,_,rfl,rfl,SqL.of hra5,g2,_,rfl,rfl,_,rfl,jj (fun c3=>?_) (fun c3=>?_)⟩
      ·have c3:s2=y:=by have:=pI c3;injection this
       refine ⟨_,rfl,_,rfl,_,_,rfl,rfl,a,_,_,_,rfl,rfl,SqL.of hra5,g3,?_⟩;exact k (some r1) H5 (S2.trans (S24.trans S5)) (.inl ⟨_,xin,j,r1,c1,by rw [←c2];exact hs1,by rw [←c3];exact hs2,hr1,rfl⟩)
      ·exact ⟨S5,nx fun z=>c3 (pG (by rw [z.2])),_,rfl⟩
     ·exact ⟨S5,nx fun z=>c2 (pG (by rw [z.1])),_,rfl⟩
    ·rintro σ H5 ⟨S5,nq,v5,rfl⟩
     refine ⟨S2.trans (S24.trans S5),fun x hx en=>?_,_,_,rfl⟩
     rcases bg.mp hx with hx | hx
     ·exact no x hx en
     ·rw [aB.mp hx]
      intro q w1 w2;have:=(ah.mp w2).1;exact nq q (by dsimp only at this;lia) w1 w2
   ·refine ⟨S2.trans S24,fun x hx en=>?_,_,_,rfl⟩
    rcases bg.mp hx with hx | hx
    ·exact no x hx en
    ·rw [aB.mp hx] at en
     exact pF (pG (by rw [show m=n from en])) c1
 ·rintro σ H2 ⟨S2,no,v4,v5,rfl⟩
  rw [lxs,bI] at no;exact k none H2 S2 (.inr ⟨no,rfl⟩)
end HN
namespace L2
open PySem PySem.Spec PyProof.Rows
theorem tw_set (hN:X.N.Nodup)(hi:X.N[i]? =some x)(hx:Loc X.env.scope x)(he:PEs X e te)(hs:swapsWith e (some (.Name x pos')) pos.line X.env=gK false:=by rfl)(hf:X.fn x=true∨X.env.scope.names.lookup x=some .local:=by first | exact .inl rfl | exact .inr rfl | assumption):PSt X (.Assign [.Name x pos'] e pos) (tAsg te (mR i)):=⟨ps_set hN hi hx he.h hs hf⟩
theorem tw_if {c:Expr}{a b:List cN}{tc:TT}{t u:TS}(hc:PT X c tc)(ha:PSl X a t)(hb:PSl X b u):PSt X (.If c a b pos) (tIfS tc t u):=⟨eX hc ha.h hb.h⟩
theorem oq:PSl X [] tNext:=⟨cv⟩
theorem exw_of {t:TS}{C:TS→Prop}(h:PSl X sts t)(k:C t):∃ t,PSs X sts t∧C t:=⟨t,h.h,k⟩
end L2
namespace HN
open PySem L2 PyProof.Rows HT2
abbrev sNms:cN:=top 42
abbrev ABC:Str := "abcdefghijklmnopqrstuvwxyz"
abbrev o9 (c:Nat):Str:=⟨#[c]⟩
def strOf (cs:List Nat):Str:=⟨cs.toArray⟩
theorem abc_at {r:Nat}(h:r<26):atI ABC.cps.toList (r:Int)=some (97+r):=by
 have:∀ i:Fin 26,atI ABC.cps.toList ((i:Nat):Int)=some (97+(i:Nat)):=by trivial
 exact this ⟨r,h⟩
theorem abc_ix {r:Nat}(h:r<26):cA ABC (o9 (97+r)) 0 ABC.length 1=[r]:=by
 have:∀ i:Fin 26,cA ABC (o9 (97+(i:Nat))) 0 ABC.length 1=[(i:Nat)]:=by trivial
 exact this ⟨r,h⟩
theorem join_one:∀ cs:List Nat,iA ("" :Str) (cs.map o9)=strOf cs:=fun cs=>by
 rw [show ("" :Str)=ef by trivial];have e:iA ef (cs.map o9)=fU ef (cs.map o9):=eV _ _;rw [e];have go:∀ cs:List Nat,(fU ef (cs.map o9)).cps.toList=cs:=by
  intro cs
  induction cs with
  | nil=>rfl
  | cons c r ih =>
   cases r with
   | nil=>rfl
   | cons d r =>
    show (o9 c++ef++fU ef ((d::r).map o9)).cps.toList=_;rw [cps_app,ih,cps_app];rfl
 exact str_ext (by rw [go cs];simp [strOf])
theorem strOf_cps (cs:List Nat):(strOf cs).cps.toList=cs:=by simp [strOf]
theorem strOf_nam {cs:List Nat}(h1:1≤cs.length)(h8:cs.length≤8)(h:∀ c∈cs,97≤c∧c≤122):nam (strOf cs)=true:=by
 have hl:(strOf cs).length=cs.length:=by show (strOf cs).cps.size=_;simp [strOf]
 unfold nam;rw [hl,strOf_cps,pG h1,pG h8,gy,gy,gJ];exact fun c hc=>pG (h c hc)
def nmK (cs:List Nat)(m f k:Nat):Str:=strOf (cs.set m (97+(f+k) % 26))
def nms (cs:List Nat)(m f n:Nat):List Str:=(cq n).map (nmK cs m f)
theorem nms_nd {cs:List Nat}{f:Nat}(hm:m<cs.length)(hn:n≤26):(nms cs m f n).Nodup:=by
 refine fe.mpr fun i j hi hj hij e=>?_
 have l:(nms cs m f n).length=n:=by unfold nms;rw [ae,jn]
 simp only [nms,dZ,List.getElem_range] at e;have e1:=pJ (fun s:Str=>s.cps.toList[m]?) e;unfold nmK at e1;simp only [strOf_cps,List.getElem?_set_self hm] at e1;injection e1 with e1
 lia
inductive spNms (vs:List V)(H:Hp)(Q:VK)(_:XK):Prop
 | mk (p:ak)(n:Int)(k:Nat)(_:vs=[.ref p,.int (k:Nat)])(_:H p=some (.lst [.int n]))(_:k≤10)(_:∀ (L:ak) (ns:List Str) (H':Hp),Mv p H H'→H' L=some (.lst (ns.map V.str))→ns.length=k→ns.Nodup→(∀ z∈ns,nam z=true)→Q (.ref L) H')
abbrev OWN:List Str:=["line","stay","change","apart","meet","beat","waits","none","comes","goes"]
theorem own_nd (h:m<10):((OWN.drop m++OWN.take m).take k).Nodup:=by
 have:∀ i:Fin 10,(OWN.drop (i:Nat)++OWN.take (i:Nat)).Nodup:=by trivial
 exact (this ⟨m,h⟩).sublist (List.take_sublist _ _)
theorem own_nam:∀ z∈(OWN.drop m++OWN.take m).take k,nam z=true:=fun z hz=>by
 have o:∀ z∈OWN,nam z=true:=by trivial
 refine o z ?_
 rcases bg.mp (jU hz) with h | h
 ·exact List.mem_of_mem_drop h
 ·exact jU h
theorem Mv.free (a:Mv p H H1)(h:H1 q=none):H q=none:=by
 cases e:H q with
 | none=>rfl
 | some o =>
  by_cases c:q=p
  ·obtain ⟨n,hn⟩:=a.2
   rw [c,hn] at h;cases h
  ·rw [a.1 q o c e] at h;cases h
theorem scNms:cp ["_law_pot_here","_law_lots","_law_letters","_law_own","_law_at","_law_base","_law_first","_law_names_here","_law_k"] pzy (defScope sNms):=by trivial
theorem ok_nms (F:Fun K "_law_names" "_law_names" sNms f fd)(T:Nm mg)(T2:Nt mg)(G1:Fn K mg "_law_take" sTake pze f1 fd1):c7 P w K mg base CX0 2 f fd pzy spNms:=by
 have F1:c7 P w K mg base CX0 1 f1 fd1 pze nX:=mM G1.F;refine F.ok scNms (by contradiction) (fun cdv A outer s H vs Q E hr h=>?_);obtain ⟨p,n,lots,rfl,hpZ,hk,kZ⟩:=h;have hr1:jJ 1 _:=hr;refine exw_of (bq ⟨(psZ 2 scNms.nd dv)⟩
  (bq (tw_if (bK iT (pc1 G1 F1 hr1 (af (pv 0) (af aC aw))) aC (cb _)) (bq (tw_set (i:=3) scNms.nd rfl (.inl rfl) (mN (cS k7 (cS k7 (cS k7 (cS k7 (cS k7 (cS k7 (cS k7 (cS k7 (cS k7 (cS k7 mD))))))))))))
  (bq ⟨(psZ 4 scNms.nd (pc1 G1 F1 hr1 (af (pv 0) (af aC aw))))⟩
  (fu ⟨(bZ (eZ iD (cD jh (eZ iD (pv 3) (fD (pv 4)) gM) (eZ iD (pv 3) gM (fD (pv 4)))) gM (fD (pv 1))))⟩))) oq)
  (bq ⟨(og (iy:=5) (fr:=["_law_letters","_law_pot_here"]) (js:=[2,0]) scNms.nd rfl (.inl rfl) rfl (kE rfl T2.range (af (cD ff aC (pc1 G1 F1 hr1 (af (pv 0) (af aC aw)))) aw)) (by trivial) rfl (by trivial) rfl (by exists sNms) (by trivial) rfl (by trivial) (fun _ _ _ _ _=>⟨(cH ix_str (pv 1) (pc1 G1 F1 hr1 (af (pv 2) (af aC aw))) (fun _ _=>rfl)),jg⟩))⟩
  (bq ⟨(psZ 4 scNms.nd (pc1 G1 F1 hr1 (af (pv 0) (af (bU bM rfl T.len aR (af (pv 5) aw)) aw))))⟩
  (bq ⟨(psZ 6 scNms.nd (i9 eN PySem.F.slot_str_index PySem.F.type_str_index mt_indexT1 (pv 2) (af (cH aY (pv 5) (pv 4) (fun _ _=>rfl)) aw)))⟩
  (bq ⟨(psZ 7 scNms.nd (jK aw))⟩
  (bq ⟨(gS bS rfl (kE rfl T2.range (af (pv 1) aw)) (pgZ 8 scNms.nd) (PSl.h (bq ⟨(ps_asg (cH ix_str (pv 2) (cD mZ (cD ff (pv 6) (pv 8)) aC) (fun _ _=>rfl)) (pg_sub (pv 5) (pv 4) set_list))⟩
  (fu ⟨(gD (i9 bf bE bD fj (pv 7) (af (i9 eN PySem.F.slot_str_join PySem.F.type_str_join mt_join dv (af (pv 5) aw)) aw)))⟩))))⟩
  (fu ⟨(bZ (pv 7))⟩)))))))) ?_
 refine ⟨_,rfl,p,n,8,rfl,hpZ,by decide,by decide,fun r8 HZ _ _ MZ=>⟨rfl,_,rfl,jj (fun _=>?_) (fun _=>?_)⟩⟩
 ·refine ⟨(by show 10≤au;decide),fun O H1 S1 hO=>?_⟩
  obtain ⟨n1,hp1⟩:=MZ.2;refine ⟨_,rfl,p,n1,10,rfl,S1 _ _ hp1,by decide,by decide,fun r H2 r0 r1 M2=>?_⟩;obtain ⟨m,rfl⟩:=cF r0;have hO1:H1 O=some (.lst (OWN.map V.str)):=hO;have nO:O≠p:=fun z=>by rw [z,S1 _ _ hp1] at hO1;cases hO1
  have hO2:=M2.1 _ _ nO hO1;refine ⟨_,rfl,_,rfl,_,rfl,O,_,rfl,SqL.of hO2,fun A1 H3 S3 e3=>?_⟩;rw [cutF (i:=(m:Int)) (n:=m) rfl] at e3;refine ⟨_,rfl,_,rfl,_,rfl,O,_,rfl,SqL.of (S3 _ _ hO2),fun A2 H4 S4 e4=>?_⟩;rw [cutU (i:=(m:Int)) (n:=m) rfl] at e4;refine ⟨A1,A2,_,_,rfl,rfl,S4 _ _ e3,e4,?_,fun A3 H5 S5 e5=>?_⟩
  ·rw [bV,aU,ae]
   show 10 - m+min m 10≤au;have:20≤au:=by decide
   lia
  refine ⟨_,rfl,_,rfl,A3,_,rfl,SqL.of e5,fun A4 H6 S6 e6=>?_⟩;rw [cutU (i:=((lots:Nat):Int)) (n:=lots) rfl] at e6;have e6:H6 A4=some (.lst (((OWN.drop m++OWN.take m).take lots).map V.str)):=by rw [e6,←gb,←jQ,←aq,←jQ]
  have M6:Mv p HZ H6:=((Mv.of S1 (S1 _ _ hp1)).trans M2).then (S3.trans (S4.trans (S5.trans S6)));exact kZ A4 _ H6 (MZ.trans M6) e6 (by rw [aU,aj,bV,aU];show min lots (10 - m+min m 10)=lots;lia) (own_nd (by lia)) own_nam
 have hp:=MZ.2.choose_spec;have k:∀ (L:ak) (ns:List Str) (H':Hp),Mv p HZ H'→H' L=some (.lst (ns.map V.str))→ns.length=lots→ns.Nodup→(∀ z∈ns,nam z=true)→Q (.ref L) H':=fun L ns H' M=>kZ L ns H' (MZ.trans M)
 generalize MZ.2.choose=n at hp;clear hpZ kZ MZ;revert k hp;generalize HZ=H;intro k hp;refine ⟨_,rfl,p,n,8,rfl,hp,by decide,by decide,fun r H1 r0 r1 M1=>⟨_,_,rfl,rfl,1+r,rfl,by lia,by lia,?_⟩⟩;refine mV (n:=(1+r).toNat) (fun i zs H4=>Mv p H H4∧∃ cs:List Nat,zs=cs.map (fun c=>V.str (o9 c))∧cs.length=i∧∀ c∈cs,97≤c∧c≤122) ⟨M1,[],rfl,rfl,fun _ h=>pF h (by simp)⟩ (fun i zs H4 _ ⟨_,cs,e,hl,_⟩=>by rw [e,ae,hl];exact az _) (small_le (by lia)) (fun i zs H4 hi ⟨M4,cs,e4,hl4,all4⟩=>?_) (fun zs H4 ⟨M4,cs,e4,hl4,all4⟩ B hB=>?_)
 ·obtain ⟨n4,hp4⟩:=M4.2
  refine ie ?_;refine ⟨_,rfl,_,rfl,p,n4,26,rfl,hp4,by decide,by decide,fun r H5 r0 r1 M5=>?_⟩;obtain ⟨m,rfl⟩:=cF r0;refine ⟨_,_,97+m,rfl,rfl,(by trivial),abc_at (by lia),M4.trans M5,cs++[97+m],by rw [e4,aq];rfl,by rw [aj,hl4];rfl,fun c hc=>?_⟩
  rcases bg.mp hc with hc | hc
  ·exact all4 c hc
  ·rw [aB.mp hc];lia
 have M5:Mv p H (upd H4 B (.lst zs)):=M4.new hB;have hB5:(upd H4 B (.lst zs)) B=some (.lst (cs.map fun c=>V.str (o9 c))):=by rw [aP,e4]
 have nBp:B≠p:=M4.ne hB;have nB0:H B=none:=by
  cases e:H B with
  | none=>rfl
  | some o=>rw [M4.1 B o nBp e] at hB;cases hB
 have nB:H B=none∧B≠p:=⟨nB0,nBp⟩;generalize upd H4 B (.lst zs)=H5 at M5 hB5 ⊢;obtain ⟨n5,hp5⟩:=M5.2;have l1:1≤cs.length:=by lia
 have l8:cs.length≤8:=by lia
 refine ⟨_,rfl,_,rfl,B,_,rfl,.inl (SqL.of hB5),p,n5,_,rfl,hp5,(by rw [ae];lia),(by rw [ae];lia),fun r2 H6 a0 a1 M6=>?_⟩;obtain ⟨m,rfl⟩:=cF a0;rw [ae] at a1;have hm:m<cs.length:=by lia
 have hB6:=M6.1 _ _ nB.2 hB5;obtain ⟨c,hc⟩:∃ c,cs[m]? =some c:=⟨_,gE hm⟩;obtain ⟨c0,c1⟩:=all4 c (ay hc);obtain ⟨g,rfl⟩:∃ g,c=97+g:=⟨c - 97,by lia⟩;refine ⟨_,rfl,rfl,_,rfl,_,rfl,B,_,_,_,rfl,rfl,SqL.of hB6,aE (j:=m) (by rw [ax,hc];rfl),_,_,g,[],rfl,rfl,abc_ix (by lia),?_⟩;refine ⟨(by show 0≤au;decide),fun L hL=>?_⟩;have M7:Mv p H (upd H6 L (.lst [])):=(M5.trans M6).new hL;have hL7:(upd H6 L (.lst [])) L=some (.lst []):=aP;have BL:B≠L:=aV hB6 hL;have hB7:(upd H6 L (.lst [])) B=some (.lst (cs.map fun c=>V.str (o9 c))):=by rw [aX BL];exact hB6
 have Lp:L≠p:=(M5.trans M6).ne hL;have nL:H L=none:=by
  cases e:H L with
  | none=>rfl
  | some o=>rw [(M5.trans M6).1 L o Lp e] at hL;cases hL
 generalize upd H6 L (.lst [])=H7 at M7 hL7 hB7 ⊢;refine ⟨_,rfl,(lots:Int),rfl,by lia,by lia,?_⟩;refine mr (n:=((lots:Nat):Int).toNat) (fun i σ H2=>(∀ c o,c≠B→c≠L→H7 c=some o→H2 c=some o)∧(∃ y,H2 B=some (.lst ((cs.set m y).map fun c=>V.str (o9 c))))∧H2 L=some (.lst ((nms cs m g i).map V.str))∧∃ vj,σ=[some (.ref p),some (.int (lots:Nat)),some (.str ABC),none,some (.int (m:Nat)),some (.ref B),some (.int (g:Nat)),some (.ref L),vj])
  ⟨fun c o _ _ h=>h,⟨97+g,by rw [hB7,←(ah.mp hc).2,List.set_getElem_self]⟩,hL7,none,rfl⟩ ?_ ?_
 ·rintro i σ H2 hi ⟨k2,⟨y,hB2⟩,hL2,vj,rfl⟩
  have hr26:(g+i) % 26<26:=Nat.mod_lt _ (by decide);have ei:(((g:Nat):Int)+(0+(i:Nat))) % 26=(((g+i) % 26:Nat):Int):=by lia
  refine ⟨_,rfl,_,rfl,_,rfl,_,_,rfl,rfl,_,_,rfl,rfl,(by show (0:Int)<26;decide),_,_,97+(g+i) % 26,rfl,rfl,(by trivial),?_,?_⟩
  ·show atI ABC.cps.toList ((((g:Nat):Int)+(0+(i:Nat))) % 26)=_
   rw [ei];exact abc_at hr26
  refine ⟨_,rfl,_,rfl,B,_,_,m,rfl,rfl,hB2,?_,?_⟩
  ·rw [ae,iY]
   unfold ixN;rw [pE (by lia),pE (by lia)];rfl
  have k3:∀ c o,c≠B→H2 c=some o→(upd H2 B (.lst (((cs.set m y).map fun c=>V.str (o9 c)).set m (.str (o9 (97+(g+i) % 26)))))) c=some o:=fun c o hc e=>by rw [aX hc];exact e
  have hB3:(upd H2 B (.lst (((cs.set m y).map fun c=>V.str (o9 c)).set m (.str (o9 (97+(g+i) % 26)))))) B=some (.lst (((cs.set m (97+(g+i) % 26)).map o9).map V.str)):=by
   rw [aP,←List.map_set,List.set_set,bO];rfl
  generalize upd H2 B (.lst (((cs.set m y).map fun c=>V.str (o9 c)).set m (.str (o9 (97+(g+i) % 26)))))=H3 at k3 hB3 ⊢;have hL3:=k3 _ _ (cO BL) hL2;have big:(100000:Nat)≤au:=by decide
  refine ⟨_,rfl,.inl ⟨rfl,_,SqL.of hL3⟩,rfl,_,rfl,_,B,_,rfl,rfl,SqL.of hB3,(by trivial),?_,?_⟩
  ·rw [bO,ae,iY]
   have:((cs.set m (97+(g+i) % 26)).map ((fun x:Str=>x.length) ∘ o9)).sum≤(cs.set m (97+(g+i) % 26)).length * 1:=sum_le _ 1 _ fun x _=>az _
   rw [iY] at this;lia
  rw [join_one];refine ⟨L,_,_,rfl,rfl,hL3,(by unfold nms;rw [ae,ae,jn];lia),?_⟩;refine ⟨fun c o h1 h2 e=>by rw [aX h2];exact k3 _ _ h1 (k2 _ _ h1 h2 e),⟨97+(g+i) % 26,by rw [aX BL,hB3,bO];rfl⟩,?_,_,rfl⟩;rw [aP];unfold nms;rw [List.range_succ,aq,aq];rfl
 ·rintro σ H2 ⟨k2,⟨y,hB2⟩,hL2,vj,rfl⟩
  have el:((lots:Nat):Int).toNat=lots:=by lia
  rw [el] at hL2;obtain ⟨n7,hp7⟩:=M7.2;refine ⟨_,rfl,k L _ H2 ⟨fun c o hcp e=>?_,n7,k2 _ _ (cO nB.2) (cO Lp) hp7⟩ hL2 (by unfold nms;rw [ae,jn]) (nms_nd hm (by lia)) fun z hz=>?_⟩
  ·exact k2 c o (fun z=>by rw [z,nB.1] at e;cases e) (fun z=>by rw [z,nL] at e;cases e) (M7.1 c o hcp e)
  ·unfold nms at hz
   obtain ⟨i,_,rfl⟩:=aG.mp hz;refine strOf_nam (by rw [iY];exact l1) (by rw [iY];exact l8) fun c hc=>?_
   rcases List.mem_or_eq_of_mem_set hc with h | h
   ·exact all4 c h
   ·subst h
    have:(g+i) % 26<26:=Nat.mod_lt _ (by decide);lia
abbrev sLr:cN:=top 43
abbrev sLns:cN:=top 44
theorem toKp (K:ai){ex:Expr}{r:V→List V→Hp→VK→Prop}{t:TA}{Ty:String}(h:PE X ex (tBM X.K Ty r to t))(hK:X.K=K:=by rfl):PE X ex (tBM K Ty r to t):=by subst hK;exact h
theorem pop_prm {α:Type}:∀ (l:List α) (i:Nat) (x:α),l[i]? =some x→(x::l.eraseIdx i).Perm l
 | [],i,x,h=>by cases h
 | a::l,0,x,h=>by
  cases h;exact List.Perm.refl _
 | a::l,i+1,x,h=>by
  rw [aH] at h;rw [List.eraseIdx_cons_succ];exact (List.Perm.swap a x _).trans ((pop_prm l i x h).cons a)
theorem iq {ys:List V}(h:xs.length≠ys.length):HO.lst xs≠HO.lst ys:=fun z=>h (by injection z with z;rw [z])
theorem intr_snoc:∀ {ss:List Str} {rs:List Int} {s:Str} {r:Int},ss.length=rs.length+1→iG ss rs++[.int r]++[.str s]=iG (ss++[s]) (rs++[r])
 | [],_,_,_,h=>by simp at h
 | [_],[],_,_,_=>rfl
 | _::_::_,[],_,_,h=>by simp at h
 | a::ss,b::rs,s,r,h=>by
  have hl:ss.length=rs.length+1:=by simpa using h
  show V.str a:: .int b::(iG ss rs++[.int r]++[.str s])=_;rw [intr_snoc hl];rfl
theorem kQ.mv {n:Int}{rows:List (List V)}(M:Mv p H H')(hp:H p=some (.lst [.int n]))(h2:∀ r∈rows,2≤r.length)(h:kQ H xs rows):kQ H' xs rows:=⟨h.len,fun i r hr=>by
 obtain ⟨a,h1,ha⟩:=h.get i r hr;refine ⟨a,h1,M.1 _ _ (de ha hp fun z=>?_) ha⟩;have:=h2 r (ay hr);injection z with z
 rw [z] at this;simp at this⟩
theorem kQ.same {rows:List (List V)}(S:b8 H H')(h:kQ H xs rows):kQ H' xs rows:=⟨h.len,fun i r hr=>by
 obtain ⟨a,h1,ha⟩:=h.get i r hr;exact ⟨a,h1,S _ _ ha⟩⟩
theorem kQ.nep {R:ak}{n:Int}{rows:List (List V)}(hp:H p=some (.lst [.int n]))(hR:H R=some (.lst xs))(h:kQ H xs rows):R≠p:=fun z=>by
 rw [z,hp] at hR;injection hR with hR
 injection hR with hR
 have e:=h.len;rw [←hR] at e;obtain ⟨a,h1,_⟩:=h.get 0 _ (gE (show 0<rows.length by rw [←e];exact Nat.one_pos));rw [←hR] at h1;cases h1
theorem rowV_two (h:r.lnOk):2≤r.rowV.length:=by
 cases r with
 | line n ss rs=>show 2≤(iG ss rs).length+1+1;lia
 | beat b=>exact pF h id
 | oth k ns is=>exact pF h id
theorem lnOk_E (h:r.lnOk):r.okE:=by
 cases r with
 | line n ss rs =>
  obtain ⟨_,_,h3,h4,h5,h6,_⟩:=h;exact ⟨h6,h4,by lia,h3⟩
 | beat b=>exact pF h id
 | oth k ns is=>exact pF h id
inductive spLr (vs:List V)(H:Hp)(Q:VK)(_:XK):Prop
 | mk (p:ak)(n:Int)(nm:Str)(S R:ak)(ss:List Str)(xs:List V)(prs:List PR)(_:vs=[.ref p,.str nm,.ref S,.ref R])(_:H p=some (.lst [.int n]))(_:H S=some (.lst (ss.map V.str)))(_:(5≤ss.length∧ss.length≤30))(_:ss.Nodup)(_:(∀ z∈ss,nam z=true))(_:nam nm=true)(_:H R=some (.lst xs))(_:kQ H xs (prs.map PR.rowV))(_:(∀ r∈prs,r.lnOk))(_:prs.length≤30)(_:∀ L tt rs H',Mv p H H'→H L=none→H' L=some (.lst (PR.line nm tt rs).rowV)→(PR.line nm tt rs).lnOk→Q (.ref L) H')
structure LnsI (nn:List Str)(i:Nat)(prs:List PR):Prop where
 rows:∀ b,gn b prs
 ok:∀ r∈prs,r.lnOk
 hap:gf (lsC prs)≤16
 few:prs.length≤i∧i≤30
 ne:1≤i→prs≠[]
 nms:∀ x∈lsC prs,∃ j,j<i∧nn[j]? =some x.n
structure oQ (prs:List PR):Prop where
 rows:∀ b,gn b prs
 ok:∀ r∈prs,r.lnOk
 hap:gf (lsC prs)≤16
 few:prs.length≤30
 ne:prs≠[]
theorem LnsI.nil (nn:List Str):LnsI nn 0 []:=⟨(fun b i r h=>by cases h),(fun r h=>by cases h),by decide,⟨az _,by decide⟩,(fun h=>pF h (by decide)),(fun x h=>by cases h)⟩
theorem gn.snoc (h:gn b rows)(o:lH b rows r):gn b (rows++[r]):=fun i q hq=>by
 by_cases c:i<rows.length
 ·rw [bJ c] at hq
  rw [gO (by lia)];exact h i q hq
 ·have e:i=rows.length:=by
   have:=(ah.mp hq).1;rw [aj] at this;simp at this;lia
  subst e;rw [aN (az _),dJ] at hq;cases hq;rw [fJ rfl];exact o
theorem LnsI.more {n:Str}{tt:List Str}{rs:List Int}(I:LnsI nn i prs)(nd:nn.Nodup)(hi:i<30)(hn:nn[i]? =some n)(lok:(PR.line n tt rs).lnOk)(hh:gf (lsC prs)+2 * (rs.length:Int)≤16):LnsI nn (i+1) (prs++[.line n tt rs]):=by
 have hf:=I.few;have eC:lsC (prs++[.line n tt rs])=lsC prs++[⟨n,tt,rs,[],gf (lsC prs)⟩]:=gj _ _;refine ⟨fun b=>(I.rows b).snoc ⟨fun m=>?_,lok⟩,fun r hr=>?_,by rw [eC,jX];exact hh,⟨by rw [aj];simp;lia,by lia⟩,(fun _ z=>by simp at z),fun x hx=>?_⟩
 ·obtain ⟨x,hx,e⟩:=aG.mp m
  obtain ⟨j,hj,e2⟩:=I.nms x hx;rw [e] at e2;have:=iU nd hn e2;lia
 ·rcases bg.mp hr with hr | hr
  ·exact I.ok r hr
  ·rw [aB.mp hr];exact lok
 ·rw [eC] at hx
  rcases bg.mp hx with hx | hx
  ·obtain ⟨j,hj,e⟩:=I.nms x hx
   exact ⟨j,by lia,e⟩
  ·rw [aB.mp hx]
   exact ⟨i,by lia,hn⟩
theorem LnsI.up (I:LnsI nn i prs)(hi:i<30)(h1:1≤i):LnsI nn (i+1) prs:=⟨I.rows,I.ok,I.hap,⟨by have:=I.few;lia,by lia⟩,fun _=>I.ne h1,fun x hx=>by
 obtain ⟨j,hj,e⟩:=I.nms x hx;exact ⟨j,by lia,e⟩⟩
theorem LnsI.done (I:LnsI nn i prs)(h1:1≤i):oQ prs:=⟨I.rows,I.ok,I.hap,by have:=I.few;lia,I.ne h1⟩
inductive spLns (K:ai)(vs:List V)(H:Hp)(Q:VK)(_:XK):Prop
 | mk (a N S:ak)(ns:List Int)(nn ss:List Str)(most:Int)(_:vs=[.ref a,.ref N,.ref S,.int most])(_:SqL K H a (ns.map V.int))(_:H N=some (.lst (nn.map V.str)))(_:nn.Nodup)(_:(∀ z∈nn,nam z=true))(_:H S=some (.lst (ss.map V.str)))(_:(5≤ss.length∧ss.length≤30))(_:ss.Nodup)(_:(∀ z∈ss,nam z=true))(_:1≤most)(_:most≤nn.length)(_:nn.length≤30)(_:∀ L xs prs H',b8 H H'→H L=none→H' L=some (.lst xs)→kQ H' xs (prs.map PR.rowV)→oQ prs→Q (.ref L) H')
theorem SqL.kept' (S:b8 H H')(h:SqL K H a xs):SqL K H' a xs:=by
 rcases h with (h | ⟨o,h⟩) | h
 ·exact .inl (.inl (S _ _ h))
 ·exact .inl (.inr ⟨o,S _ _ h⟩)
 ·exact .inr h
theorem kQ.snoc {rows:List (List V)}{r:List V}(h:kQ H xs rows)(k:∀ a,∀ q∈rows,H a=some (.lst q)→H' a=some (.lst q))(hB:H' B=some (.lst r)):kQ H' (xs++[.ref B]) (rows++[r]):=⟨by rw [aj,aj,h.len];rfl,fun i q hq=>by
 by_cases c:i<rows.length
 ·rw [bJ c] at hq
  obtain ⟨a,h1,ha⟩:=h.get i q hq;exact ⟨a,by rw [bJ (by rw [h.len];exact c)];exact h1,k a q (ay hq) ha⟩
 ·have e:i=rows.length:=by
   have:=(ah.mp hq).1;rw [aj] at this;simp at this;lia
  subst e;rw [aN (az _),dJ] at hq;cases hq;exact ⟨B,by rw [aN (by rw [h.len];exact az _),h.len,dJ];rfl,hB⟩⟩
theorem rowV_str (r:PR):∃ (z:Str) (t:List V),r.rowV= .str z::t:=by cases r <;> exact ⟨_,_,rfl⟩
theorem kQ.neL (h:kQ H xs (prs.map PR.rowV))(hL:H L=some (.lst xs)){q:List V}(hq:q∈prs.map PR.rowV)(ha:H a=some (.lst q)):a≠L:=fun z=>by
 subst z;rw [hL] at ha;injection ha with ha
 injection ha with ha
 subst ha;obtain ⟨r,hr,e⟩:=aG.mp hq;obtain ⟨z,t,e2⟩:=rowV_str r;rw [e2] at e;have l:=h.len;obtain ⟨b,h1,_⟩:=h.get 0 _ (gE (show 0<(prs.map PR.rowV).length by rw [←l,←e];simp));rw [←e] at h1;cases h1
theorem ne_of_none' {b:ak}(h:H a=none)(h':H b=some o):a≠b:=fun z=>by rw [z,h'] at h;cases h
def PathOk (tt:List Str):Prop:=(∀ z∈tt,nam z=true)∧tt.Nodup∧2≤tt.length∧tt.length≤5
theorem scLr:cp ["_law_pot_here","_law_name","_law_stops","_law_rows","_law_way","_law_here","_law_path","_law_row","_law_stop"] pzz (defScope sLr):=by trivial
theorem ok_lr (F:Fun K "_law_line_row" "_law_line_row" sLr f fd)(T:Nm mg)(T2:Nt mg)(G1:Fn K mg "_law_take" sTake pze f1 fd1):c7 P w K mg base CX0 2 f fd pzz spLr:=by
 have F1:c7 P w K mg base CX0 1 f1 fd1 pze nX:=mM G1.F;refine F.ok scLr (by contradiction) (fun cdv A outer s H vs Q E hr h=>?_);obtain ⟨p,n,nm,S,R,ss,xs,prs,rfl,hp,hS,⟨l5,l30⟩,nd,nam_,nmN,hR,rw_,okl,few,k⟩:=h;have hr1:jJ 1 _:=hr;refine ⟨_,PSl.h (bq ⟨(psZ 4 scLr.nd (pc1 G1 F1 hr1 (af (pv 0) (af aC aw))))⟩
  (bq ⟨(psZ 5 scLr.nd (eS nc rfl T2.tlist boot_list (af (pv 2) aw)))⟩
  (bq ⟨(og (iy:=6) (fr:=["_law_here","_law_pot_here"]) (js:=[5,0]) scLr.nd rfl (.inl rfl) rfl (kE rfl T2.range (af (cD ff aC (pc1 G1 F1 hr1 (af (pv 0) (af aC aw)))) aw)) (by trivial) rfl (by trivial) rfl (by exists sLr) (by trivial) rfl (by trivial) (fun _ _ _ _ _=>⟨(toKp K (i9 bf PySem.F.slot_list_pop PySem.F.type_list_pop mt_popAt (pv 1) (af (pc1 G1 F1 hr1 (af (pv 2) (af (bU (lenK K) rfl T.len aR (af (pv 1) aw)) aw))) aw))),jg⟩))⟩
  (bq ⟨(ps_cutK (eX (PW.pt (lJ (bK oS (pv 4) aC (cb _)) (kq (bK (op_neL0 hr.units0) (pv 3) (hI aw) (cb _))))) (PSl.h (bq ⟨(psZ 6 scLr.nd (pe_twoL (a:=2) (cH aY (pv 3) (pc1 G1 F1 hr1 (af (pv 0) (af (bU bM rfl T.len aR (af (pv 3) aw)) aw))) (fun _ _=>rfl))))⟩
  (fu ⟨(psZ 6 scLr.nd (PEs.h (k_ix aY (mN (cS ⟨pv 6⟩ (cS ⟨pe_backL (pv 6)⟩ mD))) ⟨pv 4⟩ (fun _ _=>rfl))))⟩))) cv))⟩
  (bq ⟨(psZ 7 scLr.nd (PEs.h (k_lstF (cS k7 (cS ⟨pv 1⟩ (cS (k_ix aY ⟨pv 6⟩ jI (fun _ _=>rfl)) mD))))))⟩
  (bq ⟨(gS bS rfl (gN (eZ sl_list (pv 6) (fD aC) gM)) (pgZ 8 scLr.nd) (PSl.h (bq ⟨(gD (i9 bf bE bD fj (pv 7) (af (pc1 G1 F1 hr1 (af (pv 0) (af (PEs.h (k_ix aY (mN (cS jI (cS jI (cS jI (cS (k_op op_pow jI jI) mD))))) ⟨pc1 G1 F1 hr1 (af (pv 0) (af aC aw))⟩ (fun _ _=>rfl))) aw))) aw)))⟩
  (fu ⟨(gD (i9 bf bE bD fj (pv 7) (af (pv 8) aw)))⟩))))⟩
  (fu ⟨(bZ (pv 7))⟩))))))),?_⟩
 have nSp:S≠p:=de hS hp fun z=>by
  injection z with z
  have:=pJ gc z;rw [ae] at this;simp at this;lia
 have nRp:R≠p:=rw_.nep hp hR;have two:∀ r∈prs.map PR.rowV,2≤r.length:=fun r hr=>by
  obtain ⟨q,hq,rfl⟩:=aG.mp hr;exact rowV_two (okl q hq)
 refine ⟨_,rfl,p,n,4,rfl,hp,by decide,by decide,fun way H1 w0 w1 M1=>?_⟩;have hS1:=M1.1 _ _ nSp hS;obtain ⟨n1,hp1⟩:=M1.2;refine ⟨_,rfl,S,_,rfl,.inl (SqL.of hS1),fun l hl=>?_⟩;have M2:Mv p H (upd H1 l (.lst (ss.map V.str))):=M1.new hl;have h2l:(upd H1 l (.lst (ss.map V.str))) l=some (.lst (ss.map V.str)):=aP;have nlp:l≠p:=M1.ne hl;have fl:H l=none:=M1.free hl;generalize upd H1 l (.lst (ss.map V.str))=H2 at M2 h2l ⊢;obtain ⟨n2,hp2⟩:=M2.2;refine ⟨_,rfl,p,n2,4,rfl,hp2,by decide,by decide,fun r H3 r0 r1 M3=>⟨_,_,rfl,rfl,2+r,rfl,by lia,by lia,?_⟩⟩;have M13:=M2.trans M3;refine mV (n:=(2+r).toNat) (fun i zs HA=>(∀ c o,c≠p→H c=some o→HA c=some o)∧(∃ n,HA p=some (.lst [.int n]))∧∃ ps rest:List Str,zs=ps.map V.str∧ps.length=i∧HA l=some (.lst (rest.map V.str))∧(ps++rest).Perm ss)
  ⟨M13.1,M13.2,[],ss,rfl,rfl,M3.at h2l nlp,List.Perm.refl _⟩ (fun i zs HA _ q=>by obtain ⟨_,_,ps,_,e,hl,_⟩:=q;rw [e,ae,hl];exact az _) (small_le (by lia)) (fun i zs HA hi q=>?_) (fun zs HA q D hD=>?_)
 ·obtain ⟨SA,⟨nA,hpA⟩,ps,rest,eA,lA,hLA,pm⟩:=q
  have lr:ps.length+rest.length=ss.length:=by rw [←aj];exact pm.length_eq
  refine ie ?_;have ll:(rest.map V.str).length=rest.length:=ae _;refine ⟨_,rfl,.inl ⟨rfl,_,SqL.of hLA⟩,_,rfl,_,rfl,l,_,rfl,.inl (SqL.of hLA),p,nA,_,rfl,hpA,(by show 0<((rest.map V.str).length:Int);lia),(by show ((rest.map V.str).length:Int)<10 ^ 61;lia),fun r4 HB a4 c4 MB=>?_⟩;have c4:r4<((rest.map V.str).length:Int):=c4;obtain ⟨j,rfl⟩:=cF a4;obtain ⟨y,hy⟩:∃ y,rest[j]? =some y:=⟨_,gE (by lia)⟩;have hLB:=MB.at hLA nlp;refine ⟨l,rest.map V.str,_,j,V.str y,rfl,rfl,hLB,by lia,by lia,seqIndex_of a4 c4,by rw [ax,hy];rfl,?_⟩;obtain ⟨nB,hpB⟩:=MB.2;refine ⟨fun c o hc e=>by rw [aX (aV e fl)];exact MB.1 _ _ hc (SA c o hc e),⟨nB,by rw [aX (cO nlp)];exact hpB⟩,ps++[y],rest.eraseIdx j,by rw [eA,aq];rfl,by rw [aj,lA];rfl,?_,?_⟩
  ·rw [aP,List.eraseIdx_eq_take_drop_succ,List.eraseIdx_eq_take_drop_succ,aq,jQ,gb]
  ·rw [cw]
   exact ((pop_prm rest j y hy).append_left ps).trans pm
 obtain ⟨SA,⟨nA,hpA⟩,ps,rest,rfl,lA,hLA,pm⟩:=q;have MA:Mv p H HA:=⟨SA,nA,hpA⟩;have M4:Mv p H (upd HA D (.lst (ps.map V.str))):=MA.new hD;have h4:(upd HA D (.lst (ps.map V.str))) D=some (.lst (ps.map V.str)):=aP;have nd':=pm.nodup_iff.mpr nd;have pok:PathOk ps:=⟨fun z hz=>nam_ z (pm.subset (cB _ hz)),(List.nodup_append.mp nd').1,by lia,by lia⟩;generalize upd HA D (.lst (ps.map V.str))=H4 at M4 h4 ⊢;clear hLA hD SA MA pm hpA nd' M13 M2 M3 hp2 h2l hp1 M1 hS1;refine ⟨fun σ' H'=>∃ (Pp:ak) (tt:List Str),Mv p H H'∧H' Pp=some (.lst (tt.map V.str))∧PathOk tt∧σ'=[some (.ref p),some (.str nm),some (.ref S),some (.ref R),some (.int way),some (.ref l),some (.ref Pp),none,none],fun σ' H5 q=>?_,?_⟩
 rotate_left
 ·have nx:∀ H',Mv p H H'→H' D=some (.lst (ps.map V.str))→∃ (Pp:ak) (tt:List Str),Mv p H H'∧H' Pp=some (.lst (tt.map V.str))∧PathOk tt∧[some (V.ref p),some (V.str nm),some (V.ref S),some (V.ref R),some (V.int way),some (V.ref l),some (V.ref D),none,none]=[some (.ref p),some (.str nm),some (.ref S),some (.ref R),some (.int way),some (.ref l),some (.ref Pp),none,none]:=fun H' M h=>⟨D,ps,M,h,pok,rfl⟩
  refine ⟨_,rfl,_,_,rfl,rfl,_,rfl,jj (fun c1=>?_) (fun c1=>nx _ M4 h4)⟩;have c1:way<2:=pI c1;refine ⟨_,rfl,(by show 0≤au;decide),fun Em H5 S5 e5=>?_⟩;have M5:=M4.then S5;have hR5:=M5.1 _ _ nRp hR;refine ⟨R,Em,xs,rfl,rfl,SqL.of hR5,SqL.of e5,_,rfl,jj (fun c2=>?_) (fun c2=>nx _ M5 (S5 _ _ h4))⟩;have ne:0<xs.length:=by
   cases xs with
   | nil=>cases c2
   | cons _ _=>simp
  obtain ⟨n5,hp5⟩:=M5.2;have lx:xs.length=prs.length:=by rw [rw_.len,ae]
  refine ⟨_,rfl,_,rfl,_,rfl,R,_,rfl,.inl (SqL.of hR5),p,n5,_,rfl,hp5,(by show (0:Int)<(xs.length:Int);lia),(by show (xs.length:Int)<10 ^ 61;lia),fun r6 H6 a6 c6 M6=>?_⟩;obtain ⟨j,rfl⟩:=cF a6;have c6:(j:Int)<(xs.length:Int):=c6;have hj:j<prs.length:=by lia
  have M46:=M5.trans M6;have rw6:=rw_.mv M46 hp two;obtain ⟨a,hxa,hra⟩:=rw6.get j prs[j].rowV (by rw [ax,gE hj];rfl);have okj:=okl _ (cJ hj);generalize prs[j]=q at hra okj;cases q with
  | beat b=>exact pF okj id
  | oth kk ns is=>exact pF okj id
  | line m tt rs =>
   obtain ⟨_,o2,o3,o4,o5,o6,_⟩:=okj;have hra:H6 a=some (.lst (.str "line" :: .str m::iG tt rs)):=hra;refine ⟨R,_,_,_,rfl,rfl,SqL.of (M46.1 _ _ nRp hR),aE hxa,a,_,rfl,SqL.of hra,(by simp only [aD];lia),fun B H7 S7 e7=>?_⟩;have e7:H7 B=some (.lst (tt.map V.str)):=by rw [e7];show some (HO.lst (evs (iG tt rs)))=_;rw [nM o6]
   refine ⟨_,rfl,_,rfl,B,_,rfl,e7,fun C H8 S8 e8=>?_⟩;refine ⟨oR,fun W H9 S9 e9=>?_⟩;have M9:Mv p H H9:=M46.then (S7.trans (S8.trans S9));have ok1:PathOk tt:=⟨o2,o3,o4,o5⟩;have ok2:PathOk tt.reverse:=⟨fun z hz=>o2 z (List.mem_reverse.mp hz),(List.reverse_perm tt).nodup_iff.mpr o3,by rw [List.length_reverse];exact o4,by rw [List.length_reverse];exact o5⟩;obtain rfl | rfl:way=0∨way=1:=by lia
   ·exact ⟨_,rfl,W,_,_,_,rfl,rfl,SqL.of e9,rfl,B,tt,M9,(S8.trans S9) _ _ e7,ok1,rfl⟩
   ·exact ⟨_,rfl,W,_,_,_,rfl,rfl,SqL.of e9,rfl,C,tt.reverse,M9,by rw [S9 _ _ e8,List.map_reverse],ok2,rfl⟩
 obtain ⟨Pp,tt,M5,h5,⟨o2,o3,o4,o5⟩,rfl⟩:=q;clear h4 pok M4;obtain ⟨n5,hp5⟩:=M5.2;have nPp:Pp≠p:=de h5 hp5 fun z=>by
  injection z with z
  have:=pJ gc z;rw [ae] at this;simp at this;lia
 obtain ⟨s0,hs0⟩:∃ s0,tt[0]? =some s0:=⟨_,gE (by lia)⟩;refine ⟨_,rfl,_,rfl,Pp,_,_,_,rfl,rfl,SqL.of h5,aE (j:=0) (by rw [ax,hs0];rfl),(by show 3≤au;decide),fun L hL=>?_⟩;have M6:Mv p H (upd H5 L (.lst [.str "line",.str nm,.str s0])):=M5.new hL;have h6:(upd H5 L (.lst [.str "line",.str nm,.str s0])) L=some (.lst (.str "line" :: .str nm::iG (tt.take 1) [])):=by
  rw [aP,show tt.take 1=[s0] by rw [aW,hs0];rfl];rfl
 have fL:H L=none:=M5.free hL;have nLp:L≠p:=M5.ne hL;have nPL:Pp≠L:=aV h5 hL;have hP6:(upd H5 L (.lst [.str "line",.str nm,.str s0])) Pp=some (.lst (tt.map V.str)):=by rw [aX nPL];exact h5
 generalize upd H5 L (.lst [.str "line",.str nm,.str s0])=H6 at M6 h6 hP6 ⊢;refine ⟨_,rfl,_,rfl,Pp,_,rfl,SqL.of hP6,fun C hC=>?_⟩;rw [cutF (i:=1) (n:=1) rfl];have M7:Mv p H (upd H6 C (.lst ((tt.map V.str).drop 1))):=M6.new hC;have e7:(upd H6 C (.lst ((tt.map V.str).drop 1))) C=some (.lst ((tt.map V.str).drop 1)):=aP;have nCL:L≠C:=aV h6 hC;have nCp:C≠p:=M6.ne hC;have h7:(upd H6 C (.lst ((tt.map V.str).drop 1))) L=some (.lst (.str "line" :: .str nm::iG (tt.take 1) [])):=by rw [aX nCL];exact h6
 generalize upd H6 C (.lst ((tt.map V.str).drop 1))=H7 at M7 e7 h7 ⊢;refine ⟨C,rfl,⟨_,SqL.of e7⟩,?_⟩;have lC:((tt.map V.str).drop 1).length+1=tt.length:=by rw [bV,ae];lia
 have big:(1000:Nat)≤au:=by decide
 refine jP (K:=K) (a:=C) (xs:=(tt.map V.str).drop 1) (fun i σ HB=>Mv p H HB∧HB C=some (.lst ((tt.map V.str).drop 1))∧∃ rs:List Int,rs.length=i∧(∀ r∈rs,0≤r∧r<10 ^ 12)∧HB L=some (.lst (.str "line" :: .str nm::iG (tt.take (i+1)) rs))∧∃ v8,σ=[some (.ref p),some (.str nm),some (.ref S),some (.ref R),some (.int way),some (.ref l),some (.ref Pp),some (.ref L),v8])
  ⟨M7,e7,[],rfl,(fun r hr=>by cases hr),h7,none,rfl⟩ (fun i σ HB _ q=>SqL.of q.2.1) ?_ ?_
 ·rintro i x σ HB hx ⟨MB,hCB,rs,lrs,brs,hLB,v8,rfl⟩
  have hi:i+1<tt.length:=by have:=(ah.mp hx).1;lia
  rw [dQ,ax,Nat.add_comm,gE hi] at hx;have hx:some (V.str tt[i+1])=some x:=hx;cases hx;obtain ⟨nB,hpB⟩:=MB.2;have ltk:(tt.take (i+1)).length=rs.length+1:=by rw [aU];lia
  have lint:(iG (tt.take (i+1)) rs).length≤20:=by rw [jk ltk];lia
  refine ⟨_,rfl,.inl ⟨rfl,_,SqL.of hLB⟩,_,rfl,_,_,rfl,rfl,⟨by decide,by decide,by decide⟩,szZ4,fun B HC SC eC=>?_⟩;have MC:=MB.then SC;obtain ⟨nC,hpC⟩:=MC.2;refine ⟨_,rfl,p,nC,4,rfl,hpC,by decide,by decide,fun r HD a0 a1 MD=>?_⟩;have hBD:=MD.1 _ _ (de eC hpC (iq (by simp))) eC;obtain ⟨v,ev,mv⟩:=oO (xs:=[V.int 4,.int 60,.int 60,.int (10 ^ 12)]) a0 (by show r<4;lia);obtain ⟨Mx,rfl,Mx1,Mx2⟩:∃ M:Int,v= .int M∧1≤M∧M≤10 ^ 12:=by
   simp only [av,aL,or_false] at mv
   rcases mv with rfl | rfl | rfl | rfl
   ·exact ⟨_,rfl,by decide,by decide⟩
   ·exact ⟨_,rfl,by decide,by decide⟩
   ·exact ⟨_,rfl,by decide,by decide⟩
   ·exact ⟨_,rfl,by decide,by decide⟩
  have MD2:=MC.trans MD;obtain ⟨nD,hpD⟩:=MD2.2;refine ⟨B,_,_,_,rfl,rfl,SqL.of hBD,ev,p,nD,Mx,rfl,hpD,by lia,by lia,fun r2 HE b0 b1 ME=>?_⟩;have kLE:HE L=some (.lst (.str "line" :: .str nm::iG (tt.take (i+1)) rs)):=ME.1 _ _ nLp (MD.1 _ _ nLp (SC _ _ hLB));have kCE:HE C=some (.lst ((tt.map V.str).drop 1)):=ME.1 _ _ nCp (MD.1 _ _ nCp (SC _ _ hCB));have MHE:=MD2.trans ME;refine ⟨L,_,_,rfl,rfl,kLE,(by simp only [aD];lia),?_⟩;refine ⟨_,rfl,.inl ⟨rfl,_,SqL.of aP⟩,_,rfl,L,_,_,rfl,rfl,aP,(by simp only [aD,aj,iZ];lia),?_⟩;obtain ⟨nE,hpE⟩:=MHE.2;refine ⟨⟨fun c o hc e=>?_,nE,?_⟩,?_,rs++[r2],by rw [aj,lrs];rfl,fun r hr=>?_,?_,_,rfl⟩
  ·have:=aV e fL
   rw [aX this,aX this];exact MHE.1 c o hc e
  ·rw [aX (cO nLp),aX (cO nLp)];exact hpE
  ·rw [aX (cO nCL),aX (cO nCL)];exact kCE
  ·rcases bg.mp hr with hr | hr
   ·exact brs r hr
   ·rw [aB.mp hr];lia
  ·rw [aP,show tt.take (i+1+1)=tt.take (i+1)++[tt[i+1]] by rw [aW,gE hi];rfl,←intr_snoc ltk]
   rfl
 ·rintro σ HB ⟨MB,hCB,rs,lrs,brs,hLB,v8,rfl⟩
  rw [show ((tt.map V.str).drop 1).length+1=tt.length from lC,bI] at hLB;exact ⟨_,rfl,k L tt rs HB MB fL hLB ⟨nmN,o2,o3,o4,o5,by lia,brs⟩⟩
theorem scLns:cp ["_law_script","_law_names_here","_law_stops","_law_most","_law_rows","_law_many","_law_k","_law_row"] pzA (defScope sLns):=by trivial
theorem ok_lns {fT fP fL:ak}{dT dP dL:aZ}(F:Fun K "_law_lines" "_law_lines" sLns f fd)(T:Nm mg)(T2:Nt mg)(GT:Fn K mg "_law_take" sTake pze fT dT)
  (GP:Fn K mg "_law_pot" sPotT pzf fP dP) (FP:c7 P w K mg base CX0 2 fP dP pzf (spPotT K))
  (GL:Fn K mg "_law_line_row" sLr pzz fL dL) (FL:c7 P w K mg base CX0 2 fL dL pzz spLr):c7 P w K mg base CX0 3 f fd pzA (spLns K):=by
 have FT:c7 P w K mg base CX0 1 fT dT pze nX:=mM GT.F;refine F.ok scLns (by contradiction) (fun cdv A outer s H vs Q E hr h=>?_);obtain ⟨a,N,S,ns,nn,ss,most,rfl,ha,hN,ndN,okN,hS,⟨l5,l30⟩,ndS,okS,m1,m2,m3,k⟩:=h;have hr1:jJ 1 _:=hr.mono (by decide);have hr2:jJ 2 _:=hr;refine ⟨_,PSl.h (bq ⟨(psZ 4 scLns.nd (jK aw))⟩
  (bq ⟨(psZ 5 scLns.nd aC)⟩
  (bq ⟨(gS bS rfl (kE rfl T2.range (af (cD ff aC (pc1 GT FT hr1 (af (pc1 GP FP hr2 (af (pv 0) (af aC aw))) (af (pv 3) aw)))) aw)) (pgZ 6 scLns.nd) (PSl.h (bq ⟨(psZ 7 scLns.nd (pc1 GL FL hr2 (af (pc1 GP FP hr2 (af (pv 0) (af (cD ff aC (pv 6)) aw))) (af (cH aY (pv 1) (pv 6) (fun _ _=>rfl)) (af (pv 2) (af (pv 4) aw))))))⟩
  (fu ⟨(eX (bK op_le (cD gv (cD ff (pv 5) (bU bM rfl T.len aR (af (pv 7) aw))) aC) aC (cb _)) (PSl.h (bq ⟨(gD (i9 bf bE bD fj (pv 4) (af (pv 7) aw)))⟩
  (fu ⟨(psZ 5 scLns.nd (cD gv (cD ff (pv 5) (bU bM rfl T.len aR (af (pv 7) aw))) aC))⟩))) cv)⟩))))⟩
  (fu ⟨(bZ (pv 4))⟩)))),?_⟩
 refine ⟨(by show 0≤au;decide),fun L hL=>?_⟩;have S1:b8 H (upd H L (.lst [])):=(b8.refl H).put hL;have h1:(upd H L (.lst [])) L=some (.lst []):=aP;generalize upd H L (.lst [])=H1 at S1 h1 ⊢;have sq:∀ {H':Hp},b8 H H'→SqL K H' a (ns.map V.int):=fun S=>SqL.kept' S ha
 refine ⟨_,rfl,a,ns,3,rfl,sq S1,by decide,by decide,fun m p hp=>?_⟩;have S2:b8 H1 (upd H1 p (.lst [.int m])):=b8.put (b8.refl H1) hp;have h2:(upd H1 p (.lst [.int m])) p=some (.lst [.int m]):=aP;generalize upd H1 p (.lst [.int m])=H2 at S2 h2 ⊢;refine ⟨_,rfl,p,m,most,rfl,h2,by lia,by lia,fun r H3 r0 r1 M3=>⟨_,_,rfl,rfl,1+r,rfl,by lia,by lia,?_⟩⟩;have S3:b8 H1 H3:=b8.mv S2 hp M3;have big:(1000:Nat)≤au:=by decide
 refine mr (lo:=0) (n:=(1+r).toNat) (fun i σ HA=>b8 H HA∧∃ (xs:List V) (prs:List PR),HA L=some (.lst xs)∧kQ HA xs (prs.map PR.rowV)∧LnsI nn i prs∧∃ v6 v7,σ=[some (.ref a),some (.ref N),some (.ref S),some (.int most),some (.ref L),some (.int (gf (lsC prs))),v6,v7])
  ⟨S1.trans S3,[],[],S3 _ _ h1,⟨rfl,fun i r h=>by cases h⟩,LnsI.nil nn,none,none,rfl⟩ ?_ ?_
 ·rintro i σ HA hi ⟨SA,xs,prs,hLA,rwA,I,v6,v7,rfl⟩
  have hi2:i<nn.length:=by lia
  have hn:=gE hi2;refine ⟨_,rfl,_,rfl,_,_,rfl,rfl,a,ns,_,rfl,sq SA,(by show (0:Int)≤4+(0+(i:Nat));lia),(by show (4:Int)+(0+(i:Nat))≤100;lia),fun m4 p4 hp4=>?_⟩;have S4:b8 HA (upd HA p4 (.lst [.int m4])):=b8.put (b8.refl HA) hp4;have h4:(upd HA p4 (.lst [.int m4])) p4=some (.lst [.int m4]):=aP;generalize upd HA p4 (.lst [.int m4])=H4 at S4 h4 ⊢;refine ⟨_,rfl,_,rfl,N,_,_,_,rfl,rfl,SqL.of ((SA.trans S4) _ _ hN),(by rw [Int.zero_add];exact aE (by rw [ax,hn];rfl)),_,rfl,_,rfl,p4,m4,nn[i],S,L,ss,xs,prs,rfl,h4,(SA.trans S4) _ _ hS,⟨l5,l30⟩,ndS,okS,okN _ (cJ hi2),S4 _ _ hLA,rwA.same S4,I.ok,by have:=I.few;lia,fun B tt rs H5 M5 fB hB lok=>?_⟩;have S5:b8 HA H5:=b8.mv S4 hp4 M5;have o6:tt.length=rs.length+1:=lok.2.2.2.2.2.1;have o5:tt.length≤5:=lok.2.2.2.2.1;have lrow:(PR.line nn[i] tt rs).rowV.length=2 * rs.length+3:=by
   show (iG tt rs).length+1+1=_;rw [jk o6];lia
  refine ⟨_,rfl,_,rfl,B,_,rfl,.inl (SqL.of hB),_,_,rfl,rfl,_,_,rfl,rfl,_,_,rfl,rfl,_,rfl,jj (fun c=>?_) (fun c=>?_)⟩
  ·have c:gf (lsC prs)+((PR.line nn[i] tt rs).rowV.length:Nat) - 3≤16:=pI c
   have hL5:=S5 _ _ hLA;refine ⟨_,rfl,.inl ⟨rfl,_,SqL.of hL5⟩,_,rfl,L,_,_,rfl,rfl,hL5,(by rw [rwA.len,ae];have:=I.few;lia),?_⟩;have nBL:B≠L:=ne_of_none' fB (S4 _ _ hLA);refine ⟨_,rfl,_,rfl,B,_,rfl,.inl (SqL.of (by rw [aX nBL];exact hB)),_,_,rfl,rfl,_,_,rfl,rfl,?_⟩;refine ⟨fun c o e=>?_,xs++[.ref B],prs++[.line nn[i] tt rs],aP,?_,I.more ndN (by lia) hn lok (by rw [lrow] at c;lia),some (.int (0+(i:Nat))),some (.ref B),?_⟩
   ·rw [aX (aV e hL)];exact (SA.trans S5) _ _ e
   ·rw [aq]
    exact (rwA.same S5).snoc (fun a q hq e=>by rw [aX ((rwA.same S5).neL hL5 hq e)];exact e) (by rw [aX nBL];exact hB)
   ·rw [show lsC (prs++[.line nn[i] tt rs])=lsC prs++[⟨nn[i],tt,rs,[],gf (lsC prs)⟩] from gj _ _,jX,lrow]
    show [some (V.ref a),some (V.ref N),some (V.ref S),some (V.int most),some (V.ref L),some (V.int (gf (lsC prs)+((2 * rs.length+3:Nat):Int) - 3)),_,_]=_;rw [show gf (lsC prs)+((2 * rs.length+3:Nat):Int) - 3=gf (lsC prs)+2 * (rs.length:Int) by lia]
  ·have i1:1≤i:=by
    cases i with
    | zero =>
     have e0:prs=[]:=by have:=I.few.1;exact kW.mp (by lia)
     subst e0;refine pF (pG ?_) c;rw [lrow];show gf (lsC [])+_ - 3≤16;rw [show gf (lsC [])=0 from rfl];lia
    | succ i=>lia
   exact ⟨SA.trans S5,xs,prs,S5 _ _ hLA,rwA.same S5,I.up (by lia) i1,_,_,rfl⟩
 ·rintro σ HA ⟨SA,xs,prs,hLA,rwA,I,v6,v7,rfl⟩
  exact ⟨_,rfl,k L xs prs HA SA hL hLA rwA (I.done (by lia))⟩
abbrev sSpw:cN:=top 50
abbrev sInn:cN:=top 52
theorem sl_listK (K:ai)(hK:X.K=K:=by rfl):SlR X (fun x lo hi H Q=>∃ a xs,x= .ref a∧SqL K H a xs∧New H (.lst (pw xs lo hi)) Q):=by subst hK;exact iD
theorem cut13 (a b c:V)(r:List V):pw (a::b::c::r) (some 1) (some 3)=[b,c]:=by
 unfold pw;have e1:=HT.sIx_nat (a::b::c::r).length 0 1;have e2:=HT.sIx_nat (a::b::c::r).length (a::b::c::r).length 3;rw [show ((1:Nat):Int)=1 from rfl] at e1;rw [show ((3:Nat):Int)=3 from rfl] at e2;rw [e1,e2,dm (by simp),dm (by simp)];rfl
theorem lsC_at {n:Str}{rs:List Int}(h:prs[i]? =some (.line n ss rs)):(⟨n,ss,rs,[],gf (lsC (prs.take i))⟩:Ln)∈lsC prs:=by
 refine nJ (m:=i+1) ?_;rw [aW,h];show _∈lsC (prs.take i++[_]);rw [gj];exact bp _ (aB.mpr rfl)
theorem kQ.neS {rows:List (List V)}{t:List V}(h:kQ H xs rows)(hL:H L=some (.lst xs))(ha:H a=some (.lst (.str z::t))):a≠L:=fun e=>by
 subst e;rw [hL] at ha;injection ha with ha
 injection ha with ha
 have l:=h.len;obtain ⟨b,h1,_⟩:=h.get 0 _ (gE (show 0<rows.length by rw [←l,ha];simp));rw [ha] at h1;cases h1
theorem oV_non (o:Option Int):decide (oV o=V.non)=o.isNone:=by cases o <;> rfl
theorem flat_oV (o:Option Int):mS (oV o)=true:=by cases o <;> rfl
theorem inV_non (c g:Option Int):inV .non [oV c,oV g]=(c.isNone || g.isNone):=by cases c <;> cases g <;> rfl
theorem oI_some {c:Prop}[Decidable c]{i:Int}(h:(oI c i).isNone=false):c:=by
 unfold oI at h;split at h
 ·assumption
 ·cases h
inductive spSpw (vs:List V)(H:Hp)(Q:VK)(_:XK):Prop
 | mk (p:ak)(n b:Int)(_:vs=[.ref p,.int b])(_:H p=some (.lst [.int n]))(_:1≤b)(_:b≤10 ^ 30)(_:∀ L l o w H',Mv p H H'→H' L=some (.lst [.int l,.int o,.int w])→NumOk b l o w→Q (.ref L) H')
inductive Pr (x y:Ln):Str→List Str→Prop
 | change {z:Str} {i j:Nat} (h1:x.ss[i]? =some z) (h2:1≤i) (h3:y.ss[j]? =some z) (h4:j+1<y.ss.length):Pr x y "change" [x.n,y.n,z]
 | apart {z:Str} {i j:Nat} (h1:x.ss[i]? =some z) (h2:i+1<x.ss.length) (h3:y.ss[j]? =some z) (h4:j+1<y.ss.length):Pr x y "apart" [x.n,y.n,z]
 | meet {z z2:Str} {r u:Int} {i j:Nat} (h1:x.ss[i]? =some z) (h2:x.ss[i+1]? =some z2) (h3:x.rs[i]? =some r) (h4:y.ss[j]? =some z2) (h5:y.ss[j+1]? =some z) (h6:y.rs[j]? =some u):Pr x y "meet" [x.n,y.n,z,z2]
def nh (prs:List PR)(k:Str)(q:List Str):Prop:=∃ x y:Ln,x∈lsC prs∧y∈lsC prs∧x.n≠y.n∧Pr x y k q
inductive spPrs (vs:List V)(H:Hp)(Q:VK)(_:XK):Prop
 | mk (R:ak)(xs:List V)(prs:List PR)(k:Str)(_:vs=[.ref R,.str k])(_:H R=some (.lst xs))(_:kQ H xs (prs.map PR.rowV))(_:(∀ r∈prs,r.lnOk))(_:prs.length≤30)(_:(k = "change" ∨k = "apart" ∨k = "meet"))(_:∀ (L:ak) (ys:List V) (qs:List (List Str)) (H':Hp),b8 H H'→H' L=some (.lst ys)→kQ H' ys (qs.map (List.map V.str))→(∀ q∈qs,nh prs k q)→qs.length≤10000→Q (.ref L) H')
def InnOk (prs rows:List PR)(q:List Str):Prop:=∃ (x:Ln) (z:Str) (i:Nat),x∈lsC prs∧q=[x.n,z]∧x.ss[i]? =some z∧1≤i∧i+1<x.ss.length∧(x.n,z) ∉ stz rows
def PR.okI:PR→Prop
 | .beat _=>False
 | .line n ss rs=>(PR.line n ss rs).lnOk
 | .oth k ns _=>k ≠ "line" ∧2≤ns.length∧(k = "stay" →ns.length=2)
inductive spInn (vs:List V)(H:Hp)(Q:VK)(_:XK):Prop
 | mk (R R2:ak)(xs x2:List V)(prs rows:List PR)(_:vs=[.ref R,.ref R2])(_:H R=some (.lst xs))(_:kQ H xs (prs.map PR.rowV))(_:(∀ r∈prs,r.lnOk))(_:prs.length≤30)(_:H R2=some (.lst x2))(_:kQ H x2 (rows.map PR.rowV))(_:(∀ r∈rows,r.okI))(_:rows.length≤100)(_:∀ (L:ak) (ys:List V) (qs:List (List Str)) (H':Hp),b8 H H'→H' L=some (.lst ys)→kQ H' ys (qs.map (List.map V.str))→(∀ q∈qs,InnOk prs rows q)→qs.length≤10000→Q (.ref L) H')
structure Fnd (H HA:Hp)(L:ak)(G:List Str→Prop)(n:Nat):Prop where
 S:b8 H HA
 ex:∃ (ys:List V) (qs:List (List Str)),HA L=some (.lst ys)∧kQ HA ys (qs.map (List.map V.str))∧(∀ q∈qs,G q)∧qs.length≤n
theorem Fnd.same {HB:Hp}{G:List Str→Prop}(F:Fnd H HA L G n)(S:b8 HA HB)(h:n≤m):Fnd H HB L G m:=by
 obtain ⟨ys,qs,h1,h2,h3,h4⟩:=F.ex;exact ⟨F.S.trans S,ys,qs,S _ _ h1,h2.same S,h3,by lia⟩
theorem Fnd.app {HB:Hp}{G:List Str→Prop}{t:List Str}(F:Fnd H HA L G n)(hL:H L=none)(S:b8 HA HB)(hB:HB B=some (.lst ((z::t).map V.str)))(g:G (z::t))(h:n+1≤m)(hm:m≤10000):∃ ys:List V,HB L=some (.lst ys)∧ys.length<au∧Fnd H (upd HB L (.lst (ys++[.ref B]))) L G m:=by
 obtain ⟨ys,qs,h1,h2,h3,h4⟩:=F.ex;have h2':=h2.same S;have ne:=h2'.neS (S _ _ h1) hB;have big:(20000:Nat)≤au:=by decide
 refine ⟨ys,S _ _ h1,?_,⟨fun c o e=>by rw [aX (aV e hL)];exact (F.S.trans S) _ _ e,ys++[.ref B],qs++[z::t],aP,?_,fun q hq=>?_,by rw [aj];show qs.length+1≤m;lia⟩⟩
 ·rw [h2.len,ae];lia
 ·rw [aq]
  refine h2'.snoc (fun a q hq e=>?_) (by rw [aX ne];exact hB);have:a≠L:=by
   obtain ⟨w,hw,rfl⟩:=aG.mp hq;cases w with
   | nil =>
    intro zz;subst zz;rw [S _ _ h1] at e;injection e with e
    injection e with e
    have l:=h2.len;rw [e] at l;rw [List.map_nil,iZ,ae] at l;rw [kW.mp l.symm] at hw;cases hw
   | cons z' t'=>exact h2'.neS (S _ _ h1) e
  rw [aX this];exact e
 ·rcases bg.mp hq with hq | hq
  ·exact h3 q hq
  ·rw [aB.mp hq];exact g
theorem scSpw:cp ["_law_pot_here","_law_beat","_law_least","_law_width","_law_weight"] pzB (defScope sSpw):=by trivial
theorem ok_spw (F:Fun K "_law_span_words" "_law_span_words" sSpw f fd)(T:Nm mg)(G1:Fn K mg "_law_take" sTake pze f1 fd1):c7 P w K mg base CX0 2 f fd pzB spSpw:=by
 have F1:c7 P w K mg base CX0 1 f1 fd1 pze nX:=mM G1.F;refine F.ok scSpw (by contradiction) (fun cdv A outer s H vs Q E hr h=>?_);obtain ⟨p,n,b,rfl,hp,b1,b2,k⟩:=h;have hr1:jJ 1 _:=hr;refine ⟨_,PSl.h (bq ⟨(psZ 2 scSpw.nd (pc1 G1 F1 hr1 (af (pv 0) (af (PEs.h (k_ix aY (mN (cS ⟨pv 1⟩ (cS (k_op jL jI ⟨pv 1⟩) (cS jI (cS (k_op op_pow jI jI) mD))))) ⟨pc1 G1 F1 hr1 (af (pv 0) (af aC aw))⟩ (fun _ _=>rfl))) aw))))⟩
  (bq ⟨(psZ 3 scSpw.nd (pc1 G1 F1 hr1 (af (pv 0) (af (PEs.h (k_ix aY (mN (cS jI (cS ⟨bU (oN rfl) rfl T.min boot_min (af (pv 1) (af aC aw))⟩ (cS ⟨pv 1⟩ (cS ⟨pv 1⟩ mD))))) ⟨pc1 G1 F1 hr1 (af (pv 0) (af aC aw))⟩ (fun _ _=>rfl))) aw))))⟩
  (bq ⟨(psZ 4 scSpw.nd (PEs.h (mN (cS jI (cS jI (cS ⟨pc1 G1 F1 hr1 (af (pv 0) (af aC aw))⟩ (cS ⟨pc1 G1 F1 hr1 (af (pv 0) (af (cD ff (cD op_pow aC aC) aC) aw))⟩ mD)))))))⟩
  (fu ⟨(bZ (PEs.h (mN (cS ⟨pv 2⟩ (cS (k_op ff ⟨pv 2⟩ ⟨pv 3⟩) (cS (k_ix aY ⟨pv 4⟩ ⟨pc1 G1 F1 hr1 (af (pv 0) (af aC aw))⟩ (fun _ _=>rfl)) mD))))))⟩)))),?_⟩
 refine ⟨_,rfl,_,rfl,_,rfl,_,_,rfl,rfl,.inl ⟨by decide,by decide⟩,_,_,rfl,rfl,⟨by decide,by decide,by decide⟩,szZ4,fun B H1 S1 e1=>?_⟩;have M1:Mv p H H1:=Mv.of S1 (S1 _ _ hp);refine ⟨_,rfl,p,n,4,rfl,S1 _ _ hp,by decide,by decide,fun r H2 a0 a1 M2=>?_⟩;have e2:=M2.1 _ _ (de e1 (S1 _ _ hp) (iq (by simp))) e1;obtain ⟨v,ev,mv⟩:=oO (xs:=[V.int b,.int (3 * b),.int 60,.int (10 ^ 30)]) a0 (by show r<4;lia);obtain ⟨m,rfl,m1,m2⟩:∃ m:Int,v= .int m∧1≤m∧m≤10 ^ 31:=by
  simp only [av,aL,or_false] at mv
  rcases mv with rfl | rfl | rfl | rfl
  ·exact ⟨_,rfl,by lia,by lia⟩
  ·exact ⟨_,rfl,by lia,by lia⟩
  ·exact ⟨_,rfl,by decide,by decide⟩
  ·exact ⟨_,rfl,by decide,by decide⟩
 obtain ⟨n2,hp2⟩:=M2.2;refine ⟨B,_,_,_,rfl,rfl,SqL.of e2,ev,p,n2,m,rfl,hp2,by lia,by lia,fun l H3 l0 l1 M3=>?_⟩;have M13:=(M1.trans M2).trans M3;obtain ⟨n3,hp3⟩:=M13.2;clear e1 e2 ev mv M2 M3 hp2;refine ⟨_,rfl,_,rfl,_,_,rfl,_,rfl,_,rfl,szZ4,fun B H4 S4 e4=>?_⟩;refine ⟨_,rfl,p,n3,4,rfl,S4 _ _ hp3,by decide,by decide,fun r H5 c0 c1 M5=>?_⟩;have e5:=M5.1 _ _ (de e4 (S4 _ _ hp3) (iq (by simp))) e4;obtain ⟨v,ev,mv⟩:=oO (xs:=[V.int 1,.int (if (4:Int)<b then 4 else b),.int b,.int b]) c0 (by show r<4;lia);obtain ⟨m',rfl,m1',m2'⟩:∃ m:Int,v= .int m∧1≤m∧m≤b:=by
  simp only [av,aL,or_false] at mv
  rcases mv with rfl | rfl | rfl | rfl
  ·exact ⟨_,rfl,by decide,by lia⟩
  ·exact ⟨_,rfl,by split <;> lia,by split <;> lia⟩
  ·exact ⟨_,rfl,by lia,by lia⟩
  ·exact ⟨_,rfl,by lia,by lia⟩
 obtain ⟨n5,hp5⟩:=M5.2;refine ⟨B,_,_,_,rfl,rfl,SqL.of e5,ev,p,n5,m',rfl,hp5,by lia,by lia,fun wd H6 w0 w1 M6=>?_⟩;have M36:=((M13.then S4).trans M5).trans M6;obtain ⟨n6,hp6⟩:=M36.2;clear e4 e5 ev mv M5 M6 hp5;refine ⟨_,rfl,p,n6,10,rfl,hp6,by decide,by decide,fun x1 H7 x10 x11 M7=>?_⟩;obtain ⟨n7,hp7⟩:=M7.2;refine ⟨_,rfl,_,_,rfl,rfl,⟨by decide,by decide,by decide⟩,_,_,rfl,rfl,p,n7,_,rfl,hp7,(by show (0:Int)<10 ^ 12+1;decide),(by show (10 ^ 12+1:Int)<10 ^ 61;decide),fun x2 H8 x20 x21 M8=>?_⟩;have x21:x2<10 ^ 12+1:=x21;refine ⟨szZ4,fun B H9 S9 e9=>?_⟩;have M39:=((M36.trans M7).trans M8).then S9;obtain ⟨n9,hp9⟩:=M39.2;refine ⟨_,rfl,_,rfl,_,rfl,_,_,rfl,rfl,_,rfl,_,rfl,p,n9,4,rfl,hp9,by decide,by decide,fun r Ha d0 d1 Ma=>?_⟩;have e9':=Ma.1 _ _ (de e9 hp9 (iq (by simp))) e9;obtain ⟨v,ev,mv⟩:=oO (xs:=[V.int 0,.int 1,.int x1,.int x2]) d0 (by show r<4;lia);obtain ⟨wt,rfl,t1,t2⟩:∃ m:Int,v= .int m∧0≤m∧m≤1000000000000:=by
  simp only [av,aL,or_false] at mv
  rcases mv with rfl | rfl | rfl | rfl
  ·exact ⟨_,rfl,by decide,by decide⟩
  ·exact ⟨_,rfl,by decide,by decide⟩
  ·exact ⟨_,rfl,by lia,by lia⟩
  ·exact ⟨_,rfl,by lia,by lia⟩
 refine ⟨B,_,_,_,rfl,rfl,SqL.of e9',ev,(by show 3≤au;decide),fun L Hb Sb eb=>?_⟩;exact k L l (l+wd) wt Hb ((M39.trans Ma).then Sb) eb ⟨by lia,by lia,by lia,by lia,t1,t2⟩
theorem scInn:cp ["_law_lines_here","_law_rows","_law_told","_law_found","_law_row","_law_k"] pzC (defScope sInn):=by trivial
theorem ok_inn (F:Fun K "_law_inner" "_law_inner" sInn f fd)(T:Nm mg)(T2:Nt mg):c7 P w K mg base CX0 1 f fd pzC spInn:=by
 refine F.ok scInn (by contradiction) (fun cdv A outer s H vs Q E hr h=>?_);obtain ⟨R,R2,xs,x2,prs,rows,rfl,hR,rw_,ok,few,hR2,rw2,ok2,few2,k⟩:=h;refine ⟨_,PSl.h (bq ⟨(og (iy:=2) (fr:=[]) (js:=[]) scInn.nd rfl (.inl rfl) rfl (gN (pv 1)) (by trivial) rfl (by trivial) rfl (by exists sInn) (by trivial) rfl (by trivial) (fun _ _ _ _ _=>⟨(eZ (sl_listK K) (pv 0) (fD aC) (fD aC)),(pts_one (bK iT (cH (r:=rIxL K) aY (pv 0) aC (fun _ _=>rfl)) dv (cb _)))⟩))⟩
  (bq ⟨(psZ 3 scInn.nd (jK aw))⟩
  (bq ⟨(gS bS rfl (gN (pv 0)) (pgZ 4 scInn.nd) (bB (gS bS rfl (ma rfl T2.range (af aC (af (cD gv (bU bM rfl T.len aR (af (pv 4) aw)) aC) (af aC aw)))) (pgZ 5 scInn.nd) (bB (eX (bK (op_notInLS hr.units) (hI (af (cH aY (pv 4) aC (fun _ _=>rfl)) (af (cH aY (pv 4) (pv 5) (fun _ _=>rfl)) aw))) (pv 2) rfl) (bB (gD (i9 bf bE bD fj (pv 3) (af (hI (af (cH aY (pv 4) aC (fun _ _=>rfl)) (af (cH aY (pv 4) (pv 5) (fun _ _=>rfl)) aw))) aw)))) cv)))))⟩
  (fu ⟨(bZ (pv 3))⟩)))),?_⟩
 have lxs:xs.length=prs.length:=by rw [rw_.len,ae]
 have lx2:x2.length=rows.length:=by rw [rw2.len,ae]
 have big:(100000:Nat)≤au:=by decide
 refine ⟨_,rfl,R2,rfl,⟨_,SqL.of hR2⟩,?_⟩;refine iW (K:=K) (a:=R2) (xs:=x2) (fun i zs HA=>b8 H HA∧∃ as:List ak,zs=as.map V.ref∧as.map HA=((stz (rows.take i)).map fun q=>[q.1,q.2]).map (fun t=>some (HO.lst (t.map V.str)))∧zs.length≤i) ⟨b8.refl H,[],rfl,rfl,az _⟩ (fun i zs HA _ q=>?_) (by lia) (fun i x zs HA hx q=>?_) (fun zs HA q D hD=>?_)
 ·obtain ⟨SA,as,_,_,h⟩:=q
  exact ⟨SqL.of (SA _ _ hR2),h⟩
 ·obtain ⟨SA,as,rfl,hA,lA⟩:=q
  have hi:i<rows.length:=by rw [←lx2];exact (ah.mp hx).1
  have hp:=gE hi;have et:rows.take (i+1)=rows.take i++[rows[i]]:=by rw [aW,hp];rfl
  have okr:=ok2 _ (cJ hi);obtain ⟨a,hxa,hra⟩:=rw2.get i rows[i].rowV (by rw [ax,hp];rfl);rw [hx] at hxa;cases hxa;rw [et,show stz (rows.take i++[rows[i]])=stz (rows.take i)++(rows[i].sty2).toList by
   unfold stz;rw [ib];cases h:rows[i].sty2 <;> simp [List.filterMap,h]]
  generalize rows[i]=r at okr hra ⊢;have hra2:=SA _ _ hra;cases r with
  | beat b=>exact pF okr id
  | line n ss rs =>
   have hra2:HA a=some (.lst (.str "line" :: .str n::iG ss rs)):=hra2;refine ⟨_,rfl,a,_,_,_,rfl,rfl,SqL.of hra2,aE (j:=0) rfl,rfl,_,rfl,iL (by trivial) ?_⟩;rw [show (PR.line n ss rs).sty2=none from rfl,Option.toList_none,cG];exact ⟨SA,as,rfl,hA,by lia⟩
  | oth kk ns is =>
   have hra2:HA a=some (.lst (.str kk::(ns.map V.str++is.map V.int))):=hra2;obtain ⟨o1,o2,o3⟩:=okr
   by_cases hk:kk = "stay"
   ·have o3:=o3 hk
    obtain ⟨n,z,rfl⟩:∃ n z,ns=[n,z]:=by
     match ns,o3 with
     | [n,z],_=>exact ⟨n,z,rfl⟩
    refine ⟨_,rfl,a,_,_,_,rfl,rfl,SqL.of hra2,aE (j:=0) rfl,rfl,_,rfl,oA (pG (by rw [hk])) ?_⟩;refine ⟨_,rfl,_,rfl,_,rfl,a,_,rfl,SqL.of hra2,fun C HB SB eB=>?_⟩;rw [show (V.str kk::(([n,z]:List Str).map V.str++is.map V.int))=V.str kk::V.str n::V.str z::is.map V.int from rfl,cut13] at eB;rw [show (PR.oth kk [n,z] is).sty2=some (n,z) from by unfold PR.sty2;exact pE hk];refine ⟨SA.trans SB,as++[C],by rw [aq];rfl,?_,by rw [aj];show _+1≤_;lia⟩;rw [aq,Option.toList_some,aq,aq];congr 1
    ·rw [←hA]
     refine cP fun c hc=>?_
     have hm:HA c∈((stz (rows.take i)).map fun q=>[q.1,q.2]).map (fun t=>some (HO.lst (t.map V.str))):=by rw [←hA];exact cX hc
     obtain ⟨t,_,e⟩:=aG.mp hm;rw [←e];exact SB _ _ e.symm
    ·show [HB C]=_
     rw [eB];rfl
   ·refine ⟨_,rfl,a,_,_,_,rfl,rfl,SqL.of hra2,aE (j:=0) rfl,rfl,_,rfl,iL (pH fun z=>hk (by injection z)) ?_⟩
    have e:(PR.oth kk ns is).sty2=none:=by
     unfold PR.sty2;split
     ·next h=>cases h;exact pB hk
     ·rfl
    rw [e,Option.toList_none,cG];exact ⟨SA,as,rfl,hA,by lia⟩
 obtain ⟨SA,as,rfl,hA,lA⟩:=q;rw [lx2,bI] at hA;have S1:b8 HA (upd HA D (.lst (as.map V.ref))):=(b8.refl HA).put hD;have hD1:(upd HA D (.lst (as.map V.ref))) D=some (.lst (as.map V.ref)):=aP;have keepT:∀ {H':Hp},b8 HA H'→as.map H'=((stz rows).map fun q=>[q.1,q.2]).map (fun t=>some (HO.lst (t.map V.str))):=fun {H'} S=>by
  rw [←hA];refine cP fun c hc=>?_
  have hm:HA c∈((stz rows).map fun q=>[q.1,q.2]).map (fun t=>some (HO.lst (t.map V.str))):=by rw [←hA];exact cX hc
  obtain ⟨t,_,e⟩:=aG.mp hm;rw [←e];exact S _ _ e.symm
 generalize upd HA D (.lst (as.map V.ref))=H1 at S1 hD1 ⊢;refine ⟨(by show 0≤au;decide),fun L hL=>?_⟩;have S2:b8 H1 (upd H1 L (.lst [])):=(b8.refl H1).put hL;have h2:(upd H1 L (.lst [])) L=some (.lst []):=aP;generalize upd H1 L (.lst [])=H2 at S2 h2 ⊢;have F0:Fnd H1 H2 L (InnOk prs rows) 0:=⟨S2,[],[],h2,⟨rfl,fun i r h=>by cases h⟩,(fun q hq=>by cases hq),az _⟩;have SH1:=SA.trans S1;refine ⟨_,rfl,R,rfl,⟨_,SqL.of (S2 _ _ (SH1 _ _ hR))⟩,?_⟩;refine jP (K:=K) (a:=R) (xs:=xs) (fun i σ HB=>Fnd H1 HB L (InnOk prs rows) (10 * i)∧∃ v4 v5,σ=[some (.ref R),some (.ref R2),some (.ref D),some (.ref L),v4,v5])
  ⟨F0,none,none,rfl⟩ (fun i σ HB _ q=>SqL.of (q.1.S _ _ (SH1 _ _ hR))) ?_ ?_
 ·rintro i x σ HB hx ⟨FB,v4,v5,rfl⟩
  have hi:i<prs.length:=by rw [←lxs];exact (ah.mp hx).1
  have hp:=gE hi;have okr:=ok _ (cJ hi);obtain ⟨a,hxa,hra⟩:=rw_.get i prs[i].rowV (by rw [ax,hp];rfl);rw [hx] at hxa;cases hxa;generalize prs[i]=r at okr hra hp;cases r with
  | beat b=>exact pF okr id
  | oth kk ns is=>exact pF okr id
  | line m ss rs =>
   have xin:=lsC_at hp;obtain ⟨_,o2,nd,o4,o5,o6,_⟩:=okr;have hra1:H1 a=some (.lst (.str "line" :: .str m::iG ss rs)):=SH1 _ _ hra;have lrow:(V.str "line" :: .str m::iG ss rs).length=2 * ss.length+1:=by rw [aD,aD,jk o6];lia
   refine ⟨_,rfl,a,_,rfl,.inl (SqL.of (FB.S _ _ hra1)),_,_,rfl,rfl,4,_,rfl,⟨by decide,by decide,by rw [lrow];lia,by rw [lrow];lia⟩,?_⟩;have en:(((((V.str "line" :: .str m::iG ss rs).length:Nat):Int) - 2) - 4+1) / 2=((ss.length - 2:Nat):Int):=by rw [lrow];lia
   rw [en,eU];refine lE (lo:=4) (n:=ss.length - 2) (fun j σ HC=>Fnd H1 HC L (InnOk prs rows) (10 * i+j)∧∃ v5,σ=[some (.ref R),some (.ref R2),some (.ref D),some (.ref L),some (.ref a),v5])
    ⟨FB,_,rfl⟩ ?_ ?_
   ·rintro j σ HC hj ⟨FC,v5,rfl⟩
    obtain ⟨s1,hs1⟩:∃ s,ss[j+1]? =some s:=⟨_,gE (by lia)⟩;have g1:atI (V.str "line" :: .str m::iG ss rs) ((4:Int)+(j:Nat) * 2)=some (.str s1):=by
     rw [show (4:Int)+(j:Nat) * 2=((2 * (j+1)+1+1:Nat):Int) by lia];exact aE (by rw [aH,aH,oE (j+1) o6,hs1];rfl)
    have hraC:=FC.S _ _ hra1;refine ⟨_,rfl,a,_,_,_,rfl,rfl,SqL.of hraC,aE (j:=1) rfl,_,rfl,_,rfl,a,_,_,_,rfl,rfl,SqL.of hraC,g1,oR,fun B HD SD eD=>?_⟩;have FD:=FC.same SD (az _);have SAD:b8 HA HD:=S1.trans FD.S;refine ⟨_,rfl,B,D,[m,s1],as,_,rfl,rfl,eD,FD.S _ _ hD1,keepT SAD,(fun t ht=>by obtain ⟨q,_,rfl⟩:=aG.mp ht;rfl),_,rfl,jj (fun c=>?_) (fun c=>?_)⟩
    ·have c:¬ ([m,s1]∈(stz rows).map fun q=>[q.1,q.2]):=fun z=>by
      rw [pG z] at c;cases c
     have hraD:=FD.S _ _ hra1;obtain ⟨ys,qs,hLD,_⟩:=FD.ex;refine ⟨_,rfl,.inl ⟨rfl,_,SqL.of hLD⟩,_,rfl,a,_,_,_,rfl,rfl,SqL.of hraD,aE (j:=1) rfl,_,rfl,_,rfl,a,_,_,_,rfl,rfl,SqL.of hraD,g1,oR,fun B2 HE SE eE=>?_⟩;obtain ⟨ys2,hLE,lz,FF⟩:=FD.app (m:=10 * i+(j+1)) hL SE (z:=m) (t:=[s1]) eE ⟨_,s1,j+1,xin,rfl,hs1,by lia,by show j+1+1<ss.length;lia,fun z=>c (aG.mpr ⟨_,z,rfl⟩)⟩ (by lia) (by lia);exact ⟨L,ys2,_,rfl,rfl,hLE,lz,FF,_,rfl⟩
    ·exact ⟨FD.same (b8.refl _) (by lia),_,rfl⟩
   ·rintro σ HC ⟨FC,v5,rfl⟩
    exact ⟨FC.same (b8.refl _) (by lia),_,_,rfl⟩
 ·rintro σ HB ⟨FB,v4,v5,rfl⟩
  obtain ⟨ys,qs,h1,h2,h3,h4⟩:=FB.ex;exact ⟨_,rfl,k L ys qs HB (SH1.trans FB.S) h1 h2 h3 (by lia)⟩
abbrev sPrs:cN:=top 51
theorem mW.go {n:Str}{c g:Option Int}(h:mW prs n z c g)(hg:g.isNone=false):∃ x∈lsC prs,∃ i:Nat,x.n=n∧x.ss[i]? =some z∧i+1<x.ss.length:=by
 rcases h with ⟨x,hx,i,e1,e2,e3,e4⟩ | ⟨_,_,e⟩
 ·exact ⟨x,hx,i,e1,e2,oI_some (by rw [←e4];exact hg)⟩
 ·rw [e] at hg;cases hg
theorem mW.come {n:Str}{c g:Option Int}(h:mW prs n z c g)(hg:c.isNone=false):∃ x∈lsC prs,∃ i:Nat,x.n=n∧x.ss[i]? =some z∧1≤i:=by
 rcases h with ⟨x,hx,i,e1,e2,e3,e4⟩ | ⟨_,e,_⟩
 ·exact ⟨x,hx,i,e1,e2,oI_some (c:=0<i) (by rw [←e3];exact hg)⟩
 ·rw [e] at hg;cases hg
theorem nam_ne (h:nam z=true):z≠("" :Str):=fun e=>by
 have:=(nam_len h).1;rw [e] at this;revert this;decide +kernel
def nxt (ss:List Str)(j:Nat):Str:=(ss[j+1]?).getD ""
theorem nxt_at {m:Str}{rs:List Int}(o6:ss.length=rs.length+1)(hj:j<ss.length):atI ((V.str "line" :: .str m::iG ss rs)++[.str "",.str ""]) ((2:Int)+(j:Nat) * 2+2)=some (.str (nxt ss j)):=by
 have li:(iG ss rs).length=2 * ss.length - 1:=jk o6;rw [show (2:Int)+(j:Nat) * 2+2=((2 * (j+1)+1+1:Nat):Int) by lia];refine aE ?_;unfold nxt
 by_cases c:j+1<ss.length
 ·rw [bJ (by simp only [aD];lia),aH,aH,oE (j+1) o6,gE c]
  rfl
 ·have e:j+1=ss.length:=by lia
  rw [aN (by simp only [aD];lia),e,gp (az _)];have:2 * ss.length+1+1 - (V.str "line" :: .str m::iG ss rs).length=1:=by simp only [aD];lia
  rw [this];rfl
theorem scPrs:cp ["_law_rows","_law_kind","_law_found","_law_one","_law_other","_law_k","_law_first","_law_there"] pzD (defScope sPrs):=by trivial
theorem ok_prs {fE fR:ak}{dE dR:aZ}(F:Fun K "_law_pairs" "_law_pairs" sPrs f fd)(T:Nm mg)(T2:Nt mg)(hint:mg "int" =none)(GE:Fn K mg "_law_ends" sEndW pzo fE dE)(FE:c7 P w K mg base CX0 1 fE dE pzo spEndW)
  (GR:Fn K mg "_law_ride" sRidW pzm fR dR) (FR:c7 P w K mg base CX0 1 fR dR pzm spRidW):c7 P w K mg base CX0 2 f fd pzD spPrs:=by
 refine F.ok scPrs (by contradiction) (fun cdv A outer s H vs Q E hr h=>?_);obtain ⟨R,xs,prs,kd,rfl,hR,rw_,ok,few,hkd,k⟩:=h;have hr1:jJ 1 _:=hr;refine ⟨_,PSl.h (bq ⟨(psZ 2 scPrs.nd (jK aw))⟩
  (bq ⟨(gS bS rfl (gN (pv 0)) (pgZ 3 scPrs.nd) (bB (gS bS rfl (gN (pv 0)) (pgZ 4 scPrs.nd) (bB (eX (bK nk (cH aY (pv 3) aC (fun _ _=>rfl)) (cH aY (pv 4) aC (fun _ _=>rfl)) (cb _)) (bB (gS bS rfl (ma rfl T2.range (af aC (af (bU bM rfl T.len aR (af (pv 3) aw)) (af aC aw)))) (pgZ 5 scPrs.nd) (PSl.h (bq ⟨(psZ 6 scPrs.nd (cH aY (pc1 GE FE hr1 (af (pv 0) (af (cH aY (pv 3) aC (fun _ _=>rfl)) (af (cH aY (pv 3) (pv 5) (fun _ _=>rfl)) aw)))) (eS mz rfl hint boot_int (af (jW iT (pv 1) dv (cb _)) aw)) (fun _ _=>rfl)))⟩
  (bq ⟨(ps_cutK (eX (PW.pt (lJ (bK nk (pv 1) dv (cb _)) (kq (bK op_notIn_seq gT (hI (af (pv 6) (af (cH aY (pc1 GE FE hr1 (af (pv 0) (af (cH aY (pv 4) aC (fun _ _=>rfl)) (af (cH aY (pv 3) (pv 5) (fun _ _=>rfl)) aw)))) aC (fun _ _=>rfl)) aw))) rfl)))) (bB (gD (i9 bf bE bD fj (pv 2) (af (PEs.h (mN (cS (k_ix aY ⟨pv 3⟩ jI (fun _ _=>rfl)) (cS (k_ix aY ⟨pv 4⟩ jI (fun _ _=>rfl)) (cS (k_ix aY ⟨pv 3⟩ ⟨pv 5⟩ (fun _ _=>rfl)) mD))))) aw)))) cv))⟩
  (bq ⟨(psZ 7 scPrs.nd (cH aY (cD jh (pv 3) (hI (af dv (af dv aw)))) (cD ff (pv 5) aC) (fun _ _=>rfl)))⟩
  (fu ⟨(eX (PW.pt (lJ (bK iT (pv 1) dv (cb _)) (kq (bK op_notN (pc1 GR FR hr1 (af (pv 0) (af (cH aY (pv 4) aC (fun _ _=>rfl)) (af (pv 7) (af (cH aY (pv 3) (pv 5) (fun _ _=>rfl)) aw))))) gT (cb _))))) (bB (gD (i9 bf bE bD fj (pv 2) (af (PEs.h (mN (cS (k_ix aY ⟨pv 3⟩ jI (fun _ _=>rfl)) (cS (k_ix aY ⟨pv 4⟩ jI (fun _ _=>rfl)) (cS (k_ix aY ⟨pv 3⟩ ⟨pv 5⟩ (fun _ _=>rfl)) (cS ⟨pv 7⟩ mD)))))) aw)))) cv)⟩))))))) cv)))))⟩
  (fu ⟨(bZ (pv 2))⟩))),?_⟩
 have lxs:xs.length=prs.length:=by rw [rw_.len,ae]
 have big:(1000:Nat)≤au:=by decide
 have okE:∀ r∈prs,r.okE:=fun r hr=>lnOk_E (ok r hr)
 refine ⟨(by show 0≤au;decide),fun L hL=>?_⟩;have S2:b8 H (upd H L (.lst [])):=(b8.refl H).put hL;have h2:(upd H L (.lst [])) L=some (.lst []):=aP;generalize upd H L (.lst [])=H2 at S2 h2 ⊢;have F0:Fnd H H2 L (nh prs kd) 0:=⟨S2,[],[],h2,⟨rfl,fun i r h=>by cases h⟩,(fun q hq=>by cases hq),az _⟩;refine ⟨_,rfl,R,rfl,⟨_,SqL.of (S2 _ _ hR)⟩,?_⟩;refine jP (K:=K) (a:=R) (xs:=xs) (fun i σ HB=>Fnd H HB L (nh prs kd) (310 * i)∧∃ v3 v4 v5 v6 v7,σ=[some (.ref R),some (.str kd),some (.ref L),v3,v4,v5,v6,v7])
  ⟨F0,none,none,none,none,none,rfl⟩ (fun i σ HB _ q=>SqL.of (q.1.S _ _ hR)) ?_ ?_
 ·rintro i x σ HB hx ⟨FB,v3,v4,v5,v6,v7,rfl⟩
  have hi:i<prs.length:=by rw [←lxs];exact (ah.mp hx).1
  have hp:=gE hi;have okr:=ok _ (cJ hi);obtain ⟨a,hxa,hra⟩:=rw_.get i prs[i].rowV (by rw [ax,hp];rfl);rw [hx] at hxa;cases hxa;generalize prs[i]=r at okr hra hp;cases r with
  | beat b=>exact pF okr id
  | oth kk ns is=>exact pF okr id
  | line m ss rs =>
   have xin:=lsC_at hp;obtain ⟨_,o2,nd,o4,o5,o6,_⟩:=okr;have hra:H a=some (.lst (.str "line" :: .str m::iG ss rs)):=hra;have lrow:(V.str "line" :: .str m::iG ss rs).length=2 * ss.length+1:=by rw [aD,aD,jk o6];lia
   refine ⟨_,rfl,R,rfl,⟨_,SqL.of (FB.S _ _ hR)⟩,?_⟩;refine jP (K:=K) (a:=R) (xs:=xs) (fun j σ HB=>Fnd H HB L (nh prs kd) (310 * i+10 * j)∧∃ v4 v5 v6 v7,σ=[some (.ref R),some (.str kd),some (.ref L),some (.ref a),v4,v5,v6,v7])
    ⟨FB,_,_,_,_,rfl⟩ (fun i σ HB _ q=>SqL.of (q.1.S _ _ hR)) ?_ ?_
   ·rintro j x σ HB hx2 ⟨FB,v4,v5,v6,v7,rfl⟩
    have hj:j<prs.length:=by rw [←lxs];exact (ah.mp hx2).1
    have hp2:=gE hj;have okr2:=ok _ (cJ hj);obtain ⟨b,hxb,hrb⟩:=rw_.get j prs[j].rowV (by rw [ax,hp2];rfl);rw [hx2] at hxb;cases hxb;generalize prs[j]=r at okr2 hrb hp2;cases r with
    | beat b=>exact pF okr2 id
    | oth kk ns is=>exact pF okr2 id
    | line m2 ss2 rs2 =>
     have hrb:H b=some (.lst (.str "line" :: .str m2::iG ss2 rs2)):=hrb;refine ⟨_,rfl,a,_,_,_,rfl,rfl,SqL.of (FB.S _ _ hra),aE (j:=1) rfl,_,rfl,b,_,_,_,rfl,rfl,SqL.of (FB.S _ _ hrb),aE (j:=1) rfl,rfl,_,rfl,jj (fun c=>?_) (fun c=>?_)⟩
     rotate_left
     ·exact ⟨FB.same (b8.refl _) (by lia),_,_,_,_,rfl⟩
     have ne:m≠m2:=fun z=>by
      have c:(!decide (V.str m=V.str m2))=true:=c;rw [z,pG rfl] at c;cases c
     refine ⟨_,rfl,a,_,rfl,.inl (SqL.of (FB.S _ _ hra)),2,_,rfl,⟨by decide,by decide,by rw [lrow];lia,by rw [lrow];lia⟩,?_⟩;have en:((((V.str "line" :: .str m::iG ss rs).length:Nat):Int) - 2+1) / 2=(ss.length:Int):=by rw [lrow];lia
     rw [en,eU];refine lE (lo:=2) (n:=ss.length) (fun q σ HC=>Fnd H HC L (nh prs kd) (310 * i+10 * j+2 * q)∧∃ v5 v6 v7,σ=[some (.ref R),some (.str kd),some (.ref L),some (.ref a),some (.ref b),v5,v6,v7])
      ⟨FB,_,_,_,rfl⟩ ?_ ?_
     ·rintro q σ HC hq ⟨FC,v5,v6,v7,rfl⟩
      have bnd:310 * i+10 * j+2 * (q+1)≤10000:=by lia
      obtain ⟨s1,hs1⟩:∃ s,ss[q]? =some s:=⟨_,gE (by lia)⟩;have g1:atI (V.str "line" :: .str m::iG ss rs) ((2:Int)+(q:Nat) * 2)=some (.str s1):=by
       rw [show (2:Int)+(q:Nat) * 2=((2 * q+1+1:Nat):Int) by lia];exact aE (by rw [aH,aH,oE q o6,hs1];rfl)
      refine ⟨_,rfl,_,rfl,a,_,_,_,rfl,rfl,SqL.of (FC.S _ _ hra),aE (j:=1) rfl,_,rfl,_,rfl,a,_,_,_,rfl,rfl,SqL.of (FC.S _ _ hra),g1,R,xs,prs,m,s1,rfl,FC.S _ _ hR,rw_.same FC.S,okE,by lia,fun E1 c1 g H5 S5 e5 en1=>?_⟩;have F5:=FC.same S5 (az _);refine ⟨_,rfl,rfl,.inr ⟨_,rfl,E1,_,_,oV (if kd = "apart" then g else c1),rfl,rfl,SqL.of e5,?_,?_⟩⟩
      ·by_cases z:kd = "apart"
       ·rw [pE z,pG (by rw [z])];rfl
       ·rw [pB z,pH fun y=>z (by injection y)];rfl
      generalize hfi:(if kd = "apart" then g else c1)=fi;clear e5;refine ⟨fun σ' H'=>Fnd H H' L (nh prs kd) (310 * i+10 * j+2 * q+1)∧σ'=[some (.ref R),some (.str kd),some (.ref L),some (.ref a),some (.ref b),some (.int ((2:Int)+(q:Nat) * 2)),some (oV fi),v7],fun σ' H6 qq=>?_,?_⟩
      rotate_left
      ·refine ⟨_,rfl,rfl,_,rfl,jj (fun c2=>?_) (fun c2=>?_)⟩
       rotate_left
       ·exact ⟨F5.same (b8.refl _) (by lia),rfl⟩
       have nm:kd ≠ "meet" := fun z=>by
        have c2:(!decide (V.str kd=V.str "meet"))=true:=c2;rw [z,pG rfl] at c2;cases c2
       refine ⟨_,rfl,_,rfl,_,rfl,b,_,_,_,rfl,rfl,SqL.of (F5.S _ _ hrb),aE (j:=1) rfl,_,rfl,_,rfl,a,_,_,_,rfl,rfl,SqL.of (F5.S _ _ hra),g1,R,xs,prs,m2,s1,rfl,F5.S _ _ hR,rw_.same F5.S,okE,by lia,fun E2 c3 g2 H6 S6 e6 en2=>?_⟩;have F6:=F5.same S6 (az _);refine ⟨E2,_,_,_,rfl,rfl,SqL.of e6,aE (j:=1) rfl,oR,fun B H7 S7 e7=>?_⟩;have F7:=F6.same S7 (az _);refine ⟨B,_,rfl,.inl (SqL.of e7),rfl,(by show (mS (oV fi) && (mS (oV g2) && true))=true;rw [flat_oV,flat_oV];rfl),_,rfl,jj (fun c4=>?_) (fun c4=>?_)⟩
       rotate_left
       ·exact ⟨F7.same (b8.refl _) (by lia),rfl⟩
       have c4:(!inV .non [oV fi,oV g2])=true:=c4;rw [inV_non] at c4;obtain ⟨c5,c6⟩:fi.isNone=false∧g2.isNone=false:=by
        cases hf:fi.isNone <;> cases hg:g2.isNone <;> rw [hf,hg] at c4 <;> first | exact ⟨rfl,rfl⟩ | cases c4
       obtain ⟨y,hy,jy,y1,y2,y3⟩:=en2.go c6;have pk:nh prs kd [m,m2,s1]:=by
        by_cases z:kd = "apart"
        ·rw [pE z] at hfi
         obtain ⟨x,hx,ix,x1,x2,x3⟩:=en1.go (by rw [hfi];exact c5);refine ⟨x,y,hx,hy,by rw [x1,y1];exact ne,?_⟩;rw [z,←x1,←y1];exact .apart x2 x3 y2 y3
        ·rw [pB z] at hfi
         have z2:kd = "change" := by
          rcases hkd with h | h | h
          ·exact h
          ·exact pF h z
          ·exact pF h nm
         obtain ⟨x,hx,ix,x1,x2,x3⟩:=en1.come (by rw [hfi];exact c5);refine ⟨x,y,hx,hy,by rw [x1,y1];exact ne,?_⟩;rw [z2,←x1,←y1];exact .change x2 x3 y2 y3
       obtain ⟨ys,qs,hL7,_⟩:=F7.ex;refine ⟨_,rfl,.inl ⟨rfl,_,SqL.of hL7⟩,_,rfl,a,_,_,_,rfl,rfl,SqL.of (F7.S _ _ hra),aE (j:=1) rfl,_,rfl,b,_,_,_,rfl,rfl,SqL.of (F7.S _ _ hrb),aE (j:=1) rfl,_,rfl,_,rfl,a,_,_,_,rfl,rfl,SqL.of (F7.S _ _ hra),g1,(by show 3≤au;decide),fun B2 H8 S8 e8=>?_⟩;obtain ⟨ys2,hLE,lz,FF⟩:=F7.app (m:=310 * i+10 * j+2 * q+1) hL S8 (z:=m) (t:=[m2,s1]) e8 pk (by lia) (by lia);exact ⟨L,ys2,_,rfl,rfl,hLE,lz,FF,rfl⟩
      obtain ⟨F6,rfl⟩:=qq;clear F5 S5;refine ⟨_,rfl,oR,fun C H7 S7 e7=>?_⟩;have F7:=F6.same S7 (az _);refine ⟨a,C,_,_,rfl,rfl,F7.S _ _ hra,e7,(by rw [lrow];show 2 * ss.length+1+2≤au;lia),fun D H8 S8 e8=>?_⟩;have F8:=F7.same S8 (az _);refine ⟨_,rfl,_,_,rfl,rfl,D,_,_,_,rfl,rfl,SqL.of e8,nxt_at o6 hq,?_⟩;refine ⟨_,rfl,rfl,_,rfl,jj (fun c2=>?_) (fun c2=>?_)⟩
      rotate_left
      ·exact ⟨F8.same (b8.refl _) (by lia),_,_,_,rfl⟩
      have c2:kd = "meet" := by have:=pI c2;injection this
      refine ⟨_,rfl,_,rfl,b,_,_,_,rfl,rfl,SqL.of (F8.S _ _ hrb),aE (j:=1) rfl,_,rfl,_,rfl,_,rfl,a,_,_,_,rfl,rfl,SqL.of (F8.S _ _ hra),g1,R,xs,prs,m2,nxt ss q,s1,rfl,F8.S _ _ hR,rw_.same F8.S,okE,by lia,fun o H9 S9 rd=>?_⟩;have F9:=F8.same S9 (az _);refine ⟨rfl,_,rfl,jj (fun c3=>?_) (fun c3=>?_)⟩
      rotate_left
      ·exact ⟨F9.same (b8.refl _) (by lia),_,_,_,rfl⟩
      have c3:(!decide (oV o=V.non))=true:=c3;rw [oV_non] at c3;have pk:nh prs kd [m,m2,s1,nxt ss q]:=by
       rcases rd with ⟨y,hy,jy,u,y1,y2,y3,y4,y5⟩ | ⟨_,e⟩
       ·have ny:nam (nxt ss q)=true:=by
         obtain ⟨iy,hiy⟩:=bR (lsC_mem hy).1;exact (ok _ (ay hiy)).2.1 _ (ay y2)
        have hq1:q+1<ss.length:=by
         by_cases c:q+1<ss.length
         ·exact c
         ·refine pF ?_ (nam_ne ny)
          unfold nxt;rw [gp (by lia)];rfl
        obtain ⟨r1,hr1⟩:∃ r,rs[q]? =some r:=⟨_,gE (by lia)⟩;have hn:ss[q+1]? =some (nxt ss q):=by unfold nxt;rw [gE hq1];rfl
        refine ⟨_,y,xin,hy,by rw [y1];exact ne,?_⟩;rw [c2,←y1];exact .meet (x:=⟨m,ss,rs,[],gf (lsC (prs.take i))⟩) hs1 hn hr1 y2 y3 y4
       ·rw [e] at c3;cases c3
      obtain ⟨ys,qs,hL9,_⟩:=F9.ex;refine ⟨_,rfl,.inl ⟨rfl,_,SqL.of hL9⟩,_,rfl,a,_,_,_,rfl,rfl,SqL.of (F9.S _ _ hra),aE (j:=1) rfl,_,rfl,b,_,_,_,rfl,rfl,SqL.of (F9.S _ _ hrb),aE (j:=1) rfl,_,rfl,_,rfl,a,_,_,_,rfl,rfl,SqL.of (F9.S _ _ hra),g1,_,rfl,szZ4,fun B2 Ha Sa ea=>?_⟩;obtain ⟨ys2,hLE,lz,FF⟩:=F9.app (m:=310 * i+10 * j+2 * (q+1)) hL Sa (z:=m) (t:=[m2,s1,nxt ss q]) ea pk (by lia) (by lia);exact ⟨L,ys2,_,rfl,rfl,hLE,lz,FF,_,_,_,rfl⟩
     ·rintro σ HC ⟨FC,v5,v6,v7,rfl⟩
      exact ⟨FC.same (b8.refl _) (by lia),_,_,_,_,rfl⟩
   ·rintro σ HB ⟨FB,v4,v5,v6,v7,rfl⟩
    exact ⟨FB.same (b8.refl _) (by rw [lxs];lia),_,_,_,_,_,rfl⟩
 ·rintro σ HB ⟨FB,v3,v4,v5,v6,v7,rfl⟩
  obtain ⟨ys,qs,h1,h2,h3,h4⟩:=FB.ex;exact ⟨_,rfl,k L ys qs HB FB.S h1 h2 h3 (by lia)⟩
abbrev sMor:cN:=top 53
def MoreOk (b:Int)(prs rows:List PR):PR→Prop
 | .oth k ns is=>(k = "stay" ∧∃ (x:Ln) (z:Str) (l o w:Int) (i:Nat),x∈lsC prs∧ns=[x.n,z]∧is=[l,o,w]∧x.ss[i]? =some z∧1≤i∧i+1<x.ss.length∧(x.n,z) ∉ stz rows∧NumOk b l o w)∨(k ≠ "stay" ∧BwOk b prs k ns is)
 | _=>False
inductive spMor (vs:List V)(H:Hp)(Q:VK)(_:XK):Prop
 | mk (p:ak)(n b:Int)(R R2:ak)(xs x2:List V)(prs rows:List PR)(_:vs=[.ref p,.int b,.ref R,.ref R2])(_:H p=some (.lst [.int n]))(_:(1≤b∧b≤10 ^ 30))(_:H R=some (.lst xs))(_:kQ H xs (prs.map PR.rowV))(_:oQ prs)(_:H R2=some (.lst x2))(_:kQ H x2 (rows.map PR.rowV))(_:(∀ r∈rows,r.okI))(_:rows.length≤100)(_:(∀ H',Mv p H H'→Q .non H'))(_:∀ (L:ak) (r:PR) (H':Hp),Mv p H H'→H' L=some (.lst r.rowV)→MoreOk b prs rows r→Q (.ref L) H')
theorem okI_two (h:r.okI):2≤r.rowV.length:=by
 cases r with
 | line n ss rs=>exact rowV_two h
 | beat b=>exact pF h id
 | oth k ns is =>
  obtain ⟨_,h2,_⟩:=h;show 2≤(ns.map V.str++is.map V.int).length+1;rw [aj,ae];lia
theorem nm_one (nd:(ls.map (·.n)).Nodup){x y:Ln}(hx:x∈ls)(hy:y∈ls)(e:x.n=y.n):x=y:=by
 obtain ⟨i,hi⟩:=bR hx;obtain ⟨j,hj⟩:=bR hy;have h1:(ls.map (·.n))[i]? =some x.n:=by rw [ax,hi];rfl
 have h2:(ls.map (·.n))[j]? =some x.n:=by rw [ax,hj,e];rfl
 have:=iU nd h1 h2;subst this;rw [hi] at hj;exact bu hj
theorem Ride.of (L:oQ prs){x:Ln}{y:Str}{r:Int}{o:Option Int}(hx:x∈lsC prs)(h1:x.ss[i]? =some z)(h2:x.ss[i+1]? =some y)(h3:x.rs[i]? =some r)(R:Ride prs x.n z y o):o=some r:=by
 rcases R with ⟨x',hx',i',r',e1,e2,e3,e4,e5⟩ | ⟨no,_⟩
 ·have ex:=nm_one (L.rows 1).nd hx' hx e1
  subst ex;have nd:x'.ss.Nodup:=((L.rows 1).lnOk hx').2.2.1;have:=iU nd e2 h1;subst this;rw [e4] at h3;rw [e5,h3]
 ·exact pF h2 (no x hx rfl i h1)
theorem ride_bd (L:oQ prs){x:Ln}{r:Int}(hx:x∈lsC prs)(h:x.rs[i]? =some r):0≤r∧r<10 ^ 12:=((L.rows 1).lnOk hx).2.2.2.2.2.2 r (ay h)
theorem lst_si {s:Str}{n:Int}:HO.lst [.str s]≠HO.lst [.int n]:=fun z=>by injection z with z;injection z with z;cases z
theorem scMor:cp ["_law_pot_here","_law_beat","_law_lines_here","_law_rows","_law_kind","_law_inner_here","_law_some","_law_row","_law_room","_law_gap"] pzu (defScope sMor):=by trivial
theorem ok_mor {fT fI fS fP fR:ak}{dT dI dS dP dR:aZ}(F:Fun K "_law_more_row" "_law_more_row" sMor f fd)(T:Nm mg)(T2:Nt mg)(GT:Fn K mg "_law_take" sTake pze fT dT)
  (GI:Fn K mg "_law_inner" sInn pzC fI dI) (FI:c7 P w K mg base CX0 1 fI dI pzC spInn)
  (GS:Fn K mg "_law_span_words" sSpw pzB fS dS) (FS:c7 P w K mg base CX0 2 fS dS pzB spSpw)
  (GP:Fn K mg "_law_pairs" sPrs pzD fP dP) (FP:c7 P w K mg base CX0 2 fP dP pzD spPrs)
  (GR:Fn K mg "_law_ride" sRidW pzm fR dR) (FR:c7 P w K mg base CX0 1 fR dR pzm spRidW):c7 P w K mg base CX0 3 f fd pzu spMor:=by
 have FT:c7 P w K mg base CX0 1 fT dT pze nX:=mM GT.F;refine F.ok scMor (by contradiction) (fun cdv A outer s H vs Q E hr h=>?_);obtain ⟨p,n,b,R,R2,xs,x2,prs,rows,rfl,hp,⟨b1,b2⟩,hR,rw_,lok,hR2,rw2,ok2,few2,kN,kR⟩:=h;have hr1:jJ 1 _:=hr.mono (by decide);have hr2:jJ 2 _:=hr;refine exw_of (bq (tw_set (i:=4) scMor.nd rfl (.inl rfl) (k_ix aY (mN (cS k7 (cS k7 (cS k7 (cS k7 (cS k7 (cS k7 mD))))))) ⟨pc1 GT FT hr1 (af (pv 0) (af aC aw))⟩ (fun _ _=>rfl)))
  (bq (tw_if (bK iT (pv 4) dv (cb _)) (bq ⟨(psZ 5 scMor.nd (pc1 GI FI hr1 (af (pv 2) (af (pv 3) aw))))⟩
  (bq (tw_if (bK (op_eqL0 hr.units0) (pv 5) (hI aw) (cb _)) (fu ⟨(bZ gT)⟩) oq)
  (fu ⟨(bZ (cD jh (cD jh (hI (af dv aw)) (cH aY (pv 5) (pc1 GT FT hr1 (af (pv 0) (af (bU bM rfl T.len aR (af (pv 5) aw)) aw))) (fun _ _=>rfl))) (pc1 GS FS hr2 (af (pv 0) (af (pv 1) aw)))))⟩))) oq)
  (bq ⟨(psZ 6 scMor.nd (pc1 GP FP hr2 (af (pv 2) (af (pv 4) aw))))⟩
  (bq (tw_if (bK (op_eqL0 hr.units0) (pv 6) (hI aw) (cb _)) (fu ⟨(bZ gT)⟩) oq)
  (bq ⟨(psZ 7 scMor.nd (cD jh (hI (af (pv 4) aw)) (cH aY (pv 6) (pc1 GT FT hr1 (af (pv 0) (af (bU bM rfl T.len aR (af (pv 6) aw)) aw))) (fun _ _=>rfl))))⟩
  (bq (tw_if (bK iT (pv 4) dv (cb _)) (fu ⟨(bZ (cD jh (pv 7) (pc1 GS FS hr2 (af (pv 0) (af (pv 1) aw)))))⟩) oq)
  (bq ⟨(psZ 8 scMor.nd (pv 1))⟩
  (bq (tw_if (bK iT (pv 4) dv (cb _)) (bq ⟨(psZ 8 scMor.nd (cD gv (pv 1) (pc1 GR FR hr1 (af (pv 2) (af (cH aY (pv 7) aC (fun _ _=>rfl)) (af (cH aY (pv 7) aC (fun _ _=>rfl)) (af (cH aY (pv 7) aC (fun _ _=>rfl)) aw)))))))⟩
  (fu ⟨(psZ 8 scMor.nd (cD gv (pv 8) (pc1 GR FR hr1 (af (pv 2) (af (cH aY (pv 7) aC (fun _ _=>rfl)) (af (cH aY (pv 7) aC (fun _ _=>rfl)) (af (cH aY (pv 7) aC (fun _ _=>rfl)) aw)))))))⟩)) oq)
  (bq ⟨(psZ 9 scMor.nd (pc1 GT FT hr1 (af (pv 0) (af (bU (call_max2 rfl) rfl T2.max boot_max (af aC (af (cD ff (cD op_fdiv (pv 8) aC) aC) aw))) aw))))⟩
  (bq (tw_if (PW.pt (j6 (bK oS (pv 8) (cD jL aC (pv 9)) (cb _)) (je (bK op_ge (cD gv (pv 8) (cD jL aC (pv 9))) (pv 1) (cb _))))) (fu ⟨(bZ gT)⟩) oq)
  (fu ⟨(bZ (cD jh (pv 7) (hI (af (pv 9) aw))))⟩))))))))))) ?_
 have big:(100000:Nat)≤au:=by decide
 have two:∀ r∈prs.map PR.rowV,2≤r.length:=fun r hr=>by
  obtain ⟨q,hq,rfl⟩:=aG.mp hr;exact rowV_two (lok.ok q hq)
 have two2:∀ r∈rows.map PR.rowV,2≤r.length:=fun r hr=>by
  obtain ⟨q,hq,rfl⟩:=aG.mp hr;exact okI_two (ok2 q hq)
 have nR:=rw_.nep hp hR;have nR2:=rw2.nep hp hR2;have okE:∀ r∈prs,r.okE:=fun r hr=>lnOk_E (lok.ok r hr)
 have fewp:=lok.few;have gets:∀ {H':Hp},Mv p H H'→H' R=some (.lst xs)∧kQ H' xs (prs.map PR.rowV)∧H' R2=some (.lst x2)∧kQ H' x2 (rows.map PR.rowV):=fun M=>⟨M.1 _ _ nR hR,rw_.mv M hp two,M.1 _ _ nR2 hR2,rw2.mv M hp two2⟩
 refine ⟨(by show 6≤au;decide),fun B H1 S1 e1=>?_⟩;have M1:Mv p H H1:=Mv.of S1 (S1 _ _ hp);refine ⟨_,rfl,p,n,6,rfl,S1 _ _ hp,by decide,by decide,fun r H2 a0 a1 M2'=>?_⟩;have e2:=M2'.1 _ _ (de e1 (S1 _ _ hp) (iq (by simp))) e1;have M2:=M1.trans M2';obtain ⟨v,ev,mv⟩:=oO (xs:=[V.str "stay",.str "change",.str "apart",.str "meet",.str "change",.str "stay"]) a0 (by show r<6;lia);obtain ⟨kd,rfl,hkd⟩:∃ kd:Str,v= .str kd∧(kd = "stay" ∨kd = "change" ∨kd = "apart" ∨kd = "meet"):=by
  simp only [av,aL,or_false] at mv
  rcases mv with rfl | rfl | rfl | rfl | rfl | rfl <;> exact ⟨_,rfl,by simp⟩
 refine ⟨B,_,_,_,rfl,rfl,SqL.of e2,ev,?_⟩;clear e1 e2 ev mv M2' M1 S1;obtain ⟨n2,hp2⟩:=M2.2;obtain ⟨gR,gw,gR2,gw2⟩:=gets M2;refine ⟨_,rfl,rfl,_,rfl,jj (fun c1=>?_) (fun c1=>?_)⟩
 ·refine ⟨_,rfl,_,rfl,R,R2,xs,x2,prs,rows,rfl,gR,gw,lok.ok,lok.few,gR2,gw2,ok2,few2,fun L ys qs H3 S3 e3 rw3 ok3 l3=>?_⟩
  refine ⟨_,rfl,(by show 0≤au;decide),fun Em H4 S4 e4=>?_⟩;have M4:Mv p H H4:=M2.then (S3.trans S4);refine ⟨L,Em,ys,rfl,rfl,SqL.of (S4 _ _ e3),SqL.of e4,_,rfl,jj (fun _=>kN H4 M4) (fun c2=>?_)⟩;have ly:ys.length=qs.length:=by rw [rw3.len,ae]
  have ne:0<ys.length:=by
   cases ys with
   | nil=>exact pF rfl c2
   | cons _ _=>simp
  refine ⟨szZ1,fun C H5 S5 e5=>?_⟩;have M5:=M4.then S5;obtain ⟨n5,hp5⟩:=M5.2;have rw5:=rw3.same (S4.trans S5);have e35:=(S4.trans S5) _ _ e3;have nL:=rw5.nep hp5 e35;refine ⟨_,rfl,_,rfl,_,rfl,L,_,rfl,.inl (SqL.of e35),p,n5,_,rfl,hp5,(by show (0:Int)<(ys.length:Int);lia),(by show (ys.length:Int)<10 ^ 61;lia),fun r6 H6 c60 c61 M6'=>?_⟩;obtain ⟨j,rfl⟩:=cF c60;have c61:(j:Int)<(ys.length:Int):=c61;have hj:j<qs.length:=by lia
  have M6:=M5.trans M6';obtain ⟨x,z,i,hx,eq,x1,x2,x3,x4⟩:=ok3 _ (cJ hj);obtain ⟨a,hya,hra⟩:=rw5.get j (qs[j].map V.str) (by rw [ax,gE hj];rfl);rw [eq] at hra;have hra6:=M6'.1 _ _ (de hra hp5 (iq (by simp))) hra;have e56:=M6'.1 _ _ (de e5 hp5 lst_si) e5;refine ⟨L,_,_,_,rfl,rfl,SqL.of (M6'.1 _ _ nL e35),aE hya,C,a,_,_,rfl,rfl,e56,hra6,(by show 1+2≤au;lia),fun D H7 S7 e7=>?_⟩;have M7:=M6.then S7;obtain ⟨n7,hp7⟩:=M7.2;refine ⟨_,rfl,_,rfl,p,n7,b,rfl,hp7,b1,b2,fun E2 l o wt H8 M8' e8 num=>?_⟩;have e78:=M8'.1 _ _ (de e7 hp7 (iq (by simp))) e7;refine ⟨D,E2,_,_,rfl,rfl,e78,e8,(by show 3+3≤au;lia),fun F2 H9 S9 e9=>?_⟩;exact kR F2 (.oth "stay" [x.n,z] [l,o,wt]) H9 ((M7.trans M8').then S9) e9 (.inl ⟨rfl,x,z,l,o,wt,i,hx,rfl,rfl,x1,x2,x3,x4,num⟩)
 have hkd:kd = "change" ∨kd = "apart" ∨kd = "meet" := by
  rcases hkd with h | h
  ·exact pF (pG (by rw [h])) c1
  ·exact h
 refine ⟨_,rfl,_,rfl,R,xs,prs,kd,rfl,gR,gw,lok.ok,lok.few,hkd,fun L ys qs H3 S3 e3 rw3 ok3 l3=>?_⟩;refine ⟨_,rfl,(by show 0≤au;decide),fun Em H4 S4 e4=>?_⟩;have M4:Mv p H H4:=M2.then (S3.trans S4);refine ⟨L,Em,ys,rfl,rfl,SqL.of (S4 _ _ e3),SqL.of e4,_,rfl,jj (fun _=>kN H4 M4) (fun c2=>?_)⟩;have ly:ys.length=qs.length:=by rw [rw3.len,ae]
 have ne:0<ys.length:=by
  cases ys with
  | nil=>exact pF rfl c2
  | cons _ _=>simp
 refine ⟨_,rfl,szZ1,fun C H5 S5 e5=>?_⟩;have M5:=M4.then S5;obtain ⟨n5,hp5⟩:=M5.2;have rw5:=rw3.same (S4.trans S5);have e35:=(S4.trans S5) _ _ e3;have nL:=rw5.nep hp5 e35;refine ⟨_,rfl,_,rfl,_,rfl,L,_,rfl,.inl (SqL.of e35),p,n5,_,rfl,hp5,(by show (0:Int)<(ys.length:Int);lia),(by show (ys.length:Int)<10 ^ 61;lia),fun r6 H6 c60 c61 M6'=>?_⟩;obtain ⟨j,rfl⟩:=cF c60;have c61:(j:Int)<(ys.length:Int):=c61;have hj:j<qs.length:=by lia
 have M6:=M5.trans M6';obtain ⟨x,y,hx,hy,nxy,pr⟩:=ok3 _ (cJ hj);obtain ⟨a,hya,hra⟩:=rw5.get j (qs[j].map V.str) (by rw [ax,gE hj];rfl);have e56:=M6'.1 _ _ (de e5 hp5 lst_si) e5;refine ⟨L,_,_,_,rfl,rfl,SqL.of (M6'.1 _ _ nL e35),aE hya,?_⟩;generalize qs[j]=q at pr hra;clear hya ok3 rw3 rw5 e35 e3 c2 ne ly l3 hkd c1 e5 M5 S5 M4 S4 S3 gR gw gR2 gw2 M2;cases pr with
 | @change z i j' h1 h2 h3 h4 =>
  have hra6:=M6'.1 _ _ (de hra hp5 (iq (by simp))) hra;refine ⟨C,a,_,_,rfl,rfl,e56,hra6,(by show 1+3≤au;lia),fun D H7 S7 e7=>?_⟩;have M7:=M6.then S7;obtain ⟨n7,hp7⟩:=M7.2;refine ⟨_,rfl,rfl,_,rfl,oA (pG rfl) ?_⟩;refine ⟨_,rfl,_,rfl,_,rfl,p,n7,b,rfl,hp7,b1,b2,fun E2 l o wt H8 M8' e8 num=>?_⟩;have e78:=M8'.1 _ _ (de e7 hp7 (iq (by simp))) e7;refine ⟨D,E2,_,_,rfl,rfl,e78,e8,(by show 4+3≤au;lia),fun F2 H9 S9 e9=>?_⟩;obtain ⟨u1,u2,u3,u4,u5,u6⟩:=num;exact kR F2 (.oth "change" [x.n,y.n,z] [l,o,wt]) H9 ((M7.trans M8').then S9) e9 (.inr ⟨by trivial,_,⟨x,y,hx,hy,nxy,.change (l:=l) (o:=o) (w:=wt) h1 h2 h3 h4⟩,⟨u1,u2,u3,u4,u5,u6⟩,fun i hi=>by
   simp only [av,aL,or_false] at hi
   rcases hi with rfl | rfl | rfl
   ·exact ⟨u1,by lia⟩
   ·exact ⟨by lia,by lia⟩
   ·exact ⟨u5,by lia⟩⟩)
 | @apart z i j' h1 h2 h3 h4 =>
  have hra6:=M6'.1 _ _ (de hra hp5 (iq (by simp))) hra;refine ⟨C,a,_,_,rfl,rfl,e56,hra6,(by show 1+3≤au;lia),fun D H7 S7 e7=>?_⟩;have M7:=M6.then S7;obtain ⟨n7,hp7⟩:=M7.2;refine ⟨_,rfl,rfl,_,rfl,iL (by trivial) ?_⟩;refine ⟨_,rfl,?_⟩;refine ⟨_,rfl,rfl,_,rfl,iL (by trivial) ?_⟩;refine ⟨_,rfl,_,rfl,_,_,rfl,rfl,⟨by decide,by decide⟩,_,_,rfl,rfl,_,_,rfl,p,n7,_,rfl,hp7,(by split <;> lia),(by split <;> lia),fun g H8 g0 g1 M8'=>?_⟩;have e78:=M8'.1 _ _ (de e7 hp7 (iq (by simp))) e7;have M8:=M7.trans M8';refine ⟨_,rfl,_,rfl,_,_,rfl,rfl,.inl ⟨by decide,by decide⟩,_,_,rfl,rfl,_,rfl,jj (fun _=>kN H8 M8) (fun c3=>?_)⟩;have c3:2 * g≤b:=by
   have:¬ (b<2 * g):=fun z=>c3 (pG z)
   lia
  refine ⟨_,rfl,_,rfl,_,_,rfl,rfl,.inl ⟨by decide,by decide⟩,_,_,rfl,rfl,_,rfl,_,_,rfl,rfl,_,rfl,jj (fun _=>kN H8 M8) (fun c4=>?_)⟩;have c4:b - 2 * g<b:=by
   have:¬ (b≤b - 2 * g):=fun z=>c4 (pG z)
   lia
  refine ⟨_,rfl,_,rfl,szZ1,fun G H9 S9 e9=>?_⟩;refine ⟨D,G,_,_,rfl,rfl,S9 _ _ e78,e9,(by show 4+1≤au;lia),fun F2 Ha Sa ea=>?_⟩;exact kR F2 (.oth "apart" [x.n,y.n,z] [g]) Ha (M8.then (S9.trans Sa)) ea (.inr ⟨by trivial,_,⟨x,y,hx,hy,nxy,.apart (d:=g) h1 h2 h3 h4⟩,⟨g0,by dsimp only;lia,by dsimp only;lia,by dsimp only;lia,by dsimp only;decide,by dsimp only;decide⟩,fun i hi=>by
   rw [aB.mp hi];exact ⟨g0,by lia⟩⟩)
 | @meet z z2 r u i j' h1 h2 h3 h4 h5 h6 =>
  have hra6:=M6'.1 _ _ (de hra hp5 (iq (by simp))) hra;refine ⟨C,a,_,_,rfl,rfl,e56,hra6,(by show 1+4≤au;lia),fun D H7 S7 e7=>?_⟩;have M7:=M6.then S7;refine ⟨_,rfl,rfl,_,rfl,iL (by trivial) ?_⟩;refine ⟨_,rfl,?_⟩;refine ⟨_,rfl,rfl,_,rfl,oA (pG rfl) ?_⟩;obtain ⟨gR,gw,_,_⟩:=gets M7;have bx:=ride_bd lok hx h3;have b_y:=ride_bd lok hy h6;refine ⟨_,rfl,_,rfl,_,rfl,D,_,_,_,rfl,rfl,SqL.of e7,aE (j:=1) rfl,_,rfl,D,_,_,_,rfl,rfl,SqL.of e7,aE (j:=3) rfl,_,rfl,D,_,_,_,rfl,rfl,SqL.of e7,aE (j:=4) rfl,R,xs,prs,x.n,z,z2,rfl,gR,gw,okE,by lia,fun o1 H8 S8 rd1=>?_⟩;rw [rd1.of lok hx h1 h2 h3];have e78:=S8 _ _ e7;have M8:=M7.then S8;obtain ⟨gR,gw,_,_⟩:=gets M8;refine ⟨_,_,rfl,rfl,_,rfl,_,rfl,_,rfl,D,_,_,_,rfl,rfl,SqL.of e78,aE (j:=2) rfl,_,rfl,D,_,_,_,rfl,rfl,SqL.of e78,aE (j:=4) rfl,_,rfl,D,_,_,_,rfl,rfl,SqL.of e78,aE (j:=3) rfl,R,xs,prs,y.n,z2,z,rfl,gR,gw,okE,by lia,fun o2 H9 S9 rd2=>?_⟩;rw [rd2.of lok hy h4 h5 h6];have e79:=S9 _ _ e78;have M9:=M8.then S9;obtain ⟨n9,hp9⟩:=M9.2;refine ⟨_,_,rfl,rfl,?_⟩;obtain ⟨room,er⟩:∃ room,b - r - u=room:=⟨_,rfl⟩;have hro:room≤b:=by lia
  refine ⟨_,rfl,_,rfl,_,_,rfl,rfl,⟨by decide,by decide⟩,_,_,rfl,rfl,_,_,rfl,p,n9,_,rfl,hp9,(by split <;> lia),(by show (if (b - r - u) / 2+1 > 1 then (b - r - u) / 2+1 else 1)<10 ^ 61;split <;> lia),fun g H8 g0 g1 M8'=>?_⟩;have e78:=M8'.1 _ _ (de e79 hp9 (iq (by simp))) e79;have Ma:=M9.trans M8';refine ⟨_,rfl,_,rfl,_,_,rfl,rfl,.inl ⟨by decide,by decide⟩,_,_,rfl,rfl,_,rfl,jj (fun _=>kN H8 Ma) (fun c3=>?_)⟩;have c3:2 * g≤b - r - u:=by
   have:¬ (b - r - u<2 * g):=fun z=>c3 (pG z)
   lia
  refine ⟨_,rfl,_,rfl,_,_,rfl,rfl,.inl ⟨by decide,by decide⟩,_,_,rfl,rfl,_,rfl,_,_,rfl,rfl,_,rfl,jj (fun _=>kN H8 Ma) (fun c4=>?_)⟩;have c4:b - r - u - 2 * g<b:=by
   have:¬ (b≤b - r - u - 2 * g):=fun z=>c4 (pG z)
   lia
  refine ⟨_,rfl,_,rfl,szZ1,fun G H9 S9 e9=>?_⟩;refine ⟨D,G,_,_,rfl,rfl,S9 _ _ e78,e9,(by show 5+1≤au;lia),fun F2 Hb Sb eb=>?_⟩;exact kR F2 (.oth "meet" [x.n,y.n,z,z2] [g]) Hb (Ma.then (S9.trans Sb)) eb (.inr ⟨by trivial,_,⟨x,y,hx,hy,nxy,.meet (d:=g) h1 h2 h3 h4 h5 h6⟩,⟨by dsimp only;lia,by dsimp only;lia,by dsimp only;lia,by dsimp only;lia,by dsimp only;decide,by dsimp only;decide⟩,fun i hi=>by
   rw [aB.mp hi];exact ⟨g0,by lia⟩⟩)
end HN
namespace L2
open PySem PySem.Spec PyProof.Rows
def kh:List Int→Int
 | []=>0
 | [a]=>a
 | a::b::l=>if a > kh (b::l) then a else kh (b::l)
theorem great_ok:∀ (l:List Int),l≠[]→kh l∈l∧∀ a∈l,a≤kh l
 | [],h=>pF rfl h
 | [a],_=>⟨by simp [kh],fun x hx=>by rw [aB.mp hx];exact iB _⟩
 | a::b::l,_=>by
  obtain ⟨h1,h2⟩:=great_ok (b::l) (by simp);show (if a > kh (b::l) then a else kh (b::l))∈a::b::l∧∀ x∈a::b::l,x≤(if a > kh (b::l) then a else kh (b::l));split
  ·refine ⟨bG ..,fun x hx=>?_⟩
   rcases av.mp hx with rfl | hx
   ·exact iB _
   ·have:=h2 x hx;lia
  ·refine ⟨aO _ h1,fun x hx=>?_⟩
   rcases av.mp hx with rfl | hx
   ·lia
   ·exact h2 x hx
theorem call_max1 (hc:X.calm=true):iK X (.builtin "max") (fun xs H Q=>∃ (p:ak) (ns:List Int),xs=[.ref p]∧SqL X.K H p (ns.map V.int)∧ns≠[]∧Q (.int (kh ns)) H):=by
 intro aI s σ H xs us Q I r h;obtain ⟨p,ns,rfl,hq,hne,q⟩:=h;obtain ⟨u,rfl,ru⟩:=lG r;cases (show u=ag.ref p from ru);obtain ⟨its,rv,pl,hz⟩:=I.list hq;have hi:=ints_are rv;obtain ⟨ys,hx⟩:=hi.allInts.items;have hl':s.heap.IsList p (intItems ys):=hx ▸ pl.isList;have e1:ns=ys.toList.map (·.1):=by
  rw [←nums_intItems,←hx];exact (show numsOf its.toArray.toList=ns from hi.numsOf).symm
 have hsz:0<ys.size:=by
  have:0<ns.length:=List.length_pos_iff.mpr hne;rw [e1,ae,fK] at this;exact this
 refine max_intList (I.ok.hd hc) hl' hsz fun v h' tk hv hk=>?_
 obtain ⟨t,rfl⟩:=intItems_at hv;obtain ⟨b1,b2⟩:=argBest_gt (numAt ys) (ys.size - 1);obtain ⟨l1,l2⟩:=great_ok ns hne;have m1:numAt ys (argBest (fun i j=>decide (numAt ys i > numAt ys j)) (ys.size - 1))∈ns:=by
  rw [e1,numAt_eq];exact getD_mem (by rw [ae,fK];lia)
 have m2:numAt ys (argBest (fun i j=>decide (numAt ys i > numAt ys j)) (ys.size - 1))=kh ns:=by
  refine Int.le_antisymm (l2 _ m1) ?_;have l3:kh ns∈ys.toList.map (·.1):=by rw [←e1];exact l1
  obtain ⟨j,hj,e⟩:=mem_getD l3;rw [ae,fK] at hj;rw [←e,←numAt_eq];exact b2 j (by lia)
 rw [m2];exact ⟨.int (kh ns),H,I.kept (t':=tk) hk,⟨t,rfl⟩,q⟩
end L2
namespace HN
open PySem L2 PyProof.Rows HT2
abbrev sPln:cN:=top 54
theorem lsC_idx:∀ {rows:List PR} {x:Ln},x∈lsC rows→∃ i,rows[i]? =some (.line x.n x.ss x.rs)∧∀ m,i<m→x∈lsC (rows.take m):=by
 intro rows
 induction rows using snocI with
 | h0=>intro x h;cases h
 | h1 rs r ih =>
  intro x h;have old:x∈lsC rs→∃ i,(rs++[r])[i]? =some (.line x.n x.ss x.rs)∧∀ m,i<m→x∈lsC ((rs++[r]).take m):=fun h=>by
   obtain ⟨i,h1,h2⟩:=ih h;have li:=(ah.mp h1).1;refine ⟨i,by rw [bJ li];exact h1,fun m hm=>?_⟩
   by_cases c:m≤rs.length
   ·rw [gO c];exact h2 m hm
   ·rw [bN (by rw [aj];show rs.length+1≤m;lia)]
    exact lsC_sub [r] rs h
  rw [gj] at h;cases r with
  | beat b=>exact old h
  | oth k ns is=>exact old h
  | line n ss rs' =>
   rcases bg.mp h with h | h
   ·exact old h
   ·rw [aB.mp h]
    refine ⟨rs.length,by rw [aN (az _),dJ];rfl,fun m hm=>?_⟩;rw [bN (by rw [aj];show rs.length+1≤m;lia),gj];exact bp _ (aB.mpr rfl)
theorem lH.okI (h:lH b pre r):r.okI:=by
 cases r with
 | beat b=>exact h
 | line n ss rs=>exact h.2
 | oth k ns is =>
  rcases h with ⟨rfl,x,z,l,o,w,i,_,rfl,_⟩ | ⟨hk,sn,⟨x,y,_,_,_,B⟩,_⟩
  ·exact ⟨by trivial,az _,fun _=>rfl⟩
  ·refine ⟨(bt_kind B).2.1,?_,fun z=>pF z hk⟩
   cases B <;> simp
theorem gn.okI (h:gn b rows):∀ r∈rows,r.okI:=fun r hr=>by
 obtain ⟨i,hi⟩:=bR hr;exact (h i r hi).okI
theorem MoreOk.wds (h:MoreOk b prs rows r):∃ (k w1 w2:Str) (t:List V),r.rowV= .str k:: .str w1:: .str w2::t∧r.isL=false∧(∃ x∈lsC prs,x.n=w1)∧(∀ p,r.sty2=some p→p ∉ stz rows) ∧
  (∀ m,(∀ x∈lsC prs,x.n=w1∨x.n=w2→x∈lsC (rows.take m))→lH b (rows.take m) r)∧r.spn=(if k = "stay" then 0 else 1):=by
 cases r with
 | beat b=>exact pF h id
 | line n ss rs=>exact pF h id
 | oth k ns is =>
  rcases h with ⟨rfl,x,z,l,o,w,i,hx,rfl,rfl,h1,h2,h3,h4,h5⟩ | ⟨hk,sn,⟨x,y,hx,hy,ne,B⟩,num,wi⟩
  ·refine ⟨"stay",x.n,z,[.int l,.int o,.int w],rfl,rfl,⟨x,hx,rfl⟩,fun p hp=>?_,fun m hm=> .inl ⟨rfl,x,z,l,o,w,i,hm x hx (.inl rfl),rfl,rfl,h1,h2,h3,fun q=>h4 ?_,h5⟩,rfl⟩
   ·have:(some (x.n,z):Option (Str×Str))=some p:=by rw [←hp];unfold PR.sty2;exact (pE rfl).symm
    cases this;exact h4
   ·obtain ⟨r',hr',e'⟩:=gW.mp q
    exact gW.mpr ⟨r',jU hr',e'⟩
  ·obtain ⟨t,et⟩:∃ t,ns=x.n::y.n::t:=by cases B <;> exact ⟨_,rfl⟩
   refine ⟨k,x.n,y.n,t.map V.str++is.map V.int,by rw [et];rfl,rfl,⟨x,hx,rfl⟩,fun p hp=>?_,fun m hm=> .inr ⟨hk,sn,⟨x,y,hm x hx (.inl rfl),hm y hy (.inr rfl),ne,B⟩,num,wi⟩,rfl⟩;exfalso;have e:(PR.oth k ns is).sty2=none:=by
    unfold PR.sty2;split
    ·next h=>cases h;exact pB hk
    ·rfl
   rw [e] at hp;cases hp
theorem kQ.ins {H:Hp}{xs:List V}{rows:List (List V)}{B:ak}{r:List V}{m:Nat}(h:kQ H xs rows)(hm:m≤rows.length)(hB:H B=some (.lst r)):kQ H (xs.take m++[.ref B]++xs.drop m) (rows.take m++r::rows.drop m):=⟨by
  have:=h.len;simp only [aj,aU,bV,aD,iZ];lia,fun i q hq=>by
 have l:=h.len;have lt:(rows.take m).length=m:=by rw [aU];lia
 have lx:(xs.take m).length=m:=by rw [aU];lia
 rcases gx i m with c | c | c
 ·rw [bJ (by lia),dG c] at hq
  obtain ⟨a,h1,h2⟩:=h.get i q hq;exact ⟨a,by rw [bJ (by rw [aj];lia),bJ (by lia),dG c];exact h1,h2⟩
 ·subst c
  rw [aN (by lia),lt,dJ,List.getElem?_cons_zero] at hq;cases hq;exact ⟨B,by rw [bJ (by rw [aj];show i<(xs.take i).length+1;lia),aN (by lia),lx,dJ];rfl,hB⟩
 ·obtain ⟨j,rfl⟩:∃ j,i=m+1+j:=⟨i - m - 1,by lia⟩
  rw [aN (by lia),lt,show m+1+j - m=j+1 by lia,aH,dQ] at hq;obtain ⟨a,h1,h2⟩:=h.get _ q hq;have l3:(xs.take m++[V.ref B]).length=m+1:=by rw [aj,lx];rfl
  exact ⟨a,by rw [aN (by lia),l3,show m+1+j - (m+1)=j by lia,dQ];exact h1,h2⟩⟩
theorem spn_ins (rows:List PR)(r:PR)(m:Nat):mG (rows.take m++r::rows.drop m)=mG rows+r.spn:=by
 have e:mG rows=mG (rows.take m)+mG (rows.drop m):=by
  conv=>lhs;rw [←dF m rows]
  unfold mG;rw [aq,g9]
 rw [e];unfold mG;rw [aq,g9,aT,dq];lia
theorem spn_lines:∀ {prs:List PR},(∀ r∈prs,r.lnOk)→(prs.map fun r=>((r.rowV.length:Nat):Int) - 4).sum=((mG prs:Nat):Int)
 | [],_=>rfl
 | r::prs,h=>by
  have ih:=spn_lines (prs:=prs) fun q hq=>h q (aO _ hq)
  have o:=h r bG;rw [aT,dq,ih];unfold mG;rw [aT,dq];cases r with
  | beat b=>exact pF o id
  | oth k ns is=>exact pF o id
  | line n ss rs =>
   obtain ⟨_,_,_,o4,_,o6,_⟩:=o;have:(PR.line n ss rs).rowV.length=2 * rs.length+3:=by
    show (iG ss rs).length+1+1=_;rw [jk o6];lia
   rw [this];show ((2 * rs.length+3:Nat):Int) - 4+_=(((2 * rs.length - 1)+_:Nat):Int);lia
theorem oQ.spn (L:oQ prs):mG prs≤16:=by
 have e:=own_C prs;have b0:bwP prs=0:=by
  have:∀ {l:List PR},(∀ r∈l,r.lnOk)→bwP l=0:=by
   intro l
   induction l with
   | nil=>intro _;rfl
   | cons r l ih =>
    intro h;have o:=h r bG;have:=ih fun q hq=>h q (aO _ hq)
    unfold bwP at *;rw [aT,dq,this];cases r with
    | beat b=>rfl
    | line n ss rs=>rfl
    | oth k ns is=>exact pF o id
  exact this L.ok
 have le:∀ ls:List Ln,(ownL ls:Int)≤gf ls:=by
  intro ls
  induction ls with
  | nil=>simp [ownL,gf]
  | cons x ls ih =>
   unfold ownL gf at *;rw [aT,dq,aT,dq];lia
 have:=le (lsC prs);have:=L.hap;lia
theorem oQ.few8 (L:oQ prs):prs.length≤8:=by
 have go:∀ l:List PR,(∀ r∈l,r.lnOk)→2 * (l.length:Int)≤gf (lsC l):=by
  intro l
  induction l using snocI with
  | h0=>intro _;decide
  | h1 l r ih =>
   intro h;have i:=ih fun q hq=>h q (cB _ hq)
   have o:=h r (bp _ (aB.mpr rfl));rw [gj,aj];cases r with
   | beat b=>exact pF o id
   | oth k ns is=>exact pF o id
   | line n ss rs =>
    show 2 * ((l.length+1:Nat):Int)≤gf (lsC l++[_]);rw [jX];obtain ⟨_,_,_,o4,_,o6,_⟩:=o
    dsimp only
    lia
 have:=go prs L.ok;have:=L.hap;lia
theorem oQ.ne' (L:oQ prs):lsC prs≠[]:=fun z=>by
 have ne:=L.ne;have ok:=L.ok;cases prs with
 | nil=>exact ne rfl
 | cons r l =>
  have o:=ok r bG;cases r with
  | beat b=>exact o
  | oth k ns is=>exact o
  | line n ss rs =>
   have:=lsC_at (prs:= .line n ss rs::l) (i:=0) rfl;rw [z] at this;cases this
inductive spPln (K:ai)(vs:List V)(H:Hp)(Q:VK)(_:XK):Prop
 | mk (a:ak)(ns:List Int)(_:vs=[.ref a])(_:SqL K H a (ns.map V.int))(_:ns.length≤63)(_:∀ (q L:ak) (xs:List V) (b:Int) (rows:List PR) (H':Hp),b8 H H'→H' q=some (.tup [.int b,.ref L])→H' L=some (.lst xs)→kQ H' xs (rows.map PR.rowV)→b≤10 ^ 21→lK b rows→Q (.ref q) H')
theorem mI:cp ["_law_script","_law_pot_here","_law_beat","_law_lines_here","_law_rows","_law_many","_law_k","_law_row","_law_last","_law_at"] pzn (defScope sPln):=by trivial
theorem ok_pln {fT fP fN fL fM:ak}{dT dP dN dL dM:aZ}(F:Fun K "_law_plan" "_law_plan" sPln f fd)(T:Nm mg)(T2:Nt mg)(hint:mg "int" =none)(GT:Fn K mg "_law_take" sTake pze fT dT)
  (GP:Fn K mg "_law_pot" sPotT pzf fP dP) (FP:c7 P w K mg base CX0 2 fP dP pzf (spPotT K))
  (GN:Fn K mg "_law_names" sNms pzy fN dN) (FN:c7 P w K mg base CX0 2 fN dN pzy spNms)
  (GL:Fn K mg "_law_lines" sLns pzA fL dL) (FL:c7 P w K mg base CX0 3 fL dL pzA (spLns K))
  (GM:Fn K mg "_law_more_row" sMor pzu fM dM) (FM:c7 P w K mg base CX0 3 fM dM pzu spMor):c7 P w K mg base CX0 4 f fd pzn (spPln K):=by
 have FT:c7 P w K mg base CX0 1 fT dT pze nX:=mM GT.F;refine F.ok mI (by contradiction) (fun cdv A outer s H vs Q E hr h=>?_);obtain ⟨a,ns,rfl,ha,lns,k⟩:=h;have hr1:jJ 1 _:=hr.mono (by decide);have hr2:jJ 2 _:=hr.mono (by decide);have hr3:jJ 3 _:=hr;refine ⟨_,PSl.h (bq ⟨(psZ 1 mI.nd (pc1 GP FP hr2 (af (pv 0) (af aC aw))))⟩
  (bq ⟨(psZ 2 mI.nd (cD ff aC (pc1 GT FT hr1 (af (pv 1) (af (PEs.h (k_ix aY (mN (cS jI (cS jI (cS jI (cS (k_op op_pow jI jI) mD))))) ⟨pc1 GT FT hr1 (af (pv 1) (af aC aw))⟩ (fun _ _=>rfl))) aw)))))⟩
  (bq ⟨(psZ 3 mI.nd (pc1 GL FL hr3 (af (pv 0) (af (pc1 GN FN hr2 (af (pc1 GP FP hr2 (af (pv 0) (af aC aw))) (af aC aw))) (af (pc1 GN FN hr2 (af (pv 1) (af aC aw))) (af aC aw))))))⟩
  (bq ⟨(psZ 4 mI.nd (eS call_listA rfl T2.tlist boot_list (af (pv 3) aw)))⟩
  (bq ⟨(psZ 5 mI.nd (bU (call_sum rfl) rfl T2.sum boot_sum (af (jH (fr:=[]) (js:=[]) rfl (gN (pv 3)) (by trivial) rfl (by trivial) rfl (by exists sPln) (by trivial) rfl (by trivial) (fun _ _ _ _ _=>⟨(cD gv (bU (lenK K) rfl T.len aR (af (pv 0) aw)) aC),jg⟩)) aw)))⟩
  (bq ⟨(gS bS rfl (pi_range2 rfl T2.range (af aC (af (bU (oN rfl) rfl T.min boot_min (af (bU bM rfl T.len aR (af (pv 0) aw)) (af aC aw))) aw))) (pgZ 6 mI.nd) (PSl.h (bq ⟨(psZ 1 mI.nd (pc1 GP FP hr2 (af (pv 0) (af (pv 6) aw))))⟩
  (bq ⟨(psZ 7 mI.nd (pc1 GM FM hr3 (af (pv 1) (af (pv 2) (af (pv 3) (af (pv 4) aw))))))⟩
  (fu ⟨(eX (PW.pt (lJ (bK op_notN (pv 7) gT (cb _)) (kq (bK oS (pv 5) aC (cb _))))) (PSl.h (bq ⟨(psZ 8 mI.nd (bU (call_max1 rfl) rfl T2.max boot_max (af (jH (fr:=["_law_row","_law_rows"]) (js:=[7,4]) rfl (kE rfl T2.range (af (bU bM rfl T.len aR (af (pv 4) aw)) aw)) (by trivial) rfl (by trivial) rfl (by exists sPln) (by trivial) rfl (by trivial) (fun _ _ _ _ _=>⟨(pv 0),(pts_one (PW.pt (lJ (bK iT (cH (r:=rIxL K) aY (cH (r:=rIxL K) aY (pv 2) (pv 0) (fun _ _=>rfl)) aC (fun _ _=>rfl)) dv (cb _)) (kq (bK (r:=rIn K false) kX (cH (r:=rIxL K) aY (cH (r:=rIxL K) aY (pv 2) (pv 0) (fun _ _=>rfl)) aC (fun _ _=>rfl)) (eZ (sl_listK K) (pv 1) (fD aC) (fD aC)) rfl)))))⟩)) aw)))⟩
  (bq ⟨(psZ 9 mI.nd (cD ff (cD ff (pv 8) aC) (pc1 GT FT hr1 (af (pv 1) (af (cD gv (bU bM rfl T.len aR (af (pv 4) aw)) (pv 8)) aw)))))⟩
  (bq ⟨(psZ 4 mI.nd (cD jh (cD jh (eZ iD (pv 4) gM (fD (pv 9))) (hI (af (pv 7) aw))) (eZ iD (pv 4) (fD (pv 9)) gM)))⟩
  (fu ⟨(psZ 5 mI.nd (cD ff (pv 5) (eS mz rfl hint boot_int (af (jW nk (cH aY (pv 7) aC (fun _ _=>rfl)) dv (cb _)) aw))))⟩))))) cv)⟩)))))⟩
  (fu ⟨(bZ (eP (af (pv 2) (af (pv 4) aw))))⟩))))))),?_⟩
 have sq:∀ {H':Hp},b8 H H'→SqL K H' a (ns.map V.int):=fun S=>SqL.kept' S ha
 have big:(100000:Nat)≤au:=by decide
 refine ⟨_,rfl,a,ns,1,rfl,ha,by decide,by decide,fun m1 p1 hp1=>?_⟩;have S1:b8 H (upd H p1 (.lst [.int m1])):=b8.put (b8.refl H) hp1;have h1:(upd H p1 (.lst [.int m1])) p1=some (.lst [.int m1]):=aP;generalize upd H p1 (.lst [.int m1])=H1 at S1 h1 ⊢;refine ⟨_,rfl,_,_,rfl,rfl,⟨by decide,by decide,by decide⟩,szZ4,fun B H2 S2 e2=>?_⟩;refine ⟨_,rfl,p1,m1,4,rfl,S2 _ _ h1,by decide,by decide,fun r H3 a0 a1 M3=>?_⟩;have e3:=M3.1 _ _ (de e2 (S2 _ _ h1) (iq (by simp))) e2;obtain ⟨v,ev,mv⟩:=oO (xs:=[V.int 60,.int 60,.int 10,.int (10 ^ 20)]) a0 (by show r<4;lia);obtain ⟨Mx,rfl,Mx1,Mx2⟩:∃ M:Int,v= .int M∧1≤M∧M≤10 ^ 20:=by
  simp only [av,aL,or_false] at mv
  rcases mv with rfl | rfl | rfl | rfl
  ·exact ⟨_,rfl,by decide,by decide⟩
  ·exact ⟨_,rfl,by decide,by decide⟩
  ·exact ⟨_,rfl,by decide,by decide⟩
  ·exact ⟨_,rfl,by decide,by decide⟩
 obtain ⟨n3,hp3⟩:=M3.2;refine ⟨B,_,_,_,rfl,rfl,SqL.of e3,ev,p1,n3,Mx,rfl,hp3,by lia,by lia,fun r4 H4 b0 b1 M4=>⟨_,_,rfl,rfl,?_⟩⟩;obtain ⟨b,eb⟩:∃ b,1+r4=b:=⟨_,rfl⟩;have hb1:1≤b:=by lia
 have hb2:b≤10 ^ 20+1:=by lia
 show mR 2 (V.int (1+r4)) _ _ _;rw [eb];have M14:Mv p1 H1 H4:=((Mv.of S2 (S2 _ _ h1)).trans M3).trans M4;have S4:b8 H H4:=b8.mv S1 hp1 M14;obtain ⟨n4,hp4⟩:=M14.2;clear M14 M4 M3 e2 e3 ev mv S2 S1 h1 hp3;refine ⟨_,rfl,_,rfl,a,ns,2,rfl,sq S4,by decide,by decide,fun m5 p5 hp5=>?_⟩;have S5:b8 H4 (upd H4 p5 (.lst [.int m5])):=b8.put (b8.refl H4) hp5;have h5:(upd H4 p5 (.lst [.int m5])) p5=some (.lst [.int m5]):=aP;generalize upd H4 p5 (.lst [.int m5])=H5 at S5 h5 ⊢;refine ⟨p5,m5,4,rfl,h5,by decide,fun N nn H6 M6 hN ln ndN okN=>?_⟩;have S6:b8 H4 H6:=b8.mv S5 hp5 M6;refine ⟨_,rfl,p1,n4,8,rfl,S6 _ _ hp4,by decide,fun S ss H7 M7 hS ls ndS okS=>?_⟩;have hN7:=M7.1 _ _ (de hN (S6 _ _ hp4) (iq (by rw [ae,ln];simp))) hN;have S7:b8 H H7:=b8.mv (S4.trans S6) hp1 M7;refine ⟨a,N,S,ns,nn,ss,4,rfl,sq S7,hN7,ndN,okN,hS,⟨by lia,by lia⟩,ndS,okS,by decide,by rw [ln];decide,by lia,fun LL x0 prs H8 S8 _ hLL rw0 lok=>?_⟩;have SH8:=S7.trans S8;clear hN7 S7 M7 S6 M6 h5 S5 hp4 S4 hN hS S8 hp5;refine ⟨_,rfl,LL,x0,rfl,.inl (SqL.of hLL),fun R0 H9 S9 hR0=>?_⟩;have SH9:=SH8.trans S9;have lx0:x0.length=prs.length:=by rw [rw0.len,ae]
 have fewp:=lok.few8;refine ⟨_,rfl,LL,rfl,⟨_,SqL.of (S9 _ _ hLL)⟩,?_⟩;refine iW (K:=K) (a:=LL) (xs:=x0) (fun i zs HA=>HA=H9∧zs=((prs.take i).map fun r=>((r.rowV.length:Nat):Int) - 4).map V.int) ⟨rfl,rfl⟩ (fun i zs HA hi q=>?_) (by lia) (fun i x zs HA hx q=>?_) (fun zs HA q D hD=>?_)
 ·obtain ⟨rfl,g2⟩:=q
  exact ⟨SqL.of (S9 _ _ hLL),by rw [g2,ae,ae,aU];lia⟩
 ·obtain ⟨rfl,g2⟩:=q
  have hi:i<prs.length:=by rw [←lx0];exact (ah.mp hx).1
  obtain ⟨c,hxc,hrc⟩:=rw0.get i prs[i].rowV (by rw [ax,gE hi];rfl);rw [hx] at hxc;cases hxc;refine ie ?_;refine ⟨_,rfl,c,_,rfl,.inl (SqL.of (S9 _ _ hrc)),_,_,rfl,rfl,rfl,?_⟩;rw [g2,aW,gE hi,aq,aq];rfl
 obtain ⟨rfl,g2⟩:=q;rw [lx0,bI] at g2;have Sa:b8 HA (upd HA D (.lst zs)):=(b8.refl HA).put hD;have ha':(upd HA D (.lst zs)) D=some (.lst ((prs.map fun r=>((r.rowV.length:Nat):Int) - 4).map V.int)):=by rw [aP,g2]
 generalize upd HA D (.lst zs)=H10 at Sa ha' ⊢;refine ⟨D,_,rfl,SqL.of ha',?_⟩;rw [spn_lines lok.ok];have SH10:=SH9.trans Sa;have hR10:=Sa _ _ hR0;have hLL10:=Sa _ _ (S9 _ _ hLL);have rw10:=rw0.same (S9.trans Sa);clear Sa ha' g2 hD S9 SH9 hR0 hLL rw0;refine ⟨_,rfl,a,_,rfl,.inl (sq SH10),_,_,rfl,8,_,rfl,⟨by decide,by decide,by rw [ae];split <;> lia,by rw [ae];split <;> lia⟩,?_⟩;rw [ae];have nst:((if (63:Int)<(ns.length:Int) then (63:Int) else (ns.length:Int)) - 8).toNat≤55:=by split <;> lia
 generalize ((if (63:Int)<(ns.length:Int) then (63:Int) else (ns.length:Int)) - 8).toNat=nst' at nst ⊢;have spl:=lok.spn;refine mr (lo:=8) (n:=nst') (fun i σ HA=>b8 H10 HA∧∃ (R:ak) (xs:List V) (rows:List PR),HA R=some (.lst xs)∧kQ HA xs (rows.map PR.rowV)∧gn b rows∧lsC rows=lsC prs∧mG rows≤40∧rows.length≤8+i∧∃ v1 v6 v7 v8 v9,σ=[some (.ref a),v1,some (.int b),some (.ref LL),some (.ref R),some (.int (mG rows:Nat)),v6,v7,v8,v9])
  ⟨b8.refl _,R0,x0,prs,hR10,rw10,lok.rows b,rfl,by lia,by lia,_,_,_,_,_,rfl⟩ ?_ ?_
 ·rintro i σ HA hi ⟨SA,R,xs,rows,hR,rwA,okA,eC,spA,lA,v1,v6,v7,v8,v9,rfl⟩
  refine ⟨_,rfl,_,rfl,a,ns,_,rfl,sq (SH10.trans SA),by lia,by lia,fun mb pb hpb=>?_⟩;have Sb:b8 HA (upd HA pb (.lst [.int mb])):=b8.put (b8.refl HA) hpb;have hb:(upd HA pb (.lst [.int mb])) pb=some (.lst [.int mb]):=aP;generalize upd HA pb (.lst [.int mb])=HB at Sb hb ⊢;have okI:=okA.okI;have lx:xs.length=rows.length:=by rw [rwA.len,ae]
  refine ⟨_,rfl,_,rfl,_,rfl,_,rfl,pb,mb,b,LL,R,x0,xs,prs,rows,rfl,hb,⟨hb1,by lia⟩,(SA.trans Sb) _ _ hLL10,rw10.same (SA.trans Sb),lok,Sb _ _ hR,rwA.same Sb,okI,by lia,fun HC MC=>?_,fun Lr r HC MC eL mo=>?_⟩
  ·refine ⟨_,rfl,rfl,_,rfl,iL rfl ?_⟩
   have SC:b8 HA HC:=b8.mv Sb hpb MC;exact ⟨SA.trans SC,R,xs,rows,SC _ _ hR,rwA.same SC,okA,eC,spA,by lia,_,_,_,_,_,rfl⟩
  ·have SC:b8 HA HC:=b8.mv Sb hpb MC
   have rwC:=rwA.same SC;have hRC:=SC _ _ hR;refine ⟨_,rfl,rfl,_,rfl,oA rfl ?_⟩;refine ⟨_,rfl,_,_,rfl,rfl,_,rfl,jj (fun c1=>?_) (fun c1=>?_)⟩
   rotate_left
   ·exact ⟨SA.trans SC,R,xs,rows,hRC,rwC,okA,eC,spA,by lia,_,_,_,_,_,rfl⟩
   have c1:(mG rows:Int)<40:=pI c1;obtain ⟨kd,w1,w2,t,er,nl,⟨x1,hx1,ex1⟩,fs,mk,sr⟩:=mo.wds;rw [er] at eL;refine ⟨_,rfl,R,_,rfl,.inl (SqL.of hRC),_,rfl,by lia,by lia,?_⟩;rw [eU,lx];refine mV (lo:=0) (n:=rows.length) (fun t zs HD=>b8 HC HD∧∃ js:List Int,zs=js.map V.int∧js.length≤t∧(∀ j∈js,0≤j∧j<rows.length)∧∀ (u:Nat),u<t→∀ n ss rs,rows[u]? =some (.line n ss rs)→n=w1∨n=w2→(u:Int)∈js)
    ⟨b8.refl _,[],rfl,az _,(fun j hj=>by cases hj),(fun u hu=>pF hu (Nat.not_lt_zero _))⟩ (fun t zs HD _ q=>by obtain ⟨_,js,e,hl,_⟩:=q;rw [e,ae];exact hl) (by lia) (fun t zs HD ht q=>?_) (fun zs HD q D2 hD2=>?_)
   ·obtain ⟨SD,js,rfl,lj,bj,cj⟩:=q
    obtain ⟨c,hxc,hrc⟩:=rwC.get t rows[t].rowV (by rw [ax,gE ht];rfl);have hrt:=gE ht;have hrc:=SD _ _ hrc;have hRD:=SD _ _ hRC;have i0:atI xs (0+(t:Int))=some (.ref c):=by rw [Int.zero_add];exact aE hxc
    have nxt':∀ {HE:Hp},b8 HC HE→(∀ n ss rs,rows[t]? =some (.line n ss rs)→n=w1∨n=w2→False)→b8 HC HE∧∃ js2:List Int,js.map V.int=js2.map V.int∧js2.length≤t+1∧(∀ j∈js2,0≤j∧j<rows.length)∧∀ (u:Nat),u<t+1→∀ n ss rs,rows[u]? =some (.line n ss rs)→n=w1∨n=w2→(u:Int)∈js2:=fun SE no=>⟨SE,js,rfl,by lia,bj,fun u hu n ss rs e1 e2=>by
     rcases iX.mp hu with hu | hu
     ·exact cj u hu n ss rs e1 e2
     ·subst hu;exact pF e2 (no n ss rs e1)⟩
    generalize rows[t]=rr at hrc hrt;cases rr with
    | beat b'=>exact pF (okI _ (ay hrt)) id
    | oth k' ns' is' =>
     have kl:k' ≠ "line" := (okI _ (ay hrt)).1;have hrc:HD c=some (.lst (.str k'::(ns'.map V.str++is'.map V.int))):=hrc;refine ⟨_,rfl,_,rfl,R,_,_,_,rfl,rfl,SqL.of hRD,i0,c,_,_,_,rfl,rfl,SqL.of hrc,aE (j:=0) rfl,rfl,_,rfl,iL (pH fun z=>kl (by injection z)) ?_⟩;exact nxt' SD fun n ss rs e _=>by rw [hrt] at e;cases e
    | line n' ss' rs' =>
     have hrc:HD c=some (.lst (.str "line" :: .str n'::iG ss' rs')):=hrc;refine ⟨_,rfl,_,rfl,R,_,_,_,rfl,rfl,SqL.of hRD,i0,c,_,_,_,rfl,rfl,SqL.of hrc,aE (j:=0) rfl,rfl,_,rfl,oA (pG rfl) ?_⟩;refine ⟨_,rfl,_,rfl,R,_,_,_,rfl,rfl,SqL.of hRD,i0,c,_,_,_,rfl,rfl,SqL.of hrc,aE (j:=1) rfl,_,rfl,_,rfl,_,rfl,Lr,_,rfl,SqL.of (SD _ _ eL),fun W HE SE eE=>?_⟩;rw [cut13] at eE;have SE2:=SD.trans SE;refine ⟨W,_,rfl,.inl (SqL.of eE),rfl,rfl,_,rfl,?_⟩;show if inV (.str n') (([w1,w2]:List Str).map V.str)=true then _ else _;rw [inV_str];refine jj (fun c2=>?_) (fun c2=>?_)
     ·refine ⟨_,rfl,SE2,js++[(0+(t:Int))],by rw [aq];rfl,by rw [aj];show js.length+1≤t+1;lia,fun j hj=>?_,fun u hu n ss rs e1 e2=>?_⟩
      ·rcases bg.mp hj with hj | hj
       ·exact bj j hj
       ·rw [aB.mp hj];lia
      ·rcases iX.mp hu with hu | hu
       ·exact cB _ (cj u hu n ss rs e1 e2)
       ·subst hu;exact bp _ (aB.mpr (by lia))
     ·exact nxt' SE2 fun n ss rs e e2=>by
       rw [hrt] at e;cases e;refine c2 (pG ?_)
       rcases e2 with rfl | rfl <;> simp
   obtain ⟨SD,js,rfl,lj,bj,cj⟩:=q;have all:∀ x∈lsC prs,x.n=w1∨x.n=w2→∃ u:Nat,(u:Int)∈js∧∀ m,u<m→x∈lsC (rows.take m):=fun x hx e=>by
    rw [←eC] at hx;obtain ⟨u,e1,e2⟩:=lsC_idx hx;exact ⟨u,cj u (ah.mp e1).1 _ _ _ e1 e,e2⟩
   obtain ⟨u1,hu1,_⟩:=all x1 hx1 (.inl ex1);have jne:js≠[]:=fun z=>by rw [z] at hu1;cases hu1
   obtain ⟨gm,gle⟩:=great_ok js jne;have SDe:b8 HC (upd HD D2 (.lst (js.map V.int))):=SD.put hD2;have hDe:(upd HD D2 (.lst (js.map V.int))) D2=some (.lst (js.map V.int)):=aP;generalize upd HD D2 (.lst (js.map V.int))=HE at SDe hDe ⊢;refine ⟨D2,js,rfl,SqL.of hDe,jne,?_⟩;obtain ⟨g0,g1⟩:=bj _ gm;generalize kh js=la at gm gle g0 g1 ⊢;obtain ⟨la,rfl⟩:=cF g0;have ME:=MC.then SDe;obtain ⟨nE,hpE⟩:=ME.2;have hRE:=SDe _ _ hRC;refine ⟨_,rfl,_,_,rfl,rfl,_,rfl,_,rfl,R,_,rfl,.inl (SqL.of hRE),_,rfl,_,_,rfl,rfl,pb,nE,_,rfl,hpE,(by show (0:Int)<(xs.length:Int) - (la:Int);lia),(by show (xs.length:Int) - (la:Int)<10 ^ 61;lia),fun r5 HF r50 r51 MF=>⟨_,_,rfl,rfl,?_⟩⟩;have r51:r5<(xs.length:Int) - (la:Int):=r51;obtain ⟨r5,rfl⟩:=cF r50;obtain ⟨m,em⟩:∃ m:Nat,(la:Int)+1+(r5:Int)=(m:Int):=⟨la+1+r5,by lia⟩;have hm:la<m:=by lia
   have hm2:m≤rows.length:=by lia
   show mR 9 (V.int ((la:Int)+1+(r5:Int))) _ _ _;rw [em];have SF:b8 HA HF:=b8.mv (Sb) hpb (ME.trans MF);have hRF:=SF _ _ hR;have rwF:=rwA.same SF;have eLF:=MF.1 _ _ (de (SDe _ _ eL) hpE (iq (by simp))) (SDe _ _ eL);refine ⟨_,rfl,_,rfl,_,rfl,R,_,rfl,SqL.of hRF,fun A1 HG SG eG=>?_⟩;rw [cutU (i:=(m:Int)) (n:=m) rfl] at eG;refine ⟨_,rfl,szZ1,fun A2 HI SI eI=>?_⟩;refine ⟨A1,A2,_,_,rfl,rfl,SI _ _ eG,eI,(by rw [aU];show _+1≤au;lia),fun A3 HJ SJ eJ=>?_⟩;refine ⟨_,rfl,_,rfl,_,rfl,R,_,rfl,SqL.of ((SG.trans (SI.trans SJ)) _ _ hRF),fun A4 HK SK eK=>?_⟩;rw [cutF (i:=(m:Int)) (n:=m) rfl] at eK;refine ⟨A3,A4,_,_,rfl,rfl,SK _ _ eJ,eK,(by rw [aj,aU,bV];show _+1+_≤au;lia),fun A5 HL SL eL5=>?_⟩;have SFL:b8 HF HL:=SG.trans (SI.trans (SJ.trans (SK.trans SL)));have eLL:=SFL _ _ eLF;refine ⟨_,rfl,_,rfl,Lr,_,_,_,rfl,rfl,SqL.of eLL,aE (j:=0) rfl,rfl,.inr ⟨_,rfl,_,_,rfl,rfl,?_⟩⟩;have rwL:=(rwF.same SFL).ins (m:=m) (by rw [ae];exact hm2) (B:=Lr) (r:=r.rowV) (by rw [er];exact eLL);refine ⟨SA.trans (SF.trans SFL),A5,_,rows.take m++r::rows.drop m,eL5,?_,okA.ins hm2 nl (mk m fun x hx e=>?_) fs,?_,?_,?_,some (.ref pb),some (.int (8+(i:Nat))),some (.ref Lr),some (.int (la:Nat)),some (.int (m:Nat)),?_⟩
   ·rw [aq,aT,jQ,gb]
    exact rwL
   ·obtain ⟨u,h1,h2⟩:=all x hx e
    have:=gle _ h1;exact h2 m (by lia)
   ·rw [lsC_ins nl,dF];exact eC
   ·rw [spn_ins,sr];split <;> lia
   ·rw [aj,aD,aU,bV];lia
   ·have e5:(mG rows:Int)+(if (!decide (V.str kd=V.str "stay"))=true then 1 else 0)=((mG (rows.take m++r::rows.drop m):Nat):Int):=by
     rw [spn_ins,sr]
     by_cases z:kd = "stay"
     ·rw [pE z,z,pG rfl];rfl
     ·rw [pB z,pH fun y=>z (by injection y)];rfl
    show [some (V.ref a),some (V.ref pb),some (V.int b),some (V.ref LL),some (V.ref A5),some (V.int ((mG rows:Int)+(if (!decide (V.str kd=V.str "stay"))=true then 1 else 0))),_,_,_,_]=_;rw [e5]
 ·rintro σ HA ⟨SA,R,xs,rows,hR,rwA,okA,eC,spA,lA,v1,v6,v7,v8,v9,rfl⟩
  refine ⟨_,rfl,_,rfl,oR,fun q HB SB eB=>?_⟩;exact k q R xs b rows HB (SH10.trans (SA.trans SB)) eB (SB _ _ hR) (rwA.same SB) (by lia) ⟨hb1,okA,by rw [eC];exact lok.hap,spA,by lia,by rw [eC];exact lok.ne'⟩
def NetOk (z:Str)(b:Int)(ls:List Ln)(bt:List Sn):Prop:=∃ (z0:Str) (zr:List (Str×PR)),z.length≤100000∧cM z nl_=z0::zr.map (·.1)∧zr.length≤80∧z0.length≤100000∧cM z0 sp_=[("beat" :Str),j3 b]∧W60 b ∧
 (∀ q∈zr,q.1.length≤100000∧q.2.wds (cM q.1 sp_))∧Runs b [] [] (.beat b::zr.map (·.2)) ls bt∧ls≠[]
theorem intr_evs1:∀ {ss:List Str} {rs:List Int},ss.length=rs.length+1→evs ((iG ss rs).drop 1)=rs.map V.int
 | [],_,h=>by simp at h
 | [_],[],_=>rfl
 | _::_::_,[],h=>by simp at h
 | s::[],r::rs,h=>by simp at h
 | s::u::ss,r::rs,h=>by
  have hl:(u::ss).length=rs.length+1:=by simpa using h
  have ih:=intr_evs1 hl
  match ss,rs,hl,ih with
  | [],[],_,_=>rfl
  | [],_::_,hl,_=>simp at hl
  | _::_,[],hl,_=>simp at hl
  | v::ss,q::rs,hl,ih =>
   show V.int r::evs ((iG (u::v::ss) (q::rs)).drop 1)=_;rw [ih];rfl
theorem intr_wok:∀ {ss:List Str} {rs:List Int},(∀ s∈ss,nam s=true)→(∀ r∈rs,W60 r)→∀ v∈iG ss rs,WOk v
 | [],_,_,_,v,hv=>by cases hv
 | s::ss,[],h1,h2,v,hv=>by
  have:v= .str s:=by
   have e:iG (s::ss) []=[.str s]:=by cases ss <;> rfl
   rw [e] at hv;exact aB.mp hv
  rw [this];exact .inl ⟨s,rfl,h1 s bG⟩
 | s::ss,r::rs,h1,h2,v,hv=>by
  have hv:v∈V.str s:: .int r::iG ss rs:=hv
  rcases av.mp hv with rfl | hv
  ·exact .inl ⟨s,rfl,h1 s bG⟩
  ·rcases av.mp hv with rfl | hv
   ·exact .inr ⟨r,rfl,h2 r bG⟩
   ·exact intr_wok (fun x hx=>h1 x (aO _ hx)) (fun x hx=>h2 x (aO _ hx)) v hv
theorem lnOk_W {n:Str}{rs:List Int}(h:(PR.line n ss rs).lnOk):∀ r∈rs,W60 r:=fun r hr=>by
 obtain ⟨_,_,_,_,_,_,h7⟩:=h;have:=h7 r hr;exact ⟨this.1,by lia⟩
theorem lH.oth {k:Str}(h:lH b pre (.oth k ns is))(hp:∀ x∈lsC pre,(PR.line x.n x.ss x.rs).lnOk):nam k=true∧(k,ns.length,is.length)∈fms∧(∀ z∈ns,nam z=true)∧(∀ i∈is,W60 i)∧ns.length+is.length≤6:=by
 rcases h with ⟨rfl,x,z,l,o,w,i,hx,rfl,rfl,h1,_,_,_,u1,u2,u3,u4,u5,u6⟩ | ⟨hk,sn,⟨x,y,hx,hy,ne,B⟩,_,wi⟩
 ·obtain ⟨n1,n2,_⟩:=hp x hx
  refine ⟨by trivial,by simp [fms],fun q hq=>?_,fun q hq=>?_,by simp⟩
  ·simp only [av,aL,or_false] at hq
   rcases hq with rfl | rfl
   ·exact n1
   ·exact n2 _ (ay h1)
  ·simp only [av,aL,or_false] at hq
   rcases hq with rfl | rfl | rfl
   ·exact ⟨u1,by lia⟩
   ·exact ⟨by lia,u4⟩
   ·exact ⟨u5,by lia⟩
 ·obtain ⟨n1,n2,_⟩:=hp x hx
  obtain ⟨m1,m2,_⟩:=hp y hy;cases B with
  | change h1 h2 h3 h4 =>
   refine ⟨by trivial,by simp [fms],fun q hq=>?_,wi,by simp⟩;simp only [av,aL,or_false] at hq
   rcases hq with rfl | rfl | rfl
   ·exact n1
   ·exact m1
   ·exact n2 _ (ay h1)
  | apart h1 h2 h3 h4 =>
   refine ⟨by trivial,by simp [fms],fun q hq=>?_,wi,by simp⟩;simp only [av,aL,or_false] at hq
   rcases hq with rfl | rfl | rfl
   ·exact n1
   ·exact m1
   ·exact n2 _ (ay h1)
  | meet h1 h2 h3 h4 h5 h6 =>
   refine ⟨by trivial,by simp [fms],fun q hq=>?_,wi,by simp⟩;simp only [av,aL,or_false] at hq
   rcases hq with rfl | rfl | rfl | rfl
   ·exact n1
   ·exact m1
   ·exact n2 _ (ay h1)
   ·exact n2 _ (ay h2)
theorem lH.wok (h:lH b pre r)(hp:∀ x∈lsC pre,(PR.line x.n x.ss x.rs).lnOk):r.rowV≠[]∧r.rowV.length≤12∧(∀ v∈r.rowV,WOk v)∧r.wds (r.rowV.map wdS):=by
 cases r with
 | beat b=>exact pF h id
 | line n ss rs =>
  have w:=lnOk_W h.2;obtain ⟨_,h1,h2,h3,h4,h5,h6,h7⟩:=h;have li:(iG ss rs).length=2 * ss.length - 1:=jk h6;refine ⟨by show _::_≠[];simp,by show (iG ss rs).length+1+1≤12;lia,fun v hv=>?_,rfl,⟨?_,?_,?_,rfl,?_,?_,h1,h2,w⟩⟩
  ·have hv:v∈V.str "line" :: V.str n::iG ss rs:=hv
   rcases av.mp hv with rfl | hv
   ·exact .inl ⟨_,rfl,by trivial⟩
   ·rcases av.mp hv with rfl | hv
    ·exact .inl ⟨_,rfl,h1⟩
    ·exact intr_wok h2 w v hv
  ·rw [ae];show 5≤(iG ss rs).length+1+1;lia
  ·rw [ae];show (iG ss rs).length+1+1≤100000;lia
  ·rw [ae];show ((iG ss rs).length+1+1) % 2=1;lia
  ·show evs ((iG ss rs).map wdS)=ss
   rw [←oH,nM h6,bO];show ss.map id=ss;rw [List.map_id]
  ·show evs (((iG ss rs).map wdS).drop 1)=rs.map j3
   rw [←gb,←oH,intr_evs1 h6,bO];rfl
 | oth k ns is =>
  obtain ⟨k1,k2,k3,k4,k5⟩:=h.oth hp;refine ⟨by show _::_≠[];simp,by show (ns.map V.str++is.map V.int).length+1≤12;rw [aj,ae,ae];lia,fun v hv=>?_,?_,k2,k3,k4⟩
  ·have hv:v∈V.str k::(ns.map V.str++is.map V.int):=hv
   rcases av.mp hv with rfl | hv
   ·exact .inl ⟨_,rfl,k1⟩
   ·rcases bg.mp hv with hv | hv
    ·obtain ⟨z,hz,rfl⟩:=aG.mp hv
     exact .inl ⟨z,rfl,k3 z hz⟩
    ·obtain ⟨z,hz,rfl⟩:=aG.mp hv
     exact .inr ⟨z,rfl,k4 z hz⟩
  ·show k::(ns.map V.str++is.map V.int).map wdS=_
   rw [aq,bO,bO];show k::(ns.map id++is.map j3)=_;rw [List.map_id]
theorem gn.wok (h:gn b rows):∀ r∈rows,r.rowV≠[]∧r.rowV.length≤12∧(∀ v∈r.rowV,WOk v)∧r.wds (r.rowV.map wdS):=fun r hr=>by
 obtain ⟨i,hi⟩:=bR hr;exact (h i r hi).wok fun x hx=>(h.take i).lnOk hx
theorem lK.netR (h:lK b rows)(hb:b≤10 ^ 21)(ru:Runs b [] [] (.beat b::rows) (ig rows) bt):NetOk (planT b (rows.map PR.rowV)) b (ig rows) bt:=by
 have b1:=h.b1;have wb:W60 b:=⟨by lia,by lia⟩;have ok:=h.ok.wok;have ok2:∀ r∈rows.map PR.rowV,r.length≤12∧∀ v∈r,WOk v:=fun r hr=>by
  obtain ⟨q,hq,rfl⟩:=aG.mp hr;exact ⟨(ok q hq).2.1,(ok q hq).2.2.1⟩
 refine ⟨("beat " :Str)++j3 b,rows.map fun r=>(oX r.rowV,r),planT_len2 wb ok2 (by rw [ae];exact h.few),?_,by rw [ae];have:=h.few;lia,?_,beat_split wb,wb,fun q hq=>?_,?_,fun z=>h.ne ?_⟩
 ·rw [planT_split wb fun r hr=>(ok2 r hr).2,bO,bO]
  rfl
 ·rw [lR]
  have:=kK wb;have h5:("beat " :Str).length=5:=by trivial
  lia
 ·obtain ⟨r,hr,rfl⟩:=aG.mp hq
  obtain ⟨o1,o2,o3,o4⟩:=ok r hr;refine ⟨by have:=rowW_len2 o3 o2;show (oX r.rowV).length≤100000;lia,?_⟩;show r.wds (cM (oX r.rowV) sp_);rw [rowW_split o3 o1];exact o4
 ·rw [bO]
  show Runs b [] [] (.beat b::rows.map id) _ _;rw [List.map_id];exact ru
 ·rw [←eT,z];rfl
inductive Bts (b:Int)(cs:List Ln):List PR→List Sn→Prop
 | nil:Bts b cs [] []
 | skip {r:PR} {rs:List PR} {bt:List Sn} (h:r.bwn=0) (t:Bts b cs rs bt):Bts b cs (r::rs) bt
 | btw {k:Str} {ns:List Str} {is:List Int} {sn:Sn} {rs:List PR} {bt:List Sn} (hk:k ≠ "stay") (B:Btw b cs k ns is sn) (t:Bts b cs rs bt):Bts b cs (.oth k ns is::rs) (sn::bt)
theorem tk_core {l1:List Ln}{b1:List Sn}(h:Tk b ls bt r l1 b1):∀ x∈ls.map Ln.core,x∈l1.map Ln.core:=fun x hx=>by
 cases h with
 | beat h=>exact hx
 | line=>rw [aq];exact cB _ hx
 | btw=>exact hx
 | stay =>
  obtain ⟨y,hy,rfl⟩:=aG.mp hx;rw [bO];exact aG.mpr ⟨y,hy,nW _ _ _ _⟩
theorem runs_core:∀ {ls l2:List Ln} {bt b2:List Sn},Runs b ls bt rs l2 b2→∀ x∈ls.map Ln.core,x∈l2.map Ln.core:=by
 induction rs with
 | nil=>intro ls l2 bt b2 h x hx;cases h;exact hx
 | cons r rs ih =>
  intro ls l2 bt b2 h x hx;cases h with
  | cons tk t=>exact ih t x (tk_core tk x hx)
theorem core_bt {x y:Ln}{k:Str}(B:Bt b x y k ns is sn):Bt b x.core y.core k ns is sn:=by
 cases B with
 | change h1 h2 h3 h4=>exact .change (x:=x.core) (y:=y.core) h1 h2 h3 h4
 | apart h1 h2 h3 h4=>exact .apart (x:=x.core) (y:=y.core) h1 h2 h3 h4
 | meet h1 h2 h3 h4 h5 h6=>exact .meet (x:=x.core) (y:=y.core) h1 h2 h3 h4 h5 h6
theorem runs_bts {cs:List Ln}:∀ {ls l2:List Ln} {bt b2:List Sn},Runs b ls bt rs l2 b2→(∀ x∈l2.map Ln.core,x∈cs)→∃ ys,b2=bt++ys∧Bts b cs rs ys:=by
 induction rs with
 | nil=>intro ls l2 bt b2 h _;cases h;exact ⟨[],by rw [cG],.nil⟩
 | cons r rs ih =>
  intro ls l2 bt b2 h hc;cases h with
  | cons tk t =>
   obtain ⟨ys,e,B⟩:=ih t hc;have mono:∀ x∈ls.map Ln.core,x∈cs:=fun x hx=>hc x (runs_core t x (tk_core tk x hx))
   cases tk with
   | beat h=>exact ⟨ys,e,.skip rfl B⟩
   | line=>exact ⟨ys,e,.skip rfl B⟩
   | stay=>exact ⟨ys,e,.skip (by unfold PR.bwn;exact pE rfl) B⟩
   | btw B1 h1 h2 h3 ok sm =>
    obtain ⟨x,y,hx,hy,ne,B2⟩:=B1;refine ⟨_::ys,by rw [e,cw];rfl,.btw h3 ⟨x.core,y.core,mono _ (cX hx),mono _ (cX hy),ne,core_bt B2⟩ B⟩
theorem lK.bts (h:lK b rows)(r:Runs b [] [] (.beat b::rows) (ig rows) bt):Bts b (lsC rows) rows bt:=by
 obtain ⟨ys,e,B⟩:=runs_bts (cs:=lsC rows) r fun x hx=>by rw [←eT];exact hx
 rw [List.nil_append] at e;subst e;cases B with
 | skip _ t=>exact t
theorem mW.of {n:Str}{c g:Option Int}{x:Ln}(nd:((lsC prs).map (·.n)).Nodup)(ns:∀ x∈lsC prs,x.ss.Nodup)(hx:x∈lsC prs)(hn:x.n=n)(h:x.ss[i]? =some z)(E:mW prs n z c g):c=oI (0<i) (x.fi+2 * i - 1)∧g=oI (i+1<x.ss.length) (x.fi+2 * i):=by
 rcases E with ⟨x',hx',i',e1,e2,e3,e4⟩ | ⟨no,_⟩
 ·have ex:=nm_one nd hx' hx (e1.trans hn.symm)
  subst ex;have:=iU (ns _ hx') e2 h;subst this;exact ⟨e3,e4⟩
 ·exact pF (ay h) (no x hx hn)
theorem Ride.of2 {n y:Str}{o:Option Int}{x:Ln}{r:Int}(nd:((lsC prs).map (·.n)).Nodup)(ns:∀ x∈lsC prs,x.ss.Nodup)(hx:x∈lsC prs)(hn:x.n=n)(h1:x.ss[i]? =some z)(h2:x.ss[i+1]? =some y)(h3:x.rs[i]? =some r)(R:Ride prs n z y o):o=some r:=by
 rcases R with ⟨x',hx',i',r',e1,e2,e3,e4,e5⟩ | ⟨no,_⟩
 ·have ex:=nm_one nd hx' hx (e1.trans hn.symm)
  subst ex;have:=iU (ns _ hx') e2 h1;subst this;rw [e4] at h3;rw [e5,h3]
 ·exact pF h2 (no x hx hn i h1)
inductive TwoR (b:Int)(prs:List PR):Str→List Str→List Int→Option Int→Option Int→Int→Int→Int→Prop
 | change {n1 n2 z:Str} {l o w:Int} {s g x1 x2:Option Int} (e1:mW prs n1 z s x1) (e2:mW prs n2 z x2 g):TwoR b prs "change" [n1,n2,z] [l,o,w] s g l o w
 | apart {n1 n2 z:Str} {d:Int} {s g x1 x2:Option Int} (e1:mW prs n1 z x1 s) (e2:mW prs n2 z x2 g):TwoR b prs "apart" [n1,n2,z] [d] s g d (b - d) 0
 | meet {n1 n2 z z2:Str} {d r u:Int} {s g x1 x2:Option Int} (r1:Ride prs n1 z z2 (some r)) (r2:Ride prs n2 z2 z (some u)) (e1:mW prs n1 z x1 s) (e2:mW prs n2 z2 x2 g):TwoR b prs "meet" [n1,n2,z,z2] [d] s g (r+d) (b - u - d) 0
 | meet0 {n1 n2 z z2:Str} {d:Int} {o1 o2:Option Int} (r1:Ride prs n1 z z2 o1) (r2:Ride prs n2 z2 z o2) (no:o1=none∨o2=none):TwoR b prs "meet" [n1,n2,z,z2] [d] none none 0 0 0
theorem TwoR.of {k:Str}{s g:Option Int}{l o w:Int}(nd:((lsC prs).map (·.n)).Nodup)(nss:∀ x∈lsC prs,x.ss.Nodup)(B:Btw b (lsC prs) k ns is sn)(R:TwoR b prs k ns is s g l o w):s=some sn.s∧g=some sn.g∧l=sn.l∧o=sn.o∧w=sn.w:=by
 obtain ⟨x,y,hx,hy,ne,B⟩:=B;have p:∀ {c:Prop} [Decidable c] {i:Int},c→oI c i=some i:=fun h=>pE h
 generalize hk:k=k' at R;generalize hn:ns=ns' at R;generalize hi:is=is' at R;cases B with
 | change h1 h2 h3 h4 =>
  cases R with
  | change e1 e2 =>
   cases hn;cases hi;obtain ⟨a,_⟩:=e1.of nd nss hx rfl h1;obtain ⟨_,c⟩:=e2.of nd nss hy rfl h3;exact ⟨by rw [a,p (by lia)],by rw [c,p h4],rfl,rfl,rfl⟩
  | apart=>exact pF hk (by trivial)
  | meet=>exact pF hk (by trivial)
  | meet0=>exact pF hk (by trivial)
 | apart h1 h2 h3 h4 =>
  cases R with
  | apart e1 e2 =>
   cases hn;cases hi;obtain ⟨_,a⟩:=e1.of nd nss hx rfl h1;obtain ⟨_,c⟩:=e2.of nd nss hy rfl h3;exact ⟨by rw [a,p h2],by rw [c,p h4],rfl,rfl,rfl⟩
  | change=>exact pF hk (by trivial)
  | meet=>exact pF hk (by trivial)
  | meet0=>exact pF hk (by trivial)
 | meet h1 h2 h3 h4 h5 h6 =>
  cases R with
  | meet r1 r2 e1 e2 =>
   cases hn;cases hi;cases r1.of2 nd nss hx rfl h1 h2 h3;cases r2.of2 nd nss hy rfl h4 h5 h6;obtain ⟨_,a⟩:=e1.of nd nss hx rfl h1;obtain ⟨_,c⟩:=e2.of nd nss hy rfl h4;exact ⟨by rw [a,p (ah.mp h2).1],by rw [c,p (ah.mp h5).1],rfl,rfl,rfl⟩
  | meet0 r1 r2 no =>
   cases hn;cases hi;rw [r1.of2 nd nss hx rfl h1 h2 h3,r2.of2 nd nss hy rfl h4 h5 h6] at no
   rcases no with no | no <;> cases no
  | change=>exact pF hk (by trivial)
  | apart=>exact pF hk (by trivial)
def styS (f:Str→Str→Int×Int×Int):PR→Str→Str→Int×Int×Int
 | .oth k [n',z'] [l,o,w]=>if k = "stay" then fun n z=>if n=n'∧z=z' then (l,o,w) else f n z else f
 | _=>f
def nt (rows:List PR):Str→Str→Int×Int×Int:=rows.foldl styS (fun _ _=>(0,0,0))
theorem l6 (rs:List PR)(r:PR):nt (rs++[r])=styS (nt rs) r:=by unfold nt;rw [jo];rfl
theorem lZ (f:Str→Str→Int×Int×Int)(n' z':Str)(l o w:Int)(n z:Str):styS f (.oth "stay" [n',z'] [l,o,w]) n z=if n=n'∧z=z' then (l,o,w) else f n z:=by
 show (if ("stay" :Str) = "stay" then (fun n z=>if n=n'∧z=z' then (l,o,w) else f n z) else f) n z=_;rw [pE rfl]
theorem styS_no (f:Str→Str→Int×Int×Int){k:Str}(hk:k ≠ "stay")(ns:List Str)(is:List Int):styS f (.oth k ns is)=f:=by
 unfold styS;split
 ·next h=>cases h;rw [pB hk]
 ·rfl
theorem stepL_stay (ls:List Ln)(n z:Str)(l o w:Int):mF ls (.oth "stay" [n,z] [l,o,w])=ls.map (iR n z (l,o,w)):=by
 unfold mF;exact pE rfl
theorem sty_lsOf:gn b rows→∀ x∈ig rows,∀ z,sty x.st z=nt rows x.n z:=by
 induction rows using snocI with
 | h0=>intro _ x hx;cases hx
 | h1 rs r ih =>
  intro ok x hx z;have ok0:gn b rs:=by
   have:=ok.take rs.length
   rwa [fJ rfl] at this
  have o:lH b rs r:=by
   have:=ok rs.length r (by rw [aN (az _),dJ];rfl)
   rwa [fJ rfl] at this
  have ih:=ih ok0;rw [l6];rw [k6] at hx;cases r with
  | beat b=>exact pF o id
  | line n ss rs' =>
   rcases bg.mp hx with hx | hx
   ·exact ih x hx z
   ·rw [aB.mp hx]
    show sty [] z=nt rs n z;have:∀ y∈lsC rs,y.n≠n:=fun y hy e=>o.1 (aG.mpr ⟨y,hy,e⟩)
    have none_:∀ m:Nat,m≤rs.length→nt (rs.take m) n z=(0,0,0):=by
     intro m
     induction m with
     | zero=>intro _;rfl
     | succ m ihm =>
      intro hm;have e:=gE (show m<rs.length by lia);rw [aW,e];show nt (rs.take m++[rs[m]]) n z=_;rw [l6];have o':=ok0 m _ e;generalize rs[m]=q at o';cases q with
      | beat b=>exact ihm (by lia)
      | line n' ss' rs''=>exact ihm (by lia)
      | oth k ns is =>
       rcases o' with ⟨rfl,y,z',l,o,w,i,hy,rfl,rfl,_⟩ | ⟨hk,_⟩
       ·rw [lZ,pB fun h=>this y (nJ hy) h.1.symm]
        exact ihm (by lia)
       ·rw [styS_no _ hk]
        exact ihm (by lia)
    have e:=none_ rs.length (az _);rw [bI] at e;rw [e];rfl
  | oth k ns is =>
   rcases o with ⟨rfl,y,z',l,o,w,i,hy,rfl,rfl,_,_,_,no,_⟩ | ⟨hk,_⟩
   ·have hx:x∈(ig rs).map (iR y.n z' (l,o,w)):=by
     rwa [stepL_stay] at hx
    obtain ⟨x',hx',rfl⟩:=aG.mp hx;rw [lZ,stayAt_n];unfold iR
    by_cases c:x'.n=y.n
    ·rw [pE c]
     show sty (x'.st++[(z',l,o,w)]) z=_;rw [sty_snoc fun m=>no (by rw [←c];exact (st_told hx').1 z' m)]
     by_cases c2:z=z'
     ·rw [pE c2,pE ⟨c,c2⟩]
     ·rw [pB c2,pB fun h=>c2 h.2]
      exact ih x' hx' z
    ·rw [pB c,pB fun h=>c h.1]
     exact ih x' hx' z
   ·have e1:mF (ig rs) (.oth k ns is)=ig rs:=by
     unfold mF;split
     ·next h=>cases h
     ·next h=>cases h;rw [pB hk]
     ·rfl
    have e2:styS (nt rs) (.oth k ns is)=nt rs:=styS_no _ hk _ _;rw [e1] at hx;rw [e2];exact ih x hx z
theorem lsC_pre (rows:List PR)(i:Nat):∃ t,lsC rows=lsC (rows.take i)++t:=by
 have go:∀ c a:List PR,∃ t,lsC (a++c)=lsC a++t:=by
  intro c
  induction c with
  | nil=>intro a;exact ⟨[],by rw [cG,cG]⟩
  | cons r c ih =>
   intro a;obtain ⟨t,e⟩:=ih (a++[r]);rw [cw] at e;have e:lsC (a++r::c)=lsC (a++[r])++t:=e;rw [e,gj];cases r with
   | beat b=>exact ⟨t,rfl⟩
   | oth k ns is=>exact ⟨t,rfl⟩
   | line n ss rs=>exact ⟨_::t,by show (lsC a++[_])++t=_;rw [cw];rfl⟩
 have:=go (rows.drop i) (rows.take i)
 rwa [dF] at this
theorem lsOf_at {n:Str}{rs:List Int}(h:rows[i]? =some (.line n ss rs)):∃ l,(ig rows)[(lsC (rows.take i)).length]? =some l∧l.core=⟨n,ss,rs,[],gf (lsC (rows.take i))⟩:=by
 obtain ⟨t,e⟩:=lsC_pre rows (i+1);rw [aW,h] at e;have e:lsC rows=lsC (rows.take i++[.line n ss rs])++t:=e;rw [gj] at e;have e2:(lsC rows)[(lsC (rows.take i)).length]? =some ⟨n,ss,rs,[],gf (lsC (rows.take i))⟩:=by
  rw [e];show ((lsC (rows.take i)++[_])++t)[_]? =_;rw [cw,aN (az _),dJ];rfl
 rw [←eT,ax] at e2;obtain ⟨l,h1,h2⟩:=aS.mp e2;exact ⟨l,h1,h2⟩
theorem labs_goes (n:Str):∀ {ss:List Str} {j:Nat} {z:Str},ss[j]? =some z→j+1<ss.length→(kU n ss)[2 * j]? =some [.str n,.str z,.str "goes"]
 | s::u::r,0,z,h,_=>by cases h;rfl
 | s::u::r,j+1,z,h,hj=>by
  show (_::_::kU n (u::r))[2 * j+1+1]? =_;rw [aH,aH];exact labs_goes n h (by simpa using hj)
 | [_],j,z,h,hj=>by simp at hj
 | [],j,z,h,hj=>by simp at hj
theorem pj (n:Str):∀ {ss:List Str} {j:Nat} {z:Str},ss[j+1]? =some z→(kU n ss)[2 * j+1]? =some [.str n,.str z,.str "comes"]
 | s::u::r,0,z,h=>by cases h;rfl
 | s::u::r,j+1,z,h=>by
  show (_::_::kU n (u::r))[2 * j+1+1+1]? =_;rw [aH,aH];exact pj n h
 | [_],j,z,h=>by simp at h
 | [],j,z,h=>by simp at h
theorem own_lenN (h:l.ss.length=l.rs.length+1):∀ k,k<l.rs.length→(ownN l k).length=2 * k:=by
 intro k
 induction k with
 | zero=>intro _;rfl
 | succ k ih =>
  intro hk;rw [iS,aj,ih (by lia)];unfold stp;rw [pE (by lia)];rfl
theorem own_pre (h:k≤m):∃ t,ownN l m=ownN l k++t:=by
 obtain ⟨d,rfl⟩:∃ d,m=k+d:=⟨m - k,by lia⟩
 induction d with
 | zero=>exact ⟨[],by rw [cG];rfl⟩
 | succ d ih =>
  obtain ⟨t,e⟩:=ih (by lia);exact ⟨t++stp l (k+d),by rw [show k+(d+1)=k+d+1 from rfl,iS,e,cw]⟩
theorem own_ride (h:l.ss.length=l.rs.length+1){r:Int}(hj:l.rs[j]? =some r):(lX l)[2 * j]? =some ⟨l.fi+2 * j,l.fi+2 * j+1,r,r,0⟩:=by
 have lj:=(ah.mp hj).1;obtain ⟨t,e⟩:=own_pre (l:=l) (show j+1≤l.rs.length by lia);have ln:=own_lenN h j lj;have gd:l.rs.getD j 0=r:=by rw [bh,hj];rfl
 show (ownN l l.rs.length)[2 * j]? =_;rw [e,iS,cw,aN (by lia),ln,dJ];unfold stp;rw [gd];rfl
theorem own_stay (h:l.ss.length=l.rs.length+1)(hz:l.ss[j+1]? =some z)(hj:j+2<l.ss.length):(lX l)[2 * j+1]? =some ⟨l.fi+2 * j+1,l.fi+2 * j+2,(sty l.st z).1,(sty l.st z).2.1,(sty l.st z).2.2⟩:=by
 obtain ⟨t,e⟩:=own_pre (l:=l) (show j+1≤l.rs.length by lia);have ln:=own_lenN h j (by lia);have gd:l.ss.getD (j+1) ef=z:=by rw [bh,hz];rfl
 show (ownN l l.rs.length)[2 * j+1]? =_;rw [e,iS,cw,aN (by lia),ln,show 2 * j+1 - 2 * j=1 by lia];unfold stp;rw [pE hj,gd];rfl
theorem own_lenS (h:l.ss.length=l.rs.length+1)(h1:1≤l.rs.length):(lX l).length=2 * l.rs.length - 1:=by
 rcases ownS_len h with e | e <;> lia
abbrev sTwW:cN:=top 47
inductive OthF:Str→List Str→List Int→Prop
 | change {n1 n2 z:Str} {l o w:Int}:OthF "change" [n1,n2,z] [l,o,w]
 | apart {n1 n2 z:Str} {d:Int}:OthF "apart" [n1,n2,z] [d]
 | meet {n1 n2 z z2:Str} {d:Int}:OthF "meet" [n1,n2,z,z2] [d]
theorem bt_form {x y:Ln}{k:Str}(B:Bt b x y k ns is sn):OthF k ns is:=by cases B <;> constructor
inductive spTwW (vs:List V)(H:Hp)(Q:VK)(_:XK):Prop
 | mk (R A:ak)(xs:List V)(prs:List PR)(b:Int)(k:Str)(ns:List Str)(is:List Int)(_:vs=[.ref R,.int b,.ref A])(_:H R=some (.lst xs))(_:kQ H xs (prs.map PR.rowV))(_:(∀ r∈prs,r.okE))(_:prs.length≤100)(_:H A=some (.lst (PR.oth k ns is).rowV))(_:OthF k ns is)(_:∀ (t:ak) (s g:Option Int) (l o w:Int) (H':Hp),b8 H H'→H' t=some (.tup [oV s,oV g,.int l,.int o,.int w])→TwoR b prs k ns is s g l o w→Q (.ref t) H')
theorem okI_E (h:r.okI):r.okE:=by
 cases r with
 | beat b=>exact pF h id
 | line n ss rs=>exact lnOk_E h
 | oth k ns is=>exact ⟨h.1,fun z=>by have:=h.2.1;rw [z] at this;simp at this⟩
structure TpI (H:Hp)(L:ak)(ts:List (List V)):Prop where
 ex:∃ as:List ak,H L=some (.lst (as.map V.ref))∧as.map H=ts.map (fun t=>some (HO.tup t))
theorem iQ (h:as.map H=ts.map (fun t=>some (HO.tup t)))(k:∀ a t,H a=some (.tup t)→H' a=some (.tup t)):as.map H'=ts.map (fun t=>some (HO.tup t)):=by
 rw [←h];refine cP fun c hc=>?_
 have hm:H c∈ts.map (fun t=>some (HO.tup t)):=by rw [←h];exact cX hc
 obtain ⟨t,_,e⟩:=aG.mp hm;rw [←e];exact k _ _ e.symm
theorem TpI.same (S:b8 H H')(h:TpI H L ts):TpI H' L ts:=by
 obtain ⟨as,h1,h2⟩:=h.ex;exact ⟨as,S _ _ h1,iQ h2 fun a t e=>S _ _ e⟩
theorem TpI.other {L2:ak}{zs:List V}{ws:List V}(h:TpI H L ts)(ne:L≠L2)(h2:H L2=some (.lst ws)):TpI (upd H L2 (.lst zs)) L ts:=by
 obtain ⟨as,h1,h3⟩:=h.ex;exact ⟨as,by rw [aX ne];exact h1,iQ h3 fun a t e=>by rw [aX (de e h2 nofun)];exact e⟩
theorem TpI.app {t:List V}(h:TpI H L ts)(hB:H B=some (.tup t))(few:ts.length≤1000):∃ ws:List V,H L=some (.lst ws)∧ws.length<au∧ws.length=ts.length∧TpI (upd H L (.lst (ws++[.ref B]))) L (ts++[t]):=by
 obtain ⟨as,h1,h3⟩:=h.ex;have la:as.length=ts.length:=by have:=pJ gc h3;rwa [ae,ae] at this
 have big:(2000:Nat)≤au:=by decide
 refine ⟨as.map V.ref,h1,by rw [ae];lia,by rw [ae];exact la,as++[B],by rw [aP,aq];rfl,?_⟩;have k:∀ a t,H a=some (.tup t)→(upd H L (.lst (as.map V.ref++[.ref B]))) a=some (.tup t):=fun a t e=>by rw [aX (de e h1 nofun)];exact e
 rw [aq,aq,iQ h3 k];show _++[_]=_++[_];rw [k _ _ hB]
theorem TpI.len (h:TpI H L ts):∃ ws:List V,H L=some (.lst ws)∧ws.length=ts.length:=by
 obtain ⟨as,h1,h3⟩:=h.ex;have la:as.length=ts.length:=by have:=pJ gc h3;rwa [ae,ae] at this
 exact ⟨_,h1,by rw [ae];exact la⟩
def Styd (H:Hp)(kvs:List (List Key×V))(f:Str→Str→Int×Int×Int):Prop:=∀ n z:Str,(∀ v,kC kvs [.inr n,.inr z]=some v→∃ a,v= .ref a∧H a=some (.tup [.int (f n z).1,.int (f n z).2.1,.int (f n z).2.2]))∧(kC kvs [.inr n,.inr z]=none→f n z=(0,0,0))
theorem Styd.keep {f:Str→Str→Int×Int×Int}(h:Styd H kvs f)(k:∀ a t,H a=some (.tup t)→H' a=some (.tup t)):Styd H' kvs f:=fun n z=>⟨fun v hv=>by
 obtain ⟨a,e1,e2⟩:=(h n z).1 v hv;exact ⟨a,e1,k _ _ e2⟩,(h n z).2⟩
theorem oy (n:Str):∀ ss:List Str,(kU n ss).length=2 * (ss.length - 1)
 | []=>rfl
 | [_]=>rfl
 | s::u::r=>by
  show (kU n (u::r)).length+1+1=_;rw [oy n (u::r)];simp;lia
abbrev ko (x:Sn):List V:=x.row.map V.int
def labT (ls:List Ln):List (List V):=ls.flatMap fun l=>kU l.n l.ss
def spnT (ls:List Ln):List (List V):=(ls.flatMap lX).map ko
inductive spNof (vs:List V)(H:Hp)(Q:VK)(_:XK):Prop
 | mk (R:ak)(xs:List V)(rows:List PR)(b:Int)(bt:List Sn)(_:vs=[.int b,.ref R])(_:H R=some (.lst xs))(_:kQ H xs (rows.map PR.rowV))(_:lK b rows)(_:Bts b (lsC rows) rows bt)(_:∀ (v:V) (H':Hp),b8 H H'→IsD H' v (.tup [netP b (gf (ig rows)) (mB (ig rows) bt),.tup ((allLL (ig rows)).map fun t=> .tup (t.map vD))])→Q v H')
theorem scTwW:cp ["_law_rows","_law_beat","_law_row","_law_mine","_law_theirs","_law_ends_here"] pzv (defScope sTwW):=by trivial
theorem ok_twW {fE fR:ak}{dE dR:aZ}(F:Fun K "_law_two" "_law_two" sTwW f fd)(GE:Fn K mg "_law_ends" sEndW pzo fE dE)(FE:c7 P w K mg base CX0 1 fE dE pzo spEndW)
  (GR:Fn K mg "_law_ride" sRidW pzm fR dR) (FR:c7 P w K mg base CX0 1 fR dR pzm spRidW):c7 P w K mg base CX0 2 f fd pzv spTwW:=by
 refine F.ok scTwW (by contradiction) (fun cdv A0 outer s H vs Q E hr h=>?_);obtain ⟨R,A,xs,prs,b,kk,ns,is,rfl,hR,rw_,ok,few,hA,fm,k⟩:=h;have hr1:jJ 1 _:=hr;refine ⟨_,PSl.h (bq ⟨(eX (bK iT (cH aY (pv 2) aC (fun _ _=>rfl)) dv (cb _)) (bB (bZ (eP (af (cH aY (pc1 GE FE hr1 (af (pv 0) (af (cH aY (pv 2) aC (fun _ _=>rfl)) (af (cH aY (pv 2) aC (fun _ _=>rfl)) aw)))) aC (fun _ _=>rfl)) (af (cH aY (pc1 GE FE hr1 (af (pv 0) (af (cH aY (pv 2) aC (fun _ _=>rfl)) (af (cH aY (pv 2) aC (fun _ _=>rfl)) aw)))) aC (fun _ _=>rfl)) (af (cH aY (pv 2) aC (fun _ _=>rfl)) (af (cH aY (pv 2) aC (fun _ _=>rfl)) (af (cH aY (pv 2) aC (fun _ _=>rfl)) aw)))))))) cv)⟩
  (bq ⟨(eX (bK iT (cH aY (pv 2) aC (fun _ _=>rfl)) dv (cb _)) (bB (bZ (eP (af (cH aY (pc1 GE FE hr1 (af (pv 0) (af (cH aY (pv 2) aC (fun _ _=>rfl)) (af (cH aY (pv 2) aC (fun _ _=>rfl)) aw)))) aC (fun _ _=>rfl)) (af (cH aY (pc1 GE FE hr1 (af (pv 0) (af (cH aY (pv 2) aC (fun _ _=>rfl)) (af (cH aY (pv 2) aC (fun _ _=>rfl)) aw)))) aC (fun _ _=>rfl)) (af (cH aY (pv 2) aC (fun _ _=>rfl)) (af (cD gv (pv 1) (cH aY (pv 2) aC (fun _ _=>rfl))) (af aC aw)))))))) cv)⟩
  (bq ⟨(psZ 3 scTwW.nd (pc1 GR FR hr1 (af (pv 0) (af (cH aY (pv 2) aC (fun _ _=>rfl)) (af (cH aY (pv 2) aC (fun _ _=>rfl)) (af (cH aY (pv 2) aC (fun _ _=>rfl)) aw))))))⟩
  (bq ⟨(psZ 4 scTwW.nd (pc1 GR FR hr1 (af (pv 0) (af (cH aY (pv 2) aC (fun _ _=>rfl)) (af (cH aY (pv 2) aC (fun _ _=>rfl)) (af (cH aY (pv 2) aC (fun _ _=>rfl)) aw))))))⟩
  (bq ⟨(eX (PW.pt (j6 (bK om (pv 3) gT (cb _)) (je (bK om (pv 4) gT (cb _))))) (bB (bZ (eP (af gT (af gT (af aC (af aC (af aC aw)))))))) cv)⟩
  (bq ⟨(psZ 5 scTwW.nd (eP (af (cH aY (pc1 GE FE hr1 (af (pv 0) (af (cH aY (pv 2) aC (fun _ _=>rfl)) (af (cH aY (pv 2) aC (fun _ _=>rfl)) aw)))) aC (fun _ _=>rfl)) (af (cH aY (pc1 GE FE hr1 (af (pv 0) (af (cH aY (pv 2) aC (fun _ _=>rfl)) (af (cH aY (pv 2) aC (fun _ _=>rfl)) aw)))) aC (fun _ _=>rfl)) aw))))⟩
  (fu ⟨(bZ (cD op_catA (pv 5) (eP (af (cD ff (pv 3) (cH aY (pv 2) aC (fun _ _=>rfl))) (af (cD gv (cD gv (pv 1) (pv 4)) (cH aY (pv 2) aC (fun _ _=>rfl))) (af aC aw))))))⟩))))))),?_⟩
 cases fm with
 | @change n1 n2 z l o wt =>
  have hA:H A=some (.lst [.str "change",.str n1,.str n2,.str z,.int l,.int o,.int wt]):=hA;refine ⟨_,rfl,A,_,_,_,rfl,rfl,SqL.of hA,aE (j:=0) rfl,rfl,_,rfl,oA (pG rfl) ?_⟩;refine ⟨_,rfl,_,rfl,A,_,_,_,rfl,rfl,SqL.of hA,aE (j:=1) rfl,_,rfl,A,_,_,_,rfl,rfl,SqL.of hA,aE (j:=3) rfl,R,xs,prs,n1,z,rfl,hR,rw_,ok,few,fun E1 c g H1 S1 e1 en1=>?_⟩;refine ⟨E1,_,_,_,rfl,rfl,SqL.of e1,aE (j:=0) rfl,?_⟩;have hA:=S1 _ _ hA;refine ⟨_,rfl,_,rfl,A,_,_,_,rfl,rfl,SqL.of hA,aE (j:=2) rfl,_,rfl,A,_,_,_,rfl,rfl,SqL.of hA,aE (j:=3) rfl,R,xs,prs,n2,z,rfl,S1 _ _ hR,rw_.same S1,ok,few,fun E2 c2 g2 H2 S2 e2 en2=>?_⟩;refine ⟨E2,_,_,_,rfl,rfl,SqL.of e2,aE (j:=1) rfl,?_⟩;have hA:=S2 _ _ hA;refine ⟨_,rfl,A,_,_,_,rfl,rfl,SqL.of hA,aE (j:=4) rfl,_,rfl,A,_,_,_,rfl,rfl,SqL.of hA,aE (j:=5) rfl,_,rfl,A,_,_,_,rfl,rfl,SqL.of hA,aE (j:=6) rfl,szZ5,fun t H3 S3 e3=>?_⟩;exact k t c g2 l o wt H3 (S1.trans (S2.trans S3)) e3 (.change en1 en2)
 | @apart n1 n2 z d =>
  have hA:H A=some (.lst [.str "apart",.str n1,.str n2,.str z,.int d]):=hA;refine ⟨_,rfl,A,_,_,_,rfl,rfl,SqL.of hA,aE (j:=0) rfl,rfl,_,rfl,iL (by trivial) ?_⟩;refine ⟨_,rfl,A,_,_,_,rfl,rfl,SqL.of hA,aE (j:=0) rfl,rfl,_,rfl,oA (pG rfl) ?_⟩;refine ⟨_,rfl,_,rfl,A,_,_,_,rfl,rfl,SqL.of hA,aE (j:=1) rfl,_,rfl,A,_,_,_,rfl,rfl,SqL.of hA,aE (j:=3) rfl,R,xs,prs,n1,z,rfl,hR,rw_,ok,few,fun E1 c g H1 S1 e1 en1=>?_⟩;refine ⟨E1,_,_,_,rfl,rfl,SqL.of e1,aE (j:=1) rfl,?_⟩;have hA:=S1 _ _ hA;refine ⟨_,rfl,_,rfl,A,_,_,_,rfl,rfl,SqL.of hA,aE (j:=2) rfl,_,rfl,A,_,_,_,rfl,rfl,SqL.of hA,aE (j:=3) rfl,R,xs,prs,n2,z,rfl,S1 _ _ hR,rw_.same S1,ok,few,fun E2 c2 g2 H2 S2 e2 en2=>?_⟩;refine ⟨E2,_,_,_,rfl,rfl,SqL.of e2,aE (j:=1) rfl,?_⟩;have hA:=S2 _ _ hA;refine ⟨_,rfl,A,_,_,_,rfl,rfl,SqL.of hA,aE (j:=4) rfl,_,rfl,_,rfl,A,_,_,_,rfl,rfl,SqL.of hA,aE (j:=4) rfl,_,_,rfl,rfl,szZ5,fun t H3 S3 e3=>?_⟩;exact k t g g2 d (b - d) 0 H3 (S1.trans (S2.trans S3)) e3 (.apart en1 en2)
 | @meet n1 n2 z z2 d =>
  have hA:H A=some (.lst [.str "meet",.str n1,.str n2,.str z,.str z2,.int d]):=hA;refine ⟨_,rfl,A,_,_,_,rfl,rfl,SqL.of hA,aE (j:=0) rfl,rfl,_,rfl,iL (by trivial) ?_⟩;refine ⟨_,rfl,A,_,_,_,rfl,rfl,SqL.of hA,aE (j:=0) rfl,rfl,_,rfl,iL (by trivial) ?_⟩;refine ⟨_,rfl,_,rfl,A,_,_,_,rfl,rfl,SqL.of hA,aE (j:=1) rfl,_,rfl,A,_,_,_,rfl,rfl,SqL.of hA,aE (j:=3) rfl,_,rfl,A,_,_,_,rfl,rfl,SqL.of hA,aE (j:=4) rfl,R,xs,prs,n1,z,z2,rfl,hR,rw_,ok,few,fun o1 H1 S1 rd1=>?_⟩;have hA:=S1 _ _ hA;refine ⟨_,rfl,_,rfl,A,_,_,_,rfl,rfl,SqL.of hA,aE (j:=2) rfl,_,rfl,A,_,_,_,rfl,rfl,SqL.of hA,aE (j:=4) rfl,_,rfl,A,_,_,_,rfl,rfl,SqL.of hA,aE (j:=3) rfl,R,xs,prs,n2,z2,z,rfl,S1 _ _ hR,rw_.same S1,ok,few,fun o2 H2 S2 rd2=>?_⟩;have S12:=S1.trans S2;have hA:=S2 _ _ hA;have no:o1=none∨o2=none→∀ {t:ak} {H3:Hp},b8 H2 H3→H3 t=some (.tup [.non,.non,.int 0,.int 0,.int 0])→Q (.ref t) H3:=fun h t H3 S3 e=>k t none none 0 0 0 H3 (S12.trans S3) e (.meet0 rd1 rd2 h)
  cases o1 with
  | none =>
   refine ⟨_,rfl,rfl,_,rfl,oA rfl ?_⟩;exact ⟨szZ5,fun t H3 S3 e=>no (.inl rfl) S3 e⟩
  | some r =>
   refine ⟨_,rfl,rfl,_,rfl,iL rfl ?_⟩;cases o2 with
   | none =>
    refine ⟨_,rfl,rfl,_,rfl,oA rfl ?_⟩;exact ⟨szZ5,fun t H3 S3 e=>no (.inr rfl) S3 e⟩
   | some u =>
    refine ⟨_,rfl,rfl,_,rfl,iL rfl ?_⟩;refine ⟨_,rfl,_,rfl,A,_,_,_,rfl,rfl,SqL.of hA,aE (j:=1) rfl,_,rfl,A,_,_,_,rfl,rfl,SqL.of hA,aE (j:=3) rfl,R,xs,prs,n1,z,rfl,S12 _ _ hR,rw_.same S12,ok,few,fun E1 c g H3 S3 e3 en1=>?_⟩;refine ⟨E1,_,_,_,rfl,rfl,SqL.of e3,aE (j:=1) rfl,?_⟩;have hA:=S3 _ _ hA;have S13:=S12.trans S3;refine ⟨_,rfl,_,rfl,A,_,_,_,rfl,rfl,SqL.of hA,aE (j:=2) rfl,_,rfl,A,_,_,_,rfl,rfl,SqL.of hA,aE (j:=4) rfl,R,xs,prs,n2,z2,rfl,S13 _ _ hR,rw_.same S13,ok,few,fun E2 c2 g2 H4 S4 e4 en2=>?_⟩;refine ⟨E2,_,_,_,rfl,rfl,SqL.of e4,aE (j:=1) rfl,oR,fun M H5 S5 e5=>?_⟩;have hA:=S5 _ _ (S4 _ _ hA);refine ⟨_,rfl,_,rfl,_,rfl,A,_,_,_,rfl,rfl,SqL.of hA,aE (j:=5) rfl,_,_,rfl,rfl,_,rfl,_,rfl,_,_,rfl,rfl,_,rfl,A,_,_,_,rfl,rfl,SqL.of hA,aE (j:=5) rfl,_,_,rfl,rfl,(by show 3≤au;decide),fun N H6 S6 e6=>?_⟩;refine ⟨M,N,_,_,rfl,rfl,S6 _ _ e5,e6,(by show 2+3≤au;decide),fun t H7 S7 e7=>?_⟩;exact k t g g2 (r+d) (b - u - d) 0 H7 (S13.trans (S4.trans (S5.trans (S6.trans S7)))) e7 (.meet rd1 rd2 en1 en2)
abbrev sNof:cN:=top 48
theorem labT_len:∀ {ls:List Ln},(∀ l∈ls,l.ss.length=l.rs.length+1)→(((labT ls).length:Nat):Int)=gf ls
 | [],_=>rfl
 | l::ls,h=>by
  have ih:=labT_len (ls:=ls) fun x hx=>h x (aO _ hx)
  have e:=h l bG;unfold labT gf at *;rw [List.flatMap_cons,aj,aT,dq,oy,←ih];lia
theorem own_le (ls:List Ln):(ls.flatMap lX).length≤(ls.map fun l=>2 * l.rs.length).sum:=by
 induction ls with
 | nil=>exact az _
 | cons l ls ih =>
  rw [List.flatMap_cons,aj,aT,dq];have:(lX l).length≤2 * l.rs.length:=nG l l.rs.length;lia
theorem hap_cast (ls:List Ln):(((ls.map fun l=>2 * l.rs.length).sum:Nat):Int)=gf ls:=by
 induction ls with
 | nil=>rfl
 | cons l ls ih =>
  unfold gf at *;rw [aT,dq,aT,dq,←ih];lia
theorem hap_take2 (ls:List Ln)(m:Nat):gf (ls.take m)≤gf ls:=by
 have e:gf ls=gf (ls.take m)+gf (ls.drop m):=by
  conv=>lhs;rw [←dF m ls]
  unfold gf;rw [aq,g9]
 have:=hapL_nn (ls.drop m);lia
structure NfI (H HA:Hp)(D LS LB:ak)(kvs:List (List Key×V))(f:Str→Str→Int×Int×Int)(sp lb:List (List V)):Prop where
 S:b8 H HA
 d:HA D=some (.dT kvs)
 st:Styd HA kvs f
 s:TpI HA LS sp
 l:TpI HA LB lb
theorem NfI.same {HB:Hp}{LS LB:ak}{f:Str→Str→Int×Int×Int}{sp:List (List V)}(I:NfI H HA D LS LB kvs f sp lb)(S:b8 HA HB):NfI H HB D LS LB kvs f sp lb:=⟨I.S.trans S,S _ _ I.d,I.st.keep fun a t e=>S _ _ e,I.s.same S,I.l.same S⟩
theorem NfI.appL {LS LB:ak}{f:Str→Str→Int×Int×Int}{sp:List (List V)}{t:List V}(I:NfI H HA D LS LB kvs f sp lb)(n1:H LB=none)(n2:LS≠LB)(hB:HA B=some (.tup t))(few:lb.length≤1000) :
  ∃ ws:List V,HA LB=some (.lst ws)∧ws.length<au∧NfI H (upd HA LB (.lst (ws++[.ref B]))) D LS LB kvs f sp (lb++[t]):=by
 obtain ⟨ws,h1,h2,_,h3⟩:=I.l.app hB few;have k:∀ a t,HA a=some (.tup t)→(upd HA LB (.lst (ws++[.ref B]))) a=some (.tup t):=fun a t e=>by rw [aX (de e h1 nofun)];exact e
 exact ⟨ws,h1,h2,fun c o e=>by rw [aX (aV e n1)];exact I.S _ _ e,by rw [aX (de I.d h1 nofun)];exact I.d,I.st.keep k,I.s.other n2 h1,h3⟩
theorem NfI.appS {LS LB:ak}{f:Str→Str→Int×Int×Int}{sp:List (List V)}{t:List V}(I:NfI H HA D LS LB kvs f sp lb)(n1:H LS=none)(n2:LS≠LB)(hB:HA B=some (.tup t))(few:sp.length≤1000) :
  ∃ ws:List V,HA LS=some (.lst ws)∧ws.length<au∧NfI H (upd HA LS (.lst (ws++[.ref B]))) D LS LB kvs f (sp++[t]) lb:=by
 obtain ⟨ws,h1,h2,_,h3⟩:=I.s.app hB few;have k:∀ a t,HA a=some (.tup t)→(upd HA LS (.lst (ws++[.ref B]))) a=some (.tup t):=fun a t e=>by rw [aX (de e h1 nofun)];exact e
 exact ⟨ws,h1,h2,fun c o e=>by rw [aX (aV e n1)];exact I.S _ _ e,by rw [aX (de I.d h1 nofun)];exact I.d,I.st.keep k,h3,I.l.other (cO n2) h1⟩
theorem bts_drop {cs:List Ln}(h:Bts b cs (r::rs) bt):(r.bwn=0∧Bts b cs rs bt)∨∃ k ns is sn b',r= .oth k ns is∧bt=sn::b'∧k ≠ "stay" ∧Btw b cs k ns is sn∧Bts b cs rs b':=by
 cases h with
 | skip h t=>exact .inl ⟨h,t⟩
 | btw hk B t=>exact .inr ⟨_,_,_,_,_,rfl,rfl,hk,B,t⟩
theorem tups_isD {H:Hp}:∀ {as:List ak} {sns:List Sn},as.map H=(sns.map ko).map (fun t=>some (HO.tup t))→gP H (as.map V.ref) (sns.map fun x=> .tup (x.row.map Dt.int))
 | [],[],_=> .nil
 | [],_::_,h=>by cases h
 | _::_,[],h=>by cases h
 | a::as,x::sns,h=>by
  rw [aT,aT,aT] at h;injection h with h1 h2
  exact .cons (.tup h1 (gP.ints x.row)) (tups_isD h2)
theorem scNof:cp ["_law_beat","_law_rows","_law_stays","_law_row","_law_spans","_law_labels","_law_k","_law_more"] pzl (defScope sNof):=by trivial
theorem ok_nof {fT:ak}{dT:aZ}(F:Fun K "_law_net_of" "_law_net_of" sNof f fd)(T:Nm mg)(T2:Nt mg)(GT:Fn K mg "_law_two" sTwW pzv fT dT)(FT:c7 P w K mg base CX0 2 fT dT pzv spTwW):c7 P w K mg base CX0 3 f fd pzl spNof:=by
 refine F.ok scNof (by contradiction) (fun cdv A outer s H vs Q E hr h=>?_);obtain ⟨R,xs,rows,b,bt,rfl,hR,rw_,pok,bts,k⟩:=h;have hr2:jJ 2 _:=hr;have u1:=gZ (iP (show 1≤64 by decide) _) hr.units;refine ⟨_,PSl.h (bq ⟨(psZ 2 scNof.nd pe_dnewT)⟩
  (bq ⟨(gS bS rfl (gN (pv 1)) (pgZ 3 scNof.nd) (bB (eX (bK iT (cH aY (pv 3) aC (fun _ _=>rfl)) dv (cb _)) (bB (ps_dput u1 (pv 2) (eP (af (cH aY (pv 3) aC (fun _ _=>rfl)) (af (cH aY (pv 3) aC (fun _ _=>rfl)) aw))) (eS jB rfl T.ttup jD (af (eZ iD (pv 3) (fD aC) gM) aw)) rfl)) cv)))⟩
  (bq ⟨(psZ 4 scNof.nd (jK aw))⟩
  (bq ⟨(psZ 5 scNof.nd (jK aw))⟩
  (bq ⟨(gS bS rfl (gN (pv 1)) (pgZ 3 scNof.nd) (bB (eX (bK iT (cH aY (pv 3) aC (fun _ _=>rfl)) dv (cb _)) (bB (gS bS rfl (ma rfl T2.range (af aC (af (bU bM rfl T.len aR (af (pv 3) aw)) (af aC aw)))) (pgZ 6 scNof.nd) (PSl.h (bq ⟨(ps_cutK (eX (bK op_gt (pv 6) aC (cb _)) (bB (gD (i9 bf bE bD fj (pv 5) (af (eP (af (cH aY (pv 3) aC (fun _ _=>rfl)) (af (cH aY (pv 3) (pv 6) (fun _ _=>rfl)) (af dv aw)))) aw)))) cv))⟩
  (bq ⟨(ps_cutK (eX (PW.pt (lJ (bK op_gt (pv 6) aC (cb _)) (kq (bK oS (pv 6) (cD gv (bU bM rfl T.len aR (af (pv 3) aw)) aC) (cb _))))) (bB (gD (i9 bf bE bD fj (pv 4) (af (cD op_catA (eP (af (cD gv (bU bM rfl T.len aR (af (pv 5) aw)) aC) (af (bU bM rfl T.len aR (af (pv 5) aw)) aw))) (pe_dget2 u1 (pv 2) (eP (af (cH aY (pv 3) aC (fun _ _=>rfl)) (af (cH aY (pv 3) (pv 6) (fun _ _=>rfl)) aw))) (eP (af aC (af aC (af aC aw)))) ⟨rfl,rfl,rfl,rfl⟩)) aw)))) cv))⟩
  (fu ⟨(eX (bK oS (pv 6) (cD gv (bU bM rfl T.len aR (af (pv 3) aw)) aC) (cb _)) (PSl.h (bq ⟨(gD (i9 bf bE bD fj (pv 5) (af (eP (af (cH aY (pv 3) aC (fun _ _=>rfl)) (af (cH aY (pv 3) (pv 6) (fun _ _=>rfl)) (af dv aw)))) aw)))⟩
  (fu ⟨(gD (i9 bf bE bD fj (pv 4) (af (eP (af (cD gv (bU bM rfl T.len aR (af (pv 5) aw)) aC) (af (bU bM rfl T.len aR (af (pv 5) aw)) (af (cH aY (pv 3) (cD ff (pv 6) aC) (fun _ _=>rfl)) (af (cH aY (pv 3) (cD ff (pv 6) aC) (fun _ _=>rfl)) (af aC aw)))))) aw)))⟩))) cv)⟩)))))) cv)))⟩
  (bq ⟨(og (iy:=7) (fr:=["_law_rows","_law_beat"]) (js:=[1,0]) scNof.nd rfl (.inl rfl) rfl (gN (pv 1)) (by trivial) rfl (by trivial) rfl (by exists sNof) (by trivial) rfl (by trivial) (fun _ _ _ _ _=>⟨(pc1 GT FT hr2 (af (pv 1) (af (pv 2) (af (pv 0) aw)))),(pts_one (bK (r:=rIn K false) kX (cH (r:=rIxL K) aY (pv 0) aC (fun _ _=>rfl)) (eP (af dv (af dv (af dv aw)))) rfl))⟩))⟩
  (fu ⟨(bZ (eP (af (eP (af (pv 0) (af (bU bM rfl T.len aR (af (pv 5) aw)) (af (eS jB rfl T.ttup jD (af (cD jh (pv 4) (pv 7)) aw)) aw)))) (af (eS jB rfl T.ttup jD (af (pv 5) aw)) aw))))⟩))))))),?_⟩
 have big:(100000:Nat)≤au:=by decide
 have ok:=pok.ok;have okI:=ok.okI;have few:=pok.few;have lxs:xs.length=rows.length:=by rw [rw_.len,ae]
 intro D hD;have S1:b8 H (upd H D (.dT [])):=(b8.refl H).put hD;have h1:(upd H D (.dT [])) D=some (.dT []):=aP;generalize upd H D (.dT [])=H1 at S1 h1 ⊢;refine ⟨_,rfl,R,rfl,⟨_,SqL.of (S1 _ _ hR)⟩,?_⟩;refine jP (K:=K) (a:=R) (xs:=xs) (fun i σ HA=>b8 H HA∧(∃ kvs,HA D=some (.dT kvs)∧kvs.length≤i∧Styd HA kvs (nt (rows.take i)))∧∃ v3,σ=[some (.int b),some (.ref R),some (.ref D),v3,none,none,none,none])
  ⟨S1,⟨[],h1,az _,fun n z=>⟨(fun v hv=>by cases hv),fun _=>rfl⟩⟩,none,rfl⟩ (fun i σ HA _ q=>SqL.of (q.1 _ _ hR)) ?_ ?_
 ·rintro i x σ HA hx ⟨SA,⟨kvs,hk,lk,st⟩,v3,rfl⟩
  have hi:i<rows.length:=by rw [←lxs];exact (ah.mp hx).1
  have hp:=gE hi;have et:rows.take (i+1)=rows.take i++[rows[i]]:=by rw [aW,hp];rfl
  have okr:=ok i _ hp;obtain ⟨a,hxa,hra⟩:=rw_.get i rows[i].rowV (by rw [ax,hp];rfl);rw [hx] at hxa;cases hxa;rw [et,l6];generalize rows[i]=r at okr hra ⊢;have hra2:=SA _ _ hra;cases r with
  | beat b=>exact pF okr id
  | line n ss rs =>
   have hra2:HA a=some (.lst (.str "line" :: .str n::iG ss rs)):=hra2;refine ⟨_,rfl,a,_,_,_,rfl,rfl,SqL.of hra2,aE (j:=0) rfl,rfl,_,rfl,iL (by trivial) ?_⟩;exact ⟨SA,⟨kvs,hk,by lia,st⟩,_,rfl⟩
  | oth kk ns is =>
   have hra2:HA a=some (.lst (.str kk::(ns.map V.str++is.map V.int))):=hra2
   rcases okr with ⟨rfl,x,z,l,o,wt,q,_,rfl,rfl,_⟩ | ⟨hk',_⟩
   ·have hra2:HA a=some (.lst [.str "stay",.str x.n,.str z,.int l,.int o,.int wt]):=hra2
    refine ⟨_,rfl,a,_,_,_,rfl,rfl,SqL.of hra2,aE (j:=0) rfl,rfl,_,rfl,oA (pG rfl) ?_⟩;refine ⟨_,rfl,_,rfl,a,_,rfl,SqL.of hra2,fun C HB SB eB=>?_⟩;rw [cutF (i:=3) (n:=3) rfl] at eB;refine ⟨C,_,rfl,SqL.of eB,fun t HC SC eC=>?_⟩;have SAC:=SB.trans SC;have hra3:=SAC _ _ hra2;refine ⟨_,rfl,_,rfl,a,_,_,_,rfl,rfl,SqL.of hra3,aE (j:=1) rfl,_,rfl,a,_,_,_,rfl,rfl,SqL.of hra3,aE (j:=2) rfl,oR,fun B HE SE eE=>?_⟩;have SAE:=SAC.trans SE;have eE:HE B=some (.tup (([.inr x.n,.inr z]:List Key).map kV)):=eE;have hD2:=SAE _ _ hk;refine ⟨D,_,rfl,DPut.t hD2 eE (by lia),?_⟩;refine ⟨fun c o e=>by rw [aX (aV e hD)];exact (SA.trans SAE) _ _ e,⟨_,aP,by have:=lQ kvs ([.inr x.n,.inr z]:List Key) (.ref t);lia,fun n' z'=>?_⟩,_,rfl⟩;rw [valV_put,lZ];have iff_:(([.inr n',.inr z']:List Key)=[.inr x.n,.inr z])↔(n'=x.n∧z'=z):=by
     constructor
     ·intro h
      injection h with h1 h2
      injection h2 with h2 _
      injection h1 with h1
      injection h2 with h2
      exact ⟨h1,h2⟩
     ·rintro ⟨rfl,rfl⟩;rfl
    by_cases c:n'=x.n∧z'=z
    ·rw [pE c,pE (iff_.mpr c)]
     refine ⟨fun v hv=>?_,(fun hv=>by cases hv)⟩;cases hv;exact ⟨t,rfl,by rw [aX (de (SE _ _ eC) hD2 nofun)];exact SE _ _ eC⟩
    ·rw [pB c,pB fun h=>c (iff_.mp h)]
     exact (st.keep (fun a t e=>by rw [aX (de (SAE _ _ e) hD2 nofun)];exact SAE _ _ e)) n' z'
   ·refine ⟨_,rfl,a,_,_,_,rfl,rfl,SqL.of hra2,aE (j:=0) rfl,rfl,_,rfl,iL (pH fun z=>hk' (by injection z)) ?_⟩
    rw [styS_no _ hk'];exact ⟨SA,⟨kvs,hk,by lia,st⟩,_,rfl⟩
 rintro σ H2 ⟨S2,⟨kvs,hD2,_,st2⟩,v3,rfl⟩;rw [lxs,bI] at st2;refine ⟨(by show 0≤au;decide),fun LS hLS=>?_⟩;have S3:b8 H2 (upd H2 LS (.lst [])):=(b8.refl H2).put hLS;have h3:(upd H2 LS (.lst [])) LS=some (.lst []):=aP;generalize upd H2 LS (.lst [])=H3 at S3 h3 ⊢;refine ⟨(by show 0≤au;decide),fun LB hLB=>?_⟩;have S4:b8 H3 (upd H3 LB (.lst [])):=(b8.refl H3).put hLB;have h4:(upd H3 LB (.lst [])) LB=some (.lst []):=aP;have nSB:LS≠LB:=aV h3 hLB;generalize upd H3 LB (.lst [])=H4 at S4 h4 ⊢;have fS:H2 LS=none:=hLS;have fB:H2 LB=none:=S3.free hLB;have I0:NfI H2 H4 D LS LB kvs (nt rows) [] []:=⟨S3.trans S4,(S3.trans S4) _ _ hD2,st2.keep fun a t e=>(S3.trans S4) _ _ e,⟨[],S4 _ _ h3,rfl⟩,⟨[],h4,rfl⟩⟩;have lok:∀ l∈ig rows,l.ss.length=l.rs.length+1∧1≤l.rs.length:=fun l hl=>by
  have m:l.core∈lsC rows:=by rw [←eT];exact cX hl
  obtain ⟨_,_,_,a,_,c,_⟩:=ok.lnOk m;have a:2≤l.ss.length:=a;have c:l.ss.length=l.rs.length+1:=c;exact ⟨c,by lia⟩
 have hap16:gf (ig rows)≤16:=by rw [←jz,eT];exact pok.hap
 have hRH4:=(S2.trans (S3.trans S4)) _ _ hR;refine ⟨_,rfl,R,rfl,⟨_,SqL.of hRH4⟩,?_⟩;refine jP (K:=K) (a:=R) (xs:=xs) (fun i σ HA=>NfI H2 HA D LS LB kvs (nt rows) (spnT ((ig rows).take (lsC (rows.take i)).length)) (labT ((ig rows).take (lsC (rows.take i)).length))∧∃ v3 v6,σ=[some (.int b),some (.ref R),some (.ref D),v3,some (.ref LS),some (.ref LB),v6,none])
  ⟨I0,_,none,rfl⟩ (fun i σ HA _ q=>SqL.of (q.1.S _ _ (S2 _ _ hR))) ?_ ?_
 ·rintro i x σ HA hx ⟨I,v3,v6,rfl⟩
  have hi:i<rows.length:=by rw [←lxs];exact (ah.mp hx).1
  have hp:=gE hi;have et:rows.take (i+1)=rows.take i++[rows[i]]:=by rw [aW,hp];rfl
  have okr:=ok i _ hp;obtain ⟨a,hxa,hra⟩:=rw_.get i rows[i].rowV (by rw [ax,hp];rfl);rw [hx] at hxa;cases hxa;rw [et,gj];have hra:=S2 _ _ hra;generalize rows[i]=r at okr hra hp ⊢;cases r with
  | beat b=>exact pF okr id
  | oth kk ns is =>
   have kl:kk ≠ "line" := (okI _ (ay hp)).1;have hra2:HA a=some (.lst (.str kk::(ns.map V.str++is.map V.int))):=I.S _ _ hra;refine ⟨_,rfl,a,_,_,_,rfl,rfl,SqL.of hra2,aE (j:=0) rfl,rfl,_,rfl,iL (pH fun z=>kl (by injection z)) ?_⟩;exact ⟨I,_,_,rfl⟩
  | line n ss rs =>
   obtain ⟨l,hl,lc⟩:=lsOf_at hp;obtain ⟨_,_,_,_,o4,o5,o6,_⟩:=okr;have hra:H2 a=some (.lst (.str "line" :: .str n::iG ss rs)):=hra;have lrow:(V.str "line" :: .str n::iG ss rs).length=2 * ss.length+1:=by rw [aD,aD,jk o6];lia
   have em:(nV (lsC (rows.take i)) (.line n ss rs)).length=(lsC (rows.take i)).length+1:=by show (_++[_]).length=_;rw [aj];rfl
   rw [em];have hlm:=ay hl;have lst_:=sty_lsOf ok l hlm;have hF:gf ((ig rows).take (lsC (rows.take i)).length)=l.fi:=by
    have e1:((ig rows).take (lsC (rows.take i)).length).map Ln.core=lsC (rows.take i):=by
     obtain ⟨t,e⟩:=lsC_pre rows i;rw [jQ,eT,e,fJ rfl]
    rw [←jz,e1];have:=pJ Ln.fi lc;exact this.symm
   generalize hm:(lsC (rows.take i)).length=m at I hl hF ⊢;have e1:l.n=n:=pJ Ln.n lc;have e2:l.ss=ss:=pJ Ln.ss lc;have e3:l.rs=rs:=pJ Ln.rs lc;have lbl:=labT_len (ls:=(ig rows).take m) fun x hx=>(lok x (jU hx)).1
   have lbl16:(labT ((ig rows).take m)).length≤16:=by have:=hap_take2 (ig rows) m;lia
   have spl16:(spnT ((ig rows).take m)).length≤16:=by
    unfold spnT;rw [ae];have h1:=own_le ((ig rows).take m);have h2:=hap_cast ((ig rows).take m);have:=hap_take2 (ig rows) m;lia
   have tl:labT ((ig rows).take (m+1))=labT ((ig rows).take m)++kU n ss:=by
    unfold labT;rw [aW,hl,j9];congr 1;show kU l.n l.ss++[]=_;rw [cG,e1,e2]
   have ts:spnT ((ig rows).take (m+1))=spnT ((ig rows).take m)++(lX l).map ko:=by
    unfold spnT;rw [aW,hl,j9,aq];congr 2;show lX l++[]=_;rw [cG]
   rw [tl,ts];generalize labT ((ig rows).take m)=lb0 at I lbl lbl16 ⊢;generalize spnT ((ig rows).take m)=sp0 at I spl16 ⊢;have lbF:((lb0.length:Nat):Int)=l.fi:=lbl.trans hF;have llabs:(kU n ss).length=2 * (ss.length - 1):=oy n ss;have hls:l.ss.length=l.rs.length+1:=by rw [e2,e3];exact o6
   have lown:((lX l).map ko).length=2 * ss.length - 3:=by rw [ae,own_lenS hls (by rw [e3];lia),e3];lia
   refine ⟨_,rfl,a,_,_,_,rfl,rfl,SqL.of (I.S _ _ hra),aE (j:=0) rfl,rfl,_,rfl,oA (pG rfl) ?_⟩;refine ⟨_,rfl,a,_,rfl,.inl (SqL.of (I.S _ _ hra)),2,_,rfl,⟨by decide,by decide,by rw [lrow];lia,by rw [lrow];lia⟩,?_⟩;have en:((((V.str "line" :: .str n::iG ss rs).length:Nat):Int) - 2+1) / 2=(ss.length:Int):=by rw [lrow];lia
   rw [en,eU];refine lE (lo:=2) (n:=ss.length) (fun j σ HC=>NfI H2 HC D LS LB kvs (nt rows) (sp0++((lX l).map ko).take (2 * j - 1)) (lb0++(kU n ss).take (2 * j - 1))∧∃ v6,σ=[some (.int b),some (.ref R),some (.ref D),some (.ref a),some (.ref LS),some (.ref LB),v6,none])
    ⟨by show NfI _ _ _ _ _ _ _ (sp0++[]) (lb0++[]);rw [cG,cG];exact I,_,rfl⟩ ?_ ?_
   ·rintro j σ HC hj ⟨IC,v6,rfl⟩
    obtain ⟨s1,hs1⟩:∃ s,ss[j]? =some s:=⟨_,gE hj⟩;have g1:atI (V.str "line" :: .str n::iG ss rs) ((2:Int)+(j:Nat) * 2)=some (.str s1):=by
     rw [show (2:Int)+(j:Nat) * 2=((2 * j+1+1:Nat):Int) by lia];exact aE (by rw [aH,aH,oE j o6,hs1];rfl)
    have lbt:∀ c:Nat,(lb0++(kU n ss).take c).length≤100:=fun c=>by rw [aj,aU];lia
    have spt:∀ c:Nat,(sp0++((lX l).map ko).take c).length≤100:=fun c=>by rw [aj,aU];lia
    refine ⟨fun σ' H'=>NfI H2 H' D LS LB kvs (nt rows) (sp0++((lX l).map ko).take (2 * j - 1)) (lb0++(kU n ss).take (2 * j))∧σ'=[some (.int b),some (.ref R),some (.ref D),some (.ref a),some (.ref LS),some (.ref LB),some (.int ((2:Int)+(j:Nat) * 2)),none],fun σ' H5 qq=>?_,?_⟩
    rotate_left
    ·cases j with
     | zero =>
      refine ⟨_,rfl,_,_,rfl,rfl,_,rfl,iL (by decide) ?_⟩;exact ⟨IC,rfl⟩
     | succ j =>
      refine ⟨_,rfl,_,_,rfl,rfl,_,rfl,oA (pG (by lia)) ?_⟩;obtain ⟨ws,hw,_⟩:=IC.l.len;refine ⟨_,rfl,.inl ⟨rfl,_,SqL.of hw⟩,_,rfl,a,_,_,_,rfl,rfl,SqL.of (IC.S _ _ hra),aE (j:=1) rfl,_,rfl,_,rfl,a,_,_,_,rfl,rfl,SqL.of (IC.S _ _ hra),g1,(by show 3≤au;decide),fun B H5 S5 e5=>?_⟩;obtain ⟨ws2,hw2,lz,I5⟩:=(IC.same S5).appL fB nSB e5 (by have:=lbt (2 * (j+1) - 1);lia);refine ⟨LB,ws2,_,rfl,rfl,hw2,lz,?_,rfl⟩;have e:(kU n ss).take (2 * (j+1))=(kU n ss).take (2 * (j+1) - 1)++[[.str n,.str s1,.str "comes"]]:=by
       rw [show 2 * (j+1)=2 * j+1+1 by lia,aW,pj n hs1];rfl
      rw [e,←cw];exact I5
    obtain ⟨I5,rfl⟩:=qq;clear IC;refine ⟨fun σ' H'=>NfI H2 H' D LS LB kvs (nt rows) (sp0++((lX l).map ko).take (2 * j)) (lb0++(kU n ss).take (2 * j))∧σ'=[some (.int b),some (.ref R),some (.ref D),some (.ref a),some (.ref LS),some (.ref LB),some (.int ((2:Int)+(j:Nat) * 2)),none],fun σ' H6 qq=>?_,?_⟩
    rotate_left
    ·cases j with
     | zero =>
      refine ⟨_,rfl,_,_,rfl,rfl,_,rfl,iL (by decide) ?_⟩;exact ⟨I5,rfl⟩
     | succ j =>
      refine ⟨_,rfl,_,_,rfl,rfl,_,rfl,oA (pG (by lia)) ?_⟩;refine ⟨_,rfl,_,rfl,a,_,rfl,.inl (SqL.of (I5.S _ _ hra)),_,_,rfl,rfl,_,_,rfl,rfl,_,rfl,jj (fun c=>?_) (fun c=>?_)⟩
      ·have c:j+2<ss.length:=by have:=pI c;rw [lrow] at this;lia
       obtain ⟨wS,hwS,_⟩:=I5.s.len;obtain ⟨wB,hwB,lwB⟩:=I5.l.len;have lwB:wB.length=lb0.length+(2 * j+2):=by rw [lwB,aj,aU];lia
       refine ⟨_,rfl,.inl ⟨rfl,_,SqL.of hwS⟩,_,rfl,LB,_,rfl,.inl (SqL.of hwB),_,_,rfl,rfl,_,rfl,LB,_,rfl,.inl (SqL.of hwB),oR,fun C H6 S6 e6=>?_⟩;have I6:=I5.same S6;refine ⟨_,rfl,D,rfl,.inr ⟨_,.inl I6.d⟩,_,rfl,a,_,_,_,rfl,rfl,SqL.of (I6.S _ _ hra),aE (j:=1) rfl,_,rfl,_,rfl,a,_,_,_,rfl,rfl,SqL.of (I6.S _ _ hra),g1,oR,fun B H7 S7 e7=>?_⟩;refine ⟨(by show 3≤au;decide),fun Z H8 S8 e8=>?_⟩;have I8:=I6.same (S7.trans S8);have e7:H8 B=some (.tup (([.inr n,.inr s1]:List Key).map kV)):=S8 _ _ e7;refine ⟨_,DGet.t I8.d e7,?_⟩;obtain ⟨st1,st2⟩:=I8.st n s1;obtain ⟨Y,eY,hY⟩:∃ Y,(kC kvs [.inr n,.inr s1]).getD (.ref Z)= .ref Y∧H8 Y=some (.tup [.int (nt rows n s1).1,.int (nt rows n s1).2.1,.int (nt rows n s1).2.2]):=by
        cases hv:kC kvs [.inr n,.inr s1] with
        | none=>exact ⟨Z,rfl,by rw [st2 hv];exact e8⟩
        | some v =>
         obtain ⟨Y,rfl,hY⟩:=st1 v hv;exact ⟨Y,rfl,hY⟩
       rw [eY];refine ⟨C,Y,_,_,rfl,rfl,(S7.trans S8) _ _ e6,hY,(by show 2+3≤au;decide),fun B2 H9 S9 e9=>?_⟩;obtain ⟨ws2,hw2,lz,I9⟩:=(I8.same S9).appS fS nSB e9 (by have:=spt (2 * (j+1) - 1);lia);refine ⟨LS,ws2,_,rfl,rfl,hw2,lz,?_,rfl⟩;have e:((lX l).map ko).take (2 * (j+1))=((lX l).map ko).take (2 * (j+1) - 1)++[[.int ((wB.length:Nat) - 1),.int (wB.length:Nat),.int (nt rows n s1).1,.int (nt rows n s1).2.1,.int (nt rows n s1).2.2]]:=by
        rw [show 2 * (j+1)=2 * j+1+1 by lia,aW,ax,own_stay hls (by rw [e2];exact hs1) (by rw [e2];exact c),lst_,e1];show _++[_]=_++[_];congr 2;show [V.int (l.fi+2 * j+1),V.int (l.fi+2 * j+2),_,_,_]=_;rw [show l.fi+2 * (j:Int)+1=((wB.length:Nat):Int) - 1 by lia,show l.fi+2 * (j:Int)+2=((wB.length:Nat):Int) by lia]
       rw [e,←cw];exact I9
      ·have c:ss.length=j+2:=by
        have:¬ (j+2<ss.length):=fun z=>c (pG (by rw [lrow];lia))
        lia
       refine ⟨?_,rfl⟩;rw [bN (i:=2 * (j+1)) (by lia)];rw [bN (i:=2 * (j+1) - 1) (l:=(lX l).map ko) (by lia)] at I5;exact I5
    obtain ⟨I6,rfl⟩:=qq;clear I5;refine ⟨_,rfl,_,rfl,a,_,rfl,.inl (SqL.of (I6.S _ _ hra)),_,_,rfl,rfl,_,_,rfl,rfl,_,rfl,jj (fun c=>?_) (fun c=>?_)⟩
    ·have c:j+1<ss.length:=by have:=pI c;rw [lrow] at this;lia
     obtain ⟨r1,hr1⟩:∃ r,rs[j]? =some r:=⟨_,gE (by lia)⟩;have g3:atI (V.str "line" :: .str n::iG ss rs) ((2:Int)+(j:Nat) * 2+1)=some (.int r1):=by
      rw [show (2:Int)+(j:Nat) * 2+1=((2 * j+1+1+1:Nat):Int) by lia];exact aE (by rw [aH,aH,intr_r j o6,hr1];rfl)
     obtain ⟨ws,hw,_⟩:=I6.l.len;refine ⟨_,rfl,.inl ⟨rfl,_,SqL.of hw⟩,_,rfl,a,_,_,_,rfl,rfl,SqL.of (I6.S _ _ hra),aE (j:=1) rfl,_,rfl,_,rfl,a,_,_,_,rfl,rfl,SqL.of (I6.S _ _ hra),g1,(by show 3≤au;decide),fun B H7 S7 e7=>?_⟩;obtain ⟨ws2,hw2,lz,I7⟩:=(I6.same S7).appL fB nSB e7 (by have:=lbt (2 * j);lia);refine ⟨LB,ws2,_,rfl,rfl,hw2,lz,?_⟩;have e:(kU n ss).take (2 * (j+1) - 1)=(kU n ss).take (2 * j)++[[.str n,.str s1,.str "goes"]]:=by
      rw [show 2 * (j+1) - 1=2 * j+1 by lia,aW,labs_goes n hs1 c];rfl
     rw [cw,←e] at I7;generalize upd H7 LB (.lst (ws2++[.ref B]))=H8 at I7 ⊢;obtain ⟨wS,hwS,_⟩:=I7.s.len;obtain ⟨wB,hwB,lwB⟩:=I7.l.len;have lwB:wB.length=lb0.length+(2 * j+1):=by rw [lwB,aj,aU];lia
     refine ⟨_,rfl,.inl ⟨rfl,_,SqL.of hwS⟩,_,rfl,LB,_,rfl,.inl (SqL.of hwB),_,_,rfl,rfl,_,rfl,LB,_,rfl,.inl (SqL.of hwB),_,rfl,_,rfl,_,_,rfl,rfl,a,_,_,_,rfl,rfl,SqL.of (I7.S _ _ hra),g3,_,rfl,_,rfl,_,_,rfl,rfl,a,_,_,_,rfl,rfl,SqL.of (I7.S _ _ hra),g3,szZ5,fun B2 H9 S9 e9=>?_⟩;obtain ⟨ws3,hw3,lz3,I9⟩:=(I7.same S9).appS fS nSB e9 (by have:=spt (2 * j);lia);refine ⟨LS,ws3,_,rfl,rfl,hw3,lz3,?_,_,rfl⟩;have e5:((lX l).map ko).take (2 * (j+1) - 1)=((lX l).map ko).take (2 * j)++[[.int ((wB.length:Nat) - 1),.int (wB.length:Nat),.int r1,.int r1,.int 0]]:=by
      rw [show 2 * (j+1) - 1=2 * j+1 by lia,aW,ax,own_ride hls (by rw [e3];exact hr1)];show _++[_]=_++[_];congr 2;show [V.int (l.fi+2 * j),V.int (l.fi+2 * j+1),_,_,_]=_;rw [show l.fi+2 * (j:Int)=((wB.length:Nat):Int) - 1 by lia,show ((wB.length:Nat):Int) - 1+1=((wB.length:Nat):Int) by lia]
     rw [cw,←e5] at I9;exact I9
    ·have c:ss.length=j+1:=by
      have:¬ (j+1<ss.length):=fun z=>c (pG (by rw [lrow];lia))
      lia
     refine ⟨?_,_,rfl⟩;rw [bN (i:=2 * (j+1) - 1) (l:=(lX l).map ko) (by lia),bN (i:=2 * (j+1) - 1) (l:=kU n ss) (by lia)];rw [bN (i:=2 * j) (l:=(lX l).map ko) (by lia),bN (i:=2 * j) (l:=kU n ss) (by lia)] at I6;exact I6
   ·rintro σ HC ⟨IC,v6,rfl⟩
    refine ⟨?_,_,_,rfl⟩;rw [bN (l:=(lX l).map ko) (by lia),bN (l:=kU n ss) (by lia)] at IC;exact IC
 rintro σ H5 ⟨I5,v3,v6,rfl⟩;have em:(ig rows).take (lsC (rows.take xs.length)).length=ig rows:=by
  rw [lxs,bI];exact bN (by rw [←eT,ae];exact az _)
 rw [em] at I5;have hR5:=I5.S _ _ (S2 _ _ hR);have rw5:=rw_.same (S2.trans I5.S);refine ⟨_,rfl,R,rfl,⟨_,SqL.of hR5⟩,?_⟩;have okE:∀ r∈rows,r.okE:=fun r hr=>okI_E (okI r hr)
 have nd:=ok.nd;have nss:∀ x∈lsC rows,x.ss.Nodup:=fun x hx=>(ok.lnOk hx).2.2.1
 refine iW (K:=K) (a:=R) (xs:=xs) (fun i zs HA=>b8 H5 HA∧∃ (as:List ak) (m:Nat),zs=as.map V.ref∧as.map HA=((bt.take m).map ko).map (fun t=>some (HO.tup t))∧Bts b (lsC rows) (rows.drop i) (bt.drop m)∧as.length≤i) ⟨b8.refl _,[],0,rfl,rfl,bts,az _⟩ (fun i zs HA _ q=>?_) (by lia) (fun i x zs HA hx q=>?_) (fun zs HA q D2 hD2'=>?_)
 ·obtain ⟨SA,as,m,rfl,_,_,la⟩:=q
  exact ⟨SqL.of (SA _ _ hR5),by rw [ae];exact la⟩
 ·obtain ⟨SA,as,m,rfl,hA,bA,la⟩:=q
  have hi:i<rows.length:=by rw [←lxs];exact (ah.mp hx).1
  have hp:=gE hi;obtain ⟨a,hxa,hra⟩:=rw5.get i rows[i].rowV (by rw [ax,hp];rfl);rw [hx] at hxa;cases hxa;have hra:=SA _ _ hra;have okr:=okI _ (cJ hi);rw [iI hi] at bA;obtain ⟨h0,t0,er⟩:∃ h0 t0,rows[i].rowV= .str h0::t0:=rowV_str _;have hra0:HA a=some (.lst (.str h0::t0)):=by rw [hra,er]
  refine ⟨_,rfl,a,_,_,_,rfl,rfl,SqL.of hra0,aE (j:=0) rfl,(by show 3≤au;decide),fun W HB SB eB=>?_⟩;refine ⟨W,_,rfl,.inr (SqT.of eB),rfl,rfl,_,rfl,?_⟩;have kA:as.map HB=((bt.take m).map ko).map (fun t=>some (HO.tup t)):=iQ hA fun c t e=>SB _ _ e
  show if inV (.str h0) ((["change","apart","meet"]:List Str).map V.str)=true then _ else _;rw [inV_str]
  rcases bts_drop bA with ⟨b0,bt'⟩ | ⟨kk,ns,is,sn,b',e1,e2,hk,B,bt'⟩
  ·refine iL ?_ ⟨SA.trans SB,as,m,rfl,kA,bt',by lia⟩
   have:h0 = "line" ∨h0 = "stay" := by
    generalize rows[i]=r at er b0 okr;cases r with
    | beat b=>exact pF okr id
    | line n ss rs=>injection er with er _;injection er with er;exact .inl er.symm
    | oth kk ns is =>
     injection er with er _
     injection er with er
     by_cases c:kk = "stay"
     ·exact .inr (er.symm.trans c)
     ·have b0:(if kk = "stay" then 0 else 1)=0:=b0
      rw [pB c] at b0;cases b0
   refine pH ?_
   rcases this with rfl | rfl <;> decide +kernel
  ·obtain ⟨x,y,hx',hy',ne',B'⟩:=id B
   have fm:=bt_form B';rw [e1] at er hra;have hk0:h0=kk:=by injection er with er _;injection er with er;exact er.symm
   refine oA (pG (by rw [hk0];cases fm <;> simp)) ?_;refine ⟨_,rfl,_,rfl,_,rfl,R,a,xs,rows,b,kk,ns,is,rfl,(SA.trans SB) _ _ hR5,rw5.same (SA.trans SB),okE,by lia,SB _ _ hra,fm,fun t s g l o wt HC SC eC tw=>?_⟩;obtain ⟨q1,q2,q3,q4,q5⟩:=tw.of nd nss B;have eC:HC t=some (.tup (ko sn)):=by rw [eC,q1,q2,q3,q4,q5];rfl
   have hm:m<bt.length:=by
    by_cases c:m<bt.length
    ·exact c
    ·rw [jq (by lia)] at e2;cases e2
   rw [iI hm] at e2;injection e2 with e2 e3
   refine ⟨SA.trans (SB.trans SC),as++[t],m+1,by rw [aq];rfl,?_,by rw [e3];exact bt',by rw [aj];show _+1≤_;lia⟩;rw [aq,aW,gE hm,e2,aq,aq,iQ kA fun c t e=>SC _ _ e];show _++[HC t]=_++[_];rw [eC]
 obtain ⟨SA,as,m,rfl,hA,bA,la⟩:=q;rw [lxs,jq (az _)] at bA;have bA':bt.drop m=[]:=by
  generalize bt.drop m=z at bA;cases bA;rfl
 have tk:bt.take m=bt:=bN (by have:=pJ gc bA';rw [bV] at this;simp at this;lia);rw [tk] at hA;have S6:b8 HA (upd HA D2 (.lst (as.map V.ref))):=(b8.refl HA).put hD2';have h6:(upd HA D2 (.lst (as.map V.ref))) D2=some (.lst (as.map V.ref)):=aP;generalize upd HA D2 (.lst (as.map V.ref))=H6 at S6 h6 ⊢;have I6:=I5.same (SA.trans S6);have hA6:as.map H6=(bt.map ko).map (fun t=>some (HO.tup t)):=iQ hA fun c t e=>S6 _ _ e
 obtain ⟨sa,hsa,dsa⟩:=I6.s.ex;obtain ⟨lba,hlb,dlb⟩:=I6.l.ex;have lsa:sa.length≤100:=by
  have e:=pJ gc dsa;rw [ae,ae] at e;unfold spnT at e;rw [ae] at e;have h1:=own_le (ig rows);have h2:=hap_cast (ig rows);lia
 refine ⟨_,rfl,_,rfl,LB,_,rfl,.inl (SqL.of hlb),_,rfl,_,rfl,LS,D2,_,_,rfl,rfl,hsa,h6,(by rw [ae,ae];lia),fun C H7 S7 e7=>?_⟩;refine ⟨C,_,rfl,SqL.of e7,fun t H8 S8 e8=>?_⟩;refine ⟨(by show 3≤au;decide),fun N H9 S9 e9=>?_⟩;have S69:=S7.trans (S8.trans S9);refine ⟨_,rfl,LB,_,rfl,SqL.of (S69 _ _ hlb),fun U Ha Sa ea=>?_⟩;refine ⟨oR,fun r Hb Sb eb=>?_⟩;have S6b:=S69.trans (Sa.trans Sb);have dd:(sa++as).map Hb=((mB (ig rows) bt).map ko).map (fun t=>some (HO.tup t)):=by
  unfold mB;rw [aq,aq,aq];congr 1
  ·exact iQ dsa fun c t e=>S6b _ _ e
  ·exact iQ hA6 fun c t e=>S6b _ _ e
 have lbl:((lba.map V.ref).length:Int)=gf (ig rows):=by
  rw [ae];have e:=pJ gc dlb;rw [ae,ae] at e;rw [e];exact labT_len fun x hx=>(lok x hx).1
 refine k _ Hb (S2.trans (I6.S.trans S6b)) (.tup eb (.cons (.tup ((Sa.trans Sb) _ _ e9) ?_) (.cons (.tup (Sb _ _ ea) ?_) .nil)))
 ·rw [lbl]
  refine .cons (.int _) (.cons (.int _) (.cons (.tup ((S9.trans (Sa.trans Sb)) _ _ e8) ?_) .nil));rw [←aq];exact tups_isD dd
 ·exact labs_isD (iQ dlb fun c t e=>S6b _ _ e) fun t ht=>by
   obtain ⟨y,_,hy⟩:=jM.mp ht;exact mn _ _ t hy
abbrev sPla:cN:=top 55
abbrev sLaw:cN:=top 56
theorem inI_mono {hi':Int}(h:hi≤hi')(q:inI v lo hi=true):inI v lo hi'=true:=by
 cases v with
 | int i =>
  have q:(decide (lo≤i) && decide (i≤hi))=true:=q;rw [bY] at q;show (decide (lo≤i) && decide (i≤hi'))=true;rw [q.1,pG (Int.le_trans (pI q.2) h)];rfl
 | _=>cases q
theorem snB_mono {m m':Int}{x:Sn}(h:m≤m')(q:snB b m x=true):snB b m' x=true:=by
 unfold snB lU at *;rw [bY,bY,bY] at q;obtain ⟨⟨q1,q2,q3⟩,q4⟩:=q;rw [inI_mono (show m - 1≤m' - 1 by lia) q1,inI_mono (show m - 1≤m' - 1 by lia) q2,q3,q4];rfl
theorem tk_hap {l1:List Ln}{b1:List Sn}(h:Tk b ls bt r l1 b1):gf ls≤gf l1∧((∀ x∈bt,snB b (gf ls) x=true)→∀ x∈b1,snB b (gf l1) x=true):=by
 cases h with
 | beat h=>exact ⟨iB _,id⟩
 | line hn nd two few rl sm =>
  rw [jX];exact ⟨by lia,fun q x hx=>snB_mono (by lia) (q x hx)⟩
 | btw B h1 h2 h3 ok sm =>
  refine ⟨iB _,fun q x hx=>?_⟩
  rcases bg.mp hx with hx | hx
  ·exact q x hx
  ·rw [aB.mp hx];exact ok
 | @stay x z l o w i hx hz few h1 h2 h3 ok =>
  have e:gf (ls.map (iR x.n z (l,o,w)))=gf ls:=by
   rw [←jz,bO,←jz ls];congr 1;exact cP fun y _=>nW _ _ _ y
  rw [e];exact ⟨iB _,id⟩
theorem runs_btB:∀ {ls l2:List Ln} {bt b2:List Sn},Runs b ls bt rs l2 b2→(∀ x∈bt,snB b (gf ls) x=true)→∀ x∈b2,snB b (gf l2) x=true:=by
 induction rs with
 | nil=>intro ls l2 bt b2 h q;cases h;exact q
 | cons r rs ih =>
  intro ls l2 bt b2 h q;cases h with
  | cons tk t=>exact ih t ((tk_hap tk).2 q)
theorem styP_num (hb:1≤b):gn b rows→∀ n z,NumOk b (nt rows n z).1 (nt rows n z).2.1 (nt rows n z).2.2:=by
 induction rows using snocI with
 | h0 =>
  intro _ n z;show NumOk b 0 0 0;exact ⟨by decide,by decide,by lia,by decide,by decide,by decide⟩
 | h1 rs r ih =>
  intro ok n z;have ok0:gn b rs:=by
   have:=ok.take rs.length
   rwa [fJ rfl] at this
  have o:lH b rs r:=by
   have:=ok rs.length r (by rw [aN (az _),dJ];rfl)
   rwa [fJ rfl] at this
  rw [l6];cases r with
  | beat b=>exact pF o id
  | line n' ss rs'=>exact ih ok0 n z
  | oth k ns is =>
   rcases o with ⟨rfl,y,z',l,o,w,i,hy,rfl,rfl,_,_,_,no,num⟩ | ⟨hk,_⟩
   ·rw [lZ]
    split
    ·exact num
    ·exact ih ok0 n z
   ·rw [styS_no _ hk]
    exact ih ok0 n z
theorem own_ok {m:Int}(hb:1≤b)(f0:0≤l.fi)(f1:l.fi+2 * (l.rs.length:Int)≤m)(hl:l.ss.length=l.rs.length+1)(hr:∀ r∈l.rs,0≤r∧r<10 ^ 12)(hs:∀ z,NumOk b (sty l.st z).1 (sty l.st z).2.1 (sty l.st z).2.2):∀ x∈lX l,snB b m x=true:=fun x hx=>by
 obtain ⟨i,hi,hx⟩:=jM.mp hx;have hi:=List.mem_range.mp hi;unfold stp at hx;have g:l.rs.getD i 0=l.rs[i]:=by rw [bh,gE hi];rfl
 rcases av.mp hx with rfl | hx
 ·have:=hr _ (cJ hi)
  rw [g];exact snB_of (by dsimp only;lia) (by dsimp only;lia) (by dsimp only;lia) (by dsimp only;lia) (by dsimp only;lia) this.1 (iB _) (by dsimp only;lia) (by dsimp only;lia) (by dsimp only;decide) (by dsimp only;decide)
 ·split at hx
  ·rw [aB.mp hx]
   obtain ⟨u1,u2,u3,u4,u5,u6⟩:=hs (l.ss.getD (i+1) ef);exact snB_of (by dsimp only;lia) (by dsimp only;lia) (by dsimp only;lia) (by dsimp only;lia) (by dsimp only;lia) u1 u2 u3 u4 u5 u6
  ·cases hx
theorem lK.spans (h:lK b rows)(r:Runs b [] [] (.beat b::rows) (ig rows) bt):(∀ x∈mB (ig rows) bt,snB b (gf (ig rows)) x=true)∧(mB (ig rows) bt).length≤40∧1≤gf (ig rows)∧gf (ig rows)≤16:=by
 have lay:=lay_C rows;have hapE:gf (ig rows)=gf (lsC rows):=by rw [←jz,eT]
 have fi:∀ l∈ig rows,(0≤l.fi∧l.fi+2 * (l.rs.length:Int)≤gf (ig rows))∧(PR.line l.n l.ss l.rs).lnOk:=fun l hl=>by
  have m:l.core∈lsC rows:=by rw [←eT];exact cX hl
  rw [hapE];exact ⟨lay.in_ l.core m,h.ok.lnOk (x:=l.core) m⟩
 obtain ⟨bt2,r2,e2⟩:=runs_of h.b1 rows [] [] h.ok h.hap h.spn h.few rfl;refine ⟨fun x hx=>?_,?_,?_,by rw [hapE];exact h.hap⟩
 ·rcases bg.mp hx with hx | hx
  ·obtain ⟨l,hl,hx⟩:=jM.mp hx
   obtain ⟨⟨a1,a2⟩,_,_,_,_,_,a8,a9⟩:=fi l hl;exact own_ok h.b1 a1 a2 a8 a9 (fun z=>by rw [sty_lsOf h.ok l hl];exact styP_num h.b1 h.ok l.n z) x hx
  ·exact runs_btB r (fun x hx=>by cases hx) x hx
 ·have B:=h.bts r
  have lb:∀ {rs:List PR} {ys:List Sn},Bts b (lsC rows) rs ys→ys.length=bwP rs:=by
   intro rs
   induction rs with
   | nil=>intro ys B;cases B;rfl
   | cons q rs ih =>
    intro ys B;unfold bwP at *;rw [aT,dq];cases B with
    | skip h t=>rw [h,ih t];lia
    | btw hk B t =>
     rw [aD,ih t];show _=(if _ then 0 else 1)+_;rw [pB hk];lia
  rw [allS_len fun l hl=>⟨(fi l hl).2.2.2.2.2.2.1,by have:=(fi l hl).2.2.2.2.1;have:=(fi l hl).2.2.2.2.2.2.1;lia⟩,lb B,←ownL_core,eT,own_C];exact h.spn
 ·cases e:ig rows with
  | nil=>exact pF (by rw [←eT,e];rfl) h.ne
  | cons l t =>
   have:=(fi l (by rw [e];exact bG));obtain ⟨⟨a1,a2⟩,_,_,_,a5,_,a8,_⟩:=this;rw [e] at a2;lia
theorem kn_int (i:Int):Kn H (.int i):=⟨_,rfl⟩
theorem g3_net {m:Int}{sp:List Sn}(h:IsD H v (netP b m sp)):G3 H v:=by
 obtain ⟨t,p,ys,rfl,ht,hp,ly,g⟩:=netP_of h;have kn:∀ {a:ak} {zs:List V},H a=some (.tup zs)→Kn H (.ref a):=fun {a zs} e=>⟨"tuple",by unfold tyn;dsimp only;rw [e]⟩
 have gi:∀ (Pq:V→Prop) (i:Int),Below Pq H (.int i):=fun Pq i=>⟨kn_int i,(fun a xs e=>by cases e)⟩
 refine ⟨kn ht,fun a xs e1 e2 x hx=>?_⟩;cases e1;rw [ht] at e2;cases e2;simp only [av,aL,or_false] at hx
 rcases hx with rfl | rfl | rfl
 ·exact gi _ _
 ·exact gi _ _
 ·refine ⟨kn hp,fun a xs e1 e2 x hx=>?_⟩
  cases e1;rw [hp] at e2;cases e2;obtain ⟨i,hi⟩:=bR hx;obtain ⟨q,e3,e4⟩:=g i _ (gE (show i<sp.length by rw [←ly];exact (ah.mp hi).1));rw [hi] at e3;cases e3;refine ⟨kn e4,fun a xs e1 e2 x hx=>?_⟩;cases e1;rw [e4] at e2;cases e2;simp only [av,aL,or_false] at hx
  rcases hx with rfl | rfl | rfl | rfl | rfl <;> exact kn_int _
theorem netOk_net {m:Int}{sp:List Sn}(h:IsD H v (netP b m sp))(b1:1≤b)(b2:b≤10 ^ 21)(m1:1≤m)(m2:m≤16)(l40:sp.length≤40)(ok:∀ x∈sp,snB b m x=true):netOk H v=true:=by
 obtain ⟨t,p,ys,rfl,ht,hp,ly,g⟩:=netP_of h;have e1:inI (.int b) 1 B60=true:=by
  show (decide (1≤b) && decide (b≤B60))=true;rw [pG b1,pG (by unfold B60;lia)];rfl
 have e2:inI (.int m) 1 16=true:=by
  show (decide (1≤m) && decide (m≤16))=true;rw [pG m1,pG m2];rfl
 have e3:km H b m (.ref p)=true:=by
  unfold km
  dsimp only
  rw [hp]
  dsimp only
  rw [pG (by lia),gy,gJ];intro x hx;obtain ⟨i,hi⟩:=bR hx;have hs:=gE (show i<sp.length by rw [←ly];exact (ah.mp hi).1);obtain ⟨q,e3,e4⟩:=g i _ hs;rw [hi] at e3;cases e3;unfold ju
  dsimp only
  rw [e4];exact ok _ (ay hs)
 unfold netOk
 dsimp only
 rw [ht]
 dsimp only
 rw [e1,e2,gy,gy];exact e3
theorem oY:∀ {ds:List Dt},(∀ d∈ds,pl d=true)→pls ds=true
 | [],_=>by unfold pls;rfl
 | d::ds,h=>by
  unfold pls;rw [h d bG,oY fun x hx=>h x (aO _ hx)];rfl
theorem mU {n:Nat}:∀ {ds:List Dt},(∀ d∈ds,dep d≤n)→deps ds≤n
 | [],_=>by unfold deps;lia
 | d::ds,h=>by
  unfold deps;have:=h d bG;have:=mU (ds:=ds) fun x hx=>h x (aO _ hx)
  lia
theorem pl_tup (h:pls ds=true):pl (.tup ds)=true:=by unfold pl;exact h
theorem oK (h:deps ds≤n):dep (.tup ds)≤n+1:=by unfold dep;lia
theorem lab_strs (ls:List Ln):∃ lss:List (List Str),(allLL ls).map (fun t=>Dt.tup (t.map vD))=(lss.map fun s=> .tup (s.map Dt.str))∧∀ ss∈lss,ss.length≤10:=by
 have all:∀ t∈allLL ls,∃ a b c:Str,t=[.str a,.str b,.str c]:=fun t ht=>by
  obtain ⟨y,_,hy⟩:=jM.mp ht;exact mn _ _ t hy
 generalize allLL ls=ts at all
 induction ts with
 | nil=>exact ⟨[],rfl,(fun ss h=>by cases h)⟩
 | cons t ts ih =>
  obtain ⟨lss,e,f⟩:=ih fun x hx=>all x (aO _ hx)
  obtain ⟨a,b,c,rfl⟩:=all t bG;exact ⟨[a,b,c]::lss,by rw [aT,e];rfl,fun ss hs=>by
   rcases av.mp hs with rfl | hs
   ·simp
   ·exact f ss hs⟩
theorem found_pl (b m:Int)(sp:List Sn)(lss:List (List Str)):pls [netP b m sp,.tup (lss.map fun s=> .tup (s.map Dt.str))]=true∧deps [netP b m sp,.tup (lss.map fun s=> .tup (s.map Dt.str))]<60:=by
 constructor
 ·refine oY fun d hd=>?_
  simp only [av,aL,or_false] at hd
  rcases hd with rfl | rfl
  ·exact pl_tup (oY fun d hd=>by
    simp only [av,aL,or_false] at hd
    rcases hd with rfl | rfl | rfl
    ·unfold pl;rfl
    ·unfold pl;rfl
    ·refine pl_tup (oY fun d hd=>?_)
     obtain ⟨x,_,rfl⟩:=aG.mp hd;exact pl_tup (pls_ints _))
  ·refine pl_tup (oY fun d hd=>?_)
   obtain ⟨x,_,rfl⟩:=aG.mp hd;refine pl_tup (oY fun d hd=>?_);obtain ⟨y,_,rfl⟩:=aG.mp hd;unfold pl;rfl
 ·refine gZ (mU (n:=5) fun d hd=>?_) (by decide)
  simp only [av,aL,or_false] at hd
  rcases hd with rfl | rfl
  ·refine oK (mU fun d hd=>?_)
   simp only [av,aL,or_false] at hd
   rcases hd with rfl | rfl | rfl
   ·unfold dep;lia
   ·unfold dep;lia
   ·refine oK (mU fun d hd=>?_)
    obtain ⟨x,_,rfl⟩:=aG.mp hd;exact oK (by rw [deps_ints];lia)
  ·refine oK (mU fun d hd=>?_)
   obtain ⟨x,_,rfl⟩:=aG.mp hd;refine oK (mU fun d hd=>?_);obtain ⟨y,_,rfl⟩:=aG.mp hd;unfold dep;lia
inductive spPla (vs:List V)(H:Hp)(Q:VK)(_:XK):Prop
 | mk (v:V)(d:Dt)(lss:List (List Str))(_:vs=[v])(_:IsD H v (.tup [d,.tup (lss.map fun s=> .tup (s.map Dt.str))]))(_:(∀ ss∈lss,ss.length≤10))(_:∀ H',b8 H H'→Q (.bl true) H')
inductive spLaw (K:ai)(vs:List V)(H:Hp)(Q:VK)(_:XK):Prop
 | mk (a:ak)(ns:List Int)(_:vs=[.ref a])(_:SqL K H a (ns.map V.int))(_:ns.length≤63)(_:∀ H',Q (.bl true) H')
theorem scPla:cp ["_law_found","_law_label"] ["_law_found"] (defScope sPla):=by trivial
theorem ok_pla (F:Fun K "_law_is_plain" "_law_is_plain" sPla f fd)(T:Nm mg)(N2:Nm2 mg):c7 P w K mg base CX0 1 f fd ["_law_found"] spPla:=by
 refine F.ok scPla (by contradiction) (fun cdv A outer s H vs Q E hr h=>?_);obtain ⟨v,d,lss,rfl,hv,few,k⟩:=h;refine ⟨_,PSl.h (bq ⟨(eX (PW.pt (j6 (jw (jv (lp T (pv 0)))) (j6 (bK nk (bU bM rfl T.len aR (af (pv 0) aw)) aC (cb _)) (je (jw (jv (lp T (ixZ (pv 0))))))))) (bB (bZ lO)) cv)⟩
  (bq ⟨(gS bS rfl (pi_tup (ixZ (pv 0))) (pgZ 1 scPla.nd) (bB (eX (PW.pt (j6 (jw (jv (lp T (pv 1)))) (je (bK (op_neL0 hr.units0) (jH (fr:=[]) (js:=[]) rfl (pi_tup (pv 1)) (by trivial) rfl (by trivial) rfl (by exists sPla) (by trivial) rfl (by trivial) (fun _ _ _ _ _=>⟨(pv 0),(pts_one (jw (jv (pe_isStr T N2 (pv 0)))))⟩)) (hI aw) (cb _))))) (bB (bZ lO)) cv)))⟩
  (fu ⟨(bZ lO)⟩))),?_⟩
 obtain ⟨t,us,rfl,ht,du⟩:=hv.tup_of;cases du with
 | @cons u1 _ us1 _ d1 du =>
  cases du with
  | @cons u2 _ us2 _ d2 du =>
   cases du;obtain ⟨L,ys,rfl,hL,dy⟩:=d2.tup_of;have tynT:∀ {a:ak} {zs:List V} {H':Hp},H' a=some (.tup zs)→tyn H' (.ref a)=some "tuple" := fun {a zs H'} e=>by unfold tyn;dsimp only;rw [e]
   refine ⟨_,rfl,_,_,rfl,tynT ht,_,rfl,iL (by decide) ?_⟩;refine ⟨_,rfl,t,_,rfl,.inr (SqT.of ht),rfl,_,rfl,iL (by rw [show decide (V.int (([u1,V.ref L].length:Nat):Int)=V.int 2)=true from pG rfl];rfl) ?_⟩;refine ⟨_,rfl,t,_,_,_,rfl,rfl,SqT.of ht,aE (j:=1) rfl,_,_,rfl,tynT hL,_,rfl,iL (by decide) ?_⟩;refine ⟨_,rfl,t,_,_,_,rfl,rfl,SqT.of ht,aE (j:=1) rfl,L,rfl,⟨_,SqT.of hL⟩,?_⟩;refine for_tup (K:=K) (a:=L) (xs:=ys) (fun i σ HA=>b8 H HA∧∃ v1,σ=[some (.ref t),v1]) ⟨b8.refl _,none,rfl⟩ (fun i σ HA _ q=>SqT.of (q.1 _ _ hL)) ?_ ?_
   ·rintro i x σ HA hx ⟨SA,v1,rfl⟩
    obtain ⟨dd,hdd,dx⟩:=dy.get hx;rw [ax] at hdd;obtain ⟨ss,hss,rfl⟩:=aS.mp hdd;have ls10:=few ss (ay hss);have big:(100:Nat)≤au:=by decide
    obtain ⟨q,zs,rfl,hq,dz⟩:=dx.tup_of;have hq2:=SA _ _ hq;refine ⟨_,rfl,_,_,rfl,tynT hq2,_,rfl,iL (by decide) ?_⟩;have lz:zs.length=ss.length:=by have:=dz.length;rwa [ae] at this
    refine ⟨_,rfl,q,rfl,⟨_,SqT.of hq2⟩,?_⟩;refine comp_tup (K:=K) (a:=q) (xs:=zs) (fun j ws HB=>HB=HA∧ws=[]) ⟨rfl,rfl⟩ (fun j ws HB _ qq=>?_) (by lia) (fun j y ws HB hy qq=>?_) (fun ws HB qq D hD=>?_)
    ·obtain ⟨rfl,rfl⟩:=qq
     exact ⟨SqT.of hq2,cz _⟩
    ·obtain ⟨rfl,rfl⟩:=qq
     obtain ⟨dd,hdd,dx⟩:=dz.get hy;rw [ax] at hdd;obtain ⟨z,_,rfl⟩:=aS.mp hdd;cases dx;exact ⟨_,rfl,_,_,rfl,rfl,_,rfl,iL (by decide) ⟨rfl,rfl⟩⟩
    ·obtain ⟨rfl,rfl⟩:=qq
     have S1:b8 HB (upd HB D (.lst [])):=(b8.refl HB).put hD;have h1:(upd HB D (.lst [])) D=some (.lst []):=aP;generalize upd HB D (.lst [])=H1 at S1 h1 ⊢;refine ⟨(by show 0≤au;decide),fun Em H2 S2 e2=>?_⟩;refine ⟨D,Em,[],rfl,rfl,SqL.of (S2 _ _ h1),SqL.of e2,_,rfl,iL rfl ?_⟩;exact ⟨SA.trans (S1.trans S2),_,rfl⟩
   ·rintro σ HA ⟨SA,v1,rfl⟩
    exact k HA SA
theorem scLaw:cp ["_law_script","_law_beat","_law_rows","_law_text_here","_law_found"] pzn (defScope sLaw):=by trivial
theorem ok_law {fP fX fB fI fO fN:ak}{dP dX dB dI dO dN:aZ}(F:Fun K "law" "law" sLaw f fd)
  (GP:Fn K mg "_law_plan" sPln pzn fP dP) (FP:c7 P w K mg base CX0 4 fP dP pzn (spPln K))
  (GX:Fn K mg "_law_text" sTxt pzl fX dX) (FX:c7 P w K mg base CX0 1 fX dX pzl spTxt)
  (GB:Fn K mg "net_by" sNetBy pzh fB dB) (FB:c7 P w K mg base CX0 8 fB dB pzh spNetBy)
  (GI:Fn K mg "_law_is_plain" sPla ["_law_found"] fI dI) (FI:c7 P w K mg base CX0 1 fI dI ["_law_found"] spPla)
  (GO:Fn K mg "_law_net_of" sNof pzl fO dO) (FO:c7 P w K mg base CX0 3 fO dO pzl spNof)
  (GN:Fn K mg "is_net" sNet pzd fN dN) (FN:c7 P w K mg base CX0 5 fN dN pzd spNet):c7 P w K mg base CX0 9 f fd pzn (spLaw K):=by
 refine F.ok scLaw (by contradiction) (fun cdv A outer s H vs Q E hr h=>?_);obtain ⟨a,ns,rfl,ha,hl,k⟩:=h;have hr1:jJ 1 _:=hr.mono (by decide);have hr3:jJ 3 _:=hr.mono (by decide);have hr4:jJ 4 _:=hr.mono (by decide);have hr5:jJ 5 _:=hr.mono (by decide);have hr8:jJ 8 _:=hr;refine ⟨_,PSl.h (bq ⟨(ps_asg (pc1 GP FP hr4 (af (pv 0) aw)) (pg_tup rfl (iE (pgZ 1 scLaw.nd) (iE (pgZ 2 scLaw.nd) oh))))⟩
  (bq ⟨(psZ 3 scLaw.nd (pc1 GX FX hr1 (af (pv 1) (af (pv 2) aw))))⟩
  (bq ⟨(psZ 4 scLaw.nd (pc1 GB FB hr8 (af (pv 3) aw)))⟩
  (bq ⟨(eX (PW.pt (j6 (jw (jv (pc1 GI FI hr1 (af (pv 4) aw)))) (j6 (bK (op_neD hr.units) (pv 4) (pc1 GO FO hr3 (af (pv 1) (af (pv 2) aw))) (cb _)) (je (bK op_isNotB (pc1 GN FN hr5 (af (ixZ (pv 4)) aw)) lO (cb _)))))) (bB (bZ lO)) cv)⟩
  (fu ⟨(bZ (jW (op_eqD hr.units) (pc1 GB FB hr8 (af (pv 3) aw)) (pv 4) (cb _)))⟩))))),?_⟩
 refine ⟨_,rfl,a,ns,rfl,ha,hl,fun q L xs b rows H1 S1 eq eL rw1 b2 pok=>?_⟩;refine ⟨q,_,rfl,SqT.of eq,rfl,_,_,rfl,_,_,rfl,rfl,?_⟩;have b1:=pok.b1;have wb:W60 b:=⟨by lia,by lia⟩;have ok:=pok.ok.wok;have few:=pok.few;refine ⟨_,rfl,_,rfl,b,L,xs,rows.map PR.rowV,rfl,wb,eL,rw1,by rw [ae];lia,fun r hr=>?_,fun H2 S2=>?_⟩
 ·obtain ⟨z,hz,rfl⟩:=aG.mp hr
  exact ⟨by have:=(ok z hz).2.1;lia,fun v hv=>((ok z hz).2.2.1 v hv).wd⟩
 obtain ⟨bt,ru⟩:=pok.runs;have net:=pok.netR b2 ru;have bts:=pok.bts ru;obtain ⟨q1,q2,q3,q4⟩:=pok.spans ru;generalize planT b (rows.map PR.rowV)=tx at net ⊢;obtain ⟨z0,zr,n1,n2,n3,n4,n5,n6,n7,n8,n9⟩:=net;obtain ⟨lss,els,few10⟩:=lab_strs (ig rows);refine ⟨_,rfl,tx,z0,b,zr,_,bt,rfl,n1,n2,n3,n4,n5,n6,n7,n8,n9,fun v H3 S3 d3=>?_⟩;rw [els] at d3;obtain ⟨pl_,dep_⟩:=found_pl b (gf (ig rows)) (mB (ig rows) bt) lss;refine ⟨_,rfl,v,_,lss,rfl,d3,few10,fun H4 S4=>⟨_,rfl,iL rfl ?_⟩⟩;have S14:=S2.trans (S3.trans S4);refine ⟨_,rfl,_,rfl,_,rfl,L,xs,rows,b,bt,rfl,S14 _ _ eL,rw1.same S14,pok,bts,fun v2 H5 S5 d5=>?_⟩;rw [els] at d5;have d35:=d3.same (S4.trans S5);refine ⟨_,_,d35,d5,pl_,pl_,dep_,_,rfl,iL (by rw [mx _ pl_];rfl) ?_⟩;obtain ⟨t,us,rfl,ht,du⟩:=d35.tup_of;cases du with
 | @cons u1 _ us1 _ du1 du =>
  refine ⟨_,rfl,t,_,_,_,rfl,rfl,SqT.of ht,aE (j:=0) rfl,u1,rfl,g3_net du1,fun H6 S6=>?_⟩;rw [netOk_net du1 b1 b2 q3 q4 q2 q1];refine ⟨_,_,rfl,rfl,_,rfl,iL rfl ?_⟩;refine ⟨_,rfl,tx,z0,b,zr,_,bt,rfl,n1,n2,n3,n4,n5,n6,n7,n8,n9,fun v3 H7 S7 d7=>?_⟩;rw [els] at d7;refine ⟨_,rfl,_,_,d7,d3.same (S4.trans (S5.trans (S6.trans S7))),pl_,pl_,dep_,?_⟩;rw [mx _ pl_];exact k H7
theorem tupK2 {t:ak}{x y:Int}{a b:Tok}(h:K.lookup t=some ⟨.type "tuple",od,.seq #[.int x a,.int y b] n,sl⟩)(H:Hp):SqT K H t [.int x,.int y] :=
 .inr ⟨_,#[.int x a,.int y b],n,h,rfl,rfl,oR,.cons ⟨_,rfl⟩ (.cons ⟨_,rfl⟩ .nil)⟩
theorem unt_mk {t:ak}{a b c:Tok}(hm:mg "STAY_UNTOLD" =some (.ref t))(h:K.lookup t=some ⟨.type "tuple",od,.seq #[.int 0 a,.int 0 b,.int 0 c] n,sl⟩):Unt K mg :=
 ⟨t,hm,fun H=> .inr ⟨_,#[.int 0 a,.int 0 b,.int 0 c],n,h,rfl,rfl,(by show 3≤au;decide),.cons ⟨_,rfl⟩ (.cons ⟨_,rfl⟩ (.cons ⟨_,rfl⟩ .nil))⟩⟩
theorem fms_mk {aF t1 t2 t3 t4:ak}{k1 k2 k3 k4 a1 a2 a3 a4 b1 b2 b3 b4:Tok}{m1 m2 m3 m4:Nat}{o1 o2 o3 o4:Option ak}{l1 l2 l3 l4:Array (Option ag)}(hm:mg "FORMS" =some (.ref aF))(hs:(aF == fY)=false)
  (hl:K.lookup aF=some ⟨.type "dict",none,.dict #[⟨dC w.params "stay",.str "stay" k1,.ref t1⟩,⟨dC w.params "change",.str "change" k2,.ref t2⟩,⟨dC w.params "apart",.str "apart" k3,.ref t3⟩,⟨dC w.params "meet",.str "meet" k4,.ref t4⟩] n,#[]⟩)
  (h1:K.lookup t1=some ⟨.type "tuple",o1,.seq #[.int 2 a1,.int 3 b1] m1,l1⟩) (h2:K.lookup t2=some ⟨.type "tuple",o2,.seq #[.int 3 a2,.int 3 b2] m2,l2⟩) (h3:K.lookup t3=some ⟨.type "tuple",o3,.seq #[.int 3 a3,.int 1 b3] m3,l3⟩) (h4:K.lookup t4=some ⟨.type "tuple",o4,.seq #[.int 4 a4,.int 1 b4] m4,l4⟩):Fms P w K mg:=by
 refine ⟨aF,t1,t2,t3,t4,hm,⟨hs,[(.inr "stay",.ref t1),(.inr "change",.ref t2),(.inr "apart",.ref t3),(.inr "meet",.ref t4)],.cons ⟨rfl,rfl⟩ (.cons ⟨rfl,rfl⟩ (.cons ⟨rfl,rfl⟩ (.cons ⟨rfl,rfl⟩ .nil))),fun h hi=>⟨_,_,n,hi _ _ hl,⟨rfl,rfl,rfl⟩,rfl,fun e he=>?_,?_,?_⟩⟩,tupK2 h1,tupK2 h2,tupK2 h3,tupK2 h4⟩
 ·have he:e∈[DictEntry.mk (dC w.params "stay") (.str "stay" k1) (.ref t1),⟨dC w.params "change",.str "change" k2,.ref t2⟩,⟨dC w.params "apart",.str "apart" k3,.ref t3⟩,⟨dC w.params "meet",.str "meet" k4,.ref t4⟩]:=by simpa using he
  simp only [av,aL,or_false] at he
  rcases he with rfl | rfl | rfl | rfl
  ·exact ⟨.inr "stay",iV "stay" k1,rfl⟩
  ·exact ⟨.inr "change",iV "change" k2,rfl⟩
  ·exact ⟨.inr "apart",iV "apart" k3,rfl⟩
  ·exact ⟨.inr "meet",iV "meet" k4,rfl⟩
 ·exact .cons (iV "stay" k1) rfl (.cons (iV "change" k2) rfl (.cons (iV "apart" k3) rfl (.cons (iV "meet" k4) rfl .nil)))
 ·show [(Sum.inr ("stay" :Str):Key),.inr "change",.inr "apart",.inr "meet"].Nodup
  decide +kernel
end HN
namespace HN
open PySem L2 PyProof.Rows
theorem args0 {P:List ag→Prop}(h:P []):∀ us:List ag,us.length=0→P us:=fun us hl=>by rw [kW.mp hl];exact h
theorem args1 {P:List ag→Prop}(h:∀ x0,P [x0]):∀ us:List ag,us.length=1→P us:=by
 intro us hl;obtain _ | ⟨x0,us⟩:=us <;> try (cases hl;done)
 obtain _ | ⟨y,us⟩:=us
 ·exact h x0
 ·exact pF hl (by simp only [aD];lia)
theorem args2 {P:List ag→Prop}(h:∀ x0 x1,P [x0,x1]):∀ us:List ag,us.length=2→P us:=by
 intro us hl;obtain _ | ⟨x0,us⟩:=us <;> try (cases hl;done)
 obtain _ | ⟨x1,us⟩:=us <;> try (cases hl;done)
 obtain _ | ⟨y,us⟩:=us
 ·exact h x0 x1
 ·exact pF hl (by simp only [aD];lia)
theorem args3 {P:List ag→Prop}(h:∀ x0 x1 x2,P [x0,x1,x2]):∀ us:List ag,us.length=3→P us:=by
 intro us hl;obtain _ | ⟨x0,us⟩:=us <;> try (cases hl;done)
 obtain _ | ⟨x1,us⟩:=us <;> try (cases hl;done)
 obtain _ | ⟨x2,us⟩:=us <;> try (cases hl;done)
 obtain _ | ⟨y,us⟩:=us
 ·exact h x0 x1 x2
 ·exact pF hl (by simp only [aD];lia)
theorem args4 {P:List ag→Prop}(h:∀ x0 x1 x2 x3,P [x0,x1,x2,x3]):∀ us:List ag,us.length=4→P us:=by
 intro us hl;obtain _ | ⟨x0,us⟩:=us <;> try (cases hl;done)
 obtain _ | ⟨x1,us⟩:=us <;> try (cases hl;done)
 obtain _ | ⟨x2,us⟩:=us <;> try (cases hl;done)
 obtain _ | ⟨x3,us⟩:=us <;> try (cases hl;done)
 obtain _ | ⟨y,us⟩:=us
 ·exact h x0 x1 x2 x3
 ·exact pF hl (by simp only [aD];lia)
theorem Df.fn (a:Df K x st f)(X:K.In h)(G:h.Ns bC mg)
  (hb:∀ (kV dc pm:ag) (an:Option ak) (cd ct:ag) (us:List ag),us.length=ps.length→bindArgs (fk x x (kz st) (jY st) (defScope st) .none kV dc pm an cd ct) ⟨us,[]⟩=gK (ps.zip us):=by intro _ _ _ _ _ _;first  | exact args0 rfl | exact args1 fun _=>rfl | exact args2 fun _ _=>rfl | exact args3 fun _ _ _=>rfl | exact args4 fun _ _ _ _=>rfl):∃ fd,Fn K mg x st ps f fd:=by
 obtain ⟨n,oc,od,an,sl,kV,dc,pm,cd,ct,l,c,k⟩:=a;have F:=fun_mk (st:=st) l c k;exact ⟨_,F,dA X G n,F.binds hb⟩
theorem args5 {P:List ag→Prop}(h:∀ x0 x1 x2 x3 x4,P [x0,x1,x2,x3,x4]):∀ us:List ag,us.length=5→P us:=by
 intro us hl
 match us,hl with
 | [a,b,c,d,e],_=>exact h a b c d e
theorem Mf.fn {q:Str}(a:Mf K C x q st f)
  (hb:∀ (kV dc pm:ag) (an:Option ak) (cd ct:ag) (us:List ag),us.length=ps.length→bindArgs (fk x q (kz st) (jY st) (defScope st) .none kV dc pm an cd ct) ⟨us,[]⟩=gK (ps.zip us):=by intro _ _ _ _ _ _;first | exact args1 fun _=>rfl | exact args2 fun _ _=>rfl | exact args3 fun _ _ _=>rfl | exact args5 fun _ _ _ _ _=>rfl):∃ fd,Fun K x q st f fd∧pA K C x f∧L2.Binds K fd ps []:=by
 obtain ⟨n,b,oc,od,an,sl,kV,dc,pm,cd,ct,l,c,k⟩:=a;have F:=fun_mk (st:=st) l c k;exact ⟨_,F,⟨n,b,k⟩,F.binds hb⟩
theorem all_mk {l:PySem.W.OpenLaw}(X:K.In h)(G:h.Ns bC mg)(hfa:mg "law" =some (.ref fa))(Fc:Facts K w)
  : ∃ fd:aZ,(∀ (s:ar) (v:ag),BindsTo s fd ⟨[v],[]⟩ [("_law_script",v)])∧∀ base:bX,K.In base→base.Ns bC mg→c7 l.prog w K mg base CX0 9 fa fd pzn (spLaw K):=by
 refine Fc _ ?_;intro f1 a1 f2 a2 f3 a3 f4 a4 f5 a5 f6 a6 f7 a7 f8 a8 f9 a9 f10 a10 f11 a11 f12 a12 f13 a13 f14 a14 f15 a15 f16 a16 f17 a17 f18 a18 f19 a19 f20 a20 f21 a21 f22 a22 f23 a23 f24 a24 f25 a25 f26 a26 f27 a27 f28 a28 f29 a29 f30 a30 f31 a31 f32 a32 f33 a33 f34 a34 f35 a35 f36 a36 f37 a37 f38 a38 t1 t2 t3 t4 t5 t6 t7 xL xP xF q1 q2 q3 q4 q5 jy1 jy2 jy3 jy4 jy5 jy6 jz1 jz2 jz3 jz4 jz5 jz6 jz7 jz8 jz9 jza ka kb kc kd ua1 ub1 ua2 ub2 ua3 ub3 ua4 ub4 uc ud ue nF nn1 nn2 nn3 nn4 nn5 y1 y2 y3 y4 y5 y6 y7 z1 z2 z3 z4 z5 z6 z7 z8 z9 z10 z11 z12 z13 z14 z15 w1 w2 w3 w4 w5 w6 w7 w8 w9 w10 w11 w12 w13 w14 w15 w16 w17 w18 w19 w20 w21 w22 w23 w24 w25 w26 w27 w28 w29 w30 w31 w32 w33 w34 w35 w36 w37 w38 w39 w40 w41 w42 w43 w44 w45 w46 w47;have e:=hfa.symm.trans (dA X G a38.n);cases e;obtain ⟨fd1,G1⟩:=a1.fn X G (ps:=[]);obtain ⟨fd2,G2⟩:=a2.fn X G (ps:=pzd);obtain ⟨fd3,G3⟩:=a3.fn X G (ps:=pzg);obtain ⟨fd4,G4⟩:=a4.fn X G (ps:=pzc);obtain ⟨fd5,G5⟩:=a5.fn X G (ps:=pzc);obtain ⟨fd6,G6⟩:=a6.fn X G (ps:=pzp);obtain ⟨fd7,G7⟩:=a7.fn X G (ps:=pzq);obtain ⟨fd8,G8⟩:=a8.fn X G (ps:=pzj);obtain ⟨fd9,G9⟩:=a9.fn X G (ps:=pzc);obtain ⟨fd10,G10⟩:=a10.fn X G (ps:=["row"]);obtain ⟨fd11,G11⟩:=a11.fn X G (ps:=["words"]);obtain ⟨fd12,G12⟩:=a12.fn X G (ps:=["row"]);obtain ⟨fd13,G13⟩:=a13.fn X G (ps:=pzh);obtain ⟨fd14,G14⟩:=a14.fn X G (ps:=pzt);obtain ⟨fd15,G15⟩:=a15.fn X G (ps:=pzk);obtain ⟨fd16,G16⟩:=a16.fn X G (ps:=pzk);obtain ⟨fd17,G17⟩:=a17.fn X G (ps:=["rows"]);obtain ⟨fd18,G18⟩:=a18.fn X G (ps:=pzh);obtain ⟨fd19,G19⟩:=a19.fn X G (ps:=pzd);obtain ⟨fd20,G20⟩:=a20.fn X G (ps:=pzf);obtain ⟨fd21,G21⟩:=a21.fn X G (ps:=pzx);obtain ⟨fd22,G22⟩:=a22.fn X G (ps:=pzf);obtain ⟨fd23,G23⟩:=a23.fn X G (ps:=pze);obtain ⟨fd24,G24⟩:=a24.fn X G (ps:=pzy);obtain ⟨fd25,G25⟩:=a25.fn X G (ps:=pzz);obtain ⟨fd26,G26⟩:=a26.fn X G (ps:=pzA);obtain ⟨fd27,G27⟩:=a27.fn X G (ps:=pzo);obtain ⟨fd28,G28⟩:=a28.fn X G (ps:=pzm);obtain ⟨fd29,G29⟩:=a29.fn X G (ps:=pzl);obtain ⟨fd30,G30⟩:=a30.fn X G (ps:=pzB);obtain ⟨fd31,G31⟩:=a31.fn X G (ps:=pzD);obtain ⟨fd32,G32⟩:=a32.fn X G (ps:=pzC);obtain ⟨fd33,G33⟩:=a33.fn X G (ps:=pzu);obtain ⟨fd34,G34⟩:=a34.fn X G (ps:=pzn);obtain ⟨fd35,G35⟩:=a35.fn X G (ps:=pzv);obtain ⟨fd36,G36⟩:=a36.fn X G (ps:=pzl);obtain ⟨fd37,G37⟩:=a37.fn X G (ps:=["_law_found"]);obtain ⟨_,oc,od,an,sl,kV,dc,pm,cd,ct,l38,c38,k38⟩:=a38;have F38:=fun_mk (st:=sLaw) l38 c38 k38;have m1:=cu X G z1;have m2:=cu X G z2;have m3:=cu X G z3;have m4:=cu X G z4;have m5:=cu X G z5;have m6:=cu X G z6;have m7:=cu X G z7;have m8:=cu X G z8;have m9:=cu X G z9;have m10:=cu X G z10;have m11:=cu X G z11;have m12:=cu X G z12;have m13:=cu X G z13;have m14:=cu X G z14;have m15:=cu X G z15;have i1:=dA X G y1;have i2:=dA X G y2;have i3:=dA X G y3;have i4:=dA X G y4;have i5:=dA X G y5;have i6:=dA X G y6;have i7:=dA X G y7;refine ⟨fk "law" "law" (kz sLaw) (jY sLaw) (defScope sLaw) .none kV dc pm an cd ct,fun s v=> .of_eq rfl,fun base _ _=>?_⟩;have T:Nm mg:=⟨m1,m2,m3,m4,m5,m6,m7⟩;have T2:Nt mg:=⟨m8,m9,m10,m11,m12,m13⟩;have C:Cs mg:=⟨⟨_,i1⟩,⟨_,i2⟩,⟨_,i3⟩⟩;have C2:Cs2 mg:=⟨⟨_,i4⟩,⟨_,i5⟩,⟨_,i6⟩,⟨_,i7⟩⟩;have N2:Nm2 mg:=⟨m15,m12⟩;obtain ⟨_,Fjy1,mjy1,bjy1⟩:=w13.fn (ps:=pzr);obtain ⟨_,Fjy2,mjy2,bjy2⟩:=w14.fn (ps:=pzi);obtain ⟨_,Fjy3,mjy3,bjy3⟩:=w15.fn (ps:=pzi);obtain ⟨_,Fjy4,mjy4,bjy4⟩:=w16.fn (ps:=pzw);obtain ⟨_,Fjy5,mjy5,bjy5⟩:=w17.fn (ps:=pza);obtain ⟨_,Fjy6,mjy6,bjy6⟩:=w18.fn (ps:=pza);obtain ⟨_,Fjz1,mjz1,bjz1⟩:=w29.fn (ps:=pzs);obtain ⟨_,Fjz2,mjz2,bjz2⟩:=w30.fn (ps:=pza);obtain ⟨_,Fjz3,mjz3,bjz3⟩:=w31.fn (ps:=pza);obtain ⟨_,Fjz4,mjz4,bjz4⟩:=w32.fn (ps:=pza);obtain ⟨_,Fjz5,mjz5,bjz5⟩:=w33.fn (ps:=pza);obtain ⟨_,Fjz6,mjz6,bjz6⟩:=w34.fn (ps:=pzb);obtain ⟨_,Fjz7,mjz7,bjz7⟩:=w35.fn (ps:=pzb);obtain ⟨_,Fjz8,mjz8,bjz8⟩:=w36.fn (ps:=pzb);obtain ⟨_,Fjz9,mjz9,bjz9⟩:=w37.fn (ps:=pzb);obtain ⟨_,Fjza,mjza,bjza⟩:=w38.fn (ps:=pzb);have LC:LinC K xL:=⟨⟨w2,w3,w4,w5⟩,w6,w7,w8,w9,w10⟩;have PC:PlaC K xP:=⟨⟨w20,w21,w22,w23⟩,w24,w25,w26⟩;have FW:c7 l.prog w K mg base CX0 2 f5 _ pzc nY:=ok_readW G5.F T C2 G4;have FN:c7 l.prog w K mg base CX0 1 f9 _ pzc spNam:=ok_nam G9.F T C2;have M:Fms l.prog w K mg:=fms_mk (dA X G w39) w40 w41 w42 w43 w44 w45;have FL:c7 l.prog w K mg base CX0 3 f11 _ ["words"] spLineR:=ok_lineR G11.F T G9 FN G5 FW;have FR:c7 l.prog w K mg base CX0 5 f13 _ pzh spPlanR:=ok_planR G13.F T N2 G10 (ok_beatR G10.F T G5 FW) G12 (ok_rowR G12.F T M G9 FN G5 FW G11 FL);have LK:LinK l.prog w K mg base xL jy2 jy3 jy4 _ _ _:=⟨LC,mjy2,ok_comL Fjy2 LC,bjy2,mjy3,ok_goL Fjy3 LC,bjy3,mjy4,ok_rideL Fjy4 m10 LC,bjy4⟩;have U:Unt K mg:=unt_mk (dA X G w46) w47;have LQ:LinQ l.prog w K mg base xL jy5 jy6 _ _:=⟨mjy5,ok_ownL Fjy5 m10 U LK,bjy5,mjy6,ok_labL Fjy6 m10 LC,bjy6⟩;have FA:c7 l.prog w K mg base CX0 3 jz3 _ pza (spAllS xP xL):=ok_allS Fjz3 PC LC LQ;have FH:c7 l.prog w K mg base CX0 1 jz2 _ pza (spHap xP xL):=ok_hap Fjz2 T T2 PC LC;have PK:PlaK l.prog w K mg base xP xL jz2 jz5 _ _:=⟨PC,mjz2,FH,bjz2,mjz5,ok_small Fjz5 T C PC mjz2 FH bjz2 mjz3 FA bjz3,bjz5⟩;have LM:LinM l.prog w K mg base xL jy1 _:=⟨⟨w11,mjy1.at_,mjy1.fn,w12⟩,dA X G w1,ok_initL Fjy1 LC,bjy1⟩;have FS:c7 l.prog w K mg base CX0 4 f8 _ pzj spSpan:=ok_span G8.F T C G1 G2 G3 G6 G7;have FB:c7 l.prog w K mg base CX0 3 jz7 _ pzb (spBtw xP xL):=ok_btw Fjz7 PC G14 (ok_change G14.F LK) G15 (ok_apart G15.F LK) G16 (ok_meet G16.F LK);have FT:c7 l.prog w K mg base CX0 6 jz9 _ pzb (spTakeP xP xL):=ok_takeP Fjz9 PC mjz6 (ok_takeL Fjz6 T m14 PK LM) bjz6 mjz8 (ok_takeB Fjz8 PK mjz7 FB bjz7 G8 FS) bjz8 mjza (ok_takeS Fjza PK LK G8 FS) bjza;have PT:PlaT l.prog w K mg base xP xL jz1 jz9 jz3 jz4 _ _ _ _:=⟨⟨w27,mjz1.at_,mjz1.fn,w28⟩,dA X G w19,ok_initP Fjz1 PC,bjz1,mjz9,FT,bjz9,mjz3,FA,bjz3,mjz4,ok_allL Fjz4 PC LC LQ,bjz4⟩;have NB:c7 l.prog w K mg base CX0 8 f18 _ pzh spNetBy:=ok_netBy G18.F T PK PT G13 FR G17 (ok_planBy G17.F T m9 PC PT);have PO:c7 l.prog w K mg base CX0 2 f22 _ pzf (spPotT K):=ok_potT G22.F T T2 G20 G21;have EN:c7 l.prog w K mg base CX0 1 f27 _ pzo spEndW:=ok_endW G27.F T m2;have RI:c7 l.prog w K mg base CX0 1 f28 _ pzm spRidW:=ok_ridW G28.F T T2;have MO:c7 l.prog w K mg base CX0 3 f33 _ pzu spMor:=ok_mor G33.F T T2 G23 G32 (ok_inn G32.F T T2) G30 (ok_spw G30.F T G23) G31 (ok_prs G31.F T T2 m2 G27 EN G28 RI) G28 RI;have PL:c7 l.prog w K mg base CX0 4 f34 _ pzn (spPln K):=ok_pln G34.F T T2 m2 G23 G22 PO G24 (ok_nms G24.F T T2 G23) G26 (ok_lns G26.F T T2 G23 G22 PO G25 (ok_lr G25.F T T2 G23)) G33 MO;have TW:c7 l.prog w K mg base CX0 2 f35 _ pzv spTwW:=ok_twW G35.F G27 EN G28 RI;exact ok_law F38 G34 PL G29 (ok_txt G29.F m15) G18 NB G37 (ok_pla G37.F T N2) G36 (ok_nof G36.F T T2 G35 TW) G19 (ok_net G19.F T C G1 G2 G3 G6 G7 G8)
theorem walk {l:PySem.W.OpenLaw}{q:aK}{d:DefRec}{K:Params→ai}(hn:l.most=some 63)(hdf:d.params.defaults=[])
  (hY:∀ (w:br) (h:bX),YP w h→(K w.params).In h)
  (F:∀ (w:br) (mg:Str→Option ag) (fa:ak) (h:bX),(K w.params).In h→h.Ns bC mg→mg d.name=some (.ref fa) →
   ∃ fd:aZ,(∀ (s:ar) (u:ag),BindsTo s fd ⟨[u],[]⟩ [("_law_script",u)])∧∀ base:bX,(K w.params).In base→base.Ns bC mg→c7 l.prog w (K w.params) mg base CX0 9 fa fd pzn (spLaw (K w.params))) :
  PySem.W.WalkO q loose XP YP l.row.toRowW d [] (fun f vs=>PySem.call f vs) :=
 L2.walk_of (n:=63) (k:=9) (x := "_law_script") (CX:=fun _=>CX0) (sp:=fun w=>spLaw (K w.params)) hn (by decide) hdf ⟨rfl,by decide,by decide⟩ hY F (fun _ _ a ns hl _ hS=>⟨a,ns,rfl,hS,hl,fun _=>rfl⟩) fun _ _ _ _ _ z=>z
end HN
set_option maxHeartbeats 0 in
theorem PySem.Challenge.cw_hourtable_k80_nets_of_plans_holds : PySem.Challenge.rw_hourtable_k80_nets_of_plans.Holds := by
 refine HN.head0.2 ?_ HN.leftA (PySem.W.byRow2 "special-get-raises" HN.scf HN.sct);intro q loose XP YP d K hdf hd h0 Fc;exact HN.walk (l:=fZ) rfl hdf h0 fun w mg fa h KX G hmg=>HN.all_mk KX G (by rw [hd] at hmg;exact hmg) (Fc w)
