import PyProof.Rows.All
import KE.KBools
import KE.KxBytes
import KE.RegKIsAll
import KE.KIntText
import KE.KEqSeq
import KE.KDictList
import KE.RegKIsAll
import Wide.FinOn
import KE.KLam
import KE.KNestM
import PySem.Challenge.RW_hourtable_k81_texts_of_no_plan
set_option compiler.extract_closed false
set_option Elab.async false
set_option linter.all false
set_option maxRecDepth 100000
set_option bootstrap.genMatcherCode false
open List renaming length_map → ae, getElem?_eq_some_iff → ai, length_append → aq, mem_cons → aw, map_append → ax, length_cons → az, mem_singleton → aB, mem_of_getElem? → aC, getElem?_map → aE, size_toArray → aG, mem_cons_of_mem → aH, mem_map → aJ, mem_append → aL, not_mem_nil → aO, mem_cons_self → aW, length_take → aZ, mem_append_right → bf, getElem?_append_right → bh, getElem?_cons_succ → bq, map_cons → bw, getElem?_append_left → bI, length_drop → bK, nodup_cons → bN, take_add_one → bW, map_map → b9, getElem?_of_mem → cb, take_length → cD, mem_append_left → cE, range → cS, getElem_mem → c8, getD_eq_getElem?_getD → dk, map_congr_left → dn, length_singleton → dw, mem_filterMap → ef, take_of_length_le → eM, mem_map_of_mem → eQ, take_append_drop → eV, getElem?_eq_none → eW, getElem?_take_of_lt → eX, append_nil → eY, getElem?_drop → fe, lookup_cons → ff, getElem_map → fj, sum_cons → fG, map_drop → fH, pairwise_iff_getElem → fY, all_eq_true → gg, lookup → gr, length → gu, filterMap_cons → gI, mem_of_mem_take → g9, mem_of_mem_drop → hI, append_assoc → hV, take_append_of_le_length → iB, length_set → iI, any_cons → iL, filterMap_append → iR, sum_append → jI, length_nil → jJ, find?_cons → jK, replicate → jX, length_range → jY, getElem?_set_self → jZ, map_take → kC, length_eq_zero_iff → mq
open PySem renaming Value → af, wpAny_bind → ak, Addr → ao, Shared → ar, sizeLine → aA, Program → aK, wpAny_pure → aN, wpAny → aT, FuncData → aU, mainGlobals → aX, World → bc, importedModules → bg, starEach → br, boot_len → bu, model → bB, Heap → bM, Around → cq, wpAny_field → cQ, Str → cR, Stmt → cW, Spec → dj, NameKind → dD, wpAny_mono → dO, eval → dU, Builtin → ee, treeTable → eh, wpAny_setField_rec → eN, compareOp → eR, wpAny_callSpecial?_slot → fD, lookup_relabel_local → fF, mem_of_lookup → fJ, wpAny_newObj_type → fW, backTo → gG, wpAny_truthy_bool → gM, wpAny_pyIter_list → gN, foldedSetIterable → gO, wpAny_holding → gT, sysModules → gY, binaryOp → ip, wpAny_call_entry → iE, wpAny_Call_Name_kw → iT, wpAny_loadPart' → iV, attributeBase → i9, wpAny_seqItems → jz, sliceBounds → jA, Scope → jV, rawInt → kt, compEnvC → kz, codeAny_mono → kA, bootBuiltins → kB, swapsWith → kO, call_meets → kS, wpAny_attempt → kW, keywordEach → lp, wpAny_passesOwn → lF, letOwnedTupleGo → lG, tupleKind_room_in1 → mm, slot_list_getitem → mJ, wpAny_getItem_list_slice → mM
open PySem.W renaming Frag → aj, nsIn → bE, kitOne → cn, findIn → cp, mg_none_of → cG, openGood → cH, mg_of → cP, openSeen → cX, keepIn → eS, kia_one → eU, emptyDict → fu, fnOf → gc, openEnds → gk, hideAll → gz, fencedOpening → gD, instObj → gW, hasDictIn → iH, plainGet → iZ, codeIn → jN, mroIn → kh, callWith_K → kU
open PySem.Str renaming ofString → au, join → cV, empty → c9, length → iF, cps_append → j9
open PySem.Heap renaming get?_push_of_some → av, get?_push_size → aQ, lt_size → aS, SameBut → cT, size_push → dJ, get?_update_other → gP, get?_update_self → iS
open Nat renaming le_refl → aD, lt_of_lt_of_le → bV, le_trans → cu, ne_of_lt → cJ, min_eq_left → dA, zero_le → dG, lt_of_le_of_ne → gj, sub_self → gp, lt_irrefl → gq, lt_trichotomy → ic, ne_of_gt → jr, lt_succ_iff_lt_or_eq → jH, not_lt_zero → jM, le_succ → jR, mul_le_mul_right → kL, add_le_add_left → lg, lt_of_le_of_lt → lM
open Option renaming map_eq_some_iff → aY
open PySem.Txt renaming split → bD, join → dF
open Option.some renaming inj → bF
open Bool renaming false_ne_true → bG, and_eq_true → ck, eq_false_iff → cU, true_and → iP, false_and → j4
open PySem.F renaming plainAttrs_list → bJ, plainAttrs_str → bU, type_list_append → cv, slot_list_append → cw, type_str_join → dY, slot_str_join → dZ, slot_dict_get → gQ, type_str_split → iq, slot_str_split → ir, slot_tuple_iterator_next → ju, entry_dict_get → jO, slot_enumerate_next → kG, args_tuple_add_2 → lL, plainAttrs_dict → l9, entry_tuple_add → ma
open PySem.W.Fast renaming te14364793385576792824 → bO, te14289696077712309145 → bP, te11892475500146522536 → bQ, te10274390034422433532 → bR, te10156331382660048174 → bS, te6613529449190102663 → bY, te1435165496053646825 → bZ, tw4187177175401517315 → cK, te4187177175401517315 → cM
open PySem.Builtin.Str renaming occurrences → cg, partsBetween → fV
open PySem.PassesOwn renaming never → cz
open Ne renaming symm → cY
open Lean renaming maxHeartbeats → de
open Int renaming eq_ofNat_of_zero_le → dm, toNat_natCast → fU
open PySem.Builtin.SmallTypes renaming nextOf → dv, ownedTupleIsFree → gf, ownedTupleHandOut → iw
open PyProof.Rows renaming callWith_type1 → dH, boot_isinstance → eO
open PySem.StrLaws renaming glued_eq_join → dW, join_split → jB
open Array renaming length_toList → eP, toList_append → ie, getElem?_toList → iQ, getElem?_eq_some_iff → i8, getElem?_eq_getElem → lO
open PySem.PyData renaming keyHash → eT
open False renaming elim → eZ
open PySem.Calls renaming spliced_cons → gd, callWith_builtin → gL, evalArgs_plain → gZ, spliced_nil → jW
open PySem.Challenge renaming rw_hourtable_k81_texts_of_no_plan → gF
open Prod.mk renaming injEq → gH
open List.cons renaming inj → gX
open Pure renaming pure → hW
open PySem.Builtin.Slice renaming slicePlaces → iJ, sliceAdjust → kD
open PySem.Builtin.Tuple renaming tupleExact → iU
open PySem.Builtin.Range renaming rangeSize → jd
open PySem.Obj renaming mapFields → jG, data_mapFields → jP
open PySem.Builtin.List renaming listTooLong → kM
open Classical renaming propDecidable → lN
open PyProof.Rows.F renaming plain_set_update_loop → mQ
noncomputable section
abbrev qI:=@if_neg
abbrev qJ:=@if_pos
abbrev qK:=@absurd
abbrev qL:=@decide_eq_true
abbrev qM:=@decide_eq_false
abbrev qN:=@of_decide_eq_true
abbrev qO:=@congrArg
set_option maxHeartbeats 4000000
theorem L2.au0 (_:True:=by rfl):True:=trivial
theorem L2.au1 (_:True:=by decide):True:=trivial
theorem L2.au2 (_:True:=by intro _;rfl):True:=trivial
theorem L2.au3 (_:True:=by first | exact .inl rfl | exact .inr rfl | assumption):True:=trivial
theorem gE {α:Type}{l:List α}{i:Nat}(h:i<l.length):l[i]? =some l[i]:=List.getElem?_eq_getElem h
variable {A:cq}{B base h h':bM}{C CL CP D L a d dx f f1 f2 fa it p q:ao}{E Q W:af→ar→Prop}{G:Array PySem.GenState→Array PySem.GenState→Prop}{K:aj}{M:PySem.Model}{N fr loose nn ns ps ss ws wt ys zs:List PySem.Str}{P prog:aK}{R:PySem.Result→ar→Prop}{T:String}{XE:List (PySem.Str×ao)→ao→af→ar→Prop}{XP:(PySem.Str→Option af)→bM→Prop}{YP:bc→bM→Prop}{aI pins':List (ao×PySem.Obj)}{apos cpos p2 pos pos' px spos:PySem.Pos}{b lo:Int}{body sts:List cW}{c i iy j k m n t':Nat}{ch ex fp:List ao}{d':PySem.Drawn}{d1 d2 dc dg dh dr fd fd1 fd2:aU}{dct od:Option ao}{ds its old us vs:List af}{e ea elt iter tg value:PySem.Expr}{env:PySem.Env}{es ifs:List PySem.Expr}{g':Array PySem.GenState}{is rs:List Int}{items:Array af}{js:List Nat}{kw:List (PySem.Str×af)}{mA mg:PySem.Str→Option af}{name qual x y0 z:PySem.Str}{op:PySem.CmpOp}{osl sl:Array (Option af)}{outer:List PySem.Env}{ox:PySem.Obj}{s s':ar}{scope:jV}{st:cW}{u was:af}{w:bc}{α:Type}
namespace L2
open PySem PySem.Spec PyProof.Rows
def lB (s:cW):Arguments:=match s with
 | .FunctionDef _ a _ _ _ _ _ _ _ _=>a
 | _=>{ posonlyargs:=[],args:=[],vararg:=none,kwonlyargs:=[],kw_defaults:=[],kwarg:=none,defaults:=[] }
def km (s:cW):List cW:=match s with
 | .FunctionDef _ _ b _ _ _ _ _ _ _=>b
 | _=>[]
def defScope (s:cW):jV:=match s with
 | .FunctionDef _ _ _ _ _ _ sc _ _ _=>sc
 | _=>{ kind:= .function,names:=[],isGenerator:=false,isCoroutine:=false }
end L2
namespace HN
open PySem L2 PyProof.Rows
def top (i:Nat):cW:=PySem.Challenge.pw_hourtable_k81_texts_of_no_plan.main.body.getD i (.Pass ⟨0,0,0,0⟩)
def clsOf (s:cW)(i:Nat):cW:=match s with
 | .ClassDef _ _ _ body _ _ _ _ _ _ _=>body.getD i (.Pass ⟨0,0,0,0⟩)
 | s=>s
structure Df (K:aj)(x:Str)(st:cW)(f:ao):Prop where
 n:bE K aX x=some (some (.ref f))
 l:∃ (oc:af) (od an:Option ao) (sl:Array (Option af)) (kV dc pm cd ct:af),K.lookup f=some ⟨oc,od,.func (gc x x (lB st) (km st) (defScope st) .none kV dc pm an cd ct),sl⟩∧jN K cd x=true∧eS K (.ref f)=true
structure Mf (K:aj)(C:ao)(x q:Str)(st:cW)(f:ao):Prop where
 a:cp K (.ref C) x=some (some (.ref f))
 b:PySem.W.isFn K (.ref f)=true
 l:∃ (oc:af) (od an:Option ao) (sl:Array (Option af)) (kV dc pm cd ct:af),K.lookup f=some ⟨oc,od,.func (gc x q (lB st) (km st) (defScope st) .none kV dc pm an cd ct),sl⟩∧jN K cd q=true∧eS K (.ref f)=true
def adr (K:aj)(x:Str):ao:=match bE K aX x with | some (some (.ref f))=>f | _=>0
def reb (x:Str)(st:cW):Option Obj→Option Obj | some ⟨oc,od,.func d,sl⟩=>some ⟨oc,od,.func (gc x x (lB st) (km st) (defScope st) .none d.kwdefaults d.doc d.pyModule d.annotations d.code d.closureTuple),sl⟩ | _=>none
def cdO:Option Obj→af | some ⟨_,_,.func d,_⟩=>d.code | _=> .none
def isO:Option Obj→Bool | some ⟨_,_,.func _,_⟩=>true | _=>false
def dfL (K:aj)(e:Str×cW):Option (Option af)×Bool×Option Obj×Bool×Bool:=(bE K aX e.1,isO (K.lookup (adr K e.1)),K.lookup (adr K e.1),jN K (cdO (K.lookup (adr K e.1))) e.1,eS K (.ref (adr K e.1)))
def dfR (K:aj)(e:Str×cW):Option (Option af)×Bool×Option Obj×Bool×Bool:=(some (some (.ref (adr K e.1))),true,reb e.1 e.2 (K.lookup (adr K e.1)),true,true)
theorem df_of (h:dfL K (x,st)=dfR K (x,st)):Df K x st (adr K x):=by
 unfold dfL dfR at h;simp only [gH] at h;obtain ⟨h1,h2,h3,h4,h5⟩:=h;refine ⟨h1,?_⟩;revert h2 h3 h4;cases hk:K.lookup (adr K x) with
 | none=>intro h2;cases h2
 | some o =>
  obtain ⟨oc,od,d,sl⟩:=o;cases d <;> intro h2 h3 h4 <;> first | (cases h2;done) | exact ⟨oc,od,_,sl,_,_,_,_,_,h3,h4,h5⟩
def Fcx (K:aj):List (Str×cW)→(List ao→Prop)→Prop
 | [],C=>C []
 | (x,st)::r,C=>∀ f:ao,Df K x st f→Fcx K r fun l=>C (f::l)
theorem fcx_of {K:aj}:∀ {L:List (Str×cW)} {C:List ao→Prop},L.map (dfL K)=L.map (dfR K)→Fcx K L C→C (L.map fun e=>adr K e.1)
 | [],_,_,k=>k
 | (x,st)::r,C,h,k=>by
  rw [bw,bw] at h;injection h with h1 h2
  exact fcx_of (L:=r) (C:=fun l=>C (adr K x::l)) h2 (k _ (df_of h1))
def Facts (K:aj)(w:bc):Prop:=∀ C:Prop,Fcx K (("greatest_whole",top 12)::("is_whole",top 13)::("is_within",top 14)::("is_numeral",top 15)::("read_whole",top 16)::("are_ends",top 21)::("are_lengths",top 22)::("is_span",top 23)::("read_name",top 30)::("read_beat",top 31)::("read_line",top 32)::("read_row",top 33)::("read_plan",top 34)::("change_span",top 36)::("apart_span",top 37)::("meet_span",top 38)::("plan_by",top 40)::("net_by",top 41)::("hours_by",top 85)::("hours_of",top 86)::("timetable",top 87)::("_law_cell_at",top 89)::("_law_mixed",top 90)::("_law_pot",top 91)::("_law_take",top 92)::("_law_names",top 93)::("_law_line_row",top 94)::("_law_lines",top 95)::("_law_ends",top 96)::("_law_ride",top 97)::("_law_text",top 100)::("_law_span_words",top 101)::("_law_pairs",top 102)::("_law_inner",top 103)::("_law_more_row",top 104)::("_law_plan",top 105)::("_law_bent_row",top 106)::("_law_refused",top 107)::("law",top 108)::[]) (fun l=>∀ {t1 t2 t3 t4 t5 t6 t7:Tok} {xL xP xF q1 q2 q3 q4 q5 jy1 jy2 jy3 jy4 jy5 jy6 jz1 jz2 jz3 jz4 jz5 jz6 jz7 jz8 jz9 jza:ao} {ka kb kc kd ua1 ub1 ua2 ub2 ua3 ub3 ua4 ub4 uc ud ue:Tok} {nF nn1 nn2 nn3 nn4 nn5:Nat} {x1 x2 xa xb xd xe xf xg:ao},(bE K aX "MOST_HAPPENINGS" =some (some (.int 16 t1))) →
 (bE K aX "MOST_SPANS" =some (some (.int 40 t2))) →
 (bE K aX "MOST_WEIGHT" =some (some (.int 1000000000000 t3))) →
 (bE K aX "LETTERS" =some (some (.str "abcdefghijklmnopqrstuvwxyz" t4))) →
 (bE K aX "MOST_LETTERS" =some (some (.int 8 t5))) →
 (bE K aX "FIGURES" =some (some (.str "0123456789" t6))) →
 (bE K aX "MOST_FIGURES" =some (some (.int 60 t7))) →
 (bE K aX "isinstance" =some none) →
 (bE K aX "int" =some none) →
 (bE K aX "bool" =some none) →
 (bE K aX "tuple" =some none) →
 (bE K aX "len" =some none) →
 (bE K aX "min" =some none) →
 (bE K aX "all" =some none) →
 (bE K aX "range" =some none) →
 (bE K aX "enumerate" =some none) →
 (bE K aX "zip" =some none) →
 (bE K aX "sum" =some none) →
 (bE K aX "list" =some none) →
 (bE K aX "max" =some none) →
 (bE K aX "set" =some none) →
 (bE K aX "str" =some none) →
 (bE K aX "ValueError" =some none) →
 (bE K aX "Line" =some (some (.ref xL))) →
 (iZ K xL c9=true) →
 (iH K xL=true) →
 (PySem.W.plainOver K xL=true) →
 (cp K (.ref xL) "__setattr__" =some (some (.builtin "object.__setattr__"))) →
 (cp K (.ref xL) "name" =some none) →
 (cp K (.ref xL) "stops" =some none) →
 (cp K (.ref xL) "runs" =some none) →
 (cp K (.ref xL) "stays" =some none) →
 (cp K (.ref xL) "first" =some none) →
 (PySem.W.makesIn K xL=true) →
 (eS K (.ref xL)=true) →
 (Mf K xL "__init__" "Line.__init__" (clsOf (top 35) 0) jy1) →
 (Mf K xL "coming" "Line.coming" (clsOf (top 35) 1) jy2) →
 (Mf K xL "going" "Line.going" (clsOf (top 35) 2) jy3) →
 (Mf K xL "ride" "Line.ride" (clsOf (top 35) 3) jy4) →
 (Mf K xL "own_spans" "Line.own_spans" (clsOf (top 35) 4) jy5) →
 (Mf K xL "own_labels" "Line.own_labels" (clsOf (top 35) 5) jy6) →
 (bE K aX "Plan" =some (some (.ref xP))) →
 (iZ K xP c9=true) →
 (iH K xP=true) →
 (PySem.W.plainOver K xP=true) →
 (cp K (.ref xP) "__setattr__" =some (some (.builtin "object.__setattr__"))) →
 (cp K (.ref xP) "beat" =some none) →
 (cp K (.ref xP) "lines" =some none) →
 (cp K (.ref xP) "between" =some none) →
 (PySem.W.makesIn K xP=true) →
 (eS K (.ref xP)=true) →
 (Mf K xP "__init__" "Plan.__init__" (clsOf (top 39) 0) jz1) →
 (Mf K xP "happenings" "Plan.happenings" (clsOf (top 39) 1) jz2) →
 (Mf K xP "all_spans" "Plan.all_spans" (clsOf (top 39) 2) jz3) →
 (Mf K xP "all_labels" "Plan.all_labels" (clsOf (top 39) 3) jz4) →
 (Mf K xP "is_small" "Plan.is_small" (clsOf (top 39) 4) jz5) →
 (Mf K xP "take_line" "Plan.take_line" (clsOf (top 39) 5) jz6) →
 (Mf K xP "span_between" "Plan.span_between" (clsOf (top 39) 7) jz7) →
 (Mf K xP "take_between" "Plan.take_between" (clsOf (top 39) 8) jz8) →
 (Mf K xP "take" "Plan.take" (clsOf (top 39) 9) jz9) →
 (Mf K xP "take_stay" "Plan.take_stay" (clsOf (top 39) 6) jza) →
 (bE K aX "FORMS" =some (some (.ref xF))) →
 ((xF == gY)=false) →
 (K.lookup xF=some ⟨.type "dict",none,.dict #[⟨eT w.params "stay",.str "stay" ka,.ref q1⟩,⟨eT w.params "change",.str "change" kb,.ref q2⟩,⟨eT w.params "apart",.str "apart" kc,.ref q3⟩,⟨eT w.params "meet",.str "meet" kd,.ref q4⟩] nF,#[]⟩) →
 (K.lookup q1=some ⟨.type "tuple",none,.seq #[.int 2 ua1,.int 3 ub1] nn1,#[]⟩) →
 (K.lookup q2=some ⟨.type "tuple",none,.seq #[.int 3 ua2,.int 3 ub2] nn2,#[]⟩) →
 (K.lookup q3=some ⟨.type "tuple",none,.seq #[.int 3 ua3,.int 1 ub3] nn3,#[]⟩) →
 (K.lookup q4=some ⟨.type "tuple",none,.seq #[.int 4 ua4,.int 1 ub4] nn4,#[]⟩) →
 (bE K aX "STAY_UNTOLD" =some (some (.ref q5))) →
 (K.lookup q5=some ⟨.type "tuple",none,.seq #[.int 0 uc,.int 0 ud,.int 0 ue] nn5,#[]⟩) →
 (bE K aX "HourError" =some (some (.ref x1))) →
 (PySem.W.excIn K x1 [.type "ValueError",.type "Exception",.type "BaseException",.type "object"] "ValueError.__new__" =true) →
 (bE K aX "NoText" =some (some (.ref x2))) →
 (PySem.W.excIn K x2 [.type "ValueError",.type "Exception",.type "BaseException",.type "object"] "ValueError.__new__" =true) →
 (cp K (.ref x2) "__getattribute__" =some (some (.builtin "BaseException.__getattribute__"))) →
 (cp K (.ref x2) "__getattr__" =some none) →
 (cp K (.ref x2) "__class__" =some (some (.builtin "object.__class__"))) →
 (PySem.W.specialIn K (.builtin "object.__class__") "__get__" =some (some (.builtin "getset_descriptor.__get__"))) →
 (PySem.W.takesIn K (.builtin "object.__class__")=some true) →
 (kh K x2 (.type "object")=some true) →
 (kh K x2 (.type "BaseException")=some true) →
 (iH K x2=true) →
 (kh K x2 (.ref x1)=some true) →
 (bE K aX "NoOrder" =some (some (.ref xa))) →
 (bE K aX "NoPlan" =some (some (.ref xb))) →
 (bE K aX "NoWay" =some (some (.ref xd))) →
 (bE K aX "OtherBeats" =some (some (.ref xe))) →
 (bE K aX "TooGreat" =some (some (.ref xf))) →
 (bE K aX "TooWide" =some (some (.ref xg))) →
 (cn K (.ref x2) (.type "ValueError")=some true) →
 (cn K (.ref x2) (.ref xa)=some false) →
 (cn K (.ref x2) (.ref xb)=some false) →
 (cn K (.ref x2) (.ref xd)=some false) →
 (cn K (.ref x2) (.ref xe)=some false) →
 (cn K (.ref x2) (.ref xf)=some false) →
 (cn K (.ref x2) (.ref xg)=some false)→C)→C
def Wp:Prop:=∀ {q:aK} {loose:List Str} {XP:(Str→Option af)→bM→Prop} {YP:bc→bM→Prop} {d:DefRec} {K:Params→aj},d.params.defaults=[]→d.name = "law" →(∀ (w:bc) (h:bM),YP w h→(K w.params).In h)→(∀ w:bc,Facts (K w.params) w)→PySem.W.WalkO q loose XP YP (gF).row.toRowW d [] (fun f vs=>PySem.call f vs)
end HN
section
open PySem PySem.W PyProof.Rows
def HN.seenOf:aK:={ PySem.Challenge.pw_hourtable_k81_texts_of_no_plan with main:={ PySem.Challenge.pw_hourtable_k81_texts_of_no_plan.main with body:=[1,2,3,4,5,6,7,8,10,11,12,13,14,15,16,18,19,20,21,22,23,24,26,27,28,29,30,31,32,33,34,35,36,37,38,39,40,41,43,44,45,46,47,48,49,51,52,53,54,55,56,57,58,60,61,62,63,64,66,67,68,70,71,72,73,74,75,76,77,78,79,81,82,83,85,86,87,89,90,91,92,93,94,95,96,97,98,99,100,101,102,103,104,105,106,107,108].map HN.top } }
def HN.isSeen (s:ar):Bool:=xlAt HN.seenOf [] s && recOk (RowW.records (OpenRow.toRowW (OpenLaw.row gF))) s
local macro_rules
 | `(tactic| o_head $H:term) => `(tactic| (refine holds_open (q := HN.seenOf) (loose := [au "FORMS"]) (XP := XL HN.seenOf []) (Xt := HN.isSeen) (Yf := Hook.obs $H) (Ya := Hook.val $H) (YP := Hook.says $H) (N := 5618) ?_ (Hook.of $H) (Hook.keeps $H) (fun s e => xl_of s (Bool.and_eq_true_iff.mp e).1) XL.keeps (by rfl) (by rfl) (by rfl) (fun s e => recFacts_of (Bool.and_eq_true_iff.mp e).2) ?_ ?_ ?_ ?_ ?_ ?_))
theorem HN.left_two {σ β:Type}{e:Option σ}{f:σ→α}{g:σ→β}{a:α}{b:β}(h1:e.map f=some a)(h2:e.map g=some b):e.map (fun s=>(f s,g s))=some (a,b):=by
 cases e with
 | none=>cases h1
 | some s=>injection h1 with h1;injection h2 with h2;show some (f s,g s)=_;rw [h1,h2]
namespace HN
open PySem PySem.W
def topRunG (st:SharedT→Thread→Option (SharedT×Thread))(ok:Thread→Bool):Nat→SharedT→Thread→Option SharedT
 | 0,_,_=>none
 | n+1,s,t=>match through t with
  | true=>some s
  | false=>match ok t with
   | false=>none
   | true=>match st s t with
    | some r=>topRunG st ok n r.1 r.2
    | none=>none
theorem topRun_of {tb:String→Option ee}{p:aK}{w:bc}{n₀:Nat}{ann:Option af}:∀ {n:Nat} {s s':SharedT} {t:Thread},topRunG (stepT (denote tb) p w) (stepOk n₀ ann) n s t=some s'→topRun tb p w n₀ ann n s.abs t=some s'.abs
 | 0,_,_,_,h=>by cases h
 | n+1,s,s',t,h=>by
  unfold topRunG at h;unfold topRun;cases ht:through t with
  | true=>rw [ht] at h;cases h;rfl
  | false =>
   rw [ht] at h;cases hk:stepOk n₀ ann t with
   | false=>rw [hk] at h;cases h
   | true =>
    rw [hk] at h;cases hs:stepT (denote tb) p w s t with
    | none=>rw [hs] at h;cases h
    | some r=>obtain ⟨s₂,t₂⟩:=r;rw [hs] at h;rw [stepT_spec hs];exact topRun_of h
def ofL:List Obj→Nat→BT→BT
 | [],_,T=>T
 | o::l,n,T=>ofL l (n+1) (T.ins n o)
def Ful (n:Nat)(T:BT):Prop:=∀ i,i<n→(T.get i).isSome=true
theorem ful_ins (o:Obj):∀ {T:BT} {n:Nat},Ful n T→((T.ins n o).get n).isSome=true
 | .nil,0,_=>rfl
 | .nil,n+1,h=>by cases h 0 (Nat.succ_pos _)
 | .node v l r,n,h=>by
  rw [BT.ins_node]
  by_cases h0:n=0
  ·subst h0;rfl
  rw [qI h0]
  by_cases h1:n % 2=1
  ·rw [qJ h1,BT.get_node,qI h0,qJ h1]
   refine ful_ins o fun j hj=>?_
   have:=h (2 * j+1) (by lia)
   rwa [BT.get_node,qI (by lia),qJ (by lia),show (2 * j+1) / 2=j by lia] at this
  ·rw [qI h1,BT.get_node,qI h0,qI h1]
   refine ful_ins o fun j hj=>?_
   have:=h (2 * j+2) (by lia)
   rwa [BT.get_node,qI (by lia),qI (by lia),show (2 * j+2) / 2 - 1=j by lia] at this
theorem ofL_get:∀ {l:List Obj} {n:Nat} {T:BT},Ful n T→∀ i,i<n+l.length→(ofL l n T).get i=if i<n then T.get i else l[i - n]?
 | [],n,T,_,i,hi=>by rw [qJ (by simpa using hi)];rfl
 | o::l,n,T,h,i,hi=>by
  have hg:=BT.get_ins o T n (ful_ins o h);show (ofL l (n+1) (T.ins n o)).get i=_;rw [ofL_get (l:=l) (n:=n+1) (T:=T.ins n o) (fun j hj=>by
   rw [hg]
   by_cases e:j=n
   ·rw [qJ e];rfl
   ·rw [qI e];exact h j (by lia)) i (by rw [az] at hi;lia),hg]
  by_cases h1:i<n
  ·rw [qJ (by lia),qI (by lia),qJ h1]
  ·rw [qI h1]
   by_cases e:i=n
   ·rw [qJ (by lia),qJ e,e,gp];rfl
   ·rw [qI (by lia),show i - n=(i - (n+1))+1 by lia];rfl
theorem ofL_abs (h:bM):absHeap (ofL h.objs.toList 0 .nil) h.objs.size h.life=h:=by
 have e:(absHeap (ofL h.objs.toList 0 .nil) h.objs.size h.life).objs=h.objs:=by
  apply Array.ext_getElem?
  intro i;rw [absHeap_at]
  by_cases hi:i<h.objs.size
  ·rw [qJ hi,ofL_get (n:=0) (fun j hj=>qK hj (jM _)) i (by rw [eP];lia),qI (jM _),Nat.sub_zero,iQ,lO hi]
   rfl
  ·rw [qI hi,Array.getElem?_eq_none (by lia)]
 exact qO (bM.mk · h.life) e
def topFromT (tb:String→Option ee)(p:aK)(w:bc)(N:Nat)(s₀:ar):Option ar :=
 match s₀.heap.isNs aX && s₀.gens.size == 0 with
 | true=>(topRunG (stepT (denote tb) p w) (stepOk s₀.heap.objs.size (s₀.heap.nsMap aX "__annotations__")) N ⟨ofL s₀.heap.objs.toList 0 .nil,s₀.heap.objs.size,s₀.heap.life,s₀.gens,s₀.drawn,s₀.toks,s₀.os⟩ (topStub p)).bind fun s₁=>match staticsOk (bg p.main.body) s₀.heap s₁.abs.heap && namesBound p s₁.abs.heap && gensDone s₁.abs && laidKept s₀.heap s₁.abs.heap with
   | true=>some s₁.abs
   | false=>none
 | false=>none
theorem topFrom_of {tb:String→Option ee}{p:aK}{N:Nat}{s₀ s₁:ar}(h:topFromT tb p w N s₀=some s₁):topFrom tb p w N s₀=some s₁:=by
 unfold topFromT at h;unfold topFrom;cases e:(s₀.heap.isNs aX && s₀.gens.size == 0) with
 | false=>rw [e] at h;cases h
 | true =>
  rw [e] at h;obtain ⟨s₂,h6,h7⟩:=Option.bind_eq_some_iff.mp h;have q:=topRun_of h6;have ea:(SharedT.abs ⟨ofL s₀.heap.objs.toList 0 .nil,s₀.heap.objs.size,s₀.heap.life,s₀.gens,s₀.drawn,s₀.toks,s₀.os⟩)=s₀:=by
   unfold SharedT.abs;rw [ofL_abs]
  rw [ea] at q;exact Option.bind_eq_some_iff.mpr ⟨_,q,h7⟩
def openT (p:aK)(w:bc)(N:Nat):Option ar:=(gD eh p w N).bind (topFromT eh p w N)
theorem open_of {p:aK}{N:Nat}{f:ar→α}{a:α}(h:(openT p w N).map f=some a):(gk eh p w N).map f=some a:=by
 obtain ⟨s,h1,h2⟩:=aY.mp h;obtain ⟨s₀,h3,h4⟩:=Option.bind_eq_some_iff.mp h1;unfold gk;rw [h3];show (topFrom eh p w N s₀).map f=_;rw [topFrom_of h4];exact qO some h2
end HN
set_option maxHeartbeats 0 in
theorem HN.said:gF.wellSaid=true:=by
 rewrite [PySem.W.Fast.te9446332074065402090]
 decide +kernel
set_option maxRecDepth 100000 in
set_option maxHeartbeats 0 in
def HN.head0:(P:bc→Prop) ×' (HN.Wp→(∀ w:bc,(gk eh gF.row.prog w 5618).map (cX HN.seenOf [au "FORMS"] (bg gF.row.prog.main.body) HN.isSeen true)=some (cH HN.seenOf [au "FORMS"]))→(∀ w,P w)→gF.Holds):=by
 apply PSigma.mk
 intro W Lf Sc
 w_on;refine holds_law HN.said fun said=>?_;k_head
 ·exact fun w=>HN.left_two (Lf w) (Sc w)
 ·rfl
 ·assumption
 ·decide +kernel
 ·exact ⟨rfl,rfl,rfl,rfl,rfl,by decide +kernel⟩
 ·w_witness2
 k_fill
 refine W rfl rfl (fun w h Y=>PySem.W.km_in_of Y) ?F
 case F =>
  intro w C k;refine' HN.fcx_of ?E k ?y1 ?y2 ?y3 ?y4 ?y5 ?y6 ?y7 ?z1 ?z2 ?z3 ?z4 ?z5 ?z6 ?z7 ?z8 ?z9 ?z10 ?z11 ?z12 ?z13 ?z14 ?z15 ?z16 ?w1 ?w2 ?w3 ?w4 ?w5 ?w6 ?w7 ?w8 ?w9 ?w10 ?w11 ?w12 ?w13 ?w14 ?w15 ?w16 ?w17 ?w18 ?w19 ?w20 ?w21 ?w22 ?w23 ?w24 ?w25 ?w26 ?w27 ?w28 ?w29 ?w30 ?w31 ?w32 ?w33 ?w34 ?w35 ?w36 ?w37 ?w38 ?w39 ?w40 ?w41 ?w42 ?w43 ?w44 ?w45 ?w46 ?w47 ?w48 ?w49 ?w50 ?w51 ?w52 ?w53 ?w54 ?w55 ?w56 ?w57 ?w58 ?w59 ?w60 ?w61 ?w62 ?w63 ?w64 ?w65 ?w66 ?w67 ?w68 ?w69 ?w70 ?w71 ?w72 ?w73
  (case E=>kernel_rfl)
  (case y1=>k_is);(case y2=>k_is);(case y3=>k_is);(case y4=>k_is);(case y5=>k_is);(case y6=>k_is);(case y7=>k_is);(case z1=>k_is);(case z2=>k_is);(case z3=>k_is);(case z4=>k_is);(case z5=>k_is);(case z6=>k_is);(case z7=>k_is);(case z8=>k_is);(case z9=>k_is);(case z10=>k_is);(case z11=>k_is);(case z12=>k_is);(case z13=>k_is);(case z14=>k_is);(case z15=>k_is);(case z16=>k_is)
  (case w1=>k_is)
  (case w2=>k_is)
  (case w3=>k_is)
  (case w4=>k_is)
  (case w5=>k_is)
  (case w6=>k_is)
  (case w7=>k_is)
  (case w8=>k_is)
  (case w9=>k_is)
  (case w10=>k_is)
  (case w11=>k_is)
  (case w12=>k_is)
  (case w13=>exact ⟨by k_is,by k_is,_,_,_,_,_,_,_,_,_,by k_is,by k_is,by k_is⟩)
  (case w14=>exact ⟨by k_is,by k_is,_,_,_,_,_,_,_,_,_,by k_is,by k_is,by k_is⟩)
  (case w15=>exact ⟨by k_is,by k_is,_,_,_,_,_,_,_,_,_,by k_is,by k_is,by k_is⟩)
  (case w16=>exact ⟨by k_is,by k_is,_,_,_,_,_,_,_,_,_,by k_is,by k_is,by k_is⟩)
  (case w17=>exact ⟨by k_is,by k_is,_,_,_,_,_,_,_,_,_,by k_is,by k_is,by k_is⟩)
  (case w18=>exact ⟨by k_is,by k_is,_,_,_,_,_,_,_,_,_,by k_is,by k_is,by k_is⟩)
  (case w19=>k_is)
  (case w20=>k_is)
  (case w21=>k_is)
  (case w22=>k_is)
  (case w23=>k_is)
  (case w24=>k_is)
  (case w25=>k_is)
  (case w26=>k_is)
  (case w27=>k_is)
  (case w28=>k_is)
  (case w29=>exact ⟨by k_is,by k_is,_,_,_,_,_,_,_,_,_,by k_is,by k_is,by k_is⟩)
  (case w30=>exact ⟨by k_is,by k_is,_,_,_,_,_,_,_,_,_,by k_is,by k_is,by k_is⟩)
  (case w31=>exact ⟨by k_is,by k_is,_,_,_,_,_,_,_,_,_,by k_is,by k_is,by k_is⟩)
  (case w32=>exact ⟨by k_is,by k_is,_,_,_,_,_,_,_,_,_,by k_is,by k_is,by k_is⟩)
  (case w33=>exact ⟨by k_is,by k_is,_,_,_,_,_,_,_,_,_,by k_is,by k_is,by k_is⟩)
  (case w34=>exact ⟨by k_is,by k_is,_,_,_,_,_,_,_,_,_,by k_is,by k_is,by k_is⟩)
  (case w35=>exact ⟨by k_is,by k_is,_,_,_,_,_,_,_,_,_,by k_is,by k_is,by k_is⟩)
  (case w36=>exact ⟨by k_is,by k_is,_,_,_,_,_,_,_,_,_,by k_is,by k_is,by k_is⟩)
  (case w37=>exact ⟨by k_is,by k_is,_,_,_,_,_,_,_,_,_,by k_is,by k_is,by k_is⟩)
  (case w38=>exact ⟨by k_is,by k_is,_,_,_,_,_,_,_,_,_,by k_is,by k_is,by k_is⟩)
  (case w39=>k_is)
  (case w40=>rfl)
  (case w41=>k_is)
  (case w42=>k_is)
  (case w43=>k_is)
  (case w44=>k_is)
  (case w45=>k_is)
  (case w46=>k_is)
  (case w47=>k_is)
  (case w48=>k_is)
  (case w49=>k_exc)
  (case w50=>k_is)
  (case w51=>k_exc)
  (case w52=>k_is)
  (case w53=>k_is)
  (case w54=>k_is)
  (case w55=>k_is)
  (case w56=>k_is)
  (case w57=>k_is)
  (case w58=>k_is)
  (case w59=>k_is)
  (case w60=>k_is)
  (case w61=>k_is)
  (case w62=>k_is)
  (case w63=>k_is)
  (case w64=>k_is)
  (case w65=>k_is)
  (case w66=>k_is)
  (case w67=>kit_is)
  (case w68=>kit_is)
  (case w69=>kit_is)
  (case w70=>kit_is)
  (case w71=>kit_is)
  (case w72=>kit_is)
  (case w73=>kit_is)
set_option maxRecDepth 100000 in
set_option maxHeartbeats 0 in
theorem HN.scf (w:bc):HN.head0.1 (w.withFollow "special-get-raises" false):=by
 show _=_;refine HN.open_of ?_;unfold HN.openT gD HN.topFromT;rewrite [bR,bP,bO,bZ,bS,bQ,bY];kernel_rfl
set_option maxRecDepth 100000 in
set_option maxHeartbeats 0 in
theorem HN.sct (w:bc):HN.head0.1 (w.withFollow "special-get-raises" true):=by
 show _=_;refine HN.open_of ?_;unfold HN.openT gD HN.topFromT;rewrite [bR,bP,bO,bZ,bS,bQ,bY];kernel_rfl
theorem HN.left_q {σ A B C D E F G H:Type}{e:Option σ}{f:σ→A×B×C×D×E×F×G×H}{a:A×B×C×D×E×F×G×H}(h1:e.map (fun s=>((f s).1,(f s).2.1))=some (a.1,a.2.1))(h2:e.map (fun s=>((f s).2.2.2.1,(f s).2.2.2.2.1))=some (a.2.2.2.1,a.2.2.2.2.1))(h3:e.map (fun s=>((f s).2.2.2.2.2.1,(f s).2.2.2.2.2.2.1))=some (a.2.2.2.2.2.1,a.2.2.2.2.2.2.1))(h4:e.map (fun s=>((f s).2.2.1,(f s).2.2.2.2.2.2.2))=some (a.2.2.1,a.2.2.2.2.2.2.2)):e.map f=some a:=by
 cases e with
 | none=>cases h1
 | some s =>
  injection h1 with h1;injection h2 with h2;injection h3 with h3;injection h4 with h4
  injection h1 with p1 p2;injection h4 with p3 h4;injection h2 with p4 p5;injection h3 with p6 p7
  exact qO some (Prod.ext p1 (Prod.ext p2 (Prod.ext p3 (Prod.ext p4 (Prod.ext p5 (Prod.ext p6 (Prod.ext p7 h4)))))))
set_option maxHeartbeats 0 in
theorem HN.left1f (w:bc):(gk eh gF.row.prog (w.withFollow "special-get-raises" false) 5618).map (fun s=>((cX HN.seenOf [au "FORMS"] (bg gF.row.prog.main.body) HN.isSeen true s).1,(cX HN.seenOf [au "FORMS"] (bg gF.row.prog.main.body) HN.isSeen true s).2.1))=some ((cH HN.seenOf [au "FORMS"]).1,(cH HN.seenOf [au "FORMS"]).2.1):=by
 refine HN.open_of ?_;unfold HN.openT gD HN.topFromT;rewrite [bR,bP,bO,bZ,bS,bQ,bY,cM];dsimp only [cK,cH];kernel_rfl
set_option maxHeartbeats 0 in
theorem HN.left1t (w:bc):(gk eh gF.row.prog (w.withFollow "special-get-raises" true) 5618).map (fun s=>((cX HN.seenOf [au "FORMS"] (bg gF.row.prog.main.body) HN.isSeen true s).1,(cX HN.seenOf [au "FORMS"] (bg gF.row.prog.main.body) HN.isSeen true s).2.1))=some ((cH HN.seenOf [au "FORMS"]).1,(cH HN.seenOf [au "FORMS"]).2.1):=by
 refine HN.open_of ?_;unfold HN.openT gD HN.topFromT;rewrite [bR,bP,bO,bZ,bS,bQ,bY,cM];dsimp only [cK,cH];kernel_rfl
set_option maxHeartbeats 0 in
theorem HN.left1 (w:bc):(gk eh gF.row.prog w 5618).map (fun s=>((cX HN.seenOf [au "FORMS"] (bg gF.row.prog.main.body) HN.isSeen true s).1,(cX HN.seenOf [au "FORMS"] (bg gF.row.prog.main.body) HN.isSeen true s).2.1))=some ((cH HN.seenOf [au "FORMS"]).1,(cH HN.seenOf [au "FORMS"]).2.1):=by
 exact PySem.W.byRow2 "special-get-raises" (P:=fun w=>(gk eh gF.row.prog w 5618).map (fun s=>((cX HN.seenOf [au "FORMS"] (bg gF.row.prog.main.body) HN.isSeen true s).1,(cX HN.seenOf [au "FORMS"] (bg gF.row.prog.main.body) HN.isSeen true s).2.1))=some ((cH HN.seenOf [au "FORMS"]).1,(cH HN.seenOf [au "FORMS"]).2.1)) HN.left1f HN.left1t w
set_option maxHeartbeats 0 in
theorem HN.left2f (w:bc):(gk eh gF.row.prog (w.withFollow "special-get-raises" false) 5618).map (fun s=>((cX HN.seenOf [au "FORMS"] (bg gF.row.prog.main.body) HN.isSeen true s).2.2.2.1,(cX HN.seenOf [au "FORMS"] (bg gF.row.prog.main.body) HN.isSeen true s).2.2.2.2.1))=some ((cH HN.seenOf [au "FORMS"]).2.2.2.1,(cH HN.seenOf [au "FORMS"]).2.2.2.2.1):=by
 refine HN.open_of ?_;unfold HN.openT gD HN.topFromT;rewrite [bR,bP,bO,bZ,bS,bQ,bY,cM];dsimp only [cK,cH];kernel_rfl
set_option maxHeartbeats 0 in
theorem HN.left2t (w:bc):(gk eh gF.row.prog (w.withFollow "special-get-raises" true) 5618).map (fun s=>((cX HN.seenOf [au "FORMS"] (bg gF.row.prog.main.body) HN.isSeen true s).2.2.2.1,(cX HN.seenOf [au "FORMS"] (bg gF.row.prog.main.body) HN.isSeen true s).2.2.2.2.1))=some ((cH HN.seenOf [au "FORMS"]).2.2.2.1,(cH HN.seenOf [au "FORMS"]).2.2.2.2.1):=by
 refine HN.open_of ?_;unfold HN.openT gD HN.topFromT;rewrite [bR,bP,bO,bZ,bS,bQ,bY,cM];dsimp only [cK,cH];kernel_rfl
set_option maxHeartbeats 0 in
theorem HN.left2 (w:bc):(gk eh gF.row.prog w 5618).map (fun s=>((cX HN.seenOf [au "FORMS"] (bg gF.row.prog.main.body) HN.isSeen true s).2.2.2.1,(cX HN.seenOf [au "FORMS"] (bg gF.row.prog.main.body) HN.isSeen true s).2.2.2.2.1))=some ((cH HN.seenOf [au "FORMS"]).2.2.2.1,(cH HN.seenOf [au "FORMS"]).2.2.2.2.1):=by
 exact PySem.W.byRow2 "special-get-raises" (P:=fun w=>(gk eh gF.row.prog w 5618).map (fun s=>((cX HN.seenOf [au "FORMS"] (bg gF.row.prog.main.body) HN.isSeen true s).2.2.2.1,(cX HN.seenOf [au "FORMS"] (bg gF.row.prog.main.body) HN.isSeen true s).2.2.2.2.1))=some ((cH HN.seenOf [au "FORMS"]).2.2.2.1,(cH HN.seenOf [au "FORMS"]).2.2.2.2.1)) HN.left2f HN.left2t w
set_option maxHeartbeats 0 in
theorem HN.left3f (w:bc):(gk eh gF.row.prog (w.withFollow "special-get-raises" false) 5618).map (fun s=>((cX HN.seenOf [au "FORMS"] (bg gF.row.prog.main.body) HN.isSeen true s).2.2.2.2.2.1,(cX HN.seenOf [au "FORMS"] (bg gF.row.prog.main.body) HN.isSeen true s).2.2.2.2.2.2.1))=some ((cH HN.seenOf [au "FORMS"]).2.2.2.2.2.1,(cH HN.seenOf [au "FORMS"]).2.2.2.2.2.2.1):=by
 refine HN.open_of ?_;unfold HN.openT gD HN.topFromT;rewrite [bR,bP,bO,bZ,bS,bQ,bY,cM];dsimp only [cK,cH];kernel_rfl
set_option maxHeartbeats 0 in
theorem HN.left3t (w:bc):(gk eh gF.row.prog (w.withFollow "special-get-raises" true) 5618).map (fun s=>((cX HN.seenOf [au "FORMS"] (bg gF.row.prog.main.body) HN.isSeen true s).2.2.2.2.2.1,(cX HN.seenOf [au "FORMS"] (bg gF.row.prog.main.body) HN.isSeen true s).2.2.2.2.2.2.1))=some ((cH HN.seenOf [au "FORMS"]).2.2.2.2.2.1,(cH HN.seenOf [au "FORMS"]).2.2.2.2.2.2.1):=by
 refine HN.open_of ?_;unfold HN.openT gD HN.topFromT;rewrite [bR,bP,bO,bZ,bS,bQ,bY,cM];dsimp only [cK,cH];kernel_rfl
set_option maxHeartbeats 0 in
theorem HN.left3 (w:bc):(gk eh gF.row.prog w 5618).map (fun s=>((cX HN.seenOf [au "FORMS"] (bg gF.row.prog.main.body) HN.isSeen true s).2.2.2.2.2.1,(cX HN.seenOf [au "FORMS"] (bg gF.row.prog.main.body) HN.isSeen true s).2.2.2.2.2.2.1))=some ((cH HN.seenOf [au "FORMS"]).2.2.2.2.2.1,(cH HN.seenOf [au "FORMS"]).2.2.2.2.2.2.1):=by
 exact PySem.W.byRow2 "special-get-raises" (P:=fun w=>(gk eh gF.row.prog w 5618).map (fun s=>((cX HN.seenOf [au "FORMS"] (bg gF.row.prog.main.body) HN.isSeen true s).2.2.2.2.2.1,(cX HN.seenOf [au "FORMS"] (bg gF.row.prog.main.body) HN.isSeen true s).2.2.2.2.2.2.1))=some ((cH HN.seenOf [au "FORMS"]).2.2.2.2.2.1,(cH HN.seenOf [au "FORMS"]).2.2.2.2.2.2.1)) HN.left3f HN.left3t w
set_option maxHeartbeats 0 in
theorem HN.left4f (w:bc):(gk eh gF.row.prog (w.withFollow "special-get-raises" false) 5618).map (fun s=>((cX HN.seenOf [au "FORMS"] (bg gF.row.prog.main.body) HN.isSeen true s).2.2.1,(cX HN.seenOf [au "FORMS"] (bg gF.row.prog.main.body) HN.isSeen true s).2.2.2.2.2.2.2))=some ((cH HN.seenOf [au "FORMS"]).2.2.1,(cH HN.seenOf [au "FORMS"]).2.2.2.2.2.2.2):=by
 refine HN.open_of ?_;unfold HN.openT gD HN.topFromT;rewrite [bR,bP,bO,bZ,bS,bQ,bY,cM];dsimp only [cK,cH];kernel_rfl
set_option maxHeartbeats 0 in
theorem HN.left4t (w:bc):(gk eh gF.row.prog (w.withFollow "special-get-raises" true) 5618).map (fun s=>((cX HN.seenOf [au "FORMS"] (bg gF.row.prog.main.body) HN.isSeen true s).2.2.1,(cX HN.seenOf [au "FORMS"] (bg gF.row.prog.main.body) HN.isSeen true s).2.2.2.2.2.2.2))=some ((cH HN.seenOf [au "FORMS"]).2.2.1,(cH HN.seenOf [au "FORMS"]).2.2.2.2.2.2.2):=by
 refine HN.open_of ?_;unfold HN.openT gD HN.topFromT;rewrite [bR,bP,bO,bZ,bS,bQ,bY,cM];dsimp only [cK,cH];kernel_rfl
set_option maxHeartbeats 0 in
theorem HN.left4 (w:bc):(gk eh gF.row.prog w 5618).map (fun s=>((cX HN.seenOf [au "FORMS"] (bg gF.row.prog.main.body) HN.isSeen true s).2.2.1,(cX HN.seenOf [au "FORMS"] (bg gF.row.prog.main.body) HN.isSeen true s).2.2.2.2.2.2.2))=some ((cH HN.seenOf [au "FORMS"]).2.2.1,(cH HN.seenOf [au "FORMS"]).2.2.2.2.2.2.2):=by
 exact PySem.W.byRow2 "special-get-raises" (P:=fun w=>(gk eh gF.row.prog w 5618).map (fun s=>((cX HN.seenOf [au "FORMS"] (bg gF.row.prog.main.body) HN.isSeen true s).2.2.1,(cX HN.seenOf [au "FORMS"] (bg gF.row.prog.main.body) HN.isSeen true s).2.2.2.2.2.2.2))=some ((cH HN.seenOf [au "FORMS"]).2.2.1,(cH HN.seenOf [au "FORMS"]).2.2.2.2.2.2.2)) HN.left4f HN.left4t w
theorem HN.leftA (w:bc):(gk eh gF.row.prog w 5618).map (cX HN.seenOf [au "FORMS"] (bg gF.row.prog.main.body) HN.isSeen true)=some (cH HN.seenOf [au "FORMS"]):=HN.left_q (f:=cX HN.seenOf [au "FORMS"] (bg gF.row.prog.main.body) HN.isSeen true) (HN.left1 w) (HN.left2 w) (HN.left3 w) (HN.left4 w)
end
local macro_rules
|`(⇑$_)=>`(by trivial)
set_option hygiene false in
local macro_rules
|`(‹$_›)=>`(dz P w K mg base CX0)
set_option hygiene false in
local macro_rules
|`(‹_›)=>`(dz l.prog w K mg base CX0)
set_option hygiene false in
local macro_rules
|`(tactic|erw[$g:ident,$a:term,$p:term])=>`(tactic|obtain⟨_,$g:ident⟩:=($a).fn X G (ps:=$p))
local macro_rules
 |`(⟨$x,*⟩)=>do let a:=x.getElems;let r←`(rfl);let u←`(_);let n:=λ(y:Lean.TSyntax `term)=>y.raw.getId;if a.any λy=>n y==`ρ||n y==`τ||n y==`ς then let b:Array (Lean.TSyntax `term):=a.flatMap λy=>if n y==`ρ then #[u,r] else if n y==`τ then #[u,u,u,r,r] else if n y==`ς then #[u,u,r,r] else #[y];`(⟨$b,*⟩) else Lean.Macro.throwUnsupported
local macro_rules
 | `(⋯) => `(by lia)
local macro_rules
 | `(∅) => `(by simp)
local macro_rules
 | `(↥$_) => `(by decide)
local macro_rules
 | `(tactic|apply $e) => `(tactic|refine $e)
set_option hygiene false in
local macro_rules
 | `(tactic|specialize $e) => `(tactic|refine $e (by contradiction) (fun cdv A outer s H vs Q E hr h=>?_))
namespace L2
open PySem PySem.Spec PyProof.Rows
abbrev Key:=Sum Int Str
def keyIs:Key→af→Bool
 | .inl k,v=>af.isInt k v
 | .inr x,v=>af.isStrOf x v
def keyH (w:bc):Key→Int
 | .inl k=>hashInt k
 | .inr x=>hashStr w x
theorem ik:∀{k:Key} {v:af},keyIs k v=true→(∃i t,k=Sum.inl i∧v=af.int i t)∨(∃x t,k=Sum.inr x∧v=af.str x t)
 | .inl i,v,h=>by
  obtain⟨t,e⟩:=af.isInt_shape (k:=i) (v:=v) h;exact .inl ⟨i,t,rfl,e⟩
 | .inr x,v,h=>by
  obtain⟨t,e⟩:=af.isStrOf_shape (x:=x) (v:=v) h;exact .inr ⟨x,t,rfl,e⟩
theorem keyIs_int (i:Int)(t:Tok):keyIs (.inl i) (.int i t)=true:=by simp[keyIs,af.isInt]
theorem jE (x:Str)(t:Tok):keyIs (.inr x) (.str x t)=true:=by simp[keyIs,af.isStrOf]
theorem key_ll (a b:Int):decide ((Sum.inl a:Key)=Sum.inl b)=(a == b):=by
 by_cases e:a=b
 ·subst e;simp
 ·have h:¬(Sum.inl a:Key)=Sum.inl b:=λq=>e (Sum.inl.inj q)
  rw[qM h];exact(beq_eq_false_iff_ne.mpr e).symm
theorem key_rr (a b:Str):decide ((Sum.inr a:Key)=Sum.inr b)=decide (a=b):=by
 by_cases e:a=b
 ·subst e;simp
 ·have h:¬(Sum.inr a:Key)=Sum.inr b:=λq=>e (Sum.inr.inj q)
  rw[qM h,qM e]
theorem key_lr (a:Int)(b:Str):decide ((Sum.inl a:Key)=Sum.inr b)=false:=qM (λq=>nomatch q)
theorem key_rl (a:Str)(b:Int):decide ((Sum.inr a:Key)=Sum.inl b)=false:=qM (λq=>nomatch q)
def gK (prog:aK)(w:bc):PySem.KeyKind prog w Key where
 is:=keyIs
 hash:=keyH w
 inj:=λv a b ha hb=>by
  rcases ik ha with ⟨i,t,rfl,rfl⟩ | ⟨x,t,rfl,rfl⟩
  ·rcases ik hb with ⟨j,u,rfl,e⟩ | ⟨y,u,rfl,e⟩
   ·injection e with e1 _;rw[e1]
   ·exact nomatch e
  ·rcases ik hb with ⟨j,u,rfl,e⟩ | ⟨y,u,rfl,e⟩
   ·exact nomatch e
   ·injection e with e1 _;rw[e1]
 byValue:=λk v h=>by
  rcases ik h with ⟨i,t,rfl,rfl⟩ | ⟨x,t,rfl,rfl⟩ <;> rfl
 pyHash:=λhv h=>by
  rcases ik hv with ⟨i,t,rfl,rfl⟩ | ⟨x,t,rfl,rfl⟩
  ·exact wpAny_pyHash_int h
  ·exact wpAny_pyHash_str h
 eqBool:=λhu hv h=>by
  rcases ik hu with ⟨i,t,rfl,rfl⟩ | ⟨x,t,rfl,rfl⟩
  ·rcases ik hv with ⟨j,u,rfl,rfl⟩ | ⟨y,u,rfl,rfl⟩
   ·rw[key_ll] at h;exact wpAny_eqBool_int h
   ·rw[key_lr] at h;exact SeqAt.EqAt.int_str i t y u _ _ _ _ h
  ·rcases ik hv with ⟨j,u,rfl,rfl⟩ | ⟨y,u,rfl,rfl⟩
   ·rw[key_rl] at h;exact SeqAt.EqAt.str_int x t j u _ _ _ _ h
   ·rw[key_rr] at h;exact wpAny_eqBool_str h
 «strs» := λk x t v h=>by
  rcases ik h with ⟨i,u,rfl,e⟩ | ⟨y,u,rfl,e⟩
  ·exact nomatch e
  ·injection e with e1 _
   subst e1;cases v <;> rfl
theorem mixKind_int (prog:aK)(w:bc)(i:Int)(t:Tok):(gK prog w).is (.inl i) (.int i t)=true:=keyIs_int i t
theorem mU (prog:aK)(w:bc)(x:Str)(t:Tok):(gK prog w).is (.inr x) (.str x t)=true:=jE x t
inductive V where
 | non | bl (b:Bool) | int (i:Int) | str (x:Str) | byt (b:Array UInt8) | flt (b:UInt64) | ref (a:ao) | ty (n:String)
 deriving DecidableEq
def iG:V→af→Prop
 | .non,u=>u=af.none
 | .bl b,u=>u=af.bool b
 | .int i,u=>∃t,u=af.int i t
 | .str x,u=>∃t,u=af.str x t
 | .byt b,u=>∃t,u=af.bytes b t
 | .flt b,u=>∃t,u=af.float b t
 | .ref a,u=>u=af.ref a
 | .ty n,u=>u=af.type n
abbrev gU:List V→List af→Prop:=Paired iG
theorem gU.length {xs:List V}(r:gU xs us):xs.length=us.length:=Paired.length r
theorem gU.get:∀{xs:List V} {us:List af} {i:Nat} {x:V},gU xs us→xs[i]? =some x→∃u,us[i]? =some u∧iG x u
 | _,_,_,_,.nil,e=>by simp at e
 | _,_,0,_,.cons r _,e=>by simp at e;subst e;exact⟨ρ,r⟩
 | _,_,i+1,x,.cons _ t,e=>by
  obtain⟨u,h1,h2⟩:=gU.get (i:=i) (x:=x) t (by simpa using e);exact⟨u,by simpa using h1,h2⟩
theorem gU.set {x:V}{u:af}(r:iG x u):∀{xs:List V} {us:List af} (i:Nat),gU xs us→gU (xs.set i x) (us.set i u)
 | _,_,_,.nil=> .nil
 | _,_,0,.cons _ t=> .cons r t
 | _,_,i+1,.cons q t=> .cons q (gU.set r i t)
theorem gU.append:∀{xs ys:List V} {us ws:List af},gU xs us→gU ys ws→gU (xs++ys) (us++ws)
 | _,_,_,_,.nil,s=>s
 | _,_,_,_,.cons r t,s=> .cons r (gU.append t s)
theorem gU.take:∀{xs:List V} {us:List af} (n:Nat),gU xs us→gU (xs.take n) (us.take n)
 | _,_,0,_=> .nil
 | _,_,_+1,.nil=> .nil
 | _,_,n+1,.cons r t=> .cons r (gU.take n t)
theorem gU.drop:∀{xs:List V} {us:List af} (n:Nat),gU xs us→gU (xs.drop n) (us.drop n)
 | _,_,0,r=>r
 | _,_,_+1,.nil=> .nil
 | _,_,n+1,.cons _ t=>gU.drop n t
def RelO:Option V→Option af→Prop
 | some v,some u=>iG v u
 | none,none=>True
 | _,_=>False
def KV {κ:Type}:List (κ×V)→List (κ×af)→Prop:=Paired λ(p:κ×V) (q:κ×af)=>p.1=q.1∧iG p.2 q.2
def kV:Key→V
 | .inl i=> .int i
 | .inr x=> .str x
inductive HO where
 | lst (xs:List V)
 | tup (xs:List V)
 | dK (kvs:List (Key×V)) | dT (kvs:List (List Key×V))
 | set (S:Int→Bool) (n:Nat)
 | ins (C dx:ao) (fs:List (Str×V))
 | own (x:ao)
 | xd (fs:List (Str×V))
 | met (f x:ao)
 | rng (lo hi:Int)
 | frz (o:Obj) (u:HO)
 | tbl (ps:Array af)
 | ext (φ:bM→Prop)
abbrev Hp:=ao→Option HO
def upd (H:Hp)(a:ao)(o:HO):Hp:=λb=>if b=a then some o else H b
theorem aR {H:Hp}{o:HO}:upd H a o a=some o:=by unfold upd;rw[qJ rfl]
theorem bo {H:Hp}{b:ao}{o:HO}(h:b≠a):upd H a o b=H b:=by unfold upd;rw[qI h]
theorem eF {H:Hp}{b:ao}{o u:HO}(h:H a=some o)(h':H b=some u)(d:o≠u):a≠b:=by
 intro e;subst e;rw[h] at h';exact d (bF h')
theorem aV {H:Hp}{b:ao}{o:HO}(h:H a=some o)(h':H b=none):a≠b:=by
 intro e;subst e;rw[h] at h';cases h'
def mI (h:bM)(a:ao)(items:Array af):Prop:=∃o,h.get? a=some o∧o.cls= .type "tuple" ∧o.dict=none∧∃n,o.data= .seq items n
theorem mI.tup {h:bM}{a:ao}{items:Array af}(p:mI h a items):IsTup h a items:=let ⟨o,e,c,_,n,d⟩:=p;⟨o,e,c,n,d⟩
theorem mI.lt (p:mI h a items):a<h.objs.size:=p.tup.lt
theorem mI.new (h:bM)(items:Array af):mI (h.push { cls:= .type "tuple",data:= .seq items }) h.objs.size items:=⟨_,aQ _ rfl,rfl,rfl,_,rfl⟩
section
variable (P:aK) (w:bc)
def iu (H:Hp)(h:bM)(a:ao):HO→Prop
 | .lst xs=>xs.length≤aA∧∃(its:List af) (n:Nat),gU xs its∧h.get? a=some { cls:= .type "list",data:= .seq its.toArray n }
 | .tup xs=>xs.length≤aA∧∃its:List af,gU xs its∧mI h a its.toArray
 | .dK kvs=>kvs.length≤aA∧(a == gY)=false∧∃vs,KV kvs vs∧h.DictOf (gK P w) a vs
 | .dT kvs=>kvs.length≤aA∧(a == gY)=false∧∃xs:List (List Key×ao×af),
   Paired (λ(p:List Key×V) (q:List Key×ao×af)=>p.1=q.1∧H q.2.1=some (.tup (p.1.map kV))∧iG p.2 q.2.2) kvs xs ∧
   ∃o es ep,h.get? a=some o∧o.ExactDict∧o.data= .dict es ep∧es.toList=xs.map (entryOfKey (tupleKind (gK P w)))∧(xs.map (·.1)).Nodup
 | .set S n=>h.SetOf (intKind P w) a S n
 | .ins C dx fs=>H dx=some (.own a)∧fs.length≤1000∧dx≠a∧h.get? a=some (gW C dx) ∧
   ∃mA,h.Ns1 dx mA∧(∀f,RelO (fs.lookup f) (mA f))∧PySem.Within mA (fs.map (·.1))
 | .own _=>∃o,h.get? a=some o
 | .xd fs=>∃mA,h.Ns1 a mA∧∀f,RelO (fs.lookup f) (mA f)
 | .rng lo hi=>∃t u v,h.get? a=some { cls:= .type "range",data:= .fields #[.int lo t,.int hi u,.int 1 v] }
 | .frz o u=>h.get? a=some o∧iu H h a u
 | .tbl ps=>h.get? a=some { cls:= .none,data:= .fields ps }
 | .met f x=>h.get? a=some (PySem.W.methodObj (.ref f) (.ref x))
 | .ext φ=>φ h∧(∃o,h.get? a=some o)∧∀h1 h2:bM,φ h1→(∀o,h1.get? a=some o→h2.get? a=some o)→φ h2
def HOk (H:Hp)(h:bM):Prop:=∀a o,H a=some o→iu P w H h a o
end
section
variable {H H':Hp}{o:HO}
theorem iu.lt (x:iu P w H h a o):a<h.objs.size:=by
 cases o with
 | lst xs=>obtain⟨_,_,_,_,e⟩:=x;exact aS e
 | tup xs=>obtain⟨_,_,_,p⟩:=x;exact p.lt
 | dK kvs=>obtain⟨_,_,_,_,o,_,_,e,_⟩:=x;exact aS e
 | dT kvs=>obtain⟨_,_,_,_,o,_,_,e,_⟩:=x;exact aS e
 | set S n=>obtain⟨o,_,_,_,e,_⟩:=x;exact aS e
 | ins C dx fs=>obtain⟨_,_,_,e,_⟩:=x;exact aS e
 | own y=>obtain⟨_,e⟩:=x;exact aS e
 | xd fs=>obtain⟨_,⟨_,_,_,e,_⟩,_⟩:=x;exact aS e
 | rng lo hi=>obtain⟨_,_,_,e⟩:=x;exact aS e
 | frz ob u=>obtain⟨e,_⟩:=x;exact aS e
 | tbl ps=>exact aS (show h.get? a=some _ from x)
 | met f y=>exact aS (show h.get? a=some _ from x)
 | ext φ=>obtain⟨_,⟨_,e⟩,_⟩:=x;exact aS e
theorem Paired.mapP {α β:Type}{F G:α→β→Prop}:∀{l₁:List α} {l₂:List β},Paired F l₁ l₂→(∀a b,F a b→G a b)→Paired G l₁ l₂
 | _,_,.nil,_=> .nil
 | _,_,.cons r t,f=> .cons (f _ _ r) (Paired.mapP t f)
theorem iu.stay (x:iu P w H h a o)(k:∀b u,(b=a∨H b=some (.own a))→h.get? b=some u→h'.get? b=some u)
  (ho:∀b,H b=some (.own a)→H' b=some (.own a)) (ht:∀b xs,H b=some (.tup xs)→H' b=some (.tup xs)):iu P w H' h' a o:=by
 induction o with
 | lst xs=>obtain⟨z,its,n,r,e⟩:=x;exact⟨z,its,n,r,k _ _ (.inl rfl) e⟩
 | tup xs=>obtain⟨z,its,r,ob,e,c⟩:=x;exact⟨z,its,r,ob,k _ _ (.inl rfl) e,c⟩
 | dK kvs=>obtain⟨z,y,vs,r,ob,es,ep,e,c⟩:=x;exact⟨z,y,vs,r,ob,es,ep,k _ _ (.inl rfl) e,c⟩
 | dT kvs =>
  obtain⟨z,y,xs,r,ob,es,ep,e,c⟩:=x;exact⟨z,y,xs,Paired.mapP r λp q z=>⟨z.1,ht _ _ z.2.1,z.2.2⟩,ob,es,ep,k _ _ (.inl rfl) e,c⟩
 | set S n=>obtain⟨ob,es,ep,t,e,c⟩:=x;exact⟨ob,es,ep,t,k _ _ (.inl rfl) e,c⟩
 | ins C dx fs =>
  obtain⟨d,z,ne,e,mA,⟨od,es,ep,e2,c⟩,r⟩:=x;exact⟨ho _ d,z,ne,k _ _ (.inl rfl) e,mA,⟨od,es,ep,k _ _ (.inr d) e2,c⟩,r⟩
 | own y=>obtain⟨ob,e⟩:=x;exact⟨ob,k _ _ (.inl rfl) e⟩
 | xd fs=>obtain⟨mA,⟨od,es,ep,e,c⟩,r⟩:=x;exact⟨mA,⟨od,es,ep,k _ _ (.inl rfl) e,c⟩,r⟩
 | rng lo hi=>obtain⟨t,u,v,e⟩:=x;exact⟨t,u,v,k _ _ (.inl rfl) e⟩
 | frz ob u ih=>obtain⟨e,q⟩:=x;exact⟨k _ _ (.inl rfl) e,ih q⟩
 | tbl ps =>
  have e:h.get? a=some { cls:= .none,data:= .fields ps }:=x;show h'.get? a=some { cls:= .none,data:= .fields ps };exact k a _ (.inl rfl) e
 | met f y =>
  have e:h.get? a=some (PySem.W.methodObj (.ref f) (.ref y)):=x;show h'.get? a=some (PySem.W.methodObj (.ref f) (.ref y));exact k a _ (.inl rfl) e
 | ext φ=>obtain⟨p,⟨o,e⟩,st⟩:=x;exact⟨st _ _ p λo q=>k _ _ (.inl rfl) q,⟨o,k _ _ (.inl rfl) e⟩,st⟩
theorem HOk.lt (x:HOk P w H h)(e:H a=some o):a<h.objs.size:=(x a o e).lt
theorem HOk.fresh (x:HOk P w H h)(e:h.objs.size≤a):H a=none:=by
 cases q:H a with
 | none=>rfl
 | some u=>exact qK (bV (x.lt q) e) (gq _)
theorem HOk.kept (x:HOk P w H h)(k:∀b u,h.get? b=some u→h'.get? b=some u):HOk P w H h':=λa o e =>
 (x a o e).stay (λb u _ q=>k b u q) (λ_ q=>q) λ_ _ q=>q
theorem HOk.laid (x:HOk P w H h)(k:∀b u,h.get? b=some u→h'.get? b=some u)(hp:h.objs.size≤a)(new:iu P w (upd H a o) h' a o):HOk P w (upd H a o) h':=λb u e=>by
 have hn:=x.fresh hp
 by_cases hb:b=a
 ·subst hb;rw[aR] at e;cases e;exact new
 ·rw[bo hb] at e
  exact(x b u e).stay (λc v _ q=>k c v q) (λc q=>by rw[bo (aV q hn)];exact q) λc xs q=>by rw[bo (aV q hn)];exact q
end
def Rd (H:Hp)(a:ao)(u:HO):Prop:=H a=some u∨∃o,H a=some (.frz o u)
theorem Rd.ok {H:Hp}{u:HO}(r:Rd H a u)(x:HOk P w H h):iu P w H h a u:=by
 rcases r with r | ⟨o,r⟩
 ·exact x a u r
 ·obtain⟨_,q⟩:=x a _ r
  exact q
def Mut:Option HO→Prop
 | some (.lst _)=>True
 | some (.dK _)=>True
 | some (.dT _)=>True
 | some (.set _ _)=>True
 | some (.ins _ _ _)=>True
 | some (.ext _)=>True
 | _=>False
section
variable {H:Hp}{x e:ao}{o':HO}
theorem HOk.write (ok:HOk P w H h)(mu:Mut (H x))(he:e=x∨H e=some (.own x))(k:∀b u,b≠e→h.get? b=some u→h'.get? b=some u)(heo:∃u,h'.get? e=some u)
  (new:iu P w (upd H x o') h' x o'):HOk P w (upd H x o') h':=λb u q=>by
 have nown:∀c y,H c=some (.own y)→c≠x:=λc y r z=>by subst z;rw[r] at mu;exact mu
 have ntup:∀c xs,H c=some (.tup xs)→c≠x:=λc xs r z=>by subst z;rw[r] at mu;exact mu
 by_cases hb:b=x
 ·subst hb;rw[aR] at q;cases q;exact new
 ·rw[bo hb] at q
  by_cases hbe:b=e
  ·have q':H b=some (.own x):=by
    rcases he with z | z
    ·exact qK (hbe.trans z) hb
    ·rw[hbe];exact z
   rw[q] at q';cases q';obtain⟨v,hv⟩:=heo;exact⟨v,by rw[hbe];exact hv⟩
  ·apply(ok b u q).stay (λc v hc r=>k c v ?_ r) (λc r=>by rw[bo (nown c b r)];exact r) λc xs r=>by rw[bo (ntup c xs r)];exact r
   rcases hc with rfl | hc
   ·exact hbe
   ·rintro rfl
    rcases he with z | z
    ·exact nown c b hc z
    ·rw[hc] at z;cases z;exact hb rfl
end
structure Un (fs ex:List ao)(H H':Hp)(h h':bM):Prop where
 keep:∀b o,h.get? b=some o→H b=none→b ∉ fs→b ∉ ex→h'.get? b=some o
 slot:∀b o,h.get? b=some o→H b=none→b∈fs→b ∉ ex→∃sl,h'.get? b=some { o with slots:=sl }
 free:∀b o,h.get? b=some o→H b=none→b ∉ ex→H' b=none
 there:∀b o,h.get? b=some o→b ∉ ex→∃o',h'.get? b=some o'
 tups:∀b xs,H b=some (.tup xs)→H' b=some (.tup xs)
 frzs:∀b o u,H b=some (.frz o u)→H' b=some (.frz o u)
 tbls:∀b ps,H b=some (.tbl ps)→∃more,H' b=some (.tbl (ps++more))
section
variable {fs fs' ex':List ao}{H H1 H2:Hp}{h1 h2:bM}{x e:ao}{o:HO}
theorem Un.any (u:Un fs ex H H1 h h1){b:ao}{ob:Obj}(q:h.get? b=some ob)(n:H b=none)(hx:b ∉ ex):∃sl,h1.get? b=some { ob with slots:=sl }:=by
 by_cases hb:b∈fs
 ·exact u.slot b ob q n hb hx
 ·exact⟨ob.slots,u.keep b ob q n hb hx⟩
theorem Un.kept (k:∀b u,h.get? b=some u→h'.get? b=some u):Un fs ex H H h h' :=
 ⟨λb ob q _ _ _=>k b ob q,λb ob q _ _ _=>⟨ob.slots,k b ob q⟩,λ_ _ _ n _=>n,λb ob q _=>⟨ob,k b ob q⟩,λ_ _ q=>q,λ_ _ _ q=>q,λ_ ps q=>⟨#[],by rw[q];simp⟩⟩
theorem Un.refl:Un fs ex H H h h:=Un.kept λ_ _ q=>q
theorem Un.laid (k:∀b u,h.get? b=some u→h'.get? b=some u)(hp:h.objs.size≤a)(hn:H a=none):Un fs ex H (upd H a o) h h' where
 keep:=λb u q _ _ _=>k b u q
 slot:=λb u q _ _ _=>⟨u.slots,k b u q⟩
 free:=λb u q n _=>by rw[bo (cJ (bV (aS q) hp))];exact n
 there:=λb u q _=>⟨u,k b u q⟩
 tups:=λb xs q=>by rw[bo (aV q hn)];exact q
 frzs:=λb u xs q=>by rw[bo (aV q hn)];exact q
 tbls:=λb ps q=>⟨#[],by rw[bo (aV q hn),q];simp⟩
theorem Un.write (mu:Mut (H x))(he:e=x∨H e=some (.own x))(k:∀b u,b≠e→h.get? b=some u→h'.get? b=some u)(heo:∃u,h'.get? e=some u):Un fs ex H (upd H x o) h h':=by
 have hx:∀b,H b=none→b≠x:=λb n z=>by subst z;rw[n] at mu;exact mu
 have hb:∀b,H b=none→b≠e:=λb n z=>by
  subst z
  rcases he with r | r
  ·exact hx b n r
  ·rw[n] at r;cases r
 have hm:∀b u,H b=some u→¬Mut (some u)→b≠x:=λb u q nm z=>by subst z;rw[q] at mu;exact nm mu
 apply ⟨fun b u q n _ _=>k b u (hb b n) q,fun b u q n _ _=>⟨u.slots,k b u (hb b n) q⟩,fun b u q n _=>by rw [bo (hx b n)];exact n,fun b u q _=>?_,
  fun b xs q=>by rw [bo (hm b _ q fun z=>z)];exact q,fun b u xs q=>by rw [bo (hm b _ q fun z=>z)];exact q,fun b ps q=>⟨#[],by rw [bo (hm b _ q fun z=>z),q];simp⟩⟩
 by_cases hbe:b=e
 ·subst hbe;exact heo
 ·exact⟨u,k b u hbe q⟩
end
def trk (h:bM)(H:Hp):List ao:=(cS h.objs.size).filter λa=>(H a).isSome
def hidT (h:bM)(H:Hp):bM:=gz h (trk h H)
theorem hidT_size (h:bM)(H:Hp):(hidT h H).objs.size=h.objs.size:=PySem.W.hideAll_size _ _
theorem hidT_get {H:Hp}{b:ao}{o:Obj}(e:h.get? b=some o)(n:H b=none):(hidT h H).get? b=some o :=
 PySem.W.hideAll_get _ e λhm=>by
  have q:(H b).isSome=true:=(List.mem_filter.mp hm).2;rw[n] at q;simp at q
theorem of_hidT {H:Hp}{b:ao}{o:Obj}(e:(hidT h H).get? b=some o):h.get? b=some o∧H b=none:=by
 have e':h.get? b=some o:=PySem.W.of_hideAll (trk h H) e;apply⟨e',?_⟩;cases q:H b with
 | none=>rfl
 | some x =>
  have hm:b∈trk h H:=List.mem_filter.mpr ⟨List.mem_range.mpr (aS e'),by simp[q]⟩;have z:(hidT h H).get? b=none:=PySem.W.hideAll_none (trk h H) hm;rw[z] at e;cases e
structure Mod (K:aj)(mg:Str→Option af)(base:bM):Prop where
 kin:K.In base
 glob:base.Ns aX mg
 blt:∃mb,base.Ns builtinsNs mb∧∀x:Str,x ≠ "__name__" →mb x=kB x
 nolimit:base.NoLimit
structure Cx where
 prog:aK
 w:bc
 K:aj
 mg:Str→Option af
 base:bM
 A:cq
 N:List Str
 s₀:ar
 H₀:Hp
 env:Env
 outer:List Env
 stack:List Env
 ex:List ao
 fn:Str→Bool
 calm:Bool
 pn:List (ao×Obj)
 xe:af→ar→Prop
def frs (l:List Env):List ao:=l.filterMap (·.frame)
abbrev Cx.fs (X:Cx):List ao:=frs X.outer
def Vis (sc:jV)(x:Str):Prop:=sc.names.lookup x=some .local∨sc.names.lookup x=some .cell∨sc.names.lookup x=some .free
def Loc (sc:jV)(x:Str):Prop:=sc.names.lookup x=some .local∨sc.names.lookup x=some .cell
def Look (env:Env)(h:bM)(m:Str→Option af)(x:Str)(u:af):Prop :=
 (env.kindOf x=some .local∧m x=some u)∨((env.kindOf x=some .cell∨env.kindOf x=some .free)∧∃c,env.cells.lookup x=some c∧h.IsCell c (some u))
structure Cx.Ok (X:Cx):Prop where
 mod:Mod X.K X.mg X.base
 kind:X.env.scope.kind= .function
 glob:X.env.globals=aX
 blt:X.env.builtins=builtinsNs
 above:X.s₀.heap.objs.size≤X.env.locals
 inj:∀x y c,X.env.cells.lookup x=some c→X.env.cells.lookup y=some c→x=y
 has:∀x,(X.env.kindOf x=some .cell∨X.env.kindOf x=some .free)→∃c,X.env.cells.lookup x=some c
 cab:∀x c,X.fn x=true→X.env.cells.lookup x=some c→X.s₀.heap.objs.size≤c
 hd:X.calm=true→X.A.handled=none
 frames:X.A.frames=some X.stack
 stk:X.stack=X.outer∨(X.stack=X.env::X.outer∧X.env.frame=some X.env.locals)
 exf:∀b∈X.ex,b≠X.env.locals∧∀x c,X.env.cells.lookup x=some c→c≠b
 bs:∀b o,X.base.get? b=some o→X.s₀.heap.get? b=some o∧X.H₀ b=none
 bsz:X.base.objs.size≤X.s₀.heap.objs.size
 noex:∀b o,X.base.get? b=some o→b ∉ X.ex
 exfs:∀b∈X.ex,b ∉ X.fs
 funs:X.s₀.heap.FunFrames X.base X.outer
 frf:∀b∈X.fs,X.H₀ b=none
structure Inv (X:Cx)(aI:List (ao×Obj))(σ:List (Option V))(H:Hp)(s:ar):Prop where
 ok:X.Ok
 os:s.os=X.s₀.os
 bare:AllBare s.gens
 base:Un X.fs X.ex X.H₀ H X.s₀.heap s.heap
 loc:∃m,s.heap.Ns X.env.locals m∧∀(i:Nat) (x:Str) (v:V),X.N[i]? =some x→σ[i]? =some (some v)→Vis X.env.scope x→∃u,iG v u∧Look X.env s.heap m x u
 cell:∀x c,X.env.cells.lookup x=some c→∃v,s.heap.IsCell c v
 free:H X.env.locals=none
 freeC:∀x c,X.env.cells.lookup x=some c→H c=none
 pin:∀p∈X.pn++aI,s.heap.get? p.1=some p.2∧H p.1=none∧p.1≠X.env.locals∧p.1 ∉ X.fs∧∀v,p.2.data≠ .cell v
 hok:HOk X.prog X.w H s.heap
 len:σ.length=X.N.length
section
variable {X:Cx}{σ:List (Option V)}{H H':Hp}
theorem Cx.Ok.nofr (ok:X.Ok){b:ao}{o:Obj}(e:X.base.get? b=some o):b ∉ X.fs:=λhb=>by
 have:=(ok.funs.mem hb).1;rw[e] at this;cases this
theorem Inv.bs (I:Inv X aI σ H s):∀b o,X.base.get? b=some o→s.heap.get? b=some o∧H b=none:=λb o e =>
 ⟨I.base.keep b o (I.ok.bs b o e).1 (I.ok.bs b o e).2 (I.ok.nofr e) (I.ok.noex b o e),I.base.free b o (I.ok.bs b o e).1 (I.ok.bs b o e).2 (I.ok.noex b o e)⟩
theorem Inv.bk (I:Inv X aI σ H s):∀b o,X.base.get? b=some o→s.heap.get? b=some o:=λb o e=>(I.bs b o e).1
theorem Inv.mod (I:Inv X aI σ H s):Mod X.K X.mg X.base:=I.ok.mod
theorem Inv.kIn (I:Inv X aI σ H s):X.K.In s.heap:=I.ok.mod.kin.keeps I.bk
theorem Inv.lt (I:Inv X aI σ H s):X.env.locals<s.heap.objs.size:=let ⟨_,hn,_⟩:=I.loc;hn.lt
theorem Inv.sz (I:Inv X aI σ H s):X.s₀.heap.objs.size≤s.heap.objs.size:=cu I.ok.above (Nat.le_of_lt I.lt)
theorem Inv.nofs (I:Inv X aI σ H s)(h:s.heap.objs.size≤a):a ∉ X.fs:=λhb=>by
 obtain⟨_,o,ho,_⟩:=I.ok.funs.mem hb;exact qK (bV (aS ho) (cu I.sz h)) (gq _)
theorem Inv.cne (I:Inv X aI σ H s):∀x c,X.env.cells.lookup x=some c→c≠X.env.locals:=λx c e z=>by
 obtain⟨v,o,ho,hd⟩:=I.cell x c e;obtain⟨m,⟨o',es,ep,ho',hd',_⟩,_⟩:=I.loc;rw[z,ho'] at ho;cases ho;rw[hd'] at hd;cases hd
theorem Inv.funs (I:Inv X aI σ H s):s.heap.FunFrames X.base X.outer:=by
 have all:∀(l:List Env),(∀b∈frs l,b∈X.fs)→X.s₀.heap.FunFrames X.base l→s.heap.FunFrames X.base l:=by
  intro l
  induction l with
  | nil=>intro _ _;trivial
  | cons env r ih =>
   intro hs hl;obtain⟨hk,⟨L,o,hf,hn,ho,hd⟩,hr⟩:=hl;have hL:L∈X.fs:=hs L (by unfold frs;rw[gI,hf];exact aW);obtain⟨sl,e⟩:=I.base.slot L o ho (I.ok.frf L hL) hL λz=>I.ok.exfs L z hL
   exact⟨hk,⟨L,_,hf,hn,e,hd⟩,ih (λb hb=>hs b (by unfold frs;rw[gI,hf];exact aH _ hb)) hr⟩
 exact all X.outer (λ_ hb=>hb) I.ok.funs
theorem Inv.stack (I:Inv X aI σ H s):s.heap.FunFrames X.base X.stack:=by
 rcases I.ok.stk with e | ⟨e,hf⟩
 ·rw[e];exact I.funs
 ·rw[e]
  obtain⟨m,hn,_⟩:=I.loc;apply .cons (by rw[I.ok.kind];decide) hf hn ?_ I.funs;exact bM.get?_none_of_le (cu I.ok.bsz I.ok.above)
theorem Inv.stkSub (I:Inv X aI σ H s):∀b∈frs X.stack,b∈X.env.locals::X.fs:=λb hb=>by
 rcases I.ok.stk with e | ⟨e,hf⟩
 ·rw[e] at hb;exact aH _ hb
 ·rw[e] at hb
  unfold frs at hb;rw[gI,hf] at hb;exact hb
theorem Inv.stkFree (I:Inv X aI σ H s):∀b∈frs X.stack,H b=none:=λb hb=>by
 rcases aw.mp (I.stkSub b hb) with e | hb
 ·rw[e];exact I.free
 ·obtain⟨_,o,ho,_⟩:=I.ok.funs.mem hb
  exact I.base.free b o ho (I.ok.frf b hb) λz=>I.ok.exfs b z hb
theorem Inv.step (I:Inv X aI σ H s)
  (hch:∀b∈ch,(b∈X.ex∨X.s₀.heap.objs.size≤b)∧b≠X.env.locals∧(∀x c,X.env.cells.lookup x=some c→c≠b)∧∀p∈X.pn++aI,p.1≠b)
  (keep:∀b o,b≠X.env.locals→b ∉ X.fs→b ∉ ch→s.heap.get? b=some o→H b=none→h'.get? b=some o)
  (slot:∀b o,b≠X.env.locals→b∈X.fs→b ∉ ch→s.heap.get? b=some o→H b=none→∃sl,h'.get? b=some { o with slots:=sl }) (free:∀b o,b ∉ ch→s.heap.get? b=some o→H b=none→H' b=none)
  (there:∀b o,b ∉ ch→s.heap.get? b=some o→∃o',h'.get? b=some o')
  (tups:∀b xs,H b=some (.tup xs)→H' b=some (.tup xs)) (frzs:∀b o u,H b=some (.frz o u)→H' b=some (.frz o u)) (tbls:∀b ps,H b=some (.tbl ps)→∃more,H' b=some (.tbl (ps++more)))
  (ns:∀m,s.heap.Ns X.env.locals m→h'.Ns X.env.locals m) (hok:HOk X.prog X.w H' h') (hg:AllBare g') :
  Inv X aI σ H' { s with heap:=h',gens:=g',drawn:=d',toks:=t' }:=by
 have neL:∀b o,X.s₀.heap.get? b=some o→b≠X.env.locals:=λb o e=>cJ (bV (aS e) I.ok.above)
 have neC:∀b o,X.s₀.heap.get? b=some o→b ∉ X.ex→b ∉ ch:=λb o e hx hb=>by
  rcases(hch b hb).1 with z | z
  ·exact hx z
  ·exact qK (bV (aS e) z) (gq _)
 have cellK:∀x c,X.env.cells.lookup x=some c→∀v,s.heap.IsCell c v→h'.IsCell c v:=λx c e v ⟨o,ho,hd⟩=>by
  have nch:c ∉ ch:=λz=>(hch c z).2.2.1 x c e rfl
  by_cases hc:c∈X.fs
  ·obtain⟨sl,q⟩:=slot c o (I.cne x c e) hc nch ho (I.freeC x c e)
   exact⟨_,q,hd⟩
  ·exact⟨o,keep c o (I.cne x c e) hc nch ho (I.freeC x c e),hd⟩
 apply⟨I.ok,I.os,hg,⟨λb o e n hb hx=>?_,λb o e n hb hx=>?_,λb o e n hx=>?_,λb o e hx=>?_,λb xs e=>tups b xs (I.base.tups b xs e),λb o xs e=>frzs b o xs (I.base.frzs b o xs e),λb ps e=>?_⟩,?_,λx c e=>?_,?_,λx c e=>?_,λp hp=>?_,hok,I.len⟩
 ·exact keep b o (neL b o e) hb (neC b o e hx) (I.base.keep b o e n hb hx) (I.base.free b o e n hx)
 ·obtain⟨sl,e1⟩:=I.base.slot b o e n hb hx
  obtain⟨sl',e2⟩:=slot b _ (neL b o e) hb (neC b o e hx) e1 (I.base.free b o e n hx);exact⟨sl',e2⟩
 ·obtain⟨o',e1⟩:=I.base.there b o e hx
  exact free b o' (neC b o e hx) e1 (I.base.free b o e n hx)
 ·obtain⟨o',e1⟩:=I.base.there b o e hx
  exact there b o' (neC b o e hx) e1
 ·obtain⟨m1,e1⟩:=I.base.tbls b ps e
  obtain⟨m2,e2⟩:=tbls b _ e1;exact⟨m1++m2,by rw[e2,Array.append_assoc]⟩
 ·obtain⟨m,hn,hl⟩:=I.loc
  apply⟨m,ns m hn,λi x v e1 e2 e3=>?_⟩;obtain⟨u,r,l⟩:=hl i x v e1 e2 e3;apply⟨u,r,?_⟩
  rcases l with l | ⟨k,c,e,z⟩
  ·exact .inl l
  ·exact .inr ⟨k,c,e,cellK x c e _ z⟩
 ·obtain⟨v,z⟩:=I.cell x c e
  exact⟨v,cellK x c e v z⟩
 ·obtain⟨m,⟨o,_,_,ho,_⟩,_⟩:=I.loc
  exact free _ o (λz=>(hch _ z).2.1 rfl) ho I.free
 ·obtain⟨v,o,ho,hd⟩:=I.cell x c e
  exact free c o (λz=>(hch c z).2.2.1 x c e rfl) ho (I.freeC x c e)
 ·obtain⟨e,n,ne,nf,d⟩:=I.pin p hp
  have nch:p.1 ∉ ch:=λz=>(hch p.1 z).2.2.2 p hp rfl
  exact⟨keep p.1 p.2 ne nf nch e n,free p.1 p.2 nch e n,ne,nf,d⟩
theorem Inv.un (I:Inv X aI σ H s)(u:Un X.fs [] H H' s.heap h')(hok:HOk X.prog X.w H' h'):Inv X aI σ H' { s with heap:=h',toks:=t' }:=by
 obtain ⟨m,⟨o,es,ep,ho,r⟩,_⟩:=id I.loc;obtain ⟨sl,hL⟩:=u.any ho I.free ∅;exact I.step (g':=s.gens) (d':=s.drawn) (ch:=[]) (fun _ z=>nomatch z) (fun b o _ hb _ e n=>u.keep b o e n hb ∅) (fun b o _ hb _ e n=>u.slot b o e n hb ∅) (fun b o _ e n=>u.free b o e n ∅) (fun b o _ e=>u.there b o e ∅) u.tups u.frzs u.tbls (fun m' hm=>by
  obtain ⟨o',es',ep',ho',r'⟩:=hm;rw [ho] at ho';cases ho';exact ⟨_,es',ep',hL,r'⟩) hok I.bare
theorem Inv.call (I:Inv X aI σ H s)(u:Un (frs X.stack) ch H H' s.heap h')(hok:HOk X.prog X.w H' h')(hg:AllBare g')
  (hch:∀b∈ch,(b∈X.ex∨X.s₀.heap.objs.size≤b)∧b≠X.env.locals∧(∀x c,X.env.cells.lookup x=some c→c≠b)∧∀p∈X.pn++aI,p.1≠b) :
  Inv X aI σ H' { s with heap:=h',gens:=g',drawn:=d',toks:=t' }:=by
 obtain⟨m,⟨o,es,ep,ho,r⟩,_⟩:=id I.loc;obtain⟨sl,hL⟩:=u.any ho I.free λz=>(hch _ z).2.1 rfl
 exact I.step (ch:=ch) hch (fun b o hL hb hc e n=>u.keep b o e n (fun z=>(aw.mp (I.stkSub b z)).elim hL hb) hc) (fun b o _ _ hc e n=>u.any e n hc) (fun b o hc e n=>u.free b o e n hc) (fun b o hc e=>u.there b o e hc) u.tups u.frzs u.tbls (fun m' hm=>by
  obtain ⟨o',es',ep',ho',r'⟩:=hm;rw [ho] at ho';cases ho';exact ⟨_,es',ep',hL,r'⟩) hok hg
theorem Inv.turned (I:Inv X aI σ H s)(k:∀b o,b≠it→s.heap.get? b=some o→h'.get? b=some o)(hn:H it=none)(hL:it≠X.env.locals)
  (h1:it∈X.ex∨X.s₀.heap.objs.size≤it) (h2:∀x c,X.env.cells.lookup x=some c→c≠it) (h3:∀p∈X.pn++aI,p.1≠it):Inv X aI σ H { s with heap:=h',toks:=t' }:=by
 have nit:∀b u,H b=some u→b≠it:=λb u e z=>by rw[z,hn] at e;cases e
 apply I.step (g':=s.gens) (d':=s.drawn) (ch:=[it]) (λb hb=>?_) (λb o _ _ hc e _=>k b o (λz=>hc (by simp[z])) e) (λb o _ _ hc e _=>⟨o.slots,k b o (λz=>hc (by simp[z])) e⟩) (λ_ _ _ _ n=>n)
  (λb o hc e=>⟨o,k b o (λz=>hc (by simp[z])) e⟩) (λ_ _ e=>e) (λ_ _ _ e=>e) (λb ps e=>⟨#[],by rw[e];simp⟩) (λm hm=>?_) (λb u e=>?_) I.bare
 ·have e:b=it:=by simpa using hb
  subst e;exact⟨h1,hL,h2,h3⟩
 ·obtain⟨o,es,ep,ho,r⟩:=hm
  exact⟨o,es,ep,k _ o (cY hL) ho,r⟩
 ·apply(I.hok b u e).stay (λc v hc q=>k c v ?_ q) (λ_ q=>q) λ_ _ q=>q
  rcases hc with z | z
  ·rw[z];exact nit b u e
  ·exact nit c _ z
theorem Inv.tok (I:Inv X aI σ H s)(t:Nat):Inv X aI σ H { s with toks:=t }:=I.un (h':=s.heap) (t':=t) Un.refl I.hok
theorem Inv.kept (I:Inv X aI σ H s)(k:∀b u,s.heap.get? b=some u→h'.get? b=some u):Inv X aI σ H { s with heap:=h',toks:=t' }:=I.un (Un.kept k) (I.hok.kept k)
theorem Inv.laid {o:HO}(I:Inv X aI σ H s)(k:∀b u,s.heap.get? b=some u→h'.get? b=some u)(hp:s.heap.objs.size≤a)(new:iu X.prog X.w (upd H a o) h' a o) :
  Inv X aI σ (upd H a o) { s with heap:=h',toks:=t' }:=I.un (Un.laid k hp (I.hok.fresh hp)) (I.hok.laid k hp new)
theorem Inv.write {x e:ao}{o:HO}(I:Inv X aI σ H s)(mu:Mut (H x))(he:e=x∨H e=some (.own x))(k:∀b u,b≠e→s.heap.get? b=some u→h'.get? b=some u)(heo:∃u,h'.get? e=some u)
  (new:iu X.prog X.w (upd H x o) h' x o):Inv X aI σ (upd H x o) { s with heap:=h',toks:=t' }:=I.un (Un.write mu he k heo) (I.hok.write mu he k heo new)
theorem Inv.pins_of (I:Inv X aI σ H s)(h:∀p∈pins',s.heap.get? p.1=some p.2∧H p.1=none∧p.1≠X.env.locals∧p.1 ∉ X.fs∧∀v,p.2.data≠ .cell v):Inv X pins' σ H s :=
 ⟨I.ok,I.os,I.bare,I.base,I.loc,I.cell,I.free,I.freeC,λp hp=>(aL.mp hp).elim (λz=>I.pin p (cE _ z)) (h p),I.hok,I.len⟩
theorem nodup_ix (hN:N.Nodup)(a:N[i]? =some x)(b:N[j]? =some x):i=j:=by
 obtain⟨h1,e1⟩:=ai.mp a;obtain⟨h2,e2⟩:=ai.mp b;exact(List.getElem_inj hN).mp (e1.trans e2.symm)
theorem store_ok2 {v:V}{Q:Unit→ar→Prop}(I:Inv X aI σ H s)(hN:X.N.Nodup)(hi:X.N[i]? =some x)(hx:Loc X.env.scope x)(r:iG v u)
  (h:∀s',Inv X aI (σ.set i (some v)) H s'→(∃a,cT a s.heap s'.heap∧(a=X.env.locals∨X.env.cells.lookup x=some a))→Q () s') (hf:autoParam (X.fn x=true∨X.env.scope.names.lookup x=some .local) L2.au3._auto_1):aT M A (storeName X.env x u) Q E s:=by
 obtain⟨m,hn,hl⟩:=id I.loc;have hcls:(X.env.scope.kind == .class || (X.env.scope.kind == .module && X.env.locals != X.env.globals))=false:=by rw[I.ok.kind];rfl
 have hiσ:i<σ.length:=by rw[I.len];exact(ai.mp hi).1
 have cne:=I.cne;have tracked:∀{a:ao} {h':bM},(∃o,s.heap.get? a=some o∧H a=none)→cT a s.heap h'→HOk X.prog X.w H h':=λ{a h'} ha hs b ob e=>by
  obtain⟨_,_,hfree⟩:=ha;apply(I.hok b ob e).stay (λc w' hc q=>(hs.2 c ?_).trans q) (λ_ q=>q) λ_ _ q=>q
  rintro rfl
  rcases hc with rfl | hc
  ·rw[hfree] at e;cases e
  ·rw[hfree] at hc;cases hc
 rcases hx with hk | hk
 ·apply wpAny_storeName_local hk hn (λh' hn' hs=>?_) hcls
  obtain⟨oL,_,_,hoL,_⟩:=id hn;apply h _ ⟨I.ok,I.os,I.bare,⟨λb o e n hb hx=>?_,λb o e n hb hx=>?_,I.base.free,λb o e hx=>?_,I.base.tups,I.base.frzs,I.base.tbls⟩,⟨_,hn',λj y v' e1 e2 e3=>?_⟩,λy c e=>?_,I.free,I.freeC,λp hp=>?_,tracked ⟨oL,hoL,I.free⟩ hs,by simpa using I.len⟩ ⟨_,hs,.inl rfl⟩
  ·exact(hs.2 b (cJ (bV (aS e) I.ok.above))).trans (I.base.keep b o e n hb hx)
  ·obtain⟨sl,e1⟩:=I.base.slot b o e n hb hx
   exact⟨sl,(hs.2 b (cJ (bV (aS e) I.ok.above))).trans e1⟩
  ·obtain⟨o',e1⟩:=I.base.there b o e hx
   exact⟨o',(hs.2 b (cJ (bV (aS e) I.ok.above))).trans e1⟩
  ·by_cases hj:j=i
   ·subst hj
    rw[hi] at e1;cases e1;rw[jZ hiσ] at e2;cases e2;exact⟨u,r,.inl ⟨hk,∅⟩⟩
   ·rw[List.getElem?_set_ne (cY hj)] at e2
    obtain⟨u',r',q⟩:=hl j y v' e1 e2 e3;apply⟨u',r',?_⟩
    rcases q with ⟨k,e⟩ | ⟨k,c,e,z⟩
    ·apply .inl ⟨k,?_⟩
     have:y≠x:=λe=>hj (nodup_ix hN e1 (e ▸ hi))
     simp[this,e]
    ·exact .inr ⟨k,c,e,z.sameBut hs (cne y c e)⟩
  ·obtain⟨w',z⟩:=I.cell y c e
   exact⟨w',z.sameBut hs (cne y c e)⟩
  ·obtain⟨e,n,ne,nf,d⟩:=I.pin p hp
   exact⟨(hs.2 p.1 ne).trans e,n,ne,nf,d⟩
 ·have hfn:X.fn x=true:=by
   rcases hf with z | z
   ·exact z
   ·rw[z] at hk;cases hk
  obtain⟨c,hc⟩:=I.ok.has x (.inl hk);obtain⟨w',z⟩:=I.cell x c hc;apply wpAny_storeName_cell I.ok.kind hk hc z (λh' hc' hs=>?_);obtain⟨oc,hoc,hocd⟩:=id z;apply h { s with heap:=h' } ⟨I.ok,I.os,I.bare,⟨λb o e n hb hx=>?_,λb o e n hb hx=>?_,I.base.free,λb o e hx=>?_,I.base.tups,I.base.frzs,I.base.tbls⟩,⟨m,hn.sameBut hs (cY (cne x c hc)),λj y v' e1 e2 e3=>?_⟩,λy c' e=>?_,I.free,I.freeC,λp hp=>?_,tracked ⟨oc,hoc,I.freeC x c hc⟩ hs,by simpa using I.len⟩ ⟨c,hs,.inr hc⟩
  ·exact(hs.2 b (cJ (bV (aS e) (I.ok.cab x c hfn hc)))).trans (I.base.keep b o e n hb hx)
  ·obtain⟨sl,e1⟩:=I.base.slot b o e n hb hx
   exact⟨sl,(hs.2 b (cJ (bV (aS e) (I.ok.cab x c hfn hc)))).trans e1⟩
  ·obtain⟨o',e1⟩:=I.base.there b o e hx
   exact⟨o',(hs.2 b (cJ (bV (aS e) (I.ok.cab x c hfn hc)))).trans e1⟩
  ·by_cases hj:j=i
   ·subst hj
    rw[hi] at e1;cases e1;rw[jZ hiσ] at e2;cases e2;exact⟨u,r,.inr ⟨.inl hk,c,hc,hc'⟩⟩
   ·rw[List.getElem?_set_ne (cY hj)] at e2
    obtain⟨u',r',q⟩:=hl j y v' e1 e2 e3;apply⟨u',r',?_⟩
    rcases q with q | ⟨k,c',e,z'⟩
    ·exact .inl q
    ·apply .inr ⟨k,c',e,z'.sameBut hs ?_⟩
     rintro rfl;exact hj (nodup_ix hN e1 (I.ok.inj _ _ _ e hc ▸ hi))
  ·by_cases hcc:c'=c
   ·subst hcc;exact⟨_,hc'⟩
   ·obtain⟨w2,z2⟩:=I.cell y c' e
    exact⟨w2,z2.sameBut hs hcc⟩
  ·obtain⟨e,n,ne,nf,d⟩:=I.pin p hp
   apply⟨(hs.2 p.1 ?_).trans e,n,ne,nf,d⟩;intro q;rw[q,hoc] at e;have q':oc=p.2:=bF e;exact d w' (by rw[←q'];exact hocd)
theorem store_ok {v:V}{Q:Unit→ar→Prop}(I:Inv X aI σ H s)(hN:X.N.Nodup)(hi:X.N[i]? =some x)(hx:Loc X.env.scope x)(r:iG v u)
  (h:∀s',Inv X aI (σ.set i (some v)) H s'→Q () s') (hf:autoParam (X.fn x=true∨X.env.scope.names.lookup x=some .local) L2.au3._auto_1):aT M A (storeName X.env x u) Q E s :=
 store_ok2 I hN hi hx r (λs' I' _=>h s' I') hf
theorem Inv.call' (I:Inv X aI σ H s)(ho:s'.os=s.os)(u:Un (frs X.stack) ch H H' s.heap s'.heap)(hok:HOk X.prog X.w H' s'.heap)(hg:AllBare s'.gens)
  (hch:∀b∈ch,(b∈X.ex∨X.s₀.heap.objs.size≤b)∧b≠X.env.locals∧(∀x c,X.env.cells.lookup x=some c→c≠b)∧∀p∈X.pn++aI,p.1≠b):Inv X aI σ H' s':=by
 obtain⟨h',g',d',t',o'⟩:=s';have e:o'=s.os:=ho;subst e;exact I.call (g':=g') (t':=t') (d':=d') u hok hg hch
end
abbrev XK:=af→Option ao→Hp→Prop
abbrev St:=List (Option V)
abbrev VK:=V→Hp→Prop
abbrev TE:=St→Hp→VK→Prop
abbrev TT:=St→Hp→(Bool→Hp→Prop)→Prop
abbrev TA:=St→Hp→(List V→Hp→Prop)→Prop
end L2
variable {H H' H1 H2:L2.Hp}{PASS:List (PySem.Str×ao)→ao→ar→L2.Hp→List ao→Prop}{X:L2.Cx}{dvs xs:List L2.V}{kvs:List (L2.Key×L2.V)}{o:L2.HO}{r':L2.V→Option Int→Option Int→L2.Hp→L2.VK→Prop}{t:L2.TA}{ta te to:L2.TE}{tt:L2.TT}{v y:L2.V}{σ:L2.St}
namespace L2
open PySem PySem.Spec PyProof.Rows
structure Ends where
 nx:St→Hp→Prop
 rt:VK
 bk:St→Hp→Prop:=λ_ _=>False
 ct:St→Hp→Prop:=λ_ _=>False
abbrev TS:=Ends→St→Hp→Prop
def EP (X:Cx)(aI:List (ao×Obj))(σ:St)(Q:VK)(u:af)(s':ar):Prop:=∃v H',Inv X aI σ H' s'∧iG v u∧Q v H'
def TP (X:Cx)(aI:List (ao×Obj))(σ:St)(Q:Bool→Hp→Prop)(b:Bool)(s':ar):Prop:=∃H',Inv X aI σ H' s'∧Q b H'
def AP (X:Cx)(aI:List (ao×Obj))(σ:St)(Q:List V→Hp→Prop)(us:List af)(s':ar):Prop:=∃vs H',Inv X aI σ H' s'∧gU vs us∧Q vs H'
def SP (X:Cx)(aI:List (ao×Obj))(D:Ends)(f:Flow)(s':ar):Prop :=
 match f with
 | .next=>∃σ' H',Inv X aI σ' H' s'∧D.nx σ' H'
 | .brk=>∃σ' H',Inv X aI σ' H' s'∧D.bk σ' H'
 | .cont=>∃σ' H',Inv X aI σ' H' s'∧D.ct σ' H'
 | .ret u=>∃v σ' H',Inv X aI σ' H' s'∧iG v u∧D.rt v H'
def PE (X:Cx)(e:Expr)(t:TE):Prop :=
 ∀(aI:List (ao×Obj)) (s:ar) (σ:St) (H:Hp) (Q:VK),Inv X aI σ H s→t σ H Q→aT (bB X.prog X.w) X.A (dU e X.env) (EP X aI σ Q) X.xe s
def PT (X:Cx)(e:Expr)(t:TT):Prop :=
 ∀(aI:List (ao×Obj)) (s:ar) (σ:St) (H:Hp) (Q:Bool→Hp→Prop),Inv X aI σ H s→t σ H Q→aT (bB X.prog X.w) X.A (isTrue e X.env (dU e X.env)) (TP X aI σ Q) X.xe s
def PW (X:Cx)(e:Expr)(t:TT):Prop :=
 ∀(whole:Sem af) (aI:List (ao×Obj)) (s:ar) (σ:St) (H:Hp) (Q:Bool→Hp→Prop),Inv X aI σ H s→t σ H Q→aT (bB X.prog X.w) X.A (isTrue e X.env whole) (TP X aI σ Q) X.xe s
theorem PW.pt {t:TT}(h:PW X e t):PT X e t:=h _
def PA (X:Cx)(es:List Expr)(t:TA):Prop :=
 ∀(pos:Pos) (aI:List (ao×Obj)) (s:ar) (σ:St) (H:Hp) (Q:List V→Hp→Prop),Inv X aI σ H s→t σ H Q→aT (bB X.prog X.w) X.A (spliced (gG pos (br es X.env))) (AP X aI σ Q) X.xe s
def PS (X:Cx)(st:cW)(t:TS):Prop :=
 ∀(aI:List (ao×Obj)) (s:ar) (σ:St) (H:Hp) (D:Ends),Inv X aI σ H s→t D σ H→aT (bB X.prog X.w) X.A (exec st X.env) (SP X aI D) X.xe s
def PSs (X:Cx)(st:List cW)(t:TS):Prop :=
 ∀(aI:List (ao×Obj)) (s:ar) (σ:St) (H:Hp) (D:Ends),Inv X aI σ H s→t D σ H→aT (bB X.prog X.w) X.A (execs st X.env) (SP X aI D) X.xe s
theorem thn {t:Sem α}{Q Q':α→ar→Prop}(h:aT M A t Q E s)(hQ:∀a s,Q a s→Q' a s):aT M A t Q' E s:=dO h hQ λ_ _ x=>x
section
inductive HasV (o:Option (Option V))(k:V→Prop):Prop
 | mk (v:V)(h:o=some (some v))(q:k v):HasV o k
inductive IsBl (x:V)(k:Bool→Prop):Prop
 | mk (c:Bool)(h:x= .bl c)(q:k c):IsBl x k
def tVar (i:Nat):TE:=λσ H Q=>HasV σ[i]? λv=>Q v H
def tC (v:V):TE:=λ_ H Q=>Q v H
theorem pe_var (hN:X.N[i]? =some x)(hv:Vis X.env.scope x)(hd:autoParam ((x == ("__debug__" :Str))=false) L2.au1._auto_1)(hcd:autoParam ((x == ("__classdict__" :Str))=false) L2.au1._auto_1):PE X (.Name x pos) (tVar i):=by
 intro aI s σ H Q I h;obtain⟨v,e,h⟩:=h;obtain⟨m,hn,hl⟩:=I.loc;obtain⟨u,r,l⟩:=hl i x v hN e hv;have fin:EP X aI σ Q u s:=⟨v,H,I,r,h⟩
 rcases l with ⟨hk,hm⟩ | ⟨hk,c,hc,kQ⟩
 ·exact wpAny_Name (wpAny_loadName_local I.ok.kind hk hn hm fin) hd
 ·rcases hk with hk | hk
  ·exact wpAny_Name (wpAny_loadName_cell I.ok.kind hk hc kQ fin) hd
  ·exact wpAny_Name (wpAny_loadName_free I.ok.kind hk hc kQ fin hcd) hd
theorem aP {i j pos}:PE X (.Constant (.int i) j pos) (tC (.int i)):=λ_ _ _ H _ I h=>wpAny_Constant_int ⟨.int i,H,I.tok _,⟨_,rfl⟩,h⟩
theorem pE {b j pos}:PE X (.Constant (.bool b) j pos) (tC (.bl b)):=λ_ _ _ H _ I h=>Constant_bool ⟨.bl b,H,I,rfl,h⟩
theorem jf {j pos}:PE X (.Constant .none j pos) (tC .non):=λ_ _ _ H _ I h=>Constant_none ⟨.non,H,I,rfl,h⟩
theorem dC {x j pos}:PE X (.Constant (.str x) j pos) (tC (.str x)):=λ_ _ _ H _ I h=>Calls.Constant_str ⟨.str x,H,I.tok _,⟨_,rfl⟩,h⟩
def Gl (X:Cx)(x:Str):Prop:=X.env.kindOf x=some .globalImplicit
theorem mV (I:Inv X aI σ H s)(hg:Gl X x)(hm:X.mg x=some u)(h:Q u s)
  (hd:autoParam ((x == ("__debug__" :Str))=false) L2.au1._auto_1):aT (bB X.prog X.w) X.A (dU (.Name x pos) X.env) Q E s :=
 Calls.Name_function_global I.ok.kind hg (Calls.loadGlobal_global (by rw[I.ok.glob];exact I.mod.glob.keeps I.bk) hm h) hd
theorem nJ (I:Inv X aI σ H s)(hg:Gl X x)(hm:X.mg x=none)(hv:kB x=some u)(h:Q u s)
  (hn:autoParam (x ≠ "__name__") L2.au1._auto_1) (hd:autoParam ((x == ("__debug__" :Str))=false) L2.au1._auto_1):aT (bB X.prog X.w) X.A (dU (.Name x pos) X.env) Q E s:=by
 obtain⟨mb,h1,h2⟩:=I.mod.blt;exact Calls.Name_function_global I.ok.kind hg (Calls.loadGlobal_builtin (by rw[I.ok.glob];exact I.mod.glob.keeps I.bk) hm (by rw[I.ok.blt];exact h1.keeps I.bk) ((h2 x hn).trans hv) h) hd
theorem kj (hg:Gl X x)(hm:X.mg x=some u)(r:iG v u)(hd:autoParam ((x == ("__debug__" :Str))=false) L2.au1._auto_1):PE X (.Name x pos) (tC v) :=
 λ_ _ _ H _ I h=>mV I hg hm ⟨v,H,I,r,h⟩ hd
theorem pB (hg:Gl X x)(hm:X.mg x=none)(hv:kB x=some u)(r:iG v u)(hn:autoParam (x ≠ "__name__") L2.au1._auto_1)(hd:autoParam ((x == ("__debug__" :Str))=false) L2.au1._auto_1):PE X (.Name x pos) (tC v) :=
 λ_ _ _ H _ I h=>nJ I hg hm hv ⟨v,H,I,r,h⟩ hn hd
variable {a b:Expr}{tb:TE}
def PC (X:Cx)(op:CmpOp)(a b:Expr)(t:TE):Prop :=
 ∀(aI:List (ao×Obj)) (s:ar) (σ:St) (H:Hp) (Q:VK),Inv X aI σ H s→t σ H Q →
  aT (bB X.prog X.w) X.A (dU a X.env) (λv s₁=>aT (bB X.prog X.w) X.A (dU b X.env) (λu s₂=>aT (bB X.prog X.w) X.A (eR op v u) (EP X aI σ Q) X.xe s₂) X.xe s₁) X.xe s
def tB (t:TE):TT:=λσ H Q=>t σ H λx H1=>IsBl x λc=>Q c H1
theorem pt_cmp {t:TE}(h:PC X op a b t)(h1:behindInMarks op b=false:=by first | exact nobehind _ ↥0 ↥0 | rfl):PT X (.Compare a [op] [b] pos) (tB t):=by
 intro aI s σ H Q I hw;apply wpAny_isTrue_Compare1 (thn (h aI s σ H _ I hw) λv s1 h1=>thn h1 λu s2 h2=>thn h2 λc s3 hz0=>?_) h1;obtain⟨x,H1,I1,r1,q1⟩:=hz0;obtain⟨d,rfl,q⟩:=q1;cases r1;exact gM ⟨H1,I1,q⟩
theorem kH {t:TE}(h:PE X e t)(he:autoParam (∀whole,isTrue e X.env whole=(do let v ← whole;standAt e.pos;holding [v] (truthy v))) L2.au2._auto_1):PT X e (tB t):=by
 intro aI s σ H Q I hw;apply isTrue_plain (thn (h aI s σ H _ I hw) λv s1 hz0=>?_) (he _);obtain⟨x,H1,I1,r1,q1⟩:=hz0;obtain⟨d,rfl,q⟩:=q1;cases r1;exact gM ⟨H1,I1,q⟩
variable {tA tB':TT} {rest:List Expr}
def tAnd (t u:TT):TT:=λσ H Q=>t σ H λc H1=>if c=true then u σ H1 Q else Q false H1
def tOr (t u:TT):TT:=λσ H Q=>t σ H λc H1=>if c=true then Q true H1 else u σ H1 Q
def tNot (t:TT):TT:=λσ H Q=>t σ H λc H1=>Q (!c) H1
theorem lQ (ha:PT X a tA):PW X (.BoolOp .And [a] pos) tA:=by
 intro wh aI s σ H Q I h;apply isTrue_and (thn (ha aI s σ H Q I h) λc s1 e=>?_);cases c with
 | true=>exact isTrue_and_nil e
 | false=>exact e
theorem kX (ha:PT X a tA):PW X (.BoolOp .Or [a] pos) tA:=by
 intro wh aI s σ H Q I h;apply isTrue_or (thn (ha aI s σ H Q I h) λc s1 e=>?_);cases c with
 | false=>exact isTrue_or_nil e
 | true=>exact e
theorem nj (ha:PT X a tA)(hb:PW X (.BoolOp .And (b::rest) pos) tB'):PW X (.BoolOp .And (a::b::rest) pos) (tAnd tA tB'):=by
 intro wh aI s σ H Q I h;apply isTrue_and (thn (ha aI s σ H _ I h) λc s1 hz0=>?_);obtain⟨H1,I1,q1⟩:=hz0;cases c with
 | true=>exact hb wh aI s1 σ H1 Q I1 q1
 | false=>exact⟨H1,I1,q1⟩
theorem mx (ha:PT X a tA)(hb:PW X (.BoolOp .Or (b::rest) pos) tB'):PW X (.BoolOp .Or (a::b::rest) pos) (tOr tA tB'):=by
 intro wh aI s σ H Q I h;apply isTrue_or (thn (ha aI s σ H _ I h) λc s1 hz0=>?_);obtain⟨H1,I1,q1⟩:=hz0;cases c with
 | true=>exact⟨H1,I1,q1⟩
 | false=>exact hb wh aI s1 σ H1 Q I1 q1
theorem me (ha:PT X a tA):PT X (.UnaryOp .Not a pos) (tNot tA):=by
 intro aI s σ H Q I h;exact isTrue_not (ha aI s σ H (λc H1=>Q (!c) H1) I h)
def tAndV (ta tb:TE):TE:=λσ H Q=>ta σ H λx H1=>IsBl x λc=>if c=true then tb σ H1 Q else Q (.bl false) H1
def tNotV (ta:TE):TE:=λσ H Q=>ta σ H λx H1=>IsBl x λc=>Q (.bl (!c)) H1
theorem qw {op}{t:TE}(h:PE X a t):PE X (.BoolOp op [a] pos) t:=λaI s σ H Q I hw=>BoolOp_one (h aI s σ H Q I hw)
theorem ou (ha:PE X a ta)(hb:PE X (.BoolOp .And (b::rest) pos) tb):PE X (.BoolOp .And (a::b::rest) pos) (tAndV ta tb):=by
 intro aI s σ H Q I h;apply BoolOp_and (thn (ha aI s σ H _ I h) λv s1 hz0=>?_);obtain⟨x,H1,I1,r1,q1⟩:=hz0;obtain⟨c,rfl,q1⟩:=q1;cases r1;apply gM ?_;cases c with
 | true=>exact hb aI s1 σ H1 Q I1 q1
 | false=>exact⟨.bl false,H1,I1,rfl,q1⟩
theorem pe_not (ha:PE X a ta):PE X (.UnaryOp .Not a pos) (tNotV ta):=by
 intro aI s σ H Q I h;apply UnaryOp_ (thn (ha aI s σ H _ I h) λv s1 hz0=>?_);obtain⟨x,H1,I1,r1,q1⟩:=hz0;obtain⟨c,rfl,q1⟩:=q1;cases r1;exact not_of (gM ⟨.bl (!c),H1,I1,rfl,q1⟩)
def tIf (t:TT)(ta tb:TE):TE:=λσ H Q=>t σ H λc H1=>if c=true then ta σ H1 Q else tb σ H1 Q
theorem pe_ifExp {c:Expr}(hc:PT X c tA)(ha:PE X a ta)(hb:PE X b tb):PE X (.IfExp c a b pos) (tIf tA ta tb):=by
 intro aI s σ H Q I h;apply wpAny_IfExp (thn (hc aI s σ H _ I h) λd s1 hz0=>?_);obtain⟨H1,I1,q1⟩:=hz0;cases d with
 | true=>exact ha aI s1 σ H1 Q I1 q1
 | false=>exact hb aI s1 σ H1 Q I1 q1
end
def SqL (K:aj)(H:Hp)(a:ao)(xs:List V):Prop :=
 Rd H a (.lst xs) ∨
  ∃(o:Obj) (its:Array af) (n:Nat),K.lookup a=some o∧o.cls= .type "list" ∧o.dict=none∧o.data= .seq its n∧its.size≤aA∧gU xs its.toList
def SqT (K:aj)(H:Hp)(a:ao)(xs:List V):Prop :=
 Rd H a (.tup xs) ∨
  ∃(o:Obj) (its:Array af) (n:Nat),K.lookup a=some o∧o.cls= .type "tuple" ∧o.data= .seq its n∧its.size≤aA∧gU xs its.toList
def absV:af→Option V
 | .none=>some .non
 | .bool b=>some (.bl b)
 | .int i _=>some (.int i)
 | .str x _=>some (.str x)
 | .bytes b _=>some (.byt b)
 | .float b _=>some (.flt b)
 | .ref a=>some (.ref a)
 | .type n=>some (.ty n)
 | _=>none
theorem iG.abs {x:V}(r:iG x u):absV u=some x:=by
 cases x with
 | non=>cases r;rfl
 | bl _=>cases r;rfl
 | int _=>obtain⟨t,rfl⟩:=r;rfl
 | str _=>obtain⟨t,rfl⟩:=r;rfl
 | byt _=>obtain⟨t,rfl⟩:=r;rfl
 | flt _=>obtain⟨t,rfl⟩:=r;rfl
 | ref _=>cases r;rfl
 | ty _=>cases r;rfl
theorem iG.inj {x:V}(r:iG x u)(q:iG y u):x=y:=bF (r.abs.symm.trans q.abs)
theorem gU.inj:∀{xs ys:List V} {us:List af},gU xs us→gU ys us→xs=ys
 | _,_,_,.nil,.nil=>rfl
 | _,_,_,.cons r t,.cons r' t'=>by rw[r.inj r',gU.inj t t']
section
variable {ys:List V}
theorem SqL.of (h:H a=some (.lst xs)):SqL K H a xs:= .inl (.inl h)
theorem SqT.of (h:H a=some (.tup xs)):SqT K H a xs:= .inl (.inl h)
theorem Inv.list (I:Inv X aI σ H s)(h:SqL X.K H a xs):∃its:List af,gU xs its∧PlainL s.heap a its.toArray∧xs.length≤aA:=by
 rcases h with h | ⟨o,its,n,hk,hc,hd,hs,hz,r⟩
 ·obtain⟨z,its,n,r,e⟩:=h.ok I.hok
  exact⟨its,r,⟨_,n,e,rfl,rfl,rfl⟩,z⟩
 ·apply⟨its.toList,r,⟨o,n,I.kIn a o hk,hc,hd,by simpa using hs⟩,?_⟩
  have e:=r.length;simp only[eP] at e;lia
theorem Inv.tuple (I:Inv X aI σ H s)(h:SqT X.K H a xs):∃its:List af,gU xs its∧IsTup s.heap a its.toArray∧xs.length≤aA:=by
 rcases h with h | ⟨o,its,n,hk,hc,hs,hz,r⟩
 ·obtain⟨z,its,r,p⟩:=h.ok I.hok
  exact⟨its,r,p.tup,z⟩
 ·apply⟨its.toList,r,⟨o,I.kIn a o hk,hc,n,by simpa using hs⟩,?_⟩
  have e:=r.length;simp only[eP] at e;lia
theorem Inv.list_inj (I:Inv X aI σ H s)(h:SqL X.K H a xs)(h':SqL X.K H a ys):xs=ys:=by
 obtain⟨its,r,⟨o,n,e,_,_,d⟩,_⟩:=I.list h;obtain⟨its',r',⟨o',n',e',_,_,d'⟩,_⟩:=I.list h';rw[e] at e';cases e';rw[d] at d';injection d' with d1 _
 have:its=its':=by simpa using qO Array.toList d1
 subst this;exact r.inj r'
end
abbrev Cx.wish (X:Cx)(E:af→ar→Prop):Cx:={ X with xe:=E }
abbrev Cx.nox (X:Cx):Cx:=X.wish λ_ _=>False
theorem Cx.Ok.wish (ok:X.Ok)(E:af→ar→Prop):(X.wish E).Ok :=
 ⟨ok.mod,ok.kind,ok.glob,ok.blt,ok.above,ok.inj,ok.has,ok.cab,ok.hd,ok.frames,ok.stk,ok.exf,ok.bs,ok.bsz,ok.noex,ok.exfs,ok.funs,ok.frf⟩
theorem Cx.Ok.unwish (ok:(X.wish E).Ok):X.Ok :=
 ⟨ok.mod,ok.kind,ok.glob,ok.blt,ok.above,ok.inj,ok.has,ok.cab,ok.hd,ok.frames,ok.stk,ok.exf,ok.bs,ok.bsz,ok.noex,ok.exfs,ok.funs,ok.frf⟩
theorem Inv.wish (I:Inv X aI σ H s)(E:af→ar→Prop):Inv (X.wish E) aI σ H s:=⟨I.ok.wish E,I.os,I.bare,I.base,I.loc,I.cell,I.free,I.freeC,I.pin,I.hok,I.len⟩
theorem Inv.unwish (I:Inv (X.wish E) aI σ H s):Inv X aI σ H s:=⟨I.ok.unwish,I.os,I.bare,I.base,I.loc,I.cell,I.free,I.freeC,I.pin,I.hok,I.len⟩
theorem SP.unwish {D:Ends}{f:Flow}(h:SP (X.wish E) aI D f s'):SP X aI D f s':=by
 cases f with
 | next=>obtain⟨σ',H',I,q⟩:=h;exact⟨σ',H',I.unwish,q⟩
 | brk=>obtain⟨σ',H',I,q⟩:=h;exact⟨σ',H',I.unwish,q⟩
 | cont=>obtain⟨σ',H',I,q⟩:=h;exact⟨σ',H',I.unwish,q⟩
 | ret u=>obtain⟨v,σ',H',I,r,q⟩:=h;exact⟨v,σ',H',I.unwish,r,q⟩
theorem PSs.nox {st:List cW}{t:TS}(h:PSs X.nox st t):PSs X st t:=λaI s σ H D I hw =>
 dO (h aI s σ H D (I.wish _) hw) (λ_ _ q=>q.unwish) λ_ _ z=>eZ z
section
variable {rest:List cW}{t u:TS}
def tNext:TS:=λD σ H=>D.nx σ H
def tSeq (t u:TS):TS:=λD σ H=>t { D with nx:=u D } σ H
theorem cZ:PSs X [] tNext:=λ_ _ σ H _ I h=>wpAny_execs_nil ⟨σ,H,I,h⟩
theorem dq (h1:PS X st t)(h2:PSs X rest u):PSs X (st::rest) (tSeq t u):=by
 intro aI s σ H D I h;apply wpAny_execs_cons (thn (h1 aI s σ H { D with nx:=u D } I h) λf s1 q=>?_);cases f with
 | next =>
  obtain⟨σ',H',I',q⟩:=q;exact h2 aI s1 σ' H' D I' q
 | ret v=>exact q
 | brk=>exact q
 | cont=>exact q
theorem bH (h1:PS X st t):PSs X [st] t:=by
 intro aI s σ H D I h;apply wpAny_execs_cons (thn (h1 aI s σ H D I h) λf s1 q=>?_);cases f with
 | next=>exact wpAny_execs_nil q
 | ret v=>exact q
 | brk=>exact q
 | cont=>exact q
theorem Inv.quiet (I:Inv X aI σ H s):interactive X.env=false:=by simp[interactive,I.ok.kind]
def tDrop (te:TE):TS:=λD σ H=>te σ H λ_ H1=>D.nx σ H1
theorem iA (he:PE X e te)(hs:autoParam (kO e none pos.line X.env=hW false) L2.au0._auto_1):PS X (.Expr e pos) (tDrop te):=by
 intro aI s σ H D I h;exact wpAny_Expr_any (thn (he aI s σ H _ I h) λv s1 ⟨x,H1,I1,r1,q1⟩=>⟨σ,H1,I1,q1⟩) I.quiet hs
def tRet (te:TE):TS:=λD σ H=>te σ H D.rt
theorem cA (he:PE X e te):PS X (.Return (some e) pos) (tRet te):=by
 intro aI s σ H D I h;exact wpAny_Return_some (thn (he aI s σ H _ I h) λv s1 ⟨x,H1,I1,r1,q1⟩=>⟨x,σ,H1,I1,r1,q1⟩)
def tIfS (c:TT)(t u:TS):TS:=λD σ H=>c σ H λb H1=>if b=true then t D σ H1 else u D σ H1
theorem gC {c:Expr}{a b:List cW}{tc:TT}(hc:PT X c tc)(ha:PSs X a t)(hb:PSs X b u):PS X (.If c a b pos) (tIfS tc t u):=by
 intro aI s σ H D I h;apply wpAny_If (thn (hc aI s σ H _ I h) λd s1 hz0=>?_);obtain⟨H1,I1,q1⟩:=hz0;cases d with
 | true=>exact ha aI s1 σ H1 D I1 q1
 | false=>exact hb aI s1 σ H1 D I1 q1
def tNever:TS:=λ_ _ _=>False
theorem ps_never:PS X st tNever:=λ_ _ _ _ _ _ h=>h.elim
end
abbrev TG:=V→St→Hp→(St→Hp→Prop)→Prop
abbrev TGs:=List V→St→Hp→(St→Hp→Prop)→Prop
def PG (X:Cx)(target:Expr)(t:TG):Prop :=
 ∀(aI:List (ao×Obj)) (s:ar) (σ:St) (H:Hp) (v:V) (u:af) (Q:St→Hp→Prop),Inv X aI σ H s→iG v u→t v σ H Q →
  aT (bB X.prog X.w) X.A (assign target X.env u) (λ_ s'=>∃σ' H',Inv X aI σ' H' s'∧Q σ' H') X.xe s
def PGs (X:Cx)(ts:List Expr)(t:TGs):Prop :=
 ∀(aI:List (ao×Obj)) (s:ar) (σ:St) (H:Hp) (vs:List V) (us:List af) (Q:St→Hp→Prop),Inv X aI σ H s→gU vs us→t vs σ H Q →
  aT (bB X.prog X.w) X.A (assignInOrder ((assignEach ts X.env).map (·.2)) us) (λ_ s'=>∃σ' H',Inv X aI σ' H' s'∧Q σ' H') X.xe s
abbrev TSet:=V→V→V→Hp→(Hp→Prop)→Prop
def PSet (X:Cx)(t:TSet):Prop :=
 ∀(aI:List (ao×Obj)) (s:ar) (σ:St) (H:Hp) (o i v:V) (ov iv u:af) (Q:Hp→Prop),Inv X aI σ H s→iG o ov→iG i iv→iG v u→t o i v H Q →
  aT (bB X.prog X.w) X.A (setItem ov iv u) (λ_ s'=>∃H',Inv X aI σ H' s'∧Q H') X.xe s
def mP (i:Nat):TG:=λv σ H Q=>Q (σ.set i (some v)) H
theorem nY (hN:X.N.Nodup)(hi:X.N[i]? =some x)(hx:Loc X.env.scope x)(hf:autoParam (X.fn x=true∨X.env.scope.names.lookup x=some .local) L2.au3._auto_1):PG X (.Name x pos) (mP i):=by
 intro aI s σ H v u Q I r h;exact wpAny_assign_Name (store_ok I hN hi hx r (λs' I'=>⟨_,H,I',h⟩) hf)
def gNil:TGs:=λvs σ H Q=>vs=[]∧Q σ H
def gCons (t:TG)(u:TGs):TGs:=λvs σ H Q=>∃v r,vs=v::r∧t v σ H λσ' H'=>u r σ' H' Q
theorem pz:PGs X [] gNil:=by
 intro aI s σ H vs us Q I r h;obtain⟨e,h⟩:=h;subst e;cases r;exact assignInOrder_nil ⟨σ,H,I,h⟩
theorem jk {t:TG}{u:TGs}(h1:PG X e t)(h2:PGs X es u)
  (hs:autoParam ((assignEach (e::es) X.env).map (·.2)=assign e X.env::(assignEach es X.env).map (·.2)) L2.au0._auto_1):PGs X (e::es) (gCons t u):=by
 intro aI s σ H vs us Q I r h;obtain⟨v,vr,e1,h⟩:=h;subst e1;cases r with
 | cons r rr =>
  rw[hs];apply assignInOrder_cons (thn (h1 aI s σ H _ _ _ I r h) λ_ s1 hz0=>?_);obtain⟨σ1,H1,I1,q1⟩:=hz0;exact h2 aI s1 σ1 H1 _ _ Q I1 rr q1
def gTup (K:aj)(n:Nat)(t:TGs):TG:=λv σ H Q=>∃a xs,v= .ref a∧SqT K H a xs∧xs.length=n∧t xs σ H Q
theorem pg_tup {t:TGs}(hc:X.calm=true)(h:PGs X es t)
  (hn:autoParam ((assignEach es X.env).length=n) L2.au0._auto_1) (hst:autoParam ((assignEach es X.env).findIdx? (·.1)=none) L2.au0._auto_1):PG X (.Tuple es k pos) (gTup X.K n t):=by
 intro aI s σ H v u Q I r hw;obtain⟨a,xs,e1,hq,hl,hw⟩:=hw;subst e1;cases r;obtain⟨its,rv,ht,hz⟩:=I.tuple hq;apply assign_Tuple_tuple (I.ok.hd hc) ht (by simp[hn,←hl,rv.length]) hst λh' hx=>?_
 have I1:Inv X aI σ H { s with heap:=h' }:=I.kept (t':=s.toks) λb o e=>hx b o (cJ (aS e)) e
 exact h aI _ σ H xs _ Q I1 (by simpa using rv) hw
def gSub (to ti:TE)(t:TSet):TG:=λv σ H Q=>to σ H λo H1=>ti σ H1 λi H2=>t o i v H2 λH3=>Q σ H3
theorem pg_sub {o i:Expr}{ti:TE}{t:TSet}(ho:PE X o to)(hi:PE X i ti)(hs:PSet X t)
  (ha:autoParam (∀ v,assign (.Subscript o i pos) X.env v=(do
   let ov ← holding [v] (dU o X.env)
   let iv ← holding [v,ov] (dU i X.env)
   standAt pos
   holding [v,ov,iv] (setItem ov iv v)
   release [v,ov,iv] [])) L2.au2._auto_1):PG X (.Subscript o i pos) (gSub to ti t):=by
 intro aI s σ H v u Q I r h;rw[ha];apply ak (gT (thn (ho aI s σ H _ I h) λov s1 hz0=>?_));obtain⟨x,H1,I1,r1,q1⟩:=hz0;apply ak (gT (thn (hi aI s1 σ H1 _ I1 q1) λiv s2 hz0=>?_));obtain⟨y,H2,I2,r2,q2⟩:=hz0;apply ak (wpAny_standAt (ak (gT (thn (hs aI s2 σ H2 x y v ov iv u _ I2 r1 r2 r q2) λ_ s3 hz0=>?_))));obtain⟨H3,I3,q3⟩:=hz0;exact wpAny_release ⟨σ,H3,I3,q3⟩
def tAsg (te:TE)(g:TG):TS:=λD σ H=>te σ H λx H1=>g x σ H1 D.nx
theorem ps_asg {g:TG}(he:PE X e te)(hg:PG X tg g)(hs:autoParam (swapsWithSole [tg] e pos.line X.env=hW false) L2.au0._auto_1)(hw:autoParam (swappedStores [tg] e X.env=hW none) L2.au0._auto_1)
  (h1:autoParam ((assignEach [tg] X.env).map (·.2)=[assign tg X.env]) L2.au0._auto_1):PS X (.Assign [tg] e pos) (tAsg te g):=by
 intro aI s σ H D I h;apply wpAny_Assign_stores (thn (he aI s σ H _ I h) λv s1 hz0=>?_) hs hw;obtain⟨x,H1,I1,r1,q1⟩:=hz0;rw[h1];exact thn (hg aI s1 σ H1 x v _ I1 r1 q1) λ_ s2 q=>q
theorem ps_set (hN:X.N.Nodup)(hi:X.N[i]? =some x)(hx:Loc X.env.scope x)(he:PE X e te)(hs:autoParam (kO e (some (.Name x pos')) pos.line X.env=hW false) L2.au0._auto_1)(hf:autoParam (X.fn x=true∨X.env.scope.names.lookup x=some .local) L2.au3._auto_1) :
  PS X (.Assign [.Name x pos'] e pos) (tAsg te (mP i)):=by
 intro aI s σ H D I h;apply wpAny_Assign_Name (thn (he aI s σ H _ I h) λv s1 hz0=>?_) hs;obtain⟨y,H1,I1,r1,q1⟩:=hz0;exact store_ok I1 hN hi hx r1 (λs2 I2=>⟨_,H1,I2,q1⟩) hf
structure It where
 go:Nat→Hp→Prop
 yld:Nat→Hp→V→Hp→Prop
 stop:Nat→Hp→Prop
def FpOk (X:Cx)(aI:List (ao×Obj))(H:Hp)(b:ao):Prop :=
 H b=none∧b≠X.env.locals∧b ∉ X.fs∧(b∈X.ex∨X.s₀.heap.objs.size≤b)∧(∀x c,X.env.cells.lookup x=some c→c≠b)∧∀p∈X.pn++aI,p.1≠b
theorem Inv.fpOk {b:ao}(I:Inv X aI σ H s)(hb:s.heap.objs.size≤b)(hn:H' b=none):FpOk X aI H' b:=by
 apply⟨hn,jr (bV I.lt hb),I.nofs hb,.inr (cu I.sz hb),λx c e z=>?_,λp hp z=>?_⟩
 ·obtain⟨v,q⟩:=I.cell x c e
  exact qK (bV q.lt (by rw[z];exact hb)) (gq _)
 ·exact qK (bV (aS (I.pin p hp).1) (by rw[z];exact hb)) (gq _)
structure Turn (P:aK)(w:bc)(K:aj)(tg:Expr)(J:It)(fp:List ao)(it:ao)(tn:Nat→bM→Prop):Prop where
 mem:it∈fp
 obj:∀i h,tn i h→∀b∈fp,∃o,h.get? b=some o∧∀v,o.data≠ .cell v
 keep:∀i h h',tn i h→(∀b∈fp,∀o,h.get? b=some o→h'.get? b=some o)→tn i h'
 item:∀(X:Cx),X.prog=P→X.w=w→X.K=K→X.calm=true→∀(i:Nat) (aI:List (ao×Obj)) (s:ar) (σ:St) (H:Hp) (E:af→ar→Prop),Inv X aI σ H s→(∀b∈fp,FpOk X aI H b)→tn i s.heap→J.go i H →
  aT (bB P w) X.A (pyNext (.ref it)) (fun r s1=>∃ u,r=some u ∧
   aT (bB P w) X.A (lG tg (.ref it) u) (fun _ s2=>∃ x H',Inv X aI σ H' s2∧iG x u∧J.yld i H x H'∧tn (i+1) s2.heap∧∀ b∈fp,H' b=none) E s1) E s
 done:∀(X:Cx),X.prog=P→X.w=w→X.K=K→X.calm=true→∀(i:Nat) (aI:List (ao×Obj)) (s:ar) (σ:St) (H:Hp) (E:af→ar→Prop),Inv X aI σ H s→(∀b∈fp,FpOk X aI H b)→tn i s.heap→J.stop i H →
  aT (bB P w) X.A (pyNext (.ref it)) (λr s1=>r=none∧Inv X aI σ H s1) E s
 self:∀(A:cq) (i:Nat) (s:ar) (Q:af→ar→Prop) (E:af→ar→Prop),tn i s.heap→Q (.ref it) s→aT (bB P w) A (pyIter (.ref it)) Q E s
abbrev TI:=St→Hp→(It→Hp→Prop)→Prop
def PIE (X:Cx)(aI:List (ao×Obj))(σ:St)(tg:Expr)(R:It→Hp→Prop)(itv:af)(s2:ar):Prop :=
 ∃(it:ao) (fp:List ao) (tn:Nat→bM→Prop) (J:It) (H':Hp),itv= .ref it∧Inv X aI σ H' s2∧Turn X.prog X.w X.K tg J fp it tn∧tn 0 s2.heap∧(∀b∈fp,FpOk X aI H' b)∧R J H'
def PI (X:Cx)(tg iter:Expr)(wi:TI):Prop :=
 ∀(aI:List (ao×Obj)) (s:ar) (σ:St) (H:Hp) (R:It→Hp→Prop),Inv X aI σ H s→wi σ H R →
  aT (bB X.prog X.w) X.A (dU iter X.env) (λv s1=>aT (bB X.prog X.w) X.A (pyIter v) (PIE X aI σ tg R) X.xe s1) X.xe s
theorem go_of {o:Obj}{n:String}{vs:Array af}{Q:Unit→ar→Prop}(ho:s.heap.get? it=some o)(hc:o.cls= .type n)(hd:o.data= .fields vs)
  (hn:["enumerate","zip","dict_itemiterator","dict_reverseitemiterator","odict_iterator","itertools.zip_longest","itertools.pairwise"].contains n=false) (hQ:Q () s):aT M A (lG tg (.ref it) u) Q E s:=by
 unfold lG;cases tg <;> first
  | exact aN hQ
  | (cases u <;> first
    | exact aN hQ
    | (apply ak (wpAny_load ho ?_)
       rw [hc,hd];show aT M A (if (["enumerate","zip","dict_itemiterator","dict_reverseitemiterator","odict_iterator","itertools.zip_longest","itertools.pairwise"].contains n && vs[0]? == some (kt _))=true then _ else _) Q E s;rw [qI (by intro h;rw [hn,j4] at h;cases h)];exact aN hQ))
def Itl (K:aj)(a:ao):It :=
 ⟨λi H=>∃xs x,SqL K H a xs∧xs[i]? =some x,λi H x H'=>H'=H∧∀xs,SqL K H a xs→xs[i]? =some x,λi H=>∃xs,SqL K H a xs∧xs.length≤i⟩
def Itr (lo:Int)(n:Nat):It:=⟨λi _=>i<n,λi H x H'=>H'=H∧x= .int (lo+i),λi _=>n≤i⟩
theorem turn_list (a it:ao):Turn P w K tg (Itl K a) [it] it (λi h=>h.IsListIter it a i) where
 mem:=by simp
 obj:=λi h st b hb=>by
  have e:b=it:=by simpa using hb
  subst e;obtain⟨o,e,c,d⟩:=st;exact⟨o,e,λv z=>by rw[d] at z;cases z⟩
 keep:=λi h h' st k=>st.at λo e=>k it ∅ o e
 item:=by
  intro X hP hw hK hc i aI s σ H E I hf st hg;subst hP hw hK;obtain⟨xs,x,hq,hx⟩:=hg;obtain⟨its,rv,p,hz⟩:=I.list hq;obtain⟨u,hu,ru⟩:=rv.get hx;obtain⟨f0,f1,f2,f3,f4,f5⟩:=hf it ∅;apply wpAny_pyNext_list_item st p.isList (x:=u) (by simpa using hu) λh' st' sb=>?_
  have I1:Inv X aI σ H { s with heap:=h' }:=I.turned (t':=s.toks) (λb o hb e=>(sb.2 b hb).trans e) f0 f1 f3 f4 f5;obtain⟨o,e,c,d⟩:=id st';exact⟨u,rfl,go_of (s:={ s with heap:=h' }) e c d ↥0 ⟨x,H,I1,ru,⟨rfl,λys hy=>by rw[I.list_inj hy hq];exact hx⟩,st',λb hb=>(hf b hb).1⟩⟩
 done:=by
  intro X hP hw hK hc i aI s σ H E I hf st hg;subst hP hw hK;obtain⟨xs,hq,hx⟩:=hg;obtain⟨its,rv,p,hz⟩:=I.list hq;obtain⟨f0,f1,f2,f3,f4,f5⟩:=hf it ∅;have hl:=rv.length;exact wpAny_pyNext_list_end (I.ok.hd hc) st p.isList (by simp;lia) λh' eb=>⟨rfl,I.turned (t':=s.toks) (λb o hb e=>eb b o hb e) f0 f1 f3 f4 f5⟩
 self:=λ_ _ _ _ _ st h=>wpAny_pyIter_listiter st h
theorem turn_range (it:ao)(lo:Int)(n:Nat):Turn P w K tg (Itr lo n) [it] it (λi h=>IsRangeIter h it (lo+(i:Nat) * 1) ((n:Int) - (i:Nat)) 1) where
 mem:=by simp
 obj:=λi h st b hb=>by
  have e:b=it:=by simpa using hb
  subst e;exact ⟨_,st,fun v z=>by
   have z':Data.fields _=Data.cell v:=z;cases z'⟩
 keep:=λi h h' st k=>k it ∅ _ st
 item:=by
  intro X hP hw hK hc i aI s σ H E I hf st hg;subst hP hw hK;obtain⟨f0,f1,f2,f3,f4,f5⟩:=hf it ∅;have W:=Walks.range (prog:=X.prog) (w:=X.w) (I.ok.hd hc) it lo 1 n;apply W.item i s _ _ hg st λv h' tk hv st' kk=>?_
  obtain⟨t,rfl⟩:=hv;have I1:Inv X aI σ H { s with heap:=h',toks:=tk }:=I.turned (λb o hb e=>kk b o (by simpa using hb) e) f0 f1 f3 f4 f5;apply⟨ρ,go_of (s:={ s with heap:=h',toks:=tk }) (n := "range_iterator") st' rfl rfl ↥0 ⟨.int (lo+i),H,I1,⟨t,?_⟩,⟨rfl,rfl⟩,st',λb hb=>(hf b hb).1⟩⟩;rw[Int.mul_one]
 done:=by
  intro X hP hw hK hc i aI s σ H E I hf st hg;subst hP hw hK;obtain⟨f0,f1,f2,f3,f4,f5⟩:=hf it ∅;exact wpAny_pyNext_range_end (I.ok.hd hc) st (by have:n≤i:=hg;lia) λh' eb=>⟨rfl,I.turned (t':=s.toks) (λb o hb e=>eb b o hb e) f0 f1 f3 f4 f5⟩
 self:=λ_ _ _ _ _ st h=>wpAny_pyIter_rangeiter st h
def iList (K:aj)(tl:TE):TI:=λσ H R=>tl σ H λx H1=>∃a,x= .ref a∧(∃xs,SqL K H1 a xs)∧R (Itl K a) H1
theorem jo {l:Expr}{tl:TE}(hl:PE X l tl):PI X tg l (iList X.K tl):=by
 intro aI s σ H R I h;apply thn (hl aI s σ H _ I h) λv s1 hz0=>?_
 obtain⟨x,H1,I1,r1,q1⟩:=hz0;obtain⟨a,e,⟨xs,hq⟩,q⟩:=q1;subst e;cases r1;obtain⟨its,rv,p,hz⟩:=I1.list hq;apply gN p.isList ?_;apply⟨s1.heap.objs.size,[s1.heap.objs.size],_,_,H1,rfl,I1.kept (t':=s1.toks) λb o e=>av _ e,turn_list a _,⟨_,aQ _ rfl,rfl,rfl⟩,λb hb=>?_,q⟩;have e:b=s1.heap.objs.size:=by simpa using hb
 subst e;exact I1.fpOk (aD _) (I1.hok.fresh (aD _))
theorem range_it {R:It→Hp→Prop}{hi:Int}{t u v:Tok}{tk:Nat}(I:Inv X aI σ H s)(h1: -(2 ^ 62)≤lo)(h2:lo<2 ^ 62)(h3: -(2 ^ 62)≤hi)(h4:hi<2 ^ 62)
  (q:R (Itr lo (hi - lo).toNat) H):aT (bB X.prog X.w) X.A (pyIter (.ref s.heap.objs.size)) (PIE X aI σ tg R) E { s with heap:=s.heap.push { cls:= .type "range",data:= .fields #[.int lo t,.int hi u,.int 1 v] },toks:=tk }:=by
 apply wpAny_pyIter_range (IsRange.new ..) (small_one h1 h2 h3 h4) ?_;have I1:Inv X aI σ H { s with heap:=s.heap.push { cls:= .type "range",data:= .fields #[.int lo t,.int hi u,.int 1 v] },toks:=tk }:=I.kept λb o e=>av _ e
 apply ⟨(s.heap.push { cls:= .type "range",data:= .fields #[.int lo t,.int hi u,.int 1 v] }).objs.size,[(s.heap.push { cls:= .type "range",data:= .fields #[.int lo t,.int hi u,.int 1 v] }).objs.size],_,_,H,rfl,
  I1.kept (t':=tk) fun b o e=>av _ e,turn_range _ lo (hi - lo).toNat,?_,fun b hb=>?_,q⟩
 ·have e1:lo+((0:Nat):Int) * 1=lo:=by simp
  have e2:(((hi - lo).toNat:Nat):Int) - ((0:Nat):Int)=jd lo hi 1:=by rw[rangeSize_one];split <;> lia
  show IsRangeIter _ _ (lo+((0:Nat):Int) * 1) ((((hi - lo).toNat:Nat):Int) - ((0:Nat):Int)) 1;rw[e1,e2];exact aQ _ rfl
 ·have e:b=(s.heap.push { cls:= .type "range",data:= .fields #[.int lo t,.int hi u,.int 1 v] }).objs.size:=by simpa using hb
  subst e;exact I1.fpOk (aD _) (I1.hok.fresh (aD _))
def iRng1 (ta:TA):TI:=λσ H R=>ta σ H λvs H1=>∃j:Int,vs=[.int j]∧ -(2 ^ 62)≤j∧j<2 ^ 62∧R (Itr 0 j.toNat) H1
def iRng2 (ta:TA):TI:=λσ H R=>ta σ H λvs H1=>∃i j:Int,vs=[.int i,.int j]∧(-(2 ^ 62)≤i∧i<2 ^ 62∧ -(2 ^ 62)≤j∧j<2 ^ 62)∧R (Itr i (j - i).toNat) H1
theorem kJ {a:Expr}{ta:TA}{p:Pos}(hg:Gl X "range")(hm:X.mg "range" =none)(ha:PA X [a] ta)(hs:autoParam (br [a] X.env=[(false,dU a X.env)]) L2.au0._auto_1):PI X tg (.Call (.Name "range" p) [a] [] pos) (iRng1 ta):=by
 intro aI s σ H R I h;apply Call_ (nJ I hg hm boot_range (dH (thn (ha pos aI s σ H _ I h) λus s1 hz0=>?_) hs rfl));obtain⟨vs,H1,I1,r1,q1⟩:=hz0;obtain⟨j,e,q1,q2,q⟩:=q1;subst e;cases r1 with
 | cons r rr =>
  cases rr;obtain⟨t,rfl⟩:=r;exact call_range_1 (range_it I1 ⋯ ⋯ q1 q2 (by simpa using q))
theorem pi_range2 {a b:Expr}{ta:TA}{p:Pos}(hg:Gl X "range")(hm:X.mg "range" =none)(ha:PA X [a,b] ta)(hs:autoParam (br [a,b] X.env=[(false,dU a X.env),(false,dU b X.env)]) L2.au0._auto_1)(hs2:autoParam (br [b] X.env=[(false,dU b X.env)]) L2.au0._auto_1) :
  PI X tg (.Call (.Name "range" p) [a,b] [] pos) (iRng2 ta):=by
 intro aI s σ H R I h;apply Call_ (nJ I hg hm boot_range (dH (thn (ha pos aI s σ H _ I h) λus s1 hz0=>?_) (by rw[hs,hs2]) (by rw[hs2];rfl)));obtain⟨vs,H1,I1,r1,q1⟩:=hz0;obtain⟨i,j,e,⟨q1,q2,q3,q4⟩,q⟩:=q1;subst e;cases r1 with
 | cons r rr =>
  cases rr with
  | cons r' rr =>
   cases rr;obtain⟨t,rfl⟩:=r;obtain⟨t',rfl⟩:=r';exact call_range_2 (range_it I1 q1 q2 q3 q4 q)
def tFor (wi:TI)(g:TG)(tb:TS):TS:=λD σ H=>wi σ H λJ H1=>∃W:Nat→Nat→St→Hp→Prop,(∃m,W 0 m σ H1)∧∀i m σ H,W i m σ H →
 (J.stop i H∧D.nx σ H)∨(J.go i H∧∃N:St→Hp→Prop,(∀σ' H',N σ' H'→∃m',m'<m∧W (i+1) m' σ' H')∧∀x H',J.yld i H x H'→g x σ H' λσ2 H2=>tb { D with nx:=N,ct:=N,bk:=D.nx } σ2 H2)
def pinsAt (fp:List ao)(h:bM):List (ao×Obj):=fp.filterMap λb=>(h.get? b).map λo=>(b,o)
theorem mK {b:ao}{o:Obj}(hb:b∈fp)(e:h.get? b=some o):(b,o)∈pinsAt fp h:=ef.mpr ⟨b,hb,by rw[e];rfl⟩
theorem of_pinsAt {p:ao×Obj}(hp:p∈pinsAt fp h):p.1∈fp∧h.get? p.1=some p.2:=by
 obtain⟨b,hb,e⟩:=ef.mp hp;cases q:h.get? b with
 | none=>rw[q] at e;cases e
 | some o =>
  rw[q] at e;have e':(b,o)=p:=bF e;subst e';exact⟨hb,q⟩
theorem Inv.pinned (I:Inv X aI σ H s)(hf:∀b∈fp,FpOk X aI H b)(ho:∀b∈fp,∃o,s.heap.get? b=some o∧∀v,o.data≠ .cell v):Inv X (aI++pinsAt fp s.heap) σ H s :=
 I.pins_of λp hp=>(aL.mp hp).elim (λz=>I.pin p (bf _ z)) λz=>by
  obtain⟨hb,e⟩:=of_pinsAt z;obtain⟨f0,f1,f2,_⟩:=hf p.1 hb;obtain⟨o,e',d⟩:=ho p.1 hb;rw[e] at e';cases e';exact⟨e,f0,f1,f2,d⟩
theorem Inv.unpinned {pl:List (ao×Obj)}(I:Inv X (aI++pl) σ H s):Inv X aI σ H s:=I.pins_of λp hp=>I.pin p (bf _ (cE _ hp))
theorem je {wi:TI}{g:TG}{tb:TS}(hp:PassesOwn (bB X.prog X.w) X.A X.env X.xe)(hc:X.calm=true)(hi:PI X tg iter wi)(hg:PG X tg g)(hb:PSs X body tb)
  (hs:autoParam (∀x,gO iter X.env x=hW x) L2.au2._auto_1):PS X (.For tg iter body [] pos) (tFor wi g tb):=by
 intro aI s σ H D I h;apply wpAny_For (thn (hi aI s σ H _ I h) λv s1 h1=>thn h1 λitv s2 h2=>?_) hs;obtain⟨it,fp,tn,J,H2,e,I2,T,st2,f2,W,⟨m0,w0⟩,turn⟩:=h2;subst e;have stat:∀{H':Hp},(∀b∈fp,H' b=none)→∀b∈fp,FpOk X aI H' b:=λhn b hb=>⟨hn b hb,(f2 b hb).2⟩
 apply codeAny_forLoop_any (λn s'=>∃i σ' H',Inv X aI σ' H' s'∧tn i s'.heap∧(∀b∈fp,H' b=none)∧W i n σ' H') ?_ m0 ⟨0,σ,H2,I2,st2,λb hb=>(f2 b hb).1,w0⟩;rintro n s3 ⟨i,σ3,H3,I3,st3,fr3,w3⟩
 rcases turn i n σ3 H3 w3 with ⟨stop,qn⟩ | ⟨go,N,hN,step⟩
 ·apply lF hp (thn (T.done X rfl rfl rfl hc i aI s3 σ3 H3 X.xe I3 (stat fr3) st3 stop) λr s4 hz0=>?_)
  obtain⟨hr,I4⟩:=hz0;subst hr;exact wpAny_execs_nil ⟨σ3,H3,I4,qn⟩
 ·apply lF hp (thn (T.item X rfl rfl rfl hc i aI s3 σ3 H3 X.xe I3 (stat fr3) st3 go) λr s4 hz0=>?_)
  obtain⟨u,hr,h4⟩:=hz0;subst hr;apply lF hp (thn h4 λ_ s5 hz0=>?_);obtain⟨x,H5,I5,r5,y5,st5,fr5⟩:=hz0;have I5':=I5.pinned (stat fr5) (T.obj _ _ st5);apply lF hp (thn (hg _ s5 σ3 H5 x u _ I5' r5 (step x H5 y5)) λ_ s6 hz0=>?_);obtain⟨σ6,H6,I6,q6⟩:=hz0;apply lF hp (thn (hb _ s6 σ6 H6 _ I6 q6) λf s7 q7=>?_);have again:∀{σ7:St} {H7:Hp},Inv X (aI++pinsAt fp s5.heap) σ7 H7 s7→N σ7 H7→∃m,m<n∧∃i σ' H',Inv X aI σ' H' s7∧tn i s7.heap∧(∀b∈fp,H' b=none)∧W i m σ' H':=λ{σ7 H7} I7 n7=>by
   obtain⟨m',hm,w7⟩:=hN σ7 H7 n7;apply⟨m',hm,i+1,σ7,H7,I7.unpinned,T.keep _ _ _ st5 λb hb o e=>(I7.pin (b,o) (bf _ (bf _ (mK hb e)))).1,λb hb=>?_,w7⟩;obtain⟨o,e,d⟩:=T.obj _ _ st5 b hb;exact(I7.pin (b,o) (bf _ (bf _ (mK hb e)))).2.1
  cases f with
  | next=>obtain⟨σ7,H7,I7,n7⟩:=q7;exact again I7 n7
  | cont=>obtain⟨σ7,H7,I7,n7⟩:=q7;exact again I7 n7
  | brk=>obtain⟨σ7,H7,I7,q7⟩:=q7;exact⟨σ7,H7,I7.unpinned,q7⟩
  | ret v=>obtain⟨x7,σ7,H7,I7,r7,q7⟩:=q7;exact⟨x7,σ7,H7,I7.unpinned,r7,q7⟩
theorem lX {g:TG}{tb:TS}{D:Ends}(Pv:Nat→St→Hp→Prop)(h0:Pv 0 σ H)(hl:∀i σ H,i≤xs.length→Pv i σ H→SqL K H a xs)
  (hs:∀i x σ H,xs[i]? =some x→Pv i σ H→g x σ H λσ2 H2=>tb { D with nx:=Pv (i+1),ct:=Pv (i+1),bk:=D.nx } σ2 H2) (hd:∀σ H,Pv xs.length σ H→D.nx σ H) :
  ∃W:Nat→Nat→St→Hp→Prop,(∃m,W 0 m σ H)∧∀i m σ H,W i m σ H →
   ((Itl K a).stop i H∧D.nx σ H)∨((Itl K a).go i H∧∃N:St→Hp→Prop,(∀σ' H',N σ' H'→∃m',m'<m∧W (i+1) m' σ' H')∧∀x H',(Itl K a).yld i H x H'→g x σ H' λσ2 H2=>tb { D with nx:=N,ct:=N,bk:=D.nx } σ2 H2):=by
 apply⟨λi m σ H=>m=xs.length - i∧i≤xs.length∧Pv i σ H,⟨xs.length,∅,dG _,h0⟩,?_⟩;rintro i m σ H ⟨rfl,hi,p⟩;have q:=hl i σ H hi p
 by_cases hlt:i<xs.length
 ·apply .inr ⟨⟨xs,xs[i],q,by simp[hlt]⟩,Pv (i+1),λσ' H' p'=>⟨xs.length - (i+1),⋯,rfl,hlt,p'⟩,λx H' y=>?_⟩
  obtain⟨e,y⟩:=y;subst e;exact hs i x σ _ (y xs q) p
 ·have e:i=xs.length:=by lia
  subst e;exact .inl ⟨⟨xs,q,aD _⟩,hd σ H p⟩
theorem mG {g:TG}{tb:TS}{D:Ends}(Pv:Nat→St→Hp→Prop)(h0:Pv 0 σ H)
  (hs:∀i σ H,i<n→Pv i σ H→g (.int (lo+i)) σ H λσ2 H2=>tb { D with nx:=Pv (i+1),ct:=Pv (i+1),bk:=D.nx } σ2 H2) (hd:∀σ H,Pv n σ H→D.nx σ H) :
  ∃W:Nat→Nat→St→Hp→Prop,(∃m,W 0 m σ H)∧∀i m σ H,W i m σ H →
   ((Itr lo n).stop i H∧D.nx σ H)∨((Itr lo n).go i H∧∃N:St→Hp→Prop,(∀σ' H',N σ' H'→∃m',m'<m∧W (i+1) m' σ' H')∧∀x H',(Itr lo n).yld i H x H'→g x σ H' λσ2 H2=>tb { D with nx:=N,ct:=N,bk:=D.nx } σ2 H2):=by
 apply⟨λi m σ H=>m=n - i∧i≤n∧Pv i σ H,⟨n,∅,dG _,h0⟩,?_⟩;rintro i m σ H ⟨rfl,hi,p⟩
 by_cases hlt:i<n
 ·apply .inr ⟨hlt,Pv (i+1),λσ' H' p'=>⟨n - (i+1),⋯,rfl,hlt,p'⟩,λx H' y=>?_⟩
  obtain⟨e,y⟩:=y;subst e y;exact hs i σ _ hlt p
 ·have e:i=n:=by lia
  subst e;exact .inl ⟨aD _,hd σ H p⟩
abbrev R2:=V→V→Hp→VK→Prop
def OpR (X:Cx)(f:af→af→Sem af)(r:R2):Prop :=
 ∀(aI:List (ao×Obj)) (s:ar) (σ:St) (H:Hp) (x y:V) (v u:af) (Q:VK),Inv X aI σ H s→iG x v→iG y u→r x y H Q →
  aT (bB X.prog X.w) X.A (f v u) (EP X aI σ Q) X.xe s
def UnR (X:Cx)(f:af→Sem af)(r:V→Hp→VK→Prop):Prop :=
 ∀(aI:List (ao×Obj)) (s:ar) (σ:St) (H:Hp) (x:V) (v:af) (Q:VK),Inv X aI σ H s→iG x v→r x H Q →
  aT (bB X.prog X.w) X.A (f v) (EP X aI σ Q) X.xe s
def iM (X:Cx)(f:af)(r:List V→Hp→VK→Prop):Prop :=
 ∀(aI:List (ao×Obj)) (s:ar) (σ:St) (H:Hp) (xs:List V) (us:List af) (Q:VK),Inv X aI σ H s→gU xs us→r xs H Q →
  aT (bB X.prog X.w) X.A (call f us) (EP X aI σ Q) X.xe s
def tOp (r:R2)(ta tb:TE):TE:=λσ H Q=>ta σ H λx H1=>tb σ H1 λy H2=>r x y H2 Q
def tUn (r:V→Hp→VK→Prop)(ta:TE):TE:=λσ H Q=>ta σ H λx H1=>r x H1 Q
inductive rI (C:Int→Int→Prop)(g:Int→Int→V)(x:V)(y:V)(H:Hp)(Q:VK):Prop
 | mk (i j:_)(_:x= .int i)(_:y= .int j)(_:C i j)(_:Q (g i j) H)
inductive rI0 (g:Int→Int→V)(x:V)(y:V)(H:Hp)(Q:VK):Prop
 | mk (i j:_)(_:x= .int i)(_:y= .int j)(_:Q (g i j) H)
inductive rU (g:Int→V)(x:V)(H:Hp)(Q:VK):Prop
 | mk (i:_)(_:x= .int i)(_:Q (g i) H)
section
variable {a b c:Expr}{tb tc:TE}
theorem binT (ha:PE X a ta)(hb:PE X b tb){R:V→V→Hp→Prop}(I:Inv X aI σ H s)
  (h:ta σ H λx H1=>tb σ H1 λy H2=>R x y H2) {f:af→af→Sem af}
  (hf:∀v u s2 x y H2,Inv X aI σ H2 s2→iG x v→iG y u→R x y H2→aT (bB X.prog X.w) X.A (f v u) Q X.xe s2) :
  aT (bB X.prog X.w) X.A (dU a X.env) (λv s₁=>aT (bB X.prog X.w) X.A (dU b X.env) (λu s₂=>aT (bB X.prog X.w) X.A (f v u) Q X.xe s₂) X.xe s₁) X.xe s:=by
 apply thn (ha aI s σ H _ I h) λv s1 hz0=>?_
 obtain⟨x,H1,I1,r1,q1⟩:=hz0;apply thn (hb aI s1 σ H1 _ I1 q1) λu s2 hz0=>?_
 obtain⟨y,H2,I2,r2,q2⟩:=hz0;exact hf v u s2 x y H2 I2 r1 r2 q2
theorem c7 {op:Operator}{r:R2}(ho:OpR X (ip op) r)(ha:PE X a ta)(hb:PE X b tb):PE X (.BinOp a op b pos) (tOp r ta tb):=by
 intro aI s σ H Q I h;exact wpAny_BinOp (binT ha hb I h λv u s2 x y H2 I2 rx ry q=>ho aI s2 σ H2 x y v u Q I2 rx ry q)
theorem pe_un {op:UnaryOp}{r:V→Hp→VK→Prop}(ho:UnR X (unaryOp op) r)(ha:PE X a ta):PE X (.UnaryOp op a pos) (tUn r ta):=by
 intro aI s σ H Q I h;exact UnaryOp_ (thn (ha aI s σ H _ I h) λv s1 ⟨x,H1,I1,r1,q1⟩=>ho aI s1 σ H1 x v Q I1 r1 q1)
theorem opI {f:af→af→Sem af}{C:Int→Int→Prop}{g:Int→Int→Int}
  (rule:∀(i j:Int) (t u:Tok) (s:ar) (Q:af→ar→Prop) (E:af→ar→Prop),C i j→Q (.int (g i j) s.toks) { s with toks:=s.toks+1 }→aT (bB X.prog X.w) X.A (f (.int i t) (.int j u)) Q E s) :
  OpR X f (rI C λi j=> .int (g i j)):=by
 intro aI s σ H x y v u Q I rx ry h;obtain⟨i,j,rfl,rfl,hc,q⟩:=h;obtain⟨t,rfl⟩:=rx;obtain⟨t',rfl⟩:=ry;exact rule i j t t' s _ _ hc ⟨.int (g i j),H,I.tok _,⟨_,rfl⟩,q⟩
theorem opI0 {f:af→af→Sem af}{g:Int→Int→Int}
  (rule:∀(i j:Int) (t u:Tok) (s:ar) (Q:af→ar→Prop) (E:af→ar→Prop),Q (.int (g i j) s.toks) { s with toks:=s.toks+1 }→aT (bB X.prog X.w) X.A (f (.int i t) (.int j u)) Q E s) :
  OpR X f (rI0 λi j=> .int (g i j)):=by
 intro aI s σ H x y v u Q I rx ry h;obtain⟨i,j,rfl,rfl,q⟩:=h;obtain⟨t,rfl⟩:=rx;obtain⟨t',rfl⟩:=ry;exact rule i j t t' s _ _ ⟨.int (g i j),H,I.tok _,⟨_,rfl⟩,q⟩
theorem opB0 {f:af→af→Sem af}{g:Int→Int→Bool}
  (rule:∀(i j:Int) (t u:Tok) (s:ar) (Q:af→ar→Prop) (E:af→ar→Prop),Q (.bool (g i j)) s→aT (bB X.prog X.w) X.A (f (.int i t) (.int j u)) Q E s) :
  OpR X f (rI0 λi j=> .bl (g i j)):=by
 intro aI s σ H x y v u Q I rx ry h;obtain⟨i,j,rfl,rfl,q⟩:=h;obtain⟨t,rfl⟩:=rx;obtain⟨t',rfl⟩:=ry;exact rule i j t t' s _ _ ⟨.bl (g i j),H,I,rfl,q⟩
def CDiv (i j:Int):Prop:=0<j∧j<1073741824
def CPow (i j:Int):Prop:=0≤j∧j≤1000000∧i.natAbs<2 ^ 64
def CMul (i j:Int):Prop:=(-(2 ^ 64)<i∧i<2 ^ 64)∨(-(2 ^ 64)<j∧j<2 ^ 64)
theorem CMul.ok {i j:Int}(h:CMul i j):IntMulOk i j:=by
 rcases h with ⟨h1,h2⟩ | ⟨h1,h2⟩
 ·exact .of_left (intBits_le_64 h1 h2)
 ·exact .of_right (intBits_le_64 h1 h2)
theorem gx:OpR X (ip .Add) (rI0 λi j=> .int (i+j)):=opI0 λ_ _ _ _ _ _ _ q=>add_int q
theorem ji:OpR X (ip .Sub) (rI0 λi j=> .int (i - j)):=opI0 λ_ _ _ _ _ _ _ q=>sub_int q
theorem kq:OpR X (ip .Mult) (rI CMul λi j=> .int (i * j)):=opI λ_ _ _ _ _ _ _ hc q=>mul_int q hc.ok
theorem op_fdiv:OpR X (ip .FloorDiv) (rI CDiv λi j=> .int (i / j)):=opI λi j _ _ _ _ _ hc q=>by
 have h1:(0:Int)<j:=hc.1;have h2:j<1073741824:=hc.2;exact floordiv_int ⋯ (by rw[Int.fdiv_eq_ediv_of_nonneg i ⋯];exact q) (.inl (PyProof.noPylong_small ⋯))
theorem ow:OpR X (ip .Mod) (rI (λ_ j=>0<j) λi j=> .int (i % j)):=opI λi j _ _ _ _ _ hc q=>by
 have h1:(0:Int)<j:=hc;exact mod_int' ⋯ (by rw[Int.fmod_eq_emod_of_nonneg i ⋯];exact q)
theorem op_pow:OpR X (ip .Pow) (rI CPow λi j=> .int (i ^ j.toNat)):=opI λ_ _ _ _ _ _ _ hc q=>pow_int_small hc.1 hc.2.1 hc.2.2 q
theorem unI {f:af→Sem af}{g:Int→Int}
  (rule:∀(i:Int) (t:Tok) (s:ar) (Q:af→ar→Prop) (E:af→ar→Prop),Q (.int (g i) s.toks) { s with toks:=s.toks+1 }→aT (bB X.prog X.w) X.A (f (.int i t)) Q E s) :
  UnR X f (rU λi=> .int (g i)):=by
 intro aI s σ H x v Q I rx h;obtain⟨i,rfl,q⟩:=h;obtain⟨t,rfl⟩:=rx;exact rule i t s _ _ ⟨.int (g i),H,I.tok _,⟨_,rfl⟩,q⟩
theorem un_neg:UnR X (unaryOp .USub) (rU λi=> .int (-i)):=unI λ_ _ _ _ _ q=>neg_int q
end
def scal:V→V→Bool
 | .non,.non=>true | .non,.int _=>true | .int _,.non=>true | .non,.bl _=>true | .bl _,.non=>true | .non,.str _=>true | .str _,.non=>true
 | .int _,.int _=>true | .bl _,.bl _=>true | .str _,.str _=>true | .byt _,.byt _=>true
 | .int _,.str _=>true | .str _,.int _=>true | .bl _,.str _=>true | .str _,.bl _=>true
 | _,_=>false
def rEq:R2:=λx y H Q=>scal x y=true∧Q (.bl (decide (x=y))) H
def rNe:R2:=λx y H Q=>scal x y=true∧Q (.bl (!decide (x=y))) H
theorem dec_int {i j:Int}:decide (V.int i=V.int j)=(i == j):=by
 rw[Bool.eq_iff_iff];simp
theorem dec_bl {i j:Bool}:decide (V.bl i=V.bl j)=(i == j):=by
 rw[Bool.eq_iff_iff];simp
theorem dec_str {i j:Str}:decide (V.str i=V.str j)=(i == j):=by
 rw[Bool.eq_iff_iff];simp
theorem dec_byt {i j:Array UInt8}:decide (V.byt i=V.byt j)=(i.toList == j.toList):=by
 rw[Bool.eq_iff_iff];cases i;cases j;simp
section
variable {a b c:Expr}{tb tc:TE}
theorem fz {Q:VK}{k k':Bool}(I:Inv X aI σ H s)(q:Q (.bl k) H)(e:k=k'):EP X aI σ Q (.bool k') s:=by
 subst e;exact⟨.bl k,H,I,rfl,q⟩
theorem iW:OpR X (eR .Eq) rEq:=by
 intro aI s σ H x y v u Q I rx ry h;obtain⟨hs,q⟩:=h;cases x with
 | non =>
  cases rx;cases y with
  | non=>cases ry;exact PySem.EqNone.eq_none_none (fz I q ∅)
  | bl j=>cases ry;exact PySem.EqNone.eq_none_bool (fz I q ∅)
  | int j=>obtain⟨t',rfl⟩:=ry;exact PySem.EqNone.eq_none_int (fz I q ∅)
  | str j=>obtain⟨t',rfl⟩:=ry;exact PySem.EqNone.eq_none_str (fz I q ∅)
  | _=>exact qK (show false=true from hs) bG
 | bl i =>
  cases rx;cases y with
  | non=>cases ry;exact PySem.EqNone.eq_bool_none (fz I q ∅)
  | bl j=>cases ry;exact eq_bool (fz I q dec_bl)
  | str j=>obtain⟨t',rfl⟩:=ry;exact PySem.EqMixed.eq_bool_str (fz I q ∅)
  | _=>exact qK (show false=true from hs) bG
 | int i =>
  obtain⟨t,rfl⟩:=rx;cases y with
  | non=>cases ry;exact PySem.EqNone.eq_int_none (fz I q ∅)
  | int j=>obtain⟨t',rfl⟩:=ry;exact eq_int (fz I q dec_int)
  | str j=>obtain⟨t',rfl⟩:=ry;exact PySem.EqMixed.eq_int_str (fz I q ∅)
  | _=>exact qK (show false=true from hs) bG
 | str i =>
  obtain⟨t,rfl⟩:=rx;cases y with
  | non=>cases ry;exact PySem.EqNone.eq_str_none (fz I q ∅)
  | bl j=>cases ry;exact PySem.EqMixed.eq_str_bool (fz I q ∅)
  | int j=>obtain⟨t',rfl⟩:=ry;exact PySem.EqMixed.eq_str_int (fz I q ∅)
  | str j=>obtain⟨t',rfl⟩:=ry;exact eq_str (fz I q dec_str)
  | _=>exact qK (show false=true from hs) bG
 | byt i =>
  obtain⟨t,rfl⟩:=rx;cases y with
  | byt j=>obtain⟨t',rfl⟩:=ry;exact PySem.W.eq_bytes (fz I q dec_byt)
  | _=>exact qK (show false=true from hs) bG
 | _=>cases y <;> exact qK (show false=true from hs) bG
theorem qh:OpR X (eR .NotEq) rNe:=by
 intro aI s σ H x y v u Q I rx ry h;obtain⟨hs,q⟩:=h;cases x with
 | non =>
  cases rx;cases y with
  | non=>cases ry;exact PySem.EqNone.ne_none_none (fz I q ∅)
  | bl j=>cases ry;exact PySem.EqNone.ne_none_bool (fz I q ∅)
  | int j=>obtain⟨t',rfl⟩:=ry;exact PySem.EqNone.ne_none_int (fz I q ∅)
  | str j=>obtain⟨t',rfl⟩:=ry;exact PySem.EqNone.ne_none_str (fz I q ∅)
  | _=>exact qK (show false=true from hs) bG
 | bl i =>
  cases rx;cases y with
  | non=>cases ry;exact PySem.EqNone.ne_bool_none (fz I q ∅)
  | bl j=>cases ry;exact ne_bool (fz I q (qO not dec_bl))
  | str j=>obtain⟨t',rfl⟩:=ry;exact PySem.EqMixed.ne_bool_str (fz I q ∅)
  | _=>exact qK (show false=true from hs) bG
 | int i =>
  obtain⟨t,rfl⟩:=rx;cases y with
  | non=>cases ry;exact PySem.EqNone.ne_int_none (fz I q ∅)
  | int j=>obtain⟨t',rfl⟩:=ry;exact ne_int (fz I q (qO not dec_int))
  | str j=>obtain⟨t',rfl⟩:=ry;exact PySem.EqMixed.ne_int_str (fz I q ∅)
  | _=>exact qK (show false=true from hs) bG
 | str i =>
  obtain⟨t,rfl⟩:=rx;cases y with
  | non=>cases ry;exact PySem.EqNone.ne_str_none (fz I q ∅)
  | bl j=>cases ry;exact PySem.EqMixed.ne_str_bool (fz I q ∅)
  | int j=>obtain⟨t',rfl⟩:=ry;exact PySem.EqMixed.ne_str_int (fz I q ∅)
  | str j=>obtain⟨t',rfl⟩:=ry;exact ne_str (fz I q (qO not dec_str))
  | _=>exact qK (show false=true from hs) bG
 | byt i =>
  obtain⟨t,rfl⟩:=rx;cases y with
  | byt j=>obtain⟨t',rfl⟩:=ry;exact PySem.W.ne_bytes (fz I q (qO not dec_byt))
  | _=>exact qK (show false=true from hs) bG
 | _=>cases y <;> exact qK (show false=true from hs) bG
theorem op_lt:OpR X (eR .Lt) (rI0 λi j=> .bl (decide (i<j))):=opB0 λ_ _ _ _ _ _ _ q=>lt_int q
theorem op_le:OpR X (eR .LtE) (rI0 λi j=> .bl (decide (i≤j))):=opB0 λ_ _ _ _ _ _ _ q=>le_int q
theorem op_gt:OpR X (eR .Gt) (rI0 λi j=> .bl (decide (j<i))):=opB0 λ_ _ _ _ _ _ _ q=>gt_int q
theorem op_ge:OpR X (eR .GtE) (rI0 λi j=> .bl (decide (j≤i))):=opB0 λ_ _ _ _ _ _ _ q=>ge_int q
theorem op_in_str:OpR X (eR .In) (λx y H Q=>∃i j,x= .str i∧y= .str j∧Q (.bl (!(cg j i 0 j.length 1).isEmpty)) H):=by
 intro aI s σ H x y v u Q I rx ry h;obtain⟨i,j,rfl,rfl,q⟩:=h;obtain⟨t,rfl⟩:=rx;obtain⟨t',rfl⟩:=ry;exact in_str (fz I q rfl)
theorem op_isN:OpR X (eR .Is) (λx y H Q=>y= .non∧Q (.bl (decide (x= .non))) H):=by
 intro aI s σ H x y v u Q I rx ry h;obtain⟨rfl,q⟩:=h;cases ry;apply is_none_gen (fz I q ?_);cases x <;> first
  | (cases rx;rfl)
  | (obtain⟨t,rfl⟩:=rx;rfl)
theorem op_notN:OpR X (eR .IsNot) (λx y H Q=>y= .non∧Q (.bl (!decide (x= .non))) H):=by
 intro aI s σ H x y v u Q I rx ry h;obtain⟨rfl,q⟩:=h;cases ry;apply isnot_none_gen (fz I q ?_);cases x <;> first
  | (cases rx;rfl)
  | (obtain⟨t,rfl⟩:=rx;rfl)
theorem cN (b:Expr)(h:autoParam (op≠ .In) L2.au1._auto_1)(h2:autoParam (op≠ .NotIn) L2.au1._auto_1):behindInMarks op b=false:=by
 have e1:(op == CmpOp.In)=false:=by cases op <;> first | rfl | exact qK rfl h
 have e2:(op == CmpOp.NotIn)=false:=by cases op <;> first | rfl | exact qK rfl h2
 cases b <;> simp[behindInMarks,e1,e2]
theorem kK {r:R2}(ho:OpR X (eR op) r)(ha:PE X a ta)(hb:PE X b tb)(hm:behindInMarks op b=false):PE X (.Compare a [op] [b] pos) (tOp r ta tb):=by
 intro aI s σ H Q I h;exact wpAny_Compare1 (binT ha hb I h λv u s2 x y H2 I2 rx ry q=>ho aI s2 σ H2 x y v u Q I2 rx ry q) hm
def tTest (t:TE):TT:=λσ H Q=>t σ H λx H'=>IsBl x λk=>Q k H'
theorem cf {r:R2}(ho:OpR X (eR op) r)(ha:PE X a ta)(hb:PE X b tb)(hm:behindInMarks op b=false):PT X (.Compare a [op] [b] pos) (tTest (tOp r ta tb)):=by
 intro aI s σ H Q I h;apply wpAny_isTrue_Compare1 (thn (ha aI s σ H _ I h) fun v s1 ⟨x,H1,I1,r1,q1⟩=>thn (hb aI s1 σ H1 _ I1 q1) fun u s2 ⟨y,H2,I2,r2,q2⟩ =>
  thn (ho aI s2 σ H2 x y v u _ I2 r1 r2 q2) fun c s3 ⟨z,H3,I3,r3,k,e,q3⟩=>?_) hm
 subst e;cases r3;exact gM ⟨H3,I3,q3⟩
def tChain (r r':R2)(ta tb tc:TE):TE:=λσ H Q=>ta σ H λx H1=>tb σ H1 λy H2=>r x y H2 λz H3=>∃k,z= .bl k ∧
 (if k=true then tc σ H3 λw' H4=>r' y w' H4 Q else Q (.bl false) H3)
theorem pe_chain {op':CmpOp}{r r':R2}(ho:OpR X (eR op) r)(ho':OpR X (eR op') r')(ha:PE X a ta)(hb:PE X b tb)(hc:PE X c tc)
  (hm:lastMarks [op,op'] [b,c]=false:=by with_unfolding_all rfl):PE X (.Compare a [op,op'] [b,c] pos) (tChain r r' ta tb tc):=by
 intro aI s σ H Q I h;apply Compare_chain (thn (ha aI s σ H _ I h) fun v s1 ⟨x,H1,I1,r1,q1⟩=>chain_link (thn (hb aI s1 σ H1 _ I1 q1) fun u s2 ⟨y,H2,I2,r2,q2⟩ =>
  thn (ho aI s2 σ H2 x y v u _ I2 r1 r2 q2) fun d s3 ⟨z,H3,I3,r3,k,e,q3⟩=>?_)) hm
 subst e;cases r3;apply gM ?_;cases k with
 | false=>exact ite_ff ⟨.bl false,H3,I3,rfl,q3⟩
 | true=>exact ite_tt (chain_last (thn (hc aI s3 σ H3 _ I3 q3) λw' s4 ⟨z',H4,I4,r4,q4⟩=>ho' aI s4 σ H4 y z' u w' Q I4 r2 r4 q4))
theorem qC:(aA:Nat)<2 ^ 63:=by rw[sizeLine_eq];decide
theorem jv:OpR X (ip .Add) (λx y H Q=>∃i j,x= .str i∧y= .str j∧i.length+j.length≤aA∧Q (.str (i++j)) H):=by
 intro aI s σ H x y v u Q I rx ry h;obtain⟨i,j,rfl,rfl,hz,q⟩:=h;obtain⟨t,rfl⟩:=rx;obtain⟨t',rfl⟩:=ry;exact add_str (λt' tk=>⟨.str (i++j),H,I.tok _,⟨ρ⟩,q⟩) hz
theorem mO {x:V}(r:gU [x] us):∃u,us=[u]∧iG x u:=by
 cases r with
 | cons r1 r2=>cases r2;exact⟨ρ,r1⟩
theorem vals2 {x:V}(r:gU [x,y] us):∃u w',us=[u,w']∧iG x u∧iG y w':=by
 cases r with
 | cons r1 r2 =>
  cases r2 with
  | cons r3 r4=>cases r4;exact⟨_,ρ,r1,r3⟩
theorem call_max2 (hc:X.calm=true):iM X (.builtin "max") (λxs H Q=>∃i j,xs=[.int i,.int j]∧Q (.int (if j > i then j else i)) H):=by
 intro aI s σ H xs us Q I r h;obtain⟨i,j,rfl,q⟩:=h;obtain⟨u,w',rfl,⟨t,rfl⟩,⟨t',rfl⟩⟩:=vals2 r;apply max_two_ints (I.ok.hd hc) λh' tk k=>⟨_,H,I.kept k,?_,q⟩
 by_cases hj:j > i
 ·rw[qJ hj,qJ hj];exact⟨ρ⟩
 ·rw[qI hj,qI hj];exact⟨ρ⟩
theorem pY (hc:X.calm=true):iM X (.builtin "min") (λxs H Q=>∃i j,xs=[.int i,.int j]∧Q (.int (if j<i then j else i)) H):=by
 intro aI s σ H xs us Q I r h;obtain⟨i,j,rfl,q⟩:=h;obtain⟨u,w',rfl,⟨t,rfl⟩,⟨t',rfl⟩⟩:=vals2 r;apply min_two_ints (I.ok.hd hc) λh' tk k=>⟨_,H,I.kept k,?_,q⟩
 by_cases hj:j<i
 ·rw[qJ hj,qJ hj];exact⟨ρ⟩
 ·rw[qI hj,qI hj];exact⟨ρ⟩
theorem nM:iM X (.type "int") (λxs H Q=>(∃i,xs=[.int i]∧Q (.int i) H)∨∃k,xs=[.bl k]∧Q (.int (if k then 1 else 0)) H):=by
 intro aI s σ H xs us Q I r h
 rcases h with ⟨i,rfl,q⟩ | ⟨k,rfl,q⟩
 ·obtain⟨u,rfl,t,rfl⟩:=mO r
  exact call_int_int ⟨.int i,H,I,⟨_,rfl⟩,q⟩
 ·obtain⟨u,rfl,r1⟩:=mO r
  cases r1;exact call_int_bool ⟨.int (if k then 1 else 0),H,I.tok _,⟨_,rfl⟩,q⟩
theorem oB:iM X (.type "str") (λxs H Q=>∃i,xs=[.int i]∧i.natAbs.log2<1920∧Q (.str (toString i)) H):=by
 intro aI s σ H xs us Q I r h;obtain⟨i,rfl,hz,q⟩:=h;obtain⟨u,rfl,t,rfl⟩:=mO r;exact PySem.P.str_of_int hz ⟨.str _,H,I.tok _,⟨_,rfl⟩,q⟩
end
structure ObjM (h:bM)(x dx C:ao)(mA:Str→Option af):Prop where
 obj:h.get? x=some (gW C dx)
 ns:h.Ns1 dx mA
 ne:dx≠x
theorem lookIn_ns (n:h.Ns1 dx mA):∃od,h.get? dx=some od∧∀name,PySem.W.lookIn name od=some (mA name):=by
 obtain⟨o,es,ep,ho,hd,hk,_,hm⟩:=n;apply⟨o,ho,λname=>?_⟩;have e:=hm name;unfold nsFind findBy at e;rw[←Array.find?_toList] at e;unfold PySem.W.lookIn;rw[hd]
 dsimp only
 split
 ·rename_i y q
  rw[q] at e;exact qO some e
 ·rename_i q
  rw[q] at e;have a:es.toList.any (·.refKey)=false:=by
   rw[List.any_eq_false];intro y hy;obtain⟨z,t,hkey⟩:=hk y (Array.mem_toList_iff.mp hy);simp[DictEntry.refKey,hkey]
  have a':¬es.toList.any (·.refKey)=true:=by rw[a];exact bG
  rw[qI a'];exact qO some e
theorem ObjM.look {x:ao}(I:ObjM h x dx C mA):∃od,PySem.W.InstAt h x (gW C dx) C (some od)∧∀name,PySem.W.lookIn name od=some (mA name) :=
 let ⟨od,ho,hl⟩:=lookIn_ns I.ns
 ⟨od,⟨I.obj,rfl,rfl,ho⟩,hl⟩
section
variable {x:ao}{v:af}
theorem get_map {expr:Bool}(X:K.In s.heap)(I:ObjM s.heap x dx C mA)(hg:iZ K C name=true)(hh:iH K C=true)
  (ha:cp K (.ref C) name=some none) (hv:mA name=some v) (hv':PySem.W.handedIn v=true) (h:Q v { s with toks:=s.toks+1 }) :
  aT (bB prog w) A (getAttr (.ref x) name expr) Q E s:=by
 obtain⟨od,J,hl⟩:=I.look;exact PySem.W.get_value X J (PySem.W.plainGet_of hg).1 (PySem.W.findObj_own hh ha rfl (by rw[hl,hv])) hv' h
theorem get_meth {pl:Sem Bool}{Q:af×List af→ar→Prop}(X:K.In s.heap)(I:ObjM s.heap x dx C mA)(hg:iZ K C name=true)
  (hf:cp K (.ref C) name=some (some (.ref f))) (ht:PySem.W.isFn K (.ref f)=true) (hv:mA name=none) (h:Q (.ref f,[.ref x]) s) :
  aT (bB prog w) A (getMethod (.ref x) name pl) Q E s:=by
 obtain⟨od,J,hl⟩:=I.look;exact PySem.W.method_fn X J (PySem.W.plainGet_of hg).1 (PySem.W.plainGet_of hg).2 hf (beq_iff_eq.mp ht) (by show(PySem.W.lookIn name od).map (·.isSome)=some false;rw[hl,hv];rfl) h
theorem set_map {Q:Unit→ar→Prop}(X:K.In s.heap)(I:ObjM s.heap x dx C mA)
  (hs:cp K (.ref C) "__setattr__" =some (some (.builtin "object.__setattr__"))) (hp:PySem.W.plainOver K C=true) (ht:PySem.W.takerIn K C name=some none) (hh:iH K C=true)
  (hw:PySem.Within mA ns) (hsz:ns.length≤aA)
  (h:∀h',ObjM h' x dx C (λy=>if y=name then some v else mA y)→cT dx s.heap h'→Q () { s with heap:=h',toks:=s.toks+2 }) :
  aT (bB prog w) A (setAttr (.ref x) name v) Q E s:=by
 obtain⟨od,J,hl⟩:=I.look;apply PySem.W.set_plain X J hs (PySem.W.osa_open (s:={ s with toks:=s.toks+1 }) (r:=none) X J hp ht λb=>?_);obtain⟨cd,hc,hd'⟩:=PySem.W.any_some hh;have hx:s.heap.get? x=some ⟨.ref C,some dx,.plain,#[]⟩:=I.obj;apply ak (aN (ak (ak (wpAny_loadPart hx (ak (PySem.W.Looks.here (s:={ s with toks:=s.toks+1 }) (PySem.W.looks_clsIn X hc) ?_))))));rw[hd'];apply aN (a:=some dx) (ak (aN (ak ?_)));apply wpAny_nsSet1 (s:={ s with toks:=s.toks+1 }) I.ns λh' hn2 hs2=>?_
 obtain⟨oD,esD,epD,hoD,hdD,hcD⟩:=hn2.count (PySem.Within.cons name v hw);apply ak (wpAny_lookBehind hoD (by rw[hdD];exact pastItsLine_dict (cu hcD (by rw[az];lia))) ?_);exact aN (h _ ⟨(hs2.2 _ (cY I.ne)).trans I.obj,hn2,I.ne⟩ hs2)
theorem make_map (X:K.In s.heap)(hm:PySem.W.makesIn K C=true)
  (hi:cp K (.ref C) "__init__" =some (some (.ref f))) (hf:PySem.W.typeIn K (.ref f)=some (.type "function"))
  (h:codeAny (bB prog w) (A.under (.builtin "type.__call__" ⟨.ref C::vs,kw⟩)) (.call (.ref f) ⟨.ref (s.heap.objs.size+1)::vs,kw⟩) (PySem.W.InitBack (s.heap.objs.size+1) R)
   {s with heap:=(s.heap.push fu).push (gW C s.heap.objs.size) }) :
  codeAny (bB prog w) A (.call (.ref C) ⟨vs,kw⟩) R s:=by
 obtain⟨hh,g,d,t,os⟩:=s;exact PySem.W.make_core (PySem.W.makes_of X hm) (PySem.W.looks_findIn X hi) (λself=>PySem.W.bind_fn X self hf) (.inl rfl) h
end
def putF (f:Str)(v:V):List (Str×V)→List (Str×V)
 | []=>[(f,v)]
 | (g,x)::r=>if g=f then (g,v)::r else (g,x)::putF f v r
theorem pI (f g:Str)(v:V):∀fs:List (Str×V),(putF f v fs).lookup g=if g=f then some v else fs.lookup g
 | []=>by
  show gr g [(f,v)]=_
  by_cases h:g=f
  ·have hb:(g == f)=true:=beq_iff_eq.mpr h
   simp only[gr,hb,qJ h]
  ·have hb:(g == f)=false:=beq_eq_false_iff_ne.mpr h
   simp only[gr,hb,qI h]
 | (k,x)::r=>by
  have ih:=pI f g v r;rw[show putF f v ((k,x)::r)=(if k=f then (k,v)::r else (k,x)::putF f v r) from rfl]
  by_cases hk:k=f
  ·rw[qJ hk]
   by_cases h:g=k
   ·have hb:(g == k)=true:=beq_iff_eq.mpr h
    simp only[gr,hb,qJ (h.trans hk)]
   ·have hb:(g == k)=false:=beq_eq_false_iff_ne.mpr h
    simp only[gr,hb,qI (λe:g=f=>h (e.trans hk.symm))]
  ·rw[qI hk]
   by_cases h:g=k
   ·have hb:(g == k)=true:=beq_iff_eq.mpr h
    simp only[gr,hb,qI (λe:g=f=>hk (h.symm.trans e))]
   ·have hb:(g == k)=false:=beq_eq_false_iff_ne.mpr h
    simp only[gr,hb];exact ih
theorem pM (f:Str)(v:V):∀fs:List (Str×V),f∈(putF f v fs).map (·.1)∧∀g,g∈fs.map (·.1)→g∈(putF f v fs).map (·.1)
 | []=>⟨by simp[putF],λg h=>by simp at h⟩
 | (k,x)::r=>by
  obtain⟨i1,i2⟩:=pM f v r;rw[show putF f v ((k,x)::r)=(if k=f then (k,v)::r else (k,x)::putF f v r) from rfl]
  by_cases hk:k=f
  ·rw[qJ hk]
   subst hk;exact⟨∅,λg h=>by simpa using h⟩
  ·rw[qI hk]
   apply⟨?_,λg h=>?_⟩
   ·rw[bw]
    exact aH _ i1
   ·rw[bw] at h ⊢
    rcases aw.mp h with e | e
    ·exact aw.mpr (.inl e)
    ·exact aH _ (i2 g e)
theorem pL (f:Str)(v:V):∀fs:List (Str×V),(putF f v fs).length≤fs.length+1
 | []=>by simp[putF]
 | (k,x)::r=>by
  have ih:=pL f v r;rw[show putF f v ((k,x)::r)=(if k=f then (k,v)::r else (k,x)::putF f v r) from rfl]
  by_cases hk:k=f
  ·rw[qJ hk,az,az];lia
  ·rw[qI hk,az,az];lia
theorem RelO.some_of {o:Option af}(r:RelO (some v) o):∃u,o=some u∧iG v u:=by
 cases o with
 | none=>exact(show False from r).elim
 | some u=>exact⟨u,rfl,r⟩
theorem RelO.none_of {o:Option af}(r:RelO none o):o=none:=by
 cases o with
 | none=>rfl
 | some u=>exact(show False from r).elim
theorem handed_of (r:iG v u):PySem.W.handedIn u=true:=by
 cases v with
 | non=>cases(show u=af.none from r);rfl
 | bl b=>cases(show u=af.bool b from r);rfl
 | int i=>obtain⟨t,e⟩:=(show ∃t,u=af.int i t from r);cases e;rfl
 | str x=>obtain⟨t,e⟩:=(show ∃t,u=af.str x t from r);cases e;rfl
 | byt b=>obtain⟨t,e⟩:=(show ∃t,u=af.bytes b t from r);cases e;rfl
 | flt b=>obtain⟨t,e⟩:=(show ∃t,u=af.float b t from r);cases e;rfl
 | ref a=>cases(show u=af.ref a from r);rfl
 | ty n=>cases(show u=af.type n from r);rfl
section
variable {fs fs':List (Str×V)}
theorem ins_get (hok:HOk P w H h)(e:H a=some (.ins C dx fs)):∃mA,ObjM h a dx C mA∧(∀f,RelO (fs.lookup f) (mA f))∧PySem.Within mA (fs.map (·.1))∧fs.length≤1000∧H dx=some (.own a):=by
 obtain⟨d,z,ne,ob,mA,n,r,q⟩:=(show iu P w H h a (.ins C dx fs) from hok a _ e);exact⟨mA,⟨ob,n,ne⟩,r,q,z,d⟩
end
structure Cls (K:aj)(C:ao):Prop where
 pg:iZ K C c9=true
 hd:iH K C=true
 po:PySem.W.plainOver K C=true
 sa:cp K (.ref C) "__setattr__" =some (some (.builtin "object.__setattr__"))
theorem Cls.get (c:Cls K C)(f:Str):iZ K C f=true:=c.pg
def k8 (K:aj)(C:ao)(f:Str):Prop:=cp K (.ref C) f=some none
theorem k8.taker {f:Str}(n:k8 K C f):PySem.W.takerIn K C f=some none:=by
 unfold PySem.W.takerIn;rw[show cp K (.ref C) f=some none from n];rfl
structure qH (K:aj)(C:ao)(m:Str)(f:ao):Prop where
 at_:cp K (.ref C) m=some (some (.ref f))
 fn:PySem.W.isFn K (.ref f)=true
 kp:eS K (.ref f)=true
section
variable {fs:List (Str×V)}{f:Str}
theorem getattr_ok {b:Bool}(I:Inv X aI σ H s)(e:H a=some (.ins C dx fs))(c:Cls X.K C)(n:k8 X.K C f)(l:fs.lookup f=some v)
  (h:∀u s',Inv X aI σ H s'→iG v u→Q u s'):aT (bB X.prog X.w) A (getAttr (.ref a) f b) Q E s:=by
 obtain⟨mA,O,r,_,_,_⟩:=ins_get I.hok e;obtain⟨u,hu,ru⟩:=RelO.some_of (v:=v) (o:=mA f) (by rw[←l];exact r f);exact get_map I.kIn O (c.get f) c.hd n hu (handed_of ru) (h u _ (I.tok _) ru)
theorem qF {m:Str}{g:ao}{pl:Sem Bool}{Q:af×List af→ar→Prop}(I:Inv X aI σ H s)(e:H a=some (.ins C dx fs))(c:Cls X.K C)(k:qH X.K C m g)(l:fs.lookup m=none)
  (h:Q (.ref g,[.ref a]) s):aT (bB X.prog X.w) A (getMethod (.ref a) m pl) Q E s:=by
 obtain⟨mA,O,r,_,_,_⟩:=ins_get I.hok e;have hn:mA m=none:=RelO.none_of (by rw[←l];exact r m);exact get_meth I.kIn O (c.get m) k.at_ k.fn hn h
theorem setattr_ok {Q:Unit→ar→Prop}(I:Inv X aI σ H s)(e:H a=some (.ins C dx fs))(c:Cls X.K C)(n:k8 X.K C f)(hl:fs.length<1000)(ry:iG y u)
  (h:∀s',Inv X aI σ (upd H a (.ins C dx (putF f y fs))) s'→Q () s'):aT (bB X.prog X.w) A (setAttr (.ref a) f u) Q E s:=by
 obtain⟨mA,O,r,wi,_,ho⟩:=ins_get I.hok e;have hz:(fs.map (·.1)).length≤aA:=by rw[ae,sizeLine_eq];lia
 apply set_map I.kIn O c.sa c.po n.taker c.hd wi hz λh' O' sb=>h _ ?_
 have hd:∃o,h'.get? dx=some o:=let ⟨o,_,_,e',_⟩:=O'.ns;⟨o,e'⟩;apply I.write (x:=a) (e:=dx) (by rw[e];exact True.intro) (.inr ho) (λb q hb z=>(sb.2 b hb).trans z) hd ?_;apply⟨by rw[bo O.ne];exact ho,?_,O.ne,O'.obj,_,O'.ns,λg=>?_,λg hg=>?_⟩
 ·have:=pL f y fs;lia
 ·show RelO ((putF f y fs).lookup g) (if g=f then some u else mA g)
  rw[pI]
  by_cases q:g=f
  ·rw[qJ q,qJ q];exact ry
  ·rw[qI q,qI q];exact r g
 ·by_cases q:g=f
  ·rw[q];exact(pM f y fs).1
  ·apply(pM f y fs).2 g (wi g λz=>hg ?_)
   show(if g=f then some u else mA g)=none;rw[qI q];exact z
theorem Inv.made (I:Inv X aI σ H s):Inv X aI σ (upd (upd H s.heap.objs.size (.own (s.heap.objs.size+1))) (s.heap.objs.size+1) (.ins C s.heap.objs.size []))
  {s with heap:=(s.heap.push fu).push (gW C s.heap.objs.size) }:=by
 have e1:(s.heap.push fu).get? s.heap.objs.size=some fu:=aQ s.heap rfl;have e2:((s.heap.push fu).push (gW C s.heap.objs.size)).get? (s.heap.objs.size+1)=some (gW C s.heap.objs.size):=by
  have:=aQ (s.heap.push fu) (o:=gW C s.heap.objs.size) rfl
  rwa [dJ] at this
 have e3:(s.heap.push fu).Ns s.heap.objs.size (λ_=>none):=⟨fu,#[],_,e1,rfl,(λe he=>qK he ∅),λ_=>rfl⟩;have I1:=I.laid (a:=s.heap.objs.size) (o:= .own (s.heap.objs.size+1)) (h':=s.heap.push fu) (t':=s.toks) (λb u q=>av _ q) (aD _) ⟨_,e1⟩;apply I1.laid (a:=s.heap.objs.size+1) (o:= .ins C s.heap.objs.size []) (t':=s.toks) (λb u q=>av _ q) (Nat.le_of_eq (dJ _ _)) ?_;have ne:s.heap.objs.size≠s.heap.objs.size+1:=cJ (Nat.lt_succ_self _);apply⟨by rw[bo ne,aR],dG _,ne,e2,λ_=>none,(bM.Ns1.of_empty e3).at λo q=>av _ q,λ_=>True.intro,λy hy=>qK rfl hy⟩
theorem attr_of {f:Str}(hb:i9 e f env (dU e env)=dU e env)
  (h:aT (bB prog w) A (dU e env) (λo s₁=>aT (bB prog w) A (getAttr o f true) Q E s₁) E s):aT (bB prog w) A (dU (.Attribute e f pos) env) Q E s :=
 Attribute_any_ h (by rw[arm_eval_Attribute,hb])
end
def tFld (K:aj)(ta:TE)(f:Str):TE:=λσ H Q=>ta σ H λx H1=>∃a C dx fs v,x= .ref a∧H1 a=some (.ins C dx fs)∧Cls K C∧k8 K C f∧fs.lookup f=some v∧Q v H1
def sFld (K:aj)(ta tv:TE)(f:Str):TS:=λD σ H=>tv σ H λy H1=>ta σ H1 λx H2=>∃a C dx fs,x= .ref a∧H2 a=some (.ins C dx fs)∧Cls K C∧k8 K C f∧fs.length<1000 ∧
 D.nx σ (upd H2 a (.ins C dx (putF f y fs)))
section
variable {o:Expr}{f:Str}{tpos:Pos}{tv:TE}
theorem fO (he:PE X e ta)(hb:i9 e f X.env (dU e X.env)=dU e X.env):PE X (.Attribute e f pos) (tFld X.K ta f):=by
 intro aI s σ H Q I h;apply attr_of hb (thn (he aI s σ H _ I h) λu s1 hz0=>?_);obtain⟨x,H1,I1,rx,a,C,dx,fs,v,ex,ea,c,n,l,q⟩:=hz0;subst ex;obtain rfl:u=af.ref a:=rx;exact getattr_ok I1 ea c n l λu' s2 I2 ru=>⟨v,H1,I2,ru,q⟩
theorem oq (ha:PE X o ta)(hv:PE X value tv)(hs:kO value (some (.Attribute o f pos')) pos.line X.env=hW false):PS X (.Assign [.Attribute o f pos'] value pos) (sFld X.K ta tv f):=by
 intro aI s σ H D I h;apply plainObj_wpAny_Assign_Attribute (thn (hv aI s σ H _ I h) λu s1 ⟨y,H1,I1,ry,q⟩=>thn (ha aI s1 σ H1 _ I1 q) λov s2 hz0=>?_) hs;obtain⟨x,H2,I2,rx,a,C,dx,fs,ex,ea,c,n,l,q2⟩:=hz0;subst ex;obtain rfl:ov=af.ref a:=rx;exact setattr_ok I2 ea c n l ry λs3 I3=>⟨σ,_,I3,q2⟩
end
section
variable {c:af}{b:Bool}
inductive TyOf (K:aj)(H:Hp):V→af→Prop where
 | non:TyOf K H .non (.type "NoneType")
 | bl (x:Bool):TyOf K H (.bl x) (.type "bool")
 | int (i:Int):TyOf K H (.int i) (.type "int")
 | str (x:Str):TyOf K H (.str x) (.type "str")
 | flt (x:UInt64):TyOf K H (.flt x) (.type "float")
 | lst {a:ao} {xs:List V} (e:H a=some (.lst xs)):TyOf K H (.ref a) (.type "list")
 | frz {a:ao} {o:Obj} {xs:List V} (e:H a=some (.frz o (.lst xs))):TyOf K H (.ref a) (.type "list")
 | tup {a:ao} {xs:List V} (e:H a=some (.tup xs)):TyOf K H (.ref a) (.type "tuple")
 | dK {a:ao} {kvs:List (Key×V)} (e:H a=some (.dK kvs)):TyOf K H (.ref a) (.type "dict")
 | dT {a:ao} {kvs:List (List Key×V)} (e:H a=some (.dT kvs)):TyOf K H (.ref a) (.type "dict")
 | ins {a C dx:ao} {fs:List (Str×V)} (e:H a=some (.ins C dx fs)) (cl:Cls K C) (ha:cp K (.ref C) "__class__" =some (some (.builtin "object.__class__")))
   (hn:PySem.W.specialIn K (.builtin "object.__class__") "__get__" =some (some (.builtin "getset_descriptor.__get__"))) (htk:PySem.W.takesIn K (.builtin "object.__class__")=some true)
   (hm:kh K C (.type "object")=some true):TyOf K H (.ref a) (.ref C)
theorem isinst_ok {x:V}{t:af}(I:Inv X aI σ H s)(rx:iG x u)(ty:TyOf X.K H x t)(e:cn X.K t c=some b)(h:∀tk,Q (.bool b) { s with toks:=tk }) :
  aT (bB X.prog X.w) A (call (.builtin "isinstance") [u,c]) Q E s:=by
 cases ty with
 | non=>cases(show u=af.none from rx);exact eU PySem.W.kitx_none I.kIn True.intro e (λz=>nomatch z) h
 | bl y=>cases(show u=af.bool y from rx);exact eU PySem.W.kitx_bool I.kIn True.intro e (λz=>nomatch z) h
 | int i=>obtain⟨t,q⟩:=(show ∃t,u=af.int i t from rx);cases q;exact eU PySem.W.kitx_int I.kIn True.intro e (λz=>nomatch z) h
 | str y=>obtain⟨t,q⟩:=(show ∃t,u=af.str y t from rx);cases q;exact eU PySem.W.kitx_str I.kIn True.intro e (λz=>nomatch z) h
 | flt y=>obtain⟨t,q⟩:=(show ∃t,u=af.float y t from rx);cases q;exact eU PySem.W.kitx_float I.kIn True.intro e (λz=>nomatch z) h
 | @lst a xs ea =>
  cases(show u=af.ref a from rx);obtain⟨_,_,n,_,h1⟩:=(show iu X.prog X.w H s.heap a (.lst xs) from I.hok a _ ea);exact eU PySem.W.kitx_list I.kIn ⟨_,h1,rfl⟩ e (λz=>nomatch z) h
 | @frz a ob xs ea =>
  cases(show u=af.ref a from rx);obtain⟨_,_,_,n,_,h1⟩:=(show iu X.prog X.w H s.heap a (.frz ob (.lst xs)) from I.hok a _ ea);exact eU PySem.W.kitx_list I.kIn ⟨_,h1,rfl⟩ e (λz=>nomatch z) h
 | @tup a xs ea =>
  cases(show u=af.ref a from rx);obtain⟨_,_,_,p⟩:=(show iu X.prog X.w H s.heap a (.tup xs) from I.hok a _ ea);obtain⟨o,h1,h2,_⟩:=p;exact eU PySem.W.kitx_tuple I.kIn ⟨o,h1,h2⟩ e (λz=>nomatch z) h
 | @dK a kvs ea =>
  cases(show u=af.ref a from rx);obtain⟨_,_,vs,_,p⟩:=(show iu X.prog X.w H s.heap a (.dK kvs) from I.hok a _ ea);obtain⟨o,es,ep,h1,h2,_⟩:=p;exact eU PySem.W.kitx_dict I.kIn ⟨o,h1,h2.1⟩ e (λz=>nomatch z) h
 | @dT a kvs ea =>
  cases(show u=af.ref a from rx);obtain⟨_,_,xs,_,o,es,ep,h1,h2,_⟩:=(show iu X.prog X.w H s.heap a (.dT kvs) from I.hok a _ ea);exact eU PySem.W.kitx_dict I.kIn ⟨o,h1,h2.1⟩ e (λz=>nomatch z) h
 | @ins a C dx fs ea cl ha hn htk hm =>
  cases(show u=af.ref a from rx);obtain⟨mA,O,_⟩:=ins_get I.hok ea;obtain⟨od,J,_⟩:=O.look;exact eU (PySem.W.kitx_own (cl.get _) cl.hd ha hn htk hm) I.kIn J e (λz=>nomatch z) h
end
structure ke (k:Nat)(A:cq):Prop where
 hd:A.handled=none
 dp:A.depth+3 * k+5<recursionLimit
 un:A.units+16 * k+200<cLine
theorem ke.mono (r:ke k A)(h:j≤k):ke j A:=⟨r.hd,by have:=r.dp;lia,by have:=r.un;lia⟩
theorem ke.deeper (r:ke (k+1) A)(env:Env):ke k (A.deeper env) :=
 ⟨r.hd,by have:=r.dp;show A.depth+1+3 * k+5<_;lia,by have:=r.un;show A.units+3+16 * k+200<_;lia⟩
theorem make_depth:(A.under (.builtin "type.__call__" ⟨.ref C::us,kw⟩)).depth=A.depth+1:=by
 first | rfl | simp[cq.under,Code.weight,Code.isCreation,Code.isGuard,Code.isCaller,Code.frames,Code.isFrame,guardIds]
theorem make_units:(A.under (.builtin "type.__call__" ⟨.ref C::us,kw⟩)).units=A.units+1:=by
 first | rfl | simp[cq.under,Code.cUnits,Code.frames,Code.isFrame]
theorem ke.make (r:ke (k+1) A)(C:ao)(us:List af)(kw:List (Str×af)):ke k (A.under (.builtin "type.__call__" ⟨.ref C::us,kw⟩)) :=
 ⟨r.hd,by have:=r.dp;rw[make_depth];lia,by have:=r.un;rw[make_units];lia⟩
theorem ke.depth (r:ke k A):A.depth<recursionLimit:=by have:=r.dp;lia
theorem ke.units (r:ke k A):A.units+64<cLine:=by have:=r.un;lia
theorem ke.units0 (r:ke k A):A.units<cLine:=by have:=r.un;lia
def tNil:TA:=λ_ H Q=>Q [] H
def oY (ta:TE)(tr:TA):TA:=λσ H Q=>ta σ H λx H1=>tr σ H1 λxs H2=>Q (x::xs) H2
theorem ay:PA X [] tNil:=λ_ _ _ _ H Q I h=>jW ⟨[],H,I,.nil,h⟩
theorem ah (ha:PE X e te)(hr:PA X es t)(hs:autoParam (br (e::es) X.env=(false,dU e X.env)::br es X.env) L2.au0._auto_1):PA X (e::es) (oY te t):=by
 intro pos aI s σ H Q I h;rw[hs];show aT _ _ (spliced ((false,dU e X.env)::gG pos (br es X.env))) _ _ s;apply gd (thn (ha aI s σ H _ I h) λu s1 hz0=>?_);obtain⟨x,H1,I1,r1,q1⟩:=hz0;exact thn (hr pos aI s1 σ H1 _ I1 q1) λus s2 ⟨xs,H2,I2,r2,q2⟩=>⟨x::xs,H2,I2,.cons r1 r2,q2⟩
def tTup (t:TA):TE:=λσ H Q=>t σ H λxs H1=>xs.length≤aA∧∀p,H1 p=none→Q (.ref p) (upd H1 p (.tup xs))
def tLst (t:TA):TE:=λσ H Q=>t σ H λxs H1=>xs.length≤aA∧∀p,H1 p=none→Q (.ref p) (upd H1 p (.lst xs))
theorem pe_tup {x1}(h:PA X es t):PE X (.Tuple es x1 pos) (tTup t):=by
 intro aI s σ H Q I hq;apply wpAny_Tuple_spliced (thn (h pos aI s σ H _ I hq) λus s1 ⟨xs,H1,I1,r,z,q⟩=>⟨by rw[←r.length];exact z,?_⟩);have hf:H1 s1.heap.objs.size=none:=I1.hok.fresh (aD _);apply⟨.ref s1.heap.objs.size,upd H1 s1.heap.objs.size (.tup xs),I1.laid (t':=s1.toks) (λb u e=>av _ e) (aD _) ?_,rfl,q _ hf⟩;exact⟨z,us,r,⟨_,aQ _ rfl,rfl,rfl,ρ⟩⟩
theorem kY (h:PA X es t):PE X (.List es pos) (tLst t):=by
 intro aI s σ H Q I hq;apply wpAny_List_spliced (thn (h pos aI s σ H _ I hq) λus s1 ⟨xs,H1,I1,r,z,q⟩=>⟨by rw[←r.length];exact z,?_⟩);have hf:H1 s1.heap.objs.size=none:=I1.hok.fresh (aD _);apply⟨.ref s1.heap.objs.size,upd H1 s1.heap.objs.size (.lst xs),I1.laid (t':=s1.toks) (λb u e=>av _ e) (aD _) ?_,rfl,q _ hf⟩;exact⟨z,us,0,r,aQ _ rfl⟩
abbrev Sp:=List V→Hp→VK→XK→Prop
abbrev CXT:=List Env→Hp→ar→XK→af→ar→Prop
structure Env0 (P:aK)(w:bc)(K:aj)(mg:Str→Option af)(base:bM)(A:cq)(outer:List Env)(s:ar)(H:Hp):Prop where
 frames:A.frames=some outer
 mod:Mod K mg base
 bs:∀b o,base.get? b=some o→s.heap.get? b=some o∧H b=none
 bsz:base.objs.size≤s.heap.objs.size
 funs:s.heap.FunFrames base outer
 frf:∀b∈frs outer,H b=none
 hok:HOk P w H s.heap
 bare:AllBare s.gens
def CE (outer:List Env)(P:aK)(w:bc)(H:Hp)(s:ar)(Q:VK)(u:af)(s':ar):Prop :=
 ∃v H',s'.os=s.os∧AllBare s'.gens∧Un (frs outer) [] H H' s.heap s'.heap∧HOk P w H' s'.heap∧iG v u∧Q v H'
def CR (CX:CXT)(outer:List Env)(P:aK)(w:bc)(H:Hp)(s:ar)(Q:VK)(E:XK)(r:Result)(s':ar):Prop :=
 match r with
 | .ok (.ret u)=>CE outer P w H s Q u s'
 | .ok _=>False
 | .error e=>CX outer H s E e s'
structure dz (P:aK)(w:bc)(K:aj)(mg:Str→Option af)(base:bM)(CX:CXT)(k:Nat)(f:ao)(fd:aU)(ps:List Str)(sp:Sp):Prop where
 len:∀vs H Q E,sp vs H Q E→vs.length=ps.length
 run:∀(A:cq) (outer:List Env) (s:ar) (H:Hp) (args:Args) (us:List af) (vs:List V) (Q:VK) (E:XK),ke k A→Env0 P w K mg base A outer s H→BindsTo s fd args (ps.zip us)→gU vs us→sp vs H Q E →
  codeAny (bB P w) A (.call (.ref f) args) (CR CX outer P w H s Q E) s
theorem Env0.make (e:Env0 P w K mg base A outer s H)(C:ao)(us:List af)(kw:List (Str×af)) :
  Env0 P w K mg base (A.under (.builtin "type.__call__" ⟨.ref C::us,kw⟩)) outer s H:=⟨by first | exact e.frames | (simpa [cq.under,Code.envs,Code.isFrame,pushEnvs] using e.frames),e.mod,e.bs,e.bsz,e.funs,e.frf,e.hok,e.bare⟩
theorem Inv.env0 (I:Inv X aI σ H s):Env0 X.prog X.w X.K X.mg X.base X.A X.stack s H :=
 ⟨I.ok.frames,I.ok.mod,I.bs,cu I.ok.bsz I.sz,I.stack,I.stkFree,I.hok,I.bare⟩
theorem Inv.after {Q:VK}(I:Inv X aI σ H s)(h:CE X.stack X.prog X.w H s Q u s'):EP X aI σ Q u s':=by
 obtain⟨v,H',os,bare,un,hok,r,q⟩:=h;obtain⟨hh,g,d,t,os'⟩:=s';obtain rfl:os'=s.os:=os;exact⟨v,H',I.call (h':=hh) (g':=g) (d':=d) (t':=t) (ch:=[]) un hok bare (λb z=>qK z ∅),r,q⟩
def tCall (sp:Sp)(dvs:List V)(E:XK)(t:TA):TE:=λσ H Q=>t σ H λvs H1=>sp (vs++dvs) H1 Q E
def tMeth (C:ao)(m:Str)(sp:Sp)(dvs:List V)(E:XK)(ta:TE)(t:TA):TE:=λσ H Q=>ta σ H λx H1=>∃a dx fs,x= .ref a∧H1 a=some (.ins C dx fs)∧fs.lookup m=none ∧
 t σ H1 λvs H2=>sp (x::(vs++dvs)) H2 Q E
def tMake (C:ao)(sp:Sp)(dvs:List V)(E:XK)(t:TA):TE:=λσ H Q=>t σ H λvs H1=>∀x dx,H1 x=none→H1 dx=none→dx≠x →
 sp (.ref x::(vs++dvs)) (upd (upd H1 dx (.own x)) x (.ins C dx [])) (λv H2=>v= .non∧Q (.ref x) H2) E
def Binds (K:aj)(fd:aU)(ps:List Str)(ds:List af):Prop :=
 ∀(s:ar) (us:List af),K.In s.heap→(us++ds).length=ps.length→BindsTo s fd ⟨us,[]⟩ (ps.zip (us++ds))
theorem Binds.all (h:∀us:List af,us.length=ps.length→bindArgs fd ⟨us,[]⟩=hW (ps.zip us)):Binds K fd ps []:=λs us _ hl=>by
 rw[eY] at hl ⊢;exact .of_eq (h us hl)
def jQ (CX:CXT)(X:Cx)(E:XK):Prop:=∀(aI:List (ao×Obj)) (σ:St) (H:Hp) (s:ar) (e:af) (s':ar),Inv X aI σ H s→CX X.stack H s E e s'→X.xe e s'
section
variable {CX:CXT}{sp:Sp}{E:XK}{m:Str}{p:Pos}{o:Expr}
theorem run_fn {Q:VK}{vs:List V}(F:dz X.prog X.w X.K X.mg X.base CX k f fd ps sp)(hr:ke k X.A)(hb:Binds X.K fd ps ds)(hd:gU dvs ds)(hx:jQ CX X E)
  (I:Inv X aI σ H s) (r:gU vs us) (h:sp (vs++dvs) H Q E):aT (bB X.prog X.w) X.A (call (.ref f) us) (EP X aI σ Q) X.xe s:=by
 have r2:gU (vs++dvs) (us++ds):=r.append hd;have hl:(us++ds).length=ps.length:=by rw[←r2.length];exact F.len _ _ _ _ h
 apply wpAny_call (kA (F.run X.A X.stack s H ⟨us,[]⟩ (us++ds) (vs++dvs) Q E hr I.env0 (hb s us I.kIn hl) r2 h) λr s' hq=>?_);cases r with
 | error e=>exact hx aI σ H s e s' I hq
 | ok fl =>
  cases fl with
  | ret u=>exact I.after hq
  | next=>exact eZ hq
  | brk=>exact eZ hq
  | cont=>exact eZ hq
theorem pe_call (F:dz X.prog X.w X.K X.mg X.base CX k f fd ps sp)(hr:ke k X.A)(hg:Gl X x)(hm:X.mg x=some (.ref f))(hk:eS X.K (.ref f)=true)(hb:Binds X.K fd ps ds)(hd:gU dvs ds)(hx:jQ CX X E)
  (ha:PA X (e::es) t) (hdb:autoParam ((x == ("__debug__" :Str))=false) L2.au1._auto_1) (he:autoParam (br (e::es) X.env=(false,dU e X.env)::br es X.env) L2.au0._auto_1) (hpl:autoParam ((gG pos (br es X.env)).any (·.1)=false) L2.au0._auto_1) :
  PE X (.Call (.Name x p) (e::es) [] pos) (tCall sp dvs E t):=by
 intro aI s σ H Q I h;apply iT (mV I hg hm ?_ hdb);apply kU (h₀:=X.base) I.ok.mod.kin hk (thn (ha pos aI s σ H _ I h) λus s1 hz0=>?_) he hpl;obtain⟨vs,H1,I1,r,q⟩:=hz0;apply⟨I1.kIn,?_⟩;exact run_fn F hr hb hd hx I1 r q
theorem pe_call0 (F:dz X.prog X.w X.K X.mg X.base CX k f fd ps sp)(hr:ke k X.A)(hg:Gl X x)(hm:X.mg x=some (.ref f))(hk:eS X.K (.ref f)=true)(hb:Binds X.K fd ps ds)(hd:gU dvs ds)(hx:jQ CX X E)
  (hdb:autoParam ((x == ("__debug__" :Str))=false) L2.au1._auto_1):PE X (.Call (.Name x p) [] [] pos) (tCall sp dvs E tNil):=by
 intro aI s σ H Q I h;apply iT (mV I hg hm ?_ hdb);exact PySem.W.callWith_K0 I.kIn hk (run_fn (us:=[]) F hr hb hd hx I .nil h)
theorem ig {pl:Sem Bool}(he:PE X o ta)(c:Cls X.K C)(hm:qH X.K C m f)(F:dz X.prog X.w X.K X.mg X.base CX k f fd ps sp)(hr:ke k X.A)(hb:Binds X.K fd ps ds)(hd:gU dvs ds)(hx:jQ CX X E)(ha:PA X (e::es) t)
  (hst:autoParam (br (e::es) X.env=(false,dU e X.env)::br es X.env) L2.au0._auto_1) (hpl:autoParam ((gG pos (br es X.env)).any (·.1)=false) L2.au0._auto_1)
  (ht:autoParam (dU (.Call (.Attribute o m apos) (e::es) [] pos) X.env=(do
   let ov ← dU o X.env
   standAt apos.atName
   let (f,first) ← holding [ov] (getMethod ov m pl)
   callWith pos f first (gG pos (br (e::es) X.env)) (backToKw pos (lp [] X.env)))) L2.au0._auto_1) :
  PE X (.Call (.Attribute o m apos) (e::es) [] pos) (tMeth C m sp dvs E ta t):=by
 intro aI s σ H Q I h;apply PySem.W.methodCall_KW (pl:=pl) (thn (he aI s σ H _ I h) λu s1 hz0=>?_) ht;obtain⟨x,H1,I1,rx,a,dx,fs,ex,ea,l,q⟩:=hz0;subst ex;obtain rfl:u=af.ref a:=rx;apply qF I1 ea c hm l ?_;apply kU (first:=[.ref a]) (h₀:=X.base) I.ok.mod.kin hm.kp (thn (ha pos aI s1 σ H1 _ I1 q) λus s2 hz0=>?_) hst hpl;obtain⟨vs,H2,I2,r,q2⟩:=hz0;apply⟨I2.kIn,?_⟩;exact run_fn (us:= .ref a::us) (vs:= .ref a::vs) F hr hb hd hx I2 (.cons rfl r) q2
theorem jn {pl:Sem Bool}(he:PE X o ta)(c:Cls X.K C)(hm:qH X.K C m f)(F:dz X.prog X.w X.K X.mg X.base CX k f fd ps sp)(hr:ke k X.A)(hb:Binds X.K fd ps ds)(hd:gU dvs ds)(hx:jQ CX X E)
  (ht:autoParam (dU (.Call (.Attribute o m apos) [] [] pos) X.env=(do
   let ov ← dU o X.env
   standAt apos.atName
   let (f,first) ← holding [ov] (getMethod ov m pl)
   callWith pos f first (gG pos (br [] X.env)) (backToKw pos (lp [] X.env)))) L2.au0._auto_1) :
  PE X (.Call (.Attribute o m apos) [] [] pos) (tMeth C m sp dvs E ta tNil):=by
 intro aI s σ H Q I h;apply PySem.W.methodCall_KW (pl:=pl) (thn (he aI s σ H _ I h) λu s1 hz0=>?_) ht;obtain⟨x,H1,I1,rx,a,dx,fs,ex,ea,l,q⟩:=hz0;subst ex;obtain rfl:u=af.ref a:=rx;apply qF I1 ea c hm l ?_;exact PySem.W.callWith_K0 (first:=[.ref a]) I1.kIn hm.kp (run_fn (us:=[.ref a]) (vs:=[.ref a]) F hr hb hd hx I1 (.cons rfl .nil) q)
structure Mk (K:aj)(C f:ao):Prop where
 makes:PySem.W.makesIn K C=true
 init:cp K (.ref C) "__init__" =some (some (.ref f))
 fn:PySem.W.isFn K (.ref f)=true
 kp:eS K (.ref C)=true
theorem run_make {Q:VK}{vs:List V}(M:Mk X.K C f)(F:dz X.prog X.w X.K X.mg X.base CX k f fd ps sp)(hr:ke (k+1) X.A)(hb:Binds X.K fd ps ds)(hd:gU dvs ds)
  (hx:jQ CX X E) (I:Inv X aI σ H s) (r:gU vs us)
  (h:∀x dx,H x=none→H dx=none→dx≠x→sp (.ref x::(vs++dvs)) (upd (upd H dx (.own x)) x (.ins C dx [])) (λv H2=>v= .non∧Q (.ref x) H2) E) :
  aT (bB X.prog X.w) X.A (call (.ref C) us) (EP X aI σ Q) X.xe s:=by
 have hq:=h (s.heap.objs.size+1) s.heap.objs.size (I.hok.fresh (jR _)) (I.hok.fresh (aD _)) (cJ (Nat.lt_succ_self _));have I2:=Inv.made (C:=C) I;have r2:gU (V.ref (s.heap.objs.size+1)::(vs++dvs)) (af.ref (s.heap.objs.size+1)::(us++ds)):= .cons rfl (r.append hd);have hl:(af.ref (s.heap.objs.size+1)::us++ds).length=ps.length:=by
  have e:=r2.length;rw[F.len _ _ _ _ hq] at e;exact e.symm
 apply wpAny_call (make_map (f:=f) I.kIn M.makes M.init (beq_iff_eq.mp M.fn) (kA (F.run _ X.stack _ _ ⟨af.ref (s.heap.objs.size+1)::us,[]⟩ (af.ref (s.heap.objs.size+1)::(us++ds)) _ _ E (hr.make C us [])
  (I2.env0.make C us []) (hb _ (af.ref (s.heap.objs.size+1)::us) I2.kIn hl) r2 hq) fun r s' hq'=>?_))
 cases r with
 | error e=>exact hx aI σ _ _ e s' I2 hq'
 | ok fl =>
  cases fl with
  | ret u =>
   obtain⟨v,H',I3,rv,ev,q3⟩:=I2.after hq';subst ev;exact⟨rv,⟨V.ref (s.heap.objs.size+1),H',I3,rfl,q3⟩⟩
  | next=>exact eZ hq'
  | brk=>exact eZ hq'
  | cont=>exact eZ hq'
theorem pe_make (M:Mk X.K C f)(F:dz X.prog X.w X.K X.mg X.base CX k f fd ps sp)(hr:ke (k+1) X.A)(hg:Gl X x)(hm:X.mg x=some (.ref C))(hb:Binds X.K fd ps ds)(hd:gU dvs ds)(hx:jQ CX X E)
  (ha:PA X (e::es) t) (hdb:autoParam ((x == ("__debug__" :Str))=false) L2.au1._auto_1) (he:autoParam (br (e::es) X.env=(false,dU e X.env)::br es X.env) L2.au0._auto_1) (hpl:autoParam ((gG pos (br es X.env)).any (·.1)=false) L2.au0._auto_1) :
  PE X (.Call (.Name x p) (e::es) [] pos) (tMake C sp dvs E t):=by
 intro aI s σ H Q I h;apply iT (mV I hg hm ?_ hdb);apply kU (h₀:=X.base) I.ok.mod.kin M.kp (thn (ha pos aI s σ H _ I h) λus s1 hz0=>?_) he hpl;obtain⟨vs,H1,I1,r,q⟩:=hz0;apply⟨I1.kIn,?_⟩;exact run_make M F hr hb hd hx I1 r q
end
structure cI (N P:List Str)(sc:jV):Prop where
 kind:sc.kind= .function
 co:sc.isCoroutine=false
 gen:sc.isGenerator=false
 nd:N.Nodup
 pre:N.take P.length=P
 par:∀x∈P,sc.names.lookup x=some .local∨sc.names.lookup x=some .cell
 nofree:∀y∈sc.names,y.2≠ .free
theorem bindL_out {kindOf:Str→Option dD}{x:Str}:∀{binds:List (Str×af)} {m:Str→Option af},(∀v,(x,v) ∉ binds)→bindL kindOf binds m x=m x
 | [],_,_=>rfl
 | (n,v)::r,m,h=>by
  unfold bindL;rw[bindL_out λw hw=>h w (aH _ hw)];split
  ·have:x≠n:=by rintro rfl;exact h v aW
   simp[this]
  ·rfl
theorem bindC_out {kindOf:Str→Option dD}{x:Str}:∀{binds:List (Str×af)} {m:Str→Option af},(∀v,(x,v) ∉ binds)→bindC kindOf binds m x=m x
 | [],_,_=>rfl
 | (n,v)::r,m,h=>by
  unfold bindC;rw[bindC_out λw hw=>h w (aH _ hw)];split
  ·rfl
  ·have:x≠n:=by rintro rfl;exact h v aW
   simp[this]
theorem bindL_get {kindOf:Str→Option dD}{x:Str}{v:af}:∀{P:List Str} {vs:List af} {i:Nat} {m:Str→Option af},P.Nodup→P[i]? =some x→vs[i]? =some v→kindOf x=some .local →
  bindL kindOf (P.zip vs) m x=some v
 | [],_,_,_,_,h,_,_=>by simp at h
 | _::_,[],_,_,_,_,h,_=>by simp at h
 | p::P,w::vs,0,m,nd,h1,h2,hk=>by
  simp at h1 h2;subst h1;subst h2;show bindL kindOf ((p,w)::P.zip vs) m p=_;unfold bindL;rw[bindL_out λv hv=>(bN.mp nd).1 (List.of_mem_zip hv).1,qJ hk];simp
 | p::P,w::vs,i+1,m,nd,h1,h2,hk=>by
  show bindL kindOf ((p,w)::P.zip vs) m x=_;unfold bindL;exact bindL_get (i:=i) (bN.mp nd).2 (by simpa using h1) (by simpa using h2) hk
theorem bindC_get {kindOf:Str→Option dD}{x:Str}{v:af}:∀{P:List Str} {vs:List af} {i:Nat} {m:Str→Option af},P.Nodup→P[i]? =some x→vs[i]? =some v→kindOf x≠some .local →
  bindC kindOf (P.zip vs) m x=some v
 | [],_,_,_,_,h,_,_=>by simp at h
 | _::_,[],_,_,_,_,h,_=>by simp at h
 | p::P,w::vs,0,m,nd,h1,h2,hk=>by
  simp at h1 h2;subst h1;subst h2;show bindC kindOf ((p,w)::P.zip vs) m p=_;unfold bindC;rw[bindC_out λv hv=>(bN.mp nd).1 (List.of_mem_zip hv).1,qI hk];simp
 | p::P,w::vs,i+1,m,nd,h1,h2,hk=>by
  show bindC kindOf ((p,w)::P.zip vs) m x=_;unfold bindC;exact bindC_get (i:=i) (bN.mp nd).2 (by simpa using h1) (by simpa using h2) hk
def start (N:List Str)(vs:List V):St:=vs.map some++jX (N.length - vs.length) none
def cxOf (CX:CXT)(P:aK)(w:bc)(K:aj)(mg:Str→Option af)(base:bM)(N:List Str)(qual:Str)(scope:jV)(f:ao)(cd:af)(A:cq)(outer:List Env)(s:ar)(H:Hp)(E:XK):Cx where
 prog:=P
 w:=w
 K:=K
 mg:=mg
 base:=base
 A:=A.deeper (envOfC qual scope s.heap.objs.size f cd)
 N:=N
 s₀:=s
 H₀:=H
 env:=envOfC qual scope s.heap.objs.size f cd
 outer:=outer
 stack:=envOfC qual scope s.heap.objs.size f cd::outer
 ex:=[]
 calm:=true
 fn:=λ_=>true
 pn:=[]
 xe:=λe s'=>aT (bB P w) (A.deeper (envOfC qual scope s.heap.objs.size f cd)) (leaving (envOfC qual scope s.heap.objs.size f cd) e) (λ_ s''=>CX outer H s E e s'') (λe' s''=>CX outer H s E e' s'') s'
theorem cell_has {sc:jV}(h:sc.names.lookup x=some .cell):∃c,(cellsFrom n sc.names []).lookup x=some c:=by
 have q:=PySem.W.cellsFrom_some sc.names n [] (.inl h);exact Option.isSome_iff_exists.mp q
theorem inv_start {CX:CXT}{cd:af}{s1:ar}{E:XK}{vs:List V}
  (S:cI N ps scope) (hd:A.handled=none) (e0:Env0 P w K mg base A outer s H) (hl:vs.length=ps.length) (r:gU vs us)
  (x:InCallC s s.heap.objs.size (bindL (envOfC qual scope s.heap.objs.size f cd).kindOf (ps.zip us) λ_=>none) (cellsFrom (s.heap.objs.size+1) scope.names []) (bindC (envOfC qual scope s.heap.objs.size f cd).kindOf (ps.zip us) λ_=>none) s1) :
  Inv (cxOf CX P w K mg base N qual scope f cd A outer s H E) [] (start N vs) H s1:=by
 have hpl:ps.length≤N.length:=by have:=qO gu S.pre;rw[aZ] at this;lia
 obtain⟨h1,tk,rfl,hk⟩:=x.done;have noA:∀b:ao,b ∉ (cxOf CX P w K mg base N qual scope f cd A outer s H E).ex:=λb z=>qK (show b∈([]:List ao) from z) ∅
 apply ⟨⟨e0.mod,S.kind,rfl,rfl,aD _,fun y z c h1 h2=>?_,fun y hy=>?_,fun y c _ h=>?_,fun _=>hd,cq.frames_deeper e0.frames,.inr ⟨rfl,rfl⟩,fun b z=>qK z (noA b),e0.bs,e0.bsz,fun b _ _=>noA b,fun b z=>qK z (noA b),e0.funs,e0.frf⟩,
  rfl,e0.bare,Un.kept hk,⟨_,x.toInCall.ns,fun i y v h1 h2 h3=>?_⟩,fun y c h=>⟨_,x.cell y c h⟩,e0.hok.fresh (aD _),fun y c h=>?_,fun p hp=>qK (show p∈([]:List (ao×Obj)) from hp) ∅,e0.hok.kept hk,?_⟩
 ·exact name_of_addr x.apart (fJ h1) (fJ h2)
 ·have hy:scope.names.lookup y=some .cell∨scope.names.lookup y=some .free:=hy
  rcases hy with hy | hy
  ·exact cell_has hy
  ·exact qK rfl (S.nofree _ (fJ hy))
 ·exact Nat.le_of_lt (x.above y c (fJ h))
 ·have hi:i<vs.length:=by
   unfold start at h2
   by_cases hi:i<vs.length
   ·exact hi
   ·rw[bh (by simpa using hi)] at h2
    rw[List.getElem?_replicate] at h2;split at h2 <;> cases h2
  have ha:vs[i]? =some v:=by
   unfold start at h2;rw[bI (by simpa using hi),aE] at h2;cases e:vs[i]? with
   | none=>rw[e] at h2;cases h2
   | some a=>rw[e] at h2;cases h2;rfl
  obtain⟨u,hu,rv⟩:=r.get ha;have hp:ps[i]? =some y:=by
   rw[←S.pre,eX ⋯];exact h1
  have ndP:ps.Nodup:=by rw[←S.pre];exact S.nd.sublist (List.take_sublist _ _)
  apply⟨u,rv,?_⟩
  rcases S.par y (aC hp) with k | k
  ·exact .inl ⟨k,bindL_get ndP hp hu k⟩
  ·obtain⟨c,e⟩:=cell_has (n:=s.heap.objs.size+1) k
   apply .inr ⟨.inl k,c,e,?_⟩;have q:=x.cell y c e;rw[bindC_get ndP hp hu (by show scope.names.lookup y≠_;rw[k];decide)] at q;exact q
 ·exact e0.hok.fresh (Nat.le_of_lt (x.above y c (fJ h)))
 ·unfold start
  show _=N.length;rw[aq,ae,List.length_replicate];lia
theorem fn_of {CX:CXT}{params:Arguments}{dV kV doc pm cdv ct oc:af}{an:Option ao}
  {sp:Sp} (lk:K.lookup f=some ⟨oc,od,.func (gc name qual params body scope dV kV doc pm an cdv ct),osl⟩) (hcd:jN K cdv qual=true) (S:cI N ps scope)
  (len:∀vs H Q E,sp vs H Q E→vs.length=ps.length)
  (hbody:∀ (A:cq) (outer:List Env) (s:ar) (H:Hp) (vs:List V) (Q:VK) (E:XK),ke k (A.deeper (envOfC qual scope s.heap.objs.size f cdv))→sp vs H Q E →
   ∃ t,PSs (cxOf CX P w K mg base N qual scope f cdv A outer s H E) body t∧t { nx:=fun _ H'=>Q .non H',rt:=Q } (start N vs) H) :
  dz P w K mg base CX (k+1) f (gc name qual params body scope dV kV doc pm an cdv ct) ps sp:=by
 apply⟨len,λA outer s H args us vs Q E hr e0 hb r hsp=>?_⟩;have hl:=len _ _ _ _ hsp;have KX:K.In s.heap:=e0.mod.kin.keeps λb o e=>(e0.bs b o e).1
 have lim:s.heap.NoLimit:=e0.mod.nolimit.keeps λb o e=>(e0.bs b o e).1
 have mF:∀y∈ps.zip us,scope.names.lookup y.1=some .local∨(scope.names.lookup y.1=some .cell∧((cellsFrom (s.heap.objs.size+1) scope.names []).lookup y.1).isSome=true):=λ⟨n,v⟩ hy=>by
  rcases S.par n (List.of_mem_zip hy).1 with q | q
  ·exact .inl q
  ·exact .inr ⟨q,PySem.W.cellsFrom_some _ _ _ (.inl q)⟩
 apply codeAny_call_function hr.depth (KX _ _ lk) rfl S.co S.gen rfl (PySem.W.codeRec_of KX hcd) (hb _ _ _ _ ?_);apply wpAny_newFunctionEnv_cells S.kind mF λenv he s1 x=>?_
 subst he;apply⟨lim.keeps x.toInCall.keep,codeAny_func ?_⟩;obtain⟨t,ht,hq⟩:=hbody A outer s H vs Q E (hr.deeper _) hsp;have I:Inv (cxOf CX P w K mg base N qual scope f cdv A outer s H E) [] (start N vs) H s1:=inv_start S hr.hd e0 hl r x;apply dO (ht [] s1 (start N vs) H _ I hq) (λfl s' hs=>?_) λe s' hs=>hs
 have fin:∀{σ':St} {H':Hp} {v:V} {u:af},Inv (cxOf CX P w K mg base N qual scope f cdv A outer s H E) [] σ' H' s'→iG v u→Q v H'→CE outer P w H s Q u s' :=
  λ{σ' H' v u} J rv q=>⟨v,H',J.os,J.bare,J.base,J.hok,rv,q⟩
 cases fl with
 | ret u =>
  obtain⟨v,σ',H',J,rv,q⟩:=hs;exact fin J rv q
 | next =>
  obtain⟨σ',H',J,q⟩:=hs;exact fin (v:=V.non) (u:=af.none) J rfl q
 | brk =>
  obtain⟨_,_,_,q⟩:=hs;exact eZ q
 | cont =>
  obtain⟨_,_,_,q⟩:=hs;exact eZ q
section
variable {p:Pos}{id:String}{r:List V→Hp→VK→Prop}
def tCB (r:List V→Hp→VK→Prop)(t:TA):TE:=λσ H Q=>t σ H λvs H1=>r vs H1 Q
theorem b8 (hc:iM X (.builtin id) r)(hg:Gl X x)(hm:X.mg x=none)(hv:kB x=some (.builtin id))(ha:PA X (e::es) t)(hn:autoParam (x ≠ "__name__") L2.au1._auto_1)(hdb:autoParam ((x == ("__debug__" :Str))=false) L2.au1._auto_1)
  (he:autoParam (br (e::es) X.env=(false,dU e X.env)::br es X.env) L2.au0._auto_1) (hpl:autoParam ((gG pos (br es X.env)).any (·.1)=false) L2.au0._auto_1):PE X (.Call (.Name x p) (e::es) [] pos) (tCB r t):=by
 intro aI s σ H Q I h;apply iT (nJ I hg hm hv ?_ hn hdb);exact PyProof.Rows.callWith_builtin1 (thn (ha pos aI s σ H _ I h) λus s1 ⟨vs,H1,I1,r1,q1⟩=>hc aI s1 σ H1 vs us Q I1 r1 q1) he hpl
theorem gJ (hc:iM X (.type T) r)(hg:Gl X x)(hm:X.mg x=none)(hv:kB x=some (.type T))(ha:PA X (e::es) t)(hn:autoParam (x ≠ "__name__") L2.au1._auto_1)(hdb:autoParam ((x == ("__debug__" :Str))=false) L2.au1._auto_1)
  (he:autoParam (br (e::es) X.env=(false,dU e X.env)::br es X.env) L2.au0._auto_1) (hpl:autoParam ((gG pos (br es X.env)).any (·.1)=false) L2.au0._auto_1):PE X (.Call (.Name x p) (e::es) [] pos) (tCB r t):=by
 intro aI s σ H Q I h;apply iT (nJ I hg hm hv ?_ hn hdb);exact dH (thn (ha pos aI s σ H _ I h) λus s1 ⟨vs,H1,I1,r1,q1⟩=>hc aI s1 σ H1 vs us Q I1 r1 q1) he hpl
end
end L2
variable {CW:L2.St→L2.VK→L2.It→L2.Hp→Prop}{CX:L2.CXT}{g:L2.TG}{sp:L2.Sp}{tb:L2.TS}{wi:L2.TI}
namespace HT
open PySem PyProof.Rows
theorem cat_tup {t b:ao}{ws:List af}(ht:IsTup s.heap t vs.toArray)(hb:IsTup s.heap b ws.toArray)(hv:vs≠[])
  (h1:ws=[]→Q (.ref t) s) (h2:ws≠[]→Q (.ref s.heap.objs.size) { s with heap:=s.heap.push { cls:= .type "tuple",data:= .seq (vs++ws).toArray } })
  (hsz:vs.length+ws.length≤aA):aT (bB prog w) A (ip .Add (.ref t) (.ref b)) Q E s:=by
 obtain⟨⟨cls,dd,data,sl⟩,ho,hc,n,hd⟩:=id ht;obtain⟨⟨cls2,dd2,data2,sl2⟩,ho2,hc2,n2,hd2⟩:=id hb;simp only at hc hd hc2 hd2;subst hc hd hc2 hd2;have e:vs.toArray++ws.toArray=(vs++ws).toArray:=by simp
 by_cases hw:ws=[]
 ·exact concat_meets ⟨_,ho,rfl⟩ ⟨_,ho2,rfl⟩ noFill_tuple_add seq_tuple_add PySem.F.slot_tuple_add ma (lL _ _)
   (tuple_addW1 t b vs.toArray ws.toArray n n2 dd dd2 sl sl2 (by simpa using hv) (by simp[hw])) ⟨ho,ho2,h1 hw⟩
 ·apply concat_meets ⟨_,ho,rfl⟩ ⟨_,ho2,rfl⟩ noFill_tuple_add seq_tuple_add PySem.F.slot_tuple_add ma (lL _ _)
   (tuple_addW2 t b vs.toArray ws.toArray n n2 dd dd2 sl sl2 (by simpa using hv) (by simpa using hw) (by rw[aG,aG];exact hsz)) ⟨ho,ho2,?_⟩
  rw[e];exact h2 hw
def sIx (n d:Nat):Option Int→Nat
 | none=>d
 | some v=>if v<0 then (v+(n:Int)).toNat else min v.toNat n
theorem sIx_none (n d:Nat):sIx n d none=d:=rfl
theorem sIx_nat (n d k:Nat):sIx n d (some (k:Int))=min k n:=by
 show(if (k:Int)<0 then ((k:Int)+(n:Int)).toNat else min (k:Int).toNat n)=min k n;rw[qI ⋯,fU]
theorem sIx_le (n d:Nat)(hd:d≤n)(o:Option Int):sIx n d o≤n:=by
 cases o with
 | none=>exact hd
 | some v =>
  show(if v<0 then (v+(n:Int)).toNat else min v.toNat n)≤n
  by_cases hv:v<0
  ·rw[qJ hv];lia
  ·rw[qI hv];exact Nat.min_le_right _ _
theorem clip_eq (v:Int)(n d:Nat):(if v<0 then max (v+(n:Int)) 0 else min v (n:Int))=((sIx n d (some v):Nat):Int):=by
 show(if v<0 then max (v+(n:Int)) 0 else min v (n:Int))=(((if v<0 then (v+(n:Int)).toNat else min v.toNat n):Nat):Int)
 by_cases hv:v<0
 ·simp only[qJ hv];lia
 ·simp only[qI hv];lia
theorem adjust_gen (lo hi:Option Int)(n:Nat):kD lo hi 1 (n:Int)=(((sIx n 0 lo:Nat):Int),((sIx n n hi:Nat):Int)):=by
 have h1:¬((1:Int)<0):=by lia
 unfold kD;simp only[h1,if_false];apply Prod.ext ?_ ?_
 ·cases lo with
  | none=>rfl
  | some v=>exact clip_eq v n 0
 ·cases hi with
  | none=>rfl
  | some v=>exact clip_eq v n n
theorem places_gen (i j:Nat):iJ (i:Int) (j:Int) 1=j - i:=by
 unfold iJ;have h1:(1:Int) > 0:=by lia
 simp only[h1,if_true,Int.ediv_one];split <;> lia
theorem qo {v:af}{o:Option Int}{Q:Option Int→ar→Prop}(p:IsPart v o)(h:Q o s):aT (bB prog w) A (ee.Slice.slicePartIndex v) Q E s:=by
 cases p with
 | none=>exact slicePart_none h
 | int i t=>exact slicePart_int h
theorem oH {sl:ao}{vl vu:af}{lo hi:Option Int}{Q:Int×Int×Nat→ar→Prop}(hs:s.heap.IsSliceOf sl vl vu .none)(pl:IsPart vl lo)(pu:IsPart vu hi)
  (h:Q (((sIx n 0 lo:Nat):Int),1,sIx n n hi - sIx n 0 lo) s):aT (bB prog w) A (ee.Slice.sliceApplied (.ref sl) (hW (n:Int))) Q E s:=by
 obtain⟨os,hos,hcs,hds⟩:=id hs;unfold ee.Slice.sliceApplied ee.Slice.sliceFields;apply ak (ak (cQ hos hds (x:=vl) rfl (ak (cQ hos hds (x:=vu) rfl (ak (cQ hos hds (x:= .none) rfl (aN ?_)))))));apply ak (slicePart_none ?_);show aT _ _ (if ((1:Int) == 0)=true then _ else _) _ _ s;rw[qI ↥0];apply ak (qo pl (ak (qo pu (ak (aN ?_)))));show aT _ _ (match kD lo hi 1 (n:Int) with | (lo,hi)=>hW (lo,(1:Int),iJ lo hi 1)) _ _ s;rw[adjust_gen lo hi n];show aT _ _ (hW (((sIx n 0 lo:Nat):Int),(1:Int),iJ ((sIx n 0 lo:Nat):Int) ((sIx n n hi:Nat):Int) 1)) _ _ s;rw[places_gen];exact aN h
theorem pick_gen (xs:Array af)(i k:Nat):((cS k).filterMap λ(m:Nat)=>xs[((i:Int)+(m:Int) * 1).toNat]?).toArray=((xs.toList.drop i).take k).toArray:=by
 have e:(λ(m:Nat)=>xs[((i:Int)+(m:Int) * 1).toNat]?)=λm=>xs[i+m]? := by
  funext m
  have:((i:Int)+(m:Int) * 1).toNat=i+m:=by lia
  rw[this]
 rw[e];have:=pick_run xs i k;rw[List.filterMap_map] at this;have e2:((λx=>xs[x]?) ∘ λx=>i+x)=λm=>xs[i+m]? := rfl
 rw[e2] at this;rw[this]
theorem getItem_tuple_cut {t sl:ao}{vl vu:af}{lo hi:Option Int}(ht:IsTup s.heap t items)(hs:s.heap.IsSliceOf sl vl vu .none)(pl:IsPart vl lo)(pu:IsPart vu hi)
  (hw:¬(sIx items.size 0 lo=0∧sIx items.size items.size hi=items.size))
  (h:Q (.ref s.heap.objs.size) { s with heap:=s.heap.push { cls:= .type "tuple",data:= .seq ((items.toList.drop (sIx items.size 0 lo)).take (sIx items.size items.size hi - sIx items.size 0 lo)).toArray } })
  (hsz:items.size≤aA):aT (bB prog w) A (getItem (.ref t) (.ref sl)) Q E s:=by
 have htake:sizeOk (.seq ((items.toList.drop (sIx items.size 0 lo)).take (sIx items.size items.size hi - sIx items.size 0 lo)).toArray):=by
  show((items.toList.drop (sIx items.size 0 lo)).take (sIx items.size items.size hi - sIx items.size 0 lo)).toArray.size≤aA;rw[aG,aZ,bK,eP];lia
 have hj:sIx items.size items.size hi≤items.size:=sIx_le _ _ (aD _) hi;obtain⟨os,hos,hcs,hds⟩:=id hs;have hTs:s.TypeIs (.ref sl) "slice" := ⟨os,hos,hcs⟩;unfold getItem
 try with_reducible apply gT ?_
 first | apply ak (aN ?_) | skip
 apply ak (wpAny_sequenceKey ht.typeIs ↥0 ?_);apply ak (fD (name:=au "__getitem__") ht.typeIs PyProof.Rows.slot_tuple_getitem
  (iE PyProof.Rows.slot_tuple_getitem ht.typeIs entry_tuple_getitem ?_ (args_tuple_getitem _ _)))
 show aT _ _ (ee.Tuple.tupleItemsOf (.ref t) >>= _) _ _ s;apply ak (tupleItemsOf_ ht ?_);apply ak (wpAny_typeOf hTs ?_);rw[qJ ↥0];apply ak (oH hs pl pu ?_);have hno:¬((((sIx items.size 0 lo:Nat):Int) == 0 && (1:Int) == 1 && (sIx items.size items.size hi - sIx items.size 0 lo) == items.size)=true):=by
  intro q;rw[ck,ck] at q;have q1:((sIx items.size 0 lo:Nat):Int)=0:=eq_of_beq q.1.1;have q2:sIx items.size items.size hi - sIx items.size 0 lo=items.size:=eq_of_beq q.2;exact hw ⟨⋯,⋯⟩
 show aT _ _ (if (((sIx items.size 0 lo:Nat):Int) == 0 && (1:Int) == 1 && (sIx items.size items.size hi - sIx items.size 0 lo) == items.size)=true then _ else _) _ _ s;rw[qI hno,pick_gen]
 first
  | exact ak (m:=iU _) (fW (aN ⟨_,rfl,aN h⟩) htake)
  | exact ak (m:=iU _) (fW (ak (aN (aN ⟨_,rfl,aN h⟩))) htake)
  | exact ak (ak (m:=iU _) (fW (aN (aN ⟨_,rfl,aN h⟩)) htake))
  | exact ak (ak (m:=iU _) (fW (aN ⟨_,rfl,aN h⟩) htake))
end HT
namespace L2
open PySem PySem.Spec PyProof.Rows
abbrev TO:=St→Hp→(Option Int→Hp→Prop)→Prop
def PO (X:Cx)(e:Option Expr)(t:TO):Prop :=
 ∀(aI:List (ao×Obj)) (s:ar) (σ:St) (H:Hp) (Q:Option Int→Hp→Prop),Inv X aI σ H s→t σ H Q →
  aT (bB X.prog X.w) X.A (evalPart e X.env) (λu s'=>∃o H',Inv X aI σ H' s'∧IsPart u o∧Q o H') X.xe s
def tNoPart:TO:=λ_ H Q=>Q none H
def tPart (t:TE):TO:=λσ H Q=>t σ H λx H1=>∃i,x= .int i∧Q (some i) H1
section
variable {lo hi:Option Expr}{tl th:TO}
theorem hZ:PO X none tNoPart:=by
 intro aI s σ H Q I h;rw[evalPart_none];exact aN ⟨none,H,I,.none,h⟩
theorem fZ (h:PE X e te):PO X (some e) (tPart te):=by
 intro aI s σ H Q I hw;rw[evalPart_some];apply thn (h aI s σ H _ I hw) λu s1 hz0=>?_
 obtain⟨x,H1,I1,r1,q1⟩:=hz0;obtain⟨i,rfl,q⟩:=q1;obtain⟨t,rfl⟩:=r1;exact⟨some i,H1,I1,.int i t,q⟩
def SlR (X:Cx)(r:V→Option Int→Option Int→Hp→VK→Prop):Prop :=
 ∀(aI:List (ao×Obj)) (s:ar) (σ:St) (H:Hp) (x:V) (v vl vu:af) (lo hi:Option Int) (sl:ao) (Q:VK),Inv X aI σ H s→iG x v→s.heap.IsSliceOf sl vl vu .none→IsPart vl lo→IsPart vu hi→r x lo hi H Q →
  ∃T id,typeLookup (.type T) "__getitem__" =hW (some (.builtin id))∧s.TypeIs v T∧aT (bB X.prog X.w) X.A (getItem v (.ref sl)) (EP X aI σ Q) X.xe s
def tSl (r:V→Option Int→Option Int→Hp→VK→Prop)(te:TE)(tl th:TO):TE:=λσ H Q=>te σ H λx H1=>tl σ H1 λl H2=>th σ H2 λu H3=>r x l u H3 Q
theorem fq {r:V→Option Int→Option Int→Hp→VK→Prop}(hr:SlR X r)(he:PE X e te)(hl:PO X lo tl)(hu:PO X hi th):PE X (.Subscript e (.Slice lo hi none p2) pos) (tSl r te tl th):=by
 intro aI s σ H Q I h;apply Subscript_ (thn (he aI s σ H _ I h) λv s1 hz0=>?_);obtain⟨x,H1,I1,r1,q1⟩:=hz0;apply wpAny_Slice (thn (hl aI s1 σ H1 _ I1 q1) λvl s2 ⟨l,H2,I2,pl,q2⟩=>thn (hu aI s2 σ H2 _ I2 q2) λvu s3 hz0=>?_);obtain⟨u,H3,I3,pu,q3⟩:=hz0;rw[evalPart_none];apply aN ?_;have I4:Inv X aI σ H3 { s3 with heap:=s3.heap.push { cls:= .type "slice",data:= .fields #[vl,vu,.none] } }:=I3.kept (t':=s3.toks) λb ob q=>av _ q
 obtain⟨T,id,hT,ht,hg⟩:=hr aI { s3 with heap:=s3.heap.push { cls:= .type "slice",data:= .fields #[vl,vu,.none] } } σ H3 x v vl vu l u s3.heap.objs.size Q I4 r1 (bM.IsSliceOf.new ..) pl pu q3;show aT (bB X.prog X.w) X.A (subscriptTail e (.Slice lo hi none p2) v (.ref s3.heap.objs.size)) (EP X aI σ Q) X.xe { s3 with heap:=s3.heap.push { cls:= .type "slice",data:= .fields #[vl,vu,.none] } };exact tail_any (ops:=[.ref s3.heap.objs.size,v]) ht hT hg (by with_unfolding_all rfl)
def pW (xs:List V)(lo hi:Option Int):List V:=(xs.drop (HT.sIx xs.length 0 lo)).take (HT.sIx xs.length xs.length hi - HT.sIx xs.length 0 lo)
theorem pV (xs:List V)(lo hi:Option Int):(pW xs lo hi).length≤xs.length:=by
 unfold pW;rw[aZ,bK];lia
def rSlT (K:aj):V→Option Int→Option Int→Hp→VK→Prop:=λx lo hi H Q=>∃a xs,x= .ref a∧SqT K H a xs ∧
 ¬(HT.sIx xs.length 0 lo=0∧HT.sIx xs.length xs.length hi=xs.length)∧∀p,H p=none→Q (.ref p) (upd H p (.tup (pW xs lo hi)))
theorem sl_tup:SlR X (rSlT X.K):=by
 intro aI s σ H x v vl vu lo hi sl Q I rx hs pl pu h;obtain⟨a,xs,rfl,hx,hw,q⟩:=h;cases rx;obtain⟨its,r,ht,hz⟩:=I.tuple hx;have hlen:its.toArray.size=xs.length:=by rw[aG];exact r.length.symm
 apply⟨"tuple",_,PyProof.Rows.slot_tuple_getitem.lookup,ht.typeIs,?_⟩;apply HT.getItem_tuple_cut ht hs pl pu (by rw[hlen];exact hw) ?_ (by rw[hlen];exact hz);rw[hlen];apply⟨.ref s.heap.objs.size,_,I.laid (t':=s.toks) (o:= .tup (pW xs lo hi)) (λb ob q=>av _ q) (aD _) ?_,rfl,q _ (I.hok.fresh (aD _))⟩;exact⟨cu (pV xs lo hi) hz,_,(r.drop (HT.sIx xs.length 0 lo)).take (HT.sIx xs.length xs.length hi - HT.sIx xs.length 0 lo),mI.new _ _⟩
inductive rCatT (K:aj)(x:V)(y:V)(H:Hp)(Q:VK):Prop
 | mk (a b xs ys:_)(_:x= .ref a)(_:y= .ref b)(_:SqT K H a xs)(_:SqT K H b ys)(_:xs≠[])(_:xs.length+ys.length≤aA)(_:(ys=[]→Q (.ref a) H))(_:(ys≠[]→∀p,H p=none→Q (.ref p) (upd H p (.tup (xs++ys)))))
theorem gU.nil_iff (r:gU xs us):us=[]↔xs=[]:=by
 cases r with
 | nil=>simp
 | cons _ _=>simp
theorem op_catT:OpR X (ip .Add) (rCatT X.K):=by
 intro aI s σ H x y v u Q I rx ry h;obtain⟨a,b,xs,ys,rfl,rfl,ha,hb,hx,hz,q1,q2⟩:=h;cases rx;cases ry;obtain⟨its,r1,p1,_⟩:=I.tuple ha;obtain⟨its2,r2,p2,_⟩:=I.tuple hb;apply HT.cat_tup p1 p2 (λz=>hx (r1.nil_iff.mp z)) (λz=>⟨.ref a,H,I,rfl,q1 (r2.nil_iff.mp z)⟩) (λz=>?_) (by rw[←r1.length,←r2.length];exact hz);apply⟨.ref s.heap.objs.size,_,I.laid (t':=s.toks) (o:= .tup (xs++ys)) (λb ob q=>av _ q) (aD _) ?_,rfl,q2 (λw=>z (r2.nil_iff.mpr w)) _ (I.hok.fresh (aD _))⟩;exact⟨by rw[aq];exact hz,_,r1.append r2,mI.new _ _⟩
end
def ixN (n:Nat)(i:Int):Option Nat:=if 0≤i then (if i<n then some i.toNat else none) else if -(n:Int)≤i then some (i+n).toNat else none
def atI {α:Type}(xs:List α)(i:Int):Option α:=(ixN xs.length i).bind λj=>xs[j]?
theorem ixN_seq {i:Int}(h:ixN n i=some j):seqIndex? i n=some j∧j<n∧ -(n:Int)≤i∧i<n:=by
 unfold ixN at h
 by_cases h0:0≤i
 ·rw[qJ h0] at h
  by_cases h1:i<n
  ·rw[qJ h1] at h
   have e:i.toNat=j:=bF h;exact⟨by rw[seqIndex_of h0 h1,e],⋯,⋯,h1⟩
  ·rw[qI h1] at h;cases h
 ·rw[qI h0] at h
  by_cases h1: -(n:Int)≤i
  ·rw[qJ h1] at h
   have e:(i+n).toNat=j:=bF h;exact⟨by rw[seqIndex_neg ⋯ h1,e],⋯,h1,⋯⟩
  ·rw[qI h1] at h;cases h
theorem atI_get {xs:List α}{i:Int}{v:α}(h:atI xs i=some v):∃j,seqIndex? i xs.length=some j∧xs[j]? =some v∧j<xs.length∧ -(xs.length:Int)≤i∧i<xs.length:=by
 unfold atI at h;cases e:ixN xs.length i with
 | none=>rw[e] at h;cases h
 | some j =>
  rw[e] at h;obtain⟨h1,h2,h3,h4⟩:=ixN_seq e;exact⟨j,h1,h,h2,h3,h4⟩
theorem bp {xs:List α}{v:α}(h:xs[j]? =some v):atI xs (j:Int)=some v:=by
 have hj:j<xs.length:=(ai.mp h).1;have e:ixN xs.length (j:Int)=some j:=by
  unfold ixN;rw[qJ ⋯,qJ ⋯];simp
 unfold atI;rw[e];exact h
def PlainIx (b:Expr):Prop:=∀o i,subscripted b false o i=operate [o,i] (getItem o i)
def IxR (X:Cx)(r:R2):Prop :=
 ∀(value slice:Expr) (aI:List (ao×Obj)) (s:ar) (σ:St) (H:Hp) (x y:V) (v u:af) (Q:VK),Inv X aI σ H s→iG x v→iG y u→r x y H Q →
  subscripted slice false v u=operate [v,u] (getItem v u)→aT (bB X.prog X.w) X.A (subscriptTail value slice v u) (EP X aI σ Q) X.xe s
def MtR (X:Cx)(id:String)(r:V→List V→Hp→VK→Prop):Prop :=
 ∀(aI:List (ao×Obj)) (s:ar) (σ:St) (H:Hp) (x:V) (xs:List V) (v:af) (us:List af) (Q:VK),Inv X aI σ H s→iG x v→gU xs us→r x xs H Q →
  aT (bB X.prog X.w) X.A (call (.builtin id) (v::us)) (EP X aI σ Q) X.xe s
section
variable {a b:Expr}{tb:TE}
theorem fK {r:R2}(hr:IxR X r)(ha:PE X a ta)(hb:PE X b tb)(hs:PlainIx b):PE X (.Subscript a b pos) (tOp r ta tb):=by
 intro aI s σ H Q I h;exact Subscript_ (binT ha hb I h λv u s2 x y H2 I2 rx ry q=>hr a b aI s2 σ H2 x y v u Q I2 rx ry q (hs _ _))
inductive rIxL (K:aj)(x:V)(y:V)(H:Hp)(Q:VK):Prop
 | mk (p xs i v:_)(_:x= .ref p)(_:y= .int i)(_:SqL K H p xs)(_:atI xs i=some v)(_:Q v H)
inductive rIxT (K:aj)(x:V)(y:V)(H:Hp)(Q:VK):Prop
 | mk (p xs i v:_)(_:x= .ref p)(_:y= .int i)(_:SqT K H p xs)(_:atI xs i=some v)(_:Q v H)
inductive rIxS (x:V)(y:V)(H:Hp)(Q:VK):Prop
 | mk (z i c:_)(_:x= .str z)(_:y= .int i)(_:z.length≤aA)(_:atI z.cps.toList i=some c)(_:Q (.str ⟨#[c]⟩) H)
theorem bX:IxR X (rIxL X.K):=by
 intro value slice aI s σ H x y v u Q I rx ry h hs;obtain⟨p,xs,i,z,rfl,rfl,hq,he,q⟩:=h;cases rx;obtain⟨t,rfl⟩:=ry;obtain⟨its,r,pl,hz⟩:=I.list hq;obtain⟨j,h1,h2,h3,h4,h5⟩:=atI_get he;obtain⟨w,ew,rw'⟩:=r.get h2;have hl:=r.length;have hn:=qC;have fin:EP X aI σ Q w s:=⟨z,H,I,rw',q⟩
 by_cases h0:0≤i
 ·have hj:i.toNat=j:=by
   rw[seqIndex_of h0 h5] at h1;exact bF h1
  exact item_listR pl.isList h0 ⋯ (by rw[hj];simpa using ew) fin hs
 ·have hj:(i+(its.toArray.size:Int)).toNat=j:=by
   rw[seqIndex_neg ⋯ h4] at h1;rw[aG,←hl];exact bF h1
  exact subscriptTail_builtinR (x:=w) pl.isList.typeIs mJ.lookup
   (wpAny_getItem_list_neg (Q:=λr s'=>r=w∧EP X aI σ Q r s') pl.isList ⋯ (by rw[aG] <;> lia) ⋯ (by rw[hj];simpa using ew) ⟨rfl,fin⟩) hs
theorem ix_tup:IxR X (rIxT X.K):=by
 intro value slice aI s σ H x y v u Q I rx ry h hs;obtain⟨p,xs,i,z,rfl,rfl,hq,he,q⟩:=h;cases rx;obtain⟨t,rfl⟩:=ry;obtain⟨its,r,pl,hz⟩:=I.tuple hq;obtain⟨j,h1,h2,h3,h4,h5⟩:=atI_get he;obtain⟨w,ew,rw'⟩:=r.get h2;have hl:=r.length;have hn:=qC;have fin:EP X aI σ Q w s:=⟨z,H,I,rw',q⟩;exact subscriptTail_builtinR (x:=w) pl.typeIs slot_tuple_getitem.lookup
  (getItem_tuple (j:=j) (Q:=λr s'=>r=w∧EP X aI σ Q r s') pl ⋯ ⋯ (by rw[aG,←hl];exact h1) (by simpa using ew) ⟨rfl,fin⟩) hs
theorem ix_str:IxR X rIxS:=by
 intro value slice aI s σ H x y v u Q I rx ry h hs;obtain⟨z,i,c,rfl,rfl,hz,he,q⟩:=h;obtain⟨t,rfl⟩:=rx;obtain⟨t',rfl⟩:=ry;obtain⟨j,h1,h2,h3,h4,h5⟩:=atI_get he;have hl:z.cps.toList.length=z.length:=by simp[iF]
 rw [hl] at h1 h4 h5;have hn:=qC;exact tail_any (typeIs_str s z t) slot_str_getitem.lookup (getItem_str (c:=c) (by
  have e1:decide (i< -(2 ^ 63:Int))=false:=qM ⋯;have e2:decide (i ≥ 2 ^ 63)=false:=qM ⋯;rw [e1,e2,Bool.or_false]) (by rw [h1];simpa using h2) ⟨.str ⟨#[c]⟩,H,I.tok _,⟨_,rfl⟩,q⟩) hs
theorem mapSeq_set (its:List af)(n j:Nat)(u:af):Obj.mapSeq (·.setIfInBounds j u) { cls:= .type "list",data:= .seq its.toArray n }={ cls:= .type "list",data:= .seq (its.set j u).toArray n }:=by
 simp[Obj.mapSeq]
theorem Inv.lst {aI:List (ao×Obj)}{σ:St}{H:Hp}{s:ar}{p:ao}{xs:List V}(I:Inv X aI σ H s)(h:H p=some (.lst xs)) :
  ∃(its:List af) (n:Nat),gU xs its∧s.heap.get? p=some { cls:= .type "list",data:= .seq its.toArray n }∧xs.length≤aA:=by
 obtain⟨z,its,n,r,e⟩:=I.hok p _ h;exact⟨its,n,r,e,z⟩
theorem Inv.lstUpd {ys:List V}{its':List af}{n':Nat}{f:Obj→Obj}(I:Inv X aI σ H s)(h:H p=some (.lst xs))
  (ho:s.heap.get? p=some { cls:= .type "list",data:= .seq its.toArray n }) (hf:f { cls:= .type "list",data:= .seq its.toArray n }={ cls:= .type "list",data:= .seq its'.toArray n' }) (r:gU ys its') (hz:ys.length≤aA) (t:Nat) :
  Inv X aI σ (upd H p (.lst ys)) { s with heap:=s.heap.update p f,toks:=t }:=by
 have e:(s.heap.update p f).get? p=some { cls:= .type "list",data:= .seq its'.toArray n' }:=by
  rw[iS f ho (by rw[hf] <;> rfl),hf]
 apply I.write (x:=p) (e:=p) (by rw[h];trivial) (.inl rfl) (λb u hb q=>(gP _ _ (cY hb)).trans q) ⟨_,e⟩ ?_;exact⟨hz,its',n',r,e⟩
def rSetL:V→V→V→Hp→(Hp→Prop)→Prop:=λo i v H Q=>∃p xs k j,o= .ref p∧i= .int k∧H p=some (.lst xs)∧ixN xs.length k=some j∧Q (upd H p (.lst (xs.set j v)))
theorem oO:PSet X rSetL:=by
 intro aI s σ H o i v ov iv u Q I ro ri rv h;obtain⟨p,xs,k,j,rfl,rfl,hp,hj,q⟩:=h;cases ro;obtain⟨t,rfl⟩:=ri;obtain⟨its,n,r,ho,hz⟩:=I.lst hp;obtain⟨h1,h2,h3,h4⟩:=ixN_seq hj;have hl:=r.length;have hn:=qC;have I':Inv X aI σ (upd H p (.lst (xs.set j v))) { s with heap:=s.heap.update p (Obj.mapSeq (·.setIfInBounds j u)) } :=
  I.lstUpd hp ho (mapSeq_set its n j u) (r.set rv j) (by rw[iI];exact hz) s.toks
 by_cases h0:0≤k
 ·have hk:k.toNat=j:=by
   rw[seqIndex_of h0 h4] at h1;exact bF h1
  exact PySem.W.ki_setAt ho h0 ⋯ (by rw[aG,←hl];exact h4) (by rw[hk];exact⟨_,I',q⟩)
 ·have hk:(k+(its.toArray.size:Int)).toNat=j:=by
   rw[seqIndex_neg ⋯ h3] at h1;rw[aG,←hl];exact bF h1
  exact PySem.W.ki_setBack ho ⋯ (by rw[aG,←hl];exact h3) ⋯ (by rw[hk];exact⟨_,I',q⟩)
theorem slice_bounds (lo hi:Option Int)(n:Nat):(jA lo hi none n).1=((HT.sIx n 0 lo:Nat):Int)∧(jA lo hi none n).2.1=((HT.sIx n n hi:Nat):Int)∧(jA lo hi none n).2.2=1:=by
 apply⟨?_,?_,rfl⟩
 ·cases lo with
  | none=>simp[jA,HT.sIx]
  | some i =>
   simp only[jA,HT.sIx,Option.getD_none,show(1:Int) > 0 by decide,if_true]
   by_cases h:i<0
   ·simp only[h,if_true] <;> lia
   ·simp only[h,if_false] <;> lia
 ·cases hi with
  | none=>simp[jA,HT.sIx]
  | some i =>
   simp only[jA,HT.sIx,Option.getD_none,show(1:Int) > 0 by decide,if_true]
   by_cases h:i<0
   ·simp only[h,if_true] <;> lia
   ·simp only[h,if_false] <;> lia
theorem slicePick_cut (its:List af)(lo hi:Option Int):slicePick its.toArray lo hi none=((its.drop (HT.sIx its.length 0 lo)).take (HT.sIx its.length its.length hi - HT.sIx its.length 0 lo)).toArray:=by
 obtain⟨h1,h2,h3⟩:=slice_bounds lo hi its.toArray.size;unfold slicePick;rw[h1,h2,h3];simp only[sliceRange_one,pick_run,aG] <;> rfl
def rSlL (K:aj):V→Option Int→Option Int→Hp→VK→Prop:=λx lo hi H Q=>∃a xs,x= .ref a∧SqL K H a xs∧∀p,H p=none→Q (.ref p) (upd H p (.lst (pW xs lo hi)))
theorem sl_list:SlR X (rSlL X.K):=by
 intro aI s σ H x v vl vu lo hi sl Q I rx hs pl pu h;obtain⟨a,xs,rfl,hx,q⟩:=h;cases rx;obtain⟨its,r,ht,hz⟩:=I.list hx;have hlen:=r.length;apply⟨"list",_,mJ.lookup,ht.isList.typeIs,?_⟩;apply mM ht.isList hs pl pu .none ∅ ?_ (by rw[aG] <;> lia);rw[slicePick_cut,←hlen];apply⟨.ref s.heap.objs.size,_,I.laid (t':=s.toks) (o:= .lst (pW xs lo hi)) (λb ob q=>av _ q) (aD _) ?_,rfl,q _ (I.hok.fresh (aD _))⟩;exact⟨cu (pV xs lo hi) hz,_,0,(r.drop (HT.sIx xs.length 0 lo)).take (HT.sIx xs.length xs.length hi - HT.sIx xs.length 0 lo),aQ _ rfl⟩
def oj:V→Bool
 | .non=>true
 | .bl _=>true
 | .int _=>true
 | .str _=>true
 | _=>false
def eqV:V→V→Bool
 | .non,.non=>true
 | .bl a,.bl b=>a == b
 | .bl a,.int b=>(if a then 1 else 0) == b
 | .int a,.bl b=>a == (if b then 1 else 0)
 | .int a,.int b=>a == b
 | .str a,.str b=>a == b
 | _,_=>false
theorem eqAt_V {x:V}{v:af}(ry:iG y u)(rx:iG x v)(fy:oj y=true)(fx:oj x=true):SeqAt.EqAt A s u v (eqV y x):=by
 cases y with
 | non =>
  cases ry;cases x with
  | non=>cases rx;exact SeqAt.EqAt.same _
  | bl b=>cases rx;exact SeqAt.EqAt.none_bool b
  | int b=>obtain⟨t,rfl⟩:=rx;exact SeqAt.EqAt.none_int b t
  | str b=>obtain⟨t,rfl⟩:=rx;exact SeqAt.EqAt.none_str b t
  | _=>exact qK (show false=true from fx) bG
 | bl a =>
  cases ry;cases x with
  | non=>cases rx;exact SeqAt.EqAt.bool_none a
  | bl b=>cases rx;exact SeqAt.EqAt.bool_bool a b
  | int b=>obtain⟨t,rfl⟩:=rx;exact SeqAt.EqAt.bool_int a b t
  | str b=>obtain⟨t,rfl⟩:=rx;exact SeqAt.EqAt.bool_str a b t
  | _=>exact qK (show false=true from fx) bG
 | int a =>
  obtain⟨t',rfl⟩:=ry;cases x with
  | non=>cases rx;exact SeqAt.EqAt.int_none a t'
  | bl b=>cases rx;exact SeqAt.EqAt.int_bool a t' b
  | int b=>obtain⟨t,rfl⟩:=rx;exact SeqAt.EqAt.int_int a t' b t
  | str b=>obtain⟨t,rfl⟩:=rx;exact SeqAt.EqAt.int_str a t' b t
  | _=>exact qK (show false=true from fx) bG
 | str a =>
  obtain⟨t',rfl⟩:=ry;cases x with
  | non=>cases rx;exact SeqAt.EqAt.str_none a t'
  | bl b=>cases rx;exact SeqAt.EqAt.str_bool a t' b
  | int b=>obtain⟨t,rfl⟩:=rx;exact SeqAt.EqAt.str_int a t' b t
  | str b=>obtain⟨t,rfl⟩:=rx;exact SeqAt.EqAt.str_str a t' b t
  | _=>exact qK (show false=true from fx) bG
 | _=>exact qK (show false=true from fy) bG
def eqU (x:V)(u:af):Bool:=match u with
 | .none=>eqV .non x
 | .bool b=>eqV (.bl b) x
 | .int i _=>eqV (.int i) x
 | .str z _=>eqV (.str z) x
 | _=>false
theorem eqU_of {x:V}(r:iG y u)(f:oj y=true):eqU x u=eqV y x:=by
 cases y with
 | non=>cases r;rfl
 | bl b=>cases r;rfl
 | int i=>obtain⟨t,rfl⟩:=r;rfl
 | str z=>obtain⟨t,rfl⟩:=r;rfl
 | _=>exact qK (show false=true from f) bG
theorem pZ {x:V}:∀{xs:List V} {us:List af},gU xs us→xs.all oj=true→us.any (eqU x)=xs.any λy=>eqV y x
 | _,_,.nil,_=>rfl
 | y::xs,u::us,.cons r t,f=>by
  rw[List.all_cons,ck] at f;rw[iL,iL,eqU_of r f.1,pZ t f.2]
theorem nu {A:cq}{s:ar}{x:V}{v:af}(rx:iG x v)(fx:oj x=true):∀{xs:List V} {us:List af},gU xs us→xs.all oj=true→∀u∈us,SeqAt.EqAt A s u v (eqU x u)
 | _,_,.nil,_=>λu hu=>by cases hu
 | y::xs,u::us,.cons r t,f=>λu' hu=>by
  rw[List.all_cons,ck] at f
  rcases aw.mp hu with rfl | hu
  ·rw[eqU_of r f.1];exact eqAt_V r rx f.1 fx
  ·exact nu rx fx t f.2 u' hu
def inV (x:V)(xs:List V):Bool:=xs.any λy=>eqV y x
inductive rIn (K:aj)(neg:Bool)(x:V)(y:V)(H:Hp)(Q:VK):Prop
 | mk (p xs:_)(_:y= .ref p)(_:(SqL K H p xs∨SqT K H p xs))(_:oj x=true)(_:xs.all oj=true)(_:Q (.bl (if neg then !inV x xs else inV x xs)) H)
theorem nk:OpR X (eR .In) (rIn X.K false):=by
 intro aI s σ H x y v u Q I rx ry h;obtain⟨p,xs,rfl,hq,fx,fs,q⟩:=h;cases ry
 rcases hq with hq | hq
 ·obtain⟨its,r,pl,hz⟩:=I.list hq
  apply SeqAt.in_listAt (eqU x) pl.isList (λw hw=>nu rx fx r fs w (by simpa using hw)) ⟨.bl _,H,I,rfl,?_⟩;rw[show its.toArray.any (eqU x)=its.any (eqU x) by simp,pZ r fs];exact q
 ·obtain⟨its,r,pl,hz⟩:=I.tuple hq
  apply SeqAt.in_tupleAt (eqU x) pl (λw hw=>nu rx fx r fs w (by simpa using hw)) ⟨.bl _,H,I,rfl,?_⟩;rw[show its.toArray.any (eqU x)=its.any (eqU x) by simp,pZ r fs];exact q
theorem op_notIn_seq:OpR X (eR .NotIn) (rIn X.K true):=by
 intro aI s σ H x y v u Q I rx ry h;obtain⟨p,xs,rfl,hq,fx,fs,q⟩:=h;cases ry
 rcases hq with hq | hq
 ·obtain⟨its,r,pl,hz⟩:=I.list hq
  apply SeqAt.notIn_listAt (eqU x) pl.isList (λw hw=>nu rx fx r fs w (by simpa using hw)) ⟨.bl _,H,I,rfl,?_⟩;rw[show its.toArray.any (eqU x)=its.any (eqU x) by simp,pZ r fs];exact q
 ·obtain⟨its,r,pl,hz⟩:=I.tuple hq
  apply SeqAt.notIn_tupleAt (eqU x) pl (λw hw=>nu rx fx r fs w (by simpa using hw)) ⟨.bl _,H,I,rfl,?_⟩;rw[show its.toArray.any (eqU x)=its.any (eqU x) by simp,pZ r fs];exact q
theorem cF:iM X (.builtin "len") (λxs H Q=>∃p ys,xs=[.ref p]∧(SqL X.K H p ys∨SqT X.K H p ys)∧Q (.int ys.length) H):=by
 intro aI s σ H xs us Q I r h;obtain⟨p,ys,rfl,hq,q⟩:=h;obtain⟨u,rfl,rx⟩:=mO r;cases rx;have hn:=qC
 rcases hq with hq | hq
 ·obtain⟨its,r',pl,hz⟩:=I.list hq
  have hlen:=r'.length;exact Calls.call_len_list pl.isList (by simp only[aG] <;> lia) ⟨.int ys.length,H,I.tok _,⟨s.toks+1,by rw[aG,hlen]⟩,q⟩
 ·obtain⟨its,r',pl,hz⟩:=I.tuple hq
  have hlen:=r'.length;exact len_tuple pl (by simp only[aG] <;> lia) ⟨.int ys.length,H,I.tok _,⟨s.toks+1,by rw[aG,hlen]⟩,q⟩
theorem j8:iM X (.builtin "len") (λxs H Q=>∃z,xs=[.str z]∧z.length≤aA∧Q (.int z.length) H):=by
 intro aI s σ H xs us Q I r h;obtain⟨z,rfl,hz,q⟩:=h;obtain⟨u,rfl,t,rfl⟩:=mO r;have hn:=qC;exact len_str ⋯ ⟨.int z.length,H,I.tok _,⟨_,rfl⟩,q⟩
theorem oE:iM X (.type "list") (λxs H Q=>∃p ys,xs=[.ref p]∧(SqL X.K H p ys∨SqT X.K H p ys)∧∀l,H l=none→Q (.ref l) (upd H l (.lst ys))):=by
 intro aI s σ H xs us Q I r h;obtain⟨p,ys,rfl,hq,q⟩:=h;obtain⟨u,rfl,rx⟩:=mO r;cases rx;have fin:∀(its:List af),gU ys its→ys.length≤aA→∀(h':bM) (c':Nat),(∀b o',s.heap.get? b=some o'→h'.get? b=some o') →
   h'.get? s.heap.objs.size=some { cls:= .type "list",dict:=none,data:= .seq its.toArray c',slots:= #[] }→EP X aI σ Q (.ref s.heap.objs.size) { s with heap:=h' }:=λits r' hz h' c' kp e =>
  ⟨.ref s.heap.objs.size,_,I.laid (t':=s.toks) kp (aD _) (show iu X.prog X.w _ h' _ (.lst ys) from ⟨hz,its,c',r',e⟩),rfl,q _ (I.hok.fresh (aD _))⟩
 rcases hq with hq | hq
 ·obtain⟨its,r',pl,hz⟩:=I.list hq
  have hlen:=r'.length;obtain⟨o,ho,hc,n,hd⟩:=pl.isList;exact call_list_seq p (.inl rfl) ho hc hd (λh' c' kp e=>fin its r' hz h' c' kp e) (by simp only[aG] <;> lia)
 ·obtain⟨its,r',pl,hz⟩:=I.tuple hq
  have hlen:=r'.length;obtain⟨o,ho,hc,n,hd⟩:=pl;exact call_list_seq p (.inr rfl) ho hc hd (λh' c' kp e=>fin its r' hz h' c' kp e) (by simp only[aG] <;> lia)
theorem call_tuple_of:iM X (.type "tuple") (λxs H Q=>∃p ys,xs=[.ref p]∧((SqL X.K H p ys∧∀l,H l=none→Q (.ref l) (upd H l (.tup ys)))∨(SqT X.K H p ys∧Q (.ref p) H))):=by
 intro aI s σ H xs us Q I r h;obtain⟨p,ys,rfl,h⟩:=h;obtain⟨u,rfl,rx⟩:=mO r;cases rx
 rcases h with ⟨hq,q⟩ | ⟨hq,q⟩
 ·obtain⟨its,r',pl,hz⟩:=I.list hq
  have hlen:=r'.length;apply call_tuple_list pl.isList (λh' kp=>?_) (by simp only[aG] <;> lia);have I1:Inv X aI σ H { s with heap:=h' }:=I.kept (t':=s.toks) kp;have I2:Inv X aI σ (upd H h'.objs.size (.tup ys)) { s with heap:=h'.push { cls:= .type "tuple",data:= .seq its.toArray } } :=
   I1.laid (t':=s.toks) (λb o e=>av _ e) (aD _) (show iu X.prog X.w _ _ _ (.tup ys) from ⟨hz,its,r',mI.new _ _⟩)
  exact⟨.ref h'.objs.size,_,I2,rfl,q _ (I1.hok.fresh (aD _))⟩
 ·obtain⟨its,r',pl,hz⟩:=I.tuple hq
  exact call_tuple_same pl ⟨.ref p,H,I,rfl,q⟩
def tyV (K:aj)(T:String)(x:V)(H:Hp):Prop:=match x with
 | .str _=>T = "str"
 | .int _=>T = "int"
 | .ref p=>(T = "list" ∧∃xs,SqL K H p xs)∨(T = "tuple" ∧∃o,K.lookup p=some o∧o.cls= .type "tuple" ∧o.dict=none) ∨
   (T = "dict" ∧((∃kvs,H p=some (.dK kvs))∨∃kvs,H p=some (.dT kvs)))∨(T = "set" ∧∃S n,H p=some (.set S n))
 | _=>False
theorem tyV_is {x:V}{v:af}(I:Inv X aI σ H s)(r:iG x v)(ty:tyV X.K T x H) :
  s.TypeIs v T∧∀a,v= .ref a→∃ob,s.heap.get? a=some ob∧ob.dict=none:=by
 cases x with
 | str z =>
  obtain⟨t,rfl⟩:=r;cases(show T = "str" from ty);exact⟨typeIs_str s z t,λ_ e=>nomatch e⟩
 | int i =>
  obtain⟨t,rfl⟩:=r;cases(show T = "int" from ty);exact⟨typeIs_int s i t,λ_ e=>nomatch e⟩
 | ref p =>
  cases r
  rcases ty with ⟨rfl,xs,hq⟩ | ⟨rfl,o,hk,hc,hd⟩ | ⟨rfl,hk⟩ | ⟨rfl,S,n,hk⟩
  ·obtain⟨its,_,pl,_⟩:=I.list hq
   apply⟨pl.isList.typeIs,λa e=>?_⟩;cases e;obtain⟨o,n,e,c,hd,_⟩:=pl;exact⟨o,e,hd⟩
  ·apply⟨⟨o,I.kIn p o hk,hc⟩,λa e=>?_⟩
   cases e;exact⟨o,I.kIn _ o hk,hd⟩
  ·have z:∃o,s.heap.get? p=some o∧o.ExactDict:=by
    rcases hk with ⟨kvs,hk⟩ | ⟨kvs,hk⟩
    ·obtain⟨_,_,_,_,o,_,_,e,ex,_⟩:=I.hok p _ hk
     exact⟨o,e,ex⟩
    ·obtain⟨_,_,_,_,o,_,_,e,ex,_⟩:=I.hok p _ hk
     exact⟨o,e,ex⟩
   obtain⟨o,e,ex⟩:=z;apply⟨⟨o,e,ex.1⟩,λa e2=>?_⟩;cases e2;exact⟨o,e,ex.2.1⟩
  ·obtain⟨o,_,_,_,e,ex,_⟩:=I.hok p _ hk
   apply⟨⟨o,e,ex.1⟩,λa e2=>?_⟩;cases e2;exact⟨o,e,ex.2.1⟩
 | _=>exact eZ ty
def tBM (K:aj)(T:String)(r:V→List V→Hp→VK→Prop)(to:TE)(t:TA):TE:=λσ H Q=>to σ H λx H1=>tyV K T x H1∧t σ H1 λxs H2=>r x xs H2 Q
variable {o:Expr}{id:String}{r:V→List V→Hp→VK→Prop}
theorem jg (pa:PlainAttrs T)(slot:Slot T name id)(hty:typeOf (.builtin id)=hW (.type "method_descriptor"))(hm:MtR X id r)(ho:PE X o to)(ha:PA X (e::es) t)
  (hbase:autoParam (i9 o name X.env (dU o X.env)=dU o X.env) L2.au0._auto_1)
  (hfew:autoParam (((gG cpos (br (e::es) X.env)).all (fun x=> !x.1) && (backToKw cpos (lp [] X.env)).all (fun x=>x.1.isSome)
   && decide ((e::es).length+([]:List Keyword).length+(if ([]:List Keyword).isEmpty then 0 else 1)<30))=true) L2.au0._auto_1)
  (hline:autoParam ((apos.endLine == cpos.line)=true) L2.au0._auto_1) (hs:autoParam (br (e::es) X.env=(false,dU e X.env)::br es X.env) L2.au0._auto_1) (hplain:autoParam ((gG cpos (br es X.env)).any (·.1)=false) L2.au0._auto_1) :
  PE X (.Call (.Attribute o name apos) (e::es) [] cpos) (tBM X.K T r to t):=by
 intro aI s σ H Q I h;apply wpAny_Call_method_late hbase hfew hline rfl (thn (ho aI s σ H _ I h) λv s1 hz0=>?_);obtain⟨x,H1,I1,r1,ty,q1⟩:=hz0;obtain⟨h1,h2⟩:=tyV_is I1 r1 ty;apply⟨T,id,pa,slot,hty,h1,h2,?_⟩;have hA:=ha cpos aI s1 σ H1 _ I1 q1;rw[hs] at hA ⊢;apply gL (by show(false || (gG cpos (br es X.env)).any (·.1))=false;rw[hplain] <;> rfl) (gZ ?_);exact thn hA λus s2 ⟨vs,H2,I2,r2,q2⟩=>hm aI s2 σ H2 x vs v us Q I2 r1 r2 q2
end
def MtM (X:Cx)(id:String)(r:V→List V→Hp→VK→Prop):Prop :=
 ∀(aI:List (ao×Obj)) (s:ar) (σ:St) (H:Hp) (x:V) (xs:List V) (v:af) (us:List af) (Q:VK),Inv X aI σ H s→iG x v→gU xs us→r x xs H Q →
  aT (bB X.prog X.w) X.A (call (.builtin id) (v::us)) (EP X aI σ Q) X.xe s
theorem gU.one {x:V}(h:gU [x] us):∃u,us=[u]∧iG x u:=by
 cases h with
 | cons r h=>cases h;exact⟨ρ,r⟩
theorem gU.eraseIdx:∀{xs:List V} {us:List af} (i:Nat),gU xs us→gU (xs.eraseIdx i) (us.eraseIdx i)
 | _,_,_,.nil=> .nil
 | _,_,0,.cons _ t=>t
 | _,_,i+1,.cons r t=> .cons r (gU.eraseIdx i t)
theorem len_erase {α:Type}:∀(l:List α) (i:Nat),(l.eraseIdx i).length≤l.length
 | [],_=>aD _
 | _::_,0=>jR _
 | _::r,i+1=>Nat.succ_le_succ (len_erase r i)
section
variable {l b:ao}{ys zs:List V}
theorem Inv.lset {its':List af}{f:Array af→Array af}(I:Inv X aI σ H s)(hH:H l=some (.lst xs))
  (e:s.heap.get? l=some { cls:= .type "list",data:= .seq its.toArray n }) (hf:f its.toArray=its'.toArray) (hv:gU ys its') (hz:ys.length≤aA) :
  Inv X aI σ (upd H l (.lst ys)) { s with heap:=s.heap.update l (Obj.mapSeq f),toks:=t' }:=by
 have q:=PySem.IsL.update e f;rw[hf] at q;apply I.write (x:=l) (e:=l) (by rw[hH];exact trivial) (.inl rfl) (λb' u hb hu=>(gP s.heap (Obj.mapSeq f) (cY hb)).trans hu) ⟨_,q⟩ ?_;exact⟨hz,its',_,hv,q⟩
theorem Inv.lnew (I:Inv X aI σ H s)(hv:gU ys its)(hz:ys.length≤aA) :
  Inv X aI σ (upd H s.heap.objs.size (.lst ys)) { s with heap:=s.heap.push { cls:= .type "list",data:= .seq its.toArray },toks:=t' } :=
 I.laid (λ_ _ q=>av _ q) (aD _) ⟨hz,its,0,hv,aQ _ rfl⟩
theorem Inv.fresh (I:Inv X aI σ H s):H s.heap.objs.size=none:=I.hok.fresh (aD _)
theorem Inv.lstM (I:Inv X aI σ H s)(hH:H l=some (.lst xs)):xs.length≤aA∧∃(its:List af) (n:Nat),gU xs its∧xs.length=its.length∧s.heap.get? l=some { cls:= .type "list",data:= .seq its.toArray n }:=by
 obtain⟨z,its,n,r,e⟩:=I.hok l _ hH;exact⟨z,its,n,r,r.length,e⟩
theorem notLongL (h:n≤aA):kM n=false:=by
 unfold kM;exact qM ⋯
end
inductive rAppend (x:V)(vs:List V)(H:Hp)(Q:VK):Prop
 | mk (l xs y:_)(_:x= .ref l)(_:vs=[y])(_:H l=some (.lst xs))(_:xs.length<aA)(_:Q .non (upd H l (.lst (xs++[y]))))
theorem ia:MtM X "list.append" rAppend:=by
 intro aI s σ H x vs v us Q I rx rv h;obtain⟨l,xs,y,rfl,rfl,hH,hz,q⟩:=h;cases rx;obtain⟨u,rfl,ru⟩:=rv.one;obtain⟨z,its,n,r,hl,e⟩:=I.lstM hH;apply kS F.slot_list_append ⟨_,e,rfl⟩ F.entry_list_append (F.args_list_append_2 _ _) (PySem.list_append l its.toArray n u (by rw[aG];lia)) ⟨e,?_⟩;apply⟨.non,_,I.lset (its':=its++[u]) hH e ∅ (r.append (.cons ru .nil)) ?_,rfl,q⟩;rw[aq,dw];lia
inductive rExtend (x:V)(vs:List V)(H:Hp)(Q:VK):Prop
 | mk (l b xs zs:_)(_:x= .ref l)(_:vs=[.ref b])(_:H l=some (.lst xs))(_:H b=some (.lst zs))(_:xs.length+zs.length≤aA)(_:Q .non (upd H l (.lst (xs++zs))))
theorem mt_extend:MtM X "list.extend" rExtend:=by
 intro aI s σ H x vs v us Q I rx rv h;obtain⟨l,b,xs,zs,rfl,rfl,hH,hB,hz,q⟩:=h;cases rx;obtain⟨u,rfl,ru⟩:=rv.one;cases ru;obtain⟨z,its,n,r,hl,e⟩:=I.lstM hH;obtain⟨z2,its2,n2,r2,hl2,e2⟩:=I.lstM hB;have hsz:its.toArray.size+its2.toArray.size≤aA:=by rw[aG,aG];lia
 have hlong:¬(!its.toArray.isEmpty && kM (its.toArray.size+its2.toArray.size))=true:=by
  rw[notLongL hsz,Bool.and_false];exact bG
 apply kS F.slot_list_extend ⟨_,e,rfl⟩ F.entry_list_extend (F.args_list_extend_2 _ _)
  (AutoSeq1.list_extend_list_list_0 l its.toArray n b its2.toArray n2 hlong (by rw[aG];lia) ⋯) ⟨e,e2,?_⟩
 apply⟨.non,_,I.lset (its':=its++its2) hH e ∅ (r.append r2) ?_,rfl,q⟩;rw[aq];lia
inductive rPopAt (x:V)(vs:List V)(H:Hp)(Q:VK):Prop
 | mk (l xs i k y:_)(_:x= .ref l)(_:vs=[.int i])(_:H l=some (.lst xs))(_: -(2 ^ 63)≤i)(_:i<2 ^ 63)(_:seqIndex? i xs.length=some k)(_:xs[k]? =some y)(_:Q y (upd H l (.lst (xs.eraseIdx k))))
theorem mt_popAt:MtM X "list.pop" rPopAt:=by
 intro aI s σ H x vs v us Q I rx rv h;obtain⟨l,xs,i,k,y,rfl,rfl,hH,h1,h2,hk,hy,q⟩:=h;cases rx;obtain⟨u,rfl,ru⟩:=rv.one;obtain⟨t,rfl⟩:=ru;obtain⟨z,its,n,r,hl,e⟩:=I.lstM hH;obtain⟨w,hw,rw'⟩:=r.get hy;apply kS F.slot_list_pop ⟨_,e,rfl⟩ F.entry_list_pop (F.args_list_pop_2 _ _)
  (MeetsSeq.list_pop_at l its.toArray n i t k w (fitsIndex_both h1 h2) (by rw[aG,←hl];exact hk) (by rw[←iQ];exact hw) (by rw[aG];lia)) ⟨e,?_⟩
 apply⟨y,_,I.lset (its':=its.eraseIdx k) hH e ?_ (r.eraseIdx k) ?_,rw',q⟩
 ·show its.toArray.eraseIdxIfInBounds k=(its.eraseIdx k).toArray
  rw[List.eraseIdxIfInBounds_toArray]
 ·have:=len_erase xs k
  lia
inductive rCat (x:V)(y:V)(H:Hp)(Q:VK):Prop
 | mk (l b xs zs:_)(_:x= .ref l)(_:y= .ref b)(_:H l=some (.lst xs))(_:H b=some (.lst zs))(_:xs.length+zs.length≤aA)(_:∀p,H p=none→Q (.ref p) (upd H p (.lst (xs++zs))))
theorem op_cat:OpR X (ip .Add) rCat:=by
 intro aI s σ H x y v u Q I rx ry h;obtain⟨l,b,xs,zs,rfl,rfl,hH,hB,hz,q⟩:=h;cases rx;cases ry;obtain⟨z,its,n,r,hl,e⟩:=I.lstM hH;obtain⟨z2,its2,n2,r2,hl2,e2⟩:=I.lstM hB;apply PySem.P.add_list e e2 ?_ (by rw[aG,aG];lia);have ea:its.toArray++its2.toArray=(its++its2).toArray:=by simp
 rw[ea];exact⟨.ref _,_,I.lnew (t':=s.toks) (r.append r2) (by rw[aq];lia),rfl,q _ I.fresh⟩
end L2
namespace Att
open PySem PySem.W PySem.Calls PyProof.Rows
theorem pN {P:Params}:∀(ns:List Int) (vs:List af),WellAll P h vs (ns.map WData.int)→IntsAre vs ns:=by
 intro ns
 induction ns with
 | nil =>
  intro vs w;rw[List.map_nil] at w;cases w;exact .nil
 | cons n ns ih =>
  intro vs w;rw[bw] at w;cases w with
  | cons a b =>
   cases a;exact .cons _ _ (ih _ b)
theorem script_of {l:OpenLaw}(hn:l.most=some n){P:Params}{args:List WData}{vals:List af}
  (hpre:l.row.toRowW.claim.pre args=true) (hwl:WellAll P h vals args) :
  ∃a vs ns,vals=[af.ref a]∧args=[WData.list (ns.map WData.int)]∧h.get? a=some { cls:= .type "list",data:= .seq vs.toArray }∧IntsAre vs ns∧ns.length≤n:=by
 have hsh:WShape.hasAll [] args [.list .int]=true:=(pre_splitW hpre).1;have hc:l.pre.holds [] { args:=args }=true:=(pre_splitW hpre).2;obtain⟨d,r,rfl,h1,h2⟩:=hasAllW_cons hsh;obtain rfl:=hasAllW_nil h2;obtain⟨xs,rfl,h3⟩:=hasW_list h1;obtain⟨ns,rfl⟩:=items_int h3;have hlen:ns.length≤n:=by
  unfold OpenLaw.pre at hc;have h4:(WTm.not (.lt (.lit (.int (n:Int))) (.len (.arg 0)))).holds [] { args:=[.list (ns.map .int)] }=true:=by
   have h4:=(holds_andW hc).1;rw[hn] at h4;exact h4
  have h5:=condW_of h4 (w_not (w_lt w_lit (w_len_list (w_arg rfl))));rw[ae] at h5;apply Nat.le_of_not_lt λq=>?_
  have q':(n:Int)<((ns.length:Nat):Int):=by lia
  first
   | (rw[qL q'] at h5;exact qK h5 ↥0)
   | (simp at h5;lia)
 cases hwl with
 | cons w1 w2 =>
  cases w2;cases w1 with
  | list ho hall=>exact⟨_,_,ns,rfl,rfl,ho,pN ns _ hall,hlen⟩
theorem post_true (l:OpenLaw)(args:List WData):l.row.toRowW.claim.post args (.bool true) args=true :=
 postW_of (r:=l.row.toRowW) (X:=(true == true))
  (show WShape.has [] (.bool true) .bool=true by first | rfl | decide | simp[WShape.has,WShape.arms,WShape.armsAll])
  (show(WTm.eq .res (.lit (.bool true))).value [] { args:=args,res:=some (.bool true),after:=args }=some (.bool (true == true)) from w_eq_bool (w_res rfl) w_lit) rfl
theorem attach_call {l:OpenLaw}{q:aK}{d:DefRec}
  (hn:l.most=some n) (hdf:d.params.defaults=[])
  (call:∀ (w:bc) (s₀ s₁:ar) (mg mb:Str→Option af) (fa:ao) (o:Obj) (pm cd doc:af) (a:ao) (vs:List af) (ns:List Int),
   Ground q loose [] XP w s₀ mg mb s₁.heap→YP w s₁.heap →
   s₁.heap.get? fa=some o→o.data= .func (docDef d.name d.params d.body d.scope pm cd doc)→s₁.heap.CodeRec cd d.name→mg d.name=some (.ref fa) →
   s₁.heap.get? a=some { cls:= .type "list",data:= .seq vs.toArray }→IntsAre vs ns→ns.length≤n→s₁.gens= #[] →
   codeAny (bB l.prog w) callerA (.call (.ref fa) ⟨[.ref a],[]⟩) (fun r s'=>r= .ok (.ret (.bool true))∧OldK s₁.heap s'.heap∧s'.os=s₁.os∧AllBare s'.gens) s₁) :
  WalkO q loose XP YP l.row.toRowW d [] (λf vs=>PySem.call f vs):=by
 intro w s₀ s₁ mg mb G Y fa o pm cd doc dV kV ho hd hcd hD hmg hg args vals as hpre hlay hrd hwl hlo;obtain rfl:dV= .none:=Dflts.none hD hdf;obtain rfl:kV= .none:=Dflts.noKw hD;obtain⟨a,vs,ns,rfl,rfl,hobj,hints,hlen⟩:=script_of hn hpre hwl;apply enter_call (kA (call w s₀ s₁ mg mb fa o pm cd doc a vs ns G Y ho (fd_plain hd) hcd hmg hobj hints hlen hg) λr s' hq=>?_);obtain⟨rfl,h2,h3,h4⟩:=hq;exact⟨.inl ⟨.bool true,.bool true,[],rfl,λ_=>rfl,.bool true,post_true l _,λ_=>⟨List.Pairwise.nil,λ_ hm=>(nomatch hm)⟩⟩,h2,h3,h4⟩
end Att
namespace L2
open PySem PySem.Spec PyProof.Rows
theorem vals_ints:∀{vs:List af} {ns:List Int},IntsAre vs ns→gU (ns.map V.int) vs
 | _,_,.nil=> .nil
 | _,_,.cons n t h=> .cons ⟨t,rfl⟩ (vals_ints h)
def Only (H:Hp):Prop:=∀b,H b=none∨∃o xs,H b=some (.frz o (.lst xs))
theorem law_call {mb:Str→Option af}{s₁:ar}{ns:List Int}
  (KX:K.In s₁.heap) (hns:s₁.heap.Ns aX mg) (hb:s₁.heap.Ns builtinsNs mb) (hbb:∀x:Str,x ≠ "__name__" →mb x=kB x) (hlim:s₁.heap.NoLimit) (hg:s₁.gens= #[])
  (ha:s₁.heap.get? a=some { cls:= .type "list",data:= .seq vs.toArray }) (hi:IntsAre vs ns) (hl:ns.length≤aA) (hr:ke k callerA)
  (F:∀base:bM,K.In base→base.Ns aX mg→dz P w K mg base CX k fa fd [x] sp) (hbind:∀(s:ar) (u:af),BindsTo s fd ⟨[u],[]⟩ [(x,u)])
  (hsp:∀H:Hp,Only H→SqL K H a (ns.map V.int)→sp [.ref a] H (λv _=>v= .bl true) λ_ _ _=>False)
  (hCX:∀H e s',CX [] H s₁ (λ_ _ _=>False) e s'→False) :
  codeAny (bB P w) callerA (.call (.ref fa) ⟨[.ref a],[]⟩) (λr s'=>r= .ok (.ret (.bool true))∧OldK s₁.heap s'.heap∧s'.os=s₁.os∧AllBare s'.gens) s₁:=by
 have rv:=vals_ints hi;have lenV:=hi.length;have core:∀H:Hp,Only H→SqL K H a (ns.map V.int)→HOk P w H s₁.heap→(∀b,H b≠none→b=a)→(H a≠none→K.lookup a=none) →
   codeAny (bB P w) callerA (.call (.ref fa) ⟨[.ref a],[]⟩) (λr s'=>r= .ok (.ret (.bool true))∧OldK s₁.heap s'.heap∧s'.os=s₁.os∧AllBare s'.gens) s₁:=by
  intro H hO hS hok hA hK;have base_of:∀{b:ao} {o:Obj},s₁.heap.get? b=some o→H b=none→(hidT s₁.heap H).get? b=some o:=λe n=>hidT_get e n
  have noA:∀{b:ao} {o:Obj} {es:Array DictEntry} {ep:Nat},s₁.heap.get? b=some o→o.data= .dict es ep→H b=none:=λ{b o es ep} e d=>by
   cases q:H b with
   | none=>rfl
   | some u =>
    have e':b=a:=hA b (by rw[q];simp);subst e';rw[ha] at e;cases e;have d':Data.seq vs.toArray _=Data.dict es ep:=d;cases d'
  have nsK:∀{b:ao} {m:Str→Option af},s₁.heap.Ns b m→(hidT s₁.heap H).Ns b m:=λ{b m} ⟨o,es,ep,e,d,r⟩=>⟨o,es,ep,base_of e (noA e d),d,r⟩
  have hKb:K.In (hidT s₁.heap H):=fun b o e=>base_of (KX b o e) (by
   cases q:H b with
   | none=>rfl
   | some u =>
    have e':b=a:=hA b (by rw [q];simp);subst e';rw [hK (by rw [q];simp)] at e;cases e)
  have hM:Mod K mg (hidT s₁.heap H):=⟨hKb,nsK hns,⟨mb,nsK hb,hbb⟩,let ⟨mc,h1,h2⟩:=hlim;⟨mc,nsK h1,h2⟩⟩;have e0:Env0 P w K mg (hidT s₁.heap H) callerA [] s₁ H:=⟨rfl,hM,λb o e=>of_hidT e,Nat.le_of_eq (hidT_size _ _),trivial,λb hb=>qK (show b∈([]:List ao) from hb) ∅,hok,.of_eq hg⟩;apply kA ((F _ hKb (nsK hns)).run callerA [] s₁ H ⟨[.ref a],[]⟩ [.ref a] [.ref a] _ _ hr e0 (hbind s₁ (.ref a)) (.cons rfl .nil) (hsp H hO hS)) λr s' h=>?_
  cases r with
  | error e=>exact(hCX H e s' h).elim
  | ok fl =>
   cases fl with
   | next=>exact eZ h
   | brk=>exact eZ h
   | cont=>exact eZ h
   | ret u =>
    obtain⟨v,H',os,bare,un,hok',r',q⟩:=h;have q':v= .bl true:=q;subst q';obtain rfl:u=af.bool true:=r';apply⟨rfl,OldK.of_keep λb o e=>?_,os,bare⟩;cases q:H b with
    | none=>exact un.keep b o e q (by intro z;exact qK (show b∈([]:List ao) from z) ∅) ∅
    | some u =>
     rcases hO b with z | ⟨ob,xs,z⟩
     ·rw[q] at z;cases z
     ·have z2:=un.frzs b ob _ z
      obtain⟨e1,_⟩:=hok b _ z;obtain⟨e2,_⟩:=hok' b _ z2;rw[e] at e1;cases e1;exact e2
 cases hk:K.lookup a with
 | some o =>
  have e:=KX a o hk;rw[ha] at e;cases e;apply core (λ_=>none) (λ_=> .inl rfl) (.inr ⟨_,vs.toArray,_,hk,rfl,rfl,rfl,by rw[aG,lenV];exact hl,by simpa using rv⟩) (λb u z=>by have z':(none:Option HO)=some u:=z;cases z') (λb z=>qK rfl z) λz=>qK rfl z
 | none =>
  apply core (λb=>if b=a then some (.frz { cls:= .type "list",data:= .seq vs.toArray } (.lst (ns.map V.int))) else none) (λb=>?_) (.inl (.inr ⟨{ cls:= .type "list",data:= .seq vs.toArray },qJ rfl⟩)) (λb u z=>?_) (λb z=>?_) λ_=>hk
  ·by_cases hb:b=a
   ·exact .inr ⟨_,_,qJ hb⟩
   ·exact .inl (qI hb)
  ·by_cases hb:b=a
   ·have z':=(qJ hb).symm.trans z
    cases z';subst hb;exact⟨ha,by rw[ae];exact hl,vs,_,rv,ha⟩
   ·have z':=(qI hb).symm.trans z
    cases z'
  ·by_cases hb:b=a
   ·exact hb
   ·exact qK (qI hb) z
theorem walk_of {l:PySem.W.OpenLaw}{q:aK}{d:DefRec}{K:Params→aj}{CX:bc→CXT}{sp:bc→Sp}
  (hn:l.most=some n) (hn2:n≤aA) (hdf:d.params.defaults=[]) (hr:ke k callerA)
  (hY:∀(w:bc) (h:bM),YP w h→(K w.params).In h)
  (F:∀ (w:bc) (mg:Str→Option af) (fa:ao) (h:bM),(K w.params).In h→h.Ns aX mg→mg d.name=some (.ref fa) →
   ∃fd:aU,(∀(s:ar) (u:af),BindsTo s fd ⟨[u],[]⟩ [(x,u)]) ∧
    ∀ base:bM,(K w.params).In base→base.Ns aX mg→dz l.prog w (K w.params) mg base (CX w) k fa fd [x] (sp w))
  (hsp:∀(w:bc) (H:Hp) (a:ao) (ns:List Int),ns.length≤n→Only H→SqL (K w.params) H a (ns.map V.int)→sp w [.ref a] H (λv _=>v= .bl true) λ_ _ _=>False)
  (hCX:∀(w:bc) (H:Hp) (s:ar) (e:af) (s':ar),CX w [] H s (λ_ _ _=>False) e s'→False) :
  PySem.W.WalkO q loose XP YP l.row.toRowW d [] (λf vs=>PySem.call f vs):=by
 apply Att.attach_call hn hdf λw s₀ s₁ mg mb fa o pm cd doc a vs ns G Y ho hd hcd hmg hobj hints hlen hg=>?_
 have KX:=hY w _ Y;obtain⟨fd,hb,hF⟩:=F w mg fa _ KX G.T.g hmg;exact law_call KX G.T.g G.T.b G.T.builtins G.T.nolimit hg hobj hints (cu hlen hn2) hr hF hb (λH hO hS=>hsp w H a ns hlen hO hS) λH e s'=>hCX w H s₁ e s'
abbrev CX0:CXT:=λ_ _ _ _ _ _=>False
abbrev E0:XK:=λ_ _ _=>False
theorem jh:jQ CX0 X E0:=λ_ _ _ _ _ _ _ h=>h.elim
structure Fun (K:aj)(x qual:Str)(st:cW)(f:ao)(fd:aU):Prop where
 ex:∃(oc:af) (od:Option ao) (kV doc pm:af) (an:Option ao) (cdv ct:af) (osl:Array (Option af)),
  fd=gc x qual (lB st) (km st) (defScope st) .none kV doc pm an cdv ct∧K.lookup f=some ⟨oc,od,.func fd,osl⟩∧jN K cdv qual=true
 kp:eS K (.ref f)=true
theorem Fun.ok (F:Fun K x qual st f fd)(S:cI N ps (defScope st))(len:∀vs H Q E,sp vs H Q E→vs.length=ps.length)
  (hbody:∀ (cdv:af) (A:cq) (outer:List Env) (s:ar) (H:Hp) (vs:List V) (Q:VK) (E:XK),ke k (A.deeper (envOfC qual (defScope st) s.heap.objs.size f cdv))→sp vs H Q E →
   ∃ t,PSs (cxOf CX0 P w K mg base N qual (defScope st) f cdv A outer s H E).nox (km st) t∧t { nx:=fun _ H'=>Q .non H',rt:=Q } (start N vs) H):‹0› (k+1) f fd ps sp:=by
 obtain⟨oc,od,kV,doc,pm,an,cdv,ct,osl,rfl,lk,hcd⟩:=F.ex;apply fn_of lk hcd S len λA outer s H vs Q E hr hsp=>?_
 obtain⟨t,h,q⟩:=hbody cdv A outer s H vs Q E hr hsp;exact⟨t,h.nox,q⟩
theorem Fun.binds (F:Fun K x qual st f fd)
  (h:∀(kV doc pm:af) (an:Option ao) (cdv ct:af) (us:List af),us.length=ps.length→bindArgs (gc x qual (lB st) (km st) (defScope st) .none kV doc pm an cdv ct) ⟨us,[]⟩=hW (ps.zip us)):Binds K fd ps []:=by
 obtain⟨oc,od,kV,doc,pm,an,cdv,ct,osl,rfl,lk,hcd⟩:=F.ex;exact .all (h kV doc pm an cdv ct)
theorem fun_mk {oc:af}{an:Option ao}{kV doc pm cdv ct:af}(l:K.lookup f=some ⟨oc,od,.func (gc x qual (lB st) (km st) (defScope st) .none kV doc pm an cdv ct),osl⟩)
  (c:jN K cdv qual=true) (k:eS K (.ref f)=true):Fun K x qual st f (gc x qual (lB st) (km st) (defScope st) .none kV doc pm an cdv ct):=⟨⟨oc,od,kV,doc,pm,an,cdv,ct,osl,rfl,l,c⟩,k⟩
theorem pv (i:Nat)(hN:autoParam (X.N[i]? =some x) L2.au0._auto_1)(hv:Vis X.env.scope x:=by first | exact Or.inl rfl | exact Or.inr (Or.inl rfl) | exact Or.inr (Or.inr rfl))(hd:autoParam ((x == ("__debug__" :Str))=false) L2.au1._auto_1)
  (hcd:autoParam ((x == ("__classdict__" :Str))=false) L2.au1._auto_1):PE X (.Name x pos) (tVar i):=pe_var hN hv hd hcd
theorem iteT {A B:Prop}(h:A):if true=true then A else B:=by
 rw[qJ rfl];exact h
theorem jC {c A B:Prop}[Decidable c](h1:c→A)(h2:¬c→B):if c then A else B:=by
 by_cases h:c
 ·rw[qJ h]
  exact h1 h
 ·rw[qI h]
  exact h2 h
def cB (H H':Hp):Prop:=∀b o,H b=some o→H' b=some o
theorem cB.refl (H:Hp):cB H H:=λ_ _ h=>h
theorem cB.trans (a:cB H H1)(b:cB H1 H2):cB H H2:=λc o h=>b c o (a c o h)
theorem op_fdivB:OpR X (ip .FloorDiv) (rI (λ_ j=>0<j∧j.natAbs.log2<9000) λi j=> .int (i / j)):=opI λi j _ _ _ _ _ hc q=>by
 have e:i.fdiv j=i / j:=Int.fdiv_eq_ediv_of_nonneg i (Int.le_of_lt hc.1);apply floordiv_int (by have:=hc.1;lia) ?_ (.inl (PyProof.noPylong_of_log2 hc.2));rw[e];exact q
theorem bools_of:∀{bs:List Bool} {us:List af},gU (bs.map V.bl) us→LSm.BoolsAre us bs
 | [],_,.nil=> .nil
 | b::bs,_,.cons r t=>by
  cases(show _=af.bool b from r);exact .cons b (bools_of t)
theorem call_all (hc:X.calm=true):iM X (.builtin "all") (λxs H Q=>∃(p:ao) (bs:List Bool),xs=[.ref p]∧SqL X.K H p (bs.map V.bl)∧Q (.bl (bs.all id)) H):=by
 intro aI s σ H xs us Q I r h;obtain⟨p,bs,rfl,hq,q⟩:=h;obtain⟨u,rfl,ru⟩:=mO r;cases(show u=af.ref p from ru);obtain⟨its,rv,pl,hz⟩:=I.list hq;have hb:=bools_of rv;have hil:s.heap.IsList p its.toArray:=pl.isList;have plt:p<s.heap.objs.size:=by obtain⟨_,e,_⟩:=hil;exact aS e
 apply call_all_walk (gN hil ⟨s.heap.objs.size,[s.heap.objs.size,p],[s.heap.objs.size],its.toArray.size,_,_,fun i=>(bs[i]?).getD true,rfl,
  Walks.list (A:=X.A.in1) (I.ok.hd hc) _ p (cJ plt) its.toArray,⟨⟨_,aQ _ rfl,rfl,rfl⟩,hil.push _⟩,?_,?_⟩)
 ·intro i v s' Q' E' hP hT
  obtain⟨b,e,rfl⟩:=hb.get i v (by simpa using hP);simp only[e,Option.getD_some] at hT;exact gM hT
 ·intro h' tk hk
  have e2:((cS its.toArray.size).all λi=>(bs[i]?).getD true)=bs.all id:=by
   rw[aG,hb.length];exact LSm.range_all bs
  rw[e2];exact⟨.bl _,H,I.kept (LSm.kept_iter hk),rfl,q⟩
theorem op_eqL0 (hu:X.A.units<cLine):OpR X (eR .Eq) (λx y H Q=>∃a b xs,x= .ref a∧y= .ref b∧SqL X.K H a xs∧SqL X.K H b []∧Q (.bl xs.isEmpty) H):=by
 intro aI s σ H x y v u Q I rx ry h;obtain⟨a,b,xs,rfl,rfl,ha,hb,q⟩:=h;cases(show v=af.ref a from rx);cases(show u=af.ref b from ry);obtain⟨its,r1,p1,_⟩:=I.list ha;obtain⟨its2,r2,p2,_⟩:=I.list hb;cases r2;cases r1 with
 | nil=>exact SeqAt.eq_listAt (e:=λ_=>true) p1.isList p2.isList rfl hu (λj h1 _=>qK h1 ∅) (fz I q ∅)
 | cons _ _=>exact SeqAt.eq_list_lengthsAt p1.isList p2.isList ∅ hu (fz I q ∅)
def tyn (H:Hp):V→Option String
 | .non=>some "NoneType"
 | .bl _=>some "bool"
 | .int _=>some "int"
 | .str _=>some "str"
 | .ref a=>match H a with
  | some (.lst _)=>some "list"
  | some (.tup _)=>some "tuple"
  | some (.dK _)=>some "dict"
  | _=>none
 | _=>none
theorem TyOf.byName (h:tyn H v=some T):TyOf K H v (.type T):=by
 cases v with
 | non=>cases h;exact .non
 | bl b=>cases h;exact .bl b
 | int i=>cases h;exact .int i
 | str x=>cases h;exact .str x
 | ref a =>
  simp only[tyn] at h;cases e:H a with
  | none=>rw[e] at h;cases h
  | some o =>
   rw[e] at h;cases o <;> first | (cases h;first | exact .lst e | exact .tup e | exact .dK e) | cases h
 | _=>cases h
theorem kit_tuple (K:aj)(h:T∈["NoneType","bool","int","str","list","tuple","dict"]):cn K (.type T) (.type "tuple")=some (T == "tuple"):=by
 simp only[aw,aO,or_false] at h
 rcases h with rfl | rfl | rfl | rfl | rfl | rfl | rfl <;> kernel_rfl
theorem kit_int (K:aj)(h:T∈["NoneType","bool","int","str","list","tuple","dict"]):cn K (.type T) (.type "int")=some (T == "int" || T == "bool"):=by
 simp only[aw,aO,or_false] at h
 rcases h with rfl | rfl | rfl | rfl | rfl | rfl | rfl <;> kernel_rfl
theorem kit_bool (K:aj)(h:T∈["NoneType","bool","int","str","list","tuple","dict"]):cn K (.type T) (.type "bool")=some (T == "bool"):=by
 simp only[aw,aO,or_false] at h
 rcases h with rfl | rfl | rfl | rfl | rfl | rfl | rfl <;> kernel_rfl
theorem tyn_mem (h:tyn H v=some T):T∈["NoneType","bool","int","str","list","tuple","dict"]:=by
 cases v with
 | non=>cases h;simp
 | bl b=>cases h;simp
 | int i=>cases h;simp
 | str x=>cases h;simp
 | ref a =>
  simp only[tyn] at h;cases e:H a with
  | none=>rw[e] at h;cases h
  | some o =>
   rw[e] at h;cases o <;> first | (cases h;simp;done) | cases h
 | _=>cases h
theorem lY:iM X (.builtin "isinstance") (λxs H Q=>∃x n t b,xs=[x,.ty n]∧TyOf X.K H x t∧cn X.K t (.type n)=some b∧Q (.bl b) H):=by
 intro aI s σ H xs us Q I r h;obtain⟨x,n,t,b,rfl,ty,e,q⟩:=h;obtain⟨u,w',rfl,ru,rw'⟩:=vals2 r;cases(show w'=af.type n from rw');exact isinst_ok I ru ty e λtk=>⟨.bl b,H,I.tok tk,rfl,q⟩
theorem call_isTup:iM X (.builtin "isinstance") (λxs H Q=>∃x T,xs=[x,.ty "tuple"]∧tyn H x=some T∧Q (.bl (T == "tuple")) H) :=
 λaI s σ H xs us Q I r ⟨x,T,e,hT,q⟩=>lY aI s σ H xs us Q I r ⟨x,_,_,_,e,.byName hT,kit_tuple _ (tyn_mem hT),q⟩
theorem call_isInt:iM X (.builtin "isinstance") (λxs H Q=>∃x T,xs=[x,.ty "int"]∧tyn H x=some T∧Q (.bl (T == "int" || T == "bool")) H) :=
 λaI s σ H xs us Q I r ⟨x,T,e,hT,q⟩=>lY aI s σ H xs us Q I r ⟨x,_,_,_,e,.byName hT,kit_int _ (tyn_mem hT),q⟩
theorem call_isBool:iM X (.builtin "isinstance") (λxs H Q=>∃x T,xs=[x,.ty "bool"]∧tyn H x=some T∧Q (.bl (T == "bool")) H) :=
 λaI s σ H xs us Q I r ⟨x,T,e,hT,q⟩=>lY aI s σ H xs us Q I r ⟨x,_,_,_,e,.byName hT,kit_bool _ (tyn_mem hT),q⟩
inductive rCatA (K:aj)(x:V)(y:V)(H:Hp)(Q:VK):Prop
 | mk (a b xs ys:_)(_:x= .ref a)(_:y= .ref b)(_:H a=some (.tup xs))(_:H b=some (.tup ys))(_:xs.length+ys.length≤aA)(_:∀p H',cB H H'→H' p=some (.tup (xs++ys))→Q (.ref p) H')
theorem op_catA:OpR X (ip .Add) (rCatA X.K):=by
 intro aI s σ H x y v u Q I rx ry h;obtain⟨a,b,xs,ys,rfl,rfl,ha,hb,hz,q⟩:=h;cases xs with
 | cons x xs =>
  apply op_catT aI s σ H (.ref a) (.ref b) v u Q I rx ry ⟨a,b,_,ys,rfl,rfl,SqT.of ha,SqT.of hb,∅,hz,λe=>?_,λ_ p hp=>?_⟩
  ·subst e
   exact q a H (cB.refl H) (by rw[eY];exact ha)
  ·exact q p _ (λc o e=>by rw[bo (aV e hp)];exact e) aR
 | nil =>
  cases(show v=af.ref a from rx);cases(show u=af.ref b from ry);obtain⟨its,r1,p1,_⟩:=I.tuple (SqT.of (K:=X.K) ha);obtain⟨its2,r2,p2,_⟩:=I.tuple (SqT.of (K:=X.K) hb);cases r1;obtain⟨⟨c1,d1,t1,l1⟩,o1,k1,n1,g1⟩:=id p1;obtain⟨⟨c2,d2,t2,l2⟩,o2,k2,n2,g2⟩:=id p2;simp only at k1 g1 k2 g2;subst k1 g1 k2 g2;exact concat_meets ⟨_,o1,rfl⟩ ⟨_,o2,rfl⟩ noFill_tuple_add seq_tuple_add PySem.F.slot_tuple_add ma (lL _ _)
   (tuple_addW0 a b _ its2.toArray n1 n2 d1 d2 l1 l2 ∅) ⟨o1,o2,⟨.ref b,H,I,rfl,q b H (cB.refl H) hb⟩⟩
def pU (X:Cx)(scope:jV)(cl:List (Str×ao))(C:ao)(N:List Str)(s:ar)(H:Hp)(ex:List ao):Cx :=
 { X with N:=N,s₀:=s,H₀:=H,env:=kz scope cl C X.env,outer:=X.stack,ex:=ex,fn:=λ_=>false,pn:=[],xe:=λ_ _=>False }
theorem closure_has (hf:∀y∈scope.names,y.2= .free→∃c,env.cells.lookup y.1=some c) :
  ∃cl,closureFor scope env=hW cl∧(∀x c,cl.lookup x=some c→env.cells.lookup x=some c)∧∀y∈scope.names,y.2= .free→cl.lookup y.1=env.cells.lookup y.1:=by
 have aux:∀(names:List (Str×dD)) (acc:List (Str×ao)),(∀y∈names,y.2= .free→∃c,env.cells.lookup y.1=some c)→(∀x c,acc.lookup x=some c→env.cells.lookup x=some c) →
   ∃ cl,(forIn names acc fun x r=>match x with
     | (name,kind)=>if (kind == dD.free)=true then (cellOf env name >>= fun c=>hW (ForInStep.yield ((name,c)::r))) else hW (ForInStep.yield r):Sem (List (Str×ao)))=hW cl ∧
    (∀x c,cl.lookup x=some c→env.cells.lookup x=some c)∧(∀x c,acc.lookup x=some c→cl.lookup x=some c)∧∀y∈names,y.2= .free→cl.lookup y.1=env.cells.lookup y.1:=by
  intro names
  induction names with
  | nil=>intro acc _ ha;exact⟨acc,rfl,ha,λ_ _ e=>e,λy hy=>qK hy ∅⟩
  | cons z r ih =>
   intro acc hn ha;obtain⟨n,k⟩:=z;have hr:∀y∈r,y.2= .free→∃c,env.cells.lookup y.1=some c:=λy hy=>hn y (aH _ hy)
   by_cases hk:k= .free
   ·subst hk
    obtain⟨c,hc⟩:=hn (n,.free) aW rfl;have hc:env.cells.lookup n=some c:=hc;have ha':∀x d,((n,c)::acc).lookup x=some d→env.cells.lookup x=some d:=λx d e=>by
     rw[ff] at e;cases hx:x == n with
     | true =>
      rw[hx] at e;have e':c=d:=bF e;have ex:x=n:=eq_of_beq hx;rw[ex,←e'];exact hc
     | false=>rw[hx] at e;exact ha x d e
    obtain⟨cl,e1,e2,e3,e4⟩:=ih ((n,c)::acc) hr ha';have kQ:cellOf env n=hW c:=by unfold cellOf;rw[hc]
    apply⟨cl,?_,e2,λx d e=>?_,λy hy hy2=>?_⟩
    ·rw[List.forIn_cons]
     show((if (dD.free == dD.free)=true then (cellOf env n >>= λc=>hW (ForInStep.yield ((n,c)::acc))) else hW (ForInStep.yield acc)) >>= _)=_;rw[qJ (by decide:(dD.free == dD.free)=true),kQ];exact e1
    ·have h1:((n,c)::acc).lookup x=some (if x == n then c else d):=by
      rw[ff];cases hx:x == n with
      | true=>rfl
      | false=>exact e
     have h2:=e3 x _ h1;have h3:=e2 x _ h2;have h4:=ha x d e;rw[h3] at h4;rw[h2];exact h4
    ·rcases aw.mp hy with rfl | hy3
     ·have h1:((n,c)::acc).lookup n=some c:=by rw[ff,beq_self_eq_true]
      show cl.lookup n=_;rw[e3 n c h1,hc]
     ·exact e4 y hy3 hy2
   ·have hb:(k == dD.free)=false:=by simpa using hk
    obtain⟨cl,e1,e2,e3,e4⟩:=ih acc hr ha;apply⟨cl,?_,e2,e3,λy hy hy2=>?_⟩
    ·rw[List.forIn_cons]
     show((if (k == dD.free)=true then (cellOf env n >>= λc=>hW (ForInStep.yield ((n,c)::acc))) else hW (ForInStep.yield acc)) >>= _)=_;rw[hb];exact e1
    ·rcases aw.mp hy with rfl | hy3
     ·exact qK hy2 hk
     ·exact e4 y hy3 hy2
 obtain⟨cl,e1,e2,_,e4⟩:=aux scope.names [] hf λx c e=>by cases e
 apply⟨cl,Eq.trans ?_ e1,e2,e4⟩;unfold closureFor
 first
  | rfl
  | (simp only[bind_pure];done)
  | (simp only[bind_pure];rfl)
  | (simp only [bind_pure]
     congr 1
     funext x r
     obtain ⟨n,k⟩:=x;cases (k == dD.free) <;> rfl)
theorem nX {env:Env}:∀{names:List (Str×dD)} {x:Str} {k':dD},
  (names.map λ(n,k)=>if (k == dD.free && env.scope.kind == .function && env.kindOf n == some .cell) then (n,dD.cell) else (n,k)).lookup x=some k' →
  names.lookup x=some k'∨(names.lookup x=some .free∧k'= .cell)
 | [],_,_,h=>by simp at h
 | (n,k)::r,x,k',h=>by
  have ih:= @nX env r x k';rw[bw] at h;show gr x ((n,k)::r)=_∨(gr x ((n,k)::r)=_∧_);rw[ff]
  by_cases hq:(k == dD.free && env.scope.kind == .function && env.kindOf n == some .cell)=true
  ·have g:gr x ((if (k == dD.free && env.scope.kind == .function && env.kindOf n == some .cell)=true then (n,dD.cell) else (n,k))::_)=_:=h
   rw[qJ hq,ff] at g;have hk:k= .free:=by
    rw[ck,ck] at hq;exact eq_of_beq hq.1.1
   cases hx:x == n with
   | true=>rw[hx] at g;rw[hk];exact .inr ⟨rfl,(bF g).symm⟩
   | false=>rw[hx] at g;exact ih g
  ·have g:gr x ((if (k == dD.free && env.scope.kind == .function && env.kindOf n == some .cell)=true then (n,dD.cell) else (n,k))::_)=_:=h
   rw[qI hq,ff] at g;cases hx:x == n with
   | true=>rw[hx] at g;exact .inl g
   | false=>rw[hx] at g;exact ih g
theorem oo {env:Env}(hk:env.scope.kind= .function){x:Str}(hx:env.kindOf x=some .cell):∀{names:List (Str×dD)},names.lookup x=some .free →
  (names.map λ(n,k)=>if (k == dD.free && env.scope.kind == .function && env.kindOf n == some .cell) then (n,dD.cell) else (n,k)).lookup x=some .cell
 | [],h=>by simp at h
 | (n,k)::r,h=>by
  have ih:= @oo env hk x hx r;show gr x ((if (k == dD.free && env.scope.kind == .function && env.kindOf n == some .cell)=true then (n,dD.cell) else (n,k))::_)=some dD.cell;rw[ff] at h;cases hxn:x == n with
  | true =>
   rw[hxn] at h;have ek:k= .free:=bF h;have en:x=n:=eq_of_beq hxn;subst ek en;rw[qJ (by rw[hk,hx];rfl),ff,beq_self_eq_true]
  | false =>
   rw[hxn] at h
   by_cases hq:(k == dD.free && env.scope.kind == .function && env.kindOf n == some .cell)=true
   ·rw[qJ hq,ff,hxn];exact ih h
   ·rw[qI hq,ff,hxn];exact ih h
def PTs (X:Cx)(ifs:List Expr)(t:TT):Prop :=
 ∀(aI:List (ao×Obj)) (s:ar) (σ:St) (H:Hp) (Q:Bool→Hp→Prop),Inv X aI σ H s→t σ H Q →
  aT (bB X.prog X.w) X.A (forIn ifs true λc r=>if r=true then do let ok ← isTrue c X.env (dU c X.env);hW (ForInStep.yield ok) else hW (ForInStep.yield r)) (TP X aI σ Q) X.xe s
def tNoIf:TT:=λ_ H Q=>Q true H
theorem jj {A B:Hp→Prop}(h:A H):tNoIf σ H λb H4=>if b=true then A H4 else B H4:=by
 show if true=true then A H else B H;rw[qJ rfl];exact h
theorem ki:PTs X [] tNoIf:=λ_ _ _ H _ I h=>wpAny_tests_nil ⟨H,I,h⟩
theorem pts_one {c:Expr}{t:TT}(h:PT X c t):PTs X [c] t:=λaI s σ H Q I q=>wpAny_tests_one (h aI s σ H Q I q)
theorem HOk.take (x:HOk P w H h)(hn:H a=none)(new:iu P w (upd H a o) h a o):HOk P w (upd H a o) h:=λb u e=>by
 by_cases hb:b=a
 ·subst hb;rw[aR] at e;cases e;exact new
 ·rw[bo hb] at e
  exact(x b u e).stay (λ_ _ _ q=>q) (λc q=>by rw[bo (aV q hn)];exact q) λc xs q=>by rw[bo (aV q hn)];exact q
def gS (σ:St)(js:List Nat):St:=js.map λj=>(σ[j]?).getD none
def CompW (js:List Nat)(tt:TT)(te:TE)(σ:St)(Q:VK)(J:It)(H1:Hp):Prop:=∃W:Nat→Nat→List V→Hp→Prop,(∃m,W 0 m [] H1)∧∀i m ys H2,W i m ys H2 →
 (J.stop i H2∧∀D,H2 D=none→Q (.ref D) (upd H2 D (.lst ys))) ∨
 (J.go i H2∧ys.length<aA∧∃ N:List V→Hp→Prop,(∀ ys' H',N ys' H'→∃ m',m'<m∧W (i+1) m' ys' H')∧∀ x H3,J.yld i H2 x H3→tt (some x::gS σ js) H3 fun b H4 =>
  if b=true then te (some x::gS σ js) H4 fun y H5=>N (ys++[y]) H5 else N ys H4)
def tComp (wi:TI)(js:List Nat)(tt:TT)(te:TE):TE:=λσ H Q=>wi σ H λJ H1=>CompW js tt te σ Q J H1
abbrev lobj (us:List af)(n:Nat):Obj:={ cls:= .type "list",data:= .seq us.toArray n }
abbrev oG (prog:aK)(w:bc)(A:cq)(env:Env)(R:Result→ar→Prop):af→ar→Prop:=notedBy (bB prog w) A env λx t=>R (.error x) t
theorem loop_any {it acc:af}(J:Nat→ar→Prop)
  (step:∀ k t,J k t→aT (bB prog w) A (pyNext it) (fun r t1=>match r with
   | none=>R (.ok .next) t1
   | some v=>aT (bB prog w) A (lG tg it v) (fun _ t2=>aT (bB prog w) A (assign tg env v) (fun _ t3 =>
     aT (bB prog w) A (forIn ifs true fun c b=>if b=true then do let z ← isTrue c env (dU c env);hW (ForInStep.yield z) else hW (ForInStep.yield b)) (fun z t4 =>
      if z=true then aT (bB prog w) A (dU elt env) (λy t5=>aT (bB prog w) A (call (.builtin "list.append") [acc,y]) (λ_ t6=>∃m,m<k∧J m t6) (oG prog w A env R) t5) (oG prog w A env R) t4
      else ∃ m,m<k∧J m t4) (oG prog w A env R) t3) (oG prog w A env R) t2) (oG prog w A env R) t1) (oG prog w A env R) t)
  (k:Nat) (h:J k s):codeAny (bB prog w) A (.compLoop (.ListComp elt [⟨tg,iter,ifs,0⟩] scope pos) 0 it acc env) R s:=by
 apply codeAny_loop rfl J (λk t hJ=>?_) k h;show aT _ A ((compTurn (.ListComp elt [⟨tg,iter,ifs,0⟩] scope pos) 0 it acc env).onRaise (λy=>do noteFrame y env;theTreesLotGoes y)) _ _ t;apply wpAny_noted ?_;rw[compTurn_list];apply ak (wpAny_standAt (ak (dO (step k t hJ) (λr t1 q1=>?_) λ_ _ f=>f)));cases r with
 | none=>exact aN q1
 | some v =>
  apply ak (dO q1 (λ_ t2 q2=>?_) λ_ _ f=>f);apply ak (dO q2 (λ_ t3 q3=>?_) λ_ _ f=>f);apply ak (dO q3 (λz t4 q4=>?_) λ_ _ f=>f);cases z with
  | false=>exact aN ⟨rfl,q4⟩
  | true=>exact ak (ak (dO q4 (λy t5 q5=>ak (dO q5 (λ_ t6 q6=>aN (aN ⟨rfl,q6⟩)) λ_ _ f=>f)) λ_ _ f=>f))
def CompWT (n:Nat)(g:TG)(js:List Nat)(tt:TT)(te:TE)(σ:St)(Q:VK)(J:It)(H1:Hp):Prop:=∃W:Nat→Nat→List V→Hp→Prop,(∃m,W 0 m [] H1)∧∀i m ys H2,W i m ys H2 →
 (J.stop i H2∧∀D,H2 D=none→Q (.ref D) (upd H2 D (.lst ys))) ∨
 (J.go i H2∧ys.length<aA∧∃ N:List V→Hp→Prop,(∀ ys' H',N ys' H'→∃ m',m'<m∧W (i+1) m' ys' H')∧∀ x H3,J.yld i H2 x H3→∀ v0:St,v0.length=n→g x (v0++gS σ js) H3 fun σ4 H4 =>
  (∃ v1:St,v1.length=n∧σ4=v1++gS σ js)∧tt σ4 H4 fun b H5=>if b=true then te σ4 H5 fun y H6=>N (ys++[y]) H6 else N ys H5)
def cxC (XE:List (Str×ao)→ao→af→ar→Prop)(X:Cx)(scope:jV)(cl:List (Str×ao))(C:ao)(N:List Str)(s:ar)(H:Hp)(ex:List ao):Cx :=
 { X with N:=N,s₀:=s,H₀:=H,env:=kz scope cl C X.env,outer:=X.stack,ex:=ex,fn:=λ_=>false,pn:=[],xe:=XE cl C }
theorem pX {Q:VK}{use:Option (af→Sem Unit)}{R:af→ar→Prop}{xs:List Str}
  (hc:X.calm=true) (hi:PI X tg iter wi)
  (kQ:∀y∈scope.names,y.2≠ .cell) (mF:scope.kind= .function) (lI:∀y∈scope.names,y.2= .local→scope.names.lookup y.1=some .local)
  (hfr:∀y∈scope.names,y.2= .free→X.env.scope.names.lookup y.1=some .cell) (hjs:js.map (λj=>X.N[j]?)=fr.map some) (hfv:∀y∈fr,scope.names.lookup y=some .free)
  (hg:∀cl C s' H' ex,PG (cxC XE X scope cl C (xs++fr) s' H' ex) tg g)
  (hb:∀cl C s' H' ex,PASS cl C s' H' ex→PE (cxC XE X scope cl C (xs++fr) s' H' ex) elt te∧PTs (cxC XE X scope cl C (xs++fr) s' H' ex) ifs tt)
  (hp:∀cl C aI σ H2 s2 fp,Inv X aI σ H2 s2→(∀b∈fp,b∈X.ex∨X.s₀.heap.objs.size≤b)→s2.heap.objs.size≤C→PASS cl C s2 H2 fp)
  (hxe:∀cl C D e s',XE cl C e s'→oG X.prog X.w X.A (kz scope cl C X.env) (compPost (bB X.prog X.w) X.A X.xe use R D C) e s')
  (hCW:∀σ Q J H1,CW σ Q J H1→CompWT xs.length g js tt te σ Q J H1) (I:Inv X aI σ H s) (h:wi σ H λJ H1=>CW σ Q J H1)
  (fin:∀(s4:ar) (H5:Hp) (D C:ao) (mC:Str→Option af),s4.heap.Ns C mC→Inv X aI σ H5 s4→H5 C=none→C≠X.env.locals→C ∉ X.fs→(∀p∈X.pn++aI,p.1≠C)→(∀y c,X.env.cells.lookup y=some c→c≠C)→X.s₀.heap.objs.size≤C→Q (.ref D) H5→compPost (bB X.prog X.w) X.A X.xe use R (.ref D) C (.ok .next) s4)
  (hs:autoParam (∀z,gO iter X.env z=hW z) L2.au2._auto_1) :
  aT (bB X.prog X.w) X.A (comprehension (.ListComp elt [⟨tg,iter,ifs,0⟩] scope pos) scope X.env pos' (newList []) false (dU iter X.env) use) R X.xe s:=by
 have hXk:X.env.scope.kind= .function:=I.ok.kind;obtain⟨cl,hclos,c1,c2⟩:=closure_has (scope:=scope) (env:=X.env) λy hy hk=>I.ok.has _ (.inl (hfr y hy hk))
 apply wpAny_comprehension_free rfl hs hclos mF lI (thn (hi aI s σ H _ I h) λxv s1 h1=>thn h1 λitv s2 h2=>?_);obtain⟨it,fp,tn,J,H2,rfl,I2,T,st2,f2,hcw⟩:=h2;obtain⟨W,⟨m0,w0⟩,turn⟩:=hCW _ _ _ _ hcw;apply fW (wpAny_newFunctionEnv kQ (by intro y hy;simp at hy) (λhA nsA sbA=>?_) mF)
 dsimp only at nsA sbA ⊢
 generalize hG:s2.heap.push { cls:= .type "list",dict:=none,data:= .seq ([]:List af).toArray }=G at nsA sbA ⊢;have hC:G.objs.size=s2.heap.objs.size+1:=by rw[←hG,dJ]
 have hDC:s2.heap.objs.size≠G.objs.size:=by rw[hC];exact cJ (Nat.lt_succ_self _)
 have small:∀b o,s2.heap.get? b=some o→b≠G.objs.size∧b≠s2.heap.objs.size:=λb o e=>⟨by rw[hC];exact cJ (Nat.lt_succ_of_lt (aS e)),cJ (aS e)⟩
 have old:∀b o,s2.heap.get? b=some o→hA.get? b=some o:=λb o e=>sbA.extBut b o (small b o e).1 (av _ (hG ▸ av _ e))
 have hDA:hA.get? s2.heap.objs.size=some (lobj [] 0):=sbA.extBut _ _ hDC (av _ (hG ▸ aQ _ rfl));have fpo:∀b∈fp,∃o,s2.heap.get? b=some o:=λb hb=>let ⟨o,e,_⟩:=T.obj _ _ st2 b hb;⟨o,e⟩
 have celo:∀y c,cl.lookup y=some c→∃o,s2.heap.get? c=some o:=λy c e=>let ⟨_,o,ho,_⟩:=I2.cell y c (c1 y c e);⟨o,ho⟩
 have ok':(cxC XE X scope cl G.objs.size (xs++fr) s2 H2 fp).Ok:=by
  apply⟨I2.ok.mod,mF,I2.ok.glob,I2.ok.blt,?_,λa b c e1 e2=>I2.ok.inj a b c (c1 a c e1) (c1 b c e2),λy hy=>?_,λ_ _ z=>qK z (by intro q;cases q),I2.ok.hd,I2.ok.frames,.inl rfl,λb hb=>?_,I2.bs,cu I2.ok.bsz I2.sz,λb o e hb=>?_,λb hb hz=>?_,I2.stack,I2.stkFree⟩
  ·show s2.heap.objs.size≤G.objs.size
   rw[hC];exact jR _
  ·have hy:(relabel scope X.env).names.lookup y=some .cell∨(relabel scope X.env).names.lookup y=some .free:=hy
   have key:scope.names.lookup y=some .free:=by
    rcases hy with hy | hy
    ·rcases nX hy with q | ⟨q,_⟩
     ·exact qK rfl (kQ _ (fJ q))
     ·exact q
    ·rcases nX hy with q | ⟨q,_⟩
     ·exact q
     ·exact q
   have hm:=fJ key;obtain⟨c,e⟩:=I.ok.has y (.inl (hfr _ hm rfl));exact⟨c,(c2 _ hm rfl).trans e⟩
  ·obtain⟨o,e⟩:=fpo b hb
   exact⟨(small b o e).1,λy c q=>(f2 b hb).2.2.2.2.1 y c (c1 y c q)⟩
  ·obtain⟨_,_,_,f3,_⟩:=f2 b hb
   rcases f3 with f3 | f3
   ·exact I2.ok.noex b o e f3
   ·exact qK (bV (aS e) (cu I2.ok.bsz f3)) (gq _)
  ·obtain⟨_,n1,n2,_⟩:=f2 b hb
   exact(aw.mp (I2.stkSub b hz)).elim n1 n2
 have nofs:s2.heap.objs.size ∉ frs X.stack:=λhz=>by
  obtain⟨_,o,ho,_⟩:=I2.stack.mem hz;exact gq _ (aS ho)
 have lenB:(gS σ js).length=fr.length:=by
  have e:=qO gu hjs;rw[ae,ae] at e;unfold gS;rw[ae];exact e
 have start':∀t,Inv (cxC XE X scope cl G.objs.size (xs++fr) s2 H2 fp) [(s2.heap.objs.size,lobj [] 0)] ((xs.map λ_=>none)++gS σ js) H2 { s2 with heap:=hA,toks:=t }:=λt=>by
  apply⟨ok',rfl,I2.bare,Un.kept old,⟨_,nsA,λi y v e1 e2 e3=>?_⟩,λy c e=>?_,I2.hok.fresh (by rw[hC];exact jR _),λy c e=>I2.freeC y c (c1 y c e),λp hp=>?_,I2.hok.kept old,?_⟩
  ·by_cases hix:i<xs.length
   ·rw[bI (by rw[ae];exact hix),aE,gE hix] at e2
    cases e2
   ·obtain⟨i,rfl⟩:∃j,i=xs.length+j:=⟨i - xs.length,⋯⟩
    have e1:(xs++fr)[xs.length+i]? =some y:=e1;have e1:fr[i]? =some y:=by rw[bh ⋯,show xs.length+i - xs.length=i by lia] at e1;exact e1
    have e2:(gS σ js)[i]? =some (some v):=by rw[bh (by rw[ae];lia),ae,show xs.length+i - xs.length=i by lia] at e2;exact e2
    unfold gS at e2;rw[aE] at e2;obtain⟨j,ej,e2⟩:=aY.mp e2;have hN:X.N[j]? =some y:=by
     have q:=qO (λl=>l[i]?) hjs;simp only[aE,ej,e1,Option.map_some] at q;exact bF q
    have hσ:σ[j]? =some (some v):=by
     cases z:σ[j]? with
     | none=>rw[z] at e2;cases e2
     | some w=>rw[z] at e2;exact qO some e2
    have hfree:=hfv y (aC e1);have hm:=fJ hfree;have hce:X.env.scope.names.lookup y=some .cell:=hfr _ hm rfl;obtain⟨m,_,hl⟩:=I2.loc;obtain⟨u,ru,look⟩:=hl j y v hN hσ (.inr (.inl hce));apply⟨u,ru,.inr ⟨.inl (oo hXk hce hfree),?_⟩⟩
    rcases look with ⟨k,_⟩ | ⟨_,c,ec,ho⟩
    ·have k:X.env.scope.names.lookup y=some .local:=k
     rw[hce] at k;cases k
    ·obtain⟨o,ho,hd⟩:=ho
     exact⟨c,(c2 _ hm rfl).trans ec,o,old c o ho,hd⟩
  ·obtain⟨v,o,ho,hd⟩:=I2.cell y c (c1 y c e)
   exact⟨v,o,old c o ho,hd⟩
  ·have hp:p∈[(s2.heap.objs.size,lobj [] 0)]:=hp
   have e:=aB.mp hp;subst e;exact⟨hDA,I2.hok.fresh (aD _),hDC,nofs,λv z=>by cases z⟩
  ·show((xs.map λ_=>none)++gS σ js).length=(xs++fr).length
   rw[aq,aq,ae,lenB]
 have fok:∀{us:List af} {n:Nat} {H':Hp},(∀b∈fp,H' b=none)→∀b∈fp,FpOk (cxC XE X scope cl G.objs.size (xs++fr) s2 H2 fp) [(s2.heap.objs.size,lobj us n)] H' b:=λ{us n H'} hn b hb=>by
  obtain⟨o,e⟩:=fpo b hb;apply⟨hn b hb,(small b o e).1,λhz=>(aw.mp (I2.stkSub b hz)).elim (f2 b hb).2.1 (f2 b hb).2.2.1,.inl hb,λy c q=>(f2 b hb).2.2.2.2.1 y c (c1 y c q),λp hp=>?_⟩;have hp:p∈[(s2.heap.objs.size,lobj us n)]:=hp;have ep:=aB.mp hp;subst ep;exact λz=>(small b o e).2 z.symm
 have hpass:=hp cl G.objs.size aI σ H2 s2 fp I2 (λb hb'=>(f2 b hb').2.2.2.1) (by rw[hC];exact jR _);have loop:∀sB:ar,(∃t,sB={ s2 with heap:=hA,toks:=t }) →
   codeAny (bB X.prog X.w) X.A (.compLoop (.ListComp elt [⟨tg,iter,ifs,0⟩] scope pos) 0 (.ref it) (.ref s2.heap.objs.size) (kz scope cl G.objs.size X.env))
    (compPost (bB X.prog X.w) X.A X.xe use R (.ref s2.heap.objs.size) G.objs.size) sB:=by
  rintro sB ⟨t,rfl⟩;apply loop_any (λk s'=>∃i ys us n v0 H',v0.length=xs.length∧Inv (cxC XE X scope cl G.objs.size (xs++fr) s2 H2 fp) [(s2.heap.objs.size,lobj us n)] (v0++gS σ js) H' s'∧gU ys us∧ys.length≤aA∧tn i s'.heap∧(∀b∈fp,H' b=none)∧W i k ys H') ?_ m0
   ⟨0,[],[],0,xs.map λ_=>none,H2,ae ..,start' t,.nil,dG _,T.keep _ _ _ st2 λb hb o e=>old b o e,λb hb=>(f2 b hb).1,w0⟩
  rintro k s3 ⟨i,ys,us,n,v0,H3,hv0,I3,rv,hlen,st3,fr3,w3⟩
  rcases turn i k ys H3 w3 with ⟨stop,qn⟩ | ⟨go,hlt,N',hN',step⟩
  ·apply thn (T.done (cxC XE X scope cl G.objs.size (xs++fr) s2 H2 fp) rfl rfl rfl hc i _ s3 _ H3 _ I3 (fok fr3) st3 stop) λr s4 hz0=>?_
   obtain⟨hr,I4⟩:=hz0;subst hr;obtain⟨mC,hnC,_⟩:=id I4.loc;obtain⟨pD,nD,_,_,_⟩:=I4.pin (s2.heap.objs.size,lobj us n) (by show _∈[]++[_];simp);have pD:s4.heap.get? s2.heap.objs.size=some (lobj us n):=pD;have nD:H3 s2.heap.objs.size=none:=nD;have nC:H3 G.objs.size=none:=I4.free;have D2:∀b o,s2.heap.get? b=some o→b≠s2.heap.objs.size:=λb o e=>(small b o e).2
   have base4:Un (frs X.stack) fp H2 H3 s2.heap s4.heap:=I4.base;have u4:Un (frs X.stack) fp H2 (upd H3 s2.heap.objs.size (.lst ys)) s2.heap s4.heap :=
    {keep:=base4.keep
     slot:=base4.slot
     free:=λb o e nb hx'=>by rw[bo (D2 b o e)];exact base4.free b o e nb hx'
     there:=base4.there
     tups:=λb xs e=>by have q:=base4.tups b xs e;rw[bo (aV q nD)];exact q
     frzs:=λb o u e=>by have q:=base4.frzs b o u e;rw[bo (aV q nD)];exact q
     tbls:=fun b ps e=>by obtain ⟨more,q⟩:=base4.tbls b ps e;exact ⟨more,by rw [bo (aV q nD)];exact q⟩ }
   have I5:Inv X aI σ (upd H3 s2.heap.objs.size (.lst ys)) s4:=I2.call' (s':=s4) (ch:=fp) I4.os u4 (I4.hok.take nD ⟨hlen,us,n,rv,pD⟩) I4.bare λb hb=>by
    obtain⟨_,g1,_,g3,g4,g5⟩:=f2 b hb;exact⟨g3,g1,g4,g5⟩
   have locC:G.objs.size≠X.env.locals:=λz=>by
    obtain⟨_,⟨o,_,_,ho,_⟩,_⟩:=id I2.loc;exact(small _ o ho).1 z.symm
   have fsC:G.objs.size ∉ X.fs:=λhz=>by
    obtain⟨_,o,ho,_⟩:=I2.ok.funs.mem hz;have:=bV (aS ho) I2.sz;rw[hC] at this;exact gq _ (Nat.lt_of_succ_lt this)
   have pinX:∀p∈X.pn++aI,p.1≠G.objs.size:=λp hp=>(small _ _ (I2.pin p hp).1).1
   have nCu:(upd H3 s2.heap.objs.size (.lst ys)) G.objs.size=none:=by rw[bo (cY hDC)];exact nC
   apply fin s4 _ _ _ mC hnC I5 nCu locC fsC pinX (λy c q z=>?_) (cu I2.sz (by rw[hC];exact jR _)) (qn _ nD);obtain⟨v,o,ho,_⟩:=I2.cell y c q;exact(small c o ho).1 z
  ·apply thn (T.item (cxC XE X scope cl G.objs.size (xs++fr) s2 H2 fp) rfl rfl rfl hc i _ s3 _ H3 _ I3 (fok fr3) st3 go) λr s4 hz0=>?_
   obtain⟨u,hr,h4⟩:=hz0;subst hr;apply thn h4 λ_ s5 hz0=>?_
   obtain⟨v,H5,I5,r5,y5,st5,fr5⟩:=hz0;have I5':=I5.pinned (fok fr5) (T.obj _ _ st5);apply dO (hg cl G.objs.size s2 H2 fp _ s5 _ H5 v u _ I5' r5 (step v H5 y5 v0 hv0)) (λ_ s6 hz0=>?_) λe t f=>hxe _ _ _ e t f
   obtain⟨σ6,H6,I6,⟨w1,hw1,e6⟩,q6⟩:=hz0;subst e6;apply dO ((hb cl G.objs.size s2 H2 fp hpass).2 _ s6 _ H6 _ I6 q6) (λb s7 hz0=>?_) λe t f=>hxe _ _ _ e t f
   obtain⟨H7,I7,q7⟩:=hz0;have back:∀{s8:ar} {H8:Hp},Inv (cxC XE X scope cl G.objs.size (xs++fr) s2 H2 fp) ([(s2.heap.objs.size,lobj us n)]++pinsAt fp s5.heap) (w1++gS σ js) H8 s8→tn (i+1) s8.heap∧∀b∈fp,H8 b=none:=λ{s8 H8} I8=>by
    apply⟨T.keep _ _ _ st5 λb hb o e=>(I8.pin (b,o) (bf _ (bf _ (mK hb e)))).1,λb hb=>?_⟩;obtain⟨o,e,_⟩:=T.obj _ _ st5 b hb;exact(I8.pin (b,o) (bf _ (bf _ (mK hb e)))).2.1
   cases b with
   | false =>
    obtain⟨m',hm,w7⟩:=hN' _ _ q7;obtain⟨t7,n7⟩:=back I7;exact⟨m',hm,i+1,ys,us,n,w1,H7,hw1,I7.unpinned,rv,hlen,t7,n7,w7⟩
   | true =>
    apply dO ((hb cl G.objs.size s2 H2 fp hpass).1 _ s7 _ H7 _ I7 q7) (λy' s8 hz0=>?_) λe t f=>hxe _ _ _ e t f
    obtain⟨y,H8,I8,r8,q8⟩:=hz0;obtain⟨m',hm,w8⟩:=hN' _ _ q8;obtain⟨t8,n8⟩:=back I8;have I8':=I8.unpinned;obtain⟨pD,nD,_,_,_⟩:=I8'.pin (s2.heap.objs.size,lobj us n) (by show _∈[]++[_];simp);have pD:s8.heap.get? s2.heap.objs.size=some (lobj us n):=pD;have nD:H8 s2.heap.objs.size=none:=nD;apply append_at pD (λh9 hs9 e9=>?_) (by rw[aG,←rv.length];exact hlen);have e9:h9.get? s2.heap.objs.size=some (lobj (us++[y']) (n+1)):=by rw[e9];simp[lobj]
    have J0:Inv (cxC XE X scope cl G.objs.size (xs++fr) s2 H2 fp) [] (w1++gS σ js) H8 s8:=I8'.pins_of λp hp=>qK hp ∅
    have J9:Inv (cxC XE X scope cl G.objs.size (xs++fr) s2 H2 fp) [] (w1++gS σ js) H8 { s8 with heap:=h9,toks:=s8.toks } :=
     J0.turned (it:=s2.heap.objs.size) (fun b o hb' e=>hs9.extBut b o hb' e) nD hDC (.inr (aD _)) (fun y0 c q z=>by
      obtain ⟨o,e⟩:=celo y0 c q;exact (small c o e).2 z) fun p hp=>qK (show p∈([]:List (ao×Obj)) from hp) ∅
    apply ⟨m',hm,i+1,ys++[y],us++[y'],n+1,w1,H8,hw1,J9.pins_of fun p hp=>?_,rv.append (.cons r8 .nil),(by rw [aq,dw];exact hlt),T.keep _ _ _ t8 fun b hb' o e=>hs9.extBut b o (by
     obtain ⟨o',e'⟩:=fpo b hb';exact (small b o' e').2) e,n8,w8⟩
    have ep:=aB.mp hp;subst ep;exact⟨e9,nD,hDC,nofs,λv z=>by cases z⟩
 exact codeAny_compStart_list (loop _ ⟨_,rfl⟩) (T.self _ 0 _ _ _ (T.keep _ _ _ st2 λb hb o e=>old b o e) (loop _ ⟨_,rfl⟩))
theorem pe_compC {xs:List Str}
  (hc:X.calm=true) (hi:PI X tg iter wi)
  (kQ:∀y∈scope.names,y.2≠ .cell) (mF:scope.kind= .function) (lI:∀y∈scope.names,y.2= .local→scope.names.lookup y.1=some .local)
  (hfr:∀y∈scope.names,y.2= .free→X.env.scope.names.lookup y.1=some .cell) (hjs:js.map (λj=>X.N[j]?)=fr.map some) (hfv:∀y∈fr,scope.names.lookup y=some .free)
  (hg:∀cl C s' H' ex,PG (pU X scope cl C (xs++fr) s' H' ex) tg g)
  (hb:∀cl C s' H' ex,PE (pU X scope cl C (xs++fr) s' H' ex) elt te∧PTs (pU X scope cl C (xs++fr) s' H' ex) ifs tt)
  (hCW:∀σ Q J H1,CW σ Q J H1→CompWT xs.length g js tt te σ Q J H1) (hs:autoParam (∀z,gO iter X.env z=hW z) L2.au2._auto_1) :
  PE X (.ListComp elt [⟨tg,iter,ifs,0⟩] scope pos) (λσ H Q=>wi σ H λJ H1=>CW σ Q J H1):=by
 intro aI s σ H Q I h;rw[eval_ListComp];exact pX (XE:=λ_ _ _ _=>False) (PASS:=λ_ _ _ _ _=>True) (use:=none) (R:=EP X aI σ Q) hc hi kQ mF lI hfr hjs hfv hg (λcl C s' H' ex _=>hb cl C s' H' ex) (λ_ _ _ _ _ _ _ _ _ _=>trivial) (λ_ _ _ _ _ f=>f.elim) hCW I h (λs4 H5 D C mC n I5 nC lC fC pC cC sC q=>⟨mC,n,λh' hsb=>⟨.ref D,H5,I5.turned (t':=s4.toks) (it:=C) (λb o hb' e=>hsb.extBut b o hb' e) nC lC (.inr sC) cC pC,rfl,q⟩⟩) hs
theorem compW_T {Q:VK}{J:It}(h:CompW js tt te σ Q J H1):CompWT 1 (mP 0) js tt te σ Q J H1:=by
 obtain⟨W,w0,turn⟩:=h;apply⟨W,w0,λi m ys H2 hw=>?_⟩
 rcases turn i m ys H2 hw with h | ⟨h1,h2,N,h3,h4⟩
 ·exact .inl h
 ·apply .inr ⟨h1,h2,N,h3,λx H3 hy v0 hv=>?_⟩
  obtain⟨w,rfl⟩:∃w,v0=[w]:=by
   obtain _ | ⟨w,v0⟩:=v0
   ·cases hv
   ·obtain _ | ⟨z,v0⟩:=v0
    ·exact⟨w,rfl⟩
    ·cases hv
  exact⟨⟨[some x],rfl,rfl⟩,h4 x H3 hy⟩
theorem nZ 
  (hc:X.calm=true) (hi:PI X (.Name x px) iter wi)
  (kQ:∀y∈scope.names,y.2≠ .cell) (mF:scope.kind= .function) (lI:∀y∈scope.names,y.2= .local→scope.names.lookup y.1=some .local) (hx:scope.names.lookup x=some .local)
  (hfr:∀y∈scope.names,y.2= .free→X.env.scope.names.lookup y.1=some .cell) (hnd:(x::fr).Nodup) (hjs:js.map (λj=>X.N[j]?)=fr.map some) (hfv:∀y∈fr,scope.names.lookup y=some .free)
  (hb:∀cl C s' H' ex,PE (pU X scope cl C (x::fr) s' H' ex) elt te∧PTs (pU X scope cl C (x::fr) s' H' ex) ifs tt)
  (hs:autoParam (∀z,gO iter X.env z=hW z) L2.au2._auto_1) :
  PE X (.ListComp elt [⟨.Name x px,iter,ifs,0⟩] scope pos) (tComp wi js tt te) :=
 pe_compC (xs:=[x]) (g:=mP 0) hc hi kQ mF lI hfr hjs hfv (λ_ _ _ _ _=>nY hnd rfl (.inl (fF hx)) (.inr (fF hx))) hb (λ_ _ _ _ h=>compW_T h) hs
theorem nextT_item {j t:ao}{its}{v:af}(jt:s.heap.IsTupleIter j t i)(tt:s.heap.IsTuple t its)(hv:its[i]? =some v)
  (q:∀g,g.IsTupleIter j t (i+1)→cT j s.heap g→Q v { s with heap:=g }):aT (bB prog w) A (dv (.ref j)) Q E s:=by
 obtain⟨ob,e1,e2,e3⟩:=id jt;obtain⟨ot,g1,_,k,g2⟩:=tt;unfold dv;apply ak (fD (name:=au "__next__") jt.typeIs ju (iE ju jt.typeIs F.entry_tuple_iterator_next ?_ (F.args_tuple_iterator_next_1 _)));show aT _ _ (field (.ref j) 0 >>= _) _ _ s;apply ak (cQ e1 e3 (x:= .ref t) rfl ?_);show aT _ _ (ite ((af.ref t == af.none)=true) _ _) _ _ s;rw[qI (λz:(af.ref t == af.none)=true=>bG z)];show aT _ _ (field (.ref j) 1 >>= _) _ _ s;apply ak (cQ e1 e3 (x:= .int i 0) rfl ?_);show aT _ _ (seqItems? (.ref t) >>= _) _ _ s;apply ak (jz g1 g2 ?_);simp only[fU,hv];apply ak (wpAny_setField e1 e3 ∅ (aN ⟨v,rfl,aN (q _ ?_ (cT.update ..))⟩));exact⟨_,iS _ e1 (Obj.isFreed_of_fields (jP e3 _)),(Obj.cls_mapFields ..).trans e2,by rw[jP e3];simp[kt]⟩
theorem nextT_end {j t:ao}{its}(hh:A.handled=none)(jt:s.heap.IsTupleIter j t i)(tt:s.heap.IsTuple t its)(hv:its[i]? =none)
  (q:∀g x,bM.ExtBut j s.heap g→(∃o,g.get? x=some o∧o.cls= .type "StopIteration")→E (.ref x) { s with heap:=g }):aT (bB prog w) A (dv (.ref j)) Q E s:=by
 obtain⟨ob,e1,e2,e3⟩:=id jt;obtain⟨ot,g1,_,k,g2⟩:=tt;unfold dv;apply ak (fD (name:=au "__next__") jt.typeIs ju (iE ju jt.typeIs F.entry_tuple_iterator_next ?_ (F.args_tuple_iterator_next_1 _)));show aT _ _ (field (.ref j) 0 >>= _) _ _ s;apply ak (cQ e1 e3 (x:= .ref t) rfl ?_);show aT _ _ (ite ((af.ref t == af.none)=true) _ _) _ _ s;rw[qI (λz:(af.ref t == af.none)=true=>bG z)];show aT _ _ (field (.ref j) 1 >>= _) _ _ s;apply ak (cQ e1 e3 (x:= .int i 0) rfl ?_);show aT _ _ (seqItems? (.ref t) >>= _) _ _ s;apply ak (jz g1 g2 ?_);simp only[fU,hv];apply ak (wpAny_rule (ak (wpAny_setField e1 e3 ∅ ?_)));show aT _ _ (newExc (.type "StopIteration") [] >>= _) _ _ _;apply ak ?_;simp only[newExc,newTuple];apply ak (fW ?_ (by size_fits));apply ak (m:=firstArgMember _ _) (wpAny_of_eq (a:=af.none) (by first | rfl | (unfold firstArgMember;rfl)) ?_);apply fW ?_ (by size_fits);simp only[raiseNew];apply ak (wpAny_handled ?_)
 first | rw[show A.in1.handled=none from hh] | rw[hh]
 exact ak (aN (wpAny_throw (q _ _ (((cT.update ..).extBut.push _).push _) ⟨_,aQ _ rfl,rfl⟩)))
theorem Inv.turnAll {g:bM}(I:Inv X aI σ H s)(hf:∀b∈ch,FpOk X aI H b)
  (k:∀b o,b ∉ ch→s.heap.get? b=some o→g.get? b=some o) (hH:∀b u,H b=some u→H' b=some u) (hN:∀b o,s.heap.get? b=some o→H b=none→H' b=none) (hok:HOk X.prog X.w H' g):Inv X aI σ H' { s with heap:=g }:=by
 apply I.step (g':=s.gens) (d':=s.drawn) (t':=s.toks) (ch:=ch) (λb hb=>?_) (λb o _ _ hc e _=>k b o hc e) (λb o _ _ hc e _=>⟨o.slots,k b o hc e⟩) (λb o _ e n=>hN b o e n)
  (λb o hc e=>⟨o,k b o hc e⟩) (λb xs e=>hH b _ e) (λb o u e=>hH b _ e) (λb ps e=>⟨#[],by rw[hH b _ e];simp⟩) (λm hm=>?_) hok I.bare
 ·obtain⟨_,f1,_,f3,f4,f5⟩:=hf b hb
  exact⟨f3,f1,f4,f5⟩
 ·obtain⟨o,es,ep,ho,r⟩:=hm
  exact⟨o,es,ep,k _ o (λhb=>(hf _ hb).2.1 rfl) ho,r⟩
theorem cB.put (e:cB H H1)(h:H1 p=none):cB H (upd H1 p o):=λb u q=>by rw[bo (aV (e b u q) h)];exact e b u q
theorem Inv.big (I:Inv X aI σ H s):gY<s.heap.objs.size:=by
 have h:aX<s.heap.objs.size:=(I.mod.glob.keeps I.bk).lt;exact Nat.lt_trans ↥0 h
theorem dk_empty (h:bM)(hb:gY<h.objs.size):iu P w H (h.push { cls:= .type "dict",data:= .dict #[] }) h.objs.size (.dK []) :=
 ⟨dG _,beq_eq_false_iff_ne.mpr (cY (cJ hb)),[],.nil,bM.DictOf.new h⟩
def tDNewK:TE:=λ_ H Q=>∀p,H p=none→Q (.ref p) (upd H p (.dK []))
theorem pe_dnewK:PE X (.Dict [] [] pos) tDNewK:=λaI s σ H Q I h =>
 wpAny_Dict_empty ⟨.ref s.heap.objs.size,_,I.laid (a:=s.heap.objs.size) (o:= .dK []) (t':=s.toks) (λ_ _ q=>av _ q) (aD _) (dk_empty s.heap I.big),rfl,h _ (I.hok.fresh (aD _))⟩
theorem PE.imp {t t':TE}(h:PE X e t)(i:∀σ H Q,t' σ H Q→t σ H Q):PE X e t':=λaI s σ H Q I q=>h aI s σ H Q I (i σ H Q q)
theorem OpR.imp {f:af→af→Sem af}{r r':R2}(h:OpR X f r)(i:∀x y H Q,r' x y H Q→r x y H Q):OpR X f r':=λaI s σ H x y v u Q I rx ry q=>h aI s σ H x y v u Q I rx ry (i x y H Q q)
theorem iM.imp {f:af}{r r':List V→Hp→VK→Prop}(h:iM X f r)(i:∀xs H Q,r' xs H Q→r xs H Q):iM X f r':=λaI s σ H xs us Q I rv q=>h aI s σ H xs us Q I rv (i xs H Q q)
theorem SlR.imp {r:V→Option Int→Option Int→Hp→VK→Prop}(h:SlR X r)(i:∀x lo hi H Q,r' x lo hi H Q→r x lo hi H Q):SlR X r':=λaI s σ H x v vl vu lo hi sl Q I rx hs pl pu q=>h aI s σ H x v vl vu lo hi sl Q I rx hs pl pu (i x lo hi H Q q)
def tACut (t:TA):TA:=λσ H R=>∃R':List V→Hp→Prop,(∀xs H,R' xs H→R xs H)∧t σ H R'
theorem PA.cut (h:PA X es t):PA X es (tACut t):=λpos aI s σ H Q I ⟨R',i,q⟩ =>
 thn (h pos aI s σ H R' I q) λus s' ⟨vs,H',I',rv,q'⟩=>⟨vs,H',I',rv,i _ _ q'⟩
def New (H:Hp)(o:HO)(Q:VK):Prop:=∀p H',cB H H'→H' p=some o→Q (.ref p) H'
theorem New.of {Q:VK}(h:New H o Q):∀p,H p=none→Q (.ref p) (upd H p o):=λp hp=>h p _ (cB.put (cB.refl H) hp) aR
def tTupA (t:TA):TE:=λσ H Q=>t σ H λxs H1=>xs.length≤aA∧New H1 (.tup xs) Q
def tLstA (t:TA):TE:=λσ H Q=>t σ H λxs H1=>xs.length≤aA∧New H1 (.lst xs) Q
theorem jq {x1}(h:PA X es t):PE X (.Tuple es x1 pos) (tTupA t):=(pe_tup h.cut).imp λ_ _ _ q=>⟨_,λ_ _ z=>⟨z.1,z.2.of⟩,q⟩
theorem ij (h:PA X es t):PE X (.List es pos) (tLstA t):=(kY h.cut).imp λ_ _ _ q=>⟨_,λ_ _ z=>⟨z.1,z.2.of⟩,q⟩
theorem pe_dnewA:PE X (.Dict [] [] pos) (λ_ H Q=>New H (.dK []) Q):=pe_dnewK.imp λ_ _ _ q=>q.of
theorem mR:SlR X (λx lo hi H Q=>∃a xs,x= .ref a∧SqT X.K H a xs∧¬(HT.sIx xs.length 0 lo=0∧HT.sIx xs.length xs.length hi=xs.length)∧New H (.tup (pW xs lo hi)) Q) :=
 sl_tup.imp λ_ _ _ _ _ ⟨a,xs,e,h,n,q⟩=>⟨a,xs,e,h,n,q.of⟩
theorem call_listA:iM X (.type "list") (λxs H Q=>∃p ys,xs=[.ref p]∧(SqL X.K H p ys∨SqT X.K H p ys)∧New H (.lst ys) Q) :=
 oE.imp λ_ _ _ ⟨p,ys,e,h,q⟩=>⟨p,ys,e,h,q.of⟩
theorem iX:OpR X (ip .Add) (λx y H Q=>∃l b xs zs,x= .ref l∧y= .ref b∧H l=some (.lst xs)∧H b=some (.lst zs)∧xs.length+zs.length≤aA∧New H (.lst (xs++zs)) Q) :=
 op_cat.imp λ_ _ _ _ ⟨l,b,xs,zs,e1,e2,e3,e4,e5,q⟩=>⟨l,b,xs,zs,e1,e2,e3,e4,e5,q.of⟩
inductive Dt where
 | non | bl (b:Bool) | int (i:Int) | str (x:Str) | tup (ds:List Dt) | oth (T:String)
mutual
inductive IsD (H:Hp):V→Dt→Prop where
 | non:IsD H .non .non
 | bl (b:Bool):IsD H (.bl b) (.bl b)
 | int (i:Int):IsD H (.int i) (.int i)
 | str (x:Str):IsD H (.str x) (.str x)
 | tup {a:ao} {xs:List V} {ds:List Dt} (h:H a=some (.tup xs)) (r:jc H xs ds):IsD H (.ref a) (.tup ds)
 | lst {a:ao} {xs:List V} (h:H a=some (.lst xs)):IsD H (.ref a) (.oth "list")
 | dct {a:ao} {kvs:List (Key×V)} (h:H a=some (.dK kvs)):IsD H (.ref a) (.oth "dict")
inductive jc (H:Hp):List V→List Dt→Prop where
 | nil:jc H [] []
 | cons {x:V} {d:Dt} {xs:List V} {ds:List Dt} (h:IsD H x d) (r:jc H xs ds):jc H (x::xs) (d::ds)
end
mutual
theorem IsD.same {H H':Hp}(e:cB H H'):∀{v:V} {d:Dt},IsD H v d→IsD H' v d
 | _,_,.non=> .non
 | _,_,.bl b=> .bl b
 | _,_,.int i=> .int i
 | _,_,.str x=> .str x
 | _,_,.tup h r=> .tup (e _ _ h) (jc.same e r)
 | _,_,.lst h=> .lst (e _ _ h)
 | _,_,.dct h=> .dct (e _ _ h)
theorem jc.same {H H':Hp}(e:cB H H'):∀{vs:List V} {ds:List Dt},jc H vs ds→jc H' vs ds
 | _,_,.nil=> .nil
 | _,_,.cons h r=> .cons (IsD.same e h) (jc.same e r)
end
theorem IsD.injs:∀n:Nat,(∀(v:V) (d e:Dt),sizeOf d≤n→IsD H v d→IsD H v e→d=e)∧(∀(vs:List V) (ds es:List Dt),sizeOf ds≤n→jc H vs ds→jc H vs es→ds=es):=by
 intro n
 induction n with
 | zero =>
  apply⟨λv d e h=>?_,λvs ds es h=>?_⟩
  ·cases d <;> simp at h
  ·cases ds <;> simp at h
 | succ n ih =>
  apply⟨λv d e hn h k=>?_,λvs ds es hn h k=>?_⟩
  ·cases h with
   | non=>cases k;rfl
   | bl b=>cases k;rfl
   | int i=>cases k;rfl
   | str x=>cases k;rfl
   | tup h r =>
    cases k with
    | tup h' r'=>rw[h] at h';cases h';rw[ih.2 _ _ _ (by simp at hn;lia) r r']
    | lst h'=>rw[h] at h';cases h'
    | dct h'=>rw[h] at h';cases h'
   | lst h =>
    cases k with
    | tup h' r'=>rw[h] at h';cases h'
    | lst h'=>rfl
    | dct h'=>rw[h] at h';cases h'
   | dct h =>
    cases k with
    | tup h' r'=>rw[h] at h';cases h'
    | lst h'=>rw[h] at h';cases h'
    | dct h'=>rfl
  ·cases h with
   | nil=>cases k;rfl
   | cons h r =>
    cases k with
    | cons h' r'=>rw[ih.1 _ _ _ (by simp at hn;lia) h h',ih.2 _ _ _ (by simp at hn;lia) r r']
theorem IsD.inj {d e:Dt}(h:IsD H v d)(k:IsD H v e):d=e:=(IsD.injs _).1 v d e (aD _) h k
theorem jc.inj {vs:List V}{ds es:List Dt}(h:jc H vs ds)(k:jc H vs es):ds=es:=(IsD.injs _).2 vs ds es (aD _) h k
theorem jc.length:∀{xs:List V} {ds:List Dt},jc H xs ds→xs.length=ds.length
 | _,_,.nil=>rfl
 | _,_,.cons _ r=>by rw[az,az,jc.length r]
theorem jc.append:∀{xs ys:List V} {ds es:List Dt},jc H xs ds→jc H ys es→jc H (xs++ys) (ds++es)
 | _,_,_,_,.nil,s=>s
 | _,_,_,_,.cons h r,s=> .cons h (jc.append r s)
theorem jc.one {x:V}{d:Dt}(h:IsD H x d):jc H [x] [d]:= .cons h .nil
theorem jc.ints:∀(ns:List Int),jc H (ns.map V.int) (ns.map Dt.int)
 | []=> .nil
 | n::r=> .cons (.int n) (jc.ints r)
theorem jc.ints_of:∀{xs:List V} {ns:List Int},jc H xs (ns.map Dt.int)→xs=ns.map V.int
 | _,[],.nil=>rfl
 | _,n::r,.cons h q=>by cases h;rw[jc.ints_of q];rfl
theorem IsD.tup_of {ds:List Dt}(h:IsD H v (.tup ds)):∃a xs,v= .ref a∧H a=some (.tup xs)∧jc H xs ds:=by
 cases h with
 | tup h r=>exact⟨_,ρ,h,r⟩
mutual
def eqD:Dt→Dt→Bool
 | .non,.non=>true
 | .bl a,.bl b=>a == b
 | .bl a,.int b=>(if a then 1 else 0) == b
 | .int a,.bl b=>a == (if b then 1 else 0)
 | .int a,.int b=>a == b
 | .str a,.str b=>a == b
 | .tup xs,.tup ys=>eqDs xs ys
 | _,_=>false
def eqDs:List Dt→List Dt→Bool
 | [],[]=>true
 | x::xs,y::ys=>eqD x y && eqDs xs ys
 | _,_=>false
end
mutual
def pl:Dt→Bool
 | .oth _=>false
 | .tup ds=>pls ds
 | _=>true
def pls:List Dt→Bool
 | []=>true
 | d::ds=>pl d && pls ds
end
mutual
def dep:Dt→Nat
 | .tup ds=>deps ds+1
 | _=>0
def deps:List Dt→Nat
 | []=>0
 | d::ds=>max (dep d) (deps ds)
end
mutual
theorem eqD_refl:∀d:Dt,pl d=true→eqD d d=true
 | .non,_=>by unfold eqD;rfl
 | .bl b,_=>by unfold eqD;exact beq_self_eq_true b
 | .int i,_=>by unfold eqD;exact beq_self_eq_true i
 | .str x,_=>by unfold eqD;exact beq_self_eq_true x
 | .tup ds,h=>by
  unfold eqD;unfold pl at h;exact eqDs_refl ds h
 | .oth T,h=>by unfold pl at h;cases h
theorem eqDs_refl:∀ds:List Dt,pls ds=true→eqDs ds ds=true
 | [],_=>by unfold eqDs;rfl
 | d::ds,h=>by
  unfold eqDs;unfold pls at h;rw[ck] at h;rw[eqD_refl d h.1,eqDs_refl ds h.2];rfl
end
end L2
namespace L2
open PySem PySem.Spec PyProof.Rows
theorem strs_are:∀{zs:List Str} {us:List af},gU (zs.map V.str) us→StrsAre us zs
 | [],_,.nil=> .nil
 | z::zs,_,.cons r t=>by
  obtain⟨tk,rfl⟩:=(show ∃t,_=af.str z t from r);exact .cons z tk (strs_are t)
theorem vals_strs:∀(l:List (Str×Tok)),gU ((l.map (·.1)).map V.str) (strValues l)
 | []=> .nil
 | p::r=> .cons ⟨p.2,rfl⟩ (vals_strs r)
theorem lU:MtM X "str.join" (λx vs H Q=>∃z p zs,x= .str z∧vs=[.ref p]∧SqL X.K H p (zs.map V.str)∧z.length≤16∧(zs.map (·.length)).sum+zs.length≤1048576∧Q (.str (dF z zs)) H):=by
 intro aI s σ H x vs v us Q I rx rv h;obtain⟨z,p,zs,rfl,rfl,hq,hz,hw,q⟩:=h;obtain⟨t,rfl⟩:=(show ∃t,v=af.str z t from rx);obtain⟨u,rfl,ru⟩:=rv.one;cases(show u=af.ref p from ru);obtain⟨its,r,pl,_⟩:=I.list hq;exact join_listW pl.isList (by simpa using strs_are r) hz hw λt' k=>⟨.str _,H,I.tok k,⟨t',rfl⟩,q⟩
theorem split_run {y:Str}{t u:Tok}(hy:(y.length == 0)=false)(hsz:x.length+2≤aA)
  (h:∀(l:List (Str×Tok)) (tk:Nat),l.map (·.1)=bD x y→Q (.ref s.heap.objs.size) { s with heap:=s.heap.push { cls:= .type "list",data:= .seq (strValues l).toArray },toks:=tk }) :
  aT (bB prog w) A (call (.builtin "str.split") [.str x t,.str y u]) Q E s:=by
 have few:(fV x (cg x y 0 x.length (x.length+1)) y.length).length≤aA:=by
  have:=StrLaws.occ_length_le x y 0 x.length (x.length+1);rw[length_partsBetween];lia
 by_cases c1:(decide (x.length<y.length) || decide (ee.Str.strKind x<ee.Str.strKind y))=true
 ·apply kS F.slot_str_split (typeIs_str _ _ _) F.entry_str_split (F.args_str_split_2 _ _) (meets_str_split_cannot_occur x y t u c1) ?_
  apply h [(x,t)] s.toks ?_;unfold bD;rw[qJ c1];rfl
 ·have c1':=cU.mpr c1
  by_cases c2:(cg x y 0 x.length (x.length+1)).isEmpty=true
  ·apply kS F.slot_str_split (typeIs_str _ _ _) F.entry_str_split (F.args_str_split_2 _ _) (meets_str_split_not_found x y t u c1' hy c2) ?_
   apply h [(x,t)] s.toks ?_;unfold bD;rw[qI c1,qJ c2];rfl
  ·apply kS F.slot_str_split (typeIs_str _ _ _) F.entry_str_split (F.args_str_split_2 _ _) (meets_str_split_sep x y t u c1' hy (cU.mpr c2) ⋯ few) ?_
   have e:=strsFrom_eq s.toks (fV x (cg x y 0 x.length (x.length+1)) y.length);have k:=h (numbered s.toks (fV x (cg x y 0 x.length (x.length+1)) y.length)) (s.toks+(fV x (cg x y 0 x.length (x.length+1)) y.length).length) (by
    rw [numbered_texts];unfold bD;rw [qI c1,qI c2])
   rw[←e] at k;exact k
theorem nt:MtM X "str.split" (λx vs H Q=>∃z y,x= .str z∧vs=[.str y]∧(y.length == 0)=false∧z.length+2≤aA∧New H (.lst ((bD z y).map V.str)) Q):=by
 intro aI s σ H x vs v us Q I rx rv h;obtain⟨z,y,rfl,rfl,hy,hz,q⟩:=h;obtain⟨t,rfl⟩:=(show ∃t,v=af.str z t from rx);obtain⟨u,rfl,ru⟩:=rv.one;obtain⟨t',rfl⟩:=(show ∃t,u=af.str y t from ru);apply split_run hy hz λl tk e=>?_
 have hw:((bD z y).map (·.length)).sum+(bD z y).length≤z.length+1:=split_weight z y (by
  have:y.length≠0:=λh0=>by rw[h0] at hy;cases hy
  lia)
 apply⟨.ref s.heap.objs.size,_,I.laid (t':=tk) (o:= .lst ((bD z y).map V.str)) (λ_ _ k=>av _ k) (aD _) ⟨?_,strValues l,0,?_,aQ _ rfl⟩,rfl,q _ _ (cB.put (cB.refl H) I.fresh) aR⟩
 ·rw[ae];lia
 ·rw[←e];exact vals_strs l
theorem mH:iM X (.type "tuple") (λxs H Q=>∃p ys,xs=[.ref p]∧SqL X.K H p ys∧New H (.tup ys) Q) :=
 call_tuple_of.imp λ_ _ _ ⟨p,ys,e,h,q⟩=>⟨p,ys,e,.inl ⟨h,q.of⟩⟩
theorem iC:SlR X (λx lo hi H Q=>∃a xs,x= .ref a∧SqL X.K H a xs∧New H (.lst (pW xs lo hi)) Q) :=
 sl_list.imp λ_ _ _ _ _ ⟨a,xs,e,h,q⟩=>⟨a,xs,e,h,q.of⟩
def Its (z:Str):It:=⟨λi _=>i<z.cps.size,λi H x H'=>H'=H∧∃c,z.cps[i]? =some c∧x= .str ⟨#[c]⟩,λi _=>z.cps.size≤i⟩
theorem turn_str (it:ao)(x:Str)(t:Tok){ty:String}(hty:ty = "str_ascii_iterator" ∨ty = "str_iterator"):Turn P w K tg (Its x) [it] it (λi h=>h.IsStrIter it ty x t i) where
 mem:=by simp
 obj:=λi h st b hb=>by
  have e:b=it:=by simpa using hb
  subst e;obtain⟨o,e,c,d⟩:=st;exact⟨o,e,λv z=>by rw[d] at z;cases z⟩
 keep:=λi h h' st k=>by
  obtain⟨o,e,r⟩:=st;exact⟨o,k it ∅ o e,r⟩
 item:=by
  intro Y hP hw hK hc i aI s σ H E I hf st hg;subst hP hw hK;obtain⟨f0,f1,f2,f3,f4,f5⟩:=hf it ∅;have hi:i<x.cps.size:=hg;have key:∀h',h'.IsStrIter it ty x t (i+1)→cT it s.heap h'→∃u,(some (af.str ⟨#[x.cps[i]]⟩ s.toks))=some u ∧
    aT (bB Y.prog Y.w) Y.A (lG tg (.ref it) u) (λ_ s2=>∃x' H',Inv Y aI σ H' s2∧iG x' u∧(Its x).yld i H x' H'∧s2.heap.IsStrIter it ty x t (i+1)∧∀b∈[it],H' b=none) E { s with heap:=h',toks:=s.toks+1 }:=λh' st' sb=>by
   have I1:Inv Y aI σ H { s with heap:=h',toks:=s.toks+1 }:=I.turned (λb o hb e=>(sb.2 b hb).trans e) f0 f1 f3 f4 f5;obtain⟨o,e,c,d⟩:=id st';apply⟨ρ,go_of (s:={ s with heap:=h',toks:=s.toks+1 }) e c d ?_ ⟨.str ⟨#[x.cps[i]]⟩,H,I1,⟨_,rfl⟩,⟨rfl,_,by simp[hi],rfl⟩,st',λb hb=>(hf b hb).1⟩⟩
   rcases hty with rfl | rfl <;> decide
  rcases hty with rfl | rfl
  ·exact wpAny_pyNext_ascii_item st (c:=x.cps[i]) (by simp[hi]) λh' st' sb=>key h' st' sb
  ·exact wpAny_pyNext_wide_item st (c:=x.cps[i]) (by simp[hi]) λh' st' sb=>key h' st' sb
 done:=by
  intro Y hP hw hK hc i aI s σ H E I hf st hg;subst hP hw hK;obtain⟨f0,f1,f2,f3,f4,f5⟩:=hf it ∅;have hi:x.cps.size≤i:=hg
  rcases hty with rfl | rfl
  ·exact wpAny_pyNext_ascii_end (I.ok.hd hc) st (by simp;lia) λh' eb=>⟨rfl,I.turned (t':=s.toks) (λb o hb e=>eb b o hb e) f0 f1 f3 f4 f5⟩
  ·exact wpAny_pyNext_wide_end (I.ok.hd hc) st (by simp;lia) λh' eb=>⟨rfl,I.turned (t':=s.toks) (λb o hb e=>eb b o hb e) f0 f1 f3 f4 f5⟩
 self:=λA i s Q E st h=>by
  rcases hty with rfl | rfl
  ·exact wpAny_pyIter_striter_ascii st h
  ·exact wpAny_pyIter_striter_wide st h
def iStr (tl:TE):TI:=λσ H R=>tl σ H λx H1=>∃z,x= .str z∧R (Its z) H1
theorem pi_str {l:Expr}{tl:TE}(hl:PE X l tl):PI X tg l (iStr tl):=by
 intro aI s σ H R I h;apply thn (hl aI s σ H _ I h) λv s1 hz0=>?_
 obtain⟨x,H1,I1,r1,q1⟩:=hz0;obtain⟨z,rfl,q⟩:=q1;obtain⟨t,rfl⟩:=(show ∃t,v=af.str z t from r1);have fin:∀b∈[s1.heap.objs.size],FpOk X aI H1 b:=λb hb=>by
  have e:b=s1.heap.objs.size:=by simpa using hb
  subst e;exact I1.fpOk (aD _) I1.fresh
 cases ha:z.cps.all (· < 128) with
 | true=>exact wpAny_pyIter_ascii ha ⟨s1.heap.objs.size,[s1.heap.objs.size],_,_,H1,rfl,I1.kept (t':=s1.toks) λb o e=>av _ e,turn_str _ z t (.inl rfl),⟨_,aQ _ rfl,rfl,rfl⟩,fin,q⟩
 | false=>exact wpAny_pyIter_wide ha ⟨s1.heap.objs.size,[s1.heap.objs.size],_,_,H1,rfl,I1.kept (t':=s1.toks) λb o e=>av _ e,turn_str _ z t (.inr rfl),⟨_,aQ _ rfl,rfl,rfl⟩,fin,q⟩
theorem kit_str (K:aj)(h:T∈["NoneType","bool","int","str","list","tuple","dict"]):cn K (.type T) (.type "str")=some (T == "str"):=by
 simp only[aw,aO,or_false] at h
 rcases h with rfl | rfl | rfl | rfl | rfl | rfl | rfl <;> kernel_rfl
theorem call_isStr:iM X (.builtin "isinstance") (λxs H Q=>∃x T,xs=[x,.ty "str"]∧tyn H x=some T∧Q (.bl (T == "str")) H) :=
 λaI s σ H xs us Q I r ⟨x,T,e,hT,q⟩=>lY aI s σ H xs us Q I r ⟨x,_,_,_,e,.byName hT,kit_str _ (tyn_mem hT),q⟩
theorem j7 {Q:VK}(Pv:Nat→List V→Hp→Prop)(h0:Pv 0 [] H)(hl:∀i ys H,i≤xs.length→Pv i ys H→SqL K H a xs∧ys.length≤i)(hz:xs.length≤aA)
  (hs:∀i x ys H,xs[i]? =some x→Pv i ys H→tt (some x::gS σ js) H λb H4=>if b=true then te (some x::gS σ js) H4 λy H5=>Pv (i+1) (ys++[y]) H5 else Pv (i+1) ys H4)
  (hd:∀ys H,Pv xs.length ys H→∀D,H D=none→Q (.ref D) (upd H D (.lst ys))):CompW js tt te σ Q (Itl K a) H:=by
 apply⟨λi m ys H=>i≤xs.length∧m=xs.length - i∧Pv i ys H,⟨_,dG _,rfl,h0⟩,λi m ys H2 hz0=>?_⟩;obtain⟨hi,hm,hp⟩:=hz0;obtain⟨hq,hy⟩:=hl i ys H2 hi hp
 by_cases e:i=xs.length
 ·subst e
  exact .inl ⟨⟨xs,hq,aD _⟩,hd ys H2 hp⟩
 ·have hlt:i<xs.length:=gj hi e
  apply .inr ⟨⟨xs,_,hq,gE hlt⟩,⋯,Pv (i+1),λys' H' hp'=>⟨xs.length - (i+1),⋯,⋯,rfl,hp'⟩,λx H3 hy3=>?_⟩;obtain⟨e3,hx⟩:=hy3;subst e3;exact hs i x ys H3 (hx xs hq) hp
theorem om {Q:VK}(Pv:Nat→List V→Hp→Prop)(h0:Pv 0 [] H)(hl:∀i ys H,i≤n→Pv i ys H→ys.length≤i)(hz:n≤aA)
  (hs:∀(i:Nat) ys H,i<n→Pv i ys H→tt (some (.int (lo+i))::gS σ js) H λb H4=>if b=true then te (some (.int (lo+i))::gS σ js) H4 λy H5=>Pv (i+1) (ys++[y]) H5 else Pv (i+1) ys H4)
  (hd:∀ys H,Pv n ys H→∀D,H D=none→Q (.ref D) (upd H D (.lst ys))):CompW js tt te σ Q (Itr lo n) H:=by
 apply⟨λi m ys H=>i≤n∧m=n - i∧Pv i ys H,⟨_,dG _,rfl,h0⟩,λi m ys H2 hz0=>?_⟩;obtain⟨hi,hm,hp⟩:=hz0;have hy:=hl i ys H2 hi hp
 by_cases e:i=n
 ·subst e
  exact .inl ⟨aD _,hd ys H2 hp⟩
 ·have hlt:i<n:=gj hi e
  apply .inr ⟨hlt,⋯,Pv (i+1),λys' H' hp'=>⟨n - (i+1),⋯,⋯,rfl,hp'⟩,λx H3 hy3=>?_⟩;obtain⟨e3,hx⟩:=hy3;subst e3 hx;exact hs i ys H3 hlt hp
theorem comp_str {Q:VK}(Pv:Nat→List V→Hp→Prop)(h0:Pv 0 [] H)(hl:∀i ys H,i≤z.cps.size→Pv i ys H→ys.length≤i)(hz:z.cps.size≤aA)
  (hs:∀(i c:Nat) ys H,z.cps[i]? =some c→Pv i ys H→tt (some (.str ⟨#[c]⟩)::gS σ js) H λb H4=>if b=true then te (some (.str ⟨#[c]⟩)::gS σ js) H4 λy H5=>Pv (i+1) (ys++[y]) H5 else Pv (i+1) ys H4)
  (hd:∀ys H,Pv z.cps.size ys H→∀D,H D=none→Q (.ref D) (upd H D (.lst ys))):CompW js tt te σ Q (Its z) H:=by
 apply⟨λi m ys H=>i≤z.cps.size∧m=z.cps.size - i∧Pv i ys H,⟨_,dG _,rfl,h0⟩,λi m ys H2 hz0=>?_⟩;obtain⟨hi,hm,hp⟩:=hz0;have hy:=hl i ys H2 hi hp
 by_cases e:i=z.cps.size
 ·subst e
  exact .inl ⟨aD _,hd ys H2 hp⟩
 ·have hlt:i<z.cps.size:=gj hi e
  apply .inr ⟨hlt,⋯,Pv (i+1),λys' H' hp'=>⟨z.cps.size - (i+1),⋯,⋯,rfl,hp'⟩,λx H3 hy3=>?_⟩;obtain⟨e3,c,hc,hx⟩:=hy3;subst e3 hx;exact hs i c ys H3 hc hp
end L2
namespace HN
open PySem
end HN
local macro_rules
 | `(tactic|exists $s:term) => `(tactic|(show ∀ y:cR×PySem.NameKind,y∈_→y.2=PySem.NameKind.free→gr y.1 (L2.defScope $s).names=some PySem.NameKind.cell;decide +kernel))
local macro_rules
 | `(tactic|trivial) => `(tactic|first|decide +kernel|exact ⟨rfl,rfl,rfl,by decide +kernel,rfl,by decide +kernel,by decide +kernel⟩|exact True.intro)
local macro_rules
 | `(tactic|contradiction) => `(tactic|(intro _ _ _ _ h;first | (cases h;subst_vars;rfl) | ((repeat (obtain ⟨_,h⟩:=h));subst_vars;rfl)))
namespace L2
open PySem PyProof.Rows
theorem ixZ {a:Expr}{p q:Pos}{i:Int}{j}(h:PE X a ta):PE X (.Subscript a (.Constant (.int i) j p) q) (tOp (rIxT X.K) ta (tC (.int i))):=fK ix_tup h aP (λ_ _=>rfl)
theorem szZ1:1≤aA:=by decide
theorem szZ2:2≤aA:=by decide
theorem szZ4:4≤aA:=by decide
theorem szZ5:5≤aA:=by decide
theorem psZ (i:Nat)(hN:X.N.Nodup)(he:PE X e te)(hi:X.N[i]? =some x:=by rfl)(hx:Loc X.env.scope x:=by first|exact .inl rfl|exact .inr rfl)(hs:kO e (some (.Name x pos')) pos.line X.env=hW false:=by rfl)(hf:X.fn x=true∨X.env.scope.names.lookup x=some .local:=by first|exact .inl rfl|exact .inr rfl|assumption):PS X (.Assign [.Name x pos'] e pos) (tAsg te (mP i)):=ps_set hN hi hx he hs hf
theorem pgZ (i:Nat)(hN:X.N.Nodup)(hi:X.N[i]? =some x:=by rfl)(hx:Loc X.env.scope x:=by first|exact .inl rfl|exact .inr rfl)(hf:X.fn x=true∨X.env.scope.names.lookup x=some .local:=by first|exact .inl rfl|exact .inr rfl|assumption):PG X (.Name x pos) (mP i):=nY hN hi hx hf
end L2
namespace L2
abbrev pza:List cR:=["self"]
abbrev pzb:List cR:=["self","row"]
abbrev pzc:List cR:=["word"]
abbrev pzd:List cR:=["text"]
abbrev pze:List cR:=["_law_pot_here","_law_most"]
abbrev pzf:List cR:=["_law_script","_law_k"]
abbrev pzg:List cR:=["self","stop"]
abbrev pzh:List cR:=["beat","one","other","row"]
abbrev pzi:List cR:=["thing","low","high"]
abbrev pzj:List cR:=["_law_script"]
abbrev pzk:List cR:=["beat","many","thing"]
abbrev pzl:List cR:=["_law_rows","_law_name","_law_stop","_law_other"]
abbrev pzm:List cR:=["many","start","goal"]
abbrev pzn:List cR:=["beat","least","most"]
abbrev pzo:List cR:=["self","name","stops","runs","first"]
abbrev pzp:List cR:=["self","beat"]
abbrev pzq:List cR:=["one","other","row"]
abbrev pzr:List cR:=["_law_rows","_law_name","_law_stop"]
abbrev pzs:List cR:=["_law_pot_here","_law_beat","_law_lines_here","_law_rows"]
abbrev pzt:List cR:=["text","table"]
abbrev pzu:List cR:=["_law_cell","_law_k"]
abbrev pzv:List cR:=["_law_line","_law_pot_here"]
abbrev pzw:List cR:=["self","stop","after"]
abbrev pzx:List cR:=["_law_beat","_law_rows"]
abbrev pzy:List cR:=["_law_pot_here","_law_lots"]
abbrev pzz:List cR:=["_law_pot_here","_law_name","_law_stops","_law_rows"]
abbrev pzA:List cR:=["_law_script","_law_names_here","_law_stops","_law_most"]
abbrev pzB:List cR:=["_law_pot_here","_law_beat"]
abbrev pzC:List cR:=["_law_lines_here","_law_rows"]
abbrev pzD:List cR:=["_law_rows","_law_kind"]
abbrev pzE:List cR:=["_law_way","_law_thing"]
end L2
namespace HN
open PySem L2 PyProof.Rows
abbrev B60:Int:=10 ^ 60 - 1
def isI:V→Bool
 | .int _=>true
 | _=>false
def iv:V→Int
 | .int i=>i
 | _=>0
def inI (v:V)(lo hi:Int):Bool:=match v with
 | .int i=>decide (lo≤i) && decide (i≤hi)
 | _=>false
def nK (m:Int)(s g:V):Bool:=inI s 0 (m - 1) && (inI g 0 (m - 1) && !decide (s=g))
def pJ (b:Int)(l o:V):Bool:=inI l 0 B60 && inI o (iv l) (if B60<iv l+b - 1 then B60 else iv l+b - 1)
def nc (H:Hp)(b m:Int)(v:V):Bool:=match v with
 | .ref a=>match H a with
  | some (.tup [s,g,l,o,w])=>nK m s g && (pJ b l o && inI w 0 1000000000000)
  | _=>false
 | _=>false
def Kn (H:Hp)(v:V):Prop:=∃T,tyn H v=some T
def Below (P:V→Prop)(H:Hp)(v:V):Prop:=Kn H v∧∀a xs,v= .ref a→H a=some (.tup xs)→∀x∈xs,P x
abbrev G1 (H:Hp)(v:V):Prop:=Below (Kn H) H v
theorem sort_int (h:tyn H v=some T):(T == "int" || T == "bool")=true→(!(T == "bool"))=isI v:=by
 cases v with
 | ref a =>
  simp only[tyn] at h;cases q:H a with
  | none=>rw[q] at h;cases h
  | some o=>rw[q] at h;cases o <;> first | (cases h;intro z;exact qK z ↥0) | cases h
 | non=>cases h;intro z;exact qK z ↥0
 | bl b=>cases h;intro _;show(!("bool" == "bool"))=false;decide
 | int i=>cases h;intro _;show(!("int" == "bool"))=true;decide
 | str x=>cases h;intro z;exact qK z ↥0
 | _=>cases h
theorem sort_noInt (h:tyn H v=some T):¬(T == "int" || T == "bool")=true→isI v=false:=by
 cases v with
 | int i=>cases h;intro z;exact qK ↥0 z
 | _=>intro _;rfl
theorem isI_of (h:isI v=true):∃i,v= .int i:=by
 cases v with
 | int i=>exact⟨i,rfl⟩
 | _=>cases h
theorem sort_tup (h:tyn H v=some T):(∃a xs,v= .ref a∧H a=some (.tup xs)∧(T == "tuple")=true)∨((T == "tuple")=false∧∀a xs,v= .ref a→H a≠some (.tup xs)):=by
 cases v with
 | ref a =>
  simp only[tyn] at h;cases q:H a with
  | none=>rw[q] at h;cases h
  | some o =>
   rw[q] at h;cases o with
   | tup xs=>cases h;exact .inl ⟨a,xs,rfl,q,↥0⟩
   | lst xs=>cases h;exact .inr ⟨↥0,λb ys e z=>by cases e;rw[q] at z;cases z⟩
   | dK xs=>cases h;exact .inr ⟨↥0,λb ys e z=>by cases e;rw[q] at z;cases z⟩
   | _=>cases h
 | non=>cases h;exact .inr ⟨↥0,λa xs e=>by cases e⟩
 | bl b=>cases h;exact .inr ⟨↥0,λa xs e=>by cases e⟩
 | int i=>cases h;exact .inr ⟨↥0,λa xs e=>by cases e⟩
 | str x=>cases h;exact .inr ⟨↥0,λa xs e=>by cases e⟩
 | _=>cases h
theorem spanOk_no {m:Int}(h:∀a xs,v= .ref a→H a=some (.tup xs)→xs.length≠5):nc H b m v=false:=by
 cases v with
 | ref a =>
  simp only[nc];split
  ·rename_i s g l o w e
   exact qK rfl (h a _ rfl e)
  ·rfl
 | _=>rfl
theorem len5 (h:xs.length=5):∃a b c d e,xs=[a,b,c,d,e]:=by
 rcases xs with _ | ⟨x0,_ | ⟨x1,_ | ⟨x2,_ | ⟨x3,_ | ⟨x4,_ | ⟨x5,xr⟩⟩⟩⟩⟩⟩ <;> first | exact⟨_,_,_,_,ρ⟩ | simp at h
theorem qj {b:Bool}{A B:Prop}(h:b=true)(x:A):if b=true then A else B:=by rw[qJ h];exact x
theorem lq {b:Bool}{A B:Prop}(h:b=false)(x:B):if b=true then A else B:=by rw[qI (by rw[h];exact bG)];exact x
structure Nm (mg:Str→Option af):Prop where
 isin:mg "isinstance" =none
 tint:mg "int" =none
 tbool:mg "bool" =none
 ttup:mg "tuple" =none
 len:mg "len" =none
 min:mg "min" =none
 all:mg "all" =none
structure Cs (mg:Str→Option af):Prop where
 mh:∃t,mg "MOST_HAPPENINGS" =some (.int 16 t)
 ms:∃t,mg "MOST_SPANS" =some (.int 40 t)
 mw:∃t,mg "MOST_WEIGHT" =some (.int 1000000000000 t)
structure Fn (K:aj)(mg:Str→Option af)(x:Str)(st:cW)(ps:List Str)(f:ao)(fd:aU):Prop where
 F:Fun K x x st f fd
 mg:mg x=some (.ref f)
 b:Binds K fd ps []
theorem pc1 {p:Pos}(G:Fn X.K X.mg x st ps f fd)(F:dz X.prog X.w X.K X.mg X.base CX0 k f fd ps sp)(hr:ke k X.A)
  (ha:PA X (e::es) t) (hg:autoParam (Gl X x) L2.au0._auto_1) (hdb:autoParam ((x == ("__debug__" :Str))=false) L2.au1._auto_1) (he:autoParam (br (e::es) X.env=(false,dU e X.env)::br es X.env) L2.au0._auto_1) (hpl:autoParam ((gG pos (br es X.env)).any (·.1)=false) L2.au0._auto_1) :
  PE X (.Call (.Name x p) (e::es) [] pos) (tCall sp [] E0 t):=pe_call F hr hg G.mg G.F.kp G.b .nil jh ha hdb he hpl
theorem pc0 {p:Pos}(G:Fn X.K X.mg x st [] f fd)(F:dz X.prog X.w X.K X.mg X.base CX0 k f fd [] sp)(hr:ke k X.A)
  (hg:autoParam (Gl X x) L2.au0._auto_1) (hdb:autoParam ((x == ("__debug__" :Str))=false) L2.au1._auto_1):PE X (.Call (.Name x p) [] [] pos) (tCall sp [] E0 tNil):=pe_call0 F hr hg G.mg G.F.kp G.b .nil jh hdb
theorem pA {i:Int}(hm:∃t,X.mg x=some (.int i t))(hg:autoParam (Gl X x) L2.au0._auto_1)(hd:autoParam ((x == ("__debug__" :Str))=false) L2.au1._auto_1):PE X (.Name x pos) (tC (.int i)) :=
 let ⟨t,e⟩:=hm;kj (v:= .int i) (u:= .int i t) hg e ⟨t,rfl⟩ hd
theorem pe_isTup {p:Pos}(N:Nm X.mg)(he:PE X e te)(hg:autoParam (Gl X "isinstance") L2.au0._auto_1)(hg2:autoParam (Gl X "tuple") L2.au0._auto_1)
  (hs1:autoParam (br [e,.Name "tuple" p2] X.env=(false,dU e X.env)::br [.Name "tuple" p2] X.env) L2.au0._auto_1) (hpl:autoParam ((gG pos (br [.Name "tuple" p2] X.env)).any (·.1)=false) L2.au0._auto_1) :
  PE X (.Call (.Name "isinstance" p) [e,.Name "tuple" p2] [] pos) (tCB (λxs H Q=>∃x T,xs=[x,.ty "tuple"]∧tyn H x=some T∧Q (.bl (T == "tuple")) H) (oY te (oY (tC (.ty "tuple")) tNil))) :=
 b8 call_isTup hg N.isin eO (ah he (ah (pB hg2 N.ttup boot_tuple rfl) ay) hs1) (he:=hs1) (hpl:=hpl)
theorem pe_isInt {p:Pos}(N:Nm X.mg)(he:PE X e te)(hg:autoParam (Gl X "isinstance") L2.au0._auto_1)(hg2:autoParam (Gl X "int") L2.au0._auto_1)
  (hs1:autoParam (br [e,.Name "int" p2] X.env=(false,dU e X.env)::br [.Name "int" p2] X.env) L2.au0._auto_1) (hpl:autoParam ((gG pos (br [.Name "int" p2] X.env)).any (·.1)=false) L2.au0._auto_1) :
  PE X (.Call (.Name "isinstance" p) [e,.Name "int" p2] [] pos) (tCB (λxs H Q=>∃x T,xs=[x,.ty "int"]∧tyn H x=some T∧Q (.bl (T == "int" || T == "bool")) H) (oY te (oY (tC (.ty "int")) tNil))) :=
 b8 call_isInt hg N.isin eO (ah he (ah (pB hg2 N.tint boot_int rfl) ay) hs1) (he:=hs1) (hpl:=hpl)
theorem pe_isBool {p:Pos}(N:Nm X.mg)(he:PE X e te)(hg:autoParam (Gl X "isinstance") L2.au0._auto_1)(hg2:autoParam (Gl X "bool") L2.au0._auto_1)
  (hs1:autoParam (br [e,.Name "bool" p2] X.env=(false,dU e X.env)::br [.Name "bool" p2] X.env) L2.au0._auto_1) (hpl:autoParam ((gG pos (br [.Name "bool" p2] X.env)).any (·.1)=false) L2.au0._auto_1) :
  PE X (.Call (.Name "isinstance" p) [e,.Name "bool" p2] [] pos) (tCB (λxs H Q=>∃x T,xs=[x,.ty "bool"]∧tyn H x=some T∧Q (.bl (T == "bool")) H) (oY te (oY (tC (.ty "bool")) tNil))) :=
 b8 call_isBool hg N.isin eO (ah he (ah (pB hg2 N.tbool boot_bool rfl) ay) hs1) (he:=hs1) (hpl:=hpl)
def spGW:Sp:=λvs H Q _=>vs=[]∧Q (.int B60) H
inductive spWhole (vs:List V)(H:Hp)(Q:VK)(_:XK):Prop
 | mk (v:_)(_:vs=[v])(_:Kn H v)(_:Q (.bl (isI v)) H)
inductive oN (vs:List V)(H:Hp)(Q:VK)(_:XK):Prop
 | mk (v lo hi:_)(_:vs=[v,.int lo,.int hi])(_:Kn H v)(_:Q (.bl (inI v lo hi)) H)
inductive spEnds (vs:List V)(H:Hp)(Q:VK)(_:XK):Prop
 | mk (m s g:_)(_:vs=[.int m,s,g])(_:Kn H s)(_:Kn H g)(_:Q (.bl (nK m s g)) H)
inductive spLens (vs:List V)(H:Hp)(Q:VK)(_:XK):Prop
 | mk (b l o:_)(_:vs=[.int b,l,o])(_:Kn H l)(_:Kn H o)(_:Q (.bl (pJ b l o)) H)
inductive spSpan (vs:List V)(H:Hp)(Q:VK)(_:XK):Prop
 | mk (b m v:_)(_:vs=[.int b,.int m,v])(_:G1 H v)(_:Q (.bl (nc H b m v)) H)
end HN
namespace L2
open PySem PySem.Spec PyProof.Rows
theorem ps_setCG {py:Pos}{xs:List Str}
  (hN0:X.N.Nodup) (hi0:X.N[iy]? =some y0) (hx0:Loc X.env.scope y0) (hc:X.calm=true) (hi:PI X tg iter wi)
  (kQ:∀y∈scope.names,y.2≠ .cell) (mF:scope.kind= .function) (lI:∀y∈scope.names,y.2= .local→scope.names.lookup y.1=some .local)
  (hfr:∀y∈scope.names,y.2= .free→X.env.scope.names.lookup y.1=some .cell) (hjs:js.map (λj=>X.N[j]?)=fr.map some) (hfv:∀y∈fr,scope.names.lookup y=some .free)
  (hg:∀cl C s' H' ex,PG (cxC XE X scope cl C (xs++fr) s' H' ex) tg g)
  (hb:∀cl C s' H' ex,PASS cl C s' H' ex→PE (cxC XE X scope cl C (xs++fr) s' H' ex) elt te∧PTs (cxC XE X scope cl C (xs++fr) s' H' ex) ifs tt)
  (hp:∀cl C aI σ H2 s2 fp,Inv X aI σ H2 s2→(∀b∈fp,b∈X.ex∨X.s₀.heap.objs.size≤b)→s2.heap.objs.size≤C→PASS cl C s2 H2 fp)
  (hxe:∀R D cl C e s',XE cl C e s'→oG X.prog X.w X.A (kz scope cl C X.env) (compPost (bB X.prog X.w) X.A X.xe (some (assign (.Name y0 py) X.env)) R D C) e s')
  (hCW:∀σ Q J H1,CW σ Q J H1→CompWT xs.length g js tt te σ Q J H1) (hs:autoParam (∀z,gO iter X.env z=hW z) L2.au2._auto_1) (hsw:autoParam (kO (.ListComp elt [⟨tg,iter,ifs,0⟩] scope pos) (some (.Name y0 py)) spos.line X.env=hW true) L2.au0._auto_1)
  (hf0:autoParam (X.fn y0=true∨X.env.scope.names.lookup y0=some .local) L2.au3._auto_1) :
  PS X (.Assign [.Name y0 py] (.ListComp elt [⟨tg,iter,ifs,0⟩] scope pos) spos) (tAsg (λσ H Q=>wi σ H λJ H1=>CW σ Q J H1) (mP iy)):=by
 intro aI s σ H Dn I h;rw[exec_Assign_Name_used _ _ _ _ hsw];apply ak (wpAny_standAt (ak ?_));show aT _ X.A (do let _ ← comprehension (.ListComp elt [⟨tg,iter,ifs,0⟩] scope pos) scope X.env _ (newList []) false (dU iter X.env) (some (assign (.Name y0 py) X.env))) _ _ s;apply ak (dO (pX (use:=some (assign (.Name y0 py) X.env)) (R:=λ_ s'=>SP X aI Dn .next s') hc hi kQ mF lI hfr hjs hfv hg hb hp (λcl C D e s'=>hxe _ D cl C e s') hCW I h (λs4 H5 D C mC hnC I5 nC locC fsC pinX cC sC q=>?_) hs) (λ_ s' hq=>aN (aN hq)) λ_ _ e=>e);obtain⟨oC,esC,epC,hoC,rC⟩:=id hnC;have I6:Inv X ((C,oC)::aI) σ H5 s4:=I5.pins_of λp hp=>by
  rcases aw.mp hp with rfl | hp
  ·apply⟨hoC,nC,locC,fsC,λv z=>?_⟩
   rw[rC.1] at z;cases z
  ·exact I5.pin p (bf _ hp)
 have hPG0:PG X (.Name y0 py) (mP iy):=nY hN0 hi0 hx0 hf0;apply thn (hPG0 _ s4 σ _ (.ref D) (.ref D) (λσ' H'=>Dn.nx σ' H'∧H' C=none) I6 rfl ⟨q,nC⟩) λ_ s6 hz0=>?_
 obtain⟨σ6,H6,I7,q7,n7⟩:=hz0;have o7:=(I7.pin (C,oC) (bf _ (aW ..))).1;apply⟨mC,⟨oC,esC,epC,o7,rC⟩,λh' hsb=>⟨σ6,H6,?_,q7⟩⟩;have I8:Inv X aI σ6 H6 s6:=I7.pins_of λp hp=>I7.pin p (bf _ (aH _ hp))
 exact I8.turned (t':=s6.toks) (it:=C) (λb o hb' e=>hsb.extBut b o hb' e) n7 locC (.inr sC) cC pinX
theorem ps_setC {py:Pos}
  (hN0:X.N.Nodup) (hi0:X.N[iy]? =some y0) (hx0:Loc X.env.scope y0) (hc:X.calm=true) (hi:PI X (.Name x px) iter wi)
  (kQ:∀y∈scope.names,y.2≠ .cell) (mF:scope.kind= .function) (lI:∀y∈scope.names,y.2= .local→scope.names.lookup y.1=some .local) (hx:scope.names.lookup x=some .local)
  (hfr:∀y∈scope.names,y.2= .free→X.env.scope.names.lookup y.1=some .cell) (hnd:(x::fr).Nodup) (hjs:js.map (λj=>X.N[j]?)=fr.map some) (hfv:∀y∈fr,scope.names.lookup y=some .free)
  (hb:∀cl C s' H' ex,PE (pU X scope cl C (x::fr) s' H' ex) elt te∧PTs (pU X scope cl C (x::fr) s' H' ex) ifs tt)
  (hs:autoParam (∀z,gO iter X.env z=hW z) L2.au2._auto_1) (hsw:autoParam (kO (.ListComp elt [⟨.Name x px,iter,ifs,0⟩] scope pos) (some (.Name y0 py)) spos.line X.env=hW true) L2.au0._auto_1)
  (hf0:autoParam (X.fn y0=true∨X.env.scope.names.lookup y0=some .local) L2.au3._auto_1) :
  PS X (.Assign [.Name y0 py] (.ListComp elt [⟨.Name x px,iter,ifs,0⟩] scope pos) spos) (tAsg (tComp wi js tt te) (mP iy)) :=
 ps_setCG (XE:=λ_ _ _ _=>False) (PASS:=λ_ _ _ _ _=>True) (xs:=[x]) (g:=mP 0) hN0 hi0 hx0 hc hi kQ mF lI hfr hjs hfv (λ_ _ _ _ _=>nY hnd rfl (.inl (fF hx)) (.inr (fF hx))) (λcl C s' H' ex _=>hb cl C s' H' ex) (λ_ _ _ _ _ _ _ _ _ _=>trivial) (λ_ _ _ _ _ _ f=>f.elim) (λ_ _ _ _ h=>compW_T h) hs hsw hf0
def notStar:Expr→Bool
 | .Starred _ _=>false
 | _=>true
theorem starEach_not (h:notStar e=true):br (e::es) env=(false,dU e env)::br es env:=by
 cases e <;> first | rfl | cases h
theorem pa_k (ha:PE X e te)(hr:PA X es t)(h:autoParam (notStar e=true) L2.au0._auto_1):PA X (e::es) (oY te t):=ah ha hr (starEach_not h)
structure PEs (X:Cx)(e:Expr)(t:TE):Prop where
 h:PE X e t
structure PAs (X:Cx)(es:List Expr)(t:TA):Prop where
 h:PA X es t
structure PSt (X:Cx)(st:cW)(t:TS):Prop where
 h:PS X st t
theorem pq {t:TS}(h:PS X st t):PS X st (λD σ H=>∃N:St→Hp→Prop,(∀σ' H',N σ' H'→D.nx σ' H')∧t { D with nx:=N } σ H):=by
 intro aI s σ H D I ⟨N,hN,ht⟩;apply thn (h aI s σ H { D with nx:=N } I ht) λf s' q=>?_
 cases f with
 | next=>obtain⟨σ',H',I',n'⟩:=q;exact⟨σ',H',I',hN _ _ n'⟩
 | brk=>exact q
 | cont=>exact q
 | ret u=>exact q
structure PSl (X:Cx)(sts:List cW)(t:TS):Prop where
 h:PSs X sts t
section
variable {a b:Expr}{tb:TE}
theorem jF {i j}:PEs X (.Constant (.int i) j pos) (tC (.int i)):=⟨aP⟩
theorem qD {op:Operator}{r:R2}(ho:OpR X (ip op) r)(ha:PEs X a ta)(hb:PEs X b tb):PEs X (.BinOp a op b pos) (tOp r ta tb):=⟨c7 ho ha.h hb.h⟩
theorem qe {r:R2}(hr:IxR X r)(ha:PEs X a ta)(hb:PEs X b tb)(hs:PlainIx b):PEs X (.Subscript a b pos) (tOp r ta tb):=⟨fK hr ha.h hb.h hs⟩
theorem mE (h:PAs X es t):PEs X (.List es pos) (tLstA t):=⟨ij h.h⟩
theorem l7:PAs X [] tNil:=⟨ay⟩
theorem cO (ha:PEs X e te)(hr:PAs X es t)(h:autoParam (notStar e=true) L2.au0._auto_1):PAs X (e::es) (oY te t):=⟨pa_k ha.h hr.h h⟩
theorem bz {t u:TS}(a:PSt X st t)(b:PSl X sts u):PSl X (st::sts) (tSeq t u):=⟨dq a.h b.h⟩
theorem gy {t:TS}(a:PSt X st t):PSl X [st] t:=⟨bH a.h⟩
end
end L2
namespace HN
open PySem L2 PyProof.Rows
abbrev sGW:cW:=top 12
abbrev qr:cW:=top 13
abbrev ph:cW:=top 14
abbrev sEnds:cW:=top 21
abbrev sLens:cW:=top 22
abbrev sSpan:cW:=top 23
theorem scGW:cI [] [] (defScope sGW):=by trivial
theorem ok_gw (F:Fun K "greatest_whole" "greatest_whole" sGW f fd):‹0› 1 f fd [] spGW:=by
 apply F.ok scGW (λvs H Q E h=>by obtain⟨rfl,_⟩:=h;rfl) (λcdv A outer s H vs Q E hr h=>?_);obtain⟨rfl,k⟩:=h;apply⟨_,bH (cA (c7 ji (c7 op_pow aP aP) aP)),?_⟩;exact⟨ς,⟨↥0,↥0,↥0⟩,ς,k⟩
theorem scWhole:cI ["thing"] ["thing"] (defScope qr):=by trivial
theorem ok_whole (F:Fun K "is_whole" "is_whole" qr f fd)(T:Nm mg):‹0› 1 f fd ["thing"] spWhole:=by
 specialize F.ok scWhole;obtain⟨v,rfl,⟨S,hS⟩,k⟩:=h;apply⟨_,bH (cA (ou (pe_isInt T (pv 0)) (qw (pe_not (pe_isBool T (pv 0)))))),?_⟩;apply⟨ρ,_,ρ,hS,ρ,?_⟩;apply jC (λhc=>?_) (λhc=>?_)
 ·apply⟨ρ,_,ρ,hS,ρ,?_⟩
  rw[sort_int hS hc];exact k
 ·rw[←sort_noInt hS hc];exact k
theorem scWithin:cI pzi pzi (defScope ph):=by trivial
theorem pF (F:Fun K "is_within" "is_within" ph f fd)(T:Nm mg)(G1:Fn K mg "is_whole" qr ["thing"] f1 fd1):‹0› 2 f fd pzi oN:=by
 have F1:‹0› 1 f1 fd1 ["thing"] spWhole:=ok_whole G1.F T;specialize F.ok scWithin;obtain⟨v,lo,hi,rfl,hS,k⟩:=h;apply⟨_,bH (cA (ou (pc1 G1 F1 hr (ah (pv 0) ay)) (qw (pe_chain op_le op_le (pv 1) (pv 0) (pv 2))))),?_⟩;apply⟨ρ,ρ,hS,ρ,?_⟩;apply jC (λhc=>?_) (λhc=>?_)
 ·obtain⟨i,rfl⟩:=isI_of hc
  apply⟨ρ,ρ,ς,ρ,?_⟩;apply jC (λh1=>?_) (λh1=>?_)
  ·apply⟨ρ,ς,?_⟩
   have e:inI (.int i) lo hi=decide (i≤hi):=by show(decide (lo≤i) && decide (i≤hi))=_;rw[h1];rfl
   show Q (.bl (decide (i≤hi))) H;rw[←e];exact k
  ·have e:inI (.int i) lo hi=false:=by show(decide (lo≤i) && decide (i≤hi))=_;rw[cU.mpr h1];rfl
   rw[←e];exact k
 ·have e:inI v lo hi=false:=by
   cases v with
   | int i=>exact qK rfl hc
   | _=>rfl
  rw[←e];exact k
theorem scEnds:cI pzm pzm (defScope sEnds):=by trivial
theorem inI_int {hi:Int}(h:inI v lo hi=true):∃i,v= .int i∧lo≤i∧i≤hi:=by
 cases v with
 | int i =>
  have h:(decide (lo≤i) && decide (i≤hi))=true:=h;rw[ck] at h;exact⟨i,rfl,qN h.1,qN h.2⟩
 | _=>cases h
theorem ok_ends (F:Fun K "are_ends" "are_ends" sEnds f fd)(T:Nm mg)(G1:Fn K mg "is_whole" qr ["thing"] f1 fd1)(G2:Fn K mg "is_within" ph pzi f2 fd2) :
  ‹0› 3 f fd pzm spEnds:=by
 have F2:‹0› 2 f2 fd2 pzi oN:=pF G2.F T G1;specialize F.ok scEnds;obtain ⟨m,st,g,rfl,hs,hg,k⟩:=h;apply ⟨_,bH (cA (ou (pc1 G2 F2 hr (ah (pv 1) (ah aP (ah (c7 ji (pv 0) aP) ay))))
  (ou (pc1 G2 F2 hr (ah (pv 2) (ah aP (ah (c7 ji (pv 0) aP) ay)))) (qw (kK qh (pv 1) (pv 2) (cN _)))))),?_⟩
 apply⟨ρ,ρ,ς,_,_,ρ,hs,ρ,?_⟩;apply jC (λh1=>?_) (λh1=>?_)
 ·apply⟨ρ,ρ,ς,_,_,ρ,hg,ρ,?_⟩
  apply jC (λh2=>?_) (λh2=>?_)
  ·obtain⟨i,rfl,_⟩:=inI_int h1
   obtain⟨j,rfl,_⟩:=inI_int h2;apply⟨ρ,ρ,rfl,?_⟩;have e:nK m (.int i) (.int j)= !decide (V.int i=V.int j):=by unfold nK;rw[h1,h2];rfl
   rw[←e];exact k
  ·have e:nK m st g=false:=by unfold nK;rw[h1,cU.mpr h2];rfl
   rw[←e];exact k
 ·have e:nK m st g=false:=by unfold nK;rw[cU.mpr h1];rfl
  rw[←e];exact k
theorem scLens:cI pzn pzn (defScope sLens):=by trivial
theorem ok_lens {f0:ao}{fd0:aU}(F:Fun K "are_lengths" "are_lengths" sLens f fd)(T:Nm mg)(G0:Fn K mg "greatest_whole" sGW [] f0 fd0)(G1:Fn K mg "is_whole" qr ["thing"] f1 fd1)(G2:Fn K mg "is_within" ph pzi f2 fd2) :
  ‹0› 3 f fd pzn spLens:=by
 have F0:‹0› 1 f0 fd0 [] spGW:=ok_gw G0.F;have F2:‹0› 2 f2 fd2 pzi oN:=pF G2.F T G1;specialize F.ok scLens;obtain ⟨b,l,o,rfl,hl,ho,k⟩:=h;have hr1:ke 1 _:=hr.mono ↥0;apply ⟨_,dq (gC (me (kH (pc1 G2 F2 hr (ah (pv 1) (ah aP (ah (pc0 G0 F0 hr1) ay)))))) (bH (cA pE)) cZ)
  (bH (cA (pc1 G2 F2 hr (ah (pv 2) (ah (pv 1) (ah (b8 (pY rfl) rfl T.min boot_min (ah (c7 ji (c7 gx (pv 1) (pv 0)) aP) (ah (pc0 G0 F0 hr1) ay))) ay)))))),?_⟩
 apply⟨ρ,rfl,_,_,ρ,hl,ρ,?_⟩;apply jC (λh1=>?_) (λh1=>?_)
 ·have e:pJ b l o=false:=by
   unfold pJ;have:inI l 0 B60=false:=by simpa using h1
   rw[this];rfl
  show Q (.bl false) H;rw[←e];exact k
 ·have h1:inI l 0 B60=true:=by simpa using h1
  obtain⟨i,rfl,_⟩:=inI_int h1;apply⟨ρ,ρ,ρ,ρ,ς,ς,rfl,_,ρ,_,_,ρ,ho,?_⟩;have e:pJ b (.int i) o=inI o i (if B60<i+b - 1 then B60 else i+b - 1):=by
   unfold pJ;rw[h1];rfl
  rw[e] at k;exact k
theorem scSpan:cI pzk pzk (defScope sSpan):=by trivial
theorem ok_span {f0 f3 f4:ao}{fd0 fd3 fd4:aU}(F:Fun K "is_span" "is_span" sSpan f fd)(T:Nm mg)(C:Cs mg)(G0:Fn K mg "greatest_whole" sGW [] f0 fd0)(G1:Fn K mg "is_whole" qr ["thing"] f1 fd1)(G2:Fn K mg "is_within" ph pzi f2 fd2)
  (G3:Fn K mg "are_ends" sEnds pzm f3 fd3) (G4:Fn K mg "are_lengths" sLens pzn f4 fd4):‹0› 4 f fd pzk spSpan:=by
 have F2:‹0› 2 f2 fd2 pzi oN:=pF G2.F T G1;have F3:‹0› 3 f3 fd3 pzm spEnds:=ok_ends G3.F T G1 G2;have F4:‹0› 3 f4 fd4 pzn spLens:=ok_lens G4.F T G0 G1 G2;specialize F.ok scSpan;obtain ⟨b,m,v,rfl,hv,k⟩:=h;have hr2:ke 2 _:=hr.mono ↥0;apply ⟨_,dq (gC (PW.pt (mx (me (kH (pe_isTup T (pv 2)))) (kX (cf qh (b8 cF rfl T.len bu (ah (pv 2) ay)) aP (cN _))))) (bH (cA pE)) cZ)
  (dq (gC (PW.pt (mx (me (kH (pc1 G3 F3 hr (ah (pv 1) (ah (ixZ (pv 2)) (ah (ixZ (pv 2)) ay))))))
   (kX (me (kH (pc1 G4 F4 hr (ah (pv 0) (ah (ixZ (pv 2)) (ah (ixZ (pv 2)) ay))))))))) (bH (cA pE)) cZ)
  (bH (cA (pc1 G2 F2 hr2 (ah (ixZ (pv 2)) (ah aP (ah (pA C.mw) ay))))))),?_⟩
 obtain⟨S,hS⟩:=hv.1;apply⟨ρ,_,ρ,hS,ρ,?_⟩
 rcases sort_tup hS with ⟨a,xs,rfl,ha,hq⟩ | ⟨hq,hno⟩
 ·apply lq (by rw[hq];rfl) ?_
  apply⟨ρ,a,xs,rfl,.inr (SqT.of ha),rfl,ρ,?_⟩;apply jC (λh5=>?_) (λh5=>?_)
  ·have e:nc H b m (.ref a)=false:=spanOk_no λa' xs' e1 e2 z=>by
    cases e1;rw[ha] at e2;cases e2;rw[z] at h5;exact qK h5 ↥0
   show Q (.bl false) H;rw[←e];exact k
  ·have hl:xs.length=5:=by
    have h5:¬(!decide (V.int (xs.length:Int)=V.int 5))=true:=h5;rw[Bool.not_eq_true,Bool.not_eq_false'] at h5;have:=qN h5;injection this with this
    lia
   obtain⟨x0,x1,x2,x3,x4,rfl⟩:=len5 hl;have kn:=hv.2 a _ rfl ha;have e:nc H b m (.ref a)=(nK m x0 x1 && (pJ b x2 x3 && inI x4 0 1000000000000)):=by simp only[nc];rw[ha]
   rw[e] at k;apply⟨ρ,ρ,a,τ,SqT.of ha,bp (j:=0) rfl,ρ,a,τ,SqT.of ha,bp (j:=1) rfl,_,_,ρ,kn _ ∅,kn _ ∅,ρ,?_⟩;apply jC (λh1=>?_) (λh1=>?_)
   ·have h1:nK m x0 x1=false:=by simpa using h1
    rw[h1] at k;exact k
   ·have h1:nK m x0 x1=true:=by simpa using h1
    rw[h1] at k;apply⟨ρ,ρ,a,τ,SqT.of ha,bp (j:=2) rfl,ρ,a,τ,SqT.of ha,bp (j:=3) rfl,_,_,ρ,kn _ ∅,kn _ ∅,ρ,?_⟩;apply jC (λh2=>?_) (λh2=>?_)
    ·have h2:pJ b x2 x3=false:=by simpa using h2
     rw[h2] at k;exact k
    ·have h2:pJ b x2 x3=true:=by simpa using h2
     rw[h2] at k;exact⟨ρ,a,τ,SqT.of ha,bp (j:=4) rfl,_,_,ρ,kn _ ∅,k⟩
 ·apply qj (by rw[hq];rfl) ?_
  have e:nc H b m v=false:=spanOk_no λa xs e1 e2=>qK e2 (hno a xs e1)
  show Q (.bl false) H;rw[←e];exact k
end HN
namespace L2
open PySem PySem.Spec PyProof.Rows
end L2
namespace HT2
open PySem
theorem kF (y p q:Str)(r:List Str):cV y (p::q::r)=p++y++cV y (q::r):=rfl
theorem lK (c:Nat)(p q:Str)(r:List Str):(cV ⟨#[c]⟩ (p::q::r)).cps.toList=p.cps.toList++c::(cV ⟨#[c]⟩ (q::r)).cps.toList:=by
 rw[kF];simp only[j9,ie];simp
theorem mr {a b:Str}(h:a.cps.toList=b.cps.toList):a=b:=by
 cases a with | mk x=>cases b with | mk y =>
 have:x=y:=by
  have:=qO List.toArray h
  simpa using this
 rw[this]
theorem cut_first {c:Nat}:∀{a b r s:List Nat},c ∉ a→c ∉ b→a++c::r=b++c::s→a=b∧r=s
 | [],[],_,_,_,_,e=>⟨rfl,(gX e).2⟩
 | [],y::b,_,_,_,hb,e=>by
  have:=(gX e).1;exact qK (this ▸ aW ..) hb
 | x::a,[],_,_,ha,_,e=>by
  have:=(gX e).1;exact qK (this ▸ aW ..) ha
 | x::a,y::b,r,s,ha,hb,e=>by
  obtain⟨e1,e2⟩:=gX e;obtain⟨h1,h2⟩:=cut_first (λm=>ha (aH _ m)) (λm=>hb (aH _ m)) e2;exact⟨by rw[e1,h1],h2⟩
theorem no_cut {a b r:List Nat}(ha:c ∉ a)(e:a=b++c::r):False:=ha (by rw[e];simp)
theorem join_inj {c:Nat}:∀{as bs:List Str},as≠[]→bs≠[]→(∀p∈as,c ∉ p.cps.toList)→(∀p∈bs,c ∉ p.cps.toList)→cV ⟨#[c]⟩ as=cV ⟨#[c]⟩ bs→as=bs
 | [],_,h,_,_,_,_=>qK rfl h
 | _::_,[],_,h,_,_,_=>qK rfl h
 | [p],[q],_,_,_,_,e=>by
  have e:p=q:=e;rw[e]
 | [p],q::q2::r,_,_,ha,_,e=>by
  have:=qO (λs:Str=>s.cps.toList) e;simp only[lK] at this;exact(no_cut (ha p ∅) this).elim
 | p::p2::r,[q],_,_,_,hb,e=>by
  have:=qO (λs:Str=>s.cps.toList) e;simp only[lK] at this;exact(no_cut (hb q ∅) this.symm).elim
 | p::p2::r,q::q2::s,_,_,ha,hb,e=>by
  have:=qO (λs:Str=>s.cps.toList) e;simp only[lK] at this;obtain⟨h1,h2⟩:=cut_first (ha p ∅) (hb q ∅) this;have ih:=join_inj (as:=p2::r) (bs:=q2::s) ∅ ∅ (λx hx=>ha x (aH _ hx)) (λx hx=>hb x (aH _ hx)) (mr h2);rw[mr h1,ih]
theorem mZ (x:Str)(c:Nat):bD x ⟨#[c]⟩≠[]:=by
 unfold bD;split
 ·simp
 ·split
  ·simp
  ·unfold fV
   intro h;have:=qO gu h;simp at this
theorem jS (h:ys≠[])(hf:∀p∈ys,c ∉ p.cps.toList):bD (dF ⟨#[c]⟩ ys) ⟨#[c]⟩=ys:=by
 have e:dF ⟨#[c]⟩ ys=cV ⟨#[c]⟩ ys:=dW _ _;rw[e];apply join_inj (c:=c) (mZ _ _) h (λp hp=>StrLaws.split_free _ c p hp) hf ?_;exact jB _ _
def dig (m:Nat):List Nat:=(Nat.toDigits 10 m).map Char.toNat
theorem pS (h:m<10):dig m=[48+m]:=by
 unfold dig;rw[Nat.toDigits_of_lt_base h];have:∀d:Nat,d<10→(Nat.digitChar d).toNat=48+d:=by decide
 show[(Nat.digitChar m).toNat]=_;rw[this m h]
theorem dig_ge (h:10≤m):dig m=dig (m / 10)++[48+m % 10]:=by
 have hm:m % 10<10:=Nat.mod_lt m ↥0;have t:Nat.toDigits 10 (m / 10)++Nat.toDigits 10 (m % 10)=Nat.toDigits 10 (10 * (m / 10)+m % 10):=Nat.toDigits_append_toDigits ↥0 ⋯ hm;rw[Nat.div_add_mod] at t;have e:=pS hm;unfold dig at e ⊢;rw[←t,ax,e]
theorem dig_ne (m:Nat):dig m≠[]:=by
 rcases Nat.lt_or_ge m 10 with h | h
 ·rw[pS h];simp
 ·rw[dig_ge h];simp
theorem dig_all:∀(m:Nat),∀c∈dig m,48≤c∧c≤57:=by
 intro m
 induction m using Nat.strongRecOn with
 | _ m ih =>
  intro c hc
  rcases Nat.lt_or_ge m 10 with h | h
  ·rw[pS h] at hc
   have:=aB.mp hc;lia
  ·rw[dig_ge h] at hc
   rcases aL.mp hc with q | q
   ·exact ih (m / 10) ⋯ c q
   ·have:=aB.mp q
    lia
theorem dig_len:∀(k m:Nat),m<10 ^ (k+1)→(dig m).length≤k+1
 | 0,m,h=>by rw[pS (by simpa using h)];simp
 | k+1,m,h=>by
  rcases Nat.lt_or_ge m 10 with q | q
  ·rw[pS q];simp
  ·rw[dig_ge q,aq,dw]
   have h2:m / 10<10 ^ (k+1):=by
    have e:(10:Nat) ^ (k+1+1)=10 ^ (k+1) * 10:=Nat.pow_succ ..;rw[e] at h;exact Nat.div_lt_of_lt_mul ⋯
   have:=dig_len k (m / 10) h2;lia
theorem dig_head:∀(m:Nat),1≤m→(dig m).head? ≠some 48:=by
 intro m
 induction m using Nat.strongRecOn with
 | _ m ih =>
  intro h1 e
  rcases Nat.lt_or_ge m 10 with h | h
  ·rw[pS h] at e
   have:48+m=48:=by simpa using e
   lia
  ·rw[dig_ge h] at e
   have ih':=ih (m / 10) ⋯ ⋯;cases hd:dig (m / 10) with
   | nil=>exact dig_ne _ hd
   | cons a r =>
    rw[hd] at e ih';exact ih' (by simpa using e)
theorem dig_one (h:1<(dig m).length):10≤m:=by
 rcases Nat.lt_or_ge m 10 with q | q
 ·rw[pS q] at h;simp at h
 ·exact q
def num (m:Nat):Str:=au (toString ((m:Nat):Int))
theorem mB (m:Nat):(num m).cps.toList=dig m:=PySem.W.KIN.signs_num m
theorem num_len (h:m<10 ^ 60):(num m).length≤60:=by
 have:=dig_len 59 m h;rw[←mB] at this
 simpa [iF] using this
theorem num_pos (m:Nat):1≤(num m).length:=by
 have h:=dig_ne m;rw[←mB] at h;cases e:(num m).cps.toList with
 | nil=>exact qK e h
 | cons a r =>
  have:(num m).length=(num m).cps.toList.length:=by simp[iF]
  rw[this,e];simp
theorem num_int (h:m<10 ^ 60):PySem.intText? (num m)=some ((m:Nat):Int):=by
 have e:=PySem.intText_digits (x:=num m) (λc hc=>dig_all m c (by rw[←mB];exact hc)) (by rw[mB];exact dig_ne m) (cu (num_len h) ↥0);rw[mB] at e;rw[e];have v:=PySem.W.KIN.val_back m;unfold dig;rw[v]
end HT2
namespace HN
open PySem L2 PyProof.Rows HT2
abbrev sp_:Str := " "
abbrev nl_:Str := "\n"
theorem nV:(sp_:Str)=⟨#[32]⟩:=by trivial
theorem nl_eq:(nl_:Str)=⟨#[10]⟩:=by trivial
def lT (i:Int):Str:=toString i
theorem oT (m:Nat):lT (m:Int)=num m:=rfl
def W60 (i:Int):Prop:=0≤i∧i<10 ^ 60
theorem W60.nat {i:Int}(h:W60 i):∃m:Nat,i=m∧m<10 ^ 60:=by
 obtain⟨m,rfl⟩:=dm h.1;exact⟨m,rfl,by have:=h.2;lia⟩
theorem numI_cps {i:Int}(h:W60 i):∀c∈(lT i).cps.toList,48≤c∧c≤57:=by
 obtain⟨m,rfl,_⟩:=h.nat;rw[oT,mB];exact dig_all m
theorem nr {i:Int}(h:W60 i):(lT i).length≤60:=by
 obtain⟨m,rfl,hm⟩:=h.nat;rw[oT];exact num_len hm
theorem numI_int {i:Int}(h:W60 i):PySem.intText? (lT i)=some i:=by
 obtain⟨m,rfl,hm⟩:=h.nat;rw[oT];exact num_int hm
theorem log_60 {i:Int}(h:W60 i):i.natAbs.log2<1920:=by
 by_cases h0:i.natAbs=0
 ·rw[h0];decide
 ·have h1:i.natAbs<2 ^ 200:=by
   have:(10:Nat) ^ 60<2 ^ 200:=by trivial
   have h2:i.natAbs<10 ^ 60:=by have:=h.1;have:=h.2;lia
   lia
  have:=(Nat.log2_lt h0).mpr h1;lia
theorem pG {i:Int}(h:W60 i)(hc:c<48):c ∉ (lT i).cps.toList:=λm=>by
 have:=numI_cps h c m;lia
theorem cps_app (a b:Str):(a++b).cps.toList=a.cps.toList++b.cps.toList:=by simp only[j9,ie]
theorem jT (a b:Str):(a++b).length=a.length+b.length:=Str.length_append a b
theorem join_mem {c:Nat}:∀{ys:List Str} {x:Nat},x∈(cV ⟨#[c]⟩ ys).cps.toList→x=c∨∃y∈ys,x∈y.cps.toList
 | [],x,h=>by
  have h:x∈(c9).cps.toList:=h;exact qK h (by simp[c9])
 | [y],x,h=> .inr ⟨y,∅,h⟩
 | y::z::r,x,h=>by
  rw[lK] at h
  rcases aL.mp h with h | h
  ·exact .inr ⟨y,∅,h⟩
  ·rcases aw.mp h with h | h
   ·exact .inl h
   ·rcases join_mem (ys:=z::r) h with q | ⟨w',hw,q⟩
    ·exact .inl q
    ·exact .inr ⟨w',aH _ hw,q⟩
theorem sum_le {α:Type}(f:α→Nat)(k:Nat):∀(l:List α),(∀x∈l,f x≤k)→(l.map f).sum≤l.length * k
 | [],_=>by simp
 | x::r,h=>by
  have h1:=h x ∅;have h2:=sum_le f k r λy hy=>h y (aH _ hy)
  simp only[bw,fG,az,Nat.add_mul];lia
end HN
namespace L2
open PySem PySem.Spec PyProof.Rows
theorem call_int_str:iM X (.type "int") (λxs H Q=>∃x n,xs=[.str x]∧PySem.intText? x=some n∧x.length≤640∧Q (.int n) H):=by
 intro aI s σ H xs us Q I r h;obtain⟨x,n,rfl,hn,hl,q⟩:=h;obtain⟨u,rfl,ru⟩:=mO r;obtain⟨t,rfl⟩:=(show ∃t,u=af.str x t from ru);exact PySem.W.KIN.call_text hn hl ⟨.int n,H,I.tok _,⟨_,rfl⟩,q⟩
end L2
namespace HN
open PySem L2 PyProof.Rows HT2
structure Nm2 (mg:Str→Option af):Prop where
 tstr:mg "str" =none
 tlist:mg "list" =none
structure Cs2 (mg:Str→Option af):Prop where
 ltr:∃t,mg "LETTERS" =some (.str "abcdefghijklmnopqrstuvwxyz" t)
 ml:∃t,mg "MOST_LETTERS" =some (.int 8 t)
 fig:∃t,mg "FIGURES" =some (.str "0123456789" t)
 mf:∃t,mg "MOST_FIGURES" =some (.int 60 t)
theorem pe_gstr (hm:∃t,X.mg x=some (.str z t))(hg:autoParam (Gl X x) L2.au0._auto_1)(hd:autoParam ((x == ("__debug__" :Str))=false) L2.au1._auto_1):PE X (.Name x pos) (tC (.str z)) :=
 let ⟨t,e⟩:=hm;kj (v:= .str z) (u:= .str z t) hg e ⟨t,rfl⟩ hd
theorem pe_isStr {p:Pos}(N:Nm X.mg)(N2:Nm2 X.mg)(he:PE X e te)(hg:autoParam (Gl X "isinstance") L2.au0._auto_1)(hg2:autoParam (Gl X "str") L2.au0._auto_1)
  (hs1:autoParam (br [e,.Name "str" p2] X.env=(false,dU e X.env)::br [.Name "str" p2] X.env) L2.au0._auto_1) (hpl:autoParam ((gG pos (br [.Name "str" p2] X.env)).any (·.1)=false) L2.au0._auto_1) :
  PE X (.Call (.Name "isinstance" p) [e,.Name "str" p2] [] pos) (tCB (λxs H Q=>∃x T,xs=[x,.ty "str"]∧tyn H x=some T∧Q (.bl (T == "str")) H) (oY te (oY (tC (.ty "str")) tNil))) :=
 b8 call_isStr hg N.isin eO (ah he (ah (pB hg2 N2.tstr boot_str rfl) ay) hs1) (he:=hs1) (hpl:=hpl)
def gb (z:Str):Bool:=decide (1≤z.length) && (decide (z.length≤60) && (!(decide (z.cps.toList.head? =some 48) && decide (1<z.length)) && z.cps.toList.all λc=>decide (48≤c∧c≤57)))
theorem fig_in (c:Nat):(!(cg ("0123456789" :Str) ⟨#[c]⟩ 0 ("0123456789" :Str).length 1).isEmpty)=decide (48≤c∧c≤57):=by
 rw[StrLaws.found_one];have e:("0123456789" :Str).cps.toList=List.range' 48 10:=by trivial
 rw[e,decide_eq_decide,List.mem_range'_1];omega
theorem mD {i:Int}(h:W60 i):gb (lT i)=true:=by
 obtain⟨m,rfl,hm⟩:=h.nat;unfold gb;rw[oT];rw[qL (num_pos m),qL (num_len hm),mB];have h1:((dig m).all λc=>decide (48≤c∧c≤57))=true:=by
  rw[gg];exact λc hc=>qL (dig_all m c hc)
 rw[h1];have h2:(decide ((dig m).head? =some 48) && decide (1<(num m).length))=false:=by
  rw[cU];intro z;rw[ck] at z;have z1:=qN z.1;have z2:=qN z.2;have e:(num m).length=(dig m).length:=by rw[←mB];simp[iF]
  rw[e] at z2;exact dig_head m (by have:=dig_one z2;lia) z1
 rw[h2];rfl
inductive spNumeral (vs:List V)(H:Hp)(Q:VK)(_:XK):Prop
 | mk (z:Str)(_:vs=[.str z])(_:z.length≤100000)(_:∀H',cB H H'→Q (.bl (gb z)) H')
abbrev oQ:cW:=top 15
abbrev sRead:cW:=top 16
theorem scNumeral:cI pzc pzc (defScope oQ):=by trivial
theorem ok_numeral (F:Fun K "is_numeral" "is_numeral" oQ f fd)(T:Nm mg)(C:Cs2 mg):‹0› 1 f fd pzc spNumeral:=by
 specialize F.ok scNumeral;obtain ⟨z,rfl,hz,k⟩:=h;apply ⟨_,dq (gC (PW.pt (mx (cf op_lt (b8 j8 rfl T.len bu (ah (pv 0) ay)) aP (cN _)) (kX (cf op_gt (b8 j8 rfl T.len bu (ah (pv 0) ay)) (pA C.mf) (cN _))))) (bH (cA pE)) cZ)
  (dq (pq (gC (PW.pt (nj (cf iW (fK ix_str (pv 0) aP (fun _ _=>rfl)) dC (cN _)) (lQ (cf op_gt (b8 j8 rfl T.len bu (ah (pv 0) ay)) aP (cN _))))) (bH (cA pE)) cZ))
  (bH (cA (b8 (call_all rfl) rfl T.all boot_all (ah (nZ (fr:=[]) (js:=[]) rfl (pi_str (pv 0)) ⇑0 rfl ⇑0 rfl (by exists oQ) ⇑0 rfl ⇑0 (fun _ _ _ _ _=>⟨(kK op_in_str (pv 0) (pe_gstr C.fig) rfl),ki⟩)) ay))))),?_⟩
 have big:(100000:Nat)≤aA:=by decide
 have hz':z.length≤aA:=by lia
 have k0:=k H (cB.refl H);apply⟨ρ,z,rfl,hz',ς,ρ,?_⟩;apply jC (λh1=>?_) (λh1=>?_)
 ·have h1:(z.length:Int)<1:=qN h1
  have e:gb z=false:=by unfold gb;rw[qM ⋯];rfl
  rw[e] at k0;exact k0
 have h1:¬(z.length:Int)<1:=λq=>h1 (qL q)
 apply⟨ρ,z,rfl,hz',ς,ρ,?_⟩;apply jC (λh2=>?_) (λh2=>?_)
 ·have h2:(60:Int)<(z.length:Int):=qN h2
  have e:gb z=false:=by unfold gb;rw[qM (by lia:¬z.length≤60),j4,Bool.and_false]
  rw[e] at k0;exact k0
 have h2:¬(60:Int)<(z.length:Int):=λq=>h2 (qL q)
 have hl:z.cps.toList.length=z.length:=by simp[iF]
 obtain⟨c0,r0,hc⟩:∃c r,z.cps.toList=c::r:=by
  cases e:z.cps.toList with
  | nil=>rw[e] at hl;simp at hl;lia
  | cons c r=>exact⟨c,r,rfl⟩
 have en:gb z=(!(decide (c0=48) && decide (1<z.length)) && z.cps.toList.all λc=>decide (48≤c∧c≤57)):=by
  unfold gb;rw[qL (by lia:1≤z.length),qL (by lia:z.length≤60),iP,iP];congr 3;rw[decide_eq_decide,hc];simp
 have e48:decide (V.str ⟨#[c0]⟩=V.str "0")=decide (c0=48):=by
  rw[decide_eq_decide];have z0:("0" :Str)=⟨#[48]⟩:=by trivial
  rw[z0]
  constructor
  ·intro q
   injection q with q
   have:=qO (λs:Str=>s.cps.toList) q
   simpa using this
  ·intro q;rw[q]
 apply⟨λσ' H'=>σ'=[some (.str z)]∧H'=H∧(decide (c0=48) && decide (1<z.length))=false,?_,?_⟩
 ·rintro σ' H' ⟨rfl,rfl,hq⟩
  rw[hq] at en;apply⟨ρ,z,rfl,?_⟩;have hsz:z.cps.size=z.cps.toList.length:=by simp
  apply comp_str (λi ys H2=>H2=H'∧ys=(z.cps.toList.take i).map λc=>V.bl (decide (48≤c∧c≤57))) ⟨rfl,rfl⟩ (λi ys H2 hi ⟨e1,e2⟩=>?_) hz' (λi c ys H2 hx ⟨e1,e2⟩=>?_) (λys H2 ⟨e1,e2⟩ D hD=>?_)
  ·rw[e2,ae,aZ];lia
  ·subst e1
   apply jj ?_;apply⟨ρ,ς,rfl,?_⟩;have hx':z.cps.toList[i]? =some c:=by rw[iQ];exact hx
   rw[e2,bW,hx',ax,fig_in];rfl
  ·subst e1
   rw[hsz,cD] at e2;apply⟨D,z.cps.toList.map λc=>decide (48≤c∧c≤57),rfl,SqL.of (by rw[aR,e2,b9];rfl),?_⟩;have e3:((z.cps.toList.map λc=>decide (48≤c∧c≤57)).all id)=gb z:=by rw[en,List.all_map];rfl
   rw[e3];exact k _ (cB.put (cB.refl H2) hD)
 ·apply⟨ρ,z,0,c0,rfl,rfl,hz',by rw[hc];exact bp (j:=0) rfl,rfl,ρ,?_⟩
  rw[e48];apply jC (λh3=>?_) (λh3=>?_)
  ·apply⟨ρ,z,rfl,hz',ς,ρ,?_⟩
   apply jC (λh4=>?_) (λh4=>?_)
   ·have h4:(1:Int)<(z.length:Int):=qN h4
    rw[en,h3,qL (by lia:1<z.length)] at k0;exact k0
   ·have h4:¬(1:Int)<(z.length:Int):=λq=>h4 (qL q)
    exact⟨rfl,rfl,by rw[qM (by lia:¬1<z.length),Bool.and_false]⟩
  ·exact⟨rfl,rfl,by rw[cU.mpr h3,j4]⟩
theorem scRead:cI pzc pzc (defScope sRead):=by trivial
def nam (z:Str):Bool:=decide (1≤z.length) && (decide (z.length≤8) && z.cps.toList.all λc=>decide (97≤c∧c≤122))
theorem ltr_in (c:Nat):(!(cg ("abcdefghijklmnopqrstuvwxyz" :Str) ⟨#[c]⟩ 0 ("abcdefghijklmnopqrstuvwxyz" :Str).length 1).isEmpty)=decide (97≤c∧c≤122):=by
 rw[StrLaws.found_one];have e:("abcdefghijklmnopqrstuvwxyz" :Str).cps.toList=List.range' 97 26:=by trivial
 rw[e,decide_eq_decide,List.mem_range'_1];omega
abbrev sNam:cW:=top 30
theorem scNam:cI pzc pzc (defScope sNam):=by trivial
end HN
namespace L2
open PySem PySem.Spec PyProof.Rows
theorem ints_are:∀{ns:List Int} {us:List af},gU (ns.map V.int) us→IntsAre us ns
 | [],_,.nil=> .nil
 | _::_,_,.cons ⟨_,e⟩ r=>by cases e;exact .cons _ _ (ints_are r)
theorem fm_some {α β:Type}{f:α→Option β}{g:α→β}:∀(l:List α),(∀x∈l,f x=some (g x))→l.filterMap f=l.map g
 | [],_=>rfl
 | x::l,h=>by rw[gI,h x ∅,bw,fm_some l λy hy=>h y (aH _ hy)]
theorem pick_back (xs:Array af):((cS xs.size).filterMap λ(k:Nat)=>xs[((xs.size:Int) - 1+(k:Int) * (-1)).toNat]?)=xs.toList.reverse:=by
 have e:∀k∈cS xs.size,(λ(k:Nat)=>xs[((xs.size:Int) - 1+(k:Int) * (-1)).toNat]?) k=some ((λk=>xs.toList.getD (xs.size - 1 - k) .none) k):=λk hk=>by
  have hk:=List.mem_range.mp hk;have:((xs.size:Int) - 1+(k:Int) * (-1)).toNat=xs.size - 1 - k:=by lia
  show xs[((xs.size:Int) - 1+(k:Int) * (-1)).toNat]? =some (xs.toList.getD (xs.size - 1 - k) .none);rw[this,dk,iQ,lO ⋯];rfl
 rw[fm_some _ e];apply List.ext_getElem ∅ λi h1 h2=>?_
 have hi:i<xs.size:=by simpa using h1
 rw[fj,List.getElem_range,List.getElem_reverse,dk,gE (by rw[eP];lia)];simp
theorem vals_back:∀{xs:List V} {us:List af},gU xs us→gU xs.reverse us.reverse
 | _,_,.nil=> .nil
 | _::_,_::_,.cons r t=>by rw[List.reverse_cons,List.reverse_cons];exact(vals_back t).append (.cons r .nil)
theorem call_sum (hc:X.calm=true):iM X (.builtin "sum") (λxs H Q=>∃(p:ao) (ns:List Int),xs=[.ref p]∧SqL X.K H p (ns.map V.int)∧Q (.int ns.sum) H):=by
 intro aI s σ H xs us Q I r h;obtain⟨p,ns,rfl,hq,q⟩:=h;obtain⟨u,rfl,ru⟩:=mO r;cases(show u=af.ref p from ru);obtain⟨its,rv,pl,hz⟩:=I.list hq;have hi:=ints_are rv;obtain⟨ys,hx⟩:=hi.allInts.items;have hl':s.heap.IsList p (intItems ys):=hx ▸ pl.isList;apply sum_intListG (I.ok.hd hc) hl' λh' tk t' hk=>?_
 have e1:ns=ys.toList.map (·.1):=by
  rw[←nums_intItems,←hx];exact(show numsOf its.toArray.toList=ns from hi.numsOf).symm
 have e2:preSum (numAt ys) ys.size=ns.sum:=by
  rw[preSum_eq,eM ∅,e1]
 rw[e2];exact⟨.int ns.sum,H,I.kept (t':=tk) hk,⟨t',rfl⟩,q⟩
theorem op_neL0 (hu:X.A.units<cLine):OpR X (eR .NotEq) (λx y H Q=>∃a b xs,x= .ref a∧y= .ref b∧SqL X.K H a xs∧SqL X.K H b []∧Q (.bl (!xs.isEmpty)) H):=by
 intro aI s σ H x y v u Q I rx ry h;obtain⟨a,b,xs,rfl,rfl,ha,hb,q⟩:=h;cases(show v=af.ref a from rx);cases(show u=af.ref b from ry);obtain⟨its,r1,p1,_⟩:=I.list ha;obtain⟨its2,r2,p2,_⟩:=I.list hb;cases r2;cases r1 with
 | nil =>
  apply SeqAt.RcNeAt.lists (A:=X.A) (e:=λ_=>true) p1.isList p2.isList rfl hu (λj h1 _=>qK h1 ∅) X.prog X.w _ _ (fz I q ∅)
 | cons _ _=>exact SeqAt.RcNeAt.lists_lengths (A:=X.A) p1.isList p2.isList ∅ hu X.prog X.w _ _ (fz I q ∅)
theorem k_tup {x1}(h:PAs X es t):PEs X (.Tuple es x1 pos) (tTupA t):=⟨jq h.h⟩
theorem k_bl {b j}:PEs X (.Constant (.bool b) j pos) (tC (.bl b)):=⟨pE⟩
theorem k_non {j}:PEs X (.Constant .none j pos) (tC .non):=⟨jf⟩
theorem jU {x j}:PEs X (.Constant (.str x) j pos) (tC (.str x)):=⟨dC⟩
theorem k_dnew:PEs X (.Dict [] [] pos) (λ_ H Q=>New H (.dK []) Q):=⟨pe_dnewA⟩
theorem k_lstF (h:PAs X es t):PEs X (.List es pos) (tLst t):=⟨kY h.h⟩
theorem pick_backL (its:List af):slicePick its.toArray none none (some (-1))=its.reverse.toArray:=by
 unfold slicePick;have e0:jA none none (some (-1)) its.toArray.size=((its.length:Int) - 1,-1,-1):=by
  rw[aG];rfl
 rw[e0];show((sliceRange ((its.length:Int) - 1) (-1) (-1)).filterMap (its.toArray[·]?)).toArray=_;unfold sliceRange;have ec:(if (-1:Int) > 0 then (if (its.length:Int) - 1< -1 then (-1 - ((its.length:Int) - 1)+ -1 - 1) / -1 else 0) else (if (its.length:Int) - 1 > -1 then ((its.length:Int) - 1 - -1 - -1 - 1) / (- -1) else 0))=(its.length:Int):=by
  rw[qI ↥0,show -(-1:Int)=1 from rfl,Int.ediv_one];split <;> lia
 show(((cS (if (-1:Int) > 0 then (if (its.length:Int) - 1< -1 then (-1 - ((its.length:Int) - 1)+ -1 - 1) / -1 else 0) else (if (its.length:Int) - 1 > -1 then ((its.length:Int) - 1 - -1 - -1 - 1) / (- -1) else 0)).toNat).map λ(k:Nat)=>((its.length:Int) - 1+ -1 * (k:Int)).toNat).filterMap (its.toArray[·]?)).toArray=_;rw[ec,fU,List.filterMap_map];have h:=pick_back its.toArray;rw[aG] at h;congr 1;rw[←h];apply qO (λf=>List.filterMap f (cS its.length)) (funext λk=>?_);show its.toArray[((its.length:Int) - 1+ -1 * (k:Int)).toNat]? =its.toArray[((its.length:Int) - 1+(k:Int) * (-1)).toNat]?;rw[Int.mul_comm]
def tBackL (te:TE):TE:=λσ H Q=>te σ H λx H1=>∃a xs,x= .ref a∧H1 a=some (.lst xs)∧New H1 (.lst xs.reverse) Q
theorem pe_backL {p1 p3:Pos}{j}(he:PE X e te):PE X (.Subscript e (.Slice none none (some (.UnaryOp .USub (.Constant (.int 1) j p3) p1)) p2) pos) (tBackL te):=by
 intro aI s σ H Q I h;apply Subscript_ (thn (he aI s σ H _ I h) λv s1 hz0=>?_);obtain⟨x,H1,I1,r1,q1⟩:=hz0;obtain⟨a,xs,rfl,hx,q⟩:=q1;apply wpAny_Slice ?_;rw[evalPart_none,evalPart_some];apply aN (aN ?_);apply thn ((pe_un un_neg aP:PE X (.UnaryOp .USub (.Constant (.int 1) j p3) p1) _) aI s1 σ H1 (λx H2=>x= .int (-1)∧H2=H1) I1 ⟨_,rfl,rfl,rfl⟩) λu s2 hz0=>?_
 obtain⟨x2,H2,I2,r2,e2,e3⟩:=hz0;subst e2 e3;obtain⟨t,rfl⟩:=r2;cases r1;have I4:Inv X aI σ H2 { s2 with heap:=s2.heap.push { cls:= .type "slice",data:= .fields #[.none,.none,.int (-1) t] } }:=I2.kept (t':=s2.toks) λb ob q=>av _ q
 obtain⟨its,r,ht,hz⟩:=I4.list (SqL.of (K:=X.K) hx);have hlen:its.length=xs.length:=r.length.symm;apply tail_any (ops:=[.ref a,.ref s2.heap.objs.size]) ht.isList.typeIs mJ.lookup (mM ht.isList (bM.IsSliceOf.new ..) .none .none (.int (-1) t) ↥0 ?_ (by rw[aG,hlen];exact hz)) (by with_unfolding_all rfl);rw[pick_backL];apply⟨.ref _,_,I4.laid (t':=s2.toks) (o:= .lst xs.reverse) (λ_ _ z=>av _ z) (aD _) ⟨by rw[List.length_reverse];exact hz,its.reverse,0,vals_back r,aQ _ rfl⟩,rfl,q.of _ I4.fresh⟩
def evs {α:Type}:List α→List α
 | []=>[]
 | [x]=>[x]
 | x::_::r=>x::evs r
theorem evs_pick {α:Type}:∀(l pre:List α),((cS ((l.length+1) / 2)).map λk=>pre.length+2 * k).filterMap ((pre++l)[·]?)=evs l
 | [],pre=>by simp[evs]
 | [x],pre=>by
  have e:([x].length+1) / 2=1:=by simp
  rw[e];simp[evs]
 | x::y::r,pre=>by
  have ih:=evs_pick r (pre++[x,y]);have e:((x::y::r).length+1) / 2=(r.length+1) / 2+1:=by simp only[az];lia
  rw[e,List.range_succ_eq_map,bw,gI];have h0:(pre++x::y::r)[pre.length+2 * 0]? =some x:=by simp
  rw[h0];show x::_=x::evs r;congr 1;rw[←ih,b9];have e2:pre++[x,y]++r=pre++x::y::r:=by simp
  rw[e2];congr 1;apply dn λk _=>?_
  show pre.length+2 * (k+1)=(pre++[x,y]).length+2 * k;rw[aq];show _=pre.length+2+2 * k;lia
theorem pR {α β:Type}(f:α→β):∀l:List α,(evs l).map f=evs (l.map f)
 | []=>rfl
 | [_]=>rfl
 | _::_::r=>qO _ (pR f r)
theorem evs_len {α:Type}:∀l:List α,(evs l).length=(l.length+1) / 2
 | []=>by simp[evs]
 | [_]=>by simp[evs]
 | _::_::r=>by
  show(evs r).length+1=(r.length+1+1+1) / 2;rw[evs_len r];lia
theorem vals_evs:∀{xs:List V} {us:List af},gU xs us→gU (evs xs) (evs us)
 | [],_,h=>by cases h;exact .nil
 | [_],_,h=>by
  cases h with
  | cons r h=>cases h;exact .cons r .nil
 | _::_::_,_,h=>by
  cases h with
  | cons r h =>
   cases h with
   | cons _ t=>exact .cons r (vals_evs t)
theorem vals_drop:∀{xs:List V} {us:List af} (n:Nat),gU xs us→gU (xs.drop n) (us.drop n)
 | _,_,0,h=>h
 | _,_,_+1,.nil=> .nil
 | _,_,n+1,.cons _ t=>vals_drop n t
theorem pick_two (its:List af){a:Nat}(ha:a≤its.length):slicePick its.toArray (some (a:Int)) none (some 2)=(evs (its.drop a)).toArray:=by
 unfold slicePick;have e0:jA (some (a:Int)) none (some 2) its.toArray.size=((a:Int),(its.length:Int),2):=by
  rw[aG];show(max 0 (min (if (a:Int)<0 then (a:Int)+its.length else (a:Int)) (its.length:Int)),(its.length:Int),(2:Int))=_;rw[qI ⋯,Int.min_eq_left ⋯,Int.max_eq_right ⋯]
 rw[e0];congr 1;show((cS (if (2:Int) > 0 then (if (a:Int)<(its.length:Int) then ((its.length:Int) - a+2 - 1) / 2 else 0) else _).toNat).map λ(k:Nat)=>((a:Int)+2 * (k:Int)).toNat).filterMap (its.toArray[·]?)=_;rw[qJ ↥0];have ec:(if (a:Int)<(its.length:Int) then ((its.length:Int) - a+2 - 1) / 2 else 0).toNat=((its.drop a).length+1) / 2:=by
  rw[bK];split <;> lia
 rw[ec,←evs_pick (its.drop a) (its.take a),eV,aZ,dA ha];have e1:((cS (((its.drop a).length+1) / 2)).map λ(k:Nat)=>((a:Int)+2 * (k:Int)).toNat)=(cS (((its.drop a).length+1) / 2)).map λk=>a+2 * k:=dn λk _=>by lia
 rw[e1];apply qO (λf=>List.filterMap f _) (funext λk=>?_);simp
def tTwoL (K:aj)(a:Nat)(te:TE):TE:=λσ H Q=>te σ H λx H1=>∃p xs,x= .ref p∧SqL K H1 p xs∧a≤xs.length∧New H1 (.lst (evs (xs.drop a))) Q
theorem pe_twoL {a:Nat}{p1 p3:Pos}{j1 j2}(he:PE X e te):PE X (.Subscript e (.Slice (some (.Constant (.int (a:Int)) j1 p1)) none (some (.Constant (.int 2) j2 p3)) p2) pos) (tTwoL X.K a te):=by
 intro aI s σ H Q I h;apply Subscript_ (thn (he aI s σ H _ I h) λv s1 hz0=>?_);obtain⟨x,H1,I1,r1,q1⟩:=hz0;obtain⟨p,xs,rfl,hx,hl,q⟩:=q1;apply wpAny_Slice ?_;rw[evalPart_none,evalPart_some,evalPart_some];apply thn ((aP:PE X (.Constant (.int (a:Int)) j1 p1) _) aI s1 σ H1 (λx H2=>x= .int (a:Int)∧H2=H1) I1 ⟨rfl,rfl⟩) λu1 s2 hz0=>?_
 obtain⟨x2,H2,I2,r2,e2,e3⟩:=hz0;subst e2 e3;obtain⟨t1,rfl⟩:=r2;apply aN ?_;apply thn ((aP:PE X (.Constant (.int 2) j2 p3) _) aI s2 σ H2 (λx H3=>x= .int 2∧H3=H2) I2 ⟨rfl,rfl⟩) λu3 s3 hz0=>?_
 obtain⟨x3,H3,I3,r3,e4,e5⟩:=hz0;subst e4 e5;obtain⟨t3,rfl⟩:=r3;cases r1;have I4:Inv X aI σ H3 { s3 with heap:=s3.heap.push { cls:= .type "slice",data:= .fields #[.int (a:Int) t1,.none,.int 2 t3] } }:=I3.kept (t':=s3.toks) λb ob q=>av _ q
 obtain⟨its,r,ht,hz⟩:=I4.list hx;have hlen:its.length=xs.length:=r.length.symm;apply tail_any (ops:=[.ref p,.ref s3.heap.objs.size]) ht.isList.typeIs mJ.lookup (mM ht.isList (bM.IsSliceOf.new ..) (.int _ t1) .none (.int 2 t3) ↥0 ?_ (by rw[aG,hlen];exact hz)) (by with_unfolding_all rfl);rw[pick_two its ⋯];have el:(evs (xs.drop a)).length≤aA:=by
  rw[evs_len,bK];lia
 apply⟨.ref _,_,I4.laid (t':=s3.toks) (o:= .lst (evs (xs.drop a))) (λ_ _ z=>av _ z) (aD _) ⟨el,evs (its.drop a),0,vals_evs (vals_drop a r),aQ _ rfl⟩,rfl,q.of _ I4.fresh⟩
end L2
namespace HN
open PySem L2 PyProof.Rows HT2
abbrev sBeatR:cW:=top 31
abbrev sLineR:cW:=top 32
structure LnW (ws:List Str)(n:Str)(ss:List Str)(rs:List Int):Prop where
 five:5≤ws.length
 few:ws.length≤100000
 odd:ws.length % 2=1
 name:ws[1]? =some n
 stops:evs (ws.drop 2)=ss
 runs:evs (ws.drop 3)=rs.map lT
 nn:nam n=true
 sn:∀z∈ss,nam z=true
 rn:∀i∈rs,W60 i
theorem scBeatR:cI ["row","words"] ["row"] (defScope sBeatR):=by trivial
theorem scLineR:cI ["words","stops","runs"] ["words"] (defScope sLineR):=by trivial
end HN
namespace L2
open PySem PySem.Spec PyProof.Rows
section
variable {κ:Type} [DecidableEq κ]
def mY (kvs:List (κ×V))(k:κ):Option V:=(kvs.find? λkv=>decide (kv.1=k)).map (·.2)
def putK (kvs:List (κ×V))(k:κ)(v:V):List (κ×V) :=
 if (kvs.any λkv=>decide (kv.1=k))=true then kvs.map (λkv=>if kv.1=k then (kv.1,v) else kv) else kvs++[(k,v)]
theorem oK {p:κ×V}{r:List (κ×V)}{k:κ}(e:p.1=k):mY (p::r) k=some p.2:=by simp[mY,jK,e]
theorem kr {p:κ×V}{r:List (κ×V)}{k:κ}(e:¬p.1=k):mY (p::r) k=mY r k:=by simp[mY,jK,e]
theorem valV_any (k:κ):∀kvs:List (κ×V),(kvs.any λkv=>decide (kv.1=k))=(mY kvs k).isSome
 | []=>rfl
 | p::r=>by
  rw[iL]
  by_cases e:p.1=k
  ·simp only[oK e,qL e,Bool.true_or,Option.isSome_some]
  ·rw[kr e,qM e,Bool.false_or];exact valV_any k r
theorem pK (kvs:List (κ×V))(k:κ)(v:V):(putK kvs k v).length≤kvs.length+1:=by
 unfold putK;split
 ·rw[ae];lia
 ·rw[aq,az,jJ];lia
theorem RelO.isSome_eq {o:Option V}{u:Option af}(r:RelO o u):o.isSome=u.isSome:=by
 cases o with
 | none=>cases u with
  | none=>rfl
  | some _=>exact(show False from r).elim
 | some _=>cases u with
  | none=>exact(show False from r).elim
  | some _=>rfl
theorem RelO.getD {o:Option V}{u:Option af}{d:V}{d':af}(r:RelO o u)(rd:iG d d'):iG (o.getD d) (u.getD d'):=by
 cases o with
 | none=>cases u with
  | none=>exact rd
  | some _=>exact(show False from r).elim
 | some _=>cases u with
  | none=>exact(show False from r).elim
  | some _=>exact r
theorem KV.val {kvs:List (κ×V)}{vs:List (κ×af)}(r:KV kvs vs)(k:κ):RelO (mY kvs k) (valueAt vs k):=by
 unfold KV at r
 induction r with
 | nil=>exact True.intro
 | @cons p q ps qs h t ih =>
  obtain⟨h1,h2⟩:=h
  by_cases e:p.1=k
  ·have e':q.1=k:=h1.symm.trans e
   have b:valueAt (q::qs) k=some q.2:=by simp[valueAt,jK,e']
   rw[oK e,b];exact h2
  ·have e':¬q.1=k:=λz=>e (h1.trans z)
   have b:valueAt (q::qs) k=valueAt qs k:=by simp[valueAt,jK,e']
   rw[kr e,b];exact ih
theorem KV.any {kvs:List (κ×V)}{vs:List (κ×af)}(r:KV kvs vs)(k:κ):(kvs.any λkv=>decide (kv.1=k))=vs.any λkv=>decide (kv.1=k):=by
 unfold KV at r
 induction r with
 | nil=>rfl
 | cons h t ih=>rw[iL,iL,ih,h.1]
theorem KV.repl {kvs:List (κ×V)}{vs:List (κ×af)}(r:KV kvs vs)(k:κ)(ry:iG y u) :
  KV (kvs.map λkv=>if kv.1=k then (kv.1,y) else kv) (vs.map λkv=>if kv.1=k then (kv.1,u) else kv):=by
 unfold KV at r ⊢
 induction r with
 | nil=>exact .nil
 | @cons p q ps qs h t ih =>
  rw[bw,bw];apply .cons ?_ ih;obtain⟨h1,h2⟩:=h
  by_cases e:p.1=k
  ·rw[qJ e,qJ (h1.symm.trans e)];exact⟨h1,ry⟩
  ·rw[qI e,qI (λz=>e (h1.trans z))];exact⟨h1,h2⟩
theorem KV.put {kvs:List (κ×V)}{vs:List (κ×af)}(r:KV kvs vs)(k:κ)(ry:iG y u):KV (putK kvs k y) (stored vs k u):=by
 unfold putK stored;rw[r.any k]
 by_cases e:(vs.any λkv=>decide (kv.1=k))=true
 ·rw[qJ e,qJ e];exact r.repl k ry
 ·rw[qI e,qI e];exact Paired.snoc r ⟨rfl,ry⟩
theorem KV.length {kvs:List (κ×V)}{vs:List (κ×af)}(r:KV kvs vs):kvs.length=vs.length:=Paired.length r
end
theorem kV_is {k:Key}(r:iG (kV k) u):(gK P w).is k u=true:=by
 cases k with
 | inl i=>obtain⟨t,e⟩:=(show ∃t,u=af.int i t from r);subst e;exact mixKind_int P w i t
 | inr x=>obtain⟨t,e⟩:=(show ∃t,u=af.str x t from r);subst e;exact mU P w x t
theorem items_are {P:aK}{w:bc}:∀{ks:List Key} {us:List af},gU (ks.map kV) us→ItemsAre (gK P w) ks us
 | [],_,r=>by rw[List.map_nil] at r;cases r;exact .nil
 | k::ks,_,r=>by
  rw[bw] at r;cases r with
  | cons h t=>exact .cons (kV_is h) (items_are t)
abbrev KT (H:Hp):List (List Key×V)→List (List Key×ao×af)→Prop:=Paired λp q=>p.1=q.1∧H q.2.1=some (.tup (p.1.map kV))∧iG p.2 q.2.2
theorem KT.val {kvs:List (List Key×V)}{xs:List (List Key×ao×af)}(r:KT H kvs xs)(k:List Key):RelO (mY kvs k) ((atKey xs k).map (·.2)):=by
 induction r with
 | nil=>exact True.intro
 | @cons p q ps qs h t ih =>
  obtain⟨h1,_,h2⟩:=h
  by_cases e:p.1=k
  ·have e':q.1=k:=h1.symm.trans e
   have b:atKey (q::qs) k=some q.2:=by simp[atKey,jK,e']
   rw[oK e,b];exact h2
  ·have e':¬q.1=k:=λz=>e (h1.trans z)
   have b:atKey (q::qs) k=atKey qs k:=by simp[atKey,jK,e']
   rw[kr e,b];exact ih
theorem KT.repl {kvs:List (List Key×V)}{xs:List (List Key×ao×af)}(r:KT H kvs xs)(k:List Key)(ry:iG y u) :
  KT H (kvs.map λkv=>if kv.1=k then (kv.1,y) else kv) (xs.map (putAt k u)):=by
 induction r with
 | nil=>exact .nil
 | @cons p q ps qs h t ih =>
  rw[bw,bw];apply .cons ?_ ih;obtain⟨h1,h2,h3⟩:=h;unfold putAt
  by_cases e:p.1=k
  ·rw[qJ e,qJ (h1.symm.trans e)];exact⟨h1,h2,ry⟩
  ·rw[qI e,qI (λz=>e (h1.trans z))];exact⟨h1,h2,h3⟩
theorem KT.put {kvs:List (List Key×V)}{xs:List (List Key×ao×af)}(r:KT H kvs xs)(k:List Key){b:ao}(hb:H b=some (.tup (k.map kV)))(ry:iG y u) :
  KT H (putK kvs k y) (storedH xs k b u):=by
 have e:(kvs.any λkv=>decide (kv.1=k))=(atKey xs k).isSome:=by
  rw[valV_any,(r.val k).isSome_eq,Option.isSome_map]
 unfold putK storedH;rw[e]
 by_cases q:(atKey xs k).isSome=true
 ·rw[qJ q,qJ q];exact r.repl k ry
 ·rw[qI q,qI q];exact Paired.snoc r ⟨rfl,hb,ry⟩
theorem KT.keeps {kvs:List (List Key×V)}{xs:List (List Key×ao×af)}(r:KT H kvs xs)(ht:∀b ys,H b=some (.tup ys)→H' b=some (.tup ys)):KT H' kvs xs :=
 Paired.mapP r λ_ _ z=>⟨z.1,ht _ _ z.2.1,z.2.2⟩
theorem rd_of {u:HO}(ok:HOk P w H h)(e:Rd H a u):iu P w H h a u:=e.ok ok
theorem dk_rd (ok:HOk P w H h)(e:Rd H a (.dK kvs)):kvs.length≤aA∧(a == gY)=false∧∃vs,KV kvs vs∧h.DictOf (gK P w) a vs :=
 show iu P w H h a (.dK kvs) from rd_of ok e
theorem dk_of (ok:HOk P w H h)(e:H a=some (.dK kvs)):kvs.length≤aA∧(a == gY)=false∧∃vs,KV kvs vs∧h.DictOf (gK P w) a vs:=dk_rd ok (.inl e)
theorem key_of {ks:List Key}(ok:HOk P w H h)(e:H a=some (.tup (ks.map kV))):(tupleKind (gK P w)).is h ks a:=by
 obtain⟨_,its,r,o,h1,h2,_,n,h3⟩:=(show iu P w H h a (.tup (ks.map kV)) from ok a _ e);exact⟨o,its.toArray,n,h1,h2,h3,by simpa using items_are r⟩
theorem dt_rd {kvs:List (List Key×V)}(ok:HOk P w H h)(e:Rd H a (.dT kvs)):kvs.length≤aA∧(a == gY)=false ∧
  ∃xs,KT H kvs xs∧h.DictOfH (tupleKind (gK P w)) a xs:=by
 obtain⟨z,y,xs,r,o,es,ep,h1,h2,h3,h4,h5⟩:=(show iu P w H h a (.dT kvs) from rd_of ok e);apply⟨z,y,xs,r,o,es,ep,h1,h2,h3,h4,λx hx=>?_,h5⟩;have all:∀{l:List (List Key×V)} {m:List (List Key×ao×af)},KT H l m→∀x∈m,(tupleKind (gK P w)).is h x.1 x.2.1:=by
  intro l m q
  induction q with
  | nil=>intro x hx;exact nomatch hx
  | @cons p q ps qs hq t ih =>
   intro x hx
   rcases aw.mp hx with e | hx
   ·subst e
    exact key_of ok (by rw[←hq.1];exact hq.2.1)
   ·exact ih x hx
 exact all r x hx
theorem dt_of {kvs:List (List Key×V)}(ok:HOk P w H h)(e:H a=some (.dT kvs)):kvs.length≤aA∧(a == gY)=false ∧
  ∃xs,KT H kvs xs∧h.DictOfH (tupleKind (gK P w)) a xs:=dt_rd ok (.inl e)
def DGet (H:Hp)(a:ao)(y:V)(r:Option V):Prop :=
 (∃kvs k,Rd H a (.dK kvs)∧y=kV k∧r=mY kvs k)∨∃kvs k b,Rd H a (.dT kvs)∧y= .ref b∧H b=some (.tup (k.map kV))∧r=mY kvs k
def DPut (H:Hp)(a:ao)(y v:V)(H':Hp):Prop :=
 (∃kvs k,H a=some (.dK kvs)∧y=kV k∧kvs.length<aA∧H'=upd H a (.dK (putK kvs k v))) ∨
 ∃kvs k b,H a=some (.dT kvs)∧y= .ref b∧H b=some (.tup (k.map kV))∧kvs.length<aA∧H'=upd H a (.dT (putK kvs k v))
section
variable {r:af}{o:Option V}
theorem d_in (hu:A.units+1<cLine)(I:Inv X aI σ H s)(g:DGet H a y o)(ry:iG y u)(h:∀s',Inv X aI σ H s'→Q (.bool o.isSome) s') :
  aT (bB X.prog X.w) A (eR .In u (.ref a)) Q E s:=by
 rcases g with ⟨kvs,k,e,ey,l⟩ | ⟨kvs,k,b,e,ey,eb,l⟩
 ·subst ey
  obtain⟨z,hd,vs,rel,dd⟩:=dk_rd I.hok e;apply wpAny_in_of (kV_is ry) hd dd.mapOf ?_;rw[←(rel.val k).isSome_eq,←l];exact h _ (I.tok _)
 ·subst ey
  cases(show u=af.ref b from ry);obtain⟨z,hd,xs,rel,dd⟩:=dt_rd I.hok e;apply wpAny_in_heap (mm hu) (key_of I.hok eb) hd dd ?_;have q:=(rel.val k).isSome_eq;rw[Option.isSome_map] at q;rw[←q,←l];exact h _ (I.tok _)
theorem d_write {ob:HO}(I:Inv X aI σ H s)(mu:Mut (H a))(hs:cT a s.heap h')(he:∃q,h'.get? a=some q)(new:iu X.prog X.w (upd H a ob) h' a ob) :
  Inv X aI σ (upd H a ob) { s with heap:=h',toks:=t' } :=
 I.write (x:=a) (e:=a) mu (.inl rfl) (λb q hb z=>(hs.2 b hb).trans z) he new
theorem dk_new {vs:List (Key×af)}(z:kvs.length≤aA)(hd:(a == gY)=false)(rel:KV kvs vs)(dd:h'.DictOf (gK P w) a vs) :
  iu P w H' h' a (.dK kvs):=⟨z,hd,vs,rel,dd⟩
theorem d_setItem {Q:Unit→ar→Prop}(hu:A.units+1<cLine)(I:Inv X aI σ H s)(g:DPut H a y v H')(ry:iG y u)(rv:iG v r)(h:∀s',Inv X aI σ H' s'→Q () s') :
  aT (bB X.prog X.w) A (setItem (.ref a) u r) Q E s:=by
 rcases g with ⟨kvs,k,e,ey,l,eH⟩ | ⟨kvs,k,b,e,ey,eb,l,eH⟩
 ·subst ey eH
  obtain⟨z,hd,vs,rel,dd⟩:=dk_of I.hok e;have hz:vs.length≤aA:=by rw[←rel.length];exact z
  have hl:(putK kvs k v).length≤aA:=by have:=pK kvs k v;lia
  apply wpAny_setItem_pairs (hsz:=hz) (kV_is ry) dd λh' dd' hs=>h _ ?_
  have he:∃q,h'.get? a=some q:=let ⟨q,_,_,hq,_⟩:=dd';⟨q,hq⟩;exact d_write I (by rw[e];exact True.intro) hs he (dk_new hl hd (rel.put k rv) dd')
 ·subst ey eH
  cases(show u=af.ref b from ry);obtain⟨z,hd,xs,rel,dd⟩:=dt_of I.hok e;have hz:xs.length≤aA:=by rw[←Paired.length rel];exact z
  have hl:(putK kvs k v).length≤aA:=by have:=pK kvs k v;lia
  apply wpAny_setItem_heap (hsz:=hz) (mm hu) (key_of I.hok eb) dd λh' dd' hs=>h _ ?_
  obtain⟨q,es,ep,hq,h2,h3,h4,_,h5⟩:=dd';apply d_write I (by rw[e];exact True.intro) hs ⟨q,hq⟩ ⟨hl,hd,_,(rel.put k eb rv).keeps λc ys ec=>?_,q,es,ep,hq,h2,h3,h4,h5⟩;rw[bo (eF ec e (λz=>nomatch z))];exact ec
end
section
variable {k:Key}
theorem d_len (I:Inv X aI σ H s)(e:Rd H a (.dK kvs))(h:∀t s',Inv X aI σ H s'→Q (.int kvs.length t) s'):aT (bB X.prog X.w) A (call (.builtin "len") [.ref a]) Q E s:=by
 obtain⟨z,hd,vs,rel,dd⟩:=dk_rd I.hok e;apply call_len_dict hd dd (by rw[←rel.length];rw[sizeLine_eq] at z;lia) ?_;rw[←rel.length];exact h _ _ (I.tok _)
end
def NoSl (i:Expr):Prop:=∀ov iv,subscripted i false ov iv=operate [ov,iv] (getItem ov iv)
theorem subD_of {slice:Expr}{id:String}
  (hl:typeLookup (.type T) "__getitem__" =hW (some (.builtin id))) (hs:NoSl slice)
  (h:aT (bB prog w) A (dU value env) (λo s₁=>aT (bB prog w) A (dU slice env) (λi s₂=>s₂.TypeIs o T∧aT (bB prog w) A (getItem o i) Q E s₂) E s₁) E s) :
  aT (bB prog w) A (dU (.Subscript value slice pos) env) Q E s:=by
 apply Subscript_ (dO h (λo s₁ h₁=>dO h₁ (λi s₂ h₂=>?_) λ_ _ x=>x) λ_ _ x=>x);obtain⟨hT,h₂⟩:=h₂;unfold subscriptTail;apply ak ?_;rw[getitemInPython_of_ne hT.not_modules];apply ak (wpAny_specialOf hT hl ?_);have fin:aT (bB prog w) A (subscripted slice false o i) (λr s₃=>aT (bB prog w) A (letTemporaryGo value o r >>= λ_=>hW r) Q E s₃) E s₂:=by
  rw[hs o i];exact wpAny_operating (dO h₂ (λr s₃ h₃=>ak (wpAny_letTemporaryGo (aN h₃))) λ_ _ x=>x)
 first
  | exact aN (ak fin)
  | exact ak (aN (ak fin))
  | exact ak fin
def tDIn (ty td:TE):TE:=λσ H Q=>ty σ H λy H1=>td σ H1 λx H2=>∃a o,x= .ref a∧DGet H2 a y o∧Q (.bl o.isSome) H2
def sDPut (td ty tv:TE):TS:=λD σ H=>tv σ H λv H1=>td σ H1 λx H2=>ty σ H2 λy H3=>∃a H4,x= .ref a∧DPut H3 a y v H4∧D.nx σ H4
section
variable {o i:Expr}{tpos:Pos}{td ty tv:TE}
theorem pc_din (hu:X.A.units+1<cLine)(hi:PE X i ty)(ho:PE X o td):PC X .In i o (tDIn ty td):=by
 intro aI s σ H Q I h;apply thn (hi aI s σ H _ I h) λiv s1 ⟨y,H1,I1,ry,q1⟩=>thn (ho aI s1 σ H1 _ I1 q1) λu s2 hz0=>?_
 obtain⟨x,H2,I2,rx,a,ov,ex,g,q2⟩:=hz0;subst ex;obtain rfl:u=af.ref a:=rx;exact d_in hu I2 g ry λs3 I3=>⟨.bl ov.isSome,H2,I3,rfl,q2⟩
theorem ps_dput (hu:X.A.units+1<cLine)(ho:PE X o td)(hi:PE X i ty)(hv:PE X value tv)(hs:kO value (some (.Subscript o i pos')) pos.line X.env=hW false) :
  PS X (.Assign [.Subscript o i pos'] value pos) (sDPut td ty tv):=by
 intro aI s σ H D I h;apply wpAny_Assign_Subscript (thn (hv aI s σ H _ I h) λr s1 ⟨v,H1,I1,rv,q1⟩=>thn (ho aI s1 σ H1 _ I1 q1) λu s2 ⟨x,H2,I2,rx,q2⟩=>thn (hi aI s2 σ H2 _ I2 q2) λiv s3 hz0=>?_) hs;obtain⟨y,H3,I3,ry,a,H4,ex,g,q3⟩:=hz0;subst ex;obtain rfl:u=af.ref a:=rx;exact d_setItem hu I3 g ry rv λs4 I4=>⟨σ,H4,I4,q3⟩
end
structure M1 (X:Cx)(o:Expr)(m:Str)(apos:Pos)(e:Expr)(cpos:Pos):Prop where
 base:i9 o m X.env (dU o X.env)=dU o X.env
 few:((gG cpos (br [e] X.env)).all (fun x=> !x.1) && (backToKw cpos (lp [] X.env)).all (fun x=>x.1.isSome)
  && decide (([e]:List Expr).length+([]:List Keyword).length+(if ([]:List Keyword).isEmpty then 0 else 1)<30))=true
 line:(apos.endLine == cpos.line)=true
 trees:gG cpos (br [e] X.env)=[(false,dU e X.env)]
structure M2 (X:Cx)(o:Expr)(m:Str)(apos:Pos)(e f:Expr)(cpos:Pos):Prop where
 base:i9 o m X.env (dU o X.env)=dU o X.env
 few:((gG cpos (br [e,f] X.env)).all (fun x=> !x.1) && (backToKw cpos (lp [] X.env)).all (fun x=>x.1.isSome)
  && decide (([e,f]:List Expr).length+([]:List Keyword).length+(if ([]:List Keyword).isEmpty then 0 else 1)<30))=true
 line:(apos.endLine == cpos.line)=true
 trees:gG cpos (br [e,f] X.env)=[(false,dU e X.env),(false,dU f X.env)]
def IsDct (H:Hp)(a:ao):Prop:=(∃kvs,Rd H a (.dK kvs))∨∃kvs,Rd H a (.dT kvs)
theorem isDct_at (I:Inv X aI σ H s)(d:IsDct H a) :
  s.TypeIs (.ref a) "dict" ∧(∀b,af.ref a= .ref b→∃ob,s.heap.get? b=some ob∧ob.dict=none)∧(a == gY)=false:=by
 rcases d with ⟨kvs,e⟩ | ⟨kvs,e⟩
 ·obtain⟨_,hd,vs,_,dd⟩:=dk_rd I.hok e
  apply⟨dd.typeIs,λb q=>?_,hd⟩;cases q;obtain⟨ob,_,_,h1,h2,_⟩:=dd;exact⟨ob,h1,h2.2.1⟩
 ·obtain⟨_,hd,xs,_,dd⟩:=dt_rd I.hok e
  apply⟨dd.typeIs,λb q=>?_,hd⟩;cases q;obtain⟨ob,_,_,h1,h2,_⟩:=dd;exact⟨ob,h1,h2.2.1⟩
section
variable {d:V}{r:af}{o:Option V}
theorem d_get1 (hu:A.units+1<cLine)(I:Inv X aI σ H s)(g:DGet H a y o)(ry:iG y u)(h:∀w' s',Inv X aI σ H s'→iG (o.getD .non) w'→Q w' s') :
  aT (bB X.prog X.w) A (call (.builtin "dict.get") [.ref a,u]) Q E s:=by
 rcases g with ⟨kvs,k,e,ey,l⟩ | ⟨kvs,k,b,e,ey,eb,l⟩
 ·subst ey
  obtain⟨z,hd,vs,rel,dd⟩:=dk_rd I.hok e;apply call_meetsIn gQ dd.typeIs jO (PySem.F.args_dict_get_2 _ _) (meets_dict_get (gK X.prog X.w) a (kV_is ry) hd) ⟨_,dd.mapOf,h _ _ (I.tok _) ?_⟩;rw[l];exact(rel.val k).getD rfl
 ·subst ey
  cases(show u=af.ref b from ry);obtain⟨z,hd,xs,rel,dd⟩:=dt_rd I.hok e;apply call_meetsIn gQ dd.typeIs jO (PySem.F.args_dict_get_2 _ _) (meetsH_dict_get (tupleKind (gK X.prog X.w)) a b hd) ⟨mm hu,k,xs,key_of I.hok eb,dd,h _ _ (I.tok _) ?_⟩;rw[l];exact(rel.val k).getD rfl
theorem d_get2 (hu:A.units+1<cLine)(I:Inv X aI σ H s)(g:DGet H a y o)(ry:iG y u)(rd:iG d r)(h:∀w' s',Inv X aI σ H s'→iG (o.getD d) w'→Q w' s') :
  aT (bB X.prog X.w) A (call (.builtin "dict.get") [.ref a,u,r]) Q E s:=by
 rcases g with ⟨kvs,k,e,ey,l⟩ | ⟨kvs,k,b,e,ey,eb,l⟩
 ·subst ey
  obtain⟨z,hd,vs,rel,dd⟩:=dk_rd I.hok e;apply call_meetsIn gQ dd.typeIs jO (PySem.F.args_dict_get_3 _ _ _) (meets_dict_get_default (gK X.prog X.w) a (kV_is ry) hd r) ⟨_,dd.mapOf,h _ _ (I.tok _) ?_⟩;rw[l];exact(rel.val k).getD rd
 ·subst ey
  cases(show u=af.ref b from ry);obtain⟨z,hd,xs,rel,dd⟩:=dt_rd I.hok e;apply call_meetsIn gQ dd.typeIs jO (PySem.F.args_dict_get_3 _ _ _) (meetsH_dict_get_default (tupleKind (gK X.prog X.w)) a b hd r) ⟨mm hu,k,xs,key_of I.hok eb,dd,h _ _ (I.tok _) ?_⟩;rw[l];exact(rel.val k).getD rd
end
def tDGet1 (td ty:TE):TE:=λσ H Q=>td σ H λx H1=>∃a,x= .ref a∧IsDct H1 a∧ty σ H1 λy H2=>∃o,DGet H2 a y o∧Q (o.getD .non) H2
def tDGet2 (td ty tx:TE):TE:=λσ H Q=>td σ H λx H1=>∃a,x= .ref a∧IsDct H1 a∧ty σ H1 λy H2=>tx σ H2 λz H3=>∃o,DGet H3 a y o∧Q (o.getD z) H3
section
variable {o f:Expr}{td ty tx:TE}
theorem pe_dget1 (hu:X.A.units+1<cLine)(ho:PE X o td)(he:PE X e ty)(m:M1 X o "get" apos e cpos):PE X (.Call (.Attribute o "get" apos) [e] [] cpos) (tDGet1 td ty):=by
 intro aI s σ H Q I h;apply wpAny_Call_method m.base m.few m.line l9 gQ PySem.F.type_dict_get (thn (ho aI s σ H _ I h) λu s1 hz0=>?_);obtain⟨x,H1,I1,rx,a,ex,d,q1⟩:=hz0;subst ex;obtain rfl:u=af.ref a:=rx;obtain⟨t1,t2,_⟩:=isDct_at I1 d;apply⟨t1,t2,?_⟩;rw[m.trees];apply gL rfl (gZ (gd (thn (he aI s1 σ H1 _ I1 q1) λiv s2 hz0=>?_)));obtain⟨y,H2,I2,ry,ov,g,q2⟩:=hz0;apply jW ?_;exact d_get1 hu I2 g ry λw' s3 I3 rw'=>⟨_,H2,I3,rw',q2⟩
theorem pe_dget2 (hu:X.A.units+1<cLine)(ho:PE X o td)(he:PE X e ty)(hf:PE X f tx)(m:M2 X o "get" apos e f cpos):PE X (.Call (.Attribute o "get" apos) [e,f] [] cpos) (tDGet2 td ty tx):=by
 intro aI s σ H Q I h;apply wpAny_Call_method m.base m.few m.line l9 gQ PySem.F.type_dict_get (thn (ho aI s σ H _ I h) fun u s1 hz0=>?_);obtain ⟨x,H1,I1,rx,a,ex,d,q1⟩:=hz0;subst ex;obtain rfl:u=af.ref a:=rx;obtain ⟨t1,t2,_⟩:=isDct_at I1 d;apply ⟨t1,t2,?_⟩;rw [m.trees];apply gL rfl (gZ (gd (thn (he aI s1 σ H1 _ I1 q1) fun iv s2 ⟨y,H2,I2,ry,q2⟩ =>
  gd (thn (hf aI s2 σ H2 _ I2 q2) fun fv s3 ⟨z,H3,I3,rz,ov,g,q3⟩=>jW ?_))))
 exact d_get2 hu I3 g ry rz λw' s4 I4 rw'=>⟨_,H3,I4,rw',q3⟩
end
end L2
namespace Att
open PySem PySem.W PySem.Calls PyProof.Rows
end Att
namespace L2
open PySem PySem.Spec PyProof.Rows
theorem call_lenD:iM X (.builtin "len") (λxs H Q=>∃a kvs,xs=[V.ref a]∧H a=some (.dK kvs)∧Q (.int kvs.length) H):=by
 intro aI s σ H xs us Q I r h;obtain⟨a,kvs,rfl,ha,q⟩:=h;obtain⟨u,rfl,ru⟩:=mO r;cases ru;exact d_len I (.inl ha) λt s' I'=>⟨.int kvs.length,H,I',⟨t,rfl⟩,q⟩
def DiK (P:aK)(w:bc)(K:aj)(a:ao)(kvs:List (Key×V)):Prop :=
 (a == gY)=false∧∃vs,KV kvs vs∧∀h:bM,K.In h→h.DictOf (gK P w) a vs
def tDGetK (kvs:List (Key×V))(ty:TE):TE:=λσ H Q=>ty σ H λy H1=>∃k v,y=kV k∧mY kvs k=some v∧Q v H1
def tDNotInK (kvs:List (Key×V))(ty:TE):TE:=λσ H Q=>ty σ H λy H1=>∃k,y=kV k∧Q (.bl (!(mY kvs k).isSome)) H1
section
variable {o i:Expr}{ty:TE}
theorem pe_dgetK (D:DiK X.prog X.w X.K a kvs)(ho:PE X o (tC (.ref a)))(hi:PE X i ty)(hs:NoSl i):PE X (.Subscript o i pos) (tDGetK kvs ty):=by
 intro aI s σ H Q I h;obtain⟨hd,vs,rel,dd⟩:=D;apply subD_of PySem.F.slot_dict_getitem.lookup hs (thn (ho aI s σ H (λx H1=>x= .ref a∧H1=H) I ⟨rfl,rfl⟩) λu s1 hz0=>?_);obtain⟨x,H1,I1,rx,ex,e1⟩:=hz0;subst ex e1;obtain rfl:u=af.ref a:=rx;apply thn (hi aI s1 σ H1 _ I1 h) λiv s2 hz0=>?_
 obtain⟨y,H2,I2,ry,k,v,ey,l,q⟩:=hz0;subst ey;have dd:=dd _ I2.kIn;obtain⟨w',hw,rw'⟩:=RelO.some_of (v:=v) (o:=valueAt vs k) (by rw[←l];exact rel.val k);exact⟨dd.typeIs,wpAny_getItem_of (kV_is ry) dd.mapOf hw ⟨v,H2,I2.tok _,rw',q⟩⟩
theorem pc_dnotinK (D:DiK X.prog X.w X.K a kvs)(hi:PE X i ty)(ho:PE X o (tC (.ref a))):PC X .NotIn i o (tDNotInK kvs ty):=by
 intro aI s σ H Q I h;obtain⟨hd,vs,rel,dd⟩:=D;apply thn (hi aI s σ H _ I h) λiv s1 ⟨y,H1,I1,ry,k,ey,q⟩=>thn (ho aI s1 σ H1 (λx H2=>x= .ref a∧H2=H1) I1 ⟨rfl,rfl⟩) λu s2 hz0=>?_
 obtain⟨x,H2,I2,rx,ex,e2⟩:=hz0;subst ex e2 ey;obtain rfl:u=af.ref a:=rx;have dd:=dd _ I2.kIn;apply wpAny_notIn_of (kV_is ry) hd dd.mapOf ?_;rw[←(rel.val k).isSome_eq];exact⟨.bl _,H2,I2.tok _,rfl,q⟩
end
end L2
namespace HN
open PySem L2 PyProof.Rows
theorem cutU {i:Int}(hi:i=(n:Int)):pW xs none (some i)=xs.take n:=by
 unfold pW;subst hi;have e:=HT.sIx_nat xs.length xs.length n;rw[e];show(xs.drop 0).take (min n xs.length - 0)=xs.take n;rw[List.drop_zero,Nat.sub_zero]
 by_cases h:n≤xs.length
 ·rw[dA h]
 ·rw[Nat.min_eq_right ⋯,cD,eM ⋯]
theorem cutF {i:Int}(hi:i=(n:Int)):pW xs (some i) none=xs.drop n:=by
 unfold pW;subst hi;have e:=HT.sIx_nat xs.length 0 n;rw[e];show(xs.drop (min n xs.length)).take (xs.length - min n xs.length)=xs.drop n
 by_cases h:n≤xs.length
 ·rw[dA h,eM (by rw[bK];lia)]
 ·rw[Nat.min_eq_right ⋯,List.drop_length,List.drop_of_length_le ⋯,List.take_nil]
end HN
namespace HN
open PySem L2 PyProof.Rows HT2
abbrev sRowR:cW:=top 33
inductive PR where
 | beat (b:Int)
 | line (n:Str) (ss:List Str) (rs:List Int)
 | oth (k:Str) (ns:List Str) (is:List Int)
def PR.at (H:Hp)(p:ao):PR→Prop
 | .beat b=>H p=some (.tup [.str "beat",.int b])
 | .line n ss rs=>∃a b,H a=some (.tup (ss.map V.str))∧H b=some (.tup (rs.map V.int))∧H p=some (.tup [.str "line",.str n,.ref a,.ref b])
 | .oth k ns is=>H p=some (.tup (.str k::(ns.map V.str++is.map V.int)))
theorem PR.at.kept (S:cB H H'):∀{r:PR},r.at H p→r.at H' p
 | .beat _,h=>S _ _ h
 | .line _ _ _,⟨a,b,h1,h2,h3⟩=>⟨a,b,S _ _ h1,S _ _ h2,S _ _ h3⟩
 | .oth _ _ _,h=>S _ _ h
def fms:List (Str×Nat×Nat):=[("stay",2,3),("change",3,3),("apart",3,1),("meet",4,1)]
def PR.wds (ws:List Str):PR→Prop
 | .beat _=>False
 | .line n ss rs=>ws[0]? =some ("line" :Str)∧LnW ws n ss rs
 | .oth k ns is=>ws=k::(ns++is.map lT)∧(k,ns.length,is.length)∈fms∧(∀z∈ns,nam z=true)∧∀i∈is,W60 i
structure Fms (P:aK)(w:bc)(K:aj)(mg:Str→Option af):Prop where
 ex:∃aF t1 t2 t3 t4,mg "FORMS" =some (.ref aF)∧DiK P w K aF [(.inr "stay",.ref t1),(.inr "change",.ref t2),(.inr "apart",.ref t3),(.inr "meet",.ref t4)] ∧
  (∀H,SqT K H t1 [.int 2,.int 3])∧(∀H,SqT K H t2 [.int 3,.int 3])∧(∀H,SqT K H t3 [.int 3,.int 1])∧∀H,SqT K H t4 [.int 4,.int 1]
theorem Fms.at {P:aK}{w:bc}{K:aj}{mg:Str→Option af}(M:Fms P w K mg):∃aF kvs,mg "FORMS" =some (.ref aF)∧DiK P w K aF kvs ∧
  ∀k a b,(k,a,b)∈fms→k ≠ "line" ∧∃t,mY kvs (.inr k)=some (.ref t)∧∀H,SqT K H t [.int (a:Nat),.int (b:Nat)]:=by
 obtain⟨aF,t1,t2,t3,t4,h1,h2,q1,q2,q3,q4⟩:=M.ex;apply⟨aF,_,h1,h2,λk a b h=>?_⟩;unfold fms at h;simp only[aw,aO,or_false,gH] at h
 rcases h with ⟨rfl,rfl,rfl⟩ | ⟨rfl,rfl,rfl⟩ | ⟨rfl,rfl,rfl⟩ | ⟨rfl,rfl,rfl⟩
 ·exact⟨by trivial,t1,rfl,q1⟩
 ·exact⟨by trivial,t2,rfl,q2⟩
 ·exact⟨by trivial,t3,rfl,q3⟩
 ·exact⟨by trivial,t4,rfl,q4⟩
theorem fms_few {k:Str}{a b:Nat}(h:(k,a,b)∈fms):a≤4∧b≤3:=by
 unfold fms at h;simp only[aw,aO,or_false,gH] at h;lia
theorem cutA {i j:Int}(hi:i=(m:Int))(hj:j=(n:Int))(h1:m≤xs.length)(h2:n≤xs.length):pW xs (some i) (some j)=(xs.drop m).take (n - m):=by
 subst hi hj;unfold pW;rw[HT.sIx_nat,HT.sIx_nat,dA h1,dA h2]
theorem scRowR:cI ["row","words","form","behind","names"] ["row"] (defScope sRowR):=by trivial
structure RsAt (H:Hp)(xs:List V)(rs:List PR):Prop where
 len:xs.length=rs.length
 get:∀(i:Nat) (r:PR),rs[i]? =some r→∃a:ao,xs[i]? =some (V.ref a)∧r.at H a
theorem RsAt.kept {rs:List PR}(S:cB H H')(h:RsAt H xs rs):RsAt H' xs rs:=⟨h.len,λi r e=>let ⟨a,h1,h2⟩:=h.get i r e;⟨a,h1,h2.kept S⟩⟩
theorem RsAt.snoc {rs:List PR}{r:PR}(h:RsAt H xs rs)(q:r.at H a):RsAt H (xs++[V.ref a]) (rs++[r]):=by
 apply⟨by rw[aq,aq,h.len];rfl,λi r' e=>?_⟩
 by_cases hi:i<rs.length
 ·rw[bI hi] at e
  obtain⟨b,h1,h2⟩:=h.get i r' e;exact⟨b,by rw[bI (by rw[h.len];exact hi)];exact h1,h2⟩
 ·rw[bh ⋯] at e
  have hl:=h.len;have h0:i - rs.length=0:=by
   have:=(ai.mp e).1;simp at this;lia
  rw[h0] at e;cases e;exact⟨a,by rw[bh ⋯,hl,h0];rfl,q⟩
theorem RsAt.cons {H:Hp}{xs:List V}{rs:List PR}{a:ao}{r:PR}(h:RsAt H xs rs)(q:r.at H a):RsAt H (V.ref a::xs) (r::rs):=by
 apply⟨by rw[az,az,h.len],λi r' e=>?_⟩;cases i with
 | zero=>cases e;exact⟨a,rfl,q⟩
 | succ i=>exact h.get i r' e
abbrev sPlanR:cW:=top 34
theorem scPlanR:cI ["text","rows"] pzd (defScope sPlanR):=by trivial
theorem join_lenX {g:Str}:∀{ys:List Str} {p:Str},p∈ys→p.length≤(cV g ys).length
 | [],_,h=>qK h ∅
 | [y],p,h=>by
  have:p=y:=by simpa using h
  rw[this];exact aD _
 | y::q::r,p,h=>by
  rw[kF,jT,jT]
  rcases aw.mp h with rfl | h
  ·lia
  ·have:=join_lenX (g:=g) (ys:=q::r) h
   lia
theorem split_len {p:Str}(h:p∈bD z ⟨#[c]⟩):p.length≤z.length:=by
 have e:=jB z ⟨#[c]⟩;have:=join_lenX (g:=⟨#[c]⟩) h;have e2:(cV ⟨#[c]⟩ (bD z ⟨#[c]⟩)).length=z.length:=qO iF e;lia
theorem split_sp {p:Str}(h:p∈bD z sp_):p.length≤z.length:=by rw[nV] at h;exact split_len h
theorem split_nl {p:Str}(h:p∈bD z nl_):p.length≤z.length:=by rw[nl_eq] at h;exact split_len h
theorem ql:(bD z ⟨#[c]⟩).length≤z.length+1:=by
 have e:=jB z ⟨#[c]⟩;have key:∀ys:List Str,ys.length≤(cV ⟨#[c]⟩ ys).length+1:=by
  intro ys
  induction ys with
  | nil=>simp
  | cons y r ih =>
   cases r with
   | nil=>simp
   | cons q r =>
    rw[kF,jT,jT,az];have:(⟨#[c]⟩:Str).length=1:=rfl;lia
 have:=key (bD z ⟨#[c]⟩);have e2:(cV ⟨#[c]⟩ (bD z ⟨#[c]⟩)).length=z.length:=qO iF e;lia
theorem evs_mem {α:Type}{z:α}:∀{l:List α},z∈evs l→z∈l
 | [],h=>h
 | [_],h=>h
 | _::_::r,h=>by
  rcases aw.mp h with rfl | h
  ·exact aW
  ·exact aH _ (aH _ (evs_mem h))
def rdW (z:Str):Option Int:=if gb z=true then PySem.intText? z else none
theorem numeral_int (h:gb z=true):z.length≤60∧∃i,PySem.intText? z=some i:=by
 unfold gb at h;simp only[ck,decide_eq_true_eq] at h;obtain⟨h1,h2,_,h3⟩:=h;rw[gg] at h3;apply⟨h2,_,PySem.intText_digits (λc hc=>qN (h3 c hc)) (λe=>?_) ⋯⟩;have:z.length=z.cps.toList.length:=by simp[iF]
 rw[this,e] at h1;simp at h1
theorem rdW_num {i:Int}(h:W60 i):rdW (lT i)=some i:=by unfold rdW;rw[qJ (mD h)];exact numI_int h
theorem pj {i:Int}(h:rdW z=some i):gb z=true:=by
 unfold rdW at h;split at h
 ·assumption
 ·cases h
def RdB (z:Str)(b:Int):Prop:=∃x,bD z sp_=[("beat" :Str),x]∧rdW x=some b
structure LnX (ws:List Str)(n:Str)(ss:List Str)(rs:List Int):Prop where
 five:5≤ws.length
 odd:ws.length % 2=1
 name:ws[1]? =some n
 stops:evs (ws.drop 2)=ss
 runs:(evs (ws.drop 3)).map rdW=rs.map some
 nn:nam n=true
 sn:∀z∈ss,nam z=true
def RdR (ws:List Str):PR→Prop
 | .beat _=>False
 | .line n ss rs=>ws[0]? =some ("line" :Str)∧LnX ws n ss rs
 | .oth k ns is=>∃xs,ws=k::(ns++xs)∧(k,ns.length,is.length)∈fms∧(∀z∈ns,nam z=true)∧xs.map rdW=is.map some
def RdP (z:Str)(b:Int)(rs:List PR):Prop:=∃z0 zr,bD z nl_=z0::zr∧RdB z0 b∧zr.length=rs.length∧∀(j:Nat) (x:Str) (r:PR),zr[j]? =some x→rs[j]? =some r→RdR (bD x sp_) r
theorem pP {k:Str}{a b a' b':Nat}(h:(k,a,b)∈fms)(h':(k,a',b')∈fms):a=a'∧b=b':=by
 unfold fms at h h';simp only[aw,aO,or_false,gH] at h h'
 rcases h with ⟨rfl,rfl,rfl⟩ | ⟨rfl,rfl,rfl⟩ | ⟨rfl,rfl,rfl⟩ | ⟨rfl,rfl,rfl⟩ <;> rcases h' with ⟨e,rfl,rfl⟩ | ⟨e,rfl,rfl⟩ | ⟨e,rfl,rfl⟩ | ⟨e,rfl,rfl⟩ <;> first | exact⟨rfl,rfl⟩ | exact qK e ⇑0
theorem fms_line {a b:Nat}:(("line" :Str),a,b) ∉ fms:=λh=>by
 unfold fms at h;simp only[aw,aO,or_false,gH] at h
 rcases h with ⟨e,_⟩ | ⟨e,_⟩ | ⟨e,_⟩ | ⟨e,_⟩ <;> exact qK e ⇑0
theorem Fms.any (M:Fms P w K mg):∃aF kvs,mg "FORMS" =some (.ref aF)∧DiK P w K aF kvs ∧
  ∀k:Str,(mY kvs (.inr k)=none∧∀a b,(k,a,b) ∉ fms)∨∃a b t,(k,a,b)∈fms∧mY kvs (.inr k)=some (.ref t)∧∀H,SqT K H t [.int (a:Nat),.int (b:Nat)]:=by
 obtain⟨aF,kvs,h1,h2,h3⟩:=M.at;obtain⟨aF',t1,t2,t3,t4,g1,g2,q1,q2,q3,q4⟩:=M.ex;apply⟨aF',_,g1,g2,λk=>?_⟩
 by_cases e1:("stay" :Str)=k
 ·subst e1;exact .inr ⟨2,3,t1,by simp[fms],rfl,q1⟩
 by_cases e2:("change" :Str)=k
 ·subst e2;exact .inr ⟨3,3,t2,by simp[fms],rfl,q2⟩
 by_cases e3:("apart" :Str)=k
 ·subst e3;exact .inr ⟨3,1,t3,by simp[fms],rfl,q3⟩
 by_cases e4:("meet" :Str)=k
 ·subst e4;exact .inr ⟨4,1,t4,by simp[fms],rfl,q4⟩
 have ne:∀{s:Str} {v:V},¬s=k→¬((Sum.inr s,v):Key×V).1=(.inr k:Key):=λh e=>h (by injection e)
 apply .inl ⟨?_,λa b h=>?_⟩
 ·rw[kr (ne e1),kr (ne e2),kr (ne e3),kr (ne e4)];rfl
 ·unfold fms at h
  simp only[aw,aO,or_false,gH] at h
  rcases h with ⟨e,_⟩ | ⟨e,_⟩ | ⟨e,_⟩ | ⟨e,_⟩
  ·exact e1 e.symm
  ·exact e2 e.symm
  ·exact e3 e.symm
  ·exact e4 e.symm
inductive o9 (C:ao)(vs:List V)(H:Hp)(Q:VK)(E:XK):Prop
 | mk (z:Str)(_:vs=[.str z])(_:z.length≤100000)(_:(∀i H',rdW z=some i→cB H H'→Q (.int i) H'))(_:(∀H',rdW z=none→cB H H'→E (.ref C) none H'))
inductive spNamX (C:ao)(vs:List V)(H:Hp)(Q:VK)(E:XK):Prop
 | mk (z:Str)(_:vs=[.str z])(_:z.length≤100000)(_:(∀H',nam z=true→cB H H'→Q (.str z) H'))(_:(∀H',nam z=false→cB H H'→E (.ref C) none H'))
inductive spBeatX (C:ao)(vs:List V)(H:Hp)(Q:VK)(E:XK):Prop
 | mk (z:Str)(_:vs=[.str z])(_:z.length≤100000)(_:(∀b p H',RdB z b→cB H H'→H' p=some (.tup [.str "beat",.int b])→Q (.ref p) H'))(_:(∀H',(∀b,¬RdB z b)→cB H H'→E (.ref C) none H'))
inductive spLineX (C:ao)(vs:List V)(H:Hp)(Q:VK)(E:XK):Prop
 | mk (L:ao)(ws:List Str)(_:vs=[.ref L])(_:H L=some (.lst (ws.map V.str)))(_:ws.length≤100001)(_:(∀z∈ws,z.length≤100000))(_:(∀n ss rs p a b H',LnX ws n ss rs→cB H H'→H' a=some (.tup (ss.map V.str))→H' b=some (.tup (rs.map V.int))→H' p=some (.tup [.str "line",.str n,.ref a,.ref b])→Q (.ref p) H'))(_:(∀H',(∀n ss rs,¬LnX ws n ss rs)→cB H H'→E (.ref C) none H'))
inductive spRowX (C:ao)(vs:List V)(H:Hp)(Q:VK)(E:XK):Prop
 | mk (z:Str)(_:vs=[.str z])(_:z.length≤100000)(_:(∀r p H',RdR (bD z sp_) r→cB H H'→r.at H' p→Q (.ref p) H'))(_:(∀H',(∀r,¬RdR (bD z sp_) r)→cB H H'→E (.ref C) none H'))
inductive spPlanX (C:ao)(vs:List V)(H:Hp)(Q:VK)(E:XK):Prop
 | mk (v:V)(T:String)(_:vs=[v])(_:tyn H v=some T)(_:((∀z,v≠ .str z)→∀H',cB H H'→E (.ref C) none H'))(_:∀z,v= .str z→z.length≤100000∧(∀b rs p xs H',RdP z b rs→cB H H'→H' p=some (.lst xs)→RsAt H' xs (.beat b::rs)→Q (.ref p) H')∧(∀H',(∀b rs,¬RdP z b rs)→cB H H'→E (.ref C) none H'))
end HN
variable {pre prs rows:List HN.PR}{r:HN.PR}
namespace L2
open PySem PySem.Spec PyProof.Rows
theorem noteFrame_env {env':Env}(e:af)(h:env.frame=env'.frame):noteFrame e env=noteFrame e env':=by unfold PySem.noteFrame PySem.frameOf;rw[h]
theorem iu.seat (x:iu P w H h a o):∃u,h.get? a=some u:=by
 cases o with
 | lst xs=>obtain⟨_,_,_,_,e⟩:=x;exact⟨_,e⟩
 | tup xs=>obtain⟨_,_,_,u,e,_⟩:=x;exact⟨u,e⟩
 | dK kvs=>obtain⟨_,_,_,_,u,_,_,e,_⟩:=x;exact⟨u,e⟩
 | dT kvs=>obtain⟨_,_,_,_,u,_,_,e,_⟩:=x;exact⟨u,e⟩
 | set S n=>obtain⟨u,_,_,_,e,_⟩:=x;exact⟨u,e⟩
 | ins C dx fs=>obtain⟨_,_,_,e,_⟩:=x;exact⟨_,e⟩
 | own y=>exact x
 | xd fs=>obtain⟨_,⟨u,_,_,e,_⟩,_⟩:=x;exact⟨u,e⟩
 | rng lo hi=>obtain⟨_,_,_,e⟩:=x;exact⟨_,e⟩
 | frz ob u=>exact⟨_,x.1⟩
 | tbl ps=>exact⟨_,(show h.get? a=some _ from x)⟩
 | met f y=>exact⟨_,(show h.get? a=some _ from x)⟩
 | ext φ=>exact x.2.1
structure lP (B:bM)(l:List Env)(x:ao)(cls:af)(dct:Option ao)(h:bM):Prop where
 st:B.StaysIn h
 no:B.get? x=none
 fr:h.FunFrames B l
 tr:∃a0 fl,h.TracedAtW B x cls a0 fl
 dc:∃o,h.get? x=some o∧o.dict=dct
theorem qi (f:Array af→Array af)(o:Obj):(jG f o).dict=o.dict:=by
 obtain⟨a,b,c,d⟩:=o;cases c <;> rfl
section
variable {l:List Env}{x:ao}{cls:af}
theorem entry_any {us:Array af}{top z0:af}{nx:Bool}{Q:Unit→ar→Prop}(hfr:A.frames=some (env::outer))(fr:s.heap.FunFrames B (env::outer))(hf:env.frame=some L)(e1:s.heap.get? x=some ox)(st:B.StaysIn s.heap)(no:B.get? x=none)
  (ed:ox.data= .fields us) (big:1<us.size) (e0:us[0]? =some z0) (q:∀g,lP B (env::outer) x ox.cls ox.dict g→s.heap.UpToSlots g→Q () { s with heap:=g }) :
  aT M A (do let a ← frameOf env;let pl ← entryPlaceOf L nx;let b ← EntryCells.newEntry top a .none (kt L) .none pl;setField (.ref x) 1 b) Q E s:=by
 have away:x ∉ (env::outer).filterMap (·.frame):=by
  intro z;obtain⟨_,o,p,r⟩:=fr.mem z;rw[e1] at p;cases p;exact r us ed
 apply ak (wpAny_frameOf_fun hfr fr hf λh1 k1=>ak (wpAny_entryPlaceOf λpl isp=>?_));unfold EntryCells.newEntry newFields;apply ak (fW ?_ (isp.sizeOk5 _ _ _ _ _));have x1:h1.get? x=some ox:=(k1.2.1 x away).trans e1;have st1:B.StaysIn h1:=λb o p=>(k1.2.1 b λz=>by rw[(fr.mem z).1] at p;cases p).trans (st b o p)
 generalize hT:({ cls:= .type "traceback",dict:=none,data:= .fields ([top,.ref L,.none,kt L,.none]++(if pl.isEmpty then jX 6 af.none else pl)).toArray }:Obj)=T;have dT:T.data= .fields ([top,.ref L,.none,kt L,.none]++(if pl.isEmpty then jX 6 af.none else pl)).toArray:=by rw[←hT]
 have x2:=av (h:=h1) T x1;have far:h1.objs.size≠x:=jr (aS x1);have d3:=jP ed (·.setIfInBounds 1 (af.ref h1.objs.size));have x3:=iS (jG (·.setIfInBounds 1 (af.ref h1.objs.size))) x2 (Obj.isFreed_of_fields d3);have t3:=(gP (h1.push T) (jG (·.setIfInBounds 1 (af.ref h1.objs.size))) far.symm).trans (aQ h1 (by rw[←hT];rfl));have stay:∀b o,b≠x→h1.get? b=some o→((h1.push T).update x (jG (·.setIfInBounds 1 (af.ref h1.objs.size)))).get? b=some o:=λb o n p=>by
  rw[gP _ _ n.symm];exact av _ p
 have notx:∀b o,s.heap.get? b=some o→(∀vs,o.data≠ .fields vs)→b≠x:=λb o p r z=>by
  rw[z,e1] at p;cases p;exact r us ed
 apply wpAny_setField x2 ed big (q _ ⟨λb o p=>stay b o (λz=>by rw[z,no] at p;cases p) (st1 b o p),no,fr.of_keeps λb o p r=>?_,⟨z0,kt L,?_⟩,⟨_,x3,qi _ _⟩⟩ λb o p r=>?_)
 ·obtain⟨sl,p2⟩:=k1.2.2 b o p
  exact⟨_,stay b _ (notx b o p r) p2,rfl⟩
 ·exact⟨_,_,h1.objs.size,T,_,x3,⟨Obj.cls_mapFields _ _,by rw[Array.getElem?_setIfInBounds_ne ↥0];exact e0⟩,d3,by simp[big],st1.fresh,far,t3,dT,by first | (simp;done) | (rcases isp with rfl | ⟨_,_,_,_,_,_,_,rfl⟩ <;> simp)⟩
 ·obtain⟨sl,p2⟩:=k1.2.2 b o p
  exact⟨sl,stay b _ (notx b o p r) p2⟩
theorem note_any {Q:Unit→ar→Prop}(hfr:A.frames=some (env::outer))(hf:env.frame=some L)(a:lP B (env::outer) x cls dct s.heap)
  (q:∀g,lP B (env::outer) x cls dct g→s.heap.UpToSlots g→Q () { s with heap:=g }):aT M A (noteFrame (.ref x) env) Q E s:=by
 obtain⟨a0,fl,ht⟩:=a.tr
 by_cases hfl:fl=kt L
 ·subst hfl
  exact wpAny_noteFrame_againW hf ht (q s.heap a (bM.UpToSlots.refl _))
 ·obtain⟨ox,vx,T,ot,vt,e1,⟨ec,e0⟩,e2,e3,n1,n2,e4,e5,e6⟩:=ht
  subst ec;obtain⟨ox',e1',ed⟩:=a.dc;rw[e1] at e1';cases e1';subst ed;unfold noteFrame;simp only[hf];apply ak (cQ e1 e2 e3 ?_);rw[qJ (by simp:(af.ref T != af.none)=true)];apply ak (cQ e4 e5 e6 ?_);rw[qI (by intro z;exact hfl (eq_of_beq z))];apply ak (wpAny_setField e4 e5 (i8.mp e6).1 ?_);have away:∀b,b≠T→(s.heap.update T (jG (·.setIfInBounds 3 af.none))).get? b=s.heap.get? b:=λb hb=>gP _ _ hb.symm
  have apart:∀b o,s.heap.get? b=some o→(∀vs,o.data≠ .fields vs)→b≠T:=λb o hb hn z=>by
   rw[z,e4] at hb;cases hb;exact hn vt e5
  apply entry_any (s:={ s with heap:=s.heap.update T (jG (·.setIfInBounds 3 af.none)) }) hfr (a.fr.of_keeps λb o hb hn=>⟨o,(away b (apart b o hb hn)).trans hb,rfl⟩) hf ((away x n2.symm).trans e1) (λb o hb=>(away b λz=>by rw[z,n1] at hb;cases hb).trans (a.st b o hb)) a.no e2 (i8.mp e3).1 e0 λg hg u=>?_
  exact q g hg λb o hb hn=>u b o ((away b (apart b o hb hn)).trans hb) hn
theorem pe {fr:Option ao}{Q:Unit→ar→Prop}(a:lP B l x cls dct s.heap)(q:∀g,lP B l x cls dct g→s.heap.UpToSlots g→Q () { s with heap:=g }):aT M A (setFlight (.ref x) fr) Q E s:=by
 obtain⟨a0,fl,ht⟩:=a.tr;obtain⟨ox,vx,T,ot,vt,e1,ec,e2,e3,n1,n2,e4,e5,e6⟩:=ht;have s3:3<vt.size:=(i8.mp e6).1;have away:∀b,b≠T→(s.heap.update T (jG (·.setIfInBounds 3 (fr.elim af.none λf=>kt f)))).get? b=s.heap.get? b:=λb hb=>gP _ _ hb.symm
 have apart:∀b o,s.heap.get? b=some o→(∀vs,o.data≠ .fields vs)→b≠T:=λb o hb hn z=>by
  rw[z,e4] at hb;cases hb;exact hn vt e5
 unfold setFlight;apply ak (cQ e1 e2 e3 ?_);rw[qJ (by simp:(af.ref T != af.none)=true)];apply wpAny_setField e4 e5 s3 (q _ ⟨λb o hb=>(away b λz=>by rw[z,n1] at hb;cases hb).trans (a.st b o hb),a.no,a.fr.of_keeps λb o hb hn=>⟨o,(away b (apart b o hb hn)).trans hb,rfl⟩,⟨a0,fr.elim af.none λf=>kt f,?_⟩,?_⟩ λb o hb hn=>⟨o.slots,(away b (apart b o hb hn)).trans hb⟩)
 ·exact⟨ox,vx,T,_,_,(away x n2.symm).trans e1,ec,e2,e3,n1,n2,iS _ e4 (Obj.isFreed_of_fields (jP e5 _)),jP e5 _,by simp[s3]⟩
 ·obtain⟨o,p,r⟩:=a.dc
  exact⟨o,(away x n2.symm).trans p,r⟩
theorem pass_any {what:String}{ev:Env}{Q:α→ar→Prop}(a:lP B l x cls dct s.heap)(q:∀g,lP B l x cls dct g→s.heap.UpToSlots g→E (.ref x) { s with heap:=g }):aT M A (PySem.passOn what (.ref x) ev:Sem α) Q E s:=by
 obtain⟨a0,fl,ht⟩:=id a.tr;obtain⟨ox,vx,T,ot,vt,e1,ec,e2,e3,n1,n2,e4,e5,e6⟩:=ht;unfold PySem.passOn;apply ak (cQ e1 e2 e3 ?_);rw[qI (by simp:¬(af.ref T == af.none)=true)];exact ak (pe a λg a' u=>wpAny_throw (q g a' u))
theorem leave_any {Q:Unit→ar→Prop}(hfr:A.frames=some (env::outer))(hf:env.frame=some L)(a:lP B (env::outer) x cls dct s.heap)(q:∀g,lP B outer x cls dct g→s.heap.UpToSlots g→Q () { s with heap:=g }) :
  aT M A (leaving env (.ref x)) Q E s:=by
 unfold leaving;apply ak (note_any hfr hf a λg hg u=>?_);apply pe (s:={ s with heap:=g }) hg λg2 a2 u2=>?_
 exact q g2 ⟨a2.st,a2.no,a2.fr.2.2,a2.tr,a2.dc⟩ (u.trans u2)
theorem first_any {us:Array af}{z0:af}{Q:Unit→ar→Prop}(hfr:A.frames=some (env::outer))(fr:s.heap.FunFrames B (env::outer))(hf:env.frame=some L)(e1:s.heap.get? x=some ox)(st:B.StaysIn s.heap)(no:B.get? x=none)
  (ed:ox.data= .fields us) (en:us[1]? =some .none) (e0:us[0]? =some z0) (q:∀g,lP B outer x ox.cls ox.dict g→s.heap.UpToSlots g→Q () { s with heap:=g }):aT M A (leaving env (.ref x)) Q E s:=by
 unfold leaving noteFrame;simp only[hf];apply ak (ak (cQ e1 ed en ?_));rw[qI ↥0];apply entry_any hfr fr hf e1 st no ed (i8.mp en).1 e0 λg hg u=>?_
 apply pe (s:={ s with heap:=g }) hg λg2 a2 u2=>?_
 exact q g2 ⟨a2.st,a2.no,a2.fr.2.2,a2.tr,a2.dc⟩ (u.trans u2)
end
structure Air (P:aK)(w:bc)(fs ex:List ao)(H0:Hp)(h0 B:bM)(H':Hp)(h:bM):Prop where
 hok:HOk P w H' B
 keep:∀b o,h0.get? b=some o→H0 b=none→b ∉ fs→b ∉ ex→B.get? b=some o
 there:∀b o,h0.get? b=some o→b ∉ fs→b ∉ ex→∃o',B.get? b=some o'
 free:∀b o,h0.get? b=some o→H0 b=none→b ∉ ex→H' b=none
 tups:∀b xs,H0 b=some (.tup xs)→H' b=some (.tup xs)
 frzs:∀b o u,H0 b=some (.frz o u)→H' b=some (.frz o u)
 tbls:∀b ps,H0 b=some (.tbl ps)→∃more,H' b=some (.tbl (ps++more))
 slot:∀b o,h0.get? b=some o→H0 b=none→b∈fs→b ∉ ex→∃sl,h.get? b=some { o with slots:=sl }
section
variable {fs:List ao}{H0:Hp}{h0 h2:bM}
theorem Air.un (a:Air P w fs ex H0 h0 B H' h)(st:B.StaysIn h)(frf:∀b∈fs,H0 b=none):Un fs ex H0 H' h0 h where
 keep:=λb o e n hb hx=>st b o (a.keep b o e n hb hx)
 slot:=λb o e n hb hx=>a.slot b o e n hb hx
 free:=λb o e n hx=>a.free b o e n hx
 there:=λb o e hx=>by
  by_cases hb:b∈fs
  ·obtain⟨sl,q⟩:=a.slot b o e (frf b hb) hb hx
   exact⟨_,q⟩
  ·obtain⟨o',q⟩:=a.there b o e hb hx
   exact⟨o',st b o' q⟩
 tups:=a.tups
 frzs:=a.frzs
 tbls:=a.tbls
theorem Air.up {l:List Env}{B':bM}(a:Air P w (frs l) ex H0 h0 B H' h)(fr:h.FunFrames B' l)(u:h.UpToSlots h2):Air P w (frs l) ex H0 h0 B H' h2 :=
 ⟨a.hok,a.keep,a.there,a.free,a.tups,a.frzs,a.tbls,fun b o e n hb hx=>by
  obtain ⟨sl,q⟩:=a.slot b o e n hb hx;obtain ⟨_,o2,q2,hn⟩:=fr.mem hb;rw [q] at q2;cases q2;obtain ⟨sl2,q3⟩:=u b _ q hn;exact ⟨sl2,q3⟩⟩
theorem Air.after {fs' ex':List ao}{h1:bM}(u:Un fs' ex' H0 H1 h0 h1)(a:Air P w fs ex H1 h1 B H' h)(hf:∀b o,h0.get? b=some o→b ∉ fs'→b ∉ fs)(hi:∀b o,h0.get? b=some o→b∈fs'→b∈fs)(hx:∀b o,h0.get? b=some o→b ∉ ex'→b ∉ ex):Air P w fs' ex' H0 h0 B H' h:=by
 apply⟨a.hok,λb o e n hb hxx=>?_,λb o e hb hxx=>?_,λb o e n hxx=>?_,λb xs e=>a.tups b xs (u.tups b xs e),λb o u' e=>a.frzs b o u' (u.frzs b o u' e),λb ps e=>?_,λb o e n hb hxx=>?_⟩
 ·exact a.keep b o (u.keep b o e n hb hxx) (u.free b o e n hxx) (hf b o e hb) (hx b o e hxx)
 ·obtain⟨o',e'⟩:=u.there b o e hxx
  exact a.there b o' e' (hf b o e hb) (hx b o e hxx)
 ·obtain⟨o',e'⟩:=u.there b o e hxx
  exact a.free b o' e' (u.free b o e n hxx) (hx b o e hxx)
 ·obtain⟨m1,e1⟩:=u.tbls b ps e
  obtain⟨m2,e2⟩:=a.tbls b _ e1;exact⟨m1++m2,by rw[e2,Array.append_assoc]⟩
 ·obtain⟨sl,e1⟩:=u.slot b o e n hb hxx
  obtain⟨sl2,e2⟩:=a.slot b _ e1 (u.free b o e n hxx) (hi b o e hb) (hx b o e hxx);exact⟨sl2,e2⟩
end
def CXE (P:aK)(w:bc)(ex:List ao):CXT:=λouter H s E e s'=>∃(x:ao) (cls:af) (dct:Option ao) (B:bM) (H':Hp),e= .ref x∧s'.os=s.os∧AllBare s'.gens∧lP B outer x cls dct s'.heap∧Air P w (frs outer) ex H s.heap B H' s'.heap∧E cls dct H'
abbrev CXN (P:aK)(w:bc):CXT:=CXE P w []
theorem Inv.air1 {x:ao}(I:Inv X aI σ H s)(nx:H x=none):∃B:bM,B.StaysIn s.heap∧s.heap.FunFrames B X.stack∧B.get? x=none∧Air X.prog X.w (frs X.stack) [x] H s.heap B H s.heap:=by
 have hb:∀b o,s.heap.get? b=some o→b ∉ frs X.stack→b≠x→(gz s.heap (x::frs X.stack)).get? b=some o:=λb o e n nb=>PySem.W.hideAll_get _ e (by simp[nb,n])
 apply⟨gz s.heap (x::frs X.stack),λb o e=>PySem.W.of_hideAll _ e,PySem.W.funFrames_hide I.stack λenv he b hf=>aH _ (ef.mpr ⟨env,he,hf⟩),PySem.W.hideAll_none _ (aW ..),?_⟩;apply⟨λa o e=>(I.hok a o e).stay (λb u hbu q=>hb b u q (λhm=>?_) λz=>?_) (λ_ q=>q) λ_ _ q=>q,λb o e _ n nx'=>hb b o e n (by simpa using nx'),λb o e n nx'=>⟨o,hb b o e n (by simpa using nx')⟩,λ_ _ _ n _=>n,λ_ _ e=>e,λ_ _ _ e=>e,λb ps e=>⟨#[],by simpa using e⟩,λb o e _ _ _=>⟨o.slots,e⟩⟩
 ·have z:=I.stkFree b hm
  rcases hbu with rfl | hbu
  ·rw[e] at z;cases z
  ·rw[hbu] at z;cases z
 ·subst z
  rcases hbu with rfl | hbu
  ·rw[e] at nx;cases nx
  ·rw[hbu] at nx;cases nx
theorem Air.out (I:Inv X aI σ H s)(a:Air X.prog X.w (frs X.stack) ex H s.heap B H' h)(hex:X.ex=[])(hst:X.stack=X.env::X.outer)(hfr:X.env.frame=some X.env.locals)(hx:∀b∈ex,X.s₀.heap.get? b=none) :
  Air X.prog X.w (frs X.outer) [] X.H₀ X.s₀.heap B H' h:=by
 have mem:∀b,b∈frs X.stack↔b=X.env.locals∨b∈frs X.outer:=λb=>by
  unfold frs;rw[hst,gI,hfr];simp
 have old:∀b o,X.s₀.heap.get? b=some o→b≠X.env.locals:=λb o e z=>by
  have h1:=aS e;have h2:=I.ok.above;rw[z] at h1;exact gq _ (bV h1 h2)
 have un:Un (frs X.outer) X.ex X.H₀ H X.s₀.heap s.heap:=I.base;rw[hex] at un;exact Air.after un a (λb o e n z=>((mem b).mp z).elim (old b o e) n) (λb o e hb=>(mem b).mpr (.inr hb)) λb o e _ z=>by have q:=hx b z;rw[e] at q;cases q
structure XDef (X:Cx)(E:XK):Prop where
 ex:X.ex=[]
 stk:X.stack=X.env::X.outer
 fr:X.env.frame=some X.env.locals
 any:∀(aI:List (ao×Obj)) (σ:St) (H:Hp) (s:ar) (e:af) (s':ar) (ex:List ao),Inv X aI σ H s→(∀b∈ex,X.s₀.heap.objs.size≤b)→CXE X.prog X.w ex X.stack H s E e s'→X.xe e s'
 made:∀(aI:List (ao×Obj)) (σ:St) (H:Hp) (s:ar) (x:ao) (ox:Obj) (us:Array af) (z0:af),Inv X aI σ H s→H x=none→X.s₀.heap.get? x=none→s.heap.get? x=some ox→ox.data= .fields us→us[1]? =some .none→us[0]? =some z0→E ox.cls ox.dict H→X.xe (.ref x) s
theorem XDef.pass {E:XK}(D:XDef X E):jQ (CXN X.prog X.w) X E:=λaI σ H s e s' I h=>D.any aI σ H s e s' [] I (λb hb=>qK hb ∅) h
theorem xdef_of {cd:af}{s0:ar}{H0:Hp}{E:XK} :
  XDef (cxOf (CXN P w) P w K mg base N qual scope f cd A outer s0 H0 E) E:=by
 apply⟨rfl,rfl,rfl,?_,?_⟩
 ·intro aI σ H s e s' ex I hx hc
  obtain⟨x,cls,dct,B,H',rfl,os,bare,al,air,hE⟩:=hc;have out:=Air.out I air rfl rfl rfl λb hb=>bM.get?_none_of_le (hx b hb)
  apply leave_any (env:=envOfC qual scope s0.heap.objs.size f cd) (outer:=outer) I.ok.frames rfl al λg ag u=>?_
  apply⟨x,cls,dct,B,H',rfl,os.trans I.os,bare,ag,Air.up out al.fr.2.2 u,hE⟩
 ·intro aI σ H s x ox us z0 I nx far e1 ed en e0 hE
  obtain⟨B,b1,b2,b3,air⟩:=I.air1 nx;have out:=Air.out I air rfl rfl rfl λb hb=>by rw[aB.mp hb];exact far
  apply first_any (env:=envOfC qual scope s0.heap.objs.size f cd) (outer:=outer) I.ok.frames b2 rfl e1 b1 b3 ed en e0 λg al u=>?_
  exact⟨x,ox.cls,ox.dict,B,H,rfl,I.os,I.bare,al,Air.up out b2.2.2 u,hE⟩
theorem Fun.okX (F:Fun K x qual st f fd)(S:cI N ps (defScope st))(len:∀vs H Q E,sp vs H Q E→vs.length=ps.length)
  (hbody:∀ (cdv:af) (A:cq) (outer:List Env) (s:ar) (H:Hp) (vs:List V) (Q:VK) (E:XK),ke k (A.deeper (envOfC qual (defScope st) s.heap.objs.size f cdv))→XDef (cxOf (CXN P w) P w K mg base N qual (defScope st) f cdv A outer s H E) E→sp vs H Q E →
   ∃ t,PSs (cxOf (CXN P w) P w K mg base N qual (defScope st) f cdv A outer s H E) (km st) t∧t { nx:=fun _ H'=>Q .non H',rt:=Q } (start N vs) H):dz P w K mg base (CXN P w) (k+1) f fd ps sp:=by
 obtain⟨oc,od,kV,doc,pm,an,cdv,ct,osl,rfl,lk,hcd⟩:=F.ex;exact fn_of lk hcd S len λA outer s H vs Q E hr hsp=>hbody cdv A outer s H vs Q E hr xdef_of hsp
structure Exc (K:aj)(mg:Str→Option af)(x:Str)(C:ao):Prop where
 mg:mg x=some (.ref C)
 ok:PySem.W.excIn K C [.type "ValueError",.type "Exception",.type "BaseException",.type "object"] "ValueError.__new__" =true
theorem own_at {bmB:List af}{newId:String}(X:K.In h)(hm:mg x=some (.ref C))(q:PySem.W.excIn K C bmB newId=true):OwnCls x C bmB newId mg h:=by
 apply⟨hm,?_⟩;unfold PySem.W.excIn at q;split at q
 ·rename_i dd cd sl ho
  split at q
  ·rename_i C' bm k0 k1 k2 k3 n k5 h1 h2
   simp only[ck,beq_iff_eq,Bool.not_eq_true'] at q;obtain⟨⟨⟨⟨⟨rfl,rfl⟩,h3⟩,h4⟩,h5⟩,h6⟩:=q;obtain⟨nm,bs,mro,ns,qn,hd,sn,sub,ab,col,del⟩:=cd
   dsimp only at h1 h3 h5 h6
   subst h1 h3;have e:sl= #[k0,k1,k2,k3,some (.builtin n),k5]:=by
    obtain⟨l⟩:=sl;simp only at h2;rw[h2]
   subst e;exact⟨bm,ns,nm,qn,bs,hd,sn,sub,ab,col,dd,k0,k1,k2,k3,k5,_,X _ _ ho,.of_isNs (PySem.W.isNs_of_in X h5),PySem.W.nsMap_none_of_in X h5 h6,PySem.W.tail_of_in X h4⟩
  ·cases q
 ·cases q
theorem lR {E:XK}{np:Pos}(XD:XDef X E)(hc:X.calm=true)(T:Exc X.K X.mg x C)(he:PE X e te)(hg:autoParam (Gl X x) L2.au0._auto_1)(hd:autoParam ((x == ("__debug__" :Str))=false) L2.au1._auto_1)
  (hs:autoParam (br [e] X.env=[(false,dU e X.env)]) L2.au0._auto_1):PS X (.Raise (some (.Call (.Name x np) [e] [] cpos)) none pos) (λ_ σ H=>te σ H λ_ H1=>E (.ref C) none H1):=by
 intro aI s σ H D I h;obtain⟨tl,N,nm,q,bs,hdct,sn,sub,ab,col,dd,k0,k1,k2,k3,k5,mN,hC,hN,hni,TL⟩:=(own_at I.ok.mod.kin T.mg T.ok).obj;have FB:=PySem.F.excBase_ValueError;apply wpAny_Raise_call_subT (C:=C) (nm:=nm) (q:=q) (N:=N) (bs:=bs) (bm:=tl) (hdct:=hdct) (sn:=sn) (sub:=sub) (ab:=ab) (col:=col) (dd:=dd) (k0:=k0) (k1:=k1) (k2:=k2) (k3:=k3) (k5:=k5)
  FB (mN:=mN) (TL.hasType FB.hasBase) (I.ok.hd hc) (by rw[hs];rfl) hni (mV I hg T.mg ⟨rfl,?_⟩ hd)
 rw[hs];apply gZ ?_;apply gd (thn (he aI s σ H _ I h) λv s1 hz0=>?_);obtain⟨y,H1,I1,r1,q1⟩:=hz0;apply jW ⟨rfl,by show 1≤aA;decide,I1.bk _ _ hC,hN.keeps I1.bk,TL.keeps I1.bk,λh' x' hm=>?_⟩;obtain⟨tt,ht,hn2,_⟩:=hm.there;have I2:Inv X aI σ H1 { s1 with heap:=h' }:=I1.kept (t':=s1.toks) hm.keeps;have hx1:H1 x'=none:=by
  cases z:H1 x' with
  | none=>rfl
  | some o =>
   obtain⟨u,e⟩:=iu.seat (I1.hok x' o z);rw[hm.new] at e;cases e
 have hx2:X.s₀.heap.get? x'=none:=by
  cases z:X.s₀.heap.get? x' with
  | none=>rfl
  | some o =>
   obtain⟨u,e⟩:=I1.base.there x' o z (by rw[XD.ex];simp);rw[hm.new] at e;cases e
 exact XD.made aI σ H1 _ x' _ _ _ I2 hx1 hx2 ht rfl rfl rfl q1
def CompErr (X:Cx)(C:ao)(e:af)(s':ar):Prop:=∃m,s'.heap.Ns C m∧∀h',cT C s'.heap h'→∀cenv:Env,cenv.locals=C→aT (bB X.prog X.w) X.A (PySem.passOn "comprehension.variables-let-go" e cenv:Sem af) (λ_ _=>False) X.xe { s' with heap:=h' }
def lE (X:Cx)(scope:jV)(cl:List (Str×ao))(C:ao)(N:List Str)(s:ar)(H:Hp)(ex:List ao):Cx :=
 { X with N:=N,s₀:=s,H₀:=H,env:=kz scope cl C X.env,outer:=X.stack,ex:=ex,fn:=λ_=>false,pn:=[],xe:=notedBy (bB X.prog X.w) X.A (kz scope cl C X.env) (CompErr X C) }
theorem oA {g g2 B B2:bM}:∀{l:List Env},g.FunFrames B l→(∀b∈frs l,∀o,g.get? b=some o→g2.get? b=some o)→(∀b,B.get? b=none→B2.get? b=none)→g2.FunFrames B2 l
 | [],_,_,_=>trivial
 | env::r,⟨hk,⟨L,o,hf,hn,ho,hd⟩,hr⟩,k,kb=>⟨hk,⟨L,o,hf,kb L hn,k L (ef.mpr ⟨env,aW ..,hf⟩) o ho,hd⟩,oA hr (fun b hb=>k b (by
   obtain ⟨e',he,hf'⟩:=ef.mp hb;exact ef.mpr ⟨e',aH _ he,hf'⟩)) kb⟩
theorem xcomp_pass {E:XK}{cl:List (Str×ao)}{s2:ar}(XD:XDef X E)(I2:Inv X aI σ H2 s2)(hf:∀b∈fp,X.s₀.heap.objs.size≤b)(hC:s2.heap.objs.size≤C) :
  jQ (CXN X.prog X.w) (lE X scope cl C N s2 H2 fp) E:=by
 intro pins' σ' Hb sb e s' Ib hc;obtain⟨x,cls,dct,B,H',rfl,os,bare,al,air,hE⟩:=hc;have al:lP B X.stack x cls dct s'.heap:=al;have air:Air X.prog X.w (frs X.stack) [] Hb sb.heap B H' s'.heap:=air;have hfr:X.A.frames=some (X.env::X.outer):=by rw[←XD.stk];exact Ib.ok.frames
 have al':lP B (X.env::X.outer) x cls dct s'.heap:=by rw[←XD.stk];exact al
 show aT _ _ (noteFrame (.ref x) (kz scope cl C X.env)) _ _ s';rw[noteFrame_env (env:=kz scope cl C X.env) (env':=X.env) (.ref x) rfl];apply note_any hfr XD.fr al' λg hg u=>?_
 have hg:lP B X.stack x cls dct g:=by rw[XD.stk];exact hg
 obtain⟨mC,hnC,_⟩:=id Ib.loc;have hnC:sb.heap.Ns C mC:=hnC;obtain⟨oC,es,ep,hoC,rC⟩:=id hnC;have freeC:Hb C=none:=Ib.free;have nfs:∀b∈frs X.stack,b≠C:=λb hb z=>by
  obtain⟨_,o,ho,_⟩:=I2.stack.mem hb;have:=aS ho;rw[z] at this;exact gq _ (bV this hC)
 have bC:B.get? C=some oC:=air.keep C oC hoC freeC (λz=>nfs C z rfl) ∅;have HC:H' C=none:=air.free C oC hoC freeC ∅;apply⟨mC,⟨oC,es,ep,hg.st _ _ bC,rC⟩,λh' same cenv _=>?_⟩;have hB2:∀b o,b≠C→B.get? b=some o→(gz B [C]).get? b=some o:=λb o hb e=>PySem.W.hideAll_get _ e (by simpa using hb)
 have ofB2:∀ b o,(gz B [C]).get? b=some o→B.get? b=some o∧b≠C:=fun b o e=>⟨PySem.W.of_hideAll _ e,fun z=>by
  rw [z,PySem.W.hideAll_none _ (by simp:C∈[C])] at e;cases e⟩
 have noB2:∀b,B.get? b=none→(gz B [C]).get? b=none:=λb hn=>by
  cases q:(gz B [C]).get? b with
  | none=>rfl
  | some o=>rw[(ofB2 b o q).1] at hn;cases hn
 have xC:x≠C:=λz=>by have:=hg.no;rw[z,bC] at this;cases this
 have al2:lP (gz B [C]) X.stack x cls dct h':=by
  obtain⟨a0,fl,ox,vx,T,ot,vt,e1,ec,e2,e3,n1,n2,e4,e5,e6⟩:=hg.tr;obtain⟨od,p1,p2⟩:=hg.dc;have tC:T≠C:=λz=>by rw[z,bC] at n1;cases n1
  apply⟨λb o e=>?_,noB2 x hg.no,oA hg.fr (λb hb o e=>same.extBut b o (nfs b hb) e) noB2,⟨a0,fl,ox,vx,T,ot,vt,same.extBut x ox xC e1,ec,e2,e3,noB2 T n1,n2,same.extBut T ot tC e4,e5,e6⟩,⟨od,same.extBut x od xC p1,p2⟩⟩;obtain⟨e1,e2⟩:=ofB2 b o e;exact same.extBut b o e2 (hg.st b o e1)
 apply pass_any (l:=X.stack) al2 λg2 a2 u2=>?_
 have unb:Un (frs X.stack) fp H2 Hb s2.heap sb.heap:=Ib.base;have airc:Air X.prog X.w (frs X.stack) fp H2 s2.heap B H' s'.heap:=Air.after unb air (λ_ _ _ n=>n) (λ_ _ _ n=>n) λ_ _ _ _ z=>by cases z
 have lowC:∀b o,s2.heap.get? b=some o→b≠C:=λb o e z=>by
  have:=aS e;rw[z] at this;exact gq _ (bV this hC)
 apply XD.any aI σ H2 s2 (.ref x) _ fp I2 hf ⟨x,cls,dct,gz B [C],H',rfl,os.trans Ib.os,bare,a2,?_,hE⟩;apply⟨λa o e=>(airc.hok a o e).stay (λb v hbv q=>hB2 b v ?_ q) (λ_ q=>q) λ_ _ q=>q,λb o e n hb hx=>hB2 b o (lowC b o e) (airc.keep b o e n hb hx),λb o e hb hx=>?_,airc.free,airc.tups,airc.frzs,airc.tbls,λb o e n hb hx=>?_⟩
 ·intro z
  rcases hbv with rfl | hbv
  ·rw[z,HC] at e;cases e
  ·rw[z,HC] at hbv;cases hbv
 ·obtain⟨o',e'⟩:=airc.there b o e hb hx
  exact⟨o',hB2 b o' (lowC b o e) e'⟩
 ·obtain⟨sl,q⟩:=airc.slot b o e n hb hx
  obtain⟨_,o2,q2,hn⟩:=al.fr.mem hb;rw[q] at q2;cases q2;obtain⟨sl2,q3⟩:=u b _ q hn;have q4:=same.extBut b _ (nfs b hb) q3;obtain⟨sl3,q5⟩:=u2 b _ q4 hn;exact⟨sl3,q5⟩
theorem xc_pass {E:XK}(XD:XDef X E):∀cl C aI σ H2 s2 fp,Inv X aI σ H2 s2→(∀b∈fp,b∈X.ex∨X.s₀.heap.objs.size≤b)→s2.heap.objs.size≤C→jQ (CXN X.prog X.w) (lE X scope cl C N s2 H2 fp) E :=
 fun _ _ _ _ _ _ _ I2 hf hC=>xcomp_pass XD I2 (fun b hb'=>by
   rcases hf b hb' with f3 | f3
   ·rw[XD.ex] at f3;cases f3
   ·exact f3) hC
theorem oS {E:XK}
  (XD:XDef X E) (hc:X.calm=true) (hi:PI X (.Name x px) iter wi)
  (kQ:∀y∈scope.names,y.2≠ .cell) (mF:scope.kind= .function) (lI:∀y∈scope.names,y.2= .local→scope.names.lookup y.1=some .local) (hx:scope.names.lookup x=some .local)
  (hfr:∀y∈scope.names,y.2= .free→X.env.scope.names.lookup y.1=some .cell) (hnd:(x::fr).Nodup) (hjs:js.map (λj=>X.N[j]?)=fr.map some) (hfv:∀y∈fr,scope.names.lookup y=some .free)
  (hb:∀cl C s' H' ex,jQ (CXN X.prog X.w) (lE X scope cl C (x::fr) s' H' ex) E→PE (lE X scope cl C (x::fr) s' H' ex) elt te∧PTs (lE X scope cl C (x::fr) s' H' ex) ifs tt)
  (hs:autoParam (∀z,gO iter X.env z=hW z) L2.au2._auto_1) :
  PE X (.ListComp elt [⟨.Name x px,iter,ifs,0⟩] scope pos) (tComp wi js tt te):=by
 intro aI s σ H Q I h;rw[eval_ListComp];exact pX (xs:=[x]) (g:=mP 0) (XE:=λcl C=>notedBy (bB X.prog X.w) X.A (kz scope cl C X.env) (CompErr X C)) (PASS:=λcl C s' H' ex=>jQ (CXN X.prog X.w) (lE X scope cl C (x::fr) s' H' ex) E) (use:=none) (R:=EP X aI σ Q) hc hi kQ mF lI hfr hjs hfv (λ_ _ _ _ _=>nY hnd rfl (.inl (fF hx)) (.inr (fF hx))) (λcl C s' H' ex hp=>hb cl C s' H' ex hp) (xc_pass XD) (λ_ _ _ _ _ f=>f) (λ_ _ _ _ h=>compW_T h) I h (λs4 H5 D C mC n I5 nC lC fC pC cC sC q=>⟨mC,n,λh' hsb=>⟨.ref D,H5,I5.turned (t':=s4.toks) (it:=C) (λb o hb' e=>hsb.extBut b o hb' e) nC lC (.inr sC) cC pC,rfl,q⟩⟩) hs
theorem ps_setCX {E:XK}{py:Pos}
  (hN0:X.N.Nodup) (hi0:X.N[iy]? =some y0) (hx0:Loc X.env.scope y0) (XD:XDef X E) (hc:X.calm=true) (hi:PI X (.Name x px) iter wi)
  (kQ:∀y∈scope.names,y.2≠ .cell) (mF:scope.kind= .function) (lI:∀y∈scope.names,y.2= .local→scope.names.lookup y.1=some .local) (hx:scope.names.lookup x=some .local)
  (hfr:∀y∈scope.names,y.2= .free→X.env.scope.names.lookup y.1=some .cell) (hnd:(x::fr).Nodup) (hjs:js.map (λj=>X.N[j]?)=fr.map some) (hfv:∀y∈fr,scope.names.lookup y=some .free)
  (hb:∀cl C s' H' ex,jQ (CXN X.prog X.w) (lE X scope cl C (x::fr) s' H' ex) E→PE (lE X scope cl C (x::fr) s' H' ex) elt te∧PTs (lE X scope cl C (x::fr) s' H' ex) ifs tt)
  (hs:autoParam (∀z,gO iter X.env z=hW z) L2.au2._auto_1) (hsw:autoParam (kO (.ListComp elt [⟨.Name x px,iter,ifs,0⟩] scope pos) (some (.Name y0 py)) spos.line X.env=hW true) L2.au0._auto_1)
  (hf0:autoParam (X.fn y0=true∨X.env.scope.names.lookup y0=some .local) L2.au3._auto_1) :
  PS X (.Assign [.Name y0 py] (.ListComp elt [⟨.Name x px,iter,ifs,0⟩] scope pos) spos) (tAsg (tComp wi js tt te) (mP iy)) :=
 ps_setCG (XE:=λcl C=>notedBy (bB X.prog X.w) X.A (kz scope cl C X.env) (CompErr X C)) (PASS:=λcl C s' H' ex=>jQ (CXN X.prog X.w) (lE X scope cl C (x::fr) s' H' ex) E) (xs:=[x]) (g:=mP 0) hN0 hi0 hx0 hc hi kQ mF lI hfr hjs hfv (λ_ _ _ _ _=>nY hnd rfl (.inl (fF hx)) (.inr (fF hx))) (λcl C s' H' ex hp=>hb cl C s' H' ex hp) (xc_pass XD) (λ_ _ _ _ _ _ f=>f) (λ_ _ _ _ h=>compW_T h) hs hsw hf0
abbrev cxBody (X:Cx)(pn:List (ao×Obj))(W:af→ar→Prop):Cx:={ X with pn:=pn,xe:=W }
abbrev pT (X:Cx)(pn:List (ao×Obj))(x:ao):Cx:={ X with A:=X.A.mark (some (.ref x)),calm:=false,pn:=pn,xe:=λ_ _=>False }
def PassAt (CX:CXT)(X:Cx)(σ:St)(E:XK):Prop:=∀(aI:List (ao×Obj)) (H:Hp) (s:ar) (e:af) (s':ar),Inv X aI σ H s→CX X.stack H s E e s'→X.xe e s'
section
variable {pn:List (ao×Obj)}{σ0:St}{E:XK}
theorem pe_callS {p:Pos}(F:dz X.prog X.w X.K X.mg X.base CX k f fd ps sp)(hr:ke k X.A)(hg:Gl X x)(hm:X.mg x=some (.ref f))(hk:eS X.K (.ref f)=true)(hb:Binds X.K fd ps ds)(hd:gU dvs ds)(hx:PassAt CX X σ0 E)
  (ha:PA X (e::es) t) (hdb:autoParam ((x == ("__debug__" :Str))=false) L2.au1._auto_1) (he:autoParam (br (e::es) X.env=(false,dU e X.env)::br es X.env) L2.au0._auto_1) (hpl:autoParam ((gG pos (br es X.env)).any (·.1)=false) L2.au0._auto_1) :
  PE X (.Call (.Name x p) (e::es) [] pos) (λσ H Q=>σ=σ0∧tCall sp dvs E t σ H Q):=by
 intro aI s σ H Q I ⟨hσ,h⟩;subst hσ;apply iT (mV I hg hm ?_ hdb);apply kU (h₀:=X.base) I.ok.mod.kin hk (thn (ha pos aI s σ H _ I h) λus s1 hz0=>?_) he hpl;obtain⟨vs,H1,I1,r,q⟩:=hz0;apply⟨I1.kIn,?_⟩;have r2:=r.append hd;have hl:(us++ds).length=ps.length:=by rw[←r2.length];exact F.len _ _ _ _ q
 apply wpAny_call (kA (F.run X.A X.stack s1 H1 ⟨us,[]⟩ (us++ds) (vs++dvs) Q E hr I1.env0 (hb s1 us I1.kIn hl) r2 q) λr s' hq=>?_);cases r with
 | error e=>exact hx aI H1 s1 e s' I1 hq
 | ok fl =>
  cases fl with
  | ret u=>exact I1.after hq
  | next=>exact eZ hq
  | brk=>exact eZ hq
  | cont=>exact eZ hq
theorem Inv.toBody (I:Inv X aI σ H s):Inv (cxBody X (X.pn++aI) W) [] σ H s :=
 ⟨⟨I.ok.mod,I.ok.kind,I.ok.glob,I.ok.blt,I.ok.above,I.ok.inj,I.ok.has,I.ok.cab,I.ok.hd,I.ok.frames,I.ok.stk,I.ok.exf,I.ok.bs,I.ok.bsz,I.ok.noex,I.ok.exfs,I.ok.funs,I.ok.frf⟩,I.os,I.bare,I.base,I.loc,I.cell,I.free,I.freeC,by rw[eY];exact I.pin,I.hok,I.len⟩
theorem Inv.ofBody {more:List (ao×Obj)}(I:Inv (cxBody X (X.pn++aI) W) more σ H s):Inv X aI σ H s :=
 ⟨⟨I.ok.mod,I.ok.kind,I.ok.glob,I.ok.blt,I.ok.above,I.ok.inj,I.ok.has,I.ok.cab,I.ok.hd,I.ok.frames,I.ok.stk,I.ok.exf,I.ok.bs,I.ok.bsz,I.ok.noex,I.ok.exfs,I.ok.funs,I.ok.frf⟩,I.os,I.bare,I.base,I.loc,I.cell,I.free,I.freeC,λp hp=>I.pin p (cE _ hp),I.hok,I.len⟩
theorem Inv.toHand {x:ao}(I:Inv X aI σ H s):Inv (pT X (X.pn++aI) x) [] σ H s :=
 ⟨⟨I.ok.mod,I.ok.kind,I.ok.glob,I.ok.blt,I.ok.above,I.ok.inj,I.ok.has,I.ok.cab,(λz=>nomatch z),I.ok.frames,I.ok.stk,I.ok.exf,I.ok.bs,I.ok.bsz,I.ok.noex,I.ok.exfs,I.ok.funs,I.ok.frf⟩,I.os,I.bare,I.base,I.loc,I.cell,I.free,I.freeC,by rw[eY];exact I.pin,I.hok,I.len⟩
theorem Inv.ofHand {x:ao}{more:List (ao×Obj)}(ok:X.Ok)(I:Inv (pT X (X.pn++aI) x) more σ H s):Inv X aI σ H s :=
 ⟨ok,I.os,I.bare,I.base,I.loc,I.cell,I.free,I.freeC,λp hp=>I.pin p (cE _ hp),I.hok,I.len⟩
theorem SP.mono {Y:Cx}{D:Ends}{f:Flow}(k:∀σ H,Inv Y pins' σ H s→Inv X aI σ H s)(h:SP Y pins' D f s):SP X aI D f s:=by
 cases f with
 | next=>obtain⟨σ,H,I,q⟩:=h;exact⟨σ,H,k _ _ I,q⟩
 | brk=>obtain⟨σ,H,I,q⟩:=h;exact⟨σ,H,k _ _ I,q⟩
 | cont=>obtain⟨σ,H,I,q⟩:=h;exact⟨σ,H,k _ _ I,q⟩
 | ret u=>obtain⟨v,σ,H,I,q⟩:=h;exact⟨v,σ,H,k _ _ I,q⟩
theorem Inv.landed {x:ao}{cls:af}(I:Inv X aI σ H s)(os:s'.os=s.os)(bare:AllBare s'.gens)(al:lP B X.stack x cls dct s'.heap)(air:Air X.prog X.w (frs X.stack) [] H s.heap B H' s'.heap):Inv X aI σ H' s' :=
 I.call' (ch:=[]) os (air.un al.st λb hb=>I.stkFree b hb) (λa o e=>(air.hok a o e).stay (λb v _ q=>al.st b v q) (λ_ q=>q) λ_ _ q=>q) bare λb hb=>qK hb ∅
end
theorem gone_ok {Q:Unit→ar→Prop}(I:Inv X aI σ H s)(nd:X.N.Nodup)(at_:X.N[i]? =some x)(lc:X.env.scope.names.lookup x=some .local)
  (next:∀s',Inv X aI (σ.set i none) H s'→Q () s'):aT M A (do bindName X.env x .none;unbindBehindTheSuite X.env x pos) Q E s:=by
 obtain⟨m,nsm,look⟩:=id I.loc;have fk:(X.env.scope.kind == .class || (X.env.scope.kind == .module && X.env.locals != X.env.globals))=false:=by rw[I.ok.kind];rfl
 have il:i<σ.length:=by rw[I.len];exact(ai.mp at_).1
 apply wpAny_nameGoes_keeps lc nsm fk λg w nsg sb=>next _ ?_
 obtain⟨oL,_,_,eL,_⟩:=id nsm;have low:∀b o,X.s₀.heap.get? b=some o→b≠X.env.locals:=λb o e=>cJ (bV (aS e) I.ok.above)
 have far:∀b o,b≠X.env.locals→s.heap.get? b=some o→g.get? b=some o:=λb o n e=>(sb.2 b n).trans e
 have un:Un X.fs X.ex X.H₀ H X.s₀.heap g :=
  {keep:=fun b o e n f x'=>far b o (low b o e) (I.base.keep b o e n f x')
   slot:=λb o e n f x'=>(I.base.slot b o e n f x').imp λsl q=>far b _ (low b o e) q
   free:=I.base.free
   there:=λb o e x'=>(I.base.there b o e x').imp λo' q=>far b o' (low b o e) q
   tups:=I.base.tups
   frzs:=I.base.frzs
   tbls:=I.base.tbls }
 have hk:HOk X.prog X.w H g:=fun a o e=>(I.hok a o e).stay (fun c o' hc q=>far c o' (by
  rintro rfl
  rcases hc with rfl | hc
  ·rw[I.free] at e;cases e
  ·rw [I.free] at hc;cases hc) q) (fun _ q=>q) fun _ _ q=>q
 apply⟨I.ok,I.os,I.bare,un,⟨_,nsg,λj y u e1 e2 e3=>?_⟩,λy c e=>?_,I.free,I.freeC,λp hp=>?_,hk,by simpa using I.len⟩
 ·by_cases hj:j=i
  ·subst hj
   rw[jZ il] at e2;cases e2
  ·rw[List.getElem?_set_ne (cY hj)] at e2
   obtain⟨u',r',l'⟩:=look j y u e1 e2 e3;apply⟨u',r',?_⟩
   rcases l' with ⟨k1,k2⟩ | ⟨k1,c,k2,k3⟩
   ·apply .inl ⟨k1,?_⟩
    have ne:y≠x:=λz=>hj (nodup_ix nd e1 (z ▸ at_))
    simp[ne,k2]
   ·exact .inr ⟨k1,c,k2,k3.sameBut sb (I.cne y c k2)⟩
 ·obtain⟨w',z⟩:=I.cell y c e
  exact⟨w',z.sameBut sb (I.cne y c e)⟩
 ·obtain⟨e,n,nl,nf,d⟩:=I.pin p hp
  exact⟨far p.1 p.2 nl e,n,nl,nf,d⟩
def isExc (a C:ao)(d:Option ao):HO:= .ext λh=>∃o us,h.get? a=some o∧o.cls= .ref C∧o.dict=d∧o.data= .fields us
theorem Inv.landedAs {x:ao}(I:Inv X aI σ H s)(os:s'.os=s.os)(bare:AllBare s'.gens)(al:lP B X.stack x (.ref C) dct s'.heap)(air:Air X.prog X.w (frs X.stack) [] H s.heap B H' s'.heap):H' x=none∧Inv X aI σ (upd H' x (isExc x C dct)) s':=by
 have free:H' x=none:=by
  cases q:H' x with
  | none=>rfl
  | some o =>
   obtain⟨u,e⟩:=iu.seat (air.hok x o q);rw[al.no] at e;cases e
 obtain⟨a0,fl,ox,vx,T,ot,vt,e1,⟨ec,_⟩,e2,_⟩:=id al.tr;have edc:ox.dict=dct:=by
  obtain⟨o,p,r⟩:=al.dc;rw[e1] at p;cases p;exact r
 have new:s.heap.get? x=none:=by
  cases q:s.heap.get? x with
  | none=>rfl
  | some o =>
   by_cases hf:x∈frs X.stack
   ·obtain⟨_,o2,q2,hn⟩:=al.fr.mem hf
    rw[e1] at q2;cases q2;exact qK e2 (hn vx)
   ·obtain⟨o',e'⟩:=air.there x o q hf ∅
    rw[al.no] at e';cases e'
 have un:=air.un al.st λb hb=>I.stkFree b hb
 have hok:HOk X.prog X.w H' s'.heap:=λa o e=>(air.hok a o e).stay (λb v _ q=>al.st b v q) (λ_ q=>q) λ_ _ q=>q
 apply⟨free,I.call' (ch:=[]) os { keep:=un.keep,slot:=un.slot,free:=λb o e n hx=>?_,there:=un.there,tups:=λb xs e=>?_,frzs:=λb o u e=>?_,tbls:=λb ps e=>?_ } (hok.take free ⟨⟨ox,vx,e1,ec,edc,e2⟩,⟨ox,e1⟩,λh1 h2 ⟨o,us,p1,p2⟩ k=>⟨o,us,k o p1,p2⟩⟩) bare λb hb=>qK hb ∅⟩
 ·rw[bo (λz=>by rw[z,new] at e;cases e)]
  exact un.free b o e n hx
 ·have q:=un.tups b xs e
  rw[bo (aV q free)];exact q
 ·have q:=un.frzs b o u e
  rw[bo (aV q free)];exact q
 ·obtain⟨more,q⟩:=un.tbls b ps e
  exact⟨more,by rw[bo (aV q free)];exact q⟩
structure Under (K:aj)(C D:ao):Prop where
 up:kh K C (.ref D)=some true
theorem match_up {nm' q':Str}{N':ao}{bs' bm':List af}{hdct':Bool}{sn':List Str}{sub':List af}{ab':Bool}{col':Option Bool}{dd':Option ao}{j0 j1 j2 j3 j5:Option af}{newId':String}
  {g:Array GenState} {d:Drawn} {t:Nat} {os:OsState} {e:ao} {oe:Obj} {Q:Bool→ar→Prop} (kin:K.In h) (up:kh K C (.ref D)=some true)
  (hD:h.get? D=some (excClassObj nm' q' D N' bs' bm' hdct' sn' sub' ab' col' dd' j0 j1 j2 j3 j5 newId')) (he:h.get? e=some oe) (hcls:oe.cls= .ref C) (hbase:bm'.contains (.type "BaseException")=true)
  (hq:Q true ⟨h,g,d,t,os⟩):aT M A (excMatches (.ref e) (.ref D)) Q E ⟨h,g,d,t,os⟩:=by
 have b1:(af.ref D::bm').contains (.type "BaseException")=true:=by rw[List.contains_cons,hbase,Bool.or_true]
 have f:=tc_notTuple;unfold excMatches
 repeat (first | (with_reducible apply wpAny_loadPart_at he ?_;rw[hcls]) | with_reducible apply wpAny_loadPart_at hD ?_ | (with_reducible apply wpAny_isSubtype_exc hD ?_;rw[b1]) | (with_reducible apply PySem.W.Looks.at (PySem.W.looks_mroIn kin up) ?_) | wp_step)
 exact hq
theorem ps_tryAs {n:Str}{iN:Nat}{np hp:Pos}{suite:List cW}{b₀:cW}{tb:St→XK→TS}{th:TS}(stk:X.stack=X.env::X.outer)(fr:X.env.frame=some X.env.locals)(nd:X.N.Nodup)(at_:X.N[iN]? =some n)(lc:X.env.scope.names.lookup n=some .local)(T:Exc X.K X.mg x D)
  (hb:∀(pn:List (ao×Obj)) (W:af→ar→Prop) (σ:St) (E:XK),PassAt (CXN X.prog X.w) (cxBody X pn W) σ E→PSs (cxBody X pn W) body (tb σ E)) (hh:∀(pn:List (ao×Obj)) (e:ao),PSs (pT X pn e) (b₀::suite) th) (hg:autoParam (Gl X x) L2.au0._auto_1) (hd:autoParam ((x == ("__debug__" :Str))=false) L2.au1._auto_1) :
  PS X (.Try body [.ExceptHandler (some (.Name x np)) (some n) (b₀::suite) hp] [] [] pos) (λDn σ H=>tb σ (λcls dct H'=>∃C,cls= .ref C∧Under X.K C D∧∀a,H' a=none→th { Dn with nx:=λσ' H''=>Dn.nx (σ'.set iN none) H'',bk:=λσ' H''=>Dn.bk (σ'.set iN none) H'',ct:=λσ' H''=>Dn.ct (σ'.set iN none) H'' } (σ.set iN (some (.ref a))) (upd H' a (isExc a C dct))) Dn σ H):=by
 intro aI s σ H Dn I h;apply wpAny_Try_except (dO (hb (X.pn++aI) (λe s₁=>aT (bB X.prog X.w) X.A (noteFrame e X.env) (λ_ s₂=>aT (bB X.prog X.w) X.A (setFlight e none) (λ_ s₃=>aT (bB X.prog X.w) X.A (handleBy e X.env [.ExceptHandler (some (.Name x np)) (some n) (b₀::suite) hp]) (SP X aI Dn) X.xe s₃) X.xe s₂) X.xe s₁) σ _ ?_ [] s σ H Dn I.toBody h) (λf s1 q=>?_) λ_ _ q=>q)
 ·intro pins' H1 s1 e s2 I1 hc
  obtain⟨a,cls,dct,B,H2,rfl,os,bare,al,air,C,rfl,U,hth⟩:=hc;have I1:Inv X aI σ H1 s1:=Inv.ofBody I1;have al:lP B X.stack a (.ref C) dct s2.heap:=al;have air:Air X.prog X.w (frs X.stack) [] H1 s1.heap B H2 s2.heap:=air;have hfr:X.A.frames=some (X.env::X.outer):=by rw[←stk];exact I.ok.frames
  have al':lP B (X.env::X.outer) a (.ref C) dct s2.heap:=by rw[←stk];exact al
  apply note_any hfr fr al' λg hgd u=>?_
  have hgd:lP B X.stack a (.ref C) dct g:=by rw[stk];exact hgd
  have air1:Air X.prog X.w (frs X.stack) [] H1 s1.heap B H2 g:=Air.up air al.fr u;apply pe (s:={ s2 with heap:=g }) hgd λg2 al2 u2=>?_
  have air2:Air X.prog X.w (frs X.stack) [] H1 s1.heap B H2 g2:=Air.up air1 hgd.fr u2;have I2:Inv X aI σ H2 { s2 with heap:=g2 }:=I1.landed (s':={ s2 with heap:=g2 }) os bare al2 air2;have I2h:Inv (pT X (X.pn++aI) a) [] σ H2 { s2 with heap:=g2 }:=I2.toHand;apply wpAny_handleBy_cons (codeAny_handlers_test ?_) (by intro q;cases q);apply mV (X:=pT X (X.pn++aI) a) I2h hg T.mg ?_ hd;obtain⟨tl,N,nm,q,bs,hdct,sn,sub,ab,col,dd,k0,k1,k2,k3,k5,mN,hC,hN,hni,TL⟩:=(own_at I.ok.mod.kin T.mg T.ok).obj;obtain⟨b0,fl,tr⟩:=id al2.tr;obtain⟨ob,hob,hobc⟩:=tr.there;apply match_up I2.kIn U.up (I2.bk _ _ hC) hob hobc (TL.hasType rfl) (codeAny_handlers_suite_as ?_);apply pe (s:={ s2 with heap:=g2 }) al2 λg3 al3 u3=>?_
  have air3:Air X.prog X.w (frs X.stack) [] H1 s1.heap B H2 g3:=Air.up air2 al2.fr u3;obtain⟨fre,I3⟩:=I1.landedAs (s':={ s2 with heap:=g3 }) os bare al3 air3;have I3h:Inv (pT X (X.pn++aI) a) [] σ (upd H2 a (isExc a C dct)) { s2 with heap:=g3 }:=I3.toHand;apply store_ok (X:=pT X (X.pn++aI) a) (v:= .ref a) I3h nd at_ (.inl lc) rfl (λs5 I5=>?_) (.inr lc);apply dO (hh (X.pn++aI) a [] _ _ _ _ I5 (hth a fre)) (λf s6 q=>?_) λ_ _ z=>eZ z
  cases f with
  | next=>obtain⟨σ6,H6,I6,q6⟩:=q;exact gone_ok (Inv.ofHand I.ok I6) nd at_ lc λs7 I7=>⟨_,_,I7,q6⟩
  | brk=>obtain⟨σ6,H6,I6,q6⟩:=q;exact gone_ok (Inv.ofHand I.ok I6) nd at_ lc λs7 I7=>⟨_,_,I7,q6⟩
  | cont=>obtain⟨σ6,H6,I6,q6⟩:=q;exact gone_ok (Inv.ofHand I.ok I6) nd at_ lc λs7 I7=>⟨_,_,I7,q6⟩
  | ret u=>obtain⟨v,σ6,H6,I6,r6,q6⟩:=q;exact gone_ok (Inv.ofHand I.ok I6) nd at_ lc λs7 I7=>⟨v,_,_,I7,r6,q6⟩
 ·have q:SP X aI Dn f s1:=SP.mono (λ_ _ Ib=>Inv.ofBody Ib) q
  cases f with
  | next=>exact aN q
  | brk=>exact q
  | cont=>exact q
  | ret u=>exact q
end L2
namespace HN
open PySem L2 PyProof.Rows HT2
theorem pcX {E:XK}{p:Pos}(G:Fn X.K X.mg x st ps f fd)(F:dz X.prog X.w X.K X.mg X.base (CXN X.prog X.w) k f fd ps sp)(hr:ke k X.A)(hx:jQ (CXN X.prog X.w) X E)
  (ha:PA X (e::es) t) (hg:autoParam (Gl X x) L2.au0._auto_1) (hdb:autoParam ((x == ("__debug__" :Str))=false) L2.au1._auto_1) (he:autoParam (br (e::es) X.env=(false,dU e X.env)::br es X.env) L2.au0._auto_1) (hpl:autoParam ((gG pos (br es X.env)).any (·.1)=false) L2.au0._auto_1) :
  PE X (.Call (.Name x p) (e::es) [] pos) (tCall sp [] E t):=pe_call F hr hg G.mg G.F.kp G.b .nil hx ha hdb he hpl
theorem ok_readX {c:ao}(F:Fun K "read_whole" "read_whole" sRead f fd)(T:Nm mg)(C:Cs2 mg)(TE:Exc K mg "NoText" c)(GN:Fn K mg "is_numeral" oQ pzc f1 fd1):dz P w K mg base (CXN P w) 2 f fd pzc (o9 c):=by
 have FN:‹0› 1 f1 fd1 pzc spNumeral:=ok_numeral GN.F T C;apply F.okX scRead (by contradiction) (fun cdv A outer s H vs Q E hr XD h=>?_);obtain ⟨z,rfl,hz,k1,k2⟩:=h;apply ⟨_,dq (gC (me (kH (pc1 GN FN hr (ah (pv 0) ay)))) (bH (lR XD rfl TE dC)) cZ)
  (bH (cA (gJ call_int_str rfl T.tint boot_int (ah (pv 0) ay)))),?_⟩
 apply⟨ρ,ρ,hz,λH1 S1=>⟨ρ,?_⟩⟩
 by_cases hn:gb z=true
 ·rw[hn]
  apply lq rfl ?_;obtain⟨hl,i,hi⟩:=numeral_int hn;exact⟨ρ,_,i,rfl,hi,⋯,k1 i H1 (by unfold rdW;rw[qJ hn];exact hi) S1⟩
 ·rw[cU.mpr hn]
  exact qj rfl (k2 H1 (by unfold rdW;rw[qI hn]) S1)
theorem ok_namX {c:ao}(F:Fun K "read_name" "read_name" sNam f fd)(T:Nm mg)(C:Cs2 mg)(TE:Exc K mg "NoText" c):dz P w K mg base (CXN P w) 1 f fd pzc (spNamX c):=by
 apply F.okX scNam (by contradiction) (fun cdv A outer s H vs Q E hr XD h=>?_);obtain ⟨z,rfl,hz,k1,k2⟩:=h;apply ⟨_,dq (gC (PW.pt (mx (cf op_lt (b8 j8 rfl T.len bu (ah (pv 0) ay)) aP (cN _)) (mx (cf op_gt (b8 j8 rfl T.len bu (ah (pv 0) ay)) (pA C.ml) (cN _)) (kX (me (kH (b8 (call_all rfl) rfl T.all boot_all (ah (nZ (fr:=[]) (js:=[]) rfl (pi_str (pv 0)) ⇑0 rfl ⇑0 rfl (by exists sNam) ⇑0 rfl ⇑0 (fun _ _ _ _ _=>⟨(kK op_in_str (pv 0) (pe_gstr C.ltr) rfl),ki⟩)) ay)))))))) (bH (lR XD rfl TE dC)) cZ)
  (bH (cA (pv 0))),?_⟩
 have big:(100000:Nat)≤aA:=by decide
 have hz':z.length≤aA:=by lia
 apply⟨ρ,z,rfl,hz',ς,ρ,?_⟩;apply jC (λh1=>?_) (λh1=>?_)
 ·have h1:(z.length:Int)<1:=qN h1
  exact k2 H (by unfold nam;rw[qM ⋯];rfl) (cB.refl H)
 have h1:¬(z.length:Int)<1:=λq=>h1 (qL q)
 apply⟨ρ,z,rfl,hz',ς,ρ,?_⟩;apply jC (λh2=>?_) (λh2=>?_)
 ·have h2:(8:Int)<(z.length:Int):=qN h2
  exact k2 H (by unfold nam;rw[qM (by lia:¬z.length≤8),j4,Bool.and_false]) (cB.refl H)
 have h2:¬(8:Int)<(z.length:Int):=λq=>h2 (qL q)
 have en:nam z=z.cps.toList.all λc=>decide (97≤c∧c≤122):=by unfold nam;rw[qL (by lia:1≤z.length),qL (by lia:z.length≤8),iP,iP]
 apply⟨ρ,z,rfl,?_⟩;have hsz:z.cps.size=z.cps.toList.length:=by simp
 apply comp_str (λi ys H2=>H2=H∧ys=(z.cps.toList.take i).map λc=>V.bl (decide (97≤c∧c≤122))) ⟨rfl,rfl⟩ (λi ys H2 hi ⟨e1,e2⟩=>?_) hz' (λi c ys H2 hx ⟨e1,e2⟩=>?_) (λys H2 ⟨e1,e2⟩ D hD=>?_)
 ·have:z.cps.toList.length=z.length:=by simp[iF]
  rw[e2,ae,aZ];lia
 ·subst e1
  apply jj ?_;apply⟨ρ,ς,rfl,?_⟩;have hx':z.cps.toList[i]? =some c:=by rw[iQ];exact hx
  rw[e2,bW,hx',ax,ltr_in];rfl
 ·subst e1
  rw[hsz,cD] at e2;apply⟨D,z.cps.toList.map λc=>decide (97≤c∧c≤122),rfl,SqL.of (by rw[aR,e2,b9];rfl),ρ,?_⟩;have e3:((z.cps.toList.map λc=>decide (97≤c∧c≤122)).all id)=nam z:=by rw[en,List.all_map];rfl
  rw[e3]
  by_cases hn:nam z=true
  ·rw[hn]
   exact lq rfl ⟨_,rfl,k1 _ hn (cB.put (cB.refl H2) hD)⟩
  ·rw[cU.mpr hn]
   exact qj rfl (k2 _ (cU.mpr hn) (cB.put (cB.refl H2) hD))
theorem ok_beatX {c:ao}(F:Fun K "read_beat" "read_beat" sBeatR f fd)(T:Nm mg)(TE:Exc K mg "NoText" c)(GW:Fn K mg "read_whole" sRead pzc f1 fd1)(FW:dz P w K mg base (CXN P w) 2 f1 fd1 pzc (o9 c)):dz P w K mg base (CXN P w) 3 f fd ["row"] (spBeatX c):=by
 apply F.okX scBeatR (by contradiction) (fun cdv A outer s H vs Q E hr XD h=>?_);obtain ⟨z,rfl,hz,k1,k2⟩:=h;apply ⟨_,dq (psZ 1 scBeatR.nd (jg bU ir iq nt (pv 0) (ah dC ay)))
  (dq (gC (PW.pt (mx (cf qh (b8 cF rfl T.len bu (ah (pv 1) ay)) aP (cN _)) (kX (cf qh (fK bX (pv 1) aP (fun _ _=>rfl)) dC (cN _))))) (bH (lR XD rfl TE dC)) cZ)
  (bH (cA (jq (ah dC (ah (pcX GW FW hr XD.pass (ah (fK bX (pv 1) aP (fun _ _=>rfl)) ay)) ay)))))),?_⟩
 have one:((sp_:Str).length == 0)=false:=by trivial
 apply⟨ρ,rfl,ς,one,cu (show _≤200000 by lia) ↥0,λL H1 S1 e1=>?_⟩;have e1:H1 L=some (.lst ((bD z sp_).map V.str)):=e1;have hsl:∀p∈bD z sp_,p.length≤100000:=λp hp=>cu (split_sp hp) hz
 have no:∀{ws:List Str},bD z sp_=ws→(∀x b,ws=[("beat" :Str),x]→rdW x≠some b)→∀b,¬RdB z b:=λe n b ⟨x,h1,h2⟩=>n x b (e.symm.trans h1) h2
 generalize hws:bD z sp_=ws at e1 hsl;apply⟨ρ,L,ρ,.inl (SqL.of e1),rfl,ρ,?_⟩;rw[ae]
 by_cases h2:ws.length=2
 case neg =>
  apply qj ?_ (k2 H1 (no hws λx b e=>qK (by rw[e];rfl) h2) S1);rw[qM λq=>h2 (by injection q with q;lia)];rfl
 match ws,h2 with
 | [w0,w1],_ =>
 apply lq (by show(!decide (V.int ((2:Nat):Int)=V.int 2))=false;decide) ?_;apply⟨ρ,L,τ,SqL.of e1,bp (j:=0) rfl,rfl,ρ,?_⟩
 by_cases h0:w0 = "beat"
 case neg =>
  apply qj ?_ (k2 H1 (no hws λx b e=>qK (by injection e) h0) S1);rw[qM λq=>h0 (by injection q)];rfl
 subst h0;apply lq ⇑0 ?_;apply⟨ρ,L,τ,SqL.of e1,bp (j:=1) rfl,w1,rfl,hsl w1 ∅,λb H2 hb S2=>?_,λH2 hn S2=>?_⟩
 ·exact⟨szZ2,λp H4 S4 e4=>k1 b p H4 ⟨w1,hws,hb⟩ (S1.trans (S2.trans S4)) e4⟩
 ·exact k2 H2 (no hws λx b e q=>by cases e;rw[hn] at q;cases q) (S1.trans S2)
theorem ok_lineX {c:ao}(F:Fun K "read_line" "read_line" sLineR f fd)(T:Nm mg)(TE:Exc K mg "NoText" c)(GN:Fn K mg "read_name" sNam pzc f1 fd1)(FN:dz P w K mg base (CXN P w) 1 f1 fd1 pzc (spNamX c))(GW:Fn K mg "read_whole" sRead pzc f2 fd2)(FW:dz P w K mg base (CXN P w) 2 f2 fd2 pzc (o9 c)):dz P w K mg base (CXN P w) 3 f fd ["words"] (spLineX c):=by
 apply F.okX scLineR (by contradiction) (fun cdv A outer s H vs Q E hr XD h=>?_);obtain ⟨L,ws,rfl,hL,few,hsl,k1,k2⟩:=h;have hr1:=hr.mono (show 1≤2 by lia);apply ⟨_,dq (gC (PW.pt (mx (cf op_lt (b8 cF rfl T.len bu (ah (pv 0) ay)) aP (cN _)) (kX (cf iW (c7 ow (b8 cF rfl T.len bu (ah (pv 0) ay)) aP) aP (cN _))))) (bH (lR XD rfl TE dC)) cZ)
  (dq (psZ 1 scLineR.nd (gJ mH rfl T.ttup boot_tuple (ah (oS (fr:=[]) (js:=[]) XD rfl (jo (pe_twoL (a:=2) (pv 0))) ⇑0 rfl ⇑0 rfl (by exists sLineR) ⇑0 rfl ⇑0 (fun _ _ _ _ _ hp=>⟨(pcX GN FN hr1 hp (ah (pv 0) ay)),ki⟩)) ay)))
  (dq (psZ 2 scLineR.nd (gJ mH rfl T.ttup boot_tuple (ah (oS (fr:=[]) (js:=[]) XD rfl (jo (pe_twoL (a:=3) (pv 0))) ⇑0 rfl ⇑0 rfl (by exists sLineR) ⇑0 rfl ⇑0 (fun _ _ _ _ _ hp=>⟨(pcX GW FW hr hp (ah (pv 0) ay)),ki⟩)) ay)))
  (bH (cA (jq (ah dC (ah (pcX GN FN hr1 XD.pass (ah (fK bX (pv 0) aP (fun _ _=>rfl)) ay)) (ah (pv 1) (ah (pv 2) ay))))))))),?_⟩
 have hlw:(ws.map V.str).length=ws.length:=ae _;have big:(200000:Nat)≤aA:=by decide
 apply⟨ρ,L,ρ,.inl (SqL.of hL),ς,ρ,?_⟩;rw[hlw];apply jC (λh5=>?_) (λh5=>?_)
 ·have h5:(ws.length:Int)<5:=qN h5
  exact k2 H (λn ss rs h=>by have:=h.five;lia) (cB.refl H)
 have h5:¬(ws.length:Int)<5:=λq=>h5 (qL q)
 apply⟨ρ,L,ρ,.inl (SqL.of hL),ς,(by show(0:Int)<2;decide),rfl,ρ,?_⟩;rw[hlw];apply jC (λho=>?_) (λho=>?_)
 ·have ho:((ws.length:Nat):Int) % 2=0:=by have:=qN ho;injection this
  exact k2 H (λn ss rs h=>by have:=h.odd;lia) (cB.refl H)
 have ho:¬((ws.length:Nat):Int) % 2=0:=λq=>ho (qL (qO V.int q))
 have w3:ws.length % 2=1:=by lia
 apply⟨ρ,L,ρ,SqL.of hL,by rw[hlw];lia,λD1 H1 S1 d1=>?_⟩;rw[←fH,←pR] at d1;have le2:(evs (ws.drop 2)).length≤200000:=by rw[evs_len,bK];lia
 have le3:(evs (ws.drop 3)).length≤200000:=by rw[evs_len,bK];lia
 have in2:∀z∈evs (ws.drop 2),z.length≤100000:=λz hz=>hsl z (hI (evs_mem hz))
 have in3:∀z∈evs (ws.drop 3),z.length≤100000:=λz hz=>hsl z (hI (evs_mem hz))
 apply⟨D1,rfl,⟨_,SqL.of d1⟩,?_⟩;apply j7 (K:=K) (a:=D1) (xs:=(evs (ws.drop 2)).map V.str) (λj zs H3=>cB H1 H3∧zs=((evs (ws.drop 2)).take j).map V.str∧∀z∈(evs (ws.drop 2)).take j,nam z=true) ⟨cB.refl _,rfl,λz h=>by cases h⟩ (λj zs H3 hj q=>?_) (by rw[ae];lia) (λj x zs H3 hx3 q=>?_) (λzs H3 q D hD=>?_)
 ·obtain⟨g1,g2,_⟩:=q
  apply⟨SqL.of (g1 _ _ d1),?_⟩;rw[g2,ae,aZ];lia
 ·obtain⟨g1,g2,g3⟩:=q
  rw[aE] at hx3;obtain⟨z,hn3,rfl⟩:=aY.mp hx3;have hm:=aC hn3;apply jj ?_;apply⟨ρ,z,rfl,in2 z hm,λH4 hz S4=>⟨g1.trans S4,?_,λy hy=>?_⟩,λH4 hz S4=>k2 H4 (λn ss rs h=>?_) (S1.trans (g1.trans S4))⟩
  ·rw[g2,bW,hn3,ax]
   rfl
  ·rw[bW,hn3] at hy
   rcases aL.mp hy with hy | hy
   ·exact g3 y hy
   ·rw[aB.mp hy];exact hz
  ·have:=h.sn z (by rw[←h.stops];exact hm)
   rw[hz] at this;cases this
 obtain⟨g1,g2,gn⟩:=q;rw[ae,cD] at g2 gn;apply⟨D,zs,rfl,SqL.of aR,λa H4 S4 e4=>?_⟩;rw[g2] at e4;have S5:cB H H4:=S1.trans (g1.trans (cB.trans (cB.put (cB.refl H3) hD) S4));apply⟨ρ,L,ρ,SqL.of (S5 _ _ hL),by rw[hlw];lia,λD2 H6 S6 d2=>?_⟩;rw[←fH,←pR] at d2;apply⟨D2,rfl,⟨_,SqL.of d2⟩,?_⟩;apply j7 (K:=K) (a:=D2) (xs:=(evs (ws.drop 3)).map V.str) (λj zs H3=>cB H6 H3∧∃is:List Int,zs=is.map V.int∧((evs (ws.drop 3)).take j).map rdW=is.map some) ⟨cB.refl _,[],rfl,rfl⟩ (λj zs H3 hj q=>?_) (by rw[ae];lia) (λj x zs H3 hx3 q=>?_) (λzs2 H7 q D' hD'=>?_)
 ·obtain⟨g1,is,g2,g3⟩:=q
  apply⟨SqL.of (g1 _ _ d2),?_⟩;have:=qO gu g3;rw[ae,ae,aZ] at this;rw[g2,ae];lia
 ·obtain⟨g1,is,g2,g3⟩:=q
  rw[aE] at hx3;obtain⟨z,hn3,rfl⟩:=aY.mp hx3;have hm:=aC hn3;apply jj ?_;apply⟨ρ,z,rfl,in3 z hm,λi H4 hi S4=>⟨g1.trans S4,is++[i],?_,?_⟩,λH4 hz S4=>k2 H4 (λn ss rs h=>?_) (S5.trans (S6.trans (g1.trans S4)))⟩
  ·rw[g2,ax];rfl
  ·rw[bW,hn3,ax,ax,g3]
   show is.map some++[rdW z]=_;rw[hi];rfl
  ·have:rdW z∈rs.map some:=by rw[←h.runs];exact eQ hm
   rw[hz] at this;obtain⟨i,_,e⟩:=aJ.mp this;cases e
 obtain⟨g3,is,g4,g5⟩:=q;rw[ae,cD] at g5;apply⟨D',zs2,rfl,SqL.of aR,λb H8 S8 e8=>?_⟩;rw[g4] at e8;have S9:cB H4 H8:=S6.trans (g3.trans (cB.trans (cB.put (cB.refl H7) hD') S8));have hn1:ws[1]? =some (ws[1]'⋯):=gE ⋯;generalize ws[1]'⋯=n at hn1;apply⟨ρ,L,τ,SqL.of (S9 _ _ (S5 _ _ hL)),bp (j:=1) (by rw[aE,hn1];rfl),n,rfl,hsl n (aC hn1),λH10 hn S10=>?_,λH10 hn S10=>k2 H10 (λn' ss rs h=>?_) (S5.trans (S9.trans S10))⟩
 ·exact⟨ρ,ρ,szZ4,λp H11 S11 e11=>k1 n _ is p a b H11 ⟨⋯,w3,hn1,rfl,g5,hn,gn⟩ (S5.trans (S9.trans (S10.trans S11))) ((S9.trans (S10.trans S11)) _ _ e4) ((S10.trans S11) _ _ e8) e11⟩
 ·have q:=h.name
  rw[hn1] at q;cases q;have:=h.nn;rw[hn] at this;cases this
theorem RdR.oth_of {w0:Str}(h:RdR (w0::wt) r)(n:w0 ≠ "line"):∃ns is xs,r= .oth w0 ns is∧wt=ns++xs∧(w0,ns.length,is.length)∈fms∧(∀z∈ns,nam z=true)∧xs.map rdW=is.map some:=by
 cases r with
 | beat b=>exact h.elim
 | line n' ss rs=>exact qK (bF h.1) n
 | oth k ns is =>
  obtain⟨xs,e,h1,h2,h3⟩:=h;obtain⟨rfl,rfl⟩:=gX e;exact⟨ns,is,xs,rfl,rfl,h1,h2,h3⟩
theorem RdR.line_of (h:RdR (("line" :Str)::wt) r):∃n ss rs,r= .line n ss rs∧LnX (("line" :Str)::wt) n ss rs:=by
 cases r with
 | beat b=>exact h.elim
 | line n ss rs=>exact⟨n,ss,rs,rfl,h.2⟩
 | oth k ns is =>
  obtain⟨xs,e,h1,h2,h3⟩:=h;obtain⟨rfl,rfl⟩:=gX e;exact qK h1 fms_line
theorem ok_rowX {f3 c:ao}{fd3:aU}(F:Fun K "read_row" "read_row" sRowR f fd)(T:Nm mg)(M:Fms P w K mg)(TE:Exc K mg "NoText" c)(GN:Fn K mg "read_name" sNam pzc f1 fd1)(FN:dz P w K mg base (CXN P w) 1 f1 fd1 pzc (spNamX c))(GW:Fn K mg "read_whole" sRead pzc f2 fd2)(FW:dz P w K mg base (CXN P w) 2 f2 fd2 pzc (o9 c))
  (GL:Fn K mg "read_line" sLineR ["words"] f3 fd3) (FL:dz P w K mg base (CXN P w) 3 f3 fd3 ["words"] (spLineX c)):dz P w K mg base (CXN P w) 4 f fd ["row"] (spRowX c):=by
 apply F.okX scRowR (by contradiction) (fun cdv A outer s H vs Q E hr XD h=>?_);obtain ⟨z,rfl,hz,k1,k2⟩:=h;have hr1:=hr.mono (show 1≤3 by lia);have hr2:=hr.mono (show 2≤3 by lia);obtain ⟨aF,kvs,hF,D,fm⟩:=M.any;apply ⟨_,dq (psZ 1 scRowR.nd (jg bU ir iq nt (pv 0) (ah dC ay)))
  (dq (gC (cf iW (fK bX (pv 1) aP (fun _ _=>rfl)) dC (cN _)) (bH (cA (pcX GL FL hr XD.pass (ah (pv 1) ay)))) cZ)
  (dq (gC (pt_cmp (pc_dnotinK D (fK bX (pv 1) aP (fun _ _=>rfl)) (kj (v:= .ref aF) rfl hF rfl)) rfl) (bH (lR XD rfl TE dC)) cZ)
  (dq (psZ 2 scRowR.nd (pe_dgetK D (kj (v:= .ref aF) rfl hF rfl) (fK bX (pv 1) aP (fun _ _=>rfl)) (fun _ _=>rfl)))
  (dq (psZ 3 scRowR.nd (c7 gx aP (ixZ (pv 2))))
  (dq (gC (cf qh (b8 cF rfl T.len bu (ah (pv 1) ay)) (c7 gx (pv 3) (ixZ (pv 2))) (cN _)) (bH (lR XD rfl TE dC)) cZ)
  (dq (ps_setCX (iy:=4) (fr:=[]) (js:=[]) scRowR.nd rfl (.inl rfl) XD rfl (jo (fq iC (pv 1) (fZ aP) (fZ (pv 3)))) ⇑0 rfl ⇑0 rfl (by exists sRowR) ⇑0 rfl ⇑0 (fun _ _ _ _ _ hp=>⟨(pcX GN FN hr1 hp (ah (pv 0) ay)),ki⟩))
  (bH (cA (gJ mH rfl T.ttup boot_tuple (ah (c7 iX (c7 iX (fq iC (pv 1) hZ (fZ aP)) (pv 4)) (oS (fr:=[]) (js:=[]) XD rfl (jo (fq iC (pv 1) (fZ (pv 3)) hZ)) ⇑0 rfl ⇑0 rfl (by exists sRowR) ⇑0 rfl ⇑0 (fun _ _ _ _ _ hp=>⟨(pcX GW FW hr2 hp (ah (pv 0) ay)),ki⟩))) ay)))))))))),?_⟩
 have one:((sp_:Str).length == 0)=false:=by trivial
 apply⟨ρ,rfl,ς,one,cu (show _≤200000 by lia) ↥0,λL H1 S1 e1=>?_⟩;have e1:H1 L=some (.lst ((bD z sp_).map V.str)):=e1;have hsl:∀p∈bD z sp_,p.length≤100000:=λp hp=>cu (split_sp hp) hz
 have hne:bD z sp_≠[]:=by rw[nV];exact mZ z 32
 have hmany:(bD z sp_).length≤100001:=by rw[nV];exact cu ql ⋯
 generalize bD z sp_=ws at e1 hsl hne hmany k1 k2
 match ws,hne with
 | w0::wt,_ =>
 apply⟨ρ,L,τ,SqL.of e1,bp (j:=0) rfl,rfl,ρ,?_⟩
 by_cases h0:w0 = "line"
 ·subst h0
  rw[show decide (V.str "line" =V.str "line")=true from by trivial];apply iteT ?_;apply⟨ρ,L,ρ,e1,hmany,hsl,λn ss rs p a b H2 W S2 g1 g2 g3=>k1 (.line n ss rs) p H2 ⟨rfl,W⟩ (S1.trans S2) ⟨a,b,g1,g2,g3⟩,λH2 no S2=>k2 H2 (λr h=>?_) (S1.trans S2)⟩;obtain⟨n,ss,rs,rfl,W⟩:=h.line_of;exact no n ss rs W
 apply lq (qM λz=>h0 (by injection z)) ?_
 rcases fm w0 with ⟨hv,hno⟩ | ⟨ka,kb,t,hf,ht,hq⟩
 ·apply⟨ρ,L,τ,SqL.of e1,bp (j:=0) rfl,.inr w0,rfl,ρ,qj (by rw[hv];rfl) ?_⟩
  apply k2 H1 (λr h=>?_) S1;obtain⟨ns,is,xs,rfl,rfl,h1,_⟩:=h.oth_of h0;exact hno _ _ h1
 have few:=fms_few hf;have big:(200000:Nat)≤aA:=by decide
 have hlen:((w0::wt).map V.str).length=1+wt.length:=by rw[ae,az];lia
 apply⟨ρ,L,τ,SqL.of e1,bp (j:=0) rfl,.inr w0,rfl,ρ,lq (by rw[ht];rfl) ?_⟩;apply⟨ρ,L,τ,SqL.of e1,bp (j:=0) rfl,.inr w0,ρ,ht,?_⟩;apply⟨ρ,t,τ,hq H1,bp (j:=0) rfl,ς,?_⟩;apply⟨ρ,L,ρ,.inl (SqL.of e1),ρ,ρ,t,τ,hq H1,bp (j:=1) rfl,ς,rfl,ρ,?_⟩
 by_cases hl:wt.length=ka+kb
 case neg =>
  apply qj ?_ (k2 H1 (λr h=>?_) S1)
  ·rw[hlen,qM λq=>hl (by injection q with q;lia)];rfl
  ·obtain⟨ns,is,xs,rfl,rfl,h1,_,h3⟩:=h.oth_of h0
   obtain⟨rfl,rfl⟩:=pP h1 hf;have:=qO gu h3;rw[ae,ae] at this;rw[aq,this] at hl;exact hl rfl
 apply lq (by rw[hlen,qL (by congr 1;lia)];rfl) ?_;have bad1:∀y∈wt.take ka,nam y=false→∀r,¬RdR (w0::wt) r:=λy hy hn r h=>by
  obtain⟨ns,is,xs,rfl,rfl,h1,h2,_⟩:=h.oth_of h0;obtain⟨rfl,rfl⟩:=pP h1 hf;rw[List.take_left' rfl] at hy;rw[h2 y hy] at hn;cases hn
 have bad2:∀y∈wt.drop ka,rdW y=none→∀r,¬RdR (w0::wt) r:=λy hy hn r h=>by
  obtain⟨ns,is,xs,rfl,rfl,h1,_,h3⟩:=h.oth_of h0;obtain⟨rfl,rfl⟩:=pP h1 hf;rw[List.drop_left' rfl] at hy;have:rdW y∈is.map some:=by rw[←h3];exact eQ hy
  rw[hn] at this;obtain⟨i,_,e⟩:=aJ.mp this;cases e
 apply⟨ρ,ρ,ρ,ρ,L,ρ,SqL.of e1,λD1 H2 S2 d1=>?_⟩;rw[cutA (i:=1) (j:=1+(ka:Int)) (m:=1) (n:=1+ka) rfl ⋯ (by rw[hlen];lia) (by rw[hlen];lia)] at d1;have d1:H2 D1=some (.lst ((wt.take ka).map V.str)):=by
  rw[d1,Nat.add_sub_cancel_left,kC];rfl
 have lt:(wt.take ka).length≤10:=by rw[aZ];lia
 apply⟨D1,rfl,⟨_,SqL.of d1⟩,?_⟩;apply j7 (K:=K) (a:=D1) (xs:=(wt.take ka).map V.str) (λj zs H3=>cB H2 H3∧zs=((wt.take ka).take j).map V.str∧∀y∈(wt.take ka).take j,nam y=true) ⟨cB.refl _,rfl,λy h=>by cases h⟩ (λj zs H3 hj q=>?_) (by rw[ae];lia) (λj x zs H3 hx3 q=>?_) (λzs H3 q DD hD=>?_)
 ·obtain⟨g1,g2,_⟩:=q
  apply⟨SqL.of (g1 _ _ d1),?_⟩;rw[g2,ae,aZ];lia
 ·obtain⟨g1,g2,g3⟩:=q
  rw[aE] at hx3;obtain⟨y,hn3,rfl⟩:=aY.mp hx3;have hm:=aC hn3;apply jj ?_;apply⟨ρ,y,rfl,hsl y (aH _ (g9 hm)),λH4 hn S4=>⟨g1.trans S4,?_,λu hu=>?_⟩,λH4 hn S4=>k2 H4 (bad1 y hm hn) (S1.trans (S2.trans (g1.trans S4)))⟩
  ·rw[g2,bW,hn3,ax]
   rfl
  ·rw[bW,hn3] at hu
   rcases aL.mp hu with hu | hu
   ·exact g3 u hu
   ·rw[aB.mp hu];exact hn
 obtain⟨g1,g2,gn⟩:=q;rw[ae,cD] at g2 gn;have S5:cB H1 (upd H3 DD (.lst zs)):=S2.trans (g1.trans (cB.put (cB.refl H3) hD));generalize hH:upd H3 DD (.lst zs)=H5 at S5;have d5:H5 DD=some (.lst ((wt.take ka).map V.str)):=by rw[←hH,aR,g2]
 have e5:=S5 _ _ e1;apply⟨ρ,ρ,L,ρ,SqL.of e5,λD2 H6 S6 d6=>?_⟩;rw[cutU (i:=1) (n:=1) rfl] at d6;have d6:H6 D2=some (.lst [V.str w0]):=d6;apply⟨ρ,D2,DD,ς,d6,S6 _ _ d5,(by rw[ae];show 1+(wt.take ka).length≤aA;lia),λD3 H7 S7 d7=>?_⟩;have e7:=(S6.trans S7) _ _ e5;apply⟨ρ,ρ,ρ,L,ρ,SqL.of e7,λD4 H8 S8 d8=>?_⟩;rw[cutF (i:=1+(ka:Int)) (n:=1+ka) ⋯] at d8;have d8:H8 D4=some (.lst ((wt.drop ka).map V.str)):=by
  rw[d8,Nat.add_comm 1 ka,bw,List.drop_succ_cons,fH]
 have ld:(wt.drop ka).length=kb:=by rw[bK];lia
 apply⟨D4,rfl,⟨_,SqL.of d8⟩,?_⟩;apply j7 (K:=K) (a:=D4) (xs:=(wt.drop ka).map V.str) (λj zs H3=>cB H8 H3∧∃is:List Int,zs=is.map V.int∧((wt.drop ka).take j).map rdW=is.map some) ⟨cB.refl _,[],rfl,rfl⟩ (λj zs H3 hj q=>?_) (by rw[ae];lia) (λj x zs H3 hx3 q=>?_) (λzs2 H9 q D' hD'=>?_)
 ·obtain⟨g1,is,g2,g3⟩:=q
  apply⟨SqL.of (g1 _ _ d8),?_⟩;have:=qO gu g3;rw[ae,ae,aZ] at this;rw[g2,ae];lia
 ·obtain⟨g1,is,g2,g3⟩:=q
  rw[aE] at hx3;obtain⟨y,hn3,rfl⟩:=aY.mp hx3;have hm:=aC hn3;apply jj ?_;apply⟨ρ,y,rfl,hsl y (aH _ (hI hm)),λi H4 hi S4=>⟨g1.trans S4,is++[i],?_,?_⟩,λH4 hn S4=>k2 H4 (bad2 y hm hn) (S1.trans (S5.trans (S6.trans (S7.trans (S8.trans (g1.trans S4))))))⟩
  ·rw[g2,ax];rfl
  ·rw[bW,hn3,ax,ax,g3]
   show is.map some++[rdW y]=_;rw[hi];rfl
 obtain⟨g3,is,g4,g5⟩:=q;rw[ae,cD] at g5;have lis:is.length=kb:=by
  have:=qO gu g5;rw[ae,ae] at this;lia
 have S10:cB H7 (upd H9 D' (.lst zs2)):=S8.trans (g3.trans (cB.put (cB.refl H9) hD'));have d10:=S10 _ _ d7;apply⟨D3,D',ς,d10,(by rw[aR]),(by rw[g4,aq,ae,ae];show 1+(wt.take ka).length+is.length≤aA;lia),λD5 H11 S11 d11=>?_⟩;apply⟨D5,ρ,SqL.of d11,λp H12 S12 d12=>k1 (.oth w0 (wt.take ka) is) p H12 ⟨wt.drop ka,by rw[eV],?_,gn,g5⟩ (S1.trans (S5.trans (S6.trans (S7.trans (S10.trans (S11.trans S12)))))) ?_⟩
 ·rw[aZ,dA ⋯,lis];exact hf
 ·show H12 p=some (.tup (.str w0::((wt.take ka).map V.str++is.map V.int)))
  rw[d12,g4];rfl
theorem ok_planX {c:ao}(F:Fun K "read_plan" "read_plan" sPlanR f fd)(T:Nm mg)(T2:Nm2 mg)(TE:Exc K mg "NoText" c)(GB:Fn K mg "read_beat" sBeatR ["row"] f1 fd1)(FB:dz P w K mg base (CXN P w) 3 f1 fd1 ["row"] (spBeatX c))(GR:Fn K mg "read_row" sRowR ["row"] f2 fd2)(FR:dz P w K mg base (CXN P w) 4 f2 fd2 ["row"] (spRowX c)) :
  dz P w K mg base (CXN P w) 5 f fd pzd (spPlanX c):=by
 apply F.okX scPlanR (by contradiction) (fun cdv A outer s H vs Q E hr XD h=>?_);obtain ⟨v,Ty,rfl,hT,kno,kyes⟩:=h;have hr3:=hr.mono (show 3≤4 by lia);apply ⟨_,dq (gC (me (kH (pe_isStr T T2 (pv 0)))) (bH (lR XD rfl TE dC)) cZ)
  (dq (psZ 1 scPlanR.nd (jg bU ir iq nt (pv 0) (ah dC ay)))
  (bH (cA (c7 iX (ij (ah (pcX GB FB hr3 XD.pass (ah (fK bX (pv 1) aP (fun _ _=>rfl)) ay)) ay)) (oS (fr:=[]) (js:=[]) XD rfl (jo (fq iC (pv 1) (fZ aP) hZ)) ⇑0 rfl ⇑0 rfl (by exists sPlanR) ⇑0 rfl ⇑0 (fun _ _ _ _ _ hp=>⟨(pcX GR FR hr hp (ah (pv 0) ay)),ki⟩)))))),?_⟩
 have one:((nl_:Str).length == 0)=false:=by trivial
 have big:(200000:Nat)≤aA:=by decide
 apply⟨ρ,_,Ty,rfl,hT,ρ,?_⟩
 by_cases hs:∃z,v= .str z
 case neg =>
  apply qj ?_ (kno (λz e=>hs ⟨z,e⟩) H (cB.refl H));cases v with
  | str z=>exact qK ⟨z,rfl⟩ hs
  | ref a =>
   simp only[tyn] at hT;cases q:H a with
   | none=>rw[q] at hT;cases hT
   | some o=>rw[q] at hT;cases o <;> first | (cases hT;decide) | cases hT
  | non=>cases hT;decide
  | bl b=>cases hT;decide
  | int i=>cases hT;decide
  | _=>first | (cases hT;decide) | cases hT
 obtain⟨z,rfl⟩:=hs;cases hT;obtain⟨hz,k1,k2⟩:=kyes z rfl;apply lq ↥0 ?_;apply⟨ρ,rfl,ς,one,cu (show _≤200000 by lia) ↥0,λL H1 S1 e1=>?_⟩;have e1:H1 L=some (.lst ((bD z nl_).map V.str)):=e1;have hsl:∀p∈bD z nl_,p.length≤100000:=λp hp=>cu (split_nl hp) hz
 have hne:bD z nl_≠[]:=by rw[nl_eq];exact mZ z 10
 have hmany:(bD z nl_).length≤100001:=by rw[nl_eq];exact cu ql ⋯
 generalize hws:bD z nl_=ws at e1 hsl hne hmany
 match ws,hne with
 | z0::zr,_ =>
 apply⟨ρ,L,τ,SqL.of e1,bp (j:=0) rfl,z0,rfl,hsl z0 ∅,λb p0 H2 hb S2 e2=>?_,λH2 hn S2=>?_⟩
 case refine_2 =>
  apply k2 H2 (λb rs h=>?_) (S1.trans S2);obtain⟨y0,yr,e,h1,_⟩:=h;rw[hws] at e;obtain⟨rfl,rfl⟩:=gX e;exact hn b h1
 apply⟨szZ1,λD0 H3 S3 d3=>?_⟩;have S13:=S2.trans S3;apply⟨ρ,ρ,L,ρ,SqL.of (S13 _ _ e1),λD1 H4 S4 d4=>?_⟩;rw[cutF (i:=1) (n:=1) rfl] at d4;have d4:H4 D1=some (.lst (zr.map V.str)):=d4;rw[az] at hmany;apply⟨D1,rfl,⟨_,SqL.of d4⟩,?_⟩;apply j7 (K:=K) (a:=D1) (xs:=zr.map V.str) (λj zs H5=>cB H4 H5∧∃rs:List PR,rs.length=j∧RsAt H5 zs rs∧∀(i:Nat) (x:Str) (r:PR),zr[i]? =some x→rs[i]? =some r→RdR (bD x sp_) r) ⟨cB.refl _,[],rfl,⟨rfl,λi r e=>nomatch e⟩,λi x r _ e=>nomatch e⟩ (λj zs H5 hj q=>?_) (by rw[ae];lia) (λj x zs H5 hx q=>?_) (λzs H5 q D hD=>?_)
 ·obtain⟨g1,rs,g2,g3,_⟩:=q
  apply⟨SqL.of (g1 _ _ d4),?_⟩;rw[g3.len];lia
 ·obtain⟨g1,rs,g2,g3,g4⟩:=q
  rw[aE] at hx;obtain⟨y,hy,rfl⟩:=aY.mp hx;apply jj ?_;apply⟨ρ,y,rfl,hsl y (aH _ (aC hy)),λr p H6 hr6 S6 e6=>⟨g1.trans S6,rs++[r],by rw[aq,g2];rfl,(g3.kept S6).snoc e6,λi x r' hx' hr'=>?_⟩,λH6 hn S6=>k2 H6 (λb' rs' h=>?_) (S1.trans (S13.trans (S4.trans (g1.trans S6))))⟩
  ·by_cases hi:i<rs.length
   ·rw[bI hi] at hr'
    exact g4 i x r' hx' hr'
   ·have hl:=(ai.mp hr').1
    rw[aq,dw] at hl;have e0:i=rs.length:=by lia
    rw[e0,bh (aD _),gp] at hr';cases hr';rw[e0,g2,hy] at hx';cases hx';exact hr6
  ·obtain⟨y0,yr,e,_,hl,h4⟩:=h
   rw[hws] at e;obtain⟨rfl,rfl⟩:=gX e;have hj:=(ai.mp hy).1;exact hn _ (h4 j y _ hy (gE ⋯))
 obtain⟨g1,rs,g2,g3,g4⟩:=q;rw[ae] at g2;have S7:cB H5 (upd H5 D (.lst zs)):=cB.put (cB.refl H5) hD;have S8:cB H3 (upd H5 D (.lst zs)):=S4.trans (g1.trans S7);have hl:=g3.len;apply⟨D0,D,ς,S8 _ _ d3,(by rw[aR]),(by show 1+zs.length≤aA;lia),λp H9 S9 e9=>?_⟩;exact k1 b rs p _ H9 ⟨z0,zr,hws,hb,g2.symm,g4⟩ (S1.trans (S13.trans (S8.trans S9))) e9 (((g3.kept S7).kept S9).cons (show PR.at H9 p0 (.beat b) from (S3.trans (S8.trans S9)) _ _ e2))
end HN
namespace L2
open PySem PySem.Spec PyProof.Rows
section
open Builtin.Str in
theorem gives_rep1 (x y z:Str)(t u v k:Tok)(h0:(u == 0 || v == 0)=false)(huv:(u == v)=false)(hyz:(y == z)=false)(hy:(y.length == 0)=false)
  (hc:(occurrences x y 0 x.length 1).isEmpty=false) (hl:tooLong (x.length+(occurrences x y 0 x.length 1).length * z.length)=false) :
  Gives (ee.«str.replace» ⟨[.str x t,.str y u,.str z v,.int 1 k],[]⟩) (.str (glued z (partsBetween x (occurrences x y 0 x.length 1) y.length))):=by
 show Gives (countLimit "str.replace" (some (.int 1 k)) (x.length+1) >>= λlimit=>if ((occurrences x y 0 x.length limit).isEmpty || (y.length == 0 && z.length == 0))=true then (rule "str.replace.nothing" >>= λ_=>ret (.str x t)) else (isSame (.str y u) (.str z v) >>= λsame=>if same=true then (rule "str.replace.old-is-new" >>= λ_=>ret (.str x t)) else if tooLong (x.length+(occurrences x y 0 x.length limit).length * z.length)=true then unsupported "str.replace:memory" else retStr (glued z (partsBetween x (occurrences x y 0 x.length limit) y.length)))) _;rw[countLimit_int "str.replace" 1 k (x.length+1) ↥0];show Gives (if ((occurrences x y 0 x.length 1).isEmpty || (y.length == 0 && z.length == 0))=true then (rule "str.replace.nothing" >>= λ_=>ret (.str x t)) else (isSame (.str y u) (.str z v) >>= λsame=>if same=true then (rule "str.replace.old-is-new" >>= λ_=>ret (.str x t)) else if tooLong (x.length+(occurrences x y 0 x.length 1).length * z.length)=true then unsupported "str.replace:memory" else retStr (glued z (partsBetween x (occurrences x y 0 x.length 1) y.length)))) _;rw[hc,hy,isSame_str_other y z u v h0 huv hyz,hl];exact .of_eq rfl
open Builtin.Str in
theorem rep1_is (h:c∈x.cps.toList):∃a b,x.cps.toList=a++c::b∧(occurrences x ⟨#[c]⟩ 0 x.length 1).isEmpty=false∧(occurrences x ⟨#[c]⟩ 0 x.length 1).length≤1∧(glued z (partsBetween x (occurrences x ⟨#[c]⟩ 0 x.length 1) 1)).cps.toList=a++(z.cps.toList++b):=by
 have hf:=StrLaws.found_one x c;rw[qL h] at hf;have he:(occurrences x ⟨#[c]⟩ 0 x.length 1).isEmpty=false:=by simpa using hf
 have hn:=StrLaws.occ_length_le x ⟨#[c]⟩ 0 x.length 1
 rcases StrLaws.occ_head x ⟨#[c]⟩ 1 (aD 1) with ⟨e,_⟩ | ⟨i,r,e,hi,_⟩
 ·rw[e] at he;cases he
 rw[e] at hn he ⊢;cases r with
 | cons j r=>simp at hn
 | nil =>
 have hm:=(StrLaws.subAt_one x c i).mp hi;have hil:=(ai.mp hm);obtain⟨hl,hv⟩:=hil;apply⟨x.cps.toList.take i,x.cps.toList.drop (i+1),?_,he,aD 1,?_⟩
 ·rw[←hv,List.getElem_cons_drop,eV]
 ·rw[dW]
  show(strSub x 0 i++z++strSub x (i+1) x.length).cps.toList=_;rw[j9,j9,ie,ie,StrLaws.strSub_toList,StrLaws.strSub_toList,List.drop_zero,Nat.sub_zero,hV];have e2:(x.cps.toList.drop (i+1)).take (x.length - (i+1))=x.cps.toList.drop (i+1):=eM (by simp[iF]);rw[e2]
theorem var_same (hN:X.N[i]? =some x)(hv:Vis X.env.scope x)(I:Inv X aI σ H s)(e:σ[i]? =some (some v))(h:∀u,iG v u→Q u s)
  (hd:autoParam ((x == ("__debug__" :Str))=false) L2.au1._auto_1) (hcd:autoParam ((x == ("__classdict__" :Str))=false) L2.au1._auto_1):aT (bB X.prog X.w) X.A (dU (.Name x pos) X.env) Q X.xe s:=by
 obtain⟨m,hn,hl⟩:=I.loc;obtain⟨u,r,l⟩:=hl i x v hN e hv;have fin:=h u r
 rcases l with ⟨hk,hm⟩ | ⟨hk,c,hc,kQ⟩
 ·exact wpAny_Name (wpAny_loadName_local I.ok.kind hk hn hm fin) hd
 ·rcases hk with hk | hk
  ·exact wpAny_Name (wpAny_loadName_cell I.ok.kind hk hc kQ fin) hd
  ·exact wpAny_Name (wpAny_loadName_free I.ok.kind hk hc kQ fin hcd) hd
def tRep1 (i j c:Nat)(z:Str):TS:=λD σ H=>∃n:Int,σ[i]? =some (some (.int n))∧∃x:Str,σ[j]? =some (some (.str x)) ∧
 (if n=0 then c∈x.cps.toList∧x.length+z.length≤aA∧∀(y:Str) (a b:List Nat),x.cps.toList=a++c::b→y.cps.toList=a++(z.cps.toList++b)→D.rt (.str y) H else D.nx σ H)
theorem ps_rep1 {k1 k2 k3 k4:Nat}{xi xj:Str}{p1 p3 p4 p5 p6 p7 p8:Pos}(hi:X.N[i]? =some xi)(vi:Vis X.env.scope xi)(hj:X.N[j]? =some xj)(vj:Vis X.env.scope xj)(hz:((⟨#[c]⟩:Str) == z)=false)
  (hdi:autoParam ((xi == ("__debug__" :Str))=false) L2.au1._auto_1) (hci:autoParam ((xi == ("__classdict__" :Str))=false) L2.au1._auto_1) (hdj:autoParam ((xj == ("__debug__" :Str))=false) L2.au1._auto_1) (hcj:autoParam ((xj == ("__classdict__" :Str))=false) L2.au1._auto_1)
  (hline:autoParam ((apos.endLine == cpos.line)=true) L2.au0._auto_1) :
  PS X (.If (.Compare (.Name xi p1) [.Eq] [.Constant (.int 0) k1 p2] p3) [.Return (some (.Call (.Attribute (.Name xj p4) "replace" apos) [.Constant (.str ⟨#[c]⟩) k2 p5,.Constant (.str z) k3 p6,.Constant (.int 1) k4 p7] [] cpos)) p8] [] pos) (tRep1 i j c z):=by
 intro aI s σ H D I h;obtain⟨n,en,x,ex,h⟩:=h;apply wpAny_If (wpAny_isTrue_Compare1 (var_same hi vi I en (λu ru=>?_) hdi hci) (cN _));obtain⟨t,rfl⟩:=(show ∃t,u=af.int n t from ru);apply wpAny_Constant_int (eq_int (gM ?_))
 by_cases h0:n=0
 ·subst h0
  rw[qJ rfl] at h;obtain⟨hm,hs,q⟩:=h;have I1:Inv X aI σ H { s with toks:=s.toks+1 }:=I.tok _;apply wpAny_execs_cons (wpAny_Return_some (wpAny_Call_method_late rfl rfl hline rfl (var_same hj vj I1 ex (λu ru=>?_) hdj hcj)));obtain⟨h1,h2⟩:=tyV_is (T := "str") I1 ru rfl;obtain⟨t2,rfl⟩:=(show ∃t,u=af.str x t from ru);apply⟨"str","str.replace",bU,F.slot_str_replace,F.type_str_replace,h1,h2,?_⟩;apply gL rfl (gZ (gd (wpAny_Constant_str (k:=k2) (pos:=p5) (gd (wpAny_Constant_str (k:=k3) (pos:=p6) (gd (wpAny_Constant_int (k:=k4) (pos:=p7) (jW ?_))))))));obtain⟨a,b,e,he,hn,hg⟩:=rep1_is (z:=z) hm;have hb:ee.Str.tooLong (x.length+(cg x ⟨#[c]⟩ 0 x.length 1).length * z.length)=false:=by
   have:(cg x ⟨#[c]⟩ 0 x.length 1).length * z.length≤1 * z.length:=kL _ hn;unfold ee.Str.tooLong;exact qM ⋯
  apply call_gives F.slot_str_replace (typeIs_str _ _ _) F.entry_str_replace (F.args_str_replace_4 _ _ _ _) (gives_rep1 x ⟨#[c]⟩ z _ _ _ _ ?_ ?_ hz rfl he hb) ⟨?_,?_⟩
  ·simp
  ·simp
  ·have l1:=qO gu hg
   have l2:=qO gu e;simp only[aq,az,eP] at l1 l2;show Array.size (ee.Str.glued z (fV x (cg x ⟨#[c]⟩ 0 x.length 1) 1)).cps≤aA;have l3:x.length=x.cps.size:=rfl;have l4:z.length=z.cps.size:=rfl;lia
  ·exact⟨.str _,σ,H,I.tok _,⟨ρ⟩,q _ a b e hg⟩
 ·rw[qI h0] at h
  have hb:(n == 0)=false:=by simpa using h0
  rw[hb];exact wpAny_execs_nil ⟨σ,H,I.tok _,h⟩
def timesT (z:Str)(n:Int):Str:=⟨(jX n.toNat z.cps).foldl (· ++ ·) #[]⟩
theorem qx:OpR X (ip .Mult) (λx y H Q=>∃(z:Str) (n:Int),x= .str z∧y= .int n∧2≤n∧n≤1000∧1≤z.length∧z.length≤1000∧(timesT z n).length≤aA∧Q (.str (timesT z n)) H):=by
 intro aI s σ H x y v u Q I rx ry h;obtain⟨z,n,rfl,rfl,h2,h3,h1,hs,hf,q⟩:=h;obtain⟨t,rfl⟩:=(show ∃t,v=af.str z t from rx);obtain⟨t',rfl⟩:=(show ∃t,u=af.int n t from ry);apply P.mul_str (by rw[qM ⋯,qM ⋯];rfl) (λ_ _=>?_) (λ_ _=>?_) ?_
 ·have:1000≤((2:Int) ^ 63 - 1) / n:=Int.le_ediv_of_mul_le ⋯ ⋯
  lia
 ·have:z.length * n.toNat≤1000 * 1000:=Nat.mul_le_mul hs ⋯
  exact qM (by have:aA=16777216:=sizeLine_eq;lia)
 ·rw[qI ⋯,qI]
  ·exact⟨hf,.str _,H,I.tok _,⟨ρ⟩,q⟩
  ·have a:(n == 1)=false:=by simp;lia
   have b:(z.length == 0)=false:=by simp;lia
   rw[a,b];decide
end
end L2
namespace HN
open PySem L2 PyProof.Rows HT2
theorem tj (g:Str)(ys:List Str):dF g ys=cV g ys:=dW _ _
theorem app_asc (a b c:Str):a++b++c=a++(b++c):=mr (by rw[iK,iK,iK,iK,hV])
 where iK (a b:Str):(a++b).cps.toList=a.cps.toList++b.cps.toList:=by rw[j9,ie]
theorem iK (a b:Str):(a++b).cps.toList=a.cps.toList++b.cps.toList:=by rw[j9,ie]
theorem lW (g:Str):∀{as bs:List Str},as≠[]→bs≠[]→cV g (as++bs)=cV g as++g++cV g bs
 | [],_,h,_=>qK rfl h
 | [a],[],_,h=>qK rfl h
 | [a],b::bs,_,_=>rfl
 | a::a'::r,bs,_,hb=>by
  show a++g++cV g (a'::r++bs)=a++g++cV g (a'::r)++g++cV g bs;rw[lW g (as:=a'::r) ∅ hb];simp only[app_asc]
def md (ws:List Str):Prop:=∃k t,ws=k::t∧nam k=true∧((k = "line" ∧ws.length % 2=1)∨∃a b,(k,a,b)∈fms∧ws.length=1+a+b)∧∀x∈t,nam x=true∨gb x=true
theorem evs_or {x:Str}:∀{l:List Str},x∈l→x∈evs l∨x∈evs l.tail
 | [],h=>qK h ∅
 | [_],h=> .inl h
 | a::b::r,h=>by
  rcases aw.mp h with rfl | h
  ·exact .inl aW
  ·rcases aw.mp h with rfl | h
   ·right
    show x∈evs (x::r);cases r with
    | nil=>exact aW
    | cons y r=>exact aW
   ·rcases evs_or h with h | h
    ·exact .inl (aH _ h)
    ·right
     show x∈evs (b::r);cases r with
     | nil=>cases h
     | cons y r=>exact aH _ h
theorem fms_nam {k:Str}{a b:Nat}(h:(k,a,b)∈fms):nam k=true:=by
 unfold fms at h;simp only[aw,aO,or_false,gH] at h
 rcases h with ⟨rfl,_⟩ | ⟨rfl,_⟩ | ⟨rfl,_⟩ | ⟨rfl,_⟩ <;> decide +kernel
theorem rdW_in {xs:List Str}(h:xs.map rdW=is.map some):∀x∈xs,gb x=true:=λx hx=>by
 have:rdW x∈is.map some:=by rw[←h];exact eQ hx
 obtain⟨i,_,e⟩:=aJ.mp this;exact pj e.symm
theorem RdR.form (h:RdR ws r):md ws:=by
 cases ws with
 | nil =>
  cases r with
  | beat b=>exact h.elim
  | line n ss rs=>cases h.1
  | oth k ns is=>obtain⟨xs,e,_⟩:=h;cases e
 | cons w0 wt =>
  by_cases h0:w0 = "line"
  ·subst h0
   obtain⟨n,ss,rs,rfl,W⟩:=h.line_of;apply⟨_,ρ,by trivial,.inl ⟨rfl,W.odd⟩,λx hx=>?_⟩;cases wt with
   | nil=>cases hx
   | cons w1 wt =>
    rcases aw.mp hx with rfl | hx
    ·have:=W.name
     cases this;exact .inl W.nn
    ·rcases evs_or hx with q | q
     ·exact .inl (W.sn x (by rw[←W.stops];exact q))
     ·apply .inr (rdW_in W.runs x ?_)
      show x∈evs (wt.drop 1);rw[List.drop_one];exact q
  ·obtain⟨ns,is,xs,rfl,rfl,f1,nn,m1⟩:=h.oth_of h0
   have l1:=qO gu m1;rw[ae,ae] at l1;apply⟨_,ρ,fms_nam f1,.inr ⟨_,_,f1,by rw[az,aq,l1];lia⟩,λx hx=>?_⟩
   rcases aL.mp hx with q | q
   ·exact .inl (nn x q)
   ·exact .inr (rdW_in m1 x q)
theorem md.head {k:Str}{t:List Str}(h:md (k::t)):nam k=true:=by
 obtain⟨k',t',e,hk,_⟩:=h;cases e;exact hk
theorem md.tail {k:Str}{t:List Str}(h:md (k::t))(hx:x∈t):nam x=true∨gb x=true:=by
 obtain⟨k',t',e,_,_,ht⟩:=h;cases e;exact ht x hx
theorem md.len {k:Str}{t t':List Str}(h:md (k::t))(h':md (k::t')):t.length=t'.length∨t.length % 2=t'.length % 2:=by
 obtain⟨k1,t1,e,_,q,_⟩:=h;cases e;obtain⟨k2,t2,e,_,q',_⟩:=h';cases e
 rcases q with ⟨rfl,q⟩ | ⟨a,b,f,q⟩
 ·rcases q' with ⟨_,q'⟩ | ⟨a',b',f',q'⟩
  ·rw[az] at q q';right;lia
  ·exact qK f' fms_line
 ·rcases q' with ⟨rfl,q'⟩ | ⟨a',b',f',q'⟩
  ·exact qK f fms_line
  ·obtain⟨rfl,rfl⟩:=pP f f'
   rw[az] at q q';left;lia
def NoW (x:Str):Prop:=nam x=false∧gb x=false
theorem nam_no (h:c∈x.cps.toList)(n:¬(97≤c∧c≤122)):nam x=false:=by
 rw[cU];intro q;unfold nam at q;simp only[ck] at q;exact n (qN (gg.mp q.2.2 c h))
theorem qA (h:c∈x.cps.toList)(n:¬(48≤c∧c≤57)):gb x=false:=by
 rw[cU];intro q;unfold gb at q;simp only[ck] at q;exact n (qN (gg.mp q.2.2.2 c h))
theorem noW_one (h:c∈x.cps.toList)(n:¬(97≤c∧c≤122))(n2:¬(48≤c∧c≤57)):NoW x:=⟨nam_no h n,qA h n2⟩
theorem noW_zero (h:1≤x.length):NoW (("0" :Str)++x):=by
 have e:(("0" :Str)++x).cps.toList=48::x.cps.toList:=by rw[iK];rfl
 apply⟨nam_no (c:=48) (by rw[e];exact aW) ⋯,?_⟩;rw[cU];intro q;unfold gb at q;simp only[ck,Bool.not_eq_true',Bool.and_eq_false_iff,decide_eq_false_iff_not] at q
 rcases q.2.2.1 with q | q
 ·rw[e] at q;exact q rfl
 ·have l:(("0" :Str)++x).length=1+x.length:=by
   have a:∀z:Str,z.length=z.cps.toList.length:=λz=>by simp[iF]
   rw[a,e,az,a];lia
  lia
theorem noW_nil:NoW c9:=⟨↥0,↥0⟩
theorem noW_nines:NoW (timesT "9" 61):=⟨by trivial,by trivial⟩
theorem noW_a1:NoW "a1" := ⟨by trivial,by trivial⟩
structure Wk (x:Str):Prop where
 sp:32 ∉ x.cps.toList
 nl:10 ∉ x.cps.toList
 len:x.length≤70
def BadT (y:Str):Prop:=y.length≤3000∧10 ∉ y.cps.toList∧¬md (bD y sp_)
theorem join_in {c d:Nat}:∀{ys:List Str},d∈(cV ⟨#[c]⟩ ys).cps.toList→d=c∨∃y∈ys,d∈y.cps.toList
 | [],h=>by cases h
 | [y],h=> .inr ⟨y,aW,h⟩
 | y::q::r,h=>by
  rw[lK] at h
  rcases aL.mp h with h | h
  ·exact .inr ⟨y,aW,h⟩
  ·rcases aw.mp h with h | h
   ·exact .inl h
   ·rcases join_in h with h | ⟨z,hz,h⟩
    ·exact .inl h
    ·exact .inr ⟨z,aH _ hz,h⟩
theorem oM:∀{zs:List Str},(∀z∈zs,z.length≤70)→(zs.map (·.length)).sum≤70 * zs.length
 | [],_=>by simp
 | z::zs,h=>by
  have:=oM (zs:=zs) λy hy=>h y (aH _ hy)
  have:=h z aW;rw[bw,fG,az];lia
theorem lZ (ne:ys≠[])(wk:∀y∈ys,Wk y)(few:ys.length≤20)(no:¬md ys):BadT (dF sp_ ys):=by
 apply⟨?_,λm=>?_,?_⟩
 ·rw[tj]
  have h1:=StrLaws.join_length_le sp_ ys;have h2:=oM λy hy=>(wk y hy).len
  have h3:(sp_:Str).length=1:=by trivial
  rw[h3] at h1;lia
 ·rw[tj,nV] at m
  rcases join_in m with q | ⟨y,hy,q⟩
  ·lia
  ·exact(wk y hy).nl q
 ·rw[nV,jS ne λy hy=>(wk y hy).sp]
  exact no
structure RwP (z:Str)(ws:List Str):Prop where
 eq:z=dF sp_ ws
 form:md ws
 wk:∀x∈ws,Wk x∧x.length≤60∧1≤x.length
 two:3≤ws.length
 few:ws.length≤12
theorem RwP.ne (h:RwP z ws):ws≠[]:=λe=>by have:=h.two;rw[e] at this;cases this
theorem RwP.split (h:RwP z ws):bD z sp_=ws:=by
 rw[h.eq,nV];exact jS h.ne λp hp=>(h.wk p hp).1.sp
theorem Wk.nil:Wk c9:=⟨↥0,↥0,↥0⟩
theorem RwP.way0 {y:Str}(h:RwP z ws){a b:List Nat}(e:z.cps.toList=a++32::b)(ey:y.cps.toList=a++32::32::b):BadT y:=by
 obtain⟨as,ea⟩:∃as,as=bD ⟨a.toArray⟩ ⟨#[32]⟩:=⟨_,rfl⟩;obtain⟨bs,eb⟩:∃bs,bs=bD ⟨b.toArray⟩ ⟨#[32]⟩:=⟨_,rfl⟩;have ja:cV ⟨#[32]⟩ as=⟨a.toArray⟩:=by rw[ea];exact jB _ _
 have jb:cV ⟨#[32]⟩ bs=⟨b.toArray⟩:=by rw[eb];exact jB _ _
 have na:as≠[]:=by rw[ea];exact mZ _ _
 have nb:bs≠[]:=by rw[eb];exact mZ _ _
 have fa:∀p∈as,32 ∉ p.cps.toList:=by rw[ea];exact StrLaws.split_free _ _
 have fb:∀p∈bs,32 ∉ p.cps.toList:=by rw[eb];exact StrLaws.split_free _ _
 have ez:z=dF ⟨#[32]⟩ (as++bs):=by
  rw[tj,lW _ na nb,ja,jb];apply mr ?_;rw[e,iK,iK];simp
 have es:ws=as++bs:=by
  have:=h.split;rw[nV,ez,jS (by simp[na]) (λp hp=>(aL.mp hp).elim (fa p) (fb p))] at this;exact this.symm
 have eyy:y=dF sp_ (as++([c9]++bs)):=by
  rw[nV,tj,lW _ na ∅,lW _ ∅ nb,ja,jb];apply mr ?_;rw[ey,iK,iK,iK,iK];simp[cV,c9]
 have hw:=h.wk;have hf:=h.few;rw[es] at hw;rw[es,aq] at hf;rw[eyy];apply lZ ∅ (λx hm=>?_) (by simp;lia) λF=>?_
 ·rcases aL.mp hm with q | q
  ·exact(hw x (cE _ q)).1
  ·rcases aL.mp q with q | q
   ·rw[aB.mp q];exact Wk.nil
   ·exact(hw x (bf _ q)).1
 ·match as,na with
  | a0::as,_ =>
   rcases F.tail (x:=c9) ∅ with q | q
   ·rw[noW_nil.1] at q;cases q
   ·rw[noW_nil.2] at q;cases q
theorem RwP.kind (h:RwP z ws)(wx:Wk x)(n1:x ≠ "line")(n2:∀a b,(x,a,b) ∉ fms):BadT (dF sp_ (x::ws.tail)):=by
 have hf:=h.few;apply lZ ∅ (λy hy=>?_) (by simp;lia) λF=>?_
 ·rcases aw.mp hy with rfl | hy
  ·exact wx
  ·exact(h.wk y (List.mem_of_mem_tail hy)).1
 ·obtain⟨k,t,e,_,q,_⟩:=F
  cases e
  rcases q with ⟨q,_⟩ | ⟨a,b,q,_⟩
  ·exact n1 q
  ·exact n2 a b q
theorem fms_lines (a b:Nat):(("lines" :Str),a,b) ∉ fms:=λh=>by
 unfold fms at h;simp only[aw,aO,or_false,gH] at h
 rcases h with ⟨e,_⟩ | ⟨e,_⟩ | ⟨e,_⟩ | ⟨e,_⟩ <;> exact qK e ⇑0
theorem RwP.more {z:Str}{ws:List Str}(h:RwP z ws){more:List Str}(wk:∀x∈more,Wk x)(few:more.length≤4)(odd:more.length % 2=1):BadT (dF sp_ (ws++more)):=by
 have hf:=h.few;apply lZ (λe=>h.ne (List.append_eq_nil_iff.mp e).1) (λy hy=>?_) (by rw[aq];lia) λF=>?_
 ·rcases aL.mp hy with q | q
  ·exact(h.wk y q).1
  ·exact wk y q
 ·have f:=h.form
  match ws,h.ne with
  | w0::wt,_ =>
   have F:md (w0::(wt++more)):=F;have:=md.len f F;rw[aq] at this;lia
theorem RwP.less (h:RwP z ws):BadT (dF sp_ ws.dropLast):=by
 have hf:=h.few;have h2:=h.two;have l:ws.dropLast.length=ws.length - 1:=List.length_dropLast;apply lZ (λe=>by rw[e] at l;simp at l;lia) (λy hy=>(h.wk y (List.dropLast_subset _ hy)).1) ⋯ λF=>?_
 have f:=h.form
 match ws,h2 with
 | w0::w1::wt,_ =>
  rw[List.dropLast_cons_cons] at F l;have:=md.len f F;rw[az] at l this;simp only[az] at l;lia
theorem RwP.odd (h:RwP z ws)(wx:Wk x)(no:NoW x)(hk:k<ws.length):BadT (dF sp_ (ws.take k++[x]++ws.drop (k+1))):=by
 have hf:=h.few;apply lZ ∅ (λy hy=>?_) (by simp;lia) λF=>?_
 ·rcases aL.mp hy with q | q
  ·rcases aL.mp q with q | q
   ·exact(h.wk y (g9 q)).1
   ·rw[aB.mp q];exact wx
  ·exact(h.wk y (hI q)).1
 ·cases k with
  | zero =>
   have:md (x::ws.drop 1):=F;have:=this.head;rw[no.1] at this;cases this
  | succ k =>
   match ws,h.ne with
   | w0::wt,_ =>
    have F:md (w0::(wt.take k++[x]++wt.drop (k+1))):=F
    rcases F.tail (x:=x) ∅ with q | q
    ·rw[no.1] at q;cases q
    ·rw[no.2] at q;cases q
theorem RwP.has (R:RwP z ws):32∈z.cps.toList:=by
 have two:=R.two;rw[R.eq,tj,nV]
 match ws,two with
 | w0::w1::r,_ =>
  rw[lK];simp
theorem RwP.len (R:RwP z ws):z.length≤900:=by
 rw[R.eq,tj];have h1:=StrLaws.join_length_le sp_ ws;have h2:=oM λy hy=>(R.wk y hy).1.len
 have h3:(sp_:Str).length=1:=by trivial
 have:=R.few;rw[h3] at h1;lia
theorem bad_lit (wx:Wk x)(no:¬md [x]):BadT x:=lZ (ys:=[x]) ∅ (λy hy=>by rw[aB.mp hy];exact wx) ∅ no
theorem RwP.way1 (R:RwP z ws):BadT (sp_++z)∧BadT (z++sp_)∧BadT c9∧BadT "rows" ∧BadT (z++(" 1 2 x" :Str)):=by
 have hf:=R.few;have q:cV sp_ ws=z:=by rw[←tj];exact R.eq.symm
 apply⟨?_,?_,?_,?_,?_⟩
 ·have e:sp_++z=dF sp_ (c9::ws):=by
   rw[tj,show c9::ws=[c9]++ws from rfl,lW _ ∅ R.ne,q];apply mr ?_;rw[iK,iK,iK];rfl
  rw[e];apply lZ ∅ (λy hy=>?_) (by simp;lia) λF=>?_
  ·rcases aw.mp hy with rfl | hy
   ·exact Wk.nil
   ·exact(R.wk y hy).1
  ·have:=F.head
   rw[noW_nil.1] at this;cases this
 ·have e:z++sp_=dF sp_ (ws++[c9]):=by
   rw[tj,lW _ R.ne ∅,q];apply mr ?_;rw[iK,iK,iK];simp[cV,c9]
  rw[e];exact R.more (λx hx=>by rw[aB.mp hx];exact Wk.nil) ↥0 ↥0
 ·exact bad_lit Wk.nil λF=>by have:=F.head;rw[noW_nil.1] at this;cases this
 ·apply bad_lit ⟨by trivial,by trivial,by trivial⟩ λF=>?_
  obtain⟨k,t,e,_,h,_⟩:=F;cases e
  rcases h with ⟨h,_⟩ | ⟨a,b,h,_⟩
  ·exact qK h ⇑0
  ·unfold fms at h
   simp only[aw,aO,or_false,gH] at h
   rcases h with ⟨e,_⟩ | ⟨e,_⟩ | ⟨e,_⟩ | ⟨e,_⟩ <;> exact qK e ⇑0
 ·have e:z++(" 1 2 x" :Str)=dF sp_ (ws++[("1" :Str),"2","x"]):=by
   rw[tj,lW _ R.ne ∅,q,app_asc,show sp_++cV sp_ [("1" :Str),"2","x"]=(" 1 2 x" :Str) from by trivial]
  rw[e];apply R.more (λx hx=>?_) ↥0 ↥0;simp only[aw,aO,or_false] at hx
  rcases hx with rfl | rfl | rfl <;> exact⟨by trivial,by trivial,by trivial⟩
theorem Wk.app {a b:Str}(ha:Wk a)(hb:Wk b)(l:a.length+b.length≤70):Wk (a++b) :=
 ⟨λm=>by rw[iK] at m;exact(aL.mp m).elim ha.sp hb.sp,λm=>by rw[iK] at m;exact(aL.mp m).elim ha.nl hb.nl,by rw[jT];exact l⟩
theorem RwP.odds (R:RwP z ws)(hx:x∈ws){i:Int}(h0:0≤i)(h5:i<5):∃y,atI [V.str (("0" :Str)++x),V.str (x++("-" :Str)),V.str (x++("A" :Str)),V.str (timesT ("9" :Str) 61),V.str "a1"] i=some (.str y)∧Wk y∧NoW y:=by
 obtain⟨wx,l,l1⟩:=R.wk x hx;have one:∀{s:Str},s.length=1→x.length+s.length≤70∧s.length+x.length≤70:=λe=>by lia
 rcases(show i=0∨i=1∨i=2∨i=3∨i=4 by lia) with q | q | q | q | q <;> rw[q]
 ·exact⟨ρ,Wk.app ⟨by trivial,by trivial,by trivial⟩ wx (one ⇑0).2,noW_zero l1⟩
 ·exact⟨ρ,wx.app ⟨by trivial,by trivial,by trivial⟩ (one ⇑0).1,noW_one (c:=45) (by rw[iK];exact bf _ ⇑0) ⋯ ⋯⟩
 ·exact⟨ρ,wx.app ⟨by trivial,by trivial,by trivial⟩ (one ⇑0).1,noW_one (c:=65) (by rw[iK];exact bf _ ⇑0) ⋯ ⋯⟩
 ·exact⟨ρ,⟨by trivial,by trivial,by trivial⟩,noW_nines⟩
 ·exact⟨ρ,⟨by trivial,by trivial,by trivial⟩,noW_a1⟩
theorem cutL (xs:List V):pW xs none (some (-1))=xs.dropLast:=by
 unfold pW;rw[HT.sIx_none,List.drop_zero,Nat.sub_zero,List.dropLast_eq_take];congr 1;show(if (-1:Int)<0 then ((-1:Int)+(xs.length:Int)).toNat else min (-1:Int).toNat xs.length)=xs.length - 1;rw[qJ ↥0];lia
end HN
namespace HN
open PySem L2 PyProof.Rows
structure Sn where
 s:Int
 g:Int
 l:Int
 o:Int
 w:Int
abbrev Sn.row (x:Sn):List Int:=[x.s,x.g,x.l,x.o,x.w]
abbrev netP (b m:Int)(sp:List Sn):Dt:= .tup [.int b,.int m,.tup (sp.map λx=> .tup (x.row.map Dt.int))]
theorem small_le (h:n≤1000):n≤aA:=cu h ↥0
structure Nt (mg:Str→Option af):Prop where
 range:mg "range" =none
 enum:mg "enumerate" =none
 zip:mg "zip" =none
 sum:mg "sum" =none
 tlist:mg "list" =none
 max:mg "max" =none
inductive spCell (K:aj)(vs:List V)(H:Hp)(Q:VK)(_:XK):Prop
 | mk (a:ao)(ns:List Int)(k:Int)(_:vs=[.ref a,.int k])(_:SqL K H a (ns.map V.int))(_:0≤k)(_:∀c:Int,Q (.int c) H)
theorem nN {xs:List α}{r:Int}(h0:0≤r)(h1:r<xs.length):∃v,atI xs r=some v∧v∈xs:=by
 obtain⟨j,rfl⟩:=dm h0;have hj:j<xs.length:=by lia
 exact⟨xs[j],bp (gE hj),c8 hj⟩
theorem log_ok {m:Int}(h0:0<m)(h:m<10 ^ 61):0<m∧m.natAbs.log2<9000:=by
 apply⟨h0,?_⟩;have h1:m.natAbs<2 ^ 300:=by
  have:(10:Nat) ^ 61<2 ^ 300:=by trivial
  have h2:m.natAbs<10 ^ 61:=by lia
  exact Nat.lt_trans h2 this
 have h3:m.natAbs≠0:=by lia
 have:=(Nat.log2_lt h3).mpr h1;lia
theorem atI_last {xs:List α}{x:α}(h:xs[xs.length - 1]? =some x):atI xs (-1)=some x:=by
 have hl:xs.length - 1<xs.length:=(ai.mp h).1;unfold atI ixN;rw[qI ↥0,qJ ⋯];show xs[(-1+(xs.length:Int)).toNat]? =some x;rw[show(-1+(xs.length:Int)).toNat=xs.length - 1 by lia];exact h
def Mv (p:ao)(H H':Hp):Prop:=(∀b o,b≠p→H b=some o→H' b=some o)∧∃n,H' p=some (.lst [.int n])
theorem Mv.trans (a:Mv p H H1)(b:Mv p H1 H2):Mv p H H2:=⟨λc o hc e=>b.1 c o hc (a.1 c o hc e),b.2⟩
theorem Mv.new (a:Mv p H H1)(hq:H1 q=none):Mv p H (upd H1 q o):=by
 obtain⟨n,hn⟩:=a.2;exact⟨λc u hc e=>by rw[bo (aV (a.1 c u hc e) hq)];exact a.1 c u hc e,n,by rw[bo (aV hn hq)];exact hn⟩
theorem Mv.at (a:Mv p H H1)(h:H q=some o)(hne:q≠p):H1 q=some o:=a.1 q o hne h
theorem Mv.then (a:Mv p H H1)(S:cB H1 H2):Mv p H H2:=⟨λc o hc e=>S _ _ (a.1 c o hc e),by obtain⟨n,hn⟩:=a.2;exact⟨n,S _ _ hn⟩⟩
theorem Mv.of {n:Int}(S:cB H H1)(h:H1 p=some (.lst [.int n])):Mv p H H1:=⟨λc o _ e=>S _ _ e,n,h⟩
theorem Mv.ne (a:Mv p H H1)(hq:H1 q=none):q≠p:=λz=>by obtain⟨n,hn⟩:=a.2;rw[z,hn] at hq;cases hq
theorem cB.mv (e:cB H H1)(hp:H p=none)(m:Mv p H1 H2):cB H H2:=λb o q=>m.1 b o (λz=>by rw[z,hp] at q;cases q) (e b o q)
inductive ng (vs:List V)(H:Hp)(Q:VK)(_:XK):Prop
 | mk (p n m:_)(_:vs=[.ref p,.int m])(_:H p=some (.lst [.int n]))(_:0<m)(_:m<10 ^ 61)(_:∀r H',0≤r→r<m→Mv p H H'→Q (.int r) H')
inductive spMix (vs:List V)(H:Hp)(Q:VK)(_:XK):Prop
 | mk (c k:_)(_:vs=[.int c,.int k])(_:0≤k)(_:k≤1000)(_:∀n,Q (.int n) H)
inductive spPotT (K:aj)(vs:List V)(H:Hp)(Q:VK)(_:XK):Prop
 | mk (a:ao)(ns:List Int)(k:Int)(_:vs=[.ref a,.int k])(_:SqL K H a (ns.map V.int))(_:0≤k)(_:k≤100)(_:∀n p,H p=none→Q (.ref p) (upd H p (.lst [.int n])))
abbrev sCell:cW:=top 89
abbrev sMix:cW:=top 90
abbrev sPotT:cW:=top 91
abbrev qf:cW:=top 92
theorem scCell:cI pzf pzf (defScope sCell):=by trivial
theorem ok_cell (F:Fun K "_law_cell_at" "_law_cell_at" sCell f fd)(T:Nm mg):‹0› 1 f fd pzf (spCell K):=by
 specialize F.ok scCell;obtain⟨a,ns,j,rfl,ha,hj,k⟩:=h;apply⟨_,dq (gC (cf op_lt (pv 1) (b8 cF rfl T.len bu (ah (pv 0) ay)) (cN _)) (bH (cA (fK bX (pv 0) (pv 1) (λ_ _=>rfl)))) cZ) (bH (cA aP)),?_⟩;apply⟨ρ,ρ,a,ρ,.inl ha,ς,ρ,?_⟩;apply jC (λh1=>?_) (λh1=>?_)
 ·have h1:j<((ns.map V.int).length:Int):=qN h1
  obtain⟨v,e1,e2⟩:=nN hj h1;obtain⟨c,_,rfl⟩:=aJ.mp e2;exact⟨ρ,ρ,a,τ,ha,e1,k c⟩
 ·exact k 0
theorem scTake:cI ["_law_pot_here","_law_most","_law_number"] pze (defScope qf):=by trivial
theorem mz (F:Fun K "_law_take" "_law_take" qf f fd):‹0› 1 f fd pze ng:=by
 specialize F.ok scTake;obtain ⟨p,n,m,rfl,hp,h0,h1,k⟩:=h;apply ⟨_,dq (psZ 2 scTake.nd (c7 ow (fK bX (pv 0) aP (fun _ _=>rfl)) (pv 1)))
  (dq (ps_asg (c7 op_fdivB (fK bX (pv 0) aP (fun _ _=>rfl)) (pv 1)) (pg_sub (pv 0) aP oO)) (bH (cA (pv 2)))),?_⟩
 apply⟨ρ,p,τ,SqL.of hp,bp (j:=0) rfl,ρ,ς,h0,?_⟩;apply⟨ρ,p,τ,SqL.of hp,bp (j:=0) rfl,ρ,ς,log_ok h0 h1,?_⟩;apply⟨ρ,p,_,_,0,rfl,rfl,hp,rfl,?_⟩;apply⟨ρ,k _ _ (Int.emod_nonneg _ ⋯) (Int.emod_lt_of_pos _ h0) ⟨λb o hb e=>by rw[bo hb];exact e,n / m,aR⟩⟩
theorem scMix:cI ["_law_cell","_law_k","_law_number"] pzu (defScope sMix):=by trivial
theorem ok_mix (F:Fun K "_law_mixed" "_law_mixed" sMix f fd):‹0› 1 f fd pzu spMix:=by
 specialize F.ok scMix;obtain ⟨c,j,rfl,j0,j1,k⟩:=h;apply ⟨_,PSl.h (bz ⟨(psZ 2 scMix.nd (c7 ow (c7 kq (c7 gx (c7 gx (c7 ow (pv 0) aP) (c7 kq aP (pv 1))) aP) aP) aP))⟩
  (bz ⟨(psZ 2 scMix.nd (c7 ow (c7 gx (c7 gx (c7 kq (pv 2) (pv 2)) (c7 kq aP (pv 1))) aP) aP))⟩
  (gy ⟨(cA (c7 ow (c7 kq (pv 2) aP) aP))⟩))),?_⟩
 apply⟨ρ,ς,(by show(0:Int)<2147483629;decide),ρ,ς,.inl ⟨↥0,↥0⟩,ς,ς,ς,.inr ⟨↥0,↥0⟩,ς,(by show(0:Int)<2147483647;decide),?_⟩;apply⟨ρ,ρ,ς,.inl ?_,ρ,ς,.inl ⟨↥0,↥0⟩,ς,ς,ς,(by show(0:Int)<2147483587;decide),?_⟩
 ·have h1:=Int.emod_nonneg ((c % 2147483629+7919 * j+1) * 48271) (by decide:(2147483647:Int)≠0)
  have h2:=Int.emod_lt_of_pos ((c % 2147483629+7919 * j+1) * 48271) (by decide:(0:Int)<2147483647);exact⟨⋯,⋯⟩
 ·exact⟨ρ,ς,.inr ⟨↥0,↥0⟩,ς,(by show(0:Int)<2147483629;decide),k _⟩
theorem scPotT:cI ["_law_script","_law_k","_law_cell","_law_number","_law_j"] pzf (defScope sPotT):=by trivial
theorem ok_potT (F:Fun K "_law_pot" "_law_pot" sPotT f fd)(T:Nm mg)(T2:Nt mg)(G1:Fn K mg "_law_cell_at" sCell pzf f1 fd1)(G2:Fn K mg "_law_mixed" sMix pzu f2 fd2):‹0› 2 f fd pzf (spPotT K):=by
 have F1:‹0› 1 f1 fd1 pzf (spCell K):=ok_cell G1.F T;have F2:‹0› 1 f2 fd2 pzu spMix:=ok_mix G2.F;specialize F.ok scPotT;obtain ⟨a,ns,j,rfl,ha,j0,j1,k⟩:=h;apply ⟨_,PSl.h (bz ⟨(psZ 2 scPotT.nd (pc1 G1 F1 hr (ah (pv 0) (ah (pv 1) ay))))⟩
  (bz ⟨(gC (cf iW (c7 ow (pc1 G1 F1 hr (ah (pv 0) (ah aP ay))) aP) aP (cN _)) (bH (cA (kY (ah (pv 2) ay)))) cZ)⟩
  (bz ⟨(psZ 3 scPotT.nd aP)⟩
  (bz ⟨(je cz rfl (kJ rfl T2.range (ah aP ay)) (pgZ 4 scPotT.nd) (bH (psZ 3 scPotT.nd (c7 gx (c7 kq (pv 3) aP) (pc1 G2 F2 hr (ah (pv 2) (ah (c7 gx (pv 1) (c7 kq aP (pv 4))) ay)))))))⟩
  (gy ⟨(cA (kY (ah (pv 3) ay)))⟩))))),?_⟩
 apply⟨ρ,ρ,a,ns,j,rfl,ha,j0,λc=>?_⟩;apply⟨ρ,a,ns,0,rfl,ha,↥0,λc0=>⟨ς,(by show(0:Int)<2;decide),rfl,ρ,?_⟩⟩;apply jC (λ_=>?_) (λ_=>?_)
 ·exact⟨ρ,szZ1,λp hp=>k _ p hp⟩
 ·apply⟨9,rfl,↥0,↥0,mG (n:=9) (λi σ H2=>H2=H∧∃n vj,σ=[some (.ref a),some (.int j),some (.int c),some (.int n),vj]) ⟨rfl,0,none,rfl⟩ ?_ ?_⟩
  ·rintro i σ H2 hi ⟨rfl,n,vj,rfl⟩
   apply⟨ρ,ς,.inr ⟨↥0,↥0⟩,ρ,ρ,ρ,ς,.inl ⟨↥0,↥0⟩,ς,c,ρ,⋯,⋯,λn2=>⟨ς,?_⟩⟩;exact⟨rfl,_,ρ⟩
  ·rintro σ H2 ⟨rfl,n,vj,rfl⟩
   exact⟨ρ,szZ1,λp hp=>k _ p hp⟩
end HN
variable {bt:List HN.Sn}{sn:HN.Sn}
namespace HN
open PySem L2 PyProof.Rows HT2
abbrev sBrw:cW:=top 106
inductive spBrw (vs:List V)(H:Hp)(Q:VK)(_:XK):Prop
 | mk (z:Str)(p:ao)(n:Int)(ws:List Str)(_:vs=[.str z,.ref p])(_:H p=some (.lst [.int n]))(_:RwP z ws)(_:∀y H',BadT y→Mv p H H'→Q (.str y) H')
theorem neL {n:Int}(h:H q=some (.lst xs))(hp:H p=some (.lst [.int n]))(l:xs.length≠1):q≠p:=λz=>by
 rw[z,hp] at h;cases h;exact l rfl
theorem scBrw:cI ["_law_line","_law_pot_here","_law_words_of","_law_k","_law_way","_law_odd"] pzv (defScope sBrw):=by trivial
theorem ok_brw (F:Fun K "_law_bent_row" "_law_bent_row" sBrw f fd)(T:Nm mg)(G1:Fn K mg "_law_take" qf pze f1 fd1):‹0› 2 f fd pzv spBrw:=by
 have F1:‹0› 1 f1 fd1 pze ng:=mz G1.F;specialize F.ok scBrw;obtain ⟨z,p,n,ws,rfl,hp,R,k⟩:=h;have hr1:ke 1 _:=hr;apply ⟨_,PSl.h (bz ⟨(psZ 2 scBrw.nd (jg bU ir iq nt (pv 0) (ah dC ay)))⟩
  (bz ⟨(psZ 3 scBrw.nd (pc1 G1 F1 hr1 (ah (pv 1) (ah (b8 cF rfl T.len bu (ah (pv 2) ay)) ay))))⟩
  (bz ⟨(psZ 4 scBrw.nd (pc1 G1 F1 hr1 (ah (pv 1) (ah aP ay))))⟩
  (bz ⟨(ps_rep1 (i:=4) (j:=0) (c:=32) (z := "  ") rfl (.inl rfl) rfl (.inl rfl) ⇑0)⟩
  (bz ⟨(gC (cf iW (pv 4) aP (cN _)) (bH (cA (PEs.h (qe bX (mE (cO (qD jv jU ⟨pv 0⟩) (cO (qD jv ⟨pv 0⟩ jU) (cO jU (cO jU (cO (qD jv ⟨pv 0⟩ jU) l7)))))) ⟨pc1 G1 F1 hr1 (ah (pv 1) (ah aP ay))⟩ (fun _ _=>rfl))))) cZ)⟩
  (bz ⟨(gC (cf iW (pv 4) aP (cN _)) (bH (cA (jg bU dZ dY lU dC (ah (fq iC (pv 2) hZ (fZ (pe_un un_neg aP))) ay)))) cZ)⟩
  (bz ⟨(gC (cf iW (pv 4) aP (cN _)) (bH (cA (jg bU dZ dY lU dC (ah (c7 iX (pv 2) (ij (ah dC ay))) ay)))) cZ)⟩
  (bz ⟨(gC (cf iW (pv 4) aP (cN _)) (bH (cA (jg bU dZ dY lU dC (ah (c7 iX (ij (ah dC ay)) (fq iC (pv 2) (fZ aP) hZ)) ay)))) cZ)⟩
  (bz ⟨(psZ 5 scBrw.nd (PEs.h (qe bX (mE (cO (qD jv jU (qe bX ⟨pv 2⟩ ⟨pv 3⟩ (fun _ _=>rfl))) (cO (qD jv (qe bX ⟨pv 2⟩ ⟨pv 3⟩ (fun _ _=>rfl)) jU) (cO (qD jv (qe bX ⟨pv 2⟩ ⟨pv 3⟩ (fun _ _=>rfl)) jU) (cO (qD qx jU jF) (cO jU l7)))))) (qD ji ⟨pv 4⟩ jF) (fun _ _=>rfl))))⟩
  (gy ⟨(cA (jg bU dZ dY lU dC (ah (c7 iX (c7 iX (fq iC (pv 2) hZ (fZ (pv 3))) (ij (ah (pv 5) ay))) (fq iC (pv 2) (fZ (c7 gx (pv 3) aP)) hZ)) ay)))⟩)))))))))),?_⟩
 have one:((sp_:Str).length == 0)=false:=by trivial
 have zl:=R.len;have h2:=R.two;have h12:=R.few;have big:(100000:Nat)≤aA:=by decide
 apply⟨ρ,rfl,ς,one,cu (show _≤100000 by lia) ↥0,λL H1 S1 e1=>?_⟩;have e1:H1 L=some (.lst ((bD z sp_).map V.str)):=e1;rw[R.split] at e1;have hlen:(ws.map V.str).length=ws.length:=ae _;apply⟨ρ,ρ,L,ρ,.inl (SqL.of e1),p,n,(ws.length:Nat),by rw[hlen];rfl,S1 _ _ hp,⋯,⋯,λkk H2 a0 a1 M2=>?_⟩;have e2:=M2.at e1 (neL e1 (S1 _ _ hp) ⋯);have M02:Mv p H H2:=⟨λb o hb e=>M2.1 b o hb (S1 _ _ e),M2.2⟩;obtain⟨n2,hp2⟩:=M2.2;apply⟨ρ,p,n2,10,rfl,hp2,↥0,↥0,λway H3 b0 b1 M3=>?_⟩;have e3:=M3.at e2 (neL e2 hp2 ⋯);have M03:=M02.trans M3;obtain⟨n3,hp3⟩:=M3.2;have eqT:∀{a b:Int},decide (V.int a=V.int b)=true→a=b:=λq=>by have:=qN q;injection this
 have eqF:∀{a b:Int},¬decide (V.int a=V.int b)=true→a≠b:=λq e=>q (qL (by rw[e]))
 have w1:(sp_:Str).length≤16:=by trivial
 have ls:(sp_:Str).length=1:=by trivial
 have wk70:∀x∈ws,x.length≤70:=λx hx=>(R.wk x hx).1.len
 have lj:∀{ys:List Str},(∀y∈ys,y.length≤70)→ys.length≤20→(ys.map (·.length)).sum+ys.length≤1048576:=λh l=>by have:=oM h;lia
 apply⟨ρ,z,rfl,jC (λhw=>?_) (λhw0=>?_)⟩
 ·have e2:("  " :Str).cps.toList=[32,32]:=by trivial
  have l2:("  " :Str).length=2:=by trivial
  exact⟨R.has,by rw[l2];lia,λy a b ea ey=>k y H3 (R.way0 ea (by rw[ey,e2];rfl)) M03⟩
 obtain⟨B1,B2,B3,B4,B5⟩:=R.way1;apply⟨ρ,rfl,ρ,jC (λhw1=>?_) (λhw1=>?_)⟩
 ·have l6:(" 1 2 x" :Str).length=6:=by trivial
  apply⟨ρ,ς,by rw[ls];lia,ρ,ς,by rw[ls];lia,ρ,ς,by rw[l6];lia,szZ5,λp2 H4 S4 e4=>?_⟩;apply⟨ρ,p,n3,5,rfl,S4 _ _ hp3,↥0,↥0,λr H5 c0 c1 M5=>?_⟩;have e5:=M5.at e4 (neL e4 (S4 _ _ hp3) ∅);have M05:Mv p H H5:=(M03.then S4).trans M5;obtain⟨y,hy,hB⟩:∃y,atI [V.str (sp_++z),V.str (z++sp_),V.str c9,V.str "rows",V.str (z++(" 1 2 x" :Str))] r=some (.str y)∧BadT y:=by
   rcases(show r=0∨r=1∨r=2∨r=3∨r=4 by lia) with q | q | q | q | q <;> rw[q]
   ·exact⟨ρ,B1⟩
   ·exact⟨ρ,B2⟩
   ·exact⟨ρ,B3⟩
   ·exact⟨ρ,B4⟩
   ·exact⟨ρ,B5⟩
  exact⟨p2,τ,SqL.of e5,hy,k y H5 hB M05⟩
 apply⟨ρ,rfl,ρ,jC (λhw2=>?_) (λhw2=>?_)⟩
 ·apply⟨rfl,ρ,ρ,ρ,L,ρ,SqL.of e3,λp2 H4 S4 e4=>?_⟩
  have e4:H4 p2=some (.lst (ws.dropLast.map V.str)):=by rw[e4];show some (HO.lst (pW (ws.map V.str) none (some (-1))))=_;rw[cutL,List.map_dropLast]
  exact⟨_,p2,ρ,rfl,SqL.of e4,w1,lj (λy hy=>wk70 y (List.dropLast_subset _ hy)) (by rw[List.length_dropLast];lia),k _ H4 R.less (M03.then S4)⟩
 apply⟨ρ,rfl,ρ,jC (λhw3=>?_) (λhw3=>?_)⟩
 ·apply⟨rfl,ρ,szZ1,λp2 H4 S4 e4=>?_⟩
  apply⟨L,p2,ς,S4 _ _ e3,e4,by rw[hlen,dw];lia,λp3 H5 S5 e5=>?_⟩;have e5:H5 p3=some (.lst ((ws++[("zz" :Str)]).map V.str)):=by rw[e5,ax];rfl
  have wz:∀x∈[("zz" :Str)],Wk x:=λx hx=>by rw[aB.mp hx];exact⟨by trivial,by trivial,by trivial⟩
  exact⟨_,p3,ρ,rfl,SqL.of e5,w1,lj (λy hy=>(aL.mp hy).elim (wk70 y) λq=>(wz y q).len) (by rw[aq,dw];lia),k _ H5 (R.more wz ↥0 ↥0) (M03.then (S4.trans S5))⟩
 apply⟨ρ,rfl,ρ,jC (λhw4=>?_) (λhw4=>?_)⟩
 ·apply⟨rfl,szZ1,λp2 H4 S4 e4=>?_⟩
  apply⟨ρ,ρ,L,ρ,SqL.of (S4 _ _ e3),λp3 H5 S5 e5=>?_⟩;rw[cutF (i:=1) (n:=1) rfl] at e5;apply⟨p2,p3,ς,S5 _ _ e4,e5,by rw[bK,hlen,dw];lia,λp4 H6 S6 e6=>?_⟩;have e6:H6 p4=some (.lst ((("lines" :Str)::ws.tail).map V.str)):=by rw[e6,List.drop_one,bw,List.map_tail];rfl
  have wl:Wk ("lines" :Str):=⟨by trivial,by trivial,by trivial⟩;exact ⟨_,p4,ρ,rfl,SqL.of e6,w1,lj (fun y hy=>by
   rcases aw.mp hy with rfl | hy
   ·exact wl.len
   ·exact wk70 y (List.mem_of_mem_tail hy)) (by rw [az,List.length_tail];lia),k _ H6 (R.kind wl ⇑0 fms_lines) (M03.then (S4.trans (S5.trans S6)))⟩
 obtain⟨kn,rfl⟩:∃kn:Nat,kk=(kn:Int):=⟨kk.toNat,⋯⟩;have hk:kn<ws.length:=by lia
 have hx:ws[kn]? =some ws[kn]:=gE hk;have hxm:ws[kn]∈ws:=c8 hk;have hxV:atI (ws.map V.str) (kn:Int)=some (.str ws[kn]):=bp (by rw[aE,hx];rfl);generalize ws[kn]=x at hx hxm hxV;have xl:=wk70 x hxm;have l0:("0" :Str).length=1:=by trivial
 have lm:("-" :Str).length=1:=by trivial
 have la:("A" :Str).length=1:=by trivial
 have h0:way≠0:=hw0;have h1:=eqF hw1;have h2':=eqF hw2;have h3:=eqF hw3;have h4:=eqF hw4;obtain ⟨y,hy,yw,yn⟩:=R.odds hxm (i:=way - 5) ⋯ ⋯;apply ⟨ρ,ρ,L,τ,SqL.of e3,hxV,ς,by rw [l0];lia,ρ,ρ,L,τ,SqL.of e3,hxV,ς,by rw [lm];lia,ρ,ρ,L,τ,SqL.of e3,hxV,ς,by rw [la];lia,ς,↥0,↥0,by trivial,by trivial,by trivial,szZ5,fun p2 H4 S4 e4=>?_⟩
 apply⟨ρ,ς,p2,τ,SqL.of e4,hy,?_⟩;apply⟨rfl,ρ,ρ,ρ,L,ρ,SqL.of (S4 _ _ e3),λp3 H5 S5 e5=>?_⟩;rw[cutU rfl] at e5;apply⟨ρ,szZ1,λp4 H6 S6 e6=>?_⟩;apply⟨p3,p4,ς,S6 _ _ e5,e6,by rw[dw,aZ];lia,λp5 H7 S7 e7=>?_⟩;apply⟨ρ,ρ,ς,ρ,L,ρ,SqL.of ((S4.trans (S5.trans (S6.trans S7))) _ _ e3),λp6 H8 S8 e8=>?_⟩;rw[cutF (n:=kn+1) ⋯] at e8;apply⟨p5,p6,ς,S8 _ _ e7,e8,by rw[aq,dw,aZ,bK];lia,λp7 H9 S9 e9=>?_⟩;have e9:H9 p7=some (.lst ((ws.take kn++[y]++ws.drop (kn+1)).map V.str)):=by rw[e9,ax,ax,kC,fH];rfl
 exact ⟨_,p7,ρ,rfl,SqL.of e9,w1,lj (fun v hv=>by
  rcases aL.mp hv with q | q
  ·rcases aL.mp q with q | q
   ·exact wk70 v (g9 q)
   ·rw[aB.mp q];exact yw.len
  ·exact wk70 v (hI q)) (by rw [aq,aq,dw,aZ,bK];lia),k _ H9 (R.odd yw yn hk) (M03.then (S4.trans (S5.trans (S6.trans (S7.trans (S8.trans S9))))))⟩
end HN
namespace L2
open PySem PySem.Spec PyProof.Rows
open AutoSeq1 (wpAny_loadPart')
theorem nQ (p:ao)(items:Array af)(x:af)(e:af→Bool)(he:∀y,y∈items→PySem.MeetsSeq.EqGives y x (e y))(j:Nat)(hj:j<items.size)(hit:e items[j]=true)(hno:∀m (hm:m<items.size),m<j→e items[m]=false) :
  Meets (ee.«tuple.index» ⟨[.ref p,x],[]⟩) (λ_ R s=>IsTup s.heap p items∧R (.ok (.ret (.int j s.toks))) { s with toks:=s.toks+1 }) :=
 .of_wp λprog w A R s h=>by
  obtain⟨hp,g,d,tk,os⟩:=s;obtain⟨⟨o,ho,hc,n,hd⟩,h⟩:=h
  wp_walk using iV ho
  rw[hd];apply aN (aN ?_)
  dsimp only
  apply ak (aN (ak (aN (ak ?_))));rw[Nat.min_self,Std.Legacy.Range.forIn_eq_forIn_range'];apply wpAny_forIn_list _ (λl b s'=>∃k,l=List.range' k (items.size - k)∧k≤j∧b=(none,())∧s'=⟨hp,g,d,tk,os⟩) _ ?_ ?_ _ _ ?_
  ·rintro i rest b s' ⟨k,hl,hk,rfl,rfl⟩
   have hk2:items.size - k=(items.size - (k+1))+1:=by lia
   rw[hk2,List.range'_succ] at hl;injection hl with h1 h2
   subst h1;have hik:i<items.size:=by lia
   rw[lO hik];apply ak (he _ (Array.getElem_mem hik) prog w _ _ _ _ ?_)
   by_cases hij:i=j
   ·subst hij
    rw[hit,qJ rfl]
    wp_walk
    first | exact⟨ρ,h⟩ | exact h
   ·rw[hno i hik ⋯,qI bG]
    exact aN ⟨i+1,h2,⋯,rfl,rfl⟩
  ·rintro b s' ⟨k,hl,hk,rfl,rfl⟩
   have hk2:items.size - k=(items.size - (k+1))+1:=by lia
   rw[hk2,List.range'_succ] at hl;cases hl
  ·apply⟨0,?_,dG _,rfl,rfl⟩
   simp[Std.Legacy.Range.size]
theorem Inv.tupleN (I:Inv X aI σ H s)(h:H a=some (.tup xs)):∃its:List af,gU xs its∧mI s.heap a its.toArray:=by
 obtain⟨z,its,r,p⟩:=I.hok a _ h;exact⟨its,r,p⟩
def tBMT (r:V→List V→Hp→VK→Prop)(to:TE)(t:TA):TE:=λσ H Q=>to σ H λx H1=>(∃p xs,x= .ref p∧H1 p=some (.tup xs))∧t σ H1 λxs H2=>r x xs H2 Q
theorem pe_bmT {o:Expr}{id:String}{r:V→List V→Hp→VK→Prop}(slot:Slot "tuple" name id)(hty:typeOf (.builtin id)=hW (.type "method_descriptor"))(hm:MtR X id r)(ho:PE X o to)(ha:PA X (e::es) t)
  (hbase:autoParam (i9 o name X.env (dU o X.env)=dU o X.env) L2.au0._auto_1)
  (hfew:autoParam (((gG cpos (br (e::es) X.env)).all (λx=> !x.1) && (backToKw cpos (lp [] X.env)).all (λx=>x.1.isSome) && decide ((e::es).length+([]:List Keyword).length+(if ([]:List Keyword).isEmpty then 0 else 1)<30))=true) L2.au0._auto_1)
  (hline:autoParam ((apos.endLine == cpos.line)=true) L2.au0._auto_1) (hs:autoParam (br (e::es) X.env=(false,dU e X.env)::br es X.env) L2.au0._auto_1) (hplain:autoParam ((gG cpos (br es X.env)).any (·.1)=false) L2.au0._auto_1) :
  PE X (.Call (.Attribute o name apos) (e::es) [] cpos) (tBMT r to t):=by
 intro aI s σ H Q I h;apply wpAny_Call_method_late hbase hfew hline rfl (thn (ho aI s σ H _ I h) λv s1 hz0=>?_);obtain⟨x,H1,I1,r1,ty,q1⟩:=hz0;obtain⟨p,xs,rfl,hp⟩:=ty;cases(show v=af.ref p from r1);obtain⟨its,rv,ob,e1,c1,d1,n,dd⟩:=I1.tupleN hp;apply⟨"tuple",id,PySem.F.plainAttrs_tuple,slot,hty,⟨ob,e1,c1⟩,λa ea=>by cases ea;exact⟨ob,e1,d1⟩,?_⟩;have hA:=ha cpos aI s1 σ H1 _ I1 q1;rw[hs] at hA ⊢;apply gL (by show(false || (gG cpos (br es X.env)).any (·.1))=false;rw[hplain] <;> rfl) (gZ ?_);exact thn hA λus s2 ⟨vs,H2,I2,r2,q2⟩=>hm aI s2 σ H2 (.ref p) vs (.ref p) us Q I2 r1 r2 q2
end L2
namespace L2
open PySem PySem.Spec PyProof.Rows
inductive rIndexS (K:aj)(x:V)(vs:List V)(H:Hp)(Q:VK):Prop
 | mk (p:ao)(ns:List Str)(k:Str)(i:Nat)(_:x= .ref p)(_:vs=[.str k])(_:SqT K H p (ns.map V.str))(_:ns[i]? =some k)(_:(∀j,j<i→ns[j]? ≠some k))(_:Q (.int (i:Nat)) H)
theorem mt_indexS:MtM X "tuple.index" (rIndexS X.K):=by
 intro aI s σ H x vs v us Q I rx rv h;obtain⟨p,ns,k,i,rfl,rfl,hq,hi,hno,q⟩:=h;cases(show v=af.ref p from rx);obtain⟨u,rfl,ru⟩:=rv.one;obtain⟨t,rfl⟩:=(show ∃t,u=af.str k t from ru);obtain⟨its,r,pl,hz⟩:=I.tuple hq;have hl:its.length=ns.length:=by rw[←r.length,ae]
 have hil:i<ns.length:=(ai.mp hi).1;have at_:∀(m:Nat) (hm:m<its.toArray.size),∃tk,its.toArray[m]=af.str (ns[m]'(by rw[←hl];simpa using hm)) tk:=λm hm=>by
  have hm':m<ns.length:=by rw[←hl];simpa using hm
  obtain⟨u,hu,ru⟩:=r.get (i:=m) (x:=V.str ns[m]) (by rw[aE,gE hm'];rfl);obtain⟨tk,rfl⟩:=(show ∃t,u=af.str ns[m] t from ru);exact⟨tk,by have:=(ai.mp hu).2;simpa using this⟩
 have e0:∀(m:Nat) (hm:m<its.toArray.size),(match its.toArray[m] with | .str y _=>y == k | _=>false)=(ns[m]'(by rw[←hl];simpa using hm) == k):=λm hm=>by
  obtain⟨tk,e⟩:=at_ m hm;rw[e]
 have his:i<its.toArray.size:=by rw[aG,hl];exact hil
 apply kS F.slot_tuple_index ⟨_,pl.choose_spec.1,pl.choose_spec.2.1⟩ F.entry_tuple_index (F.args_tuple_index_2 _ _) (nQ p its.toArray (.str k t) (λv=>match v with | .str y _=>y == k | _=>false) (λy hy=>?_) i his ?_ (λm hm hmi=>?_)) ⟨pl,⟨.int (i:Nat),H,I.tok _,⟨_,rfl⟩,q⟩⟩
 ·obtain⟨m,hm,rfl⟩:=Array.getElem_of_mem hy
  obtain⟨tk,e⟩:=at_ m hm;rw[e];exact λprog w A E s Q h=>wpAny_eqBool_str h
 ·rw[e0 i his,beq_iff_eq]
  exact(ai.mp hi).2
 ·rw[e0 m hm,beq_eq_false_iff_ne]
  have hm':m<ns.length:=by rw[←hl];simpa using hm
  intro z;exact hno m hmi (by rw[gE hm',z])
end L2
namespace HN
open PySem L2 PyProof.Rows HT2
abbrev cLin:cW:=top 35
abbrev sInitL:cW:=clsOf cLin 0
abbrev sComL:cW:=clsOf cLin 1
abbrev sGoL:cW:=clsOf cLin 2
structure LinC (K:aj)(C:ao):Prop where
 cl:Cls K C
 n1:k8 K C "name"
 n2:k8 K C "stops"
 n3:k8 K C "runs"
 n4:k8 K C "stays"
 n5:k8 K C "first"
abbrev linF (n:Str)(a b D:ao)(fi:Int):List (Str×V):=[("name",.str n),("stops",.ref a),("runs",.ref b),("stays",.ref D),("first",.int fi)]
structure LinD (H:Hp)(C x:ao)(n:Str)(ss:List Str)(rs:List Int)(D:ao)(fi:Int):Prop where
 ex:∃dx a b,H x=some (.ins C dx (linF n a b D fi))∧H a=some (.tup (ss.map V.str))∧H b=some (.tup (rs.map V.int))
inductive spInitL (C:ao)(vs:List V)(H:Hp)(Q:VK)(_:XK):Prop
 | mk (x dx a b:ao)(n:Str)(fi:Int)(_:vs=[.ref x,.str n,.ref a,.ref b,.int fi])(_:H x=some (.ins C dx []))(_:∀(D:ao) (H':Hp),(∀c o,c≠x→H c=some o→H' c=some o)→H D=none→H' D=some (.dK [])→H' x=some (.ins C dx (linF n a b D fi))→Q .non H')
inductive spGoL (C:ao)(vs:List V)(H:Hp)(Q:VK)(_:XK):Prop
 | mk (x D:ao)(n z:Str)(ss:List Str)(rs:List Int)(fi:Int)(_:vs=[.ref x,.str z])(_:LinD H C x n ss rs D fi)(_:ss.length≤1000)(_:2≤ss.length)(_:ss.Nodup)(_:∀H',cB H H'→(∀i:Nat,ss[i]? =some z→i+1<ss.length→Q (.int (fi+2 * i)) H')∧((∀i:Nat,ss[i]? =some z→ss.length≤i+1)→Q .non H'))
theorem inV_strs (x:Str):∀p:List Str,inV (.str x) (p.map V.str)=decide (x∈p)
 | []=>by simp[inV]
 | y::p=>by
  have ih:=inV_strs x p;unfold inV at ih ⊢;rw[bw,iL,ih]
  by_cases e:y=x
  ·subst e;simp[eqV]
  ·have:eqV (.str y) (.str x)=false:=by simp[eqV,e]
   rw[this];simp[aw,cY e]
theorem pQ:∀p:List Str,(p.map V.str).all oj=true
 | []=>rfl
 | _::p=>pQ p
theorem kZ (nd:ss.Nodup)(h:ss[i]? =some z):∀j,j<i→ss[j]? ≠some z:=λj hj e=>by
 have hi:=(ai.mp h);have hj':=(ai.mp e);obtain⟨a,b⟩:=hi;obtain⟨c,d⟩:=hj';exact(fY.mp nd) j i c a hj (d.trans b.symm)
inductive spComL (C:ao)(vs:List V)(H:Hp)(Q:VK)(_:XK):Prop
 | mk (x D:ao)(n z:Str)(ss:List Str)(rs:List Int)(fi:Int)(_:vs=[.ref x,.str z])(_:LinD H C x n ss rs D fi)(_:ss.length≤1000)(_:2≤ss.length)(_:ss.Nodup)(_:∀H',cB H H'→(∀i:Nat,ss[i]? =some z→1≤i→Q (.int (fi+2 * i - 1)) H')∧((∀i:Nat,ss[i]? =some z→i=0)→Q .non H'))
theorem scInitL:cI pzo pzo (defScope sInitL):=by trivial
theorem ok_initL (F:Fun K "__init__" "Line.__init__" sInitL f fd)(CC:LinC K C):‹0› 1 f fd pzo (spInitL C):=by
 specialize F.ok scInitL;obtain⟨x,dx,a,b,n,fi,rfl,hx,k⟩:=h;apply⟨_,dq (oq (pv 0) (pv 1) rfl) (dq (oq (pv 0) (pv 2) rfl) (dq (oq (pv 0) (pv 3) rfl) (dq (oq (pv 0) pe_dnewK rfl) (bH (oq (pv 0) (pv 4) rfl))))),?_⟩;apply⟨ρ,ρ,x,C,dx,ρ,hx,CC.cl,CC.n1,↥0,?_⟩;apply⟨ρ,ρ,x,C,dx,ρ,aR,CC.cl,CC.n2,(by show 1<1000;decide),?_⟩;apply⟨ρ,ρ,x,C,dx,ρ,aR,CC.cl,CC.n3,(by show 2<1000;decide),?_⟩;apply λD hD=>⟨ρ,x,C,dx,ρ,(by rw[bo (aV aR hD)];exact aR),CC.cl,CC.n4,(by show 3<1000;decide),?_⟩
 have xD:x≠D:=aV aR hD;apply⟨ρ,ρ,x,C,dx,ρ,aR,CC.cl,CC.n5,(by show 4<1000;decide),?_⟩;rw[bo (cY xD),bo (cY xD),bo (cY xD)] at hD;apply k D _ (λc o hc e=>?_) hD ?_ aR
 ·rw[bo hc,bo hc,bo (aV e hD),bo hc,bo hc,bo hc];exact e
 ·rw[bo (cY xD),bo (cY xD),aR]
theorem scGoL:cI pzg pzg (defScope sGoL):=by trivial
theorem ok_goL (F:Fun K "going" "Line.going" sGoL f fd)(CC:LinC K C):‹0› 1 f fd pzg (spGoL C):=by
 specialize F.ok scGoL;obtain⟨x,D,n,z,ss,rs,fi,rfl,⟨dx,a,b,hx,ha,hb⟩,few,two,nd,k⟩:=h;apply⟨_,bH (cA (pe_ifExp (cf (r:=rIn K false) nk (pv 1) (fq mR (fO (pv 0) rfl) hZ (fZ (pe_un un_neg aP))) rfl) (c7 gx (fO (pv 0) rfl) (c7 kq aP (pe_bmT (r:=rIndexS K) PySem.F.slot_tuple_index PySem.F.type_tuple_index mt_indexS (fO (pv 0) rfl) (ah (pv 1) ay)))) jf)),?_⟩;have hls:(ss.map V.str).length=ss.length:=ae _;have e1:HT.sIx (ss.map V.str).length (ss.map V.str).length (some (-1))=ss.length - 1:=by
  rw[hls];show(if (-1:Int)<0 then ((-1:Int)+(ss.length:Int)).toNat else min (-1:Int).toNat ss.length)=_;rw[qJ ↥0];lia
 apply⟨ρ,ρ,x,C,dx,_,ρ,hx,CC.cl,CC.n2,rfl,ρ,ρ,a,ρ,SqT.of ha,?_,λp H1 S1 e=>?_⟩
 ·rw[e1,hls]
  intro q;lia
 have ec:pW (ss.map V.str) none (some (-1))=(ss.take (ss.length - 1)).map V.str:=by
  unfold pW;rw[e1];show((ss.map V.str).drop 0).take (ss.length - 1 - 0)=_;rw[List.drop_zero,Nat.sub_zero,kC]
 rw[ec] at e;apply⟨p,ρ,.inr (SqT.of e),rfl,pQ _,ρ,?_⟩;show if inV (.str z) ((ss.take (ss.length - 1)).map V.str)=true then _ else _;rw[inV_strs];apply jC (λhc=>?_) (λhc=>?_)
 ·obtain⟨i,hi⟩:=cb (qN hc)
  have hi2:i<ss.length - 1:=by
   have:=(ai.mp hi).1;rw[aZ] at this;lia
  rw[eX hi2] at hi;apply⟨ρ,x,C,dx,_,ρ,S1 _ _ hx,CC.cl,CC.n5,rfl,ρ,x,C,dx,_,ρ,S1 _ _ hx,CC.cl,CC.n2,rfl,⟨a,ρ,S1 _ _ ha⟩,ρ,a,ss,z,i,rfl,rfl,SqT.of (S1 _ _ ha),hi,kZ nd hi,?_⟩;exact⟨ς,.inl ⟨↥0,↥0⟩,ς,(k H1 S1).1 i hi ⋯⟩
 ·apply(k H1 S1).2 λi hi=>?_
  have hn:z ∉ ss.take (ss.length - 1):=λq=>hc (qL q)
  by_cases q:i<ss.length - 1
  ·exact qK (aC (by rw[eX q];exact hi)) hn
  ·lia
theorem scComL:cI pzg pzg (defScope sComL):=by trivial
theorem ok_comL (F:Fun K "coming" "Line.coming" sComL f fd)(CC:LinC K C):‹0› 1 f fd pzg (spComL C):=by
 specialize F.ok scComL;obtain⟨x,D,n,z,ss,rs,fi,rfl,⟨dx,a,b,hx,ha,hb⟩,few,two,nd,k⟩:=h;apply⟨_,bH (cA (pe_ifExp (cf (r:=rIn K false) nk (pv 1) (fq mR (fO (pv 0) rfl) (fZ aP) hZ) rfl) (c7 ji (c7 gx (fO (pv 0) rfl) (c7 kq aP (pe_bmT (r:=rIndexS K) PySem.F.slot_tuple_index PySem.F.type_tuple_index mt_indexS (fO (pv 0) rfl) (ah (pv 1) ay)))) aP) jf)),?_⟩;have hls:(ss.map V.str).length=ss.length:=ae _;have e1:HT.sIx (ss.map V.str).length 0 (some 1)=1:=by
  rw[hls];have:=HT.sIx_nat ss.length 0 1;rw[dA ⋯] at this;exact this
 apply⟨ρ,ρ,x,C,dx,_,ρ,hx,CC.cl,CC.n2,rfl,ρ,a,ρ,SqT.of ha,?_,λp H1 S1 e=>?_⟩
 ·rw[e1]
  intro q;exact qK q.1 ↥0
 rw[cutF (i:=1) (n:=1) rfl,←fH] at e;apply⟨p,ρ,.inr (SqT.of e),rfl,pQ _,ρ,?_⟩;show if inV (.str z) ((ss.drop 1).map V.str)=true then _ else _;rw[inV_strs];apply jC (λhc=>?_) (λhc=>?_)
 ·obtain⟨i,hi⟩:=cb (qN hc)
  rw[fe] at hi;apply⟨ρ,x,C,dx,_,ρ,S1 _ _ hx,CC.cl,CC.n5,rfl,ρ,x,C,dx,_,ρ,S1 _ _ hx,CC.cl,CC.n2,rfl,⟨a,ρ,S1 _ _ ha⟩,ρ,a,ss,z,1+i,rfl,rfl,SqT.of (S1 _ _ ha),hi,kZ nd hi,?_⟩;exact⟨ς,.inl ⟨↥0,↥0⟩,ς,ς,(k H1 S1).1 (1+i) hi ⋯⟩
 ·apply(k H1 S1).2 λi hi=>?_
  have hn:z ∉ ss.drop 1:=λq=>hc (qL q)
  by_cases q:i=0
  ·exact q
  ·exact qK (aC (i:=i - 1) (by rw[fe,show 1+(i - 1)=i by lia];exact hi)) hn
end HN
namespace L2
open PySem PySem.Spec PyProof.Rows
theorem oJ {α β:Type}{f:α→β→Sem (ForInStep β)}{Q:β→ar→Prop}:∀(l:List α) (I:Nat→β→ar→Prop) (b:β) (s:ar),I 0 b s →
  (∀i a b s,l[i]? =some a→I i b s→aT M A (f a b) (λr s'=>∃b',r= .yield b'∧I (i+1) b' s') E s)→(∀b s,I l.length b s→Q b s)→aT M A (forIn l b f) Q E s
 | [],_,b,s,h0,_,hd=>by
  rw[List.forIn_nil];exact aN (hd b s h0)
 | a::l,I,b,s,h0,hs,hd=>by
  rw[List.forIn_cons];apply ak (dO (hs 0 a b s rfl h0) (λr s' hz0=>?_) λ_ _ f=>f);obtain⟨b',e,h'⟩:=hz0;subst e;exact oJ l (λi=>I (i+1)) b' s' h' (λi a b s ha hi=>hs (i+1) a b s ha hi) λb s h=>hd b s h
structure Sq where
 l:Bool
 a:ao
def SqAt (h:bM)(c:Sq)(xs:Array af):Prop:=match c.l with | true=>h.IsList c.a xs | false=>h.IsTuple c.a xs
def ItAt (h:bM)(c:Sq)(i:ao)(k:Nat):Prop:=match c.l with | true=>h.IsListIter i c.a k | false=>h.IsTupleIter i c.a k
abbrev mX (h:bM)(T:ao)(vs:List af):Prop:=h.get? T=some { cls:= .type "tuple",data:= .seq vs.toArray }
theorem SqAt.ext {g:bM}{c:Sq}{xs:Array af}(x:SqAt h c xs)(e:∀o,h.get? c.a=some o→g.get? c.a=some o):SqAt g c xs:=by
 obtain⟨l,a⟩:=c;cases l with
 | true=>obtain⟨o,ho,r⟩:=(show h.IsList a xs from x);exact⟨o,e o ho,r⟩
 | false=>obtain⟨o,ho,r⟩:=(show h.IsTuple a xs from x);exact⟨o,e o ho,r⟩
theorem ItAt.ext {g:bM}{c:Sq}{i:ao}(x:ItAt h c i k)(e:∀o,h.get? i=some o→g.get? i=some o):ItAt g c i k:=by
 obtain⟨l,a⟩:=c;cases l with
 | true=>obtain⟨o,ho,r⟩:=(show h.IsListIter i a k from x);exact⟨o,e o ho,r⟩
 | false=>obtain⟨o,ho,r⟩:=(show h.IsTupleIter i a k from x);exact⟨o,e o ho,r⟩
theorem ItAt.obj {c:Sq}{i:ao}(x:ItAt h c i k):∃o,h.get? i=some o∧∀v,o.data≠ .cell v:=by
 obtain⟨l,a⟩:=c;cases l with
 | true=>obtain⟨o,ho,_,d⟩:=(show h.IsListIter i a k from x);exact⟨o,ho,λv z=>by rw[d] at z;cases z⟩
 | false=>obtain⟨o,ho,_,d⟩:=(show h.IsTupleIter i a k from x);exact⟨o,ho,λv z=>by rw[d] at z;cases z⟩
theorem qB {c:Sq}{i:ao}{xs:Array af}{v:af}(jt:ItAt s.heap c i k)(tt:SqAt s.heap c xs)(hv:xs[k]? =some v)
  (q:∀g,ItAt g c i (k+1)→cT i s.heap g→Q v { s with heap:=g }):aT (bB prog w) A (dv (.ref i)) Q E s:=by
 obtain⟨l,a⟩:=c;cases l with
 | true=>exact wpAny_nextOf_list_item (show s.heap.IsListIter i a k from jt) (show s.heap.IsList a xs from tt) hv λg h1 h2=>q g h1 h2
 | false=>exact nextT_item (show s.heap.IsTupleIter i a k from jt) (show s.heap.IsTuple a xs from tt) hv λg h1 h2=>q g h1 h2
theorem nextS_end {c:Sq}{i:ao}{xs:Array af}(hh:A.handled=none)(jt:ItAt s.heap c i k)(tt:SqAt s.heap c xs)(hv:xs[k]? =none)
  (q:∀g x,bM.ExtBut i s.heap g→(∃o,g.get? x=some o∧o.cls= .type "StopIteration")→E (.ref x) { s with heap:=g }):aT (bB prog w) A (dv (.ref i)) Q E s:=by
 obtain⟨l,a⟩:=c;cases l with
 | true=>exact wpAny_nextOf_list_end hh (show s.heap.IsListIter i a k from jt) (show s.heap.IsList a xs from tt) hv λg x h1 h2=>q g x h1 h2
 | false=>exact nextT_end hh (show s.heap.IsTupleIter i a k from jt) (show s.heap.IsTuple a xs from tt) hv λg x h1 h2=>q g x h1 h2
theorem iterS {c:Sq}{xs:Array af}(tt:SqAt s.heap c xs)
  (q:∀g,ItAt g c s.heap.objs.size 0→g.objs.size=s.heap.objs.size+1→(∀b o,s.heap.get? b=some o→g.get? b=some o)→Q (.ref s.heap.objs.size) { s with heap:=g }):aT (bB prog w) A (pyIter (.ref c.a)) Q E s:=by
 obtain⟨l,a⟩:=c;cases l with
 | true=>exact gN (show s.heap.IsList a xs from tt) (q _ ⟨_,aQ _ rfl,rfl,rfl⟩ (dJ ..) λb o e=>av _ e)
 | false=>exact wpAny_pyIter_tuple (show s.heap.IsTuple a xs from tt) (q _ ⟨_,aQ _ rfl,rfl,rfl⟩ (dJ ..) λb o e=>av _ e)
theorem updRow {T:ao}{x:af}{Q:Unit→ar→Prop}(hT:mX s.heap T vs)(hz:vs.length≤100)
  (h:∀g,mX g T (vs.set k x)→cT T s.heap g→Q () { s with heap:=g }):aT (bB prog w) A (updateSeq T (·.setIfInBounds k x)) Q E s:=by
 apply wpAny_updateSeq hT rfl (h _ ?_ (cT.update ..)) (by rw[aG];exact cu hz ↥0) (by rw[Array.size_setIfInBounds,aG];exact cu hz ↥0);show bM.get? _ T=_;rw[iS _ hT rfl];simp[Obj.mapSeq]
structure ZIn (h g:bM)(z TI TO:ao)(cs:List Sq)(is:List ao)(k j:Nat)(vs old:List af):Prop where
 sz:g.objs.size=h.objs.size
 zip:IsZip g z TI TO .ellipsis
 row:mX g TO (vs.take j++old.drop j)
 its:∀(n:Nat) c i,cs[n]? =some c→is[n]? =some i→ItAt g c i (if n<j then k+1 else k)
 ext:∀e o,e≠z→e≠TO→e ∉ is→h.get? e=some o→g.get? e=some o
structure ZOk (h:bM)(z TI TO:ao)(cs:List Sq)(is:List ao)(k:Nat)(old:List af):Prop where
 len:is.length=cs.length
 few:cs.length≤8
 pos:0<cs.length
 nod:(z::TI::TO::is).Nodup
 zip:IsZip h z TI TO .none
 ti:mX h TI (is.map af.ref)
 to:mX h TO old
 lo:old.length=cs.length
 its:∀(n:Nat) c i,cs[n]? =some c→is[n]? =some i→ItAt h c i k
 off:∀c∈cs,c.a≠z∧c.a≠TO∧c.a ∉ is
theorem nod_ne {is:List ao}{i:ao}{e:ao}(hn:is.Nodup)(h1:is[j]? =some i)(h2:is[n]? =some e)(h:n≠j):e≠i:=λz=>by
 subst z;have a:=(ai.mp h1);have b:=(ai.mp h2);obtain⟨ha,ea⟩:=a;obtain⟨hb,eb⟩:=b;exact h ((List.getElem_inj hn).mp (eb.trans ea.symm))
theorem ZIn.step {g:bM}{z TI TO:ao}{cs:List Sq}{is:List ao}{i:ao}{c:Sq}(D:ZOk h z TI TO cs is k old)(Z:ZIn h g z TI TO cs is k j vs old)(hi:is[j]? =some i)(hc:cs[j]? =some c){g2 g3:bM}{v:af}(hv:vs[j]? =some v)(lv:vs.length=cs.length)
  (n2:ItAt g2 c i (k+1)) (s2:cT i g g2) (r3:mX g3 TO ((vs.take j++old.drop j).set j v)) (s3:cT TO g2 g3):ZIn h g3 z TI TO cs is k (j+1) vs old:=by
 have nod:=D.nod;rw[bN,bN,bN] at nod;obtain⟨nz,nT,nO,ni⟩:=nod;have mi:i∈is:=aC hi;have iz:z≠i:=λq=>nz (by rw[q];simp[mi])
 have iO:TO≠i:=λq=>nO (by rw[q];exact mi)
 have zO:z≠TO:=λq=>nz (by rw[q];simp)
 have jl:j<cs.length:=(ai.mp hc).1;apply⟨by rw[s3.1,s2.1,Z.sz],s3.extBut _ _ zO (s2.extBut _ _ iz Z.zip),?_,λn c' i' hc' hi'=>?_,λe o e1 e2 e3 q=>s3.extBut _ _ e2 (s2.extBut _ _ (λy=>e3 (by rw[y];exact mi)) (Z.ext e o e1 e2 e3 q))⟩
 ·have lo:=D.lo
  have e:(vs.take j++old.drop j).set j v=vs.take (j+1)++old.drop (j+1):=by
   have l1:(vs.take j).length=j:=by rw[aZ];lia
   rw[List.set_append,qI ⋯,l1,gp,List.drop_eq_getElem_cons (by lia:j<old.length),List.set_cons_zero,bW,hv];simp
  rw[←e];exact r3
 ·have mi':i'∈is:=aC hi'
  have iO':i'≠TO:=λq=>nO (by rw[←q];exact mi')
  by_cases e:n=j
  ·subst e
   rw[hi] at hi';rw[hc] at hc';cases hi';cases hc';rw[qJ ⋯];exact n2.ext λo q=>s3.extBut _ _ iO' q
  ·have q:=Z.its n c' i' hc' hi'
   have e2:(if n<j+1 then k+1 else k)=(if n<j then k+1 else k):=by
    by_cases y:n<j
    ·rw[qJ y,qJ ⋯]
    ·rw[qI y,qI ⋯]
   rw[e2];exact q.ext λo r=>s3.extBut _ _ iO' (s2.extBut _ _ (nod_ne ni hi hi' e) r)
theorem zipS_go {z TI TO:ao}{cs:List Sq}{is:List ao}{Q:Option af→ar→Prop}(D:ZOk s.heap z TI TO cs is k old)
  (hv:∀(n:Nat) c,cs[n]? =some c→∃xs v,SqAt s.heap c xs∧xs[k]? =some v∧vs[n]? =some v) (lv:vs.length=cs.length)
  (q:∀ g,IsZip g z TI TO (kt s.heap.objs.size)→mX g TO vs→(∀ (n:Nat) c i,cs[n]? =some c→is[n]? =some i→ItAt g c i (k+1))→mX g s.heap.objs.size vs→g.objs.size=s.heap.objs.size+1 →
   (∀ e o,e≠z→e≠TO→e ∉ is→s.heap.get? e=some o→g.get? e=some o)→Q (some (.ref s.heap.objs.size)) { s with heap:=g }):aT (bB prog w) A (pyNext (.ref z)) Q E s:=by
 have hT:s.TypeIs (.ref z) "zip" := ⟨_,D.zip,rfl⟩;have nod:=D.nod;rw[bN,bN,bN] at nod;obtain⟨nz,nT,nO,ni⟩:=nod;have zO:z≠TO:=λq=>nz (by rw[q];simp)
 have few:=D.few;have len:=D.len;unfold pyNext;apply ak (kW (fD (name:=au "__next__") hT F.slot_zip_next (iE F.slot_zip_next hT F.entry_zip_next ?_ (F.args_zip_next_1 _))));show aT _ _ (field (.ref z) 2 >>= _) _ _ s;apply ak (cQ D.zip rfl (x:= .bool false) (by rfl) ?_);show aT _ _ (field (.ref z) 3 >>= _) _ _ s;apply ak (cQ D.zip rfl (x:= .ref TI) (by rfl) ?_);apply ak (jz D.ti rfl ?_)
 dsimp only
 rw[qI (by intro y;rw[Array.isEmpty_iff_size_eq_zero,aG,ae,len] at y;have:=D.pos;lia)];apply ak ?_;unfold gf;apply ak (cQ D.zip rfl (x:= .none) (by rfl) (aN ?_));simp only[if_true];apply ak (wpAny_rule ?_);apply ak (cQ D.zip rfl (x:= .ref TO) (by rfl) ?_);apply ak (eN D.zip ∅ λg1 z1 s1=>?_);have z1:IsZip g1 z TI TO .ellipsis:=z1;apply ak ?_;apply oJ _ (λj b s'=>b=_∧∃g,s'={ s with heap:=g }∧ZIn s.heap g z TI TO cs is k j vs old) _ _ ⟨rfl,g1,rfl,?_⟩ ?_ ?_
 ·apply⟨s1.1,z1,s1.extBut _ _ zO.symm D.to,λn c i hc hi=>?_,λe o e1 _ _ h=>s1.extBut _ _ e1 h⟩
  rw[qI ⋯];exact(D.its n c i hc hi).ext λo h=>s1.extBut _ _ (λy=>nz (by rw[←y];simp[aC hi])) h
 ·rintro j a b s' ha ⟨rfl,g,rfl,Z⟩
  rw[List.getElem?_zipIdx] at ha;obtain⟨x,hx,rfl⟩:=aY.mp ha;have hx:(is.map af.ref)[j]? =some x:=by simpa using hx
  rw[aE] at hx;obtain⟨i,hi,rfl⟩:=aY.mp hx;have jl:j<cs.length:=by rw[←len];exact(ai.mp hi).1
  have hc:cs[j]? =some cs[j]:=gE jl;obtain⟨xs,v,hq,hxv,hvv⟩:=hv j _ hc;obtain⟨o1,o2,o3⟩:=D.off _ (c8 jl);have it:=Z.its j _ i hc hi;rw[qI ⋯] at it
  dsimp only
  apply ak (wpAny_onRaise ?_);show aT _ _ (dv (.ref i) >>= _) _ _ _;apply ak (qB it (hq.ext λo h=>Z.ext _ o o1 o2 o3 h) hxv λg2 n2 s2=>aN ?_);have iO:TO≠i:=λq=>nO (by rw[q];exact aC hi)
  have r2:mX g2 TO (vs.take j++old.drop j):=s2.extBut _ _ iO Z.row;apply ak (jz r2 rfl ?_);apply ak (updRow (x:=v) (k:=0+j) r2 (by rw[aq,aZ,bK];have:=D.lo;lia) λg3 r3 s3=>?_);rw[Nat.zero_add] at r3;apply ak (wpAny_letGo (aN ⟨_,rfl,rfl,g3,rfl,Z.step D hi hc hvv lv n2 s2 r3 s3⟩))
 ·rintro b s' ⟨rfl,g5,rfl,Z⟩
  have ll:((is.map af.ref).toArray.toList.zipIdx).length=cs.length:=by simp[len]
  rw[ll] at Z;have z5:=Z.zip;have o5:mX g5 TO vs:=by
   have:=Z.row;rw[←lv,cD,lv,←D.lo,List.drop_length,eY] at this;exact this
  have m5:∀(n:Nat) c i,cs[n]? =some c→is[n]? =some i→ItAt g5 c i (k+1):=λn c i hc hi=>by
   have:=Z.its n c i hc hi;rw[qJ (ai.mp hc).1] at this;exact this
  dsimp only
  apply ak (jz o5 rfl ?_);apply ak (wpAny_newTuple ?_);have zlt:z<g5.objs.size:=aS z5;have sz:=Z.sz;apply ak ?_;unfold iw;have z6:IsZip (g5.push { cls:= .type "tuple",data:= .seq vs.toArray }) z TI TO .ellipsis:=av _ z5;apply ak (eN z6 ∅ λg7 z7 s7=>?_);have z7:IsZip g7 z TI TO (kt g5.objs.size):=z7;apply eN z7 ∅ λg8 z8 s8=>?_
  have z8:IsZip g8 z TI TO (kt g5.objs.size):=z8;have up:∀e o,e≠z→g5.get? e=some o→g8.get? e=some o:=λe o c1 h=>s8.extBut _ _ c1 (s7.extBut _ _ c1 (av _ h))
  have t8:mX g8 g5.objs.size vs:=s8.extBut _ _ (jr zlt) (s7.extBut _ _ (jr zlt) (aQ _ rfl));have sz8:g8.objs.size=g5.objs.size+1:=by rw[s8.1,s7.1,dJ]
  rw[sz] at z8 t8 sz8;apply aN ⟨_,rfl,?_⟩;apply aN ?_;show Q (some (.ref g5.objs.size)) _;rw[sz];apply q g8 z8 (up _ _ zO.symm o5) (λn c i hc hi=>(m5 n c i hc hi).ext λo h=>up _ o (λy=>nz (by rw[←y];simp[aC hi])) h) t8 sz8 λe o c1 c2 c3 h=>up e o c1 (Z.ext e o c1 c2 c3 h)
theorem zipS_stop {z TI TO:ao}{cs:List Sq}{is:List ao}{cm:Sq}{Q:Option af→ar→Prop}(hh:A.handled=none)(D:ZOk s.heap z TI TO cs is k old)
  (hv:∀(n:Nat) c,cs[n]? =some c→n<m→∃xs v,SqAt s.heap c xs∧xs[k]? =some v∧vs[n]? =some v) (lv:vs.length=cs.length) (hm:cs[m]? =some cm) {xm:Array af} (hxm:SqAt s.heap cm xm) (hem:xm[k]? =none)
  (q:∀g,(∀e o,e≠z→e≠TO→e ∉ is→s.heap.get? e=some o→g.get? e=some o)→Q none { s with heap:=g }):aT (bB prog w) A (pyNext (.ref z)) Q E s:=by
 have hT:s.TypeIs (.ref z) "zip" := ⟨_,D.zip,rfl⟩;have nod:=D.nod;rw[bN,bN,bN] at nod;obtain⟨nz,nT,nO,ni⟩:=nod;have zO:z≠TO:=λq=>nz (by rw[q];simp)
 have few:=D.few;have len:=D.len;have fin:∀g x,(∀e o,e≠z→e≠TO→e ∉ is→s.heap.get? e=some o→g.get? e=some o)→(∃o,g.get? x=some o∧o.cls= .type "StopIteration") →
   aT (bB prog w) A (do if ← isInstance (.ref x) (.type "StopIteration") then hW none else throw (.ref x)) Q E { s with heap:=g }:=λg x k ⟨o,ho,hc⟩=>by
  apply ak (wpAny_isInstance (T := "StopIteration") (b:=true) ⟨o,ho,hc⟩ isSubtype_stop ?_);exact aN (q g k)
 have ml:m<cs.length:=(ai.mp hm).1;unfold pyNext;apply ak (kW (fD (name:=au "__next__") hT F.slot_zip_next (iE F.slot_zip_next hT F.entry_zip_next ?_ (F.args_zip_next_1 _))));show aT _ _ (field (.ref z) 2 >>= _) _ _ s;apply ak (cQ D.zip rfl (x:= .bool false) (by rfl) ?_);show aT _ _ (field (.ref z) 3 >>= _) _ _ s;apply ak (cQ D.zip rfl (x:= .ref TI) (by rfl) ?_);apply ak (jz D.ti rfl ?_)
 dsimp only
 rw[qI (by intro y;rw[Array.isEmpty_iff_size_eq_zero,aG,ae,len] at y;have:=D.pos;lia)];apply ak ?_;unfold gf;apply ak (cQ D.zip rfl (x:= .none) (by rfl) (aN ?_));simp only[if_true];apply ak (wpAny_rule ?_);apply ak (cQ D.zip rfl (x:= .ref TO) (by rfl) ?_);apply ak (eN D.zip ∅ λg1 z1 s1=>?_);have z1:IsZip g1 z TI TO .ellipsis:=z1;apply ak ?_;apply oJ _ (λj b s'=>b=_∧j≤m∧∃g,s'={ s with heap:=g }∧ZIn s.heap g z TI TO cs is k j vs old) _ _ ⟨rfl,dG _,g1,rfl,?_⟩ ?_ ?_
 ·apply⟨s1.1,z1,s1.extBut _ _ zO.symm D.to,λn c i hc hi=>?_,λe o e1 _ _ h=>s1.extBut _ _ e1 h⟩
  rw[qI ⋯];exact(D.its n c i hc hi).ext λo h=>s1.extBut _ _ (λy=>nz (by rw[←y];simp[aC hi])) h
 ·rintro j a b s' ha ⟨rfl,jm,g,rfl,Z⟩
  rw[List.getElem?_zipIdx] at ha;obtain⟨x,hx,rfl⟩:=aY.mp ha;have hx:(is.map af.ref)[j]? =some x:=by simpa using hx
  rw[aE] at hx;obtain⟨i,hi,rfl⟩:=aY.mp hx;have jl:j<cs.length:=by rw[←len];exact(ai.mp hi).1
  have hc:cs[j]? =some cs[j]:=gE jl;obtain⟨o1,o2,o3⟩:=D.off _ (c8 jl);have it:=Z.its j _ i hc hi;rw[qI ⋯] at it;have iO:TO≠i:=λq=>nO (by rw[q];exact aC hi)
  have iz:z≠i:=λq=>nz (by rw[q];simp[aC hi])
  dsimp only
  apply ak (wpAny_onRaise ?_);show aT _ _ (dv (.ref i) >>= _) _ _ _
  by_cases e:j=m
  ·subst e
   rw[hc] at hm;cases hm;apply ak (nextS_end hh it (hxm.ext λo h=>Z.ext _ o o1 o2 o3 h) hem λg2 x s2 hx2=>?_);obtain⟨oe,e1,e2⟩:=hx2;have z2:IsZip g2 z TI TO .ellipsis:=s2 _ _ iz Z.zip;have xz:x≠z:=λr=>by subst r;rw[z2] at e1;cases e1;simp at e2
   exact eN z2 ∅ λg3 _ s3=>fin g3 x (λe o c1 c2 c3 h=>s3.extBut _ _ c1 (s2 _ _ (λy=>c3 (by rw[y];exact aC hi)) (Z.ext e o c1 c2 c3 h))) ⟨oe,s3.extBut _ _ xz e1,e2⟩
  ·obtain⟨xs,v,hq,hxv,hvv⟩:=hv j _ hc ⋯
   apply ak (qB it (hq.ext λo h=>Z.ext _ o o1 o2 o3 h) hxv λg2 n2 s2=>aN ?_);have r2:mX g2 TO (vs.take j++old.drop j):=s2.extBut _ _ iO Z.row;apply ak (jz r2 rfl ?_);apply ak (updRow (x:=v) (k:=0+j) r2 (by rw[aq,aZ,bK];have:=D.lo;lia) λg3 r3 s3=>?_);rw[Nat.zero_add] at r3;apply ak (wpAny_letGo (aN ⟨_,rfl,rfl,⋯,g3,rfl,Z.step D hi hc hvv lv n2 s2 r3 s3⟩))
 ·rintro b s' ⟨rfl,jm,g5,rfl,Z⟩
  have ll:((is.map af.ref).toArray.toList.zipIdx).length=cs.length:=by simp[len]
  rw[ll] at jm;lia
theorem mW {α:Type}{P:Nat→α→Prop}:∀(k:Nat),(∀n,n<k→∃u,P n u)→∃us:List α,us.length=k∧∀(n:Nat) u,us[n]? =some u→P n u
 | 0,_=>⟨[],rfl,λn u h=>by simp at h⟩
 | k+1,h=>by
  obtain⟨us,hl,hu⟩:=mW k λn hn=>h n ⋯
  obtain⟨u,pu⟩:=h k ⋯;apply⟨us++[u],by rw[aq,hl];rfl,λn v hv=>?_⟩
  by_cases e:n<us.length
  ·rw[bI e] at hv
   exact hu n v hv
  ·rw[bh ⋯] at hv
   have hn:n=us.length:=by
    have:=(ai.mp hv).1;simp at this;lia
   subst hn;rw[gp] at hv;cases hv;rw[hl];exact pu
theorem vals_of:∀{vs:List V} {us:List af},vs.length=us.length→(∀(n:Nat) v u,vs[n]? =some v→us[n]? =some u→iG v u)→gU vs us
 | [],[],_,_=> .nil
 | v::vs,u::us,hl,h=> .cons (h 0 v u rfl rfl) (vals_of (by simpa using hl) λn v' u' a b=>h (n+1) v' u' a b)
 | [],_::_,hl,_=>by simp at hl
 | _::_,[],hl,_=>by simp at hl
def HSq (H:Hp)(c:Sq)(xs:List V):Prop:=match c.l with | true=>H c.a=some (.lst xs) | false=>H c.a=some (.tup xs)
theorem HSq.inj {c:Sq}{ys:List V}(a:HSq H c xs)(b:HSq H c ys):xs=ys:=by
 obtain⟨l,q⟩:=c;cases l with
 | true=>have a:H q=some (.lst xs):=a;have b:H q=some (.lst ys):=b;rw[a] at b;cases b;rfl
 | false=>have a:H q=some (.tup xs):=a;have b:H q=some (.tup ys):=b;rw[a] at b;cases b;rfl
theorem HSq.has {c:Sq}(a:HSq H c xs):∃o,H c.a=some o:=by
 obtain⟨l,q⟩:=c;cases l with
 | true=>exact⟨_,a⟩
 | false=>exact⟨_,a⟩
theorem HSq.at {c:Sq}(I:Inv X aI σ H s)(h:HSq H c xs):∃its,gU xs its∧SqAt s.heap c its.toArray:=by
 obtain⟨l,q⟩:=c;cases l with
 | true =>
  obtain⟨its,r,p,_⟩:=I.list (SqL.of (K:=X.K) (show H q=some (.lst xs) from h));exact⟨its,r,p.isList⟩
 | false =>
  obtain⟨its,r,p,_⟩:=I.tuple (SqT.of (K:=X.K) (show H q=some (.tup xs) from h));exact⟨its,r,p⟩
def Itq (cs:List Sq):It :=
 ⟨fun i H=>∃ vs:List V,vs.length=cs.length∧∀ (n:Nat) c,cs[n]? =some c→∃ xs x,HSq H c xs∧xs[i]? =some x∧vs[n]? =some x,
  λi H v H'=>∃p vs,H p=none∧v= .ref p∧H'=upd H p (.tup vs)∧vs.length=cs.length∧∀(n:Nat) c x xs,cs[n]? =some c→HSq H c xs→vs[n]? =some x→xs[i]? =some x,
  fun i H=>∃ m cm xm,cs[m]? =some cm∧HSq H cm xm∧xm.length≤i∧∀ (n:Nat) c,cs[n]? =some c→n<m→∃ xs x,HSq H c xs∧xs[i]? =some x⟩
theorem turn_zipS {k0}{z TI TO:ao}{cs:List Sq}{is:List ao} :
  Turn P w K (.Tuple es k0 pos) (Itq cs) (z::TI::TO::is) z (λi h=>∃old,ZOk h z TI TO cs is i old) where
 mem:=by simp
 obj:=λi h st c hc=>by
  obtain⟨old,D⟩:=st;simp only[aw] at hc
  rcases hc with rfl | rfl | rfl | hc
  ·exact⟨_,D.zip,λv z=>by cases z⟩
  ·exact⟨_,D.ti,λv z=>by cases z⟩
  ·exact⟨_,D.to,λv z=>by cases z⟩
  ·obtain⟨n,hn⟩:=cb hc
   have hl:n<cs.length:=by rw[←D.len];exact(ai.mp hn).1
   exact(D.its n _ c (gE hl) hn).obj
 keep:=λi h h' st k=>by
  obtain⟨old,D⟩:=st;exact⟨old,D.len,D.few,D.pos,D.nod,k z ∅ _ D.zip,k TI ∅ _ D.ti,k TO ∅ _ D.to,D.lo,λn c i hc hi=>(D.its n c i hc hi).ext λo e=>k i (by simp[aC hi]) o e,D.off⟩
 item:=by
  intro X hP hw hK hc i aI s σ H E I hf st hg;subst hP hw hK;obtain⟨old,D⟩:=st;obtain⟨vs,lv,hv⟩:=hg;have nz:∀e∈z::TI::TO::is,H e=none:=λe he=>(hf e he).1
  have hT:H s.heap.objs.size=none:=I.fresh;have ex:∀n,n<cs.length→∃u:af,(∀c,cs[n]? =some c→∃xs,SqAt s.heap c xs∧xs[i]? =some u)∧∀v,vs[n]? =some v→iG v u:=λn hn=>by
   obtain⟨xs,x,h1,h2,h3⟩:=hv n _ (gE hn);obtain⟨its,r,p⟩:=h1.at I;obtain⟨u,hu,ru⟩:=r.get h2;apply⟨u,λc hc=>?_,λv hv'=>?_⟩
   ·rw[gE hn] at hc
    cases hc;exact⟨_,p,by simpa using hu⟩
   ·rw[h3] at hv'
    cases hv';exact ru
  obtain⟨us,lu,hu⟩:=mW cs.length ex;have hrel:gU vs us:=vals_of ⋯ λn v u a b=>(hu n u b).2 v a
  apply zipS_go D (vs:=us) (λn c hc=>?_) lu λg z1 to1 m1 tp sz kk=>⟨ρ,?_⟩
  ·have hn:n<us.length:=by rw[lu];exact(ai.mp hc).1
   obtain⟨xs,a,b⟩:=(hu n _ (gE hn)).1 c hc;exact⟨xs,us[n],a,b,gE hn⟩
  apply wpAny_letOwnedTupleGo_zip z1 λg2 z2 s2=>?_
  have s2:cT z g g2:=s2;have k2:∀e o,e ∉ z::TO::is→s.heap.get? e=some o→g2.get? e=some o:=λe o hn h=>by
   simp only[aw,not_or] at hn;exact s2.extBut _ _ hn.1 (kk e o hn.1 hn.2.1 hn.2.2 h)
  have zlt:z<s.heap.objs.size:=aS D.zip;have tp2:mX g2 s.heap.objs.size us:=s2.extBut _ _ (jr zlt) tp;have sub:∀e∈z::TO::is,e∈z::TI::TO::is:=λe he=>by
   simp only[aw] at he ⊢
   rcases he with rfl | rfl | he <;> simp[*]
  have trk:∀e o,H e=some o→e ∉ z::TO::is:=λe o he hm=>by rw[nz e (sub e hm)] at he;cases he
  have J:Inv X aI σ (upd H s.heap.objs.size (.tup vs)) { s with heap:=g2 }:=by
   apply I.turnAll (ch:=z::TO::is) (λe he=>hf e (sub e he)) k2 (λe o h=>by rw[bo (aV h hT)];exact h) (λe o h n=>by rw[bo (cJ (aS h))];exact n) λe o h=>?_
   by_cases q:e=s.heap.objs.size
   ·subst q
    rw[aR] at h;cases h;exact⟨by rw[lv];exact cu D.few ↥0,us,hrel,_,tp2,rfl,rfl,ρ⟩
   ·rw[bo q] at h
    apply (I.hok e o h).stay (fun c v hc' q'=>k2 c v (by
     rcases hc' with z' | z'
     ·rw[z'];exact trk e o h
     ·exact trk c _ z') q') (fun c q'=>by rw [bo (aV q' hT)];exact q') fun c xs q'=>by rw [bo (aV q' hT)];exact q'
  have nod:=D.nod;rw[bN,bN,bN] at nod;obtain⟨nz',nT,nO,ni⟩:=nod;apply⟨.ref s.heap.objs.size,_,J,rfl,⟨_,vs,hT,rfl,rfl,lv,λn c x xs hc hq hx=>?_⟩,⟨us,D.len,D.few,D.pos,D.nod,z2,?_,s2.extBut _ _ (λy=>nz' (by rw[←y];simp)) to1,lu,λn c j hc hj=>?_,D.off⟩,λe he=>?_⟩
  ·obtain⟨ys,y,h1,h2,h3⟩:=hv n c hc
   rw[h1.inj hq] at h2;rw[h3] at hx;cases hx;exact h2
  ·apply k2 _ _ (λy=>?_) D.ti
   rcases aw.mp y with y | y
   ·exact nz' (by rw[←y];simp)
   ·exact nT y
  ·exact(m1 n c j hc hj).ext λo e=>s2.extBut _ _ (λy=>nz' (by rw[←y];simp[aC hj])) e
  ·have hlt:e<s.heap.objs.size:=by
    simp only[aw] at he
    rcases he with rfl | rfl | rfl | he
    ·exact aS D.zip
    ·exact aS D.ti
    ·exact aS D.to
    ·obtain⟨n,hn⟩:=cb he
     have hl:n<cs.length:=by rw[←D.len];exact(ai.mp hn).1
     obtain⟨o,ho,_⟩:=(D.its n _ e (gE hl) hn).obj;exact aS ho
   rw[bo (cJ hlt)];exact nz e he
 done:=by
  intro X hP hw hK hc i aI s σ H E I hf st hg;subst hP hw hK;obtain⟨old,D⟩:=st;obtain⟨m,cm,xm,hm,hxm,hi,hv⟩:=hg;have nz:∀e∈z::TI::TO::is,H e=none:=λe he=>(hf e he).1
  have ex:∀n,n<cs.length→∃u:af,∀c,cs[n]? =some c→n<m→∃xs,SqAt s.heap c xs∧xs[i]? =some u:=λn hn=>by
   by_cases e:n<m
   ·obtain⟨xs,x,h1,h2⟩:=hv n _ (gE hn) e
    obtain⟨its,r,p⟩:=h1.at I;obtain⟨u,hu,ru⟩:=r.get h2;apply⟨u,λc hc _=>?_⟩;rw[gE hn] at hc;cases hc;exact⟨_,p,by simpa using hu⟩
   ·exact⟨.none,λc _ z=>qK z e⟩
  obtain⟨us,lu,hu⟩:=mW cs.length ex;obtain⟨its,r,p⟩:=hxm.at I;have hl:=r.length;apply zipS_stop (I.ok.hd hc) D (vs:=us) (m:=m) (λn c hc hn=>?_) lu hm p (by simp;lia) λg kk=>⟨rfl,?_⟩
  ·have hn':n<us.length:=by rw[lu];exact(ai.mp hc).1
   obtain⟨xs,a,b⟩:=hu n _ (gE hn') c hc hn;exact⟨xs,us[n],a,b,gE hn'⟩
  have sub:∀e∈z::TO::is,e∈z::TI::TO::is:=λe he=>by
   simp only[aw] at he ⊢
   rcases he with rfl | rfl | he <;> simp[*]
  have k2:∀e o,e ∉ z::TO::is→s.heap.get? e=some o→g.get? e=some o:=λe o hn h=>by
   simp only[aw,not_or] at hn;exact kk e o hn.1 hn.2.1 hn.2.2 h
  have trk:∀e o,H e=some o→e ∉ z::TO::is:=λe o he hm=>by rw[nz e (sub e hm)] at he;cases he
  apply I.turnAll (ch:=z::TO::is) (λe he=>hf e (sub e he)) k2 (λ_ _ h=>h) (λ_ _ _ n=>n) λe o h=>?_
  exact (I.hok e o h).stay (fun c v hc' q'=>k2 c v (by
   rcases hc' with z' | z'
   ·rw[z'];exact trk e o h
   ·exact trk c _ z') q') (fun _ q'=>q') fun _ _ q'=>q'
 self:=λ_ _ _ _ _ st h=>let ⟨_,D⟩:=st;wpAny_pyIter_zip D.zip h
structure ZNew (h g:bM)(cs:List Sq):Prop where
 zip:IsZip g (h.objs.size+cs.length+2) (h.objs.size+cs.length) (h.objs.size+cs.length+1) .none
 ti:mX g (h.objs.size+cs.length) (((cS cs.length).map λj=>h.objs.size+j).map af.ref)
 to:mX g (h.objs.size+cs.length+1) (jX cs.length .none)
 its:∀(n:Nat) c,cs[n]? =some c→ItAt g c (h.objs.size+n) 0
 ext:∀b o,h.get? b=some o→g.get? b=some o
theorem newClass_zip (vs:List af):ee.SmallTypes.newClass "zip" ⟨.type "zip" :: vs,[]⟩=hW (.type "zip",vs):=by
 unfold ee.SmallTypes.newClass;simp only[isType,sub_zip,pure_bind,Bool.not_true,Bool.false_eq_true,if_false]
theorem zipS_new (cs:List Sq)(few:cs.length≤8) :
  Meets (ee.«zip.__new__» ⟨.type "zip" :: cs.map λc=>af.ref c.a,[]⟩) (λ_ R s=>(∀c∈cs,∃xs,SqAt s.heap c xs)∧∀g,ZNew s.heap g cs→R (.ok (.ret (.ref (s.heap.objs.size+cs.length+2)))) { s with heap:=g }) :=
 .of_wp λprog w A R s h=>by
  obtain⟨h1,h⟩:=h;unfold ee.«zip.__new__»;apply ak (wpAny_of_eq (newClass_zip _) ?_);show aT _ _ (ee.SmallTypes.iterAll (cs.map λc=>af.ref c.a) >>= _) _ _ _;apply ak ?_;unfold ee.SmallTypes.iterAll;apply ak (oJ _ (λj its s'=>∃g,s'={ s with heap:=g }∧g.objs.size=s.heap.objs.size+j∧its=((cS j).map λi=>af.ref (s.heap.objs.size+i)).toArray∧(∀(n:Nat) c,n<j→cs[n]? =some c→ItAt g c (s.heap.objs.size+n) 0)∧∀b o,s.heap.get? b=some o→g.get? b=some o) _ _ ⟨s.heap,rfl,rfl,rfl,λn c hn=>qK hn ⋯,λ_ _ e=>e⟩ ?_ ?_)
  ·rintro j a its s' ha ⟨g,rfl,sz,rfl,hit,ext⟩
   rw[aE] at ha;obtain⟨c,hc,rfl⟩:=aY.mp ha;obtain⟨xs,hx⟩:=h1 c (aC hc);apply ak (gT (iterS (c:=c) (xs:=xs) (hx.ext λo e=>ext _ o e) λg2 i2 z2 e2=>?_));apply aN ⟨_,rfl,g2,rfl,?_,?_,λn c' hn hc'=>?_,λb o e=>e2 b o (ext b o e)⟩
   ·show g2.objs.size=_
    rw[z2];show g.objs.size+1=_;rw[sz];lia
   ·show Array.push _ (af.ref g.objs.size)=_
    rw[sz,List.range_succ,ax];simp
   ·by_cases e:n=j
    ·subst e
     rw[hc] at hc';cases hc';have i2:ItAt g2 c g.objs.size 0:=i2;rw[sz] at i2;exact i2
    ·exact(hit n c' ⋯ hc').ext λo q=>e2 _ o q
  ·rintro its s' ⟨g,rfl,sz,rfl,hit,ext⟩
   have ll:(cs.map λc=>af.ref c.a).length=cs.length:=ae ..;rw[ll] at sz hit ⊢;apply aN ?_
   dsimp only
   have n8:((cS cs.length).map λi=>af.ref (s.heap.objs.size+i)).length≤aA:=by
    rw[ae,jY];exact cu few ↥0
   apply ak (wpAny_newTuple ?_ (by simpa using n8));apply ak (wpAny_newTuple ?_ (by simpa using n8));apply ak ?_;unfold ee.SmallTypes.newRecord;apply fW (aN ⟨_,rfl,?_⟩) (by show 5≤aA+2;decide);have e1:(g.push { cls:= .type "tuple",data:= .seq ((cS cs.length).map λi=>af.ref (s.heap.objs.size+i)).toArray }).objs.size=s.heap.objs.size+cs.length+1:=by rw[dJ,sz]
   have e2:((g.push { cls:= .type "tuple",data:= .seq ((cS cs.length).map λi=>af.ref (s.heap.objs.size+i)).toArray }).push { cls:= .type "tuple",data:= .seq ((((cS cs.length).map λi=>af.ref (s.heap.objs.size+i)).toArray.toList.map λ_=>af.none)).toArray }).objs.size=s.heap.objs.size+cs.length+2:=by rw[dJ,e1]
   have key:=h (((g.push { cls:= .type "tuple",data:= .seq ((cS cs.length).map λi=>af.ref (s.heap.objs.size+i)).toArray }).push { cls:= .type "tuple",data:= .seq ((((cS cs.length).map λi=>af.ref (s.heap.objs.size+i)).toArray.toList.map λ_=>af.none)).toArray }).push { cls:= .type "zip",data:= .fields #[.none,.bool false,.bool false,.ref (s.heap.objs.size+cs.length),.ref (s.heap.objs.size+cs.length+1)] })
    ⟨by rw[←e2];exact aQ _ rfl,?_,?_,λn c hc=>(hit n c (ai.mp hc).1 hc).ext λo q=>av _ (av _ (av _ q)),λb o q=>av _ (av _ (av _ (ext b o q)))⟩
   ·rw[←e2] at key
    have e1':(s.heap.objs.size+cs.length:Nat)=g.objs.size:=sz.symm;rw[←e1,e1'] at key;exact key
   ·have em:(((cS cs.length).map λj=>s.heap.objs.size+j).map af.ref)=((cS cs.length).map λi=>af.ref (s.heap.objs.size+i)):=by rw[b9];rfl
    show bM.get? _ _=_;rw[em,←sz];exact av _ (av _ (aQ _ rfl))
   ·rw[←e1]
    have er:(((cS cs.length).map λi=>af.ref (s.heap.objs.size+i)).toArray.toList.map λ_=>af.none)=jX cs.length af.none:=by
     rw[List.eq_replicate_iff];exact⟨∅,λx hx=>by obtain⟨_,_,rfl⟩:=aJ.mp hx;rfl⟩
    rw[er];exact av _ (aQ _ rfl)
theorem zip_args3 (a b c d:af):argsOk "object.__init__" ⟨[a,b,c,d],[]⟩:=by
 unfold argsOk;rw[signature?_of (id := "object.__init__") (n:=['_','_','t','i','n','i','_','_']) (o:=['t','c','e','j','b','o']) (by kernel_rfl) F.owner_object]
 kernel_rfl
theorem zip_type3 (a b c:af):checkTypeCall "zip" ⟨[a,b,c],[]⟩=hW ():=by kernel_rfl
theorem zip_new3 (a b c:af):checkBuiltinCall "zip.__new__" ⟨[.type "zip",a,b,c],[]⟩=hW ():=by kernel_rfl
theorem zip_walk {s1:ar}{k0}{pt:Pos}{R:It→Hp→Prop}{cs:List Sq}(I1:Inv X aI σ H1 s1)(few:cs.length≤8)(pos:0<cs.length)(hq:∀c∈cs,∃xs,HSq H1 c xs)(q:R (Itq cs) H1){g:bM}(Z:ZNew s1.heap g cs) :
  aT (bB X.prog X.w) X.A (pyIter (.ref (s1.heap.objs.size+cs.length+2))) (PIE X aI σ (.Tuple es k0 pt) R) E { s1 with heap:=g }:=by
 have small:∀c∈cs,c.a<s1.heap.objs.size:=λc hc=>by
  obtain⟨xs,hx⟩:=hq c hc;obtain⟨o,ho⟩:=hx.has;exact Nat.lt_of_not_le λhge=>by rw[I1.hok.fresh hge] at ho;cases ho
 apply wpAny_pyIter_zip Z.zip ⟨_,(s1.heap.objs.size+cs.length+2)::(s1.heap.objs.size+cs.length)::(s1.heap.objs.size+cs.length+1)::((cS cs.length).map λj=>s1.heap.objs.size+j),_,Itq cs,H1,rfl,I1.kept (t':=s1.toks) Z.ext,turn_zipS,⟨_,?_,few,pos,?_,Z.zip,Z.ti,Z.to,by rw[List.length_replicate],λn c i hc hi=>?_,λc hc=>?_⟩,λe he=>?_,q⟩
 ·rw[ae,jY]
 ·have nd:((cS cs.length).map λj=>s1.heap.objs.size+j).Nodup:=by
   rw[List.nodup_iff_pairwise_ne,List.pairwise_map];exact(List.nodup_iff_pairwise_ne.mp List.nodup_range).imp λh e=>h ⋯
  have out:∀x,s1.heap.objs.size+cs.length≤x→x ∉ ((cS cs.length).map λj=>s1.heap.objs.size+j):=λx hx hm=>by
   obtain⟨j,hj,rfl⟩:=aJ.mp hm;have:=List.mem_range.mp hj;lia
  rw[bN,bN,bN];apply⟨λh=>?_,λh=>?_,λh=>out _ (by show @LE.le Nat _ _ _;lia) h,nd⟩
  ·rcases aw.mp h with h | h
   ·have h: @Eq Nat _ _:=h
    lia
   ·rcases aw.mp h with h | h
    ·have h: @Eq Nat _ _:=h
     lia
    ·exact out _ (by show @LE.le Nat _ _ _;lia) h
  ·rcases aw.mp h with h | h
   ·have h: @Eq Nat _ _:=h
    lia
   ·exact out _ (by show @LE.le Nat _ _ _;lia) h
 ·rw[aE,List.getElem?_range (ai.mp hc).1] at hi
  cases hi;exact Z.its n c hc
 ·have:=small c hc
  have this: @LT.lt Nat _ c.a s1.heap.objs.size:=this;apply⟨by show @Ne Nat _ _;lia,by show @Ne Nat _ _;lia,λhm=>?_⟩;obtain⟨j,hj,e⟩:=aJ.mp hm;have e: @Eq Nat _ _:=e;lia
 ·have hge:s1.heap.objs.size≤e:=by
   simp only[aw] at he
   rcases he with rfl | rfl | rfl | he
   ·show @LE.le Nat _ _ _;lia
   ·show @LE.le Nat _ _ _;lia
   ·show @LE.le Nat _ _ _;lia
   ·obtain⟨j,hj,rfl⟩:=aJ.mp he
    show @LE.le Nat _ _ _;lia
  exact I1.fpOk hge (I1.hok.fresh hge)
def iZip2 (ta:TA):TI:=λσ H R=>ta σ H λvs H1=>∃c1 c2 xs ys,vs=[.ref c1.a,.ref c2.a]∧HSq H1 c1 xs∧HSq H1 c2 ys∧R (Itq [c1,c2]) H1
theorem pi_zip2 {eb:Expr}{ta:TA}{p:Pos}{k0}{pt:Pos}(hg:Gl X "zip")(hm:X.mg "zip" =none)(ha:PA X [ea,eb] ta)(hs:autoParam (br [ea,eb] X.env=[(false,dU ea X.env),(false,dU eb X.env)]) L2.au0._auto_1)(hs2:autoParam (br [eb] X.env=[(false,dU eb X.env)]) L2.au0._auto_1) :
  PI X (.Tuple es k0 pt) (.Call (.Name "zip" p) [ea,eb] [] pos) (iZip2 ta):=by
 intro aI s σ H R I h;apply Call_ (nJ I hg hm boot_zip (dH (thn (ha pos aI s σ H _ I h) λus s1 hz0=>?_) (by rw[hs,hs2]) (by rw[hs2];rfl)));obtain⟨vs,H1,I1,r1,q1⟩:=hz0;obtain⟨c1,c2,xs,ys,e,h1,h2,q⟩:=q1;subst e;obtain⟨u1,u2,rfl,r2,r3⟩:=vals2 r1;cases(show u1=af.ref c1.a from r2);cases(show u2=af.ref c2.a from r3);obtain⟨_,_,p1⟩:=h1.at I1;obtain⟨_,_,p2⟩:=h2.at I1;apply callType_new F.called_zip ↥0 (F.typeCall_zip_2 _ _) (F.newCall_zip_2 _ _) (λobj=>F.args_object_init_3 obj _ _) F.entry_zip_new (zipS_new [c1,c2] (by show 2≤8;decide)) ⟨λc hc=>?_,λg Z=>⟨⟨_,Z.zip,rfl⟩,?_⟩⟩
 ·simp only[aw,aO,or_false] at hc
  rcases hc with rfl | rfl
  ·exact⟨_,p1⟩
  ·exact⟨_,p2⟩
 ·apply zip_walk (cs:=[c1,c2]) I1 (by show 2≤8;decide) (by show 0<2;decide) (λc hc=>?_) q Z
  simp only[aw,aO,or_false] at hc
  rcases hc with rfl | rfl
  ·exact⟨_,h1⟩
  ·exact⟨_,h2⟩
theorem valsThree {x z:V}(h:gU [x,y,z] us):∃u1 u2 u3,us=[u1,u2,u3]∧iG x u1∧iG y u2∧iG z u3:=by
 cases h with
 | cons h1 r1=>cases r1 with
  | cons h2 r2=>cases r2 with
   | cons h3 r3=>cases r3;exact⟨_,_,ρ,h1,h2,h3⟩
def iZip3 (ta:TA):TI:=λσ H R=>ta σ H λvs H1=>∃c1 c2 c3 xs ys zs,vs=[.ref c1.a,.ref c2.a,.ref c3.a]∧HSq H1 c1 xs∧HSq H1 c2 ys∧HSq H1 c3 zs∧R (Itq [c1,c2,c3]) H1
theorem pi_zip3 {eb ec:Expr}{ta:TA}{p:Pos}{k0}{pt:Pos}(hg:Gl X "zip")(hm:X.mg "zip" =none)(ha:PA X [ea,eb,ec] ta)(hs:autoParam (br [ea,eb,ec] X.env=[(false,dU ea X.env),(false,dU eb X.env),(false,dU ec X.env)]) L2.au0._auto_1)(hs2:autoParam (br [eb,ec] X.env=[(false,dU eb X.env),(false,dU ec X.env)]) L2.au0._auto_1) :
  PI X (.Tuple es k0 pt) (.Call (.Name "zip" p) [ea,eb,ec] [] pos) (iZip3 ta):=by
 intro aI s σ H R I h;apply Call_ (nJ I hg hm boot_zip (dH (thn (ha pos aI s σ H _ I h) λus s1 hz0=>?_) (by rw[hs,hs2]) (by rw[hs2];rfl)));obtain⟨vs,H1,I1,r1,q1⟩:=hz0;obtain⟨c1,c2,c3,xs,ys,zs,e,h1,h2,h3,q⟩:=q1;subst e;obtain⟨u1,u2,u3,rfl,r2,r3,r4⟩:=valsThree r1;cases(show u1=af.ref c1.a from r2);cases(show u2=af.ref c2.a from r3);cases(show u3=af.ref c3.a from r4);obtain⟨_,_,p1⟩:=h1.at I1;obtain⟨_,_,p2⟩:=h2.at I1;obtain⟨_,_,p3⟩:=h3.at I1;apply callType_new F.called_zip ↥0 (zip_type3 _ _ _) (zip_new3 _ _ _) (λobj=>zip_args3 obj _ _ _) F.entry_zip_new (zipS_new [c1,c2,c3] (by show 3≤8;decide)) ⟨λc hc=>?_,λg Z=>⟨⟨_,Z.zip,rfl⟩,?_⟩⟩
 ·simp only[aw,aO,or_false] at hc
  rcases hc with rfl | rfl | rfl
  ·exact⟨_,p1⟩
  ·exact⟨_,p2⟩
  ·exact⟨_,p3⟩
 ·apply zip_walk (cs:=[c1,c2,c3]) I1 (by show 3≤8;decide) (by show 0<3;decide) (λc hc=>?_) q Z
  simp only[aw,aO,or_false] at hc
  rcases hc with rfl | rfl | rfl
  ·exact⟨_,h1⟩
  ·exact⟨_,h2⟩
  ·exact⟨_,h3⟩
theorem for_zipB2 {c1 c2:Sq}{ys:List V}{D:Ends}(Pv:Nat→St→Hp→Prop)(h0:Pv 0 σ H)(hl:∀i σ H,i≤ys.length→Pv i σ H→HSq H c1 xs∧HSq H c2 ys)(hxy:ys.length≤xs.length)
  (hs:∀i x y p σ H,xs[i]? =some x→ys[i]? =some y→Pv i σ H→H p=none→g (.ref p) σ (upd H p (.tup [x,y])) λσ2 H2=>tb { D with nx:=Pv (i+1),ct:=Pv (i+1),bk:=D.nx } σ2 H2) (hd:∀σ H,Pv ys.length σ H→D.nx σ H) :
  ∃W:Nat→Nat→St→Hp→Prop,(∃m,W 0 m σ H)∧∀i m σ H,W i m σ H →
   ((Itq [c1,c2]).stop i H∧D.nx σ H)∨((Itq [c1,c2]).go i H∧∃N:St→Hp→Prop,(∀σ' H',N σ' H'→∃m',m'<m∧W (i+1) m' σ' H')∧∀x H',(Itq [c1,c2]).yld i H x H'→g x σ H' λσ2 H2=>tb { D with nx:=N,ct:=N,bk:=D.nx } σ2 H2):=by
 apply⟨λi m σ H=>i≤ys.length∧m=ys.length - i∧Pv i σ H,⟨_,dG _,rfl,h0⟩,λi m σ H w=>?_⟩;obtain⟨hi,hm,hp⟩:=w;obtain⟨qa,qb⟩:=hl i σ H hi hp
 by_cases e:i=ys.length
 ·subst e
  apply .inl ⟨?_,hd σ H hp⟩
  by_cases q:ys.length<xs.length
  ·apply⟨1,c2,ys,rfl,qb,aD _,λn c hc hn=>?_⟩
   obtain rfl:n=0:=by lia
   cases hc;exact⟨xs,_,qa,gE q⟩
  ·exact⟨0,c1,xs,rfl,qa,⋯,λn c _ hn=>qK hn ⋯⟩
 ·have hlt2:i<ys.length:=gj hi e
  have hlt:i<xs.length:=by lia
  apply .inr ⟨⟨[xs[i],ys[i]],rfl,λn c hc=>?_⟩,Pv (i+1),λσ' H' hp'=>⟨ys.length - (i+1),⋯,⋯,rfl,hp'⟩,λv H3 hy=>?_⟩
  ·match n,hc with
   | 0,hc=>cases hc;exact⟨xs,xs[i],qa,gE hlt,rfl⟩
   | 1,hc=>cases hc;exact⟨ys,ys[i],qb,gE hlt2,rfl⟩
   | n+2,hc=>simp at hc
  ·obtain⟨p,vs,hn,rfl,rfl,lv,hx⟩:=hy
   rcases vs with _ | ⟨x,_ | ⟨y,_ | ⟨u,vs⟩⟩⟩ <;> first | exact hs i x y p σ H (hx 0 c1 x xs rfl qa rfl) (hx 1 c2 y ys rfl qb rfl) hp hn | simp at lv
theorem for_zipB3 {c1 c2 c3:Sq}{ys zs:List V}{D:Ends}(Pv:Nat→St→Hp→Prop)(h0:Pv 0 σ H)(hl:∀i σ H,i≤ys.length→Pv i σ H→HSq H c1 xs∧HSq H c2 ys∧HSq H c3 zs)(hxy:ys.length≤xs.length)(hyz:ys.length=zs.length)
  (hs:∀i x y z p σ H,xs[i]? =some x→ys[i]? =some y→zs[i]? =some z→Pv i σ H→H p=none→g (.ref p) σ (upd H p (.tup [x,y,z])) λσ2 H2=>tb { D with nx:=Pv (i+1),ct:=Pv (i+1),bk:=D.nx } σ2 H2) (hd:∀σ H,Pv ys.length σ H→D.nx σ H) :
  ∃W:Nat→Nat→St→Hp→Prop,(∃m,W 0 m σ H)∧∀i m σ H,W i m σ H →
   ((Itq [c1,c2,c3]).stop i H∧D.nx σ H)∨((Itq [c1,c2,c3]).go i H∧∃N:St→Hp→Prop,(∀σ' H',N σ' H'→∃m',m'<m∧W (i+1) m' σ' H')∧∀x H',(Itq [c1,c2,c3]).yld i H x H'→g x σ H' λσ2 H2=>tb { D with nx:=N,ct:=N,bk:=D.nx } σ2 H2):=by
 apply⟨λi m σ H=>i≤ys.length∧m=ys.length - i∧Pv i σ H,⟨_,dG _,rfl,h0⟩,λi m σ H w=>?_⟩;obtain⟨hi,hm,hp⟩:=w;obtain⟨qa,qb,qc⟩:=hl i σ H hi hp
 by_cases e:i=ys.length
 ·subst e
  apply .inl ⟨?_,hd σ H hp⟩
  by_cases q:ys.length<xs.length
  ·apply⟨1,c2,ys,rfl,qb,aD _,λn c hc hn=>?_⟩
   obtain rfl:n=0:=by lia
   cases hc;exact⟨xs,_,qa,gE q⟩
  ·exact⟨0,c1,xs,rfl,qa,⋯,λn c _ hn=>qK hn ⋯⟩
 ·have hlt2:i<ys.length:=gj hi e
  have hlt:i<xs.length:=by lia
  have hlt3:i<zs.length:=by lia
  apply .inr ⟨⟨[xs[i],ys[i],zs[i]],rfl,λn c hc=>?_⟩,Pv (i+1),λσ' H' hp'=>⟨ys.length - (i+1),⋯,⋯,rfl,hp'⟩,λv H3 hy=>?_⟩
  ·match n,hc with
   | 0,hc=>cases hc;exact⟨xs,xs[i],qa,gE hlt,rfl⟩
   | 1,hc=>cases hc;exact⟨ys,ys[i],qb,gE hlt2,rfl⟩
   | 2,hc=>cases hc;exact⟨zs,zs[i],qc,gE hlt3,rfl⟩
   | n+3,hc=>simp at hc
  ·obtain⟨p,vs,hn,rfl,rfl,lv,hx⟩:=hy
   rcases vs with _ | ⟨x,_ | ⟨y,_ | ⟨z,_ | ⟨u,vs⟩⟩⟩⟩ <;> first | exact hs i x y z p σ H (hx 0 c1 x xs rfl qa rfl) (hx 1 c2 y ys rfl qb rfl) (hx 2 c3 z zs rfl qc rfl) hp hn | simp at lv
end L2
variable {cs:List L2.Sq}
namespace HN
open PySem L2 PyProof.Rows HT2
abbrev sRideL:cW:=clsOf cLin 3
inductive spRideL (C:ao)(vs:List V)(H:Hp)(Q:VK)(_:XK):Prop
 | mk (x D:ao)(n z y:Str)(ss:List Str)(rs:List Int)(fi:Int)(_:vs=[.ref x,.str z,.str y])(_:LinD H C x n ss rs D fi)(_:ss.length=rs.length+1)(_:2≤ss.length)(_:ss.Nodup)(_:∀H',cB H H'→(∀(i:Nat) (r:Int),ss[i]? =some z→ss[i+1]? =some y→rs[i]? =some r→Q (.int r) H')∧((∀i:Nat,ss[i]? =some z→ss[i+1]? ≠some y)→Q .non H'))
theorem scRideL:cI ["self","stop","after","here","there","run"] pzw (defScope sRideL):=by trivial
theorem ok_rideL (F:Fun K "ride" "Line.ride" sRideL f fd)(hz:mg "zip" =none)(CC:LinC K C):‹0› 1 f fd pzw (spRideL C):=by
 specialize F.ok scRideL;obtain⟨x,D,n,z,y,ss,rs,fi,rfl,⟨dx,a,b,hx,ha,hb⟩,hl,two,nd,k⟩:=h;apply⟨_,PSl.h (bz ⟨(je cz rfl (pi_zip3 rfl hz (ah (fO (pv 0) rfl) (ah (fq mR (fO (pv 0) rfl) (fZ aP) hZ) (ah (fO (pv 0) rfl) ay)))) (pg_tup rfl (jk (pgZ 3 scRideL.nd) (jk (pgZ 4 scRideL.nd) (jk (pgZ 5 scRideL.nd) pz)))) (bH (gC (PW.pt (nj (cf iW (pv 3) (pv 1) (cN _)) (lQ (cf iW (pv 4) (pv 2) (cN _))))) (bH (cA (pv 5))) cZ)))⟩ (gy ⟨(cA jf)⟩)),?_⟩;have hls:(ss.map V.str).length=ss.length:=ae _;have e1:HT.sIx (ss.map V.str).length 0 (some 1)=1:=by
  rw[hls];have:=HT.sIx_nat ss.length 0 1;rw[dA ⋯] at this;exact this
 apply⟨ρ,x,C,dx,_,ρ,hx,CC.cl,CC.n2,rfl,ρ,x,C,dx,_,ρ,hx,CC.cl,CC.n2,rfl,ρ,a,ρ,SqT.of ha,?_,λp H1 S1 e=>?_⟩
 ·rw[e1]
  intro q;exact qK q.1 ↥0
 rw[cutF (i:=1) (n:=1) rfl,←fH] at e;apply⟨ρ,x,C,dx,_,ρ,S1 _ _ hx,CC.cl,CC.n3,rfl,⟨false,a⟩,⟨false,p⟩,⟨false,b⟩,_,_,ρ,S1 _ _ ha,e,S1 _ _ hb,?_⟩;apply for_zipB3 (c1:=⟨false,a⟩) (c2:=⟨false,p⟩) (c3:=⟨false,b⟩) (xs:=ss.map V.str) (ys:=(ss.drop 1).map V.str) (zs:=rs.map V.int) (λi σ H2=>cB H1 H2∧(∀j,j<i→ss[j]? =some z→ss[j+1]? ≠some y)∧∃v3 v4 v5,σ=[some (.ref x),some (.str z),some (.str y),v3,v4,v5])
  ⟨cB.refl _,λj hj=>qK hj (jM _),none,none,none,rfl⟩ (λi σ H2 _ q=>⟨q.1 _ _ (S1 _ _ ha),q.1 _ _ e,q.1 _ _ (S1 _ _ hb)⟩) (by rw[ae,ae,bK];lia) (by rw[ae,ae,bK];lia) ?_ ?_
 ·rintro i x1 x2 x3 q σ H2 h1 h2 h3 ⟨S2,no,v3,v4,v5,rfl⟩ hq
  rw[aE] at h1 h2 h3;obtain⟨u1,g1,rfl⟩:=aY.mp h1;obtain⟨u2,g2,rfl⟩:=aY.mp h2;obtain⟨r,g3,rfl⟩:=aY.mp h3;rw[fe,Nat.add_comm] at g2;have S6:cB H1 (upd H2 q (.tup [.str u1,.str u2,.int r])):=S2.put hq;have h6:(upd H2 q (.tup [.str u1,.str u2,.int r])) q=some (.tup [.str u1,.str u2,.int r]):=aR;generalize upd H2 q (.tup [.str u1,.str u2,.int r])=H6 at S6 h6 ⊢;have nx:¬(u1=z∧u2=y)→∀j,j<i+1→ss[j]? =some z→ss[j+1]? ≠some y:=λhne j hj w1 w2=>by
   rcases jH.mp hj with hj | hj
   ·exact no j hj w1 w2
   ·subst hj
    rw[g1] at w1;rw[g2] at w2;exact hne ⟨bF w1,bF w2⟩
  apply⟨q,ρ,SqT.of h6,rfl,_,ρ,_,ρ,ς,?_⟩;apply⟨ρ,ρ,rfl,ρ,jC (λc1=>?_) (λc1=>?_)⟩
  ·have c1:u1=z:=by have:=qN c1;injection this
   apply⟨ρ,ρ,rfl,ρ,jC (λc2=>?_) (λc2=>?_)⟩
   ·have c2:u2=y:=by have:=qN c2;injection this
    exact⟨ρ,(k H6 (S1.trans S6)).1 i r (c1 ▸ g1) (c2 ▸ g2) g3⟩
   ·exact⟨S6,nx λz=>c2 (qL (by rw[z.2])),_,_,ρ⟩
  ·exact⟨S6,nx λz=>c1 (qL (by rw[z.1])),_,_,ρ⟩
 ·rintro σ H2 ⟨S2,no,v3,v4,v5,rfl⟩
  apply(k H2 (S1.trans S2)).2 λi h1 h2=>no i ?_ h1 h2
  have:=(ai.mp h2).1;rw[ae,bK];lia
abbrev sLabL:cW:=clsOf cLin 5
def labs (n:Str):List Str→List (List V)
 | s::t::r=>[.str n,.str s,.str "goes"]::[.str n,.str t,.str "comes"]::labs n (t::r)
 | _=>[]
inductive spLabL (C:ao)(vs:List V)(H:Hp)(Q:VK)(_:XK):Prop
 | mk (x D:ao)(n:Str)(ss:List Str)(rs:List Int)(fi:Int)(_:vs=[.ref x])(_:LinD H C x n ss rs D fi)(_:2≤ss.length)(_:ss.length≤1000)(_:∀(L:ao) (as:List ao) (H':Hp),cB H H'→H L=none→H' L=some (.lst (as.map V.ref))→as.map H'=(labs n ss).map (λt=>some (HO.tup t))→Q (.ref L) H')
theorem labs_take {n:Str}:∀{ss:List Str} {i:Nat} {s t:Str},ss[i]? =some s→ss[i+1]? =some t→labs n (ss.take (i+2))=labs n (ss.take (i+1))++[[.str n,.str s,.str "goes"],[.str n,.str t,.str "comes"]]
 | [],_,_,_,h,_=>by cases h
 | [_],0,_,_,_,h=>by cases h
 | [_],_+1,_,_,h,_=>by cases h
 | a::b::r,0,s,t,h1,h2=>by cases h1;cases h2;rfl
 | a::b::r,i+1,s,t,h1,h2=>by
  have ih:=labs_take (n:=n) (ss:=b::r) (i:=i) h1 h2;show _::_::labs n ((b::r).take (i+2))=_::_::(labs n ((b::r).take (i+1))++_);rw[ih]
theorem nG {as:List ao}{ts:List (List V)}(h:as.map H=ts.map (λt=>some (HO.tup t)))(k:∀c o,c≠L→H c=some o→H' c=some o)(hL:H L=some (.lst xs)):as.map H'=ts.map (λt=>some (HO.tup t)):=by
 rw[←h];apply dn λc hc=>?_
 have hm:H c∈ts.map (λt=>some (HO.tup t)):=by rw[←h];exact eQ hc
 obtain⟨t,_,e⟩:=aJ.mp hm;rw[←e];exact k c _ (λz=>by rw[z,hL] at e;cases e) e.symm
theorem scLabL:cI ["self","labels","here","there"] pza (defScope sLabL):=by trivial
theorem ok_labL (F:Fun K "own_labels" "Line.own_labels" sLabL f fd)(hz:mg "zip" =none)(CC:LinC K C):‹0› 1 f fd pza (spLabL C):=by
 specialize F.ok scLabL;obtain ⟨x,D,n,ss,rs,fi,rfl,⟨dx,a,b,hx,ha,hb⟩,two,few,k⟩:=h;apply ⟨_,PSl.h (bz ⟨(psZ 1 scLabL.nd (kY ay))⟩ (bz ⟨(je cz rfl (pi_zip2 rfl hz (ah (fO (pv 0) rfl) (ah (fq mR (fO (pv 0) rfl) (fZ aP) hZ) ay))) (pg_tup rfl (jk (pgZ 2 scLabL.nd) (jk (pgZ 3 scLabL.nd) pz)))
  (PSl.h (bz ⟨(iA (jg bJ cw cv ia (pv 1) (ah (jq (ah (fO (pv 0) rfl) (ah (pv 2) (ah dC ay)))) ay)))⟩
   (gy ⟨(iA (jg bJ cw cv ia (pv 1) (ah (jq (ah (fO (pv 0) rfl) (ah (pv 3) (ah dC ay)))) ay)))⟩))))⟩ (gy ⟨(cA (pv 1))⟩))),?_⟩
 have hls:(ss.map V.str).length=ss.length:=ae _;have e1:HT.sIx (ss.map V.str).length 0 (some 1)=1:=by
  rw[hls];have:=HT.sIx_nat ss.length 0 1;rw[dA ⋯] at this;exact this
 apply⟨(by show 0≤aA;decide),λL hLn=>?_⟩;have S0:cB H (upd H L (.lst [])):=cB.put (cB.refl H) hLn;have hL:(upd H L (.lst [])) L=some (.lst []):=aR;generalize upd H L (.lst [])=H0 at S0 hL ⊢;have S0x:=S0 _ _ hx;apply⟨ρ,x,C,dx,_,ρ,S0x,CC.cl,CC.n2,rfl,ρ,x,C,dx,_,ρ,S0x,CC.cl,CC.n2,rfl,ρ,a,ρ,SqT.of (S0 _ _ ha),?_,λp H1 S1 e=>?_⟩
 ·rw[e1]
  intro q;exact qK q.1 ↥0
 rw[cutF (i:=1) (n:=1) rfl,←fH] at e;have hL1:=S1 _ _ hL;have ha1:=S1 _ _ (S0 _ _ ha);have hx1:=S1 _ _ S0x;apply⟨⟨false,a⟩,⟨false,p⟩,_,ρ,ha1,e,?_⟩;apply for_zipB2 (c1:=⟨false,a⟩) (c2:=⟨false,p⟩) (xs:=ss.map V.str) (ys:=(ss.drop 1).map V.str) (λi σ H2=>(∀c o,c≠L→H1 c=some o→H2 c=some o)∧(∃as:List ao,as.length=2 * i∧H2 L=some (.lst (as.map V.ref))∧as.map H2=(labs n (ss.take (i+1))).map (λt=>some (HO.tup t)))∧∃v2 v3,σ=[some (.ref x),some (.ref L),v2,v3])
  ⟨λc o _ h=>h,⟨[],rfl,hL1,by cases ss with | nil=>rfl | cons s r=>rfl⟩,none,none,rfl⟩ (λi σ H2 _ q=>⟨q.1 _ _ (eF ha1 hL1 nofun) ha1,q.1 _ _ (eF e hL1 nofun) e⟩) (by rw[ae,ae,bK];lia) ?_ ?_
 ·rintro i x1 x2 q σ H2 h1 h2 ⟨k2,⟨as,la,hL2,hm⟩,v2,v3,rfl⟩ hq
  rw[aE] at h1 h2;obtain⟨u1,g1,rfl⟩:=aY.mp h1;obtain⟨u2,g2,rfl⟩:=aY.mp h2;rw[fe,Nat.add_comm] at g2;have li:i+1<ss.length:=(ai.mp g2).1;have big:(100000:Nat)≤aA:=by decide
  have S6:cB H2 (upd H2 q (.tup [.str u1,.str u2])):=cB.put (cB.refl H2) hq;have h6:(upd H2 q (.tup [.str u1,.str u2])) q=some (.tup [.str u1,.str u2]):=aR;generalize upd H2 q (.tup [.str u1,.str u2])=H6 at S6 h6 ⊢;have xL:x≠L:=eF hx1 hL1 nofun;have hx6:=S6 _ _ (k2 _ _ xL hx1);apply⟨q,ρ,SqT.of h6,rfl,_,ρ,ς,?_⟩;have hL6:=S6 _ _ hL2;apply⟨ρ,.inl ⟨rfl,_,SqL.of hL6⟩,ρ,x,C,dx,_,ρ,hx6,CC.cl,CC.n1,rfl,ρ,(by show 3≤aA;decide),λp1 H7 S7 e7=>?_⟩;have hL7:=S7 _ _ hL6;apply⟨L,ς,hL7,(by rw[ae,la];lia),?_⟩;have S68:∀c o,c≠L→H2 c=some o→(upd H7 L (.lst (as.map V.ref++[.ref p1]))) c=some o:=λc o hc h=>by rw[bo hc];exact S7 _ _ (S6 _ _ h)
  have p1L:p1≠L:=eF e7 hL7 nofun;have e8:(upd H7 L (.lst (as.map V.ref++[.ref p1]))) p1=some (.tup [.str n,.str u1,.str "goes"]):=by rw[bo p1L];exact e7
  have hL8:(upd H7 L (.lst (as.map V.ref++[.ref p1]))) L=some (.lst (as.map V.ref++[.ref p1])):=aR;generalize upd H7 L (.lst (as.map V.ref++[.ref p1]))=H8 at S68 e8 hL8 ⊢;have hm8:=nG hm S68 hL2;have hx8:=S68 _ _ xL (k2 _ _ xL hx1);apply⟨ρ,.inl ⟨rfl,_,SqL.of hL8⟩,ρ,x,C,dx,_,ρ,hx8,CC.cl,CC.n1,rfl,ρ,(by show 3≤aA;decide),λp2 H9 S9 e9=>?_⟩;have hL9:=S9 _ _ hL8;apply⟨L,ς,hL9,(by rw[aq,ae,la];show 2 * i+1<aA;lia),?_⟩;have p2L:p2≠L:=eF e9 hL9 nofun;have k9:∀c o,c≠L→H8 c=some o→(upd H9 L (.lst (as.map V.ref++[.ref p1]++[.ref p2]))) c=some o:=λc o hc h=>by rw[bo hc];exact S9 _ _ h
  apply⟨λc o hc h=>k9 _ _ hc (S68 _ _ hc (k2 _ _ hc h)),⟨as++[p1,p2],by rw[aq,la];show 2 * i+2=_;lia,?_,?_⟩,_,ρ⟩
  ·rw[aR,ax,hV];rfl
  ·rw[labs_take g1 g2,ax,ax,nG hm8 k9 hL8]
   congr 1;show[_,_]=[_,_];rw[k9 _ _ p1L e8,bo p2L,e9]
 ·rintro σ H2 ⟨k2,⟨as,la,hL2,hm⟩,v2,v3,rfl⟩
  apply⟨ρ,k L as H2 (λc o h=>k2 c o ?_ (S1 _ _ (S0 _ _ h))) ?_ hL2 ?_⟩
  ·intro z;rw[z,hLn] at h;cases h
  ·exact hLn
  ·rw[hm,ae,bK,eM ⋯]
abbrev sApart:cW:=top 37
structure LinK (P:aK)(w:bc)(K:aj)(mg:Str→Option af)(base:bM)(C:ao)(fc fg fr:ao)(dc dg dr:aU):Prop where
 cc:LinC K C
 m1:qH K C "coming" fc
 f1:‹0› 1 fc dc pzg (spComL C)
 b1:Binds K dc pzg []
 m2:qH K C "going" fg
 f2:‹0› 1 fg dg pzg (spGoL C)
 b2:Binds K dg pzg []
 m3:qH K C "ride" fr
 f3:‹0› 1 fr dr pzw (spRideL C)
 b3:Binds K dr pzw []
structure LnOk (H:Hp)(C x:ao)(ss:List Str)(rs:List Int)(fi:Int):Prop where
 d:∃D n,LinD H C x n ss rs D fi
 nd:ss.Nodup
 two:2≤ss.length
 few:ss.length≤1000
 rl:ss.length=rs.length+1
theorem LnOk.kept {x:ao}{fi:Int}(S:cB H H')(h:LnOk H C x ss rs fi):LnOk H' C x ss rs fi:=by
 obtain⟨⟨D,n,dx,a,b,h1,h2,h3⟩,q⟩:=h;exact⟨⟨D,n,dx,a,b,S _ _ h1,S _ _ h2,S _ _ h3⟩,by assumption,by assumption,by assumption,by assumption⟩
inductive spApart (C:ao)(vs:List V)(H:Hp)(Q:VK)(_:XK):Prop
 | mk (bt d:Int)(x y p:ao)(n1 n2 z:Str)(ss tt:List Str)(rs us:List Int)(fi gi:Int)(i j:Nat)(_:vs=[.int bt,.ref x,.ref y,.ref p])(_:LnOk H C x ss rs fi)(_:LnOk H C y tt us gi)(_:H p=some (.tup [.str "apart",.str n1,.str n2,.str z,.int d]))(_:ss[i]? =some z)(_:i+1<ss.length)(_:tt[j]? =some z)(_:j+1<tt.length)(_:∀q H',cB H H'→H' q=some (.tup [.int (fi+2 * i),.int (gi+2 * j),.int d,.int (bt - d),.int 0])→Q (.ref q) H')
theorem scApart:cI pzh pzh (defScope sApart):=by trivial
theorem ok_apart {fc fg fr:ao}(F:Fun K "apart_span" "apart_span" sApart f fd)(CK:LinK P w K mg base C fc fg fr dc dg dr):‹0› 2 f fd pzh (spApart C):=by
 specialize F.ok scApart;obtain⟨bt,d,x,y,p,n1,n2,z,ss,tt,rs,us,fi,gi,i,j,rfl,hx,hy,hp,e1,e2,e3,e4,k⟩:=h;apply⟨_,bH (cA (jq (ah (ig (pv 1) CK.cc.cl CK.m2 CK.f2 hr CK.b2 .nil jh (ah (ixZ (pv 3)) ay)) (ah (ig (pv 2) CK.cc.cl CK.m2 CK.f2 hr CK.b2 .nil jh (ah (ixZ (pv 3)) ay)) (ah (ixZ (pv 3)) (ah (c7 ji (pv 0) (ixZ (pv 3))) (ah aP ay))))))),?_⟩;obtain⟨⟨D,n,L⟩,nd,two,few,_⟩:=hx;obtain⟨dx,a,b,hx1,_⟩:=id L;apply⟨ρ,x,dx,ρ,hx1,rfl,ρ,p,τ,SqT.of hp,bp (j:=3) rfl,x,D,n,z,ss,rs,fi,rfl,L,few,two,nd,λH1 S1=>⟨λi' a1 a2=>?_,λno=>qK (no i e1) ⋯⟩⟩;obtain rfl:i'=i:=by
  rcases ic i' i with q | q | q
  ·exact qK a1 (kZ nd e1 _ q)
  ·exact q
  ·exact qK e1 (kZ nd a1 _ q)
 obtain⟨⟨D2,n2',L2'⟩,nd2,two2,few2,_⟩:=hy.kept S1;obtain⟨dy,a3,b3,hy1,_⟩:=id L2';apply⟨ρ,y,dy,ρ,hy1,rfl,ρ,p,τ,SqT.of (S1 _ _ hp),bp (j:=3) rfl,y,D2,n2',z,tt,us,gi,rfl,L2',few2,two2,nd2,λH2 S2=>⟨λj' a1' a2'=>?_,λno=>qK (no j e3) ⋯⟩⟩;obtain rfl:j'=j:=by
  rcases ic j' j with q | q | q
  ·exact qK a1' (kZ nd2 e3 _ q)
  ·exact q
  ·exact qK e3 (kZ nd2 a1' _ q)
 have hp2:=S2 _ _ (S1 _ _ hp);apply⟨ρ,p,τ,SqT.of hp2,bp (j:=4) rfl,ρ,ρ,p,τ,SqT.of hp2,bp (j:=4) rfl,ς,szZ5,λq H3 S3 e=>?_⟩;exact k q H3 (S1.trans (S2.trans S3)) e
abbrev sMeet:cW:=top 38
inductive spMeet (C:ao)(vs:List V)(H:Hp)(Q:VK)(_:XK):Prop
 | mk (bt d r u:Int)(x y p:ao)(n1 n2 z z2:Str)(ss tt:List Str)(rs us:List Int)(fi gi:Int)(i j:Nat)(_:vs=[.int bt,.ref x,.ref y,.ref p])(_:LnOk H C x ss rs fi)(_:LnOk H C y tt us gi)(_:H p=some (.tup [.str "meet",.str n1,.str n2,.str z,.str z2,.int d]))(_:ss[i]? =some z)(_:ss[i+1]? =some z2)(_:rs[i]? =some r)(_:tt[j]? =some z2)(_:tt[j+1]? =some z)(_:us[j]? =some u)(_:∀q H',cB H H'→H' q=some (.tup [.int (fi+2 * i),.int (gi+2 * j),.int (r+d),.int (bt - u - d),.int 0])→Q (.ref q) H')
theorem j6 (nd:ss.Nodup)(e:ss[i]? =some z)(a:ss[j]? =some z):j=i:=by
 rcases ic j i with q | q | q
 ·exact qK a (kZ nd e _ q)
 ·exact q
 ·exact qK e (kZ nd a _ q)
theorem scMeet:cI ["beat","one","other","row","ride","back"] pzh (defScope sMeet):=by trivial
theorem ok_meet {fc fg fr:ao}(F:Fun K "meet_span" "meet_span" sMeet f fd)(CK:LinK P w K mg base C fc fg fr dc dg dr):‹0› 2 f fd pzh (spMeet C):=by
 specialize F.ok scMeet;obtain ⟨bt,d,r,u,x,y,p,n1,n2,z,z2,ss,tt,rs,us,fi,gi,i,j,rfl,hx,hy,hp,e1,e2,e3,e4,e5,e6,k⟩:=h;apply ⟨_,PSl.h (bz ⟨(psZ 4 scMeet.nd (ig (pv 1) CK.cc.cl CK.m3 CK.f3 hr CK.b3 .nil jh (ah (ixZ (pv 3)) (ah (ixZ (pv 3)) ay))))⟩
  (bz ⟨(psZ 5 scMeet.nd (ig (pv 2) CK.cc.cl CK.m3 CK.f3 hr CK.b3 .nil jh (ah (ixZ (pv 3)) (ah (ixZ (pv 3)) ay))))⟩
  (bz ⟨(gC (PW.pt (mx (cf op_isN (pv 4) jf (cN _)) (kX (cf op_isN (pv 5) jf (cN _))))) (bH (cA jf)) cZ)⟩
  (gy ⟨(cA (jq (ah (ig (pv 1) CK.cc.cl CK.m2 CK.f2 hr CK.b2 .nil jh (ah (ixZ (pv 3)) ay)) (ah (ig (pv 2) CK.cc.cl CK.m2 CK.f2 hr CK.b2 .nil jh (ah (ixZ (pv 3)) ay)) (ah (c7 gx (pv 4) (ixZ (pv 3))) (ah (c7 ji (c7 ji (pv 0) (pv 5)) (ixZ (pv 3))) (ah aP ay)))))))⟩)))),?_⟩
 obtain⟨⟨D,n,L⟩,nd,two,few,rl⟩:=id hx;obtain⟨dx,a,b,hx1,_⟩:=id L;apply⟨ρ,x,dx,ρ,hx1,rfl,ρ,p,τ,SqT.of hp,bp (j:=3) rfl,ρ,p,τ,SqT.of hp,bp (j:=4) rfl,x,D,n,z,z2,ss,rs,fi,rfl,L,rl,two,nd,λH1 S1=>⟨λi' r' a1 a2 a3=>?_,λno=>qK e2 (no i e1)⟩⟩;obtain rfl:=j6 nd e1 a1;obtain rfl:r'=r:=bF (a3.symm.trans e3);obtain⟨⟨D2,n2',L2'⟩,nd2,two2,few2,rl2⟩:=hy.kept S1;obtain⟨dy,a4,b4,hy1,_⟩:=id L2';have hp1:=S1 _ _ hp;apply⟨ρ,y,dy,ρ,hy1,rfl,ρ,p,τ,SqT.of hp1,bp (j:=4) rfl,ρ,p,τ,SqT.of hp1,bp (j:=3) rfl,y,D2,n2',z2,z,tt,us,gi,rfl,L2',rl2,two2,nd2,λH2 S2=>⟨λj' u' b1 b2 b3=>?_,λno=>qK e5 (no j e4)⟩⟩;obtain rfl:=j6 nd2 e4 b1;obtain rfl:u'=u:=bF (b3.symm.trans e6);have hp2:=S2 _ _ hp1;apply⟨ρ,rfl,ρ,lq (qM nofun) ⟨_,rfl,rfl,_,rfl,lq (qM nofun) ?_⟩⟩;obtain⟨⟨D3,n3,L3⟩,_,_,_,_⟩:=hx.kept (S1.trans S2);obtain⟨dx3,a5,b5,hx3,_⟩:=id L3;have l1:=(ai.mp e2).1;have l2:=(ai.mp e5).1;apply⟨ρ,x,dx3,ρ,hx3,rfl,ρ,p,τ,SqT.of hp2,bp (j:=3) rfl,x,D3,n3,z,ss,rs,fi,rfl,L3,few,two,nd,λH3 S3=>⟨λi2 c1 c2=>?_,λno=>qK (no _ e1) ⋯⟩⟩;obtain rfl:=j6 nd e1 c1;obtain⟨⟨D4,n4,L4⟩,_,_,_,_⟩:=hy.kept (S1.trans (S2.trans S3));obtain⟨dy4,a6,b6,hy4,_⟩:=id L4;have hp3:=S3 _ _ hp2;apply⟨ρ,y,dy4,ρ,hy4,rfl,ρ,p,τ,SqT.of hp3,bp (j:=4) rfl,y,D4,n4,z2,tt,us,gi,rfl,L4,few2,two2,nd2,λH4 S4=>⟨λj2 d1 d2=>?_,λno=>qK (no _ e4) ⋯⟩⟩;obtain rfl:=j6 nd2 e4 d1;have hp4:=S4 _ _ hp3;apply⟨ρ,ρ,p,τ,SqT.of hp4,bp (j:=5) rfl,ς,ρ,ρ,ς,ρ,p,τ,SqT.of hp4,bp (j:=5) rfl,ς,szZ5,λq H5 S5 e=>?_⟩;exact k q H5 (S1.trans (S2.trans (S3.trans (S4.trans S5)))) e
structure Ln where
 n:Str
 ss:List Str
 rs:List Int
 st:List (Str×Int×Int×Int)
 fi:Int
def sty (st:List (Str×Int×Int×Int))(z:Str):Int×Int×Int:=((st.find? λp=>decide (p.1=z)).map (·.2)).getD (0,0,0)
def stp (l:Ln)(i:Nat):List Sn:=⟨l.fi+2 * i,l.fi+2 * i+1,l.rs.getD i 0,l.rs.getD i 0,0⟩ ::
 (if i+2<l.ss.length then [⟨l.fi+2 * i+1,l.fi+2 * i+2,(sty l.st (l.ss.getD (i+1) c9)).1,(sty l.st (l.ss.getD (i+1) c9)).2.1,(sty l.st (l.ss.getD (i+1) c9)).2.2⟩] else [])
def ownN (l:Ln)(k:Nat):List Sn:=(cS k).flatMap (stp l)
abbrev ownS (l:Ln):List Sn:=ownN l l.rs.length
theorem my (l:Ln)(k:Nat):ownN l (k+1)=ownN l k++stp l k:=by
 unfold ownN;rw[List.range_succ,List.flatMap_append];simp
theorem stp_len (l:Ln)(i:Nat):(stp l i).length≤2:=by
 unfold stp;split <;> simp
theorem ownN_len (l:Ln):∀k,(ownN l k).length≤2 * k
 | 0=>by simp[ownN]
 | k+1=>by
  have:=ownN_len l k;have:=stp_len l k;rw[my,aq];lia
abbrev snD (x:Sn):Dt:= .tup (x.row.map Dt.int)
structure StA (H:Hp)(D:ao)(st:List (Str×Int×Int×Int)):Prop where
 ex:∃kvs:List (Key×V),H D=some (.dK kvs)∧kvs.length=st.length∧∀z,(∀v,mY kvs (.inr z)=some v→∃a,v= .ref a∧H a=some (.tup [.int (sty st z).1,.int (sty st z).2.1,.int (sty st z).2.2]))∧(mY kvs (.inr z)=none→sty st z=(0,0,0)∧z ∉ st.map (·.1))∧((mY kvs (.inr z)).isSome=true→z∈st.map (·.1))
structure LnA (H:Hp)(C x D:ao)(l:Ln):Prop where
 d:LinD H C x l.n l.ss l.rs D l.fi
 s:StA H D l.st
 nd:l.ss.Nodup
 two:2≤l.ss.length
 few:l.ss.length≤1000
 rl:l.ss.length=l.rs.length+1
theorem StA.kept {st:List (Str×Int×Int×Int)}(k:∀b xs,H b=some (.tup xs)→H' b=some (.tup xs))(e:H' D=H D)(h:StA H D st):StA H' D st:=by
 obtain⟨kvs,h1,h2,h3⟩:=h.ex;apply⟨kvs,e.trans h1,h2,λz=>⟨λv hv=>?_,(h3 z).2⟩⟩;obtain⟨a,e1,e2⟩:=(h3 z).1 v hv;exact⟨a,e1,k _ _ e2⟩
theorem LnA.kept {x:ao}{l:Ln}(k:∀b xs,H b=some (.tup xs)→H' b=some (.tup xs))(k2:∀b C dx fs,H b=some (.ins C dx fs)→H' b=some (.ins C dx fs))(e:H' D=H D)(h:LnA H C x D l):LnA H' C x D l:=by
 obtain⟨dx,a,b,h1,h2,h3⟩:=h.d;exact⟨⟨dx,a,b,k2 _ _ _ _ h1,k _ _ h2,k _ _ h3⟩,h.s.kept k e,h.nd,h.two,h.few,h.rl⟩
theorem LnA.same {x:ao}{l:Ln}(S:cB H H')(h:LnA H C x D l):LnA H' C x D l:=by
 obtain⟨kvs,h1,_⟩:=h.s.ex;exact h.kept (λb xs e=>S _ _ e) (λb C dx fs e=>S _ _ e) ((S _ _ h1).trans h1.symm)
structure Unt (K:aj)(mg:Str→Option af):Prop where
 ex:∃t,mg "STAY_UNTOLD" =some (.ref t)∧∀H,SqT K H t [.int 0,.int 0,.int 0]
inductive spOwn (C:ao)(vs:List V)(H:Hp)(Q:VK)(_:XK):Prop
 | mk (x D:ao)(l:Ln)(_:vs=[.ref x])(_:LnA H C x D l)(_:∀(L:ao) (ys:List V) (H':Hp),cB H H'→H L=none→H' L=some (.lst ys)→jc H' ys ((ownS l).map snD)→Q (.ref L) H')
end HN
variable {l:HN.Ln}{ls:List HN.Ln}
namespace L2
open PySem PySem.Spec PyProof.Rows
def isVV (r d:ao):HO:= .ext λh=>h.IsValuesView r d
structure M0 (X:Cx)(o:Expr)(m:Str)(apos:Pos)(cpos:Pos):Prop where
 base:i9 o m X.env (dU o X.env)=dU o X.env
 few:((gG cpos (br [] X.env)).all (fun x=> !x.1) && (backToKw cpos (lp [] X.env)).all (fun x=>x.1.isSome)
  && decide (([]:List Expr).length+([]:List Keyword).length+(if ([]:List Keyword).isEmpty then 0 else 1)<30))=true
 line:(apos.endLine == cpos.line)=true
 trees:gG cpos (br [] X.env)=[]
theorem Paired.getR {α β:Type}{F:α→β→Prop}:∀{l:List α} {k:List β},Paired F l k→∀{i:Nat} {x:α},l[i]? =some x→∃y,k[i]? =some y∧F x y
 | _,_,.nil,_,_,h=>by cases h
 | _,_,.cons r t,0,x,h=>by cases h;exact⟨ρ,r⟩
 | _,_,.cons r t,i+1,x,h=>Paired.getR t (i:=i) h
section
variable {a b:HO}
theorem Inv.retold (I:Inv X aI σ H s)(hd:H d=some a)(n1:∀xs,a≠ .tup xs)(n2:∀c,a≠ .own c)(m1:∀xs,X.H₀ d≠some (.tup xs))(m2:∀o u,X.H₀ d≠some (.frz o u))(m3:∀ps,X.H₀ d≠some (.tbl ps))
  (new:iu X.prog X.w (upd H d b) s.heap d b):Inv X aI σ (upd H d b) s:=by
 have nn:∀{c:ao},H c=none→(upd H d b) c=none:=λ{c} h=>by
  rw[bo (aV hd h).symm];exact h
 apply⟨I.ok,I.os,I.bare,⟨I.base.keep,I.base.slot,λc o e n hx=>nn (I.base.free c o e n hx),I.base.there,λc xs e=>?_,λc o u e=>?_,λc ps e=>?_⟩,I.loc,I.cell,nn I.free,λx c e=>nn (I.freeC x c e),λp hp=>?_,λc o e=>?_,I.len⟩
 ·by_cases z:c=d
  ·subst z;exact qK e (m1 xs)
  ·rw[bo z];exact I.base.tups c xs e
 ·by_cases z:c=d
  ·subst z;exact qK e (m2 o u)
  ·rw[bo z];exact I.base.frzs c o u e
 ·by_cases z:c=d
  ·subst z;exact qK e (m3 ps)
  ·rw[bo z];exact I.base.tbls c ps e
 ·obtain⟨h1,h2,h3⟩:=I.pin p hp
  exact⟨h1,nn h2,h3⟩
 ·by_cases z:c=d
  ·subst z
   rw[aR] at e;cases e;exact new
  ·rw[bo z] at e
   apply(I.hok c o e).stay (λ_ _ _ e=>e) (λb' e'=>?_) λb' xs e'=>?_
   ·rw[bo λz=>by subst z;rw[hd] at e';cases e';exact n2 _ rfl];exact e'
   ·rw[bo λz=>by subst z;rw[hd] at e';cases e';exact n1 _ rfl];exact e'
theorem dk_put (x:iu P w H h d (.dK kvs)):iu P w H' h d (.dK kvs):=x
end
def Itd (d:ao)(o:Obj)(kvs:List (Key×V)):It :=
 ⟨λi H=>H d=some (.frz o (.dK kvs))∧i<kvs.length,λi H x H'=>H'=H∧∃k,kvs[i]? =some (k,x),λi H=>H d=some (.frz o (.dK kvs))∧i=kvs.length⟩
theorem turn_vals (d it:ao)(o:Obj)(kvs:List (Key×V))(vs:List (Key×af))(ep:Nat)(rel:KV kvs vs)(dd:∀h:bM,h.get? d=some o→h.DictAt (gK P w) d vs ep) :
  Turn P w K tg (Itd d o kvs) [it] it (λi h=>h.IsValIter it d i vs.length ep) where
 mem:=by simp
 obj:=λi h st b hb=>by
  have e:b=it:=by simpa using hb
  subst e;obtain⟨o,e,c,d⟩:=st;exact⟨o,e,λv z=>by rw[d] at z;cases z⟩
 keep:=λi h h' st k=>by
  obtain⟨o,e,r⟩:=st;exact⟨o,k it ∅ o e,r⟩
 item:=by
  intro X hP hw hK hc i aI s σ H E I hf st hg;subst hP hw hK;obtain⟨hd,hi⟩:=hg;obtain⟨hg,_⟩:=(show iu X.prog X.w H s.heap d (.frz o (.dK kvs)) from I.hok d _ hd);obtain⟨⟨k,v⟩,hx,rk⟩:=Paired.getR rel (gE hi);obtain⟨f0,f1,f2,f3,f4,f5⟩:=hf it ∅;apply wpAny_pyNext_values_item st (dd _ hg) hx λh' st' sb=>?_
  have I1:Inv X aI σ H { s with heap:=h' }:=I.turned (t':=s.toks) (λb o hb e=>(sb.2 b hb).trans e) f0 f1 f3 f4 f5;obtain⟨oi,e2,c,dt⟩:=id st';exact⟨v,rfl,go_of (s:={ s with heap:=h' }) e2 c dt ↥0 ⟨kvs[i].2,H,I1,rk.2,⟨rfl,kvs[i].1,gE hi⟩,st',λb hb=>(hf b hb).1⟩⟩
 done:=by
  intro X hP hw hK hc i aI s σ H E I hf st hg;subst hP hw hK;obtain⟨hd,hi⟩:=hg;obtain⟨hg,_⟩:=(show iu X.prog X.w H s.heap d (.frz o (.dK kvs)) from I.hok d _ hd);obtain⟨f0,f1,f2,f3,f4,f5⟩:=hf it ∅;have hl:kvs.length=vs.length:=Paired.length rel;exact wpAny_pyNext_values_end (I.ok.hd hc) st (dd _ hg) (eW ⋯) λh' eb=>⟨rfl,I.turned (t':=s.toks) (λb o hb e=>eb b o hb e) f0 f1 f3 f4 f5⟩
 self:=λA i s Q E st h=>wpAny_pyIter_valiter st h
def iVals (td:TE):TI:=λσ H R=>td σ H λx H1=>∃d kvs,x= .ref d∧H1 d=some (.dK kvs)∧∀p ob,H1 p=none→R (Itd d ob kvs) (upd (upd H1 p (isVV p d)) d (.frz ob (.dK kvs)))
def Thw (H H':Hp)(Q:Hp→Prop):Prop:=∃d o kvs,H d=some (.dK kvs)∧H' d=some (.frz o (.dK kvs))∧Q (upd H' d (.dK kvs))
def tThawE (te:TE):TE:=λσ H Q=>te σ H λv H'=>Thw H H' (Q v)
def tThawS (t:TS):TS:=λD σ H=>t { D with nx:=λσ' H'=>Thw H H' (D.nx σ') } σ H
section
variable {σ':St}
theorem Inv.not0 (I:Inv X aI σ H s)(e:H d=some (.dK kvs)):(∀xs,X.H₀ d≠some (.tup xs))∧(∀o u,X.H₀ d≠some (.frz o u))∧∀ps,X.H₀ d≠some (.tbl ps) :=
 ⟨(λxs z=>by have:=I.base.tups d xs z;rw[e] at this;cases this),(λo u z=>by have:=I.base.frzs d o u z;rw[e] at this;cases this),λps z=>by obtain⟨m,this⟩:=I.base.tbls d ps z;rw[e] at this;cases this⟩
theorem Thw.go {Q:Hp→Prop}(I:Inv X aI σ H s)(I':Inv X aI σ' H' s')(h:Thw H H' Q):∃H2,Inv X aI σ' H2 s'∧Q H2:=by
 obtain⟨d,o,kvs,e1,e2,q⟩:=h;obtain⟨n1,n2,n3⟩:=I.not0 e1;obtain⟨_,x⟩:=(show iu X.prog X.w H' s'.heap d (.frz o (.dK kvs)) from I'.hok d _ e2);exact⟨_,I'.retold e2 (λ_ z=>by cases z) (λ_ z=>by cases z) n1 n2 n3 (dk_put x),q⟩
theorem pe_thaw (h:PE X e te):PE X e (tThawE te):=λaI s σ H Q I hw =>
 thn (h aI s σ H _ I hw) λu s' z=>by
  obtain⟨v,H',I',r,q⟩:=z;obtain⟨H2,I2,q2⟩:=q.go I I';exact⟨v,H2,I2,r,q2⟩
theorem ps_thaw {t:TS}(h:PS X st t):PS X st (tThawS t):=λaI s σ H D I hw =>
 thn (h aI s σ H _ I hw) λf s' z=>by
  cases f with
  | next =>
   obtain⟨σ',H',I',q⟩:=z;obtain⟨H2,I2,q2⟩:=q.go I I';exact⟨σ',H2,I2,q2⟩
  | brk=>exact z
  | cont=>exact z
  | ret u=>exact z
theorem pi_vals {o:Expr}{td:TE}(ho:PE X o td)(m:M0 X o "values" apos cpos):PI X tg (.Call (.Attribute o "values" apos) [] [] cpos) (iVals td):=by
 intro aI s σ H R I h;apply wpAny_Call_method m.base m.few m.line l9 PySem.F.slot_dict_values PySem.F.type_dict_values (thn (ho aI s σ H _ I h) λu s1 z=>?_);obtain⟨x,H1,I1,rx,d,kvs,ex,ea,q1⟩:=z;subst ex;obtain rfl:u=af.ref d:=rx;obtain⟨t1,t2,_⟩:=isDct_at I1 (.inl ⟨kvs,.inl ea⟩);apply⟨t1,t2,?_⟩;rw[m.trees];obtain⟨zz,hd,vs,rel,dd⟩:=dk_of I1.hok ea;apply gL rfl (PySem.evalArgs_none ?_);apply call_meetsIn PySem.F.slot_dict_values dd.typeIs PySem.F.entry_dict_values (PySem.F.args_dict_values_1 _) (meets_dict_values (gK X.prog X.w) d hd) ⟨⟨vs,dd⟩,?_⟩;have hg:(s1.heap.push { cls:= .type "dict_values",data:= .fields #[.ref d] }).get? s1.heap.objs.size=some { cls:= .type "dict_values",data:= .fields #[.ref d] }:=aQ _ rfl;have hv:(s1.heap.push { cls:= .type "dict_values",data:= .fields #[.ref d] }).IsValuesView s1.heap.objs.size d:=⟨_,hg,rfl,rfl⟩;have hp:=I1.fresh;have hq:=q1 s1.heap.objs.size;have I2:Inv X aI σ (upd H1 s1.heap.objs.size (isVV s1.heap.objs.size d)) { s1 with heap:=s1.heap.push { cls:= .type "dict_values",data:= .fields #[.ref d] } }:=I1.laid (t':=s1.toks) (o:=isVV s1.heap.objs.size d) (λ_ _ z=>av _ z) (aD _) ⟨hv,⟨_,hg⟩,λh1 h2 ⟨o,e,r⟩ k=>⟨o,k o e,r⟩⟩;generalize s1.heap.objs.size=p at hv hp hq I2 ⊢;generalize s1.heap.push { cls:= .type "dict_values",data:= .fields #[.ref d] }=h2 at hv I2 ⊢;have ea2:(upd H1 p (isVV p d)) d=some (.dK kvs):=by rw[bo (aV ea hp)];exact ea
 generalize upd H1 p (isVV p d)=H2 at I2 ea2 hq;obtain⟨n1,n2,n3⟩:=I2.not0 ea2;obtain⟨zz2,hd2,vs2,rel2,dd2⟩:=dk_of I2.hok ea2;obtain⟨ep,hat⟩:=dd2.dictAt;apply wpAny_pyIter_values (s:={ s1 with heap:=h2 }) hv hat ?_;have hok2:=I2.hok d _ ea2;obtain⟨ob,hob⟩:∃ob,h2.get? d=some ob:=let ⟨o,es,ho,_⟩:=hat;⟨o,ho⟩;have I3:=I2.retold (b:= .frz ob (.dK kvs)) ea2 (λ_ z=>by cases z) (λ_ z=>by cases z) n1 n2 n3 ⟨hob,dk_put hok2⟩;apply⟨h2.objs.size,[h2.objs.size],_,Itd d ob kvs,ρ,I3.kept (t':=s1.toks) λc o e=>av _ e,turn_vals d h2.objs.size ob kvs vs2 ep rel2 λh hh=>?_,⟨_,aQ _ rfl,rfl,rfl⟩,λb hb=>?_,hq ob hp⟩
 ·obtain⟨o,es,ho,r⟩:=hat
  rw[hob] at ho;cases ho;exact⟨ob,es,hh,r⟩
 ·have e:b=h2.objs.size:=by simpa using hb
  subst e;exact I3.fpOk (aD _) (I3.hok.fresh (aD _))
end
theorem for_vals {o:Obj}{D:Ends}(Pv:Nat→St→Hp→Prop)(h0:Pv 0 σ H)(hl:∀i σ H,i≤kvs.length→Pv i σ H→H d=some (.frz o (.dK kvs)))
  (hs:∀i k x σ H,kvs[i]? =some (k,x)→Pv i σ H→g x σ H λσ2 H2=>tb { D with nx:=Pv (i+1),ct:=Pv (i+1),bk:=D.nx } σ2 H2) (hd:∀σ H,Pv kvs.length σ H→D.nx σ H) :
  ∃W:Nat→Nat→St→Hp→Prop,(∃m,W 0 m σ H)∧∀i m σ H,W i m σ H →
   ((Itd d o kvs).stop i H∧D.nx σ H)∨((Itd d o kvs).go i H∧∃N:St→Hp→Prop,(∀σ' H',N σ' H'→∃m',m'<m∧W (i+1) m' σ' H')∧∀x H',(Itd d o kvs).yld i H x H'→g x σ H' λσ2 H2=>tb { D with nx:=N,ct:=N,bk:=D.nx } σ2 H2):=by
 apply⟨λi m σ H=>m=kvs.length - i∧i≤kvs.length∧Pv i σ H,⟨kvs.length,∅,dG _,h0⟩,?_⟩;rintro i m σ H ⟨rfl,hi,p⟩;have q:=hl i σ H hi p
 by_cases e:i=kvs.length
 ·subst e
  exact .inl ⟨⟨q,rfl⟩,hd σ H p⟩
 ·have hlt:i<kvs.length:=gj hi e
  apply .inr ⟨⟨q,hlt⟩,Pv (i+1),λσ' H' p'=>⟨kvs.length - (i+1),⋯,rfl,⋯,p'⟩,λx H' hy=>?_⟩;obtain⟨rfl,k,hx⟩:=hy;exact hs i k x σ _ hx p
theorem comp_vals {o:Obj}{Q:VK}(Pv:Nat→List V→Hp→Prop)(h0:Pv 0 [] H)(hl:∀i ys H,i≤kvs.length→Pv i ys H→H d=some (.frz o (.dK kvs))∧ys.length≤i)(hz:kvs.length≤aA)
  (hs:∀i k x ys H,kvs[i]? =some (k,x)→Pv i ys H→tt (some x::gS σ js) H λb H4=>if b=true then te (some x::gS σ js) H4 λy H5=>Pv (i+1) (ys++[y]) H5 else Pv (i+1) ys H4)
  (hd:∀ys H,Pv kvs.length ys H→∀D,H D=none→Q (.ref D) (upd H D (.lst ys))):CompW js tt te σ Q (Itd d o kvs) H:=by
 apply⟨λi m ys H=>i≤kvs.length∧m=kvs.length - i∧Pv i ys H,⟨_,dG _,rfl,h0⟩,λi m ys H2 z=>?_⟩;obtain⟨hi,hm,hp⟩:=z;obtain⟨hq,hy⟩:=hl i ys H2 hi hp
 by_cases e:i=kvs.length
 ·subst e
  exact .inl ⟨⟨hq,rfl⟩,hd ys H2 hp⟩
 ·have hlt:i<kvs.length:=gj hi e
  apply .inr ⟨⟨hq,hlt⟩,⋯,Pv (i+1),λys' H' hp'=>⟨kvs.length - (i+1),⋯,⋯,rfl,hp'⟩,λv H3 hy3=>?_⟩;obtain⟨e3,k,hx⟩:=hy3;subst e3;exact hs i k v ys _ hx hp
end L2
namespace HN
open PySem L2 PyProof.Rows HT2
abbrev sOwnL:cW:=clsOf cLin 4
theorem lH {H H':Hp}{L:ao}{xs:List V}:∀{vs:List V} {sp:List Sn},jc H vs (sp.map snD)→(∀c o,c≠L→H c=some o→H' c=some o)→H L=some (.lst xs)→jc H' vs (sp.map snD)
 | _,[],.nil,_,_=> .nil
 | _,x::sp,.cons h r,k,hL=>by
  obtain⟨a,zs,rfl,ha,rz⟩:=h.tup_of;have ez:=jc.ints_of rz;subst ez;exact .cons (.tup (k _ _ (eF ha hL nofun) ha) (jc.ints _)) (lH r k hL)
theorem snD_at {x:Sn}(h:H p=some (.tup [.int x.s,.int x.g,.int x.l,.int x.o,.int x.w])):IsD H (.ref p) (snD x):= .tup h (jc.ints x.row)
theorem scOwnL:cI ["self","spans","here","there","run"] pza (defScope sOwnL):=by trivial
theorem ok_ownL {fc fg fr:ao}(F:Fun K "own_spans" "Line.own_spans" sOwnL f fd)(hz:mg "zip" =none)(U:Unt K mg)(CK:LinK P w K mg base C fc fg fr dc dg dr):‹0› 2 f fd pza (spOwn C):=by
 specialize F.ok scOwnL;obtain ⟨x,D,l,rfl,A0,k⟩:=h;obtain ⟨tu,hU,uU⟩:=U.ex;have CC:=CK.cc;have u1:=lM (lg (show 1≤64 by decide) _) hr.units;apply ⟨_,PSl.h (bz ⟨(psZ 1 scOwnL.nd (kY ay))⟩ (bz ⟨(je cz rfl (pi_zip3 rfl hz (ah (fO (pv 0) rfl) (ah (fq mR (fO (pv 0) rfl) (fZ aP) hZ) (ah (fO (pv 0) rfl) ay)))) (pg_tup rfl (jk (pgZ 2 scOwnL.nd) (jk (pgZ 3 scOwnL.nd) (jk (pgZ 4 scOwnL.nd) pz))))
  (PSl.h (bz ⟨(iA (jg bJ cw cv ia (pv 1) (ah (jq (ah (ig (pv 0) CK.cc.cl CK.m2 CK.f2 (hr.mono ↥0) CK.b2 .nil jh (ah (pv 2) ay)) (ah (ig (pv 0) CK.cc.cl CK.m1 CK.f1 (hr.mono ↥0) CK.b1 .nil jh (ah (pv 3) ay)) (ah (pv 4) (ah (pv 4) (ah aP ay)))))) ay)))⟩
   (gy ⟨(gC (cf qh (pv 3) (fK ix_tup (fO (pv 0) rfl) (pe_un un_neg aP) (fun _ _=>rfl)) (cN _)) (bH (iA (jg bJ cw cv ia (pv 1) (ah (c7 op_catT (jq (ah (ig (pv 0) CK.cc.cl CK.m1 CK.f1 (hr.mono ↥0) CK.b1 .nil jh (ah (pv 3) ay)) (ah (ig (pv 0) CK.cc.cl CK.m2 CK.f2 (hr.mono ↥0) CK.b2 .nil jh (ah (pv 3) ay)) ay))) (pe_dget2 u1 (fO (pv 0) rfl) (pv 3) (kj (v:= .ref tu) rfl hU rfl) ⟨rfl,rfl,rfl,rfl⟩)) ay)))) cZ)⟩))))⟩ (gy ⟨(cA (pv 1))⟩))),?_⟩
 obtain⟨n,ss,rs,st,fi⟩:=l;obtain⟨dx,a,b,hx,ha,hb⟩:=A0.d;have nd:ss.Nodup:=A0.nd;have two:2≤ss.length:=A0.two;have few:ss.length≤1000:=A0.few;have rl:ss.length=rs.length+1:=A0.rl;have hls:(ss.map V.str).length=ss.length:=ae _;have e1:HT.sIx (ss.map V.str).length 0 (some 1)=1:=by
  rw[hls];have:=HT.sIx_nat ss.length 0 1;rw[dA ⋯] at this;exact this
 apply⟨(by show 0≤aA;decide),λL hLn=>?_⟩;have S0:cB H (upd H L (.lst [])):=cB.put (cB.refl H) hLn;have hL:(upd H L (.lst [])) L=some (.lst []):=aR;generalize upd H L (.lst [])=H0 at S0 hL ⊢;have S0x:=S0 _ _ hx;apply⟨ρ,x,C,dx,_,ρ,S0x,CC.cl,CC.n2,rfl,ρ,x,C,dx,_,ρ,S0x,CC.cl,CC.n2,rfl,ρ,a,ρ,SqT.of (S0 _ _ ha),?_,λp H1 S1 e=>?_⟩
 ·rw[e1]
  intro q;exact qK q.1 ↥0
 rw[cutF (i:=1) (n:=1) rfl,←fH] at e;have hL1:=S1 _ _ hL;have ha1:=S1 _ _ (S0 _ _ ha);have hb1:=S1 _ _ (S0 _ _ hb);have hx1:=S1 _ _ S0x;have A1:=(A0.same S0).same S1;apply⟨ρ,x,C,dx,_,ρ,hx1,CC.cl,CC.n3,rfl,⟨false,a⟩,⟨false,p⟩,⟨false,b⟩,_,_,ρ,ha1,e,hb1,?_⟩;have lD:(ss.drop 1).length=rs.length:=by rw[bK];lia
 apply for_zipB3 (c1:=⟨false,a⟩) (c2:=⟨false,p⟩) (c3:=⟨false,b⟩) (xs:=ss.map V.str) (ys:=(ss.drop 1).map V.str) (zs:=rs.map V.int) (λi σ H2=>(∀c o,c≠L→H1 c=some o→H2 c=some o)∧(∃ys:List V,H2 L=some (.lst ys)∧jc H2 ys ((ownN ⟨n,ss,rs,st,fi⟩ i).map snD))∧∃v2 v3 v4,σ=[some (.ref x),some (.ref L),v2,v3,v4])
  ⟨λc o _ h=>h,⟨[],hL1,.nil⟩,none,none,none,rfl⟩ (λi σ H2 _ q=>⟨q.1 _ _ (eF ha1 hL1 nofun) ha1,q.1 _ _ (eF e hL1 nofun) e,q.1 _ _ (eF hb1 hL1 nofun) hb1⟩) (by rw[ae,ae,lD];lia) (by rw[ae,ae,lD]) ?_ ?_
 ·rintro i x1 x2 x3 q σ H2 h1 h2 h3 ⟨k2,⟨ys,hL2,hm⟩,v2,v3,v4,rfl⟩ hq
  rw[aE] at h1 h2 h3;obtain⟨u1,g1,rfl⟩:=aY.mp h1;obtain⟨u2,g2,rfl⟩:=aY.mp h2;obtain⟨r,g3,rfl⟩:=aY.mp h3;rw[fe,Nat.add_comm] at g2;have li:i+1<ss.length:=(ai.mp g2).1;have big:(100000:Nat)≤aA:=by decide
  have ly:ys.length≤2 * i:=by
   have:=hm.length;rw[ae] at this;rw[this];exact ownN_len _ _
  have S6:cB H2 (upd H2 q (.tup [.str u1,.str u2,.int r])):=cB.put (cB.refl H2) hq;have h6:(upd H2 q (.tup [.str u1,.str u2,.int r])) q=some (.tup [.str u1,.str u2,.int r]):=aR;generalize upd H2 q (.tup [.str u1,.str u2,.int r])=H6 at S6 h6 ⊢;have A2:LnA H2 C x D ⟨n,ss,rs,st,fi⟩:=by
   obtain⟨kvs,d1,_⟩:=A1.s.ex;apply A1.kept (λb xs e=>k2 _ _ (eF e hL1 nofun) e) (λb C dx fs e=>k2 _ _ (eF e hL1 nofun) e) ((k2 _ _ (eF d1 hL1 nofun) d1).trans d1.symm)
  have A6:=A2.same S6;apply⟨q,ρ,SqT.of h6,rfl,_,ρ,_,ρ,ς,?_⟩;have hL6:=S6 _ _ hL2;obtain⟨dx6,a6,b6,hx6,_⟩:=id A6.d;apply⟨ρ,.inl ⟨rfl,_,SqL.of hL6⟩,ρ,x,dx6,ρ,hx6,rfl,ρ,x,D,n,u1,ss,rs,fi,rfl,A6.d,few,two,nd,λH7 S7=>⟨λi' a1 a2=>?_,λno=>qK (no i g1) ⋯⟩⟩;obtain rfl:=(j6 nd g1 a1).symm;have A7:=A6.same S7;obtain⟨dx7,a7,b7,hx7,_⟩:=id A7.d;apply⟨ρ,x,dx7,ρ,hx7,rfl,ρ,x,D,n,u2,ss,rs,fi,rfl,A7.d,few,two,nd,λH8 S8=>⟨λj a1 a2=>?_,λno=>qK (no _ g2) ⋯⟩⟩;obtain rfl:=(j6 nd g2 a1).symm;apply⟨ρ,ρ,szZ5,λp1 H9 S9 e9=>?_⟩;have A9:=(A7.same S8).same S9;have S29:cB H2 H9:=S6.trans (S7.trans (S8.trans S9));have hL9:=S29 _ _ hL2;have hm9:=jc.same S29 hm;apply⟨L,ς,hL9,⋯,?_⟩;have k9:∀c o,c≠L→H9 c=some o→(upd H9 L (.lst (ys++[.ref p1]))) c=some o:=λc o hc h=>by rw[bo hc];exact h
  have hLa:(upd H9 L (.lst (ys++[.ref p1]))) L=some (.lst (ys++[.ref p1])):=aR;generalize upd H9 L (.lst (ys++[.ref p1]))=Ha at k9 hLa ⊢;have p1L:p1≠L:=eF e9 hL9 nofun;have d1:IsD Ha (.ref p1) (snD ⟨fi+2 * i,fi+2 * i+1,r,r,0⟩):=snD_at (x:=⟨fi+2 * i,fi+2 * i+1,r,r,0⟩) (by
   have:=k9 _ _ p1L e9;rw [this];show some (HO.tup [.int (fi+2 * (i:Nat)),.int (fi+2 * ((i+1:Nat):Int) - 1),_,_,_])=_;rw [show fi+2 * ((i+1:Nat):Int) - 1=fi+2 * (i:Nat)+1 by lia])
  have da:jc Ha (ys++[.ref p1]) ((ownN ⟨n,ss,rs,st,fi⟩ i).map snD++[snD ⟨fi+2 * i,fi+2 * i+1,r,r,0⟩]):=(lH hm9 k9 hL9).append (jc.one d1);have Aa:LnA Ha C x D ⟨n,ss,rs,st,fi⟩:=by
   obtain⟨kvs,d1,_⟩:=A9.s.ex;exact A9.kept (λb xs e=>k9 _ _ (eF e hL9 nofun) e) (λb C dx fs e=>k9 _ _ (eF e hL9 nofun) e) ((k9 _ _ (eF d1 hL9 nofun) d1).trans d1.symm)
  have ka:∀c o,c≠L→H1 c=some o→Ha c=some o:=λc o hc h=>k9 _ _ hc (S29 _ _ (k2 _ _ hc h))
  have er:rs.getD i 0=r:=by rw[dk,g3];rfl
  obtain⟨dxa,aa,ba,hxa,haa,hba⟩:=id Aa.d;obtain⟨z,hzl⟩:∃z,ss[ss.length - 1]? =some z:=⟨_,gE ⋯⟩;apply⟨ρ,ρ,x,C,dxa,_,ρ,hxa,CC.cl,CC.n2,rfl,⟨1,rfl,aa,τ,SqT.of haa,HN.atI_last (by rw[ae,aE,hzl];rfl),rfl,ρ,?_⟩⟩;have es:ss.getD (i+1) c9=u2:=by rw[dk,g2];rfl
  apply jC (λhc=>?_) (λhc=>?_)
  ·have nl:i+2<ss.length:=by
    rcases Nat.lt_or_ge (i+2) ss.length with q | q
    ·exact q
    ·have:i+1=ss.length - 1:=by lia
     rw[this,hzl] at g2;cases g2;exact qK hc ∅
   apply⟨ρ,.inl ⟨rfl,_,SqL.of hLa⟩,ρ,x,dxa,ρ,hxa,rfl,ρ,x,D,n,u2,ss,rs,fi,rfl,Aa.d,few,two,nd,λHb Sb=>⟨λj a1 a2=>?_,λno=>qK (no _ g2) ⋯⟩⟩;obtain rfl:=(j6 nd g2 a1).symm;have Ab:=Aa.same Sb;obtain⟨dxb,ab,bb,hxb,_⟩:=id Ab.d;apply⟨ρ,x,dxb,ρ,hxb,rfl,ρ,x,D,n,u2,ss,rs,fi,rfl,Ab.d,few,two,nd,λHc Sc=>⟨λj a1 a2=>?_,λno=>qK (no _ g2) ⋯⟩⟩;obtain rfl:=(j6 nd g2 a1).symm;apply⟨szZ2,λp2 Hd Sd ed=>?_⟩;have Ad:=(Ab.same Sc).same Sd;have Sad:cB Ha Hd:=Sb.trans (Sc.trans Sd);obtain⟨dxd,ad,bd,hxd,_⟩:=id Ad.d;obtain⟨kvs,hD,_,hst⟩:=Ad.s.ex;apply⟨ρ,x,C,dxd,_,ρ,hxd,CC.cl,CC.n4,rfl,D,rfl,.inl ⟨kvs,.inl hD⟩,ρ,_,.inl ⟨kvs,.inr u2,.inl hD,rfl,rfl⟩,?_⟩;obtain⟨t,et,hT⟩:∃t,(mY kvs (.inr u2)).getD (.ref tu)= .ref t∧SqT K Hd t [.int (sty st u2).1,.int (sty st u2).2.1,.int (sty st u2).2.2]:=by
    cases hv:mY kvs (.inr u2) with
    | none =>
     have:=((hst u2).2.1 hv).1;exact⟨tu,rfl,by rw[show sty st u2=(0,0,0) from this];exact uU _⟩
    | some v =>
     obtain⟨t,rfl,q⟩:=(hst u2).1 v hv;exact⟨t,rfl,SqT.of q⟩
   apply⟨p2,t,_,ρ,et,SqT.of ed,hT,∅,szZ5,λz=>qK z ∅,λ_ p3 hp3=>?_⟩;have hLd:=Sad _ _ hLa;have S3:cB Hd (upd Hd p3 (.tup ([.int (fi+2 * ((i+1:Nat):Int) - 1),.int (fi+2 * ((i+1:Nat):Int))]++[.int (sty st u2).1,.int (sty st u2).2.1,.int (sty st u2).2.2]))):=cB.put (cB.refl _) hp3;have e3:(upd Hd p3 (.tup ([.int (fi+2 * ((i+1:Nat):Int) - 1),.int (fi+2 * ((i+1:Nat):Int))]++[.int (sty st u2).1,.int (sty st u2).2.1,.int (sty st u2).2.2]))) p3=some (.tup [.int (fi+2 * i+1),.int (fi+2 * i+2),.int (sty st u2).1,.int (sty st u2).2.1,.int (sty st u2).2.2]):=by
    rw[aR,show fi+2 * ((i+1:Nat):Int) - 1=fi+2 * (i:Nat)+1 by lia,show fi+2 * ((i+1:Nat):Int)=fi+2 * (i:Nat)+2 by lia];rfl
   apply⟨L,ys++[.ref p1],ρ,rfl,S3 _ _ hLd,(by rw[aq];show ys.length+1<aA;lia),?_⟩;generalize upd Hd p3 (.tup ([.int (fi+2 * ((i+1:Nat):Int) - 1),.int (fi+2 * ((i+1:Nat):Int))]++[.int (sty st u2).1,.int (sty st u2).2.1,.int (sty st u2).2.2]))=He at S3 e3 ⊢;have hLe:=S3 _ _ hLd;have kf:∀c o,c≠L→He c=some o→(upd He L (.lst (ys++[.ref p1]++[.ref p3]))) c=some o:=λc o hc h=>by rw[bo hc];exact h
   have p3L:p3≠L:=eF e3 hLe nofun;have d3:=snD_at (x:=⟨fi+2 * i+1,fi+2 * i+2,(sty st u2).1,(sty st u2).2.1,(sty st u2).2.2⟩) (kf _ _ p3L e3);have df:=(lH (sp:=ownN ⟨n,ss,rs,st,fi⟩ i++[⟨fi+2 * i,fi+2 * i+1,r,r,0⟩]) (jc.same (Sad.trans S3) (by rw[ax];exact da)) kf hLe).append (jc.one d3);apply⟨λc o hc h=>kf _ _ hc (S3 _ _ (Sad _ _ (ka _ _ hc h))),⟨_,aR,?_⟩,_,_,ρ⟩;rw[my];unfold stp;simp only[er,es];rw[qJ nl,ax];rw[ax] at df;apply Eq.mp (qO _ ?_) df;rw[hV];rfl
  ·have nl:¬ i+2<ss.length:=fun q=>hc (by
    show(!decide (V.str u2=V.str z))=true;rw[Bool.not_eq_true'];apply qM λe=>?_
    injection e with e
    subst e;have:=j6 nd hzl g2;lia)
   apply⟨ka,⟨_,hLa,?_⟩,_,_,ρ⟩;rw[my];unfold stp;simp only[er];rw[qI nl,ax];exact da
 ·rintro σ H2 ⟨k2,⟨ys,hL2,hm⟩,v2,v3,v4,rfl⟩
  apply⟨ρ,k L ys H2 (λc o h=>k2 c o ?_ (S1 _ _ (S0 _ _ h))) hLn hL2 ?_⟩
  ·intro z;rw[z,hLn] at h;cases h
  ·rw[ae,lD] at hm;exact hm
abbrev cPla:cW:=top 39
abbrev sInitP:cW:=clsOf cPla 0
abbrev sHap:cW:=clsOf cPla 1
abbrev sAllS:cW:=clsOf cPla 2
abbrev sAllL:cW:=clsOf cPla 3
abbrev sSmall:cW:=clsOf cPla 4
structure PlaC (K:aj)(C:ao):Prop where
 cl:Cls K C
 n1:k8 K C "beat"
 n2:k8 K C "lines"
 n3:k8 K C "between"
abbrev LX:=Ln×ao×ao
def kP (zs:List LX):List (Key×V):=zs.map λz=>(.inr z.1.n,.ref z.2.1)
abbrev plF (b:Int)(DL LB:ao):List (Str×V):=[("beat",.int b),("lines",.ref DL),("between",.ref LB)]
structure PlI (CP CL:ao)(H0 H:Hp)(p:ao)(b:Int)(zs:List LX)(bt:List Sn)(DL LB:ao):Prop where
 S:cB H0 H
 pl:∃dp,H p=some (.ins CP dp (plF b DL LB))
 nL:H0 DL=none
 nB:H0 LB=none
 nD:∀z∈zs,H0 z.2.2=none
 dl:H DL=some (.dK (kP zs))
 ln:∀z∈zs,LnA H CL z.2.1 z.2.2 z.1
 nd:(DL::zs.map (·.2.2)).Nodup
 nn:(zs.map (·.1.n)).Nodup
 lb:∃ys,H LB=some (.lst ys)∧jc H ys (bt.map snD)
theorem PlI.same {H0:Hp}{zs:List LX}{DL LB:ao}(I:PlI CP CL H0 H p b zs bt DL LB)(S:cB H H'):PlI CP CL H0 H' p b zs bt DL LB:=by
 obtain⟨dp,h1⟩:=I.pl;obtain⟨ys,h2,h3⟩:=I.lb;exact⟨I.S.trans S,⟨dp,S _ _ h1⟩,I.nL,I.nB,I.nD,S _ _ I.dl,λz hz=>(I.ln z hz).same S,I.nd,I.nn,ys,S _ _ h2,jc.same S h3⟩
def oa (zs:List LX):Int:=(zs.map λz=>2 * (z.1.rs.length:Int)).sum
def allS (zs:List LX)(bt:List Sn):List Sn:=zs.flatMap (λz=>ownS z.1)++bt
def allL (zs:List LX):List (List V):=zs.flatMap λz=>labs z.1.n z.1.ss
structure Few (zs:List LX)(bt:List Sn):Prop where
 a:zs.length≤100
 b:bt.length≤100
inductive spInitP (C:ao)(vs:List V)(H:Hp)(Q:VK)(_:XK):Prop
 | mk (x dx:ao)(b:Int)(_:vs=[.ref x,.int b])(_:H x=some (.ins C dx []))(_:∀(DL LB:ao) (H':Hp),(∀c o,c≠x→H c=some o→H' c=some o)→H DL=none→H LB=none→DL≠LB→H' DL=some (.dK [])→H' LB=some (.lst [])→H' x=some (.ins C dx (plF b DL LB))→Q .non H')
inductive spHap (CP CL:ao)(vs:List V)(H:Hp)(Q:VK)(_:XK):Prop
 | mk (H0:Hp)(p DL LB:ao)(b:Int)(zs:List LX)(bt:List Sn)(_:vs=[.ref p])(_:PlI CP CL H0 H p b zs bt DL LB)(_:Few zs bt)(_:∀H',cB H H'→Q (.int (oa zs)) H')
inductive spAllS (CP CL:ao)(vs:List V)(H:Hp)(Q:VK)(_:XK):Prop
 | mk (H0:Hp)(p DL LB:ao)(b:Int)(zs:List LX)(bt:List Sn)(_:vs=[.ref p])(_:PlI CP CL H0 H p b zs bt DL LB)(_:Few zs bt)(_:∀(L:ao) (ys:List V) (H':Hp),cB H H'→H L=none→H' L=some (.lst ys)→jc H' ys ((allS zs bt).map snD)→Q (.ref L) H')
inductive spAllL (CP CL:ao)(vs:List V)(H:Hp)(Q:VK)(_:XK):Prop
 | mk (H0:Hp)(p DL LB:ao)(b:Int)(zs:List LX)(bt:List Sn)(_:vs=[.ref p])(_:PlI CP CL H0 H p b zs bt DL LB)(_:Few zs bt)(_:∀(L:ao) (as:List ao) (H':Hp),cB H H'→H L=none→H' L=some (.lst (as.map V.ref))→as.map H'=(allL zs).map (λt=>some (HO.tup t))→Q (.ref L) H')
inductive spSmall (CP CL:ao)(vs:List V)(H:Hp)(Q:VK)(_:XK):Prop
 | mk (H0:Hp)(p DL LB:ao)(b:Int)(zs:List LX)(bt:List Sn)(_:vs=[.ref p])(_:PlI CP CL H0 H p b zs bt DL LB)(_:Few zs bt)(_:∀H',cB H H'→Q (.bl (decide (oa zs≤16) && decide ((allS zs bt).length≤40))) H')
theorem oX {H3:Hp}{pv:ao}{u:HO}{ob:Obj}(hp:H pv=none)(S:cB (upd (upd H pv u) d (.frz ob (.dK kvs))) H3):∀c o,c≠d→H c=some o→H3 c=some o:=λc o hc e =>
 S c o (by rw[bo hc,bo (aV e hp)];exact e)
theorem thaw_same {H3:Hp}{pv:ao}{u:HO}{ob:Obj}(hd:H d=some (.dK kvs))(k:∀c o,c≠d→H c=some o→H3 c=some o):cB H (upd H3 d (.dK kvs)):=λc o e=>by
 by_cases z:c=d
 ·subst z;rw[hd] at e;rw[aR];exact e
 ·rw[bo z];exact k c o z e
theorem fldK (K:aj){f:Str}(he:PE X e ta)(hb:i9 e f X.env (dU e X.env)=dU e X.env)(hK:autoParam (X.K=K) L2.au0._auto_1):PE X (.Attribute e f pos) (tFld K ta f):=by subst hK;exact fO he hb
theorem lenK (K:aj)(hK:autoParam (X.K=K) L2.au0._auto_1):iM X (.builtin "len") (λxs H Q=>∃p ys,xs=[.ref p]∧(SqL K H p ys∨SqT K H p ys)∧Q (.int ys.length) H):=by subst hK;exact cF
theorem scInitP:cI pzp pzp (defScope sInitP):=by trivial
theorem ok_initP (F:Fun K "__init__" "Plan.__init__" sInitP f fd)(CC:PlaC K C):‹0› 1 f fd pzp (spInitP C):=by
 specialize F.ok scInitP;obtain⟨x,dx,b,rfl,hx,k⟩:=h;apply⟨_,dq (oq (pv 0) (pv 1) rfl) (dq (oq (pv 0) pe_dnewK rfl) (bH (oq (pv 0) (kY ay) rfl))),?_⟩;apply⟨ρ,ρ,x,C,dx,ρ,hx,CC.cl,CC.n1,↥0,?_⟩;apply λD hD=>⟨ρ,x,C,dx,ρ,(by rw[bo (aV aR hD)];exact aR),CC.cl,CC.n2,(by show 1<1000;decide),?_⟩
 have xD:x≠D:=aV aR hD;apply⟨(by show 0≤aA;decide),λL hL=>⟨ρ,x,C,dx,[("beat",.int b),("lines",.ref D)],rfl,?_,CC.cl,CC.n3,(by show 2<1000;decide),?_⟩⟩
 ·rw[bo (aV aR hL)];exact aR
 have xL:x≠L:=aV aR hL;have DL:D≠L:=aV (H:=upd (upd (upd H x (.ins C dx (putF "beat" (.int b) []))) D (.dK [])) x (.ins C dx (putF "lines" (.ref D) (putF "beat" (.int b) [])))) (o:= .dK []) (by rw[bo (cY xD),aR]) hL;rw[bo (cY xD)] at hD;rw[bo (cY xL),bo (cY DL),bo (cY xL)] at hL;apply k D L _ (λc o hc e=>?_) hD hL DL ?_ ?_ aR
 ·rw[bo hc,bo (aV e hL),bo hc,bo (aV e hD),bo hc];exact e
 ·rw[bo (cY xD),bo DL,bo (cY xD),aR]
 ·rw[bo (cY xL),aR]
theorem scHap:cI pza pza (defScope sHap):=by trivial
theorem ok_hap (F:Fun K "happenings" "Plan.happenings" sHap f fd)(T:Nm mg)(T2:Nt mg)(CC:PlaC K C)(LC:LinC K CL):‹0› 1 f fd pza (spHap C CL):=by
 specialize F.ok scHap;obtain⟨H0,p,DL,LB,b,zs,bt,rfl,I,fw,k⟩:=h;apply⟨_,bH (cA (b8 (call_sum rfl) rfl T2.sum boot_sum (ah (pe_thaw (nZ (fr:=[]) (js:=[]) rfl (pi_vals (fO (pv 0) rfl) ⟨rfl,rfl,rfl,rfl⟩) ⇑0 rfl ⇑0 rfl (by exists sHap) ⇑0 rfl ⇑0 (λ_ _ _ _ _=>⟨(c7 kq aP (b8 (lenK K) rfl T.len bu (ah (fldK K (pv 0) rfl) ay))),ki⟩))) ay))),?_⟩;obtain⟨dp,hp⟩:=I.pl;apply⟨ρ,p,C,dp,_,ρ,hp,CC.cl,CC.n2,rfl,DL,ρ,I.dl,λpv ob hpv=>?_⟩;have lz:(kP zs).length=zs.length:=ae _;have big:(100000:Nat)≤aA:=by decide
 have f1:=fw.a;apply comp_vals (λi ys H2=>cB (upd (upd H pv (isVV pv DL)) DL (.frz ob (.dK (kP zs)))) H2∧ys=(zs.take i).map λz=>V.int (2 * (z.1.rs.length:Int))) ⟨cB.refl _,rfl⟩ (λi ys H2 hi q=>⟨q.1 _ _ aR,by rw[q.2,ae,aZ];lia⟩) ⋯ (λi kk x ys H2 hx q=>?_) (λys H3 q D hD=>?_)
 ·obtain⟨S2,ey⟩:=q
  unfold kP at hx;rw[aE] at hx;obtain⟨z,hz,e⟩:=aY.mp hx;cases e;have L:=I.ln z (aC hz);obtain⟨dx,a,bb,h1,h2,h3⟩:=L.d;have kk:=oX hpv S2;have h1':=kk _ _ (eF h1 I.dl nofun) h1;have h3':=kk _ _ (eF h3 I.dl nofun) h3;apply jj ?_;apply⟨ρ,z.2.1,CL,dx,_,ρ,h1',LC.cl,LC.n3,rfl,bb,ρ,.inr (SqT.of h3'),ς,.inl ⟨↥0,↥0⟩,S2,?_⟩;rw[ey,bW,hz,ax,ae];rfl
 ·obtain⟨S3,ey⟩:=q
  rw[lz,cD] at ey;have hD3:=S3 _ _ aR;have hDD:DL≠D:=aV hD3 hD;have e5:(upd (upd H3 D (.lst ys)) DL (.dK (kP zs))) D=some (.lst ((zs.map λz:LX=>2 * (z.1.rs.length:Int)).map V.int)):=by rw[bo (cY hDD),aR,ey,b9];rfl
  apply⟨DL,ob,kP zs,I.dl,(by rw[bo hDD];exact hD3),D,ρ,SqL.of e5,k _ (thaw_same (u:=isVV pv DL) (ob:=ob) (pv:=pv) I.dl λc o hc e=>?_)⟩;have:=oX hpv S3 c o hc e;rw[bo (aV this hD)];exact this
structure LinQ (P:aK)(w:bc)(K:aj)(mg:Str→Option af)(base:bM)(C:ao)(fo fl:ao)(d1 d2:aU):Prop where
 m4:qH K C "own_spans" fo
 f4:‹0› 2 fo d1 pza (spOwn C)
 b4:Binds K d1 pza []
 m5:qH K C "own_labels" fl
 f5:‹0› 1 fl d2 pza (spLabL C)
 b5:Binds K d2 pza []
theorem labs_len (n:Str):∀ss:List Str,(labs n ss).length≤2 * ss.length
 | []=>by simp[labs]
 | [_]=>by simp[labs]
 | _::t::r=>by
  have:=labs_len n (t::r);show(labs n (t::r)).length+2≤_;simp only[az] at this ⊢;lia
theorem take_flat {β:Type}(f:α→List β){zs:List α}{z:α}(h:zs[i]? =some z):(zs.take (i+1)).flatMap f=(zs.take i).flatMap f++f z:=by
 rw[bW,h,List.flatMap_append];simp
theorem scAllS:cI ["self","spans","line"] pza (defScope sAllS):=by trivial
theorem ok_allS {fo fl:ao}(F:Fun K "all_spans" "Plan.all_spans" sAllS f fd)(CC:PlaC K C)(LC:LinC K CL)(LQ:LinQ P w K mg base CL fo fl d1 d2):‹0› 3 f fd pza (spAllS C CL):=by
 specialize F.ok scAllS;obtain ⟨H0,p,DL,LB,b,zs,bt,rfl,I,fw,k⟩:=h;apply ⟨_,PSl.h (bz ⟨(psZ 1 scAllS.nd (kY ay))⟩ (bz ⟨ps_thaw (je cz rfl (pi_vals (fO (pv 0) rfl) ⟨rfl,rfl,rfl,rfl⟩) (pgZ 2 scAllS.nd) (bH (iA (jg bJ PySem.F.slot_list_extend PySem.F.type_list_extend mt_extend (pv 1) (ah (jn (pv 2) LC.cl LQ.m4 LQ.f4 hr LQ.b4 .nil jh) ay)))))⟩
  (gy ⟨(cA (c7 op_cat (pv 1) (fO (pv 0) rfl)))⟩))),?_⟩
 have lz:(kP zs).length=zs.length:=ae _;have big:(1000000:Nat)≤aA:=by decide
 have f1:=fw.a;have f2:=fw.b;apply⟨(by show 0≤aA;decide),λL hLn=>?_⟩;have S0:cB H (upd H L (.lst [])):=cB.put (cB.refl H) hLn;have hL:(upd H L (.lst [])) L=some (.lst []):=aR;generalize upd H L (.lst [])=H1 at S0 hL ⊢;have I1:=I.same S0;obtain⟨dp,hp⟩:=I1.pl;apply⟨ρ,p,C,dp,_,ρ,hp,CC.cl,CC.n2,rfl,DL,ρ,I1.dl,λpv ob hpv=>?_⟩;have LDL:L≠DL:=eF hL I1.dl nofun;have hLf:(upd (upd H1 pv (isVV pv DL)) DL (.frz ob (.dK (kP zs)))) L=some (.lst []):=by rw[bo LDL,bo (aV hL hpv)];exact hL
 have kf:∀c o,c≠DL→H1 c=some o→(upd (upd H1 pv (isVV pv DL)) DL (.frz ob (.dK (kP zs)))) c=some o:=oX hpv (cB.refl _);have hDf:(upd (upd H1 pv (isVV pv DL)) DL (.frz ob (.dK (kP zs)))) DL=some (.frz ob (.dK (kP zs))):=aR;generalize upd (upd H1 pv (isVV pv DL)) DL (.frz ob (.dK (kP zs)))=Hf at hLf kf hDf ⊢;have Lf:∀z∈zs,LnA Hf CL z.2.1 z.2.2 z.1:=λz hz=>by
  have A:=I1.ln z hz;obtain⟨kvs,d1,_⟩:=A.s.ex;have nz:z.2.2≠DL:=λe=>(bN.mp I1.nd).1 (aJ.mpr ⟨z,hz,e⟩)
  exact A.kept (λb xs e=>kf _ _ (eF e I1.dl nofun) e) (λb C dx fs e=>kf _ _ (eF e I1.dl nofun) e) ((kf _ _ nz d1).trans d1.symm)
 apply for_vals (λi σ H2=>(∀c o,c≠L→Hf c=some o→H2 c=some o)∧(∃ys:List V,ys.length≤2000 * i∧H2 L=some (.lst ys)∧jc H2 ys (((zs.take i).flatMap λz=>ownS z.1).map snD))∧∃v2,σ=[some (.ref p),some (.ref L),v2])
  ⟨λc o _ h=>h,⟨[],∅,hLf,.nil⟩,none,rfl⟩ (λi σ H2 _ q=>q.1 _ _ (cY LDL) hDf) (λi kk x σ H2 hx q=>?_) (λσ H3 q=>?_)
 ·obtain⟨k2,⟨ys,ly,hL2,hm⟩,v2,rfl⟩:=q
  unfold kP at hx;rw[aE] at hx;obtain⟨z,hz,e⟩:=aY.mp hx;cases e;have A1:=Lf z (aC hz);have A2:LnA H2 CL z.2.1 z.2.2 z.1:=by
   obtain⟨kvs,d1,_⟩:=A1.s.ex;exact A1.kept (λb xs e=>k2 _ _ (eF e hLf nofun) e) (λb C dx fs e=>k2 _ _ (eF e hLf nofun) e) ((k2 _ _ (eF d1 hLf nofun) d1).trans d1.symm)
  obtain⟨dx,a,bb,h1,_⟩:=id A2.d;apply⟨ρ,.inl ⟨rfl,_,SqL.of hL2⟩,ρ,z.2.1,dx,ρ,h1,rfl,z.2.1,z.2.2,z.1,rfl,A2,λL2 us H4 S4 _ h4 d4=>?_⟩;have hL4:=S4 _ _ hL2;have lu:us.length≤2 * z.1.rs.length:=by
   have:=d4.length;rw[ae] at this;rw[this];exact ownN_len _ _
  have:=A2.few;have:=A2.rl;have hi:i<zs.length:=(ai.mp hz).1;apply⟨L,L2,ς,hL4,h4,⋯,?_⟩;have kg:∀c o,c≠L→H4 c=some o→(upd H4 L (.lst (ys++us))) c=some o:=λc o hc h=>by rw[bo hc];exact h
  apply⟨λc o hc h=>kg _ _ hc (S4 _ _ (k2 _ _ hc h)),⟨_,(by rw[aq];lia),aR,?_⟩,ρ⟩;rw[take_flat (λz:LX=>ownS z.1) hz,ax];exact(lH (jc.same S4 hm) kg hL4).append (lH d4 kg hL4)
 ·obtain⟨k3,⟨ys,ly,hL3,hm⟩,v2,rfl⟩:=q
  rw[lz] at ly hm;rw[cD] at hm;have hD3:=k3 _ _ (cY LDL) hDf;have S5:cB H (upd H3 DL (.dK (kP zs))):=λc o e=>by
   have e1:=S0 _ _ e;have cL:c≠L:=aV e hLn
   by_cases z:c=DL
   ·subst z;rw[I1.dl] at e1;rw[aR];exact e1
   ·rw[bo z];exact k3 _ _ cL (kf _ _ z e1)
  have k5:∀c o,c≠DL→H3 c=some o→(upd H3 DL (.dK (kP zs))) c=some o:=λc o hc e=>by rw[bo hc];exact e
  apply⟨DL,ob,kP zs,I1.dl,hD3,?_⟩;have hL5:=k5 _ _ LDL hL3;have hm5:jc (upd H3 DL (.dK (kP zs))) ys ((zs.flatMap λz=>ownS z.1).map snD):=by
   clear ly;revert hm;generalize (zs.flatMap λz=>ownS z.1)=sp;intro hm;have fin:∀{vs:List V} {sp:List Sn},jc H3 vs (sp.map snD)→jc (upd H3 DL (.dK (kP zs))) vs (sp.map snD):=by
    intro vs sp
    induction sp generalizing vs with
    | nil=>intro h;cases h;exact .nil
    | cons x sp ih =>
     intro h;cases h with
     | cons h r =>
      obtain⟨a,us,rfl,ha,rz⟩:=h.tup_of;have ez:=jc.ints_of rz;subst ez;exact .cons (.tup (k5 _ _ (eF ha hD3 nofun) ha) (jc.ints _)) (ih r)
   exact fin hm
  generalize upd H3 DL (.dK (kP zs))=H5 at S5 hL5 hm5 ⊢;have I5:=I.same S5;obtain⟨dp5,hp5⟩:=I5.pl;obtain⟨bs,hB,dB⟩:=I5.lb;have lbs:bs.length=bt.length:=by have:=dB.length;rwa [ae] at this
  apply⟨ρ,ρ,p,C,dp5,_,ρ,hp5,CC.cl,CC.n3,rfl,L,LB,ς,hL5,hB,⋯,λq hq=>?_⟩;have S6:cB H5 (upd H5 q (.lst (ys++bs))):=cB.put (cB.refl _) hq;apply k q _ _ (S5.trans S6) ?_ aR ?_
  ·cases e:H q with
   | none=>rfl
   | some o=>rw[S5 _ _ e] at hq;cases hq
  ·unfold allS
   rw[ax];exact(jc.same S6 hm5).append (jc.same S6 dB)
theorem scSmall:cI pza pza (defScope sSmall):=by trivial
theorem ok_small {fh:ao}{da:aU}(F:Fun K "is_small" "Plan.is_small" sSmall f fd)(T:Nm mg)(CS:Cs mg)(CC:PlaC K C)(m1:qH K C "happenings" fh)(f1:‹0› 1 fh dh pza (spHap C CL))(b1:Binds K dh pza [])
  (m2:qH K C "all_spans" fa) (f2:‹0› 3 fa da pza (spAllS C CL)) (b2:Binds K da pza []):‹0› 4 f fd pza (spSmall C CL):=by
 specialize F.ok scSmall;obtain⟨H0,p,DL,LB,b,zs,bt,rfl,I,fw,k⟩:=h;apply⟨_,bH (cA (ou (kK op_le (jn (pv 0) CC.cl m1 f1 (hr.mono ↥0) b1 .nil jh) (pA CS.mh) (cN _)) (qw (kK op_le (b8 cF rfl T.len bu (ah (jn (pv 0) CC.cl m2 f2 hr b2 .nil jh) ay)) (pA CS.ms) (cN _))))),?_⟩;obtain⟨dp,hp⟩:=I.pl;apply⟨ρ,p,dp,ρ,hp,rfl,H0,p,DL,LB,b,zs,bt,rfl,I,fw,λH1 S1=>?_⟩;apply⟨ς,ρ,jC (λh1=>?_) (λh1=>?_)⟩
 ·have I1:=I.same S1
  obtain⟨dp1,hp1⟩:=I1.pl;apply⟨ρ,p,dp1,ρ,hp1,rfl,H0,p,DL,LB,b,zs,bt,rfl,I1,fw,λL ys H2 S2 _ hL d=>?_⟩;apply⟨L,ρ,.inl (SqL.of hL),ς,?_⟩;have e:=k H2 (S1.trans S2);have h1:decide (oa zs≤16)=true:=h1;have ly:(ys.length:Int)=(allS zs bt).length:=by have:=d.length;rw[ae] at this;lia
  rw[h1,iP] at e;show Q (.bl (decide ((ys.length:Int)≤40))) H2;rw[ly];rw[show decide (((allS zs bt).length:Int)≤40)=decide ((allS zs bt).length≤40) from decide_eq_decide.mpr ⋯];exact e
 ·have e:=k H1 S1
  have h1:decide (oa zs≤16)=false:=by simpa using h1
  rw[h1,j4] at e;exact e
theorem scAllL:cI ["self","labels","line"] pza (defScope sAllL):=by trivial
theorem ok_allL {fo fl:ao}(F:Fun K "all_labels" "Plan.all_labels" sAllL f fd)(CC:PlaC K C)(LC:LinC K CL)(LQ:LinQ P w K mg base CL fo fl d1 d2):‹0› 2 f fd pza (spAllL C CL):=by
 specialize F.ok scAllL;obtain ⟨H0,p,DL,LB,b,zs,bt,rfl,I,fw,k⟩:=h;apply ⟨_,PSl.h (bz ⟨(psZ 1 scAllL.nd (kY ay))⟩ (bz ⟨ps_thaw (je cz rfl (pi_vals (fO (pv 0) rfl) ⟨rfl,rfl,rfl,rfl⟩) (pgZ 2 scAllL.nd) (bH (iA (jg bJ PySem.F.slot_list_extend PySem.F.type_list_extend mt_extend (pv 1) (ah (jn (pv 2) LC.cl LQ.m5 LQ.f5 hr LQ.b5 .nil jh) ay)))))⟩
  (gy ⟨(cA (pv 1))⟩))),?_⟩
 have lz:(kP zs).length=zs.length:=ae _;have big:(1000000:Nat)≤aA:=by decide
 have f1:=fw.a;apply⟨(by show 0≤aA;decide),λL hLn=>?_⟩;have S0:cB H (upd H L (.lst [])):=cB.put (cB.refl H) hLn;have hL:(upd H L (.lst [])) L=some (.lst []):=aR;generalize upd H L (.lst [])=H1 at S0 hL ⊢;have I1:=I.same S0;obtain⟨dp,hp⟩:=I1.pl;apply⟨ρ,p,C,dp,_,ρ,hp,CC.cl,CC.n2,rfl,DL,ρ,I1.dl,λpv ob hpv=>?_⟩;have LDL:L≠DL:=eF hL I1.dl nofun;have hLf:(upd (upd H1 pv (isVV pv DL)) DL (.frz ob (.dK (kP zs)))) L=some (.lst []):=by rw[bo LDL,bo (aV hL hpv)];exact hL
 have kf:∀c o,c≠DL→H1 c=some o→(upd (upd H1 pv (isVV pv DL)) DL (.frz ob (.dK (kP zs)))) c=some o:=oX hpv (cB.refl _);have hDf:(upd (upd H1 pv (isVV pv DL)) DL (.frz ob (.dK (kP zs)))) DL=some (.frz ob (.dK (kP zs))):=aR;generalize upd (upd H1 pv (isVV pv DL)) DL (.frz ob (.dK (kP zs)))=Hf at hLf kf hDf ⊢;apply for_vals (λi σ H2=>(∀c o,c≠L→Hf c=some o→H2 c=some o)∧(∃as:List ao,as.length≤2000 * i∧H2 L=some (.lst (as.map V.ref))∧as.map H2=(allL (zs.take i)).map (λt=>some (HO.tup t)))∧∃v2,σ=[some (.ref p),some (.ref L),v2])
  ⟨λc o _ h=>h,⟨[],∅,hLf,rfl⟩,none,rfl⟩ (λi σ H2 _ q=>q.1 _ _ (cY LDL) hDf) (λi kk x σ H2 hx q=>?_) (λσ H3 q=>?_)
 ·obtain⟨k2,⟨ys,ly,hL2,hm⟩,v2,rfl⟩:=q
  unfold kP at hx;rw[aE] at hx;obtain⟨z,hz,e⟩:=aY.mp hx;cases e;have A1:=I1.ln z (aC hz);obtain⟨dx,a,bb,g1,g2,g3⟩:=A1.d;have kb:∀c o,c≠DL→c≠L→H1 c=some o→H2 c=some o:=λc o h1 h2 h=>k2 _ _ h2 (kf _ _ h1 h)
  have D2:LinD H2 CL z.2.1 z.1.n z.1.ss z.1.rs z.2.2 z.1.fi:=⟨dx,a,bb,kb _ _ (eF g1 I1.dl nofun) (eF g1 hL nofun) g1,kb _ _ (eF g2 I1.dl nofun) (eF g2 hL nofun) g2,kb _ _ (eF g3 I1.dl nofun) (eF g3 hL nofun) g3⟩;obtain⟨dx,a,bb,h1,_⟩:=id D2;apply⟨ρ,.inl ⟨rfl,_,SqL.of hL2⟩,ρ,z.2.1,dx,ρ,h1,rfl,z.2.1,z.2.2,z.1.n,z.1.ss,z.1.rs,z.1.fi,rfl,D2,A1.two,A1.few,λL2 us H4 S4 _ h4 d4=>?_⟩;have hL4:=S4 _ _ hL2;have lu:us.length≤2 * z.1.ss.length:=by
   have:=qO gu d4;rw[ae,ae] at this;rw[this];exact labs_len _ _
  have:=A1.few;have hi:i<zs.length:=(ai.mp hz).1;apply⟨L,L2,ς,hL4,h4,(by rw[ae,ae];lia),?_⟩;have kg:∀c o,c≠L→H4 c=some o→(upd H4 L (.lst (ys.map V.ref++us.map V.ref))) c=some o:=λc o hc h=>by rw[bo hc];exact h
  have m4:ys.map H4=(allL (zs.take i)).map (λt=>some (HO.tup t)):=nG hm (λc o _ h=>S4 _ _ h) hL2;apply⟨λc o hc h=>kg _ _ hc (S4 _ _ (k2 _ _ hc h)),⟨ys++us,(by rw[aq];lia),(by rw[aR,ax]),?_⟩,ρ⟩;unfold allL at m4 ⊢;rw[take_flat (λz:LX=>labs z.1.n z.1.ss) hz,ax,ax,nG m4 kg hL4,nG d4 kg hL4]
 ·obtain⟨k3,⟨ys,ly,hL3,hm⟩,v2,rfl⟩:=q
  rw[lz] at ly hm;rw[cD] at hm;have hD3:=k3 _ _ (cY LDL) hDf;have S5:cB H (upd H3 DL (.dK (kP zs))):=λc o e=>by
   have e1:=S0 _ _ e;have cL:c≠L:=aV e hLn
   by_cases z:c=DL
   ·subst z;rw[I1.dl] at e1;rw[aR];exact e1
   ·rw[bo z];exact k3 _ _ cL (kf _ _ z e1)
  apply⟨DL,ob,kP zs,I1.dl,hD3,ρ,k L ys _ S5 hLn (by rw[bo LDL];exact hL3) ?_⟩;rw[←hm];apply dn λc hc=>?_
  have hm2:H3 c∈(allL zs).map (λt=>some (HO.tup t)):=by rw[←hm];exact eQ hc
  obtain⟨t,_,e⟩:=aJ.mp hm2;rw[bo λz=>by rw[z,hD3] at e;cases e]
end HN
namespace L2
open PySem PySem.Spec PyProof.Rows
def hasK (l:List Key)(k:Key):Bool:=l.any λq=>decide (q=k)
theorem hasK_iff {l:List Key}{k:Key}:hasK l k=true↔k∈l:=by
 unfold hasK;rw[List.any_eq_true]
 constructor
 ·rintro⟨q,h,e⟩
  rw[←qN e];exact h
 ·intro h
  exact⟨k,h,qL rfl⟩
def mj (val:Nat→Key):Nat→List Key
 | 0=>[]
 | i+1=>if hasK (mj val i) (val i)=true then mj val i else mj val i++[val i]
theorem metK_le (val:Nat→Key):∀i,(mj val i).length≤i
 | 0=>aD _
 | i+1=>by
  have:=metK_le val i;unfold mj;split
  ·lia
  ·rw[aq];show _+1≤_;lia
theorem metK_mem {val:Nat→Key}{k:Key}:∀{i:Nat},k∈mj val i↔∃j,j<i∧val j=k
 | 0=>by
  constructor
  ·intro h;cases h
  ·rintro⟨j,h,_⟩;lia
 | i+1=>by
  have ih:=metK_mem (val:=val) (k:=k) (i:=i);have e:k∈mj val (i+1)↔k∈mj val i∨val i=k:=by
   rw[mj];split
   ·rename_i h
    constructor
    ·exact .inl
    ·rintro(h' | h')
     ·exact h'
     ·rw[←h'];exact hasK_iff.mp h
   ·rw[aL,aB]
    constructor
    ·rintro(h | h)
     ·exact .inl h
     ·exact .inr h.symm
    ·rintro(h | h)
     ·exact .inl h
     ·exact .inr h.symm
  rw[e,ih]
  constructor
  ·rintro(⟨j,h,q⟩ | h)
   ·exact⟨j,⋯,q⟩
   ·exact⟨i,⋯,h⟩
  ·rintro⟨j,h,q⟩
   by_cases z:j=i
   ·subst z;exact .inr q
   ·exact .inl ⟨j,⋯,q⟩
theorem metK_nd {val:Nat→Key}:∀{n:Nat},(∀i j,i<j→j<n→val i≠val j)→(mj val n).length=n
 | 0,_=>rfl
 | n+1,h=>by
  have ih:=metK_nd (val:=val) (n:=n) λi j a b=>h i j a ⋯
  rw[mj,qI,aq,ih]
  ·rfl
  ·intro q
   obtain⟨j,hj,e⟩:=metK_mem.mp (hasK_iff.mp q);exact h j n hj ⋯ e
theorem metK_lt {val:Nat→Key}{i j:Nat}(h:i<j)(e:val i=val j):∀{n:Nat},j<n→(mj val n).length<n
 | 0,hn=>qK hn (jM _)
 | n+1,hn=>by
  have le:=metK_le val n;rw[mj];split
  ·lia
  ·rename_i q
   rw[aq];show _+1<_
   by_cases z:j=n
   ·subst z
    exact qK (hasK_iff.mpr (metK_mem.mpr ⟨i,h,e⟩)) q
   ·have:=metK_lt h e (n:=n) ⋯
    lia
section
variable {wr:List ao}{Pv:Nat→af→Prop}{St:Nat→ar→Prop}
abbrev SetK (P:aK)(w:bc)(h:bM)(a:ao)(l:List Key):Prop:=h.SetOf (gK P w) a (hasK l) l.length
theorem SetK.at {l:List Key}(x:SetK P w h a l)(k:∀o,h.get? a=some o→h'.get? a=some o):SetK P w h' a l:=by
 obtain⟨o,es,ep,t,ho,rest⟩:=x;exact⟨o,es,ep,t,k _ ho,rest⟩
theorem upd_loop (W:WalksS P w A.in1 it fp wr G n Pv St)(S:ao)(hS:S ∉ fp)(val:Nat→Key)(hv:∀i v,Pv i v→∃x t,v= .str x t∧val i= .inr x)(hb:n+1<scanBound):∀(k i:Nat) (s:ar),n - i=k→i≤n→St i s→SetK P w s.heap S (mj val i) →
  (∀s',Moved (S::wr) G s s'→SetK P w s'.heap S (mj val n)→R (.ok (.ret .none)) s')→codeAny (bB P w) A (.builtin "set.update.loop" ⟨[.ref S,.ref it],[]⟩) R s
 | 0,i,s,hk,hi,st,hs,hR=>by
  have nw:S ∉ wr:=λq=>hS (W.sub _ q)
  obtain rfl:i=n:=by lia
  apply codeAny_builtin F.entry_set_update_loop ?_;rw[cq.under_plainId mQ _];apply ak (W.done s _ _ st λs' hm=>?_);exact aN (hR s' (hm.mono λb q=>aH _ q) (hs.at λo e=>hm.heap S _ nw e))
 | k+1,i,s,hk,hi,st,hs,hR=>by
  have nw:S ∉ wr:=λq=>hS (W.sub _ q)
  have up:∀b∈wr,b∈S::wr:=λb q=>aH _ q
  have hlt:i<n:=by lia
  apply codeAny_builtin F.entry_set_update_loop ?_;rw[cq.under_plainId mQ _];apply ak (W.item i s _ _ hlt st λv s' hP st' hm=>?_);obtain⟨x,t,rfl,ev⟩:=hv i v hP;have hs':=hs.at (h':=s'.heap) λo e=>hm.heap S _ nw e
  show aT _ A.in1 (holding [af.str x t] (setAdd S (.str x t)) >>= _) _ _ s';apply ak (gT ?_);unfold setAdd;apply gT ?_;apply ak ((gK P w).pyHash (k:= .inr x) (mU _ _ _ _) ?_);have room:(mj val i).length+1<scanBound:=by have:=metK_le val i;lia
  apply wpAny_setAddHashed_of (knd:=gK P w) (s:={ s' with toks:=s'.toks+1 }) (mU _ _ _ _) rfl hs' room λh' sb h2=>?_
  have h3:SetK P w h' S (mj val (i+1)):=by
   have e1:(λq=>hasK (mj val i) q || decide (q=Sum.inr x))=hasK (mj val (i+1)):=funext λq=>by
    rw[mj,ev]
    by_cases z:hasK (mj val i) (Sum.inr x)=true
    ·rw[qJ z]
     by_cases y:q=Sum.inr x
     ·subst y;rw[z];rfl
     ·rw[qM y,Bool.or_false]
    ·rw[qI z]
     unfold hasK;rw[List.any_append];show _=(_ || (decide (Sum.inr x=q) || false));rw[Bool.or_false,decide_eq_decide.mpr (eq_comm (a:=q) (b:=Sum.inr x))]
   have e2:(if hasK (mj val i) (Sum.inr x)=true then (mj val i).length else (mj val i).length+1)=(mj val (i+1)).length:=by
    rw[mj,ev];split
    ·rfl
    ·rw[aq];rfl
   rw[e1,e2] at h2;exact h2
  apply aN ⟨plainId_quiet mQ _,upd_loop W S hS val hv hb k (i+1) _ ⋯ hlt (W.frame _ s' _ _ st' (jR _) λb q o e=>?_) h3 λs2 hm2 q2=>?_⟩
  ·rw[sb.2 b λz=>hS (by rw[←z];exact q)];exact e
  ·apply hR s2 (Moved.trans W.gtrans ((hm.mono up).then_heap (jR _) λb o q e=>?_) hm2) q2
   rw[sb.2 b λz=>q (by rw[z];exact aW)];exact e
end
set_option maxRecDepth 100000 in
set_option maxHeartbeats 3200000 in
theorem set_seqS {l:ao}{its:Array af}{val:Nat→Key}
  (hh:A.handled=none) (hl:s.heap.IsTuple l its∨s.heap.IsList l its) (hv:∀(i:Nat) v,its[i]? =some v→∃x t,v= .str x t∧val i= .inr x) (hb:its.size+1<scanBound)
  (h:∀(h':bM) (tk:Nat),SetK P w h' s.heap.objs.size (mj val its.size)→(∀b o,b<s.heap.objs.size→s.heap.get? b=some o→h'.get? b=some o)→Q (.ref s.heap.objs.size) { s with heap:=h',toks:=tk }) :
  aT (bB P w) A (call (.type "set") [.ref l]) Q E s:=by
 obtain⟨c1,c2,mro1⟩:=PySem.F.called_set.mro;have made1:=PySem.F.called_set.made;have sub1:=PySem.F.called_set.sub;apply wpAny_call (codeAny_of_tree ?_);show aT _ _ (callAny (.type "set") _) _ _ _;apply aN ⟨Code.quiet_builtin _ ⇑0,codeAny_builtin PySem.F.entry_type_call ?_⟩;rw[cq.under_plain (weight_type_call_type "set" [.ref l] []) rfl];have no1:=PySem.F.called_set.notType;have can1:=PySem.F.called_set.canCreate;have ty1:=PySem.F.typeCall_set_1 (.ref l)
 repeat (any_goals (first | assumption | wp_step))
 apply kA (code_set_new_1 (.ref l) (E:=E) (Q₁:=λobj s₁=>∃led:Bool,obj= .ref s.heap.objs.size∧s₁={ s with heap:=s.heap.push { cls:= .type "set",dict:=none,data:= .set #[] 0 (.fresh 0 0 led) } }) λled=>⟨led,rfl,rfl⟩) λr s₁ hr=>?_
 cases r with
 | error e=>exact hr
 | ok fl =>
  cases fl with
  | ret obj =>
   obtain⟨led,rfl,rfl⟩:=hr;have g1:(s.heap.push { cls:= .type "set",dict:=none,data:= .set #[] 0 (.fresh 0 0 led) }).get? s.heap.objs.size=some { cls:= .type "set",dict:=none,data:= .set #[] 0 (.fresh 0 0 led) }:=aQ _ rfl;have g2:ar.TypeIs { s with heap:=s.heap.push { cls:= .type "set",dict:=none,data:= .set #[] 0 (.fresh 0 0 led) } } (.ref s.heap.objs.size) "set" := ⟨_,g1,rfl⟩;have i1:=PySem.F.called_set.init.lookup;have i2:=PySem.F.called_set.init.bind (.ref s.heap.objs.size)
   repeat (any_goals (first | assumption | wp_step))
   apply kA (codeAny_call_builtin (R:=wants (λr s₂=>r= .none∧∃h' tk,s₂={ s with heap:=h',toks:=tk }∧SetK P w h' s.heap.objs.size (mj val its.size)∧(∀b o,b<s.heap.objs.size→s.heap.get? b=some o→h'.get? b=some o)) E) PySem.F.called_set.init.plain PySem.F.entry_set_init (check_set_init_1 g2 ?_)) λr₂ s₂ hr₂=>?_
   ·rcases hl with hl | hl
    all_goals
     obtain⟨ol,hol,hcl,nl,hdl⟩:=hl;obtain⟨ocls,odict,odata,oslots⟩:=ol;simp only at hcl hdl;subst hcl;subst hdl;have g3:=av { cls:= .type "set",dict:=none,data:= .set #[] 0 (.fresh 0 0 led) } hol;have n1:=PySem.F.sub_tuple_set;have n4:=PySem.F.sub_list_set;have n2:=PySem.F.sub_tuple_frozenset;have n5:=PySem.F.sub_list_frozenset;have n3:(af.type "tuple" == af.type "dict")=false:=by decide
     have n6:(af.type "list" == af.type "dict")=false:=by decide
     first | have l1:(s.heap.push { cls:= .type "set",dict:=none,data:= .set #[] 0 (.fresh 0 0 led) }).IsTuple l its:=⟨_,g3,rfl,nl,rfl⟩ | have l1:(s.heap.push { cls:= .type "set",dict:=none,data:= .set #[] 0 (.fresh 0 0 led) }).IsList l its:=⟨_,g3,rfl,nl,rfl⟩
     unfold ee.«set.__init__» noKeywords ee.Frozenset.updateFrom;generalize hPI:pyIter=PI
     wp_walk
     subst hPI
     first | apply wpAny_pyIter_tuple l1 ?_ | apply gN l1 ?_
     apply ak (wpAny_runValue ?_);have lS:l<s.heap.objs.size:=aS hol;have h3:A.in1.in1.in1.handled=none:=by simp[hh]
     have nI:l≠(s.heap.push { cls:= .type "set",dict:=none,data:= .set #[] 0 (.fresh 0 0 led) }).objs.size:=by
      rw[dJ];exact cJ (Nat.lt_succ_of_lt lS)
     have nS:s.heap.objs.size ∉ [(s.heap.push { cls:= .type "set",dict:=none,data:= .set #[] 0 (.fresh 0 0 led) }).objs.size,l]:=by
      rw[dJ];simp only[aw,aB,aO,or_false,not_or];exact⟨cJ (Nat.lt_succ_self _),jr lS⟩
     first | apply upd_loop ((Walks.tuple h3 _ l nI its).toS) s.heap.objs.size nS val hv hb (its.size - 0) 0 _ ⋯ (dG _) ⟨⟨_,aQ _ rfl,rfl,rfl⟩,?_⟩ ?hS0 ?hR | apply upd_loop ((Walks.list h3 _ l nI its).toS) s.heap.objs.size nS val hv hb (its.size - 0) 0 _ ⋯ (dG _) ⟨⟨_,aQ _ rfl,rfl,rfl⟩,?_⟩ ?hS0 ?hR
     ·exact l1.at λo e=>av _ e
     case hS0 =>
      exact⟨_,#[],0,_,av _ g1,⟨rfl,rfl,rfl⟩,rfl,λe he=>by simp at he,λk=>by simp[hasK,mj],(by show 0<scanBound;unfold scanBound;lia),rfl,rfl⟩
     case hR =>
      intro s' hm hS';obtain⟨h',g',d',tk',os'⟩:=s';have eg:g'=s.gens:=hm.gens;have ed:d'=s.drawn:=hm.drawn;have eo:os'=s.os:=hm.os;subst eg;subst ed;subst eo;apply aN ?_;show aT _ _ (ret af.none) _ _ _;apply aN ⟨rfl,h',tk',rfl,hS',λb o hb e=>?_⟩;have b1:b≠s.heap.objs.size:=cJ hb;have b2:b≠(s.heap.push { cls:= .type "set",dict:=none,data:= .set #[] 0 (.fresh 0 0 led) }).objs.size:=by
       rw[dJ];exact cJ (Nat.lt_succ_of_lt hb)
      exact hm.heap b o (by simp only[aw,aB,aO,or_false,not_or];exact⟨b1,b2⟩) (av _ (av _ e))
   ·cases r₂ with
    | error e=>exact hr₂
    | ok fl₂ =>
     cases fl₂ with
     | ret r =>
      obtain⟨rfl,h',tk,rfl,hS',hk'⟩:=hr₂
      repeat (any_goals (first | assumption | wp_step))
      exact h _ _ hS' hk'
     | _=>exact hr₂.elim
  | _=>exact hr.elim
def isSet (P:aK)(w:bc)(a:ao)(l:List Key):HO:= .ext λh=>SetK P w h a l
def sAtK (ns:List Str)(i:Nat):Key:= .inr (ns.getD i c9)
theorem call_setT (hc:X.calm=true):iM X (.type "set") (λxs H Q=>∃(p:ao) (ns:List Str),xs=[.ref p]∧SqT X.K H p (ns.map V.str)∧ns.length≤1000∧∀a,H a=none→Q (.ref a) (upd H a (isSet X.prog X.w a (mj (sAtK ns) ns.length)))):=by
 intro aI s σ H xs us Q I r h;obtain⟨p,ns,rfl,hq,hn,q⟩:=h;obtain⟨u,rfl,ru⟩:=mO r;cases(show u=af.ref p from ru);obtain⟨its,rv,pl,hz⟩:=I.tuple hq;have hl:its.length=ns.length:=by rw[←rv.length,ae]
 have hl2:its.toArray.size=ns.length:=by rw[aG,hl]
 apply set_seqS (val:=sAtK ns) (I.ok.hd hc) (.inl pl) (λi v hv=>?_) (by rw[hl2];show ns.length+1<4096;lia) λh' tk hs hk=>?_
 ·have hv:its[i]? =some v:=by simpa using hv
  have hi:i<ns.length:=by rw[←hl];exact(ai.mp hv).1
  obtain⟨u,hu,ru⟩:=rv.get (i:=i) (x:= .str ns[i]) (by rw[aE,gE hi];rfl);rw[hv] at hu;cases hu;obtain⟨t,rfl⟩:=(show ∃t,v=af.str ns[i] t from ru);exact⟨_,t,rfl,by unfold sAtK;rw[dk,gE hi];rfl⟩
 ·rw[hl2] at hs
  exact⟨.ref s.heap.objs.size,_,I.laid (t':=tk) (o:=isSet X.prog X.w s.heap.objs.size (mj (sAtK ns) ns.length)) (λb u e=>hk b u (aS e) e) (aD _) ⟨hs,(let ⟨o,_,_,_,ho,_⟩:=hs;⟨o,ho⟩),λh1 h2 x k=>x.at k⟩,rfl,q _ I.fresh⟩
theorem call_lenK:iM X (.builtin "len") (λxs H Q=>∃(a:ao) (l:List Key),xs=[.ref a]∧H a=some (isSet X.prog X.w a l)∧Q (.int l.length) H):=by
 intro aI s σ H xs us Q I r h;obtain⟨a,l,rfl,ha,q⟩:=h;obtain⟨u,rfl,ru⟩:=mO r;cases(show u=af.ref a from ru);obtain⟨⟨o,es,ep,t,e1,e2,e3,_,_,e4,e5,e6⟩,_,_⟩:=I.hok a _ ha;have e4:es.size<4096:=e4;apply call_len_set e1 e2 e3 e5 ⋯ ?_;rw[←e6] at q;exact⟨.int es.size,H,I.tok _,⟨ρ⟩,q⟩
end L2
namespace HN
open PySem L2 PyProof.Rows HT2
abbrev sTakeL:cW:=clsOf cPla 5
structure LinM (P:aK)(w:bc)(K:aj)(mg:Str→Option af)(base:bM)(C fi:ao)(di:aU):Prop where
 mke:Mk K C fi
 gl:mg "Line" =some (.ref C)
 f:‹0› 1 fi di pzo (spInitL C)
 b:Binds K di pzo []
structure PlaK (P:aK)(w:bc)(K:aj)(mg:Str→Option af)(base:bM)(CP CL fh fs:ao)(dh ds:aU):Prop where
 cc:PlaC K CP
 m1:qH K CP "happenings" fh
 f1:‹0› 1 fh dh pza (spHap CP CL)
 b1:Binds K dh pza []
 m2:qH K CP "is_small" fs
 f2:‹0› 4 fs ds pza (spSmall CP CL)
 b2:Binds K ds pza []
def small (zs:List LX)(bt:List Sn):Bool:=decide (oa zs≤16) && decide ((allS zs bt).length≤40)
inductive spTakeL (CP CL:ao)(vs:List V)(H:Hp)(Q:VK)(_:XK):Prop
 | mk (H0:Hp)(p q DL LB:ao)(b:Int)(zs:List LX)(bt:List Sn)(n:Str)(ss:List Str)(rs:List Int)(_:vs=[.ref p,.ref q])(_:PlI CP CL H0 H p b zs bt DL LB)(_:zs.length≤90)(_:bt.length≤90)(_:(PR.line n ss rs).at H q)(_:2≤ss.length)(_:ss.length≤1000)(_:ss.length=rs.length+1)(_:((n∈zs.map (·.1.n)∨¬ss.Nodup)→∀H',cB H H'→Q (.bl false) H'))(_:(n ∉ zs.map (·.1.n)→ss.Nodup→∀x D H',PlI CP CL H0 H' p b (zs++[(⟨n,ss,rs,[],oa zs⟩,x,D)]) bt DL LB→Q (.bl (small (zs++[(⟨n,ss,rs,[],oa zs⟩,x,D)]) bt)) H'))
theorem linK_no {zs:List LX}{n:Str}(h:n ∉ zs.map (·.1.n)):mY (kP zs) (.inr n)=none:=by
 induction zs with
 | nil=>rfl
 | cons z zs ih =>
  rw[bw,aw,not_or] at h;show mY ((.inr z.1.n,.ref z.2.1)::kP zs) (.inr n)=none;rw[kr (λe=>h.1 (by injection e with e;exact e.symm))];exact ih h.2
theorem oU {zs:List LX}{z:LX}(nn:(zs.map (·.1.n)).Nodup)(h:z∈zs):mY (kP zs) (.inr z.1.n)=some (.ref z.2.1):=by
 induction zs with
 | nil=>cases h
 | cons y zs ih =>
  rw[bw,bN] at nn;show mY ((.inr y.1.n,.ref y.2.1)::kP zs) (.inr z.1.n)=_
  rcases aw.mp h with e | e
  ·subst e;exact oK rfl
  ·rw[kr (λq=>nn.1 (by injection q with q;exact aJ.mpr ⟨z,e,q.symm⟩))]
   exact ih nn.2 e
theorem putK_new {k:Key}(h:mY kvs k=none):putK kvs k v=kvs++[(k,v)]:=by
 unfold putK;rw[valV_any,h];rfl
theorem str_nd:(mj (sAtK ss) ss.length).length=ss.length↔ss.Nodup:=by
 constructor
 ·intro h
  apply fY.mpr λi j hi hj hij e=>?_
  have:=metK_lt (val:=sAtK ss) hij (by unfold sAtK;rw[dk,dk,gE hi,gE hj,e]) hj;lia
 ·intro nd
  apply metK_nd λi j hij hj e=>?_
  unfold sAtK at e;rw[dk,dk,gE (Nat.lt_trans hij hj),gE hj] at e;injection e with e
  exact(fY.mp nd) i j _ hj hij e
theorem setTK (P:aK)(w:bc)(K:aj)(hc:X.calm=true)(hP:autoParam (X.prog=P) L2.au0._auto_1)(hw:autoParam (X.w=w) L2.au0._auto_1)(hK:autoParam (X.K=K) L2.au0._auto_1):iM X (.type "set") (λxs H Q=>∃(p:ao) (ns:List Str),xs=[.ref p]∧SqT K H p (ns.map V.str)∧ns.length≤1000∧∀a,H a=none→Q (.ref a) (upd H a (isSet P w a (mj (sAtK ns) ns.length)))):=by subst hP hw hK;exact call_setT hc
theorem lenSK (P:aK)(w:bc)(hP:autoParam (X.prog=P) L2.au0._auto_1)(hw:autoParam (X.w=w) L2.au0._auto_1):iM X (.builtin "len") (λxs H Q=>∃(a:ao) (l:List Key),xs=[.ref a]∧H a=some (isSet P w a l)∧Q (.int l.length) H):=by subst hP hw;exact call_lenK
theorem scTakeL:cI ["self","row","name","stops"] pzb (defScope sTakeL):=by trivial
theorem ok_takeL {fi fh fs:ao}{di ds:aU}(F:Fun K "take_line" "Plan.take_line" sTakeL f fd)(T:Nm mg)(hset:mg "set" =none)(PK:PlaK P w K mg base CP CL fh fs dh ds)(LM:LinM P w K mg base CL fi di):‹0› 5 f fd pzb (spTakeL CP CL):=by
 specialize F.ok scTakeL;obtain ⟨H0,p,q,DL,LB,b,zs,bt,n,ss,rs,rfl,I,f1,f2,⟨a,b',ha,hb,hq⟩,two,few,rl,kn,ky⟩:=h;have u1:=lM (lg (show 1≤64 by decide) _) hr.units;apply ⟨_,PSl.h (bz ⟨(psZ 2 scTakeL.nd (ixZ (pv 1)))⟩ (bz ⟨(psZ 3 scTakeL.nd (ixZ (pv 1)))⟩
  (bz ⟨(gC (PW.pt (mx (pt_cmp (pc_din u1 (pv 2) (fO (pv 0) rfl)) rfl) (kX (cf qh (b8 (lenSK P w) rfl T.len bu (ah (gJ (setTK P w K rfl) rfl hset boot_set (ah (pv 3) ay)) ay)) (b8 cF rfl T.len bu (ah (pv 3) ay)) (cN _))))) (bH (cA pE)) cZ)⟩
  (bz ⟨(ps_dput u1 (fO (pv 0) rfl) (pv 2) (pe_make LM.mke LM.f (hr.mono ↥0) rfl LM.gl LM.b .nil jh (ah (pv 2) (ah (pv 3) (ah (ixZ (pv 1)) (ah (jn (pv 0) PK.cc.cl PK.m1 PK.f1 (hr.mono ↥0) PK.b1 .nil jh) ay))))) rfl)⟩
  (gy ⟨(cA (jn (pv 0) PK.cc.cl PK.m2 PK.f2 hr PK.b2 .nil jh))⟩))))),?_⟩
 obtain⟨dp,hp⟩:=I.pl;have CC:=PK.cc;apply⟨ρ,q,τ,SqT.of hq,bp (j:=1) rfl,?_⟩;apply⟨ρ,q,τ,SqT.of hq,bp (j:=2) rfl,?_⟩;apply⟨ρ,ρ,p,CP,dp,_,ρ,hp,CC.cl,CC.n2,rfl,DL,ρ,.inl ⟨_,.inr n,.inl I.dl,rfl,rfl⟩,ρ,jC (λhc=>?_) (λhc=>?_)⟩
 ·apply kn (.inl ?_) H (cB.refl H)
  apply Classical.byContradiction λno=>?_
  rw[linK_no no] at hc;cases hc
 have hn:n ∉ zs.map (·.1.n):=fun hm=>hc (by
  obtain ⟨z,hz,rfl⟩:=aJ.mp hm;rw [oU I.nn hz];rfl)
 apply⟨ρ,a,ss,rfl,SqT.of ha,few,λsa hsa=>?_⟩;have S1:cB H (upd H sa (isSet P w sa (mj (sAtK ss) ss.length))):=cB.put (cB.refl H) hsa;have h1:(upd H sa (isSet P w sa (mj (sAtK ss) ss.length))) sa=some (isSet P w sa (mj (sAtK ss) ss.length)):=aR;generalize upd H sa (isSet P w sa (mj (sAtK ss) ss.length))=H1 at S1 h1 ⊢;apply⟨sa,ρ,h1,ρ,a,ρ,.inr (SqT.of (S1 _ _ ha)),rfl,ρ,jC (λhc=>?_) (λhc=>?_)⟩
 ·apply kn (.inr λnd=>?_) H1 S1
  rw[str_nd.mpr nd,ae] at hc;exact qK hc ∅
 have nd:ss.Nodup:=by
  apply str_nd.mp ?_;have hc:¬(!decide (V.int ((mj (sAtK ss) ss.length).length:Int)=V.int ((ss.map V.str).length:Int)))=true:=hc;rw[Bool.not_eq_true,Bool.not_eq_false'] at hc;have:=qN hc;injection this with this
  rw[ae] at this;lia
 have I1:=I.same S1;obtain⟨dp1,hp1⟩:=I1.pl;apply⟨ρ,ρ,ρ,q,τ,SqT.of (S1 _ _ hq),bp (j:=3) rfl,ρ,p,dp1,ρ,hp1,rfl,H0,p,DL,LB,b,zs,bt,rfl,I1,⟨⋯,⋯⟩,λH2 S2=>?_⟩;intro x dx hx hdx dxx;apply⟨x,dx,a,b',n,oa zs,rfl,aR,λD H3 k3 hD hD3 hx3=>⟨rfl,?_⟩⟩;have S12:=S1.trans S2;have I2:=I1.same S2;have e2:∀c o,H2 c=some o→H3 c=some o:=λc o e=>by
  apply k3 c o (aV e hx) ?_;rw[bo (aV e hx),bo (aV e hdx)];exact e
 have S23:cB H2 H3:=λc o e=>e2 c o e
 have hD2:H2 D=none:=by
  cases e:H2 D with
  | none=>rfl
  | some o =>
   rw[bo (aV e hx),bo (aV e hdx),e] at hD;cases hD
 have I3:=I2.same S23;obtain⟨dp3,hp3⟩:=I3.pl;apply⟨ρ,p,CP,dp3,_,ρ,hp3,CC.cl,CC.n2,rfl,ρ,DL,ρ,.inl ⟨_,.inr n,I3.dl,rfl,?_,rfl⟩,?_⟩
 ·show(kP zs).length<aA
  unfold kP;rw[ae];have:(100000:Nat)≤aA:=by decide
  lia
 rw[putK_new (linK_no hn)];have ez:kP zs++[(.inr n,.ref x)]=kP (zs++[(⟨n,ss,rs,[],oa zs⟩,x,D)]):=by unfold kP;rw[ax];rfl
 rw[ez];have k4:∀c o,c≠DL→H3 c=some o→(upd H3 DL (.dK (kP (zs++[(⟨n,ss,rs,[],oa zs⟩,x,D)])))) c=some o:=λc o hc e=>by rw[bo hc];exact e
 have h4:(upd H3 DL (.dK (kP (zs++[(⟨n,ss,rs,[],oa zs⟩,x,D)])))) DL=some (.dK (kP (zs++[(⟨n,ss,rs,[],oa zs⟩,x,D)]))):=aR;generalize upd H3 DL (.dK (kP (zs++[(⟨n,ss,rs,[],oa zs⟩,x,D)])))=H4 at k4 h4 ⊢;have DDL:D≠DL:=λz=>by rw[z,I2.dl] at hD2;cases hD2
 have kT:∀c xs,H3 c=some (.tup xs)→H4 c=some (.tup xs):=λc xs e=>k4 _ _ (eF e I3.dl nofun) e
 have kI:∀c C dx fs,H3 c=some (.ins C dx fs)→H4 c=some (.ins C dx fs):=λc C dx fs e=>k4 _ _ (eF e I3.dl nofun) e
 have A4:LnA H4 CL x D ⟨n,ss,rs,[],oa zs⟩:=⟨⟨dx,a,b',kI _ _ _ _ hx3,kT _ _ (e2 _ _ (S12 _ _ ha)),kT _ _ (e2 _ _ (S12 _ _ hb))⟩,⟨[],k4 _ _ DDL hD3,rfl,λz=>⟨(λv hv=>by cases hv),(λ_=>⟨rfl,∅⟩),(λhv=>by cases hv)⟩⟩,nd,two,few,rl⟩;have n0:H0 D=none:=by
  cases e:H0 D with
  | none=>rfl
  | some o=>rw[I2.S _ _ e] at hD2;cases hD2
 have I4:PlI CP CL H0 H4 p b (zs++[(⟨n,ss,rs,[],oa zs⟩,x,D)]) bt DL LB:=by
  obtain⟨ys,hB,dB⟩:=I3.lb;apply⟨λc o e=>k4 _ _ (aV e I3.nL) (I3.S _ _ e),⟨dp3,kI _ _ _ _ hp3⟩,I3.nL,I3.nB,λz hz=>?_,h4,λz hz=>?_,?_,?_,ys,k4 _ _ (eF hB I3.dl nofun) hB,?_⟩
  ·rcases aL.mp hz with hz | hz
   ·exact I3.nD z hz
   ·rw[aB.mp hz];exact n0
  ·rcases aL.mp hz with hz | hz
   ·have A:=I3.ln z hz
    obtain⟨kvs,d1,_⟩:=A.s.ex;have nz:z.2.2≠DL:=λe=>(bN.mp I3.nd).1 (aJ.mpr ⟨z,hz,e⟩)
    exact A.kept kT kI ((k4 _ _ nz d1).trans d1.symm)
   ·rw[aB.mp hz];exact A4
  ·rw[ax,bN]
   obtain⟨m1,m2⟩:=bN.mp I3.nd;apply⟨λhm=>?_,List.nodup_append.mpr ⟨m2,∅,λc hc d hd e=>?_⟩⟩
   ·rcases aL.mp hm with hm | hm
    ·exact m1 hm
    ·exact DDL (aB.mp hm).symm
   ·have hd:d=D:=by simpa using hd
    subst hd;subst e;obtain⟨z,hz,ez⟩:=aJ.mp hc;obtain⟨kvs,d1,_⟩:=(I2.ln z hz).s.ex;rw[ez,hD2] at d1;cases d1
  ·rw[ax]
   apply List.nodup_append.mpr ⟨I3.nn,∅,λc hcc d hd e=>?_⟩;have hd:d=n:=by simpa using hd
   rw[e,hd] at hcc;exact hn hcc
  ·have fin:∀{vs:List V} {sp:List Sn},jc H3 vs (sp.map snD)→jc H4 vs (sp.map snD):=by
    intro vs sp
    induction sp generalizing vs with
    | nil=>intro h;cases h;exact .nil
    | cons x sp ih =>
     intro h;cases h with
     | cons h r =>
      obtain⟨a,us,rfl,ha,rz⟩:=h.tup_of;have ez:=jc.ints_of rz;subst ez;exact .cons (.tup (kT _ _ ha) (jc.ints _)) (ih r)
   exact fin dB
 obtain⟨dp4,hp4⟩:=I4.pl;apply⟨ρ,p,dp4,ρ,hp4,rfl,H0,p,DL,LB,b,_,bt,rfl,I4,⟨by rw[aq];show zs.length+1≤100;lia,⋯⟩,λH5 S5=>ky hn nd x D H5 (I4.same S5)⟩
abbrev sChange:cW:=top 36
abbrev sBtw:cW:=clsOf cPla 7
abbrev sTakeB:cW:=clsOf cPla 8
abbrev sTakeP:cW:=clsOf cPla 9
inductive spChange (C:ao)(vs:List V)(H:Hp)(Q:VK)(_:XK):Prop
 | mk (l o w:Int)(x y p:ao)(n1 n2 z:Str)(ss tt:List Str)(rs us:List Int)(fi gi:Int)(i j:Nat)(_:vs=[.ref x,.ref y,.ref p])(_:LnOk H C x ss rs fi)(_:LnOk H C y tt us gi)(_:H p=some (.tup [.str "change",.str n1,.str n2,.str z,.int l,.int o,.int w]))(_:ss[i]? =some z)(_:1≤i)(_:tt[j]? =some z)(_:j+1<tt.length)(_:∀q H',cB H H'→H' q=some (.tup [.int (fi+2 * i - 1),.int (gi+2 * j),.int l,.int o,.int w])→Q (.ref q) H')
inductive Bt (b:Int)(x y:Ln):Str→List Str→List Int→Sn→Prop
 | change {z:Str} {l o w:Int} {i j:Nat} (h1:x.ss[i]? =some z) (h2:1≤i) (h3:y.ss[j]? =some z) (h4:j+1<y.ss.length):Bt b x y "change" [x.n,y.n,z] [l,o,w] ⟨x.fi+2 * i - 1,y.fi+2 * j,l,o,w⟩
 | apart {z:Str} {d:Int} {i j:Nat} (h1:x.ss[i]? =some z) (h2:i+1<x.ss.length) (h3:y.ss[j]? =some z) (h4:j+1<y.ss.length):Bt b x y "apart" [x.n,y.n,z] [d] ⟨x.fi+2 * i,y.fi+2 * j,d,b - d,0⟩
 | meet {z z2:Str} {d r u:Int} {i j:Nat} (h1:x.ss[i]? =some z) (h2:x.ss[i+1]? =some z2) (h3:x.rs[i]? =some r) (h4:y.ss[j]? =some z2) (h5:y.ss[j+1]? =some z) (h6:y.rs[j]? =some u):Bt b x y "meet" [x.n,y.n,z,z2] [d] ⟨x.fi+2 * i,y.fi+2 * j,r+d,b - u - d,0⟩
def Btw (b:Int)(ls:List Ln)(k:Str)(ns:List Str)(is:List Int)(sn:Sn):Prop:=∃x y:Ln,x∈ls∧y∈ls∧x.n≠y.n∧Bt b x y k ns is sn
inductive spBtw (CP CL:ao)(vs:List V)(H:Hp)(Q:VK)(_:XK):Prop
 | mk (H0:Hp)(p q DL LB:ao)(b:Int)(zs:List LX)(bt:List Sn)(k:Str)(ns:List Str)(is:List Int)(sn:Sn)(_:vs=[.ref p,.ref q])(_:PlI CP CL H0 H p b zs bt DL LB)(_:(PR.oth k ns is).at H q)(_:Btw b (zs.map (·.1)) k ns is sn)(_:∀t H',cB H H'→H' t=some (.tup [.int sn.s,.int sn.g,.int sn.l,.int sn.o,.int sn.w])→Q (.ref t) H')
def snB (b m:Int)(x:Sn):Bool:=nK m (.int x.s) (.int x.g) && (pJ b (.int x.l) (.int x.o) && inI (.int x.w) 0 1000000000000)
inductive spTakeB (CP CL:ao)(vs:List V)(H:Hp)(Q:VK)(_:XK):Prop
 | mk (H0:Hp)(p q DL LB:ao)(b:Int)(zs:List LX)(bt:List Sn)(k:Str)(ns:List Str)(is:List Int)(sn:Sn)(_:vs=[.ref p,.ref q])(_:PlI CP CL H0 H p b zs bt DL LB)(_:zs.length≤90)(_:bt.length≤90)(_:(PR.oth k ns is).at H q)(_:Btw b (zs.map (·.1)) k ns is sn)(_:∀H',PlI CP CL H0 H' p b zs (bt++[sn]) DL LB→Q (.bl (snB b (oa zs) sn && small zs (bt++[sn]))) H')
theorem LnA.ok {x:ao}(A:LnA H C x D l):LnOk H C x l.ss l.rs l.fi:=⟨⟨D,l.n,A.d⟩,A.nd,A.two,A.few,A.rl⟩
theorem scChange:cI pzq pzq (defScope sChange):=by trivial
theorem ok_change {fc fg fr:ao}(F:Fun K "change_span" "change_span" sChange f fd)(CK:LinK P w K mg base C fc fg fr dc dg dr):‹0› 2 f fd pzq (spChange C):=by
 specialize F.ok scChange;obtain⟨l,o,w,x,y,p,n1,n2,z,ss,tt,rs,us,fi,gi,i,j,rfl,hx,hy,hp,e1,e2,e3,e4,k⟩:=h;apply⟨_,bH (cA (jq (ah (ig (pv 0) CK.cc.cl CK.m1 CK.f1 hr CK.b1 .nil jh (ah (ixZ (pv 2)) ay)) (ah (ig (pv 1) CK.cc.cl CK.m2 CK.f2 hr CK.b2 .nil jh (ah (ixZ (pv 2)) ay)) (ah (ixZ (pv 2)) (ah (ixZ (pv 2)) (ah (ixZ (pv 2)) ay))))))),?_⟩;obtain⟨⟨D,n,L⟩,nd,two,few,_⟩:=hx;obtain⟨dx,a,b,hx1,_⟩:=id L;apply⟨ρ,x,dx,ρ,hx1,rfl,ρ,p,τ,SqT.of hp,bp (j:=3) rfl,x,D,n,z,ss,rs,fi,rfl,L,few,two,nd,λH1 S1=>⟨λi' a1 a2=>?_,λno=>qK (no i e1) ⋯⟩⟩;obtain rfl:=(j6 nd e1 a1).symm;obtain⟨⟨D2,n2',L2'⟩,nd2,two2,few2,_⟩:=hy.kept S1;obtain⟨dy,a3,b3,hy1,_⟩:=id L2';apply⟨ρ,y,dy,ρ,hy1,rfl,ρ,p,τ,SqT.of (S1 _ _ hp),bp (j:=3) rfl,y,D2,n2',z,tt,us,gi,rfl,L2',few2,two2,nd2,λH2 S2=>⟨λj' a1' a2'=>?_,λno=>qK (no j e3) ⋯⟩⟩;obtain rfl:=(j6 nd2 e3 a1').symm;have hp2:=S2 _ _ (S1 _ _ hp);apply⟨ρ,p,τ,SqT.of hp2,bp (j:=4) rfl,ρ,p,τ,SqT.of hp2,bp (j:=5) rfl,ρ,p,τ,SqT.of hp2,bp (j:=6) rfl,szZ5,λq H3 S3 e=>?_⟩;exact k q H3 (S1.trans (S2.trans S3)) e
theorem scBtw:cI ["self","row","one","other"] pzb (defScope sBtw):=by trivial
theorem ok_btw {f3:ao}{d3:aU}(F:Fun K "span_between" "Plan.span_between" sBtw f fd)(CC:PlaC K CP)(G1:Fn K mg "change_span" sChange pzq f1 d1)(F1:‹0› 2 f1 d1 pzq (spChange CL))
  (G2:Fn K mg "apart_span" sApart pzh f2 d2) (F2:‹0› 2 f2 d2 pzh (spApart CL)) (G3:Fn K mg "meet_span" sMeet pzh f3 d3) (F3:‹0› 2 f3 d3 pzh (spMeet CL)):‹0› 3 f fd pzb (spBtw CP CL):=by
 specialize F.ok scBtw;obtain ⟨H0,p,q,DL,LB,b,zs,bt,k,ns,is,sn,rfl,I,hq,B,kk⟩:=h;have u1:=lM (lg (show 1≤64 by decide) _) hr.units;apply ⟨_,PSl.h (bz ⟨(psZ 2 scBtw.nd (pe_dget1 u1 (fO (pv 0) rfl) (ixZ (pv 1)) ⟨rfl,rfl,rfl,rfl⟩))⟩ (bz ⟨(psZ 3 scBtw.nd (pe_dget1 u1 (fO (pv 0) rfl) (ixZ (pv 1)) ⟨rfl,rfl,rfl,rfl⟩))⟩
  (bz ⟨(gC (PW.pt (mx (cf op_isN (pv 2) jf (cN _)) (mx (cf op_isN (pv 3) jf (cN _)) (kX (cf iW (ixZ (pv 1)) (ixZ (pv 1)) (cN _)))))) (bH (cA jf)) cZ)⟩
  (bz ⟨(gC (cf iW (ixZ (pv 1)) dC (cN _)) (bH (cA (pc1 G1 F1 hr (ah (pv 2) (ah (pv 3) (ah (pv 1) ay)))))) cZ)⟩
  (bz ⟨(gC (cf iW (ixZ (pv 1)) dC (cN _)) (bH (cA (pc1 G2 F2 hr (ah (fO (pv 0) rfl) (ah (pv 2) (ah (pv 3) (ah (pv 1) ay))))))) cZ)⟩
  (gy ⟨(cA (pc1 G3 F3 hr (ah (fO (pv 0) rfl) (ah (pv 2) (ah (pv 3) (ah (pv 1) ay))))))⟩)))))),?_⟩
 obtain⟨dp,hp⟩:=I.pl;have dl:=I.dl;obtain⟨x',y',hx',hy',ne,B⟩:=B;obtain⟨x,hx,rfl⟩:=aJ.mp hx';obtain⟨y,hy,rfl⟩:=aJ.mp hy';obtain⟨r,hq'⟩:∃r:List V,H q=some (.tup (.str k:: .str x.1.n:: .str y.1.n::r)):=by
  cases B with
  | change=>exact⟨_,hq⟩
  | apart=>exact⟨_,hq⟩
  | meet=>exact⟨_,hq⟩
 apply⟨ρ,p,CP,dp,_,ρ,hp,CC.cl,CC.n2,rfl,DL,rfl,.inl ⟨_,.inl dl⟩,ρ,q,τ,SqT.of hq',bp (j:=1) rfl,_,.inl ⟨_,.inr x.1.n,.inl dl,rfl,rfl⟩,?_⟩;rw[oU I.nn hx];apply⟨ρ,p,CP,dp,_,ρ,hp,CC.cl,CC.n2,rfl,DL,rfl,.inl ⟨_,.inl dl⟩,ρ,q,τ,SqT.of hq',bp (j:=2) rfl,_,.inl ⟨_,.inr y.1.n,.inl dl,rfl,rfl⟩,?_⟩;rw[oU I.nn hy];apply⟨ρ,rfl,ρ,lq (qM nofun) ⟨_,rfl,rfl,_,rfl,lq (qM nofun) ?_⟩⟩;apply⟨ρ,q,τ,SqT.of hq',bp (j:=1) rfl,ρ,q,τ,SqT.of hq',bp (j:=2) rfl,rfl,ρ,lq (qM λz=>ne (by injection z)) ?_⟩;have Ax:=(I.ln x hx).ok;have Ay:=(I.ln y hy).ok;apply⟨ρ,q,τ,SqT.of hq',bp (j:=0) rfl,rfl,ρ,?_⟩;cases B with
 | change h1 h2 h3 h4 =>
  apply qj (qL rfl) ?_;exact⟨ρ,ρ,ρ,_,_,_,_,_,q,_,_,_,_,_,_,_,_,_,_,ρ,Ax,Ay,hq,h1,h2,h3,h4,kk⟩
 | apart h1 h2 h3 h4 =>
  apply lq ⇑0 ?_;apply⟨ρ,q,τ,SqT.of hq',bp (j:=0) rfl,rfl,ρ,qj (qL rfl) ?_⟩;exact⟨ρ,p,CP,dp,_,ρ,hp,CC.cl,CC.n1,rfl,ρ,ρ,ρ,b,_,_,_,q,_,_,_,_,_,_,_,_,_,_,ρ,Ax,Ay,hq,h1,h2,h3,h4,kk⟩
 | meet h1 h2 h3 h4 h5 h6 =>
  apply lq ⇑0 ?_;apply⟨ρ,q,τ,SqT.of hq',bp (j:=0) rfl,rfl,ρ,lq ⇑0 ?_⟩;exact⟨ρ,p,CP,dp,_,ρ,hp,CC.cl,CC.n1,rfl,ρ,ρ,ρ,b,_,_,_,_,_,q,_,_,_,_,_,_,_,_,_,_,_,ρ,Ax,Ay,hq,h1,h2,h3,h4,h5,h6,kk⟩
theorem sn_at {t:ao}{x:Sn}(h:H t=some (.tup [.int x.s,.int x.g,.int x.l,.int x.o,.int x.w]))(b m:Int):nc H b m (.ref t)=snB b m x:=by
 simp only[nc,h];rfl
theorem sn_g1 {t:ao}{x:Sn}(h:H t=some (.tup [.int x.s,.int x.g,.int x.l,.int x.o,.int x.w])):G1 H (.ref t):=by
 apply⟨⟨"tuple",by simp only[tyn,h]⟩,λa xs ev ha x hx=>?_⟩;injection ev with ev
 subst ev;rw[h] at ha;injection ha with ha
 injection ha with ha
 subst ha;simp only[aw,aO,or_false] at hx
 rcases hx with rfl | rfl | rfl | rfl | rfl <;> exact⟨"int",rfl⟩
theorem scTakeB:cI ["self","row","span"] pzb (defScope sTakeB):=by trivial
theorem ok_takeB {fb fh fs:ao}{db ds:aU}(F:Fun K "take_between" "Plan.take_between" sTakeB f fd)(PK:PlaK P w K mg base CP CL fh fs dh ds)(mb:qH K CP "span_between" fb)(FB:‹0› 3 fb db pzb (spBtw CP CL))(bb:Binds K db pzb [])
  (GS:Fn K mg "is_span" sSpan pzk f1 d1) (FS:‹0› 4 f1 d1 pzk spSpan):‹0› 5 f fd pzb (spTakeB CP CL):=by
 specialize F.ok scTakeB;obtain ⟨H0,p,q,DL,LB,b,zs,bt,k,ns,is,sn,rfl,I,f1,f2,hq,B,kk⟩:=h;have CC:=PK.cc;apply ⟨_,PSl.h (bz ⟨(psZ 2 scTakeB.nd (ig (pv 0) CC.cl mb FB (hr.mono ↥0) bb .nil jh (ah (pv 1) ay)))⟩
  (bz ⟨(iA (jg bJ cw cv ia (fO (pv 0) rfl) (ah (pv 2) ay)))⟩
  (gy ⟨(cA (ou (pc1 GS FS hr (ah (fO (pv 0) rfl) (ah (jn (pv 0) CC.cl PK.m1 PK.f1 (hr.mono ↥0) PK.b1 .nil jh) (ah (pv 2) ay)))) (qw (jn (pv 0) CC.cl PK.m2 PK.f2 hr PK.b2 .nil jh))))⟩))),?_⟩
 obtain⟨dp,hp⟩:=I.pl;have big:(100000:Nat)≤aA:=by decide
 apply⟨ρ,p,dp,ρ,hp,rfl,ρ,H0,p,q,DL,LB,b,zs,bt,k,ns,is,sn,rfl,I,hq,B,λt H1 S1 ht=>?_⟩;have I1:=I.same S1;obtain⟨dp1,hp1⟩:=I1.pl;obtain⟨ys,hB,dB⟩:=I1.lb;have ly:ys.length=bt.length:=by have:=dB.length;rwa [ae] at this
 apply⟨ρ,p,CP,dp1,_,ρ,hp1,CC.cl,CC.n3,rfl,.inl ⟨rfl,_,SqL.of hB⟩,ρ,LB,ς,hB,⋯,?_⟩;have k2:∀c o,c≠LB→H1 c=some o→(upd H1 LB (.lst (ys++[.ref t]))) c=some o:=λc o hc e=>by rw[bo hc];exact e
 have h2:(upd H1 LB (.lst (ys++[.ref t]))) LB=some (.lst (ys++[.ref t])):=aR;generalize upd H1 LB (.lst (ys++[.ref t]))=H2 at k2 h2 ⊢;have ht2:=k2 _ _ (eF ht hB nofun) ht;have I2:PlI CP CL H0 H2 p b zs (bt++[sn]) DL LB:=by
  apply⟨λc o e=>k2 _ _ (aV e I1.nB) (I1.S _ _ e),⟨dp1,k2 _ _ (eF hp1 hB nofun) hp1⟩,I1.nL,I1.nB,I1.nD,k2 _ _ (eF I1.dl hB nofun) I1.dl,λz hz=>?_,I1.nd,I1.nn,_,h2,?_⟩
  ·have A:=I1.ln z hz
   obtain⟨kvs,d1,_⟩:=A.s.ex;exact A.kept (λb xs e=>k2 _ _ (eF e hB nofun) e) (λb C dx fs e=>k2 _ _ (eF e hB nofun) e) ((k2 _ _ (eF d1 hB nofun) d1).trans d1.symm)
  ·rw[ax]
   exact(lH dB k2 hB).append (jc.one (snD_at ht2))
 obtain⟨dp2,hp2⟩:=I2.pl;have fw:Few zs (bt++[sn]):=⟨⋯,by rw[aq];show bt.length+1≤100;lia⟩;apply⟨ρ,p,CP,dp2,_,ρ,hp2,CC.cl,CC.n1,rfl,ρ,p,dp2,ρ,hp2,rfl,H0,p,DL,LB,b,zs,ρ,I2,fw,λH3 S3=>?_⟩;have ht3:=S3 _ _ ht2;apply⟨ρ,b,oa zs,ρ,sn_g1 ht3,ρ,?_⟩;rw[sn_at ht3];apply jC (λhc=>?_) (λhc=>?_)
 ·have I3:=I2.same S3
  obtain⟨dp3,hp3⟩:=I3.pl;apply⟨ρ,p,dp3,ρ,hp3,rfl,H0,p,DL,LB,b,zs,ρ,I3,fw,λH4 S4=>?_⟩;have e:=kk H4 (I3.same S4);rw[hc,iP] at e;exact e
 ·have e:=kk H3 (I2.same S3)
  have hc:snB b (oa zs) sn=false:=by simpa using hc
  rw[hc,j4] at e;exact e
end HN
namespace L2
open PySem PySem.Spec PyProof.Rows
theorem enumL_step {z i1:ao}{xs:Array af}{x:af}(E0:IsEnum s.heap z i1 k was)(J0:s.heap.IsListIter i1 a k)(T0:s.heap.IsList a xs)(hx:xs[k]? =some x)(hzi:z≠i1)
  (q:∀ g,IsEnumOut g z i1 ((k:Int)+1) x s.heap.objs.size→g.IsListIter i1 a (k+1)→g.get? s.heap.objs.size=some { cls:= .type "tuple",data:= .seq #[.int k s.toks,x] }→g.objs.size=s.heap.objs.size+1 →
   (∀ c o,c≠z→c≠i1→s.heap.get? c=some o→g.get? c=some o)→Q (.ref s.heap.objs.size) { s with heap:=g,toks:=s.toks+1 }) :
  aT (bB prog w) A (ee.«enumerate.__next__» ⟨[.ref z],[]⟩) (λfin s'=>∃v,fin= .done (.ret v)∧Q v s') E s:=by
 obtain⟨h0,gs,dr,tk,os⟩:=s;show aT _ _ (field (.ref z) 2 >>= _) _ _ _;apply ak (cQ E0 rfl (x:= .ref i1) rfl ?_);apply ak (wpAny_nextOf_list_item J0 T0 hx λg1 J1 s1=>?_);have s1:cT i1 h0 g1:=s1;have E1:IsEnum g1 z i1 k was:=(s1.2 z hzi).trans E0;show aT _ _ (field (.ref z) 3 >>= _) _ _ ⟨g1,gs,dr,tk,os⟩;apply ak (cQ E1 rfl (x:=kt k) rfl ?_);show aT _ _ (field (.ref z) 4 >>= _) _ _ ⟨g1,gs,dr,tk,os⟩;apply ak (cQ E1 rfl (x:= .none) rfl ?_);show aT _ _ (mkInt k >>= _) _ _ ⟨g1,gs,dr,tk,os⟩;apply ak (wpAny_mkInt ?_);show aT _ _ (setField (.ref z) 3 (kt ((k:Int)+1)) >>= _) _ _ ⟨g1,gs,dr,tk+1,os⟩;apply ak (eN E1 ∅ λg2 E2 s2=>?_);have s2:cT z g1 g2:=s2;have E2:IsEnum g2 z i1 ((k:Int)+1) was:=E2;show aT _ _ (setField (.ref z) 4 .none >>= _) _ _ ⟨g2,gs,dr,tk+1,os⟩;apply ak (eN E2 ∅ λg3 E3 s3=>?_);have s3:cT z g2 g3:=s3;have E3:IsEnum g3 z i1 ((k:Int)+1) was:=E3;show aT _ _ (newTuple [.int k tk,x] >>= _) _ _ ⟨g3,gs,dr,tk+1,os⟩;apply ak (wpAny_newTuple ?_);have E4:IsEnum (g3.push { cls:= .type "tuple",data:= .seq #[.int k tk,x] }) z i1 ((k:Int)+1) was:=av _ E3;have z3:g3.objs.size=h0.objs.size:=by rw[s3.1,s2.1,s1.1]
 have J4:(g3.push { cls:= .type "tuple",data:= .seq #[.int k tk,x] }).IsListIter i1 a (k+1):=by
  obtain⟨o,e,r⟩:=(J1.extBut s2.extBut hzi.symm).extBut s3.extBut hzi.symm;exact⟨o,av _ e,r⟩
 have T4:(g3.push { cls:= .type "tuple",data:= .seq #[.int k tk,x] }).get? h0.objs.size=some { cls:= .type "tuple",data:= .seq #[.int k tk,x] }:=by rw[←z3];exact aQ _ rfl
 have z4:(g3.push { cls:= .type "tuple",data:= .seq #[.int k tk,x] }).objs.size=h0.objs.size+1:=by rw[dJ,z3]
 have k4:∀c o,c≠z→c≠i1→h0.get? c=some o→(g3.push { cls:= .type "tuple",data:= .seq #[.int k tk,x] }).get? c=some o:=λc o c1 c2 e=>av _ (s3.extBut c o c1 (s2.extBut c o c1 (s1.extBut c o c2 e)))
 have zlt:z<h0.objs.size:=aS E0;generalize g3.push { cls:= .type "tuple",data:= .seq #[.int k tk,x] }=g4 at E4 J4 T4 z4 k4;rw[z3];show aT _ _ (gf (.ref z) >>= _) _ _ ⟨g4,gs,dr,tk+1,os⟩;apply ak ?_;unfold gf;apply ak (cQ E4 rfl (x:= .none) rfl (aN ?_));simp only[if_true];apply ak (wpAny_rule ?_);apply ak (cQ E4 rfl (x:=was) rfl ?_);apply ak (eN E4 ∅ λg5 E5 s5=>?_);have s5:cT z g4 g5:=s5;have E5:IsEnum g5 z i1 ((k:Int)+1) x:=E5;show aT _ _ (iw (.ref z) (.ref h0.objs.size) >>= _) _ _ ⟨g5,gs,dr,tk+1,os⟩;apply ak ?_;unfold iw;apply ak (eN E5 ∅ λg6 E6 s6=>?_);have s6:cT z g5 g6:=s6;have E6:IsEnumOut g6 z i1 ((k:Int)+1) x h0.objs.size:=E6;apply eN E6 ∅ λg7 E7 s7=>?_
 have s7:cT z g6 g7:=s7;have E7:IsEnumOut g7 z i1 ((k:Int)+1) x h0.objs.size:=E7;have up:∀c o,c≠z→g4.get? c=some o→g7.get? c=some o:=λc o c1 e=>s7.extBut c o c1 (s6.extBut c o c1 (s5.extBut c o c1 e))
 apply ak (wpAny_letGo (aN ⟨_,rfl,q g7 E7 ?_ (up _ _ (jr zlt) T4) (by rw[s7.1,s6.1,s5.1,z4]) λc o c1 c2 e=>up c o c1 (k4 c o c1 c2 e)⟩));obtain⟨o,e,r⟩:=J4;exact⟨o,up _ o hzi.symm e,r⟩
theorem enumL_item {z i1:ao}{xs:Array af}{x:af}{Q:Option af→ar→Prop}(E0:IsEnum s.heap z i1 k was)(J0:s.heap.IsListIter i1 a k)(T0:s.heap.IsList a xs)(hx:xs[k]? =some x)(hzi:z≠i1)
  (q:∀ g,IsEnumOut g z i1 ((k:Int)+1) x s.heap.objs.size→g.IsListIter i1 a (k+1)→g.get? s.heap.objs.size=some { cls:= .type "tuple",data:= .seq #[.int k s.toks,x] }→g.objs.size=s.heap.objs.size+1 →
   (∀ c o,c≠z→c≠i1→s.heap.get? c=some o→g.get? c=some o)→Q (some (.ref s.heap.objs.size)) { s with heap:=g,toks:=s.toks+1 }):aT (bB prog w) A (pyNext (.ref z)) Q E s:=by
 have ht:s.TypeIs (.ref z) "enumerate" := ⟨_,E0,rfl⟩;unfold pyNext;apply ak (kW (fD (name:=au "__next__") ht kG (iE kG ht F.entry_enumerate_next ?_ (F.args_enumerate_next_1 _))));exact enumL_step E0 J0 T0 hx hzi λg e1 e2 e3 e4 e5=>aN (q g e1 e2 e3 e4 e5)
theorem enumL_end {z i1:ao}{xs:Array af}{Q:Option af→ar→Prop}(hh:A.handled=none)(E0:IsEnum s.heap z i1 k was)(J0:s.heap.IsListIter i1 a k)(T0:s.heap.IsList a xs)(hx:xs[k]? =none)
  (q:∀g,bM.ExtBut i1 s.heap g→Q none { s with heap:=g }):aT (bB prog w) A (pyNext (.ref z)) Q E s:=by
 have ht:s.TypeIs (.ref z) "enumerate" := ⟨_,E0,rfl⟩;unfold pyNext;apply ak (kW (fD (name:=au "__next__") ht kG (iE kG ht F.entry_enumerate_next ?_ (F.args_enumerate_next_1 _))));show aT _ _ (field (.ref z) 2 >>= _) _ _ _;apply ak (cQ E0 rfl (x:= .ref i1) rfl ?_);apply ak (wpAny_nextOf_list_end hh J0 T0 hx λg x kp hxx=>?_);obtain⟨o,e1,e2⟩:=hxx;apply ak (wpAny_isInstance (T := "StopIteration") (b:=true) ⟨o,e1,e2⟩ isSubtype_stop ?_);exact aN (q _ kp)
section
open AutoSeq1 (wpAny_loadPart')
theorem enumL_new (a:ao)(xs:Array af) :
  Meets (ee.«enumerate.__new__» ⟨[.type "enumerate",.ref a],[]⟩) (fun _ R s=>s.heap.IsList a xs ∧
   R (.ok (.ret (.ref (s.heap.push { cls:= .type "list_iterator",data:= .fields #[.ref a,.int 0 0] }).objs.size)))
    {s with heap:=(s.heap.push { cls:= .type "list_iterator",data:= .fields #[.ref a,.int 0 0] }).push { cls:= .type "enumerate",data:= .fields #[.none,.bool false,.ref s.heap.objs.size,kt 0,.none,.none] } }) :=
 .of_wp λprog w A R s h=>by
  obtain⟨hp,g,d,tk,os⟩:=s;obtain⟨h1,h⟩:=h;have subE:=sub_enumerate;have k1:bM.IsList (ar.heap ⟨hp,g,d,tk,os⟩) a xs:=h1
  wp_walk using gN k1
  apply wpAny_stack_any λst=>aN ?_
  split
  ·rename_i c _ _ _ _ _
   cases(c == af.type "enumerate")
   ·wp_walk using gN k1
    exact⟨ρ,h⟩
   ·wp_walk using gN k1
    exact⟨ρ,h⟩
  ·wp_walk using gN k1
   exact⟨ρ,h⟩
theorem call_enumL {xs:Array af}(h1:s.heap.IsList a xs)
  (q:∀g,IsEnum g (s.heap.objs.size+1) s.heap.objs.size 0 .none→g.IsListIter s.heap.objs.size a 0→g.objs.size=s.heap.objs.size+2→(∀c o,s.heap.get? c=some o→g.get? c=some o)→Q (.ref (s.heap.objs.size+1)) { s with heap:=g }) :
  aT (bB prog w) A (call (.type "enumerate") [.ref a]) Q E s:=by
 apply callType_new F.called_enumerate ↥0 (F.typeCall_enumerate_1 _) (F.newCall_enumerate_1 _) (λobj=>F.args_object_init_2 obj _) F.entry_enumerate_new (enumL_new a xs) ⟨h1,?_⟩;have e1:(s.heap.push { cls:= .type "list_iterator",data:= .fields #[.ref a,.int 0 0] }).objs.size=s.heap.objs.size+1:=dJ ..;have f2:=aQ (s.heap.push { cls:= .type "list_iterator",data:= .fields #[.ref a,.int 0 0] }) (o:={ cls:= .type "enumerate",data:= .fields #[.none,.bool false,.ref s.heap.objs.size,kt 0,.none,.none] }) rfl;show _∧_;rw[e1] at f2 ⊢;exact⟨⟨_,f2,rfl⟩,q _ f2 ⟨_,av _ (aQ _ rfl),rfl,rfl⟩ (by rw[dJ,e1]) λc o x=>av _ (av _ x)⟩
end
def ItL (a:ao):It :=
 ⟨fun i H=>∃ xs x,H a=some (.lst xs)∧xs[i]? =some x,
  λi H v H'=>∃p x,H p=none∧v= .ref p∧H'=upd H p (.tup [.int (i:Nat),x])∧∀xs,H a=some (.lst xs)→xs[i]? =some x,
  fun i H=>∃ xs,H a=some (.lst xs)∧xs.length≤i⟩
theorem turn_enumL {k0}{z i1:ao}(a:ao)(hzi:z≠i1) :
  Turn P w K (.Tuple es k0 pos) (ItL a) [z,i1] z (λi h=>(∃was,IsEnum h z i1 i was)∧h.IsListIter i1 a i) where
 mem:=by simp
 obj:=λi h st c hc=>by
  obtain⟨⟨was,e1⟩,⟨o2,e2,_,d2⟩⟩:=st;simp only[aw,aO,or_false] at hc
  rcases hc with rfl | rfl
  ·exact⟨_,e1,λv z=>by cases z⟩
  ·exact⟨_,e2,λv z=>by rw[d2] at z;cases z⟩
 keep:=λi h h' st k=>by
  obtain⟨⟨was,e1⟩,⟨o2,e2,r2⟩⟩:=st;exact⟨⟨was,k z ∅ _ e1⟩,⟨o2,k i1 ∅ _ e2,r2⟩⟩
 item:=by
  intro X hP hw hK hc i aI s σ H E I hf st hg;subst hP hw hK;obtain⟨xs,x,ha,hx⟩:=hg;obtain⟨⟨was,e1⟩,j1⟩:=st;obtain⟨its,rv,pt,_⟩:=I.list (SqL.of (K:=X.K) ha);obtain⟨u,hu,ru⟩:=rv.get hx;have nz:∀e∈[z,i1],H e=none:=λe he=>(hf e he).1
  have hT:H s.heap.objs.size=none:=I.fresh;apply enumL_item e1 j1 (pt.isList) (x:=u) (by simpa using hu) hzi λg z1 m1 tp sz kk=>⟨ρ,?_⟩
  apply wpAny_letOwnedTupleGo_enum z1 λg2 z2 s2=>?_
  have s2:cT z g g2:=s2;have k2:∀e o,e ∉ [z,i1]→s.heap.get? e=some o→g2.get? e=some o:=λe o hn h=>by
   simp only[aw,aO,or_false,not_or] at hn;exact s2.extBut _ _ hn.1 (kk e o hn.1 hn.2 h)
  have zlt:z<s.heap.objs.size:=aS e1;have tp2:g2.get? s.heap.objs.size=some { cls:= .type "tuple",data:= .seq #[.int i s.toks,u] }:=s2.extBut _ _ (jr zlt) tp;have trk:∀e o,H e=some o→e ∉ [z,i1]:=λe o he hm=>by rw[nz e hm] at he;cases he
  have I':=I.tok (s.toks+1);have J:Inv X aI σ (upd H s.heap.objs.size (.tup [.int (i:Nat),x])) { s with heap:=g2,toks:=s.toks+1 }:=by
   apply I'.turnAll (ch:=[z,i1]) (λe he=>hf e he) k2 (λe o h=>by rw[bo (aV h hT)];exact h) (λe o h n=>by rw[bo (cJ (aS h))];exact n) λe o h=>?_
   by_cases q:e=s.heap.objs.size
   ·subst q
    rw[aR] at h;cases h;exact⟨by show 2≤aA;decide,[.int i s.toks,u],.cons ⟨_,rfl⟩ (.cons ru .nil),_,tp2,rfl,rfl,ρ⟩
   ·rw[bo q] at h
    apply (I.hok e o h).stay (fun c v hc' q'=>k2 c v (by
     rcases hc' with z' | z'
     ·rw[z'];exact trk e o h
     ·exact trk c _ z') q') (fun c q'=>by rw [bo (aV q' hT)];exact q') fun c xs q'=>by rw [bo (aV q' hT)];exact q'
  apply⟨.ref s.heap.objs.size,_,J,rfl,⟨_,x,hT,rfl,rfl,λxs' h'=>by rw[ha] at h';cases h';exact hx⟩,⟨⟨u,z2⟩,m1.extBut s2.extBut hzi.symm⟩,λe he=>?_⟩;obtain⟨o4,q4,_⟩:=j1;have hlt:e<s.heap.objs.size:=by
   simp only[aw,aO,or_false] at he
   rcases he with rfl | rfl
   ·exact aS e1
   ·exact aS q4
  rw[bo (cJ hlt)];exact nz e he
 done:=by
  intro X hP hw hK hc i aI s σ H E I hf st hg;subst hP hw hK;obtain⟨xs,ha,hx⟩:=hg;obtain⟨⟨was,e1⟩,j1⟩:=st;obtain⟨its,rv,pt,_⟩:=I.list (SqL.of (K:=X.K) ha);obtain⟨f0,f1,f2,f3,f4,f5⟩:=hf i1 ∅;have hl:=rv.length;exact enumL_end (I.ok.hd hc) e1 j1 (pt.isList) (by simp;lia) λg kp=>⟨rfl,I.turned (t':=s.toks) (λb o hb e=>kp b o hb e) f0 f1 f3 f4 f5⟩
 self:=λ_ _ _ _ _ st h=>let ⟨⟨_,e1⟩,_⟩:=st;wpAny_pyIter_enum e1 h
def iEnumL (ta:TA):TI:=λσ H R=>ta σ H λvs H1=>∃a xs,vs=[.ref a]∧H1 a=some (.lst xs)∧R (ItL a) H1
theorem pi_enumL {ta:TA}{p:Pos}{k0}{pt:Pos}(hg:Gl X "enumerate")(hm:X.mg "enumerate" =none)(ha:PA X [ea] ta)(hs:autoParam (br [ea] X.env=[(false,dU ea X.env)]) L2.au0._auto_1) :
  PI X (.Tuple es k0 pt) (.Call (.Name "enumerate" p) [ea] [] pos) (iEnumL ta):=by
 intro aI s σ H R I h;apply Call_ (nJ I hg hm boot_enumerate (dH (thn (ha pos aI s σ H _ I h) λus s1 hz0=>?_) hs rfl));obtain⟨vs,H1,I1,r1,q1⟩:=hz0;obtain⟨a,xs,e,hA,q⟩:=q1;subst e;obtain⟨u1,rfl,r2⟩:=mO r1;cases(show u1=af.ref a from r2);obtain⟨its,rv,pt',_⟩:=I1.list (SqL.of (K:=X.K) hA);apply call_enumL (pt'.isList) λg z1 j1 sz kk=>?_
 apply wpAny_pyIter_enum z1 ⟨s1.heap.objs.size+1,[s1.heap.objs.size+1,s1.heap.objs.size],_,ItL a,H1,rfl,I1.kept (t':=s1.toks) kk,turn_enumL a (by show @Ne Nat _ _;lia),⟨⟨_,z1⟩,j1⟩,λe he=>?_,q⟩;have hge:s1.heap.objs.size≤e:=by
  simp only[aw,aO,or_false] at he
  rcases he with rfl | rfl <;> (show @LE.le Nat _ _ _;lia)
 exact I1.fpOk hge (I1.hok.fresh hge)
theorem for_enumL {D:Ends}(Pv:Nat→St→Hp→Prop)(h0:Pv 0 σ H)(hl:∀i σ H,i≤xs.length→Pv i σ H→H a=some (.lst xs))
  (hs:∀i x p σ H,xs[i]? =some x→Pv i σ H→H p=none→g (.ref p) σ (upd H p (.tup [.int (i:Nat),x])) λσ2 H2=>tb { D with nx:=Pv (i+1),ct:=Pv (i+1),bk:=D.nx } σ2 H2) (hd:∀σ H,Pv xs.length σ H→D.nx σ H) :
  ∃W:Nat→Nat→St→Hp→Prop,(∃m,W 0 m σ H)∧∀i m σ H,W i m σ H →
   ((ItL a).stop i H∧D.nx σ H)∨((ItL a).go i H∧∃N:St→Hp→Prop,(∀σ' H',N σ' H'→∃m',m'<m∧W (i+1) m' σ' H')∧∀x H',(ItL a).yld i H x H'→g x σ H' λσ2 H2=>tb { D with nx:=N,ct:=N,bk:=D.nx } σ2 H2):=by
 apply⟨λi m σ H=>i≤xs.length∧m=xs.length - i∧Pv i σ H,⟨_,dG _,rfl,h0⟩,λi m σ H hz0=>?_⟩;obtain⟨hi,hm,hp⟩:=hz0;have qa:=hl i σ H hi hp
 by_cases e:i=xs.length
 ·subst e
  exact .inl ⟨⟨xs,qa,aD _⟩,hd σ H hp⟩
 ·have hlt:i<xs.length:=gj hi e
  apply .inr ⟨⟨xs,_,qa,gE hlt⟩,Pv (i+1),λσ' H' hp'=>⟨xs.length - (i+1),⋯,⋯,rfl,hp'⟩,λv H3 hy=>?_⟩;obtain⟨p,x,hn,rfl,rfl,hx⟩:=hy;exact hs i x p σ H (hx xs qa) hp hn
end L2
namespace HN
open PySem L2 PyProof.Rows HT2
abbrev sTakeS:cW:=clsOf cPla 6
def Ln.stay (x:Ln)(z:Str)(v:Int×Int×Int):Ln:={ x with st:=x.st++[(z,v)] }
def ko (n z:Str)(v:Int×Int×Int)(x:Ln):Ln:=if x.n=n then x.stay z v else x
def stayX (n z:Str)(v:Int×Int×Int)(x:LX):LX:=(ko n z v x.1,x.2)
theorem stayAt_n (n z:Str)(v:Int×Int×Int)(x:Ln):(ko n z v x).n=x.n:=by unfold ko;split <;> rfl
theorem stayAt_rs (n z:Str)(v:Int×Int×Int)(x:Ln):(ko n z v x).rs=x.rs:=by unfold ko;split <;> rfl
theorem sty_snoc {st:List (Str×Int×Int×Int)}{v:Int×Int×Int}(h:z ∉ st.map (·.1))(y:Str):sty (st++[(z,v)]) y=if y=z then v else sty st y:=by
 unfold sty;rw[List.find?_append]
 by_cases e:y=z
 ·subst e
  rw[qJ rfl];have:st.find? (λp=>decide (p.1=y))=none:=by
   rw[List.find?_eq_none];intro p hp;have:p.1≠y:=λz=>h (aJ.mpr ⟨p,hp,z⟩)
   simp[this]
  rw[this];simp
 ·rw[qI e]
  have:[(z,v)].find? (λp=>decide (p.1=y))=none:=by simp[cY e]
  rw[this];simp
theorem linK_stay (n z:Str)(v:Int×Int×Int)(zs:List LX):kP (zs.map (stayX n z v))=kP zs:=by
 unfold kP;rw[b9];apply dn λx _=>?_
 show(Sum.inr (ko n z v x.1).n,V.ref x.2.1)=_;rw[stayAt_n]
theorem hapN_stay (n z:Str)(v:Int×Int×Int)(zs:List LX):oa (zs.map (stayX n z v))=oa zs:=by
 unfold oa;rw[b9];congr 1;apply dn λx _=>?_
 show 2 * (((ko n z v x.1).rs.length:Nat):Int)=_;rw[stayAt_rs]
inductive spTakeS (CP CL:ao)(vs:List V)(H:Hp)(Q:VK)(_:XK):Prop
 | mk (H0:Hp)(p q DL LB:ao)(b:Int)(zs:List LX)(bt:List Sn)(x:LX)(z:Str)(l o w:Int)(i:Nat)(_:vs=[.ref p,.ref q])(_:PlI CP CL H0 H p b zs bt DL LB)(_:Few zs bt)(_:H q=some (.tup [.str "stay",.str x.1.n,.str z,.int l,.int o,.int w]))(_:x∈zs)(_:z ∉ x.1.st.map (·.1))(_:x.1.st.length≤1000)(_:x.1.ss[i]? =some z)(_:1≤i)(_:i+1<x.1.ss.length)(_:∀H',PlI CP CL H0 H' p b (zs.map (stayX x.1.n z (l,o,w))) bt DL LB→Q (.bl (snB b (oa zs) ⟨x.1.fi+2 * i - 1,x.1.fi+2 * i,l,o,w⟩)) H')
theorem scTakeS:cI ["self","row","line","stop"] pzb (defScope sTakeS):=by trivial
theorem ok_takeS {fh fs fc fg fr:ao}{ds:aU}(F:Fun K "take_stay" "Plan.take_stay" sTakeS f fd)(PK:PlaK P w K mg base CP CL fh fs dh ds)(LK:LinK P w K mg base CL fc fg fr dc dg dr)(GS:Fn K mg "is_span" sSpan pzk f1 d1)(FS:‹0› 4 f1 d1 pzk spSpan):‹0› 5 f fd pzb (spTakeS CP CL):=by
 specialize F.ok scTakeS;obtain⟨H0,p,q,DL,LB,b,zs,bt,x,z,l,o,w,i,rfl,I,fw,hq,hx,hz,lst,e1,e2,e3,k⟩:=h;have u1:=lM (lg (show 1≤64 by decide) _) hr.units;have CC:=PK.cc;have LC:=LK.cc;have big:(100000:Nat)≤aA:=by decide
 apply ⟨_,PSl.h (bz ⟨(psZ 2 scTakeS.nd (pe_dget1 u1 (fO (pv 0) rfl) (ixZ (pv 1)) ⟨rfl,rfl,rfl,rfl⟩))⟩ (bz ⟨(psZ 3 scTakeS.nd (ixZ (pv 1)))⟩
  (bz ⟨(gC (PW.pt (mx (cf op_isN (pv 2) jf (cN _)) (kX (pt_cmp (pc_din u1 (pv 3) (fO (pv 2) rfl)) rfl)))) (bH (cA pE)) cZ)⟩
  (bz ⟨(ps_dput u1 (fO (pv 2) rfl) (pv 3) (fq mR (pv 1) (fZ aP) hZ) rfl)⟩
  (gy ⟨(cA (pc1 GS FS hr (ah (fO (pv 0) rfl) (ah (jn (pv 0) CC.cl PK.m1 PK.f1 (hr.mono ↥0) PK.b1 .nil jh) (ah (c7 op_catA (jq (ah (ig (pv 2) LC.cl LK.m1 LK.f1 (hr.mono ↥0) LK.b1 .nil jh (ah (pv 3) ay)) (ah (ig (pv 2) LC.cl LK.m2 LK.f2 (hr.mono ↥0) LK.b2 .nil jh (ah (pv 3) ay)) ay))) (fq mR (pv 1) (fZ aP) hZ)) ay)))))⟩))))),?_⟩
 obtain⟨dp,hp⟩:=I.pl;have dl:=I.dl;have cut3:pW [V.str "stay",.str x.1.n,.str z,.int l,.int o,.int w] (some 3) none=[.int l,.int o,.int w]:=rfl;apply⟨ρ,p,CP,dp,_,ρ,hp,CC.cl,CC.n2,rfl,DL,rfl,.inl ⟨_,.inl dl⟩,ρ,q,τ,SqT.of hq,bp (j:=1) rfl,_,.inl ⟨_,.inr x.1.n,.inl dl,rfl,rfl⟩,?_⟩;rw[oU I.nn hx];apply⟨ρ,q,τ,SqT.of hq,bp (j:=2) rfl,?_⟩;have A:=I.ln x hx;obtain⟨dx,a,bb,hX,ha,hb⟩:=id A.d;obtain⟨kvs,hD,lk,hst⟩:=id A.s.ex;have hno:mY kvs (.inr z)=none:=by
  cases e:mY kvs (.inr z) with
  | none=>rfl
  | some v=>exact qK ((hst z).2.2 (by rw[e];rfl)) hz
 apply⟨ρ,rfl,ρ,lq (qM nofun) ?_⟩;apply⟨ρ,ρ,x.2.1,CL,dx,_,ρ,hX,LC.cl,LC.n4,rfl,x.2.2,ρ,.inl ⟨kvs,.inr z,.inl hD,rfl,rfl⟩,ρ,lq (by rw[hno];rfl) ?_⟩;apply⟨ρ,ρ,q,ρ,SqT.of hq,(by intro y;exact qK y.1 (show ¬(3:Nat)=0 by decide)),λt1 H1 S1 h1=>?_⟩;rw[cut3] at h1;have I1:=I.same S1;apply⟨ρ,x.2.1,CL,dx,_,ρ,S1 _ _ hX,LC.cl,LC.n4,rfl,ρ,x.2.2,ρ,.inl ⟨kvs,.inr z,S1 _ _ hD,rfl,⋯,rfl⟩,?_⟩;rw[putK_new hno];have k2:∀c u,c≠x.2.2→H1 c=some u→(upd H1 x.2.2 (.dK (kvs++[(.inr z,.ref t1)]))) c=some u:=λc u hc e=>by rw[bo hc];exact e
 have h2:(upd H1 x.2.2 (.dK (kvs++[(.inr z,.ref t1)]))) x.2.2=some (.dK (kvs++[(.inr z,.ref t1)])):=aR;generalize upd H1 x.2.2 (.dK (kvs++[(.inr z,.ref t1)]))=H2 at k2 h2 ⊢;have hD1:=S1 _ _ hD;have kT:∀c xs,H1 c=some (.tup xs)→H2 c=some (.tup xs):=λc xs e=>k2 _ _ (eF e hD1 nofun) e
 have kI:∀c C dx fs,H1 c=some (.ins C dx fs)→H2 c=some (.ins C dx fs):=λc C dx fs e=>k2 _ _ (eF e hD1 nofun) e
 have nDL:DL≠x.2.2:=λe=>(bN.mp I.nd).1 (by rw[e];exact aJ.mpr ⟨x,hx,rfl⟩)
 have S2:StA H2 x.2.2 (x.1.st++[(z,l,o,w)]):=by
  apply⟨_,h2,by rw[aq,aq,lk];rfl,λy=>?_⟩;have ev:mY (kvs++[(.inr z,.ref t1)]) (.inr y)=(mY kvs (.inr y)).or (if y=z then some (.ref t1) else none):=by
   unfold mY;rw[List.find?_append]
   by_cases e:y=z
   ·subst e
    rw[qJ rfl];have:[((Sum.inr y:Key),V.ref t1)].find? (λkv=>decide (kv.1=Sum.inr y))=some (.inr y,.ref t1):=by simp
    rw[this];cases(kvs.find? λkv=>decide (kv.1=Sum.inr y)) <;> rfl
   ·rw[qI e]
    have:[((Sum.inr z:Key),V.ref t1)].find? (λkv=>decide (kv.1=Sum.inr y))=none:=by simp[cY e]
    rw[this];cases(kvs.find? λkv=>decide (kv.1=Sum.inr y)) <;> rfl
  rw[ev,sty_snoc hz]
  by_cases e:y=z
  ·subst e
   rw[hno,qJ rfl,qJ rfl];apply⟨λv hv=>⟨t1,(by cases hv;rfl),kT _ _ h1⟩,(λh=>by cases h),(λ_=>by simp)⟩
  ·rw[qI e,qI e,Option.or_none]
   obtain⟨g1,g2,g3⟩:=hst y;apply⟨λv hv=>?_,λh=>⟨(g2 h).1,λm=>?_⟩,λh=>?_⟩
   ·obtain⟨a,q1,q2⟩:=g1 v hv
    exact⟨a,q1,kT _ _ (S1 _ _ q2)⟩
   ·rw[ax] at m
    rcases aL.mp m with m | m
    ·exact(g2 h).2 m
    ·exact e (aB.mp m)
   ·rw[ax]
    exact cE _ (g3 h)
 have nm:∀y∈zs,y.1.n=x.1.n→y=x:=λy hy e=>by
  obtain⟨i1,h1⟩:=cb hy;obtain⟨i2,h2⟩:=cb hx;have l1:=(ai.mp h1);have l2:=(ai.mp h2);obtain⟨a1,b1⟩:=l1;obtain⟨a2,b2⟩:=l2;have:i1=i2:=by
   have nn:=fY.mp I.nn
   rcases ic i1 i2 with q | q | q
   ·exact qK (by rw[fj,fj,b1,b2];exact e) (nn i1 i2 (by rw[ae];exact a1) (by rw[ae];exact a2) q)
   ·exact q
   ·exact qK (by rw[fj,fj,b1,b2];exact e.symm) (nn i2 i1 (by rw[ae];exact a2) (by rw[ae];exact a1) q)
  subst this;rw[←b1,←b2]
 have I2:PlI CP CL H0 H2 p b (zs.map (stayX x.1.n z (l,o,w))) bt DL LB:=by
  obtain⟨ys,hB,dB⟩:=I1.lb;obtain⟨dp1,hp1⟩:=I1.pl;have nD0:=I.nD x hx;apply⟨λc u e=>k2 _ _ (aV e nD0) (I1.S _ _ e),⟨dp1,kI _ _ _ _ hp1⟩,I.nL,I.nB,λy hy=>?_,?_,λy hy=>?_,?_,?_,ys,k2 _ _ (eF hB hD1 nofun) hB,?_⟩
  ·obtain⟨y',hy',rfl⟩:=aJ.mp hy
   exact I.nD y' hy'
  ·rw[linK_stay];exact k2 _ _ nDL I1.dl
  ·obtain⟨y',hy',rfl⟩:=aJ.mp hy
   have A':=I1.ln y' hy';show LnA H2 CL y'.2.1 y'.2.2 (ko x.1.n z (l,o,w) y'.1);unfold ko;split
   ·rename_i e
    obtain rfl:=nm y' hy' e;obtain⟨dx',a',b',g1,g2,g3⟩:=A'.d;exact⟨⟨dx',a',b',kI _ _ _ _ g1,kT _ _ g2,kT _ _ g3⟩,S2,A'.nd,A'.two,A'.few,A'.rl⟩
   ·rename_i e
    obtain⟨kv',d1,_⟩:=A'.s.ex;have ny:y'.2.2≠x.2.2:=λz=>by
     have nn:=(bN.mp I.nd).2;obtain⟨i1,h1⟩:=cb hy';obtain⟨i2,h2⟩:=cb hx;obtain⟨a1,b1⟩:=(ai.mp h1);obtain⟨a2,b2⟩:=(ai.mp h2);have nn:=fY.mp nn
     rcases ic i1 i2 with q | q | q
     ·exact qK (by rw[fj,fj,b1,b2];exact z) (nn i1 i2 (by rw[ae];exact a1) (by rw[ae];exact a2) q)
     ·subst q
      exact e (by rw[←b1,←b2])
     ·exact qK (by rw[fj,fj,b1,b2];exact z.symm) (nn i2 i1 (by rw[ae];exact a2) (by rw[ae];exact a1) q)
    exact A'.kept kT kI ((k2 _ _ ny d1).trans d1.symm)
  ·rw[b9]
   exact I.nd
  ·rw[b9]
   have:(λy:LX=>(stayX x.1.n z (l,o,w) y).1.n)=λy:LX=>y.1.n:=funext λy=>stayAt_n _ _ _ _
   rw[show((λy:LX=>y.1.n) ∘ stayX x.1.n z (l,o,w))=λy:LX=>y.1.n from this];exact I.nn
  ·have fin:∀{vs:List V} {sp:List Sn},jc H1 vs (sp.map snD)→jc H2 vs (sp.map snD):=by
    intro vs sp
    induction sp generalizing vs with
    | nil=>intro h;cases h;exact .nil
    | cons x sp ih =>
     intro h;cases h with
     | cons h r =>
      obtain⟨a,us,rfl,ha,rz⟩:=h.tup_of;have ez:=jc.ints_of rz;subst ez;exact .cons (.tup (kT _ _ ha) (jc.ints _)) (ih r)
   exact fin dB
 obtain⟨dp2,hp2⟩:=I2.pl;have fw2:Few (zs.map (stayX x.1.n z (l,o,w))) bt:=⟨by rw[ae];exact fw.a,fw.b⟩;apply⟨ρ,p,CP,dp2,_,ρ,hp2,CC.cl,CC.n1,rfl,ρ,p,dp2,ρ,hp2,rfl,H0,p,DL,LB,b,_,bt,rfl,I2,fw2,λH3 S3=>?_⟩;rw[hapN_stay];have L3:LinD H3 CL x.2.1 x.1.n x.1.ss x.1.rs x.2.2 x.1.fi:=⟨dx,a,bb,S3 _ _ (kI _ _ _ _ (S1 _ _ hX)),S3 _ _ (kT _ _ (S1 _ _ ha)),S3 _ _ (kT _ _ (S1 _ _ hb))⟩;obtain⟨dx3,a3,b3,g3,gA,gB⟩:=id L3;apply⟨ρ,x.2.1,dx3,ρ,g3,rfl,ρ,x.2.1,x.2.2,x.1.n,z,x.1.ss,x.1.rs,x.1.fi,rfl,L3,A.few,A.two,A.nd,λH4 S4=>⟨λi' c1 c2=>?_,λno=>qK (no i e1) ⋯⟩⟩;obtain rfl:=(j6 A.nd e1 c1).symm;have L4:LinD H4 CL x.2.1 x.1.n x.1.ss x.1.rs x.2.2 x.1.fi:=⟨dx3,a3,b3,S4 _ _ g3,S4 _ _ gA,S4 _ _ gB⟩;apply⟨ρ,x.2.1,dx3,ρ,S4 _ _ g3,rfl,ρ,x.2.1,x.2.2,x.1.n,z,x.1.ss,x.1.rs,x.1.fi,rfl,L4,A.few,A.two,A.nd,λH5 S5=>⟨λi' c1 c2=>?_,λno=>qK (no i e1) ⋯⟩⟩;obtain rfl:=(j6 A.nd e1 c1).symm;apply⟨szZ2,λt6 H6 S6 h6=>?_⟩;have S36:=S4.trans (S5.trans S6);have hq6:H6 q=some (.tup [.str "stay",.str x.1.n,.str z,.int l,.int o,.int w]):=S36 _ _ (S3 _ _ (kT _ _ (S1 _ _ hq)));apply⟨ρ,ρ,q,ρ,SqT.of hq6,(by intro y;exact qK y.1 (show ¬(3:Nat)=0 by decide)),λt7 H7 S7 h7=>?_⟩;rw[cut3] at h7;apply⟨t6,t7,ς,S7 _ _ h6,h7,(by show 2+3≤aA;decide),λt8 H8 S8 h8=>?_⟩;have h8:H8 t8=some (.tup [.int (x.1.fi+2 * i - 1),.int (x.1.fi+2 * i),.int l,.int o,.int w]):=h8;apply⟨b,oa zs,ρ,sn_g1 (x:=⟨_,_,_,_,_⟩) h8,?_⟩;rw[sn_at (x:=⟨x.1.fi+2 * i - 1,x.1.fi+2 * i,l,o,w⟩) h8];exact k H8 (I2.same (S3.trans (S36.trans (S7.trans S8))))
abbrev sPlanBy:cW:=top 40
abbrev qt:cW:=top 41
def jw (ls:List Ln):Int:=(ls.map λl=>2 * (l.rs.length:Int)).sum
def allSL (ls:List Ln)(bt:List Sn):List Sn:=ls.flatMap ownS++bt
def allLL (ls:List Ln):List (List V):=ls.flatMap λl=>labs l.n l.ss
def pd (ls:List Ln)(bt:List Sn):Bool:=decide (jw ls≤16) && decide ((allSL ls bt).length≤40)
theorem og (zs:List LX):oa zs=jw (zs.map (·.1)):=by unfold oa jw;rw[b9];rfl
theorem allSL_of (zs:List LX)(bt:List Sn):allS zs bt=allSL (zs.map (·.1)) bt:=by unfold allS allSL;rw[List.flatMap_map]
theorem allLL_of (zs:List LX):allL zs=allLL (zs.map (·.1)):=by unfold allL allLL;rw[List.flatMap_map]
theorem smallL_of (zs:List LX)(bt:List Sn):small zs bt=pd (zs.map (·.1)) bt:=by unfold small pd;rw[og,allSL_of]
inductive Tk (b:Int):List Ln→List Sn→PR→List Ln→List Sn→Prop
 | beat {ls:List Ln} {bt:List Sn} {b':Int} (h:1≤b'):Tk b ls bt (.beat b') ls bt
 | line {ls:List Ln} {bt:List Sn} {n:Str} {ss:List Str} {rs:List Int} (hn:n ∉ ls.map (·.n)) (nd:ss.Nodup) (two:2≤ss.length) (few:ss.length≤1000) (rl:ss.length=rs.length+1) (sm:pd (ls++[⟨n,ss,rs,[],jw ls⟩]) bt=true):Tk b ls bt (.line n ss rs) (ls++[⟨n,ss,rs,[],jw ls⟩]) bt
 | btw {ls:List Ln} {bt:List Sn} {k:Str} {ns:List Str} {is:List Int} {sn:Sn} (B:Btw b ls k ns is sn) (h1:k ≠ "beat") (h2:k ≠ "line") (h3:k ≠ "stay") (ok:snB b (jw ls) sn=true) (sm:pd ls (bt++[sn])=true):Tk b ls bt (.oth k ns is) ls (bt++[sn])
 | stay {ls:List Ln} {bt:List Sn} {x:Ln} {z:Str} {l o w:Int} {i:Nat} (hx:x∈ls) (hz:z ∉ x.st.map (·.1)) (few:x.st.length≤1000) (h1:x.ss[i]? =some z) (h2:1≤i) (h3:i+1<x.ss.length) (ok:snB b (jw ls) ⟨x.fi+2 * i - 1,x.fi+2 * i,l,o,w⟩=true):Tk b ls bt (.oth "stay" [x.n,z] [l,o,w]) (ls.map (ko x.n z (l,o,w))) bt
inductive Runs (b:Int):List Ln→List Sn→List PR→List Ln→List Sn→Prop
 | nil {ls:List Ln} {bt:List Sn}:Runs b ls bt [] ls bt
 | cons {ls l1 l2:List Ln} {bt b1 b2:List Sn} {r:PR} {rs:List PR} (h:Tk b ls bt r l1 b1) (t:Runs b l1 b1 rs l2 b2):Runs b ls bt (r::rs) l2 b2
inductive spTakeP (CP CL:ao)(vs:List V)(H:Hp)(Q:VK)(_:XK):Prop
 | mk (H0:Hp)(p q DL LB:ao)(b:Int)(zs:List LX)(bt bt':List Sn)(ls':List Ln)(r:PR)(_:vs=[.ref p,.ref q])(_:PlI CP CL H0 H p b zs bt DL LB)(_:zs.length≤90)(_:bt.length≤90)(_:r.at H q)(_:Tk b (zs.map (·.1)) bt r ls' bt')(_:∀zs' H',zs'.map (·.1)=ls'→zs'.length≤zs.length+1→bt'.length≤bt.length+1→PlI CP CL H0 H' p b zs' bt' DL LB→Q (.bl true) H')
inductive spPlanBy (CP CL:ao)(vs:List V)(H:Hp)(Q:VK)(_:XK):Prop
 | mk (L:ao)(xs:List V)(b:Int)(rs:List PR)(ls:List Ln)(bt:List Sn)(_:vs=[.ref L])(_:H L=some (.lst xs))(_:RsAt H xs (.beat b::rs))(_:rs.length≤80)(_:Runs b [] [] (.beat b::rs) ls bt)(_:ls≠[])(_:∀p zs DL LB H',zs.map (·.1)=ls→zs.length≤90→bt.length≤90→PlI CP CL H H' p b zs bt DL LB→Q (.ref p) H')
structure PlaT (P:aK)(w:bc)(K:aj)(mg:Str→Option af)(base:bM)(CP CL fi ft fa fl:ao)(di dt da dl:aU):Prop where
 mke:Mk K CP fi
 gl:mg "Plan" =some (.ref CP)
 f0:‹0› 1 fi di pzp (spInitP CP)
 b0:Binds K di pzp []
 mT:qH K CP "take" ft
 fT:‹0› 6 ft dt pzb (spTakeP CP CL)
 bT:Binds K dt pzb []
 mA:qH K CP "all_spans" fa
 fA:‹0› 3 fa da pza (spAllS CP CL)
 bA:Binds K da pza []
 mL:qH K CP "all_labels" fl
 fL:‹0› 2 fl dl pza (spAllL CP CL)
 bL:Binds K dl pza []
def vD:V→Dt
 | .str s=> .str s
 | _=> .non
theorem labs_strs (n:Str):∀(ss:List Str),∀t∈labs n ss,∃a b c:Str,t=[.str a,.str b,.str c]
 | [],t,h=>by cases h
 | [_],t,h=>by cases h
 | s::u::r,t,h=>by
  rcases aw.mp h with e | h
  ·exact⟨_,_,_,e⟩
  ·rcases aw.mp h with e | h
   ·exact⟨_,_,_,e⟩
   ·exact labs_strs n (u::r) t h
theorem labs_isD {H:Hp}:∀{as:List ao} {ts:List (List V)},as.map H=ts.map (λt=>some (HO.tup t))→(∀t∈ts,∃a b c:Str,t=[.str a,.str b,.str c])→jc H (as.map V.ref) (ts.map λt=> .tup (t.map vD))
 | [],[],_,_=> .nil
 | [],_::_,h,_=>by cases h
 | _::_,[],h,_=>by cases h
 | a::as,t::ts,h,q=>by
  rw[bw,bw] at h;injection h with h1 h2
  obtain⟨x,y,z,rfl⟩:=q t aW;exact .cons (.tup h1 (.cons (.str _) (.cons (.str _) (.cons (.str _) .nil)))) (labs_isD h2 λt ht=>q t (aH _ ht))
theorem scTakeP:cI pzb pzb (defScope sTakeP):=by trivial
theorem ok_takeP {f3:ao}{d3:aU}(F:Fun K "take" "Plan.take" sTakeP f fd)(CC:PlaC K CP)(m1:qH K CP "take_line" f1)(F1:‹0› 5 f1 d1 pzb (spTakeL CP CL))(b1:Binds K d1 pzb [])
  (m2:qH K CP "take_between" f2) (F2:‹0› 5 f2 d2 pzb (spTakeB CP CL)) (b2:Binds K d2 pzb []) (m3:qH K CP "take_stay" f3) (F3:‹0› 5 f3 d3 pzb (spTakeS CP CL)) (b3:Binds K d3 pzb []):‹0› 6 f fd pzb (spTakeP CP CL):=by
 specialize F.ok scTakeP;obtain ⟨H0,p,q,DL,LB,b,zs,bt,bt',ls',r,rfl,I,f1,f2,hq,tk,k⟩:=h;apply ⟨_,PSl.h (bz ⟨(gC (cf iW (ixZ (pv 1)) dC (cN _)) (bH (cA (kK op_ge (ixZ (pv 1)) aP (cN _)))) cZ)⟩
  (bz ⟨(gC (cf iW (ixZ (pv 1)) dC (cN _)) (bH (cA (ig (pv 0) CC.cl m1 F1 hr b1 .nil jh (ah (pv 1) ay)))) cZ)⟩
  (bz ⟨(gC (cf iW (ixZ (pv 1)) dC (cN _)) (bH (cA (ig (pv 0) CC.cl m3 F3 hr b3 .nil jh (ah (pv 1) ay)))) cZ)⟩
  (gy ⟨(cA (ig (pv 0) CC.cl m2 F2 hr b2 .nil jh (ah (pv 1) ay)))⟩)))),?_⟩
 obtain⟨dp,hp⟩:=I.pl;cases tk with
 | beat h =>
  have hq:H q=some (.tup [.str "beat",.int _]):=hq;apply⟨ρ,q,τ,SqT.of hq,bp (j:=0) rfl,rfl,ρ,qj (qL rfl) ?_⟩;apply⟨ρ,q,τ,SqT.of hq,bp (j:=1) rfl,ς,?_⟩;have e:=k zs H rfl ⋯ ⋯ I;show Q (.bl (decide ((1:Int)≤_))) H;rw[qL h];exact e
 | @line n ss rs hn nd two few rl sm =>
  obtain⟨a,b',h1,h2,h3⟩:=id hq;apply⟨ρ,q,τ,SqT.of h3,bp (j:=0) rfl,rfl,ρ,lq ⇑0 ?_⟩;apply⟨ρ,q,τ,SqT.of h3,bp (j:=0) rfl,rfl,ρ,qj (qL rfl) ?_⟩;rw[b9] at hn;apply⟨ρ,p,dp,ρ,hp,rfl,ρ,H0,p,q,DL,LB,b,zs,bt,n,ss,rs,rfl,I,f1,f2,hq,two,few,rl,λno=>?_,λ_ _ x D H' I'=>?_⟩
  ·rcases no with no | no
   ·exact qK no hn
   ·exact qK nd no
  ·have e:=k (zs++[(⟨n,ss,rs,[],oa zs⟩,x,D)]) H' (by rw[ax,og];rfl) (by rw[aq];exact aD _) ⋯ I'
   rw[smallL_of,ax];show Q (.bl (pd (zs.map (·.1)++[⟨n,ss,rs,[],oa zs⟩]) bt)) H';rw[og,sm];exact e
 | @btw k' ns is sn B h1 h2 h3 ok sm =>
  have hq':H q=some (.tup (.str k'::(ns.map V.str++is.map V.int))):=hq;apply⟨ρ,q,τ,SqT.of hq',bp (j:=0) rfl,rfl,ρ,lq (qM λz=>h1 (by injection z)) ?_⟩;apply⟨ρ,q,τ,SqT.of hq',bp (j:=0) rfl,rfl,ρ,lq (qM λz=>h2 (by injection z)) ?_⟩;apply⟨ρ,q,τ,SqT.of hq',bp (j:=0) rfl,rfl,ρ,lq (qM λz=>h3 (by injection z)) ?_⟩;apply⟨ρ,p,dp,ρ,hp,rfl,ρ,H0,p,q,DL,LB,b,zs,bt,k',ns,is,sn,rfl,I,f1,f2,hq,B,λH' I'=>?_⟩;have e:=k zs H' rfl ⋯ (by rw[aq];exact aD _) I';rw[smallL_of,og,ok,sm];exact e
 | @stay x z l o w i hx hz few h1 h2 h3 ok =>
  have hq:H q=some (.tup [.str "stay",.str x.n,.str z,.int l,.int o,.int w]):=hq;obtain⟨y,hy,rfl⟩:=aJ.mp hx;apply⟨ρ,q,τ,SqT.of hq,bp (j:=0) rfl,rfl,ρ,lq ⇑0 ?_⟩;apply⟨ρ,q,τ,SqT.of hq,bp (j:=0) rfl,rfl,ρ,lq ⇑0 ?_⟩;apply⟨ρ,q,τ,SqT.of hq,bp (j:=0) rfl,rfl,ρ,qj (qL rfl) ?_⟩;apply⟨ρ,p,dp,ρ,hp,rfl,ρ,H0,p,q,DL,LB,b,zs,bt,y,z,l,o,w,i,rfl,I,⟨⋯,⋯⟩,hq,hy,hz,few,h1,h2,h3,λH' I'=>?_⟩;have e:=k (zs.map (stayX y.1.n z (l,o,w))) H' (by rw[b9,b9];rfl) (by rw[ae];lia) ⋯ I';rw[og,ok];exact e
theorem oP:cI ["rows","plan","number","row"] ["rows"] (defScope sPlanBy):=by trivial
theorem ok_planBy {fi ft fl:ao}{di dt da dl:aU}(F:Fun K "plan_by" "plan_by" sPlanBy f fd)(T:Nm mg)(he:mg "enumerate" =none)(CC:PlaC K CP)(PT:PlaT P w K mg base CP CL fi ft fa fl di dt da dl):‹0› 7 f fd ["rows"] (spPlanBy CP CL):=by
 specialize F.ok oP;obtain ⟨L,xs,b,rs,ls,bt,rfl,hL,R,few,runs,hne,k⟩:=h;apply ⟨_,PSl.h (bz ⟨(psZ 1 oP.nd (pe_make PT.mke PT.f0 (hr.mono ↥0) rfl PT.gl PT.b0 .nil jh (ah (ixZ (fK bX (pv 0) aP (fun _ _=>rfl))) ay)))⟩
  (bz ⟨(je cz rfl (pi_enumL rfl he (ah (pv 0) ay)) (pg_tup rfl (jk (pgZ 2 oP.nd) (jk (pgZ 3 oP.nd) pz))) (bH (gC (me (kH (ig (pv 1) CC.cl PT.mT PT.fT hr PT.bT .nil jh (ah (pv 3) ay)))) (bH ps_never) cZ)))⟩
  (bz ⟨(gC (cf iW (b8 call_lenD rfl T.len bu (ah (fO (pv 1) rfl) ay)) aP (cN _)) (bH ps_never) cZ)⟩
  (gy ⟨(cA (pv 1))⟩)))),?_⟩
 obtain⟨a0,h0,r0⟩:=R.get 0 (.beat b) rfl;have r0:H a0=some (.tup [.str "beat",.int b]):=r0;apply⟨ρ,L,τ,SqL.of hL,bp (j:=0) h0,a0,τ,SqT.of r0,bp (j:=1) rfl,?_⟩;intro x dx hx hdx dxx;apply⟨x,dx,b,rfl,aR,λDL LB H1 k1 hDL hLB dne h1 h2 h3=>⟨rfl,?_⟩⟩;have S1:cB H H1:=λc o e=>by
  apply k1 c o (aV e hx) ?_;rw[bo (aV e hx),bo (aV e hdx)];exact e
 have nn:∀c,(upd (upd H dx (.own x)) x (.ins CP dx [])) c=none→H c=none:=λc h=>by
  cases e:H c with
  | none=>rfl
  | some o=>rw[bo (aV e hx),bo (aV e hdx),e] at h;cases h
 have I1:PlI CP CL H H1 x b [] [] DL LB:=⟨S1,⟨dx,h3⟩,nn _ hDL,nn _ hLB,(λz hz=>by cases hz),h1,(λz hz=>by cases hz),∅,∅,[],h2,.nil⟩;have lx:xs.length=rs.length+1:=R.len;apply⟨ρ,L,xs,rfl,S1 _ _ hL,?_⟩;apply for_enumL (a:=L) (xs:=xs) (λi σ H2=>∃zs b1,PlI CP CL H H2 x b zs b1 DL LB∧zs.length≤i∧b1.length≤i∧Runs b (zs.map (·.1)) b1 ((PR.beat b::rs).drop i) ls bt∧∃v2 v3,σ=[some (.ref L),some (.ref x),v2,v3])
  ⟨[],[],I1,aD _,aD _,runs,none,none,rfl⟩ (λi σ H2 _ q=>by obtain⟨zs,b1,I,_⟩:=q;exact I.S _ _ hL) (λi v p σ H2 hv q hp=>?_) (λσ H2 q=>?_)
 ·obtain⟨zs,b1,I,l1,l2,ru,v2,v3,rfl⟩:=q
  have li:i<xs.length:=(ai.mp hv).1;obtain⟨r,hr'⟩:∃r,(PR.beat b::rs)[i]? =some r:=⟨_,gE (by rw[az];lia)⟩;obtain⟨a,ha,ra⟩:=R.get i r hr';rw[hv] at ha;cases ha;have ed:(PR.beat b::rs).drop i=r::(PR.beat b::rs).drop (i+1):=by
   rw[List.drop_eq_getElem_cons (by rw[az];lia)];congr 1;have:=(ai.mp hr').2;exact this
  rw[ed] at ru;cases ru with
  | cons tk ru =>
   have S6:cB H2 (upd H2 p (.tup [.int (i:Nat),.ref a])):=cB.put (cB.refl H2) hp;have h6:(upd H2 p (.tup [.int (i:Nat),.ref a])) p=some (.tup [.int (i:Nat),.ref a]):=aR;generalize upd H2 p (.tup [.int (i:Nat),.ref a])=H6 at S6 h6 ⊢;have I6:=I.same S6;obtain⟨dp,hpp⟩:=I6.pl;apply⟨p,ρ,SqT.of h6,rfl,_,ρ,ς,?_⟩;apply⟨ρ,x,dp,ρ,hpp,rfl,ρ,H,x,a,DL,LB,b,zs,b1,_,_,r,rfl,I6,⋯,⋯,ra.kept I6.S,tk,λzs' H7 ez lz lb I7=>?_⟩;apply⟨ρ,lq rfl ?_⟩;exact⟨zs',_,I7,⋯,⋯,by rw[ez];exact ru,_,ρ⟩
 ·obtain⟨zs,b1,I,l1,l2,ru,v2,v3,rfl⟩:=q
  rw[List.drop_of_length_le (by rw[az];lia)] at ru;generalize ez:zs.map (·.1)=l0 at ru;cases ru;obtain⟨dp,hpp⟩:=I.pl;apply⟨ρ,x,CP,dp,_,ρ,hpp,CC.cl,CC.n2,rfl,DL,ρ,I.dl,rfl,ρ,lq (qM λz=>?_) ⟨_,rfl,k x zs DL LB H2 ez ⋯ ⋯ I⟩⟩;injection z with z
  unfold kP at z;rw[ae] at z;apply hne ?_;rw[←ez];cases zs with
  | nil=>rfl
  | cons _ _=>simp at z;lia
theorem scNetBy:cI ["text","plan","net"] pzd (defScope qt):=by trivial
end HN
namespace L2
open PySem PySem.Spec PyProof.Rows
theorem mt_indexT1:MtM X "str.index" (λx vs H Q=>∃(z y:Str) (i:Nat) (rest:List Nat),x= .str z∧vs=[.str y]∧cg z y 0 z.length 1=i::rest∧Q (.int (i:Nat)) H):=by
 intro aI s σ H x vs v us Q I rx rv h;obtain⟨z,y,i,rest,rfl,rfl,ho,q⟩:=h;obtain⟨t,rfl⟩:=(show ∃t,v=af.str z t from rx);obtain⟨u,rfl,ru⟩:=rv.one;obtain⟨t',rfl⟩:=(show ∃t,u=af.str y t from ru);exact call_gives F.slot_str_index (typeIs_str _ _ _) F.entry_str_index (F.args_str_index_2 _ _) (gives_str_index z y t t' i rest ho) ⟨.int (i:Nat),H,I.tok _,⟨_,rfl⟩,q⟩
def strV:V→Option Str
 | .int i=>some (toString i)
 | .str z=>some z
 | _=>none
theorem call_strA:iM X (.type "str") (λxs H Q=>∃v z,xs=[v]∧strV v=some z∧(∀i,v= .int i→i.natAbs.log2<1920)∧Q (.str z) H):=by
 intro aI s σ H xs us Q I r h;obtain⟨v,z,rfl,hv,hz,q⟩:=h;cases v with
 | int i =>
  cases hv;exact oB aI s σ H _ us Q I r ⟨i,rfl,hz i rfl,q⟩
 | str y =>
  cases hv;obtain⟨u,rfl,t,rfl⟩:=mO r;exact PySem.P.str_of_str ⟨.str _,H,I,⟨_,rfl⟩,q⟩
 | _=>cases hv
end L2
namespace HN
open PySem L2 PyProof.Rows HT2
abbrev sTxt:cW:=top 100
def wdS (v:V):Str:=(strV v).getD c9
def oR (r:List V):Str:=dF sp_ (r.map wdS)
structure mn (H:Hp)(xs:List V)(rows:List (List V)):Prop where
 len:xs.length=rows.length
 get:∀(i:Nat) (r:List V),rows[i]? =some r→∃a:ao,xs[i]? =some (V.ref a)∧H a=some (.lst r)
def WdOk (v:V):Prop:=(∃z,strV v=some z∧z.length≤100)∧∀i,v= .int i→W60 i
def qg (b:Int)(rows:List (List V)):Str:=dF nl_ ((("beat " :Str)++lT b)::rows.map oR)
theorem rowW_len {r:List V}(h:∀v∈r,WdOk v)(hl:r.length≤60):(oR r).length≤7000:=by
 unfold oR;have e:dF sp_ (r.map wdS)=cV sp_ (r.map wdS):=dW _ _;rw[e];have go:∀ys:List Str,(∀y∈ys,y.length≤100)→(cV sp_ ys).length≤ys.length * 101:=by
  intro ys
  induction ys with
  | nil=>intro _;decide +kernel
  | cons y ys ih =>
   intro hy;cases ys with
   | nil =>
    show y.length≤_;have:=hy y ∅;simp only[az,jJ];lia
   | cons z ys =>
    rw[kF,jT,jT];have h1:=hy y ∅;have h2:=ih λx hx=>hy x (aH _ hx)
    have h3:(sp_:Str).length=1:=by trivial
    rw[h3];simp only[az] at h2 ⊢;lia
 have:=go (r.map wdS) λy hy=>by
  obtain⟨v,hv,rfl⟩:=aJ.mp hy;obtain⟨⟨z,e,l⟩,_⟩:=h v hv;unfold wdS;rw[e];exact l
 rw[ae] at this;lia
inductive spTxt (vs:List V)(H:Hp)(Q:VK)(_:XK):Prop
 | mk (b:Int)(L:ao)(xs:List V)(rows:List (List V))(_:vs=[.int b,.ref L])(_:W60 b)(_:H L=some (.lst xs))(_:mn H xs rows)(_:rows.length≤70)(_:(∀r∈rows,r.length≤60∧∀v∈r,WdOk v))(_:∀H',cB H H'→Q (.str (qg b rows)) H')
theorem scTxt:cI ["_law_beat","_law_rows","_law_texts","_law_row"] pzx (defScope sTxt):=by trivial
theorem ok_txt (F:Fun K "_law_text" "_law_text" sTxt f fd)(ht:mg "str" =none):‹0› 1 f fd pzx spTxt:=by
 specialize F.ok scTxt;obtain ⟨b,L,xs,rows,rfl,hb,hL,R,few,all,k⟩:=h;apply ⟨_,PSl.h (bz ⟨(psZ 2 scTxt.nd (kY (ah (c7 jv dC (gJ oB rfl ht boot_str (ah (pv 0) ay))) ay)))⟩
  (bz ⟨(je cz rfl (jo (pv 1)) (pgZ 3 scTxt.nd) (bH (iA (jg bJ cw cv ia (pv 2) (ah (jg bU dZ dY lU dC (ah (nZ (fr:=[]) (js:=[]) rfl (jo (pv 3)) ⇑0 rfl ⇑0 rfl (by exists sTxt) ⇑0 rfl ⇑0 (fun _ _ _ _ _=>⟨(gJ call_strA rfl ht boot_str (ah (pv 0) ay)),ki⟩)) ay)) ay)))))⟩
  (gy ⟨(cA (jg bU dZ dY lU dC (ah (pv 2) ay)))⟩))),?_⟩
 have big:(1000000:Nat)≤aA:=by decide
 have lh:(("beat " :Str)++lT b).length≤65:=by
  rw[jT];have:=nr hb;have h5:("beat " :Str).length=5:=by trivial
  lia
 apply⟨ρ,b,rfl,log_60 hb,ς,?_,szZ1,λM hM=>?_⟩
 ·have:=nr hb
  have h5:("beat " :Str).length=5:=by trivial
  show("beat " :Str).length+(lT b).length≤_;lia
 have S0:cB H (upd H M (.lst [.str (("beat " :Str)++lT b)])):=cB.put (cB.refl H) hM;have hM0:(upd H M (.lst [.str (("beat " :Str)++lT b)])) M=some (.lst (((("beat " :Str)++lT b)::(rows.take 0).map oR).map V.str)):=by rw[aR];rfl
 apply⟨ρ,L,rfl,⟨_,SqL.of (S0 _ _ hL)⟩,?_⟩;have ML:L≠M:=aV hL hM;have kx:∀c o,H c=some o→(upd H M (.lst [.str (("beat " :Str)++lT b)])) c=some o:=λc o e=>S0 _ _ e
 change ∃W,_
 generalize hH0:upd H M (.lst [.str (("beat " :Str)++lT b)])=H0 at S0 hM0;have hH0':upd H M (.lst [.str (au "beat " ++ toString b)])=H0:=hH0;apply lX (K:=K) (a:=L) (xs:=xs) (λi σ H2=>(∀c o,c≠M→H0 c=some o→H2 c=some o)∧H2 M=some (.lst (((("beat " :Str)++lT b)::(rows.take i).map oR).map V.str))∧∃v3,σ=[some (.int b),some (.ref L),some (.ref M),v3])
  ⟨λc o _ h=>(by rw[←hH0] at h;exact h),(by rw[←hH0] at hM0;exact hM0),none,rfl⟩ (λi σ H2 _ q=>SqL.of (q.1 _ _ ML (S0 _ _ hL))) ?_ ?_
 ·rintro i x σ H2 hx ⟨k2,hM2,v3,rfl⟩
  have li:i<rows.length:=by rw[←R.len];exact(ai.mp hx).1
  obtain⟨r,hr'⟩:∃r,rows[i]? =some r:=⟨_,gE li⟩;obtain⟨a,ha,har⟩:=R.get i r hr';rw[hx] at ha;cases ha;obtain⟨lr,hw⟩:=all r (aC hr');have aM:a≠M:=aV har hM;have ha2:=k2 _ _ aM (S0 _ _ har);apply⟨ρ,.inl ⟨rfl,_,SqL.of hM2⟩,rfl,ρ,a,rfl,⟨_,SqL.of ha2⟩,?_⟩;apply j7 (K:=K) (a:=a) (xs:=r) (λj zs H3=>H3=H2∧zs=((r.take j).map wdS).map V.str) ⟨rfl,rfl⟩ (λj zs H3 hj q=>?_) ⋯ (λj v zs H3 hv q=>?_) (λzs H3 q D hD=>?_)
  ·obtain⟨rfl,g2⟩:=q
   exact⟨SqL.of ha2,by rw[g2,ae,ae,aZ];lia⟩
  ·obtain⟨rfl,g2⟩:=q
   obtain⟨⟨z,ez,lz⟩,hi⟩:=hw v (aC hv);apply jj ?_;apply⟨ρ,v,z,rfl,ez,λi e=>log_60 (hi i e),rfl,?_⟩;rw[g2,bW,hv,ax,ax];show _=_++[V.str (wdS v)];unfold wdS;rw[ez];rfl
  ·obtain⟨rfl,g2⟩:=q
   rw[cD] at g2;have S4:cB H3 (upd H3 D (.lst zs)):=cB.put (cB.refl _) hD;have hD4:(upd H3 D (.lst zs)) D=some (.lst ((r.map wdS).map V.str)):=by rw[aR,g2]
   generalize upd H3 D (.lst zs)=H4 at S4 hD4 ⊢;apply⟨_,D,ρ,rfl,SqL.of hD4,⇑0,?_,?_⟩
   ·have:=sum_le (λx:Str=>x.length) 100 (r.map wdS) λy hy=>by
     obtain⟨v,hv,rfl⟩:=aJ.mp hy;obtain⟨⟨z,e,l⟩,_⟩:=hw v hv;unfold wdS;rw[e];exact l
    rw[ae] at this;rw[ae];have:r.length * 100≤60 * 100:=kL _ lr;lia
   have hM4:=S4 _ _ hM2;apply⟨M,ς,hM4,(by simp only[ae,az,aZ];lia),?_⟩;apply⟨λc o hc e=>by rw[bo hc];exact S4 _ _ (k2 _ _ hc e),?_,ρ⟩;rw[aR,bW,hr',ax];show some (HO.lst (_++[V.str (oR r)]))=_;rw[←List.cons_append,ax];rfl
 ·rintro σ H2 ⟨k2,hM2,v3,rfl⟩
  rw[R.len,cD] at hM2;apply⟨rfl,ρ,_,M,ρ,rfl,SqL.of hM2,⇑0,?_,k H2 λc o e=>k2 c o (aV e hM) (S0 _ _ e)⟩;have:=sum_le (λx:Str=>x.length) 7000 ((("beat " :Str)++lT b)::rows.map oR) λy hy=>by
   rcases aw.mp hy with e | hy
   ·subst e;lia
   ·obtain⟨r,hr,rfl⟩:=aJ.mp hy
    exact rowW_len (all r hr).2 (all r hr).1
  simp only[az,ae] at this ⊢;have:(rows.length+1) * 7000≤71 * 7000:=kL _ ⋯;lia
def WOk (v:V):Prop:=(∃z,v= .str z∧nam z=true)∨∃i,v= .int i∧W60 i
theorem nam_len (h:nam z=true):1≤z.length∧z.length≤8:=by
 unfold nam at h;rw[ck,ck] at h;exact⟨qN h.1,qN h.2.1⟩
theorem nam_cps (h:nam z=true):∀c∈z.cps.toList,97≤c∧c≤122:=by
 unfold nam at h;rw[ck,ck,gg] at h;exact λc hc=>qN (h.2.2 c hc)
theorem WOk.wd (h:WOk v):WdOk v:=by
 rcases h with ⟨z,rfl,hz⟩ | ⟨i,rfl,hi⟩
 ·exact⟨⟨z,rfl,by have:=nam_len hz;lia⟩,λi e=>by cases e⟩
 ·exact⟨⟨lT i,rfl,by have:=nr hi;lia⟩,λj e=>by cases e;exact hi⟩
theorem WOk.free (h:WOk v)(hc:c<48):c ∉ (wdS v).cps.toList:=by
 rcases h with ⟨z,rfl,hz⟩ | ⟨i,rfl,hi⟩
 ·intro m
  have:=nam_cps hz c m;lia
 ·exact pG hi hc
theorem qu {r:List V}(h:∀v∈r,WOk v)(hne:r≠[]):bD (oR r) sp_=r.map wdS:=by
 unfold oR;rw[nV];apply jS (λz=>hne (List.map_eq_nil_iff.mp z)) λp hp=>?_
 obtain⟨v,hv,rfl⟩:=aJ.mp hp;exact(h v hv).free ↥0
theorem rowW_free {r:List V}(h:∀v∈r,WOk v):10 ∉ (oR r).cps.toList:=λm=>by
 unfold oR at m;rw[nV,show dF ⟨#[32]⟩ (r.map wdS)=cV ⟨#[32]⟩ (r.map wdS) from dW _ _] at m
 rcases join_mem m with e | ⟨y,hy,m2⟩
 ·cases e
 ·obtain⟨v,hv,rfl⟩:=aJ.mp hy
  exact(h v hv).free ↥0 m2
theorem beat_two (b:Int):("beat " :Str)++lT b=dF sp_ ["beat",lT b]:=by
 rw[show dF sp_ ["beat",lT b]=cV sp_ ["beat",lT b] from dW _ _,kF];show _=("beat" :Str)++sp_++lT b;rw[show("beat " :Str)=("beat" :Str)++sp_ by trivial]
theorem qG (hb:W60 b):bD (("beat " :Str)++lT b) sp_=[("beat" :Str),lT b]:=by
 rw[beat_two,nV];apply jS ∅ λp hp=>?_
 simp only[aw,aO,or_false] at hp
 rcases hp with rfl | rfl
 ·decide +kernel
 ·exact pG hb ↥0
theorem beat_free (hb:W60 b):10 ∉ (("beat " :Str)++lT b).cps.toList:=by
 rw[cps_app];intro m
 rcases aL.mp m with m | m
 ·revert m;decide +kernel
 ·exact pG hb ↥0 m
theorem mS {rows:List (List V)}(hb:W60 b)(h:∀r∈rows,∀v∈r,WOk v):bD (qg b rows) nl_=(("beat " :Str)++lT b)::rows.map oR:=by
 unfold qg;rw[nl_eq];apply jS ∅ λp hp=>?_
 rcases aw.mp hp with rfl | hp
 ·exact beat_free hb
 ·obtain⟨r,hr,rfl⟩:=aJ.mp hp
  exact rowW_free (h r hr)
theorem join_len {c:Str}(hc:c.length=1){m:Nat}:∀ys:List Str,(∀y∈ys,y.length≤m)→(cV c ys).length≤ys.length * (m+1)
 | [],_=>by show 0≤_;lia
 | [y],hy=>by
  show y.length≤_;have:=hy y ∅;simp only[az,jJ];lia
 | y::z::ys,hy=>by
  rw[kF,jT,jT,hc];have h1:=hy y ∅;have h2:=join_len hc (z::ys) λx hx=>hy x (aH _ hx)
  have e:(y::z::ys).length * (m+1)=(z::ys).length * (m+1)+(m+1):=by rw[az,Nat.succ_mul]
  lia
theorem rowW_len2 {r:List V}(h:∀v∈r,WOk v)(hl:r.length≤12):(oR r).length≤1220:=by
 unfold oR;rw[show dF sp_ (r.map wdS)=cV sp_ (r.map wdS) from dW _ _];have:=join_len (c:=sp_) ⇑0 (m:=100) (r.map wdS) λy hy=>by
  obtain⟨v,hv,rfl⟩:=aJ.mp hy;obtain⟨⟨z,e,l⟩,_⟩:=(h v hv).wd;unfold wdS;rw[e];exact l
 rw[ae] at this;lia
theorem qv {rows:List (List V)}(hb:W60 b)(h:∀r∈rows,r.length≤12∧∀v∈r,WOk v)(few:rows.length≤70):(qg b rows).length≤100000:=by
 unfold qg;rw[show dF nl_ (((("beat " :Str)++lT b))::rows.map oR)=cV nl_ (((("beat " :Str)++lT b))::rows.map oR) from dW _ _];have:=join_len (c:=nl_) ⇑0 (m:=1220) ((("beat " :Str)++lT b)::rows.map oR) λy hy=>by
  rcases aw.mp hy with rfl | hy
  ·rw[jT]
   have:=nr hb;have h5:("beat " :Str).length=5:=by trivial
   lia
  ·obtain⟨r,hr,rfl⟩:=aJ.mp hy
   exact rowW_len2 (h r hr).2 (h r hr).1
 simp only[az,ae] at this;have:(rows.length+1) * (1220+1)≤71 * (1220+1):=kL _ ⋯;lia
theorem snB_of {m:Int}{x:Sn}(s0:0≤x.s)(s1:x.s<m)(g0:0≤x.g)(g1:x.g<m)(ne:x.s≠x.g)(l0:0≤x.l)(lo:x.l≤x.o)(ob:x.o<x.l+b)(o60:x.o<10 ^ 60)(w0:0≤x.w)(w1:x.w≤1000000000000):snB b m x=true:=by
 have inn:∀i lo hi:Int,lo≤i→i≤hi→inI (.int i) lo hi=true:=λi lo hi h1 h2=>by
  show(decide (lo≤i) && decide (i≤hi))=true;rw[qL h1,qL h2];rfl
 unfold snB;have e1:nK m (.int x.s) (.int x.g)=true:=by
  unfold nK;rw[inn x.s 0 (m - 1) s0 ⋯,inn x.g 0 (m - 1) g0 ⋯,qM (λz=>ne (by injection z))];rfl
 have e2:pJ b (.int x.l) (.int x.o)=true:=by
  show(inI (.int x.l) 0 B60 && inI (.int x.o) x.l (if B60<x.l+b - 1 then B60 else x.l+b - 1))=true;rw[inn x.l 0 B60 l0 (by unfold B60;lia),inn x.o x.l _ lo (by split <;> (unfold B60 at *;lia))];rfl
 rw[e1,e2,inn x.w 0 1000000000000 w0 w1];rfl
end HN
namespace L2
open PySem PySem.Spec PyProof.Rows
def Itr2 (lo:Int)(n:Nat):It:=⟨λi _=>i<n,λi H x H'=>H'=H∧x= .int (lo+i * 2),λi _=>n≤i⟩
theorem turn_range2 (it:ao)(lo:Int)(n:Nat):Turn P w K tg (Itr2 lo n) [it] it (λi h=>IsRangeIter h it (lo+(i:Nat) * 2) ((n:Int) - (i:Nat)) 2) where
 mem:=by simp
 obj:=λi h st b hb=>by
  have e:b=it:=by simpa using hb
  subst e;exact ⟨_,st,fun v z=>by
   have z':Data.fields _=Data.cell v:=z;cases z'⟩
 keep:=λi h h' st k=>k it ∅ _ st
 item:=by
  intro X hP hw hK hc i aI s σ H E I hf st hg;subst hP hw hK;obtain⟨f0,f1,f2,f3,f4,f5⟩:=hf it ∅;have W:=Walks.range (prog:=X.prog) (w:=X.w) (I.ok.hd hc) it lo 2 n;apply W.item i s _ _ hg st λv h' tk hv st' kk=>?_
  obtain⟨t,rfl⟩:=hv;have I1:Inv X aI σ H { s with heap:=h',toks:=tk }:=I.turned (λb o hb e=>kk b o (by simpa using hb) e) f0 f1 f3 f4 f5;exact⟨ρ,go_of (s:={ s with heap:=h',toks:=tk }) (n := "range_iterator") st' rfl rfl ↥0 ⟨.int (lo+i * 2),H,I1,⟨t,rfl⟩,⟨rfl,rfl⟩,st',λb hb=>(hf b hb).1⟩⟩
 done:=by
  intro X hP hw hK hc i aI s σ H E I hf st hg;subst hP hw hK;obtain⟨f0,f1,f2,f3,f4,f5⟩:=hf it ∅;exact wpAny_pyNext_range_end (I.ok.hd hc) st (by have:n≤i:=hg;lia) λh' eb=>⟨rfl,I.turned (t':=s.toks) (λb o hb e=>eb b o hb e) f0 f1 f3 f4 f5⟩
 self:=λ_ _ _ _ _ st h=>wpAny_pyIter_rangeiter st h
theorem nh (a b:Int):jd a b 2=((((b - a+1) / 2).toNat:Nat):Int):=by
 unfold jd;simp only[show(2:Int) > 0 by decide,if_true];split <;> lia
theorem small_two {a:Int}(ha: -(2 ^ 40)≤a)(ha':a<2 ^ 40)(hb: -(2 ^ 40)≤b)(hb':b<2 ^ 40):ee.Range.small a b 2=true:=by
 unfold ee.Range.small;rw[nh];simp only[ee.Range.rangeFitsLong,ck,Bool.or_eq_true,decide_eq_true_eq,beq_iff_eq,show(2:Int) > 0 by decide,if_true];lia
theorem range_it2 {R:It→Hp→Prop}{hi:Int}{t u v:Tok}{tk:Nat}(I:Inv X aI σ H s)(h1: -(2 ^ 40)≤lo)(h2:lo<2 ^ 40)(h3: -(2 ^ 40)≤hi)(h4:hi<2 ^ 40)
  (q:R (Itr2 lo ((hi - lo+1) / 2).toNat) H):aT (bB X.prog X.w) X.A (pyIter (.ref s.heap.objs.size)) (PIE X aI σ tg R) E { s with heap:=s.heap.push { cls:= .type "range",data:= .fields #[.int lo t,.int hi u,.int 2 v] },toks:=tk }:=by
 apply wpAny_pyIter_range (IsRange.new ..) (small_two h1 h2 h3 h4) ?_;have I1:Inv X aI σ H { s with heap:=s.heap.push { cls:= .type "range",data:= .fields #[.int lo t,.int hi u,.int 2 v] },toks:=tk }:=I.kept λb o e=>av _ e
 apply ⟨(s.heap.push { cls:= .type "range",data:= .fields #[.int lo t,.int hi u,.int 2 v] }).objs.size,[(s.heap.push { cls:= .type "range",data:= .fields #[.int lo t,.int hi u,.int 2 v] }).objs.size],_,_,H,rfl,
  I1.kept (t':=tk) fun b o e=>av _ e,turn_range2 _ lo ((hi - lo+1) / 2).toNat,?_,fun b hb=>?_,q⟩
 ·have e1:lo+((0:Nat):Int) * 2=lo:=by simp
  have e2:((((hi - lo+1) / 2).toNat:Nat):Int) - ((0:Nat):Int)=jd lo hi 2:=by rw[nh];simp
  show IsRangeIter _ _ (lo+((0:Nat):Int) * 2) (((((hi - lo+1) / 2).toNat:Nat):Int) - ((0:Nat):Int)) 2;rw[e1,e2];exact aQ _ rfl
 ·have e:b=(s.heap.push { cls:= .type "range",data:= .fields #[.int lo t,.int hi u,.int 2 v] }).objs.size:=by simpa using hb
  subst e;exact I1.fpOk (aD _) (I1.hok.fresh (aD _))
def iRng3 (ta:TA):TI:=λσ H R=>ta σ H λvs H1=>∃i j:Int,vs=[.int i,.int j,.int 2]∧(-(2 ^ 40)≤i∧i<2 ^ 40∧ -(2 ^ 40)≤j∧j<2 ^ 40)∧R (Itr2 i ((j - i+1) / 2).toNat) H1
theorem pw {a b c:Expr}{ta:TA}{p:Pos}(hg:Gl X "range")(hm:X.mg "range" =none)(ha:PA X [a,b,c] ta)(hs:autoParam (br [a,b,c] X.env=[(false,dU a X.env),(false,dU b X.env),(false,dU c X.env)]) L2.au0._auto_1)(hs2:autoParam (br [b,c] X.env=[(false,dU b X.env),(false,dU c X.env)]) L2.au0._auto_1) :
  PI X tg (.Call (.Name "range" p) [a,b,c] [] pos) (iRng3 ta):=by
 intro aI s σ H R I h;apply Call_ (nJ I hg hm boot_range (dH (thn (ha pos aI s σ H _ I h) λus s1 hz0=>?_) (by rw[hs,hs2]) (by rw[hs2];rfl)));obtain⟨vs,H1,I1,r1,q1⟩:=hz0;obtain⟨i,j,e,⟨q1,q2,q3,q4⟩,q⟩:=q1;subst e;cases r1 with
 | cons r rr =>
  cases rr with
  | cons r' rr =>
   cases rr with
   | cons r'' rr =>
    cases rr;obtain⟨t,rfl⟩:=r;obtain⟨t',rfl⟩:=r';obtain⟨t'',rfl⟩:=r'';exact call_range_3 ↥0 (range_it2 I1 q1 q2 q3 q4 q) (Or.inl (PyProof.noPylong_small ⋯))
theorem oh {D:Ends}(Pv:Nat→St→Hp→Prop)(h0:Pv 0 σ H)
  (hs:∀i σ H,i<n→Pv i σ H→g (.int (lo+i * 2)) σ H λσ2 H2=>tb { D with nx:=Pv (i+1),ct:=Pv (i+1),bk:=D.nx } σ2 H2) (hd:∀σ H,Pv n σ H→D.nx σ H) :
  ∃W:Nat→Nat→St→Hp→Prop,(∃m,W 0 m σ H)∧∀i m σ H,W i m σ H →
   ((Itr2 lo n).stop i H∧D.nx σ H)∨((Itr2 lo n).go i H∧∃N:St→Hp→Prop,(∀σ' H',N σ' H'→∃m',m'<m∧W (i+1) m' σ' H')∧∀x H',(Itr2 lo n).yld i H x H'→g x σ H' λσ2 H2=>tb { D with nx:=N,ct:=N,bk:=D.nx } σ2 H2):=by
 apply⟨λi m σ H=>m=n - i∧i≤n∧Pv i σ H,⟨n,∅,dG _,h0⟩,?_⟩;rintro i m σ H ⟨rfl,hi,p⟩
 by_cases hlt:i<n
 ·apply .inr ⟨hlt,Pv (i+1),λσ' H' p'=>⟨n - (i+1),⋯,rfl,hlt,p'⟩,λx H' y=>?_⟩
  obtain⟨e,y⟩:=y;subst e y;exact hs i σ _ hlt p
 ·have e:i=n:=by lia
  subst e;exact .inl ⟨aD _,hd σ H p⟩
end L2
namespace HN
open PySem L2 PyProof.Rows HT2
def jL:List Str→List Int→List V
 | s::ss,r::rs=> .str s:: .int r::jL ss rs
 | s::_,[]=>[.str s]
 | [],_=>[]
def PR.rowV:PR→List V
 | .beat b=>[.str "beat",.int b]
 | .line n ss rs=> .str "line" :: .str n::jL ss rs
 | .oth k ns is=> .str k::(ns.map V.str++is.map V.int)
theorem ku:∀{ss:List Str} {rs:List Int},ss.length=rs.length+1→(jL ss rs).length=2 * ss.length - 1
 | [],_,h=>by simp at h
 | [_],[],_=>rfl
 | _::_::_,[],h=>by simp at h
 | s::ss,r::rs,h=>by
  have hl:ss.length=rs.length+1:=by simpa using h
  show(jL ss rs).length+1+1=_;rw[ku hl,az];lia
theorem qE:∀{ss:List Str} {rs:List Int} (i:Nat),ss.length=rs.length+1→(jL ss rs)[2 * i]? =(ss[i]?).map V.str
 | [],_,_,h=>by simp at h
 | [_],[],0,_=>rfl
 | [_],[],i+1,_=>rfl
 | _::_::_,[],_,h=>by simp at h
 | s::ss,r::rs,0,_=>rfl
 | s::ss,r::rs,i+1,h=>by
  have hl:ss.length=rs.length+1:=by simpa using h
  show(V.str s:: .int r::jL ss rs)[2 * i+1+1]? =_;rw[bq,bq,qE i hl,bq]
theorem snocI {P:List α→Prop}(h0:P [])(h1:∀l a,P l→P (l++[a]))(l:List α):P l:=by
 have go:∀m:List α,P m.reverse:=by
  intro m
  induction m with
  | nil=>exact h0
  | cons a m ih=>rw[List.reverse_cons];exact h1 _ _ ih
 have:=go l.reverse
 rwa [List.reverse_reverse] at this
def Ln.core (x:Ln):Ln:={ x with st:=[] }
def stepL (ls:List Ln):PR→List Ln
 | .line n ss rs=>ls++[⟨n,ss,rs,[],jw ls⟩]
 | .oth k [n,z] [l,o,w]=>if k = "stay" then ls.map (ko n z (l,o,w)) else ls
 | _=>ls
def oz (rs:List PR):List Ln:=rs.foldl stepL []
def oZ (ls:List Ln):PR→List Ln
 | .line n ss rs=>ls++[⟨n,ss,rs,[],jw ls⟩]
 | _=>ls
def lsC (rs:List PR):List Ln:=rs.foldl oZ []
def PR.isL:PR→Bool
 | .line _ _ _=>true
 | _=>false
theorem nH (rs:List PR)(r:PR):oz (rs++[r])=stepL (oz rs) r:=by unfold oz;rw[List.foldl_append];rfl
theorem iD (rs:List PR)(r:PR):lsC (rs++[r])=oZ (lsC rs) r:=by unfold lsC;rw[List.foldl_append];rfl
theorem stepC_no (h:r.isL=false):oZ ls r=ls:=by
 cases r with
 | line=>cases h
 | _=>rfl
theorem lsC_ins {a c:List PR}(h:r.isL=false):lsC (a++r::c)=lsC (a++c):=by
 unfold lsC;rw[List.foldl_append,List.foldl_append,List.foldl_cons,stepC_no h]
theorem pO (ls:List Ln):jw (ls.map Ln.core)=jw ls:=by unfold jw;rw[b9];rfl
theorem stay_core (n z:Str)(v:Int×Int×Int)(x:Ln):(ko n z v x).core=x.core:=by unfold ko;split <;> rfl
theorem stepL_c {C:List Ln→Prop}(ls:List Ln)(r:PR)(h1:∀n ss rs,r= .line n ss rs→C (ls++[⟨n,ss,rs,[],jw ls⟩]))(h2:∀n z l o w,r= .oth "stay" [n,z] [l,o,w]→C (ls.map (ko n z (l,o,w))))(h3:(∀n ss rs,r≠ .line n ss rs)→C ls):C (stepL ls r):=by
 cases r with
 | beat b=>exact h3 (by intros;intro e;cases e)
 | line n ss rs=>exact h1 n ss rs rfl
 | oth k ns is =>
  have h4:C ls:=h3 (by intros;intro e;cases e);clear h3 h1
  rcases ns with _ | ⟨n,_ | ⟨z,_ | ⟨y,ns⟩⟩⟩
  ·exact h4
  ·exact h4
  ·rcases is with _ | ⟨l,_ | ⟨o,_ | ⟨w,_ | ⟨u,is⟩⟩⟩⟩
   ·exact h4
   ·exact h4
   ·exact h4
   ·show C (if k = "stay" then _ else _)
    by_cases hk:k = "stay"
    ·rw[qJ hk];subst hk;exact h2 n z l o w rfl
    ·rw[qI hk];exact h4
   ·exact h4
  ·exact h4
theorem stepL_no (ls:List Ln){k:Str}(hk:k ≠ "stay")(ns:List Str)(is:List Int):stepL ls (.oth k ns is)=ls :=
 stepL_c (C:=λx=>x=ls) ls _ (λ_ _ _ e=>by cases e) (λ_ _ _ _ _ e=>by cases e;exact qK rfl hk) λ_=>rfl
theorem step_core (ls:List Ln)(r:PR):(stepL ls r).map Ln.core=oZ (ls.map Ln.core) r:=by
 apply stepL_c (C:=λx=>x.map Ln.core=oZ (ls.map Ln.core) r) ls r (λn ss rs e=>?_) (λn z l o w e=>?_) (λh=>?_)
 ·subst e
  rw[ax];show _=ls.map Ln.core++[_];rw[pO];rfl
 ·subst e
  rw[b9];exact dn λx _=>stay_core _ _ _ x
 ·cases r with
  | line n ss rs=>exact qK rfl (h n ss rs)
  | _=>rfl
theorem jD (rs:List PR):(oz rs).map Ln.core=lsC rs:=by
 have go:∀(rs:List PR) (ls:List Ln),(rs.foldl stepL ls).map Ln.core=rs.foldl oZ (ls.map Ln.core):=by
  intro rs
  induction rs with
  | nil=>intro ls;rfl
  | cons r rs ih =>
   intro ls;rw[List.foldl_cons,List.foldl_cons,ih,step_core]
 exact go rs []
def PR.lnOk:PR→Prop
 | .line n ss rs=>nam n=true∧(∀s∈ss,nam s=true)∧ss.Nodup∧2≤ss.length∧ss.length≤5∧ss.length=rs.length+1∧∀r∈rs,0≤r∧r<10 ^ 60
 | _=>False
def PR.sty2:PR→Option (Str×Str)
 | .oth k [n,z] _=>if k = "stay" then some (n,z) else none
 | _=>none
def stz (rs:List PR):List (Str×Str):=rs.filterMap PR.sty2
def NumOk (b l o w:Int):Prop:=0≤l∧l≤o∧o<l+b∧o<10 ^ 60∧0≤w∧w≤1000000000000
def StOk (b:Int)(pre:List PR)(ns:List Str)(is:List Int):Prop:=∃(x:Ln) (z:Str) (l o w:Int) (i:Nat),x∈lsC pre∧ns=[x.n,z]∧is=[l,o,w]∧x.ss[i]? =some z∧1≤i∧i+1<x.ss.length∧(x.n,z) ∉ stz pre∧NumOk b l o w
def BwOk (b:Int)(pre:List PR)(k:Str)(ns:List Str)(is:List Int):Prop:=∃sn:Sn,Btw b (lsC pre) k ns is sn∧NumOk b sn.l sn.o sn.w∧∀i∈is,W60 i
def nP (b:Int)(pre:List PR):PR→Prop
 | .beat _=>False
 | .line n ss rs=>n ∉ (lsC pre).map (·.n)∧(PR.line n ss rs).lnOk
 | .oth k ns is=>(k = "stay" ∧StOk b pre ns is)∨(k ≠ "stay" ∧BwOk b pre k ns is)
def ib (b:Int)(rows:List PR):Prop:=∀i r,rows[i]? =some r→nP b (rows.take i) r
theorem nP.more {a c:List PR}{q:PR}(hr:r.isL=false)(hs:∀p,q.sty2=some p→r.sty2≠some p)(h:nP b (a++c) q):nP b (a++r::c) q:=by
 cases q with
 | beat b'=>exact h
 | line n ss rs =>
  obtain⟨h1,h2⟩:=h;exact⟨by rw[lsC_ins hr];exact h1,h2⟩
 | oth k ns is =>
  rcases h with ⟨rfl,x,z,l,o,w,i,h1,rfl,rfl,h2,h3,h4,h5,h6⟩ | ⟨hk,sn,h1,h2⟩
  ·apply .inl ⟨rfl,x,z,l,o,w,i,by rw[lsC_ins hr];exact h1,rfl,rfl,h2,h3,h4,λm=>h5 ?_,h6⟩
   unfold stz at m ⊢;rw[iR,gI] at m;rw[iR];have ne:=hs (x.n,z) (by unfold PR.sty2;exact qJ rfl);cases e:r.sty2 with
   | none=>rw[e] at m;exact m
   | some p =>
    rw[e] at m ne
    rcases aL.mp m with m | m
    ·exact cE _ m
    ·rcases aw.mp m with m | m
     ·exact qK (qO some m.symm) ne
     ·exact bf _ m
  ·exact .inr ⟨hk,sn,by rw[lsC_ins hr];exact h1,h2⟩
theorem ib.ins {b:Int}{rows:List PR}{r:PR}{m:Nat}(h:ib b rows)(hm:m≤rows.length)(hr:r.isL=false)(ok:nP b (rows.take m) r)(hs:∀p,r.sty2=some p→p ∉ stz rows):ib b (rows.take m++r::rows.drop m):=by
 have lt:(rows.take m).length=m:=by rw[aZ];lia
 intro i q hq
 rcases ic i m with c | c | c
 ·rw[bI ⋯,eX c] at hq
  have:=h i q hq
  rwa [iB ⋯,List.take_take,dA ⋯]
 ·subst c
  rw[bh ⋯,lt,gp,List.getElem?_cons_zero] at hq;cases hq
  rwa [iB ⋯,List.take_take,Nat.min_self]
 ·obtain⟨j,rfl⟩:∃j,i=m+1+j:=⟨i - m - 1,⋯⟩
  rw[bh ⋯,lt,show m+1+j - m=j+1 by lia,bq,fe] at hq;have o:=h (m+j) q hq;have e:(rows.take m++r::rows.drop m).take (m+1+j)=rows.take m++r::(rows.drop m).take j:=by
   rw[List.take_append,lt,show m+1+j - m=j+1 by lia,eM ⋯,List.take_succ_cons]
  have e2:rows.take (m+j)=rows.take m++(rows.drop m).take j:=by rw[List.take_add]
  rw[e];rw[e2] at o;apply o.more hr λp hp e3=>hs p e3 ?_
  unfold stz;exact ef.mpr ⟨q,aC hq,hp⟩
theorem lsC_mem:∀{rs:List PR} {x:Ln},x∈lsC rs→PR.line x.n x.ss x.rs∈rs∧x.st=[]:=by
 intro rs
 induction rs using snocI with
 | h0=>intro x h;cases h
 | h1 rs r ih =>
  intro x h;rw[iD] at h;cases r with
  | line n ss rs' =>
   rcases aL.mp h with h | h
   ·obtain⟨a,b⟩:=ih h
    exact⟨cE _ a,b⟩
   ·rw[aB.mp h]
    exact⟨bf _ (aB.mpr rfl),rfl⟩
  | beat b=>obtain⟨a,b⟩:=ih h;exact⟨cE _ a,b⟩
  | oth k ns is=>obtain⟨a,b⟩:=ih h;exact⟨cE _ a,b⟩
theorem hapL_nn (ls:List Ln):0≤jw ls:=by
 unfold jw
 induction ls with
 | nil=>simp
 | cons x ls ih=>rw[bw,fG];lia
theorem lJ (ls:List Ln)(x:Ln):jw (ls++[x])=jw ls+2 * (x.rs.length:Int):=by unfold jw;simp
structure Lay (ls:List Ln):Prop where
 in_:∀x∈ls,0≤x.fi∧x.fi+2 * (x.rs.length:Int)≤jw ls
 ap:∀x∈ls,∀y∈ls,x.n≠y.n→x.fi+2 * (x.rs.length:Int)≤y.fi∨y.fi+2 * (y.rs.length:Int)≤x.fi
theorem lay_C (rs:List PR):Lay (lsC rs):=by
 induction rs using snocI with
 | h0=>exact⟨(λx h=>by cases h),(λx h=>by cases h)⟩
 | h1 rs r ih =>
  rw[iD];cases r with
  | line n ss rs' =>
   show Lay (lsC rs++[⟨n,ss,rs',[],jw (lsC rs)⟩]);have nn:=hapL_nn (lsC rs);apply⟨λx hx=>?_,λx hx y hy ne=>?_⟩
   ·rw[lJ]
    rcases aL.mp hx with hx | hx
    ·have:=ih.in_ x hx
     dsimp only
     lia
    ·rw[aB.mp hx]
     dsimp only
     lia
   ·rcases aL.mp hx with hx | hx
    ·rcases aL.mp hy with hy | hy
     ·exact ih.ap x hx y hy ne
     ·rw[aB.mp hy]
      have:=ih.in_ x hx
      dsimp only
      lia
    ·rw[aB.mp hx]
     rcases aL.mp hy with hy | hy
     ·have:=ih.in_ y hy
      dsimp only
      lia
     ·rw[aB.mp hx,aB.mp hy] at ne
      exact qK rfl ne
  | beat b=>exact ih
  | oth k ns is=>exact ih
theorem ib.take (h:ib b rows)(m:Nat):ib b (rows.take m):=λi r hr=>by
 have hi:i<m:=by
  by_cases c:i<m
  ·exact c
  ·rw[eW (by rw[aZ];lia)] at hr;cases hr
 rw[eX hi] at hr;rw[List.take_take,dA ⋯];exact h i r hr
theorem ib.lnOk (h:ib b rows){x:Ln}(hx:x∈lsC rows):(PR.line x.n x.ss x.rs).lnOk:=by
 obtain⟨i,hi⟩:=cb (lsC_mem hx).1;exact(h i _ hi).2
theorem ib.nd (h:ib b rows):((lsC rows).map (·.n)).Nodup:=by
 have go:∀m,m≤rows.length→((lsC (rows.take m)).map (·.n)).Nodup:=by
  intro m
  induction m with
  | zero=>intro _;exact List.nodup_nil
  | succ m ih =>
   intro hm;have e:=gE (show m<rows.length by lia);rw[bW,e];show((lsC (rows.take m++[rows[m]])).map (·.n)).Nodup;rw[iD];have o:=h m _ e;generalize rows[m]=r at o;cases r with
   | line n ss rs =>
    show((lsC (rows.take m)++[(⟨n,ss,rs,[],jw (lsC (rows.take m))⟩:Ln)]).map (·.n)).Nodup;rw[ax];apply List.nodup_append.mpr ⟨ih ⋯,∅,λa ha b hb=>?_⟩;have:b=n:=by simpa using hb
    rw[this];exact λz=>o.1 (z ▸ ha)
   | beat b=>exact ih ⋯
   | oth k ns is=>exact ih ⋯
 have:=go rows.length (aD _)
 rwa [cD] at this
theorem ownS_len (h:l.ss.length=l.rs.length+1):(ownS l).length+1=2 * l.rs.length∨l.rs.length=0:=by
 have go:∀k,k<l.rs.length→(ownN l k).length=2 * k:=by
  intro k
  induction k with
  | zero=>intro _;rfl
  | succ k ih =>
   intro hk;rw[my,aq,ih ⋯];unfold stp;rw[qJ ⋯];rfl
 cases e:l.rs.length with
 | zero=>exact .inr rfl
 | succ k =>
  left
  show(ownN l l.rs.length).length+1=_;rw[e,my,aq,go k ⋯];unfold stp;rw[qI ⋯];rfl
def PR.spn:PR→Nat
 | .line _ _ rs=>2 * rs.length - 1
 | .oth k _ _=>if k = "stay" then 0 else 1
 | _=>0
def nU (rows:List PR):Nat:=(rows.map PR.spn).sum
def PR.bwn:PR→Nat
 | .oth k _ _=>if k = "stay" then 0 else 1
 | _=>0
def bwP (rows:List PR):Nat:=(rows.map PR.bwn).sum
def ownL (ls:List Ln):Nat:=(ls.map λl=>2 * l.rs.length - 1).sum
theorem ownL_core (ls:List Ln):ownL (ls.map Ln.core)=ownL ls:=by unfold ownL;rw[b9];rfl
theorem own_C (rows:List PR):ownL (lsC rows)+bwP rows=nU rows:=by
 induction rows using snocI with
 | h0=>rfl
 | h1 rs r ih =>
  rw[iD];unfold nU bwP at *;rw[ax,ax,jI,jI];cases r with
  | line n ss rs' =>
   show ownL (lsC rs++[_])+_=_;have e:∀x:Ln,ownL (lsC rs++[x])=ownL (lsC rs)+(2 * x.rs.length - 1):=λx=>by unfold ownL;rw[ax,jI];simp
   rw[e];show ownL (lsC rs)+(2 * rs'.length - 1)+(_+(0+0))=_+((2 * rs'.length - 1)+0);lia
  | beat b=>show ownL (lsC rs)+(_+(0+0))=_+(0+0);lia
  | oth k ns is=>show ownL (lsC rs)+(_+((if k = "stay" then 0 else 1)+0))=_+((if k = "stay" then 0 else 1)+0);lia
theorem allS_len (h:∀l∈ls,l.ss.length=l.rs.length+1∧1≤l.rs.length):(allSL ls bt).length=ownL ls+bt.length:=by
 unfold allSL ownL;rw[aq];congr 1
 induction ls with
 | nil=>rfl
 | cons l ls ih =>
  rw[List.flatMap_cons,aq,bw,fG,ih λx hx=>h x (aH _ hx)];have:=h l aW
  rcases ownS_len this.1 with e | e <;> lia
theorem bwP_snoc (rs:List PR)(r:PR):bwP (rs++[r])=bwP rs+r.bwn:=by unfold bwP;simp
theorem spnP_take (rs:List PR)(m:Nat):nU (rs.take m)≤nU rs:=by
 have e:nU rs=nU (rs.take m)+nU (rs.drop m):=by
  conv=>lhs;rw[←eV m rs]
  unfold nU;rw[ax,jI]
 lia
theorem hap_take (rs:List PR)(m:Nat):jw (lsC (rs.take m))≤jw (lsC rs):=by
 have go:∀(c a:List PR),jw (lsC a)≤jw (lsC (a++c)):=by
  intro c
  induction c with
  | nil=>intro a;rw[eY];exact Int.le_refl _
  | cons r c ih =>
   intro a;have:=ih (a++[r]);rw[hV] at this;apply Int.le_trans ?_ this;rw[iD];cases r with
   | line n ss rs=>show _≤jw (lsC a++[_]);rw[lJ];dsimp only;lia
   | beat b=>exact Int.le_refl _
   | oth k ns is=>exact Int.le_refl _
 have:=go (rs.drop m) (rs.take m)
 rwa [eV] at this
theorem st_told:∀{rs:List PR} {x:Ln},x∈oz rs→(∀z∈x.st.map (·.1),(x.n,z)∈stz rs)∧x.st.length≤rs.length:=by
 intro rs
 induction rs using snocI with
 | h0=>intro x h;cases h
 | h1 rs r ih =>
  intro x h;have up:∀p,p∈stz rs→p∈stz (rs++[r]):=λp hp=>by unfold stz;rw[iR];exact cE _ hp
  have le:(rs++[r]).length=rs.length+1:=by simp
  have old:∀x∈oz rs,(∀z∈x.st.map (·.1),(x.n,z)∈stz (rs++[r]))∧x.st.length≤(rs++[r]).length:=λx hx=>by
   obtain⟨a,b⟩:=ih hx;exact⟨λz hz=>up _ (a z hz),⋯⟩
  rw[nH] at h;revert h;apply stepL_c (C:=λy=>x∈y→(∀z∈x.st.map (·.1),(x.n,z)∈stz (rs++[r]))∧x.st.length≤(rs++[r]).length) (oz rs) r (λn ss rs' e h=>?_) (λn z l o w e h=>?_) (λ_ h=>old x h)
  ·rcases aL.mp h with h | h
   ·exact old x h
   ·rw[aB.mp h]
    exact⟨(λz hz=>by cases hz),dG _⟩
  ·subst e
   obtain⟨y,hy,rfl⟩:=aJ.mp h;obtain⟨a,b⟩:=old y hy;obtain⟨a',b'⟩:=ih hy;unfold ko;split
   ·next en =>
    apply⟨λz' hz=>?_,by show(y.st++[_]).length≤_;rw[aq,le];simp;lia⟩;have hz:z'∈(y.st++[(z,l,o,w)]).map (·.1):=hz;rw[ax] at hz
    rcases aL.mp hz with hz | hz
    ·exact a z' hz
    ·have:z'=z:=by simpa using hz
     subst this;show(y.n,z')∈_;rw[en];unfold stz;rw[iR];apply bf _ (ef.mpr ⟨_,aB.mpr rfl,?_⟩);show(if ("stay" :Str) = "stay" then some (n,z') else none)=_;rw[qJ rfl]
   ·exact⟨a,b⟩
structure p9 (b:Int)(rows:List PR):Prop where
 b1:1≤b
 ok:ib b rows
 hap:jw (lsC rows)≤16
 spn:nU rows≤40
 few:rows.length≤70
 ne:lsC rows≠[]
theorem bt_core {x y:Ln}{k:Str}(B:Bt b x.core y.core k ns is sn):Bt b x y k ns is sn:=by
 cases B with
 | change h1 h2 h3 h4=>exact .change (x:=x) (y:=y) h1 h2 h3 h4
 | apart h1 h2 h3 h4=>exact .apart (x:=x) (y:=y) h1 h2 h3 h4
 | meet h1 h2 h3 h4 h5 h6=>exact .meet (x:=x) (y:=y) h1 h2 h3 h4 h5 h6
theorem bt_ends {x y:Ln}{k:Str}(B:Bt b x y k ns is sn)(rx:x.ss.length=x.rs.length+1)(ry:y.ss.length=y.rs.length+1):(x.fi≤sn.s∧sn.s<x.fi+2 * (x.rs.length:Int))∧y.fi≤sn.g∧sn.g<y.fi+2 * (y.rs.length:Int):=by
 have lt:∀{xs:List Str} {i:Nat} {z:Str},xs[i]? =some z→i<xs.length:=λh=>(ai.mp h).1
 cases B with
 | change h1 h2 h3 h4=>have:=lt h1;dsimp only;lia
 | apart h1 h2 h3 h4=>dsimp only;lia
 | meet h1 h2 h3 h4 h5 h6=>have:=lt h2;have:=lt h5;dsimp only;lia
theorem bt_kind {x y:Ln}{k:Str}(B:Bt b x y k ns is sn):k ≠ "beat" ∧k ≠ "line" ∧k ≠ "stay" := by
 cases B <;> decide +kernel
theorem runs_of {b:Int}(hb:1≤b):∀(suf pre:List PR) (bt:List Sn),ib b (pre++suf)→jw (lsC (pre++suf))≤16→nU (pre++suf)≤40→(pre++suf).length≤70→bt.length=bwP pre→∃bt',Runs b (oz pre) bt suf (oz (pre++suf)) bt'∧bt'.length=bwP (pre++suf)
 | [],pre,bt,_,_,_,_,hl=>⟨bt,by rw[eY];exact .nil,by rw[eY];exact hl⟩
 | r::suf,pre,bt,ok,hh,hs,hn,hl=>by
  have ea:pre++r::suf=pre++[r]++suf:=by simp
  have e1:(pre++r::suf).take (pre.length+1)=pre++[r]:=by rw[ea];exact List.take_left' ∅
  have e0:(pre++r::suf).take pre.length=pre:=List.take_left' rfl;have o:nP b pre r:=by
   have:=ok pre.length r (by rw[bh (aD _),gp];rfl)
   rwa [e0] at this
  have ok0:ib b pre:=by have:=ok.take pre.length;rwa [e0] at this
  have ok1:ib b (pre++[r]):=by have:=ok.take (pre.length+1);rwa [e1] at this
  have h1:jw (lsC (pre++[r]))≤16:=by have:=hap_take (pre++r::suf) (pre.length+1);rw[e1] at this;lia
  have s1:nU (pre++[r])≤40:=by have:=spnP_take (pre++r::suf) (pre.length+1);rw[e1] at this;lia
  have lok:∀{rs:List PR},ib b rs→∀l∈oz rs,l.ss.length=l.rs.length+1∧1≤l.rs.length:=λ{rs} ok l hl=>by
   have m:l.core∈lsC rs:=by rw[←jD];exact eQ hl
   obtain⟨_,_,_,a,_,c,_⟩:=ok.lnOk m;have a:2≤l.ss.length:=a;have c:l.ss.length=l.rs.length+1:=c;exact⟨c,⋯⟩
  have small:∀{bt1:List Sn},bt1.length=bwP (pre++[r])→pd (oz (pre++[r])) bt1=true:=λ{bt1} hb1=>by
   unfold pd;have c1:jw (oz (pre++[r]))≤16:=by rw[←pO,jD];exact h1
   have c2:(allSL (oz (pre++[r])) bt1).length≤40:=by
    rw[allS_len (lok ok1),hb1,←ownL_core,jD,own_C];exact s1
   rw[qL c1,qL c2];rfl
  have hapO:jw (oz pre)=jw (lsC pre):=by rw[←pO,jD]
  have lay:=lay_C pre;have step:∃bt1,Tk b (oz pre) bt r (oz (pre++[r])) bt1∧bt1.length=bwP (pre++[r]):=by
   cases r with
   | beat b'=>exact qK o id
   | line n ss rs =>
    obtain⟨o1,o2,o3,o4,o5,o6,o7,o8⟩:=o;have hb1:bt.length=bwP (pre++[.line n ss rs]):=by rw[bwP_snoc,hl];rfl
    apply⟨bt,?_,hb1⟩;have sm:=small hb1;rw[nH] at sm ⊢;apply .line (λm=>o1 ?_) o4 o5 ⋯ o7 sm;rw[←jD,b9];exact m
   | oth k ns is =>
    rcases o with ⟨rfl,x,z,l,o,w,i,hx,rfl,rfl,q1,q2,q3,q4,q5,q6,q7,q8,q9,q10⟩ | ⟨hk,sn,⟨x,y,hx,hy,ne,B⟩,⟨q5,q6,q7,q8,q9,q10⟩,wi⟩
    ·apply⟨bt,?_,by rw[bwP_snoc,hl];rfl⟩
     obtain⟨hx1,hx2⟩:=lay.in_ x hx;obtain⟨_,_,_,_,_,c,_⟩:=ok0.lnOk hx;rw[←jD] at hx;obtain⟨x',hx',rfl⟩:=aJ.mp hx;obtain⟨t1,t2⟩:=st_told hx';rw[nH,show stepL (oz pre) (.oth "stay" [x'.core.n,z] [l,o,w])=(oz pre).map (ko x'.n z (l,o,w)) from by unfold stepL;exact qJ rfl];have c:x'.ss.length=x'.rs.length+1:=c;have q3:i+1<x'.ss.length:=q3;have hx1:0≤x'.fi:=hx1;have hx2:x'.fi+2 * (x'.rs.length:Int)≤jw (lsC pre):=hx2;have hn2:pre.length≤70:=by rw[aq] at hn;lia
     exact .stay (x:=x') hx' (λm=>q4 (t1 z m)) ⋯ q1 q2 q3 (snB_of (by dsimp only;lia) (by dsimp only;lia) (by dsimp only;lia) (by dsimp only;lia) (by dsimp only;lia) q5 q6 q7 q8 q9 q10)
    ·obtain⟨k1,k2,k3⟩:=bt_kind B
     have hb1:(bt++[sn]).length=bwP (pre++[.oth k ns is]):=by
      rw[bwP_snoc,aq,hl];show _=_+(if k = "stay" then 0 else 1);rw[qI k3];rfl
     apply⟨bt++[sn],?_,hb1⟩;have sm:=small hb1;have es:oz (pre++[.oth k ns is])=oz pre:=by
      rw[nH];exact stepL_no _ k3 _ _
     rw[es] at sm ⊢;obtain⟨hx1,hx2⟩:=lay.in_ x hx;obtain⟨hy1,hy2⟩:=lay.in_ y hy;have ap:=lay.ap x hx y hy ne;obtain⟨_,_,_,_,_,cx,_⟩:=ok0.lnOk hx;obtain⟨_,_,_,_,_,cy,_⟩:=ok0.lnOk hy;obtain⟨⟨e1,e2⟩,e3,e4⟩:=bt_ends B cx cy;rw[←jD] at hx hy;obtain⟨x',hx',rfl⟩:=aJ.mp hx;obtain⟨y',hy',rfl⟩:=aJ.mp hy;exact .btw ⟨x',y',hx',hy',ne,bt_core B⟩ k1 k2 k3 (by rw[hapO];exact snB_of ⋯ ⋯ ⋯ ⋯ ⋯ q5 q6 q7 q8 q9 q10) sm
  obtain⟨bt1,tk,hb1⟩:=step;obtain⟨bt',ru,hb'⟩:=runs_of hb suf (pre++[r]) bt1 (by rw[←ea];exact ok) (by rw[←ea];exact hh) (by rw[←ea];exact hs) (by rw[←ea];exact hn) hb1;exact⟨bt',.cons tk (by rw[ea];exact ru),by rw[ea];exact hb'⟩
theorem p9.runs (h:p9 b rows):∃bt,Runs b [] [] (.beat b::rows) (oz rows) bt:=by
 obtain⟨bt,r,_⟩:=runs_of h.b1 rows [] [] h.ok h.hap h.spn h.few rfl;exact⟨bt,.cons (.beat h.b1) r⟩
end HN
namespace L2
open PySem PySem.Spec PyProof.Rows
theorem mapS_inj {xs:List Str}(h:xs.map V.str=ys.map V.str):xs=ys:=by
 induction xs generalizing ys with
 | nil=>cases ys with
  | nil=>rfl
  | cons _ _=>cases h
 | cons x xs ih=>cases ys with
  | nil=>cases h
  | cons y ys =>
   rw[bw,bw] at h;injection h with h1 h2
   injection h1 with h1
   rw[h1,ih h2]
def eqJ (xs ys:List Str)(j:Nat):Bool:=decide (xs[j]? =ys[j]?)
theorem eqJ_all {xs:List Str}(hl:xs.length=ys.length):(cS xs.length).all (eqJ xs ys)=decide (xs=ys):=by
 by_cases e:xs=ys
 ·subst e
  rw[qL rfl,gg];exact λj _=>qL rfl
 ·rw[qM e]
  apply cU.mpr λh=>e (List.ext_getElem? λj=>?_)
  by_cases hj:j<xs.length
  ·exact qN (gg.mp h j (List.mem_range.mpr hj))
  ·rw[eW ⋯,eW ⋯]
theorem itemS {b:ao}{xs:List Str}(I:Inv X aI σ H s)(ha:H a=some (.lst (xs.map V.str)))(hb:H b=some (.lst (ys.map V.str)))(hl:xs.length=ys.length) :
  ∃its its2:List af,s.heap.IsList a its.toArray∧s.heap.IsList b its2.toArray∧its.length=xs.length∧its2.length=ys.length∧∀(A:cq) (j:Nat) (h1:j<its.toArray.size) (h2:j<its2.toArray.size),SeqAt.EqAt A s its.toArray[j] its2.toArray[j] (eqJ xs ys j):=by
 obtain⟨its,rv,p,_⟩:=I.list (SqL.of (K:=X.K) ha);obtain⟨its2,rv2,p2,_⟩:=I.list (SqL.of (K:=X.K) hb);have l1:its.length=xs.length:=by rw[←rv.length,ae]
 have l2:its2.length=ys.length:=by rw[←rv2.length,ae]
 apply⟨its,its2,p.isList,p2.isList,l1,l2,λA j h1 h2=>?_⟩;have h1':j<its.length:=by simpa using h1
 have h2':j<its2.length:=by simpa using h2
 have jx:j<xs.length:=by lia
 have jy:j<ys.length:=by lia
 obtain⟨u',eu,ru⟩:=rv.get (i:=j) (x:=V.str xs[j]) (by rw[aE,gE jx];rfl);obtain⟨v',ev,rw'⟩:=rv2.get (i:=j) (x:=V.str ys[j]) (by rw[aE,gE jy];rfl);have eu':its[j]=u':=by rw[gE h1'] at eu;exact bF eu
 have ev':its2[j]=v':=by rw[gE h2'] at ev;exact bF ev
 obtain⟨t1,rfl⟩:=(show ∃t,u'=af.str xs[j] t from ru);obtain⟨t2,rfl⟩:=(show ∃t,v'=af.str ys[j] t from rw');rw[List.getElem_toArray,List.getElem_toArray,eu',ev'];have e:eqJ xs ys j=(xs[j] == ys[j]):=by
  unfold eqJ;rw[gE jx,gE jy]
  by_cases q:xs[j]=ys[j]
  ·rw[q,qL rfl,beq_self_eq_true]
  ·rw[qM λz=>q (bF z),beq_eq_false_iff_ne.mpr q]
 rw[e];exact SeqAt.EqAt.str_str _ _ _ _
theorem op_eqLS (hu:X.A.units+64<cLine):OpR X (eR .Eq) (λx y H Q=>∃(a b:ao) (xs ys:List Str),x= .ref a∧y= .ref b∧H a=some (.lst (xs.map V.str))∧H b=some (.lst (ys.map V.str))∧xs.length=ys.length∧Q (.bl (decide (xs=ys))) H):=by
 intro aI s σ H x y v u Q I rx ry h;obtain⟨a,b,xs,ys,rfl,rfl,ha,hb,hl,q⟩:=h;cases(show v=af.ref a from rx);cases(show u=af.ref b from ry);obtain⟨its,its2,p,p2,l1,l2,key⟩:=itemS I ha hb hl;apply SeqAt.eq_listAt (e:=eqJ xs ys) p p2 (by rw[aG,aG];lia) ⋯ (λj h1 h2=>key _ j h1 h2) (fz I q ?_);rw[aG,l1,eqJ_all hl]
theorem eqAt_S {b:ao}{xs:List Str}(hu:A.units<cLine)(I:Inv X aI σ H s)(ha:H a=some (.lst (xs.map V.str)))(hb:H b=some (.lst (ys.map V.str)))(hl:xs.length=ys.length):SeqAt.EqAt A s (.ref a) (.ref b) (decide (xs=ys)):=by
 by_cases hab:a=b
 ·subst hab
  rw[ha] at hb;have e:xs=ys:=mapS_inj (by injection hb with hb;injection hb);rw[qL e];exact SeqAt.EqAt.same _
 ·obtain⟨its,its2,p,p2,l1,l2,key⟩:=itemS I ha hb hl
  have k:=SeqAt.RcAt.lists (A:=A) (e:=eqJ xs ys) p p2 (by rw[aG,aG];lia) hu λj h1 h2=>key _ j h1 h2
  rw[aG,l1,eqJ_all hl] at k;exact SeqAt.EqAt.of_refs hab k
def memS (H:Hp)(xs:List Str):af→Bool
 | .ref q=> @decide (H q=some (.lst (xs.map V.str))) (lN _)
 | _=>false
theorem memS_ref {xs:List Str}(h:H q=some (.lst (ys.map V.str))):memS H xs (.ref q)=decide (ys=xs):=by
 unfold memS
 by_cases e:ys=xs
 ·subst e
  rw[qL rfl];exact @qL _ (lN _) h
 ·rw[qM e]
  apply @qM _ (lN _) λz=>e ?_
  rw[h] at z;exact mapS_inj (by injection z with z;injection z)
theorem any_memS {H:Hp}{xs:List Str}:∀{as:List ao} {its:List af} {ts:List (List Str)},gU (as.map V.ref) its→as.map H=ts.map (λt=>some (.lst (t.map V.str)))→its.any (memS H xs)=decide (xs∈ts)
 | [],_,[],r,_=>by
  cases r;simp
 | [],_,_::_,_,h=>by cases h
 | _::_,_,[],_,h=>by cases h
 | a::as,_,t::ts,r,h=>by
  rw[bw,bw] at h;injection h with h1 h2
  cases r with
  | cons r0 rs =>
   have r0:_=af.ref a:=r0;subst r0;rw[iL,memS_ref h1,any_memS rs h2]
   by_cases e:t=xs
   ·subst e;simp
   ·have:(xs∈t::ts)↔xs∈ts:=by
     rw[aw];exact⟨λz=>z.resolve_left λq=>e q.symm,Or.inr⟩
    rw[qM e,Bool.false_or];exact decide_eq_decide.mpr this.symm
theorem op_notInLS (hu:X.A.units+64<cLine):OpR X (eR .NotIn) (λx y H Q=>∃(a p:ao) (xs:List Str) (as:List ao) (ts:List (List Str)),x= .ref a∧y= .ref p∧H a=some (.lst (xs.map V.str))∧H p=some (.lst (as.map V.ref))∧as.map H=ts.map (λt=>some (.lst (t.map V.str)))∧(∀t∈ts,t.length=xs.length)∧Q (.bl (!decide (xs∈ts))) H):=by
 intro aI s σ H x y v u Q I rx ry h;obtain⟨a,p,xs,as,ts,rfl,rfl,ha,hp,hm,hl,q⟩:=h;cases(show v=af.ref a from rx);cases(show u=af.ref p from ry);obtain⟨its,r,pl,hz⟩:=I.list (SqL.of (K:=X.K) hp);apply SeqAt.notIn_listAt (memS H xs) pl.isList (λw hw=>?_) ⟨.bl _,H,I,rfl,?_⟩
 ·have hw:w∈its:=by simpa using hw
  obtain⟨i,hi⟩:=cb hw;have il:i<as.length:=by have:=r.length;rw[ae] at this;rw[this];exact(ai.mp hi).1
  obtain⟨w',e1,rw'⟩:=r.get (i:=i) (x:=V.ref as[i]) (by rw[aE,gE il];rfl);rw[hi] at e1;cases e1;have rw2:w=af.ref as[i]:=rw';subst rw2;have e2:(as.map H)[i]? =some (H as[i]):=by rw[aE,gE il];rfl
  rw[hm,aE] at e2;obtain⟨t,ht,e3⟩:=aY.mp e2;rw[memS_ref e3.symm];exact eqAt_S (A:=X.A.in1) (by show X.A.units+1<cLine;lia) I e3.symm ha (hl t (aC ht))
 ·rw[show its.toArray.any (memS H xs)=its.any (memS H xs) by simp,any_memS r hm]
  exact q
def isS (k:Str):af→Bool:=λv=>match v with | .str y _=>y == k | _=>false
theorem mt_indexLS:MtM X "list.index" (λx vs H Q=>∃(l:ao) (ns:List Str) (k:Str) (i:Nat),x= .ref l∧vs=[.str k]∧H l=some (.lst (ns.map V.str))∧ns[i]? =some k∧(∀j,j<i→ns[j]? ≠some k)∧i≤1000∧Q (.int (i:Nat)) H):=by
 intro aI s σ H x vs v us Q I rx rv h;obtain⟨l,ns,k,i,rfl,rfl,hH,hi,hno,hsm,q⟩:=h;cases(show v=af.ref l from rx);obtain⟨u,rfl,ru⟩:=rv.one;obtain⟨t,rfl⟩:=(show ∃t,u=af.str k t from ru);obtain⟨z,its,n,r,hl,e⟩:=I.lstM hH;rw[ae] at hl;have at_:∀(m:Nat) (hm:m<its.toArray.size) (hm':m<ns.length),∃tk,its.toArray[m]=af.str ns[m] tk:=λm hm hm'=>by
  obtain⟨u,hu,ru⟩:=r.get (i:=m) (x:=V.str ns[m]) (by rw[aE,gE hm'];rfl);obtain⟨tk,rfl⟩:=(show ∃t,u=af.str ns[m] t from ru);exact⟨tk,by have:=(ai.mp hu).2;simpa using this⟩
 obtain⟨hil,hib⟩:=ai.mp hi;have sz:its.toArray.size=ns.length:=by rw[aG];lia
 apply kS F.slot_list_index ⟨_,e,rfl⟩ F.entry_list_index (F.args_list_index_2 _ _) (SeqAt.list_indexAt l its.toArray n none #[] (.str k t) (isS k) i (by rw[sz];exact hil) ⋯ ?_ λm hm hmi=>?_) ⟨e,λy hy=>?_,⟨.int (i:Nat),H,I.tok _,⟨_,rfl⟩,q⟩⟩
 ·obtain⟨tk,e1⟩:=at_ i (by rw[sz];exact hil) hil
  rw[e1,hib];exact beq_self_eq_true k
 ·obtain⟨tk,e1⟩:=at_ m hm ⋯
  rw[e1];apply beq_eq_false_iff_ne.mpr λz=>hno m hmi ?_
  rw[gE ⋯,z]
 ·obtain⟨m,hm,rfl⟩:=Array.getElem_of_mem hy
  obtain⟨tk,e1⟩:=at_ m hm ⋯;rw[e1];exact SeqAt.EqAt.str_str _ _ _ _
end L2
namespace HN
open PySem L2 PyProof.Rows HT2
abbrev sEndW:cW:=top 96
abbrev sRidW:cW:=top 97
theorem intr_r:∀{ss:List Str} {rs:List Int} (i:Nat),ss.length=rs.length+1→(jL ss rs)[2 * i+1]? =(rs[i]?).map V.int
 | [],_,_,h=>by simp at h
 | [_],[],0,_=>rfl
 | [_],[],i+1,_=>rfl
 | _::_::_,[],_,h=>by simp at h
 | s::ss,r::rs,0,_=>rfl
 | s::ss,r::rs,i+1,h=>by
  have hl:ss.length=rs.length+1:=by simpa using h
  show(V.str s:: .int r::jL ss rs)[2 * i+1+1+1]? =_;rw[bq,bq,intr_r i hl,bq]
theorem oW:∀{ss:List Str} {rs:List Int},ss.length=rs.length+1→evs (jL ss rs)=ss.map V.str
 | [],_,h=>by simp at h
 | [_],[],_=>rfl
 | _::_::_,[],h=>by simp at h
 | s::ss,r::rs,h=>by
  have hl:ss.length=rs.length+1:=by simpa using h
  show V.str s::evs (jL ss rs)=_;rw[oW hl];rfl
theorem lsC_sub (c:List PR):∀(a:List PR) {x:Ln},x∈lsC a→x∈lsC (a++c):=by
 induction c with
 | nil=>intro a x h;rw[eY];exact h
 | cons r c ih =>
  intro a x h;have:=ih (a++[r]) (x:=x) (by
   rw[iD];cases r with
   | line n ss rs=>exact cE _ h
   | beat b=>exact h
   | oth k ns is=>exact h)
  rwa [hV] at this
theorem lsC_take {rs:List PR}{x:Ln}(h:x∈lsC (rs.take m)):x∈lsC rs:=by
 have:=lsC_sub (rs.drop m) _ h
 rwa [eV] at this
def PR.okE:PR→Prop
 | .beat _=>False
 | .line _ ss rs=>ss.length=rs.length+1∧2≤ss.length∧ss.length≤400∧ss.Nodup
 | .oth k ns _=>k ≠ "line" ∧ns≠[]
def oV:Option Int→V
 | none=> .non
 | some i=> .int i
def oI (c:Prop)[Decidable c](i:Int):Option Int:=if c then some i else none
def Ends (prs:List PR)(n z:Str)(c g:Option Int):Prop:=(∃x∈lsC prs,∃i:Nat,x.n=n∧x.ss[i]? =some z∧c=oI (0<i) (x.fi+2 * i - 1)∧g=oI (i+1<x.ss.length) (x.fi+2 * i))∨((∀x∈lsC prs,x.n=n→z ∉ x.ss)∧c=none∧g=none)
inductive spEndW (vs:List V)(H:Hp)(Q:VK)(_:XK):Prop
 | mk (R:ao)(xs:List V)(prs:List PR)(n z:Str)(_:vs=[.ref R,.str n,.str z])(_:H R=some (.lst xs))(_:mn H xs (prs.map PR.rowV))(_:(∀r∈prs,r.okE))(_:prs.length≤100)(_:∀L c g H',cB H H'→H' L=some (.lst [oV c,oV g])→Ends prs n z c g→Q (.ref L) H')
def Ride (prs:List PR)(n z y:Str)(o:Option Int):Prop:=(∃x∈lsC prs,∃(i:Nat) (r:Int),x.n=n∧x.ss[i]? =some z∧x.ss[i+1]? =some y∧x.rs[i]? =some r∧o=some r)∨((∀x∈lsC prs,x.n=n→∀i:Nat,x.ss[i]? =some z→x.ss[i+1]? ≠some y)∧o=none)
inductive spRidW (vs:List V)(H:Hp)(Q:VK)(_:XK):Prop
 | mk (R:ao)(xs:List V)(prs:List PR)(n z y:Str)(_:vs=[.ref R,.str n,.str z,.str y])(_:H R=some (.lst xs))(_:mn H xs (prs.map PR.rowV))(_:(∀r∈prs,r.okE))(_:prs.length≤100)(_:∀o H',cB H H'→Ride prs n z y o→Q (oV o) H')
theorem inV_str:inV (.str z) (ss.map V.str)=decide (z∈ss):=by
 unfold inV
 induction ss with
 | nil=>simp
 | cons s ss ih =>
  rw[bw,iL,ih];show((s == z) || _)=_
  by_cases e:s=z
  ·subst e;simp
  ·rw[beq_eq_false_iff_ne.mpr e,Bool.false_or]
   apply decide_eq_decide.mpr ?_;rw[aw];exact⟨Or.inr,λq=>q.resolve_left λy=>e y.symm⟩
theorem flat_str (ss:List Str):(ss.map V.str).all oj=true:=by
 rw[gg];intro v hv;obtain⟨z,_,rfl⟩:=aJ.mp hv;rfl
theorem qp:cI ["_law_rows","_law_name","_law_stop","_law_begin","_law_row","_law_stops","_law_at"] pzr (defScope sEndW):=by trivial
theorem ok_endW (F:Fun K "_law_ends" "_law_ends" sEndW f fd)(T:Nm mg)(hint:mg "int" =none):‹0› 1 f fd pzr spEndW:=by
 specialize F.ok qp;obtain ⟨R,xs,prs,n,z,rfl,hR,rw_,ok,few,k⟩:=h;apply ⟨_,PSl.h (bz ⟨(psZ 3 qp.nd aP)⟩
  (bz ⟨(je cz rfl (jo (pv 0)) (pgZ 4 qp.nd) (bH (gC (cf iW (fK bX (pv 4) aP (fun _ _=>rfl)) dC (cN _)) (PSl.h (bz ⟨(psZ 5 qp.nd (pe_twoL (a:=2) (pv 4)))⟩
  (bz ⟨(gC (PW.pt (nj (cf iW (fK bX (pv 4) aP (fun _ _=>rfl)) (pv 1) (cN _)) (lQ (cf nk (pv 2) (pv 5) rfl)))) (PSl.h (bz ⟨(psZ 6 qp.nd (jg bJ PySem.F.slot_list_index PySem.F.type_list_index mt_indexLS (pv 5) (ah (pv 2) ay)))⟩
  (gy ⟨(cA (ij (ah (PEs.h (qe bX (mE (cO k_non (cO (qD ji (qD gx ⟨pv 3⟩ (qD kq jF ⟨pv 6⟩)) jF) l7))) ⟨gJ nM rfl hint boot_int (ah (kK op_gt (pv 6) aP (cN _)) ay)⟩ (fun _ _=>rfl))) (ah (PEs.h (qe bX (mE (cO k_non (cO (qD gx ⟨pv 3⟩ (qD kq jF ⟨pv 6⟩)) l7))) ⟨gJ nM rfl hint boot_int (ah (kK op_lt (pv 6) (c7 ji (b8 cF rfl T.len bu (ah (pv 5) ay)) aP) (cN _)) ay)⟩ (fun _ _=>rfl))) ay))))⟩))) cZ)⟩
  (gy ⟨(psZ 3 qp.nd (c7 ji (c7 gx (pv 3) (c7 kq aP (b8 cF rfl T.len bu (ah (pv 5) ay)))) aP))⟩)))) cZ)))⟩
  (gy ⟨(cA (ij (ah jf (ah jf ay))))⟩))),?_⟩
 have lxs:xs.length=prs.length:=by rw[rw_.len,ae]
 apply⟨ρ,R,rfl,⟨_,SqL.of hR⟩,?_⟩;apply lX (K:=K) (a:=R) (xs:=xs) (λi σ H2=>cB H H2∧(∀x∈lsC (prs.take i),x.n=n→z ∉ x.ss)∧∃v4 v5 v6,σ=[some (.ref R),some (.str n),some (.str z),some (.int (jw (lsC (prs.take i)))),v4,v5,v6])
  ⟨cB.refl H,(λx hx=>by cases hx),none,none,none,rfl⟩ (λi σ H2 _ q=>SqL.of (q.1 _ _ hR)) ?_ ?_
 ·rintro i x σ H2 hx ⟨S2,no,v4,v5,v6,rfl⟩
  have hi:i<prs.length:=by rw[←lxs];exact(ai.mp hx).1
  have hp:=gE hi;have et:prs.take (i+1)=prs.take i++[prs[i]]:=by rw[bW,hp];rfl
  have okr:=ok _ (c8 hi);obtain⟨a,hxa,hra⟩:=rw_.get i prs[i].rowV (by rw[aE,hp];rfl);rw[hx] at hxa;cases hxa;have sub:∀x,x∈lsC (prs.take (i+1))→x∈lsC prs:=λx h=>lsC_take h
  rw[et] at sub ⊢;rw[iD] at sub ⊢;generalize prs[i]=r at okr hra sub ⊢;have hra2:=S2 _ _ hra;cases r with
  | beat b=>exact qK okr id
  | oth kk ns is =>
   have hra2:H2 a=some (.lst (.str kk::(ns.map V.str++is.map V.int))):=hra2;apply⟨ρ,a,τ,SqL.of hra2,bp (j:=0) rfl,rfl,ρ,lq (qM λz=>okr.1 (by injection z)) ?_⟩;exact⟨S2,no,_,_,ρ⟩
  | line m ss rs =>
   obtain⟨o1,o2,o3,nd⟩:=okr;have hra2:H2 a=some (.lst (.str "line" :: .str m::jL ss rs)):=hra2;apply⟨ρ,a,τ,SqL.of hra2,bp (j:=0) rfl,rfl,ρ,qj (qL rfl) ?_⟩;apply⟨ρ,a,ρ,SqL.of hra2,(by simp only[az];lia),λSt H3 S3 e3=>?_⟩;have e3:H3 St=some (.lst (ss.map V.str)):=by rw[e3];show some (HO.lst (evs (jL ss rs)))=_;rw[oW o1]
   have hra3:=S3 _ _ hra2;have nx:¬(m=n∧z∈ss)→∀x∈oZ (lsC (prs.take i)) (.line m ss rs),x.n=n→z ∉ x.ss:=λhne x hx en=>by
    rcases aL.mp hx with hx | hx
    ·exact no x hx en
    ·rw[aB.mp hx] at en ⊢
     exact λhz=>hne ⟨en,hz⟩
   have en:jw (lsC (prs.take i))+2 * (((ss.map V.str).length:Nat):Int) - 2=jw (oZ (lsC (prs.take i)) (.line m ss rs)):=by
    rw[show oZ (lsC (prs.take i)) (.line m ss rs)=lsC (prs.take i)++[⟨m,ss,rs,[],jw (lsC (prs.take i))⟩] from rfl,lJ,ae]
    dsimp only
    lia
   have xin:(⟨m,ss,rs,[],jw (lsC (prs.take i))⟩:Ln)∈lsC prs:=sub _ (bf _ (aB.mpr rfl));generalize jw (oZ (lsC (prs.take i)) (.line m ss rs))=hap1 at en ⊢;generalize jw (lsC (prs.take i))=hap0 at en xin ⊢;have go:∀σ5 σ6,¬(m=n∧z∈ss)→cB H H3∧(∀x∈oZ (lsC (prs.take i)) (.line m ss rs),x.n=n→z ∉ x.ss)∧∃v4 v5 v6,[some (.ref R),some (.str n),some (.str z),some (V.int (hap0+2 * (((ss.map V.str).length:Nat):Int) - 2)),some (.ref a),σ5,σ6]=[some (.ref R),some (.str n),some (.str z),some (.int hap1),v4,v5,v6]:=λσ5 σ6 hne=>⟨S2.trans S3,nx hne,_,_,_,by rw[en]⟩
   apply⟨ρ,a,τ,SqL.of hra3,bp (j:=1) rfl,ρ,rfl,ρ,jC (λc1=>?_) (λc1=>?_)⟩
   ·have c1:m=n:=by have:=qN c1;injection this
    apply⟨ρ,ρ,St,ρ,.inl (SqL.of e3),rfl,flat_str ss,ρ,jC (λc2=>?_) (λc2=>?_)⟩
    ·have c2:z∈ss:=by
      have:inV (.str z) (ss.map V.str)=true:=c2;rw[inV_str] at this;exact qN this
     obtain⟨j,hj⟩:=cb c2;have lj:=(ai.mp hj).1;apply⟨ρ,.inl ⟨rfl,_,SqL.of e3⟩,ρ,St,ss,z,j,rfl,rfl,e3,hj,λj' h1 h2=>qK (j6 nd h2 hj) ⋯,⋯,?_⟩;apply⟨ρ,ρ,ς,.inl ⟨↥0,↥0⟩,ς,ς,szZ2,λL4 H4 S4 e4=>?_⟩;apply⟨ρ,ς,.inr ⟨ρ,?_⟩⟩;apply⟨L4,_,_,oV (oI (0<j) (hap0+2 * j - 1)),rfl,rfl,SqL.of e4,?_,?_⟩
     ·unfold oI
      by_cases c:0<j
      ·rw[qJ c,qL ⋯];rfl
      ·rw[qI c,qM ⋯];rfl
     apply⟨ρ,ρ,ς,.inl ⟨↥0,↥0⟩,ς,szZ2,λL5 H5 S5 e5=>?_⟩;have S35:cB H3 H5:=S4.trans S5;apply⟨ρ,ρ,St,ρ,.inl (SqL.of (S35 _ _ e3)),ς,ς,.inr ⟨ρ,?_⟩⟩;apply⟨L5,_,_,oV (oI (j+1<ss.length) (hap0+2 * j)),rfl,rfl,SqL.of e5,?_,?_⟩
     ·rw[ae]
      unfold oI
      by_cases c:j+1<ss.length
      ·rw[qJ c,qL ⋯];rfl
      ·rw[qI c,qM ⋯];rfl
     apply⟨szZ2,λL6 H6 S6 e6=>?_⟩;exact k L6 _ _ H6 (S2.trans (S3.trans (S35.trans S6))) e6 (.inl ⟨_,xin,j,c1,hj,rfl,rfl⟩)
    ·have c2:z ∉ ss:=λhz=>c2 (by show inV (.str z) (ss.map V.str)=true;rw[inV_str];exact qL hz)
     exact⟨ρ,ρ,St,ρ,.inl (SqL.of e3),ς,.inl ⟨↥0,↥0⟩,ς,ς,go _ _ λz=>c2 z.2⟩
   ·have c1:m≠n:=λz=>c1 (qL (by rw[z]))
    exact⟨ρ,ρ,St,ρ,.inl (SqL.of e3),ς,.inl ⟨↥0,↥0⟩,ς,ς,go _ _ λz=>c1 z.1⟩
 ·rintro σ H2 ⟨S2,no,v4,v5,v6,rfl⟩
  rw[lxs,cD] at no;apply⟨szZ2,λL H3 S3 e=>?_⟩;exact k L none none H3 (S2.trans S3) e (.inr ⟨no,rfl,rfl⟩)
theorem scRidW:cI ["_law_rows","_law_name","_law_stop","_law_other","_law_row","_law_k"] pzl (defScope sRidW):=by trivial
theorem ok_ridW (F:Fun K "_law_ride" "_law_ride" sRidW f fd)(T:Nm mg)(T2:Nt mg):‹0› 1 f fd pzl spRidW:=by
 specialize F.ok scRidW;obtain ⟨R,xs,prs,n,z,y,rfl,hR,rw_,ok,few,k⟩:=h;apply ⟨_,PSl.h (bz ⟨(je cz rfl (jo (pv 0)) (pgZ 4 scRidW.nd) (bH (gC (cf (op_eqLS hr.units) (fq iC (pv 4) hZ (fZ aP)) (ij (ah dC (ah (pv 1) ay))) (cN _)) (bH (je cz rfl (pw rfl T2.range (ah aP (ah (c7 ji (b8 cF rfl T.len bu (ah (pv 4) ay)) aP) (ah aP ay)))) (pgZ 5 scRidW.nd) (bH (gC (PW.pt (nj (cf iW (fK bX (pv 4) (pv 5) (fun _ _=>rfl)) (pv 2) (cN _)) (lQ (cf iW (fK bX (pv 4) (c7 gx (pv 5) aP) (fun _ _=>rfl)) (pv 3) (cN _))))) (bH (cA (fK bX (pv 4) (c7 gx (pv 5) aP) (fun _ _=>rfl)))) cZ)))) cZ)))⟩
  (gy ⟨(cA jf)⟩)),?_⟩
 have lxs:xs.length=prs.length:=by rw[rw_.len,ae]
 apply⟨ρ,R,rfl,⟨_,SqL.of hR⟩,?_⟩;apply lX (K:=K) (a:=R) (xs:=xs) (λi σ H2=>cB H H2∧(∀x∈lsC (prs.take i),x.n=n→∀j:Nat,x.ss[j]? =some z→x.ss[j+1]? ≠some y)∧∃v4 v5,σ=[some (.ref R),some (.str n),some (.str z),some (.str y),v4,v5])
  ⟨cB.refl H,(λx hx=>by cases hx),none,none,rfl⟩ (λi σ H2 _ q=>SqL.of (q.1 _ _ hR)) ?_ ?_
 ·rintro i x σ H2 hx ⟨S2,no,v4,v5,rfl⟩
  have hi:i<prs.length:=by rw[←lxs];exact(ai.mp hx).1
  have hp:=gE hi;have et:prs.take (i+1)=prs.take i++[prs[i]]:=by rw[bW,hp];rfl
  have okr:=ok _ (c8 hi);obtain⟨a,hxa,hra⟩:=rw_.get i prs[i].rowV (by rw[aE,hp];rfl);rw[hx] at hxa;cases hxa;have sub:∀x,x∈lsC (prs.take (i+1))→x∈lsC prs:=λx h=>lsC_take h
  rw[et] at sub ⊢;rw[iD] at sub ⊢;generalize prs[i]=r at okr hra sub ⊢;have hra2:=S2 _ _ hra;cases r with
  | beat b=>exact qK okr id
  | oth kk ns is =>
   obtain⟨o1,o2⟩:=okr;obtain⟨n0,ns',rfl⟩:∃a b,ns=a::b:=by
    cases ns with
    | nil=>exact qK rfl o2
    | cons a b=>exact⟨a,b,rfl⟩
   have hra2:H2 a=some (.lst (.str kk:: .str n0::(ns'.map V.str++is.map V.int))):=hra2;apply⟨ρ,ρ,a,ρ,SqL.of hra2,λC1 H3 S3 e3=>?_⟩;rw[cutU (i:=2) (n:=2) rfl] at e3;apply⟨ρ,szZ2,λC2 H4 S4 e4=>?_⟩;apply⟨C1,C2,[kk,n0],["line",n],rfl,rfl,S4 _ _ e3,e4,rfl,ρ,lq (qM λz=>o1 (by injection z)) ?_⟩;exact⟨S2.trans (S3.trans S4),no,_,ρ⟩
  | line m ss rs =>
   obtain⟨o1,o2,o3,nd⟩:=okr;have hra2:H2 a=some (.lst (.str "line" :: .str m::jL ss rs)):=hra2;have lrow:(V.str "line" :: .str m::jL ss rs).length=2 * ss.length+1:=by rw[az,az,ku o1];lia
   apply⟨ρ,ρ,a,ρ,SqL.of hra2,λC1 H3 S3 e3=>?_⟩;rw[cutU (i:=2) (n:=2) rfl] at e3;apply⟨ρ,szZ2,λC2 H4 S4 e4=>?_⟩;have S24:=S3.trans S4;apply⟨C1,C2,["line",m],["line",n],rfl,rfl,S4 _ _ e3,e4,rfl,ρ,jC (λc1=>?_) (λc1=>?_)⟩
   ·have c1:m=n:=by have:=qN c1;injection this with _ this;injection this
    have hra4:=S24 _ _ hra2;have xin:(⟨m,ss,rs,[],jw (lsC (prs.take i))⟩:Ln)∈lsC prs:=sub _ (bf _ (aB.mpr rfl));apply⟨ρ,a,ρ,.inl (SqL.of hra4),ς,2,ρ,⟨↥0,↥0,by rw[lrow];lia,by rw[lrow];lia⟩,?_⟩;have en:(((((V.str "line" :: .str m::jL ss rs).length:Nat):Int) - 2) - 2+1) / 2=((ss.length - 1:Nat):Int):=by rw[lrow];lia
    rw[en,fU];apply oh (lo:=2) (n:=ss.length - 1) (λj σ H5=>cB H4 H5∧(∀q:Nat,q<j→ss[q]? =some z→ss[q+1]? ≠some y)∧∃v5,σ=[some (.ref R),some (.str n),some (.str z),some (.str y),some (.ref a),v5])
     ⟨cB.refl _,(λq hq=>qK hq (jM _)),_,rfl⟩ ?_ ?_
    ·rintro j σ H5 hj ⟨S5,nq,v5,rfl⟩
     obtain⟨s1,hs1⟩:∃s,ss[j]? =some s:=⟨_,gE ⋯⟩;obtain⟨s2,hs2⟩:∃s,ss[j+1]? =some s:=⟨_,gE ⋯⟩;obtain⟨r1,hr1⟩:∃r,rs[j]? =some r:=⟨_,gE ⋯⟩;have hra5:=S5 _ _ hra4;have g1:atI (V.str "line" :: .str m::jL ss rs) ((2:Int)+(j:Nat) * 2)=some (.str s1):=by
      rw[show(2:Int)+(j:Nat) * 2=((2 * j+1+1:Nat):Int) by lia];exact bp (by rw[bq,bq,qE j o1,hs1];rfl)
     have g2:atI (V.str "line" :: .str m::jL ss rs) ((2:Int)+(j:Nat) * 2+2)=some (.str s2):=by
      rw[show(2:Int)+(j:Nat) * 2+2=((2 * (j+1)+1+1:Nat):Int) by lia];exact bp (by rw[bq,bq,qE (j+1) o1,hs2];rfl)
     have g3:atI (V.str "line" :: .str m::jL ss rs) ((2:Int)+(j:Nat) * 2+1)=some (.int r1):=by
      rw[show(2:Int)+(j:Nat) * 2+1=((2 * j+1+1+1:Nat):Int) by lia];exact bp (by rw[bq,bq,intr_r j o1,hr1];rfl)
     have nx:¬(s1=z∧s2=y)→∀q:Nat,q<j+1→ss[q]? =some z→ss[q+1]? ≠some y:=λhne q hq w1 w2=>by
      rcases jH.mp hq with hq | hq
      ·exact nq q hq w1 w2
      ·subst hq
       rw[hs1] at w1;rw[hs2] at w2;exact hne ⟨bF w1,bF w2⟩
     apply⟨ρ,ρ,a,τ,SqL.of hra5,g1,ρ,rfl,ρ,jC (λc2=>?_) (λc2=>?_)⟩
     ·have c2:s1=z:=by have:=qN c2;injection this
      apply⟨ρ,ρ,ς,a,τ,SqL.of hra5,g2,ρ,rfl,ρ,jC (λc3=>?_) (λc3=>?_)⟩
      ·have c3:s2=y:=by have:=qN c3;injection this
       apply⟨ρ,ρ,ς,a,τ,SqL.of hra5,g3,?_⟩;exact k (some r1) H5 (S2.trans (S24.trans S5)) (.inl ⟨_,xin,j,r1,c1,by rw[←c2];exact hs1,by rw[←c3];exact hs2,hr1,rfl⟩)
      ·exact⟨S5,nx λz=>c3 (qL (by rw[z.2])),ρ⟩
     ·exact⟨S5,nx λz=>c2 (qL (by rw[z.1])),ρ⟩
    ·rintro σ H5 ⟨S5,nq,v5,rfl⟩
     apply⟨S2.trans (S24.trans S5),λx hx en=>?_,_,ρ⟩
     rcases aL.mp hx with hx | hx
     ·exact no x hx en
     ·rw[aB.mp hx]
      intro q w1 w2;have:=(ai.mp w2).1;exact nq q (by dsimp only at this;lia) w1 w2
   ·apply⟨S2.trans S24,λx hx en=>?_,_,ρ⟩
    rcases aL.mp hx with hx | hx
    ·exact no x hx en
    ·rw[aB.mp hx] at en
     exact qK (qL (by rw[show m=n from en])) c1
 ·rintro σ H2 ⟨S2,no,v4,v5,rfl⟩
  rw[lxs,cD] at no;exact k none H2 S2 (.inr ⟨no,rfl⟩)
end HN
namespace L2
open PySem PySem.Spec PyProof.Rows
theorem tw_set (hN:X.N.Nodup)(hi:X.N[i]? =some x)(hx:Loc X.env.scope x)(he:PEs X e te)(hs:autoParam (kO e (some (.Name x pos')) pos.line X.env=hW false) L2.au0._auto_1)(hf:autoParam (X.fn x=true∨X.env.scope.names.lookup x=some .local) L2.au3._auto_1):PSt X (.Assign [.Name x pos'] e pos) (tAsg te (mP i)):=⟨ps_set hN hi hx he.h hs hf⟩
theorem tw_if {c:Expr}{a b:List cW}{tc:TT}{t u:TS}(hc:PT X c tc)(ha:PSl X a t)(hb:PSl X b u):PSt X (.If c a b pos) (tIfS tc t u):=⟨gC hc ha.h hb.h⟩
theorem pH:PSl X [] tNext:=⟨cZ⟩
theorem exw_of {t:TS}{C:TS→Prop}(h:PSl X sts t)(k:C t):∃t,PSs X sts t∧C t:=⟨t,h.h,k⟩
end L2
namespace HN
open PySem L2 PyProof.Rows HT2
abbrev sNms:cW:=top 93
abbrev ABC:Str := "abcdefghijklmnopqrstuvwxyz"
abbrev qy (c:Nat):Str:=⟨#[c]⟩
def strOf (cs:List Nat):Str:=⟨cs.toArray⟩
theorem abc_at {r:Nat}(h:r<26):atI ABC.cps.toList (r:Int)=some (97+r):=by
 have:∀i:Fin 26,atI ABC.cps.toList ((i:Nat):Int)=some (97+(i:Nat)):=by trivial
 exact this ⟨r,h⟩
theorem abc_ix {r:Nat}(h:r<26):cg ABC (qy (97+r)) 0 ABC.length 1=[r]:=by
 have:∀i:Fin 26,cg ABC (qy (97+(i:Nat))) 0 ABC.length 1=[(i:Nat)]:=by trivial
 exact this ⟨r,h⟩
theorem join_one:∀cs:List Nat,dF ("" :Str) (cs.map qy)=strOf cs:=λcs=>by
 rw[show("" :Str)=c9 by trivial];have e:dF c9 (cs.map qy)=cV c9 (cs.map qy):=dW _ _;rw[e];have go:∀cs:List Nat,(cV c9 (cs.map qy)).cps.toList=cs:=by
  intro cs
  induction cs with
  | nil=>rfl
  | cons c r ih =>
   cases r with
   | nil=>rfl
   | cons d r =>
    show(qy c++c9++cV c9 ((d::r).map qy)).cps.toList=_;rw[cps_app,ih,cps_app];rfl
 exact mr (by rw[go cs];simp[strOf])
theorem strOf_cps (cs:List Nat):(strOf cs).cps.toList=cs:=by simp[strOf]
theorem strOf_nam {cs:List Nat}(h1:1≤cs.length)(h8:cs.length≤8)(h:∀c∈cs,97≤c∧c≤122):nam (strOf cs)=true:=by
 have hl:(strOf cs).length=cs.length:=by show(strOf cs).cps.size=_;simp[strOf]
 unfold nam;rw[hl,strOf_cps,qL h1,qL h8,iP,iP,gg];exact λc hc=>qL (h c hc)
def nmK (cs:List Nat)(m f k:Nat):Str:=strOf (cs.set m (97+(f+k) % 26))
def nms (cs:List Nat)(m f n:Nat):List Str:=(cS n).map (nmK cs m f)
theorem nms_nd {cs:List Nat}{f:Nat}(hm:m<cs.length)(hn:n≤26):(nms cs m f n).Nodup:=by
 apply fY.mpr λi j hi hj hij e=>?_
 have l:(nms cs m f n).length=n:=by unfold nms;rw[ae,jY]
 simp only[nms,fj,List.getElem_range] at e;have e1:=qO (λs:Str=>s.cps.toList[m]?) e;unfold nmK at e1;simp only[strOf_cps,jZ hm] at e1;injection e1 with e1
 lia
inductive spNms (vs:List V)(H:Hp)(Q:VK)(_:XK):Prop
 | mk (p:ao)(n:Int)(k:Nat)(_:vs=[.ref p,.int (k:Nat)])(_:H p=some (.lst [.int n]))(_:k≤10)(_:∀(L:ao) (ns:List Str) (H':Hp),Mv p H H'→H' L=some (.lst (ns.map V.str))→ns.length=k→ns.Nodup→(∀z∈ns,nam z=true)→Q (.ref L) H')
theorem Mv.free (a:Mv p H H1)(h:H1 q=none):H q=none:=by
 cases e:H q with
 | none=>rfl
 | some o =>
  by_cases c:q=p
  ·obtain⟨n,hn⟩:=a.2
   rw[c,hn] at h;cases h
  ·rw[a.1 q o c e] at h;cases h
theorem scNms:cI ["_law_pot_here","_law_lots","_law_letters","_law_base","_law_at","_law_first","_law_names_here","_law_k"] pzy (defScope sNms):=by trivial
theorem ok_nms (F:Fun K "_law_names" "_law_names" sNms f fd)(T:Nm mg)(T2:Nt mg)(G1:Fn K mg "_law_take" qf pze f1 fd1):‹0› 2 f fd pzy spNms:=by
 have F1:‹0› 1 f1 fd1 pze ng:=mz G1.F;specialize F.ok scNms;obtain ⟨p,n,lots,rfl,hp,hk,k⟩:=h;have hr1:ke 1 _:=hr;apply ⟨_,PSl.h (bz ⟨(psZ 2 scNms.nd dC)⟩
  (bz ⟨(ps_setC (iy:=3) (fr:=["_law_letters","_law_pot_here"]) (js:=[2,0]) scNms.nd rfl (.inl rfl) rfl (kJ rfl T2.range (ah (c7 gx aP (pc1 G1 F1 hr1 (ah (pv 0) (ah aP ay)))) ay)) ⇑0 rfl ⇑0 rfl (by exists sNms) ⇑0 rfl ⇑0 (fun _ _ _ _ _=>⟨(fK ix_str (pv 1) (pc1 G1 F1 hr1 (ah (pv 2) (ah aP ay))) (fun _ _=>rfl)),ki⟩))⟩
  (bz ⟨(psZ 4 scNms.nd (pc1 G1 F1 hr1 (ah (pv 0) (ah (b8 cF rfl T.len bu (ah (pv 3) ay)) ay))))⟩
  (bz ⟨(psZ 5 scNms.nd (jg bU PySem.F.slot_str_index PySem.F.type_str_index mt_indexT1 (pv 2) (ah (fK bX (pv 3) (pv 4) (fun _ _=>rfl)) ay)))⟩
  (bz ⟨(psZ 6 scNms.nd (kY ay))⟩
  (bz ⟨(je cz rfl (kJ rfl T2.range (ah (pv 1) ay)) (pgZ 7 scNms.nd) (PSl.h (bz ⟨(ps_asg (fK ix_str (pv 2) (c7 ow (c7 gx (pv 5) (pv 7)) aP) (fun _ _=>rfl)) (pg_sub (pv 3) (pv 4) oO))⟩
  (gy ⟨(iA (jg bJ cw cv ia (pv 6) (ah (jg bU dZ dY lU dC (ah (pv 3) ay)) ay)))⟩))))⟩
  (gy ⟨(cA (pv 6))⟩))))))),?_⟩
 apply⟨ρ,p,n,8,rfl,hp,↥0,↥0,λr H1 r0 r1 M1=>⟨ς,1+r,rfl,⋯,⋯,?_⟩⟩;apply om (n:=(1+r).toNat) (λi zs H4=>Mv p H H4∧∃cs:List Nat,zs=cs.map (λc=>V.str (qy c))∧cs.length=i∧∀c∈cs,97≤c∧c≤122) ⟨M1,[],rfl,rfl,λ_ h=>qK h ∅⟩ (λi zs H4 _ ⟨_,cs,e,hl,_⟩=>by rw[e,ae,hl];exact aD _) (small_le ⋯) (λi zs H4 hi ⟨M4,cs,e4,hl4,all4⟩=>?_) (λzs H4 ⟨M4,cs,e4,hl4,all4⟩ B hB=>?_)
 ·obtain⟨n4,hp4⟩:=M4.2
  apply jj ?_;apply⟨ρ,ρ,p,n4,26,rfl,hp4,↥0,↥0,λr H5 r0 r1 M5=>?_⟩;obtain⟨m,rfl⟩:=dm r0;apply⟨_,_,97+m,rfl,rfl,⇑0,abc_at ⋯,M4.trans M5,cs++[97+m],by rw[e4,ax];rfl,by rw[aq,hl4];rfl,λc hc=>?_⟩
  rcases aL.mp hc with hc | hc
  ·exact all4 c hc
  ·rw[aB.mp hc];lia
 have M5:Mv p H (upd H4 B (.lst zs)):=M4.new hB;have hB5:(upd H4 B (.lst zs)) B=some (.lst (cs.map λc=>V.str (qy c))):=by rw[aR,e4]
 have nBp:B≠p:=M4.ne hB;have nB0:H B=none:=by
  cases e:H B with
  | none=>rfl
  | some o=>rw[M4.1 B o nBp e] at hB;cases hB
 have nB:H B=none∧B≠p:=⟨nB0,nBp⟩;generalize upd H4 B (.lst zs)=H5 at M5 hB5 ⊢;obtain⟨n5,hp5⟩:=M5.2;have l1:1≤cs.length:=by lia
 have l8:cs.length≤8:=by lia
 apply⟨ρ,ρ,B,ρ,.inl (SqL.of hB5),p,n5,ρ,hp5,(by rw[ae];lia),(by rw[ae];lia),λr2 H6 a0 a1 M6=>?_⟩;obtain⟨m,rfl⟩:=dm a0;rw[ae] at a1;have hm:m<cs.length:=by lia
 have hB6:=M6.1 _ _ nB.2 hB5;obtain⟨c,hc⟩:∃c,cs[m]? =some c:=⟨_,gE hm⟩;obtain⟨c0,c1⟩:=all4 c (aC hc);obtain⟨g,rfl⟩:∃g,c=97+g:=⟨c - 97,⋯⟩;apply⟨ρ,rfl,ρ,ρ,B,τ,SqL.of hB6,bp (j:=m) (by rw[aE,hc];rfl),_,_,g,[],rfl,rfl,abc_ix ⋯,?_⟩;apply⟨(by show 0≤aA;decide),λL hL=>?_⟩;have M7:Mv p H (upd H6 L (.lst [])):=(M5.trans M6).new hL;have hL7:(upd H6 L (.lst [])) L=some (.lst []):=aR;have BL:B≠L:=aV hB6 hL;have hB7:(upd H6 L (.lst [])) B=some (.lst (cs.map λc=>V.str (qy c))):=by rw[bo BL];exact hB6
 have Lp:L≠p:=(M5.trans M6).ne hL;have nL:H L=none:=by
  cases e:H L with
  | none=>rfl
  | some o=>rw[(M5.trans M6).1 L o Lp e] at hL;cases hL
 generalize upd H6 L (.lst [])=H7 at M7 hL7 hB7 ⊢;apply⟨ρ,(lots:Int),rfl,⋯,⋯,?_⟩;apply mG (n:=((lots:Nat):Int).toNat) (λi σ H2=>(∀c o,c≠B→c≠L→H7 c=some o→H2 c=some o)∧(∃y,H2 B=some (.lst ((cs.set m y).map λc=>V.str (qy c))))∧H2 L=some (.lst ((nms cs m g i).map V.str))∧∃vj,σ=[some (.ref p),some (.int (lots:Nat)),some (.str ABC),some (.ref B),some (.int (m:Nat)),some (.int (g:Nat)),some (.ref L),vj])
  ⟨λc o _ _ h=>h,⟨97+g,by rw[hB7,←(ai.mp hc).2,List.set_getElem_self]⟩,hL7,none,rfl⟩ ?_ ?_
 ·rintro i σ H2 hi ⟨k2,⟨y,hB2⟩,hL2,vj,rfl⟩
  have hr26:(g+i) % 26<26:=Nat.mod_lt _ ↥0;have ei:(((g:Nat):Int)+(0+(i:Nat))) % 26=(((g+i) % 26:Nat):Int):=by lia
  apply⟨ρ,ρ,ρ,ς,ς,(by show(0:Int)<26;decide),_,_,97+(g+i) % 26,rfl,rfl,⇑0,?_,?_⟩
  ·show atI ABC.cps.toList ((((g:Nat):Int)+(0+(i:Nat))) % 26)=_
   rw[ei];exact abc_at hr26
  apply⟨ρ,ρ,B,_,_,m,rfl,rfl,hB2,?_,?_⟩
  ·rw[ae,iI]
   unfold ixN;rw[qJ ⋯,qJ ⋯];rfl
  have k3:∀c o,c≠B→H2 c=some o→(upd H2 B (.lst (((cs.set m y).map λc=>V.str (qy c)).set m (.str (qy (97+(g+i) % 26)))))) c=some o:=λc o hc e=>by rw[bo hc];exact e
  have hB3:(upd H2 B (.lst (((cs.set m y).map λc=>V.str (qy c)).set m (.str (qy (97+(g+i) % 26)))))) B=some (.lst (((cs.set m (97+(g+i) % 26)).map qy).map V.str)):=by
   rw[aR,←List.map_set,List.set_set,b9];rfl
  generalize upd H2 B (.lst (((cs.set m y).map λc=>V.str (qy c)).set m (.str (qy (97+(g+i) % 26)))))=H3 at k3 hB3 ⊢;have hL3:=k3 _ _ (cY BL) hL2;have big:(100000:Nat)≤aA:=by decide
  apply⟨ρ,.inl ⟨rfl,_,SqL.of hL3⟩,rfl,ρ,_,B,ρ,rfl,SqL.of hB3,⇑0,?_,?_⟩
  ·rw[b9,ae,iI]
   have:((cs.set m (97+(g+i) % 26)).map ((λx:Str=>x.length) ∘ qy)).sum≤(cs.set m (97+(g+i) % 26)).length * 1:=sum_le _ 1 _ λx _=>aD _
   rw[iI] at this;lia
  rw[join_one];apply⟨L,ς,hL3,(by unfold nms;rw[ae,ae,jY];lia),?_⟩;apply⟨λc o h1 h2 e=>by rw[bo h2];exact k3 _ _ h1 (k2 _ _ h1 h2 e),⟨97+(g+i) % 26,by rw[bo BL,hB3,b9];rfl⟩,?_,ρ⟩;rw[aR];unfold nms;rw[List.range_succ,ax,ax];rfl
 ·rintro σ H2 ⟨k2,⟨y,hB2⟩,hL2,vj,rfl⟩
  have el:((lots:Nat):Int).toNat=lots:=by lia
  rw[el] at hL2;obtain⟨n7,hp7⟩:=M7.2;apply⟨ρ,k L _ H2 ⟨λc o hcp e=>?_,n7,k2 _ _ (cY nB.2) (cY Lp) hp7⟩ hL2 (by unfold nms;rw[ae,jY]) (nms_nd hm ⋯) λz hz=>?_⟩
  ·exact k2 c o (λz=>by rw[z,nB.1] at e;cases e) (λz=>by rw[z,nL] at e;cases e) (M7.1 c o hcp e)
  ·unfold nms at hz
   obtain⟨i,_,rfl⟩:=aJ.mp hz;apply strOf_nam (by rw[iI];exact l1) (by rw[iI];exact l8) λc hc=>?_
   rcases List.mem_or_eq_of_mem_set hc with h | h
   ·exact all4 c h
   ·subst h
    have:(g+i) % 26<26:=Nat.mod_lt _ ↥0;lia
abbrev sLr:cW:=top 94
abbrev sLns:cW:=top 95
theorem toKp (K:aj){ex:Expr}{r:V→List V→Hp→VK→Prop}{Ty:String}(h:PE X ex (tBM X.K Ty r to t))(hK:autoParam (X.K=K) L2.au0._auto_1):PE X ex (tBM K Ty r to t):=by subst hK;exact h
theorem pop_prm {α:Type}:∀(l:List α) (i:Nat) (x:α),l[i]? =some x→(x::l.eraseIdx i).Perm l
 | [],i,x,h=>by cases h
 | a::l,0,x,h=>by
  cases h;exact List.Perm.refl _
 | a::l,i+1,x,h=>by
  rw[bq] at h;rw[List.eraseIdx_cons_succ];exact(List.Perm.swap a x _).trans ((pop_prm l i x h).cons a)
theorem iY {ys:List V}(h:xs.length≠ys.length):HO.lst xs≠HO.lst ys:=λz=>h (by injection z with z;rw[z])
theorem intr_snoc:∀{ss:List Str} {rs:List Int} {s:Str} {r:Int},ss.length=rs.length+1→jL ss rs++[.int r]++[.str s]=jL (ss++[s]) (rs++[r])
 | [],_,_,_,h=>by simp at h
 | [_],[],_,_,_=>rfl
 | _::_::_,[],_,_,h=>by simp at h
 | a::ss,b::rs,s,r,h=>by
  have hl:ss.length=rs.length+1:=by simpa using h
  show V.str a:: .int b::(jL ss rs++[.int r]++[.str s])=_;rw[intr_snoc hl];rfl
theorem mn.mv {n:Int}{rows:List (List V)}(M:Mv p H H')(hp:H p=some (.lst [.int n]))(h2:∀ r∈rows,2≤r.length)(h:mn H xs rows):mn H' xs rows:=⟨h.len,fun i r hr=>by
 obtain⟨a,h1,ha⟩:=h.get i r hr;apply⟨a,h1,M.1 _ _ (eF ha hp λz=>?_) ha⟩;have:=h2 r (aC hr);injection z with z
 rw [z] at this;simp at this⟩
theorem mn.same {rows:List (List V)}(S:cB H H')(h:mn H xs rows):mn H' xs rows:=⟨h.len,fun i r hr=>by
 obtain ⟨a,h1,ha⟩:=h.get i r hr;exact ⟨a,h1,S _ _ ha⟩⟩
theorem mn.nep {R:ao}{n:Int}{rows:List (List V)}(hp:H p=some (.lst [.int n]))(hR:H R=some (.lst xs))(h:mn H xs rows):R≠p:=λz=>by
 rw[z,hp] at hR;injection hR with hR
 injection hR with hR
 have e:=h.len;rw[←hR] at e;obtain⟨a,h1,_⟩:=h.get 0 _ (gE (show 0<rows.length by rw[←e];exact Nat.one_pos));rw[←hR] at h1;cases h1
theorem rowV_two (h:r.lnOk):2≤r.rowV.length:=by
 cases r with
 | line n ss rs=>show 2≤(jL ss rs).length+1+1;lia
 | beat b=>exact qK h id
 | oth k ns is=>exact qK h id
theorem lnOk_E (h:r.lnOk):r.okE:=by
 cases r with
 | line n ss rs =>
  obtain⟨_,_,h3,h4,h5,h6,_⟩:=h;exact⟨h6,h4,⋯,h3⟩
 | beat b=>exact qK h id
 | oth k ns is=>exact qK h id
inductive spLr (vs:List V)(H:Hp)(Q:VK)(_:XK):Prop
 | mk (p:ao)(n:Int)(nm:Str)(S R:ao)(ss:List Str)(xs:List V)(prs:List PR)(_:vs=[.ref p,.str nm,.ref S,.ref R])(_:H p=some (.lst [.int n]))(_:H S=some (.lst (ss.map V.str)))(_:(5≤ss.length∧ss.length≤30))(_:ss.Nodup)(_:(∀z∈ss,nam z=true))(_:nam nm=true)(_:H R=some (.lst xs))(_:mn H xs (prs.map PR.rowV))(_:(∀r∈prs,r.lnOk))(_:prs.length≤30)(_:∀L tt rs H',Mv p H H'→H L=none→H' L=some (.lst (PR.line nm tt rs).rowV)→(PR.line nm tt rs).lnOk→Q (.ref L) H')
structure LnsI (nn:List Str)(i:Nat)(prs:List PR):Prop where
 rows:∀b,ib b prs
 ok:∀r∈prs,r.lnOk
 hap:jw (lsC prs)≤16
 few:prs.length≤i∧i≤30
 ne:1≤i→prs≠[]
 nms:∀x∈lsC prs,∃j,j<i∧nn[j]? =some x.n
structure qd (prs:List PR):Prop where
 rows:∀b,ib b prs
 ok:∀r∈prs,r.lnOk
 hap:jw (lsC prs)≤16
 few:prs.length≤30
 ne:prs≠[]
theorem LnsI.nil (nn:List Str):LnsI nn 0 []:=⟨(λb i r h=>by cases h),(λr h=>by cases h),↥0,⟨aD _,↥0⟩,(λh=>qK h ↥0),(λx h=>by cases h)⟩
theorem ib.snoc (h:ib b rows)(o:nP b rows r):ib b (rows++[r]):=λi q hq=>by
 by_cases c:i<rows.length
 ·rw[bI c] at hq
  rw[iB ⋯];exact h i q hq
 ·have e:i=rows.length:=by
   have:=(ai.mp hq).1;rw[aq] at this;simp at this;lia
  subst e;rw[bh (aD _),gp] at hq;cases hq;rw[List.take_left' rfl];exact o
theorem LnsI.more {n:Str}{tt:List Str}(I:LnsI nn i prs)(nd:nn.Nodup)(hi:i<30)(hn:nn[i]? =some n)(lok:(PR.line n tt rs).lnOk)(hh:jw (lsC prs)+2 * (rs.length:Int)≤16):LnsI nn (i+1) (prs++[.line n tt rs]):=by
 have hf:=I.few;have eC:lsC (prs++[.line n tt rs])=lsC prs++[⟨n,tt,rs,[],jw (lsC prs)⟩]:=iD _ _;apply⟨λb=>(I.rows b).snoc ⟨λm=>?_,lok⟩,λr hr=>?_,by rw[eC,lJ];exact hh,⟨by rw[aq];simp;lia,⋯⟩,(λ_ z=>by simp at z),λx hx=>?_⟩
 ·obtain⟨x,hx,e⟩:=aJ.mp m
  obtain⟨j,hj,e2⟩:=I.nms x hx;rw[e] at e2;have:=j6 nd hn e2;lia
 ·rcases aL.mp hr with hr | hr
  ·exact I.ok r hr
  ·rw[aB.mp hr];exact lok
 ·rw[eC] at hx
  rcases aL.mp hx with hx | hx
  ·obtain⟨j,hj,e⟩:=I.nms x hx
   exact⟨j,⋯,e⟩
  ·rw[aB.mp hx]
   exact⟨i,⋯,hn⟩
theorem LnsI.up (I:LnsI nn i prs)(hi:i<30)(h1:1≤i):LnsI nn (i+1) prs:=⟨I.rows,I.ok,I.hap,⟨by have:=I.few;lia,⋯⟩,fun _=>I.ne h1,fun x hx=>by
 obtain ⟨j,hj,e⟩:=I.nms x hx;exact ⟨j,⋯,e⟩⟩
theorem LnsI.done (I:LnsI nn i prs)(h1:1≤i):qd prs:=⟨I.rows,I.ok,I.hap,by have:=I.few;lia,I.ne h1⟩
inductive spLns (K:aj)(vs:List V)(H:Hp)(Q:VK)(_:XK):Prop
 | mk (a N S:ao)(ns:List Int)(nn ss:List Str)(most:Int)(_:vs=[.ref a,.ref N,.ref S,.int most])(_:SqL K H a (ns.map V.int))(_:H N=some (.lst (nn.map V.str)))(_:nn.Nodup)(_:(∀z∈nn,nam z=true))(_:H S=some (.lst (ss.map V.str)))(_:(5≤ss.length∧ss.length≤30))(_:ss.Nodup)(_:(∀z∈ss,nam z=true))(_:1≤most)(_:most≤nn.length)(_:nn.length≤30)(_:∀L xs prs H',cB H H'→H L=none→H' L=some (.lst xs)→mn H' xs (prs.map PR.rowV)→qd prs→Q (.ref L) H')
theorem SqL.kept' (S:cB H H')(h:SqL K H a xs):SqL K H' a xs:=by
 rcases h with (h | ⟨o,h⟩) | h
 ·exact .inl (.inl (S _ _ h))
 ·exact .inl (.inr ⟨o,S _ _ h⟩)
 ·exact .inr h
theorem mn.snoc {rows:List (List V)}{B:ao}{r:List V}(h:mn H xs rows)(k:∀ a,∀ q∈rows,H a=some (.lst q)→H' a=some (.lst q))(hB:H' B=some (.lst r)):mn H' (xs++[.ref B]) (rows++[r]):=⟨by rw [aq,aq,h.len];rfl,fun i q hq=>by
 by_cases c:i<rows.length
 ·rw[bI c] at hq
  obtain⟨a,h1,ha⟩:=h.get i q hq;exact⟨a,by rw[bI (by rw[h.len];exact c)];exact h1,k a q (aC hq) ha⟩
 ·have e:i=rows.length:=by
   have:=(ai.mp hq).1;rw[aq] at this;simp at this;lia
  subst e;rw [bh (aD _),gp] at hq;cases hq;exact ⟨B,by rw [bh (by rw [h.len];exact aD _),h.len,gp];rfl,hB⟩⟩
theorem rowV_str (r:PR):∃(z:Str) (t:List V),r.rowV= .str z::t:=by cases r <;> exact⟨_,ρ⟩
theorem mn.neL (h:mn H xs (prs.map PR.rowV))(hL:H L=some (.lst xs)){q:List V}(hq:q∈prs.map PR.rowV)(ha:H a=some (.lst q)):a≠L:=λz=>by
 subst z;rw[hL] at ha;injection ha with ha
 injection ha with ha
 subst ha;obtain⟨r,hr,e⟩:=aJ.mp hq;obtain⟨z,t,e2⟩:=rowV_str r;rw[e2] at e;have l:=h.len;obtain⟨b,h1,_⟩:=h.get 0 _ (gE (show 0<(prs.map PR.rowV).length by rw[←l,←e];simp));rw[←e] at h1;cases h1
theorem ne_of_none' {b:ao}(h:H a=none)(h':H b=some o):a≠b:=λz=>by rw[z,h'] at h;cases h
def PathOk (tt:List Str):Prop:=(∀z∈tt,nam z=true)∧tt.Nodup∧2≤tt.length∧tt.length≤5
theorem scLr:cI ["_law_pot_here","_law_name","_law_stops","_law_rows","_law_way","_law_here","_law_path","_law_row","_law_stop"] pzz (defScope sLr):=by trivial
theorem ok_lr (F:Fun K "_law_line_row" "_law_line_row" sLr f fd)(T:Nm mg)(T2:Nt mg)(G1:Fn K mg "_law_take" qf pze f1 fd1):‹0› 2 f fd pzz spLr:=by
 have F1:‹0› 1 f1 fd1 pze ng:=mz G1.F;specialize F.ok scLr;obtain ⟨p,n,nm,S,R,ss,xs,prs,rfl,hp,hS,⟨l5,l30⟩,nd,nam_,nmN,hR,rw_,okl,few,k⟩:=h;have hr1:ke 1 _:=hr;apply ⟨_,PSl.h (bz ⟨(psZ 4 scLr.nd (pc1 G1 F1 hr1 (ah (pv 0) (ah aP ay))))⟩
  (bz ⟨(psZ 5 scLr.nd (gJ oE rfl T2.tlist boot_list (ah (pv 2) ay)))⟩
  (bz ⟨(ps_setC (iy:=6) (fr:=["_law_here","_law_pot_here"]) (js:=[5,0]) scLr.nd rfl (.inl rfl) rfl (kJ rfl T2.range (ah (c7 gx aP (pc1 G1 F1 hr1 (ah (pv 0) (ah aP ay)))) ay)) ⇑0 rfl ⇑0 rfl (by exists sLr) ⇑0 rfl ⇑0 (fun _ _ _ _ _=>⟨(toKp K (jg bJ PySem.F.slot_list_pop PySem.F.type_list_pop mt_popAt (pv 1) (ah (pc1 G1 F1 hr1 (ah (pv 2) (ah (b8 (lenK K) rfl T.len bu (ah (pv 1) ay)) ay))) ay))),ki⟩))⟩
  (bz ⟨(pq (gC (PW.pt (nj (cf op_lt (pv 4) aP (cN _)) (lQ (cf (op_neL0 hr.units0) (pv 3) (ij ay) (cN _))))) (PSl.h (bz ⟨(psZ 6 scLr.nd (pe_twoL (a:=2) (fK bX (pv 3) (pc1 G1 F1 hr1 (ah (pv 0) (ah (b8 cF rfl T.len bu (ah (pv 3) ay)) ay))) (fun _ _=>rfl))))⟩
  (gy ⟨(psZ 6 scLr.nd (PEs.h (qe bX (mE (cO ⟨pv 6⟩ (cO ⟨pe_backL (pv 6)⟩ l7))) ⟨pv 4⟩ (fun _ _=>rfl))))⟩))) cZ))⟩
  (bz ⟨(psZ 7 scLr.nd (PEs.h (k_lstF (cO jU (cO ⟨pv 1⟩ (cO (qe bX ⟨pv 6⟩ jF (fun _ _=>rfl)) l7))))))⟩
  (bz ⟨(je cz rfl (jo (fq sl_list (pv 6) (fZ aP) hZ)) (pgZ 8 scLr.nd) (PSl.h (bz ⟨(iA (jg bJ cw cv ia (pv 7) (ah (pc1 G1 F1 hr1 (ah (pv 0) (ah (PEs.h (qe bX (mE (cO jF (cO jF (cO jF (cO (qD op_pow jF jF) l7))))) ⟨pc1 G1 F1 hr1 (ah (pv 0) (ah aP ay))⟩ (fun _ _=>rfl))) ay))) ay)))⟩
  (gy ⟨(iA (jg bJ cw cv ia (pv 7) (ah (pv 8) ay)))⟩))))⟩
  (gy ⟨(cA (pv 7))⟩))))))),?_⟩
 have nSp:S≠p:=eF hS hp λz=>by
  injection z with z
  have:=qO gu z;rw[ae] at this;simp at this;lia
 have nRp:R≠p:=rw_.nep hp hR;have two:∀r∈prs.map PR.rowV,2≤r.length:=λr hr=>by
  obtain⟨q,hq,rfl⟩:=aJ.mp hr;exact rowV_two (okl q hq)
 apply⟨ρ,p,n,4,rfl,hp,↥0,↥0,λway H1 w0 w1 M1=>?_⟩;have hS1:=M1.1 _ _ nSp hS;obtain⟨n1,hp1⟩:=M1.2;apply⟨ρ,S,ρ,.inl (SqL.of hS1),λl hl=>?_⟩;have M2:Mv p H (upd H1 l (.lst (ss.map V.str))):=M1.new hl;have h2l:(upd H1 l (.lst (ss.map V.str))) l=some (.lst (ss.map V.str)):=aR;have nlp:l≠p:=M1.ne hl;have fl:H l=none:=M1.free hl;generalize upd H1 l (.lst (ss.map V.str))=H2 at M2 h2l ⊢;obtain⟨n2,hp2⟩:=M2.2;apply⟨ρ,p,n2,4,rfl,hp2,↥0,↥0,λr H3 r0 r1 M3=>⟨ς,2+r,rfl,⋯,⋯,?_⟩⟩;have M13:=M2.trans M3;apply om (n:=(2+r).toNat) (λi zs HA=>(∀c o,c≠p→H c=some o→HA c=some o)∧(∃n,HA p=some (.lst [.int n]))∧∃ps rest:List Str,zs=ps.map V.str∧ps.length=i∧HA l=some (.lst (rest.map V.str))∧(ps++rest).Perm ss)
  ⟨M13.1,M13.2,[],ss,rfl,rfl,M3.at h2l nlp,List.Perm.refl _⟩ (λi zs HA _ q=>by obtain⟨_,_,ps,_,e,hl,_⟩:=q;rw[e,ae,hl];exact aD _) (small_le ⋯) (λi zs HA hi q=>?_) (λzs HA q D hD=>?_)
 ·obtain⟨SA,⟨nA,hpA⟩,ps,rest,eA,lA,hLA,pm⟩:=q
  have lr:ps.length+rest.length=ss.length:=by rw[←aq];exact pm.length_eq
  apply jj ?_;have ll:(rest.map V.str).length=rest.length:=ae _;apply⟨ρ,.inl ⟨rfl,_,SqL.of hLA⟩,ρ,ρ,l,ρ,.inl (SqL.of hLA),p,nA,ρ,hpA,(by show 0<((rest.map V.str).length:Int);lia),(by show((rest.map V.str).length:Int)<10 ^ 61;lia),λr4 HB a4 c4 MB=>?_⟩;have c4:r4<((rest.map V.str).length:Int):=c4;obtain⟨j,rfl⟩:=dm a4;obtain⟨y,hy⟩:∃y,rest[j]? =some y:=⟨_,gE ⋯⟩;have hLB:=MB.at hLA nlp;apply⟨l,rest.map V.str,_,j,V.str y,rfl,rfl,hLB,⋯,⋯,seqIndex_of a4 c4,by rw[aE,hy];rfl,?_⟩;obtain⟨nB,hpB⟩:=MB.2;apply⟨λc o hc e=>by rw[bo (aV e fl)];exact MB.1 _ _ hc (SA c o hc e),⟨nB,by rw[bo (cY nlp)];exact hpB⟩,ps++[y],rest.eraseIdx j,by rw[eA,ax];rfl,by rw[aq,lA];rfl,?_,?_⟩
  ·rw[aR,List.eraseIdx_eq_take_drop_succ,List.eraseIdx_eq_take_drop_succ,ax,kC,fH]
  ·rw[hV]
   exact((pop_prm rest j y hy).append_left ps).trans pm
 obtain⟨SA,⟨nA,hpA⟩,ps,rest,rfl,lA,hLA,pm⟩:=q;have MA:Mv p H HA:=⟨SA,nA,hpA⟩;have M4:Mv p H (upd HA D (.lst (ps.map V.str))):=MA.new hD;have h4:(upd HA D (.lst (ps.map V.str))) D=some (.lst (ps.map V.str)):=aR;have nd':=pm.nodup_iff.mpr nd;have pok:PathOk ps:=⟨λz hz=>nam_ z (pm.subset (cE _ hz)),(List.nodup_append.mp nd').1,⋯,⋯⟩;generalize upd HA D (.lst (ps.map V.str))=H4 at M4 h4 ⊢;apply⟨λσ' H'=>∃(Pp:ao) (tt:List Str),Mv p H H'∧H' Pp=some (.lst (tt.map V.str))∧PathOk tt∧σ'=[some (.ref p),some (.str nm),some (.ref S),some (.ref R),some (.int way),some (.ref l),some (.ref Pp),none,none],λσ' H5 q=>?_,?_⟩
 rotate_left
 ·have nx:∀H',Mv p H H'→H' D=some (.lst (ps.map V.str))→∃(Pp:ao) (tt:List Str),Mv p H H'∧H' Pp=some (.lst (tt.map V.str))∧PathOk tt∧[some (V.ref p),some (V.str nm),some (V.ref S),some (V.ref R),some (V.int way),some (V.ref l),some (V.ref D),none,none]=[some (.ref p),some (.str nm),some (.ref S),some (.ref R),some (.int way),some (.ref l),some (.ref Pp),none,none]:=λH' M h=>⟨D,ps,M,h,pok,rfl⟩
  apply⟨ρ,ς,ρ,jC (λc1=>?_) (λc1=>nx _ M4 h4)⟩;have c1:way<2:=qN c1;apply⟨ρ,(by show 0≤aA;decide),λEm H5 S5 e5=>?_⟩;have M5:=M4.then S5;have hR5:=M5.1 _ _ nRp hR;apply⟨R,Em,xs,rfl,rfl,SqL.of hR5,SqL.of e5,ρ,jC (λc2=>?_) (λc2=>nx _ M5 (S5 _ _ h4))⟩;have ne:0<xs.length:=by
   cases xs with
   | nil=>cases c2
   | cons _ _=>simp
  obtain⟨n5,hp5⟩:=M5.2;have lx:xs.length=prs.length:=by rw[rw_.len,ae]
  apply⟨ρ,ρ,ρ,R,ρ,.inl (SqL.of hR5),p,n5,ρ,hp5,(by show(0:Int)<(xs.length:Int);lia),(by show(xs.length:Int)<10 ^ 61;lia),λr6 H6 a6 c6 M6=>?_⟩;obtain⟨j,rfl⟩:=dm a6;have c6:(j:Int)<(xs.length:Int):=c6;have hj:j<prs.length:=by lia
  have M46:=M5.trans M6;have rw6:=rw_.mv M46 hp two;obtain⟨a,hxa,hra⟩:=rw6.get j prs[j].rowV (by rw[aE,gE hj];rfl);have okj:=okl _ (c8 hj);generalize prs[j]=q at hra okj;cases q with
  | beat b=>exact qK okj id
  | oth kk ns is=>exact qK okj id
  | line m tt rs =>
   obtain⟨_,o2,o3,o4,o5,o6,_⟩:=okj;have hra:H6 a=some (.lst (.str "line" :: .str m::jL tt rs)):=hra;apply⟨R,τ,SqL.of (M46.1 _ _ nRp hR),bp hxa,a,ρ,SqL.of hra,(by simp only[az];lia),λB H7 S7 e7=>?_⟩;have e7:H7 B=some (.lst (tt.map V.str)):=by rw[e7];show some (HO.lst (evs (jL tt rs)))=_;rw[oW o6]
   apply⟨ρ,ρ,B,ρ,e7,λC H8 S8 e8=>?_⟩;apply⟨szZ2,λW H9 S9 e9=>?_⟩;have M9:Mv p H H9:=M46.then (S7.trans (S8.trans S9));have ok1:PathOk tt:=⟨o2,o3,o4,o5⟩;have ok2:PathOk tt.reverse:=⟨λz hz=>o2 z (List.mem_reverse.mp hz),(List.reverse_perm tt).nodup_iff.mpr o3,by rw[List.length_reverse];exact o4,by rw[List.length_reverse];exact o5⟩;obtain rfl | rfl:way=0∨way=1:=by lia
   ·exact⟨ρ,W,τ,SqL.of e9,rfl,B,tt,M9,(S8.trans S9) _ _ e7,ok1,rfl⟩
   ·exact⟨ρ,W,τ,SqL.of e9,rfl,C,tt.reverse,M9,by rw[S9 _ _ e8,List.map_reverse],ok2,rfl⟩
 obtain⟨Pp,tt,M5,h5,⟨o2,o3,o4,o5⟩,rfl⟩:=q;obtain⟨n5,hp5⟩:=M5.2;have nPp:Pp≠p:=eF h5 hp5 λz=>by
  injection z with z
  have:=qO gu z;rw[ae] at this;simp at this;lia
 obtain⟨s0,hs0⟩:∃s0,tt[0]? =some s0:=⟨_,gE ⋯⟩;apply⟨ρ,ρ,Pp,τ,SqL.of h5,bp (j:=0) (by rw[aE,hs0];rfl),(by show 3≤aA;decide),λL hL=>?_⟩;have M6:Mv p H (upd H5 L (.lst [.str "line",.str nm,.str s0])):=M5.new hL;have h6:(upd H5 L (.lst [.str "line",.str nm,.str s0])) L=some (.lst (.str "line" :: .str nm::jL (tt.take 1) [])):=by
  rw[aR,show tt.take 1=[s0] by rw[bW,hs0];rfl];rfl
 have fL:H L=none:=M5.free hL;have nLp:L≠p:=M5.ne hL;have nPL:Pp≠L:=aV h5 hL;have hP6:(upd H5 L (.lst [.str "line",.str nm,.str s0])) Pp=some (.lst (tt.map V.str)):=by rw[bo nPL];exact h5
 generalize upd H5 L (.lst [.str "line",.str nm,.str s0])=H6 at M6 h6 hP6 ⊢;apply⟨ρ,ρ,Pp,ρ,SqL.of hP6,λC hC=>?_⟩;rw[cutF (i:=1) (n:=1) rfl];have M7:Mv p H (upd H6 C (.lst ((tt.map V.str).drop 1))):=M6.new hC;have e7:(upd H6 C (.lst ((tt.map V.str).drop 1))) C=some (.lst ((tt.map V.str).drop 1)):=aR;have nCL:L≠C:=aV h6 hC;have nCp:C≠p:=M6.ne hC;have h7:(upd H6 C (.lst ((tt.map V.str).drop 1))) L=some (.lst (.str "line" :: .str nm::jL (tt.take 1) [])):=by rw[bo nCL];exact h6
 generalize upd H6 C (.lst ((tt.map V.str).drop 1))=H7 at M7 e7 h7 ⊢;apply⟨C,rfl,⟨_,SqL.of e7⟩,?_⟩;have lC:((tt.map V.str).drop 1).length+1=tt.length:=by rw[bK,ae];lia
 have big:(1000:Nat)≤aA:=by decide
 apply lX (K:=K) (a:=C) (xs:=(tt.map V.str).drop 1) (λi σ HB=>Mv p H HB∧HB C=some (.lst ((tt.map V.str).drop 1))∧∃rs:List Int,rs.length=i∧(∀r∈rs,0≤r∧r<10 ^ 12)∧HB L=some (.lst (.str "line" :: .str nm::jL (tt.take (i+1)) rs))∧∃v8,σ=[some (.ref p),some (.str nm),some (.ref S),some (.ref R),some (.int way),some (.ref l),some (.ref Pp),some (.ref L),v8])
  ⟨M7,e7,[],rfl,(λr hr=>by cases hr),h7,none,rfl⟩ (λi σ HB _ q=>SqL.of q.2.1) ?_ ?_
 ·rintro i x σ HB hx ⟨MB,hCB,rs,lrs,brs,hLB,v8,rfl⟩
  have hi:i+1<tt.length:=by have:=(ai.mp hx).1;lia
  rw[fe,aE,Nat.add_comm,gE hi] at hx;have hx:some (V.str tt[i+1])=some x:=hx;cases hx;obtain⟨nB,hpB⟩:=MB.2;have ltk:(tt.take (i+1)).length=rs.length+1:=by rw[aZ];lia
  have lint:(jL (tt.take (i+1)) rs).length≤20:=by rw[ku ltk];lia
  apply⟨ρ,.inl ⟨rfl,_,SqL.of hLB⟩,ρ,ς,⟨↥0,↥0,↥0⟩,szZ4,λB HC SC eC=>?_⟩;have MC:=MB.then SC;obtain⟨nC,hpC⟩:=MC.2;apply⟨ρ,p,nC,4,rfl,hpC,↥0,↥0,λr HD a0 a1 MD=>?_⟩;have hBD:=MD.1 _ _ (eF eC hpC (iY ∅)) eC;obtain⟨v,ev,mv⟩:=nN (xs:=[V.int 4,.int 60,.int 60,.int (10 ^ 12)]) a0 (by show r<4;lia);obtain⟨Mx,rfl,Mx1,Mx2⟩:∃M:Int,v= .int M∧1≤M∧M≤10 ^ 12:=by
   simp only[aw,aO,or_false] at mv
   rcases mv with rfl | rfl | rfl | rfl
   ·exact⟨ρ,↥0,↥0⟩
   ·exact⟨ρ,↥0,↥0⟩
   ·exact⟨ρ,↥0,↥0⟩
   ·exact⟨ρ,↥0,↥0⟩
  have MD2:=MC.trans MD;obtain⟨nD,hpD⟩:=MD2.2;apply⟨B,τ,SqL.of hBD,ev,p,nD,Mx,rfl,hpD,⋯,⋯,λr2 HE b0 b1 ME=>?_⟩;have kLE:HE L=some (.lst (.str "line" :: .str nm::jL (tt.take (i+1)) rs)):=ME.1 _ _ nLp (MD.1 _ _ nLp (SC _ _ hLB));have kCE:HE C=some (.lst ((tt.map V.str).drop 1)):=ME.1 _ _ nCp (MD.1 _ _ nCp (SC _ _ hCB));have MHE:=MD2.trans ME;apply⟨L,ς,kLE,(by simp only[az];lia),?_⟩;apply⟨ρ,.inl ⟨rfl,_,SqL.of aR⟩,ρ,L,ς,aR,(by simp only[az,aq,jJ];lia),?_⟩;obtain⟨nE,hpE⟩:=MHE.2;apply⟨⟨λc o hc e=>?_,nE,?_⟩,?_,rs++[r2],by rw[aq,lrs];rfl,λr hr=>?_,?_,ρ⟩
  ·have:=aV e fL
   rw[bo this,bo this];exact MHE.1 c o hc e
  ·rw[bo (cY nLp),bo (cY nLp)];exact hpE
  ·rw[bo (cY nCL),bo (cY nCL)];exact kCE
  ·rcases aL.mp hr with hr | hr
   ·exact brs r hr
   ·rw[aB.mp hr];lia
  ·rw[aR,show tt.take (i+1+1)=tt.take (i+1)++[tt[i+1]] by rw[bW,gE hi];rfl,←intr_snoc ltk]
   rfl
 ·rintro σ HB ⟨MB,hCB,rs,lrs,brs,hLB,v8,rfl⟩
  rw[show((tt.map V.str).drop 1).length+1=tt.length from lC,cD] at hLB;exact⟨ρ,k L tt rs HB MB fL hLB ⟨nmN,o2,o3,o4,o5,⋯,λr hr=>⟨(brs r hr).1,by have:=(brs r hr).2;lia⟩⟩⟩
theorem scLns:cI ["_law_script","_law_names_here","_law_stops","_law_most","_law_rows","_law_many","_law_k","_law_row"] pzA (defScope sLns):=by trivial
theorem ok_lns {fT fP fL:ao}{dT dP dL:aU}(F:Fun K "_law_lines" "_law_lines" sLns f fd)(T:Nm mg)(T2:Nt mg)(GT:Fn K mg "_law_take" qf pze fT dT)
  (GP:Fn K mg "_law_pot" sPotT pzf fP dP) (FP:‹0› 2 fP dP pzf (spPotT K))
  (GL:Fn K mg "_law_line_row" sLr pzz fL dL) (FL:‹0› 2 fL dL pzz spLr):‹0› 3 f fd pzA (spLns K):=by
 have FT:‹0› 1 fT dT pze ng:=mz GT.F;specialize F.ok scLns;obtain ⟨a,N,S,ns,nn,ss,most,rfl,ha,hN,ndN,okN,hS,⟨l5,l30⟩,ndS,okS,m1,m2,m3,k⟩:=h;have hr1:ke 1 _:=hr.mono ↥0;have hr2:ke 2 _:=hr;apply ⟨_,PSl.h (bz ⟨(psZ 4 scLns.nd (kY ay))⟩
  (bz ⟨(psZ 5 scLns.nd aP)⟩
  (bz ⟨(je cz rfl (kJ rfl T2.range (ah (c7 gx aP (pc1 GT FT hr1 (ah (pc1 GP FP hr2 (ah (pv 0) (ah aP ay))) (ah (pv 3) ay)))) ay)) (pgZ 6 scLns.nd) (PSl.h (bz ⟨(psZ 7 scLns.nd (pc1 GL FL hr2 (ah (pc1 GP FP hr2 (ah (pv 0) (ah (c7 gx aP (pv 6)) ay))) (ah (fK bX (pv 1) (pv 6) (fun _ _=>rfl)) (ah (pv 2) (ah (pv 4) ay))))))⟩
  (gy ⟨(gC (cf op_le (c7 ji (c7 gx (pv 5) (b8 cF rfl T.len bu (ah (pv 7) ay))) aP) aP (cN _)) (PSl.h (bz ⟨(iA (jg bJ cw cv ia (pv 4) (ah (pv 7) ay)))⟩
  (gy ⟨(psZ 5 scLns.nd (c7 ji (c7 gx (pv 5) (b8 cF rfl T.len bu (ah (pv 7) ay))) aP))⟩))) cZ)⟩))))⟩
  (gy ⟨(cA (pv 4))⟩)))),?_⟩
 apply⟨(by show 0≤aA;decide),λL hL=>?_⟩;have S1:cB H (upd H L (.lst [])):=(cB.refl H).put hL;have h1:(upd H L (.lst [])) L=some (.lst []):=aR;generalize upd H L (.lst [])=H1 at S1 h1 ⊢;have sq:∀{H':Hp},cB H H'→SqL K H' a (ns.map V.int):=λS=>SqL.kept' S ha
 apply⟨ρ,a,ns,3,rfl,sq S1,↥0,↥0,λm p hp=>?_⟩;have S2:cB H1 (upd H1 p (.lst [.int m])):=cB.put (cB.refl H1) hp;have h2:(upd H1 p (.lst [.int m])) p=some (.lst [.int m]):=aR;generalize upd H1 p (.lst [.int m])=H2 at S2 h2 ⊢;apply⟨ρ,p,m,most,rfl,h2,⋯,⋯,λr H3 r0 r1 M3=>⟨ς,1+r,rfl,⋯,⋯,?_⟩⟩;have S3:cB H1 H3:=cB.mv S2 hp M3;have big:(1000:Nat)≤aA:=by decide
 apply mG (lo:=0) (n:=(1+r).toNat) (λi σ HA=>cB H HA∧∃(xs:List V) (prs:List PR),HA L=some (.lst xs)∧mn HA xs (prs.map PR.rowV)∧LnsI nn i prs∧∃v6 v7,σ=[some (.ref a),some (.ref N),some (.ref S),some (.int most),some (.ref L),some (.int (jw (lsC prs))),v6,v7])
  ⟨S1.trans S3,[],[],S3 _ _ h1,⟨rfl,λi r h=>by cases h⟩,LnsI.nil nn,none,none,rfl⟩ ?_ ?_
 ·rintro i σ HA hi ⟨SA,xs,prs,hLA,rwA,I,v6,v7,rfl⟩
  have hi2:i<nn.length:=by lia
  have hn:=gE hi2;apply⟨ρ,ρ,ς,a,ns,ρ,sq SA,(by show(0:Int)≤4+(0+(i:Nat));lia),(by show(4:Int)+(0+(i:Nat))≤100;lia),λm4 p4 hp4=>?_⟩;have S4:cB HA (upd HA p4 (.lst [.int m4])):=cB.put (cB.refl HA) hp4;have h4:(upd HA p4 (.lst [.int m4])) p4=some (.lst [.int m4]):=aR;generalize upd HA p4 (.lst [.int m4])=H4 at S4 h4 ⊢;apply⟨ρ,ρ,N,τ,SqL.of ((SA.trans S4) _ _ hN),(by rw[Int.zero_add];exact bp (by rw[aE,hn];rfl)),ρ,ρ,p4,m4,nn[i],S,L,ss,xs,prs,rfl,h4,(SA.trans S4) _ _ hS,⟨l5,l30⟩,ndS,okS,okN _ (c8 hi2),S4 _ _ hLA,rwA.same S4,I.ok,by have:=I.few;lia,λB tt rs H5 M5 fB hB lok=>?_⟩;have S5:cB HA H5:=cB.mv S4 hp4 M5;have o6:tt.length=rs.length+1:=lok.2.2.2.2.2.1;have o5:tt.length≤5:=lok.2.2.2.2.1;have lrow:(PR.line nn[i] tt rs).rowV.length=2 * rs.length+3:=by
   show(jL tt rs).length+1+1=_;rw[ku o6];lia
  apply⟨ρ,ρ,B,ρ,.inl (SqL.of hB),ς,ς,ς,ρ,jC (λc=>?_) (λc=>?_)⟩
  ·have c:jw (lsC prs)+((PR.line nn[i] tt rs).rowV.length:Nat) - 3≤16:=qN c
   have hL5:=S5 _ _ hLA;apply⟨ρ,.inl ⟨rfl,_,SqL.of hL5⟩,ρ,L,ς,hL5,(by rw[rwA.len,ae];have:=I.few;lia),?_⟩;have nBL:B≠L:=ne_of_none' fB (S4 _ _ hLA);apply⟨ρ,ρ,B,ρ,.inl (SqL.of (by rw[bo nBL];exact hB)),ς,ς,?_⟩;apply⟨λc o e=>?_,xs++[.ref B],prs++[.line nn[i] tt rs],aR,?_,I.more ndN ⋯ hn lok (by rw[lrow] at c;lia),some (.int (0+(i:Nat))),some (.ref B),?_⟩
   ·rw[bo (aV e hL)];exact(SA.trans S5) _ _ e
   ·rw[ax]
    exact(rwA.same S5).snoc (λa q hq e=>by rw[bo ((rwA.same S5).neL hL5 hq e)];exact e) (by rw[bo nBL];exact hB)
   ·rw[show lsC (prs++[.line nn[i] tt rs])=lsC prs++[⟨nn[i],tt,rs,[],jw (lsC prs)⟩] from iD _ _,lJ,lrow]
    show[some (V.ref a),some (V.ref N),some (V.ref S),some (V.int most),some (V.ref L),some (V.int (jw (lsC prs)+((2 * rs.length+3:Nat):Int) - 3)),_,_]=_;rw[show jw (lsC prs)+((2 * rs.length+3:Nat):Int) - 3=jw (lsC prs)+2 * (rs.length:Int) by lia]
  ·have i1:1≤i:=by
    cases i with
    | zero =>
     have e0:prs=[]:=by have:=I.few.1;exact mq.mp ⋯
     subst e0;apply qK (qL ?_) c;rw[lrow];show jw (lsC [])+_ - 3≤16;rw[show jw (lsC [])=0 from rfl];lia
    | succ i=>lia
   exact⟨SA.trans S5,xs,prs,S5 _ _ hLA,rwA.same S5,I.up ⋯ i1,_,ρ⟩
 ·rintro σ HA ⟨SA,xs,prs,hLA,rwA,I,v6,v7,rfl⟩
  exact⟨ρ,k L xs prs HA SA hL hLA rwA (I.done ⋯)⟩
abbrev sSpw:cW:=top 101
abbrev sInn:cW:=top 103
theorem sl_listK (K:aj)(hK:autoParam (X.K=K) L2.au0._auto_1):SlR X (λx lo hi H Q=>∃a xs,x= .ref a∧SqL K H a xs∧New H (.lst (pW xs lo hi)) Q):=by subst hK;exact iC
theorem cut13 (a b c:V)(r:List V):pW (a::b::c::r) (some 1) (some 3)=[b,c]:=by
 unfold pW;have e1:=HT.sIx_nat (a::b::c::r).length 0 1;have e2:=HT.sIx_nat (a::b::c::r).length (a::b::c::r).length 3;rw[show((1:Nat):Int)=1 from rfl] at e1;rw[show((3:Nat):Int)=3 from rfl] at e2;rw[e1,e2,dA ∅,dA ∅];rfl
theorem lsC_at {n:Str}(h:prs[i]? =some (.line n ss rs)):(⟨n,ss,rs,[],jw (lsC (prs.take i))⟩:Ln)∈lsC prs:=by
 apply lsC_take (m:=i+1) ?_;rw[bW,h];show _∈lsC (prs.take i++[_]);rw[iD];exact bf _ (aB.mpr rfl)
theorem mn.neS {rows:List (List V)}{t:List V}(h:mn H xs rows)(hL:H L=some (.lst xs))(ha:H a=some (.lst (.str z::t))):a≠L:=λe=>by
 subst e;rw[hL] at ha;injection ha with ha
 injection ha with ha
 have l:=h.len;obtain⟨b,h1,_⟩:=h.get 0 _ (gE (show 0<rows.length by rw[←l,ha];simp));rw[ha] at h1;cases h1
theorem oV_non (o:Option Int):decide (oV o=V.non)=o.isNone:=by cases o <;> rfl
theorem flat_oV (o:Option Int):oj (oV o)=true:=by cases o <;> rfl
theorem inV_non (c g:Option Int):inV .non [oV c,oV g]=(c.isNone || g.isNone):=by cases c <;> cases g <;> rfl
theorem oI_some {c:Prop}[Decidable c]{i:Int}(h:(oI c i).isNone=false):c:=by
 unfold oI at h;split at h
 ·assumption
 ·cases h
inductive spSpw (vs:List V)(H:Hp)(Q:VK)(_:XK):Prop
 | mk (p:ao)(n b:Int)(_:vs=[.ref p,.int b])(_:H p=some (.lst [.int n]))(_:1≤b)(_:b≤10 ^ 30)(_:∀L l o w H',Mv p H H'→H' L=some (.lst [.int l,.int o,.int w])→NumOk b l o w→Q (.ref L) H')
inductive Pr (x y:Ln):Str→List Str→Prop
 | change {z:Str} {i j:Nat} (h1:x.ss[i]? =some z) (h2:1≤i) (h3:y.ss[j]? =some z) (h4:j+1<y.ss.length):Pr x y "change" [x.n,y.n,z]
 | apart {z:Str} {i j:Nat} (h1:x.ss[i]? =some z) (h2:i+1<x.ss.length) (h3:y.ss[j]? =some z) (h4:j+1<y.ss.length):Pr x y "apart" [x.n,y.n,z]
 | meet {z z2:Str} {r u:Int} {i j:Nat} (h1:x.ss[i]? =some z) (h2:x.ss[i+1]? =some z2) (h3:x.rs[i]? =some r) (h4:y.ss[j]? =some z2) (h5:y.ss[j+1]? =some z) (h6:y.rs[j]? =some u):Pr x y "meet" [x.n,y.n,z,z2]
def oF (prs:List PR)(k:Str)(q:List Str):Prop:=∃x y:Ln,x∈lsC prs∧y∈lsC prs∧x.n≠y.n∧Pr x y k q
inductive spPrs (vs:List V)(H:Hp)(Q:VK)(_:XK):Prop
 | mk (R:ao)(xs:List V)(prs:List PR)(k:Str)(_:vs=[.ref R,.str k])(_:H R=some (.lst xs))(_:mn H xs (prs.map PR.rowV))(_:(∀r∈prs,r.lnOk))(_:prs.length≤30)(_:(k = "change" ∨k = "apart" ∨k = "meet"))(_:∀(L:ao) (ys:List V) (qs:List (List Str)) (H':Hp),cB H H'→H' L=some (.lst ys)→mn H' ys (qs.map (List.map V.str))→(∀q∈qs,oF prs k q)→qs.length≤10000→Q (.ref L) H')
def InnOk (prs rows:List PR)(q:List Str):Prop:=∃(x:Ln) (z:Str) (i:Nat),x∈lsC prs∧q=[x.n,z]∧x.ss[i]? =some z∧1≤i∧i+1<x.ss.length∧(x.n,z) ∉ stz rows
def PR.okI:PR→Prop
 | .beat _=>False
 | .line n ss rs=>(PR.line n ss rs).lnOk
 | .oth k ns _=>k ≠ "line" ∧2≤ns.length∧(k = "stay" →ns.length=2)
inductive spInn (vs:List V)(H:Hp)(Q:VK)(_:XK):Prop
 | mk (R R2:ao)(xs x2:List V)(prs rows:List PR)(_:vs=[.ref R,.ref R2])(_:H R=some (.lst xs))(_:mn H xs (prs.map PR.rowV))(_:(∀r∈prs,r.lnOk))(_:prs.length≤30)(_:H R2=some (.lst x2))(_:mn H x2 (rows.map PR.rowV))(_:(∀r∈rows,r.okI))(_:rows.length≤100)(_:∀(L:ao) (ys:List V) (qs:List (List Str)) (H':Hp),cB H H'→H' L=some (.lst ys)→mn H' ys (qs.map (List.map V.str))→(∀q∈qs,InnOk prs rows q)→qs.length≤10000→Q (.ref L) H')
structure Fnd (H HA:Hp)(L:ao)(G:List Str→Prop)(n:Nat):Prop where
 S:cB H HA
 ex:∃(ys:List V) (qs:List (List Str)),HA L=some (.lst ys)∧mn HA ys (qs.map (List.map V.str))∧(∀q∈qs,G q)∧qs.length≤n
theorem Fnd.same {HA HB:Hp}{G:List Str→Prop}(F:Fnd H HA L G n)(S:cB HA HB)(h:n≤m):Fnd H HB L G m:=by
 obtain⟨ys,qs,h1,h2,h3,h4⟩:=F.ex;exact⟨F.S.trans S,ys,qs,S _ _ h1,h2.same S,h3,⋯⟩
theorem Fnd.app {HA HB:Hp}{B:ao}{G:List Str→Prop}{t:List Str}(F:Fnd H HA L G n)(hL:H L=none)(S:cB HA HB)(hB:HB B=some (.lst ((z::t).map V.str)))(g:G (z::t))(h:n+1≤m)(hm:m≤10000):∃ys:List V,HB L=some (.lst ys)∧ys.length<aA∧Fnd H (upd HB L (.lst (ys++[.ref B]))) L G m:=by
 obtain⟨ys,qs,h1,h2,h3,h4⟩:=F.ex;have h2':=h2.same S;have ne:=h2'.neS (S _ _ h1) hB;have big:(20000:Nat)≤aA:=by decide
 apply⟨ys,S _ _ h1,?_,⟨λc o e=>by rw[bo (aV e hL)];exact(F.S.trans S) _ _ e,ys++[.ref B],qs++[z::t],aR,?_,λq hq=>?_,by rw[aq];show qs.length+1≤m;lia⟩⟩
 ·rw[h2.len,ae];lia
 ·rw[ax]
  apply h2'.snoc (λa q hq e=>?_) (by rw[bo ne];exact hB);have:a≠L:=by
   obtain⟨w,hw,rfl⟩:=aJ.mp hq;cases w with
   | nil =>
    intro zz;subst zz;rw[S _ _ h1] at e;injection e with e
    injection e with e
    have l:=h2.len;rw[e] at l;rw[List.map_nil,jJ,ae] at l;rw[mq.mp l.symm] at hw;cases hw
   | cons z' t'=>exact h2'.neS (S _ _ h1) e
  rw[bo this];exact e
 ·rcases aL.mp hq with hq | hq
  ·exact h3 q hq
  ·rw[aB.mp hq];exact g
theorem scSpw:cI ["_law_pot_here","_law_beat","_law_least","_law_width","_law_weight"] pzB (defScope sSpw):=by trivial
theorem ok_spw (F:Fun K "_law_span_words" "_law_span_words" sSpw f fd)(T:Nm mg)(G1:Fn K mg "_law_take" qf pze f1 fd1):‹0› 2 f fd pzB spSpw:=by
 have F1:‹0› 1 f1 fd1 pze ng:=mz G1.F;specialize F.ok scSpw;obtain ⟨p,n,b,rfl,hp,b1,b2,k⟩:=h;have hr1:ke 1 _:=hr;apply ⟨_,PSl.h (bz ⟨(psZ 2 scSpw.nd (pc1 G1 F1 hr1 (ah (pv 0) (ah (PEs.h (qe bX (mE (cO ⟨pv 1⟩ (cO (qD kq jF ⟨pv 1⟩) (cO jF (cO (qD op_pow jF jF) l7))))) ⟨pc1 G1 F1 hr1 (ah (pv 0) (ah aP ay))⟩ (fun _ _=>rfl))) ay))))⟩
  (bz ⟨(psZ 3 scSpw.nd (pc1 G1 F1 hr1 (ah (pv 0) (ah (PEs.h (qe bX (mE (cO jF (cO ⟨b8 (pY rfl) rfl T.min boot_min (ah (pv 1) (ah aP ay))⟩ (cO ⟨pv 1⟩ (cO ⟨pv 1⟩ l7))))) ⟨pc1 G1 F1 hr1 (ah (pv 0) (ah aP ay))⟩ (fun _ _=>rfl))) ay))))⟩
  (bz ⟨(psZ 4 scSpw.nd (PEs.h (mE (cO jF (cO jF (cO ⟨pc1 G1 F1 hr1 (ah (pv 0) (ah aP ay))⟩ (cO ⟨pc1 G1 F1 hr1 (ah (pv 0) (ah (c7 gx (c7 op_pow aP aP) aP) ay))⟩ l7)))))))⟩
  (gy ⟨(cA (PEs.h (mE (cO ⟨pv 2⟩ (cO (qD gx ⟨pv 2⟩ ⟨pv 3⟩) (cO (qe bX ⟨pv 4⟩ ⟨pc1 G1 F1 hr1 (ah (pv 0) (ah aP ay))⟩ (fun _ _=>rfl)) l7))))))⟩)))),?_⟩
 apply⟨ρ,ρ,ρ,ς,.inl ⟨↥0,↥0⟩,ς,⟨↥0,↥0,↥0⟩,szZ4,λB H1 S1 e1=>?_⟩;have M1:Mv p H H1:=Mv.of S1 (S1 _ _ hp);apply⟨ρ,p,n,4,rfl,S1 _ _ hp,↥0,↥0,λr H2 a0 a1 M2=>?_⟩;have e2:=M2.1 _ _ (eF e1 (S1 _ _ hp) (iY ∅)) e1;obtain⟨v,ev,mv⟩:=nN (xs:=[V.int b,.int (3 * b),.int 60,.int (10 ^ 30)]) a0 (by show r<4;lia);obtain⟨m,rfl,m1,m2⟩:∃m:Int,v= .int m∧1≤m∧m≤10 ^ 31:=by
  simp only[aw,aO,or_false] at mv
  rcases mv with rfl | rfl | rfl | rfl
  ·exact⟨ρ,⋯,⋯⟩
  ·exact⟨ρ,⋯,⋯⟩
  ·exact⟨ρ,↥0,↥0⟩
  ·exact⟨ρ,↥0,↥0⟩
 obtain⟨n2,hp2⟩:=M2.2;apply⟨B,τ,SqL.of e2,ev,p,n2,m,rfl,hp2,⋯,⋯,λl H3 l0 l1 M3=>?_⟩;have M13:=(M1.trans M2).trans M3;obtain⟨n3,hp3⟩:=M13.2;apply⟨ρ,ρ,_,ρ,ρ,ρ,szZ4,λB H4 S4 e4=>?_⟩;apply⟨ρ,p,n3,4,rfl,S4 _ _ hp3,↥0,↥0,λr H5 c0 c1 M5=>?_⟩;have e5:=M5.1 _ _ (eF e4 (S4 _ _ hp3) (iY ∅)) e4;obtain⟨v,ev,mv⟩:=nN (xs:=[V.int 1,.int (if (4:Int)<b then 4 else b),.int b,.int b]) c0 (by show r<4;lia);obtain⟨m',rfl,m1',m2'⟩:∃m:Int,v= .int m∧1≤m∧m≤b:=by
  simp only[aw,aO,or_false] at mv
  rcases mv with rfl | rfl | rfl | rfl
  ·exact⟨ρ,↥0,⋯⟩
  ·exact⟨ρ,by split <;> lia,by split <;> lia⟩
  ·exact⟨ρ,⋯,⋯⟩
  ·exact⟨ρ,⋯,⋯⟩
 obtain⟨n5,hp5⟩:=M5.2;apply⟨B,τ,SqL.of e5,ev,p,n5,m',rfl,hp5,⋯,⋯,λwd H6 w0 w1 M6=>?_⟩;have M36:=((M13.then S4).trans M5).trans M6;obtain⟨n6,hp6⟩:=M36.2;apply⟨ρ,p,n6,10,rfl,hp6,↥0,↥0,λx1 H7 x10 x11 M7=>?_⟩;obtain⟨n7,hp7⟩:=M7.2;apply⟨ρ,ς,⟨↥0,↥0,↥0⟩,ς,p,n7,ρ,hp7,(by show(0:Int)<10 ^ 12+1;decide),(by show(10 ^ 12+1:Int)<10 ^ 61;decide),λx2 H8 x20 x21 M8=>?_⟩;have x21:x2<10 ^ 12+1:=x21;apply⟨szZ4,λB H9 S9 e9=>?_⟩;have M39:=((M36.trans M7).trans M8).then S9;obtain⟨n9,hp9⟩:=M39.2;apply⟨ρ,ρ,ρ,ς,ρ,ρ,p,n9,4,rfl,hp9,↥0,↥0,λr Ha d0 d1 Ma=>?_⟩;have e9':=Ma.1 _ _ (eF e9 hp9 (iY ∅)) e9;obtain⟨v,ev,mv⟩:=nN (xs:=[V.int 0,.int 1,.int x1,.int x2]) d0 (by show r<4;lia);obtain⟨wt,rfl,t1,t2⟩:∃m:Int,v= .int m∧0≤m∧m≤1000000000000:=by
  simp only[aw,aO,or_false] at mv
  rcases mv with rfl | rfl | rfl | rfl
  ·exact⟨ρ,↥0,↥0⟩
  ·exact⟨ρ,↥0,↥0⟩
  ·exact⟨ρ,⋯,⋯⟩
  ·exact⟨ρ,⋯,⋯⟩
 apply⟨B,τ,SqL.of e9',ev,(by show 3≤aA;decide),λL Hb Sb eb=>?_⟩;exact k L l (l+wd) wt Hb ((M39.trans Ma).then Sb) eb ⟨⋯,⋯,⋯,⋯,t1,t2⟩
theorem scInn:cI ["_law_lines_here","_law_rows","_law_told","_law_found","_law_row","_law_k"] pzC (defScope sInn):=by trivial
theorem ok_inn (F:Fun K "_law_inner" "_law_inner" sInn f fd)(T:Nm mg)(T2:Nt mg):‹0› 1 f fd pzC spInn:=by
 specialize F.ok scInn;obtain ⟨R,R2,xs,x2,prs,rows,rfl,hR,rw_,ok,few,hR2,rw2,ok2,few2,k⟩:=h;apply ⟨_,PSl.h (bz ⟨(ps_setC (iy:=2) (fr:=[]) (js:=[]) scInn.nd rfl (.inl rfl) rfl (jo (pv 1)) ⇑0 rfl ⇑0 rfl (by exists sInn) ⇑0 rfl ⇑0 (fun _ _ _ _ _=>⟨(fq (sl_listK K) (pv 0) (fZ aP) (fZ aP)),(pts_one (cf iW (fK (r:=rIxL K) bX (pv 0) aP (fun _ _=>rfl)) dC (cN _)))⟩))⟩
  (bz ⟨(psZ 3 scInn.nd (kY ay))⟩
  (bz ⟨(je cz rfl (jo (pv 0)) (pgZ 4 scInn.nd) (bH (je cz rfl (pw rfl T2.range (ah aP (ah (c7 ji (b8 cF rfl T.len bu (ah (pv 4) ay)) aP) (ah aP ay)))) (pgZ 5 scInn.nd) (bH (gC (cf (op_notInLS hr.units) (ij (ah (fK bX (pv 4) aP (fun _ _=>rfl)) (ah (fK bX (pv 4) (pv 5) (fun _ _=>rfl)) ay))) (pv 2) rfl) (bH (iA (jg bJ cw cv ia (pv 3) (ah (ij (ah (fK bX (pv 4) aP (fun _ _=>rfl)) (ah (fK bX (pv 4) (pv 5) (fun _ _=>rfl)) ay))) ay)))) cZ)))))⟩
  (gy ⟨(cA (pv 3))⟩)))),?_⟩
 have lxs:xs.length=prs.length:=by rw[rw_.len,ae]
 have lx2:x2.length=rows.length:=by rw[rw2.len,ae]
 have big:(100000:Nat)≤aA:=by decide
 apply⟨ρ,R2,rfl,⟨_,SqL.of hR2⟩,?_⟩;apply j7 (K:=K) (a:=R2) (xs:=x2) (λi zs HA=>cB H HA∧∃as:List ao,zs=as.map V.ref∧as.map HA=((stz (rows.take i)).map λq=>[q.1,q.2]).map (λt=>some (HO.lst (t.map V.str)))∧zs.length≤i) ⟨cB.refl H,[],rfl,rfl,aD _⟩ (λi zs HA _ q=>?_) ⋯ (λi x zs HA hx q=>?_) (λzs HA q D hD=>?_)
 ·obtain⟨SA,as,_,_,h⟩:=q
  exact⟨SqL.of (SA _ _ hR2),h⟩
 ·obtain⟨SA,as,rfl,hA,lA⟩:=q
  have hi:i<rows.length:=by rw[←lx2];exact(ai.mp hx).1
  have hp:=gE hi;have et:rows.take (i+1)=rows.take i++[rows[i]]:=by rw[bW,hp];rfl
  have okr:=ok2 _ (c8 hi);obtain ⟨a,hxa,hra⟩:=rw2.get i rows[i].rowV (by rw [aE,hp];rfl);rw [hx] at hxa;cases hxa;rw [et,show stz (rows.take i++[rows[i]])=stz (rows.take i)++(rows[i].sty2).toList by
   unfold stz;rw [iR];cases h:rows[i].sty2 <;> simp [List.filterMap,h]]
  generalize rows[i]=r at okr hra ⊢;have hra2:=SA _ _ hra;cases r with
  | beat b=>exact qK okr id
  | line n ss rs =>
   have hra2:HA a=some (.lst (.str "line" :: .str n::jL ss rs)):=hra2;apply⟨ρ,a,τ,SqL.of hra2,bp (j:=0) rfl,rfl,ρ,lq ⇑0 ?_⟩;rw[show(PR.line n ss rs).sty2=none from rfl,Option.toList_none,eY];exact⟨SA,as,rfl,hA,⋯⟩
  | oth kk ns is =>
   have hra2:HA a=some (.lst (.str kk::(ns.map V.str++is.map V.int))):=hra2;obtain⟨o1,o2,o3⟩:=okr
   by_cases hk:kk = "stay"
   ·have o3:=o3 hk
    obtain⟨n,z,rfl⟩:∃n z,ns=[n,z]:=by
     match ns,o3 with
     | [n,z],_=>exact⟨n,z,rfl⟩
    apply⟨ρ,a,τ,SqL.of hra2,bp (j:=0) rfl,rfl,ρ,qj (qL (by rw[hk])) ?_⟩;apply⟨ρ,ρ,ρ,a,ρ,SqL.of hra2,λC HB SB eB=>?_⟩;rw[show(V.str kk::(([n,z]:List Str).map V.str++is.map V.int))=V.str kk::V.str n::V.str z::is.map V.int from rfl,cut13] at eB;rw[show(PR.oth kk [n,z] is).sty2=some (n,z) from by unfold PR.sty2;exact qJ hk];apply⟨SA.trans SB,as++[C],by rw[ax];rfl,?_,by rw[aq];show _+1≤_;lia⟩;rw[ax,Option.toList_some,ax,ax];congr 1
    ·rw[←hA]
     apply dn λc hc=>?_
     have hm:HA c∈((stz (rows.take i)).map λq=>[q.1,q.2]).map (λt=>some (HO.lst (t.map V.str))):=by rw[←hA];exact eQ hc
     obtain⟨t,_,e⟩:=aJ.mp hm;rw[←e];exact SB _ _ e.symm
    ·show[HB C]=_
     rw[eB];rfl
   ·apply⟨ρ,a,τ,SqL.of hra2,bp (j:=0) rfl,rfl,ρ,lq (qM λz=>hk (by injection z)) ?_⟩
    have e:(PR.oth kk ns is).sty2=none:=by
     unfold PR.sty2;split
     ·next h=>cases h;exact qI hk
     ·rfl
    rw[e,Option.toList_none,eY];exact⟨SA,as,rfl,hA,⋯⟩
 obtain⟨SA,as,rfl,hA,lA⟩:=q;rw[lx2,cD] at hA;have S1:cB HA (upd HA D (.lst (as.map V.ref))):=(cB.refl HA).put hD;have hD1:(upd HA D (.lst (as.map V.ref))) D=some (.lst (as.map V.ref)):=aR;have keepT:∀{H':Hp},cB HA H'→as.map H'=((stz rows).map λq=>[q.1,q.2]).map (λt=>some (HO.lst (t.map V.str))):=λ{H'} S=>by
  rw[←hA];apply dn λc hc=>?_
  have hm:HA c∈((stz rows).map λq=>[q.1,q.2]).map (λt=>some (HO.lst (t.map V.str))):=by rw[←hA];exact eQ hc
  obtain⟨t,_,e⟩:=aJ.mp hm;rw[←e];exact S _ _ e.symm
 generalize upd HA D (.lst (as.map V.ref))=H1 at S1 hD1 ⊢;apply⟨(by show 0≤aA;decide),λL hL=>?_⟩;have S2:cB H1 (upd H1 L (.lst [])):=(cB.refl H1).put hL;have h2:(upd H1 L (.lst [])) L=some (.lst []):=aR;generalize upd H1 L (.lst [])=H2 at S2 h2 ⊢;have F0:Fnd H1 H2 L (InnOk prs rows) 0:=⟨S2,[],[],h2,⟨rfl,λi r h=>by cases h⟩,(λq hq=>by cases hq),aD _⟩;have SH1:=SA.trans S1;apply⟨ρ,R,rfl,⟨_,SqL.of (S2 _ _ (SH1 _ _ hR))⟩,?_⟩;apply lX (K:=K) (a:=R) (xs:=xs) (λi σ HB=>Fnd H1 HB L (InnOk prs rows) (10 * i)∧∃v4 v5,σ=[some (.ref R),some (.ref R2),some (.ref D),some (.ref L),v4,v5])
  ⟨F0,none,none,rfl⟩ (λi σ HB _ q=>SqL.of (q.1.S _ _ (SH1 _ _ hR))) ?_ ?_
 ·rintro i x σ HB hx ⟨FB,v4,v5,rfl⟩
  have hi:i<prs.length:=by rw[←lxs];exact(ai.mp hx).1
  have hp:=gE hi;have okr:=ok _ (c8 hi);obtain⟨a,hxa,hra⟩:=rw_.get i prs[i].rowV (by rw[aE,hp];rfl);rw[hx] at hxa;cases hxa;generalize prs[i]=r at okr hra hp;cases r with
  | beat b=>exact qK okr id
  | oth kk ns is=>exact qK okr id
  | line m ss rs =>
   have xin:=lsC_at hp;obtain⟨_,o2,nd,o4,o5,o6,_⟩:=okr;have hra1:H1 a=some (.lst (.str "line" :: .str m::jL ss rs)):=SH1 _ _ hra;have lrow:(V.str "line" :: .str m::jL ss rs).length=2 * ss.length+1:=by rw[az,az,ku o6];lia
   apply⟨ρ,a,ρ,.inl (SqL.of (FB.S _ _ hra1)),ς,4,ρ,⟨↥0,↥0,by rw[lrow];lia,by rw[lrow];lia⟩,?_⟩;have en:(((((V.str "line" :: .str m::jL ss rs).length:Nat):Int) - 2) - 4+1) / 2=((ss.length - 2:Nat):Int):=by rw[lrow];lia
   rw[en,fU];apply oh (lo:=4) (n:=ss.length - 2) (λj σ HC=>Fnd H1 HC L (InnOk prs rows) (10 * i+j)∧∃v5,σ=[some (.ref R),some (.ref R2),some (.ref D),some (.ref L),some (.ref a),v5])
    ⟨FB,_,rfl⟩ ?_ ?_
   ·rintro j σ HC hj ⟨FC,v5,rfl⟩
    obtain⟨s1,hs1⟩:∃s,ss[j+1]? =some s:=⟨_,gE ⋯⟩;have g1:atI (V.str "line" :: .str m::jL ss rs) ((4:Int)+(j:Nat) * 2)=some (.str s1):=by
     rw[show(4:Int)+(j:Nat) * 2=((2 * (j+1)+1+1:Nat):Int) by lia];exact bp (by rw[bq,bq,qE (j+1) o6,hs1];rfl)
    have hraC:=FC.S _ _ hra1;apply⟨ρ,a,τ,SqL.of hraC,bp (j:=1) rfl,ρ,ρ,a,τ,SqL.of hraC,g1,szZ2,λB HD SD eD=>?_⟩;have FD:=FC.same SD (aD _);have SAD:cB HA HD:=S1.trans FD.S;apply⟨ρ,B,D,[m,s1],as,ρ,rfl,eD,FD.S _ _ hD1,keepT SAD,(λt ht=>by obtain⟨q,_,rfl⟩:=aJ.mp ht;rfl),ρ,jC (λc=>?_) (λc=>?_)⟩
    ·have c:¬([m,s1]∈(stz rows).map λq=>[q.1,q.2]):=λz=>by
      rw[qL z] at c;cases c
     have hraD:=FD.S _ _ hra1;obtain⟨ys,qs,hLD,_⟩:=FD.ex;apply⟨ρ,.inl ⟨rfl,_,SqL.of hLD⟩,ρ,a,τ,SqL.of hraD,bp (j:=1) rfl,ρ,ρ,a,τ,SqL.of hraD,g1,szZ2,λB2 HE SE eE=>?_⟩;obtain⟨ys2,hLE,lz,FF⟩:=FD.app (m:=10 * i+(j+1)) hL SE (z:=m) (t:=[s1]) eE ⟨_,s1,j+1,xin,rfl,hs1,⋯,by show j+1+1<ss.length;lia,λz=>c (aJ.mpr ⟨_,z,rfl⟩)⟩ ⋯ ⋯;exact⟨L,ys2,ρ,rfl,hLE,lz,FF,ρ⟩
    ·exact⟨FD.same (cB.refl _) ⋯,ρ⟩
   ·rintro σ HC ⟨FC,v5,rfl⟩
    exact⟨FC.same (cB.refl _) ⋯,_,ρ⟩
 ·rintro σ HB ⟨FB,v4,v5,rfl⟩
  obtain⟨ys,qs,h1,h2,h3,h4⟩:=FB.ex;exact⟨ρ,k L ys qs HB (SH1.trans FB.S) h1 h2 h3 ⋯⟩
abbrev sPrs:cW:=top 102
theorem Ends.go {n:Str}{c g:Option Int}(h:Ends prs n z c g)(hg:g.isNone=false):∃x∈lsC prs,∃i:Nat,x.n=n∧x.ss[i]? =some z∧i+1<x.ss.length:=by
 rcases h with ⟨x,hx,i,e1,e2,e3,e4⟩ | ⟨_,_,e⟩
 ·exact⟨x,hx,i,e1,e2,oI_some (by rw[←e4];exact hg)⟩
 ·rw[e] at hg;cases hg
theorem Ends.come {n:Str}{c g:Option Int}(h:Ends prs n z c g)(hg:c.isNone=false):∃x∈lsC prs,∃i:Nat,x.n=n∧x.ss[i]? =some z∧1≤i:=by
 rcases h with ⟨x,hx,i,e1,e2,e3,e4⟩ | ⟨_,e,_⟩
 ·exact⟨x,hx,i,e1,e2,oI_some (c:=0<i) (by rw[←e3];exact hg)⟩
 ·rw[e] at hg;cases hg
theorem nam_ne (h:nam z=true):z≠("" :Str):=λe=>by
 have:=(nam_len h).1;rw[e] at this;revert this;decide +kernel
def nxt (ss:List Str)(j:Nat):Str:=(ss[j+1]?).getD ""
theorem nxt_at {m:Str}(o6:ss.length=rs.length+1)(hj:j<ss.length):atI ((V.str "line" :: .str m::jL ss rs)++[.str "",.str ""]) ((2:Int)+(j:Nat) * 2+2)=some (.str (nxt ss j)):=by
 have li:(jL ss rs).length=2 * ss.length - 1:=ku o6;rw[show(2:Int)+(j:Nat) * 2+2=((2 * (j+1)+1+1:Nat):Int) by lia];apply bp ?_;unfold nxt
 by_cases c:j+1<ss.length
 ·rw[bI (by simp only[az];lia),bq,bq,qE (j+1) o6,gE c]
  rfl
 ·have e:j+1=ss.length:=by lia
  rw[bh (by simp only[az];lia),e,eW (aD _)];have:2 * ss.length+1+1 - (V.str "line" :: .str m::jL ss rs).length=1:=by simp only[az];lia
  rw[this];rfl
theorem scPrs:cI ["_law_rows","_law_kind","_law_found","_law_one","_law_other","_law_k","_law_first","_law_there"] pzD (defScope sPrs):=by trivial
theorem ok_prs {fE fR:ao}{dE dR:aU}(F:Fun K "_law_pairs" "_law_pairs" sPrs f fd)(T:Nm mg)(T2:Nt mg)(hint:mg "int" =none)(GE:Fn K mg "_law_ends" sEndW pzr fE dE)(FE:‹0› 1 fE dE pzr spEndW)
  (GR:Fn K mg "_law_ride" sRidW pzl fR dR) (FR:‹0› 1 fR dR pzl spRidW):‹0› 2 f fd pzD spPrs:=by
 specialize F.ok scPrs;obtain ⟨R,xs,prs,kd,rfl,hR,rw_,ok,few,hkd,k⟩:=h;have hr1:ke 1 _:=hr;apply ⟨_,PSl.h (bz ⟨(psZ 2 scPrs.nd (kY ay))⟩
  (bz ⟨(je cz rfl (jo (pv 0)) (pgZ 3 scPrs.nd) (bH (je cz rfl (jo (pv 0)) (pgZ 4 scPrs.nd) (bH (gC (cf qh (fK bX (pv 3) aP (fun _ _=>rfl)) (fK bX (pv 4) aP (fun _ _=>rfl)) (cN _)) (bH (je cz rfl (pw rfl T2.range (ah aP (ah (b8 cF rfl T.len bu (ah (pv 3) ay)) (ah aP ay)))) (pgZ 5 scPrs.nd) (PSl.h (bz ⟨(psZ 6 scPrs.nd (fK bX (pc1 GE FE hr1 (ah (pv 0) (ah (fK bX (pv 3) aP (fun _ _=>rfl)) (ah (fK bX (pv 3) (pv 5) (fun _ _=>rfl)) ay)))) (gJ nM rfl hint boot_int (ah (kK iW (pv 1) dC (cN _)) ay)) (fun _ _=>rfl)))⟩
  (bz ⟨(pq (gC (PW.pt (nj (cf qh (pv 1) dC (cN _)) (lQ (cf op_notIn_seq jf (ij (ah (pv 6) (ah (fK bX (pc1 GE FE hr1 (ah (pv 0) (ah (fK bX (pv 4) aP (fun _ _=>rfl)) (ah (fK bX (pv 3) (pv 5) (fun _ _=>rfl)) ay)))) aP (fun _ _=>rfl)) ay))) rfl)))) (bH (iA (jg bJ cw cv ia (pv 2) (ah (PEs.h (mE (cO (qe bX ⟨pv 3⟩ jF (fun _ _=>rfl)) (cO (qe bX ⟨pv 4⟩ jF (fun _ _=>rfl)) (cO (qe bX ⟨pv 3⟩ ⟨pv 5⟩ (fun _ _=>rfl)) l7))))) ay)))) cZ))⟩
  (bz ⟨(psZ 7 scPrs.nd (fK bX (c7 iX (pv 3) (ij (ah dC (ah dC ay)))) (c7 gx (pv 5) aP) (fun _ _=>rfl)))⟩
  (gy ⟨(gC (PW.pt (nj (cf iW (pv 1) dC (cN _)) (lQ (cf op_notN (pc1 GR FR hr1 (ah (pv 0) (ah (fK bX (pv 4) aP (fun _ _=>rfl)) (ah (pv 7) (ah (fK bX (pv 3) (pv 5) (fun _ _=>rfl)) ay))))) jf (cN _))))) (bH (iA (jg bJ cw cv ia (pv 2) (ah (PEs.h (mE (cO (qe bX ⟨pv 3⟩ jF (fun _ _=>rfl)) (cO (qe bX ⟨pv 4⟩ jF (fun _ _=>rfl)) (cO (qe bX ⟨pv 3⟩ ⟨pv 5⟩ (fun _ _=>rfl)) (cO ⟨pv 7⟩ l7)))))) ay)))) cZ)⟩))))))) cZ)))))⟩
  (gy ⟨(cA (pv 2))⟩))),?_⟩
 have lxs:xs.length=prs.length:=by rw[rw_.len,ae]
 have big:(1000:Nat)≤aA:=by decide
 have okE:∀r∈prs,r.okE:=λr hr=>lnOk_E (ok r hr)
 apply⟨(by show 0≤aA;decide),λL hL=>?_⟩;have S2:cB H (upd H L (.lst [])):=(cB.refl H).put hL;have h2:(upd H L (.lst [])) L=some (.lst []):=aR;generalize upd H L (.lst [])=H2 at S2 h2 ⊢;have F0:Fnd H H2 L (oF prs kd) 0:=⟨S2,[],[],h2,⟨rfl,λi r h=>by cases h⟩,(λq hq=>by cases hq),aD _⟩;apply⟨ρ,R,rfl,⟨_,SqL.of (S2 _ _ hR)⟩,?_⟩;apply lX (K:=K) (a:=R) (xs:=xs) (λi σ HB=>Fnd H HB L (oF prs kd) (310 * i)∧∃v3 v4 v5 v6 v7,σ=[some (.ref R),some (.str kd),some (.ref L),v3,v4,v5,v6,v7])
  ⟨F0,none,none,none,none,none,rfl⟩ (λi σ HB _ q=>SqL.of (q.1.S _ _ hR)) ?_ ?_
 ·rintro i x σ HB hx ⟨FB,v3,v4,v5,v6,v7,rfl⟩
  have hi:i<prs.length:=by rw[←lxs];exact(ai.mp hx).1
  have hp:=gE hi;have okr:=ok _ (c8 hi);obtain⟨a,hxa,hra⟩:=rw_.get i prs[i].rowV (by rw[aE,hp];rfl);rw[hx] at hxa;cases hxa;generalize prs[i]=r at okr hra hp;cases r with
  | beat b=>exact qK okr id
  | oth kk ns is=>exact qK okr id
  | line m ss rs =>
   have xin:=lsC_at hp;obtain⟨_,o2,nd,o4,o5,o6,_⟩:=okr;have hra:H a=some (.lst (.str "line" :: .str m::jL ss rs)):=hra;have lrow:(V.str "line" :: .str m::jL ss rs).length=2 * ss.length+1:=by rw[az,az,ku o6];lia
   apply⟨ρ,R,rfl,⟨_,SqL.of (FB.S _ _ hR)⟩,?_⟩;apply lX (K:=K) (a:=R) (xs:=xs) (λj σ HB=>Fnd H HB L (oF prs kd) (310 * i+10 * j)∧∃v4 v5 v6 v7,σ=[some (.ref R),some (.str kd),some (.ref L),some (.ref a),v4,v5,v6,v7])
    ⟨FB,_,_,_,_,rfl⟩ (λi σ HB _ q=>SqL.of (q.1.S _ _ hR)) ?_ ?_
   ·rintro j x σ HB hx2 ⟨FB,v4,v5,v6,v7,rfl⟩
    have hj:j<prs.length:=by rw[←lxs];exact(ai.mp hx2).1
    have hp2:=gE hj;have okr2:=ok _ (c8 hj);obtain⟨b,hxb,hrb⟩:=rw_.get j prs[j].rowV (by rw[aE,hp2];rfl);rw[hx2] at hxb;cases hxb;generalize prs[j]=r at okr2 hrb hp2;cases r with
    | beat b=>exact qK okr2 id
    | oth kk ns is=>exact qK okr2 id
    | line m2 ss2 rs2 =>
     have hrb:H b=some (.lst (.str "line" :: .str m2::jL ss2 rs2)):=hrb;apply⟨ρ,a,τ,SqL.of (FB.S _ _ hra),bp (j:=1) rfl,ρ,b,τ,SqL.of (FB.S _ _ hrb),bp (j:=1) rfl,rfl,ρ,jC (λc=>?_) (λc=>?_)⟩
     rotate_left
     ·exact⟨FB.same (cB.refl _) ⋯,_,_,_,ρ⟩
     have ne:m≠m2:=λz=>by
      have c:(!decide (V.str m=V.str m2))=true:=c;rw[z,qL rfl] at c;cases c
     apply⟨ρ,a,ρ,.inl (SqL.of (FB.S _ _ hra)),2,ρ,⟨↥0,↥0,by rw[lrow];lia,by rw[lrow];lia⟩,?_⟩;have en:((((V.str "line" :: .str m::jL ss rs).length:Nat):Int) - 2+1) / 2=(ss.length:Int):=by rw[lrow];lia
     rw[en,fU];apply oh (lo:=2) (n:=ss.length) (λq σ HC=>Fnd H HC L (oF prs kd) (310 * i+10 * j+2 * q)∧∃v5 v6 v7,σ=[some (.ref R),some (.str kd),some (.ref L),some (.ref a),some (.ref b),v5,v6,v7])
      ⟨FB,_,_,_,rfl⟩ ?_ ?_
     ·rintro q σ HC hq ⟨FC,v5,v6,v7,rfl⟩
      have bnd:310 * i+10 * j+2 * (q+1)≤10000:=by lia
      obtain⟨s1,hs1⟩:∃s,ss[q]? =some s:=⟨_,gE ⋯⟩;have g1:atI (V.str "line" :: .str m::jL ss rs) ((2:Int)+(q:Nat) * 2)=some (.str s1):=by
       rw[show(2:Int)+(q:Nat) * 2=((2 * q+1+1:Nat):Int) by lia];exact bp (by rw[bq,bq,qE q o6,hs1];rfl)
      apply⟨ρ,ρ,a,τ,SqL.of (FC.S _ _ hra),bp (j:=1) rfl,ρ,ρ,a,τ,SqL.of (FC.S _ _ hra),g1,R,xs,prs,m,s1,rfl,FC.S _ _ hR,rw_.same FC.S,okE,⋯,λE1 c1 g H5 S5 e5 en1=>?_⟩;have F5:=FC.same S5 (aD _);apply⟨ρ,rfl,.inr ⟨ρ,E1,_,_,oV (if kd = "apart" then g else c1),rfl,rfl,SqL.of e5,?_,?_⟩⟩
      ·by_cases z:kd = "apart"
       ·rw[qJ z,qL (by rw[z])];rfl
       ·rw[qI z,qM λy=>z (by injection y)];rfl
      generalize hfi:(if kd = "apart" then g else c1)=fi;apply⟨λσ' H'=>Fnd H H' L (oF prs kd) (310 * i+10 * j+2 * q+1)∧σ'=[some (.ref R),some (.str kd),some (.ref L),some (.ref a),some (.ref b),some (.int ((2:Int)+(q:Nat) * 2)),some (oV fi),v7],λσ' H6 qq=>?_,?_⟩
      rotate_left
      ·apply⟨ρ,rfl,ρ,jC (λc2=>?_) (λc2=>?_)⟩
       rotate_left
       ·exact⟨F5.same (cB.refl _) ⋯,rfl⟩
       have nm:kd ≠ "meet" := λz=>by
        have c2:(!decide (V.str kd=V.str "meet"))=true:=c2;rw[z,qL rfl] at c2;cases c2
       apply⟨ρ,ρ,ρ,b,τ,SqL.of (F5.S _ _ hrb),bp (j:=1) rfl,ρ,ρ,a,τ,SqL.of (F5.S _ _ hra),g1,R,xs,prs,m2,s1,rfl,F5.S _ _ hR,rw_.same F5.S,okE,⋯,λE2 c3 g2 H6 S6 e6 en2=>?_⟩;have F6:=F5.same S6 (aD _);apply⟨E2,τ,SqL.of e6,bp (j:=1) rfl,szZ2,λB H7 S7 e7=>?_⟩;have F7:=F6.same S7 (aD _);apply⟨B,ρ,.inl (SqL.of e7),rfl,(by show(oj (oV fi) && (oj (oV g2) && true))=true;rw[flat_oV,flat_oV];rfl),ρ,jC (λc4=>?_) (λc4=>?_)⟩
       rotate_left
       ·exact⟨F7.same (cB.refl _) ⋯,rfl⟩
       have c4:(!inV .non [oV fi,oV g2])=true:=c4;rw[inV_non] at c4;obtain⟨c5,c6⟩:fi.isNone=false∧g2.isNone=false:=by
        cases hf:fi.isNone <;> cases hg:g2.isNone <;> rw[hf,hg] at c4 <;> first | exact⟨rfl,rfl⟩ | cases c4
       obtain⟨y,hy,jy,y1,y2,y3⟩:=en2.go c6;have pk:oF prs kd [m,m2,s1]:=by
        by_cases z:kd = "apart"
        ·rw[qJ z] at hfi
         obtain⟨x,hx,ix,x1,x2,x3⟩:=en1.go (by rw[hfi];exact c5);apply⟨x,y,hx,hy,by rw[x1,y1];exact ne,?_⟩;rw[z,←x1,←y1];exact .apart x2 x3 y2 y3
        ·rw[qI z] at hfi
         have z2:kd = "change" := by
          rcases hkd with h | h | h
          ·exact h
          ·exact qK h z
          ·exact qK h nm
         obtain⟨x,hx,ix,x1,x2,x3⟩:=en1.come (by rw[hfi];exact c5);apply⟨x,y,hx,hy,by rw[x1,y1];exact ne,?_⟩;rw[z2,←x1,←y1];exact .change x2 x3 y2 y3
       obtain⟨ys,qs,hL7,_⟩:=F7.ex;apply⟨ρ,.inl ⟨rfl,_,SqL.of hL7⟩,ρ,a,τ,SqL.of (F7.S _ _ hra),bp (j:=1) rfl,ρ,b,τ,SqL.of (F7.S _ _ hrb),bp (j:=1) rfl,ρ,ρ,a,τ,SqL.of (F7.S _ _ hra),g1,(by show 3≤aA;decide),λB2 H8 S8 e8=>?_⟩;obtain⟨ys2,hLE,lz,FF⟩:=F7.app (m:=310 * i+10 * j+2 * q+1) hL S8 (z:=m) (t:=[m2,s1]) e8 pk ⋯ ⋯;exact⟨L,ys2,ρ,rfl,hLE,lz,FF,rfl⟩
      obtain⟨F6,rfl⟩:=qq;apply⟨ρ,szZ2,λC H7 S7 e7=>?_⟩;have F7:=F6.same S7 (aD _);apply⟨a,C,ς,F7.S _ _ hra,e7,(by rw[lrow];show 2 * ss.length+1+2≤aA;lia),λD H8 S8 e8=>?_⟩;have F8:=F7.same S8 (aD _);apply⟨ρ,ς,D,τ,SqL.of e8,nxt_at o6 hq,?_⟩;apply⟨ρ,rfl,ρ,jC (λc2=>?_) (λc2=>?_)⟩
      rotate_left
      ·exact⟨F8.same (cB.refl _) ⋯,_,_,ρ⟩
      have c2:kd = "meet" := by have:=qN c2;injection this
      apply⟨ρ,ρ,b,τ,SqL.of (F8.S _ _ hrb),bp (j:=1) rfl,ρ,ρ,ρ,a,τ,SqL.of (F8.S _ _ hra),g1,R,xs,prs,m2,nxt ss q,s1,rfl,F8.S _ _ hR,rw_.same F8.S,okE,⋯,λo H9 S9 rd=>?_⟩;have F9:=F8.same S9 (aD _);apply⟨rfl,ρ,jC (λc3=>?_) (λc3=>?_)⟩
      rotate_left
      ·exact⟨F9.same (cB.refl _) ⋯,_,_,ρ⟩
      have c3:(!decide (oV o=V.non))=true:=c3;rw[oV_non] at c3;have pk:oF prs kd [m,m2,s1,nxt ss q]:=by
       rcases rd with ⟨y,hy,jy,u,y1,y2,y3,y4,y5⟩ | ⟨_,e⟩
       ·have ny:nam (nxt ss q)=true:=by
         obtain⟨iy,hiy⟩:=cb (lsC_mem hy).1;exact(ok _ (aC hiy)).2.1 _ (aC y2)
        have hq1:q+1<ss.length:=by
         by_cases c:q+1<ss.length
         ·exact c
         ·apply qK ?_ (nam_ne ny)
          unfold nxt;rw[eW ⋯];rfl
        obtain⟨r1,hr1⟩:∃r,rs[q]? =some r:=⟨_,gE ⋯⟩;have hn:ss[q+1]? =some (nxt ss q):=by unfold nxt;rw[gE hq1];rfl
        apply⟨_,y,xin,hy,by rw[y1];exact ne,?_⟩;rw[c2,←y1];exact .meet (x:=⟨m,ss,rs,[],jw (lsC (prs.take i))⟩) hs1 hn hr1 y2 y3 y4
       ·rw[e] at c3;cases c3
      obtain⟨ys,qs,hL9,_⟩:=F9.ex;apply⟨ρ,.inl ⟨rfl,_,SqL.of hL9⟩,ρ,a,τ,SqL.of (F9.S _ _ hra),bp (j:=1) rfl,ρ,b,τ,SqL.of (F9.S _ _ hrb),bp (j:=1) rfl,ρ,ρ,a,τ,SqL.of (F9.S _ _ hra),g1,ρ,szZ4,λB2 Ha Sa ea=>?_⟩;obtain⟨ys2,hLE,lz,FF⟩:=F9.app (m:=310 * i+10 * j+2 * (q+1)) hL Sa (z:=m) (t:=[m2,s1,nxt ss q]) ea pk ⋯ ⋯;exact⟨L,ys2,ρ,rfl,hLE,lz,FF,_,_,ρ⟩
     ·rintro σ HC ⟨FC,v5,v6,v7,rfl⟩
      exact⟨FC.same (cB.refl _) ⋯,_,_,_,ρ⟩
   ·rintro σ HB ⟨FB,v4,v5,v6,v7,rfl⟩
    exact⟨FB.same (cB.refl _) (by rw[lxs];lia),_,_,_,_,ρ⟩
 ·rintro σ HB ⟨FB,v3,v4,v5,v6,v7,rfl⟩
  obtain⟨ys,qs,h1,h2,h3,h4⟩:=FB.ex;exact⟨ρ,k L ys qs HB FB.S h1 h2 h3 ⋯⟩
abbrev sMor:cW:=top 104
def MoreOk (b:Int)(prs rows:List PR):PR→Prop
 | .oth k ns is=>(k = "stay" ∧∃(x:Ln) (z:Str) (l o w:Int) (i:Nat),x∈lsC prs∧ns=[x.n,z]∧is=[l,o,w]∧x.ss[i]? =some z∧1≤i∧i+1<x.ss.length∧(x.n,z) ∉ stz rows∧NumOk b l o w)∨(k ≠ "stay" ∧BwOk b prs k ns is)
 | _=>False
inductive spMor (vs:List V)(H:Hp)(Q:VK)(_:XK):Prop
 | mk (p:ao)(n b:Int)(R R2:ao)(xs x2:List V)(prs rows:List PR)(_:vs=[.ref p,.int b,.ref R,.ref R2])(_:H p=some (.lst [.int n]))(_:(1≤b∧b≤10 ^ 30))(_:H R=some (.lst xs))(_:mn H xs (prs.map PR.rowV))(_:qd prs)(_:H R2=some (.lst x2))(_:mn H x2 (rows.map PR.rowV))(_:(∀r∈rows,r.okI))(_:rows.length≤100)(_:(∀H',Mv p H H'→Q .non H'))(_:∀(L:ao) (r:PR) (H':Hp),Mv p H H'→H' L=some (.lst r.rowV)→MoreOk b prs rows r→Q (.ref L) H')
theorem okI_two (h:r.okI):2≤r.rowV.length:=by
 cases r with
 | line n ss rs=>exact rowV_two h
 | beat b=>exact qK h id
 | oth k ns is =>
  obtain⟨_,h2,_⟩:=h;show 2≤(ns.map V.str++is.map V.int).length+1;rw[aq,ae];lia
theorem nm_one (nd:(ls.map (·.n)).Nodup){x y:Ln}(hx:x∈ls)(hy:y∈ls)(e:x.n=y.n):x=y:=by
 obtain⟨i,hi⟩:=cb hx;obtain⟨j,hj⟩:=cb hy;have h1:(ls.map (·.n))[i]? =some x.n:=by rw[aE,hi];rfl
 have h2:(ls.map (·.n))[j]? =some x.n:=by rw[aE,hj,e];rfl
 have:=j6 nd h1 h2;subst this;rw[hi] at hj;exact bF hj
theorem Ride.of (L:qd prs){x:Ln}{y:Str}{r:Int}{o:Option Int}(hx:x∈lsC prs)(h1:x.ss[i]? =some z)(h2:x.ss[i+1]? =some y)(h3:x.rs[i]? =some r)(R:Ride prs x.n z y o):o=some r:=by
 rcases R with ⟨x',hx',i',r',e1,e2,e3,e4,e5⟩ | ⟨no,_⟩
 ·have ex:=nm_one (L.rows 1).nd hx' hx e1
  subst ex;have nd:x'.ss.Nodup:=((L.rows 1).lnOk hx').2.2.1;have:=j6 nd e2 h1;subst this;rw[e4] at h3;rw[e5,h3]
 ·exact qK h2 (no x hx rfl i h1)
theorem ride_bd (L:qd prs){x:Ln}{r:Int}(hx:x∈lsC prs)(h:x.rs[i]? =some r):0≤r∧r<10 ^ 60:=((L.rows 1).lnOk hx).2.2.2.2.2.2 r (aC h)
theorem lst_si {s:Str}{n:Int}:HO.lst [.str s]≠HO.lst [.int n]:=λz=>by injection z with z;injection z with z;cases z
theorem scMor:cI ["_law_pot_here","_law_beat","_law_lines_here","_law_rows","_law_kind","_law_inner_here","_law_some","_law_row","_law_room","_law_gap"] pzs (defScope sMor):=by trivial
theorem ok_mor {fT fI fS fP fR:ao}{dT dI dS dP dR:aU}(F:Fun K "_law_more_row" "_law_more_row" sMor f fd)(T:Nm mg)(T2:Nt mg)(GT:Fn K mg "_law_take" qf pze fT dT)
  (GI:Fn K mg "_law_inner" sInn pzC fI dI) (FI:‹0› 1 fI dI pzC spInn)
  (GS:Fn K mg "_law_span_words" sSpw pzB fS dS) (FS:‹0› 2 fS dS pzB spSpw)
  (GP:Fn K mg "_law_pairs" sPrs pzD fP dP) (FP:‹0› 2 fP dP pzD spPrs)
  (GR:Fn K mg "_law_ride" sRidW pzl fR dR) (FR:‹0› 1 fR dR pzl spRidW):‹0› 3 f fd pzs spMor:=by
 have FT:‹0› 1 fT dT pze ng:=mz GT.F;specialize F.ok scMor;obtain ⟨p,n,b,R,R2,xs,x2,prs,rows,rfl,hp,⟨b1,b2⟩,hR,rw_,lok,hR2,rw2,ok2,few2,kN,kR⟩:=h;have hr1:ke 1 _:=hr.mono ↥0;have hr2:ke 2 _:=hr;apply exw_of (bz (tw_set (i:=4) scMor.nd rfl (.inl rfl) (qe bX (mE (cO jU (cO jU (cO jU (cO jU (cO jU (cO jU l7))))))) ⟨pc1 GT FT hr1 (ah (pv 0) (ah aP ay))⟩ (fun _ _=>rfl)))
  (bz (tw_if (cf iW (pv 4) dC (cN _)) (bz ⟨(psZ 5 scMor.nd (pc1 GI FI hr1 (ah (pv 2) (ah (pv 3) ay))))⟩
  (bz (tw_if (cf (op_eqL0 hr.units0) (pv 5) (ij ay) (cN _)) (gy ⟨(cA jf)⟩) pH)
  (gy ⟨(cA (c7 iX (c7 iX (ij (ah dC ay)) (fK bX (pv 5) (pc1 GT FT hr1 (ah (pv 0) (ah (b8 cF rfl T.len bu (ah (pv 5) ay)) ay))) (fun _ _=>rfl))) (pc1 GS FS hr2 (ah (pv 0) (ah (pv 1) ay)))))⟩))) pH)
  (bz ⟨(psZ 6 scMor.nd (pc1 GP FP hr2 (ah (pv 2) (ah (pv 4) ay))))⟩
  (bz (tw_if (cf (op_eqL0 hr.units0) (pv 6) (ij ay) (cN _)) (gy ⟨(cA jf)⟩) pH)
  (bz ⟨(psZ 7 scMor.nd (c7 iX (ij (ah (pv 4) ay)) (fK bX (pv 6) (pc1 GT FT hr1 (ah (pv 0) (ah (b8 cF rfl T.len bu (ah (pv 6) ay)) ay))) (fun _ _=>rfl))))⟩
  (bz (tw_if (cf iW (pv 4) dC (cN _)) (gy ⟨(cA (c7 iX (pv 7) (pc1 GS FS hr2 (ah (pv 0) (ah (pv 1) ay)))))⟩) pH)
  (bz ⟨(psZ 8 scMor.nd (pv 1))⟩
  (bz (tw_if (cf iW (pv 4) dC (cN _)) (bz ⟨(psZ 8 scMor.nd (c7 ji (pv 1) (pc1 GR FR hr1 (ah (pv 2) (ah (fK bX (pv 7) aP (fun _ _=>rfl)) (ah (fK bX (pv 7) aP (fun _ _=>rfl)) (ah (fK bX (pv 7) aP (fun _ _=>rfl)) ay)))))))⟩
  (gy ⟨(psZ 8 scMor.nd (c7 ji (pv 8) (pc1 GR FR hr1 (ah (pv 2) (ah (fK bX (pv 7) aP (fun _ _=>rfl)) (ah (fK bX (pv 7) aP (fun _ _=>rfl)) (ah (fK bX (pv 7) aP (fun _ _=>rfl)) ay)))))))⟩)) pH)
  (bz ⟨(psZ 9 scMor.nd (pc1 GT FT hr1 (ah (pv 0) (ah (b8 (call_max2 rfl) rfl T2.max boot_max (ah aP (ah (c7 gx (c7 op_fdiv (pv 8) aP) aP) ay))) ay))))⟩
  (bz (tw_if (PW.pt (mx (cf op_lt (pv 8) (c7 kq aP (pv 9)) (cN _)) (kX (cf op_ge (c7 ji (pv 8) (c7 kq aP (pv 9))) (pv 1) (cN _))))) (gy ⟨(cA jf)⟩) pH)
  (gy ⟨(cA (c7 iX (pv 7) (ij (ah (pv 9) ay))))⟩))))))))))) ?_
 have big:(100000:Nat)≤aA:=by decide
 have two:∀r∈prs.map PR.rowV,2≤r.length:=λr hr=>by
  obtain⟨q,hq,rfl⟩:=aJ.mp hr;exact rowV_two (lok.ok q hq)
 have two2:∀r∈rows.map PR.rowV,2≤r.length:=λr hr=>by
  obtain⟨q,hq,rfl⟩:=aJ.mp hr;exact okI_two (ok2 q hq)
 have nR:=rw_.nep hp hR;have nR2:=rw2.nep hp hR2;have okE:∀r∈prs,r.okE:=λr hr=>lnOk_E (lok.ok r hr)
 have fewp:=lok.few;have gets:∀{H':Hp},Mv p H H'→H' R=some (.lst xs)∧mn H' xs (prs.map PR.rowV)∧H' R2=some (.lst x2)∧mn H' x2 (rows.map PR.rowV):=λM=>⟨M.1 _ _ nR hR,rw_.mv M hp two,M.1 _ _ nR2 hR2,rw2.mv M hp two2⟩
 apply⟨(by show 6≤aA;decide),λB H1 S1 e1=>?_⟩;have M1:Mv p H H1:=Mv.of S1 (S1 _ _ hp);apply⟨ρ,p,n,6,rfl,S1 _ _ hp,↥0,↥0,λr H2 a0 a1 M2'=>?_⟩;have e2:=M2'.1 _ _ (eF e1 (S1 _ _ hp) (iY ∅)) e1;have M2:=M1.trans M2';obtain⟨v,ev,mv⟩:=nN (xs:=[V.str "stay",.str "change",.str "apart",.str "meet",.str "change",.str "stay"]) a0 (by show r<6;lia);obtain⟨kd,rfl,hkd⟩:∃kd:Str,v= .str kd∧(kd = "stay" ∨kd = "change" ∨kd = "apart" ∨kd = "meet"):=by
  simp only[aw,aO,or_false] at mv
  rcases mv with rfl | rfl | rfl | rfl | rfl | rfl <;> exact⟨ρ,∅⟩
 apply⟨B,τ,SqL.of e2,ev,?_⟩;obtain⟨n2,hp2⟩:=M2.2;obtain⟨gR,gw,gR2,gw2⟩:=gets M2;apply⟨ρ,rfl,ρ,jC (λc1=>?_) (λc1=>?_)⟩
 ·apply⟨ρ,ρ,R,R2,xs,x2,prs,rows,rfl,gR,gw,lok.ok,lok.few,gR2,gw2,ok2,few2,λL ys qs H3 S3 e3 rw3 ok3 l3=>?_⟩
  apply⟨ρ,(by show 0≤aA;decide),λEm H4 S4 e4=>?_⟩;have M4:Mv p H H4:=M2.then (S3.trans S4);apply⟨L,Em,ys,rfl,rfl,SqL.of (S4 _ _ e3),SqL.of e4,ρ,jC (λ_=>kN H4 M4) (λc2=>?_)⟩;have ly:ys.length=qs.length:=by rw[rw3.len,ae]
  have ne:0<ys.length:=by
   cases ys with
   | nil=>exact qK rfl c2
   | cons _ _=>simp
  apply⟨szZ1,λC H5 S5 e5=>?_⟩;have M5:=M4.then S5;obtain⟨n5,hp5⟩:=M5.2;have rw5:=rw3.same (S4.trans S5);have e35:=(S4.trans S5) _ _ e3;have nL:=rw5.nep hp5 e35;apply⟨ρ,ρ,ρ,L,ρ,.inl (SqL.of e35),p,n5,ρ,hp5,(by show(0:Int)<(ys.length:Int);lia),(by show(ys.length:Int)<10 ^ 61;lia),λr6 H6 c60 c61 M6'=>?_⟩;obtain⟨j,rfl⟩:=dm c60;have c61:(j:Int)<(ys.length:Int):=c61;have hj:j<qs.length:=by lia
  have M6:=M5.trans M6';obtain⟨x,z,i,hx,eq,x1,x2,x3,x4⟩:=ok3 _ (c8 hj);obtain⟨a,hya,hra⟩:=rw5.get j (qs[j].map V.str) (by rw[aE,gE hj];rfl);rw[eq] at hra;have hra6:=M6'.1 _ _ (eF hra hp5 (iY ∅)) hra;have e56:=M6'.1 _ _ (eF e5 hp5 lst_si) e5;apply⟨L,τ,SqL.of (M6'.1 _ _ nL e35),bp hya,C,a,ς,e56,hra6,(by show 1+2≤aA;lia),λD H7 S7 e7=>?_⟩;have M7:=M6.then S7;obtain⟨n7,hp7⟩:=M7.2;apply⟨ρ,ρ,p,n7,b,rfl,hp7,b1,b2,λE2 l o wt H8 M8' e8 num=>?_⟩;have e78:=M8'.1 _ _ (eF e7 hp7 (iY ∅)) e7;apply⟨D,E2,ς,e78,e8,(by show 3+3≤aA;lia),λF2 H9 S9 e9=>?_⟩;exact kR F2 (.oth "stay" [x.n,z] [l,o,wt]) H9 ((M7.trans M8').then S9) e9 (.inl ⟨rfl,x,z,l,o,wt,i,hx,rfl,rfl,x1,x2,x3,x4,num⟩)
 have hkd:kd = "change" ∨kd = "apart" ∨kd = "meet" := by
  rcases hkd with h | h
  ·exact qK (qL (by rw[h])) c1
  ·exact h
 apply⟨ρ,ρ,R,xs,prs,kd,rfl,gR,gw,lok.ok,lok.few,hkd,λL ys qs H3 S3 e3 rw3 ok3 l3=>?_⟩;apply⟨ρ,(by show 0≤aA;decide),λEm H4 S4 e4=>?_⟩;have M4:Mv p H H4:=M2.then (S3.trans S4);apply⟨L,Em,ys,rfl,rfl,SqL.of (S4 _ _ e3),SqL.of e4,ρ,jC (λ_=>kN H4 M4) (λc2=>?_)⟩;have ly:ys.length=qs.length:=by rw[rw3.len,ae]
 have ne:0<ys.length:=by
  cases ys with
  | nil=>exact qK rfl c2
  | cons _ _=>simp
 apply⟨ρ,szZ1,λC H5 S5 e5=>?_⟩;have M5:=M4.then S5;obtain⟨n5,hp5⟩:=M5.2;have rw5:=rw3.same (S4.trans S5);have e35:=(S4.trans S5) _ _ e3;have nL:=rw5.nep hp5 e35;apply⟨ρ,ρ,ρ,L,ρ,.inl (SqL.of e35),p,n5,ρ,hp5,(by show(0:Int)<(ys.length:Int);lia),(by show(ys.length:Int)<10 ^ 61;lia),λr6 H6 c60 c61 M6'=>?_⟩;obtain⟨j,rfl⟩:=dm c60;have c61:(j:Int)<(ys.length:Int):=c61;have hj:j<qs.length:=by lia
 have M6:=M5.trans M6';obtain⟨x,y,hx,hy,nxy,pr⟩:=ok3 _ (c8 hj);obtain⟨a,hya,hra⟩:=rw5.get j (qs[j].map V.str) (by rw[aE,gE hj];rfl);have e56:=M6'.1 _ _ (eF e5 hp5 lst_si) e5;apply⟨L,τ,SqL.of (M6'.1 _ _ nL e35),bp hya,?_⟩;generalize qs[j]=q at pr hra;cases pr with
 | @change z i j' h1 h2 h3 h4 =>
  have hra6:=M6'.1 _ _ (eF hra hp5 (iY ∅)) hra;apply ⟨C,a,ς,e56,hra6,(by show 1+3≤aA;lia),fun D H7 S7 e7=>?_⟩;have M7:=M6.then S7;obtain ⟨n7,hp7⟩:=M7.2;apply ⟨ρ,rfl,ρ,qj (qL rfl) ?_⟩;apply ⟨ρ,ρ,ρ,p,n7,b,rfl,hp7,b1,b2,fun E2 l o wt H8 M8' e8 num=>?_⟩;have e78:=M8'.1 _ _ (eF e7 hp7 (iY ∅)) e7;apply ⟨D,E2,ς,e78,e8,(by show 4+3≤aA;lia),fun F2 H9 S9 e9=>?_⟩;obtain ⟨u1,u2,u3,u4,u5,u6⟩:=num;exact kR F2 (.oth "change" [x.n,y.n,z] [l,o,wt]) H9 ((M7.trans M8').then S9) e9 (.inr ⟨by trivial,_,⟨x,y,hx,hy,nxy,.change (l:=l) (o:=o) (w:=wt) h1 h2 h3 h4⟩,⟨u1,u2,u3,u4,u5,u6⟩,fun i hi=>by
   simp only[aw,aO,or_false] at hi
   rcases hi with rfl | rfl | rfl
   ·exact⟨u1,⋯⟩
   ·exact⟨⋯,⋯⟩
   ·exact ⟨u5,⋯⟩⟩)
 | @apart z i j' h1 h2 h3 h4 =>
  have hra6:=M6'.1 _ _ (eF hra hp5 (iY ∅)) hra;apply⟨C,a,ς,e56,hra6,(by show 1+3≤aA;lia),λD H7 S7 e7=>?_⟩;have M7:=M6.then S7;obtain⟨n7,hp7⟩:=M7.2;apply⟨ρ,rfl,ρ,lq ⇑0 ?_⟩;apply⟨ρ,?_⟩;apply⟨ρ,rfl,ρ,lq ⇑0 ?_⟩;apply⟨ρ,ρ,ς,⟨↥0,↥0⟩,ς,_,ρ,p,n7,ρ,hp7,(by split <;> lia),(by split <;> lia),λg H8 g0 g1 M8'=>?_⟩;have e78:=M8'.1 _ _ (eF e7 hp7 (iY ∅)) e7;have M8:=M7.trans M8';apply⟨ρ,ρ,ς,.inl ⟨↥0,↥0⟩,ς,ρ,jC (λ_=>kN H8 M8) (λc3=>?_)⟩;have c3:2 * g≤b:=by
   have:¬(b<2 * g):=λz=>c3 (qL z)
   lia
  apply⟨ρ,ρ,ς,.inl ⟨↥0,↥0⟩,ς,ρ,ς,ρ,jC (λ_=>kN H8 M8) (λc4=>?_)⟩;have c4:b - 2 * g<b:=by
   have:¬(b≤b - 2 * g):=λz=>c4 (qL z)
   lia
  apply ⟨ρ,ρ,szZ1,fun G H9 S9 e9=>?_⟩;apply ⟨D,G,ς,S9 _ _ e78,e9,(by show 4+1≤aA;lia),fun F2 Ha Sa ea=>?_⟩;exact kR F2 (.oth "apart" [x.n,y.n,z] [g]) Ha (M8.then (S9.trans Sa)) ea (.inr ⟨by trivial,_,⟨x,y,hx,hy,nxy,.apart (d:=g) h1 h2 h3 h4⟩,⟨g0,by dsimp only;lia,by dsimp only;lia,by dsimp only;lia,by dsimp only;decide,by dsimp only;decide⟩,fun i hi=>by
   rw [aB.mp hi];exact ⟨g0,⋯⟩⟩)
 | @meet z z2 r u i j' h1 h2 h3 h4 h5 h6 =>
  have hra6:=M6'.1 _ _ (eF hra hp5 (iY ∅)) hra;apply⟨C,a,ς,e56,hra6,(by show 1+4≤aA;lia),λD H7 S7 e7=>?_⟩;have M7:=M6.then S7;apply⟨ρ,rfl,ρ,lq ⇑0 ?_⟩;apply⟨ρ,?_⟩;apply⟨ρ,rfl,ρ,qj (qL rfl) ?_⟩;obtain⟨gR,gw,_,_⟩:=gets M7;have bx:=ride_bd lok hx h3;have b_y:=ride_bd lok hy h6;apply⟨ρ,ρ,ρ,D,τ,SqL.of e7,bp (j:=1) rfl,ρ,D,τ,SqL.of e7,bp (j:=3) rfl,ρ,D,τ,SqL.of e7,bp (j:=4) rfl,R,xs,prs,x.n,z,z2,rfl,gR,gw,okE,⋯,λo1 H8 S8 rd1=>?_⟩;rw[rd1.of lok hx h1 h2 h3];have e78:=S8 _ _ e7;have M8:=M7.then S8;obtain⟨gR,gw,_,_⟩:=gets M8;apply⟨ς,ρ,ρ,ρ,D,τ,SqL.of e78,bp (j:=2) rfl,ρ,D,τ,SqL.of e78,bp (j:=4) rfl,ρ,D,τ,SqL.of e78,bp (j:=3) rfl,R,xs,prs,y.n,z2,z,rfl,gR,gw,okE,⋯,λo2 H9 S9 rd2=>?_⟩;rw[rd2.of lok hy h4 h5 h6];have e79:=S9 _ _ e78;have M9:=M8.then S9;obtain⟨n9,hp9⟩:=M9.2;apply⟨ς,?_⟩;obtain⟨room,er⟩:∃room,b - r - u=room:=⟨_,rfl⟩;have hro:room≤b:=by lia
  apply⟨ρ,ρ,ς,⟨↥0,↥0⟩,ς,_,ρ,p,n9,ρ,hp9,(by split <;> lia),(by show(if (b - r - u) / 2+1 > 1 then (b - r - u) / 2+1 else 1)<10 ^ 61;split <;> lia),λg H8 g0 g1 M8'=>?_⟩;have e78:=M8'.1 _ _ (eF e79 hp9 (iY ∅)) e79;have Ma:=M9.trans M8';apply⟨ρ,ρ,ς,.inl ⟨↥0,↥0⟩,ς,ρ,jC (λ_=>kN H8 Ma) (λc3=>?_)⟩;have c3:2 * g≤b - r - u:=by
   have:¬(b - r - u<2 * g):=λz=>c3 (qL z)
   lia
  apply⟨ρ,ρ,ς,.inl ⟨↥0,↥0⟩,ς,ρ,ς,ρ,jC (λ_=>kN H8 Ma) (λc4=>?_)⟩;have c4:b - r - u - 2 * g<b:=by
   have:¬(b≤b - r - u - 2 * g):=λz=>c4 (qL z)
   lia
  apply ⟨ρ,ρ,szZ1,fun G H9 S9 e9=>?_⟩;apply ⟨D,G,ς,S9 _ _ e78,e9,(by show 5+1≤aA;lia),fun F2 Hb Sb eb=>?_⟩;exact kR F2 (.oth "meet" [x.n,y.n,z,z2] [g]) Hb (Ma.then (S9.trans Sb)) eb (.inr ⟨by trivial,_,⟨x,y,hx,hy,nxy,.meet (d:=g) h1 h2 h3 h4 h5 h6⟩,⟨by dsimp only;lia,by dsimp only;lia,by dsimp only;lia,by dsimp only;lia,by dsimp only;decide,by dsimp only;decide⟩,fun i hi=>by
   rw [aB.mp hi];exact ⟨g0,⋯⟩⟩)
end HN
namespace L2
open PySem PySem.Spec PyProof.Rows
def k7:List Int→Int
 | []=>0
 | [a]=>a
 | a::b::l=>if a > k7 (b::l) then a else k7 (b::l)
theorem great_ok:∀(l:List Int),l≠[]→k7 l∈l∧∀a∈l,a≤k7 l
 | [],h=>qK rfl h
 | [a],_=>⟨by simp[k7],λx hx=>by rw[aB.mp hx];exact Int.le_refl _⟩
 | a::b::l,_=>by
  obtain⟨h1,h2⟩:=great_ok (b::l) ∅;show(if a > k7 (b::l) then a else k7 (b::l))∈a::b::l∧∀x∈a::b::l,x≤(if a > k7 (b::l) then a else k7 (b::l));split
  ·apply⟨aW ..,λx hx=>?_⟩
   rcases aw.mp hx with rfl | hx
   ·exact Int.le_refl _
   ·have:=h2 x hx;lia
  ·apply⟨aH _ h1,λx hx=>?_⟩
   rcases aw.mp hx with rfl | hx
   ·lia
   ·exact h2 x hx
theorem call_max1 (hc:X.calm=true):iM X (.builtin "max") (λxs H Q=>∃(p:ao) (ns:List Int),xs=[.ref p]∧SqL X.K H p (ns.map V.int)∧ns≠[]∧Q (.int (k7 ns)) H):=by
 intro aI s σ H xs us Q I r h;obtain⟨p,ns,rfl,hq,hne,q⟩:=h;obtain⟨u,rfl,ru⟩:=mO r;cases(show u=af.ref p from ru);obtain⟨its,rv,pl,hz⟩:=I.list hq;have hi:=ints_are rv;obtain⟨ys,hx⟩:=hi.allInts.items;have hl':s.heap.IsList p (intItems ys):=hx ▸ pl.isList;have e1:ns=ys.toList.map (·.1):=by
  rw[←nums_intItems,←hx];exact(show numsOf its.toArray.toList=ns from hi.numsOf).symm
 have hsz:0<ys.size:=by
  have:0<ns.length:=List.length_pos_iff.mpr hne;rw[e1,ae,eP] at this;exact this
 apply max_intList (I.ok.hd hc) hl' hsz λv h' tk hv hk=>?_
 obtain⟨t,rfl⟩:=intItems_at hv;obtain⟨b1,b2⟩:=argBest_gt (numAt ys) (ys.size - 1);obtain⟨l1,l2⟩:=great_ok ns hne;have m1:numAt ys (argBest (λi j=>decide (numAt ys i > numAt ys j)) (ys.size - 1))∈ns:=by
  rw[e1,numAt_eq];exact getD_mem (by rw[ae,eP];lia)
 have m2:numAt ys (argBest (λi j=>decide (numAt ys i > numAt ys j)) (ys.size - 1))=k7 ns:=by
  apply Int.le_antisymm (l2 _ m1) ?_;have l3:k7 ns∈ys.toList.map (·.1):=by rw[←e1];exact l1
  obtain⟨j,hj,e⟩:=mem_getD l3;rw[ae,eP] at hj;rw[←e,←numAt_eq];exact b2 j ⋯
 rw[m2];exact⟨.int (k7 ns),H,I.kept (t':=tk) hk,⟨t,rfl⟩,q⟩
end L2
namespace HN
open PySem L2 PyProof.Rows HT2
abbrev sPln:cW:=top 105
theorem lsC_idx:∀{rows:List PR} {x:Ln},x∈lsC rows→∃i,rows[i]? =some (.line x.n x.ss x.rs)∧∀m,i<m→x∈lsC (rows.take m):=by
 intro rows
 induction rows using snocI with
 | h0=>intro x h;cases h
 | h1 rs r ih =>
  intro x h;have old:x∈lsC rs→∃i,(rs++[r])[i]? =some (.line x.n x.ss x.rs)∧∀m,i<m→x∈lsC ((rs++[r]).take m):=λh=>by
   obtain⟨i,h1,h2⟩:=ih h;have li:=(ai.mp h1).1;apply⟨i,by rw[bI li];exact h1,λm hm=>?_⟩
   by_cases c:m≤rs.length
   ·rw[iB c];exact h2 m hm
   ·rw[eM (by rw[aq];show rs.length+1≤m;lia)]
    exact lsC_sub [r] rs h
  rw[iD] at h;cases r with
  | beat b=>exact old h
  | oth k ns is=>exact old h
  | line n ss rs' =>
   rcases aL.mp h with h | h
   ·exact old h
   ·rw[aB.mp h]
    apply⟨rs.length,by rw[bh (aD _),gp];rfl,λm hm=>?_⟩;rw[eM (by rw[aq];show rs.length+1≤m;lia),iD];exact bf _ (aB.mpr rfl)
theorem nP.okI (h:nP b pre r):r.okI:=by
 cases r with
 | beat b=>exact h
 | line n ss rs=>exact h.2
 | oth k ns is =>
  rcases h with ⟨rfl,x,z,l,o,w,i,_,rfl,_⟩ | ⟨hk,sn,⟨x,y,_,_,_,B⟩,_⟩
  ·exact⟨by trivial,aD _,λ_=>rfl⟩
  ·apply⟨(bt_kind B).2.1,?_,λz=>qK z hk⟩
   cases B <;> simp
theorem ib.okI (h:ib b rows):∀r∈rows,r.okI:=λr hr=>by
 obtain⟨i,hi⟩:=cb hr;exact(h i r hi).okI
theorem MoreOk.wds (h:MoreOk b prs rows r):∃(k w1 w2:Str) (t:List V),r.rowV= .str k:: .str w1:: .str w2::t∧r.isL=false∧(∃x∈lsC prs,x.n=w1)∧(∀p,r.sty2=some p→p ∉ stz rows) ∧
  (∀m,(∀x∈lsC prs,x.n=w1∨x.n=w2→x∈lsC (rows.take m))→nP b (rows.take m) r)∧r.spn=(if k = "stay" then 0 else 1):=by
 cases r with
 | beat b=>exact qK h id
 | line n ss rs=>exact qK h id
 | oth k ns is =>
  rcases h with ⟨rfl,x,z,l,o,w,i,hx,rfl,rfl,h1,h2,h3,h4,h5⟩ | ⟨hk,sn,⟨x,y,hx,hy,ne,B⟩,num,wi⟩
  ·apply⟨"stay",x.n,z,[.int l,.int o,.int w],rfl,rfl,⟨x,hx,rfl⟩,λp hp=>?_,λm hm=> .inl ⟨rfl,x,z,l,o,w,i,hm x hx (.inl rfl),rfl,rfl,h1,h2,h3,λq=>h4 ?_,h5⟩,rfl⟩
   ·have:(some (x.n,z):Option (Str×Str))=some p:=by rw[←hp];unfold PR.sty2;exact(qJ rfl).symm
    cases this;exact h4
   ·obtain⟨r',hr',e'⟩:=ef.mp q
    exact ef.mpr ⟨r',g9 hr',e'⟩
  ·obtain⟨t,et⟩:∃t,ns=x.n::y.n::t:=by cases B <;> exact⟨ρ⟩
   apply⟨k,x.n,y.n,t.map V.str++is.map V.int,by rw[et];rfl,rfl,⟨x,hx,rfl⟩,λp hp=>?_,λm hm=> .inr ⟨hk,sn,⟨x,y,hm x hx (.inl rfl),hm y hy (.inr rfl),ne,B⟩,num,wi⟩,rfl⟩;exfalso;have e:(PR.oth k ns is).sty2=none:=by
    unfold PR.sty2;split
    ·next h=>cases h;exact qI hk
    ·rfl
   rw[e] at hp;cases hp
theorem mn.ins {H:Hp}{xs:List V}{rows:List (List V)}{B:ao}{r:List V}{m:Nat}(h:mn H xs rows)(hm:m≤rows.length)(hB:H B=some (.lst r)):mn H (xs.take m++[.ref B]++xs.drop m) (rows.take m++r::rows.drop m):=⟨by
  have:=h.len;simp only[aq,aZ,bK,az,jJ];lia,λi q hq=>by
 have l:=h.len;have lt:(rows.take m).length=m:=by rw[aZ];lia
 have lx:(xs.take m).length=m:=by rw[aZ];lia
 rcases ic i m with c | c | c
 ·rw[bI ⋯,eX c] at hq
  obtain⟨a,h1,h2⟩:=h.get i q hq;exact⟨a,by rw[bI (by rw[aq];lia),bI ⋯,eX c];exact h1,h2⟩
 ·subst c
  rw[bh ⋯,lt,gp,List.getElem?_cons_zero] at hq;cases hq;exact⟨B,by rw[bI (by rw[aq];show i<(xs.take i).length+1;lia),bh ⋯,lx,gp];rfl,hB⟩
 ·obtain⟨j,rfl⟩:∃j,i=m+1+j:=⟨i - m - 1,⋯⟩
  rw[bh ⋯,lt,show m+1+j - m=j+1 by lia,bq,fe] at hq;obtain⟨a,h1,h2⟩:=h.get _ q hq;have l3:(xs.take m++[V.ref B]).length=m+1:=by rw[aq,lx];rfl
  exact ⟨a,by rw [bh ⋯,l3,show m+1+j - (m+1)=j by lia,fe];exact h1,h2⟩⟩
theorem spn_ins (rows:List PR)(r:PR)(m:Nat):nU (rows.take m++r::rows.drop m)=nU rows+r.spn:=by
 have e:nU rows=nU (rows.take m)+nU (rows.drop m):=by
  conv=>lhs;rw[←eV m rows]
  unfold nU;rw[ax,jI]
 rw[e];unfold nU;rw[ax,jI,bw,fG];lia
theorem spn_lines:∀{prs:List PR},(∀r∈prs,r.lnOk)→(prs.map λr=>((r.rowV.length:Nat):Int) - 4).sum=((nU prs:Nat):Int)
 | [],_=>rfl
 | r::prs,h=>by
  have ih:=spn_lines (prs:=prs) λq hq=>h q (aH _ hq)
  have o:=h r aW;rw[bw,fG,ih];unfold nU;rw[bw,fG];cases r with
  | beat b=>exact qK o id
  | oth k ns is=>exact qK o id
  | line n ss rs =>
   obtain⟨_,_,_,o4,_,o6,_⟩:=o;have:(PR.line n ss rs).rowV.length=2 * rs.length+3:=by
    show(jL ss rs).length+1+1=_;rw[ku o6];lia
   rw[this];show((2 * rs.length+3:Nat):Int) - 4+_=(((2 * rs.length - 1)+_:Nat):Int);lia
theorem qd.spn (L:qd prs):nU prs≤16:=by
 have e:=own_C prs;have b0:bwP prs=0:=by
  have:∀{l:List PR},(∀r∈l,r.lnOk)→bwP l=0:=by
   intro l
   induction l with
   | nil=>intro _;rfl
   | cons r l ih =>
    intro h;have o:=h r aW;have:=ih λq hq=>h q (aH _ hq)
    unfold bwP at *;rw[bw,fG,this];cases r with
    | beat b=>rfl
    | line n ss rs=>rfl
    | oth k ns is=>exact qK o id
  exact this L.ok
 have le:∀ls:List Ln,(ownL ls:Int)≤jw ls:=by
  intro ls
  induction ls with
  | nil=>simp[ownL,jw]
  | cons x ls ih =>
   unfold ownL jw at *;rw[bw,fG,bw,fG];lia
 have:=le (lsC prs);have:=L.hap;lia
theorem qd.few8 (L:qd prs):prs.length≤8:=by
 have go:∀l:List PR,(∀r∈l,r.lnOk)→2 * (l.length:Int)≤jw (lsC l):=by
  intro l
  induction l using snocI with
  | h0=>intro _;decide
  | h1 l r ih =>
   intro h;have i:=ih λq hq=>h q (cE _ hq)
   have o:=h r (bf _ (aB.mpr rfl));rw[iD,aq];cases r with
   | beat b=>exact qK o id
   | oth k ns is=>exact qK o id
   | line n ss rs =>
    show 2 * ((l.length+1:Nat):Int)≤jw (lsC l++[_]);rw[lJ];obtain⟨_,_,_,o4,_,o6,_⟩:=o
    dsimp only
    lia
 have:=go prs L.ok;have:=L.hap;lia
theorem qd.ne' (L:qd prs):lsC prs≠[]:=λz=>by
 have ne:=L.ne;have ok:=L.ok;cases prs with
 | nil=>exact ne rfl
 | cons r l =>
  have o:=ok r aW;cases r with
  | beat b=>exact o
  | oth k ns is=>exact o
  | line n ss rs =>
   have:=lsC_at (prs:= .line n ss rs::l) (i:=0) rfl;rw[z] at this;cases this
inductive spPln (K:aj)(vs:List V)(H:Hp)(Q:VK)(_:XK):Prop
 | mk (a:ao)(ns:List Int)(_:vs=[.ref a])(_:SqL K H a (ns.map V.int))(_:ns.length≤63)(_:∀(q L:ao) (xs:List V) (b:Int) (rows:List PR) (H':Hp),cB H H'→H' q=some (.tup [.int b,.ref L])→H' L=some (.lst xs)→mn H' xs (rows.map PR.rowV)→b≤10 ^ 21→p9 b rows→Q (.ref q) H')
theorem nW:cI ["_law_script","_law_pot_here","_law_beat","_law_lines_here","_law_rows","_law_many","_law_k","_law_row","_law_last","_law_at"] pzj (defScope sPln):=by trivial
theorem ok_pln {fT fP fN fL fM:ao}{dT dP dN dL dM:aU}(F:Fun K "_law_plan" "_law_plan" sPln f fd)(T:Nm mg)(T2:Nt mg)(hint:mg "int" =none)(GT:Fn K mg "_law_take" qf pze fT dT)
  (GP:Fn K mg "_law_pot" sPotT pzf fP dP) (FP:‹0› 2 fP dP pzf (spPotT K))
  (GN:Fn K mg "_law_names" sNms pzy fN dN) (FN:‹0› 2 fN dN pzy spNms)
  (GL:Fn K mg "_law_lines" sLns pzA fL dL) (FL:‹0› 3 fL dL pzA (spLns K))
  (GM:Fn K mg "_law_more_row" sMor pzs fM dM) (FM:‹0› 3 fM dM pzs spMor):‹0› 4 f fd pzj (spPln K):=by
 have FT:‹0› 1 fT dT pze ng:=mz GT.F;specialize F.ok nW;obtain ⟨a,ns,rfl,ha,lns,k⟩:=h;have hr1:ke 1 _:=hr.mono ↥0;have hr2:ke 2 _:=hr.mono ↥0;have hr3:ke 3 _:=hr;apply ⟨_,PSl.h (bz ⟨(psZ 1 nW.nd (pc1 GP FP hr2 (ah (pv 0) (ah aP ay))))⟩
  (bz ⟨(psZ 2 nW.nd (c7 gx aP (pc1 GT FT hr1 (ah (pv 1) (ah (PEs.h (qe bX (mE (cO jF (cO jF (cO jF (cO (qD op_pow jF jF) l7))))) ⟨pc1 GT FT hr1 (ah (pv 1) (ah aP ay))⟩ (fun _ _=>rfl))) ay)))))⟩
  (bz ⟨(psZ 3 nW.nd (pc1 GL FL hr3 (ah (pv 0) (ah (pc1 GN FN hr2 (ah (pc1 GP FP hr2 (ah (pv 0) (ah aP ay))) (ah aP ay))) (ah (pc1 GN FN hr2 (ah (pv 1) (ah aP ay))) (ah aP ay))))))⟩
  (bz ⟨(psZ 4 nW.nd (gJ call_listA rfl T2.tlist boot_list (ah (pv 3) ay)))⟩
  (bz ⟨(psZ 5 nW.nd (b8 (call_sum rfl) rfl T2.sum boot_sum (ah (nZ (fr:=[]) (js:=[]) rfl (jo (pv 3)) ⇑0 rfl ⇑0 rfl (by exists sPln) ⇑0 rfl ⇑0 (fun _ _ _ _ _=>⟨(c7 ji (b8 (lenK K) rfl T.len bu (ah (pv 0) ay)) aP),ki⟩)) ay)))⟩
  (bz ⟨(je cz rfl (pi_range2 rfl T2.range (ah aP (ah (b8 (pY rfl) rfl T.min boot_min (ah (b8 cF rfl T.len bu (ah (pv 0) ay)) (ah aP ay))) ay))) (pgZ 6 nW.nd) (PSl.h (bz ⟨(psZ 1 nW.nd (pc1 GP FP hr2 (ah (pv 0) (ah (pv 6) ay))))⟩
  (bz ⟨(psZ 7 nW.nd (pc1 GM FM hr3 (ah (pv 1) (ah (pv 2) (ah (pv 3) (ah (pv 4) ay))))))⟩
  (gy ⟨(gC (PW.pt (nj (cf op_notN (pv 7) jf (cN _)) (lQ (cf op_lt (pv 5) aP (cN _))))) (PSl.h (bz ⟨(psZ 8 nW.nd (b8 (call_max1 rfl) rfl T2.max boot_max (ah (nZ (fr:=["_law_row","_law_rows"]) (js:=[7,4]) rfl (kJ rfl T2.range (ah (b8 cF rfl T.len bu (ah (pv 4) ay)) ay)) ⇑0 rfl ⇑0 rfl (by exists sPln) ⇑0 rfl ⇑0 (fun _ _ _ _ _=>⟨(pv 0),(pts_one (PW.pt (nj (cf iW (fK (r:=rIxL K) bX (fK (r:=rIxL K) bX (pv 2) (pv 0) (fun _ _=>rfl)) aP (fun _ _=>rfl)) dC (cN _)) (lQ (cf (r:=rIn K false) nk (fK (r:=rIxL K) bX (fK (r:=rIxL K) bX (pv 2) (pv 0) (fun _ _=>rfl)) aP (fun _ _=>rfl)) (fq (sl_listK K) (pv 1) (fZ aP) (fZ aP)) rfl)))))⟩)) ay)))⟩
  (bz ⟨(psZ 9 nW.nd (c7 gx (c7 gx (pv 8) aP) (pc1 GT FT hr1 (ah (pv 1) (ah (c7 ji (b8 cF rfl T.len bu (ah (pv 4) ay)) (pv 8)) ay)))))⟩
  (bz ⟨(psZ 4 nW.nd (c7 iX (c7 iX (fq iC (pv 4) hZ (fZ (pv 9))) (ij (ah (pv 7) ay))) (fq iC (pv 4) (fZ (pv 9)) hZ)))⟩
  (gy ⟨(psZ 5 nW.nd (c7 gx (pv 5) (gJ nM rfl hint boot_int (ah (kK qh (fK bX (pv 7) aP (fun _ _=>rfl)) dC (cN _)) ay))))⟩))))) cZ)⟩)))))⟩
  (gy ⟨(cA (jq (ah (pv 2) (ah (pv 4) ay))))⟩))))))),?_⟩
 have sq:∀{H':Hp},cB H H'→SqL K H' a (ns.map V.int):=λS=>SqL.kept' S ha
 have big:(100000:Nat)≤aA:=by decide
 apply⟨ρ,a,ns,1,rfl,ha,↥0,↥0,λm1 p1 hp1=>?_⟩;have S1:cB H (upd H p1 (.lst [.int m1])):=cB.put (cB.refl H) hp1;have h1:(upd H p1 (.lst [.int m1])) p1=some (.lst [.int m1]):=aR;generalize upd H p1 (.lst [.int m1])=H1 at S1 h1 ⊢;apply⟨ρ,ς,⟨↥0,↥0,↥0⟩,szZ4,λB H2 S2 e2=>?_⟩;apply⟨ρ,p1,m1,4,rfl,S2 _ _ h1,↥0,↥0,λr H3 a0 a1 M3=>?_⟩;have e3:=M3.1 _ _ (eF e2 (S2 _ _ h1) (iY ∅)) e2;obtain⟨v,ev,mv⟩:=nN (xs:=[V.int 60,.int 60,.int 10,.int (10 ^ 20)]) a0 (by show r<4;lia);obtain⟨Mx,rfl,Mx1,Mx2⟩:∃M:Int,v= .int M∧1≤M∧M≤10 ^ 20:=by
  simp only[aw,aO,or_false] at mv
  rcases mv with rfl | rfl | rfl | rfl
  ·exact⟨ρ,↥0,↥0⟩
  ·exact⟨ρ,↥0,↥0⟩
  ·exact⟨ρ,↥0,↥0⟩
  ·exact⟨ρ,↥0,↥0⟩
 obtain⟨n3,hp3⟩:=M3.2;apply⟨B,τ,SqL.of e3,ev,p1,n3,Mx,rfl,hp3,⋯,⋯,λr4 H4 b0 b1 M4=>⟨ς,?_⟩⟩;obtain⟨b,eb⟩:∃b,1+r4=b:=⟨_,rfl⟩;have hb1:1≤b:=by lia
 have hb2:b≤10 ^ 20+1:=by lia
 show mP 2 (V.int (1+r4)) _ _ _;rw[eb];have M14:Mv p1 H1 H4:=((Mv.of S2 (S2 _ _ h1)).trans M3).trans M4;have S4:cB H H4:=cB.mv S1 hp1 M14;obtain⟨n4,hp4⟩:=M14.2;apply⟨ρ,ρ,a,ns,2,rfl,sq S4,↥0,↥0,λm5 p5 hp5=>?_⟩;have S5:cB H4 (upd H4 p5 (.lst [.int m5])):=cB.put (cB.refl H4) hp5;have h5:(upd H4 p5 (.lst [.int m5])) p5=some (.lst [.int m5]):=aR;generalize upd H4 p5 (.lst [.int m5])=H5 at S5 h5 ⊢;apply⟨p5,m5,4,rfl,h5,↥0,λN nn H6 M6 hN ln ndN okN=>?_⟩;have S6:cB H4 H6:=cB.mv S5 hp5 M6;apply⟨ρ,p1,n4,8,rfl,S6 _ _ hp4,↥0,λS ss H7 M7 hS ls ndS okS=>?_⟩;have hN7:=M7.1 _ _ (eF hN (S6 _ _ hp4) (iY (by rw[ae,ln];simp))) hN;have S7:cB H H7:=cB.mv (S4.trans S6) hp1 M7;apply⟨a,N,S,ns,nn,ss,4,rfl,sq S7,hN7,ndN,okN,hS,⟨⋯,⋯⟩,ndS,okS,↥0,by rw[ln];decide,⋯,λLL x0 prs H8 S8 _ hLL rw0 lok=>?_⟩;have SH8:=S7.trans S8;apply⟨ρ,LL,x0,rfl,.inl (SqL.of hLL),λR0 H9 S9 hR0=>?_⟩;have SH9:=SH8.trans S9;have lx0:x0.length=prs.length:=by rw[rw0.len,ae]
 have fewp:=lok.few8;apply⟨ρ,LL,rfl,⟨_,SqL.of (S9 _ _ hLL)⟩,?_⟩;apply j7 (K:=K) (a:=LL) (xs:=x0) (λi zs HA=>HA=H9∧zs=((prs.take i).map λr=>((r.rowV.length:Nat):Int) - 4).map V.int) ⟨rfl,rfl⟩ (λi zs HA hi q=>?_) ⋯ (λi x zs HA hx q=>?_) (λzs HA q D hD=>?_)
 ·obtain⟨rfl,g2⟩:=q
  exact⟨SqL.of (S9 _ _ hLL),by rw[g2,ae,ae,aZ];lia⟩
 ·obtain⟨rfl,g2⟩:=q
  have hi:i<prs.length:=by rw[←lx0];exact(ai.mp hx).1
  obtain⟨c,hxc,hrc⟩:=rw0.get i prs[i].rowV (by rw[aE,gE hi];rfl);rw[hx] at hxc;cases hxc;apply jj ?_;apply⟨ρ,c,ρ,.inl (SqL.of (S9 _ _ hrc)),ς,rfl,?_⟩;rw[g2,bW,gE hi,ax,ax];rfl
 obtain⟨rfl,g2⟩:=q;rw[lx0,cD] at g2;have Sa:cB HA (upd HA D (.lst zs)):=(cB.refl HA).put hD;have ha':(upd HA D (.lst zs)) D=some (.lst ((prs.map λr=>((r.rowV.length:Nat):Int) - 4).map V.int)):=by rw[aR,g2]
 generalize upd HA D (.lst zs)=H10 at Sa ha' ⊢;apply⟨D,ρ,SqL.of ha',?_⟩;rw[spn_lines lok.ok];have SH10:=SH9.trans Sa;have hR10:=Sa _ _ hR0;have hLL10:=Sa _ _ (S9 _ _ hLL);have rw10:=rw0.same (S9.trans Sa);apply⟨ρ,a,ρ,.inl (sq SH10),_,ρ,8,ρ,⟨↥0,↥0,by rw[ae];split <;> lia,by rw[ae];split <;> lia⟩,?_⟩;rw[ae];have nst:((if (63:Int)<(ns.length:Int) then (63:Int) else (ns.length:Int)) - 8).toNat≤55:=by split <;> lia
 generalize ((if (63:Int)<(ns.length:Int) then (63:Int) else (ns.length:Int)) - 8).toNat=nst' at nst ⊢;have spl:=lok.spn;apply mG (lo:=8) (n:=nst') (λi σ HA=>cB H10 HA∧∃(R:ao) (xs:List V) (rows:List PR),HA R=some (.lst xs)∧mn HA xs (rows.map PR.rowV)∧ib b rows∧lsC rows=lsC prs∧nU rows≤40∧rows.length≤8+i∧∃v1 v6 v7 v8 v9,σ=[some (.ref a),v1,some (.int b),some (.ref LL),some (.ref R),some (.int (nU rows:Nat)),v6,v7,v8,v9])
  ⟨cB.refl _,R0,x0,prs,hR10,rw10,lok.rows b,rfl,⋯,⋯,_,_,_,_,_,rfl⟩ ?_ ?_
 ·rintro i σ HA hi ⟨SA,R,xs,rows,hR,rwA,okA,eC,spA,lA,v1,v6,v7,v8,v9,rfl⟩
  apply⟨ρ,ρ,a,ns,ρ,sq (SH10.trans SA),⋯,⋯,λmb pb hpb=>?_⟩;have Sb:cB HA (upd HA pb (.lst [.int mb])):=cB.put (cB.refl HA) hpb;have hb:(upd HA pb (.lst [.int mb])) pb=some (.lst [.int mb]):=aR;generalize upd HA pb (.lst [.int mb])=HB at Sb hb ⊢;have okI:=okA.okI;have lx:xs.length=rows.length:=by rw[rwA.len,ae]
  apply⟨ρ,ρ,ρ,ρ,pb,mb,b,LL,R,x0,xs,prs,rows,rfl,hb,⟨hb1,⋯⟩,(SA.trans Sb) _ _ hLL10,rw10.same (SA.trans Sb),lok,Sb _ _ hR,rwA.same Sb,okI,⋯,λHC MC=>?_,λLr r HC MC eL mo=>?_⟩
  ·apply⟨ρ,rfl,ρ,lq rfl ?_⟩
   have SC:cB HA HC:=cB.mv Sb hpb MC;exact⟨SA.trans SC,R,xs,rows,SC _ _ hR,rwA.same SC,okA,eC,spA,⋯,_,_,_,_,ρ⟩
  ·have SC:cB HA HC:=cB.mv Sb hpb MC
   have rwC:=rwA.same SC;have hRC:=SC _ _ hR;apply⟨ρ,rfl,ρ,qj rfl ?_⟩;apply⟨ρ,ς,ρ,jC (λc1=>?_) (λc1=>?_)⟩
   rotate_left
   ·exact⟨SA.trans SC,R,xs,rows,hRC,rwC,okA,eC,spA,⋯,_,_,_,_,ρ⟩
   have c1:(nU rows:Int)<40:=qN c1;obtain⟨kd,w1,w2,t,er,nl,⟨x1,hx1,ex1⟩,fs,mk,sr⟩:=mo.wds;rw[er] at eL;apply⟨ρ,R,ρ,.inl (SqL.of hRC),ρ,⋯,⋯,?_⟩;rw[fU,lx];apply om (lo:=0) (n:=rows.length) (λt zs HD=>cB HC HD∧∃js:List Int,zs=js.map V.int∧js.length≤t∧(∀j∈js,0≤j∧j<rows.length)∧∀(u:Nat),u<t→∀n ss rs,rows[u]? =some (.line n ss rs)→n=w1∨n=w2→(u:Int)∈js)
    ⟨cB.refl _,[],rfl,aD _,(λj hj=>by cases hj),(λu hu=>qK hu (jM _))⟩ (λt zs HD _ q=>by obtain⟨_,js,e,hl,_⟩:=q;rw[e,ae];exact hl) ⋯ (λt zs HD ht q=>?_) (λzs HD q D2 hD2=>?_)
   ·obtain⟨SD,js,rfl,lj,bj,cj⟩:=q
    obtain⟨c,hxc,hrc⟩:=rwC.get t rows[t].rowV (by rw[aE,gE ht];rfl);have hrt:=gE ht;have hrc:=SD _ _ hrc;have hRD:=SD _ _ hRC;have i0:atI xs (0+(t:Int))=some (.ref c):=by rw[Int.zero_add];exact bp hxc
    have nxt':∀ {HE:Hp},cB HC HE→(∀ n ss rs,rows[t]? =some (.line n ss rs)→n=w1∨n=w2→False)→cB HC HE∧∃ js2:List Int,js.map V.int=js2.map V.int∧js2.length≤t+1∧(∀ j∈js2,0≤j∧j<rows.length)∧∀ (u:Nat),u<t+1→∀ n ss rs,rows[u]? =some (.line n ss rs)→n=w1∨n=w2→(u:Int)∈js2:=fun SE no=>⟨SE,js,rfl,⋯,bj,fun u hu n ss rs e1 e2=>by
     rcases jH.mp hu with hu | hu
     ·exact cj u hu n ss rs e1 e2
     ·subst hu;exact qK e2 (no n ss rs e1)⟩
    generalize rows[t]=rr at hrc hrt;cases rr with
    | beat b'=>exact qK (okI _ (aC hrt)) id
    | oth k' ns' is' =>
     have kl:k' ≠ "line" := (okI _ (aC hrt)).1;have hrc:HD c=some (.lst (.str k'::(ns'.map V.str++is'.map V.int))):=hrc;apply⟨ρ,ρ,R,τ,SqL.of hRD,i0,c,τ,SqL.of hrc,bp (j:=0) rfl,rfl,ρ,lq (qM λz=>kl (by injection z)) ?_⟩;exact nxt' SD λn ss rs e _=>by rw[hrt] at e;cases e
    | line n' ss' rs' =>
     have hrc:HD c=some (.lst (.str "line" :: .str n'::jL ss' rs')):=hrc;apply⟨ρ,ρ,R,τ,SqL.of hRD,i0,c,τ,SqL.of hrc,bp (j:=0) rfl,rfl,ρ,qj (qL rfl) ?_⟩;apply⟨ρ,ρ,R,τ,SqL.of hRD,i0,c,τ,SqL.of hrc,bp (j:=1) rfl,ρ,ρ,ρ,Lr,ρ,SqL.of (SD _ _ eL),λW HE SE eE=>?_⟩;rw[cut13] at eE;have SE2:=SD.trans SE;apply⟨W,ρ,.inl (SqL.of eE),rfl,rfl,ρ,?_⟩;show if inV (.str n') (([w1,w2]:List Str).map V.str)=true then _ else _;rw[inV_str];apply jC (λc2=>?_) (λc2=>?_)
     ·apply⟨ρ,SE2,js++[(0+(t:Int))],by rw[ax];rfl,by rw[aq];show js.length+1≤t+1;lia,λj hj=>?_,λu hu n ss rs e1 e2=>?_⟩
      ·rcases aL.mp hj with hj | hj
       ·exact bj j hj
       ·rw[aB.mp hj];lia
      ·rcases jH.mp hu with hu | hu
       ·exact cE _ (cj u hu n ss rs e1 e2)
       ·subst hu;exact bf _ (aB.mpr ⋯)
     ·exact nxt' SE2 λn ss rs e e2=>by
       rw[hrt] at e;cases e;apply c2 (qL ?_)
       rcases e2 with rfl | rfl <;> simp
   obtain⟨SD,js,rfl,lj,bj,cj⟩:=q;have all:∀x∈lsC prs,x.n=w1∨x.n=w2→∃u:Nat,(u:Int)∈js∧∀m,u<m→x∈lsC (rows.take m):=λx hx e=>by
    rw[←eC] at hx;obtain⟨u,e1,e2⟩:=lsC_idx hx;exact⟨u,cj u (ai.mp e1).1 _ _ _ e1 e,e2⟩
   obtain⟨u1,hu1,_⟩:=all x1 hx1 (.inl ex1);have jne:js≠[]:=λz=>by rw[z] at hu1;cases hu1
   obtain⟨gm,gle⟩:=great_ok js jne;have SDe:cB HC (upd HD D2 (.lst (js.map V.int))):=SD.put hD2;have hDe:(upd HD D2 (.lst (js.map V.int))) D2=some (.lst (js.map V.int)):=aR;generalize upd HD D2 (.lst (js.map V.int))=HE at SDe hDe ⊢;apply⟨D2,js,rfl,SqL.of hDe,jne,?_⟩;obtain⟨g0,g1⟩:=bj _ gm;generalize k7 js=la at gm gle g0 g1 ⊢;obtain⟨la,rfl⟩:=dm g0;have ME:=MC.then SDe;obtain⟨nE,hpE⟩:=ME.2;have hRE:=SDe _ _ hRC;apply⟨ρ,ς,ρ,ρ,R,ρ,.inl (SqL.of hRE),ρ,ς,pb,nE,ρ,hpE,(by show(0:Int)<(xs.length:Int) - (la:Int);lia),(by show(xs.length:Int) - (la:Int)<10 ^ 61;lia),λr5 HF r50 r51 MF=>⟨ς,?_⟩⟩;have r51:r5<(xs.length:Int) - (la:Int):=r51;obtain⟨r5,rfl⟩:=dm r50;obtain⟨m,em⟩:∃m:Nat,(la:Int)+1+(r5:Int)=(m:Int):=⟨la+1+r5,⋯⟩;have hm:la<m:=by lia
   have hm2:m≤rows.length:=by lia
   show mP 9 (V.int ((la:Int)+1+(r5:Int))) _ _ _;rw[em];have SF:cB HA HF:=cB.mv (Sb) hpb (ME.trans MF);have hRF:=SF _ _ hR;have rwF:=rwA.same SF;have eLF:=MF.1 _ _ (eF (SDe _ _ eL) hpE (iY ∅)) (SDe _ _ eL);apply⟨ρ,ρ,ρ,R,ρ,SqL.of hRF,λA1 HG SG eG=>?_⟩;rw[cutU (i:=(m:Int)) (n:=m) rfl] at eG;apply⟨ρ,szZ1,λA2 HI SI eI=>?_⟩;apply⟨A1,A2,ς,SI _ _ eG,eI,(by rw[aZ];show _+1≤aA;lia),λA3 HJ SJ eJ=>?_⟩;apply⟨ρ,ρ,ρ,R,ρ,SqL.of ((SG.trans (SI.trans SJ)) _ _ hRF),λA4 HK SK eK=>?_⟩;rw[cutF (i:=(m:Int)) (n:=m) rfl] at eK;apply⟨A3,A4,ς,SK _ _ eJ,eK,(by rw[aq,aZ,bK];show _+1+_≤aA;lia),λA5 HL SL eL5=>?_⟩;have SFL:cB HF HL:=SG.trans (SI.trans (SJ.trans (SK.trans SL)));have eLL:=SFL _ _ eLF;apply⟨ρ,ρ,Lr,τ,SqL.of eLL,bp (j:=0) rfl,rfl,.inr ⟨ρ,ς,?_⟩⟩;have rwL:=(rwF.same SFL).ins (m:=m) (by rw[ae];exact hm2) (B:=Lr) (r:=r.rowV) (by rw[er];exact eLL);apply⟨SA.trans (SF.trans SFL),A5,_,rows.take m++r::rows.drop m,eL5,?_,okA.ins hm2 nl (mk m λx hx e=>?_) fs,?_,?_,?_,some (.ref pb),some (.int (8+(i:Nat))),some (.ref Lr),some (.int (la:Nat)),some (.int (m:Nat)),?_⟩
   ·rw[ax,bw,kC,fH]
    exact rwL
   ·obtain⟨u,h1,h2⟩:=all x hx e
    have:=gle _ h1;exact h2 m ⋯
   ·rw[lsC_ins nl,eV];exact eC
   ·rw[spn_ins,sr];split <;> lia
   ·rw[aq,az,aZ,bK];lia
   ·have e5:(nU rows:Int)+(if (!decide (V.str kd=V.str "stay"))=true then 1 else 0)=((nU (rows.take m++r::rows.drop m):Nat):Int):=by
     rw[spn_ins,sr]
     by_cases z:kd = "stay"
     ·rw[qJ z,z,qL rfl];rfl
     ·rw[qI z,qM λy=>z (by injection y)];rfl
    show[some (V.ref a),some (V.ref pb),some (V.int b),some (V.ref LL),some (V.ref A5),some (V.int ((nU rows:Int)+(if (!decide (V.str kd=V.str "stay"))=true then 1 else 0))),_,_,_,_]=_;rw[e5]
 ·rintro σ HA ⟨SA,R,xs,rows,hR,rwA,okA,eC,spA,lA,v1,v6,v7,v8,v9,rfl⟩
  apply⟨ρ,ρ,szZ2,λq HB SB eB=>?_⟩;exact k q R xs b rows HB (SH10.trans (SA.trans SB)) eB (SB _ _ hR) (rwA.same SB) ⋯ ⟨hb1,okA,by rw[eC];exact lok.hap,spA,⋯,by rw[eC];exact lok.ne'⟩
def NetOk (z:Str)(b:Int)(ls:List Ln)(bt:List Sn):Prop:=∃(z0:Str) (zr:List (Str×PR)),z.length≤100000∧bD z nl_=z0::zr.map (·.1)∧zr.length≤80∧z0.length≤100000∧bD z0 sp_=[("beat" :Str),lT b]∧W60 b ∧
 (∀q∈zr,q.1.length≤100000∧q.2.wds (bD q.1 sp_))∧Runs b [] [] (.beat b::zr.map (·.2)) ls bt∧ls≠[]
theorem intr_evs1:∀{ss:List Str} {rs:List Int},ss.length=rs.length+1→evs ((jL ss rs).drop 1)=rs.map V.int
 | [],_,h=>by simp at h
 | [_],[],_=>rfl
 | _::_::_,[],h=>by simp at h
 | s::[],r::rs,h=>by simp at h
 | s::u::ss,r::rs,h=>by
  have hl:(u::ss).length=rs.length+1:=by simpa using h
  have ih:=intr_evs1 hl
  match ss,rs,hl,ih with
  | [],[],_,_=>rfl
  | [],_::_,hl,_=>simp at hl
  | _::_,[],hl,_=>simp at hl
  | v::ss,q::rs,hl,ih =>
   show V.int r::evs ((jL (u::v::ss) (q::rs)).drop 1)=_;rw[ih];rfl
theorem intr_wok:∀{ss:List Str} {rs:List Int},(∀s∈ss,nam s=true)→(∀r∈rs,W60 r)→∀v∈jL ss rs,WOk v
 | [],_,_,_,v,hv=>by cases hv
 | s::ss,[],h1,h2,v,hv=>by
  have:v= .str s:=by
   have e:jL (s::ss) []=[.str s]:=by cases ss <;> rfl
   rw[e] at hv;exact aB.mp hv
  rw[this];exact .inl ⟨s,rfl,h1 s aW⟩
 | s::ss,r::rs,h1,h2,v,hv=>by
  have hv:v∈V.str s:: .int r::jL ss rs:=hv
  rcases aw.mp hv with rfl | hv
  ·exact .inl ⟨s,rfl,h1 s aW⟩
  ·rcases aw.mp hv with rfl | hv
   ·exact .inr ⟨r,rfl,h2 r aW⟩
   ·exact intr_wok (λx hx=>h1 x (aH _ hx)) (λx hx=>h2 x (aH _ hx)) v hv
theorem lnOk_W {n:Str}(h:(PR.line n ss rs).lnOk):∀r∈rs,W60 r:=λr hr=>by
 obtain⟨_,_,_,_,_,_,h7⟩:=h;have:=h7 r hr;exact⟨this.1,⋯⟩
theorem nP.oth {k:Str}(h:nP b pre (.oth k ns is))(hp:∀x∈lsC pre,(PR.line x.n x.ss x.rs).lnOk):nam k=true∧(k,ns.length,is.length)∈fms∧(∀z∈ns,nam z=true)∧(∀i∈is,W60 i)∧ns.length+is.length≤6:=by
 rcases h with ⟨rfl,x,z,l,o,w,i,hx,rfl,rfl,h1,_,_,_,u1,u2,u3,u4,u5,u6⟩ | ⟨hk,sn,⟨x,y,hx,hy,ne,B⟩,_,wi⟩
 ·obtain⟨n1,n2,_⟩:=hp x hx
  apply⟨by trivial,by simp[fms],λq hq=>?_,λq hq=>?_,∅⟩
  ·simp only[aw,aO,or_false] at hq
   rcases hq with rfl | rfl
   ·exact n1
   ·exact n2 _ (aC h1)
  ·simp only[aw,aO,or_false] at hq
   rcases hq with rfl | rfl | rfl
   ·exact⟨u1,⋯⟩
   ·exact⟨⋯,u4⟩
   ·exact⟨u5,⋯⟩
 ·obtain⟨n1,n2,_⟩:=hp x hx
  obtain⟨m1,m2,_⟩:=hp y hy;cases B with
  | change h1 h2 h3 h4 =>
   apply⟨by trivial,by simp[fms],λq hq=>?_,wi,∅⟩;simp only[aw,aO,or_false] at hq
   rcases hq with rfl | rfl | rfl
   ·exact n1
   ·exact m1
   ·exact n2 _ (aC h1)
  | apart h1 h2 h3 h4 =>
   apply⟨by trivial,by simp[fms],λq hq=>?_,wi,∅⟩;simp only[aw,aO,or_false] at hq
   rcases hq with rfl | rfl | rfl
   ·exact n1
   ·exact m1
   ·exact n2 _ (aC h1)
  | meet h1 h2 h3 h4 h5 h6 =>
   apply⟨by trivial,by simp[fms],λq hq=>?_,wi,∅⟩;simp only[aw,aO,or_false] at hq
   rcases hq with rfl | rfl | rfl | rfl
   ·exact n1
   ·exact m1
   ·exact n2 _ (aC h1)
   ·exact n2 _ (aC h2)
theorem nP.wok (h:nP b pre r)(hp:∀x∈lsC pre,(PR.line x.n x.ss x.rs).lnOk):r.rowV≠[]∧r.rowV.length≤12∧(∀v∈r.rowV,WOk v)∧r.wds (r.rowV.map wdS):=by
 cases r with
 | beat b=>exact qK h id
 | line n ss rs =>
  have w:=lnOk_W h.2;obtain⟨_,h1,h2,h3,h4,h5,h6,h7⟩:=h;have li:(jL ss rs).length=2 * ss.length - 1:=ku h6;apply⟨by show _::_≠[];simp,by show(jL ss rs).length+1+1≤12;lia,λv hv=>?_,rfl,⟨?_,?_,?_,rfl,?_,?_,h1,h2,w⟩⟩
  ·have hv:v∈V.str "line" :: V.str n::jL ss rs:=hv
   rcases aw.mp hv with rfl | hv
   ·exact .inl ⟨ρ,by trivial⟩
   ·rcases aw.mp hv with rfl | hv
    ·exact .inl ⟨ρ,h1⟩
    ·exact intr_wok h2 w v hv
  ·rw[ae];show 5≤(jL ss rs).length+1+1;lia
  ·rw[ae];show(jL ss rs).length+1+1≤100000;lia
  ·rw[ae];show((jL ss rs).length+1+1) % 2=1;lia
  ·show evs ((jL ss rs).map wdS)=ss
   rw[←pR,oW h6,b9];show ss.map id=ss;rw[List.map_id]
  ·show evs (((jL ss rs).map wdS).drop 1)=rs.map lT
   rw[←fH,←pR,intr_evs1 h6,b9];rfl
 | oth k ns is =>
  obtain⟨k1,k2,k3,k4,k5⟩:=h.oth hp;apply⟨by show _::_≠[];simp,by show(ns.map V.str++is.map V.int).length+1≤12;rw[aq,ae,ae];lia,λv hv=>?_,?_,k2,k3,k4⟩
  ·have hv:v∈V.str k::(ns.map V.str++is.map V.int):=hv
   rcases aw.mp hv with rfl | hv
   ·exact .inl ⟨ρ,k1⟩
   ·rcases aL.mp hv with hv | hv
    ·obtain⟨z,hz,rfl⟩:=aJ.mp hv
     exact .inl ⟨z,rfl,k3 z hz⟩
    ·obtain⟨z,hz,rfl⟩:=aJ.mp hv
     exact .inr ⟨z,rfl,k4 z hz⟩
  ·show k::(ns.map V.str++is.map V.int).map wdS=_
   rw[ax,b9,b9];show k::(ns.map id++is.map lT)=_;rw[List.map_id]
theorem ib.wok (h:ib b rows):∀r∈rows,r.rowV≠[]∧r.rowV.length≤12∧(∀v∈r.rowV,WOk v)∧r.wds (r.rowV.map wdS):=λr hr=>by
 obtain⟨i,hi⟩:=cb hr;exact(h i r hi).wok λx hx=>(h.take i).lnOk hx
theorem p9.netR (h:p9 b rows)(hb:b≤10 ^ 21)(ru:Runs b [] [] (.beat b::rows) (oz rows) bt):NetOk (qg b (rows.map PR.rowV)) b (oz rows) bt:=by
 have b1:=h.b1;have wb:W60 b:=⟨⋯,⋯⟩;have ok:=h.ok.wok;have ok2:∀r∈rows.map PR.rowV,r.length≤12∧∀v∈r,WOk v:=λr hr=>by
  obtain⟨q,hq,rfl⟩:=aJ.mp hr;exact⟨(ok q hq).2.1,(ok q hq).2.2.1⟩
 apply⟨("beat " :Str)++lT b,rows.map λr=>(oR r.rowV,r),qv wb ok2 (by rw[ae];exact h.few),?_,by rw[ae];have:=h.few;lia,?_,qG wb,wb,λq hq=>?_,?_,λz=>h.ne ?_⟩
 ·rw[mS wb λr hr=>(ok2 r hr).2,b9,b9]
  rfl
 ·rw[jT]
  have:=nr wb;have h5:("beat " :Str).length=5:=by trivial
  lia
 ·obtain⟨r,hr,rfl⟩:=aJ.mp hq
  obtain⟨o1,o2,o3,o4⟩:=ok r hr;apply⟨by have:=rowW_len2 o3 o2;show(oR r.rowV).length≤100000;lia,?_⟩;show r.wds (bD (oR r.rowV) sp_);rw[qu o3 o1];exact o4
 ·rw[b9]
  show Runs b [] [] (.beat b::rows.map id) _ _;rw[List.map_id];exact ru
 ·rw[←jD,z];rfl
theorem p9.net (h:p9 b rows)(hb:b≤10 ^ 21):∃bt,NetOk (qg b (rows.map PR.rowV)) b (oz rows) bt:=by
 obtain⟨bt,ru⟩:=h.runs;exact⟨bt,h.netR hb ru⟩
theorem nam_wk (h:nam x=true):Wk x∧x.length≤60∧1≤x.length:=by
 have h0:=h;unfold nam at h;simp only[ck,decide_eq_true_eq] at h;have no:∀c,¬(97≤c∧c≤122)→c ∉ x.cps.toList:=λc n m=>by rw[nam_no m n] at h0;cases h0
 exact⟨⟨no 32 ⋯,no 10 ⋯,⋯⟩,⋯,h.1⟩
theorem qz (h:gb x=true):Wk x∧x.length≤60∧1≤x.length:=by
 have h0:=h;unfold gb at h;simp only[ck,decide_eq_true_eq] at h;have no:∀c,¬(48≤c∧c≤57)→c ∉ x.cps.toList:=λc n m=>by rw[qA m n] at h0;cases h0
 exact⟨⟨no 32 ⋯,no 10 ⋯,⋯⟩,h.2.1,h.1⟩
theorem wds_rd (h:r.wds ws):RdR ws r:=by
 cases r with
 | beat b=>exact h
 | line n ss rs =>
  obtain⟨h0,W⟩:=h;apply⟨h0,W.five,W.odd,W.name,W.stops,?_,W.nn,W.sn⟩;rw[W.runs,b9];exact dn λi hi=>rdW_num (W.rn i hi)
 | oth k ns is =>
  obtain⟨e,f,nn,ii⟩:=h;apply⟨is.map lT,e,f,nn,?_⟩;rw[b9];exact dn λi hi=>rdW_num (ii i hi)
theorem rwP_of (h:r.rowV≠[]∧r.rowV.length≤12∧(∀v∈r.rowV,WOk v)∧r.wds (r.rowV.map wdS)):RwP (oR r.rowV) (r.rowV.map wdS):=by
 obtain⟨h1,h2,h3,h4⟩:=h;have F:=(wds_rd h4).form;apply⟨rfl,F,λx hx=>?_,?_,by rw[ae];exact h2⟩
 ·obtain⟨v,hv,rfl⟩:=aJ.mp hx
  rcases h3 v hv with ⟨s,rfl,hs⟩ | ⟨i,rfl,hi⟩
  ·exact nam_wk hs
  ·exact qz (mD hi)
 ·cases r with
  | beat b=>exact h4.elim
  | line n ss rs=>have:=h4.2.five;lia
  | oth k ns is =>
   obtain⟨e,f,_⟩:=h4;rw[e,az,aq,ae];have:2≤ns.length:=by
    unfold fms at f;simp only[aw,aO,or_false,gH] at f;lia
   lia
structure qk (m:Nat)(zs:List Str):Prop where
 ne:zs≠[]
 len:zs.length≤m
 nl:∀x∈zs,10 ∉ x.cps.toList∧x.length≤900
 rw:∀x∈zs.tail,∃ws,RwP x ws
theorem RwP.nl (h:RwP z ws):10 ∉ z.cps.toList:=λm=>by
 rw[h.eq,tj,nV] at m
 rcases join_in m with q | ⟨y,hy,q⟩
 ·lia
 ·exact(h.wk y hy).1.nl q
theorem lnz_of (wb:W60 b)(ok:ib b rows)(few:rows.length≤70):qk 71 ((("beat " :Str)++lT b)::(rows.map PR.rowV).map oR):=by
 have w:=ok.wok;apply⟨∅,by simp;lia,λx hx=>?_,λx hx=>?_⟩
 ·rcases aw.mp hx with rfl | hx
  ·obtain⟨q1,q2,_⟩:=qz (mD wb)
   apply⟨λm=>?_,?_⟩
   ·rw[iK] at m
    rcases aL.mp m with m | m
    ·exact qK m ⇑0
    ·exact q1.nl m
   ·rw[jT]
    have h5:("beat " :Str).length=5:=by trivial
    lia
  ·obtain⟨v,hv,rfl⟩:=aJ.mp hx
   obtain⟨r,hr,rfl⟩:=aJ.mp hv;have R:=rwP_of (w r hr);exact⟨R.nl,R.len⟩
 ·obtain⟨v,hv,rfl⟩:=aJ.mp hx
  obtain⟨r,hr,rfl⟩:=aJ.mp hv;exact⟨_,rwP_of (w r hr)⟩
theorem qk.dup (h:qk 71 zs):qk 72 (zs.take 2++zs.drop 1):=by
 have hl:=h.len
 match zs,h.ne with
 | z0::zr,_ =>
  apply⟨∅,?_,λx hx=>h.nl x ?_,λx hx=>h.rw x ?_⟩
  ·rw[aq,aZ,bK]
   rw[az] at hl ⊢;lia
  ·exact(aL.mp hx).elim g9 hI
  ·have hx:x∈zr.take 1++zr:=hx
   show x∈zr;exact(aL.mp hx).elim g9 id
theorem qk.up (h:qk 71 zs):qk 72 zs:=⟨h.ne,by have:=h.len;lia,h.nl,h.rw⟩
structure BadZ (zs:List Str):Prop where
 ne:zs≠[]
 len:zs.length≤80
 sum:(zs.map (·.length)).sum≤90000
 nl:∀x∈zs,10 ∉ x.cps.toList
 bad:(∃z0 r,zs=z0::r∧∀b,¬RdB z0 b)∨∃x∈zs.tail,¬md (bD x sp_)
theorem sum_set:∀{l:List Str} {i:Nat} {y:Str},((l.set i y).map (·.length)).sum≤(l.map (·.length)).sum+y.length
 | [],_,_=>by simp
 | a::l,0,y=>by simp;lia
 | a::l,i+1,y=>by
  have:=sum_set (l:=l) (i:=i) (y:=y);simp only[List.set_cons_succ,bw,fG];lia
theorem sum_le9:∀{zs:List Str},(∀z∈zs,z.length≤900)→(zs.map (·.length)).sum≤900 * zs.length
 | [],_=>by simp
 | z::zs,h=>by
  have:=sum_le9 (zs:=zs) λy hy=>h y (aH _ hy)
  have:=h z aW;rw[bw,fG,az];lia
theorem qk.set (h:qk 72 zs){y:Str}(hi:i<zs.length)(yl:y.length≤3000)(yn:10 ∉ y.cps.toList)(bad:(i=0∧∀b,¬RdB y b)∨(0<i∧¬md (bD y sp_))):BadZ (zs.set i y):=by
 have hl:=h.len;apply⟨λe=>h.ne (by rwa [List.set_eq_nil_iff] at e),by rw[iI];lia,?_,λx hx=>?_,?_⟩
 ·have:=sum_set (l:=zs) (i:=i) (y:=y)
  have:=sum_le9 λx hx=>(h.nl x hx).2
  lia
 ·rcases List.mem_or_eq_of_mem_set hx with q | rfl
  ·exact(h.nl x q).1
  ·exact yn
 ·match zs,h.ne with
  | z0::zr,_ =>
   rcases bad with ⟨rfl,b⟩ | ⟨i0,b⟩
   ·exact .inl ⟨y,zr,rfl,b⟩
   ·obtain⟨j,rfl⟩:∃j,i=j+1:=⟨i - 1,⋯⟩
    apply .inr ⟨y,?_,b⟩;show y∈zr.set j y;rw[az] at hi;exact List.mem_set ⋯ y
theorem BadZ.txt (h:BadZ zs):(dF nl_ zs).length≤100000∧∀b rs,¬RdP (dF nl_ zs) b rs:=by
 constructor
 ·rw[tj]
  have h1:=StrLaws.join_length_le nl_ zs;have h3:(nl_:Str).length=1:=by trivial
  have:=h.sum;have:=h.len;rw[h3] at h1;lia
 ·rintro b rs ⟨z0,zr,e,hb,hl,ha⟩
  rw[nl_eq,jS h.ne h.nl] at e
  rcases h.bad with ⟨y0,r,e',no⟩ | ⟨x,hx,no⟩
  ·rw[e] at e'
   cases e';exact no b hb
  ·rw[e] at hx
   obtain⟨j,hj⟩:=cb (show x∈zr from hx);have hjl:=(ai.mp hj).1;exact no (ha j x _ hj (gE ⋯)).form
theorem noB {y:Str}(h:(match bD y sp_ with | [k,x]=>k == ("beat" :Str) && gb x | _=>false)=false):∀b,¬RdB y b:=by
 rintro b ⟨x,e,hb⟩;rw[e] at h;have h:(("beat" :Str) == "beat" && gb x)=false:=h;rw[pj hb] at h;exact qK h ⇑0
def odds9:List Str:=["beat","beat 0 1","Beat 5","beat 05","","5","line a b 1 c","beat -1",("beat " :Str)++timesT "9" 61]
theorem odd9:∀y∈odds9,y.length≤3000∧10 ∉ y.cps.toList∧∀b,¬RdB y b:=by
 intro y hy;unfold odds9 at hy;simp only[aw,aO,or_false] at hy
 rcases hy with rfl | rfl | rfl | rfl | rfl | rfl | rfl | rfl | rfl <;> exact⟨by trivial,by trivial,noB ⇑0⟩
theorem passN:jQ (CXN X.prog X.w) X E0:=λaI σ H s e s' I h=>by
 obtain⟨a,cls,dct,B,H2,rfl,os,bare,al,air,hE⟩:=h;exact hE.elim
theorem rdP_of (wb:W60 b)(ok:ib b rows):RdP (qg b (rows.map PR.rowV)) b rows:=by
 have w:=ok.wok;apply⟨_,_,mS wb (λr hr=>by obtain⟨q,hq,rfl⟩:=aJ.mp hr;exact(w q hq).2.2.1),⟨_,qG wb,rdW_num wb⟩,by rw[ae,ae],λj x r hx hr=>?_⟩;rw[b9,aE,hr] at hx;cases hx;have q:=w r (aC hr);show RdR (bD (oR r.rowV) sp_) r;rw[qu q.2.2.1 q.1];exact wds_rd q.2.2.2
abbrev sHof:cW:=top 86
abbrev sHby:cW:=top 85
abbrev sTt:cW:=top 87
theorem passX {E:XK}:jQ CX0 X E:=λ_ _ _ _ _ _ _ h=>h.elim
theorem oy {a b:List Int}(h:a.map some=b.map some):a=b:=by
 have:=qO (List.filterMap id) h
 simpa using this
theorem RdR.one {r':PR}(h:RdR ws r)(h':RdR ws r'):r=r':=by
 cases ws with
 | nil =>
  cases r with
  | beat b=>exact h.elim
  | line n ss rs=>cases h.1
  | oth k ns is=>obtain⟨xs,e,_⟩:=h;cases e
 | cons w0 wt =>
  by_cases h0:w0 = "line"
  ·subst h0
   obtain⟨n,ss,rs,rfl,W⟩:=h.line_of;obtain⟨n',ss',rs',rfl,W'⟩:=h'.line_of;have e1:=W.name.symm.trans W'.name;have e2:=W.stops.symm.trans W'.stops;have e3:=oy (W.runs.symm.trans W'.runs);rw[bF e1,e2,e3]
  ·obtain⟨ns,is,xs,rfl,rfl,f1,_,m1⟩:=h.oth_of h0
   obtain⟨ns',is',xs',rfl,e,f2,_,m2⟩:=h'.oth_of h0;obtain⟨l1,_⟩:=pP f1 f2;obtain⟨rfl,rfl⟩:=List.append_inj e l1;rw[oy (m1.symm.trans m2)]
theorem RdP.one {b':Int}{rs rs':List PR}(h:RdP z b rs)(h':RdP z b' rs'):b=b'∧rs=rs':=by
 obtain⟨z0,zr,e,⟨x,ex,eb⟩,hl,ha⟩:=h;obtain⟨z0',zr',e',⟨x',ex',eb'⟩,hl',ha'⟩:=h';rw[e] at e';obtain⟨rfl,rfl⟩:=gX e';rw[ex] at ex';cases ex';rw[eb] at eb';apply⟨bF eb',List.ext_getElem? λj=>?_⟩
 by_cases hj:j<zr.length
 ·have a1:rs[j]? =some (rs[j]'⋯):=gE ⋯
  have a2:rs'[j]? =some (rs'[j]'⋯):=gE ⋯;have a0:zr[j]? =some zr[j]:=gE hj;rw[a1,a2];exact qO some ((ha j _ _ a0 a1).one (ha' j _ _ a0 a2))
 ·rw[eW ⋯,eW ⋯]
def BadV (H:Hp)(v:V):Prop:=∃T,tyn H v=some T∧∀z,v= .str z→z.length≤100000∧∀b rs,¬RdP z b rs
inductive qm (C:ao)(vs:List V)(H:Hp)(Q:VK)(E:XK):Prop
 | mk (v:V)(_:vs=[v])(_:((BadV H v∧∀H',cB H H'→E (.ref C) none H')∨∃(z:Str) (b:Int) (rs:List PR) (ls:List Ln) (bt:List Sn),v= .str z∧z.length≤100000∧RdP z b rs∧rs.length≤80∧Runs b [] [] (.beat b::rs) ls bt∧ls≠[]∧∀v H',cB H H'→IsD H' v (.tup [netP b (jw ls) (allSL ls bt),.tup ((allLL ls).map λt=> .tup (t.map vD))])→Q v H'))
inductive spHofT (C:ao)(vs:List V)(H:Hp)(_:VK)(E:XK):Prop
 | mk (v t:V)(_:vs=[v,t])(_:BadV H v)(_:∀H',cB H H'→E (.ref C) none H')
inductive spTtT (C:ao)(vs:List V)(H:Hp)(_:VK)(E:XK):Prop
 | mk (v:V)(_:vs=[v])(_:BadV H v)(_:∀H',cB H H'→E (.ref C) none H')
theorem fn_none:‹0› k f fd ps (λ_ _ _ _=>False) :=
 ⟨λ_ _ _ _ h=>h.elim,λ_ _ _ _ _ _ _ _ _ _ _ _ _ h=>h.elim⟩
theorem pss_notHere {ss:List cW}:PSs X ss (λ_ _ _=>False):=λ_ _ _ _ _ _ h=>h.elim
theorem ok_netT {fh fs fi ft fl c:ao}{ds di dt da dl:aU}(F:Fun K "net_by" "net_by" qt f fd)(T:Nm mg)(PK:PlaK P w K mg base CP CL fh fs dh ds)(PT:PlaT P w K mg base CP CL fi ft fa fl di dt da dl)(G1:Fn K mg "read_plan" sPlanR pzd f1 d1)(F1:dz P w K mg base (CXN P w) 5 f1 d1 pzd (spPlanX c))
  (G2:Fn K mg "plan_by" sPlanBy ["rows"] f2 d2) (F2:‹0› 7 f2 d2 ["rows"] (spPlanBy CP CL)):dz P w K mg base (CXN P w) 8 f fd pzd (qm c):=by
 apply F.okX scNetBy (by contradiction) (fun cdv A outer s H vs Q E hr D h=>?_);obtain ⟨v,rfl,h⟩:=h;have CC:=PK.cc;apply ⟨_,PSl.h (bz ⟨(psZ 1 scNetBy.nd (pc1 G2 F2 hr (ah (pcX G1 F1 (hr.mono ↥0) D.pass (ah (pv 0) ay)) ay)))⟩
  (bz ⟨(psZ 2 scNetBy.nd (jq (ah (fO (pv 1) rfl) (ah (jn (E:=E0) (pv 1) CC.cl PK.m1 PK.f1 (hr.mono ↥0) PK.b1 .nil passX) (ah (gJ mH rfl T.ttup boot_tuple (ah (jn (E:=E0) (pv 1) CC.cl PT.mA PT.fA (hr.mono ↥0) PT.bA .nil passX) ay)) ay)))))⟩
  (gy ⟨(cA (jq (ah (pv 2) (ah (gJ mH rfl T.ttup boot_tuple (ah (jn (E:=E0) (pv 1) CC.cl PT.mL PT.fL (hr.mono ↥0) PT.bL .nil passX) ay)) ay))))⟩))),?_⟩
 rcases h with ⟨⟨Ty,hT,hno⟩,kE⟩ | ⟨z,b,rs,ls,bt,rfl,hz,rd,few,runs,hne,k⟩
 ·exact⟨ρ,v,Ty,rfl,hT,λ_ H' S'=>kE H' S',λz e=>⟨(hno z e).1,λb rs p xs H' h=>qK h ((hno z e).2 b rs),λH' _ S'=>kE H' S'⟩⟩
 apply⟨ρ,_,"str",rfl,rfl,λh=>qK rfl (h z),λz' e=>?_⟩;cases e;apply⟨hz,λb' rs' p xs H1 rd' S1 hL R=>?_,λH' h=>qK rd (h b rs)⟩;obtain⟨rfl,rfl⟩:=rd.one rd';apply⟨p,xs,b,_,ls,bt,rfl,hL,R,few,runs,hne,λx zs DL LB H2 ez lz lb I2=>?_⟩;obtain⟨dp2,hp2⟩:=I2.pl;have fw:Few zs bt:=⟨⋯,⋯⟩;apply⟨ρ,x,CP,dp2,_,ρ,hp2,CC.cl,CC.n1,rfl,ρ,x,dp2,ρ,hp2,rfl,H1,x,DL,LB,b,zs,bt,rfl,I2,fw,λH3 S3=>?_⟩;have I3:=I2.same S3;obtain⟨dp3,hp3⟩:=I3.pl;apply⟨ρ,x,dp3,ρ,hp3,rfl,H1,x,DL,LB,b,zs,bt,rfl,I3,fw,λL ys H4 S4 _ hL4 d4=>?_⟩;apply⟨L,ys,rfl,SqL.of hL4,λt H5 S5 e5=>?_⟩;apply⟨(by show 3≤aA;decide),λn H6 S6 e6=>?_⟩;have S36:=S4.trans (S5.trans S6);have I6:=I3.same S36;obtain⟨dp6,hp6⟩:=I6.pl;have dN:IsD H6 (.ref n) (netP b (jw ls) (allSL ls bt)):=by
  rw[←ez,←og,←allSL_of];exact .tup e6 (.cons (.int _) (.cons (.int _) (.cons (.tup (S6 _ _ e5) (jc.same (S5.trans S6) d4)) .nil)))
 apply⟨ρ,ρ,x,dp6,ρ,hp6,rfl,H1,x,DL,LB,b,zs,bt,rfl,I6,fw,λL2 as H7 S7 _ hL7 d7=>?_⟩;apply⟨L2,as.map V.ref,rfl,SqL.of hL7,λu H8 S8 e8=>?_⟩;apply⟨szZ2,λr H9 S9 e9=>?_⟩;have d9:as.map H9=(allL zs).map (λt=>some (HO.tup t)):=by
  rw[←d7];apply dn λc hc=>?_
  have hm:H7 c∈(allL zs).map (λt=>some (HO.tup t)):=by rw[←d7];exact eQ hc
  obtain⟨t,_,e⟩:=aJ.mp hm;rw[←e];exact(S8.trans S9) _ _ e.symm
 apply k _ H9 (S1.trans (I2.S.trans (S3.trans (S36.trans (S7.trans (S8.trans S9)))))) (.tup e9 (.cons (IsD.same (S7.trans (S8.trans S9)) dN) (.cons (.tup (S9 _ _ e8) ?_) .nil)));rw[←ez,←allLL_of];apply labs_isD d9 λt ht=>?_
 unfold allL at ht;obtain⟨y,_,hy⟩:=List.mem_flatMap.mp ht;exact labs_strs _ _ t hy
theorem scHof:cI pzt pzt (defScope sHof):=by trivial
theorem ok_hofT {c:ao}(F:Fun K "hours_of" "hours_of" sHof f fd)(G1:Fn K mg "net_by" qt pzd f1 d1)(F1:dz P w K mg base (CXN P w) 8 f1 d1 pzd (qm c))(G2:Fn K mg "hours_by" sHby ["labels","table"] f2 d2):dz P w K mg base (CXN P w) 9 f fd pzt (spHofT c):=by
 apply F.okX scHof (by contradiction) (λcdv A outer s H vs Q E hr D h=>?_);obtain⟨v,t,rfl,bad,kE⟩:=h;have F2:‹0› 1 f2 d2 ["labels","table"] (λ_ _ _ _=>False):=fn_none;apply⟨_,bH (cA (jg bU dZ dY lU dC (ah (pc1 G2 F2 (hr.mono ↥0) (ah (ixZ (pcX G1 F1 hr D.pass (ah (pv 0) ay))) (ah (pv 1) ay))) ay))),?_⟩;exact⟨rfl,ρ,v,rfl,.inl ⟨bad,kE⟩⟩
theorem scTt:cI ["text","told","net","best","table","wait"] pzd (defScope sTt):=by trivial
theorem ok_ttT {c:ao}(F:Fun K "timetable" "timetable" sTt f fd)(G1:Fn K mg "net_by" qt pzd f1 d1)(F1:dz P w K mg base (CXN P w) 8 f1 d1 pzd (qm c)):dz P w K mg base (CXN P w) 9 f fd pzd (spTtT c):=by
 apply F.okX scTt (by contradiction) (λcdv A outer s H vs Q E hr D h=>?_);obtain⟨v,rfl,bad,kE⟩:=h;apply⟨_,dq (psZ 1 scTt.nd (pcX G1 F1 hr D.pass (ah (pv 0) ay))) pss_notHere,?_⟩;exact⟨ρ,v,rfl,.inl ⟨bad,kE⟩⟩
end HN
namespace L2
open PySem PySem.Spec PySem.W PyProof.Rows
structure XCls (K:Frag)(C:ao):Prop where
 ga:findIn K (.ref C) "__getattribute__" =some (some (.builtin "BaseException.__getattribute__"))
 gh:findIn K (.ref C) "__getattr__" =some none
 cl:findIn K (.ref C) "__class__" =some (some (.builtin "object.__class__"))
 gt:specialIn K (.builtin "object.__class__") "__get__" =some (some (.builtin "getset_descriptor.__get__"))
 tk:takesIn K (.builtin "object.__class__")=some true
 ob:mroIn K C (.type "object")=some true
 bx:mroIn K C (.type "BaseException")=some true
 dc:hasDictIn K C=true
section
variable {K:Frag}{x:ao}{od:Option Obj}
theorem x_check {nv:af}{Q:Unit→ar→Prop}(kin:K.In s.heap)(I:InstAt s.heap x ox C od)(T:XCls K C)(q:Q () s):aT (bB prog w) A (checkBuiltinCall "BaseException.__getattribute__" ⟨[.ref x,nv],[]⟩) Q E s:=by
 obtain⟨hh,g,d,t,os⟩:=s;have k1:builtinKind "BaseException.__getattribute__" =some .slot:=by trivial
 have k2:splitId "BaseException.__getattribute__" =some ("BaseException","__getattribute__"):=by trivial
 have L0:=I.type (M:=bB prog w);have L1:=looks_mroIn (M:=bB prog w) kin T.bx;have LI:Looks (bB prog w) hh (isInstance (.ref x) (.type "BaseException")) true:=L0.andThen L1;have ha:=F.args_bexc_ga (.ref x) nv;simp only[checkBuiltinCall,k1,k2];apply ak (LI.at ?_)
 repeat (any_goals (first | assumption | wp_step))
theorem x_bind {gv a:af}{tk:Tok}{P:af→ar→Prop}(kin:K.In s.heap)(I:InstAt s.heap x ox C od)(hf:findObj K C od name=some (.bind gv a))(q:aT (bB prog w) A (call gv [a,.ref x,.ref C]) P E s) :
  aT (bB prog w) A (ee.«object.__getattribute__» ⟨[.ref x,.str name tk],[]⟩) (λfin s'=>match fin with | .done (.ret v)=>P v s' | _=>False) E s:=by
 obtain⟨hh,g,d,t,os⟩:=s;have L0:=I.type (M:=bB prog w);have L1:=looks_find (M:=bB prog w) kin I hf;apply ak (aN (ak (aN (ak (L0.at (ak (L1.at ?_)))))));show aT _ _ (holding [a] (call gv [a,.ref x,.ref C]) >>= ret) _ _ _;exact ak (gT (dO q (λv s' z=>aN z) λ_ _ z=>z))
theorem x_by {tk:Tok}{fill ex:Bool}(kin:K.In s.heap)(I:InstAt s.heap x ox C od)(T:XCls K C)
  (q:aT (bB prog w) A.in1 (ee.«object.__getattribute__» ⟨[.ref x,.str name tk],[]⟩) (λfin s'=>match fin with | .done (.ret v)=>aT (bB prog w) A (handedOut v) Q E s' | _=>False) (λ_ _=>False) s) :
  aT (bB prog w) A (getAttrBy (.ref x) (.str name tk) fill ex) Q E s:=by
 obtain⟨hh,g,d,t,os⟩:=s;have L0:=I.type (M:=bB prog w);have L1:=looks_findIn (M:=bB prog w) kin T.ga;have L2:=looks_findIn (M:=bB prog w) kin T.gh;have f3:=F.excAttr_ValueError.ga.bind (.ref x);have hx0:(ex && onTheHeap (af.builtin "BaseException.__getattribute__"))=false:=by cases ex <;> rfl
 unfold getAttrBy;apply gT (ak (L0.at (ak (L1.at ?_))));show aT _ _ (getAttrByItsOwn _ _ _ _ _ _) _ _ _;unfold getAttrByItsOwn;apply ak (L2.at ?_);apply ak (kW (gT ?_));unfold callGetattribute;rw[qI (by rw[hx0];decide)];unfold boundAndCalled;rw[f3];apply ak (aN ?_);apply wpAny_call (codeAny_call_builtin F.excAttr_ValueError.ga.plain F.entry_bexc_ga (x_check kin I T ?_));apply dO q (λfin s' z=>?_) λ_ _ z=>z.elim
 rcases fin with (_ | _ | _ | _) | _ <;> first | exact z | exact z.elim
end
section
variable {K:Frag}{x:ao}
theorem xfind {od:Option Obj}{a g:af}(hc:(clsIn K C).isSome=true)(ha:findIn K (.ref C) name=some (some a))(hg:specialIn K a "__get__" =some (some g))(ht:takesIn K a=some true):findObj K C od name=some (.bind g a):=by
 obtain⟨cd,hc⟩:=Option.isSome_iff_exists.mp hc;unfold findObj;rw[hc,Option.bind_some,ha,Option.bind_some];simp[hg,ht]
theorem XCls.cls (T:XCls K C):∃cd,clsIn K C=some cd:=by
 obtain⟨cd,hc,_⟩:=any_some T.dc;exact⟨cd,hc⟩
def XAt (x C:ao)(h:bM):Prop:=∃ox od,InstAt h x ox C od
theorem kitx_exc (T:XCls K C):KitX K (.ref x) (.ref C) (XAt x C) where
 ty:=λ_ _ _ p=>by
  obtain⟨ox,od,I⟩:=p;exact I.type
 it:=λ_ _ kin _=>by
  obtain⟨cd,hc⟩:=T.cls;unfold clsIn at hc;split at hc
  ·rename_i ho
   intro A' Q' E' s' k q;unfold isType loadHead;exact ak (wpAny_loadPart (k _ _ (kin _ _ ho)) (aN q))
  ·cases hc
 ne:=λh tp dd its n sl kin htp=>by
  obtain⟨cd,hc⟩:=T.cls;apply cU.mpr λq=>?_
  have e:C=tp:=af.ref.inj (beq_iff_eq.mp q);subst e;unfold clsIn at hc;split at hc
  ·rename_i ho
   have z:=(kin _ _ ho).symm.trans htp;cases z
  ·cases hc
 ca:=λ{prog w A E Q s} kin p k=>by
  obtain⟨ox,od,I⟩:=p;obtain⟨cd,hc⟩:=T.cls;have hf:findObj K C od "__class__" =some (.bind (.builtin "getset_descriptor.__get__") (.builtin "object.__class__")):=xfind (by rw[hc];rfl) T.cl T.gt T.tk;unfold getAttr? getAttrBy?;apply ak (wpAny_mkText (ak (kW ?_)));apply x_by (s:={ s with toks:=s.toks+1 }) kin I T (x_bind (s:={ s with toks:=s.toks+1 }) kin I hf (wpAny_call (class_get (s:={ s with toks:=s.toks+1 }) kin I T.ob ?_)));exact handed_on rfl (aN k)
end
def XD (D:ao)(fs:List (Str×V)):HO:= .ext λh=>∃mA,h.Ns1 D mA∧(∀f,RelO (fs.lookup f) (mA f))∧PySem.Within mA (fs.map (·.1))
theorem Inv.xat {d:Option ao}(I:Inv X aI σ H s)(e:H a=some (isExc a C d))(hd:∀D,d=some D→∃fs,H D=some (XD D fs)):XAt a C s.heap:=by
 obtain⟨⟨o,us,p1,p2,p3,p4⟩,_,_⟩:=I.hok a _ e;cases d with
 | none=>exact⟨o,none,p1,p2,by unfold notCls;rw[p4],by rw[p3];trivial⟩
 | some D =>
  obtain⟨fs,q⟩:=hd D rfl;obtain⟨⟨mA,⟨od,es,ep,q1,_⟩,_⟩,_⟩:=I.hok D _ q;exact⟨o,some od,p1,p2,by unfold notCls;rw[p4],by rw[p3];exact q1⟩
theorem call_isx:iM X (.builtin "isinstance") (λxs H Q=>∃a C d b,(∃D,xs=[.ref a,.ref D]∧kitOne X.K (.ref C) (.ref D)=some b)∧H a=some (isExc a C d)∧(∀D,d=some D→∃fs,H D=some (XD D fs))∧XCls X.K C∧Q (.bl b) H):=by
 intro aI s σ H vs us Q I r h;obtain⟨a,C,d,b,⟨D,rfl,ek⟩,e,hd,T,q⟩:=h;cases r with
 | cons r1 r =>
 cases r with
 | cons r2 r =>
 cases r;rename_i u1 u2;obtain rfl:u1=af.ref a:=r1;obtain rfl:u2=af.ref D:=r2;exact kia_one (kitx_exc T) I.kIn (I.xat e hd) ek nofun λtk=>⟨.bl b,H,I.tok tk,rfl,q⟩
theorem call_isxB {T0:String}:iM X (.builtin "isinstance") (λxs H Q=>∃a C d b,(xs=[.ref a,.ty T0]∧kitOne X.K (.ref C) (.type T0)=some b)∧H a=some (isExc a C d)∧(∀D,d=some D→∃fs,H D=some (XD D fs))∧XCls X.K C∧Q (.bl b) H):=by
 intro aI s σ H vs us Q I r h;obtain⟨a,C,d,b,⟨rfl,ek⟩,e,hd,T,q⟩:=h;cases r with
 | cons r1 r =>
 cases r with
 | cons r2 r =>
 cases r;rename_i u1 u2;obtain rfl:u1=af.ref a:=r1;obtain rfl:u2=af.type T0:=r2;exact kia_one (kitx_exc T) I.kIn (I.xat e hd) ek nofun λtk=>⟨.bl b,H,I.tok tk,rfl,q⟩
end L2
namespace HN
open PySem L2 PyProof.Rows HT2
abbrev sRefT:cW:=top 107
theorem kit_self:cn K (.ref C) (.ref C)=some true:=by unfold cn;simp
theorem boot_VE:kB "ValueError" =some (.type "ValueError"):=by trivial
theorem isxK (K:aj)(hK:autoParam (X.K=K) L2.au0._auto_1):iM X (.builtin "isinstance") (λxs H Q=>∃a C d b,(∃D,xs=[.ref a,.ref D]∧cn K (.ref C) (.ref D)=some b)∧H a=some (isExc a C d)∧(∀D,d=some D→∃fs,H D=some (XD D fs))∧XCls K C∧Q (.bl b) H):=by subst hK;exact call_isx
theorem isxBK (K:aj)(T0:String)(hK:autoParam (X.K=K) L2.au0._auto_1):iM X (.builtin "isinstance") (λxs H Q=>∃a C d b,(xs=[.ref a,.ty T0]∧cn K (.ref C) (.type T0)=some b)∧H a=some (isExc a C d)∧(∀D,d=some D→∃fs,H D=some (XD D fs))∧XCls K C∧Q (.bl b) H):=by subst hK;exact call_isxB
structure Rf (K:aj)(mg:Str→Option af)(C U c1 c2 c3 c4 c5 c6:ao):Prop where
 m0:mg "NoText" =some (.ref C)
 m1:mg "NoOrder" =some (.ref c1)
 m2:mg "NoPlan" =some (.ref c2)
 m3:mg "NoWay" =some (.ref c3)
 m4:mg "OtherBeats" =some (.ref c4)
 m5:mg "TooGreat" =some (.ref c5)
 m6:mg "TooWide" =some (.ref c6)
 mv:mg "ValueError" =none
 cl:XCls K C
 un:Under K C U
 kv:cn K (.ref C) (.type "ValueError")=some true
 k1:cn K (.ref C) (.ref c1)=some false
 k2:cn K (.ref C) (.ref c2)=some false
 k3:cn K (.ref C) (.ref c3)=some false
 k4:cn K (.ref C) (.ref c4)=some false
 k5:cn K (.ref C) (.ref c5)=some false
 k6:cn K (.ref C) (.ref c6)=some false
inductive spRefT (vs:List V)(H:Hp)(Q:VK)(_:XK):Prop
 | mk (way:Int)(v:V)(_:vs=[.int way,v])(_:BadV H v)(_:∀H',cB H H'→Q (.bl true) H')
theorem BadV.same (h:BadV H v)(S:cB H H'):BadV H' v:=by
 obtain⟨T,hT,hn⟩:=h;apply⟨T,?_,hn⟩;cases v with
 | ref a =>
  simp only[tyn] at hT ⊢;cases q:H a with
  | none=>rw[q] at hT;cases hT
  | some o=>rw[S _ _ q];rw[q] at hT;exact hT
 | _=>exact hT
theorem scRefT:cI ["_law_way","_law_thing","_law_error","e"] pzE (defScope sRefT):=by trivial
theorem ok_refT {f3 f4 U c1 c2 c3 c4 c5 c6:ao}{fd3 fd4:aU}(F:Fun K "_law_refused" "_law_refused" sRefT f fd)(T:Nm mg)(TU:Exc K mg "HourError" U)(S:Rf K mg C U c1 c2 c3 c4 c5 c6)
  (G2:Fn K mg "net_by" qt pzd f2 fd2) (F2:dz P w K mg base (CXN P w) 8 f2 fd2 pzd (qm C))
  (G3:Fn K mg "hours_of" sHof pzt f3 fd3) (F3:dz P w K mg base (CXN P w) 9 f3 fd3 pzt (spHofT C))
  (G4:Fn K mg "timetable" sTt pzd f4 fd4) (F4:dz P w K mg base (CXN P w) 9 f4 fd4 pzd (spTtT C)):‹0› 10 f fd pzE spRefT:=by
 specialize F.ok scRefT;obtain ⟨way,v,rfl,bad,k⟩:=h;have hr8:ke 8 _:=hr.mono ↥0;apply ⟨_,dq (psZ 2 scRefT.nd jf)
  (dq (pq (ps_tryAs (iN:=3) rfl rfl scRefT.nd rfl rfl TU (fun pn W σ0 E hp=>(bH (gC (cf iW (pv 0) aP (cN _)) (bH (iA (pe_callS F2 hr8 rfl G2.mg G2.F.kp G2.b .nil hp (ah (pv 1) ay))))
    (bH (gC (cf iW (pv 0) aP (cN _)) (bH (iA (pe_callS F3 hr rfl G3.mg G3.F.kp G3.b .nil hp (ah (pv 1) (ah (jq (ah aP (ah aP ay))) ay)))))
     (bH (iA (pe_callS F4 hr rfl G4.mg G4.F.kp G4.b .nil hp (ah (pv 1) ay)))))))))
   (fun pn e=>(bH (psZ 2 scRefT.nd (pv 3))))))
  (PSl.h (bz ⟨(gC (PW.pt (mx (me (kH (b8 (isxK K) rfl T.isin eO (ah (pv 2) (ah (kj (v:= .ref C) rfl S.m0 rfl) ay))))) (kX (me (kH (b8 (isxBK K "ValueError") rfl T.isin eO (ah (pv 2) (ah (pB (v:= .ty "ValueError") rfl S.mv boot_VE rfl) ay)))))))) (bH (cA pE)) cZ)⟩
   (bz ⟨(gC (PW.pt (mx (kH (b8 (isxK K) rfl T.isin eO (ah (pv 2) (ah (kj (v:= .ref c1) rfl S.m1 rfl) ay)))) (mx (kH (b8 (isxK K) rfl T.isin eO (ah (pv 2) (ah (kj (v:= .ref c2) rfl S.m2 rfl) ay)))) (kX (kH (b8 (isxK K) rfl T.isin eO (ah (pv 2) (ah (kj (v:= .ref c3) rfl S.m3 rfl) ay)))))))) (bH (cA pE)) cZ)⟩
   (gy ⟨(cA (ou (pe_not (b8 (isxK K) rfl T.isin eO (ah (pv 2) (ah (kj (v:= .ref c4) rfl S.m4 rfl) ay)))) (ou (pe_not (b8 (isxK K) rfl T.isin eO (ah (pv 2) (ah (kj (v:= .ref c5) rfl S.m5 rfl) ay)))) (qw (pe_not (b8 (isxK K) rfl T.isin eO (ah (pv 2) (ah (kj (v:= .ref c6) rfl S.m6 rfl) ay))))))))⟩))))),?_⟩
 apply⟨λσ' H'=>cB H H'∧∃a:ao,σ'=[some (.int way),some v,some (.ref a),none]∧H' a=some (isExc a C none),λσ' H4 q=>?_,?_⟩
 ·obtain⟨S4,a,rfl,eA⟩:=q
  have hd:∀{H':Hp},∀D':ao,(none:Option ao)=some D'→∃fs,H' D'=some (XD D' fs):=λD' e=>by cases e
  apply⟨ρ,a,C,none,true,⟨C,rfl,kit_self⟩,eA,hd,S.cl,ρ,lq rfl ?_⟩;apply⟨ρ,a,C,none,true,⟨rfl,S.kv⟩,eA,hd,S.cl,ρ,lq rfl ?_⟩;apply⟨ρ,a,C,none,false,⟨c1,rfl,S.k1⟩,eA,hd,S.cl,ρ,lq rfl ?_⟩;apply⟨ρ,a,C,none,false,⟨c2,rfl,S.k2⟩,eA,hd,S.cl,ρ,lq rfl ?_⟩;apply⟨ρ,a,C,none,false,⟨c3,rfl,S.k3⟩,eA,hd,S.cl,ρ,lq rfl ?_⟩;apply⟨ρ,a,C,none,false,⟨c4,rfl,S.k4⟩,eA,hd,S.cl,ρ,ρ,qj rfl ?_⟩;apply⟨ρ,a,C,none,false,⟨c5,rfl,S.k5⟩,eA,hd,S.cl,ρ,ρ,qj rfl ?_⟩;exact⟨ρ,a,C,none,false,⟨c6,rfl,S.k6⟩,eA,hd,S.cl,ρ,k H4 S4⟩
 ·apply⟨ρ,rfl,ρ,jC (λc=>?_) (λc=>⟨ρ,rfl,ρ,jC (λc2=>?_) (λc2=>?_)⟩)⟩
  ·exact⟨rfl,ρ,v,rfl,.inl ⟨bad,λH3 S3=>⟨C,rfl,S.un,λa na=>⟨ρ,S3.trans ((cB.refl H3).put na),a,rfl,aR⟩⟩⟩⟩
  ·exact⟨rfl,ρ,szZ2,λt H0 S0 e0=>⟨v,ρ,bad.same S0,λH3 S3=>⟨C,rfl,S.un,λa na=>⟨ρ,S0.trans (S3.trans ((cB.refl H3).put na)),a,rfl,aR⟩⟩⟩⟩
  ·exact⟨rfl,ρ,v,rfl,bad,λH3 S3=>⟨C,rfl,S.un,λa na=>⟨ρ,S3.trans ((cB.refl H3).put na),a,rfl,aR⟩⟩⟩
abbrev sLaw:cW:=top 108
inductive spLaw (K:aj)(vs:List V)(H:Hp)(Q:VK)(_:XK):Prop
 | mk (a:ao)(ns:List Int)(_:vs=[.ref a])(_:SqL K H a (ns.map V.int))(_:ns.length≤63)(_:∀H',Q (.bl true) H')
theorem tw_cut {t:TS}(h:PSt X st t):PSt X st (λD σ H=>∃N:L2.St→Hp→Prop,(∀σ' H',N σ' H'→D.nx σ' H')∧t { D with nx:=N } σ H):=⟨pq h.h⟩
theorem pf:cI ["_law_script","_law_beat","_law_rows","_law_text_here","_law_pot_here","_law_lines_here","_law_at","_law_odd","_law_some","_law_way"] pzj (defScope sLaw):=by trivial
theorem ok_law {fP fQ fT fB fX fR fN:ao}{dP dQ dT dB dX dR dN:aU}(F:Fun K "law" "law" sLaw f fd)(T:Nm mg)(T2:Nt mg)
  (GP:Fn K mg "_law_plan" sPln pzj fP dP) (FP:‹0› 4 fP dP pzj (spPln K))
  (GQ:Fn K mg "_law_pot" sPotT pzf fQ dQ) (FQ:‹0› 2 fQ dQ pzf (spPotT K))
  (GT:Fn K mg "_law_take" qf pze fT dT)
  (GB:Fn K mg "_law_bent_row" sBrw pzv fB dB) (FB:‹0› 2 fB dB pzv spBrw)
  (GX:Fn K mg "_law_text" sTxt pzx fX dX) (FX:‹0› 1 fX dX pzx spTxt)
  (GR:Fn K mg "_law_refused" sRefT pzE fR dR) (FR:‹0› 10 fR dR pzE spRefT)
  (GN:Fn K mg "net_by" qt pzd fN dN) (FN:dz P w K mg base (CXN P w) 8 fN dN pzd (qm C)):‹0› 11 f fd pzj (spLaw K):=by
 have FT:‹0› 1 fT dT pze ng:=mz GT.F;specialize F.ok pf;obtain ⟨a,ns,rfl,ha,hl,k⟩:=h;have hr1:ke 1 _:=hr.mono ↥0;have hr2:ke 2 _:=hr.mono ↥0;have hr4:ke 4 _:=hr.mono ↥0;have hr8:ke 8 _:=hr.mono ↥0;have hr10:ke 10 _:=hr;apply exw_of (bz ⟨(ps_asg (pc1 GP FP hr4 (ah (pv 0) ay)) (pg_tup rfl (jk (pgZ 1 pf.nd) (jk (pgZ 2 pf.nd) pz))))⟩
  (bz ⟨(psZ 3 pf.nd (pc1 GX FX hr1 (ah (pv 1) (ah (pv 2) ay))))⟩
  (bz ⟨(psZ 4 pf.nd (pc1 GQ FQ hr2 (ah (pv 0) (ah aP ay))))⟩
  (bz ⟨(psZ 5 pf.nd (jg bU ir iq nt (pv 3) (ah dC ay)))⟩
  (bz ⟨(pq (gC (cf iW (pc1 GT FT hr1 (ah (pv 4) (ah aP ay))) aP (cN _)) (bH (psZ 5 pf.nd (c7 iX (fq iC (pv 5) hZ (fZ aP)) (fq iC (pv 5) (fZ aP) hZ)))) cZ))⟩
  (bz ⟨(psZ 6 pf.nd (pc1 GT FT hr1 (ah (pv 4) (ah (b8 cF rfl T.len bu (ah (pv 5) ay)) ay))))⟩
  (bz (tw_cut (tw_if (cf iW (pv 6) aP (cN _)) (bz (tw_set (i:=7) pf.nd rfl (.inl rfl) (mE (cO jU (cO jU (cO jU (cO jU (cO jU (cO jU (cO jU (cO jU (cO (qD jv jU (qD qx jU jF)) l7)))))))))))
  (gy ⟨(ps_asg (fK bX (pv 7) (pc1 GT FT hr1 (ah (pv 4) (ah aP ay))) (fun _ _=>rfl)) (pg_sub (pv 5) aP oO))⟩)) (gy ⟨(ps_asg (pc1 GB FB hr2 (ah (fK bX (pv 5) (pv 6) (fun _ _=>rfl)) (ah (pv 4) ay))) (pg_sub (pv 5) (pv 6) oO))⟩)))
  (bz (tw_set (i:=8) pf.nd rfl (.inl rfl) (qe bX (mE (cO k_non (cO jF (cO k_bl (cO (mE (cO ⟨pv 3⟩ l7)) (cO (k_tup (cO ⟨pv 3⟩ l7)) (cO k_dnew l7))))))) ⟨pc1 GT FT hr1 (ah (pv 4) (ah aP ay))⟩ (fun _ _=>rfl)))
  (bz ⟨(je cz rfl (kJ rfl T2.range (ah aP ay)) (pgZ 9 pf.nd) (bH (PSt.h (tw_if (PW.pt (mx (me (kH (pc1 GR FR hr10 (ah (pv 9) (ah (jg bU dZ dY lU dC (ah (pv 5) ay)) ay))))) (kX (me (kH (pc1 GR FR hr10 (ah (pv 9) (ah (pv 8) ay)))))))) (gy ⟨(cA pE)⟩) pH))))⟩
  (gy ⟨(cA (kK iW (b8 cF rfl T.len bu (ah (pe_call FN hr8 rfl GN.mg GN.F.kp GN.b .nil passN (ah (pv 3) ay)) ay)) aP (cN _)))⟩)))))))))) ?_
 have big:(100000:Nat)≤aA:=by decide
 apply⟨ρ,a,ns,rfl,ha,hl,λq L xs b rows H1 S1 eq eL rw1 b2 pok=>?_⟩;apply⟨q,ρ,SqT.of eq,rfl,_,ρ,ς,?_⟩;have b1:=pok.b1;have wb:W60 b:=⟨⋯,⋯⟩;have ok:=pok.ok.wok;have few:=pok.few;apply⟨ρ,ρ,b,L,xs,rows.map PR.rowV,rfl,wb,eL,rw1,by rw[ae];lia,λr hr=>?_,λH2 S2=>?_⟩
 ·obtain⟨z,hz,rfl⟩:=aJ.mp hr
  exact⟨by have:=(ok z hz).2.1;lia,λv hv=>((ok z hz).2.2.1 v hv).wd⟩
 have sp:=mS wb (rows:=rows.map PR.rowV) (λr hr=>by obtain⟨q,hq,rfl⟩:=aJ.mp hr;exact(ok q hq).2.2.1);have tl:(qg b (rows.map PR.rowV)).length≤100000:=qv wb (λr hr=>by obtain⟨q,hq,rfl⟩:=aJ.mp hr;exact⟨(ok q hq).2.1,(ok q hq).2.2.1⟩) (by rw[ae];lia);have rd:=rdP_of wb pok.ok;obtain⟨bt,net⟩:=pok.net b2;have LZ:=lnz_of wb pok.ok few;generalize hzs:(("beat " :Str)++lT b)::(rows.map PR.rowV).map oR=zs at sp LZ;generalize qg b (rows.map PR.rowV)=tx at sp tl rd net ⊢;have ha2:SqL K H2 a (ns.map V.int):=SqL.kept' (S1.trans S2) ha;apply⟨ρ,a,ns,7,rfl,ha2,↥0,↥0,λn p np=>?_⟩;have hp3:(upd H2 p (.lst [.int n])) p=some (.lst [.int n]):=aR;generalize upd H2 p (.lst [.int n])=H3 at hp3 ⊢;have one:((nl_:Str).length == 0)=false:=by trivial
 apply⟨ρ,rfl,ς,one,cu (show _≤200000 by lia) ↥0,λLL H4 S4 e4=>?_⟩;have e4:H4 LL=some (.lst ((bD tx nl_).map V.str)):=e4;rw[sp] at e4;have hp4:=S4 _ _ hp3;apply⟨λσ' H'=>∃(LL:ao) (zs:List Str) (n:Int),qk 72 zs∧H' LL=some (.lst (zs.map V.str))∧LL≠p∧H' p=some (.lst [.int n])∧σ'=[some (.ref a),some (.int b),some (.ref L),some (.str tx),some (.ref p),some (.ref LL),none,none,none,none],λσ' H5 qq=>?_,?_⟩
 rotate_left
 ·have neS:∀{zs:List Str},V.int n ∉ zs.map V.str:=λh=>by
   obtain⟨s,_,e⟩:=aJ.mp h;cases e
  have ne4:LL≠p:=λz=>by
   rw[z,hp4] at e4;have e4:=(bF e4);injection e4 with e4
   exact neS (by rw[←e4];exact aW)
  apply⟨ρ,p,n,3,rfl,hp4,↥0,↥0,λr H5 _ _ M5=>?_⟩;have e5:=M5.at e4 ne4;obtain⟨n5,hp5⟩:=M5.2;apply⟨rfl,ρ,jC (λc=>?_) (λc=>⟨LL,zs,n5,LZ.up,e5,ne4,hp5,rfl⟩)⟩;apply⟨ρ,ρ,LL,ρ,SqL.of e5,λA1 H6 S6 e6=>?_⟩;rw[cutU (i:=2) (n:=2) rfl] at e6;apply⟨ρ,ρ,LL,ρ,SqL.of (S6 _ _ e5),λA2 H7 S7 e7=>?_⟩;rw[cutF (i:=1) (n:=1) rfl] at e7;have l71:=LZ.len;apply⟨A1,A2,ς,S7 _ _ e6,e7,by rw[aZ,bK,ae];lia,λA3 H8 S8 e8=>?_⟩;have e8:H8 A3=some (.lst ((zs.take 2++zs.drop 1).map V.str)):=by rw[e8,ax,kC,fH]
  have hp8:=(S6.trans (S7.trans S8)) _ _ hp5;apply⟨A3,_,n5,LZ.dup,e8,λz=>?_,hp8,rfl⟩;rw[z,hp8] at e8;have e8:=(bF e8);injection e8 with e8
  have:V.int n5∈(zs.take 2++zs.drop 1).map V.str:=by rw[←e8];exact aW
  obtain⟨s,_,e⟩:=aJ.mp this;cases e
 obtain⟨LL,zs,n5,LZ,e5,ne5,hp5,rfl⟩:=qq;have l72:=LZ.len;have lV:(zs.map V.str).length=zs.length:=ae _;have zpos:0<zs.length:=List.length_pos_iff.mpr LZ.ne;apply⟨ρ,ρ,LL,ρ,.inl (SqL.of e5),p,n5,(zs.length:Nat),by rw[lV];rfl,hp5,⋯,⋯,λat_ H6 a0 a1 M6=>?_⟩;have e6:=M6.at e5 ne5;obtain⟨n6,hp6⟩:=M6.2;obtain⟨an,rfl⟩:∃an:Nat,at_=(an:Int):=⟨at_.toNat,⋯⟩;have han:an<zs.length:=by lia
 clear M6 e5 hp5;apply⟨λσ' H'=>∃(zs:List Str) (n:Int) (v7:Option V),BadZ zs∧H' LL=some (.lst (zs.map V.str))∧H' p=some (.lst [.int n])∧σ'=[some (.ref a),some (.int b),some (.ref L),some (.str tx),some (.ref p),some (.ref LL),some (.int (an:Nat)),v7,none,none],λσ' H7 qq=>?_,?_⟩
 rotate_left
 ·apply⟨ρ,rfl,ρ,jC (λc=>?_) (λc=>?_)⟩
  ·have c0:an=0:=by have:=qN c;injection this with this;lia
   subst c0;apply⟨ς,↥0,↥0,by trivial,by trivial,by trivial,ς,by trivial,(by show 9≤aA;decide),λB H7 S7 e7=>?_⟩;have e7:H7 B=some (.lst (odds9.map V.str)):=e7;apply⟨ρ,ρ,p,n6,9,rfl,S7 _ _ hp6,↥0,↥0,λr H8 r0 r1 M8=>?_⟩;have neB:B≠p:=λz=>by rw[z,S7 _ _ hp6] at e7;cases e7
   have e8:=M8.at e7 neB;obtain⟨n8,hp8⟩:=M8.2;obtain⟨v,hv,mv⟩:=nN (xs:=odds9.map V.str) r0 (by show r<9;exact r1);obtain⟨y,hy,rfl⟩:=aJ.mp mv;obtain⟨y1,y2,y3⟩:=odd9 y hy;apply⟨B,τ,SqL.of e8,hv,?_⟩;have eL8:=M8.at (S7 _ _ e6) ne5;apply⟨ρ,LL,_,0,0,rfl,rfl,eL8,by unfold ixN;rw[qJ ↥0,qJ (by rw[lV];lia)];rfl,?_⟩;apply⟨zs.set 0 y,n8,_,LZ.set han y1 y2 (.inl ⟨rfl,y3⟩),by rw[aR,List.map_set],by rw[bo (cY ne5)];exact hp8,rfl⟩
  ·have c0:an≠0:=λz=>c (qL (by rw[z];rfl))
   have hx:zs[an]? =some zs[an]:=gE han;obtain ⟨ws,R⟩:=LZ.rw zs[an] (by
    match zs,LZ.ne,han with
    | z0::zr,_,han =>
     obtain ⟨j,rfl⟩:∃ j,an=j+1:=⟨an - 1,⋯⟩;exact c8 _)
   generalize zs[an]=z at hx R;apply⟨ρ,ρ,LL,τ,SqL.of e6,bp (by rw[aE,hx];rfl),ρ,z,p,n6,ws,rfl,hp6,R,λy H7 hB M7=>?_⟩;have eL7:=M7.at e6 ne5;obtain⟨n7,hp7⟩:=M7.2;apply⟨ρ,ρ,LL,_,_,an,rfl,rfl,eL7,by unfold ixN;rw[qJ ⋯,qJ (by rw[lV];lia),fU],?_⟩;exact⟨zs.set an y,n7,_,LZ.set han hB.1 hB.2.1 (.inr ⟨⋯,hB.2.2⟩),by rw[aR,List.map_set],by rw[bo (cY ne5)];exact hp7,rfl⟩
 obtain⟨zs,n7,v7,BZ,e7,hp7,rfl⟩:=qq;obtain⟨bl,bn⟩:=BZ.txt;apply⟨ρ,szZ1,λC1 H8 S8 e8=>?_⟩;apply⟨ρ,szZ1,λC2 H9 S9 e9=>?_⟩;intro C3 HA SA eA;apply⟨(by show 6≤aA;decide),λC4 HB SB eB=>?_⟩;have S7B:=S8.trans (S9.trans (SA.trans SB));have hpB:=S7B _ _ hp7;apply⟨ρ,p,n7,6,rfl,hpB,↥0,↥0,λr HC r0 r1 MC=>?_⟩;have neC:C4≠p:=λz=>by rw[z,hpB] at eB;cases eB
 have eC:=MC.at eB neC;have eLC:=MC.at (S7B _ _ e7) ne5;have SBC:∀{c:ao} {o:HO},HB c=some o→o≠ .lst [.int n7]→HC c=some o:=λ{c o} e n=>MC.1 c o (λz=>by rw[z,hpB] at e;cases e;exact n rfl) e
 obtain⟨v,hv,mv⟩:=nN (xs:=[V.non,.int 5,.bl true,.ref C1,.ref C2,.ref C3]) r0 (by show r<6;exact r1);apply⟨C4,τ,SqL.of eC,hv,?_⟩;have bad:BadV HC v:=by
  simp only[aw,aO,or_false] at mv
  rcases mv with rfl | rfl | rfl | rfl | rfl | rfl
  ·exact⟨ρ,λz e=>by cases e⟩
  ·exact⟨ρ,λz e=>by cases e⟩
  ·exact⟨ρ,λz e=>by cases e⟩
  ·exact⟨"list",by simp only[tyn];rw[SBC ((S9.trans (SA.trans SB)) _ _ e8) (by intro q;cases q)],λz e=>by cases e⟩
  ·exact⟨"tuple",by simp only[tyn];rw[SBC ((SA.trans SB) _ _ e9) (by intro q;cases q)],λz e=>by cases e⟩
  ·exact⟨"dict",by simp only[tyn];rw[SBC (SB _ _ eA) (by intro q;cases q)],λz e=>by cases e⟩
 have badT:BadV HC (.str (dF nl_ zs)):=⟨"str",rfl,λz e=>by cases e;exact⟨bl,bn⟩⟩;obtain⟨bt2,ru⟩:=pok.runs;have neL:oz rows≠[]:=λe=>pok.ne (by rw[←jD,e];rfl)
 have zsum:=BZ.sum;have zlen:=BZ.len;apply⟨3,rfl,↥0,↥0,?_⟩;apply mG (lo:=0) (n:=3) (λi σ HD=>cB HC HD∧∃v9,σ=[some (.ref a),some (.int b),some (.ref L),some (.str tx),some (.ref p),some (.ref LL),some (.int (an:Nat)),v7,some v,v9])
  ⟨cB.refl _,none,rfl⟩ ?_ ?_
 ·rintro i σ HD hi ⟨SD,v9,rfl⟩
  apply⟨ρ,rfl,ρ,nl_,LL,zs,rfl,rfl,SqL.of (SD _ _ eLC),⇑0,⋯,_,ρ,badT.same SD,λHE SE=>⟨ρ,lq rfl ?_⟩⟩;exact⟨ρ,ρ,_,ρ,bad.same (SD.trans SE),λHF SF=>⟨ρ,lq rfl ⟨SD.trans (SE.trans SF),_,rfl⟩⟩⟩
 ·rintro σ HD ⟨SD,v9,rfl⟩
  apply⟨ρ,ρ,.inr ⟨tx,b,rows,oz rows,bt2,rfl,tl,rd,⋯,ru,neL,λu HE SE dE=>?_⟩⟩;obtain⟨t,us,rfl,ht,du⟩:=dE.tup_of;have lu:=du.length;apply⟨t,us,rfl,.inr (SqT.of ht),rfl,?_⟩;rw[lu];exact k HE
theorem tupK2 {t:ao}{x y:Int}{a b:Tok}(h:K.lookup t=some ⟨.type "tuple",od,.seq #[.int x a,.int y b] n,sl⟩)(H:Hp):SqT K H t [.int x,.int y] :=
 .inr ⟨_,#[.int x a,.int y b],n,h,rfl,rfl,szZ2,.cons ⟨_,rfl⟩ (.cons ⟨_,rfl⟩ .nil)⟩
theorem unt_mk {t:ao}{a b c:Tok}(hm:mg "STAY_UNTOLD" =some (.ref t))(h:K.lookup t=some ⟨.type "tuple",od,.seq #[.int 0 a,.int 0 b,.int 0 c] n,sl⟩):Unt K mg :=
 ⟨t,hm,λH=> .inr ⟨_,#[.int 0 a,.int 0 b,.int 0 c],n,h,rfl,rfl,(by show 3≤aA;decide),.cons ⟨_,rfl⟩ (.cons ⟨_,rfl⟩ (.cons ⟨_,rfl⟩ .nil))⟩⟩
theorem fms_mk {aF t1 t2 t3 t4:ao}{k1 k2 k3 k4 a1 a2 a3 a4 b1 b2 b3 b4:Tok}{m1 m2 m3 m4:Nat}{o1 o2 o3 o4:Option ao}{l1 l2 l3 l4:Array (Option af)}(hm:mg "FORMS" =some (.ref aF))(hs:(aF == gY)=false)
  (hl:K.lookup aF=some ⟨.type "dict",none,.dict #[⟨eT w.params "stay",.str "stay" k1,.ref t1⟩,⟨eT w.params "change",.str "change" k2,.ref t2⟩,⟨eT w.params "apart",.str "apart" k3,.ref t3⟩,⟨eT w.params "meet",.str "meet" k4,.ref t4⟩] n,#[]⟩)
  (h1:K.lookup t1=some ⟨.type "tuple",o1,.seq #[.int 2 a1,.int 3 b1] m1,l1⟩) (h2:K.lookup t2=some ⟨.type "tuple",o2,.seq #[.int 3 a2,.int 3 b2] m2,l2⟩) (h3:K.lookup t3=some ⟨.type "tuple",o3,.seq #[.int 3 a3,.int 1 b3] m3,l3⟩) (h4:K.lookup t4=some ⟨.type "tuple",o4,.seq #[.int 4 a4,.int 1 b4] m4,l4⟩):Fms P w K mg:=by
 apply⟨aF,t1,t2,t3,t4,hm,⟨hs,[(.inr "stay",.ref t1),(.inr "change",.ref t2),(.inr "apart",.ref t3),(.inr "meet",.ref t4)],.cons ⟨rfl,rfl⟩ (.cons ⟨rfl,rfl⟩ (.cons ⟨rfl,rfl⟩ (.cons ⟨rfl,rfl⟩ .nil))),λh hi=>⟨_,_,n,hi _ _ hl,⟨rfl,rfl,rfl⟩,rfl,λe he=>?_,?_,?_⟩⟩,tupK2 h1,tupK2 h2,tupK2 h3,tupK2 h4⟩
 ·have he:e∈[DictEntry.mk (eT w.params "stay") (.str "stay" k1) (.ref t1),⟨eT w.params "change",.str "change" k2,.ref t2⟩,⟨eT w.params "apart",.str "apart" k3,.ref t3⟩,⟨eT w.params "meet",.str "meet" k4,.ref t4⟩]:=by simpa using he
  simp only[aw,aO,or_false] at he
  rcases he with rfl | rfl | rfl | rfl
  ·exact⟨.inr "stay",jE "stay" k1,rfl⟩
  ·exact⟨.inr "change",jE "change" k2,rfl⟩
  ·exact⟨.inr "apart",jE "apart" k3,rfl⟩
  ·exact⟨.inr "meet",jE "meet" k4,rfl⟩
 ·exact .cons (jE "stay" k1) rfl (.cons (jE "change" k2) rfl (.cons (jE "apart" k3) rfl (.cons (jE "meet" k4) rfl .nil)))
 ·show[(Sum.inr ("stay" :Str):Key),.inr "change",.inr "apart",.inr "meet"].Nodup
  decide +kernel
end HN
namespace HN
open PySem L2 PyProof.Rows
theorem args0 {P:List af→Prop}(h:P []):∀us:List af,us.length=0→P us:=λus hl=>by rw[mq.mp hl];exact h
theorem args1 {P:List af→Prop}(h:∀x0,P [x0]):∀us:List af,us.length=1→P us:=by
 intro us hl;obtain _ | ⟨x0,us⟩:=us <;> try (cases hl;done)
 obtain _ | ⟨y,us⟩:=us
 ·exact h x0
 ·exact qK hl (by simp only[az];lia)
theorem args2 {P:List af→Prop}(h:∀x0 x1,P [x0,x1]):∀us:List af,us.length=2→P us:=by
 intro us hl;obtain _ | ⟨x0,us⟩:=us <;> try (cases hl;done)
 obtain _ | ⟨x1,us⟩:=us <;> try (cases hl;done)
 obtain _ | ⟨y,us⟩:=us
 ·exact h x0 x1
 ·exact qK hl (by simp only[az];lia)
theorem args3 {P:List af→Prop}(h:∀x0 x1 x2,P [x0,x1,x2]):∀us:List af,us.length=3→P us:=by
 intro us hl;obtain _ | ⟨x0,us⟩:=us <;> try (cases hl;done)
 obtain _ | ⟨x1,us⟩:=us <;> try (cases hl;done)
 obtain _ | ⟨x2,us⟩:=us <;> try (cases hl;done)
 obtain _ | ⟨y,us⟩:=us
 ·exact h x0 x1 x2
 ·exact qK hl (by simp only[az];lia)
theorem args4 {P:List af→Prop}(h:∀x0 x1 x2 x3,P [x0,x1,x2,x3]):∀us:List af,us.length=4→P us:=by
 intro us hl;obtain _ | ⟨x0,us⟩:=us <;> try (cases hl;done)
 obtain _ | ⟨x1,us⟩:=us <;> try (cases hl;done)
 obtain _ | ⟨x2,us⟩:=us <;> try (cases hl;done)
 obtain _ | ⟨x3,us⟩:=us <;> try (cases hl;done)
 obtain _ | ⟨y,us⟩:=us
 ·exact h x0 x1 x2 x3
 ·exact qK hl (by simp only[az];lia)
theorem Df.fn (a:Df K x st f)(X:K.In h)(G:h.Ns aX mg)
  (hb:∀(kV dc pm:af) (an:Option ao) (cd ct:af) (us:List af),us.length=ps.length→bindArgs (gc x x (lB st) (km st) (defScope st) .none kV dc pm an cd ct) ⟨us,[]⟩=hW (ps.zip us):=by intro _ _ _ _ _ _;first  | exact args0 rfl | exact args1 λ_=>rfl | exact args2 λ_ _=>rfl | exact args3 λ_ _ _=>rfl | exact args4 λ_ _ _ _=>rfl):∃fd,Fn K mg x st ps f fd:=by
 obtain⟨n,oc,od,an,sl,kV,dc,pm,cd,ct,l,c,k⟩:=a;have F:=fun_mk (st:=st) l c k;exact⟨_,F,cP X G n,F.binds hb⟩
theorem args5 {P:List af→Prop}(h:∀x0 x1 x2 x3 x4,P [x0,x1,x2,x3,x4]):∀us:List af,us.length=5→P us:=by
 intro us hl
 rcases us with _ | ⟨x0,_ | ⟨x1,_ | ⟨x2,_ | ⟨x3,_ | ⟨x4,_ | ⟨x5,xr⟩⟩⟩⟩⟩⟩ <;> first | exact h _ _ _ _ _ | simp at hl
theorem Mf.fn {q:Str}(a:Mf K C x q st f)
  (hb:∀(kV dc pm:af) (an:Option ao) (cd ct:af) (us:List af),us.length=ps.length→bindArgs (gc x q (lB st) (km st) (defScope st) .none kV dc pm an cd ct) ⟨us,[]⟩=hW (ps.zip us):=by intro _ _ _ _ _ _;first | exact args1 λ_=>rfl | exact args2 λ_ _=>rfl | exact args3 λ_ _ _=>rfl | exact args5 λ_ _ _ _ _=>rfl):∃fd,Fun K x q st f fd∧qH K C x f∧L2.Binds K fd ps []:=by
 obtain⟨n,b,oc,od,an,sl,kV,dc,pm,cd,ct,l,c,k⟩:=a;have F:=fun_mk (st:=st) l c k;exact⟨_,F,⟨n,b,k⟩,F.binds hb⟩
theorem all_mk {l:PySem.W.OpenLaw}(X:K.In h)(G:h.Ns aX mg)(hfa:mg "law" =some (.ref fa))(Fc:Facts K w)
  : ∃fd:aU,(∀(s:ar) (v:af),BindsTo s fd ⟨[v],[]⟩ [("_law_script",v)])∧∀base:bM,K.In base→base.Ns aX mg→‹_› 11 fa fd pzj (spLaw K):=by
 apply Fc _ ?_;intro f1 a1 f2 a2 f3 a3 f4 a4 f5 a5 f6 a6 f7 a7 f8 a8 f9 a9 f10 a10 f11 a11 f12 a12 f13 a13 f14 a14 f15 a15 f16 a16 f17 a17 f18 a18 f19 a19 f20 a20 f21 a21 f22 a22 f23 a23 f24 a24 f25 a25 f26 a26 f27 a27 f28 a28 f29 a29 f30 a30 f31 a31 f32 a32 f33 a33 f34 a34 f35 a35 f36 a36 f37 a37 f38 a38 f39 a39 t1 t2 t3 t4 t5 t6 t7 xL xP xF q1 q2 q3 q4 q5 jy1 jy2 jy3 jy4 jy5 jy6 jz1 jz2 jz3 jz4 jz5 jz6 jz7 jz8 jz9 jza ka kb kc kd ua1 ub1 ua2 ub2 ua3 ub3 ua4 ub4 uc ud ue nF nn1 nn2 nn3 nn4 nn5 x1 x2 xa xb xd xe xf xg y1 y2 y3 y4 y5 y6 y7 z1 z2 z3 z4 z5 z6 z7 z8 z9 z10 z11 z12 z13 z14 z15 z16 w1 w2 w3 w4 w5 w6 w7 w8 w9 w10 w11 w12 w13 w14 w15 w16 w17 w18 w19 w20 w21 w22 w23 w24 w25 w26 w27 w28 w29 w30 w31 w32 w33 w34 w35 w36 w37 w38 w39 w40 w41 w42 w43 w44 w45 w46 w47 w48 w49 w50 w51 w52 w53 w54 w55 w56 w57 w58 w59 w60 w61 w62 w63 w64 w65 w66 w67 w68 w69 w70 w71 w72 w73;have e:=hfa.symm.trans (cP X G a39.n);cases e;erw[G1,a1,[]];erw[G2,a2,["thing"]];erw[G3,a3,pzi];erw[G4,a4,pzc];erw[G5,a5,pzc];erw[G6,a6,pzm];erw[G7,a7,pzn];erw[G8,a8,pzk];erw[G9,a9,pzc];erw[G10,a10,["row"]];erw[G11,a11,["words"]];erw[G12,a12,["row"]];erw[G13,a13,pzd];erw[G14,a14,pzq];erw[G15,a15,pzh];erw[G16,a16,pzh];erw[G17,a17,["rows"]];erw[G18,a18,pzd];erw[G19,a19,["labels","table"]];erw[G20,a20,pzt];erw[G21,a21,pzd];erw[G22,a22,pzf];erw[G23,a23,pzu];erw[G24,a24,pzf];erw[G25,a25,pze];erw[G26,a26,pzy];erw[G27,a27,pzz];erw[G28,a28,pzA];erw[G29,a29,pzr];erw[G30,a30,pzl];erw[G31,a31,pzx];erw[G32,a32,pzB];erw[G33,a33,pzD];erw[G34,a34,pzC];erw[G35,a35,pzs];erw[G36,a36,pzj];erw[G37,a37,pzv];erw[G38,a38,pzE];obtain⟨_,oc,od,an,sl,kV,dc,pm,cd,ct,l39,c39,k39⟩:=a39;have F39:=fun_mk (st:=sLaw) l39 c39 k39;have m1:=cG X G z1;have m2:=cG X G z2;have m3:=cG X G z3;have m4:=cG X G z4;have m5:=cG X G z5;have m6:=cG X G z6;have m7:=cG X G z7;have m8:=cG X G z8;have m9:=cG X G z9;have m10:=cG X G z10;have m11:=cG X G z11;have m12:=cG X G z12;have m13:=cG X G z13;have m14:=cG X G z14;have m15:=cG X G z15;have m16:=cG X G z16;have i1:=cP X G y1;have i2:=cP X G y2;have i3:=cP X G y3;have i4:=cP X G y4;have i5:=cP X G y5;have i6:=cP X G y6;have i7:=cP X G y7;apply⟨gc "law" "law" (lB sLaw) (km sLaw) (defScope sLaw) .none kV dc pm an cd ct,λs v=> .of_eq rfl,λbase _ _=>?_⟩;have T:Nm mg:=⟨m1,m2,m3,m4,m5,m6,m7⟩;have T2:Nt mg:=⟨m8,m9,m10,m11,m12,m13⟩;have C:Cs mg:=⟨⟨_,i1⟩,⟨_,i2⟩,⟨_,i3⟩⟩;have C2:Cs2 mg:=⟨⟨_,i4⟩,⟨_,i5⟩,⟨_,i6⟩,⟨_,i7⟩⟩;have N2:Nm2 mg:=⟨m15,m12⟩;have X1:Exc K mg "HourError" x1:=⟨cP X G w48,w49⟩;have X2:Exc K mg "NoText" x2:=⟨cP X G w50,w51⟩;obtain⟨_,Fjy1,mjy1,bjy1⟩:=w13.fn (ps:=pzo);obtain⟨_,Fjy2,mjy2,bjy2⟩:=w14.fn (ps:=pzg);obtain⟨_,Fjy3,mjy3,bjy3⟩:=w15.fn (ps:=pzg);obtain⟨_,Fjy4,mjy4,bjy4⟩:=w16.fn (ps:=pzw);obtain⟨_,Fjy5,mjy5,bjy5⟩:=w17.fn (ps:=pza);obtain⟨_,Fjy6,mjy6,bjy6⟩:=w18.fn (ps:=pza);obtain⟨_,Fjz1,mjz1,bjz1⟩:=w29.fn (ps:=pzp);obtain⟨_,Fjz2,mjz2,bjz2⟩:=w30.fn (ps:=pza);obtain⟨_,Fjz3,mjz3,bjz3⟩:=w31.fn (ps:=pza);obtain⟨_,Fjz4,mjz4,bjz4⟩:=w32.fn (ps:=pza);obtain⟨_,Fjz5,mjz5,bjz5⟩:=w33.fn (ps:=pza);obtain⟨_,Fjz6,mjz6,bjz6⟩:=w34.fn (ps:=pzb);obtain⟨_,Fjz7,mjz7,bjz7⟩:=w35.fn (ps:=pzb);obtain⟨_,Fjz8,mjz8,bjz8⟩:=w36.fn (ps:=pzb);obtain⟨_,Fjz9,mjz9,bjz9⟩:=w37.fn (ps:=pzb);obtain⟨_,Fjza,mjza,bjza⟩:=w38.fn (ps:=pzb);have LC:LinC K xL:=⟨⟨w2,w3,w4,w5⟩,w6,w7,w8,w9,w10⟩;have PC:PlaC K xP:=⟨⟨w20,w21,w22,w23⟩,w24,w25,w26⟩;have FW:dz l.prog w K mg base (CXN l.prog w) 2 f5 _ pzc (o9 x2):=ok_readX G5.F T C2 X2 G4;have FN:dz l.prog w K mg base (CXN l.prog w) 1 f9 _ pzc (spNamX x2):=ok_namX G9.F T C2 X2;have M:Fms l.prog w K mg:=fms_mk (cP X G w39) w40 w41 w42 w43 w44 w45;have FL:dz l.prog w K mg base (CXN l.prog w) 3 f11 _ ["words"] (spLineX x2):=ok_lineX G11.F T X2 G9 FN G5 FW;have FR:dz l.prog w K mg base (CXN l.prog w) 5 f13 _ pzd (spPlanX x2):=ok_planX G13.F T N2 X2 G10 (ok_beatX G10.F T X2 G5 FW) G12 (ok_rowX G12.F T M X2 G9 FN G5 FW G11 FL);have LK:LinK l.prog w K mg base xL jy2 jy3 jy4 _ _ _:=⟨LC,mjy2,ok_comL Fjy2 LC,bjy2,mjy3,ok_goL Fjy3 LC,bjy3,mjy4,ok_rideL Fjy4 m10 LC,bjy4⟩;have U:Unt K mg:=unt_mk (cP X G w46) w47;have LQ:LinQ l.prog w K mg base xL jy5 jy6 _ _:=⟨mjy5,ok_ownL Fjy5 m10 U LK,bjy5,mjy6,ok_labL Fjy6 m10 LC,bjy6⟩;have FA:‹_› 3 jz3 _ pza (spAllS xP xL):=ok_allS Fjz3 PC LC LQ;have FH:‹_› 1 jz2 _ pza (spHap xP xL):=ok_hap Fjz2 T T2 PC LC;have PK:PlaK l.prog w K mg base xP xL jz2 jz5 _ _:=⟨PC,mjz2,FH,bjz2,mjz5,ok_small Fjz5 T C PC mjz2 FH bjz2 mjz3 FA bjz3,bjz5⟩;have LM:LinM l.prog w K mg base xL jy1 _:=⟨⟨w11,mjy1.at_,mjy1.fn,w12⟩,cP X G w1,ok_initL Fjy1 LC,bjy1⟩;have FS:‹_› 4 f8 _ pzk spSpan:=ok_span G8.F T C G1 G2 G3 G6 G7;have FB:‹_› 3 jz7 _ pzb (spBtw xP xL):=ok_btw Fjz7 PC G14 (ok_change G14.F LK) G15 (ok_apart G15.F LK) G16 (ok_meet G16.F LK);have FT:‹_› 6 jz9 _ pzb (spTakeP xP xL):=ok_takeP Fjz9 PC mjz6 (ok_takeL Fjz6 T m14 PK LM) bjz6 mjz8 (ok_takeB Fjz8 PK mjz7 FB bjz7 G8 FS) bjz8 mjza (ok_takeS Fjza PK LK G8 FS) bjza;have PT:PlaT l.prog w K mg base xP xL jz1 jz9 jz3 jz4 _ _ _ _:=⟨⟨w27,mjz1.at_,mjz1.fn,w28⟩,cP X G w19,ok_initP Fjz1 PC,bjz1,mjz9,FT,bjz9,mjz3,FA,bjz3,mjz4,ok_allL Fjz4 PC LC LQ,bjz4⟩;have NT:dz l.prog w K mg base (CXN l.prog w) 8 f18 _ pzd (qm x2):=ok_netT G18.F T PK PT G13 FR G17 (ok_planBy G17.F T m9 PC PT);have PO:‹_› 2 f24 _ pzf (spPotT K):=ok_potT G24.F T T2 G22 G23;have EN:‹_› 1 f29 _ pzr spEndW:=ok_endW G29.F T m2;have RI:‹_› 1 f30 _ pzl spRidW:=ok_ridW G30.F T T2;have MO:‹_› 3 f35 _ pzs spMor:=ok_mor G35.F T T2 G25 G34 (ok_inn G34.F T T2) G32 (ok_spw G32.F T G25) G33 (ok_prs G33.F T T2 m2 G29 EN G30 RI) G30 RI;have PL:‹_› 4 f36 _ pzj (spPln K):=ok_pln G36.F T T2 m2 G25 G24 PO G26 (ok_nms G26.F T T2 G25) G28 (ok_lns G28.F T T2 G25 G24 PO G27 (ok_lr G27.F T T2 G25)) G35 MO;have S:Rf K mg x2 x1 xa xb xd xe xf xg:=⟨X2.mg,cP X G w61,cP X G w62,cP X G w63,cP X G w64,cP X G w65,cP X G w66,m16,⟨w52,w53,w54,w55,w56,w57,w58,w59⟩,⟨w60⟩,w67,w68,w69,w70,w71,w72,w73⟩;exact ok_law F39 T T2 G36 PL G24 PO G25 G37 (ok_brw G37.F T G25) G31 (ok_txt G31.F m15) G38 (ok_refT G38.F T X1 S G18 NT G20 (ok_hofT G20.F G18 NT G19) G21 (ok_ttT G21.F G18 NT)) G18 NT
theorem walk {l:PySem.W.OpenLaw}{q:aK}{d:DefRec}{K:Params→aj}(hn:l.most=some 63)(hdf:d.params.defaults=[])
  (hY:∀(w:bc) (h:bM),YP w h→(K w.params).In h)
  (F:∀ (w:bc) (mg:Str→Option af) (fa:ao) (h:bM),(K w.params).In h→h.Ns aX mg→mg d.name=some (.ref fa) →
   ∃ fd:aU,(∀ (s:ar) (u:af),BindsTo s fd ⟨[u],[]⟩ [("_law_script",u)])∧∀ base:bM,(K w.params).In base→base.Ns aX mg→dz l.prog w (K w.params) mg base CX0 11 fa fd pzj (spLaw (K w.params))) :
  PySem.W.WalkO q loose XP YP l.row.toRowW d [] (λf vs=>PySem.call f vs) :=
 L2.walk_of (n:=63) (k:=11) (x := "_law_script") (CX:=λ_=>CX0) (sp:=λw=>spLaw (K w.params)) hn ↥0 hdf ⟨rfl,↥0,↥0⟩ hY F (λ_ _ a ns hl _ hS=>⟨a,ns,rfl,hS,hl,λ_=>rfl⟩) λ_ _ _ _ _ z=>z
end HN
set_option maxHeartbeats 0 in
theorem PySem.Challenge.cw_hourtable_k81_texts_of_no_plan_holds : PySem.Challenge.rw_hourtable_k81_texts_of_no_plan.Holds := by
 apply HN.head0.2 ?_ HN.leftA (PySem.W.byRow2 "special-get-raises" HN.scf HN.sct);intro q loose XP YP d K hdf hd h0 Fc;exact HN.walk (l:=gF) rfl hdf h0 fun w mg fa h KX G hmg=>HN.all_mk KX G (by rw [hd] at hmg;exact hmg) (Fc w)
