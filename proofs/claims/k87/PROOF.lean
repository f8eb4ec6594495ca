import PyProof.Rows.All
import KE.KBools
import KE.KxBytes
import KE.KIntText
import KE.KEqSeq
import KE.KDictList
import KE.RegKIsAll
import Wide.FinOn
import KE.KLam
import KE.KNestM
import PySem.Challenge.RW_hourtable_k87_hours_refused
set_option compiler.extract_closed false
set_option Elab.async false
set_option linter.all false
set_option maxRecDepth 100000
set_option bootstrap.genMatcherCode false
open List renaming length_map → ae, getElem?_eq_some_iff → ai, length_append → ao, length_cons → av, map_append → aw, mem_cons → ay, mem_singleton → aB, getElem?_map → aC, mem_of_getElem? → aD, mem_cons_of_mem → aE, size_toArray → aH, mem_map → aI, length_take → aL, mem_append → aS, getElem?_cons_succ → aZ, getElem?_append_right → bc, map_map → bf, mem_cons_self → bh, map_cons → bq, not_mem_nil → bz, mem_append_right → bC, length_drop → bD, take_add_one → bG, getElem?_append_left → bI, take_length → bO, nodup_cons → bP, replicate → bS, append_nil → cz, mem_append_left → cB, getElem?_of_mem → cE, map_congr_left → cJ, getD_eq_getElem?_getD → cM, getElem_mem → cW, mem_map_of_mem → cX, getElem?_take_of_lt → cY, range → c7, getElem?_drop → dv, append_assoc → dA, take_of_length_le → eP, length_singleton → eX, filterMap_append → eY, length_nil → fq, lookup → fK, take_append_drop → fZ, getElem?_eq_none → gb, lookup_cons → gf, getElem_map → gj, sum_cons → gu, map_drop → gx, pairwise_iff_getElem → gN, drop_eq_getElem_cons → gO, mem_filterMap → gT, mem_of_mem_take → gZ, replicate_succ → ig, filterMap_cons → ij, sum_append → iT, length_set → iU, foldl_cons → iV, nodup_append → iX, take_append_of_le_length → jn, drop_of_length_le → jv, any_cons → jF, foldl_append → jM, mem_of_mem_drop → jV, length → jW, all_eq_true → j4, take_left' → ku, find?_cons → kz, length_eq_zero_iff → kC, length_range → kP, getElem?_set_self → kS, flatten_cons → kU, filterMap → kW, map_take → lG, of_mem_zip → lP
open PySem renaming Value → af, wpAny_bind → aj, Addr → aq, Shared → ar, sizeLine → az, wpAny_pure → aJ, Program → aK, FuncData → aT, wpAny → aY, World → bg, boot_len → bp, starEach → br, importedModules → bu, model → bF, mainGlobals → bH, Heap → bM, Around → cn, Str → cN, Spec → cP, wpAny_field → cT, Stmt → c8, Builtin → dC, wpAny_mono → dG, eval → dY, NameKind → eO, wpAny_loadPart' → eZ, treeTable → fu, wpAny_setField_rec → fF, compareOp → fJ, wpAny_callSpecial?_slot → gr, mem_of_lookup → gz, backTo → gI, wpAny_newObj_type → gM, wpAny_holding → hI, attributeBase → ia, wpAny_pyIter_list → iw, binaryOp → iH, wpAny_Call_Name_kw → iQ, sysModules → iR, wpAny_truthy_bool → ja, wpAny_loadPart_at → jb, call_meets → jh, wpAny_call_entry → jw, foldedSetIterable → jZ, wpAny_seqItems → j7, sliceBounds → j8, keywordEach → j9, codeAny_mono → kr, Keyword → kX, wpAny_call → kZ, wpAny_setField → lp, rawInt → lB, swapsWith → lR, wpAny_attempt → lV, lookup_relabel_local → l7, codeAny_call_builtin → ma, wpAny_passesOwn → md, letOwnedTupleGo → mj, tupleKind_room_in1 → mR, slot_list_getitem → nH, wpAny_getItem_list_slice → nU
open PySem.W renaming Frag → ak, findIn → bW, nsIn → cg, openGood → cK, mg_none_of → cU, openSeen → dk, mg_of → dZ, keepIn → eQ, kia_one → fY, fnOf → gn, emptyDict → gp, openEnds → gX, fencedOpening → hZ, kitOne → iC, instObj → iP, hasDictIn → jB, codeIn → jL, plainGet → jS, mroIn → k8, callWith_K → lU
open PySem.Heap renaming get?_push_of_some → au, get?_push_size → aU, lt_size → aW, SameBut → de, size_push → eF, get?_update_other → gC, get?_update_self → gP
open PySem.Str renaming ofString → ax, empty → gU, join → ir
open Nat renaming le_refl → aG, lt_of_lt_of_le → ck, ne_of_lt → cG, le_trans → cO, zero_le → cV, min_eq_left → eh, lt_of_le_of_ne → gd, sub_self → gY, lt_trichotomy → ic, lt_irrefl → iF, lt_succ_iff_lt_or_eq → i9, add_le_add_left → jf, le_succ → ju, ne_of_gt → jz, lt_of_le_of_lt → jA, not_lt_zero → jE
open Option renaming map_eq_some_iff → aV, toList_none → ji
open PySem.F renaming plainAttrs_list → bB, type_list_append → bJ, slot_list_append → bK, plainAttrs_str → dj, type_str_join → gK, slot_str_join → gL, slot_dict_get → iE, slot_tuple_iterator_next → j6, plainAttrs_dict → ke, entry_dict_get → kB, slot_enumerate_next → lJ, args_tuple_add_2 → mx, entry_tuple_add → mM
open Bool renaming false_ne_true → bN, and_eq_true → cv, eq_false_iff → gF, false_and → kY, true_and → lI
open Option.some renaming inj → bU
open PySem.W.Fast renaming te14364793385576792824 → bX, te14289696077712309145 → bY, te11892475500146522536 → bZ, te10274390034422433532 → b8, te10156331382660048174 → b9, te6613529449190102663 → cp, te1435165496053646825 → cq, tw4187177175401517315 → cR, te4187177175401517315 → cS
open PySem.PassesOwn renaming never → cf
open Ne renaming symm → cQ
open PySem.Builtin.Str renaming occurrences → cZ, partsBetween → iM
open PySem.Txt renaming join → dm, split → dU
open Lean renaming maxHeartbeats → dq
open Int renaming eq_ofNat_of_zero_le → dz, toNat_natCast → ff
open PySem.Builtin.SmallTypes renaming nextOf → dJ, ownedTupleIsFree → gS, ownedTupleHandOut → jj
open PyProof.Rows renaming callWith_type1 → eT, boot_isinstance → mr
open False renaming elim → eV
open PySem.PyData renaming keyHash → fU
open Array renaming getElem?_eq_some_iff → gy, length_toList → gG, getElem?_toList → jH, getElem?_eq_getElem → mE
open PySem.StrLaws renaming glued_eq_join → gJ
open PySem.Calls renaming callWith_builtin → iu, spliced_cons → jo, evalArgs_plain → jT
open PySem.Challenge renaming rw_hourtable_k87_hours_refused → iD
open PySem.Obj renaming data_mapFields → iL, mapFields → i8, isFreed_of_fields → lg
open Pure renaming pure → iS
open PySem.Builtin.Slice renaming slicePlaces → jC, sliceAdjust → lH
open PySem.Builtin.Tuple renaming tupleExact → jN
open PySem.Builtin.Range renaming rangeSize → jX
open PySem.Builtin.List renaming listTooLong → lQ
open Classical renaming propDecidable → mD
open PyProof.Rows.F renaming plain_set_update_loop → nY
noncomputable section
abbrev rO:=@if_neg
abbrev rP:=@if_pos
abbrev rQ:=@absurd
abbrev rR:=@decide_eq_true
abbrev rS:=@decide_eq_false
abbrev rT:=@of_decide_eq_true
abbrev rV:=@congrArg
set_option maxHeartbeats 4000000
theorem L2.au0 (_:True:=by rfl):True:=trivial
theorem L2.au1 (_:True:=by decide):True:=trivial
theorem L2.au2 (_:True:=by intro _;rfl):True:=trivial
theorem L2.au3 (_:True:=by first | exact .inl rfl | exact .inr rfl | assumption):True:=trivial
theorem gE {α:Type}{l:List α}{i:Nat}(h:i<l.length):l[i]? =some l[i]:=List.getElem?_eq_getElem h
variable {A:cn}{B base h h':bM}{C CL CP D L a dx f f0 f1 f2 f3 fa fc fg fh it p q:aq}{E Q W:af→ar→Prop}{G:Array PySem.GenState→Array PySem.GenState→Prop}{K:ak}{M:PySem.Model}{N fr loose nn ns ps ss ws:List PySem.Str}{P prog:aK}{R:PySem.Result→ar→Prop}{T newId:String}{YP:bg→bM→Prop}{aN pins':List (aq×PySem.Obj)}{apos cpos p2 pos pos':PySem.Pos}{b lo:Int}{bmB ds its old sub us vs:List af}{body sts:List c8}{cd u was:af}{ch ex fp:List aq}{col:Option Bool}{d dct dd od:Option aq}{d':PySem.Drawn}{d1 d2 d3 dc dg dh dr fd fd1 fd2:aT}{e ea elt iter tg value:PySem.Expr}{env:PySem.Env}{es ifs:List PySem.Expr}{g':Array PySem.GenState}{hdct:Bool}{i j k m n t':Nat}{is ts:List Int}{items:Array af}{js:List Nat}{kw:List (PySem.Str×af)}{mA mg:PySem.Str→Option af}{name qual x z:PySem.Str}{ob ox:PySem.Obj}{op:PySem.CmpOp}{osl sl:Array (Option af)}{outer:List PySem.Env}{s s':ar}{sc scope:PySem.Scope}{st:c8}{tk:PySem.Tok}{w:bg}{α:Type}
namespace L2
open PySem PySem.Spec PyProof.Rows
def lO (s:c8):Arguments:=match s with
 | .FunctionDef _ a _ _ _ _ _ _ _ _=>a
 | _=>{ posonlyargs:=[],args:=[],vararg:=none,kwonlyargs:=[],kw_defaults:=[],kwarg:=none,defaults:=[] }
def kM (s:c8):List c8:=match s with
 | .FunctionDef _ _ b _ _ _ _ _ _ _=>b
 | _=>[]
def defScope (s:c8):Scope:=match s with
 | .FunctionDef _ _ _ _ _ _ sc _ _ _=>sc
 | _=>{ kind:= .function,names:=[],isGenerator:=false,isCoroutine:=false }
abbrev bmVE:List af:=[.type "ValueError",.type "Exception",.type "BaseException",.type "object"]
end L2
namespace HN
open PySem L2 PyProof.Rows
def top (i:Nat):c8:=PySem.Challenge.pw_hourtable_k87_hours_refused.main.body.getD i (.Pass ⟨0,0,0,0⟩)
def clsOf (s:c8)(i:Nat):c8:=match s with
 | .ClassDef _ _ _ body _ _ _ _ _ _ _=>body.getD i (.Pass ⟨0,0,0,0⟩)
 | s=>s
def clsDef (s:c8)(i:Nat):c8:=match s with
 | .ClassDef _ _ _ body _ _ _ _ _ _ _=>body.getD i (.Pass ⟨0,0,0,0⟩)
 | s=>s
structure Df (K:ak)(x:Str)(st:c8)(f:aq):Prop where
 n:cg K bH x=some (some (.ref f))
 l:∃ (oc:af) (od an:Option aq) (sl:Array (Option af)) (kV dc pm cd ct:af),K.lookup f=some ⟨oc,od,.func (gn x x (lO st) (kM st) (defScope st) .none kV dc pm an cd ct),sl⟩∧jL K cd x=true∧eQ K (.ref f)=true
structure Mf (K:ak)(C:aq)(x q:Str)(st:c8)(f:aq):Prop where
 a:bW K (.ref C) x=some (some (.ref f))
 b:PySem.W.isFn K (.ref f)=true
 l:∃ (oc:af) (od an:Option aq) (sl:Array (Option af)) (kV dc pm cd ct:af),K.lookup f=some ⟨oc,od,.func (gn x q (lO st) (kM st) (defScope st) .none kV dc pm an cd ct),sl⟩∧jL K cd q=true∧eQ K (.ref f)=true
def adr (K:ak)(x:Str):aq:=match cg K bH x with | some (some (.ref f))=>f | _=>0
def reb (x:Str)(st:c8):Option Obj→Option Obj | some ⟨oc,od,.func d,sl⟩=>some ⟨oc,od,.func (gn x x (lO st) (kM st) (defScope st) .none d.kwdefaults d.doc d.pyModule d.annotations d.code d.closureTuple),sl⟩ | _=>none
def cdO:Option Obj→af | some ⟨_,_,.func d,_⟩=>d.code | _=> .none
def isO:Option Obj→Bool | some ⟨_,_,.func _,_⟩=>true | _=>false
def dfL (K:ak)(e:Str×c8):Option (Option af)×Bool×Option Obj×Bool×Bool:=(cg K bH e.1,isO (K.lookup (adr K e.1)),K.lookup (adr K e.1),jL K (cdO (K.lookup (adr K e.1))) e.1,eQ K (.ref (adr K e.1)))
def dfR (K:ak)(e:Str×c8):Option (Option af)×Bool×Option Obj×Bool×Bool:=(some (some (.ref (adr K e.1))),true,reb e.1 e.2 (K.lookup (adr K e.1)),true,true)
theorem df_of (h:dfL K (x,st)=dfR K (x,st)):Df K x st (adr K x):=by
 unfold dfL dfR at h;simp only [Prod.mk.injEq] at h;obtain ⟨h1,h2,h3,h4,h5⟩:=h;refine ⟨h1,?_⟩;revert h2 h3 h4;cases hk:K.lookup (adr K x) with
 | none=>intro h2;cases h2
 | some o =>
  obtain ⟨oc,od,d,sl⟩:=o;cases d <;> intro h2 h3 h4 <;> first | (cases h2;done) | exact ⟨oc,od,_,sl,_,_,_,_,_,h3,h4,h5⟩
def Fcx (K:ak):List (Str×c8)→(List aq→Prop)→Prop
 | [],C=>C []
 | (x,st)::r,C=>∀ f:aq,Df K x st f→Fcx K r fun l=>C (f::l)
theorem fcx_of {K:ak}:∀ {L:List (Str×c8)} {C:List aq→Prop},L.map (dfL K)=L.map (dfR K)→Fcx K L C→C (L.map fun e=>adr K e.1)
 | [],_,_,k=>k
 | (x,st)::r,C,h,k=>by
  rw [bq,bq] at h;injection h with h1 h2
  exact fcx_of (L:=r) (C:=fun l=>C (adr K x::l)) h2 (k _ (df_of h1))
def Facts (K:ak)(w:bg):Prop:=∀ C:Prop,Fcx K (("greatest_whole",top 8)::("is_whole",top 9)::("is_within",top 10)::("is_numeral",top 11)::("read_whole",top 12)::("are_ends",top 17)::("are_lengths",top 18)::("is_span",top 19)::("read_name",top 68)::("read_beat",top 69)::("read_line",top 70)::("read_row",top 71)::("read_plan",top 72)::("change_span",top 74)::("apart_span",top 75)::("meet_span",top 76)::("plan_by",top 78)::("net_by",top 79)::("hours_by",top 81)::("hours_of",top 82)::("timetable",top 83)::("_law_cell_at",top 85)::("_law_mixed",top 86)::("_law_pot",top 87)::("_law_take",top 88)::("_law_names",top 89)::("_law_line_row",top 90)::("_law_lines",top 91)::("_law_ends",top 92)::("_law_ride",top 93)::("_law_text",top 96)::("_law_span_words",top 97)::("_law_pairs",top 98)::("_law_inner",top 99)::("_law_more_row",top 100)::("_law_plan",top 101)::("_law_hours",top 102)::("_law_other_word",top 103)::("_law_bent",top 104)::("_law_row_told",top 105)::("law",top 106)::[]) (fun l=>∀ {t1 t2 t3 t4 t5 t6 t7:Tok} {xL xP xF q1 q2 q3 q4 q5 jy1 jy2 jy3 jy4 jy5 jy6 jz1 jz2 jz3 jz4 jz5 jz6 jz7 jz8 jz9 jza:aq} {ka kb kc kd ua1 ub1 ua2 ub2 ua3 ub3 ua4 ub4 uc ud ue:Tok} {nF nn1 nn2 nn3 nn4 nn5:Nat} {x1 xc xi rN:aq} {rnm rq:Str} {rbs rsub:List af} {rsn:List Str} {rab:Bool} {rcol:Option Bool} {rdd odI anI:Option aq} {rk0 rk1 rk2 rk3 rk5:Option af} {slI:Array (Option af)} {ocI kVI dcI pmI cdI ctI:af},(cg K bH "MOST_HAPPENINGS" =some (some (.int 16 t1))) →
 (cg K bH "MOST_SPANS" =some (some (.int 40 t2))) →
 (cg K bH "MOST_WEIGHT" =some (some (.int 1000000000000 t3))) →
 (cg K bH "LETTERS" =some (some (.str "abcdefghijklmnopqrstuvwxyz" t4))) →
 (cg K bH "MOST_LETTERS" =some (some (.int 8 t5))) →
 (cg K bH "FIGURES" =some (some (.str "0123456789" t6))) →
 (cg K bH "MOST_FIGURES" =some (some (.int 60 t7))) →
 (cg K bH "isinstance" =some none) →
 (cg K bH "int" =some none) →
 (cg K bH "bool" =some none) →
 (cg K bH "tuple" =some none) →
 (cg K bH "len" =some none) →
 (cg K bH "min" =some none) →
 (cg K bH "all" =some none) →
 (cg K bH "range" =some none) →
 (cg K bH "enumerate" =some none) →
 (cg K bH "zip" =some none) →
 (cg K bH "sum" =some none) →
 (cg K bH "list" =some none) →
 (cg K bH "max" =some none) →
 (cg K bH "set" =some none) →
 (cg K bH "str" =some none) →
 (cg K bH "Line" =some (some (.ref xL))) →
 (jS K xL gU=true) →
 (jB K xL=true) →
 (PySem.W.plainOver K xL=true) →
 (bW K (.ref xL) "__setattr__" =some (some (.builtin "object.__setattr__"))) →
 (bW K (.ref xL) "name" =some none) →
 (bW K (.ref xL) "stops" =some none) →
 (bW K (.ref xL) "runs" =some none) →
 (bW K (.ref xL) "stays" =some none) →
 (bW K (.ref xL) "first" =some none) →
 (PySem.W.makesIn K xL=true) →
 (eQ K (.ref xL)=true) →
 (Mf K xL "__init__" "Line.__init__" (clsOf (top 73) 0) jy1) →
 (Mf K xL "coming" "Line.coming" (clsOf (top 73) 1) jy2) →
 (Mf K xL "going" "Line.going" (clsOf (top 73) 2) jy3) →
 (Mf K xL "ride" "Line.ride" (clsOf (top 73) 3) jy4) →
 (Mf K xL "own_spans" "Line.own_spans" (clsOf (top 73) 4) jy5) →
 (Mf K xL "own_labels" "Line.own_labels" (clsOf (top 73) 5) jy6) →
 (cg K bH "Plan" =some (some (.ref xP))) →
 (jS K xP gU=true) →
 (jB K xP=true) →
 (PySem.W.plainOver K xP=true) →
 (bW K (.ref xP) "__setattr__" =some (some (.builtin "object.__setattr__"))) →
 (bW K (.ref xP) "beat" =some none) →
 (bW K (.ref xP) "lines" =some none) →
 (bW K (.ref xP) "between" =some none) →
 (PySem.W.makesIn K xP=true) →
 (eQ K (.ref xP)=true) →
 (Mf K xP "__init__" "Plan.__init__" (clsOf (top 77) 0) jz1) →
 (Mf K xP "happenings" "Plan.happenings" (clsOf (top 77) 1) jz2) →
 (Mf K xP "all_spans" "Plan.all_spans" (clsOf (top 77) 2) jz3) →
 (Mf K xP "all_labels" "Plan.all_labels" (clsOf (top 77) 3) jz4) →
 (Mf K xP "is_small" "Plan.is_small" (clsOf (top 77) 4) jz5) →
 (Mf K xP "take_line" "Plan.take_line" (clsOf (top 77) 5) jz6) →
 (Mf K xP "span_between" "Plan.span_between" (clsOf (top 77) 7) jz7) →
 (Mf K xP "take_between" "Plan.take_between" (clsOf (top 77) 8) jz8) →
 (Mf K xP "take" "Plan.take" (clsOf (top 77) 9) jz9) →
 (Mf K xP "take_stay" "Plan.take_stay" (clsOf (top 77) 6) jza) →
 (cg K bH "FORMS" =some (some (.ref xF))) →
 ((xF == iR)=false) →
 (K.lookup xF=some ⟨.type "dict",none,.dict #[⟨fU w.params "stay",.str "stay" ka,.ref q1⟩,⟨fU w.params "change",.str "change" kb,.ref q2⟩,⟨fU w.params "apart",.str "apart" kc,.ref q3⟩,⟨fU w.params "meet",.str "meet" kd,.ref q4⟩] nF,#[]⟩) →
 (K.lookup q1=some ⟨.type "tuple",none,.seq #[.int 2 ua1,.int 3 ub1] nn1,#[]⟩) →
 (K.lookup q2=some ⟨.type "tuple",none,.seq #[.int 3 ua2,.int 3 ub2] nn2,#[]⟩) →
 (K.lookup q3=some ⟨.type "tuple",none,.seq #[.int 3 ua3,.int 1 ub3] nn3,#[]⟩) →
 (K.lookup q4=some ⟨.type "tuple",none,.seq #[.int 4 ua4,.int 1 ub4] nn4,#[]⟩) →
 (cg K bH "STAY_UNTOLD" =some (some (.ref q5))) →
 (K.lookup q5=some ⟨.type "tuple",none,.seq #[.int 0 uc,.int 0 ud,.int 0 ue] nn5,#[]⟩) →
 (cg K bH "NoPlan" =some (some (.ref xc))) →
 (bW K (.ref xc) "__init__" =some (some (.ref xi))) →
 (K.lookup xc=some (PySem.excClassObj rnm rq xc rN rbs (.ref x1::bmVE) true rsn rsub rab rcol rdd rk0 rk1 rk2 rk3 rk5 "ValueError.__new__")) →
 (PySem.W.isFn K (.ref xi)=true) →
 (eQ K (.ref xc)=true) →
 (bW K (.ref xc) "__setattr__" =some (some (.builtin "object.__setattr__"))) →
 (K.lookup xi=some ⟨ocI,odI,.func (gn "__init__" "NoPlan.__init__" (lO (clsDef (top 4) 0)) (kM (clsDef (top 4) 0)) (defScope (clsDef (top 4) 0)) .none kVI dcI pmI anI cdI ctI),slI⟩) →
 (jL K cdI "NoPlan.__init__" =true) →
 (eQ K (.ref xi)=true) →
 (PySem.W.specialIn K (.ref x1) "__getattribute__" =some (some (.builtin "type.__getattribute__"))) →
 (PySem.W.readsIn K x1 (.type "type")=true) →
 (PySem.W.findCls K (.ref x1) (.type "type") "__init__" =some (.val (.builtin "ValueError.__init__"))) →
 (bW K (.ref xc) "__getattribute__" =some (some (.builtin "BaseException.__getattribute__"))) →
 (bW K (.ref xc) "__getattr__" =some none) →
 (bW K (.ref xc) "__class__" =some (some (.builtin "object.__class__"))) →
 (PySem.W.specialIn K (.builtin "object.__class__") "__get__" =some (some (.builtin "getset_descriptor.__get__"))) →
 (PySem.W.takesIn K (.builtin "object.__class__")=some true) →
 (k8 K xc (.type "object")=some true) →
 (k8 K xc (.type "BaseException")=some true) →
 (jB K xc=true) →
 (bW K (.ref xc) "row" =some none) →
 (k8 K xc (.ref x1)=some true) →
 (cg K bH "HourError" =some (some (.ref x1))) →
 (PySem.W.excIn K x1 [.type "ValueError",.type "Exception",.type "BaseException",.type "object"] "ValueError.__new__" =true)→C)→C
def Wp:Prop:=∀ {q:aK} {loose:List Str} {XP:(Str→Option af)→bM→Prop} {YP:bg→bM→Prop} {d:DefRec} {K:Params→ak},d.params.defaults=[]→d.name = "law" →(∀ (w:bg) (h:bM),YP w h→(K w.params).In h)→(∀ w:bg,Facts (K w.params) w)→PySem.W.WalkO q loose XP YP (iD).row.toRowW d [] (fun f vs=>PySem.call f vs)
end HN
section
open PySem PySem.W PyProof.Rows
def HN.seenOf:aK:={ PySem.Challenge.pw_hourtable_k87_hours_refused with main:={ PySem.Challenge.pw_hourtable_k87_hours_refused.main with body:=[1,2,3,4,6,7,8,9,10,11,12,14,15,16,17,18,19,20,22,23,24,25,26,27,28,30,31,32,33,34,35,36,37,39,40,41,42,43,45,46,47,49,50,51,52,53,54,55,56,57,58,60,61,62,64,65,66,67,68,69,70,71,72,73,74,75,76,77,78,79,81,82,83,85,86,87,88,89,90,91,92,93,94,95,96,97,98,99,100,101,102,103,104,105,106].map HN.top } }
def HN.isSeen (s:ar):Bool:=xlAt HN.seenOf [] s && recOk (RowW.records (OpenRow.toRowW (OpenLaw.row iD))) s
local macro_rules
 | `(tactic| o_head $H:term) => `(tactic| (refine holds_open (q := HN.seenOf) (loose := [ax "FORMS"]) (XP := XL HN.seenOf []) (Xt := HN.isSeen) (Yf := Hook.obs $H) (Ya := Hook.val $H) (YP := Hook.says $H) (N := 4828) ?_ (Hook.of $H) (Hook.keeps $H) (fun s e => xl_of s (Bool.and_eq_true_iff.mp e).1) XL.keeps (by rfl) (by rfl) (by rfl) (fun s e => recFacts_of (Bool.and_eq_true_iff.mp e).2) ?_ ?_ ?_ ?_ ?_ ?_))
theorem HN.left_two {σ β:Type}{e:Option σ}{f:σ→α}{g:σ→β}{a:α}{b:β}(h1:e.map f=some a)(h2:e.map g=some b):e.map (fun s=>(f s,g s))=some (a,b):=by
 cases e with
 | none=>cases h1
 | some s=>injection h1 with h1;injection h2 with h2;show some (f s,g s)=_;rw [h1,h2]
namespace HN
open PySem PySem.W
def topRunG (st:SharedT→Thread→Option (SharedT×Thread))(ok:Thread→Bool):Nat→SharedT→Thread→Option SharedT
 | 0,_,_=>none
 | n+1,s,t=>match through t with
  | true=>some s
  | false=>match ok t with
   | false=>none
   | true=>match st s t with
    | some r=>topRunG st ok n r.1 r.2
    | none=>none
theorem topRun_of {tb:String→Option dC}{p:aK}{w:bg}{n₀:Nat}{ann:Option af}:∀ {n:Nat} {s s':SharedT} {t:Thread},topRunG (stepT (denote tb) p w) (stepOk n₀ ann) n s t=some s'→topRun tb p w n₀ ann n s.abs t=some s'.abs
 | 0,_,_,_,h=>by cases h
 | n+1,s,s',t,h=>by
  unfold topRunG at h;unfold topRun;cases ht:through t with
  | true=>rw [ht] at h;cases h;rfl
  | false =>
   rw [ht] at h;cases hk:stepOk n₀ ann t with
   | false=>rw [hk] at h;cases h
   | true =>
    rw [hk] at h;cases hs:stepT (denote tb) p w s t with
    | none=>rw [hs] at h;cases h
    | some r=>obtain ⟨s₂,t₂⟩:=r;rw [hs] at h;rw [stepT_spec hs];exact topRun_of h
def ofL:List Obj→Nat→BT→BT
 | [],_,T=>T
 | o::l,n,T=>ofL l (n+1) (T.ins n o)
def Ful (n:Nat)(T:BT):Prop:=∀ i,i<n→(T.get i).isSome=true
theorem ful_ins (o:Obj):∀ {T:BT} {n:Nat},Ful n T→((T.ins n o).get n).isSome=true
 | .nil,0,_=>rfl
 | .nil,n+1,h=>by cases h 0 (Nat.succ_pos _)
 | .node v l r,n,h=>by
  rw [BT.ins_node]
  by_cases h0:n=0
  ·subst h0;rfl
  rw [rO h0]
  by_cases h1:n % 2=1
  ·rw [rP h1,BT.get_node,rO h0,rP h1]
   refine ful_ins o fun j hj=>?_
   have:=h (2 * j+1) (by lia)
   rwa [BT.get_node,rO (by lia),rP (by lia),show (2 * j+1) / 2=j by lia] at this
  ·rw [rO h1,BT.get_node,rO h0,rO h1]
   refine ful_ins o fun j hj=>?_
   have:=h (2 * j+2) (by lia)
   rwa [BT.get_node,rO (by lia),rO (by lia),show (2 * j+2) / 2 - 1=j by lia] at this
theorem ofL_get:∀ {l:List Obj} {n:Nat} {T:BT},Ful n T→∀ i,i<n+l.length→(ofL l n T).get i=if i<n then T.get i else l[i - n]?
 | [],n,T,_,i,hi=>by rw [rP (by simpa using hi)];rfl
 | o::l,n,T,h,i,hi=>by
  have hg:=BT.get_ins o T n (ful_ins o h);show (ofL l (n+1) (T.ins n o)).get i=_;rw [ofL_get (l:=l) (n:=n+1) (T:=T.ins n o) (fun j hj=>by
   rw [hg]
   by_cases e:j=n
   ·rw [rP e];rfl
   ·rw [rO e];exact h j (by lia)) i (by rw [av] at hi;lia),hg]
  by_cases h1:i<n
  ·rw [rP (by lia),rO (by lia),rP h1]
  ·rw [rO h1]
   by_cases e:i=n
   ·rw [rP (by lia),rP e,e,gY];rfl
   ·rw [rO (by lia),show i - n=(i - (n+1))+1 by lia];rfl
theorem ofL_abs (h:bM):absHeap (ofL h.objs.toList 0 .nil) h.objs.size h.life=h:=by
 have e:(absHeap (ofL h.objs.toList 0 .nil) h.objs.size h.life).objs=h.objs:=by
  apply Array.ext_getElem?
  intro i;rw [absHeap_at]
  by_cases hi:i<h.objs.size
  ·rw [rP hi,ofL_get (n:=0) (fun j hj=>rQ hj (jE _)) i (by rw [gG];lia),rO (jE _),Nat.sub_zero,jH,mE hi]
   rfl
  ·rw [rO hi,Array.getElem?_eq_none (by lia)]
 exact rV (bM.mk · h.life) e
def topFromT (tb:String→Option dC)(p:aK)(w:bg)(N:Nat)(s₀:ar):Option ar :=
 match s₀.heap.isNs bH && s₀.gens.size == 0 with
 | true=>(topRunG (stepT (denote tb) p w) (stepOk s₀.heap.objs.size (s₀.heap.nsMap bH "__annotations__")) N ⟨ofL s₀.heap.objs.toList 0 .nil,s₀.heap.objs.size,s₀.heap.life,s₀.gens,s₀.drawn,s₀.toks,s₀.os⟩ (topStub p)).bind fun s₁=>match staticsOk (bu p.main.body) s₀.heap s₁.abs.heap && namesBound p s₁.abs.heap && gensDone s₁.abs && laidKept s₀.heap s₁.abs.heap with
   | true=>some s₁.abs
   | false=>none
 | false=>none
theorem topFrom_of {tb:String→Option dC}{p:aK}{N:Nat}{s₀ s₁:ar}(h:topFromT tb p w N s₀=some s₁):topFrom tb p w N s₀=some s₁:=by
 unfold topFromT at h;unfold topFrom;cases e:(s₀.heap.isNs bH && s₀.gens.size == 0) with
 | false=>rw [e] at h;cases h
 | true =>
  rw [e] at h;obtain ⟨s₂,h6,h7⟩:=Option.bind_eq_some_iff.mp h;have q:=topRun_of h6;have ea:(SharedT.abs ⟨ofL s₀.heap.objs.toList 0 .nil,s₀.heap.objs.size,s₀.heap.life,s₀.gens,s₀.drawn,s₀.toks,s₀.os⟩)=s₀:=by
   unfold SharedT.abs;rw [ofL_abs]
  rw [ea] at q;exact Option.bind_eq_some_iff.mpr ⟨_,q,h7⟩
def openT (p:aK)(w:bg)(N:Nat):Option ar:=(hZ fu p w N).bind (topFromT fu p w N)
theorem open_of {p:aK}{N:Nat}{f:ar→α}{a:α}(h:(openT p w N).map f=some a):(gX fu p w N).map f=some a:=by
 obtain ⟨s,h1,h2⟩:=aV.mp h;obtain ⟨s₀,h3,h4⟩:=Option.bind_eq_some_iff.mp h1;unfold gX;rw [h3];show (topFrom fu p w N s₀).map f=_;rw [topFrom_of h4];exact rV some h2
end HN
set_option maxHeartbeats 0 in
theorem HN.said:iD.wellSaid=true:=by
 rewrite [PySem.W.Fast.te9446332074065402090]
 decide +kernel
set_option maxRecDepth 100000 in
set_option maxHeartbeats 0 in
def HN.head0:(P:bg→Prop) ×' (HN.Wp→(∀ w:bg,(gX fu iD.row.prog w 4828).map (dk HN.seenOf [ax "FORMS"] (bu iD.row.prog.main.body) HN.isSeen true)=some (cK HN.seenOf [ax "FORMS"]))→(∀ w,P w)→iD.Holds):=by
 apply PSigma.mk
 intro W Lf Sc
 w_on;refine holds_law HN.said fun said=>?_;k_head
 ·exact fun w=>HN.left_two (Lf w) (Sc w)
 ·rfl
 ·assumption
 ·decide +kernel
 ·exact ⟨rfl,rfl,rfl,rfl,rfl,by decide +kernel⟩
 ·w_witness2
 k_fill
 refine W rfl rfl (fun w h Y=>PySem.W.km_in_of Y) ?F
 case F =>
  intro w C k;refine' HN.fcx_of ?E k ?y1 ?y2 ?y3 ?y4 ?y5 ?y6 ?y7 ?z1 ?z2 ?z3 ?z4 ?z5 ?z6 ?z7 ?z8 ?z9 ?z10 ?z11 ?z12 ?z13 ?z14 ?z15 ?w1 ?w2 ?w3 ?w4 ?w5 ?w6 ?w7 ?w8 ?w9 ?w10 ?w11 ?w12 ?w13 ?w14 ?w15 ?w16 ?w17 ?w18 ?w19 ?w20 ?w21 ?w22 ?w23 ?w24 ?w25 ?w26 ?w27 ?w28 ?w29 ?w30 ?w31 ?w32 ?w33 ?w34 ?w35 ?w36 ?w37 ?w38 ?w39 ?w40 ?w41 ?w42 ?w43 ?w44 ?w45 ?w46 ?w47 ?w48 ?w49 ?w50 ?w51 ?w52 ?w53 ?w54 ?w55 ?w56 ?w57 ?w58 ?w59 ?w60 ?w61 ?w62 ?w63 ?w64 ?w65 ?w66 ?w67 ?w68 ?w69 ?w70 ?w71
  (case E=>kernel_rfl)
  (case y1=>k_is);(case y2=>k_is);(case y3=>k_is);(case y4=>k_is);(case y5=>k_is);(case y6=>k_is);(case y7=>k_is);(case z1=>k_is);(case z2=>k_is);(case z3=>k_is);(case z4=>k_is);(case z5=>k_is);(case z6=>k_is);(case z7=>k_is);(case z8=>k_is);(case z9=>k_is);(case z10=>k_is);(case z11=>k_is);(case z12=>k_is);(case z13=>k_is);(case z14=>k_is);(case z15=>k_is)
  (case w1=>k_is)
  (case w2=>k_is)
  (case w3=>k_is)
  (case w4=>k_is)
  (case w5=>k_is)
  (case w6=>k_is)
  (case w7=>k_is)
  (case w8=>k_is)
  (case w9=>k_is)
  (case w10=>k_is)
  (case w11=>k_is)
  (case w12=>k_is)
  (case w13=>exact ⟨by k_is,by k_is,_,_,_,_,_,_,_,_,_,by k_is,by k_is,by k_is⟩)
  (case w14=>exact ⟨by k_is,by k_is,_,_,_,_,_,_,_,_,_,by k_is,by k_is,by k_is⟩)
  (case w15=>exact ⟨by k_is,by k_is,_,_,_,_,_,_,_,_,_,by k_is,by k_is,by k_is⟩)
  (case w16=>exact ⟨by k_is,by k_is,_,_,_,_,_,_,_,_,_,by k_is,by k_is,by k_is⟩)
  (case w17=>exact ⟨by k_is,by k_is,_,_,_,_,_,_,_,_,_,by k_is,by k_is,by k_is⟩)
  (case w18=>exact ⟨by k_is,by k_is,_,_,_,_,_,_,_,_,_,by k_is,by k_is,by k_is⟩)
  (case w19=>k_is)
  (case w20=>k_is)
  (case w21=>k_is)
  (case w22=>k_is)
  (case w23=>k_is)
  (case w24=>k_is)
  (case w25=>k_is)
  (case w26=>k_is)
  (case w27=>k_is)
  (case w28=>k_is)
  (case w29=>exact ⟨by k_is,by k_is,_,_,_,_,_,_,_,_,_,by k_is,by k_is,by k_is⟩)
  (case w30=>exact ⟨by k_is,by k_is,_,_,_,_,_,_,_,_,_,by k_is,by k_is,by k_is⟩)
  (case w31=>exact ⟨by k_is,by k_is,_,_,_,_,_,_,_,_,_,by k_is,by k_is,by k_is⟩)
  (case w32=>exact ⟨by k_is,by k_is,_,_,_,_,_,_,_,_,_,by k_is,by k_is,by k_is⟩)
  (case w33=>exact ⟨by k_is,by k_is,_,_,_,_,_,_,_,_,_,by k_is,by k_is,by k_is⟩)
  (case w34=>exact ⟨by k_is,by k_is,_,_,_,_,_,_,_,_,_,by k_is,by k_is,by k_is⟩)
  (case w35=>exact ⟨by k_is,by k_is,_,_,_,_,_,_,_,_,_,by k_is,by k_is,by k_is⟩)
  (case w36=>exact ⟨by k_is,by k_is,_,_,_,_,_,_,_,_,_,by k_is,by k_is,by k_is⟩)
  (case w37=>exact ⟨by k_is,by k_is,_,_,_,_,_,_,_,_,_,by k_is,by k_is,by k_is⟩)
  (case w38=>exact ⟨by k_is,by k_is,_,_,_,_,_,_,_,_,_,by k_is,by k_is,by k_is⟩)
  (case w39=>k_is)
  (case w40=>rfl)
  (case w41=>k_is)
  (case w42=>k_is)
  (case w43=>k_is)
  (case w44=>k_is)
  (case w45=>k_is)
  (case w46=>k_is)
  (case w47=>k_is)
  (case w48=>k_is)
  (case w49=>k_is)
  (case w50=>k_is)
  (case w51=>k_is)
  (case w52=>k_is)
  (case w53=>k_is)
  (case w54=>k_is)
  (case w55=>k_is)
  (case w56=>k_is)
  (case w57=>k_is)
  (case w58=>k_is)
  (case w59=>k_is)
  (case w60=>k_is)
  (case w61=>k_is)
  (case w62=>k_is)
  (case w63=>k_is)
  (case w64=>k_is)
  (case w65=>k_is)
  (case w66=>k_is)
  (case w67=>k_is)
  (case w68=>k_is)
  (case w69=>k_is)
  (case w70=>k_is)
  (case w71=>k_exc)
set_option maxRecDepth 100000 in
set_option maxHeartbeats 0 in
theorem HN.scf (w:bg):HN.head0.1 (w.withFollow "special-get-raises" false):=by
 show _=_;refine HN.open_of ?_;unfold HN.openT hZ HN.topFromT;rewrite [b8,bY,bX,cq,b9,bZ,cp];kernel_rfl
set_option maxRecDepth 100000 in
set_option maxHeartbeats 0 in
theorem HN.sct (w:bg):HN.head0.1 (w.withFollow "special-get-raises" true):=by
 show _=_;refine HN.open_of ?_;unfold HN.openT hZ HN.topFromT;rewrite [b8,bY,bX,cq,b9,bZ,cp];kernel_rfl
theorem HN.left_q {σ A B C D E F G H:Type}{e:Option σ}{f:σ→A×B×C×D×E×F×G×H}{a:A×B×C×D×E×F×G×H}(h1:e.map (fun s=>((f s).1,(f s).2.1,(f s).2.2.1))=some (a.1,a.2.1,a.2.2.1))(h2:e.map (fun s=>((f s).2.2.2.1,(f s).2.2.2.2.1))=some (a.2.2.2.1,a.2.2.2.2.1))(h3:e.map (fun s=>((f s).2.2.2.2.2.1,(f s).2.2.2.2.2.2.1))=some (a.2.2.2.2.2.1,a.2.2.2.2.2.2.1))(h4:e.map (fun s=>(f s).2.2.2.2.2.2.2)=some a.2.2.2.2.2.2.2):e.map f=some a:=by
 cases e with
 | none=>cases h1
 | some s =>
  injection h1 with h1;injection h2 with h2;injection h3 with h3;injection h4 with h4
  injection h1 with p1 h1;injection h1 with p2 p3;injection h2 with p4 p5;injection h3 with p6 p7
  exact rV some (Prod.ext p1 (Prod.ext p2 (Prod.ext p3 (Prod.ext p4 (Prod.ext p5 (Prod.ext p6 (Prod.ext p7 h4)))))))
set_option maxHeartbeats 0 in
theorem HN.left1f (w:bg):(gX fu iD.row.prog (w.withFollow "special-get-raises" false) 4828).map (fun s=>((dk HN.seenOf [ax "FORMS"] (bu iD.row.prog.main.body) HN.isSeen true s).1,(dk HN.seenOf [ax "FORMS"] (bu iD.row.prog.main.body) HN.isSeen true s).2.1,(dk HN.seenOf [ax "FORMS"] (bu iD.row.prog.main.body) HN.isSeen true s).2.2.1))=some ((cK HN.seenOf [ax "FORMS"]).1,(cK HN.seenOf [ax "FORMS"]).2.1,(cK HN.seenOf [ax "FORMS"]).2.2.1):=by
 refine HN.open_of ?_;unfold HN.openT hZ HN.topFromT;rewrite [b8,bY,bX,cq,b9,bZ,cp,cS];dsimp only [cR,cK];kernel_rfl
set_option maxHeartbeats 0 in
theorem HN.left1t (w:bg):(gX fu iD.row.prog (w.withFollow "special-get-raises" true) 4828).map (fun s=>((dk HN.seenOf [ax "FORMS"] (bu iD.row.prog.main.body) HN.isSeen true s).1,(dk HN.seenOf [ax "FORMS"] (bu iD.row.prog.main.body) HN.isSeen true s).2.1,(dk HN.seenOf [ax "FORMS"] (bu iD.row.prog.main.body) HN.isSeen true s).2.2.1))=some ((cK HN.seenOf [ax "FORMS"]).1,(cK HN.seenOf [ax "FORMS"]).2.1,(cK HN.seenOf [ax "FORMS"]).2.2.1):=by
 refine HN.open_of ?_;unfold HN.openT hZ HN.topFromT;rewrite [b8,bY,bX,cq,b9,bZ,cp,cS];dsimp only [cR,cK];kernel_rfl
set_option maxHeartbeats 0 in
theorem HN.left1 (w:bg):(gX fu iD.row.prog w 4828).map (fun s=>((dk HN.seenOf [ax "FORMS"] (bu iD.row.prog.main.body) HN.isSeen true s).1,(dk HN.seenOf [ax "FORMS"] (bu iD.row.prog.main.body) HN.isSeen true s).2.1,(dk HN.seenOf [ax "FORMS"] (bu iD.row.prog.main.body) HN.isSeen true s).2.2.1))=some ((cK HN.seenOf [ax "FORMS"]).1,(cK HN.seenOf [ax "FORMS"]).2.1,(cK HN.seenOf [ax "FORMS"]).2.2.1):=by
 exact PySem.W.byRow2 "special-get-raises" (P:=fun w=>(gX fu iD.row.prog w 4828).map (fun s=>((dk HN.seenOf [ax "FORMS"] (bu iD.row.prog.main.body) HN.isSeen true s).1,(dk HN.seenOf [ax "FORMS"] (bu iD.row.prog.main.body) HN.isSeen true s).2.1,(dk HN.seenOf [ax "FORMS"] (bu iD.row.prog.main.body) HN.isSeen true s).2.2.1))=some ((cK HN.seenOf [ax "FORMS"]).1,(cK HN.seenOf [ax "FORMS"]).2.1,(cK HN.seenOf [ax "FORMS"]).2.2.1)) HN.left1f HN.left1t w
set_option maxHeartbeats 0 in
theorem HN.left2f (w:bg):(gX fu iD.row.prog (w.withFollow "special-get-raises" false) 4828).map (fun s=>((dk HN.seenOf [ax "FORMS"] (bu iD.row.prog.main.body) HN.isSeen true s).2.2.2.1,(dk HN.seenOf [ax "FORMS"] (bu iD.row.prog.main.body) HN.isSeen true s).2.2.2.2.1))=some ((cK HN.seenOf [ax "FORMS"]).2.2.2.1,(cK HN.seenOf [ax "FORMS"]).2.2.2.2.1):=by
 refine HN.open_of ?_;unfold HN.openT hZ HN.topFromT;rewrite [b8,bY,bX,cq,b9,bZ,cp,cS];dsimp only [cR,cK];kernel_rfl
set_option maxHeartbeats 0 in
theorem HN.left2t (w:bg):(gX fu iD.row.prog (w.withFollow "special-get-raises" true) 4828).map (fun s=>((dk HN.seenOf [ax "FORMS"] (bu iD.row.prog.main.body) HN.isSeen true s).2.2.2.1,(dk HN.seenOf [ax "FORMS"] (bu iD.row.prog.main.body) HN.isSeen true s).2.2.2.2.1))=some ((cK HN.seenOf [ax "FORMS"]).2.2.2.1,(cK HN.seenOf [ax "FORMS"]).2.2.2.2.1):=by
 refine HN.open_of ?_;unfold HN.openT hZ HN.topFromT;rewrite [b8,bY,bX,cq,b9,bZ,cp,cS];dsimp only [cR,cK];kernel_rfl
set_option maxHeartbeats 0 in
theorem HN.left2 (w:bg):(gX fu iD.row.prog w 4828).map (fun s=>((dk HN.seenOf [ax "FORMS"] (bu iD.row.prog.main.body) HN.isSeen true s).2.2.2.1,(dk HN.seenOf [ax "FORMS"] (bu iD.row.prog.main.body) HN.isSeen true s).2.2.2.2.1))=some ((cK HN.seenOf [ax "FORMS"]).2.2.2.1,(cK HN.seenOf [ax "FORMS"]).2.2.2.2.1):=by
 exact PySem.W.byRow2 "special-get-raises" (P:=fun w=>(gX fu iD.row.prog w 4828).map (fun s=>((dk HN.seenOf [ax "FORMS"] (bu iD.row.prog.main.body) HN.isSeen true s).2.2.2.1,(dk HN.seenOf [ax "FORMS"] (bu iD.row.prog.main.body) HN.isSeen true s).2.2.2.2.1))=some ((cK HN.seenOf [ax "FORMS"]).2.2.2.1,(cK HN.seenOf [ax "FORMS"]).2.2.2.2.1)) HN.left2f HN.left2t w
set_option maxHeartbeats 0 in
theorem HN.left3f (w:bg):(gX fu iD.row.prog (w.withFollow "special-get-raises" false) 4828).map (fun s=>((dk HN.seenOf [ax "FORMS"] (bu iD.row.prog.main.body) HN.isSeen true s).2.2.2.2.2.1,(dk HN.seenOf [ax "FORMS"] (bu iD.row.prog.main.body) HN.isSeen true s).2.2.2.2.2.2.1))=some ((cK HN.seenOf [ax "FORMS"]).2.2.2.2.2.1,(cK HN.seenOf [ax "FORMS"]).2.2.2.2.2.2.1):=by
 refine HN.open_of ?_;unfold HN.openT hZ HN.topFromT;rewrite [b8,bY,bX,cq,b9,bZ,cp,cS];dsimp only [cR,cK];kernel_rfl
set_option maxHeartbeats 0 in
theorem HN.left3t (w:bg):(gX fu iD.row.prog (w.withFollow "special-get-raises" true) 4828).map (fun s=>((dk HN.seenOf [ax "FORMS"] (bu iD.row.prog.main.body) HN.isSeen true s).2.2.2.2.2.1,(dk HN.seenOf [ax "FORMS"] (bu iD.row.prog.main.body) HN.isSeen true s).2.2.2.2.2.2.1))=some ((cK HN.seenOf [ax "FORMS"]).2.2.2.2.2.1,(cK HN.seenOf [ax "FORMS"]).2.2.2.2.2.2.1):=by
 refine HN.open_of ?_;unfold HN.openT hZ HN.topFromT;rewrite [b8,bY,bX,cq,b9,bZ,cp,cS];dsimp only [cR,cK];kernel_rfl
set_option maxHeartbeats 0 in
theorem HN.left3 (w:bg):(gX fu iD.row.prog w 4828).map (fun s=>((dk HN.seenOf [ax "FORMS"] (bu iD.row.prog.main.body) HN.isSeen true s).2.2.2.2.2.1,(dk HN.seenOf [ax "FORMS"] (bu iD.row.prog.main.body) HN.isSeen true s).2.2.2.2.2.2.1))=some ((cK HN.seenOf [ax "FORMS"]).2.2.2.2.2.1,(cK HN.seenOf [ax "FORMS"]).2.2.2.2.2.2.1):=by
 exact PySem.W.byRow2 "special-get-raises" (P:=fun w=>(gX fu iD.row.prog w 4828).map (fun s=>((dk HN.seenOf [ax "FORMS"] (bu iD.row.prog.main.body) HN.isSeen true s).2.2.2.2.2.1,(dk HN.seenOf [ax "FORMS"] (bu iD.row.prog.main.body) HN.isSeen true s).2.2.2.2.2.2.1))=some ((cK HN.seenOf [ax "FORMS"]).2.2.2.2.2.1,(cK HN.seenOf [ax "FORMS"]).2.2.2.2.2.2.1)) HN.left3f HN.left3t w
set_option maxHeartbeats 0 in
theorem HN.left4f (w:bg):(gX fu iD.row.prog (w.withFollow "special-get-raises" false) 4828).map (fun s=>(dk HN.seenOf [ax "FORMS"] (bu iD.row.prog.main.body) HN.isSeen true s).2.2.2.2.2.2.2)=some (cK HN.seenOf [ax "FORMS"]).2.2.2.2.2.2.2:=by
 refine HN.open_of ?_;unfold HN.openT hZ HN.topFromT;rewrite [b8,bY,bX,cq,b9,bZ,cp,cS];dsimp only [cR,cK];kernel_rfl
set_option maxHeartbeats 0 in
theorem HN.left4t (w:bg):(gX fu iD.row.prog (w.withFollow "special-get-raises" true) 4828).map (fun s=>(dk HN.seenOf [ax "FORMS"] (bu iD.row.prog.main.body) HN.isSeen true s).2.2.2.2.2.2.2)=some (cK HN.seenOf [ax "FORMS"]).2.2.2.2.2.2.2:=by
 refine HN.open_of ?_;unfold HN.openT hZ HN.topFromT;rewrite [b8,bY,bX,cq,b9,bZ,cp,cS];dsimp only [cR,cK];kernel_rfl
set_option maxHeartbeats 0 in
theorem HN.left4 (w:bg):(gX fu iD.row.prog w 4828).map (fun s=>(dk HN.seenOf [ax "FORMS"] (bu iD.row.prog.main.body) HN.isSeen true s).2.2.2.2.2.2.2)=some (cK HN.seenOf [ax "FORMS"]).2.2.2.2.2.2.2:=by
 exact PySem.W.byRow2 "special-get-raises" (P:=fun w=>(gX fu iD.row.prog w 4828).map (fun s=>(dk HN.seenOf [ax "FORMS"] (bu iD.row.prog.main.body) HN.isSeen true s).2.2.2.2.2.2.2)=some (cK HN.seenOf [ax "FORMS"]).2.2.2.2.2.2.2) HN.left4f HN.left4t w
theorem HN.leftA (w:bg):(gX fu iD.row.prog w 4828).map (dk HN.seenOf [ax "FORMS"] (bu iD.row.prog.main.body) HN.isSeen true)=some (cK HN.seenOf [ax "FORMS"]):=HN.left_q (f:=dk HN.seenOf [ax "FORMS"] (bu iD.row.prog.main.body) HN.isSeen true) (HN.left1 w) (HN.left2 w) (HN.left3 w) (HN.left4 w)
end
local macro_rules
|`(⇑$_)=>`(by trivial)
set_option hygiene false in
local macro_rules
|`(‹$_›)=>`(c9 P w K mg base CX0)
set_option hygiene false in
local macro_rules
|`(‹_›)=>`(c9 l.prog w K mg base CX0)
set_option hygiene false in
local macro_rules
|`(tactic|erw[$g:ident,$a:term,$p:term])=>`(tactic|obtain⟨_,$g:ident⟩:=($a).fn X G (ps:=$p))
local macro_rules
 |`(⟨$x,*⟩)=>do let a:=x.getElems;let r←`(rfl);let u←`(_);let n:=λ(y:Lean.TSyntax `term)=>y.raw.getId;if a.any λy=>n y==`ρ||n y==`τ||n y==`ς then let b:Array (Lean.TSyntax `term):=a.flatMap λy=>if n y==`ρ then #[u,r] else if n y==`τ then #[u,u,u,r,r] else if n y==`ς then #[u,u,r,r] else #[y];`(⟨$b,*⟩) else Lean.Macro.throwUnsupported
local macro_rules
 | `(⋯) => `(by lia)
local macro_rules
 | `(∅) => `(by simp)
local macro_rules
 | `(↥$_) => `(by decide)
local macro_rules
 | `(tactic|apply $e) => `(tactic|refine $e)
set_option hygiene false in
local macro_rules
 | `(tactic|specialize $e) => `(tactic|refine $e (by contradiction) (fun cdv A outer s H vs Q E hr h=>?_))
namespace L2
open PySem PySem.Spec PyProof.Rows
abbrev Key:=Sum Int Str
def keyIs:Key→af→Bool
 | .inl k,v=>af.isInt k v
 | .inr x,v=>af.isStrOf x v
def keyH (w:bg):Key→Int
 | .inl k=>hashInt k
 | .inr x=>hashStr w x
theorem je:∀{k:Key} {v:af},keyIs k v=true→(∃i t,k=Sum.inl i∧v=af.int i t)∨(∃x t,k=Sum.inr x∧v=af.str x t)
 | .inl i,v,h=>by
  obtain⟨t,e⟩:=af.isInt_shape (k:=i) (v:=v) h;exact .inl ⟨i,t,rfl,e⟩
 | .inr x,v,h=>by
  obtain⟨t,e⟩:=af.isStrOf_shape (x:=x) (v:=v) h;exact .inr ⟨x,t,rfl,e⟩
theorem keyIs_int (i:Int)(t:Tok):keyIs (.inl i) (.int i t)=true:=by simp[keyIs,af.isInt]
theorem km (x:Str)(t:Tok):keyIs (.inr x) (.str x t)=true:=by simp[keyIs,af.isStrOf]
theorem key_ll (a b:Int):decide ((Sum.inl a:Key)=Sum.inl b)=(a == b):=by
 by_cases e:a=b
 ·subst e;simp
 ·have h:¬(Sum.inl a:Key)=Sum.inl b:=λq=>e (Sum.inl.inj q)
  rw[rS h];exact(beq_eq_false_iff_ne.mpr e).symm
theorem key_rr (a b:Str):decide ((Sum.inr a:Key)=Sum.inr b)=decide (a=b):=by
 by_cases e:a=b
 ·subst e;simp
 ·have h:¬(Sum.inr a:Key)=Sum.inr b:=λq=>e (Sum.inr.inj q)
  rw[rS h,rS e]
theorem key_lr (a:Int)(b:Str):decide ((Sum.inl a:Key)=Sum.inr b)=false:=rS (λq=>nomatch q)
theorem key_rl (a:Str)(b:Int):decide ((Sum.inr a:Key)=Sum.inl b)=false:=rS (λq=>nomatch q)
def hW (prog:aK)(w:bg):PySem.KeyKind prog w Key where
 is:=keyIs
 hash:=keyH w
 inj:=λv a b ha hb=>by
  rcases je ha with ⟨i,t,rfl,rfl⟩ | ⟨x,t,rfl,rfl⟩
  ·rcases je hb with ⟨j,u,rfl,e⟩ | ⟨y,u,rfl,e⟩
   ·injection e with e1 _;rw[e1]
   ·exact nomatch e
  ·rcases je hb with ⟨j,u,rfl,e⟩ | ⟨y,u,rfl,e⟩
   ·exact nomatch e
   ·injection e with e1 _;rw[e1]
 byValue:=λk v h=>by
  rcases je h with ⟨i,t,rfl,rfl⟩ | ⟨x,t,rfl,rfl⟩ <;> rfl
 pyHash:=λhv h=>by
  rcases je hv with ⟨i,t,rfl,rfl⟩ | ⟨x,t,rfl,rfl⟩
  ·exact wpAny_pyHash_int h
  ·exact wpAny_pyHash_str h
 eqBool:=λhu hv h=>by
  rcases je hu with ⟨i,t,rfl,rfl⟩ | ⟨x,t,rfl,rfl⟩
  ·rcases je hv with ⟨j,u,rfl,rfl⟩ | ⟨y,u,rfl,rfl⟩
   ·rw[key_ll] at h;exact wpAny_eqBool_int h
   ·rw[key_lr] at h;exact SeqAt.EqAt.int_str i t y u _ _ _ _ h
  ·rcases je hv with ⟨j,u,rfl,rfl⟩ | ⟨y,u,rfl,rfl⟩
   ·rw[key_rl] at h;exact SeqAt.EqAt.str_int x t j u _ _ _ _ h
   ·rw[key_rr] at h;exact wpAny_eqBool_str h
 «strs» := λk x t v h=>by
  rcases je h with ⟨i,u,rfl,e⟩ | ⟨y,u,rfl,e⟩
  ·exact nomatch e
  ·injection e with e1 _
   subst e1;cases v <;> rfl
theorem mixKind_int (prog:aK)(w:bg)(i:Int)(t:Tok):(hW prog w).is (.inl i) (.int i t)=true:=keyIs_int i t
theorem om (prog:aK)(w:bg)(x:Str)(t:Tok):(hW prog w).is (.inr x) (.str x t)=true:=km x t
inductive V where
 | non | bl (b:Bool) | int (i:Int) | str (x:Str) | byt (b:Array UInt8) | flt (b:UInt64) | ref (a:aq) | ty (n:String)
 deriving DecidableEq
def jr:V→af→Prop
 | .non,u=>u=af.none
 | .bl b,u=>u=af.bool b
 | .int i,u=>∃t,u=af.int i t
 | .str x,u=>∃t,u=af.str x t
 | .byt b,u=>∃t,u=af.bytes b t
 | .flt b,u=>∃t,u=af.float b t
 | .ref a,u=>u=af.ref a
 | .ty n,u=>u=af.type n
abbrev ie:List V→List af→Prop:=Paired jr
theorem ie.length {xs:List V}(r:ie xs us):xs.length=us.length:=Paired.length r
theorem ie.get:∀{xs:List V} {us:List af} {i:Nat} {x:V},ie xs us→xs[i]? =some x→∃u,us[i]? =some u∧jr x u
 | _,_,_,_,.nil,e=>by simp at e
 | _,_,0,_,.cons r _,e=>by simp at e;subst e;exact⟨ρ,r⟩
 | _,_,i+1,x,.cons _ t,e=>by
  obtain⟨u,h1,h2⟩:=ie.get (i:=i) (x:=x) t (by simpa using e);exact⟨u,by simpa using h1,h2⟩
theorem ie.set {x:V}{u:af}(r:jr x u):∀{xs:List V} {us:List af} (i:Nat),ie xs us→ie (xs.set i x) (us.set i u)
 | _,_,_,.nil=> .nil
 | _,_,0,.cons _ t=> .cons r t
 | _,_,i+1,.cons q t=> .cons q (ie.set r i t)
theorem ie.append:∀{xs ys:List V} {us ws:List af},ie xs us→ie ys ws→ie (xs++ys) (us++ws)
 | _,_,_,_,.nil,s=>s
 | _,_,_,_,.cons r t,s=> .cons r (ie.append t s)
theorem ie.take:∀{xs:List V} {us:List af} (n:Nat),ie xs us→ie (xs.take n) (us.take n)
 | _,_,0,_=> .nil
 | _,_,_+1,.nil=> .nil
 | _,_,n+1,.cons r t=> .cons r (ie.take n t)
theorem ie.drop:∀{xs:List V} {us:List af} (n:Nat),ie xs us→ie (xs.drop n) (us.drop n)
 | _,_,0,r=>r
 | _,_,_+1,.nil=> .nil
 | _,_,n+1,.cons _ t=>ie.drop n t
def pZ:Option V→Option af→Prop
 | some v,some u=>jr v u
 | none,none=>True
 | _,_=>False
def KV {κ:Type}:List (κ×V)→List (κ×af)→Prop:=Paired λ(p:κ×V) (q:κ×af)=>p.1=q.1∧jr p.2 q.2
def kV:Key→V
 | .inl i=> .int i
 | .inr x=> .str x
inductive HO where
 | lst (xs:List V)
 | tup (xs:List V)
 | dK (kvs:List (Key×V)) | dT (kvs:List (List Key×V))
 | set (S:Int→Bool) (n:Nat)
 | ins (C dx:aq) (fs:List (Str×V))
 | own (x:aq)
 | xd (fs:List (Str×V))
 | met (f x:aq)
 | rng (lo hi:Int)
 | frz (o:Obj) (u:HO)
 | tbl (ps:Array af)
 | ext (φ:bM→Prop)
abbrev Hp:=aq→Option HO
def upd (H:Hp)(a:aq)(o:HO):Hp:=λb=>if b=a then some o else H b
theorem aQ {H:Hp}{o:HO}:upd H a o a=some o:=by unfold upd;rw[rP rfl]
theorem aX {H:Hp}{b:aq}{o:HO}(h:b≠a):upd H a o b=H b:=by unfold upd;rw[rO h]
theorem upd_upd {H:Hp}{o u:HO}:upd (upd H a o) a u=upd H a u:=by
 funext b;unfold upd;split <;> rfl
theorem eN {H:Hp}{b:aq}{o u:HO}(h:H a=some o)(h':H b=some u)(d:o≠u):a≠b:=by
 intro e;subst e;rw[h] at h';exact d (bU h')
theorem aR {H:Hp}{b:aq}{o:HO}(h:H a=some o)(h':H b=none):a≠b:=by
 intro e;subst e;rw[h] at h';cases h'
def mQ (h:bM)(a:aq)(items:Array af):Prop:=∃o,h.get? a=some o∧o.cls= .type "tuple" ∧o.dict=none∧∃n,o.data= .seq items n
theorem mQ.tup {h:bM}{a:aq}{items:Array af}(p:mQ h a items):IsTup h a items:=let ⟨o,e,c,_,n,d⟩:=p;⟨o,e,c,n,d⟩
theorem mQ.lt (p:mQ h a items):a<h.objs.size:=p.tup.lt
theorem mQ.new (h:bM)(items:Array af):mQ (h.push { cls:= .type "tuple",data:= .seq items }) h.objs.size items:=⟨_,aU _ rfl,rfl,rfl,_,rfl⟩
section
variable (P:aK) (w:bg)
def iZ (H:Hp)(h:bM)(a:aq):HO→Prop
 | .lst xs=>xs.length≤az∧∃(its:List af) (n:Nat),ie xs its∧h.get? a=some { cls:= .type "list",data:= .seq its.toArray n }
 | .tup xs=>xs.length≤az∧∃its:List af,ie xs its∧mQ h a its.toArray
 | .dK kvs=>kvs.length≤az∧(a == iR)=false∧∃vs,KV kvs vs∧h.DictOf (hW P w) a vs
 | .dT kvs=>kvs.length≤az∧(a == iR)=false∧∃xs:List (List Key×aq×af),
   Paired (λ(p:List Key×V) (q:List Key×aq×af)=>p.1=q.1∧H q.2.1=some (.tup (p.1.map kV))∧jr p.2 q.2.2) kvs xs ∧
   ∃o es ep,h.get? a=some o∧o.ExactDict∧o.data= .dict es ep∧es.toList=xs.map (entryOfKey (tupleKind (hW P w)))∧(xs.map (·.1)).Nodup
 | .set S n=>h.SetOf (intKind P w) a S n
 | .ins C dx fs=>H dx=some (.own a)∧fs.length≤1000∧dx≠a∧h.get? a=some (iP C dx) ∧
   ∃mA,h.Ns1 dx mA∧(∀f,pZ (fs.lookup f) (mA f))∧PySem.Within mA (fs.map (·.1))
 | .own _=>∃o,h.get? a=some o
 | .xd fs=>∃mA,h.Ns1 a mA∧∀f,pZ (fs.lookup f) (mA f)
 | .rng lo hi=>∃t u v,h.get? a=some { cls:= .type "range",data:= .fields #[.int lo t,.int hi u,.int 1 v] }
 | .frz o u=>h.get? a=some o∧iZ H h a u
 | .tbl ps=>h.get? a=some { cls:= .none,data:= .fields ps }
 | .met f x=>h.get? a=some (PySem.W.methodObj (.ref f) (.ref x))
 | .ext φ=>φ h∧(∃o,h.get? a=some o)∧∀h1 h2:bM,φ h1→(∀o,h1.get? a=some o→h2.get? a=some o)→φ h2
def HOk (H:Hp)(h:bM):Prop:=∀a o,H a=some o→iZ P w H h a o
end
section
variable {H H':Hp}{o:HO}
theorem iZ.lt (x:iZ P w H h a o):a<h.objs.size:=by
 cases o with
 | lst xs=>obtain⟨_,_,_,_,e⟩:=x;exact aW e
 | tup xs=>obtain⟨_,_,_,p⟩:=x;exact p.lt
 | dK kvs=>obtain⟨_,_,_,_,o,_,_,e,_⟩:=x;exact aW e
 | dT kvs=>obtain⟨_,_,_,_,o,_,_,e,_⟩:=x;exact aW e
 | set S n=>obtain⟨o,_,_,_,e,_⟩:=x;exact aW e
 | ins C dx fs=>obtain⟨_,_,_,e,_⟩:=x;exact aW e
 | own y=>obtain⟨_,e⟩:=x;exact aW e
 | xd fs=>obtain⟨_,⟨_,_,_,e,_⟩,_⟩:=x;exact aW e
 | rng lo hi=>obtain⟨_,_,_,e⟩:=x;exact aW e
 | frz ob u=>obtain⟨e,_⟩:=x;exact aW e
 | tbl ps=>exact aW (show h.get? a=some _ from x)
 | met f y=>exact aW (show h.get? a=some _ from x)
 | ext φ=>obtain⟨_,⟨_,e⟩,_⟩:=x;exact aW e
theorem Paired.mapP {α β:Type}{F G:α→β→Prop}:∀{l₁:List α} {l₂:List β},Paired F l₁ l₂→(∀a b,F a b→G a b)→Paired G l₁ l₂
 | _,_,.nil,_=> .nil
 | _,_,.cons r t,f=> .cons (f _ _ r) (Paired.mapP t f)
theorem iZ.stay (x:iZ P w H h a o)(k:∀b u,(b=a∨H b=some (.own a))→h.get? b=some u→h'.get? b=some u)
  (ho:∀b,H b=some (.own a)→H' b=some (.own a)) (ht:∀b xs,H b=some (.tup xs)→H' b=some (.tup xs)):iZ P w H' h' a o:=by
 induction o with
 | lst xs=>obtain⟨z,its,n,r,e⟩:=x;exact⟨z,its,n,r,k _ _ (.inl rfl) e⟩
 | tup xs=>obtain⟨z,its,r,ob,e,c⟩:=x;exact⟨z,its,r,ob,k _ _ (.inl rfl) e,c⟩
 | dK kvs=>obtain⟨z,y,vs,r,ob,es,ep,e,c⟩:=x;exact⟨z,y,vs,r,ob,es,ep,k _ _ (.inl rfl) e,c⟩
 | dT kvs =>
  obtain⟨z,y,xs,r,ob,es,ep,e,c⟩:=x;exact⟨z,y,xs,Paired.mapP r λp q z=>⟨z.1,ht _ _ z.2.1,z.2.2⟩,ob,es,ep,k _ _ (.inl rfl) e,c⟩
 | set S n=>obtain⟨ob,es,ep,t,e,c⟩:=x;exact⟨ob,es,ep,t,k _ _ (.inl rfl) e,c⟩
 | ins C dx fs =>
  obtain⟨d,z,ne,e,mA,⟨od,es,ep,e2,c⟩,r⟩:=x;exact⟨ho _ d,z,ne,k _ _ (.inl rfl) e,mA,⟨od,es,ep,k _ _ (.inr d) e2,c⟩,r⟩
 | own y=>obtain⟨ob,e⟩:=x;exact⟨ob,k _ _ (.inl rfl) e⟩
 | xd fs=>obtain⟨mA,⟨od,es,ep,e,c⟩,r⟩:=x;exact⟨mA,⟨od,es,ep,k _ _ (.inl rfl) e,c⟩,r⟩
 | rng lo hi=>obtain⟨t,u,v,e⟩:=x;exact⟨t,u,v,k _ _ (.inl rfl) e⟩
 | frz ob u ih=>obtain⟨e,q⟩:=x;exact⟨k _ _ (.inl rfl) e,ih q⟩
 | tbl ps =>
  have e:h.get? a=some { cls:= .none,data:= .fields ps }:=x;show h'.get? a=some { cls:= .none,data:= .fields ps };exact k a _ (.inl rfl) e
 | met f y =>
  have e:h.get? a=some (PySem.W.methodObj (.ref f) (.ref y)):=x;show h'.get? a=some (PySem.W.methodObj (.ref f) (.ref y));exact k a _ (.inl rfl) e
 | ext φ=>obtain⟨p,⟨o,e⟩,st⟩:=x;exact⟨st _ _ p λo q=>k _ _ (.inl rfl) q,⟨o,k _ _ (.inl rfl) e⟩,st⟩
theorem HOk.lt (x:HOk P w H h)(e:H a=some o):a<h.objs.size:=(x a o e).lt
theorem HOk.fresh (x:HOk P w H h)(e:h.objs.size≤a):H a=none:=by
 cases q:H a with
 | none=>rfl
 | some u=>exact rQ (ck (x.lt q) e) (iF _)
theorem HOk.kept (x:HOk P w H h)(k:∀b u,h.get? b=some u→h'.get? b=some u):HOk P w H h':=λa o e =>
 (x a o e).stay (λb u _ q=>k b u q) (λ_ q=>q) λ_ _ q=>q
theorem HOk.laid (x:HOk P w H h)(k:∀b u,h.get? b=some u→h'.get? b=some u)(hp:h.objs.size≤a)(new:iZ P w (upd H a o) h' a o):HOk P w (upd H a o) h':=λb u e=>by
 have hn:=x.fresh hp
 by_cases hb:b=a
 ·subst hb;rw[aQ] at e;cases e;exact new
 ·rw[aX hb] at e
  exact(x b u e).stay (λc v _ q=>k c v q) (λc q=>by rw[aX (aR q hn)];exact q) λc xs q=>by rw[aX (aR q hn)];exact q
end
def Rd (H:Hp)(a:aq)(u:HO):Prop:=H a=some u∨∃o,H a=some (.frz o u)
theorem Rd.ok {H:Hp}{u:HO}(r:Rd H a u)(x:HOk P w H h):iZ P w H h a u:=by
 rcases r with r | ⟨o,r⟩
 ·exact x a u r
 ·obtain⟨_,q⟩:=x a _ r
  exact q
def Mut:Option HO→Prop
 | some (.lst _)=>True
 | some (.dK _)=>True
 | some (.dT _)=>True
 | some (.set _ _)=>True
 | some (.ins _ _ _)=>True
 | some (.ext _)=>True
 | _=>False
section
variable {H:Hp}{x e:aq}{o':HO}
theorem HOk.write (ok:HOk P w H h)(mu:Mut (H x))(he:e=x∨H e=some (.own x))(k:∀b u,b≠e→h.get? b=some u→h'.get? b=some u)(heo:∃u,h'.get? e=some u)
  (new:iZ P w (upd H x o') h' x o'):HOk P w (upd H x o') h':=λb u q=>by
 have nown:∀c y,H c=some (.own y)→c≠x:=λc y r z=>by subst z;rw[r] at mu;exact mu
 have ntup:∀c xs,H c=some (.tup xs)→c≠x:=λc xs r z=>by subst z;rw[r] at mu;exact mu
 by_cases hb:b=x
 ·subst hb;rw[aQ] at q;cases q;exact new
 ·rw[aX hb] at q
  by_cases hbe:b=e
  ·have q':H b=some (.own x):=by
    rcases he with z | z
    ·exact rQ (hbe.trans z) hb
    ·rw[hbe];exact z
   rw[q] at q';cases q';obtain⟨v,hv⟩:=heo;exact⟨v,by rw[hbe];exact hv⟩
  ·apply(ok b u q).stay (λc v hc r=>k c v ?_ r) (λc r=>by rw[aX (nown c b r)];exact r) λc xs r=>by rw[aX (ntup c xs r)];exact r
   rcases hc with rfl | hc
   ·exact hbe
   ·rintro rfl
    rcases he with z | z
    ·exact nown c b hc z
    ·rw[hc] at z;cases z;exact hb rfl
end
structure Un (fs ex:List aq)(H H':Hp)(h h':bM):Prop where
 keep:∀b o,h.get? b=some o→H b=none→b ∉ fs→b ∉ ex→h'.get? b=some o
 slot:∀b o,h.get? b=some o→H b=none→b∈fs→b ∉ ex→∃sl,h'.get? b=some { o with slots:=sl }
 free:∀b o,h.get? b=some o→H b=none→b ∉ ex→H' b=none
 there:∀b o,h.get? b=some o→b ∉ ex→∃o',h'.get? b=some o'
 tups:∀b xs,H b=some (.tup xs)→H' b=some (.tup xs)
 frzs:∀b o u,H b=some (.frz o u)→H' b=some (.frz o u)
 tbls:∀b ps,H b=some (.tbl ps)→∃more,H' b=some (.tbl (ps++more))
section
variable {fs fs' ex':List aq}{H H1 H2:Hp}{h1 h2:bM}{x e:aq}{o:HO}
theorem Un.any (u:Un fs ex H H1 h h1){b:aq}(q:h.get? b=some ob)(n:H b=none)(hx:b ∉ ex):∃sl,h1.get? b=some { ob with slots:=sl }:=by
 by_cases hb:b∈fs
 ·exact u.slot b ob q n hb hx
 ·exact⟨ob.slots,u.keep b ob q n hb hx⟩
theorem Un.kept (k:∀b u,h.get? b=some u→h'.get? b=some u):Un fs ex H H h h' :=
 ⟨λb ob q _ _ _=>k b ob q,λb ob q _ _ _=>⟨ob.slots,k b ob q⟩,λ_ _ _ n _=>n,λb ob q _=>⟨ob,k b ob q⟩,λ_ _ q=>q,λ_ _ _ q=>q,λ_ ps q=>⟨#[],by rw[q];simp⟩⟩
theorem Un.refl:Un fs ex H H h h:=Un.kept λ_ _ q=>q
theorem Un.laid (k:∀b u,h.get? b=some u→h'.get? b=some u)(hp:h.objs.size≤a)(hn:H a=none):Un fs ex H (upd H a o) h h' where
 keep:=λb u q _ _ _=>k b u q
 slot:=λb u q _ _ _=>⟨u.slots,k b u q⟩
 free:=λb u q n _=>by rw[aX (cG (ck (aW q) hp))];exact n
 there:=λb u q _=>⟨u,k b u q⟩
 tups:=λb xs q=>by rw[aX (aR q hn)];exact q
 frzs:=λb u xs q=>by rw[aX (aR q hn)];exact q
 tbls:=λb ps q=>⟨#[],by rw[aX (aR q hn),q];simp⟩
theorem Un.write (mu:Mut (H x))(he:e=x∨H e=some (.own x))(k:∀b u,b≠e→h.get? b=some u→h'.get? b=some u)(heo:∃u,h'.get? e=some u):Un fs ex H (upd H x o) h h':=by
 have hx:∀b,H b=none→b≠x:=λb n z=>by subst z;rw[n] at mu;exact mu
 have hb:∀b,H b=none→b≠e:=λb n z=>by
  subst z
  rcases he with r | r
  ·exact hx b n r
  ·rw[n] at r;cases r
 have hm:∀b u,H b=some u→¬Mut (some u)→b≠x:=λb u q nm z=>by subst z;rw[q] at mu;exact nm mu
 apply ⟨fun b u q n _ _=>k b u (hb b n) q,fun b u q n _ _=>⟨u.slots,k b u (hb b n) q⟩,fun b u q n _=>by rw [aX (hx b n)];exact n,fun b u q _=>?_,
  fun b xs q=>by rw [aX (hm b _ q fun z=>z)];exact q,fun b u xs q=>by rw [aX (hm b _ q fun z=>z)];exact q,fun b ps q=>⟨#[],by rw [aX (hm b _ q fun z=>z),q];simp⟩⟩
 by_cases hbe:b=e
 ·subst hbe;exact heo
 ·exact⟨u,k b u hbe q⟩
end
def trk (h:bM)(H:Hp):List aq:=(c7 h.objs.size).filter λa=>(H a).isSome
def hidT (h:bM)(H:Hp):bM:=PySem.W.hideAll h (trk h H)
theorem hidT_size (h:bM)(H:Hp):(hidT h H).objs.size=h.objs.size:=PySem.W.hideAll_size _ _
theorem hidT_get {H:Hp}{b:aq}{o:Obj}(e:h.get? b=some o)(n:H b=none):(hidT h H).get? b=some o :=
 PySem.W.hideAll_get _ e λhm=>by
  have q:(H b).isSome=true:=(List.mem_filter.mp hm).2;rw[n] at q;simp at q
theorem of_hidT {H:Hp}{b:aq}{o:Obj}(e:(hidT h H).get? b=some o):h.get? b=some o∧H b=none:=by
 have e':h.get? b=some o:=PySem.W.of_hideAll (trk h H) e;apply⟨e',?_⟩;cases q:H b with
 | none=>rfl
 | some x =>
  have hm:b∈trk h H:=List.mem_filter.mpr ⟨List.mem_range.mpr (aW e'),by simp[q]⟩;have z:(hidT h H).get? b=none:=PySem.W.hideAll_none (trk h H) hm;rw[z] at e;cases e
structure Mod (K:ak)(mg:Str→Option af)(base:bM):Prop where
 kin:K.In base
 glob:base.Ns bH mg
 blt:∃mb,base.Ns builtinsNs mb∧∀x:Str,x ≠ "__name__" →mb x=bootBuiltins x
 nolimit:base.NoLimit
structure Cx where
 prog:aK
 w:bg
 K:ak
 mg:Str→Option af
 base:bM
 A:cn
 N:List Str
 s₀:ar
 H₀:Hp
 env:Env
 outer:List Env
 stack:List Env
 ex:List aq
 fn:Str→Bool
 calm:Bool
 pn:List (aq×Obj)
 xe:af→ar→Prop
def frs (l:List Env):List aq:=l.filterMap (·.frame)
abbrev Cx.fs (X:Cx):List aq:=frs X.outer
def Vis (sc:Scope)(x:Str):Prop:=sc.names.lookup x=some .local∨sc.names.lookup x=some .cell∨sc.names.lookup x=some .free
def Loc (sc:Scope)(x:Str):Prop:=sc.names.lookup x=some .local∨sc.names.lookup x=some .cell
def Look (env:Env)(h:bM)(m:Str→Option af)(x:Str)(u:af):Prop :=
 (env.kindOf x=some .local∧m x=some u)∨((env.kindOf x=some .cell∨env.kindOf x=some .free)∧∃c,env.cells.lookup x=some c∧h.IsCell c (some u))
structure Cx.Ok (X:Cx):Prop where
 mod:Mod X.K X.mg X.base
 kind:X.env.scope.kind= .function
 glob:X.env.globals=bH
 blt:X.env.builtins=builtinsNs
 above:X.s₀.heap.objs.size≤X.env.locals
 inj:∀x y c,X.env.cells.lookup x=some c→X.env.cells.lookup y=some c→x=y
 has:∀x,(X.env.kindOf x=some .cell∨X.env.kindOf x=some .free)→∃c,X.env.cells.lookup x=some c
 cab:∀x c,X.fn x=true→X.env.cells.lookup x=some c→X.s₀.heap.objs.size≤c
 hd:X.calm=true→X.A.handled=none
 frames:X.A.frames=some X.stack
 stk:X.stack=X.outer∨(X.stack=X.env::X.outer∧X.env.frame=some X.env.locals)
 exf:∀b∈X.ex,b≠X.env.locals∧∀x c,X.env.cells.lookup x=some c→c≠b
 bs:∀b o,X.base.get? b=some o→X.s₀.heap.get? b=some o∧X.H₀ b=none
 bsz:X.base.objs.size≤X.s₀.heap.objs.size
 noex:∀b o,X.base.get? b=some o→b ∉ X.ex
 exfs:∀b∈X.ex,b ∉ X.fs
 funs:X.s₀.heap.FunFrames X.base X.outer
 frf:∀b∈X.fs,X.H₀ b=none
structure Inv (X:Cx)(aN:List (aq×Obj))(σ:List (Option V))(H:Hp)(s:ar):Prop where
 ok:X.Ok
 os:s.os=X.s₀.os
 bare:AllBare s.gens
 base:Un X.fs X.ex X.H₀ H X.s₀.heap s.heap
 loc:∃m,s.heap.Ns X.env.locals m∧∀(i:Nat) (x:Str) (v:V),X.N[i]? =some x→σ[i]? =some (some v)→Vis X.env.scope x→∃u,jr v u∧Look X.env s.heap m x u
 cell:∀x c,X.env.cells.lookup x=some c→∃v,s.heap.IsCell c v
 free:H X.env.locals=none
 freeC:∀x c,X.env.cells.lookup x=some c→H c=none
 pin:∀p∈X.pn++aN,s.heap.get? p.1=some p.2∧H p.1=none∧p.1≠X.env.locals∧p.1 ∉ X.fs∧∀v,p.2.data≠ .cell v
 hok:HOk X.prog X.w H s.heap
 len:σ.length=X.N.length
section
variable {X:Cx}{σ:List (Option V)}{H H':Hp}
theorem Cx.Ok.nofr (ok:X.Ok){b:aq}{o:Obj}(e:X.base.get? b=some o):b ∉ X.fs:=λhb=>by
 have:=(ok.funs.mem hb).1;rw[e] at this;cases this
theorem Inv.bs (I:Inv X aN σ H s):∀b o,X.base.get? b=some o→s.heap.get? b=some o∧H b=none:=λb o e =>
 ⟨I.base.keep b o (I.ok.bs b o e).1 (I.ok.bs b o e).2 (I.ok.nofr e) (I.ok.noex b o e),I.base.free b o (I.ok.bs b o e).1 (I.ok.bs b o e).2 (I.ok.noex b o e)⟩
theorem Inv.bk (I:Inv X aN σ H s):∀b o,X.base.get? b=some o→s.heap.get? b=some o:=λb o e=>(I.bs b o e).1
theorem Inv.mod (I:Inv X aN σ H s):Mod X.K X.mg X.base:=I.ok.mod
theorem Inv.kIn (I:Inv X aN σ H s):X.K.In s.heap:=I.ok.mod.kin.keeps I.bk
theorem Inv.lt (I:Inv X aN σ H s):X.env.locals<s.heap.objs.size:=let ⟨_,hn,_⟩:=I.loc;hn.lt
theorem Inv.sz (I:Inv X aN σ H s):X.s₀.heap.objs.size≤s.heap.objs.size:=cO I.ok.above (Nat.le_of_lt I.lt)
theorem Inv.nofs (I:Inv X aN σ H s)(h:s.heap.objs.size≤a):a ∉ X.fs:=λhb=>by
 obtain⟨_,o,ho,_⟩:=I.ok.funs.mem hb;exact rQ (ck (aW ho) (cO I.sz h)) (iF _)
theorem Inv.cne (I:Inv X aN σ H s):∀x c,X.env.cells.lookup x=some c→c≠X.env.locals:=λx c e z=>by
 obtain⟨v,o,ho,hd⟩:=I.cell x c e;obtain⟨m,⟨o',es,ep,ho',hd',_⟩,_⟩:=I.loc;rw[z,ho'] at ho;cases ho;rw[hd'] at hd;cases hd
theorem Inv.funs (I:Inv X aN σ H s):s.heap.FunFrames X.base X.outer:=by
 have all:∀(l:List Env),(∀b∈frs l,b∈X.fs)→X.s₀.heap.FunFrames X.base l→s.heap.FunFrames X.base l:=by
  intro l
  induction l with
  | nil=>intro _ _;trivial
  | cons env r ih =>
   intro hs hl;obtain⟨hk,⟨L,o,hf,hn,ho,hd⟩,hr⟩:=hl;have hL:L∈X.fs:=hs L (by unfold frs;rw[ij,hf];exact bh);obtain⟨sl,e⟩:=I.base.slot L o ho (I.ok.frf L hL) hL λz=>I.ok.exfs L z hL
   exact⟨hk,⟨L,_,hf,hn,e,hd⟩,ih (λb hb=>hs b (by unfold frs;rw[ij,hf];exact aE _ hb)) hr⟩
 exact all X.outer (λ_ hb=>hb) I.ok.funs
theorem Inv.stack (I:Inv X aN σ H s):s.heap.FunFrames X.base X.stack:=by
 rcases I.ok.stk with e | ⟨e,hf⟩
 ·rw[e];exact I.funs
 ·rw[e]
  obtain⟨m,hn,_⟩:=I.loc;apply .cons (by rw[I.ok.kind];decide) hf hn ?_ I.funs;exact bM.get?_none_of_le (cO I.ok.bsz I.ok.above)
theorem Inv.stkSub (I:Inv X aN σ H s):∀b∈frs X.stack,b∈X.env.locals::X.fs:=λb hb=>by
 rcases I.ok.stk with e | ⟨e,hf⟩
 ·rw[e] at hb;exact aE _ hb
 ·rw[e] at hb
  unfold frs at hb;rw[ij,hf] at hb;exact hb
theorem Inv.stkFree (I:Inv X aN σ H s):∀b∈frs X.stack,H b=none:=λb hb=>by
 rcases ay.mp (I.stkSub b hb) with e | hb
 ·rw[e];exact I.free
 ·obtain⟨_,o,ho,_⟩:=I.ok.funs.mem hb
  exact I.base.free b o ho (I.ok.frf b hb) λz=>I.ok.exfs b z hb
theorem Inv.step (I:Inv X aN σ H s)
  (hch:∀b∈ch,(b∈X.ex∨X.s₀.heap.objs.size≤b)∧b≠X.env.locals∧(∀x c,X.env.cells.lookup x=some c→c≠b)∧∀p∈X.pn++aN,p.1≠b)
  (keep:∀b o,b≠X.env.locals→b ∉ X.fs→b ∉ ch→s.heap.get? b=some o→H b=none→h'.get? b=some o)
  (slot:∀b o,b≠X.env.locals→b∈X.fs→b ∉ ch→s.heap.get? b=some o→H b=none→∃sl,h'.get? b=some { o with slots:=sl }) (free:∀b o,b ∉ ch→s.heap.get? b=some o→H b=none→H' b=none)
  (there:∀b o,b ∉ ch→s.heap.get? b=some o→∃o',h'.get? b=some o')
  (tups:∀b xs,H b=some (.tup xs)→H' b=some (.tup xs)) (frzs:∀b o u,H b=some (.frz o u)→H' b=some (.frz o u)) (tbls:∀b ps,H b=some (.tbl ps)→∃more,H' b=some (.tbl (ps++more)))
  (ns:∀m,s.heap.Ns X.env.locals m→h'.Ns X.env.locals m) (hok:HOk X.prog X.w H' h') (hg:AllBare g') :
  Inv X aN σ H' { s with heap:=h',gens:=g',drawn:=d',toks:=t' }:=by
 have neL:∀b o,X.s₀.heap.get? b=some o→b≠X.env.locals:=λb o e=>cG (ck (aW e) I.ok.above)
 have neC:∀b o,X.s₀.heap.get? b=some o→b ∉ X.ex→b ∉ ch:=λb o e hx hb=>by
  rcases(hch b hb).1 with z | z
  ·exact hx z
  ·exact rQ (ck (aW e) z) (iF _)
 have cellK:∀x c,X.env.cells.lookup x=some c→∀v,s.heap.IsCell c v→h'.IsCell c v:=λx c e v ⟨o,ho,hd⟩=>by
  have nch:c ∉ ch:=λz=>(hch c z).2.2.1 x c e rfl
  by_cases hc:c∈X.fs
  ·obtain⟨sl,q⟩:=slot c o (I.cne x c e) hc nch ho (I.freeC x c e)
   exact⟨_,q,hd⟩
  ·exact⟨o,keep c o (I.cne x c e) hc nch ho (I.freeC x c e),hd⟩
 apply⟨I.ok,I.os,hg,⟨λb o e n hb hx=>?_,λb o e n hb hx=>?_,λb o e n hx=>?_,λb o e hx=>?_,λb xs e=>tups b xs (I.base.tups b xs e),λb o xs e=>frzs b o xs (I.base.frzs b o xs e),λb ps e=>?_⟩,?_,λx c e=>?_,?_,λx c e=>?_,λp hp=>?_,hok,I.len⟩
 ·exact keep b o (neL b o e) hb (neC b o e hx) (I.base.keep b o e n hb hx) (I.base.free b o e n hx)
 ·obtain⟨sl,e1⟩:=I.base.slot b o e n hb hx
  obtain⟨sl',e2⟩:=slot b _ (neL b o e) hb (neC b o e hx) e1 (I.base.free b o e n hx);exact⟨sl',e2⟩
 ·obtain⟨o',e1⟩:=I.base.there b o e hx
  exact free b o' (neC b o e hx) e1 (I.base.free b o e n hx)
 ·obtain⟨o',e1⟩:=I.base.there b o e hx
  exact there b o' (neC b o e hx) e1
 ·obtain⟨m1,e1⟩:=I.base.tbls b ps e
  obtain⟨m2,e2⟩:=tbls b _ e1;exact⟨m1++m2,by rw[e2,Array.append_assoc]⟩
 ·obtain⟨m,hn,hl⟩:=I.loc
  apply⟨m,ns m hn,λi x v e1 e2 e3=>?_⟩;obtain⟨u,r,l⟩:=hl i x v e1 e2 e3;apply⟨u,r,?_⟩
  rcases l with l | ⟨k,c,e,z⟩
  ·exact .inl l
  ·exact .inr ⟨k,c,e,cellK x c e _ z⟩
 ·obtain⟨v,z⟩:=I.cell x c e
  exact⟨v,cellK x c e v z⟩
 ·obtain⟨m,⟨o,_,_,ho,_⟩,_⟩:=I.loc
  exact free _ o (λz=>(hch _ z).2.1 rfl) ho I.free
 ·obtain⟨v,o,ho,hd⟩:=I.cell x c e
  exact free c o (λz=>(hch c z).2.2.1 x c e rfl) ho (I.freeC x c e)
 ·obtain⟨e,n,ne,nf,d⟩:=I.pin p hp
  have nch:p.1 ∉ ch:=λz=>(hch p.1 z).2.2.2 p hp rfl
  exact⟨keep p.1 p.2 ne nf nch e n,free p.1 p.2 nch e n,ne,nf,d⟩
theorem Inv.un (I:Inv X aN σ H s)(u:Un X.fs [] H H' s.heap h')(hok:HOk X.prog X.w H' h'):Inv X aN σ H' { s with heap:=h',toks:=t' }:=by
 obtain ⟨m,⟨o,es,ep,ho,r⟩,_⟩:=id I.loc;obtain ⟨sl,hL⟩:=u.any ho I.free ∅;exact I.step (g':=s.gens) (d':=s.drawn) (ch:=[]) (fun _ z=>nomatch z) (fun b o _ hb _ e n=>u.keep b o e n hb ∅) (fun b o _ hb _ e n=>u.slot b o e n hb ∅) (fun b o _ e n=>u.free b o e n ∅) (fun b o _ e=>u.there b o e ∅) u.tups u.frzs u.tbls (fun m' hm=>by
  obtain ⟨o',es',ep',ho',r'⟩:=hm;rw [ho] at ho';cases ho';exact ⟨_,es',ep',hL,r'⟩) hok I.bare
theorem Inv.call (I:Inv X aN σ H s)(u:Un (frs X.stack) ch H H' s.heap h')(hok:HOk X.prog X.w H' h')(hg:AllBare g')
  (hch:∀b∈ch,(b∈X.ex∨X.s₀.heap.objs.size≤b)∧b≠X.env.locals∧(∀x c,X.env.cells.lookup x=some c→c≠b)∧∀p∈X.pn++aN,p.1≠b) :
  Inv X aN σ H' { s with heap:=h',gens:=g',drawn:=d',toks:=t' }:=by
 obtain⟨m,⟨o,es,ep,ho,r⟩,_⟩:=id I.loc;obtain⟨sl,hL⟩:=u.any ho I.free λz=>(hch _ z).2.1 rfl
 exact I.step (ch:=ch) hch (fun b o hL hb hc e n=>u.keep b o e n (fun z=>(ay.mp (I.stkSub b z)).elim hL hb) hc) (fun b o _ _ hc e n=>u.any e n hc) (fun b o hc e n=>u.free b o e n hc) (fun b o hc e=>u.there b o e hc) u.tups u.frzs u.tbls (fun m' hm=>by
  obtain ⟨o',es',ep',ho',r'⟩:=hm;rw [ho] at ho';cases ho';exact ⟨_,es',ep',hL,r'⟩) hok hg
theorem Inv.turned (I:Inv X aN σ H s)(k:∀b o,b≠it→s.heap.get? b=some o→h'.get? b=some o)(hn:H it=none)(hL:it≠X.env.locals)
  (h1:it∈X.ex∨X.s₀.heap.objs.size≤it) (h2:∀x c,X.env.cells.lookup x=some c→c≠it) (h3:∀p∈X.pn++aN,p.1≠it):Inv X aN σ H { s with heap:=h',toks:=t' }:=by
 have nit:∀b u,H b=some u→b≠it:=λb u e z=>by rw[z,hn] at e;cases e
 apply I.step (g':=s.gens) (d':=s.drawn) (ch:=[it]) (λb hb=>?_) (λb o _ _ hc e _=>k b o (λz=>hc (by simp[z])) e) (λb o _ _ hc e _=>⟨o.slots,k b o (λz=>hc (by simp[z])) e⟩) (λ_ _ _ _ n=>n)
  (λb o hc e=>⟨o,k b o (λz=>hc (by simp[z])) e⟩) (λ_ _ e=>e) (λ_ _ _ e=>e) (λb ps e=>⟨#[],by rw[e];simp⟩) (λm hm=>?_) (λb u e=>?_) I.bare
 ·have e:b=it:=by simpa using hb
  subst e;exact⟨h1,hL,h2,h3⟩
 ·obtain⟨o,es,ep,ho,r⟩:=hm
  exact⟨o,es,ep,k _ o (cQ hL) ho,r⟩
 ·apply(I.hok b u e).stay (λc v hc q=>k c v ?_ q) (λ_ q=>q) λ_ _ q=>q
  rcases hc with z | z
  ·rw[z];exact nit b u e
  ·exact nit c _ z
theorem Inv.tok (I:Inv X aN σ H s)(t:Nat):Inv X aN σ H { s with toks:=t }:=I.un (h':=s.heap) (t':=t) Un.refl I.hok
theorem Inv.kept (I:Inv X aN σ H s)(k:∀b u,s.heap.get? b=some u→h'.get? b=some u):Inv X aN σ H { s with heap:=h',toks:=t' }:=I.un (Un.kept k) (I.hok.kept k)
theorem Inv.laid {o:HO}(I:Inv X aN σ H s)(k:∀b u,s.heap.get? b=some u→h'.get? b=some u)(hp:s.heap.objs.size≤a)(new:iZ X.prog X.w (upd H a o) h' a o) :
  Inv X aN σ (upd H a o) { s with heap:=h',toks:=t' }:=I.un (Un.laid k hp (I.hok.fresh hp)) (I.hok.laid k hp new)
theorem Inv.write {x e:aq}{o:HO}(I:Inv X aN σ H s)(mu:Mut (H x))(he:e=x∨H e=some (.own x))(k:∀b u,b≠e→s.heap.get? b=some u→h'.get? b=some u)(heo:∃u,h'.get? e=some u)
  (new:iZ X.prog X.w (upd H x o) h' x o):Inv X aN σ (upd H x o) { s with heap:=h',toks:=t' }:=I.un (Un.write mu he k heo) (I.hok.write mu he k heo new)
theorem Inv.pins_of (I:Inv X aN σ H s)(h:∀p∈pins',s.heap.get? p.1=some p.2∧H p.1=none∧p.1≠X.env.locals∧p.1 ∉ X.fs∧∀v,p.2.data≠ .cell v):Inv X pins' σ H s :=
 ⟨I.ok,I.os,I.bare,I.base,I.loc,I.cell,I.free,I.freeC,λp hp=>(aS.mp hp).elim (λz=>I.pin p (cB _ z)) (h p),I.hok,I.len⟩
theorem nodup_ix (hN:N.Nodup)(a:N[i]? =some x)(b:N[j]? =some x):i=j:=by
 obtain⟨h1,e1⟩:=ai.mp a;obtain⟨h2,e2⟩:=ai.mp b;exact(List.getElem_inj hN).mp (e1.trans e2.symm)
theorem store_ok2 {v:V}{Q:Unit→ar→Prop}(I:Inv X aN σ H s)(hN:X.N.Nodup)(hi:X.N[i]? =some x)(hx:Loc X.env.scope x)(r:jr v u)
  (h:∀s',Inv X aN (σ.set i (some v)) H s'→(∃a,de a s.heap s'.heap∧(a=X.env.locals∨X.env.cells.lookup x=some a))→Q () s') (hf:autoParam (X.fn x=true∨X.env.scope.names.lookup x=some .local) L2.au3._auto_1):aY M A (storeName X.env x u) Q E s:=by
 obtain⟨m,hn,hl⟩:=id I.loc;have hcls:(X.env.scope.kind == .class || (X.env.scope.kind == .module && X.env.locals != X.env.globals))=false:=by rw[I.ok.kind];rfl
 have hiσ:i<σ.length:=by rw[I.len];exact(ai.mp hi).1
 have cne:=I.cne;have tracked:∀{a:aq} {h':bM},(∃o,s.heap.get? a=some o∧H a=none)→de a s.heap h'→HOk X.prog X.w H h':=λ{a h'} ha hs b ob e=>by
  obtain⟨_,_,hfree⟩:=ha;apply(I.hok b ob e).stay (λc w' hc q=>(hs.2 c ?_).trans q) (λ_ q=>q) λ_ _ q=>q
  rintro rfl
  rcases hc with rfl | hc
  ·rw[hfree] at e;cases e
  ·rw[hfree] at hc;cases hc
 rcases hx with hk | hk
 ·apply wpAny_storeName_local hk hn (λh' hn' hs=>?_) hcls
  obtain⟨oL,_,_,hoL,_⟩:=id hn;apply h _ ⟨I.ok,I.os,I.bare,⟨λb o e n hb hx=>?_,λb o e n hb hx=>?_,I.base.free,λb o e hx=>?_,I.base.tups,I.base.frzs,I.base.tbls⟩,⟨_,hn',λj y v' e1 e2 e3=>?_⟩,λy c e=>?_,I.free,I.freeC,λp hp=>?_,tracked ⟨oL,hoL,I.free⟩ hs,by simpa using I.len⟩ ⟨_,hs,.inl rfl⟩
  ·exact(hs.2 b (cG (ck (aW e) I.ok.above))).trans (I.base.keep b o e n hb hx)
  ·obtain⟨sl,e1⟩:=I.base.slot b o e n hb hx
   exact⟨sl,(hs.2 b (cG (ck (aW e) I.ok.above))).trans e1⟩
  ·obtain⟨o',e1⟩:=I.base.there b o e hx
   exact⟨o',(hs.2 b (cG (ck (aW e) I.ok.above))).trans e1⟩
  ·by_cases hj:j=i
   ·subst hj
    rw[hi] at e1;cases e1;rw[kS hiσ] at e2;cases e2;exact⟨u,r,.inl ⟨hk,∅⟩⟩
   ·rw[List.getElem?_set_ne (cQ hj)] at e2
    obtain⟨u',r',q⟩:=hl j y v' e1 e2 e3;apply⟨u',r',?_⟩
    rcases q with ⟨k,e⟩ | ⟨k,c,e,z⟩
    ·apply .inl ⟨k,?_⟩
     have:y≠x:=λe=>hj (nodup_ix hN e1 (e ▸ hi))
     simp[this,e]
    ·exact .inr ⟨k,c,e,z.sameBut hs (cne y c e)⟩
  ·obtain⟨w',z⟩:=I.cell y c e
   exact⟨w',z.sameBut hs (cne y c e)⟩
  ·obtain⟨e,n,ne,nf,d⟩:=I.pin p hp
   exact⟨(hs.2 p.1 ne).trans e,n,ne,nf,d⟩
 ·have hfn:X.fn x=true:=by
   rcases hf with z | z
   ·exact z
   ·rw[z] at hk;cases hk
  obtain⟨c,hc⟩:=I.ok.has x (.inl hk);obtain⟨w',z⟩:=I.cell x c hc;apply wpAny_storeName_cell I.ok.kind hk hc z (λh' hc' hs=>?_);obtain⟨oc,hoc,hocd⟩:=id z;apply h { s with heap:=h' } ⟨I.ok,I.os,I.bare,⟨λb o e n hb hx=>?_,λb o e n hb hx=>?_,I.base.free,λb o e hx=>?_,I.base.tups,I.base.frzs,I.base.tbls⟩,⟨m,hn.sameBut hs (cQ (cne x c hc)),λj y v' e1 e2 e3=>?_⟩,λy c' e=>?_,I.free,I.freeC,λp hp=>?_,tracked ⟨oc,hoc,I.freeC x c hc⟩ hs,by simpa using I.len⟩ ⟨c,hs,.inr hc⟩
  ·exact(hs.2 b (cG (ck (aW e) (I.ok.cab x c hfn hc)))).trans (I.base.keep b o e n hb hx)
  ·obtain⟨sl,e1⟩:=I.base.slot b o e n hb hx
   exact⟨sl,(hs.2 b (cG (ck (aW e) (I.ok.cab x c hfn hc)))).trans e1⟩
  ·obtain⟨o',e1⟩:=I.base.there b o e hx
   exact⟨o',(hs.2 b (cG (ck (aW e) (I.ok.cab x c hfn hc)))).trans e1⟩
  ·by_cases hj:j=i
   ·subst hj
    rw[hi] at e1;cases e1;rw[kS hiσ] at e2;cases e2;exact⟨u,r,.inr ⟨.inl hk,c,hc,hc'⟩⟩
   ·rw[List.getElem?_set_ne (cQ hj)] at e2
    obtain⟨u',r',q⟩:=hl j y v' e1 e2 e3;apply⟨u',r',?_⟩
    rcases q with q | ⟨k,c',e,z'⟩
    ·exact .inl q
    ·apply .inr ⟨k,c',e,z'.sameBut hs ?_⟩
     rintro rfl;exact hj (nodup_ix hN e1 (I.ok.inj _ _ _ e hc ▸ hi))
  ·by_cases hcc:c'=c
   ·subst hcc;exact⟨_,hc'⟩
   ·obtain⟨w2,z2⟩:=I.cell y c' e
    exact⟨w2,z2.sameBut hs hcc⟩
  ·obtain⟨e,n,ne,nf,d⟩:=I.pin p hp
   apply⟨(hs.2 p.1 ?_).trans e,n,ne,nf,d⟩;intro q;rw[q,hoc] at e;have q':oc=p.2:=bU e;exact d w' (by rw[←q'];exact hocd)
theorem store_ok {v:V}{Q:Unit→ar→Prop}(I:Inv X aN σ H s)(hN:X.N.Nodup)(hi:X.N[i]? =some x)(hx:Loc X.env.scope x)(r:jr v u)
  (h:∀s',Inv X aN (σ.set i (some v)) H s'→Q () s') (hf:autoParam (X.fn x=true∨X.env.scope.names.lookup x=some .local) L2.au3._auto_1):aY M A (storeName X.env x u) Q E s :=
 store_ok2 I hN hi hx r (λs' I' _=>h s' I') hf
theorem Inv.call' (I:Inv X aN σ H s)(ho:s'.os=s.os)(u:Un (frs X.stack) ch H H' s.heap s'.heap)(hok:HOk X.prog X.w H' s'.heap)(hg:AllBare s'.gens)
  (hch:∀b∈ch,(b∈X.ex∨X.s₀.heap.objs.size≤b)∧b≠X.env.locals∧(∀x c,X.env.cells.lookup x=some c→c≠b)∧∀p∈X.pn++aN,p.1≠b):Inv X aN σ H' s':=by
 obtain⟨h',g',d',t',o'⟩:=s';have e:o'=s.os:=ho;subst e;exact I.call (g':=g') (t':=t') (d':=d') u hok hg hch
end
abbrev XK:=af→Option aq→Hp→Prop
abbrev St:=List (Option V)
abbrev VK:=V→Hp→Prop
abbrev TE:=St→Hp→VK→Prop
abbrev TT:=St→Hp→(Bool→Hp→Prop)→Prop
abbrev TA:=St→Hp→(List V→Hp→Prop)→Prop
end L2
variable {H H' H0 H1 H2:L2.Hp}{X:L2.Cx}{dvs xs ys:List L2.V}{kvs:List (L2.Key×L2.V)}{o:L2.HO}{r':L2.V→Option Int→Option Int→L2.Hp→L2.VK→Prop}{t:L2.TA}{ta td te to ty:L2.TE}{tt:L2.TT}{v y:L2.V}{σ:L2.St}
namespace L2
open PySem PySem.Spec PyProof.Rows
structure rM where
 nx:St→Hp→Prop
 rt:VK
 bk:St→Hp→Prop:=λ_ _=>False
 ct:St→Hp→Prop:=λ_ _=>False
abbrev TS:=rM→St→Hp→Prop
def EP (X:Cx)(aN:List (aq×Obj))(σ:St)(Q:VK)(u:af)(s':ar):Prop:=∃v H',Inv X aN σ H' s'∧jr v u∧Q v H'
def TP (X:Cx)(aN:List (aq×Obj))(σ:St)(Q:Bool→Hp→Prop)(b:Bool)(s':ar):Prop:=∃H',Inv X aN σ H' s'∧Q b H'
def AP (X:Cx)(aN:List (aq×Obj))(σ:St)(Q:List V→Hp→Prop)(us:List af)(s':ar):Prop:=∃vs H',Inv X aN σ H' s'∧ie vs us∧Q vs H'
def SP (X:Cx)(aN:List (aq×Obj))(D:rM)(f:Flow)(s':ar):Prop :=
 match f with
 | .next=>∃σ' H',Inv X aN σ' H' s'∧D.nx σ' H'
 | .brk=>∃σ' H',Inv X aN σ' H' s'∧D.bk σ' H'
 | .cont=>∃σ' H',Inv X aN σ' H' s'∧D.ct σ' H'
 | .ret u=>∃v σ' H',Inv X aN σ' H' s'∧jr v u∧D.rt v H'
def PE (X:Cx)(e:Expr)(t:TE):Prop :=
 ∀(aN:List (aq×Obj)) (s:ar) (σ:St) (H:Hp) (Q:VK),Inv X aN σ H s→t σ H Q→aY (bF X.prog X.w) X.A (dY e X.env) (EP X aN σ Q) X.xe s
def PT (X:Cx)(e:Expr)(t:TT):Prop :=
 ∀(aN:List (aq×Obj)) (s:ar) (σ:St) (H:Hp) (Q:Bool→Hp→Prop),Inv X aN σ H s→t σ H Q→aY (bF X.prog X.w) X.A (isTrue e X.env (dY e X.env)) (TP X aN σ Q) X.xe s
def PW (X:Cx)(e:Expr)(t:TT):Prop :=
 ∀(whole:Sem af) (aN:List (aq×Obj)) (s:ar) (σ:St) (H:Hp) (Q:Bool→Hp→Prop),Inv X aN σ H s→t σ H Q→aY (bF X.prog X.w) X.A (isTrue e X.env whole) (TP X aN σ Q) X.xe s
theorem PW.pt {t:TT}(h:PW X e t):PT X e t:=h _
def PA (X:Cx)(es:List Expr)(t:TA):Prop :=
 ∀(pos:Pos) (aN:List (aq×Obj)) (s:ar) (σ:St) (H:Hp) (Q:List V→Hp→Prop),Inv X aN σ H s→t σ H Q→aY (bF X.prog X.w) X.A (spliced (gI pos (br es X.env))) (AP X aN σ Q) X.xe s
def PS (X:Cx)(st:c8)(t:TS):Prop :=
 ∀(aN:List (aq×Obj)) (s:ar) (σ:St) (H:Hp) (D:rM),Inv X aN σ H s→t D σ H→aY (bF X.prog X.w) X.A (exec st X.env) (SP X aN D) X.xe s
def PSs (X:Cx)(st:List c8)(t:TS):Prop :=
 ∀(aN:List (aq×Obj)) (s:ar) (σ:St) (H:Hp) (D:rM),Inv X aN σ H s→t D σ H→aY (bF X.prog X.w) X.A (execs st X.env) (SP X aN D) X.xe s
theorem thn {t:Sem α}{Q Q':α→ar→Prop}(h:aY M A t Q E s)(hQ:∀a s,Q a s→Q' a s):aY M A t Q' E s:=dG h hQ λ_ _ x=>x
section
inductive HasV (o:Option (Option V))(k:V→Prop):Prop
 | mk (v:V)(h:o=some (some v))(q:k v):HasV o k
inductive IsBl (x:V)(k:Bool→Prop):Prop
 | mk (c:Bool)(h:x= .bl c)(q:k c):IsBl x k
def tVar (i:Nat):TE:=λσ H Q=>HasV σ[i]? λv=>Q v H
def tC (v:V):TE:=λ_ H Q=>Q v H
theorem pe_var (hN:X.N[i]? =some x)(hv:Vis X.env.scope x)(hd:autoParam ((x == ("__debug__" :Str))=false) L2.au1._auto_1)(hcd:autoParam ((x == ("__classdict__" :Str))=false) L2.au1._auto_1):PE X (.Name x pos) (tVar i):=by
 intro aN s σ H Q I h;obtain⟨v,e,h⟩:=h;obtain⟨m,hn,hl⟩:=I.loc;obtain⟨u,r,l⟩:=hl i x v hN e hv;have fin:EP X aN σ Q u s:=⟨v,H,I,r,h⟩
 rcases l with ⟨hk,hm⟩ | ⟨hk,c,hc,ow⟩
 ·exact wpAny_Name (wpAny_loadName_local I.ok.kind hk hn hm fin) hd
 ·rcases hk with hk | hk
  ·exact wpAny_Name (wpAny_loadName_cell I.ok.kind hk hc ow fin) hd
  ·exact wpAny_Name (wpAny_loadName_free I.ok.kind hk hc ow fin hcd) hd
theorem aO {i j pos}:PE X (.Constant (.int i) j pos) (tC (.int i)):=λ_ _ _ H _ I h=>wpAny_Constant_int ⟨.int i,H,I.tok _,⟨_,rfl⟩,h⟩
theorem pe_bl {b j pos}:PE X (.Constant (.bool b) j pos) (tC (.bl b)):=λ_ _ _ H _ I h=>Constant_bool ⟨.bl b,H,I,rfl,h⟩
theorem iJ {j pos}:PE X (.Constant .none j pos) (tC .non):=λ_ _ _ H _ I h=>Constant_none ⟨.non,H,I,rfl,h⟩
theorem eS {x j pos}:PE X (.Constant (.str x) j pos) (tC (.str x)):=λ_ _ _ H _ I h=>Calls.Constant_str ⟨.str x,H,I.tok _,⟨_,rfl⟩,h⟩
def Gl (X:Cx)(x:Str):Prop:=X.env.kindOf x=some .globalImplicit
theorem nh (I:Inv X aN σ H s)(hg:Gl X x)(hm:X.mg x=some u)(h:Q u s)
  (hd:autoParam ((x == ("__debug__" :Str))=false) L2.au1._auto_1):aY (bF X.prog X.w) X.A (dY (.Name x pos) X.env) Q E s :=
 Calls.Name_function_global I.ok.kind hg (Calls.loadGlobal_global (by rw[I.ok.glob];exact I.mod.glob.keeps I.bk) hm h) hd
theorem oS (I:Inv X aN σ H s)(hg:Gl X x)(hm:X.mg x=none)(hv:bootBuiltins x=some u)(h:Q u s)
  (hn:autoParam (x ≠ "__name__") L2.au1._auto_1) (hd:autoParam ((x == ("__debug__" :Str))=false) L2.au1._auto_1):aY (bF X.prog X.w) X.A (dY (.Name x pos) X.env) Q E s:=by
 obtain⟨mb,h1,h2⟩:=I.mod.blt;exact Calls.Name_function_global I.ok.kind hg (Calls.loadGlobal_builtin (by rw[I.ok.glob];exact I.mod.glob.keeps I.bk) hm (by rw[I.ok.blt];exact h1.keeps I.bk) ((h2 x hn).trans hv) h) hd
theorem pA (hg:Gl X x)(hm:X.mg x=some u)(r:jr v u)(hd:autoParam ((x == ("__debug__" :Str))=false) L2.au1._auto_1):PE X (.Name x pos) (tC v) :=
 λ_ _ _ H _ I h=>nh I hg hm ⟨v,H,I,r,h⟩ hd
theorem pe_bltn (hg:Gl X x)(hm:X.mg x=none)(hv:bootBuiltins x=some u)(r:jr v u)(hn:autoParam (x ≠ "__name__") L2.au1._auto_1)(hd:autoParam ((x == ("__debug__" :Str))=false) L2.au1._auto_1):PE X (.Name x pos) (tC v) :=
 λ_ _ _ H _ I h=>oS I hg hm hv ⟨v,H,I,r,h⟩ hn hd
variable {a b:Expr}{tb:TE}
def PC (X:Cx)(op:CmpOp)(a b:Expr)(t:TE):Prop :=
 ∀(aN:List (aq×Obj)) (s:ar) (σ:St) (H:Hp) (Q:VK),Inv X aN σ H s→t σ H Q →
  aY (bF X.prog X.w) X.A (dY a X.env) (λv s₁=>aY (bF X.prog X.w) X.A (dY b X.env) (λu s₂=>aY (bF X.prog X.w) X.A (fJ op v u) (EP X aN σ Q) X.xe s₂) X.xe s₁) X.xe s
def tB (t:TE):TT:=λσ H Q=>t σ H λx H1=>IsBl x λc=>Q c H1
theorem pt_cmp {t:TE}(h:PC X op a b t)(h1:behindInMarks op b=false:=by first | exact nobehind _ ↥0 ↥0 | rfl):PT X (.Compare a [op] [b] pos) (tB t):=by
 intro aN s σ H Q I hw;apply wpAny_isTrue_Compare1 (thn (h aN s σ H _ I hw) λv s1 h1=>thn h1 λu s2 h2=>thn h2 λc s3 hz0=>?_) h1;obtain⟨x,H1,I1,r1,q1⟩:=hz0;obtain⟨d,rfl,q⟩:=q1;cases r1;exact ja ⟨H1,I1,q⟩
theorem mY {t:TE}(h:PE X e t)(he:autoParam (∀whole,isTrue e X.env whole=(do let v ← whole;standAt e.pos;holding [v] (truthy v))) L2.au2._auto_1):PT X e (tB t):=by
 intro aN s σ H Q I hw;apply isTrue_plain (thn (h aN s σ H _ I hw) λv s1 hz0=>?_) (he _);obtain⟨x,H1,I1,r1,q1⟩:=hz0;obtain⟨d,rfl,q⟩:=q1;cases r1;exact ja ⟨H1,I1,q⟩
variable {tA tB':TT} {rest:List Expr}
def tAnd (t u:TT):TT:=λσ H Q=>t σ H λc H1=>if c=true then u σ H1 Q else Q false H1
def tOr (t u:TT):TT:=λσ H Q=>t σ H λc H1=>if c=true then Q true H1 else u σ H1 Q
def tNot (t:TT):TT:=λσ H Q=>t σ H λc H1=>Q (!c) H1
theorem mG (ha:PT X a tA):PW X (.BoolOp .And [a] pos) tA:=by
 intro wh aN s σ H Q I h;apply isTrue_and (thn (ha aN s σ H Q I h) λc s1 e=>?_);cases c with
 | true=>exact isTrue_and_nil e
 | false=>exact e
theorem lK (ha:PT X a tA):PW X (.BoolOp .Or [a] pos) tA:=by
 intro wh aN s σ H Q I h;apply isTrue_or (thn (ha aN s σ H Q I h) λc s1 e=>?_);cases c with
 | false=>exact isTrue_or_nil e
 | true=>exact e
theorem oJ (ha:PT X a tA)(hb:PW X (.BoolOp .And (b::rest) pos) tB'):PW X (.BoolOp .And (a::b::rest) pos) (tAnd tA tB'):=by
 intro wh aN s σ H Q I h;apply isTrue_and (thn (ha aN s σ H _ I h) λc s1 hz0=>?_);obtain⟨H1,I1,q1⟩:=hz0;cases c with
 | true=>exact hb wh aN s1 σ H1 Q I1 q1
 | false=>exact⟨H1,I1,q1⟩
theorem mS (ha:PT X a tA)(hb:PW X (.BoolOp .Or (b::rest) pos) tB'):PW X (.BoolOp .Or (a::b::rest) pos) (tOr tA tB'):=by
 intro wh aN s σ H Q I h;apply isTrue_or (thn (ha aN s σ H _ I h) λc s1 hz0=>?_);obtain⟨H1,I1,q1⟩:=hz0;cases c with
 | true=>exact⟨H1,I1,q1⟩
 | false=>exact hb wh aN s1 σ H1 Q I1 q1
theorem oK (ha:PT X a tA):PT X (.UnaryOp .Not a pos) (tNot tA):=by
 intro aN s σ H Q I h;exact isTrue_not (ha aN s σ H (λc H1=>Q (!c) H1) I h)
def tAndV (ta tb:TE):TE:=λσ H Q=>ta σ H λx H1=>IsBl x λc=>if c=true then tb σ H1 Q else Q (.bl false) H1
def tNotV (ta:TE):TE:=λσ H Q=>ta σ H λx H1=>IsBl x λc=>Q (.bl (!c)) H1
theorem pQ {op}{t:TE}(h:PE X a t):PE X (.BoolOp op [a] pos) t:=λaN s σ H Q I hw=>BoolOp_one (h aN s σ H Q I hw)
theorem oN (ha:PE X a ta)(hb:PE X (.BoolOp .And (b::rest) pos) tb):PE X (.BoolOp .And (a::b::rest) pos) (tAndV ta tb):=by
 intro aN s σ H Q I h;apply BoolOp_and (thn (ha aN s σ H _ I h) λv s1 hz0=>?_);obtain⟨x,H1,I1,r1,q1⟩:=hz0;obtain⟨c,rfl,q1⟩:=q1;cases r1;apply ja ?_;cases c with
 | true=>exact hb aN s1 σ H1 Q I1 q1
 | false=>exact⟨.bl false,H1,I1,rfl,q1⟩
theorem pe_not (ha:PE X a ta):PE X (.UnaryOp .Not a pos) (tNotV ta):=by
 intro aN s σ H Q I h;apply UnaryOp_ (thn (ha aN s σ H _ I h) λv s1 hz0=>?_);obtain⟨x,H1,I1,r1,q1⟩:=hz0;obtain⟨c,rfl,q1⟩:=q1;cases r1;exact not_of (ja ⟨.bl (!c),H1,I1,rfl,q1⟩)
def tIf (t:TT)(ta tb:TE):TE:=λσ H Q=>t σ H λc H1=>if c=true then ta σ H1 Q else tb σ H1 Q
theorem pe_ifExp {c:Expr}(hc:PT X c tA)(ha:PE X a ta)(hb:PE X b tb):PE X (.IfExp c a b pos) (tIf tA ta tb):=by
 intro aN s σ H Q I h;apply wpAny_IfExp (thn (hc aN s σ H _ I h) λd s1 hz0=>?_);obtain⟨H1,I1,q1⟩:=hz0;cases d with
 | true=>exact ha aN s1 σ H1 Q I1 q1
 | false=>exact hb aN s1 σ H1 Q I1 q1
end
def SqL (K:ak)(H:Hp)(a:aq)(xs:List V):Prop :=
 Rd H a (.lst xs) ∨
  ∃(o:Obj) (its:Array af) (n:Nat),K.lookup a=some o∧o.cls= .type "list" ∧o.dict=none∧o.data= .seq its n∧its.size≤az∧ie xs its.toList
def SqT (K:ak)(H:Hp)(a:aq)(xs:List V):Prop :=
 Rd H a (.tup xs) ∨
  ∃(o:Obj) (its:Array af) (n:Nat),K.lookup a=some o∧o.cls= .type "tuple" ∧o.data= .seq its n∧its.size≤az∧ie xs its.toList
def absV:af→Option V
 | .none=>some .non
 | .bool b=>some (.bl b)
 | .int i _=>some (.int i)
 | .str x _=>some (.str x)
 | .bytes b _=>some (.byt b)
 | .float b _=>some (.flt b)
 | .ref a=>some (.ref a)
 | .type n=>some (.ty n)
 | _=>none
theorem jr.abs {x:V}(r:jr x u):absV u=some x:=by
 cases x with
 | non=>cases r;rfl
 | bl _=>cases r;rfl
 | int _=>obtain⟨t,rfl⟩:=r;rfl
 | str _=>obtain⟨t,rfl⟩:=r;rfl
 | byt _=>obtain⟨t,rfl⟩:=r;rfl
 | flt _=>obtain⟨t,rfl⟩:=r;rfl
 | ref _=>cases r;rfl
 | ty _=>cases r;rfl
theorem jr.inj {x:V}(r:jr x u)(q:jr y u):x=y:=bU (r.abs.symm.trans q.abs)
theorem ie.inj:∀{xs ys:List V} {us:List af},ie xs us→ie ys us→xs=ys
 | _,_,_,.nil,.nil=>rfl
 | _,_,_,.cons r t,.cons r' t'=>by rw[r.inj r',ie.inj t t']
theorem SqL.of (h:H a=some (.lst xs)):SqL K H a xs:= .inl (.inl h)
theorem SqT.of (h:H a=some (.tup xs)):SqT K H a xs:= .inl (.inl h)
theorem Inv.list (I:Inv X aN σ H s)(h:SqL X.K H a xs):∃its:List af,ie xs its∧PlainL s.heap a its.toArray∧xs.length≤az:=by
 rcases h with h | ⟨o,its,n,hk,hc,hd,hs,hz,r⟩
 ·obtain⟨z,its,n,r,e⟩:=h.ok I.hok
  exact⟨its,r,⟨_,n,e,rfl,rfl,rfl⟩,z⟩
 ·apply⟨its.toList,r,⟨o,n,I.kIn a o hk,hc,hd,by simpa using hs⟩,?_⟩
  have e:=r.length;simp only[gG] at e;lia
theorem Inv.tuple (I:Inv X aN σ H s)(h:SqT X.K H a xs):∃its:List af,ie xs its∧IsTup s.heap a its.toArray∧xs.length≤az:=by
 rcases h with h | ⟨o,its,n,hk,hc,hs,hz,r⟩
 ·obtain⟨z,its,r,p⟩:=h.ok I.hok
  exact⟨its,r,p.tup,z⟩
 ·apply⟨its.toList,r,⟨o,I.kIn a o hk,hc,n,by simpa using hs⟩,?_⟩
  have e:=r.length;simp only[gG] at e;lia
theorem Inv.list_inj (I:Inv X aN σ H s)(h:SqL X.K H a xs)(h':SqL X.K H a ys):xs=ys:=by
 obtain⟨its,r,⟨o,n,e,_,_,d⟩,_⟩:=I.list h;obtain⟨its',r',⟨o',n',e',_,_,d'⟩,_⟩:=I.list h';rw[e] at e';cases e';rw[d] at d';injection d' with d1 _
 have:its=its':=by simpa using rV Array.toList d1
 subst this;exact r.inj r'
abbrev Cx.wish (X:Cx)(E:af→ar→Prop):Cx:={ X with xe:=E }
abbrev Cx.nox (X:Cx):Cx:=X.wish λ_ _=>False
theorem Cx.Ok.wish (ok:X.Ok)(E:af→ar→Prop):(X.wish E).Ok :=
 ⟨ok.mod,ok.kind,ok.glob,ok.blt,ok.above,ok.inj,ok.has,ok.cab,ok.hd,ok.frames,ok.stk,ok.exf,ok.bs,ok.bsz,ok.noex,ok.exfs,ok.funs,ok.frf⟩
theorem Cx.Ok.unwish (ok:(X.wish E).Ok):X.Ok :=
 ⟨ok.mod,ok.kind,ok.glob,ok.blt,ok.above,ok.inj,ok.has,ok.cab,ok.hd,ok.frames,ok.stk,ok.exf,ok.bs,ok.bsz,ok.noex,ok.exfs,ok.funs,ok.frf⟩
theorem Inv.wish (I:Inv X aN σ H s)(E:af→ar→Prop):Inv (X.wish E) aN σ H s:=⟨I.ok.wish E,I.os,I.bare,I.base,I.loc,I.cell,I.free,I.freeC,I.pin,I.hok,I.len⟩
theorem Inv.unwish (I:Inv (X.wish E) aN σ H s):Inv X aN σ H s:=⟨I.ok.unwish,I.os,I.bare,I.base,I.loc,I.cell,I.free,I.freeC,I.pin,I.hok,I.len⟩
theorem SP.unwish {D:rM}{f:Flow}(h:SP (X.wish E) aN D f s'):SP X aN D f s':=by
 cases f with
 | next=>obtain⟨σ',H',I,q⟩:=h;exact⟨σ',H',I.unwish,q⟩
 | brk=>obtain⟨σ',H',I,q⟩:=h;exact⟨σ',H',I.unwish,q⟩
 | cont=>obtain⟨σ',H',I,q⟩:=h;exact⟨σ',H',I.unwish,q⟩
 | ret u=>obtain⟨v,σ',H',I,r,q⟩:=h;exact⟨v,σ',H',I.unwish,r,q⟩
theorem PSs.nox {st:List c8}{t:TS}(h:PSs X.nox st t):PSs X st t:=λaN s σ H D I hw =>
 dG (h aN s σ H D (I.wish _) hw) (λ_ _ q=>q.unwish) λ_ _ z=>eV z
section
variable {rest:List c8}{t u:TS}
def tNext:TS:=λD σ H=>D.nx σ H
def tSeq (t u:TS):TS:=λD σ H=>t { D with nx:=u D } σ H
theorem cF:PSs X [] tNext:=λ_ _ σ H _ I h=>wpAny_execs_nil ⟨σ,H,I,h⟩
theorem dw (h1:PS X st t)(h2:PSs X rest u):PSs X (st::rest) (tSeq t u):=by
 intro aN s σ H D I h;apply wpAny_execs_cons (thn (h1 aN s σ H { D with nx:=u D } I h) λf s1 q=>?_);cases f with
 | next =>
  obtain⟨σ',H',I',q⟩:=q;exact h2 aN s1 σ' H' D I' q
 | ret v=>exact q
 | brk=>exact q
 | cont=>exact q
theorem bE (h1:PS X st t):PSs X [st] t:=by
 intro aN s σ H D I h;apply wpAny_execs_cons (thn (h1 aN s σ H D I h) λf s1 q=>?_);cases f with
 | next=>exact wpAny_execs_nil q
 | ret v=>exact q
 | brk=>exact q
 | cont=>exact q
theorem Inv.quiet (I:Inv X aN σ H s):interactive X.env=false:=by simp[interactive,I.ok.kind]
def tDrop (te:TE):TS:=λD σ H=>te σ H λ_ H1=>D.nx σ H1
theorem hV (he:PE X e te)(hs:autoParam (lR e none pos.line X.env=iS false) L2.au0._auto_1):PS X (.Expr e pos) (tDrop te):=by
 intro aN s σ H D I h;exact wpAny_Expr_any (thn (he aN s σ H _ I h) λv s1 ⟨x,H1,I1,r1,q1⟩=>⟨σ,H1,I1,q1⟩) I.quiet hs
def tRet (te:TE):TS:=λD σ H=>te σ H D.rt
theorem bR (he:PE X e te):PS X (.Return (some e) pos) (tRet te):=by
 intro aN s σ H D I h;exact wpAny_Return_some (thn (he aN s σ H _ I h) λv s1 ⟨x,H1,I1,r1,q1⟩=>⟨x,σ,H1,I1,r1,q1⟩)
def tIfS (c:TT)(t u:TS):TS:=λD σ H=>c σ H λb H1=>if b=true then t D σ H1 else u D σ H1
theorem fG {c:Expr}{a b:List c8}{tc:TT}(hc:PT X c tc)(ha:PSs X a t)(hb:PSs X b u):PS X (.If c a b pos) (tIfS tc t u):=by
 intro aN s σ H D I h;apply wpAny_If (thn (hc aN s σ H _ I h) λd s1 hz0=>?_);obtain⟨H1,I1,q1⟩:=hz0;cases d with
 | true=>exact ha aN s1 σ H1 D I1 q1
 | false=>exact hb aN s1 σ H1 D I1 q1
def tNever:TS:=λ_ _ _=>False
theorem mH:PS X st tNever:=λ_ _ _ _ _ _ h=>h.elim
end
abbrev TG:=V→St→Hp→(St→Hp→Prop)→Prop
abbrev TGs:=List V→St→Hp→(St→Hp→Prop)→Prop
def PG (X:Cx)(target:Expr)(t:TG):Prop :=
 ∀(aN:List (aq×Obj)) (s:ar) (σ:St) (H:Hp) (v:V) (u:af) (Q:St→Hp→Prop),Inv X aN σ H s→jr v u→t v σ H Q →
  aY (bF X.prog X.w) X.A (assign target X.env u) (λ_ s'=>∃σ' H',Inv X aN σ' H' s'∧Q σ' H') X.xe s
def PGs (X:Cx)(ts:List Expr)(t:TGs):Prop :=
 ∀(aN:List (aq×Obj)) (s:ar) (σ:St) (H:Hp) (vs:List V) (us:List af) (Q:St→Hp→Prop),Inv X aN σ H s→ie vs us→t vs σ H Q →
  aY (bF X.prog X.w) X.A (assignInOrder ((assignEach ts X.env).map (·.2)) us) (λ_ s'=>∃σ' H',Inv X aN σ' H' s'∧Q σ' H') X.xe s
abbrev TSet:=V→V→V→Hp→(Hp→Prop)→Prop
def PSet (X:Cx)(t:TSet):Prop :=
 ∀(aN:List (aq×Obj)) (s:ar) (σ:St) (H:Hp) (o i v:V) (ov iv u:af) (Q:Hp→Prop),Inv X aN σ H s→jr o ov→jr i iv→jr v u→t o i v H Q →
  aY (bF X.prog X.w) X.A (setItem ov iv u) (λ_ s'=>∃H',Inv X aN σ H' s'∧Q H') X.xe s
def oU (i:Nat):TG:=λv σ H Q=>Q (σ.set i (some v)) H
theorem pg_name (hN:X.N.Nodup)(hi:X.N[i]? =some x)(hx:Loc X.env.scope x)(hf:autoParam (X.fn x=true∨X.env.scope.names.lookup x=some .local) L2.au3._auto_1):PG X (.Name x pos) (oU i):=by
 intro aN s σ H v u Q I r h;exact wpAny_assign_Name (store_ok I hN hi hx r (λs' I'=>⟨_,H,I',h⟩) hf)
def gNil:TGs:=λvs σ H Q=>vs=[]∧Q σ H
def gCons (t:TG)(u:TGs):TGs:=λvs σ H Q=>∃v r,vs=v::r∧t v σ H λσ' H'=>u r σ' H' Q
theorem oh:PGs X [] gNil:=by
 intro aN s σ H vs us Q I r h;obtain⟨e,h⟩:=h;subst e;cases r;exact assignInOrder_nil ⟨σ,H,I,h⟩
theorem iW {t:TG}{u:TGs}(h1:PG X e t)(h2:PGs X es u)
  (hs:autoParam ((assignEach (e::es) X.env).map (·.2)=assign e X.env::(assignEach es X.env).map (·.2)) L2.au0._auto_1):PGs X (e::es) (gCons t u):=by
 intro aN s σ H vs us Q I r h;obtain⟨v,vr,e1,h⟩:=h;subst e1;cases r with
 | cons r rr =>
  rw[hs];apply assignInOrder_cons (thn (h1 aN s σ H _ _ _ I r h) λ_ s1 hz0=>?_);obtain⟨σ1,H1,I1,q1⟩:=hz0;exact h2 aN s1 σ1 H1 _ _ Q I1 rr q1
def gTup (K:ak)(n:Nat)(t:TGs):TG:=λv σ H Q=>∃a xs,v= .ref a∧SqT K H a xs∧xs.length=n∧t xs σ H Q
theorem qA {t:TGs}(hc:X.calm=true)(h:PGs X es t)
  (hn:autoParam ((assignEach es X.env).length=n) L2.au0._auto_1) (hst:autoParam ((assignEach es X.env).findIdx? (·.1)=none) L2.au0._auto_1):PG X (.Tuple es k pos) (gTup X.K n t):=by
 intro aN s σ H v u Q I r hw;obtain⟨a,xs,e1,hq,hl,hw⟩:=hw;subst e1;cases r;obtain⟨its,rv,ht,hz⟩:=I.tuple hq;apply assign_Tuple_tuple (I.ok.hd hc) ht (by simp[hn,←hl,rv.length]) hst λh' hx=>?_
 have I1:Inv X aN σ H { s with heap:=h' }:=I.kept (t':=s.toks) λb o e=>hx b o (cG (aW e)) e
 exact h aN _ σ H xs _ Q I1 (by simpa using rv) hw
def gSub (to ti:TE)(t:TSet):TG:=λv σ H Q=>to σ H λo H1=>ti σ H1 λi H2=>t o i v H2 λH3=>Q σ H3
theorem pg_sub {o i:Expr}{ti:TE}{t:TSet}(ho:PE X o to)(hi:PE X i ti)(hs:PSet X t)
  (ha:autoParam (∀ v,assign (.Subscript o i pos) X.env v=(do
   let ov ← holding [v] (dY o X.env)
   let iv ← holding [v,ov] (dY i X.env)
   standAt pos
   holding [v,ov,iv] (setItem ov iv v)
   release [v,ov,iv] [])) L2.au2._auto_1):PG X (.Subscript o i pos) (gSub to ti t):=by
 intro aN s σ H v u Q I r h;rw[ha];apply aj (hI (thn (ho aN s σ H _ I h) λov s1 hz0=>?_));obtain⟨x,H1,I1,r1,q1⟩:=hz0;apply aj (hI (thn (hi aN s1 σ H1 _ I1 q1) λiv s2 hz0=>?_));obtain⟨y,H2,I2,r2,q2⟩:=hz0;apply aj (wpAny_standAt (aj (hI (thn (hs aN s2 σ H2 x y v ov iv u _ I2 r1 r2 r q2) λ_ s3 hz0=>?_))));obtain⟨H3,I3,q3⟩:=hz0;exact wpAny_release ⟨σ,H3,I3,q3⟩
def tAsg (te:TE)(g:TG):TS:=λD σ H=>te σ H λx H1=>g x σ H1 D.nx
theorem ps_asg {g:TG}(he:PE X e te)(hg:PG X tg g)(hs:autoParam (swapsWithSole [tg] e pos.line X.env=iS false) L2.au0._auto_1)(hw:autoParam (swappedStores [tg] e X.env=iS none) L2.au0._auto_1)
  (h1:autoParam ((assignEach [tg] X.env).map (·.2)=[assign tg X.env]) L2.au0._auto_1):PS X (.Assign [tg] e pos) (tAsg te g):=by
 intro aN s σ H D I h;apply wpAny_Assign_stores (thn (he aN s σ H _ I h) λv s1 hz0=>?_) hs hw;obtain⟨x,H1,I1,r1,q1⟩:=hz0;rw[h1];exact thn (hg aN s1 σ H1 x v _ I1 r1 q1) λ_ s2 q=>q
theorem ps_set (hN:X.N.Nodup)(hi:X.N[i]? =some x)(hx:Loc X.env.scope x)(he:PE X e te)(hs:autoParam (lR e (some (.Name x pos')) pos.line X.env=iS false) L2.au0._auto_1)(hf:autoParam (X.fn x=true∨X.env.scope.names.lookup x=some .local) L2.au3._auto_1) :
  PS X (.Assign [.Name x pos'] e pos) (tAsg te (oU i)):=by
 intro aN s σ H D I h;apply wpAny_Assign_Name (thn (he aN s σ H _ I h) λv s1 hz0=>?_) hs;obtain⟨y,H1,I1,r1,q1⟩:=hz0;exact store_ok I1 hN hi hx r1 (λs2 I2=>⟨_,H1,I2,q1⟩) hf
structure It where
 go:Nat→Hp→Prop
 yld:Nat→Hp→V→Hp→Prop
 stop:Nat→Hp→Prop
def FpOk (X:Cx)(aN:List (aq×Obj))(H:Hp)(b:aq):Prop :=
 H b=none∧b≠X.env.locals∧b ∉ X.fs∧(b∈X.ex∨X.s₀.heap.objs.size≤b)∧(∀x c,X.env.cells.lookup x=some c→c≠b)∧∀p∈X.pn++aN,p.1≠b
theorem Inv.fpOk {b:aq}(I:Inv X aN σ H s)(hb:s.heap.objs.size≤b)(hn:H' b=none):FpOk X aN H' b:=by
 apply⟨hn,jz (ck I.lt hb),I.nofs hb,.inr (cO I.sz hb),λx c e z=>?_,λp hp z=>?_⟩
 ·obtain⟨v,q⟩:=I.cell x c e
  exact rQ (ck q.lt (by rw[z];exact hb)) (iF _)
 ·exact rQ (ck (aW (I.pin p hp).1) (by rw[z];exact hb)) (iF _)
structure Turn (P:aK)(w:bg)(K:ak)(tg:Expr)(J:It)(fp:List aq)(it:aq)(tn:Nat→bM→Prop):Prop where
 mem:it∈fp
 obj:∀i h,tn i h→∀b∈fp,∃o,h.get? b=some o∧∀v,o.data≠ .cell v
 keep:∀i h h',tn i h→(∀b∈fp,∀o,h.get? b=some o→h'.get? b=some o)→tn i h'
 item:∀(X:Cx),X.prog=P→X.w=w→X.K=K→X.calm=true→∀(i:Nat) (aN:List (aq×Obj)) (s:ar) (σ:St) (H:Hp) (E:af→ar→Prop),Inv X aN σ H s→(∀b∈fp,FpOk X aN H b)→tn i s.heap→J.go i H →
  aY (bF P w) X.A (pyNext (.ref it)) (fun r s1=>∃ u,r=some u ∧
   aY (bF P w) X.A (mj tg (.ref it) u) (fun _ s2=>∃ x H',Inv X aN σ H' s2∧jr x u∧J.yld i H x H'∧tn (i+1) s2.heap∧∀ b∈fp,H' b=none) E s1) E s
 done:∀(X:Cx),X.prog=P→X.w=w→X.K=K→X.calm=true→∀(i:Nat) (aN:List (aq×Obj)) (s:ar) (σ:St) (H:Hp) (E:af→ar→Prop),Inv X aN σ H s→(∀b∈fp,FpOk X aN H b)→tn i s.heap→J.stop i H →
  aY (bF P w) X.A (pyNext (.ref it)) (λr s1=>r=none∧Inv X aN σ H s1) E s
 self:∀(A:cn) (i:Nat) (s:ar) (Q:af→ar→Prop) (E:af→ar→Prop),tn i s.heap→Q (.ref it) s→aY (bF P w) A (pyIter (.ref it)) Q E s
abbrev TI:=St→Hp→(It→Hp→Prop)→Prop
def PIE (X:Cx)(aN:List (aq×Obj))(σ:St)(tg:Expr)(R:It→Hp→Prop)(itv:af)(s2:ar):Prop :=
 ∃(it:aq) (fp:List aq) (tn:Nat→bM→Prop) (J:It) (H':Hp),itv= .ref it∧Inv X aN σ H' s2∧Turn X.prog X.w X.K tg J fp it tn∧tn 0 s2.heap∧(∀b∈fp,FpOk X aN H' b)∧R J H'
def PI (X:Cx)(tg iter:Expr)(wi:TI):Prop :=
 ∀(aN:List (aq×Obj)) (s:ar) (σ:St) (H:Hp) (R:It→Hp→Prop),Inv X aN σ H s→wi σ H R →
  aY (bF X.prog X.w) X.A (dY iter X.env) (λv s1=>aY (bF X.prog X.w) X.A (pyIter v) (PIE X aN σ tg R) X.xe s1) X.xe s
theorem go_of {o:Obj}{n:String}{vs:Array af}{Q:Unit→ar→Prop}(ho:s.heap.get? it=some o)(hc:o.cls= .type n)(hd:o.data= .fields vs)
  (hn:["enumerate","zip","dict_itemiterator","dict_reverseitemiterator","odict_iterator","itertools.zip_longest","itertools.pairwise"].contains n=false) (hQ:Q () s):aY M A (mj tg (.ref it) u) Q E s:=by
 unfold mj;cases tg <;> first
  | exact aJ hQ
  | (cases u <;> first
    | exact aJ hQ
    | (apply aj (wpAny_load ho ?_)
       rw [hc,hd];show aY M A (if (["enumerate","zip","dict_itemiterator","dict_reverseitemiterator","odict_iterator","itertools.zip_longest","itertools.pairwise"].contains n && vs[0]? == some (lB _))=true then _ else _) Q E s;rw [rO (by intro h;rw [hn,kY] at h;cases h)];exact aJ hQ))
def Itl (K:ak)(a:aq):It :=
 ⟨λi H=>∃xs x,SqL K H a xs∧xs[i]? =some x,λi H x H'=>H'=H∧∀xs,SqL K H a xs→xs[i]? =some x,λi H=>∃xs,SqL K H a xs∧xs.length≤i⟩
def Itr (lo:Int)(n:Nat):It:=⟨λi _=>i<n,λi H x H'=>H'=H∧x= .int (lo+i),λi _=>n≤i⟩
theorem turn_list (a it:aq):Turn P w K tg (Itl K a) [it] it (λi h=>h.IsListIter it a i) where
 mem:=by simp
 obj:=λi h st b hb=>by
  have e:b=it:=by simpa using hb
  subst e;obtain⟨o,e,c,d⟩:=st;exact⟨o,e,λv z=>by rw[d] at z;cases z⟩
 keep:=λi h h' st k=>st.at λo e=>k it ∅ o e
 item:=by
  intro X hP hw hK hc i aN s σ H E I hf st hg;subst hP hw hK;obtain⟨xs,x,hq,hx⟩:=hg;obtain⟨its,rv,p,hz⟩:=I.list hq;obtain⟨u,hu,ru⟩:=rv.get hx;obtain⟨f0,f1,f2,f3,f4,f5⟩:=hf it ∅;apply wpAny_pyNext_list_item st p.isList (x:=u) (by simpa using hu) λh' st' sb=>?_
  have I1:Inv X aN σ H { s with heap:=h' }:=I.turned (t':=s.toks) (λb o hb e=>(sb.2 b hb).trans e) f0 f1 f3 f4 f5;obtain⟨o,e,c,d⟩:=id st';exact⟨u,rfl,go_of (s:={ s with heap:=h' }) e c d ↥0 ⟨x,H,I1,ru,⟨rfl,λys hy=>by rw[I.list_inj hy hq];exact hx⟩,st',λb hb=>(hf b hb).1⟩⟩
 done:=by
  intro X hP hw hK hc i aN s σ H E I hf st hg;subst hP hw hK;obtain⟨xs,hq,hx⟩:=hg;obtain⟨its,rv,p,hz⟩:=I.list hq;obtain⟨f0,f1,f2,f3,f4,f5⟩:=hf it ∅;have hl:=rv.length;exact wpAny_pyNext_list_end (I.ok.hd hc) st p.isList (by simp;lia) λh' eb=>⟨rfl,I.turned (t':=s.toks) (λb o hb e=>eb b o hb e) f0 f1 f3 f4 f5⟩
 self:=λ_ _ _ _ _ st h=>wpAny_pyIter_listiter st h
theorem turn_range (it:aq)(lo:Int)(n:Nat):Turn P w K tg (Itr lo n) [it] it (λi h=>IsRangeIter h it (lo+(i:Nat) * 1) ((n:Int) - (i:Nat)) 1) where
 mem:=by simp
 obj:=λi h st b hb=>by
  have e:b=it:=by simpa using hb
  subst e;exact ⟨_,st,fun v z=>by
   have z':Data.fields _=Data.cell v:=z;cases z'⟩
 keep:=λi h h' st k=>k it ∅ _ st
 item:=by
  intro X hP hw hK hc i aN s σ H E I hf st hg;subst hP hw hK;obtain⟨f0,f1,f2,f3,f4,f5⟩:=hf it ∅;have W:=Walks.range (prog:=X.prog) (w:=X.w) (I.ok.hd hc) it lo 1 n;apply W.item i s _ _ hg st λv h' tk hv st' kk=>?_
  obtain⟨t,rfl⟩:=hv;have I1:Inv X aN σ H { s with heap:=h',toks:=tk }:=I.turned (λb o hb e=>kk b o (by simpa using hb) e) f0 f1 f3 f4 f5;apply⟨ρ,go_of (s:={ s with heap:=h',toks:=tk }) (n := "range_iterator") st' rfl rfl ↥0 ⟨.int (lo+i),H,I1,⟨t,?_⟩,⟨rfl,rfl⟩,st',λb hb=>(hf b hb).1⟩⟩;rw[Int.mul_one]
 done:=by
  intro X hP hw hK hc i aN s σ H E I hf st hg;subst hP hw hK;obtain⟨f0,f1,f2,f3,f4,f5⟩:=hf it ∅;exact wpAny_pyNext_range_end (I.ok.hd hc) st (by have:n≤i:=hg;lia) λh' eb=>⟨rfl,I.turned (t':=s.toks) (λb o hb e=>eb b o hb e) f0 f1 f3 f4 f5⟩
 self:=λ_ _ _ _ _ st h=>wpAny_pyIter_rangeiter st h
def iList (K:ak)(tl:TE):TI:=λσ H R=>tl σ H λx H1=>∃a,x= .ref a∧(∃xs,SqL K H1 a xs)∧R (Itl K a) H1
theorem jk {l:Expr}{tl:TE}(hl:PE X l tl):PI X tg l (iList X.K tl):=by
 intro aN s σ H R I h;apply thn (hl aN s σ H _ I h) λv s1 hz0=>?_
 obtain⟨x,H1,I1,r1,q1⟩:=hz0;obtain⟨a,e,⟨xs,hq⟩,q⟩:=q1;subst e;cases r1;obtain⟨its,rv,p,hz⟩:=I1.list hq;apply iw p.isList ?_;apply⟨s1.heap.objs.size,[s1.heap.objs.size],_,_,H1,rfl,I1.kept (t':=s1.toks) λb o e=>au _ e,turn_list a _,⟨_,aU _ rfl,rfl,rfl⟩,λb hb=>?_,q⟩;have e:b=s1.heap.objs.size:=by simpa using hb
 subst e;exact I1.fpOk (aG _) (I1.hok.fresh (aG _))
theorem range_it {R:It→Hp→Prop}{hi:Int}{t u v:Tok}{tk:Nat}(I:Inv X aN σ H s)(h1: -(2 ^ 62)≤lo)(h2:lo<2 ^ 62)(h3: -(2 ^ 62)≤hi)(h4:hi<2 ^ 62)
  (q:R (Itr lo (hi - lo).toNat) H):aY (bF X.prog X.w) X.A (pyIter (.ref s.heap.objs.size)) (PIE X aN σ tg R) E { s with heap:=s.heap.push { cls:= .type "range",data:= .fields #[.int lo t,.int hi u,.int 1 v] },toks:=tk }:=by
 apply wpAny_pyIter_range (IsRange.new ..) (small_one h1 h2 h3 h4) ?_;have I1:Inv X aN σ H { s with heap:=s.heap.push { cls:= .type "range",data:= .fields #[.int lo t,.int hi u,.int 1 v] },toks:=tk }:=I.kept λb o e=>au _ e
 apply ⟨(s.heap.push { cls:= .type "range",data:= .fields #[.int lo t,.int hi u,.int 1 v] }).objs.size,[(s.heap.push { cls:= .type "range",data:= .fields #[.int lo t,.int hi u,.int 1 v] }).objs.size],_,_,H,rfl,
  I1.kept (t':=tk) fun b o e=>au _ e,turn_range _ lo (hi - lo).toNat,?_,fun b hb=>?_,q⟩
 ·have e1:lo+((0:Nat):Int) * 1=lo:=by simp
  have e2:(((hi - lo).toNat:Nat):Int) - ((0:Nat):Int)=jX lo hi 1:=by rw[rangeSize_one];split <;> lia
  show IsRangeIter _ _ (lo+((0:Nat):Int) * 1) ((((hi - lo).toNat:Nat):Int) - ((0:Nat):Int)) 1;rw[e1,e2];exact aU _ rfl
 ·have e:b=(s.heap.push { cls:= .type "range",data:= .fields #[.int lo t,.int hi u,.int 1 v] }).objs.size:=by simpa using hb
  subst e;exact I1.fpOk (aG _) (I1.hok.fresh (aG _))
def iRng1 (ta:TA):TI:=λσ H R=>ta σ H λvs H1=>∃j:Int,vs=[.int j]∧ -(2 ^ 62)≤j∧j<2 ^ 62∧R (Itr 0 j.toNat) H1
def iRng2 (ta:TA):TI:=λσ H R=>ta σ H λvs H1=>∃i j:Int,vs=[.int i,.int j]∧(-(2 ^ 62)≤i∧i<2 ^ 62∧ -(2 ^ 62)≤j∧j<2 ^ 62)∧R (Itr i (j - i).toNat) H1
theorem lL {a:Expr}{ta:TA}{p:Pos}(hg:Gl X "range")(hm:X.mg "range" =none)(ha:PA X [a] ta)(hs:autoParam (br [a] X.env=[(false,dY a X.env)]) L2.au0._auto_1):PI X tg (.Call (.Name "range" p) [a] [] pos) (iRng1 ta):=by
 intro aN s σ H R I h;apply Call_ (oS I hg hm boot_range (eT (thn (ha pos aN s σ H _ I h) λus s1 hz0=>?_) hs rfl));obtain⟨vs,H1,I1,r1,q1⟩:=hz0;obtain⟨j,e,q1,q2,q⟩:=q1;subst e;cases r1 with
 | cons r rr =>
  cases rr;obtain⟨t,rfl⟩:=r;exact call_range_1 (range_it I1 ⋯ ⋯ q1 q2 (by simpa using q))
theorem pi_range2 {a b:Expr}{ta:TA}{p:Pos}(hg:Gl X "range")(hm:X.mg "range" =none)(ha:PA X [a,b] ta)(hs:autoParam (br [a,b] X.env=[(false,dY a X.env),(false,dY b X.env)]) L2.au0._auto_1)(hs2:autoParam (br [b] X.env=[(false,dY b X.env)]) L2.au0._auto_1) :
  PI X tg (.Call (.Name "range" p) [a,b] [] pos) (iRng2 ta):=by
 intro aN s σ H R I h;apply Call_ (oS I hg hm boot_range (eT (thn (ha pos aN s σ H _ I h) λus s1 hz0=>?_) (by rw[hs,hs2]) (by rw[hs2];rfl)));obtain⟨vs,H1,I1,r1,q1⟩:=hz0;obtain⟨i,j,e,⟨q1,q2,q3,q4⟩,q⟩:=q1;subst e;cases r1 with
 | cons r rr =>
  cases rr with
  | cons r' rr =>
   cases rr;obtain⟨t,rfl⟩:=r;obtain⟨t',rfl⟩:=r';exact call_range_2 (range_it I1 q1 q2 q3 q4 q)
def tFor (wi:TI)(g:TG)(tb:TS):TS:=λD σ H=>wi σ H λJ H1=>∃W:Nat→Nat→St→Hp→Prop,(∃m,W 0 m σ H1)∧∀i m σ H,W i m σ H →
 (J.stop i H∧D.nx σ H)∨(J.go i H∧∃N:St→Hp→Prop,(∀σ' H',N σ' H'→∃m',m'<m∧W (i+1) m' σ' H')∧∀x H',J.yld i H x H'→g x σ H' λσ2 H2=>tb { D with nx:=N,ct:=N,bk:=D.nx } σ2 H2)
def pinsAt (fp:List aq)(h:bM):List (aq×Obj):=fp.filterMap λb=>(h.get? b).map λo=>(b,o)
theorem nM {b:aq}{o:Obj}(hb:b∈fp)(e:h.get? b=some o):(b,o)∈pinsAt fp h:=gT.mpr ⟨b,hb,by rw[e];rfl⟩
theorem of_pinsAt {p:aq×Obj}(hp:p∈pinsAt fp h):p.1∈fp∧h.get? p.1=some p.2:=by
 obtain⟨b,hb,e⟩:=gT.mp hp;cases q:h.get? b with
 | none=>rw[q] at e;cases e
 | some o =>
  rw[q] at e;have e':(b,o)=p:=bU e;subst e';exact⟨hb,q⟩
theorem Inv.pinned (I:Inv X aN σ H s)(hf:∀b∈fp,FpOk X aN H b)(ho:∀b∈fp,∃o,s.heap.get? b=some o∧∀v,o.data≠ .cell v):Inv X (aN++pinsAt fp s.heap) σ H s :=
 I.pins_of λp hp=>(aS.mp hp).elim (λz=>I.pin p (bC _ z)) λz=>by
  obtain⟨hb,e⟩:=of_pinsAt z;obtain⟨f0,f1,f2,_⟩:=hf p.1 hb;obtain⟨o,e',d⟩:=ho p.1 hb;rw[e] at e';cases e';exact⟨e,f0,f1,f2,d⟩
theorem Inv.unpinned {pl:List (aq×Obj)}(I:Inv X (aN++pl) σ H s):Inv X aN σ H s:=I.pins_of λp hp=>I.pin p (bC _ (cB _ hp))
theorem jg {wi:TI}{g:TG}{tb:TS}(hp:PassesOwn (bF X.prog X.w) X.A X.env X.xe)(hc:X.calm=true)(hi:PI X tg iter wi)(hg:PG X tg g)(hb:PSs X body tb)
  (hs:autoParam (∀x,jZ iter X.env x=iS x) L2.au2._auto_1):PS X (.For tg iter body [] pos) (tFor wi g tb):=by
 intro aN s σ H D I h;apply wpAny_For (thn (hi aN s σ H _ I h) λv s1 h1=>thn h1 λitv s2 h2=>?_) hs;obtain⟨it,fp,tn,J,H2,e,I2,T,st2,f2,W,⟨m0,w0⟩,turn⟩:=h2;subst e;have stat:∀{H':Hp},(∀b∈fp,H' b=none)→∀b∈fp,FpOk X aN H' b:=λhn b hb=>⟨hn b hb,(f2 b hb).2⟩
 apply codeAny_forLoop_any (λn s'=>∃i σ' H',Inv X aN σ' H' s'∧tn i s'.heap∧(∀b∈fp,H' b=none)∧W i n σ' H') ?_ m0 ⟨0,σ,H2,I2,st2,λb hb=>(f2 b hb).1,w0⟩;rintro n s3 ⟨i,σ3,H3,I3,st3,fr3,w3⟩
 rcases turn i n σ3 H3 w3 with ⟨stop,qn⟩ | ⟨go,N,hN,step⟩
 ·apply md hp (thn (T.done X rfl rfl rfl hc i aN s3 σ3 H3 X.xe I3 (stat fr3) st3 stop) λr s4 hz0=>?_)
  obtain⟨hr,I4⟩:=hz0;subst hr;exact wpAny_execs_nil ⟨σ3,H3,I4,qn⟩
 ·apply md hp (thn (T.item X rfl rfl rfl hc i aN s3 σ3 H3 X.xe I3 (stat fr3) st3 go) λr s4 hz0=>?_)
  obtain⟨u,hr,h4⟩:=hz0;subst hr;apply md hp (thn h4 λ_ s5 hz0=>?_);obtain⟨x,H5,I5,r5,y5,st5,fr5⟩:=hz0;have I5':=I5.pinned (stat fr5) (T.obj _ _ st5);apply md hp (thn (hg _ s5 σ3 H5 x u _ I5' r5 (step x H5 y5)) λ_ s6 hz0=>?_);obtain⟨σ6,H6,I6,q6⟩:=hz0;apply md hp (thn (hb _ s6 σ6 H6 _ I6 q6) λf s7 q7=>?_);have again:∀{σ7:St} {H7:Hp},Inv X (aN++pinsAt fp s5.heap) σ7 H7 s7→N σ7 H7→∃m,m<n∧∃i σ' H',Inv X aN σ' H' s7∧tn i s7.heap∧(∀b∈fp,H' b=none)∧W i m σ' H':=λ{σ7 H7} I7 n7=>by
   obtain⟨m',hm,w7⟩:=hN σ7 H7 n7;apply⟨m',hm,i+1,σ7,H7,I7.unpinned,T.keep _ _ _ st5 λb hb o e=>(I7.pin (b,o) (bC _ (bC _ (nM hb e)))).1,λb hb=>?_,w7⟩;obtain⟨o,e,d⟩:=T.obj _ _ st5 b hb;exact(I7.pin (b,o) (bC _ (bC _ (nM hb e)))).2.1
  cases f with
  | next=>obtain⟨σ7,H7,I7,n7⟩:=q7;exact again I7 n7
  | cont=>obtain⟨σ7,H7,I7,n7⟩:=q7;exact again I7 n7
  | brk=>obtain⟨σ7,H7,I7,q7⟩:=q7;exact⟨σ7,H7,I7.unpinned,q7⟩
  | ret v=>obtain⟨x7,σ7,H7,I7,r7,q7⟩:=q7;exact⟨x7,σ7,H7,I7.unpinned,r7,q7⟩
theorem lF {g:TG}{tb:TS}{D:rM}(Pv:Nat→St→Hp→Prop)(h0:Pv 0 σ H)(hl:∀i σ H,i≤xs.length→Pv i σ H→SqL K H a xs)
  (hs:∀i x σ H,xs[i]? =some x→Pv i σ H→g x σ H λσ2 H2=>tb { D with nx:=Pv (i+1),ct:=Pv (i+1),bk:=D.nx } σ2 H2) (hd:∀σ H,Pv xs.length σ H→D.nx σ H) :
  ∃W:Nat→Nat→St→Hp→Prop,(∃m,W 0 m σ H)∧∀i m σ H,W i m σ H →
   ((Itl K a).stop i H∧D.nx σ H)∨((Itl K a).go i H∧∃N:St→Hp→Prop,(∀σ' H',N σ' H'→∃m',m'<m∧W (i+1) m' σ' H')∧∀x H',(Itl K a).yld i H x H'→g x σ H' λσ2 H2=>tb { D with nx:=N,ct:=N,bk:=D.nx } σ2 H2):=by
 apply⟨λi m σ H=>m=xs.length - i∧i≤xs.length∧Pv i σ H,⟨xs.length,∅,cV _,h0⟩,?_⟩;rintro i m σ H ⟨rfl,hi,p⟩;have q:=hl i σ H hi p
 by_cases hlt:i<xs.length
 ·apply .inr ⟨⟨xs,xs[i],q,by simp[hlt]⟩,Pv (i+1),λσ' H' p'=>⟨xs.length - (i+1),⋯,rfl,hlt,p'⟩,λx H' y=>?_⟩
  obtain⟨e,y⟩:=y;subst e;exact hs i x σ _ (y xs q) p
 ·have e:i=xs.length:=by lia
  subst e;exact .inl ⟨⟨xs,q,aG _⟩,hd σ H p⟩
theorem nr {g:TG}{tb:TS}{D:rM}(Pv:Nat→St→Hp→Prop)(h0:Pv 0 σ H)
  (hs:∀i σ H,i<n→Pv i σ H→g (.int (lo+i)) σ H λσ2 H2=>tb { D with nx:=Pv (i+1),ct:=Pv (i+1),bk:=D.nx } σ2 H2) (hd:∀σ H,Pv n σ H→D.nx σ H) :
  ∃W:Nat→Nat→St→Hp→Prop,(∃m,W 0 m σ H)∧∀i m σ H,W i m σ H →
   ((Itr lo n).stop i H∧D.nx σ H)∨((Itr lo n).go i H∧∃N:St→Hp→Prop,(∀σ' H',N σ' H'→∃m',m'<m∧W (i+1) m' σ' H')∧∀x H',(Itr lo n).yld i H x H'→g x σ H' λσ2 H2=>tb { D with nx:=N,ct:=N,bk:=D.nx } σ2 H2):=by
 apply⟨λi m σ H=>m=n - i∧i≤n∧Pv i σ H,⟨n,∅,cV _,h0⟩,?_⟩;rintro i m σ H ⟨rfl,hi,p⟩
 by_cases hlt:i<n
 ·apply .inr ⟨hlt,Pv (i+1),λσ' H' p'=>⟨n - (i+1),⋯,rfl,hlt,p'⟩,λx H' y=>?_⟩
  obtain⟨e,y⟩:=y;subst e y;exact hs i σ _ hlt p
 ·have e:i=n:=by lia
  subst e;exact .inl ⟨aG _,hd σ H p⟩
abbrev R2:=V→V→Hp→VK→Prop
def OpR (X:Cx)(f:af→af→Sem af)(r:R2):Prop :=
 ∀(aN:List (aq×Obj)) (s:ar) (σ:St) (H:Hp) (x y:V) (v u:af) (Q:VK),Inv X aN σ H s→jr x v→jr y u→r x y H Q →
  aY (bF X.prog X.w) X.A (f v u) (EP X aN σ Q) X.xe s
def UnR (X:Cx)(f:af→Sem af)(r:V→Hp→VK→Prop):Prop :=
 ∀(aN:List (aq×Obj)) (s:ar) (σ:St) (H:Hp) (x:V) (v:af) (Q:VK),Inv X aN σ H s→jr x v→r x H Q →
  aY (bF X.prog X.w) X.A (f v) (EP X aN σ Q) X.xe s
def jU (X:Cx)(f:af)(r:List V→Hp→VK→Prop):Prop :=
 ∀(aN:List (aq×Obj)) (s:ar) (σ:St) (H:Hp) (xs:List V) (us:List af) (Q:VK),Inv X aN σ H s→ie xs us→r xs H Q →
  aY (bF X.prog X.w) X.A (call f us) (EP X aN σ Q) X.xe s
def tOp (r:R2)(ta tb:TE):TE:=λσ H Q=>ta σ H λx H1=>tb σ H1 λy H2=>r x y H2 Q
def tUn (r:V→Hp→VK→Prop)(ta:TE):TE:=λσ H Q=>ta σ H λx H1=>r x H1 Q
inductive rI (C:Int→Int→Prop)(g:Int→Int→V)(x:V)(y:V)(H:Hp)(Q:VK):Prop
 | mk (i j:_)(_:x= .int i)(_:y= .int j)(_:C i j)(_:Q (g i j) H)
inductive rI0 (g:Int→Int→V)(x:V)(y:V)(H:Hp)(Q:VK):Prop
 | mk (i j:_)(_:x= .int i)(_:y= .int j)(_:Q (g i j) H)
inductive rU (g:Int→V)(x:V)(H:Hp)(Q:VK):Prop
 | mk (i:_)(_:x= .int i)(_:Q (g i) H)
section
variable {a b c:Expr}{tb tc:TE}
theorem binT (ha:PE X a ta)(hb:PE X b tb){R:V→V→Hp→Prop}(I:Inv X aN σ H s)
  (h:ta σ H λx H1=>tb σ H1 λy H2=>R x y H2) {f:af→af→Sem af}
  (hf:∀v u s2 x y H2,Inv X aN σ H2 s2→jr x v→jr y u→R x y H2→aY (bF X.prog X.w) X.A (f v u) Q X.xe s2) :
  aY (bF X.prog X.w) X.A (dY a X.env) (λv s₁=>aY (bF X.prog X.w) X.A (dY b X.env) (λu s₂=>aY (bF X.prog X.w) X.A (f v u) Q X.xe s₂) X.xe s₁) X.xe s:=by
 apply thn (ha aN s σ H _ I h) λv s1 hz0=>?_
 obtain⟨x,H1,I1,r1,q1⟩:=hz0;apply thn (hb aN s1 σ H1 _ I1 q1) λu s2 hz0=>?_
 obtain⟨y,H2,I2,r2,q2⟩:=hz0;exact hf v u s2 x y H2 I2 r1 r2 q2
theorem cH {op:Operator}{r:R2}(ho:OpR X (iH op) r)(ha:PE X a ta)(hb:PE X b tb):PE X (.BinOp a op b pos) (tOp r ta tb):=by
 intro aN s σ H Q I h;exact wpAny_BinOp (binT ha hb I h λv u s2 x y H2 I2 rx ry q=>ho aN s2 σ H2 x y v u Q I2 rx ry q)
theorem pe_un {op:UnaryOp}{r:V→Hp→VK→Prop}(ho:UnR X (unaryOp op) r)(ha:PE X a ta):PE X (.UnaryOp op a pos) (tUn r ta):=by
 intro aN s σ H Q I h;exact UnaryOp_ (thn (ha aN s σ H _ I h) λv s1 ⟨x,H1,I1,r1,q1⟩=>ho aN s1 σ H1 x v Q I1 r1 q1)
theorem opI {f:af→af→Sem af}{C:Int→Int→Prop}{g:Int→Int→Int}
  (rule:∀(i j:Int) (t u:Tok) (s:ar) (Q:af→ar→Prop) (E:af→ar→Prop),C i j→Q (.int (g i j) s.toks) { s with toks:=s.toks+1 }→aY (bF X.prog X.w) X.A (f (.int i t) (.int j u)) Q E s) :
  OpR X f (rI C λi j=> .int (g i j)):=by
 intro aN s σ H x y v u Q I rx ry h;obtain⟨i,j,rfl,rfl,hc,q⟩:=h;obtain⟨t,rfl⟩:=rx;obtain⟨t',rfl⟩:=ry;exact rule i j t t' s _ _ hc ⟨.int (g i j),H,I.tok _,⟨_,rfl⟩,q⟩
theorem opI0 {f:af→af→Sem af}{g:Int→Int→Int}
  (rule:∀(i j:Int) (t u:Tok) (s:ar) (Q:af→ar→Prop) (E:af→ar→Prop),Q (.int (g i j) s.toks) { s with toks:=s.toks+1 }→aY (bF X.prog X.w) X.A (f (.int i t) (.int j u)) Q E s) :
  OpR X f (rI0 λi j=> .int (g i j)):=by
 intro aN s σ H x y v u Q I rx ry h;obtain⟨i,j,rfl,rfl,q⟩:=h;obtain⟨t,rfl⟩:=rx;obtain⟨t',rfl⟩:=ry;exact rule i j t t' s _ _ ⟨.int (g i j),H,I.tok _,⟨_,rfl⟩,q⟩
theorem opB0 {f:af→af→Sem af}{g:Int→Int→Bool}
  (rule:∀(i j:Int) (t u:Tok) (s:ar) (Q:af→ar→Prop) (E:af→ar→Prop),Q (.bool (g i j)) s→aY (bF X.prog X.w) X.A (f (.int i t) (.int j u)) Q E s) :
  OpR X f (rI0 λi j=> .bl (g i j)):=by
 intro aN s σ H x y v u Q I rx ry h;obtain⟨i,j,rfl,rfl,q⟩:=h;obtain⟨t,rfl⟩:=rx;obtain⟨t',rfl⟩:=ry;exact rule i j t t' s _ _ ⟨.bl (g i j),H,I,rfl,q⟩
def CDiv (i j:Int):Prop:=0<j∧j<1073741824
def CPow (i j:Int):Prop:=0≤j∧j≤1000000∧i.natAbs<2 ^ 64
def CMul (i j:Int):Prop:=(-(2 ^ 64)<i∧i<2 ^ 64)∨(-(2 ^ 64)<j∧j<2 ^ 64)
theorem CMul.ok {i j:Int}(h:CMul i j):IntMulOk i j:=by
 rcases h with ⟨h1,h2⟩ | ⟨h1,h2⟩
 ·exact .of_left (intBits_le_64 h1 h2)
 ·exact .of_right (intBits_le_64 h1 h2)
theorem fz:OpR X (iH .Add) (rI0 λi j=> .int (i+j)):=opI0 λ_ _ _ _ _ _ _ q=>add_int q
theorem iq:OpR X (iH .Sub) (rI0 λi j=> .int (i - j)):=opI0 λ_ _ _ _ _ _ _ q=>sub_int q
theorem kG:OpR X (iH .Mult) (rI CMul λi j=> .int (i * j)):=opI λ_ _ _ _ _ _ _ hc q=>mul_int q hc.ok
theorem op_fdiv:OpR X (iH .FloorDiv) (rI CDiv λi j=> .int (i / j)):=opI λi j _ _ _ _ _ hc q=>by
 have h1:(0:Int)<j:=hc.1;have h2:j<1073741824:=hc.2;exact floordiv_int ⋯ (by rw[Int.fdiv_eq_ediv_of_nonneg i ⋯];exact q) (.inl (PyProof.noPylong_small ⋯))
theorem pS:OpR X (iH .Mod) (rI (λ_ j=>0<j) λi j=> .int (i % j)):=opI λi j _ _ _ _ _ hc q=>by
 have h1:(0:Int)<j:=hc;exact mod_int' ⋯ (by rw[Int.fmod_eq_emod_of_nonneg i ⋯];exact q)
theorem pR:OpR X (iH .Pow) (rI CPow λi j=> .int (i ^ j.toNat)):=opI λ_ _ _ _ _ _ _ hc q=>pow_int_small hc.1 hc.2.1 hc.2.2 q
theorem unI {f:af→Sem af}{g:Int→Int}
  (rule:∀(i:Int) (t:Tok) (s:ar) (Q:af→ar→Prop) (E:af→ar→Prop),Q (.int (g i) s.toks) { s with toks:=s.toks+1 }→aY (bF X.prog X.w) X.A (f (.int i t)) Q E s) :
  UnR X f (rU λi=> .int (g i)):=by
 intro aN s σ H x v Q I rx h;obtain⟨i,rfl,q⟩:=h;obtain⟨t,rfl⟩:=rx;exact rule i t s _ _ ⟨.int (g i),H,I.tok _,⟨_,rfl⟩,q⟩
theorem rg:UnR X (unaryOp .USub) (rU λi=> .int (-i)):=unI λ_ _ _ _ _ q=>neg_int q
end
def scal:V→V→Bool
 | .non,.non=>true | .non,.int _=>true | .int _,.non=>true | .non,.bl _=>true | .bl _,.non=>true | .non,.str _=>true | .str _,.non=>true
 | .int _,.int _=>true | .bl _,.bl _=>true | .str _,.str _=>true | .byt _,.byt _=>true
 | .int _,.str _=>true | .str _,.int _=>true | .bl _,.str _=>true | .str _,.bl _=>true
 | _,_=>false
def rEq:R2:=λx y H Q=>scal x y=true∧Q (.bl (decide (x=y))) H
def rNe:R2:=λx y H Q=>scal x y=true∧Q (.bl (!decide (x=y))) H
theorem dec_int {i j:Int}:decide (V.int i=V.int j)=(i == j):=by
 rw[Bool.eq_iff_iff];simp
theorem dec_bl {i j:Bool}:decide (V.bl i=V.bl j)=(i == j):=by
 rw[Bool.eq_iff_iff];simp
theorem dec_str {i j:Str}:decide (V.str i=V.str j)=(i == j):=by
 rw[Bool.eq_iff_iff];simp
theorem dec_byt {i j:Array UInt8}:decide (V.byt i=V.byt j)=(i.toList == j.toList):=by
 rw[Bool.eq_iff_iff];cases i;cases j;simp
section
variable {a b c:Expr}{tb tc:TE}
theorem gq {Q:VK}{k k':Bool}(I:Inv X aN σ H s)(q:Q (.bl k) H)(e:k=k'):EP X aN σ Q (.bool k') s:=by
 subst e;exact⟨.bl k,H,I,rfl,q⟩
theorem iB:OpR X (fJ .Eq) rEq:=by
 intro aN s σ H x y v u Q I rx ry h;obtain⟨hs,q⟩:=h;cases x with
 | non =>
  cases rx;cases y with
  | non=>cases ry;exact PySem.EqNone.eq_none_none (gq I q ∅)
  | bl j=>cases ry;exact PySem.EqNone.eq_none_bool (gq I q ∅)
  | int j=>obtain⟨t',rfl⟩:=ry;exact PySem.EqNone.eq_none_int (gq I q ∅)
  | str j=>obtain⟨t',rfl⟩:=ry;exact PySem.EqNone.eq_none_str (gq I q ∅)
  | _=>exact rQ (show false=true from hs) bN
 | bl i =>
  cases rx;cases y with
  | non=>cases ry;exact PySem.EqNone.eq_bool_none (gq I q ∅)
  | bl j=>cases ry;exact eq_bool (gq I q dec_bl)
  | str j=>obtain⟨t',rfl⟩:=ry;exact PySem.EqMixed.eq_bool_str (gq I q ∅)
  | _=>exact rQ (show false=true from hs) bN
 | int i =>
  obtain⟨t,rfl⟩:=rx;cases y with
  | non=>cases ry;exact PySem.EqNone.eq_int_none (gq I q ∅)
  | int j=>obtain⟨t',rfl⟩:=ry;exact eq_int (gq I q dec_int)
  | str j=>obtain⟨t',rfl⟩:=ry;exact PySem.EqMixed.eq_int_str (gq I q ∅)
  | _=>exact rQ (show false=true from hs) bN
 | str i =>
  obtain⟨t,rfl⟩:=rx;cases y with
  | non=>cases ry;exact PySem.EqNone.eq_str_none (gq I q ∅)
  | bl j=>cases ry;exact PySem.EqMixed.eq_str_bool (gq I q ∅)
  | int j=>obtain⟨t',rfl⟩:=ry;exact PySem.EqMixed.eq_str_int (gq I q ∅)
  | str j=>obtain⟨t',rfl⟩:=ry;exact eq_str (gq I q dec_str)
  | _=>exact rQ (show false=true from hs) bN
 | byt i =>
  obtain⟨t,rfl⟩:=rx;cases y with
  | byt j=>obtain⟨t',rfl⟩:=ry;exact PySem.W.eq_bytes (gq I q dec_byt)
  | _=>exact rQ (show false=true from hs) bN
 | _=>cases y <;> exact rQ (show false=true from hs) bN
theorem rb:OpR X (fJ .NotEq) rNe:=by
 intro aN s σ H x y v u Q I rx ry h;obtain⟨hs,q⟩:=h;cases x with
 | non =>
  cases rx;cases y with
  | non=>cases ry;exact PySem.EqNone.ne_none_none (gq I q ∅)
  | bl j=>cases ry;exact PySem.EqNone.ne_none_bool (gq I q ∅)
  | int j=>obtain⟨t',rfl⟩:=ry;exact PySem.EqNone.ne_none_int (gq I q ∅)
  | str j=>obtain⟨t',rfl⟩:=ry;exact PySem.EqNone.ne_none_str (gq I q ∅)
  | _=>exact rQ (show false=true from hs) bN
 | bl i =>
  cases rx;cases y with
  | non=>cases ry;exact PySem.EqNone.ne_bool_none (gq I q ∅)
  | bl j=>cases ry;exact ne_bool (gq I q (rV not dec_bl))
  | str j=>obtain⟨t',rfl⟩:=ry;exact PySem.EqMixed.ne_bool_str (gq I q ∅)
  | _=>exact rQ (show false=true from hs) bN
 | int i =>
  obtain⟨t,rfl⟩:=rx;cases y with
  | non=>cases ry;exact PySem.EqNone.ne_int_none (gq I q ∅)
  | int j=>obtain⟨t',rfl⟩:=ry;exact ne_int (gq I q (rV not dec_int))
  | str j=>obtain⟨t',rfl⟩:=ry;exact PySem.EqMixed.ne_int_str (gq I q ∅)
  | _=>exact rQ (show false=true from hs) bN
 | str i =>
  obtain⟨t,rfl⟩:=rx;cases y with
  | non=>cases ry;exact PySem.EqNone.ne_str_none (gq I q ∅)
  | bl j=>cases ry;exact PySem.EqMixed.ne_str_bool (gq I q ∅)
  | int j=>obtain⟨t',rfl⟩:=ry;exact PySem.EqMixed.ne_str_int (gq I q ∅)
  | str j=>obtain⟨t',rfl⟩:=ry;exact ne_str (gq I q (rV not dec_str))
  | _=>exact rQ (show false=true from hs) bN
 | byt i =>
  obtain⟨t,rfl⟩:=rx;cases y with
  | byt j=>obtain⟨t',rfl⟩:=ry;exact PySem.W.ne_bytes (gq I q (rV not dec_byt))
  | _=>exact rQ (show false=true from hs) bN
 | _=>cases y <;> exact rQ (show false=true from hs) bN
theorem op_lt:OpR X (fJ .Lt) (rI0 λi j=> .bl (decide (i<j))):=opB0 λ_ _ _ _ _ _ _ q=>lt_int q
theorem op_le:OpR X (fJ .LtE) (rI0 λi j=> .bl (decide (i≤j))):=opB0 λ_ _ _ _ _ _ _ q=>le_int q
theorem op_gt:OpR X (fJ .Gt) (rI0 λi j=> .bl (decide (j<i))):=opB0 λ_ _ _ _ _ _ _ q=>gt_int q
theorem op_ge:OpR X (fJ .GtE) (rI0 λi j=> .bl (decide (j≤i))):=opB0 λ_ _ _ _ _ _ _ q=>ge_int q
theorem op_in_str:OpR X (fJ .In) (λx y H Q=>∃i j,x= .str i∧y= .str j∧Q (.bl (!(cZ j i 0 j.length 1).isEmpty)) H):=by
 intro aN s σ H x y v u Q I rx ry h;obtain⟨i,j,rfl,rfl,q⟩:=h;obtain⟨t,rfl⟩:=rx;obtain⟨t',rfl⟩:=ry;exact in_str (gq I q rfl)
theorem nc:OpR X (fJ .Is) (λx y H Q=>y= .non∧Q (.bl (decide (x= .non))) H):=by
 intro aN s σ H x y v u Q I rx ry h;obtain⟨rfl,q⟩:=h;cases ry;apply is_none_gen (gq I q ?_);cases x <;> first
  | (cases rx;rfl)
  | (obtain⟨t,rfl⟩:=rx;rfl)
theorem op_notN:OpR X (fJ .IsNot) (λx y H Q=>y= .non∧Q (.bl (!decide (x= .non))) H):=by
 intro aN s σ H x y v u Q I rx ry h;obtain⟨rfl,q⟩:=h;cases ry;apply isnot_none_gen (gq I q ?_);cases x <;> first
  | (cases rx;rfl)
  | (obtain⟨t,rfl⟩:=rx;rfl)
theorem cw (b:Expr)(h:autoParam (op≠ .In) L2.au1._auto_1)(h2:autoParam (op≠ .NotIn) L2.au1._auto_1):behindInMarks op b=false:=by
 have e1:(op == CmpOp.In)=false:=by cases op <;> first | rfl | exact rQ rfl h
 have e2:(op == CmpOp.NotIn)=false:=by cases op <;> first | rfl | exact rQ rfl h2
 cases b <;> simp[behindInMarks,e1,e2]
theorem jQ {r:R2}(ho:OpR X (fJ op) r)(ha:PE X a ta)(hb:PE X b tb)(hm:behindInMarks op b=false):PE X (.Compare a [op] [b] pos) (tOp r ta tb):=by
 intro aN s σ H Q I h;exact wpAny_Compare1 (binT ha hb I h λv u s2 x y H2 I2 rx ry q=>ho aN s2 σ H2 x y v u Q I2 rx ry q) hm
def tTest (t:TE):TT:=λσ H Q=>t σ H λx H'=>IsBl x λk=>Q k H'
theorem bQ {r:R2}(ho:OpR X (fJ op) r)(ha:PE X a ta)(hb:PE X b tb)(hm:behindInMarks op b=false):PT X (.Compare a [op] [b] pos) (tTest (tOp r ta tb)):=by
 intro aN s σ H Q I h;apply wpAny_isTrue_Compare1 (thn (ha aN s σ H _ I h) fun v s1 ⟨x,H1,I1,r1,q1⟩=>thn (hb aN s1 σ H1 _ I1 q1) fun u s2 ⟨y,H2,I2,r2,q2⟩ =>
  thn (ho aN s2 σ H2 x y v u _ I2 r1 r2 q2) fun c s3 ⟨z,H3,I3,r3,k,e,q3⟩=>?_) hm
 subst e;cases r3;exact ja ⟨H3,I3,q3⟩
def tChain (r r':R2)(ta tb tc:TE):TE:=λσ H Q=>ta σ H λx H1=>tb σ H1 λy H2=>r x y H2 λz H3=>∃k,z= .bl k ∧
 (if k=true then tc σ H3 λw' H4=>r' y w' H4 Q else Q (.bl false) H3)
theorem pe_chain {op':CmpOp}{r r':R2}(ho:OpR X (fJ op) r)(ho':OpR X (fJ op') r')(ha:PE X a ta)(hb:PE X b tb)(hc:PE X c tc)
  (hm:lastMarks [op,op'] [b,c]=false:=by with_unfolding_all rfl):PE X (.Compare a [op,op'] [b,c] pos) (tChain r r' ta tb tc):=by
 intro aN s σ H Q I h;apply Compare_chain (thn (ha aN s σ H _ I h) fun v s1 ⟨x,H1,I1,r1,q1⟩=>chain_link (thn (hb aN s1 σ H1 _ I1 q1) fun u s2 ⟨y,H2,I2,r2,q2⟩ =>
  thn (ho aN s2 σ H2 x y v u _ I2 r1 r2 q2) fun d s3 ⟨z,H3,I3,r3,k,e,q3⟩=>?_)) hm
 subst e;cases r3;apply ja ?_;cases k with
 | false=>exact ite_ff ⟨.bl false,H3,I3,rfl,q3⟩
 | true=>exact ite_tt (chain_last (thn (hc aN s3 σ H3 _ I3 q3) λw' s4 ⟨z',H4,I4,r4,q4⟩=>ho' aN s4 σ H4 y z' u w' Q I4 r2 r4 q4))
theorem rJ:(az:Nat)<2 ^ 63:=by rw[sizeLine_eq];decide
theorem op_add_str:OpR X (iH .Add) (λx y H Q=>∃i j,x= .str i∧y= .str j∧i.length+j.length≤az∧Q (.str (i++j)) H):=by
 intro aN s σ H x y v u Q I rx ry h;obtain⟨i,j,rfl,rfl,hz,q⟩:=h;obtain⟨t,rfl⟩:=rx;obtain⟨t',rfl⟩:=ry;exact add_str (λt' tk=>⟨.str (i++j),H,I.tok _,⟨ρ⟩,q⟩) hz
theorem nV {x:V}(r:ie [x] us):∃u,us=[u]∧jr x u:=by
 cases r with
 | cons r1 r2=>cases r2;exact⟨ρ,r1⟩
theorem vals2 {x:V}(r:ie [x,y] us):∃u w',us=[u,w']∧jr x u∧jr y w':=by
 cases r with
 | cons r1 r2 =>
  cases r2 with
  | cons r3 r4=>cases r4;exact⟨_,ρ,r1,r3⟩
theorem call_max2 (hc:X.calm=true):jU X (.builtin "max") (λxs H Q=>∃i j,xs=[.int i,.int j]∧Q (.int (if j > i then j else i)) H):=by
 intro aN s σ H xs us Q I r h;obtain⟨i,j,rfl,q⟩:=h;obtain⟨u,w',rfl,⟨t,rfl⟩,⟨t',rfl⟩⟩:=vals2 r;apply max_two_ints (I.ok.hd hc) λh' tk k=>⟨_,H,I.kept k,?_,q⟩
 by_cases hj:j > i
 ·rw[rP hj,rP hj];exact⟨ρ⟩
 ·rw[rO hj,rO hj];exact⟨ρ⟩
theorem oX (hc:X.calm=true):jU X (.builtin "min") (λxs H Q=>∃i j,xs=[.int i,.int j]∧Q (.int (if j<i then j else i)) H):=by
 intro aN s σ H xs us Q I r h;obtain⟨i,j,rfl,q⟩:=h;obtain⟨u,w',rfl,⟨t,rfl⟩,⟨t',rfl⟩⟩:=vals2 r;apply min_two_ints (I.ok.hd hc) λh' tk k=>⟨_,H,I.kept k,?_,q⟩
 by_cases hj:j<i
 ·rw[rP hj,rP hj];exact⟨ρ⟩
 ·rw[rO hj,rO hj];exact⟨ρ⟩
theorem oY:jU X (.type "int") (λxs H Q=>(∃i,xs=[.int i]∧Q (.int i) H)∨∃k,xs=[.bl k]∧Q (.int (if k then 1 else 0)) H):=by
 intro aN s σ H xs us Q I r h
 rcases h with ⟨i,rfl,q⟩ | ⟨k,rfl,q⟩
 ·obtain⟨u,rfl,t,rfl⟩:=nV r
  exact call_int_int ⟨.int i,H,I,⟨_,rfl⟩,q⟩
 ·obtain⟨u,rfl,r1⟩:=nV r
  cases r1;exact call_int_bool ⟨.int (if k then 1 else 0),H,I.tok _,⟨_,rfl⟩,q⟩
theorem pU:jU X (.type "str") (λxs H Q=>∃i,xs=[.int i]∧i.natAbs.log2<1920∧Q (.str (toString i)) H):=by
 intro aN s σ H xs us Q I r h;obtain⟨i,rfl,hz,q⟩:=h;obtain⟨u,rfl,t,rfl⟩:=nV r;exact PySem.P.str_of_int hz ⟨.str _,H,I.tok _,⟨_,rfl⟩,q⟩
end
structure ObjM (h:bM)(x dx C:aq)(mA:Str→Option af):Prop where
 obj:h.get? x=some (iP C dx)
 ns:h.Ns1 dx mA
 ne:dx≠x
theorem qE (n:h.Ns1 dx mA):∃od,h.get? dx=some od∧∀name,PySem.W.lookIn name od=some (mA name):=by
 obtain⟨o,es,ep,ho,hd,hk,_,hm⟩:=n;apply⟨o,ho,λname=>?_⟩;have e:=hm name;unfold nsFind findBy at e;rw[←Array.find?_toList] at e;unfold PySem.W.lookIn;rw[hd]
 dsimp only
 split
 ·rename_i y q
  rw[q] at e;exact rV some e
 ·rename_i q
  rw[q] at e;have a:es.toList.any (·.refKey)=false:=by
   rw[List.any_eq_false];intro y hy;obtain⟨z,t,hkey⟩:=hk y (Array.mem_toList_iff.mp hy);simp[DictEntry.refKey,hkey]
  have a':¬es.toList.any (·.refKey)=true:=by rw[a];exact bN
  rw[rO a'];exact rV some e
theorem ObjM.look {x:aq}(I:ObjM h x dx C mA):∃od,PySem.W.InstAt h x (iP C dx) C (some od)∧∀name,PySem.W.lookIn name od=some (mA name) :=
 let ⟨od,ho,hl⟩:=qE I.ns
 ⟨od,⟨I.obj,rfl,rfl,ho⟩,hl⟩
section
variable {x:aq}{v:af}
theorem get_map {expr:Bool}(X:K.In s.heap)(I:ObjM s.heap x dx C mA)(hg:jS K C name=true)(hh:jB K C=true)
  (ha:bW K (.ref C) name=some none) (hv:mA name=some v) (hv':PySem.W.handedIn v=true) (h:Q v { s with toks:=s.toks+1 }) :
  aY (bF prog w) A (getAttr (.ref x) name expr) Q E s:=by
 obtain⟨od,J,hl⟩:=I.look;exact PySem.W.get_value X J (PySem.W.plainGet_of hg).1 (PySem.W.findObj_own hh ha rfl (by rw[hl,hv])) hv' h
theorem get_meth {pl:Sem Bool}{Q:af×List af→ar→Prop}(X:K.In s.heap)(I:ObjM s.heap x dx C mA)(hg:jS K C name=true)
  (hf:bW K (.ref C) name=some (some (.ref f))) (ht:PySem.W.isFn K (.ref f)=true) (hv:mA name=none) (h:Q (.ref f,[.ref x]) s) :
  aY (bF prog w) A (getMethod (.ref x) name pl) Q E s:=by
 obtain⟨od,J,hl⟩:=I.look;exact PySem.W.method_fn X J (PySem.W.plainGet_of hg).1 (PySem.W.plainGet_of hg).2 hf (beq_iff_eq.mp ht) (by show(PySem.W.lookIn name od).map (·.isSome)=some false;rw[hl,hv];rfl) h
theorem set_map {Q:Unit→ar→Prop}(X:K.In s.heap)(I:ObjM s.heap x dx C mA)
  (hs:bW K (.ref C) "__setattr__" =some (some (.builtin "object.__setattr__"))) (hp:PySem.W.plainOver K C=true) (ht:PySem.W.takerIn K C name=some none) (hh:jB K C=true)
  (hw:PySem.Within mA ns) (hsz:ns.length≤az)
  (h:∀h',ObjM h' x dx C (λy=>if y=name then some v else mA y)→de dx s.heap h'→Q () { s with heap:=h',toks:=s.toks+2 }) :
  aY (bF prog w) A (setAttr (.ref x) name v) Q E s:=by
 obtain⟨od,J,hl⟩:=I.look;apply PySem.W.set_plain X J hs (PySem.W.osa_open (s:={ s with toks:=s.toks+1 }) (r:=none) X J hp ht λb=>?_);obtain⟨cd,hc,hd'⟩:=PySem.W.any_some hh;have hx:s.heap.get? x=some ⟨.ref C,some dx,.plain,#[]⟩:=I.obj;apply aj (aJ (aj (aj (wpAny_loadPart hx (aj (PySem.W.Looks.here (s:={ s with toks:=s.toks+1 }) (PySem.W.looks_clsIn X hc) ?_))))));rw[hd'];apply aJ (a:=some dx) (aj (aJ (aj ?_)));apply wpAny_nsSet1 (s:={ s with toks:=s.toks+1 }) I.ns λh' hn2 hs2=>?_
 obtain⟨oD,esD,epD,hoD,hdD,hcD⟩:=hn2.count (PySem.Within.cons name v hw);apply aj (wpAny_lookBehind hoD (by rw[hdD];exact pastItsLine_dict (cO hcD (by rw[av];lia))) ?_);exact aJ (h _ ⟨(hs2.2 _ (cQ I.ne)).trans I.obj,hn2,I.ne⟩ hs2)
theorem make_map (X:K.In s.heap)(hm:PySem.W.makesIn K C=true)
  (hi:bW K (.ref C) "__init__" =some (some (.ref f))) (hf:PySem.W.typeIn K (.ref f)=some (.type "function"))
  (h:codeAny (bF prog w) (A.under (.builtin "type.__call__" ⟨.ref C::vs,kw⟩)) (.call (.ref f) ⟨.ref (s.heap.objs.size+1)::vs,kw⟩) (PySem.W.InitBack (s.heap.objs.size+1) R)
   {s with heap:=(s.heap.push gp).push (iP C s.heap.objs.size) }) :
  codeAny (bF prog w) A (.call (.ref C) ⟨vs,kw⟩) R s:=by
 obtain⟨hh,g,d,t,os⟩:=s;exact PySem.W.make_core (PySem.W.makes_of X hm) (PySem.W.looks_findIn X hi) (λself=>PySem.W.bind_fn X self hf) (.inl rfl) h
end
def q0 (f:Str)(v:V):List (Str×V)→List (Str×V)
 | []=>[(f,v)]
 | (g,x)::r=>if g=f then (g,v)::r else (g,x)::q0 f v r
theorem oo (f g:Str)(v:V):∀fs:List (Str×V),(q0 f v fs).lookup g=if g=f then some v else fs.lookup g
 | []=>by
  show fK g [(f,v)]=_
  by_cases h:g=f
  ·have hb:(g == f)=true:=beq_iff_eq.mpr h
   simp only[fK,hb,rP h]
  ·have hb:(g == f)=false:=beq_eq_false_iff_ne.mpr h
   simp only[fK,hb,rO h]
 | (k,x)::r=>by
  have ih:=oo f g v r;rw[show q0 f v ((k,x)::r)=(if k=f then (k,v)::r else (k,x)::q0 f v r) from rfl]
  by_cases hk:k=f
  ·rw[rP hk]
   by_cases h:g=k
   ·have hb:(g == k)=true:=beq_iff_eq.mpr h
    simp only[fK,hb,rP (h.trans hk)]
   ·have hb:(g == k)=false:=beq_eq_false_iff_ne.mpr h
    simp only[fK,hb,rO (λe:g=f=>h (e.trans hk.symm))]
  ·rw[rO hk]
   by_cases h:g=k
   ·have hb:(g == k)=true:=beq_iff_eq.mpr h
    simp only[fK,hb,rO (λe:g=f=>hk (h.symm.trans e))]
   ·have hb:(g == k)=false:=beq_eq_false_iff_ne.mpr h
    simp only[fK,hb];exact ih
theorem nj (f:Str)(v:V):∀fs:List (Str×V),f∈(q0 f v fs).map (·.1)∧∀g,g∈fs.map (·.1)→g∈(q0 f v fs).map (·.1)
 | []=>⟨by simp[q0],λg h=>by simp at h⟩
 | (k,x)::r=>by
  obtain⟨i1,i2⟩:=nj f v r;rw[show q0 f v ((k,x)::r)=(if k=f then (k,v)::r else (k,x)::q0 f v r) from rfl]
  by_cases hk:k=f
  ·rw[rP hk]
   subst hk;exact⟨∅,λg h=>by simpa using h⟩
  ·rw[rO hk]
   apply⟨?_,λg h=>?_⟩
   ·rw[bq]
    exact aE _ i1
   ·rw[bq] at h ⊢
    rcases ay.mp h with e | e
    ·exact ay.mpr (.inl e)
    ·exact aE _ (i2 g e)
theorem qH (f:Str)(v:V):∀fs:List (Str×V),(q0 f v fs).length≤fs.length+1
 | []=>by simp[q0]
 | (k,x)::r=>by
  have ih:=qH f v r;rw[show q0 f v ((k,x)::r)=(if k=f then (k,v)::r else (k,x)::q0 f v r) from rfl]
  by_cases hk:k=f
  ·rw[rP hk,av,av];lia
  ·rw[rO hk,av,av];lia
theorem pZ.some_of {o:Option af}(r:pZ (some v) o):∃u,o=some u∧jr v u:=by
 cases o with
 | none=>exact(show False from r).elim
 | some u=>exact⟨u,rfl,r⟩
theorem pZ.none_of {o:Option af}(r:pZ none o):o=none:=by
 cases o with
 | none=>rfl
 | some u=>exact(show False from r).elim
theorem handed_of (r:jr v u):PySem.W.handedIn u=true:=by
 cases v with
 | non=>cases(show u=af.none from r);rfl
 | bl b=>cases(show u=af.bool b from r);rfl
 | int i=>obtain⟨t,e⟩:=(show ∃t,u=af.int i t from r);cases e;rfl
 | str x=>obtain⟨t,e⟩:=(show ∃t,u=af.str x t from r);cases e;rfl
 | byt b=>obtain⟨t,e⟩:=(show ∃t,u=af.bytes b t from r);cases e;rfl
 | flt b=>obtain⟨t,e⟩:=(show ∃t,u=af.float b t from r);cases e;rfl
 | ref a=>cases(show u=af.ref a from r);rfl
 | ty n=>cases(show u=af.type n from r);rfl
section
variable {fs fs':List (Str×V)}
theorem ins_get (hok:HOk P w H h)(e:H a=some (.ins C dx fs)):∃mA,ObjM h a dx C mA∧(∀f,pZ (fs.lookup f) (mA f))∧PySem.Within mA (fs.map (·.1))∧fs.length≤1000∧H dx=some (.own a):=by
 obtain⟨d,z,ne,ob,mA,n,r,q⟩:=(show iZ P w H h a (.ins C dx fs) from hok a _ e);exact⟨mA,⟨ob,n,ne⟩,r,q,z,d⟩
end
structure Cls (K:ak)(C:aq):Prop where
 pg:jS K C gU=true
 hd:jB K C=true
 po:PySem.W.plainOver K C=true
 sa:bW K (.ref C) "__setattr__" =some (some (.builtin "object.__setattr__"))
theorem Cls.get (c:Cls K C)(f:Str):jS K C f=true:=c.pg
def kK (K:ak)(C:aq)(f:Str):Prop:=bW K (.ref C) f=some none
theorem kK.taker {f:Str}(n:kK K C f):PySem.W.takerIn K C f=some none:=by
 unfold PySem.W.takerIn;rw[show bW K (.ref C) f=some none from n];rfl
structure pN (K:ak)(C:aq)(m:Str)(f:aq):Prop where
 at_:bW K (.ref C) m=some (some (.ref f))
 fn:PySem.W.isFn K (.ref f)=true
 kp:eQ K (.ref f)=true
section
variable {fs:List (Str×V)}{f:Str}
theorem getattr_ok {b:Bool}(I:Inv X aN σ H s)(e:H a=some (.ins C dx fs))(c:Cls X.K C)(n:kK X.K C f)(l:fs.lookup f=some v)
  (h:∀u s',Inv X aN σ H s'→jr v u→Q u s'):aY (bF X.prog X.w) A (getAttr (.ref a) f b) Q E s:=by
 obtain⟨mA,O,r,_,_,_⟩:=ins_get I.hok e;obtain⟨u,hu,ru⟩:=pZ.some_of (v:=v) (o:=mA f) (by rw[←l];exact r f);exact get_map I.kIn O (c.get f) c.hd n hu (handed_of ru) (h u _ (I.tok _) ru)
theorem rK {m:Str}{g:aq}{pl:Sem Bool}{Q:af×List af→ar→Prop}(I:Inv X aN σ H s)(e:H a=some (.ins C dx fs))(c:Cls X.K C)(k:pN X.K C m g)(l:fs.lookup m=none)
  (h:Q (.ref g,[.ref a]) s):aY (bF X.prog X.w) A (getMethod (.ref a) m pl) Q E s:=by
 obtain⟨mA,O,r,_,_,_⟩:=ins_get I.hok e;have hn:mA m=none:=pZ.none_of (by rw[←l];exact r m);exact get_meth I.kIn O (c.get m) k.at_ k.fn hn h
theorem setattr_ok {Q:Unit→ar→Prop}(I:Inv X aN σ H s)(e:H a=some (.ins C dx fs))(c:Cls X.K C)(n:kK X.K C f)(hl:fs.length<1000)(ry:jr y u)
  (h:∀s',Inv X aN σ (upd H a (.ins C dx (q0 f y fs))) s'→Q () s'):aY (bF X.prog X.w) A (setAttr (.ref a) f u) Q E s:=by
 obtain⟨mA,O,r,wi,_,ho⟩:=ins_get I.hok e;have hz:(fs.map (·.1)).length≤az:=by rw[ae,sizeLine_eq];lia
 apply set_map I.kIn O c.sa c.po n.taker c.hd wi hz λh' O' sb=>h _ ?_
 have hd:∃o,h'.get? dx=some o:=let ⟨o,_,_,e',_⟩:=O'.ns;⟨o,e'⟩;apply I.write (x:=a) (e:=dx) (by rw[e];exact True.intro) (.inr ho) (λb q hb z=>(sb.2 b hb).trans z) hd ?_;apply⟨by rw[aX O.ne];exact ho,?_,O.ne,O'.obj,_,O'.ns,λg=>?_,λg hg=>?_⟩
 ·have:=qH f y fs;lia
 ·show pZ ((q0 f y fs).lookup g) (if g=f then some u else mA g)
  rw[oo]
  by_cases q:g=f
  ·rw[rP q,rP q];exact ry
  ·rw[rO q,rO q];exact r g
 ·by_cases q:g=f
  ·rw[q];exact(nj f y fs).1
  ·apply(nj f y fs).2 g (wi g λz=>hg ?_)
   show(if g=f then some u else mA g)=none;rw[rO q];exact z
theorem Inv.made (I:Inv X aN σ H s):Inv X aN σ (upd (upd H s.heap.objs.size (.own (s.heap.objs.size+1))) (s.heap.objs.size+1) (.ins C s.heap.objs.size []))
  {s with heap:=(s.heap.push gp).push (iP C s.heap.objs.size) }:=by
 have e1:(s.heap.push gp).get? s.heap.objs.size=some gp:=aU s.heap rfl;have e2:((s.heap.push gp).push (iP C s.heap.objs.size)).get? (s.heap.objs.size+1)=some (iP C s.heap.objs.size):=by
  have:=aU (s.heap.push gp) (o:=iP C s.heap.objs.size) rfl
  rwa [eF] at this
 have e3:(s.heap.push gp).Ns s.heap.objs.size (λ_=>none):=⟨gp,#[],_,e1,rfl,(λe he=>rQ he ∅),λ_=>rfl⟩;have I1:=I.laid (a:=s.heap.objs.size) (o:= .own (s.heap.objs.size+1)) (h':=s.heap.push gp) (t':=s.toks) (λb u q=>au _ q) (aG _) ⟨_,e1⟩;apply I1.laid (a:=s.heap.objs.size+1) (o:= .ins C s.heap.objs.size []) (t':=s.toks) (λb u q=>au _ q) (Nat.le_of_eq (eF _ _)) ?_;have ne:s.heap.objs.size≠s.heap.objs.size+1:=cG (Nat.lt_succ_self _);apply⟨by rw[aX ne,aQ],cV _,ne,e2,λ_=>none,(bM.Ns1.of_empty e3).at λo q=>au _ q,λ_=>True.intro,λy hy=>rQ rfl hy⟩
theorem attr_of {f:Str}(hb:ia e f env (dY e env)=dY e env)
  (h:aY (bF prog w) A (dY e env) (λo s₁=>aY (bF prog w) A (getAttr o f true) Q E s₁) E s):aY (bF prog w) A (dY (.Attribute e f pos) env) Q E s :=
 Attribute_any_ h (by rw[arm_eval_Attribute,hb])
end
def tFld (K:ak)(ta:TE)(f:Str):TE:=λσ H Q=>ta σ H λx H1=>∃a C dx fs v,x= .ref a∧H1 a=some (.ins C dx fs)∧Cls K C∧kK K C f∧fs.lookup f=some v∧Q v H1
def sFld (K:ak)(ta tv:TE)(f:Str):TS:=λD σ H=>tv σ H λy H1=>ta σ H1 λx H2=>∃a C dx fs,x= .ref a∧H2 a=some (.ins C dx fs)∧Cls K C∧kK K C f∧fs.length<1000 ∧
 D.nx σ (upd H2 a (.ins C dx (q0 f y fs)))
section
variable {o:Expr}{f:Str}{tpos:Pos}{tv:TE}
theorem eW (he:PE X e ta)(hb:ia e f X.env (dY e X.env)=dY e X.env):PE X (.Attribute e f pos) (tFld X.K ta f):=by
 intro aN s σ H Q I h;apply attr_of hb (thn (he aN s σ H _ I h) λu s1 hz0=>?_);obtain⟨x,H1,I1,rx,a,C,dx,fs,v,ex,ea,c,n,l,q⟩:=hz0;subst ex;obtain rfl:u=af.ref a:=rx;exact getattr_ok I1 ea c n l λu' s2 I2 ru=>⟨v,H1,I2,ru,q⟩
theorem pP (ha:PE X o ta)(hv:PE X value tv)(hs:lR value (some (.Attribute o f pos')) pos.line X.env=iS false):PS X (.Assign [.Attribute o f pos'] value pos) (sFld X.K ta tv f):=by
 intro aN s σ H D I h;apply plainObj_wpAny_Assign_Attribute (thn (hv aN s σ H _ I h) λu s1 ⟨y,H1,I1,ry,q⟩=>thn (ha aN s1 σ H1 _ I1 q) λov s2 hz0=>?_) hs;obtain⟨x,H2,I2,rx,a,C,dx,fs,ex,ea,c,n,l,q2⟩:=hz0;subst ex;obtain rfl:ov=af.ref a:=rx;exact setattr_ok I2 ea c n l ry λs3 I3=>⟨σ,_,I3,q2⟩
end
section
variable {c:af}{b:Bool}
inductive TyOf (K:ak)(H:Hp):V→af→Prop where
 | non:TyOf K H .non (.type "NoneType")
 | bl (x:Bool):TyOf K H (.bl x) (.type "bool")
 | int (i:Int):TyOf K H (.int i) (.type "int")
 | str (x:Str):TyOf K H (.str x) (.type "str")
 | flt (x:UInt64):TyOf K H (.flt x) (.type "float")
 | lst {a:aq} {xs:List V} (e:H a=some (.lst xs)):TyOf K H (.ref a) (.type "list")
 | frz {a:aq} {o:Obj} {xs:List V} (e:H a=some (.frz o (.lst xs))):TyOf K H (.ref a) (.type "list")
 | tup {a:aq} {xs:List V} (e:H a=some (.tup xs)):TyOf K H (.ref a) (.type "tuple")
 | dK {a:aq} {kvs:List (Key×V)} (e:H a=some (.dK kvs)):TyOf K H (.ref a) (.type "dict")
 | dT {a:aq} {kvs:List (List Key×V)} (e:H a=some (.dT kvs)):TyOf K H (.ref a) (.type "dict")
 | ins {a C dx:aq} {fs:List (Str×V)} (e:H a=some (.ins C dx fs)) (cl:Cls K C) (ha:bW K (.ref C) "__class__" =some (some (.builtin "object.__class__")))
   (hn:PySem.W.specialIn K (.builtin "object.__class__") "__get__" =some (some (.builtin "getset_descriptor.__get__"))) (htk:PySem.W.takesIn K (.builtin "object.__class__")=some true)
   (hm:k8 K C (.type "object")=some true):TyOf K H (.ref a) (.ref C)
theorem isinst_ok {x:V}{t:af}(I:Inv X aN σ H s)(rx:jr x u)(ty:TyOf X.K H x t)(e:iC X.K t c=some b)(h:∀tk,Q (.bool b) { s with toks:=tk }) :
  aY (bF X.prog X.w) A (call (.builtin "isinstance") [u,c]) Q E s:=by
 cases ty with
 | non=>cases(show u=af.none from rx);exact fY PySem.W.kitx_none I.kIn True.intro e (λz=>nomatch z) h
 | bl y=>cases(show u=af.bool y from rx);exact fY PySem.W.kitx_bool I.kIn True.intro e (λz=>nomatch z) h
 | int i=>obtain⟨t,q⟩:=(show ∃t,u=af.int i t from rx);cases q;exact fY PySem.W.kitx_int I.kIn True.intro e (λz=>nomatch z) h
 | str y=>obtain⟨t,q⟩:=(show ∃t,u=af.str y t from rx);cases q;exact fY PySem.W.kitx_str I.kIn True.intro e (λz=>nomatch z) h
 | flt y=>obtain⟨t,q⟩:=(show ∃t,u=af.float y t from rx);cases q;exact fY PySem.W.kitx_float I.kIn True.intro e (λz=>nomatch z) h
 | @lst a xs ea =>
  cases(show u=af.ref a from rx);obtain⟨_,_,n,_,h1⟩:=(show iZ X.prog X.w H s.heap a (.lst xs) from I.hok a _ ea);exact fY PySem.W.kitx_list I.kIn ⟨_,h1,rfl⟩ e (λz=>nomatch z) h
 | @frz a ob xs ea =>
  cases(show u=af.ref a from rx);obtain⟨_,_,_,n,_,h1⟩:=(show iZ X.prog X.w H s.heap a (.frz ob (.lst xs)) from I.hok a _ ea);exact fY PySem.W.kitx_list I.kIn ⟨_,h1,rfl⟩ e (λz=>nomatch z) h
 | @tup a xs ea =>
  cases(show u=af.ref a from rx);obtain⟨_,_,_,p⟩:=(show iZ X.prog X.w H s.heap a (.tup xs) from I.hok a _ ea);obtain⟨o,h1,h2,_⟩:=p;exact fY PySem.W.kitx_tuple I.kIn ⟨o,h1,h2⟩ e (λz=>nomatch z) h
 | @dK a kvs ea =>
  cases(show u=af.ref a from rx);obtain⟨_,_,vs,_,p⟩:=(show iZ X.prog X.w H s.heap a (.dK kvs) from I.hok a _ ea);obtain⟨o,es,ep,h1,h2,_⟩:=p;exact fY PySem.W.kitx_dict I.kIn ⟨o,h1,h2.1⟩ e (λz=>nomatch z) h
 | @dT a kvs ea =>
  cases(show u=af.ref a from rx);obtain⟨_,_,xs,_,o,es,ep,h1,h2,_⟩:=(show iZ X.prog X.w H s.heap a (.dT kvs) from I.hok a _ ea);exact fY PySem.W.kitx_dict I.kIn ⟨o,h1,h2.1⟩ e (λz=>nomatch z) h
 | @ins a C dx fs ea cl ha hn htk hm =>
  cases(show u=af.ref a from rx);obtain⟨mA,O,_⟩:=ins_get I.hok ea;obtain⟨od,J,_⟩:=O.look;exact fY (PySem.W.kitx_own (cl.get _) cl.hd ha hn htk hm) I.kIn J e (λz=>nomatch z) h
end
structure kA (k:Nat)(A:cn):Prop where
 hd:A.handled=none
 dp:A.depth+3 * k+5<recursionLimit
 un:A.units+16 * k+200<cLine
theorem kA.mono (r:kA k A)(h:j≤k):kA j A:=⟨r.hd,by have:=r.dp;lia,by have:=r.un;lia⟩
theorem kA.deeper (r:kA (k+1) A)(env:Env):kA k (A.deeper env) :=
 ⟨r.hd,by have:=r.dp;show A.depth+1+3 * k+5<_;lia,by have:=r.un;show A.units+3+16 * k+200<_;lia⟩
theorem make_depth:(A.under (.builtin "type.__call__" ⟨.ref C::us,kw⟩)).depth=A.depth+1:=by
 first | rfl | simp[cn.under,Code.weight,Code.isCreation,Code.isGuard,Code.isCaller,Code.frames,Code.isFrame,guardIds]
theorem make_units:(A.under (.builtin "type.__call__" ⟨.ref C::us,kw⟩)).units=A.units+1:=by
 first | rfl | simp[cn.under,Code.cUnits,Code.frames,Code.isFrame]
theorem kA.make (r:kA (k+1) A)(C:aq)(us:List af)(kw:List (Str×af)):kA k (A.under (.builtin "type.__call__" ⟨.ref C::us,kw⟩)) :=
 ⟨r.hd,by have:=r.dp;rw[make_depth];lia,by have:=r.un;rw[make_units];lia⟩
theorem kA.depth (r:kA k A):A.depth<recursionLimit:=by have:=r.dp;lia
theorem kA.units (r:kA k A):A.units+64<cLine:=by have:=r.un;lia
theorem kA.units0 (r:kA k A):A.units<cLine:=by have:=r.un;lia
def tNil:TA:=λ_ H Q=>Q [] H
def ql (ta:TE)(tr:TA):TA:=λσ H Q=>ta σ H λx H1=>tr σ H1 λxs H2=>Q (x::xs) H2
theorem aA:PA X [] tNil:=λ_ _ _ _ H Q I h=>Calls.spliced_nil ⟨[],H,I,.nil,h⟩
theorem ah (ha:PE X e te)(hr:PA X es t)(hs:autoParam (br (e::es) X.env=(false,dY e X.env)::br es X.env) L2.au0._auto_1):PA X (e::es) (ql te t):=by
 intro pos aN s σ H Q I h;rw[hs];show aY _ _ (spliced ((false,dY e X.env)::gI pos (br es X.env))) _ _ s;apply jo (thn (ha aN s σ H _ I h) λu s1 hz0=>?_);obtain⟨x,H1,I1,r1,q1⟩:=hz0;exact thn (hr pos aN s1 σ H1 _ I1 q1) λus s2 ⟨xs,H2,I2,r2,q2⟩=>⟨x::xs,H2,I2,.cons r1 r2,q2⟩
def tTup (t:TA):TE:=λσ H Q=>t σ H λxs H1=>xs.length≤az∧∀p,H1 p=none→Q (.ref p) (upd H1 p (.tup xs))
def tLst (t:TA):TE:=λσ H Q=>t σ H λxs H1=>xs.length≤az∧∀p,H1 p=none→Q (.ref p) (upd H1 p (.lst xs))
theorem pe_tup {x1}(h:PA X es t):PE X (.Tuple es x1 pos) (tTup t):=by
 intro aN s σ H Q I hq;apply wpAny_Tuple_spliced (thn (h pos aN s σ H _ I hq) λus s1 ⟨xs,H1,I1,r,z,q⟩=>⟨by rw[←r.length];exact z,?_⟩);have hf:H1 s1.heap.objs.size=none:=I1.hok.fresh (aG _);apply⟨.ref s1.heap.objs.size,upd H1 s1.heap.objs.size (.tup xs),I1.laid (t':=s1.toks) (λb u e=>au _ e) (aG _) ?_,rfl,q _ hf⟩;exact⟨z,us,r,⟨_,aU _ rfl,rfl,rfl,ρ⟩⟩
theorem kF (h:PA X es t):PE X (.List es pos) (tLst t):=by
 intro aN s σ H Q I hq;apply wpAny_List_spliced (thn (h pos aN s σ H _ I hq) λus s1 ⟨xs,H1,I1,r,z,q⟩=>⟨by rw[←r.length];exact z,?_⟩);have hf:H1 s1.heap.objs.size=none:=I1.hok.fresh (aG _);apply⟨.ref s1.heap.objs.size,upd H1 s1.heap.objs.size (.lst xs),I1.laid (t':=s1.toks) (λb u e=>au _ e) (aG _) ?_,rfl,q _ hf⟩;exact⟨z,us,0,r,aU _ rfl⟩
abbrev Sp:=List V→Hp→VK→XK→Prop
abbrev CXT:=List Env→Hp→ar→XK→af→ar→Prop
structure Env0 (P:aK)(w:bg)(K:ak)(mg:Str→Option af)(base:bM)(A:cn)(outer:List Env)(s:ar)(H:Hp):Prop where
 frames:A.frames=some outer
 mod:Mod K mg base
 bs:∀b o,base.get? b=some o→s.heap.get? b=some o∧H b=none
 bsz:base.objs.size≤s.heap.objs.size
 funs:s.heap.FunFrames base outer
 frf:∀b∈frs outer,H b=none
 hok:HOk P w H s.heap
 bare:AllBare s.gens
def CE (outer:List Env)(P:aK)(w:bg)(H:Hp)(s:ar)(Q:VK)(u:af)(s':ar):Prop :=
 ∃v H',s'.os=s.os∧AllBare s'.gens∧Un (frs outer) [] H H' s.heap s'.heap∧HOk P w H' s'.heap∧jr v u∧Q v H'
def CR (CX:CXT)(outer:List Env)(P:aK)(w:bg)(H:Hp)(s:ar)(Q:VK)(E:XK)(r:Result)(s':ar):Prop :=
 match r with
 | .ok (.ret u)=>CE outer P w H s Q u s'
 | .ok _=>False
 | .error e=>CX outer H s E e s'
structure c9 (P:aK)(w:bg)(K:ak)(mg:Str→Option af)(base:bM)(CX:CXT)(k:Nat)(f:aq)(fd:aT)(ps:List Str)(sp:Sp):Prop where
 len:∀vs H Q E,sp vs H Q E→vs.length=ps.length
 run:∀(A:cn) (outer:List Env) (s:ar) (H:Hp) (args:Args) (us:List af) (vs:List V) (Q:VK) (E:XK),kA k A→Env0 P w K mg base A outer s H→BindsTo s fd args (ps.zip us)→ie vs us→sp vs H Q E →
  codeAny (bF P w) A (.call (.ref f) args) (CR CX outer P w H s Q E) s
theorem Env0.make (e:Env0 P w K mg base A outer s H)(C:aq)(us:List af)(kw:List (Str×af)) :
  Env0 P w K mg base (A.under (.builtin "type.__call__" ⟨.ref C::us,kw⟩)) outer s H:=⟨by first | exact e.frames | (simpa [cn.under,Code.envs,Code.isFrame,pushEnvs] using e.frames),e.mod,e.bs,e.bsz,e.funs,e.frf,e.hok,e.bare⟩
theorem Inv.env0 (I:Inv X aN σ H s):Env0 X.prog X.w X.K X.mg X.base X.A X.stack s H :=
 ⟨I.ok.frames,I.ok.mod,I.bs,cO I.ok.bsz I.sz,I.stack,I.stkFree,I.hok,I.bare⟩
theorem Inv.after {Q:VK}(I:Inv X aN σ H s)(h:CE X.stack X.prog X.w H s Q u s'):EP X aN σ Q u s':=by
 obtain⟨v,H',os,bare,un,hok,r,q⟩:=h;obtain⟨hh,g,d,t,os'⟩:=s';obtain rfl:os'=s.os:=os;exact⟨v,H',I.call (h':=hh) (g':=g) (d':=d) (t':=t) (ch:=[]) un hok bare (λb z=>rQ z ∅),r,q⟩
def tCall (sp:Sp)(dvs:List V)(E:XK)(t:TA):TE:=λσ H Q=>t σ H λvs H1=>sp (vs++dvs) H1 Q E
def tMeth (C:aq)(m:Str)(sp:Sp)(dvs:List V)(E:XK)(ta:TE)(t:TA):TE:=λσ H Q=>ta σ H λx H1=>∃a dx fs,x= .ref a∧H1 a=some (.ins C dx fs)∧fs.lookup m=none ∧
 t σ H1 λvs H2=>sp (x::(vs++dvs)) H2 Q E
def tMake (C:aq)(sp:Sp)(dvs:List V)(E:XK)(t:TA):TE:=λσ H Q=>t σ H λvs H1=>∀x dx,H1 x=none→H1 dx=none→dx≠x →
 sp (.ref x::(vs++dvs)) (upd (upd H1 dx (.own x)) x (.ins C dx [])) (λv H2=>v= .non∧Q (.ref x) H2) E
def Binds (K:ak)(fd:aT)(ps:List Str)(ds:List af):Prop :=
 ∀(s:ar) (us:List af),K.In s.heap→(us++ds).length=ps.length→BindsTo s fd ⟨us,[]⟩ (ps.zip (us++ds))
theorem Binds.all (h:∀us:List af,us.length=ps.length→bindArgs fd ⟨us,[]⟩=iS (ps.zip us)):Binds K fd ps []:=λs us _ hl=>by
 rw[cz] at hl ⊢;exact .of_eq (h us hl)
def mB (CX:CXT)(X:Cx)(E:XK):Prop:=∀(aN:List (aq×Obj)) (σ:St) (H:Hp) (s:ar) (e:af) (s':ar),Inv X aN σ H s→CX X.stack H s E e s'→X.xe e s'
section
variable {CX:CXT}{sp:Sp}{E:XK}{m:Str}{p:Pos}{o:Expr}
theorem run_fn {Q:VK}{vs:List V}(F:c9 X.prog X.w X.K X.mg X.base CX k f fd ps sp)(hr:kA k X.A)(hb:Binds X.K fd ps ds)(hd:ie dvs ds)(hx:mB CX X E)
  (I:Inv X aN σ H s) (r:ie vs us) (h:sp (vs++dvs) H Q E):aY (bF X.prog X.w) X.A (call (.ref f) us) (EP X aN σ Q) X.xe s:=by
 have r2:ie (vs++dvs) (us++ds):=r.append hd;have hl:(us++ds).length=ps.length:=by rw[←r2.length];exact F.len _ _ _ _ h
 apply kZ (kr (F.run X.A X.stack s H ⟨us,[]⟩ (us++ds) (vs++dvs) Q E hr I.env0 (hb s us I.kIn hl) r2 h) λr s' hq=>?_);cases r with
 | error e=>exact hx aN σ H s e s' I hq
 | ok fl =>
  cases fl with
  | ret u=>exact I.after hq
  | next=>exact eV hq
  | brk=>exact eV hq
  | cont=>exact eV hq
theorem pB (F:c9 X.prog X.w X.K X.mg X.base CX k f fd ps sp)(hr:kA k X.A)(hg:Gl X x)(hm:X.mg x=some (.ref f))(hk:eQ X.K (.ref f)=true)(hb:Binds X.K fd ps ds)(hd:ie dvs ds)(hx:mB CX X E)
  (ha:PA X (e::es) t) (hdb:autoParam ((x == ("__debug__" :Str))=false) L2.au1._auto_1) (he:autoParam (br (e::es) X.env=(false,dY e X.env)::br es X.env) L2.au0._auto_1) (hpl:autoParam ((gI pos (br es X.env)).any (·.1)=false) L2.au0._auto_1) :
  PE X (.Call (.Name x p) (e::es) [] pos) (tCall sp dvs E t):=by
 intro aN s σ H Q I h;apply iQ (nh I hg hm ?_ hdb);apply lU (h₀:=X.base) I.ok.mod.kin hk (thn (ha pos aN s σ H _ I h) λus s1 hz0=>?_) he hpl;obtain⟨vs,H1,I1,r,q⟩:=hz0;apply⟨I1.kIn,?_⟩;exact run_fn F hr hb hd hx I1 r q
theorem pe_call0 (F:c9 X.prog X.w X.K X.mg X.base CX k f fd ps sp)(hr:kA k X.A)(hg:Gl X x)(hm:X.mg x=some (.ref f))(hk:eQ X.K (.ref f)=true)(hb:Binds X.K fd ps ds)(hd:ie dvs ds)(hx:mB CX X E)
  (hdb:autoParam ((x == ("__debug__" :Str))=false) L2.au1._auto_1):PE X (.Call (.Name x p) [] [] pos) (tCall sp dvs E tNil):=by
 intro aN s σ H Q I h;apply iQ (nh I hg hm ?_ hdb);exact PySem.W.callWith_K0 I.kIn hk (run_fn (us:=[]) F hr hb hd hx I .nil h)
theorem eU {pl:Sem Bool}(he:PE X o ta)(c:Cls X.K C)(hm:pN X.K C m f)(F:c9 X.prog X.w X.K X.mg X.base CX k f fd ps sp)(hr:kA k X.A)(hb:Binds X.K fd ps ds)(hd:ie dvs ds)(hx:mB CX X E)(ha:PA X (e::es) t)
  (hst:autoParam (br (e::es) X.env=(false,dY e X.env)::br es X.env) L2.au0._auto_1) (hpl:autoParam ((gI pos (br es X.env)).any (·.1)=false) L2.au0._auto_1)
  (ht:autoParam (dY (.Call (.Attribute o m apos) (e::es) [] pos) X.env=(do
   let ov ← dY o X.env
   standAt apos.atName
   let (f,first) ← holding [ov] (getMethod ov m pl)
   callWith pos f first (gI pos (br (e::es) X.env)) (backToKw pos (j9 [] X.env)))) L2.au0._auto_1) :
  PE X (.Call (.Attribute o m apos) (e::es) [] pos) (tMeth C m sp dvs E ta t):=by
 intro aN s σ H Q I h;apply PySem.W.methodCall_KW (pl:=pl) (thn (he aN s σ H _ I h) λu s1 hz0=>?_) ht;obtain⟨x,H1,I1,rx,a,dx,fs,ex,ea,l,q⟩:=hz0;subst ex;obtain rfl:u=af.ref a:=rx;apply rK I1 ea c hm l ?_;apply lU (first:=[.ref a]) (h₀:=X.base) I.ok.mod.kin hm.kp (thn (ha pos aN s1 σ H1 _ I1 q) λus s2 hz0=>?_) hst hpl;obtain⟨vs,H2,I2,r,q2⟩:=hz0;apply⟨I2.kIn,?_⟩;exact run_fn (us:= .ref a::us) (vs:= .ref a::vs) F hr hb hd hx I2 (.cons rfl r) q2
theorem jd {pl:Sem Bool}(he:PE X o ta)(c:Cls X.K C)(hm:pN X.K C m f)(F:c9 X.prog X.w X.K X.mg X.base CX k f fd ps sp)(hr:kA k X.A)(hb:Binds X.K fd ps ds)(hd:ie dvs ds)(hx:mB CX X E)
  (ht:autoParam (dY (.Call (.Attribute o m apos) [] [] pos) X.env=(do
   let ov ← dY o X.env
   standAt apos.atName
   let (f,first) ← holding [ov] (getMethod ov m pl)
   callWith pos f first (gI pos (br [] X.env)) (backToKw pos (j9 [] X.env)))) L2.au0._auto_1) :
  PE X (.Call (.Attribute o m apos) [] [] pos) (tMeth C m sp dvs E ta tNil):=by
 intro aN s σ H Q I h;apply PySem.W.methodCall_KW (pl:=pl) (thn (he aN s σ H _ I h) λu s1 hz0=>?_) ht;obtain⟨x,H1,I1,rx,a,dx,fs,ex,ea,l,q⟩:=hz0;subst ex;obtain rfl:u=af.ref a:=rx;apply rK I1 ea c hm l ?_;exact PySem.W.callWith_K0 (first:=[.ref a]) I1.kIn hm.kp (run_fn (us:=[.ref a]) (vs:=[.ref a]) F hr hb hd hx I1 (.cons rfl .nil) q)
structure Mk (K:ak)(C f:aq):Prop where
 makes:PySem.W.makesIn K C=true
 init:bW K (.ref C) "__init__" =some (some (.ref f))
 fn:PySem.W.isFn K (.ref f)=true
 kp:eQ K (.ref C)=true
theorem run_make {Q:VK}{vs:List V}(M:Mk X.K C f)(F:c9 X.prog X.w X.K X.mg X.base CX k f fd ps sp)(hr:kA (k+1) X.A)(hb:Binds X.K fd ps ds)(hd:ie dvs ds)
  (hx:mB CX X E) (I:Inv X aN σ H s) (r:ie vs us)
  (h:∀x dx,H x=none→H dx=none→dx≠x→sp (.ref x::(vs++dvs)) (upd (upd H dx (.own x)) x (.ins C dx [])) (λv H2=>v= .non∧Q (.ref x) H2) E) :
  aY (bF X.prog X.w) X.A (call (.ref C) us) (EP X aN σ Q) X.xe s:=by
 have hq:=h (s.heap.objs.size+1) s.heap.objs.size (I.hok.fresh (ju _)) (I.hok.fresh (aG _)) (cG (Nat.lt_succ_self _));have I2:=Inv.made (C:=C) I;have r2:ie (V.ref (s.heap.objs.size+1)::(vs++dvs)) (af.ref (s.heap.objs.size+1)::(us++ds)):= .cons rfl (r.append hd);have hl:(af.ref (s.heap.objs.size+1)::us++ds).length=ps.length:=by
  have e:=r2.length;rw[F.len _ _ _ _ hq] at e;exact e.symm
 apply kZ (make_map (f:=f) I.kIn M.makes M.init (beq_iff_eq.mp M.fn) (kr (F.run _ X.stack _ _ ⟨af.ref (s.heap.objs.size+1)::us,[]⟩ (af.ref (s.heap.objs.size+1)::(us++ds)) _ _ E (hr.make C us [])
  (I2.env0.make C us []) (hb _ (af.ref (s.heap.objs.size+1)::us) I2.kIn hl) r2 hq) fun r s' hq'=>?_))
 cases r with
 | error e=>exact hx aN σ _ _ e s' I2 hq'
 | ok fl =>
  cases fl with
  | ret u =>
   obtain⟨v,H',I3,rv,ev,q3⟩:=I2.after hq';subst ev;exact⟨rv,⟨V.ref (s.heap.objs.size+1),H',I3,rfl,q3⟩⟩
  | next=>exact eV hq'
  | brk=>exact eV hq'
  | cont=>exact eV hq'
theorem pe_make (M:Mk X.K C f)(F:c9 X.prog X.w X.K X.mg X.base CX k f fd ps sp)(hr:kA (k+1) X.A)(hg:Gl X x)(hm:X.mg x=some (.ref C))(hb:Binds X.K fd ps ds)(hd:ie dvs ds)(hx:mB CX X E)
  (ha:PA X (e::es) t) (hdb:autoParam ((x == ("__debug__" :Str))=false) L2.au1._auto_1) (he:autoParam (br (e::es) X.env=(false,dY e X.env)::br es X.env) L2.au0._auto_1) (hpl:autoParam ((gI pos (br es X.env)).any (·.1)=false) L2.au0._auto_1) :
  PE X (.Call (.Name x p) (e::es) [] pos) (tMake C sp dvs E t):=by
 intro aN s σ H Q I h;apply iQ (nh I hg hm ?_ hdb);apply lU (h₀:=X.base) I.ok.mod.kin M.kp (thn (ha pos aN s σ H _ I h) λus s1 hz0=>?_) he hpl;obtain⟨vs,H1,I1,r,q⟩:=hz0;apply⟨I1.kIn,?_⟩;exact run_make M F hr hb hd hx I1 r q
end
structure cI (N P:List Str)(sc:Scope):Prop where
 kind:sc.kind= .function
 co:sc.isCoroutine=false
 gen:sc.isGenerator=false
 nd:N.Nodup
 pre:N.take P.length=P
 par:∀x∈P,sc.names.lookup x=some .local∨sc.names.lookup x=some .cell
 nofree:∀y∈sc.names,y.2≠ .free
theorem bindL_out {kindOf:Str→Option eO}{x:Str}:∀{binds:List (Str×af)} {m:Str→Option af},(∀v,(x,v) ∉ binds)→bindL kindOf binds m x=m x
 | [],_,_=>rfl
 | (n,v)::r,m,h=>by
  unfold bindL;rw[bindL_out λw hw=>h w (aE _ hw)];split
  ·have:x≠n:=by rintro rfl;exact h v bh
   simp[this]
  ·rfl
theorem bindC_out {kindOf:Str→Option eO}{x:Str}:∀{binds:List (Str×af)} {m:Str→Option af},(∀v,(x,v) ∉ binds)→bindC kindOf binds m x=m x
 | [],_,_=>rfl
 | (n,v)::r,m,h=>by
  unfold bindC;rw[bindC_out λw hw=>h w (aE _ hw)];split
  ·rfl
  ·have:x≠n:=by rintro rfl;exact h v bh
   simp[this]
theorem bindL_get {kindOf:Str→Option eO}{x:Str}{v:af}:∀{P:List Str} {vs:List af} {i:Nat} {m:Str→Option af},P.Nodup→P[i]? =some x→vs[i]? =some v→kindOf x=some .local →
  bindL kindOf (P.zip vs) m x=some v
 | [],_,_,_,_,h,_,_=>by simp at h
 | _::_,[],_,_,_,_,h,_=>by simp at h
 | p::P,w::vs,0,m,nd,h1,h2,hk=>by
  simp at h1 h2;subst h1;subst h2;show bindL kindOf ((p,w)::P.zip vs) m p=_;unfold bindL;rw[bindL_out λv hv=>(bP.mp nd).1 (lP hv).1,rP hk];simp
 | p::P,w::vs,i+1,m,nd,h1,h2,hk=>by
  show bindL kindOf ((p,w)::P.zip vs) m x=_;unfold bindL;exact bindL_get (i:=i) (bP.mp nd).2 (by simpa using h1) (by simpa using h2) hk
theorem bindC_get {kindOf:Str→Option eO}{x:Str}{v:af}:∀{P:List Str} {vs:List af} {i:Nat} {m:Str→Option af},P.Nodup→P[i]? =some x→vs[i]? =some v→kindOf x≠some .local →
  bindC kindOf (P.zip vs) m x=some v
 | [],_,_,_,_,h,_,_=>by simp at h
 | _::_,[],_,_,_,_,h,_=>by simp at h
 | p::P,w::vs,0,m,nd,h1,h2,hk=>by
  simp at h1 h2;subst h1;subst h2;show bindC kindOf ((p,w)::P.zip vs) m p=_;unfold bindC;rw[bindC_out λv hv=>(bP.mp nd).1 (lP hv).1,rO hk];simp
 | p::P,w::vs,i+1,m,nd,h1,h2,hk=>by
  show bindC kindOf ((p,w)::P.zip vs) m x=_;unfold bindC;exact bindC_get (i:=i) (bP.mp nd).2 (by simpa using h1) (by simpa using h2) hk
def start (N:List Str)(vs:List V):St:=vs.map some++bS (N.length - vs.length) none
def cxOf (CX:CXT)(P:aK)(w:bg)(K:ak)(mg:Str→Option af)(base:bM)(N:List Str)(qual:Str)(scope:Scope)(f:aq)(cd:af)(A:cn)(outer:List Env)(s:ar)(H:Hp)(E:XK):Cx where
 prog:=P
 w:=w
 K:=K
 mg:=mg
 base:=base
 A:=A.deeper (envOfC qual scope s.heap.objs.size f cd)
 N:=N
 s₀:=s
 H₀:=H
 env:=envOfC qual scope s.heap.objs.size f cd
 outer:=outer
 stack:=envOfC qual scope s.heap.objs.size f cd::outer
 ex:=[]
 calm:=true
 fn:=λ_=>true
 pn:=[]
 xe:=λe s'=>aY (bF P w) (A.deeper (envOfC qual scope s.heap.objs.size f cd)) (leaving (envOfC qual scope s.heap.objs.size f cd) e) (λ_ s''=>CX outer H s E e s'') (λe' s''=>CX outer H s E e' s'') s'
theorem cell_has (h:sc.names.lookup x=some .cell):∃c,(cellsFrom n sc.names []).lookup x=some c:=by
 have q:=PySem.W.cellsFrom_some sc.names n [] (.inl h);exact Option.isSome_iff_exists.mp q
theorem inv_start {CX:CXT}{s1:ar}{E:XK}{vs:List V}
  (S:cI N ps scope) (hd:A.handled=none) (e0:Env0 P w K mg base A outer s H) (hl:vs.length=ps.length) (r:ie vs us)
  (x:InCallC s s.heap.objs.size (bindL (envOfC qual scope s.heap.objs.size f cd).kindOf (ps.zip us) λ_=>none) (cellsFrom (s.heap.objs.size+1) scope.names []) (bindC (envOfC qual scope s.heap.objs.size f cd).kindOf (ps.zip us) λ_=>none) s1) :
  Inv (cxOf CX P w K mg base N qual scope f cd A outer s H E) [] (start N vs) H s1:=by
 have hpl:ps.length≤N.length:=by have:=rV jW S.pre;rw[aL] at this;lia
 obtain⟨h1,tk,rfl,hk⟩:=x.done;have noA:∀b:aq,b ∉ (cxOf CX P w K mg base N qual scope f cd A outer s H E).ex:=λb z=>rQ (show b∈([]:List aq) from z) ∅
 apply ⟨⟨e0.mod,S.kind,rfl,rfl,aG _,fun y z c h1 h2=>?_,fun y hy=>?_,fun y c _ h=>?_,fun _=>hd,cn.frames_deeper e0.frames,.inr ⟨rfl,rfl⟩,fun b z=>rQ z (noA b),e0.bs,e0.bsz,fun b _ _=>noA b,fun b z=>rQ z (noA b),e0.funs,e0.frf⟩,
  rfl,e0.bare,Un.kept hk,⟨_,x.toInCall.ns,fun i y v h1 h2 h3=>?_⟩,fun y c h=>⟨_,x.cell y c h⟩,e0.hok.fresh (aG _),fun y c h=>?_,fun p hp=>rQ (show p∈([]:List (aq×Obj)) from hp) ∅,e0.hok.kept hk,?_⟩
 ·exact name_of_addr x.apart (gz h1) (gz h2)
 ·have hy:scope.names.lookup y=some .cell∨scope.names.lookup y=some .free:=hy
  rcases hy with hy | hy
  ·exact cell_has hy
  ·exact rQ rfl (S.nofree _ (gz hy))
 ·exact Nat.le_of_lt (x.above y c (gz h))
 ·have hi:i<vs.length:=by
   unfold start at h2
   by_cases hi:i<vs.length
   ·exact hi
   ·rw[bc (by simpa using hi)] at h2
    rw[List.getElem?_replicate] at h2;split at h2 <;> cases h2
  have ha:vs[i]? =some v:=by
   unfold start at h2;rw[bI (by simpa using hi),aC] at h2;cases e:vs[i]? with
   | none=>rw[e] at h2;cases h2
   | some a=>rw[e] at h2;cases h2;rfl
  obtain⟨u,hu,rv⟩:=r.get ha;have hp:ps[i]? =some y:=by
   rw[←S.pre,cY ⋯];exact h1
  have ndP:ps.Nodup:=by rw[←S.pre];exact S.nd.sublist (List.take_sublist _ _)
  apply⟨u,rv,?_⟩
  rcases S.par y (aD hp) with k | k
  ·exact .inl ⟨k,bindL_get ndP hp hu k⟩
  ·obtain⟨c,e⟩:=cell_has (n:=s.heap.objs.size+1) k
   apply .inr ⟨.inl k,c,e,?_⟩;have q:=x.cell y c e;rw[bindC_get ndP hp hu (by show scope.names.lookup y≠_;rw[k];decide)] at q;exact q
 ·exact e0.hok.fresh (Nat.le_of_lt (x.above y c (gz h)))
 ·unfold start
  show _=N.length;rw[ao,ae,List.length_replicate];lia
theorem fn_of {CX:CXT}{params:Arguments}{dV kV doc pm cdv ct oc:af}{an:Option aq}
  {sp:Sp} (lk:K.lookup f=some ⟨oc,od,.func (gn name qual params body scope dV kV doc pm an cdv ct),osl⟩) (hcd:jL K cdv qual=true) (S:cI N ps scope)
  (len:∀vs H Q E,sp vs H Q E→vs.length=ps.length)
  (hbody:∀ (A:cn) (outer:List Env) (s:ar) (H:Hp) (vs:List V) (Q:VK) (E:XK),kA k (A.deeper (envOfC qual scope s.heap.objs.size f cdv))→sp vs H Q E →
   ∃ t,PSs (cxOf CX P w K mg base N qual scope f cdv A outer s H E) body t∧t { nx:=fun _ H'=>Q .non H',rt:=Q } (start N vs) H) :
  c9 P w K mg base CX (k+1) f (gn name qual params body scope dV kV doc pm an cdv ct) ps sp:=by
 apply⟨len,λA outer s H args us vs Q E hr e0 hb r hsp=>?_⟩;have hl:=len _ _ _ _ hsp;have KX:K.In s.heap:=e0.mod.kin.keeps λb o e=>(e0.bs b o e).1
 have lim:s.heap.NoLimit:=e0.mod.nolimit.keeps λb o e=>(e0.bs b o e).1
 have pJ:∀y∈ps.zip us,scope.names.lookup y.1=some .local∨(scope.names.lookup y.1=some .cell∧((cellsFrom (s.heap.objs.size+1) scope.names []).lookup y.1).isSome=true):=λ⟨n,v⟩ hy=>by
  rcases S.par n (lP hy).1 with q | q
  ·exact .inl q
  ·exact .inr ⟨q,PySem.W.cellsFrom_some _ _ _ (.inl q)⟩
 apply codeAny_call_function hr.depth (KX _ _ lk) rfl S.co S.gen rfl (PySem.W.codeRec_of KX hcd) (hb _ _ _ _ ?_);apply wpAny_newFunctionEnv_cells S.kind pJ λenv he s1 x=>?_
 subst he;apply⟨lim.keeps x.toInCall.keep,codeAny_func ?_⟩;obtain⟨t,ht,hq⟩:=hbody A outer s H vs Q E (hr.deeper _) hsp;have I:Inv (cxOf CX P w K mg base N qual scope f cdv A outer s H E) [] (start N vs) H s1:=inv_start S hr.hd e0 hl r x;apply dG (ht [] s1 (start N vs) H _ I hq) (λfl s' hs=>?_) λe s' hs=>hs
 have fin:∀{σ':St} {H':Hp} {v:V} {u:af},Inv (cxOf CX P w K mg base N qual scope f cdv A outer s H E) [] σ' H' s'→jr v u→Q v H'→CE outer P w H s Q u s' :=
  λ{σ' H' v u} J rv q=>⟨v,H',J.os,J.bare,J.base,J.hok,rv,q⟩
 cases fl with
 | ret u =>
  obtain⟨v,σ',H',J,rv,q⟩:=hs;exact fin J rv q
 | next =>
  obtain⟨σ',H',J,q⟩:=hs;exact fin (v:=V.non) (u:=af.none) J rfl q
 | brk =>
  obtain⟨_,_,_,q⟩:=hs;exact eV q
 | cont =>
  obtain⟨_,_,_,q⟩:=hs;exact eV q
section
variable {p:Pos}{id:String}{r:List V→Hp→VK→Prop}
def tCB (r:List V→Hp→VK→Prop)(t:TA):TE:=λσ H Q=>t σ H λvs H1=>r vs H1 Q
theorem cu (hc:jU X (.builtin id) r)(hg:Gl X x)(hm:X.mg x=none)(hv:bootBuiltins x=some (.builtin id))(ha:PA X (e::es) t)(hn:autoParam (x ≠ "__name__") L2.au1._auto_1)(hdb:autoParam ((x == ("__debug__" :Str))=false) L2.au1._auto_1)
  (he:autoParam (br (e::es) X.env=(false,dY e X.env)::br es X.env) L2.au0._auto_1) (hpl:autoParam ((gI pos (br es X.env)).any (·.1)=false) L2.au0._auto_1):PE X (.Call (.Name x p) (e::es) [] pos) (tCB r t):=by
 intro aN s σ H Q I h;apply iQ (oS I hg hm hv ?_ hn hdb);exact PyProof.Rows.callWith_builtin1 (thn (ha pos aN s σ H _ I h) λus s1 ⟨vs,H1,I1,r1,q1⟩=>hc aN s1 σ H1 vs us Q I1 r1 q1) he hpl
theorem gk (hc:jU X (.type T) r)(hg:Gl X x)(hm:X.mg x=none)(hv:bootBuiltins x=some (.type T))(ha:PA X (e::es) t)(hn:autoParam (x ≠ "__name__") L2.au1._auto_1)(hdb:autoParam ((x == ("__debug__" :Str))=false) L2.au1._auto_1)
  (he:autoParam (br (e::es) X.env=(false,dY e X.env)::br es X.env) L2.au0._auto_1) (hpl:autoParam ((gI pos (br es X.env)).any (·.1)=false) L2.au0._auto_1):PE X (.Call (.Name x p) (e::es) [] pos) (tCB r t):=by
 intro aN s σ H Q I h;apply iQ (oS I hg hm hv ?_ hn hdb);exact eT (thn (ha pos aN s σ H _ I h) λus s1 ⟨vs,H1,I1,r1,q1⟩=>hc aN s1 σ H1 vs us Q I1 r1 q1) he hpl
end
end L2
variable {CW:L2.St→L2.VK→L2.It→L2.Hp→Prop}{CX:L2.CXT}{g:L2.TG}{sp:L2.Sp}{tb:L2.TS}{wi:L2.TI}
namespace HT
open PySem PyProof.Rows
theorem cat_tup {t b:aq}{ws:List af}(ht:IsTup s.heap t vs.toArray)(hb:IsTup s.heap b ws.toArray)(hv:vs≠[])
  (h1:ws=[]→Q (.ref t) s) (h2:ws≠[]→Q (.ref s.heap.objs.size) { s with heap:=s.heap.push { cls:= .type "tuple",data:= .seq (vs++ws).toArray } })
  (hsz:vs.length+ws.length≤az):aY (bF prog w) A (iH .Add (.ref t) (.ref b)) Q E s:=by
 obtain⟨⟨cls,dd,data,sl⟩,ho,hc,n,hd⟩:=id ht;obtain⟨⟨cls2,dd2,data2,sl2⟩,ho2,hc2,n2,hd2⟩:=id hb;simp only at hc hd hc2 hd2;subst hc hd hc2 hd2;have e:vs.toArray++ws.toArray=(vs++ws).toArray:=by simp
 by_cases hw:ws=[]
 ·exact concat_meets ⟨_,ho,rfl⟩ ⟨_,ho2,rfl⟩ noFill_tuple_add seq_tuple_add PySem.F.slot_tuple_add mM (mx _ _)
   (tuple_addW1 t b vs.toArray ws.toArray n n2 dd dd2 sl sl2 (by simpa using hv) (by simp[hw])) ⟨ho,ho2,h1 hw⟩
 ·apply concat_meets ⟨_,ho,rfl⟩ ⟨_,ho2,rfl⟩ noFill_tuple_add seq_tuple_add PySem.F.slot_tuple_add mM (mx _ _)
   (tuple_addW2 t b vs.toArray ws.toArray n n2 dd dd2 sl sl2 (by simpa using hv) (by simpa using hw) (by rw[aH,aH];exact hsz)) ⟨ho,ho2,?_⟩
  rw[e];exact h2 hw
def sIx (n d:Nat):Option Int→Nat
 | none=>d
 | some v=>if v<0 then (v+(n:Int)).toNat else min v.toNat n
theorem sIx_nat (n d k:Nat):sIx n d (some (k:Int))=min k n:=by
 show(if (k:Int)<0 then ((k:Int)+(n:Int)).toNat else min (k:Int).toNat n)=min k n;rw[rO ⋯,ff]
theorem sIx_le (n d:Nat)(hd:d≤n)(o:Option Int):sIx n d o≤n:=by
 cases o with
 | none=>exact hd
 | some v =>
  show(if v<0 then (v+(n:Int)).toNat else min v.toNat n)≤n
  by_cases hv:v<0
  ·rw[rP hv];lia
  ·rw[rO hv];exact Nat.min_le_right _ _
theorem clip_eq (v:Int)(n d:Nat):(if v<0 then max (v+(n:Int)) 0 else min v (n:Int))=((sIx n d (some v):Nat):Int):=by
 show(if v<0 then max (v+(n:Int)) 0 else min v (n:Int))=(((if v<0 then (v+(n:Int)).toNat else min v.toNat n):Nat):Int)
 by_cases hv:v<0
 ·simp only[rP hv];lia
 ·simp only[rO hv];lia
theorem adjust_gen (lo hi:Option Int)(n:Nat):lH lo hi 1 (n:Int)=(((sIx n 0 lo:Nat):Int),((sIx n n hi:Nat):Int)):=by
 have h1:¬((1:Int)<0):=by lia
 unfold lH;simp only[h1,if_false];apply Prod.ext ?_ ?_
 ·cases lo with
  | none=>rfl
  | some v=>exact clip_eq v n 0
 ·cases hi with
  | none=>rfl
  | some v=>exact clip_eq v n n
theorem places_gen (i j:Nat):jC (i:Int) (j:Int) 1=j - i:=by
 unfold jC;have h1:(1:Int) > 0:=by lia
 simp only[h1,if_true,Int.ediv_one];split <;> lia
theorem rm {v:af}{o:Option Int}{Q:Option Int→ar→Prop}(p:IsPart v o)(h:Q o s):aY (bF prog w) A (dC.Slice.slicePartIndex v) Q E s:=by
 cases p with
 | none=>exact slicePart_none h
 | int i t=>exact slicePart_int h
theorem pX {sl:aq}{vl vu:af}{lo hi:Option Int}{Q:Int×Int×Nat→ar→Prop}(hs:s.heap.IsSliceOf sl vl vu .none)(pl:IsPart vl lo)(pu:IsPart vu hi)
  (h:Q (((sIx n 0 lo:Nat):Int),1,sIx n n hi - sIx n 0 lo) s):aY (bF prog w) A (dC.Slice.sliceApplied (.ref sl) (iS (n:Int))) Q E s:=by
 obtain⟨os,hos,hcs,hds⟩:=id hs;unfold dC.Slice.sliceApplied dC.Slice.sliceFields;apply aj (aj (cT hos hds (x:=vl) rfl (aj (cT hos hds (x:=vu) rfl (aj (cT hos hds (x:= .none) rfl (aJ ?_)))))));apply aj (slicePart_none ?_);show aY _ _ (if ((1:Int) == 0)=true then _ else _) _ _ s;rw[rO ↥0];apply aj (rm pl (aj (rm pu (aj (aJ ?_)))));show aY _ _ (match lH lo hi 1 (n:Int) with | (lo,hi)=>iS (lo,(1:Int),jC lo hi 1)) _ _ s;rw[adjust_gen lo hi n];show aY _ _ (iS (((sIx n 0 lo:Nat):Int),(1:Int),jC ((sIx n 0 lo:Nat):Int) ((sIx n n hi:Nat):Int) 1)) _ _ s;rw[places_gen];exact aJ h
theorem pick_gen (xs:Array af)(i k:Nat):((c7 k).filterMap λ(m:Nat)=>xs[((i:Int)+(m:Int) * 1).toNat]?).toArray=((xs.toList.drop i).take k).toArray:=by
 have e:(λ(m:Nat)=>xs[((i:Int)+(m:Int) * 1).toNat]?)=λm=>xs[i+m]? := by
  funext m
  have:((i:Int)+(m:Int) * 1).toNat=i+m:=by lia
  rw[this]
 rw[e];have:=pick_run xs i k;rw[List.filterMap_map] at this;have e2:((λx=>xs[x]?) ∘ λx=>i+x)=λm=>xs[i+m]? := rfl
 rw[e2] at this;rw[this]
theorem getItem_tuple_cut {t sl:aq}{vl vu:af}{lo hi:Option Int}(ht:IsTup s.heap t items)(hs:s.heap.IsSliceOf sl vl vu .none)(pl:IsPart vl lo)(pu:IsPart vu hi)
  (hw:¬(sIx items.size 0 lo=0∧sIx items.size items.size hi=items.size))
  (h:Q (.ref s.heap.objs.size) { s with heap:=s.heap.push { cls:= .type "tuple",data:= .seq ((items.toList.drop (sIx items.size 0 lo)).take (sIx items.size items.size hi - sIx items.size 0 lo)).toArray } })
  (hsz:items.size≤az):aY (bF prog w) A (getItem (.ref t) (.ref sl)) Q E s:=by
 have htake:sizeOk (.seq ((items.toList.drop (sIx items.size 0 lo)).take (sIx items.size items.size hi - sIx items.size 0 lo)).toArray):=by
  show((items.toList.drop (sIx items.size 0 lo)).take (sIx items.size items.size hi - sIx items.size 0 lo)).toArray.size≤az;rw[aH,aL,bD,gG];lia
 have hj:sIx items.size items.size hi≤items.size:=sIx_le _ _ (aG _) hi;obtain⟨os,hos,hcs,hds⟩:=id hs;have hTs:s.TypeIs (.ref sl) "slice" := ⟨os,hos,hcs⟩;unfold getItem
 try with_reducible apply hI ?_
 first | apply aj (aJ ?_) | skip
 apply aj (wpAny_sequenceKey ht.typeIs ↥0 ?_);apply aj (gr (name:=ax "__getitem__") ht.typeIs PyProof.Rows.slot_tuple_getitem
  (jw PyProof.Rows.slot_tuple_getitem ht.typeIs entry_tuple_getitem ?_ (args_tuple_getitem _ _)))
 show aY _ _ (dC.Tuple.tupleItemsOf (.ref t) >>= _) _ _ s;apply aj (tupleItemsOf_ ht ?_);apply aj (wpAny_typeOf hTs ?_);rw[rP ↥0];apply aj (pX hs pl pu ?_);have hno:¬((((sIx items.size 0 lo:Nat):Int) == 0 && (1:Int) == 1 && (sIx items.size items.size hi - sIx items.size 0 lo) == items.size)=true):=by
  intro q;rw[cv,cv] at q;have q1:((sIx items.size 0 lo:Nat):Int)=0:=eq_of_beq q.1.1;have q2:sIx items.size items.size hi - sIx items.size 0 lo=items.size:=eq_of_beq q.2;exact hw ⟨⋯,⋯⟩
 show aY _ _ (if (((sIx items.size 0 lo:Nat):Int) == 0 && (1:Int) == 1 && (sIx items.size items.size hi - sIx items.size 0 lo) == items.size)=true then _ else _) _ _ s;rw[rO hno,pick_gen]
 first
  | exact aj (m:=jN _) (gM (aJ ⟨_,rfl,aJ h⟩) htake)
  | exact aj (m:=jN _) (gM (aj (aJ (aJ ⟨_,rfl,aJ h⟩))) htake)
  | exact aj (aj (m:=jN _) (gM (aJ (aJ ⟨_,rfl,aJ h⟩)) htake))
  | exact aj (aj (m:=jN _) (gM (aJ ⟨_,rfl,aJ h⟩) htake))
end HT
namespace L2
open PySem PySem.Spec PyProof.Rows
abbrev TO:=St→Hp→(Option Int→Hp→Prop)→Prop
def PO (X:Cx)(e:Option Expr)(t:TO):Prop :=
 ∀(aN:List (aq×Obj)) (s:ar) (σ:St) (H:Hp) (Q:Option Int→Hp→Prop),Inv X aN σ H s→t σ H Q →
  aY (bF X.prog X.w) X.A (evalPart e X.env) (λu s'=>∃o H',Inv X aN σ H' s'∧IsPart u o∧Q o H') X.xe s
def tNoPart:TO:=λ_ H Q=>Q none H
def tPart (t:TE):TO:=λσ H Q=>t σ H λx H1=>∃i,x= .int i∧Q (some i) H1
section
variable {lo hi:Option Expr}{tl th:TO}
theorem gW:PO X none tNoPart:=by
 intro aN s σ H Q I h;rw[evalPart_none];exact aJ ⟨none,H,I,.none,h⟩
theorem fV (h:PE X e te):PO X (some e) (tPart te):=by
 intro aN s σ H Q I hw;rw[evalPart_some];apply thn (h aN s σ H _ I hw) λu s1 hz0=>?_
 obtain⟨x,H1,I1,r1,q1⟩:=hz0;obtain⟨i,rfl,q⟩:=q1;obtain⟨t,rfl⟩:=r1;exact⟨some i,H1,I1,.int i t,q⟩
def SlR (X:Cx)(r:V→Option Int→Option Int→Hp→VK→Prop):Prop :=
 ∀(aN:List (aq×Obj)) (s:ar) (σ:St) (H:Hp) (x:V) (v vl vu:af) (lo hi:Option Int) (sl:aq) (Q:VK),Inv X aN σ H s→jr x v→s.heap.IsSliceOf sl vl vu .none→IsPart vl lo→IsPart vu hi→r x lo hi H Q →
  ∃T id,typeLookup (.type T) "__getitem__" =iS (some (.builtin id))∧s.TypeIs v T∧aY (bF X.prog X.w) X.A (getItem v (.ref sl)) (EP X aN σ Q) X.xe s
def tSl (r:V→Option Int→Option Int→Hp→VK→Prop)(te:TE)(tl th:TO):TE:=λσ H Q=>te σ H λx H1=>tl σ H1 λl H2=>th σ H2 λu H3=>r x l u H3 Q
theorem fe {r:V→Option Int→Option Int→Hp→VK→Prop}(hr:SlR X r)(he:PE X e te)(hl:PO X lo tl)(hu:PO X hi th):PE X (.Subscript e (.Slice lo hi none p2) pos) (tSl r te tl th):=by
 intro aN s σ H Q I h;apply Subscript_ (thn (he aN s σ H _ I h) λv s1 hz0=>?_);obtain⟨x,H1,I1,r1,q1⟩:=hz0;apply wpAny_Slice (thn (hl aN s1 σ H1 _ I1 q1) λvl s2 ⟨l,H2,I2,pl,q2⟩=>thn (hu aN s2 σ H2 _ I2 q2) λvu s3 hz0=>?_);obtain⟨u,H3,I3,pu,q3⟩:=hz0;rw[evalPart_none];apply aJ ?_;have I4:Inv X aN σ H3 { s3 with heap:=s3.heap.push { cls:= .type "slice",data:= .fields #[vl,vu,.none] } }:=I3.kept (t':=s3.toks) λb ob q=>au _ q
 obtain⟨T,id,hT,ht,hg⟩:=hr aN { s3 with heap:=s3.heap.push { cls:= .type "slice",data:= .fields #[vl,vu,.none] } } σ H3 x v vl vu l u s3.heap.objs.size Q I4 r1 (bM.IsSliceOf.new ..) pl pu q3;show aY (bF X.prog X.w) X.A (subscriptTail e (.Slice lo hi none p2) v (.ref s3.heap.objs.size)) (EP X aN σ Q) X.xe { s3 with heap:=s3.heap.push { cls:= .type "slice",data:= .fields #[vl,vu,.none] } };exact tail_any (ops:=[.ref s3.heap.objs.size,v]) ht hT hg (by with_unfolding_all rfl)
def cutV (xs:List V)(lo hi:Option Int):List V:=(xs.drop (HT.sIx xs.length 0 lo)).take (HT.sIx xs.length xs.length hi - HT.sIx xs.length 0 lo)
theorem qT (xs:List V)(lo hi:Option Int):(cutV xs lo hi).length≤xs.length:=by
 unfold cutV;rw[aL,bD];lia
def rSlT (K:ak):V→Option Int→Option Int→Hp→VK→Prop:=λx lo hi H Q=>∃a xs,x= .ref a∧SqT K H a xs ∧
 ¬(HT.sIx xs.length 0 lo=0∧HT.sIx xs.length xs.length hi=xs.length)∧∀p,H p=none→Q (.ref p) (upd H p (.tup (cutV xs lo hi)))
theorem sl_tup:SlR X (rSlT X.K):=by
 intro aN s σ H x v vl vu lo hi sl Q I rx hs pl pu h;obtain⟨a,xs,rfl,hx,hw,q⟩:=h;cases rx;obtain⟨its,r,ht,hz⟩:=I.tuple hx;have hlen:its.toArray.size=xs.length:=by rw[aH];exact r.length.symm
 apply⟨"tuple",_,PyProof.Rows.slot_tuple_getitem.lookup,ht.typeIs,?_⟩;apply HT.getItem_tuple_cut ht hs pl pu (by rw[hlen];exact hw) ?_ (by rw[hlen];exact hz);rw[hlen];apply⟨.ref s.heap.objs.size,_,I.laid (t':=s.toks) (o:= .tup (cutV xs lo hi)) (λb ob q=>au _ q) (aG _) ?_,rfl,q _ (I.hok.fresh (aG _))⟩;exact⟨cO (qT xs lo hi) hz,_,(r.drop (HT.sIx xs.length 0 lo)).take (HT.sIx xs.length xs.length hi - HT.sIx xs.length 0 lo),mQ.new _ _⟩
inductive rCatT (K:ak)(x:V)(y:V)(H:Hp)(Q:VK):Prop
 | mk (a b xs ys:_)(_:x= .ref a)(_:y= .ref b)(_:SqT K H a xs)(_:SqT K H b ys)(_:xs≠[])(_:xs.length+ys.length≤az)(_:(ys=[]→Q (.ref a) H))(_:(ys≠[]→∀p,H p=none→Q (.ref p) (upd H p (.tup (xs++ys)))))
theorem ie.nil_iff (r:ie xs us):us=[]↔xs=[]:=by
 cases r with
 | nil=>simp
 | cons _ _=>simp
theorem op_catT:OpR X (iH .Add) (rCatT X.K):=by
 intro aN s σ H x y v u Q I rx ry h;obtain⟨a,b,xs,ys,rfl,rfl,ha,hb,hx,hz,q1,q2⟩:=h;cases rx;cases ry;obtain⟨its,r1,p1,_⟩:=I.tuple ha;obtain⟨its2,r2,p2,_⟩:=I.tuple hb;apply HT.cat_tup p1 p2 (λz=>hx (r1.nil_iff.mp z)) (λz=>⟨.ref a,H,I,rfl,q1 (r2.nil_iff.mp z)⟩) (λz=>?_) (by rw[←r1.length,←r2.length];exact hz);apply⟨.ref s.heap.objs.size,_,I.laid (t':=s.toks) (o:= .tup (xs++ys)) (λb ob q=>au _ q) (aG _) ?_,rfl,q2 (λw=>z (r2.nil_iff.mpr w)) _ (I.hok.fresh (aG _))⟩;exact⟨by rw[ao];exact hz,_,r1.append r2,mQ.new _ _⟩
end
def ixN (n:Nat)(i:Int):Option Nat:=if 0≤i then (if i<n then some i.toNat else none) else if -(n:Int)≤i then some (i+n).toNat else none
def atI {α:Type}(xs:List α)(i:Int):Option α:=(ixN xs.length i).bind λj=>xs[j]?
theorem ixN_seq {i:Int}(h:ixN n i=some j):seqIndex? i n=some j∧j<n∧ -(n:Int)≤i∧i<n:=by
 unfold ixN at h
 by_cases h0:0≤i
 ·rw[rP h0] at h
  by_cases h1:i<n
  ·rw[rP h1] at h
   have e:i.toNat=j:=bU h;exact⟨by rw[seqIndex_of h0 h1,e],⋯,⋯,h1⟩
  ·rw[rO h1] at h;cases h
 ·rw[rO h0] at h
  by_cases h1: -(n:Int)≤i
  ·rw[rP h1] at h
   have e:(i+n).toNat=j:=bU h;exact⟨by rw[seqIndex_neg ⋯ h1,e],⋯,h1,⋯⟩
  ·rw[rO h1] at h;cases h
theorem atI_get {xs:List α}{i:Int}{v:α}(h:atI xs i=some v):∃j,seqIndex? i xs.length=some j∧xs[j]? =some v∧j<xs.length∧ -(xs.length:Int)≤i∧i<xs.length:=by
 unfold atI at h;cases e:ixN xs.length i with
 | none=>rw[e] at h;cases h
 | some j =>
  rw[e] at h;obtain⟨h1,h2,h3,h4⟩:=ixN_seq e;exact⟨j,h1,h,h2,h3,h4⟩
theorem aP {xs:List α}{v:α}(h:xs[j]? =some v):atI xs (j:Int)=some v:=by
 have hj:j<xs.length:=(ai.mp h).1;have e:ixN xs.length (j:Int)=some j:=by
  unfold ixN;rw[rP ⋯,rP ⋯];simp
 unfold atI;rw[e];exact h
def PlainIx (b:Expr):Prop:=∀o i,subscripted b false o i=operate [o,i] (getItem o i)
def IxR (X:Cx)(r:R2):Prop :=
 ∀(value slice:Expr) (aN:List (aq×Obj)) (s:ar) (σ:St) (H:Hp) (x y:V) (v u:af) (Q:VK),Inv X aN σ H s→jr x v→jr y u→r x y H Q →
  subscripted slice false v u=operate [v,u] (getItem v u)→aY (bF X.prog X.w) X.A (subscriptTail value slice v u) (EP X aN σ Q) X.xe s
def MtR (X:Cx)(id:String)(r:V→List V→Hp→VK→Prop):Prop :=
 ∀(aN:List (aq×Obj)) (s:ar) (σ:St) (H:Hp) (x:V) (xs:List V) (v:af) (us:List af) (Q:VK),Inv X aN σ H s→jr x v→ie xs us→r x xs H Q →
  aY (bF X.prog X.w) X.A (call (.builtin id) (v::us)) (EP X aN σ Q) X.xe s
section
variable {a b:Expr}{tb:TE}
theorem fj {r:R2}(hr:IxR X r)(ha:PE X a ta)(hb:PE X b tb)(hs:PlainIx b):PE X (.Subscript a b pos) (tOp r ta tb):=by
 intro aN s σ H Q I h;exact Subscript_ (binT ha hb I h λv u s2 x y H2 I2 rx ry q=>hr a b aN s2 σ H2 x y v u Q I2 rx ry q (hs _ _))
inductive rIxL (K:ak)(x:V)(y:V)(H:Hp)(Q:VK):Prop
 | mk (p xs i v:_)(_:x= .ref p)(_:y= .int i)(_:SqL K H p xs)(_:atI xs i=some v)(_:Q v H)
inductive rIxT (K:ak)(x:V)(y:V)(H:Hp)(Q:VK):Prop
 | mk (p xs i v:_)(_:x= .ref p)(_:y= .int i)(_:SqT K H p xs)(_:atI xs i=some v)(_:Q v H)
inductive rIxS (x:V)(y:V)(H:Hp)(Q:VK):Prop
 | mk (z i c:_)(_:x= .str z)(_:y= .int i)(_:z.length≤az)(_:atI z.cps.toList i=some c)(_:Q (.str ⟨#[c]⟩) H)
theorem bV:IxR X (rIxL X.K):=by
 intro value slice aN s σ H x y v u Q I rx ry h hs;obtain⟨p,xs,i,z,rfl,rfl,hq,he,q⟩:=h;cases rx;obtain⟨t,rfl⟩:=ry;obtain⟨its,r,pl,hz⟩:=I.list hq;obtain⟨j,h1,h2,h3,h4,h5⟩:=atI_get he;obtain⟨w,ew,rw'⟩:=r.get h2;have hl:=r.length;have hn:=rJ;have fin:EP X aN σ Q w s:=⟨z,H,I,rw',q⟩
 by_cases h0:0≤i
 ·have hj:i.toNat=j:=by
   rw[seqIndex_of h0 h5] at h1;exact bU h1
  exact item_listR pl.isList h0 ⋯ (by rw[hj];simpa using ew) fin hs
 ·have hj:(i+(its.toArray.size:Int)).toNat=j:=by
   rw[seqIndex_neg ⋯ h4] at h1;rw[aH,←hl];exact bU h1
  exact subscriptTail_builtinR (x:=w) pl.isList.typeIs nH.lookup
   (wpAny_getItem_list_neg (Q:=λr s'=>r=w∧EP X aN σ Q r s') pl.isList ⋯ (by rw[aH] <;> lia) ⋯ (by rw[hj];simpa using ew) ⟨rfl,fin⟩) hs
theorem ix_tup:IxR X (rIxT X.K):=by
 intro value slice aN s σ H x y v u Q I rx ry h hs;obtain⟨p,xs,i,z,rfl,rfl,hq,he,q⟩:=h;cases rx;obtain⟨t,rfl⟩:=ry;obtain⟨its,r,pl,hz⟩:=I.tuple hq;obtain⟨j,h1,h2,h3,h4,h5⟩:=atI_get he;obtain⟨w,ew,rw'⟩:=r.get h2;have hl:=r.length;have hn:=rJ;have fin:EP X aN σ Q w s:=⟨z,H,I,rw',q⟩;exact subscriptTail_builtinR (x:=w) pl.typeIs slot_tuple_getitem.lookup
  (getItem_tuple (j:=j) (Q:=λr s'=>r=w∧EP X aN σ Q r s') pl ⋯ ⋯ (by rw[aH,←hl];exact h1) (by simpa using ew) ⟨rfl,fin⟩) hs
theorem ix_str:IxR X rIxS:=by
 intro value slice aN s σ H x y v u Q I rx ry h hs;obtain⟨z,i,c,rfl,rfl,hz,he,q⟩:=h;obtain⟨t,rfl⟩:=rx;obtain⟨t',rfl⟩:=ry;obtain⟨j,h1,h2,h3,h4,h5⟩:=atI_get he;have hl:z.cps.toList.length=z.length:=by simp[Str.length]
 rw [hl] at h1 h4 h5;have hn:=rJ;exact tail_any (typeIs_str s z t) slot_str_getitem.lookup (getItem_str (c:=c) (by
  have e1:decide (i< -(2 ^ 63:Int))=false:=rS ⋯;have e2:decide (i ≥ 2 ^ 63)=false:=rS ⋯;rw [e1,e2,Bool.or_false]) (by rw [h1];simpa using h2) ⟨.str ⟨#[c]⟩,H,I.tok _,⟨_,rfl⟩,q⟩) hs
theorem mapSeq_set (its:List af)(n j:Nat)(u:af):Obj.mapSeq (·.setIfInBounds j u) { cls:= .type "list",data:= .seq its.toArray n }={ cls:= .type "list",data:= .seq (its.set j u).toArray n }:=by
 simp[Obj.mapSeq]
theorem Inv.lst {aN:List (aq×Obj)}{σ:St}{H:Hp}{s:ar}{p:aq}{xs:List V}(I:Inv X aN σ H s)(h:H p=some (.lst xs)) :
  ∃(its:List af) (n:Nat),ie xs its∧s.heap.get? p=some { cls:= .type "list",data:= .seq its.toArray n }∧xs.length≤az:=by
 obtain⟨z,its,n,r,e⟩:=I.hok p _ h;exact⟨its,n,r,e,z⟩
theorem Inv.lstUpd {its':List af}{n':Nat}{f:Obj→Obj}(I:Inv X aN σ H s)(h:H p=some (.lst xs))
  (ho:s.heap.get? p=some { cls:= .type "list",data:= .seq its.toArray n }) (hf:f { cls:= .type "list",data:= .seq its.toArray n }={ cls:= .type "list",data:= .seq its'.toArray n' }) (r:ie ys its') (hz:ys.length≤az) (t:Nat) :
  Inv X aN σ (upd H p (.lst ys)) { s with heap:=s.heap.update p f,toks:=t }:=by
 have e:(s.heap.update p f).get? p=some { cls:= .type "list",data:= .seq its'.toArray n' }:=by
  rw[gP f ho (by rw[hf] <;> rfl),hf]
 apply I.write (x:=p) (e:=p) (by rw[h];trivial) (.inl rfl) (λb u hb q=>(gC _ _ (cQ hb)).trans q) ⟨_,e⟩ ?_;exact⟨hz,its',n',r,e⟩
def rSetL:V→V→V→Hp→(Hp→Prop)→Prop:=λo i v H Q=>∃p xs k j,o= .ref p∧i= .int k∧H p=some (.lst xs)∧ixN xs.length k=some j∧Q (upd H p (.lst (xs.set j v)))
theorem set_list:PSet X rSetL:=by
 intro aN s σ H o i v ov iv u Q I ro ri rv h;obtain⟨p,xs,k,j,rfl,rfl,hp,hj,q⟩:=h;cases ro;obtain⟨t,rfl⟩:=ri;obtain⟨its,n,r,ho,hz⟩:=I.lst hp;obtain⟨h1,h2,h3,h4⟩:=ixN_seq hj;have hl:=r.length;have hn:=rJ;have I':Inv X aN σ (upd H p (.lst (xs.set j v))) { s with heap:=s.heap.update p (Obj.mapSeq (·.setIfInBounds j u)) } :=
  I.lstUpd hp ho (mapSeq_set its n j u) (r.set rv j) (by rw[iU];exact hz) s.toks
 by_cases h0:0≤k
 ·have hk:k.toNat=j:=by
   rw[seqIndex_of h0 h4] at h1;exact bU h1
  exact PySem.W.ki_setAt ho h0 ⋯ (by rw[aH,←hl];exact h4) (by rw[hk];exact⟨_,I',q⟩)
 ·have hk:(k+(its.toArray.size:Int)).toNat=j:=by
   rw[seqIndex_neg ⋯ h3] at h1;rw[aH,←hl];exact bU h1
  exact PySem.W.ki_setBack ho ⋯ (by rw[aH,←hl];exact h3) ⋯ (by rw[hk];exact⟨_,I',q⟩)
theorem slice_bounds (lo hi:Option Int)(n:Nat):(j8 lo hi none n).1=((HT.sIx n 0 lo:Nat):Int)∧(j8 lo hi none n).2.1=((HT.sIx n n hi:Nat):Int)∧(j8 lo hi none n).2.2=1:=by
 apply⟨?_,?_,rfl⟩
 ·cases lo with
  | none=>simp[j8,HT.sIx]
  | some i =>
   simp only[j8,HT.sIx,Option.getD_none,show(1:Int) > 0 by decide,if_true]
   by_cases h:i<0
   ·simp only[h,if_true] <;> lia
   ·simp only[h,if_false] <;> lia
 ·cases hi with
  | none=>simp[j8,HT.sIx]
  | some i =>
   simp only[j8,HT.sIx,Option.getD_none,show(1:Int) > 0 by decide,if_true]
   by_cases h:i<0
   ·simp only[h,if_true] <;> lia
   ·simp only[h,if_false] <;> lia
theorem slicePick_cut (its:List af)(lo hi:Option Int):slicePick its.toArray lo hi none=((its.drop (HT.sIx its.length 0 lo)).take (HT.sIx its.length its.length hi - HT.sIx its.length 0 lo)).toArray:=by
 obtain⟨h1,h2,h3⟩:=slice_bounds lo hi its.toArray.size;unfold slicePick;rw[h1,h2,h3];simp only[sliceRange_one,pick_run,aH] <;> rfl
def rSlL (K:ak):V→Option Int→Option Int→Hp→VK→Prop:=λx lo hi H Q=>∃a xs,x= .ref a∧SqL K H a xs∧∀p,H p=none→Q (.ref p) (upd H p (.lst (cutV xs lo hi)))
theorem sl_list:SlR X (rSlL X.K):=by
 intro aN s σ H x v vl vu lo hi sl Q I rx hs pl pu h;obtain⟨a,xs,rfl,hx,q⟩:=h;cases rx;obtain⟨its,r,ht,hz⟩:=I.list hx;have hlen:=r.length;apply⟨"list",_,nH.lookup,ht.isList.typeIs,?_⟩;apply nU ht.isList hs pl pu .none ∅ ?_ (by rw[aH] <;> lia);rw[slicePick_cut,←hlen];apply⟨.ref s.heap.objs.size,_,I.laid (t':=s.toks) (o:= .lst (cutV xs lo hi)) (λb ob q=>au _ q) (aG _) ?_,rfl,q _ (I.hok.fresh (aG _))⟩;exact⟨cO (qT xs lo hi) hz,_,0,(r.drop (HT.sIx xs.length 0 lo)).take (HT.sIx xs.length xs.length hi - HT.sIx xs.length 0 lo),aU _ rfl⟩
def pK:V→Bool
 | .non=>true
 | .bl _=>true
 | .int _=>true
 | .str _=>true
 | _=>false
def eqV:V→V→Bool
 | .non,.non=>true
 | .bl a,.bl b=>a == b
 | .bl a,.int b=>(if a then 1 else 0) == b
 | .int a,.bl b=>a == (if b then 1 else 0)
 | .int a,.int b=>a == b
 | .str a,.str b=>a == b
 | _,_=>false
theorem eqAt_V {x:V}{v:af}(ry:jr y u)(rx:jr x v)(fy:pK y=true)(fx:pK x=true):SeqAt.EqAt A s u v (eqV y x):=by
 cases y with
 | non =>
  cases ry;cases x with
  | non=>cases rx;exact SeqAt.EqAt.same _
  | bl b=>cases rx;exact SeqAt.EqAt.none_bool b
  | int b=>obtain⟨t,rfl⟩:=rx;exact SeqAt.EqAt.none_int b t
  | str b=>obtain⟨t,rfl⟩:=rx;exact SeqAt.EqAt.none_str b t
  | _=>exact rQ (show false=true from fx) bN
 | bl a =>
  cases ry;cases x with
  | non=>cases rx;exact SeqAt.EqAt.bool_none a
  | bl b=>cases rx;exact SeqAt.EqAt.bool_bool a b
  | int b=>obtain⟨t,rfl⟩:=rx;exact SeqAt.EqAt.bool_int a b t
  | str b=>obtain⟨t,rfl⟩:=rx;exact SeqAt.EqAt.bool_str a b t
  | _=>exact rQ (show false=true from fx) bN
 | int a =>
  obtain⟨t',rfl⟩:=ry;cases x with
  | non=>cases rx;exact SeqAt.EqAt.int_none a t'
  | bl b=>cases rx;exact SeqAt.EqAt.int_bool a t' b
  | int b=>obtain⟨t,rfl⟩:=rx;exact SeqAt.EqAt.int_int a t' b t
  | str b=>obtain⟨t,rfl⟩:=rx;exact SeqAt.EqAt.int_str a t' b t
  | _=>exact rQ (show false=true from fx) bN
 | str a =>
  obtain⟨t',rfl⟩:=ry;cases x with
  | non=>cases rx;exact SeqAt.EqAt.str_none a t'
  | bl b=>cases rx;exact SeqAt.EqAt.str_bool a t' b
  | int b=>obtain⟨t,rfl⟩:=rx;exact SeqAt.EqAt.str_int a t' b t
  | str b=>obtain⟨t,rfl⟩:=rx;exact SeqAt.EqAt.str_str a t' b t
  | _=>exact rQ (show false=true from fx) bN
 | _=>exact rQ (show false=true from fy) bN
def eqU (x:V)(u:af):Bool:=match u with
 | .none=>eqV .non x
 | .bool b=>eqV (.bl b) x
 | .int i _=>eqV (.int i) x
 | .str z _=>eqV (.str z) x
 | _=>false
theorem eqU_of {x:V}(r:jr y u)(f:pK y=true):eqU x u=eqV y x:=by
 cases y with
 | non=>cases r;rfl
 | bl b=>cases r;rfl
 | int i=>obtain⟨t,rfl⟩:=r;rfl
 | str z=>obtain⟨t,rfl⟩:=r;rfl
 | _=>exact rQ (show false=true from f) bN
theorem qV {x:V}:∀{xs:List V} {us:List af},ie xs us→xs.all pK=true→us.any (eqU x)=xs.any λy=>eqV y x
 | _,_,.nil,_=>rfl
 | y::xs,u::us,.cons r t,f=>by
  rw[List.all_cons,cv] at f;rw[jF,jF,eqU_of r f.1,qV t f.2]
theorem oP {A:cn}{s:ar}{x:V}{v:af}(rx:jr x v)(fx:pK x=true):∀{xs:List V} {us:List af},ie xs us→xs.all pK=true→∀u∈us,SeqAt.EqAt A s u v (eqU x u)
 | _,_,.nil,_=>λu hu=>by cases hu
 | y::xs,u::us,.cons r t,f=>λu' hu=>by
  rw[List.all_cons,cv] at f
  rcases ay.mp hu with rfl | hu
  ·rw[eqU_of r f.1];exact eqAt_V r rx f.1 fx
  ·exact oP rx fx t f.2 u' hu
def inV (x:V)(xs:List V):Bool:=xs.any λy=>eqV y x
inductive rIn (K:ak)(neg:Bool)(x:V)(y:V)(H:Hp)(Q:VK):Prop
 | mk (p xs:_)(_:y= .ref p)(_:(SqL K H p xs∨SqT K H p xs))(_:pK x=true)(_:xs.all pK=true)(_:Q (.bl (if neg then !inV x xs else inV x xs)) H)
theorem oO:OpR X (fJ .In) (rIn X.K false):=by
 intro aN s σ H x y v u Q I rx ry h;obtain⟨p,xs,rfl,hq,fx,fs,q⟩:=h;cases ry
 rcases hq with hq | hq
 ·obtain⟨its,r,pl,hz⟩:=I.list hq
  apply SeqAt.in_listAt (eqU x) pl.isList (λw hw=>oP rx fx r fs w (by simpa using hw)) ⟨.bl _,H,I,rfl,?_⟩;rw[show its.toArray.any (eqU x)=its.any (eqU x) by simp,qV r fs];exact q
 ·obtain⟨its,r,pl,hz⟩:=I.tuple hq
  apply SeqAt.in_tupleAt (eqU x) pl (λw hw=>oP rx fx r fs w (by simpa using hw)) ⟨.bl _,H,I,rfl,?_⟩;rw[show its.toArray.any (eqU x)=its.any (eqU x) by simp,qV r fs];exact q
theorem op_notIn_seq:OpR X (fJ .NotIn) (rIn X.K true):=by
 intro aN s σ H x y v u Q I rx ry h;obtain⟨p,xs,rfl,hq,fx,fs,q⟩:=h;cases ry
 rcases hq with hq | hq
 ·obtain⟨its,r,pl,hz⟩:=I.list hq
  apply SeqAt.notIn_listAt (eqU x) pl.isList (λw hw=>oP rx fx r fs w (by simpa using hw)) ⟨.bl _,H,I,rfl,?_⟩;rw[show its.toArray.any (eqU x)=its.any (eqU x) by simp,qV r fs];exact q
 ·obtain⟨its,r,pl,hz⟩:=I.tuple hq
  apply SeqAt.notIn_tupleAt (eqU x) pl (λw hw=>oP rx fx r fs w (by simpa using hw)) ⟨.bl _,H,I,rfl,?_⟩;rw[show its.toArray.any (eqU x)=its.any (eqU x) by simp,qV r fs];exact q
theorem cA:jU X (.builtin "len") (λxs H Q=>∃p ys,xs=[.ref p]∧(SqL X.K H p ys∨SqT X.K H p ys)∧Q (.int ys.length) H):=by
 intro aN s σ H xs us Q I r h;obtain⟨p,ys,rfl,hq,q⟩:=h;obtain⟨u,rfl,rx⟩:=nV r;cases rx;have hn:=rJ
 rcases hq with hq | hq
 ·obtain⟨its,r',pl,hz⟩:=I.list hq
  have hlen:=r'.length;exact Calls.call_len_list pl.isList (by simp only[aH] <;> lia) ⟨.int ys.length,H,I.tok _,⟨s.toks+1,by rw[aH,hlen]⟩,q⟩
 ·obtain⟨its,r',pl,hz⟩:=I.tuple hq
  have hlen:=r'.length;exact len_tuple pl (by simp only[aH] <;> lia) ⟨.int ys.length,H,I.tok _,⟨s.toks+1,by rw[aH,hlen]⟩,q⟩
theorem k6:jU X (.builtin "len") (λxs H Q=>∃z,xs=[.str z]∧z.length≤az∧Q (.int z.length) H):=by
 intro aN s σ H xs us Q I r h;obtain⟨z,rfl,hz,q⟩:=h;obtain⟨u,rfl,t,rfl⟩:=nV r;have hn:=rJ;exact len_str ⋯ ⟨.int z.length,H,I.tok _,⟨_,rfl⟩,q⟩
theorem pV:jU X (.type "list") (λxs H Q=>∃p ys,xs=[.ref p]∧(SqL X.K H p ys∨SqT X.K H p ys)∧∀l,H l=none→Q (.ref l) (upd H l (.lst ys))):=by
 intro aN s σ H xs us Q I r h;obtain⟨p,ys,rfl,hq,q⟩:=h;obtain⟨u,rfl,rx⟩:=nV r;cases rx;have fin:∀(its:List af),ie ys its→ys.length≤az→∀(h':bM) (c':Nat),(∀b o',s.heap.get? b=some o'→h'.get? b=some o') →
   h'.get? s.heap.objs.size=some { cls:= .type "list",dict:=none,data:= .seq its.toArray c',slots:= #[] }→EP X aN σ Q (.ref s.heap.objs.size) { s with heap:=h' }:=λits r' hz h' c' kp e =>
  ⟨.ref s.heap.objs.size,_,I.laid (t':=s.toks) kp (aG _) (show iZ X.prog X.w _ h' _ (.lst ys) from ⟨hz,its,c',r',e⟩),rfl,q _ (I.hok.fresh (aG _))⟩
 rcases hq with hq | hq
 ·obtain⟨its,r',pl,hz⟩:=I.list hq
  have hlen:=r'.length;obtain⟨o,ho,hc,n,hd⟩:=pl.isList;exact call_list_seq p (.inl rfl) ho hc hd (λh' c' kp e=>fin its r' hz h' c' kp e) (by simp only[aH] <;> lia)
 ·obtain⟨its,r',pl,hz⟩:=I.tuple hq
  have hlen:=r'.length;obtain⟨o,ho,hc,n,hd⟩:=pl;exact call_list_seq p (.inr rfl) ho hc hd (λh' c' kp e=>fin its r' hz h' c' kp e) (by simp only[aH] <;> lia)
theorem call_tuple_of:jU X (.type "tuple") (λxs H Q=>∃p ys,xs=[.ref p]∧((SqL X.K H p ys∧∀l,H l=none→Q (.ref l) (upd H l (.tup ys)))∨(SqT X.K H p ys∧Q (.ref p) H))):=by
 intro aN s σ H xs us Q I r h;obtain⟨p,ys,rfl,h⟩:=h;obtain⟨u,rfl,rx⟩:=nV r;cases rx
 rcases h with ⟨hq,q⟩ | ⟨hq,q⟩
 ·obtain⟨its,r',pl,hz⟩:=I.list hq
  have hlen:=r'.length;apply call_tuple_list pl.isList (λh' kp=>?_) (by simp only[aH] <;> lia);have I1:Inv X aN σ H { s with heap:=h' }:=I.kept (t':=s.toks) kp;have I2:Inv X aN σ (upd H h'.objs.size (.tup ys)) { s with heap:=h'.push { cls:= .type "tuple",data:= .seq its.toArray } } :=
   I1.laid (t':=s.toks) (λb o e=>au _ e) (aG _) (show iZ X.prog X.w _ _ _ (.tup ys) from ⟨hz,its,r',mQ.new _ _⟩)
  exact⟨.ref h'.objs.size,_,I2,rfl,q _ (I1.hok.fresh (aG _))⟩
 ·obtain⟨its,r',pl,hz⟩:=I.tuple hq
  exact call_tuple_same pl ⟨.ref p,H,I,rfl,q⟩
def tyV (K:ak)(T:String)(x:V)(H:Hp):Prop:=match x with
 | .str _=>T = "str"
 | .int _=>T = "int"
 | .ref p=>(T = "list" ∧∃xs,SqL K H p xs)∨(T = "tuple" ∧∃o,K.lookup p=some o∧o.cls= .type "tuple" ∧o.dict=none) ∨
   (T = "dict" ∧((∃kvs,H p=some (.dK kvs))∨∃kvs,H p=some (.dT kvs)))∨(T = "set" ∧∃S n,H p=some (.set S n))
 | _=>False
theorem tyV_is {x:V}{v:af}(I:Inv X aN σ H s)(r:jr x v)(ty:tyV X.K T x H) :
  s.TypeIs v T∧∀a,v= .ref a→∃ob,s.heap.get? a=some ob∧ob.dict=none:=by
 cases x with
 | str z =>
  obtain⟨t,rfl⟩:=r;cases(show T = "str" from ty);exact⟨typeIs_str s z t,λ_ e=>nomatch e⟩
 | int i =>
  obtain⟨t,rfl⟩:=r;cases(show T = "int" from ty);exact⟨typeIs_int s i t,λ_ e=>nomatch e⟩
 | ref p =>
  cases r
  rcases ty with ⟨rfl,xs,hq⟩ | ⟨rfl,o,hk,hc,hd⟩ | ⟨rfl,hk⟩ | ⟨rfl,S,n,hk⟩
  ·obtain⟨its,_,pl,_⟩:=I.list hq
   apply⟨pl.isList.typeIs,λa e=>?_⟩;cases e;obtain⟨o,n,e,c,hd,_⟩:=pl;exact⟨o,e,hd⟩
  ·apply⟨⟨o,I.kIn p o hk,hc⟩,λa e=>?_⟩
   cases e;exact⟨o,I.kIn _ o hk,hd⟩
  ·have z:∃o,s.heap.get? p=some o∧o.ExactDict:=by
    rcases hk with ⟨kvs,hk⟩ | ⟨kvs,hk⟩
    ·obtain⟨_,_,_,_,o,_,_,e,ex,_⟩:=I.hok p _ hk
     exact⟨o,e,ex⟩
    ·obtain⟨_,_,_,_,o,_,_,e,ex,_⟩:=I.hok p _ hk
     exact⟨o,e,ex⟩
   obtain⟨o,e,ex⟩:=z;apply⟨⟨o,e,ex.1⟩,λa e2=>?_⟩;cases e2;exact⟨o,e,ex.2.1⟩
  ·obtain⟨o,_,_,_,e,ex,_⟩:=I.hok p _ hk
   apply⟨⟨o,e,ex.1⟩,λa e2=>?_⟩;cases e2;exact⟨o,e,ex.2.1⟩
 | _=>exact eV ty
def tBM (K:ak)(T:String)(r:V→List V→Hp→VK→Prop)(to:TE)(t:TA):TE:=λσ H Q=>to σ H λx H1=>tyV K T x H1∧t σ H1 λxs H2=>r x xs H2 Q
variable {o:Expr}{id:String}{r:V→List V→Hp→VK→Prop}
theorem jR (pa:PlainAttrs T)(slot:Slot T name id)(hty:typeOf (.builtin id)=iS (.type "method_descriptor"))(hm:MtR X id r)(ho:PE X o to)(ha:PA X (e::es) t)
  (hbase:autoParam (ia o name X.env (dY o X.env)=dY o X.env) L2.au0._auto_1)
  (hfew:autoParam (((gI cpos (br (e::es) X.env)).all (fun x=> !x.1) && (backToKw cpos (j9 [] X.env)).all (fun x=>x.1.isSome)
   && decide ((e::es).length+([]:List kX).length+(if ([]:List kX).isEmpty then 0 else 1)<30))=true) L2.au0._auto_1)
  (hline:autoParam ((apos.endLine == cpos.line)=true) L2.au0._auto_1) (hs:autoParam (br (e::es) X.env=(false,dY e X.env)::br es X.env) L2.au0._auto_1) (hplain:autoParam ((gI cpos (br es X.env)).any (·.1)=false) L2.au0._auto_1) :
  PE X (.Call (.Attribute o name apos) (e::es) [] cpos) (tBM X.K T r to t):=by
 intro aN s σ H Q I h;apply wpAny_Call_method_late hbase hfew hline rfl (thn (ho aN s σ H _ I h) λv s1 hz0=>?_);obtain⟨x,H1,I1,r1,ty,q1⟩:=hz0;obtain⟨h1,h2⟩:=tyV_is I1 r1 ty;apply⟨T,id,pa,slot,hty,h1,h2,?_⟩;have hA:=ha cpos aN s1 σ H1 _ I1 q1;rw[hs] at hA ⊢;apply iu (by show(false || (gI cpos (br es X.env)).any (·.1))=false;rw[hplain] <;> rfl) (jT ?_);exact thn hA λus s2 ⟨vs,H2,I2,r2,q2⟩=>hm aN s2 σ H2 x vs v us Q I2 r1 r2 q2
end
def MtM (X:Cx)(id:String)(r:V→List V→Hp→VK→Prop):Prop :=
 ∀(aN:List (aq×Obj)) (s:ar) (σ:St) (H:Hp) (x:V) (xs:List V) (v:af) (us:List af) (Q:VK),Inv X aN σ H s→jr x v→ie xs us→r x xs H Q →
  aY (bF X.prog X.w) X.A (call (.builtin id) (v::us)) (EP X aN σ Q) X.xe s
theorem ie.one {x:V}(h:ie [x] us):∃u,us=[u]∧jr x u:=by
 cases h with
 | cons r h=>cases h;exact⟨ρ,r⟩
theorem ie.eraseIdx:∀{xs:List V} {us:List af} (i:Nat),ie xs us→ie (xs.eraseIdx i) (us.eraseIdx i)
 | _,_,_,.nil=> .nil
 | _,_,0,.cons _ t=>t
 | _,_,i+1,.cons r t=> .cons r (ie.eraseIdx i t)
theorem ie.rep {xs:List V}{us:List af}(h:ie xs us):∀k:Nat,ie (bS k xs).flatten (bS k us).flatten
 | 0=> .nil
 | k+1=>by
  rw[ig,ig,kU,kU];exact ie.append h (ie.rep h k)
theorem len_erase {α:Type}:∀(l:List α) (i:Nat),(l.eraseIdx i).length≤l.length
 | [],_=>aG _
 | _::_,0=>ju _
 | _::r,i+1=>Nat.succ_le_succ (len_erase r i)
theorem foldl_rep (its:List af):∀(k:Nat) (acc:List af),
  List.foldl (λx1 x2=>x1++x2) acc.toArray (bS k its.toArray)=(acc++(bS k its).flatten).toArray
 | 0,acc=>by simp
 | k+1,acc=>by
  have e:acc.toArray++its.toArray=(acc++its).toArray:=by simp
  have e2:(acc++its)++(bS k its).flatten=acc++(bS (k+1) its).flatten:=by
   rw[ig,kU,dA]
  rw[←e2,←foldl_rep its k (acc++its),←e,ig,iV]
section
variable {l b:aq}{zs:List V}
theorem Inv.lset {its':List af}{f:Array af→Array af}(I:Inv X aN σ H s)(hH:H l=some (.lst xs))
  (e:s.heap.get? l=some { cls:= .type "list",data:= .seq its.toArray n }) (hf:f its.toArray=its'.toArray) (hv:ie ys its') (hz:ys.length≤az) :
  Inv X aN σ (upd H l (.lst ys)) { s with heap:=s.heap.update l (Obj.mapSeq f),toks:=t' }:=by
 have q:=PySem.IsL.update e f;rw[hf] at q;apply I.write (x:=l) (e:=l) (by rw[hH];exact trivial) (.inl rfl) (λb' u hb hu=>(gC s.heap (Obj.mapSeq f) (cQ hb)).trans hu) ⟨_,q⟩ ?_;exact⟨hz,its',_,hv,q⟩
theorem Inv.lnew (I:Inv X aN σ H s)(hv:ie ys its)(hz:ys.length≤az) :
  Inv X aN σ (upd H s.heap.objs.size (.lst ys)) { s with heap:=s.heap.push { cls:= .type "list",data:= .seq its.toArray },toks:=t' } :=
 I.laid (λ_ _ q=>au _ q) (aG _) ⟨hz,its,0,hv,aU _ rfl⟩
theorem Inv.fresh (I:Inv X aN σ H s):H s.heap.objs.size=none:=I.hok.fresh (aG _)
theorem Inv.lstM (I:Inv X aN σ H s)(hH:H l=some (.lst xs)):xs.length≤az∧∃(its:List af) (n:Nat),ie xs its∧xs.length=its.length∧s.heap.get? l=some { cls:= .type "list",data:= .seq its.toArray n }:=by
 obtain⟨z,its,n,r,e⟩:=I.hok l _ hH;exact⟨z,its,n,r,r.length,e⟩
theorem notLongL (h:n≤az):lQ n=false:=by
 unfold lQ;exact rS ⋯
end
inductive rAppend (x:V)(vs:List V)(H:Hp)(Q:VK):Prop
 | mk (l xs y:_)(_:x= .ref l)(_:vs=[y])(_:H l=some (.lst xs))(_:xs.length<az)(_:Q .non (upd H l (.lst (xs++[y]))))
theorem gH:MtM X "list.append" rAppend:=by
 intro aN s σ H x vs v us Q I rx rv h;obtain⟨l,xs,y,rfl,rfl,hH,hz,q⟩:=h;cases rx;obtain⟨u,rfl,ru⟩:=rv.one;obtain⟨z,its,n,r,hl,e⟩:=I.lstM hH;apply jh F.slot_list_append ⟨_,e,rfl⟩ F.entry_list_append (F.args_list_append_2 _ _) (PySem.list_append l its.toArray n u (by rw[aH];lia)) ⟨e,?_⟩;apply⟨.non,_,I.lset (its':=its++[u]) hH e ∅ (r.append (.cons ru .nil)) ?_,rfl,q⟩;rw[ao,eX];lia
inductive rExtend (x:V)(vs:List V)(H:Hp)(Q:VK):Prop
 | mk (l b xs zs:_)(_:x= .ref l)(_:vs=[.ref b])(_:H l=some (.lst xs))(_:H b=some (.lst zs))(_:xs.length+zs.length≤az)(_:Q .non (upd H l (.lst (xs++zs))))
theorem mt_extend:MtM X "list.extend" rExtend:=by
 intro aN s σ H x vs v us Q I rx rv h;obtain⟨l,b,xs,zs,rfl,rfl,hH,hB,hz,q⟩:=h;cases rx;obtain⟨u,rfl,ru⟩:=rv.one;cases ru;obtain⟨z,its,n,r,hl,e⟩:=I.lstM hH;obtain⟨z2,its2,n2,r2,hl2,e2⟩:=I.lstM hB;have hsz:its.toArray.size+its2.toArray.size≤az:=by rw[aH,aH];lia
 have hlong:¬(!its.toArray.isEmpty && lQ (its.toArray.size+its2.toArray.size))=true:=by
  rw[notLongL hsz,Bool.and_false];exact bN
 apply jh F.slot_list_extend ⟨_,e,rfl⟩ F.entry_list_extend (F.args_list_extend_2 _ _)
  (AutoSeq1.list_extend_list_list_0 l its.toArray n b its2.toArray n2 hlong (by rw[aH];lia) ⋯) ⟨e,e2,?_⟩
 apply⟨.non,_,I.lset (its':=its++its2) hH e ∅ (r.append r2) ?_,rfl,q⟩;rw[ao];lia
inductive rPopAt (x:V)(vs:List V)(H:Hp)(Q:VK):Prop
 | mk (l xs i k y:_)(_:x= .ref l)(_:vs=[.int i])(_:H l=some (.lst xs))(_: -(2 ^ 63)≤i)(_:i<2 ^ 63)(_:seqIndex? i xs.length=some k)(_:xs[k]? =some y)(_:Q y (upd H l (.lst (xs.eraseIdx k))))
theorem mt_popAt:MtM X "list.pop" rPopAt:=by
 intro aN s σ H x vs v us Q I rx rv h;obtain⟨l,xs,i,k,y,rfl,rfl,hH,h1,h2,hk,hy,q⟩:=h;cases rx;obtain⟨u,rfl,ru⟩:=rv.one;obtain⟨t,rfl⟩:=ru;obtain⟨z,its,n,r,hl,e⟩:=I.lstM hH;obtain⟨w,hw,rw'⟩:=r.get hy;apply jh F.slot_list_pop ⟨_,e,rfl⟩ F.entry_list_pop (F.args_list_pop_2 _ _)
  (MeetsSeq.list_pop_at l its.toArray n i t k w (fitsIndex_both h1 h2) (by rw[aH,←hl];exact hk) (by rw[←jH];exact hw) (by rw[aH];lia)) ⟨e,?_⟩
 apply⟨y,_,I.lset (its':=its.eraseIdx k) hH e ?_ (r.eraseIdx k) ?_,rw',q⟩
 ·show its.toArray.eraseIdxIfInBounds k=(its.eraseIdx k).toArray
  rw[List.eraseIdxIfInBounds_toArray]
 ·have:=len_erase xs k
  lia
inductive rCat (x:V)(y:V)(H:Hp)(Q:VK):Prop
 | mk (l b xs zs:_)(_:x= .ref l)(_:y= .ref b)(_:H l=some (.lst xs))(_:H b=some (.lst zs))(_:xs.length+zs.length≤az)(_:∀p,H p=none→Q (.ref p) (upd H p (.lst (xs++zs))))
theorem op_cat:OpR X (iH .Add) rCat:=by
 intro aN s σ H x y v u Q I rx ry h;obtain⟨l,b,xs,zs,rfl,rfl,hH,hB,hz,q⟩:=h;cases rx;cases ry;obtain⟨z,its,n,r,hl,e⟩:=I.lstM hH;obtain⟨z2,its2,n2,r2,hl2,e2⟩:=I.lstM hB;apply PySem.P.add_list e e2 ?_ (by rw[aH,aH];lia);have ea:its.toArray++its2.toArray=(its++its2).toArray:=by simp
 rw[ea];exact⟨.ref _,_,I.lnew (t':=s.toks) (r.append r2) (by rw[ao];lia),rfl,q _ I.fresh⟩
theorem len_rep (xs:List α)(k:Nat):(bS k xs).flatten.length=k * xs.length:=by
 induction k with
 | zero=>simp
 | succ k ih=>rw[ig,kU,ao,ih,Nat.succ_mul,Nat.add_comm]
end L2
namespace Att
open PySem PySem.W PySem.Calls PyProof.Rows
theorem qI {P:Params}:∀(ns:List Int) (vs:List af),WellAll P h vs (ns.map WData.int)→IntsAre vs ns:=by
 intro ns
 induction ns with
 | nil =>
  intro vs w;rw[List.map_nil] at w;cases w;exact .nil
 | cons n ns ih =>
  intro vs w;rw[bq] at w;cases w with
  | cons a b =>
   cases a;exact .cons _ _ (ih _ b)
theorem script_of {l:OpenLaw}(hn:l.most=some n){P:Params}{args:List WData}{vals:List af}
  (hpre:l.row.toRowW.claim.pre args=true) (hwl:WellAll P h vals args) :
  ∃a vs ns,vals=[af.ref a]∧args=[WData.list (ns.map WData.int)]∧h.get? a=some { cls:= .type "list",data:= .seq vs.toArray }∧IntsAre vs ns∧ns.length≤n:=by
 have hsh:WShape.hasAll [] args [.list .int]=true:=(pre_splitW hpre).1;have hc:l.pre.holds [] { args:=args }=true:=(pre_splitW hpre).2;obtain⟨d,r,rfl,h1,h2⟩:=hasAllW_cons hsh;obtain rfl:=hasAllW_nil h2;obtain⟨xs,rfl,h3⟩:=hasW_list h1;obtain⟨ns,rfl⟩:=items_int h3;have hlen:ns.length≤n:=by
  unfold OpenLaw.pre at hc;have h4:(WTm.not (.lt (.lit (.int (n:Int))) (.len (.arg 0)))).holds [] { args:=[.list (ns.map .int)] }=true:=by
   have h4:=(holds_andW hc).1;rw[hn] at h4;exact h4
  have h5:=condW_of h4 (w_not (w_lt w_lit (w_len_list (w_arg rfl))));rw[ae] at h5;apply Nat.le_of_not_lt λq=>?_
  have q':(n:Int)<((ns.length:Nat):Int):=by lia
  first
   | (rw[rR q'] at h5;exact rQ h5 ↥0)
   | (simp at h5;lia)
 cases hwl with
 | cons w1 w2 =>
  cases w2;cases w1 with
  | list ho hall=>exact⟨_,_,ns,rfl,rfl,ho,qI ns _ hall,hlen⟩
theorem post_true (l:OpenLaw)(args:List WData):l.row.toRowW.claim.post args (.bool true) args=true :=
 postW_of (r:=l.row.toRowW) (X:=(true == true))
  (show WShape.has [] (.bool true) .bool=true by first | rfl | decide | simp[WShape.has,WShape.arms,WShape.armsAll])
  (show(WTm.eq .res (.lit (.bool true))).value [] { args:=args,res:=some (.bool true),after:=args }=some (.bool (true == true)) from w_eq_bool (w_res rfl) w_lit) rfl
theorem attach_call {l:OpenLaw}{q:aK}{XP:(Str→Option af)→bM→Prop}{d:DefRec}
  (hn:l.most=some n) (hdf:d.params.defaults=[])
  (call:∀ (w:bg) (s₀ s₁:ar) (mg mb:Str→Option af) (fa:aq) (o:Obj) (pm cd doc:af) (a:aq) (vs:List af) (ns:List Int),
   Ground q loose [] XP w s₀ mg mb s₁.heap→YP w s₁.heap →
   s₁.heap.get? fa=some o→o.data= .func (docDef d.name d.params d.body d.scope pm cd doc)→s₁.heap.CodeRec cd d.name→mg d.name=some (.ref fa) →
   s₁.heap.get? a=some { cls:= .type "list",data:= .seq vs.toArray }→IntsAre vs ns→ns.length≤n→s₁.gens= #[] →
   codeAny (bF l.prog w) callerA (.call (.ref fa) ⟨[.ref a],[]⟩) (fun r s'=>r= .ok (.ret (.bool true))∧OldK s₁.heap s'.heap∧s'.os=s₁.os∧AllBare s'.gens) s₁) :
  WalkO q loose XP YP l.row.toRowW d [] (λf vs=>PySem.call f vs):=by
 intro w s₀ s₁ mg mb G Y fa o pm cd doc dV kV ho hd hcd hD hmg hg args vals as hpre hlay hrd hwl hlo;obtain rfl:dV= .none:=Dflts.none hD hdf;obtain rfl:kV= .none:=Dflts.noKw hD;obtain⟨a,vs,ns,rfl,rfl,hobj,hints,hlen⟩:=script_of hn hpre hwl;apply enter_call (kr (call w s₀ s₁ mg mb fa o pm cd doc a vs ns G Y ho (fd_plain hd) hcd hmg hobj hints hlen hg) λr s' hq=>?_);obtain⟨rfl,h2,h3,h4⟩:=hq;exact⟨.inl ⟨.bool true,.bool true,[],rfl,λ_=>rfl,.bool true,post_true l _,λ_=>⟨List.Pairwise.nil,λ_ hm=>(nomatch hm)⟩⟩,h2,h3,h4⟩
end Att
namespace L2
open PySem PySem.Spec PyProof.Rows
theorem vals_ints:∀{vs:List af} {ns:List Int},IntsAre vs ns→ie (ns.map V.int) vs
 | _,_,.nil=> .nil
 | _,_,.cons n t h=> .cons ⟨t,rfl⟩ (vals_ints h)
def Only (H:Hp):Prop:=∀b,H b=none∨∃o xs,H b=some (.frz o (.lst xs))
theorem law_call {mb:Str→Option af}{s₁:ar}{ns:List Int}
  (KX:K.In s₁.heap) (hns:s₁.heap.Ns bH mg) (hb:s₁.heap.Ns builtinsNs mb) (hbb:∀x:Str,x ≠ "__name__" →mb x=bootBuiltins x) (hlim:s₁.heap.NoLimit) (hg:s₁.gens= #[])
  (ha:s₁.heap.get? a=some { cls:= .type "list",data:= .seq vs.toArray }) (hi:IntsAre vs ns) (hl:ns.length≤az) (hr:kA k callerA)
  (F:∀base:bM,K.In base→base.Ns bH mg→c9 P w K mg base CX k fa fd [x] sp) (hbind:∀(s:ar) (u:af),BindsTo s fd ⟨[u],[]⟩ [(x,u)])
  (hsp:∀H:Hp,Only H→SqL K H a (ns.map V.int)→sp [.ref a] H (λv _=>v= .bl true) λ_ _ _=>False)
  (hCX:∀H e s',CX [] H s₁ (λ_ _ _=>False) e s'→False) :
  codeAny (bF P w) callerA (.call (.ref fa) ⟨[.ref a],[]⟩) (λr s'=>r= .ok (.ret (.bool true))∧OldK s₁.heap s'.heap∧s'.os=s₁.os∧AllBare s'.gens) s₁:=by
 have rv:=vals_ints hi;have lenV:=hi.length;have core:∀H:Hp,Only H→SqL K H a (ns.map V.int)→HOk P w H s₁.heap→(∀b,H b≠none→b=a)→(H a≠none→K.lookup a=none) →
   codeAny (bF P w) callerA (.call (.ref fa) ⟨[.ref a],[]⟩) (λr s'=>r= .ok (.ret (.bool true))∧OldK s₁.heap s'.heap∧s'.os=s₁.os∧AllBare s'.gens) s₁:=by
  intro H hO hS hok hA hK;have base_of:∀{b:aq} {o:Obj},s₁.heap.get? b=some o→H b=none→(hidT s₁.heap H).get? b=some o:=λe n=>hidT_get e n
  have noA:∀{b:aq} {o:Obj} {es:Array DictEntry} {ep:Nat},s₁.heap.get? b=some o→o.data= .dict es ep→H b=none:=λ{b o es ep} e d=>by
   cases q:H b with
   | none=>rfl
   | some u =>
    have e':b=a:=hA b (by rw[q];simp);subst e';rw[ha] at e;cases e;have d':Data.seq vs.toArray _=Data.dict es ep:=d;cases d'
  have nsK:∀{b:aq} {m:Str→Option af},s₁.heap.Ns b m→(hidT s₁.heap H).Ns b m:=λ{b m} ⟨o,es,ep,e,d,r⟩=>⟨o,es,ep,base_of e (noA e d),d,r⟩
  have hKb:K.In (hidT s₁.heap H):=fun b o e=>base_of (KX b o e) (by
   cases q:H b with
   | none=>rfl
   | some u =>
    have e':b=a:=hA b (by rw [q];simp);subst e';rw [hK (by rw [q];simp)] at e;cases e)
  have hM:Mod K mg (hidT s₁.heap H):=⟨hKb,nsK hns,⟨mb,nsK hb,hbb⟩,let ⟨mc,h1,h2⟩:=hlim;⟨mc,nsK h1,h2⟩⟩;have e0:Env0 P w K mg (hidT s₁.heap H) callerA [] s₁ H:=⟨rfl,hM,λb o e=>of_hidT e,Nat.le_of_eq (hidT_size _ _),trivial,λb hb=>rQ (show b∈([]:List aq) from hb) ∅,hok,.of_eq hg⟩;apply kr ((F _ hKb (nsK hns)).run callerA [] s₁ H ⟨[.ref a],[]⟩ [.ref a] [.ref a] _ _ hr e0 (hbind s₁ (.ref a)) (.cons rfl .nil) (hsp H hO hS)) λr s' h=>?_
  cases r with
  | error e=>exact(hCX H e s' h).elim
  | ok fl =>
   cases fl with
   | next=>exact eV h
   | brk=>exact eV h
   | cont=>exact eV h
   | ret u =>
    obtain⟨v,H',os,bare,un,hok',r',q⟩:=h;have q':v= .bl true:=q;subst q';obtain rfl:u=af.bool true:=r';apply⟨rfl,OldK.of_keep λb o e=>?_,os,bare⟩;cases q:H b with
    | none=>exact un.keep b o e q (by intro z;exact rQ (show b∈([]:List aq) from z) ∅) ∅
    | some u =>
     rcases hO b with z | ⟨ob,xs,z⟩
     ·rw[q] at z;cases z
     ·have z2:=un.frzs b ob _ z
      obtain⟨e1,_⟩:=hok b _ z;obtain⟨e2,_⟩:=hok' b _ z2;rw[e] at e1;cases e1;exact e2
 cases hk:K.lookup a with
 | some o =>
  have e:=KX a o hk;rw[ha] at e;cases e;apply core (λ_=>none) (λ_=> .inl rfl) (.inr ⟨_,vs.toArray,_,hk,rfl,rfl,rfl,by rw[aH,lenV];exact hl,by simpa using rv⟩) (λb u z=>by have z':(none:Option HO)=some u:=z;cases z') (λb z=>rQ rfl z) λz=>rQ rfl z
 | none =>
  apply core (λb=>if b=a then some (.frz { cls:= .type "list",data:= .seq vs.toArray } (.lst (ns.map V.int))) else none) (λb=>?_) (.inl (.inr ⟨{ cls:= .type "list",data:= .seq vs.toArray },rP rfl⟩)) (λb u z=>?_) (λb z=>?_) λ_=>hk
  ·by_cases hb:b=a
   ·exact .inr ⟨_,_,rP hb⟩
   ·exact .inl (rO hb)
  ·by_cases hb:b=a
   ·have z':=(rP hb).symm.trans z
    cases z';subst hb;exact⟨ha,by rw[ae];exact hl,vs,_,rv,ha⟩
   ·have z':=(rO hb).symm.trans z
    cases z'
  ·by_cases hb:b=a
   ·exact hb
   ·exact rQ (rO hb) z
theorem walk_of {l:PySem.W.OpenLaw}{q:aK}{XP:(Str→Option af)→bM→Prop}{d:DefRec}{K:Params→ak}{CX:bg→CXT}{sp:bg→Sp}
  (hn:l.most=some n) (hn2:n≤az) (hdf:d.params.defaults=[]) (hr:kA k callerA)
  (hY:∀(w:bg) (h:bM),YP w h→(K w.params).In h)
  (F:∀ (w:bg) (mg:Str→Option af) (fa:aq) (h:bM),(K w.params).In h→h.Ns bH mg→mg d.name=some (.ref fa) →
   ∃fd:aT,(∀(s:ar) (u:af),BindsTo s fd ⟨[u],[]⟩ [(x,u)]) ∧
    ∀ base:bM,(K w.params).In base→base.Ns bH mg→c9 l.prog w (K w.params) mg base (CX w) k fa fd [x] (sp w))
  (hsp:∀(w:bg) (H:Hp) (a:aq) (ns:List Int),ns.length≤n→Only H→SqL (K w.params) H a (ns.map V.int)→sp w [.ref a] H (λv _=>v= .bl true) λ_ _ _=>False)
  (hCX:∀(w:bg) (H:Hp) (s:ar) (e:af) (s':ar),CX w [] H s (λ_ _ _=>False) e s'→False) :
  PySem.W.WalkO q loose XP YP l.row.toRowW d [] (λf vs=>PySem.call f vs):=by
 apply Att.attach_call hn hdf λw s₀ s₁ mg mb fa o pm cd doc a vs ns G Y ho hd hcd hmg hobj hints hlen hg=>?_
 have KX:=hY w _ Y;obtain⟨fd,hb,hF⟩:=F w mg fa _ KX G.T.g hmg;exact law_call KX G.T.g G.T.b G.T.builtins G.T.nolimit hg hobj hints (cO hlen hn2) hr hF hb (λH hO hS=>hsp w H a ns hlen hO hS) λH e s'=>hCX w H s₁ e s'
abbrev CX0:CXT:=λ_ _ _ _ _ _=>False
abbrev E0:XK:=λ_ _ _=>False
theorem g9:mB CX0 X E0:=λ_ _ _ _ _ _ _ h=>h.elim
structure Fun (K:ak)(x qual:Str)(st:c8)(f:aq)(fd:aT):Prop where
 ex:∃(oc:af) (od:Option aq) (kV doc pm:af) (an:Option aq) (cdv ct:af) (osl:Array (Option af)),
  fd=gn x qual (lO st) (kM st) (defScope st) .none kV doc pm an cdv ct∧K.lookup f=some ⟨oc,od,.func fd,osl⟩∧jL K cdv qual=true
 kp:eQ K (.ref f)=true
theorem Fun.ok (F:Fun K x qual st f fd)(S:cI N ps (defScope st))(len:∀vs H Q E,sp vs H Q E→vs.length=ps.length)
  (hbody:∀ (cdv:af) (A:cn) (outer:List Env) (s:ar) (H:Hp) (vs:List V) (Q:VK) (E:XK),kA k (A.deeper (envOfC qual (defScope st) s.heap.objs.size f cdv))→sp vs H Q E →
   ∃ t,PSs (cxOf CX0 P w K mg base N qual (defScope st) f cdv A outer s H E).nox (kM st) t∧t { nx:=fun _ H'=>Q .non H',rt:=Q } (start N vs) H):‹0› (k+1) f fd ps sp:=by
 obtain⟨oc,od,kV,doc,pm,an,cdv,ct,osl,rfl,lk,hcd⟩:=F.ex;apply fn_of lk hcd S len λA outer s H vs Q E hr hsp=>?_
 obtain⟨t,h,q⟩:=hbody cdv A outer s H vs Q E hr hsp;exact⟨t,h.nox,q⟩
theorem Fun.binds (F:Fun K x qual st f fd)
  (h:∀(kV doc pm:af) (an:Option aq) (cdv ct:af) (us:List af),us.length=ps.length→bindArgs (gn x qual (lO st) (kM st) (defScope st) .none kV doc pm an cdv ct) ⟨us,[]⟩=iS (ps.zip us)):Binds K fd ps []:=by
 obtain⟨oc,od,kV,doc,pm,an,cdv,ct,osl,rfl,lk,hcd⟩:=F.ex;exact .all (h kV doc pm an cdv ct)
theorem fun_mk {oc:af}{an:Option aq}{kV doc pm cdv ct:af}(l:K.lookup f=some ⟨oc,od,.func (gn x qual (lO st) (kM st) (defScope st) .none kV doc pm an cdv ct),osl⟩)
  (c:jL K cdv qual=true) (k:eQ K (.ref f)=true):Fun K x qual st f (gn x qual (lO st) (kM st) (defScope st) .none kV doc pm an cdv ct):=⟨⟨oc,od,kV,doc,pm,an,cdv,ct,osl,rfl,l,c⟩,k⟩
theorem pv (i:Nat)(hN:autoParam (X.N[i]? =some x) L2.au0._auto_1)(hv:Vis X.env.scope x:=by first | exact Or.inl rfl | exact Or.inr (Or.inl rfl) | exact Or.inr (Or.inr rfl))(hd:autoParam ((x == ("__debug__" :Str))=false) L2.au1._auto_1)
  (hcd:autoParam ((x == ("__classdict__" :Str))=false) L2.au1._auto_1):PE X (.Name x pos) (tVar i):=pe_var hN hv hd hcd
theorem iteT {A B:Prop}(h:A):if true=true then A else B:=by
 rw[rP rfl];exact h
theorem kJ {c A B:Prop}[Decidable c](h1:c→A)(h2:¬c→B):if c then A else B:=by
 by_cases h:c
 ·rw[rP h]
  exact h1 h
 ·rw[rO h]
  exact h2 h
def cb (H H':Hp):Prop:=∀b o,H b=some o→H' b=some o
theorem cb.refl (H:Hp):cb H H:=λ_ _ h=>h
theorem cb.trans (a:cb H H1)(b:cb H1 H2):cb H H2:=λc o h=>b c o (a c o h)
theorem cb.free (e:cb H H'){l:aq}(h:H' l=Option.none):H l=Option.none:=by
 cases q:H l with
 | none=>rfl
 | some o =>
  rw[e l o q] at h;cases h
theorem op_fdivB:OpR X (iH .FloorDiv) (rI (λ_ j=>0<j∧j.natAbs.log2<9000) λi j=> .int (i / j)):=opI λi j _ _ _ _ _ hc q=>by
 have e:i.fdiv j=i / j:=Int.fdiv_eq_ediv_of_nonneg i (Int.le_of_lt hc.1);apply floordiv_int (by have:=hc.1;lia) ?_ (.inl (PyProof.noPylong_of_log2 hc.2));rw[e];exact q
theorem bools_of:∀{bs:List Bool} {us:List af},ie (bs.map V.bl) us→LSm.BoolsAre us bs
 | [],_,.nil=> .nil
 | b::bs,_,.cons r t=>by
  cases(show _=af.bool b from r);exact .cons b (bools_of t)
theorem call_all (hc:X.calm=true):jU X (.builtin "all") (λxs H Q=>∃(p:aq) (bs:List Bool),xs=[.ref p]∧SqL X.K H p (bs.map V.bl)∧Q (.bl (bs.all id)) H):=by
 intro aN s σ H xs us Q I r h;obtain⟨p,bs,rfl,hq,q⟩:=h;obtain⟨u,rfl,ru⟩:=nV r;cases(show u=af.ref p from ru);obtain⟨its,rv,pl,hz⟩:=I.list hq;have hb:=bools_of rv;have hil:s.heap.IsList p its.toArray:=pl.isList;have plt:p<s.heap.objs.size:=by obtain⟨_,e,_⟩:=hil;exact aW e
 apply call_all_walk (iw hil ⟨s.heap.objs.size,[s.heap.objs.size,p],[s.heap.objs.size],its.toArray.size,_,_,fun i=>(bs[i]?).getD true,rfl,
  Walks.list (A:=X.A.in1) (I.ok.hd hc) _ p (cG plt) its.toArray,⟨⟨_,aU _ rfl,rfl,rfl⟩,hil.push _⟩,?_,?_⟩)
 ·intro i v s' Q' E' hP hT
  obtain⟨b,e,rfl⟩:=hb.get i v (by simpa using hP);simp only[e,Option.getD_some] at hT;exact ja hT
 ·intro h' tk hk
  have e2:((c7 its.toArray.size).all λi=>(bs[i]?).getD true)=bs.all id:=by
   rw[aH,hb.length];exact LSm.range_all bs
  rw[e2];exact⟨.bl _,H,I.kept (LSm.kept_iter hk),rfl,q⟩
theorem op_eqL0 (hu:X.A.units<cLine):OpR X (fJ .Eq) (λx y H Q=>∃a b xs,x= .ref a∧y= .ref b∧SqL X.K H a xs∧SqL X.K H b []∧Q (.bl xs.isEmpty) H):=by
 intro aN s σ H x y v u Q I rx ry h;obtain⟨a,b,xs,rfl,rfl,ha,hb,q⟩:=h;cases(show v=af.ref a from rx);cases(show u=af.ref b from ry);obtain⟨its,r1,p1,_⟩:=I.list ha;obtain⟨its2,r2,p2,_⟩:=I.list hb;cases r2;cases r1 with
 | nil=>exact SeqAt.eq_listAt (e:=λ_=>true) p1.isList p2.isList rfl hu (λj h1 _=>rQ h1 ∅) (gq I q ∅)
 | cons _ _=>exact SeqAt.eq_list_lengthsAt p1.isList p2.isList ∅ hu (gq I q ∅)
def tyn (H:Hp):V→Option String
 | .non=>some "NoneType"
 | .bl _=>some "bool"
 | .int _=>some "int"
 | .str _=>some "str"
 | .ref a=>match H a with
  | some (.lst _)=>some "list"
  | some (.tup _)=>some "tuple"
  | some (.dK _)=>some "dict"
  | _=>none
 | _=>none
theorem TyOf.byName (h:tyn H v=some T):TyOf K H v (.type T):=by
 cases v with
 | non=>cases h;exact .non
 | bl b=>cases h;exact .bl b
 | int i=>cases h;exact .int i
 | str x=>cases h;exact .str x
 | ref a =>
  simp only[tyn] at h;cases e:H a with
  | none=>rw[e] at h;cases h
  | some o =>
   rw[e] at h;cases o <;> first | (cases h;first | exact .lst e | exact .tup e | exact .dK e) | cases h
 | _=>cases h
theorem kit_tuple (K:ak)(h:T∈["NoneType","bool","int","str","list","tuple","dict"]):iC K (.type T) (.type "tuple")=some (T == "tuple"):=by
 simp only[ay,bz,or_false] at h
 rcases h with rfl | rfl | rfl | rfl | rfl | rfl | rfl <;> kernel_rfl
theorem kit_int (K:ak)(h:T∈["NoneType","bool","int","str","list","tuple","dict"]):iC K (.type T) (.type "int")=some (T == "int" || T == "bool"):=by
 simp only[ay,bz,or_false] at h
 rcases h with rfl | rfl | rfl | rfl | rfl | rfl | rfl <;> kernel_rfl
theorem kit_bool (K:ak)(h:T∈["NoneType","bool","int","str","list","tuple","dict"]):iC K (.type T) (.type "bool")=some (T == "bool"):=by
 simp only[ay,bz,or_false] at h
 rcases h with rfl | rfl | rfl | rfl | rfl | rfl | rfl <;> kernel_rfl
theorem tyn_mem (h:tyn H v=some T):T∈["NoneType","bool","int","str","list","tuple","dict"]:=by
 cases v with
 | non=>cases h;simp
 | bl b=>cases h;simp
 | int i=>cases h;simp
 | str x=>cases h;simp
 | ref a =>
  simp only[tyn] at h;cases e:H a with
  | none=>rw[e] at h;cases h
  | some o =>
   rw[e] at h;cases o <;> first | (cases h;simp;done) | cases h
 | _=>cases h
theorem mK:jU X (.builtin "isinstance") (λxs H Q=>∃x n t b,xs=[x,.ty n]∧TyOf X.K H x t∧iC X.K t (.type n)=some b∧Q (.bl b) H):=by
 intro aN s σ H xs us Q I r h;obtain⟨x,n,t,b,rfl,ty,e,q⟩:=h;obtain⟨u,w',rfl,ru,rw'⟩:=vals2 r;cases(show w'=af.type n from rw');exact isinst_ok I ru ty e λtk=>⟨.bl b,H,I.tok tk,rfl,q⟩
theorem call_isTup:jU X (.builtin "isinstance") (λxs H Q=>∃x T,xs=[x,.ty "tuple"]∧tyn H x=some T∧Q (.bl (T == "tuple")) H) :=
 λaN s σ H xs us Q I r ⟨x,T,e,hT,q⟩=>mK aN s σ H xs us Q I r ⟨x,_,_,_,e,.byName hT,kit_tuple _ (tyn_mem hT),q⟩
theorem call_isInt:jU X (.builtin "isinstance") (λxs H Q=>∃x T,xs=[x,.ty "int"]∧tyn H x=some T∧Q (.bl (T == "int" || T == "bool")) H) :=
 λaN s σ H xs us Q I r ⟨x,T,e,hT,q⟩=>mK aN s σ H xs us Q I r ⟨x,_,_,_,e,.byName hT,kit_int _ (tyn_mem hT),q⟩
theorem call_isBool:jU X (.builtin "isinstance") (λxs H Q=>∃x T,xs=[x,.ty "bool"]∧tyn H x=some T∧Q (.bl (T == "bool")) H) :=
 λaN s σ H xs us Q I r ⟨x,T,e,hT,q⟩=>mK aN s σ H xs us Q I r ⟨x,_,_,_,e,.byName hT,kit_bool _ (tyn_mem hT),q⟩
inductive rCatA (K:ak)(x:V)(y:V)(H:Hp)(Q:VK):Prop
 | mk (a b xs ys:_)(_:x= .ref a)(_:y= .ref b)(_:H a=some (.tup xs))(_:H b=some (.tup ys))(_:xs.length+ys.length≤az)(_:∀p H',cb H H'→H' p=some (.tup (xs++ys))→Q (.ref p) H')
theorem op_catA:OpR X (iH .Add) (rCatA X.K):=by
 intro aN s σ H x y v u Q I rx ry h;obtain⟨a,b,xs,ys,rfl,rfl,ha,hb,hz,q⟩:=h;cases xs with
 | cons x xs =>
  apply op_catT aN s σ H (.ref a) (.ref b) v u Q I rx ry ⟨a,b,_,ys,rfl,rfl,SqT.of ha,SqT.of hb,∅,hz,λe=>?_,λ_ p hp=>?_⟩
  ·subst e
   exact q a H (cb.refl H) (by rw[cz];exact ha)
  ·exact q p _ (λc o e=>by rw[aX (aR e hp)];exact e) aQ
 | nil =>
  cases(show v=af.ref a from rx);cases(show u=af.ref b from ry);obtain⟨its,r1,p1,_⟩:=I.tuple (SqT.of (K:=X.K) ha);obtain⟨its2,r2,p2,_⟩:=I.tuple (SqT.of (K:=X.K) hb);cases r1;obtain⟨⟨c1,d1,t1,l1⟩,o1,k1,n1,g1⟩:=id p1;obtain⟨⟨c2,d2,t2,l2⟩,o2,k2,n2,g2⟩:=id p2;simp only at k1 g1 k2 g2;subst k1 g1 k2 g2;exact concat_meets ⟨_,o1,rfl⟩ ⟨_,o2,rfl⟩ noFill_tuple_add seq_tuple_add PySem.F.slot_tuple_add mM (mx _ _)
   (tuple_addW0 a b _ its2.toArray n1 n2 d1 d2 l1 l2 ∅) ⟨o1,o2,⟨.ref b,H,I,rfl,q b H (cb.refl H) hb⟩⟩
def jP (X:Cx)(scope:Scope)(cl:List (Str×aq))(C:aq)(N:List Str)(s:ar)(H:Hp)(ex:List aq):Cx :=
 { X with N:=N,s₀:=s,H₀:=H,env:=compEnvC scope cl C X.env,outer:=X.stack,ex:=ex,fn:=λ_=>false,pn:=[],xe:=λ_ _=>False }
theorem closure_has (hf:∀y∈scope.names,y.2= .free→∃c,env.cells.lookup y.1=some c) :
  ∃cl,closureFor scope env=iS cl∧(∀x c,cl.lookup x=some c→env.cells.lookup x=some c)∧∀y∈scope.names,y.2= .free→cl.lookup y.1=env.cells.lookup y.1:=by
 have aux:∀(names:List (Str×eO)) (acc:List (Str×aq)),(∀y∈names,y.2= .free→∃c,env.cells.lookup y.1=some c)→(∀x c,acc.lookup x=some c→env.cells.lookup x=some c) →
   ∃ cl,(forIn names acc fun x r=>match x with
     | (name,kind)=>if (kind == eO.free)=true then (cellOf env name >>= fun c=>iS (ForInStep.yield ((name,c)::r))) else iS (ForInStep.yield r):Sem (List (Str×aq)))=iS cl ∧
    (∀x c,cl.lookup x=some c→env.cells.lookup x=some c)∧(∀x c,acc.lookup x=some c→cl.lookup x=some c)∧∀y∈names,y.2= .free→cl.lookup y.1=env.cells.lookup y.1:=by
  intro names
  induction names with
  | nil=>intro acc _ ha;exact⟨acc,rfl,ha,λ_ _ e=>e,λy hy=>rQ hy ∅⟩
  | cons z r ih =>
   intro acc hn ha;obtain⟨n,k⟩:=z;have hr:∀y∈r,y.2= .free→∃c,env.cells.lookup y.1=some c:=λy hy=>hn y (aE _ hy)
   by_cases hk:k= .free
   ·subst hk
    obtain⟨c,hc⟩:=hn (n,.free) bh rfl;have hc:env.cells.lookup n=some c:=hc;have ha':∀x d,((n,c)::acc).lookup x=some d→env.cells.lookup x=some d:=λx d e=>by
     rw[gf] at e;cases hx:x == n with
     | true =>
      rw[hx] at e;have e':c=d:=bU e;have ex:x=n:=eq_of_beq hx;rw[ex,←e'];exact hc
     | false=>rw[hx] at e;exact ha x d e
    obtain⟨cl,e1,e2,e3,e4⟩:=ih ((n,c)::acc) hr ha';have ow:cellOf env n=iS c:=by unfold cellOf;rw[hc]
    apply⟨cl,?_,e2,λx d e=>?_,λy hy hy2=>?_⟩
    ·rw[List.forIn_cons]
     show((if (eO.free == eO.free)=true then (cellOf env n >>= λc=>iS (ForInStep.yield ((n,c)::acc))) else iS (ForInStep.yield acc)) >>= _)=_;rw[rP (by decide:(eO.free == eO.free)=true),ow];exact e1
    ·have h1:((n,c)::acc).lookup x=some (if x == n then c else d):=by
      rw[gf];cases hx:x == n with
      | true=>rfl
      | false=>exact e
     have h2:=e3 x _ h1;have h3:=e2 x _ h2;have h4:=ha x d e;rw[h3] at h4;rw[h2];exact h4
    ·rcases ay.mp hy with rfl | hy3
     ·have h1:((n,c)::acc).lookup n=some c:=by rw[gf,beq_self_eq_true]
      show cl.lookup n=_;rw[e3 n c h1,hc]
     ·exact e4 y hy3 hy2
   ·have hb:(k == eO.free)=false:=by simpa using hk
    obtain⟨cl,e1,e2,e3,e4⟩:=ih acc hr ha;apply⟨cl,?_,e2,e3,λy hy hy2=>?_⟩
    ·rw[List.forIn_cons]
     show((if (k == eO.free)=true then (cellOf env n >>= λc=>iS (ForInStep.yield ((n,c)::acc))) else iS (ForInStep.yield acc)) >>= _)=_;rw[hb];exact e1
    ·rcases ay.mp hy with rfl | hy3
     ·exact rQ hy2 hk
     ·exact e4 y hy3 hy2
 obtain⟨cl,e1,e2,_,e4⟩:=aux scope.names [] hf λx c e=>by cases e
 apply⟨cl,Eq.trans ?_ e1,e2,e4⟩;unfold closureFor
 first
  | rfl
  | (simp only[bind_pure];done)
  | (simp only[bind_pure];rfl)
  | (simp only [bind_pure]
     congr 1
     funext x r
     obtain ⟨n,k⟩:=x;cases (k == eO.free) <;> rfl)
theorem pz {env:Env}:∀{names:List (Str×eO)} {x:Str} {k':eO},
  (names.map λ(n,k)=>if (k == eO.free && env.scope.kind == .function && env.kindOf n == some .cell) then (n,eO.cell) else (n,k)).lookup x=some k' →
  names.lookup x=some k'∨(names.lookup x=some .free∧k'= .cell)
 | [],_,_,h=>by simp at h
 | (n,k)::r,x,k',h=>by
  have ih:= @pz env r x k';rw[bq] at h;show fK x ((n,k)::r)=_∨(fK x ((n,k)::r)=_∧_);rw[gf]
  by_cases hq:(k == eO.free && env.scope.kind == .function && env.kindOf n == some .cell)=true
  ·have g:fK x ((if (k == eO.free && env.scope.kind == .function && env.kindOf n == some .cell)=true then (n,eO.cell) else (n,k))::_)=_:=h
   rw[rP hq,gf] at g;have hk:k= .free:=by
    rw[cv,cv] at hq;exact eq_of_beq hq.1.1
   cases hx:x == n with
   | true=>rw[hx] at g;rw[hk];exact .inr ⟨rfl,(bU g).symm⟩
   | false=>rw[hx] at g;exact ih g
  ·have g:fK x ((if (k == eO.free && env.scope.kind == .function && env.kindOf n == some .cell)=true then (n,eO.cell) else (n,k))::_)=_:=h
   rw[rO hq,gf] at g;cases hx:x == n with
   | true=>rw[hx] at g;exact .inl g
   | false=>rw[hx] at g;exact ih g
theorem pO {env:Env}(hk:env.scope.kind= .function){x:Str}(hx:env.kindOf x=some .cell):∀{names:List (Str×eO)},names.lookup x=some .free →
  (names.map λ(n,k)=>if (k == eO.free && env.scope.kind == .function && env.kindOf n == some .cell) then (n,eO.cell) else (n,k)).lookup x=some .cell
 | [],h=>by simp at h
 | (n,k)::r,h=>by
  have ih:= @pO env hk x hx r;show fK x ((if (k == eO.free && env.scope.kind == .function && env.kindOf n == some .cell)=true then (n,eO.cell) else (n,k))::_)=some eO.cell;rw[gf] at h;cases hxn:x == n with
  | true =>
   rw[hxn] at h;have ek:k= .free:=bU h;have en:x=n:=eq_of_beq hxn;subst ek en;rw[rP (by rw[hk,hx];rfl),gf,beq_self_eq_true]
  | false =>
   rw[hxn] at h
   by_cases hq:(k == eO.free && env.scope.kind == .function && env.kindOf n == some .cell)=true
   ·rw[rP hq,gf,hxn];exact ih h
   ·rw[rO hq,gf,hxn];exact ih h
def PTs (X:Cx)(ifs:List Expr)(t:TT):Prop :=
 ∀(aN:List (aq×Obj)) (s:ar) (σ:St) (H:Hp) (Q:Bool→Hp→Prop),Inv X aN σ H s→t σ H Q →
  aY (bF X.prog X.w) X.A (forIn ifs true λc r=>if r=true then do let ok ← isTrue c X.env (dY c X.env);iS (ForInStep.yield ok) else iS (ForInStep.yield r)) (TP X aN σ Q) X.xe s
def tNoIf:TT:=λ_ H Q=>Q true H
theorem jq {A B:Hp→Prop}(h:A H):tNoIf σ H λb H4=>if b=true then A H4 else B H4:=by
 show if true=true then A H else B H;rw[rP rfl];exact h
theorem kh:PTs X [] tNoIf:=λ_ _ _ H _ I h=>wpAny_tests_nil ⟨H,I,h⟩
theorem pts_one {c:Expr}{t:TT}(h:PT X c t):PTs X [c] t:=λaN s σ H Q I q=>wpAny_tests_one (h aN s σ H Q I q)
theorem HOk.take (x:HOk P w H h)(hn:H a=none)(new:iZ P w (upd H a o) h a o):HOk P w (upd H a o) h:=λb u e=>by
 by_cases hb:b=a
 ·subst hb;rw[aQ] at e;cases e;exact new
 ·rw[aX hb] at e
  exact(x b u e).stay (λ_ _ _ q=>q) (λc q=>by rw[aX (aR q hn)];exact q) λc xs q=>by rw[aX (aR q hn)];exact q
def iG (σ:St)(js:List Nat):St:=js.map λj=>(σ[j]?).getD none
def CompW (js:List Nat)(tt:TT)(te:TE)(σ:St)(Q:VK)(J:It)(H1:Hp):Prop:=∃W:Nat→Nat→List V→Hp→Prop,(∃m,W 0 m [] H1)∧∀i m ys H2,W i m ys H2 →
 (J.stop i H2∧∀D,H2 D=none→Q (.ref D) (upd H2 D (.lst ys))) ∨
 (J.go i H2∧ys.length<az∧∃ N:List V→Hp→Prop,(∀ ys' H',N ys' H'→∃ m',m'<m∧W (i+1) m' ys' H')∧∀ x H3,J.yld i H2 x H3→tt (some x::iG σ js) H3 fun b H4 =>
  if b=true then te (some x::iG σ js) H4 fun y H5=>N (ys++[y]) H5 else N ys H4)
def tComp (wi:TI)(js:List Nat)(tt:TT)(te:TE):TE:=λσ H Q=>wi σ H λJ H1=>CompW js tt te σ Q J H1
abbrev lobj (us:List af)(n:Nat):Obj:={ cls:= .type "list",data:= .seq us.toArray n }
abbrev rL (prog:aK)(w:bg)(A:cn)(env:Env)(R:Result→ar→Prop):af→ar→Prop:=notedBy (bF prog w) A env λx t=>R (.error x) t
theorem loop_any {it acc:af}(J:Nat→ar→Prop)
  (step:∀ k t,J k t→aY (bF prog w) A (pyNext it) (fun r t1=>match r with
   | none=>R (.ok .next) t1
   | some v=>aY (bF prog w) A (mj tg it v) (fun _ t2=>aY (bF prog w) A (assign tg env v) (fun _ t3 =>
     aY (bF prog w) A (forIn ifs true fun c b=>if b=true then do let z ← isTrue c env (dY c env);iS (ForInStep.yield z) else iS (ForInStep.yield b)) (fun z t4 =>
      if z=true then aY (bF prog w) A (dY elt env) (λy t5=>aY (bF prog w) A (call (.builtin "list.append") [acc,y]) (λ_ t6=>∃m,m<k∧J m t6) (rL prog w A env R) t5) (rL prog w A env R) t4
      else ∃ m,m<k∧J m t4) (rL prog w A env R) t3) (rL prog w A env R) t2) (rL prog w A env R) t1) (rL prog w A env R) t)
  (k:Nat) (h:J k s):codeAny (bF prog w) A (.compLoop (.ListComp elt [⟨tg,iter,ifs,0⟩] scope pos) 0 it acc env) R s:=by
 apply codeAny_loop rfl J (λk t hJ=>?_) k h;show aY _ A ((compTurn (.ListComp elt [⟨tg,iter,ifs,0⟩] scope pos) 0 it acc env).onRaise (λy=>do noteFrame y env;theTreesLotGoes y)) _ _ t;apply wpAny_noted ?_;rw[compTurn_list];apply aj (wpAny_standAt (aj (dG (step k t hJ) (λr t1 q1=>?_) λ_ _ f=>f)));cases r with
 | none=>exact aJ q1
 | some v =>
  apply aj (dG q1 (λ_ t2 q2=>?_) λ_ _ f=>f);apply aj (dG q2 (λ_ t3 q3=>?_) λ_ _ f=>f);apply aj (dG q3 (λz t4 q4=>?_) λ_ _ f=>f);cases z with
  | false=>exact aJ ⟨rfl,q4⟩
  | true=>exact aj (aj (dG q4 (λy t5 q5=>aj (dG q5 (λ_ t6 q6=>aJ (aJ ⟨rfl,q6⟩)) λ_ _ f=>f)) λ_ _ f=>f))
def CompWT (n:Nat)(g:TG)(js:List Nat)(tt:TT)(te:TE)(σ:St)(Q:VK)(J:It)(H1:Hp):Prop:=∃W:Nat→Nat→List V→Hp→Prop,(∃m,W 0 m [] H1)∧∀i m ys H2,W i m ys H2 →
 (J.stop i H2∧∀D,H2 D=none→Q (.ref D) (upd H2 D (.lst ys))) ∨
 (J.go i H2∧ys.length<az∧∃ N:List V→Hp→Prop,(∀ ys' H',N ys' H'→∃ m',m'<m∧W (i+1) m' ys' H')∧∀ x H3,J.yld i H2 x H3→∀ v0:St,v0.length=n→g x (v0++iG σ js) H3 fun σ4 H4 =>
  (∃ v1:St,v1.length=n∧σ4=v1++iG σ js)∧tt σ4 H4 fun b H5=>if b=true then te σ4 H5 fun y H6=>N (ys++[y]) H6 else N ys H5)
theorem comp_core {Q:VK}{use:Option (af→Sem Unit)}{R:af→ar→Prop}{xs:List Str}
  (hc:X.calm=true) (hi:PI X tg iter wi)
  (ow:∀y∈scope.names,y.2≠ .cell) (pJ:scope.kind= .function) (oT:∀y∈scope.names,y.2= .local→scope.names.lookup y.1=some .local)
  (hfr:∀y∈scope.names,y.2= .free→X.env.scope.names.lookup y.1=some .cell) (hjs:js.map (λj=>X.N[j]?)=fr.map some) (hfv:∀y∈fr,scope.names.lookup y=some .free)
  (hg:∀cl C s' H' ex,PG (jP X scope cl C (xs++fr) s' H' ex) tg g)
  (hb:∀cl C s' H' ex,PE (jP X scope cl C (xs++fr) s' H' ex) elt te∧PTs (jP X scope cl C (xs++fr) s' H' ex) ifs tt)
  (hCW:∀σ Q J H1,CW σ Q J H1→CompWT xs.length g js tt te σ Q J H1) (I:Inv X aN σ H s) (h:wi σ H λJ H1=>CW σ Q J H1)
  (fin:∀(s4:ar) (H5:Hp) (D C:aq) (mC:Str→Option af),s4.heap.Ns C mC→Inv X aN σ H5 s4→H5 C=none→C≠X.env.locals→C ∉ X.fs→(∀p∈X.pn++aN,p.1≠C)→(∀y c,X.env.cells.lookup y=some c→c≠C)→X.s₀.heap.objs.size≤C→Q (.ref D) H5→compPost (bF X.prog X.w) X.A X.xe use R (.ref D) C (.ok .next) s4)
  (hs:autoParam (∀z,jZ iter X.env z=iS z) L2.au2._auto_1) :
  aY (bF X.prog X.w) X.A (comprehension (.ListComp elt [⟨tg,iter,ifs,0⟩] scope pos) scope X.env pos' (newList []) false (dY iter X.env) use) R X.xe s:=by
 have hXk:X.env.scope.kind= .function:=I.ok.kind;obtain⟨cl,hclos,c1,c2⟩:=closure_has (scope:=scope) (env:=X.env) λy hy hk=>I.ok.has _ (.inl (hfr y hy hk))
 apply wpAny_comprehension_free rfl hs hclos pJ oT (thn (hi aN s σ H _ I h) λxv s1 h1=>thn h1 λitv s2 h2=>?_);obtain⟨it,fp,tn,J,H2,rfl,I2,T,st2,f2,hcw⟩:=h2;obtain⟨W,⟨m0,w0⟩,turn⟩:=hCW _ _ _ _ hcw;apply gM (wpAny_newFunctionEnv ow (by intro y hy;simp at hy) (λhA nsA sbA=>?_) pJ)
 dsimp only at nsA sbA ⊢
 generalize hG:s2.heap.push { cls:= .type "list",dict:=none,data:= .seq ([]:List af).toArray }=G at nsA sbA ⊢;have hC:G.objs.size=s2.heap.objs.size+1:=by rw[←hG,eF]
 have hDC:s2.heap.objs.size≠G.objs.size:=by rw[hC];exact cG (Nat.lt_succ_self _)
 have small:∀b o,s2.heap.get? b=some o→b≠G.objs.size∧b≠s2.heap.objs.size:=λb o e=>⟨by rw[hC];exact cG (Nat.lt_succ_of_lt (aW e)),cG (aW e)⟩
 have old:∀b o,s2.heap.get? b=some o→hA.get? b=some o:=λb o e=>sbA.extBut b o (small b o e).1 (au _ (hG ▸ au _ e))
 have hDA:hA.get? s2.heap.objs.size=some (lobj [] 0):=sbA.extBut _ _ hDC (au _ (hG ▸ aU _ rfl));have fpo:∀b∈fp,∃o,s2.heap.get? b=some o:=λb hb=>let ⟨o,e,_⟩:=T.obj _ _ st2 b hb;⟨o,e⟩
 have celo:∀y c,cl.lookup y=some c→∃o,s2.heap.get? c=some o:=λy c e=>let ⟨_,o,ho,_⟩:=I2.cell y c (c1 y c e);⟨o,ho⟩
 have ok':(jP X scope cl G.objs.size (xs++fr) s2 H2 fp).Ok:=by
  apply⟨I2.ok.mod,pJ,I2.ok.glob,I2.ok.blt,?_,λa b c e1 e2=>I2.ok.inj a b c (c1 a c e1) (c1 b c e2),λy hy=>?_,λ_ _ z=>rQ z (by intro q;cases q),I2.ok.hd,I2.ok.frames,.inl rfl,λb hb=>?_,I2.bs,cO I2.ok.bsz I2.sz,λb o e hb=>?_,λb hb hz=>?_,I2.stack,I2.stkFree⟩
  ·show s2.heap.objs.size≤G.objs.size
   rw[hC];exact ju _
  ·have hy:(relabel scope X.env).names.lookup y=some .cell∨(relabel scope X.env).names.lookup y=some .free:=hy
   have key:scope.names.lookup y=some .free:=by
    rcases hy with hy | hy
    ·rcases pz hy with q | ⟨q,_⟩
     ·exact rQ rfl (ow _ (gz q))
     ·exact q
    ·rcases pz hy with q | ⟨q,_⟩
     ·exact q
     ·exact q
   have hm:=gz key;obtain⟨c,e⟩:=I.ok.has y (.inl (hfr _ hm rfl));exact⟨c,(c2 _ hm rfl).trans e⟩
  ·obtain⟨o,e⟩:=fpo b hb
   exact⟨(small b o e).1,λy c q=>(f2 b hb).2.2.2.2.1 y c (c1 y c q)⟩
  ·obtain⟨_,_,_,f3,_⟩:=f2 b hb
   rcases f3 with f3 | f3
   ·exact I2.ok.noex b o e f3
   ·exact rQ (ck (aW e) (cO I2.ok.bsz f3)) (iF _)
  ·obtain⟨_,n1,n2,_⟩:=f2 b hb
   exact(ay.mp (I2.stkSub b hz)).elim n1 n2
 have nofs:s2.heap.objs.size ∉ frs X.stack:=λhz=>by
  obtain⟨_,o,ho,_⟩:=I2.stack.mem hz;exact iF _ (aW ho)
 have lenB:(iG σ js).length=fr.length:=by
  have e:=rV jW hjs;rw[ae,ae] at e;unfold iG;rw[ae];exact e
 have start':∀t,Inv (jP X scope cl G.objs.size (xs++fr) s2 H2 fp) [(s2.heap.objs.size,lobj [] 0)] ((xs.map λ_=>none)++iG σ js) H2 { s2 with heap:=hA,toks:=t }:=λt=>by
  apply⟨ok',rfl,I2.bare,Un.kept old,⟨_,nsA,λi y v e1 e2 e3=>?_⟩,λy c e=>?_,I2.hok.fresh (by rw[hC];exact ju _),λy c e=>I2.freeC y c (c1 y c e),λp hp=>?_,I2.hok.kept old,?_⟩
  ·by_cases hix:i<xs.length
   ·rw[bI (by rw[ae];exact hix),aC,gE hix] at e2
    cases e2
   ·obtain⟨i,rfl⟩:∃j,i=xs.length+j:=⟨i - xs.length,⋯⟩
    have e1:(xs++fr)[xs.length+i]? =some y:=e1;have e1:fr[i]? =some y:=by rw[bc ⋯,show xs.length+i - xs.length=i by lia] at e1;exact e1
    have e2:(iG σ js)[i]? =some (some v):=by rw[bc (by rw[ae];lia),ae,show xs.length+i - xs.length=i by lia] at e2;exact e2
    unfold iG at e2;rw[aC] at e2;obtain⟨j,ej,e2⟩:=aV.mp e2;have hN:X.N[j]? =some y:=by
     have q:=rV (λl=>l[i]?) hjs;simp only[aC,ej,e1,Option.map_some] at q;exact bU q
    have hσ:σ[j]? =some (some v):=by
     cases z:σ[j]? with
     | none=>rw[z] at e2;cases e2
     | some w=>rw[z] at e2;exact rV some e2
    have hfree:=hfv y (aD e1);have hm:=gz hfree;have hce:X.env.scope.names.lookup y=some .cell:=hfr _ hm rfl;obtain⟨m,_,hl⟩:=I2.loc;obtain⟨u,ru,look⟩:=hl j y v hN hσ (.inr (.inl hce));apply⟨u,ru,.inr ⟨.inl (pO hXk hce hfree),?_⟩⟩
    rcases look with ⟨k,_⟩ | ⟨_,c,ec,ho⟩
    ·have k:X.env.scope.names.lookup y=some .local:=k
     rw[hce] at k;cases k
    ·obtain⟨o,ho,hd⟩:=ho
     exact⟨c,(c2 _ hm rfl).trans ec,o,old c o ho,hd⟩
  ·obtain⟨v,o,ho,hd⟩:=I2.cell y c (c1 y c e)
   exact⟨v,o,old c o ho,hd⟩
  ·have hp:p∈[(s2.heap.objs.size,lobj [] 0)]:=hp
   have e:=aB.mp hp;subst e;exact⟨hDA,I2.hok.fresh (aG _),hDC,nofs,λv z=>by cases z⟩
  ·show((xs.map λ_=>none)++iG σ js).length=(xs++fr).length
   rw[ao,ao,ae,lenB]
 have fok:∀{us:List af} {n:Nat} {H':Hp},(∀b∈fp,H' b=none)→∀b∈fp,FpOk (jP X scope cl G.objs.size (xs++fr) s2 H2 fp) [(s2.heap.objs.size,lobj us n)] H' b:=λ{us n H'} hn b hb=>by
  obtain⟨o,e⟩:=fpo b hb;apply⟨hn b hb,(small b o e).1,λhz=>(ay.mp (I2.stkSub b hz)).elim (f2 b hb).2.1 (f2 b hb).2.2.1,.inl hb,λy c q=>(f2 b hb).2.2.2.2.1 y c (c1 y c q),λp hp=>?_⟩;have hp:p∈[(s2.heap.objs.size,lobj us n)]:=hp;have ep:=aB.mp hp;subst ep;exact λz=>(small b o e).2 z.symm
 have loop:∀sB:ar,(∃t,sB={ s2 with heap:=hA,toks:=t }) →
   codeAny (bF X.prog X.w) X.A (.compLoop (.ListComp elt [⟨tg,iter,ifs,0⟩] scope pos) 0 (.ref it) (.ref s2.heap.objs.size) (compEnvC scope cl G.objs.size X.env))
    (compPost (bF X.prog X.w) X.A X.xe use R (.ref s2.heap.objs.size) G.objs.size) sB:=by
  rintro sB ⟨t,rfl⟩;apply loop_any (λk s'=>∃i ys us n v0 H',v0.length=xs.length∧Inv (jP X scope cl G.objs.size (xs++fr) s2 H2 fp) [(s2.heap.objs.size,lobj us n)] (v0++iG σ js) H' s'∧ie ys us∧ys.length≤az∧tn i s'.heap∧(∀b∈fp,H' b=none)∧W i k ys H') ?_ m0
   ⟨0,[],[],0,xs.map λ_=>none,H2,ae ..,start' t,.nil,cV _,T.keep _ _ _ st2 λb hb o e=>old b o e,λb hb=>(f2 b hb).1,w0⟩
  rintro k s3 ⟨i,ys,us,n,v0,H3,hv0,I3,rv,hlen,st3,fr3,w3⟩
  rcases turn i k ys H3 w3 with ⟨stop,qn⟩ | ⟨go,hlt,N',hN',step⟩
  ·apply thn (T.done (jP X scope cl G.objs.size (xs++fr) s2 H2 fp) rfl rfl rfl hc i _ s3 _ H3 _ I3 (fok fr3) st3 stop) λr s4 hz0=>?_
   obtain⟨hr,I4⟩:=hz0;subst hr;obtain⟨mC,hnC,_⟩:=id I4.loc;obtain⟨pD,nD,_,_,_⟩:=I4.pin (s2.heap.objs.size,lobj us n) (by show _∈[]++[_];simp);have pD:s4.heap.get? s2.heap.objs.size=some (lobj us n):=pD;have nD:H3 s2.heap.objs.size=none:=nD;have nC:H3 G.objs.size=none:=I4.free;have D2:∀b o,s2.heap.get? b=some o→b≠s2.heap.objs.size:=λb o e=>(small b o e).2
   have base4:Un (frs X.stack) fp H2 H3 s2.heap s4.heap:=I4.base;have u4:Un (frs X.stack) fp H2 (upd H3 s2.heap.objs.size (.lst ys)) s2.heap s4.heap :=
    {keep:=base4.keep
     slot:=base4.slot
     free:=λb o e nb hx'=>by rw[aX (D2 b o e)];exact base4.free b o e nb hx'
     there:=base4.there
     tups:=λb xs e=>by have q:=base4.tups b xs e;rw[aX (aR q nD)];exact q
     frzs:=λb o u e=>by have q:=base4.frzs b o u e;rw[aX (aR q nD)];exact q
     tbls:=fun b ps e=>by obtain ⟨more,q⟩:=base4.tbls b ps e;exact ⟨more,by rw [aX (aR q nD)];exact q⟩ }
   have I5:Inv X aN σ (upd H3 s2.heap.objs.size (.lst ys)) s4:=I2.call' (s':=s4) (ch:=fp) I4.os u4 (I4.hok.take nD ⟨hlen,us,n,rv,pD⟩) I4.bare λb hb=>by
    obtain⟨_,g1,_,g3,g4,g5⟩:=f2 b hb;exact⟨g3,g1,g4,g5⟩
   have locC:G.objs.size≠X.env.locals:=λz=>by
    obtain⟨_,⟨o,_,_,ho,_⟩,_⟩:=id I2.loc;exact(small _ o ho).1 z.symm
   have fsC:G.objs.size ∉ X.fs:=λhz=>by
    obtain⟨_,o,ho,_⟩:=I2.ok.funs.mem hz;have:=ck (aW ho) I2.sz;rw[hC] at this;exact iF _ (Nat.lt_of_succ_lt this)
   have pinX:∀p∈X.pn++aN,p.1≠G.objs.size:=λp hp=>(small _ _ (I2.pin p hp).1).1
   have nCu:(upd H3 s2.heap.objs.size (.lst ys)) G.objs.size=none:=by rw[aX (cQ hDC)];exact nC
   apply fin s4 _ _ _ mC hnC I5 nCu locC fsC pinX (λy c q z=>?_) (cO I2.sz (by rw[hC];exact ju _)) (qn _ nD);obtain⟨v,o,ho,_⟩:=I2.cell y c q;exact(small c o ho).1 z
  ·apply thn (T.item (jP X scope cl G.objs.size (xs++fr) s2 H2 fp) rfl rfl rfl hc i _ s3 _ H3 _ I3 (fok fr3) st3 go) λr s4 hz0=>?_
   obtain⟨u,hr,h4⟩:=hz0;subst hr;apply thn h4 λ_ s5 hz0=>?_
   obtain⟨v,H5,I5,r5,y5,st5,fr5⟩:=hz0;have I5':=I5.pinned (fok fr5) (T.obj _ _ st5);apply dG (hg cl G.objs.size s2 H2 fp _ s5 _ H5 v u _ I5' r5 (step v H5 y5 v0 hv0)) (λ_ s6 hz0=>?_) λ_ _ f=>f.elim
   obtain⟨σ6,H6,I6,⟨w1,hw1,e6⟩,q6⟩:=hz0;subst e6;apply dG ((hb cl G.objs.size s2 H2 fp).2 _ s6 _ H6 _ I6 q6) (λb s7 hz0=>?_) λ_ _ f=>f.elim
   obtain⟨H7,I7,q7⟩:=hz0;have back:∀{s8:ar} {H8:Hp},Inv (jP X scope cl G.objs.size (xs++fr) s2 H2 fp) ([(s2.heap.objs.size,lobj us n)]++pinsAt fp s5.heap) (w1++iG σ js) H8 s8→tn (i+1) s8.heap∧∀b∈fp,H8 b=none:=λ{s8 H8} I8=>by
    apply⟨T.keep _ _ _ st5 λb hb o e=>(I8.pin (b,o) (bC _ (bC _ (nM hb e)))).1,λb hb=>?_⟩;obtain⟨o,e,_⟩:=T.obj _ _ st5 b hb;exact(I8.pin (b,o) (bC _ (bC _ (nM hb e)))).2.1
   cases b with
   | false =>
    obtain⟨m',hm,w7⟩:=hN' _ _ q7;obtain⟨t7,n7⟩:=back I7;exact⟨m',hm,i+1,ys,us,n,w1,H7,hw1,I7.unpinned,rv,hlen,t7,n7,w7⟩
   | true =>
    apply dG ((hb cl G.objs.size s2 H2 fp).1 _ s7 _ H7 _ I7 q7) (λy' s8 hz0=>?_) λ_ _ f=>f.elim
    obtain⟨y,H8,I8,r8,q8⟩:=hz0;obtain⟨m',hm,w8⟩:=hN' _ _ q8;obtain⟨t8,n8⟩:=back I8;have I8':=I8.unpinned;obtain⟨pD,nD,_,_,_⟩:=I8'.pin (s2.heap.objs.size,lobj us n) (by show _∈[]++[_];simp);have pD:s8.heap.get? s2.heap.objs.size=some (lobj us n):=pD;have nD:H8 s2.heap.objs.size=none:=nD;apply append_at pD (λh9 hs9 e9=>?_) (by rw[aH,←rv.length];exact hlen);have e9:h9.get? s2.heap.objs.size=some (lobj (us++[y']) (n+1)):=by rw[e9];simp[lobj]
    have J0:Inv (jP X scope cl G.objs.size (xs++fr) s2 H2 fp) [] (w1++iG σ js) H8 s8:=I8'.pins_of λp hp=>rQ hp ∅
    have J9:Inv (jP X scope cl G.objs.size (xs++fr) s2 H2 fp) [] (w1++iG σ js) H8 { s8 with heap:=h9,toks:=s8.toks } :=
     J0.turned (it:=s2.heap.objs.size) (fun b o hb' e=>hs9.extBut b o hb' e) nD hDC (.inr (aG _)) (fun y0 c q z=>by
      obtain ⟨o,e⟩:=celo y0 c q;exact (small c o e).2 z) fun p hp=>rQ (show p∈([]:List (aq×Obj)) from hp) ∅
    apply ⟨m',hm,i+1,ys++[y],us++[y'],n+1,w1,H8,hw1,J9.pins_of fun p hp=>?_,rv.append (.cons r8 .nil),(by rw [ao,eX];exact hlt),T.keep _ _ _ t8 fun b hb' o e=>hs9.extBut b o (by
     obtain ⟨o',e'⟩:=fpo b hb';exact (small b o' e').2) e,n8,w8⟩
    have ep:=aB.mp hp;subst ep;exact⟨e9,nD,hDC,nofs,λv z=>by cases z⟩
 exact codeAny_compStart_list (loop _ ⟨_,rfl⟩) (T.self _ 0 _ _ _ (T.keep _ _ _ st2 λb hb o e=>old b o e) (loop _ ⟨_,rfl⟩))
theorem pe_compC {xs:List Str}
  (hc:X.calm=true) (hi:PI X tg iter wi)
  (ow:∀y∈scope.names,y.2≠ .cell) (pJ:scope.kind= .function) (oT:∀y∈scope.names,y.2= .local→scope.names.lookup y.1=some .local)
  (hfr:∀y∈scope.names,y.2= .free→X.env.scope.names.lookup y.1=some .cell) (hjs:js.map (λj=>X.N[j]?)=fr.map some) (hfv:∀y∈fr,scope.names.lookup y=some .free)
  (hg:∀cl C s' H' ex,PG (jP X scope cl C (xs++fr) s' H' ex) tg g)
  (hb:∀cl C s' H' ex,PE (jP X scope cl C (xs++fr) s' H' ex) elt te∧PTs (jP X scope cl C (xs++fr) s' H' ex) ifs tt)
  (hCW:∀σ Q J H1,CW σ Q J H1→CompWT xs.length g js tt te σ Q J H1) (hs:autoParam (∀z,jZ iter X.env z=iS z) L2.au2._auto_1) :
  PE X (.ListComp elt [⟨tg,iter,ifs,0⟩] scope pos) (λσ H Q=>wi σ H λJ H1=>CW σ Q J H1):=by
 intro aN s σ H Q I h;rw[eval_ListComp];exact comp_core (use:=none) (R:=EP X aN σ Q) hc hi ow pJ oT hfr hjs hfv hg hb hCW I h (λs4 H5 D C mC n I5 nC lC fC pC cC sC q=>⟨mC,n,λh' hsb=>⟨.ref D,H5,I5.turned (t':=s4.toks) (it:=C) (λb o hb' e=>hsb.extBut b o hb' e) nC lC (.inr sC) cC pC,rfl,q⟩⟩) hs
theorem compW_T {Q:VK}{J:It}(h:CompW js tt te σ Q J H1):CompWT 1 (oU 0) js tt te σ Q J H1:=by
 obtain⟨W,w0,turn⟩:=h;apply⟨W,w0,λi m ys H2 hw=>?_⟩
 rcases turn i m ys H2 hw with h | ⟨h1,h2,N,h3,h4⟩
 ·exact .inl h
 ·apply .inr ⟨h1,h2,N,h3,λx H3 hy v0 hv=>?_⟩
  obtain⟨w,rfl⟩:∃w,v0=[w]:=by
   obtain _ | ⟨w,v0⟩:=v0
   ·cases hv
   ·obtain _ | ⟨z,v0⟩:=v0
    ·exact⟨w,rfl⟩
    ·cases hv
  exact⟨⟨[some x],rfl,rfl⟩,h4 x H3 hy⟩
theorem kL {px:Pos}
  (hc:X.calm=true) (hi:PI X (.Name x px) iter wi)
  (ow:∀y∈scope.names,y.2≠ .cell) (pJ:scope.kind= .function) (oT:∀y∈scope.names,y.2= .local→scope.names.lookup y.1=some .local) (hx:scope.names.lookup x=some .local)
  (hfr:∀y∈scope.names,y.2= .free→X.env.scope.names.lookup y.1=some .cell) (hnd:(x::fr).Nodup) (hjs:js.map (λj=>X.N[j]?)=fr.map some) (hfv:∀y∈fr,scope.names.lookup y=some .free)
  (hb:∀cl C s' H' ex,PE (jP X scope cl C (x::fr) s' H' ex) elt te∧PTs (jP X scope cl C (x::fr) s' H' ex) ifs tt)
  (hs:autoParam (∀z,jZ iter X.env z=iS z) L2.au2._auto_1) :
  PE X (.ListComp elt [⟨.Name x px,iter,ifs,0⟩] scope pos) (tComp wi js tt te) :=
 pe_compC (xs:=[x]) (g:=oU 0) hc hi ow pJ oT hfr hjs hfv (λ_ _ _ _ _=>pg_name hnd rfl (.inl (l7 hx)) (.inr (l7 hx))) hb (λ_ _ _ _ h=>compW_T h) hs
theorem nextT_item {j t:aq}{its}{v:af}(jt:s.heap.IsTupleIter j t i)(tt:s.heap.IsTuple t its)(hv:its[i]? =some v)
  (q:∀g,g.IsTupleIter j t (i+1)→de j s.heap g→Q v { s with heap:=g }):aY (bF prog w) A (dJ (.ref j)) Q E s:=by
 obtain⟨ob,e1,e2,e3⟩:=id jt;obtain⟨ot,g1,_,k,g2⟩:=tt;unfold dJ;apply aj (gr (name:=ax "__next__") jt.typeIs j6 (jw j6 jt.typeIs F.entry_tuple_iterator_next ?_ (F.args_tuple_iterator_next_1 _)));show aY _ _ (field (.ref j) 0 >>= _) _ _ s;apply aj (cT e1 e3 (x:= .ref t) rfl ?_);show aY _ _ (ite ((af.ref t == af.none)=true) _ _) _ _ s;rw[rO (λz:(af.ref t == af.none)=true=>bN z)];show aY _ _ (field (.ref j) 1 >>= _) _ _ s;apply aj (cT e1 e3 (x:= .int i 0) rfl ?_);show aY _ _ (seqItems? (.ref t) >>= _) _ _ s;apply aj (j7 g1 g2 ?_);simp only[ff,hv];apply aj (lp e1 e3 ∅ (aJ ⟨v,rfl,aJ (q _ ?_ (de.update ..))⟩));exact⟨_,gP _ e1 (lg (iL e3 _)),(Obj.cls_mapFields ..).trans e2,by rw[iL e3];simp[lB]⟩
theorem nextT_end {j t:aq}{its}(hh:A.handled=none)(jt:s.heap.IsTupleIter j t i)(tt:s.heap.IsTuple t its)(hv:its[i]? =none)
  (q:∀g x,bM.ExtBut j s.heap g→(∃o,g.get? x=some o∧o.cls= .type "StopIteration")→E (.ref x) { s with heap:=g }):aY (bF prog w) A (dJ (.ref j)) Q E s:=by
 obtain⟨ob,e1,e2,e3⟩:=id jt;obtain⟨ot,g1,_,k,g2⟩:=tt;unfold dJ;apply aj (gr (name:=ax "__next__") jt.typeIs j6 (jw j6 jt.typeIs F.entry_tuple_iterator_next ?_ (F.args_tuple_iterator_next_1 _)));show aY _ _ (field (.ref j) 0 >>= _) _ _ s;apply aj (cT e1 e3 (x:= .ref t) rfl ?_);show aY _ _ (ite ((af.ref t == af.none)=true) _ _) _ _ s;rw[rO (λz:(af.ref t == af.none)=true=>bN z)];show aY _ _ (field (.ref j) 1 >>= _) _ _ s;apply aj (cT e1 e3 (x:= .int i 0) rfl ?_);show aY _ _ (seqItems? (.ref t) >>= _) _ _ s;apply aj (j7 g1 g2 ?_);simp only[ff,hv];apply aj (wpAny_rule (aj (lp e1 e3 ∅ ?_)));show aY _ _ (newExc (.type "StopIteration") [] >>= _) _ _ _;apply aj ?_;simp only[newExc,newTuple];apply aj (gM ?_ (by size_fits));apply aj (m:=firstArgMember _ _) (wpAny_of_eq (a:=af.none) (by first | rfl | (unfold firstArgMember;rfl)) ?_);apply gM ?_ (by size_fits);simp only[raiseNew];apply aj (wpAny_handled ?_)
 first | rw[show A.in1.handled=none from hh] | rw[hh]
 exact aj (aJ (wpAny_throw (q _ _ (((de.update ..).extBut.push _).push _) ⟨_,aU _ rfl,rfl⟩)))
section
open AutoSeq1 (wpAny_loadPart')
theorem tupmul_one (l:aq)(items:Array af)(n:Nat)(dd:Option aq)(sl:Array (Option af))(u:Tok) :
  Meets (dC.«tuple.__mul__» ⟨[.ref l,.int 1 u],[]⟩) (λ_ R s=>s.heap.get? l=some { cls:= .type "tuple",dict:=dd,data:= .seq items n,slots:=sl }∧R (.ok (.ret (.ref l))) s) :=
 .of_wp λprog w A R s h=>by
  obtain⟨hp,g,d,tk,os⟩:=s;obtain⟨hl,h⟩:=h;have f1:=AutoSeq1.idx_int
  wp_walk using eZ hl
  exact⟨ρ,h⟩
theorem tupmul_nil (l:aq)(items:Array af)(n:Nat)(dd:Option aq)(sl:Array (Option af))(u:Tok)(h0:¬items.isEmpty=true) :
  Meets (dC.«tuple.__mul__» ⟨[.ref l,.int 0 u],[]⟩) (λ_ R s=>s.heap.get? l=some { cls:= .type "tuple",dict:=dd,data:= .seq items n,slots:=sl }∧R (.ok (.ret (.ref s.heap.objs.size))) { s with heap:=s.heap.push { cls:=af.type "tuple",data:=Data.seq #[] },toks:=s.toks }) :=
 .of_wp λprog w A R s h=>by
  obtain⟨hp,g,d,tk,os⟩:=s;obtain⟨hl,h⟩:=h;have f1:=AutoSeq1.idx_int
  wp_walk using eZ hl
  exact⟨ρ,h⟩
theorem tupmul_more (l:aq)(items:Array af)(n:Nat)(dd:Option aq)(sl:Array (Option af))(x:Int)(u:Tok)
  (c0:¬(decide (x< -2 ^ 63) || decide (x ≥ 2 ^ 63))=true) (c1:¬(items.isEmpty || x == 1)=true) (c2:¬(decide (x≤0) || items.isEmpty)=true) (c3:¬(items.size:Int) * x > (2 ^ 63 - 1) / 8) (c4:¬dC.Tuple.tupleTooMany ((items.size:Int) * x)=true)
  (hsz:(List.foldl (λx1 x2=>x1++x2) #[] (bS x.toNat items)).size≤az) :
  Meets (dC.«tuple.__mul__» ⟨[.ref l,.int x u],[]⟩) (λ_ R s=>s.heap.get? l=some { cls:= .type "tuple",dict:=dd,data:= .seq items n,slots:=sl }∧R (.ok (.ret (.ref s.heap.objs.size))) { s with heap:=s.heap.push { cls:=af.type "tuple",data:=Data.seq (List.foldl (λx1 x2=>x1++x2) #[] (bS x.toNat items)) },toks:=s.toks }) :=
 .of_wp λprog w A R s h=>by
  obtain⟨hp,g,d,tk,os⟩:=s;obtain⟨hl,h⟩:=h;have f1:=AutoSeq1.idx_int
  wp_walk using eZ hl
  apply wpAny_ite_split (λhb=>rQ hb c0) (λ_=>?_)
  wp_walk using eZ hl
  apply wpAny_ite_split (λhb=>rQ hb c3) (λ_=>?_)
  wp_walk using eZ hl
  exact⟨ρ,h⟩
theorem pE:fillsNumberSlot (.type "tuple") "mul" =iS false :=
 PySem.fillsNumberSlot_seq (id := "tuple.__mul__") (r:=some (.builtin "tuple.__rmul__")) F.slot_tuple_mul.lookup (by decide +kernel) F.slot_tuple_rmul.lookup (by decide +kernel)
theorem repeat_tuple':seqRepeat? (.type "tuple")=iS (some (.builtin "tuple.__mul__")):=by
 unfold seqRepeat?;rw[PySem.seqSlot_of (T := "tuple") (name := "__mul__") (id := "tuple.__mul__") F.slot_tuple_mul.lookup (by decide +kernel),PySem.seqSlot_of (T := "tuple") (name := "__rmul__") (id := "tuple.__rmul__") F.slot_tuple_rmul.lookup (by decide +kernel)];rfl
theorem rf (a:Int)(t:Tok)(l:aq)(items:Array af)(n:Nat)(dd:Option aq)(sl:Array (Option af)) :
  Meets (dC.«int.__rmul__» ⟨[.int a t,.ref l],[]⟩) (λ_ R s=>s.heap.get? l=some { cls:= .type "tuple",dict:=dd,data:= .seq items n,slots:=sl }∧R (.ok (.ret af.notImplemented)) s) :=
 .of_wp λprog w A R s h=>by
  obtain⟨hp,g,d,tk,os⟩:=s;obtain⟨hl,h⟩:=h
  wp_walk using eZ hl
  exact⟨ρ,h⟩
theorem mul_tup {l:aq}{k:Int}{t:Tok}
  (ho:s.heap.get? l=some ob) (hc:ob.cls= .type "tuple") (hd:ob.data= .seq its.toArray n) (hne:its≠[]) (h1:0≤k) (h2:its.length * k.toNat≤az) (h3:k<1000000) (h4:its.length<1000000)
  (q1:k=1→Q (.ref l) s) (q2:k≠1→Q (.ref s.heap.objs.size) { s with heap:=s.heap.push { cls:= .type "tuple",data:= .seq (List.foldl (λx1 x2=>x1++x2) #[] (bS k.toNat its.toArray)) } })
  (hsz:(List.foldl (λx1 x2=>x1++x2) #[] (bS k.toNat its.toArray)).size≤az):aY (bF prog w) A (iH .Mult (.ref l) (.int k t)) Q E s:=by
 obtain⟨c,dd,dt,sl⟩:=ob;simp only at hc hd;subst hc hd;have hem:¬its.toArray.isEmpty=true:=by cases its with | nil=>exact rQ rfl hne | cons a r=>simp
 apply wpAny_binaryOp_repeat_ref (T := "tuple") (U := "int") ↥0 ⟨_,ho,rfl⟩ (λs'=>typeIs_int s' k t) pE F.fills_int_mul F.slot_int_rmul repeat_tuple' F.slot_int_index.lookup
  (jh F.slot_int_rmul (typeIs_int s k t) F.entry_int_rmul (F.args_int_rmul_2 _ _) (rf k t l its.toArray n dd sl) ⟨ho,rfl,⟨_,ho,rfl⟩,?_⟩)
 by_cases e1:k=1
 ·subst e1
  exact jh F.slot_tuple_mul ⟨_,ho,rfl⟩ F.entry_tuple_mul (F.args_tuple_mul_2 _ _) (tupmul_one l its.toArray n dd sl t) ⟨ho,q1 rfl⟩
 ·by_cases e0:k=0
  ·subst e0
   exact jh F.slot_tuple_mul ⟨_,ho,rfl⟩ F.entry_tuple_mul (F.args_tuple_mul_2 _ _) (tupmul_nil l its.toArray n dd sl t hem) ⟨ho,q2 e1⟩
  ·have hb:((its.toArray.size:Int) * k).toNat=its.length * k.toNat:=by
    rw[aH];have:((its.length:Int) * k)=((its.length * k.toNat:Nat):Int):=by
     rw[Int.natCast_mul,Int.toNat_of_nonneg h1]
    rw[this];exact ff _
   have hs:(az:Nat)≤1073741824:=by decide
   have hpos:0≤(its.toArray.size:Int) * k:=Int.mul_nonneg ∅ h1;exact jh F.slot_tuple_mul ⟨_,ho,rfl⟩ F.entry_tuple_mul (F.args_tuple_mul_2 _ _) (tupmul_more l its.toArray n dd sl k t
    (by simp;lia) (by simp;exact ⟨by simpa using hem,e1⟩) (by simp;exact ⟨⋯,by simpa using hem⟩) ⋯ (by unfold dC.Tuple.tupleTooMany;simp only [decide_eq_true_eq];lia) hsz) ⟨ho,q2 e1⟩
end
inductive rRepT (x:V)(y:V)(H:Hp)(Q:VK):Prop
 | mk (l k xs:_)(_:x= .ref l)(_:y= .int k)(_:H l=some (.tup xs))(_:xs≠[])(_:0≤k)(_:k<1000)(_:xs.length<1000)(_:∀p H',cb H H'→H' p=some (.tup (bS k.toNat xs).flatten)→Q (.ref p) H')
theorem op_repT:OpR X (iH .Mult) rRepT:=by
 intro aN s σ H x y v u Q I rx ry h;obtain⟨l,k,xs,rfl,rfl,hH,hne,h0,hk,hl,q⟩:=h;cases(show v=af.ref l from rx);obtain⟨t,rfl⟩:=(show ∃t,u=af.int k t from ry);obtain⟨its,r,p,_⟩:=I.tuple (SqT.of (K:=X.K) hH);obtain⟨ob,e1,e2,n,e3⟩:=id p;have hlen:=r.length;have hf:List.foldl (λx1 x2=>x1++x2) #[] (bS k.toNat its.toArray)=(bS k.toNat its).flatten.toArray:=by
  have:=foldl_rep its k.toNat [];rw[List.nil_append] at this;exact this
 have hbig:(bS k.toNat xs).flatten.length≤az:=by
  rw[len_rep];have h1:k.toNat * xs.length≤1000 * 1000:=Nat.mul_le_mul ⋯ ⋯;have h2:(1000000:Nat)≤az:=by decide
  lia
 have hbig2:(bS k.toNat its).flatten.length≤az:=by rw[len_rep,←hlen,←len_rep];exact hbig
 apply mul_tup e1 e2 e3 (λz=>hne (r.nil_iff.mp z)) h0 (by rw[Nat.mul_comm,←len_rep];exact hbig2) ⋯ ⋯ (λz=>?_) (λ_=>?_) (by rw[hf,aH];exact hbig2)
 ·subst z
  apply⟨.ref l,H,I,rfl,q l H (cb.refl H) ?_⟩;rw[hH];show some (HO.tup xs)=some (HO.tup (bS 1 xs).flatten);simp
 ·rw[hf]
  apply⟨.ref s.heap.objs.size,_,I.laid (t':=s.toks) (o:= .tup (bS k.toNat xs).flatten) (λ_ _ z=>au _ z) (aG _) ?_,rfl,q _ _ (λc o e=>by rw[aX (aR e I.fresh)];exact e) aQ⟩;exact⟨hbig,_,r.rep k.toNat,mQ.new _ _⟩
theorem Inv.turnAll {g:bM}(I:Inv X aN σ H s)(hf:∀b∈ch,FpOk X aN H b)
  (k:∀b o,b ∉ ch→s.heap.get? b=some o→g.get? b=some o) (hH:∀b u,H b=some u→H' b=some u) (hN:∀b o,s.heap.get? b=some o→H b=none→H' b=none) (hok:HOk X.prog X.w H' g):Inv X aN σ H' { s with heap:=g }:=by
 apply I.step (g':=s.gens) (d':=s.drawn) (t':=s.toks) (ch:=ch) (λb hb=>?_) (λb o _ _ hc e _=>k b o hc e) (λb o _ _ hc e _=>⟨o.slots,k b o hc e⟩) (λb o _ e n=>hN b o e n)
  (λb o hc e=>⟨o,k b o hc e⟩) (λb xs e=>hH b _ e) (λb o u e=>hH b _ e) (λb ps e=>⟨#[],by rw[hH b _ e];simp⟩) (λm hm=>?_) hok I.bare
 ·obtain⟨_,f1,_,f3,f4,f5⟩:=hf b hb
  exact⟨f3,f1,f4,f5⟩
 ·obtain⟨o,es,ep,ho,r⟩:=hm
  exact⟨o,es,ep,k _ o (λhb=>(hf _ hb).2.1 rfl) ho,r⟩
theorem cb.put (e:cb H H1)(h:H1 p=none):cb H (upd H1 p o):=λb u q=>by rw[aX (aR (e b u q) h)];exact e b u q
theorem Inv.big (I:Inv X aN σ H s):iR<s.heap.objs.size:=by
 have h:bH<s.heap.objs.size:=(I.mod.glob.keeps I.bk).lt;exact Nat.lt_trans ↥0 h
theorem dk_empty (h:bM)(hb:iR<h.objs.size):iZ P w H (h.push { cls:= .type "dict",data:= .dict #[] }) h.objs.size (.dK []) :=
 ⟨cV _,beq_eq_false_iff_ne.mpr (cQ (cG hb)),[],.nil,bM.DictOf.new h⟩
def tDNewK:TE:=λ_ H Q=>∀p,H p=none→Q (.ref p) (upd H p (.dK []))
theorem pe_dnewK:PE X (.Dict [] [] pos) tDNewK:=λaN s σ H Q I h =>
 wpAny_Dict_empty ⟨.ref s.heap.objs.size,_,I.laid (a:=s.heap.objs.size) (o:= .dK []) (t':=s.toks) (λ_ _ q=>au _ q) (aG _) (dk_empty s.heap I.big),rfl,h _ (I.hok.fresh (aG _))⟩
theorem PE.imp {t t':TE}(h:PE X e t)(i:∀σ H Q,t' σ H Q→t σ H Q):PE X e t':=λaN s σ H Q I q=>h aN s σ H Q I (i σ H Q q)
theorem OpR.imp {f:af→af→Sem af}{r r':R2}(h:OpR X f r)(i:∀x y H Q,r' x y H Q→r x y H Q):OpR X f r':=λaN s σ H x y v u Q I rx ry q=>h aN s σ H x y v u Q I rx ry (i x y H Q q)
theorem jU.imp {f:af}{r r':List V→Hp→VK→Prop}(h:jU X f r)(i:∀xs H Q,r' xs H Q→r xs H Q):jU X f r':=λaN s σ H xs us Q I rv q=>h aN s σ H xs us Q I rv (i xs H Q q)
theorem SlR.imp {r:V→Option Int→Option Int→Hp→VK→Prop}(h:SlR X r)(i:∀x lo hi H Q,r' x lo hi H Q→r x lo hi H Q):SlR X r':=λaN s σ H x v vl vu lo hi sl Q I rx hs pl pu q=>h aN s σ H x v vl vu lo hi sl Q I rx hs pl pu (i x lo hi H Q q)
def tACut (t:TA):TA:=λσ H R=>∃R':List V→Hp→Prop,(∀xs H,R' xs H→R xs H)∧t σ H R'
theorem PA.cut (h:PA X es t):PA X es (tACut t):=λpos aN s σ H Q I ⟨R',i,q⟩ =>
 thn (h pos aN s σ H R' I q) λus s' ⟨vs,H',I',rv,q'⟩=>⟨vs,H',I',rv,i _ _ q'⟩
def New (H:Hp)(o:HO)(Q:VK):Prop:=∀p H',cb H H'→H' p=some o→Q (.ref p) H'
theorem New.of {Q:VK}(h:New H o Q):∀p,H p=none→Q (.ref p) (upd H p o):=λp hp=>h p _ (cb.put (cb.refl H) hp) aQ
def tTupA (t:TA):TE:=λσ H Q=>t σ H λxs H1=>xs.length≤az∧New H1 (.tup xs) Q
def tLstA (t:TA):TE:=λσ H Q=>t σ H λxs H1=>xs.length≤az∧New H1 (.lst xs) Q
theorem jc {x1}(h:PA X es t):PE X (.Tuple es x1 pos) (tTupA t):=(pe_tup h.cut).imp λ_ _ _ q=>⟨_,λ_ _ z=>⟨z.1,z.2.of⟩,q⟩
theorem ip (h:PA X es t):PE X (.List es pos) (tLstA t):=(kF h.cut).imp λ_ _ _ q=>⟨_,λ_ _ z=>⟨z.1,z.2.of⟩,q⟩
theorem mF:SlR X (λx lo hi H Q=>∃a xs,x= .ref a∧SqT X.K H a xs∧¬(HT.sIx xs.length 0 lo=0∧HT.sIx xs.length xs.length hi=xs.length)∧New H (.tup (cutV xs lo hi)) Q) :=
 sl_tup.imp λ_ _ _ _ _ ⟨a,xs,e,h,n,q⟩=>⟨a,xs,e,h,n,q.of⟩
theorem call_listA:jU X (.type "list") (λxs H Q=>∃p ys,xs=[.ref p]∧(SqL X.K H p ys∨SqT X.K H p ys)∧New H (.lst ys) Q) :=
 pV.imp λ_ _ _ ⟨p,ys,e,h,q⟩=>⟨p,ys,e,h,q.of⟩
theorem iY:OpR X (iH .Add) (λx y H Q=>∃l b xs zs,x= .ref l∧y= .ref b∧H l=some (.lst xs)∧H b=some (.lst zs)∧xs.length+zs.length≤az∧New H (.lst (xs++zs)) Q) :=
 op_cat.imp λ_ _ _ _ ⟨l,b,xs,zs,e1,e2,e3,e4,e5,q⟩=>⟨l,b,xs,zs,e1,e2,e3,e4,e5,q.of⟩
inductive Dt where
 | non | bl (b:Bool) | int (i:Int) | str (x:Str) | tup (ds:List Dt) | oth (T:String)
mutual
inductive IsD (H:Hp):V→Dt→Prop where
 | non:IsD H .non .non
 | bl (b:Bool):IsD H (.bl b) (.bl b)
 | int (i:Int):IsD H (.int i) (.int i)
 | str (x:Str):IsD H (.str x) (.str x)
 | tup {a:aq} {xs:List V} {ds:List Dt} (h:H a=some (.tup xs)) (r:jG H xs ds):IsD H (.ref a) (.tup ds)
 | lst {a:aq} {xs:List V} (h:H a=some (.lst xs)):IsD H (.ref a) (.oth "list")
 | dct {a:aq} {kvs:List (Key×V)} (h:H a=some (.dK kvs)):IsD H (.ref a) (.oth "dict")
inductive jG (H:Hp):List V→List Dt→Prop where
 | nil:jG H [] []
 | cons {x:V} {d:Dt} {xs:List V} {ds:List Dt} (h:IsD H x d) (r:jG H xs ds):jG H (x::xs) (d::ds)
end
mutual
theorem IsD.same {H H':Hp}(e:cb H H'):∀{v:V} {d:Dt},IsD H v d→IsD H' v d
 | _,_,.non=> .non
 | _,_,.bl b=> .bl b
 | _,_,.int i=> .int i
 | _,_,.str x=> .str x
 | _,_,.tup h r=> .tup (e _ _ h) (jG.same e r)
 | _,_,.lst h=> .lst (e _ _ h)
 | _,_,.dct h=> .dct (e _ _ h)
theorem jG.same {H H':Hp}(e:cb H H'):∀{vs:List V} {ds:List Dt},jG H vs ds→jG H' vs ds
 | _,_,.nil=> .nil
 | _,_,.cons h r=> .cons (IsD.same e h) (jG.same e r)
end
theorem IsD.injs:∀n:Nat,(∀(v:V) (d e:Dt),sizeOf d≤n→IsD H v d→IsD H v e→d=e)∧(∀(vs:List V) (ds es:List Dt),sizeOf ds≤n→jG H vs ds→jG H vs es→ds=es):=by
 intro n
 induction n with
 | zero =>
  apply⟨λv d e h=>?_,λvs ds es h=>?_⟩
  ·cases d <;> simp at h
  ·cases ds <;> simp at h
 | succ n ih =>
  apply⟨λv d e hn h k=>?_,λvs ds es hn h k=>?_⟩
  ·cases h with
   | non=>cases k;rfl
   | bl b=>cases k;rfl
   | int i=>cases k;rfl
   | str x=>cases k;rfl
   | tup h r =>
    cases k with
    | tup h' r'=>rw[h] at h';cases h';rw[ih.2 _ _ _ (by simp at hn;lia) r r']
    | lst h'=>rw[h] at h';cases h'
    | dct h'=>rw[h] at h';cases h'
   | lst h =>
    cases k with
    | tup h' r'=>rw[h] at h';cases h'
    | lst h'=>rfl
    | dct h'=>rw[h] at h';cases h'
   | dct h =>
    cases k with
    | tup h' r'=>rw[h] at h';cases h'
    | lst h'=>rw[h] at h';cases h'
    | dct h'=>rfl
  ·cases h with
   | nil=>cases k;rfl
   | cons h r =>
    cases k with
    | cons h' r'=>rw[ih.1 _ _ _ (by simp at hn;lia) h h',ih.2 _ _ _ (by simp at hn;lia) r r']
theorem IsD.inj {d e:Dt}(h:IsD H v d)(k:IsD H v e):d=e:=(IsD.injs _).1 v d e (aG _) h k
theorem jG.inj {vs:List V}{ds es:List Dt}(h:jG H vs ds)(k:jG H vs es):ds=es:=(IsD.injs _).2 vs ds es (aG _) h k
theorem jG.length:∀{xs:List V} {ds:List Dt},jG H xs ds→xs.length=ds.length
 | _,_,.nil=>rfl
 | _,_,.cons _ r=>by rw[av,av,jG.length r]
theorem jG.at:∀{xs:List V} {ds:List Dt} {i:Nat} {d:Dt},jG H xs ds→ds[i]? =some d→∃x,xs[i]? =some x∧IsD H x d
 | _,_,_,_,.nil,e=>by simp at e
 | _,_,0,_,.cons h _,e=>by simp at e;subst e;exact⟨ρ,h⟩
 | _,_,i+1,d,.cons _ r,e=>by
  obtain⟨x,h1,h2⟩:=jG.at (i:=i) (d:=d) r (by simpa using e);exact⟨x,by simpa using h1,h2⟩
theorem jG.append:∀{xs ys:List V} {ds es:List Dt},jG H xs ds→jG H ys es→jG H (xs++ys) (ds++es)
 | _,_,_,_,.nil,s=>s
 | _,_,_,_,.cons h r,s=> .cons h (jG.append r s)
theorem jG.one {x:V}{d:Dt}(h:IsD H x d):jG H [x] [d]:= .cons h .nil
theorem jG.ints:∀(ns:List Int),jG H (ns.map V.int) (ns.map Dt.int)
 | []=> .nil
 | n::r=> .cons (.int n) (jG.ints r)
theorem jG.ints_of:∀{xs:List V} {ns:List Int},jG H xs (ns.map Dt.int)→xs=ns.map V.int
 | _,[],.nil=>rfl
 | _,n::r,.cons h q=>by cases h;rw[jG.ints_of q];rfl
theorem IsD.tup_of {ds:List Dt}(h:IsD H v (.tup ds)):∃a xs,v= .ref a∧H a=some (.tup xs)∧jG H xs ds:=by
 cases h with
 | tup h r=>exact⟨_,ρ,h,r⟩
mutual
def eqD:Dt→Dt→Bool
 | .non,.non=>true
 | .bl a,.bl b=>a == b
 | .bl a,.int b=>(if a then 1 else 0) == b
 | .int a,.bl b=>a == (if b then 1 else 0)
 | .int a,.int b=>a == b
 | .str a,.str b=>a == b
 | .tup xs,.tup ys=>eqDs xs ys
 | _,_=>false
def eqDs:List Dt→List Dt→Bool
 | [],[]=>true
 | x::xs,y::ys=>eqD x y && eqDs xs ys
 | _,_=>false
end
mutual
def pl:Dt→Bool
 | .oth _=>false
 | .tup ds=>pls ds
 | _=>true
def pls:List Dt→Bool
 | []=>true
 | d::ds=>pl d && pls ds
end
mutual
def dep:Dt→Nat
 | .tup ds=>deps ds+1
 | _=>0
def deps:List Dt→Nat
 | []=>0
 | d::ds=>max (dep d) (deps ds)
end
mutual
theorem eqD_refl:∀d:Dt,pl d=true→eqD d d=true
 | .non,_=>by unfold eqD;rfl
 | .bl b,_=>by unfold eqD;exact beq_self_eq_true b
 | .int i,_=>by unfold eqD;exact beq_self_eq_true i
 | .str x,_=>by unfold eqD;exact beq_self_eq_true x
 | .tup ds,h=>by
  unfold eqD;unfold pl at h;exact eqDs_refl ds h
 | .oth T,h=>by unfold pl at h;cases h
theorem eqDs_refl:∀ds:List Dt,pls ds=true→eqDs ds ds=true
 | [],_=>by unfold eqDs;rfl
 | d::ds,h=>by
  unfold eqDs;unfold pls at h;rw[cv] at h;rw[eqD_refl d h.1,eqDs_refl ds h.2];rfl
end
end L2
namespace L2
open PySem PySem.Spec PyProof.Rows
theorem strs_are:∀{zs:List Str} {us:List af},ie (zs.map V.str) us→StrsAre us zs
 | [],_,.nil=> .nil
 | z::zs,_,.cons r t=>by
  obtain⟨tk,rfl⟩:=(show ∃t,_=af.str z t from r);exact .cons z tk (strs_are t)
theorem vals_strs:∀(l:List (Str×Tok)),ie ((l.map (·.1)).map V.str) (strValues l)
 | []=> .nil
 | p::r=> .cons ⟨p.2,rfl⟩ (vals_strs r)
theorem oj:MtM X "str.join" (λx vs H Q=>∃z p zs,x= .str z∧vs=[.ref p]∧SqL X.K H p (zs.map V.str)∧z.length≤16∧(zs.map (·.length)).sum+zs.length≤1048576∧Q (.str (dm z zs)) H):=by
 intro aN s σ H x vs v us Q I rx rv h;obtain⟨z,p,zs,rfl,rfl,hq,hz,hw,q⟩:=h;obtain⟨t,rfl⟩:=(show ∃t,v=af.str z t from rx);obtain⟨u,rfl,ru⟩:=rv.one;cases(show u=af.ref p from ru);obtain⟨its,r,pl,_⟩:=I.list hq;exact join_listW pl.isList (by simpa using strs_are r) hz hw λt' k=>⟨.str _,H,I.tok k,⟨t',rfl⟩,q⟩
theorem split_run {y:Str}{t u:Tok}(hy:(y.length == 0)=false)(hsz:x.length+2≤az)
  (h:∀(l:List (Str×Tok)) (tk:Nat),l.map (·.1)=dU x y→Q (.ref s.heap.objs.size) { s with heap:=s.heap.push { cls:= .type "list",data:= .seq (strValues l).toArray },toks:=tk }) :
  aY (bF prog w) A (call (.builtin "str.split") [.str x t,.str y u]) Q E s:=by
 have few:(iM x (cZ x y 0 x.length (x.length+1)) y.length).length≤az:=by
  have:=StrLaws.occ_length_le x y 0 x.length (x.length+1);rw[length_partsBetween];lia
 by_cases c1:(decide (x.length<y.length) || decide (dC.Str.strKind x<dC.Str.strKind y))=true
 ·apply jh F.slot_str_split (typeIs_str _ _ _) F.entry_str_split (F.args_str_split_2 _ _) (meets_str_split_cannot_occur x y t u c1) ?_
  apply h [(x,t)] s.toks ?_;unfold dU;rw[rP c1];rfl
 ·have c1':=gF.mpr c1
  by_cases c2:(cZ x y 0 x.length (x.length+1)).isEmpty=true
  ·apply jh F.slot_str_split (typeIs_str _ _ _) F.entry_str_split (F.args_str_split_2 _ _) (meets_str_split_not_found x y t u c1' hy c2) ?_
   apply h [(x,t)] s.toks ?_;unfold dU;rw[rO c1,rP c2];rfl
  ·apply jh F.slot_str_split (typeIs_str _ _ _) F.entry_str_split (F.args_str_split_2 _ _) (meets_str_split_sep x y t u c1' hy (gF.mpr c2) ⋯ few) ?_
   have e:=strsFrom_eq s.toks (iM x (cZ x y 0 x.length (x.length+1)) y.length);have k:=h (numbered s.toks (iM x (cZ x y 0 x.length (x.length+1)) y.length)) (s.toks+(iM x (cZ x y 0 x.length (x.length+1)) y.length).length) (by
    rw [numbered_texts];unfold dU;rw [rO c1,rO c2])
   rw[←e] at k;exact k
theorem mt_split:MtM X "str.split" (λx vs H Q=>∃z y,x= .str z∧vs=[.str y]∧(y.length == 0)=false∧z.length+2≤az∧New H (.lst ((dU z y).map V.str)) Q):=by
 intro aN s σ H x vs v us Q I rx rv h;obtain⟨z,y,rfl,rfl,hy,hz,q⟩:=h;obtain⟨t,rfl⟩:=(show ∃t,v=af.str z t from rx);obtain⟨u,rfl,ru⟩:=rv.one;obtain⟨t',rfl⟩:=(show ∃t,u=af.str y t from ru);apply split_run hy hz λl tk e=>?_
 have hw:((dU z y).map (·.length)).sum+(dU z y).length≤z.length+1:=split_weight z y (by
  have:y.length≠0:=λh0=>by rw[h0] at hy;cases hy
  lia)
 apply⟨.ref s.heap.objs.size,_,I.laid (t':=tk) (o:= .lst ((dU z y).map V.str)) (λ_ _ k=>au _ k) (aG _) ⟨?_,strValues l,0,?_,aU _ rfl⟩,rfl,q _ _ (cb.put (cb.refl H) I.fresh) aQ⟩
 ·rw[ae];lia
 ·rw[←e];exact vals_strs l
theorem nt:jU X (.type "tuple") (λxs H Q=>∃p ys,xs=[.ref p]∧SqL X.K H p ys∧New H (.tup ys) Q) :=
 call_tuple_of.imp λ_ _ _ ⟨p,ys,e,h,q⟩=>⟨p,ys,e,.inl ⟨h,q.of⟩⟩
theorem iI:SlR X (λx lo hi H Q=>∃a xs,x= .ref a∧SqL X.K H a xs∧New H (.lst (cutV xs lo hi)) Q) :=
 sl_list.imp λ_ _ _ _ _ ⟨a,xs,e,h,q⟩=>⟨a,xs,e,h,q.of⟩
def Its (z:Str):It:=⟨λi _=>i<z.cps.size,λi H x H'=>H'=H∧∃c,z.cps[i]? =some c∧x= .str ⟨#[c]⟩,λi _=>z.cps.size≤i⟩
theorem turn_str (it:aq)(x:Str)(t:Tok){ty:String}(hty:ty = "str_ascii_iterator" ∨ty = "str_iterator"):Turn P w K tg (Its x) [it] it (λi h=>h.IsStrIter it ty x t i) where
 mem:=by simp
 obj:=λi h st b hb=>by
  have e:b=it:=by simpa using hb
  subst e;obtain⟨o,e,c,d⟩:=st;exact⟨o,e,λv z=>by rw[d] at z;cases z⟩
 keep:=λi h h' st k=>by
  obtain⟨o,e,r⟩:=st;exact⟨o,k it ∅ o e,r⟩
 item:=by
  intro Y hP hw hK hc i aN s σ H E I hf st hg;subst hP hw hK;obtain⟨f0,f1,f2,f3,f4,f5⟩:=hf it ∅;have hi:i<x.cps.size:=hg;have key:∀h',h'.IsStrIter it ty x t (i+1)→de it s.heap h'→∃u,(some (af.str ⟨#[x.cps[i]]⟩ s.toks))=some u ∧
    aY (bF Y.prog Y.w) Y.A (mj tg (.ref it) u) (λ_ s2=>∃x' H',Inv Y aN σ H' s2∧jr x' u∧(Its x).yld i H x' H'∧s2.heap.IsStrIter it ty x t (i+1)∧∀b∈[it],H' b=none) E { s with heap:=h',toks:=s.toks+1 }:=λh' st' sb=>by
   have I1:Inv Y aN σ H { s with heap:=h',toks:=s.toks+1 }:=I.turned (λb o hb e=>(sb.2 b hb).trans e) f0 f1 f3 f4 f5;obtain⟨o,e,c,d⟩:=id st';apply⟨ρ,go_of (s:={ s with heap:=h',toks:=s.toks+1 }) e c d ?_ ⟨.str ⟨#[x.cps[i]]⟩,H,I1,⟨_,rfl⟩,⟨rfl,_,by simp[hi],rfl⟩,st',λb hb=>(hf b hb).1⟩⟩
   rcases hty with rfl | rfl <;> decide
  rcases hty with rfl | rfl
  ·exact wpAny_pyNext_ascii_item st (c:=x.cps[i]) (by simp[hi]) λh' st' sb=>key h' st' sb
  ·exact wpAny_pyNext_wide_item st (c:=x.cps[i]) (by simp[hi]) λh' st' sb=>key h' st' sb
 done:=by
  intro Y hP hw hK hc i aN s σ H E I hf st hg;subst hP hw hK;obtain⟨f0,f1,f2,f3,f4,f5⟩:=hf it ∅;have hi:x.cps.size≤i:=hg
  rcases hty with rfl | rfl
  ·exact wpAny_pyNext_ascii_end (I.ok.hd hc) st (by simp;lia) λh' eb=>⟨rfl,I.turned (t':=s.toks) (λb o hb e=>eb b o hb e) f0 f1 f3 f4 f5⟩
  ·exact wpAny_pyNext_wide_end (I.ok.hd hc) st (by simp;lia) λh' eb=>⟨rfl,I.turned (t':=s.toks) (λb o hb e=>eb b o hb e) f0 f1 f3 f4 f5⟩
 self:=λA i s Q E st h=>by
  rcases hty with rfl | rfl
  ·exact wpAny_pyIter_striter_ascii st h
  ·exact wpAny_pyIter_striter_wide st h
def iStr (tl:TE):TI:=λσ H R=>tl σ H λx H1=>∃z,x= .str z∧R (Its z) H1
theorem pi_str {l:Expr}{tl:TE}(hl:PE X l tl):PI X tg l (iStr tl):=by
 intro aN s σ H R I h;apply thn (hl aN s σ H _ I h) λv s1 hz0=>?_
 obtain⟨x,H1,I1,r1,q1⟩:=hz0;obtain⟨z,rfl,q⟩:=q1;obtain⟨t,rfl⟩:=(show ∃t,v=af.str z t from r1);have fin:∀b∈[s1.heap.objs.size],FpOk X aN H1 b:=λb hb=>by
  have e:b=s1.heap.objs.size:=by simpa using hb
  subst e;exact I1.fpOk (aG _) I1.fresh
 cases ha:z.cps.all (· < 128) with
 | true=>exact wpAny_pyIter_ascii ha ⟨s1.heap.objs.size,[s1.heap.objs.size],_,_,H1,rfl,I1.kept (t':=s1.toks) λb o e=>au _ e,turn_str _ z t (.inl rfl),⟨_,aU _ rfl,rfl,rfl⟩,fin,q⟩
 | false=>exact wpAny_pyIter_wide ha ⟨s1.heap.objs.size,[s1.heap.objs.size],_,_,H1,rfl,I1.kept (t':=s1.toks) λb o e=>au _ e,turn_str _ z t (.inr rfl),⟨_,aU _ rfl,rfl,rfl⟩,fin,q⟩
theorem kit_str (K:ak)(h:T∈["NoneType","bool","int","str","list","tuple","dict"]):iC K (.type T) (.type "str")=some (T == "str"):=by
 simp only[ay,bz,or_false] at h
 rcases h with rfl | rfl | rfl | rfl | rfl | rfl | rfl <;> kernel_rfl
theorem call_isStr:jU X (.builtin "isinstance") (λxs H Q=>∃x T,xs=[x,.ty "str"]∧tyn H x=some T∧Q (.bl (T == "str")) H) :=
 λaN s σ H xs us Q I r ⟨x,T,e,hT,q⟩=>mK aN s σ H xs us Q I r ⟨x,_,_,_,e,.byName hT,kit_str _ (tyn_mem hT),q⟩
theorem kq {Q:VK}(Pv:Nat→List V→Hp→Prop)(h0:Pv 0 [] H)(hl:∀i ys H,i≤xs.length→Pv i ys H→SqL K H a xs∧ys.length≤i)(hz:xs.length≤az)
  (hs:∀i x ys H,xs[i]? =some x→Pv i ys H→tt (some x::iG σ js) H λb H4=>if b=true then te (some x::iG σ js) H4 λy H5=>Pv (i+1) (ys++[y]) H5 else Pv (i+1) ys H4)
  (hd:∀ys H,Pv xs.length ys H→∀D,H D=none→Q (.ref D) (upd H D (.lst ys))):CompW js tt te σ Q (Itl K a) H:=by
 apply⟨λi m ys H=>i≤xs.length∧m=xs.length - i∧Pv i ys H,⟨_,cV _,rfl,h0⟩,λi m ys H2 hz0=>?_⟩;obtain⟨hi,hm,hp⟩:=hz0;obtain⟨hq,hy⟩:=hl i ys H2 hi hp
 by_cases e:i=xs.length
 ·subst e
  exact .inl ⟨⟨xs,hq,aG _⟩,hd ys H2 hp⟩
 ·have hlt:i<xs.length:=gd hi e
  apply .inr ⟨⟨xs,_,hq,gE hlt⟩,⋯,Pv (i+1),λys' H' hp'=>⟨xs.length - (i+1),⋯,⋯,rfl,hp'⟩,λx H3 hy3=>?_⟩;obtain⟨e3,hx⟩:=hy3;subst e3;exact hs i x ys H3 (hx xs hq) hp
theorem pM {Q:VK}(Pv:Nat→List V→Hp→Prop)(h0:Pv 0 [] H)(hl:∀i ys H,i≤n→Pv i ys H→ys.length≤i)(hz:n≤az)
  (hs:∀(i:Nat) ys H,i<n→Pv i ys H→tt (some (.int (lo+i))::iG σ js) H λb H4=>if b=true then te (some (.int (lo+i))::iG σ js) H4 λy H5=>Pv (i+1) (ys++[y]) H5 else Pv (i+1) ys H4)
  (hd:∀ys H,Pv n ys H→∀D,H D=none→Q (.ref D) (upd H D (.lst ys))):CompW js tt te σ Q (Itr lo n) H:=by
 apply⟨λi m ys H=>i≤n∧m=n - i∧Pv i ys H,⟨_,cV _,rfl,h0⟩,λi m ys H2 hz0=>?_⟩;obtain⟨hi,hm,hp⟩:=hz0;have hy:=hl i ys H2 hi hp
 by_cases e:i=n
 ·subst e
  exact .inl ⟨aG _,hd ys H2 hp⟩
 ·have hlt:i<n:=gd hi e
  apply .inr ⟨hlt,⋯,Pv (i+1),λys' H' hp'=>⟨n - (i+1),⋯,⋯,rfl,hp'⟩,λx H3 hy3=>?_⟩;obtain⟨e3,hx⟩:=hy3;subst e3 hx;exact hs i ys H3 hlt hp
theorem comp_str {Q:VK}(Pv:Nat→List V→Hp→Prop)(h0:Pv 0 [] H)(hl:∀i ys H,i≤z.cps.size→Pv i ys H→ys.length≤i)(hz:z.cps.size≤az)
  (hs:∀(i c:Nat) ys H,z.cps[i]? =some c→Pv i ys H→tt (some (.str ⟨#[c]⟩)::iG σ js) H λb H4=>if b=true then te (some (.str ⟨#[c]⟩)::iG σ js) H4 λy H5=>Pv (i+1) (ys++[y]) H5 else Pv (i+1) ys H4)
  (hd:∀ys H,Pv z.cps.size ys H→∀D,H D=none→Q (.ref D) (upd H D (.lst ys))):CompW js tt te σ Q (Its z) H:=by
 apply⟨λi m ys H=>i≤z.cps.size∧m=z.cps.size - i∧Pv i ys H,⟨_,cV _,rfl,h0⟩,λi m ys H2 hz0=>?_⟩;obtain⟨hi,hm,hp⟩:=hz0;have hy:=hl i ys H2 hi hp
 by_cases e:i=z.cps.size
 ·subst e
  exact .inl ⟨aG _,hd ys H2 hp⟩
 ·have hlt:i<z.cps.size:=gd hi e
  apply .inr ⟨hlt,⋯,Pv (i+1),λys' H' hp'=>⟨z.cps.size - (i+1),⋯,⋯,rfl,hp'⟩,λx H3 hy3=>?_⟩;obtain⟨e3,c,hc,hx⟩:=hy3;subst e3 hx;exact hs i c ys H3 hc hp
end L2
namespace HN
open PySem
end HN
local macro_rules
 | `(tactic|exists $s:term) => `(tactic|(show ∀ y:cN×PySem.NameKind,y∈_→y.2=PySem.NameKind.free→fK y.1 (L2.defScope $s).names=some PySem.NameKind.cell;decide +kernel))
local macro_rules
 | `(tactic|trivial) => `(tactic|first|decide +kernel|exact ⟨rfl,rfl,rfl,by decide +kernel,rfl,by decide +kernel,by decide +kernel⟩|exact True.intro)
local macro_rules
 | `(tactic|contradiction) => `(tactic|(intro _ _ _ _ h;first | (cases h;subst_vars;rfl) | ((repeat (obtain ⟨_,h⟩:=h));subst_vars;rfl)))
namespace L2
open PySem PyProof.Rows
theorem ixZ {a:Expr}{p q:Pos}{i:Int}{j}(h:PE X a ta):PE X (.Subscript a (.Constant (.int i) j p) q) (tOp (rIxT X.K) ta (tC (.int i))):=fj ix_tup h aO (λ_ _=>rfl)
theorem szZ1:1≤az:=by decide
theorem szZ2:2≤az:=by decide
theorem szZ4:4≤az:=by decide
theorem szZ5:5≤az:=by decide
theorem psZ (i:Nat)(hN:X.N.Nodup)(he:PE X e te)(hi:X.N[i]? =some x:=by rfl)(hx:Loc X.env.scope x:=by first|exact .inl rfl|exact .inr rfl)(hs:lR e (some (.Name x pos')) pos.line X.env=iS false:=by rfl)(hf:X.fn x=true∨X.env.scope.names.lookup x=some .local:=by first|exact .inl rfl|exact .inr rfl|assumption):PS X (.Assign [.Name x pos'] e pos) (tAsg te (oU i)):=ps_set hN hi hx he hs hf
theorem pgZ (i:Nat)(hN:X.N.Nodup)(hi:X.N[i]? =some x:=by rfl)(hx:Loc X.env.scope x:=by first|exact .inl rfl|exact .inr rfl)(hf:X.fn x=true∨X.env.scope.names.lookup x=some .local:=by first|exact .inl rfl|exact .inr rfl|assumption):PG X (.Name x pos) (oU i):=pg_name hN hi hx hf
end L2
namespace L2
abbrev pza:List cN:=["self","row"]
abbrev pzb:List cN:=["self"]
abbrev pzc:List cN:=["word"]
abbrev pzd:List cN:=["text"]
abbrev pze:List cN:=["_law_pot_here","_law_most"]
abbrev pzf:List cN:=["beat","one","other","row"]
abbrev pzg:List cN:=["_law_script","_law_k"]
abbrev pzh:List cN:=["beat","many","thing"]
abbrev pzi:List cN:=["self","stop"]
abbrev pzj:List cN:=["thing","low","high"]
abbrev pzk:List cN:=["_law_script"]
abbrev pzl:List cN:=["one","other","row"]
abbrev pzm:List cN:=["text","table"]
abbrev pzn:List cN:=["_law_rows","_law_name","_law_stop","_law_other"]
abbrev pzo:List cN:=["many","start","goal"]
abbrev pzp:List cN:=["beat","least","most"]
abbrev pzq:List cN:=["self","name","stops","runs","first"]
abbrev pzr:List cN:=["self","beat"]
abbrev pzs:List cN:=["_law_rows","_law_name","_law_stop"]
abbrev pzt:List cN:=["_law_pot_here","_law_beat","_law_lines_here","_law_rows"]
abbrev pzu:List cN:=["_law_way","_law_text_here"]
abbrev pzv:List cN:=["self","stop","after"]
abbrev pzw:List cN:=["_law_cell","_law_k"]
abbrev pzx:List cN:=["_law_beat","_law_rows"]
abbrev pzy:List cN:=["_law_pot_here","_law_lots"]
abbrev pzz:List cN:=["_law_pot_here","_law_name","_law_stops","_law_rows"]
abbrev pzA:List cN:=["_law_script","_law_names_here","_law_stops","_law_most"]
abbrev pzB:List cN:=["_law_pot_here","_law_beat"]
abbrev pzC:List cN:=["_law_lines_here","_law_rows"]
abbrev pzD:List cN:=["_law_rows","_law_kind"]
abbrev pzE:List cN:=["labels","table"]
abbrev pzF:List cN:=["_law_pot_here","_law_beat","_law_rows","_law_word"]
abbrev pzG:List cN:=["_law_pot_here","_law_beat","_law_rows"]
abbrev pzH:List cN:=["_law_rows","_law_table"]
end L2
namespace HN
open PySem L2 PyProof.Rows
abbrev B60:Int:=10 ^ 60 - 1
def isI:V→Bool
 | .int _=>true
 | _=>false
def iv:V→Int
 | .int i=>i
 | _=>0
def inI (v:V)(lo hi:Int):Bool:=match v with
 | .int i=>decide (lo≤i) && decide (i≤hi)
 | _=>false
def nX (m:Int)(s g:V):Bool:=inI s 0 (m - 1) && (inI g 0 (m - 1) && !decide (s=g))
def qG (b:Int)(l o:V):Bool:=inI l 0 B60 && inI o (iv l) (if B60<iv l+b - 1 then B60 else iv l+b - 1)
def mX (H:Hp)(b m:Int)(v:V):Bool:=match v with
 | .ref a=>match H a with
  | some (.tup [s,g,l,o,w])=>nX m s g && (qG b l o && inI w 0 1000000000000)
  | _=>false
 | _=>false
def Kn (H:Hp)(v:V):Prop:=∃T,tyn H v=some T
def Below (P:V→Prop)(H:Hp)(v:V):Prop:=Kn H v∧∀a xs,v= .ref a→H a=some (.tup xs)→∀x∈xs,P x
abbrev G1 (H:Hp)(v:V):Prop:=Below (Kn H) H v
theorem sort_int (h:tyn H v=some T):(T == "int" || T == "bool")=true→(!(T == "bool"))=isI v:=by
 cases v with
 | ref a =>
  simp only[tyn] at h;cases q:H a with
  | none=>rw[q] at h;cases h
  | some o=>rw[q] at h;cases o <;> first | (cases h;intro z;exact rQ z ↥0) | cases h
 | non=>cases h;intro z;exact rQ z ↥0
 | bl b=>cases h;intro _;show(!("bool" == "bool"))=false;decide
 | int i=>cases h;intro _;show(!("int" == "bool"))=true;decide
 | str x=>cases h;intro z;exact rQ z ↥0
 | _=>cases h
theorem sort_noInt (h:tyn H v=some T):¬(T == "int" || T == "bool")=true→isI v=false:=by
 cases v with
 | int i=>cases h;intro z;exact rQ ↥0 z
 | _=>intro _;rfl
theorem isI_of (h:isI v=true):∃i,v= .int i:=by
 cases v with
 | int i=>exact⟨i,rfl⟩
 | _=>cases h
theorem sort_tup (h:tyn H v=some T):(∃a xs,v= .ref a∧H a=some (.tup xs)∧(T == "tuple")=true)∨((T == "tuple")=false∧∀a xs,v= .ref a→H a≠some (.tup xs)):=by
 cases v with
 | ref a =>
  simp only[tyn] at h;cases q:H a with
  | none=>rw[q] at h;cases h
  | some o =>
   rw[q] at h;cases o with
   | tup xs=>cases h;exact .inl ⟨a,xs,rfl,q,↥0⟩
   | lst xs=>cases h;exact .inr ⟨↥0,λb ys e z=>by cases e;rw[q] at z;cases z⟩
   | dK xs=>cases h;exact .inr ⟨↥0,λb ys e z=>by cases e;rw[q] at z;cases z⟩
   | _=>cases h
 | non=>cases h;exact .inr ⟨↥0,λa xs e=>by cases e⟩
 | bl b=>cases h;exact .inr ⟨↥0,λa xs e=>by cases e⟩
 | int i=>cases h;exact .inr ⟨↥0,λa xs e=>by cases e⟩
 | str x=>cases h;exact .inr ⟨↥0,λa xs e=>by cases e⟩
 | _=>cases h
theorem spanOk_no {m:Int}(h:∀a xs,v= .ref a→H a=some (.tup xs)→xs.length≠5):mX H b m v=false:=by
 cases v with
 | ref a =>
  simp only[mX];split
  ·rename_i s g l o w e
   exact rQ rfl (h a _ rfl e)
  ·rfl
 | _=>rfl
theorem len5 (h:xs.length=5):∃a b c d e,xs=[a,b,c,d,e]:=by
 rcases xs with _ | ⟨x0,_ | ⟨x1,_ | ⟨x2,_ | ⟨x3,_ | ⟨x4,_ | ⟨x5,xr⟩⟩⟩⟩⟩⟩ <;> first | exact⟨_,_,_,_,ρ⟩ | simp at h
theorem nW {b:Bool}{A B:Prop}(h:b=true)(x:A):if b=true then A else B:=by rw[rP h];exact x
theorem jY {b:Bool}{A B:Prop}(h:b=false)(x:B):if b=true then A else B:=by rw[rO (by rw[h];exact bN)];exact x
structure Nm (mg:Str→Option af):Prop where
 isin:mg "isinstance" =none
 tint:mg "int" =none
 tbool:mg "bool" =none
 ttup:mg "tuple" =none
 len:mg "len" =none
 min:mg "min" =none
 all:mg "all" =none
structure Cs (mg:Str→Option af):Prop where
 mh:∃t,mg "MOST_HAPPENINGS" =some (.int 16 t)
 ms:∃t,mg "MOST_SPANS" =some (.int 40 t)
 mw:∃t,mg "MOST_WEIGHT" =some (.int 1000000000000 t)
structure Fn (K:ak)(mg:Str→Option af)(x:Str)(st:c8)(ps:List Str)(f:aq)(fd:aT):Prop where
 F:Fun K x x st f fd
 mg:mg x=some (.ref f)
 b:Binds K fd ps []
theorem pc1 {p:Pos}(G:Fn X.K X.mg x st ps f fd)(F:c9 X.prog X.w X.K X.mg X.base CX0 k f fd ps sp)(hr:kA k X.A)
  (ha:PA X (e::es) t) (hg:autoParam (Gl X x) L2.au0._auto_1) (hdb:autoParam ((x == ("__debug__" :Str))=false) L2.au1._auto_1) (he:autoParam (br (e::es) X.env=(false,dY e X.env)::br es X.env) L2.au0._auto_1) (hpl:autoParam ((gI pos (br es X.env)).any (·.1)=false) L2.au0._auto_1) :
  PE X (.Call (.Name x p) (e::es) [] pos) (tCall sp [] E0 t):=pB F hr hg G.mg G.F.kp G.b .nil g9 ha hdb he hpl
theorem pc0 {p:Pos}(G:Fn X.K X.mg x st [] f fd)(F:c9 X.prog X.w X.K X.mg X.base CX0 k f fd [] sp)(hr:kA k X.A)
  (hg:autoParam (Gl X x) L2.au0._auto_1) (hdb:autoParam ((x == ("__debug__" :Str))=false) L2.au1._auto_1):PE X (.Call (.Name x p) [] [] pos) (tCall sp [] E0 tNil):=pe_call0 F hr hg G.mg G.F.kp G.b .nil g9 hdb
theorem qB {i:Int}(hm:∃t,X.mg x=some (.int i t))(hg:autoParam (Gl X x) L2.au0._auto_1)(hd:autoParam ((x == ("__debug__" :Str))=false) L2.au1._auto_1):PE X (.Name x pos) (tC (.int i)) :=
 let ⟨t,e⟩:=hm;pA (v:= .int i) (u:= .int i t) hg e ⟨t,rfl⟩ hd
theorem pe_isTup {p:Pos}(N:Nm X.mg)(he:PE X e te)(hg:autoParam (Gl X "isinstance") L2.au0._auto_1)(hg2:autoParam (Gl X "tuple") L2.au0._auto_1)
  (hs1:autoParam (br [e,.Name "tuple" p2] X.env=(false,dY e X.env)::br [.Name "tuple" p2] X.env) L2.au0._auto_1) (hpl:autoParam ((gI pos (br [.Name "tuple" p2] X.env)).any (·.1)=false) L2.au0._auto_1) :
  PE X (.Call (.Name "isinstance" p) [e,.Name "tuple" p2] [] pos) (tCB (λxs H Q=>∃x T,xs=[x,.ty "tuple"]∧tyn H x=some T∧Q (.bl (T == "tuple")) H) (ql te (ql (tC (.ty "tuple")) tNil))) :=
 cu call_isTup hg N.isin mr (ah he (ah (pe_bltn hg2 N.ttup boot_tuple rfl) aA) hs1) (he:=hs1) (hpl:=hpl)
theorem pe_isInt {p:Pos}(N:Nm X.mg)(he:PE X e te)(hg:autoParam (Gl X "isinstance") L2.au0._auto_1)(hg2:autoParam (Gl X "int") L2.au0._auto_1)
  (hs1:autoParam (br [e,.Name "int" p2] X.env=(false,dY e X.env)::br [.Name "int" p2] X.env) L2.au0._auto_1) (hpl:autoParam ((gI pos (br [.Name "int" p2] X.env)).any (·.1)=false) L2.au0._auto_1) :
  PE X (.Call (.Name "isinstance" p) [e,.Name "int" p2] [] pos) (tCB (λxs H Q=>∃x T,xs=[x,.ty "int"]∧tyn H x=some T∧Q (.bl (T == "int" || T == "bool")) H) (ql te (ql (tC (.ty "int")) tNil))) :=
 cu call_isInt hg N.isin mr (ah he (ah (pe_bltn hg2 N.tint boot_int rfl) aA) hs1) (he:=hs1) (hpl:=hpl)
theorem pe_isBool {p:Pos}(N:Nm X.mg)(he:PE X e te)(hg:autoParam (Gl X "isinstance") L2.au0._auto_1)(hg2:autoParam (Gl X "bool") L2.au0._auto_1)
  (hs1:autoParam (br [e,.Name "bool" p2] X.env=(false,dY e X.env)::br [.Name "bool" p2] X.env) L2.au0._auto_1) (hpl:autoParam ((gI pos (br [.Name "bool" p2] X.env)).any (·.1)=false) L2.au0._auto_1) :
  PE X (.Call (.Name "isinstance" p) [e,.Name "bool" p2] [] pos) (tCB (λxs H Q=>∃x T,xs=[x,.ty "bool"]∧tyn H x=some T∧Q (.bl (T == "bool")) H) (ql te (ql (tC (.ty "bool")) tNil))) :=
 cu call_isBool hg N.isin mr (ah he (ah (pe_bltn hg2 N.tbool boot_bool rfl) aA) hs1) (he:=hs1) (hpl:=hpl)
def spGW:Sp:=λvs H Q _=>vs=[]∧Q (.int B60) H
inductive spWhole (vs:List V)(H:Hp)(Q:VK)(_:XK):Prop
 | mk (v:_)(_:vs=[v])(_:Kn H v)(_:Q (.bl (isI v)) H)
inductive qd (vs:List V)(H:Hp)(Q:VK)(_:XK):Prop
 | mk (v lo hi:_)(_:vs=[v,.int lo,.int hi])(_:Kn H v)(_:Q (.bl (inI v lo hi)) H)
inductive spEnds (vs:List V)(H:Hp)(Q:VK)(_:XK):Prop
 | mk (m s g:_)(_:vs=[.int m,s,g])(_:Kn H s)(_:Kn H g)(_:Q (.bl (nX m s g)) H)
inductive spLens (vs:List V)(H:Hp)(Q:VK)(_:XK):Prop
 | mk (b l o:_)(_:vs=[.int b,l,o])(_:Kn H l)(_:Kn H o)(_:Q (.bl (qG b l o)) H)
inductive rj (vs:List V)(H:Hp)(Q:VK)(_:XK):Prop
 | mk (b m v:_)(_:vs=[.int b,.int m,v])(_:G1 H v)(_:Q (.bl (mX H b m v)) H)
end HN
namespace L2
open PySem PySem.Spec PyProof.Rows
theorem ps_setCC {iy:Nat}{y0:Str}{py spos:Pos}{xs:List Str}
  (hN0:X.N.Nodup) (hi0:X.N[iy]? =some y0) (hx0:Loc X.env.scope y0) (hc:X.calm=true) (hi:PI X tg iter wi)
  (ow:∀y∈scope.names,y.2≠ .cell) (pJ:scope.kind= .function) (oT:∀y∈scope.names,y.2= .local→scope.names.lookup y.1=some .local)
  (hfr:∀y∈scope.names,y.2= .free→X.env.scope.names.lookup y.1=some .cell) (hjs:js.map (λj=>X.N[j]?)=fr.map some) (hfv:∀y∈fr,scope.names.lookup y=some .free)
  (hg:∀cl C s' H' ex,PG (jP X scope cl C (xs++fr) s' H' ex) tg g)
  (hb:∀cl C s' H' ex,PE (jP X scope cl C (xs++fr) s' H' ex) elt te∧PTs (jP X scope cl C (xs++fr) s' H' ex) ifs tt)
  (hCW:∀σ Q J H1,CW σ Q J H1→CompWT xs.length g js tt te σ Q J H1) (hs:autoParam (∀z,jZ iter X.env z=iS z) L2.au2._auto_1) (hsw:autoParam (lR (.ListComp elt [⟨tg,iter,ifs,0⟩] scope pos) (some (.Name y0 py)) spos.line X.env=iS true) L2.au0._auto_1)
  (hf0:autoParam (X.fn y0=true∨X.env.scope.names.lookup y0=some .local) L2.au3._auto_1) :
  PS X (.Assign [.Name y0 py] (.ListComp elt [⟨tg,iter,ifs,0⟩] scope pos) spos) (tAsg (λσ H Q=>wi σ H λJ H1=>CW σ Q J H1) (oU iy)):=by
 intro aN s σ H Dn I h;rw[exec_Assign_Name_used _ _ _ _ hsw];apply aj (wpAny_standAt (aj ?_));show aY _ X.A (do let _ ← comprehension (.ListComp elt [⟨tg,iter,ifs,0⟩] scope pos) scope X.env _ (newList []) false (dY iter X.env) (some (assign (.Name y0 py) X.env))) _ _ s;apply aj (dG (comp_core (use:=some (assign (.Name y0 py) X.env)) (R:=λ_ s'=>SP X aN Dn .next s') hc hi ow pJ oT hfr hjs hfv hg hb hCW I h (λs4 H5 D C mC hnC I5 nC locC fsC pinX cC sC q=>?_) hs) (λ_ s' hq=>aJ (aJ hq)) λ_ _ e=>e);obtain⟨oC,esC,epC,hoC,rC⟩:=id hnC;have I6:Inv X ((C,oC)::aN) σ H5 s4:=I5.pins_of λp hp=>by
  rcases ay.mp hp with rfl | hp
  ·apply⟨hoC,nC,locC,fsC,λv z=>?_⟩
   rw[rC.1] at z;cases z
  ·exact I5.pin p (bC _ hp)
 have hPG0:PG X (.Name y0 py) (oU iy):=pg_name hN0 hi0 hx0 hf0;apply thn (hPG0 _ s4 σ _ (.ref D) (.ref D) (λσ' H'=>Dn.nx σ' H'∧H' C=none) I6 rfl ⟨q,nC⟩) λ_ s6 hz0=>?_
 obtain⟨σ6,H6,I7,q7,n7⟩:=hz0;have o7:=(I7.pin (C,oC) (bC _ (bh ..))).1;apply⟨mC,⟨oC,esC,epC,o7,rC⟩,λh' hsb=>⟨σ6,H6,?_,q7⟩⟩;have I8:Inv X aN σ6 H6 s6:=I7.pins_of λp hp=>I7.pin p (bC _ (aE _ hp))
 exact I8.turned (t':=s6.toks) (it:=C) (λb o hb' e=>hsb.extBut b o hb' e) n7 locC (.inr sC) cC pinX
theorem ps_setC {iy:Nat}{y0:Str}{py spos:Pos}{px:Pos}
  (hN0:X.N.Nodup) (hi0:X.N[iy]? =some y0) (hx0:Loc X.env.scope y0) (hc:X.calm=true) (hi:PI X (.Name x px) iter wi)
  (ow:∀y∈scope.names,y.2≠ .cell) (pJ:scope.kind= .function) (oT:∀y∈scope.names,y.2= .local→scope.names.lookup y.1=some .local) (hx:scope.names.lookup x=some .local)
  (hfr:∀y∈scope.names,y.2= .free→X.env.scope.names.lookup y.1=some .cell) (hnd:(x::fr).Nodup) (hjs:js.map (λj=>X.N[j]?)=fr.map some) (hfv:∀y∈fr,scope.names.lookup y=some .free)
  (hb:∀cl C s' H' ex,PE (jP X scope cl C (x::fr) s' H' ex) elt te∧PTs (jP X scope cl C (x::fr) s' H' ex) ifs tt)
  (hs:autoParam (∀z,jZ iter X.env z=iS z) L2.au2._auto_1) (hsw:autoParam (lR (.ListComp elt [⟨.Name x px,iter,ifs,0⟩] scope pos) (some (.Name y0 py)) spos.line X.env=iS true) L2.au0._auto_1)
  (hf0:autoParam (X.fn y0=true∨X.env.scope.names.lookup y0=some .local) L2.au3._auto_1) :
  PS X (.Assign [.Name y0 py] (.ListComp elt [⟨.Name x px,iter,ifs,0⟩] scope pos) spos) (tAsg (tComp wi js tt te) (oU iy)) :=
 ps_setCC (xs:=[x]) (g:=oU 0) hN0 hi0 hx0 hc hi ow pJ oT hfr hjs hfv (λ_ _ _ _ _=>pg_name hnd rfl (.inl (l7 hx)) (.inr (l7 hx))) hb (λ_ _ _ _ h=>compW_T h) hs hsw hf0
def notStar:Expr→Bool
 | .Starred _ _=>false
 | _=>true
theorem starEach_not (h:notStar e=true):br (e::es) env=(false,dY e env)::br es env:=by
 cases e <;> first | rfl | cases h
theorem pa_k (ha:PE X e te)(hr:PA X es t)(h:autoParam (notStar e=true) L2.au0._auto_1):PA X (e::es) (ql te t):=ah ha hr (starEach_not h)
structure PEs (X:Cx)(e:Expr)(t:TE):Prop where
 h:PE X e t
structure PAs (X:Cx)(es:List Expr)(t:TA):Prop where
 h:PA X es t
structure PSt (X:Cx)(st:c8)(t:TS):Prop where
 h:PS X st t
theorem ps_cutK {t:TS}(h:PS X st t):PS X st (λD σ H=>∃N:St→Hp→Prop,(∀σ' H',N σ' H'→D.nx σ' H')∧t { D with nx:=N } σ H):=by
 intro aN s σ H D I ⟨N,hN,ht⟩;apply thn (h aN s σ H { D with nx:=N } I ht) λf s' q=>?_
 cases f with
 | next=>obtain⟨σ',H',I',n'⟩:=q;exact⟨σ',H',I',hN _ _ n'⟩
 | brk=>exact q
 | cont=>exact q
 | ret u=>exact q
structure PSl (X:Cx)(sts:List c8)(t:TS):Prop where
 h:PSs X sts t
section
variable {a b:Expr}{tb:TE}
theorem jJ {i j}:PEs X (.Constant (.int i) j pos) (tC (.int i)):=⟨aO⟩
theorem k_op {op:Operator}{r:R2}(ho:OpR X (iH op) r)(ha:PEs X a ta)(hb:PEs X b tb):PEs X (.BinOp a op b pos) (tOp r ta tb):=⟨cH ho ha.h hb.h⟩
theorem k_ix {r:R2}(hr:IxR X r)(ha:PEs X a ta)(hb:PEs X b tb)(hs:PlainIx b):PEs X (.Subscript a b pos) (tOp r ta tb):=⟨fj hr ha.h hb.h hs⟩
theorem pH (h:PAs X es t):PEs X (.List es pos) (tLstA t):=⟨ip h.h⟩
theorem pd:PAs X [] tNil:=⟨aA⟩
theorem eM (ha:PEs X e te)(hr:PAs X es t)(h:autoParam (notStar e=true) L2.au0._auto_1):PAs X (e::es) (ql te t):=⟨pa_k ha.h hr.h h⟩
theorem bo {t u:TS}(a:PSt X st t)(b:PSl X sts u):PSl X (st::sts) (tSeq t u):=⟨dw a.h b.h⟩
theorem gc {t:TS}(a:PSt X st t):PSl X [st] t:=⟨bE a.h⟩
end
end L2
namespace HN
open PySem L2 PyProof.Rows
abbrev sGW:c8:=top 8
abbrev rB:c8:=top 9
abbrev qw:c8:=top 10
abbrev sEnds:c8:=top 17
abbrev sLens:c8:=top 18
abbrev sSpan:c8:=top 19
theorem scGW:cI [] [] (defScope sGW):=by trivial
theorem cxK {CX:L2.CXT}{q:Str}{o:List Env}{H:L2.Hp}{E:L2.XK}:(L2.cxOf CX P w K mg base N q sc f cd A o s H E).K=K:=rfl
theorem ok_gw (F:Fun K "greatest_whole" "greatest_whole" sGW f fd):‹0› 1 f fd [] spGW:=by
 apply F.ok scGW (λvs H Q E h=>by obtain⟨rfl,_⟩:=h;rfl) (λcdv A outer s H vs Q E hr h=>?_);obtain⟨rfl,k⟩:=h;apply⟨_,bE (bR (cH iq (cH pR aO aO) aO)),?_⟩
 try dsimp only [cxK]
 exact⟨ς,⟨↥0,↥0,↥0⟩,ς,k⟩
theorem scWhole:cI ["thing"] ["thing"] (defScope rB):=by trivial
theorem ok_whole (F:Fun K "is_whole" "is_whole" rB f fd)(T:Nm mg):‹0› 1 f fd ["thing"] spWhole:=by
 specialize F.ok scWhole;obtain⟨v,rfl,⟨S,hS⟩,k⟩:=h;apply⟨_,bE (bR (oN (pe_isInt T (pv 0)) (pQ (pe_not (pe_isBool T (pv 0)))))),?_⟩
 try dsimp only [cxK]
 apply⟨ρ,_,ρ,hS,ρ,?_⟩;apply kJ (λhc=>?_) (λhc=>?_)
 ·apply⟨ρ,_,ρ,hS,ρ,?_⟩
  rw[sort_int hS hc];exact k
 ·rw[←sort_noInt hS hc];exact k
theorem scWithin:cI pzj pzj (defScope qw):=by trivial
theorem qC (F:Fun K "is_within" "is_within" qw f fd)(T:Nm mg)(G1:Fn K mg "is_whole" rB ["thing"] f1 fd1):‹0› 2 f fd pzj qd:=by
 have F1:‹0› 1 f1 fd1 ["thing"] spWhole:=ok_whole G1.F T;specialize F.ok scWithin;obtain⟨v,lo,hi,rfl,hS,k⟩:=h;apply⟨_,bE (bR (oN (pc1 G1 F1 hr (ah (pv 0) aA)) (pQ (pe_chain op_le op_le (pv 1) (pv 0) (pv 2))))),?_⟩
 try dsimp only [cxK]
 apply⟨ρ,ρ,hS,ρ,?_⟩;apply kJ (λhc=>?_) (λhc=>?_)
 ·obtain⟨i,rfl⟩:=isI_of hc
  apply⟨ρ,ρ,ς,ρ,?_⟩;apply kJ (λh1=>?_) (λh1=>?_)
  ·apply⟨ρ,ς,?_⟩
   have e:inI (.int i) lo hi=decide (i≤hi):=by show(decide (lo≤i) && decide (i≤hi))=_;rw[h1];rfl
   show Q (.bl (decide (i≤hi))) H;rw[←e];exact k
  ·have e:inI (.int i) lo hi=false:=by show(decide (lo≤i) && decide (i≤hi))=_;rw[gF.mpr h1];rfl
   rw[←e];exact k
 ·have e:inI v lo hi=false:=by
   cases v with
   | int i=>exact rQ rfl hc
   | _=>rfl
  rw[←e];exact k
theorem scEnds:cI pzo pzo (defScope sEnds):=by trivial
theorem inI_int {hi:Int}(h:inI v lo hi=true):∃i,v= .int i∧lo≤i∧i≤hi:=by
 cases v with
 | int i =>
  have h:(decide (lo≤i) && decide (i≤hi))=true:=h;rw[cv] at h;exact⟨i,rfl,rT h.1,rT h.2⟩
 | _=>cases h
theorem ok_ends (F:Fun K "are_ends" "are_ends" sEnds f fd)(T:Nm mg)(G1:Fn K mg "is_whole" rB ["thing"] f1 fd1)(G2:Fn K mg "is_within" qw pzj f2 fd2) :
  ‹0› 3 f fd pzo spEnds:=by
 have F2:‹0› 2 f2 fd2 pzj qd:=qC G2.F T G1;specialize F.ok scEnds;obtain ⟨m,st,g,rfl,hs,hg,k⟩:=h;apply ⟨_,bE (bR (oN (pc1 G2 F2 hr (ah (pv 1) (ah aO (ah (cH iq (pv 0) aO) aA))))
  (oN (pc1 G2 F2 hr (ah (pv 2) (ah aO (ah (cH iq (pv 0) aO) aA)))) (pQ (jQ rb (pv 1) (pv 2) (cw _)))))),?_⟩
 try dsimp only [cxK]
 apply⟨ρ,ρ,ς,_,_,ρ,hs,ρ,?_⟩;apply kJ (λh1=>?_) (λh1=>?_)
 ·apply⟨ρ,ρ,ς,_,_,ρ,hg,ρ,?_⟩
  apply kJ (λh2=>?_) (λh2=>?_)
  ·obtain⟨i,rfl,_⟩:=inI_int h1
   obtain⟨j,rfl,_⟩:=inI_int h2;apply⟨ρ,ρ,rfl,?_⟩;have e:nX m (.int i) (.int j)= !decide (V.int i=V.int j):=by unfold nX;rw[h1,h2];rfl
   rw[←e];exact k
  ·have e:nX m st g=false:=by unfold nX;rw[h1,gF.mpr h2];rfl
   rw[←e];exact k
 ·have e:nX m st g=false:=by unfold nX;rw[gF.mpr h1];rfl
  rw[←e];exact k
theorem scLens:cI pzp pzp (defScope sLens):=by trivial
theorem ok_lens {fd0:aT}(F:Fun K "are_lengths" "are_lengths" sLens f fd)(T:Nm mg)(G0:Fn K mg "greatest_whole" sGW [] f0 fd0)(G1:Fn K mg "is_whole" rB ["thing"] f1 fd1)(G2:Fn K mg "is_within" qw pzj f2 fd2) :
  ‹0› 3 f fd pzp spLens:=by
 have F0:‹0› 1 f0 fd0 [] spGW:=ok_gw G0.F;have F2:‹0› 2 f2 fd2 pzj qd:=qC G2.F T G1;specialize F.ok scLens;obtain ⟨b,l,o,rfl,hl,ho,k⟩:=h;have hr1:kA 1 _:=hr.mono ↥0;apply ⟨_,dw (fG (oK (mY (pc1 G2 F2 hr (ah (pv 1) (ah aO (ah (pc0 G0 F0 hr1) aA)))))) (bE (bR pe_bl)) cF)
  (bE (bR (pc1 G2 F2 hr (ah (pv 2) (ah (pv 1) (ah (cu (oX rfl) rfl T.min boot_min (ah (cH iq (cH fz (pv 1) (pv 0)) aO) (ah (pc0 G0 F0 hr1) aA))) aA)))))),?_⟩
 try dsimp only [cxK]
 apply⟨ρ,rfl,_,_,ρ,hl,ρ,?_⟩;apply kJ (λh1=>?_) (λh1=>?_)
 ·have e:qG b l o=false:=by
   unfold qG;have:inI l 0 B60=false:=by simpa using h1
   rw[this];rfl
  show Q (.bl false) H;rw[←e];exact k
 ·have h1:inI l 0 B60=true:=by simpa using h1
  obtain⟨i,rfl,_⟩:=inI_int h1;apply⟨ρ,ρ,ρ,ρ,ς,ς,rfl,_,ρ,_,_,ρ,ho,?_⟩;have e:qG b (.int i) o=inI o i (if B60<i+b - 1 then B60 else i+b - 1):=by
   unfold qG;rw[h1];rfl
  rw[e] at k;exact k
theorem scSpan:cI pzh pzh (defScope sSpan):=by trivial
theorem ok_span {f4:aq}{fd0 fd3 fd4:aT}(F:Fun K "is_span" "is_span" sSpan f fd)(T:Nm mg)(C:Cs mg)(G0:Fn K mg "greatest_whole" sGW [] f0 fd0)(G1:Fn K mg "is_whole" rB ["thing"] f1 fd1)(G2:Fn K mg "is_within" qw pzj f2 fd2)
  (G3:Fn K mg "are_ends" sEnds pzo f3 fd3) (G4:Fn K mg "are_lengths" sLens pzp f4 fd4):‹0› 4 f fd pzh rj:=by
 have F2:‹0› 2 f2 fd2 pzj qd:=qC G2.F T G1;have F3:‹0› 3 f3 fd3 pzo spEnds:=ok_ends G3.F T G1 G2;have F4:‹0› 3 f4 fd4 pzp spLens:=ok_lens G4.F T G0 G1 G2;specialize F.ok scSpan;obtain ⟨b,m,v,rfl,hv,k⟩:=h;have hr2:kA 2 _:=hr.mono ↥0;apply ⟨_,dw (fG (PW.pt (mS (oK (mY (pe_isTup T (pv 2)))) (lK (bQ rb (cu cA rfl T.len bp (ah (pv 2) aA)) aO (cw _))))) (bE (bR pe_bl)) cF)
  (dw (fG (PW.pt (mS (oK (mY (pc1 G3 F3 hr (ah (pv 1) (ah (ixZ (pv 2)) (ah (ixZ (pv 2)) aA))))))
   (lK (oK (mY (pc1 G4 F4 hr (ah (pv 0) (ah (ixZ (pv 2)) (ah (ixZ (pv 2)) aA))))))))) (bE (bR pe_bl)) cF)
  (bE (bR (pc1 G2 F2 hr2 (ah (ixZ (pv 2)) (ah aO (ah (qB C.mw) aA))))))),?_⟩
 try dsimp only [cxK]
 obtain⟨S,hS⟩:=hv.1;apply⟨ρ,_,ρ,hS,ρ,?_⟩
 rcases sort_tup hS with ⟨a,xs,rfl,ha,hq⟩ | ⟨hq,hno⟩
 ·apply jY (by rw[hq];rfl) ?_
  apply⟨ρ,a,xs,rfl,.inr (SqT.of ha),rfl,ρ,?_⟩;apply kJ (λh5=>?_) (λh5=>?_)
  ·have e:mX H b m (.ref a)=false:=spanOk_no λa' xs' e1 e2 z=>by
    cases e1;rw[ha] at e2;cases e2;rw[z] at h5;exact rQ h5 ↥0
   show Q (.bl false) H;rw[←e];exact k
  ·have hl:xs.length=5:=by
    have h5:¬(!decide (V.int (xs.length:Int)=V.int 5))=true:=h5;rw[Bool.not_eq_true,Bool.not_eq_false'] at h5;have:=rT h5;injection this with this
    lia
   obtain⟨x0,x1,x2,x3,x4,rfl⟩:=len5 hl;have kn:=hv.2 a _ rfl ha;have e:mX H b m (.ref a)=(nX m x0 x1 && (qG b x2 x3 && inI x4 0 1000000000000)):=by simp only[mX];rw[ha]
   rw[e] at k;apply⟨ρ,ρ,a,τ,SqT.of ha,aP (j:=0) rfl,ρ,a,τ,SqT.of ha,aP (j:=1) rfl,_,_,ρ,kn _ ∅,kn _ ∅,ρ,?_⟩;apply kJ (λh1=>?_) (λh1=>?_)
   ·have h1:nX m x0 x1=false:=by simpa using h1
    rw[h1] at k;exact k
   ·have h1:nX m x0 x1=true:=by simpa using h1
    rw[h1] at k;apply⟨ρ,ρ,a,τ,SqT.of ha,aP (j:=2) rfl,ρ,a,τ,SqT.of ha,aP (j:=3) rfl,_,_,ρ,kn _ ∅,kn _ ∅,ρ,?_⟩;apply kJ (λh2=>?_) (λh2=>?_)
    ·have h2:qG b x2 x3=false:=by simpa using h2
     rw[h2] at k;exact k
    ·have h2:qG b x2 x3=true:=by simpa using h2
     rw[h2] at k;exact⟨ρ,a,τ,SqT.of ha,aP (j:=4) rfl,_,_,ρ,kn _ ∅,k⟩
 ·apply nW (by rw[hq];rfl) ?_
  have e:mX H b m v=false:=spanOk_no λa xs e1 e2=>rQ e2 (hno a xs e1)
  show Q (.bl false) H;rw[←e];exact k
end HN
namespace L2
open PySem PySem.Spec PyProof.Rows
end L2
namespace HT2
open PySem
theorem nN (y p q:Str)(r:List Str):ir y (p::q::r)=p++y++ir y (q::r):=rfl
theorem oW (c:Nat)(p q:Str)(r:List Str):(ir ⟨#[c]⟩ (p::q::r)).cps.toList=p.cps.toList++c::(ir ⟨#[c]⟩ (q::r)).cps.toList:=by
 rw[nN];simp only[Str.cps_append,Array.toList_append];simp
theorem str_ext {a b:Str}(h:a.cps.toList=b.cps.toList):a=b:=by
 cases a with | mk x=>cases b with | mk y =>
 have:x=y:=by
  have:=rV List.toArray h
  simpa using this
 rw[this]
theorem cut_first {c:Nat}:∀{a b r s:List Nat},c ∉ a→c ∉ b→a++c::r=b++c::s→a=b∧r=s
 | [],[],_,_,_,_,e=>⟨rfl,(List.cons.inj e).2⟩
 | [],y::b,_,_,_,hb,e=>by
  have:=(List.cons.inj e).1;exact rQ (this ▸ bh ..) hb
 | x::a,[],_,_,ha,_,e=>by
  have:=(List.cons.inj e).1;exact rQ (this ▸ bh ..) ha
 | x::a,y::b,r,s,ha,hb,e=>by
  obtain⟨e1,e2⟩:=List.cons.inj e;obtain⟨h1,h2⟩:=cut_first (λm=>ha (aE _ m)) (λm=>hb (aE _ m)) e2;exact⟨by rw[e1,h1],h2⟩
theorem no_cut {c:Nat}{a b r:List Nat}(ha:c ∉ a)(e:a=b++c::r):False:=ha (by rw[e];simp)
theorem join_inj {c:Nat}:∀{as bs:List Str},as≠[]→bs≠[]→(∀p∈as,c ∉ p.cps.toList)→(∀p∈bs,c ∉ p.cps.toList)→ir ⟨#[c]⟩ as=ir ⟨#[c]⟩ bs→as=bs
 | [],_,h,_,_,_,_=>rQ rfl h
 | _::_,[],_,h,_,_,_=>rQ rfl h
 | [p],[q],_,_,_,_,e=>by
  have e:p=q:=e;rw[e]
 | [p],q::q2::r,_,_,ha,_,e=>by
  have:=rV (λs:Str=>s.cps.toList) e;simp only[oW] at this;exact(no_cut (ha p ∅) this).elim
 | p::p2::r,[q],_,_,_,hb,e=>by
  have:=rV (λs:Str=>s.cps.toList) e;simp only[oW] at this;exact(no_cut (hb q ∅) this.symm).elim
 | p::p2::r,q::q2::s,_,_,ha,hb,e=>by
  have:=rV (λs:Str=>s.cps.toList) e;simp only[oW] at this;obtain⟨h1,h2⟩:=cut_first (ha p ∅) (hb q ∅) this;have ih:=join_inj (as:=p2::r) (bs:=q2::s) ∅ ∅ (λx hx=>ha x (aE _ hx)) (λx hx=>hb x (aE _ hx)) (str_ext h2);rw[str_ext h1,ih]
theorem split_ne (x:Str)(c:Nat):dU x ⟨#[c]⟩≠[]:=by
 unfold dU;split
 ·simp
 ·split
  ·simp
  ·unfold iM
   intro h;have:=rV jW h;simp at this
theorem pj {c:Nat}{ys:List Str}(h:ys≠[])(hf:∀p∈ys,c ∉ p.cps.toList):dU (dm ⟨#[c]⟩ ys) ⟨#[c]⟩=ys:=by
 have e:dm ⟨#[c]⟩ ys=ir ⟨#[c]⟩ ys:=gJ _ _;rw[e];apply join_inj (c:=c) (split_ne _ _) h (λp hp=>StrLaws.split_free _ c p hp) hf ?_;exact StrLaws.join_split _ _
def dig (m:Nat):List Nat:=(Nat.toDigits 10 m).map Char.toNat
theorem qQ (h:m<10):dig m=[48+m]:=by
 unfold dig;rw[Nat.toDigits_of_lt_base h];have:∀d:Nat,d<10→(Nat.digitChar d).toNat=48+d:=by decide
 show[(Nat.digitChar m).toNat]=_;rw[this m h]
theorem dig_ge (h:10≤m):dig m=dig (m / 10)++[48+m % 10]:=by
 have hm:m % 10<10:=Nat.mod_lt m ↥0;have t:Nat.toDigits 10 (m / 10)++Nat.toDigits 10 (m % 10)=Nat.toDigits 10 (10 * (m / 10)+m % 10):=Nat.toDigits_append_toDigits ↥0 ⋯ hm;rw[Nat.div_add_mod] at t;have e:=qQ hm;unfold dig at e ⊢;rw[←t,aw,e]
theorem dig_ne (m:Nat):dig m≠[]:=by
 rcases Nat.lt_or_ge m 10 with h | h
 ·rw[qQ h];simp
 ·rw[dig_ge h];simp
theorem dig_all:∀(m:Nat),∀c∈dig m,48≤c∧c≤57:=by
 intro m
 induction m using Nat.strongRecOn with
 | _ m ih =>
  intro c hc
  rcases Nat.lt_or_ge m 10 with h | h
  ·rw[qQ h] at hc
   have:=aB.mp hc;lia
  ·rw[dig_ge h] at hc
   rcases aS.mp hc with q | q
   ·exact ih (m / 10) ⋯ c q
   ·have:=aB.mp q
    lia
theorem dig_len:∀(k m:Nat),m<10 ^ (k+1)→(dig m).length≤k+1
 | 0,m,h=>by rw[qQ (by simpa using h)];simp
 | k+1,m,h=>by
  rcases Nat.lt_or_ge m 10 with q | q
  ·rw[qQ q];simp
  ·rw[dig_ge q,ao,eX]
   have h2:m / 10<10 ^ (k+1):=by
    have e:(10:Nat) ^ (k+1+1)=10 ^ (k+1) * 10:=Nat.pow_succ ..;rw[e] at h;exact Nat.div_lt_of_lt_mul ⋯
   have:=dig_len k (m / 10) h2;lia
theorem dig_head:∀(m:Nat),1≤m→(dig m).head? ≠some 48:=by
 intro m
 induction m using Nat.strongRecOn with
 | _ m ih =>
  intro h1 e
  rcases Nat.lt_or_ge m 10 with h | h
  ·rw[qQ h] at e
   have:48+m=48:=by simpa using e
   lia
  ·rw[dig_ge h] at e
   have ih':=ih (m / 10) ⋯ ⋯;cases hd:dig (m / 10) with
   | nil=>exact dig_ne _ hd
   | cons a r =>
    rw[hd] at e ih';exact ih' (by simpa using e)
theorem dig_one (h:1<(dig m).length):10≤m:=by
 rcases Nat.lt_or_ge m 10 with q | q
 ·rw[qQ q] at h;simp at h
 ·exact q
def num (m:Nat):Str:=ax (toString ((m:Nat):Int))
theorem ng (m:Nat):(num m).cps.toList=dig m:=PySem.W.KIN.signs_num m
theorem num_len (h:m<10 ^ 60):(num m).length≤60:=by
 have:=dig_len 59 m h;rw[←ng] at this
 simpa [Str.length] using this
theorem num_pos (m:Nat):1≤(num m).length:=by
 have h:=dig_ne m;rw[←ng] at h;cases e:(num m).cps.toList with
 | nil=>exact rQ e h
 | cons a r =>
  have:(num m).length=(num m).cps.toList.length:=by simp[Str.length]
  rw[this,e];simp
theorem num_int (h:m<10 ^ 60):PySem.intText? (num m)=some ((m:Nat):Int):=by
 have e:=PySem.intText_digits (x:=num m) (λc hc=>dig_all m c (by rw[←ng];exact hc)) (by rw[ng];exact dig_ne m) (cO (num_len h) ↥0);rw[ng] at e;rw[e];have v:=PySem.W.KIN.val_back m;unfold dig;rw[v]
end HT2
namespace HN
open PySem L2 PyProof.Rows HT2
abbrev sp_:Str := " "
abbrev nl_:Str := "\n"
theorem sp_eq:(sp_:Str)=⟨#[32]⟩:=by trivial
theorem nl_eq:(nl_:Str)=⟨#[10]⟩:=by trivial
def iA (i:Int):Str:=toString i
theorem qg (m:Nat):iA (m:Int)=num m:=rfl
def W60 (i:Int):Prop:=0≤i∧i<10 ^ 60
theorem W60.nat {i:Int}(h:W60 i):∃m:Nat,i=m∧m<10 ^ 60:=by
 obtain⟨m,rfl⟩:=dz h.1;exact⟨m,rfl,by have:=h.2;lia⟩
theorem numI_cps {i:Int}(h:W60 i):∀c∈(iA i).cps.toList,48≤c∧c≤57:=by
 obtain⟨m,rfl,_⟩:=h.nat;rw[qg,ng];exact dig_all m
theorem lX {i:Int}(h:W60 i):(iA i).length≤60:=by
 obtain⟨m,rfl,hm⟩:=h.nat;rw[qg];exact num_len hm
theorem numI_int {i:Int}(h:W60 i):PySem.intText? (iA i)=some i:=by
 obtain⟨m,rfl,hm⟩:=h.nat;rw[qg];exact num_int hm
theorem log_60 {i:Int}(h:W60 i):i.natAbs.log2<1920:=by
 by_cases h0:i.natAbs=0
 ·rw[h0];decide
 ·have h1:i.natAbs<2 ^ 200:=by
   have:(10:Nat) ^ 60<2 ^ 200:=by trivial
   have h2:i.natAbs<10 ^ 60:=by have:=h.1;have:=h.2;lia
   lia
  have:=(Nat.log2_lt h0).mpr h1;lia
theorem qD {i:Int}(h:W60 i){c:Nat}(hc:c<48):c ∉ (iA i).cps.toList:=λm=>by
 have:=numI_cps h c m;lia
theorem cps_app (a b:Str):(a++b).cps.toList=a.cps.toList++b.cps.toList:=by simp only[Str.cps_append,Array.toList_append]
theorem ou (a b:Str):(a++b).length=a.length+b.length:=Str.length_append a b
theorem join_mem {c:Nat}:∀{ys:List Str} {x:Nat},x∈(ir ⟨#[c]⟩ ys).cps.toList→x=c∨∃y∈ys,x∈y.cps.toList
 | [],x,h=>by
  have h:x∈(gU).cps.toList:=h;exact rQ h (by simp[gU])
 | [y],x,h=> .inr ⟨y,∅,h⟩
 | y::z::r,x,h=>by
  rw[oW] at h
  rcases aS.mp h with h | h
  ·exact .inr ⟨y,∅,h⟩
  ·rcases ay.mp h with h | h
   ·exact .inl h
   ·rcases join_mem (ys:=z::r) h with q | ⟨w',hw,q⟩
    ·exact .inl q
    ·exact .inr ⟨w',aE _ hw,q⟩
theorem sum_le {α:Type}(f:α→Nat)(k:Nat):∀(l:List α),(∀x∈l,f x≤k)→(l.map f).sum≤l.length * k
 | [],_=>by simp
 | x::r,h=>by
  have h1:=h x ∅;have h2:=sum_le f k r λy hy=>h y (aE _ hy)
  simp only[bq,gu,av,Nat.add_mul];lia
end HN
namespace L2
open PySem PySem.Spec PyProof.Rows
theorem call_int_str:jU X (.type "int") (λxs H Q=>∃x n,xs=[.str x]∧PySem.intText? x=some n∧x.length≤640∧Q (.int n) H):=by
 intro aN s σ H xs us Q I r h;obtain⟨x,n,rfl,hn,hl,q⟩:=h;obtain⟨u,rfl,ru⟩:=nV r;obtain⟨t,rfl⟩:=(show ∃t,u=af.str x t from ru);exact PySem.W.KIN.call_text hn hl ⟨.int n,H,I.tok _,⟨_,rfl⟩,q⟩
end L2
namespace HN
open PySem L2 PyProof.Rows HT2
structure Nm2 (mg:Str→Option af):Prop where
 tstr:mg "str" =none
 tlist:mg "list" =none
structure Cs2 (mg:Str→Option af):Prop where
 ltr:∃t,mg "LETTERS" =some (.str "abcdefghijklmnopqrstuvwxyz" t)
 ml:∃t,mg "MOST_LETTERS" =some (.int 8 t)
 fig:∃t,mg "FIGURES" =some (.str "0123456789" t)
 mf:∃t,mg "MOST_FIGURES" =some (.int 60 t)
theorem pe_gstr (hm:∃t,X.mg x=some (.str z t))(hg:autoParam (Gl X x) L2.au0._auto_1)(hd:autoParam ((x == ("__debug__" :Str))=false) L2.au1._auto_1):PE X (.Name x pos) (tC (.str z)) :=
 let ⟨t,e⟩:=hm;pA (v:= .str z) (u:= .str z t) hg e ⟨t,rfl⟩ hd
theorem pe_isStr {p:Pos}(N:Nm X.mg)(N2:Nm2 X.mg)(he:PE X e te)(hg:autoParam (Gl X "isinstance") L2.au0._auto_1)(hg2:autoParam (Gl X "str") L2.au0._auto_1)
  (hs1:autoParam (br [e,.Name "str" p2] X.env=(false,dY e X.env)::br [.Name "str" p2] X.env) L2.au0._auto_1) (hpl:autoParam ((gI pos (br [.Name "str" p2] X.env)).any (·.1)=false) L2.au0._auto_1) :
  PE X (.Call (.Name "isinstance" p) [e,.Name "str" p2] [] pos) (tCB (λxs H Q=>∃x T,xs=[x,.ty "str"]∧tyn H x=some T∧Q (.bl (T == "str")) H) (ql te (ql (tC (.ty "str")) tNil))) :=
 cu call_isStr hg N.isin mr (ah he (ah (pe_bltn hg2 N2.tstr boot_str rfl) aA) hs1) (he:=hs1) (hpl:=hpl)
def l6 (z:Str):Bool:=decide (1≤z.length) && (decide (z.length≤60) && (!(decide (z.cps.toList.head? =some 48) && decide (1<z.length)) && z.cps.toList.all λc=>decide (48≤c∧c≤57)))
theorem fig_in (c:Nat):(!(cZ ("0123456789" :Str) ⟨#[c]⟩ 0 ("0123456789" :Str).length 1).isEmpty)=decide (48≤c∧c≤57):=by
 rw[StrLaws.found_one];have e:("0123456789" :Str).cps.toList=List.range' 48 10:=by trivial
 rw[e,decide_eq_decide,List.mem_range'_1];omega
theorem numI_numeral {i:Int}(h:W60 i):l6 (iA i)=true:=by
 obtain⟨m,rfl,hm⟩:=h.nat;unfold l6;rw[qg];rw[rR (num_pos m),rR (num_len hm),ng];have h1:((dig m).all λc=>decide (48≤c∧c≤57))=true:=by
  rw[j4];exact λc hc=>rR (dig_all m c hc)
 rw[h1];have h2:(decide ((dig m).head? =some 48) && decide (1<(num m).length))=false:=by
  rw[gF];intro z;rw[cv] at z;have z1:=rT z.1;have z2:=rT z.2;have e:(num m).length=(dig m).length:=by rw[←ng];simp[Str.length]
  rw[e] at z2;exact dig_head m (by have:=dig_one z2;lia) z1
 rw[h2];rfl
inductive spNumeral (vs:List V)(H:Hp)(Q:VK)(_:XK):Prop
 | mk (z:Str)(_:vs=[.str z])(_:z.length≤100000)(_:∀H',cb H H'→Q (.bl (l6 z)) H')
inductive qv (vs:List V)(H:Hp)(Q:VK)(_:XK):Prop
 | mk (i:_)(_:vs=[.str (iA i)])(_:W60 i)(_:∀H',cb H H'→Q (.int i) H')
abbrev qf:c8:=top 11
abbrev sRead:c8:=top 12
theorem scNumeral:cI pzc pzc (defScope qf):=by trivial
theorem ok_numeral (F:Fun K "is_numeral" "is_numeral" qf f fd)(T:Nm mg)(C:Cs2 mg):‹0› 1 f fd pzc spNumeral:=by
 specialize F.ok scNumeral;obtain ⟨z,rfl,hz,k⟩:=h;apply ⟨_,dw (fG (PW.pt (mS (bQ op_lt (cu k6 rfl T.len bp (ah (pv 0) aA)) aO (cw _)) (lK (bQ op_gt (cu k6 rfl T.len bp (ah (pv 0) aA)) (qB C.mf) (cw _))))) (bE (bR pe_bl)) cF)
  (dw (ps_cutK (fG (PW.pt (oJ (bQ iB (fj ix_str (pv 0) aO (fun _ _=>rfl)) eS (cw _)) (mG (bQ op_gt (cu k6 rfl T.len bp (ah (pv 0) aA)) aO (cw _))))) (bE (bR pe_bl)) cF))
  (bE (bR (cu (call_all rfl) rfl T.all boot_all (ah (kL (fr:=[]) (js:=[]) rfl (pi_str (pv 0)) ⇑0 rfl ⇑0 rfl (by exists qf) ⇑0 rfl ⇑0 (fun _ _ _ _ _=>⟨(jQ op_in_str (pv 0) (pe_gstr C.fig) rfl),kh⟩)) aA))))),?_⟩
 try dsimp only [cxK]
 have big:(100000:Nat)≤az:=by decide
 have hz':z.length≤az:=by lia
 have k0:=k H (cb.refl H);apply⟨ρ,z,rfl,hz',ς,ρ,?_⟩;apply kJ (λh1=>?_) (λh1=>?_)
 ·have h1:(z.length:Int)<1:=rT h1
  have e:l6 z=false:=by unfold l6;rw[rS ⋯];rfl
  rw[e] at k0;exact k0
 have h1:¬(z.length:Int)<1:=λq=>h1 (rR q)
 apply⟨ρ,z,rfl,hz',ς,ρ,?_⟩;apply kJ (λh2=>?_) (λh2=>?_)
 ·have h2:(60:Int)<(z.length:Int):=rT h2
  have e:l6 z=false:=by unfold l6;rw[rS (by lia:¬z.length≤60),kY,Bool.and_false]
  rw[e] at k0;exact k0
 have h2:¬(60:Int)<(z.length:Int):=λq=>h2 (rR q)
 have hl:z.cps.toList.length=z.length:=by simp[Str.length]
 obtain⟨c0,r0,hc⟩:∃c r,z.cps.toList=c::r:=by
  cases e:z.cps.toList with
  | nil=>rw[e] at hl;simp at hl;lia
  | cons c r=>exact⟨c,r,rfl⟩
 have en:l6 z=(!(decide (c0=48) && decide (1<z.length)) && z.cps.toList.all λc=>decide (48≤c∧c≤57)):=by
  unfold l6;rw[rR (by lia:1≤z.length),rR (by lia:z.length≤60),lI,lI];congr 3;rw[decide_eq_decide,hc];simp
 have e48:decide (V.str ⟨#[c0]⟩=V.str "0")=decide (c0=48):=by
  rw[decide_eq_decide];have z0:("0" :Str)=⟨#[48]⟩:=by trivial
  rw[z0]
  constructor
  ·intro q
   injection q with q
   have:=rV (λs:Str=>s.cps.toList) q
   simpa using this
  ·intro q;rw[q]
 apply⟨λσ' H'=>σ'=[some (.str z)]∧H'=H∧(decide (c0=48) && decide (1<z.length))=false,?_,?_⟩
 ·rintro σ' H' ⟨rfl,rfl,hq⟩
  rw[hq] at en;apply⟨ρ,z,rfl,?_⟩;have hsz:z.cps.size=z.cps.toList.length:=by simp
  let pZ2:Nat→List L2.V→L2.Hp→Prop:=λi ys H2=>H2=H'∧ys=(z.cps.toList.take i).map λc=>V.bl (decide (48≤c∧c≤57))
  apply comp_str pZ2 ⟨rfl,rfl⟩ (λi ys H2 hi ⟨e1,e2⟩=>?_) hz' (λi c ys H2 hx ⟨e1,e2⟩=>?_) (λys H2 ⟨e1,e2⟩ D hD=>?_)
  ·rw[e2,ae,aL];lia
  ·subst e1
   apply jq ?_;apply⟨ρ,ς,rfl,?_⟩;have hx':z.cps.toList[i]? =some c:=by rw[jH];exact hx
   rw[e2,bG,hx',aw,fig_in];rfl
  ·subst e1
   rw[hsz,bO] at e2;apply⟨D,z.cps.toList.map λc=>decide (48≤c∧c≤57),rfl,SqL.of (by rw[aQ,e2,bf];rfl),?_⟩;have e3:((z.cps.toList.map λc=>decide (48≤c∧c≤57)).all id)=l6 z:=by rw[en,List.all_map];rfl
   rw[e3];exact k _ (cb.put (cb.refl H2) hD)
 ·apply⟨ρ,z,0,c0,rfl,rfl,hz',by rw[hc];exact aP (j:=0) rfl,rfl,ρ,?_⟩
  rw[e48];apply kJ (λh3=>?_) (λh3=>?_)
  ·apply⟨ρ,z,rfl,hz',ς,ρ,?_⟩
   apply kJ (λh4=>?_) (λh4=>?_)
   ·have h4:(1:Int)<(z.length:Int):=rT h4
    rw[en,h3,rR (by lia:1<z.length)] at k0;exact k0
   ·have h4:¬(1:Int)<(z.length:Int):=λq=>h4 (rR q)
    exact⟨rfl,rfl,by rw[rS (by lia:¬1<z.length),Bool.and_false]⟩
  ·exact⟨rfl,rfl,by rw[gF.mpr h3,kY]⟩
theorem scRead:cI pzc pzc (defScope sRead):=by trivial
theorem ok_readW (F:Fun K "read_whole" "read_whole" sRead f fd)(T:Nm mg)(C:Cs2 mg)(GN:Fn K mg "is_numeral" qf pzc f1 fd1):‹0› 2 f fd pzc qv:=by
 have FN:‹0› 1 f1 fd1 pzc spNumeral:=ok_numeral GN.F T C;specialize F.ok scRead;obtain ⟨i,rfl,hi,k⟩:=h;apply ⟨_,dw (fG (oK (mY (pc1 GN FN hr (ah (pv 0) aA)))) (bE mH) cF)
  (bE (bR (gk call_int_str rfl T.tint boot_int (ah (pv 0) aA)))),?_⟩
 try dsimp only [cxK]
 apply⟨ρ,ρ,by have:=lX hi;lia,λH1 S1=>⟨ρ,?_⟩⟩;rw[numI_numeral hi];apply jY rfl ?_;exact⟨ρ,_,i,rfl,numI_int hi,by have:=lX hi;lia,k H1 S1⟩
def nam (z:Str):Bool:=decide (1≤z.length) && (decide (z.length≤8) && z.cps.toList.all λc=>decide (97≤c∧c≤122))
theorem ltr_in (c:Nat):(!(cZ ("abcdefghijklmnopqrstuvwxyz" :Str) ⟨#[c]⟩ 0 ("abcdefghijklmnopqrstuvwxyz" :Str).length 1).isEmpty)=decide (97≤c∧c≤122):=by
 rw[StrLaws.found_one];have e:("abcdefghijklmnopqrstuvwxyz" :Str).cps.toList=List.range' 97 26:=by trivial
 rw[e,decide_eq_decide,List.mem_range'_1];omega
inductive spNam (vs:List V)(H:Hp)(Q:VK)(_:XK):Prop
 | mk (z:Str)(_:vs=[.str z])(_:nam z=true)(_:∀H',cb H H'→Q (.str z) H')
abbrev sNam:c8:=top 68
theorem scNam:cI pzc pzc (defScope sNam):=by trivial
theorem ok_nam (F:Fun K "read_name" "read_name" sNam f fd)(T:Nm mg)(C:Cs2 mg):‹0› 1 f fd pzc spNam:=by
 specialize F.ok scNam;obtain ⟨z,rfl,hn,k⟩:=h;unfold nam at hn;simp only [cv,decide_eq_true_eq] at hn;obtain ⟨n1,n2,n3⟩:=hn;apply ⟨_,dw (fG (PW.pt (mS (bQ op_lt (cu k6 rfl T.len bp (ah (pv 0) aA)) aO (cw _)) (mS (bQ op_gt (cu k6 rfl T.len bp (ah (pv 0) aA)) (qB C.ml) (cw _)) (lK (oK (mY (cu (call_all rfl) rfl T.all boot_all (ah (kL (fr:=[]) (js:=[]) rfl (pi_str (pv 0)) ⇑0 rfl ⇑0 rfl (by exists sNam) ⇑0 rfl ⇑0 (fun _ _ _ _ _=>⟨(jQ op_in_str (pv 0) (pe_gstr C.ltr) rfl),kh⟩)) aA)))))))) (bE mH) cF)
  (bE (bR (pv 0))),?_⟩
 try dsimp only [cxK]
 have big:(100000:Nat)≤az:=by decide
 have hz':z.length≤az:=by lia
 apply⟨ρ,z,rfl,hz',ς,ρ,?_⟩;apply jY (rS ⋯) ?_;apply⟨ρ,z,rfl,hz',ς,ρ,?_⟩;apply jY (rS ⋯) ?_;apply⟨ρ,z,rfl,?_⟩;have hsz:z.cps.size=z.cps.toList.length:=by simp
 let pZ1:Nat→List L2.V→L2.Hp→Prop:=λi ys H2=>H2=H∧ys=(z.cps.toList.take i).map λc=>V.bl (decide (97≤c∧c≤122))
 apply comp_str pZ1 ⟨rfl,rfl⟩ (λi ys H2 hi ⟨e1,e2⟩=>?_) hz' (λi c ys H2 hx ⟨e1,e2⟩=>?_) (λys H2 ⟨e1,e2⟩ D hD=>?_)
 ·have:z.cps.toList.length=z.length:=by simp[Str.length]
  rw[e2,ae,aL];lia
 ·subst e1
  apply jq ?_;apply⟨ρ,ς,rfl,?_⟩;have hx':z.cps.toList[i]? =some c:=by rw[jH];exact hx
  rw[e2,bG,hx',aw,ltr_in];rfl
 ·subst e1
  rw[hsz,bO] at e2;apply⟨D,z.cps.toList.map λc=>decide (97≤c∧c≤122),rfl,SqL.of (by rw[aQ,e2,bf];rfl),ρ,?_⟩;have e3:((z.cps.toList.map λc=>decide (97≤c∧c≤122)).all id)=true:=by rw[List.all_map];exact n3
  rw[e3];exact jY rfl ⟨_,rfl,k _ (cb.put (cb.refl H2) hD)⟩
end HN
namespace L2
open PySem PySem.Spec PyProof.Rows
theorem ints_are:∀{ns:List Int} {us:List af},ie (ns.map V.int) us→IntsAre us ns
 | [],_,.nil=> .nil
 | _::_,_,.cons ⟨_,e⟩ r=>by cases e;exact .cons _ _ (ints_are r)
theorem fm_some {α β:Type}{f:α→Option β}{g:α→β}:∀(l:List α),(∀x∈l,f x=some (g x))→l.filterMap f=l.map g
 | [],_=>rfl
 | x::l,h=>by rw[ij,h x ∅,bq,fm_some l λy hy=>h y (aE _ hy)]
theorem pick_back (xs:Array af):((c7 xs.size).filterMap λ(k:Nat)=>xs[((xs.size:Int) - 1+(k:Int) * (-1)).toNat]?)=xs.toList.reverse:=by
 have e:∀k∈c7 xs.size,(λ(k:Nat)=>xs[((xs.size:Int) - 1+(k:Int) * (-1)).toNat]?) k=some ((λk=>xs.toList.getD (xs.size - 1 - k) .none) k):=λk hk=>by
  have hk:=List.mem_range.mp hk;have:((xs.size:Int) - 1+(k:Int) * (-1)).toNat=xs.size - 1 - k:=by lia
  show xs[((xs.size:Int) - 1+(k:Int) * (-1)).toNat]? =some (xs.toList.getD (xs.size - 1 - k) .none);rw[this,cM,jH,mE ⋯];rfl
 rw[fm_some _ e];apply List.ext_getElem ∅ λi h1 h2=>?_
 have hi:i<xs.size:=by simpa using h1
 rw[gj,List.getElem_range,List.getElem_reverse,cM,gE (by rw[gG];lia)];simp
theorem vals_back:∀{xs:List V} {us:List af},ie xs us→ie xs.reverse us.reverse
 | _,_,.nil=> .nil
 | _::_,_::_,.cons r t=>by rw[List.reverse_cons,List.reverse_cons];exact(vals_back t).append (.cons r .nil)
theorem call_sum (hc:X.calm=true):jU X (.builtin "sum") (λxs H Q=>∃(p:aq) (ns:List Int),xs=[.ref p]∧SqL X.K H p (ns.map V.int)∧Q (.int ns.sum) H):=by
 intro aN s σ H xs us Q I r h;obtain⟨p,ns,rfl,hq,q⟩:=h;obtain⟨u,rfl,ru⟩:=nV r;cases(show u=af.ref p from ru);obtain⟨its,rv,pl,hz⟩:=I.list hq;have hi:=ints_are rv;obtain⟨ys,hx⟩:=hi.allInts.items;have hl':s.heap.IsList p (intItems ys):=hx ▸ pl.isList;apply sum_intListG (I.ok.hd hc) hl' λh' tk t' hk=>?_
 have e1:ns=ys.toList.map (·.1):=by
  rw[←nums_intItems,←hx];exact(show numsOf its.toArray.toList=ns from hi.numsOf).symm
 have e2:preSum (numAt ys) ys.size=ns.sum:=by
  rw[preSum_eq,eP ∅,e1]
 rw[e2];exact⟨.int ns.sum,H,I.kept (t':=tk) hk,⟨t',rfl⟩,q⟩
theorem op_neL0 (hu:X.A.units<cLine):OpR X (fJ .NotEq) (λx y H Q=>∃a b xs,x= .ref a∧y= .ref b∧SqL X.K H a xs∧SqL X.K H b []∧Q (.bl (!xs.isEmpty)) H):=by
 intro aN s σ H x y v u Q I rx ry h;obtain⟨a,b,xs,rfl,rfl,ha,hb,q⟩:=h;cases(show v=af.ref a from rx);cases(show u=af.ref b from ry);obtain⟨its,r1,p1,_⟩:=I.list ha;obtain⟨its2,r2,p2,_⟩:=I.list hb;cases r2;cases r1 with
 | nil =>
  apply SeqAt.RcNeAt.lists (A:=X.A) (e:=λ_=>true) p1.isList p2.isList rfl hu (λj h1 _=>rQ h1 ∅) X.prog X.w _ _ (gq I q ∅)
 | cons _ _=>exact SeqAt.RcNeAt.lists_lengths (A:=X.A) p1.isList p2.isList ∅ hu X.prog X.w _ _ (gq I q ∅)
theorem k_non {j}:PEs X (.Constant .none j pos) (tC .non):=⟨iJ⟩
theorem k_str {x j}:PEs X (.Constant (.str x) j pos) (tC (.str x)):=⟨eS⟩
theorem k_lstF (h:PAs X es t):PEs X (.List es pos) (tLst t):=⟨kF h.h⟩
theorem pick_backL (its:List af):slicePick its.toArray none none (some (-1))=its.reverse.toArray:=by
 unfold slicePick;have e0:j8 none none (some (-1)) its.toArray.size=((its.length:Int) - 1,-1,-1):=by
  rw[aH];rfl
 rw[e0];show((sliceRange ((its.length:Int) - 1) (-1) (-1)).filterMap (its.toArray[·]?)).toArray=_;unfold sliceRange;have ec:(if (-1:Int) > 0 then (if (its.length:Int) - 1< -1 then (-1 - ((its.length:Int) - 1)+ -1 - 1) / -1 else 0) else (if (its.length:Int) - 1 > -1 then ((its.length:Int) - 1 - -1 - -1 - 1) / (- -1) else 0))=(its.length:Int):=by
  rw[rO ↥0,show -(-1:Int)=1 from rfl,Int.ediv_one];split <;> lia
 show(((c7 (if (-1:Int) > 0 then (if (its.length:Int) - 1< -1 then (-1 - ((its.length:Int) - 1)+ -1 - 1) / -1 else 0) else (if (its.length:Int) - 1 > -1 then ((its.length:Int) - 1 - -1 - -1 - 1) / (- -1) else 0)).toNat).map λ(k:Nat)=>((its.length:Int) - 1+ -1 * (k:Int)).toNat).filterMap (its.toArray[·]?)).toArray=_;rw[ec,ff,List.filterMap_map];have h:=pick_back its.toArray;rw[aH] at h;congr 1;rw[←h];apply rV (λf=>kW f (c7 its.length)) (funext λk=>?_);show its.toArray[((its.length:Int) - 1+ -1 * (k:Int)).toNat]? =its.toArray[((its.length:Int) - 1+(k:Int) * (-1)).toNat]?;rw[Int.mul_comm]
def tBackL (te:TE):TE:=λσ H Q=>te σ H λx H1=>∃a xs,x= .ref a∧H1 a=some (.lst xs)∧New H1 (.lst xs.reverse) Q
theorem pe_backL {p1 p3:Pos}{j}(he:PE X e te):PE X (.Subscript e (.Slice none none (some (.UnaryOp .USub (.Constant (.int 1) j p3) p1)) p2) pos) (tBackL te):=by
 intro aN s σ H Q I h;apply Subscript_ (thn (he aN s σ H _ I h) λv s1 hz0=>?_);obtain⟨x,H1,I1,r1,q1⟩:=hz0;obtain⟨a,xs,rfl,hx,q⟩:=q1;apply wpAny_Slice ?_;rw[evalPart_none,evalPart_some];apply aJ (aJ ?_);apply thn ((pe_un rg aO:PE X (.UnaryOp .USub (.Constant (.int 1) j p3) p1) _) aN s1 σ H1 (λx H2=>x= .int (-1)∧H2=H1) I1 ⟨_,rfl,rfl,rfl⟩) λu s2 hz0=>?_
 obtain⟨x2,H2,I2,r2,e2,e3⟩:=hz0;subst e2 e3;obtain⟨t,rfl⟩:=r2;cases r1;have I4:Inv X aN σ H2 { s2 with heap:=s2.heap.push { cls:= .type "slice",data:= .fields #[.none,.none,.int (-1) t] } }:=I2.kept (t':=s2.toks) λb ob q=>au _ q
 obtain⟨its,r,ht,hz⟩:=I4.list (SqL.of (K:=X.K) hx);have hlen:its.length=xs.length:=r.length.symm;apply tail_any (ops:=[.ref a,.ref s2.heap.objs.size]) ht.isList.typeIs nH.lookup (nU ht.isList (bM.IsSliceOf.new ..) .none .none (.int (-1) t) ↥0 ?_ (by rw[aH,hlen];exact hz)) (by with_unfolding_all rfl);rw[pick_backL];apply⟨.ref _,_,I4.laid (t':=s2.toks) (o:= .lst xs.reverse) (λ_ _ z=>au _ z) (aG _) ⟨by rw[List.length_reverse];exact hz,its.reverse,0,vals_back r,aU _ rfl⟩,rfl,q.of _ I4.fresh⟩
def evs {α:Type}:List α→List α
 | []=>[]
 | [x]=>[x]
 | x::_::r=>x::evs r
theorem evs_pick {α:Type}:∀(l pre:List α),((c7 ((l.length+1) / 2)).map λk=>pre.length+2 * k).filterMap ((pre++l)[·]?)=evs l
 | [],pre=>by simp[evs]
 | [x],pre=>by
  have e:([x].length+1) / 2=1:=by simp
  rw[e];simp[evs]
 | x::y::r,pre=>by
  have ih:=evs_pick r (pre++[x,y]);have e:((x::y::r).length+1) / 2=(r.length+1) / 2+1:=by simp only[av];lia
  rw[e,List.range_succ_eq_map,bq,ij];have h0:(pre++x::y::r)[pre.length+2 * 0]? =some x:=by simp
  rw[h0];show x::_=x::evs r;congr 1;rw[←ih,bf];have e2:pre++[x,y]++r=pre++x::y::r:=by simp
  rw[e2];congr 1;apply cJ λk _=>?_
  show pre.length+2 * (k+1)=(pre++[x,y]).length+2 * k;rw[ao];show _=pre.length+2+2 * k;lia
theorem qO {α β:Type}(f:α→β):∀l:List α,(evs l).map f=evs (l.map f)
 | []=>rfl
 | [_]=>rfl
 | _::_::r=>rV _ (qO f r)
theorem evs_len {α:Type}:∀l:List α,(evs l).length=(l.length+1) / 2
 | []=>by simp[evs]
 | [_]=>by simp[evs]
 | _::_::r=>by
  show(evs r).length+1=(r.length+1+1+1) / 2;rw[evs_len r];lia
theorem vals_evs:∀{xs:List V} {us:List af},ie xs us→ie (evs xs) (evs us)
 | [],_,h=>by cases h;exact .nil
 | [_],_,h=>by
  cases h with
  | cons r h=>cases h;exact .cons r .nil
 | _::_::_,_,h=>by
  cases h with
  | cons r h =>
   cases h with
   | cons _ t=>exact .cons r (vals_evs t)
theorem vals_drop:∀{xs:List V} {us:List af} (n:Nat),ie xs us→ie (xs.drop n) (us.drop n)
 | _,_,0,h=>h
 | _,_,_+1,.nil=> .nil
 | _,_,n+1,.cons _ t=>vals_drop n t
theorem pick_two (its:List af){a:Nat}(ha:a≤its.length):slicePick its.toArray (some (a:Int)) none (some 2)=(evs (its.drop a)).toArray:=by
 unfold slicePick;have e0:j8 (some (a:Int)) none (some 2) its.toArray.size=((a:Int),(its.length:Int),2):=by
  rw[aH];show(max 0 (min (if (a:Int)<0 then (a:Int)+its.length else (a:Int)) (its.length:Int)),(its.length:Int),(2:Int))=_;rw[rO ⋯,Int.min_eq_left ⋯,Int.max_eq_right ⋯]
 rw[e0];congr 1;show((c7 (if (2:Int) > 0 then (if (a:Int)<(its.length:Int) then ((its.length:Int) - a+2 - 1) / 2 else 0) else _).toNat).map λ(k:Nat)=>((a:Int)+2 * (k:Int)).toNat).filterMap (its.toArray[·]?)=_;rw[rP ↥0];have ec:(if (a:Int)<(its.length:Int) then ((its.length:Int) - a+2 - 1) / 2 else 0).toNat=((its.drop a).length+1) / 2:=by
  rw[bD];split <;> lia
 rw[ec,←evs_pick (its.drop a) (its.take a),fZ,aL,eh ha];have e1:((c7 (((its.drop a).length+1) / 2)).map λ(k:Nat)=>((a:Int)+2 * (k:Int)).toNat)=(c7 (((its.drop a).length+1) / 2)).map λk=>a+2 * k:=cJ λk _=>by lia
 rw[e1];apply rV (λf=>kW f _) (funext λk=>?_);simp
def tTwoL (K:ak)(a:Nat)(te:TE):TE:=λσ H Q=>te σ H λx H1=>∃p xs,x= .ref p∧SqL K H1 p xs∧a≤xs.length∧New H1 (.lst (evs (xs.drop a))) Q
theorem pe_twoL {a:Nat}{p1 p3:Pos}{j1 j2}(he:PE X e te):PE X (.Subscript e (.Slice (some (.Constant (.int (a:Int)) j1 p1)) none (some (.Constant (.int 2) j2 p3)) p2) pos) (tTwoL X.K a te):=by
 intro aN s σ H Q I h;apply Subscript_ (thn (he aN s σ H _ I h) λv s1 hz0=>?_);obtain⟨x,H1,I1,r1,q1⟩:=hz0;obtain⟨p,xs,rfl,hx,hl,q⟩:=q1;apply wpAny_Slice ?_;rw[evalPart_none,evalPart_some,evalPart_some];apply thn ((aO:PE X (.Constant (.int (a:Int)) j1 p1) _) aN s1 σ H1 (λx H2=>x= .int (a:Int)∧H2=H1) I1 ⟨rfl,rfl⟩) λu1 s2 hz0=>?_
 obtain⟨x2,H2,I2,r2,e2,e3⟩:=hz0;subst e2 e3;obtain⟨t1,rfl⟩:=r2;apply aJ ?_;apply thn ((aO:PE X (.Constant (.int 2) j2 p3) _) aN s2 σ H2 (λx H3=>x= .int 2∧H3=H2) I2 ⟨rfl,rfl⟩) λu3 s3 hz0=>?_
 obtain⟨x3,H3,I3,r3,e4,e5⟩:=hz0;subst e4 e5;obtain⟨t3,rfl⟩:=r3;cases r1;have I4:Inv X aN σ H3 { s3 with heap:=s3.heap.push { cls:= .type "slice",data:= .fields #[.int (a:Int) t1,.none,.int 2 t3] } }:=I3.kept (t':=s3.toks) λb ob q=>au _ q
 obtain⟨its,r,ht,hz⟩:=I4.list hx;have hlen:its.length=xs.length:=r.length.symm;apply tail_any (ops:=[.ref p,.ref s3.heap.objs.size]) ht.isList.typeIs nH.lookup (nU ht.isList (bM.IsSliceOf.new ..) (.int _ t1) .none (.int 2 t3) ↥0 ?_ (by rw[aH,hlen];exact hz)) (by with_unfolding_all rfl);rw[pick_two its ⋯];have el:(evs (xs.drop a)).length≤az:=by
  rw[evs_len,bD];lia
 apply⟨.ref _,_,I4.laid (t':=s3.toks) (o:= .lst (evs (xs.drop a))) (λ_ _ z=>au _ z) (aG _) ⟨el,evs (its.drop a),0,vals_evs (vals_drop a r),aU _ rfl⟩,rfl,q.of _ I4.fresh⟩
end L2
namespace HN
open PySem L2 PyProof.Rows HT2
abbrev sBeatR:c8:=top 69
abbrev sLineR:c8:=top 70
inductive spBeatR (vs:List V)(H:Hp)(Q:VK)(_:XK):Prop
 | mk (z:Str)(b:Int)(_:vs=[.str z])(_:z.length≤100000)(_:dU z sp_=[("beat" :Str),iA b])(_:W60 b)(_:∀p H',cb H H'→H' p=some (.tup [.str "beat",.int b])→Q (.ref p) H')
structure LnW (ws:List Str)(n:Str)(ss:List Str)(rs:List Int):Prop where
 five:5≤ws.length
 few:ws.length≤100000
 odd:ws.length % 2=1
 name:ws[1]? =some n
 stops:evs (ws.drop 2)=ss
 runs:evs (ws.drop 3)=rs.map iA
 nn:nam n=true
 sn:∀z∈ss,nam z=true
 rn:∀i∈rs,W60 i
inductive spLineR (vs:List V)(H:Hp)(Q:VK)(_:XK):Prop
 | mk (L:aq)(ws:List Str)(n:Str)(ss:List Str)(rs:List Int)(_:vs=[.ref L])(_:H L=some (.lst (ws.map V.str)))(_:LnW ws n ss rs)(_:∀p a b H',cb H H'→H' a=some (.tup (ss.map V.str))→H' b=some (.tup (rs.map V.int))→H' p=some (.tup [.str "line",.str n,.ref a,.ref b])→Q (.ref p) H')
theorem scBeatR:cI ["row","words"] ["row"] (defScope sBeatR):=by trivial
theorem ok_beatR (F:Fun K "read_beat" "read_beat" sBeatR f fd)(T:Nm mg)(GW:Fn K mg "read_whole" sRead pzc f1 fd1)(FW:‹0› 2 f1 fd1 pzc qv):‹0› 3 f fd ["row"] spBeatR:=by
 specialize F.ok scBeatR;obtain ⟨z,b,rfl,hz,hs,hb,k⟩:=h;apply ⟨_,dw (psZ 1 scBeatR.nd (jR dj PySem.F.slot_str_split PySem.F.type_str_split mt_split (pv 0) (ah eS aA)))
  (dw (fG (PW.pt (mS (bQ rb (cu cA rfl T.len bp (ah (pv 1) aA)) aO (cw _)) (lK (bQ rb (fj bV (pv 1) aO (fun _ _=>rfl)) eS (cw _))))) (bE mH) cF)
  (bE (bR (jc (ah eS (ah (pc1 GW FW hr (ah (fj bV (pv 1) aO (fun _ _=>rfl)) aA)) aA)))))),?_⟩
 try dsimp only [cxK]
 have one:((sp_:Str).length == 0)=false:=by trivial
 apply⟨ρ,rfl,ς,one,cO (show _≤200000 by lia) ↥0,λL H1 S1 e1=>?_⟩;have e1:H1 L=some (.lst ((dU z sp_).map V.str)):=e1;rw[hs] at e1;have e1:H1 L=some (.lst [V.str ("beat" :Str),V.str (iA b)]):=e1;apply⟨ρ,L,ρ,.inl (SqL.of e1),rfl,ρ,jY (by show(!decide (V.int ((2:Nat):Int)=V.int 2))=false;decide) ?_⟩;apply⟨ρ,L,τ,SqL.of e1,aP (j:=0) rfl,rfl,ρ,jY ⇑0 ?_⟩;apply⟨ρ,L,τ,SqL.of e1,aP (j:=1) rfl,b,rfl,hb,λH2 S2=>?_⟩;exact⟨szZ2,λp H4 S4 e4=>k p H4 (S1.trans (S2.trans S4)) e4⟩
theorem scLineR:cI ["words","stops","runs"] ["words"] (defScope sLineR):=by trivial
theorem ok_lineR (F:Fun K "read_line" "read_line" sLineR f fd)(T:Nm mg)(GN:Fn K mg "read_name" sNam pzc f1 fd1)(FN:‹0› 1 f1 fd1 pzc spNam)(GW:Fn K mg "read_whole" sRead pzc f2 fd2)(FW:‹0› 2 f2 fd2 pzc qv):‹0› 3 f fd ["words"] spLineR:=by
 specialize F.ok scLineR;obtain ⟨L,ws,n,ss,rs,rfl,hL,W,k⟩:=h;have hr1:=hr.mono (show 1≤2 by lia);apply ⟨_,dw (fG (PW.pt (mS (bQ op_lt (cu cA rfl T.len bp (ah (pv 0) aA)) aO (cw _)) (lK (bQ iB (cH pS (cu cA rfl T.len bp (ah (pv 0) aA)) aO) aO (cw _))))) (bE mH) cF)
  (dw (psZ 1 scLineR.nd (gk nt rfl T.ttup boot_tuple (ah (kL (fr:=[]) (js:=[]) rfl (jk (pe_twoL (a:=2) (pv 0))) ⇑0 rfl ⇑0 rfl (by exists sLineR) ⇑0 rfl ⇑0 (fun _ _ _ _ _=>⟨(pc1 GN FN hr1 (ah (pv 0) aA)),kh⟩)) aA)))
  (dw (psZ 2 scLineR.nd (gk nt rfl T.ttup boot_tuple (ah (kL (fr:=[]) (js:=[]) rfl (jk (pe_twoL (a:=3) (pv 0))) ⇑0 rfl ⇑0 rfl (by exists sLineR) ⇑0 rfl ⇑0 (fun _ _ _ _ _=>⟨(pc1 GW FW hr (ah (pv 0) aA)),kh⟩)) aA)))
  (bE (bR (jc (ah eS (ah (pc1 GN FN hr1 (ah (fj bV (pv 0) aO (fun _ _=>rfl)) aA)) (ah (pv 1) (ah (pv 2) aA))))))))),?_⟩
 try dsimp only [cxK]
 have hlw:(ws.map V.str).length=ws.length:=ae _;have w1:=W.five;have w2:=W.few;have w3:=W.odd;have big:(200000:Nat)≤az:=by decide
 apply⟨ρ,L,ρ,.inl (SqL.of hL),ς,ρ,jY (rS (by rw[hlw];lia)) ?_⟩;apply⟨ρ,L,ρ,.inl (SqL.of hL),ς,(by show(0:Int)<2;decide),rfl,ρ,jY ?_ ?_⟩
 ·rw[hlw]
  apply rS λz=>?_
  injection z with z
  lia
 apply⟨ρ,L,ρ,SqL.of hL,by rw[hlw];lia,λD1 H1 S1 d1=>?_⟩;rw[←gx,←qO,W.stops] at d1;have ls:ss.length≤200000:=by rw[←W.stops,evs_len,bD];lia
 have lr:rs.length≤200000:=by
  have:=rV jW W.runs;rw[evs_len,bD,ae] at this;lia
 apply⟨D1,rfl,⟨_,SqL.of d1⟩,?_⟩;apply kq (K:=K) (a:=D1) (xs:=ss.map V.str) (λj zs H3=>cb H1 H3∧zs=(ss.take j).map V.str) ⟨cb.refl _,rfl⟩ (λj zs H3 hj ⟨g1,g2⟩=>?_) (by rw[ae];lia) (λj x zs H3 hx3 ⟨g1,g2⟩=>?_) (λzs H3 ⟨g1,g2⟩ D hD=>?_)
 ·apply⟨SqL.of (g1 _ _ d1),?_⟩
  rw[g2,ae,aL];lia
 ·rw[aC] at hx3
  obtain⟨z,hn3,rfl⟩:=aV.mp hx3;apply jq ?_;apply⟨ρ,z,rfl,W.sn z (aD hn3),λH4 S4=>⟨g1.trans S4,?_⟩⟩;rw[g2,bG,hn3,aw];rfl
 rw[ae,bO] at g2;apply⟨D,zs,rfl,SqL.of aQ,λa H4 S4 e4=>?_⟩;rw[g2] at e4;have S5:cb H H4:=S1.trans (g1.trans (cb.trans (cb.put (cb.refl H3) hD) S4));apply⟨ρ,L,ρ,SqL.of (S5 _ _ hL),by rw[hlw];lia,λD2 H6 S6 d2=>?_⟩;rw[←gx,←qO,W.runs] at d2;apply⟨D2,rfl,⟨_,SqL.of d2⟩,?_⟩;apply kq (K:=K) (a:=D2) (xs:=(rs.map iA).map V.str) (λj zs H3=>cb H6 H3∧zs=(rs.take j).map V.int) ⟨cb.refl _,rfl⟩ (λj zs H3 hj ⟨g1,g2⟩=>?_) (by rw[ae,ae];lia) (λj x zs H3 hx3 ⟨g1,g2⟩=>?_) (λzs2 H7 ⟨g3,g4⟩ D' hD'=>?_)
 ·apply⟨SqL.of (g1 _ _ d2),?_⟩
  rw[g2,ae,aL];lia
 ·rw[bf,aC] at hx3
  obtain⟨i,hn3,rfl⟩:=aV.mp hx3;apply jq ?_;apply⟨ρ,i,rfl,W.rn i (aD hn3),λH4 S4=>⟨g1.trans S4,?_⟩⟩;rw[g2,bG,hn3,aw];rfl
 rw[ae,ae,bO] at g4;apply⟨D',zs2,rfl,SqL.of aQ,λb H8 S8 e8=>?_⟩;rw[g4] at e8;have S9:cb H4 H8:=S6.trans (g3.trans (cb.trans (cb.put (cb.refl H7) hD') S8));apply⟨ρ,L,τ,SqL.of (S9 _ _ (S5 _ _ hL)),aP (j:=1) (by rw[aC,W.name];rfl),n,rfl,W.nn,λH10 S10=>?_⟩;exact⟨ρ,ρ,szZ4,λp H11 S11 e11=>k p a b H11 (S5.trans (S9.trans (S10.trans S11))) ((S9.trans (S10.trans S11)) _ _ e4) ((S10.trans S11) _ _ e8) e11⟩
end HN
namespace L2
open PySem PySem.Spec PyProof.Rows
section
variable {κ:Type} [DecidableEq κ]
def me (kvs:List (κ×V))(k:κ):Option V:=(kvs.find? λkv=>decide (kv.1=k)).map (·.2)
def putK (kvs:List (κ×V))(k:κ)(v:V):List (κ×V) :=
 if (kvs.any λkv=>decide (kv.1=k))=true then kvs.map (λkv=>if kv.1=k then (kv.1,v) else kv) else kvs++[(k,v)]
theorem p9 {p:κ×V}{r:List (κ×V)}{k:κ}(e:p.1=k):me (p::r) k=some p.2:=by simp[me,kz,e]
theorem oF {p:κ×V}{r:List (κ×V)}{k:κ}(e:¬p.1=k):me (p::r) k=me r k:=by simp[me,kz,e]
theorem valV_any (k:κ):∀kvs:List (κ×V),(kvs.any λkv=>decide (kv.1=k))=(me kvs k).isSome
 | []=>rfl
 | p::r=>by
  rw[jF]
  by_cases e:p.1=k
  ·simp only[p9 e,rR e,Bool.true_or,Option.isSome_some]
  ·rw[oF e,rS e,Bool.false_or];exact valV_any k r
theorem oq (kvs:List (κ×V))(k:κ)(v:V):(putK kvs k v).length≤kvs.length+1:=by
 unfold putK;split
 ·rw[ae];lia
 ·rw[ao,av,fq];lia
theorem pZ.isSome_eq {o:Option V}{u:Option af}(r:pZ o u):o.isSome=u.isSome:=by
 cases o with
 | none=>cases u with
  | none=>rfl
  | some _=>exact(show False from r).elim
 | some _=>cases u with
  | none=>exact(show False from r).elim
  | some _=>rfl
theorem pZ.getD {o:Option V}{u:Option af}{d:V}{d':af}(r:pZ o u)(rd:jr d d'):jr (o.getD d) (u.getD d'):=by
 cases o with
 | none=>cases u with
  | none=>exact rd
  | some _=>exact(show False from r).elim
 | some _=>cases u with
  | none=>exact(show False from r).elim
  | some _=>exact r
theorem KV.val {kvs:List (κ×V)}{vs:List (κ×af)}(r:KV kvs vs)(k:κ):pZ (me kvs k) (valueAt vs k):=by
 unfold KV at r
 induction r with
 | nil=>exact True.intro
 | @cons p q ps qs h t ih =>
  obtain⟨h1,h2⟩:=h
  by_cases e:p.1=k
  ·have e':q.1=k:=h1.symm.trans e
   have b:valueAt (q::qs) k=some q.2:=by simp[valueAt,kz,e']
   rw[p9 e,b];exact h2
  ·have e':¬q.1=k:=λz=>e (h1.trans z)
   have b:valueAt (q::qs) k=valueAt qs k:=by simp[valueAt,kz,e']
   rw[oF e,b];exact ih
theorem KV.any {kvs:List (κ×V)}{vs:List (κ×af)}(r:KV kvs vs)(k:κ):(kvs.any λkv=>decide (kv.1=k))=vs.any λkv=>decide (kv.1=k):=by
 unfold KV at r
 induction r with
 | nil=>rfl
 | cons h t ih=>rw[jF,jF,ih,h.1]
theorem KV.repl {kvs:List (κ×V)}{vs:List (κ×af)}(r:KV kvs vs)(k:κ)(ry:jr y u) :
  KV (kvs.map λkv=>if kv.1=k then (kv.1,y) else kv) (vs.map λkv=>if kv.1=k then (kv.1,u) else kv):=by
 unfold KV at r ⊢
 induction r with
 | nil=>exact .nil
 | @cons p q ps qs h t ih =>
  rw[bq,bq];apply .cons ?_ ih;obtain⟨h1,h2⟩:=h
  by_cases e:p.1=k
  ·rw[rP e,rP (h1.symm.trans e)];exact⟨h1,ry⟩
  ·rw[rO e,rO (λz=>e (h1.trans z))];exact⟨h1,h2⟩
theorem KV.put {kvs:List (κ×V)}{vs:List (κ×af)}(r:KV kvs vs)(k:κ)(ry:jr y u):KV (putK kvs k y) (stored vs k u):=by
 unfold putK stored;rw[r.any k]
 by_cases e:(vs.any λkv=>decide (kv.1=k))=true
 ·rw[rP e,rP e];exact r.repl k ry
 ·rw[rO e,rO e];exact Paired.snoc r ⟨rfl,ry⟩
theorem KV.length {kvs:List (κ×V)}{vs:List (κ×af)}(r:KV kvs vs):kvs.length=vs.length:=Paired.length r
end
theorem kV_is {k:Key}(r:jr (kV k) u):(hW P w).is k u=true:=by
 cases k with
 | inl i=>obtain⟨t,e⟩:=(show ∃t,u=af.int i t from r);subst e;exact mixKind_int P w i t
 | inr x=>obtain⟨t,e⟩:=(show ∃t,u=af.str x t from r);subst e;exact om P w x t
theorem items_are {P:aK}{w:bg}:∀{ks:List Key} {us:List af},ie (ks.map kV) us→ItemsAre (hW P w) ks us
 | [],_,r=>by rw[List.map_nil] at r;cases r;exact .nil
 | k::ks,_,r=>by
  rw[bq] at r;cases r with
  | cons h t=>exact .cons (kV_is h) (items_are t)
abbrev KT (H:Hp):List (List Key×V)→List (List Key×aq×af)→Prop:=Paired λp q=>p.1=q.1∧H q.2.1=some (.tup (p.1.map kV))∧jr p.2 q.2.2
theorem KT.val {kvs:List (List Key×V)}{xs:List (List Key×aq×af)}(r:KT H kvs xs)(k:List Key):pZ (me kvs k) ((atKey xs k).map (·.2)):=by
 induction r with
 | nil=>exact True.intro
 | @cons p q ps qs h t ih =>
  obtain⟨h1,_,h2⟩:=h
  by_cases e:p.1=k
  ·have e':q.1=k:=h1.symm.trans e
   have b:atKey (q::qs) k=some q.2:=by simp[atKey,kz,e']
   rw[p9 e,b];exact h2
  ·have e':¬q.1=k:=λz=>e (h1.trans z)
   have b:atKey (q::qs) k=atKey qs k:=by simp[atKey,kz,e']
   rw[oF e,b];exact ih
theorem KT.repl {kvs:List (List Key×V)}{xs:List (List Key×aq×af)}(r:KT H kvs xs)(k:List Key)(ry:jr y u) :
  KT H (kvs.map λkv=>if kv.1=k then (kv.1,y) else kv) (xs.map (putAt k u)):=by
 induction r with
 | nil=>exact .nil
 | @cons p q ps qs h t ih =>
  rw[bq,bq];apply .cons ?_ ih;obtain⟨h1,h2,h3⟩:=h;unfold putAt
  by_cases e:p.1=k
  ·rw[rP e,rP (h1.symm.trans e)];exact⟨h1,h2,ry⟩
  ·rw[rO e,rO (λz=>e (h1.trans z))];exact⟨h1,h2,h3⟩
theorem KT.put {kvs:List (List Key×V)}{xs:List (List Key×aq×af)}(r:KT H kvs xs)(k:List Key){b:aq}(hb:H b=some (.tup (k.map kV)))(ry:jr y u) :
  KT H (putK kvs k y) (storedH xs k b u):=by
 have e:(kvs.any λkv=>decide (kv.1=k))=(atKey xs k).isSome:=by
  rw[valV_any,(r.val k).isSome_eq,Option.isSome_map]
 unfold putK storedH;rw[e]
 by_cases q:(atKey xs k).isSome=true
 ·rw[rP q,rP q];exact r.repl k ry
 ·rw[rO q,rO q];exact Paired.snoc r ⟨rfl,hb,ry⟩
theorem KT.keeps {kvs:List (List Key×V)}{xs:List (List Key×aq×af)}(r:KT H kvs xs)(ht:∀b ys,H b=some (.tup ys)→H' b=some (.tup ys)):KT H' kvs xs :=
 Paired.mapP r λ_ _ z=>⟨z.1,ht _ _ z.2.1,z.2.2⟩
theorem rd_of {u:HO}(ok:HOk P w H h)(e:Rd H a u):iZ P w H h a u:=e.ok ok
theorem dk_rd (ok:HOk P w H h)(e:Rd H a (.dK kvs)):kvs.length≤az∧(a == iR)=false∧∃vs,KV kvs vs∧h.DictOf (hW P w) a vs :=
 show iZ P w H h a (.dK kvs) from rd_of ok e
theorem dk_of (ok:HOk P w H h)(e:H a=some (.dK kvs)):kvs.length≤az∧(a == iR)=false∧∃vs,KV kvs vs∧h.DictOf (hW P w) a vs:=dk_rd ok (.inl e)
theorem key_of {ks:List Key}(ok:HOk P w H h)(e:H a=some (.tup (ks.map kV))):(tupleKind (hW P w)).is h ks a:=by
 obtain⟨_,its,r,o,h1,h2,_,n,h3⟩:=(show iZ P w H h a (.tup (ks.map kV)) from ok a _ e);exact⟨o,its.toArray,n,h1,h2,h3,by simpa using items_are r⟩
theorem dt_rd {kvs:List (List Key×V)}(ok:HOk P w H h)(e:Rd H a (.dT kvs)):kvs.length≤az∧(a == iR)=false ∧
  ∃xs,KT H kvs xs∧h.DictOfH (tupleKind (hW P w)) a xs:=by
 obtain⟨z,y,xs,r,o,es,ep,h1,h2,h3,h4,h5⟩:=(show iZ P w H h a (.dT kvs) from rd_of ok e);apply⟨z,y,xs,r,o,es,ep,h1,h2,h3,h4,λx hx=>?_,h5⟩;have all:∀{l:List (List Key×V)} {m:List (List Key×aq×af)},KT H l m→∀x∈m,(tupleKind (hW P w)).is h x.1 x.2.1:=by
  intro l m q
  induction q with
  | nil=>intro x hx;exact nomatch hx
  | @cons p q ps qs hq t ih =>
   intro x hx
   rcases ay.mp hx with e | hx
   ·subst e
    exact key_of ok (by rw[←hq.1];exact hq.2.1)
   ·exact ih x hx
 exact all r x hx
theorem dt_of {kvs:List (List Key×V)}(ok:HOk P w H h)(e:H a=some (.dT kvs)):kvs.length≤az∧(a == iR)=false ∧
  ∃xs,KT H kvs xs∧h.DictOfH (tupleKind (hW P w)) a xs:=dt_rd ok (.inl e)
def DGet (H:Hp)(a:aq)(y:V)(r:Option V):Prop :=
 (∃kvs k,Rd H a (.dK kvs)∧y=kV k∧r=me kvs k)∨∃kvs k b,Rd H a (.dT kvs)∧y= .ref b∧H b=some (.tup (k.map kV))∧r=me kvs k
def DPut (H:Hp)(a:aq)(y v:V)(H':Hp):Prop :=
 (∃kvs k,H a=some (.dK kvs)∧y=kV k∧kvs.length<az∧H'=upd H a (.dK (putK kvs k v))) ∨
 ∃kvs k b,H a=some (.dT kvs)∧y= .ref b∧H b=some (.tup (k.map kV))∧kvs.length<az∧H'=upd H a (.dT (putK kvs k v))
section
variable {r:af}{o:Option V}
theorem d_in (hu:A.units+1<cLine)(I:Inv X aN σ H s)(g:DGet H a y o)(ry:jr y u)(h:∀s',Inv X aN σ H s'→Q (.bool o.isSome) s') :
  aY (bF X.prog X.w) A (fJ .In u (.ref a)) Q E s:=by
 rcases g with ⟨kvs,k,e,ey,l⟩ | ⟨kvs,k,b,e,ey,eb,l⟩
 ·subst ey
  obtain⟨z,hd,vs,rel,dd⟩:=dk_rd I.hok e;apply wpAny_in_of (kV_is ry) hd dd.mapOf ?_;rw[←(rel.val k).isSome_eq,←l];exact h _ (I.tok _)
 ·subst ey
  cases(show u=af.ref b from ry);obtain⟨z,hd,xs,rel,dd⟩:=dt_rd I.hok e;apply wpAny_in_heap (mR hu) (key_of I.hok eb) hd dd ?_;have q:=(rel.val k).isSome_eq;rw[Option.isSome_map] at q;rw[←q,←l];exact h _ (I.tok _)
theorem d_write {ob:HO}(I:Inv X aN σ H s)(mu:Mut (H a))(hs:de a s.heap h')(he:∃q,h'.get? a=some q)(new:iZ X.prog X.w (upd H a ob) h' a ob) :
  Inv X aN σ (upd H a ob) { s with heap:=h',toks:=t' } :=
 I.write (x:=a) (e:=a) mu (.inl rfl) (λb q hb z=>(hs.2 b hb).trans z) he new
theorem dk_new {vs:List (Key×af)}(z:kvs.length≤az)(hd:(a == iR)=false)(rel:KV kvs vs)(dd:h'.DictOf (hW P w) a vs) :
  iZ P w H' h' a (.dK kvs):=⟨z,hd,vs,rel,dd⟩
theorem d_setItem {Q:Unit→ar→Prop}(hu:A.units+1<cLine)(I:Inv X aN σ H s)(g:DPut H a y v H')(ry:jr y u)(rv:jr v r)(h:∀s',Inv X aN σ H' s'→Q () s') :
  aY (bF X.prog X.w) A (setItem (.ref a) u r) Q E s:=by
 rcases g with ⟨kvs,k,e,ey,l,eH⟩ | ⟨kvs,k,b,e,ey,eb,l,eH⟩
 ·subst ey eH
  obtain⟨z,hd,vs,rel,dd⟩:=dk_of I.hok e;have hz:vs.length≤az:=by rw[←rel.length];exact z
  have hl:(putK kvs k v).length≤az:=by have:=oq kvs k v;lia
  apply wpAny_setItem_pairs (hsz:=hz) (kV_is ry) dd λh' dd' hs=>h _ ?_
  have he:∃q,h'.get? a=some q:=let ⟨q,_,_,hq,_⟩:=dd';⟨q,hq⟩;exact d_write I (by rw[e];exact True.intro) hs he (dk_new hl hd (rel.put k rv) dd')
 ·subst ey eH
  cases(show u=af.ref b from ry);obtain⟨z,hd,xs,rel,dd⟩:=dt_of I.hok e;have hz:xs.length≤az:=by rw[←Paired.length rel];exact z
  have hl:(putK kvs k v).length≤az:=by have:=oq kvs k v;lia
  apply wpAny_setItem_heap (hsz:=hz) (mR hu) (key_of I.hok eb) dd λh' dd' hs=>h _ ?_
  obtain⟨q,es,ep,hq,h2,h3,h4,_,h5⟩:=dd';apply d_write I (by rw[e];exact True.intro) hs ⟨q,hq⟩ ⟨hl,hd,_,(rel.put k eb rv).keeps λc ys ec=>?_,q,es,ep,hq,h2,h3,h4,h5⟩;rw[aX (eN ec e (λz=>nomatch z))];exact ec
end
section
variable {k:Key}
theorem d_len (I:Inv X aN σ H s)(e:Rd H a (.dK kvs))(h:∀t s',Inv X aN σ H s'→Q (.int kvs.length t) s'):aY (bF X.prog X.w) A (call (.builtin "len") [.ref a]) Q E s:=by
 obtain⟨z,hd,vs,rel,dd⟩:=dk_rd I.hok e;apply call_len_dict hd dd (by rw[←rel.length];rw[sizeLine_eq] at z;lia) ?_;rw[←rel.length];exact h _ _ (I.tok _)
end
def NoSl (i:Expr):Prop:=∀ov iv,subscripted i false ov iv=operate [ov,iv] (getItem ov iv)
theorem subD_of {slice:Expr}{id:String}
  (hl:typeLookup (.type T) "__getitem__" =iS (some (.builtin id))) (hs:NoSl slice)
  (h:aY (bF prog w) A (dY value env) (λo s₁=>aY (bF prog w) A (dY slice env) (λi s₂=>s₂.TypeIs o T∧aY (bF prog w) A (getItem o i) Q E s₂) E s₁) E s) :
  aY (bF prog w) A (dY (.Subscript value slice pos) env) Q E s:=by
 apply Subscript_ (dG h (λo s₁ h₁=>dG h₁ (λi s₂ h₂=>?_) λ_ _ x=>x) λ_ _ x=>x);obtain⟨hT,h₂⟩:=h₂;unfold subscriptTail;apply aj ?_;rw[getitemInPython_of_ne hT.not_modules];apply aj (wpAny_specialOf hT hl ?_);have fin:aY (bF prog w) A (subscripted slice false o i) (λr s₃=>aY (bF prog w) A (letTemporaryGo value o r >>= λ_=>iS r) Q E s₃) E s₂:=by
  rw[hs o i];exact wpAny_operating (dG h₂ (λr s₃ h₃=>aj (wpAny_letTemporaryGo (aJ h₃))) λ_ _ x=>x)
 first
  | exact aJ (aj fin)
  | exact aj (aJ (aj fin))
  | exact aj fin
def tDIn (ty td:TE):TE:=λσ H Q=>ty σ H λy H1=>td σ H1 λx H2=>∃a o,x= .ref a∧DGet H2 a y o∧Q (.bl o.isSome) H2
def sDPut (td ty tv:TE):TS:=λD σ H=>tv σ H λv H1=>td σ H1 λx H2=>ty σ H2 λy H3=>∃a H4,x= .ref a∧DPut H3 a y v H4∧D.nx σ H4
section
variable {o i:Expr}{tpos:Pos}{tv:TE}
theorem pc_din (hu:X.A.units+1<cLine)(hi:PE X i ty)(ho:PE X o td):PC X .In i o (tDIn ty td):=by
 intro aN s σ H Q I h;apply thn (hi aN s σ H _ I h) λiv s1 ⟨y,H1,I1,ry,q1⟩=>thn (ho aN s1 σ H1 _ I1 q1) λu s2 hz0=>?_
 obtain⟨x,H2,I2,rx,a,ov,ex,g,q2⟩:=hz0;subst ex;obtain rfl:u=af.ref a:=rx;exact d_in hu I2 g ry λs3 I3=>⟨.bl ov.isSome,H2,I3,rfl,q2⟩
theorem ps_dput (hu:X.A.units+1<cLine)(ho:PE X o td)(hi:PE X i ty)(hv:PE X value tv)(hs:lR value (some (.Subscript o i pos')) pos.line X.env=iS false) :
  PS X (.Assign [.Subscript o i pos'] value pos) (sDPut td ty tv):=by
 intro aN s σ H D I h;apply wpAny_Assign_Subscript (thn (hv aN s σ H _ I h) λr s1 ⟨v,H1,I1,rv,q1⟩=>thn (ho aN s1 σ H1 _ I1 q1) λu s2 ⟨x,H2,I2,rx,q2⟩=>thn (hi aN s2 σ H2 _ I2 q2) λiv s3 hz0=>?_) hs;obtain⟨y,H3,I3,ry,a,H4,ex,g,q3⟩:=hz0;subst ex;obtain rfl:u=af.ref a:=rx;exact d_setItem hu I3 g ry rv λs4 I4=>⟨σ,H4,I4,q3⟩
end
structure M1 (X:Cx)(o:Expr)(m:Str)(apos:Pos)(e:Expr)(cpos:Pos):Prop where
 base:ia o m X.env (dY o X.env)=dY o X.env
 few:((gI cpos (br [e] X.env)).all (fun x=> !x.1) && (backToKw cpos (j9 [] X.env)).all (fun x=>x.1.isSome)
  && decide (([e]:List Expr).length+([]:List kX).length+(if ([]:List kX).isEmpty then 0 else 1)<30))=true
 line:(apos.endLine == cpos.line)=true
 trees:gI cpos (br [e] X.env)=[(false,dY e X.env)]
structure M2 (X:Cx)(o:Expr)(m:Str)(apos:Pos)(e f:Expr)(cpos:Pos):Prop where
 base:ia o m X.env (dY o X.env)=dY o X.env
 few:((gI cpos (br [e,f] X.env)).all (fun x=> !x.1) && (backToKw cpos (j9 [] X.env)).all (fun x=>x.1.isSome)
  && decide (([e,f]:List Expr).length+([]:List kX).length+(if ([]:List kX).isEmpty then 0 else 1)<30))=true
 line:(apos.endLine == cpos.line)=true
 trees:gI cpos (br [e,f] X.env)=[(false,dY e X.env),(false,dY f X.env)]
def IsDct (H:Hp)(a:aq):Prop:=(∃kvs,Rd H a (.dK kvs))∨∃kvs,Rd H a (.dT kvs)
theorem qi (I:Inv X aN σ H s)(d:IsDct H a) :
  s.TypeIs (.ref a) "dict" ∧(∀b,af.ref a= .ref b→∃ob,s.heap.get? b=some ob∧ob.dict=none)∧(a == iR)=false:=by
 rcases d with ⟨kvs,e⟩ | ⟨kvs,e⟩
 ·obtain⟨_,hd,vs,_,dd⟩:=dk_rd I.hok e
  apply⟨dd.typeIs,λb q=>?_,hd⟩;cases q;obtain⟨ob,_,_,h1,h2,_⟩:=dd;exact⟨ob,h1,h2.2.1⟩
 ·obtain⟨_,hd,xs,_,dd⟩:=dt_rd I.hok e
  apply⟨dd.typeIs,λb q=>?_,hd⟩;cases q;obtain⟨ob,_,_,h1,h2,_⟩:=dd;exact⟨ob,h1,h2.2.1⟩
section
variable {d:V}{r:af}{o:Option V}
theorem d_get1 (hu:A.units+1<cLine)(I:Inv X aN σ H s)(g:DGet H a y o)(ry:jr y u)(h:∀w' s',Inv X aN σ H s'→jr (o.getD .non) w'→Q w' s') :
  aY (bF X.prog X.w) A (call (.builtin "dict.get") [.ref a,u]) Q E s:=by
 rcases g with ⟨kvs,k,e,ey,l⟩ | ⟨kvs,k,b,e,ey,eb,l⟩
 ·subst ey
  obtain⟨z,hd,vs,rel,dd⟩:=dk_rd I.hok e;apply call_meetsIn iE dd.typeIs kB (PySem.F.args_dict_get_2 _ _) (meets_dict_get (hW X.prog X.w) a (kV_is ry) hd) ⟨_,dd.mapOf,h _ _ (I.tok _) ?_⟩;rw[l];exact(rel.val k).getD rfl
 ·subst ey
  cases(show u=af.ref b from ry);obtain⟨z,hd,xs,rel,dd⟩:=dt_rd I.hok e;apply call_meetsIn iE dd.typeIs kB (PySem.F.args_dict_get_2 _ _) (meetsH_dict_get (tupleKind (hW X.prog X.w)) a b hd) ⟨mR hu,k,xs,key_of I.hok eb,dd,h _ _ (I.tok _) ?_⟩;rw[l];exact(rel.val k).getD rfl
theorem d_get2 (hu:A.units+1<cLine)(I:Inv X aN σ H s)(g:DGet H a y o)(ry:jr y u)(rd:jr d r)(h:∀w' s',Inv X aN σ H s'→jr (o.getD d) w'→Q w' s') :
  aY (bF X.prog X.w) A (call (.builtin "dict.get") [.ref a,u,r]) Q E s:=by
 rcases g with ⟨kvs,k,e,ey,l⟩ | ⟨kvs,k,b,e,ey,eb,l⟩
 ·subst ey
  obtain⟨z,hd,vs,rel,dd⟩:=dk_rd I.hok e;apply call_meetsIn iE dd.typeIs kB (PySem.F.args_dict_get_3 _ _ _) (meets_dict_get_default (hW X.prog X.w) a (kV_is ry) hd r) ⟨_,dd.mapOf,h _ _ (I.tok _) ?_⟩;rw[l];exact(rel.val k).getD rd
 ·subst ey
  cases(show u=af.ref b from ry);obtain⟨z,hd,xs,rel,dd⟩:=dt_rd I.hok e;apply call_meetsIn iE dd.typeIs kB (PySem.F.args_dict_get_3 _ _ _) (meetsH_dict_get_default (tupleKind (hW X.prog X.w)) a b hd r) ⟨mR hu,k,xs,key_of I.hok eb,dd,h _ _ (I.tok _) ?_⟩;rw[l];exact(rel.val k).getD rd
end
def tDGet1 (td ty:TE):TE:=λσ H Q=>td σ H λx H1=>∃a,x= .ref a∧IsDct H1 a∧ty σ H1 λy H2=>∃o,DGet H2 a y o∧Q (o.getD .non) H2
def tDGet2 (td ty tx:TE):TE:=λσ H Q=>td σ H λx H1=>∃a,x= .ref a∧IsDct H1 a∧ty σ H1 λy H2=>tx σ H2 λz H3=>∃o,DGet H3 a y o∧Q (o.getD z) H3
section
variable {o f:Expr}{tx:TE}
theorem nJ (hu:X.A.units+1<cLine)(ho:PE X o td)(he:PE X e ty)(m:M1 X o "get" apos e cpos):PE X (.Call (.Attribute o "get" apos) [e] [] cpos) (tDGet1 td ty):=by
 intro aN s σ H Q I h;apply wpAny_Call_method m.base m.few m.line ke iE PySem.F.type_dict_get (thn (ho aN s σ H _ I h) λu s1 hz0=>?_);obtain⟨x,H1,I1,rx,a,ex,d,q1⟩:=hz0;subst ex;obtain rfl:u=af.ref a:=rx;obtain⟨t1,t2,_⟩:=qi I1 d;apply⟨t1,t2,?_⟩;rw[m.trees];apply iu rfl (jT (jo (thn (he aN s1 σ H1 _ I1 q1) λiv s2 hz0=>?_)));obtain⟨y,H2,I2,ry,ov,g,q2⟩:=hz0;apply Calls.spliced_nil ?_;exact d_get1 hu I2 g ry λw' s3 I3 rw'=>⟨_,H2,I3,rw',q2⟩
theorem pe_dget2 (hu:X.A.units+1<cLine)(ho:PE X o td)(he:PE X e ty)(hf:PE X f tx)(m:M2 X o "get" apos e f cpos):PE X (.Call (.Attribute o "get" apos) [e,f] [] cpos) (tDGet2 td ty tx):=by
 intro aN s σ H Q I h;apply wpAny_Call_method m.base m.few m.line ke iE PySem.F.type_dict_get (thn (ho aN s σ H _ I h) fun u s1 hz0=>?_);obtain ⟨x,H1,I1,rx,a,ex,d,q1⟩:=hz0;subst ex;obtain rfl:u=af.ref a:=rx;obtain ⟨t1,t2,_⟩:=qi I1 d;apply ⟨t1,t2,?_⟩;rw [m.trees];apply iu rfl (jT (jo (thn (he aN s1 σ H1 _ I1 q1) fun iv s2 ⟨y,H2,I2,ry,q2⟩ =>
  jo (thn (hf aN s2 σ H2 _ I2 q2) fun fv s3 ⟨z,H3,I3,rz,ov,g,q3⟩=>Calls.spliced_nil ?_))))
 exact d_get2 hu I3 g ry rz λw' s4 I4 rw'=>⟨_,H3,I4,rw',q3⟩
end
end L2
namespace Att
open PySem PySem.W PySem.Calls PyProof.Rows
end Att
namespace L2
open PySem PySem.Spec PyProof.Rows
theorem call_lenD:jU X (.builtin "len") (λxs H Q=>∃a kvs,xs=[V.ref a]∧H a=some (.dK kvs)∧Q (.int kvs.length) H):=by
 intro aN s σ H xs us Q I r h;obtain⟨a,kvs,rfl,ha,q⟩:=h;obtain⟨u,rfl,ru⟩:=nV r;cases ru;exact d_len I (.inl ha) λt s' I'=>⟨.int kvs.length,H,I',⟨t,rfl⟩,q⟩
def DiK (P:aK)(w:bg)(K:ak)(a:aq)(kvs:List (Key×V)):Prop :=
 (a == iR)=false∧∃vs,KV kvs vs∧∀h:bM,K.In h→h.DictOf (hW P w) a vs
def tDGetK (kvs:List (Key×V))(ty:TE):TE:=λσ H Q=>ty σ H λy H1=>∃k v,y=kV k∧me kvs k=some v∧Q v H1
def tDNotInK (kvs:List (Key×V))(ty:TE):TE:=λσ H Q=>ty σ H λy H1=>∃k,y=kV k∧Q (.bl (!(me kvs k).isSome)) H1
section
variable {o i:Expr}
theorem pe_dgetK (D:DiK X.prog X.w X.K a kvs)(ho:PE X o (tC (.ref a)))(hi:PE X i ty)(hs:NoSl i):PE X (.Subscript o i pos) (tDGetK kvs ty):=by
 intro aN s σ H Q I h;obtain⟨hd,vs,rel,dd⟩:=D;apply subD_of PySem.F.slot_dict_getitem.lookup hs (thn (ho aN s σ H (λx H1=>x= .ref a∧H1=H) I ⟨rfl,rfl⟩) λu s1 hz0=>?_);obtain⟨x,H1,I1,rx,ex,e1⟩:=hz0;subst ex e1;obtain rfl:u=af.ref a:=rx;apply thn (hi aN s1 σ H1 _ I1 h) λiv s2 hz0=>?_
 obtain⟨y,H2,I2,ry,k,v,ey,l,q⟩:=hz0;subst ey;have dd:=dd _ I2.kIn;obtain⟨w',hw,rw'⟩:=pZ.some_of (v:=v) (o:=valueAt vs k) (by rw[←l];exact rel.val k);exact⟨dd.typeIs,wpAny_getItem_of (kV_is ry) dd.mapOf hw ⟨v,H2,I2.tok _,rw',q⟩⟩
theorem pc_dnotinK (D:DiK X.prog X.w X.K a kvs)(hi:PE X i ty)(ho:PE X o (tC (.ref a))):PC X .NotIn i o (tDNotInK kvs ty):=by
 intro aN s σ H Q I h;obtain⟨hd,vs,rel,dd⟩:=D;apply thn (hi aN s σ H _ I h) λiv s1 ⟨y,H1,I1,ry,k,ey,q⟩=>thn (ho aN s1 σ H1 (λx H2=>x= .ref a∧H2=H1) I1 ⟨rfl,rfl⟩) λu s2 hz0=>?_
 obtain⟨x,H2,I2,rx,ex,e2⟩:=hz0;subst ex e2 ey;obtain rfl:u=af.ref a:=rx;have dd:=dd _ I2.kIn;apply wpAny_notIn_of (kV_is ry) hd dd.mapOf ?_;rw[←(rel.val k).isSome_eq];exact⟨.bl _,H2,I2.tok _,rfl,q⟩
end
end L2
namespace HN
open PySem L2 PyProof.Rows
theorem cutU {i:Int}(hi:i=(n:Int)):cutV xs none (some i)=xs.take n:=by
 unfold cutV;subst hi;have e:=HT.sIx_nat xs.length xs.length n;rw[e];show(xs.drop 0).take (min n xs.length - 0)=xs.take n;rw[List.drop_zero,Nat.sub_zero]
 by_cases h:n≤xs.length
 ·rw[eh h]
 ·rw[Nat.min_eq_right ⋯,bO,eP ⋯]
theorem cutF {i:Int}(hi:i=(n:Int)):cutV xs (some i) none=xs.drop n:=by
 unfold cutV;subst hi;have e:=HT.sIx_nat xs.length 0 n;rw[e];show(xs.drop (min n xs.length)).take (xs.length - min n xs.length)=xs.drop n
 by_cases h:n≤xs.length
 ·rw[eh h,eP (by rw[bD];lia)]
 ·rw[Nat.min_eq_right ⋯,List.drop_length,jv ⋯,List.take_nil]
end HN
namespace HN
open PySem L2 PyProof.Rows HT2
abbrev sRowR:c8:=top 71
inductive PR where
 | beat (b:Int)
 | line (n:Str) (ss:List Str) (rs:List Int)
 | oth (k:Str) (ns:List Str) (is:List Int)
def PR.at (H:Hp)(p:aq):PR→Prop
 | .beat b=>H p=some (.tup [.str "beat",.int b])
 | .line n ss rs=>∃a b,H a=some (.tup (ss.map V.str))∧H b=some (.tup (rs.map V.int))∧H p=some (.tup [.str "line",.str n,.ref a,.ref b])
 | .oth k ns is=>H p=some (.tup (.str k::(ns.map V.str++is.map V.int)))
theorem PR.at.kept (S:cb H H'):∀{r:PR},r.at H p→r.at H' p
 | .beat _,h=>S _ _ h
 | .line _ _ _,⟨a,b,h1,h2,h3⟩=>⟨a,b,S _ _ h1,S _ _ h2,S _ _ h3⟩
 | .oth _ _ _,h=>S _ _ h
def fms:List (Str×Nat×Nat):=[("stay",2,3),("change",3,3),("apart",3,1),("meet",4,1)]
def PR.wds (ws:List Str):PR→Prop
 | .beat _=>False
 | .line n ss rs=>ws[0]? =some ("line" :Str)∧LnW ws n ss rs
 | .oth k ns is=>ws=k::(ns++is.map iA)∧(k,ns.length,is.length)∈fms∧(∀z∈ns,nam z=true)∧∀i∈is,W60 i
structure Fms (P:aK)(w:bg)(K:ak)(mg:Str→Option af):Prop where
 ex:∃aF t1 t2 t3 t4,mg "FORMS" =some (.ref aF)∧DiK P w K aF [(.inr "stay",.ref t1),(.inr "change",.ref t2),(.inr "apart",.ref t3),(.inr "meet",.ref t4)] ∧
  (∀H,SqT K H t1 [.int 2,.int 3])∧(∀H,SqT K H t2 [.int 3,.int 3])∧(∀H,SqT K H t3 [.int 3,.int 1])∧∀H,SqT K H t4 [.int 4,.int 1]
theorem Fms.at {P:aK}{w:bg}{K:ak}{mg:Str→Option af}(M:Fms P w K mg):∃aF kvs,mg "FORMS" =some (.ref aF)∧DiK P w K aF kvs ∧
  ∀k a b,(k,a,b)∈fms→k ≠ "line" ∧∃t,me kvs (.inr k)=some (.ref t)∧∀H,SqT K H t [.int (a:Nat),.int (b:Nat)]:=by
 obtain⟨aF,t1,t2,t3,t4,h1,h2,q1,q2,q3,q4⟩:=M.ex;apply⟨aF,_,h1,h2,λk a b h=>?_⟩;unfold fms at h;simp only[ay,bz,or_false,Prod.mk.injEq] at h
 rcases h with ⟨rfl,rfl,rfl⟩ | ⟨rfl,rfl,rfl⟩ | ⟨rfl,rfl,rfl⟩ | ⟨rfl,rfl,rfl⟩
 ·exact⟨by trivial,t1,rfl,q1⟩
 ·exact⟨by trivial,t2,rfl,q2⟩
 ·exact⟨by trivial,t3,rfl,q3⟩
 ·exact⟨by trivial,t4,rfl,q4⟩
theorem fms_few {k:Str}{a b:Nat}(h:(k,a,b)∈fms):a≤4∧b≤3:=by
 unfold fms at h;simp only[ay,bz,or_false,Prod.mk.injEq] at h;lia
theorem cutA {i j:Int}(hi:i=(m:Int))(hj:j=(n:Int))(h1:m≤xs.length)(h2:n≤xs.length):cutV xs (some i) (some j)=(xs.drop m).take (n - m):=by
 subst hi hj;unfold cutV;rw[HT.sIx_nat,HT.sIx_nat,eh h1,eh h2]
inductive spRowR (vs:List V)(H:Hp)(Q:VK)(_:XK):Prop
 | mk (z:Str)(ws:List Str)(r:PR)(_:vs=[.str z])(_:z.length≤100000)(_:dU z sp_=ws)(_:r.wds ws)(_:∀p H',cb H H'→r.at H' p→Q (.ref p) H')
theorem scRowR:cI ["row","words","form","behind","names"] ["row"] (defScope sRowR):=by trivial
theorem ok_rowR {fd3:aT}(F:Fun K "read_row" "read_row" sRowR f fd)(T:Nm mg)(M:Fms P w K mg)(GN:Fn K mg "read_name" sNam pzc f1 fd1)(FN:‹0› 1 f1 fd1 pzc spNam)(GW:Fn K mg "read_whole" sRead pzc f2 fd2)(FW:‹0› 2 f2 fd2 pzc qv)
  (GL:Fn K mg "read_line" sLineR ["words"] f3 fd3) (FL:‹0› 3 f3 fd3 ["words"] spLineR):‹0› 4 f fd ["row"] spRowR:=by
 specialize F.ok scRowR;obtain ⟨z,ws,r,rfl,hz,hs,hw,k⟩:=h;have hr1:=hr.mono (show 1≤3 by lia);have hr2:=hr.mono (show 2≤3 by lia);obtain ⟨aF,kvs,hF,D,fm⟩:=M.at;apply ⟨_,dw (psZ 1 scRowR.nd (jR dj PySem.F.slot_str_split PySem.F.type_str_split mt_split (pv 0) (ah eS aA)))
  (dw (fG (bQ iB (fj bV (pv 1) aO (fun _ _=>rfl)) eS (cw _)) (bE (bR (pc1 GL FL hr (ah (pv 1) aA)))) cF)
  (dw (fG (pt_cmp (pc_dnotinK D (fj bV (pv 1) aO (fun _ _=>rfl)) (pA (v:= .ref aF) rfl hF rfl)) rfl) (bE mH) cF)
  (dw (psZ 2 scRowR.nd (pe_dgetK D (pA (v:= .ref aF) rfl hF rfl) (fj bV (pv 1) aO (fun _ _=>rfl)) (fun _ _=>rfl)))
  (dw (psZ 3 scRowR.nd (cH fz aO (ixZ (pv 2))))
  (dw (fG (bQ rb (cu cA rfl T.len bp (ah (pv 1) aA)) (cH fz (pv 3) (ixZ (pv 2))) (cw _)) (bE mH) cF)
  (dw (ps_setC (iy:=4) (fr:=[]) (js:=[]) scRowR.nd rfl (.inl rfl) rfl (jk (fe iI (pv 1) (fV aO) (fV (pv 3)))) ⇑0 rfl ⇑0 rfl (by exists sRowR) ⇑0 rfl ⇑0 (fun _ _ _ _ _=>⟨(pc1 GN FN hr1 (ah (pv 0) aA)),kh⟩))
  (bE (bR (gk nt rfl T.ttup boot_tuple (ah (cH iY (cH iY (fe iI (pv 1) gW (fV aO)) (pv 4)) (kL (fr:=[]) (js:=[]) rfl (jk (fe iI (pv 1) (fV (pv 3)) gW)) ⇑0 rfl ⇑0 rfl (by exists sRowR) ⇑0 rfl ⇑0 (fun _ _ _ _ _=>⟨(pc1 GW FW hr2 (ah (pv 0) aA)),kh⟩))) aA)))))))))),?_⟩
 try dsimp only [cxK]
 have one:((sp_:Str).length == 0)=false:=by trivial
 apply⟨ρ,rfl,ς,one,cO (show _≤200000 by lia) ↥0,λL H1 S1 e1=>?_⟩;have e1:H1 L=some (.lst ((dU z sp_).map V.str)):=e1;rw[hs] at e1;cases r with
 | beat b=>exact hw.elim
 | line n ss rs =>
  obtain⟨h0,W⟩:=hw;apply⟨ρ,L,τ,SqL.of e1,aP (j:=0) (by rw[aC,h0];rfl),rfl,ρ,?_⟩;rw[show decide (V.str "line" =V.str "line")=true from by trivial];apply iteT ?_;exact⟨ρ,L,ws,n,ss,rs,rfl,e1,W,λp a b H2 S2 g1 g2 g3=>k p H2 (S1.trans S2) ⟨a,b,g1,g2,g3⟩⟩
 | oth kd ns is =>
  obtain⟨rfl,hf,nn,ii⟩:=hw;obtain⟨hk,t,ht,hq⟩:=fm _ _ _ hf;have few:=fms_few hf;have e1:H1 L=some (.lst (V.str kd::(ns.map V.str++(is.map iA).map V.str))):=by rw[e1,bq,aw]
  have hlen:(V.str kd::(ns.map V.str++(is.map iA).map V.str)).length=1+ns.length+is.length:=by
   rw[av,ao,ae,ae,ae];lia
  have big:(100000:Nat)≤az:=by decide
  apply⟨ρ,L,τ,SqL.of e1,aP (j:=0) rfl,rfl,ρ,jY (rS λz=>hk (by injection z)) ?_⟩;apply⟨ρ,L,τ,SqL.of e1,aP (j:=0) rfl,.inr kd,rfl,ρ,jY (by rw[ht];rfl) ?_⟩;apply⟨ρ,L,τ,SqL.of e1,aP (j:=0) rfl,.inr kd,ρ,ht,?_⟩;apply⟨ρ,t,τ,hq H1,aP (j:=0) rfl,ς,?_⟩;apply⟨ρ,L,ρ,.inl (SqL.of e1),ρ,ρ,t,τ,hq H1,aP (j:=1) rfl,ς,rfl,ρ,jY ?_ ?_⟩
  ·rw[hlen,rR (by congr 1 <;> lia)];rfl
  apply⟨ρ,ρ,ρ,ρ,L,ρ,SqL.of e1,λD1 H2 S2 d1=>?_⟩;rw[cutA (i:=1) (j:=1+(ns.length:Int)) (m:=1) (n:=1+ns.length) rfl ⋯ (by rw[hlen];lia) (by rw[hlen];lia)] at d1;have d1:H2 D1=some (.lst (ns.map V.str)):=by
   rw[d1];show some (HO.lst ((ns.map V.str++(is.map iA).map V.str).take (1+ns.length - 1)))=_;rw[Nat.add_sub_cancel_left];congr 2;exact ku (ae _)
  apply⟨D1,rfl,⟨_,SqL.of d1⟩,?_⟩;apply kq (K:=K) (a:=D1) (xs:=ns.map V.str) (λj zs H3=>cb H2 H3∧zs=(ns.take j).map V.str) ⟨cb.refl _,rfl⟩ (λj zs H3 hj ⟨g1,g2⟩=>?_) (by rw[ae];lia) (λj x zs H3 hx3 ⟨g1,g2⟩=>?_) (λzs H3 ⟨g1,g2⟩ D hD=>?_)
  ·apply⟨SqL.of (g1 _ _ d1),?_⟩
   rw[g2,ae,aL];lia
  ·rw[aC] at hx3
   obtain⟨y,hn3,rfl⟩:=aV.mp hx3;apply jq ?_;apply⟨ρ,y,rfl,nn y (aD hn3),λH4 S4=>⟨g1.trans S4,?_⟩⟩;rw[g2,bG,hn3,aw];rfl
  rw[ae,bO] at g2;have S5:cb H1 (upd H3 D (.lst zs)):=S2.trans (g1.trans (cb.put (cb.refl H3) hD));generalize hH:upd H3 D (.lst zs)=H5 at S5;have d5:H5 D=some (.lst (ns.map V.str)):=by rw[←hH,aQ,g2]
  have e5:=S5 _ _ e1;apply⟨ρ,ρ,L,ρ,SqL.of e5,λD2 H6 S6 d6=>?_⟩;rw[cutU (i:=1) (n:=1) rfl] at d6;have d6:H6 D2=some (.lst [V.str kd]):=d6;apply⟨ρ,D2,D,ς,d6,S6 _ _ d5,(by rw[ae];show 1+ns.length≤az;lia),λD3 H7 S7 d7=>?_⟩;have e7:=(S6.trans S7) _ _ e5;apply⟨ρ,ρ,ρ,L,ρ,SqL.of e7,λD4 H8 S8 d8=>?_⟩;rw[cutF (i:=1+(ns.length:Int)) (n:=1+ns.length) ⋯] at d8;have d8:H8 D4=some (.lst ((is.map iA).map V.str)):=by
   rw[d8];rw[Nat.add_comm 1 ns.length,List.drop_succ_cons];congr 2;exact List.drop_left' (ae _)
  apply⟨D4,rfl,⟨_,SqL.of d8⟩,?_⟩;apply kq (K:=K) (a:=D4) (xs:=(is.map iA).map V.str) (λj zs H3=>cb H8 H3∧zs=(is.take j).map V.int) ⟨cb.refl _,rfl⟩ (λj zs H3 hj ⟨g1,g2⟩=>?_) (by rw[ae,ae];lia) (λj x zs H3 hx3 ⟨g1,g2⟩=>?_) (λzs2 H9 ⟨g3,g4⟩ D' hD'=>?_)
  ·apply⟨SqL.of (g1 _ _ d8),?_⟩
   rw[g2,ae,aL];lia
  ·rw[bf,aC] at hx3
   obtain⟨i,hn3,rfl⟩:=aV.mp hx3;apply jq ?_;apply⟨ρ,i,rfl,ii i (aD hn3),λH4 S4=>⟨g1.trans S4,?_⟩⟩;rw[g2,bG,hn3,aw];rfl
  rw[ae,ae,bO] at g4;have S10:cb H7 (upd H9 D' (.lst zs2)):=S8.trans (g3.trans (cb.put (cb.refl H9) hD'));have d10:=S10 _ _ d7;apply⟨D3,D',ς,d10,(by rw[aQ]),(by rw[g4,ao,ae,ae];show 1+ns.length+is.length≤az;lia),λD5 H11 S11 d11=>?_⟩;apply⟨D5,ρ,SqL.of d11,λp H12 S12 d12=>k p H12 (S1.trans (S5.trans (S6.trans (S7.trans (S10.trans (S11.trans S12)))))) ?_⟩;show H12 p=some (.tup (.str kd::(ns.map V.str++is.map V.int)));rw[d12,g4];rfl
structure RsAt (H:Hp)(xs:List V)(rs:List PR):Prop where
 len:xs.length=rs.length
 get:∀(i:Nat) (r:PR),rs[i]? =some r→∃a:aq,xs[i]? =some (V.ref a)∧r.at H a
theorem RsAt.kept {rs:List PR}(S:cb H H')(h:RsAt H xs rs):RsAt H' xs rs:=⟨h.len,λi r e=>let ⟨a,h1,h2⟩:=h.get i r e;⟨a,h1,h2.kept S⟩⟩
theorem RsAt.snoc {rs:List PR}{r:PR}(h:RsAt H xs rs)(q:r.at H a):RsAt H (xs++[V.ref a]) (rs++[r]):=by
 apply⟨by rw[ao,ao,h.len];rfl,λi r' e=>?_⟩
 by_cases hi:i<rs.length
 ·rw[bI hi] at e
  obtain⟨b,h1,h2⟩:=h.get i r' e;exact⟨b,by rw[bI (by rw[h.len];exact hi)];exact h1,h2⟩
 ·rw[bc ⋯] at e
  have hl:=h.len;have h0:i - rs.length=0:=by
   have:=(ai.mp e).1;simp at this;lia
  rw[h0] at e;cases e;exact⟨a,by rw[bc ⋯,hl,h0];rfl,q⟩
theorem RsAt.cons {H:Hp}{xs:List V}{rs:List PR}{a:aq}{r:PR}(h:RsAt H xs rs)(q:r.at H a):RsAt H (V.ref a::xs) (r::rs):=by
 apply⟨by rw[av,av,h.len],λi r' e=>?_⟩;cases i with
 | zero=>cases e;exact⟨a,rfl,q⟩
 | succ i=>exact h.get i r' e
inductive spPlanR (vs:List V)(H:Hp)(Q:VK)(_:XK):Prop
 | mk (z z0:Str)(b:Int)(zr:List (Str×PR))(_:vs=[.str z])(_:z.length≤100000)(_:dU z nl_=z0::zr.map (·.1))(_:zr.length≤100000)(_:z0.length≤100000)(_:dU z0 sp_=[("beat" :Str),iA b])(_:W60 b)(_:(∀q∈zr,q.1.length≤100000∧q.2.wds (dU q.1 sp_)))(_:∀p xs H',cb H H'→H' p=some (.lst xs)→RsAt H' xs (.beat b::zr.map (·.2))→Q (.ref p) H')
abbrev sPlanR:c8:=top 72
theorem scPlanR:cI ["text","rows"] pzd (defScope sPlanR):=by trivial
theorem ok_planR (F:Fun K "read_plan" "read_plan" sPlanR f fd)(T:Nm mg)(T2:Nm2 mg)(GB:Fn K mg "read_beat" sBeatR ["row"] f1 fd1)(FB:‹0› 3 f1 fd1 ["row"] spBeatR)(GR:Fn K mg "read_row" sRowR ["row"] f2 fd2)(FR:‹0› 4 f2 fd2 ["row"] spRowR) :
  ‹0› 5 f fd pzd spPlanR:=by
 specialize F.ok scPlanR;obtain ⟨z,z0,b,zr,rfl,hz,hs,hn,hz0,hs0,hb,hw,k⟩:=h;have hr3:=hr.mono (show 3≤4 by lia);apply ⟨_,dw (fG (oK (mY (pe_isStr T T2 (pv 0)))) (bE mH) cF)
  (dw (psZ 1 scPlanR.nd (jR dj PySem.F.slot_str_split PySem.F.type_str_split mt_split (pv 0) (ah eS aA)))
  (bE (bR (cH iY (ip (ah (pc1 GB FB hr3 (ah (fj bV (pv 1) aO (fun _ _=>rfl)) aA)) aA)) (kL (fr:=[]) (js:=[]) rfl (jk (fe iI (pv 1) (fV aO) gW)) ⇑0 rfl ⇑0 rfl (by exists sPlanR) ⇑0 rfl ⇑0 (fun _ _ _ _ _=>⟨(pc1 GR FR hr (ah (pv 0) aA)),kh⟩)))))),?_⟩
 try dsimp only [cxK]
 have one:((nl_:Str).length == 0)=false:=by trivial
 have big:(200000:Nat)≤az:=by decide
 apply⟨ρ,_,"str",rfl,rfl,ρ,jY ↥0 ?_⟩;apply⟨ρ,rfl,ς,one,cO (show _≤200000 by lia) ↥0,λL H1 S1 e1=>?_⟩;have e1:H1 L=some (.lst ((dU z nl_).map V.str)):=e1;rw[hs] at e1;have e1:H1 L=some (.lst (V.str z0::(zr.map (·.1)).map V.str)):=e1;apply⟨ρ,L,τ,SqL.of e1,aP (j:=0) rfl,z0,b,rfl,hz0,hs0,hb,λp0 H2 S2 e2=>?_⟩;apply⟨szZ1,λD0 H3 S3 d3=>?_⟩;have S13:=S2.trans S3;apply⟨ρ,ρ,L,ρ,SqL.of (S13 _ _ e1),λD1 H4 S4 d4=>?_⟩;rw[cutF (i:=1) (n:=1) rfl] at d4;have d4:H4 D1=some (.lst ((zr.map (·.1)).map V.str)):=d4;apply⟨D1,rfl,⟨_,SqL.of d4⟩,?_⟩
 let pZ1:Nat→List L2.V→L2.Hp→Prop:=λj zs H5=>cb H4 H5∧RsAt H5 zs ((zr.take j).map (·.2))
 apply kq (K:=K) (a:=D1) (xs:=(zr.map (·.1)).map V.str) pZ1 ⟨cb.refl _,⟨rfl,λi r e=>nomatch e⟩⟩ (λj zs H5 hj ⟨g1,g2⟩=>?_) (by rw[ae,ae];lia) (λj x zs H5 hx ⟨g1,g2⟩=>?_) (λzs H5 ⟨g1,g2⟩ D hD=>?_)
 ·apply⟨SqL.of (g1 _ _ d4),?_⟩
  rw[g2.len,ae,aL];lia
 ·rw[bf,aC] at hx
  obtain⟨q,hq,rfl⟩:=aV.mp hx;obtain⟨w1,w2⟩:=hw q (aD hq);apply jq ?_;apply⟨ρ,q.1,_,q.2,rfl,w1,rfl,w2,λp H6 S6 e6=>⟨g1.trans S6,?_⟩⟩;rw[bG,hq,aw];exact(g2.kept S6).snoc e6
 rw[ae,ae,bO] at g2;have hl:=g2.len;rw[ae] at hl;have S7:cb H5 (upd H5 D (.lst zs)):=cb.put (cb.refl H5) hD;have S8:cb H3 (upd H5 D (.lst zs)):=S4.trans (g1.trans S7);apply⟨D0,D,ς,S8 _ _ d3,(by rw[aQ]),(by show 1+zs.length≤az;lia),λp H9 S9 e9=>?_⟩;exact k p _ H9 (S1.trans (S13.trans (S8.trans S9))) e9 (((g2.kept S7).kept S9).cons (show PR.at H9 p0 (.beat b) from (S3.trans (S8.trans S9)) _ _ e2))
end HN
variable {pre prs rs:List HN.PR}{r:HN.PR}
namespace L2
open PySem PySem.Spec PyProof.Rows
open AutoSeq1 (wpAny_loadPart')
theorem pf (p:aq)(items:Array af)(x:af)(e:af→Bool)(he:∀y,y∈items→PySem.MeetsSeq.EqGives y x (e y))(j:Nat)(hj:j<items.size)(hit:e items[j]=true)(hno:∀m (hm:m<items.size),m<j→e items[m]=false) :
  Meets (dC.«tuple.index» ⟨[.ref p,x],[]⟩) (λ_ R s=>IsTup s.heap p items∧R (.ok (.ret (.int j s.toks))) { s with toks:=s.toks+1 }) :=
 .of_wp λprog w A R s h=>by
  obtain⟨hp,g,d,tk,os⟩:=s;obtain⟨⟨o,ho,hc,n,hd⟩,h⟩:=h
  wp_walk using eZ ho
  rw[hd];apply aJ (aJ ?_)
  dsimp only
  apply aj (aJ (aj (aJ (aj ?_))));rw[Nat.min_self,Std.Legacy.Range.forIn_eq_forIn_range'];apply wpAny_forIn_list _ (λl b s'=>∃k,l=List.range' k (items.size - k)∧k≤j∧b=(none,())∧s'=⟨hp,g,d,tk,os⟩) _ ?_ ?_ _ _ ?_
  ·rintro i rest b s' ⟨k,hl,hk,rfl,rfl⟩
   have hk2:items.size - k=(items.size - (k+1))+1:=by lia
   rw[hk2,List.range'_succ] at hl;injection hl with h1 h2
   subst h1;have hik:i<items.size:=by lia
   rw[mE hik];apply aj (he _ (Array.getElem_mem hik) prog w _ _ _ _ ?_)
   by_cases hij:i=j
   ·subst hij
    rw[hit,rP rfl]
    wp_walk
    first | exact⟨ρ,h⟩ | exact h
   ·rw[hno i hik ⋯,rO bN]
    exact aJ ⟨i+1,h2,⋯,rfl,rfl⟩
  ·rintro b s' ⟨k,hl,hk,rfl,rfl⟩
   have hk2:items.size - k=(items.size - (k+1))+1:=by lia
   rw[hk2,List.range'_succ] at hl;cases hl
  ·apply⟨0,?_,cV _,rfl,rfl⟩
   simp[Std.Legacy.Range.size]
theorem Inv.tupleN (I:Inv X aN σ H s)(h:H a=some (.tup xs)):∃its:List af,ie xs its∧mQ s.heap a its.toArray:=by
 obtain⟨z,its,r,p⟩:=I.hok a _ h;exact⟨its,r,p⟩
def tBMT (r:V→List V→Hp→VK→Prop)(to:TE)(t:TA):TE:=λσ H Q=>to σ H λx H1=>(∃p xs,x= .ref p∧H1 p=some (.tup xs))∧t σ H1 λxs H2=>r x xs H2 Q
theorem pe_bmT {o:Expr}{id:String}{r:V→List V→Hp→VK→Prop}(slot:Slot "tuple" name id)(hty:typeOf (.builtin id)=iS (.type "method_descriptor"))(hm:MtR X id r)(ho:PE X o to)(ha:PA X (e::es) t)
  (hbase:autoParam (ia o name X.env (dY o X.env)=dY o X.env) L2.au0._auto_1)
  (hfew:autoParam (((gI cpos (br (e::es) X.env)).all (λx=> !x.1) && (backToKw cpos (j9 [] X.env)).all (λx=>x.1.isSome) && decide ((e::es).length+([]:List kX).length+(if ([]:List kX).isEmpty then 0 else 1)<30))=true) L2.au0._auto_1)
  (hline:autoParam ((apos.endLine == cpos.line)=true) L2.au0._auto_1) (hs:autoParam (br (e::es) X.env=(false,dY e X.env)::br es X.env) L2.au0._auto_1) (hplain:autoParam ((gI cpos (br es X.env)).any (·.1)=false) L2.au0._auto_1) :
  PE X (.Call (.Attribute o name apos) (e::es) [] cpos) (tBMT r to t):=by
 intro aN s σ H Q I h;apply wpAny_Call_method_late hbase hfew hline rfl (thn (ho aN s σ H _ I h) λv s1 hz0=>?_);obtain⟨x,H1,I1,r1,ty,q1⟩:=hz0;obtain⟨p,xs,rfl,hp⟩:=ty;cases(show v=af.ref p from r1);obtain⟨its,rv,ob,e1,c1,d1,n,dd⟩:=I1.tupleN hp;apply⟨"tuple",id,PySem.F.plainAttrs_tuple,slot,hty,⟨ob,e1,c1⟩,λa ea=>by cases ea;exact⟨ob,e1,d1⟩,?_⟩;have hA:=ha cpos aN s1 σ H1 _ I1 q1;rw[hs] at hA ⊢;apply iu (by show(false || (gI cpos (br es X.env)).any (·.1))=false;rw[hplain] <;> rfl) (jT ?_);exact thn hA λus s2 ⟨vs,H2,I2,r2,q2⟩=>hm aN s2 σ H2 (.ref p) vs (.ref p) us Q I2 r1 r2 q2
end L2
namespace L2
open PySem PySem.Spec PyProof.Rows
inductive rIndexS (K:ak)(x:V)(vs:List V)(H:Hp)(Q:VK):Prop
 | mk (p:aq)(ns:List Str)(k:Str)(i:Nat)(_:x= .ref p)(_:vs=[.str k])(_:SqT K H p (ns.map V.str))(_:ns[i]? =some k)(_:(∀j,j<i→ns[j]? ≠some k))(_:Q (.int (i:Nat)) H)
theorem mt_indexS:MtM X "tuple.index" (rIndexS X.K):=by
 intro aN s σ H x vs v us Q I rx rv h;obtain⟨p,ns,k,i,rfl,rfl,hq,hi,hno,q⟩:=h;cases(show v=af.ref p from rx);obtain⟨u,rfl,ru⟩:=rv.one;obtain⟨t,rfl⟩:=(show ∃t,u=af.str k t from ru);obtain⟨its,r,pl,hz⟩:=I.tuple hq;have hl:its.length=ns.length:=by rw[←r.length,ae]
 have hil:i<ns.length:=(ai.mp hi).1;have at_:∀(m:Nat) (hm:m<its.toArray.size),∃tk,its.toArray[m]=af.str (ns[m]'(by rw[←hl];simpa using hm)) tk:=λm hm=>by
  have hm':m<ns.length:=by rw[←hl];simpa using hm
  obtain⟨u,hu,ru⟩:=r.get (i:=m) (x:=V.str ns[m]) (by rw[aC,gE hm'];rfl);obtain⟨tk,rfl⟩:=(show ∃t,u=af.str ns[m] t from ru);exact⟨tk,by have:=(ai.mp hu).2;simpa using this⟩
 have e0:∀(m:Nat) (hm:m<its.toArray.size),(match its.toArray[m] with | .str y _=>y == k | _=>false)=(ns[m]'(by rw[←hl];simpa using hm) == k):=λm hm=>by
  obtain⟨tk,e⟩:=at_ m hm;rw[e]
 have his:i<its.toArray.size:=by rw[aH,hl];exact hil
 apply jh F.slot_tuple_index ⟨_,pl.choose_spec.1,pl.choose_spec.2.1⟩ F.entry_tuple_index (F.args_tuple_index_2 _ _) (pf p its.toArray (.str k t) (λv=>match v with | .str y _=>y == k | _=>false) (λy hy=>?_) i his ?_ (λm hm hmi=>?_)) ⟨pl,⟨.int (i:Nat),H,I.tok _,⟨_,rfl⟩,q⟩⟩
 ·obtain⟨m,hm,rfl⟩:=Array.getElem_of_mem hy
  obtain⟨tk,e⟩:=at_ m hm;rw[e];exact λprog w A E s Q h=>wpAny_eqBool_str h
 ·rw[e0 i his,beq_iff_eq]
  exact(ai.mp hi).2
 ·rw[e0 m hm,beq_eq_false_iff_ne]
  have hm':m<ns.length:=by rw[←hl];simpa using hm
  intro z;exact hno m hmi (by rw[gE hm',z])
end L2
namespace HN
open PySem L2 PyProof.Rows HT2
abbrev cLin:c8:=top 73
abbrev sInitL:c8:=clsOf cLin 0
abbrev sComL:c8:=clsOf cLin 1
abbrev sGoL:c8:=clsOf cLin 2
structure LinC (K:ak)(C:aq):Prop where
 cl:Cls K C
 n1:kK K C "name"
 n2:kK K C "stops"
 n3:kK K C "runs"
 n4:kK K C "stays"
 n5:kK K C "first"
abbrev linF (n:Str)(a b D:aq)(fi:Int):List (Str×V):=[("name",.str n),("stops",.ref a),("runs",.ref b),("stays",.ref D),("first",.int fi)]
structure LinD (H:Hp)(C x:aq)(n:Str)(ss:List Str)(rs:List Int)(D:aq)(fi:Int):Prop where
 ex:∃dx a b,H x=some (.ins C dx (linF n a b D fi))∧H a=some (.tup (ss.map V.str))∧H b=some (.tup (rs.map V.int))
inductive spInitL (C:aq)(vs:List V)(H:Hp)(Q:VK)(_:XK):Prop
 | mk (x dx a b:aq)(n:Str)(fi:Int)(_:vs=[.ref x,.str n,.ref a,.ref b,.int fi])(_:H x=some (.ins C dx []))(_:∀(D:aq) (H':Hp),(∀c o,c≠x→H c=some o→H' c=some o)→H D=none→H' D=some (.dK [])→H' x=some (.ins C dx (linF n a b D fi))→Q .non H')
inductive spGoL (C:aq)(vs:List V)(H:Hp)(Q:VK)(_:XK):Prop
 | mk (x D:aq)(n z:Str)(ss:List Str)(rs:List Int)(fi:Int)(_:vs=[.ref x,.str z])(_:LinD H C x n ss rs D fi)(_:ss.length≤1000)(_:2≤ss.length)(_:ss.Nodup)(_:∀H',cb H H'→(∀i:Nat,ss[i]? =some z→i+1<ss.length→Q (.int (fi+2 * i)) H')∧((∀i:Nat,ss[i]? =some z→ss.length≤i+1)→Q .non H'))
theorem inV_strs (x:Str):∀p:List Str,inV (.str x) (p.map V.str)=decide (x∈p)
 | []=>by simp[inV]
 | y::p=>by
  have ih:=inV_strs x p;unfold inV at ih ⊢;rw[bq,jF,ih]
  by_cases e:y=x
  ·subst e;simp[eqV]
  ·have:eqV (.str y) (.str x)=false:=by simp[eqV,e]
   rw[this];simp[ay,cQ e]
theorem qN:∀p:List Str,(p.map V.str).all pK=true
 | []=>rfl
 | _::p=>qN p
theorem lY (nd:ss.Nodup)(h:ss[i]? =some z):∀j,j<i→ss[j]? ≠some z:=λj hj e=>by
 have hi:=(ai.mp h);have hj':=(ai.mp e);obtain⟨a,b⟩:=hi;obtain⟨c,d⟩:=hj';exact(gN.mp nd) j i c a hj (d.trans b.symm)
inductive spComL (C:aq)(vs:List V)(H:Hp)(Q:VK)(_:XK):Prop
 | mk (x D:aq)(n z:Str)(ss:List Str)(rs:List Int)(fi:Int)(_:vs=[.ref x,.str z])(_:LinD H C x n ss rs D fi)(_:ss.length≤1000)(_:2≤ss.length)(_:ss.Nodup)(_:∀H',cb H H'→(∀i:Nat,ss[i]? =some z→1≤i→Q (.int (fi+2 * i - 1)) H')∧((∀i:Nat,ss[i]? =some z→i=0)→Q .non H'))
theorem scInitL:cI pzq pzq (defScope sInitL):=by trivial
theorem ok_initL (F:Fun K "__init__" "Line.__init__" sInitL f fd)(CC:LinC K C):‹0› 1 f fd pzq (spInitL C):=by
 specialize F.ok scInitL;obtain⟨x,dx,a,b,n,fi,rfl,hx,k⟩:=h;apply⟨_,dw (pP (pv 0) (pv 1) rfl) (dw (pP (pv 0) (pv 2) rfl) (dw (pP (pv 0) (pv 3) rfl) (dw (pP (pv 0) pe_dnewK rfl) (bE (pP (pv 0) (pv 4) rfl))))),?_⟩
 try dsimp only [cxK]
 apply⟨ρ,ρ,x,C,dx,ρ,hx,CC.cl,CC.n1,↥0,?_⟩;apply⟨ρ,ρ,x,C,dx,ρ,aQ,CC.cl,CC.n2,(by show 1<1000;decide),?_⟩;apply⟨ρ,ρ,x,C,dx,ρ,aQ,CC.cl,CC.n3,(by show 2<1000;decide),?_⟩;apply λD hD=>⟨ρ,x,C,dx,ρ,(by rw[aX (aR aQ hD)];exact aQ),CC.cl,CC.n4,(by show 3<1000;decide),?_⟩
 have xD:x≠D:=aR aQ hD;apply⟨ρ,ρ,x,C,dx,ρ,aQ,CC.cl,CC.n5,(by show 4<1000;decide),?_⟩;rw[aX (cQ xD),aX (cQ xD),aX (cQ xD)] at hD;apply k D _ (λc o hc e=>?_) hD ?_ aQ
 ·rw[aX hc,aX hc,aX (aR e hD),aX hc,aX hc,aX hc];exact e
 ·rw[aX (cQ xD),aX (cQ xD),aQ]
theorem scGoL:cI pzi pzi (defScope sGoL):=by trivial
theorem ok_goL (F:Fun K "going" "Line.going" sGoL f fd)(CC:LinC K C):‹0› 1 f fd pzi (spGoL C):=by
 specialize F.ok scGoL;obtain⟨x,D,n,z,ss,rs,fi,rfl,⟨dx,a,b,hx,ha,hb⟩,few,two,nd,k⟩:=h;apply⟨_,bE (bR (pe_ifExp (bQ (r:=rIn K false) oO (pv 1) (fe mF (eW (pv 0) rfl) gW (fV (pe_un rg aO))) rfl) (cH fz (eW (pv 0) rfl) (cH kG aO (pe_bmT (r:=rIndexS K) PySem.F.slot_tuple_index PySem.F.type_tuple_index mt_indexS (eW (pv 0) rfl) (ah (pv 1) aA)))) iJ)),?_⟩
 try dsimp only [cxK]
 have hls:(ss.map V.str).length=ss.length:=ae _;have e1:HT.sIx (ss.map V.str).length (ss.map V.str).length (some (-1))=ss.length - 1:=by
  rw[hls];show(if (-1:Int)<0 then ((-1:Int)+(ss.length:Int)).toNat else min (-1:Int).toNat ss.length)=_;rw[rP ↥0];lia
 apply⟨ρ,ρ,x,C,dx,_,ρ,hx,CC.cl,CC.n2,rfl,ρ,ρ,a,ρ,SqT.of ha,?_,λp H1 S1 e=>?_⟩
 ·rw[e1,hls]
  intro q;lia
 have ec:cutV (ss.map V.str) none (some (-1))=(ss.take (ss.length - 1)).map V.str:=by
  unfold cutV;rw[e1];show((ss.map V.str).drop 0).take (ss.length - 1 - 0)=_;rw[List.drop_zero,Nat.sub_zero,lG]
 rw[ec] at e;apply⟨p,ρ,.inr (SqT.of e),rfl,qN _,ρ,?_⟩;show if inV (.str z) ((ss.take (ss.length - 1)).map V.str)=true then _ else _;rw[inV_strs];apply kJ (λhc=>?_) (λhc=>?_)
 ·obtain⟨i,hi⟩:=cE (rT hc)
  have hi2:i<ss.length - 1:=by
   have:=(ai.mp hi).1;rw[aL] at this;lia
  rw[cY hi2] at hi;apply⟨ρ,x,C,dx,_,ρ,S1 _ _ hx,CC.cl,CC.n5,rfl,ρ,x,C,dx,_,ρ,S1 _ _ hx,CC.cl,CC.n2,rfl,⟨a,ρ,S1 _ _ ha⟩,ρ,a,ss,z,i,rfl,rfl,SqT.of (S1 _ _ ha),hi,lY nd hi,?_⟩;exact⟨ς,.inl ⟨↥0,↥0⟩,ς,(k H1 S1).1 i hi ⋯⟩
 ·apply(k H1 S1).2 λi hi=>?_
  have hn:z ∉ ss.take (ss.length - 1):=λq=>hc (rR q)
  by_cases q:i<ss.length - 1
  ·exact rQ (aD (by rw[cY q];exact hi)) hn
  ·lia
theorem scComL:cI pzi pzi (defScope sComL):=by trivial
theorem ok_comL (F:Fun K "coming" "Line.coming" sComL f fd)(CC:LinC K C):‹0› 1 f fd pzi (spComL C):=by
 specialize F.ok scComL;obtain⟨x,D,n,z,ss,rs,fi,rfl,⟨dx,a,b,hx,ha,hb⟩,few,two,nd,k⟩:=h;apply⟨_,bE (bR (pe_ifExp (bQ (r:=rIn K false) oO (pv 1) (fe mF (eW (pv 0) rfl) (fV aO) gW) rfl) (cH iq (cH fz (eW (pv 0) rfl) (cH kG aO (pe_bmT (r:=rIndexS K) PySem.F.slot_tuple_index PySem.F.type_tuple_index mt_indexS (eW (pv 0) rfl) (ah (pv 1) aA)))) aO) iJ)),?_⟩
 try dsimp only [cxK]
 have hls:(ss.map V.str).length=ss.length:=ae _;have e1:HT.sIx (ss.map V.str).length 0 (some 1)=1:=by
  rw[hls];have:=HT.sIx_nat ss.length 0 1;rw[eh ⋯] at this;exact this
 apply⟨ρ,ρ,x,C,dx,_,ρ,hx,CC.cl,CC.n2,rfl,ρ,a,ρ,SqT.of ha,?_,λp H1 S1 e=>?_⟩
 ·rw[e1]
  intro q;exact rQ q.1 ↥0
 rw[cutF (i:=1) (n:=1) rfl,←gx] at e;apply⟨p,ρ,.inr (SqT.of e),rfl,qN _,ρ,?_⟩;show if inV (.str z) ((ss.drop 1).map V.str)=true then _ else _;rw[inV_strs];apply kJ (λhc=>?_) (λhc=>?_)
 ·obtain⟨i,hi⟩:=cE (rT hc)
  rw[dv] at hi;apply⟨ρ,x,C,dx,_,ρ,S1 _ _ hx,CC.cl,CC.n5,rfl,ρ,x,C,dx,_,ρ,S1 _ _ hx,CC.cl,CC.n2,rfl,⟨a,ρ,S1 _ _ ha⟩,ρ,a,ss,z,1+i,rfl,rfl,SqT.of (S1 _ _ ha),hi,lY nd hi,?_⟩;exact⟨ς,.inl ⟨↥0,↥0⟩,ς,ς,(k H1 S1).1 (1+i) hi ⋯⟩
 ·apply(k H1 S1).2 λi hi=>?_
  have hn:z ∉ ss.drop 1:=λq=>hc (rR q)
  by_cases q:i=0
  ·exact q
  ·exact rQ (aD (i:=i - 1) (by rw[dv,show 1+(i - 1)=i by lia];exact hi)) hn
end HN
namespace L2
open PySem PySem.Spec PyProof.Rows
theorem p8 {α β:Type}{f:α→β→Sem (ForInStep β)}{Q:β→ar→Prop}:∀(l:List α) (I:Nat→β→ar→Prop) (b:β) (s:ar),I 0 b s →
  (∀i a b s,l[i]? =some a→I i b s→aY M A (f a b) (λr s'=>∃b',r= .yield b'∧I (i+1) b' s') E s)→(∀b s,I l.length b s→Q b s)→aY M A (forIn l b f) Q E s
 | [],_,b,s,h0,_,hd=>by
  rw[List.forIn_nil];exact aJ (hd b s h0)
 | a::l,I,b,s,h0,hs,hd=>by
  rw[List.forIn_cons];apply aj (dG (hs 0 a b s rfl h0) (λr s' hz0=>?_) λ_ _ f=>f);obtain⟨b',e,h'⟩:=hz0;subst e;exact p8 l (λi=>I (i+1)) b' s' h' (λi a b s ha hi=>hs (i+1) a b s ha hi) λb s h=>hd b s h
structure Sq where
 l:Bool
 a:aq
def SqAt (h:bM)(c:Sq)(xs:Array af):Prop:=match c.l with | true=>h.IsList c.a xs | false=>h.IsTuple c.a xs
def ItAt (h:bM)(c:Sq)(i:aq)(k:Nat):Prop:=match c.l with | true=>h.IsListIter i c.a k | false=>h.IsTupleIter i c.a k
abbrev oB (h:bM)(T:aq)(vs:List af):Prop:=h.get? T=some { cls:= .type "tuple",data:= .seq vs.toArray }
theorem SqAt.ext {g:bM}{c:Sq}{xs:Array af}(x:SqAt h c xs)(e:∀o,h.get? c.a=some o→g.get? c.a=some o):SqAt g c xs:=by
 obtain⟨l,a⟩:=c;cases l with
 | true=>obtain⟨o,ho,r⟩:=(show h.IsList a xs from x);exact⟨o,e o ho,r⟩
 | false=>obtain⟨o,ho,r⟩:=(show h.IsTuple a xs from x);exact⟨o,e o ho,r⟩
theorem ItAt.ext {g:bM}{c:Sq}{i:aq}(x:ItAt h c i k)(e:∀o,h.get? i=some o→g.get? i=some o):ItAt g c i k:=by
 obtain⟨l,a⟩:=c;cases l with
 | true=>obtain⟨o,ho,r⟩:=(show h.IsListIter i a k from x);exact⟨o,e o ho,r⟩
 | false=>obtain⟨o,ho,r⟩:=(show h.IsTupleIter i a k from x);exact⟨o,e o ho,r⟩
theorem ItAt.obj {c:Sq}{i:aq}(x:ItAt h c i k):∃o,h.get? i=some o∧∀v,o.data≠ .cell v:=by
 obtain⟨l,a⟩:=c;cases l with
 | true=>obtain⟨o,ho,_,d⟩:=(show h.IsListIter i a k from x);exact⟨o,ho,λv z=>by rw[d] at z;cases z⟩
 | false=>obtain⟨o,ho,_,d⟩:=(show h.IsTupleIter i a k from x);exact⟨o,ho,λv z=>by rw[d] at z;cases z⟩
theorem rG {c:Sq}{i:aq}{xs:Array af}{v:af}(jt:ItAt s.heap c i k)(tt:SqAt s.heap c xs)(hv:xs[k]? =some v)
  (q:∀g,ItAt g c i (k+1)→de i s.heap g→Q v { s with heap:=g }):aY (bF prog w) A (dJ (.ref i)) Q E s:=by
 obtain⟨l,a⟩:=c;cases l with
 | true=>exact wpAny_nextOf_list_item (show s.heap.IsListIter i a k from jt) (show s.heap.IsList a xs from tt) hv λg h1 h2=>q g h1 h2
 | false=>exact nextT_item (show s.heap.IsTupleIter i a k from jt) (show s.heap.IsTuple a xs from tt) hv λg h1 h2=>q g h1 h2
theorem nextS_end {c:Sq}{i:aq}{xs:Array af}(hh:A.handled=none)(jt:ItAt s.heap c i k)(tt:SqAt s.heap c xs)(hv:xs[k]? =none)
  (q:∀g x,bM.ExtBut i s.heap g→(∃o,g.get? x=some o∧o.cls= .type "StopIteration")→E (.ref x) { s with heap:=g }):aY (bF prog w) A (dJ (.ref i)) Q E s:=by
 obtain⟨l,a⟩:=c;cases l with
 | true=>exact wpAny_nextOf_list_end hh (show s.heap.IsListIter i a k from jt) (show s.heap.IsList a xs from tt) hv λg x h1 h2=>q g x h1 h2
 | false=>exact nextT_end hh (show s.heap.IsTupleIter i a k from jt) (show s.heap.IsTuple a xs from tt) hv λg x h1 h2=>q g x h1 h2
theorem iterS {c:Sq}{xs:Array af}(tt:SqAt s.heap c xs)
  (q:∀g,ItAt g c s.heap.objs.size 0→g.objs.size=s.heap.objs.size+1→(∀b o,s.heap.get? b=some o→g.get? b=some o)→Q (.ref s.heap.objs.size) { s with heap:=g }):aY (bF prog w) A (pyIter (.ref c.a)) Q E s:=by
 obtain⟨l,a⟩:=c;cases l with
 | true=>exact iw (show s.heap.IsList a xs from tt) (q _ ⟨_,aU _ rfl,rfl,rfl⟩ (eF ..) λb o e=>au _ e)
 | false=>exact wpAny_pyIter_tuple (show s.heap.IsTuple a xs from tt) (q _ ⟨_,aU _ rfl,rfl,rfl⟩ (eF ..) λb o e=>au _ e)
theorem updRow {T:aq}{x:af}{Q:Unit→ar→Prop}(hT:oB s.heap T vs)(hz:vs.length≤100)
  (h:∀g,oB g T (vs.set k x)→de T s.heap g→Q () { s with heap:=g }):aY (bF prog w) A (updateSeq T (·.setIfInBounds k x)) Q E s:=by
 apply wpAny_updateSeq hT rfl (h _ ?_ (de.update ..)) (by rw[aH];exact cO hz ↥0) (by rw[Array.size_setIfInBounds,aH];exact cO hz ↥0);show bM.get? _ T=_;rw[gP _ hT rfl];simp[Obj.mapSeq]
structure ZIn (h g:bM)(z TI TO:aq)(cs:List Sq)(is:List aq)(k j:Nat)(vs old:List af):Prop where
 sz:g.objs.size=h.objs.size
 zip:IsZip g z TI TO .ellipsis
 row:oB g TO (vs.take j++old.drop j)
 its:∀(n:Nat) c i,cs[n]? =some c→is[n]? =some i→ItAt g c i (if n<j then k+1 else k)
 ext:∀e o,e≠z→e≠TO→e ∉ is→h.get? e=some o→g.get? e=some o
structure ZOk (h:bM)(z TI TO:aq)(cs:List Sq)(is:List aq)(k:Nat)(old:List af):Prop where
 len:is.length=cs.length
 few:cs.length≤8
 pos:0<cs.length
 nod:(z::TI::TO::is).Nodup
 zip:IsZip h z TI TO .none
 ti:oB h TI (is.map af.ref)
 to:oB h TO old
 lo:old.length=cs.length
 its:∀(n:Nat) c i,cs[n]? =some c→is[n]? =some i→ItAt h c i k
 off:∀c∈cs,c.a≠z∧c.a≠TO∧c.a ∉ is
theorem nod_ne {is:List aq}{i:aq}{e:aq}(hn:is.Nodup)(h1:is[j]? =some i)(h2:is[n]? =some e)(h:n≠j):e≠i:=λz=>by
 subst z;have a:=(ai.mp h1);have b:=(ai.mp h2);obtain⟨ha,ea⟩:=a;obtain⟨hb,eb⟩:=b;exact h ((List.getElem_inj hn).mp (eb.trans ea.symm))
theorem ZIn.step {g:bM}{z TI TO:aq}{cs:List Sq}{is:List aq}{i:aq}{c:Sq}(D:ZOk h z TI TO cs is k old)(Z:ZIn h g z TI TO cs is k j vs old)(hi:is[j]? =some i)(hc:cs[j]? =some c){g2 g3:bM}{v:af}(hv:vs[j]? =some v)(lv:vs.length=cs.length)
  (n2:ItAt g2 c i (k+1)) (s2:de i g g2) (r3:oB g3 TO ((vs.take j++old.drop j).set j v)) (s3:de TO g2 g3):ZIn h g3 z TI TO cs is k (j+1) vs old:=by
 have nod:=D.nod;rw[bP,bP,bP] at nod;obtain⟨nz,nT,nO,ni⟩:=nod;have mi:i∈is:=aD hi;have iz:z≠i:=λq=>nz (by rw[q];simp[mi])
 have iO:TO≠i:=λq=>nO (by rw[q];exact mi)
 have zO:z≠TO:=λq=>nz (by rw[q];simp)
 have jl:j<cs.length:=(ai.mp hc).1;apply⟨by rw[s3.1,s2.1,Z.sz],s3.extBut _ _ zO (s2.extBut _ _ iz Z.zip),?_,λn c' i' hc' hi'=>?_,λe o e1 e2 e3 q=>s3.extBut _ _ e2 (s2.extBut _ _ (λy=>e3 (by rw[y];exact mi)) (Z.ext e o e1 e2 e3 q))⟩
 ·have lo:=D.lo
  have e:(vs.take j++old.drop j).set j v=vs.take (j+1)++old.drop (j+1):=by
   have l1:(vs.take j).length=j:=by rw[aL];lia
   rw[List.set_append,rO ⋯,l1,gY,gO (by lia:j<old.length),List.set_cons_zero,bG,hv];simp
  rw[←e];exact r3
 ·have mi':i'∈is:=aD hi'
  have iO':i'≠TO:=λq=>nO (by rw[←q];exact mi')
  by_cases e:n=j
  ·subst e
   rw[hi] at hi';rw[hc] at hc';cases hi';cases hc';rw[rP ⋯];exact n2.ext λo q=>s3.extBut _ _ iO' q
  ·have q:=Z.its n c' i' hc' hi'
   have e2:(if n<j+1 then k+1 else k)=(if n<j then k+1 else k):=by
    by_cases y:n<j
    ·rw[rP y,rP ⋯]
    ·rw[rO y,rO ⋯]
   rw[e2];exact q.ext λo r=>s3.extBut _ _ iO' (s2.extBut _ _ (nod_ne ni hi hi' e) r)
theorem zipS_go {z TI TO:aq}{cs:List Sq}{is:List aq}{Q:Option af→ar→Prop}(D:ZOk s.heap z TI TO cs is k old)
  (hv:∀(n:Nat) c,cs[n]? =some c→∃xs v,SqAt s.heap c xs∧xs[k]? =some v∧vs[n]? =some v) (lv:vs.length=cs.length)
  (q:∀ g,IsZip g z TI TO (lB s.heap.objs.size)→oB g TO vs→(∀ (n:Nat) c i,cs[n]? =some c→is[n]? =some i→ItAt g c i (k+1))→oB g s.heap.objs.size vs→g.objs.size=s.heap.objs.size+1 →
   (∀ e o,e≠z→e≠TO→e ∉ is→s.heap.get? e=some o→g.get? e=some o)→Q (some (.ref s.heap.objs.size)) { s with heap:=g }):aY (bF prog w) A (pyNext (.ref z)) Q E s:=by
 have hT:s.TypeIs (.ref z) "zip" := ⟨_,D.zip,rfl⟩;have nod:=D.nod;rw[bP,bP,bP] at nod;obtain⟨nz,nT,nO,ni⟩:=nod;have zO:z≠TO:=λq=>nz (by rw[q];simp)
 have few:=D.few;have len:=D.len;unfold pyNext;apply aj (lV (gr (name:=ax "__next__") hT F.slot_zip_next (jw F.slot_zip_next hT F.entry_zip_next ?_ (F.args_zip_next_1 _))));show aY _ _ (field (.ref z) 2 >>= _) _ _ s;apply aj (cT D.zip rfl (x:= .bool false) (by rfl) ?_);show aY _ _ (field (.ref z) 3 >>= _) _ _ s;apply aj (cT D.zip rfl (x:= .ref TI) (by rfl) ?_);apply aj (j7 D.ti rfl ?_)
 dsimp only
 rw[rO (by intro y;rw[Array.isEmpty_iff_size_eq_zero,aH,ae,len] at y;have:=D.pos;lia)];apply aj ?_;unfold gS;apply aj (cT D.zip rfl (x:= .none) (by rfl) (aJ ?_));simp only[if_true];apply aj (wpAny_rule ?_);apply aj (cT D.zip rfl (x:= .ref TO) (by rfl) ?_);apply aj (fF D.zip ∅ λg1 z1 s1=>?_);have z1:IsZip g1 z TI TO .ellipsis:=z1;apply aj ?_;apply p8 _ (λj b s'=>b=_∧∃g,s'={ s with heap:=g }∧ZIn s.heap g z TI TO cs is k j vs old) _ _ ⟨rfl,g1,rfl,?_⟩ ?_ ?_
 ·apply⟨s1.1,z1,s1.extBut _ _ zO.symm D.to,λn c i hc hi=>?_,λe o e1 _ _ h=>s1.extBut _ _ e1 h⟩
  rw[rO ⋯];exact(D.its n c i hc hi).ext λo h=>s1.extBut _ _ (λy=>nz (by rw[←y];simp[aD hi])) h
 ·rintro j a b s' ha ⟨rfl,g,rfl,Z⟩
  rw[List.getElem?_zipIdx] at ha;obtain⟨x,hx,rfl⟩:=aV.mp ha;have hx:(is.map af.ref)[j]? =some x:=by simpa using hx
  rw[aC] at hx;obtain⟨i,hi,rfl⟩:=aV.mp hx;have jl:j<cs.length:=by rw[←len];exact(ai.mp hi).1
  have hc:cs[j]? =some cs[j]:=gE jl;obtain⟨xs,v,hq,hxv,hvv⟩:=hv j _ hc;obtain⟨o1,o2,o3⟩:=D.off _ (cW jl);have it:=Z.its j _ i hc hi;rw[rO ⋯] at it
  dsimp only
  apply aj (wpAny_onRaise ?_);show aY _ _ (dJ (.ref i) >>= _) _ _ _;apply aj (rG it (hq.ext λo h=>Z.ext _ o o1 o2 o3 h) hxv λg2 n2 s2=>aJ ?_);have iO:TO≠i:=λq=>nO (by rw[q];exact aD hi)
  have r2:oB g2 TO (vs.take j++old.drop j):=s2.extBut _ _ iO Z.row;apply aj (j7 r2 rfl ?_);apply aj (updRow (x:=v) (k:=0+j) r2 (by rw[ao,aL,bD];have:=D.lo;lia) λg3 r3 s3=>?_);rw[Nat.zero_add] at r3;apply aj (wpAny_letGo (aJ ⟨_,rfl,rfl,g3,rfl,Z.step D hi hc hvv lv n2 s2 r3 s3⟩))
 ·rintro b s' ⟨rfl,g5,rfl,Z⟩
  have ll:((is.map af.ref).toArray.toList.zipIdx).length=cs.length:=by simp[len]
  rw[ll] at Z;have z5:=Z.zip;have o5:oB g5 TO vs:=by
   have:=Z.row;rw[←lv,bO,lv,←D.lo,List.drop_length,cz] at this;exact this
  have m5:∀(n:Nat) c i,cs[n]? =some c→is[n]? =some i→ItAt g5 c i (k+1):=λn c i hc hi=>by
   have:=Z.its n c i hc hi;rw[rP (ai.mp hc).1] at this;exact this
  dsimp only
  apply aj (j7 o5 rfl ?_);apply aj (wpAny_newTuple ?_);have zlt:z<g5.objs.size:=aW z5;have sz:=Z.sz;apply aj ?_;unfold jj;have z6:IsZip (g5.push { cls:= .type "tuple",data:= .seq vs.toArray }) z TI TO .ellipsis:=au _ z5;apply aj (fF z6 ∅ λg7 z7 s7=>?_);have z7:IsZip g7 z TI TO (lB g5.objs.size):=z7;apply fF z7 ∅ λg8 z8 s8=>?_
  have z8:IsZip g8 z TI TO (lB g5.objs.size):=z8;have up:∀e o,e≠z→g5.get? e=some o→g8.get? e=some o:=λe o c1 h=>s8.extBut _ _ c1 (s7.extBut _ _ c1 (au _ h))
  have t8:oB g8 g5.objs.size vs:=s8.extBut _ _ (jz zlt) (s7.extBut _ _ (jz zlt) (aU _ rfl));have sz8:g8.objs.size=g5.objs.size+1:=by rw[s8.1,s7.1,eF]
  rw[sz] at z8 t8 sz8;apply aJ ⟨_,rfl,?_⟩;apply aJ ?_;show Q (some (.ref g5.objs.size)) _;rw[sz];apply q g8 z8 (up _ _ zO.symm o5) (λn c i hc hi=>(m5 n c i hc hi).ext λo h=>up _ o (λy=>nz (by rw[←y];simp[aD hi])) h) t8 sz8 λe o c1 c2 c3 h=>up e o c1 (Z.ext e o c1 c2 c3 h)
theorem zipS_stop {z TI TO:aq}{cs:List Sq}{is:List aq}{cm:Sq}{Q:Option af→ar→Prop}(hh:A.handled=none)(D:ZOk s.heap z TI TO cs is k old)
  (hv:∀(n:Nat) c,cs[n]? =some c→n<m→∃xs v,SqAt s.heap c xs∧xs[k]? =some v∧vs[n]? =some v) (lv:vs.length=cs.length) (hm:cs[m]? =some cm) {xm:Array af} (hxm:SqAt s.heap cm xm) (hem:xm[k]? =none)
  (q:∀g,(∀e o,e≠z→e≠TO→e ∉ is→s.heap.get? e=some o→g.get? e=some o)→Q none { s with heap:=g }):aY (bF prog w) A (pyNext (.ref z)) Q E s:=by
 have hT:s.TypeIs (.ref z) "zip" := ⟨_,D.zip,rfl⟩;have nod:=D.nod;rw[bP,bP,bP] at nod;obtain⟨nz,nT,nO,ni⟩:=nod;have zO:z≠TO:=λq=>nz (by rw[q];simp)
 have few:=D.few;have len:=D.len;have fin:∀g x,(∀e o,e≠z→e≠TO→e ∉ is→s.heap.get? e=some o→g.get? e=some o)→(∃o,g.get? x=some o∧o.cls= .type "StopIteration") →
   aY (bF prog w) A (do if ← isInstance (.ref x) (.type "StopIteration") then iS none else throw (.ref x)) Q E { s with heap:=g }:=λg x k ⟨o,ho,hc⟩=>by
  apply aj (wpAny_isInstance (T := "StopIteration") (b:=true) ⟨o,ho,hc⟩ isSubtype_stop ?_);exact aJ (q g k)
 have ml:m<cs.length:=(ai.mp hm).1;unfold pyNext;apply aj (lV (gr (name:=ax "__next__") hT F.slot_zip_next (jw F.slot_zip_next hT F.entry_zip_next ?_ (F.args_zip_next_1 _))));show aY _ _ (field (.ref z) 2 >>= _) _ _ s;apply aj (cT D.zip rfl (x:= .bool false) (by rfl) ?_);show aY _ _ (field (.ref z) 3 >>= _) _ _ s;apply aj (cT D.zip rfl (x:= .ref TI) (by rfl) ?_);apply aj (j7 D.ti rfl ?_)
 dsimp only
 rw[rO (by intro y;rw[Array.isEmpty_iff_size_eq_zero,aH,ae,len] at y;have:=D.pos;lia)];apply aj ?_;unfold gS;apply aj (cT D.zip rfl (x:= .none) (by rfl) (aJ ?_));simp only[if_true];apply aj (wpAny_rule ?_);apply aj (cT D.zip rfl (x:= .ref TO) (by rfl) ?_);apply aj (fF D.zip ∅ λg1 z1 s1=>?_);have z1:IsZip g1 z TI TO .ellipsis:=z1;apply aj ?_;apply p8 _ (λj b s'=>b=_∧j≤m∧∃g,s'={ s with heap:=g }∧ZIn s.heap g z TI TO cs is k j vs old) _ _ ⟨rfl,cV _,g1,rfl,?_⟩ ?_ ?_
 ·apply⟨s1.1,z1,s1.extBut _ _ zO.symm D.to,λn c i hc hi=>?_,λe o e1 _ _ h=>s1.extBut _ _ e1 h⟩
  rw[rO ⋯];exact(D.its n c i hc hi).ext λo h=>s1.extBut _ _ (λy=>nz (by rw[←y];simp[aD hi])) h
 ·rintro j a b s' ha ⟨rfl,jm,g,rfl,Z⟩
  rw[List.getElem?_zipIdx] at ha;obtain⟨x,hx,rfl⟩:=aV.mp ha;have hx:(is.map af.ref)[j]? =some x:=by simpa using hx
  rw[aC] at hx;obtain⟨i,hi,rfl⟩:=aV.mp hx;have jl:j<cs.length:=by rw[←len];exact(ai.mp hi).1
  have hc:cs[j]? =some cs[j]:=gE jl;obtain⟨o1,o2,o3⟩:=D.off _ (cW jl);have it:=Z.its j _ i hc hi;rw[rO ⋯] at it;have iO:TO≠i:=λq=>nO (by rw[q];exact aD hi)
  have iz:z≠i:=λq=>nz (by rw[q];simp[aD hi])
  dsimp only
  apply aj (wpAny_onRaise ?_);show aY _ _ (dJ (.ref i) >>= _) _ _ _
  by_cases e:j=m
  ·subst e
   rw[hc] at hm;cases hm;apply aj (nextS_end hh it (hxm.ext λo h=>Z.ext _ o o1 o2 o3 h) hem λg2 x s2 hx2=>?_);obtain⟨oe,e1,e2⟩:=hx2;have z2:IsZip g2 z TI TO .ellipsis:=s2 _ _ iz Z.zip;have xz:x≠z:=λr=>by subst r;rw[z2] at e1;cases e1;simp at e2
   exact fF z2 ∅ λg3 _ s3=>fin g3 x (λe o c1 c2 c3 h=>s3.extBut _ _ c1 (s2 _ _ (λy=>c3 (by rw[y];exact aD hi)) (Z.ext e o c1 c2 c3 h))) ⟨oe,s3.extBut _ _ xz e1,e2⟩
  ·obtain⟨xs,v,hq,hxv,hvv⟩:=hv j _ hc ⋯
   apply aj (rG it (hq.ext λo h=>Z.ext _ o o1 o2 o3 h) hxv λg2 n2 s2=>aJ ?_);have r2:oB g2 TO (vs.take j++old.drop j):=s2.extBut _ _ iO Z.row;apply aj (j7 r2 rfl ?_);apply aj (updRow (x:=v) (k:=0+j) r2 (by rw[ao,aL,bD];have:=D.lo;lia) λg3 r3 s3=>?_);rw[Nat.zero_add] at r3;apply aj (wpAny_letGo (aJ ⟨_,rfl,rfl,⋯,g3,rfl,Z.step D hi hc hvv lv n2 s2 r3 s3⟩))
 ·rintro b s' ⟨rfl,jm,g5,rfl,Z⟩
  have ll:((is.map af.ref).toArray.toList.zipIdx).length=cs.length:=by simp[len]
  rw[ll] at jm;lia
theorem oz {α:Type}{P:Nat→α→Prop}:∀(k:Nat),(∀n,n<k→∃u,P n u)→∃us:List α,us.length=k∧∀(n:Nat) u,us[n]? =some u→P n u
 | 0,_=>⟨[],rfl,λn u h=>by simp at h⟩
 | k+1,h=>by
  obtain⟨us,hl,hu⟩:=oz k λn hn=>h n ⋯
  obtain⟨u,pu⟩:=h k ⋯;apply⟨us++[u],by rw[ao,hl];rfl,λn v hv=>?_⟩
  by_cases e:n<us.length
  ·rw[bI e] at hv
   exact hu n v hv
  ·rw[bc ⋯] at hv
   have hn:n=us.length:=by
    have:=(ai.mp hv).1;simp at this;lia
   subst hn;rw[gY] at hv;cases hv;rw[hl];exact pu
theorem vals_of:∀{vs:List V} {us:List af},vs.length=us.length→(∀(n:Nat) v u,vs[n]? =some v→us[n]? =some u→jr v u)→ie vs us
 | [],[],_,_=> .nil
 | v::vs,u::us,hl,h=> .cons (h 0 v u rfl rfl) (vals_of (by simpa using hl) λn v' u' a b=>h (n+1) v' u' a b)
 | [],_::_,hl,_=>by simp at hl
 | _::_,[],hl,_=>by simp at hl
def HSq (H:Hp)(c:Sq)(xs:List V):Prop:=match c.l with | true=>H c.a=some (.lst xs) | false=>H c.a=some (.tup xs)
theorem HSq.inj {c:Sq}(a:HSq H c xs)(b:HSq H c ys):xs=ys:=by
 obtain⟨l,q⟩:=c;cases l with
 | true=>have a:H q=some (.lst xs):=a;have b:H q=some (.lst ys):=b;rw[a] at b;cases b;rfl
 | false=>have a:H q=some (.tup xs):=a;have b:H q=some (.tup ys):=b;rw[a] at b;cases b;rfl
theorem HSq.has {c:Sq}(a:HSq H c xs):∃o,H c.a=some o:=by
 obtain⟨l,q⟩:=c;cases l with
 | true=>exact⟨_,a⟩
 | false=>exact⟨_,a⟩
theorem HSq.at {c:Sq}(I:Inv X aN σ H s)(h:HSq H c xs):∃its,ie xs its∧SqAt s.heap c its.toArray:=by
 obtain⟨l,q⟩:=c;cases l with
 | true =>
  obtain⟨its,r,p,_⟩:=I.list (SqL.of (K:=X.K) (show H q=some (.lst xs) from h));exact⟨its,r,p.isList⟩
 | false =>
  obtain⟨its,r,p,_⟩:=I.tuple (SqT.of (K:=X.K) (show H q=some (.tup xs) from h));exact⟨its,r,p⟩
def Itq (cs:List Sq):It :=
 ⟨fun i H=>∃ vs:List V,vs.length=cs.length∧∀ (n:Nat) c,cs[n]? =some c→∃ xs x,HSq H c xs∧xs[i]? =some x∧vs[n]? =some x,
  λi H v H'=>∃p vs,H p=none∧v= .ref p∧H'=upd H p (.tup vs)∧vs.length=cs.length∧∀(n:Nat) c x xs,cs[n]? =some c→HSq H c xs→vs[n]? =some x→xs[i]? =some x,
  fun i H=>∃ m cm xm,cs[m]? =some cm∧HSq H cm xm∧xm.length≤i∧∀ (n:Nat) c,cs[n]? =some c→n<m→∃ xs x,HSq H c xs∧xs[i]? =some x⟩
theorem turn_zipS {k0}{z TI TO:aq}{cs:List Sq}{is:List aq} :
  Turn P w K (.Tuple es k0 pos) (Itq cs) (z::TI::TO::is) z (λi h=>∃old,ZOk h z TI TO cs is i old) where
 mem:=by simp
 obj:=λi h st c hc=>by
  obtain⟨old,D⟩:=st;simp only[ay] at hc
  rcases hc with rfl | rfl | rfl | hc
  ·exact⟨_,D.zip,λv z=>by cases z⟩
  ·exact⟨_,D.ti,λv z=>by cases z⟩
  ·exact⟨_,D.to,λv z=>by cases z⟩
  ·obtain⟨n,hn⟩:=cE hc
   have hl:n<cs.length:=by rw[←D.len];exact(ai.mp hn).1
   exact(D.its n _ c (gE hl) hn).obj
 keep:=λi h h' st k=>by
  obtain⟨old,D⟩:=st;exact⟨old,D.len,D.few,D.pos,D.nod,k z ∅ _ D.zip,k TI ∅ _ D.ti,k TO ∅ _ D.to,D.lo,λn c i hc hi=>(D.its n c i hc hi).ext λo e=>k i (by simp[aD hi]) o e,D.off⟩
 item:=by
  intro X hP hw hK hc i aN s σ H E I hf st hg;subst hP hw hK;obtain⟨old,D⟩:=st;obtain⟨vs,lv,hv⟩:=hg;have nz:∀e∈z::TI::TO::is,H e=none:=λe he=>(hf e he).1
  have hT:H s.heap.objs.size=none:=I.fresh;have ex:∀n,n<cs.length→∃u:af,(∀c,cs[n]? =some c→∃xs,SqAt s.heap c xs∧xs[i]? =some u)∧∀v,vs[n]? =some v→jr v u:=λn hn=>by
   obtain⟨xs,x,h1,h2,h3⟩:=hv n _ (gE hn);obtain⟨its,r,p⟩:=h1.at I;obtain⟨u,hu,ru⟩:=r.get h2;apply⟨u,λc hc=>?_,λv hv'=>?_⟩
   ·rw[gE hn] at hc
    cases hc;exact⟨_,p,by simpa using hu⟩
   ·rw[h3] at hv'
    cases hv';exact ru
  obtain⟨us,lu,hu⟩:=oz cs.length ex;have hrel:ie vs us:=vals_of ⋯ λn v u a b=>(hu n u b).2 v a
  apply zipS_go D (vs:=us) (λn c hc=>?_) lu λg z1 to1 m1 tp sz kk=>⟨ρ,?_⟩
  ·have hn:n<us.length:=by rw[lu];exact(ai.mp hc).1
   obtain⟨xs,a,b⟩:=(hu n _ (gE hn)).1 c hc;exact⟨xs,us[n],a,b,gE hn⟩
  apply wpAny_letOwnedTupleGo_zip z1 λg2 z2 s2=>?_
  have s2:de z g g2:=s2;have k2:∀e o,e ∉ z::TO::is→s.heap.get? e=some o→g2.get? e=some o:=λe o hn h=>by
   simp only[ay,not_or] at hn;exact s2.extBut _ _ hn.1 (kk e o hn.1 hn.2.1 hn.2.2 h)
  have zlt:z<s.heap.objs.size:=aW D.zip;have tp2:oB g2 s.heap.objs.size us:=s2.extBut _ _ (jz zlt) tp;have sub:∀e∈z::TO::is,e∈z::TI::TO::is:=λe he=>by
   simp only[ay] at he ⊢
   rcases he with rfl | rfl | he <;> simp[*]
  have trk:∀e o,H e=some o→e ∉ z::TO::is:=λe o he hm=>by rw[nz e (sub e hm)] at he;cases he
  have J:Inv X aN σ (upd H s.heap.objs.size (.tup vs)) { s with heap:=g2 }:=by
   apply I.turnAll (ch:=z::TO::is) (λe he=>hf e (sub e he)) k2 (λe o h=>by rw[aX (aR h hT)];exact h) (λe o h n=>by rw[aX (cG (aW h))];exact n) λe o h=>?_
   by_cases q:e=s.heap.objs.size
   ·subst q
    rw[aQ] at h;cases h;exact⟨by rw[lv];exact cO D.few ↥0,us,hrel,_,tp2,rfl,rfl,ρ⟩
   ·rw[aX q] at h
    apply (I.hok e o h).stay (fun c v hc' q'=>k2 c v (by
     rcases hc' with z' | z'
     ·rw[z'];exact trk e o h
     ·exact trk c _ z') q') (fun c q'=>by rw [aX (aR q' hT)];exact q') fun c xs q'=>by rw [aX (aR q' hT)];exact q'
  have nod:=D.nod;rw[bP,bP,bP] at nod;obtain⟨nz',nT,nO,ni⟩:=nod;apply⟨.ref s.heap.objs.size,_,J,rfl,⟨_,vs,hT,rfl,rfl,lv,λn c x xs hc hq hx=>?_⟩,⟨us,D.len,D.few,D.pos,D.nod,z2,?_,s2.extBut _ _ (λy=>nz' (by rw[←y];simp)) to1,lu,λn c j hc hj=>?_,D.off⟩,λe he=>?_⟩
  ·obtain⟨ys,y,h1,h2,h3⟩:=hv n c hc
   rw[h1.inj hq] at h2;rw[h3] at hx;cases hx;exact h2
  ·apply k2 _ _ (λy=>?_) D.ti
   rcases ay.mp y with y | y
   ·exact nz' (by rw[←y];simp)
   ·exact nT y
  ·exact(m1 n c j hc hj).ext λo e=>s2.extBut _ _ (λy=>nz' (by rw[←y];simp[aD hj])) e
  ·have hlt:e<s.heap.objs.size:=by
    simp only[ay] at he
    rcases he with rfl | rfl | rfl | he
    ·exact aW D.zip
    ·exact aW D.ti
    ·exact aW D.to
    ·obtain⟨n,hn⟩:=cE he
     have hl:n<cs.length:=by rw[←D.len];exact(ai.mp hn).1
     obtain⟨o,ho,_⟩:=(D.its n _ e (gE hl) hn).obj;exact aW ho
   rw[aX (cG hlt)];exact nz e he
 done:=by
  intro X hP hw hK hc i aN s σ H E I hf st hg;subst hP hw hK;obtain⟨old,D⟩:=st;obtain⟨m,cm,xm,hm,hxm,hi,hv⟩:=hg;have nz:∀e∈z::TI::TO::is,H e=none:=λe he=>(hf e he).1
  have ex:∀n,n<cs.length→∃u:af,∀c,cs[n]? =some c→n<m→∃xs,SqAt s.heap c xs∧xs[i]? =some u:=λn hn=>by
   by_cases e:n<m
   ·obtain⟨xs,x,h1,h2⟩:=hv n _ (gE hn) e
    obtain⟨its,r,p⟩:=h1.at I;obtain⟨u,hu,ru⟩:=r.get h2;apply⟨u,λc hc _=>?_⟩;rw[gE hn] at hc;cases hc;exact⟨_,p,by simpa using hu⟩
   ·exact⟨.none,λc _ z=>rQ z e⟩
  obtain⟨us,lu,hu⟩:=oz cs.length ex;obtain⟨its,r,p⟩:=hxm.at I;have hl:=r.length;apply zipS_stop (I.ok.hd hc) D (vs:=us) (m:=m) (λn c hc hn=>?_) lu hm p (by simp;lia) λg kk=>⟨rfl,?_⟩
  ·have hn':n<us.length:=by rw[lu];exact(ai.mp hc).1
   obtain⟨xs,a,b⟩:=hu n _ (gE hn') c hc hn;exact⟨xs,us[n],a,b,gE hn'⟩
  have sub:∀e∈z::TO::is,e∈z::TI::TO::is:=λe he=>by
   simp only[ay] at he ⊢
   rcases he with rfl | rfl | he <;> simp[*]
  have k2:∀e o,e ∉ z::TO::is→s.heap.get? e=some o→g.get? e=some o:=λe o hn h=>by
   simp only[ay,not_or] at hn;exact kk e o hn.1 hn.2.1 hn.2.2 h
  have trk:∀e o,H e=some o→e ∉ z::TO::is:=λe o he hm=>by rw[nz e (sub e hm)] at he;cases he
  apply I.turnAll (ch:=z::TO::is) (λe he=>hf e (sub e he)) k2 (λ_ _ h=>h) (λ_ _ _ n=>n) λe o h=>?_
  exact (I.hok e o h).stay (fun c v hc' q'=>k2 c v (by
   rcases hc' with z' | z'
   ·rw[z'];exact trk e o h
   ·exact trk c _ z') q') (fun _ q'=>q') fun _ _ q'=>q'
 self:=λ_ _ _ _ _ st h=>let ⟨_,D⟩:=st;wpAny_pyIter_zip D.zip h
structure ZNew (h g:bM)(cs:List Sq):Prop where
 zip:IsZip g (h.objs.size+cs.length+2) (h.objs.size+cs.length) (h.objs.size+cs.length+1) .none
 ti:oB g (h.objs.size+cs.length) (((c7 cs.length).map λj=>h.objs.size+j).map af.ref)
 to:oB g (h.objs.size+cs.length+1) (bS cs.length .none)
 its:∀(n:Nat) c,cs[n]? =some c→ItAt g c (h.objs.size+n) 0
 ext:∀b o,h.get? b=some o→g.get? b=some o
theorem newClass_zip (vs:List af):dC.SmallTypes.newClass "zip" ⟨.type "zip" :: vs,[]⟩=iS (.type "zip",vs):=by
 unfold dC.SmallTypes.newClass;simp only[isType,sub_zip,pure_bind,Bool.not_true,Bool.false_eq_true,if_false]
theorem zipS_new (cs:List Sq)(few:cs.length≤8) :
  Meets (dC.«zip.__new__» ⟨.type "zip" :: cs.map λc=>af.ref c.a,[]⟩) (λ_ R s=>(∀c∈cs,∃xs,SqAt s.heap c xs)∧∀g,ZNew s.heap g cs→R (.ok (.ret (.ref (s.heap.objs.size+cs.length+2)))) { s with heap:=g }) :=
 .of_wp λprog w A R s h=>by
  obtain⟨h1,h⟩:=h;unfold dC.«zip.__new__»;apply aj (wpAny_of_eq (newClass_zip _) ?_);show aY _ _ (dC.SmallTypes.iterAll (cs.map λc=>af.ref c.a) >>= _) _ _ _;apply aj ?_;unfold dC.SmallTypes.iterAll;apply aj (p8 _ (λj its s'=>∃g,s'={ s with heap:=g }∧g.objs.size=s.heap.objs.size+j∧its=((c7 j).map λi=>af.ref (s.heap.objs.size+i)).toArray∧(∀(n:Nat) c,n<j→cs[n]? =some c→ItAt g c (s.heap.objs.size+n) 0)∧∀b o,s.heap.get? b=some o→g.get? b=some o) _ _ ⟨s.heap,rfl,rfl,rfl,λn c hn=>rQ hn ⋯,λ_ _ e=>e⟩ ?_ ?_)
  ·rintro j a its s' ha ⟨g,rfl,sz,rfl,hit,ext⟩
   rw[aC] at ha;obtain⟨c,hc,rfl⟩:=aV.mp ha;obtain⟨xs,hx⟩:=h1 c (aD hc);apply aj (hI (iterS (c:=c) (xs:=xs) (hx.ext λo e=>ext _ o e) λg2 i2 z2 e2=>?_));apply aJ ⟨_,rfl,g2,rfl,?_,?_,λn c' hn hc'=>?_,λb o e=>e2 b o (ext b o e)⟩
   ·show g2.objs.size=_
    rw[z2];show g.objs.size+1=_;rw[sz];lia
   ·show Array.push _ (af.ref g.objs.size)=_
    rw[sz,List.range_succ,aw];simp
   ·by_cases e:n=j
    ·subst e
     rw[hc] at hc';cases hc';have i2:ItAt g2 c g.objs.size 0:=i2;rw[sz] at i2;exact i2
    ·exact(hit n c' ⋯ hc').ext λo q=>e2 _ o q
  ·rintro its s' ⟨g,rfl,sz,rfl,hit,ext⟩
   have ll:(cs.map λc=>af.ref c.a).length=cs.length:=ae ..;rw[ll] at sz hit ⊢;apply aJ ?_
   dsimp only
   have n8:((c7 cs.length).map λi=>af.ref (s.heap.objs.size+i)).length≤az:=by
    rw[ae,kP];exact cO few ↥0
   apply aj (wpAny_newTuple ?_ (by simpa using n8));apply aj (wpAny_newTuple ?_ (by simpa using n8));apply aj ?_;unfold dC.SmallTypes.newRecord;apply gM (aJ ⟨_,rfl,?_⟩) (by show 5≤az+2;decide);have e1:(g.push { cls:= .type "tuple",data:= .seq ((c7 cs.length).map λi=>af.ref (s.heap.objs.size+i)).toArray }).objs.size=s.heap.objs.size+cs.length+1:=by rw[eF,sz]
   have e2:((g.push { cls:= .type "tuple",data:= .seq ((c7 cs.length).map λi=>af.ref (s.heap.objs.size+i)).toArray }).push { cls:= .type "tuple",data:= .seq ((((c7 cs.length).map λi=>af.ref (s.heap.objs.size+i)).toArray.toList.map λ_=>af.none)).toArray }).objs.size=s.heap.objs.size+cs.length+2:=by rw[eF,e1]
   have key:=h (((g.push { cls:= .type "tuple",data:= .seq ((c7 cs.length).map λi=>af.ref (s.heap.objs.size+i)).toArray }).push { cls:= .type "tuple",data:= .seq ((((c7 cs.length).map λi=>af.ref (s.heap.objs.size+i)).toArray.toList.map λ_=>af.none)).toArray }).push { cls:= .type "zip",data:= .fields #[.none,.bool false,.bool false,.ref (s.heap.objs.size+cs.length),.ref (s.heap.objs.size+cs.length+1)] })
    ⟨by rw[←e2];exact aU _ rfl,?_,?_,λn c hc=>(hit n c (ai.mp hc).1 hc).ext λo q=>au _ (au _ (au _ q)),λb o q=>au _ (au _ (au _ (ext b o q)))⟩
   ·rw[←e2] at key
    have e1':(s.heap.objs.size+cs.length:Nat)=g.objs.size:=sz.symm;rw[←e1,e1'] at key;exact key
   ·have em:(((c7 cs.length).map λj=>s.heap.objs.size+j).map af.ref)=((c7 cs.length).map λi=>af.ref (s.heap.objs.size+i)):=by rw[bf];rfl
    show bM.get? _ _=_;rw[em,←sz];exact au _ (au _ (aU _ rfl))
   ·rw[←e1]
    have er:(((c7 cs.length).map λi=>af.ref (s.heap.objs.size+i)).toArray.toList.map λ_=>af.none)=bS cs.length af.none:=by
     rw[List.eq_replicate_iff];exact⟨∅,λx hx=>by obtain⟨_,_,rfl⟩:=aI.mp hx;rfl⟩
    rw[er];exact au _ (aU _ rfl)
theorem zip_args3 (a b c d:af):argsOk "object.__init__" ⟨[a,b,c,d],[]⟩:=by
 unfold argsOk;rw[signature?_of (id := "object.__init__") (n:=['_','_','t','i','n','i','_','_']) (o:=['t','c','e','j','b','o']) (by kernel_rfl) F.owner_object]
 kernel_rfl
theorem zip_type3 (a b c:af):checkTypeCall "zip" ⟨[a,b,c],[]⟩=iS ():=by kernel_rfl
theorem zip_new3 (a b c:af):checkBuiltinCall "zip.__new__" ⟨[.type "zip",a,b,c],[]⟩=iS ():=by kernel_rfl
theorem zip_walk {s1:ar}{k0}{pt:Pos}{R:It→Hp→Prop}{cs:List Sq}(I1:Inv X aN σ H1 s1)(few:cs.length≤8)(pos:0<cs.length)(hq:∀c∈cs,∃xs,HSq H1 c xs)(q:R (Itq cs) H1){g:bM}(Z:ZNew s1.heap g cs) :
  aY (bF X.prog X.w) X.A (pyIter (.ref (s1.heap.objs.size+cs.length+2))) (PIE X aN σ (.Tuple es k0 pt) R) E { s1 with heap:=g }:=by
 have small:∀c∈cs,c.a<s1.heap.objs.size:=λc hc=>by
  obtain⟨xs,hx⟩:=hq c hc;obtain⟨o,ho⟩:=hx.has;exact Nat.lt_of_not_le λhge=>by rw[I1.hok.fresh hge] at ho;cases ho
 apply wpAny_pyIter_zip Z.zip ⟨_,(s1.heap.objs.size+cs.length+2)::(s1.heap.objs.size+cs.length)::(s1.heap.objs.size+cs.length+1)::((c7 cs.length).map λj=>s1.heap.objs.size+j),_,Itq cs,H1,rfl,I1.kept (t':=s1.toks) Z.ext,turn_zipS,⟨_,?_,few,pos,?_,Z.zip,Z.ti,Z.to,by rw[List.length_replicate],λn c i hc hi=>?_,λc hc=>?_⟩,λe he=>?_,q⟩
 ·rw[ae,kP]
 ·have nd:((c7 cs.length).map λj=>s1.heap.objs.size+j).Nodup:=by
   rw[List.nodup_iff_pairwise_ne,List.pairwise_map];exact(List.nodup_iff_pairwise_ne.mp List.nodup_range).imp λh e=>h ⋯
  have out:∀x,s1.heap.objs.size+cs.length≤x→x ∉ ((c7 cs.length).map λj=>s1.heap.objs.size+j):=λx hx hm=>by
   obtain⟨j,hj,rfl⟩:=aI.mp hm;have:=List.mem_range.mp hj;lia
  rw[bP,bP,bP];apply⟨λh=>?_,λh=>?_,λh=>out _ (by show @LE.le Nat _ _ _;lia) h,nd⟩
  ·rcases ay.mp h with h | h
   ·have h: @Eq Nat _ _:=h
    lia
   ·rcases ay.mp h with h | h
    ·have h: @Eq Nat _ _:=h
     lia
    ·exact out _ (by show @LE.le Nat _ _ _;lia) h
  ·rcases ay.mp h with h | h
   ·have h: @Eq Nat _ _:=h
    lia
   ·exact out _ (by show @LE.le Nat _ _ _;lia) h
 ·rw[aC,List.getElem?_range (ai.mp hc).1] at hi
  cases hi;exact Z.its n c hc
 ·have:=small c hc
  have this: @LT.lt Nat _ c.a s1.heap.objs.size:=this;apply⟨by show @Ne Nat _ _;lia,by show @Ne Nat _ _;lia,λhm=>?_⟩;obtain⟨j,hj,e⟩:=aI.mp hm;have e: @Eq Nat _ _:=e;lia
 ·have hge:s1.heap.objs.size≤e:=by
   simp only[ay] at he
   rcases he with rfl | rfl | rfl | he
   ·show @LE.le Nat _ _ _;lia
   ·show @LE.le Nat _ _ _;lia
   ·show @LE.le Nat _ _ _;lia
   ·obtain⟨j,hj,rfl⟩:=aI.mp he
    show @LE.le Nat _ _ _;lia
  exact I1.fpOk hge (I1.hok.fresh hge)
def iZip2 (ta:TA):TI:=λσ H R=>ta σ H λvs H1=>∃c1 c2 xs ys,vs=[.ref c1.a,.ref c2.a]∧HSq H1 c1 xs∧HSq H1 c2 ys∧R (Itq [c1,c2]) H1
theorem pi_zip2 {eb:Expr}{ta:TA}{p:Pos}{k0}{pt:Pos}(hg:Gl X "zip")(hm:X.mg "zip" =none)(ha:PA X [ea,eb] ta)(hs:autoParam (br [ea,eb] X.env=[(false,dY ea X.env),(false,dY eb X.env)]) L2.au0._auto_1)(hs2:autoParam (br [eb] X.env=[(false,dY eb X.env)]) L2.au0._auto_1) :
  PI X (.Tuple es k0 pt) (.Call (.Name "zip" p) [ea,eb] [] pos) (iZip2 ta):=by
 intro aN s σ H R I h;apply Call_ (oS I hg hm boot_zip (eT (thn (ha pos aN s σ H _ I h) λus s1 hz0=>?_) (by rw[hs,hs2]) (by rw[hs2];rfl)));obtain⟨vs,H1,I1,r1,q1⟩:=hz0;obtain⟨c1,c2,xs,ys,e,h1,h2,q⟩:=q1;subst e;obtain⟨u1,u2,rfl,r2,r3⟩:=vals2 r1;cases(show u1=af.ref c1.a from r2);cases(show u2=af.ref c2.a from r3);obtain⟨_,_,p1⟩:=h1.at I1;obtain⟨_,_,p2⟩:=h2.at I1;apply callType_new F.called_zip ↥0 (F.typeCall_zip_2 _ _) (F.newCall_zip_2 _ _) (λobj=>F.args_object_init_3 obj _ _) F.entry_zip_new (zipS_new [c1,c2] (by show 2≤8;decide)) ⟨λc hc=>?_,λg Z=>⟨⟨_,Z.zip,rfl⟩,?_⟩⟩
 ·simp only[ay,bz,or_false] at hc
  rcases hc with rfl | rfl
  ·exact⟨_,p1⟩
  ·exact⟨_,p2⟩
 ·apply zip_walk (cs:=[c1,c2]) I1 (by show 2≤8;decide) (by show 0<2;decide) (λc hc=>?_) q Z
  simp only[ay,bz,or_false] at hc
  rcases hc with rfl | rfl
  ·exact⟨_,h1⟩
  ·exact⟨_,h2⟩
theorem valsThree {x z:V}(h:ie [x,y,z] us):∃u1 u2 u3,us=[u1,u2,u3]∧jr x u1∧jr y u2∧jr z u3:=by
 cases h with
 | cons h1 r1=>cases r1 with
  | cons h2 r2=>cases r2 with
   | cons h3 r3=>cases r3;exact⟨_,_,ρ,h1,h2,h3⟩
def iZip3 (ta:TA):TI:=λσ H R=>ta σ H λvs H1=>∃c1 c2 c3 xs ys zs,vs=[.ref c1.a,.ref c2.a,.ref c3.a]∧HSq H1 c1 xs∧HSq H1 c2 ys∧HSq H1 c3 zs∧R (Itq [c1,c2,c3]) H1
theorem pi_zip3 {eb ec:Expr}{ta:TA}{p:Pos}{k0}{pt:Pos}(hg:Gl X "zip")(hm:X.mg "zip" =none)(ha:PA X [ea,eb,ec] ta)(hs:autoParam (br [ea,eb,ec] X.env=[(false,dY ea X.env),(false,dY eb X.env),(false,dY ec X.env)]) L2.au0._auto_1)(hs2:autoParam (br [eb,ec] X.env=[(false,dY eb X.env),(false,dY ec X.env)]) L2.au0._auto_1) :
  PI X (.Tuple es k0 pt) (.Call (.Name "zip" p) [ea,eb,ec] [] pos) (iZip3 ta):=by
 intro aN s σ H R I h;apply Call_ (oS I hg hm boot_zip (eT (thn (ha pos aN s σ H _ I h) λus s1 hz0=>?_) (by rw[hs,hs2]) (by rw[hs2];rfl)));obtain⟨vs,H1,I1,r1,q1⟩:=hz0;obtain⟨c1,c2,c3,xs,ys,zs,e,h1,h2,h3,q⟩:=q1;subst e;obtain⟨u1,u2,u3,rfl,r2,r3,r4⟩:=valsThree r1;cases(show u1=af.ref c1.a from r2);cases(show u2=af.ref c2.a from r3);cases(show u3=af.ref c3.a from r4);obtain⟨_,_,p1⟩:=h1.at I1;obtain⟨_,_,p2⟩:=h2.at I1;obtain⟨_,_,p3⟩:=h3.at I1;apply callType_new F.called_zip ↥0 (zip_type3 _ _ _) (zip_new3 _ _ _) (λobj=>zip_args3 obj _ _ _) F.entry_zip_new (zipS_new [c1,c2,c3] (by show 3≤8;decide)) ⟨λc hc=>?_,λg Z=>⟨⟨_,Z.zip,rfl⟩,?_⟩⟩
 ·simp only[ay,bz,or_false] at hc
  rcases hc with rfl | rfl | rfl
  ·exact⟨_,p1⟩
  ·exact⟨_,p2⟩
  ·exact⟨_,p3⟩
 ·apply zip_walk (cs:=[c1,c2,c3]) I1 (by show 3≤8;decide) (by show 0<3;decide) (λc hc=>?_) q Z
  simp only[ay,bz,or_false] at hc
  rcases hc with rfl | rfl | rfl
  ·exact⟨_,h1⟩
  ·exact⟨_,h2⟩
  ·exact⟨_,h3⟩
theorem for_zip2 {c1 c2:Sq}{D:rM}(Pv:Nat→St→Hp→Prop)(h0:Pv 0 σ H)(hl:∀i σ H,i≤xs.length→Pv i σ H→HSq H c1 xs∧HSq H c2 ys)(hxy:xs.length=ys.length)
  (hs:∀i x y p σ H,xs[i]? =some x→ys[i]? =some y→Pv i σ H→H p=none→g (.ref p) σ (upd H p (.tup [x,y])) λσ2 H2=>tb { D with nx:=Pv (i+1),ct:=Pv (i+1),bk:=D.nx } σ2 H2) (hd:∀σ H,Pv xs.length σ H→D.nx σ H) :
  ∃W:Nat→Nat→St→Hp→Prop,(∃m,W 0 m σ H)∧∀i m σ H,W i m σ H →
   ((Itq [c1,c2]).stop i H∧D.nx σ H)∨((Itq [c1,c2]).go i H∧∃N:St→Hp→Prop,(∀σ' H',N σ' H'→∃m',m'<m∧W (i+1) m' σ' H')∧∀x H',(Itq [c1,c2]).yld i H x H'→g x σ H' λσ2 H2=>tb { D with nx:=N,ct:=N,bk:=D.nx } σ2 H2):=by
 apply⟨λi m σ H=>i≤xs.length∧m=xs.length - i∧Pv i σ H,⟨_,cV _,rfl,h0⟩,λi m σ H hz0=>?_⟩;obtain⟨hi,hm,hp⟩:=hz0;obtain⟨qa,qb⟩:=hl i σ H hi hp
 by_cases e:i=xs.length
 ·subst e
  exact .inl ⟨⟨0,c1,xs,rfl,qa,aG _,λn c _ hn=>rQ hn ⋯⟩,hd σ H hp⟩
 ·have hlt:i<xs.length:=gd hi e
  have hlt2:i<ys.length:=by lia
  apply .inr ⟨⟨[xs[i],ys[i]],rfl,λn c hc=>?_⟩,Pv (i+1),λσ' H' hp'=>⟨xs.length - (i+1),⋯,⋯,rfl,hp'⟩,λv H3 hy=>?_⟩
  ·match n,hc with
   | 0,hc=>cases hc;exact⟨xs,xs[i],qa,gE hlt,rfl⟩
   | 1,hc=>cases hc;exact⟨ys,ys[i],qb,gE hlt2,rfl⟩
   | n+2,hc=>simp at hc
  ·obtain⟨p,vs,hn,rfl,rfl,lv,hx⟩:=hy
   rcases vs with _ | ⟨x,_ | ⟨y,_ | ⟨u,vs⟩⟩⟩ <;> first | exact hs i x y p σ H (hx 0 c1 x xs rfl qa rfl) (hx 1 c2 y ys rfl qb rfl) hp hn | simp at lv
theorem for_zipB2 {c1 c2:Sq}{D:rM}(Pv:Nat→St→Hp→Prop)(h0:Pv 0 σ H)(hl:∀i σ H,i≤ys.length→Pv i σ H→HSq H c1 xs∧HSq H c2 ys)(hxy:ys.length≤xs.length)
  (hs:∀i x y p σ H,xs[i]? =some x→ys[i]? =some y→Pv i σ H→H p=none→g (.ref p) σ (upd H p (.tup [x,y])) λσ2 H2=>tb { D with nx:=Pv (i+1),ct:=Pv (i+1),bk:=D.nx } σ2 H2) (hd:∀σ H,Pv ys.length σ H→D.nx σ H) :
  ∃W:Nat→Nat→St→Hp→Prop,(∃m,W 0 m σ H)∧∀i m σ H,W i m σ H →
   ((Itq [c1,c2]).stop i H∧D.nx σ H)∨((Itq [c1,c2]).go i H∧∃N:St→Hp→Prop,(∀σ' H',N σ' H'→∃m',m'<m∧W (i+1) m' σ' H')∧∀x H',(Itq [c1,c2]).yld i H x H'→g x σ H' λσ2 H2=>tb { D with nx:=N,ct:=N,bk:=D.nx } σ2 H2):=by
 apply⟨λi m σ H=>i≤ys.length∧m=ys.length - i∧Pv i σ H,⟨_,cV _,rfl,h0⟩,λi m σ H w=>?_⟩;obtain⟨hi,hm,hp⟩:=w;obtain⟨qa,qb⟩:=hl i σ H hi hp
 by_cases e:i=ys.length
 ·subst e
  apply .inl ⟨?_,hd σ H hp⟩
  by_cases q:ys.length<xs.length
  ·apply⟨1,c2,ys,rfl,qb,aG _,λn c hc hn=>?_⟩
   obtain rfl:n=0:=by lia
   cases hc;exact⟨xs,_,qa,gE q⟩
  ·exact⟨0,c1,xs,rfl,qa,⋯,λn c _ hn=>rQ hn ⋯⟩
 ·have hlt2:i<ys.length:=gd hi e
  have hlt:i<xs.length:=by lia
  apply .inr ⟨⟨[xs[i],ys[i]],rfl,λn c hc=>?_⟩,Pv (i+1),λσ' H' hp'=>⟨ys.length - (i+1),⋯,⋯,rfl,hp'⟩,λv H3 hy=>?_⟩
  ·match n,hc with
   | 0,hc=>cases hc;exact⟨xs,xs[i],qa,gE hlt,rfl⟩
   | 1,hc=>cases hc;exact⟨ys,ys[i],qb,gE hlt2,rfl⟩
   | n+2,hc=>simp at hc
  ·obtain⟨p,vs,hn,rfl,rfl,lv,hx⟩:=hy
   rcases vs with _ | ⟨x,_ | ⟨y,_ | ⟨u,vs⟩⟩⟩ <;> first | exact hs i x y p σ H (hx 0 c1 x xs rfl qa rfl) (hx 1 c2 y ys rfl qb rfl) hp hn | simp at lv
theorem for_zipB3 {c1 c2 c3:Sq}{zs:List V}{D:rM}(Pv:Nat→St→Hp→Prop)(h0:Pv 0 σ H)(hl:∀i σ H,i≤ys.length→Pv i σ H→HSq H c1 xs∧HSq H c2 ys∧HSq H c3 zs)(hxy:ys.length≤xs.length)(hyz:ys.length=zs.length)
  (hs:∀i x y z p σ H,xs[i]? =some x→ys[i]? =some y→zs[i]? =some z→Pv i σ H→H p=none→g (.ref p) σ (upd H p (.tup [x,y,z])) λσ2 H2=>tb { D with nx:=Pv (i+1),ct:=Pv (i+1),bk:=D.nx } σ2 H2) (hd:∀σ H,Pv ys.length σ H→D.nx σ H) :
  ∃W:Nat→Nat→St→Hp→Prop,(∃m,W 0 m σ H)∧∀i m σ H,W i m σ H →
   ((Itq [c1,c2,c3]).stop i H∧D.nx σ H)∨((Itq [c1,c2,c3]).go i H∧∃N:St→Hp→Prop,(∀σ' H',N σ' H'→∃m',m'<m∧W (i+1) m' σ' H')∧∀x H',(Itq [c1,c2,c3]).yld i H x H'→g x σ H' λσ2 H2=>tb { D with nx:=N,ct:=N,bk:=D.nx } σ2 H2):=by
 apply⟨λi m σ H=>i≤ys.length∧m=ys.length - i∧Pv i σ H,⟨_,cV _,rfl,h0⟩,λi m σ H w=>?_⟩;obtain⟨hi,hm,hp⟩:=w;obtain⟨qa,qb,qc⟩:=hl i σ H hi hp
 by_cases e:i=ys.length
 ·subst e
  apply .inl ⟨?_,hd σ H hp⟩
  by_cases q:ys.length<xs.length
  ·apply⟨1,c2,ys,rfl,qb,aG _,λn c hc hn=>?_⟩
   obtain rfl:n=0:=by lia
   cases hc;exact⟨xs,_,qa,gE q⟩
  ·exact⟨0,c1,xs,rfl,qa,⋯,λn c _ hn=>rQ hn ⋯⟩
 ·have hlt2:i<ys.length:=gd hi e
  have hlt:i<xs.length:=by lia
  have hlt3:i<zs.length:=by lia
  apply .inr ⟨⟨[xs[i],ys[i],zs[i]],rfl,λn c hc=>?_⟩,Pv (i+1),λσ' H' hp'=>⟨ys.length - (i+1),⋯,⋯,rfl,hp'⟩,λv H3 hy=>?_⟩
  ·match n,hc with
   | 0,hc=>cases hc;exact⟨xs,xs[i],qa,gE hlt,rfl⟩
   | 1,hc=>cases hc;exact⟨ys,ys[i],qb,gE hlt2,rfl⟩
   | 2,hc=>cases hc;exact⟨zs,zs[i],qc,gE hlt3,rfl⟩
   | n+3,hc=>simp at hc
  ·obtain⟨p,vs,hn,rfl,rfl,lv,hx⟩:=hy
   rcases vs with _ | ⟨x,_ | ⟨y,_ | ⟨z,_ | ⟨u,vs⟩⟩⟩⟩ <;> first | exact hs i x y z p σ H (hx 0 c1 x xs rfl qa rfl) (hx 1 c2 y ys rfl qb rfl) (hx 2 c3 z zs rfl qc rfl) hp hn | simp at lv
end L2
variable {c:L2.Sq}{cs:List L2.Sq}
namespace HN
open PySem L2 PyProof.Rows HT2
abbrev sRideL:c8:=clsOf cLin 3
inductive spRideL (C:aq)(vs:List V)(H:Hp)(Q:VK)(_:XK):Prop
 | mk (x D:aq)(n z y:Str)(ss:List Str)(rs:List Int)(fi:Int)(_:vs=[.ref x,.str z,.str y])(_:LinD H C x n ss rs D fi)(_:ss.length=rs.length+1)(_:2≤ss.length)(_:ss.Nodup)(_:∀H',cb H H'→(∀(i:Nat) (r:Int),ss[i]? =some z→ss[i+1]? =some y→rs[i]? =some r→Q (.int r) H')∧((∀i:Nat,ss[i]? =some z→ss[i+1]? ≠some y)→Q .non H'))
theorem scRideL:cI ["self","stop","after","here","there","run"] pzv (defScope sRideL):=by trivial
theorem ok_rideL (F:Fun K "ride" "Line.ride" sRideL f fd)(hz:mg "zip" =none)(CC:LinC K C):‹0› 1 f fd pzv (spRideL C):=by
 specialize F.ok scRideL;obtain⟨x,D,n,z,y,ss,rs,fi,rfl,⟨dx,a,b,hx,ha,hb⟩,hl,two,nd,k⟩:=h;apply⟨_,PSl.h (bo ⟨(jg cf rfl (pi_zip3 rfl hz (ah (eW (pv 0) rfl) (ah (fe mF (eW (pv 0) rfl) (fV aO) gW) (ah (eW (pv 0) rfl) aA)))) (qA rfl (iW (pgZ 3 scRideL.nd) (iW (pgZ 4 scRideL.nd) (iW (pgZ 5 scRideL.nd) oh)))) (bE (fG (PW.pt (oJ (bQ iB (pv 3) (pv 1) (cw _)) (mG (bQ iB (pv 4) (pv 2) (cw _))))) (bE (bR (pv 5))) cF)))⟩ (gc ⟨(bR iJ)⟩)),?_⟩
 try dsimp only [cxK]
 have hls:(ss.map V.str).length=ss.length:=ae _;have e1:HT.sIx (ss.map V.str).length 0 (some 1)=1:=by
  rw[hls];have:=HT.sIx_nat ss.length 0 1;rw[eh ⋯] at this;exact this
 apply⟨ρ,x,C,dx,_,ρ,hx,CC.cl,CC.n2,rfl,ρ,x,C,dx,_,ρ,hx,CC.cl,CC.n2,rfl,ρ,a,ρ,SqT.of ha,?_,λp H1 S1 e=>?_⟩
 ·rw[e1]
  intro q;exact rQ q.1 ↥0
 rw[cutF (i:=1) (n:=1) rfl,←gx] at e;apply⟨ρ,x,C,dx,_,ρ,S1 _ _ hx,CC.cl,CC.n3,rfl,⟨false,a⟩,⟨false,p⟩,⟨false,b⟩,_,_,ρ,S1 _ _ ha,e,S1 _ _ hb,?_⟩
 let pZ1:Nat→L2.St→L2.Hp→Prop:=λi σ H2=>cb H1 H2∧(∀j,j<i→ss[j]? =some z→ss[j+1]? ≠some y)∧∃v3 v4 v5,σ=[some (.ref x),some (.str z),some (.str y),v3,v4,v5]
 apply for_zipB3 (c1:=⟨false,a⟩) (c2:=⟨false,p⟩) (c3:=⟨false,b⟩) (xs:=ss.map V.str) (ys:=(ss.drop 1).map V.str) (zs:=rs.map V.int) pZ1
  ⟨cb.refl _,λj hj=>rQ hj (jE _),none,none,none,rfl⟩ (λi σ H2 _ q=>⟨q.1 _ _ (S1 _ _ ha),q.1 _ _ e,q.1 _ _ (S1 _ _ hb)⟩) (by rw[ae,ae,bD];lia) (by rw[ae,ae,bD];lia) ?_ ?_
 ·rintro i x1 x2 x3 q σ H2 h1 h2 h3 ⟨S2,no,v3,v4,v5,rfl⟩ hq
  rw[aC] at h1 h2 h3;obtain⟨u1,g1,rfl⟩:=aV.mp h1;obtain⟨u2,g2,rfl⟩:=aV.mp h2;obtain⟨r,g3,rfl⟩:=aV.mp h3;rw[dv,Nat.add_comm] at g2;have S6:cb H1 (upd H2 q (.tup [.str u1,.str u2,.int r])):=S2.put hq;have h6:(upd H2 q (.tup [.str u1,.str u2,.int r])) q=some (.tup [.str u1,.str u2,.int r]):=aQ;generalize upd H2 q (.tup [.str u1,.str u2,.int r])=H6 at S6 h6 ⊢;have nx:¬(u1=z∧u2=y)→∀j,j<i+1→ss[j]? =some z→ss[j+1]? ≠some y:=λhne j hj w1 w2=>by
   rcases i9.mp hj with hj | hj
   ·exact no j hj w1 w2
   ·subst hj
    rw[g1] at w1;rw[g2] at w2;exact hne ⟨bU w1,bU w2⟩
  apply⟨q,ρ,SqT.of h6,rfl,_,ρ,_,ρ,ς,?_⟩;apply⟨ρ,ρ,rfl,ρ,kJ (λc1=>?_) (λc1=>?_)⟩
  ·have c1:u1=z:=by have:=rT c1;injection this
   apply⟨ρ,ρ,rfl,ρ,kJ (λc2=>?_) (λc2=>?_)⟩
   ·have c2:u2=y:=by have:=rT c2;injection this
    exact⟨ρ,(k H6 (S1.trans S6)).1 i r (c1 ▸ g1) (c2 ▸ g2) g3⟩
   ·exact⟨S6,nx λz=>c2 (rR (by rw[z.2])),_,_,ρ⟩
  ·exact⟨S6,nx λz=>c1 (rR (by rw[z.1])),_,_,ρ⟩
 ·rintro σ H2 ⟨S2,no,v3,v4,v5,rfl⟩
  apply(k H2 (S1.trans S2)).2 λi h1 h2=>no i ?_ h1 h2
  have:=(ai.mp h2).1;rw[ae,bD];lia
abbrev sLabL:c8:=clsOf cLin 5
def labs (n:Str):List Str→List (List V)
 | s::t::r=>[.str n,.str s,.str "goes"]::[.str n,.str t,.str "comes"]::labs n (t::r)
 | _=>[]
inductive spLabL (C:aq)(vs:List V)(H:Hp)(Q:VK)(_:XK):Prop
 | mk (x D:aq)(n:Str)(ss:List Str)(rs:List Int)(fi:Int)(_:vs=[.ref x])(_:LinD H C x n ss rs D fi)(_:2≤ss.length)(_:ss.length≤1000)(_:∀(L:aq) (as:List aq) (H':Hp),cb H H'→H L=none→H' L=some (.lst (as.map V.ref))→as.map H'=(labs n ss).map (λt=>some (HO.tup t))→Q (.ref L) H')
theorem labs_take {n:Str}:∀{ss:List Str} {i:Nat} {s t:Str},ss[i]? =some s→ss[i+1]? =some t→labs n (ss.take (i+2))=labs n (ss.take (i+1))++[[.str n,.str s,.str "goes"],[.str n,.str t,.str "comes"]]
 | [],_,_,_,h,_=>by cases h
 | [_],0,_,_,_,h=>by cases h
 | [_],_+1,_,_,h,_=>by cases h
 | a::b::r,0,s,t,h1,h2=>by cases h1;cases h2;rfl
 | a::b::r,i+1,s,t,h1,h2=>by
  have ih:=labs_take (n:=n) (ss:=b::r) (i:=i) h1 h2;show _::_::labs n ((b::r).take (i+2))=_::_::(labs n ((b::r).take (i+1))++_);rw[ih]
theorem oQ {as:List aq}{ts:List (List V)}(h:as.map H=ts.map (λt=>some (HO.tup t)))(k:∀c o,c≠L→H c=some o→H' c=some o)(hL:H L=some (.lst xs)):as.map H'=ts.map (λt=>some (HO.tup t)):=by
 rw[←h];apply cJ λc hc=>?_
 have hm:H c∈ts.map (λt=>some (HO.tup t)):=by rw[←h];exact cX hc
 obtain⟨t,_,e⟩:=aI.mp hm;rw[←e];exact k c _ (λz=>by rw[z,hL] at e;cases e) e.symm
theorem scLabL:cI ["self","labels","here","there"] pzb (defScope sLabL):=by trivial
theorem ok_labL (F:Fun K "own_labels" "Line.own_labels" sLabL f fd)(hz:mg "zip" =none)(CC:LinC K C):‹0› 1 f fd pzb (spLabL C):=by
 specialize F.ok scLabL;obtain ⟨x,D,n,ss,rs,fi,rfl,⟨dx,a,b,hx,ha,hb⟩,two,few,k⟩:=h;apply ⟨_,PSl.h (bo ⟨(psZ 1 scLabL.nd (kF aA))⟩ (bo ⟨(jg cf rfl (pi_zip2 rfl hz (ah (eW (pv 0) rfl) (ah (fe mF (eW (pv 0) rfl) (fV aO) gW) aA))) (qA rfl (iW (pgZ 2 scLabL.nd) (iW (pgZ 3 scLabL.nd) oh)))
  (PSl.h (bo ⟨(hV (jR bB bK bJ gH (pv 1) (ah (jc (ah (eW (pv 0) rfl) (ah (pv 2) (ah eS aA)))) aA)))⟩
   (gc ⟨(hV (jR bB bK bJ gH (pv 1) (ah (jc (ah (eW (pv 0) rfl) (ah (pv 3) (ah eS aA)))) aA)))⟩))))⟩ (gc ⟨(bR (pv 1))⟩))),?_⟩
 try dsimp only [cxK]
 have hls:(ss.map V.str).length=ss.length:=ae _;have e1:HT.sIx (ss.map V.str).length 0 (some 1)=1:=by
  rw[hls];have:=HT.sIx_nat ss.length 0 1;rw[eh ⋯] at this;exact this
 apply⟨(by show 0≤az;decide),λL hLn=>?_⟩;have S0:cb H (upd H L (.lst [])):=cb.put (cb.refl H) hLn;have hL:(upd H L (.lst [])) L=some (.lst []):=aQ;generalize upd H L (.lst [])=H0 at S0 hL ⊢;have S0x:=S0 _ _ hx;apply⟨ρ,x,C,dx,_,ρ,S0x,CC.cl,CC.n2,rfl,ρ,x,C,dx,_,ρ,S0x,CC.cl,CC.n2,rfl,ρ,a,ρ,SqT.of (S0 _ _ ha),?_,λp H1 S1 e=>?_⟩
 ·rw[e1]
  intro q;exact rQ q.1 ↥0
 rw[cutF (i:=1) (n:=1) rfl,←gx] at e;have hL1:=S1 _ _ hL;have ha1:=S1 _ _ (S0 _ _ ha);have hx1:=S1 _ _ S0x;apply⟨⟨false,a⟩,⟨false,p⟩,_,ρ,ha1,e,?_⟩
 let pZ1:Nat→L2.St→L2.Hp→Prop:=λi σ H2=>(∀c o,c≠L→H1 c=some o→H2 c=some o)∧(∃as:List aq,as.length=2 * i∧H2 L=some (.lst (as.map V.ref))∧as.map H2=(labs n (ss.take (i+1))).map (λt=>some (HO.tup t)))∧∃v2 v3,σ=[some (.ref x),some (.ref L),v2,v3]
 apply for_zipB2 (c1:=⟨false,a⟩) (c2:=⟨false,p⟩) (xs:=ss.map V.str) (ys:=(ss.drop 1).map V.str) pZ1
  ⟨λc o _ h=>h,⟨[],rfl,hL1,by cases ss with | nil=>rfl | cons s r=>rfl⟩,none,none,rfl⟩ (λi σ H2 _ q=>⟨q.1 _ _ (eN ha1 hL1 nofun) ha1,q.1 _ _ (eN e hL1 nofun) e⟩) (by rw[ae,ae,bD];lia) ?_ ?_
 ·rintro i x1 x2 q σ H2 h1 h2 ⟨k2,⟨as,la,hL2,hm⟩,v2,v3,rfl⟩ hq
  rw[aC] at h1 h2;obtain⟨u1,g1,rfl⟩:=aV.mp h1;obtain⟨u2,g2,rfl⟩:=aV.mp h2;rw[dv,Nat.add_comm] at g2;have li:i+1<ss.length:=(ai.mp g2).1;have big:(100000:Nat)≤az:=by decide
  have S6:cb H2 (upd H2 q (.tup [.str u1,.str u2])):=cb.put (cb.refl H2) hq;have h6:(upd H2 q (.tup [.str u1,.str u2])) q=some (.tup [.str u1,.str u2]):=aQ;generalize upd H2 q (.tup [.str u1,.str u2])=H6 at S6 h6 ⊢;have xL:x≠L:=eN hx1 hL1 nofun;have hx6:=S6 _ _ (k2 _ _ xL hx1);apply⟨q,ρ,SqT.of h6,rfl,_,ρ,ς,?_⟩;have hL6:=S6 _ _ hL2;apply⟨ρ,.inl ⟨rfl,_,SqL.of hL6⟩,ρ,x,C,dx,_,ρ,hx6,CC.cl,CC.n1,rfl,ρ,(by show 3≤az;decide),λp1 H7 S7 e7=>?_⟩;have hL7:=S7 _ _ hL6;apply⟨L,ς,hL7,(by rw[ae,la];lia),?_⟩;have S68:∀c o,c≠L→H2 c=some o→(upd H7 L (.lst (as.map V.ref++[.ref p1]))) c=some o:=λc o hc h=>by rw[aX hc];exact S7 _ _ (S6 _ _ h)
  have p1L:p1≠L:=eN e7 hL7 nofun;have e8:(upd H7 L (.lst (as.map V.ref++[.ref p1]))) p1=some (.tup [.str n,.str u1,.str "goes"]):=by rw[aX p1L];exact e7
  have hL8:(upd H7 L (.lst (as.map V.ref++[.ref p1]))) L=some (.lst (as.map V.ref++[.ref p1])):=aQ;generalize upd H7 L (.lst (as.map V.ref++[.ref p1]))=H8 at S68 e8 hL8 ⊢;have hm8:=oQ hm S68 hL2;have hx8:=S68 _ _ xL (k2 _ _ xL hx1);apply⟨ρ,.inl ⟨rfl,_,SqL.of hL8⟩,ρ,x,C,dx,_,ρ,hx8,CC.cl,CC.n1,rfl,ρ,(by show 3≤az;decide),λp2 H9 S9 e9=>?_⟩;have hL9:=S9 _ _ hL8;apply⟨L,ς,hL9,(by rw[ao,ae,la];show 2 * i+1<az;lia),?_⟩;have p2L:p2≠L:=eN e9 hL9 nofun;have k9:∀c o,c≠L→H8 c=some o→(upd H9 L (.lst (as.map V.ref++[.ref p1]++[.ref p2]))) c=some o:=λc o hc h=>by rw[aX hc];exact S9 _ _ h
  apply⟨λc o hc h=>k9 _ _ hc (S68 _ _ hc (k2 _ _ hc h)),⟨as++[p1,p2],by rw[ao,la];show 2 * i+2=_;lia,?_,?_⟩,_,ρ⟩
  ·rw[aQ,aw,dA];rfl
  ·rw[labs_take g1 g2,aw,aw,oQ hm8 k9 hL8]
   congr 1;show[_,_]=[_,_];rw[k9 _ _ p1L e8,aX p2L,e9]
 ·rintro σ H2 ⟨k2,⟨as,la,hL2,hm⟩,v2,v3,rfl⟩
  apply⟨ρ,k L as H2 (λc o h=>k2 c o ?_ (S1 _ _ (S0 _ _ h))) ?_ hL2 ?_⟩
  ·intro z;rw[z,hLn] at h;cases h
  ·exact hLn
  ·rw[hm,ae,bD,eP ⋯]
abbrev sApart:c8:=top 75
structure LinK (P:aK)(w:bg)(K:ak)(mg:Str→Option af)(base:bM)(C:aq)(fc fg fr:aq)(dc dg dr:aT):Prop where
 cc:LinC K C
 m1:pN K C "coming" fc
 f1:‹0› 1 fc dc pzi (spComL C)
 b1:Binds K dc pzi []
 m2:pN K C "going" fg
 f2:‹0› 1 fg dg pzi (spGoL C)
 b2:Binds K dg pzi []
 m3:pN K C "ride" fr
 f3:‹0› 1 fr dr pzv (spRideL C)
 b3:Binds K dr pzv []
structure LnOk (H:Hp)(C x:aq)(ss:List Str)(rs:List Int)(fi:Int):Prop where
 d:∃D n,LinD H C x n ss rs D fi
 nd:ss.Nodup
 two:2≤ss.length
 few:ss.length≤1000
 rl:ss.length=rs.length+1
theorem LnOk.kept {x:aq}{rs:List Int}{fi:Int}(S:cb H H')(h:LnOk H C x ss rs fi):LnOk H' C x ss rs fi:=by
 obtain⟨⟨D,n,dx,a,b,h1,h2,h3⟩,q⟩:=h;exact⟨⟨D,n,dx,a,b,S _ _ h1,S _ _ h2,S _ _ h3⟩,by assumption,by assumption,by assumption,by assumption⟩
inductive spApart (C:aq)(vs:List V)(H:Hp)(Q:VK)(_:XK):Prop
 | mk (bt d:Int)(x y p:aq)(n1 n2 z:Str)(ss tt:List Str)(rs us:List Int)(fi gi:Int)(i j:Nat)(_:vs=[.int bt,.ref x,.ref y,.ref p])(_:LnOk H C x ss rs fi)(_:LnOk H C y tt us gi)(_:H p=some (.tup [.str "apart",.str n1,.str n2,.str z,.int d]))(_:ss[i]? =some z)(_:i+1<ss.length)(_:tt[j]? =some z)(_:j+1<tt.length)(_:∀q H',cb H H'→H' q=some (.tup [.int (fi+2 * i),.int (gi+2 * j),.int d,.int (bt - d),.int 0])→Q (.ref q) H')
theorem scApart:cI pzf pzf (defScope sApart):=by trivial
theorem ok_apart {fr:aq}(F:Fun K "apart_span" "apart_span" sApart f fd)(CK:LinK P w K mg base C fc fg fr dc dg dr):‹0› 2 f fd pzf (spApart C):=by
 specialize F.ok scApart;obtain⟨bt,d,x,y,p,n1,n2,z,ss,tt,rs,us,fi,gi,i,j,rfl,hx,hy,hp,e1,e2,e3,e4,k⟩:=h;apply⟨_,bE (bR (jc (ah (eU (pv 1) CK.cc.cl CK.m2 CK.f2 hr CK.b2 .nil g9 (ah (ixZ (pv 3)) aA)) (ah (eU (pv 2) CK.cc.cl CK.m2 CK.f2 hr CK.b2 .nil g9 (ah (ixZ (pv 3)) aA)) (ah (ixZ (pv 3)) (ah (cH iq (pv 0) (ixZ (pv 3))) (ah aO aA))))))),?_⟩
 try dsimp only [cxK]
 obtain⟨⟨D,n,L⟩,nd,two,few,_⟩:=hx;obtain⟨dx,a,b,hx1,_⟩:=id L;apply⟨ρ,x,dx,ρ,hx1,rfl,ρ,p,τ,SqT.of hp,aP (j:=3) rfl,x,D,n,z,ss,rs,fi,rfl,L,few,two,nd,λH1 S1=>⟨λi' a1 a2=>?_,λno=>rQ (no i e1) ⋯⟩⟩;obtain rfl:i'=i:=by
  rcases ic i' i with q | q | q
  ·exact rQ a1 (lY nd e1 _ q)
  ·exact q
  ·exact rQ e1 (lY nd a1 _ q)
 obtain⟨⟨D2,n2',L2'⟩,nd2,two2,few2,_⟩:=hy.kept S1;obtain⟨dy,a3,b3,hy1,_⟩:=id L2';apply⟨ρ,y,dy,ρ,hy1,rfl,ρ,p,τ,SqT.of (S1 _ _ hp),aP (j:=3) rfl,y,D2,n2',z,tt,us,gi,rfl,L2',few2,two2,nd2,λH2 S2=>⟨λj' a1' a2'=>?_,λno=>rQ (no j e3) ⋯⟩⟩;obtain rfl:j'=j:=by
  rcases ic j' j with q | q | q
  ·exact rQ a1' (lY nd2 e3 _ q)
  ·exact q
  ·exact rQ e3 (lY nd2 a1' _ q)
 have hp2:=S2 _ _ (S1 _ _ hp);apply⟨ρ,p,τ,SqT.of hp2,aP (j:=4) rfl,ρ,ρ,p,τ,SqT.of hp2,aP (j:=4) rfl,ς,szZ5,λq H3 S3 e=>?_⟩;exact k q H3 (S1.trans (S2.trans S3)) e
abbrev sMeet:c8:=top 76
inductive spMeet (C:aq)(vs:List V)(H:Hp)(Q:VK)(_:XK):Prop
 | mk (bt d r u:Int)(x y p:aq)(n1 n2 z z2:Str)(ss tt:List Str)(rs us:List Int)(fi gi:Int)(i j:Nat)(_:vs=[.int bt,.ref x,.ref y,.ref p])(_:LnOk H C x ss rs fi)(_:LnOk H C y tt us gi)(_:H p=some (.tup [.str "meet",.str n1,.str n2,.str z,.str z2,.int d]))(_:ss[i]? =some z)(_:ss[i+1]? =some z2)(_:rs[i]? =some r)(_:tt[j]? =some z2)(_:tt[j+1]? =some z)(_:us[j]? =some u)(_:∀q H',cb H H'→H' q=some (.tup [.int (fi+2 * i),.int (gi+2 * j),.int (r+d),.int (bt - u - d),.int 0])→Q (.ref q) H')
theorem kH (nd:ss.Nodup)(e:ss[i]? =some z)(a:ss[j]? =some z):j=i:=by
 rcases ic j i with q | q | q
 ·exact rQ a (lY nd e _ q)
 ·exact q
 ·exact rQ e (lY nd a _ q)
theorem rp:cI ["beat","one","other","row","ride","back"] pzf (defScope sMeet):=by trivial
theorem ok_meet {fr:aq}(F:Fun K "meet_span" "meet_span" sMeet f fd)(CK:LinK P w K mg base C fc fg fr dc dg dr):‹0› 2 f fd pzf (spMeet C):=by
 specialize F.ok rp;obtain ⟨bt,d,r,u,x,y,p,n1,n2,z,z2,ss,tt,rs,us,fi,gi,i,j,rfl,hx,hy,hp,e1,e2,e3,e4,e5,e6,k⟩:=h;apply ⟨_,PSl.h (bo ⟨(psZ 4 rp.nd (eU (pv 1) CK.cc.cl CK.m3 CK.f3 hr CK.b3 .nil g9 (ah (ixZ (pv 3)) (ah (ixZ (pv 3)) aA))))⟩
  (bo ⟨(psZ 5 rp.nd (eU (pv 2) CK.cc.cl CK.m3 CK.f3 hr CK.b3 .nil g9 (ah (ixZ (pv 3)) (ah (ixZ (pv 3)) aA))))⟩
  (bo ⟨(fG (PW.pt (mS (bQ nc (pv 4) iJ (cw _)) (lK (bQ nc (pv 5) iJ (cw _))))) (bE (bR iJ)) cF)⟩
  (gc ⟨(bR (jc (ah (eU (pv 1) CK.cc.cl CK.m2 CK.f2 hr CK.b2 .nil g9 (ah (ixZ (pv 3)) aA)) (ah (eU (pv 2) CK.cc.cl CK.m2 CK.f2 hr CK.b2 .nil g9 (ah (ixZ (pv 3)) aA)) (ah (cH fz (pv 4) (ixZ (pv 3))) (ah (cH iq (cH iq (pv 0) (pv 5)) (ixZ (pv 3))) (ah aO aA)))))))⟩)))),?_⟩
 try dsimp only [cxK]
 obtain⟨⟨D,n,L⟩,nd,two,few,rl⟩:=id hx;obtain⟨dx,a,b,hx1,_⟩:=id L;apply⟨ρ,x,dx,ρ,hx1,rfl,ρ,p,τ,SqT.of hp,aP (j:=3) rfl,ρ,p,τ,SqT.of hp,aP (j:=4) rfl,x,D,n,z,z2,ss,rs,fi,rfl,L,rl,two,nd,λH1 S1=>⟨λi' r' a1 a2 a3=>?_,λno=>rQ e2 (no i e1)⟩⟩;obtain rfl:=kH nd e1 a1;obtain rfl:r'=r:=bU (a3.symm.trans e3);obtain⟨⟨D2,n2',L2'⟩,nd2,two2,few2,rl2⟩:=hy.kept S1;obtain⟨dy,a4,b4,hy1,_⟩:=id L2';have hp1:=S1 _ _ hp;apply⟨ρ,y,dy,ρ,hy1,rfl,ρ,p,τ,SqT.of hp1,aP (j:=4) rfl,ρ,p,τ,SqT.of hp1,aP (j:=3) rfl,y,D2,n2',z2,z,tt,us,gi,rfl,L2',rl2,two2,nd2,λH2 S2=>⟨λj' u' b1 b2 b3=>?_,λno=>rQ e5 (no j e4)⟩⟩;obtain rfl:=kH nd2 e4 b1;obtain rfl:u'=u:=bU (b3.symm.trans e6);have hp2:=S2 _ _ hp1;apply⟨ρ,rfl,ρ,jY (rS nofun) ⟨_,rfl,rfl,_,rfl,jY (rS nofun) ?_⟩⟩;obtain⟨⟨D3,n3,L3⟩,_,_,_,_⟩:=hx.kept (S1.trans S2);obtain⟨dx3,a5,b5,hx3,_⟩:=id L3;have l1:=(ai.mp e2).1;have l2:=(ai.mp e5).1;apply⟨ρ,x,dx3,ρ,hx3,rfl,ρ,p,τ,SqT.of hp2,aP (j:=3) rfl,x,D3,n3,z,ss,rs,fi,rfl,L3,few,two,nd,λH3 S3=>⟨λi2 c1 c2=>?_,λno=>rQ (no _ e1) ⋯⟩⟩;obtain rfl:=kH nd e1 c1;obtain⟨⟨D4,n4,L4⟩,_,_,_,_⟩:=hy.kept (S1.trans (S2.trans S3));obtain⟨dy4,a6,b6,hy4,_⟩:=id L4;have hp3:=S3 _ _ hp2;apply⟨ρ,y,dy4,ρ,hy4,rfl,ρ,p,τ,SqT.of hp3,aP (j:=4) rfl,y,D4,n4,z2,tt,us,gi,rfl,L4,few2,two2,nd2,λH4 S4=>⟨λj2 d1 d2=>?_,λno=>rQ (no _ e4) ⋯⟩⟩;obtain rfl:=kH nd2 e4 d1;have hp4:=S4 _ _ hp3;apply⟨ρ,ρ,p,τ,SqT.of hp4,aP (j:=5) rfl,ς,ρ,ρ,ς,ρ,p,τ,SqT.of hp4,aP (j:=5) rfl,ς,szZ5,λq H5 S5 e=>?_⟩;exact k q H5 (S1.trans (S2.trans (S3.trans (S4.trans S5)))) e
end HN
namespace HN
open PySem L2 PyProof.Rows
structure Sn where
 s:Int
 g:Int
 l:Int
 o:Int
 w:Int
abbrev Sn.row (x:Sn):List Int:=[x.s,x.g,x.l,x.o,x.w]
abbrev netP (b m:Int)(sp:List Sn):Dt:= .tup [.int b,.int m,.tup (sp.map λx=> .tup (x.row.map Dt.int))]
theorem small_le (h:n≤1000):n≤az:=cO h ↥0
structure Nt (mg:Str→Option af):Prop where
 range:mg "range" =none
 enum:mg "enumerate" =none
 zip:mg "zip" =none
 sum:mg "sum" =none
 tlist:mg "list" =none
 max:mg "max" =none
end HN
variable {bt:List HN.Sn}{sn:HN.Sn}
namespace HN
open PySem L2 PyProof.Rows HT2
structure Ln where
 n:Str
 ss:List Str
 rs:List Int
 st:List (Str×Int×Int×Int)
 fi:Int
def sty (st:List (Str×Int×Int×Int))(z:Str):Int×Int×Int:=((st.find? λp=>decide (p.1=z)).map (·.2)).getD (0,0,0)
def stp (l:Ln)(i:Nat):List Sn:=⟨l.fi+2 * i,l.fi+2 * i+1,l.rs.getD i 0,l.rs.getD i 0,0⟩ ::
 (if i+2<l.ss.length then [⟨l.fi+2 * i+1,l.fi+2 * i+2,(sty l.st (l.ss.getD (i+1) gU)).1,(sty l.st (l.ss.getD (i+1) gU)).2.1,(sty l.st (l.ss.getD (i+1) gU)).2.2⟩] else [])
def ownN (l:Ln)(k:Nat):List Sn:=(c7 k).flatMap (stp l)
abbrev ownS (l:Ln):List Sn:=ownN l l.rs.length
theorem mZ (l:Ln)(k:Nat):ownN l (k+1)=ownN l k++stp l k:=by
 unfold ownN;rw[List.range_succ,List.flatMap_append];simp
theorem stp_len (l:Ln)(i:Nat):(stp l i).length≤2:=by
 unfold stp;split <;> simp
theorem ownN_len (l:Ln):∀k,(ownN l k).length≤2 * k
 | 0=>by simp[ownN]
 | k+1=>by
  have:=ownN_len l k;have:=stp_len l k;rw[mZ,ao];lia
abbrev snD (x:Sn):Dt:= .tup (x.row.map Dt.int)
structure StA (H:Hp)(D:aq)(st:List (Str×Int×Int×Int)):Prop where
 ex:∃kvs:List (Key×V),H D=some (.dK kvs)∧kvs.length=st.length∧∀z,(∀v,me kvs (.inr z)=some v→∃a,v= .ref a∧H a=some (.tup [.int (sty st z).1,.int (sty st z).2.1,.int (sty st z).2.2]))∧(me kvs (.inr z)=none→sty st z=(0,0,0)∧z ∉ st.map (·.1))∧((me kvs (.inr z)).isSome=true→z∈st.map (·.1))
structure LnA (H:Hp)(C x D:aq)(l:Ln):Prop where
 d:LinD H C x l.n l.ss l.rs D l.fi
 s:StA H D l.st
 nd:l.ss.Nodup
 two:2≤l.ss.length
 few:l.ss.length≤1000
 rl:l.ss.length=l.rs.length+1
theorem StA.kept {st:List (Str×Int×Int×Int)}(k:∀b xs,H b=some (.tup xs)→H' b=some (.tup xs))(e:H' D=H D)(h:StA H D st):StA H' D st:=by
 obtain⟨kvs,h1,h2,h3⟩:=h.ex;apply⟨kvs,e.trans h1,h2,λz=>⟨λv hv=>?_,(h3 z).2⟩⟩;obtain⟨a,e1,e2⟩:=(h3 z).1 v hv;exact⟨a,e1,k _ _ e2⟩
theorem LnA.kept {x:aq}{l:Ln}(k:∀b xs,H b=some (.tup xs)→H' b=some (.tup xs))(k2:∀b C dx fs,H b=some (.ins C dx fs)→H' b=some (.ins C dx fs))(e:H' D=H D)(h:LnA H C x D l):LnA H' C x D l:=by
 obtain⟨dx,a,b,h1,h2,h3⟩:=h.d;exact⟨⟨dx,a,b,k2 _ _ _ _ h1,k _ _ h2,k _ _ h3⟩,h.s.kept k e,h.nd,h.two,h.few,h.rl⟩
theorem LnA.same {x:aq}{l:Ln}(S:cb H H')(h:LnA H C x D l):LnA H' C x D l:=by
 obtain⟨kvs,h1,_⟩:=h.s.ex;exact h.kept (λb xs e=>S _ _ e) (λb C dx fs e=>S _ _ e) ((S _ _ h1).trans h1.symm)
structure Unt (K:ak)(mg:Str→Option af):Prop where
 ex:∃t,mg "STAY_UNTOLD" =some (.ref t)∧∀H,SqT K H t [.int 0,.int 0,.int 0]
inductive spOwn (C:aq)(vs:List V)(H:Hp)(Q:VK)(_:XK):Prop
 | mk (x D:aq)(l:Ln)(_:vs=[.ref x])(_:LnA H C x D l)(_:∀(L:aq) (ys:List V) (H':Hp),cb H H'→H L=none→H' L=some (.lst ys)→jG H' ys ((ownS l).map snD)→Q (.ref L) H')
end HN
variable {l:HN.Ln}{ls:List HN.Ln}
namespace HN
open PySem L2 PyProof.Rows
theorem atI_last {xs:List α}{x:α}(h:xs[xs.length - 1]? =some x):atI xs (-1)=some x:=by
 have hl:xs.length - 1<xs.length:=(ai.mp h).1;unfold atI ixN;rw[rO ↥0,rP ⋯];show xs[(-1+(xs.length:Int)).toNat]? =some x;rw[show(-1+(xs.length:Int)).toNat=xs.length - 1 by lia];exact h
end HN
namespace L2
open PySem PySem.Spec PyProof.Rows
section
variable {k:Key}{z:V}{r:af}
theorem d_setdef (I:Inv X aN σ H s)(e:H a=some (.dK kvs))(ry:jr (kV k) u)(rz:jr z r)(hl:kvs.length<az)
  (h1:∀v w' s',me kvs k=some v→Inv X aN σ H s'→jr v w'→Q w' s') (h2:∀s',me kvs k=none→Inv X aN σ (upd H a (.dK (putK kvs k z))) s'→Q r s') :
  aY (bF X.prog X.w) A (call (.builtin "dict.setdefault") [.ref a,u,r]) Q E s:=by
 obtain⟨zz,hd,vs,rel,dd⟩:=dk_of I.hok e;apply call_meetsIn PySem.F.slot_dict_setdefault dd.typeIs PySem.F.entry_dict_setdefault (PySem.F.args_dict_setdefault_3 _ _ _) (kt_meets_setdefault (hW X.prog X.w) a (kV_is ry) hd r)
  ⟨vs,dd,by rw[←rel.length];exact zz,λw' hv=>?_,λhn h' dd' hs=>?_⟩
 ·cases l:me kvs k with
  | none =>
   have:=pZ.none_of (by rw[←l];exact rel.val k);rw[this] at hv;cases hv
  | some v =>
   obtain⟨w2,hw,rw'⟩:=pZ.some_of (v:=v) (o:=valueAt vs k) (by rw[←l];exact rel.val k);rw[hw] at hv;cases hv;exact h1 v _ _ l (I.tok _) rw'
 ·have l:me kvs k=none:=by
   cases l:me kvs k with
   | none=>rfl
   | some v =>
    obtain⟨w2,hw,_⟩:=pZ.some_of (v:=v) (o:=valueAt vs k) (by rw[←l];exact rel.val k);rw[hw] at hn;cases hn
  have he:∃q,h'.get? a=some q:=let ⟨q,_,_,hq,_⟩:=dd';⟨q,hq⟩;exact h2 _ l (d_write I (by rw[e];exact True.intro) hs he (dk_new (cO (oq kvs k z) hl) hd (rel.put k rz) dd'))
end
def tDSetd (td ty tx:TE):TE:=λσ H Q=>td σ H λx H1=>∃a,x= .ref a∧IsDct H1 a∧ty σ H1 λy H2=>tx σ H2 λz H3=>∃kvs k,H3 a=some (.dK kvs)∧y=kV k∧kvs.length<az ∧
 (∀v,me kvs k=some v→Q v H3)∧(me kvs k=none→Q z (upd H3 a (.dK (putK kvs k z))))
def isVV (r d:aq):HO:= .ext λh=>h.IsValuesView r d
structure M0 (X:Cx)(o:Expr)(m:Str)(apos:Pos)(cpos:Pos):Prop where
 base:ia o m X.env (dY o X.env)=dY o X.env
 few:((gI cpos (br [] X.env)).all (fun x=> !x.1) && (backToKw cpos (j9 [] X.env)).all (fun x=>x.1.isSome)
  && decide (([]:List Expr).length+([]:List kX).length+(if ([]:List kX).isEmpty then 0 else 1)<30))=true
 line:(apos.endLine == cpos.line)=true
 trees:gI cpos (br [] X.env)=[]
theorem Paired.getR {α β:Type}{F:α→β→Prop}:∀{l:List α} {k:List β},Paired F l k→∀{i:Nat} {x:α},l[i]? =some x→∃y,k[i]? =some y∧F x y
 | _,_,.nil,_,_,h=>by cases h
 | _,_,.cons r t,0,x,h=>by cases h;exact⟨ρ,r⟩
 | _,_,.cons r t,i+1,x,h=>Paired.getR t (i:=i) h
section
variable {o f:Expr}{tx:TE}
theorem pe_dsetd (ho:PE X o td)(he:PE X e ty)(hf:PE X f tx)(m:M2 X o "setdefault" apos e f cpos):PE X (.Call (.Attribute o "setdefault" apos) [e,f] [] cpos) (tDSetd td ty tx):=by
 intro aN s σ H Q I h;apply wpAny_Call_method m.base m.few m.line ke PySem.F.slot_dict_setdefault PySem.F.type_dict_setdefault (thn (ho aN s σ H _ I h) fun u s1 hz0=>?_);obtain ⟨x,H1,I1,rx,a,ex,d,q1⟩:=hz0;subst ex;obtain rfl:u=af.ref a:=rx;obtain ⟨t1,t2,_⟩:=qi I1 d;apply ⟨t1,t2,?_⟩;rw [m.trees];apply iu rfl (jT (jo (thn (he aN s1 σ H1 _ I1 q1) fun iv s2 ⟨y,H2,I2,ry,q2⟩ =>
  jo (thn (hf aN s2 σ H2 _ I2 q2) fun fv s3 ⟨z,H3,I3,rz,kvs,k,ea,ey,hl,q3,q4⟩=>Calls.spliced_nil ?_))))
 subst ey;exact d_setdef I3 ea ry rz hl (λv w' s4 l I4 rw'=>⟨v,H3,I4,rw',q3 v l⟩) λs4 l I4=>⟨z,_,I4,rz,q4 l⟩
end
section
variable {d:aq}{a b:HO}
theorem Inv.retold (I:Inv X aN σ H s)(hd:H d=some a)(n1:∀xs,a≠ .tup xs)(n2:∀c,a≠ .own c)(m1:∀xs,X.H₀ d≠some (.tup xs))(m2:∀o u,X.H₀ d≠some (.frz o u))(m3:∀ps,X.H₀ d≠some (.tbl ps))
  (new:iZ X.prog X.w (upd H d b) s.heap d b):Inv X aN σ (upd H d b) s:=by
 have nn:∀{c:aq},H c=none→(upd H d b) c=none:=λ{c} h=>by
  rw[aX (aR hd h).symm];exact h
 apply⟨I.ok,I.os,I.bare,⟨I.base.keep,I.base.slot,λc o e n hx=>nn (I.base.free c o e n hx),I.base.there,λc xs e=>?_,λc o u e=>?_,λc ps e=>?_⟩,I.loc,I.cell,nn I.free,λx c e=>nn (I.freeC x c e),λp hp=>?_,λc o e=>?_,I.len⟩
 ·by_cases z:c=d
  ·subst z;exact rQ e (m1 xs)
  ·rw[aX z];exact I.base.tups c xs e
 ·by_cases z:c=d
  ·subst z;exact rQ e (m2 o u)
  ·rw[aX z];exact I.base.frzs c o u e
 ·by_cases z:c=d
  ·subst z;exact rQ e (m3 ps)
  ·rw[aX z];exact I.base.tbls c ps e
 ·obtain⟨h1,h2,h3⟩:=I.pin p hp
  exact⟨h1,nn h2,h3⟩
 ·by_cases z:c=d
  ·subst z
   rw[aQ] at e;cases e;exact new
  ·rw[aX z] at e
   apply(I.hok c o e).stay (λ_ _ _ e=>e) (λb' e'=>?_) λb' xs e'=>?_
   ·rw[aX λz=>by subst z;rw[hd] at e';cases e';exact n2 _ rfl];exact e'
   ·rw[aX λz=>by subst z;rw[hd] at e';cases e';exact n1 _ rfl];exact e'
theorem dk_put (x:iZ P w H h d (.dK kvs)):iZ P w H' h d (.dK kvs):=x
end
def Itd (d:aq)(o:Obj)(kvs:List (Key×V)):It :=
 ⟨λi H=>H d=some (.frz o (.dK kvs))∧i<kvs.length,λi H x H'=>H'=H∧∃k,kvs[i]? =some (k,x),λi H=>H d=some (.frz o (.dK kvs))∧i=kvs.length⟩
theorem turn_vals (d it:aq)(o:Obj)(kvs:List (Key×V))(vs:List (Key×af))(ep:Nat)(rel:KV kvs vs)(dd:∀h:bM,h.get? d=some o→h.DictAt (hW P w) d vs ep) :
  Turn P w K tg (Itd d o kvs) [it] it (λi h=>h.IsValIter it d i vs.length ep) where
 mem:=by simp
 obj:=λi h st b hb=>by
  have e:b=it:=by simpa using hb
  subst e;obtain⟨o,e,c,d⟩:=st;exact⟨o,e,λv z=>by rw[d] at z;cases z⟩
 keep:=λi h h' st k=>by
  obtain⟨o,e,r⟩:=st;exact⟨o,k it ∅ o e,r⟩
 item:=by
  intro X hP hw hK hc i aN s σ H E I hf st hg;subst hP hw hK;obtain⟨hd,hi⟩:=hg;obtain⟨hg,_⟩:=(show iZ X.prog X.w H s.heap d (.frz o (.dK kvs)) from I.hok d _ hd);obtain⟨⟨k,v⟩,hx,rk⟩:=Paired.getR rel (gE hi);obtain⟨f0,f1,f2,f3,f4,f5⟩:=hf it ∅;apply wpAny_pyNext_values_item st (dd _ hg) hx λh' st' sb=>?_
  have I1:Inv X aN σ H { s with heap:=h' }:=I.turned (t':=s.toks) (λb o hb e=>(sb.2 b hb).trans e) f0 f1 f3 f4 f5;obtain⟨oi,e2,c,dt⟩:=id st';exact⟨v,rfl,go_of (s:={ s with heap:=h' }) e2 c dt ↥0 ⟨kvs[i].2,H,I1,rk.2,⟨rfl,kvs[i].1,gE hi⟩,st',λb hb=>(hf b hb).1⟩⟩
 done:=by
  intro X hP hw hK hc i aN s σ H E I hf st hg;subst hP hw hK;obtain⟨hd,hi⟩:=hg;obtain⟨hg,_⟩:=(show iZ X.prog X.w H s.heap d (.frz o (.dK kvs)) from I.hok d _ hd);obtain⟨f0,f1,f2,f3,f4,f5⟩:=hf it ∅;have hl:kvs.length=vs.length:=Paired.length rel;exact wpAny_pyNext_values_end (I.ok.hd hc) st (dd _ hg) (gb ⋯) λh' eb=>⟨rfl,I.turned (t':=s.toks) (λb o hb e=>eb b o hb e) f0 f1 f3 f4 f5⟩
 self:=λA i s Q E st h=>wpAny_pyIter_valiter st h
def iVals (td:TE):TI:=λσ H R=>td σ H λx H1=>∃d kvs,x= .ref d∧H1 d=some (.dK kvs)∧∀p ob,H1 p=none→R (Itd d ob kvs) (upd (upd H1 p (isVV p d)) d (.frz ob (.dK kvs)))
def Thw (H H':Hp)(Q:Hp→Prop):Prop:=∃d o kvs,H d=some (.dK kvs)∧H' d=some (.frz o (.dK kvs))∧Q (upd H' d (.dK kvs))
def tThawE (te:TE):TE:=λσ H Q=>te σ H λv H'=>Thw H H' (Q v)
def tThawS (t:TS):TS:=λD σ H=>t { D with nx:=λσ' H'=>Thw H H' (D.nx σ') } σ H
section
variable {σ':St}
theorem Inv.not0 (I:Inv X aN σ H s){d:aq}(e:H d=some (.dK kvs)):(∀xs,X.H₀ d≠some (.tup xs))∧(∀o u,X.H₀ d≠some (.frz o u))∧∀ps,X.H₀ d≠some (.tbl ps) :=
 ⟨(λxs z=>by have:=I.base.tups d xs z;rw[e] at this;cases this),(λo u z=>by have:=I.base.frzs d o u z;rw[e] at this;cases this),λps z=>by obtain⟨m,this⟩:=I.base.tbls d ps z;rw[e] at this;cases this⟩
theorem Thw.go {Q:Hp→Prop}(I:Inv X aN σ H s)(I':Inv X aN σ' H' s')(h:Thw H H' Q):∃H2,Inv X aN σ' H2 s'∧Q H2:=by
 obtain⟨d,o,kvs,e1,e2,q⟩:=h;obtain⟨n1,n2,n3⟩:=I.not0 e1;obtain⟨_,x⟩:=(show iZ X.prog X.w H' s'.heap d (.frz o (.dK kvs)) from I'.hok d _ e2);exact⟨_,I'.retold e2 (λ_ z=>by cases z) (λ_ z=>by cases z) n1 n2 n3 (dk_put x),q⟩
theorem pe_thaw (h:PE X e te):PE X e (tThawE te):=λaN s σ H Q I hw =>
 thn (h aN s σ H _ I hw) λu s' z=>by
  obtain⟨v,H',I',r,q⟩:=z;obtain⟨H2,I2,q2⟩:=q.go I I';exact⟨v,H2,I2,r,q2⟩
theorem ps_thaw {t:TS}(h:PS X st t):PS X st (tThawS t):=λaN s σ H D I hw =>
 thn (h aN s σ H _ I hw) λf s' z=>by
  cases f with
  | next =>
   obtain⟨σ',H',I',q⟩:=z;obtain⟨H2,I2,q2⟩:=q.go I I';exact⟨σ',H2,I2,q2⟩
  | brk=>exact z
  | cont=>exact z
  | ret u=>exact z
theorem qz {o:Expr}(ho:PE X o td)(m:M0 X o "values" apos cpos):PI X tg (.Call (.Attribute o "values" apos) [] [] cpos) (iVals td):=by
 intro aN s σ H R I h;apply wpAny_Call_method m.base m.few m.line ke PySem.F.slot_dict_values PySem.F.type_dict_values (thn (ho aN s σ H _ I h) λu s1 z=>?_);obtain⟨x,H1,I1,rx,d,kvs,ex,ea,q1⟩:=z;subst ex;obtain rfl:u=af.ref d:=rx;obtain⟨t1,t2,_⟩:=qi I1 (.inl ⟨kvs,.inl ea⟩);apply⟨t1,t2,?_⟩;rw[m.trees];obtain⟨zz,hd,vs,rel,dd⟩:=dk_of I1.hok ea;apply iu rfl (PySem.evalArgs_none ?_);apply call_meetsIn PySem.F.slot_dict_values dd.typeIs PySem.F.entry_dict_values (PySem.F.args_dict_values_1 _) (meets_dict_values (hW X.prog X.w) d hd) ⟨⟨vs,dd⟩,?_⟩;have hg:(s1.heap.push { cls:= .type "dict_values",data:= .fields #[.ref d] }).get? s1.heap.objs.size=some { cls:= .type "dict_values",data:= .fields #[.ref d] }:=aU _ rfl;have hv:(s1.heap.push { cls:= .type "dict_values",data:= .fields #[.ref d] }).IsValuesView s1.heap.objs.size d:=⟨_,hg,rfl,rfl⟩;have hp:=I1.fresh;have hq:=q1 s1.heap.objs.size;have I2:Inv X aN σ (upd H1 s1.heap.objs.size (isVV s1.heap.objs.size d)) { s1 with heap:=s1.heap.push { cls:= .type "dict_values",data:= .fields #[.ref d] } }:=I1.laid (t':=s1.toks) (o:=isVV s1.heap.objs.size d) (λ_ _ z=>au _ z) (aG _) ⟨hv,⟨_,hg⟩,λh1 h2 ⟨o,e,r⟩ k=>⟨o,k o e,r⟩⟩;generalize s1.heap.objs.size=p at hv hp hq I2 ⊢;generalize s1.heap.push { cls:= .type "dict_values",data:= .fields #[.ref d] }=h2 at hv I2 ⊢;have ea2:(upd H1 p (isVV p d)) d=some (.dK kvs):=by rw[aX (aR ea hp)];exact ea
 generalize upd H1 p (isVV p d)=H2 at I2 ea2 hq;obtain⟨n1,n2,n3⟩:=I2.not0 ea2;obtain⟨zz2,hd2,vs2,rel2,dd2⟩:=dk_of I2.hok ea2;obtain⟨ep,hat⟩:=dd2.dictAt;apply wpAny_pyIter_values (s:={ s1 with heap:=h2 }) hv hat ?_;have hok2:=I2.hok d _ ea2;obtain⟨ob,hob⟩:∃ob,h2.get? d=some ob:=let ⟨o,es,ho,_⟩:=hat;⟨o,ho⟩;have I3:=I2.retold (b:= .frz ob (.dK kvs)) ea2 (λ_ z=>by cases z) (λ_ z=>by cases z) n1 n2 n3 ⟨hob,dk_put hok2⟩;apply⟨h2.objs.size,[h2.objs.size],_,Itd d ob kvs,ρ,I3.kept (t':=s1.toks) λc o e=>au _ e,turn_vals d h2.objs.size ob kvs vs2 ep rel2 λh hh=>?_,⟨_,aU _ rfl,rfl,rfl⟩,λb hb=>?_,hq ob hp⟩
 ·obtain⟨o,es,ho,r⟩:=hat
  rw[hob] at ho;cases ho;exact⟨ob,es,hh,r⟩
 ·have e:b=h2.objs.size:=by simpa using hb
  subst e;exact I3.fpOk (aG _) (I3.hok.fresh (aG _))
end
theorem for_vals {d:aq}{o:Obj}{D:rM}(Pv:Nat→St→Hp→Prop)(h0:Pv 0 σ H)(hl:∀i σ H,i≤kvs.length→Pv i σ H→H d=some (.frz o (.dK kvs)))
  (hs:∀i k x σ H,kvs[i]? =some (k,x)→Pv i σ H→g x σ H λσ2 H2=>tb { D with nx:=Pv (i+1),ct:=Pv (i+1),bk:=D.nx } σ2 H2) (hd:∀σ H,Pv kvs.length σ H→D.nx σ H) :
  ∃W:Nat→Nat→St→Hp→Prop,(∃m,W 0 m σ H)∧∀i m σ H,W i m σ H →
   ((Itd d o kvs).stop i H∧D.nx σ H)∨((Itd d o kvs).go i H∧∃N:St→Hp→Prop,(∀σ' H',N σ' H'→∃m',m'<m∧W (i+1) m' σ' H')∧∀x H',(Itd d o kvs).yld i H x H'→g x σ H' λσ2 H2=>tb { D with nx:=N,ct:=N,bk:=D.nx } σ2 H2):=by
 apply⟨λi m σ H=>m=kvs.length - i∧i≤kvs.length∧Pv i σ H,⟨kvs.length,∅,cV _,h0⟩,?_⟩;rintro i m σ H ⟨rfl,hi,p⟩;have q:=hl i σ H hi p
 by_cases e:i=kvs.length
 ·subst e
  exact .inl ⟨⟨q,rfl⟩,hd σ H p⟩
 ·have hlt:i<kvs.length:=gd hi e
  apply .inr ⟨⟨q,hlt⟩,Pv (i+1),λσ' H' p'=>⟨kvs.length - (i+1),⋯,rfl,⋯,p'⟩,λx H' hy=>?_⟩;obtain⟨rfl,k,hx⟩:=hy;exact hs i k x σ _ hx p
theorem qU {d:aq}{o:Obj}{Q:VK}(Pv:Nat→List V→Hp→Prop)(h0:Pv 0 [] H)(hl:∀i ys H,i≤kvs.length→Pv i ys H→H d=some (.frz o (.dK kvs))∧ys.length≤i)(hz:kvs.length≤az)
  (hs:∀i k x ys H,kvs[i]? =some (k,x)→Pv i ys H→tt (some x::iG σ js) H λb H4=>if b=true then te (some x::iG σ js) H4 λy H5=>Pv (i+1) (ys++[y]) H5 else Pv (i+1) ys H4)
  (hd:∀ys H,Pv kvs.length ys H→∀D,H D=none→Q (.ref D) (upd H D (.lst ys))):CompW js tt te σ Q (Itd d o kvs) H:=by
 apply⟨λi m ys H=>i≤kvs.length∧m=kvs.length - i∧Pv i ys H,⟨_,cV _,rfl,h0⟩,λi m ys H2 z=>?_⟩;obtain⟨hi,hm,hp⟩:=z;obtain⟨hq,hy⟩:=hl i ys H2 hi hp
 by_cases e:i=kvs.length
 ·subst e
  exact .inl ⟨⟨hq,rfl⟩,hd ys H2 hp⟩
 ·have hlt:i<kvs.length:=gd hi e
  apply .inr ⟨⟨hq,hlt⟩,⋯,Pv (i+1),λys' H' hp'=>⟨kvs.length - (i+1),⋯,⋯,rfl,hp'⟩,λv H3 hy3=>?_⟩;obtain⟨e3,k,hx⟩:=hy3;subst e3;exact hs i k v ys _ hx hp
end L2
namespace HN
open PySem L2 PyProof.Rows HT2
abbrev sOwnL:c8:=clsOf cLin 4
theorem mn {H H':Hp}{L:aq}{xs:List V}:∀{vs:List V} {sp:List Sn},jG H vs (sp.map snD)→(∀c o,c≠L→H c=some o→H' c=some o)→H L=some (.lst xs)→jG H' vs (sp.map snD)
 | _,[],.nil,_,_=> .nil
 | _,x::sp,.cons h r,k,hL=>by
  obtain⟨a,zs,rfl,ha,rz⟩:=h.tup_of;have ez:=jG.ints_of rz;subst ez;exact .cons (.tup (k _ _ (eN ha hL nofun) ha) (jG.ints _)) (mn r k hL)
theorem snD_at {x:Sn}(h:H p=some (.tup [.int x.s,.int x.g,.int x.l,.int x.o,.int x.w])):IsD H (.ref p) (snD x):= .tup h (jG.ints x.row)
theorem scOwnL:cI ["self","spans","here","there","run"] pzb (defScope sOwnL):=by trivial
theorem ok_ownL {fr:aq}(F:Fun K "own_spans" "Line.own_spans" sOwnL f fd)(hz:mg "zip" =none)(U:Unt K mg)(CK:LinK P w K mg base C fc fg fr dc dg dr):‹0› 2 f fd pzb (spOwn C):=by
 specialize F.ok scOwnL;obtain ⟨x,D,l,rfl,A0,k⟩:=h;obtain ⟨tu,hU,uU⟩:=U.ex;have CC:=CK.cc;have u1:=jA (jf (show 1≤64 by decide) _) hr.units;apply ⟨_,PSl.h (bo ⟨(psZ 1 scOwnL.nd (kF aA))⟩ (bo ⟨(jg cf rfl (pi_zip3 rfl hz (ah (eW (pv 0) rfl) (ah (fe mF (eW (pv 0) rfl) (fV aO) gW) (ah (eW (pv 0) rfl) aA)))) (qA rfl (iW (pgZ 2 scOwnL.nd) (iW (pgZ 3 scOwnL.nd) (iW (pgZ 4 scOwnL.nd) oh))))
  (PSl.h (bo ⟨(hV (jR bB bK bJ gH (pv 1) (ah (jc (ah (eU (pv 0) CK.cc.cl CK.m2 CK.f2 (hr.mono ↥0) CK.b2 .nil g9 (ah (pv 2) aA)) (ah (eU (pv 0) CK.cc.cl CK.m1 CK.f1 (hr.mono ↥0) CK.b1 .nil g9 (ah (pv 3) aA)) (ah (pv 4) (ah (pv 4) (ah aO aA)))))) aA)))⟩
   (gc ⟨(fG (bQ rb (pv 3) (fj ix_tup (eW (pv 0) rfl) (pe_un rg aO) (fun _ _=>rfl)) (cw _)) (bE (hV (jR bB bK bJ gH (pv 1) (ah (cH op_catT (jc (ah (eU (pv 0) CK.cc.cl CK.m1 CK.f1 (hr.mono ↥0) CK.b1 .nil g9 (ah (pv 3) aA)) (ah (eU (pv 0) CK.cc.cl CK.m2 CK.f2 (hr.mono ↥0) CK.b2 .nil g9 (ah (pv 3) aA)) aA))) (pe_dget2 u1 (eW (pv 0) rfl) (pv 3) (pA (v:= .ref tu) rfl hU rfl) ⟨rfl,rfl,rfl,rfl⟩)) aA)))) cF)⟩))))⟩ (gc ⟨(bR (pv 1))⟩))),?_⟩
 try dsimp only [cxK]
 obtain⟨n,ss,rs,st,fi⟩:=l;obtain⟨dx,a,b,hx,ha,hb⟩:=A0.d;have nd:ss.Nodup:=A0.nd;have two:2≤ss.length:=A0.two;have few:ss.length≤1000:=A0.few;have rl:ss.length=rs.length+1:=A0.rl;have hls:(ss.map V.str).length=ss.length:=ae _;have e1:HT.sIx (ss.map V.str).length 0 (some 1)=1:=by
  rw[hls];have:=HT.sIx_nat ss.length 0 1;rw[eh ⋯] at this;exact this
 apply⟨(by show 0≤az;decide),λL hLn=>?_⟩;have S0:cb H (upd H L (.lst [])):=cb.put (cb.refl H) hLn;have hL:(upd H L (.lst [])) L=some (.lst []):=aQ;generalize upd H L (.lst [])=H0 at S0 hL ⊢;have S0x:=S0 _ _ hx;apply⟨ρ,x,C,dx,_,ρ,S0x,CC.cl,CC.n2,rfl,ρ,x,C,dx,_,ρ,S0x,CC.cl,CC.n2,rfl,ρ,a,ρ,SqT.of (S0 _ _ ha),?_,λp H1 S1 e=>?_⟩
 ·rw[e1]
  intro q;exact rQ q.1 ↥0
 rw[cutF (i:=1) (n:=1) rfl,←gx] at e;have hL1:=S1 _ _ hL;have ha1:=S1 _ _ (S0 _ _ ha);have hb1:=S1 _ _ (S0 _ _ hb);have hx1:=S1 _ _ S0x;have A1:=(A0.same S0).same S1;apply⟨ρ,x,C,dx,_,ρ,hx1,CC.cl,CC.n3,rfl,⟨false,a⟩,⟨false,p⟩,⟨false,b⟩,_,_,ρ,ha1,e,hb1,?_⟩;have lD:(ss.drop 1).length=rs.length:=by rw[bD];lia
 let pZ1:Nat→L2.St→L2.Hp→Prop:=λi σ H2=>(∀c o,c≠L→H1 c=some o→H2 c=some o)∧(∃ys:List V,H2 L=some (.lst ys)∧jG H2 ys ((ownN ⟨n,ss,rs,st,fi⟩ i).map snD))∧∃v2 v3 v4,σ=[some (.ref x),some (.ref L),v2,v3,v4]
 apply for_zipB3 (c1:=⟨false,a⟩) (c2:=⟨false,p⟩) (c3:=⟨false,b⟩) (xs:=ss.map V.str) (ys:=(ss.drop 1).map V.str) (zs:=rs.map V.int) pZ1
  ⟨λc o _ h=>h,⟨[],hL1,.nil⟩,none,none,none,rfl⟩ (λi σ H2 _ q=>⟨q.1 _ _ (eN ha1 hL1 nofun) ha1,q.1 _ _ (eN e hL1 nofun) e,q.1 _ _ (eN hb1 hL1 nofun) hb1⟩) (by rw[ae,ae,lD];lia) (by rw[ae,ae,lD]) ?_ ?_
 ·rintro i x1 x2 x3 q σ H2 h1 h2 h3 ⟨k2,⟨ys,hL2,hm⟩,v2,v3,v4,rfl⟩ hq
  rw[aC] at h1 h2 h3;obtain⟨u1,g1,rfl⟩:=aV.mp h1;obtain⟨u2,g2,rfl⟩:=aV.mp h2;obtain⟨r,g3,rfl⟩:=aV.mp h3;rw[dv,Nat.add_comm] at g2;have li:i+1<ss.length:=(ai.mp g2).1;have big:(100000:Nat)≤az:=by decide
  have ly:ys.length≤2 * i:=by
   have:=hm.length;rw[ae] at this;rw[this];exact ownN_len _ _
  have S6:cb H2 (upd H2 q (.tup [.str u1,.str u2,.int r])):=cb.put (cb.refl H2) hq;have h6:(upd H2 q (.tup [.str u1,.str u2,.int r])) q=some (.tup [.str u1,.str u2,.int r]):=aQ;generalize upd H2 q (.tup [.str u1,.str u2,.int r])=H6 at S6 h6 ⊢;have A2:LnA H2 C x D ⟨n,ss,rs,st,fi⟩:=by
   obtain⟨kvs,d1,_⟩:=A1.s.ex;apply A1.kept (λb xs e=>k2 _ _ (eN e hL1 nofun) e) (λb C dx fs e=>k2 _ _ (eN e hL1 nofun) e) ((k2 _ _ (eN d1 hL1 nofun) d1).trans d1.symm)
  have A6:=A2.same S6;apply⟨q,ρ,SqT.of h6,rfl,_,ρ,_,ρ,ς,?_⟩;have hL6:=S6 _ _ hL2;obtain⟨dx6,a6,b6,hx6,_⟩:=id A6.d;apply⟨ρ,.inl ⟨rfl,_,SqL.of hL6⟩,ρ,x,dx6,ρ,hx6,rfl,ρ,x,D,n,u1,ss,rs,fi,rfl,A6.d,few,two,nd,λH7 S7=>⟨λi' a1 a2=>?_,λno=>rQ (no i g1) ⋯⟩⟩;obtain rfl:=(kH nd g1 a1).symm;have A7:=A6.same S7;obtain⟨dx7,a7,b7,hx7,_⟩:=id A7.d;apply⟨ρ,x,dx7,ρ,hx7,rfl,ρ,x,D,n,u2,ss,rs,fi,rfl,A7.d,few,two,nd,λH8 S8=>⟨λj a1 a2=>?_,λno=>rQ (no _ g2) ⋯⟩⟩;obtain rfl:=(kH nd g2 a1).symm;apply⟨ρ,ρ,szZ5,λp1 H9 S9 e9=>?_⟩;have A9:=(A7.same S8).same S9;have S29:cb H2 H9:=S6.trans (S7.trans (S8.trans S9));have hL9:=S29 _ _ hL2;have hm9:=jG.same S29 hm;apply⟨L,ς,hL9,⋯,?_⟩;have k9:∀c o,c≠L→H9 c=some o→(upd H9 L (.lst (ys++[.ref p1]))) c=some o:=λc o hc h=>by rw[aX hc];exact h
  have hLa:(upd H9 L (.lst (ys++[.ref p1]))) L=some (.lst (ys++[.ref p1])):=aQ;generalize upd H9 L (.lst (ys++[.ref p1]))=Ha at k9 hLa ⊢;have p1L:p1≠L:=eN e9 hL9 nofun;have d1:IsD Ha (.ref p1) (snD ⟨fi+2 * i,fi+2 * i+1,r,r,0⟩):=snD_at (x:=⟨fi+2 * i,fi+2 * i+1,r,r,0⟩) (by
   have:=k9 _ _ p1L e9;rw [this];show some (HO.tup [.int (fi+2 * (i:Nat)),.int (fi+2 * ((i+1:Nat):Int) - 1),_,_,_])=_;rw [show fi+2 * ((i+1:Nat):Int) - 1=fi+2 * (i:Nat)+1 by lia])
  have da:jG Ha (ys++[.ref p1]) ((ownN ⟨n,ss,rs,st,fi⟩ i).map snD++[snD ⟨fi+2 * i,fi+2 * i+1,r,r,0⟩]):=(mn hm9 k9 hL9).append (jG.one d1);have Aa:LnA Ha C x D ⟨n,ss,rs,st,fi⟩:=by
   obtain⟨kvs,d1,_⟩:=A9.s.ex;exact A9.kept (λb xs e=>k9 _ _ (eN e hL9 nofun) e) (λb C dx fs e=>k9 _ _ (eN e hL9 nofun) e) ((k9 _ _ (eN d1 hL9 nofun) d1).trans d1.symm)
  have ka:∀c o,c≠L→H1 c=some o→Ha c=some o:=λc o hc h=>k9 _ _ hc (S29 _ _ (k2 _ _ hc h))
  have er:rs.getD i 0=r:=by rw[cM,g3];rfl
  obtain⟨dxa,aa,ba,hxa,haa,hba⟩:=id Aa.d;obtain⟨z,hzl⟩:∃z,ss[ss.length - 1]? =some z:=⟨_,gE ⋯⟩;apply⟨ρ,ρ,x,C,dxa,_,ρ,hxa,CC.cl,CC.n2,rfl,⟨1,rfl,aa,τ,SqT.of haa,HN.atI_last (by rw[ae,aC,hzl];rfl),rfl,ρ,?_⟩⟩;have es:ss.getD (i+1) gU=u2:=by rw[cM,g2];rfl
  apply kJ (λhc=>?_) (λhc=>?_)
  ·have nl:i+2<ss.length:=by
    rcases Nat.lt_or_ge (i+2) ss.length with q | q
    ·exact q
    ·have:i+1=ss.length - 1:=by lia
     rw[this,hzl] at g2;cases g2;exact rQ hc ∅
   apply⟨ρ,.inl ⟨rfl,_,SqL.of hLa⟩,ρ,x,dxa,ρ,hxa,rfl,ρ,x,D,n,u2,ss,rs,fi,rfl,Aa.d,few,two,nd,λHb Sb=>⟨λj a1 a2=>?_,λno=>rQ (no _ g2) ⋯⟩⟩;obtain rfl:=(kH nd g2 a1).symm;have Ab:=Aa.same Sb;obtain⟨dxb,ab,bb,hxb,_⟩:=id Ab.d;apply⟨ρ,x,dxb,ρ,hxb,rfl,ρ,x,D,n,u2,ss,rs,fi,rfl,Ab.d,few,two,nd,λHc Sc=>⟨λj a1 a2=>?_,λno=>rQ (no _ g2) ⋯⟩⟩;obtain rfl:=(kH nd g2 a1).symm;apply⟨szZ2,λp2 Hd Sd ed=>?_⟩;have Ad:=(Ab.same Sc).same Sd;have Sad:cb Ha Hd:=Sb.trans (Sc.trans Sd);obtain⟨dxd,ad,bd,hxd,_⟩:=id Ad.d;obtain⟨kvs,hD,_,hst⟩:=Ad.s.ex;apply⟨ρ,x,C,dxd,_,ρ,hxd,CC.cl,CC.n4,rfl,D,rfl,.inl ⟨kvs,.inl hD⟩,ρ,_,.inl ⟨kvs,.inr u2,.inl hD,rfl,rfl⟩,?_⟩;obtain⟨t,et,hT⟩:∃t,(me kvs (.inr u2)).getD (.ref tu)= .ref t∧SqT K Hd t [.int (sty st u2).1,.int (sty st u2).2.1,.int (sty st u2).2.2]:=by
    cases hv:me kvs (.inr u2) with
    | none =>
     have:=((hst u2).2.1 hv).1;exact⟨tu,rfl,by rw[show sty st u2=(0,0,0) from this];exact uU _⟩
    | some v =>
     obtain⟨t,rfl,q⟩:=(hst u2).1 v hv;exact⟨t,rfl,SqT.of q⟩
   apply⟨p2,t,_,ρ,et,SqT.of ed,hT,∅,szZ5,λz=>rQ z ∅,λ_ p3 hp3=>?_⟩;have hLd:=Sad _ _ hLa;have S3:cb Hd (upd Hd p3 (.tup ([.int (fi+2 * ((i+1:Nat):Int) - 1),.int (fi+2 * ((i+1:Nat):Int))]++[.int (sty st u2).1,.int (sty st u2).2.1,.int (sty st u2).2.2]))):=cb.put (cb.refl _) hp3;have e3:(upd Hd p3 (.tup ([.int (fi+2 * ((i+1:Nat):Int) - 1),.int (fi+2 * ((i+1:Nat):Int))]++[.int (sty st u2).1,.int (sty st u2).2.1,.int (sty st u2).2.2]))) p3=some (.tup [.int (fi+2 * i+1),.int (fi+2 * i+2),.int (sty st u2).1,.int (sty st u2).2.1,.int (sty st u2).2.2]):=by
    rw[aQ,show fi+2 * ((i+1:Nat):Int) - 1=fi+2 * (i:Nat)+1 by lia,show fi+2 * ((i+1:Nat):Int)=fi+2 * (i:Nat)+2 by lia];rfl
   apply⟨L,ys++[.ref p1],ρ,rfl,S3 _ _ hLd,(by rw[ao];show ys.length+1<az;lia),?_⟩;generalize upd Hd p3 (.tup ([.int (fi+2 * ((i+1:Nat):Int) - 1),.int (fi+2 * ((i+1:Nat):Int))]++[.int (sty st u2).1,.int (sty st u2).2.1,.int (sty st u2).2.2]))=He at S3 e3 ⊢;have hLe:=S3 _ _ hLd;have kf:∀c o,c≠L→He c=some o→(upd He L (.lst (ys++[.ref p1]++[.ref p3]))) c=some o:=λc o hc h=>by rw[aX hc];exact h
   have p3L:p3≠L:=eN e3 hLe nofun;have d3:=snD_at (x:=⟨fi+2 * i+1,fi+2 * i+2,(sty st u2).1,(sty st u2).2.1,(sty st u2).2.2⟩) (kf _ _ p3L e3);have df:=(mn (sp:=ownN ⟨n,ss,rs,st,fi⟩ i++[⟨fi+2 * i,fi+2 * i+1,r,r,0⟩]) (jG.same (Sad.trans S3) (by rw[aw];exact da)) kf hLe).append (jG.one d3);apply⟨λc o hc h=>kf _ _ hc (S3 _ _ (Sad _ _ (ka _ _ hc h))),⟨_,aQ,?_⟩,_,_,ρ⟩;rw[mZ];unfold stp;simp only[er,es];rw[rP nl,aw];rw[aw] at df;apply Eq.mp (rV _ ?_) df;rw[dA];rfl
  ·have nl:¬ i+2<ss.length:=fun q=>hc (by
    show(!decide (V.str u2=V.str z))=true;rw[Bool.not_eq_true'];apply rS λe=>?_
    injection e with e
    subst e;have:=kH nd hzl g2;lia)
   apply⟨ka,⟨_,hLa,?_⟩,_,_,ρ⟩;rw[mZ];unfold stp;simp only[er];rw[rO nl,aw];exact da
 ·rintro σ H2 ⟨k2,⟨ys,hL2,hm⟩,v2,v3,v4,rfl⟩
  apply⟨ρ,k L ys H2 (λc o h=>k2 c o ?_ (S1 _ _ (S0 _ _ h))) hLn hL2 ?_⟩
  ·intro z;rw[z,hLn] at h;cases h
  ·rw[ae,lD] at hm;exact hm
abbrev cPla:c8:=top 77
abbrev sInitP:c8:=clsOf cPla 0
abbrev sHap:c8:=clsOf cPla 1
abbrev sAllS:c8:=clsOf cPla 2
abbrev sAllL:c8:=clsOf cPla 3
abbrev sSmall:c8:=clsOf cPla 4
structure PlaC (K:ak)(C:aq):Prop where
 cl:Cls K C
 n1:kK K C "beat"
 n2:kK K C "lines"
 n3:kK K C "between"
abbrev LX:=Ln×aq×aq
def k7 (zs:List LX):List (Key×V):=zs.map λz=>(.inr z.1.n,.ref z.2.1)
abbrev plF (b:Int)(DL LB:aq):List (Str×V):=[("beat",.int b),("lines",.ref DL),("between",.ref LB)]
structure PlI (CP CL:aq)(H0 H:Hp)(p:aq)(b:Int)(zs:List LX)(bt:List Sn)(DL LB:aq):Prop where
 S:cb H0 H
 pl:∃dp,H p=some (.ins CP dp (plF b DL LB))
 nL:H0 DL=none
 nB:H0 LB=none
 nD:∀z∈zs,H0 z.2.2=none
 dl:H DL=some (.dK (k7 zs))
 ln:∀z∈zs,LnA H CL z.2.1 z.2.2 z.1
 nd:(DL::zs.map (·.2.2)).Nodup
 nn:(zs.map (·.1.n)).Nodup
 lb:∃ys,H LB=some (.lst ys)∧jG H ys (bt.map snD)
theorem PlI.same {zs:List LX}{DL LB:aq}(I:PlI CP CL H0 H p b zs bt DL LB)(S:cb H H'):PlI CP CL H0 H' p b zs bt DL LB:=by
 obtain⟨dp,h1⟩:=I.pl;obtain⟨ys,h2,h3⟩:=I.lb;exact⟨I.S.trans S,⟨dp,S _ _ h1⟩,I.nL,I.nB,I.nD,S _ _ I.dl,λz hz=>(I.ln z hz).same S,I.nd,I.nn,ys,S _ _ h2,jG.same S h3⟩
def mU (zs:List LX):Int:=(zs.map λz=>2 * (z.1.rs.length:Int)).sum
def allS (zs:List LX)(bt:List Sn):List Sn:=zs.flatMap (λz=>ownS z.1)++bt
def allL (zs:List LX):List (List V):=zs.flatMap λz=>labs z.1.n z.1.ss
structure Few (zs:List LX)(bt:List Sn):Prop where
 a:zs.length≤100
 b:bt.length≤100
inductive spInitP (C:aq)(vs:List V)(H:Hp)(Q:VK)(_:XK):Prop
 | mk (x dx:aq)(b:Int)(_:vs=[.ref x,.int b])(_:H x=some (.ins C dx []))(_:∀(DL LB:aq) (H':Hp),(∀c o,c≠x→H c=some o→H' c=some o)→H DL=none→H LB=none→DL≠LB→H' DL=some (.dK [])→H' LB=some (.lst [])→H' x=some (.ins C dx (plF b DL LB))→Q .non H')
inductive spHap (CP CL:aq)(vs:List V)(H:Hp)(Q:VK)(_:XK):Prop
 | mk (H0:Hp)(p DL LB:aq)(b:Int)(zs:List LX)(bt:List Sn)(_:vs=[.ref p])(_:PlI CP CL H0 H p b zs bt DL LB)(_:Few zs bt)(_:∀H',cb H H'→Q (.int (mU zs)) H')
inductive spAllS (CP CL:aq)(vs:List V)(H:Hp)(Q:VK)(_:XK):Prop
 | mk (H0:Hp)(p DL LB:aq)(b:Int)(zs:List LX)(bt:List Sn)(_:vs=[.ref p])(_:PlI CP CL H0 H p b zs bt DL LB)(_:Few zs bt)(_:∀(L:aq) (ys:List V) (H':Hp),cb H H'→H L=none→H' L=some (.lst ys)→jG H' ys ((allS zs bt).map snD)→Q (.ref L) H')
inductive spAllL (CP CL:aq)(vs:List V)(H:Hp)(Q:VK)(_:XK):Prop
 | mk (H0:Hp)(p DL LB:aq)(b:Int)(zs:List LX)(bt:List Sn)(_:vs=[.ref p])(_:PlI CP CL H0 H p b zs bt DL LB)(_:Few zs bt)(_:∀(L:aq) (as:List aq) (H':Hp),cb H H'→H L=none→H' L=some (.lst (as.map V.ref))→as.map H'=(allL zs).map (λt=>some (HO.tup t))→Q (.ref L) H')
inductive spSmall (CP CL:aq)(vs:List V)(H:Hp)(Q:VK)(_:XK):Prop
 | mk (H0:Hp)(p DL LB:aq)(b:Int)(zs:List LX)(bt:List Sn)(_:vs=[.ref p])(_:PlI CP CL H0 H p b zs bt DL LB)(_:Few zs bt)(_:∀H',cb H H'→Q (.bl (decide (mU zs≤16) && decide ((allS zs bt).length≤40))) H')
theorem lE {H3:Hp}{d pv:aq}{u:HO}(hp:H pv=none)(S:cb (upd (upd H pv u) d (.frz ob (.dK kvs))) H3):∀c o,c≠d→H c=some o→H3 c=some o:=λc o hc e =>
 S c o (by rw[aX hc,aX (aR e hp)];exact e)
theorem qk {H3:Hp}{d pv:aq}{u:HO}{ob:Obj}(hd:H d=some (.dK kvs))(k:∀c o,c≠d→H c=some o→H3 c=some o):cb H (upd H3 d (.dK kvs)):=λc o e=>by
 by_cases z:c=d
 ·subst z;rw[hd] at e;rw[aQ];exact e
 ·rw[aX z];exact k c o z e
theorem fldK (K:ak){f:Str}(he:PE X e ta)(hb:ia e f X.env (dY e X.env)=dY e X.env)(hK:autoParam (X.K=K) L2.au0._auto_1):PE X (.Attribute e f pos) (tFld K ta f):=by subst hK;exact eW he hb
theorem lenK (K:ak)(hK:autoParam (X.K=K) L2.au0._auto_1):jU X (.builtin "len") (λxs H Q=>∃p ys,xs=[.ref p]∧(SqL K H p ys∨SqT K H p ys)∧Q (.int ys.length) H):=by subst hK;exact cA
theorem scInitP:cI pzr pzr (defScope sInitP):=by trivial
theorem ok_initP (F:Fun K "__init__" "Plan.__init__" sInitP f fd)(CC:PlaC K C):‹0› 1 f fd pzr (spInitP C):=by
 specialize F.ok scInitP;obtain⟨x,dx,b,rfl,hx,k⟩:=h;apply⟨_,dw (pP (pv 0) (pv 1) rfl) (dw (pP (pv 0) pe_dnewK rfl) (bE (pP (pv 0) (kF aA) rfl))),?_⟩
 try dsimp only [cxK]
 apply⟨ρ,ρ,x,C,dx,ρ,hx,CC.cl,CC.n1,↥0,?_⟩;apply λD hD=>⟨ρ,x,C,dx,ρ,(by rw[aX (aR aQ hD)];exact aQ),CC.cl,CC.n2,(by show 1<1000;decide),?_⟩
 have xD:x≠D:=aR aQ hD;apply⟨(by show 0≤az;decide),λL hL=>⟨ρ,x,C,dx,[("beat",.int b),("lines",.ref D)],rfl,?_,CC.cl,CC.n3,(by show 2<1000;decide),?_⟩⟩
 ·rw[aX (aR aQ hL)];exact aQ
 have xL:x≠L:=aR aQ hL;have DL:D≠L:=aR (H:=upd (upd (upd H x (.ins C dx (q0 "beat" (.int b) []))) D (.dK [])) x (.ins C dx (q0 "lines" (.ref D) (q0 "beat" (.int b) [])))) (o:= .dK []) (by rw[aX (cQ xD),aQ]) hL;rw[aX (cQ xD)] at hD;rw[aX (cQ xL),aX (cQ DL),aX (cQ xL)] at hL;apply k D L _ (λc o hc e=>?_) hD hL DL ?_ ?_ aQ
 ·rw[aX hc,aX (aR e hL),aX hc,aX (aR e hD),aX hc];exact e
 ·rw[aX (cQ xD),aX DL,aX (cQ xD),aQ]
 ·rw[aX (cQ xL),aQ]
theorem scHap:cI pzb pzb (defScope sHap):=by trivial
theorem ok_hap (F:Fun K "happenings" "Plan.happenings" sHap f fd)(T:Nm mg)(T2:Nt mg)(CC:PlaC K C)(LC:LinC K CL):‹0› 1 f fd pzb (spHap C CL):=by
 specialize F.ok scHap;obtain⟨H0,p,DL,LB,b,zs,bt,rfl,I,fw,k⟩:=h;apply⟨_,bE (bR (cu (call_sum rfl) rfl T2.sum boot_sum (ah (pe_thaw (kL (fr:=[]) (js:=[]) rfl (qz (eW (pv 0) rfl) ⟨rfl,rfl,rfl,rfl⟩) ⇑0 rfl ⇑0 rfl (by exists sHap) ⇑0 rfl ⇑0 (λ_ _ _ _ _=>⟨(cH kG aO (cu (lenK K) rfl T.len bp (ah (fldK K (pv 0) rfl) aA))),kh⟩))) aA))),?_⟩
 try dsimp only [cxK]
 obtain⟨dp,hp⟩:=I.pl;apply⟨ρ,p,C,dp,_,ρ,hp,CC.cl,CC.n2,rfl,DL,ρ,I.dl,λpv ob hpv=>?_⟩;have lz:(k7 zs).length=zs.length:=ae _;have big:(100000:Nat)≤az:=by decide
 have f1:=fw.a
 let pZ1:Nat→List L2.V→L2.Hp→Prop:=λi ys H2=>cb (upd (upd H pv (isVV pv DL)) DL (.frz ob (.dK (k7 zs)))) H2∧ys=(zs.take i).map λz=>V.int (2 * (z.1.rs.length:Int))
 apply qU pZ1 ⟨cb.refl _,rfl⟩ (λi ys H2 hi q=>⟨q.1 _ _ aQ,by rw[q.2,ae,aL];lia⟩) ⋯ (λi kk x ys H2 hx q=>?_) (λys H3 q D hD=>?_)
 ·obtain⟨S2,ey⟩:=q
  unfold k7 at hx;rw[aC] at hx;obtain⟨z,hz,e⟩:=aV.mp hx;cases e;have L:=I.ln z (aD hz);obtain⟨dx,a,bb,h1,h2,h3⟩:=L.d;have kk:=lE hpv S2;have h1':=kk _ _ (eN h1 I.dl nofun) h1;have h3':=kk _ _ (eN h3 I.dl nofun) h3;apply jq ?_;apply⟨ρ,z.2.1,CL,dx,_,ρ,h1',LC.cl,LC.n3,rfl,bb,ρ,.inr (SqT.of h3'),ς,.inl ⟨↥0,↥0⟩,S2,?_⟩;rw[ey,bG,hz,aw,ae];rfl
 ·obtain⟨S3,ey⟩:=q
  rw[lz,bO] at ey;have hD3:=S3 _ _ aQ;have hDD:DL≠D:=aR hD3 hD;have e5:(upd (upd H3 D (.lst ys)) DL (.dK (k7 zs))) D=some (.lst ((zs.map λz:LX=>2 * (z.1.rs.length:Int)).map V.int)):=by rw[aX (cQ hDD),aQ,ey,bf];rfl
  apply⟨DL,ob,k7 zs,I.dl,(by rw[aX hDD];exact hD3),D,ρ,SqL.of e5,k _ (qk (u:=isVV pv DL) (ob:=ob) (pv:=pv) I.dl λc o hc e=>?_)⟩;have:=lE hpv S3 c o hc e;rw[aX (aR this hD)];exact this
structure LinQ (P:aK)(w:bg)(K:ak)(mg:Str→Option af)(base:bM)(C:aq)(fo fl:aq)(d1 d2:aT):Prop where
 m4:pN K C "own_spans" fo
 f4:‹0› 2 fo d1 pzb (spOwn C)
 b4:Binds K d1 pzb []
 m5:pN K C "own_labels" fl
 f5:‹0› 1 fl d2 pzb (spLabL C)
 b5:Binds K d2 pzb []
theorem labs_len (n:Str):∀ss:List Str,(labs n ss).length≤2 * ss.length
 | []=>by simp[labs]
 | [_]=>by simp[labs]
 | _::t::r=>by
  have:=labs_len n (t::r);show(labs n (t::r)).length+2≤_;simp only[av] at this ⊢;lia
theorem take_flat {β:Type}(f:α→List β){zs:List α}{z:α}(h:zs[i]? =some z):(zs.take (i+1)).flatMap f=(zs.take i).flatMap f++f z:=by
 rw[bG,h,List.flatMap_append];simp
theorem scAllS:cI ["self","spans","line"] pzb (defScope sAllS):=by trivial
theorem ok_allS {fo fl:aq}(F:Fun K "all_spans" "Plan.all_spans" sAllS f fd)(CC:PlaC K C)(LC:LinC K CL)(LQ:LinQ P w K mg base CL fo fl d1 d2):‹0› 3 f fd pzb (spAllS C CL):=by
 specialize F.ok scAllS;obtain ⟨H0,p,DL,LB,b,zs,bt,rfl,I,fw,k⟩:=h;apply ⟨_,PSl.h (bo ⟨(psZ 1 scAllS.nd (kF aA))⟩ (bo ⟨ps_thaw (jg cf rfl (qz (eW (pv 0) rfl) ⟨rfl,rfl,rfl,rfl⟩) (pgZ 2 scAllS.nd) (bE (hV (jR bB PySem.F.slot_list_extend PySem.F.type_list_extend mt_extend (pv 1) (ah (jd (pv 2) LC.cl LQ.m4 LQ.f4 hr LQ.b4 .nil g9) aA)))))⟩
  (gc ⟨(bR (cH op_cat (pv 1) (eW (pv 0) rfl)))⟩))),?_⟩
 try dsimp only [cxK]
 have lz:(k7 zs).length=zs.length:=ae _;have big:(1000000:Nat)≤az:=by decide
 have f1:=fw.a;have f2:=fw.b;apply⟨(by show 0≤az;decide),λL hLn=>?_⟩;have S0:cb H (upd H L (.lst [])):=cb.put (cb.refl H) hLn;have hL:(upd H L (.lst [])) L=some (.lst []):=aQ;generalize upd H L (.lst [])=H1 at S0 hL ⊢;have I1:=I.same S0;obtain⟨dp,hp⟩:=I1.pl;apply⟨ρ,p,C,dp,_,ρ,hp,CC.cl,CC.n2,rfl,DL,ρ,I1.dl,λpv ob hpv=>?_⟩;have LDL:L≠DL:=eN hL I1.dl nofun;have hLf:(upd (upd H1 pv (isVV pv DL)) DL (.frz ob (.dK (k7 zs)))) L=some (.lst []):=by rw[aX LDL,aX (aR hL hpv)];exact hL
 have kf:∀c o,c≠DL→H1 c=some o→(upd (upd H1 pv (isVV pv DL)) DL (.frz ob (.dK (k7 zs)))) c=some o:=lE hpv (cb.refl _);have hDf:(upd (upd H1 pv (isVV pv DL)) DL (.frz ob (.dK (k7 zs)))) DL=some (.frz ob (.dK (k7 zs))):=aQ;generalize upd (upd H1 pv (isVV pv DL)) DL (.frz ob (.dK (k7 zs)))=Hf at hLf kf hDf ⊢;have Lf:∀z∈zs,LnA Hf CL z.2.1 z.2.2 z.1:=λz hz=>by
  have A:=I1.ln z hz;obtain⟨kvs,d1,_⟩:=A.s.ex;have nz:z.2.2≠DL:=λe=>(bP.mp I1.nd).1 (aI.mpr ⟨z,hz,e⟩)
  exact A.kept (λb xs e=>kf _ _ (eN e I1.dl nofun) e) (λb C dx fs e=>kf _ _ (eN e I1.dl nofun) e) ((kf _ _ nz d1).trans d1.symm)
 let pZ1:Nat→L2.St→L2.Hp→Prop:=λi σ H2=>(∀c o,c≠L→Hf c=some o→H2 c=some o)∧(∃ys:List V,ys.length≤2000 * i∧H2 L=some (.lst ys)∧jG H2 ys (((zs.take i).flatMap λz=>ownS z.1).map snD))∧∃v2,σ=[some (.ref p),some (.ref L),v2]
 apply for_vals pZ1
  ⟨λc o _ h=>h,⟨[],∅,hLf,.nil⟩,none,rfl⟩ (λi σ H2 _ q=>q.1 _ _ (cQ LDL) hDf) (λi kk x σ H2 hx q=>?_) (λσ H3 q=>?_)
 ·obtain⟨k2,⟨ys,ly,hL2,hm⟩,v2,rfl⟩:=q
  unfold k7 at hx;rw[aC] at hx;obtain⟨z,hz,e⟩:=aV.mp hx;cases e;have A1:=Lf z (aD hz);have A2:LnA H2 CL z.2.1 z.2.2 z.1:=by
   obtain⟨kvs,d1,_⟩:=A1.s.ex;exact A1.kept (λb xs e=>k2 _ _ (eN e hLf nofun) e) (λb C dx fs e=>k2 _ _ (eN e hLf nofun) e) ((k2 _ _ (eN d1 hLf nofun) d1).trans d1.symm)
  obtain⟨dx,a,bb,h1,_⟩:=id A2.d;apply⟨ρ,.inl ⟨rfl,_,SqL.of hL2⟩,ρ,z.2.1,dx,ρ,h1,rfl,z.2.1,z.2.2,z.1,rfl,A2,λL2 us H4 S4 _ h4 d4=>?_⟩;have hL4:=S4 _ _ hL2;have lu:us.length≤2 * z.1.rs.length:=by
   have:=d4.length;rw[ae] at this;rw[this];exact ownN_len _ _
  have:=A2.few;have:=A2.rl;have hi:i<zs.length:=(ai.mp hz).1;apply⟨L,L2,ς,hL4,h4,⋯,?_⟩;have kg:∀c o,c≠L→H4 c=some o→(upd H4 L (.lst (ys++us))) c=some o:=λc o hc h=>by rw[aX hc];exact h
  apply⟨λc o hc h=>kg _ _ hc (S4 _ _ (k2 _ _ hc h)),⟨_,(by rw[ao];lia),aQ,?_⟩,ρ⟩;rw[take_flat (λz:LX=>ownS z.1) hz,aw];exact(mn (jG.same S4 hm) kg hL4).append (mn d4 kg hL4)
 ·obtain⟨k3,⟨ys,ly,hL3,hm⟩,v2,rfl⟩:=q
  rw[lz] at ly hm;rw[bO] at hm;have hD3:=k3 _ _ (cQ LDL) hDf;have S5:cb H (upd H3 DL (.dK (k7 zs))):=λc o e=>by
   have e1:=S0 _ _ e;have cL:c≠L:=aR e hLn
   by_cases z:c=DL
   ·subst z;rw[I1.dl] at e1;rw[aQ];exact e1
   ·rw[aX z];exact k3 _ _ cL (kf _ _ z e1)
  have k5:∀c o,c≠DL→H3 c=some o→(upd H3 DL (.dK (k7 zs))) c=some o:=λc o hc e=>by rw[aX hc];exact e
  apply⟨DL,ob,k7 zs,I1.dl,hD3,?_⟩;have hL5:=k5 _ _ LDL hL3;have hm5:jG (upd H3 DL (.dK (k7 zs))) ys ((zs.flatMap λz=>ownS z.1).map snD):=by
   clear ly;revert hm;generalize (zs.flatMap λz=>ownS z.1)=sp;intro hm;have fin:∀{vs:List V} {sp:List Sn},jG H3 vs (sp.map snD)→jG (upd H3 DL (.dK (k7 zs))) vs (sp.map snD):=by
    intro vs sp
    induction sp generalizing vs with
    | nil=>intro h;cases h;exact .nil
    | cons x sp ih =>
     intro h;cases h with
     | cons h r =>
      obtain⟨a,us,rfl,ha,rz⟩:=h.tup_of;have ez:=jG.ints_of rz;subst ez;exact .cons (.tup (k5 _ _ (eN ha hD3 nofun) ha) (jG.ints _)) (ih r)
   exact fin hm
  generalize upd H3 DL (.dK (k7 zs))=H5 at S5 hL5 hm5 ⊢;have I5:=I.same S5;obtain⟨dp5,hp5⟩:=I5.pl;obtain⟨bs,hB,dB⟩:=I5.lb;have lbs:bs.length=bt.length:=by have:=dB.length;rwa [ae] at this
  apply⟨ρ,ρ,p,C,dp5,_,ρ,hp5,CC.cl,CC.n3,rfl,L,LB,ς,hL5,hB,⋯,λq hq=>?_⟩;have S6:cb H5 (upd H5 q (.lst (ys++bs))):=cb.put (cb.refl _) hq;apply k q _ _ (S5.trans S6) ?_ aQ ?_
  ·cases e:H q with
   | none=>rfl
   | some o=>rw[S5 _ _ e] at hq;cases hq
  ·unfold allS
   rw[aw];exact(jG.same S6 hm5).append (jG.same S6 dB)
theorem scSmall:cI pzb pzb (defScope sSmall):=by trivial
theorem ok_small {da:aT}(F:Fun K "is_small" "Plan.is_small" sSmall f fd)(T:Nm mg)(CS:Cs mg)(CC:PlaC K C)(m1:pN K C "happenings" fh)(f1:‹0› 1 fh dh pzb (spHap C CL))(b1:Binds K dh pzb [])
  (m2:pN K C "all_spans" fa) (f2:‹0› 3 fa da pzb (spAllS C CL)) (b2:Binds K da pzb []):‹0› 4 f fd pzb (spSmall C CL):=by
 specialize F.ok scSmall;obtain⟨H0,p,DL,LB,b,zs,bt,rfl,I,fw,k⟩:=h;apply⟨_,bE (bR (oN (jQ op_le (jd (pv 0) CC.cl m1 f1 (hr.mono ↥0) b1 .nil g9) (qB CS.mh) (cw _)) (pQ (jQ op_le (cu cA rfl T.len bp (ah (jd (pv 0) CC.cl m2 f2 hr b2 .nil g9) aA)) (qB CS.ms) (cw _))))),?_⟩
 try dsimp only [cxK]
 obtain⟨dp,hp⟩:=I.pl;apply⟨ρ,p,dp,ρ,hp,rfl,H0,p,DL,LB,b,zs,bt,rfl,I,fw,λH1 S1=>?_⟩;apply⟨ς,ρ,kJ (λh1=>?_) (λh1=>?_)⟩
 ·have I1:=I.same S1
  obtain⟨dp1,hp1⟩:=I1.pl;apply⟨ρ,p,dp1,ρ,hp1,rfl,H0,p,DL,LB,b,zs,bt,rfl,I1,fw,λL ys H2 S2 _ hL d=>?_⟩;apply⟨L,ρ,.inl (SqL.of hL),ς,?_⟩;have e:=k H2 (S1.trans S2);have h1:decide (mU zs≤16)=true:=h1;have ly:(ys.length:Int)=(allS zs bt).length:=by have:=d.length;rw[ae] at this;lia
  rw[h1,lI] at e;show Q (.bl (decide ((ys.length:Int)≤40))) H2;rw[ly];rw[show decide (((allS zs bt).length:Int)≤40)=decide ((allS zs bt).length≤40) from decide_eq_decide.mpr ⋯];exact e
 ·have e:=k H1 S1
  have h1:decide (mU zs≤16)=false:=by simpa using h1
  rw[h1,kY] at e;exact e
theorem scAllL:cI ["self","labels","line"] pzb (defScope sAllL):=by trivial
theorem ok_allL {fo fl:aq}(F:Fun K "all_labels" "Plan.all_labels" sAllL f fd)(CC:PlaC K C)(LC:LinC K CL)(LQ:LinQ P w K mg base CL fo fl d1 d2):‹0› 2 f fd pzb (spAllL C CL):=by
 specialize F.ok scAllL;obtain ⟨H0,p,DL,LB,b,zs,bt,rfl,I,fw,k⟩:=h;apply ⟨_,PSl.h (bo ⟨(psZ 1 scAllL.nd (kF aA))⟩ (bo ⟨ps_thaw (jg cf rfl (qz (eW (pv 0) rfl) ⟨rfl,rfl,rfl,rfl⟩) (pgZ 2 scAllL.nd) (bE (hV (jR bB PySem.F.slot_list_extend PySem.F.type_list_extend mt_extend (pv 1) (ah (jd (pv 2) LC.cl LQ.m5 LQ.f5 hr LQ.b5 .nil g9) aA)))))⟩
  (gc ⟨(bR (pv 1))⟩))),?_⟩
 try dsimp only [cxK]
 have lz:(k7 zs).length=zs.length:=ae _;have big:(1000000:Nat)≤az:=by decide
 have f1:=fw.a;apply⟨(by show 0≤az;decide),λL hLn=>?_⟩;have S0:cb H (upd H L (.lst [])):=cb.put (cb.refl H) hLn;have hL:(upd H L (.lst [])) L=some (.lst []):=aQ;generalize upd H L (.lst [])=H1 at S0 hL ⊢;have I1:=I.same S0;obtain⟨dp,hp⟩:=I1.pl;apply⟨ρ,p,C,dp,_,ρ,hp,CC.cl,CC.n2,rfl,DL,ρ,I1.dl,λpv ob hpv=>?_⟩;have LDL:L≠DL:=eN hL I1.dl nofun;have hLf:(upd (upd H1 pv (isVV pv DL)) DL (.frz ob (.dK (k7 zs)))) L=some (.lst []):=by rw[aX LDL,aX (aR hL hpv)];exact hL
 have kf:∀c o,c≠DL→H1 c=some o→(upd (upd H1 pv (isVV pv DL)) DL (.frz ob (.dK (k7 zs)))) c=some o:=lE hpv (cb.refl _);have hDf:(upd (upd H1 pv (isVV pv DL)) DL (.frz ob (.dK (k7 zs)))) DL=some (.frz ob (.dK (k7 zs))):=aQ;generalize upd (upd H1 pv (isVV pv DL)) DL (.frz ob (.dK (k7 zs)))=Hf at hLf kf hDf ⊢
 let pZ1:Nat→L2.St→L2.Hp→Prop:=λi σ H2=>(∀c o,c≠L→Hf c=some o→H2 c=some o)∧(∃as:List aq,as.length≤2000 * i∧H2 L=some (.lst (as.map V.ref))∧as.map H2=(allL (zs.take i)).map (λt=>some (HO.tup t)))∧∃v2,σ=[some (.ref p),some (.ref L),v2]
 apply for_vals pZ1
  ⟨λc o _ h=>h,⟨[],∅,hLf,rfl⟩,none,rfl⟩ (λi σ H2 _ q=>q.1 _ _ (cQ LDL) hDf) (λi kk x σ H2 hx q=>?_) (λσ H3 q=>?_)
 ·obtain⟨k2,⟨ys,ly,hL2,hm⟩,v2,rfl⟩:=q
  unfold k7 at hx;rw[aC] at hx;obtain⟨z,hz,e⟩:=aV.mp hx;cases e;have A1:=I1.ln z (aD hz);obtain⟨dx,a,bb,g1,g2,g3⟩:=A1.d;have kb:∀c o,c≠DL→c≠L→H1 c=some o→H2 c=some o:=λc o h1 h2 h=>k2 _ _ h2 (kf _ _ h1 h)
  have D2:LinD H2 CL z.2.1 z.1.n z.1.ss z.1.rs z.2.2 z.1.fi:=⟨dx,a,bb,kb _ _ (eN g1 I1.dl nofun) (eN g1 hL nofun) g1,kb _ _ (eN g2 I1.dl nofun) (eN g2 hL nofun) g2,kb _ _ (eN g3 I1.dl nofun) (eN g3 hL nofun) g3⟩;obtain⟨dx,a,bb,h1,_⟩:=id D2;apply⟨ρ,.inl ⟨rfl,_,SqL.of hL2⟩,ρ,z.2.1,dx,ρ,h1,rfl,z.2.1,z.2.2,z.1.n,z.1.ss,z.1.rs,z.1.fi,rfl,D2,A1.two,A1.few,λL2 us H4 S4 _ h4 d4=>?_⟩;have hL4:=S4 _ _ hL2;have lu:us.length≤2 * z.1.ss.length:=by
   have:=rV jW d4;rw[ae,ae] at this;rw[this];exact labs_len _ _
  have:=A1.few;have hi:i<zs.length:=(ai.mp hz).1;apply⟨L,L2,ς,hL4,h4,(by rw[ae,ae];lia),?_⟩;have kg:∀c o,c≠L→H4 c=some o→(upd H4 L (.lst (ys.map V.ref++us.map V.ref))) c=some o:=λc o hc h=>by rw[aX hc];exact h
  have m4:ys.map H4=(allL (zs.take i)).map (λt=>some (HO.tup t)):=oQ hm (λc o _ h=>S4 _ _ h) hL2;apply⟨λc o hc h=>kg _ _ hc (S4 _ _ (k2 _ _ hc h)),⟨ys++us,(by rw[ao];lia),(by rw[aQ,aw]),?_⟩,ρ⟩;unfold allL at m4 ⊢;rw[take_flat (λz:LX=>labs z.1.n z.1.ss) hz,aw,aw,oQ m4 kg hL4,oQ d4 kg hL4]
 ·obtain⟨k3,⟨ys,ly,hL3,hm⟩,v2,rfl⟩:=q
  rw[lz] at ly hm;rw[bO] at hm;have hD3:=k3 _ _ (cQ LDL) hDf;have S5:cb H (upd H3 DL (.dK (k7 zs))):=λc o e=>by
   have e1:=S0 _ _ e;have cL:c≠L:=aR e hLn
   by_cases z:c=DL
   ·subst z;rw[I1.dl] at e1;rw[aQ];exact e1
   ·rw[aX z];exact k3 _ _ cL (kf _ _ z e1)
  apply⟨DL,ob,k7 zs,I1.dl,hD3,ρ,k L ys _ S5 hLn (by rw[aX LDL];exact hL3) ?_⟩;rw[←hm];apply cJ λc hc=>?_
  have hm2:H3 c∈(allL zs).map (λt=>some (HO.tup t)):=by rw[←hm];exact cX hc
  obtain⟨t,_,e⟩:=aI.mp hm2;rw[aX λz=>by rw[z,hD3] at e;cases e]
end HN
variable {zs:List HN.LX}
namespace L2
open PySem PySem.Spec PyProof.Rows
def hasK (l:List Key)(k:Key):Bool:=l.any λq=>decide (q=k)
theorem hasK_iff {l:List Key}{k:Key}:hasK l k=true↔k∈l:=by
 unfold hasK;rw[List.any_eq_true]
 constructor
 ·rintro⟨q,h,e⟩
  rw[←rT e];exact h
 ·intro h
  exact⟨k,h,rR rfl⟩
def mO (val:Nat→Key):Nat→List Key
 | 0=>[]
 | i+1=>if hasK (mO val i) (val i)=true then mO val i else mO val i++[val i]
theorem metK_le (val:Nat→Key):∀i,(mO val i).length≤i
 | 0=>aG _
 | i+1=>by
  have:=metK_le val i;unfold mO;split
  ·lia
  ·rw[ao];show _+1≤_;lia
theorem metK_mem {val:Nat→Key}{k:Key}:∀{i:Nat},k∈mO val i↔∃j,j<i∧val j=k
 | 0=>by
  constructor
  ·intro h;cases h
  ·rintro⟨j,h,_⟩;lia
 | i+1=>by
  have ih:=metK_mem (val:=val) (k:=k) (i:=i);have e:k∈mO val (i+1)↔k∈mO val i∨val i=k:=by
   rw[mO];split
   ·rename_i h
    constructor
    ·exact .inl
    ·rintro(h' | h')
     ·exact h'
     ·rw[←h'];exact hasK_iff.mp h
   ·rw[aS,aB]
    constructor
    ·rintro(h | h)
     ·exact .inl h
     ·exact .inr h.symm
    ·rintro(h | h)
     ·exact .inl h
     ·exact .inr h.symm
  rw[e,ih]
  constructor
  ·rintro(⟨j,h,q⟩ | h)
   ·exact⟨j,⋯,q⟩
   ·exact⟨i,⋯,h⟩
  ·rintro⟨j,h,q⟩
   by_cases z:j=i
   ·subst z;exact .inr q
   ·exact .inl ⟨j,⋯,q⟩
theorem metK_nd {val:Nat→Key}:∀{n:Nat},(∀i j,i<j→j<n→val i≠val j)→(mO val n).length=n
 | 0,_=>rfl
 | n+1,h=>by
  have ih:=metK_nd (val:=val) (n:=n) λi j a b=>h i j a ⋯
  rw[mO,rO,ao,ih]
  ·rfl
  ·intro q
   obtain⟨j,hj,e⟩:=metK_mem.mp (hasK_iff.mp q);exact h j n hj ⋯ e
theorem metK_lt {val:Nat→Key}{i j:Nat}(h:i<j)(e:val i=val j):∀{n:Nat},j<n→(mO val n).length<n
 | 0,hn=>rQ hn (jE _)
 | n+1,hn=>by
  have le:=metK_le val n;rw[mO];split
  ·lia
  ·rename_i q
   rw[ao];show _+1<_
   by_cases z:j=n
   ·subst z
    exact rQ (hasK_iff.mpr (metK_mem.mpr ⟨i,h,e⟩)) q
   ·have:=metK_lt h e (n:=n) ⋯
    lia
section
variable {wr:List aq}{Pv:Nat→af→Prop}{St:Nat→ar→Prop}
abbrev SetK (P:aK)(w:bg)(h:bM)(a:aq)(l:List Key):Prop:=h.SetOf (hW P w) a (hasK l) l.length
theorem SetK.at {l:List Key}(x:SetK P w h a l)(k:∀o,h.get? a=some o→h'.get? a=some o):SetK P w h' a l:=by
 obtain⟨o,es,ep,t,ho,rest⟩:=x;exact⟨o,es,ep,t,k _ ho,rest⟩
theorem upd_loop (W:WalksS P w A.in1 it fp wr G n Pv St)(S:aq)(hS:S ∉ fp)(val:Nat→Key)(hv:∀i v,Pv i v→∃x t,v= .str x t∧val i= .inr x)(hb:n+1<scanBound):∀(k i:Nat) (s:ar),n - i=k→i≤n→St i s→SetK P w s.heap S (mO val i) →
  (∀s',Moved (S::wr) G s s'→SetK P w s'.heap S (mO val n)→R (.ok (.ret .none)) s')→codeAny (bF P w) A (.builtin "set.update.loop" ⟨[.ref S,.ref it],[]⟩) R s
 | 0,i,s,hk,hi,st,hs,hR=>by
  have nw:S ∉ wr:=λq=>hS (W.sub _ q)
  obtain rfl:i=n:=by lia
  apply codeAny_builtin F.entry_set_update_loop ?_;rw[cn.under_plainId nY _];apply aj (W.done s _ _ st λs' hm=>?_);exact aJ (hR s' (hm.mono λb q=>aE _ q) (hs.at λo e=>hm.heap S _ nw e))
 | k+1,i,s,hk,hi,st,hs,hR=>by
  have nw:S ∉ wr:=λq=>hS (W.sub _ q)
  have up:∀b∈wr,b∈S::wr:=λb q=>aE _ q
  have hlt:i<n:=by lia
  apply codeAny_builtin F.entry_set_update_loop ?_;rw[cn.under_plainId nY _];apply aj (W.item i s _ _ hlt st λv s' hP st' hm=>?_);obtain⟨x,t,rfl,ev⟩:=hv i v hP;have hs':=hs.at (h':=s'.heap) λo e=>hm.heap S _ nw e
  show aY _ A.in1 (holding [af.str x t] (setAdd S (.str x t)) >>= _) _ _ s';apply aj (hI ?_);unfold setAdd;apply hI ?_;apply aj ((hW P w).pyHash (k:= .inr x) (om _ _ _ _) ?_);have room:(mO val i).length+1<scanBound:=by have:=metK_le val i;lia
  apply wpAny_setAddHashed_of (knd:=hW P w) (s:={ s' with toks:=s'.toks+1 }) (om _ _ _ _) rfl hs' room λh' sb h2=>?_
  have h3:SetK P w h' S (mO val (i+1)):=by
   have e1:(λq=>hasK (mO val i) q || decide (q=Sum.inr x))=hasK (mO val (i+1)):=funext λq=>by
    rw[mO,ev]
    by_cases z:hasK (mO val i) (Sum.inr x)=true
    ·rw[rP z]
     by_cases y:q=Sum.inr x
     ·subst y;rw[z];rfl
     ·rw[rS y,Bool.or_false]
    ·rw[rO z]
     unfold hasK;rw[List.any_append];show _=(_ || (decide (Sum.inr x=q) || false));rw[Bool.or_false,decide_eq_decide.mpr (eq_comm (a:=q) (b:=Sum.inr x))]
   have e2:(if hasK (mO val i) (Sum.inr x)=true then (mO val i).length else (mO val i).length+1)=(mO val (i+1)).length:=by
    rw[mO,ev];split
    ·rfl
    ·rw[ao];rfl
   rw[e1,e2] at h2;exact h2
  apply aJ ⟨plainId_quiet nY _,upd_loop W S hS val hv hb k (i+1) _ ⋯ hlt (W.frame _ s' _ _ st' (ju _) λb q o e=>?_) h3 λs2 hm2 q2=>?_⟩
  ·rw[sb.2 b λz=>hS (by rw[←z];exact q)];exact e
  ·apply hR s2 (Moved.trans W.gtrans ((hm.mono up).then_heap (ju _) λb o q e=>?_) hm2) q2
   rw[sb.2 b λz=>q (by rw[z];exact bh)];exact e
end
set_option maxRecDepth 100000 in
set_option maxHeartbeats 3200000 in
theorem set_seqS {l:aq}{its:Array af}{val:Nat→Key}
  (hh:A.handled=none) (hl:s.heap.IsTuple l its∨s.heap.IsList l its) (hv:∀(i:Nat) v,its[i]? =some v→∃x t,v= .str x t∧val i= .inr x) (hb:its.size+1<scanBound)
  (h:∀(h':bM) (tk:Nat),SetK P w h' s.heap.objs.size (mO val its.size)→(∀b o,b<s.heap.objs.size→s.heap.get? b=some o→h'.get? b=some o)→Q (.ref s.heap.objs.size) { s with heap:=h',toks:=tk }) :
  aY (bF P w) A (call (.type "set") [.ref l]) Q E s:=by
 obtain⟨c1,c2,mro1⟩:=PySem.F.called_set.mro;have made1:=PySem.F.called_set.made;have sub1:=PySem.F.called_set.sub;apply kZ (codeAny_of_tree ?_);show aY _ _ (callAny (.type "set") _) _ _ _;apply aJ ⟨Code.quiet_builtin _ ⇑0,codeAny_builtin PySem.F.entry_type_call ?_⟩;rw[cn.under_plain (weight_type_call_type "set" [.ref l] []) rfl];have no1:=PySem.F.called_set.notType;have can1:=PySem.F.called_set.canCreate;have ty1:=PySem.F.typeCall_set_1 (.ref l)
 repeat (any_goals (first | assumption | wp_step))
 apply kr (code_set_new_1 (.ref l) (E:=E) (Q₁:=λobj s₁=>∃led:Bool,obj= .ref s.heap.objs.size∧s₁={ s with heap:=s.heap.push { cls:= .type "set",dict:=none,data:= .set #[] 0 (.fresh 0 0 led) } }) λled=>⟨led,rfl,rfl⟩) λr s₁ hr=>?_
 cases r with
 | error e=>exact hr
 | ok fl =>
  cases fl with
  | ret obj =>
   obtain⟨led,rfl,rfl⟩:=hr;have g1:(s.heap.push { cls:= .type "set",dict:=none,data:= .set #[] 0 (.fresh 0 0 led) }).get? s.heap.objs.size=some { cls:= .type "set",dict:=none,data:= .set #[] 0 (.fresh 0 0 led) }:=aU _ rfl;have g2:ar.TypeIs { s with heap:=s.heap.push { cls:= .type "set",dict:=none,data:= .set #[] 0 (.fresh 0 0 led) } } (.ref s.heap.objs.size) "set" := ⟨_,g1,rfl⟩;have i1:=PySem.F.called_set.init.lookup;have i2:=PySem.F.called_set.init.bind (.ref s.heap.objs.size)
   repeat (any_goals (first | assumption | wp_step))
   apply kr (ma (R:=wants (λr s₂=>r= .none∧∃h' tk,s₂={ s with heap:=h',toks:=tk }∧SetK P w h' s.heap.objs.size (mO val its.size)∧(∀b o,b<s.heap.objs.size→s.heap.get? b=some o→h'.get? b=some o)) E) PySem.F.called_set.init.plain PySem.F.entry_set_init (check_set_init_1 g2 ?_)) λr₂ s₂ hr₂=>?_
   ·rcases hl with hl | hl
    all_goals
     obtain⟨ol,hol,hcl,nl,hdl⟩:=hl;obtain⟨ocls,odict,odata,oslots⟩:=ol;simp only at hcl hdl;subst hcl;subst hdl;have g3:=au { cls:= .type "set",dict:=none,data:= .set #[] 0 (.fresh 0 0 led) } hol;have n1:=PySem.F.sub_tuple_set;have n4:=PySem.F.sub_list_set;have n2:=PySem.F.sub_tuple_frozenset;have n5:=PySem.F.sub_list_frozenset;have n3:(af.type "tuple" == af.type "dict")=false:=by decide
     have n6:(af.type "list" == af.type "dict")=false:=by decide
     first | have l1:(s.heap.push { cls:= .type "set",dict:=none,data:= .set #[] 0 (.fresh 0 0 led) }).IsTuple l its:=⟨_,g3,rfl,nl,rfl⟩ | have l1:(s.heap.push { cls:= .type "set",dict:=none,data:= .set #[] 0 (.fresh 0 0 led) }).IsList l its:=⟨_,g3,rfl,nl,rfl⟩
     unfold dC.«set.__init__» noKeywords dC.Frozenset.updateFrom;generalize hPI:pyIter=PI
     wp_walk
     subst hPI
     first | apply wpAny_pyIter_tuple l1 ?_ | apply iw l1 ?_
     apply aj (wpAny_runValue ?_);have lS:l<s.heap.objs.size:=aW hol;have h3:A.in1.in1.in1.handled=none:=by simp[hh]
     have nI:l≠(s.heap.push { cls:= .type "set",dict:=none,data:= .set #[] 0 (.fresh 0 0 led) }).objs.size:=by
      rw[eF];exact cG (Nat.lt_succ_of_lt lS)
     have nS:s.heap.objs.size ∉ [(s.heap.push { cls:= .type "set",dict:=none,data:= .set #[] 0 (.fresh 0 0 led) }).objs.size,l]:=by
      rw[eF];simp only[ay,aB,bz,or_false,not_or];exact⟨cG (Nat.lt_succ_self _),jz lS⟩
     first | apply upd_loop ((Walks.tuple h3 _ l nI its).toS) s.heap.objs.size nS val hv hb (its.size - 0) 0 _ ⋯ (cV _) ⟨⟨_,aU _ rfl,rfl,rfl⟩,?_⟩ ?hS0 ?hR | apply upd_loop ((Walks.list h3 _ l nI its).toS) s.heap.objs.size nS val hv hb (its.size - 0) 0 _ ⋯ (cV _) ⟨⟨_,aU _ rfl,rfl,rfl⟩,?_⟩ ?hS0 ?hR
     ·exact l1.at λo e=>au _ e
     case hS0 =>
      exact⟨_,#[],0,_,au _ g1,⟨rfl,rfl,rfl⟩,rfl,λe he=>by simp at he,λk=>by simp[hasK,mO],(by show 0<scanBound;unfold scanBound;lia),rfl,rfl⟩
     case hR =>
      intro s' hm hS';obtain⟨h',g',d',tk',os'⟩:=s';have eg:g'=s.gens:=hm.gens;have ed:d'=s.drawn:=hm.drawn;have eo:os'=s.os:=hm.os;subst eg;subst ed;subst eo;apply aJ ?_;show aY _ _ (ret af.none) _ _ _;apply aJ ⟨rfl,h',tk',rfl,hS',λb o hb e=>?_⟩;have b1:b≠s.heap.objs.size:=cG hb;have b2:b≠(s.heap.push { cls:= .type "set",dict:=none,data:= .set #[] 0 (.fresh 0 0 led) }).objs.size:=by
       rw[eF];exact cG (Nat.lt_succ_of_lt hb)
      exact hm.heap b o (by simp only[ay,aB,bz,or_false,not_or];exact⟨b1,b2⟩) (au _ (au _ e))
   ·cases r₂ with
    | error e=>exact hr₂
    | ok fl₂ =>
     cases fl₂ with
     | ret r =>
      obtain⟨rfl,h',tk,rfl,hS',hk'⟩:=hr₂
      repeat (any_goals (first | assumption | wp_step))
      exact h _ _ hS' hk'
     | _=>exact hr₂.elim
  | _=>exact hr.elim
def isSet (P:aK)(w:bg)(a:aq)(l:List Key):HO:= .ext λh=>SetK P w h a l
def sAtK (ns:List Str)(i:Nat):Key:= .inr (ns.getD i gU)
theorem call_setT (hc:X.calm=true):jU X (.type "set") (λxs H Q=>∃(p:aq) (ns:List Str),xs=[.ref p]∧SqT X.K H p (ns.map V.str)∧ns.length≤1000∧∀a,H a=none→Q (.ref a) (upd H a (isSet X.prog X.w a (mO (sAtK ns) ns.length)))):=by
 intro aN s σ H xs us Q I r h;obtain⟨p,ns,rfl,hq,hn,q⟩:=h;obtain⟨u,rfl,ru⟩:=nV r;cases(show u=af.ref p from ru);obtain⟨its,rv,pl,hz⟩:=I.tuple hq;have hl:its.length=ns.length:=by rw[←rv.length,ae]
 have hl2:its.toArray.size=ns.length:=by rw[aH,hl]
 apply set_seqS (val:=sAtK ns) (I.ok.hd hc) (.inl pl) (λi v hv=>?_) (by rw[hl2];show ns.length+1<4096;lia) λh' tk hs hk=>?_
 ·have hv:its[i]? =some v:=by simpa using hv
  have hi:i<ns.length:=by rw[←hl];exact(ai.mp hv).1
  obtain⟨u,hu,ru⟩:=rv.get (i:=i) (x:= .str ns[i]) (by rw[aC,gE hi];rfl);rw[hv] at hu;cases hu;obtain⟨t,rfl⟩:=(show ∃t,v=af.str ns[i] t from ru);exact⟨_,t,rfl,by unfold sAtK;rw[cM,gE hi];rfl⟩
 ·rw[hl2] at hs
  exact⟨.ref s.heap.objs.size,_,I.laid (t':=tk) (o:=isSet X.prog X.w s.heap.objs.size (mO (sAtK ns) ns.length)) (λb u e=>hk b u (aW e) e) (aG _) ⟨hs,(let ⟨o,_,_,_,ho,_⟩:=hs;⟨o,ho⟩),λh1 h2 x k=>x.at k⟩,rfl,q _ I.fresh⟩
theorem call_lenK:jU X (.builtin "len") (λxs H Q=>∃(a:aq) (l:List Key),xs=[.ref a]∧H a=some (isSet X.prog X.w a l)∧Q (.int l.length) H):=by
 intro aN s σ H xs us Q I r h;obtain⟨a,l,rfl,ha,q⟩:=h;obtain⟨u,rfl,ru⟩:=nV r;cases(show u=af.ref a from ru);obtain⟨⟨o,es,ep,t,e1,e2,e3,_,_,e4,e5,e6⟩,_,_⟩:=I.hok a _ ha;have e4:es.size<4096:=e4;apply call_len_set e1 e2 e3 e5 ⋯ ?_;rw[←e6] at q;exact⟨.int es.size,H,I.tok _,⟨ρ⟩,q⟩
end L2
namespace HN
open PySem L2 PyProof.Rows HT2
abbrev sTakeL:c8:=clsOf cPla 5
structure LinM (P:aK)(w:bg)(K:ak)(mg:Str→Option af)(base:bM)(C fi:aq)(di:aT):Prop where
 mke:Mk K C fi
 gl:mg "Line" =some (.ref C)
 f:‹0› 1 fi di pzq (spInitL C)
 b:Binds K di pzq []
structure PlaK (P:aK)(w:bg)(K:ak)(mg:Str→Option af)(base:bM)(CP CL fh fs:aq)(dh ds:aT):Prop where
 cc:PlaC K CP
 m1:pN K CP "happenings" fh
 f1:‹0› 1 fh dh pzb (spHap CP CL)
 b1:Binds K dh pzb []
 m2:pN K CP "is_small" fs
 f2:‹0› 4 fs ds pzb (spSmall CP CL)
 b2:Binds K ds pzb []
def small (zs:List LX)(bt:List Sn):Bool:=decide (mU zs≤16) && decide ((allS zs bt).length≤40)
inductive qt (CP CL:aq)(vs:List V)(H:Hp)(Q:VK)(_:XK):Prop
 | mk (H0:Hp)(p q DL LB:aq)(b:Int)(zs:List LX)(bt:List Sn)(n:Str)(ss:List Str)(rs:List Int)(_:vs=[.ref p,.ref q])(_:PlI CP CL H0 H p b zs bt DL LB)(_:zs.length≤90)(_:bt.length≤90)(_:(PR.line n ss rs).at H q)(_:2≤ss.length)(_:ss.length≤1000)(_:ss.length=rs.length+1)(_:((n∈zs.map (·.1.n)∨¬ss.Nodup)→∀H',cb H H'→Q (.bl false) H'))(_:(n ∉ zs.map (·.1.n)→ss.Nodup→∀x D H',PlI CP CL H0 H' p b (zs++[(⟨n,ss,rs,[],mU zs⟩,x,D)]) bt DL LB→Q (.bl (small (zs++[(⟨n,ss,rs,[],mU zs⟩,x,D)]) bt)) H'))
theorem qF {n:Str}(h:n ∉ zs.map (·.1.n)):me (k7 zs) (.inr n)=none:=by
 induction zs with
 | nil=>rfl
 | cons z zs ih =>
  rw[bq,ay,not_or] at h;show me ((.inr z.1.n,.ref z.2.1)::k7 zs) (.inr n)=none;rw[oF (λe=>h.1 (by injection e with e;exact e.symm))];exact ih h.2
theorem mJ {z:LX}(nn:(zs.map (·.1.n)).Nodup)(h:z∈zs):me (k7 zs) (.inr z.1.n)=some (.ref z.2.1):=by
 induction zs with
 | nil=>cases h
 | cons y zs ih =>
  rw[bq,bP] at nn;show me ((.inr y.1.n,.ref y.2.1)::k7 zs) (.inr z.1.n)=_
  rcases ay.mp h with e | e
  ·subst e;exact p9 rfl
  ·rw[oF (λq=>nn.1 (by injection q with q;exact aI.mpr ⟨z,e,q.symm⟩))]
   exact ih nn.2 e
theorem putK_new {k:Key}(h:me kvs k=none):putK kvs k v=kvs++[(k,v)]:=by
 unfold putK;rw[valV_any,h];rfl
theorem str_nd:(mO (sAtK ss) ss.length).length=ss.length↔ss.Nodup:=by
 constructor
 ·intro h
  apply gN.mpr λi j hi hj hij e=>?_
  have:=metK_lt (val:=sAtK ss) hij (by unfold sAtK;rw[cM,cM,gE hi,gE hj,e]) hj;lia
 ·intro nd
  apply metK_nd λi j hij hj e=>?_
  unfold sAtK at e;rw[cM,cM,gE (Nat.lt_trans hij hj),gE hj] at e;injection e with e
  exact(gN.mp nd) i j _ hj hij e
theorem setTK (P:aK)(w:bg)(K:ak)(hc:X.calm=true)(hP:autoParam (X.prog=P) L2.au0._auto_1)(hw:autoParam (X.w=w) L2.au0._auto_1)(hK:autoParam (X.K=K) L2.au0._auto_1):jU X (.type "set") (λxs H Q=>∃(p:aq) (ns:List Str),xs=[.ref p]∧SqT K H p (ns.map V.str)∧ns.length≤1000∧∀a,H a=none→Q (.ref a) (upd H a (isSet P w a (mO (sAtK ns) ns.length)))):=by subst hP hw hK;exact call_setT hc
theorem lenSK (P:aK)(w:bg)(hP:autoParam (X.prog=P) L2.au0._auto_1)(hw:autoParam (X.w=w) L2.au0._auto_1):jU X (.builtin "len") (λxs H Q=>∃(a:aq) (l:List Key),xs=[.ref a]∧H a=some (isSet P w a l)∧Q (.int l.length) H):=by subst hP hw;exact call_lenK
theorem scTakeL:cI ["self","row","name","stops"] pza (defScope sTakeL):=by trivial
theorem ok_takeL {fi fs:aq}{di ds:aT}(F:Fun K "take_line" "Plan.take_line" sTakeL f fd)(T:Nm mg)(hset:mg "set" =none)(PK:PlaK P w K mg base CP CL fh fs dh ds)(LM:LinM P w K mg base CL fi di):‹0› 5 f fd pza (qt CP CL):=by
 specialize F.ok scTakeL;obtain ⟨H0,p,q,DL,LB,b,zs,bt,n,ss,rs,rfl,I,f1,f2,⟨a,b',ha,hb,hq⟩,two,few,rl,kn,ky⟩:=h;have u1:=jA (jf (show 1≤64 by decide) _) hr.units;apply ⟨_,PSl.h (bo ⟨(psZ 2 scTakeL.nd (ixZ (pv 1)))⟩ (bo ⟨(psZ 3 scTakeL.nd (ixZ (pv 1)))⟩
  (bo ⟨(fG (PW.pt (mS (pt_cmp (pc_din u1 (pv 2) (eW (pv 0) rfl)) rfl) (lK (bQ rb (cu (lenSK P w) rfl T.len bp (ah (gk (setTK P w K rfl) rfl hset boot_set (ah (pv 3) aA)) aA)) (cu cA rfl T.len bp (ah (pv 3) aA)) (cw _))))) (bE (bR pe_bl)) cF)⟩
  (bo ⟨(ps_dput u1 (eW (pv 0) rfl) (pv 2) (pe_make LM.mke LM.f (hr.mono ↥0) rfl LM.gl LM.b .nil g9 (ah (pv 2) (ah (pv 3) (ah (ixZ (pv 1)) (ah (jd (pv 0) PK.cc.cl PK.m1 PK.f1 (hr.mono ↥0) PK.b1 .nil g9) aA))))) rfl)⟩
  (gc ⟨(bR (jd (pv 0) PK.cc.cl PK.m2 PK.f2 hr PK.b2 .nil g9))⟩))))),?_⟩
 try dsimp only [cxK]
 obtain⟨dp,hp⟩:=I.pl;have CC:=PK.cc;apply⟨ρ,q,τ,SqT.of hq,aP (j:=1) rfl,?_⟩;apply⟨ρ,q,τ,SqT.of hq,aP (j:=2) rfl,?_⟩;apply⟨ρ,ρ,p,CP,dp,_,ρ,hp,CC.cl,CC.n2,rfl,DL,ρ,.inl ⟨_,.inr n,.inl I.dl,rfl,rfl⟩,ρ,kJ (λhc=>?_) (λhc=>?_)⟩
 ·apply kn (.inl ?_) H (cb.refl H)
  apply Classical.byContradiction λno=>?_
  rw[qF no] at hc;cases hc
 have hn:n ∉ zs.map (·.1.n):=fun hm=>hc (by
  obtain ⟨z,hz,rfl⟩:=aI.mp hm;rw [mJ I.nn hz];rfl)
 apply⟨ρ,a,ss,rfl,SqT.of ha,few,λsa hsa=>?_⟩;have S1:cb H (upd H sa (isSet P w sa (mO (sAtK ss) ss.length))):=cb.put (cb.refl H) hsa;have h1:(upd H sa (isSet P w sa (mO (sAtK ss) ss.length))) sa=some (isSet P w sa (mO (sAtK ss) ss.length)):=aQ;generalize upd H sa (isSet P w sa (mO (sAtK ss) ss.length))=H1 at S1 h1 ⊢;apply⟨sa,ρ,h1,ρ,a,ρ,.inr (SqT.of (S1 _ _ ha)),rfl,ρ,kJ (λhc=>?_) (λhc=>?_)⟩
 ·apply kn (.inr λnd=>?_) H1 S1
  rw[str_nd.mpr nd,ae] at hc;exact rQ hc ∅
 have nd:ss.Nodup:=by
  apply str_nd.mp ?_;have hc:¬(!decide (V.int ((mO (sAtK ss) ss.length).length:Int)=V.int ((ss.map V.str).length:Int)))=true:=hc;rw[Bool.not_eq_true,Bool.not_eq_false'] at hc;have:=rT hc;injection this with this
  rw[ae] at this;lia
 have I1:=I.same S1;obtain⟨dp1,hp1⟩:=I1.pl;apply⟨ρ,ρ,ρ,q,τ,SqT.of (S1 _ _ hq),aP (j:=3) rfl,ρ,p,dp1,ρ,hp1,rfl,H0,p,DL,LB,b,zs,bt,rfl,I1,⟨⋯,⋯⟩,λH2 S2=>?_⟩;intro x dx hx hdx dxx;apply⟨x,dx,a,b',n,mU zs,rfl,aQ,λD H3 k3 hD hD3 hx3=>⟨rfl,?_⟩⟩;have S12:=S1.trans S2;have I2:=I1.same S2;have e2:∀c o,H2 c=some o→H3 c=some o:=λc o e=>by
  apply k3 c o (aR e hx) ?_;rw[aX (aR e hx),aX (aR e hdx)];exact e
 have S23:cb H2 H3:=λc o e=>e2 c o e
 have hD2:H2 D=none:=by
  cases e:H2 D with
  | none=>rfl
  | some o =>
   rw[aX (aR e hx),aX (aR e hdx),e] at hD;cases hD
 have I3:=I2.same S23;obtain⟨dp3,hp3⟩:=I3.pl;apply⟨ρ,p,CP,dp3,_,ρ,hp3,CC.cl,CC.n2,rfl,ρ,DL,ρ,.inl ⟨_,.inr n,I3.dl,rfl,?_,rfl⟩,?_⟩
 ·show(k7 zs).length<az
  unfold k7;rw[ae];have:(100000:Nat)≤az:=by decide
  lia
 rw[putK_new (qF hn)];have ez:k7 zs++[(.inr n,.ref x)]=k7 (zs++[(⟨n,ss,rs,[],mU zs⟩,x,D)]):=by unfold k7;rw[aw];rfl
 rw[ez];have k4:∀c o,c≠DL→H3 c=some o→(upd H3 DL (.dK (k7 (zs++[(⟨n,ss,rs,[],mU zs⟩,x,D)])))) c=some o:=λc o hc e=>by rw[aX hc];exact e
 have h4:(upd H3 DL (.dK (k7 (zs++[(⟨n,ss,rs,[],mU zs⟩,x,D)])))) DL=some (.dK (k7 (zs++[(⟨n,ss,rs,[],mU zs⟩,x,D)]))):=aQ;generalize upd H3 DL (.dK (k7 (zs++[(⟨n,ss,rs,[],mU zs⟩,x,D)])))=H4 at k4 h4 ⊢;have DDL:D≠DL:=λz=>by rw[z,I2.dl] at hD2;cases hD2
 have kT:∀c xs,H3 c=some (.tup xs)→H4 c=some (.tup xs):=λc xs e=>k4 _ _ (eN e I3.dl nofun) e
 have kI:∀c C dx fs,H3 c=some (.ins C dx fs)→H4 c=some (.ins C dx fs):=λc C dx fs e=>k4 _ _ (eN e I3.dl nofun) e
 have A4:LnA H4 CL x D ⟨n,ss,rs,[],mU zs⟩:=⟨⟨dx,a,b',kI _ _ _ _ hx3,kT _ _ (e2 _ _ (S12 _ _ ha)),kT _ _ (e2 _ _ (S12 _ _ hb))⟩,⟨[],k4 _ _ DDL hD3,rfl,λz=>⟨(λv hv=>by cases hv),(λ_=>⟨rfl,∅⟩),(λhv=>by cases hv)⟩⟩,nd,two,few,rl⟩;have n0:H0 D=none:=by
  cases e:H0 D with
  | none=>rfl
  | some o=>rw[I2.S _ _ e] at hD2;cases hD2
 have I4:PlI CP CL H0 H4 p b (zs++[(⟨n,ss,rs,[],mU zs⟩,x,D)]) bt DL LB:=by
  obtain⟨ys,hB,dB⟩:=I3.lb;apply⟨λc o e=>k4 _ _ (aR e I3.nL) (I3.S _ _ e),⟨dp3,kI _ _ _ _ hp3⟩,I3.nL,I3.nB,λz hz=>?_,h4,λz hz=>?_,?_,?_,ys,k4 _ _ (eN hB I3.dl nofun) hB,?_⟩
  ·rcases aS.mp hz with hz | hz
   ·exact I3.nD z hz
   ·rw[aB.mp hz];exact n0
  ·rcases aS.mp hz with hz | hz
   ·have A:=I3.ln z hz
    obtain⟨kvs,d1,_⟩:=A.s.ex;have nz:z.2.2≠DL:=λe=>(bP.mp I3.nd).1 (aI.mpr ⟨z,hz,e⟩)
    exact A.kept kT kI ((k4 _ _ nz d1).trans d1.symm)
   ·rw[aB.mp hz];exact A4
  ·rw[aw,bP]
   obtain⟨m1,m2⟩:=bP.mp I3.nd;apply⟨λhm=>?_,iX.mpr ⟨m2,∅,λc hc d hd e=>?_⟩⟩
   ·rcases aS.mp hm with hm | hm
    ·exact m1 hm
    ·exact DDL (aB.mp hm).symm
   ·have hd:d=D:=by simpa using hd
    subst hd;subst e;obtain⟨z,hz,ez⟩:=aI.mp hc;obtain⟨kvs,d1,_⟩:=(I2.ln z hz).s.ex;rw[ez,hD2] at d1;cases d1
  ·rw[aw]
   apply iX.mpr ⟨I3.nn,∅,λc hcc d hd e=>?_⟩;have hd:d=n:=by simpa using hd
   rw[e,hd] at hcc;exact hn hcc
  ·have fin:∀{vs:List V} {sp:List Sn},jG H3 vs (sp.map snD)→jG H4 vs (sp.map snD):=by
    intro vs sp
    induction sp generalizing vs with
    | nil=>intro h;cases h;exact .nil
    | cons x sp ih =>
     intro h;cases h with
     | cons h r =>
      obtain⟨a,us,rfl,ha,rz⟩:=h.tup_of;have ez:=jG.ints_of rz;subst ez;exact .cons (.tup (kT _ _ ha) (jG.ints _)) (ih r)
   exact fin dB
 obtain⟨dp4,hp4⟩:=I4.pl;apply⟨ρ,p,dp4,ρ,hp4,rfl,H0,p,DL,LB,b,_,bt,rfl,I4,⟨by rw[ao];show zs.length+1≤100;lia,⋯⟩,λH5 S5=>ky hn nd x D H5 (I4.same S5)⟩
abbrev qy:c8:=top 74
abbrev sBtw:c8:=clsOf cPla 7
abbrev sTakeB:c8:=clsOf cPla 8
abbrev sTakeP:c8:=clsOf cPla 9
inductive spChange (C:aq)(vs:List V)(H:Hp)(Q:VK)(_:XK):Prop
 | mk (l o w:Int)(x y p:aq)(n1 n2 z:Str)(ss tt:List Str)(rs us:List Int)(fi gi:Int)(i j:Nat)(_:vs=[.ref x,.ref y,.ref p])(_:LnOk H C x ss rs fi)(_:LnOk H C y tt us gi)(_:H p=some (.tup [.str "change",.str n1,.str n2,.str z,.int l,.int o,.int w]))(_:ss[i]? =some z)(_:1≤i)(_:tt[j]? =some z)(_:j+1<tt.length)(_:∀q H',cb H H'→H' q=some (.tup [.int (fi+2 * i - 1),.int (gi+2 * j),.int l,.int o,.int w])→Q (.ref q) H')
inductive Bt (b:Int)(x y:Ln):Str→List Str→List Int→Sn→Prop
 | change {z:Str} {l o w:Int} {i j:Nat} (h1:x.ss[i]? =some z) (h2:1≤i) (h3:y.ss[j]? =some z) (h4:j+1<y.ss.length):Bt b x y "change" [x.n,y.n,z] [l,o,w] ⟨x.fi+2 * i - 1,y.fi+2 * j,l,o,w⟩
 | apart {z:Str} {d:Int} {i j:Nat} (h1:x.ss[i]? =some z) (h2:i+1<x.ss.length) (h3:y.ss[j]? =some z) (h4:j+1<y.ss.length):Bt b x y "apart" [x.n,y.n,z] [d] ⟨x.fi+2 * i,y.fi+2 * j,d,b - d,0⟩
 | meet {z z2:Str} {d r u:Int} {i j:Nat} (h1:x.ss[i]? =some z) (h2:x.ss[i+1]? =some z2) (h3:x.rs[i]? =some r) (h4:y.ss[j]? =some z2) (h5:y.ss[j+1]? =some z) (h6:y.rs[j]? =some u):Bt b x y "meet" [x.n,y.n,z,z2] [d] ⟨x.fi+2 * i,y.fi+2 * j,r+d,b - u - d,0⟩
def Btw (b:Int)(ls:List Ln)(k:Str)(ns:List Str)(is:List Int)(sn:Sn):Prop:=∃x y:Ln,x∈ls∧y∈ls∧x.n≠y.n∧Bt b x y k ns is sn
inductive spBtw (CP CL:aq)(vs:List V)(H:Hp)(Q:VK)(_:XK):Prop
 | mk (H0:Hp)(p q DL LB:aq)(b:Int)(zs:List LX)(bt:List Sn)(k:Str)(ns:List Str)(is:List Int)(sn:Sn)(_:vs=[.ref p,.ref q])(_:PlI CP CL H0 H p b zs bt DL LB)(_:(PR.oth k ns is).at H q)(_:Btw b (zs.map (·.1)) k ns is sn)(_:∀t H',cb H H'→H' t=some (.tup [.int sn.s,.int sn.g,.int sn.l,.int sn.o,.int sn.w])→Q (.ref t) H')
def snB (b m:Int)(x:Sn):Bool:=nX m (.int x.s) (.int x.g) && (qG b (.int x.l) (.int x.o) && inI (.int x.w) 0 1000000000000)
inductive qu (CP CL:aq)(vs:List V)(H:Hp)(Q:VK)(_:XK):Prop
 | mk (H0:Hp)(p q DL LB:aq)(b:Int)(zs:List LX)(bt:List Sn)(k:Str)(ns:List Str)(is:List Int)(sn:Sn)(_:vs=[.ref p,.ref q])(_:PlI CP CL H0 H p b zs bt DL LB)(_:zs.length≤90)(_:bt.length≤90)(_:(PR.oth k ns is).at H q)(_:Btw b (zs.map (·.1)) k ns is sn)(_:∀H',PlI CP CL H0 H' p b zs (bt++[sn]) DL LB→Q (.bl (snB b (mU zs) sn && small zs (bt++[sn]))) H')
theorem LnA.ok {x:aq}(A:LnA H C x D l):LnOk H C x l.ss l.rs l.fi:=⟨⟨D,l.n,A.d⟩,A.nd,A.two,A.few,A.rl⟩
theorem scChange:cI pzl pzl (defScope qy):=by trivial
theorem ok_change {fr:aq}(F:Fun K "change_span" "change_span" qy f fd)(CK:LinK P w K mg base C fc fg fr dc dg dr):‹0› 2 f fd pzl (spChange C):=by
 specialize F.ok scChange;obtain⟨l,o,w,x,y,p,n1,n2,z,ss,tt,rs,us,fi,gi,i,j,rfl,hx,hy,hp,e1,e2,e3,e4,k⟩:=h;apply⟨_,bE (bR (jc (ah (eU (pv 0) CK.cc.cl CK.m1 CK.f1 hr CK.b1 .nil g9 (ah (ixZ (pv 2)) aA)) (ah (eU (pv 1) CK.cc.cl CK.m2 CK.f2 hr CK.b2 .nil g9 (ah (ixZ (pv 2)) aA)) (ah (ixZ (pv 2)) (ah (ixZ (pv 2)) (ah (ixZ (pv 2)) aA))))))),?_⟩
 try dsimp only [cxK]
 obtain⟨⟨D,n,L⟩,nd,two,few,_⟩:=hx;obtain⟨dx,a,b,hx1,_⟩:=id L;apply⟨ρ,x,dx,ρ,hx1,rfl,ρ,p,τ,SqT.of hp,aP (j:=3) rfl,x,D,n,z,ss,rs,fi,rfl,L,few,two,nd,λH1 S1=>⟨λi' a1 a2=>?_,λno=>rQ (no i e1) ⋯⟩⟩;obtain rfl:=(kH nd e1 a1).symm;obtain⟨⟨D2,n2',L2'⟩,nd2,two2,few2,_⟩:=hy.kept S1;obtain⟨dy,a3,b3,hy1,_⟩:=id L2';apply⟨ρ,y,dy,ρ,hy1,rfl,ρ,p,τ,SqT.of (S1 _ _ hp),aP (j:=3) rfl,y,D2,n2',z,tt,us,gi,rfl,L2',few2,two2,nd2,λH2 S2=>⟨λj' a1' a2'=>?_,λno=>rQ (no j e3) ⋯⟩⟩;obtain rfl:=(kH nd2 e3 a1').symm;have hp2:=S2 _ _ (S1 _ _ hp);apply⟨ρ,p,τ,SqT.of hp2,aP (j:=4) rfl,ρ,p,τ,SqT.of hp2,aP (j:=5) rfl,ρ,p,τ,SqT.of hp2,aP (j:=6) rfl,szZ5,λq H3 S3 e=>?_⟩;exact k q H3 (S1.trans (S2.trans S3)) e
theorem scBtw:cI ["self","row","one","other"] pza (defScope sBtw):=by trivial
theorem ok_btw (F:Fun K "span_between" "Plan.span_between" sBtw f fd)(CC:PlaC K CP)(G1:Fn K mg "change_span" qy pzl f1 d1)(F1:‹0› 2 f1 d1 pzl (spChange CL))
  (G2:Fn K mg "apart_span" sApart pzf f2 d2) (F2:‹0› 2 f2 d2 pzf (spApart CL)) (G3:Fn K mg "meet_span" sMeet pzf f3 d3) (F3:‹0› 2 f3 d3 pzf (spMeet CL)):‹0› 3 f fd pza (spBtw CP CL):=by
 specialize F.ok scBtw;obtain ⟨H0,p,q,DL,LB,b,zs,bt,k,ns,is,sn,rfl,I,hq,B,kk⟩:=h;have u1:=jA (jf (show 1≤64 by decide) _) hr.units;apply ⟨_,PSl.h (bo ⟨(psZ 2 scBtw.nd (nJ u1 (eW (pv 0) rfl) (ixZ (pv 1)) ⟨rfl,rfl,rfl,rfl⟩))⟩ (bo ⟨(psZ 3 scBtw.nd (nJ u1 (eW (pv 0) rfl) (ixZ (pv 1)) ⟨rfl,rfl,rfl,rfl⟩))⟩
  (bo ⟨(fG (PW.pt (mS (bQ nc (pv 2) iJ (cw _)) (mS (bQ nc (pv 3) iJ (cw _)) (lK (bQ iB (ixZ (pv 1)) (ixZ (pv 1)) (cw _)))))) (bE (bR iJ)) cF)⟩
  (bo ⟨(fG (bQ iB (ixZ (pv 1)) eS (cw _)) (bE (bR (pc1 G1 F1 hr (ah (pv 2) (ah (pv 3) (ah (pv 1) aA)))))) cF)⟩
  (bo ⟨(fG (bQ iB (ixZ (pv 1)) eS (cw _)) (bE (bR (pc1 G2 F2 hr (ah (eW (pv 0) rfl) (ah (pv 2) (ah (pv 3) (ah (pv 1) aA))))))) cF)⟩
  (gc ⟨(bR (pc1 G3 F3 hr (ah (eW (pv 0) rfl) (ah (pv 2) (ah (pv 3) (ah (pv 1) aA))))))⟩)))))),?_⟩
 try dsimp only [cxK]
 obtain⟨dp,hp⟩:=I.pl;have dl:=I.dl;obtain⟨x',y',hx',hy',ne,B⟩:=B;obtain⟨x,hx,rfl⟩:=aI.mp hx';obtain⟨y,hy,rfl⟩:=aI.mp hy';obtain⟨r,hq'⟩:∃r:List V,H q=some (.tup (.str k:: .str x.1.n:: .str y.1.n::r)):=by
  cases B with
  | change=>exact⟨_,hq⟩
  | apart=>exact⟨_,hq⟩
  | meet=>exact⟨_,hq⟩
 apply⟨ρ,p,CP,dp,_,ρ,hp,CC.cl,CC.n2,rfl,DL,rfl,.inl ⟨_,.inl dl⟩,ρ,q,τ,SqT.of hq',aP (j:=1) rfl,_,.inl ⟨_,.inr x.1.n,.inl dl,rfl,rfl⟩,?_⟩;rw[mJ I.nn hx];apply⟨ρ,p,CP,dp,_,ρ,hp,CC.cl,CC.n2,rfl,DL,rfl,.inl ⟨_,.inl dl⟩,ρ,q,τ,SqT.of hq',aP (j:=2) rfl,_,.inl ⟨_,.inr y.1.n,.inl dl,rfl,rfl⟩,?_⟩;rw[mJ I.nn hy];apply⟨ρ,rfl,ρ,jY (rS nofun) ⟨_,rfl,rfl,_,rfl,jY (rS nofun) ?_⟩⟩;apply⟨ρ,q,τ,SqT.of hq',aP (j:=1) rfl,ρ,q,τ,SqT.of hq',aP (j:=2) rfl,rfl,ρ,jY (rS λz=>ne (by injection z)) ?_⟩;have Ax:=(I.ln x hx).ok;have Ay:=(I.ln y hy).ok;apply⟨ρ,q,τ,SqT.of hq',aP (j:=0) rfl,rfl,ρ,?_⟩;cases B with
 | change h1 h2 h3 h4 =>
  apply nW (rR rfl) ?_;exact⟨ρ,ρ,ρ,_,_,_,_,_,q,_,_,_,_,_,_,_,_,_,_,ρ,Ax,Ay,hq,h1,h2,h3,h4,kk⟩
 | apart h1 h2 h3 h4 =>
  apply jY ⇑0 ?_;apply⟨ρ,q,τ,SqT.of hq',aP (j:=0) rfl,rfl,ρ,nW (rR rfl) ?_⟩;exact⟨ρ,p,CP,dp,_,ρ,hp,CC.cl,CC.n1,rfl,ρ,ρ,ρ,b,_,_,_,q,_,_,_,_,_,_,_,_,_,_,ρ,Ax,Ay,hq,h1,h2,h3,h4,kk⟩
 | meet h1 h2 h3 h4 h5 h6 =>
  apply jY ⇑0 ?_;apply⟨ρ,q,τ,SqT.of hq',aP (j:=0) rfl,rfl,ρ,jY ⇑0 ?_⟩;exact⟨ρ,p,CP,dp,_,ρ,hp,CC.cl,CC.n1,rfl,ρ,ρ,ρ,b,_,_,_,_,_,q,_,_,_,_,_,_,_,_,_,_,_,ρ,Ax,Ay,hq,h1,h2,h3,h4,h5,h6,kk⟩
theorem sn_at {t:aq}{x:Sn}(h:H t=some (.tup [.int x.s,.int x.g,.int x.l,.int x.o,.int x.w]))(b m:Int):mX H b m (.ref t)=snB b m x:=by
 simp only[mX,h];rfl
theorem sn_g1 {t:aq}{x:Sn}(h:H t=some (.tup [.int x.s,.int x.g,.int x.l,.int x.o,.int x.w])):G1 H (.ref t):=by
 apply⟨⟨"tuple",by simp only[tyn,h]⟩,λa xs ev ha x hx=>?_⟩;injection ev with ev
 subst ev;rw[h] at ha;injection ha with ha
 injection ha with ha
 subst ha;simp only[ay,bz,or_false] at hx
 rcases hx with rfl | rfl | rfl | rfl | rfl <;> exact⟨"int",rfl⟩
theorem scTakeB:cI ["self","row","span"] pza (defScope sTakeB):=by trivial
theorem ok_takeB {fb fs:aq}{db ds:aT}(F:Fun K "take_between" "Plan.take_between" sTakeB f fd)(PK:PlaK P w K mg base CP CL fh fs dh ds)(mb:pN K CP "span_between" fb)(FB:‹0› 3 fb db pza (spBtw CP CL))(bb:Binds K db pza [])
  (GS:Fn K mg "is_span" sSpan pzh f1 d1) (FS:‹0› 4 f1 d1 pzh rj):‹0› 5 f fd pza (qu CP CL):=by
 specialize F.ok scTakeB;obtain ⟨H0,p,q,DL,LB,b,zs,bt,k,ns,is,sn,rfl,I,f1,f2,hq,B,kk⟩:=h;have CC:=PK.cc;apply ⟨_,PSl.h (bo ⟨(psZ 2 scTakeB.nd (eU (pv 0) CC.cl mb FB (hr.mono ↥0) bb .nil g9 (ah (pv 1) aA)))⟩
  (bo ⟨(hV (jR bB bK bJ gH (eW (pv 0) rfl) (ah (pv 2) aA)))⟩
  (gc ⟨(bR (oN (pc1 GS FS hr (ah (eW (pv 0) rfl) (ah (jd (pv 0) CC.cl PK.m1 PK.f1 (hr.mono ↥0) PK.b1 .nil g9) (ah (pv 2) aA)))) (pQ (jd (pv 0) CC.cl PK.m2 PK.f2 hr PK.b2 .nil g9))))⟩))),?_⟩
 try dsimp only [cxK]
 obtain⟨dp,hp⟩:=I.pl;have big:(100000:Nat)≤az:=by decide
 apply⟨ρ,p,dp,ρ,hp,rfl,ρ,H0,p,q,DL,LB,b,zs,bt,k,ns,is,sn,rfl,I,hq,B,λt H1 S1 ht=>?_⟩;have I1:=I.same S1;obtain⟨dp1,hp1⟩:=I1.pl;obtain⟨ys,hB,dB⟩:=I1.lb;have ly:ys.length=bt.length:=by have:=dB.length;rwa [ae] at this
 apply⟨ρ,p,CP,dp1,_,ρ,hp1,CC.cl,CC.n3,rfl,.inl ⟨rfl,_,SqL.of hB⟩,ρ,LB,ς,hB,⋯,?_⟩;have k2:∀c o,c≠LB→H1 c=some o→(upd H1 LB (.lst (ys++[.ref t]))) c=some o:=λc o hc e=>by rw[aX hc];exact e
 have h2:(upd H1 LB (.lst (ys++[.ref t]))) LB=some (.lst (ys++[.ref t])):=aQ;generalize upd H1 LB (.lst (ys++[.ref t]))=H2 at k2 h2 ⊢;have ht2:=k2 _ _ (eN ht hB nofun) ht;have I2:PlI CP CL H0 H2 p b zs (bt++[sn]) DL LB:=by
  apply⟨λc o e=>k2 _ _ (aR e I1.nB) (I1.S _ _ e),⟨dp1,k2 _ _ (eN hp1 hB nofun) hp1⟩,I1.nL,I1.nB,I1.nD,k2 _ _ (eN I1.dl hB nofun) I1.dl,λz hz=>?_,I1.nd,I1.nn,_,h2,?_⟩
  ·have A:=I1.ln z hz
   obtain⟨kvs,d1,_⟩:=A.s.ex;exact A.kept (λb xs e=>k2 _ _ (eN e hB nofun) e) (λb C dx fs e=>k2 _ _ (eN e hB nofun) e) ((k2 _ _ (eN d1 hB nofun) d1).trans d1.symm)
  ·rw[aw]
   exact(mn dB k2 hB).append (jG.one (snD_at ht2))
 obtain⟨dp2,hp2⟩:=I2.pl;have fw:Few zs (bt++[sn]):=⟨⋯,by rw[ao];show bt.length+1≤100;lia⟩;apply⟨ρ,p,CP,dp2,_,ρ,hp2,CC.cl,CC.n1,rfl,ρ,p,dp2,ρ,hp2,rfl,H0,p,DL,LB,b,zs,ρ,I2,fw,λH3 S3=>?_⟩;have ht3:=S3 _ _ ht2;apply⟨ρ,b,mU zs,ρ,sn_g1 ht3,ρ,?_⟩;rw[sn_at ht3];apply kJ (λhc=>?_) (λhc=>?_)
 ·have I3:=I2.same S3
  obtain⟨dp3,hp3⟩:=I3.pl;apply⟨ρ,p,dp3,ρ,hp3,rfl,H0,p,DL,LB,b,zs,ρ,I3,fw,λH4 S4=>?_⟩;have e:=kk H4 (I3.same S4);rw[hc,lI] at e;exact e
 ·have e:=kk H3 (I2.same S3)
  have hc:snB b (mU zs) sn=false:=by simpa using hc
  rw[hc,kY] at e;exact e
end HN
namespace L2
open PySem PySem.Spec PyProof.Rows
theorem enumL_step {z i1:aq}{xs:Array af}{x:af}(E0:IsEnum s.heap z i1 k was)(J0:s.heap.IsListIter i1 a k)(T0:s.heap.IsList a xs)(hx:xs[k]? =some x)(hzi:z≠i1)
  (q:∀ g,IsEnumOut g z i1 ((k:Int)+1) x s.heap.objs.size→g.IsListIter i1 a (k+1)→g.get? s.heap.objs.size=some { cls:= .type "tuple",data:= .seq #[.int k s.toks,x] }→g.objs.size=s.heap.objs.size+1 →
   (∀ c o,c≠z→c≠i1→s.heap.get? c=some o→g.get? c=some o)→Q (.ref s.heap.objs.size) { s with heap:=g,toks:=s.toks+1 }) :
  aY (bF prog w) A (dC.«enumerate.__next__» ⟨[.ref z],[]⟩) (λfin s'=>∃v,fin= .done (.ret v)∧Q v s') E s:=by
 obtain⟨h0,gs,dr,tk,os⟩:=s;show aY _ _ (field (.ref z) 2 >>= _) _ _ _;apply aj (cT E0 rfl (x:= .ref i1) rfl ?_);apply aj (wpAny_nextOf_list_item J0 T0 hx λg1 J1 s1=>?_);have s1:de i1 h0 g1:=s1;have E1:IsEnum g1 z i1 k was:=(s1.2 z hzi).trans E0;show aY _ _ (field (.ref z) 3 >>= _) _ _ ⟨g1,gs,dr,tk,os⟩;apply aj (cT E1 rfl (x:=lB k) rfl ?_);show aY _ _ (field (.ref z) 4 >>= _) _ _ ⟨g1,gs,dr,tk,os⟩;apply aj (cT E1 rfl (x:= .none) rfl ?_);show aY _ _ (mkInt k >>= _) _ _ ⟨g1,gs,dr,tk,os⟩;apply aj (wpAny_mkInt ?_);show aY _ _ (setField (.ref z) 3 (lB ((k:Int)+1)) >>= _) _ _ ⟨g1,gs,dr,tk+1,os⟩;apply aj (fF E1 ∅ λg2 E2 s2=>?_);have s2:de z g1 g2:=s2;have E2:IsEnum g2 z i1 ((k:Int)+1) was:=E2;show aY _ _ (setField (.ref z) 4 .none >>= _) _ _ ⟨g2,gs,dr,tk+1,os⟩;apply aj (fF E2 ∅ λg3 E3 s3=>?_);have s3:de z g2 g3:=s3;have E3:IsEnum g3 z i1 ((k:Int)+1) was:=E3;show aY _ _ (newTuple [.int k tk,x] >>= _) _ _ ⟨g3,gs,dr,tk+1,os⟩;apply aj (wpAny_newTuple ?_);have E4:IsEnum (g3.push { cls:= .type "tuple",data:= .seq #[.int k tk,x] }) z i1 ((k:Int)+1) was:=au _ E3;have z3:g3.objs.size=h0.objs.size:=by rw[s3.1,s2.1,s1.1]
 have J4:(g3.push { cls:= .type "tuple",data:= .seq #[.int k tk,x] }).IsListIter i1 a (k+1):=by
  obtain⟨o,e,r⟩:=(J1.extBut s2.extBut hzi.symm).extBut s3.extBut hzi.symm;exact⟨o,au _ e,r⟩
 have T4:(g3.push { cls:= .type "tuple",data:= .seq #[.int k tk,x] }).get? h0.objs.size=some { cls:= .type "tuple",data:= .seq #[.int k tk,x] }:=by rw[←z3];exact aU _ rfl
 have z4:(g3.push { cls:= .type "tuple",data:= .seq #[.int k tk,x] }).objs.size=h0.objs.size+1:=by rw[eF,z3]
 have k4:∀c o,c≠z→c≠i1→h0.get? c=some o→(g3.push { cls:= .type "tuple",data:= .seq #[.int k tk,x] }).get? c=some o:=λc o c1 c2 e=>au _ (s3.extBut c o c1 (s2.extBut c o c1 (s1.extBut c o c2 e)))
 have zlt:z<h0.objs.size:=aW E0;generalize g3.push { cls:= .type "tuple",data:= .seq #[.int k tk,x] }=g4 at E4 J4 T4 z4 k4;rw[z3];show aY _ _ (gS (.ref z) >>= _) _ _ ⟨g4,gs,dr,tk+1,os⟩;apply aj ?_;unfold gS;apply aj (cT E4 rfl (x:= .none) rfl (aJ ?_));simp only[if_true];apply aj (wpAny_rule ?_);apply aj (cT E4 rfl (x:=was) rfl ?_);apply aj (fF E4 ∅ λg5 E5 s5=>?_);have s5:de z g4 g5:=s5;have E5:IsEnum g5 z i1 ((k:Int)+1) x:=E5;show aY _ _ (jj (.ref z) (.ref h0.objs.size) >>= _) _ _ ⟨g5,gs,dr,tk+1,os⟩;apply aj ?_;unfold jj;apply aj (fF E5 ∅ λg6 E6 s6=>?_);have s6:de z g5 g6:=s6;have E6:IsEnumOut g6 z i1 ((k:Int)+1) x h0.objs.size:=E6;apply fF E6 ∅ λg7 E7 s7=>?_
 have s7:de z g6 g7:=s7;have E7:IsEnumOut g7 z i1 ((k:Int)+1) x h0.objs.size:=E7;have up:∀c o,c≠z→g4.get? c=some o→g7.get? c=some o:=λc o c1 e=>s7.extBut c o c1 (s6.extBut c o c1 (s5.extBut c o c1 e))
 apply aj (wpAny_letGo (aJ ⟨_,rfl,q g7 E7 ?_ (up _ _ (jz zlt) T4) (by rw[s7.1,s6.1,s5.1,z4]) λc o c1 c2 e=>up c o c1 (k4 c o c1 c2 e)⟩));obtain⟨o,e,r⟩:=J4;exact⟨o,up _ o hzi.symm e,r⟩
theorem enumL_item {z i1:aq}{xs:Array af}{x:af}{Q:Option af→ar→Prop}(E0:IsEnum s.heap z i1 k was)(J0:s.heap.IsListIter i1 a k)(T0:s.heap.IsList a xs)(hx:xs[k]? =some x)(hzi:z≠i1)
  (q:∀ g,IsEnumOut g z i1 ((k:Int)+1) x s.heap.objs.size→g.IsListIter i1 a (k+1)→g.get? s.heap.objs.size=some { cls:= .type "tuple",data:= .seq #[.int k s.toks,x] }→g.objs.size=s.heap.objs.size+1 →
   (∀ c o,c≠z→c≠i1→s.heap.get? c=some o→g.get? c=some o)→Q (some (.ref s.heap.objs.size)) { s with heap:=g,toks:=s.toks+1 }):aY (bF prog w) A (pyNext (.ref z)) Q E s:=by
 have ht:s.TypeIs (.ref z) "enumerate" := ⟨_,E0,rfl⟩;unfold pyNext;apply aj (lV (gr (name:=ax "__next__") ht lJ (jw lJ ht F.entry_enumerate_next ?_ (F.args_enumerate_next_1 _))));exact enumL_step E0 J0 T0 hx hzi λg e1 e2 e3 e4 e5=>aJ (q g e1 e2 e3 e4 e5)
theorem enumL_end {z i1:aq}{xs:Array af}{Q:Option af→ar→Prop}(hh:A.handled=none)(E0:IsEnum s.heap z i1 k was)(J0:s.heap.IsListIter i1 a k)(T0:s.heap.IsList a xs)(hx:xs[k]? =none)
  (q:∀g,bM.ExtBut i1 s.heap g→Q none { s with heap:=g }):aY (bF prog w) A (pyNext (.ref z)) Q E s:=by
 have ht:s.TypeIs (.ref z) "enumerate" := ⟨_,E0,rfl⟩;unfold pyNext;apply aj (lV (gr (name:=ax "__next__") ht lJ (jw lJ ht F.entry_enumerate_next ?_ (F.args_enumerate_next_1 _))));show aY _ _ (field (.ref z) 2 >>= _) _ _ _;apply aj (cT E0 rfl (x:= .ref i1) rfl ?_);apply aj (wpAny_nextOf_list_end hh J0 T0 hx λg x kp hxx=>?_);obtain⟨o,e1,e2⟩:=hxx;apply aj (wpAny_isInstance (T := "StopIteration") (b:=true) ⟨o,e1,e2⟩ isSubtype_stop ?_);exact aJ (q _ kp)
section
open AutoSeq1 (wpAny_loadPart')
theorem enumL_new (a:aq)(xs:Array af) :
  Meets (dC.«enumerate.__new__» ⟨[.type "enumerate",.ref a],[]⟩) (fun _ R s=>s.heap.IsList a xs ∧
   R (.ok (.ret (.ref (s.heap.push { cls:= .type "list_iterator",data:= .fields #[.ref a,.int 0 0] }).objs.size)))
    {s with heap:=(s.heap.push { cls:= .type "list_iterator",data:= .fields #[.ref a,.int 0 0] }).push { cls:= .type "enumerate",data:= .fields #[.none,.bool false,.ref s.heap.objs.size,lB 0,.none,.none] } }) :=
 .of_wp λprog w A R s h=>by
  obtain⟨hp,g,d,tk,os⟩:=s;obtain⟨h1,h⟩:=h;have subE:=sub_enumerate;have k1:bM.IsList (ar.heap ⟨hp,g,d,tk,os⟩) a xs:=h1
  wp_walk using iw k1
  apply wpAny_stack_any λst=>aJ ?_
  split
  ·rename_i c _ _ _ _ _
   cases(c == af.type "enumerate")
   ·wp_walk using iw k1
    exact⟨ρ,h⟩
   ·wp_walk using iw k1
    exact⟨ρ,h⟩
  ·wp_walk using iw k1
   exact⟨ρ,h⟩
theorem call_enumL {xs:Array af}(h1:s.heap.IsList a xs)
  (q:∀g,IsEnum g (s.heap.objs.size+1) s.heap.objs.size 0 .none→g.IsListIter s.heap.objs.size a 0→g.objs.size=s.heap.objs.size+2→(∀c o,s.heap.get? c=some o→g.get? c=some o)→Q (.ref (s.heap.objs.size+1)) { s with heap:=g }) :
  aY (bF prog w) A (call (.type "enumerate") [.ref a]) Q E s:=by
 apply callType_new F.called_enumerate ↥0 (F.typeCall_enumerate_1 _) (F.newCall_enumerate_1 _) (λobj=>F.args_object_init_2 obj _) F.entry_enumerate_new (enumL_new a xs) ⟨h1,?_⟩;have e1:(s.heap.push { cls:= .type "list_iterator",data:= .fields #[.ref a,.int 0 0] }).objs.size=s.heap.objs.size+1:=eF ..;have f2:=aU (s.heap.push { cls:= .type "list_iterator",data:= .fields #[.ref a,.int 0 0] }) (o:={ cls:= .type "enumerate",data:= .fields #[.none,.bool false,.ref s.heap.objs.size,lB 0,.none,.none] }) rfl;show _∧_;rw[e1] at f2 ⊢;exact⟨⟨_,f2,rfl⟩,q _ f2 ⟨_,au _ (aU _ rfl),rfl,rfl⟩ (by rw[eF,e1]) λc o x=>au _ (au _ x)⟩
end
def ItL (a:aq):It :=
 ⟨fun i H=>∃ xs x,H a=some (.lst xs)∧xs[i]? =some x,
  λi H v H'=>∃p x,H p=none∧v= .ref p∧H'=upd H p (.tup [.int (i:Nat),x])∧∀xs,H a=some (.lst xs)→xs[i]? =some x,
  fun i H=>∃ xs,H a=some (.lst xs)∧xs.length≤i⟩
theorem turn_enumL {k0}{z i1:aq}(a:aq)(hzi:z≠i1) :
  Turn P w K (.Tuple es k0 pos) (ItL a) [z,i1] z (λi h=>(∃was,IsEnum h z i1 i was)∧h.IsListIter i1 a i) where
 mem:=by simp
 obj:=λi h st c hc=>by
  obtain⟨⟨was,e1⟩,⟨o2,e2,_,d2⟩⟩:=st;simp only[ay,bz,or_false] at hc
  rcases hc with rfl | rfl
  ·exact⟨_,e1,λv z=>by cases z⟩
  ·exact⟨_,e2,λv z=>by rw[d2] at z;cases z⟩
 keep:=λi h h' st k=>by
  obtain⟨⟨was,e1⟩,⟨o2,e2,r2⟩⟩:=st;exact⟨⟨was,k z ∅ _ e1⟩,⟨o2,k i1 ∅ _ e2,r2⟩⟩
 item:=by
  intro X hP hw hK hc i aN s σ H E I hf st hg;subst hP hw hK;obtain⟨xs,x,ha,hx⟩:=hg;obtain⟨⟨was,e1⟩,j1⟩:=st;obtain⟨its,rv,pt,_⟩:=I.list (SqL.of (K:=X.K) ha);obtain⟨u,hu,ru⟩:=rv.get hx;have nz:∀e∈[z,i1],H e=none:=λe he=>(hf e he).1
  have hT:H s.heap.objs.size=none:=I.fresh;apply enumL_item e1 j1 (pt.isList) (x:=u) (by simpa using hu) hzi λg z1 m1 tp sz kk=>⟨ρ,?_⟩
  apply wpAny_letOwnedTupleGo_enum z1 λg2 z2 s2=>?_
  have s2:de z g g2:=s2;have k2:∀e o,e ∉ [z,i1]→s.heap.get? e=some o→g2.get? e=some o:=λe o hn h=>by
   simp only[ay,bz,or_false,not_or] at hn;exact s2.extBut _ _ hn.1 (kk e o hn.1 hn.2 h)
  have zlt:z<s.heap.objs.size:=aW e1;have tp2:g2.get? s.heap.objs.size=some { cls:= .type "tuple",data:= .seq #[.int i s.toks,u] }:=s2.extBut _ _ (jz zlt) tp;have trk:∀e o,H e=some o→e ∉ [z,i1]:=λe o he hm=>by rw[nz e hm] at he;cases he
  have I':=I.tok (s.toks+1);have J:Inv X aN σ (upd H s.heap.objs.size (.tup [.int (i:Nat),x])) { s with heap:=g2,toks:=s.toks+1 }:=by
   apply I'.turnAll (ch:=[z,i1]) (λe he=>hf e he) k2 (λe o h=>by rw[aX (aR h hT)];exact h) (λe o h n=>by rw[aX (cG (aW h))];exact n) λe o h=>?_
   by_cases q:e=s.heap.objs.size
   ·subst q
    rw[aQ] at h;cases h;exact⟨by show 2≤az;decide,[.int i s.toks,u],.cons ⟨_,rfl⟩ (.cons ru .nil),_,tp2,rfl,rfl,ρ⟩
   ·rw[aX q] at h
    apply (I.hok e o h).stay (fun c v hc' q'=>k2 c v (by
     rcases hc' with z' | z'
     ·rw[z'];exact trk e o h
     ·exact trk c _ z') q') (fun c q'=>by rw [aX (aR q' hT)];exact q') fun c xs q'=>by rw [aX (aR q' hT)];exact q'
  apply⟨.ref s.heap.objs.size,_,J,rfl,⟨_,x,hT,rfl,rfl,λxs' h'=>by rw[ha] at h';cases h';exact hx⟩,⟨⟨u,z2⟩,m1.extBut s2.extBut hzi.symm⟩,λe he=>?_⟩;obtain⟨o4,q4,_⟩:=j1;have hlt:e<s.heap.objs.size:=by
   simp only[ay,bz,or_false] at he
   rcases he with rfl | rfl
   ·exact aW e1
   ·exact aW q4
  rw[aX (cG hlt)];exact nz e he
 done:=by
  intro X hP hw hK hc i aN s σ H E I hf st hg;subst hP hw hK;obtain⟨xs,ha,hx⟩:=hg;obtain⟨⟨was,e1⟩,j1⟩:=st;obtain⟨its,rv,pt,_⟩:=I.list (SqL.of (K:=X.K) ha);obtain⟨f0,f1,f2,f3,f4,f5⟩:=hf i1 ∅;have hl:=rv.length;exact enumL_end (I.ok.hd hc) e1 j1 (pt.isList) (by simp;lia) λg kp=>⟨rfl,I.turned (t':=s.toks) (λb o hb e=>kp b o hb e) f0 f1 f3 f4 f5⟩
 self:=λ_ _ _ _ _ st h=>let ⟨⟨_,e1⟩,_⟩:=st;wpAny_pyIter_enum e1 h
def iEnumL (ta:TA):TI:=λσ H R=>ta σ H λvs H1=>∃a xs,vs=[.ref a]∧H1 a=some (.lst xs)∧R (ItL a) H1
theorem pi_enumL {ta:TA}{p:Pos}{k0}{pt:Pos}(hg:Gl X "enumerate")(hm:X.mg "enumerate" =none)(ha:PA X [ea] ta)(hs:autoParam (br [ea] X.env=[(false,dY ea X.env)]) L2.au0._auto_1) :
  PI X (.Tuple es k0 pt) (.Call (.Name "enumerate" p) [ea] [] pos) (iEnumL ta):=by
 intro aN s σ H R I h;apply Call_ (oS I hg hm boot_enumerate (eT (thn (ha pos aN s σ H _ I h) λus s1 hz0=>?_) hs rfl));obtain⟨vs,H1,I1,r1,q1⟩:=hz0;obtain⟨a,xs,e,hA,q⟩:=q1;subst e;obtain⟨u1,rfl,r2⟩:=nV r1;cases(show u1=af.ref a from r2);obtain⟨its,rv,pt',_⟩:=I1.list (SqL.of (K:=X.K) hA);apply call_enumL (pt'.isList) λg z1 j1 sz kk=>?_
 apply wpAny_pyIter_enum z1 ⟨s1.heap.objs.size+1,[s1.heap.objs.size+1,s1.heap.objs.size],_,ItL a,H1,rfl,I1.kept (t':=s1.toks) kk,turn_enumL a (by show @Ne Nat _ _;lia),⟨⟨_,z1⟩,j1⟩,λe he=>?_,q⟩;have hge:s1.heap.objs.size≤e:=by
  simp only[ay,bz,or_false] at he
  rcases he with rfl | rfl <;> (show @LE.le Nat _ _ _;lia)
 exact I1.fpOk hge (I1.hok.fresh hge)
theorem for_enumL {D:rM}(Pv:Nat→St→Hp→Prop)(h0:Pv 0 σ H)(hl:∀i σ H,i≤xs.length→Pv i σ H→H a=some (.lst xs))
  (hs:∀i x p σ H,xs[i]? =some x→Pv i σ H→H p=none→g (.ref p) σ (upd H p (.tup [.int (i:Nat),x])) λσ2 H2=>tb { D with nx:=Pv (i+1),ct:=Pv (i+1),bk:=D.nx } σ2 H2) (hd:∀σ H,Pv xs.length σ H→D.nx σ H) :
  ∃W:Nat→Nat→St→Hp→Prop,(∃m,W 0 m σ H)∧∀i m σ H,W i m σ H →
   ((ItL a).stop i H∧D.nx σ H)∨((ItL a).go i H∧∃N:St→Hp→Prop,(∀σ' H',N σ' H'→∃m',m'<m∧W (i+1) m' σ' H')∧∀x H',(ItL a).yld i H x H'→g x σ H' λσ2 H2=>tb { D with nx:=N,ct:=N,bk:=D.nx } σ2 H2):=by
 apply⟨λi m σ H=>i≤xs.length∧m=xs.length - i∧Pv i σ H,⟨_,cV _,rfl,h0⟩,λi m σ H hz0=>?_⟩;obtain⟨hi,hm,hp⟩:=hz0;have qa:=hl i σ H hi hp
 by_cases e:i=xs.length
 ·subst e
  exact .inl ⟨⟨xs,qa,aG _⟩,hd σ H hp⟩
 ·have hlt:i<xs.length:=gd hi e
  apply .inr ⟨⟨xs,_,qa,gE hlt⟩,Pv (i+1),λσ' H' hp'=>⟨xs.length - (i+1),⋯,⋯,rfl,hp'⟩,λv H3 hy=>?_⟩;obtain⟨p,x,hn,rfl,rfl,hx⟩:=hy;exact hs i x p σ H (hx xs qa) hp hn
end L2
namespace HN
open PySem L2 PyProof.Rows HT2
abbrev sTakeS:c8:=clsOf cPla 6
def Ln.stay (x:Ln)(z:Str)(v:Int×Int×Int):Ln:={ x with st:=x.st++[(z,v)] }
def kD (n z:Str)(v:Int×Int×Int)(x:Ln):Ln:=if x.n=n then x.stay z v else x
def stayX (n z:Str)(v:Int×Int×Int)(x:LX):LX:=(kD n z v x.1,x.2)
theorem stayAt_n (n z:Str)(v:Int×Int×Int)(x:Ln):(kD n z v x).n=x.n:=by unfold kD;split <;> rfl
theorem stayAt_rs (n z:Str)(v:Int×Int×Int)(x:Ln):(kD n z v x).rs=x.rs:=by unfold kD;split <;> rfl
theorem sty_snoc {st:List (Str×Int×Int×Int)}{v:Int×Int×Int}(h:z ∉ st.map (·.1))(y:Str):sty (st++[(z,v)]) y=if y=z then v else sty st y:=by
 unfold sty;rw[List.find?_append]
 by_cases e:y=z
 ·subst e
  rw[rP rfl];have:st.find? (λp=>decide (p.1=y))=none:=by
   rw[List.find?_eq_none];intro p hp;have:p.1≠y:=λz=>h (aI.mpr ⟨p,hp,z⟩)
   simp[this]
  rw[this];simp
 ·rw[rO e]
  have:[(z,v)].find? (λp=>decide (p.1=y))=none:=by simp[cQ e]
  rw[this];simp
theorem linK_stay (n z:Str)(v:Int×Int×Int)(zs:List LX):k7 (zs.map (stayX n z v))=k7 zs:=by
 unfold k7;rw[bf];apply cJ λx _=>?_
 show(Sum.inr (kD n z v x.1).n,V.ref x.2.1)=_;rw[stayAt_n]
theorem hapN_stay (n z:Str)(v:Int×Int×Int)(zs:List LX):mU (zs.map (stayX n z v))=mU zs:=by
 unfold mU;rw[bf];congr 1;apply cJ λx _=>?_
 show 2 * (((kD n z v x.1).rs.length:Nat):Int)=_;rw[stayAt_rs]
inductive qr (CP CL:aq)(vs:List V)(H:Hp)(Q:VK)(_:XK):Prop
 | mk (H0:Hp)(p q DL LB:aq)(b:Int)(zs:List LX)(bt:List Sn)(x:LX)(z:Str)(l o w:Int)(i:Nat)(_:vs=[.ref p,.ref q])(_:PlI CP CL H0 H p b zs bt DL LB)(_:Few zs bt)(_:H q=some (.tup [.str "stay",.str x.1.n,.str z,.int l,.int o,.int w]))(_:x∈zs)(_:z ∉ x.1.st.map (·.1))(_:x.1.st.length≤1000)(_:x.1.ss[i]? =some z)(_:1≤i)(_:i+1<x.1.ss.length)(_:∀H',PlI CP CL H0 H' p b (zs.map (stayX x.1.n z (l,o,w))) bt DL LB→Q (.bl (snB b (mU zs) ⟨x.1.fi+2 * i - 1,x.1.fi+2 * i,l,o,w⟩)) H')
theorem pq:cI ["self","row","line","stop"] pza (defScope sTakeS):=by trivial
theorem ok_takeS {fs fr:aq}{ds:aT}(F:Fun K "take_stay" "Plan.take_stay" sTakeS f fd)(PK:PlaK P w K mg base CP CL fh fs dh ds)(LK:LinK P w K mg base CL fc fg fr dc dg dr)(GS:Fn K mg "is_span" sSpan pzh f1 d1)(FS:‹0› 4 f1 d1 pzh rj):‹0› 5 f fd pza (qr CP CL):=by
 specialize F.ok pq;obtain⟨H0,p,q,DL,LB,b,zs,bt,x,z,l,o,w,i,rfl,I,fw,hq,hx,hz,lst,e1,e2,e3,k⟩:=h;have u1:=jA (jf (show 1≤64 by decide) _) hr.units;have CC:=PK.cc;have LC:=LK.cc;have big:(100000:Nat)≤az:=by decide
 apply ⟨_,PSl.h (bo ⟨(psZ 2 pq.nd (nJ u1 (eW (pv 0) rfl) (ixZ (pv 1)) ⟨rfl,rfl,rfl,rfl⟩))⟩ (bo ⟨(psZ 3 pq.nd (ixZ (pv 1)))⟩
  (bo ⟨(fG (PW.pt (mS (bQ nc (pv 2) iJ (cw _)) (lK (pt_cmp (pc_din u1 (pv 3) (eW (pv 2) rfl)) rfl)))) (bE (bR pe_bl)) cF)⟩
  (bo ⟨(ps_dput u1 (eW (pv 2) rfl) (pv 3) (fe mF (pv 1) (fV aO) gW) rfl)⟩
  (gc ⟨(bR (pc1 GS FS hr (ah (eW (pv 0) rfl) (ah (jd (pv 0) CC.cl PK.m1 PK.f1 (hr.mono ↥0) PK.b1 .nil g9) (ah (cH op_catA (jc (ah (eU (pv 2) LC.cl LK.m1 LK.f1 (hr.mono ↥0) LK.b1 .nil g9 (ah (pv 3) aA)) (ah (eU (pv 2) LC.cl LK.m2 LK.f2 (hr.mono ↥0) LK.b2 .nil g9 (ah (pv 3) aA)) aA))) (fe mF (pv 1) (fV aO) gW)) aA)))))⟩))))),?_⟩
 try dsimp only [cxK]
 obtain⟨dp,hp⟩:=I.pl;have dl:=I.dl;have cut3:cutV [V.str "stay",.str x.1.n,.str z,.int l,.int o,.int w] (some 3) none=[.int l,.int o,.int w]:=rfl;apply⟨ρ,p,CP,dp,_,ρ,hp,CC.cl,CC.n2,rfl,DL,rfl,.inl ⟨_,.inl dl⟩,ρ,q,τ,SqT.of hq,aP (j:=1) rfl,_,.inl ⟨_,.inr x.1.n,.inl dl,rfl,rfl⟩,?_⟩;rw[mJ I.nn hx];apply⟨ρ,q,τ,SqT.of hq,aP (j:=2) rfl,?_⟩;have A:=I.ln x hx;obtain⟨dx,a,bb,hX,ha,hb⟩:=id A.d;obtain⟨kvs,hD,lk,hst⟩:=id A.s.ex;have hno:me kvs (.inr z)=none:=by
  cases e:me kvs (.inr z) with
  | none=>rfl
  | some v=>exact rQ ((hst z).2.2 (by rw[e];rfl)) hz
 apply⟨ρ,rfl,ρ,jY (rS nofun) ?_⟩;apply⟨ρ,ρ,x.2.1,CL,dx,_,ρ,hX,LC.cl,LC.n4,rfl,x.2.2,ρ,.inl ⟨kvs,.inr z,.inl hD,rfl,rfl⟩,ρ,jY (by rw[hno];rfl) ?_⟩;apply⟨ρ,ρ,q,ρ,SqT.of hq,(by intro y;exact rQ y.1 (show ¬(3:Nat)=0 by decide)),λt1 H1 S1 h1=>?_⟩;rw[cut3] at h1;have I1:=I.same S1;apply⟨ρ,x.2.1,CL,dx,_,ρ,S1 _ _ hX,LC.cl,LC.n4,rfl,ρ,x.2.2,ρ,.inl ⟨kvs,.inr z,S1 _ _ hD,rfl,⋯,rfl⟩,?_⟩;rw[putK_new hno];have k2:∀c u,c≠x.2.2→H1 c=some u→(upd H1 x.2.2 (.dK (kvs++[(.inr z,.ref t1)]))) c=some u:=λc u hc e=>by rw[aX hc];exact e
 have h2:(upd H1 x.2.2 (.dK (kvs++[(.inr z,.ref t1)]))) x.2.2=some (.dK (kvs++[(.inr z,.ref t1)])):=aQ;generalize upd H1 x.2.2 (.dK (kvs++[(.inr z,.ref t1)]))=H2 at k2 h2 ⊢;have hD1:=S1 _ _ hD;have kT:∀c xs,H1 c=some (.tup xs)→H2 c=some (.tup xs):=λc xs e=>k2 _ _ (eN e hD1 nofun) e
 have kI:∀c C dx fs,H1 c=some (.ins C dx fs)→H2 c=some (.ins C dx fs):=λc C dx fs e=>k2 _ _ (eN e hD1 nofun) e
 have nDL:DL≠x.2.2:=λe=>(bP.mp I.nd).1 (by rw[e];exact aI.mpr ⟨x,hx,rfl⟩)
 have S2:StA H2 x.2.2 (x.1.st++[(z,l,o,w)]):=by
  apply⟨_,h2,by rw[ao,ao,lk];rfl,λy=>?_⟩;have ev:me (kvs++[(.inr z,.ref t1)]) (.inr y)=(me kvs (.inr y)).or (if y=z then some (.ref t1) else none):=by
   unfold me;rw[List.find?_append]
   by_cases e:y=z
   ·subst e
    rw[rP rfl];have:[((Sum.inr y:Key),V.ref t1)].find? (λkv=>decide (kv.1=Sum.inr y))=some (.inr y,.ref t1):=by simp
    rw[this];cases(kvs.find? λkv=>decide (kv.1=Sum.inr y)) <;> rfl
   ·rw[rO e]
    have:[((Sum.inr z:Key),V.ref t1)].find? (λkv=>decide (kv.1=Sum.inr y))=none:=by simp[cQ e]
    rw[this];cases(kvs.find? λkv=>decide (kv.1=Sum.inr y)) <;> rfl
  rw[ev,sty_snoc hz]
  by_cases e:y=z
  ·subst e
   rw[hno,rP rfl,rP rfl];apply⟨λv hv=>⟨t1,(by cases hv;rfl),kT _ _ h1⟩,(λh=>by cases h),(λ_=>by simp)⟩
  ·rw[rO e,rO e,Option.or_none]
   obtain⟨g1,g2,g3⟩:=hst y;apply⟨λv hv=>?_,λh=>⟨(g2 h).1,λm=>?_⟩,λh=>?_⟩
   ·obtain⟨a,q1,q2⟩:=g1 v hv
    exact⟨a,q1,kT _ _ (S1 _ _ q2)⟩
   ·rw[aw] at m
    rcases aS.mp m with m | m
    ·exact(g2 h).2 m
    ·exact e (aB.mp m)
   ·rw[aw]
    exact cB _ (g3 h)
 have nm:∀y∈zs,y.1.n=x.1.n→y=x:=λy hy e=>by
  obtain⟨i1,h1⟩:=cE hy;obtain⟨i2,h2⟩:=cE hx;have l1:=(ai.mp h1);have l2:=(ai.mp h2);obtain⟨a1,b1⟩:=l1;obtain⟨a2,b2⟩:=l2;have:i1=i2:=by
   have nn:=gN.mp I.nn
   rcases ic i1 i2 with q | q | q
   ·exact rQ (by rw[gj,gj,b1,b2];exact e) (nn i1 i2 (by rw[ae];exact a1) (by rw[ae];exact a2) q)
   ·exact q
   ·exact rQ (by rw[gj,gj,b1,b2];exact e.symm) (nn i2 i1 (by rw[ae];exact a2) (by rw[ae];exact a1) q)
  subst this;rw[←b1,←b2]
 have I2:PlI CP CL H0 H2 p b (zs.map (stayX x.1.n z (l,o,w))) bt DL LB:=by
  obtain⟨ys,hB,dB⟩:=I1.lb;obtain⟨dp1,hp1⟩:=I1.pl;have nD0:=I.nD x hx;apply⟨λc u e=>k2 _ _ (aR e nD0) (I1.S _ _ e),⟨dp1,kI _ _ _ _ hp1⟩,I.nL,I.nB,λy hy=>?_,?_,λy hy=>?_,?_,?_,ys,k2 _ _ (eN hB hD1 nofun) hB,?_⟩
  ·obtain⟨y',hy',rfl⟩:=aI.mp hy
   exact I.nD y' hy'
  ·rw[linK_stay];exact k2 _ _ nDL I1.dl
  ·obtain⟨y',hy',rfl⟩:=aI.mp hy
   have A':=I1.ln y' hy';show LnA H2 CL y'.2.1 y'.2.2 (kD x.1.n z (l,o,w) y'.1);unfold kD;split
   ·rename_i e
    obtain rfl:=nm y' hy' e;obtain⟨dx',a',b',g1,g2,g3⟩:=A'.d;exact⟨⟨dx',a',b',kI _ _ _ _ g1,kT _ _ g2,kT _ _ g3⟩,S2,A'.nd,A'.two,A'.few,A'.rl⟩
   ·rename_i e
    obtain⟨kv',d1,_⟩:=A'.s.ex;have ny:y'.2.2≠x.2.2:=λz=>by
     have nn:=(bP.mp I.nd).2;obtain⟨i1,h1⟩:=cE hy';obtain⟨i2,h2⟩:=cE hx;obtain⟨a1,b1⟩:=(ai.mp h1);obtain⟨a2,b2⟩:=(ai.mp h2);have nn:=gN.mp nn
     rcases ic i1 i2 with q | q | q
     ·exact rQ (by rw[gj,gj,b1,b2];exact z) (nn i1 i2 (by rw[ae];exact a1) (by rw[ae];exact a2) q)
     ·subst q
      exact e (by rw[←b1,←b2])
     ·exact rQ (by rw[gj,gj,b1,b2];exact z.symm) (nn i2 i1 (by rw[ae];exact a2) (by rw[ae];exact a1) q)
    exact A'.kept kT kI ((k2 _ _ ny d1).trans d1.symm)
  ·rw[bf]
   exact I.nd
  ·rw[bf]
   have:(λy:LX=>(stayX x.1.n z (l,o,w) y).1.n)=λy:LX=>y.1.n:=funext λy=>stayAt_n _ _ _ _
   rw[show((λy:LX=>y.1.n) ∘ stayX x.1.n z (l,o,w))=λy:LX=>y.1.n from this];exact I.nn
  ·have fin:∀{vs:List V} {sp:List Sn},jG H1 vs (sp.map snD)→jG H2 vs (sp.map snD):=by
    intro vs sp
    induction sp generalizing vs with
    | nil=>intro h;cases h;exact .nil
    | cons x sp ih =>
     intro h;cases h with
     | cons h r =>
      obtain⟨a,us,rfl,ha,rz⟩:=h.tup_of;have ez:=jG.ints_of rz;subst ez;exact .cons (.tup (kT _ _ ha) (jG.ints _)) (ih r)
   exact fin dB
 obtain⟨dp2,hp2⟩:=I2.pl;have fw2:Few (zs.map (stayX x.1.n z (l,o,w))) bt:=⟨by rw[ae];exact fw.a,fw.b⟩;apply⟨ρ,p,CP,dp2,_,ρ,hp2,CC.cl,CC.n1,rfl,ρ,p,dp2,ρ,hp2,rfl,H0,p,DL,LB,b,_,bt,rfl,I2,fw2,λH3 S3=>?_⟩;rw[hapN_stay];have L3:LinD H3 CL x.2.1 x.1.n x.1.ss x.1.rs x.2.2 x.1.fi:=⟨dx,a,bb,S3 _ _ (kI _ _ _ _ (S1 _ _ hX)),S3 _ _ (kT _ _ (S1 _ _ ha)),S3 _ _ (kT _ _ (S1 _ _ hb))⟩;obtain⟨dx3,a3,b3,g3,gA,gB⟩:=id L3;apply⟨ρ,x.2.1,dx3,ρ,g3,rfl,ρ,x.2.1,x.2.2,x.1.n,z,x.1.ss,x.1.rs,x.1.fi,rfl,L3,A.few,A.two,A.nd,λH4 S4=>⟨λi' c1 c2=>?_,λno=>rQ (no i e1) ⋯⟩⟩;obtain rfl:=(kH A.nd e1 c1).symm;have L4:LinD H4 CL x.2.1 x.1.n x.1.ss x.1.rs x.2.2 x.1.fi:=⟨dx3,a3,b3,S4 _ _ g3,S4 _ _ gA,S4 _ _ gB⟩;apply⟨ρ,x.2.1,dx3,ρ,S4 _ _ g3,rfl,ρ,x.2.1,x.2.2,x.1.n,z,x.1.ss,x.1.rs,x.1.fi,rfl,L4,A.few,A.two,A.nd,λH5 S5=>⟨λi' c1 c2=>?_,λno=>rQ (no i e1) ⋯⟩⟩;obtain rfl:=(kH A.nd e1 c1).symm;apply⟨szZ2,λt6 H6 S6 h6=>?_⟩;have S36:=S4.trans (S5.trans S6);have hq6:H6 q=some (.tup [.str "stay",.str x.1.n,.str z,.int l,.int o,.int w]):=S36 _ _ (S3 _ _ (kT _ _ (S1 _ _ hq)));apply⟨ρ,ρ,q,ρ,SqT.of hq6,(by intro y;exact rQ y.1 (show ¬(3:Nat)=0 by decide)),λt7 H7 S7 h7=>?_⟩;rw[cut3] at h7;apply⟨t6,t7,ς,S7 _ _ h6,h7,(by show 2+3≤az;decide),λt8 H8 S8 h8=>?_⟩;have h8:H8 t8=some (.tup [.int (x.1.fi+2 * i - 1),.int (x.1.fi+2 * i),.int l,.int o,.int w]):=h8;apply⟨b,mU zs,ρ,sn_g1 (x:=⟨_,_,_,_,_⟩) h8,?_⟩;rw[sn_at (x:=⟨x.1.fi+2 * i - 1,x.1.fi+2 * i,l,o,w⟩) h8];exact k H8 (I2.same (S3.trans (S36.trans (S7.trans S8))))
abbrev sPlanBy:c8:=top 78
abbrev rD:c8:=top 79
def jK (ls:List Ln):Int:=(ls.map λl=>2 * (l.rs.length:Int)).sum
def allSL (ls:List Ln)(bt:List Sn):List Sn:=ls.flatMap ownS++bt
def allLL (ls:List Ln):List (List V):=ls.flatMap λl=>labs l.n l.ss
def lW (ls:List Ln)(bt:List Sn):Bool:=decide (jK ls≤16) && decide ((allSL ls bt).length≤40)
theorem oy (zs:List LX):mU zs=jK (zs.map (·.1)):=by unfold mU jK;rw[bf];rfl
theorem allSL_of (zs:List LX)(bt:List Sn):allS zs bt=allSL (zs.map (·.1)) bt:=by unfold allS allSL;rw[List.flatMap_map]
theorem allLL_of (zs:List LX):allL zs=allLL (zs.map (·.1)):=by unfold allL allLL;rw[List.flatMap_map]
theorem oG (zs:List LX)(bt:List Sn):small zs bt=lW (zs.map (·.1)) bt:=by unfold small lW;rw[oy,allSL_of]
inductive Tk (b:Int):List Ln→List Sn→PR→List Ln→List Sn→Prop
 | beat {ls:List Ln} {bt:List Sn} {b':Int} (h:1≤b'):Tk b ls bt (.beat b') ls bt
 | line {ls:List Ln} {bt:List Sn} {n:Str} {ss:List Str} {rs:List Int} (hn:n ∉ ls.map (·.n)) (nd:ss.Nodup) (two:2≤ss.length) (few:ss.length≤1000) (rl:ss.length=rs.length+1) (sm:lW (ls++[⟨n,ss,rs,[],jK ls⟩]) bt=true):Tk b ls bt (.line n ss rs) (ls++[⟨n,ss,rs,[],jK ls⟩]) bt
 | btw {ls:List Ln} {bt:List Sn} {k:Str} {ns:List Str} {is:List Int} {sn:Sn} (B:Btw b ls k ns is sn) (h1:k ≠ "beat") (h2:k ≠ "line") (h3:k ≠ "stay") (ok:snB b (jK ls) sn=true) (sm:lW ls (bt++[sn])=true):Tk b ls bt (.oth k ns is) ls (bt++[sn])
 | stay {ls:List Ln} {bt:List Sn} {x:Ln} {z:Str} {l o w:Int} {i:Nat} (hx:x∈ls) (hz:z ∉ x.st.map (·.1)) (few:x.st.length≤1000) (h1:x.ss[i]? =some z) (h2:1≤i) (h3:i+1<x.ss.length) (ok:snB b (jK ls) ⟨x.fi+2 * i - 1,x.fi+2 * i,l,o,w⟩=true):Tk b ls bt (.oth "stay" [x.n,z] [l,o,w]) (ls.map (kD x.n z (l,o,w))) bt
inductive Runs (b:Int):List Ln→List Sn→List PR→List Ln→List Sn→Prop
 | nil {ls:List Ln} {bt:List Sn}:Runs b ls bt [] ls bt
 | cons {ls l1 l2:List Ln} {bt b1 b2:List Sn} {r:PR} {rs:List PR} (h:Tk b ls bt r l1 b1) (t:Runs b l1 b1 rs l2 b2):Runs b ls bt (r::rs) l2 b2
inductive spTakeP (CP CL:aq)(vs:List V)(H:Hp)(Q:VK)(_:XK):Prop
 | mk (H0:Hp)(p q DL LB:aq)(b:Int)(zs:List LX)(bt bt':List Sn)(ls':List Ln)(r:PR)(_:vs=[.ref p,.ref q])(_:PlI CP CL H0 H p b zs bt DL LB)(_:zs.length≤90)(_:bt.length≤90)(_:r.at H q)(_:Tk b (zs.map (·.1)) bt r ls' bt')(_:∀zs' H',zs'.map (·.1)=ls'→zs'.length≤zs.length+1→bt'.length≤bt.length+1→PlI CP CL H0 H' p b zs' bt' DL LB→Q (.bl true) H')
structure PlaT (P:aK)(w:bg)(K:ak)(mg:Str→Option af)(base:bM)(CP CL fi ft fa fl:aq)(di dt da dl:aT):Prop where
 mke:Mk K CP fi
 gl:mg "Plan" =some (.ref CP)
 f0:‹0› 1 fi di pzr (spInitP CP)
 b0:Binds K di pzr []
 mT:pN K CP "take" ft
 fT:‹0› 6 ft dt pza (spTakeP CP CL)
 bT:Binds K dt pza []
 mA:pN K CP "all_spans" fa
 fA:‹0› 3 fa da pzb (spAllS CP CL)
 bA:Binds K da pzb []
 mL:pN K CP "all_labels" fl
 fL:‹0› 2 fl dl pzb (spAllL CP CL)
 bL:Binds K dl pzb []
def vD:V→Dt
 | .str s=> .str s
 | _=> .non
theorem labs_strs (n:Str):∀(ss:List Str),∀t∈labs n ss,∃a b c:Str,t=[.str a,.str b,.str c]
 | [],t,h=>by cases h
 | [_],t,h=>by cases h
 | s::u::r,t,h=>by
  rcases ay.mp h with e | h
  ·exact⟨_,_,_,e⟩
  ·rcases ay.mp h with e | h
   ·exact⟨_,_,_,e⟩
   ·exact labs_strs n (u::r) t h
theorem labs_isD {H:Hp}:∀{as:List aq} {ts:List (List V)},as.map H=ts.map (λt=>some (HO.tup t))→(∀t∈ts,∃a b c:Str,t=[.str a,.str b,.str c])→jG H (as.map V.ref) (ts.map λt=> .tup (t.map vD))
 | [],[],_,_=> .nil
 | [],_::_,h,_=>by cases h
 | _::_,[],h,_=>by cases h
 | a::as,t::ts,h,q=>by
  rw[bq,bq] at h;injection h with h1 h2
  obtain⟨x,y,z,rfl⟩:=q t bh;exact .cons (.tup h1 (.cons (.str _) (.cons (.str _) (.cons (.str _) .nil)))) (labs_isD h2 λt ht=>q t (aE _ ht))
theorem scTakeP:cI pza pza (defScope sTakeP):=by trivial
theorem ok_takeP (F:Fun K "take" "Plan.take" sTakeP f fd)(CC:PlaC K CP)(m1:pN K CP "take_line" f1)(F1:‹0› 5 f1 d1 pza (qt CP CL))(b1:Binds K d1 pza [])
  (m2:pN K CP "take_between" f2) (F2:‹0› 5 f2 d2 pza (qu CP CL)) (b2:Binds K d2 pza []) (m3:pN K CP "take_stay" f3) (F3:‹0› 5 f3 d3 pza (qr CP CL)) (b3:Binds K d3 pza []):‹0› 6 f fd pza (spTakeP CP CL):=by
 specialize F.ok scTakeP;obtain ⟨H0,p,q,DL,LB,b,zs,bt,bt',ls',r,rfl,I,f1,f2,hq,tk,k⟩:=h;apply ⟨_,PSl.h (bo ⟨(fG (bQ iB (ixZ (pv 1)) eS (cw _)) (bE (bR (jQ op_ge (ixZ (pv 1)) aO (cw _)))) cF)⟩
  (bo ⟨(fG (bQ iB (ixZ (pv 1)) eS (cw _)) (bE (bR (eU (pv 0) CC.cl m1 F1 hr b1 .nil g9 (ah (pv 1) aA)))) cF)⟩
  (bo ⟨(fG (bQ iB (ixZ (pv 1)) eS (cw _)) (bE (bR (eU (pv 0) CC.cl m3 F3 hr b3 .nil g9 (ah (pv 1) aA)))) cF)⟩
  (gc ⟨(bR (eU (pv 0) CC.cl m2 F2 hr b2 .nil g9 (ah (pv 1) aA)))⟩)))),?_⟩
 try dsimp only [cxK]
 obtain⟨dp,hp⟩:=I.pl;cases tk with
 | beat h =>
  have hq:H q=some (.tup [.str "beat",.int _]):=hq;apply⟨ρ,q,τ,SqT.of hq,aP (j:=0) rfl,rfl,ρ,nW (rR rfl) ?_⟩;apply⟨ρ,q,τ,SqT.of hq,aP (j:=1) rfl,ς,?_⟩;have e:=k zs H rfl ⋯ ⋯ I;show Q (.bl (decide ((1:Int)≤_))) H;rw[rR h];exact e
 | @line n ss rs hn nd two few rl sm =>
  obtain⟨a,b',h1,h2,h3⟩:=id hq;apply⟨ρ,q,τ,SqT.of h3,aP (j:=0) rfl,rfl,ρ,jY ⇑0 ?_⟩;apply⟨ρ,q,τ,SqT.of h3,aP (j:=0) rfl,rfl,ρ,nW (rR rfl) ?_⟩;rw[bf] at hn;apply⟨ρ,p,dp,ρ,hp,rfl,ρ,H0,p,q,DL,LB,b,zs,bt,n,ss,rs,rfl,I,f1,f2,hq,two,few,rl,λno=>?_,λ_ _ x D H' I'=>?_⟩
  ·rcases no with no | no
   ·exact rQ no hn
   ·exact rQ nd no
  ·have e:=k (zs++[(⟨n,ss,rs,[],mU zs⟩,x,D)]) H' (by rw[aw,oy];rfl) (by rw[ao];exact aG _) ⋯ I'
   rw[oG,aw];show Q (.bl (lW (zs.map (·.1)++[⟨n,ss,rs,[],mU zs⟩]) bt)) H';rw[oy,sm];exact e
 | @btw k' ns is sn B h1 h2 h3 ok sm =>
  have hq':H q=some (.tup (.str k'::(ns.map V.str++is.map V.int))):=hq;apply⟨ρ,q,τ,SqT.of hq',aP (j:=0) rfl,rfl,ρ,jY (rS λz=>h1 (by injection z)) ?_⟩;apply⟨ρ,q,τ,SqT.of hq',aP (j:=0) rfl,rfl,ρ,jY (rS λz=>h2 (by injection z)) ?_⟩;apply⟨ρ,q,τ,SqT.of hq',aP (j:=0) rfl,rfl,ρ,jY (rS λz=>h3 (by injection z)) ?_⟩;apply⟨ρ,p,dp,ρ,hp,rfl,ρ,H0,p,q,DL,LB,b,zs,bt,k',ns,is,sn,rfl,I,f1,f2,hq,B,λH' I'=>?_⟩;have e:=k zs H' rfl ⋯ (by rw[ao];exact aG _) I';rw[oG,oy,ok,sm];exact e
 | @stay x z l o w i hx hz few h1 h2 h3 ok =>
  have hq:H q=some (.tup [.str "stay",.str x.n,.str z,.int l,.int o,.int w]):=hq;obtain⟨y,hy,rfl⟩:=aI.mp hx;apply⟨ρ,q,τ,SqT.of hq,aP (j:=0) rfl,rfl,ρ,jY ⇑0 ?_⟩;apply⟨ρ,q,τ,SqT.of hq,aP (j:=0) rfl,rfl,ρ,jY ⇑0 ?_⟩;apply⟨ρ,q,τ,SqT.of hq,aP (j:=0) rfl,rfl,ρ,nW (rR rfl) ?_⟩;apply⟨ρ,p,dp,ρ,hp,rfl,ρ,H0,p,q,DL,LB,b,zs,bt,y,z,l,o,w,i,rfl,I,⟨⋯,⋯⟩,hq,hy,hz,few,h1,h2,h3,λH' I'=>?_⟩;have e:=k (zs.map (stayX y.1.n z (l,o,w))) H' (by rw[bf,bf];rfl) (by rw[ae];lia) ⋯ I';rw[oy,ok];exact e
theorem qe:cI ["rows","plan","number","row"] ["rows"] (defScope sPlanBy):=by trivial
theorem scNetBy:cI ["text","plan","net"] pzd (defScope rD):=by trivial
end HN
namespace HN
open PySem L2 PyProof.Rows
inductive spCell (K:ak)(vs:List V)(H:Hp)(Q:VK)(_:XK):Prop
 | mk (a:aq)(ns:List Int)(k:Int)(_:vs=[.ref a,.int k])(_:SqL K H a (ns.map V.int))(_:0≤k)(_:∀c:Int,Q (.int c) H)
theorem o9 {xs:List α}{r:Int}(h0:0≤r)(h1:r<xs.length):∃v,atI xs r=some v∧v∈xs:=by
 obtain⟨j,rfl⟩:=dz h0;have hj:j<xs.length:=by lia
 exact⟨xs[j],aP (gE hj),cW hj⟩
theorem log_ok {m:Int}(h0:0<m)(h:m<10 ^ 61):0<m∧m.natAbs.log2<9000:=by
 apply⟨h0,?_⟩;have h1:m.natAbs<2 ^ 300:=by
  have:(10:Nat) ^ 61<2 ^ 300:=by trivial
  have h2:m.natAbs<10 ^ 61:=by lia
  exact Nat.lt_trans h2 this
 have h3:m.natAbs≠0:=by lia
 have:=(Nat.log2_lt h3).mpr h1;lia
def Mv (p:aq)(H H':Hp):Prop:=(∀b o,b≠p→H b=some o→H' b=some o)∧∃n,H' p=some (.lst [.int n])
theorem Mv.trans (a:Mv p H H1)(b:Mv p H1 H2):Mv p H H2:=⟨λc o hc e=>b.1 c o hc (a.1 c o hc e),b.2⟩
theorem Mv.new (a:Mv p H H1)(hq:H1 q=none):Mv p H (upd H1 q o):=by
 obtain⟨n,hn⟩:=a.2;exact⟨λc u hc e=>by rw[aX (aR (a.1 c u hc e) hq)];exact a.1 c u hc e,n,by rw[aX (aR hn hq)];exact hn⟩
theorem Mv.at (a:Mv p H H1)(h:H q=some o)(hne:q≠p):H1 q=some o:=a.1 q o hne h
theorem Mv.then (a:Mv p H H1)(S:cb H1 H2):Mv p H H2:=⟨λc o hc e=>S _ _ (a.1 c o hc e),by obtain⟨n,hn⟩:=a.2;exact⟨n,S _ _ hn⟩⟩
theorem Mv.of {n:Int}(S:cb H H1)(h:H1 p=some (.lst [.int n])):Mv p H H1:=⟨λc o _ e=>S _ _ e,n,h⟩
theorem Mv.ne (a:Mv p H H1)(hq:H1 q=none):q≠p:=λz=>by obtain⟨n,hn⟩:=a.2;rw[z,hn] at hq;cases hq
theorem cb.mv (e:cb H H1)(hp:H p=none)(m:Mv p H1 H2):cb H H2:=λb o q=>m.1 b o (λz=>by rw[z,hp] at q;cases q) (e b o q)
inductive oa (vs:List V)(H:Hp)(Q:VK)(_:XK):Prop
 | mk (p n m:_)(_:vs=[.ref p,.int m])(_:H p=some (.lst [.int n]))(_:0<m)(_:m<10 ^ 61)(_:∀r H',0≤r→r<m→Mv p H H'→Q (.int r) H')
inductive spMix (vs:List V)(H:Hp)(Q:VK)(_:XK):Prop
 | mk (c k:_)(_:vs=[.int c,.int k])(_:0≤k)(_:k≤1000)(_:∀n,Q (.int n) H)
inductive spPotT (K:ak)(vs:List V)(H:Hp)(Q:VK)(_:XK):Prop
 | mk (a:aq)(ns:List Int)(k:Int)(_:vs=[.ref a,.int k])(_:SqL K H a (ns.map V.int))(_:0≤k)(_:k≤100)(_:∀n p,H p=none→Q (.ref p) (upd H p (.lst [.int n])))
abbrev sCell:c8:=top 85
abbrev sMix:c8:=top 86
abbrev sPotT:c8:=top 87
abbrev qx:c8:=top 88
theorem scCell:cI pzg pzg (defScope sCell):=by trivial
theorem ok_cell (F:Fun K "_law_cell_at" "_law_cell_at" sCell f fd)(T:Nm mg):‹0› 1 f fd pzg (spCell K):=by
 specialize F.ok scCell;obtain⟨a,ns,j,rfl,ha,hj,k⟩:=h;apply⟨_,dw (fG (bQ op_lt (pv 1) (cu cA rfl T.len bp (ah (pv 0) aA)) (cw _)) (bE (bR (fj bV (pv 0) (pv 1) (λ_ _=>rfl)))) cF) (bE (bR aO)),?_⟩
 try dsimp only [cxK]
 apply⟨ρ,ρ,a,ρ,.inl ha,ς,ρ,?_⟩;apply kJ (λh1=>?_) (λh1=>?_)
 ·have h1:j<((ns.map V.int).length:Int):=rT h1
  obtain⟨v,e1,e2⟩:=o9 hj h1;obtain⟨c,_,rfl⟩:=aI.mp e2;exact⟨ρ,ρ,a,τ,ha,e1,k c⟩
 ·exact k 0
theorem scTake:cI ["_law_pot_here","_law_most","_law_number"] pze (defScope qx):=by trivial
theorem mI (F:Fun K "_law_take" "_law_take" qx f fd):‹0› 1 f fd pze oa:=by
 specialize F.ok scTake;obtain ⟨p,n,m,rfl,hp,h0,h1,k⟩:=h;apply ⟨_,dw (psZ 2 scTake.nd (cH pS (fj bV (pv 0) aO (fun _ _=>rfl)) (pv 1)))
  (dw (ps_asg (cH op_fdivB (fj bV (pv 0) aO (fun _ _=>rfl)) (pv 1)) (pg_sub (pv 0) aO set_list)) (bE (bR (pv 2)))),?_⟩
 try dsimp only [cxK]
 apply⟨ρ,p,τ,SqL.of hp,aP (j:=0) rfl,ρ,ς,h0,?_⟩;apply⟨ρ,p,τ,SqL.of hp,aP (j:=0) rfl,ρ,ς,log_ok h0 h1,?_⟩;apply⟨ρ,p,_,_,0,rfl,rfl,hp,rfl,?_⟩;apply⟨ρ,k _ _ (Int.emod_nonneg _ ⋯) (Int.emod_lt_of_pos _ h0) ⟨λb o hb e=>by rw[aX hb];exact e,n / m,aQ⟩⟩
theorem scMix:cI ["_law_cell","_law_k","_law_number"] pzw (defScope sMix):=by trivial
theorem ok_mix (F:Fun K "_law_mixed" "_law_mixed" sMix f fd):‹0› 1 f fd pzw spMix:=by
 specialize F.ok scMix;obtain ⟨c,j,rfl,j0,j1,k⟩:=h;apply ⟨_,PSl.h (bo ⟨(psZ 2 scMix.nd (cH pS (cH kG (cH fz (cH fz (cH pS (pv 0) aO) (cH kG aO (pv 1))) aO) aO) aO))⟩
  (bo ⟨(psZ 2 scMix.nd (cH pS (cH fz (cH fz (cH kG (pv 2) (pv 2)) (cH kG aO (pv 1))) aO) aO))⟩
  (gc ⟨(bR (cH pS (cH kG (pv 2) aO) aO))⟩))),?_⟩
 try dsimp only [cxK]
 apply⟨ρ,ς,(by show(0:Int)<2147483629;decide),ρ,ς,.inl ⟨↥0,↥0⟩,ς,ς,ς,.inr ⟨↥0,↥0⟩,ς,(by show(0:Int)<2147483647;decide),?_⟩;apply⟨ρ,ρ,ς,.inl ?_,ρ,ς,.inl ⟨↥0,↥0⟩,ς,ς,ς,(by show(0:Int)<2147483587;decide),?_⟩
 ·have h1:=Int.emod_nonneg ((c % 2147483629+7919 * j+1) * 48271) (by decide:(2147483647:Int)≠0)
  have h2:=Int.emod_lt_of_pos ((c % 2147483629+7919 * j+1) * 48271) (by decide:(0:Int)<2147483647);exact⟨⋯,⋯⟩
 ·exact⟨ρ,ς,.inr ⟨↥0,↥0⟩,ς,(by show(0:Int)<2147483629;decide),k _⟩
theorem scPotT:cI ["_law_script","_law_k","_law_cell","_law_number","_law_j"] pzg (defScope sPotT):=by trivial
theorem ok_potT (F:Fun K "_law_pot" "_law_pot" sPotT f fd)(T:Nm mg)(T2:Nt mg)(G1:Fn K mg "_law_cell_at" sCell pzg f1 fd1)(G2:Fn K mg "_law_mixed" sMix pzw f2 fd2):‹0› 2 f fd pzg (spPotT K):=by
 have F1:‹0› 1 f1 fd1 pzg (spCell K):=ok_cell G1.F T;have F2:‹0› 1 f2 fd2 pzw spMix:=ok_mix G2.F;specialize F.ok scPotT;obtain ⟨a,ns,j,rfl,ha,j0,j1,k⟩:=h;apply ⟨_,PSl.h (bo ⟨(psZ 2 scPotT.nd (pc1 G1 F1 hr (ah (pv 0) (ah (pv 1) aA))))⟩
  (bo ⟨(fG (bQ iB (cH pS (pc1 G1 F1 hr (ah (pv 0) (ah aO aA))) aO) aO (cw _)) (bE (bR (kF (ah (pv 2) aA)))) cF)⟩
  (bo ⟨(psZ 3 scPotT.nd aO)⟩
  (bo ⟨(jg cf rfl (lL rfl T2.range (ah aO aA)) (pgZ 4 scPotT.nd) (bE (psZ 3 scPotT.nd (cH fz (cH kG (pv 3) aO) (pc1 G2 F2 hr (ah (pv 2) (ah (cH fz (pv 1) (cH kG aO (pv 4))) aA)))))))⟩
  (gc ⟨(bR (kF (ah (pv 3) aA)))⟩))))),?_⟩
 try dsimp only [cxK]
 apply⟨ρ,ρ,a,ns,j,rfl,ha,j0,λc=>?_⟩;apply⟨ρ,a,ns,0,rfl,ha,↥0,λc0=>⟨ς,(by show(0:Int)<2;decide),rfl,ρ,?_⟩⟩;apply kJ (λ_=>?_) (λ_=>?_)
 ·exact⟨ρ,szZ1,λp hp=>k _ p hp⟩
 ·apply⟨9,rfl,↥0,↥0,nr (n:=9) (λi σ H2=>H2=H∧∃n vj,σ=[some (.ref a),some (.int j),some (.int c),some (.int n),vj]) ⟨rfl,0,none,rfl⟩ ?_ ?_⟩
  ·rintro i σ H2 hi ⟨rfl,n,vj,rfl⟩
   apply⟨ρ,ς,.inr ⟨↥0,↥0⟩,ρ,ρ,ρ,ς,.inl ⟨↥0,↥0⟩,ς,c,ρ,⋯,⋯,λn2=>⟨ς,?_⟩⟩;exact⟨rfl,_,ρ⟩
  ·rintro σ H2 ⟨rfl,n,vj,rfl⟩
   exact⟨ρ,szZ1,λp hp=>k _ p hp⟩
end HN
namespace L2
open PySem PySem.Spec PyProof.Rows
theorem mt_indexT1:MtM X "str.index" (λx vs H Q=>∃(z y:Str) (i:Nat) (rest:List Nat),x= .str z∧vs=[.str y]∧cZ z y 0 z.length 1=i::rest∧Q (.int (i:Nat)) H):=by
 intro aN s σ H x vs v us Q I rx rv h;obtain⟨z,y,i,rest,rfl,rfl,ho,q⟩:=h;obtain⟨t,rfl⟩:=(show ∃t,v=af.str z t from rx);obtain⟨u,rfl,ru⟩:=rv.one;obtain⟨t',rfl⟩:=(show ∃t,u=af.str y t from ru);exact call_gives F.slot_str_index (typeIs_str _ _ _) F.entry_str_index (F.args_str_index_2 _ _) (gives_str_index z y t t' i rest ho) ⟨.int (i:Nat),H,I.tok _,⟨_,rfl⟩,q⟩
def strV:V→Option Str
 | .int i=>some (toString i)
 | .str z=>some z
 | _=>none
theorem nu:jU X (.type "str") (λxs H Q=>∃v z,xs=[v]∧strV v=some z∧(∀i,v= .int i→i.natAbs.log2<1920)∧Q (.str z) H):=by
 intro aN s σ H xs us Q I r h;obtain⟨v,z,rfl,hv,hz,q⟩:=h;cases v with
 | int i =>
  cases hv;exact pU aN s σ H _ us Q I r ⟨i,rfl,hz i rfl,q⟩
 | str y =>
  cases hv;obtain⟨u,rfl,t,rfl⟩:=nV r;exact PySem.P.str_of_str ⟨.str _,H,I,⟨_,rfl⟩,q⟩
 | _=>cases hv
end L2
namespace HN
open PySem L2 PyProof.Rows HT2
abbrev sTxt:c8:=top 96
def wdS (v:V):Str:=(strV v).getD gU
def qZ (r:List V):Str:=dm sp_ (r.map wdS)
structure kO (H:Hp)(xs:List V)(rows:List (List V)):Prop where
 len:xs.length=rows.length
 get:∀(i:Nat) (r:List V),rows[i]? =some r→∃a:aq,xs[i]? =some (V.ref a)∧H a=some (.lst r)
def WdOk (v:V):Prop:=(∃z,strV v=some z∧z.length≤100)∧∀i,v= .int i→W60 i
def planT (b:Int)(rows:List (List V)):Str:=dm nl_ ((("beat " :Str)++iA b)::rows.map qZ)
theorem rowW_len {r:List V}(h:∀v∈r,WdOk v)(hl:r.length≤60):(qZ r).length≤7000:=by
 unfold qZ;have e:dm sp_ (r.map wdS)=ir sp_ (r.map wdS):=gJ _ _;rw[e];have go:∀ys:List Str,(∀y∈ys,y.length≤100)→(ir sp_ ys).length≤ys.length * 101:=by
  intro ys
  induction ys with
  | nil=>intro _;decide +kernel
  | cons y ys ih =>
   intro hy;cases ys with
   | nil =>
    show y.length≤_;have:=hy y ∅;simp only[av,fq];lia
   | cons z ys =>
    rw[nN,ou,ou];have h1:=hy y ∅;have h2:=ih λx hx=>hy x (aE _ hx)
    have h3:(sp_:Str).length=1:=by trivial
    rw[h3];simp only[av] at h2 ⊢;lia
 have:=go (r.map wdS) λy hy=>by
  obtain⟨v,hv,rfl⟩:=aI.mp hy;obtain⟨⟨z,e,l⟩,_⟩:=h v hv;unfold wdS;rw[e];exact l
 rw[ae] at this;lia
inductive spTxt (vs:List V)(H:Hp)(Q:VK)(_:XK):Prop
 | mk (b:Int)(L:aq)(xs:List V)(rows:List (List V))(_:vs=[.int b,.ref L])(_:W60 b)(_:H L=some (.lst xs))(_:kO H xs rows)(_:rows.length≤70)(_:(∀r∈rows,r.length≤60∧∀v∈r,WdOk v))(_:∀H',cb H H'→Q (.str (planT b rows)) H')
theorem scTxt:cI ["_law_beat","_law_rows","_law_texts","_law_row"] pzx (defScope sTxt):=by trivial
theorem ok_txt (F:Fun K "_law_text" "_law_text" sTxt f fd)(ht:mg "str" =none):‹0› 1 f fd pzx spTxt:=by
 specialize F.ok scTxt;obtain ⟨b,L,xs,rows,rfl,hb,hL,R,few,all,k⟩:=h;apply ⟨_,PSl.h (bo ⟨(psZ 2 scTxt.nd (kF (ah (cH op_add_str eS (gk pU rfl ht boot_str (ah (pv 0) aA))) aA)))⟩
  (bo ⟨(jg cf rfl (jk (pv 1)) (pgZ 3 scTxt.nd) (bE (hV (jR bB bK bJ gH (pv 2) (ah (jR dj gL gK oj eS (ah (kL (fr:=[]) (js:=[]) rfl (jk (pv 3)) ⇑0 rfl ⇑0 rfl (by exists sTxt) ⇑0 rfl ⇑0 (fun _ _ _ _ _=>⟨(gk nu rfl ht boot_str (ah (pv 0) aA)),kh⟩)) aA)) aA)))))⟩
  (gc ⟨(bR (jR dj gL gK oj eS (ah (pv 2) aA)))⟩))),?_⟩
 try dsimp only [cxK]
 have big:(1000000:Nat)≤az:=by decide
 have lh:(("beat " :Str)++iA b).length≤65:=by
  rw[ou];have:=lX hb;have h5:("beat " :Str).length=5:=by trivial
  lia
 apply⟨ρ,b,rfl,log_60 hb,ς,?_,szZ1,λM hM=>?_⟩
 ·have:=lX hb
  have h5:("beat " :Str).length=5:=by trivial
  show("beat " :Str).length+(iA b).length≤_;lia
 have S0:cb H (upd H M (.lst [.str (("beat " :Str)++iA b)])):=cb.put (cb.refl H) hM;have hM0:(upd H M (.lst [.str (("beat " :Str)++iA b)])) M=some (.lst (((("beat " :Str)++iA b)::(rows.take 0).map qZ).map V.str)):=by rw[aQ];rfl
 apply⟨ρ,L,rfl,⟨_,SqL.of (S0 _ _ hL)⟩,?_⟩;have ML:L≠M:=aR hL hM;have kx:∀c o,H c=some o→(upd H M (.lst [.str (("beat " :Str)++iA b)])) c=some o:=λc o e=>S0 _ _ e
 change ∃W,_
 generalize hH0:upd H M (.lst [.str (("beat " :Str)++iA b)])=H0 at S0 hM0;have hH0':upd H M (.lst [.str (ax "beat " ++ toString b)])=H0:=hH0
 let pZ1:Nat→L2.St→L2.Hp→Prop:=λi σ H2=>(∀c o,c≠M→H0 c=some o→H2 c=some o)∧H2 M=some (.lst (((("beat " :Str)++iA b)::(rows.take i).map qZ).map V.str))∧∃v3,σ=[some (.int b),some (.ref L),some (.ref M),v3]
 apply lF (K:=K) (a:=L) (xs:=xs) pZ1
  ⟨λc o _ h=>(by rw[←hH0] at h;exact h),(by rw[←hH0] at hM0;exact hM0),none,rfl⟩ (λi σ H2 _ q=>SqL.of (q.1 _ _ ML (S0 _ _ hL))) ?_ ?_
 ·rintro i x σ H2 hx ⟨k2,hM2,v3,rfl⟩
  have li:i<rows.length:=by rw[←R.len];exact(ai.mp hx).1
  obtain⟨r,hr'⟩:∃r,rows[i]? =some r:=⟨_,gE li⟩;obtain⟨a,ha,har⟩:=R.get i r hr';rw[hx] at ha;cases ha;obtain⟨lr,hw⟩:=all r (aD hr');have aM:a≠M:=aR har hM;have ha2:=k2 _ _ aM (S0 _ _ har);apply⟨ρ,.inl ⟨rfl,_,SqL.of hM2⟩,rfl,ρ,a,rfl,⟨_,SqL.of ha2⟩,?_⟩
  let pZ2:Nat→List L2.V→L2.Hp→Prop:=λj zs H3=>H3=H2∧zs=((r.take j).map wdS).map V.str
  apply kq (K:=K) (a:=a) (xs:=r) pZ2 ⟨rfl,rfl⟩ (λj zs H3 hj q=>?_) ⋯ (λj v zs H3 hv q=>?_) (λzs H3 q D hD=>?_)
  ·obtain⟨rfl,g2⟩:=q
   exact⟨SqL.of ha2,by rw[g2,ae,ae,aL];lia⟩
  ·obtain⟨rfl,g2⟩:=q
   obtain⟨⟨z,ez,lz⟩,hi⟩:=hw v (aD hv);apply jq ?_;apply⟨ρ,v,z,rfl,ez,λi e=>log_60 (hi i e),rfl,?_⟩;rw[g2,bG,hv,aw,aw];show _=_++[V.str (wdS v)];unfold wdS;rw[ez];rfl
  ·obtain⟨rfl,g2⟩:=q
   rw[bO] at g2;have S4:cb H3 (upd H3 D (.lst zs)):=cb.put (cb.refl _) hD;have hD4:(upd H3 D (.lst zs)) D=some (.lst ((r.map wdS).map V.str)):=by rw[aQ,g2]
   generalize upd H3 D (.lst zs)=H4 at S4 hD4 ⊢;apply⟨_,D,ρ,rfl,SqL.of hD4,⇑0,?_,?_⟩
   ·have:=sum_le (λx:Str=>x.length) 100 (r.map wdS) λy hy=>by
     obtain⟨v,hv,rfl⟩:=aI.mp hy;obtain⟨⟨z,e,l⟩,_⟩:=hw v hv;unfold wdS;rw[e];exact l
    rw[ae] at this;rw[ae];have:r.length * 100≤60 * 100:=Nat.mul_le_mul_right _ lr;lia
   have hM4:=S4 _ _ hM2;apply⟨M,ς,hM4,(by simp only[ae,av,aL];lia),?_⟩;apply⟨λc o hc e=>by rw[aX hc];exact S4 _ _ (k2 _ _ hc e),?_,ρ⟩;rw[aQ,bG,hr',aw];show some (HO.lst (_++[V.str (qZ r)]))=_;rw[←List.cons_append,aw];rfl
 ·rintro σ H2 ⟨k2,hM2,v3,rfl⟩
  rw[R.len,bO] at hM2;apply⟨rfl,ρ,_,M,ρ,rfl,SqL.of hM2,⇑0,?_,k H2 λc o e=>k2 c o (aR e hM) (S0 _ _ e)⟩;have:=sum_le (λx:Str=>x.length) 7000 ((("beat " :Str)++iA b)::rows.map qZ) λy hy=>by
   rcases ay.mp hy with e | hy
   ·subst e;lia
   ·obtain⟨r,hr,rfl⟩:=aI.mp hy
    exact rowW_len (all r hr).2 (all r hr).1
  simp only[av,ae] at this ⊢;have:(rows.length+1) * 7000≤71 * 7000:=Nat.mul_le_mul_right _ ⋯;lia
def WOk (v:V):Prop:=(∃z,v= .str z∧nam z=true)∨∃i,v= .int i∧W60 i
theorem pF (h:nam z=true):1≤z.length∧z.length≤8:=by
 unfold nam at h;rw[cv,cv] at h;exact⟨rT h.1,rT h.2.1⟩
theorem nam_cps (h:nam z=true):∀c∈z.cps.toList,97≤c∧c≤122:=by
 unfold nam at h;rw[cv,cv,j4] at h;exact λc hc=>rT (h.2.2 c hc)
theorem WOk.wd (h:WOk v):WdOk v:=by
 rcases h with ⟨z,rfl,hz⟩ | ⟨i,rfl,hi⟩
 ·exact⟨⟨z,rfl,by have:=pF hz;lia⟩,λi e=>by cases e⟩
 ·exact⟨⟨iA i,rfl,by have:=lX hi;lia⟩,λj e=>by cases e;exact hi⟩
theorem WOk.free (h:WOk v){c:Nat}(hc:c<48):c ∉ (wdS v).cps.toList:=by
 rcases h with ⟨z,rfl,hz⟩ | ⟨i,rfl,hi⟩
 ·intro m
  have:=nam_cps hz c m;lia
 ·exact qD hi hc
theorem rowW_split {r:List V}(h:∀v∈r,WOk v)(hne:r≠[]):dU (qZ r) sp_=r.map wdS:=by
 unfold qZ;rw[sp_eq];apply pj (λz=>hne (List.map_eq_nil_iff.mp z)) λp hp=>?_
 obtain⟨v,hv,rfl⟩:=aI.mp hp;exact(h v hv).free ↥0
theorem rowW_free {r:List V}(h:∀v∈r,WOk v):10 ∉ (qZ r).cps.toList:=λm=>by
 unfold qZ at m;rw[sp_eq,show dm ⟨#[32]⟩ (r.map wdS)=ir ⟨#[32]⟩ (r.map wdS) from gJ _ _] at m
 rcases join_mem m with e | ⟨y,hy,m2⟩
 ·cases e
 ·obtain⟨v,hv,rfl⟩:=aI.mp hy
  exact(h v hv).free ↥0 m2
theorem beat_two (b:Int):("beat " :Str)++iA b=dm sp_ ["beat",iA b]:=by
 rw[show dm sp_ ["beat",iA b]=ir sp_ ["beat",iA b] from gJ _ _,nN];show _=("beat" :Str)++sp_++iA b;rw[show("beat " :Str)=("beat" :Str)++sp_ by trivial]
theorem beat_split (hb:W60 b):dU (("beat " :Str)++iA b) sp_=[("beat" :Str),iA b]:=by
 rw[beat_two,sp_eq];apply pj ∅ λp hp=>?_
 simp only[ay,bz,or_false] at hp
 rcases hp with rfl | rfl
 ·decide +kernel
 ·exact qD hb ↥0
theorem beat_free (hb:W60 b):10 ∉ (("beat " :Str)++iA b).cps.toList:=by
 rw[cps_app];intro m
 rcases aS.mp m with m | m
 ·revert m;decide +kernel
 ·exact qD hb ↥0 m
theorem planT_split {rows:List (List V)}(hb:W60 b)(h:∀r∈rows,∀v∈r,WOk v):dU (planT b rows) nl_=(("beat " :Str)++iA b)::rows.map qZ:=by
 unfold planT;rw[nl_eq];apply pj ∅ λp hp=>?_
 rcases ay.mp hp with rfl | hp
 ·exact beat_free hb
 ·obtain⟨r,hr,rfl⟩:=aI.mp hp
  exact rowW_free (h r hr)
theorem join_len {c:Str}(hc:c.length=1){m:Nat}:∀ys:List Str,(∀y∈ys,y.length≤m)→(ir c ys).length≤ys.length * (m+1)
 | [],_=>by show 0≤_;lia
 | [y],hy=>by
  show y.length≤_;have:=hy y ∅;simp only[av,fq];lia
 | y::z::ys,hy=>by
  rw[nN,ou,ou,hc];have h1:=hy y ∅;have h2:=join_len hc (z::ys) λx hx=>hy x (aE _ hx)
  have e:(y::z::ys).length * (m+1)=(z::ys).length * (m+1)+(m+1):=by rw[av,Nat.succ_mul]
  lia
theorem rowW_len2 {r:List V}(h:∀v∈r,WOk v)(hl:r.length≤12):(qZ r).length≤1220:=by
 unfold qZ;rw[show dm sp_ (r.map wdS)=ir sp_ (r.map wdS) from gJ _ _];have:=join_len (c:=sp_) ⇑0 (m:=100) (r.map wdS) λy hy=>by
  obtain⟨v,hv,rfl⟩:=aI.mp hy;obtain⟨⟨z,e,l⟩,_⟩:=(h v hv).wd;unfold wdS;rw[e];exact l
 rw[ae] at this;lia
theorem planT_len2 {rows:List (List V)}(hb:W60 b)(h:∀r∈rows,r.length≤12∧∀v∈r,WOk v)(few:rows.length≤70):(planT b rows).length≤100000:=by
 unfold planT;rw[show dm nl_ (((("beat " :Str)++iA b))::rows.map qZ)=ir nl_ (((("beat " :Str)++iA b))::rows.map qZ) from gJ _ _];have:=join_len (c:=nl_) ⇑0 (m:=1220) ((("beat " :Str)++iA b)::rows.map qZ) λy hy=>by
  rcases ay.mp hy with rfl | hy
  ·rw[ou]
   have:=lX hb;have h5:("beat " :Str).length=5:=by trivial
   lia
  ·obtain⟨r,hr,rfl⟩:=aI.mp hy
   exact rowW_len2 (h r hr).2 (h r hr).1
 simp only[av,ae] at this;have:(rows.length+1) * (1220+1)≤71 * (1220+1):=Nat.mul_le_mul_right _ ⋯;lia
theorem snB_of {m:Int}{x:Sn}(s0:0≤x.s)(s1:x.s<m)(g0:0≤x.g)(g1:x.g<m)(ne:x.s≠x.g)(l0:0≤x.l)(lo:x.l≤x.o)(ob:x.o<x.l+b)(o60:x.o<10 ^ 60)(w0:0≤x.w)(w1:x.w≤1000000000000):snB b m x=true:=by
 have inn:∀i lo hi:Int,lo≤i→i≤hi→inI (.int i) lo hi=true:=λi lo hi h1 h2=>by
  show(decide (lo≤i) && decide (i≤hi))=true;rw[rR h1,rR h2];rfl
 unfold snB;have e1:nX m (.int x.s) (.int x.g)=true:=by
  unfold nX;rw[inn x.s 0 (m - 1) s0 ⋯,inn x.g 0 (m - 1) g0 ⋯,rS (λz=>ne (by injection z))];rfl
 have e2:qG b (.int x.l) (.int x.o)=true:=by
  show(inI (.int x.l) 0 B60 && inI (.int x.o) x.l (if B60<x.l+b - 1 then B60 else x.l+b - 1))=true;rw[inn x.l 0 B60 l0 (by unfold B60;lia),inn x.o x.l _ lo (by split <;> (unfold B60 at *;lia))];rfl
 rw[e1,e2,inn x.w 0 1000000000000 w0 w1];rfl
end HN
namespace L2
open PySem PySem.Spec PyProof.Rows
def Itr2 (lo:Int)(n:Nat):It:=⟨λi _=>i<n,λi H x H'=>H'=H∧x= .int (lo+i * 2),λi _=>n≤i⟩
theorem turn_range2 (it:aq)(lo:Int)(n:Nat):Turn P w K tg (Itr2 lo n) [it] it (λi h=>IsRangeIter h it (lo+(i:Nat) * 2) ((n:Int) - (i:Nat)) 2) where
 mem:=by simp
 obj:=λi h st b hb=>by
  have e:b=it:=by simpa using hb
  subst e;exact ⟨_,st,fun v z=>by
   have z':Data.fields _=Data.cell v:=z;cases z'⟩
 keep:=λi h h' st k=>k it ∅ _ st
 item:=by
  intro X hP hw hK hc i aN s σ H E I hf st hg;subst hP hw hK;obtain⟨f0,f1,f2,f3,f4,f5⟩:=hf it ∅;have W:=Walks.range (prog:=X.prog) (w:=X.w) (I.ok.hd hc) it lo 2 n;apply W.item i s _ _ hg st λv h' tk hv st' kk=>?_
  obtain⟨t,rfl⟩:=hv;have I1:Inv X aN σ H { s with heap:=h',toks:=tk }:=I.turned (λb o hb e=>kk b o (by simpa using hb) e) f0 f1 f3 f4 f5;exact⟨ρ,go_of (s:={ s with heap:=h',toks:=tk }) (n := "range_iterator") st' rfl rfl ↥0 ⟨.int (lo+i * 2),H,I1,⟨t,rfl⟩,⟨rfl,rfl⟩,st',λb hb=>(hf b hb).1⟩⟩
 done:=by
  intro X hP hw hK hc i aN s σ H E I hf st hg;subst hP hw hK;obtain⟨f0,f1,f2,f3,f4,f5⟩:=hf it ∅;exact wpAny_pyNext_range_end (I.ok.hd hc) st (by have:n≤i:=hg;lia) λh' eb=>⟨rfl,I.turned (t':=s.toks) (λb o hb e=>eb b o hb e) f0 f1 f3 f4 f5⟩
 self:=λ_ _ _ _ _ st h=>wpAny_pyIter_rangeiter st h
theorem oH (a b:Int):jX a b 2=((((b - a+1) / 2).toNat:Nat):Int):=by
 unfold jX;simp only[show(2:Int) > 0 by decide,if_true];split <;> lia
theorem small_two {a:Int}(ha: -(2 ^ 40)≤a)(ha':a<2 ^ 40)(hb: -(2 ^ 40)≤b)(hb':b<2 ^ 40):dC.Range.small a b 2=true:=by
 unfold dC.Range.small;rw[oH];simp only[dC.Range.rangeFitsLong,cv,Bool.or_eq_true,decide_eq_true_eq,beq_iff_eq,show(2:Int) > 0 by decide,if_true];lia
theorem range_it2 {R:It→Hp→Prop}{hi:Int}{t u v:Tok}{tk:Nat}(I:Inv X aN σ H s)(h1: -(2 ^ 40)≤lo)(h2:lo<2 ^ 40)(h3: -(2 ^ 40)≤hi)(h4:hi<2 ^ 40)
  (q:R (Itr2 lo ((hi - lo+1) / 2).toNat) H):aY (bF X.prog X.w) X.A (pyIter (.ref s.heap.objs.size)) (PIE X aN σ tg R) E { s with heap:=s.heap.push { cls:= .type "range",data:= .fields #[.int lo t,.int hi u,.int 2 v] },toks:=tk }:=by
 apply wpAny_pyIter_range (IsRange.new ..) (small_two h1 h2 h3 h4) ?_;have I1:Inv X aN σ H { s with heap:=s.heap.push { cls:= .type "range",data:= .fields #[.int lo t,.int hi u,.int 2 v] },toks:=tk }:=I.kept λb o e=>au _ e
 apply ⟨(s.heap.push { cls:= .type "range",data:= .fields #[.int lo t,.int hi u,.int 2 v] }).objs.size,[(s.heap.push { cls:= .type "range",data:= .fields #[.int lo t,.int hi u,.int 2 v] }).objs.size],_,_,H,rfl,
  I1.kept (t':=tk) fun b o e=>au _ e,turn_range2 _ lo ((hi - lo+1) / 2).toNat,?_,fun b hb=>?_,q⟩
 ·have e1:lo+((0:Nat):Int) * 2=lo:=by simp
  have e2:((((hi - lo+1) / 2).toNat:Nat):Int) - ((0:Nat):Int)=jX lo hi 2:=by rw[oH];simp
  show IsRangeIter _ _ (lo+((0:Nat):Int) * 2) (((((hi - lo+1) / 2).toNat:Nat):Int) - ((0:Nat):Int)) 2;rw[e1,e2];exact aU _ rfl
 ·have e:b=(s.heap.push { cls:= .type "range",data:= .fields #[.int lo t,.int hi u,.int 2 v] }).objs.size:=by simpa using hb
  subst e;exact I1.fpOk (aG _) (I1.hok.fresh (aG _))
def iRng3 (ta:TA):TI:=λσ H R=>ta σ H λvs H1=>∃i j:Int,vs=[.int i,.int j,.int 2]∧(-(2 ^ 40)≤i∧i<2 ^ 40∧ -(2 ^ 40)≤j∧j<2 ^ 40)∧R (Itr2 i ((j - i+1) / 2).toNat) H1
theorem oM {a b c:Expr}{ta:TA}{p:Pos}(hg:Gl X "range")(hm:X.mg "range" =none)(ha:PA X [a,b,c] ta)(hs:autoParam (br [a,b,c] X.env=[(false,dY a X.env),(false,dY b X.env),(false,dY c X.env)]) L2.au0._auto_1)(hs2:autoParam (br [b,c] X.env=[(false,dY b X.env),(false,dY c X.env)]) L2.au0._auto_1) :
  PI X tg (.Call (.Name "range" p) [a,b,c] [] pos) (iRng3 ta):=by
 intro aN s σ H R I h;apply Call_ (oS I hg hm boot_range (eT (thn (ha pos aN s σ H _ I h) λus s1 hz0=>?_) (by rw[hs,hs2]) (by rw[hs2];rfl)));obtain⟨vs,H1,I1,r1,q1⟩:=hz0;obtain⟨i,j,e,⟨q1,q2,q3,q4⟩,q⟩:=q1;subst e;cases r1 with
 | cons r rr =>
  cases rr with
  | cons r' rr =>
   cases rr with
   | cons r'' rr =>
    cases rr;obtain⟨t,rfl⟩:=r;obtain⟨t',rfl⟩:=r';obtain⟨t'',rfl⟩:=r'';exact call_range_3 ↥0 (range_it2 I1 q1 q2 q3 q4 q) (Or.inl (PyProof.noPylong_small ⋯))
theorem nP {D:rM}(Pv:Nat→St→Hp→Prop)(h0:Pv 0 σ H)
  (hs:∀i σ H,i<n→Pv i σ H→g (.int (lo+i * 2)) σ H λσ2 H2=>tb { D with nx:=Pv (i+1),ct:=Pv (i+1),bk:=D.nx } σ2 H2) (hd:∀σ H,Pv n σ H→D.nx σ H) :
  ∃W:Nat→Nat→St→Hp→Prop,(∃m,W 0 m σ H)∧∀i m σ H,W i m σ H →
   ((Itr2 lo n).stop i H∧D.nx σ H)∨((Itr2 lo n).go i H∧∃N:St→Hp→Prop,(∀σ' H',N σ' H'→∃m',m'<m∧W (i+1) m' σ' H')∧∀x H',(Itr2 lo n).yld i H x H'→g x σ H' λσ2 H2=>tb { D with nx:=N,ct:=N,bk:=D.nx } σ2 H2):=by
 apply⟨λi m σ H=>m=n - i∧i≤n∧Pv i σ H,⟨n,∅,cV _,h0⟩,?_⟩;rintro i m σ H ⟨rfl,hi,p⟩
 by_cases hlt:i<n
 ·apply .inr ⟨hlt,Pv (i+1),λσ' H' p'=>⟨n - (i+1),⋯,rfl,hlt,p'⟩,λx H' y=>?_⟩
  obtain⟨e,y⟩:=y;subst e y;exact hs i σ _ hlt p
 ·have e:i=n:=by lia
  subst e;exact .inl ⟨aG _,hd σ H p⟩
end L2
namespace HN
open PySem L2 PyProof.Rows HT2
def NewN (H:Hp)(o:HO)(Q:VK):Prop:=∀a H',H a=none→cb H H'→H' a=some o→Q (.ref a) H'
theorem NewN.of {Q:VK}(h:NewN H o Q):∀a,H a=none→Q (.ref a) (upd H a o):=λa ha=>h a _ ha (cb.put (cb.refl H) ha) aQ
theorem op_catN:OpR X (iH .Add) (λx y H Q=>∃l b xs zs,x= .ref l∧y= .ref b∧H l=some (.lst xs)∧H b=some (.lst zs)∧xs.length+zs.length≤az∧NewN H (.lst (xs++zs)) Q) :=
 op_cat.imp λ_ _ _ _ ⟨l,b,xs,zs,e1,e2,e3,e4,e5,q⟩=>⟨l,b,xs,zs,e1,e2,e3,e4,e5,q.of⟩
def jI:List Str→List Int→List V
 | s::ss,r::rs=> .str s:: .int r::jI ss rs
 | s::_,[]=>[.str s]
 | [],_=>[]
def PR.rowV:PR→List V
 | .beat b=>[.str "beat",.int b]
 | .line n ss rs=> .str "line" :: .str n::jI ss rs
 | .oth k ns is=> .str k::(ns.map V.str++is.map V.int)
theorem ko:∀{ss:List Str} {rs:List Int},ss.length=rs.length+1→(jI ss rs).length=2 * ss.length - 1
 | [],_,h=>by simp at h
 | [_],[],_=>rfl
 | _::_::_,[],h=>by simp at h
 | s::ss,r::rs,h=>by
  have hl:ss.length=rs.length+1:=by simpa using h
  show(jI ss rs).length+1+1=_;rw[ko hl,av];lia
theorem pT:∀{ss:List Str} {rs:List Int} (i:Nat),ss.length=rs.length+1→(jI ss rs)[2 * i]? =(ss[i]?).map V.str
 | [],_,_,h=>by simp at h
 | [_],[],0,_=>rfl
 | [_],[],i+1,_=>rfl
 | _::_::_,[],_,h=>by simp at h
 | s::ss,r::rs,0,_=>rfl
 | s::ss,r::rs,i+1,h=>by
  have hl:ss.length=rs.length+1:=by simpa using h
  show(V.str s:: .int r::jI ss rs)[2 * i+1+1]? =_;rw[aZ,aZ,pT i hl,aZ]
theorem snocI {P:List α→Prop}(h0:P [])(h1:∀l a,P l→P (l++[a]))(l:List α):P l:=by
 have go:∀m:List α,P m.reverse:=by
  intro m
  induction m with
  | nil=>exact h0
  | cons a m ih=>rw[List.reverse_cons];exact h1 _ _ ih
 have:=go l.reverse
 rwa [List.reverse_reverse] at this
def Ln.core (x:Ln):Ln:={ x with st:=[] }
def ph (ls:List Ln):PR→List Ln
 | .line n ss rs=>ls++[⟨n,ss,rs,[],jK ls⟩]
 | .oth k [n,z] [l,o,w]=>if k = "stay" then ls.map (kD n z (l,o,w)) else ls
 | _=>ls
def kj (rs:List PR):List Ln:=rs.foldl ph []
def qp (ls:List Ln):PR→List Ln
 | .line n ss rs=>ls++[⟨n,ss,rs,[],jK ls⟩]
 | _=>ls
def lsC (rs:List PR):List Ln:=rs.foldl qp []
def PR.isL:PR→Bool
 | .line _ _ _=>true
 | _=>false
theorem lM (rs:List PR)(r:PR):kj (rs++[r])=ph (kj rs) r:=by unfold kj;rw[jM];rfl
theorem iK (rs:List PR)(r:PR):lsC (rs++[r])=qp (lsC rs) r:=by unfold lsC;rw[jM];rfl
theorem stepC_no (h:r.isL=false):qp ls r=ls:=by
 cases r with
 | line=>cases h
 | _=>rfl
theorem lsC_ins {a c:List PR}(h:r.isL=false):lsC (a++r::c)=lsC (a++c):=by
 unfold lsC;rw[jM,jM,iV,stepC_no h]
theorem nk (ls:List Ln):jK (ls.map Ln.core)=jK ls:=by unfold jK;rw[bf];rfl
theorem stay_core (n z:Str)(v:Int×Int×Int)(x:Ln):(kD n z v x).core=x.core:=by unfold kD;split <;> rfl
theorem stepL_c {C:List Ln→Prop}(ls:List Ln)(r:PR)(h1:∀n ss rs,r= .line n ss rs→C (ls++[⟨n,ss,rs,[],jK ls⟩]))(h2:∀n z l o w,r= .oth "stay" [n,z] [l,o,w]→C (ls.map (kD n z (l,o,w))))(h3:(∀n ss rs,r≠ .line n ss rs)→C ls):C (ph ls r):=by
 cases r with
 | beat b=>exact h3 (by intros;intro e;cases e)
 | line n ss rs=>exact h1 n ss rs rfl
 | oth k ns is =>
  have h4:C ls:=h3 (by intros;intro e;cases e);clear h3 h1
  rcases ns with _ | ⟨n,_ | ⟨z,_ | ⟨y,ns⟩⟩⟩
  ·exact h4
  ·exact h4
  ·rcases is with _ | ⟨l,_ | ⟨o,_ | ⟨w,_ | ⟨u,is⟩⟩⟩⟩
   ·exact h4
   ·exact h4
   ·exact h4
   ·show C (if k = "stay" then _ else _)
    by_cases hk:k = "stay"
    ·rw[rP hk];subst hk;exact h2 n z l o w rfl
    ·rw[rO hk];exact h4
   ·exact h4
  ·exact h4
theorem stepL_no (ls:List Ln){k:Str}(hk:k ≠ "stay")(ns:List Str)(is:List Int):ph ls (.oth k ns is)=ls :=
 stepL_c (C:=λx=>x=ls) ls _ (λ_ _ _ e=>by cases e) (λ_ _ _ _ _ e=>by cases e;exact rQ rfl hk) λ_=>rfl
theorem step_core (ls:List Ln)(r:PR):(ph ls r).map Ln.core=qp (ls.map Ln.core) r:=by
 apply stepL_c (C:=λx=>x.map Ln.core=qp (ls.map Ln.core) r) ls r (λn ss rs e=>?_) (λn z l o w e=>?_) (λh=>?_)
 ·subst e
  rw[aw];show _=ls.map Ln.core++[_];rw[nk];rfl
 ·subst e
  rw[bf];exact cJ λx _=>stay_core _ _ _ x
 ·cases r with
  | line n ss rs=>exact rQ rfl (h n ss rs)
  | _=>rfl
theorem gQ (rs:List PR):(kj rs).map Ln.core=lsC rs:=by
 have go:∀(rs:List PR) (ls:List Ln),(rs.foldl ph ls).map Ln.core=rs.foldl qp (ls.map Ln.core):=by
  intro rs
  induction rs with
  | nil=>intro ls;rfl
  | cons r rs ih =>
   intro ls;rw[iV,iV,ih,step_core]
 exact go rs []
def PR.lnOk:PR→Prop
 | .line n ss rs=>nam n=true∧(∀s∈ss,nam s=true)∧ss.Nodup∧2≤ss.length∧ss.length≤5∧ss.length=rs.length+1∧∀r∈rs,0≤r∧r<10 ^ 60
 | _=>False
def PR.sty2:PR→Option (Str×Str)
 | .oth k [n,z] _=>if k = "stay" then some (n,z) else none
 | _=>none
def stz (rs:List PR):List (Str×Str):=rs.filterMap PR.sty2
def NumOk (b l o w:Int):Prop:=0≤l∧l≤o∧o<l+b∧o<10 ^ 60∧0≤w∧w≤1000000000000
def StOk (b:Int)(pre:List PR)(ns:List Str)(is:List Int):Prop:=∃(x:Ln) (z:Str) (l o w:Int) (i:Nat),x∈lsC pre∧ns=[x.n,z]∧is=[l,o,w]∧x.ss[i]? =some z∧1≤i∧i+1<x.ss.length∧(x.n,z) ∉ stz pre∧NumOk b l o w
def BwOk (b:Int)(pre:List PR)(k:Str)(ns:List Str)(is:List Int):Prop:=∃sn:Sn,Btw b (lsC pre) k ns is sn∧NumOk b sn.l sn.o sn.w∧∀i∈is,W60 i
def mV (b:Int)(pre:List PR):PR→Prop
 | .beat _=>False
 | .line n ss rs=>n ∉ (lsC pre).map (·.n)∧(PR.line n ss rs).lnOk
 | .oth k ns is=>(k = "stay" ∧StOk b pre ns is)∨(k ≠ "stay" ∧BwOk b pre k ns is)
def ib (b:Int)(rows:List PR):Prop:=∀i r,rows[i]? =some r→mV b (rows.take i) r
theorem mV.more {a c:List PR}{q:PR}(hr:r.isL=false)(hs:∀p,q.sty2=some p→r.sty2≠some p)(h:mV b (a++c) q):mV b (a++r::c) q:=by
 cases q with
 | beat b'=>exact h
 | line n ss rs =>
  obtain⟨h1,h2⟩:=h;exact⟨by rw[lsC_ins hr];exact h1,h2⟩
 | oth k ns is =>
  rcases h with ⟨rfl,x,z,l,o,w,i,h1,rfl,rfl,h2,h3,h4,h5,h6⟩ | ⟨hk,sn,h1,h2⟩
  ·apply .inl ⟨rfl,x,z,l,o,w,i,by rw[lsC_ins hr];exact h1,rfl,rfl,h2,h3,h4,λm=>h5 ?_,h6⟩
   unfold stz at m ⊢;rw[eY,ij] at m;rw[eY];have ne:=hs (x.n,z) (by unfold PR.sty2;exact rP rfl);cases e:r.sty2 with
   | none=>rw[e] at m;exact m
   | some p =>
    rw[e] at m ne
    rcases aS.mp m with m | m
    ·exact cB _ m
    ·rcases ay.mp m with m | m
     ·exact rQ (rV some m.symm) ne
     ·exact bC _ m
  ·exact .inr ⟨hk,sn,by rw[lsC_ins hr];exact h1,h2⟩
theorem ib.ins {b:Int}{rows:List PR}{r:PR}{m:Nat}(h:ib b rows)(hm:m≤rows.length)(hr:r.isL=false)(ok:mV b (rows.take m) r)(hs:∀p,r.sty2=some p→p ∉ stz rows):ib b (rows.take m++r::rows.drop m):=by
 have lt:(rows.take m).length=m:=by rw[aL];lia
 intro i q hq
 rcases ic i m with c | c | c
 ·rw[bI ⋯,cY c] at hq
  have:=h i q hq
  rwa [jn ⋯,List.take_take,eh ⋯]
 ·subst c
  rw[bc ⋯,lt,gY,List.getElem?_cons_zero] at hq;cases hq
  rwa [jn ⋯,List.take_take,Nat.min_self]
 ·obtain⟨j,rfl⟩:∃j,i=m+1+j:=⟨i - m - 1,⋯⟩
  rw[bc ⋯,lt,show m+1+j - m=j+1 by lia,aZ,dv] at hq;have o:=h (m+j) q hq;have e:(rows.take m++r::rows.drop m).take (m+1+j)=rows.take m++r::(rows.drop m).take j:=by
   rw[List.take_append,lt,show m+1+j - m=j+1 by lia,eP ⋯,List.take_succ_cons]
  have e2:rows.take (m+j)=rows.take m++(rows.drop m).take j:=by rw[List.take_add]
  rw[e];rw[e2] at o;apply o.more hr λp hp e3=>hs p e3 ?_
  unfold stz;exact gT.mpr ⟨q,aD hq,hp⟩
theorem lsC_mem:∀{rs:List PR} {x:Ln},x∈lsC rs→PR.line x.n x.ss x.rs∈rs∧x.st=[]:=by
 intro rs
 induction rs using snocI with
 | h0=>intro x h;cases h
 | h1 rs r ih =>
  intro x h;rw[iK] at h;cases r with
  | line n ss rs' =>
   rcases aS.mp h with h | h
   ·obtain⟨a,b⟩:=ih h
    exact⟨cB _ a,b⟩
   ·rw[aB.mp h]
    exact⟨bC _ (aB.mpr rfl),rfl⟩
  | beat b=>obtain⟨a,b⟩:=ih h;exact⟨cB _ a,b⟩
  | oth k ns is=>obtain⟨a,b⟩:=ih h;exact⟨cB _ a,b⟩
theorem hapL_nn (ls:List Ln):0≤jK ls:=by
 unfold jK
 induction ls with
 | nil=>simp
 | cons x ls ih=>rw[bq,gu];lia
theorem lN (ls:List Ln)(x:Ln):jK (ls++[x])=jK ls+2 * (x.rs.length:Int):=by unfold jK;simp
structure Lay (ls:List Ln):Prop where
 in_:∀x∈ls,0≤x.fi∧x.fi+2 * (x.rs.length:Int)≤jK ls
 ap:∀x∈ls,∀y∈ls,x.n≠y.n→x.fi+2 * (x.rs.length:Int)≤y.fi∨y.fi+2 * (y.rs.length:Int)≤x.fi
theorem lay_C (rs:List PR):Lay (lsC rs):=by
 induction rs using snocI with
 | h0=>exact⟨(λx h=>by cases h),(λx h=>by cases h)⟩
 | h1 rs r ih =>
  rw[iK];cases r with
  | line n ss rs' =>
   show Lay (lsC rs++[⟨n,ss,rs',[],jK (lsC rs)⟩]);have nn:=hapL_nn (lsC rs);apply⟨λx hx=>?_,λx hx y hy ne=>?_⟩
   ·rw[lN]
    rcases aS.mp hx with hx | hx
    ·have:=ih.in_ x hx
     dsimp only
     lia
    ·rw[aB.mp hx]
     dsimp only
     lia
   ·rcases aS.mp hx with hx | hx
    ·rcases aS.mp hy with hy | hy
     ·exact ih.ap x hx y hy ne
     ·rw[aB.mp hy]
      have:=ih.in_ x hx
      dsimp only
      lia
    ·rw[aB.mp hx]
     rcases aS.mp hy with hy | hy
     ·have:=ih.in_ y hy
      dsimp only
      lia
     ·rw[aB.mp hx,aB.mp hy] at ne
      exact rQ rfl ne
  | beat b=>exact ih
  | oth k ns is=>exact ih
theorem ib.take {rows:List PR}(h:ib b rows)(m:Nat):ib b (rows.take m):=λi r hr=>by
 have hi:i<m:=by
  by_cases c:i<m
  ·exact c
  ·rw[gb (by rw[aL];lia)] at hr;cases hr
 rw[cY hi] at hr;rw[List.take_take,eh ⋯];exact h i r hr
theorem ib.lnOk {rows:List PR}(h:ib b rows){x:Ln}(hx:x∈lsC rows):(PR.line x.n x.ss x.rs).lnOk:=by
 obtain⟨i,hi⟩:=cE (lsC_mem hx).1;exact(h i _ hi).2
theorem ib.nd {rows:List PR}(h:ib b rows):((lsC rows).map (·.n)).Nodup:=by
 have go:∀m,m≤rows.length→((lsC (rows.take m)).map (·.n)).Nodup:=by
  intro m
  induction m with
  | zero=>intro _;exact List.nodup_nil
  | succ m ih =>
   intro hm;have e:=gE (show m<rows.length by lia);rw[bG,e];show((lsC (rows.take m++[rows[m]])).map (·.n)).Nodup;rw[iK];have o:=h m _ e;generalize rows[m]=r at o;cases r with
   | line n ss rs =>
    show((lsC (rows.take m)++[(⟨n,ss,rs,[],jK (lsC (rows.take m))⟩:Ln)]).map (·.n)).Nodup;rw[aw];apply iX.mpr ⟨ih ⋯,∅,λa ha b hb=>?_⟩;have:b=n:=by simpa using hb
    rw[this];exact λz=>o.1 (z ▸ ha)
   | beat b=>exact ih ⋯
   | oth k ns is=>exact ih ⋯
 have:=go rows.length (aG _)
 rwa [bO] at this
theorem ownS_len (h:l.ss.length=l.rs.length+1):(ownS l).length+1=2 * l.rs.length∨l.rs.length=0:=by
 have go:∀k,k<l.rs.length→(ownN l k).length=2 * k:=by
  intro k
  induction k with
  | zero=>intro _;rfl
  | succ k ih =>
   intro hk;rw[mZ,ao,ih ⋯];unfold stp;rw[rP ⋯];rfl
 cases e:l.rs.length with
 | zero=>exact .inr rfl
 | succ k =>
  left
  show(ownN l l.rs.length).length+1=_;rw[e,mZ,ao,go k ⋯];unfold stp;rw[rO ⋯];rfl
def PR.spn:PR→Nat
 | .line _ _ rs=>2 * rs.length - 1
 | .oth k _ _=>if k = "stay" then 0 else 1
 | _=>0
def nZ (rows:List PR):Nat:=(rows.map PR.spn).sum
def PR.bwn:PR→Nat
 | .oth k _ _=>if k = "stay" then 0 else 1
 | _=>0
def bwP (rows:List PR):Nat:=(rows.map PR.bwn).sum
def ownL (ls:List Ln):Nat:=(ls.map λl=>2 * l.rs.length - 1).sum
theorem ownL_core (ls:List Ln):ownL (ls.map Ln.core)=ownL ls:=by unfold ownL;rw[bf];rfl
theorem own_C (rows:List PR):ownL (lsC rows)+bwP rows=nZ rows:=by
 induction rows using snocI with
 | h0=>rfl
 | h1 rs r ih =>
  rw[iK];unfold nZ bwP at *;rw[aw,aw,iT,iT];cases r with
  | line n ss rs' =>
   show ownL (lsC rs++[_])+_=_;have e:∀x:Ln,ownL (lsC rs++[x])=ownL (lsC rs)+(2 * x.rs.length - 1):=λx=>by unfold ownL;rw[aw,iT];simp
   rw[e];show ownL (lsC rs)+(2 * rs'.length - 1)+(_+(0+0))=_+((2 * rs'.length - 1)+0);lia
  | beat b=>show ownL (lsC rs)+(_+(0+0))=_+(0+0);lia
  | oth k ns is=>show ownL (lsC rs)+(_+((if k = "stay" then 0 else 1)+0))=_+((if k = "stay" then 0 else 1)+0);lia
theorem allS_len (h:∀l∈ls,l.ss.length=l.rs.length+1∧1≤l.rs.length):(allSL ls bt).length=ownL ls+bt.length:=by
 unfold allSL ownL;rw[ao];congr 1
 induction ls with
 | nil=>rfl
 | cons l ls ih =>
  rw[List.flatMap_cons,ao,bq,gu,ih λx hx=>h x (aE _ hx)];have:=h l bh
  rcases ownS_len this.1 with e | e <;> lia
theorem spnP_snoc (rs:List PR)(r:PR):nZ (rs++[r])=nZ rs+r.spn:=by unfold nZ;simp
theorem oZ (rs:List PR)(r:PR):bwP (rs++[r])=bwP rs+r.bwn:=by unfold bwP;simp
theorem spnP_take (rs:List PR)(m:Nat):nZ (rs.take m)≤nZ rs:=by
 have e:nZ rs=nZ (rs.take m)+nZ (rs.drop m):=by
  conv=>lhs;rw[←fZ m rs]
  unfold nZ;rw[aw,iT]
 lia
theorem hap_take (rs:List PR)(m:Nat):jK (lsC (rs.take m))≤jK (lsC rs):=by
 have go:∀(c a:List PR),jK (lsC a)≤jK (lsC (a++c)):=by
  intro c
  induction c with
  | nil=>intro a;rw[cz];exact Int.le_refl _
  | cons r c ih =>
   intro a;have:=ih (a++[r]);rw[dA] at this;apply Int.le_trans ?_ this;rw[iK];cases r with
   | line n ss rs=>show _≤jK (lsC a++[_]);rw[lN];dsimp only;lia
   | beat b=>exact Int.le_refl _
   | oth k ns is=>exact Int.le_refl _
 have:=go (rs.drop m) (rs.take m)
 rwa [fZ] at this
theorem st_told:∀{rs:List PR} {x:Ln},x∈kj rs→(∀z∈x.st.map (·.1),(x.n,z)∈stz rs)∧x.st.length≤rs.length:=by
 intro rs
 induction rs using snocI with
 | h0=>intro x h;cases h
 | h1 rs r ih =>
  intro x h;have up:∀p,p∈stz rs→p∈stz (rs++[r]):=λp hp=>by unfold stz;rw[eY];exact cB _ hp
  have le:(rs++[r]).length=rs.length+1:=by simp
  have old:∀x∈kj rs,(∀z∈x.st.map (·.1),(x.n,z)∈stz (rs++[r]))∧x.st.length≤(rs++[r]).length:=λx hx=>by
   obtain⟨a,b⟩:=ih hx;exact⟨λz hz=>up _ (a z hz),⋯⟩
  rw[lM] at h;revert h;apply stepL_c (C:=λy=>x∈y→(∀z∈x.st.map (·.1),(x.n,z)∈stz (rs++[r]))∧x.st.length≤(rs++[r]).length) (kj rs) r (λn ss rs' e h=>?_) (λn z l o w e h=>?_) (λ_ h=>old x h)
  ·rcases aS.mp h with h | h
   ·exact old x h
   ·rw[aB.mp h]
    exact⟨(λz hz=>by cases hz),cV _⟩
  ·subst e
   obtain⟨y,hy,rfl⟩:=aI.mp h;obtain⟨a,b⟩:=old y hy;obtain⟨a',b'⟩:=ih hy;unfold kD;split
   ·next en =>
    apply⟨λz' hz=>?_,by show(y.st++[_]).length≤_;rw[ao,le];simp;lia⟩;have hz:z'∈(y.st++[(z,l,o,w)]).map (·.1):=hz;rw[aw] at hz
    rcases aS.mp hz with hz | hz
    ·exact a z' hz
    ·have:z'=z:=by simpa using hz
     subst this;show(y.n,z')∈_;rw[en];unfold stz;rw[eY];apply bC _ (gT.mpr ⟨_,aB.mpr rfl,?_⟩);show(if ("stay" :Str) = "stay" then some (n,z') else none)=_;rw[rP rfl]
   ·exact⟨a,b⟩
structure PlanOk (b:Int)(rows:List PR):Prop where
 b1:1≤b
 ok:ib b rows
 hap:jK (lsC rows)≤16
 spn:nZ rows≤40
 few:rows.length≤70
 ne:lsC rows≠[]
theorem bt_core {x y:Ln}{k:Str}(B:Bt b x.core y.core k ns is sn):Bt b x y k ns is sn:=by
 cases B with
 | change h1 h2 h3 h4=>exact .change (x:=x) (y:=y) h1 h2 h3 h4
 | apart h1 h2 h3 h4=>exact .apart (x:=x) (y:=y) h1 h2 h3 h4
 | meet h1 h2 h3 h4 h5 h6=>exact .meet (x:=x) (y:=y) h1 h2 h3 h4 h5 h6
theorem bt_ends {x y:Ln}{k:Str}(B:Bt b x y k ns is sn)(rx:x.ss.length=x.rs.length+1)(ry:y.ss.length=y.rs.length+1):(x.fi≤sn.s∧sn.s<x.fi+2 * (x.rs.length:Int))∧y.fi≤sn.g∧sn.g<y.fi+2 * (y.rs.length:Int):=by
 have lt:∀{xs:List Str} {i:Nat} {z:Str},xs[i]? =some z→i<xs.length:=λh=>(ai.mp h).1
 cases B with
 | change h1 h2 h3 h4=>have:=lt h1;dsimp only;lia
 | apart h1 h2 h3 h4=>dsimp only;lia
 | meet h1 h2 h3 h4 h5 h6=>have:=lt h2;have:=lt h5;dsimp only;lia
theorem bt_kind {x y:Ln}{k:Str}(B:Bt b x y k ns is sn):k ≠ "beat" ∧k ≠ "line" ∧k ≠ "stay" := by
 cases B <;> decide +kernel
theorem runs_of {b:Int}(hb:1≤b):∀(suf pre:List PR) (bt:List Sn),ib b (pre++suf)→jK (lsC (pre++suf))≤16→nZ (pre++suf)≤40→(pre++suf).length≤70→bt.length=bwP pre→∃bt',Runs b (kj pre) bt suf (kj (pre++suf)) bt'∧bt'.length=bwP (pre++suf)
 | [],pre,bt,_,_,_,_,hl=>⟨bt,by rw[cz];exact .nil,by rw[cz];exact hl⟩
 | r::suf,pre,bt,ok,hh,hs,hn,hl=>by
  have ea:pre++r::suf=pre++[r]++suf:=by simp
  have e1:(pre++r::suf).take (pre.length+1)=pre++[r]:=by rw[ea];exact ku ∅
  have e0:(pre++r::suf).take pre.length=pre:=ku rfl;have o:mV b pre r:=by
   have:=ok pre.length r (by rw[bc (aG _),gY];rfl)
   rwa [e0] at this
  have ok0:ib b pre:=by have:=ok.take pre.length;rwa [e0] at this
  have ok1:ib b (pre++[r]):=by have:=ok.take (pre.length+1);rwa [e1] at this
  have h1:jK (lsC (pre++[r]))≤16:=by have:=hap_take (pre++r::suf) (pre.length+1);rw[e1] at this;lia
  have s1:nZ (pre++[r])≤40:=by have:=spnP_take (pre++r::suf) (pre.length+1);rw[e1] at this;lia
  have lok:∀{rs:List PR},ib b rs→∀l∈kj rs,l.ss.length=l.rs.length+1∧1≤l.rs.length:=λ{rs} ok l hl=>by
   have m:l.core∈lsC rs:=by rw[←gQ];exact cX hl
   obtain⟨_,_,_,a,_,c,_⟩:=ok.lnOk m;have a:2≤l.ss.length:=a;have c:l.ss.length=l.rs.length+1:=c;exact⟨c,⋯⟩
  have small:∀{bt1:List Sn},bt1.length=bwP (pre++[r])→lW (kj (pre++[r])) bt1=true:=λ{bt1} hb1=>by
   unfold lW;have c1:jK (kj (pre++[r]))≤16:=by rw[←nk,gQ];exact h1
   have c2:(allSL (kj (pre++[r])) bt1).length≤40:=by
    rw[allS_len (lok ok1),hb1,←ownL_core,gQ,own_C];exact s1
   rw[rR c1,rR c2];rfl
  have hapO:jK (kj pre)=jK (lsC pre):=by rw[←nk,gQ]
  have lay:=lay_C pre;have step:∃bt1,Tk b (kj pre) bt r (kj (pre++[r])) bt1∧bt1.length=bwP (pre++[r]):=by
   cases r with
   | beat b'=>exact rQ o id
   | line n ss rs =>
    obtain⟨o1,o2,o3,o4,o5,o6,o7,o8⟩:=o;have hb1:bt.length=bwP (pre++[.line n ss rs]):=by rw[oZ,hl];rfl
    apply⟨bt,?_,hb1⟩;have sm:=small hb1;rw[lM] at sm ⊢;apply .line (λm=>o1 ?_) o4 o5 ⋯ o7 sm;rw[←gQ,bf];exact m
   | oth k ns is =>
    rcases o with ⟨rfl,x,z,l,o,w,i,hx,rfl,rfl,q1,q2,q3,q4,q5,q6,q7,q8,q9,q10⟩ | ⟨hk,sn,⟨x,y,hx,hy,ne,B⟩,⟨q5,q6,q7,q8,q9,q10⟩,wi⟩
    ·apply⟨bt,?_,by rw[oZ,hl];rfl⟩
     obtain⟨hx1,hx2⟩:=lay.in_ x hx;obtain⟨_,_,_,_,_,c,_⟩:=ok0.lnOk hx;rw[←gQ] at hx;obtain⟨x',hx',rfl⟩:=aI.mp hx;obtain⟨t1,t2⟩:=st_told hx';rw[lM,show ph (kj pre) (.oth "stay" [x'.core.n,z] [l,o,w])=(kj pre).map (kD x'.n z (l,o,w)) from by unfold ph;exact rP rfl];have c:x'.ss.length=x'.rs.length+1:=c;have q3:i+1<x'.ss.length:=q3;have hx1:0≤x'.fi:=hx1;have hx2:x'.fi+2 * (x'.rs.length:Int)≤jK (lsC pre):=hx2;have hn2:pre.length≤70:=by rw[ao] at hn;lia
     exact .stay (x:=x') hx' (λm=>q4 (t1 z m)) ⋯ q1 q2 q3 (snB_of (by dsimp only;lia) (by dsimp only;lia) (by dsimp only;lia) (by dsimp only;lia) (by dsimp only;lia) q5 q6 q7 q8 q9 q10)
    ·obtain⟨k1,k2,k3⟩:=bt_kind B
     have hb1:(bt++[sn]).length=bwP (pre++[.oth k ns is]):=by
      rw[oZ,ao,hl];show _=_+(if k = "stay" then 0 else 1);rw[rO k3];rfl
     apply⟨bt++[sn],?_,hb1⟩;have sm:=small hb1;have es:kj (pre++[.oth k ns is])=kj pre:=by
      rw[lM];exact stepL_no _ k3 _ _
     rw[es] at sm ⊢;obtain⟨hx1,hx2⟩:=lay.in_ x hx;obtain⟨hy1,hy2⟩:=lay.in_ y hy;have ap:=lay.ap x hx y hy ne;obtain⟨_,_,_,_,_,cx,_⟩:=ok0.lnOk hx;obtain⟨_,_,_,_,_,cy,_⟩:=ok0.lnOk hy;obtain⟨⟨e1,e2⟩,e3,e4⟩:=bt_ends B cx cy;rw[←gQ] at hx hy;obtain⟨x',hx',rfl⟩:=aI.mp hx;obtain⟨y',hy',rfl⟩:=aI.mp hy;exact .btw ⟨x',y',hx',hy',ne,bt_core B⟩ k1 k2 k3 (by rw[hapO];exact snB_of ⋯ ⋯ ⋯ ⋯ ⋯ q5 q6 q7 q8 q9 q10) sm
  obtain⟨bt1,tk,hb1⟩:=step;obtain⟨bt',ru,hb'⟩:=runs_of hb suf (pre++[r]) bt1 (by rw[←ea];exact ok) (by rw[←ea];exact hh) (by rw[←ea];exact hs) (by rw[←ea];exact hn) hb1;exact⟨bt',.cons tk (by rw[ea];exact ru),by rw[ea];exact hb'⟩
end HN
namespace L2
open PySem PySem.Spec PyProof.Rows
theorem mapS_inj {xs ys:List Str}(h:xs.map V.str=ys.map V.str):xs=ys:=by
 induction xs generalizing ys with
 | nil=>cases ys with
  | nil=>rfl
  | cons _ _=>cases h
 | cons x xs ih=>cases ys with
  | nil=>cases h
  | cons y ys =>
   rw[bq,bq] at h;injection h with h1 h2
   injection h1 with h1
   rw[h1,ih h2]
def eqJ (xs ys:List Str)(j:Nat):Bool:=decide (xs[j]? =ys[j]?)
theorem eqJ_all {xs ys:List Str}(hl:xs.length=ys.length):(c7 xs.length).all (eqJ xs ys)=decide (xs=ys):=by
 by_cases e:xs=ys
 ·subst e
  rw[rR rfl,j4];exact λj _=>rR rfl
 ·rw[rS e]
  apply gF.mpr λh=>e (List.ext_getElem? λj=>?_)
  by_cases hj:j<xs.length
  ·exact rT (j4.mp h j (List.mem_range.mpr hj))
  ·rw[gb ⋯,gb ⋯]
theorem itemS {b:aq}{xs ys:List Str}(I:Inv X aN σ H s)(ha:H a=some (.lst (xs.map V.str)))(hb:H b=some (.lst (ys.map V.str)))(hl:xs.length=ys.length) :
  ∃its its2:List af,s.heap.IsList a its.toArray∧s.heap.IsList b its2.toArray∧its.length=xs.length∧its2.length=ys.length∧∀(A:cn) (j:Nat) (h1:j<its.toArray.size) (h2:j<its2.toArray.size),SeqAt.EqAt A s its.toArray[j] its2.toArray[j] (eqJ xs ys j):=by
 obtain⟨its,rv,p,_⟩:=I.list (SqL.of (K:=X.K) ha);obtain⟨its2,rv2,p2,_⟩:=I.list (SqL.of (K:=X.K) hb);have l1:its.length=xs.length:=by rw[←rv.length,ae]
 have l2:its2.length=ys.length:=by rw[←rv2.length,ae]
 apply⟨its,its2,p.isList,p2.isList,l1,l2,λA j h1 h2=>?_⟩;have h1':j<its.length:=by simpa using h1
 have h2':j<its2.length:=by simpa using h2
 have jx:j<xs.length:=by lia
 have jy:j<ys.length:=by lia
 obtain⟨u',eu,ru⟩:=rv.get (i:=j) (x:=V.str xs[j]) (by rw[aC,gE jx];rfl);obtain⟨v',ev,rw'⟩:=rv2.get (i:=j) (x:=V.str ys[j]) (by rw[aC,gE jy];rfl);have eu':its[j]=u':=by rw[gE h1'] at eu;exact bU eu
 have ev':its2[j]=v':=by rw[gE h2'] at ev;exact bU ev
 obtain⟨t1,rfl⟩:=(show ∃t,u'=af.str xs[j] t from ru);obtain⟨t2,rfl⟩:=(show ∃t,v'=af.str ys[j] t from rw');rw[List.getElem_toArray,List.getElem_toArray,eu',ev'];have e:eqJ xs ys j=(xs[j] == ys[j]):=by
  unfold eqJ;rw[gE jx,gE jy]
  by_cases q:xs[j]=ys[j]
  ·rw[q,rR rfl,beq_self_eq_true]
  ·rw[rS λz=>q (bU z),beq_eq_false_iff_ne.mpr q]
 rw[e];exact SeqAt.EqAt.str_str _ _ _ _
theorem op_eqLS (hu:X.A.units+64<cLine):OpR X (fJ .Eq) (λx y H Q=>∃(a b:aq) (xs ys:List Str),x= .ref a∧y= .ref b∧H a=some (.lst (xs.map V.str))∧H b=some (.lst (ys.map V.str))∧xs.length=ys.length∧Q (.bl (decide (xs=ys))) H):=by
 intro aN s σ H x y v u Q I rx ry h;obtain⟨a,b,xs,ys,rfl,rfl,ha,hb,hl,q⟩:=h;cases(show v=af.ref a from rx);cases(show u=af.ref b from ry);obtain⟨its,its2,p,p2,l1,l2,key⟩:=itemS I ha hb hl;apply SeqAt.eq_listAt (e:=eqJ xs ys) p p2 (by rw[aH,aH];lia) ⋯ (λj h1 h2=>key _ j h1 h2) (gq I q ?_);rw[aH,l1,eqJ_all hl]
theorem eqAt_S {b:aq}{xs ys:List Str}(hu:A.units<cLine)(I:Inv X aN σ H s)(ha:H a=some (.lst (xs.map V.str)))(hb:H b=some (.lst (ys.map V.str)))(hl:xs.length=ys.length):SeqAt.EqAt A s (.ref a) (.ref b) (decide (xs=ys)):=by
 by_cases hab:a=b
 ·subst hab
  rw[ha] at hb;have e:xs=ys:=mapS_inj (by injection hb with hb;injection hb);rw[rR e];exact SeqAt.EqAt.same _
 ·obtain⟨its,its2,p,p2,l1,l2,key⟩:=itemS I ha hb hl
  have k:=SeqAt.RcAt.lists (A:=A) (e:=eqJ xs ys) p p2 (by rw[aH,aH];lia) hu λj h1 h2=>key _ j h1 h2
  rw[aH,l1,eqJ_all hl] at k;exact SeqAt.EqAt.of_refs hab k
def memS (H:Hp)(xs:List Str):af→Bool
 | .ref q=> @decide (H q=some (.lst (xs.map V.str))) (mD _)
 | _=>false
theorem memS_ref {xs ys:List Str}(h:H q=some (.lst (ys.map V.str))):memS H xs (.ref q)=decide (ys=xs):=by
 unfold memS
 by_cases e:ys=xs
 ·subst e
  rw[rR rfl];exact @rR _ (mD _) h
 ·rw[rS e]
  apply @rS _ (mD _) λz=>e ?_
  rw[h] at z;exact mapS_inj (by injection z with z;injection z)
theorem any_memS {H:Hp}{xs:List Str}:∀{as:List aq} {its:List af} {ts:List (List Str)},ie (as.map V.ref) its→as.map H=ts.map (λt=>some (.lst (t.map V.str)))→its.any (memS H xs)=decide (xs∈ts)
 | [],_,[],r,_=>by
  cases r;simp
 | [],_,_::_,_,h=>by cases h
 | _::_,_,[],_,h=>by cases h
 | a::as,_,t::ts,r,h=>by
  rw[bq,bq] at h;injection h with h1 h2
  cases r with
  | cons r0 rs =>
   have r0:_=af.ref a:=r0;subst r0;rw[jF,memS_ref h1,any_memS rs h2]
   by_cases e:t=xs
   ·subst e;simp
   ·have:(xs∈t::ts)↔xs∈ts:=by
     rw[ay];exact⟨λz=>z.resolve_left λq=>e q.symm,Or.inr⟩
    rw[rS e,Bool.false_or];exact decide_eq_decide.mpr this.symm
theorem op_notInLS (hu:X.A.units+64<cLine):OpR X (fJ .NotIn) (λx y H Q=>∃(a p:aq) (xs:List Str) (as:List aq) (ts:List (List Str)),x= .ref a∧y= .ref p∧H a=some (.lst (xs.map V.str))∧H p=some (.lst (as.map V.ref))∧as.map H=ts.map (λt=>some (.lst (t.map V.str)))∧(∀t∈ts,t.length=xs.length)∧Q (.bl (!decide (xs∈ts))) H):=by
 intro aN s σ H x y v u Q I rx ry h;obtain⟨a,p,xs,as,ts,rfl,rfl,ha,hp,hm,hl,q⟩:=h;cases(show v=af.ref a from rx);cases(show u=af.ref p from ry);obtain⟨its,r,pl,hz⟩:=I.list (SqL.of (K:=X.K) hp);apply SeqAt.notIn_listAt (memS H xs) pl.isList (λw hw=>?_) ⟨.bl _,H,I,rfl,?_⟩
 ·have hw:w∈its:=by simpa using hw
  obtain⟨i,hi⟩:=cE hw;have il:i<as.length:=by have:=r.length;rw[ae] at this;rw[this];exact(ai.mp hi).1
  obtain⟨w',e1,rw'⟩:=r.get (i:=i) (x:=V.ref as[i]) (by rw[aC,gE il];rfl);rw[hi] at e1;cases e1;have rw2:w=af.ref as[i]:=rw';subst rw2;have e2:(as.map H)[i]? =some (H as[i]):=by rw[aC,gE il];rfl
  rw[hm,aC] at e2;obtain⟨t,ht,e3⟩:=aV.mp e2;rw[memS_ref e3.symm];exact eqAt_S (A:=X.A.in1) (by show X.A.units+1<cLine;lia) I e3.symm ha (hl t (aD ht))
 ·rw[show its.toArray.any (memS H xs)=its.any (memS H xs) by simp,any_memS r hm]
  exact q
def isS (k:Str):af→Bool:=λv=>match v with | .str y _=>y == k | _=>false
theorem mt_indexLS:MtM X "list.index" (λx vs H Q=>∃(l:aq) (ns:List Str) (k:Str) (i:Nat),x= .ref l∧vs=[.str k]∧H l=some (.lst (ns.map V.str))∧ns[i]? =some k∧(∀j,j<i→ns[j]? ≠some k)∧i≤1000∧Q (.int (i:Nat)) H):=by
 intro aN s σ H x vs v us Q I rx rv h;obtain⟨l,ns,k,i,rfl,rfl,hH,hi,hno,hsm,q⟩:=h;cases(show v=af.ref l from rx);obtain⟨u,rfl,ru⟩:=rv.one;obtain⟨t,rfl⟩:=(show ∃t,u=af.str k t from ru);obtain⟨z,its,n,r,hl,e⟩:=I.lstM hH;rw[ae] at hl;have at_:∀(m:Nat) (hm:m<its.toArray.size) (hm':m<ns.length),∃tk,its.toArray[m]=af.str ns[m] tk:=λm hm hm'=>by
  obtain⟨u,hu,ru⟩:=r.get (i:=m) (x:=V.str ns[m]) (by rw[aC,gE hm'];rfl);obtain⟨tk,rfl⟩:=(show ∃t,u=af.str ns[m] t from ru);exact⟨tk,by have:=(ai.mp hu).2;simpa using this⟩
 obtain⟨hil,hib⟩:=ai.mp hi;have sz:its.toArray.size=ns.length:=by rw[aH];lia
 apply jh F.slot_list_index ⟨_,e,rfl⟩ F.entry_list_index (F.args_list_index_2 _ _) (SeqAt.list_indexAt l its.toArray n none #[] (.str k t) (isS k) i (by rw[sz];exact hil) ⋯ ?_ λm hm hmi=>?_) ⟨e,λy hy=>?_,⟨.int (i:Nat),H,I.tok _,⟨_,rfl⟩,q⟩⟩
 ·obtain⟨tk,e1⟩:=at_ i (by rw[sz];exact hil) hil
  rw[e1,hib];exact beq_self_eq_true k
 ·obtain⟨tk,e1⟩:=at_ m hm ⋯
  rw[e1];apply beq_eq_false_iff_ne.mpr λz=>hno m hmi ?_
  rw[gE ⋯,z]
 ·obtain⟨m,hm,rfl⟩:=Array.getElem_of_mem hy
  obtain⟨tk,e1⟩:=at_ m hm ⋯;rw[e1];exact SeqAt.EqAt.str_str _ _ _ _
end L2
namespace HN
open PySem L2 PyProof.Rows HT2
abbrev sEndW:c8:=top 92
abbrev sRidW:c8:=top 93
theorem intr_r:∀{ss:List Str} {rs:List Int} (i:Nat),ss.length=rs.length+1→(jI ss rs)[2 * i+1]? =(rs[i]?).map V.int
 | [],_,_,h=>by simp at h
 | [_],[],0,_=>rfl
 | [_],[],i+1,_=>rfl
 | _::_::_,[],_,h=>by simp at h
 | s::ss,r::rs,0,_=>rfl
 | s::ss,r::rs,i+1,h=>by
  have hl:ss.length=rs.length+1:=by simpa using h
  show(V.str s:: .int r::jI ss rs)[2 * i+1+1+1]? =_;rw[aZ,aZ,intr_r i hl,aZ]
theorem qj:∀{ss:List Str} {rs:List Int},ss.length=rs.length+1→evs (jI ss rs)=ss.map V.str
 | [],_,h=>by simp at h
 | [_],[],_=>rfl
 | _::_::_,[],h=>by simp at h
 | s::ss,r::rs,h=>by
  have hl:ss.length=rs.length+1:=by simpa using h
  show V.str s::evs (jI ss rs)=_;rw[qj hl];rfl
theorem lsC_sub (c:List PR):∀(a:List PR) {x:Ln},x∈lsC a→x∈lsC (a++c):=by
 induction c with
 | nil=>intro a x h;rw[cz];exact h
 | cons r c ih =>
  intro a x h;have:=ih (a++[r]) (x:=x) (by
   rw[iK];cases r with
   | line n ss rs=>exact cB _ h
   | beat b=>exact h
   | oth k ns is=>exact h)
  rwa [dA] at this
theorem qh {x:Ln}(h:x∈lsC (rs.take m)):x∈lsC rs:=by
 have:=lsC_sub (rs.drop m) _ h
 rwa [fZ] at this
def PR.okE:PR→Prop
 | .beat _=>False
 | .line _ ss rs=>ss.length=rs.length+1∧2≤ss.length∧ss.length≤400∧ss.Nodup
 | .oth k ns _=>k ≠ "line" ∧ns≠[]
def oV:Option Int→V
 | none=> .non
 | some i=> .int i
def oI (c:Prop)[Decidable c](i:Int):Option Int:=if c then some i else none
def rM (prs:List PR)(n z:Str)(c g:Option Int):Prop:=(∃x∈lsC prs,∃i:Nat,x.n=n∧x.ss[i]? =some z∧c=oI (0<i) (x.fi+2 * i - 1)∧g=oI (i+1<x.ss.length) (x.fi+2 * i))∨((∀x∈lsC prs,x.n=n→z ∉ x.ss)∧c=none∧g=none)
inductive spEndW (vs:List V)(H:Hp)(Q:VK)(_:XK):Prop
 | mk (R:aq)(xs:List V)(prs:List PR)(n z:Str)(_:vs=[.ref R,.str n,.str z])(_:H R=some (.lst xs))(_:kO H xs (prs.map PR.rowV))(_:(∀r∈prs,r.okE))(_:prs.length≤100)(_:∀L c g H',cb H H'→H' L=some (.lst [oV c,oV g])→rM prs n z c g→Q (.ref L) H')
def Ride (prs:List PR)(n z y:Str)(o:Option Int):Prop:=(∃x∈lsC prs,∃(i:Nat) (r:Int),x.n=n∧x.ss[i]? =some z∧x.ss[i+1]? =some y∧x.rs[i]? =some r∧o=some r)∨((∀x∈lsC prs,x.n=n→∀i:Nat,x.ss[i]? =some z→x.ss[i+1]? ≠some y)∧o=none)
inductive spRidW (vs:List V)(H:Hp)(Q:VK)(_:XK):Prop
 | mk (R:aq)(xs:List V)(prs:List PR)(n z y:Str)(_:vs=[.ref R,.str n,.str z,.str y])(_:H R=some (.lst xs))(_:kO H xs (prs.map PR.rowV))(_:(∀r∈prs,r.okE))(_:prs.length≤100)(_:∀o H',cb H H'→Ride prs n z y o→Q (oV o) H')
theorem inV_str:inV (.str z) (ss.map V.str)=decide (z∈ss):=by
 unfold inV
 induction ss with
 | nil=>simp
 | cons s ss ih =>
  rw[bq,jF,ih];show((s == z) || _)=_
  by_cases e:s=z
  ·subst e;simp
  ·rw[beq_eq_false_iff_ne.mpr e,Bool.false_or]
   apply decide_eq_decide.mpr ?_;rw[ay];exact⟨Or.inr,λq=>q.resolve_left λy=>e y.symm⟩
theorem flat_str (ss:List Str):(ss.map V.str).all pK=true:=by
 rw[j4];intro v hv;obtain⟨z,_,rfl⟩:=aI.mp hv;rfl
theorem rA:cI ["_law_rows","_law_name","_law_stop","_law_begin","_law_row","_law_stops","_law_at"] pzs (defScope sEndW):=by trivial
theorem ok_endW (F:Fun K "_law_ends" "_law_ends" sEndW f fd)(T:Nm mg)(hint:mg "int" =none):‹0› 1 f fd pzs spEndW:=by
 specialize F.ok rA;obtain ⟨R,xs,prs,n,z,rfl,hR,rw_,ok,few,k⟩:=h;apply ⟨_,PSl.h (bo ⟨(psZ 3 rA.nd aO)⟩
  (bo ⟨(jg cf rfl (jk (pv 0)) (pgZ 4 rA.nd) (bE (fG (bQ iB (fj bV (pv 4) aO (fun _ _=>rfl)) eS (cw _)) (PSl.h (bo ⟨(psZ 5 rA.nd (pe_twoL (a:=2) (pv 4)))⟩
  (bo ⟨(fG (PW.pt (oJ (bQ iB (fj bV (pv 4) aO (fun _ _=>rfl)) (pv 1) (cw _)) (mG (bQ oO (pv 2) (pv 5) rfl)))) (PSl.h (bo ⟨(psZ 6 rA.nd (jR bB PySem.F.slot_list_index PySem.F.type_list_index mt_indexLS (pv 5) (ah (pv 2) aA)))⟩
  (gc ⟨(bR (ip (ah (PEs.h (k_ix bV (pH (eM k_non (eM (k_op iq (k_op fz ⟨pv 3⟩ (k_op kG jJ ⟨pv 6⟩)) jJ) pd))) ⟨gk oY rfl hint boot_int (ah (jQ op_gt (pv 6) aO (cw _)) aA)⟩ (fun _ _=>rfl))) (ah (PEs.h (k_ix bV (pH (eM k_non (eM (k_op fz ⟨pv 3⟩ (k_op kG jJ ⟨pv 6⟩)) pd))) ⟨gk oY rfl hint boot_int (ah (jQ op_lt (pv 6) (cH iq (cu cA rfl T.len bp (ah (pv 5) aA)) aO) (cw _)) aA)⟩ (fun _ _=>rfl))) aA))))⟩))) cF)⟩
  (gc ⟨(psZ 3 rA.nd (cH iq (cH fz (pv 3) (cH kG aO (cu cA rfl T.len bp (ah (pv 5) aA)))) aO))⟩)))) cF)))⟩
  (gc ⟨(bR (ip (ah iJ (ah iJ aA))))⟩))),?_⟩
 try dsimp only [cxK]
 have lxs:xs.length=prs.length:=by rw[rw_.len,ae]
 apply⟨ρ,R,rfl,⟨_,SqL.of hR⟩,?_⟩;apply lF (K:=K) (a:=R) (xs:=xs) (λi σ H2=>cb H H2∧(∀x∈lsC (prs.take i),x.n=n→z ∉ x.ss)∧∃v4 v5 v6,σ=[some (.ref R),some (.str n),some (.str z),some (.int (jK (lsC (prs.take i)))),v4,v5,v6])
  ⟨cb.refl H,(λx hx=>by cases hx),none,none,none,rfl⟩ (λi σ H2 _ q=>SqL.of (q.1 _ _ hR)) ?_ ?_
 ·rintro i x σ H2 hx ⟨S2,no,v4,v5,v6,rfl⟩
  have hi:i<prs.length:=by rw[←lxs];exact(ai.mp hx).1
  have hp:=gE hi;have et:prs.take (i+1)=prs.take i++[prs[i]]:=by rw[bG,hp];rfl
  have okr:=ok _ (cW hi);obtain⟨a,hxa,hra⟩:=rw_.get i prs[i].rowV (by rw[aC,hp];rfl);rw[hx] at hxa;cases hxa;have sub:∀x,x∈lsC (prs.take (i+1))→x∈lsC prs:=λx h=>qh h
  rw[et] at sub ⊢;rw[iK] at sub ⊢;generalize prs[i]=r at okr hra sub ⊢;have hra2:=S2 _ _ hra;cases r with
  | beat b=>exact rQ okr id
  | oth kk ns is =>
   have hra2:H2 a=some (.lst (.str kk::(ns.map V.str++is.map V.int))):=hra2;apply⟨ρ,a,τ,SqL.of hra2,aP (j:=0) rfl,rfl,ρ,jY (rS λz=>okr.1 (by injection z)) ?_⟩;exact⟨S2,no,_,_,ρ⟩
  | line m ss rs =>
   obtain⟨o1,o2,o3,nd⟩:=okr;have hra2:H2 a=some (.lst (.str "line" :: .str m::jI ss rs)):=hra2;apply⟨ρ,a,τ,SqL.of hra2,aP (j:=0) rfl,rfl,ρ,nW (rR rfl) ?_⟩;apply⟨ρ,a,ρ,SqL.of hra2,(by simp only[av];lia),λSt H3 S3 e3=>?_⟩;have e3:H3 St=some (.lst (ss.map V.str)):=by rw[e3];show some (HO.lst (evs (jI ss rs)))=_;rw[qj o1]
   have hra3:=S3 _ _ hra2;have nx:¬(m=n∧z∈ss)→∀x∈qp (lsC (prs.take i)) (.line m ss rs),x.n=n→z ∉ x.ss:=λhne x hx en=>by
    rcases aS.mp hx with hx | hx
    ·exact no x hx en
    ·rw[aB.mp hx] at en ⊢
     exact λhz=>hne ⟨en,hz⟩
   have en:jK (lsC (prs.take i))+2 * (((ss.map V.str).length:Nat):Int) - 2=jK (qp (lsC (prs.take i)) (.line m ss rs)):=by
    rw[show qp (lsC (prs.take i)) (.line m ss rs)=lsC (prs.take i)++[⟨m,ss,rs,[],jK (lsC (prs.take i))⟩] from rfl,lN,ae]
    dsimp only
    lia
   have xin:(⟨m,ss,rs,[],jK (lsC (prs.take i))⟩:Ln)∈lsC prs:=sub _ (bC _ (aB.mpr rfl));generalize jK (qp (lsC (prs.take i)) (.line m ss rs))=hap1 at en ⊢;generalize jK (lsC (prs.take i))=hap0 at en xin ⊢;have go:∀σ5 σ6,¬(m=n∧z∈ss)→cb H H3∧(∀x∈qp (lsC (prs.take i)) (.line m ss rs),x.n=n→z ∉ x.ss)∧∃v4 v5 v6,[some (.ref R),some (.str n),some (.str z),some (V.int (hap0+2 * (((ss.map V.str).length:Nat):Int) - 2)),some (.ref a),σ5,σ6]=[some (.ref R),some (.str n),some (.str z),some (.int hap1),v4,v5,v6]:=λσ5 σ6 hne=>⟨S2.trans S3,nx hne,_,_,_,by rw[en]⟩
   apply⟨ρ,a,τ,SqL.of hra3,aP (j:=1) rfl,ρ,rfl,ρ,kJ (λc1=>?_) (λc1=>?_)⟩
   ·have c1:m=n:=by have:=rT c1;injection this
    apply⟨ρ,ρ,St,ρ,.inl (SqL.of e3),rfl,flat_str ss,ρ,kJ (λc2=>?_) (λc2=>?_)⟩
    ·have c2:z∈ss:=by
      have:inV (.str z) (ss.map V.str)=true:=c2;rw[inV_str] at this;exact rT this
     obtain⟨j,hj⟩:=cE c2;have lj:=(ai.mp hj).1;apply⟨ρ,.inl ⟨rfl,_,SqL.of e3⟩,ρ,St,ss,z,j,rfl,rfl,e3,hj,λj' h1 h2=>rQ (kH nd h2 hj) ⋯,⋯,?_⟩;apply⟨ρ,ρ,ς,.inl ⟨↥0,↥0⟩,ς,ς,szZ2,λL4 H4 S4 e4=>?_⟩;apply⟨ρ,ς,.inr ⟨ρ,?_⟩⟩;apply⟨L4,_,_,oV (oI (0<j) (hap0+2 * j - 1)),rfl,rfl,SqL.of e4,?_,?_⟩
     ·unfold oI
      by_cases c:0<j
      ·rw[rP c,rR ⋯];rfl
      ·rw[rO c,rS ⋯];rfl
     apply⟨ρ,ρ,ς,.inl ⟨↥0,↥0⟩,ς,szZ2,λL5 H5 S5 e5=>?_⟩;have S35:cb H3 H5:=S4.trans S5;apply⟨ρ,ρ,St,ρ,.inl (SqL.of (S35 _ _ e3)),ς,ς,.inr ⟨ρ,?_⟩⟩;apply⟨L5,_,_,oV (oI (j+1<ss.length) (hap0+2 * j)),rfl,rfl,SqL.of e5,?_,?_⟩
     ·rw[ae]
      unfold oI
      by_cases c:j+1<ss.length
      ·rw[rP c,rR ⋯];rfl
      ·rw[rO c,rS ⋯];rfl
     apply⟨szZ2,λL6 H6 S6 e6=>?_⟩;exact k L6 _ _ H6 (S2.trans (S3.trans (S35.trans S6))) e6 (.inl ⟨_,xin,j,c1,hj,rfl,rfl⟩)
    ·have c2:z ∉ ss:=λhz=>c2 (by show inV (.str z) (ss.map V.str)=true;rw[inV_str];exact rR hz)
     exact⟨ρ,ρ,St,ρ,.inl (SqL.of e3),ς,.inl ⟨↥0,↥0⟩,ς,ς,go _ _ λz=>c2 z.2⟩
   ·have c1:m≠n:=λz=>c1 (rR (by rw[z]))
    exact⟨ρ,ρ,St,ρ,.inl (SqL.of e3),ς,.inl ⟨↥0,↥0⟩,ς,ς,go _ _ λz=>c1 z.1⟩
 ·rintro σ H2 ⟨S2,no,v4,v5,v6,rfl⟩
  rw[lxs,bO] at no;apply⟨szZ2,λL H3 S3 e=>?_⟩;exact k L none none H3 (S2.trans S3) e (.inr ⟨no,rfl,rfl⟩)
theorem scRidW:cI ["_law_rows","_law_name","_law_stop","_law_other","_law_row","_law_k"] pzn (defScope sRidW):=by trivial
theorem ok_ridW (F:Fun K "_law_ride" "_law_ride" sRidW f fd)(T:Nm mg)(T2:Nt mg):‹0› 1 f fd pzn spRidW:=by
 specialize F.ok scRidW;obtain ⟨R,xs,prs,n,z,y,rfl,hR,rw_,ok,few,k⟩:=h;apply ⟨_,PSl.h (bo ⟨(jg cf rfl (jk (pv 0)) (pgZ 4 scRidW.nd) (bE (fG (bQ (op_eqLS hr.units) (fe iI (pv 4) gW (fV aO)) (ip (ah eS (ah (pv 1) aA))) (cw _)) (bE (jg cf rfl (oM rfl T2.range (ah aO (ah (cH iq (cu cA rfl T.len bp (ah (pv 4) aA)) aO) (ah aO aA)))) (pgZ 5 scRidW.nd) (bE (fG (PW.pt (oJ (bQ iB (fj bV (pv 4) (pv 5) (fun _ _=>rfl)) (pv 2) (cw _)) (mG (bQ iB (fj bV (pv 4) (cH fz (pv 5) aO) (fun _ _=>rfl)) (pv 3) (cw _))))) (bE (bR (fj bV (pv 4) (cH fz (pv 5) aO) (fun _ _=>rfl)))) cF)))) cF)))⟩
  (gc ⟨(bR iJ)⟩)),?_⟩
 try dsimp only [cxK]
 have lxs:xs.length=prs.length:=by rw[rw_.len,ae]
 apply⟨ρ,R,rfl,⟨_,SqL.of hR⟩,?_⟩;apply lF (K:=K) (a:=R) (xs:=xs) (λi σ H2=>cb H H2∧(∀x∈lsC (prs.take i),x.n=n→∀j:Nat,x.ss[j]? =some z→x.ss[j+1]? ≠some y)∧∃v4 v5,σ=[some (.ref R),some (.str n),some (.str z),some (.str y),v4,v5])
  ⟨cb.refl H,(λx hx=>by cases hx),none,none,rfl⟩ (λi σ H2 _ q=>SqL.of (q.1 _ _ hR)) ?_ ?_
 ·rintro i x σ H2 hx ⟨S2,no,v4,v5,rfl⟩
  have hi:i<prs.length:=by rw[←lxs];exact(ai.mp hx).1
  have hp:=gE hi;have et:prs.take (i+1)=prs.take i++[prs[i]]:=by rw[bG,hp];rfl
  have okr:=ok _ (cW hi);obtain⟨a,hxa,hra⟩:=rw_.get i prs[i].rowV (by rw[aC,hp];rfl);rw[hx] at hxa;cases hxa;have sub:∀x,x∈lsC (prs.take (i+1))→x∈lsC prs:=λx h=>qh h
  rw[et] at sub ⊢;rw[iK] at sub ⊢;generalize prs[i]=r at okr hra sub ⊢;have hra2:=S2 _ _ hra;cases r with
  | beat b=>exact rQ okr id
  | oth kk ns is =>
   obtain⟨o1,o2⟩:=okr;obtain⟨n0,ns',rfl⟩:∃a b,ns=a::b:=by
    cases ns with
    | nil=>exact rQ rfl o2
    | cons a b=>exact⟨a,b,rfl⟩
   have hra2:H2 a=some (.lst (.str kk:: .str n0::(ns'.map V.str++is.map V.int))):=hra2;apply⟨ρ,ρ,a,ρ,SqL.of hra2,λC1 H3 S3 e3=>?_⟩;rw[cutU (i:=2) (n:=2) rfl] at e3;apply⟨ρ,szZ2,λC2 H4 S4 e4=>?_⟩;apply⟨C1,C2,[kk,n0],["line",n],rfl,rfl,S4 _ _ e3,e4,rfl,ρ,jY (rS λz=>o1 (by injection z)) ?_⟩;exact⟨S2.trans (S3.trans S4),no,_,ρ⟩
  | line m ss rs =>
   obtain⟨o1,o2,o3,nd⟩:=okr;have hra2:H2 a=some (.lst (.str "line" :: .str m::jI ss rs)):=hra2;have lrow:(V.str "line" :: .str m::jI ss rs).length=2 * ss.length+1:=by rw[av,av,ko o1];lia
   apply⟨ρ,ρ,a,ρ,SqL.of hra2,λC1 H3 S3 e3=>?_⟩;rw[cutU (i:=2) (n:=2) rfl] at e3;apply⟨ρ,szZ2,λC2 H4 S4 e4=>?_⟩;have S24:=S3.trans S4;apply⟨C1,C2,["line",m],["line",n],rfl,rfl,S4 _ _ e3,e4,rfl,ρ,kJ (λc1=>?_) (λc1=>?_)⟩
   ·have c1:m=n:=by have:=rT c1;injection this with _ this;injection this
    have hra4:=S24 _ _ hra2;have xin:(⟨m,ss,rs,[],jK (lsC (prs.take i))⟩:Ln)∈lsC prs:=sub _ (bC _ (aB.mpr rfl));apply⟨ρ,a,ρ,.inl (SqL.of hra4),ς,2,ρ,⟨↥0,↥0,by rw[lrow];lia,by rw[lrow];lia⟩,?_⟩;have en:(((((V.str "line" :: .str m::jI ss rs).length:Nat):Int) - 2) - 2+1) / 2=((ss.length - 1:Nat):Int):=by rw[lrow];lia
    rw[en,ff];apply nP (lo:=2) (n:=ss.length - 1) (λj σ H5=>cb H4 H5∧(∀q:Nat,q<j→ss[q]? =some z→ss[q+1]? ≠some y)∧∃v5,σ=[some (.ref R),some (.str n),some (.str z),some (.str y),some (.ref a),v5])
     ⟨cb.refl _,(λq hq=>rQ hq (jE _)),_,rfl⟩ ?_ ?_
    ·rintro j σ H5 hj ⟨S5,nq,v5,rfl⟩
     obtain⟨s1,hs1⟩:∃s,ss[j]? =some s:=⟨_,gE ⋯⟩;obtain⟨s2,hs2⟩:∃s,ss[j+1]? =some s:=⟨_,gE ⋯⟩;obtain⟨r1,hr1⟩:∃r,rs[j]? =some r:=⟨_,gE ⋯⟩;have hra5:=S5 _ _ hra4;have g1:atI (V.str "line" :: .str m::jI ss rs) ((2:Int)+(j:Nat) * 2)=some (.str s1):=by
      rw[show(2:Int)+(j:Nat) * 2=((2 * j+1+1:Nat):Int) by lia];exact aP (by rw[aZ,aZ,pT j o1,hs1];rfl)
     have g2:atI (V.str "line" :: .str m::jI ss rs) ((2:Int)+(j:Nat) * 2+2)=some (.str s2):=by
      rw[show(2:Int)+(j:Nat) * 2+2=((2 * (j+1)+1+1:Nat):Int) by lia];exact aP (by rw[aZ,aZ,pT (j+1) o1,hs2];rfl)
     have g3:atI (V.str "line" :: .str m::jI ss rs) ((2:Int)+(j:Nat) * 2+1)=some (.int r1):=by
      rw[show(2:Int)+(j:Nat) * 2+1=((2 * j+1+1+1:Nat):Int) by lia];exact aP (by rw[aZ,aZ,intr_r j o1,hr1];rfl)
     have nx:¬(s1=z∧s2=y)→∀q:Nat,q<j+1→ss[q]? =some z→ss[q+1]? ≠some y:=λhne q hq w1 w2=>by
      rcases i9.mp hq with hq | hq
      ·exact nq q hq w1 w2
      ·subst hq
       rw[hs1] at w1;rw[hs2] at w2;exact hne ⟨bU w1,bU w2⟩
     apply⟨ρ,ρ,a,τ,SqL.of hra5,g1,ρ,rfl,ρ,kJ (λc2=>?_) (λc2=>?_)⟩
     ·have c2:s1=z:=by have:=rT c2;injection this
      apply⟨ρ,ρ,ς,a,τ,SqL.of hra5,g2,ρ,rfl,ρ,kJ (λc3=>?_) (λc3=>?_)⟩
      ·have c3:s2=y:=by have:=rT c3;injection this
       apply⟨ρ,ρ,ς,a,τ,SqL.of hra5,g3,?_⟩;exact k (some r1) H5 (S2.trans (S24.trans S5)) (.inl ⟨_,xin,j,r1,c1,by rw[←c2];exact hs1,by rw[←c3];exact hs2,hr1,rfl⟩)
      ·exact⟨S5,nx λz=>c3 (rR (by rw[z.2])),ρ⟩
     ·exact⟨S5,nx λz=>c2 (rR (by rw[z.1])),ρ⟩
    ·rintro σ H5 ⟨S5,nq,v5,rfl⟩
     apply⟨S2.trans (S24.trans S5),λx hx en=>?_,_,ρ⟩
     rcases aS.mp hx with hx | hx
     ·exact no x hx en
     ·rw[aB.mp hx]
      intro q w1 w2;have:=(ai.mp w2).1;exact nq q (by dsimp only at this;lia) w1 w2
   ·apply⟨S2.trans S24,λx hx en=>?_,_,ρ⟩
    rcases aS.mp hx with hx | hx
    ·exact no x hx en
    ·rw[aB.mp hx] at en
     exact rQ (rR (by rw[show m=n from en])) c1
 ·rintro σ H2 ⟨S2,no,v4,v5,rfl⟩
  rw[lxs,bO] at no;exact k none H2 S2 (.inr ⟨no,rfl⟩)
end HN
namespace L2
open PySem PySem.Spec PyProof.Rows
theorem PE.cutV {t:TE}(h:PE X e t):PE X e (λσ H Q=>∃N:VK,(∀v H',N v H'→Q v H')∧t σ H N):=λaN s σ H Q I ⟨N,i,q⟩ =>
 thn (h aN s σ H N I q) λu s' ⟨v,H',I',rv,q'⟩=>⟨v,H',I',rv,i _ _ q'⟩
end L2
namespace HN
open PySem L2 PyProof.Rows HT2
def NoSp (H:Hp)(v:V):Prop:=v= .non∨∃(t:aq) (x y:Option Int) (l o w:Int),v= .ref t∧H t=some (.tup [oV x,oV y,.int l,.int o,.int w])∧(x=none∨y=none)
theorem NoSp.same (S:∀a t,H a=some (.tup t)→H' a=some (.tup t))(h:NoSp H v):NoSp H' v:=by
 rcases h with h | ⟨t,x,y,l,o,w,h1,h2,h3⟩
 ·exact .inl h
 ·exact .inr ⟨t,x,y,l,o,w,h1,S _ _ h2,h3⟩
theorem NoSp.no (h:NoSp H v)(b m:Int):G1 H v∧mX H b m v=false:=by
 have kn:∀o:Option Int,Kn H (oV o):=λo=>by cases o <;> exact⟨ρ⟩
 rcases h with rfl | ⟨t,x,y,l,o,w,rfl,h2,h3⟩
 ·exact⟨⟨⟨ρ⟩,(λa xs e=>by cases e)⟩,rfl⟩
 ·apply⟨⟨⟨"tuple",by unfold tyn;dsimp only;rw[h2]⟩,λa xs e1 e2 z hz=>?_⟩,?_⟩
  ·cases e1
   rw[h2] at e2;cases e2;simp only[ay,bz,or_false] at hz
   rcases hz with rfl | rfl | rfl | rfl | rfl
   ·exact kn _
   ·exact kn _
   ·exact⟨ρ⟩
   ·exact⟨ρ⟩
   ·exact⟨ρ⟩
  ·simp only[mX,h2]
   have e:nX m (oV x) (oV y)=false:=by
    unfold nX
    rcases h3 with rfl | rfl
    ·rfl
    ·rw[show inI (oV none) 0 (m - 1)=false from rfl,kY,Bool.and_false]
   rw[e];rfl
structure PlH (CP CL:aq)(H:Hp)(p:aq)(b:Int)(zs:List LX)(DL LB:aq):Prop where
 pl:∃dp,H p=some (.ins CP dp (plF b DL LB))
 dl:H DL=some (.dK (k7 zs))
 ln:∀z∈zs,LinD H CL z.2.1 z.1.n z.1.ss z.1.rs z.2.2 z.1.fi
inductive spHapN (CP CL:aq)(vs:List V)(H:Hp)(Q:VK)(_:XK):Prop
 | mk (p DL LB:aq)(b:Int)(zs:List LX)(_:vs=[.ref p])(_:PlH CP CL H p b zs DL LB)(_:zs.length≤100)(_:∀H',cb H H'→Q (.int (mU zs)) H')
inductive spChangeN (C:aq)(vs:List V)(H:Hp)(Q:VK)(_:XK):Prop
 | mk (l o w:Int)(x y p:aq)(n1 n2 z:Str)(ss tt:List Str)(rs us:List Int)(fi gi:Int)(_:vs=[.ref x,.ref y,.ref p])(_:LnOk H C x ss rs fi)(_:LnOk H C y tt us gi)(_:H p=some (.tup [.str "change",.str n1,.str n2,.str z,.int l,.int o,.int w]))(_:(¬∃i j:Nat,ss[i]? =some z∧1≤i∧tt[j]? =some z∧j+1<tt.length))(_:∀v H',cb H H'→NoSp H' v→Q v H')
inductive spApartN (C:aq)(vs:List V)(H:Hp)(Q:VK)(_:XK):Prop
 | mk (bt d:Int)(x y p:aq)(n1 n2 z:Str)(ss tt:List Str)(rs us:List Int)(fi gi:Int)(_:vs=[.int bt,.ref x,.ref y,.ref p])(_:LnOk H C x ss rs fi)(_:LnOk H C y tt us gi)(_:H p=some (.tup [.str "apart",.str n1,.str n2,.str z,.int d]))(_:(¬∃i j:Nat,ss[i]? =some z∧i+1<ss.length∧tt[j]? =some z∧j+1<tt.length))(_:∀v H',cb H H'→NoSp H' v→Q v H')
inductive spMeetN (C:aq)(vs:List V)(H:Hp)(Q:VK)(_:XK):Prop
 | mk (bt d:Int)(x y p:aq)(n1 n2 z z2:Str)(ss tt:List Str)(rs us:List Int)(fi gi:Int)(_:vs=[.int bt,.ref x,.ref y,.ref p])(_:LnOk H C x ss rs fi)(_:LnOk H C y tt us gi)(_:H p=some (.tup [.str "meet",.str n1,.str n2,.str z,.str z2,.int d]))(_:(¬∃i j:Nat,ss[i]? =some z∧ss[i+1]? =some z2∧tt[j]? =some z2∧tt[j+1]? =some z))(_:∀v H',cb H H'→NoSp H' v→Q v H')
theorem ok_hapN (F:Fun K "happenings" "Plan.happenings" sHap f fd)(T:Nm mg)(T2:Nt mg)(CC:PlaC K C)(LC:LinC K CL):‹0› 1 f fd pzb (spHapN C CL):=by
 specialize F.ok scHap;obtain⟨p,DL,LB,b,zs,rfl,I,f1,k⟩:=h;apply⟨_,bE (bR (cu (call_sum rfl) rfl T2.sum boot_sum (ah (pe_thaw (kL (fr:=[]) (js:=[]) rfl (qz (eW (pv 0) rfl) ⟨rfl,rfl,rfl,rfl⟩) ⇑0 rfl ⇑0 rfl (by exists sHap) ⇑0 rfl ⇑0 (λ_ _ _ _ _=>⟨(cH kG aO (cu (lenK K) rfl T.len bp (ah (fldK K (pv 0) rfl) aA))),kh⟩))) aA))),?_⟩
 try dsimp only [cxK]
 obtain⟨dp,hp⟩:=I.pl;apply⟨ρ,p,C,dp,_,ρ,hp,CC.cl,CC.n2,rfl,DL,ρ,I.dl,λpv ob hpv=>?_⟩;have lz:(k7 zs).length=zs.length:=ae _;have big:(100000:Nat)≤az:=by decide
 let pZ1:Nat→List L2.V→L2.Hp→Prop:=λi ys H2=>cb (upd (upd H pv (isVV pv DL)) DL (.frz ob (.dK (k7 zs)))) H2∧ys=(zs.take i).map λz=>V.int (2 * (z.1.rs.length:Int))
 apply qU pZ1 ⟨cb.refl _,rfl⟩ (λi ys H2 hi q=>⟨q.1 _ _ aQ,by rw[q.2,ae,aL];lia⟩) ⋯ (λi kk x ys H2 hx q=>?_) (λys H3 q D hD=>?_)
 ·obtain⟨S2,ey⟩:=q
  unfold k7 at hx;rw[aC] at hx;obtain⟨z,hz,e⟩:=aV.mp hx;cases e;obtain⟨dx,a,bb,h1,h2,h3⟩:=I.ln z (aD hz);have kk:=lE hpv S2;have h1':=kk _ _ (eN h1 I.dl nofun) h1;have h3':=kk _ _ (eN h3 I.dl nofun) h3;apply jq ?_;apply⟨ρ,z.2.1,CL,dx,_,ρ,h1',LC.cl,LC.n3,rfl,bb,ρ,.inr (SqT.of h3'),ς,.inl ⟨↥0,↥0⟩,S2,?_⟩;rw[ey,bG,hz,aw,ae];rfl
 ·obtain⟨S3,ey⟩:=q
  rw[lz,bO] at ey;have hD3:=S3 _ _ aQ;have hDD:DL≠D:=aR hD3 hD;have e5:(upd (upd H3 D (.lst ys)) DL (.dK (k7 zs))) D=some (.lst ((zs.map λz:LX=>2 * (z.1.rs.length:Int)).map V.int)):=by rw[aX (cQ hDD),aQ,ey,bf];rfl
  apply⟨DL,ob,k7 zs,I.dl,(by rw[aX hDD];exact hD3),D,ρ,SqL.of e5,k _ (qk (u:=isVV pv DL) (ob:=ob) (pv:=pv) I.dl λc o hc e=>?_)⟩;have:=lE hpv S3 c o hc e;rw[aX (aR this hD)];exact this
theorem ok_changeN {fr:aq}(F:Fun K "change_span" "change_span" qy f fd)(CK:LinK P w K mg base C fc fg fr dc dg dr):‹0› 2 f fd pzl (spChangeN C):=by
 specialize F.ok scChange;obtain⟨l,o,w,x,y,p,n1,n2,z,ss,tt,rs,us,fi,gi,rfl,hx,hy,hp,no,k⟩:=h;apply⟨_,bE (bR (jc (ah (PE.cutV (eU (pv 0) CK.cc.cl CK.m1 CK.f1 hr CK.b1 .nil g9 (ah (ixZ (pv 2)) aA))) (ah (PE.cutV (eU (pv 1) CK.cc.cl CK.m2 CK.f2 hr CK.b2 .nil g9 (ah (ixZ (pv 2)) aA))) (ah (ixZ (pv 2)) (ah (ixZ (pv 2)) (ah (ixZ (pv 2)) aA))))))),?_⟩
 try dsimp only [cxK]
 obtain⟨⟨D,n,L⟩,nd,two,few,_⟩:=id hx;obtain⟨dx,a,b,hx1,_⟩:=id L;apply⟨λv H'=>cb H H'∧∃c,v=oV c∧(c=none∨∃i:Nat,ss[i]? =some z∧1≤i),λv H1 hN=>?_,?_⟩
 rotate_left
 ·apply⟨ρ,x,dx,ρ,hx1,rfl,ρ,p,τ,SqT.of hp,aP (j:=3) rfl,x,D,n,z,ss,rs,fi,rfl,L,few,two,nd,λH1 S1=>⟨λi a1 a2=>⟨S1,some _,rfl,.inr ⟨i,a1,a2⟩⟩,λ_=>⟨S1,none,rfl,.inl rfl⟩⟩⟩
 obtain⟨S1,c,rfl,hc⟩:=hN;obtain⟨⟨D2,n2',L2'⟩,nd2,two2,few2,_⟩:=hy.kept S1;obtain⟨dy,a3,b3,hy1,_⟩:=id L2';apply⟨λv H'=>cb H1 H'∧∃g,v=oV g∧(g=none∨∃j:Nat,tt[j]? =some z∧j+1<tt.length),λv H2 hN=>?_,?_⟩
 rotate_left
 ·apply⟨ρ,y,dy,ρ,hy1,rfl,ρ,p,τ,SqT.of (S1 _ _ hp),aP (j:=3) rfl,y,D2,n2',z,tt,us,gi,rfl,L2',few2,two2,nd2,λH2 S2=>⟨λj a1 a2=>⟨S2,some _,rfl,.inr ⟨j,a1,a2⟩⟩,λ_=>⟨S2,none,rfl,.inl rfl⟩⟩⟩
 obtain⟨S2,g,rfl,hg⟩:=hN;have hp2:=S2 _ _ (S1 _ _ hp);apply⟨ρ,p,τ,SqT.of hp2,aP (j:=4) rfl,ρ,p,τ,SqT.of hp2,aP (j:=5) rfl,ρ,p,τ,SqT.of hp2,aP (j:=6) rfl,szZ5,λq H3 S3 e=>?_⟩;apply k _ H3 (S1.trans (S2.trans S3)) (.inr ⟨q,c,g,l,o,w,rfl,e,?_⟩)
 rcases hc with hc | ⟨i,i1,i2⟩
 ·exact .inl hc
 ·rcases hg with hg | ⟨j,j1,j2⟩
  ·exact .inr hg
  ·exact rQ ⟨i,j,i1,i2,j1,j2⟩ no
theorem ok_apartN {fr:aq}(F:Fun K "apart_span" "apart_span" sApart f fd)(CK:LinK P w K mg base C fc fg fr dc dg dr):‹0› 2 f fd pzf (spApartN C):=by
 specialize F.ok scApart;obtain⟨bt,d,x,y,p,n1,n2,z,ss,tt,rs,us,fi,gi,rfl,hx,hy,hp,no,k⟩:=h;apply⟨_,bE (bR (jc (ah (PE.cutV (eU (pv 1) CK.cc.cl CK.m2 CK.f2 hr CK.b2 .nil g9 (ah (ixZ (pv 3)) aA))) (ah (PE.cutV (eU (pv 2) CK.cc.cl CK.m2 CK.f2 hr CK.b2 .nil g9 (ah (ixZ (pv 3)) aA))) (ah (ixZ (pv 3)) (ah (cH iq (pv 0) (ixZ (pv 3))) (ah aO aA))))))),?_⟩
 try dsimp only [cxK]
 obtain⟨⟨D,n,L⟩,nd,two,few,_⟩:=id hx;obtain⟨dx,a,b,hx1,_⟩:=id L;apply⟨λv H'=>cb H H'∧∃c,v=oV c∧(c=none∨∃i:Nat,ss[i]? =some z∧i+1<ss.length),λv H1 hN=>?_,?_⟩
 rotate_left
 ·apply⟨ρ,x,dx,ρ,hx1,rfl,ρ,p,τ,SqT.of hp,aP (j:=3) rfl,x,D,n,z,ss,rs,fi,rfl,L,few,two,nd,λH1 S1=>⟨λi a1 a2=>⟨S1,some _,rfl,.inr ⟨i,a1,a2⟩⟩,λ_=>⟨S1,none,rfl,.inl rfl⟩⟩⟩
 obtain⟨S1,c,rfl,hc⟩:=hN;obtain⟨⟨D2,n2',L2'⟩,nd2,two2,few2,_⟩:=hy.kept S1;obtain⟨dy,a3,b3,hy1,_⟩:=id L2';apply⟨λv H'=>cb H1 H'∧∃g,v=oV g∧(g=none∨∃j:Nat,tt[j]? =some z∧j+1<tt.length),λv H2 hN=>?_,?_⟩
 rotate_left
 ·apply⟨ρ,y,dy,ρ,hy1,rfl,ρ,p,τ,SqT.of (S1 _ _ hp),aP (j:=3) rfl,y,D2,n2',z,tt,us,gi,rfl,L2',few2,two2,nd2,λH2 S2=>⟨λj a1 a2=>⟨S2,some _,rfl,.inr ⟨j,a1,a2⟩⟩,λ_=>⟨S2,none,rfl,.inl rfl⟩⟩⟩
 obtain⟨S2,g,rfl,hg⟩:=hN;have hp2:=S2 _ _ (S1 _ _ hp);apply⟨ρ,p,τ,SqT.of hp2,aP (j:=4) rfl,ρ,ρ,p,τ,SqT.of hp2,aP (j:=4) rfl,ς,szZ5,λq H3 S3 e=>?_⟩;apply k _ H3 (S1.trans (S2.trans S3)) (.inr ⟨q,c,g,d,bt - d,0,rfl,e,?_⟩)
 rcases hc with hc | ⟨i,i1,i2⟩
 ·exact .inl hc
 ·rcases hg with hg | ⟨j,j1,j2⟩
  ·exact .inr hg
  ·exact rQ ⟨i,j,i1,i2,j1,j2⟩ no
theorem ok_meetN {fr:aq}(F:Fun K "meet_span" "meet_span" sMeet f fd)(CK:LinK P w K mg base C fc fg fr dc dg dr):‹0› 2 f fd pzf (spMeetN C):=by
 specialize F.ok rp;obtain ⟨bt,d,x,y,p,n1,n2,z,z2,ss,tt,rs,us,fi,gi,rfl,hx,hy,hp,no,k⟩:=h;apply ⟨_,PSl.h (bo ⟨(psZ 4 rp.nd (PE.cutV (eU (pv 1) CK.cc.cl CK.m3 CK.f3 hr CK.b3 .nil g9 (ah (ixZ (pv 3)) (ah (ixZ (pv 3)) aA)))))⟩
  (bo ⟨(psZ 5 rp.nd (PE.cutV (eU (pv 2) CK.cc.cl CK.m3 CK.f3 hr CK.b3 .nil g9 (ah (ixZ (pv 3)) (ah (ixZ (pv 3)) aA)))))⟩
  (bo ⟨(fG (PW.pt (mS (bQ nc (pv 4) iJ (cw _)) (lK (bQ nc (pv 5) iJ (cw _))))) (bE (bR iJ)) cF)⟩
  (gc ⟨(bR (jc (ah (PE.cutV (eU (pv 1) CK.cc.cl CK.m2 CK.f2 hr CK.b2 .nil g9 (ah (ixZ (pv 3)) aA))) (ah (PE.cutV (eU (pv 2) CK.cc.cl CK.m2 CK.f2 hr CK.b2 .nil g9 (ah (ixZ (pv 3)) aA))) (ah (cH fz (pv 4) (ixZ (pv 3))) (ah (cH iq (cH iq (pv 0) (pv 5)) (ixZ (pv 3))) (ah aO aA)))))))⟩)))),?_⟩
 try dsimp only [cxK]
 obtain⟨⟨D,n,L⟩,nd,two,few,rl⟩:=id hx;obtain⟨dx,a,b,hx1,_⟩:=id L;apply⟨λv H'=>cb H H'∧∃c,v=oV c∧(c=none∨∃i:Nat,ss[i]? =some z∧ss[i+1]? =some z2),λv H1 hN=>?_,?_⟩
 rotate_left
 ·apply⟨ρ,x,dx,ρ,hx1,rfl,ρ,p,τ,SqT.of hp,aP (j:=3) rfl,ρ,p,τ,SqT.of hp,aP (j:=4) rfl,x,D,n,z,z2,ss,rs,fi,rfl,L,rl,two,nd,λH1 S1=>⟨λi r a1 a2 a3=>⟨S1,some _,rfl,.inr ⟨i,a1,a2⟩⟩,λ_=>⟨S1,none,rfl,.inl rfl⟩⟩⟩
 obtain⟨S1,c,rfl,hc⟩:=hN;obtain⟨⟨D2,n2',L2'⟩,nd2,two2,few2,rl2⟩:=hy.kept S1;obtain⟨dy,a3,b3,hy1,_⟩:=id L2';have hp1:=S1 _ _ hp;apply⟨λv H'=>cb H1 H'∧∃g,v=oV g∧(g=none∨∃j:Nat,tt[j]? =some z2∧tt[j+1]? =some z),λv H2 hN=>?_,?_⟩
 rotate_left
 ·apply⟨ρ,y,dy,ρ,hy1,rfl,ρ,p,τ,SqT.of hp1,aP (j:=4) rfl,ρ,p,τ,SqT.of hp1,aP (j:=3) rfl,y,D2,n2',z2,z,tt,us,gi,rfl,L2',rl2,two2,nd2,λH2 S2=>⟨λj u b1 b2 b3=>⟨S2,some _,rfl,.inr ⟨j,b1,b2⟩⟩,λ_=>⟨S2,none,rfl,.inl rfl⟩⟩⟩
 obtain⟨S2,g,rfl,hg⟩:=hN;cases c with
 | none =>
  apply⟨ρ,rfl,ρ,nW rfl ?_⟩;exact k _ H2 (S1.trans S2) (.inl rfl)
 | some r =>
  apply⟨ρ,rfl,ρ,jY rfl ?_⟩;cases g with
  | none =>
   apply⟨ρ,rfl,ρ,nW rfl ?_⟩;exact k _ H2 (S1.trans S2) (.inl rfl)
  | some u =>
   exfalso
   rcases hc with hc | ⟨i,i1,i2⟩
   ·cases hc
   ·rcases hg with hg | ⟨j,j1,j2⟩
    ·cases hg
    ·exact no ⟨i,j,i1,i2,j1,j2⟩
inductive OthG:Str→List Str→List Int→Prop
 | change {n1 n2 z:Str} {l o w:Int}:OthG "change" [n1,n2,z] [l,o,w]
 | apart {n1 n2 z:Str} {d:Int}:OthG "apart" [n1,n2,z] [d]
 | meet {n1 n2 z z2:Str} {d:Int}:OthG "meet" [n1,n2,z,z2] [d]
inductive spBtwN (CP CL:aq)(vs:List V)(H:Hp)(Q:VK)(_:XK):Prop
 | mk (H0:Hp)(p q DL LB:aq)(b:Int)(zs:List LX)(bt:List Sn)(k:Str)(ns:List Str)(is:List Int)(_:vs=[.ref p,.ref q])(_:PlI CP CL H0 H p b zs bt DL LB)(_:(PR.oth k ns is).at H q)(_:OthG k ns is)(_:(¬∃sn,Btw b (zs.map (·.1)) k ns is sn))(_:∀v H',cb H H'→NoSp H' v→Q v H')
inductive spTakeBN (CP CL:aq)(vs:List V)(H:Hp)(Q:VK)(_:XK):Prop
 | mk (H0:Hp)(p q DL LB:aq)(b:Int)(zs:List LX)(bt:List Sn)(k:Str)(ns:List Str)(is:List Int)(_:vs=[.ref p,.ref q])(_:PlI CP CL H0 H p b zs bt DL LB)(_:zs.length≤90)(_:bt.length≤90)(_:(PR.oth k ns is).at H q)(_:OthG k ns is)(_:(¬∃sn,Btw b (zs.map (·.1)) k ns is sn))(_:∀H',cb H0 H'→Q (.bl false) H')
def NoSty (zs:List LX)(n z:Str):Prop:=∀x∈zs,x.1.n=n→z∈x.1.st.map (·.1)∨∀i:Nat,x.1.ss[i]? =some z→¬(1≤i∧i+1<x.1.ss.length)
inductive spTakeSN (CP CL:aq)(vs:List V)(H:Hp)(Q:VK)(_:XK):Prop
 | mk (H0:Hp)(p q DL LB:aq)(b:Int)(zs:List LX)(bt:List Sn)(n z:Str)(l o w:Int)(_:vs=[.ref p,.ref q])(_:PlI CP CL H0 H p b zs bt DL LB)(_:zs.length≤90)(_:bt.length≤90)(_:H q=some (.tup [.str "stay",.str n,.str z,.int l,.int o,.int w]))(_:(∀x∈zs,x.1.st.length≤1000))(_:NoSty zs n z)(_:∀H',cb H0 H'→Q (.bl false) H')
theorem linK_in {n:Str}(h:n∈zs.map (·.1.n)):∃x∈zs,x.1.n=n:=by
 obtain⟨x,hx,e⟩:=aI.mp h;exact⟨x,hx,e⟩
theorem ok_btwN (F:Fun K "span_between" "Plan.span_between" sBtw f fd)(CC:PlaC K CP)(G1:Fn K mg "change_span" qy pzl f1 d1)(F1:‹0› 2 f1 d1 pzl (spChangeN CL))
  (G2:Fn K mg "apart_span" sApart pzf f2 d2) (F2:‹0› 2 f2 d2 pzf (spApartN CL)) (G3:Fn K mg "meet_span" sMeet pzf f3 d3) (F3:‹0› 2 f3 d3 pzf (spMeetN CL)):‹0› 3 f fd pza (spBtwN CP CL):=by
 specialize F.ok scBtw;obtain ⟨H0,p,q,DL,LB,b,zs,bt,k,ns,is,rfl,I,hq,fm,no,kk⟩:=h;have u1:=jA (jf (show 1≤64 by decide) _) hr.units;apply ⟨_,PSl.h (bo ⟨(psZ 2 scBtw.nd (nJ u1 (eW (pv 0) rfl) (ixZ (pv 1)) ⟨rfl,rfl,rfl,rfl⟩))⟩ (bo ⟨(psZ 3 scBtw.nd (nJ u1 (eW (pv 0) rfl) (ixZ (pv 1)) ⟨rfl,rfl,rfl,rfl⟩))⟩
  (bo ⟨(fG (PW.pt (mS (bQ nc (pv 2) iJ (cw _)) (mS (bQ nc (pv 3) iJ (cw _)) (lK (bQ iB (ixZ (pv 1)) (ixZ (pv 1)) (cw _)))))) (bE (bR iJ)) cF)⟩
  (bo ⟨(fG (bQ iB (ixZ (pv 1)) eS (cw _)) (bE (bR (pc1 G1 F1 hr (ah (pv 2) (ah (pv 3) (ah (pv 1) aA)))))) cF)⟩
  (bo ⟨(fG (bQ iB (ixZ (pv 1)) eS (cw _)) (bE (bR (pc1 G2 F2 hr (ah (eW (pv 0) rfl) (ah (pv 2) (ah (pv 3) (ah (pv 1) aA))))))) cF)⟩
  (gc ⟨(bR (pc1 G3 F3 hr (ah (eW (pv 0) rfl) (ah (pv 2) (ah (pv 3) (ah (pv 1) aA))))))⟩)))))),?_⟩
 try dsimp only [cxK]
 obtain⟨dp,hp⟩:=I.pl;have dl:=I.dl;obtain⟨n1,n2,r,hq'⟩:∃(n1 n2:Str) (r:List V),H q=some (.tup (.str k:: .str n1:: .str n2::r))∧ns[0]? =some n1∧ns[1]? =some n2:=by
  cases fm with
  | change=>exact⟨_,_,_,hq,rfl,rfl⟩
  | apart=>exact⟨_,_,_,hq,rfl,rfl⟩
  | meet=>exact⟨_,_,_,hq,rfl,rfl⟩
 obtain⟨hq',g0,g1⟩:=hq';apply⟨ρ,p,CP,dp,_,ρ,hp,CC.cl,CC.n2,rfl,DL,rfl,.inl ⟨_,.inl dl⟩,ρ,q,τ,SqT.of hq',aP (j:=1) rfl,_,.inl ⟨_,.inr n1,.inl dl,rfl,rfl⟩,?_⟩;apply⟨ρ,p,CP,dp,_,ρ,hp,CC.cl,CC.n2,rfl,DL,rfl,.inl ⟨_,.inl dl⟩,ρ,q,τ,SqT.of hq',aP (j:=2) rfl,_,.inl ⟨_,.inr n2,.inl dl,rfl,rfl⟩,?_⟩;have nn:=kk .non H (cb.refl _) (.inl rfl)
 by_cases m1:n1∈zs.map (·.1.n)
 rotate_left
 ·rw[qF m1]
  exact⟨ρ,rfl,ρ,nW rfl nn⟩
 obtain⟨x,hx,rfl⟩:=linK_in m1;rw[mJ I.nn hx];apply⟨ρ,rfl,ρ,jY (rS nofun) ?_⟩
 by_cases m2:n2∈zs.map (·.1.n)
 rotate_left
 ·rw[qF m2]
  exact⟨ρ,rfl,ρ,nW rfl nn⟩
 obtain⟨y,hy,rfl⟩:=linK_in m2;rw[mJ I.nn hy];apply⟨ρ,rfl,ρ,jY (rS nofun) ?_⟩;apply⟨ρ,q,τ,SqT.of hq',aP (j:=1) rfl,ρ,q,τ,SqT.of hq',aP (j:=2) rfl,rfl,ρ,kJ (λ_=>nn) (λc=>?_)⟩;have ne:x.1.n≠y.1.n:=λz=>c (rR (by rw[z]))
 have Ax:=(I.ln x hx).ok;have Ay:=(I.ln y hy).ok;have bx:x.1∈zs.map (·.1):=cX hx;have by_:y.1∈zs.map (·.1):=cX hy;apply⟨ρ,q,τ,SqT.of hq',aP (j:=0) rfl,rfl,ρ,?_⟩;cases fm with
 | change =>
  cases g0;cases g1;apply nW (rR rfl) ?_;exact⟨ρ,ρ,ρ,_,_,_,_,_,q,_,_,_,_,_,_,_,_,ρ,Ax,Ay,hq,λ⟨i,j,a1,a2,a3,a4⟩=>no ⟨_,x.1,y.1,bx,by_,ne,.change a1 a2 a3 a4⟩,kk⟩
 | apart =>
  cases g0;cases g1;apply jY ⇑0 ?_;apply⟨ρ,q,τ,SqT.of hq',aP (j:=0) rfl,rfl,ρ,nW (rR rfl) ?_⟩;exact⟨ρ,p,CP,dp,_,ρ,hp,CC.cl,CC.n1,rfl,ρ,ρ,ρ,b,_,_,_,q,_,_,_,_,_,_,_,_,ρ,Ax,Ay,hq,λ⟨i,j,a1,a2,a3,a4⟩=>no ⟨_,x.1,y.1,bx,by_,ne,.apart a1 a2 a3 a4⟩,kk⟩
 | meet =>
  cases g0;cases g1;apply jY ⇑0 ?_;apply⟨ρ,q,τ,SqT.of hq',aP (j:=0) rfl,rfl,ρ,jY ⇑0 ?_⟩;apply⟨ρ,p,CP,dp,_,ρ,hp,CC.cl,CC.n1,rfl,ρ,ρ,ρ,b,_,_,_,q,_,_,_,_,_,_,_,_,_,ρ,Ax,Ay,hq,λhz0=>?_,kk⟩;obtain⟨i,j,a1,a2,a3,a4⟩:=hz0;have li:=(ai.mp a2).1;have lj:=(ai.mp a4).1;have rx:=Ax.rl;have ry:=Ay.rl;exact no ⟨_,x.1,y.1,bx,by_,ne,.meet a1 a2 (gE ⋯) a3 a4 (gE ⋯)⟩
theorem ok_takeBN {fb fs:aq}{db ds:aT}(F:Fun K "take_between" "Plan.take_between" sTakeB f fd)(PK:PlaK P w K mg base CP CL fh fs dh ds)(FHN:‹0› 1 fh dh pzb (spHapN CP CL))(mb:pN K CP "span_between" fb)(FB:‹0› 3 fb db pza (spBtwN CP CL))(bb:Binds K db pza [])
  (GS:Fn K mg "is_span" sSpan pzh f1 d1) (FS:‹0› 4 f1 d1 pzh rj):‹0› 5 f fd pza (spTakeBN CP CL):=by
 specialize F.ok scTakeB;obtain ⟨H0,p,q,DL,LB,b,zs,bt,k,ns,is,rfl,I,f1,f2,hq,fm,no,kk⟩:=h;have CC:=PK.cc;apply ⟨_,PSl.h (bo ⟨(psZ 2 scTakeB.nd (eU (pv 0) CC.cl mb FB (hr.mono ↥0) bb .nil g9 (ah (pv 1) aA)))⟩
  (bo ⟨(hV (jR bB bK bJ gH (eW (pv 0) rfl) (ah (pv 2) aA)))⟩
  (gc ⟨(bR (oN (pc1 GS FS hr (ah (eW (pv 0) rfl) (ah (jd (pv 0) CC.cl PK.m1 FHN (hr.mono ↥0) PK.b1 .nil g9) (ah (pv 2) aA)))) (pQ (jd (pv 0) CC.cl PK.m2 PK.f2 hr PK.b2 .nil g9))))⟩))),?_⟩
 try dsimp only [cxK]
 obtain⟨dp,hp⟩:=I.pl;have big:(100000:Nat)≤az:=by decide
 apply⟨ρ,p,dp,ρ,hp,rfl,ρ,H0,p,q,DL,LB,b,zs,bt,k,ns,is,rfl,I,hq,fm,no,λv H1 S1 nv=>?_⟩;have I1:=I.same S1;obtain⟨dp1,hp1⟩:=I1.pl;obtain⟨ys,hB,dB⟩:=I1.lb;have ly:ys.length=bt.length:=by have:=dB.length;rwa [ae] at this
 apply⟨ρ,p,CP,dp1,_,ρ,hp1,CC.cl,CC.n3,rfl,.inl ⟨rfl,_,SqL.of hB⟩,ρ,LB,ς,hB,⋯,?_⟩;have k2:∀c o,c≠LB→H1 c=some o→(upd H1 LB (.lst (ys++[v]))) c=some o:=λc o hc e=>by rw[aX hc];exact e
 generalize upd H1 LB (.lst (ys++[v]))=H2 at k2 ⊢;have kt:∀a t,H1 a=some (.tup t)→H2 a=some (.tup t):=λa t e=>k2 _ _ (eN e hB nofun) e
 have ki:∀c C dx fs,H1 c=some (.ins C dx fs)→H2 c=some (.ins C dx fs):=λc C dx fs e=>k2 _ _ (eN e hB nofun) e
 have PH:PlH CP CL H2 p b zs DL LB:=⟨⟨dp1,ki _ _ _ _ hp1⟩,k2 _ _ (eN I1.dl hB nofun) I1.dl,fun z hz=>by
  obtain ⟨dx,a,bb,g1,g2,g3⟩:=(I1.ln z hz).d;exact ⟨dx,a,bb,ki _ _ _ _ g1,kt _ _ g2,kt _ _ g3⟩⟩
 have S02:cb H0 H2:=λc o e=>k2 _ _ (aR e I1.nB) (I1.S _ _ e)
 obtain⟨dp2,hp2⟩:=PH.pl;apply⟨ρ,p,CP,dp2,_,ρ,hp2,CC.cl,CC.n1,rfl,ρ,p,dp2,ρ,hp2,rfl,p,DL,LB,b,zs,rfl,PH,⋯,λH3 S3=>?_⟩;have nv3:=(nv.same kt).same λa t e=>S3 _ _ e
 obtain⟨gg,eo⟩:=nv3.no b (mU zs);apply⟨ρ,b,mU zs,v,rfl,gg,?_⟩;rw[eo];exact⟨ρ,jY rfl (kk H3 (S02.trans S3))⟩
theorem ok_takeSN {fs fr:aq}{ds:aT}(F:Fun K "take_stay" "Plan.take_stay" sTakeS f fd)(PK:PlaK P w K mg base CP CL fh fs dh ds)(FHN:‹0› 1 fh dh pzb (spHapN CP CL))(LK:LinK P w K mg base CL fc fg fr dc dg dr)(GS:Fn K mg "is_span" sSpan pzh f1 d1)(FS:‹0› 4 f1 d1 pzh rj):‹0› 5 f fd pza (spTakeSN CP CL):=by
 specialize F.ok pq;obtain⟨H0,p,q,DL,LB,b,zs,bt,n,z,l,o,w,rfl,I,f1,f2,hq,few,no,k⟩:=h;have u1:=jA (jf (show 1≤64 by decide) _) hr.units;have CC:=PK.cc;have LC:=LK.cc;have big:(100000:Nat)≤az:=by decide
 apply ⟨_,PSl.h (bo ⟨(psZ 2 pq.nd (nJ u1 (eW (pv 0) rfl) (ixZ (pv 1)) ⟨rfl,rfl,rfl,rfl⟩))⟩ (bo ⟨(psZ 3 pq.nd (ixZ (pv 1)))⟩
  (bo ⟨(fG (PW.pt (mS (bQ nc (pv 2) iJ (cw _)) (lK (pt_cmp (pc_din u1 (pv 3) (eW (pv 2) rfl)) rfl)))) (bE (bR pe_bl)) cF)⟩
  (bo ⟨(ps_dput u1 (eW (pv 2) rfl) (pv 3) (fe mF (pv 1) (fV aO) gW) rfl)⟩
  (gc ⟨(bR (pc1 GS FS hr (ah (eW (pv 0) rfl) (ah (jd (pv 0) CC.cl PK.m1 FHN (hr.mono ↥0) PK.b1 .nil g9) (ah (cH op_catA (jc (ah (PE.cutV (eU (pv 2) LC.cl LK.m1 LK.f1 (hr.mono ↥0) LK.b1 .nil g9 (ah (pv 3) aA))) (ah (PE.cutV (eU (pv 2) LC.cl LK.m2 LK.f2 (hr.mono ↥0) LK.b2 .nil g9 (ah (pv 3) aA))) aA))) (fe mF (pv 1) (fV aO) gW)) aA)))))⟩))))),?_⟩
 try dsimp only [cxK]
 obtain⟨dp,hp⟩:=I.pl;have dl:=I.dl;have cut3:cutV [V.str "stay",.str n,.str z,.int l,.int o,.int w] (some 3) none=[.int l,.int o,.int w]:=rfl;apply⟨ρ,p,CP,dp,_,ρ,hp,CC.cl,CC.n2,rfl,DL,rfl,.inl ⟨_,.inl dl⟩,ρ,q,τ,SqT.of hq,aP (j:=1) rfl,_,.inl ⟨_,.inr n,.inl dl,rfl,rfl⟩,?_⟩;apply⟨ρ,q,τ,SqT.of hq,aP (j:=2) rfl,?_⟩
 by_cases m1:n∈zs.map (·.1.n)
 rotate_left
 ·rw[qF m1]
  exact⟨ρ,rfl,ρ,nW rfl (k H I.S)⟩
 obtain⟨x,hx,rfl⟩:=linK_in m1;rw[mJ I.nn hx];have A:=I.ln x hx;obtain⟨dx,a,bb,hX,ha,hb⟩:=id A.d;obtain⟨kvs,hD,lk,hst⟩:=id A.s.ex;apply⟨ρ,rfl,ρ,jY (rS nofun) ?_⟩;apply⟨ρ,ρ,x.2.1,CL,dx,_,ρ,hX,LC.cl,LC.n4,rfl,x.2.2,ρ,.inl ⟨kvs,.inr z,.inl hD,rfl,rfl⟩,ρ,?_⟩;cases hv:me kvs (.inr z) with
 | some v=>exact nW rfl (k H I.S)
 | none =>
  apply jY rfl ?_;have hz:z ∉ x.1.st.map (·.1):=((hst z).2.1 hv).2;have inn:∀i:Nat,x.1.ss[i]? =some z→¬(1≤i∧i+1<x.1.ss.length):=(no x hx rfl).resolve_left hz;apply⟨ρ,ρ,q,ρ,SqT.of hq,(by intro y;exact rQ y.1 (show ¬(3:Nat)=0 by decide)),λt1 H1 S1 h1=>?_⟩;rw[cut3] at h1;have I1:=I.same S1;have fx:=few x hx;apply⟨ρ,x.2.1,CL,dx,_,ρ,S1 _ _ hX,LC.cl,LC.n4,rfl,ρ,x.2.2,ρ,.inl ⟨kvs,.inr z,S1 _ _ hD,rfl,⋯,rfl⟩,?_⟩;have hD1:=S1 _ _ hD;have k2:∀c u,c≠x.2.2→H1 c=some u→(upd H1 x.2.2 (.dK (putK kvs (.inr z) (.ref t1)))) c=some u:=λc u hc e=>by rw[aX hc];exact e
  generalize upd H1 x.2.2 (.dK (putK kvs (.inr z) (.ref t1)))=H2 at k2 ⊢;have kT:∀c xs,H1 c=some (.tup xs)→H2 c=some (.tup xs):=λc xs e=>k2 _ _ (eN e hD1 nofun) e
  have kI:∀c C dx fs,H1 c=some (.ins C dx fs)→H2 c=some (.ins C dx fs):=λc C dx fs e=>k2 _ _ (eN e hD1 nofun) e
  have nDL:DL≠x.2.2:=λe=>(bP.mp I.nd).1 (by rw[e];exact aI.mpr ⟨x,hx,rfl⟩)
  have S02:cb H0 H2:=λc u e=>k2 _ _ (aR e (I.nD x hx)) (I1.S _ _ e)
  obtain ⟨dp1,hp1⟩:=I1.pl;have PH:PlH CP CL H2 p b zs DL LB:=⟨⟨dp1,kI _ _ _ _ hp1⟩,k2 _ _ nDL I1.dl,fun y hy=>by
   obtain ⟨dx',a',b',g1,g2,g3⟩:=(I1.ln y hy).d;exact ⟨dx',a',b',kI _ _ _ _ g1,kT _ _ g2,kT _ _ g3⟩⟩
  have hq2:=kT _ _ (S1 _ _ hq);obtain⟨dp2,hp2⟩:=PH.pl;apply⟨ρ,p,CP,dp2,_,ρ,hp2,CC.cl,CC.n1,rfl,ρ,p,dp2,ρ,hp2,rfl,p,DL,LB,b,zs,rfl,PH,⋯,λH3 S3=>?_⟩;have Lx:∀{H':Hp},cb H3 H'→LinD H' CL x.2.1 x.1.n x.1.ss x.1.rs x.2.2 x.1.fi:=λS=>by
   obtain⟨dx',a',b',g1,g2,g3⟩:=PH.ln x hx;exact⟨dx',a',b',(S3.trans S) _ _ g1,(S3.trans S) _ _ g2,(S3.trans S) _ _ g3⟩
  obtain⟨dx3,a3,b3,hx3,_⟩:=id (Lx (cb.refl _));apply⟨λv H'=>cb H3 H'∧∃c,v=oV c∧(c=none∨∃i:Nat,x.1.ss[i]? =some z∧1≤i),λv H4 hN=>?_,?_⟩
  rotate_left
  ·exact⟨ρ,x.2.1,dx3,ρ,hx3,rfl,ρ,x.2.1,x.2.2,x.1.n,z,x.1.ss,x.1.rs,x.1.fi,rfl,Lx (cb.refl _),A.few,A.two,A.nd,λH4 S4=>⟨λi a1 a2=>⟨S4,some _,rfl,.inr ⟨i,a1,a2⟩⟩,λ_=>⟨S4,none,rfl,.inl rfl⟩⟩⟩
  obtain⟨S4,c,rfl,hc⟩:=hN;obtain⟨dx4,a4,b4,hx4,_⟩:=id (Lx S4);apply⟨λv H'=>cb H4 H'∧∃g,v=oV g∧(g=none∨∃j:Nat,x.1.ss[j]? =some z∧j+1<x.1.ss.length),λv H5 hN=>?_,?_⟩
  rotate_left
  ·exact⟨ρ,x.2.1,dx4,ρ,hx4,rfl,ρ,x.2.1,x.2.2,x.1.n,z,x.1.ss,x.1.rs,x.1.fi,rfl,Lx S4,A.few,A.two,A.nd,λH5 S5=>⟨λj a1 a2=>⟨S5,some _,rfl,.inr ⟨j,a1,a2⟩⟩,λ_=>⟨S5,none,rfl,.inl rfl⟩⟩⟩
  obtain⟨S5,g,rfl,hg⟩:=hN;have hq5:=(S3.trans (S4.trans S5)) _ _ hq2;apply⟨szZ2,λM H6 S6 e6=>?_⟩;apply⟨ρ,ρ,q,ρ,SqT.of (S6 _ _ hq5),(by intro y;exact rQ y.1 (show ¬(3:Nat)=0 by decide)),λt2 H7 S7 h7=>?_⟩;rw[cut3] at h7;apply⟨M,t2,ς,S7 _ _ e6,h7,(by show 2+3≤az;decide),λt3 H8 S8 h8=>?_⟩;have ns:NoSp H8 (.ref t3):=by
   apply .inr ⟨t3,c,g,l,o,w,rfl,h8,?_⟩
   rcases hc with hc | ⟨i,i1,i2⟩
   ·exact .inl hc
   ·rcases hg with hg | ⟨j,j1,j2⟩
    ·exact .inr hg
    ·have:=kH A.nd i1 j1
     subst this;exact rQ ⟨i2,j2⟩ (inn _ i1)
  obtain⟨gg,eo⟩:=ns.no b (mU zs);apply⟨b,mU zs,ρ,gg,?_⟩;rw[eo];exact k H8 (S02.trans (S3.trans (S4.trans (S5.trans (S6.trans (S7.trans S8))))))
end HN
namespace L2
open PySem PySem.Spec PyProof.Rows
theorem tw_set (hN:X.N.Nodup)(hi:X.N[i]? =some x)(hx:Loc X.env.scope x)(he:PEs X e te)(hs:autoParam (lR e (some (.Name x pos')) pos.line X.env=iS false) L2.au0._auto_1)(hf:autoParam (X.fn x=true∨X.env.scope.names.lookup x=some .local) L2.au3._auto_1):PSt X (.Assign [.Name x pos'] e pos) (tAsg te (oU i)):=⟨ps_set hN hi hx he.h hs hf⟩
theorem tw_if {c:Expr}{a b:List c8}{tc:TT}{t u:TS}(hc:PT X c tc)(ha:PSl X a t)(hb:PSl X b u):PSt X (.If c a b pos) (tIfS tc t u):=⟨fG hc ha.h hb.h⟩
theorem rH:PSl X [] tNext:=⟨cF⟩
theorem exw_of {t:TS}{C:TS→Prop}(h:PSl X sts t)(k:C t):∃t,PSs X sts t∧C t:=⟨t,h.h,k⟩
end L2
namespace HN
open PySem L2 PyProof.Rows HT2
abbrev sNms:c8:=top 89
abbrev ABC:Str := "abcdefghijklmnopqrstuvwxyz"
abbrev rF (c:Nat):Str:=⟨#[c]⟩
def strOf (cs:List Nat):Str:=⟨cs.toArray⟩
theorem abc_at {r:Nat}(h:r<26):atI ABC.cps.toList (r:Int)=some (97+r):=by
 have:∀i:Fin 26,atI ABC.cps.toList ((i:Nat):Int)=some (97+(i:Nat)):=by trivial
 exact this ⟨r,h⟩
theorem abc_ix {r:Nat}(h:r<26):cZ ABC (rF (97+r)) 0 ABC.length 1=[r]:=by
 have:∀i:Fin 26,cZ ABC (rF (97+(i:Nat))) 0 ABC.length 1=[(i:Nat)]:=by trivial
 exact this ⟨r,h⟩
theorem join_one:∀cs:List Nat,dm ("" :Str) (cs.map rF)=strOf cs:=λcs=>by
 rw[show("" :Str)=gU by trivial];have e:dm gU (cs.map rF)=ir gU (cs.map rF):=gJ _ _;rw[e];have go:∀cs:List Nat,(ir gU (cs.map rF)).cps.toList=cs:=by
  intro cs
  induction cs with
  | nil=>rfl
  | cons c r ih =>
   cases r with
   | nil=>rfl
   | cons d r =>
    show(rF c++gU++ir gU ((d::r).map rF)).cps.toList=_;rw[cps_app,ih,cps_app];rfl
 exact str_ext (by rw[go cs];simp[strOf])
theorem strOf_cps (cs:List Nat):(strOf cs).cps.toList=cs:=by simp[strOf]
theorem strOf_nam {cs:List Nat}(h1:1≤cs.length)(h8:cs.length≤8)(h:∀c∈cs,97≤c∧c≤122):nam (strOf cs)=true:=by
 have hl:(strOf cs).length=cs.length:=by show(strOf cs).cps.size=_;simp[strOf]
 unfold nam;rw[hl,strOf_cps,rR h1,rR h8,lI,lI,j4];exact λc hc=>rR (h c hc)
def nmK (cs:List Nat)(m f k:Nat):Str:=strOf (cs.set m (97+(f+k) % 26))
def nms (cs:List Nat)(m f n:Nat):List Str:=(c7 n).map (nmK cs m f)
theorem nms_nd {cs:List Nat}{f:Nat}(hm:m<cs.length)(hn:n≤26):(nms cs m f n).Nodup:=by
 apply gN.mpr λi j hi hj hij e=>?_
 have l:(nms cs m f n).length=n:=by unfold nms;rw[ae,kP]
 simp only[nms,gj,List.getElem_range] at e;have e1:=rV (λs:Str=>s.cps.toList[m]?) e;unfold nmK at e1;simp only[strOf_cps,kS hm] at e1;injection e1 with e1
 lia
inductive spNms (vs:List V)(H:Hp)(Q:VK)(_:XK):Prop
 | mk (p:aq)(n:Int)(k:Nat)(_:vs=[.ref p,.int (k:Nat)])(_:H p=some (.lst [.int n]))(_:k≤10)(_:∀(L:aq) (ns:List Str) (H':Hp),Mv p H H'→H' L=some (.lst (ns.map V.str))→ns.length=k→ns.Nodup→(∀z∈ns,nam z=true)→Q (.ref L) H')
theorem Mv.free (a:Mv p H H1)(h:H1 q=none):H q=none:=by
 cases e:H q with
 | none=>rfl
 | some o =>
  by_cases c:q=p
  ·obtain⟨n,hn⟩:=a.2
   rw[c,hn] at h;cases h
  ·rw[a.1 q o c e] at h;cases h
theorem scNms:cI ["_law_pot_here","_law_lots","_law_letters","_law_base","_law_at","_law_first","_law_names_here","_law_k"] pzy (defScope sNms):=by trivial
theorem ok_nms (F:Fun K "_law_names" "_law_names" sNms f fd)(T:Nm mg)(T2:Nt mg)(G1:Fn K mg "_law_take" qx pze f1 fd1):‹0› 2 f fd pzy spNms:=by
 have F1:‹0› 1 f1 fd1 pze oa:=mI G1.F;specialize F.ok scNms;obtain ⟨p,n,lots,rfl,hp,hk,k⟩:=h;have hr1:kA 1 _:=hr;apply ⟨_,PSl.h (bo ⟨(psZ 2 scNms.nd eS)⟩
  (bo ⟨(ps_setC (iy:=3) (fr:=["_law_letters","_law_pot_here"]) (js:=[2,0]) scNms.nd rfl (.inl rfl) rfl (lL rfl T2.range (ah (cH fz aO (pc1 G1 F1 hr1 (ah (pv 0) (ah aO aA)))) aA)) ⇑0 rfl ⇑0 rfl (by exists sNms) ⇑0 rfl ⇑0 (fun _ _ _ _ _=>⟨(fj ix_str (pv 1) (pc1 G1 F1 hr1 (ah (pv 2) (ah aO aA))) (fun _ _=>rfl)),kh⟩))⟩
  (bo ⟨(psZ 4 scNms.nd (pc1 G1 F1 hr1 (ah (pv 0) (ah (cu cA rfl T.len bp (ah (pv 3) aA)) aA))))⟩
  (bo ⟨(psZ 5 scNms.nd (jR dj PySem.F.slot_str_index PySem.F.type_str_index mt_indexT1 (pv 2) (ah (fj bV (pv 3) (pv 4) (fun _ _=>rfl)) aA)))⟩
  (bo ⟨(psZ 6 scNms.nd (kF aA))⟩
  (bo ⟨(jg cf rfl (lL rfl T2.range (ah (pv 1) aA)) (pgZ 7 scNms.nd) (PSl.h (bo ⟨(ps_asg (fj ix_str (pv 2) (cH pS (cH fz (pv 5) (pv 7)) aO) (fun _ _=>rfl)) (pg_sub (pv 3) (pv 4) set_list))⟩
  (gc ⟨(hV (jR bB bK bJ gH (pv 6) (ah (jR dj gL gK oj eS (ah (pv 3) aA)) aA)))⟩))))⟩
  (gc ⟨(bR (pv 6))⟩))))))),?_⟩
 try dsimp only [cxK]
 apply⟨ρ,p,n,8,rfl,hp,↥0,↥0,λr H1 r0 r1 M1=>⟨ς,1+r,rfl,⋯,⋯,?_⟩⟩
 let pZ1:Nat→List L2.V→L2.Hp→Prop:=λi zs H4=>Mv p H H4∧∃cs:List Nat,zs=cs.map (λc=>V.str (rF c))∧cs.length=i∧∀c∈cs,97≤c∧c≤122
 apply pM (n:=(1+r).toNat) pZ1 ⟨M1,[],rfl,rfl,λ_ h=>rQ h ∅⟩ (λi zs H4 _ ⟨_,cs,e,hl,_⟩=>by rw[e,ae,hl];exact aG _) (small_le ⋯) (λi zs H4 hi ⟨M4,cs,e4,hl4,all4⟩=>?_) (λzs H4 ⟨M4,cs,e4,hl4,all4⟩ B hB=>?_)
 ·obtain⟨n4,hp4⟩:=M4.2
  apply jq ?_;apply⟨ρ,ρ,p,n4,26,rfl,hp4,↥0,↥0,λr H5 r0 r1 M5=>?_⟩;obtain⟨m,rfl⟩:=dz r0;apply⟨_,_,97+m,rfl,rfl,⇑0,abc_at ⋯,M4.trans M5,cs++[97+m],by rw[e4,aw];rfl,by rw[ao,hl4];rfl,λc hc=>?_⟩
  rcases aS.mp hc with hc | hc
  ·exact all4 c hc
  ·rw[aB.mp hc];lia
 have M5:Mv p H (upd H4 B (.lst zs)):=M4.new hB;have hB5:(upd H4 B (.lst zs)) B=some (.lst (cs.map λc=>V.str (rF c))):=by rw[aQ,e4]
 have nBp:B≠p:=M4.ne hB;have nB0:H B=none:=by
  cases e:H B with
  | none=>rfl
  | some o=>rw[M4.1 B o nBp e] at hB;cases hB
 have nB:H B=none∧B≠p:=⟨nB0,nBp⟩;generalize upd H4 B (.lst zs)=H5 at M5 hB5 ⊢;obtain⟨n5,hp5⟩:=M5.2;have l1:1≤cs.length:=by lia
 have l8:cs.length≤8:=by lia
 apply⟨ρ,ρ,B,ρ,.inl (SqL.of hB5),p,n5,ρ,hp5,(by rw[ae];lia),(by rw[ae];lia),λr2 H6 a0 a1 M6=>?_⟩;obtain⟨m,rfl⟩:=dz a0;rw[ae] at a1;have hm:m<cs.length:=by lia
 have hB6:=M6.1 _ _ nB.2 hB5;obtain⟨c,hc⟩:∃c,cs[m]? =some c:=⟨_,gE hm⟩;obtain⟨c0,c1⟩:=all4 c (aD hc);obtain⟨g,rfl⟩:∃g,c=97+g:=⟨c - 97,⋯⟩;apply⟨ρ,rfl,ρ,ρ,B,τ,SqL.of hB6,aP (j:=m) (by rw[aC,hc];rfl),_,_,g,[],rfl,rfl,abc_ix ⋯,?_⟩;apply⟨(by show 0≤az;decide),λL hL=>?_⟩;have M7:Mv p H (upd H6 L (.lst [])):=(M5.trans M6).new hL;have hL7:(upd H6 L (.lst [])) L=some (.lst []):=aQ;have BL:B≠L:=aR hB6 hL;have hB7:(upd H6 L (.lst [])) B=some (.lst (cs.map λc=>V.str (rF c))):=by rw[aX BL];exact hB6
 have Lp:L≠p:=(M5.trans M6).ne hL;have nL:H L=none:=by
  cases e:H L with
  | none=>rfl
  | some o=>rw[(M5.trans M6).1 L o Lp e] at hL;cases hL
 generalize upd H6 L (.lst [])=H7 at M7 hL7 hB7 ⊢;apply⟨ρ,(lots:Int),rfl,⋯,⋯,?_⟩
 let pZ1:Nat→L2.St→L2.Hp→Prop:=λi σ H2=>(∀c o,c≠B→c≠L→H7 c=some o→H2 c=some o)∧(∃y,H2 B=some (.lst ((cs.set m y).map λc=>V.str (rF c))))∧H2 L=some (.lst ((nms cs m g i).map V.str))∧∃vj,σ=[some (.ref p),some (.int (lots:Nat)),some (.str ABC),some (.ref B),some (.int (m:Nat)),some (.int (g:Nat)),some (.ref L),vj]
 apply nr (n:=((lots:Nat):Int).toNat) pZ1
  ⟨λc o _ _ h=>h,⟨97+g,by rw[hB7,←(ai.mp hc).2,List.set_getElem_self]⟩,hL7,none,rfl⟩ ?_ ?_
 ·rintro i σ H2 hi ⟨k2,⟨y,hB2⟩,hL2,vj,rfl⟩
  have hr26:(g+i) % 26<26:=Nat.mod_lt _ ↥0;have ei:(((g:Nat):Int)+(0+(i:Nat))) % 26=(((g+i) % 26:Nat):Int):=by lia
  apply⟨ρ,ρ,ρ,ς,ς,(by show(0:Int)<26;decide),_,_,97+(g+i) % 26,rfl,rfl,⇑0,?_,?_⟩
  ·show atI ABC.cps.toList ((((g:Nat):Int)+(0+(i:Nat))) % 26)=_
   rw[ei];exact abc_at hr26
  apply⟨ρ,ρ,B,_,_,m,rfl,rfl,hB2,?_,?_⟩
  ·rw[ae,iU]
   unfold ixN;rw[rP ⋯,rP ⋯];rfl
  have k3:∀c o,c≠B→H2 c=some o→(upd H2 B (.lst (((cs.set m y).map λc=>V.str (rF c)).set m (.str (rF (97+(g+i) % 26)))))) c=some o:=λc o hc e=>by rw[aX hc];exact e
  have hB3:(upd H2 B (.lst (((cs.set m y).map λc=>V.str (rF c)).set m (.str (rF (97+(g+i) % 26)))))) B=some (.lst (((cs.set m (97+(g+i) % 26)).map rF).map V.str)):=by
   rw[aQ,←List.map_set,List.set_set,bf];rfl
  generalize upd H2 B (.lst (((cs.set m y).map λc=>V.str (rF c)).set m (.str (rF (97+(g+i) % 26)))))=H3 at k3 hB3 ⊢;have hL3:=k3 _ _ (cQ BL) hL2;have big:(100000:Nat)≤az:=by decide
  apply⟨ρ,.inl ⟨rfl,_,SqL.of hL3⟩,rfl,ρ,_,B,ρ,rfl,SqL.of hB3,⇑0,?_,?_⟩
  ·rw[bf,ae,iU]
   have:((cs.set m (97+(g+i) % 26)).map ((λx:Str=>x.length) ∘ rF)).sum≤(cs.set m (97+(g+i) % 26)).length * 1:=sum_le _ 1 _ λx _=>aG _
   rw[iU] at this;lia
  rw[join_one];apply⟨L,ς,hL3,(by unfold nms;rw[ae,ae,kP];lia),?_⟩;apply⟨λc o h1 h2 e=>by rw[aX h2];exact k3 _ _ h1 (k2 _ _ h1 h2 e),⟨97+(g+i) % 26,by rw[aX BL,hB3,bf];rfl⟩,?_,ρ⟩;rw[aQ];unfold nms;rw[List.range_succ,aw,aw];rfl
 ·rintro σ H2 ⟨k2,⟨y,hB2⟩,hL2,vj,rfl⟩
  have el:((lots:Nat):Int).toNat=lots:=by lia
  rw[el] at hL2;obtain⟨n7,hp7⟩:=M7.2;apply⟨ρ,k L _ H2 ⟨λc o hcp e=>?_,n7,k2 _ _ (cQ nB.2) (cQ Lp) hp7⟩ hL2 (by unfold nms;rw[ae,kP]) (nms_nd hm ⋯) λz hz=>?_⟩
  ·exact k2 c o (λz=>by rw[z,nB.1] at e;cases e) (λz=>by rw[z,nL] at e;cases e) (M7.1 c o hcp e)
  ·unfold nms at hz
   obtain⟨i,_,rfl⟩:=aI.mp hz;apply strOf_nam (by rw[iU];exact l1) (by rw[iU];exact l8) λc hc=>?_
   rcases List.mem_or_eq_of_mem_set hc with h | h
   ·exact all4 c h
   ·subst h
    have:(g+i) % 26<26:=Nat.mod_lt _ ↥0;lia
abbrev sLr:c8:=top 90
abbrev sLns:c8:=top 91
theorem toKp (K:ak){ex:Expr}{r:V→List V→Hp→VK→Prop}{Ty:String}(h:PE X ex (tBM X.K Ty r to t))(hK:autoParam (X.K=K) L2.au0._auto_1):PE X ex (tBM K Ty r to t):=by subst hK;exact h
theorem pop_prm {α:Type}:∀(l:List α) (i:Nat) (x:α),l[i]? =some x→(x::l.eraseIdx i).Perm l
 | [],i,x,h=>by cases h
 | a::l,0,x,h=>by
  cases h;exact List.Perm.refl _
 | a::l,i+1,x,h=>by
  rw[aZ] at h;rw[List.eraseIdx_cons_succ];exact(List.Perm.swap a x _).trans ((pop_prm l i x h).cons a)
theorem jD (h:xs.length≠ys.length):HO.lst xs≠HO.lst ys:=λz=>h (by injection z with z;rw[z])
theorem intr_snoc:∀{ss:List Str} {rs:List Int} {s:Str} {r:Int},ss.length=rs.length+1→jI ss rs++[.int r]++[.str s]=jI (ss++[s]) (rs++[r])
 | [],_,_,_,h=>by simp at h
 | [_],[],_,_,_=>rfl
 | _::_::_,[],_,_,h=>by simp at h
 | a::ss,b::rs,s,r,h=>by
  have hl:ss.length=rs.length+1:=by simpa using h
  show V.str a:: .int b::(jI ss rs++[.int r]++[.str s])=_;rw[intr_snoc hl];rfl
theorem kO.mv {n:Int}{rows:List (List V)}(M:Mv p H H')(hp:H p=some (.lst [.int n]))(h2:∀ r∈rows,2≤r.length)(h:kO H xs rows):kO H' xs rows:=⟨h.len,fun i r hr=>by
 obtain⟨a,h1,ha⟩:=h.get i r hr;apply⟨a,h1,M.1 _ _ (eN ha hp λz=>?_) ha⟩;have:=h2 r (aD hr);injection z with z
 rw [z] at this;simp at this⟩
theorem kO.same {rows:List (List V)}(S:cb H H')(h:kO H xs rows):kO H' xs rows:=⟨h.len,fun i r hr=>by
 obtain ⟨a,h1,ha⟩:=h.get i r hr;exact ⟨a,h1,S _ _ ha⟩⟩
theorem kO.nep {R:aq}{n:Int}{rows:List (List V)}(hp:H p=some (.lst [.int n]))(hR:H R=some (.lst xs))(h:kO H xs rows):R≠p:=λz=>by
 rw[z,hp] at hR;injection hR with hR
 injection hR with hR
 have e:=h.len;rw[←hR] at e;obtain⟨a,h1,_⟩:=h.get 0 _ (gE (show 0<rows.length by rw[←e];exact Nat.one_pos));rw[←hR] at h1;cases h1
theorem rowV_two (h:r.lnOk):2≤r.rowV.length:=by
 cases r with
 | line n ss rs=>show 2≤(jI ss rs).length+1+1;lia
 | beat b=>exact rQ h id
 | oth k ns is=>exact rQ h id
theorem lnOk_E (h:r.lnOk):r.okE:=by
 cases r with
 | line n ss rs =>
  obtain⟨_,_,h3,h4,h5,h6,_⟩:=h;exact⟨h6,h4,⋯,h3⟩
 | beat b=>exact rQ h id
 | oth k ns is=>exact rQ h id
inductive spLr (vs:List V)(H:Hp)(Q:VK)(_:XK):Prop
 | mk (p:aq)(n:Int)(nm:Str)(S R:aq)(ss:List Str)(xs:List V)(prs:List PR)(_:vs=[.ref p,.str nm,.ref S,.ref R])(_:H p=some (.lst [.int n]))(_:H S=some (.lst (ss.map V.str)))(_:(5≤ss.length∧ss.length≤30))(_:ss.Nodup)(_:(∀z∈ss,nam z=true))(_:nam nm=true)(_:H R=some (.lst xs))(_:kO H xs (prs.map PR.rowV))(_:(∀r∈prs,r.lnOk))(_:prs.length≤30)(_:∀L tt rs H',Mv p H H'→H L=none→H' L=some (.lst (PR.line nm tt rs).rowV)→(PR.line nm tt rs).lnOk→Q (.ref L) H')
structure LnsI (nn:List Str)(i:Nat)(prs:List PR):Prop where
 rows:∀b,ib b prs
 ok:∀r∈prs,r.lnOk
 hap:jK (lsC prs)≤16
 few:prs.length≤i∧i≤30
 ne:1≤i→prs≠[]
 nms:∀x∈lsC prs,∃j,j<i∧nn[j]? =some x.n
structure qW (prs:List PR):Prop where
 rows:∀b,ib b prs
 ok:∀r∈prs,r.lnOk
 hap:jK (lsC prs)≤16
 few:prs.length≤30
 ne:prs≠[]
theorem LnsI.nil (nn:List Str):LnsI nn 0 []:=⟨(λb i r h=>by cases h),(λr h=>by cases h),↥0,⟨aG _,↥0⟩,(λh=>rQ h ↥0),(λx h=>by cases h)⟩
theorem ib.snoc {rows:List PR}(h:ib b rows)(o:mV b rows r):ib b (rows++[r]):=λi q hq=>by
 by_cases c:i<rows.length
 ·rw[bI c] at hq
  rw[jn ⋯];exact h i q hq
 ·have e:i=rows.length:=by
   have:=(ai.mp hq).1;rw[ao] at this;simp at this;lia
  subst e;rw[bc (aG _),gY] at hq;cases hq;rw[ku rfl];exact o
theorem LnsI.more {n:Str}{tt:List Str}{rs:List Int}(I:LnsI nn i prs)(nd:nn.Nodup)(hi:i<30)(hn:nn[i]? =some n)(lok:(PR.line n tt rs).lnOk)(hh:jK (lsC prs)+2 * (rs.length:Int)≤16):LnsI nn (i+1) (prs++[.line n tt rs]):=by
 have hf:=I.few;have eC:lsC (prs++[.line n tt rs])=lsC prs++[⟨n,tt,rs,[],jK (lsC prs)⟩]:=iK _ _;apply⟨λb=>(I.rows b).snoc ⟨λm=>?_,lok⟩,λr hr=>?_,by rw[eC,lN];exact hh,⟨by rw[ao];simp;lia,⋯⟩,(λ_ z=>by simp at z),λx hx=>?_⟩
 ·obtain⟨x,hx,e⟩:=aI.mp m
  obtain⟨j,hj,e2⟩:=I.nms x hx;rw[e] at e2;have:=kH nd hn e2;lia
 ·rcases aS.mp hr with hr | hr
  ·exact I.ok r hr
  ·rw[aB.mp hr];exact lok
 ·rw[eC] at hx
  rcases aS.mp hx with hx | hx
  ·obtain⟨j,hj,e⟩:=I.nms x hx
   exact⟨j,⋯,e⟩
  ·rw[aB.mp hx]
   exact⟨i,⋯,hn⟩
theorem LnsI.up (I:LnsI nn i prs)(hi:i<30)(h1:1≤i):LnsI nn (i+1) prs:=⟨I.rows,I.ok,I.hap,⟨by have:=I.few;lia,⋯⟩,fun _=>I.ne h1,fun x hx=>by
 obtain ⟨j,hj,e⟩:=I.nms x hx;exact ⟨j,⋯,e⟩⟩
theorem LnsI.done (I:LnsI nn i prs)(h1:1≤i):qW prs:=⟨I.rows,I.ok,I.hap,by have:=I.few;lia,I.ne h1⟩
inductive spLns (K:ak)(vs:List V)(H:Hp)(Q:VK)(_:XK):Prop
 | mk (a N S:aq)(ns:List Int)(nn ss:List Str)(most:Int)(_:vs=[.ref a,.ref N,.ref S,.int most])(_:SqL K H a (ns.map V.int))(_:H N=some (.lst (nn.map V.str)))(_:nn.Nodup)(_:(∀z∈nn,nam z=true))(_:H S=some (.lst (ss.map V.str)))(_:(5≤ss.length∧ss.length≤30))(_:ss.Nodup)(_:(∀z∈ss,nam z=true))(_:1≤most)(_:most≤nn.length)(_:nn.length≤30)(_:∀L xs prs H',cb H H'→H L=none→H' L=some (.lst xs)→kO H' xs (prs.map PR.rowV)→qW prs→Q (.ref L) H')
theorem SqL.kept' (S:cb H H')(h:SqL K H a xs):SqL K H' a xs:=by
 rcases h with (h | ⟨o,h⟩) | h
 ·exact .inl (.inl (S _ _ h))
 ·exact .inl (.inr ⟨o,S _ _ h⟩)
 ·exact .inr h
theorem kO.snoc {rows:List (List V)}{B:aq}{r:List V}(h:kO H xs rows)(k:∀ a,∀ q∈rows,H a=some (.lst q)→H' a=some (.lst q))(hB:H' B=some (.lst r)):kO H' (xs++[.ref B]) (rows++[r]):=⟨by rw [ao,ao,h.len];rfl,fun i q hq=>by
 by_cases c:i<rows.length
 ·rw[bI c] at hq
  obtain⟨a,h1,ha⟩:=h.get i q hq;exact⟨a,by rw[bI (by rw[h.len];exact c)];exact h1,k a q (aD hq) ha⟩
 ·have e:i=rows.length:=by
   have:=(ai.mp hq).1;rw[ao] at this;simp at this;lia
  subst e;rw [bc (aG _),gY] at hq;cases hq;exact ⟨B,by rw [bc (by rw [h.len];exact aG _),h.len,gY];rfl,hB⟩⟩
theorem rowV_str (r:PR):∃(z:Str) (t:List V),r.rowV= .str z::t:=by cases r <;> exact⟨_,ρ⟩
theorem kO.neL (h:kO H xs (prs.map PR.rowV))(hL:H L=some (.lst xs)){q:List V}(hq:q∈prs.map PR.rowV)(ha:H a=some (.lst q)):a≠L:=λz=>by
 subst z;rw[hL] at ha;injection ha with ha
 injection ha with ha
 subst ha;obtain⟨r,hr,e⟩:=aI.mp hq;obtain⟨z,t,e2⟩:=rowV_str r;rw[e2] at e;have l:=h.len;obtain⟨b,h1,_⟩:=h.get 0 _ (gE (show 0<(prs.map PR.rowV).length by rw[←l,←e];simp));rw[←e] at h1;cases h1
theorem ne_of_none' {b:aq}(h:H a=none)(h':H b=some o):a≠b:=λz=>by rw[z,h'] at h;cases h
def PathOk (tt:List Str):Prop:=(∀z∈tt,nam z=true)∧tt.Nodup∧2≤tt.length∧tt.length≤5
theorem scLr:cI ["_law_pot_here","_law_name","_law_stops","_law_rows","_law_way","_law_here","_law_path","_law_row","_law_stop"] pzz (defScope sLr):=by trivial
theorem ok_lr (F:Fun K "_law_line_row" "_law_line_row" sLr f fd)(T:Nm mg)(T2:Nt mg)(G1:Fn K mg "_law_take" qx pze f1 fd1):‹0› 2 f fd pzz spLr:=by
 have F1:‹0› 1 f1 fd1 pze oa:=mI G1.F;specialize F.ok scLr;obtain ⟨p,n,nm,S,R,ss,xs,prs,rfl,hp,hS,⟨l5,l30⟩,nd,nam_,nmN,hR,rw_,okl,few,k⟩:=h;have hr1:kA 1 _:=hr;apply ⟨_,PSl.h (bo ⟨(psZ 4 scLr.nd (pc1 G1 F1 hr1 (ah (pv 0) (ah aO aA))))⟩
  (bo ⟨(psZ 5 scLr.nd (gk pV rfl T2.tlist boot_list (ah (pv 2) aA)))⟩
  (bo ⟨(ps_setC (iy:=6) (fr:=["_law_here","_law_pot_here"]) (js:=[5,0]) scLr.nd rfl (.inl rfl) rfl (lL rfl T2.range (ah (cH fz aO (pc1 G1 F1 hr1 (ah (pv 0) (ah aO aA)))) aA)) ⇑0 rfl ⇑0 rfl (by exists sLr) ⇑0 rfl ⇑0 (fun _ _ _ _ _=>⟨(toKp K (jR bB PySem.F.slot_list_pop PySem.F.type_list_pop mt_popAt (pv 1) (ah (pc1 G1 F1 hr1 (ah (pv 2) (ah (cu (lenK K) rfl T.len bp (ah (pv 1) aA)) aA))) aA))),kh⟩))⟩
  (bo ⟨(ps_cutK (fG (PW.pt (oJ (bQ op_lt (pv 4) aO (cw _)) (mG (bQ (op_neL0 hr.units0) (pv 3) (ip aA) (cw _))))) (PSl.h (bo ⟨(psZ 6 scLr.nd (pe_twoL (a:=2) (fj bV (pv 3) (pc1 G1 F1 hr1 (ah (pv 0) (ah (cu cA rfl T.len bp (ah (pv 3) aA)) aA))) (fun _ _=>rfl))))⟩
  (gc ⟨(psZ 6 scLr.nd (PEs.h (k_ix bV (pH (eM ⟨pv 6⟩ (eM ⟨pe_backL (pv 6)⟩ pd))) ⟨pv 4⟩ (fun _ _=>rfl))))⟩))) cF))⟩
  (bo ⟨(psZ 7 scLr.nd (PEs.h (k_lstF (eM k_str (eM ⟨pv 1⟩ (eM (k_ix bV ⟨pv 6⟩ jJ (fun _ _=>rfl)) pd))))))⟩
  (bo ⟨(jg cf rfl (jk (fe sl_list (pv 6) (fV aO) gW)) (pgZ 8 scLr.nd) (PSl.h (bo ⟨(hV (jR bB bK bJ gH (pv 7) (ah (pc1 G1 F1 hr1 (ah (pv 0) (ah (PEs.h (k_ix bV (pH (eM jJ (eM jJ (eM jJ (eM (k_op pR jJ jJ) pd))))) ⟨pc1 G1 F1 hr1 (ah (pv 0) (ah aO aA))⟩ (fun _ _=>rfl))) aA))) aA)))⟩
  (gc ⟨(hV (jR bB bK bJ gH (pv 7) (ah (pv 8) aA)))⟩))))⟩
  (gc ⟨(bR (pv 7))⟩))))))),?_⟩
 try dsimp only [cxK]
 have nSp:S≠p:=eN hS hp λz=>by
  injection z with z
  have:=rV jW z;rw[ae] at this;simp at this;lia
 have nRp:R≠p:=rw_.nep hp hR;have two:∀r∈prs.map PR.rowV,2≤r.length:=λr hr=>by
  obtain⟨q,hq,rfl⟩:=aI.mp hr;exact rowV_two (okl q hq)
 apply⟨ρ,p,n,4,rfl,hp,↥0,↥0,λway H1 w0 w1 M1=>?_⟩;have hS1:=M1.1 _ _ nSp hS;obtain⟨n1,hp1⟩:=M1.2;apply⟨ρ,S,ρ,.inl (SqL.of hS1),λl hl=>?_⟩;have M2:Mv p H (upd H1 l (.lst (ss.map V.str))):=M1.new hl;have h2l:(upd H1 l (.lst (ss.map V.str))) l=some (.lst (ss.map V.str)):=aQ;have nlp:l≠p:=M1.ne hl;have fl:H l=none:=M1.free hl;generalize upd H1 l (.lst (ss.map V.str))=H2 at M2 h2l ⊢;obtain⟨n2,hp2⟩:=M2.2;apply⟨ρ,p,n2,4,rfl,hp2,↥0,↥0,λr H3 r0 r1 M3=>⟨ς,2+r,rfl,⋯,⋯,?_⟩⟩;have M13:=M2.trans M3
 let pZ1:Nat→List L2.V→L2.Hp→Prop:=λi zs HA=>(∀c o,c≠p→H c=some o→HA c=some o)∧(∃n,HA p=some (.lst [.int n]))∧∃ps rest:List Str,zs=ps.map V.str∧ps.length=i∧HA l=some (.lst (rest.map V.str))∧(ps++rest).Perm ss
 apply pM (n:=(2+r).toNat) pZ1
  ⟨M13.1,M13.2,[],ss,rfl,rfl,M3.at h2l nlp,List.Perm.refl _⟩ (λi zs HA _ q=>by obtain⟨_,_,ps,_,e,hl,_⟩:=q;rw[e,ae,hl];exact aG _) (small_le ⋯) (λi zs HA hi q=>?_) (λzs HA q D hD=>?_)
 ·obtain⟨SA,⟨nA,hpA⟩,ps,rest,eA,lA,hLA,pm⟩:=q
  have lr:ps.length+rest.length=ss.length:=by rw[←ao];exact pm.length_eq
  apply jq ?_;have ll:(rest.map V.str).length=rest.length:=ae _;apply⟨ρ,.inl ⟨rfl,_,SqL.of hLA⟩,ρ,ρ,l,ρ,.inl (SqL.of hLA),p,nA,ρ,hpA,(by show 0<((rest.map V.str).length:Int);lia),(by show((rest.map V.str).length:Int)<10 ^ 61;lia),λr4 HB a4 c4 MB=>?_⟩;have c4:r4<((rest.map V.str).length:Int):=c4;obtain⟨j,rfl⟩:=dz a4;obtain⟨y,hy⟩:∃y,rest[j]? =some y:=⟨_,gE ⋯⟩;have hLB:=MB.at hLA nlp;apply⟨l,rest.map V.str,_,j,V.str y,rfl,rfl,hLB,⋯,⋯,seqIndex_of a4 c4,by rw[aC,hy];rfl,?_⟩;obtain⟨nB,hpB⟩:=MB.2;apply⟨λc o hc e=>by rw[aX (aR e fl)];exact MB.1 _ _ hc (SA c o hc e),⟨nB,by rw[aX (cQ nlp)];exact hpB⟩,ps++[y],rest.eraseIdx j,by rw[eA,aw];rfl,by rw[ao,lA];rfl,?_,?_⟩
  ·rw[aQ,List.eraseIdx_eq_take_drop_succ,List.eraseIdx_eq_take_drop_succ,aw,lG,gx]
  ·rw[dA]
   exact((pop_prm rest j y hy).append_left ps).trans pm
 obtain⟨SA,⟨nA,hpA⟩,ps,rest,rfl,lA,hLA,pm⟩:=q;have MA:Mv p H HA:=⟨SA,nA,hpA⟩;have M4:Mv p H (upd HA D (.lst (ps.map V.str))):=MA.new hD;have h4:(upd HA D (.lst (ps.map V.str))) D=some (.lst (ps.map V.str)):=aQ;have nd':=pm.nodup_iff.mpr nd;have pok:PathOk ps:=⟨λz hz=>nam_ z (pm.subset (cB _ hz)),(iX.mp nd').1,⋯,⋯⟩;generalize upd HA D (.lst (ps.map V.str))=H4 at M4 h4 ⊢;apply⟨λσ' H'=>∃(Pp:aq) (tt:List Str),Mv p H H'∧H' Pp=some (.lst (tt.map V.str))∧PathOk tt∧σ'=[some (.ref p),some (.str nm),some (.ref S),some (.ref R),some (.int way),some (.ref l),some (.ref Pp),none,none],λσ' H5 q=>?_,?_⟩
 rotate_left
 ·have nx:∀H',Mv p H H'→H' D=some (.lst (ps.map V.str))→∃(Pp:aq) (tt:List Str),Mv p H H'∧H' Pp=some (.lst (tt.map V.str))∧PathOk tt∧[some (V.ref p),some (V.str nm),some (V.ref S),some (V.ref R),some (V.int way),some (V.ref l),some (V.ref D),none,none]=[some (.ref p),some (.str nm),some (.ref S),some (.ref R),some (.int way),some (.ref l),some (.ref Pp),none,none]:=λH' M h=>⟨D,ps,M,h,pok,rfl⟩
  apply⟨ρ,ς,ρ,kJ (λc1=>?_) (λc1=>nx _ M4 h4)⟩;have c1:way<2:=rT c1;apply⟨ρ,(by show 0≤az;decide),λEm H5 S5 e5=>?_⟩;have M5:=M4.then S5;have hR5:=M5.1 _ _ nRp hR;apply⟨R,Em,xs,rfl,rfl,SqL.of hR5,SqL.of e5,ρ,kJ (λc2=>?_) (λc2=>nx _ M5 (S5 _ _ h4))⟩;have ne:0<xs.length:=by
   cases xs with
   | nil=>cases c2
   | cons _ _=>simp
  obtain⟨n5,hp5⟩:=M5.2;have lx:xs.length=prs.length:=by rw[rw_.len,ae]
  apply⟨ρ,ρ,ρ,R,ρ,.inl (SqL.of hR5),p,n5,ρ,hp5,(by show(0:Int)<(xs.length:Int);lia),(by show(xs.length:Int)<10 ^ 61;lia),λr6 H6 a6 c6 M6=>?_⟩;obtain⟨j,rfl⟩:=dz a6;have c6:(j:Int)<(xs.length:Int):=c6;have hj:j<prs.length:=by lia
  have M46:=M5.trans M6;have rw6:=rw_.mv M46 hp two;obtain⟨a,hxa,hra⟩:=rw6.get j prs[j].rowV (by rw[aC,gE hj];rfl);have okj:=okl _ (cW hj);generalize prs[j]=q at hra okj;cases q with
  | beat b=>exact rQ okj id
  | oth kk ns is=>exact rQ okj id
  | line m tt rs =>
   obtain⟨_,o2,o3,o4,o5,o6,_⟩:=okj;have hra:H6 a=some (.lst (.str "line" :: .str m::jI tt rs)):=hra;apply⟨R,τ,SqL.of (M46.1 _ _ nRp hR),aP hxa,a,ρ,SqL.of hra,(by simp only[av];lia),λB H7 S7 e7=>?_⟩;have e7:H7 B=some (.lst (tt.map V.str)):=by rw[e7];show some (HO.lst (evs (jI tt rs)))=_;rw[qj o6]
   apply⟨ρ,ρ,B,ρ,e7,λC H8 S8 e8=>?_⟩;apply⟨szZ2,λW H9 S9 e9=>?_⟩;have M9:Mv p H H9:=M46.then (S7.trans (S8.trans S9));have ok1:PathOk tt:=⟨o2,o3,o4,o5⟩;have ok2:PathOk tt.reverse:=⟨λz hz=>o2 z (List.mem_reverse.mp hz),(List.reverse_perm tt).nodup_iff.mpr o3,by rw[List.length_reverse];exact o4,by rw[List.length_reverse];exact o5⟩;obtain rfl | rfl:way=0∨way=1:=by lia
   ·exact⟨ρ,W,τ,SqL.of e9,rfl,B,tt,M9,(S8.trans S9) _ _ e7,ok1,rfl⟩
   ·exact⟨ρ,W,τ,SqL.of e9,rfl,C,tt.reverse,M9,by rw[S9 _ _ e8,List.map_reverse],ok2,rfl⟩
 obtain⟨Pp,tt,M5,h5,⟨o2,o3,o4,o5⟩,rfl⟩:=q;obtain⟨n5,hp5⟩:=M5.2;have nPp:Pp≠p:=eN h5 hp5 λz=>by
  injection z with z
  have:=rV jW z;rw[ae] at this;simp at this;lia
 obtain⟨s0,hs0⟩:∃s0,tt[0]? =some s0:=⟨_,gE ⋯⟩;apply⟨ρ,ρ,Pp,τ,SqL.of h5,aP (j:=0) (by rw[aC,hs0];rfl),(by show 3≤az;decide),λL hL=>?_⟩;have M6:Mv p H (upd H5 L (.lst [.str "line",.str nm,.str s0])):=M5.new hL;have h6:(upd H5 L (.lst [.str "line",.str nm,.str s0])) L=some (.lst (.str "line" :: .str nm::jI (tt.take 1) [])):=by
  rw[aQ,show tt.take 1=[s0] by rw[bG,hs0];rfl];rfl
 have fL:H L=none:=M5.free hL;have nLp:L≠p:=M5.ne hL;have nPL:Pp≠L:=aR h5 hL;have hP6:(upd H5 L (.lst [.str "line",.str nm,.str s0])) Pp=some (.lst (tt.map V.str)):=by rw[aX nPL];exact h5
 generalize upd H5 L (.lst [.str "line",.str nm,.str s0])=H6 at M6 h6 hP6 ⊢;apply⟨ρ,ρ,Pp,ρ,SqL.of hP6,λC hC=>?_⟩;rw[cutF (i:=1) (n:=1) rfl];have M7:Mv p H (upd H6 C (.lst ((tt.map V.str).drop 1))):=M6.new hC;have e7:(upd H6 C (.lst ((tt.map V.str).drop 1))) C=some (.lst ((tt.map V.str).drop 1)):=aQ;have nCL:L≠C:=aR h6 hC;have nCp:C≠p:=M6.ne hC;have h7:(upd H6 C (.lst ((tt.map V.str).drop 1))) L=some (.lst (.str "line" :: .str nm::jI (tt.take 1) [])):=by rw[aX nCL];exact h6
 generalize upd H6 C (.lst ((tt.map V.str).drop 1))=H7 at M7 e7 h7 ⊢;apply⟨C,rfl,⟨_,SqL.of e7⟩,?_⟩;have lC:((tt.map V.str).drop 1).length+1=tt.length:=by rw[bD,ae];lia
 have big:(1000:Nat)≤az:=by decide
 let pZ1:Nat→L2.St→L2.Hp→Prop:=λi σ HB=>Mv p H HB∧HB C=some (.lst ((tt.map V.str).drop 1))∧∃rs:List Int,rs.length=i∧(∀r∈rs,0≤r∧r<10 ^ 12)∧HB L=some (.lst (.str "line" :: .str nm::jI (tt.take (i+1)) rs))∧∃v8,σ=[some (.ref p),some (.str nm),some (.ref S),some (.ref R),some (.int way),some (.ref l),some (.ref Pp),some (.ref L),v8]
 apply lF (K:=K) (a:=C) (xs:=(tt.map V.str).drop 1) pZ1
  ⟨M7,e7,[],rfl,(λr hr=>by cases hr),h7,none,rfl⟩ (λi σ HB _ q=>SqL.of q.2.1) ?_ ?_
 ·rintro i x σ HB hx ⟨MB,hCB,rs,lrs,brs,hLB,v8,rfl⟩
  have hi:i+1<tt.length:=by have:=(ai.mp hx).1;lia
  rw[dv,aC,Nat.add_comm,gE hi] at hx;have hx:some (V.str tt[i+1])=some x:=hx;cases hx;obtain⟨nB,hpB⟩:=MB.2;have ltk:(tt.take (i+1)).length=rs.length+1:=by rw[aL];lia
  have lint:(jI (tt.take (i+1)) rs).length≤20:=by rw[ko ltk];lia
  apply⟨ρ,.inl ⟨rfl,_,SqL.of hLB⟩,ρ,ς,⟨↥0,↥0,↥0⟩,szZ4,λB HC SC eC=>?_⟩;have MC:=MB.then SC;obtain⟨nC,hpC⟩:=MC.2;apply⟨ρ,p,nC,4,rfl,hpC,↥0,↥0,λr HD a0 a1 MD=>?_⟩;have hBD:=MD.1 _ _ (eN eC hpC (jD ∅)) eC;obtain⟨v,ev,mv⟩:=o9 (xs:=[V.int 4,.int 60,.int 60,.int (10 ^ 12)]) a0 (by show r<4;lia);obtain⟨Mx,rfl,Mx1,Mx2⟩:∃M:Int,v= .int M∧1≤M∧M≤10 ^ 12:=by
   simp only[ay,bz,or_false] at mv
   rcases mv with rfl | rfl | rfl | rfl
   ·exact⟨ρ,↥0,↥0⟩
   ·exact⟨ρ,↥0,↥0⟩
   ·exact⟨ρ,↥0,↥0⟩
   ·exact⟨ρ,↥0,↥0⟩
  have MD2:=MC.trans MD;obtain⟨nD,hpD⟩:=MD2.2;apply⟨B,τ,SqL.of hBD,ev,p,nD,Mx,rfl,hpD,⋯,⋯,λr2 HE b0 b1 ME=>?_⟩;have kLE:HE L=some (.lst (.str "line" :: .str nm::jI (tt.take (i+1)) rs)):=ME.1 _ _ nLp (MD.1 _ _ nLp (SC _ _ hLB));have kCE:HE C=some (.lst ((tt.map V.str).drop 1)):=ME.1 _ _ nCp (MD.1 _ _ nCp (SC _ _ hCB));have MHE:=MD2.trans ME;apply⟨L,ς,kLE,(by simp only[av];lia),?_⟩;apply⟨ρ,.inl ⟨rfl,_,SqL.of aQ⟩,ρ,L,ς,aQ,(by simp only[av,ao,fq];lia),?_⟩;obtain⟨nE,hpE⟩:=MHE.2;apply⟨⟨λc o hc e=>?_,nE,?_⟩,?_,rs++[r2],by rw[ao,lrs];rfl,λr hr=>?_,?_,ρ⟩
  ·have:=aR e fL
   rw[aX this,aX this];exact MHE.1 c o hc e
  ·rw[aX (cQ nLp),aX (cQ nLp)];exact hpE
  ·rw[aX (cQ nCL),aX (cQ nCL)];exact kCE
  ·rcases aS.mp hr with hr | hr
   ·exact brs r hr
   ·rw[aB.mp hr];lia
  ·rw[aQ,show tt.take (i+1+1)=tt.take (i+1)++[tt[i+1]] by rw[bG,gE hi];rfl,←intr_snoc ltk]
   rfl
 ·rintro σ HB ⟨MB,hCB,rs,lrs,brs,hLB,v8,rfl⟩
  rw[show((tt.map V.str).drop 1).length+1=tt.length from lC,bO] at hLB;exact⟨ρ,k L tt rs HB MB fL hLB ⟨nmN,o2,o3,o4,o5,⋯,λr hr=>⟨(brs r hr).1,by have:=(brs r hr).2;lia⟩⟩⟩
theorem scLns:cI ["_law_script","_law_names_here","_law_stops","_law_most","_law_rows","_law_many","_law_k","_law_row"] pzA (defScope sLns):=by trivial
theorem ok_lns {fT fP fL:aq}{dT dP dL:aT}(F:Fun K "_law_lines" "_law_lines" sLns f fd)(T:Nm mg)(T2:Nt mg)(GT:Fn K mg "_law_take" qx pze fT dT)
  (GP:Fn K mg "_law_pot" sPotT pzg fP dP) (FP:‹0› 2 fP dP pzg (spPotT K))
  (GL:Fn K mg "_law_line_row" sLr pzz fL dL) (FL:‹0› 2 fL dL pzz spLr):‹0› 3 f fd pzA (spLns K):=by
 have FT:‹0› 1 fT dT pze oa:=mI GT.F;specialize F.ok scLns;obtain ⟨a,N,S,ns,nn,ss,most,rfl,ha,hN,ndN,okN,hS,⟨l5,l30⟩,ndS,okS,m1,m2,m3,k⟩:=h;have hr1:kA 1 _:=hr.mono ↥0;have hr2:kA 2 _:=hr;apply ⟨_,PSl.h (bo ⟨(psZ 4 scLns.nd (kF aA))⟩
  (bo ⟨(psZ 5 scLns.nd aO)⟩
  (bo ⟨(jg cf rfl (lL rfl T2.range (ah (cH fz aO (pc1 GT FT hr1 (ah (pc1 GP FP hr2 (ah (pv 0) (ah aO aA))) (ah (pv 3) aA)))) aA)) (pgZ 6 scLns.nd) (PSl.h (bo ⟨(psZ 7 scLns.nd (pc1 GL FL hr2 (ah (pc1 GP FP hr2 (ah (pv 0) (ah (cH fz aO (pv 6)) aA))) (ah (fj bV (pv 1) (pv 6) (fun _ _=>rfl)) (ah (pv 2) (ah (pv 4) aA))))))⟩
  (gc ⟨(fG (bQ op_le (cH iq (cH fz (pv 5) (cu cA rfl T.len bp (ah (pv 7) aA))) aO) aO (cw _)) (PSl.h (bo ⟨(hV (jR bB bK bJ gH (pv 4) (ah (pv 7) aA)))⟩
  (gc ⟨(psZ 5 scLns.nd (cH iq (cH fz (pv 5) (cu cA rfl T.len bp (ah (pv 7) aA))) aO))⟩))) cF)⟩))))⟩
  (gc ⟨(bR (pv 4))⟩)))),?_⟩
 try dsimp only [cxK]
 apply⟨(by show 0≤az;decide),λL hL=>?_⟩;have S1:cb H (upd H L (.lst [])):=(cb.refl H).put hL;have h1:(upd H L (.lst [])) L=some (.lst []):=aQ;generalize upd H L (.lst [])=H1 at S1 h1 ⊢;have sq:∀{H':Hp},cb H H'→SqL K H' a (ns.map V.int):=λS=>SqL.kept' S ha
 apply⟨ρ,a,ns,3,rfl,sq S1,↥0,↥0,λm p hp=>?_⟩;have S2:cb H1 (upd H1 p (.lst [.int m])):=cb.put (cb.refl H1) hp;have h2:(upd H1 p (.lst [.int m])) p=some (.lst [.int m]):=aQ;generalize upd H1 p (.lst [.int m])=H2 at S2 h2 ⊢;apply⟨ρ,p,m,most,rfl,h2,⋯,⋯,λr H3 r0 r1 M3=>⟨ς,1+r,rfl,⋯,⋯,?_⟩⟩;have S3:cb H1 H3:=cb.mv S2 hp M3;have big:(1000:Nat)≤az:=by decide
 let pZ1:Nat→L2.St→L2.Hp→Prop:=λi σ HA=>cb H HA∧∃(xs:List V) (prs:List PR),HA L=some (.lst xs)∧kO HA xs (prs.map PR.rowV)∧LnsI nn i prs∧∃v6 v7,σ=[some (.ref a),some (.ref N),some (.ref S),some (.int most),some (.ref L),some (.int (jK (lsC prs))),v6,v7]
 apply nr (lo:=0) (n:=(1+r).toNat) pZ1
  ⟨S1.trans S3,[],[],S3 _ _ h1,⟨rfl,λi r h=>by cases h⟩,LnsI.nil nn,none,none,rfl⟩ ?_ ?_
 ·rintro i σ HA hi ⟨SA,xs,prs,hLA,rwA,I,v6,v7,rfl⟩
  have hi2:i<nn.length:=by lia
  have hn:=gE hi2;apply⟨ρ,ρ,ς,a,ns,ρ,sq SA,(by show(0:Int)≤4+(0+(i:Nat));lia),(by show(4:Int)+(0+(i:Nat))≤100;lia),λm4 p4 hp4=>?_⟩;have S4:cb HA (upd HA p4 (.lst [.int m4])):=cb.put (cb.refl HA) hp4;have h4:(upd HA p4 (.lst [.int m4])) p4=some (.lst [.int m4]):=aQ;generalize upd HA p4 (.lst [.int m4])=H4 at S4 h4 ⊢;apply⟨ρ,ρ,N,τ,SqL.of ((SA.trans S4) _ _ hN),(by rw[Int.zero_add];exact aP (by rw[aC,hn];rfl)),ρ,ρ,p4,m4,nn[i],S,L,ss,xs,prs,rfl,h4,(SA.trans S4) _ _ hS,⟨l5,l30⟩,ndS,okS,okN _ (cW hi2),S4 _ _ hLA,rwA.same S4,I.ok,by have:=I.few;lia,λB tt rs H5 M5 fB hB lok=>?_⟩;have S5:cb HA H5:=cb.mv S4 hp4 M5;have o6:tt.length=rs.length+1:=lok.2.2.2.2.2.1;have o5:tt.length≤5:=lok.2.2.2.2.1;have lrow:(PR.line nn[i] tt rs).rowV.length=2 * rs.length+3:=by
   show(jI tt rs).length+1+1=_;rw[ko o6];lia
  apply⟨ρ,ρ,B,ρ,.inl (SqL.of hB),ς,ς,ς,ρ,kJ (λc=>?_) (λc=>?_)⟩
  ·have c:jK (lsC prs)+((PR.line nn[i] tt rs).rowV.length:Nat) - 3≤16:=rT c
   have hL5:=S5 _ _ hLA;apply⟨ρ,.inl ⟨rfl,_,SqL.of hL5⟩,ρ,L,ς,hL5,(by rw[rwA.len,ae];have:=I.few;lia),?_⟩;have nBL:B≠L:=ne_of_none' fB (S4 _ _ hLA);apply⟨ρ,ρ,B,ρ,.inl (SqL.of (by rw[aX nBL];exact hB)),ς,ς,?_⟩;apply⟨λc o e=>?_,xs++[.ref B],prs++[.line nn[i] tt rs],aQ,?_,I.more ndN ⋯ hn lok (by rw[lrow] at c;lia),some (.int (0+(i:Nat))),some (.ref B),?_⟩
   ·rw[aX (aR e hL)];exact(SA.trans S5) _ _ e
   ·rw[aw]
    exact(rwA.same S5).snoc (λa q hq e=>by rw[aX ((rwA.same S5).neL hL5 hq e)];exact e) (by rw[aX nBL];exact hB)
   ·rw[show lsC (prs++[.line nn[i] tt rs])=lsC prs++[⟨nn[i],tt,rs,[],jK (lsC prs)⟩] from iK _ _,lN,lrow]
    show[some (V.ref a),some (V.ref N),some (V.ref S),some (V.int most),some (V.ref L),some (V.int (jK (lsC prs)+((2 * rs.length+3:Nat):Int) - 3)),_,_]=_;rw[show jK (lsC prs)+((2 * rs.length+3:Nat):Int) - 3=jK (lsC prs)+2 * (rs.length:Int) by lia]
  ·have i1:1≤i:=by
    cases i with
    | zero =>
     have e0:prs=[]:=by have:=I.few.1;exact kC.mp ⋯
     subst e0;apply rQ (rR ?_) c;rw[lrow];show jK (lsC [])+_ - 3≤16;rw[show jK (lsC [])=0 from rfl];lia
    | succ i=>lia
   exact⟨SA.trans S5,xs,prs,S5 _ _ hLA,rwA.same S5,I.up ⋯ i1,_,ρ⟩
 ·rintro σ HA ⟨SA,xs,prs,hLA,rwA,I,v6,v7,rfl⟩
  exact⟨ρ,k L xs prs HA SA hL hLA rwA (I.done ⋯)⟩
abbrev sSpw:c8:=top 97
abbrev sInn:c8:=top 99
theorem sl_listK (K:ak)(hK:autoParam (X.K=K) L2.au0._auto_1):SlR X (λx lo hi H Q=>∃a xs,x= .ref a∧SqL K H a xs∧New H (.lst (cutV xs lo hi)) Q):=by subst hK;exact iI
theorem cut13 (a b c:V)(r:List V):cutV (a::b::c::r) (some 1) (some 3)=[b,c]:=by
 unfold cutV;have e1:=HT.sIx_nat (a::b::c::r).length 0 1;have e2:=HT.sIx_nat (a::b::c::r).length (a::b::c::r).length 3;rw[show((1:Nat):Int)=1 from rfl] at e1;rw[show((3:Nat):Int)=3 from rfl] at e2;rw[e1,e2,eh ∅,eh ∅];rfl
theorem lsC_at {n:Str}{rs:List Int}(h:prs[i]? =some (.line n ss rs)):(⟨n,ss,rs,[],jK (lsC (prs.take i))⟩:Ln)∈lsC prs:=by
 apply qh (m:=i+1) ?_;rw[bG,h];show _∈lsC (prs.take i++[_]);rw[iK];exact bC _ (aB.mpr rfl)
theorem kO.neS {rows:List (List V)}{t:List V}(h:kO H xs rows)(hL:H L=some (.lst xs))(ha:H a=some (.lst (.str z::t))):a≠L:=λe=>by
 subst e;rw[hL] at ha;injection ha with ha
 injection ha with ha
 have l:=h.len;obtain⟨b,h1,_⟩:=h.get 0 _ (gE (show 0<rows.length by rw[←l,ha];simp));rw[ha] at h1;cases h1
theorem oV_non (o:Option Int):decide (oV o=V.non)=o.isNone:=by cases o <;> rfl
theorem flat_oV (o:Option Int):pK (oV o)=true:=by cases o <;> rfl
theorem inV_non (c g:Option Int):inV .non [oV c,oV g]=(c.isNone || g.isNone):=by cases c <;> cases g <;> rfl
theorem oI_some {c:Prop}[Decidable c]{i:Int}(h:(oI c i).isNone=false):c:=by
 unfold oI at h;split at h
 ·assumption
 ·cases h
inductive spSpw (vs:List V)(H:Hp)(Q:VK)(_:XK):Prop
 | mk (p:aq)(n b:Int)(_:vs=[.ref p,.int b])(_:H p=some (.lst [.int n]))(_:1≤b)(_:b≤10 ^ 30)(_:∀L l o w H',Mv p H H'→H' L=some (.lst [.int l,.int o,.int w])→NumOk b l o w→Q (.ref L) H')
inductive Pr (x y:Ln):Str→List Str→Prop
 | change {z:Str} {i j:Nat} (h1:x.ss[i]? =some z) (h2:1≤i) (h3:y.ss[j]? =some z) (h4:j+1<y.ss.length):Pr x y "change" [x.n,y.n,z]
 | apart {z:Str} {i j:Nat} (h1:x.ss[i]? =some z) (h2:i+1<x.ss.length) (h3:y.ss[j]? =some z) (h4:j+1<y.ss.length):Pr x y "apart" [x.n,y.n,z]
 | meet {z z2:Str} {r u:Int} {i j:Nat} (h1:x.ss[i]? =some z) (h2:x.ss[i+1]? =some z2) (h3:x.rs[i]? =some r) (h4:y.ss[j]? =some z2) (h5:y.ss[j+1]? =some z) (h6:y.rs[j]? =some u):Pr x y "meet" [x.n,y.n,z,z2]
def pW (prs:List PR)(k:Str)(q:List Str):Prop:=∃x y:Ln,x∈lsC prs∧y∈lsC prs∧x.n≠y.n∧Pr x y k q
inductive spPrs (vs:List V)(H:Hp)(Q:VK)(_:XK):Prop
 | mk (R:aq)(xs:List V)(prs:List PR)(k:Str)(_:vs=[.ref R,.str k])(_:H R=some (.lst xs))(_:kO H xs (prs.map PR.rowV))(_:(∀r∈prs,r.lnOk))(_:prs.length≤30)(_:(k = "change" ∨k = "apart" ∨k = "meet"))(_:∀(L:aq) (ys:List V) (qs:List (List Str)) (H':Hp),cb H H'→H' L=some (.lst ys)→kO H' ys (qs.map (List.map V.str))→(∀q∈qs,pW prs k q)→qs.length≤10000→Q (.ref L) H')
def InnOk (prs rows:List PR)(q:List Str):Prop:=∃(x:Ln) (z:Str) (i:Nat),x∈lsC prs∧q=[x.n,z]∧x.ss[i]? =some z∧1≤i∧i+1<x.ss.length∧(x.n,z) ∉ stz rows
def PR.okI:PR→Prop
 | .beat _=>False
 | .line n ss rs=>(PR.line n ss rs).lnOk
 | .oth k ns _=>k ≠ "line" ∧2≤ns.length∧(k = "stay" →ns.length=2)
inductive spInn (vs:List V)(H:Hp)(Q:VK)(_:XK):Prop
 | mk (R R2:aq)(xs x2:List V)(prs rows:List PR)(_:vs=[.ref R,.ref R2])(_:H R=some (.lst xs))(_:kO H xs (prs.map PR.rowV))(_:(∀r∈prs,r.lnOk))(_:prs.length≤30)(_:H R2=some (.lst x2))(_:kO H x2 (rows.map PR.rowV))(_:(∀r∈rows,r.okI))(_:rows.length≤100)(_:∀(L:aq) (ys:List V) (qs:List (List Str)) (H':Hp),cb H H'→H' L=some (.lst ys)→kO H' ys (qs.map (List.map V.str))→(∀q∈qs,InnOk prs rows q)→qs.length≤10000→Q (.ref L) H')
structure Fnd (H HA:Hp)(L:aq)(G:List Str→Prop)(n:Nat):Prop where
 S:cb H HA
 ex:∃(ys:List V) (qs:List (List Str)),HA L=some (.lst ys)∧kO HA ys (qs.map (List.map V.str))∧(∀q∈qs,G q)∧qs.length≤n
theorem Fnd.same {HA HB:Hp}{G:List Str→Prop}(F:Fnd H HA L G n)(S:cb HA HB)(h:n≤m):Fnd H HB L G m:=by
 obtain⟨ys,qs,h1,h2,h3,h4⟩:=F.ex;exact⟨F.S.trans S,ys,qs,S _ _ h1,h2.same S,h3,⋯⟩
theorem Fnd.app {HA HB:Hp}{B:aq}{G:List Str→Prop}{t:List Str}(F:Fnd H HA L G n)(hL:H L=none)(S:cb HA HB)(hB:HB B=some (.lst ((z::t).map V.str)))(g:G (z::t))(h:n+1≤m)(hm:m≤10000):∃ys:List V,HB L=some (.lst ys)∧ys.length<az∧Fnd H (upd HB L (.lst (ys++[.ref B]))) L G m:=by
 obtain⟨ys,qs,h1,h2,h3,h4⟩:=F.ex;have h2':=h2.same S;have ne:=h2'.neS (S _ _ h1) hB;have big:(20000:Nat)≤az:=by decide
 apply⟨ys,S _ _ h1,?_,⟨λc o e=>by rw[aX (aR e hL)];exact(F.S.trans S) _ _ e,ys++[.ref B],qs++[z::t],aQ,?_,λq hq=>?_,by rw[ao];show qs.length+1≤m;lia⟩⟩
 ·rw[h2.len,ae];lia
 ·rw[aw]
  apply h2'.snoc (λa q hq e=>?_) (by rw[aX ne];exact hB);have:a≠L:=by
   obtain⟨w,hw,rfl⟩:=aI.mp hq;cases w with
   | nil =>
    intro zz;subst zz;rw[S _ _ h1] at e;injection e with e
    injection e with e
    have l:=h2.len;rw[e] at l;rw[List.map_nil,fq,ae] at l;rw[kC.mp l.symm] at hw;cases hw
   | cons z' t'=>exact h2'.neS (S _ _ h1) e
  rw[aX this];exact e
 ·rcases aS.mp hq with hq | hq
  ·exact h3 q hq
  ·rw[aB.mp hq];exact g
theorem scSpw:cI ["_law_pot_here","_law_beat","_law_least","_law_width","_law_weight"] pzB (defScope sSpw):=by trivial
theorem ok_spw (F:Fun K "_law_span_words" "_law_span_words" sSpw f fd)(T:Nm mg)(G1:Fn K mg "_law_take" qx pze f1 fd1):‹0› 2 f fd pzB spSpw:=by
 have F1:‹0› 1 f1 fd1 pze oa:=mI G1.F;specialize F.ok scSpw;obtain ⟨p,n,b,rfl,hp,b1,b2,k⟩:=h;have hr1:kA 1 _:=hr;apply ⟨_,PSl.h (bo ⟨(psZ 2 scSpw.nd (pc1 G1 F1 hr1 (ah (pv 0) (ah (PEs.h (k_ix bV (pH (eM ⟨pv 1⟩ (eM (k_op kG jJ ⟨pv 1⟩) (eM jJ (eM (k_op pR jJ jJ) pd))))) ⟨pc1 G1 F1 hr1 (ah (pv 0) (ah aO aA))⟩ (fun _ _=>rfl))) aA))))⟩
  (bo ⟨(psZ 3 scSpw.nd (pc1 G1 F1 hr1 (ah (pv 0) (ah (PEs.h (k_ix bV (pH (eM jJ (eM ⟨cu (oX rfl) rfl T.min boot_min (ah (pv 1) (ah aO aA))⟩ (eM ⟨pv 1⟩ (eM ⟨pv 1⟩ pd))))) ⟨pc1 G1 F1 hr1 (ah (pv 0) (ah aO aA))⟩ (fun _ _=>rfl))) aA))))⟩
  (bo ⟨(psZ 4 scSpw.nd (PEs.h (pH (eM jJ (eM jJ (eM ⟨pc1 G1 F1 hr1 (ah (pv 0) (ah aO aA))⟩ (eM ⟨pc1 G1 F1 hr1 (ah (pv 0) (ah (cH fz (cH pR aO aO) aO) aA))⟩ pd)))))))⟩
  (gc ⟨(bR (PEs.h (pH (eM ⟨pv 2⟩ (eM (k_op fz ⟨pv 2⟩ ⟨pv 3⟩) (eM (k_ix bV ⟨pv 4⟩ ⟨pc1 G1 F1 hr1 (ah (pv 0) (ah aO aA))⟩ (fun _ _=>rfl)) pd))))))⟩)))),?_⟩
 try dsimp only [cxK]
 apply⟨ρ,ρ,ρ,ς,.inl ⟨↥0,↥0⟩,ς,⟨↥0,↥0,↥0⟩,szZ4,λB H1 S1 e1=>?_⟩;have M1:Mv p H H1:=Mv.of S1 (S1 _ _ hp);apply⟨ρ,p,n,4,rfl,S1 _ _ hp,↥0,↥0,λr H2 a0 a1 M2=>?_⟩;have e2:=M2.1 _ _ (eN e1 (S1 _ _ hp) (jD ∅)) e1;obtain⟨v,ev,mv⟩:=o9 (xs:=[V.int b,.int (3 * b),.int 60,.int (10 ^ 30)]) a0 (by show r<4;lia);obtain⟨m,rfl,m1,m2⟩:∃m:Int,v= .int m∧1≤m∧m≤10 ^ 31:=by
  simp only[ay,bz,or_false] at mv
  rcases mv with rfl | rfl | rfl | rfl
  ·exact⟨ρ,⋯,⋯⟩
  ·exact⟨ρ,⋯,⋯⟩
  ·exact⟨ρ,↥0,↥0⟩
  ·exact⟨ρ,↥0,↥0⟩
 obtain⟨n2,hp2⟩:=M2.2;apply⟨B,τ,SqL.of e2,ev,p,n2,m,rfl,hp2,⋯,⋯,λl H3 l0 l1 M3=>?_⟩;have M13:=(M1.trans M2).trans M3;obtain⟨n3,hp3⟩:=M13.2;apply⟨ρ,ρ,_,ρ,ρ,ρ,szZ4,λB H4 S4 e4=>?_⟩;apply⟨ρ,p,n3,4,rfl,S4 _ _ hp3,↥0,↥0,λr H5 c0 c1 M5=>?_⟩;have e5:=M5.1 _ _ (eN e4 (S4 _ _ hp3) (jD ∅)) e4;obtain⟨v,ev,mv⟩:=o9 (xs:=[V.int 1,.int (if (4:Int)<b then 4 else b),.int b,.int b]) c0 (by show r<4;lia);obtain⟨m',rfl,m1',m2'⟩:∃m:Int,v= .int m∧1≤m∧m≤b:=by
  simp only[ay,bz,or_false] at mv
  rcases mv with rfl | rfl | rfl | rfl
  ·exact⟨ρ,↥0,⋯⟩
  ·exact⟨ρ,by split <;> lia,by split <;> lia⟩
  ·exact⟨ρ,⋯,⋯⟩
  ·exact⟨ρ,⋯,⋯⟩
 obtain⟨n5,hp5⟩:=M5.2;apply⟨B,τ,SqL.of e5,ev,p,n5,m',rfl,hp5,⋯,⋯,λwd H6 w0 w1 M6=>?_⟩;have M36:=((M13.then S4).trans M5).trans M6;obtain⟨n6,hp6⟩:=M36.2;apply⟨ρ,p,n6,10,rfl,hp6,↥0,↥0,λx1 H7 x10 x11 M7=>?_⟩;obtain⟨n7,hp7⟩:=M7.2;apply⟨ρ,ς,⟨↥0,↥0,↥0⟩,ς,p,n7,ρ,hp7,(by show(0:Int)<10 ^ 12+1;decide),(by show(10 ^ 12+1:Int)<10 ^ 61;decide),λx2 H8 x20 x21 M8=>?_⟩;have x21:x2<10 ^ 12+1:=x21;apply⟨szZ4,λB H9 S9 e9=>?_⟩;have M39:=((M36.trans M7).trans M8).then S9;obtain⟨n9,hp9⟩:=M39.2;apply⟨ρ,ρ,ρ,ς,ρ,ρ,p,n9,4,rfl,hp9,↥0,↥0,λr Ha d0 d1 Ma=>?_⟩;have e9':=Ma.1 _ _ (eN e9 hp9 (jD ∅)) e9;obtain⟨v,ev,mv⟩:=o9 (xs:=[V.int 0,.int 1,.int x1,.int x2]) d0 (by show r<4;lia);obtain⟨wt,rfl,t1,t2⟩:∃m:Int,v= .int m∧0≤m∧m≤1000000000000:=by
  simp only[ay,bz,or_false] at mv
  rcases mv with rfl | rfl | rfl | rfl
  ·exact⟨ρ,↥0,↥0⟩
  ·exact⟨ρ,↥0,↥0⟩
  ·exact⟨ρ,⋯,⋯⟩
  ·exact⟨ρ,⋯,⋯⟩
 apply⟨B,τ,SqL.of e9',ev,(by show 3≤az;decide),λL Hb Sb eb=>?_⟩;exact k L l (l+wd) wt Hb ((M39.trans Ma).then Sb) eb ⟨⋯,⋯,⋯,⋯,t1,t2⟩
theorem scInn:cI ["_law_lines_here","_law_rows","_law_told","_law_found","_law_row","_law_k"] pzC (defScope sInn):=by trivial
theorem ok_inn (F:Fun K "_law_inner" "_law_inner" sInn f fd)(T:Nm mg)(T2:Nt mg):‹0› 1 f fd pzC spInn:=by
 specialize F.ok scInn;obtain ⟨R,R2,xs,x2,prs,rows,rfl,hR,rw_,ok,few,hR2,rw2,ok2,few2,k⟩:=h;apply ⟨_,PSl.h (bo ⟨(ps_setC (iy:=2) (fr:=[]) (js:=[]) scInn.nd rfl (.inl rfl) rfl (jk (pv 1)) ⇑0 rfl ⇑0 rfl (by exists sInn) ⇑0 rfl ⇑0 (fun _ _ _ _ _=>⟨(fe (sl_listK K) (pv 0) (fV aO) (fV aO)),(pts_one (bQ iB (fj (r:=rIxL K) bV (pv 0) aO (fun _ _=>rfl)) eS (cw _)))⟩))⟩
  (bo ⟨(psZ 3 scInn.nd (kF aA))⟩
  (bo ⟨(jg cf rfl (jk (pv 0)) (pgZ 4 scInn.nd) (bE (jg cf rfl (oM rfl T2.range (ah aO (ah (cH iq (cu cA rfl T.len bp (ah (pv 4) aA)) aO) (ah aO aA)))) (pgZ 5 scInn.nd) (bE (fG (bQ (op_notInLS hr.units) (ip (ah (fj bV (pv 4) aO (fun _ _=>rfl)) (ah (fj bV (pv 4) (pv 5) (fun _ _=>rfl)) aA))) (pv 2) rfl) (bE (hV (jR bB bK bJ gH (pv 3) (ah (ip (ah (fj bV (pv 4) aO (fun _ _=>rfl)) (ah (fj bV (pv 4) (pv 5) (fun _ _=>rfl)) aA))) aA)))) cF)))))⟩
  (gc ⟨(bR (pv 3))⟩)))),?_⟩
 try dsimp only [cxK]
 have lxs:xs.length=prs.length:=by rw[rw_.len,ae]
 have lx2:x2.length=rows.length:=by rw[rw2.len,ae]
 have big:(100000:Nat)≤az:=by decide
 apply⟨ρ,R2,rfl,⟨_,SqL.of hR2⟩,?_⟩;apply kq (K:=K) (a:=R2) (xs:=x2) (λi zs HA=>cb H HA∧∃as:List aq,zs=as.map V.ref∧as.map HA=((stz (rows.take i)).map λq=>[q.1,q.2]).map (λt=>some (HO.lst (t.map V.str)))∧zs.length≤i) ⟨cb.refl H,[],rfl,rfl,aG _⟩ (λi zs HA _ q=>?_) ⋯ (λi x zs HA hx q=>?_) (λzs HA q D hD=>?_)
 ·obtain⟨SA,as,_,_,h⟩:=q
  exact⟨SqL.of (SA _ _ hR2),h⟩
 ·obtain⟨SA,as,rfl,hA,lA⟩:=q
  have hi:i<rows.length:=by rw[←lx2];exact(ai.mp hx).1
  have hp:=gE hi;have et:rows.take (i+1)=rows.take i++[rows[i]]:=by rw[bG,hp];rfl
  have okr:=ok2 _ (cW hi);obtain ⟨a,hxa,hra⟩:=rw2.get i rows[i].rowV (by rw [aC,hp];rfl);rw [hx] at hxa;cases hxa;rw [et,show stz (rows.take i++[rows[i]])=stz (rows.take i)++(rows[i].sty2).toList by
   unfold stz;rw [eY];cases h:rows[i].sty2 <;> simp [kW,h]]
  generalize rows[i]=r at okr hra ⊢;have hra2:=SA _ _ hra;cases r with
  | beat b=>exact rQ okr id
  | line n ss rs =>
   have hra2:HA a=some (.lst (.str "line" :: .str n::jI ss rs)):=hra2;apply⟨ρ,a,τ,SqL.of hra2,aP (j:=0) rfl,rfl,ρ,jY ⇑0 ?_⟩;rw[show(PR.line n ss rs).sty2=none from rfl,ji,cz];exact⟨SA,as,rfl,hA,⋯⟩
  | oth kk ns is =>
   have hra2:HA a=some (.lst (.str kk::(ns.map V.str++is.map V.int))):=hra2;obtain⟨o1,o2,o3⟩:=okr
   by_cases hk:kk = "stay"
   ·have o3:=o3 hk
    obtain⟨n,z,rfl⟩:∃n z,ns=[n,z]:=by
     match ns,o3 with
     | [n,z],_=>exact⟨n,z,rfl⟩
    apply⟨ρ,a,τ,SqL.of hra2,aP (j:=0) rfl,rfl,ρ,nW (rR (by rw[hk])) ?_⟩;apply⟨ρ,ρ,ρ,a,ρ,SqL.of hra2,λC HB SB eB=>?_⟩;rw[show(V.str kk::(([n,z]:List Str).map V.str++is.map V.int))=V.str kk::V.str n::V.str z::is.map V.int from rfl,cut13] at eB;rw[show(PR.oth kk [n,z] is).sty2=some (n,z) from by unfold PR.sty2;exact rP hk];apply⟨SA.trans SB,as++[C],by rw[aw];rfl,?_,by rw[ao];show _+1≤_;lia⟩;rw[aw,Option.toList_some,aw,aw];congr 1
    ·rw[←hA]
     apply cJ λc hc=>?_
     have hm:HA c∈((stz (rows.take i)).map λq=>[q.1,q.2]).map (λt=>some (HO.lst (t.map V.str))):=by rw[←hA];exact cX hc
     obtain⟨t,_,e⟩:=aI.mp hm;rw[←e];exact SB _ _ e.symm
    ·show[HB C]=_
     rw[eB];rfl
   ·apply⟨ρ,a,τ,SqL.of hra2,aP (j:=0) rfl,rfl,ρ,jY (rS λz=>hk (by injection z)) ?_⟩
    have e:(PR.oth kk ns is).sty2=none:=by
     unfold PR.sty2;split
     ·next h=>cases h;exact rO hk
     ·rfl
    rw[e,ji,cz];exact⟨SA,as,rfl,hA,⋯⟩
 obtain⟨SA,as,rfl,hA,lA⟩:=q;rw[lx2,bO] at hA;have S1:cb HA (upd HA D (.lst (as.map V.ref))):=(cb.refl HA).put hD;have hD1:(upd HA D (.lst (as.map V.ref))) D=some (.lst (as.map V.ref)):=aQ;have keepT:∀{H':Hp},cb HA H'→as.map H'=((stz rows).map λq=>[q.1,q.2]).map (λt=>some (HO.lst (t.map V.str))):=λ{H'} S=>by
  rw[←hA];apply cJ λc hc=>?_
  have hm:HA c∈((stz rows).map λq=>[q.1,q.2]).map (λt=>some (HO.lst (t.map V.str))):=by rw[←hA];exact cX hc
  obtain⟨t,_,e⟩:=aI.mp hm;rw[←e];exact S _ _ e.symm
 generalize upd HA D (.lst (as.map V.ref))=H1 at S1 hD1 ⊢;apply⟨(by show 0≤az;decide),λL hL=>?_⟩;have S2:cb H1 (upd H1 L (.lst [])):=(cb.refl H1).put hL;have h2:(upd H1 L (.lst [])) L=some (.lst []):=aQ;generalize upd H1 L (.lst [])=H2 at S2 h2 ⊢;have F0:Fnd H1 H2 L (InnOk prs rows) 0:=⟨S2,[],[],h2,⟨rfl,λi r h=>by cases h⟩,(λq hq=>by cases hq),aG _⟩;have SH1:=SA.trans S1;apply⟨ρ,R,rfl,⟨_,SqL.of (S2 _ _ (SH1 _ _ hR))⟩,?_⟩;apply lF (K:=K) (a:=R) (xs:=xs) (λi σ HB=>Fnd H1 HB L (InnOk prs rows) (10 * i)∧∃v4 v5,σ=[some (.ref R),some (.ref R2),some (.ref D),some (.ref L),v4,v5])
  ⟨F0,none,none,rfl⟩ (λi σ HB _ q=>SqL.of (q.1.S _ _ (SH1 _ _ hR))) ?_ ?_
 ·rintro i x σ HB hx ⟨FB,v4,v5,rfl⟩
  have hi:i<prs.length:=by rw[←lxs];exact(ai.mp hx).1
  have hp:=gE hi;have okr:=ok _ (cW hi);obtain⟨a,hxa,hra⟩:=rw_.get i prs[i].rowV (by rw[aC,hp];rfl);rw[hx] at hxa;cases hxa;generalize prs[i]=r at okr hra hp;cases r with
  | beat b=>exact rQ okr id
  | oth kk ns is=>exact rQ okr id
  | line m ss rs =>
   have xin:=lsC_at hp;obtain⟨_,o2,nd,o4,o5,o6,_⟩:=okr;have hra1:H1 a=some (.lst (.str "line" :: .str m::jI ss rs)):=SH1 _ _ hra;have lrow:(V.str "line" :: .str m::jI ss rs).length=2 * ss.length+1:=by rw[av,av,ko o6];lia
   apply⟨ρ,a,ρ,.inl (SqL.of (FB.S _ _ hra1)),ς,4,ρ,⟨↥0,↥0,by rw[lrow];lia,by rw[lrow];lia⟩,?_⟩;have en:(((((V.str "line" :: .str m::jI ss rs).length:Nat):Int) - 2) - 4+1) / 2=((ss.length - 2:Nat):Int):=by rw[lrow];lia
   rw[en,ff];apply nP (lo:=4) (n:=ss.length - 2) (λj σ HC=>Fnd H1 HC L (InnOk prs rows) (10 * i+j)∧∃v5,σ=[some (.ref R),some (.ref R2),some (.ref D),some (.ref L),some (.ref a),v5])
    ⟨FB,_,rfl⟩ ?_ ?_
   ·rintro j σ HC hj ⟨FC,v5,rfl⟩
    obtain⟨s1,hs1⟩:∃s,ss[j+1]? =some s:=⟨_,gE ⋯⟩;have g1:atI (V.str "line" :: .str m::jI ss rs) ((4:Int)+(j:Nat) * 2)=some (.str s1):=by
     rw[show(4:Int)+(j:Nat) * 2=((2 * (j+1)+1+1:Nat):Int) by lia];exact aP (by rw[aZ,aZ,pT (j+1) o6,hs1];rfl)
    have hraC:=FC.S _ _ hra1;apply⟨ρ,a,τ,SqL.of hraC,aP (j:=1) rfl,ρ,ρ,a,τ,SqL.of hraC,g1,szZ2,λB HD SD eD=>?_⟩;have FD:=FC.same SD (aG _);have SAD:cb HA HD:=S1.trans FD.S;apply⟨ρ,B,D,[m,s1],as,ρ,rfl,eD,FD.S _ _ hD1,keepT SAD,(λt ht=>by obtain⟨q,_,rfl⟩:=aI.mp ht;rfl),ρ,kJ (λc=>?_) (λc=>?_)⟩
    ·have c:¬([m,s1]∈(stz rows).map λq=>[q.1,q.2]):=λz=>by
      rw[rR z] at c;cases c
     have hraD:=FD.S _ _ hra1;obtain⟨ys,qs,hLD,_⟩:=FD.ex;apply⟨ρ,.inl ⟨rfl,_,SqL.of hLD⟩,ρ,a,τ,SqL.of hraD,aP (j:=1) rfl,ρ,ρ,a,τ,SqL.of hraD,g1,szZ2,λB2 HE SE eE=>?_⟩;obtain⟨ys2,hLE,lz,FF⟩:=FD.app (m:=10 * i+(j+1)) hL SE (z:=m) (t:=[s1]) eE ⟨_,s1,j+1,xin,rfl,hs1,⋯,by show j+1+1<ss.length;lia,λz=>c (aI.mpr ⟨_,z,rfl⟩)⟩ ⋯ ⋯;exact⟨L,ys2,ρ,rfl,hLE,lz,FF,ρ⟩
    ·exact⟨FD.same (cb.refl _) ⋯,ρ⟩
   ·rintro σ HC ⟨FC,v5,rfl⟩
    exact⟨FC.same (cb.refl _) ⋯,_,ρ⟩
 ·rintro σ HB ⟨FB,v4,v5,rfl⟩
  obtain⟨ys,qs,h1,h2,h3,h4⟩:=FB.ex;exact⟨ρ,k L ys qs HB (SH1.trans FB.S) h1 h2 h3 ⋯⟩
abbrev sPrs:c8:=top 98
theorem rM.go {n:Str}{c g:Option Int}(h:rM prs n z c g)(hg:g.isNone=false):∃x∈lsC prs,∃i:Nat,x.n=n∧x.ss[i]? =some z∧i+1<x.ss.length:=by
 rcases h with ⟨x,hx,i,e1,e2,e3,e4⟩ | ⟨_,_,e⟩
 ·exact⟨x,hx,i,e1,e2,oI_some (by rw[←e4];exact hg)⟩
 ·rw[e] at hg;cases hg
theorem rM.come {n:Str}{c g:Option Int}(h:rM prs n z c g)(hg:c.isNone=false):∃x∈lsC prs,∃i:Nat,x.n=n∧x.ss[i]? =some z∧1≤i:=by
 rcases h with ⟨x,hx,i,e1,e2,e3,e4⟩ | ⟨_,e,_⟩
 ·exact⟨x,hx,i,e1,e2,oI_some (c:=0<i) (by rw[←e3];exact hg)⟩
 ·rw[e] at hg;cases hg
theorem nam_ne (h:nam z=true):z≠("" :Str):=λe=>by
 have:=(pF h).1;rw[e] at this;revert this;decide +kernel
def nxt (ss:List Str)(j:Nat):Str:=(ss[j+1]?).getD ""
theorem nxt_at {m:Str}{rs:List Int}(o6:ss.length=rs.length+1)(hj:j<ss.length):atI ((V.str "line" :: .str m::jI ss rs)++[.str "",.str ""]) ((2:Int)+(j:Nat) * 2+2)=some (.str (nxt ss j)):=by
 have li:(jI ss rs).length=2 * ss.length - 1:=ko o6;rw[show(2:Int)+(j:Nat) * 2+2=((2 * (j+1)+1+1:Nat):Int) by lia];apply aP ?_;unfold nxt
 by_cases c:j+1<ss.length
 ·rw[bI (by simp only[av];lia),aZ,aZ,pT (j+1) o6,gE c]
  rfl
 ·have e:j+1=ss.length:=by lia
  rw[bc (by simp only[av];lia),e,gb (aG _)];have:2 * ss.length+1+1 - (V.str "line" :: .str m::jI ss rs).length=1:=by simp only[av];lia
  rw[this];rfl
theorem scPrs:cI ["_law_rows","_law_kind","_law_found","_law_one","_law_other","_law_k","_law_first","_law_there"] pzD (defScope sPrs):=by trivial
theorem ok_prs {fE fR:aq}{dE dR:aT}(F:Fun K "_law_pairs" "_law_pairs" sPrs f fd)(T:Nm mg)(T2:Nt mg)(hint:mg "int" =none)(GE:Fn K mg "_law_ends" sEndW pzs fE dE)(FE:‹0› 1 fE dE pzs spEndW)
  (GR:Fn K mg "_law_ride" sRidW pzn fR dR) (FR:‹0› 1 fR dR pzn spRidW):‹0› 2 f fd pzD spPrs:=by
 specialize F.ok scPrs;obtain ⟨R,xs,prs,kd,rfl,hR,rw_,ok,few,hkd,k⟩:=h;have hr1:kA 1 _:=hr;apply ⟨_,PSl.h (bo ⟨(psZ 2 scPrs.nd (kF aA))⟩
  (bo ⟨(jg cf rfl (jk (pv 0)) (pgZ 3 scPrs.nd) (bE (jg cf rfl (jk (pv 0)) (pgZ 4 scPrs.nd) (bE (fG (bQ rb (fj bV (pv 3) aO (fun _ _=>rfl)) (fj bV (pv 4) aO (fun _ _=>rfl)) (cw _)) (bE (jg cf rfl (oM rfl T2.range (ah aO (ah (cu cA rfl T.len bp (ah (pv 3) aA)) (ah aO aA)))) (pgZ 5 scPrs.nd) (PSl.h (bo ⟨(psZ 6 scPrs.nd (fj bV (pc1 GE FE hr1 (ah (pv 0) (ah (fj bV (pv 3) aO (fun _ _=>rfl)) (ah (fj bV (pv 3) (pv 5) (fun _ _=>rfl)) aA)))) (gk oY rfl hint boot_int (ah (jQ iB (pv 1) eS (cw _)) aA)) (fun _ _=>rfl)))⟩
  (bo ⟨(ps_cutK (fG (PW.pt (oJ (bQ rb (pv 1) eS (cw _)) (mG (bQ op_notIn_seq iJ (ip (ah (pv 6) (ah (fj bV (pc1 GE FE hr1 (ah (pv 0) (ah (fj bV (pv 4) aO (fun _ _=>rfl)) (ah (fj bV (pv 3) (pv 5) (fun _ _=>rfl)) aA)))) aO (fun _ _=>rfl)) aA))) rfl)))) (bE (hV (jR bB bK bJ gH (pv 2) (ah (PEs.h (pH (eM (k_ix bV ⟨pv 3⟩ jJ (fun _ _=>rfl)) (eM (k_ix bV ⟨pv 4⟩ jJ (fun _ _=>rfl)) (eM (k_ix bV ⟨pv 3⟩ ⟨pv 5⟩ (fun _ _=>rfl)) pd))))) aA)))) cF))⟩
  (bo ⟨(psZ 7 scPrs.nd (fj bV (cH iY (pv 3) (ip (ah eS (ah eS aA)))) (cH fz (pv 5) aO) (fun _ _=>rfl)))⟩
  (gc ⟨(fG (PW.pt (oJ (bQ iB (pv 1) eS (cw _)) (mG (bQ op_notN (pc1 GR FR hr1 (ah (pv 0) (ah (fj bV (pv 4) aO (fun _ _=>rfl)) (ah (pv 7) (ah (fj bV (pv 3) (pv 5) (fun _ _=>rfl)) aA))))) iJ (cw _))))) (bE (hV (jR bB bK bJ gH (pv 2) (ah (PEs.h (pH (eM (k_ix bV ⟨pv 3⟩ jJ (fun _ _=>rfl)) (eM (k_ix bV ⟨pv 4⟩ jJ (fun _ _=>rfl)) (eM (k_ix bV ⟨pv 3⟩ ⟨pv 5⟩ (fun _ _=>rfl)) (eM ⟨pv 7⟩ pd)))))) aA)))) cF)⟩))))))) cF)))))⟩
  (gc ⟨(bR (pv 2))⟩))),?_⟩
 try dsimp only [cxK]
 have lxs:xs.length=prs.length:=by rw[rw_.len,ae]
 have big:(1000:Nat)≤az:=by decide
 have okE:∀r∈prs,r.okE:=λr hr=>lnOk_E (ok r hr)
 apply⟨(by show 0≤az;decide),λL hL=>?_⟩;have S2:cb H (upd H L (.lst [])):=(cb.refl H).put hL;have h2:(upd H L (.lst [])) L=some (.lst []):=aQ;generalize upd H L (.lst [])=H2 at S2 h2 ⊢;have F0:Fnd H H2 L (pW prs kd) 0:=⟨S2,[],[],h2,⟨rfl,λi r h=>by cases h⟩,(λq hq=>by cases hq),aG _⟩;apply⟨ρ,R,rfl,⟨_,SqL.of (S2 _ _ hR)⟩,?_⟩
 let pZ1:Nat→L2.St→L2.Hp→Prop:=λi σ HB=>Fnd H HB L (pW prs kd) (310 * i)∧∃v3 v4 v5 v6 v7,σ=[some (.ref R),some (.str kd),some (.ref L),v3,v4,v5,v6,v7]
 apply lF (K:=K) (a:=R) (xs:=xs) pZ1
  ⟨F0,none,none,none,none,none,rfl⟩ (λi σ HB _ q=>SqL.of (q.1.S _ _ hR)) ?_ ?_
 ·rintro i x σ HB hx ⟨FB,v3,v4,v5,v6,v7,rfl⟩
  have hi:i<prs.length:=by rw[←lxs];exact(ai.mp hx).1
  have hp:=gE hi;have okr:=ok _ (cW hi);obtain⟨a,hxa,hra⟩:=rw_.get i prs[i].rowV (by rw[aC,hp];rfl);rw[hx] at hxa;cases hxa;generalize prs[i]=r at okr hra hp;cases r with
  | beat b=>exact rQ okr id
  | oth kk ns is=>exact rQ okr id
  | line m ss rs =>
   have xin:=lsC_at hp;obtain⟨_,o2,nd,o4,o5,o6,_⟩:=okr;have hra:H a=some (.lst (.str "line" :: .str m::jI ss rs)):=hra;have lrow:(V.str "line" :: .str m::jI ss rs).length=2 * ss.length+1:=by rw[av,av,ko o6];lia
   apply⟨ρ,R,rfl,⟨_,SqL.of (FB.S _ _ hR)⟩,?_⟩
   let pZ3:Nat→L2.St→L2.Hp→Prop:=λj σ HB=>Fnd H HB L (pW prs kd) (310 * i+10 * j)∧∃v4 v5 v6 v7,σ=[some (.ref R),some (.str kd),some (.ref L),some (.ref a),v4,v5,v6,v7]
   apply lF (K:=K) (a:=R) (xs:=xs) pZ3
    ⟨FB,_,_,_,_,rfl⟩ (λi σ HB _ q=>SqL.of (q.1.S _ _ hR)) ?_ ?_
   ·rintro j x σ HB hx2 ⟨FB,v4,v5,v6,v7,rfl⟩
    have hj:j<prs.length:=by rw[←lxs];exact(ai.mp hx2).1
    have hp2:=gE hj;have okr2:=ok _ (cW hj);obtain⟨b,hxb,hrb⟩:=rw_.get j prs[j].rowV (by rw[aC,hp2];rfl);rw[hx2] at hxb;cases hxb;generalize prs[j]=r at okr2 hrb hp2;cases r with
    | beat b=>exact rQ okr2 id
    | oth kk ns is=>exact rQ okr2 id
    | line m2 ss2 rs2 =>
     have hrb:H b=some (.lst (.str "line" :: .str m2::jI ss2 rs2)):=hrb;apply⟨ρ,a,τ,SqL.of (FB.S _ _ hra),aP (j:=1) rfl,ρ,b,τ,SqL.of (FB.S _ _ hrb),aP (j:=1) rfl,rfl,ρ,kJ (λc=>?_) (λc=>?_)⟩
     rotate_left
     ·exact⟨FB.same (cb.refl _) ⋯,_,_,_,ρ⟩
     have ne:m≠m2:=λz=>by
      have c:(!decide (V.str m=V.str m2))=true:=c;rw[z,rR rfl] at c;cases c
     apply⟨ρ,a,ρ,.inl (SqL.of (FB.S _ _ hra)),2,ρ,⟨↥0,↥0,by rw[lrow];lia,by rw[lrow];lia⟩,?_⟩;have en:((((V.str "line" :: .str m::jI ss rs).length:Nat):Int) - 2+1) / 2=(ss.length:Int):=by rw[lrow];lia
     rw[en,ff]
     let pZ5:Nat→L2.St→L2.Hp→Prop:=λq σ HC=>Fnd H HC L (pW prs kd) (310 * i+10 * j+2 * q)∧∃v5 v6 v7,σ=[some (.ref R),some (.str kd),some (.ref L),some (.ref a),some (.ref b),v5,v6,v7]
     apply nP (lo:=2) (n:=ss.length) pZ5
      ⟨FB,_,_,_,rfl⟩ ?_ ?_
     ·rintro q σ HC hq ⟨FC,v5,v6,v7,rfl⟩
      have bnd:310 * i+10 * j+2 * (q+1)≤10000:=by lia
      obtain⟨s1,hs1⟩:∃s,ss[q]? =some s:=⟨_,gE ⋯⟩;have g1:atI (V.str "line" :: .str m::jI ss rs) ((2:Int)+(q:Nat) * 2)=some (.str s1):=by
       rw[show(2:Int)+(q:Nat) * 2=((2 * q+1+1:Nat):Int) by lia];exact aP (by rw[aZ,aZ,pT q o6,hs1];rfl)
      apply⟨ρ,ρ,a,τ,SqL.of (FC.S _ _ hra),aP (j:=1) rfl,ρ,ρ,a,τ,SqL.of (FC.S _ _ hra),g1,R,xs,prs,m,s1,rfl,FC.S _ _ hR,rw_.same FC.S,okE,⋯,λE1 c1 g H5 S5 e5 en1=>?_⟩;have F5:=FC.same S5 (aG _);apply⟨ρ,rfl,.inr ⟨ρ,E1,_,_,oV (if kd = "apart" then g else c1),rfl,rfl,SqL.of e5,?_,?_⟩⟩
      ·by_cases z:kd = "apart"
       ·rw[rP z,rR (by rw[z])];rfl
       ·rw[rO z,rS λy=>z (by injection y)];rfl
      generalize hfi:(if kd = "apart" then g else c1)=fi;apply⟨λσ' H'=>Fnd H H' L (pW prs kd) (310 * i+10 * j+2 * q+1)∧σ'=[some (.ref R),some (.str kd),some (.ref L),some (.ref a),some (.ref b),some (.int ((2:Int)+(q:Nat) * 2)),some (oV fi),v7],λσ' H6 qq=>?_,?_⟩
      rotate_left
      ·apply⟨ρ,rfl,ρ,kJ (λc2=>?_) (λc2=>?_)⟩
       rotate_left
       ·exact⟨F5.same (cb.refl _) ⋯,rfl⟩
       have nm:kd ≠ "meet" := λz=>by
        have c2:(!decide (V.str kd=V.str "meet"))=true:=c2;rw[z,rR rfl] at c2;cases c2
       apply⟨ρ,ρ,ρ,b,τ,SqL.of (F5.S _ _ hrb),aP (j:=1) rfl,ρ,ρ,a,τ,SqL.of (F5.S _ _ hra),g1,R,xs,prs,m2,s1,rfl,F5.S _ _ hR,rw_.same F5.S,okE,⋯,λE2 c3 g2 H6 S6 e6 en2=>?_⟩;have F6:=F5.same S6 (aG _);apply⟨E2,τ,SqL.of e6,aP (j:=1) rfl,szZ2,λB H7 S7 e7=>?_⟩;have F7:=F6.same S7 (aG _);apply⟨B,ρ,.inl (SqL.of e7),rfl,(by show(pK (oV fi) && (pK (oV g2) && true))=true;rw[flat_oV,flat_oV];rfl),ρ,kJ (λc4=>?_) (λc4=>?_)⟩
       rotate_left
       ·exact⟨F7.same (cb.refl _) ⋯,rfl⟩
       have c4:(!inV .non [oV fi,oV g2])=true:=c4;rw[inV_non] at c4;obtain⟨c5,c6⟩:fi.isNone=false∧g2.isNone=false:=by
        cases hf:fi.isNone <;> cases hg:g2.isNone <;> rw[hf,hg] at c4 <;> first | exact⟨rfl,rfl⟩ | cases c4
       obtain⟨y,hy,jy,y1,y2,y3⟩:=en2.go c6;have pk:pW prs kd [m,m2,s1]:=by
        by_cases z:kd = "apart"
        ·rw[rP z] at hfi
         obtain⟨x,hx,ix,x1,x2,x3⟩:=en1.go (by rw[hfi];exact c5);apply⟨x,y,hx,hy,by rw[x1,y1];exact ne,?_⟩;rw[z,←x1,←y1];exact .apart x2 x3 y2 y3
        ·rw[rO z] at hfi
         have z2:kd = "change" := by
          rcases hkd with h | h | h
          ·exact h
          ·exact rQ h z
          ·exact rQ h nm
         obtain⟨x,hx,ix,x1,x2,x3⟩:=en1.come (by rw[hfi];exact c5);apply⟨x,y,hx,hy,by rw[x1,y1];exact ne,?_⟩;rw[z2,←x1,←y1];exact .change x2 x3 y2 y3
       obtain⟨ys,qs,hL7,_⟩:=F7.ex;apply⟨ρ,.inl ⟨rfl,_,SqL.of hL7⟩,ρ,a,τ,SqL.of (F7.S _ _ hra),aP (j:=1) rfl,ρ,b,τ,SqL.of (F7.S _ _ hrb),aP (j:=1) rfl,ρ,ρ,a,τ,SqL.of (F7.S _ _ hra),g1,(by show 3≤az;decide),λB2 H8 S8 e8=>?_⟩;obtain⟨ys2,hLE,lz,FF⟩:=F7.app (m:=310 * i+10 * j+2 * q+1) hL S8 (z:=m) (t:=[m2,s1]) e8 pk ⋯ ⋯;exact⟨L,ys2,ρ,rfl,hLE,lz,FF,rfl⟩
      obtain⟨F6,rfl⟩:=qq;apply⟨ρ,szZ2,λC H7 S7 e7=>?_⟩;have F7:=F6.same S7 (aG _);apply⟨a,C,ς,F7.S _ _ hra,e7,(by rw[lrow];show 2 * ss.length+1+2≤az;lia),λD H8 S8 e8=>?_⟩;have F8:=F7.same S8 (aG _);apply⟨ρ,ς,D,τ,SqL.of e8,nxt_at o6 hq,?_⟩;apply⟨ρ,rfl,ρ,kJ (λc2=>?_) (λc2=>?_)⟩
      rotate_left
      ·exact⟨F8.same (cb.refl _) ⋯,_,_,ρ⟩
      have c2:kd = "meet" := by have:=rT c2;injection this
      apply⟨ρ,ρ,b,τ,SqL.of (F8.S _ _ hrb),aP (j:=1) rfl,ρ,ρ,ρ,a,τ,SqL.of (F8.S _ _ hra),g1,R,xs,prs,m2,nxt ss q,s1,rfl,F8.S _ _ hR,rw_.same F8.S,okE,⋯,λo H9 S9 rd=>?_⟩;have F9:=F8.same S9 (aG _);apply⟨rfl,ρ,kJ (λc3=>?_) (λc3=>?_)⟩
      rotate_left
      ·exact⟨F9.same (cb.refl _) ⋯,_,_,ρ⟩
      have c3:(!decide (oV o=V.non))=true:=c3;rw[oV_non] at c3;have pk:pW prs kd [m,m2,s1,nxt ss q]:=by
       rcases rd with ⟨y,hy,jy,u,y1,y2,y3,y4,y5⟩ | ⟨_,e⟩
       ·have ny:nam (nxt ss q)=true:=by
         obtain⟨iy,hiy⟩:=cE (lsC_mem hy).1;exact(ok _ (aD hiy)).2.1 _ (aD y2)
        have hq1:q+1<ss.length:=by
         by_cases c:q+1<ss.length
         ·exact c
         ·apply rQ ?_ (nam_ne ny)
          unfold nxt;rw[gb ⋯];rfl
        obtain⟨r1,hr1⟩:∃r,rs[q]? =some r:=⟨_,gE ⋯⟩;have hn:ss[q+1]? =some (nxt ss q):=by unfold nxt;rw[gE hq1];rfl
        apply⟨_,y,xin,hy,by rw[y1];exact ne,?_⟩;rw[c2,←y1];exact .meet (x:=⟨m,ss,rs,[],jK (lsC (prs.take i))⟩) hs1 hn hr1 y2 y3 y4
       ·rw[e] at c3;cases c3
      obtain⟨ys,qs,hL9,_⟩:=F9.ex;apply⟨ρ,.inl ⟨rfl,_,SqL.of hL9⟩,ρ,a,τ,SqL.of (F9.S _ _ hra),aP (j:=1) rfl,ρ,b,τ,SqL.of (F9.S _ _ hrb),aP (j:=1) rfl,ρ,ρ,a,τ,SqL.of (F9.S _ _ hra),g1,ρ,szZ4,λB2 Ha Sa ea=>?_⟩;obtain⟨ys2,hLE,lz,FF⟩:=F9.app (m:=310 * i+10 * j+2 * (q+1)) hL Sa (z:=m) (t:=[m2,s1,nxt ss q]) ea pk ⋯ ⋯;exact⟨L,ys2,ρ,rfl,hLE,lz,FF,_,_,ρ⟩
     ·rintro σ HC ⟨FC,v5,v6,v7,rfl⟩
      exact⟨FC.same (cb.refl _) ⋯,_,_,_,ρ⟩
   ·rintro σ HB ⟨FB,v4,v5,v6,v7,rfl⟩
    exact⟨FB.same (cb.refl _) (by rw[lxs];lia),_,_,_,_,ρ⟩
 ·rintro σ HB ⟨FB,v3,v4,v5,v6,v7,rfl⟩
  obtain⟨ys,qs,h1,h2,h3,h4⟩:=FB.ex;exact⟨ρ,k L ys qs HB FB.S h1 h2 h3 ⋯⟩
abbrev sMor:c8:=top 100
def MoreOk (b:Int)(prs rows:List PR):PR→Prop
 | .oth k ns is=>(k = "stay" ∧∃(x:Ln) (z:Str) (l o w:Int) (i:Nat),x∈lsC prs∧ns=[x.n,z]∧is=[l,o,w]∧x.ss[i]? =some z∧1≤i∧i+1<x.ss.length∧(x.n,z) ∉ stz rows∧NumOk b l o w)∨(k ≠ "stay" ∧BwOk b prs k ns is)
 | _=>False
inductive spMor (vs:List V)(H:Hp)(Q:VK)(_:XK):Prop
 | mk (p:aq)(n b:Int)(R R2:aq)(xs x2:List V)(prs rows:List PR)(_:vs=[.ref p,.int b,.ref R,.ref R2])(_:H p=some (.lst [.int n]))(_:(1≤b∧b≤10 ^ 30))(_:H R=some (.lst xs))(_:kO H xs (prs.map PR.rowV))(_:qW prs)(_:H R2=some (.lst x2))(_:kO H x2 (rows.map PR.rowV))(_:(∀r∈rows,r.okI))(_:rows.length≤100)(_:(∀H',Mv p H H'→Q .non H'))(_:∀(L:aq) (r:PR) (H':Hp),Mv p H H'→H' L=some (.lst r.rowV)→MoreOk b prs rows r→Q (.ref L) H')
theorem okI_two (h:r.okI):2≤r.rowV.length:=by
 cases r with
 | line n ss rs=>exact rowV_two h
 | beat b=>exact rQ h id
 | oth k ns is =>
  obtain⟨_,h2,_⟩:=h;show 2≤(ns.map V.str++is.map V.int).length+1;rw[ao,ae];lia
theorem nm_one (nd:(ls.map (·.n)).Nodup){x y:Ln}(hx:x∈ls)(hy:y∈ls)(e:x.n=y.n):x=y:=by
 obtain⟨i,hi⟩:=cE hx;obtain⟨j,hj⟩:=cE hy;have h1:(ls.map (·.n))[i]? =some x.n:=by rw[aC,hi];rfl
 have h2:(ls.map (·.n))[j]? =some x.n:=by rw[aC,hj,e];rfl
 have:=kH nd h1 h2;subst this;rw[hi] at hj;exact bU hj
theorem Ride.of (L:qW prs){x:Ln}{y:Str}{r:Int}{o:Option Int}(hx:x∈lsC prs)(h1:x.ss[i]? =some z)(h2:x.ss[i+1]? =some y)(h3:x.rs[i]? =some r)(R:Ride prs x.n z y o):o=some r:=by
 rcases R with ⟨x',hx',i',r',e1,e2,e3,e4,e5⟩ | ⟨no,_⟩
 ·have ex:=nm_one (L.rows 1).nd hx' hx e1
  subst ex;have nd:x'.ss.Nodup:=((L.rows 1).lnOk hx').2.2.1;have:=kH nd e2 h1;subst this;rw[e4] at h3;rw[e5,h3]
 ·exact rQ h2 (no x hx rfl i h1)
theorem ride_bd (L:qW prs){x:Ln}{r:Int}(hx:x∈lsC prs)(h:x.rs[i]? =some r):0≤r∧r<10 ^ 60:=((L.rows 1).lnOk hx).2.2.2.2.2.2 r (aD h)
theorem lst_si {s:Str}{n:Int}:HO.lst [.str s]≠HO.lst [.int n]:=λz=>by injection z with z;injection z with z;cases z
theorem scMor:cI ["_law_pot_here","_law_beat","_law_lines_here","_law_rows","_law_kind","_law_inner_here","_law_some","_law_row","_law_room","_law_gap"] pzt (defScope sMor):=by trivial
theorem ok_mor {fT fI fS fP fR:aq}{dT dI dS dP dR:aT}(F:Fun K "_law_more_row" "_law_more_row" sMor f fd)(T:Nm mg)(T2:Nt mg)(GT:Fn K mg "_law_take" qx pze fT dT)
  (GI:Fn K mg "_law_inner" sInn pzC fI dI) (FI:‹0› 1 fI dI pzC spInn)
  (GS:Fn K mg "_law_span_words" sSpw pzB fS dS) (FS:‹0› 2 fS dS pzB spSpw)
  (GP:Fn K mg "_law_pairs" sPrs pzD fP dP) (FP:‹0› 2 fP dP pzD spPrs)
  (GR:Fn K mg "_law_ride" sRidW pzn fR dR) (FR:‹0› 1 fR dR pzn spRidW):‹0› 3 f fd pzt spMor:=by
 have FT:‹0› 1 fT dT pze oa:=mI GT.F;specialize F.ok scMor;obtain ⟨p,n,b,R,R2,xs,x2,prs,rows,rfl,hp,⟨b1,b2⟩,hR,rw_,lok,hR2,rw2,ok2,few2,kN,kR⟩:=h;have hr1:kA 1 _:=hr.mono ↥0;have hr2:kA 2 _:=hr;apply exw_of (bo (tw_set (i:=4) scMor.nd rfl (.inl rfl) (k_ix bV (pH (eM k_str (eM k_str (eM k_str (eM k_str (eM k_str (eM k_str pd))))))) ⟨pc1 GT FT hr1 (ah (pv 0) (ah aO aA))⟩ (fun _ _=>rfl)))
  (bo (tw_if (bQ iB (pv 4) eS (cw _)) (bo ⟨(psZ 5 scMor.nd (pc1 GI FI hr1 (ah (pv 2) (ah (pv 3) aA))))⟩
  (bo (tw_if (bQ (op_eqL0 hr.units0) (pv 5) (ip aA) (cw _)) (gc ⟨(bR iJ)⟩) rH)
  (gc ⟨(bR (cH iY (cH iY (ip (ah eS aA)) (fj bV (pv 5) (pc1 GT FT hr1 (ah (pv 0) (ah (cu cA rfl T.len bp (ah (pv 5) aA)) aA))) (fun _ _=>rfl))) (pc1 GS FS hr2 (ah (pv 0) (ah (pv 1) aA)))))⟩))) rH)
  (bo ⟨(psZ 6 scMor.nd (pc1 GP FP hr2 (ah (pv 2) (ah (pv 4) aA))))⟩
  (bo (tw_if (bQ (op_eqL0 hr.units0) (pv 6) (ip aA) (cw _)) (gc ⟨(bR iJ)⟩) rH)
  (bo ⟨(psZ 7 scMor.nd (cH iY (ip (ah (pv 4) aA)) (fj bV (pv 6) (pc1 GT FT hr1 (ah (pv 0) (ah (cu cA rfl T.len bp (ah (pv 6) aA)) aA))) (fun _ _=>rfl))))⟩
  (bo (tw_if (bQ iB (pv 4) eS (cw _)) (gc ⟨(bR (cH iY (pv 7) (pc1 GS FS hr2 (ah (pv 0) (ah (pv 1) aA)))))⟩) rH)
  (bo ⟨(psZ 8 scMor.nd (pv 1))⟩
  (bo (tw_if (bQ iB (pv 4) eS (cw _)) (bo ⟨(psZ 8 scMor.nd (cH iq (pv 1) (pc1 GR FR hr1 (ah (pv 2) (ah (fj bV (pv 7) aO (fun _ _=>rfl)) (ah (fj bV (pv 7) aO (fun _ _=>rfl)) (ah (fj bV (pv 7) aO (fun _ _=>rfl)) aA)))))))⟩
  (gc ⟨(psZ 8 scMor.nd (cH iq (pv 8) (pc1 GR FR hr1 (ah (pv 2) (ah (fj bV (pv 7) aO (fun _ _=>rfl)) (ah (fj bV (pv 7) aO (fun _ _=>rfl)) (ah (fj bV (pv 7) aO (fun _ _=>rfl)) aA)))))))⟩)) rH)
  (bo ⟨(psZ 9 scMor.nd (pc1 GT FT hr1 (ah (pv 0) (ah (cu (call_max2 rfl) rfl T2.max boot_max (ah aO (ah (cH fz (cH op_fdiv (pv 8) aO) aO) aA))) aA))))⟩
  (bo (tw_if (PW.pt (mS (bQ op_lt (pv 8) (cH kG aO (pv 9)) (cw _)) (lK (bQ op_ge (cH iq (pv 8) (cH kG aO (pv 9))) (pv 1) (cw _))))) (gc ⟨(bR iJ)⟩) rH)
  (gc ⟨(bR (cH iY (pv 7) (ip (ah (pv 9) aA))))⟩))))))))))) ?_
 try dsimp only [cxK]
 have big:(100000:Nat)≤az:=by decide
 have two:∀r∈prs.map PR.rowV,2≤r.length:=λr hr=>by
  obtain⟨q,hq,rfl⟩:=aI.mp hr;exact rowV_two (lok.ok q hq)
 have two2:∀r∈rows.map PR.rowV,2≤r.length:=λr hr=>by
  obtain⟨q,hq,rfl⟩:=aI.mp hr;exact okI_two (ok2 q hq)
 have nR:=rw_.nep hp hR;have nR2:=rw2.nep hp hR2;have okE:∀r∈prs,r.okE:=λr hr=>lnOk_E (lok.ok r hr)
 have fewp:=lok.few;have gets:∀{H':Hp},Mv p H H'→H' R=some (.lst xs)∧kO H' xs (prs.map PR.rowV)∧H' R2=some (.lst x2)∧kO H' x2 (rows.map PR.rowV):=λM=>⟨M.1 _ _ nR hR,rw_.mv M hp two,M.1 _ _ nR2 hR2,rw2.mv M hp two2⟩
 apply⟨(by show 6≤az;decide),λB H1 S1 e1=>?_⟩;have M1:Mv p H H1:=Mv.of S1 (S1 _ _ hp);apply⟨ρ,p,n,6,rfl,S1 _ _ hp,↥0,↥0,λr H2 a0 a1 M2'=>?_⟩;have e2:=M2'.1 _ _ (eN e1 (S1 _ _ hp) (jD ∅)) e1;have M2:=M1.trans M2';obtain⟨v,ev,mv⟩:=o9 (xs:=[V.str "stay",.str "change",.str "apart",.str "meet",.str "change",.str "stay"]) a0 (by show r<6;lia);obtain⟨kd,rfl,hkd⟩:∃kd:Str,v= .str kd∧(kd = "stay" ∨kd = "change" ∨kd = "apart" ∨kd = "meet"):=by
  simp only[ay,bz,or_false] at mv
  rcases mv with rfl | rfl | rfl | rfl | rfl | rfl <;> exact⟨ρ,∅⟩
 apply⟨B,τ,SqL.of e2,ev,?_⟩;obtain⟨n2,hp2⟩:=M2.2;obtain⟨gR,gw,gR2,gw2⟩:=gets M2;apply⟨ρ,rfl,ρ,kJ (λc1=>?_) (λc1=>?_)⟩
 ·apply⟨ρ,ρ,R,R2,xs,x2,prs,rows,rfl,gR,gw,lok.ok,lok.few,gR2,gw2,ok2,few2,λL ys qs H3 S3 e3 rw3 ok3 l3=>?_⟩
  apply⟨ρ,(by show 0≤az;decide),λEm H4 S4 e4=>?_⟩;have M4:Mv p H H4:=M2.then (S3.trans S4);apply⟨L,Em,ys,rfl,rfl,SqL.of (S4 _ _ e3),SqL.of e4,ρ,kJ (λ_=>kN H4 M4) (λc2=>?_)⟩;have ly:ys.length=qs.length:=by rw[rw3.len,ae]
  have ne:0<ys.length:=by
   cases ys with
   | nil=>exact rQ rfl c2
   | cons _ _=>simp
  apply⟨szZ1,λC H5 S5 e5=>?_⟩;have M5:=M4.then S5;obtain⟨n5,hp5⟩:=M5.2;have rw5:=rw3.same (S4.trans S5);have e35:=(S4.trans S5) _ _ e3;have nL:=rw5.nep hp5 e35;apply⟨ρ,ρ,ρ,L,ρ,.inl (SqL.of e35),p,n5,ρ,hp5,(by show(0:Int)<(ys.length:Int);lia),(by show(ys.length:Int)<10 ^ 61;lia),λr6 H6 c60 c61 M6'=>?_⟩;obtain⟨j,rfl⟩:=dz c60;have c61:(j:Int)<(ys.length:Int):=c61;have hj:j<qs.length:=by lia
  have M6:=M5.trans M6';obtain⟨x,z,i,hx,eq,x1,x2,x3,x4⟩:=ok3 _ (cW hj);obtain⟨a,hya,hra⟩:=rw5.get j (qs[j].map V.str) (by rw[aC,gE hj];rfl);rw[eq] at hra;have hra6:=M6'.1 _ _ (eN hra hp5 (jD ∅)) hra;have e56:=M6'.1 _ _ (eN e5 hp5 lst_si) e5;apply⟨L,τ,SqL.of (M6'.1 _ _ nL e35),aP hya,C,a,ς,e56,hra6,(by show 1+2≤az;lia),λD H7 S7 e7=>?_⟩;have M7:=M6.then S7;obtain⟨n7,hp7⟩:=M7.2;apply⟨ρ,ρ,p,n7,b,rfl,hp7,b1,b2,λE2 l o wt H8 M8' e8 num=>?_⟩;have e78:=M8'.1 _ _ (eN e7 hp7 (jD ∅)) e7;apply⟨D,E2,ς,e78,e8,(by show 3+3≤az;lia),λF2 H9 S9 e9=>?_⟩;exact kR F2 (.oth "stay" [x.n,z] [l,o,wt]) H9 ((M7.trans M8').then S9) e9 (.inl ⟨rfl,x,z,l,o,wt,i,hx,rfl,rfl,x1,x2,x3,x4,num⟩)
 have hkd:kd = "change" ∨kd = "apart" ∨kd = "meet" := by
  rcases hkd with h | h
  ·exact rQ (rR (by rw[h])) c1
  ·exact h
 apply⟨ρ,ρ,R,xs,prs,kd,rfl,gR,gw,lok.ok,lok.few,hkd,λL ys qs H3 S3 e3 rw3 ok3 l3=>?_⟩;apply⟨ρ,(by show 0≤az;decide),λEm H4 S4 e4=>?_⟩;have M4:Mv p H H4:=M2.then (S3.trans S4);apply⟨L,Em,ys,rfl,rfl,SqL.of (S4 _ _ e3),SqL.of e4,ρ,kJ (λ_=>kN H4 M4) (λc2=>?_)⟩;have ly:ys.length=qs.length:=by rw[rw3.len,ae]
 have ne:0<ys.length:=by
  cases ys with
  | nil=>exact rQ rfl c2
  | cons _ _=>simp
 apply⟨ρ,szZ1,λC H5 S5 e5=>?_⟩;have M5:=M4.then S5;obtain⟨n5,hp5⟩:=M5.2;have rw5:=rw3.same (S4.trans S5);have e35:=(S4.trans S5) _ _ e3;have nL:=rw5.nep hp5 e35;apply⟨ρ,ρ,ρ,L,ρ,.inl (SqL.of e35),p,n5,ρ,hp5,(by show(0:Int)<(ys.length:Int);lia),(by show(ys.length:Int)<10 ^ 61;lia),λr6 H6 c60 c61 M6'=>?_⟩;obtain⟨j,rfl⟩:=dz c60;have c61:(j:Int)<(ys.length:Int):=c61;have hj:j<qs.length:=by lia
 have M6:=M5.trans M6';obtain⟨x,y,hx,hy,nxy,pr⟩:=ok3 _ (cW hj);obtain⟨a,hya,hra⟩:=rw5.get j (qs[j].map V.str) (by rw[aC,gE hj];rfl);have e56:=M6'.1 _ _ (eN e5 hp5 lst_si) e5;apply⟨L,τ,SqL.of (M6'.1 _ _ nL e35),aP hya,?_⟩;generalize qs[j]=q at pr hra;cases pr with
 | @change z i j' h1 h2 h3 h4 =>
  have hra6:=M6'.1 _ _ (eN hra hp5 (jD ∅)) hra;apply ⟨C,a,ς,e56,hra6,(by show 1+3≤az;lia),fun D H7 S7 e7=>?_⟩;have M7:=M6.then S7;obtain ⟨n7,hp7⟩:=M7.2;apply ⟨ρ,rfl,ρ,nW (rR rfl) ?_⟩;apply ⟨ρ,ρ,ρ,p,n7,b,rfl,hp7,b1,b2,fun E2 l o wt H8 M8' e8 num=>?_⟩;have e78:=M8'.1 _ _ (eN e7 hp7 (jD ∅)) e7;apply ⟨D,E2,ς,e78,e8,(by show 4+3≤az;lia),fun F2 H9 S9 e9=>?_⟩;obtain ⟨u1,u2,u3,u4,u5,u6⟩:=num;exact kR F2 (.oth "change" [x.n,y.n,z] [l,o,wt]) H9 ((M7.trans M8').then S9) e9 (.inr ⟨by trivial,_,⟨x,y,hx,hy,nxy,.change (l:=l) (o:=o) (w:=wt) h1 h2 h3 h4⟩,⟨u1,u2,u3,u4,u5,u6⟩,fun i hi=>by
   simp only[ay,bz,or_false] at hi
   rcases hi with rfl | rfl | rfl
   ·exact⟨u1,⋯⟩
   ·exact⟨⋯,⋯⟩
   ·exact ⟨u5,⋯⟩⟩)
 | @apart z i j' h1 h2 h3 h4 =>
  have hra6:=M6'.1 _ _ (eN hra hp5 (jD ∅)) hra;apply⟨C,a,ς,e56,hra6,(by show 1+3≤az;lia),λD H7 S7 e7=>?_⟩;have M7:=M6.then S7;obtain⟨n7,hp7⟩:=M7.2;apply⟨ρ,rfl,ρ,jY ⇑0 ?_⟩;apply⟨ρ,?_⟩;apply⟨ρ,rfl,ρ,jY ⇑0 ?_⟩;apply⟨ρ,ρ,ς,⟨↥0,↥0⟩,ς,_,ρ,p,n7,ρ,hp7,(by split <;> lia),(by split <;> lia),λg H8 g0 g1 M8'=>?_⟩;have e78:=M8'.1 _ _ (eN e7 hp7 (jD ∅)) e7;have M8:=M7.trans M8';apply⟨ρ,ρ,ς,.inl ⟨↥0,↥0⟩,ς,ρ,kJ (λ_=>kN H8 M8) (λc3=>?_)⟩;have c3:2 * g≤b:=by
   have:¬(b<2 * g):=λz=>c3 (rR z)
   lia
  apply⟨ρ,ρ,ς,.inl ⟨↥0,↥0⟩,ς,ρ,ς,ρ,kJ (λ_=>kN H8 M8) (λc4=>?_)⟩;have c4:b - 2 * g<b:=by
   have:¬(b≤b - 2 * g):=λz=>c4 (rR z)
   lia
  apply ⟨ρ,ρ,szZ1,fun G H9 S9 e9=>?_⟩;apply ⟨D,G,ς,S9 _ _ e78,e9,(by show 4+1≤az;lia),fun F2 Ha Sa ea=>?_⟩;exact kR F2 (.oth "apart" [x.n,y.n,z] [g]) Ha (M8.then (S9.trans Sa)) ea (.inr ⟨by trivial,_,⟨x,y,hx,hy,nxy,.apart (d:=g) h1 h2 h3 h4⟩,⟨g0,by dsimp only;lia,by dsimp only;lia,by dsimp only;lia,by dsimp only;decide,by dsimp only;decide⟩,fun i hi=>by
   rw [aB.mp hi];exact ⟨g0,⋯⟩⟩)
 | @meet z z2 r u i j' h1 h2 h3 h4 h5 h6 =>
  have hra6:=M6'.1 _ _ (eN hra hp5 (jD ∅)) hra;apply⟨C,a,ς,e56,hra6,(by show 1+4≤az;lia),λD H7 S7 e7=>?_⟩;have M7:=M6.then S7;apply⟨ρ,rfl,ρ,jY ⇑0 ?_⟩;apply⟨ρ,?_⟩;apply⟨ρ,rfl,ρ,nW (rR rfl) ?_⟩;obtain⟨gR,gw,_,_⟩:=gets M7;have bx:=ride_bd lok hx h3;have b_y:=ride_bd lok hy h6;apply⟨ρ,ρ,ρ,D,τ,SqL.of e7,aP (j:=1) rfl,ρ,D,τ,SqL.of e7,aP (j:=3) rfl,ρ,D,τ,SqL.of e7,aP (j:=4) rfl,R,xs,prs,x.n,z,z2,rfl,gR,gw,okE,⋯,λo1 H8 S8 rd1=>?_⟩;rw[rd1.of lok hx h1 h2 h3];have e78:=S8 _ _ e7;have M8:=M7.then S8;obtain⟨gR,gw,_,_⟩:=gets M8;apply⟨ς,ρ,ρ,ρ,D,τ,SqL.of e78,aP (j:=2) rfl,ρ,D,τ,SqL.of e78,aP (j:=4) rfl,ρ,D,τ,SqL.of e78,aP (j:=3) rfl,R,xs,prs,y.n,z2,z,rfl,gR,gw,okE,⋯,λo2 H9 S9 rd2=>?_⟩;rw[rd2.of lok hy h4 h5 h6];have e79:=S9 _ _ e78;have M9:=M8.then S9;obtain⟨n9,hp9⟩:=M9.2;apply⟨ς,?_⟩;obtain⟨room,er⟩:∃room,b - r - u=room:=⟨_,rfl⟩;have hro:room≤b:=by lia
  apply⟨ρ,ρ,ς,⟨↥0,↥0⟩,ς,_,ρ,p,n9,ρ,hp9,(by split <;> lia),(by show(if (b - r - u) / 2+1 > 1 then (b - r - u) / 2+1 else 1)<10 ^ 61;split <;> lia),λg H8 g0 g1 M8'=>?_⟩;have e78:=M8'.1 _ _ (eN e79 hp9 (jD ∅)) e79;have Ma:=M9.trans M8';apply⟨ρ,ρ,ς,.inl ⟨↥0,↥0⟩,ς,ρ,kJ (λ_=>kN H8 Ma) (λc3=>?_)⟩;have c3:2 * g≤b - r - u:=by
   have:¬(b - r - u<2 * g):=λz=>c3 (rR z)
   lia
  apply⟨ρ,ρ,ς,.inl ⟨↥0,↥0⟩,ς,ρ,ς,ρ,kJ (λ_=>kN H8 Ma) (λc4=>?_)⟩;have c4:b - r - u - 2 * g<b:=by
   have:¬(b≤b - r - u - 2 * g):=λz=>c4 (rR z)
   lia
  apply ⟨ρ,ρ,szZ1,fun G H9 S9 e9=>?_⟩;apply ⟨D,G,ς,S9 _ _ e78,e9,(by show 5+1≤az;lia),fun F2 Hb Sb eb=>?_⟩;exact kR F2 (.oth "meet" [x.n,y.n,z,z2] [g]) Hb (Ma.then (S9.trans Sb)) eb (.inr ⟨by trivial,_,⟨x,y,hx,hy,nxy,.meet (d:=g) h1 h2 h3 h4 h5 h6⟩,⟨by dsimp only;lia,by dsimp only;lia,by dsimp only;lia,by dsimp only;lia,by dsimp only;decide,by dsimp only;decide⟩,fun i hi=>by
   rw [aB.mp hi];exact ⟨g0,⋯⟩⟩)
end HN
namespace L2
open PySem PySem.Spec PyProof.Rows
def lZ:List Int→Int
 | []=>0
 | [a]=>a
 | a::b::l=>if a > lZ (b::l) then a else lZ (b::l)
theorem great_ok:∀(l:List Int),l≠[]→lZ l∈l∧∀a∈l,a≤lZ l
 | [],h=>rQ rfl h
 | [a],_=>⟨by simp[lZ],λx hx=>by rw[aB.mp hx];exact Int.le_refl _⟩
 | a::b::l,_=>by
  obtain⟨h1,h2⟩:=great_ok (b::l) ∅;show(if a > lZ (b::l) then a else lZ (b::l))∈a::b::l∧∀x∈a::b::l,x≤(if a > lZ (b::l) then a else lZ (b::l));split
  ·apply⟨bh ..,λx hx=>?_⟩
   rcases ay.mp hx with rfl | hx
   ·exact Int.le_refl _
   ·have:=h2 x hx;lia
  ·apply⟨aE _ h1,λx hx=>?_⟩
   rcases ay.mp hx with rfl | hx
   ·lia
   ·exact h2 x hx
theorem call_max1 (hc:X.calm=true):jU X (.builtin "max") (λxs H Q=>∃(p:aq) (ns:List Int),xs=[.ref p]∧SqL X.K H p (ns.map V.int)∧ns≠[]∧Q (.int (lZ ns)) H):=by
 intro aN s σ H xs us Q I r h;obtain⟨p,ns,rfl,hq,hne,q⟩:=h;obtain⟨u,rfl,ru⟩:=nV r;cases(show u=af.ref p from ru);obtain⟨its,rv,pl,hz⟩:=I.list hq;have hi:=ints_are rv;obtain⟨ys,hx⟩:=hi.allInts.items;have hl':s.heap.IsList p (intItems ys):=hx ▸ pl.isList;have e1:ns=ys.toList.map (·.1):=by
  rw[←nums_intItems,←hx];exact(show numsOf its.toArray.toList=ns from hi.numsOf).symm
 have hsz:0<ys.size:=by
  have:0<ns.length:=List.length_pos_iff.mpr hne;rw[e1,ae,gG] at this;exact this
 apply max_intList (I.ok.hd hc) hl' hsz λv h' tk hv hk=>?_
 obtain⟨t,rfl⟩:=intItems_at hv;obtain⟨b1,b2⟩:=argBest_gt (numAt ys) (ys.size - 1);obtain⟨l1,l2⟩:=great_ok ns hne;have m1:numAt ys (argBest (λi j=>decide (numAt ys i > numAt ys j)) (ys.size - 1))∈ns:=by
  rw[e1,numAt_eq];exact getD_mem (by rw[ae,gG];lia)
 have m2:numAt ys (argBest (λi j=>decide (numAt ys i > numAt ys j)) (ys.size - 1))=lZ ns:=by
  apply Int.le_antisymm (l2 _ m1) ?_;have l3:lZ ns∈ys.toList.map (·.1):=by rw[←e1];exact l1
  obtain⟨j,hj,e⟩:=mem_getD l3;rw[ae,gG] at hj;rw[←e,←numAt_eq];exact b2 j ⋯
 rw[m2];exact⟨.int (lZ ns),H,I.kept (t':=tk) hk,⟨t,rfl⟩,q⟩
end L2
namespace HN
open PySem L2 PyProof.Rows HT2
abbrev sPln:c8:=top 101
theorem lsC_idx:∀{rows:List PR} {x:Ln},x∈lsC rows→∃i,rows[i]? =some (.line x.n x.ss x.rs)∧∀m,i<m→x∈lsC (rows.take m):=by
 intro rows
 induction rows using snocI with
 | h0=>intro x h;cases h
 | h1 rs r ih =>
  intro x h;have old:x∈lsC rs→∃i,(rs++[r])[i]? =some (.line x.n x.ss x.rs)∧∀m,i<m→x∈lsC ((rs++[r]).take m):=λh=>by
   obtain⟨i,h1,h2⟩:=ih h;have li:=(ai.mp h1).1;apply⟨i,by rw[bI li];exact h1,λm hm=>?_⟩
   by_cases c:m≤rs.length
   ·rw[jn c];exact h2 m hm
   ·rw[eP (by rw[ao];show rs.length+1≤m;lia)]
    exact lsC_sub [r] rs h
  rw[iK] at h;cases r with
  | beat b=>exact old h
  | oth k ns is=>exact old h
  | line n ss rs' =>
   rcases aS.mp h with h | h
   ·exact old h
   ·rw[aB.mp h]
    apply⟨rs.length,by rw[bc (aG _),gY];rfl,λm hm=>?_⟩;rw[eP (by rw[ao];show rs.length+1≤m;lia),iK];exact bC _ (aB.mpr rfl)
theorem mV.okI (h:mV b pre r):r.okI:=by
 cases r with
 | beat b=>exact h
 | line n ss rs=>exact h.2
 | oth k ns is =>
  rcases h with ⟨rfl,x,z,l,o,w,i,_,rfl,_⟩ | ⟨hk,sn,⟨x,y,_,_,_,B⟩,_⟩
  ·exact⟨by trivial,aG _,λ_=>rfl⟩
  ·apply⟨(bt_kind B).2.1,?_,λz=>rQ z hk⟩
   cases B <;> simp
theorem ib.okI {rows:List PR}(h:ib b rows):∀r∈rows,r.okI:=λr hr=>by
 obtain⟨i,hi⟩:=cE hr;exact(h i r hi).okI
theorem MoreOk.wds {rows:List PR}(h:MoreOk b prs rows r):∃(k w1 w2:Str) (t:List V),r.rowV= .str k:: .str w1:: .str w2::t∧r.isL=false∧(∃x∈lsC prs,x.n=w1)∧(∀p,r.sty2=some p→p ∉ stz rows) ∧
  (∀m,(∀x∈lsC prs,x.n=w1∨x.n=w2→x∈lsC (rows.take m))→mV b (rows.take m) r)∧r.spn=(if k = "stay" then 0 else 1):=by
 cases r with
 | beat b=>exact rQ h id
 | line n ss rs=>exact rQ h id
 | oth k ns is =>
  rcases h with ⟨rfl,x,z,l,o,w,i,hx,rfl,rfl,h1,h2,h3,h4,h5⟩ | ⟨hk,sn,⟨x,y,hx,hy,ne,B⟩,num,wi⟩
  ·apply⟨"stay",x.n,z,[.int l,.int o,.int w],rfl,rfl,⟨x,hx,rfl⟩,λp hp=>?_,λm hm=> .inl ⟨rfl,x,z,l,o,w,i,hm x hx (.inl rfl),rfl,rfl,h1,h2,h3,λq=>h4 ?_,h5⟩,rfl⟩
   ·have:(some (x.n,z):Option (Str×Str))=some p:=by rw[←hp];unfold PR.sty2;exact(rP rfl).symm
    cases this;exact h4
   ·obtain⟨r',hr',e'⟩:=gT.mp q
    exact gT.mpr ⟨r',gZ hr',e'⟩
  ·obtain⟨t,et⟩:∃t,ns=x.n::y.n::t:=by cases B <;> exact⟨ρ⟩
   apply⟨k,x.n,y.n,t.map V.str++is.map V.int,by rw[et];rfl,rfl,⟨x,hx,rfl⟩,λp hp=>?_,λm hm=> .inr ⟨hk,sn,⟨x,y,hm x hx (.inl rfl),hm y hy (.inr rfl),ne,B⟩,num,wi⟩,rfl⟩;exfalso;have e:(PR.oth k ns is).sty2=none:=by
    unfold PR.sty2;split
    ·next h=>cases h;exact rO hk
    ·rfl
   rw[e] at hp;cases hp
theorem kO.ins {H:Hp}{xs:List V}{rows:List (List V)}{B:aq}{r:List V}{m:Nat}(h:kO H xs rows)(hm:m≤rows.length)(hB:H B=some (.lst r)):kO H (xs.take m++[.ref B]++xs.drop m) (rows.take m++r::rows.drop m):=⟨by
  have:=h.len;simp only[ao,aL,bD,av,fq];lia,λi q hq=>by
 have l:=h.len;have lt:(rows.take m).length=m:=by rw[aL];lia
 have lx:(xs.take m).length=m:=by rw[aL];lia
 rcases ic i m with c | c | c
 ·rw[bI ⋯,cY c] at hq
  obtain⟨a,h1,h2⟩:=h.get i q hq;exact⟨a,by rw[bI (by rw[ao];lia),bI ⋯,cY c];exact h1,h2⟩
 ·subst c
  rw[bc ⋯,lt,gY,List.getElem?_cons_zero] at hq;cases hq;exact⟨B,by rw[bI (by rw[ao];show i<(xs.take i).length+1;lia),bc ⋯,lx,gY];rfl,hB⟩
 ·obtain⟨j,rfl⟩:∃j,i=m+1+j:=⟨i - m - 1,⋯⟩
  rw[bc ⋯,lt,show m+1+j - m=j+1 by lia,aZ,dv] at hq;obtain⟨a,h1,h2⟩:=h.get _ q hq;have l3:(xs.take m++[V.ref B]).length=m+1:=by rw[ao,lx];rfl
  exact ⟨a,by rw [bc ⋯,l3,show m+1+j - (m+1)=j by lia,dv];exact h1,h2⟩⟩
theorem spn_ins (rows:List PR)(r:PR)(m:Nat):nZ (rows.take m++r::rows.drop m)=nZ rows+r.spn:=by
 have e:nZ rows=nZ (rows.take m)+nZ (rows.drop m):=by
  conv=>lhs;rw[←fZ m rows]
  unfold nZ;rw[aw,iT]
 rw[e];unfold nZ;rw[aw,iT,bq,gu];lia
theorem spn_lines:∀{prs:List PR},(∀r∈prs,r.lnOk)→(prs.map λr=>((r.rowV.length:Nat):Int) - 4).sum=((nZ prs:Nat):Int)
 | [],_=>rfl
 | r::prs,h=>by
  have ih:=spn_lines (prs:=prs) λq hq=>h q (aE _ hq)
  have o:=h r bh;rw[bq,gu,ih];unfold nZ;rw[bq,gu];cases r with
  | beat b=>exact rQ o id
  | oth k ns is=>exact rQ o id
  | line n ss rs =>
   obtain⟨_,_,_,o4,_,o6,_⟩:=o;have:(PR.line n ss rs).rowV.length=2 * rs.length+3:=by
    show(jI ss rs).length+1+1=_;rw[ko o6];lia
   rw[this];show((2 * rs.length+3:Nat):Int) - 4+_=(((2 * rs.length - 1)+_:Nat):Int);lia
theorem qW.spn (L:qW prs):nZ prs≤16:=by
 have e:=own_C prs;have b0:bwP prs=0:=by
  have:∀{l:List PR},(∀r∈l,r.lnOk)→bwP l=0:=by
   intro l
   induction l with
   | nil=>intro _;rfl
   | cons r l ih =>
    intro h;have o:=h r bh;have:=ih λq hq=>h q (aE _ hq)
    unfold bwP at *;rw[bq,gu,this];cases r with
    | beat b=>rfl
    | line n ss rs=>rfl
    | oth k ns is=>exact rQ o id
  exact this L.ok
 have le:∀ls:List Ln,(ownL ls:Int)≤jK ls:=by
  intro ls
  induction ls with
  | nil=>simp[ownL,jK]
  | cons x ls ih =>
   unfold ownL jK at *;rw[bq,gu,bq,gu];lia
 have:=le (lsC prs);have:=L.hap;lia
theorem qW.few8 (L:qW prs):prs.length≤8:=by
 have go:∀l:List PR,(∀r∈l,r.lnOk)→2 * (l.length:Int)≤jK (lsC l):=by
  intro l
  induction l using snocI with
  | h0=>intro _;decide
  | h1 l r ih =>
   intro h;have i:=ih λq hq=>h q (cB _ hq)
   have o:=h r (bC _ (aB.mpr rfl));rw[iK,ao];cases r with
   | beat b=>exact rQ o id
   | oth k ns is=>exact rQ o id
   | line n ss rs =>
    show 2 * ((l.length+1:Nat):Int)≤jK (lsC l++[_]);rw[lN];obtain⟨_,_,_,o4,_,o6,_⟩:=o
    dsimp only
    lia
 have:=go prs L.ok;have:=L.hap;lia
theorem qW.ne' (L:qW prs):lsC prs≠[]:=λz=>by
 have ne:=L.ne;have ok:=L.ok;cases prs with
 | nil=>exact ne rfl
 | cons r l =>
  have o:=ok r bh;cases r with
  | beat b=>exact o
  | oth k ns is=>exact o
  | line n ss rs =>
   have:=lsC_at (prs:= .line n ss rs::l) (i:=0) rfl;rw[z] at this;cases this
inductive spPln (K:ak)(vs:List V)(H:Hp)(Q:VK)(_:XK):Prop
 | mk (a:aq)(ns:List Int)(_:vs=[.ref a])(_:SqL K H a (ns.map V.int))(_:ns.length≤63)(_:∀(q L:aq) (xs:List V) (b:Int) (rows:List PR) (H':Hp),cb H H'→H' q=some (.tup [.int b,.ref L])→H' L=some (.lst xs)→kO H' xs (rows.map PR.rowV)→b≤10 ^ 21→rows.length≤63→PlanOk b rows→Q (.ref q) H')
theorem pw:cI ["_law_script","_law_pot_here","_law_beat","_law_lines_here","_law_rows","_law_many","_law_k","_law_row","_law_last","_law_at"] pzk (defScope sPln):=by trivial
theorem ok_pln {fT fP fN fL fM:aq}{dT dP dN dL dM:aT}(F:Fun K "_law_plan" "_law_plan" sPln f fd)(T:Nm mg)(T2:Nt mg)(hint:mg "int" =none)(GT:Fn K mg "_law_take" qx pze fT dT)
  (GP:Fn K mg "_law_pot" sPotT pzg fP dP) (FP:‹0› 2 fP dP pzg (spPotT K))
  (GN:Fn K mg "_law_names" sNms pzy fN dN) (FN:‹0› 2 fN dN pzy spNms)
  (GL:Fn K mg "_law_lines" sLns pzA fL dL) (FL:‹0› 3 fL dL pzA (spLns K))
  (GM:Fn K mg "_law_more_row" sMor pzt fM dM) (FM:‹0› 3 fM dM pzt spMor):‹0› 4 f fd pzk (spPln K):=by
 have FT:‹0› 1 fT dT pze oa:=mI GT.F;specialize F.ok pw;obtain ⟨a,ns,rfl,ha,lns,k⟩:=h;have hr1:kA 1 _:=hr.mono ↥0;have hr2:kA 2 _:=hr.mono ↥0;have hr3:kA 3 _:=hr;apply ⟨_,PSl.h (bo ⟨(psZ 1 pw.nd (pc1 GP FP hr2 (ah (pv 0) (ah aO aA))))⟩
  (bo ⟨(psZ 2 pw.nd (cH fz aO (pc1 GT FT hr1 (ah (pv 1) (ah (PEs.h (k_ix bV (pH (eM jJ (eM jJ (eM jJ (eM (k_op pR jJ jJ) pd))))) ⟨pc1 GT FT hr1 (ah (pv 1) (ah aO aA))⟩ (fun _ _=>rfl))) aA)))))⟩
  (bo ⟨(psZ 3 pw.nd (pc1 GL FL hr3 (ah (pv 0) (ah (pc1 GN FN hr2 (ah (pc1 GP FP hr2 (ah (pv 0) (ah aO aA))) (ah aO aA))) (ah (pc1 GN FN hr2 (ah (pv 1) (ah aO aA))) (ah aO aA))))))⟩
  (bo ⟨(psZ 4 pw.nd (gk call_listA rfl T2.tlist boot_list (ah (pv 3) aA)))⟩
  (bo ⟨(psZ 5 pw.nd (cu (call_sum rfl) rfl T2.sum boot_sum (ah (kL (fr:=[]) (js:=[]) rfl (jk (pv 3)) ⇑0 rfl ⇑0 rfl (by exists sPln) ⇑0 rfl ⇑0 (fun _ _ _ _ _=>⟨(cH iq (cu (lenK K) rfl T.len bp (ah (pv 0) aA)) aO),kh⟩)) aA)))⟩
  (bo ⟨(jg cf rfl (pi_range2 rfl T2.range (ah aO (ah (cu (oX rfl) rfl T.min boot_min (ah (cu cA rfl T.len bp (ah (pv 0) aA)) (ah aO aA))) aA))) (pgZ 6 pw.nd) (PSl.h (bo ⟨(psZ 1 pw.nd (pc1 GP FP hr2 (ah (pv 0) (ah (pv 6) aA))))⟩
  (bo ⟨(psZ 7 pw.nd (pc1 GM FM hr3 (ah (pv 1) (ah (pv 2) (ah (pv 3) (ah (pv 4) aA))))))⟩
  (gc ⟨(fG (PW.pt (oJ (bQ op_notN (pv 7) iJ (cw _)) (mG (bQ op_lt (pv 5) aO (cw _))))) (PSl.h (bo ⟨(psZ 8 pw.nd (cu (call_max1 rfl) rfl T2.max boot_max (ah (kL (fr:=["_law_row","_law_rows"]) (js:=[7,4]) rfl (lL rfl T2.range (ah (cu cA rfl T.len bp (ah (pv 4) aA)) aA)) ⇑0 rfl ⇑0 rfl (by exists sPln) ⇑0 rfl ⇑0 (fun _ _ _ _ _=>⟨(pv 0),(pts_one (PW.pt (oJ (bQ iB (fj (r:=rIxL K) bV (fj (r:=rIxL K) bV (pv 2) (pv 0) (fun _ _=>rfl)) aO (fun _ _=>rfl)) eS (cw _)) (mG (bQ (r:=rIn K false) oO (fj (r:=rIxL K) bV (fj (r:=rIxL K) bV (pv 2) (pv 0) (fun _ _=>rfl)) aO (fun _ _=>rfl)) (fe (sl_listK K) (pv 1) (fV aO) (fV aO)) rfl)))))⟩)) aA)))⟩
  (bo ⟨(psZ 9 pw.nd (cH fz (cH fz (pv 8) aO) (pc1 GT FT hr1 (ah (pv 1) (ah (cH iq (cu cA rfl T.len bp (ah (pv 4) aA)) (pv 8)) aA)))))⟩
  (bo ⟨(psZ 4 pw.nd (cH iY (cH iY (fe iI (pv 4) gW (fV (pv 9))) (ip (ah (pv 7) aA))) (fe iI (pv 4) (fV (pv 9)) gW)))⟩
  (gc ⟨(psZ 5 pw.nd (cH fz (pv 5) (gk oY rfl hint boot_int (ah (jQ rb (fj bV (pv 7) aO (fun _ _=>rfl)) eS (cw _)) aA))))⟩))))) cF)⟩)))))⟩
  (gc ⟨(bR (jc (ah (pv 2) (ah (pv 4) aA))))⟩))))))),?_⟩
 try dsimp only [cxK]
 have sq:∀{H':Hp},cb H H'→SqL K H' a (ns.map V.int):=λS=>SqL.kept' S ha
 have big:(100000:Nat)≤az:=by decide
 apply⟨ρ,a,ns,1,rfl,ha,↥0,↥0,λm1 p1 hp1=>?_⟩;have S1:cb H (upd H p1 (.lst [.int m1])):=cb.put (cb.refl H) hp1;have h1:(upd H p1 (.lst [.int m1])) p1=some (.lst [.int m1]):=aQ;generalize upd H p1 (.lst [.int m1])=H1 at S1 h1 ⊢;apply⟨ρ,ς,⟨↥0,↥0,↥0⟩,szZ4,λB H2 S2 e2=>?_⟩;apply⟨ρ,p1,m1,4,rfl,S2 _ _ h1,↥0,↥0,λr H3 a0 a1 M3=>?_⟩;have e3:=M3.1 _ _ (eN e2 (S2 _ _ h1) (jD ∅)) e2;obtain⟨v,ev,mv⟩:=o9 (xs:=[V.int 60,.int 60,.int 10,.int (10 ^ 20)]) a0 (by show r<4;lia);obtain⟨Mx,rfl,Mx1,Mx2⟩:∃M:Int,v= .int M∧1≤M∧M≤10 ^ 20:=by
  simp only[ay,bz,or_false] at mv
  rcases mv with rfl | rfl | rfl | rfl
  ·exact⟨ρ,↥0,↥0⟩
  ·exact⟨ρ,↥0,↥0⟩
  ·exact⟨ρ,↥0,↥0⟩
  ·exact⟨ρ,↥0,↥0⟩
 obtain⟨n3,hp3⟩:=M3.2;apply⟨B,τ,SqL.of e3,ev,p1,n3,Mx,rfl,hp3,⋯,⋯,λr4 H4 b0 b1 M4=>⟨ς,?_⟩⟩;obtain⟨b,eb⟩:∃b,1+r4=b:=⟨_,rfl⟩;have hb1:1≤b:=by lia
 have hb2:b≤10 ^ 20+1:=by lia
 show oU 2 (V.int (1+r4)) _ _ _;rw[eb];have M14:Mv p1 H1 H4:=((Mv.of S2 (S2 _ _ h1)).trans M3).trans M4;have S4:cb H H4:=cb.mv S1 hp1 M14;obtain⟨n4,hp4⟩:=M14.2;apply⟨ρ,ρ,a,ns,2,rfl,sq S4,↥0,↥0,λm5 p5 hp5=>?_⟩;have S5:cb H4 (upd H4 p5 (.lst [.int m5])):=cb.put (cb.refl H4) hp5;have h5:(upd H4 p5 (.lst [.int m5])) p5=some (.lst [.int m5]):=aQ;generalize upd H4 p5 (.lst [.int m5])=H5 at S5 h5 ⊢;apply⟨p5,m5,4,rfl,h5,↥0,λN nn H6 M6 hN ln ndN okN=>?_⟩;have S6:cb H4 H6:=cb.mv S5 hp5 M6;apply⟨ρ,p1,n4,8,rfl,S6 _ _ hp4,↥0,λS ss H7 M7 hS ls ndS okS=>?_⟩;have hN7:=M7.1 _ _ (eN hN (S6 _ _ hp4) (jD (by rw[ae,ln];simp))) hN;have S7:cb H H7:=cb.mv (S4.trans S6) hp1 M7;apply⟨a,N,S,ns,nn,ss,4,rfl,sq S7,hN7,ndN,okN,hS,⟨⋯,⋯⟩,ndS,okS,↥0,by rw[ln];decide,⋯,λLL x0 prs H8 S8 _ hLL rw0 lok=>?_⟩;have SH8:=S7.trans S8;apply⟨ρ,LL,x0,rfl,.inl (SqL.of hLL),λR0 H9 S9 hR0=>?_⟩;have SH9:=SH8.trans S9;have lx0:x0.length=prs.length:=by rw[rw0.len,ae]
 have fewp:=lok.few8;apply⟨ρ,LL,rfl,⟨_,SqL.of (S9 _ _ hLL)⟩,?_⟩
 let pZ1:Nat→List L2.V→L2.Hp→Prop:=λi zs HA=>HA=H9∧zs=((prs.take i).map λr=>((r.rowV.length:Nat):Int) - 4).map V.int
 apply kq (K:=K) (a:=LL) (xs:=x0) pZ1 ⟨rfl,rfl⟩ (λi zs HA hi q=>?_) ⋯ (λi x zs HA hx q=>?_) (λzs HA q D hD=>?_)
 ·obtain⟨rfl,g2⟩:=q
  exact⟨SqL.of (S9 _ _ hLL),by rw[g2,ae,ae,aL];lia⟩
 ·obtain⟨rfl,g2⟩:=q
  have hi:i<prs.length:=by rw[←lx0];exact(ai.mp hx).1
  obtain⟨c,hxc,hrc⟩:=rw0.get i prs[i].rowV (by rw[aC,gE hi];rfl);rw[hx] at hxc;cases hxc;apply jq ?_;apply⟨ρ,c,ρ,.inl (SqL.of (S9 _ _ hrc)),ς,rfl,?_⟩;rw[g2,bG,gE hi,aw,aw];rfl
 obtain⟨rfl,g2⟩:=q;rw[lx0,bO] at g2;have Sa:cb HA (upd HA D (.lst zs)):=(cb.refl HA).put hD;have ha':(upd HA D (.lst zs)) D=some (.lst ((prs.map λr=>((r.rowV.length:Nat):Int) - 4).map V.int)):=by rw[aQ,g2]
 generalize upd HA D (.lst zs)=H10 at Sa ha' ⊢;apply⟨D,ρ,SqL.of ha',?_⟩;rw[spn_lines lok.ok];have SH10:=SH9.trans Sa;have hR10:=Sa _ _ hR0;have hLL10:=Sa _ _ (S9 _ _ hLL);have rw10:=rw0.same (S9.trans Sa);apply⟨ρ,a,ρ,.inl (sq SH10),_,ρ,8,ρ,⟨↥0,↥0,by rw[ae];split <;> lia,by rw[ae];split <;> lia⟩,?_⟩;rw[ae];have nst:((if (63:Int)<(ns.length:Int) then (63:Int) else (ns.length:Int)) - 8).toNat≤55:=by split <;> lia
 generalize ((if (63:Int)<(ns.length:Int) then (63:Int) else (ns.length:Int)) - 8).toNat=nst' at nst ⊢;have spl:=lok.spn
 let pZ1:Nat→L2.St→L2.Hp→Prop:=λi σ HA=>cb H10 HA∧∃(R:aq) (xs:List V) (rows:List PR),HA R=some (.lst xs)∧kO HA xs (rows.map PR.rowV)∧ib b rows∧lsC rows=lsC prs∧nZ rows≤40∧rows.length≤8+i∧∃v1 v6 v7 v8 v9,σ=[some (.ref a),v1,some (.int b),some (.ref LL),some (.ref R),some (.int (nZ rows:Nat)),v6,v7,v8,v9]
 apply nr (lo:=8) (n:=nst') pZ1
  ⟨cb.refl _,R0,x0,prs,hR10,rw10,lok.rows b,rfl,⋯,⋯,_,_,_,_,_,rfl⟩ ?_ ?_
 ·rintro i σ HA hi ⟨SA,R,xs,rows,hR,rwA,okA,eC,spA,lA,v1,v6,v7,v8,v9,rfl⟩
  apply⟨ρ,ρ,a,ns,ρ,sq (SH10.trans SA),⋯,⋯,λmb pb hpb=>?_⟩;have Sb:cb HA (upd HA pb (.lst [.int mb])):=cb.put (cb.refl HA) hpb;have hb:(upd HA pb (.lst [.int mb])) pb=some (.lst [.int mb]):=aQ;generalize upd HA pb (.lst [.int mb])=HB at Sb hb ⊢;have okI:=okA.okI;have lx:xs.length=rows.length:=by rw[rwA.len,ae]
  apply⟨ρ,ρ,ρ,ρ,pb,mb,b,LL,R,x0,xs,prs,rows,rfl,hb,⟨hb1,⋯⟩,(SA.trans Sb) _ _ hLL10,rw10.same (SA.trans Sb),lok,Sb _ _ hR,rwA.same Sb,okI,⋯,λHC MC=>?_,λLr r HC MC eL mo=>?_⟩
  ·apply⟨ρ,rfl,ρ,jY rfl ?_⟩
   have SC:cb HA HC:=cb.mv Sb hpb MC;exact⟨SA.trans SC,R,xs,rows,SC _ _ hR,rwA.same SC,okA,eC,spA,⋯,_,_,_,_,ρ⟩
  ·have SC:cb HA HC:=cb.mv Sb hpb MC
   have rwC:=rwA.same SC;have hRC:=SC _ _ hR;apply⟨ρ,rfl,ρ,nW rfl ?_⟩;apply⟨ρ,ς,ρ,kJ (λc1=>?_) (λc1=>?_)⟩
   rotate_left
   ·exact⟨SA.trans SC,R,xs,rows,hRC,rwC,okA,eC,spA,⋯,_,_,_,_,ρ⟩
   have c1:(nZ rows:Int)<40:=rT c1;obtain⟨kd,w1,w2,t,er,nl,⟨x1,hx1,ex1⟩,fs,mk,sr⟩:=mo.wds;rw[er] at eL;apply⟨ρ,R,ρ,.inl (SqL.of hRC),ρ,⋯,⋯,?_⟩;rw[ff,lx]
   let pZ3:Nat→List L2.V→L2.Hp→Prop:=λt zs HD=>cb HC HD∧∃js:List Int,zs=js.map V.int∧js.length≤t∧(∀j∈js,0≤j∧j<rows.length)∧∀(u:Nat),u<t→∀n ss rs,rows[u]? =some (.line n ss rs)→n=w1∨n=w2→(u:Int)∈js
   apply pM (lo:=0) (n:=rows.length) pZ3
    ⟨cb.refl _,[],rfl,aG _,(λj hj=>by cases hj),(λu hu=>rQ hu (jE _))⟩ (λt zs HD _ q=>by obtain⟨_,js,e,hl,_⟩:=q;rw[e,ae];exact hl) ⋯ (λt zs HD ht q=>?_) (λzs HD q D2 hD2=>?_)
   ·obtain⟨SD,js,rfl,lj,bj,cj⟩:=q
    obtain⟨c,hxc,hrc⟩:=rwC.get t rows[t].rowV (by rw[aC,gE ht];rfl);have hrt:=gE ht;have hrc:=SD _ _ hrc;have hRD:=SD _ _ hRC;have i0:atI xs (0+(t:Int))=some (.ref c):=by rw[Int.zero_add];exact aP hxc
    have nxt':∀ {HE:Hp},cb HC HE→(∀ n ss rs,rows[t]? =some (.line n ss rs)→n=w1∨n=w2→False)→cb HC HE∧∃ js2:List Int,js.map V.int=js2.map V.int∧js2.length≤t+1∧(∀ j∈js2,0≤j∧j<rows.length)∧∀ (u:Nat),u<t+1→∀ n ss rs,rows[u]? =some (.line n ss rs)→n=w1∨n=w2→(u:Int)∈js2:=fun SE no=>⟨SE,js,rfl,⋯,bj,fun u hu n ss rs e1 e2=>by
     rcases i9.mp hu with hu | hu
     ·exact cj u hu n ss rs e1 e2
     ·subst hu;exact rQ e2 (no n ss rs e1)⟩
    generalize rows[t]=rr at hrc hrt;cases rr with
    | beat b'=>exact rQ (okI _ (aD hrt)) id
    | oth k' ns' is' =>
     have kl:k' ≠ "line" := (okI _ (aD hrt)).1;have hrc:HD c=some (.lst (.str k'::(ns'.map V.str++is'.map V.int))):=hrc;apply⟨ρ,ρ,R,τ,SqL.of hRD,i0,c,τ,SqL.of hrc,aP (j:=0) rfl,rfl,ρ,jY (rS λz=>kl (by injection z)) ?_⟩;exact nxt' SD λn ss rs e _=>by rw[hrt] at e;cases e
    | line n' ss' rs' =>
     have hrc:HD c=some (.lst (.str "line" :: .str n'::jI ss' rs')):=hrc;apply⟨ρ,ρ,R,τ,SqL.of hRD,i0,c,τ,SqL.of hrc,aP (j:=0) rfl,rfl,ρ,nW (rR rfl) ?_⟩;apply⟨ρ,ρ,R,τ,SqL.of hRD,i0,c,τ,SqL.of hrc,aP (j:=1) rfl,ρ,ρ,ρ,Lr,ρ,SqL.of (SD _ _ eL),λW HE SE eE=>?_⟩;rw[cut13] at eE;have SE2:=SD.trans SE;apply⟨W,ρ,.inl (SqL.of eE),rfl,rfl,ρ,?_⟩;show if inV (.str n') (([w1,w2]:List Str).map V.str)=true then _ else _;rw[inV_str];apply kJ (λc2=>?_) (λc2=>?_)
     ·apply⟨ρ,SE2,js++[(0+(t:Int))],by rw[aw];rfl,by rw[ao];show js.length+1≤t+1;lia,λj hj=>?_,λu hu n ss rs e1 e2=>?_⟩
      ·rcases aS.mp hj with hj | hj
       ·exact bj j hj
       ·rw[aB.mp hj];lia
      ·rcases i9.mp hu with hu | hu
       ·exact cB _ (cj u hu n ss rs e1 e2)
       ·subst hu;exact bC _ (aB.mpr ⋯)
     ·exact nxt' SE2 λn ss rs e e2=>by
       rw[hrt] at e;cases e;apply c2 (rR ?_)
       rcases e2 with rfl | rfl <;> simp
   obtain⟨SD,js,rfl,lj,bj,cj⟩:=q;have all:∀x∈lsC prs,x.n=w1∨x.n=w2→∃u:Nat,(u:Int)∈js∧∀m,u<m→x∈lsC (rows.take m):=λx hx e=>by
    rw[←eC] at hx;obtain⟨u,e1,e2⟩:=lsC_idx hx;exact⟨u,cj u (ai.mp e1).1 _ _ _ e1 e,e2⟩
   obtain⟨u1,hu1,_⟩:=all x1 hx1 (.inl ex1);have jne:js≠[]:=λz=>by rw[z] at hu1;cases hu1
   obtain⟨gm,gle⟩:=great_ok js jne;have SDe:cb HC (upd HD D2 (.lst (js.map V.int))):=SD.put hD2;have hDe:(upd HD D2 (.lst (js.map V.int))) D2=some (.lst (js.map V.int)):=aQ;generalize upd HD D2 (.lst (js.map V.int))=HE at SDe hDe ⊢;apply⟨D2,js,rfl,SqL.of hDe,jne,?_⟩;obtain⟨g0,g1⟩:=bj _ gm;generalize lZ js=la at gm gle g0 g1 ⊢;obtain⟨la,rfl⟩:=dz g0;have ME:=MC.then SDe;obtain⟨nE,hpE⟩:=ME.2;have hRE:=SDe _ _ hRC;apply⟨ρ,ς,ρ,ρ,R,ρ,.inl (SqL.of hRE),ρ,ς,pb,nE,ρ,hpE,(by show(0:Int)<(xs.length:Int) - (la:Int);lia),(by show(xs.length:Int) - (la:Int)<10 ^ 61;lia),λr5 HF r50 r51 MF=>⟨ς,?_⟩⟩;have r51:r5<(xs.length:Int) - (la:Int):=r51;obtain⟨r5,rfl⟩:=dz r50;obtain⟨m,em⟩:∃m:Nat,(la:Int)+1+(r5:Int)=(m:Int):=⟨la+1+r5,⋯⟩;have hm:la<m:=by lia
   have hm2:m≤rows.length:=by lia
   show oU 9 (V.int ((la:Int)+1+(r5:Int))) _ _ _;rw[em];have SF:cb HA HF:=cb.mv (Sb) hpb (ME.trans MF);have hRF:=SF _ _ hR;have rwF:=rwA.same SF;have eLF:=MF.1 _ _ (eN (SDe _ _ eL) hpE (jD ∅)) (SDe _ _ eL);apply⟨ρ,ρ,ρ,R,ρ,SqL.of hRF,λA1 HG SG eG=>?_⟩;rw[cutU (i:=(m:Int)) (n:=m) rfl] at eG;apply⟨ρ,szZ1,λA2 HI SI eI=>?_⟩;apply⟨A1,A2,ς,SI _ _ eG,eI,(by rw[aL];show _+1≤az;lia),λA3 HJ SJ eJ=>?_⟩;apply⟨ρ,ρ,ρ,R,ρ,SqL.of ((SG.trans (SI.trans SJ)) _ _ hRF),λA4 HK SK eK=>?_⟩;rw[cutF (i:=(m:Int)) (n:=m) rfl] at eK;apply⟨A3,A4,ς,SK _ _ eJ,eK,(by rw[ao,aL,bD];show _+1+_≤az;lia),λA5 HL SL eL5=>?_⟩;have SFL:cb HF HL:=SG.trans (SI.trans (SJ.trans (SK.trans SL)));have eLL:=SFL _ _ eLF;apply⟨ρ,ρ,Lr,τ,SqL.of eLL,aP (j:=0) rfl,rfl,.inr ⟨ρ,ς,?_⟩⟩;have rwL:=(rwF.same SFL).ins (m:=m) (by rw[ae];exact hm2) (B:=Lr) (r:=r.rowV) (by rw[er];exact eLL);apply⟨SA.trans (SF.trans SFL),A5,_,rows.take m++r::rows.drop m,eL5,?_,okA.ins hm2 nl (mk m λx hx e=>?_) fs,?_,?_,?_,some (.ref pb),some (.int (8+(i:Nat))),some (.ref Lr),some (.int (la:Nat)),some (.int (m:Nat)),?_⟩
   ·rw[aw,bq,lG,gx]
    exact rwL
   ·obtain⟨u,h1,h2⟩:=all x hx e
    have:=gle _ h1;exact h2 m ⋯
   ·rw[lsC_ins nl,fZ];exact eC
   ·rw[spn_ins,sr];split <;> lia
   ·rw[ao,av,aL,bD];lia
   ·have e5:(nZ rows:Int)+(if (!decide (V.str kd=V.str "stay"))=true then 1 else 0)=((nZ (rows.take m++r::rows.drop m):Nat):Int):=by
     rw[spn_ins,sr]
     by_cases z:kd = "stay"
     ·rw[rP z,z,rR rfl];rfl
     ·rw[rO z,rS λy=>z (by injection y)];rfl
    show[some (V.ref a),some (V.ref pb),some (V.int b),some (V.ref LL),some (V.ref A5),some (V.int ((nZ rows:Int)+(if (!decide (V.str kd=V.str "stay"))=true then 1 else 0))),_,_,_,_]=_;rw[e5]
 ·rintro σ HA ⟨SA,R,xs,rows,hR,rwA,okA,eC,spA,lA,v1,v6,v7,v8,v9,rfl⟩
  apply⟨ρ,ρ,szZ2,λq HB SB eB=>?_⟩;exact k q R xs b rows HB (SH10.trans (SA.trans SB)) eB (SB _ _ hR) (rwA.same SB) ⋯ ⋯ ⟨hb1,okA,by rw[eC];exact lok.hap,spA,⋯,by rw[eC];exact lok.ne'⟩
theorem intr_evs1:∀{ss:List Str} {rs:List Int},ss.length=rs.length+1→evs ((jI ss rs).drop 1)=rs.map V.int
 | [],_,h=>by simp at h
 | [_],[],_=>rfl
 | _::_::_,[],h=>by simp at h
 | s::[],r::rs,h=>by simp at h
 | s::u::ss,r::rs,h=>by
  have hl:(u::ss).length=rs.length+1:=by simpa using h
  have ih:=intr_evs1 hl
  match ss,rs,hl,ih with
  | [],[],_,_=>rfl
  | [],_::_,hl,_=>simp at hl
  | _::_,[],hl,_=>simp at hl
  | v::ss,q::rs,hl,ih =>
   show V.int r::evs ((jI (u::v::ss) (q::rs)).drop 1)=_;rw[ih];rfl
theorem mV.oth {k:Str}(h:mV b pre (.oth k ns is))(hp:∀x∈lsC pre,(PR.line x.n x.ss x.rs).lnOk):nam k=true∧(k,ns.length,is.length)∈fms∧(∀z∈ns,nam z=true)∧(∀i∈is,W60 i)∧ns.length+is.length≤6:=by
 rcases h with ⟨rfl,x,z,l,o,w,i,hx,rfl,rfl,h1,_,_,_,u1,u2,u3,u4,u5,u6⟩ | ⟨hk,sn,⟨x,y,hx,hy,ne,B⟩,_,wi⟩
 ·obtain⟨n1,n2,_⟩:=hp x hx
  apply⟨by trivial,by simp[fms],λq hq=>?_,λq hq=>?_,∅⟩
  ·simp only[ay,bz,or_false] at hq
   rcases hq with rfl | rfl
   ·exact n1
   ·exact n2 _ (aD h1)
  ·simp only[ay,bz,or_false] at hq
   rcases hq with rfl | rfl | rfl
   ·exact⟨u1,⋯⟩
   ·exact⟨⋯,u4⟩
   ·exact⟨u5,⋯⟩
 ·obtain⟨n1,n2,_⟩:=hp x hx
  obtain⟨m1,m2,_⟩:=hp y hy;cases B with
  | change h1 h2 h3 h4 =>
   apply⟨by trivial,by simp[fms],λq hq=>?_,wi,∅⟩;simp only[ay,bz,or_false] at hq
   rcases hq with rfl | rfl | rfl
   ·exact n1
   ·exact m1
   ·exact n2 _ (aD h1)
  | apart h1 h2 h3 h4 =>
   apply⟨by trivial,by simp[fms],λq hq=>?_,wi,∅⟩;simp only[ay,bz,or_false] at hq
   rcases hq with rfl | rfl | rfl
   ·exact n1
   ·exact m1
   ·exact n2 _ (aD h1)
  | meet h1 h2 h3 h4 h5 h6 =>
   apply⟨by trivial,by simp[fms],λq hq=>?_,wi,∅⟩;simp only[ay,bz,or_false] at hq
   rcases hq with rfl | rfl | rfl | rfl
   ·exact n1
   ·exact m1
   ·exact n2 _ (aD h1)
   ·exact n2 _ (aD h2)
theorem core_bt {x y:Ln}{k:Str}(B:Bt b x y k ns is sn):Bt b x.core y.core k ns is sn:=by
 cases B with
 | change h1 h2 h3 h4=>exact .change (x:=x.core) (y:=y.core) h1 h2 h3 h4
 | apart h1 h2 h3 h4=>exact .apart (x:=x.core) (y:=y.core) h1 h2 h3 h4
 | meet h1 h2 h3 h4 h5 h6=>exact .meet (x:=x.core) (y:=y.core) h1 h2 h3 h4 h5 h6
theorem stepL_stay (ls:List Ln)(n z:Str)(l o w:Int):ph ls (.oth "stay" [n,z] [l,o,w])=ls.map (kD n z (l,o,w)):=by
 unfold ph;exact rP rfl
def CntR (rows:List PR):Prop:=jK (lsC rows)≤16∧nZ rows≤40
def PR.frm:PR→Prop
 | .beat _=>False
 | .line n ss rs=>nam n=true∧(∀s∈ss,nam s=true)∧2≤ss.length∧ss.length≤5∧ss.length=rs.length+1∧∀r∈rs,W60 r
 | .oth k ns is=>((k = "stay" ∧∃(n z:Str) (l o w:Int),ns=[n,z]∧is=[l,o,w])∨OthG k ns is)∧(∀z∈ns,nam z=true)∧∀i∈is,W60 i
theorem oth_kind {k:Str}(h:OthG k ns is):k ≠ "beat" ∧k ≠ "line" ∧k ≠ "stay" := by cases h <;> decide +kernel
theorem frm_ln {n:Str}{rs:List Int}(h:(PR.line n ss rs).frm)(nd:ss.Nodup):(PR.line n ss rs).lnOk:=by
 obtain⟨h1,h2,h3,h4,h5,h6⟩:=h;exact⟨h1,h2,nd,h3,h4,h5,λr hr=>h6 r hr⟩
def Std (b:Int)(pre:List PR)(r:PR):Prop:=mV b pre r∧CntR (pre++[r])
theorem snB_num {m:Int}{x:Sn}(h:snB b m x=true):NumOk b x.l x.o x.w:=by
 unfold snB at h;rw[cv,cv] at h;obtain⟨_,h1,h2⟩:=h;have inn:∀{i lo hi:Int},inI (.int i) lo hi=true→lo≤i∧i≤hi:=λ{i lo hi} q=>by
  have q:(decide (lo≤i) && decide (i≤hi))=true:=q;rw[cv] at q;exact⟨rT q.1,rT q.2⟩
 have h1:(inI (.int x.l) 0 B60 && inI (.int x.o) x.l (if B60<x.l+b - 1 then B60 else x.l+b - 1))=true:=h1;rw[cv] at h1;obtain⟨a1,a2⟩:=inn h1.1;obtain⟨a3,a4⟩:=inn h1.2;obtain⟨a5,a6⟩:=inn h2;apply⟨a1,a3,?_,?_,a5,a6⟩
 ·split at a4 <;> lia
 ·unfold B60 at *
  split at a4 <;> lia
theorem st_in:∀{rs:List PR},ib b rs→∀{x:Ln},x∈kj rs→∀{z:Str},(x.n,z)∈stz rs→z∈x.st.map (·.1):=by
 intro rs
 induction rs using snocI with
 | h0=>intro _ x hx;cases hx
 | h1 rs r ih =>
  intro ok x hx z hz;have ok0:ib b rs:=by
   have:=ok.take rs.length
   rwa [ku rfl] at this
  have o:mV b rs r:=by
   have:=ok rs.length r (by rw[bc (aG _),gY];rfl)
   rwa [ku rfl] at this
  have ez:stz (rs++[r])=stz rs++(r.sty2).toList:=by
   unfold stz;rw[eY];cases h:r.sty2 <;> simp[kW,h]
  rw[ez] at hz;rw[lM] at hx;cases r with
  | beat b=>exact rQ o id
  | line n ss rs' =>
   rw[show(PR.line n ss rs').sty2=none from rfl,ji,cz] at hz
   rcases aS.mp hx with hx | hx
   ·exact ih ok0 hx hz
   ·rw[aB.mp hx] at hz
    exfalso;have:∀(m:Nat),m≤rs.length→(n,z) ∉ stz (rs.take m):=by
     intro m
     induction m with
     | zero=>intro _ h;cases h
     | succ m ihm =>
      intro hm h;have e:=gE (show m<rs.length by lia);rw[bG,e] at h;have h:(n,z)∈stz (rs.take m++[rs[m]]):=h;have e2:stz (rs.take m++[rs[m]])=stz (rs.take m)++(rs[m].sty2).toList:=by
       unfold stz;rw[eY];cases h:rs[m].sty2 <;> simp[kW,h]
      rw[e2] at h
      rcases aS.mp h with h | h
      ·exact ihm ⋯ h
      ·have o':=ok0 m _ e
       generalize rs[m]=q at o' h;cases q with
       | beat b=>exact o'
       | line n' ss' rs''=>cases h
       | oth k ns is =>
        rcases o' with ⟨rfl,y,z',l,o2,w,i,hy,rfl,rfl,_⟩ | ⟨hk,_⟩
        ·rw[show(PR.oth "stay" [y.n,z'] [l,o2,w]).sty2=some (y.n,z') from by unfold PR.sty2;exact rP rfl] at h
         have:=aB.mp h;injection this with h1 _
         exact o.1 (aI.mpr ⟨y,qh hy,h1.symm⟩)
        ·have e3:(PR.oth k ns is).sty2=none:=by
          unfold PR.sty2;split
          ·next h=>cases h;exact rO hk
          ·rfl
         rw[e3] at h;cases h
    have h2:=this rs.length (aG _);rw[bO] at h2;exact h2 hz
  | oth k ns is =>
   rcases o with ⟨rfl,y,z',l,o,w,i,hy,rfl,rfl,_⟩ | ⟨hk,_⟩
   ·rw[stepL_stay] at hx
    obtain⟨x',hx',rfl⟩:=aI.mp hx;rw[stayAt_n] at hz;rw[show(PR.oth "stay" [y.n,z'] [l,o,w]).sty2=some (y.n,z') from by unfold PR.sty2;exact rP rfl] at hz;unfold kD
    rcases aS.mp hz with hz | hz
    ·have:=ih ok0 hx' hz
     split
     ·show z∈(x'.st++[(z',l,o,w)]).map (·.1)
      rw[aw];exact cB _ this
     ·exact this
    ·have:=aB.mp hz
     injection this with h1 h2
     rw[rP h1];show z∈(x'.st++[(z',l,o,w)]).map (·.1);rw[aw,h2];exact bC _ (aB.mpr rfl)
   ·have e1:ph (kj rs) (.oth k ns is)=kj rs:=by
     unfold ph;split
     ·next h=>cases h
     ·next h=>cases h;rw[rO hk]
     ·rfl
    have e3:(PR.oth k ns is).sty2=none:=by
     unfold PR.sty2;split
     ·next h=>cases h;exact rO hk
     ·rfl
    rw[e1] at hx;rw[e3,ji,cz] at hz;exact ih ok0 hx hz
theorem tk_of (hb:1≤b)(ok:ib b pre)(s:Std b pre r)(few:pre.length<70)(hl:bt.length=bwP pre):∃bt1,Tk b (kj pre) bt r (kj (pre++[r])) bt1∧bt1.length=bwP (pre++[r]):=by
 obtain⟨bt1,ru,e⟩:=runs_of hb [r] pre bt (ok.snoc s.1) s.2.1 s.2.2 (by rw[ao];show pre.length+1≤70;lia) hl;cases ru with
 | cons tk t =>
  cases t;exact⟨_,tk,e⟩
theorem Runs.snoc:∀{ls l1 l2:List Ln} {bt b1 b2:List Sn},Runs b ls bt rs l1 b1→Tk b l1 b1 r l2 b2→Runs b ls bt (rs++[r]) l2 b2:=by
 induction rs with
 | nil=>intro ls l1 l2 bt b1 b2 h t;cases h;exact .cons t .nil
 | cons q rs ih =>
  intro ls l1 l2 bt b1 b2 h t;cases h with
  | cons h1 h2=>exact .cons h1 (ih h2 t)
def UpTo (b:Int)(rs:List PR)(k:Nat):Prop:=∀i r,i<k→rs[i]? =some r→Std b (rs.take i) r
theorem UpTo.rows (h:UpTo b rs k):ib b (rs.take k):=λi r hr=>by
 have hi:i<k:=by
  by_cases c:i<k
  ·exact c
  ·rw[gb (by rw[aL];lia)] at hr;cases hr
 rw[cY hi] at hr;rw[List.take_take,eh ⋯];exact(h i r hi hr).1
theorem UpTo.cnt (h:UpTo b rs k)(hk:k≤rs.length):CntR (rs.take k):=by
 cases k with
 | zero=>exact⟨show jK (lsC [])≤16 by decide,show nZ []≤40 by decide⟩
 | succ k =>
  have e:=gE (show k<rs.length by lia);have:=(h k _ ⋯ e).2
  rwa [bG,e]
inductive Wrg (b:Int)(rs:List PR):Nat→Prop
 | beat (h:b<1):Wrg b rs 0
 | row {k:Nat} {r:PR} (h:1≤b) (u:UpTo b rs k) (e:rs[k]? =some r) (no:¬Std b (rs.take k) r):Wrg b rs (k+1)
 | none (h:1≤b) (u:UpTo b rs rs.length) (e:lsC rs=[]):Wrg b rs 0
theorem Wrg.one (a:Wrg b rs i)(c:Wrg b rs j):i=j:=by
 have lt:∀{k:Nat} {r:PR},rs[k]? =some r→k<rs.length:=λh=>(ai.mp h).1
 cases a with
 | beat h =>
  cases c with
  | beat=>rfl
  | row h2=>lia
  | none h2=>lia
 | row h u e no =>
  cases c with
  | beat h2=>lia
  | @row k2 r2 h2 u2 e2 no2 =>
   rename_i k r
   rcases ic k k2 with q | q | q
   ·exact rQ (u2 k r q e) no
   ·rw[q]
   ·exact rQ (u k2 r2 q e2) no2
  | none h2 u2=>exact rQ (u2 _ _ (lt e) e) no
 | none h u e =>
  cases c with
  | beat h2=>lia
  | row h2 u2 e2 no2=>exact rQ (u _ _ (lt e2) e2) no2
  | none=>rfl
end HN
namespace L2
open PySem PySem.Spec PyProof.Rows
theorem iZ.seat (x:iZ P w H h a o):∃u,h.get? a=some u:=by
 cases o with
 | lst xs=>obtain⟨_,_,_,_,e⟩:=x;exact⟨_,e⟩
 | tup xs=>obtain⟨_,_,_,u,e,_⟩:=x;exact⟨u,e⟩
 | dK kvs=>obtain⟨_,_,_,_,u,_,_,e,_⟩:=x;exact⟨u,e⟩
 | dT kvs=>obtain⟨_,_,_,_,u,_,_,e,_⟩:=x;exact⟨u,e⟩
 | set S n=>obtain⟨u,_,_,_,e,_⟩:=x;exact⟨u,e⟩
 | ins C dx fs=>obtain⟨_,_,_,e,_⟩:=x;exact⟨_,e⟩
 | own y=>exact x
 | xd fs=>obtain⟨_,⟨u,_,_,e,_⟩,_⟩:=x;exact⟨u,e⟩
 | rng lo hi=>obtain⟨_,_,_,e⟩:=x;exact⟨_,e⟩
 | frz ob u=>exact⟨_,x.1⟩
 | tbl ps=>exact⟨_,(show h.get? a=some _ from x)⟩
 | met f y=>exact⟨_,(show h.get? a=some _ from x)⟩
 | ext φ=>exact x.2.1
structure pe (B:bM)(l:List Env)(x:aq)(cls:af)(dct:Option aq)(h:bM):Prop where
 st:B.StaysIn h
 no:B.get? x=none
 fr:h.FunFrames B l
 tr:∃a0 fl,h.TracedAtW B x cls a0 fl
 dc:∃o,h.get? x=some o∧o.dict=dct
theorem og (f:Array af→Array af)(o:Obj):(i8 f o).dict=o.dict:=by
 obtain⟨a,b,c,d⟩:=o;cases c <;> rfl
section
variable {l:List Env}{x:aq}{cls:af}
theorem entry_any {us:Array af}{top z0:af}{nx:Bool}{Q:Unit→ar→Prop}(hfr:A.frames=some (env::outer))(fr:s.heap.FunFrames B (env::outer))(hf:env.frame=some L)(e1:s.heap.get? x=some ox)(st:B.StaysIn s.heap)(no:B.get? x=none)
  (ed:ox.data= .fields us) (big:1<us.size) (e0:us[0]? =some z0) (q:∀g,pe B (env::outer) x ox.cls ox.dict g→s.heap.UpToSlots g→Q () { s with heap:=g }) :
  aY M A (do let a ← frameOf env;let pl ← entryPlaceOf L nx;let b ← EntryCells.newEntry top a .none (lB L) .none pl;setField (.ref x) 1 b) Q E s:=by
 have away:x ∉ (env::outer).filterMap (·.frame):=by
  intro z;obtain⟨_,o,p,r⟩:=fr.mem z;rw[e1] at p;cases p;exact r us ed
 apply aj (wpAny_frameOf_fun hfr fr hf λh1 k1=>aj (wpAny_entryPlaceOf λpl isp=>?_));unfold EntryCells.newEntry newFields;apply aj (gM ?_ (isp.sizeOk5 _ _ _ _ _));have x1:h1.get? x=some ox:=(k1.2.1 x away).trans e1;have st1:B.StaysIn h1:=λb o p=>(k1.2.1 b λz=>by rw[(fr.mem z).1] at p;cases p).trans (st b o p)
 generalize hT:({ cls:= .type "traceback",dict:=none,data:= .fields ([top,.ref L,.none,lB L,.none]++(if pl.isEmpty then bS 6 af.none else pl)).toArray }:Obj)=T;have dT:T.data= .fields ([top,.ref L,.none,lB L,.none]++(if pl.isEmpty then bS 6 af.none else pl)).toArray:=by rw[←hT]
 have x2:=au (h:=h1) T x1;have far:h1.objs.size≠x:=jz (aW x1);have d3:=iL ed (·.setIfInBounds 1 (af.ref h1.objs.size));have x3:=gP (i8 (·.setIfInBounds 1 (af.ref h1.objs.size))) x2 (lg d3);have t3:=(gC (h1.push T) (i8 (·.setIfInBounds 1 (af.ref h1.objs.size))) far.symm).trans (aU h1 (by rw[←hT];rfl));have stay:∀b o,b≠x→h1.get? b=some o→((h1.push T).update x (i8 (·.setIfInBounds 1 (af.ref h1.objs.size)))).get? b=some o:=λb o n p=>by
  rw[gC _ _ n.symm];exact au _ p
 have notx:∀b o,s.heap.get? b=some o→(∀vs,o.data≠ .fields vs)→b≠x:=λb o p r z=>by
  rw[z,e1] at p;cases p;exact r us ed
 apply lp x2 ed big (q _ ⟨λb o p=>stay b o (λz=>by rw[z,no] at p;cases p) (st1 b o p),no,fr.of_keeps λb o p r=>?_,⟨z0,lB L,?_⟩,⟨_,x3,og _ _⟩⟩ λb o p r=>?_)
 ·obtain⟨sl,p2⟩:=k1.2.2 b o p
  exact⟨_,stay b _ (notx b o p r) p2,rfl⟩
 ·exact⟨_,_,h1.objs.size,T,_,x3,⟨Obj.cls_mapFields _ _,by rw[Array.getElem?_setIfInBounds_ne ↥0];exact e0⟩,d3,by simp[big],st1.fresh,far,t3,dT,by first | (simp;done) | (rcases isp with rfl | ⟨_,_,_,_,_,_,_,rfl⟩ <;> simp)⟩
 ·obtain⟨sl,p2⟩:=k1.2.2 b o p
  exact⟨sl,stay b _ (notx b o p r) p2⟩
theorem note_any {Q:Unit→ar→Prop}(hfr:A.frames=some (env::outer))(hf:env.frame=some L)(a:pe B (env::outer) x cls dct s.heap)
  (q:∀g,pe B (env::outer) x cls dct g→s.heap.UpToSlots g→Q () { s with heap:=g }):aY M A (noteFrame (.ref x) env) Q E s:=by
 obtain⟨a0,fl,ht⟩:=a.tr
 by_cases hfl:fl=lB L
 ·subst hfl
  exact wpAny_noteFrame_againW hf ht (q s.heap a (bM.UpToSlots.refl _))
 ·obtain⟨ox,vx,T,ot,vt,e1,⟨ec,e0⟩,e2,e3,n1,n2,e4,e5,e6⟩:=ht
  subst ec;obtain⟨ox',e1',ed⟩:=a.dc;rw[e1] at e1';cases e1';subst ed;unfold noteFrame;simp only[hf];apply aj (cT e1 e2 e3 ?_);rw[rP (by simp:(af.ref T != af.none)=true)];apply aj (cT e4 e5 e6 ?_);rw[rO (by intro z;exact hfl (eq_of_beq z))];apply aj (lp e4 e5 (gy.mp e6).1 ?_);have away:∀b,b≠T→(s.heap.update T (i8 (·.setIfInBounds 3 af.none))).get? b=s.heap.get? b:=λb hb=>gC _ _ hb.symm
  have apart:∀b o,s.heap.get? b=some o→(∀vs,o.data≠ .fields vs)→b≠T:=λb o hb hn z=>by
   rw[z,e4] at hb;cases hb;exact hn vt e5
  apply entry_any (s:={ s with heap:=s.heap.update T (i8 (·.setIfInBounds 3 af.none)) }) hfr (a.fr.of_keeps λb o hb hn=>⟨o,(away b (apart b o hb hn)).trans hb,rfl⟩) hf ((away x n2.symm).trans e1) (λb o hb=>(away b λz=>by rw[z,n1] at hb;cases hb).trans (a.st b o hb)) a.no e2 (gy.mp e3).1 e0 λg hg u=>?_
  exact q g hg λb o hb hn=>u b o ((away b (apart b o hb hn)).trans hb) hn
theorem set_any {fr:Option aq}{Q:Unit→ar→Prop}(a:pe B l x cls dct s.heap)(q:∀g,pe B l x cls dct g→s.heap.UpToSlots g→Q () { s with heap:=g }):aY M A (setFlight (.ref x) fr) Q E s:=by
 obtain⟨a0,fl,ht⟩:=a.tr;obtain⟨ox,vx,T,ot,vt,e1,ec,e2,e3,n1,n2,e4,e5,e6⟩:=ht;have s3:3<vt.size:=(gy.mp e6).1;have away:∀b,b≠T→(s.heap.update T (i8 (·.setIfInBounds 3 (fr.elim af.none λf=>lB f)))).get? b=s.heap.get? b:=λb hb=>gC _ _ hb.symm
 have apart:∀b o,s.heap.get? b=some o→(∀vs,o.data≠ .fields vs)→b≠T:=λb o hb hn z=>by
  rw[z,e4] at hb;cases hb;exact hn vt e5
 unfold setFlight;apply aj (cT e1 e2 e3 ?_);rw[rP (by simp:(af.ref T != af.none)=true)];apply lp e4 e5 s3 (q _ ⟨λb o hb=>(away b λz=>by rw[z,n1] at hb;cases hb).trans (a.st b o hb),a.no,a.fr.of_keeps λb o hb hn=>⟨o,(away b (apart b o hb hn)).trans hb,rfl⟩,⟨a0,fr.elim af.none λf=>lB f,?_⟩,?_⟩ λb o hb hn=>⟨o.slots,(away b (apart b o hb hn)).trans hb⟩)
 ·exact⟨ox,vx,T,_,_,(away x n2.symm).trans e1,ec,e2,e3,n1,n2,gP _ e4 (lg (iL e5 _)),iL e5 _,by simp[s3]⟩
 ·obtain⟨o,p,r⟩:=a.dc
  exact⟨o,(away x n2.symm).trans p,r⟩
theorem leave_any {Q:Unit→ar→Prop}(hfr:A.frames=some (env::outer))(hf:env.frame=some L)(a:pe B (env::outer) x cls dct s.heap)(q:∀g,pe B outer x cls dct g→s.heap.UpToSlots g→Q () { s with heap:=g }) :
  aY M A (leaving env (.ref x)) Q E s:=by
 unfold leaving;apply aj (note_any hfr hf a λg hg u=>?_);apply set_any (s:={ s with heap:=g }) hg λg2 a2 u2=>?_
 exact q g2 ⟨a2.st,a2.no,a2.fr.2.2,a2.tr,a2.dc⟩ (u.trans u2)
theorem first_any {us:Array af}{z0:af}{Q:Unit→ar→Prop}(hfr:A.frames=some (env::outer))(fr:s.heap.FunFrames B (env::outer))(hf:env.frame=some L)(e1:s.heap.get? x=some ox)(st:B.StaysIn s.heap)(no:B.get? x=none)
  (ed:ox.data= .fields us) (en:us[1]? =some .none) (e0:us[0]? =some z0) (q:∀g,pe B outer x ox.cls ox.dict g→s.heap.UpToSlots g→Q () { s with heap:=g }):aY M A (leaving env (.ref x)) Q E s:=by
 unfold leaving noteFrame;simp only[hf];apply aj (aj (cT e1 ed en ?_));rw[rO ↥0];apply entry_any hfr fr hf e1 st no ed (gy.mp en).1 e0 λg hg u=>?_
 apply set_any (s:={ s with heap:=g }) hg λg2 a2 u2=>?_
 exact q g2 ⟨a2.st,a2.no,a2.fr.2.2,a2.tr,a2.dc⟩ (u.trans u2)
end
structure Air (P:aK)(w:bg)(fs ex:List aq)(H0:Hp)(h0 B:bM)(H':Hp)(h:bM):Prop where
 hok:HOk P w H' B
 keep:∀b o,h0.get? b=some o→H0 b=none→b ∉ fs→b ∉ ex→B.get? b=some o
 there:∀b o,h0.get? b=some o→b ∉ fs→b ∉ ex→∃o',B.get? b=some o'
 free:∀b o,h0.get? b=some o→H0 b=none→b ∉ ex→H' b=none
 tups:∀b xs,H0 b=some (.tup xs)→H' b=some (.tup xs)
 frzs:∀b o u,H0 b=some (.frz o u)→H' b=some (.frz o u)
 tbls:∀b ps,H0 b=some (.tbl ps)→∃more,H' b=some (.tbl (ps++more))
 slot:∀b o,h0.get? b=some o→H0 b=none→b∈fs→b ∉ ex→∃sl,h.get? b=some { o with slots:=sl }
section
variable {fs:List aq}{h0 h2:bM}
theorem Air.un (a:Air P w fs ex H0 h0 B H' h)(st:B.StaysIn h)(frf:∀b∈fs,H0 b=none):Un fs ex H0 H' h0 h where
 keep:=λb o e n hb hx=>st b o (a.keep b o e n hb hx)
 slot:=λb o e n hb hx=>a.slot b o e n hb hx
 free:=λb o e n hx=>a.free b o e n hx
 there:=λb o e hx=>by
  by_cases hb:b∈fs
  ·obtain⟨sl,q⟩:=a.slot b o e (frf b hb) hb hx
   exact⟨_,q⟩
  ·obtain⟨o',q⟩:=a.there b o e hb hx
   exact⟨o',st b o' q⟩
 tups:=a.tups
 frzs:=a.frzs
 tbls:=a.tbls
theorem Air.up {l:List Env}{B':bM}(a:Air P w (frs l) ex H0 h0 B H' h)(fr:h.FunFrames B' l)(u:h.UpToSlots h2):Air P w (frs l) ex H0 h0 B H' h2 :=
 ⟨a.hok,a.keep,a.there,a.free,a.tups,a.frzs,a.tbls,fun b o e n hb hx=>by
  obtain ⟨sl,q⟩:=a.slot b o e n hb hx;obtain ⟨_,o2,q2,hn⟩:=fr.mem hb;rw [q] at q2;cases q2;obtain ⟨sl2,q3⟩:=u b _ q hn;exact ⟨sl2,q3⟩⟩
theorem Air.after {fs' ex':List aq}{h1:bM}(u:Un fs' ex' H0 H1 h0 h1)(a:Air P w fs ex H1 h1 B H' h)(hf:∀b o,h0.get? b=some o→b ∉ fs'→b ∉ fs)(hi:∀b o,h0.get? b=some o→b∈fs'→b∈fs)(hx:∀b o,h0.get? b=some o→b ∉ ex'→b ∉ ex):Air P w fs' ex' H0 h0 B H' h:=by
 apply⟨a.hok,λb o e n hb hxx=>?_,λb o e hb hxx=>?_,λb o e n hxx=>?_,λb xs e=>a.tups b xs (u.tups b xs e),λb o u' e=>a.frzs b o u' (u.frzs b o u' e),λb ps e=>?_,λb o e n hb hxx=>?_⟩
 ·exact a.keep b o (u.keep b o e n hb hxx) (u.free b o e n hxx) (hf b o e hb) (hx b o e hxx)
 ·obtain⟨o',e'⟩:=u.there b o e hxx
  exact a.there b o' e' (hf b o e hb) (hx b o e hxx)
 ·obtain⟨o',e'⟩:=u.there b o e hxx
  exact a.free b o' e' (u.free b o e n hxx) (hx b o e hxx)
 ·obtain⟨m1,e1⟩:=u.tbls b ps e
  obtain⟨m2,e2⟩:=a.tbls b _ e1;exact⟨m1++m2,by rw[e2,Array.append_assoc]⟩
 ·obtain⟨sl,e1⟩:=u.slot b o e n hb hxx
  obtain⟨sl2,e2⟩:=a.slot b _ e1 (u.free b o e n hxx) (hi b o e hb) (hx b o e hxx);exact⟨sl2,e2⟩
end
def CXE (P:aK)(w:bg)(ex:List aq):CXT:=λouter H s E e s'=>∃(x:aq) (cls:af) (dct:Option aq) (B:bM) (H':Hp),e= .ref x∧s'.os=s.os∧AllBare s'.gens∧pe B outer x cls dct s'.heap∧Air P w (frs outer) ex H s.heap B H' s'.heap∧E cls dct H'
abbrev CXN (P:aK)(w:bg):CXT:=CXE P w []
theorem Inv.air1 {x:aq}(I:Inv X aN σ H s)(nx:H x=none):∃B:bM,B.StaysIn s.heap∧s.heap.FunFrames B X.stack∧B.get? x=none∧Air X.prog X.w (frs X.stack) [x] H s.heap B H s.heap:=by
 have hb:∀b o,s.heap.get? b=some o→b ∉ frs X.stack→b≠x→(PySem.W.hideAll s.heap (x::frs X.stack)).get? b=some o:=λb o e n nb=>PySem.W.hideAll_get _ e (by simp[nb,n])
 apply⟨PySem.W.hideAll s.heap (x::frs X.stack),λb o e=>PySem.W.of_hideAll _ e,PySem.W.funFrames_hide I.stack λenv he b hf=>aE _ (gT.mpr ⟨env,he,hf⟩),PySem.W.hideAll_none _ (bh ..),?_⟩;apply⟨λa o e=>(I.hok a o e).stay (λb u hbu q=>hb b u q (λhm=>?_) λz=>?_) (λ_ q=>q) λ_ _ q=>q,λb o e _ n nx'=>hb b o e n (by simpa using nx'),λb o e n nx'=>⟨o,hb b o e n (by simpa using nx')⟩,λ_ _ _ n _=>n,λ_ _ e=>e,λ_ _ _ e=>e,λb ps e=>⟨#[],by simpa using e⟩,λb o e _ _ _=>⟨o.slots,e⟩⟩
 ·have z:=I.stkFree b hm
  rcases hbu with rfl | hbu
  ·rw[e] at z;cases z
  ·rw[hbu] at z;cases z
 ·subst z
  rcases hbu with rfl | hbu
  ·rw[e] at nx;cases nx
  ·rw[hbu] at nx;cases nx
theorem Air.out (I:Inv X aN σ H s)(a:Air X.prog X.w (frs X.stack) ex H s.heap B H' h)(hex:X.ex=[])(hst:X.stack=X.env::X.outer)(hfr:X.env.frame=some X.env.locals)(hx:∀b∈ex,X.s₀.heap.get? b=none) :
  Air X.prog X.w (frs X.outer) [] X.H₀ X.s₀.heap B H' h:=by
 have mem:∀b,b∈frs X.stack↔b=X.env.locals∨b∈frs X.outer:=λb=>by
  unfold frs;rw[hst,ij,hfr];simp
 have old:∀b o,X.s₀.heap.get? b=some o→b≠X.env.locals:=λb o e z=>by
  have h1:=aW e;have h2:=I.ok.above;rw[z] at h1;exact iF _ (ck h1 h2)
 have un:Un (frs X.outer) X.ex X.H₀ H X.s₀.heap s.heap:=I.base;rw[hex] at un;exact Air.after un a (λb o e n z=>((mem b).mp z).elim (old b o e) n) (λb o e hb=>(mem b).mpr (.inr hb)) λb o e _ z=>by have q:=hx b z;rw[e] at q;cases q
structure XDef (X:Cx)(E:XK):Prop where
 ex:X.ex=[]
 stk:X.stack=X.env::X.outer
 fr:X.env.frame=some X.env.locals
 any:∀(aN:List (aq×Obj)) (σ:St) (H:Hp) (s:ar) (e:af) (s':ar) (ex:List aq),Inv X aN σ H s→(∀b∈ex,X.s₀.heap.objs.size≤b)→CXE X.prog X.w ex X.stack H s E e s'→X.xe e s'
 made:∀(aN:List (aq×Obj)) (σ:St) (H:Hp) (s:ar) (x:aq) (ox:Obj) (us:Array af) (z0:af),Inv X aN σ H s→H x=none→X.s₀.heap.get? x=none→s.heap.get? x=some ox→ox.data= .fields us→us[1]? =some .none→us[0]? =some z0→E ox.cls ox.dict H→X.xe (.ref x) s
theorem XDef.pass {E:XK}(D:XDef X E):mB (CXN X.prog X.w) X E:=λaN σ H s e s' I h=>D.any aN σ H s e s' [] I (λb hb=>rQ hb ∅) h
theorem xdef_of {s0:ar}{E:XK} :
  XDef (cxOf (CXN P w) P w K mg base N qual scope f cd A outer s0 H0 E) E:=by
 apply⟨rfl,rfl,rfl,?_,?_⟩
 ·intro aN σ H s e s' ex I hx hc
  obtain⟨x,cls,dct,B,H',rfl,os,bare,al,air,hE⟩:=hc;have out:=Air.out I air rfl rfl rfl λb hb=>bM.get?_none_of_le (hx b hb)
  apply leave_any (env:=envOfC qual scope s0.heap.objs.size f cd) (outer:=outer) I.ok.frames rfl al λg ag u=>?_
  apply⟨x,cls,dct,B,H',rfl,os.trans I.os,bare,ag,Air.up out al.fr.2.2 u,hE⟩
 ·intro aN σ H s x ox us z0 I nx far e1 ed en e0 hE
  obtain⟨B,b1,b2,b3,air⟩:=I.air1 nx;have out:=Air.out I air rfl rfl rfl λb hb=>by rw[aB.mp hb];exact far
  apply first_any (env:=envOfC qual scope s0.heap.objs.size f cd) (outer:=outer) I.ok.frames b2 rfl e1 b1 b3 ed en e0 λg al u=>?_
  exact⟨x,ox.cls,ox.dict,B,H,rfl,I.os,I.bare,al,Air.up out b2.2.2 u,hE⟩
theorem Fun.okX (F:Fun K x qual st f fd)(S:cI N ps (defScope st))(len:∀vs H Q E,sp vs H Q E→vs.length=ps.length)
  (hbody:∀ (cdv:af) (A:cn) (outer:List Env) (s:ar) (H:Hp) (vs:List V) (Q:VK) (E:XK),kA k (A.deeper (envOfC qual (defScope st) s.heap.objs.size f cdv))→XDef (cxOf (CXN P w) P w K mg base N qual (defScope st) f cdv A outer s H E) E→sp vs H Q E →
   ∃ t,PSs (cxOf (CXN P w) P w K mg base N qual (defScope st) f cdv A outer s H E) (kM st) t∧t { nx:=fun _ H'=>Q .non H',rt:=Q } (start N vs) H):c9 P w K mg base (CXN P w) (k+1) f fd ps sp:=by
 obtain⟨oc,od,kV,doc,pm,an,cdv,ct,osl,rfl,lk,hcd⟩:=F.ex;exact fn_of lk hcd S len λA outer s H vs Q E hr hsp=>hbody cdv A outer s H vs Q E hr xdef_of hsp
structure Exc (K:ak)(mg:Str→Option af)(x:Str)(C:aq):Prop where
 mg:mg x=some (.ref C)
 ok:PySem.W.excIn K C [.type "ValueError",.type "Exception",.type "BaseException",.type "object"] "ValueError.__new__" =true
theorem own_at (X:K.In h)(hm:mg x=some (.ref C))(q:PySem.W.excIn K C bmB newId=true):OwnCls x C bmB newId mg h:=by
 apply⟨hm,?_⟩;unfold PySem.W.excIn at q;split at q
 ·rename_i dd cd sl ho
  split at q
  ·rename_i C' bm k0 k1 k2 k3 n k5 h1 h2
   simp only[cv,beq_iff_eq,Bool.not_eq_true'] at q;obtain⟨⟨⟨⟨⟨rfl,rfl⟩,h3⟩,h4⟩,h5⟩,h6⟩:=q;obtain⟨nm,bs,mro,ns,qn,hd,sn,sub,ab,col,del⟩:=cd
   dsimp only at h1 h3 h5 h6
   subst h1 h3;have e:sl= #[k0,k1,k2,k3,some (.builtin n),k5]:=by
    obtain⟨l⟩:=sl;simp only at h2;rw[h2]
   subst e;exact⟨bm,ns,nm,qn,bs,hd,sn,sub,ab,col,dd,k0,k1,k2,k3,k5,_,X _ _ ho,.of_isNs (PySem.W.isNs_of_in X h5),PySem.W.nsMap_none_of_in X h5 h6,PySem.W.tail_of_in X h4⟩
  ·cases q
 ·cases q
abbrev cxBody (X:Cx)(pn:List (aq×Obj))(W:af→ar→Prop):Cx:={ X with pn:=pn,xe:=W }
abbrev qS (X:Cx)(pn:List (aq×Obj))(x:aq):Cx:={ X with A:=X.A.mark (some (.ref x)),calm:=false,pn:=pn,xe:=λ_ _=>False }
def PassAt (CX:CXT)(X:Cx)(σ:St)(E:XK):Prop:=∀(aN:List (aq×Obj)) (H:Hp) (s:ar) (e:af) (s':ar),Inv X aN σ H s→CX X.stack H s E e s'→X.xe e s'
section
variable {pn:List (aq×Obj)}{σ0:St}{E:XK}
theorem pe_callS {p:Pos}(F:c9 X.prog X.w X.K X.mg X.base CX k f fd ps sp)(hr:kA k X.A)(hg:Gl X x)(hm:X.mg x=some (.ref f))(hk:eQ X.K (.ref f)=true)(hb:Binds X.K fd ps ds)(hd:ie dvs ds)(hx:PassAt CX X σ0 E)
  (ha:PA X (e::es) t) (hdb:autoParam ((x == ("__debug__" :Str))=false) L2.au1._auto_1) (he:autoParam (br (e::es) X.env=(false,dY e X.env)::br es X.env) L2.au0._auto_1) (hpl:autoParam ((gI pos (br es X.env)).any (·.1)=false) L2.au0._auto_1) :
  PE X (.Call (.Name x p) (e::es) [] pos) (λσ H Q=>σ=σ0∧tCall sp dvs E t σ H Q):=by
 intro aN s σ H Q I ⟨hσ,h⟩;subst hσ;apply iQ (nh I hg hm ?_ hdb);apply lU (h₀:=X.base) I.ok.mod.kin hk (thn (ha pos aN s σ H _ I h) λus s1 hz0=>?_) he hpl;obtain⟨vs,H1,I1,r,q⟩:=hz0;apply⟨I1.kIn,?_⟩;have r2:=r.append hd;have hl:(us++ds).length=ps.length:=by rw[←r2.length];exact F.len _ _ _ _ q
 apply kZ (kr (F.run X.A X.stack s1 H1 ⟨us,[]⟩ (us++ds) (vs++dvs) Q E hr I1.env0 (hb s1 us I1.kIn hl) r2 q) λr s' hq=>?_);cases r with
 | error e=>exact hx aN H1 s1 e s' I1 hq
 | ok fl =>
  cases fl with
  | ret u=>exact I1.after hq
  | next=>exact eV hq
  | brk=>exact eV hq
  | cont=>exact eV hq
theorem Inv.toBody (I:Inv X aN σ H s):Inv (cxBody X (X.pn++aN) W) [] σ H s :=
 ⟨⟨I.ok.mod,I.ok.kind,I.ok.glob,I.ok.blt,I.ok.above,I.ok.inj,I.ok.has,I.ok.cab,I.ok.hd,I.ok.frames,I.ok.stk,I.ok.exf,I.ok.bs,I.ok.bsz,I.ok.noex,I.ok.exfs,I.ok.funs,I.ok.frf⟩,I.os,I.bare,I.base,I.loc,I.cell,I.free,I.freeC,by rw[cz];exact I.pin,I.hok,I.len⟩
theorem Inv.ofBody {more:List (aq×Obj)}(I:Inv (cxBody X (X.pn++aN) W) more σ H s):Inv X aN σ H s :=
 ⟨⟨I.ok.mod,I.ok.kind,I.ok.glob,I.ok.blt,I.ok.above,I.ok.inj,I.ok.has,I.ok.cab,I.ok.hd,I.ok.frames,I.ok.stk,I.ok.exf,I.ok.bs,I.ok.bsz,I.ok.noex,I.ok.exfs,I.ok.funs,I.ok.frf⟩,I.os,I.bare,I.base,I.loc,I.cell,I.free,I.freeC,λp hp=>I.pin p (cB _ hp),I.hok,I.len⟩
theorem Inv.toHand {x:aq}(I:Inv X aN σ H s):Inv (qS X (X.pn++aN) x) [] σ H s :=
 ⟨⟨I.ok.mod,I.ok.kind,I.ok.glob,I.ok.blt,I.ok.above,I.ok.inj,I.ok.has,I.ok.cab,(λz=>nomatch z),I.ok.frames,I.ok.stk,I.ok.exf,I.ok.bs,I.ok.bsz,I.ok.noex,I.ok.exfs,I.ok.funs,I.ok.frf⟩,I.os,I.bare,I.base,I.loc,I.cell,I.free,I.freeC,by rw[cz];exact I.pin,I.hok,I.len⟩
theorem Inv.ofHand {x:aq}{more:List (aq×Obj)}(ok:X.Ok)(I:Inv (qS X (X.pn++aN) x) more σ H s):Inv X aN σ H s :=
 ⟨ok,I.os,I.bare,I.base,I.loc,I.cell,I.free,I.freeC,λp hp=>I.pin p (cB _ hp),I.hok,I.len⟩
theorem SP.mono {Y:Cx}{D:rM}{f:Flow}(k:∀σ H,Inv Y pins' σ H s→Inv X aN σ H s)(h:SP Y pins' D f s):SP X aN D f s:=by
 cases f with
 | next=>obtain⟨σ,H,I,q⟩:=h;exact⟨σ,H,k _ _ I,q⟩
 | brk=>obtain⟨σ,H,I,q⟩:=h;exact⟨σ,H,k _ _ I,q⟩
 | cont=>obtain⟨σ,H,I,q⟩:=h;exact⟨σ,H,k _ _ I,q⟩
 | ret u=>obtain⟨v,σ,H,I,q⟩:=h;exact⟨v,σ,H,k _ _ I,q⟩
theorem Inv.landed {x:aq}{cls:af}(I:Inv X aN σ H s)(os:s'.os=s.os)(bare:AllBare s'.gens)(al:pe B X.stack x cls dct s'.heap)(air:Air X.prog X.w (frs X.stack) [] H s.heap B H' s'.heap):Inv X aN σ H' s' :=
 I.call' (ch:=[]) os (air.un al.st λb hb=>I.stkFree b hb) (λa o e=>(air.hok a o e).stay (λb v _ q=>al.st b v q) (λ_ q=>q) λ_ _ q=>q) bare λb hb=>rQ hb ∅
end
theorem gone_ok {Q:Unit→ar→Prop}(I:Inv X aN σ H s)(nd:X.N.Nodup)(at_:X.N[i]? =some x)(lc:X.env.scope.names.lookup x=some .local)
  (next:∀s',Inv X aN (σ.set i none) H s'→Q () s'):aY M A (do bindName X.env x .none;unbindBehindTheSuite X.env x pos) Q E s:=by
 obtain⟨m,nsm,look⟩:=id I.loc;have fk:(X.env.scope.kind == .class || (X.env.scope.kind == .module && X.env.locals != X.env.globals))=false:=by rw[I.ok.kind];rfl
 have il:i<σ.length:=by rw[I.len];exact(ai.mp at_).1
 apply wpAny_nameGoes_keeps lc nsm fk λg w nsg sb=>next _ ?_
 obtain⟨oL,_,_,eL,_⟩:=id nsm;have low:∀b o,X.s₀.heap.get? b=some o→b≠X.env.locals:=λb o e=>cG (ck (aW e) I.ok.above)
 have far:∀b o,b≠X.env.locals→s.heap.get? b=some o→g.get? b=some o:=λb o n e=>(sb.2 b n).trans e
 have un:Un X.fs X.ex X.H₀ H X.s₀.heap g :=
  {keep:=fun b o e n f x'=>far b o (low b o e) (I.base.keep b o e n f x')
   slot:=λb o e n f x'=>(I.base.slot b o e n f x').imp λsl q=>far b _ (low b o e) q
   free:=I.base.free
   there:=λb o e x'=>(I.base.there b o e x').imp λo' q=>far b o' (low b o e) q
   tups:=I.base.tups
   frzs:=I.base.frzs
   tbls:=I.base.tbls }
 have hk:HOk X.prog X.w H g:=fun a o e=>(I.hok a o e).stay (fun c o' hc q=>far c o' (by
  rintro rfl
  rcases hc with rfl | hc
  ·rw[I.free] at e;cases e
  ·rw [I.free] at hc;cases hc) q) (fun _ q=>q) fun _ _ q=>q
 apply⟨I.ok,I.os,I.bare,un,⟨_,nsg,λj y u e1 e2 e3=>?_⟩,λy c e=>?_,I.free,I.freeC,λp hp=>?_,hk,by simpa using I.len⟩
 ·by_cases hj:j=i
  ·subst hj
   rw[kS il] at e2;cases e2
  ·rw[List.getElem?_set_ne (cQ hj)] at e2
   obtain⟨u',r',l'⟩:=look j y u e1 e2 e3;apply⟨u',r',?_⟩
   rcases l' with ⟨k1,k2⟩ | ⟨k1,c,k2,k3⟩
   ·apply .inl ⟨k1,?_⟩
    have ne:y≠x:=λz=>hj (nodup_ix nd e1 (z ▸ at_))
    simp[ne,k2]
   ·exact .inr ⟨k1,c,k2,k3.sameBut sb (I.cne y c k2)⟩
 ·obtain⟨w',z⟩:=I.cell y c e
  exact⟨w',z.sameBut sb (I.cne y c e)⟩
 ·obtain⟨e,n,nl,nf,d⟩:=I.pin p hp
  exact⟨far p.1 p.2 nl e,n,nl,nf,d⟩
def pI (a C:aq)(d:Option aq):HO:= .ext λh=>∃o us,h.get? a=some o∧o.cls= .ref C∧o.dict=d∧o.data= .fields us
theorem Inv.landedAs {x:aq}(I:Inv X aN σ H s)(os:s'.os=s.os)(bare:AllBare s'.gens)(al:pe B X.stack x (.ref C) dct s'.heap)(air:Air X.prog X.w (frs X.stack) [] H s.heap B H' s'.heap):H' x=none∧Inv X aN σ (upd H' x (pI x C dct)) s':=by
 have free:H' x=none:=by
  cases q:H' x with
  | none=>rfl
  | some o =>
   obtain⟨u,e⟩:=iZ.seat (air.hok x o q);rw[al.no] at e;cases e
 obtain⟨a0,fl,ox,vx,T,ot,vt,e1,⟨ec,_⟩,e2,_⟩:=id al.tr;have edc:ox.dict=dct:=by
  obtain⟨o,p,r⟩:=al.dc;rw[e1] at p;cases p;exact r
 have new:s.heap.get? x=none:=by
  cases q:s.heap.get? x with
  | none=>rfl
  | some o =>
   by_cases hf:x∈frs X.stack
   ·obtain⟨_,o2,q2,hn⟩:=al.fr.mem hf
    rw[e1] at q2;cases q2;exact rQ e2 (hn vx)
   ·obtain⟨o',e'⟩:=air.there x o q hf ∅
    rw[al.no] at e';cases e'
 have un:=air.un al.st λb hb=>I.stkFree b hb
 have hok:HOk X.prog X.w H' s'.heap:=λa o e=>(air.hok a o e).stay (λb v _ q=>al.st b v q) (λ_ q=>q) λ_ _ q=>q
 apply⟨free,I.call' (ch:=[]) os { keep:=un.keep,slot:=un.slot,free:=λb o e n hx=>?_,there:=un.there,tups:=λb xs e=>?_,frzs:=λb o u e=>?_,tbls:=λb ps e=>?_ } (hok.take free ⟨⟨ox,vx,e1,ec,edc,e2⟩,⟨ox,e1⟩,λh1 h2 ⟨o,us,p1,p2⟩ k=>⟨o,us,k o p1,p2⟩⟩) bare λb hb=>rQ hb ∅⟩
 ·rw[aX (λz=>by rw[z,new] at e;cases e)]
  exact un.free b o e n hx
 ·have q:=un.tups b xs e
  rw[aX (aR q free)];exact q
 ·have q:=un.frzs b o u e
  rw[aX (aR q free)];exact q
 ·obtain⟨more,q⟩:=un.tbls b ps e
  exact⟨more,by rw[aX (aR q free)];exact q⟩
structure Under (K:ak)(C D:aq):Prop where
 up:k8 K C (.ref D)=some true
theorem match_up {nm' q':Str}{N':aq}{bs' bm':List af}{hdct':Bool}{sn':List Str}{sub':List af}{ab':Bool}{col':Option Bool}{dd':Option aq}{j0 j1 j2 j3 j5:Option af}{newId':String}
  {g:Array GenState} {d:Drawn} {t:Nat} {os:OsState} {e:aq} {oe:Obj} {Q:Bool→ar→Prop} (kin:K.In h) (up:k8 K C (.ref D)=some true)
  (hD:h.get? D=some (excClassObj nm' q' D N' bs' bm' hdct' sn' sub' ab' col' dd' j0 j1 j2 j3 j5 newId')) (he:h.get? e=some oe) (hcls:oe.cls= .ref C) (hbase:bm'.contains (.type "BaseException")=true)
  (hq:Q true ⟨h,g,d,t,os⟩):aY M A (excMatches (.ref e) (.ref D)) Q E ⟨h,g,d,t,os⟩:=by
 have b1:(af.ref D::bm').contains (.type "BaseException")=true:=by rw[List.contains_cons,hbase,Bool.or_true]
 have f:=tc_notTuple;unfold excMatches
 repeat (first | (with_reducible apply jb he ?_;rw[hcls]) | with_reducible apply jb hD ?_ | (with_reducible apply wpAny_isSubtype_exc hD ?_;rw[b1]) | (with_reducible apply PySem.W.Looks.at (PySem.W.looks_mroIn kin up) ?_) | wp_step)
 exact hq
theorem ps_tryAs {n:Str}{iN:Nat}{np hp:Pos}{suite:List c8}{b₀:c8}{tb:St→XK→TS}{th:TS}(stk:X.stack=X.env::X.outer)(fr:X.env.frame=some X.env.locals)(nd:X.N.Nodup)(at_:X.N[iN]? =some n)(lc:X.env.scope.names.lookup n=some .local)(T:Exc X.K X.mg x D)
  (hb:∀(pn:List (aq×Obj)) (W:af→ar→Prop) (σ:St) (E:XK),PassAt (CXN X.prog X.w) (cxBody X pn W) σ E→PSs (cxBody X pn W) body (tb σ E)) (hh:∀(pn:List (aq×Obj)) (e:aq),PSs (qS X pn e) (b₀::suite) th) (hg:autoParam (Gl X x) L2.au0._auto_1) (hd:autoParam ((x == ("__debug__" :Str))=false) L2.au1._auto_1) :
  PS X (.Try body [.ExceptHandler (some (.Name x np)) (some n) (b₀::suite) hp] [] [] pos) (λDn σ H=>tb σ (λcls dct H'=>∃C,cls= .ref C∧Under X.K C D∧∀a,H' a=none→th { Dn with nx:=λσ' H''=>Dn.nx (σ'.set iN none) H'',bk:=λσ' H''=>Dn.bk (σ'.set iN none) H'',ct:=λσ' H''=>Dn.ct (σ'.set iN none) H'' } (σ.set iN (some (.ref a))) (upd H' a (pI a C dct))) Dn σ H):=by
 intro aN s σ H Dn I h;apply wpAny_Try_except (dG (hb (X.pn++aN) (λe s₁=>aY (bF X.prog X.w) X.A (noteFrame e X.env) (λ_ s₂=>aY (bF X.prog X.w) X.A (setFlight e none) (λ_ s₃=>aY (bF X.prog X.w) X.A (handleBy e X.env [.ExceptHandler (some (.Name x np)) (some n) (b₀::suite) hp]) (SP X aN Dn) X.xe s₃) X.xe s₂) X.xe s₁) σ _ ?_ [] s σ H Dn I.toBody h) (λf s1 q=>?_) λ_ _ q=>q)
 ·intro pins' H1 s1 e s2 I1 hc
  obtain⟨a,cls,dct,B,H2,rfl,os,bare,al,air,C,rfl,U,hth⟩:=hc;have I1:Inv X aN σ H1 s1:=Inv.ofBody I1;have al:pe B X.stack a (.ref C) dct s2.heap:=al;have air:Air X.prog X.w (frs X.stack) [] H1 s1.heap B H2 s2.heap:=air;have hfr:X.A.frames=some (X.env::X.outer):=by rw[←stk];exact I.ok.frames
  have al':pe B (X.env::X.outer) a (.ref C) dct s2.heap:=by rw[←stk];exact al
  apply note_any hfr fr al' λg hgd u=>?_
  have hgd:pe B X.stack a (.ref C) dct g:=by rw[stk];exact hgd
  have air1:Air X.prog X.w (frs X.stack) [] H1 s1.heap B H2 g:=Air.up air al.fr u;apply set_any (s:={ s2 with heap:=g }) hgd λg2 al2 u2=>?_
  have air2:Air X.prog X.w (frs X.stack) [] H1 s1.heap B H2 g2:=Air.up air1 hgd.fr u2;have I2:Inv X aN σ H2 { s2 with heap:=g2 }:=I1.landed (s':={ s2 with heap:=g2 }) os bare al2 air2;have I2h:Inv (qS X (X.pn++aN) a) [] σ H2 { s2 with heap:=g2 }:=I2.toHand;apply wpAny_handleBy_cons (codeAny_handlers_test ?_) (by intro q;cases q);apply nh (X:=qS X (X.pn++aN) a) I2h hg T.mg ?_ hd;obtain⟨tl,N,nm,q,bs,hdct,sn,sub,ab,col,dd,k0,k1,k2,k3,k5,mN,hC,hN,hni,TL⟩:=(own_at I.ok.mod.kin T.mg T.ok).obj;obtain⟨b0,fl,tr⟩:=id al2.tr;obtain⟨ob,hob,hobc⟩:=tr.there;apply match_up I2.kIn U.up (I2.bk _ _ hC) hob hobc (TL.hasType rfl) (codeAny_handlers_suite_as ?_);apply set_any (s:={ s2 with heap:=g2 }) al2 λg3 al3 u3=>?_
  have air3:Air X.prog X.w (frs X.stack) [] H1 s1.heap B H2 g3:=Air.up air2 al2.fr u3;obtain⟨fre,I3⟩:=I1.landedAs (s':={ s2 with heap:=g3 }) os bare al3 air3;have I3h:Inv (qS X (X.pn++aN) a) [] σ (upd H2 a (pI a C dct)) { s2 with heap:=g3 }:=I3.toHand;apply store_ok (X:=qS X (X.pn++aN) a) (v:= .ref a) I3h nd at_ (.inl lc) rfl (λs5 I5=>?_) (.inr lc);apply dG (hh (X.pn++aN) a [] _ _ _ _ I5 (hth a fre)) (λf s6 q=>?_) λ_ _ z=>eV z
  cases f with
  | next=>obtain⟨σ6,H6,I6,q6⟩:=q;exact gone_ok (Inv.ofHand I.ok I6) nd at_ lc λs7 I7=>⟨_,_,I7,q6⟩
  | brk=>obtain⟨σ6,H6,I6,q6⟩:=q;exact gone_ok (Inv.ofHand I.ok I6) nd at_ lc λs7 I7=>⟨_,_,I7,q6⟩
  | cont=>obtain⟨σ6,H6,I6,q6⟩:=q;exact gone_ok (Inv.ofHand I.ok I6) nd at_ lc λs7 I7=>⟨_,_,I7,q6⟩
  | ret u=>obtain⟨v,σ6,H6,I6,r6,q6⟩:=q;exact gone_ok (Inv.ofHand I.ok I6) nd at_ lc λs7 I7=>⟨v,_,_,I7,r6,q6⟩
 ·have q:SP X aN Dn f s1:=SP.mono (λ_ _ Ib=>Inv.ofBody Ib) q
  cases f with
  | next=>exact aJ q
  | brk=>exact q
  | cont=>exact q
  | ret u=>exact q
end L2
namespace L2
open PySem PySem.Spec PySem.W PyProof.Rows
structure XCls (K:Frag)(C:aq):Prop where
 ga:findIn K (.ref C) "__getattribute__" =some (some (.builtin "BaseException.__getattribute__"))
 gh:findIn K (.ref C) "__getattr__" =some none
 cl:findIn K (.ref C) "__class__" =some (some (.builtin "object.__class__"))
 gt:specialIn K (.builtin "object.__class__") "__get__" =some (some (.builtin "getset_descriptor.__get__"))
 tk:takesIn K (.builtin "object.__class__")=some true
 ob:mroIn K C (.type "object")=some true
 bx:mroIn K C (.type "BaseException")=some true
 dc:hasDictIn K C=true
section
variable {K:Frag}{x:aq}{od:Option Obj}
theorem x_check {nv:af}{Q:Unit→ar→Prop}(kin:K.In s.heap)(I:InstAt s.heap x ox C od)(T:XCls K C)(q:Q () s):aY (bF prog w) A (checkBuiltinCall "BaseException.__getattribute__" ⟨[.ref x,nv],[]⟩) Q E s:=by
 obtain⟨hh,g,d,t,os⟩:=s;have k1:builtinKind "BaseException.__getattribute__" =some .slot:=by trivial
 have k2:splitId "BaseException.__getattribute__" =some ("BaseException","__getattribute__"):=by trivial
 have L0:=I.type (M:=bF prog w);have L1:=looks_mroIn (M:=bF prog w) kin T.bx;have LI:Looks (bF prog w) hh (isInstance (.ref x) (.type "BaseException")) true:=L0.andThen L1;have ha:=F.args_bexc_ga (.ref x) nv;simp only[checkBuiltinCall,k1,k2];apply aj (LI.at ?_)
 repeat (any_goals (first | assumption | wp_step))
theorem x_value {v:af}{Q:Fin→ar→Prop}(kin:K.In s.heap)(I:InstAt s.heap x ox C od)(hf:findObj K C od name=some (.value v))(q:Q (.done (.ret v)) s) :
  aY (bF prog w) A (dC.«object.__getattribute__» ⟨[.ref x,.str name tk],[]⟩) Q E s:=by
 obtain⟨hh,g,d,t,os⟩:=s;have L0:=I.type (M:=bF prog w);have L1:=looks_find (M:=bF prog w) kin I hf;apply aj (aJ (aj (aJ (aj (L0.at (aj (L1.at ?_)))))));exact aJ q
theorem x_bind {gv a:af}{P:af→ar→Prop}(kin:K.In s.heap)(I:InstAt s.heap x ox C od)(hf:findObj K C od name=some (.bind gv a))(q:aY (bF prog w) A (call gv [a,.ref x,.ref C]) P E s) :
  aY (bF prog w) A (dC.«object.__getattribute__» ⟨[.ref x,.str name tk],[]⟩) (λfin s'=>match fin with | .done (.ret v)=>P v s' | _=>False) E s:=by
 obtain⟨hh,g,d,t,os⟩:=s;have L0:=I.type (M:=bF prog w);have L1:=looks_find (M:=bF prog w) kin I hf;apply aj (aJ (aj (aJ (aj (L0.at (aj (L1.at ?_)))))));show aY _ _ (holding [a] (call gv [a,.ref x,.ref C]) >>= ret) _ _ _;exact aj (hI (dG q (λv s' z=>aJ z) λ_ _ z=>z))
theorem x_by {fill ex:Bool}(kin:K.In s.heap)(I:InstAt s.heap x ox C od)(T:XCls K C)
  (q:aY (bF prog w) A.in1 (dC.«object.__getattribute__» ⟨[.ref x,.str name tk],[]⟩) (λfin s'=>match fin with | .done (.ret v)=>aY (bF prog w) A (handedOut v) Q E s' | _=>False) (λ_ _=>False) s) :
  aY (bF prog w) A (getAttrBy (.ref x) (.str name tk) fill ex) Q E s:=by
 obtain⟨hh,g,d,t,os⟩:=s;have L0:=I.type (M:=bF prog w);have L1:=looks_findIn (M:=bF prog w) kin T.ga;have L2:=looks_findIn (M:=bF prog w) kin T.gh;have f3:=F.excAttr_ValueError.ga.bind (.ref x);have hx0:(ex && onTheHeap (af.builtin "BaseException.__getattribute__"))=false:=by cases ex <;> rfl
 unfold getAttrBy;apply hI (aj (L0.at (aj (L1.at ?_))));show aY _ _ (getAttrByItsOwn _ _ _ _ _ _) _ _ _;unfold getAttrByItsOwn;apply aj (L2.at ?_);apply aj (lV (hI ?_));unfold callGetattribute;rw[rO (by rw[hx0];decide)];unfold boundAndCalled;rw[f3];apply aj (aJ ?_);apply kZ (ma F.excAttr_ValueError.ga.plain F.entry_bexc_ga (x_check kin I T ?_));apply dG q (λfin s' z=>?_) λ_ _ z=>z.elim
 rcases fin with (_ | _ | _ | _) | _ <;> first | exact z | exact z.elim
end
section
variable {K:Frag}{x:aq}
theorem xfind {od:Option Obj}{a g:af}(hc:(clsIn K C).isSome=true)(ha:findIn K (.ref C) name=some (some a))(hg:specialIn K a "__get__" =some (some g))(ht:takesIn K a=some true):findObj K C od name=some (.bind g a):=by
 obtain⟨cd,hc⟩:=Option.isSome_iff_exists.mp hc;unfold findObj;rw[hc,Option.bind_some,ha,Option.bind_some];simp[hg,ht]
theorem XCls.cls (T:XCls K C):∃cd,clsIn K C=some cd:=by
 obtain⟨cd,hc,_⟩:=any_some T.dc;exact⟨cd,hc⟩
def XAt (x C:aq)(h:bM):Prop:=∃ox od,InstAt h x ox C od
theorem kitx_exc (T:XCls K C):KitX K (.ref x) (.ref C) (XAt x C) where
 ty:=λ_ _ _ p=>by
  obtain⟨ox,od,I⟩:=p;exact I.type
 it:=λ_ _ kin _=>by
  obtain⟨cd,hc⟩:=T.cls;unfold clsIn at hc;split at hc
  ·rename_i ho
   intro A' Q' E' s' k q;unfold isType loadHead;exact aj (wpAny_loadPart (k _ _ (kin _ _ ho)) (aJ q))
  ·cases hc
 ne:=λh tp dd its n sl kin htp=>by
  obtain⟨cd,hc⟩:=T.cls;apply gF.mpr λq=>?_
  have e:C=tp:=af.ref.inj (beq_iff_eq.mp q);subst e;unfold clsIn at hc;split at hc
  ·rename_i ho
   have z:=(kin _ _ ho).symm.trans htp;cases z
  ·cases hc
 ca:=λ{prog w A E Q s} kin p k=>by
  obtain⟨ox,od,I⟩:=p;obtain⟨cd,hc⟩:=T.cls;have hf:findObj K C od "__class__" =some (.bind (.builtin "getset_descriptor.__get__") (.builtin "object.__class__")):=xfind (by rw[hc];rfl) T.cl T.gt T.tk;unfold getAttr? getAttrBy?;apply aj (wpAny_mkText (aj (lV ?_)));apply x_by (s:={ s with toks:=s.toks+1 }) kin I T (x_bind (s:={ s with toks:=s.toks+1 }) kin I hf (kZ (class_get (s:={ s with toks:=s.toks+1 }) kin I T.ob ?_)));exact handed_on rfl (aJ k)
end
def XD (D:aq)(fs:List (Str×V)):HO:= .ext λh=>∃mA,h.Ns1 D mA∧(∀f,pZ (fs.lookup f) (mA f))∧PySem.Within mA (fs.map (·.1))
theorem Inv.xat (I:Inv X aN σ H s)(e:H a=some (pI a C d))(hd:∀D,d=some D→∃fs,H D=some (XD D fs)):XAt a C s.heap:=by
 obtain⟨⟨o,us,p1,p2,p3,p4⟩,_,_⟩:=I.hok a _ e;cases d with
 | none=>exact⟨o,none,p1,p2,by unfold notCls;rw[p4],by rw[p3];trivial⟩
 | some D =>
  obtain⟨fs,q⟩:=hd D rfl;obtain⟨⟨mA,⟨od,es,ep,q1,_⟩,_⟩,_⟩:=I.hok D _ q;exact⟨o,some od,p1,p2,by unfold notCls;rw[p4],by rw[p3];exact q1⟩
theorem call_isx:jU X (.builtin "isinstance") (λxs H Q=>∃a C d b,(∃D,xs=[.ref a,.ref D]∧kitOne X.K (.ref C) (.ref D)=some b)∧H a=some (pI a C d)∧(∀D,d=some D→∃fs,H D=some (XD D fs))∧XCls X.K C∧Q (.bl b) H):=by
 intro aN s σ H vs us Q I r h;obtain⟨a,C,d,b,⟨D,rfl,ek⟩,e,hd,T,q⟩:=h;cases r with
 | cons r1 r =>
 cases r with
 | cons r2 r =>
 cases r;rename_i u1 u2;obtain rfl:u1=af.ref a:=r1;obtain rfl:u2=af.ref D:=r2;exact kia_one (kitx_exc T) I.kIn (I.xat e hd) ek nofun λtk=>⟨.bl b,H,I.tok tk,rfl,q⟩
theorem pe_xfld {f:Str}(he:PE X e ta)(hb:ia e f X.env (dY e X.env)=dY e X.env) :
  PE X (.Attribute e f pos) (λσ H Q=>ta σ H λx H1=>∃a C D fs v,x= .ref a∧H1 a=some (pI a C (some D))∧H1 D=some (XD D fs)∧XCls X.K C∧kK X.K C f∧fs.lookup f=some v∧Q v H1):=by
 intro aN s σ H Q I h;apply attr_of hb (thn (he aN s σ H _ I h) λu s1 hz0=>?_);obtain⟨x,H1,I1,rx,a,C,D,fs,v,ex,ea,eD,T,n,l,q⟩:=hz0;subst ex;obtain rfl:u=af.ref a:=rx;obtain⟨⟨o,us,p1,p2,p3,p4⟩,_,_⟩:=I1.hok a _ ea;obtain⟨⟨mA,ns,rl,_⟩,_⟩:=I1.hok D _ eD;obtain⟨od,q1,q2⟩:=qE ns;obtain⟨u,hu,ru⟩:=pZ.some_of (v:=v) (o:=mA f) (by rw[←l];exact rl f);have J:InstAt s1.heap a o C (some od):=⟨p1,p2,by unfold notCls;rw[p4],by rw[p3];exact q1⟩;unfold getAttr;apply aj (wpAny_mkText ?_);apply x_by (s:={ s1 with toks:=s1.toks+1 }) I1.kIn J T (x_value (s:={ s1 with toks:=s1.toks+1 }) (v:=u) I1.kIn J (findObj_own T.dc n rfl (by rw[q2,hu])) ?_);exact handed_on (handed_of ru) ⟨v,H1,I1.tok _,ru,q⟩
def xNew (h:bM)(C:aq)(us:List af):bM:=(h.push { cls:= .type "tuple",data:= .seq us.toArray }).push { cls:= .ref C,data:= .fields #[.ref h.objs.size,.none,.none,.none,.bool false,.none] }
theorem oE {b:aq}{o:Obj}(e:h.get? b=some o):(xNew h C us).get? b=some o:=au _ (au _ e)
theorem xNew_at:(xNew h C us).get? (h.objs.size+1)=some { cls:= .ref C,data:= .fields #[.ref h.objs.size,.none,.none,.none,.bool false,.none] }:=by
 unfold xNew;exact bM.get?_push_at (by rw[eF]) rfl
section
variable {g:Array GenState}{d:Drawn}{t:Nat}{os:OsState}
variable {nm q:Str}{N fI:aq}{bs bm:List af}{sn:List Str}{ab:Bool}{k0 k1 k2 k3 k5:Option af}{B initId:String}{oI:Obj}
theorem xcall_type {Q:Fin→ar→Prop}(F:ExcBaseFacts B newId initId bmB)(T:OwnTail h bmB bm)(hC:h.get? C=some (excClassObj nm q C N bs bm hdct sn sub ab col dd k0 k1 k2 k3 k5 newId))
  (kl:Looks (bF prog w) h (typeLookup (.ref C) "__init__") (some (.ref fI))) (hf:h.get? fI=some oI) (hc:oI.cls= .type "function") (hlen:us.length≤az)
  (k:aY (bF prog w) A (call (.ref fI) (.ref (h.objs.size+1)::us)) (λr s'=>r= .none∧Q (.done (.ret (.ref (h.objs.size+1)))) s') E ⟨xNew h C us,g,d,t,os⟩) :
  aY (bF prog w) A (dC.«type.__call__» ⟨.ref C::us,[]⟩) Q E ⟨h,g,d,t,os⟩:=by
 repeat (first | with_reducible apply jb hC ?_ | with_reducible apply wpAny_madeBy_exc hC ?_ | wp_step)
 apply codeAny_call_builtin_code (Code.quiet_builtin _ F.quiet) (wpAny_check_new_subT F T hC (codeAny_exc_new_subT F T hC ?_ hlen));show aY _ _ _ _ _ (⟨xNew h C us,g,d,t,os⟩:ar);have c1:(xNew h C us).get? C=_:=oE hC;have x1:=xNew_at (h:=h) (C:=C) (us:=us);have f1:(xNew h C us).get? fI=some oI:=oE hf;have l1:=kl.keeps (h':=xNew h C us) λb o e=>oE e
 have inn:(af.ref C::bm).contains (.ref C)=true:=by simp
 generalize xNew h C us=h1 at k c1 x1 f1 l1 ⊢;unfold isInstance
 repeat (first | with_reducible apply jb x1 ?_ | (with_reducible apply wpAny_isSubtype_exc c1 ?_;rw[inn]) | wp_step)
 show aY _ _ (typeLookup (.ref C) _) _ _ _;apply l1.at ?_;apply hI (aj ?_);unfold bindSpecial;apply aj (wpAny_typeOf (T := "function") ⟨_,f1,hc⟩ ?_);rw[rP ↥0];apply aJ (aj (dG k (λr s' hr=>?_) λ_ _ z=>z));obtain⟨rfl,hQ⟩:=hr
 wp_walk
 exact hQ
theorem xcall (F:ExcBaseFacts B newId initId bmB)(T:OwnTail h bmB bm)(hC:h.get? C=some (excClassObj nm q C N bs bm hdct sn sub ab col dd k0 k1 k2 k3 k5 newId))
  (kl:Looks (bF prog w) h (typeLookup (.ref C) "__init__") (some (.ref fI))) (hf:h.get? fI=some oI) (hc:oI.cls= .type "function") (hlen:us.length≤az)
  (k:aY (bF prog w) (A.under (.builtin "type.__call__" ⟨.ref C::us,[]⟩)) (call (.ref fI) (.ref (h.objs.size+1)::us)) (λr s'=>r= .none∧Q (.ref (h.objs.size+1)) s') E ⟨xNew h C us,g,d,t,os⟩) :
  aY (bF prog w) A (call (.ref C) us) Q E ⟨h,g,d,t,os⟩:=by
 have z1:=tc_lookup;have z2:=tc_bind (.ref C);have z3:(⟨h,g,d,t,os⟩:ar).TypeIs (.ref C) "type" := ⟨_,hC,rfl⟩;apply kZ (codeAny_of_tree ?_);show aY _ _ (callAny (.ref C) _) _ _ _
 repeat (any_goals (first | assumption | with_reducible apply jb hC ?_ | wp_step))
 apply⟨rfl,codeAny_call_builtin_at (Code.quiet_builtin _ ⇑0) entry_typeCall (wpAny_check_type_call_sub hC (xcall_type F T hC kl hf hc hlen ?_))⟩;exact k
end
end L2
namespace L2
open PySem PySem.Spec PySem.W PyProof.Rows Builtin Builtin.ObjectAttr
section
variable {K:Frag}{x P:aq}{od:Option Obj}
theorem x_open {v:af}(kin:K.In s.heap)(J:InstAt s.heap x ox C od)(hm:Looks (bF prog w) s.heap (mroOf (.ref C)) (.ref C:: .ref P::bmVE))(ob:mroIn K C (.type "object")=some true)(na:findIn K (.ref C) name=some none)
  (k:aY (bF prog w) A.in1 (storeInOwnDict (.ref x) (.ref C) (.str name tk) name v false)
   (fun fin s'=>match fin with | .done f=>R (.ok f) s' | .again c'=>c'.quiet=true∧codeAny (bF prog w) A c' R s') (fun e s'=>R (.error e) s') s) :
  codeAny (bF prog w) A (.call (.builtin "object.__setattr__") ⟨[.ref x,.str name tk,v],[]⟩) R s:=by
 have SF:=PySem.F.store_ValueError;have LI:Looks (bF prog w) s.heap (isInstance (.ref x) (.type "object")) true:=J.type.andThen (looks_mroIn kin ob);apply ma SF.slot.plain SF.entry (@check_slot (bF prog w) _ _ s "object.__setattr__" "object" "__setattr__" (.ref x) [.str name tk,v] [] _ SF.kind SF.split LI (SF.args (.ref x) (.str name tk) v) ?_);rw[osa_eq,refuse_eq];apply aj (aj (J.type.here (aj (hm.here ?_))));rw[refuseLoop_ref,refuseLoop_ref,SF.passes];exact aJ (aj (J.type.here (aj ((looks_findIn kin na).here (aj (aJ k))))))
theorem x_set0 {v:af}{us:Array af}{Q:Unit→ar→Prop}(kin:K.In s.heap)(T:XCls K C)(hs:findIn K (.ref C) "__setattr__" =some (some (.builtin "object.__setattr__")))(hm:Looks (bF prog w) s.heap (mroOf (.ref C)) (.ref C:: .ref P::bmVE))(na:findIn K (.ref C) name=some none)
  (e1:s.heap.get? x=some ⟨.ref C,none,.fields us,ox.slots⟩)
  (k:∀h' tk,h'.Ns1 s.heap.objs.size (λy=>if y=name then some v else none)→h'.get? x=some ⟨.ref C,some s.heap.objs.size,.fields us,ox.slots⟩→(∀b o,b≠x→s.heap.get? b=some o→h'.get? b=some o)→Q () { s with heap:=h',toks:=tk }) :
  aY (bF prog w) A (setAttr (.ref x) name v) Q E s:=by
 have J:InstAt s.heap x ⟨.ref C,none,.fields us,ox.slots⟩ C none:=⟨e1,rfl,rfl,trivial⟩;apply set_plain kin J hs (x_open (s:={ s with toks:=s.toks+1 }) kin J hm T.ob na ?_);obtain⟨cd,hc,hd⟩:=any_some T.dc;obtain⟨hh,g,dr,t,os⟩:=s;apply aj (aJ (aj (aj (wpAny_loadPart e1 (aj ((looks_clsIn kin hc).at ?_))))));rw[hd];simp only[Bool.not_true,Bool.false_eq_true,if_false];rw[rO (by simp[typeHasDict])];have x1:(hh.push { cls:= .type "dict",data:= .dict #[] }).get? x=some ⟨.ref C,none,.fields us,ox.slots⟩:=au _ e1;have xs:x≠hh.objs.size:=cG (aW e1);apply aj (wpAny_alloc' (aj (wpAny_update' x1 (aJ ?_))));have d2:((hh.push { cls:= .type "dict",data:= .dict #[] }).update x λo=>{ cls:=o.cls,dict:=some hh.objs.size,data:=o.data,slots:=o.slots }).get? hh.objs.size=some { cls:= .type "dict",data:= .dict #[] } :=
  (bM.get?_update_ne _ _ _ _ xs.symm).trans (bM.get?_push_at rfl rfl)
 have n2:((hh.push { cls:= .type "dict",data:= .dict #[] }).update x λo=>{ cls:=o.cls,dict:=some hh.objs.size,data:=o.data,slots:=o.slots }).Ns hh.objs.size (λ_=>none):=⟨_,#[],_,d2,rfl,λe he=>rQ he ∅,λ_=>rfl⟩;show aY _ _ (storeInDict hh.objs.size (.str name t) name v) _ _ _;unfold storeInDict newKeyGuard;apply aj (aJ (aj (wpAny_nsSet1 (bM.Ns1.of_empty n2) λh' n3 same=>?_)));obtain⟨oD,eD,pD,gD,hD,cD⟩:=n3.count (Within.cons name v Within.nil);apply aj (wpAny_lookBehind gD (by rw[hD];exact pastItsLine_dict (cO cD (by rw[av,fq,sizeLine_eq];lia))) ?_);apply aJ (k h' _ n3 ?_ λb o nb e=>?_)
 ·exact(same.2 x xs).trans (gP _ x1 rfl)
 ·exact(same.2 b (cG (aW e))).trans ((bM.get?_update_ne _ _ _ _ nb).trans (au _ e))
theorem x_set1 {v:af}{us:Array af}{Q:Unit→ar→Prop}(kin:K.In s.heap)(T:XCls K C)(hs:findIn K (.ref C) "__setattr__" =some (some (.builtin "object.__setattr__")))(hm:Looks (bF prog w) s.heap (mroOf (.ref C)) (.ref C:: .ref P::bmVE))(na:findIn K (.ref C) name=some none)
  (e1:s.heap.get? x=some ⟨.ref C,some D,.fields us,ox.slots⟩) (n1:s.heap.Ns1 D mA) (hw:Within mA ns) (hz:ns.length<1000)
  (k:∀h' tk,h'.Ns1 D (λy=>if y=name then some v else mA y)→de D s.heap h'→Q () { s with heap:=h',toks:=tk }) :
  aY (bF prog w) A (setAttr (.ref x) name v) Q E s:=by
 obtain⟨oA,q1,_⟩:=qE n1;have J:InstAt s.heap x ⟨.ref C,some D,.fields us,ox.slots⟩ C (some oA):=⟨e1,rfl,rfl,q1⟩;apply set_plain kin J hs (x_open (s:={ s with toks:=s.toks+1 }) kin J hm T.ob na ?_);obtain⟨cd,hc,hd⟩:=any_some T.dc;obtain⟨hh,g,dr,t,os⟩:=s;apply aj (aJ (aj (aj (wpAny_loadPart e1 (aj ((looks_clsIn kin hc).at ?_))))));rw[hd];apply aJ (a:=some D) (aj (aJ (aj (wpAny_nsSet1 n1 λh' n3 same=>?_))));obtain⟨oD,eD,pD,gD,hD,cD⟩:=n3.count (Within.cons name v hw);apply aj (wpAny_lookBehind gD (by rw[hD];exact pastItsLine_dict (cO cD (by rw[av,sizeLine_eq];lia))) ?_);exact aJ (k h' _ n3 same)
end
end L2
namespace L2
open PySem PySem.Spec PySem.W PyProof.Rows
def XN (x C:aq)(d:Option aq):HO:= .ext λh=>∃o us z0,h.get? x=some o∧o.cls= .ref C∧o.dict=d∧o.data= .fields us∧us[0]? =some (.ref z0)∧us[1]? =some .none
theorem XN.stay {x C:aq}{d:Option aq}{P:aK}{w:bg}{H:Hp}{h:bM}{o:Obj}{us:Array af}{z0:aq}(p1:h.get? x=some o)(p2:o.cls= .ref C)(p3:o.dict=d)(p4:o.data= .fields us)(p5:us[0]? =some (.ref z0))(p6:us[1]? =some .none):iZ P w H h x (XN x C d) :=
 ⟨⟨o,us,z0,p1,p2,p3,p4,p5,p6⟩,⟨o,p1⟩,λ_ _ ⟨o,us,z0,p,r⟩ k=>⟨o,us,z0,k o p,r⟩⟩
theorem XD.stay {D:aq}{fs:List (Str×V)}{P:aK}{w:bg}{H:Hp}{h:bM}{mA:Str→Option af}(n:h.Ns1 D mA)(r:∀f,pZ (fs.lookup f) (mA f))(wi:PySem.Within mA (fs.map (·.1))):iZ P w H h D (XD D fs) :=
 ⟨⟨mA,n,r,wi⟩,let ⟨o,_,_,e,_⟩:=n;⟨o,e⟩,λ_ _ ⟨mA,⟨o,es,ep,e,c⟩,r⟩ k=>⟨mA,⟨o,es,ep,k o e,c⟩,r⟩⟩
theorem upd_id {x:aq}(e:H x=some o):upd H x o=H:=by
 funext b
 unfold upd;split
 ·rename_i q;rw[q,e]
 ·rfl
structure XMk (K:Frag)(C P f:aq):Prop where
 lk:∃nm q N bs sn sub ab col dd k0 k1 k2 k3 k5,K.lookup C=some (excClassObj nm q C N bs (.ref P::bmVE) true sn sub ab col dd k0 k1 k2 k3 k5 "ValueError.__new__")
 up:excIn K P bmVE "ValueError.__new__" =true
 init:findIn K (.ref C) "__init__" =some (some (.ref f))
 fn:isFn K (.ref f)=true
 kp:keepIn K (.ref C)=true
 sa:findIn K (.ref C) "__setattr__" =some (some (.builtin "object.__setattr__"))
theorem XMk.tail {K:Frag}{P:aq}(M:XMk K C P f)(kin:K.In h):∃nm q N bs sn sub ab col dd k0 k1 k2 k3 k5,h.get? C=some (excClassObj nm q C N bs (.ref P::bmVE) true sn sub ab col dd k0 k1 k2 k3 k5 "ValueError.__new__")∧OwnTail h bmVE (.ref P::bmVE):=by
 obtain⟨nm,q,N,bs,sn,sub,ab,col,dd,k0,k1,k2,k3,k5,e⟩:=M.lk;obtain⟨tl,N',nm',q',bs',hdct',sn',sub',ab',col',dd',j0,j1,j2,j3,j5,mN,hP,hN,hni,_⟩:=(own_at (mg:=λ_=>some (.ref P)) (x := "") kin rfl M.up).obj;exact⟨nm,q,N,bs,sn,sub,ab,col,dd,k0,k1,k2,k3,k5,kin _ _ e,.own hP hN hni .base⟩
structure UpCls (K:Frag)(P:aq):Prop where
 ga:specialIn K (.ref P) "__getattribute__" =some (some (.builtin "type.__getattribute__"))
 rd:readsIn K P (.type "type")=true
 at_:findCls K (.ref P) (.type "type") "__init__" =some (.val (.builtin "ValueError.__init__"))
theorem xlaid (I:Inv X aN σ H s)(J:Inv X aN σ H' s')(nD:H' D=none)(hp:s.heap.objs.size≤D)(new:iZ X.prog X.w (upd H' D o) s'.heap D o):Inv X aN σ (upd H' D o) s':=by
 have low:∀b,b<s.heap.objs.size→b≠D:=λb hb z=>by rw[z] at hb;exact iF _ (ck hb hp)
 apply⟨J.ok,J.os,J.bare,{ keep:=J.base.keep,slot:=J.base.slot,free:=λb u e n x=>?_,there:=J.base.there,tups:=λb xs e=>?_,frzs:=λb u v e=>?_,tbls:=λb ps e=>?_ },J.loc,J.cell,?_,λy c e=>?_,λp m=>?_,J.hok.take nD new,J.len⟩
 ·rw[aX (low b (ck (aW e) I.sz))];exact J.base.free b u e n x
 ·have q:=J.base.tups b xs e
  rw[aX (aR q nD)];exact q
 ·have q:=J.base.frzs b u v e
  rw[aX (aR q nD)];exact q
 ·obtain⟨more,q⟩:=J.base.tbls b ps e
  exact⟨more,by rw[aX (aR q nD)];exact q⟩
 ·rw[aX (low _ I.lt)];exact J.free
 ·obtain⟨v,u,q,_⟩:=I.cell y c e
  rw[aX (low _ (aW q))];exact J.freeC y c e
 ·obtain⟨a1,a2,a3,a4,a5⟩:=J.pin p m
  apply⟨a1,?_,a3,a4,a5⟩;rw[aX (low _ (aW (I.pin p m).1))];exact a2
theorem XMk.mro {K:Frag}{C P f:aq}{h:bM}{M':Model}(M:XMk K C P f)(kin:K.In h):Looks M' h (mroOf (.ref C)) (.ref C:: .ref P::bmVE):=by
 obtain⟨nm,q,N,bs,sn,sub,ab,col,dd,k0,k1,k2,k3,k5,e⟩:=M.lk;have hc:clsIn K C=some { name:=nm,bases:=bs,mro:= .ref C:: .ref P::bmVE,ns:=N,qualname:=q,hasDict:=true,slotNames:=sn,subclasses:=sub,abstract:=ab,collection:=col,hasDel:=false }:=by
  unfold clsIn;rw[e]
 exact(looks_clsIn kin hc).andThen .now
theorem ps_xset {P:aq}{o:Expr}{f:Str}{tv:TE}(M:XMk X.K C P f0)(T:XCls X.K C)(na:kK X.K C f)(ha:PE X o ta)(hv:PE X value tv)(hs:autoParam (lR value (some (.Attribute o f pos')) pos.line X.env=iS false) L2.au0._auto_1) :
  PS X (.Assign [.Attribute o f pos'] value pos) (fun Dn σ H=>tv σ H fun y H1=>ta σ H1 fun x H2=>∃ a,x= .ref a ∧
   ((H2 a=some (XN a C none)∧∀ D,H2 D=none→D≠a→Dn.nx σ (upd (upd H2 a (XN a C (some D))) D (XD D [(f,y)]))) ∨
    (∃ D fs,H2 a=some (XN a C (some D))∧H2 D=some (XD D fs)∧D≠a∧fs.length<1000∧Dn.nx σ (upd H2 D (XD D (q0 f y fs)))))):=by
 intro aN s σ H Dn I h;apply plainObj_wpAny_Assign_Attribute (thn (hv aN s σ H _ I h) λu s1 ⟨y,H1,I1,ry,q⟩=>thn (ha aN s1 σ H1 _ I1 q) λov s2 hz0=>?_) hs;obtain⟨x,H2,I2,rx,a,ex,q2⟩:=hz0;subst ex;obtain rfl:ov=af.ref a:=rx
 rcases q2 with ⟨ea,q2⟩ | ⟨D,fs,ea,eD,nD,lf,q2⟩
 ·obtain⟨⟨⟨oc,odi,oda,osl⟩,us,z0,p1,p2,p3,p4,p5,p6⟩,_,_⟩:=I2.hok a _ ea
  dsimp only at p2 p3 p4
  subst p2 p3 p4;apply x_set0 (ox:=⟨.ref C,none,.fields us,osl⟩) I2.kIn T M.sa (M.mro I2.kIn) na p1 λh' tk n3 e3 k3=>?_
  have fresh:H2 s2.heap.objs.size=none:=I2.hok.fresh (aG _);have ne:s2.heap.objs.size≠a:=jz (aW p1);have J1:Inv X aN σ (upd H2 a (XN a C (some s2.heap.objs.size))) { s2 with heap:=h',toks:=tk } :=
   I2.write (x:=a) (e:=a) (by rw[ea];exact True.intro) (.inl rfl) (λb u nb q=>k3 b u nb q) ⟨_,e3⟩ (XN.stay e3 rfl rfl rfl p5 p6)
  have g1:upd H2 a (XN a C (some s2.heap.objs.size)) s2.heap.objs.size=none:=by rw[aX ne];exact fresh
  apply⟨σ,_,?_,q2 _ fresh ne⟩;apply xlaid I2 J1 g1 (aG _) (XD.stay n3 (λg=>?_) λg hg=>?_)
  ·show pZ (fK g [(f,y)]) (if g=f then some u else none)
   by_cases z:g=f
   ·subst z;simp[fK];exact ry
   ·have z':(g == f)=false:=by simpa using z
    rw[rO z];simp[fK,z'];trivial
  ·by_cases z:g=f
   ·rw[z];simp
   ·exact rQ (by rw[rO z]) hg
 ·obtain⟨⟨⟨oc,odi,oda,osl⟩,us,z0,p1,p2,p3,p4,p5,p6⟩,_,_⟩:=I2.hok a _ ea
  dsimp only at p2 p3 p4
  subst p2 p3 p4;obtain⟨⟨mA,n1,rl,wi⟩,_,_⟩:=I2.hok D _ eD;apply x_set1 (ox:=⟨.ref C,some D,.fields us,osl⟩) (ns:=fs.map (·.1)) I2.kIn T M.sa (M.mro I2.kIn) na p1 n1 wi (by rw[ae];exact lf) λh' tk n3 same=>?_
  apply⟨σ,_,I2.write (x:=D) (e:=D) (by rw[eD];exact True.intro) (.inl rfl) (λb u nb q=>(same.2 b nb).trans q) (let ⟨o,_,_,e,_⟩:=n3;⟨o,e⟩) (XD.stay n3 (λg=>?_) λg hg=>?_),q2⟩
  ·show pZ ((q0 f y fs).lookup g) (if g=f then some u else mA g)
   rw[oo]
   by_cases q:g=f
   ·rw[rP q,rP q];exact ry
   ·rw[rO q,rO q];exact rl g
  ·by_cases q:g=f
   ·rw[q];exact(nj f y fs).1
   ·apply(nj f y fs).2 g (wi g λz=>hg ?_)
    show(if g=f then some u else mA g)=none;rw[rO q];exact z
def pL (H:Hp)(x:aq):Hp:=λb=>if b=x then none else H b
theorem dropH_at {x:aq}:pL H x x=none:=by unfold pL;rw[rP rfl]
theorem nQ {x b:aq}(n:b≠x):pL H x b=H b:=by unfold pL;rw[rO n]
theorem qP {x:aq}{u:HO}(n:H x=none)(ne:D≠x):pL (upd (upd H x o) D u) x=upd H D u:=by
 funext b
 unfold pL upd
 by_cases q:b=x
 ·rw[rP q,q,rO (cQ ne),n]
 ·rw[rO q,rO q]
theorem Inv.drop {x:aq}(I:Inv X aN σ H s)(e:H x=some (XN x C d)):Inv X aN σ (pL H x) s:=by
 have nx:∀b o,H b=some o→o≠XN x C d→b≠x:=λb o q n z=>by rw[z,e] at q;exact n (bU q).symm
 apply⟨I.ok,I.os,I.bare,{ keep:=I.base.keep,slot:=I.base.slot,free:=λb u q n z=>?_,there:=I.base.there,tups:=λb xs q=>?_,frzs:=λb u v q=>?_,tbls:=λb ps q=>?_ },I.loc,I.cell,?_,λy c q=>?_,λp m=>?_,λb o q=>?_,I.len⟩
 ·have:=I.base.free b u q n z
  unfold pL;split
  ·rfl
  ·exact this
 ·have r:=I.base.tups b xs q
  rw[nQ (nx b _ r nofun)];exact r
 ·have r:=I.base.frzs b u v q
  rw[nQ (nx b _ r nofun)];exact r
 ·obtain⟨more,r⟩:=I.base.tbls b ps q
  exact⟨more,by rw[nQ (nx b _ r nofun)];exact r⟩
 ·unfold pL
  split
  ·rfl
  ·exact I.free
 ·have:=I.freeC y c q
  unfold pL;split
  ·rfl
  ·exact this
 ·obtain⟨a1,a2,a3,a4,a5⟩:=I.pin p m
  apply⟨a1,?_,a3,a4,a5⟩;unfold pL;split
  ·rfl
  ·exact a2
 ·have nb:b≠x:=λz=>by rw[z,dropH_at] at q;cases q
  rw[nQ nb] at q;exact(I.hok b o q).stay (λ_ _ _ r=>r) (λc r=>by rw[nQ (nx c _ r nofun)];exact r) λc xs r=>by rw[nQ (nx c _ r nofun)];exact r
theorem run_makeX {P:aq}{E:XK}{Q:VK}{vs:List V}(M:XMk X.K C P f)(F:c9 X.prog X.w X.K X.mg X.base CX k f fd ps sp)(hr:kA (k+1) X.A)(hb:Binds X.K fd ps ds)(hd:ie dvs ds)
  (hx:mB CX X E) (hz:ps.length≤az) (I:Inv X aN σ H s) (r:ie vs us)
  (h:∀y,H y=none→X.s₀.heap.objs.size≤y→sp (.ref y::(vs++dvs)) (upd H y (XN y C none)) (λv H2=>v= .non∧Q (.ref y) H2) E) :
  aY (bF X.prog X.w) X.A (call (.ref C) us) (EP X aN σ Q) X.xe s:=by
 have FB:=PySem.F.excBase_ValueError;obtain⟨nm,q,N,bs,sn,sub,ab,col,dd,k0,k1,k2,k3,k5,hC,T⟩:=M.tail I.kIn;obtain⟨oI,ho,hc⟩:=aV.mp (beq_iff_eq.mp M.fn);have sz:=I.sz;obtain⟨hh,g,dr,t,os⟩:=s;have hq:=h (hh.objs.size+1) (I.hok.fresh (ju _)) (cO sz (ju _));have I2:Inv X aN σ (upd H (hh.objs.size+1) (XN (hh.objs.size+1) C none)) ⟨xNew hh C us,g,dr,t,os⟩ :=
  I.laid (a:=hh.objs.size+1) (t':=t) (λb u q=>oE q) (ju _) (XN.stay xNew_at rfl rfl rfl (z0:=hh.objs.size) rfl rfl)
 have r2:ie (V.ref (hh.objs.size+1)::(vs++dvs)) (af.ref (hh.objs.size+1)::(us++ds)):= .cons rfl (r.append hd);have hl:(af.ref (hh.objs.size+1)::us++ds).length=ps.length:=by
  have e:=r2.length;rw[F.len _ _ _ _ hq] at e;exact e.symm
 have hlen:us.length≤az:=by
  rw[List.cons_append,av,ao] at hl;lia
 apply xcall FB T hC (looks_findIn I.kIn M.init) (I.kIn _ _ ho) hc hlen ?_;apply kZ (kr (F.run _ X.stack _ _ ⟨af.ref (hh.objs.size+1)::us,[]⟩ (af.ref (hh.objs.size+1)::(us++ds)) _ _ E (hr.make C us []) (I2.env0.make C us []) (hb _ (af.ref (hh.objs.size+1)::us) I2.kIn hl) r2 hq) λr s' hq'=>?_);cases r with
 | error e=>exact hx aN σ _ _ e s' I2 hq'
 | ok fl =>
  cases fl with
  | ret u =>
   obtain⟨v,H',I3,rv,ev,q3⟩:=I2.after hq';subst ev;exact⟨rv,⟨V.ref (hh.objs.size+1),H',I3,rfl,q3⟩⟩
  | next=>exact eV hq'
  | brk=>exact eV hq'
  | cont=>exact eV hq'
theorem pe_makeX {P:aq}{E:XK}{p:Pos}(M:XMk X.K C P f)(F:c9 X.prog X.w X.K X.mg X.base CX k f fd ps sp)(hr:kA (k+1) X.A)(hg:Gl X x)(hm:X.mg x=some (.ref C))(hb:Binds X.K fd ps ds)(hd:ie dvs ds)(hx:mB CX X E)(hz:ps.length≤az)
  (ha:PA X (e::es) t) (hdb:autoParam ((x == ("__debug__" :Str))=false) L2.au1._auto_1) (he:autoParam (br (e::es) X.env=(false,dY e X.env)::br es X.env) L2.au0._auto_1) (hpl:autoParam ((gI pos (br es X.env)).any (·.1)=false) L2.au0._auto_1) :
  PE X (.Call (.Name x p) (e::es) [] pos) (λσ H Q=>t σ H λvs H1=>∀y,H1 y=none→X.s₀.heap.objs.size≤y→sp (.ref y::(vs++dvs)) (upd H1 y (XN y C none)) (λv H2=>v= .non∧Q (.ref y) H2) E):=by
 intro aN s σ H Q I h;apply iQ (nh I hg hm ?_ hdb);apply callWith_K (h₀:=X.base) I.ok.mod.kin M.kp (thn (ha pos aN s σ H _ I h) λus s1 hz0=>?_) he hpl;obtain⟨vs,H1,I1,r,q⟩:=hz0;apply⟨I1.kIn,?_⟩;exact run_makeX M F hr hb hd hx hz I1 r q
theorem raise_made {nm q:Str}{N:aq}{bs bm:List af}{sn:List Str}{ab:Bool}{k0 k1 k2 k3 k5:Option af}{v:Sem af}{Q:Flow→ar→Prop}(hbase:bm.contains (.type "BaseException")=true)(hh:A.handled=none)
  (h:aY M A v (λu s1=>∃e d us z0 sl,u= .ref e∧s1.heap.get? C=some (excClassObj nm q C N bs bm hdct sn sub ab col dd k0 k1 k2 k3 k5 newId)∧s1.heap.get? e=some ⟨.ref C,d,.fields us,sl⟩∧us[0]? =some z0∧us[1]? =some .none∧E (.ref e) s1) E s) :
  aY M A (raiseStmt env (some v) none) Q E s:=by
 have hcB:(af.ref C::bm).contains (.type "BaseException")=true:=by rw[List.contains_cons,hbase,Bool.or_true]
 unfold raiseStmt;apply aj (dG h (λu s1 h1=>?_) λ_ _ z=>z);obtain⟨e,d,us,z0,sl,rfl,hC,he,e0,en,hE⟩:=h1;obtain⟨hp,g,dr,tk,os⟩:=s1
 repeat (first | with_reducible apply cT he rfl en ?_ | with_reducible apply jb he ?_ | with_reducible apply jb hC ?_ | (with_reducible apply wpAny_isSubtype_exc hC ?_;rw[hcB]) | wp_step)
 exact wpAny_raiseNew_none hh hE
theorem ps_raiseV {E:XK}{P:aq}(D:XDef X E)(hc:X.calm=true)(M:XMk X.K C P f)(he:PE X e te) :
  PS X (.Raise (some e) none pos) (λ_ σ H=>te σ H λv H1=>∃y d,v= .ref y∧X.s₀.heap.objs.size≤y∧H1 y=some (XN y C d)∧E (.ref C) d (pL H1 y)):=by
 intro aN s σ H Dn I h;obtain⟨nm,q,N,bs,sn,sub,ab,col,dd,k0,k1,k2,k3,k5,hC,T⟩:=M.tail I.ok.mod.kin;rw[arm_exec_Raise];simp only[evalOpt,Option.map];apply aj (wpAny_standAt (raise_made (C:=C) (nm:=nm) (q:=q) (N:=N) (bs:=bs) (bm:= .ref P::bmVE) (hdct:=true) (sn:=sn) (sub:=sub) (ab:=ab) (col:=col) (dd:=dd) (k0:=k0) (k1:=k1) (k2:=k2) (k3:=k3) (k5:=k5) (newId := "ValueError.__new__") (T.hasType rfl) (I.ok.hd hc) ?_));apply aj (dG (he aN s σ H _ I h) (λv s3 h3=>aj (wpAny_standAt (aJ ?_))) λ_ _ z=>z);obtain⟨w,H1,I1,rw1,y,d,rfl,far,ey,hE⟩:=h3;obtain rfl:v=af.ref y:=rw1;obtain⟨⟨⟨oc,odi,oda,osl⟩,us,z0,p1,p2,p3,p4,p5,p6⟩,_,_⟩:=I1.hok y _ ey
 dsimp only at p2 p3 p4
 subst p2 p3 p4;exact⟨y,odi,us,_,osl,rfl,I1.bk _ _ hC,p1,p5,p6,D.made aN σ (pL H1 y) s3 y _ us _ (I1.drop ey) dropH_at (bM.get?_none_of_le far) p1 rfl p6 p5 hE⟩
theorem init_up1 {x P:aq}{a:af}(I:Inv X aN σ H s)(e:H x=some (XN x C d))(M:XMk X.K C P f)(k:∀s',Inv X aN σ H s'→Q .none s') :
  aY (bF X.prog X.w) A (call (.builtin "ValueError.__init__") [.ref x,a]) Q E s:=by
 have F:=PySem.F.excBase_ValueError;obtain⟨⟨o,us,z0,p1,p2,p3,p4,p5,p6⟩,_,_⟩:=I.hok x _ e;obtain⟨nm,q,N,bs,sn,sub,ab,col,dd,k0,k1,k2,k3,k5,hC,T⟩:=M.tail I.kIn;obtain⟨hh,g,dr,t,os⟩:=s;apply kZ (ma F.init.plain F.initEntry (wpAny_check_init_subT F T hC p1 p2 ?_));have ob:(hh.push { cls:= .type "tuple",data:= .seq [a].toArray }).get? x=some o:=au _ p1;unfold dC.«BaseException.__init__»
 repeat (first | with_reducible apply cT ob p4 p5 ?_ | with_reducible apply lp ob p4 (gy.mp p5).1 ?_ | wp_step)
 have I1:Inv X aN σ H ⟨hh.push { cls:= .type "tuple",data:= .seq [a].toArray },g,dr,t,os⟩:=I.kept (t':=t) λb u q=>au _ q
 have sz:0<us.size:=(gy.mp p5).1;have n1:=gP (i8 (·.setIfInBounds 0 (af.ref hh.objs.size))) ob (lg (iL p4 _));have I2:=I1.write (x:=x) (e:=x) (o:=XN x C d) (t':=t) (h':=(hh.push { cls:= .type "tuple",data:= .seq [a].toArray }).update x (i8 (·.setIfInBounds 0 (af.ref hh.objs.size)))) (by rw[e];exact True.intro) (.inl rfl) (λb u nb q=>(gC _ _ nb.symm).trans q) ⟨_,n1⟩
  (XN.stay n1 ((Obj.cls_mapFields _ _).trans p2) ((og _ _).trans p3) (iL p4 _) (z0:=hh.objs.size) (by simp[sz]) (by rw[Array.getElem?_setIfInBounds_ne ↥0];exact p6))
 rw[upd_id e] at I2;exact k _ I2
theorem pe_upInit1 {P:aq}{e1 e2:Expr}{p:Pos}{pl:Sem Bool}(U:UpCls X.K P)(M:XMk X.K C P f0)(hg:Gl X x)(hm:X.mg x=some (.ref P))(ha:PA X [e1,e2] t)
  (hdb:autoParam ((x == ("__debug__" :Str))=false) L2.au1._auto_1) (hst:autoParam (br [e1,e2] X.env=(false,dY e1 X.env)::br [e2] X.env) L2.au0._auto_1) (hpl:autoParam ((gI pos (br [e2] X.env)).any (·.1)=false) L2.au0._auto_1)
  (ht:autoParam (dY (.Call (.Attribute (.Name x p) "__init__" apos) [e1,e2] [] pos) X.env=(do
   let ov ← dY (.Name x p) X.env
   standAt apos.atName
   let (f,first) ← holding [ov] (getMethod ov "__init__" pl)
   callWith pos f first (gI pos (br [e1,e2] X.env)) (backToKw pos (j9 [] X.env)))) L2.au0._auto_1) :
  PE X (.Call (.Attribute (.Name x p) "__init__" apos) [e1,e2] [] pos) (λσ H Q=>t σ H λvs H1=>∃y a d,vs=[.ref y,a]∧H1 y=some (XN y C d)∧Q .non H1):=by
 intro aN s σ H Q I h;apply methodCall_KW (pl:=pl) (nh I hg hm ?_ hdb) ht;apply method_cls I.kIn U.ga (cls_value I.kIn U.rd U.at_ rfl ?_);have I0:Inv X aN σ H { s with toks:=s.toks+1 }:=I.tok _;apply PyProof.Rows.callWith_builtin1 (thn (ha pos aN _ σ H _ I0 h) λus s1 hz0=>?_) hst hpl;obtain⟨vs,H1,I1,r,y,a,d,ev,ey,q⟩:=hz0;subst ev;cases r with
 | cons r1 r =>
 cases r with
 | cons r2 r =>
 cases r;obtain rfl:_=af.ref y:=r1;exact init_up1 I1 ey M λs' I'=>⟨.non,H1,I',rfl,q⟩
end L2
namespace HN
open PySem L2 PyProof.Rows
def npF (r:Int):List (Str×V):=[("row",.int r)]
theorem npF_row {r:Int}:(npF r).lookup ("row" :Str)=some (V.int r):=by unfold npF;rfl
def XP (C:aq)(r:Int)(E:XK)(H:Hp):Prop:=∀D H',cb H H'→H' D=some (XD D (npF r))→E (.ref C) (some D) H'
inductive spInitNP (C:aq)(vs:List V)(H:Hp)(Q:VK)(_:XK):Prop
 | mk (x:aq)(a:Int)(_:vs=[.ref x,.int a])(_:H x=some (XN x C none))(_:∀D,H D=none→D≠x→Q .non (upd (upd H x (XN x C (some D))) D (XD D (npF a))))
structure NPc (K:ak)(mg:Str→Option af)(C P f:aq):Prop where
 mke:XMk K C P f
 up:UpCls K P
 cl:XCls K C
 na:kK K C "row"
 mgC:mg "NoPlan" =some (.ref C)
 mgP:mg "HourError" =some (.ref P)
theorem passX {E:XK}:mB CX0 X E:=λ_ _ _ _ _ _ _ h=>h.elim
end HN
namespace L2
open PySem PySem.Spec PyProof.Rows
theorem c9.or {sp':Sp}(F:c9 P w K mg base CX k f fd ps sp)(G:c9 P w K mg base CX k f fd ps sp'):c9 P w K mg base CX k f fd ps (λvs H Q E=>sp vs H Q E∨sp' vs H Q E) :=
 ⟨λvs H Q E h=>h.elim (F.len vs H Q E) (G.len vs H Q E),λA outer s H args us vs Q E hr he hb hv hs=>hs.elim (F.run A outer s H args us vs Q E hr he hb hv) (G.run A outer s H args us vs Q E hr he hb hv)⟩
end L2
namespace HN
open PySem L2 PyProof.Rows HT2
inductive spTakeN (CP CL:aq)(vs:List V)(H:Hp)(Q:VK)(_:XK):Prop
 | mk (H0:Hp)(p q DL LB:aq)(b:Int)(zs:List LX)(bt:List Sn)(pre:List PR)(r:PR)(_:vs=[.ref p,.ref q])(_:PlI CP CL H0 H p b zs bt DL LB)(_:zs.length≤90)(_:bt.length≤90)(_:r.at H q)(_:zs.map (·.1)=kj pre)(_:bt.length=bwP pre)(_:ib b pre)(_:CntR pre)(_:pre.length≤100)(_:r.frm)(_:¬Std b pre r)(_:∀H',cb H0 H'→Q (.bl false) H')
theorem small_std (ok:ib b (pre++[r]))(h:lW (kj (pre++[r])) bt=true)(hl:bt.length=bwP (pre++[r])):CntR (pre++[r]):=by
 unfold lW at h;rw[cv] at h;have h1:=rT h.1;have h2:=rT h.2;have lok:∀l∈kj (pre++[r]),l.ss.length=l.rs.length+1∧1≤l.rs.length:=λl hl=>by
  have m:l.core∈lsC (pre++[r]):=by rw[←gQ];exact cX hl
  obtain⟨_,_,_,a,_,c,_⟩:=ok.lnOk (x:=l.core) m;have a:2≤l.ss.length:=a;have c:l.ss.length=l.rs.length+1:=c;exact⟨c,⋯⟩
 rw[allS_len lok,hl,←ownL_core,gQ,own_C] at h2;rw[←nk,gQ] at h1;exact⟨h1,h2⟩
theorem ok_takeN (F:Fun K "take" "Plan.take" sTakeP f fd)(CC:PlaC K CP)(m1:pN K CP "take_line" f1)(F1:‹0› 5 f1 d1 pza (qt CP CL))(b1:Binds K d1 pza [])
  (m2:pN K CP "take_between" f2) (F2:‹0› 5 f2 d2 pza (λvs H Q E=>qu CP CL vs H Q E∨spTakeBN CP CL vs H Q E)) (b2:Binds K d2 pza []) (m3:pN K CP "take_stay" f3) (F3:‹0› 5 f3 d3 pza (λvs H Q E=>qr CP CL vs H Q E∨spTakeSN CP CL vs H Q E)) (b3:Binds K d3 pza []):‹0› 6 f fd pza (spTakeN CP CL):=by
 specialize F.ok scTakeP;obtain ⟨H0,p,q,DL,LB,b,zs,bt,pre,r,rfl,I,f1,f2,hq,ez,eb,ok,cnt,few,fm,no,k⟩:=h;apply ⟨_,PSl.h (bo ⟨(fG (bQ iB (ixZ (pv 1)) eS (cw _)) (bE (bR (jQ op_ge (ixZ (pv 1)) aO (cw _)))) cF)⟩
  (bo ⟨(fG (bQ iB (ixZ (pv 1)) eS (cw _)) (bE (bR (eU (pv 0) CC.cl m1 F1 hr b1 .nil g9 (ah (pv 1) aA)))) cF)⟩
  (bo ⟨(fG (bQ iB (ixZ (pv 1)) eS (cw _)) (bE (bR (eU (pv 0) CC.cl m3 F3 hr b3 .nil g9 (ah (pv 1) aA)))) cF)⟩
  (gc ⟨(bR (eU (pv 0) CC.cl m2 F2 hr b2 .nil g9 (ah (pv 1) aA)))⟩)))),?_⟩
 try dsimp only [cxK]
 obtain⟨dp,hp⟩:=I.pl;have nms:zs.map (·.1.n)=(lsC pre).map (·.n):=by
  rw[←gQ,←ez,bf,bf];rfl
 have hapE:mU zs=jK (kj pre):=by rw[oy,ez]
 cases r with
 | beat b'=>exact rQ fm id
 | line n ss rs =>
  obtain⟨a,b',h1,h2,h3⟩:=id hq;apply⟨ρ,q,τ,SqT.of h3,aP (j:=0) rfl,rfl,ρ,jY ⇑0 ?_⟩;apply⟨ρ,q,τ,SqT.of h3,aP (j:=0) rfl,rfl,ρ,nW (rR rfl) ?_⟩;obtain⟨_,_,t1,t2,t3,_⟩:=id fm;apply⟨ρ,p,dp,ρ,hp,rfl,ρ,H0,p,q,DL,LB,b,zs,bt,n,ss,rs,rfl,I,f1,f2,hq,t1,⋯,t3,λ_ H' S'=>k H' (I.S.trans S'),λnn nd x D H' I'=>?_⟩;have ro:mV b pre (.line n ss rs):=⟨by rw[←nms];exact nn,frm_ln fm nd⟩;have e:small (zs++[(⟨n,ss,rs,[],mU zs⟩,x,D)]) bt=lW (kj (pre++[.line n ss rs])) bt:=by
   rw[oG,aw,ez,lM];show lW (kj pre++[⟨n,ss,rs,[],mU zs⟩]) bt=lW (kj pre++[⟨n,ss,rs,[],jK (kj pre)⟩]) bt;rw[hapE]
  rw[e];cases c:lW (kj (pre++[.line n ss rs])) bt with
  | false=>exact k H' I'.S
  | true=>exact rQ ⟨ro,small_std (ok.snoc ro) c (by rw[eb,oZ];rfl)⟩ no
 | oth k' ns is =>
  obtain⟨fo,fn,fi⟩:=fm;have hq':H q=some (.tup (.str k'::(ns.map V.str++is.map V.int))):=hq
  rcases fo with ⟨rfl,n,z,l,o,w,rfl,rfl⟩ | fo
  ·have hq:H q=some (.tup [.str "stay",.str n,.str z,.int l,.int o,.int w]):=hq
   apply⟨ρ,q,τ,SqT.of hq,aP (j:=0) rfl,rfl,ρ,jY ⇑0 ?_⟩;apply⟨ρ,q,τ,SqT.of hq,aP (j:=0) rfl,rfl,ρ,jY ⇑0 ?_⟩;apply⟨ρ,q,τ,SqT.of hq,aP (j:=0) rfl,rfl,ρ,nW (rR rfl) ?_⟩;have stl:∀x∈zs,x.1.st.length≤1000:=λx hx=>by
    have:=(st_told (rs:=pre) (x:=x.1) (by rw[←ez];exact cX hx)).2;lia
   apply⟨ρ,p,dp,ρ,hp,rfl,ρ,?_⟩
   by_cases nsy:NoSty zs n z
   ·exact .inr ⟨H0,p,q,DL,LB,b,zs,bt,n,z,l,o,w,rfl,I,f1,f2,hq,stl,nsy,k⟩
   ·unfold NoSty at nsy
    simp only[Classical.not_forall] at nsy;obtain⟨x,hx,rfl,h⟩:=nsy;obtain⟨hz,h2⟩:=not_or.mp h;simp only[Classical.not_forall,Classical.not_not] at h2;obtain⟨i,i1,i2,i3⟩:=h2;apply .inl ⟨H0,p,q,DL,LB,b,zs,bt,x,z,l,o,w,i,rfl,I,⟨⋯,⋯⟩,hq,hx,hz,stl x hx,i1,i2,i3,λH' I'=>?_⟩;cases c:snB b (mU zs) ⟨x.1.fi+2 * i - 1,x.1.fi+2 * i,l,o,w⟩ with
    | false=>exact k H' I'.S
    | true =>
     have xm:x.1∈kj pre:=by rw[←ez];exact cX hx
     have xc:x.1.core∈lsC pre:=by rw[←gQ];exact cX xm
     apply rQ ⟨.inl ⟨rfl,x.1.core,z,l,o,w,i,xc,rfl,rfl,i1,i2,i3,λm=>hz (st_in ok xm m),snB_num c⟩,?_⟩ no;obtain⟨c1,c2⟩:=cnt;apply⟨by rw[iK];exact c1,?_⟩;rw[spnP_snoc];show _+(if ("stay" :Str) = "stay" then 0 else 1)≤40;rw[rP rfl];exact c2
  ·obtain⟨k1,k2,k3⟩:=oth_kind fo
   apply⟨ρ,q,τ,SqT.of hq',aP (j:=0) rfl,rfl,ρ,jY (rS λz=>k1 (by injection z)) ?_⟩;apply⟨ρ,q,τ,SqT.of hq',aP (j:=0) rfl,rfl,ρ,jY (rS λz=>k2 (by injection z)) ?_⟩;apply⟨ρ,q,τ,SqT.of hq',aP (j:=0) rfl,rfl,ρ,jY (rS λz=>k3 (by injection z)) ?_⟩;apply⟨ρ,p,dp,ρ,hp,rfl,ρ,?_⟩
   by_cases bw:∃sn,Btw b (zs.map (·.1)) k' ns is sn
   ·obtain⟨sn,B⟩:=bw
    apply .inl ⟨H0,p,q,DL,LB,b,zs,bt,k',ns,is,sn,rfl,I,f1,f2,hq,B,λH' I'=>?_⟩;cases c:(snB b (mU zs) sn && small zs (bt++[sn])) with
    | false=>exact k H' I'.S
    | true =>
     rw[cv] at c;have ro:mV b pre (.oth k' ns is):=by
      obtain⟨x,y,hx,hy,ne,B'⟩:=B;rw[ez] at hx hy;apply .inr ⟨k3,sn,⟨x.core,y.core,?_,?_,ne,core_bt B'⟩,snB_num c.1,fi⟩
      ·rw[←gQ];exact cX hx
      ·rw[←gQ];exact cX hy
     have es:kj (pre++[.oth k' ns is])=kj pre:=by
      rw[lM];unfold ph;split
      ·next h=>cases h
      ·next h=>cases h;rw[rO k3]
      ·rfl
     have c2:lW (kj (pre++[.oth k' ns is])) (bt++[sn])=true:=by
      have:=c.2;rw[oG,ez] at this;rw[es];exact this
     apply rQ ⟨ro,small_std (ok.snoc ro) c2 ?_⟩ no;rw[ao,eb,oZ];show _+1=_+(if k' = "stay" then 0 else 1);rw[rO k3]
   ·exact .inr ⟨H0,p,q,DL,LB,b,zs,bt,k',ns,is,rfl,I,f1,f2,hq,fo,bw,k⟩
end HN
namespace HN
open PySem L2 PyProof.Rows
abbrev cNoPlan:c8:=top 4
abbrev sInitNP:c8:=clsDef cNoPlan 0
theorem scInitNP:cI pza pza (defScope sInitNP):=by trivial
theorem ok_initNP {U:aq}(F:Fun K "__init__" "NoPlan.__init__" sInitNP f fd)(T:NPc K mg C U f):‹0› 1 f fd pza (spInitNP C):=by
 specialize F.ok scInitNP;obtain ⟨x,a,rfl,hx,k⟩:=h;apply ⟨_,PSl.h (bo ⟨(hV (pe_upInit1 T.up T.mke rfl T.mgP (ah (pv 0) (ah (pv 1) aA))))⟩
  (gc ⟨(ps_xset T.mke T.cl T.na (pv 0) (pv 1))⟩)),?_⟩
 try dsimp only [cxK]
 apply⟨ρ,ρ,x,_,none,rfl,hx,?_⟩;apply⟨ρ,ρ,x,rfl,.inl ⟨hx,λD nD ne=>?_⟩⟩;exact k D nD ne
end HN
namespace HN
open PySem L2 PyProof.Rows HT2
inductive spTakeZ (CP:aq)(vs:List V)(H:Hp)(Q:VK)(_:XK):Prop
 | mk (p q:aq)(b:Int)(_:vs=[.ref p,.ref q])(_:H q=some (.tup [.str "beat",.int b]))(_:b<1)(_:Q (.bl false) H)
structure PlaN (P:aK)(w:bg)(K:ak)(mg:Str→Option af)(base:bM)(CP CL ft:aq)(dt:aT):Prop where
 fT:‹0› 6 ft dt pza (λvs H Q E=>(spTakeP CP CL vs H Q E∨spTakeN CP CL vs H Q E)∨spTakeZ CP vs H Q E)
inductive spPlanByX (C CP CL:aq)(vs:List V)(H:Hp)(Q:VK)(E:XK):Prop
 | mk (L:aq)(xs:List V)(b:Int)(rs:List PR)(_:vs=[.ref L])(_:H L=some (.lst xs))(_:RsAt H xs (.beat b::rs))(_:rs.length≤69)(_:(∀r∈rs,r.frm))(_:(∀i H',cb H H'→Wrg b rs i→XP C i E H'))(_:∀p zs bt DL LB H',1≤b→UpTo b rs rs.length→lsC rs≠[]→Runs b [] [] (.beat b::rs) (kj rs) bt→zs.map (·.1)=kj rs→zs.length≤90→bt.length≤90→PlI CP CL H H' p b zs bt DL LB→Q (.ref p) H')
theorem ok_takeZ (F:Fun K "take" "Plan.take" sTakeP f fd)(CC:PlaC K CP)(m1:pN K CP "take_line" f1)(F1:‹0› 5 f1 d1 pza (qt CP CL))(b1:Binds K d1 pza [])
  (m2:pN K CP "take_between" f2) (F2:‹0› 5 f2 d2 pza (qu CP CL)) (b2:Binds K d2 pza []) (m3:pN K CP "take_stay" f3) (F3:‹0› 5 f3 d3 pza (qr CP CL)) (b3:Binds K d3 pza []):‹0› 6 f fd pza (spTakeZ CP):=by
 specialize F.ok scTakeP;obtain ⟨p,q,b,rfl,hq,hb,k⟩:=h;apply ⟨_,PSl.h (bo ⟨(fG (bQ iB (ixZ (pv 1)) eS (cw _)) (bE (bR (jQ op_ge (ixZ (pv 1)) aO (cw _)))) cF)⟩
  (bo ⟨(fG (bQ iB (ixZ (pv 1)) eS (cw _)) (bE (bR (eU (pv 0) CC.cl m1 F1 hr b1 .nil g9 (ah (pv 1) aA)))) cF)⟩
  (bo ⟨(fG (bQ iB (ixZ (pv 1)) eS (cw _)) (bE (bR (eU (pv 0) CC.cl m3 F3 hr b3 .nil g9 (ah (pv 1) aA)))) cF)⟩
  (gc ⟨(bR (eU (pv 0) CC.cl m2 F2 hr b2 .nil g9 (ah (pv 1) aA)))⟩)))),?_⟩
 try dsimp only [cxK]
 apply⟨ρ,q,τ,SqT.of hq,aP (j:=0) rfl,rfl,ρ,nW (rR rfl) ?_⟩;apply⟨ρ,q,τ,SqT.of hq,aP (j:=1) rfl,ς,?_⟩;show Q (.bl (decide ((1:Int)≤b))) H;rw[rS ⋯];exact k
theorem ok_planByX {fi ft fl U:aq}{di dt da dl d0:aT}(F:Fun K "plan_by" "plan_by" sPlanBy f fd)(T:Nm mg)(he:mg "enumerate" =none)(CC:PlaC K CP)(PT:PlaT P w K mg base CP CL fi ft fa fl di dt da dl)(PN:PlaN P w K mg base CP CL ft dt)
  (NP:NPc K mg C U f0) (FI:‹0› 1 f0 d0 pza (spInitNP C)) (BI:Binds K d0 pza []):c9 P w K mg base (CXN P w) 7 f fd ["rows"] (spPlanByX C CP CL):=by
 apply F.okX qe (by contradiction) (fun cdv A outer s H vs Q E hr D h=>?_);obtain ⟨L,xs,b,rs,rfl,hL,R,few,fm,kE,kQ⟩:=h;have hr2:kA 2 _:=hr.mono ↥0;apply ⟨_,PSl.h (bo ⟨(psZ 1 qe.nd (pe_make (E:=E0) PT.mke PT.f0 (hr.mono ↥0) rfl PT.gl PT.b0 .nil passX (ah (ixZ (fj bV (pv 0) aO (fun _ _=>rfl))) aA)))⟩
  (bo ⟨(jg PassesOwn.leaving rfl (pi_enumL rfl he (ah (pv 0) aA)) (qA rfl (iW (pgZ 2 qe.nd) (iW (pgZ 3 qe.nd) oh))) (bE (fG (oK (mY (eU (E:=E0) (pv 1) CC.cl PT.mT PN.fT hr PT.bT .nil passX (ah (pv 3) aA)))) (bE (ps_raiseV D rfl NP.mke (pe_makeX (E:=E0) NP.mke FI hr2 rfl NP.mgC BI .nil passX ↥0 (ah (pv 2) aA)))) cF)))⟩
  (bo ⟨(fG (bQ iB (cu call_lenD rfl T.len bp (ah (eW (pv 1) rfl) aA)) aO (cw _)) (bE (ps_raiseV D rfl NP.mke (pe_makeX (E:=E0) NP.mke FI hr2 rfl NP.mgC BI .nil passX ↥0 (ah aO aA)))) cF)⟩
  (gc ⟨(bR (pv 1))⟩)))),?_⟩
 try dsimp only [cxK]
 obtain⟨a0,h0,r0⟩:=R.get 0 (.beat b) rfl;have r0:H a0=some (.tup [.str "beat",.int b]):=r0;apply⟨ρ,L,τ,SqL.of hL,aP (j:=0) h0,a0,τ,SqT.of r0,aP (j:=1) rfl,?_⟩;intro x dx hx hdx dxx;apply⟨x,dx,b,rfl,aQ,λDL LB H1 k1 hDL hLB dne h1 h2 h3=>⟨rfl,?_⟩⟩;have S1:cb H H1:=λc o e=>by
  apply k1 c o (aR e hx) ?_;rw[aX (aR e hx),aX (aR e hdx)];exact e
 have nn:∀c,(upd (upd H dx (.own x)) x (.ins CP dx [])) c=none→H c=none:=λc h=>by
  cases e:H c with
  | none=>rfl
  | some o=>rw[aX (aR e hx),aX (aR e hdx),e] at h;cases h
 have I1:PlI CP CL H H1 x b [] [] DL LB:=⟨S1,⟨dx,h3⟩,nn _ hDL,nn _ hLB,(λz hz=>by cases hz),h1,(λz hz=>by cases hz),∅,∅,[],h2,.nil⟩;have lx:xs.length=rs.length+1:=R.len;apply⟨ρ,L,xs,rfl,S1 _ _ hL,?_⟩
 let pZ1:Nat→L2.St→L2.Hp→Prop:=λi σ H2=>∃zs b1,PlI CP CL H H2 x b zs b1 DL LB∧zs.length≤i∧b1.length≤i∧Runs b [] [] ((PR.beat b::rs).take i) (kj (rs.take (i - 1))) b1∧zs.map (·.1)=kj (rs.take (i - 1))∧b1.length=bwP (rs.take (i - 1))∧(i=0∨1≤b)∧UpTo b rs (i - 1)∧∃v2 v3,σ=[some (.ref L),some (.ref x),v2,v3]
 apply for_enumL (a:=L) (xs:=xs) pZ1
  ⟨[],[],I1,aG _,aG _,.nil,rfl,rfl,.inl rfl,(λj r hj=>rQ hj (jE _)),none,none,rfl⟩ (λi σ H2 _ q=>by obtain⟨zs,b1,I,_⟩:=q;exact I.S _ _ hL) (λi v p σ H2 hv q hp=>?_) (λσ H2 q=>?_)
 ·obtain⟨zs,b1,I,l1,l2,ru,ez,eb,b0,up,v2,v3,rfl⟩:=q
  have li:i<xs.length:=(ai.mp hv).1;obtain⟨r,hr'⟩:∃r,(PR.beat b::rs)[i]? =some r:=⟨_,gE (by rw[av];lia)⟩;obtain⟨a,ha,ra⟩:=R.get i r hr';rw[hv] at ha;cases ha;have et:(PR.beat b::rs).take (i+1)=(PR.beat b::rs).take i++[r]:=by rw[bG,hr'];rfl
  have S6:cb H2 (upd H2 p (.tup [.int (i:Nat),.ref a])):=cb.put (cb.refl H2) hp;have h6:(upd H2 p (.tup [.int (i:Nat),.ref a])) p=some (.tup [.int (i:Nat),.ref a]):=aQ;generalize upd H2 p (.tup [.int (i:Nat),.ref a])=H6 at S6 h6 ⊢;have I6:=I.same S6;obtain⟨dp,hpp⟩:=I6.pl;apply⟨p,ρ,SqT.of h6,rfl,_,ρ,ς,?_⟩;apply⟨ρ,x,dp,ρ,hpp,rfl,ρ,?_⟩;cases i with
  | zero =>
   cases hr'
   by_cases hb:1≤b
   ·apply .inl (.inl ⟨H,x,a,DL,LB,b,zs,b1,_,_,.beat b,rfl,I6,⋯,⋯,ra.kept I6.S,.beat hb,λzs' H7 ez' lz lb I7=>?_⟩)
    apply⟨ρ,jY rfl ?_⟩;rw[ez] at ez';apply⟨zs',_,I7,⋯,⋯,?_,ez',eb,.inr hb,up,_,ρ⟩;cases ru;exact .cons (.beat hb) .nil
   ·have ra6:H6 a=some (.tup [.str "beat",.int b]):=ra.kept I6.S
    apply .inr ⟨x,a,b,rfl,ra6,⋯,?_⟩;apply⟨ρ,nW rfl ?_⟩;apply⟨ρ,λy ny far=>⟨y,ρ,aQ,λd nd ne=>⟨rfl,y,some d,rfl,far,?_,?_⟩⟩⟩
    ·rw[aX (cQ ne)];exact aQ
    ·rw[upd_upd,qP ny ne]
     rw[aX ne] at nd;exact kE 0 H6 I6.S (.beat ⋯) d _ ((cb.refl H6).put nd) aQ
  | succ i =>
   have hb:1≤b:=b0.resolve_left ⋯;have hr2:rs[i]? =some r:=hr';have hi:i<rs.length:=(ai.mp hr2).1;have rok:ib b (rs.take i):=UpTo.rows up
   by_cases st:Std b (rs.take i) r
   ·obtain⟨bt1,tk,e1⟩:=tk_of hb rok st (by rw[aL];lia) eb
    have et2:rs.take (i+1)=rs.take i++[r]:=by rw[bG,hr2];rfl
    apply .inl (.inl ⟨H,x,a,DL,LB,b,zs,b1,_,_,r,rfl,I6,⋯,⋯,ra.kept I6.S,(by rw[ez];exact tk),λzs' H7 ez' lz lb I7=>?_⟩);apply⟨ρ,jY rfl ?_⟩;apply⟨zs',_,I7,⋯,⋯,?_,?_,?_,.inr hb,λj q hj hq=>?_,_,ρ⟩
    ·rw[et]
     show Runs b [] [] _ (kj (rs.take (i+1))) _;rw[et2];exact ru.snoc tk
    ·show _=kj (rs.take (i+1))
     rw[et2];exact ez'
    ·show _=bwP (rs.take (i+1))
     rw[et2];exact e1
    ·have hj:j<i+1:=hj
     rcases i9.mp hj with hj | hj
     ·exact up j q hj hq
     ·subst hj
      rw[hr2] at hq;cases hq;exact st
   ·apply .inl (.inr ⟨H,x,a,DL,LB,b,zs,b1,rs.take i,r,rfl,I6,⋯,⋯,ra.kept I6.S,ez,eb,rok,UpTo.cnt up (by show i≤rs.length;lia),by rw[aL];lia,fm r (aD hr2),st,λH7 S7=>?_⟩)
    apply⟨ρ,nW rfl ?_⟩;apply⟨ρ,λy ny far=>⟨y,ρ,aQ,λd nd ne=>⟨rfl,y,some d,rfl,far,?_,?_⟩⟩⟩
    ·rw[aX (cQ ne)];exact aQ
    ·rw[upd_upd,qP ny ne]
     rw[aX ne] at nd;exact kE (i+1) H7 S7 (.row hb up hr2 st) d _ ((cb.refl H7).put nd) aQ
 ·obtain⟨zs,b1,I,l1,l2,ru,ez,eb,b0,up,v2,v3,rfl⟩:=q
  rw[lx] at ru ez eb b0 up;have hb:1≤b:=b0.resolve_left ⋯;have e0:rs.take (rs.length+1 - 1)=rs:=eP ⋯;rw[e0] at ru ez eb;rw[eP (by rw[av];lia)] at ru;have up:UpTo b rs rs.length:=up;obtain⟨dp,hpp⟩:=I.pl;have lk:(k7 zs).length=zs.length:=ae _;have lz:zs.length=(lsC rs).length:=by rw[←gQ,←ez,ae,ae]
  apply⟨ρ,x,CP,dp,_,ρ,hpp,CC.cl,CC.n2,rfl,DL,ρ,I.dl,rfl,ρ,kJ (λc=>?_) (λc=>?_)⟩
  ·have c:(((k7 zs).length:Nat):Int)=0:=by have:=rT c;injection this
   have e:lsC rs=[]:=kC.mp ⋯;apply λy ny far=>⟨y,ρ,aQ,λd nd ne=>⟨rfl,y,some d,rfl,far,?_,?_⟩⟩
   ·rw[aX (cQ ne)];exact aQ
   ·rw[upd_upd,qP ny ne]
    rw[aX ne] at nd;exact kE 0 H2 I.S (.none hb up e) d _ ((cb.refl H2).put nd) aQ
  ·have ne:lsC rs≠[]:=λe=>c (rR (by rw[lk,lz,e];rfl))
   exact⟨ρ,kQ x zs b1 DL LB H2 hb up ne ru ez ⋯ ⋯ I⟩
def NetF (z:Str)(b:Int)(rs:List PR):Prop:=∃(z0:Str) (zr:List (Str×PR)),z.length≤100000∧dU z nl_=z0::zr.map (·.1)∧rs.length≤69∧z0.length≤100000∧dU z0 sp_=[("beat" :Str),iA b]∧W60 b ∧
 (∀q∈zr,q.1.length≤100000∧q.2.wds (dU q.1 sp_))∧zr.map (·.2)=rs∧∀r∈rs,r.frm
inductive nG (C:aq)(vs:List V)(H:Hp)(Q:VK)(E:XK):Prop
 | mk (z:Str)(b:Int)(rs:List PR)(_:vs=[.str z])(_:NetF z b rs)(_:(∀i H',cb H H'→Wrg b rs i→XP C i E H'))(_:∀bt v H',1≤b→UpTo b rs rs.length→lsC rs≠[]→Runs b [] [] (.beat b::rs) (kj rs) bt→cb H H'→IsD H' v (.tup [netP b (jK (kj rs)) (allSL (kj rs) bt),.tup ((allLL (kj rs)).map λt=> .tup (t.map vD))])→Q v H')
theorem ok_netByX {fs fi ft fl:aq}{ds di dt da dl:aT}(F:Fun K "net_by" "net_by" rD f fd)(T:Nm mg)(PK:PlaK P w K mg base CP CL fh fs dh ds)(PT:PlaT P w K mg base CP CL fi ft fa fl di dt da dl)(G1:Fn K mg "read_plan" sPlanR pzd f1 d1)(F1:‹0› 5 f1 d1 pzd spPlanR)
  (G2:Fn K mg "plan_by" sPlanBy ["rows"] f2 d2) (F2:c9 P w K mg base (CXN P w) 7 f2 d2 ["rows"] (spPlanByX C CP CL)):c9 P w K mg base (CXN P w) 8 f fd pzd (nG C):=by
 apply F.okX scNetBy (by contradiction) (fun cdv A outer s H vs Q E hr D h=>?_);obtain ⟨z,b,rs,rfl,⟨z0,zr,hz,hs,hn,hz0,hs0,hb,hw,er,fm⟩,kE,k⟩:=h;have CC:=PK.cc;apply ⟨_,PSl.h (bo ⟨(psZ 1 scNetBy.nd (pB F2 hr rfl G2.mg G2.F.kp G2.b .nil D.pass (ah (pc1 G1 F1 (hr.mono ↥0) (ah (pv 0) aA)) aA)))⟩
  (bo ⟨(psZ 2 scNetBy.nd (jc (ah (eW (pv 1) rfl) (ah (jd (E:=E0) (pv 1) CC.cl PK.m1 PK.f1 (hr.mono ↥0) PK.b1 .nil passX) (ah (gk nt rfl T.ttup boot_tuple (ah (jd (E:=E0) (pv 1) CC.cl PT.mA PT.fA (hr.mono ↥0) PT.bA .nil passX) aA)) aA)))))⟩
  (gc ⟨(bR (jc (ah (pv 2) (ah (gk nt rfl T.ttup boot_tuple (ah (jd (E:=E0) (pv 1) CC.cl PT.mL PT.fL (hr.mono ↥0) PT.bL .nil passX) aA)) aA))))⟩))),?_⟩
 try dsimp only [cxK]
 apply⟨ρ,z,z0,b,zr,rfl,hz,hs,(by rw[←er,ae] at hn;lia),hz0,hs0,hb,hw,λp xs H1 S1 hL R=>?_⟩;rw[er] at R;apply⟨p,xs,b,rs,rfl,hL,R,hn,fm,λi H' S' wr=>kE i H' (S1.trans S') wr,λx zs bt DL LB H2 b1 up ne ru ez lz lb I2=>?_⟩;obtain⟨dp2,hp2⟩:=I2.pl;have fw:Few zs bt:=⟨⋯,⋯⟩;apply⟨ρ,x,CP,dp2,_,ρ,hp2,CC.cl,CC.n1,rfl,ρ,x,dp2,ρ,hp2,rfl,H1,x,DL,LB,b,zs,bt,rfl,I2,fw,λH3 S3=>?_⟩;have I3:=I2.same S3;obtain⟨dp3,hp3⟩:=I3.pl;apply⟨ρ,x,dp3,ρ,hp3,rfl,H1,x,DL,LB,b,zs,bt,rfl,I3,fw,λL ys H4 S4 _ hL4 d4=>?_⟩;apply⟨L,ys,rfl,SqL.of hL4,λt H5 S5 e5=>?_⟩;apply⟨(by show 3≤az;decide),λn H6 S6 e6=>?_⟩;have S36:=S4.trans (S5.trans S6);have I6:=I3.same S36;obtain⟨dp6,hp6⟩:=I6.pl;have dN:IsD H6 (.ref n) (netP b (jK (kj rs)) (allSL (kj rs) bt)):=by
  rw[←ez,←oy,←allSL_of];exact .tup e6 (.cons (.int _) (.cons (.int _) (.cons (.tup (S6 _ _ e5) (jG.same (S5.trans S6) d4)) .nil)))
 apply⟨ρ,ρ,x,dp6,ρ,hp6,rfl,H1,x,DL,LB,b,zs,bt,rfl,I6,fw,λL2 as H7 S7 _ hL7 d7=>?_⟩;apply⟨L2,as.map V.ref,rfl,SqL.of hL7,λu H8 S8 e8=>?_⟩;apply⟨szZ2,λr H9 S9 e9=>?_⟩;have d9:as.map H9=(allL zs).map (λt=>some (HO.tup t)):=by
  rw[←d7];apply cJ λc hc=>?_
  have hm:H7 c∈(allL zs).map (λt=>some (HO.tup t)):=by rw[←d7];exact cX hc
  obtain⟨t,_,e⟩:=aI.mp hm;rw[←e];exact(S8.trans S9) _ _ e.symm
 apply k bt _ H9 b1 up ne ru (S1.trans (I2.S.trans (S3.trans (S36.trans (S7.trans (S8.trans S9)))))) (.tup e9 (.cons (IsD.same (S7.trans (S8.trans S9)) dN) (.cons (.tup (S9 _ _ e8) ?_) .nil)));rw[←ez,←allLL_of];apply labs_isD d9 λt ht=>?_
 unfold allL at ht;obtain⟨y,_,hy⟩:=List.mem_flatMap.mp ht;exact labs_strs _ _ t hy
abbrev sHby:c8:=top 81
abbrev Lb:=Str×Str×Str
def lbD (l:Lb):Dt:= .tup [.str l.1,.str l.2.1,.str l.2.2]
def qY (ws:List Str)(l:Lb):List Str:=if l.2.2 = "comes" ∨ws.length=1 then ws++[l.2.1] else ws
def qo (ws:List Str)(l:Lb)(t:Int):List Str:=qY ws l++[iA t]
abbrev HR:=List (Str×List Str)
def hnew (ps:HR)(n:Str):HR:=if n∈ps.map (·.1) then ps else ps++[(n,[n])]
def hset (ps:HR)(n:Str)(f:List Str→List Str):HR:=ps.map λq=>if q.1=n then (q.1,f q.2) else q
def qJ (ps:HR)(l:Lb×Int):HR:=hset (hnew ps l.1.1) l.1.1 λws=>qo ws l.1 l.2
def hgo (ls:List (Lb×Int)):HR:=ls.foldl qJ []
abbrev QX:=Str×List Str×aq
def qK (qs:List QX):List (Key×V):=qs.map λq=>(.inr q.1,.ref q.2.2)
def qR (qs:List QX):HR:=qs.map λq=>(q.1,q.2.1)
def rE (qs:List QX)(n:Str)(ws:List Str):List QX:=qs.map λq=>if q.1=n then (q.1,ws,q.2.2) else q
structure HrI (H0 H:Hp)(D:aq)(qs:List QX):Prop where
 S:cb H0 H
 nD:H0 D=none
 d:H D=some (.dK (qK qs))
 ws:∀q∈qs,H q.2.2=some (.lst (q.2.1.map V.str))∧H0 q.2.2=none
 nd:(qs.map (·.1)).Nodup
 na:(qs.map (·.2.2)).Nodup
theorem qset_k (qs:List QX)(n:Str)(ws:List Str):qK (rE qs n ws)=qK qs:=by
 unfold qK rE;rw[bf];apply cJ λq _=>?_
 show(Sum.inr (if q.1=n then (q.1,ws,q.2.2) else q).1,V.ref (if q.1=n then (q.1,ws,q.2.2) else q).2.2)=_;split <;> rfl
theorem qset_1 (qs:List QX)(n:Str)(ws:List Str):(rE qs n ws).map (·.1)=qs.map (·.1):=by
 unfold rE;rw[bf];apply cJ λq _=>?_
 show(if q.1=n then (q.1,ws,q.2.2) else q).1=_;split <;> rfl
theorem qset_a (qs:List QX)(n:Str)(ws:List Str):(rE qs n ws).map (·.2.2)=qs.map (·.2.2):=by
 unfold rE;rw[bf];apply cJ λq _=>?_
 show(if q.1=n then (q.1,ws,q.2.2) else q).2.2=_;split <;> rfl
theorem nd_same {β:Type}{f:α→β}{l:List α}(h:(l.map f).Nodup){x y:α}(hx:x∈l)(hy:y∈l)(e:f x=f y):x=y:=by
 induction l with
 | nil=>cases hx
 | cons a l ih =>
  rw[bq,bP] at h
  rcases ay.mp hx with e1 | h1
  ·rcases ay.mp hy with e2 | h2
   ·rw[e1,e2]
   ·exact rQ (aI.mpr ⟨y,h2,by rw[←e,e1]⟩) h.1
  ·rcases ay.mp hy with e2 | h2
   ·exact rQ (aI.mpr ⟨x,h1,by rw[e,e2]⟩) h.1
   ·exact ih h.2 h1 h2
theorem HrI.same {qs:List QX}(I:HrI H0 H D qs)(S:cb H H'):HrI H0 H' D qs:=⟨I.S.trans S,I.nD,S _ _ I.d,λq hq=>⟨S _ _ (I.ws q hq).1,(I.ws q hq).2⟩,I.nd,I.na⟩
theorem HrI.app {qs:List QX}{n:Str}{ws':List Str}(I:HrI H0 H D qs)(hq:(n,ws,a)∈qs):HrI H0 (upd H a (.lst (ws'.map V.str))) D (rE qs n ws'):=by
 obtain⟨ha,h0⟩:=I.ws _ hq;have ha:H a=some (.lst (ws.map V.str)):=ha;have nDa:D≠a:=eN I.d ha nofun;apply⟨λc o e=>?_,I.nD,?_,λq m=>?_,by rw[qset_1];exact I.nd,by rw[qset_a];exact I.na⟩
 ·rw[aX (aR e h0)];exact I.S _ _ e
 ·rw[aX nDa,qset_k];exact I.d
 ·obtain⟨y,hy,rfl⟩:=aI.mp m
  by_cases e:y.1=n
  ·have:=nd_same I.nd hy hq e
   subst this;rw[rP rfl];exact⟨aQ,h0⟩
  ·rw[rO e]
   obtain⟨g1,g2⟩:=I.ws y hy;apply⟨?_,g2⟩;rw[aX λz=>e (rV (·.1) (nd_same I.na hy hq z))];exact g1
theorem qset_mem {qs:List QX}{n:Str}{ws':List Str}(hq:(n,ws,a)∈qs):(n,ws',a)∈rE qs n ws':=aI.mpr ⟨_,hq,rP rfl⟩
theorem qset_qset (qs:List QX)(n:Str)(w1 w2:List Str):rE (rE qs n w1) n w2=rE qs n w2:=by
 unfold rE;rw[bf];apply cJ λq _=>?_
 show(if (if q.1=n then (q.1,w1,q.2.2) else q).1=n then ((if q.1=n then (q.1,w1,q.2.2) else q).1,w2,(if q.1=n then (q.1,w1,q.2.2) else q).2.2) else (if q.1=n then (q.1,w1,q.2.2) else q))=_
 by_cases e:q.1=n
 ·simp[e]
 ·simp[e]
theorem qset_R {qs:List QX}{n:Str}(f:List Str→List Str)(nd:(qs.map (·.1)).Nodup)(hq:(n,ws,a)∈qs):qR (rE qs n (f ws))=hset (qR qs) n f:=by
 unfold qR rE hset;rw[bf,bf];apply cJ λq m=>?_
 show((if q.1=n then (q.1,f ws,q.2.2) else q).1,(if q.1=n then (q.1,f ws,q.2.2) else q).2.1)=if q.1=n then (q.1,f q.2.1) else (q.1,q.2.1)
 by_cases e:q.1=n
 ·have:=nd_same nd m hq e
  subst this;simp
 ·simp[e]
theorem qK_at {qs:List QX}(nd:(qs.map (·.1)).Nodup){q:QX}(h:q∈qs):me (qK qs) (.inr q.1)=some (.ref q.2.2):=by
 induction qs with
 | nil=>cases h
 | cons y qs ih =>
  rw[bq,bP] at nd;unfold me qK;rw[bq]
  rcases ay.mp h with rfl | h
  ·simp
  ·have ne:y.1≠q.1:=λe=>nd.1 (aI.mpr ⟨q,h,e.symm⟩)
   have:=ih nd.2 h;unfold me qK at this;rw[List.find?_cons_of_neg (by simp[ne])];exact this
theorem qK_no {qs:List QX}{n:Str}(h:n ∉ qs.map (·.1)):me (qK qs) (.inr n)=none:=by
 induction qs with
 | nil=>rfl
 | cons y qs ih =>
  rw[bq,ay,not_or] at h;have:=ih h.2;unfold me qK at this ⊢;rw[bq,List.find?_cons_of_neg (by simp[cQ h.1])];exact this
def hoursT (ps:HR):Str:=dm nl_ (ps.map λq=>dm sp_ q.2)
def HSm (ls:List (Lb×Int)):Prop:=ls.length≤20∧∀q∈ls,q.1.1.length≤100∧q.1.2.1.length≤100∧W60 q.2
inductive spHby (vs:List V)(H:Hp)(Q:VK)(_:XK):Prop
 | mk (u v:V)(ls:List (Lb×Int))(_:vs=[u,v])(_:IsD H u (.tup (ls.map λq=>lbD q.1)))(_:IsD H v (.tup (ls.map λq=> .int q.2)))(_:HSm ls)(_:∀(L:aq) H',cb H H'→H L=none→H' L=some (.lst ((hgo ls).map λq=>V.str (dm sp_ q.2)))→Q (.ref L) H')
theorem hgo_snoc (ls:List (Lb×Int))(q:Lb×Int):hgo (ls++[q])=qJ (hgo ls) q:=by unfold hgo;rw[jM];rfl
theorem hset_len (ps:HR)(n:Str)(f:List Str→List Str):(hset ps n f).length=ps.length:=by unfold hset;rw[ae]
theorem hnew_len (ps:HR)(n:Str):(hnew ps n).length≤ps.length+1:=by unfold hnew;split <;> simp
structure HBd (ps:HR)(i:Nat):Prop where
 a:ps.length≤i
 b:∀q∈ps,q.2.length≤2 * i+1∧∀z∈q.2,z.length≤100
theorem nK {t:Int}(h:W60 t):(iA t).length≤100:=by have:=lX h;lia
theorem hstep_bd {ps:HR}{q:Lb×Int}(h:HBd ps i)(h1:q.1.1.length≤100)(h2:q.1.2.1.length≤100)(h3:W60 q.2):HBd (qJ ps q) (i+1):=by
 have st:∀ws:List Str,(∀z∈ws,z.length≤100)→(qo ws q.1 q.2).length≤ws.length+2∧∀z∈qo ws q.1 q.2,z.length≤100:=λws hw=>by
  unfold qo qY;split
  ·apply⟨∅,λz hz=>?_⟩
   simp only[aS,aB] at hz
   rcases hz with (hz | rfl) | rfl
   ·exact hw z hz
   ·exact h2
   ·exact nK h3
  ·apply⟨∅,λz hz=>?_⟩
   simp only[aS,aB] at hz
   rcases hz with hz | rfl
   ·exact hw z hz
   ·exact nK h3
 have nw:∀y∈hnew ps q.1.1,y.2.length≤2 * i+1∧∀z∈y.2,z.length≤100:=λy hy=>by
  unfold hnew at hy;split at hy
  ·exact h.b y hy
  ·rcases aS.mp hy with hy | hy
   ·exact h.b y hy
   ·rw[aB.mp hy]
    apply⟨∅,λz hz=>by rw[aB.mp hz];exact h1⟩
 apply⟨?_,λy hy=>?_⟩
 ·unfold qJ
  rw[hset_len];have:=hnew_len ps q.1.1;have:=h.a;lia
 ·unfold qJ hset at hy
  obtain⟨x,hx,rfl⟩:=aI.mp hy;obtain⟨g1,g2⟩:=nw x hx;split
  ·obtain⟨s1,s2⟩:=st x.2 g2
   exact⟨by show(qo x.2 q.1 q.2).length≤_;lia,s2⟩
  ·exact⟨⋯,g2⟩
theorem qm:∀{zs:List Str},(∀z∈zs,z.length≤100)→(zs.map (·.length)).sum≤100 * zs.length
 | [],_=>by simp
 | z::zs,h=>by
  have:=qm (zs:=zs) λy hy=>h y (aE _ hy)
  have:=h z bh;rw[bq,gu,av];lia
def rJoin (K:ak)(x:V)(vs:List V)(H:Hp)(Q:VK):Prop:=∃z p zs,x= .str z∧vs=[.ref p]∧SqL K H p (zs.map V.str)∧z.length≤16∧(zs.map (·.length)).sum+zs.length≤1048576∧Q (.str (dm z zs)) H
theorem mt_joinK:MtM X "str.join" (rJoin X.K):=oj
theorem setd_two {o:Option V}{Q:V→Hp→Prop}{H3 H4:Hp}{z:V}(h:∀v H',(o=some v∧H'=H3)∨(o=none∧v=z∧H'=H4)→Q v H'):(∀v,o=some v→Q v H3)∧(o=none→Q z H4):=⟨λv e=>h v H3 (.inl ⟨e,rfl⟩),λe=>h z H4 (.inr ⟨e,rfl,rfl⟩)⟩
theorem pe_bmK (K:ak){o:Expr}{id:String}{r:V→List V→Hp→VK→Prop}(pa:PlainAttrs T)(slot:Slot T name id)(hty:typeOf (.builtin id)=iS (.type "method_descriptor"))(hm:MtR X id r)(ho:PE X o to)(ha:PA X (e::es) t)(hK:autoParam (X.K=K) L2.au0._auto_1)
  (hbase:autoParam (ia o name X.env (dY o X.env)=dY o X.env) L2.au0._auto_1)
  (hfew:autoParam (((gI cpos (br (e::es) X.env)).all (λx=> !x.1) && (backToKw cpos (j9 [] X.env)).all (λx=>x.1.isSome) && decide ((e::es).length+([]:List kX).length+(if ([]:List kX).isEmpty then 0 else 1)<30))=true) L2.au0._auto_1)
  (hline:autoParam ((apos.endLine == cpos.line)=true) L2.au0._auto_1) (hs:autoParam (br (e::es) X.env=(false,dY e X.env)::br es X.env) L2.au0._auto_1) (hplain:autoParam ((gI cpos (br es X.env)).any (·.1)=false) L2.au0._auto_1) :
  PE X (.Call (.Attribute o name apos) (e::es) [] cpos) (tBM K T r to t):=by
 subst hK;exact jR pa slot hty hm ho ha hbase hfew hline hs hplain
theorem scHby:cI ["labels","table","rows","label","time","words"] pzE (defScope sHby):=by trivial
theorem ok_hby (F:Fun K "hours_by" "hours_by" sHby f fd)(T:Nm mg)(hz:mg "zip" =none)(hs:mg "str" =none):‹0› 1 f fd pzE spHby:=by
 specialize F.ok scHby;obtain ⟨u,v,ls,rfl,hu,hv,sm,k⟩:=h;apply ⟨_,dw (psZ 2 scHby.nd pe_dnewK)
  (dw (jg cf rfl (pi_zip2 rfl hz (ah (pv 0) (ah (pv 1) aA))) (qA rfl (iW (pgZ 3 scHby.nd) (iW (pgZ 4 scHby.nd) oh)))
   (PSl.h (bo ⟨(psZ 5 scHby.nd (pe_dsetd (pv 2) (ixZ (pv 3)) (kF (ah (ixZ (pv 3)) aA)) ⟨rfl,rfl,rfl,rfl⟩))⟩
   (bo ⟨(fG (PW.pt (mS (bQ iB (ixZ (pv 3)) eS (cw _)) (lK (bQ iB (cu cA rfl T.len bp (ah (pv 5) aA)) aO (cw _))))) (bE (hV (jR bB bK bJ gH (pv 5) (ah (ixZ (pv 3)) aA)))) cF)⟩
   (gc ⟨(hV (jR bB bK bJ gH (pv 5) (ah (gk nu rfl hs boot_str (ah (pv 4) aA)) aA)))⟩)))))
  (bE (bR (pe_thaw (kL (fr:=[]) (js:=[]) rfl (qz (pv 2) ⟨rfl,rfl,rfl,rfl⟩) ⇑0 rfl ⇑0 rfl (by exists sHby) ⇑0 rfl ⇑0 (fun _ _ _ _ _=>⟨(pe_bmK K (r:=rJoin K) dj gL gK mt_joinK eS (ah (pv 0) aA)),kh⟩)))))),?_⟩
 try dsimp only [cxK]
 obtain⟨la,us,rfl,hla,dus⟩:=hu.tup_of;obtain⟨ta,ts,rfl,hta,dts⟩:=hv.tup_of;have ets:ts=(ls.map (·.2)).map V.int:=jG.ints_of (by rw[bf];exact dts);subst ets;apply λD hD=>?_
 have big:(100000:Nat)≤az:=by decide
 have S1:cb H (upd H D (.dK [])):=(cb.refl H).put hD;have I1:HrI H (upd H D (.dK [])) D []:=⟨S1,hD,aQ,(λq hq=>by cases hq),List.nodup_nil,List.nodup_nil⟩;have lus:us.length=ls.length:=by rw[dus.length,ae]
 obtain⟨sm1,sm2⟩:=sm;apply⟨ρ,ρ,⟨false,la⟩,⟨false,ta⟩,_,ρ,S1 _ _ hla,S1 _ _ hta,?_⟩
 let pZ1:Nat→L2.St→L2.Hp→Prop:=λi σ H2=>∃qs:List QX,HrI H H2 D qs∧qR qs=hgo (ls.take i)∧HBd (qR qs) i∧∃v3 v4 v5,σ=[some (.ref la),some (.ref ta),some (.ref D),v3,v4,v5]
 apply for_zip2 (c1:=⟨false,la⟩) (c2:=⟨false,ta⟩) (xs:=us) (ys:=(ls.map (·.2)).map V.int) pZ1
  ⟨[],I1,rfl,⟨cV _,λq hq=>by cases hq⟩,none,none,none,rfl⟩ (λi σ H2 _ q=>by obtain⟨qs,I,_⟩:=q;exact⟨I.S _ _ hla,I.S _ _ hta⟩) (by rw[ae,ae,lus]) ?_ ?_
 ·rintro i x1 x2 q σ H2 h1 h2 ⟨qs,I,eR,bd,v3,v4,v5,rfl⟩ hq
  rw[bf,aC] at h2;obtain⟨⟨⟨n,s,kd⟩,t⟩,hy,e2⟩:=aV.mp h2;have e2:V.int t=x2:=e2;subst e2;obtain⟨x',hx',dx⟩:=dus.at (i:=i) (d:=lbD (n,s,kd)) (by rw[aC,hy];rfl);rw[h1] at hx';cases hx';obtain⟨a,zs,rfl,ha,rz⟩:=dx.tup_of;have ez:zs=[.str n,.str s,.str kd]:=by
   cases rz with | cons d1 rz=>cases rz with | cons d2 rz=>cases rz with | cons d3 rz=>cases rz;cases d1;cases d2;cases d3;rfl
  subst ez;obtain⟨b1,b2,b3⟩:=sm2 _ (aD hy);have S6:cb H2 (upd H2 q (.tup [.ref a,.int t])):=cb.put (cb.refl H2) hq;have h6:(upd H2 q (.tup [.ref a,.int t])) q=some (.tup [.ref a,.int t]):=aQ;show ∃p xs,_;apply⟨q,ρ,SqT.of aQ,rfl,_,ρ,ς,?_⟩;generalize upd H2 q (.tup [.ref a,.int t])=H6 at S6 h6 ⊢;have I6:=I.same S6;have ha6:=I6.S _ _ ha;have li:i<ls.length:=(ai.mp hy).1;have lq:qs.length≤i:=by have:=bd.a;unfold qR at this;rwa [ae] at this
  have lk:(qK qs).length=qs.length:=ae _;apply⟨ρ,D,rfl,.inl ⟨_,.inl I6.d⟩,ρ,a,τ,SqT.of ha6,aP (j:=0) rfl,ρ,a,τ,SqT.of ha6,aP (j:=0) rfl,szZ1,λw0 hw0=>?_⟩;have S7:cb H6 (upd H6 w0 (.lst [.str n])):=(cb.refl H6).put hw0;have I7:=I6.same S7;apply⟨_,.inr n,I7.d,rfl,⋯,setd_two λv H8 hc=>?_⟩;obtain⟨wa,ws,qs1,rfl,I8,m8,e8,l8⟩:∃(wa:aq) (ws:List Str) (qs1:List QX),v= .ref wa∧HrI H H8 D qs1∧(n,ws,wa)∈qs1∧qR qs1=hnew (qR qs) n∧ws.length≤2 * i+1:=by
   by_cases mem:n∈qs.map (·.1)
   ·obtain⟨y,my,ey⟩:=aI.mp mem
    have e1:=qK_at I.nd my;rw[ey] at e1
    rcases hc with ⟨c1,rfl⟩ | ⟨c1,_⟩
    ·rw[e1] at c1
     cases c1;subst ey;apply⟨y.2.2,y.2.1,qs,rfl,I7,my,?_,?_⟩
     ·unfold hnew
      rw[rP (by unfold qR;rw[bf];exact mem)]
     ·exact(bd.b (y.1,y.2.1) (aI.mpr ⟨y,my,rfl⟩)).1
    ·rw[e1] at c1;cases c1
   ·have e1:=qK_no mem
    rcases hc with ⟨c1,_⟩ | ⟨_,rfl,rfl⟩
    ·rw[e1] at c1;cases c1
    ·have nw:H6 w0=none:=hw0
     have nwD:D≠w0:=aR I6.d hw0;have h0w:H w0=none:=I6.S.free hw0;rw[putK_new e1];apply⟨w0,[n],qs++[(n,[n],w0)],rfl,⟨λc o e=>?_,I.nD,?_,λq hq'=>?_,?_,?_⟩,∅,?_,∅⟩
     ·rw[aX (aR e I.nD)];exact I7.S _ _ e
     ·rw[aQ];unfold qK;rw[aw];rfl
     ·rcases aS.mp hq' with m | m
      ·obtain⟨g1,g2⟩:=I7.ws q m
       apply⟨?_,g2⟩;rw[aX (eN g1 I7.d nofun)];exact g1
      ·rw[aB.mp m]
       exact⟨by rw[aX (cQ nwD)];exact aQ,h0w⟩
     ·rw[aw]
      exact iX.mpr ⟨I.nd,∅,λx hx y hy e=>mem (by rw[e,aB.mp hy] at hx;exact hx)⟩
     ·rw[aw]
      apply iX.mpr ⟨I.na,∅,λx hx y hy e=>?_⟩;obtain⟨q',mq,rfl⟩:=aI.mp hx;have g:=(I6.ws q' mq).1;rw[e,aB.mp hy] at g;have g:H6 w0=_:=g;rw[hw0] at g;cases g
     ·unfold hnew
      rw[rO (by unfold qR;rw[bf];exact mem)];unfold qR;rw[aw];rfl
  have ha8:=I8.S _ _ ha;have hw8:=(I8.ws _ m8).1;have hw8:H8 wa=some (.lst (ws.map V.str)):=hw8;have ll:(ws.map V.str).length<az:=by rw[ae];lia
  have et:ls.take (i+1)=ls.take i++[((n,s,kd),t)]:=by rw[bG,hy];rfl
  have fin:∀(qs2:List QX) (ws1:List Str) (H9:Hp),HrI H H9 D qs2→(n,ws1,wa)∈qs2→(∀w,rE qs2 n w=rE qs1 n w)→ws1=qY ws (n,s,kd) →
    ∃qs:List QX,HrI H (upd H9 wa (.lst (ws1.map V.str++[.str (iA t)]))) D qs∧qR qs=hgo (ls.take (i+1))∧HBd (qR qs) (i+1)∧∃v3 v4 v5,[some (V.ref la),some (.ref ta),some (.ref D),some (.ref a),some (.int t),some (.ref wa)]=[some (.ref la),some (.ref ta),some (.ref D),v3,v4,v5]:=by
   intro qs2 ws1 H9 I9 m9 hq2 e9;have eq:qR (rE qs2 n (ws1++[iA t]))=hgo (ls.take (i+1)):=by
    rw[hq2,e9,show qY ws (n,s,kd)++[iA t]=(λu=>qo u (n,s,kd) t) ws from rfl,qset_R (λu=>qo u (n,s,kd) t) I8.nd m8,e8,et,hgo_snoc,eR];rfl
   apply⟨rE qs2 n (ws1++[iA t]),?_,eq,?_,_,_,ρ⟩
   ·have:=I9.app (ws':=ws1++[iA t]) m9
    rw[aw] at this;exact this
   ·rw[eq,et,hgo_snoc,←eR]
    exact hstep_bd bd b1 b2 b3
  have ht:t.natAbs.log2<1920:=log_60 b3;have l8':ws.length+1<az:=by lia
  by_cases c1:kd = "comes"
  ·subst c1
   apply⟨ρ,a,τ,SqT.of ha8,aP (j:=2) rfl,rfl,ρ,nW (rR rfl) ?_⟩;apply⟨ρ,.inl ⟨rfl,_,SqL.of hw8⟩,ρ,a,τ,SqT.of ha8,aP (j:=1) rfl,wa,ς,hw8,ll,?_⟩;have e9:ws.map V.str++[.str s]=(ws++[s]).map V.str:=by rw[aw];rfl
   rw[e9];have I9:=I8.app (ws':=ws++[s]) m8;have m9:(n,ws++[s],wa)∈rE qs1 n (ws++[s]):=qset_mem m8;have h9:=(I9.ws _ m9).1;have l9:((ws++[s]).map V.str).length<az:=by rw[ae,ao,eX];lia
   exact⟨ρ,.inl ⟨rfl,_,SqL.of h9⟩,ρ,.int t,iA t,rfl,rfl,(λi e=>by cases e;exact ht),wa,ς,h9,l9,fin _ _ _ I9 m9 (λw=>qset_qset _ _ _ _) (by unfold qY;rw[rP (.inl rfl)])⟩
  ·apply⟨ρ,a,τ,SqT.of ha8,aP (j:=2) rfl,rfl,ρ,jY (rS λz=>c1 (by injection z)) ?_⟩
   apply⟨ρ,wa,ρ,.inl (SqL.of hw8),rfl,ρ,?_⟩
   by_cases c2:ws.length=1
   ·apply nW (rR (by rw[ae,c2];rfl)) ?_
    apply⟨ρ,.inl ⟨rfl,_,SqL.of hw8⟩,ρ,a,τ,SqT.of ha8,aP (j:=1) rfl,wa,ς,hw8,ll,?_⟩;have e9:ws.map V.str++[.str s]=(ws++[s]).map V.str:=by rw[aw];rfl
    rw[e9];have I9:=I8.app (ws':=ws++[s]) m8;have m9:(n,ws++[s],wa)∈rE qs1 n (ws++[s]):=qset_mem m8;have h9:=(I9.ws _ m9).1;have l9:((ws++[s]).map V.str).length<az:=by rw[ae,ao,eX];lia
    exact⟨ρ,.inl ⟨rfl,_,SqL.of h9⟩,ρ,.int t,iA t,rfl,rfl,(λi e=>by cases e;exact ht),wa,ς,h9,l9,fin _ _ _ I9 m9 (λw=>qset_qset _ _ _ _) (by unfold qY;rw[rP (Or.inr c2)])⟩
   ·apply jY (rS λz=>?_) ?_
    ·injection z with z
     rw[ae] at z;exact c2 ⋯
    ·exact⟨ρ,.inl ⟨rfl,_,SqL.of hw8⟩,ρ,.int t,iA t,rfl,rfl,(λi e=>by cases e;exact ht),wa,ς,hw8,ll,fin _ _ _ I8 m8 (λw=>rfl) (by unfold qY;rw[rO (by rintro(z | z);exact c1 z;exact c2 z)])⟩
 ·rintro σ H2 ⟨qs,I,eR,bd,v3,v4,v5,rfl⟩
  rw[lus,bO] at eR;rw[lus] at bd;have lq:qs.length≤100:=by have:=bd.a;unfold qR at this;rw[ae] at this;lia
  have lk:(qK qs).length=qs.length:=ae _;apply⟨ρ,D,ρ,I.d,λpv ob hpv=>?_⟩
  let pZ2:Nat→List L2.V→L2.Hp→Prop:=λi ys H3=>cb (upd (upd H2 pv (isVV pv D)) D (.frz ob (.dK (qK qs)))) H3∧ys=(qs.take i).map λq=>V.str (dm sp_ q.2.1)
  apply qU pZ2 ⟨cb.refl _,rfl⟩ (λi ys H3 hi q=>⟨q.1 _ _ aQ,by rw[q.2,ae,aL];lia⟩) ⋯ (λi kk x ys H3 hx q=>?_) (λys H3 q D' hD'=>?_)
  ·obtain⟨S3,ey⟩:=q
   unfold qK at hx;rw[aC] at hx;obtain⟨z,hz,e⟩:=aV.mp hx;cases e;have mz:=aD hz;have g1:=(I.ws z mz).1;have g3:=lE hpv S3 _ _ (eN g1 I.d nofun) g1;obtain⟨b1,b2⟩:=bd.b (z.1,z.2.1) (aI.mpr ⟨z,mz,rfl⟩);have b1:z.2.1.length≤2 * ls.length+1:=b1;have:=qm (zs:=z.2.1) b2;apply jq ?_;apply⟨rfl,ρ,sp_,z.2.2,z.2.1,rfl,rfl,SqL.of g3,⇑0,⋯,S3,?_⟩;rw[ey,bG,hz,aw];rfl
  ·obtain⟨S3,ey⟩:=q
   rw[lk,bO] at ey;have hD3:=S3 _ _ aQ;have hDD:D≠D':=aR hD3 hD';have kp:∀c o,c≠D→H2 c=some o→(upd H3 D' (.lst ys)) c=some o:=λc o hc e=>by
    have:=lE hpv S3 c o hc e;rw[aX (aR this hD')];exact this
   have SS:cb H2 (upd (upd H3 D' (.lst ys)) D (.dK (qK qs))):=qk (u:=isVV pv D) (ob:=ob) (pv:=pv) I.d kp;have nD':H2 D'=none:=by
    cases e:H2 D' with
    | none=>rfl
    | some o=>rw[lE hpv S3 D' o (cQ hDD) e] at hD';cases hD'
   apply⟨D,ob,qK qs,I.d,(by rw[aX hDD];exact hD3),k D' _ (I.S.trans SS) (I.S.free nD') ?_⟩;rw[aX (cQ hDD),aQ,ey,←eR];unfold qR;rw[bf];rfl
abbrev sHof:c8:=top 82
def lbs (n:Str):List Str→List Lb
 | s::u::r=>(n,s,"goes")::(n,u,"comes")::lbs n (u::r)
 | _=>[]
def qX (ls:List Ln):List Lb:=ls.flatMap λl=>lbs l.n l.ss
theorem lbs_D (n:Str):∀ss:List Str,(labs n ss).map (λt=>Dt.tup (t.map vD))=(lbs n ss).map lbD
 | []=>rfl
 | [_]=>rfl
 | s::u::r=>by
  show _::_::(labs n (u::r)).map _=_::_::(lbs n (u::r)).map _;rw[lbs_D n (u::r)];rfl
theorem lbLL_D (ls:List Ln):(allLL ls).map (λt=>Dt.tup (t.map vD))=(qX ls).map lbD:=by
 unfold allLL qX;rw[List.map_flatMap,List.map_flatMap];congr 1;exact funext λl=>lbs_D l.n l.ss
theorem hgo_bd {ls:List (Lb×Int)}(h:HSm ls):HBd (hgo ls) ls.length:=by
 have go:∀i,i≤ls.length→HBd (hgo (ls.take i)) i:=by
  intro i
  induction i with
  | zero=>intro _;exact⟨cV _,λq hq=>by cases hq⟩
  | succ i ih =>
   intro hi;have e:=gE (show i<ls.length by lia);rw[bG,e];show HBd (hgo (ls.take i++[ls[i]])) (i+1);rw[hgo_snoc];obtain⟨a,b,c⟩:=h.2 ls[i] (cW _);exact hstep_bd (ih ⋯) a b c
 have:=go ls.length (aG _)
 rwa [bO] at this
theorem join_le (h:∀z∈ws,z.length≤100)(hl:ws.length≤60):(dm sp_ ws).length≤7000:=by
 have:=rowW_len (r:=ws.map V.str) (fun v hv=>by
  obtain ⟨z,hz,rfl⟩:=aI.mp hv;exact ⟨⟨z,rfl,h z hz⟩,fun i e=>by cases e⟩) (by rw [ae];exact hl)
 unfold qZ at this;rw[bf,show(wdS ∘ V.str)=id from rfl,List.map_id] at this;exact this
theorem sum_le7:∀{zs:List Str},(∀z∈zs,z.length≤7000)→(zs.map (·.length)).sum≤7000 * zs.length
 | [],_=>by simp
 | z::zs,h=>by
  have:=sum_le7 (zs:=zs) λy hy=>h y (aE _ hy)
  have:=h z bh;rw[bq,gu,av];lia
theorem scHof:cI pzm pzm (defScope sHof):=by trivial
abbrev sTt:c8:=top 83
def DueR (b:Int)(rows:List PR)(d:Int):Prop:=(∃i:Nat,Wrg b rows i∧d=i)∨(1≤b∧UpTo b rows rows.length∧lsC rows≠[]∧d= -1)
inductive spHofX (C:aq)(vs:List V)(H:Hp)(Q:VK)(E:XK):Prop
 | mk (z:Str)(b:Int)(rs:List PR)(v:V)(_:vs=[.str z,v])(_:NetF z b rs)(_:(∀i H',cb H H'→Wrg b rs i→XP C i E H'))(_:(1≤b→UpTo b rs rs.length→lsC rs≠[]→∃ts:List Int,IsD H v (.tup (ts.map Dt.int))∧ts.length=(qX (kj rs)).length∧HSm ((qX (kj rs)).zip ts)∧∀H',cb H H'→Q (.str (hoursT (hgo ((qX (kj rs)).zip ts)))) H'))
inductive spTtX (C:aq)(vs:List V)(H:Hp)(Q:VK)(E:XK):Prop
 | mk (z:Str)(b:Int)(rs:List PR)(i:Nat)(_:vs=[.str z])(_:NetF z b rs)(_:Wrg b rs i)(_:∀H',cb H H'→XP C i E H')
theorem Wrg.not (a:Wrg b rs i)(h1:1≤b)(u:UpTo b rs rs.length)(ne:lsC rs≠[]):False:=by
 cases a with
 | beat h=>lia
 | row h u2 e no=>exact no (u _ _ (ai.mp e).1 e)
 | none h u2 e=>exact ne e
theorem pss_notHere {ss:List c8}:PSs X ss (λ_ _ _=>False):=λ_ _ _ _ _ _ h=>h.elim
theorem ok_hofX (F:Fun K "hours_of" "hours_of" sHof f fd)(G1:Fn K mg "net_by" rD pzd f1 d1)(F1:c9 P w K mg base (CXN P w) 8 f1 d1 pzd (nG C))(G2:Fn K mg "hours_by" sHby pzE f2 d2)(F2:‹0› 1 f2 d2 pzE spHby):c9 P w K mg base (CXN P w) 9 f fd pzm (spHofX C):=by
 apply F.okX scHof (by contradiction) (λcdv A outer s H vs Q E hr D h=>?_);obtain⟨z,b,rs,v,rfl,N,kE,kQ⟩:=h;apply⟨_,bE (bR (jR dj gL gK oj eS (ah (pc1 G2 F2 (hr.mono ↥0) (ah (ixZ (pB F1 hr rfl G1.mg G1.F.kp G1.b .nil D.pass (ah (pv 0) aA))) (ah (pv 1) aA))) aA))),?_⟩
 try dsimp only [cxK]
 apply⟨rfl,ρ,z,b,rs,rfl,N,kE,λbt u H1 b1 up ne ru S1 d=>?_⟩;obtain⟨ts,hv,hl,sm,k⟩:=kQ b1 up ne;obtain⟨t,us,rfl,ht,du⟩:=d.tup_of;cases du with
 | cons dn du =>
  cases du with
  | cons dl du =>
   cases du;rw[lbLL_D] at dl;generalize kj rs=ls at *;apply⟨t,τ,SqT.of ht,aP (j:=1) rfl,ρ,_,v,(qX ls).zip ts,rfl,?_,?_,sm,λL H2 S2 _ hL=>?_⟩
   ·have e:((qX ls).zip ts).map (λq=>lbD q.1)=(qX ls).map lbD:=by
     show((qX ls).zip ts).map (lbD ∘ Prod.fst)=_;rw[←bf,List.map_fst_zip ⋯]
    rw[e];exact dl
   ·have e:((qX ls).zip ts).map (λq=>Dt.int q.2)=ts.map Dt.int:=by
     show((qX ls).zip ts).map (Dt.int ∘ Prod.snd)=_;rw[←bf,List.map_snd_zip ⋯]
    rw[e];exact hv.same S1
   ·have bd:=hgo_bd sm
    have s1:=sm.1;have b1:=bd.a;have e:(hgo ((qX ls).zip ts)).map (λq=>V.str (dm sp_ q.2))=((hgo ((qX ls).zip ts)).map λq=>dm sp_ q.2).map V.str:=by rw[bf];rfl
    rw[e] at hL;have:=sum_le7 (zs:=(hgo ((qX ls).zip ts)).map λq=>dm sp_ q.2) λy hy=>by
     obtain⟨q,hq,rfl⟩:=aI.mp hy;obtain⟨c1,c2⟩:=bd.b q hq;exact join_le c2 ⋯
    have hm:((hgo ((qX ls).zip ts)).map λq=>dm sp_ q.2).length=(hgo ((qX ls).zip ts)).length:=ae _;exact⟨nl_,L,ρ,rfl,SqL.of hL,⇑0,⋯,k H2 (S1.trans S2)⟩
theorem scTt:cI ["text","told","net","best","table","wait"] pzd (defScope sTt):=by trivial
theorem ok_ttX (F:Fun K "timetable" "timetable" sTt f fd)(G1:Fn K mg "net_by" rD pzd f1 d1)(F1:c9 P w K mg base (CXN P w) 8 f1 d1 pzd (nG C)):c9 P w K mg base (CXN P w) 9 f fd pzd (spTtX C):=by
 apply F.okX scTt (by contradiction) (λcdv A outer s H vs Q E hr D h=>?_);obtain⟨z,b,rs,i,rfl,N,wr,kE⟩:=h;apply⟨_,dw (psZ 1 scTt.nd (pB F1 hr rfl G1.mg G1.F.kp G1.b .nil D.pass (ah (pv 0) aA))) pss_notHere,?_⟩
 try dsimp only [cxK]
 apply⟨ρ,z,b,rs,rfl,N,λj H' S' wj=>?_,λbt u H1 b1 up ne ru S1 d=>(wr.not b1 up ne).elim⟩;rw[wj.one wr];exact kE H' S'
end HN
variable {qs:List HN.QX}
namespace L2
open PySem PySem.Spec PySem.W PyProof.Rows
end L2
namespace HN
open PySem L2 PyProof.Rows HT2
abbrev sRwt:c8:=top 105
theorem kit_self:iC K (.ref C) (.ref C)=some true:=by unfold iC;simp
theorem isxK (K:ak)(hK:autoParam (X.K=K) L2.au0._auto_1):jU X (.builtin "isinstance") (λxs H Q=>∃a C d b,(∃D,xs=[.ref a,.ref D]∧iC K (.ref C) (.ref D)=some b)∧H a=some (pI a C d)∧(∀D,d=some D→∃fs,H D=some (XD D fs))∧XCls K C∧Q (.bl b) H):=by subst hK;exact call_isx
theorem xfldK (K:ak){f:Str}(he:PE X e ta)(hb:autoParam (ia e f X.env (dY e X.env)=dY e X.env) L2.au0._auto_1)(hK:autoParam (X.K=K) L2.au0._auto_1) :
  PE X (.Attribute e f pos) (λσ H Q=>ta σ H λx H1=>∃a C D fs v,x= .ref a∧H1 a=some (pI a C (some D))∧H1 D=some (XD D fs)∧XCls K C∧kK K C f∧fs.lookup f=some v∧Q v H1):=by subst hK;exact pe_xfld he hb
inductive spRwt (vs:List V)(H:Hp)(Q:VK)(_:XK):Prop
 | mk (way:Int)(z:Str)(b:Int)(rs:List PR)(_:vs=[.int way,.str z])(_:NetF z b rs)(_:(way=0∨∃i,Wrg b rs i))(_:∀d H',cb H H'→DueR b rs d→Q (.int d) H')
theorem scRwt:cI ["_law_way","_law_text_here","_law_error","e"] pzu (defScope sRwt):=by trivial
theorem ok_rwt {f4 U fi:aq}{fd3 fd4:aT}(F:Fun K "_law_row_told" "_law_row_told" sRwt f fd)(T:Nm mg)(NP:NPc K mg C U fi)(TU:Exc K mg "HourError" U)(UN:Under K C U)
  (G2:Fn K mg "net_by" rD pzd f2 fd2) (F2:c9 P w K mg base (CXN P w) 8 f2 fd2 pzd (nG C))
  (G3:Fn K mg "hours_of" sHof pzm f3 fd3) (F3:c9 P w K mg base (CXN P w) 9 f3 fd3 pzm (spHofX C))
  (G4:Fn K mg "timetable" sTt pzd f4 fd4) (F4:c9 P w K mg base (CXN P w) 9 f4 fd4 pzd (spTtX C)):‹0› 10 f fd pzu spRwt:=by
 specialize F.ok scRwt;obtain ⟨way,z,b,rs,rfl,N,hw,k⟩:=h;have hr8:kA 8 _:=hr.mono ↥0;apply ⟨_,dw (psZ 2 scRwt.nd iJ)
  (dw (ps_cutK (ps_tryAs (iN:=3) rfl rfl scRwt.nd rfl rfl TU (fun pn W σ0 E hp=>(bE (fG (bQ iB (pv 0) aO (cw _)) (bE (hV (pe_callS F2 hr8 rfl G2.mg G2.F.kp G2.b .nil hp (ah (pv 1) aA))))
    (bE (fG (bQ iB (pv 0) aO (cw _)) (bE (hV (pe_callS F3 hr rfl G3.mg G3.F.kp G3.b .nil hp (ah (pv 1) (ah (cH op_repT (jc (ah aO aA)) aO) aA)))))
     (bE (hV (pe_callS F4 hr rfl G4.mg G4.F.kp G4.b .nil hp (ah (pv 1) aA)))))))))
   (fun pn e=>(bE (psZ 2 scRwt.nd (pv 3))))))
  (PSl.h (bo ⟨(fG (bQ nc (pv 2) iJ (cw _)) (bE (bR (pe_un rg aO))) cF)⟩
  (bo ⟨(fG (oK (mY (cu (isxK K) (by rfl) (by exact T.isin) mr (ah (pv 2) (ah (pA (v:= .ref C) (by rfl) (by exact NP.mgC) rfl) aA))))) (bE (bR (pe_un rg aO))) cF)⟩
  (gc ⟨(bR (xfldK K (pv 2)))⟩))))),?_⟩
 try dsimp only [cxK]
 apply⟨λσ' H'=>cb H H'∧((∃(a D:aq) (i:Nat),σ'=[some (.int way),some (.str z),some (.ref a),none]∧Wrg b rs i∧H' a=some (pI a C (some D))∧H' D=some (XD D (npF i)))∨(σ'=[some (.int way),some (.str z),some .non,none]∧1≤b∧UpTo b rs rs.length∧lsC rs≠[])),λσ' HA q=>?_,?_⟩
 ·rcases q with ⟨S1,⟨a,D,i,rfl,wr,eA,eD⟩ | ⟨rfl,b1,up,ne⟩⟩
  ·have hd:∀D',some D=some D'→∃fs,HA D'=some (XD D' fs):=λD' e=>by cases e;exact⟨_,eD⟩
   apply⟨ρ,rfl,ρ,jY rfl ?_⟩;apply⟨ρ,a,C,some D,true,⟨C,rfl,kit_self⟩,eA,hd,NP.cl,ρ,jY rfl ?_⟩;apply⟨ρ,a,C,D,_,ρ,eA,eD,NP.cl,NP.na,npF_row,?_⟩;exact k _ HA S1 (.inl ⟨i,wr,rfl⟩)
  ·apply⟨ρ,rfl,ρ,nW rfl ⟨_,rfl,?_⟩⟩
   exact k _ HA S1 (.inr ⟨b1,up,ne,rfl⟩)
 ·have up:∀{H1 H3:Hp} {i:Nat} {D:aq},cb H H1→cb H1 H3→H3 D=some (XD D (npF i))→∀a,H3 a=none→cb H (upd H3 a (pI a C (some D)))∧(upd H3 a (pI a C (some D))) a=some (pI a C (some D))∧(upd H3 a (pI a C (some D))) D=some (XD D (npF i)):=λ{H1 H3 i D} S1 S3 eD a na =>
   ⟨(S1.trans S3).trans ((cb.refl H3).put na),aQ,((cb.refl H3).put na) _ _ eD⟩
  apply⟨ρ,rfl,ρ,kJ (λc=>?_) (λc=>⟨ρ,rfl,ρ,kJ (λc2=>?_) (λc2=>?_)⟩)⟩
  ·apply⟨rfl,ρ,z,b,rs,rfl,N,λi H1 S1 wr D H3 S3 eD=>⟨C,rfl,UN,λa na=>?_⟩,λbt v H1 hb u ne ru S1 d1=>⟨S1,.inr ⟨rfl,hb,u,ne⟩⟩⟩
   obtain⟨q1,q2,q3⟩:=up S1 S3 eD a na;exact⟨ρ,q1,.inl ⟨a,D,i,rfl,wr,q2,q3⟩⟩
  ·have w0:∃i,Wrg b rs i:=hw.resolve_left λe=>c (rR (by rw[e]))
   obtain⟨i0,wr0⟩:=w0;apply⟨rfl,ρ,szZ1,λt H0 S0 e0=>⟨t,ς,e0,∅,↥0,↥0,by show 1<1000;decide,λt2 H02 S02 e02=>?_⟩⟩;apply⟨z,b,rs,ρ,N,λi H1 S1 wr D H3 S3 eD=>⟨C,rfl,UN,λa na=>?_⟩,λb1 u ne=>(wr0.not b1 u ne).elim⟩;obtain⟨q1,q2,q3⟩:=up (S0.trans (S02.trans S1)) S3 eD a na;exact⟨ρ,q1,.inl ⟨a,D,i,rfl,wr,q2,q3⟩⟩
  ·have w0:∃i,Wrg b rs i:=hw.resolve_left λe=>c (rR (by rw[e]))
   obtain⟨i,wr⟩:=w0;apply⟨rfl,ρ,z,b,rs,i,rfl,N,wr,λH1 S1 D H3 S3 eD=>⟨C,rfl,UN,λa na=>?_⟩⟩;obtain⟨q1,q2,q3⟩:=up S1 S3 eD a na;exact⟨ρ,q1,.inl ⟨a,D,i,rfl,wr,q2,q3⟩⟩
def SK (v w:V):Prop:=((∃s,v= .str s)∧∃z,w= .str z∧nam z=true)∨((∃i,v= .int i)∧∃j,w= .int j∧W60 j)
theorem SK.str {s:Str}{w:V}(h:SK (.str s) w):∃z,w= .str z∧nam z=true:=by
 rcases h with ⟨_,h⟩ | ⟨⟨i,e⟩,_⟩
 ·exact h
 ·cases e
theorem SK.int {i:Int}{w:V}(h:SK (.int i) w):∃j,w= .int j∧W60 j:=by
 rcases h with ⟨⟨i,e⟩,_⟩ | ⟨_,h⟩
 ·cases e
 ·exact h
theorem intr_set:∀{ss:List Str} {rs:List Int} {k:Nat} {v w:V},ss.length=rs.length+1→(jI ss rs)[k]? =some v→SK v w→∃(ss':List Str) (rs':List Int),ss'.length=ss.length∧rs'.length=rs.length∧jI ss' rs'=(jI ss rs).set k w∧(∀s∈ss',s∈ss∨nam s=true)∧∀r∈rs',r∈rs∨W60 r
 | [],_,_,_,_,h,_,_=>by simp at h
 | _::_::_,[],_,_,_,h,_,_=>by simp at h
 | [s],[],0,v,w,_,e,sk=>by
  cases e;obtain⟨z,rfl,hz⟩:=sk.str;exact⟨[z],[],rfl,rfl,rfl,(λs h=>by rw[aB.mp h];exact .inr hz),(λr h=>by cases h)⟩
 | [s],[],k+1,v,w,_,e,sk=>by
  have e:(none:Option V)=some v:=e;cases e
 | s::ss,r::rs,0,v,w,h,e,sk=>by
  cases e;obtain⟨z,rfl,hz⟩:=sk.str;apply⟨z::ss,r::rs,rfl,rfl,rfl,λs h=>?_,λr h=> .inl h⟩
  rcases ay.mp h with rfl | h
  ·exact .inr hz
  ·exact .inl (aE _ h)
 | s::ss,r::rs,1,v,w,h,e,sk=>by
  cases e;obtain⟨z,rfl,hz⟩:=sk.int;apply⟨s::ss,z::rs,rfl,rfl,rfl,λs h=> .inl h,λr h=>?_⟩
  rcases ay.mp h with rfl | h
  ·exact .inr hz
  ·exact .inl (aE _ h)
 | s::ss,r::rs,k+2,v,w,h,e,sk=>by
  have hl:ss.length=rs.length+1:=by simpa using h
  obtain⟨ss',rs',l1,l2,e',m1,m2⟩:=intr_set (k:=k) (v:=v) (w:=w) hl e sk;apply⟨s::ss',r::rs',by rw[av,l1];rfl,by rw[av,l2];rfl,?_,λs h=>?_,λr h=>?_⟩
  ·show V.str s:: .int r::jI ss' rs'=_
   rw[e'];rfl
  ·rcases ay.mp h with rfl | h
   ·exact .inl (bh ..)
   ·exact(m1 _ h).imp (aE _) id
  ·rcases ay.mp h with rfl | h
   ·exact .inl (bh ..)
   ·exact(m2 _ h).imp (aE _) id
theorem ln1 {l:List α}(h:l.length=1):∃a,l=[a]:=by
 rcases l with _ | ⟨a,_ | ⟨b,r⟩⟩ <;> first | exact⟨ρ⟩ | simp at h
theorem ln2 {l:List α}(h:l.length=2):∃a b,l=[a,b]:=by
 rcases l with _ | ⟨a,_ | ⟨b,_ | ⟨c,r⟩⟩⟩ <;> first | exact⟨_,ρ⟩ | simp at h
theorem ln3 {l:List α}(h:l.length=3):∃a b c,l=[a,b,c]:=by
 rcases l with _ | ⟨a,l⟩
 ·simp at h
 ·obtain⟨b,c,rfl⟩:=ln2 (l:=l) (by simpa using h)
  exact⟨a,b,c,rfl⟩
theorem ln4 {l:List α}(h:l.length=4):∃a b c d,l=[a,b,c,d]:=by
 rcases l with _ | ⟨a,l⟩
 ·simp at h
 ·obtain⟨b,c,d,rfl⟩:=ln3 (l:=l) (by simpa using h)
  exact⟨a,b,c,d,rfl⟩
theorem othG_len {k:Str}{ns':List Str}{is':List Int}(h:OthG k ns is)(h1:ns'.length=ns.length)(h2:is'.length=is.length):OthG k ns' is':=by
 cases h with
 | change =>
  obtain⟨_,_,_,rfl⟩:=ln3 h1;obtain⟨_,_,_,rfl⟩:=ln3 h2;exact .change
 | apart =>
  obtain⟨_,_,_,rfl⟩:=ln3 h1;obtain⟨_,rfl⟩:=ln1 h2;exact .apart
 | meet =>
  obtain⟨_,_,_,_,rfl⟩:=ln4 h1;obtain⟨_,rfl⟩:=ln1 h2;exact .meet
theorem pG {α:Type}{a z:α}:∀{l:List α} {i:Nat},a∈l.set i z→a∈l∨a=z
 | [],_,h=>by cases h
 | x::l,0,h=>by
  rcases ay.mp h with h | h
  ·exact .inr h
  ·exact .inl (aE _ h)
 | x::l,i+1,h=>by
  rcases ay.mp h with h | h
  ·exact .inl (by rw[h];exact bh ..)
  ·exact(pG (l:=l) (i:=i) h).imp (aE _) id
theorem oth_len {k:Str}{ns':List Str}{is':List Int}(h:(k = "stay" ∧∃(n z:Str) (l o w:Int),ns=[n,z]∧is=[l,o,w])∨OthG k ns is)(h1:ns'.length=ns.length)(h2:is'.length=is.length):(k = "stay" ∧∃(n z:Str) (l o w:Int),ns'=[n,z]∧is'=[l,o,w])∨OthG k ns' is':=by
 rcases h with ⟨hk,n,z,l,o,w,rfl,rfl⟩ | h
 ·obtain⟨_,_,rfl⟩:=ln2 h1
  obtain⟨_,_,_,rfl⟩:=ln3 h2;exact .inl ⟨hk,_,_,τ⟩
 ·exact .inr (othG_len h h1 h2)
theorem frm_set {w:V}(h:r.frm)(hk:1≤k)(e:r.rowV[k]? =some v)(s:SK v w):∃r':PR,r'.frm∧r'.rowV=r.rowV.set k w:=by
 obtain⟨k,rfl⟩:∃j,k=j+1:=⟨k - 1,⋯⟩;cases r with
 | beat b=>exact rQ h id
 | line n ss rs =>
  obtain⟨h1,h2,h3,h4,h5,h6⟩:=h;cases k with
  | zero =>
   cases e;obtain⟨z,rfl,hz⟩:=s.str;exact⟨.line z ss rs,⟨hz,h2,h3,h4,h5,h6⟩,rfl⟩
  | succ k =>
   obtain⟨ss',rs',l1,l2,e',m1,m2⟩:=intr_set (k:=k) h5 e s;apply⟨.line n ss' rs',⟨h1,(λs hs=>(m1 s hs).elim (h2 s) id),⋯,⋯,⋯,λr hr=>(m2 r hr).elim (h6 r) id⟩,?_⟩;show V.str "line" :: .str n::jI ss' rs'=_;rw[e'];rfl
 | oth kd ns is =>
  obtain⟨h1,h2,h3⟩:=h;have e:(ns.map V.str++is.map V.int)[k]? =some v:=e
  by_cases c:k<ns.length
  ·rw[bI (by rw[ae];exact c),aC,gE c] at e
   cases e;obtain⟨z,rfl,hz⟩:=s.str;apply⟨.oth kd (ns.set k z) is,⟨oth_len h1 (by rw[iU]) rfl,λa ha=>?_,h3⟩,?_⟩
   ·rcases pG ha with ha | rfl
    ·exact h2 a ha
    ·exact hz
   ·show V.str kd::((ns.set k z).map V.str++is.map V.int)= .str kd::(ns.map V.str++is.map V.int).set k (.str z)
    rw[List.set_append,rP (by rw[ae];exact c),List.map_set]
  ·rw[bc (by rw[ae];lia),ae,aC] at e
   cases e2:is[k - ns.length]? with
   | none=>rw[e2] at e;cases e
   | some i =>
    rw[e2] at e;cases e;obtain⟨z,rfl,hz⟩:=s.int;apply⟨.oth kd ns (is.set (k - ns.length) z),⟨oth_len h1 rfl (by rw[iU]),h2,λa ha=>?_⟩,?_⟩
    ·rcases pG ha with ha | rfl
     ·exact h3 a ha
     ·exact hz
    ·show V.str kd::(ns.map V.str++(is.set (k - ns.length) z).map V.int)= .str kd::(ns.map V.str++is.map V.int).set k (.int z)
     rw[List.set_append,rO (by rw[ae];exact c),List.map_set,ae]
theorem intr_wd:∀{ss:List Str} {rs:List Int},(∀s∈ss,nam s=true)→(∀r∈rs,W60 r)→∀v∈jI ss rs,WOk v
 | s::ss,r::rs,h1,h2,v,hv=>by
  have hv:v∈V.str s:: .int r::jI ss rs:=hv
  rcases ay.mp hv with rfl | hv
  ·exact .inl ⟨ρ,h1 s (bh ..)⟩
  ·rcases ay.mp hv with rfl | hv
   ·exact .inr ⟨ρ,h2 r (bh ..)⟩
   ·exact intr_wd (λs h=>h1 s (aE _ h)) (λr h=>h2 r (aE _ h)) v hv
 | s::ss,[],h1,h2,v,hv=>by
  have hv:v∈[V.str s]:=hv;rw[aB.mp hv];exact .inl ⟨ρ,h1 s (bh ..)⟩
 | [],_,_,_,v,hv=>by cases hv
theorem frm_wd (h:r.frm):(∀v∈r.rowV.drop 1,WOk v)∧4≤r.rowV.length∧r.rowV.length≤11:=by
 cases r with
 | beat b=>exact rQ h id
 | line n ss rs =>
  obtain⟨h1,h2,h3,h4,h5,h6⟩:=h;have ll:(PR.line n ss rs).rowV.length=(jI ss rs).length+1+1:=rfl;rw[ll,ko h5];apply⟨λv hv=>?_,⋯,⋯⟩;have hv:v∈V.str n::jI ss rs:=hv
  rcases ay.mp hv with rfl | hv
  ·exact .inl ⟨ρ,h1⟩
  ·exact intr_wd h2 h6 v hv
 | oth k ns is =>
  obtain⟨h1,h2,h3⟩:=h;have ll:(PR.oth k ns is).rowV.length=ns.length+is.length+1:=by
   show(ns.map V.str++is.map V.int).length+1=_;rw[ao,ae,ae]
  have l2:4≤ns.length+is.length+1∧ns.length+is.length+1≤11:=by
   rcases h1 with ⟨_,_,_,_,_,_,rfl,rfl⟩ | h1
   ·simp
   ·cases h1 <;> simp
  rw[ll];apply⟨λv hv=>?_,l2⟩;have hv:v∈ns.map V.str++is.map V.int:=hv
  rcases aS.mp hv with hv | hv
  ·obtain⟨z,hz,rfl⟩:=aI.mp hv
   exact .inl ⟨ρ,h2 z hz⟩
  ·obtain⟨z,hz,rfl⟩:=aI.mp hv
   exact .inr ⟨ρ,h3 z hz⟩
end HN
namespace L2
open PySem PySem.Spec PyProof.Rows
end L2
namespace HN
open PySem L2 PyProof.Rows HT2
abbrev sOtw:c8:=top 103
abbrev sBnt:c8:=top 104
inductive spOtw (vs:List V)(H:Hp)(Q:VK)(_:XK):Prop
 | mk (p:aq)(n b:Int)(R:aq)(xs:List V)(rows:List PR)(v:V)(_:vs=[.ref p,.int b,.ref R,v])(_:H p=some (.lst [.int n]))(_:0≤b)(_:b≤10 ^ 21)(_:H R=some (.lst xs))(_:kO H xs (rows.map PR.rowV))(_:(∀r∈rows,r.frm))(_:rows.length≤100)(_:WOk v)(_:∀w H',SK v w→Mv p H H'→Q w H')
inductive spBnt (vs:List V)(H:Hp)(Q:VK)(_:XK):Prop
 | mk (p:aq)(n b:Int)(R:aq)(xs:List V)(rows:List PR)(_:vs=[.ref p,.int b,.ref R])(_:H p=some (.lst [.int n]))(_:0≤b)(_:b≤10 ^ 21)(_:H R=some (.lst xs))(_:kO H xs (rows.map PR.rowV))(_:(∀r∈rows,r.frm))(_:rows.length≤90)(_:∀R' xs' (rows':List PR) H',Mv p H H'→H' R'=some (.lst xs')→kO H' xs' (rows'.map PR.rowV)→(∀r∈rows',r.frm)→rows'.length≤rows.length+1→Q (.ref R') H')
theorem kO.take {rows:List (List V)}(h:kO H xs rows):kO H (xs.take n) (rows.take n) :=
 ⟨by rw [aL,aL,h.len],fun i r hr=>by
  have hi:i<n:=by
   by_cases c:i<n
   ·exact c
   ·rw[gb (by rw[aL];lia)] at hr;cases hr
  rw [cY hi] at hr;obtain ⟨a,h1,h2⟩:=h.get i r hr;exact ⟨a,by rw [cY hi];exact h1,h2⟩⟩
theorem frm_three (h:r.frm):∃(a b c:Str) (t:List V),r.rowV= .str a:: .str b:: .str c::t∧(a = "stay" ↔∃n z is,r= .oth "stay" [n,z] is)∧(∀n z is,r= .oth "stay" [n,z] is→b=n∧c=z)∧(a = "line" ↔r.isL=true):=by
 cases r with
 | beat b=>exact rQ h id
 | line n ss rs =>
  obtain⟨_,_,h3,_,h5,_⟩:=h
  match ss,rs,h3,h5 with
  | s::u::ss,r::rs,_,_ =>
   apply⟨"line",n,s,.int r::jI (u::ss) rs,rfl,⟨λe=>rQ e ⇑0,λ⟨_,_,_,e⟩=>by cases e⟩,(λ_ _ _ e=>by cases e),⟨λ_=>rfl,λ_=>rfl⟩⟩
  | s::u::ss,[],_,h5=>simp at h5
 | oth k ns is =>
  obtain⟨h1,_,_⟩:=h
  rcases h1 with ⟨rfl,n,z,l,o,w,rfl,rfl⟩ | h1
  ·exact⟨"stay",n,z,[.int l,.int o,.int w],rfl,⟨λ_=>⟨_,_,ρ⟩,λ_=>rfl⟩,(λ_ _ _ e=>by cases e;exact⟨rfl,rfl⟩),⟨λe=>rQ e ⇑0,(λe=>by cases e)⟩⟩
  ·obtain⟨_,k2,k3⟩:=oth_kind h1
   have sh:∃(b c:Str) (t:List V),(PR.oth k ns is).rowV= .str k:: .str b:: .str c::t:=by cases h1 <;> exact⟨_,_,ρ⟩
   obtain⟨b,c,t,e⟩:=sh;exact⟨k,b,c,t,e,⟨λe=>rQ e k3,λ⟨_,_,_,e⟩=>by cases e;exact rQ rfl k3⟩,(λ_ _ _ e=>by cases e;exact rQ rfl k3),⟨λe=>rQ e k2,(λe=>by cases e)⟩⟩
theorem kO.drop {rows:List (List V)}(h:kO H xs rows):kO H (xs.drop n) (rows.drop n) :=
 ⟨by rw [bD,bD,h.len],fun i r hr=>by
  rw [dv] at hr;obtain ⟨a,h1,h2⟩:=h.get _ r hr;exact ⟨a,by rw [dv];exact h1,h2⟩⟩
theorem kO.app {rows rows2:List (List V)}(h:kO H xs rows)(h2:kO H ys rows2):kO H (xs++ys) (rows++rows2) :=
 ⟨by rw [ao,ao,h.len,h2.len],fun i r hr=>by
  by_cases c:i<rows.length
  ·rw[bI c] at hr
   obtain⟨a,q1,q2⟩:=h.get i r hr;exact⟨a,by rw[bI (by rw[h.len];exact c)];exact q1,q2⟩
  ·rw[bc ⋯] at hr
   obtain ⟨a,q1,q2⟩:=h2.get _ r hr;exact ⟨a,by rw [bc (by rw [h.len];lia),h.len];exact q1,q2⟩⟩
theorem kO.one {r:List V}(h:H a=some (.lst r)):kO H [.ref a] [r]:=⟨rfl,fun i q hq=>by
 cases i with
 | zero=>cases hq;exact⟨a,rfl,h⟩
 | succ i=>cases hq⟩
theorem set_cut {l:List α}{w:α}(h:k<l.length):l.take k++[w]++l.drop (k+1)=l.set k w:=by
 rw[List.set_eq_take_append_cons_drop,rP h,dA];rfl
theorem scOtw:cI ["_law_pot_here","_law_beat","_law_rows","_law_word","_law_more","_law_some","_law_row"] pzF (defScope sOtw):=by trivial
theorem ok_otw (F:Fun K "_law_other_word" "_law_other_word" sOtw f fd)(T:Nm mg)(T2:Nt mg)(N2:Nm2 mg)(G1:Fn K mg "_law_take" qx pze f1 fd1):‹0› 2 f fd pzF spOtw:=by
 have F1:‹0› 1 f1 fd1 pze oa:=mI G1.F;specialize F.ok scOtw;obtain ⟨p,n,b,R,xs,rows,v,rfl,hp,b0,b1,hR,rw_,fm,few,hv,k⟩:=h;have hr1:kA 1 _:=hr;apply ⟨_,PSl.h (bo ⟨(fG (mY (pe_isInt T (pv 3))) (PSl.h (bo ⟨(psZ 4 scOtw.nd (cu (oX rfl) rfl T.min boot_min (ah (cH iq (cH pR aO aO) aO) (ah (cH fz (pv 3) aO) aA))))⟩
  (gc ⟨(bR (PEs.h (k_ix bV (pH (eM jJ (eM ⟨pv 1⟩ (eM (k_op kG jJ ⟨pv 1⟩) (eM (k_op fz (k_op pR jJ jJ) jJ) (eM (k_op iq (k_op pR jJ jJ) jJ) (eM ⟨pv 4⟩ (eM ⟨cu (call_max2 rfl) rfl T2.max boot_max (ah aO (ah (cH iq (pv 3) aO) aA))⟩ (eM jJ pd))))))))) ⟨pc1 G1 F1 hr1 (ah (pv 0) (ah aO aA))⟩ (fun _ _=>rfl))))⟩))) cF)⟩
  (bo ⟨(psZ 5 scOtw.nd (ip (ah eS aA)))⟩
  (bo ⟨(jg cf rfl (jk (pv 2)) (pgZ 6 scOtw.nd) (bE (psZ 5 scOtw.nd (cH iY (pv 5) (kL (fr:=[]) (js:=[]) rfl (jk (fe iI (pv 6) (fV aO) gW)) ⇑0 rfl ⇑0 rfl (by exists sOtw) ⇑0 rfl ⇑0 (fun _ _ _ _ _=>⟨(pv 0),(pts_one (mY (pe_isStr T N2 (pv 0))))⟩))))))⟩
  (gc ⟨(bR (fj bV (pv 5) (pc1 G1 F1 hr1 (ah (pv 0) (ah (cu cA rfl T.len bp (ah (pv 5) aA)) aA))) (fun _ _=>rfl)))⟩)))),?_⟩
 try dsimp only [cxK]
 have big:(100000:Nat)≤az:=by decide
 have lxs:xs.length=rows.length:=by rw[rw_.len,ae]
 rcases hv with ⟨z,rfl,hz⟩ | ⟨i,rfl,i0,i1⟩
 rotate_left
 ·apply⟨ρ,ς,ρ,nW rfl ?_⟩
  apply⟨ς,⟨↥0,↥0,↥0⟩,ς,ρ,ς,_,ρ,?_⟩;apply⟨ρ,ρ,ς,.inl ⟨↥0,↥0⟩,ς,⟨↥0,↥0,↥0⟩,ς,ς,⟨↥0,↥0,↥0⟩,ς,ρ,ρ,ς,_,ρ,(by show 8≤az;decide),λB H1 S1 e1=>?_⟩;have M1:Mv p H H1:=Mv.of S1 (S1 _ _ hp);apply⟨ρ,p,n,8,rfl,S1 _ _ hp,↥0,↥0,λr H2 a0 a1 M2=>?_⟩;have e2:=M2.1 _ _ (eN e1 (S1 _ _ hp) (jD ∅)) e1;obtain⟨v,ev,mv⟩:=o9 (xs:=[V.int 0,.int b,.int (2 * b),.int (10 ^ 12+1),.int (10 ^ 60 - 1),.int (if i+1<10 ^ 60 - 1 then i+1 else 10 ^ 60 - 1),.int (if i - 1 > 0 then i - 1 else 0),.int 1]) a0 (by show r<8;lia);obtain⟨m,rfl,m1,m2⟩:∃m:Int,v= .int m∧0≤m∧m<10 ^ 60:=by
   simp only[ay,bz,or_false] at mv
   rcases mv with rfl | rfl | rfl | rfl | rfl | rfl | rfl | rfl
   ·exact⟨ρ,↥0,↥0⟩
   ·exact⟨ρ,⋯,⋯⟩
   ·exact⟨ρ,⋯,⋯⟩
   ·exact⟨ρ,↥0,↥0⟩
   ·exact⟨ρ,↥0,↥0⟩
   ·exact⟨ρ,by split <;> lia,by split <;> lia⟩
   ·exact⟨ρ,by split <;> lia,by split <;> lia⟩
   ·exact⟨ρ,↥0,↥0⟩
  apply⟨B,τ,SqL.of e2,ev,?_⟩;exact k _ H2 (.inr ⟨⟨ρ⟩,m,rfl,m1,m2⟩) (M1.trans M2)
 ·apply⟨ρ,ς,ρ,jY rfl ?_⟩
  apply⟨szZ1,λL0 H1 S1 e1=>?_⟩;apply⟨ρ,R,rfl,⟨_,SqL.of (S1 _ _ hR)⟩,?_⟩
  let pZ2:Nat→L2.St→L2.Hp→Prop:=λi σ HA=>cb H HA∧∃(L:aq) (ss:List Str) (v6:Option V),σ=[some (.ref p),some (.int b),some (.ref R),some (.str z),none,some (.ref L),v6]∧HA L=some (.lst (ss.map V.str))∧(∀s∈ss,nam s=true)∧1≤ss.length∧ss.length≤1+11 * i
  apply lF (K:=K) (a:=R) (xs:=xs) pZ2 ⟨S1,L0,["zzz"],none,rfl,e1,(λs h=>by rw[aB.mp h];decide +kernel),aG _,aG _⟩ (λi σ HA _ q=>SqL.of (q.1 _ _ hR)) ?_ ?_
  ·rintro i x σ HA hx ⟨SA,L,ss,v6,rfl,hL,hs,l1,l2⟩
   have hi:i<rows.length:=by rw[←lxs];exact(ai.mp hx).1
   have hp':=gE hi;obtain⟨a,hxa,hra⟩:=rw_.get i rows[i].rowV (by rw[aC,hp'];rfl);rw[hx] at hxa;cases hxa;have hra:=SA _ _ hra;obtain⟨wd,w4,w11⟩:=frm_wd (fm _ (cW hi));generalize rows[i].rowV=row at hra wd w4 w11;apply⟨ρ,ρ,ρ,a,ρ,SqL.of hra,λC HB SB eB=>?_⟩;rw[cutF (i:=1) (n:=1) rfl] at eB;apply⟨C,rfl,⟨_,SqL.of eB⟩,?_⟩
   let pZ3:Nat→List L2.V→L2.Hp→Prop:=λi ws HC=>HC=HB∧ws.length≤i∧∃us:List Str,ws=us.map V.str∧∀s∈us,nam s=true
   apply kq (K:=K) (a:=C) (xs:=row.drop 1) pZ3 ⟨rfl,aG _,[],rfl,(λs h=>by cases h)⟩ (λi ws HC _ q=>?_) (by rw[bD];lia) (λi x ws HC hx q=>?_) (λws HC q N hN=>?_)
   ·obtain⟨rfl,h,_⟩:=q
    exact⟨SqL.of eB,h⟩
   ·obtain⟨rfl,h,us,rfl,hu⟩:=q
    rcases wd x (aD hx) with ⟨y,rfl,hy⟩ | ⟨y,rfl,hy⟩
    ·apply⟨ρ,ς,ρ,nW rfl ⟨_,rfl,rfl,by rw[ao];show _+1≤_;lia,us++[y],by rw[aw];rfl,λs hs=>?_⟩⟩
     rcases aS.mp hs with hs | hs
     ·exact hu s hs
     ·rw[aB.mp hs];exact hy
    ·exact⟨ρ,ς,ρ,jY rfl ⟨rfl,⋯,us,rfl,hu⟩⟩
   obtain⟨rfl,lw,us,rfl,hu⟩:=q;rw[ae,bD] at lw;have S2:cb HC (upd HC N (.lst (us.map V.str))):=(cb.refl HC).put hN;have h2:(upd HC N (.lst (us.map V.str))) N=some (.lst (us.map V.str)):=aQ;generalize upd HC N (.lst (us.map V.str))=H2 at S2 h2 ⊢;apply⟨L,N,ς,S2 _ _ (SB _ _ hL),h2,(by rw[ae,ae];lia),λL2 H3 S3 e3=>?_⟩;apply⟨SA.trans (SB.trans (S2.trans S3)),L2,ss++us,ρ,by rw[e3,aw],λs hs'=>?_,by rw[ao];lia,by rw[ao];lia⟩
   rcases aS.mp hs' with h | h
   ·exact hs s h
   ·exact hu s h
  ·rintro σ HA ⟨SA,L,ss,v6,rfl,hL,hs,l1,l2⟩
   have hpA:=SA _ _ hp;apply ⟨ρ,ρ,ρ,L,ρ,.inl (SqL.of hL),p,n,(ss.length:Nat),by rw [ae];rfl,hpA,⋯,⋯,fun r H2 a0 a1 M2=>?_⟩;have e2:=M2.1 _ _ (fun z=>by
    rw[z,hpA] at hL;injection hL with hL
    injection hL with hL
    cases ss with
    | nil=>cases hL
    | cons s ss=>injection hL with hL _;cases hL) hL
   obtain⟨v,ev,mv⟩:=o9 (xs:=ss.map V.str) a0 (by rw[ae];exact a1);obtain⟨y,hy,rfl⟩:=aI.mp mv;apply⟨L,τ,SqL.of e2,ev,?_⟩;exact k _ H2 (.inl ⟨⟨ρ⟩,y,rfl,hs y hy⟩) ((Mv.of SA hpA).trans M2)
theorem scBnt:cI ["_law_pot_here","_law_beat","_law_rows","_law_way","_law_at","_law_k","_law_row"] pzG (defScope sBnt):=by trivial
theorem ok_bnt {fO:aq}{dO:aT}(F:Fun K "_law_bent" "_law_bent" sBnt f fd)(T:Nm mg)(G1:Fn K mg "_law_take" qx pze f1 fd1)(GO:Fn K mg "_law_other_word" sOtw pzF fO dO)(FO:‹0› 2 fO dO pzF spOtw):‹0› 3 f fd pzG spBnt:=by
 have F1:‹0› 1 f1 fd1 pze oa:=mI G1.F;specialize F.ok scBnt;obtain ⟨p,n,b,R,xs,rows,rfl,hp,b0,b1,hR,rw_,fm,few,k⟩:=h;have hr1:kA 1 _:=hr.mono ↥0;have hr2:kA 2 _:=hr;apply ⟨_,PSl.h (bo ⟨(psZ 3 scBnt.nd (pc1 G1 F1 hr1 (ah (pv 0) (ah aO aA))))⟩
  (bo ⟨(fG (bQ (op_eqL0 hr.units0) (pv 2) (ip aA) (cw _)) (bE (bR (pv 2))) cF)⟩
  (bo ⟨(psZ 4 scBnt.nd (pc1 G1 F1 hr1 (ah (pv 0) (ah (cu cA rfl T.len bp (ah (pv 2) aA)) aA))))⟩
  (bo ⟨(fG (bQ iB (pv 3) aO (cw _)) (bE (bR (cH iY (pv 2) (ip (ah (fj bV (pv 2) (pv 4) (fun _ _=>rfl)) aA))))) cF)⟩
  (bo ⟨(fG (bQ iB (pv 3) aO (cw _)) (bE (bR (cH iY (cH iY (ip (ah (fj bV (pv 2) (pv 4) (fun _ _=>rfl)) aA)) (fe iI (pv 2) gW (fV (pv 4)))) (fe iI (pv 2) (fV (cH fz (pv 4) aO)) gW)))) cF)⟩
  (bo ⟨(fG (bQ iB (pv 3) aO (cw _)) (bE (bR (cH iY (fe iI (pv 2) gW (fV (pv 4))) (fe iI (pv 2) (fV (cH fz (pv 4) aO)) gW)))) cF)⟩
  (bo ⟨(psZ 5 scBnt.nd (cH fz aO (pc1 G1 F1 hr1 (ah (pv 0) (ah (cH iq (cu cA rfl T.len bp (ah (fj bV (pv 2) (pv 4) (fun _ _=>rfl)) aA)) aO) aA)))))⟩
  (bo ⟨(psZ 6 scBnt.nd (cH iY (cH iY (fe iI (fj bV (pv 2) (pv 4) (fun _ _=>rfl)) gW (fV (pv 5))) (ip (ah (pc1 GO FO hr2 (ah (pv 0) (ah (pv 1) (ah (pv 2) (ah (fj bV (fj bV (pv 2) (pv 4) (fun _ _=>rfl)) (pv 5) (fun _ _=>rfl)) aA))))) aA))) (fe iI (fj bV (pv 2) (pv 4) (fun _ _=>rfl)) (fV (cH fz (pv 5) aO)) gW)))⟩
  (gc ⟨(bR (cH iY (cH iY (fe iI (pv 2) gW (fV (pv 4))) (ip (ah (pv 6) aA))) (fe iI (pv 2) (fV (cH fz (pv 4) aO)) gW)))⟩))))))))),?_⟩
 try dsimp only [cxK]
 have big:(100000:Nat)≤az:=by decide
 have lxs:xs.length=rows.length:=by rw[rw_.len,ae]
 have two:∀r∈rows.map PR.rowV,2≤r.length:=λr hr=>by
  obtain⟨q,hq,rfl⟩:=aI.mp hr;have:=(frm_wd (fm q hq)).2.1;lia
 apply⟨ρ,p,n,6,rfl,hp,↥0,↥0,λwy H1 y0 y1 M1=>?_⟩;have hR1:=M1.at hR (rw_.nep hp hR);have rw1:=rw_.mv M1 hp two;obtain⟨n1,hp1⟩:=M1.2;apply⟨ρ,(by show 0≤az;decide),λEm H2 S2 e2=>?_⟩;have M2:=M1.then S2;have hR2:=S2 _ _ hR1;have rw2:=rw1.same S2;have hp2:=S2 _ _ hp1;apply⟨R,Em,xs,rfl,rfl,SqL.of hR2,SqL.of e2,ρ,?_⟩
 by_cases ex:xs=[]
 ·apply nW (by rw[ex];rfl) ⟨_,rfl,?_⟩
  exact k R xs rows H2 M2 hR2 rw2 fm ⋯
 apply jY (by cases xs with | nil=>exact rQ rfl ex | cons=>rfl) ?_;have l1:1≤rows.length:=by
  cases xs with
  | nil=>exact rQ rfl ex
  | cons v xs=>rw[←lxs,av];lia
 apply⟨ρ,ρ,R,ρ,.inl (SqL.of hR2),p,n1,(rows.length:Nat),by rw[lxs];rfl,hp2,⋯,⋯,λat_ H3 a0 a1 M3=>?_⟩;have hR3:=M3.at hR2 (rw2.nep hp2 hR2);have rw3:=rw2.mv M3 hp2 two;have M03:=M2.trans M3;obtain⟨n3,hp3⟩:=M3.2;obtain⟨m,rfl⟩:∃m:Nat,at_=m:=⟨at_.toNat,⋯⟩;have hm:m<rows.length:=by lia
 have hpm:=gE hm;have fr:=fm _ (cW hm);obtain⟨a,hxa,hra⟩:=rw3.get m rows[m].rowV (by rw[aC,hpm];rfl);apply⟨ρ,rfl,ρ,kJ (λc1=>?_) (λc1=>?_)⟩
 ·apply⟨ρ,ρ,ρ,R,τ,SqL.of hR3,aP hxa,szZ1,λB H4 S4 e4=>?_⟩
  apply⟨R,B,ς,S4 _ _ hR3,e4,(by show xs.length+1≤az;lia),λR' H5 S5 e5=>?_⟩;have S35:=S4.trans S5;apply k R' _ (rows++[rows[m]]) H5 (M03.then S35) e5 ?_ (λr hr=>?_) (by rw[ao];exact aG _)
  ·rw[aw]
   exact(rw3.same S35).app (.one (S35 _ _ hra))
  ·rcases aS.mp hr with hr | hr
   ·exact fm r hr
   ·rw[aB.mp hr];exact fr
 apply⟨ρ,rfl,ρ,kJ (λc2=>?_) (λc2=>?_)⟩
 ·apply⟨ρ,ρ,R,τ,SqL.of hR3,aP hxa,szZ1,λB H4 S4 e4=>?_⟩
  apply⟨ρ,ρ,ρ,R,ρ,SqL.of (S4 _ _ hR3),λC H5 S5 e5=>?_⟩;rw[cutU (i:=(m:Int)) (n:=m) rfl] at e5;apply⟨B,C,ς,S5 _ _ e4,e5,(by show 1+_≤az;rw[aL];lia),λD H6 S6 e6=>?_⟩;apply⟨ρ,ρ,ς,ρ,R,ρ,SqL.of ((S4.trans (S5.trans S6)) _ _ hR3),λG H7 S7 e7=>?_⟩;rw[cutF (i:=(m:Int)+1) (n:=m+1) rfl] at e7;apply⟨D,G,ς,S7 _ _ e6,e7,(by rw[ao,aL,bD];show 1+_+_≤az;lia),λR' H8 S8 e8=>?_⟩;have S38:=S4.trans (S5.trans (S6.trans (S7.trans S8)));apply k R' _ ([rows[m]]++rows.take m++rows.drop (m+1)) H8 (M03.then S38) e8 ?_ (λr hr=>?_) (by simp only[ao,aL,bD,av,fq];lia)
  ·rw[aw,aw,lG,gx]
   exact((kO.one (S38 _ _ hra)).app (rw3.same S38).take).app (rw3.same S38).drop
  ·rcases aS.mp hr with hr | hr
   ·rcases aS.mp hr with hr | hr
    ·rw[aB.mp hr];exact fr
    ·exact fm r (gZ hr)
   ·exact fm r (jV hr)
 apply⟨ρ,rfl,ρ,kJ (λc3=>?_) (λc3=>?_)⟩
 ·apply⟨ρ,ρ,ρ,R,ρ,SqL.of hR3,λC H5 S5 e5=>?_⟩
  rw[cutU (i:=(m:Int)) (n:=m) rfl] at e5;apply⟨ρ,ρ,ς,ρ,R,ρ,SqL.of (S5 _ _ hR3),λG H7 S7 e7=>?_⟩;rw[cutF (i:=(m:Int)+1) (n:=m+1) rfl] at e7;apply⟨C,G,ς,S7 _ _ e5,e7,(by rw[aL,bD];lia),λR' H8 S8 e8=>?_⟩;have S38:=S5.trans (S7.trans S8);apply k R' _ (rows.take m++rows.drop (m+1)) H8 (M03.then S38) e8 ?_ (λr hr=>?_) (by simp only[ao,aL,bD];lia)
  ·rw[aw,lG,gx]
   exact(rw3.same S38).take.app (rw3.same S38).drop
  ·rcases aS.mp hr with hr | hr
   ·exact fm r (gZ hr)
   ·exact fm r (jV hr)
 obtain⟨wd,w4,w11⟩:=frm_wd fr;apply⟨ρ,ρ,ρ,R,τ,SqL.of hR3,aP hxa,a,ρ,.inl (SqL.of hra),ς,p,n3,ρ,hp3,⋯,⋯,λkk H4 k0 k1 M4=>?_⟩;have hR4:=M4.at hR3 (rw3.nep hp3 hR3);have rw4:=rw3.mv M4 hp3 two;have M04:=M03.trans M4;obtain⟨n4,hp4⟩:=M4.2;have hra4:H4 a=some (.lst rows[m].rowV):=by
  obtain⟨a',hxa',hra'⟩:=rw4.get m rows[m].rowV (by rw[aC,hpm];rfl);rw[hxa] at hxa';cases hxa';exact hra'
 clear rw3 hR3 hra hp3;obtain⟨j,ej⟩:∃j:Nat,1+kk=j:=⟨(1+kk).toNat,⋯⟩;apply⟨ς,(?_:oU 5 (V.int (1+kk)) _ H4 _)⟩;rw[ej];have hj1:1≤j:=by lia
 have hj:j<rows[m].rowV.length:=by lia
 have hjv:=gE hj;apply ⟨ρ,ρ,R,τ,SqL.of hR4,aP hxa,ρ,ρ,a,ρ,SqL.of hra4,fun C H5 S5 e5=>?_⟩;rw [cutU (i:=(j:Int)) (n:=j) rfl] at e5;apply ⟨ρ,ρ,ρ,ρ,ρ,R,τ,SqL.of (S5 _ _ hR4),aP hxa,ρ,a,τ,SqL.of (S5 _ _ hra4),aP hjv,?_⟩;have wv:WOk rows[m].rowV[j]:=wd _ (by
  apply aD (i:=j - 1) ?_;rw [dv,show 1+(j - 1)=j by lia];exact hjv)
 apply ⟨p,n4,b,R,xs,rows,ρ,S5 _ _ hp4,b0,b1,S5 _ _ hR4,rw4.same S5,fm,⋯,wv,fun wn H6 sk M6=>?_⟩;have hp5:=S5 _ _ hp4;have e6:H6 C=some (.lst (rows[m].rowV.take j)):=M6.at e5 (fun z=>by
  obtain⟨v1,v2,v3,t,e3,_⟩:=frm_three fr;rw[z,hp5,e3] at e5;obtain⟨i,rfl⟩:∃i,j=i+1:=⟨j - 1,⋯⟩;injection e5 with e5
  injection e5 with e5
  injection e5 with e5 _
  cases e5)
 have rw5:=rw4.same S5;have hR6:=M6.at (S5 _ _ hR4) (rw5.nep hp5 (S5 _ _ hR4));have rw6:=rw5.mv M6 hp5 two;have M06:=(M04.then S5).trans M6;obtain⟨n6,hp6⟩:=M6.2;have hra6:H6 a=some (.lst rows[m].rowV):=by
  obtain⟨a',hxa',hra'⟩:=rw6.get m rows[m].rowV (by rw[aC,hpm];rfl);rw[hxa] at hxa';cases hxa';exact hra'
 clear rw4 rw5 hR4 hra4 hp4 e5;apply⟨szZ1,λB H7 S7 e7=>?_⟩;apply⟨C,B,ς,S7 _ _ e6,e7,(by rw[aL];show _+1≤az;lia),λD H8 S8 e8=>?_⟩;have S68:=S7.trans S8;apply⟨ρ,ρ,R,τ,SqL.of (S68 _ _ hR6),aP hxa,ρ,ς,ρ,a,ρ,SqL.of (S68 _ _ hra6),λG H9 S9 e9=>?_⟩;rw[cutF (i:=(j:Int)+1) (n:=j+1) rfl] at e9;apply⟨D,G,ς,S9 _ _ e8,e9,(by rw[ao,aL,bD];show _+1+_≤az;lia),λN Ha Sa ea=>?_⟩;have ea:Ha N=some (.lst (rows[m].rowV.set j wn)):=by rw[ea,←set_cut hj]
 obtain⟨r',fr',er'⟩:=frm_set fr hj1 hjv sk;rw[←er'] at ea;have S6a:=S68.trans (S9.trans Sa);apply⟨ρ,ρ,ρ,R,ρ,SqL.of (S6a _ _ hR6),λC2 Hb Sb eb=>?_⟩;rw[cutU (i:=(m:Int)) (n:=m) rfl] at eb;apply⟨ρ,szZ1,λB2 Hc Sc ec=>?_⟩;apply⟨C2,B2,ς,Sc _ _ eb,ec,(by rw[aL];show _+1≤az;lia),λD2 Hd Sd ed=>?_⟩;have S6d:=S6a.trans (Sb.trans (Sc.trans Sd));apply⟨ρ,ρ,ς,ρ,R,ρ,SqL.of (S6d _ _ hR6),λG2 He Se ee=>?_⟩;rw[cutF (i:=(m:Int)+1) (n:=m+1) rfl] at ee;apply⟨D2,G2,ς,Se _ _ ed,ee,(by rw[ao,aL,bD];show _+1+_≤az;lia),λR' Hf Sf ef=>?_⟩;have Saf:=Sb.trans (Sc.trans (Sd.trans (Se.trans Sf)));have S6f:=S6a.trans Saf;apply k R' _ (rows.take m++[r']++rows.drop (m+1)) Hf (M06.then S6f) ef ?_ (λr hr=>?_) (by simp only[ao,aL,bD,av,fq];lia)
 ·rw[aw,aw,lG,gx]
  exact((rw6.same S6f).take.app (.one (Saf _ _ ea))).app (rw6.same S6f).drop
 ·rcases aS.mp hr with hr | hr
  ·rcases aS.mp hr with hr | hr
   ·exact fm r (gZ hr)
   ·rw[aB.mp hr];exact fr'
  ·exact fm r (jV hr)
theorem frm_wok (h:r.frm):r.rowV≠[]∧r.rowV.length≤12∧(∀v∈r.rowV,WOk v)∧r.wds (r.rowV.map wdS):=by
 obtain⟨wd,_,l11⟩:=frm_wd h;cases r with
 | beat b=>exact rQ h id
 | line n ss rs =>
  obtain⟨h1,h2,h4,h5,h6,w⟩:=h;have li:(jI ss rs).length=2 * ss.length - 1:=ko h6;apply⟨by show _::_≠[];simp,⋯,λv hv=>?_,rfl,⟨?_,?_,?_,rfl,?_,?_,h1,h2,w⟩⟩
  ·have hv:v∈V.str "line" :: (PR.line n ss rs).rowV.drop 1:=hv
   rcases ay.mp hv with rfl | hv
   ·exact .inl ⟨ρ,by trivial⟩
   ·exact wd v hv
  ·rw[ae];show 5≤(jI ss rs).length+1+1;lia
  ·rw[ae];show(jI ss rs).length+1+1≤100000;lia
  ·rw[ae];show((jI ss rs).length+1+1) % 2=1;lia
  ·show evs ((jI ss rs).map wdS)=ss
   rw[←qO,qj h6,bf];show ss.map id=ss;rw[List.map_id]
  ·show evs (((jI ss rs).map wdS).drop 1)=rs.map iA
   rw[←gx,←qO,intr_evs1 h6,bf];rfl
 | oth k ns is =>
  obtain⟨h1,k3,k4⟩:=h;have k12:nam k=true∧(k,ns.length,is.length)∈fms:=by
   rcases h1 with ⟨rfl,n,z,l,o,w,rfl,rfl⟩ | h1
   ·exact⟨by trivial,by simp[fms]⟩
   ·cases h1
    ·exact⟨by trivial,by simp[fms]⟩
    ·exact⟨by trivial,by simp[fms]⟩
    ·exact⟨by trivial,by simp[fms]⟩
  apply⟨by show _::_≠[];simp,⋯,λv hv=>?_,?_,k12.2,k3,k4⟩
  ·have hv:v∈V.str k::(PR.oth k ns is).rowV.drop 1:=hv
   rcases ay.mp hv with rfl | hv
   ·exact .inl ⟨ρ,k12.1⟩
   ·exact wd v hv
  ·show k::(ns.map V.str++is.map V.int).map wdS=_
   rw[aw,bf,bf];show k::(ns.map id++is.map iA)=_;rw[List.map_id]
theorem netF_of {rows:List PR}(wb:W60 b)(fm:∀r∈rows,r.frm)(few:rows.length≤69):NetF (planT b (rows.map PR.rowV)) b rows:=by
 have ok:∀r∈rows,_:=λr hr=>frm_wok (fm r hr)
 have ok2:∀r∈rows.map PR.rowV,r.length≤12∧∀v∈r,WOk v:=λr hr=>by
  obtain⟨q,hq,rfl⟩:=aI.mp hr;exact⟨(ok q hq).2.1,(ok q hq).2.2.1⟩
 apply⟨("beat " :Str)++iA b,rows.map λr=>(qZ r.rowV,r),planT_len2 wb ok2 (by rw[ae];lia),?_,few,?_,beat_split wb,wb,λq hq=>?_,?_,fm⟩
 ·rw[planT_split wb λr hr=>(ok2 r hr).2,bf,bf]
  rfl
 ·rw[ou]
  have:=lX wb;have h5:("beat " :Str).length=5:=by trivial
  lia
 ·obtain⟨r,hr,rfl⟩:=aI.mp hq
  obtain⟨o1,o2,o3,o4⟩:=ok r hr;apply⟨by have:=rowW_len2 o3 o2;show(qZ r.rowV).length≤100000;lia,?_⟩;show r.wds (dU (qZ r.rowV) sp_);rw[rowW_split o3 o1];exact o4
 ·rw[bf]
  exact List.map_id rows
theorem mV.frm (h:mV b pre r)(hp:∀x∈lsC pre,(PR.line x.n x.ss x.rs).lnOk):r.frm:=by
 cases r with
 | beat b=>exact rQ h id
 | line n ss rs =>
  obtain⟨_,h1,h2,h3,h4,h5,h6,h7⟩:=h;exact⟨h1,h2,h4,h5,h6,λr hr=>h7 r hr⟩
 | oth k ns is =>
  obtain⟨_,_,k3,k4,_⟩:=h.oth hp;apply⟨?_,k3,k4⟩
  rcases h with ⟨rfl,x,z,l,o,w,i,hx,rfl,rfl,_⟩ | ⟨hk,sn,⟨x,y,hx,hy,ne,B⟩,_,wi⟩
  ·exact .inl ⟨rfl,_,_,τ⟩
  ·cases B with
   | change=>exact .inr .change
   | apart=>exact .inr .apart
   | meet=>exact .inr .meet
theorem ib.frm {rows:List PR}(h:ib b rows):∀r∈rows,r.frm:=λr hr=>by
 obtain⟨i,hi⟩:=cE hr;exact(h i r hi).frm λx hx=>(h.take i).lnOk hx
theorem DueR.one {d e:Int}(h:DueR b rs d)(k:DueR b rs e):d=e:=by
 rcases h with ⟨i,w1,rfl⟩ | ⟨a1,a2,a3,rfl⟩
 ·rcases k with ⟨j,w2,rfl⟩ | ⟨c1,c2,c3,rfl⟩
  ·rw[w1.one w2]
  ·exact(w1.not c1 c2 c3).elim
 ·rcases k with ⟨j,w2,rfl⟩ | ⟨c1,c2,c3,rfl⟩
  ·exact(w2.not a1 a2 a3).elim
  ·rfl
theorem plan_of {rows:List PR}(h1:1≤b)(u:UpTo b rows rows.length)(ne:lsC rows≠[])(few:rows.length≤70):PlanOk b rows:=by
 have r:=u.rows;have c:=u.cnt (aG _);rw[bO] at r c;exact⟨h1,r,c.1,c.2,few,ne⟩
theorem passN:mB (CXN X.prog X.w) X E0:=λaN σ H s e s' I h=>by
 obtain⟨a,cls,dct,B,H2,rfl,os,bare,al,air,hE⟩:=h;exact hE.elim
def gw:List Str→List Int→List Str
 | v::r,t::u::ts=>iA t::v::iA u::gw r ts
 | _,_=>[]
def lnW (n:Str):List Str→List Int→List Str
 | s::u::r,t::t1::ts=>n::s::iA t::u::iA t1::gw r ts
 | _,_=>[n]
abbrev LP:=Str×List Str
def jO:List LP→List Int→HR
 | [],_=>[]
 | x::ls,T=>(x.1,lnW x.1 x.2 (T.take (2 * (x.2.length - 1))))::jO ls (T.drop (2 * (x.2.length - 1)))
def mW (ws:List Str)(q:Lb×Int):List Str:=qo ws q.1 q.2
theorem step_goes (h:2≤ws.length)(n s:Str)(t:Int):mW ws ((n,s,"goes"),t)=ws++[iA t]:=by
 unfold mW qo qY;rw[rO];rintro(z | z)
 ·exact rQ z (show ¬("goes" :Str) = "comes" by trivial)
 ·lia
theorem rh (ws:List Str)(n s:Str)(t:Int):mW ws ((n,s,"comes"),t)=ws++[s]++[iA t]:=by
 unfold mW qo qY;rw[rP (.inl rfl)]
theorem fold_gw (n:Str):∀(r:List Str) (u:Str) (ws:List Str) (ts:List Int),2≤ws.length→ts.length=2 * r.length→((lbs n (u::r)).zip ts).foldl mW ws=ws++gw r ts
 | [],u,ws,ts,_,_=>by
  have:gw [] ts=[]:=by unfold gw;rfl
  rw[this,cz];rfl
 | v::r,u,ws,[],_,h=>by rw[fq,av] at h;lia
 | v::r,u,ws,[t],_,h=>by rw[eX,av] at h;lia
 | v::r,u,ws,t::t1::ts,hw,h=>by
  show((lbs n (v::r)).zip ts).foldl mW (mW (mW ws ((n,u,"goes"),t)) ((n,v,"comes"),t1))=_;rw[step_goes hw,rh,fold_gw n r v _ ts (by rw[ao,ao,ao];lia) (by rw[av,av,av] at h;lia)];show _=ws++(iA t::v::iA t1::gw r ts);simp
theorem fold_ln (n:Str)(h2:2≤ss.length)(h:ts.length=2 * (ss.length - 1)):((lbs n ss).zip ts).foldl mW [n]=lnW n ss ts:=by
 match ss,ts,h2,h with
 | s::u::r,[],_,h=>rw[fq,av,av] at h;lia
 | s::u::r,[t],_,h=>rw[eX,av,av] at h;lia
 | s::u::r,t::t1::ts,_,h =>
  show((lbs n (u::r)).zip ts).foldl mW (mW (mW [n] ((n,s,"goes"),t)) ((n,u,"comes"),t1))=_;have e:mW [n] ((n,s,"goes"),t)=[n,s,iA t]:=by
   unfold mW qo qY;rw[rP (Or.inr (show[n].length=1 from rfl))];rfl
  rw[e,rh,fold_gw n r u _ ts ∅ (by rw[av,av,av,av] at h;lia)];rfl
theorem hset_last {ps:HR}{n:Str}(hn:n ∉ ps.map (·.1))(ws:List Str)(f:List Str→List Str):hset (ps++[(n,ws)]) n f=ps++[(n,f ws)]:=by
 unfold hset;rw[aw];congr 1
 ·conv=>rhs;rw[←List.map_id ps]
  apply cJ λq hq=>?_
  rw[rO λe=>hn (aI.mpr ⟨q,hq,e⟩)];rfl
 ·simp
theorem hnew_has {ps:HR}{n:Str}(h:n∈ps.map (·.1)):hnew ps n=ps:=rP h
theorem fold_one {n:Str}{ps:HR}(hn:n ∉ ps.map (·.1)):∀(qs:List (Lb×Int)) (ws:List Str),(∀q∈qs,q.1.1=n)→qs.foldl qJ (ps++[(n,ws)])=ps++[(n,qs.foldl mW ws)]
 | [],_,_=>rfl
 | q::qs,ws,h=>by
  have e:qJ (ps++[(n,ws)]) q=ps++[(n,mW ws q)]:=by
   unfold qJ;rw[h q bh,hnew_has ∅,hset_last hn];rfl
  rw[iV,iV,e];exact fold_one hn qs _ λy hy=>h y (aE _ hy)
theorem fold_new {n:Str}{ps:HR}(hn:n ∉ ps.map (·.1)){qs:List (Lb×Int)}(h:∀q∈qs,q.1.1=n)(ne:qs≠[]):qs.foldl qJ ps=ps++[(n,qs.foldl mW [n])]:=by
 cases qs with
 | nil=>exact rQ rfl ne
 | cons q qs =>
  rw[←fold_one hn (q::qs) [n] h,iV,iV];congr 1;unfold qJ;rw[h q bh];rw[hnew_has (ps:=ps++[(n,[n])]) ∅];unfold hnew;rw[rO hn]
theorem lbs_n (n:Str):∀(ss:List Str),∀q∈lbs n ss,q.1=n
 | [],q,h=>by cases h
 | [_],q,h=>by cases h
 | s::u::r,q,h=>by
  rcases ay.mp h with rfl | h
  ·rfl
  ·rcases ay.mp h with rfl | h
   ·rfl
   ·exact lbs_n n (u::r) q h
theorem lbs_len (n:Str):∀(ss:List Str),(lbs n ss).length=2 * (ss.length - 1)
 | []=>rfl
 | [_]=>rfl
 | s::u::r=>by
  show(lbs n (u::r)).length+1+1=_;rw[lbs_len n (u::r)];simp;lia
def lbP (ls:List LP):List Lb:=ls.flatMap λl=>lbs l.1 l.2
theorem fold_all:∀(ls:List LP) (ps:HR) (T:List Int),(ps.map (·.1)++ls.map (·.1)).Nodup→T.length=(lbP ls).length→(∀x∈ls,2≤x.2.length)→((lbP ls).zip T).foldl qJ ps=ps++jO ls T
 | [],ps,T,_,_,_=>by
  show _=ps++[];rw[cz];rfl
 | x::ls,ps,T,nd,hT,h2=>by
  have hx:=h2 x bh;have lx:=lbs_len x.1 x.2;have e:lbP (x::ls)=lbs x.1 x.2++lbP ls:=rfl;rw[e,ao] at hT;have hk:(T.take (2 * (x.2.length - 1))).length=(lbs x.1 x.2).length:=by rw[aL];lia
  have hn:x.1 ∉ ps.map (·.1):=λm=>by
   have:=(iX.mp nd).2.2 _ m x.1 ∅;exact this rfl
  rw[e]
  conv=>lhs;rw[←fZ (2 * (x.2.length - 1)) T]
  rw [List.zip_append hk.symm,jM];rw [fold_new hn (fun q hq=>lbs_n x.1 x.2 q.1 (lP hq).1) (fun z=>by
   have:=rV jW z;rw [List.length_zip,hk,lx] at this;simp at this;lia)]
  rw [fold_ln x.1 hx (by rw [hk,lx])];rw [fold_all ls _ (T.drop (2 * (x.2.length - 1))) (by
   rw [aw,dA];exact nd) (by rw [bD];lia) fun y hy=>h2 y (aE _ hy)]
  rw[dA];rfl
theorem hgo_lines {ls:List LP}{T:List Int}(nd:(ls.map (·.1)).Nodup)(hT:T.length=(lbP ls).length)(h2:∀x∈ls,2≤x.2.length):hgo ((lbP ls).zip T)=jO ls T:=by
 unfold hgo;rw[fold_all ls [] T (by simpa using nd) hT h2];rfl
theorem lbLL_P (ls:List Ln):qX ls=lbP (ls.map λl=>(l.n,l.ss)):=by
 unfold qX lbP;rw[List.flatMap_map]
def tw:List Str→List Int→List Str
 | s::u::r,t::t1::ts=>s::iA t::iA t1::tw (u::r) ts
 | [s],[t]=>[s,iA t]
 | _,_=>[]
theorem tw_gw:∀(r:List Str) (u:Str) (t:Int) (ts:List Int),ts.length=2 * r.length→tw (u::r) (t::ts)=u::iA t::gw r ts
 | [],u,t,[],_=>rfl
 | [],u,t,_::_,h=>by simp at h
 | v::r,u,t,[],h=>by rw[fq,av] at h;lia
 | v::r,u,t,[_],h=>by rw[eX,av] at h;lia
 | v::r,u,t,t1::t2::ts,h=>by
  show u::iA t::iA t1::tw (v::r) (t2::ts)=_;rw[tw_gw r v t2 ts (by rw[av,av,av] at h;lia)];rfl
theorem lnW_tw (n:Str){s:Str}{t:Int}(h2:2≤ss.length)(h:ts.length=2 * (ss.length - 1))(hs:ss[0]? =some s)(ht:ts[0]? =some t):[n,s,iA t]++tw (ss.drop 1) (ts.drop 1)=lnW n ss ts:=by
 match ss,ts,h2,h,hs,ht with
 | s::u::r,t::t1::ts,_,h,hs,ht =>
  cases hs;cases ht;show[n,s,iA t]++tw (u::r) (t1::ts)=_;rw[tw_gw r u t1 ts (by rw[av,av,av,av] at h;lia)];rfl
 | s::u::r,[t],_,h,_,_=>rw[eX,av,av] at h;lia
theorem tw_step {s:Str}{t:Int}(h:ts.length=2 * (ss.length - 1))(hs:ss[j+1]? =some s)(ht:ts[2 * j+1]? =some t) :
  tw (ss.drop (j+1)) (ts.drop (2 * j+1))=[s,iA t]++(if j+2<ss.length then [iA (ts.getD (2 * j+2) 0)] else [])++tw (ss.drop (j+2)) (ts.drop (2 * j+3)):=by
 obtain⟨l1,e1⟩:=ai.mp hs;obtain⟨l2,e2⟩:=ai.mp ht;rw[gO l1,gO l2,e1,e2]
 by_cases c:j+2<ss.length
 ·have l3:2 * j+1+1<ts.length:=by lia
  rw[rP c,gO (i:=j+1+1) c,gO l3];show s::iA t::iA ts[2 * j+1+1]::tw (ss[j+1+1]::ss.drop (j+2+1)) (ts.drop (2 * j+3))=_;rw[←gO (i:=j+1+1) c];rw[cM,gE l3];rfl
 ·rw[rO c]
  have d1:ss.drop (j+1+1)=[]:=jv ⋯;have d2:ts.drop (2 * j+1+1)=[]:=jv ⋯;rw[d1,d2];rfl
def PR.ln:PR→Option LP
 | .line n ss _=>some (n,ss)
 | _=>none
def mP (rs:List PR):List LP:=rs.filterMap PR.ln
def atP (ls:List LP):Nat:=(ls.map λx=>2 * (x.2.length - 1)).sum
theorem qL:∀(ls:List LP) (x:LP) (T:List Int),jO (ls++[x]) T=jO ls T++[(x.1,lnW x.1 x.2 ((T.drop (atP ls)).take (2 * (x.2.length - 1))))]
 | [],x,T=>rfl
 | y::ls,x,T=>by
  show _::jO (ls++[x]) _=_::(jO ls _++_);rw[qL ls x,List.drop_drop];rfl
theorem atP_snoc (ls:List LP)(x:LP):atP (ls++[x])=atP ls+2 * (x.2.length - 1):=by
 unfold atP;rw[aw,iT];simp
theorem atP_len:∀ls:List LP,(lbP ls).length=atP ls
 | []=>rfl
 | x::ls=>by
  show(lbs x.1 x.2++lbP ls).length=_;rw[ao,lbs_len,atP_len ls];unfold atP;rw[bq,gu]
abbrev sHow:c8:=top 102
def PR.okH:PR→Prop
 | .beat _=>True
 | .line n ss rs=>ss.length=rs.length+1∧2≤ss.length∧ss.length≤19∧n.length≤100∧∀s∈ss,s.length≤100
 | .oth k _ _=>k ≠ "line"
structure HowA (prs:List PR)(T:List Int):Prop where
 ok:∀r∈prs,r.okH
 few:prs.length≤100
 len:T.length=atP (mP prs)
 l20:T.length≤20
 w:∀t∈T,W60 t
inductive spHow (vs:List V)(H:Hp)(Q:VK)(_:XK):Prop
 | mk (R Ta:aq)(xs:List V)(prs:List PR)(T:List Int)(_:vs=[.ref R,.ref Ta])(_:H R=some (.lst xs))(_:kO H xs (prs.map PR.rowV))(_:H Ta=some (.tup (T.map V.int)))(_:HowA prs T)(_:∀H',cb H H'→Q (.str (hoursT (jO (mP prs) T))) H')
theorem gw_bd:∀{r:List Str} {ts:List Int},(∀s∈r,s.length≤100)→(∀t∈ts,W60 t)→(gw r ts).length≤3 * r.length∧∀z∈gw r ts,z.length≤100
 | [],ts,_,_=>by unfold gw;exact⟨cV _,λz hz=>by cases hz⟩
 | _::_,[],_,_=>by unfold gw;exact⟨cV _,λz hz=>by cases hz⟩
 | _::_,[_],_,_=>by unfold gw;exact⟨cV _,λz hz=>by cases hz⟩
 | v::r,t::u::ts,h1,h2=>by
  obtain⟨a,b⟩:=gw_bd (r:=r) (ts:=ts) (λs hs=>h1 s (aE _ hs)) λx hx=>h2 x (aE _ (aE _ hx))
  unfold gw;apply⟨by simp only[av];lia,λz hz=>?_⟩
  rcases ay.mp hz with rfl | hz
  ·exact nK (h2 _ bh)
  ·rcases ay.mp hz with rfl | hz
   ·exact h1 _ bh
   ·rcases ay.mp hz with rfl | hz
    ·exact nK (h2 _ (aE _ bh))
    ·exact b z hz
theorem lnW_bd {n:Str}(hn:n.length≤100)(h1:∀s∈ss,s.length≤100)(h2:∀t∈ts,W60 t)(h3:2≤ss.length)(h4:ss.length≤19):(lnW n ss ts).length≤60∧∀z∈lnW n ss ts,z.length≤100:=by
 match ss,ts,h1,h2,h3,h4 with
 | s::u::r,t::t1::ts,h1,h2,_,h4 =>
  obtain⟨a,b⟩:=gw_bd (r:=r) (ts:=ts) (λs hs=>h1 s (aE _ (aE _ hs))) λx hx=>h2 x (aE _ (aE _ hx))
  have e:lnW n (s::u::r) (t::t1::ts)=n::s::iA t::u::iA t1::gw r ts:=rfl;rw[e];simp only[av] at h4 ⊢;apply⟨⋯,λz hz=>?_⟩;simp only[ay] at hz
  rcases hz with rfl | rfl | rfl | rfl | rfl | hz
  ·exact hn
  ·exact h1 _ ∅
  ·exact nK (h2 _ ∅)
  ·exact h1 _ ∅
  ·exact nK (h2 _ ∅)
  ·exact b z hz
 | s::u::r,[],_,_,_,_=>exact⟨by show 1≤60;decide,λz hz=>by rw[aB.mp (show z∈[n] from hz)];exact hn⟩
 | s::u::r,[t],_,_,_,_=>exact⟨by show 1≤60;decide,λz hz=>by rw[aB.mp (show z∈[n] from hz)];exact hn⟩
def LP.ok (x:LP):Prop:=x.1.length≤100∧(∀s∈x.2,s.length≤100)∧2≤x.2.length∧x.2.length≤19
theorem qM:∀{ls:List LP} {T:List Int},(∀x∈ls,x.ok)→(∀t∈T,W60 t)→(jO ls T).length=ls.length∧∀q∈jO ls T,q.2.length≤60∧∀z∈q.2,z.length≤100
 | [],T,_,_=>⟨rfl,λq hq=>by cases hq⟩
 | x::ls,T,h1,h2=>by
  obtain⟨a,b⟩:=qM (ls:=ls) (T:=T.drop (2 * (x.2.length - 1))) (λy hy=>h1 y (aE _ hy)) λt ht=>h2 t (jV ht)
  apply⟨by unfold jO;rw[av,av,a],λq hq=>?_⟩;unfold jO at hq
  rcases ay.mp hq with rfl | hq
  ·obtain⟨c1,c2,c3,c4⟩:=h1 x bh
   exact lnW_bd c1 c2 (λt ht=>h2 t (gZ ht)) c3 c4
  ·exact b q hq
theorem lnsP_ok (h:∀r∈rs,r.okH):∀x∈mP rs,x.ok:=λx hx=>by
 obtain⟨r,hr,e⟩:=gT.mp hx;have o:=h r hr;cases r with
 | beat b=>cases e
 | oth k ns is=>cases e
 | line n ss rs =>
  cases e;obtain⟨o1,o2,o3,o4,o5⟩:=o;exact⟨o4,o5,o2,o3⟩
theorem atP_app (a b:List LP):atP (a++b)=atP a+atP b:=by unfold atP;rw[aw,iT]
theorem lnsP_app (a b:List PR):mP (a++b)=mP a++mP b:=by unfold mP;rw[eY]
theorem oR (rs:List PR)(r:PR):mP (rs++[r])=mP rs++(r.ln).toList:=by
 unfold mP;rw[eY];cases h:r.ln <;> simp[kW,h]
theorem scHow:cI ["_law_rows","_law_table","_law_told","_law_at","_law_row","_law_words_of","_law_k"] pzH (defScope sHow):=by trivial
theorem ok_how (F:Fun K "_law_hours" "_law_hours" sHow f fd)(T:Nm mg)(T2:Nt mg)(hs:mg "str" =none):‹0› 1 f fd pzH spHow:=by
 specialize F.ok scHow;obtain ⟨R,Ta,xs,prs,Tt,rfl,hR,rw_,hT,ha,k⟩:=h;apply ⟨_,PSl.h (bo ⟨(psZ 2 scHow.nd (kF aA))⟩ (bo ⟨(psZ 3 scHow.nd aO)⟩
  (bo ⟨(jg cf rfl (jk (pv 0)) (pgZ 4 scHow.nd) (bE (fG (bQ iB (fj bV (pv 4) aO (fun _ _=>rfl)) eS (cw _)) (PSl.h
   (bo ⟨(psZ 5 scHow.nd (kF (ah (fj bV (pv 4) aO (fun _ _=>rfl)) (ah (fj bV (pv 4) aO (fun _ _=>rfl)) (ah (gk nu rfl hs boot_str (ah (fj ix_tup (pv 1) (pv 3) (fun _ _=>rfl)) aA)) aA)))))⟩
   (bo ⟨(jg cf rfl (oM rfl T2.range (ah aO (ah (cu cA rfl T.len bp (ah (pv 4) aA)) (ah aO aA)))) (pgZ 6 scHow.nd) (PSl.h
    (bo ⟨(psZ 5 scHow.nd (cH op_catN (pv 5) (kF (ah (fj bV (pv 4) (pv 6) (fun _ _=>rfl)) (ah (gk nu rfl hs boot_str (ah (fj ix_tup (pv 1) (cH iq (cH fz (pv 3) (pv 6)) aO) (fun _ _=>rfl)) aA)) aA)))))⟩
    (gc ⟨(fG (bQ op_lt (pv 6) (cH iq (cu cA rfl T.len bp (ah (pv 4) aA)) aO) (cw _)) (bE (hV (jR bB bK bJ gH (pv 5) (ah (gk nu rfl hs boot_str (ah (fj ix_tup (pv 1) (cH iq (cH fz (pv 3) (pv 6)) aO) (fun _ _=>rfl)) aA)) aA)))) cF)⟩))))⟩
   (bo ⟨(hV (jR bB bK bJ gH (pv 2) (ah (jR dj gL gK oj eS (ah (pv 5) aA)) aA)))⟩
   (gc ⟨(psZ 3 scHow.nd (cH iq (cH fz (pv 3) (cu cA rfl T.len bp (ah (pv 4) aA))) aO))⟩))))) cF)))⟩
  (gc ⟨(bR (jR dj gL gK oj eS (ah (pv 2) aA)))⟩)))),?_⟩
 try dsimp only [cxK]
 have big:(100000:Nat)≤az:=by decide
 apply⟨(by show 0≤az;decide),λL hL=>?_⟩;have S1:cb H (upd H L (.lst [])):=(cb.refl H).put hL;have h1:(upd H L (.lst [])) L=some (.lst []):=aQ;generalize upd H L (.lst [])=H1 at S1 h1 ⊢;have lxs:xs.length=prs.length:=by rw[rw_.len,ae]
 apply⟨ρ,R,rfl,⟨_,SqL.of (S1 _ _ hR)⟩,?_⟩;apply lF (K:=K) (a:=R) (xs:=xs) (λi σ H2=>cb H H2∧H2 L=some (.lst ((jO (mP (prs.take i)) Tt).map λq=>V.str (dm sp_ q.2)))∧∃v4 v5 v6,σ=[some (.ref R),some (.ref Ta),some (.ref L),some (.int (atP (mP (prs.take i)):Nat)),v4,v5,v6])
  ⟨S1,h1,none,none,none,rfl⟩ (λi σ H2 _ q=>SqL.of (q.1 _ _ hR)) ?_ ?_
 ·rintro i x σ H2 hx ⟨S2,h2,v4,v5,v6,rfl⟩
  have hi:i<prs.length:=by rw[←lxs];exact(ai.mp hx).1
  have hp:=gE hi;have et:prs.take (i+1)=prs.take i++[prs[i]]:=by rw[bG,hp];rfl
  have okr:=ha.ok _ (cW hi);obtain⟨a,hxa,hra⟩:=rw_.get i prs[i].rowV (by rw[aC,hp];rfl);rw[hx] at hxa;cases hxa;rw[et,oR];generalize hg:prs[i]=r at okr hra;have hra2:=S2 _ _ hra;cases r with
  | beat b =>
   rw[show PR.ln (.beat b)=none from rfl,ji,cz];have hra2:H2 a=some (.lst [.str "beat",.int b]):=hra2;apply⟨ρ,a,τ,SqL.of hra2,aP (j:=0) rfl,rfl,ρ,jY ⇑0 ?_⟩;exact⟨S2,h2,_,_,ρ⟩
  | oth kk ns is =>
   rw[show PR.ln (.oth kk ns is)=none from rfl,ji,cz];have hra2:H2 a=some (.lst (.str kk::(ns.map V.str++is.map V.int))):=hra2;apply⟨ρ,a,τ,SqL.of hra2,aP (j:=0) rfl,rfl,ρ,jY (rS λz=>okr (by injection z)) ?_⟩;exact⟨S2,h2,_,_,ρ⟩
  | line n ss rs =>
   rw[show PR.ln (.line n ss rs)=some (n,ss) from rfl,Option.toList_some,qL,atP_snoc,aw];obtain⟨o1,o2,o3,o4,o5⟩:=okr;have hra2:H2 a=some (.lst (.str "line" :: .str n::jI ss rs)):=hra2;have lT:atP (mP (prs.take i))+2 * (ss.length - 1)≤Tt.length:=by
    have e:=ha.len;rw[←fZ (i+1) prs,lnsP_app,atP_app,et,hg,oR,atP_app] at e;have:atP (PR.ln (.line n ss rs)).toList=2 * (ss.length - 1):=by show 2 * (ss.length - 1)+0=_;lia
    lia
   generalize atP (mP (prs.take i))=at0 at lT ⊢;have lrow:(V.str "line" :: .str n::jI ss rs).length=2 * ss.length+1:=by rw[av,av,ko o1];lia
   have lts:((Tt.drop at0).take (2 * (ss.length - 1))).length=2 * (ss.length - 1):=by rw[aL,bD];lia
   have gts:∀q,q<2 * (ss.length - 1)→((Tt.drop at0).take (2 * (ss.length - 1)))[q]? =Tt[at0+q]? := λq hq=>by rw[cY hq,dv]
   have wts:∀t∈(Tt.drop at0).take (2 * (ss.length - 1)),W60 t:=λt ht=>ha.w t (jV (gZ ht))
   first | show ∃v,_ | skip
   generalize (Tt.drop at0).take (2 * (ss.length - 1))=ts at lts gts wts ⊢;obtain⟨s0,hs0⟩:∃s0,ss[0]? =some s0:=⟨_,gE ⋯⟩;obtain⟨t0,ht0⟩:∃t0,ts[0]? =some t0:=⟨_,gE ⋯⟩;have hT2:=S2 _ _ hT;have tat:∀q t,ts[q]? =some t→(Tt.map V.int)[at0+q]? =some (.int t):=λq t h=>by
    have lq:=(ai.mp h).1;rw[aC,←gts q ⋯,h];rfl
   have ttl:∀(q:Nat) (t:Int),ts[q]? =some t→t.natAbs.log2<1920:=λq t h=>log_60 (wts t (aD h))
   have r2:(V.str "line" :: .str n::jI ss rs)[2]? =some (.str s0):=by
    rw[aZ,aZ,pT 0 o1,hs0];rfl
   obtain⟨bd1,bd2⟩:=lnW_bd o4 o5 wts o2 o3;apply⟨ρ,a,τ,SqL.of hra2,aP (j:=0) rfl,rfl,ρ,nW (rR rfl) ?_⟩;apply⟨ρ,a,τ,SqL.of hra2,aP (j:=1) rfl,ρ,a,τ,SqL.of hra2,aP (j:=2) r2,ρ,ρ,Ta,τ,SqT.of hT2,aP (j:=at0) (tat 0 t0 ht0),.int t0,iA t0,rfl,rfl,(λi e=>by cases e;exact ttl 0 t0 ht0),(by show 3≤az;decide),λW0 hW0=>?_⟩;have S3:cb H2 (upd H2 W0 (.lst [.str n,.str s0,.str (iA t0)])):=(cb.refl H2).put hW0;have h3:(upd H2 W0 (.lst [.str n,.str s0,.str (iA t0)])) W0=some (.lst ([n,s0,iA t0].map V.str)):=aQ;generalize upd H2 W0 (.lst [.str n,.str s0,.str (iA t0)])=H3 at S3 h3 ⊢;have hra3:=S3 _ _ hra2;apply⟨ρ,a,ρ,.inl (SqL.of hra3),4,ρ,⟨↥0,↥0,⋯,by rw[lrow];lia⟩,?_⟩;have en:((((V.str "line" :: .str n::jI ss rs).length:Nat):Int) - 4+1) / 2=((ss.length - 1:Nat):Int):=by rw[lrow];lia
   rw[en,ff];apply nP (lo:=4) (n:=ss.length - 1) (λj σ H4=>cb H2 H4∧∃(wa:aq) (ws:List Str) (v6:Option V),H2 wa=none∧H4 wa=some (.lst (ws.map V.str))∧ws++tw (ss.drop (j+1)) (ts.drop (2 * j+1))=lnW n ss ts∧σ=[some (.ref R),some (.ref Ta),some (.ref L),some (.int (at0:Nat)),some (.ref a),some (.ref wa),v6])
    ⟨S3,W0,_,_,hW0,h3,lnW_tw n o2 lts hs0 ht0,rfl⟩ ?_ ?_
   ·rintro j σ H4 hj ⟨S4,wa,ws,v6,nw,h4,ew,rfl⟩
    obtain⟨s1,hs1⟩:∃s1,ss[j+1]? =some s1:=⟨_,gE ⋯⟩;obtain⟨t1,ht1⟩:∃t1,ts[2 * j+1]? =some t1:=⟨_,gE ⋯⟩;rw[tw_step lts hs1 ht1] at ew;have hra4:=S4 _ _ hra2;have hT4:=S4 _ _ hT2;have lw:ws.length≤60:=by
     have:=rV jW ew;rw[ao] at this;lia
    have rk:(V.str "line" :: .str n::jI ss rs)[4+2 * j]? =some (.str s1):=by
     rw[show 4+2 * j=2 * (j+1)+1+1 by lia,aZ,aZ,pT (j+1) o1,hs1];rfl
    have ik:(4:Int)+(j:Nat) * 2=((4+2 * j:Nat):Int):=by lia
    have it1:(at0:Int)+((4:Int)+(j:Nat) * 2) - 3=((at0+(2 * j+1):Nat):Int):=by lia
    have it2:(at0:Int)+((4:Int)+(j:Nat) * 2) - 2=((at0+(2 * j+2):Nat):Int):=by lia
    apply⟨ρ,ρ,ρ,a,τ,SqL.of hra4,(by rw[ik];exact aP rk),ρ,ρ,ρ,ς,ς,Ta,τ,SqT.of hT4,(by show atI _ ((at0:Int)+((4:Int)+(j:Nat) * 2) - 3)=_;rw[it1];exact aP (tat _ t1 ht1)),.int t1,iA t1,rfl,rfl,(λi e=>by cases e;exact ttl _ t1 ht1),szZ2,λB hB=>?_⟩;have S5:cb H4 (upd H4 B (.lst [.str s1,.str (iA t1)])):=(cb.refl H4).put hB;have h5:(upd H4 B (.lst [.str s1,.str (iA t1)])) B=some (.lst [.str s1,.str (iA t1)]):=aQ;generalize upd H4 B (.lst [.str s1,.str (iA t1)])=H5 at S5 h5 ⊢;apply⟨wa,B,ς,S5 _ _ h4,h5,(by rw[ae];show ws.length+2≤az;lia),λwb H6 nwb S6 e6=>?_⟩;have e6:H6 wb=some (.lst ((ws++[s1,iA t1]).map V.str)):=by rw[e6,aw];rfl
    have S26:cb H2 H6:=S4.trans (S5.trans S6);have nwb2:H2 wb=none:=(S4.trans S5).free nwb;apply⟨ρ,ρ,a,ρ,.inl (SqL.of (S26 _ _ hra2)),ς,ς,?_⟩
    by_cases c:j+2<ss.length
    ·apply⟨ρ,nW (rR (by rw[lrow];lia)) ?_⟩
     obtain⟨t2,ht2⟩:∃t2,ts[2 * j+2]? =some t2:=⟨_,gE ⋯⟩;rw[rP c,cM,ht2,Option.getD_some] at ew;apply⟨ρ,.inl ⟨rfl,_,SqL.of e6⟩,ρ,ρ,ρ,ς,ς,Ta,τ,SqT.of (S26 _ _ hT2),(by show atI _ ((at0:Int)+((4:Int)+(j:Nat) * 2) - 2)=_;rw[it2];exact aP (tat _ t2 ht2)),.int t2,iA t2,rfl,rfl,(λi e=>by cases e;exact ttl _ t2 ht2),wb,ς,e6,(by rw[ae,ao];show ws.length+2<az;lia),?_⟩;apply⟨λc o e=>by rw[aX (aR e nwb2)];exact S26 _ _ e,wb,ws++[s1,iA t1]++[iA t2],_,nwb2,?_,?_,rfl⟩
     ·rw[aQ,aw (l₂:=[iA t2])];rfl
     ·rw[dA,dA]
      rw[dA] at ew;exact ew
    ·apply⟨ρ,jY (rS (by rw[lrow];lia)) ?_⟩
     rw[rO c,cz] at ew;apply⟨S26,wb,ws++[s1,iA t1],_,nwb2,e6,?_,rfl⟩;rw[dA];exact ew
   ·rintro σ H4 ⟨S4,wa,ws,v6,nw,h4,ew,rfl⟩
    have e0:tw (ss.drop (ss.length - 1+1)) (ts.drop (2 * (ss.length - 1)+1))=[]:=by
     rw[jv ⋯,jv ⋯];rfl
    rw[e0,cz] at ew;subst ew;have hL4:=S4 _ _ h2;have ne:L≠wa:=aR h2 nw;have:=qm bd2;apply⟨ρ,.inl ⟨rfl,_,SqL.of hL4⟩,rfl,ρ,sp_,wa,ρ,rfl,SqL.of h4,⇑0,⋯,L,ς,hL4,?_,?_⟩
    ·obtain⟨c1,_⟩:=qM (lnsP_ok λr hr=>ha.ok r (gZ hr)) ha.w (ls:=mP (prs.take i)) (T:=Tt)
     have c2:(mP (prs.take i)).length≤(prs.take i).length:=List.length_filterMap_le _ _;have f:=ha.few;rw[ae,c1];rw[aL] at c2;lia
    ·have S5:cb H (upd H4 L (.lst ((jO (mP (prs.take i)) Tt).map (λq=>V.str (dm sp_ q.2))++[.str (dm sp_ (lnW n ss ts))]))):=λc o e=>by rw[aX (aR e hL)];exact S4 _ _ (S2 _ _ e)
     have h5:(upd H4 L (.lst ((jO (mP (prs.take i)) Tt).map (λq=>V.str (dm sp_ q.2))++[.str (dm sp_ (lnW n ss ts))]))) L=_:=aQ;generalize upd H4 L (.lst ((jO (mP (prs.take i)) Tt).map (λq=>V.str (dm sp_ q.2))++[.str (dm sp_ (lnW n ss ts))]))=H5 at S5 h5 ⊢;have ea:(at0:Int)+(((V.str "line" :: .str n::jI ss rs).length:Nat):Int) - 3=((at0+2 * (ss.length - 1):Nat):Int):=by rw[lrow];lia
     apply⟨ρ,ρ,a,ρ,.inl (SqL.of (S5 _ _ hra)),ς,ς,S5,h5,some (.ref a),some (.ref wa),v6,?_⟩;show[some (V.ref R),some (.ref Ta),some (.ref L),some (.int ((at0:Int)+(((V.str "line" :: .str n::jI ss rs).length:Nat):Int) - 3)),some (.ref a),some (.ref wa),v6]=_;rw[ea]
 ·rintro σ H2 ⟨S2,h2,v4,v5,v6,rfl⟩
  rw[lxs,bO] at h2;obtain⟨b1,b2⟩:=qM (lnsP_ok ha.ok) ha.w;have e:(jO (mP prs) Tt).map (λq=>V.str (dm sp_ q.2))=((jO (mP prs) Tt).map λq=>dm sp_ q.2).map V.str:=by rw[bf];rfl
  rw[e] at h2;have:=sum_le7 (zs:=(jO (mP prs) Tt).map λq=>dm sp_ q.2) λy hy=>by
   obtain⟨q,hq,rfl⟩:=aI.mp hy;obtain⟨c1,c2⟩:=b2 q hq;exact join_le c2 c1
  have hm:((jO (mP prs) Tt).map λq=>dm sp_ q.2).length=(jO (mP prs) Tt).length:=ae _;have hl:(mP prs).length≤prs.length:=List.length_filterMap_le _ _;have f:=ha.few;exact⟨rfl,ρ,nl_,L,ρ,rfl,SqL.of h2,⇑0,⋯,k H2 S2⟩
theorem lsC_lns (rows:List PR):(lsC rows).map (λl=>(l.n,l.ss))=mP rows:=by
 induction rows using snocI with
 | h0=>rfl
 | h1 rs r ih =>
  rw[iK,oR,←ih];cases r with
  | beat b=>show _=_++[];rw[cz];rfl
  | oth k ns is=>show _=_++[];rw[cz];rfl
  | line n ss rs'=>show(lsC rs++[_]).map _=_;rw[aw];rfl
theorem lsOf_lns (rows:List PR):(kj rows).map (λl=>(l.n,l.ss))=mP rows:=by
 rw[←lsC_lns,←gQ,bf];rfl
theorem atP_hap {rows:List PR}(h:∀r∈rows,r.okI):((atP (mP rows):Nat):Int)=jK (lsC rows):=by
 induction rows using snocI with
 | h0=>rfl
 | h1 rs r ih =>
  have i:=ih λq hq=>h q (cB _ hq)
  have o:=h r (bC _ (aB.mpr rfl));rw[iK,oR];cases r with
  | beat b=>show((atP (mP rs++[]):Nat):Int)=_;rw[cz];exact i
  | oth k ns is=>show((atP (mP rs++[]):Nat):Int)=_;rw[cz];exact i
  | line n ss rs' =>
   show((atP (mP rs++[(n,ss)]):Nat):Int)=jK (lsC rs++[_]);rw[atP_snoc,lN];obtain⟨_,_,_,_,_,o6,_⟩:=o
   dsimp only
   lia
theorem okI_H (h:r.okI):r.okH:=by
 cases r with
 | beat b=>exact rQ h id
 | line n ss rs =>
  obtain⟨h1,h2,_,h4,h5,h6,_⟩:=h;exact⟨h6,h4,⋯,by have:=pF h1;lia,λs hs=>by have:=pF (h2 s hs);lia⟩
 | oth k ns is=>exact h.1
theorem lbs_mem (n:Str):∀{ss:List Str} {q:Lb},q∈lbs n ss→q.1=n∧q.2.1∈ss
 | [],q,h=>by cases h
 | [_],q,h=>by cases h
 | s::u::r,q,h=>by
  rcases ay.mp h with rfl | h
  ·exact⟨rfl,bh⟩
  ·rcases ay.mp h with rfl | h
   ·exact⟨rfl,aE _ bh⟩
   ·obtain⟨a,b⟩:=lbs_mem n h
    exact⟨a,aE _ b⟩
theorem PlanOk.hours {rows:List PR}(h:PlanOk b rows)(hl:ts.length=atP (mP rows))(hw:∀t∈ts,W60 t):ts.length=(qX (kj rows)).length∧HSm ((qX (kj rows)).zip ts)∧hgo ((qX (kj rows)).zip ts)=jO (mP rows) ts∧HowA rows ts:=by
 have okI:=h.ok.okI;have e:=atP_hap okI;have hh:=h.hap;have e1:qX (kj rows)=lbP (mP rows):=by rw[lbLL_P,lsOf_lns]
 have l1:ts.length=(lbP (mP rows)).length:=by rw[atP_len];exact hl
 have okl:∀x∈mP rows,2≤x.2.length∧nam x.1=true∧∀s∈x.2,nam s=true:=λx hx=>by
  rw[←lsC_lns] at hx;obtain⟨l,hl,rfl⟩:=aI.mp hx;obtain⟨a1,a2,_,a4,_⟩:=h.ok.lnOk hl;exact⟨a4,a1,a2⟩
 rw[e1];apply⟨l1,⟨by rw[List.length_zip];lia,λq hq=>?_⟩,hgo_lines ?_ l1 λx hx=>(okl x hx).1,λr hr=>okI_H (okI r hr),by have:=h.few;lia,hl,⋯,hw⟩
 ·obtain⟨q1,q2⟩:=lP hq
  obtain⟨x,hx,hq⟩:=List.mem_flatMap.mp q1;obtain⟨a,b⟩:=lbs_mem _ hq;obtain⟨_,o2,o3⟩:=okl x hx;exact⟨by rw[a];have:=pF o2;lia,by have:=pF (o3 _ b);lia,hw _ q2⟩
 ·rw[←lsC_lns,bf]
  exact h.ok.nd
abbrev sLaw:c8:=top 106
inductive spLaw (K:ak)(vs:List V)(H:Hp)(Q:VK)(_:XK):Prop
 | mk (a:aq)(ns:List Int)(_:vs=[.ref a])(_:SqL K H a (ns.map V.int))(_:ns.length≤63)(_:∀H',Q (.bl true) H')
theorem isds_ints {H:Hp}:∀us:List Int,jG H (us.map V.int) (us.map Dt.int)
 | []=> .nil
 | u::us=> .cons (.int u) (isds_ints us)
theorem rep_int (t:Int):∀n:Nat,(bS n [V.int t]).flatten=(bS n t).map V.int
 | 0=>rfl
 | n+1=>by rw[ig,kU,rep_int t n,ig,bq];rfl
theorem pY:cI ["_law_script","_law_beat","_law_rows","_law_pot_here","_law_k","_law_text_here","_law_due","_law_net","_law_labels","_law_table"] pzk (defScope sLaw):=by trivial
theorem ok_law {fP fQ fT fB fX fD fN fH fW:aq}{dP dQ dT dB dX dD dN dH dW:aT}(F:Fun K "law" "law" sLaw f fd)(T:Nm mg)(T2:Nt mg)
  (GP:Fn K mg "_law_plan" sPln pzk fP dP) (FP:‹0› 4 fP dP pzk (spPln K))
  (GQ:Fn K mg "_law_pot" sPotT pzg fQ dQ) (FQ:‹0› 2 fQ dQ pzg (spPotT K))
  (GT:Fn K mg "_law_take" qx pze fT dT)
  (GB:Fn K mg "_law_bent" sBnt pzG fB dB) (FB:‹0› 3 fB dB pzG spBnt)
  (GX:Fn K mg "_law_text" sTxt pzx fX dX) (FX:‹0› 1 fX dX pzx spTxt)
  (GD:Fn K mg "_law_row_told" sRwt pzu fD dD) (FD:‹0› 10 fD dD pzu spRwt)
  (GN:Fn K mg "net_by" rD pzd fN dN) (FN:c9 P w K mg base (CXN P w) 8 fN dN pzd (nG C))
  (GH:Fn K mg "hours_of" sHof pzm fH dH) (FH:c9 P w K mg base (CXN P w) 9 fH dH pzm (spHofX C))
  (GW:Fn K mg "_law_hours" sHow pzH fW dW) (FW:‹0› 1 fW dW pzH spHow):‹0› 11 f fd pzk (spLaw K):=by
 have FT:‹0› 1 fT dT pze oa:=mI GT.F;specialize F.ok pY;obtain ⟨a,ns,rfl,ha,hl,k⟩:=h;have hr1:kA 1 _:=hr.mono ↥0;have hr2:kA 2 _:=hr.mono ↥0;have hr3:kA 3 _:=hr.mono ↥0;have hr4:kA 4 _:=hr.mono ↥0;have hr8:kA 8 _:=hr.mono ↥0;have hr9:kA 9 _:=hr.mono ↥0;have hr10:kA 10 _:=hr;apply ⟨_,PSl.h (bo ⟨(ps_asg (pc1 GP FP hr4 (ah (pv 0) aA)) (qA rfl (iW (pgZ 1 pY.nd) (iW (pgZ 2 pY.nd) oh))))⟩
  (bo ⟨(psZ 3 pY.nd (pc1 GQ FQ hr2 (ah (pv 0) (ah aO aA))))⟩
  (bo ⟨(ps_cutK (fG (bQ iB (pc1 GT FT hr1 (ah (pv 3) (ah aO aA))) aO (cw _)) (bE (psZ 2 pY.nd (ip aA))) cF))⟩
  (bo ⟨(jg cf rfl (lL rfl T2.range (ah (cH fz aO (pc1 GT FT hr1 (ah (pv 3) (ah aO aA)))) aA)) (pgZ 4 pY.nd) (bE (psZ 2 pY.nd (pc1 GB FB hr3 (ah (pv 3) (ah (pv 1) (ah (pv 2) aA)))))))⟩
  (bo ⟨(psZ 5 pY.nd (pc1 GX FX hr1 (ah (pv 1) (ah (pv 2) aA))))⟩
  (bo ⟨(psZ 6 pY.nd (pc1 GD FD hr10 (ah aO (ah (pv 5) aA))))⟩
  (bo ⟨(fG (bQ op_ge (pv 6) aO (cw _)) (bE (bR (oN (jQ iB (pc1 GD FD hr10 (ah aO (ah (pv 5) aA))) (pv 6) (cw _)) (pQ (jQ iB (pc1 GD FD hr10 (ah aO (ah (pv 5) aA))) (pv 6) (cw _)))))) cF)⟩
  (bo ⟨(ps_asg (pB FN hr8 rfl GN.mg GN.F.kp GN.b .nil passN (ah (pv 5) aA)) (qA rfl (iW (pgZ 7 pY.nd) (iW (pgZ 8 pY.nd) oh))))⟩
  (bo ⟨(psZ 9 pY.nd (cH op_repT (jc (ah aO aA)) (ixZ (pv 7))))⟩
  (gc ⟨(bR (oN (jQ iB (pv 6) (pe_un rg aO) (cw _)) (pQ (jQ iB (pB FH hr9 rfl GH.mg GH.F.kp GH.b .nil passN (ah (pv 5) (ah (pv 9) aA))) (pc1 GW FW hr1 (ah (pv 2) (ah (pv 9) aA))) (cw _)))))⟩)))))))))),?_⟩
 try dsimp only [cxK]
 apply⟨ρ,a,ns,rfl,ha,hl,λq L xs b rows H1 S1 eq eL rw1 b2 few pok=>?_⟩;apply⟨q,ρ,SqT.of eq,rfl,_,ρ,ς,?_⟩;have ha1:SqL K H1 a (ns.map V.int):=SqL.kept' S1 ha;apply⟨ρ,a,ns,7,rfl,ha1,↥0,↥0,λn p np=>?_⟩;have S2:cb H1 (upd H1 p (.lst [.int n])):=(cb.refl H1).put np;have hp2:(upd H1 p (.lst [.int n])) p=some (.lst [.int n]):=aQ;generalize upd H1 p (.lst [.int n])=H2 at S2 hp2 ⊢;have fm:=pok.ok.frm;have two:∀{rows:List PR},(∀r∈rows,r.frm)→∀r∈rows.map PR.rowV,2≤r.length:=λ{rows} fm r hr=>by
  obtain⟨q,hq,rfl⟩:=aI.mp hr;have:=(frm_wd (fm q hq)).2.1;lia
 have b1:=pok.b1;apply⟨λσ' H'=>∃(R:aq) (xs:List V) (rows:List PR) (nA:Int),σ'=[some (.ref a),some (.int b),some (.ref R),some (.ref p),none,none,none,none,none,none]∧H' p=some (.lst [.int nA])∧H' R=some (.lst xs)∧kO H' xs (rows.map PR.rowV)∧(∀r∈rows,r.frm)∧rows.length≤63,λσ' H3 qq=>?_,?_⟩
 rotate_left
 ·apply⟨ρ,p,n,8,rfl,hp2,↥0,↥0,λr H3 _ _ M3=>?_⟩
  have rw2:=rw1.same S2;have eL2:=S2 _ _ eL;have eL3:=M3.at eL2 (rw2.nep hp2 eL2);have rw3:=rw2.mv M3 hp2 (two fm);obtain⟨n3,hp3⟩:=M3.2;apply⟨rfl,ρ,kJ (λc=>?_) (λc=>⟨L,xs,rows,n3,rfl,hp3,eL3,rw3,fm,few⟩)⟩;exact⟨(by show 0≤az;decide),λB H4 S4 e4=>⟨B,[],[],n3,rfl,S4 _ _ hp3,e4,⟨rfl,λi r h=>by cases h⟩,(λr h=>by cases h),cV _⟩⟩
 clear rw1 eL hp2 S2 np ha1 eq S1 pok fm few rows xs L;obtain⟨L,xs,rows,n3,rfl,hp3,eL3,rw3,fm,few⟩:=qq;apply⟨ρ,p,n3,3,rfl,hp3,↥0,↥0,λr3 H4 r30 r31 M4=>?_⟩;have eL4:=M4.at eL3 (rw3.nep hp3 eL3);have rw4:=rw3.mv M4 hp3 (two fm);obtain⟨n4,hp4⟩:=M4.2;apply⟨ς,ρ,⋯,⋯,?_⟩
 let pZ1:Nat→L2.St→L2.Hp→Prop:=λi σ HA=>∃(R:aq) (xs:List V) (rows:List PR) (nA:Int) (v4:Option V),σ=[some (.ref a),some (.int b),some (.ref R),some (.ref p),v4,none,none,none,none,none]∧HA p=some (.lst [.int nA])∧HA R=some (.lst xs)∧kO HA xs (rows.map PR.rowV)∧(∀r∈rows,r.frm)∧rows.length≤63+i
 apply nr (n:=(1+r3).toNat) pZ1
  ⟨L,xs,rows,n4,none,rfl,hp4,eL4,rw4,fm,few⟩ ?_ ?_
 ·rintro i σ HA hi ⟨R,xs,rows,nA,v4,rfl,hpA,hR,rwA,fm,few⟩
  apply⟨ρ,ρ,ρ,p,nA,b,R,xs,rows,rfl,hpA,⋯,b2,hR,rwA,fm,⋯,λR' xs' rows' H' M' hR' rw' fm' l'=>?_⟩;obtain⟨n',hp'⟩:=M'.2;exact⟨R',xs',rows',n',ρ,hp',hR',rw',fm',⋯⟩
 ·clear eL4 rw4 hp4 fm few
  rintro σ HA ⟨R,xs,rows,nA,v4,rfl,hpA,hR,rwA,fm,few⟩;have few:rows.length≤66:=by lia
  have lxs:xs.length=rows.length:=by rw[rwA.len,ae]
  have wb:W60 b:=⟨⋯,⋯⟩;apply⟨ρ,ρ,b,R,xs,rows.map PR.rowV,rfl,wb,hR,rwA,by rw[ae];lia,λr hr=>?_,λHD SD=>?_⟩
  ·obtain⟨z,hz,rfl⟩:=aI.mp hr
   have ok:=frm_wok (fm z hz);exact⟨by have:=ok.2.1;lia,λv hv=>(ok.2.2.1 v hv).wd⟩
  have nf:=netF_of wb fm ⋯;generalize planT b (rows.map PR.rowV)=tx at nf ⊢;apply⟨ρ,0,tx,b,rows,rfl,nf,.inl rfl,λd HE SE hdue=>?_⟩;apply⟨ρ,ς,ρ,kJ (λc1=>?_) (λc1=>?_)⟩
  ·have c1:(0:Int)≤d:=rT c1
   obtain⟨i,wr⟩:∃i,Wrg b rows i:=by
    rcases hdue with ⟨i,wr,_⟩ | ⟨_,_,_,rfl⟩
    ·exact⟨i,wr⟩
    ·exact rQ c1 ↥0
   apply⟨ρ,1,tx,b,rows,rfl,nf,.inr ⟨i,wr⟩,λd2 HF SF hd2=>?_⟩;obtain rfl:=hd2.one hdue;apply⟨ρ,rfl,true,by rw[rR rfl],?_⟩;apply⟨ρ,2,tx,b,rows,rfl,nf,.inr ⟨i,wr⟩,λd3 HG SG hd3=>?_⟩;obtain rfl:=hd3.one hdue;apply⟨ρ,rfl,?_⟩;rw[rR rfl];exact k HG
  ·have c1:¬(0:Int)≤d:=λz=>c1 (rR z)
   rcases hdue with ⟨i,_,rfl⟩ | ⟨h1,up,ne,rfl⟩
   ·exact rQ (Int.natCast_nonneg i) c1
   have pok:=plan_of h1 up ne ⋯;apply⟨ρ,tx,b,rows,rfl,nf,(λi H' _ wr=>(wr.not h1 up ne).elim),λbt v HF _ _ _ ru SF dF=>?_⟩;obtain⟨t,us,rfl,ht,du⟩:=dF.tup_of;cases du with
   | cons dn du =>
   cases du with
   | cons dl du =>
   cases du;apply⟨t,ρ,SqT.of ht,rfl,_,ρ,ς,?_⟩;obtain⟨tn,un,rfl,htn,dun⟩:=dn.tup_of;cases dun with
   | cons d1 dun =>
   cases dun with
   | cons d2 dun =>
   cases d1;cases d2;have hat:((atP (mP rows):Nat):Int)=jK (lsC rows):=atP_hap pok.ok.okI;have hap:=pok.hap;rw[←gQ,nk] at hat hap;generalize hmm:atP (mP rows)=mm at hat;have m16:mm≤16:=by lia
   apply⟨szZ1,λC1 H8 S8 e8=>?_⟩;apply⟨ρ,tn,τ,SqT.of (S8 _ _ htn),aP (j:=1) rfl,C1,ς,e8,∅,⋯,⋯,by show 1<1000;decide,λTb H9 S9 e9=>?_⟩;have e9:H9 Tb=some (.tup ((bS mm (0:Int)).map V.int)):=by
    rw[e9,←hat,ff,rep_int]
   obtain⟨q1,q2,q3,q4⟩:=pok.hours (ts:=bS mm 0) (by rw[List.length_replicate,hmm]) (λx hx=>by rw[(List.mem_replicate.mp hx).2];exact⟨↥0,↥0⟩);apply⟨ρ,ρ,rfl,true,rfl,?_⟩;have SA9:=SD.trans (SE.trans (SF.trans (S8.trans S9)));apply⟨ρ,ρ,tx,b,rows,ρ,nf,(λi H' _ wr=>(wr.not h1 up ne).elim),λ_ _ _=>⟨bS mm 0,.tup e9 (isds_ints _),q1,q2,λH10 S10=>?_⟩⟩;rw[q3];have SA10:=SA9.trans S10;apply⟨ρ,ρ,R,Tb,xs,rows,ρ,SA10 _ _ hR,rwA.same SA10,S10 _ _ e9,q4,λH11 S11=>⟨rfl,?_⟩⟩;rw[rR rfl];exact k H11
theorem tupK2 {t:aq}{x y:Int}{a b:Tok}(h:K.lookup t=some ⟨.type "tuple",od,.seq #[.int x a,.int y b] n,sl⟩)(H:Hp):SqT K H t [.int x,.int y] :=
 .inr ⟨_,#[.int x a,.int y b],n,h,rfl,rfl,szZ2,.cons ⟨_,rfl⟩ (.cons ⟨_,rfl⟩ .nil)⟩
theorem unt_mk {t:aq}{a b c:Tok}(hm:mg "STAY_UNTOLD" =some (.ref t))(h:K.lookup t=some ⟨.type "tuple",od,.seq #[.int 0 a,.int 0 b,.int 0 c] n,sl⟩):Unt K mg :=
 ⟨t,hm,λH=> .inr ⟨_,#[.int 0 a,.int 0 b,.int 0 c],n,h,rfl,rfl,(by show 3≤az;decide),.cons ⟨_,rfl⟩ (.cons ⟨_,rfl⟩ (.cons ⟨_,rfl⟩ .nil))⟩⟩
theorem fms_mk {aF t1 t2 t3 t4:aq}{k1 k2 k3 k4 a1 a2 a3 a4 b1 b2 b3 b4:Tok}{m1 m2 m3 m4:Nat}{o1 o2 o3 o4:Option aq}{l1 l2 l3 l4:Array (Option af)}(hm:mg "FORMS" =some (.ref aF))(hs:(aF == iR)=false)
  (hl:K.lookup aF=some ⟨.type "dict",none,.dict #[⟨fU w.params "stay",.str "stay" k1,.ref t1⟩,⟨fU w.params "change",.str "change" k2,.ref t2⟩,⟨fU w.params "apart",.str "apart" k3,.ref t3⟩,⟨fU w.params "meet",.str "meet" k4,.ref t4⟩] n,#[]⟩)
  (h1:K.lookup t1=some ⟨.type "tuple",o1,.seq #[.int 2 a1,.int 3 b1] m1,l1⟩) (h2:K.lookup t2=some ⟨.type "tuple",o2,.seq #[.int 3 a2,.int 3 b2] m2,l2⟩) (h3:K.lookup t3=some ⟨.type "tuple",o3,.seq #[.int 3 a3,.int 1 b3] m3,l3⟩) (h4:K.lookup t4=some ⟨.type "tuple",o4,.seq #[.int 4 a4,.int 1 b4] m4,l4⟩):Fms P w K mg:=by
 apply⟨aF,t1,t2,t3,t4,hm,⟨hs,[(.inr "stay",.ref t1),(.inr "change",.ref t2),(.inr "apart",.ref t3),(.inr "meet",.ref t4)],.cons ⟨rfl,rfl⟩ (.cons ⟨rfl,rfl⟩ (.cons ⟨rfl,rfl⟩ (.cons ⟨rfl,rfl⟩ .nil))),λh hi=>⟨_,_,n,hi _ _ hl,⟨rfl,rfl,rfl⟩,rfl,λe he=>?_,?_,?_⟩⟩,tupK2 h1,tupK2 h2,tupK2 h3,tupK2 h4⟩
 ·have he:e∈[DictEntry.mk (fU w.params "stay") (.str "stay" k1) (.ref t1),⟨fU w.params "change",.str "change" k2,.ref t2⟩,⟨fU w.params "apart",.str "apart" k3,.ref t3⟩,⟨fU w.params "meet",.str "meet" k4,.ref t4⟩]:=by simpa using he
  simp only[ay,bz,or_false] at he
  rcases he with rfl | rfl | rfl | rfl
  ·exact⟨.inr "stay",km "stay" k1,rfl⟩
  ·exact⟨.inr "change",km "change" k2,rfl⟩
  ·exact⟨.inr "apart",km "apart" k3,rfl⟩
  ·exact⟨.inr "meet",km "meet" k4,rfl⟩
 ·exact .cons (km "stay" k1) rfl (.cons (km "change" k2) rfl (.cons (km "apart" k3) rfl (.cons (km "meet" k4) rfl .nil)))
 ·show[(Sum.inr ("stay" :Str):Key),.inr "change",.inr "apart",.inr "meet"].Nodup
  decide +kernel
end HN
namespace HN
open PySem L2 PyProof.Rows
theorem args0 {P:List af→Prop}(h:P []):∀us:List af,us.length=0→P us:=λus hl=>by rw[kC.mp hl];exact h
theorem args1 {P:List af→Prop}(h:∀x0,P [x0]):∀us:List af,us.length=1→P us:=by
 intro us hl;obtain _ | ⟨x0,us⟩:=us <;> try (cases hl;done)
 obtain _ | ⟨y,us⟩:=us
 ·exact h x0
 ·exact rQ hl (by simp only[av];lia)
theorem args2 {P:List af→Prop}(h:∀x0 x1,P [x0,x1]):∀us:List af,us.length=2→P us:=by
 intro us hl;obtain _ | ⟨x0,us⟩:=us <;> try (cases hl;done)
 obtain _ | ⟨x1,us⟩:=us <;> try (cases hl;done)
 obtain _ | ⟨y,us⟩:=us
 ·exact h x0 x1
 ·exact rQ hl (by simp only[av];lia)
theorem args3 {P:List af→Prop}(h:∀x0 x1 x2,P [x0,x1,x2]):∀us:List af,us.length=3→P us:=by
 intro us hl;obtain _ | ⟨x0,us⟩:=us <;> try (cases hl;done)
 obtain _ | ⟨x1,us⟩:=us <;> try (cases hl;done)
 obtain _ | ⟨x2,us⟩:=us <;> try (cases hl;done)
 obtain _ | ⟨y,us⟩:=us
 ·exact h x0 x1 x2
 ·exact rQ hl (by simp only[av];lia)
theorem args4 {P:List af→Prop}(h:∀x0 x1 x2 x3,P [x0,x1,x2,x3]):∀us:List af,us.length=4→P us:=by
 intro us hl;obtain _ | ⟨x0,us⟩:=us <;> try (cases hl;done)
 obtain _ | ⟨x1,us⟩:=us <;> try (cases hl;done)
 obtain _ | ⟨x2,us⟩:=us <;> try (cases hl;done)
 obtain _ | ⟨x3,us⟩:=us <;> try (cases hl;done)
 obtain _ | ⟨y,us⟩:=us
 ·exact h x0 x1 x2 x3
 ·exact rQ hl (by simp only[av];lia)
theorem Df.fn (a:Df K x st f)(X:K.In h)(G:h.Ns bH mg)
  (hb:∀(kV dc pm:af) (an:Option aq) (cd ct:af) (us:List af),us.length=ps.length→bindArgs (gn x x (lO st) (kM st) (defScope st) .none kV dc pm an cd ct) ⟨us,[]⟩=iS (ps.zip us):=by intro _ _ _ _ _ _;first  | exact args0 rfl | exact args1 λ_=>rfl | exact args2 λ_ _=>rfl | exact args3 λ_ _ _=>rfl | exact args4 λ_ _ _ _=>rfl):∃fd,Fn K mg x st ps f fd:=by
 obtain⟨n,oc,od,an,sl,kV,dc,pm,cd,ct,l,c,k⟩:=a;have F:=fun_mk (st:=st) l c k;exact⟨_,F,dZ X G n,F.binds hb⟩
theorem args5 {P:List af→Prop}(h:∀x0 x1 x2 x3 x4,P [x0,x1,x2,x3,x4]):∀us:List af,us.length=5→P us:=by
 intro us hl
 rcases us with _ | ⟨x0,_ | ⟨x1,_ | ⟨x2,_ | ⟨x3,_ | ⟨x4,_ | ⟨x5,xr⟩⟩⟩⟩⟩⟩ <;> first | exact h _ _ _ _ _ | simp at hl
theorem Mf.fn {q:Str}(a:Mf K C x q st f)
  (hb:∀(kV dc pm:af) (an:Option aq) (cd ct:af) (us:List af),us.length=ps.length→bindArgs (gn x q (lO st) (kM st) (defScope st) .none kV dc pm an cd ct) ⟨us,[]⟩=iS (ps.zip us):=by intro _ _ _ _ _ _;first | exact args1 λ_=>rfl | exact args2 λ_ _=>rfl | exact args3 λ_ _ _=>rfl | exact args5 λ_ _ _ _ _=>rfl):∃fd,Fun K x q st f fd∧pN K C x f∧L2.Binds K fd ps []:=by
 obtain⟨n,b,oc,od,an,sl,kV,dc,pm,cd,ct,l,c,k⟩:=a;have F:=fun_mk (st:=st) l c k;exact⟨_,F,⟨n,b,k⟩,F.binds hb⟩
theorem all_mk {l:PySem.W.OpenLaw}(X:K.In h)(G:h.Ns bH mg)(hfa:mg "law" =some (.ref fa))(Fc:Facts K w)
  : ∃fd:aT,(∀(s:ar) (v:af),BindsTo s fd ⟨[v],[]⟩ [("_law_script",v)])∧∀base:bM,K.In base→base.Ns bH mg→‹_› 11 fa fd pzk (spLaw K):=by
 apply Fc _ ?_;intro f1 a1 f2 a2 f3 a3 f4 a4 f5 a5 f6 a6 f7 a7 f8 a8 f9 a9 f10 a10 f11 a11 f12 a12 f13 a13 f14 a14 f15 a15 f16 a16 f17 a17 f18 a18 f19 a19 f20 a20 f21 a21 f22 a22 f23 a23 f24 a24 f25 a25 f26 a26 f27 a27 f28 a28 f29 a29 f30 a30 f31 a31 f32 a32 f33 a33 f34 a34 f35 a35 f36 a36 f37 a37 f38 a38 f39 a39 f40 a40 f41 a41 t1 t2 t3 t4 t5 t6 t7 xL xP xF q1 q2 q3 q4 q5 jy1 jy2 jy3 jy4 jy5 jy6 jz1 jz2 jz3 jz4 jz5 jz6 jz7 jz8 jz9 jza ka kb kc kd ua1 ub1 ua2 ub2 ua3 ub3 ua4 ub4 uc ud ue nF nn1 nn2 nn3 nn4 nn5 x1 xc xi rN rnm rq rbs rsub rsn rab rcol rdd odI anI rk0 rk1 rk2 rk3 rk5 slI ocI kVI dcI pmI cdI ctI y1 y2 y3 y4 y5 y6 y7 z1 z2 z3 z4 z5 z6 z7 z8 z9 z10 z11 z12 z13 z14 z15 w1 w2 w3 w4 w5 w6 w7 w8 w9 w10 w11 w12 w13 w14 w15 w16 w17 w18 w19 w20 w21 w22 w23 w24 w25 w26 w27 w28 w29 w30 w31 w32 w33 w34 w35 w36 w37 w38 w39 w40 w41 w42 w43 w44 w45 w46 w47 w48 w49 w50 w51 w52 w53 w54 w55 w56 w57 w58 w59 w60 w61 w62 w63 w64 w65 w66 w67 w68 w69 w70 w71;have e:=hfa.symm.trans (dZ X G a41.n);cases e;erw[G1,a1,[]];erw[G2,a2,["thing"]];erw[G3,a3,pzj];erw[G4,a4,pzc];erw[G5,a5,pzc];erw[G6,a6,pzo];erw[G7,a7,pzp];erw[G8,a8,pzh];erw[G9,a9,pzc];erw[G10,a10,["row"]];erw[G11,a11,["words"]];erw[G12,a12,["row"]];erw[G13,a13,pzd];erw[G14,a14,pzl];erw[G15,a15,pzf];erw[G16,a16,pzf];erw[G17,a17,["rows"]];erw[G18,a18,pzd];erw[G19,a19,pzE];erw[G20,a20,pzm];erw[G21,a21,pzd];erw[G22,a22,pzg];erw[G23,a23,pzw];erw[G24,a24,pzg];erw[G25,a25,pze];erw[G26,a26,pzy];erw[G27,a27,pzz];erw[G28,a28,pzA];erw[G29,a29,pzs];erw[G30,a30,pzn];erw[G31,a31,pzx];erw[G32,a32,pzB];erw[G33,a33,pzD];erw[G34,a34,pzC];erw[G35,a35,pzt];erw[G36,a36,pzk];erw[G37,a37,pzH];erw[G38,a38,pzF];erw[G39,a39,pzG];erw[G40,a40,pzu];obtain⟨_,oc,od,an,sl,kV,dc,pm,cd,ct,l41,c41,k41⟩:=a41;have F41:=fun_mk (st:=sLaw) l41 c41 k41;have m1:=cU X G z1;have m2:=cU X G z2;have m3:=cU X G z3;have m4:=cU X G z4;have m5:=cU X G z5;have m6:=cU X G z6;have m7:=cU X G z7;have m8:=cU X G z8;have m9:=cU X G z9;have m10:=cU X G z10;have m11:=cU X G z11;have m12:=cU X G z12;have m13:=cU X G z13;have m14:=cU X G z14;have m15:=cU X G z15;have i1:=dZ X G y1;have i2:=dZ X G y2;have i3:=dZ X G y3;have i4:=dZ X G y4;have i5:=dZ X G y5;have i6:=dZ X G y6;have i7:=dZ X G y7;apply⟨gn "law" "law" (lO sLaw) (kM sLaw) (defScope sLaw) .none kV dc pm an cd ct,λs v=> .of_eq rfl,λbase _ _=>?_⟩;have T:Nm mg:=⟨m1,m2,m3,m4,m5,m6,m7⟩;have T2:Nt mg:=⟨m8,m9,m10,m11,m12,m13⟩;have C:Cs mg:=⟨⟨_,i1⟩,⟨_,i2⟩,⟨_,i3⟩⟩;have C2:Cs2 mg:=⟨⟨_,i4⟩,⟨_,i5⟩,⟨_,i6⟩,⟨_,i7⟩⟩;have N2:Nm2 mg:=⟨m15,m12⟩;obtain⟨_,Fjy1,mjy1,bjy1⟩:=w13.fn (ps:=pzq);obtain⟨_,Fjy2,mjy2,bjy2⟩:=w14.fn (ps:=pzi);obtain⟨_,Fjy3,mjy3,bjy3⟩:=w15.fn (ps:=pzi);obtain⟨_,Fjy4,mjy4,bjy4⟩:=w16.fn (ps:=pzv);obtain⟨_,Fjy5,mjy5,bjy5⟩:=w17.fn (ps:=pzb);obtain⟨_,Fjy6,mjy6,bjy6⟩:=w18.fn (ps:=pzb);obtain⟨_,Fjz1,mjz1,bjz1⟩:=w29.fn (ps:=pzr);obtain⟨_,Fjz2,mjz2,bjz2⟩:=w30.fn (ps:=pzb);obtain⟨_,Fjz3,mjz3,bjz3⟩:=w31.fn (ps:=pzb);obtain⟨_,Fjz4,mjz4,bjz4⟩:=w32.fn (ps:=pzb);obtain⟨_,Fjz5,mjz5,bjz5⟩:=w33.fn (ps:=pzb);obtain⟨_,Fjz6,mjz6,bjz6⟩:=w34.fn (ps:=pza);obtain⟨_,Fjz7,mjz7,bjz7⟩:=w35.fn (ps:=pza);obtain⟨_,Fjz8,mjz8,bjz8⟩:=w36.fn (ps:=pza);obtain⟨_,Fjz9,mjz9,bjz9⟩:=w37.fn (ps:=pza);obtain⟨_,Fjza,mjza,bjza⟩:=w38.fn (ps:=pza);have LC:LinC K xL:=⟨⟨w2,w3,w4,w5⟩,w6,w7,w8,w9,w10⟩;have PC:PlaC K xP:=⟨⟨w20,w21,w22,w23⟩,w24,w25,w26⟩;have FW:‹_› 2 f5 _ pzc qv:=ok_readW G5.F T C2 G4;have FN:‹_› 1 f9 _ pzc spNam:=ok_nam G9.F T C2;have M:Fms l.prog w K mg:=fms_mk (dZ X G w39) w40 w41 w42 w43 w44 w45;have FL:‹_› 3 f11 _ ["words"] spLineR:=ok_lineR G11.F T G9 FN G5 FW;have FR:‹_› 5 f13 _ pzd spPlanR:=ok_planR G13.F T N2 G10 (ok_beatR G10.F T G5 FW) G12 (ok_rowR G12.F T M G9 FN G5 FW G11 FL);have LK:LinK l.prog w K mg base xL jy2 jy3 jy4 _ _ _:=⟨LC,mjy2,ok_comL Fjy2 LC,bjy2,mjy3,ok_goL Fjy3 LC,bjy3,mjy4,ok_rideL Fjy4 m10 LC,bjy4⟩;have U:Unt K mg:=unt_mk (dZ X G w46) w47;have LQ:LinQ l.prog w K mg base xL jy5 jy6 _ _:=⟨mjy5,ok_ownL Fjy5 m10 U LK,bjy5,mjy6,ok_labL Fjy6 m10 LC,bjy6⟩;have FA:‹_› 3 jz3 _ pzb (spAllS xP xL):=ok_allS Fjz3 PC LC LQ;have FH:‹_› 1 jz2 _ pzb (spHap xP xL):=ok_hap Fjz2 T T2 PC LC;have PK:PlaK l.prog w K mg base xP xL jz2 jz5 _ _:=⟨PC,mjz2,FH,bjz2,mjz5,ok_small Fjz5 T C PC mjz2 FH bjz2 mjz3 FA bjz3,bjz5⟩;have LM:LinM l.prog w K mg base xL jy1 _:=⟨⟨w11,mjy1.at_,mjy1.fn,w12⟩,dZ X G w1,ok_initL Fjy1 LC,bjy1⟩;have FS:‹_› 4 f8 _ pzh rj:=ok_span G8.F T C G1 G2 G3 G6 G7;have FB:‹_› 3 jz7 _ pza (spBtw xP xL):=ok_btw Fjz7 PC G14 (ok_change G14.F LK) G15 (ok_apart G15.F LK) G16 (ok_meet G16.F LK);have FT:‹_› 6 jz9 _ pza (spTakeP xP xL):=ok_takeP Fjz9 PC mjz6 (ok_takeL Fjz6 T m14 PK LM) bjz6 mjz8 (ok_takeB Fjz8 PK mjz7 FB bjz7 G8 FS) bjz8 mjza (ok_takeS Fjza PK LK G8 FS) bjza;have PT:PlaT l.prog w K mg base xP xL jz1 jz9 jz3 jz4 _ _ _ _:=⟨⟨w27,mjz1.at_,mjz1.fn,w28⟩,dZ X G w19,ok_initP Fjz1 PC,bjz1,mjz9,FT,bjz9,mjz3,FA,bjz3,mjz4,ok_allL Fjz4 PC LC LQ,bjz4⟩;have FI:=fun_mk (st:=sInitNP) w54 w55 w56;have BI:=FI.binds (ps:=pza) λ_ _ _ _ _ _=>args2 λ_ _=>rfl
 have NP:NPc K mg xc x1 xi:=⟨⟨⟨_,_,_,_,_,_,_,_,_,_,_,_,_,_,w50⟩,w71,w49,w51,w52,w53⟩,⟨w57,w58,w59⟩,⟨w60,w61,w62,w63,w64,w65,w66,w67⟩,w68,dZ X G w48,dZ X G w70⟩;have IG:=ok_initNP (P:=l.prog) (w:=w) (base:=base) FI NP;have FHN:‹_› 1 jz2 _ pzb (spHapN xP xL):=ok_hapN Fjz2 T T2 PC LC;have FTL:‹_› 5 jz6 _ pza (qt xP xL):=ok_takeL Fjz6 T m14 PK LM;have FTB:‹_› 5 jz8 _ pza (qu xP xL):=ok_takeB Fjz8 PK mjz7 FB bjz7 G8 FS;have FTS:‹_› 5 jza _ pza (qr xP xL):=ok_takeS Fjza PK LK G8 FS;have FBN:‹_› 3 jz7 _ pza (spBtwN xP xL):=ok_btwN Fjz7 PC G14 (ok_changeN G14.F LK) G15 (ok_apartN G15.F LK) G16 (ok_meetN G16.F LK);have FTN:‹_› 6 jz9 _ pza (spTakeN xP xL):=ok_takeN Fjz9 PC mjz6 FTL bjz6 mjz8 (FTB.or (ok_takeBN Fjz8 PK FHN mjz7 FBN bjz7 G8 FS)) bjz8 mjza (FTS.or (ok_takeSN Fjza PK FHN LK G8 FS)) bjza;have PN:PlaN l.prog w K mg base xP xL jz9 _:=⟨(FT.or FTN).or (ok_takeZ (CL:=xL) Fjz9 PC mjz6 FTL bjz6 mjz8 FTB bjz8 mjza FTS bjza)⟩;have NX:c9 l.prog w K mg base (CXN l.prog w) 8 f18 _ pzd (nG xc):=ok_netByX G18.F T PK PT G13 FR G17 (ok_planByX G17.F T m9 PC PT PN NP IG BI);have PO:‹_› 2 f24 _ pzg (spPotT K):=ok_potT G24.F T T2 G22 G23;have EN:‹_› 1 f29 _ pzs spEndW:=ok_endW G29.F T m2;have RI:‹_› 1 f30 _ pzn spRidW:=ok_ridW G30.F T T2;have MO:‹_› 3 f35 _ pzt spMor:=ok_mor G35.F T T2 G25 G34 (ok_inn G34.F T T2) G32 (ok_spw G32.F T G25) G33 (ok_prs G33.F T T2 m2 G29 EN G30 RI) G30 RI;have PL:‹_› 4 f36 _ pzk (spPln K):=ok_pln G36.F T T2 m2 G25 G24 PO G26 (ok_nms G26.F T T2 G25) G28 (ok_lns G28.F T T2 G25 G24 PO G27 (ok_lr G27.F T T2 G25)) G35 MO;have HX:c9 l.prog w K mg base (CXN l.prog w) 9 f20 _ pzm (spHofX xc):=ok_hofX G20.F G18 NX G19 (ok_hby G19.F T m10 m15);have RT:‹_› 10 f40 _ pzu spRwt:=ok_rwt G40.F T NP ⟨dZ X G w70,w71⟩ ⟨w69⟩ G18 NX G20 HX G21 (ok_ttX G21.F G18 NX);exact ok_law F41 T T2 G36 PL G24 PO G25 G39 (ok_bnt G39.F T G25 G38 (ok_otw G38.F T T2 N2 G25)) G31 (ok_txt G31.F m15) G40 RT G18 NX G20 HX G37 (ok_how G37.F T T2 m15)
theorem walk {l:PySem.W.OpenLaw}{q:aK}{XP:(Str→Option af)→bM→Prop}{d:DefRec}{K:Params→ak}(hn:l.most=some 63)(hdf:d.params.defaults=[])
  (hY:∀(w:bg) (h:bM),YP w h→(K w.params).In h)
  (F:∀ (w:bg) (mg:Str→Option af) (fa:aq) (h:bM),(K w.params).In h→h.Ns bH mg→mg d.name=some (.ref fa) →
   ∃ fd:aT,(∀ (s:ar) (u:af),BindsTo s fd ⟨[u],[]⟩ [("_law_script",u)])∧∀ base:bM,(K w.params).In base→base.Ns bH mg→c9 l.prog w (K w.params) mg base CX0 11 fa fd pzk (spLaw (K w.params))) :
  PySem.W.WalkO q loose XP YP l.row.toRowW d [] (λf vs=>PySem.call f vs) :=
 L2.walk_of (n:=63) (k:=11) (x := "_law_script") (CX:=λ_=>CX0) (sp:=λw=>spLaw (K w.params)) hn ↥0 hdf ⟨rfl,↥0,↥0⟩ hY F (λ_ _ a ns hl _ hS=>⟨a,ns,rfl,hS,hl,λ_=>rfl⟩) λ_ _ _ _ _ z=>z
end HN
set_option maxHeartbeats 0 in
theorem PySem.Challenge.cw_hourtable_k87_hours_refused_holds : PySem.Challenge.rw_hourtable_k87_hours_refused.Holds := by
 apply HN.head0.2 ?_ HN.leftA (PySem.W.byRow2 "special-get-raises" HN.scf HN.sct);intro q loose XP YP d K hdf hd h0 Fc;exact HN.walk (l:=iD) rfl hdf h0 fun w mg fa h KX G hmg=>HN.all_mk KX G (by rw [hd] at hmg;exact hmg) (Fc w)
