import PyProof.Rows.All
import KE.KBools
import KE.KxBytes
import KE.RegKIsAll
import KE.KIntText
import KE.KEqSeq
import KE.KDictList
import KE.RegKIsAll
import Wide.FinOn
import KE.KLam
import KE.KNestM
import PySem.Challenge.RW_hourtable_k82_whole_rows_that_may_not_be
set_option compiler.extract_closed false
set_option Elab.async false
set_option linter.all false
set_option maxRecDepth 100000
set_option maxHeartbeats 0
set_option bootstrap.genMatcherCode false
open List renaming length_map → ae,getElem?_eq_some_iff → aj,length_append → ao,map_append → av,getElem?_map → ay,mem_cons → az,mem_singleton → aB,mem_of_getElem? → aD,size_toArray → aE,length_cons → aG,length_take → aJ,mem_map → aK,mem_cons_of_mem → aO,take_add_one → aQ,getElem?_append_right → aR,getElem?_cons_succ → aT,mem_append → aX,not_mem_nil → bg,map_cons → bo,getD_eq_getElem?_getD → br,mem_append_right → bz,length_drop → bE,take_length → bG,getElem?_append_left → bI,mem_cons_self → bJ,take_of_length_le → bR,nodup_cons → bV,append_nil → bY,mem_map_of_mem → b8,map_map → b9,mem_append_left → cq,getElem_mem → cu,getElem?_take_of_lt → cF,append_assoc → cG,range → cI,getElem?_of_mem → cP,getElem?_drop → cY,map_congr_left → dm,lookup → eT,take_append_drop → eW,getElem?_eq_none → eX,filterMap_append → eZ,sum_cons → fe,lookup_cons → fz,map_drop → fZ,pairwise_iff_getElem → gC,take_left' → gP,length_nil → gQ,filterMap_cons → gT,length → g9,mem_filterMap → ia,length_set → iw,mem_of_mem_take → iA,getElem_toArray → iB,take_append_of_le_length → iU,sum_append → jb,map_take → jg,any_cons → jh,all_eq_true → jF,find?_cons → jX,length_eq_zero_iff → j4,length_range → j9,getElem?_set_self → ke,foldl_append → kh,filterMap → kj,flatMap_append → lK,filter_append → l6,drop_eq_getElem_cons → my
open PySem renaming Value → af, wpAny_bind → ai, Addr → aq, Shared → au, sizeLine → ax, wpAny_pure → aI, Program → aN, boot_len → aS, FuncData → aY, wpAny → bc, World → bq, starEach → bB, model → bC, mainGlobals → bH, Heap → bP, Around → cp, Str → cH, wpAny_field → cJ, Stmt → cN, wpAny_mono → cW, Spec → cX, eval → dn, compareOp → dA, NameKind → dH, Builtin → eN, wpAny_callSpecial?_slot → eP, wpAny_setField_rec → eQ, wpAny_truthy_bool → fq, importedModules → fH, mem_of_lookup → gj, wpAny_holding → gx, wpAny_newObj_type → gz, backTo → gH, attributeBase → gN, wpAny_pyIter_list → gX, sysModules → gY, wpAny_call_entry → ik, wpAny_Call_Name_kw → iu, wpAny_loadPart_at → iI, binaryOp → iZ, wpAny_loadPart' → jr, foldedSetIterable → jE, wpAny_seqItems → jJ, sliceBounds → jK, codeAny_mono → jU, wpAny_call → ko, treeTable → kG, keywordEach → kH, wpAny_setField → kO, rawInt → kP, cLine → kU, swapsWith → lG, call_meets → lI, wpAny_attempt → lL, lookup_relabel_local → lW, codeAny_call_builtin → lX, wpAny_passesOwn → l7, letOwnedTupleGo → md, tupleKind_room_in1 → mJ, slot_list_getitem → ng, wpAny_getItem_list_slice → nH
open PySem.W renaming Frag → ak,nsIn → bZ,findIn → cf,mg_none_of → cK,mg_of → cT,keepIn → dW,kitOne → eM,kia_one → eV,fnOf → fU,emptyDict → fV,instObj → ij,openEnds → iL,hasDictIn → ja,codeIn → jk,plainGet → jw,mroIn → kJ,openSeen → kS,callWith_K → lJ,fencedOpening → lQ
open PySem.Heap renaming get?_push_of_some → ar,get?_push_size → aU,lt_size → aV,SameBut → cQ,size_push → dv,get?_update_other → gk,get?_update_self → gF
open Nat renaming le_refl → aA,lt_of_lt_of_le → ck,ne_of_lt → cz,le_trans → cB,zero_le → cR,min_eq_left → du,sub_self → fu,lt_of_le_of_ne → gI,lt_irrefl → hV,le_succ → iF,lt_succ_iff_lt_or_eq → iH,ne_of_gt → i8,lt_of_le_of_lt → i9,add_le_add_left → jN,not_lt_zero → jY
open Option renaming map_eq_some_iff → bp,map_some → k6,toList_none → lR,isSome_iff_exists → mx
open PySem.F renaming plainAttrs_list → bu,type_list_append → bM,slot_list_append → bN,plainAttrs_str → fW,slot_dict_get → hI,slot_tuple_iterator_next → jG,entry_dict_get → jZ,slot_enumerate_next → k7,args_tuple_add_2 → mn,plainAttrs_dict → mG,entry_tuple_add → mH
open Option.some renaming inj → bF
open Bool renaming false_ne_true → bQ,and_eq_true → bW,eq_false_iff → gn,false_and → km,true_and → kZ,eq_iff_iff → lF
open PySem.Str renaming ofString → bU,empty → gr,join → gW
open PySem.PassesOwn renaming never → bX
open Ne renaming symm → cM
open PySem.Builtin.Str renaming occurrences → cO,partsBetween → ig
open Int renaming eq_ofNat_of_zero_le → cU,toNat_natCast → gq,le_refl → j6
open PySem.Builtin.SmallTypes renaming nextOf → c7,ownedTupleIsFree → gG,ownedTupleHandOut → iS
open PySem.Txt renaming split → c8,join → jB
open PySem.W.Fast renaming te14364793385576792824 → c9,te14289696077712309145 → de,te14082659384304107361 → dj,te10274390034422433532 → dk,te1435165496053646825 → dq,te4187177175401517315 → gO
open PyProof.Rows renaming callWith_type1 → dY,slot_tuple_getitem → eh,boot_isinstance → jv,boot_tuple → jL
open False renaming elim → eF
open PySem.PyData renaming keyHash → eU
open PySem.Challenge renaming rw_hourtable_k82_whole_rows_that_may_not_be → fK
open Array renaming getElem?_eq_some_iff → gb,length_toList → gS,getElem?_toList → kK
open PySem.StrLaws renaming glued_eq_join → gu
open Lean renaming maxHeartbeats → gy
open PySem.Obj renaming data_mapFields → ie,mapFields → iG,isFreed_of_fields → kM
open Pure renaming pure → iJ
open PySem.Calls renaming callWith_builtin → iV,evalArgs_plain → kW,spliced_cons → lY
open PySem.Builtin.Slice renaming slicePlaces → jd,sliceAdjust → kX
open PySem.Builtin.Tuple renaming tupleExact → jo
open PySem.Builtin.Range renaming rangeSize → jz
open PySem.Builtin.List renaming listTooLong → lE
open Classical renaming propDecidable → mr
open PyProof.Rows.F renaming plain_set_update_loop → nK
noncomputable section
abbrev rK:=@if_neg
abbrev rL:=@if_pos
abbrev rM:=@absurd
abbrev rO:=@decide_eq_true
abbrev rP:=@decide_eq_false
abbrev rQ:=@of_decide_eq_true
abbrev rR:=@congrArg
theorem gE {α:Type}{l:List α}{i:Nat}(h:i<l.length):l[i]? =some l[i]:=List.getElem?_eq_getElem h
variable {A:cp}{B base h':bP}{C CL CP D L LB a dx f f0 f1 f2 fT fa fh it p q:aq}{E Q W:af→au→Prop}{G:Array PySem.GenState→Array PySem.GenState→Prop}{K:ak}{M:PySem.Model}{N fr loose nn ns ps ss:List PySem.Str}{P prog:aN}{R:PySem.Result→au→Prop}{T newId:String}{XE:List (PySem.Str×aq)→aq→af→au→Prop}{YP:bq→bP→Prop}{aL pins':List (aq×PySem.Obj)}{apos cpos p2 pos pos':PySem.Pos}{as ch ex fp:List aq}{b lo:Int}{bmB its old sub us vs:List af}{body sts:List cN}{cd u was:af}{col:Option Bool}{d dct dd od:Option aq}{d':PySem.Drawn}{d1 d2 dT dc dg dh dr fd fd1 fd2:aY}{e ea elt iter tg value:PySem.Expr}{env:PySem.Env}{es ifs:List PySem.Expr}{g':Array PySem.GenState}{hdct:Bool}{hi:Option Int}{i j k m n t':Nat}{is:List Int}{items:Array af}{js:List Nat}{kw:List (PySem.Str×af)}{mA mg:PySem.Str→Option af}{n1 n2 name qual x z:PySem.Str}{op:PySem.CmpOp}{osl sl:Array (Option af)}{outer:List PySem.Env}{ox:PySem.Obj}{s s':au}{sc scope:PySem.Scope}{st:cN}{tk:PySem.Tok}{w:bq}{α:Type}
namespace L2
open PySem PySem.Spec PyProof.Rows
def lq (s:cN):Arguments:=match s with
 | .FunctionDef _ a _ _ _ _ _ _ _ _=>a
 | _=>{ posonlyargs:=[],args:=[],vararg:=none,kwonlyargs:=[],kw_defaults:=[],kwarg:=none,defaults:=[] }
def j8 (s:cN):List cN:=match s with
 | .FunctionDef _ _ b _ _ _ _ _ _ _=>b
 | _=>[]
def defScope (s:cN):Scope:=match s with
 | .FunctionDef _ _ _ _ _ _ sc _ _ _=>sc
 | _=>{ kind:=.function,names:=[],isGenerator:=false,isCoroutine:=false }
abbrev bmVE:List af:=[.type "ValueError",.type "Exception",.type "BaseException",.type "object"]
end L2
namespace HN
open PySem L2 PyProof.Rows
def top (i:Nat):cN:=PySem.Challenge.pw_hourtable_k82_whole_rows_that_may_not_be.main.body.getD i (.Pass ⟨0,0,0,0⟩)
def clsOf (s:cN)(i:Nat):cN:=match s with
 | .ClassDef _ _ _ body _ _ _ _ _ _ _=>body.getD i (.Pass ⟨0,0,0,0⟩)
 | s=>s
def clsDef (s:cN)(i:Nat):cN:=match s with
 | .ClassDef _ _ _ body _ _ _ _ _ _ _=>body.getD i (.Pass ⟨0,0,0,0⟩)
 | s=>s
structure Df (K:ak)(x:Str)(st:cN)(f:aq):Prop where
 n:bZ K bH x=some (some (.ref f))
 l:∃ (oc:af) (od an:Option aq) (sl:Array (Option af)) (kV dc pm cd ct:af),K.lookup f=some ⟨oc,od,.func (fU x x (lq st) (j8 st) (defScope st) .none kV dc pm an cd ct),sl⟩∧jk K cd x=true∧dW K (.ref f)=true
structure Mf (K:ak)(C:aq)(x q:Str)(st:cN)(f:aq):Prop where
 a:cf K (.ref C) x=some (some (.ref f))
 b:PySem.W.isFn K (.ref f)=true
 l:∃ (oc:af) (od an:Option aq) (sl:Array (Option af)) (kV dc pm cd ct:af),K.lookup f=some ⟨oc,od,.func (fU x q (lq st) (j8 st) (defScope st) .none kV dc pm an cd ct),sl⟩∧jk K cd q=true∧dW K (.ref f)=true
def adr (K:ak)(x:Str):aq:=match bZ K bH x with | some (some (.ref f))=>f | _=>0
def reb (x:Str)(st:cN):Option Obj→Option Obj | some ⟨oc,od,.func d,sl⟩=>some ⟨oc,od,.func (fU x x (lq st) (j8 st) (defScope st) .none d.kwdefaults d.doc d.pyModule d.annotations d.code d.closureTuple),sl⟩ | _=>none
def cdO:Option Obj→af | some ⟨_,_,.func d,_⟩=>d.code | _=>.none
def isO:Option Obj→Bool | some ⟨_,_,.func _,_⟩=>true | _=>false
def dfL (K:ak)(e:Str×cN):Option (Option af)×Bool×Option Obj×Bool×Bool:=(bZ K bH e.1,isO (K.lookup (adr K e.1)),K.lookup (adr K e.1),jk K (cdO (K.lookup (adr K e.1))) e.1,dW K (.ref (adr K e.1)))
def dfR (K:ak)(e:Str×cN):Option (Option af)×Bool×Option Obj×Bool×Bool:=(some (some (.ref (adr K e.1))),true,reb e.1 e.2 (K.lookup (adr K e.1)),true,true)
theorem df_of (h:dfL K (x,st)=dfR K (x,st)):Df K x st (adr K x):=by
 unfold dfL dfR at h;simp only[Prod.mk.injEq] at h;obtain ⟨h1,h2,h3,h4,h5⟩:=h;refine ⟨h1,?_⟩;revert h2 h3 h4;cases hk:K.lookup (adr K x) with
 | none=>intro h2;cases h2
 | some o =>
  obtain ⟨oc,od,d,sl⟩:=o;cases d <;> intro h2 h3 h4 <;> first | (cases h2;done) | exact ⟨oc,od,_,sl,_,_,_,_,_,h3,h4,h5⟩
def Fcx (K:ak):List (Str×cN)→(List aq→Prop)→Prop
 | [],C=>C []
 | (x,st)::r,C=>∀ f:aq,Df K x st f→Fcx K r fun l=>C (f::l)
theorem fcx_of {K:ak}:∀ {L:List (Str×cN)} {C:List aq→Prop},L.map (dfL K)=L.map (dfR K)→Fcx K L C→C (L.map fun e=>adr K e.1)
 | [],_,_,k=>k
 | (x,st)::r,C,h,k=>by
  rw[bo,bo] at h;injection h with h1 h2
  exact fcx_of (L:=r) (C:=fun l=>C (adr K x::l)) h2 (k _ (df_of h1))
def Facts (K:ak)(w:bq):Prop:=∀ C:Prop,Fcx K (("greatest_whole",top 8)::("is_whole",top 9)::("is_within",top 10)::("is_numeral",top 11)::("read_whole",top 12)::("are_ends",top 17)::("are_lengths",top 18)::("is_span",top 19)::("read_name",top 25)::("read_beat",top 26)::("read_line",top 27)::("read_row",top 28)::("read_plan",top 29)::("change_span",top 31)::("apart_span",top 32)::("meet_span",top 33)::("plan_by",top 35)::("net_by",top 36)::("_law_cell_at",top 38)::("_law_mixed",top 39)::("_law_pot",top 40)::("_law_take",top 41)::("_law_names",top 42)::("_law_line_row",top 43)::("_law_lines",top 44)::("_law_ends",top 45)::("_law_ride",top 46)::("_law_text",top 49)::("_law_span_words",top 50)::("_law_pairs",top 51)::("_law_inner",top 52)::("_law_more_row",top 53)::("_law_plan",top 54)::("_law_two",top 47)::("_law_net_of",top 48)::("_law_span_right",top 55)::("_law_counts_right",top 56)::("_law_right_row",top 57)::("_law_first_wrong",top 58)::("_law_told",top 59)::("_law_other_word",top 60)::("_law_bent",top 61)::("law",top 62)::[]) (fun l=>∀ {t1 t2 t3 t4 t5 t6 t7:Tok} {xL xP xF q1 q2 q3 q4 q5 jy1 jy2 jy3 jy4 jy5 jy6 jz1 jz2 jz3 jz4 jz5 jz6 jz7 jz8 jz9 jza:aq} {ka kb kc kd ua1 ub1 ua2 ub2 ua3 ub3 ua4 ub4 uc ud ue:Tok} {nF nn1 nn2 nn3 nn4 nn5:Nat} {x1 xc xi rN:aq} {rnm rq:Str} {rbs rsub:List af} {rsn:List Str} {rab:Bool} {rcol:Option Bool} {rdd odI anI:Option aq} {rk0 rk1 rk2 rk3 rk5:Option af} {slI:Array (Option af)} {ocI kVI dcI pmI cdI ctI:af} {xa xb:aq},(bZ K bH "MOST_HAPPENINGS" =some (some (.int 16 t1))) →
 (bZ K bH "MOST_SPANS" =some (some (.int 40 t2))) →
 (bZ K bH "MOST_WEIGHT" =some (some (.int 1000000000000 t3))) →
 (bZ K bH "LETTERS" =some (some (.str "abcdefghijklmnopqrstuvwxyz" t4))) →
 (bZ K bH "MOST_LETTERS" =some (some (.int 8 t5))) →
 (bZ K bH "FIGURES" =some (some (.str "0123456789" t6))) →
 (bZ K bH "MOST_FIGURES" =some (some (.int 60 t7))) →
 (bZ K bH "isinstance" =some none) →
 (bZ K bH "int" =some none) →
 (bZ K bH "bool" =some none) →
 (bZ K bH "tuple" =some none) →
 (bZ K bH "len" =some none) →
 (bZ K bH "min" =some none) →
 (bZ K bH "all" =some none) →
 (bZ K bH "range" =some none) →
 (bZ K bH "enumerate" =some none) →
 (bZ K bH "zip" =some none) →
 (bZ K bH "sum" =some none) →
 (bZ K bH "list" =some none) →
 (bZ K bH "max" =some none) →
 (bZ K bH "set" =some none) →
 (bZ K bH "str" =some none) →
 (bZ K bH "Line" =some (some (.ref xL))) →
 (jw K xL gr=true) →
 (ja K xL=true) →
 (PySem.W.plainOver K xL=true) →
 (cf K (.ref xL) "__setattr__" =some (some (.builtin "object.__setattr__"))) →
 (cf K (.ref xL) "name" =some none) →
 (cf K (.ref xL) "stops" =some none) →
 (cf K (.ref xL) "runs" =some none) →
 (cf K (.ref xL) "stays" =some none) →
 (cf K (.ref xL) "first" =some none) →
 (PySem.W.makesIn K xL=true) →
 (dW K (.ref xL)=true) →
 (Mf K xL "__init__" "Line.__init__" (clsOf (top 30) 0) jy1) →
 (Mf K xL "coming" "Line.coming" (clsOf (top 30) 1) jy2) →
 (Mf K xL "going" "Line.going" (clsOf (top 30) 2) jy3) →
 (Mf K xL "ride" "Line.ride" (clsOf (top 30) 3) jy4) →
 (Mf K xL "own_spans" "Line.own_spans" (clsOf (top 30) 4) jy5) →
 (Mf K xL "own_labels" "Line.own_labels" (clsOf (top 30) 5) jy6) →
 (bZ K bH "Plan" =some (some (.ref xP))) →
 (jw K xP gr=true) →
 (ja K xP=true) →
 (PySem.W.plainOver K xP=true) →
 (cf K (.ref xP) "__setattr__" =some (some (.builtin "object.__setattr__"))) →
 (cf K (.ref xP) "beat" =some none) →
 (cf K (.ref xP) "lines" =some none) →
 (cf K (.ref xP) "between" =some none) →
 (PySem.W.makesIn K xP=true) →
 (dW K (.ref xP)=true) →
 (Mf K xP "__init__" "Plan.__init__" (clsOf (top 34) 0) jz1) →
 (Mf K xP "happenings" "Plan.happenings" (clsOf (top 34) 1) jz2) →
 (Mf K xP "all_spans" "Plan.all_spans" (clsOf (top 34) 2) jz3) →
 (Mf K xP "all_labels" "Plan.all_labels" (clsOf (top 34) 3) jz4) →
 (Mf K xP "is_small" "Plan.is_small" (clsOf (top 34) 4) jz5) →
 (Mf K xP "take_line" "Plan.take_line" (clsOf (top 34) 5) jz6) →
 (Mf K xP "span_between" "Plan.span_between" (clsOf (top 34) 7) jz7) →
 (Mf K xP "take_between" "Plan.take_between" (clsOf (top 34) 8) jz8) →
 (Mf K xP "take" "Plan.take" (clsOf (top 34) 9) jz9) →
 (Mf K xP "take_stay" "Plan.take_stay" (clsOf (top 34) 6) jza) →
 (bZ K bH "FORMS" =some (some (.ref xF))) →
 ((xF == gY)=false) →
 (K.lookup xF=some ⟨.type "dict",none,.dict #[⟨eU w.params "stay",.str "stay" ka,.ref q1⟩,⟨eU w.params "change",.str "change" kb,.ref q2⟩,⟨eU w.params "apart",.str "apart" kc,.ref q3⟩,⟨eU w.params "meet",.str "meet" kd,.ref q4⟩] nF,#[]⟩) →
 (K.lookup q1=some ⟨.type "tuple",none,.seq #[.int 2 ua1,.int 3 ub1] nn1,#[]⟩) →
 (K.lookup q2=some ⟨.type "tuple",none,.seq #[.int 3 ua2,.int 3 ub2] nn2,#[]⟩) →
 (K.lookup q3=some ⟨.type "tuple",none,.seq #[.int 3 ua3,.int 1 ub3] nn3,#[]⟩) →
 (K.lookup q4=some ⟨.type "tuple",none,.seq #[.int 4 ua4,.int 1 ub4] nn4,#[]⟩) →
 (bZ K bH "STAY_UNTOLD" =some (some (.ref q5))) →
 (K.lookup q5=some ⟨.type "tuple",none,.seq #[.int 0 uc,.int 0 ud,.int 0 ue] nn5,#[]⟩) →
 (bZ K bH "NoPlan" =some (some (.ref xc))) →
 (cf K (.ref xc) "__init__" =some (some (.ref xi))) →
 (K.lookup xc=some (PySem.excClassObj rnm rq xc rN rbs (.ref x1::bmVE) true rsn rsub rab rcol rdd rk0 rk1 rk2 rk3 rk5 "ValueError.__new__")) →
 (PySem.W.isFn K (.ref xi)=true) →
 (dW K (.ref xc)=true) →
 (cf K (.ref xc) "__setattr__" =some (some (.builtin "object.__setattr__"))) →
 (K.lookup xi=some ⟨ocI,odI,.func (fU "__init__" "NoPlan.__init__" (lq (clsDef (top 4) 0)) (j8 (clsDef (top 4) 0)) (defScope (clsDef (top 4) 0)) .none kVI dcI pmI anI cdI ctI),slI⟩) →
 (jk K cdI "NoPlan.__init__" =true) →
 (dW K (.ref xi)=true) →
 (PySem.W.specialIn K (.ref x1) "__getattribute__" =some (some (.builtin "type.__getattribute__"))) →
 (PySem.W.readsIn K x1 (.type "type")=true) →
 (PySem.W.findCls K (.ref x1) (.type "type") "__init__" =some (.val (.builtin "ValueError.__init__"))) →
 (cf K (.ref xc) "__getattribute__" =some (some (.builtin "BaseException.__getattribute__"))) →
 (cf K (.ref xc) "__getattr__" =some none) →
 (cf K (.ref xc) "__class__" =some (some (.builtin "object.__class__"))) →
 (PySem.W.specialIn K (.builtin "object.__class__") "__get__" =some (some (.builtin "getset_descriptor.__get__"))) →
 (PySem.W.takesIn K (.builtin "object.__class__")=some true) →
 (kJ K xc (.type "object")=some true) →
 (kJ K xc (.type "BaseException")=some true) →
 (ja K xc=true) →
 (cf K (.ref xc) "row" =some none) →
 (kJ K xc (.ref x1)=some true) →
 (bZ K bH "HourError" =some (some (.ref x1))) →
 (PySem.W.excIn K x1 [.type "ValueError",.type "Exception",.type "BaseException",.type "object"] "ValueError.__new__" =true) →
 (bZ K bH "NoText" =some (some (.ref xa))) →
 (bZ K bH "TooGreat" =some (some (.ref xb))) →
 (eM K (.ref xc) (.ref xa)=some false) →
 (eM K (.ref xc) (.ref xb)=some false)→C)→C
def Wp:Prop:=∀ {q:aN} {loose:List Str} {XP:(Str→Option af)→bP→Prop} {YP:bq→bP→Prop} {d:DefRec} {K:Params→ak},d.params.defaults=[]→d.name = "law" →(∀ (w:bq) (h:bP),YP w h→(K w.params).In h)→(∀ w:bq,Facts (K w.params) w)→PySem.W.WalkO q loose XP YP (fK).row.toRowW d [] (fun f vs=>PySem.call f vs)
end HN
section
open PySem PySem.W PyProof.Rows
def HN.seenOf:aN:={ PySem.Challenge.pw_hourtable_k82_whole_rows_that_may_not_be with main:={ PySem.Challenge.pw_hourtable_k82_whole_rows_that_may_not_be.main with body:=[1,2,3,4,6,7,8,9,10,11,12,14,15,16,17,18,19,21,22,23,24,25,26,27,28,29,30,31,32,33,34,35,36,38,39,40,41,42,43,44,45,46,47,48,49,50,51,52,53,54,55,56,57,58,59,60,61,62].map HN.top } }
def HN.isSeen (s:au):Bool:=xlAt HN.seenOf [] s && recOk (RowW.records (OpenRow.toRowW (OpenLaw.row fK))) s
local macro_rules
 |`(tactic|ac_rfl)=>`(tactic|exact ⟨by k_is,by k_is,_,_,_,_,_,_,_,_,_,by k_is,by k_is,by k_is⟩)
local macro_rules
 | `(tactic| o_head $H:term)=>`(tactic| (refine holds_open (q:=HN.seenOf) (loose:=[bU "FORMS"]) (XP:=XL HN.seenOf []) (Xt:=HN.isSeen) (Yf:=Hook.obs $H) (Ya:=Hook.val $H) (YP:=Hook.says $H) (N:=3375) ?_ (Hook.of $H) (Hook.keeps $H) (fun s e=>xl_of s (Bool.and_eq_true_iff.mp e).1) XL.keeps (by rfl) (by rfl) (by rfl) (fun s e=>recFacts_of (Bool.and_eq_true_iff.mp e).2) ?_ ?_ ?_ ?_ ?_ ?_))
theorem HN.left_two {σ β:Type}{e:Option σ}{f:σ→α}{g:σ→β}{a:α}{b:β}(h1:e.map f=some a)(h2:e.map g=some b):e.map (fun s=>(f s,g s))=some (a,b):=by
 cases e with
 | none=>cases h1
 | some s=>injection h1 with h1;injection h2 with h2;show some (f s,g s)=_;rw[h1,h2]
theorem HN.left_pr {σ β:Type}{e:Option σ}{f:σ→α×β}{a:α×β}(h1:e.map (fun s=>(f s).1)=some a.1)(h2:e.map (fun s=>(f s).2)=some a.2):e.map f=some a:=by
 cases e with
 | none=>cases h1
 | some s=>injection h1 with h1;injection h2 with h2;exact rR some (Prod.ext h1 h2)
def HN.head0:(P:bq→Prop) ×' (HN.Wp→(∀ w:bq,(iL kG fK.row.prog w 3375).map (kS HN.seenOf [bU "FORMS"] (fH fK.row.prog.main.body) HN.isSeen true)=some (openGood HN.seenOf [bU "FORMS"]))→(∀ w,P w)→fK.Holds):=by
 apply PSigma.mk
 intro W Lf Sc
 w_on;refine holds_law (by decide +kernel) fun said=>?_;k_head
 ·exact fun w=>HN.left_two (Lf w) (Sc w)
 ·rfl
 ·assumption
 ·decide +kernel
 ·exact ⟨rfl,rfl,rfl,rfl,rfl,by decide +kernel⟩
 ·w_witness2
 k_fill
 refine W rfl rfl (fun w h Y=>PySem.W.kIn_of Y) ?F
 case F =>
  intro w C k;refine' HN.fcx_of ?E k ?y1 ?y2 ?y3 ?y4 ?y5 ?y6 ?y7 ?z1 ?z2 ?z3 ?z4 ?z5 ?z6 ?z7 ?z8 ?z9 ?z10 ?z11 ?z12 ?z13 ?z14 ?z15 ?w1 ?w2 ?w3 ?w4 ?w5 ?w6 ?w7 ?w8 ?w9 ?w10 ?w11 ?w12 ?w13 ?w14 ?w15 ?w16 ?w17 ?w18 ?w19 ?w20 ?w21 ?w22 ?w23 ?w24 ?w25 ?w26 ?w27 ?w28 ?w29 ?w30 ?w31 ?w32 ?w33 ?w34 ?w35 ?w36 ?w37 ?w38 ?w39 ?w40 ?w41 ?w42 ?w43 ?w44 ?w45 ?w46 ?w47 ?w48 ?w49 ?w50 ?w51 ?w52 ?w53 ?w54 ?w55 ?w56 ?w57 ?w58 ?w59 ?w60 ?w61 ?w62 ?w63 ?w64 ?w65 ?w66 ?w67 ?w68 ?w69 ?w70 ?w71 ?w72 ?w73 ?w74 ?w75
  (case E=>kernel_rfl)
  (case y1=>k_is);(case y2=>k_is);(case y3=>k_is);(case y4=>k_is);(case y5=>k_is);(case y6=>k_is);(case y7=>k_is);(case z1=>k_is);(case z2=>k_is);(case z3=>k_is);(case z4=>k_is);(case z5=>k_is);(case z6=>k_is);(case z7=>k_is);(case z8=>k_is);(case z9=>k_is);(case z10=>k_is);(case z11=>k_is);(case z12=>k_is);(case z13=>k_is);(case z14=>k_is);(case z15=>k_is)
  (case w1=>k_is)
  (case w2=>k_is)
  (case w3=>k_is)
  (case w4=>k_is)
  (case w5=>k_is)
  (case w6=>k_is)
  (case w7=>k_is)
  (case w8=>k_is)
  (case w9=>k_is)
  (case w10=>k_is)
  (case w11=>k_is)
  (case w12=>k_is)
  (case w13=>ac_rfl)
  (case w14=>ac_rfl)
  (case w15=>ac_rfl)
  (case w16=>ac_rfl)
  (case w17=>ac_rfl)
  (case w18=>ac_rfl)
  (case w19=>k_is)
  (case w20=>k_is)
  (case w21=>k_is)
  (case w22=>k_is)
  (case w23=>k_is)
  (case w24=>k_is)
  (case w25=>k_is)
  (case w26=>k_is)
  (case w27=>k_is)
  (case w28=>k_is)
  (case w29=>ac_rfl)
  (case w30=>ac_rfl)
  (case w31=>ac_rfl)
  (case w32=>ac_rfl)
  (case w33=>ac_rfl)
  (case w34=>ac_rfl)
  (case w35=>ac_rfl)
  (case w36=>ac_rfl)
  (case w37=>ac_rfl)
  (case w38=>ac_rfl)
  (case w39=>k_is)
  (case w40=>rfl)
  (case w41=>k_is)
  (case w42=>k_is)
  (case w43=>k_is)
  (case w44=>k_is)
  (case w45=>k_is)
  (case w46=>k_is)
  (case w47=>k_is)
  (case w48=>k_is)
  (case w49=>k_is)
  (case w50=>k_is)
  (case w51=>k_is)
  (case w52=>k_is)
  (case w53=>k_is)
  (case w54=>k_is)
  (case w55=>k_is)
  (case w56=>k_is)
  (case w57=>k_is)
  (case w58=>k_is)
  (case w59=>k_is)
  (case w60=>k_is)
  (case w61=>k_is)
  (case w62=>k_is)
  (case w63=>k_is)
  (case w64=>k_is)
  (case w65=>k_is)
  (case w66=>k_is)
  (case w67=>k_is)
  (case w68=>k_is)
  (case w69=>k_is)
  (case w70=>k_is)
  (case w71=>k_exc)
  (case w72=>k_is)
  (case w73=>k_is)
  (case w74=>kit_is)
  (case w75=>kit_is)
theorem HN.scf (w:bq):HN.head0.1 (w.withFollow "special-get-raises" false):=by
 show _=_;unfold iL lQ topFrom;rewrite[dk,de,c9,dq,dj];kernel_rfl
theorem HN.sct (w:bq):HN.head0.1 (w.withFollow "special-get-raises" true):=by
 show _=_;unfold iL lQ topFrom;rewrite[dk,de,c9,dq,dj];kernel_rfl
theorem HN.left1f (w:bq):(iL kG fK.row.prog (w.withFollow "special-get-raises" false) 3375).map (fun s=>(kS HN.seenOf [bU "FORMS"] (fH fK.row.prog.main.body) HN.isSeen true s).1)=some (openGood HN.seenOf [bU "FORMS"]).1:=by
 unfold iL lQ topFrom;rewrite[dk,de,c9,dq,dj,gO];kernel_rfl
theorem HN.left1t (w:bq):(iL kG fK.row.prog (w.withFollow "special-get-raises" true) 3375).map (fun s=>(kS HN.seenOf [bU "FORMS"] (fH fK.row.prog.main.body) HN.isSeen true s).1)=some (openGood HN.seenOf [bU "FORMS"]).1:=by
 unfold iL lQ topFrom;rewrite[dk,de,c9,dq,dj,gO];kernel_rfl
theorem HN.left1 (w:bq):(iL kG fK.row.prog w 3375).map (fun s=>(kS HN.seenOf [bU "FORMS"] (fH fK.row.prog.main.body) HN.isSeen true s).1)=some (openGood HN.seenOf [bU "FORMS"]).1:=by
 exact PySem.W.byRow2 "special-get-raises" (P:=fun w=>(iL kG fK.row.prog w 3375).map (fun s=>(kS HN.seenOf [bU "FORMS"] (fH fK.row.prog.main.body) HN.isSeen true s).1)=some (openGood HN.seenOf [bU "FORMS"]).1) HN.left1f HN.left1t w
theorem HN.left2f (w:bq):(iL kG fK.row.prog (w.withFollow "special-get-raises" false) 3375).map (fun s=>(kS HN.seenOf [bU "FORMS"] (fH fK.row.prog.main.body) HN.isSeen true s).2)=some (openGood HN.seenOf [bU "FORMS"]).2:=by
 unfold iL lQ topFrom;rewrite[dk,de,c9,dq,dj,gO];kernel_rfl
theorem HN.left2t (w:bq):(iL kG fK.row.prog (w.withFollow "special-get-raises" true) 3375).map (fun s=>(kS HN.seenOf [bU "FORMS"] (fH fK.row.prog.main.body) HN.isSeen true s).2)=some (openGood HN.seenOf [bU "FORMS"]).2:=by
 unfold iL lQ topFrom;rewrite[dk,de,c9,dq,dj,gO];kernel_rfl
theorem HN.left2 (w:bq):(iL kG fK.row.prog w 3375).map (fun s=>(kS HN.seenOf [bU "FORMS"] (fH fK.row.prog.main.body) HN.isSeen true s).2)=some (openGood HN.seenOf [bU "FORMS"]).2:=by
 exact PySem.W.byRow2 "special-get-raises" (P:=fun w=>(iL kG fK.row.prog w 3375).map (fun s=>(kS HN.seenOf [bU "FORMS"] (fH fK.row.prog.main.body) HN.isSeen true s).2)=some (openGood HN.seenOf [bU "FORMS"]).2) HN.left2f HN.left2t w
theorem HN.leftA (w:bq):(iL kG fK.row.prog w 3375).map (kS HN.seenOf [bU "FORMS"] (fH fK.row.prog.main.body) HN.isSeen true)=some (openGood HN.seenOf [bU "FORMS"]):=HN.left_pr (f:=kS HN.seenOf [bU "FORMS"] (fH fK.row.prog.main.body) HN.isSeen true) (HN.left1 w) (HN.left2 w)
end
local macro_rules
|`(⇑$_)=>`(by trivial)
set_option hygiene false in
local macro_rules
|`(‹$_›)=>`(cS P w K mg base CX0)
set_option hygiene false in
local macro_rules
|`(‹_›)=>`(cS l.prog w K mg base CX0)
set_option hygiene false in
local macro_rules
|`(tactic|erw[$g:ident,$a:term,$p:term])=>`(tactic|obtain⟨_,$g:ident⟩:=($a).fn X G (ps:=$p))
local macro_rules
 |`(⟨$x,*⟩)=>do let a:=x.getElems;let r←`(rfl);let u←`(_);let n:=λ(y:Lean.TSyntax `term)=>y.raw.getId;if a.any λy=>n y==`ρ||n y==`τ||n y==`ς then let b:Array (Lean.TSyntax `term):=a.flatMap λy=>if n y==`ρ then #[u,r] else if n y==`τ then #[u,u,u,r,r] else if n y==`ς then #[u,u,r,r] else #[y];`(⟨$b,*⟩) else Lean.Macro.throwUnsupported
local macro_rules
 | `(⋯)=>`(by lia)
local macro_rules
 | `(∅)=>`(by simp)
local macro_rules
 | `(↥$_)=>`(by decide)
local macro_rules
 | `(tactic|apply $e)=>`(tactic|refine $e)
set_option hygiene false in
local macro_rules
 | `(tactic|specialize $e)=>`(tactic|refine $e (by contradiction) (fun cdv A outer s H vs Q E hr h=>?_))
namespace L2
open PySem PySem.Spec PyProof.Rows
abbrev Key:=Sum Int Str
def keyIs:Key→af→Bool
 | .inl k,v=>af.isInt k v
 | .inr x,v=>af.isStrOf x v
def keyH (w:bq):Key→Int
 | .inl k=>hashInt k
 | .inr x=>hashStr w x
theorem iP:∀{k:Key} {v:af},keyIs k v=true→(∃i t,k=Sum.inl i∧v=af.int i t)∨(∃x t,k=Sum.inr x∧v=af.str x t)
 | .inl i,v,h=>by
  obtain⟨t,e⟩:=af.isInt_shape (k:=i) (v:=v) h;exact .inl ⟨i,t,rfl,e⟩
 | .inr x,v,h=>by
  obtain⟨t,e⟩:=af.isStrOf_shape (x:=x) (v:=v) h;exact .inr ⟨x,t,rfl,e⟩
theorem keyIs_int (i:Int)(t:Tok):keyIs (.inl i) (.int i t)=true:=by simp[keyIs,af.isInt]
theorem jS (x:Str)(t:Tok):keyIs (.inr x) (.str x t)=true:=by simp[keyIs,af.isStrOf]
theorem key_ll (a b:Int):decide ((Sum.inl a:Key)=Sum.inl b)=(a == b):=by
 by_cases e:a=b
 ·subst e;simp
 ·have h:¬(Sum.inl a:Key)=Sum.inl b:=λq=>e (Sum.inl.inj q)
  rw[rP h];exact(beq_eq_false_iff_ne.mpr e).symm
theorem key_rr (a b:Str):decide ((Sum.inr a:Key)=Sum.inr b)=decide (a=b):=by
 by_cases e:a=b
 ·subst e;simp
 ·have h:¬(Sum.inr a:Key)=Sum.inr b:=λq=>e (Sum.inr.inj q)
  rw[rP h,rP e]
theorem key_lr (a:Int)(b:Str):decide ((Sum.inl a:Key)=Sum.inr b)=false:=rP (λq=>nomatch q)
theorem key_rl (a:Str)(b:Int):decide ((Sum.inr a:Key)=Sum.inl b)=false:=rP (λq=>nomatch q)
def gU (prog:aN)(w:bq):PySem.KeyKind prog w Key where
 is:=keyIs
 hash:=keyH w
 inj:=λv a b ha hb=>by
  rcases iP ha with ⟨i,t,rfl,rfl⟩ | ⟨x,t,rfl,rfl⟩
  ·rcases iP hb with ⟨j,u,rfl,e⟩ | ⟨y,u,rfl,e⟩
   ·injection e with e1 _;rw[e1]
   ·exact nomatch e
  ·rcases iP hb with ⟨j,u,rfl,e⟩ | ⟨y,u,rfl,e⟩
   ·exact nomatch e
   ·injection e with e1 _;rw[e1]
 byValue:=λk v h=>by
  rcases iP h with ⟨i,t,rfl,rfl⟩ | ⟨x,t,rfl,rfl⟩ <;> rfl
 pyHash:=λhv h=>by
  rcases iP hv with ⟨i,t,rfl,rfl⟩ | ⟨x,t,rfl,rfl⟩
  ·exact wpAny_pyHash_int h
  ·exact wpAny_pyHash_str h
 eqBool:=λhu hv h=>by
  rcases iP hu with ⟨i,t,rfl,rfl⟩ | ⟨x,t,rfl,rfl⟩
  ·rcases iP hv with ⟨j,u,rfl,rfl⟩ | ⟨y,u,rfl,rfl⟩
   ·rw[key_ll] at h;exact wpAny_eqBool_int h
   ·rw[key_lr] at h;exact SeqAt.EqAt.int_str i t y u _ _ _ _ h
  ·rcases iP hv with ⟨j,u,rfl,rfl⟩ | ⟨y,u,rfl,rfl⟩
   ·rw[key_rl] at h;exact SeqAt.EqAt.str_int x t j u _ _ _ _ h
   ·rw[key_rr] at h;exact wpAny_eqBool_str h
 «strs»:=λk x t v h=>by
  rcases iP h with ⟨i,u,rfl,e⟩ | ⟨y,u,rfl,e⟩
  ·exact nomatch e
  ·injection e with e1 _
   subst e1;cases v <;> rfl
theorem mixKind_int (prog:aN)(w:bq)(i:Int)(t:Tok):(gU prog w).is (.inl i) (.int i t)=true:=keyIs_int i t
theorem nW (prog:aN)(w:bq)(x:Str)(t:Tok):(gU prog w).is (.inr x) (.str x t)=true:=jS x t
inductive V where
 | non | bl (b:Bool) | int (i:Int) | str (x:Str) | byt (b:Array UInt8) | flt (b:UInt64) | ref (a:aq) | ty (n:String)
 deriving DecidableEq
def iY:V→af→Prop
 | .non,u=>u=af.none
 | .bl b,u=>u=af.bool b
 | .int i,u=>∃t,u=af.int i t
 | .str x,u=>∃t,u=af.str x t
 | .byt b,u=>∃t,u=af.bytes b t
 | .flt b,u=>∃t,u=af.float b t
 | .ref a,u=>u=af.ref a
 | .ty n,u=>u=af.type n
abbrev gZ:List V→List af→Prop:=Paired iY
theorem gZ.length {xs:List V}(r:gZ xs us):xs.length=us.length:=Paired.length r
theorem gZ.get:∀{xs:List V} {us:List af} {i:Nat} {x:V},gZ xs us→xs[i]? =some x→∃u,us[i]? =some u∧iY x u
 | _,_,_,_,.nil,e=>by simp at e
 | _,_,0,_,.cons r _,e=>by simp at e;subst e;exact⟨ρ,r⟩
 | _,_,i+1,x,.cons _ t,e=>by
  obtain⟨u,h1,h2⟩:=gZ.get (i:=i) (x:=x) t (by simpa using e);exact⟨u,by simpa using h1,h2⟩
theorem gZ.set {x:V}{u:af}(r:iY x u):∀{xs:List V} {us:List af} (i:Nat),gZ xs us→gZ (xs.set i x) (us.set i u)
 | _,_,_,.nil=>.nil
 | _,_,0,.cons _ t=>.cons r t
 | _,_,i+1,.cons q t=>.cons q (gZ.set r i t)
theorem gZ.append:∀{xs ys:List V} {us ws:List af},gZ xs us→gZ ys ws→gZ (xs++ys) (us++ws)
 | _,_,_,_,.nil,s=>s
 | _,_,_,_,.cons r t,s=>.cons r (gZ.append t s)
theorem gZ.take:∀{xs:List V} {us:List af} (n:Nat),gZ xs us→gZ (xs.take n) (us.take n)
 | _,_,0,_=>.nil
 | _,_,_+1,.nil=>.nil
 | _,_,n+1,.cons r t=>.cons r (gZ.take n t)
theorem gZ.drop:∀{xs:List V} {us:List af} (n:Nat),gZ xs us→gZ (xs.drop n) (us.drop n)
 | _,_,0,r=>r
 | _,_,_+1,.nil=>.nil
 | _,_,n+1,.cons _ t=>gZ.drop n t
def qU:Option V→Option af→Prop
 | some v,some u=>iY v u
 | none,none=>True
 | _,_=>False
def KV {κ:Type}:List (κ×V)→List (κ×af)→Prop:=Paired λ(p:κ×V) (q:κ×af)=>p.1=q.1∧iY p.2 q.2
def kV:Key→V
 | .inl i=>.int i
 | .inr x=>.str x
inductive HO where
 | lst (xs:List V)
 | tup (xs:List V)
 | dK (kvs:List (Key×V)) | dT (kvs:List (List Key×V))
 | set (S:Int→Bool) (n:Nat)
 | ins (C dx:aq) (fs:List (Str×V))
 | own (x:aq)
 | xd (fs:List (Str×V))
 | met (f x:aq)
 | rng (lo hi:Int)
 | frz (o:Obj) (u:HO)
 | tbl (ps:Array af)
 | ext (φ:bP→Prop)
abbrev Hp:=aq→Option HO
def upd (H:Hp)(a:aq)(o:HO):Hp:=λb=>if b=a then some o else H b
theorem aP {H:Hp}{o:HO}:upd H a o a=some o:=by unfold upd;rw[rL rfl]
theorem bf {H:Hp}{b:aq}{o:HO}(h:b≠a):upd H a o b=H b:=by unfold upd;rw[rK h]
theorem upd_upd {H:Hp}{o u:HO}:upd (upd H a o) a u=upd H a u:=by
 funext b;unfold upd;split <;> rfl
theorem dz {H:Hp}{b:aq}{o u:HO}(h:H a=some o)(h':H b=some u)(d:o≠u):a≠b:=by
 intro e;subst e;rw[h] at h';exact d (bF h')
theorem aZ {H:Hp}{b:aq}{o:HO}(h:H a=some o)(h':H b=none):a≠b:=by
 intro e;subst e;rw[h] at h';cases h'
def mZ (h:bP)(a:aq)(items:Array af):Prop:=∃o,h.get? a=some o∧o.cls= .type "tuple" ∧o.dict=none∧∃n,o.data= .seq items n
theorem mZ.tup {h:bP}{a:aq}{items:Array af}(p:mZ h a items):IsTup h a items:=let ⟨o,e,c,_,n,d⟩:=p;⟨o,e,c,n,d⟩
theorem mZ.lt {h:bP}(p:mZ h a items):a<h.objs.size:=p.tup.lt
theorem mZ.new (h:bP)(items:Array af):mZ (h.push { cls:=.type "tuple",data:=.seq items }) h.objs.size items:=⟨_,aU _ rfl,rfl,rfl,_,rfl⟩
section
variable (P:aN) (w:bq)
def iE (H:Hp)(h:bP)(a:aq):HO→Prop
 | .lst xs=>xs.length≤ax∧∃(its:List af) (n:Nat),gZ xs its∧h.get? a=some { cls:=.type "list",data:=.seq its.toArray n }
 | .tup xs=>xs.length≤ax∧∃its:List af,gZ xs its∧mZ h a its.toArray
 | .dK kvs=>kvs.length≤ax∧(a == gY)=false∧∃vs,KV kvs vs∧h.DictOf (gU P w) a vs
 | .dT kvs=>kvs.length≤ax∧(a == gY)=false∧∃xs:List (List Key×aq×af),
   Paired (λ(p:List Key×V) (q:List Key×aq×af)=>p.1=q.1∧H q.2.1=some (.tup (p.1.map kV))∧iY p.2 q.2.2) kvs xs ∧
   ∃o es ep,h.get? a=some o∧o.ExactDict∧o.data= .dict es ep∧es.toList=xs.map (entryOfKey (tupleKind (gU P w)))∧(xs.map (·.1)).Nodup
 | .set S n=>h.SetOf (intKind P w) a S n
 | .ins C dx fs=>H dx=some (.own a)∧fs.length≤1000∧dx≠a∧h.get? a=some (ij C dx) ∧
   ∃mA,h.Ns1 dx mA∧(∀f,qU (fs.lookup f) (mA f))∧PySem.Within mA (fs.map (·.1))
 | .own _=>∃o,h.get? a=some o
 | .xd fs=>∃mA,h.Ns1 a mA∧∀f,qU (fs.lookup f) (mA f)
 | .rng lo hi=>∃t u v,h.get? a=some { cls:=.type "range",data:=.fields #[.int lo t,.int hi u,.int 1 v] }
 | .frz o u=>h.get? a=some o∧iE H h a u
 | .tbl ps=>h.get? a=some { cls:=.none,data:=.fields ps }
 | .met f x=>h.get? a=some (PySem.W.methodObj (.ref f) (.ref x))
 | .ext φ=>φ h∧(∃o,h.get? a=some o)∧∀h1 h2:bP,φ h1→(∀o,h1.get? a=some o→h2.get? a=some o)→φ h2
def HOk (H:Hp)(h:bP):Prop:=∀a o,H a=some o→iE P w H h a o
end
section
variable {H H':Hp}{h:bP}{o:HO}
theorem iE.lt (x:iE P w H h a o):a<h.objs.size:=by
 cases o with
 | lst xs=>obtain⟨_,_,_,_,e⟩:=x;exact aV e
 | tup xs=>obtain⟨_,_,_,p⟩:=x;exact p.lt
 | dK kvs=>obtain⟨_,_,_,_,o,_,_,e,_⟩:=x;exact aV e
 | dT kvs=>obtain⟨_,_,_,_,o,_,_,e,_⟩:=x;exact aV e
 | set S n=>obtain⟨o,_,_,_,e,_⟩:=x;exact aV e
 | ins C dx fs=>obtain⟨_,_,_,e,_⟩:=x;exact aV e
 | own y=>obtain⟨_,e⟩:=x;exact aV e
 | xd fs=>obtain⟨_,⟨_,_,_,e,_⟩,_⟩:=x;exact aV e
 | rng lo hi=>obtain⟨_,_,_,e⟩:=x;exact aV e
 | frz ob u=>obtain⟨e,_⟩:=x;exact aV e
 | tbl ps=>exact aV (show h.get? a=some _ from x)
 | met f y=>exact aV (show h.get? a=some _ from x)
 | ext φ=>obtain⟨_,⟨_,e⟩,_⟩:=x;exact aV e
theorem Paired.mapP {α β:Type}{F G:α→β→Prop}:∀{l₁:List α} {l₂:List β},Paired F l₁ l₂→(∀a b,F a b→G a b)→Paired G l₁ l₂
 | _,_,.nil,_=>.nil
 | _,_,.cons r t,f=>.cons (f _ _ r) (Paired.mapP t f)
theorem iE.stay (x:iE P w H h a o)(k:∀b u,(b=a∨H b=some (.own a))→h.get? b=some u→h'.get? b=some u)
  (ho:∀b,H b=some (.own a)→H' b=some (.own a)) (ht:∀b xs,H b=some (.tup xs)→H' b=some (.tup xs)):iE P w H' h' a o:=by
 induction o with
 | lst xs=>obtain⟨z,its,n,r,e⟩:=x;exact⟨z,its,n,r,k _ _ (.inl rfl) e⟩
 | tup xs=>obtain⟨z,its,r,ob,e,c⟩:=x;exact⟨z,its,r,ob,k _ _ (.inl rfl) e,c⟩
 | dK kvs=>obtain⟨z,y,vs,r,ob,es,ep,e,c⟩:=x;exact⟨z,y,vs,r,ob,es,ep,k _ _ (.inl rfl) e,c⟩
 | dT kvs =>
  obtain⟨z,y,xs,r,ob,es,ep,e,c⟩:=x;exact⟨z,y,xs,Paired.mapP r λp q z=>⟨z.1,ht _ _ z.2.1,z.2.2⟩,ob,es,ep,k _ _ (.inl rfl) e,c⟩
 | set S n=>obtain⟨ob,es,ep,t,e,c⟩:=x;exact⟨ob,es,ep,t,k _ _ (.inl rfl) e,c⟩
 | ins C dx fs =>
  obtain⟨d,z,ne,e,mA,⟨od,es,ep,e2,c⟩,r⟩:=x;exact⟨ho _ d,z,ne,k _ _ (.inl rfl) e,mA,⟨od,es,ep,k _ _ (.inr d) e2,c⟩,r⟩
 | own y=>obtain⟨ob,e⟩:=x;exact⟨ob,k _ _ (.inl rfl) e⟩
 | xd fs=>obtain⟨mA,⟨od,es,ep,e,c⟩,r⟩:=x;exact⟨mA,⟨od,es,ep,k _ _ (.inl rfl) e,c⟩,r⟩
 | rng lo hi=>obtain⟨t,u,v,e⟩:=x;exact⟨t,u,v,k _ _ (.inl rfl) e⟩
 | frz ob u ih=>obtain⟨e,q⟩:=x;exact⟨k _ _ (.inl rfl) e,ih q⟩
 | tbl ps =>
  have e:h.get? a=some { cls:=.none,data:=.fields ps }:=x;show h'.get? a=some { cls:=.none,data:=.fields ps };exact k a _ (.inl rfl) e
 | met f y =>
  have e:h.get? a=some (PySem.W.methodObj (.ref f) (.ref y)):=x;show h'.get? a=some (PySem.W.methodObj (.ref f) (.ref y));exact k a _ (.inl rfl) e
 | ext φ=>obtain⟨p,⟨o,e⟩,st⟩:=x;exact⟨st _ _ p λo q=>k _ _ (.inl rfl) q,⟨o,k _ _ (.inl rfl) e⟩,st⟩
theorem HOk.lt (x:HOk P w H h)(e:H a=some o):a<h.objs.size:=(x a o e).lt
theorem HOk.fresh (x:HOk P w H h)(e:h.objs.size≤a):H a=none:=by
 cases q:H a with
 | none=>rfl
 | some u=>exact rM (ck (x.lt q) e) (hV _)
theorem HOk.kept (x:HOk P w H h)(k:∀b u,h.get? b=some u→h'.get? b=some u):HOk P w H h':=λa o e =>
 (x a o e).stay (λb u _ q=>k b u q) (λ_ q=>q) λ_ _ q=>q
theorem HOk.laid (x:HOk P w H h)(k:∀b u,h.get? b=some u→h'.get? b=some u)(hp:h.objs.size≤a)(new:iE P w (upd H a o) h' a o):HOk P w (upd H a o) h':=λb u e=>by
 have hn:=x.fresh hp
 by_cases hb:b=a
 ·subst hb;rw[aP] at e;cases e;exact new
 ·rw[bf hb] at e
  exact(x b u e).stay (λc v _ q=>k c v q) (λc q=>by rw[bf (aZ q hn)];exact q) λc xs q=>by rw[bf (aZ q hn)];exact q
end
def Rd (H:Hp)(a:aq)(u:HO):Prop:=H a=some u∨∃o,H a=some (.frz o u)
theorem Rd.ok {H:Hp}{h:bP}{u:HO}(r:Rd H a u)(x:HOk P w H h):iE P w H h a u:=by
 rcases r with r | ⟨o,r⟩
 ·exact x a u r
 ·obtain⟨_,q⟩:=x a _ r
  exact q
def Mut:Option HO→Prop
 | some (.lst _)=>True
 | some (.dK _)=>True
 | some (.dT _)=>True
 | some (.set _ _)=>True
 | some (.ins _ _ _)=>True
 | some (.ext _)=>True
 | _=>False
section
variable {H:Hp}{h:bP}{x e:aq}{o':HO}
theorem HOk.write (ok:HOk P w H h)(mu:Mut (H x))(he:e=x∨H e=some (.own x))(k:∀b u,b≠e→h.get? b=some u→h'.get? b=some u)(heo:∃u,h'.get? e=some u)
  (new:iE P w (upd H x o') h' x o'):HOk P w (upd H x o') h':=λb u q=>by
 have nown:∀c y,H c=some (.own y)→c≠x:=λc y r z=>by subst z;rw[r] at mu;exact mu
 have ntup:∀c xs,H c=some (.tup xs)→c≠x:=λc xs r z=>by subst z;rw[r] at mu;exact mu
 by_cases hb:b=x
 ·subst hb;rw[aP] at q;cases q;exact new
 ·rw[bf hb] at q
  by_cases hbe:b=e
  ·have q':H b=some (.own x):=by
    rcases he with z | z
    ·exact rM (hbe.trans z) hb
    ·rw[hbe];exact z
   rw[q] at q';cases q';obtain⟨v,hv⟩:=heo;exact⟨v,by rw[hbe];exact hv⟩
  ·apply(ok b u q).stay (λc v hc r=>k c v ?_ r) (λc r=>by rw[bf (nown c b r)];exact r) λc xs r=>by rw[bf (ntup c xs r)];exact r
   rcases hc with rfl | hc
   ·exact hbe
   ·rintro rfl
    rcases he with z | z
    ·exact nown c b hc z
    ·rw[hc] at z;cases z;exact hb rfl
end
structure Un (fs ex:List aq)(H H':Hp)(h h':bP):Prop where
 keep:∀b o,h.get? b=some o→H b=none→b ∉ fs→b ∉ ex→h'.get? b=some o
 slot:∀b o,h.get? b=some o→H b=none→b∈fs→b ∉ ex→∃sl,h'.get? b=some { o with slots:=sl }
 free:∀b o,h.get? b=some o→H b=none→b ∉ ex→H' b=none
 there:∀b o,h.get? b=some o→b ∉ ex→∃o',h'.get? b=some o'
 tups:∀b xs,H b=some (.tup xs)→H' b=some (.tup xs)
 frzs:∀b o u,H b=some (.frz o u)→H' b=some (.frz o u)
 tbls:∀b ps,H b=some (.tbl ps)→∃more,H' b=some (.tbl (ps++more))
section
variable {fs fs' ex':List aq}{H H1 H2:Hp}{h h1 h2:bP}{x e:aq}{o:HO}
theorem Un.any (u:Un fs ex H H1 h h1){b:aq}{ob:Obj}(q:h.get? b=some ob)(n:H b=none)(hx:b ∉ ex):∃sl,h1.get? b=some { ob with slots:=sl }:=by
 by_cases hb:b∈fs
 ·exact u.slot b ob q n hb hx
 ·exact⟨ob.slots,u.keep b ob q n hb hx⟩
theorem Un.kept (k:∀b u,h.get? b=some u→h'.get? b=some u):Un fs ex H H h h':=
 ⟨λb ob q _ _ _=>k b ob q,λb ob q _ _ _=>⟨ob.slots,k b ob q⟩,λ_ _ _ n _=>n,λb ob q _=>⟨ob,k b ob q⟩,λ_ _ q=>q,λ_ _ _ q=>q,λ_ ps q=>⟨#[],by rw[q];simp⟩⟩
theorem Un.refl:Un fs ex H H h h:=Un.kept λ_ _ q=>q
theorem Un.laid (k:∀b u,h.get? b=some u→h'.get? b=some u)(hp:h.objs.size≤a)(hn:H a=none):Un fs ex H (upd H a o) h h' where
 keep:=λb u q _ _ _=>k b u q
 slot:=λb u q _ _ _=>⟨u.slots,k b u q⟩
 free:=λb u q n _=>by rw[bf (cz (ck (aV q) hp))];exact n
 there:=λb u q _=>⟨u,k b u q⟩
 tups:=λb xs q=>by rw[bf (aZ q hn)];exact q
 frzs:=λb u xs q=>by rw[bf (aZ q hn)];exact q
 tbls:=λb ps q=>⟨#[],by rw[bf (aZ q hn),q];simp⟩
theorem Un.write (mu:Mut (H x))(he:e=x∨H e=some (.own x))(k:∀b u,b≠e→h.get? b=some u→h'.get? b=some u)(heo:∃u,h'.get? e=some u):Un fs ex H (upd H x o) h h':=by
 have hx:∀b,H b=none→b≠x:=λb n z=>by subst z;rw[n] at mu;exact mu
 have hb:∀b,H b=none→b≠e:=λb n z=>by
  subst z
  rcases he with r | r
  ·exact hx b n r
  ·rw[n] at r;cases r
 have hm:∀b u,H b=some u→¬Mut (some u)→b≠x:=λb u q nm z=>by subst z;rw[q] at mu;exact nm mu
 apply ⟨fun b u q n _ _=>k b u (hb b n) q,fun b u q n _ _=>⟨u.slots,k b u (hb b n) q⟩,fun b u q n _=>by rw[bf (hx b n)];exact n,fun b u q _=>?_,
  fun b xs q=>by rw[bf (hm b _ q fun z=>z)];exact q,fun b u xs q=>by rw[bf (hm b _ q fun z=>z)];exact q,fun b ps q=>⟨#[],by rw[bf (hm b _ q fun z=>z),q];simp⟩⟩
 by_cases hbe:b=e
 ·subst hbe;exact heo
 ·exact⟨u,k b u hbe q⟩
end
def trk (h:bP)(H:Hp):List aq:=(cI h.objs.size).filter λa=>(H a).isSome
def hidT (h:bP)(H:Hp):bP:=PySem.W.hideAll h (trk h H)
theorem hidT_size (h:bP)(H:Hp):(hidT h H).objs.size=h.objs.size:=PySem.W.hideAll_size _ _
theorem hidT_get {h:bP}{H:Hp}{b:aq}{o:Obj}(e:h.get? b=some o)(n:H b=none):(hidT h H).get? b=some o:=
 PySem.W.hideAll_get _ e λhm=>by
  have q:(H b).isSome=true:=(List.mem_filter.mp hm).2;rw[n] at q;simp at q
theorem of_hidT {h:bP}{H:Hp}{b:aq}{o:Obj}(e:(hidT h H).get? b=some o):h.get? b=some o∧H b=none:=by
 have e':h.get? b=some o:=PySem.W.of_hideAll (trk h H) e;apply⟨e',?_⟩;cases q:H b with
 | none=>rfl
 | some x =>
  have hm:b∈trk h H:=List.mem_filter.mpr ⟨List.mem_range.mpr (aV e'),by simp[q]⟩;have z:(hidT h H).get? b=none:=PySem.W.hideAll_none (trk h H) hm;rw[z] at e;cases e
structure Mod (K:ak)(mg:Str→Option af)(base:bP):Prop where
 kin:K.In base
 glob:base.Ns bH mg
 blt:∃mb,base.Ns builtinsNs mb∧∀x:Str,x ≠ "__name__" →mb x=bootBuiltins x
 nolimit:base.NoLimit
structure Cx where
 prog:aN
 w:bq
 K:ak
 mg:Str→Option af
 base:bP
 A:cp
 N:List Str
 s₀:au
 H₀:Hp
 env:Env
 outer:List Env
 stack:List Env
 ex:List aq
 fn:Str→Bool
 calm:Bool
 pn:List (aq×Obj)
 xe:af→au→Prop
def frs (l:List Env):List aq:=l.filterMap (·.frame)
abbrev Cx.fs (X:Cx):List aq:=frs X.outer
def Vis (sc:Scope)(x:Str):Prop:=sc.names.lookup x=some .local∨sc.names.lookup x=some .cell∨sc.names.lookup x=some .free
def Loc (sc:Scope)(x:Str):Prop:=sc.names.lookup x=some .local∨sc.names.lookup x=some .cell
def Look (env:Env)(h:bP)(m:Str→Option af)(x:Str)(u:af):Prop:=
 (env.kindOf x=some .local∧m x=some u)∨((env.kindOf x=some .cell∨env.kindOf x=some .free)∧∃c,env.cells.lookup x=some c∧h.IsCell c (some u))
structure Cx.Ok (X:Cx):Prop where
 mod:Mod X.K X.mg X.base
 kind:X.env.scope.kind= .function
 glob:X.env.globals=bH
 blt:X.env.builtins=builtinsNs
 above:X.s₀.heap.objs.size≤X.env.locals
 inj:∀x y c,X.env.cells.lookup x=some c→X.env.cells.lookup y=some c→x=y
 has:∀x,(X.env.kindOf x=some .cell∨X.env.kindOf x=some .free)→∃c,X.env.cells.lookup x=some c
 cab:∀x c,X.fn x=true→X.env.cells.lookup x=some c→X.s₀.heap.objs.size≤c
 hd:X.calm=true→X.A.handled=none
 frames:X.A.frames=some X.stack
 stk:X.stack=X.outer∨(X.stack=X.env::X.outer∧X.env.frame=some X.env.locals)
 exf:∀b∈X.ex,b≠X.env.locals∧∀x c,X.env.cells.lookup x=some c→c≠b
 bs:∀b o,X.base.get? b=some o→X.s₀.heap.get? b=some o∧X.H₀ b=none
 bsz:X.base.objs.size≤X.s₀.heap.objs.size
 noex:∀b o,X.base.get? b=some o→b ∉ X.ex
 exfs:∀b∈X.ex,b ∉ X.fs
 funs:X.s₀.heap.FunFrames X.base X.outer
 frf:∀b∈X.fs,X.H₀ b=none
structure Inv (X:Cx)(aL:List (aq×Obj))(σ:List (Option V))(H:Hp)(s:au):Prop where
 ok:X.Ok
 os:s.os=X.s₀.os
 bare:AllBare s.gens
 base:Un X.fs X.ex X.H₀ H X.s₀.heap s.heap
 loc:∃m,s.heap.Ns X.env.locals m∧∀(i:Nat) (x:Str) (v:V),X.N[i]? =some x→σ[i]? =some (some v)→Vis X.env.scope x→∃u,iY v u∧Look X.env s.heap m x u
 cell:∀x c,X.env.cells.lookup x=some c→∃v,s.heap.IsCell c v
 free:H X.env.locals=none
 freeC:∀x c,X.env.cells.lookup x=some c→H c=none
 pin:∀p∈X.pn++aL,s.heap.get? p.1=some p.2∧H p.1=none∧p.1≠X.env.locals∧p.1 ∉ X.fs∧∀v,p.2.data≠ .cell v
 hok:HOk X.prog X.w H s.heap
 len:σ.length=X.N.length
section
variable {X:Cx}{σ:List (Option V)}{H H':Hp}
theorem Cx.Ok.nofr (ok:X.Ok){b:aq}{o:Obj}(e:X.base.get? b=some o):b ∉ X.fs:=λhb=>by
 have:=(ok.funs.mem hb).1;rw[e] at this;cases this
theorem Inv.bs (I:Inv X aL σ H s):∀b o,X.base.get? b=some o→s.heap.get? b=some o∧H b=none:=λb o e =>
 ⟨I.base.keep b o (I.ok.bs b o e).1 (I.ok.bs b o e).2 (I.ok.nofr e) (I.ok.noex b o e),I.base.free b o (I.ok.bs b o e).1 (I.ok.bs b o e).2 (I.ok.noex b o e)⟩
theorem Inv.bk (I:Inv X aL σ H s):∀b o,X.base.get? b=some o→s.heap.get? b=some o:=λb o e=>(I.bs b o e).1
theorem Inv.mod (I:Inv X aL σ H s):Mod X.K X.mg X.base:=I.ok.mod
theorem Inv.kIn (I:Inv X aL σ H s):X.K.In s.heap:=I.ok.mod.kin.keeps I.bk
theorem Inv.lt (I:Inv X aL σ H s):X.env.locals<s.heap.objs.size:=let ⟨_,hn,_⟩:=I.loc;hn.lt
theorem Inv.sz (I:Inv X aL σ H s):X.s₀.heap.objs.size≤s.heap.objs.size:=cB I.ok.above (Nat.le_of_lt I.lt)
theorem Inv.nofs (I:Inv X aL σ H s)(h:s.heap.objs.size≤a):a ∉ X.fs:=λhb=>by
 obtain⟨_,o,ho,_⟩:=I.ok.funs.mem hb;exact rM (ck (aV ho) (cB I.sz h)) (hV _)
theorem Inv.cne (I:Inv X aL σ H s):∀x c,X.env.cells.lookup x=some c→c≠X.env.locals:=λx c e z=>by
 obtain⟨v,o,ho,hd⟩:=I.cell x c e;obtain⟨m,⟨o',es,ep,ho',hd',_⟩,_⟩:=I.loc;rw[z,ho'] at ho;cases ho;rw[hd'] at hd;cases hd
theorem Inv.funs (I:Inv X aL σ H s):s.heap.FunFrames X.base X.outer:=by
 have all:∀(l:List Env),(∀b∈frs l,b∈X.fs)→X.s₀.heap.FunFrames X.base l→s.heap.FunFrames X.base l:=by
  intro l
  induction l with
  | nil=>intro _ _;trivial
  | cons env r ih =>
   intro hs hl;obtain⟨hk,⟨L,o,hf,hn,ho,hd⟩,hr⟩:=hl;have hL:L∈X.fs:=hs L (by unfold frs;rw[gT,hf];exact bJ);obtain⟨sl,e⟩:=I.base.slot L o ho (I.ok.frf L hL) hL λz=>I.ok.exfs L z hL
   exact⟨hk,⟨L,_,hf,hn,e,hd⟩,ih (λb hb=>hs b (by unfold frs;rw[gT,hf];exact aO _ hb)) hr⟩
 exact all X.outer (λ_ hb=>hb) I.ok.funs
theorem Inv.stack (I:Inv X aL σ H s):s.heap.FunFrames X.base X.stack:=by
 rcases I.ok.stk with e | ⟨e,hf⟩
 ·rw[e];exact I.funs
 ·rw[e]
  obtain⟨m,hn,_⟩:=I.loc;apply .cons (by rw[I.ok.kind];decide) hf hn ?_ I.funs;exact bP.get?_none_of_le (cB I.ok.bsz I.ok.above)
theorem Inv.stkSub (I:Inv X aL σ H s):∀b∈frs X.stack,b∈X.env.locals::X.fs:=λb hb=>by
 rcases I.ok.stk with e | ⟨e,hf⟩
 ·rw[e] at hb;exact aO _ hb
 ·rw[e] at hb
  unfold frs at hb;rw[gT,hf] at hb;exact hb
theorem Inv.stkFree (I:Inv X aL σ H s):∀b∈frs X.stack,H b=none:=λb hb=>by
 rcases az.mp (I.stkSub b hb) with e | hb
 ·rw[e];exact I.free
 ·obtain⟨_,o,ho,_⟩:=I.ok.funs.mem hb
  exact I.base.free b o ho (I.ok.frf b hb) λz=>I.ok.exfs b z hb
theorem Inv.step (I:Inv X aL σ H s)
  (hch:∀b∈ch,(b∈X.ex∨X.s₀.heap.objs.size≤b)∧b≠X.env.locals∧(∀x c,X.env.cells.lookup x=some c→c≠b)∧∀p∈X.pn++aL,p.1≠b)
  (keep:∀b o,b≠X.env.locals→b ∉ X.fs→b ∉ ch→s.heap.get? b=some o→H b=none→h'.get? b=some o)
  (slot:∀b o,b≠X.env.locals→b∈X.fs→b ∉ ch→s.heap.get? b=some o→H b=none→∃sl,h'.get? b=some { o with slots:=sl }) (free:∀b o,b ∉ ch→s.heap.get? b=some o→H b=none→H' b=none)
  (there:∀b o,b ∉ ch→s.heap.get? b=some o→∃o',h'.get? b=some o')
  (tups:∀b xs,H b=some (.tup xs)→H' b=some (.tup xs)) (frzs:∀b o u,H b=some (.frz o u)→H' b=some (.frz o u)) (tbls:∀b ps,H b=some (.tbl ps)→∃more,H' b=some (.tbl (ps++more)))
  (ns:∀m,s.heap.Ns X.env.locals m→h'.Ns X.env.locals m) (hok:HOk X.prog X.w H' h') (hg:AllBare g') :
  Inv X aL σ H' { s with heap:=h',gens:=g',drawn:=d',toks:=t' }:=by
 have neL:∀b o,X.s₀.heap.get? b=some o→b≠X.env.locals:=λb o e=>cz (ck (aV e) I.ok.above)
 have neC:∀b o,X.s₀.heap.get? b=some o→b ∉ X.ex→b ∉ ch:=λb o e hx hb=>by
  rcases(hch b hb).1 with z | z
  ·exact hx z
  ·exact rM (ck (aV e) z) (hV _)
 have cellK:∀x c,X.env.cells.lookup x=some c→∀v,s.heap.IsCell c v→h'.IsCell c v:=λx c e v ⟨o,ho,hd⟩=>by
  have nch:c ∉ ch:=λz=>(hch c z).2.2.1 x c e rfl
  by_cases hc:c∈X.fs
  ·obtain⟨sl,q⟩:=slot c o (I.cne x c e) hc nch ho (I.freeC x c e)
   exact⟨_,q,hd⟩
  ·exact⟨o,keep c o (I.cne x c e) hc nch ho (I.freeC x c e),hd⟩
 apply⟨I.ok,I.os,hg,⟨λb o e n hb hx=>?_,λb o e n hb hx=>?_,λb o e n hx=>?_,λb o e hx=>?_,λb xs e=>tups b xs (I.base.tups b xs e),λb o xs e=>frzs b o xs (I.base.frzs b o xs e),λb ps e=>?_⟩,?_,λx c e=>?_,?_,λx c e=>?_,λp hp=>?_,hok,I.len⟩
 ·exact keep b o (neL b o e) hb (neC b o e hx) (I.base.keep b o e n hb hx) (I.base.free b o e n hx)
 ·obtain⟨sl,e1⟩:=I.base.slot b o e n hb hx
  obtain⟨sl',e2⟩:=slot b _ (neL b o e) hb (neC b o e hx) e1 (I.base.free b o e n hx);exact⟨sl',e2⟩
 ·obtain⟨o',e1⟩:=I.base.there b o e hx
  exact free b o' (neC b o e hx) e1 (I.base.free b o e n hx)
 ·obtain⟨o',e1⟩:=I.base.there b o e hx
  exact there b o' (neC b o e hx) e1
 ·obtain⟨m1,e1⟩:=I.base.tbls b ps e
  obtain⟨m2,e2⟩:=tbls b _ e1;exact⟨m1++m2,by rw[e2,Array.append_assoc]⟩
 ·obtain⟨m,hn,hl⟩:=I.loc
  apply⟨m,ns m hn,λi x v e1 e2 e3=>?_⟩;obtain⟨u,r,l⟩:=hl i x v e1 e2 e3;apply⟨u,r,?_⟩
  rcases l with l | ⟨k,c,e,z⟩
  ·exact .inl l
  ·exact .inr ⟨k,c,e,cellK x c e _ z⟩
 ·obtain⟨v,z⟩:=I.cell x c e
  exact⟨v,cellK x c e v z⟩
 ·obtain⟨m,⟨o,_,_,ho,_⟩,_⟩:=I.loc
  exact free _ o (λz=>(hch _ z).2.1 rfl) ho I.free
 ·obtain⟨v,o,ho,hd⟩:=I.cell x c e
  exact free c o (λz=>(hch c z).2.2.1 x c e rfl) ho (I.freeC x c e)
 ·obtain⟨e,n,ne,nf,d⟩:=I.pin p hp
  have nch:p.1 ∉ ch:=λz=>(hch p.1 z).2.2.2 p hp rfl
  exact⟨keep p.1 p.2 ne nf nch e n,free p.1 p.2 nch e n,ne,nf,d⟩
theorem Inv.un (I:Inv X aL σ H s)(u:Un X.fs [] H H' s.heap h')(hok:HOk X.prog X.w H' h'):Inv X aL σ H' { s with heap:=h',toks:=t' }:=by
 obtain ⟨m,⟨o,es,ep,ho,r⟩,_⟩:=id I.loc;obtain ⟨sl,hL⟩:=u.any ho I.free ∅;exact I.step (g':=s.gens) (d':=s.drawn) (ch:=[]) (fun _ z=>nomatch z) (fun b o _ hb _ e n=>u.keep b o e n hb ∅) (fun b o _ hb _ e n=>u.slot b o e n hb ∅) (fun b o _ e n=>u.free b o e n ∅) (fun b o _ e=>u.there b o e ∅) u.tups u.frzs u.tbls (fun m' hm=>by
  obtain ⟨o',es',ep',ho',r'⟩:=hm;rw[ho] at ho';cases ho';exact ⟨_,es',ep',hL,r'⟩) hok I.bare
theorem Inv.call (I:Inv X aL σ H s)(u:Un (frs X.stack) ch H H' s.heap h')(hok:HOk X.prog X.w H' h')(hg:AllBare g')
  (hch:∀b∈ch,(b∈X.ex∨X.s₀.heap.objs.size≤b)∧b≠X.env.locals∧(∀x c,X.env.cells.lookup x=some c→c≠b)∧∀p∈X.pn++aL,p.1≠b) :
  Inv X aL σ H' { s with heap:=h',gens:=g',drawn:=d',toks:=t' }:=by
 obtain⟨m,⟨o,es,ep,ho,r⟩,_⟩:=id I.loc;obtain⟨sl,hL⟩:=u.any ho I.free λz=>(hch _ z).2.1 rfl
 exact I.step (ch:=ch) hch (fun b o hL hb hc e n=>u.keep b o e n (fun z=>(az.mp (I.stkSub b z)).elim hL hb) hc) (fun b o _ _ hc e n=>u.any e n hc) (fun b o hc e n=>u.free b o e n hc) (fun b o hc e=>u.there b o e hc) u.tups u.frzs u.tbls (fun m' hm=>by
  obtain ⟨o',es',ep',ho',r'⟩:=hm;rw[ho] at ho';cases ho';exact ⟨_,es',ep',hL,r'⟩) hok hg
theorem Inv.turned (I:Inv X aL σ H s)(k:∀b o,b≠it→s.heap.get? b=some o→h'.get? b=some o)(hn:H it=none)(hL:it≠X.env.locals)
  (h1:it∈X.ex∨X.s₀.heap.objs.size≤it) (h2:∀x c,X.env.cells.lookup x=some c→c≠it) (h3:∀p∈X.pn++aL,p.1≠it):Inv X aL σ H { s with heap:=h',toks:=t' }:=by
 have nit:∀b u,H b=some u→b≠it:=λb u e z=>by rw[z,hn] at e;cases e
 apply I.step (g':=s.gens) (d':=s.drawn) (ch:=[it]) (λb hb=>?_) (λb o _ _ hc e _=>k b o (λz=>hc (by simp[z])) e) (λb o _ _ hc e _=>⟨o.slots,k b o (λz=>hc (by simp[z])) e⟩) (λ_ _ _ _ n=>n)
  (λb o hc e=>⟨o,k b o (λz=>hc (by simp[z])) e⟩) (λ_ _ e=>e) (λ_ _ _ e=>e) (λb ps e=>⟨#[],by rw[e];simp⟩) (λm hm=>?_) (λb u e=>?_) I.bare
 ·have e:b=it:=by simpa using hb
  subst e;exact⟨h1,hL,h2,h3⟩
 ·obtain⟨o,es,ep,ho,r⟩:=hm
  exact⟨o,es,ep,k _ o (cM hL) ho,r⟩
 ·apply(I.hok b u e).stay (λc v hc q=>k c v ?_ q) (λ_ q=>q) λ_ _ q=>q
  rcases hc with z | z
  ·rw[z];exact nit b u e
  ·exact nit c _ z
theorem Inv.tok (I:Inv X aL σ H s)(t:Nat):Inv X aL σ H { s with toks:=t }:=I.un (h':=s.heap) (t':=t) Un.refl I.hok
theorem Inv.kept (I:Inv X aL σ H s)(k:∀b u,s.heap.get? b=some u→h'.get? b=some u):Inv X aL σ H { s with heap:=h',toks:=t' }:=I.un (Un.kept k) (I.hok.kept k)
theorem Inv.laid {o:HO}(I:Inv X aL σ H s)(k:∀b u,s.heap.get? b=some u→h'.get? b=some u)(hp:s.heap.objs.size≤a)(new:iE X.prog X.w (upd H a o) h' a o) :
  Inv X aL σ (upd H a o) { s with heap:=h',toks:=t' }:=I.un (Un.laid k hp (I.hok.fresh hp)) (I.hok.laid k hp new)
theorem Inv.write {x e:aq}{o:HO}(I:Inv X aL σ H s)(mu:Mut (H x))(he:e=x∨H e=some (.own x))(k:∀b u,b≠e→s.heap.get? b=some u→h'.get? b=some u)(heo:∃u,h'.get? e=some u)
  (new:iE X.prog X.w (upd H x o) h' x o):Inv X aL σ (upd H x o) { s with heap:=h',toks:=t' }:=I.un (Un.write mu he k heo) (I.hok.write mu he k heo new)
theorem Inv.pins_of (I:Inv X aL σ H s)(h:∀p∈pins',s.heap.get? p.1=some p.2∧H p.1=none∧p.1≠X.env.locals∧p.1 ∉ X.fs∧∀v,p.2.data≠ .cell v):Inv X pins' σ H s:=
 ⟨I.ok,I.os,I.bare,I.base,I.loc,I.cell,I.free,I.freeC,λp hp=>(aX.mp hp).elim (λz=>I.pin p (cq _ z)) (h p),I.hok,I.len⟩
theorem nodup_ix (hN:N.Nodup)(a:N[i]? =some x)(b:N[j]? =some x):i=j:=by
 obtain⟨h1,e1⟩:=aj.mp a;obtain⟨h2,e2⟩:=aj.mp b;exact(List.getElem_inj hN).mp (e1.trans e2.symm)
theorem store_ok2 {v:V}{Q:Unit→au→Prop}(I:Inv X aL σ H s)(hN:X.N.Nodup)(hi:X.N[i]? =some x)(hx:Loc X.env.scope x)(r:iY v u)
  (h:∀s',Inv X aL (σ.set i (some v)) H s'→(∃a,cQ a s.heap s'.heap∧(a=X.env.locals∨X.env.cells.lookup x=some a))→Q () s') (hf:X.fn x=true∨X.env.scope.names.lookup x=some .local:=by first | exact .inl rfl | exact .inr rfl | assumption):bc M A (storeName X.env x u) Q E s:=by
 obtain⟨m,hn,hl⟩:=id I.loc;have hcls:(X.env.scope.kind == .class || (X.env.scope.kind == .module && X.env.locals != X.env.globals))=false:=by rw[I.ok.kind];rfl
 have hiσ:i<σ.length:=by rw[I.len];exact(aj.mp hi).1
 have cne:=I.cne;have tracked:∀{a:aq} {h':bP},(∃o,s.heap.get? a=some o∧H a=none)→cQ a s.heap h'→HOk X.prog X.w H h':=λ{a h'} ha hs b ob e=>by
  obtain⟨_,_,hfree⟩:=ha;apply(I.hok b ob e).stay (λc w' hc q=>(hs.2 c ?_).trans q) (λ_ q=>q) λ_ _ q=>q
  rintro rfl
  rcases hc with rfl | hc
  ·rw[hfree] at e;cases e
  ·rw[hfree] at hc;cases hc
 rcases hx with hk | hk
 ·apply wpAny_storeName_local hk hn (λh' hn' hs=>?_) hcls
  obtain⟨oL,_,_,hoL,_⟩:=id hn;apply h _ ⟨I.ok,I.os,I.bare,⟨λb o e n hb hx=>?_,λb o e n hb hx=>?_,I.base.free,λb o e hx=>?_,I.base.tups,I.base.frzs,I.base.tbls⟩,⟨_,hn',λj y v' e1 e2 e3=>?_⟩,λy c e=>?_,I.free,I.freeC,λp hp=>?_,tracked ⟨oL,hoL,I.free⟩ hs,by simpa using I.len⟩ ⟨_,hs,.inl rfl⟩
  ·exact(hs.2 b (cz (ck (aV e) I.ok.above))).trans (I.base.keep b o e n hb hx)
  ·obtain⟨sl,e1⟩:=I.base.slot b o e n hb hx
   exact⟨sl,(hs.2 b (cz (ck (aV e) I.ok.above))).trans e1⟩
  ·obtain⟨o',e1⟩:=I.base.there b o e hx
   exact⟨o',(hs.2 b (cz (ck (aV e) I.ok.above))).trans e1⟩
  ·by_cases hj:j=i
   ·subst hj
    rw[hi] at e1;cases e1;rw[ke hiσ] at e2;cases e2;exact⟨u,r,.inl ⟨hk,∅⟩⟩
   ·rw[List.getElem?_set_ne (cM hj)] at e2
    obtain⟨u',r',q⟩:=hl j y v' e1 e2 e3;apply⟨u',r',?_⟩
    rcases q with ⟨k,e⟩ | ⟨k,c,e,z⟩
    ·apply .inl ⟨k,?_⟩
     have:y≠x:=λe=>hj (nodup_ix hN e1 (e ▸ hi))
     simp[this,e]
    ·exact .inr ⟨k,c,e,z.sameBut hs (cne y c e)⟩
  ·obtain⟨w',z⟩:=I.cell y c e
   exact⟨w',z.sameBut hs (cne y c e)⟩
  ·obtain⟨e,n,ne,nf,d⟩:=I.pin p hp
   exact⟨(hs.2 p.1 ne).trans e,n,ne,nf,d⟩
 ·have hfn:X.fn x=true:=by
   rcases hf with z | z
   ·exact z
   ·rw[z] at hk;cases hk
  obtain⟨c,hc⟩:=I.ok.has x (.inl hk);obtain⟨w',z⟩:=I.cell x c hc;apply wpAny_storeName_cell I.ok.kind hk hc z (λh' hc' hs=>?_);obtain⟨oc,hoc,hocd⟩:=id z;apply h { s with heap:=h' } ⟨I.ok,I.os,I.bare,⟨λb o e n hb hx=>?_,λb o e n hb hx=>?_,I.base.free,λb o e hx=>?_,I.base.tups,I.base.frzs,I.base.tbls⟩,⟨m,hn.sameBut hs (cM (cne x c hc)),λj y v' e1 e2 e3=>?_⟩,λy c' e=>?_,I.free,I.freeC,λp hp=>?_,tracked ⟨oc,hoc,I.freeC x c hc⟩ hs,by simpa using I.len⟩ ⟨c,hs,.inr hc⟩
  ·exact(hs.2 b (cz (ck (aV e) (I.ok.cab x c hfn hc)))).trans (I.base.keep b o e n hb hx)
  ·obtain⟨sl,e1⟩:=I.base.slot b o e n hb hx
   exact⟨sl,(hs.2 b (cz (ck (aV e) (I.ok.cab x c hfn hc)))).trans e1⟩
  ·obtain⟨o',e1⟩:=I.base.there b o e hx
   exact⟨o',(hs.2 b (cz (ck (aV e) (I.ok.cab x c hfn hc)))).trans e1⟩
  ·by_cases hj:j=i
   ·subst hj
    rw[hi] at e1;cases e1;rw[ke hiσ] at e2;cases e2;exact⟨u,r,.inr ⟨.inl hk,c,hc,hc'⟩⟩
   ·rw[List.getElem?_set_ne (cM hj)] at e2
    obtain⟨u',r',q⟩:=hl j y v' e1 e2 e3;apply⟨u',r',?_⟩
    rcases q with q | ⟨k,c',e,z'⟩
    ·exact .inl q
    ·apply .inr ⟨k,c',e,z'.sameBut hs ?_⟩
     rintro rfl;exact hj (nodup_ix hN e1 (I.ok.inj _ _ _ e hc ▸ hi))
  ·by_cases hcc:c'=c
   ·subst hcc;exact⟨_,hc'⟩
   ·obtain⟨w2,z2⟩:=I.cell y c' e
    exact⟨w2,z2.sameBut hs hcc⟩
  ·obtain⟨e,n,ne,nf,d⟩:=I.pin p hp
   apply⟨(hs.2 p.1 ?_).trans e,n,ne,nf,d⟩;intro q;rw[q,hoc] at e;have q':oc=p.2:=bF e;exact d w' (by rw[←q'];exact hocd)
theorem store_ok {v:V}{Q:Unit→au→Prop}(I:Inv X aL σ H s)(hN:X.N.Nodup)(hi:X.N[i]? =some x)(hx:Loc X.env.scope x)(r:iY v u)
  (h:∀s',Inv X aL (σ.set i (some v)) H s'→Q () s') (hf:X.fn x=true∨X.env.scope.names.lookup x=some .local:=by first | exact .inl rfl | exact .inr rfl | assumption):bc M A (storeName X.env x u) Q E s:=
 store_ok2 I hN hi hx r (λs' I' _=>h s' I') hf
theorem Inv.call' (I:Inv X aL σ H s)(ho:s'.os=s.os)(u:Un (frs X.stack) ch H H' s.heap s'.heap)(hok:HOk X.prog X.w H' s'.heap)(hg:AllBare s'.gens)
  (hch:∀b∈ch,(b∈X.ex∨X.s₀.heap.objs.size≤b)∧b≠X.env.locals∧(∀x c,X.env.cells.lookup x=some c→c≠b)∧∀p∈X.pn++aL,p.1≠b):Inv X aL σ H' s':=by
 obtain⟨h',g',d',t',o'⟩:=s';have e:o'=s.os:=ho;subst e;exact I.call (g':=g') (t':=t') (d':=d') u hok hg hch
end
abbrev XK:=af→Option aq→Hp→Prop
abbrev St:=List (Option V)
abbrev VK:=V→Hp→Prop
abbrev TE:=St→Hp→VK→Prop
abbrev TT:=St→Hp→(Bool→Hp→Prop)→Prop
abbrev TA:=St→Hp→(List V→Hp→Prop)→Prop
structure nc where
 nx:St→Hp→Prop
 rt:VK
 bk:St→Hp→Prop:=λ_ _=>False
 ct:St→Hp→Prop:=λ_ _=>False
abbrev TS:=nc→St→Hp→Prop
def EP (X:Cx)(aL:List (aq×Obj))(σ:St)(Q:VK)(u:af)(s':au):Prop:=∃v H',Inv X aL σ H' s'∧iY v u∧Q v H'
def TP (X:Cx)(aL:List (aq×Obj))(σ:St)(Q:Bool→Hp→Prop)(b:Bool)(s':au):Prop:=∃H',Inv X aL σ H' s'∧Q b H'
def AP (X:Cx)(aL:List (aq×Obj))(σ:St)(Q:List V→Hp→Prop)(us:List af)(s':au):Prop:=∃vs H',Inv X aL σ H' s'∧gZ vs us∧Q vs H'
def SP (X:Cx)(aL:List (aq×Obj))(D:nc)(f:Flow)(s':au):Prop:=
 match f with
 | .next=>∃σ' H',Inv X aL σ' H' s'∧D.nx σ' H'
 | .brk=>∃σ' H',Inv X aL σ' H' s'∧D.bk σ' H'
 | .cont=>∃σ' H',Inv X aL σ' H' s'∧D.ct σ' H'
 | .ret u=>∃v σ' H',Inv X aL σ' H' s'∧iY v u∧D.rt v H'
def PE (X:Cx)(e:Expr)(t:TE):Prop:=
 ∀(aL:List (aq×Obj)) (s:au) (σ:St) (H:Hp) (Q:VK),Inv X aL σ H s→t σ H Q→bc (bC X.prog X.w) X.A (dn e X.env) (EP X aL σ Q) X.xe s
def PT (X:Cx)(e:Expr)(t:TT):Prop:=
 ∀(aL:List (aq×Obj)) (s:au) (σ:St) (H:Hp) (Q:Bool→Hp→Prop),Inv X aL σ H s→t σ H Q→bc (bC X.prog X.w) X.A (isTrue e X.env (dn e X.env)) (TP X aL σ Q) X.xe s
def PW (X:Cx)(e:Expr)(t:TT):Prop:=
 ∀(whole:Sem af) (aL:List (aq×Obj)) (s:au) (σ:St) (H:Hp) (Q:Bool→Hp→Prop),Inv X aL σ H s→t σ H Q→bc (bC X.prog X.w) X.A (isTrue e X.env whole) (TP X aL σ Q) X.xe s
theorem PW.pt {X:Cx}{t:TT}(h:PW X e t):PT X e t:=h _
def PA (X:Cx)(es:List Expr)(t:TA):Prop:=
 ∀(pos:Pos) (aL:List (aq×Obj)) (s:au) (σ:St) (H:Hp) (Q:List V→Hp→Prop),Inv X aL σ H s→t σ H Q→bc (bC X.prog X.w) X.A (spliced (gH pos (bB es X.env))) (AP X aL σ Q) X.xe s
def PS (X:Cx)(st:cN)(t:TS):Prop:=
 ∀(aL:List (aq×Obj)) (s:au) (σ:St) (H:Hp) (D:nc),Inv X aL σ H s→t D σ H→bc (bC X.prog X.w) X.A (exec st X.env) (SP X aL D) X.xe s
def PSs (X:Cx)(st:List cN)(t:TS):Prop:=
 ∀(aL:List (aq×Obj)) (s:au) (σ:St) (H:Hp) (D:nc),Inv X aL σ H s→t D σ H→bc (bC X.prog X.w) X.A (execs st X.env) (SP X aL D) X.xe s
theorem thn {t:Sem α}{Q Q':α→au→Prop}(h:bc M A t Q E s)(hQ:∀a s,Q a s→Q' a s):bc M A t Q' E s:=cW h hQ λ_ _ x=>x
section
variable {X:Cx}
inductive HasV (o:Option (Option V))(k:V→Prop):Prop
 | mk (v:V)(h:o=some (some v))(q:k v):HasV o k
inductive IsBl (x:V)(k:Bool→Prop):Prop
 | mk (c:Bool)(h:x= .bl c)(q:k c):IsBl x k
def tVar (i:Nat):TE:=λσ H Q=>HasV σ[i]? λv=>Q v H
def tC (v:V):TE:=λ_ H Q=>Q v H
theorem pe_var (hN:X.N[i]? =some x)(hv:Vis X.env.scope x)(hd:(x == ("__debug__" :Str))=false:=by decide)(hcd:(x == ("__classdict__" :Str))=false:=by decide):PE X (.Name x pos) (tVar i):=by
 intro aL s σ H Q I h;obtain⟨v,e,h⟩:=h;obtain⟨m,hn,hl⟩:=I.loc;obtain⟨u,r,l⟩:=hl i x v hN e hv;have fin:EP X aL σ Q u s:=⟨v,H,I,r,h⟩
 rcases l with ⟨hk,hm⟩ | ⟨hk,c,hc,oa⟩
 ·exact wpAny_Name (wpAny_loadName_local I.ok.kind hk hn hm fin) hd
 ·rcases hk with hk | hk
  ·exact wpAny_Name (wpAny_loadName_cell I.ok.kind hk hc oa fin) hd
  ·exact wpAny_Name (wpAny_loadName_free I.ok.kind hk hc oa fin hcd) hd
theorem aC {i j pos}:PE X (.Constant (.int i) j pos) (tC (.int i)):=λ_ _ _ H _ I h=>wpAny_Constant_int ⟨.int i,H,I.tok _,⟨_,rfl⟩,h⟩
theorem qy {b j pos}:PE X (.Constant (.bool b) j pos) (tC (.bl b)):=λ_ _ _ H _ I h=>Constant_bool ⟨.bl b,H,I,rfl,h⟩
theorem ir {j pos}:PE X (.Constant .none j pos) (tC .non):=λ_ _ _ H _ I h=>Constant_none ⟨.non,H,I,rfl,h⟩
theorem dU {x j pos}:PE X (.Constant (.str x) j pos) (tC (.str x)):=λ_ _ _ H _ I h=>Calls.Constant_str ⟨.str x,H,I.tok _,⟨_,rfl⟩,h⟩
def Gl (X:Cx)(x:Str):Prop:=X.env.kindOf x=some .globalImplicit
theorem mV {σ:St}{H:Hp}(I:Inv X aL σ H s)(hg:Gl X x)(hm:X.mg x=some u)(h:Q u s)
  (hd:(x == ("__debug__" :Str))=false:=by decide):bc (bC X.prog X.w) X.A (dn (.Name x pos) X.env) Q E s:=
 Calls.Name_function_global I.ok.kind hg (Calls.loadGlobal_global (by rw[I.ok.glob];exact I.mod.glob.keeps I.bk) hm h) hd
theorem oK {σ:St}{H:Hp}(I:Inv X aL σ H s)(hg:Gl X x)(hm:X.mg x=none)(hv:bootBuiltins x=some u)(h:Q u s)
  (hn:x ≠ "__name__":=by decide) (hd:(x == ("__debug__" :Str))=false:=by decide):bc (bC X.prog X.w) X.A (dn (.Name x pos) X.env) Q E s:=by
 obtain⟨mb,h1,h2⟩:=I.mod.blt;exact Calls.Name_function_global I.ok.kind hg (Calls.loadGlobal_builtin (by rw[I.ok.glob];exact I.mod.glob.keeps I.bk) hm (by rw[I.ok.blt];exact h1.keeps I.bk) ((h2 x hn).trans hv) h) hd
theorem mP {v:V}(hg:Gl X x)(hm:X.mg x=some u)(r:iY v u)(hd:(x == ("__debug__" :Str))=false:=by decide):PE X (.Name x pos) (tC v):=
 λ_ _ _ H _ I h=>mV I hg hm ⟨v,H,I,r,h⟩ hd
theorem pe_bltn {v:V}(hg:Gl X x)(hm:X.mg x=none)(hv:bootBuiltins x=some u)(r:iY v u)(hn:x ≠ "__name__":=by decide)(hd:(x == ("__debug__" :Str))=false:=by decide):PE X (.Name x pos) (tC v):=
 λ_ _ _ H _ I h=>oK I hg hm hv ⟨v,H,I,r,h⟩ hn hd
variable {a b:Expr}{ta tb:TE}
def PC (X:Cx)(op:CmpOp)(a b:Expr)(t:TE):Prop:=
 ∀(aL:List (aq×Obj)) (s:au) (σ:St) (H:Hp) (Q:VK),Inv X aL σ H s→t σ H Q →
  bc (bC X.prog X.w) X.A (dn a X.env) (λv s₁=>bc (bC X.prog X.w) X.A (dn b X.env) (λu s₂=>bc (bC X.prog X.w) X.A (dA op v u) (EP X aL σ Q) X.xe s₂) X.xe s₁) X.xe s
def tB (t:TE):TT:=λσ H Q=>t σ H λx H1=>IsBl x λc=>Q c H1
theorem pt_cmp {t:TE}(h:PC X op a b t)(h1:behindInMarks op b=false:=by first | exact nobehind _ ↥0 ↥0 | rfl):PT X (.Compare a [op] [b] pos) (tB t):=by
 intro aL s σ H Q I hw;apply wpAny_isTrue_Compare1 (thn (h aL s σ H _ I hw) λv s1 h1=>thn h1 λu s2 h2=>thn h2 λc s3 hz0=>?_) h1;obtain⟨x,H1,I1,r1,q1⟩:=hz0;obtain⟨d,rfl,q⟩:=q1;cases r1;exact fq ⟨H1,I1,q⟩
theorem kr {t:TE}(h:PE X e t)(he:∀whole,isTrue e X.env whole=(do let v ← whole;standAt e.pos;holding [v] (truthy v)):=by intro _;rfl):PT X e (tB t):=by
 intro aL s σ H Q I hw;apply isTrue_plain (thn (h aL s σ H _ I hw) λv s1 hz0=>?_) (he _);obtain⟨x,H1,I1,r1,q1⟩:=hz0;obtain⟨d,rfl,q⟩:=q1;cases r1;exact fq ⟨H1,I1,q⟩
variable {tA tB':TT} {rest:List Expr}
def tAnd (t u:TT):TT:=λσ H Q=>t σ H λc H1=>if c=true then u σ H1 Q else Q false H1
def tOr (t u:TT):TT:=λσ H Q=>t σ H λc H1=>if c=true then Q true H1 else u σ H1 Q
def tNot (t:TT):TT:=λσ H Q=>t σ H λc H1=>Q (!c) H1
theorem lU (ha:PT X a tA):PW X (.BoolOp .And [a] pos) tA:=by
 intro wh aL s σ H Q I h;apply isTrue_and (thn (ha aL s σ H Q I h) λc s1 e=>?_);cases c with
 | true=>exact isTrue_and_nil e
 | false=>exact e
theorem kq (ha:PT X a tA):PW X (.BoolOp .Or [a] pos) tA:=by
 intro wh aL s σ H Q I h;apply isTrue_or (thn (ha aL s σ H Q I h) λc s1 e=>?_);cases c with
 | false=>exact isTrue_or_nil e
 | true=>exact e
theorem nN (ha:PT X a tA)(hb:PW X (.BoolOp .And (b::rest) pos) tB'):PW X (.BoolOp .And (a::b::rest) pos) (tAnd tA tB'):=by
 intro wh aL s σ H Q I h;apply isTrue_and (thn (ha aL s σ H _ I h) λc s1 hz0=>?_);obtain⟨H1,I1,q1⟩:=hz0;cases c with
 | true=>exact hb wh aL s1 σ H1 Q I1 q1
 | false=>exact⟨H1,I1,q1⟩
theorem ma (ha:PT X a tA)(hb:PW X (.BoolOp .Or (b::rest) pos) tB'):PW X (.BoolOp .Or (a::b::rest) pos) (tOr tA tB'):=by
 intro wh aL s σ H Q I h;apply isTrue_or (thn (ha aL s σ H _ I h) λc s1 hz0=>?_);obtain⟨H1,I1,q1⟩:=hz0;cases c with
 | true=>exact⟨H1,I1,q1⟩
 | false=>exact hb wh aL s1 σ H1 Q I1 q1
theorem mI (ha:PT X a tA):PT X (.UnaryOp .Not a pos) (tNot tA):=by
 intro aL s σ H Q I h;exact isTrue_not (ha aL s σ H (λc H1=>Q (!c) H1) I h)
def tAndV (ta tb:TE):TE:=λσ H Q=>ta σ H λx H1=>IsBl x λc=>if c=true then tb σ H1 Q else Q (.bl false) H1
def tOrV (ta tb:TE):TE:=λσ H Q=>ta σ H λx H1=>IsBl x λc=>if c=true then Q (.bl true) H1 else tb σ H1 Q
def tNotV (ta:TE):TE:=λσ H Q=>ta σ H λx H1=>IsBl x λc=>Q (.bl (!c)) H1
theorem nP {op}{t:TE}(h:PE X a t):PE X (.BoolOp op [a] pos) t:=λaL s σ H Q I hw=>BoolOp_one (h aL s σ H Q I hw)
theorem mQ (ha:PE X a ta)(hb:PE X (.BoolOp .And (b::rest) pos) tb):PE X (.BoolOp .And (a::b::rest) pos) (tAndV ta tb):=by
 intro aL s σ H Q I h;apply BoolOp_and (thn (ha aL s σ H _ I h) λv s1 hz0=>?_);obtain⟨x,H1,I1,r1,q1⟩:=hz0;obtain⟨c,rfl,q1⟩:=q1;cases r1;apply fq ?_;cases c with
 | true=>exact hb aL s1 σ H1 Q I1 q1
 | false=>exact⟨.bl false,H1,I1,rfl,q1⟩
theorem pe_or (ha:PE X a ta)(hb:PE X (.BoolOp .Or (b::rest) pos) tb):PE X (.BoolOp .Or (a::b::rest) pos) (tOrV ta tb):=by
 intro aL s σ H Q I h;apply BoolOp_or (thn (ha aL s σ H _ I h) λv s1 hz0=>?_);obtain⟨x,H1,I1,r1,q1⟩:=hz0;obtain⟨c,rfl,q1⟩:=q1;cases r1;apply fq ?_;cases c with
 | false=>exact hb aL s1 σ H1 Q I1 q1
 | true=>exact⟨.bl true,H1,I1,rfl,q1⟩
theorem pe_not (ha:PE X a ta):PE X (.UnaryOp .Not a pos) (tNotV ta):=by
 intro aL s σ H Q I h;apply UnaryOp_ (thn (ha aL s σ H _ I h) λv s1 hz0=>?_);obtain⟨x,H1,I1,r1,q1⟩:=hz0;obtain⟨c,rfl,q1⟩:=q1;cases r1;exact not_of (fq ⟨.bl (!c),H1,I1,rfl,q1⟩)
def tIf (t:TT)(ta tb:TE):TE:=λσ H Q=>t σ H λc H1=>if c=true then ta σ H1 Q else tb σ H1 Q
theorem pe_ifExp {c:Expr}(hc:PT X c tA)(ha:PE X a ta)(hb:PE X b tb):PE X (.IfExp c a b pos) (tIf tA ta tb):=by
 intro aL s σ H Q I h;apply wpAny_IfExp (thn (hc aL s σ H _ I h) λd s1 hz0=>?_);obtain⟨H1,I1,q1⟩:=hz0;cases d with
 | true=>exact ha aL s1 σ H1 Q I1 q1
 | false=>exact hb aL s1 σ H1 Q I1 q1
end
def SqL (K:ak)(H:Hp)(a:aq)(xs:List V):Prop:=
 Rd H a (.lst xs) ∨
  ∃(o:Obj) (its:Array af) (n:Nat),K.lookup a=some o∧o.cls= .type "list" ∧o.dict=none∧o.data= .seq its n∧its.size≤ax∧gZ xs its.toList
def SqT (K:ak)(H:Hp)(a:aq)(xs:List V):Prop:=
 Rd H a (.tup xs) ∨
  ∃(o:Obj) (its:Array af) (n:Nat),K.lookup a=some o∧o.cls= .type "tuple" ∧o.data= .seq its n∧its.size≤ax∧gZ xs its.toList
def absV:af→Option V
 | .none=>some .non
 | .bool b=>some (.bl b)
 | .int i _=>some (.int i)
 | .str x _=>some (.str x)
 | .bytes b _=>some (.byt b)
 | .float b _=>some (.flt b)
 | .ref a=>some (.ref a)
 | .type n=>some (.ty n)
 | _=>none
theorem iY.abs {x:V}(r:iY x u):absV u=some x:=by
 cases x with
 | non=>cases r;rfl
 | bl _=>cases r;rfl
 | int _=>obtain⟨t,rfl⟩:=r;rfl
 | str _=>obtain⟨t,rfl⟩:=r;rfl
 | byt _=>obtain⟨t,rfl⟩:=r;rfl
 | flt _=>obtain⟨t,rfl⟩:=r;rfl
 | ref _=>cases r;rfl
 | ty _=>cases r;rfl
theorem iY.inj {x y:V}(r:iY x u)(q:iY y u):x=y:=bF (r.abs.symm.trans q.abs)
theorem gZ.inj:∀{xs ys:List V} {us:List af},gZ xs us→gZ ys us→xs=ys
 | _,_,_,.nil,.nil=>rfl
 | _,_,_,.cons r t,.cons r' t'=>by rw[r.inj r',gZ.inj t t']
section
variable {X:Cx}{σ:St}{H:Hp}{xs ys:List V}
theorem zL (h:H a=some (.lst xs)):SqL K H a xs:=.inl (.inl h)
theorem zT (h:H a=some (.tup xs)):SqT K H a xs:=.inl (.inl h)
theorem Inv.list (I:Inv X aL σ H s)(h:SqL X.K H a xs):∃its:List af,gZ xs its∧PlainL s.heap a its.toArray∧xs.length≤ax:=by
 rcases h with h | ⟨o,its,n,hk,hc,hd,hs,hz,r⟩
 ·obtain⟨z,its,n,r,e⟩:=h.ok I.hok
  exact⟨its,r,⟨_,n,e,rfl,rfl,rfl⟩,z⟩
 ·apply⟨its.toList,r,⟨o,n,I.kIn a o hk,hc,hd,by simpa using hs⟩,?_⟩
  have e:=r.length;simp only[gS] at e;lia
theorem Inv.tuple (I:Inv X aL σ H s)(h:SqT X.K H a xs):∃its:List af,gZ xs its∧IsTup s.heap a its.toArray∧xs.length≤ax:=by
 rcases h with h | ⟨o,its,n,hk,hc,hs,hz,r⟩
 ·obtain⟨z,its,r,p⟩:=h.ok I.hok
  exact⟨its,r,p.tup,z⟩
 ·apply⟨its.toList,r,⟨o,I.kIn a o hk,hc,n,by simpa using hs⟩,?_⟩
  have e:=r.length;simp only[gS] at e;lia
theorem Inv.list_inj (I:Inv X aL σ H s)(h:SqL X.K H a xs)(h':SqL X.K H a ys):xs=ys:=by
 obtain⟨its,r,⟨o,n,e,_,_,d⟩,_⟩:=I.list h;obtain⟨its',r',⟨o',n',e',_,_,d'⟩,_⟩:=I.list h';rw[e] at e';cases e';rw[d] at d';injection d' with d1 _
 have:its=its':=by simpa using rR Array.toList d1
 subst this;exact r.inj r'
end
abbrev Cx.wish (X:Cx)(E:af→au→Prop):Cx:={ X with xe:=E }
abbrev Cx.nox (X:Cx):Cx:=X.wish λ_ _=>False
theorem Cx.Ok.wish {X:Cx}(ok:X.Ok)(E:af→au→Prop):(X.wish E).Ok:=
 ⟨ok.mod,ok.kind,ok.glob,ok.blt,ok.above,ok.inj,ok.has,ok.cab,ok.hd,ok.frames,ok.stk,ok.exf,ok.bs,ok.bsz,ok.noex,ok.exfs,ok.funs,ok.frf⟩
theorem Cx.Ok.unwish {X:Cx}(ok:(X.wish E).Ok):X.Ok:=
 ⟨ok.mod,ok.kind,ok.glob,ok.blt,ok.above,ok.inj,ok.has,ok.cab,ok.hd,ok.frames,ok.stk,ok.exf,ok.bs,ok.bsz,ok.noex,ok.exfs,ok.funs,ok.frf⟩
section
variable {X:Cx}{σ:St}{H:Hp}
theorem Inv.wish (I:Inv X aL σ H s)(E:af→au→Prop):Inv (X.wish E) aL σ H s:=⟨I.ok.wish E,I.os,I.bare,I.base,I.loc,I.cell,I.free,I.freeC,I.pin,I.hok,I.len⟩
theorem Inv.unwish (I:Inv (X.wish E) aL σ H s):Inv X aL σ H s:=⟨I.ok.unwish,I.os,I.bare,I.base,I.loc,I.cell,I.free,I.freeC,I.pin,I.hok,I.len⟩
theorem SP.unwish {D:nc}{f:Flow}(h:SP (X.wish E) aL D f s'):SP X aL D f s':=by
 cases f with
 | next=>obtain⟨σ',H',I,q⟩:=h;exact⟨σ',H',I.unwish,q⟩
 | brk=>obtain⟨σ',H',I,q⟩:=h;exact⟨σ',H',I.unwish,q⟩
 | cont=>obtain⟨σ',H',I,q⟩:=h;exact⟨σ',H',I.unwish,q⟩
 | ret u=>obtain⟨v,σ',H',I,r,q⟩:=h;exact⟨v,σ',H',I.unwish,r,q⟩
theorem PSs.nox {st:List cN}{t:TS}(h:PSs X.nox st t):PSs X st t:=λaL s σ H D I hw =>
 cW (h aL s σ H D (I.wish _) hw) (λ_ _ q=>q.unwish) λ_ _ z=>eF z
end
section
variable {X:Cx}{rest:List cN}{t u:TS}{te:TE}
def tNext:TS:=λD σ H=>D.nx σ H
def iW (t u:TS):TS:=λD σ H=>t { D with nx:=u D } σ H
theorem cv:PSs X [] tNext:=λ_ _ σ H _ I h=>wpAny_execs_nil ⟨σ,H,I,h⟩
theorem sq1 {a0 a1:TS}{D:nc}{σ:St}{H:Hp}(h:let r1:=a1;iW a0 r1 D σ H):(iW a0 a1) D σ H:=h
theorem sq2 {a0 a1 a2:TS}{D:nc}{σ:St}{H:Hp}(h:let r2:=a2;let r1:=iW a1 r2;iW a0 r1 D σ H):(iW a0 (iW a1 a2)) D σ H:=h
theorem sq3 {a0 a1 a2 a3:TS}{D:nc}{σ:St}{H:Hp}(h:let r3:=a3;let r2:=iW a2 r3;let r1:=iW a1 r2;iW a0 r1 D σ H):(iW a0 (iW a1 (iW a2 a3))) D σ H:=h
theorem sq4 {a0 a1 a2 a3 a4:TS}{D:nc}{σ:St}{H:Hp}(h:let r4:=a4;let r3:=iW a3 r4;let r2:=iW a2 r3;let r1:=iW a1 r2;iW a0 r1 D σ H):(iW a0 (iW a1 (iW a2 (iW a3 a4)))) D σ H:=h
theorem sq5 {a0 a1 a2 a3 a4 a5:TS}{D:nc}{σ:St}{H:Hp}(h:let r5:=a5;let r4:=iW a4 r5;let r3:=iW a3 r4;let r2:=iW a2 r3;let r1:=iW a1 r2;iW a0 r1 D σ H):(iW a0 (iW a1 (iW a2 (iW a3 (iW a4 a5))))) D σ H:=h
theorem sq6 {a0 a1 a2 a3 a4 a5 a6:TS}{D:nc}{σ:St}{H:Hp}(h:let r6:=a6;let r5:=iW a5 r6;let r4:=iW a4 r5;let r3:=iW a3 r4;let r2:=iW a2 r3;let r1:=iW a1 r2;iW a0 r1 D σ H):(iW a0 (iW a1 (iW a2 (iW a3 (iW a4 (iW a5 a6)))))) D σ H:=h
theorem sq7 {a0 a1 a2 a3 a4 a5 a6 a7:TS}{D:nc}{σ:St}{H:Hp}(h:let r7:=a7;let r6:=iW a6 r7;let r5:=iW a5 r6;let r4:=iW a4 r5;let r3:=iW a3 r4;let r2:=iW a2 r3;let r1:=iW a1 r2;iW a0 r1 D σ H):(iW a0 (iW a1 (iW a2 (iW a3 (iW a4 (iW a5 (iW a6 a7))))))) D σ H:=h
theorem sq8 {a0 a1 a2 a3 a4 a5 a6 a7 a8:TS}{D:nc}{σ:St}{H:Hp}(h:let r8:=a8;let r7:=iW a7 r8;let r6:=iW a6 r7;let r5:=iW a5 r6;let r4:=iW a4 r5;let r3:=iW a3 r4;let r2:=iW a2 r3;let r1:=iW a1 r2;iW a0 r1 D σ H):(iW a0 (iW a1 (iW a2 (iW a3 (iW a4 (iW a5 (iW a6 (iW a7 a8)))))))) D σ H:=h
theorem cZ (h1:PS X st t)(h2:PSs X rest u):PSs X (st::rest) (iW t u):=by
 intro aL s σ H D I h;apply wpAny_execs_cons (thn (h1 aL s σ H { D with nx:=u D } I h) λf s1 q=>?_);cases f with
 | next =>
  obtain⟨σ',H',I',q⟩:=q;exact h2 aL s1 σ' H' D I' q
 | ret v=>exact q
 | brk=>exact q
 | cont=>exact q
theorem bD (h1:PS X st t):PSs X [st] t:=by
 intro aL s σ H D I h;apply wpAny_execs_cons (thn (h1 aL s σ H D I h) λf s1 q=>?_);cases f with
 | next=>exact wpAny_execs_nil q
 | ret v=>exact q
 | brk=>exact q
 | cont=>exact q
theorem Inv.quiet {σ:St}{H:Hp}(I:Inv X aL σ H s):interactive X.env=false:=by simp[interactive,I.ok.kind]
def tDrop (te:TE):TS:=λD σ H=>te σ H λ_ H1=>D.nx σ H1
theorem hW (he:PE X e te)(hs:lG e none pos.line X.env=iJ false:=by rfl):PS X (.Expr e pos) (tDrop te):=by
 intro aL s σ H D I h;exact wpAny_Expr_any (thn (he aL s σ H _ I h) λv s1 ⟨x,H1,I1,r1,q1⟩=>⟨σ,H1,I1,q1⟩) I.quiet hs
def tRet (te:TE):TS:=λD σ H=>te σ H D.rt
theorem cb (he:PE X e te):PS X (.Return (some e) pos) (tRet te):=by
 intro aL s σ H D I h;exact wpAny_Return_some (thn (he aL s σ H _ I h) λv s1 ⟨x,H1,I1,r1,q1⟩=>⟨x,σ,H1,I1,r1,q1⟩)
def tIfS (c:TT)(t u:TS):TS:=λD σ H=>c σ H λb H1=>if b=true then t D σ H1 else u D σ H1
theorem eO {c:Expr}{a b:List cN}{tc:TT}(hc:PT X c tc)(ha:PSs X a t)(hb:PSs X b u):PS X (.If c a b pos) (tIfS tc t u):=by
 intro aL s σ H D I h;apply wpAny_If (thn (hc aL s σ H _ I h) λd s1 hz0=>?_);obtain⟨H1,I1,q1⟩:=hz0;cases d with
 | true=>exact ha aL s1 σ H1 D I1 q1
 | false=>exact hb aL s1 σ H1 D I1 q1
def tNever:TS:=λ_ _ _=>False
theorem mz:PS X st tNever:=λ_ _ _ _ _ _ h=>h.elim
end
abbrev TG:=V→St→Hp→(St→Hp→Prop)→Prop
abbrev TGs:=List V→St→Hp→(St→Hp→Prop)→Prop
def PG (X:Cx)(target:Expr)(t:TG):Prop:=
 ∀(aL:List (aq×Obj)) (s:au) (σ:St) (H:Hp) (v:V) (u:af) (Q:St→Hp→Prop),Inv X aL σ H s→iY v u→t v σ H Q →
  bc (bC X.prog X.w) X.A (assign target X.env u) (λ_ s'=>∃σ' H',Inv X aL σ' H' s'∧Q σ' H') X.xe s
def PGs (X:Cx)(ts:List Expr)(t:TGs):Prop:=
 ∀(aL:List (aq×Obj)) (s:au) (σ:St) (H:Hp) (vs:List V) (us:List af) (Q:St→Hp→Prop),Inv X aL σ H s→gZ vs us→t vs σ H Q →
  bc (bC X.prog X.w) X.A (assignInOrder ((assignEach ts X.env).map (·.2)) us) (λ_ s'=>∃σ' H',Inv X aL σ' H' s'∧Q σ' H') X.xe s
abbrev TSet:=V→V→V→Hp→(Hp→Prop)→Prop
def PSet (X:Cx)(t:TSet):Prop:=
 ∀(aL:List (aq×Obj)) (s:au) (σ:St) (H:Hp) (o i v:V) (ov iv u:af) (Q:Hp→Prop),Inv X aL σ H s→iY o ov→iY i iv→iY v u→t o i v H Q →
  bc (bC X.prog X.w) X.A (setItem ov iv u) (λ_ s'=>∃H',Inv X aL σ H' s'∧Q H') X.xe s
section
variable {X:Cx}
def oP (i:Nat):TG:=λv σ H Q=>Q (σ.set i (some v)) H
theorem pg_name (hN:X.N.Nodup)(hi:X.N[i]? =some x)(hx:Loc X.env.scope x)(hf:X.fn x=true∨X.env.scope.names.lookup x=some .local:=by first | exact .inl rfl | exact .inr rfl | assumption):PG X (.Name x pos) (oP i):=by
 intro aL s σ H v u Q I r h;exact wpAny_assign_Name (store_ok I hN hi hx r (λs' I'=>⟨_,H,I',h⟩) hf)
def gNil:TGs:=λvs σ H Q=>vs=[]∧Q σ H
def gCons (t:TG)(u:TGs):TGs:=λvs σ H Q=>∃v r,vs=v::r∧t v σ H λσ' H'=>u r σ' H' Q
theorem pw:PGs X [] gNil:=by
 intro aL s σ H vs us Q I r h;obtain⟨e,h⟩:=h;subst e;cases r;exact assignInOrder_nil ⟨σ,H,I,h⟩
theorem iK {t:TG}{u:TGs}(h1:PG X e t)(h2:PGs X es u)
  (hs:(assignEach (e::es) X.env).map (·.2)=assign e X.env::(assignEach es X.env).map (·.2):=by rfl):PGs X (e::es) (gCons t u):=by
 intro aL s σ H vs us Q I r h;obtain⟨v,vr,e1,h⟩:=h;subst e1;cases r with
 | cons r rr =>
  rw[hs];apply assignInOrder_cons (thn (h1 aL s σ H _ _ _ I r h) λ_ s1 hz0=>?_);obtain⟨σ1,H1,I1,q1⟩:=hz0;exact h2 aL s1 σ1 H1 _ _ Q I1 rr q1
def gTup (K:ak)(n:Nat)(t:TGs):TG:=λv σ H Q=>∃a xs,v= .ref a∧SqT K H a xs∧xs.length=n∧t xs σ H Q
theorem rB {t:TGs}(hc:X.calm=true)(h:PGs X es t)
  (hn:(assignEach es X.env).length=n:=by rfl) (hst:(assignEach es X.env).findIdx? (·.1)=none:=by rfl):PG X (.Tuple es k pos) (gTup X.K n t):=by
 intro aL s σ H v u Q I r hw;obtain⟨a,xs,e1,hq,hl,hw⟩:=hw;subst e1;cases r;obtain⟨its,rv,ht,hz⟩:=I.tuple hq;apply assign_Tuple_tuple (I.ok.hd hc) ht (by simp[hn,←hl,rv.length]) hst λh' hx=>?_
 have I1:Inv X aL σ H { s with heap:=h' }:=I.kept (t':=s.toks) λb o e=>hx b o (cz (aV e)) e
 exact h aL _ σ H xs _ Q I1 (by simpa using rv) hw
def gSub (to ti:TE)(t:TSet):TG:=λv σ H Q=>to σ H λo H1=>ti σ H1 λi H2=>t o i v H2 λH3=>Q σ H3
theorem pg_sub {o i:Expr}{to ti:TE}{t:TSet}(ho:PE X o to)(hi:PE X i ti)(hs:PSet X t)
  (ha:∀ v,assign (.Subscript o i pos) X.env v=(do
   let ov ← holding [v] (dn o X.env)
   let iv ← holding [v,ov] (dn i X.env)
   standAt pos
   holding [v,ov,iv] (setItem ov iv v)
   release [v,ov,iv] []):=by intro _;rfl):PG X (.Subscript o i pos) (gSub to ti t):=by
 intro aL s σ H v u Q I r h;rw[ha];apply ai (gx (thn (ho aL s σ H _ I h) λov s1 hz0=>?_));obtain⟨x,H1,I1,r1,q1⟩:=hz0;apply ai (gx (thn (hi aL s1 σ H1 _ I1 q1) λiv s2 hz0=>?_));obtain⟨y,H2,I2,r2,q2⟩:=hz0;apply ai (wpAny_standAt (ai (gx (thn (hs aL s2 σ H2 x y v ov iv u _ I2 r1 r2 r q2) λ_ s3 hz0=>?_))));obtain⟨H3,I3,q3⟩:=hz0;exact wpAny_release ⟨σ,H3,I3,q3⟩
def tAsg (te:TE)(g:TG):TS:=λD σ H=>te σ H λx H1=>g x σ H1 D.nx
theorem ps_asg {te:TE}{g:TG}(he:PE X e te)(hg:PG X tg g)(hs:swapsWithSole [tg] e pos.line X.env=iJ false:=by rfl)(hw:swappedStores [tg] e X.env=iJ none:=by rfl)
  (h1:(assignEach [tg] X.env).map (·.2)=[assign tg X.env]:=by rfl):PS X (.Assign [tg] e pos) (tAsg te g):=by
 intro aL s σ H D I h;apply wpAny_Assign_stores (thn (he aL s σ H _ I h) λv s1 hz0=>?_) hs hw;obtain⟨x,H1,I1,r1,q1⟩:=hz0;rw[h1];exact thn (hg aL s1 σ H1 x v _ I1 r1 q1) λ_ s2 q=>q
theorem ps_set {te:TE}(hN:X.N.Nodup)(hi:X.N[i]? =some x)(hx:Loc X.env.scope x)(he:PE X e te)(hs:lG e (some (.Name x pos')) pos.line X.env=iJ false:=by rfl)(hf:X.fn x=true∨X.env.scope.names.lookup x=some .local:=by first | exact .inl rfl | exact .inr rfl | assumption) :
  PS X (.Assign [.Name x pos'] e pos) (tAsg te (oP i)):=by
 intro aL s σ H D I h;apply wpAny_Assign_Name (thn (he aL s σ H _ I h) λv s1 hz0=>?_) hs;obtain⟨y,H1,I1,r1,q1⟩:=hz0;exact store_ok I1 hN hi hx r1 (λs2 I2=>⟨_,H1,I2,q1⟩) hf
end
structure It where
 go:Nat→Hp→Prop
 yld:Nat→Hp→V→Hp→Prop
 stop:Nat→Hp→Prop
end L2
variable {CW:L2.St→L2.VK→L2.It→L2.Hp→Prop}{H H' H0 H1 H2 HA:L2.Hp}{PASS:List (PySem.Str×aq)→aq→au→L2.Hp→List aq→Prop}{X:L2.Cx}{a0 a1 a2 a3 tb:L2.TS}{dvs xs ys:List L2.V}{g:L2.TG}{kvs:List (List L2.Key×L2.V)}{lb ts:List (List L2.V)}{o:L2.HO}{r':L2.V→Option Int→Option Int→L2.Hp→L2.VK→Prop}{ta td te to:L2.TE}{tt:L2.TT}{v y:L2.V}{σ:L2.St}
namespace L2
open PySem PySem.Spec PyProof.Rows
def FpOk (X:Cx)(aL:List (aq×Obj))(H:Hp)(b:aq):Prop:=
 H b=none∧b≠X.env.locals∧b ∉ X.fs∧(b∈X.ex∨X.s₀.heap.objs.size≤b)∧(∀x c,X.env.cells.lookup x=some c→c≠b)∧∀p∈X.pn++aL,p.1≠b
theorem Inv.fpOk {b:aq}(I:Inv X aL σ H s)(hb:s.heap.objs.size≤b)(hn:H' b=none):FpOk X aL H' b:=by
 apply⟨hn,i8 (ck I.lt hb),I.nofs hb,.inr (cB I.sz hb),λx c e z=>?_,λp hp z=>?_⟩
 ·obtain⟨v,q⟩:=I.cell x c e
  exact rM (ck q.lt (by rw[z];exact hb)) (hV _)
 ·exact rM (ck (aV (I.pin p hp).1) (by rw[z];exact hb)) (hV _)
structure Turn (P:aN)(w:bq)(K:ak)(tg:Expr)(J:It)(fp:List aq)(it:aq)(tn:Nat→bP→Prop):Prop where
 mem:it∈fp
 obj:∀i h,tn i h→∀b∈fp,∃o,h.get? b=some o∧∀v,o.data≠ .cell v
 keep:∀i h h',tn i h→(∀b∈fp,∀o,h.get? b=some o→h'.get? b=some o)→tn i h'
 item:∀(X:Cx),X.prog=P→X.w=w→X.K=K→X.calm=true→∀(i:Nat) (aL:List (aq×Obj)) (s:au) (σ:St) (H:Hp) (E:af→au→Prop),Inv X aL σ H s→(∀b∈fp,FpOk X aL H b)→tn i s.heap→J.go i H →
  bc (bC P w) X.A (pyNext (.ref it)) (fun r s1=>∃ u,r=some u ∧
   bc (bC P w) X.A (md tg (.ref it) u) (fun _ s2=>∃ x H',Inv X aL σ H' s2∧iY x u∧J.yld i H x H'∧tn (i+1) s2.heap∧∀ b∈fp,H' b=none) E s1) E s
 done:∀(X:Cx),X.prog=P→X.w=w→X.K=K→X.calm=true→∀(i:Nat) (aL:List (aq×Obj)) (s:au) (σ:St) (H:Hp) (E:af→au→Prop),Inv X aL σ H s→(∀b∈fp,FpOk X aL H b)→tn i s.heap→J.stop i H →
  bc (bC P w) X.A (pyNext (.ref it)) (λr s1=>r=none∧Inv X aL σ H s1) E s
 self:∀(A:cp) (i:Nat) (s:au) (Q:af→au→Prop) (E:af→au→Prop),tn i s.heap→Q (.ref it) s→bc (bC P w) A (pyIter (.ref it)) Q E s
abbrev TI:=St→Hp→(It→Hp→Prop)→Prop
def PIE (X:Cx)(aL:List (aq×Obj))(σ:St)(tg:Expr)(R:It→Hp→Prop)(itv:af)(s2:au):Prop:=
 ∃(it:aq) (fp:List aq) (tn:Nat→bP→Prop) (J:It) (H':Hp),itv= .ref it∧Inv X aL σ H' s2∧Turn X.prog X.w X.K tg J fp it tn∧tn 0 s2.heap∧(∀b∈fp,FpOk X aL H' b)∧R J H'
def PI (X:Cx)(tg iter:Expr)(wi:TI):Prop:=
 ∀(aL:List (aq×Obj)) (s:au) (σ:St) (H:Hp) (R:It→Hp→Prop),Inv X aL σ H s→wi σ H R →
  bc (bC X.prog X.w) X.A (dn iter X.env) (λv s1=>bc (bC X.prog X.w) X.A (pyIter v) (PIE X aL σ tg R) X.xe s1) X.xe s
theorem go_of {o:Obj}{n:String}{vs:Array af}{Q:Unit→au→Prop}(ho:s.heap.get? it=some o)(hc:o.cls= .type n)(hd:o.data= .fields vs)
  (hn:["enumerate","zip","dict_itemiterator","dict_reverseitemiterator","odict_iterator","itertools.zip_longest","itertools.pairwise"].contains n=false) (hQ:Q () s):bc M A (md tg (.ref it) u) Q E s:=by
 unfold md;cases tg <;> first
  | exact aI hQ
  | (cases u <;> first
    | exact aI hQ
    | (apply ai (wpAny_load ho ?_)
       rw[hc,hd];show bc M A (if (["enumerate","zip","dict_itemiterator","dict_reverseitemiterator","odict_iterator","itertools.zip_longest","itertools.pairwise"].contains n && vs[0]? == some (kP _))=true then _ else _) Q E s;rw[rK (by intro h;rw[hn,km] at h;cases h)];exact aI hQ))
def Itl (K:ak)(a:aq):It:=
 ⟨λi H=>∃xs x,SqL K H a xs∧xs[i]? =some x,λi H x H'=>H'=H∧∀xs,SqL K H a xs→xs[i]? =some x,λi H=>∃xs,SqL K H a xs∧xs.length≤i⟩
def Itr (lo:Int)(n:Nat):It:=⟨λi _=>i<n,λi H x H'=>H'=H∧x= .int (lo+i),λi _=>n≤i⟩
theorem turn_list (a it:aq):Turn P w K tg (Itl K a) [it] it (λi h=>h.IsListIter it a i) where
 mem:=by simp
 obj:=λi h st b hb=>by
  have e:b=it:=by simpa using hb
  subst e;obtain⟨o,e,c,d⟩:=st;exact⟨o,e,λv z=>by rw[d] at z;cases z⟩
 keep:=λi h h' st k=>st.at λo e=>k it ∅ o e
 item:=by
  intro X hP hw hK hc i aL s σ H E I hf st hg;subst hP hw hK;obtain⟨xs,x,hq,hx⟩:=hg;obtain⟨its,rv,p,hz⟩:=I.list hq;obtain⟨u,hu,ru⟩:=rv.get hx;obtain⟨f0,f1,f2,f3,f4,f5⟩:=hf it ∅;apply wpAny_pyNext_list_item st p.isList (x:=u) (by simpa using hu) λh' st' sb=>?_
  have I1:Inv X aL σ H { s with heap:=h' }:=I.turned (t':=s.toks) (λb o hb e=>(sb.2 b hb).trans e) f0 f1 f3 f4 f5;obtain⟨o,e,c,d⟩:=id st';exact⟨u,rfl,go_of (s:={ s with heap:=h' }) e c d ↥0 ⟨x,H,I1,ru,⟨rfl,λys hy=>by rw[I.list_inj hy hq];exact hx⟩,st',λb hb=>(hf b hb).1⟩⟩
 done:=by
  intro X hP hw hK hc i aL s σ H E I hf st hg;subst hP hw hK;obtain⟨xs,hq,hx⟩:=hg;obtain⟨its,rv,p,hz⟩:=I.list hq;obtain⟨f0,f1,f2,f3,f4,f5⟩:=hf it ∅;have hl:=rv.length;exact wpAny_pyNext_list_end (I.ok.hd hc) st p.isList (by simp;lia) λh' eb=>⟨rfl,I.turned (t':=s.toks) (λb o hb e=>eb b o hb e) f0 f1 f3 f4 f5⟩
 self:=λ_ _ _ _ _ st h=>wpAny_pyIter_listiter st h
theorem turn_range (it:aq)(lo:Int)(n:Nat):Turn P w K tg (Itr lo n) [it] it (λi h=>IsRangeIter h it (lo+(i:Nat) * 1) ((n:Int) - (i:Nat)) 1) where
 mem:=by simp
 obj:=λi h st b hb=>by
  have e:b=it:=by simpa using hb
  subst e;exact ⟨_,st,fun v z=>by
   have z':Data.fields _=Data.cell v:=z;cases z'⟩
 keep:=λi h h' st k=>k it ∅ _ st
 item:=by
  intro X hP hw hK hc i aL s σ H E I hf st hg;subst hP hw hK;obtain⟨f0,f1,f2,f3,f4,f5⟩:=hf it ∅;have W:=Walks.range (prog:=X.prog) (w:=X.w) (I.ok.hd hc) it lo 1 n;apply W.item i s _ _ hg st λv h' tk hv st' kk=>?_
  obtain⟨t,rfl⟩:=hv;have I1:Inv X aL σ H { s with heap:=h',toks:=tk }:=I.turned (λb o hb e=>kk b o (by simpa using hb) e) f0 f1 f3 f4 f5;apply⟨ρ,go_of (s:={ s with heap:=h',toks:=tk }) (n:="range_iterator") st' rfl rfl ↥0 ⟨.int (lo+i),H,I1,⟨t,?_⟩,⟨rfl,rfl⟩,st',λb hb=>(hf b hb).1⟩⟩;rw[Int.mul_one]
 done:=by
  intro X hP hw hK hc i aL s σ H E I hf st hg;subst hP hw hK;obtain⟨f0,f1,f2,f3,f4,f5⟩:=hf it ∅;exact wpAny_pyNext_range_end (I.ok.hd hc) st (by have:n≤i:=hg;lia) λh' eb=>⟨rfl,I.turned (t':=s.toks) (λb o hb e=>eb b o hb e) f0 f1 f3 f4 f5⟩
 self:=λ_ _ _ _ _ st h=>wpAny_pyIter_rangeiter st h
def iList (K:ak)(tl:TE):TI:=λσ H R=>tl σ H λx H1=>∃a,x= .ref a∧(∃xs,SqL K H1 a xs)∧R (Itl K a) H1
theorem gK {l:Expr}{tl:TE}(hl:PE X l tl):PI X tg l (iList X.K tl):=by
 intro aL s σ H R I h;apply thn (hl aL s σ H _ I h) λv s1 hz0=>?_
 obtain⟨x,H1,I1,r1,q1⟩:=hz0;obtain⟨a,e,⟨xs,hq⟩,q⟩:=q1;subst e;cases r1;obtain⟨its,rv,p,hz⟩:=I1.list hq;apply gX p.isList ?_;apply⟨s1.heap.objs.size,[s1.heap.objs.size],_,_,H1,rfl,I1.kept (t':=s1.toks) λb o e=>ar _ e,turn_list a _,⟨_,aU _ rfl,rfl,rfl⟩,λb hb=>?_,q⟩;have e:b=s1.heap.objs.size:=by simpa using hb
 subst e;exact I1.fpOk (aA _) (I1.hok.fresh (aA _))
theorem range_it {R:It→Hp→Prop}{hi:Int}{t u v:Tok}{tk:Nat}(I:Inv X aL σ H s)(h1: -(2 ^ 62)≤lo)(h2:lo<2 ^ 62)(h3: -(2 ^ 62)≤hi)(h4:hi<2 ^ 62)
  (q:R (Itr lo (hi - lo).toNat) H):bc (bC X.prog X.w) X.A (pyIter (.ref s.heap.objs.size)) (PIE X aL σ tg R) E { s with heap:=s.heap.push { cls:=.type "range",data:=.fields #[.int lo t,.int hi u,.int 1 v] },toks:=tk }:=by
 apply wpAny_pyIter_range (IsRange.new ..) (small_one h1 h2 h3 h4) ?_;have I1:Inv X aL σ H { s with heap:=s.heap.push { cls:=.type "range",data:=.fields #[.int lo t,.int hi u,.int 1 v] },toks:=tk }:=I.kept λb o e=>ar _ e
 apply ⟨(s.heap.push { cls:=.type "range",data:=.fields #[.int lo t,.int hi u,.int 1 v] }).objs.size,[(s.heap.push { cls:=.type "range",data:=.fields #[.int lo t,.int hi u,.int 1 v] }).objs.size],_,_,H,rfl,
  I1.kept (t':=tk) fun b o e=>ar _ e,turn_range _ lo (hi - lo).toNat,?_,fun b hb=>?_,q⟩
 ·have e1:lo+((0:Nat):Int) * 1=lo:=by simp
  have e2:(((hi - lo).toNat:Nat):Int) - ((0:Nat):Int)=jz lo hi 1:=by rw[rangeSize_one];split <;> lia
  show IsRangeIter _ _ (lo+((0:Nat):Int) * 1) ((((hi - lo).toNat:Nat):Int) - ((0:Nat):Int)) 1;rw[e1,e2];exact aU _ rfl
 ·have e:b=(s.heap.push { cls:=.type "range",data:=.fields #[.int lo t,.int hi u,.int 1 v] }).objs.size:=by simpa using hb
  subst e;exact I1.fpOk (aA _) (I1.hok.fresh (aA _))
def iRng1 (ta:TA):TI:=λσ H R=>ta σ H λvs H1=>∃j:Int,vs=[.int j]∧ -(2 ^ 62)≤j∧j<2 ^ 62∧R (Itr 0 j.toNat) H1
def iRng2 (ta:TA):TI:=λσ H R=>ta σ H λvs H1=>∃i j:Int,vs=[.int i,.int j]∧(-(2 ^ 62)≤i∧i<2 ^ 62∧ -(2 ^ 62)≤j∧j<2 ^ 62)∧R (Itr i (j - i).toNat) H1
theorem ku {a:Expr}{ta:TA}{p:Pos}(hg:Gl X "range")(hm:X.mg "range" =none)(ha:PA X [a] ta)(hs:bB [a] X.env=[(false,dn a X.env)]:=by rfl):PI X tg (.Call (.Name "range" p) [a] [] pos) (iRng1 ta):=by
 intro aL s σ H R I h;apply Call_ (oK I hg hm boot_range (dY (thn (ha pos aL s σ H _ I h) λus s1 hz0=>?_) hs rfl));obtain⟨vs,H1,I1,r1,q1⟩:=hz0;obtain⟨j,e,q1,q2,q⟩:=q1;subst e;cases r1 with
 | cons r rr =>
  cases rr;obtain⟨t,rfl⟩:=r;exact call_range_1 (range_it I1 ⋯ ⋯ q1 q2 (by simpa using q))
theorem pi_range2 {a b:Expr}{ta:TA}{p:Pos}(hg:Gl X "range")(hm:X.mg "range" =none)(ha:PA X [a,b] ta)(hs:bB [a,b] X.env=[(false,dn a X.env),(false,dn b X.env)]:=by rfl)(hs2:bB [b] X.env=[(false,dn b X.env)]:=by rfl) :
  PI X tg (.Call (.Name "range" p) [a,b] [] pos) (iRng2 ta):=by
 intro aL s σ H R I h;apply Call_ (oK I hg hm boot_range (dY (thn (ha pos aL s σ H _ I h) λus s1 hz0=>?_) (by rw[hs,hs2]) (by rw[hs2];rfl)));obtain⟨vs,H1,I1,r1,q1⟩:=hz0;obtain⟨i,j,e,⟨q1,q2,q3,q4⟩,q⟩:=q1;subst e;cases r1 with
 | cons r rr =>
  cases rr with
  | cons r' rr =>
   cases rr;obtain⟨t,rfl⟩:=r;obtain⟨t',rfl⟩:=r';exact call_range_2 (range_it I1 q1 q2 q3 q4 q)
def tFor (wi:TI)(g:TG)(tb:TS):TS:=λD σ H=>wi σ H λJ H1=>∃W:Nat→Nat→St→Hp→Prop,(∃m,W 0 m σ H1)∧∀i m σ H,W i m σ H →
 (J.stop i H∧D.nx σ H)∨(J.go i H∧∃N:St→Hp→Prop,(∀σ' H',N σ' H'→∃m',m'<m∧W (i+1) m' σ' H')∧∀x H',J.yld i H x H'→g x σ H' λσ2 H2=>tb { D with nx:=N,ct:=N,bk:=D.nx } σ2 H2)
def pinsAt (fp:List aq)(h:bP):List (aq×Obj):=fp.filterMap λb=>(h.get? b).map λo=>(b,o)
theorem nk {h:bP}{b:aq}{o:Obj}(hb:b∈fp)(e:h.get? b=some o):(b,o)∈pinsAt fp h:=ia.mpr ⟨b,hb,by rw[e];rfl⟩
theorem of_pinsAt {h:bP}{p:aq×Obj}(hp:p∈pinsAt fp h):p.1∈fp∧h.get? p.1=some p.2:=by
 obtain⟨b,hb,e⟩:=ia.mp hp;cases q:h.get? b with
 | none=>rw[q] at e;cases e
 | some o =>
  rw[q] at e;have e':(b,o)=p:=bF e;subst e';exact⟨hb,q⟩
theorem Inv.pinned (I:Inv X aL σ H s)(hf:∀b∈fp,FpOk X aL H b)(ho:∀b∈fp,∃o,s.heap.get? b=some o∧∀v,o.data≠ .cell v):Inv X (aL++pinsAt fp s.heap) σ H s:=
 I.pins_of λp hp=>(aX.mp hp).elim (λz=>I.pin p (bz _ z)) λz=>by
  obtain⟨hb,e⟩:=of_pinsAt z;obtain⟨f0,f1,f2,_⟩:=hf p.1 hb;obtain⟨o,e',d⟩:=ho p.1 hb;rw[e] at e';cases e';exact⟨e,f0,f1,f2,d⟩
theorem Inv.unpinned {pl:List (aq×Obj)}(I:Inv X (aL++pl) σ H s):Inv X aL σ H s:=I.pins_of λp hp=>I.pin p (bz _ (cq _ hp))
theorem iC {wi:TI}(hp:PassesOwn (bC X.prog X.w) X.A X.env X.xe)(hc:X.calm=true)(hi:PI X tg iter wi)(hg:PG X tg g)(hb:PSs X body tb)
  (hs:∀x,jE iter X.env x=iJ x:=by intro _;rfl):PS X (.For tg iter body [] pos) (tFor wi g tb):=by
 intro aL s σ H D I h;apply wpAny_For (thn (hi aL s σ H _ I h) λv s1 h1=>thn h1 λitv s2 h2=>?_) hs;obtain⟨it,fp,tn,J,H2,e,I2,T,st2,f2,W,⟨m0,w0⟩,turn⟩:=h2;subst e;have stat:∀{H':Hp},(∀b∈fp,H' b=none)→∀b∈fp,FpOk X aL H' b:=λhn b hb=>⟨hn b hb,(f2 b hb).2⟩
 apply codeAny_forLoop_any (λn s'=>∃i σ' H',Inv X aL σ' H' s'∧tn i s'.heap∧(∀b∈fp,H' b=none)∧W i n σ' H') ?_ m0 ⟨0,σ,H2,I2,st2,λb hb=>(f2 b hb).1,w0⟩;rintro n s3 ⟨i,σ3,H3,I3,st3,fr3,w3⟩
 rcases turn i n σ3 H3 w3 with ⟨stop,qn⟩ | ⟨go,N,hN,step⟩
 ·apply l7 hp (thn (T.done X rfl rfl rfl hc i aL s3 σ3 H3 X.xe I3 (stat fr3) st3 stop) λr s4 hz0=>?_)
  obtain⟨hr,I4⟩:=hz0;subst hr;exact wpAny_execs_nil ⟨σ3,H3,I4,qn⟩
 ·apply l7 hp (thn (T.item X rfl rfl rfl hc i aL s3 σ3 H3 X.xe I3 (stat fr3) st3 go) λr s4 hz0=>?_)
  obtain⟨u,hr,h4⟩:=hz0;subst hr;apply l7 hp (thn h4 λ_ s5 hz0=>?_);obtain⟨x,H5,I5,r5,y5,st5,fr5⟩:=hz0;have I5':=I5.pinned (stat fr5) (T.obj _ _ st5);apply l7 hp (thn (hg _ s5 σ3 H5 x u _ I5' r5 (step x H5 y5)) λ_ s6 hz0=>?_);obtain⟨σ6,H6,I6,q6⟩:=hz0;apply l7 hp (thn (hb _ s6 σ6 H6 _ I6 q6) λf s7 q7=>?_);have again:∀{σ7:St} {H7:Hp},Inv X (aL++pinsAt fp s5.heap) σ7 H7 s7→N σ7 H7→∃m,m<n∧∃i σ' H',Inv X aL σ' H' s7∧tn i s7.heap∧(∀b∈fp,H' b=none)∧W i m σ' H':=λ{σ7 H7} I7 n7=>by
   obtain⟨m',hm,w7⟩:=hN σ7 H7 n7;apply⟨m',hm,i+1,σ7,H7,I7.unpinned,T.keep _ _ _ st5 λb hb o e=>(I7.pin (b,o) (bz _ (bz _ (nk hb e)))).1,λb hb=>?_,w7⟩;obtain⟨o,e,d⟩:=T.obj _ _ st5 b hb;exact(I7.pin (b,o) (bz _ (bz _ (nk hb e)))).2.1
  cases f with
  | next=>obtain⟨σ7,H7,I7,n7⟩:=q7;exact again I7 n7
  | cont=>obtain⟨σ7,H7,I7,n7⟩:=q7;exact again I7 n7
  | brk=>obtain⟨σ7,H7,I7,q7⟩:=q7;exact⟨σ7,H7,I7.unpinned,q7⟩
  | ret v=>obtain⟨x7,σ7,H7,I7,r7,q7⟩:=q7;exact⟨x7,σ7,H7,I7.unpinned,r7,q7⟩
theorem jT {D:nc}(Pv:Nat→St→Hp→Prop)(h0:Pv 0 σ H)(hl:∀i σ H,i≤xs.length→Pv i σ H→SqL K H a xs)
  (hs:∀i x σ H,xs[i]? =some x→Pv i σ H→g x σ H λσ2 H2=>tb { D with nx:=Pv (i+1),ct:=Pv (i+1),bk:=D.nx } σ2 H2) (hd:∀σ H,Pv xs.length σ H→D.nx σ H) :
  ∃W:Nat→Nat→St→Hp→Prop,(∃m,W 0 m σ H)∧∀i m σ H,W i m σ H →
   ((Itl K a).stop i H∧D.nx σ H)∨((Itl K a).go i H∧∃N:St→Hp→Prop,(∀σ' H',N σ' H'→∃m',m'<m∧W (i+1) m' σ' H')∧∀x H',(Itl K a).yld i H x H'→g x σ H' λσ2 H2=>tb { D with nx:=N,ct:=N,bk:=D.nx } σ2 H2):=by
 apply⟨λi m σ H=>m=xs.length - i∧i≤xs.length∧Pv i σ H,⟨xs.length,∅,cR _,h0⟩,?_⟩;rintro i m σ H ⟨rfl,hi,p⟩;have q:=hl i σ H hi p
 by_cases hlt:i<xs.length
 ·apply .inr ⟨⟨xs,xs[i],q,by simp[hlt]⟩,Pv (i+1),λσ' H' p'=>⟨xs.length - (i+1),⋯,rfl,hlt,p'⟩,λx H' y=>?_⟩
  obtain⟨e,y⟩:=y;subst e;exact hs i x σ _ (y xs q) p
 ·have e:i=xs.length:=by lia
  subst e;exact .inl ⟨⟨xs,q,aA _⟩,hd σ H p⟩
theorem mm {D:nc}(Pv:Nat→St→Hp→Prop)(h0:Pv 0 σ H)
  (hs:∀i σ H,i<n→Pv i σ H→g (.int (lo+i)) σ H λσ2 H2=>tb { D with nx:=Pv (i+1),ct:=Pv (i+1),bk:=D.nx } σ2 H2) (hd:∀σ H,Pv n σ H→D.nx σ H) :
  ∃W:Nat→Nat→St→Hp→Prop,(∃m,W 0 m σ H)∧∀i m σ H,W i m σ H →
   ((Itr lo n).stop i H∧D.nx σ H)∨((Itr lo n).go i H∧∃N:St→Hp→Prop,(∀σ' H',N σ' H'→∃m',m'<m∧W (i+1) m' σ' H')∧∀x H',(Itr lo n).yld i H x H'→g x σ H' λσ2 H2=>tb { D with nx:=N,ct:=N,bk:=D.nx } σ2 H2):=by
 apply⟨λi m σ H=>m=n - i∧i≤n∧Pv i σ H,⟨n,∅,cR _,h0⟩,?_⟩;rintro i m σ H ⟨rfl,hi,p⟩
 by_cases hlt:i<n
 ·apply .inr ⟨hlt,Pv (i+1),λσ' H' p'=>⟨n - (i+1),⋯,rfl,hlt,p'⟩,λx H' y=>?_⟩
  obtain⟨e,y⟩:=y;subst e y;exact hs i σ _ hlt p
 ·have e:i=n:=by lia
  subst e;exact .inl ⟨aA _,hd σ H p⟩
abbrev R2:=V→V→Hp→VK→Prop
def OpR (X:Cx)(f:af→af→Sem af)(r:R2):Prop:=
 ∀(aL:List (aq×Obj)) (s:au) (σ:St) (H:Hp) (x y:V) (v u:af) (Q:VK),Inv X aL σ H s→iY x v→iY y u→r x y H Q →
  bc (bC X.prog X.w) X.A (f v u) (EP X aL σ Q) X.xe s
def UnR (X:Cx)(f:af→Sem af)(r:V→Hp→VK→Prop):Prop:=
 ∀(aL:List (aq×Obj)) (s:au) (σ:St) (H:Hp) (x:V) (v:af) (Q:VK),Inv X aL σ H s→iY x v→r x H Q →
  bc (bC X.prog X.w) X.A (f v) (EP X aL σ Q) X.xe s
def jn (X:Cx)(f:af)(r:List V→Hp→VK→Prop):Prop:=
 ∀(aL:List (aq×Obj)) (s:au) (σ:St) (H:Hp) (xs:List V) (us:List af) (Q:VK),Inv X aL σ H s→gZ xs us→r xs H Q →
  bc (bC X.prog X.w) X.A (call f us) (EP X aL σ Q) X.xe s
def tOp (r:R2)(ta tb:TE):TE:=λσ H Q=>ta σ H λx H1=>tb σ H1 λy H2=>r x y H2 Q
def tUn (r:V→Hp→VK→Prop)(ta:TE):TE:=λσ H Q=>ta σ H λx H1=>r x H1 Q
inductive rI (C:Int→Int→Prop)(g:Int→Int→V)(x:V)(y:V)(H:Hp)(Q:VK):Prop
 | mk (i j:_)(_:x= .int i)(_:y= .int j)(_:C i j)(_:Q (g i j) H)
inductive rI0 (g:Int→Int→V)(x:V)(y:V)(H:Hp)(Q:VK):Prop
 | mk (i j:_)(_:x= .int i)(_:y= .int j)(_:Q (g i j) H)
inductive rU (g:Int→V)(x:V)(H:Hp)(Q:VK):Prop
 | mk (i:_)(_:x= .int i)(_:Q (g i) H)
section
variable {a b c:Expr}{tb tc:TE}
theorem binT (ha:PE X a ta)(hb:PE X b tb){R:V→V→Hp→Prop}(I:Inv X aL σ H s)
  (h:ta σ H λx H1=>tb σ H1 λy H2=>R x y H2) {f:af→af→Sem af}
  (hf:∀v u s2 x y H2,Inv X aL σ H2 s2→iY x v→iY y u→R x y H2→bc (bC X.prog X.w) X.A (f v u) Q X.xe s2) :
  bc (bC X.prog X.w) X.A (dn a X.env) (λv s₁=>bc (bC X.prog X.w) X.A (dn b X.env) (λu s₂=>bc (bC X.prog X.w) X.A (f v u) Q X.xe s₂) X.xe s₁) X.xe s:=by
 apply thn (ha aL s σ H _ I h) λv s1 hz0=>?_
 obtain⟨x,H1,I1,r1,q1⟩:=hz0;apply thn (hb aL s1 σ H1 _ I1 q1) λu s2 hz0=>?_
 obtain⟨y,H2,I2,r2,q2⟩:=hz0;exact hf v u s2 x y H2 I2 r1 r2 q2
theorem cw {op:Operator}{r:R2}(ho:OpR X (iZ op) r)(ha:PE X a ta)(hb:PE X b tb):PE X (.BinOp a op b pos) (tOp r ta tb):=by
 intro aL s σ H Q I h;exact wpAny_BinOp (binT ha hb I h λv u s2 x y H2 I2 rx ry q=>ho aL s2 σ H2 x y v u Q I2 rx ry q)
theorem pe_un {op:UnaryOp}{r:V→Hp→VK→Prop}(ho:UnR X (unaryOp op) r)(ha:PE X a ta):PE X (.UnaryOp op a pos) (tUn r ta):=by
 intro aL s σ H Q I h;exact UnaryOp_ (thn (ha aL s σ H _ I h) λv s1 ⟨x,H1,I1,r1,q1⟩=>ho aL s1 σ H1 x v Q I1 r1 q1)
theorem opI {f:af→af→Sem af}{C:Int→Int→Prop}{g:Int→Int→Int}
  (rule:∀(i j:Int) (t u:Tok) (s:au) (Q:af→au→Prop) (E:af→au→Prop),C i j→Q (.int (g i j) s.toks) { s with toks:=s.toks+1 }→bc (bC X.prog X.w) X.A (f (.int i t) (.int j u)) Q E s) :
  OpR X f (rI C λi j=>.int (g i j)):=by
 intro aL s σ H x y v u Q I rx ry h;obtain⟨i,j,rfl,rfl,hc,q⟩:=h;obtain⟨t,rfl⟩:=rx;obtain⟨t',rfl⟩:=ry;exact rule i j t t' s _ _ hc ⟨.int (g i j),H,I.tok _,⟨_,rfl⟩,q⟩
theorem opI0 {f:af→af→Sem af}{g:Int→Int→Int}
  (rule:∀(i j:Int) (t u:Tok) (s:au) (Q:af→au→Prop) (E:af→au→Prop),Q (.int (g i j) s.toks) { s with toks:=s.toks+1 }→bc (bC X.prog X.w) X.A (f (.int i t) (.int j u)) Q E s) :
  OpR X f (rI0 λi j=>.int (g i j)):=by
 intro aL s σ H x y v u Q I rx ry h;obtain⟨i,j,rfl,rfl,q⟩:=h;obtain⟨t,rfl⟩:=rx;obtain⟨t',rfl⟩:=ry;exact rule i j t t' s _ _ ⟨.int (g i j),H,I.tok _,⟨_,rfl⟩,q⟩
theorem opB0 {f:af→af→Sem af}{g:Int→Int→Bool}
  (rule:∀(i j:Int) (t u:Tok) (s:au) (Q:af→au→Prop) (E:af→au→Prop),Q (.bool (g i j)) s→bc (bC X.prog X.w) X.A (f (.int i t) (.int j u)) Q E s) :
  OpR X f (rI0 λi j=>.bl (g i j)):=by
 intro aL s σ H x y v u Q I rx ry h;obtain⟨i,j,rfl,rfl,q⟩:=h;obtain⟨t,rfl⟩:=rx;obtain⟨t',rfl⟩:=ry;exact rule i j t t' s _ _ ⟨.bl (g i j),H,I,rfl,q⟩
def CDiv (i j:Int):Prop:=0<j∧j<1073741824
def CPow (i j:Int):Prop:=0≤j∧j≤1000000∧i.natAbs<2 ^ 64
def CMul (i j:Int):Prop:=(-(2 ^ 64)<i∧i<2 ^ 64)∨(-(2 ^ 64)<j∧j<2 ^ 64)
theorem CMul.ok {i j:Int}(h:CMul i j):IntMulOk i j:=by
 rcases h with ⟨h1,h2⟩ | ⟨h1,h2⟩
 ·exact .of_left (intBits_le_64 h1 h2)
 ·exact .of_right (intBits_le_64 h1 h2)
theorem dZ:OpR X (iZ .Add) (rI0 λi j=>.int (i+j)):=opI0 λ_ _ _ _ _ _ _ q=>add_int q
theorem gL:OpR X (iZ .Sub) (rI0 λi j=>.int (i - j)):=opI0 λ_ _ _ _ _ _ _ q=>sub_int q
theorem kz:OpR X (iZ .Mult) (rI CMul λi j=>.int (i * j)):=opI λ_ _ _ _ _ _ _ hc q=>mul_int q hc.ok
theorem op_fdiv:OpR X (iZ .FloorDiv) (rI CDiv λi j=>.int (i / j)):=opI λi j _ _ _ _ _ hc q=>by
 have h1:(0:Int)<j:=hc.1;have h2:j<1073741824:=hc.2;exact floordiv_int ⋯ (by rw[Int.fdiv_eq_ediv_of_nonneg i ⋯];exact q) (.inl (PyProof.noPylong_small ⋯))
theorem pP:OpR X (iZ .Mod) (rI (λ_ j=>0<j) λi j=>.int (i % j)):=opI λi j _ _ _ _ _ hc q=>by
 have h1:(0:Int)<j:=hc;exact mod_int' ⋯ (by rw[Int.fmod_eq_emod_of_nonneg i ⋯];exact q)
theorem mR:OpR X (iZ .Pow) (rI CPow λi j=>.int (i ^ j.toNat)):=opI λ_ _ _ _ _ _ _ hc q=>pow_int_small hc.1 hc.2.1 hc.2.2 q
theorem unI {f:af→Sem af}{g:Int→Int}
  (rule:∀(i:Int) (t:Tok) (s:au) (Q:af→au→Prop) (E:af→au→Prop),Q (.int (g i) s.toks) { s with toks:=s.toks+1 }→bc (bC X.prog X.w) X.A (f (.int i t)) Q E s) :
  UnR X f (rU λi=>.int (g i)):=by
 intro aL s σ H x v Q I rx h;obtain⟨i,rfl,q⟩:=h;obtain⟨t,rfl⟩:=rx;exact rule i t s _ _ ⟨.int (g i),H,I.tok _,⟨_,rfl⟩,q⟩
theorem qk:UnR X (unaryOp .USub) (rU λi=>.int (-i)):=unI λ_ _ _ _ _ q=>neg_int q
end
def scal:V→V→Bool
 | .non,.non=>true | .non,.int _=>true | .int _,.non=>true | .non,.bl _=>true | .bl _,.non=>true | .non,.str _=>true | .str _,.non=>true
 | .int _,.int _=>true | .bl _,.bl _=>true | .str _,.str _=>true | .byt _,.byt _=>true
 | .int _,.str _=>true | .str _,.int _=>true | .bl _,.str _=>true | .str _,.bl _=>true
 | _,_=>false
def rEq:R2:=λx y H Q=>scal x y=true∧Q (.bl (decide (x=y))) H
def rNe:R2:=λx y H Q=>scal x y=true∧Q (.bl (!decide (x=y))) H
theorem dec_int {i j:Int}:decide (V.int i=V.int j)=(i == j):=by
 rw[lF];simp
theorem dec_bl {i j:Bool}:decide (V.bl i=V.bl j)=(i == j):=by
 rw[lF];simp
theorem dec_str {i j:Str}:decide (V.str i=V.str j)=(i == j):=by
 rw[lF];simp
theorem dec_byt {i j:Array UInt8}:decide (V.byt i=V.byt j)=(i.toList == j.toList):=by
 rw[lF];cases i;cases j;simp
section
variable {a b c:Expr}{tb tc:TE}
theorem fJ {Q:VK}{k k':Bool}(I:Inv X aL σ H s)(q:Q (.bl k) H)(e:k=k'):EP X aL σ Q (.bool k') s:=by
 subst e;exact⟨.bl k,H,I,rfl,q⟩
theorem iM:OpR X (dA .Eq) rEq:=by
 intro aL s σ H x y v u Q I rx ry h;obtain⟨hs,q⟩:=h;cases x with
 | non =>
  cases rx;cases y with
  | non=>cases ry;exact PySem.EqNone.eq_none_none (fJ I q ∅)
  | bl j=>cases ry;exact PySem.EqNone.eq_none_bool (fJ I q ∅)
  | int j=>obtain⟨t',rfl⟩:=ry;exact PySem.EqNone.eq_none_int (fJ I q ∅)
  | str j=>obtain⟨t',rfl⟩:=ry;exact PySem.EqNone.eq_none_str (fJ I q ∅)
  | _=>exact rM (show false=true from hs) bQ
 | bl i =>
  cases rx;cases y with
  | non=>cases ry;exact PySem.EqNone.eq_bool_none (fJ I q ∅)
  | bl j=>cases ry;exact eq_bool (fJ I q dec_bl)
  | str j=>obtain⟨t',rfl⟩:=ry;exact PySem.EqMixed.eq_bool_str (fJ I q ∅)
  | _=>exact rM (show false=true from hs) bQ
 | int i =>
  obtain⟨t,rfl⟩:=rx;cases y with
  | non=>cases ry;exact PySem.EqNone.eq_int_none (fJ I q ∅)
  | int j=>obtain⟨t',rfl⟩:=ry;exact eq_int (fJ I q dec_int)
  | str j=>obtain⟨t',rfl⟩:=ry;exact PySem.EqMixed.eq_int_str (fJ I q ∅)
  | _=>exact rM (show false=true from hs) bQ
 | str i =>
  obtain⟨t,rfl⟩:=rx;cases y with
  | non=>cases ry;exact PySem.EqNone.eq_str_none (fJ I q ∅)
  | bl j=>cases ry;exact PySem.EqMixed.eq_str_bool (fJ I q ∅)
  | int j=>obtain⟨t',rfl⟩:=ry;exact PySem.EqMixed.eq_str_int (fJ I q ∅)
  | str j=>obtain⟨t',rfl⟩:=ry;exact eq_str (fJ I q dec_str)
  | _=>exact rM (show false=true from hs) bQ
 | byt i =>
  obtain⟨t,rfl⟩:=rx;cases y with
  | byt j=>obtain⟨t',rfl⟩:=ry;exact PySem.W.eq_bytes (fJ I q dec_byt)
  | _=>exact rM (show false=true from hs) bQ
 | _=>cases y <;> exact rM (show false=true from hs) bQ
theorem pz:OpR X (dA .NotEq) rNe:=by
 intro aL s σ H x y v u Q I rx ry h;obtain⟨hs,q⟩:=h;cases x with
 | non =>
  cases rx;cases y with
  | non=>cases ry;exact PySem.EqNone.ne_none_none (fJ I q ∅)
  | bl j=>cases ry;exact PySem.EqNone.ne_none_bool (fJ I q ∅)
  | int j=>obtain⟨t',rfl⟩:=ry;exact PySem.EqNone.ne_none_int (fJ I q ∅)
  | str j=>obtain⟨t',rfl⟩:=ry;exact PySem.EqNone.ne_none_str (fJ I q ∅)
  | _=>exact rM (show false=true from hs) bQ
 | bl i =>
  cases rx;cases y with
  | non=>cases ry;exact PySem.EqNone.ne_bool_none (fJ I q ∅)
  | bl j=>cases ry;exact ne_bool (fJ I q (rR not dec_bl))
  | str j=>obtain⟨t',rfl⟩:=ry;exact PySem.EqMixed.ne_bool_str (fJ I q ∅)
  | _=>exact rM (show false=true from hs) bQ
 | int i =>
  obtain⟨t,rfl⟩:=rx;cases y with
  | non=>cases ry;exact PySem.EqNone.ne_int_none (fJ I q ∅)
  | int j=>obtain⟨t',rfl⟩:=ry;exact ne_int (fJ I q (rR not dec_int))
  | str j=>obtain⟨t',rfl⟩:=ry;exact PySem.EqMixed.ne_int_str (fJ I q ∅)
  | _=>exact rM (show false=true from hs) bQ
 | str i =>
  obtain⟨t,rfl⟩:=rx;cases y with
  | non=>cases ry;exact PySem.EqNone.ne_str_none (fJ I q ∅)
  | bl j=>cases ry;exact PySem.EqMixed.ne_str_bool (fJ I q ∅)
  | int j=>obtain⟨t',rfl⟩:=ry;exact PySem.EqMixed.ne_str_int (fJ I q ∅)
  | str j=>obtain⟨t',rfl⟩:=ry;exact ne_str (fJ I q (rR not dec_str))
  | _=>exact rM (show false=true from hs) bQ
 | byt i =>
  obtain⟨t,rfl⟩:=rx;cases y with
  | byt j=>obtain⟨t',rfl⟩:=ry;exact PySem.W.ne_bytes (fJ I q (rR not dec_byt))
  | _=>exact rM (show false=true from hs) bQ
 | _=>cases y <;> exact rM (show false=true from hs) bQ
theorem pA:OpR X (dA .Lt) (rI0 λi j=>.bl (decide (i<j))):=opB0 λ_ _ _ _ _ _ _ q=>lt_int q
theorem q0:OpR X (dA .LtE) (rI0 λi j=>.bl (decide (i≤j))):=opB0 λ_ _ _ _ _ _ _ q=>le_int q
theorem op_gt:OpR X (dA .Gt) (rI0 λi j=>.bl (decide (j<i))):=opB0 λ_ _ _ _ _ _ _ q=>gt_int q
theorem op_ge:OpR X (dA .GtE) (rI0 λi j=>.bl (decide (j≤i))):=opB0 λ_ _ _ _ _ _ _ q=>ge_int q
theorem op_in_str:OpR X (dA .In) (λx y H Q=>∃i j,x= .str i∧y= .str j∧Q (.bl (!(cO j i 0 j.length 1).isEmpty)) H):=by
 intro aL s σ H x y v u Q I rx ry h;obtain⟨i,j,rfl,rfl,q⟩:=h;obtain⟨t,rfl⟩:=rx;obtain⟨t',rfl⟩:=ry;exact in_str (fJ I q rfl)
theorem pQ:OpR X (dA .Is) (λx y H Q=>y= .non∧Q (.bl (decide (x= .non))) H):=by
 intro aL s σ H x y v u Q I rx ry h;obtain⟨rfl,q⟩:=h;cases ry;apply is_none_gen (fJ I q ?_);cases x <;> first
  | (cases rx;rfl)
  | (obtain⟨t,rfl⟩:=rx;rfl)
theorem op_notN:OpR X (dA .IsNot) (λx y H Q=>y= .non∧Q (.bl (!decide (x= .non))) H):=by
 intro aL s σ H x y v u Q I rx ry h;obtain⟨rfl,q⟩:=h;cases ry;apply isnot_none_gen (fJ I q ?_);cases x <;> first
  | (cases rx;rfl)
  | (obtain⟨t,rfl⟩:=rx;rfl)
theorem cn (b:Expr)(h:op≠ .In:=by decide)(h2:op≠ .NotIn:=by decide):behindInMarks op b=false:=by
 have e1:(op == CmpOp.In)=false:=by cases op <;> first | rfl | exact rM rfl h
 have e2:(op == CmpOp.NotIn)=false:=by cases op <;> first | rfl | exact rM rfl h2
 cases b <;> simp[behindInMarks,e1,e2]
theorem iT {r:R2}(ho:OpR X (dA op) r)(ha:PE X a ta)(hb:PE X b tb)(hm:behindInMarks op b=false):PE X (.Compare a [op] [b] pos) (tOp r ta tb):=by
 intro aL s σ H Q I h;exact wpAny_Compare1 (binT ha hb I h λv u s2 x y H2 I2 rx ry q=>ho aL s2 σ H2 x y v u Q I2 rx ry q) hm
def tTest (t:TE):TT:=λσ H Q=>t σ H λx H'=>IsBl x λk=>Q k H'
theorem bK {r:R2}(ho:OpR X (dA op) r)(ha:PE X a ta)(hb:PE X b tb)(hm:behindInMarks op b=false):PT X (.Compare a [op] [b] pos) (tTest (tOp r ta tb)):=by
 intro aL s σ H Q I h;apply wpAny_isTrue_Compare1 (thn (ha aL s σ H _ I h) fun v s1 ⟨x,H1,I1,r1,q1⟩=>thn (hb aL s1 σ H1 _ I1 q1) fun u s2 ⟨y,H2,I2,r2,q2⟩ =>
  thn (ho aL s2 σ H2 x y v u _ I2 r1 r2 q2) fun c s3 ⟨z,H3,I3,r3,k,e,q3⟩=>?_) hm
 subst e;cases r3;exact fq ⟨H3,I3,q3⟩
def tChain (r r':R2)(ta tb tc:TE):TE:=λσ H Q=>ta σ H λx H1=>tb σ H1 λy H2=>r x y H2 λz H3=>∃k,z= .bl k ∧
 (if k=true then tc σ H3 λw' H4=>r' y w' H4 Q else Q (.bl false) H3)
theorem pe_chain {op':CmpOp}{r r':R2}(ho:OpR X (dA op) r)(ho':OpR X (dA op') r')(ha:PE X a ta)(hb:PE X b tb)(hc:PE X c tc)
  (hm:lastMarks [op,op'] [b,c]=false:=by with_unfolding_all rfl):PE X (.Compare a [op,op'] [b,c] pos) (tChain r r' ta tb tc):=by
 intro aL s σ H Q I h;apply Compare_chain (thn (ha aL s σ H _ I h) fun v s1 ⟨x,H1,I1,r1,q1⟩=>chain_link (thn (hb aL s1 σ H1 _ I1 q1) fun u s2 ⟨y,H2,I2,r2,q2⟩ =>
  thn (ho aL s2 σ H2 x y v u _ I2 r1 r2 q2) fun d s3 ⟨z,H3,I3,r3,k,e,q3⟩=>?_)) hm
 subst e;cases r3;apply fq ?_;cases k with
 | false=>exact ite_ff ⟨.bl false,H3,I3,rfl,q3⟩
 | true=>exact ite_tt (chain_last (thn (hc aL s3 σ H3 _ I3 q3) λw' s4 ⟨z',H4,I4,r4,q4⟩=>ho' aL s4 σ H4 y z' u w' Q I4 r2 r4 q4))
theorem rG:(ax:Nat)<2 ^ 63:=by rw[sizeLine_eq];decide
theorem op_add_str:OpR X (iZ .Add) (λx y H Q=>∃i j,x= .str i∧y= .str j∧i.length+j.length≤ax∧Q (.str (i++j)) H):=by
 intro aL s σ H x y v u Q I rx ry h;obtain⟨i,j,rfl,rfl,hz,q⟩:=h;obtain⟨t,rfl⟩:=rx;obtain⟨t',rfl⟩:=ry;exact add_str (λt' tk=>⟨.str (i++j),H,I.tok _,⟨ρ⟩,q⟩) hz
theorem mM {x:V}(r:gZ [x] us):∃u,us=[u]∧iY x u:=by
 cases r with
 | cons r1 r2=>cases r2;exact⟨ρ,r1⟩
theorem vals2 {x:V}(r:gZ [x,y] us):∃u w',us=[u,w']∧iY x u∧iY y w':=by
 cases r with
 | cons r1 r2 =>
  cases r2 with
  | cons r3 r4=>cases r4;exact⟨_,ρ,r1,r3⟩
theorem call_max2 (hc:X.calm=true):jn X (.builtin "max") (λxs H Q=>∃i j,xs=[.int i,.int j]∧Q (.int (if j > i then j else i)) H):=by
 intro aL s σ H xs us Q I r h;obtain⟨i,j,rfl,q⟩:=h;obtain⟨u,w',rfl,⟨t,rfl⟩,⟨t',rfl⟩⟩:=vals2 r;apply max_two_ints (I.ok.hd hc) λh' tk k=>⟨_,H,I.kept k,?_,q⟩
 by_cases hj:j > i
 ·rw[rL hj,rL hj];exact⟨ρ⟩
 ·rw[rK hj,rK hj];exact⟨ρ⟩
theorem oR (hc:X.calm=true):jn X (.builtin "min") (λxs H Q=>∃i j,xs=[.int i,.int j]∧Q (.int (if j<i then j else i)) H):=by
 intro aL s σ H xs us Q I r h;obtain⟨i,j,rfl,q⟩:=h;obtain⟨u,w',rfl,⟨t,rfl⟩,⟨t',rfl⟩⟩:=vals2 r;apply min_two_ints (I.ok.hd hc) λh' tk k=>⟨_,H,I.kept k,?_,q⟩
 by_cases hj:j<i
 ·rw[rL hj,rL hj];exact⟨ρ⟩
 ·rw[rK hj,rK hj];exact⟨ρ⟩
theorem oS:jn X (.type "int") (λxs H Q=>(∃i,xs=[.int i]∧Q (.int i) H)∨∃k,xs=[.bl k]∧Q (.int (if k then 1 else 0)) H):=by
 intro aL s σ H xs us Q I r h
 rcases h with ⟨i,rfl,q⟩ | ⟨k,rfl,q⟩
 ·obtain⟨u,rfl,t,rfl⟩:=mM r
  exact call_int_int ⟨.int i,H,I,⟨_,rfl⟩,q⟩
 ·obtain⟨u,rfl,r1⟩:=mM r
  cases r1;exact call_int_bool ⟨.int (if k then 1 else 0),H,I.tok _,⟨_,rfl⟩,q⟩
theorem pR:jn X (.type "str") (λxs H Q=>∃i,xs=[.int i]∧i.natAbs.log2<1920∧Q (.str (toString i)) H):=by
 intro aL s σ H xs us Q I r h;obtain⟨i,rfl,hz,q⟩:=h;obtain⟨u,rfl,t,rfl⟩:=mM r;exact PySem.P.str_of_int hz ⟨.str _,H,I.tok _,⟨_,rfl⟩,q⟩
end
structure ObjM (h:bP)(x dx C:aq)(mA:Str→Option af):Prop where
 obj:h.get? x=some (ij C dx)
 ns:h.Ns1 dx mA
 ne:dx≠x
theorem oJ {h:bP}(n:h.Ns1 dx mA):∃od,h.get? dx=some od∧∀name,PySem.W.lookIn name od=some (mA name):=by
 obtain⟨o,es,ep,ho,hd,hk,_,hm⟩:=n;apply⟨o,ho,λname=>?_⟩;have e:=hm name;unfold nsFind findBy at e;rw[←Array.find?_toList] at e;unfold PySem.W.lookIn;rw[hd]
 dsimp only
 split
 ·rename_i y q
  rw[q] at e;exact rR some e
 ·rename_i q
  rw[q] at e;have a:es.toList.any (·.refKey)=false:=by
   rw[List.any_eq_false];intro y hy;obtain⟨z,t,hkey⟩:=hk y (Array.mem_toList_iff.mp hy);simp[DictEntry.refKey,hkey]
  have a':¬es.toList.any (·.refKey)=true:=by rw[a];exact bQ
  rw[rK a'];exact rR some e
theorem ObjM.look {h:bP}{x:aq}(I:ObjM h x dx C mA):∃od,PySem.W.InstAt h x (ij C dx) C (some od)∧∀name,PySem.W.lookIn name od=some (mA name):=
 let ⟨od,ho,hl⟩:=oJ I.ns
 ⟨od,⟨I.obj,rfl,rfl,ho⟩,hl⟩
section
variable {x:aq}{v:af}
theorem get_map {expr:Bool}(X:K.In s.heap)(I:ObjM s.heap x dx C mA)(hg:jw K C name=true)(hh:ja K C=true)
  (ha:cf K (.ref C) name=some none) (hv:mA name=some v) (hv':PySem.W.handedIn v=true) (h:Q v { s with toks:=s.toks+1 }) :
  bc (bC prog w) A (getAttr (.ref x) name expr) Q E s:=by
 obtain⟨od,J,hl⟩:=I.look;exact PySem.W.get_value X J (PySem.W.plainGet_of hg).1 (PySem.W.findObj_own hh ha rfl (by rw[hl,hv])) hv' h
theorem get_meth {pl:Sem Bool}{Q:af×List af→au→Prop}(X:K.In s.heap)(I:ObjM s.heap x dx C mA)(hg:jw K C name=true)
  (hf:cf K (.ref C) name=some (some (.ref f))) (ht:PySem.W.isFn K (.ref f)=true) (hv:mA name=none) (h:Q (.ref f,[.ref x]) s) :
  bc (bC prog w) A (getMethod (.ref x) name pl) Q E s:=by
 obtain⟨od,J,hl⟩:=I.look;exact PySem.W.method_fn X J (PySem.W.plainGet_of hg).1 (PySem.W.plainGet_of hg).2 hf (beq_iff_eq.mp ht) (by show(PySem.W.lookIn name od).map (·.isSome)=some false;rw[hl,hv];rfl) h
theorem set_map {Q:Unit→au→Prop}(X:K.In s.heap)(I:ObjM s.heap x dx C mA)
  (hs:cf K (.ref C) "__setattr__" =some (some (.builtin "object.__setattr__"))) (hp:PySem.W.plainOver K C=true) (ht:PySem.W.takerIn K C name=some none) (hh:ja K C=true)
  (hw:PySem.Within mA ns) (hsz:ns.length≤ax)
  (h:∀h',ObjM h' x dx C (λy=>if y=name then some v else mA y)→cQ dx s.heap h'→Q () { s with heap:=h',toks:=s.toks+2 }) :
  bc (bC prog w) A (setAttr (.ref x) name v) Q E s:=by
 obtain⟨od,J,hl⟩:=I.look;apply PySem.W.set_plain X J hs (PySem.W.osa_open (s:={ s with toks:=s.toks+1 }) (r:=none) X J hp ht λb=>?_);obtain⟨cd,hc,hd'⟩:=PySem.W.any_some hh;have hx:s.heap.get? x=some ⟨.ref C,some dx,.plain,#[]⟩:=I.obj;apply ai (aI (ai (ai (wpAny_loadPart hx (ai (PySem.W.Looks.here (s:={ s with toks:=s.toks+1 }) (PySem.W.looks_clsIn X hc) ?_))))));rw[hd'];apply aI (a:=some dx) (ai (aI (ai ?_)));apply wpAny_nsSet1 (s:={ s with toks:=s.toks+1 }) I.ns λh' hn2 hs2=>?_
 obtain⟨oD,esD,epD,hoD,hdD,hcD⟩:=hn2.count (PySem.Within.cons name v hw);apply ai (wpAny_lookBehind hoD (by rw[hdD];exact pastItsLine_dict (cB hcD (by rw[aG];lia))) ?_);exact aI (h _ ⟨(hs2.2 _ (cM I.ne)).trans I.obj,hn2,I.ne⟩ hs2)
theorem make_map (X:K.In s.heap)(hm:PySem.W.makesIn K C=true)
  (hi:cf K (.ref C) "__init__" =some (some (.ref f))) (hf:PySem.W.typeIn K (.ref f)=some (.type "function"))
  (h:codeAny (bC prog w) (A.under (.builtin "type.__call__" ⟨.ref C::vs,kw⟩)) (.call (.ref f) ⟨.ref (s.heap.objs.size+1)::vs,kw⟩) (PySem.W.InitBack (s.heap.objs.size+1) R)
   {s with heap:=(s.heap.push fV).push (ij C s.heap.objs.size) }) :
  codeAny (bC prog w) A (.call (.ref C) ⟨vs,kw⟩) R s:=by
 obtain⟨hh,g,d,t,os⟩:=s;exact PySem.W.make_core (PySem.W.makes_of X hm) (PySem.W.looks_findIn X hi) (λself=>PySem.W.bind_fn X self hf) (.inl rfl) h
end
def qZ (f:Str)(v:V):List (Str×V)→List (Str×V)
 | []=>[(f,v)]
 | (g,x)::r=>if g=f then (g,v)::r else (g,x)::qZ f v r
theorem nX (f g:Str)(v:V):∀fs:List (Str×V),(qZ f v fs).lookup g=if g=f then some v else fs.lookup g
 | []=>by
  show eT g [(f,v)]=_
  by_cases h:g=f
  ·have hb:(g == f)=true:=beq_iff_eq.mpr h
   simp only[eT,hb,rL h]
  ·have hb:(g == f)=false:=beq_eq_false_iff_ne.mpr h
   simp only[eT,hb,rK h]
 | (k,x)::r=>by
  have ih:=nX f g v r;rw[show qZ f v ((k,x)::r)=(if k=f then (k,v)::r else (k,x)::qZ f v r) from rfl]
  by_cases hk:k=f
  ·rw[rL hk]
   by_cases h:g=k
   ·have hb:(g == k)=true:=beq_iff_eq.mpr h
    simp only[eT,hb,rL (h.trans hk)]
   ·have hb:(g == k)=false:=beq_eq_false_iff_ne.mpr h
    simp only[eT,hb,rK (λe:g=f=>h (e.trans hk.symm))]
  ·rw[rK hk]
   by_cases h:g=k
   ·have hb:(g == k)=true:=beq_iff_eq.mpr h
    simp only[eT,hb,rK (λe:g=f=>hk (h.symm.trans e))]
   ·have hb:(g == k)=false:=beq_eq_false_iff_ne.mpr h
    simp only[eT,hb];exact ih
theorem mW (f:Str)(v:V):∀fs:List (Str×V),f∈(qZ f v fs).map (·.1)∧∀g,g∈fs.map (·.1)→g∈(qZ f v fs).map (·.1)
 | []=>⟨by simp[qZ],λg h=>by simp at h⟩
 | (k,x)::r=>by
  obtain⟨i1,i2⟩:=mW f v r;rw[show qZ f v ((k,x)::r)=(if k=f then (k,v)::r else (k,x)::qZ f v r) from rfl]
  by_cases hk:k=f
  ·rw[rL hk]
   subst hk;exact⟨∅,λg h=>by simpa using h⟩
  ·rw[rK hk]
   apply⟨?_,λg h=>?_⟩
   ·rw[bo]
    exact aO _ i1
   ·rw[bo] at h ⊢
    rcases az.mp h with e | e
    ·exact az.mpr (.inl e)
    ·exact aO _ (i2 g e)
theorem qD (f:Str)(v:V):∀fs:List (Str×V),(qZ f v fs).length≤fs.length+1
 | []=>by simp[qZ]
 | (k,x)::r=>by
  have ih:=qD f v r;rw[show qZ f v ((k,x)::r)=(if k=f then (k,v)::r else (k,x)::qZ f v r) from rfl]
  by_cases hk:k=f
  ·rw[rL hk,aG,aG];lia
  ·rw[rK hk,aG,aG];lia
theorem qU.some_of {o:Option af}(r:qU (some v) o):∃u,o=some u∧iY v u:=by
 cases o with
 | none=>exact(show False from r).elim
 | some u=>exact⟨u,rfl,r⟩
theorem qU.none_of {o:Option af}(r:qU none o):o=none:=by
 cases o with
 | none=>rfl
 | some u=>exact(show False from r).elim
theorem qJ (r:iY v u):PySem.W.handedIn u=true:=by
 cases v with
 | non=>cases(show u=af.none from r);rfl
 | bl b=>cases(show u=af.bool b from r);rfl
 | int i=>obtain⟨t,e⟩:=(show ∃t,u=af.int i t from r);cases e;rfl
 | str x=>obtain⟨t,e⟩:=(show ∃t,u=af.str x t from r);cases e;rfl
 | byt b=>obtain⟨t,e⟩:=(show ∃t,u=af.bytes b t from r);cases e;rfl
 | flt b=>obtain⟨t,e⟩:=(show ∃t,u=af.float b t from r);cases e;rfl
 | ref a=>cases(show u=af.ref a from r);rfl
 | ty n=>cases(show u=af.type n from r);rfl
section
variable {h:bP}{fs fs':List (Str×V)}
theorem ins_get (hok:HOk P w H h)(e:H a=some (.ins C dx fs)):∃mA,ObjM h a dx C mA∧(∀f,qU (fs.lookup f) (mA f))∧PySem.Within mA (fs.map (·.1))∧fs.length≤1000∧H dx=some (.own a):=by
 obtain⟨d,z,ne,ob,mA,n,r,q⟩:=(show iE P w H h a (.ins C dx fs) from hok a _ e);exact⟨mA,⟨ob,n,ne⟩,r,q,z,d⟩
end
structure Cls (K:ak)(C:aq):Prop where
 pg:jw K C gr=true
 hd:ja K C=true
 po:PySem.W.plainOver K C=true
 sa:cf K (.ref C) "__setattr__" =some (some (.builtin "object.__setattr__"))
theorem Cls.get (c:Cls K C)(f:Str):jw K C f=true:=c.pg
def jW (K:ak)(C:aq)(f:Str):Prop:=cf K (.ref C) f=some none
theorem jW.taker {f:Str}(n:jW K C f):PySem.W.takerIn K C f=some none:=by
 unfold PySem.W.takerIn;rw[show cf K (.ref C) f=some none from n];rfl
structure rb (K:ak)(C:aq)(m:Str)(f:aq):Prop where
 at_:cf K (.ref C) m=some (some (.ref f))
 fn:PySem.W.isFn K (.ref f)=true
 kp:dW K (.ref f)=true
section
variable {fs:List (Str×V)}{f:Str}
theorem getattr_ok {b:Bool}(I:Inv X aL σ H s)(e:H a=some (.ins C dx fs))(c:Cls X.K C)(n:jW X.K C f)(l:fs.lookup f=some v)
  (h:∀u s',Inv X aL σ H s'→iY v u→Q u s'):bc (bC X.prog X.w) A (getAttr (.ref a) f b) Q E s:=by
 obtain⟨mA,O,r,_,_,_⟩:=ins_get I.hok e;obtain⟨u,hu,ru⟩:=qU.some_of (v:=v) (o:=mA f) (by rw[←l];exact r f);exact get_map I.kIn O (c.get f) c.hd n hu (qJ ru) (h u _ (I.tok _) ru)
theorem rJ {m:Str}{g:aq}{pl:Sem Bool}{Q:af×List af→au→Prop}(I:Inv X aL σ H s)(e:H a=some (.ins C dx fs))(c:Cls X.K C)(k:rb X.K C m g)(l:fs.lookup m=none)
  (h:Q (.ref g,[.ref a]) s):bc (bC X.prog X.w) A (getMethod (.ref a) m pl) Q E s:=by
 obtain⟨mA,O,r,_,_,_⟩:=ins_get I.hok e;have hn:mA m=none:=qU.none_of (by rw[←l];exact r m);exact get_meth I.kIn O (c.get m) k.at_ k.fn hn h
theorem setattr_ok {Q:Unit→au→Prop}(I:Inv X aL σ H s)(e:H a=some (.ins C dx fs))(c:Cls X.K C)(n:jW X.K C f)(hl:fs.length<1000)(ry:iY y u)
  (h:∀s',Inv X aL σ (upd H a (.ins C dx (qZ f y fs))) s'→Q () s'):bc (bC X.prog X.w) A (setAttr (.ref a) f u) Q E s:=by
 obtain⟨mA,O,r,wi,_,ho⟩:=ins_get I.hok e;have hz:(fs.map (·.1)).length≤ax:=by rw[ae,sizeLine_eq];lia
 apply set_map I.kIn O c.sa c.po n.taker c.hd wi hz λh' O' sb=>h _ ?_
 have hd:∃o,h'.get? dx=some o:=let ⟨o,_,_,e',_⟩:=O'.ns;⟨o,e'⟩;apply I.write (x:=a) (e:=dx) (by rw[e];exact True.intro) (.inr ho) (λb q hb z=>(sb.2 b hb).trans z) hd ?_;apply⟨by rw[bf O.ne];exact ho,?_,O.ne,O'.obj,_,O'.ns,λg=>?_,λg hg=>?_⟩
 ·have:=qD f y fs;lia
 ·show qU ((qZ f y fs).lookup g) (if g=f then some u else mA g)
  rw[nX]
  by_cases q:g=f
  ·rw[rL q,rL q];exact ry
  ·rw[rK q,rK q];exact r g
 ·by_cases q:g=f
  ·rw[q];exact(mW f y fs).1
  ·apply(mW f y fs).2 g (wi g λz=>hg ?_)
   show(if g=f then some u else mA g)=none;rw[rK q];exact z
theorem Inv.made (I:Inv X aL σ H s):Inv X aL σ (upd (upd H s.heap.objs.size (.own (s.heap.objs.size+1))) (s.heap.objs.size+1) (.ins C s.heap.objs.size []))
  {s with heap:=(s.heap.push fV).push (ij C s.heap.objs.size) }:=by
 have e1:(s.heap.push fV).get? s.heap.objs.size=some fV:=aU s.heap rfl;have e2:((s.heap.push fV).push (ij C s.heap.objs.size)).get? (s.heap.objs.size+1)=some (ij C s.heap.objs.size):=by
  have:=aU (s.heap.push fV) (o:=ij C s.heap.objs.size) rfl
  rwa [dv] at this
 have e3:(s.heap.push fV).Ns s.heap.objs.size (λ_=>none):=⟨fV,#[],_,e1,rfl,(λe he=>rM he ∅),λ_=>rfl⟩;have I1:=I.laid (a:=s.heap.objs.size) (o:=.own (s.heap.objs.size+1)) (h':=s.heap.push fV) (t':=s.toks) (λb u q=>ar _ q) (aA _) ⟨_,e1⟩;apply I1.laid (a:=s.heap.objs.size+1) (o:=.ins C s.heap.objs.size []) (t':=s.toks) (λb u q=>ar _ q) (Nat.le_of_eq (dv _ _)) ?_;have ne:s.heap.objs.size≠s.heap.objs.size+1:=cz (Nat.lt_succ_self _);apply⟨by rw[bf ne,aP],cR _,ne,e2,λ_=>none,(bP.Ns1.of_empty e3).at λo q=>ar _ q,λ_=>True.intro,λy hy=>rM rfl hy⟩
theorem attr_of {f:Str}(hb:gN e f env (dn e env)=dn e env)
  (h:bc (bC prog w) A (dn e env) (λo s₁=>bc (bC prog w) A (getAttr o f true) Q E s₁) E s):bc (bC prog w) A (dn (.Attribute e f pos) env) Q E s:=
 Attribute_any_ h (by rw[arm_eval_Attribute,hb])
end
def tFld (K:ak)(ta:TE)(f:Str):TE:=λσ H Q=>ta σ H λx H1=>∃a C dx fs v,x= .ref a∧H1 a=some (.ins C dx fs)∧Cls K C∧jW K C f∧fs.lookup f=some v∧Q v H1
def sFld (K:ak)(ta tv:TE)(f:Str):TS:=λD σ H=>tv σ H λy H1=>ta σ H1 λx H2=>∃a C dx fs,x= .ref a∧H2 a=some (.ins C dx fs)∧Cls K C∧jW K C f∧fs.length<1000 ∧
 D.nx σ (upd H2 a (.ins C dx (qZ f y fs)))
section
variable {o:Expr}{f:Str}{tpos:Pos}{tv:TE}
theorem fG (he:PE X e ta)(hb:gN e f X.env (dn e X.env)=dn e X.env):PE X (.Attribute e f pos) (tFld X.K ta f):=by
 intro aL s σ H Q I h;apply attr_of hb (thn (he aL s σ H _ I h) λu s1 hz0=>?_);obtain⟨x,H1,I1,rx,a,C,dx,fs,v,ex,ea,c,n,l,q⟩:=hz0;subst ex;obtain rfl:u=af.ref a:=rx;exact getattr_ok I1 ea c n l λu' s2 I2 ru=>⟨v,H1,I2,ru,q⟩
theorem pN (ha:PE X o ta)(hv:PE X value tv)(hs:lG value (some (.Attribute o f pos')) pos.line X.env=iJ false):PS X (.Assign [.Attribute o f pos'] value pos) (sFld X.K ta tv f):=by
 intro aL s σ H D I h;apply plainObj_wpAny_Assign_Attribute (thn (hv aL s σ H _ I h) λu s1 ⟨y,H1,I1,ry,q⟩=>thn (ha aL s1 σ H1 _ I1 q) λov s2 hz0=>?_) hs;obtain⟨x,H2,I2,rx,a,C,dx,fs,ex,ea,c,n,l,q2⟩:=hz0;subst ex;obtain rfl:ov=af.ref a:=rx;exact setattr_ok I2 ea c n l ry λs3 I3=>⟨σ,_,I3,q2⟩
end
section
variable {c:af}{b:Bool}
inductive TyOf (K:ak)(H:Hp):V→af→Prop where
 | non:TyOf K H .non (.type "NoneType")
 | bl (x:Bool):TyOf K H (.bl x) (.type "bool")
 | int (i:Int):TyOf K H (.int i) (.type "int")
 | str (x:Str):TyOf K H (.str x) (.type "str")
 | flt (x:UInt64):TyOf K H (.flt x) (.type "float")
 | lst {a:aq} {xs:List V} (e:H a=some (.lst xs)):TyOf K H (.ref a) (.type "list")
 | frz {a:aq} {o:Obj} {xs:List V} (e:H a=some (.frz o (.lst xs))):TyOf K H (.ref a) (.type "list")
 | tup {a:aq} {xs:List V} (e:H a=some (.tup xs)):TyOf K H (.ref a) (.type "tuple")
 | dK {a:aq} {kvs:List (Key×V)} (e:H a=some (.dK kvs)):TyOf K H (.ref a) (.type "dict")
 | dT {a:aq} {kvs:List (List Key×V)} (e:H a=some (.dT kvs)):TyOf K H (.ref a) (.type "dict")
 | ins {a C dx:aq} {fs:List (Str×V)} (e:H a=some (.ins C dx fs)) (cl:Cls K C) (ha:cf K (.ref C) "__class__" =some (some (.builtin "object.__class__")))
   (hn:PySem.W.specialIn K (.builtin "object.__class__") "__get__" =some (some (.builtin "getset_descriptor.__get__"))) (htk:PySem.W.takesIn K (.builtin "object.__class__")=some true)
   (hm:kJ K C (.type "object")=some true):TyOf K H (.ref a) (.ref C)
theorem isinst_ok {x:V}{t:af}(I:Inv X aL σ H s)(rx:iY x u)(ty:TyOf X.K H x t)(e:eM X.K t c=some b)(h:∀tk,Q (.bool b) { s with toks:=tk }) :
  bc (bC X.prog X.w) A (call (.builtin "isinstance") [u,c]) Q E s:=by
 cases ty with
 | non=>cases(show u=af.none from rx);exact eV PySem.W.kitx_none I.kIn True.intro e (λz=>nomatch z) h
 | bl y=>cases(show u=af.bool y from rx);exact eV PySem.W.kitx_bool I.kIn True.intro e (λz=>nomatch z) h
 | int i=>obtain⟨t,q⟩:=(show ∃t,u=af.int i t from rx);cases q;exact eV PySem.W.kitx_int I.kIn True.intro e (λz=>nomatch z) h
 | str y=>obtain⟨t,q⟩:=(show ∃t,u=af.str y t from rx);cases q;exact eV PySem.W.kitx_str I.kIn True.intro e (λz=>nomatch z) h
 | flt y=>obtain⟨t,q⟩:=(show ∃t,u=af.float y t from rx);cases q;exact eV PySem.W.kitx_float I.kIn True.intro e (λz=>nomatch z) h
 | @lst a xs ea =>
  cases(show u=af.ref a from rx);obtain⟨_,_,n,_,h1⟩:=(show iE X.prog X.w H s.heap a (.lst xs) from I.hok a _ ea);exact eV PySem.W.kitx_list I.kIn ⟨_,h1,rfl⟩ e (λz=>nomatch z) h
 | @frz a ob xs ea =>
  cases(show u=af.ref a from rx);obtain⟨_,_,_,n,_,h1⟩:=(show iE X.prog X.w H s.heap a (.frz ob (.lst xs)) from I.hok a _ ea);exact eV PySem.W.kitx_list I.kIn ⟨_,h1,rfl⟩ e (λz=>nomatch z) h
 | @tup a xs ea =>
  cases(show u=af.ref a from rx);obtain⟨_,_,_,p⟩:=(show iE X.prog X.w H s.heap a (.tup xs) from I.hok a _ ea);obtain⟨o,h1,h2,_⟩:=p;exact eV PySem.W.kitx_tuple I.kIn ⟨o,h1,h2⟩ e (λz=>nomatch z) h
 | @dK a kvs ea =>
  cases(show u=af.ref a from rx);obtain⟨_,_,vs,_,p⟩:=(show iE X.prog X.w H s.heap a (.dK kvs) from I.hok a _ ea);obtain⟨o,es,ep,h1,h2,_⟩:=p;exact eV PySem.W.kitx_dict I.kIn ⟨o,h1,h2.1⟩ e (λz=>nomatch z) h
 | @dT a kvs ea =>
  cases(show u=af.ref a from rx);obtain⟨_,_,xs,_,o,es,ep,h1,h2,_⟩:=(show iE X.prog X.w H s.heap a (.dT kvs) from I.hok a _ ea);exact eV PySem.W.kitx_dict I.kIn ⟨o,h1,h2.1⟩ e (λz=>nomatch z) h
 | @ins a C dx fs ea cl ha hn htk hm =>
  cases(show u=af.ref a from rx);obtain⟨mA,O,_⟩:=ins_get I.hok ea;obtain⟨od,J,_⟩:=O.look;exact eV (PySem.W.kitx_own (cl.get _) cl.hd ha hn htk hm) I.kIn J e (λz=>nomatch z) h
end
structure jI (k:Nat)(A:cp):Prop where
 hd:A.handled=none
 dp:A.depth+3 * k+5<recursionLimit
 un:A.units+16 * k+200<kU
theorem jI.mono (r:jI k A)(h:j≤k):jI j A:=⟨r.hd,by have:=r.dp;lia,by have:=r.un;lia⟩
theorem jI.deeper (r:jI (k+1) A)(env:Env):jI k (A.deeper env):=
 ⟨r.hd,by have:=r.dp;show A.depth+1+3 * k+5<_;lia,by have:=r.un;show A.units+3+16 * k+200<_;lia⟩
theorem make_depth:(A.under (.builtin "type.__call__" ⟨.ref C::us,kw⟩)).depth=A.depth+1:=by
 first | rfl | simp[cp.under,Code.weight,Code.isCreation,Code.isGuard,Code.isCaller,Code.frames,Code.isFrame,guardIds]
theorem make_units:(A.under (.builtin "type.__call__" ⟨.ref C::us,kw⟩)).units=A.units+1:=by
 first | rfl | simp[cp.under,Code.cUnits,Code.frames,Code.isFrame]
theorem jI.make (r:jI (k+1) A)(C:aq)(us:List af)(kw:List (Str×af)):jI k (A.under (.builtin "type.__call__" ⟨.ref C::us,kw⟩)):=
 ⟨r.hd,by have:=r.dp;rw[make_depth];lia,by have:=r.un;rw[make_units];lia⟩
theorem jI.depth (r:jI k A):A.depth<recursionLimit:=by have:=r.dp;lia
theorem jI.units (r:jI k A):A.units+64<kU:=by have:=r.un;lia
theorem jI.units0 (r:jI k A):A.units<kU:=by have:=r.un;lia
def tNil:TA:=λ_ H Q=>Q [] H
def ql (ta:TE)(tr:TA):TA:=λσ H Q=>ta σ H λx H1=>tr σ H1 λxs H2=>Q (x::xs) H2
section
variable {t:TA}
theorem aw:PA X [] tNil:=λ_ _ _ _ H Q I h=>Calls.spliced_nil ⟨[],H,I,.nil,h⟩
theorem ah (ha:PE X e te)(hr:PA X es t)(hs:bB (e::es) X.env=(false,dn e X.env)::bB es X.env:=by rfl):PA X (e::es) (ql te t):=by
 intro pos aL s σ H Q I h;rw[hs];show bc _ _ (spliced ((false,dn e X.env)::gH pos (bB es X.env))) _ _ s;apply lY (thn (ha aL s σ H _ I h) λu s1 hz0=>?_);obtain⟨x,H1,I1,r1,q1⟩:=hz0;exact thn (hr pos aL s1 σ H1 _ I1 q1) λus s2 ⟨xs,H2,I2,r2,q2⟩=>⟨x::xs,H2,I2,.cons r1 r2,q2⟩
def tTup (t:TA):TE:=λσ H Q=>t σ H λxs H1=>xs.length≤ax∧∀p,H1 p=none→Q (.ref p) (upd H1 p (.tup xs))
def tLst (t:TA):TE:=λσ H Q=>t σ H λxs H1=>xs.length≤ax∧∀p,H1 p=none→Q (.ref p) (upd H1 p (.lst xs))
theorem pe_tup {x1}(h:PA X es t):PE X (.Tuple es x1 pos) (tTup t):=by
 intro aL s σ H Q I hq;apply wpAny_Tuple_spliced (thn (h pos aL s σ H _ I hq) λus s1 ⟨xs,H1,I1,r,z,q⟩=>⟨by rw[←r.length];exact z,?_⟩);have hf:H1 s1.heap.objs.size=none:=I1.hok.fresh (aA _);apply⟨.ref s1.heap.objs.size,upd H1 s1.heap.objs.size (.tup xs),I1.laid (t':=s1.toks) (λb u e=>ar _ e) (aA _) ?_,rfl,q _ hf⟩;exact⟨z,us,r,⟨_,aU _ rfl,rfl,rfl,ρ⟩⟩
theorem kL (h:PA X es t):PE X (.List es pos) (tLst t):=by
 intro aL s σ H Q I hq;apply wpAny_List_spliced (thn (h pos aL s σ H _ I hq) λus s1 ⟨xs,H1,I1,r,z,q⟩=>⟨by rw[←r.length];exact z,?_⟩);have hf:H1 s1.heap.objs.size=none:=I1.hok.fresh (aA _);apply⟨.ref s1.heap.objs.size,upd H1 s1.heap.objs.size (.lst xs),I1.laid (t':=s1.toks) (λb u e=>ar _ e) (aA _) ?_,rfl,q _ hf⟩;exact⟨z,us,0,r,aU _ rfl⟩
end
abbrev Sp:=List V→Hp→VK→XK→Prop
abbrev CXT:=List Env→Hp→au→XK→af→au→Prop
structure Env0 (P:aN)(w:bq)(K:ak)(mg:Str→Option af)(base:bP)(A:cp)(outer:List Env)(s:au)(H:Hp):Prop where
 frames:A.frames=some outer
 mod:Mod K mg base
 bs:∀b o,base.get? b=some o→s.heap.get? b=some o∧H b=none
 bsz:base.objs.size≤s.heap.objs.size
 funs:s.heap.FunFrames base outer
 frf:∀b∈frs outer,H b=none
 hok:HOk P w H s.heap
 bare:AllBare s.gens
def CE (outer:List Env)(P:aN)(w:bq)(H:Hp)(s:au)(Q:VK)(u:af)(s':au):Prop:=
 ∃v H',s'.os=s.os∧AllBare s'.gens∧Un (frs outer) [] H H' s.heap s'.heap∧HOk P w H' s'.heap∧iY v u∧Q v H'
def CR (CX:CXT)(outer:List Env)(P:aN)(w:bq)(H:Hp)(s:au)(Q:VK)(E:XK)(r:Result)(s':au):Prop:=
 match r with
 | .ok (.ret u)=>CE outer P w H s Q u s'
 | .ok _=>False
 | .error e=>CX outer H s E e s'
structure cS (P:aN)(w:bq)(K:ak)(mg:Str→Option af)(base:bP)(CX:CXT)(k:Nat)(f:aq)(fd:aY)(ps:List Str)(sp:Sp):Prop where
 len:∀vs H Q E,sp vs H Q E→vs.length=ps.length
 run:∀(A:cp) (outer:List Env) (s:au) (H:Hp) (args:Args) (us:List af) (vs:List V) (Q:VK) (E:XK),jI k A→Env0 P w K mg base A outer s H→BindsTo s fd args (ps.zip us)→gZ vs us→sp vs H Q E →
  codeAny (bC P w) A (.call (.ref f) args) (CR CX outer P w H s Q E) s
theorem Env0.make (e:Env0 P w K mg base A outer s H)(C:aq)(us:List af)(kw:List (Str×af)) :
  Env0 P w K mg base (A.under (.builtin "type.__call__" ⟨.ref C::us,kw⟩)) outer s H:=⟨by first | exact e.frames | (simpa [cp.under,Code.envs,Code.isFrame,pushEnvs] using e.frames),e.mod,e.bs,e.bsz,e.funs,e.frf,e.hok,e.bare⟩
theorem Inv.env0 (I:Inv X aL σ H s):Env0 X.prog X.w X.K X.mg X.base X.A X.stack s H:=
 ⟨I.ok.frames,I.ok.mod,I.bs,cB I.ok.bsz I.sz,I.stack,I.stkFree,I.hok,I.bare⟩
theorem Inv.after {Q:VK}(I:Inv X aL σ H s)(h:CE X.stack X.prog X.w H s Q u s'):EP X aL σ Q u s':=by
 obtain⟨v,H',os,bare,un,hok,r,q⟩:=h;obtain⟨hh,g,d,t,os'⟩:=s';obtain rfl:os'=s.os:=os;exact⟨v,H',I.call (h':=hh) (g':=g) (d':=d) (t':=t) (ch:=[]) un hok bare (λb z=>rM z ∅),r,q⟩
def tCall (sp:Sp)(dvs:List V)(E:XK)(t:TA):TE:=λσ H Q=>t σ H λvs H1=>sp (vs++dvs) H1 Q E
def tMeth (C:aq)(m:Str)(sp:Sp)(dvs:List V)(E:XK)(ta:TE)(t:TA):TE:=λσ H Q=>ta σ H λx H1=>∃a dx fs,x= .ref a∧H1 a=some (.ins C dx fs)∧fs.lookup m=none ∧
 t σ H1 λvs H2=>sp (x::(vs++dvs)) H2 Q E
def tMake (C:aq)(sp:Sp)(dvs:List V)(E:XK)(t:TA):TE:=λσ H Q=>t σ H λvs H1=>∀x dx,H1 x=none→H1 dx=none→dx≠x →
 sp (.ref x::(vs++dvs)) (upd (upd H1 dx (.own x)) x (.ins C dx [])) (λv H2=>v= .non∧Q (.ref x) H2) E
def Binds (K:ak)(fd:aY)(ps:List Str)(ds:List af):Prop:=
 ∀(s:au) (us:List af),K.In s.heap→(us++ds).length=ps.length→BindsTo s fd ⟨us,[]⟩ (ps.zip (us++ds))
theorem Binds.all (h:∀us:List af,us.length=ps.length→bindArgs fd ⟨us,[]⟩=iJ (ps.zip us)):Binds K fd ps []:=λs us _ hl=>by
 rw[bY] at hl ⊢;exact .of_eq (h us hl)
def mq (CX:CXT)(X:Cx)(E:XK):Prop:=∀(aL:List (aq×Obj)) (σ:St) (H:Hp) (s:au) (e:af) (s':au),Inv X aL σ H s→CX X.stack H s E e s'→X.xe e s'
section
variable {CX:CXT}{sp:Sp}{ds:List af}{E:XK}{m:Str}{p:Pos}{o:Expr}{t:TA}
theorem run_fn {Q:VK}{vs:List V}(F:cS X.prog X.w X.K X.mg X.base CX k f fd ps sp)(hr:jI k X.A)(hb:Binds X.K fd ps ds)(hd:gZ dvs ds)(hx:mq CX X E)
  (I:Inv X aL σ H s) (r:gZ vs us) (h:sp (vs++dvs) H Q E):bc (bC X.prog X.w) X.A (call (.ref f) us) (EP X aL σ Q) X.xe s:=by
 have r2:gZ (vs++dvs) (us++ds):=r.append hd;have hl:(us++ds).length=ps.length:=by rw[←r2.length];exact F.len _ _ _ _ h
 apply ko (jU (F.run X.A X.stack s H ⟨us,[]⟩ (us++ds) (vs++dvs) Q E hr I.env0 (hb s us I.kIn hl) r2 h) λr s' hq=>?_);cases r with
 | error e=>exact hx aL σ H s e s' I hq
 | ok fl =>
  cases fl with
  | ret u=>exact I.after hq
  | next=>exact eF hq
  | brk=>exact eF hq
  | cont=>exact eF hq
theorem pe_call (F:cS X.prog X.w X.K X.mg X.base CX k f fd ps sp)(hr:jI k X.A)(hg:Gl X x)(hm:X.mg x=some (.ref f))(hk:dW X.K (.ref f)=true)(hb:Binds X.K fd ps ds)(hd:gZ dvs ds)(hx:mq CX X E)
  (ha:PA X (e::es) t) (hdb:(x == ("__debug__" :Str))=false:=by decide) (he:bB (e::es) X.env=(false,dn e X.env)::bB es X.env:=by rfl) (hpl:(gH pos (bB es X.env)).any (·.1)=false:=by rfl) :
  PE X (.Call (.Name x p) (e::es) [] pos) (tCall sp dvs E t):=by
 intro aL s σ H Q I h;apply iu (mV I hg hm ?_ hdb);apply lJ (h₀:=X.base) I.ok.mod.kin hk (thn (ha pos aL s σ H _ I h) λus s1 hz0=>?_) he hpl;obtain⟨vs,H1,I1,r,q⟩:=hz0;apply⟨I1.kIn,?_⟩;exact run_fn F hr hb hd hx I1 r q
theorem pe_call0 (F:cS X.prog X.w X.K X.mg X.base CX k f fd ps sp)(hr:jI k X.A)(hg:Gl X x)(hm:X.mg x=some (.ref f))(hk:dW X.K (.ref f)=true)(hb:Binds X.K fd ps ds)(hd:gZ dvs ds)(hx:mq CX X E)
  (hdb:(x == ("__debug__" :Str))=false:=by decide):PE X (.Call (.Name x p) [] [] pos) (tCall sp dvs E tNil):=by
 intro aL s σ H Q I h;apply iu (mV I hg hm ?_ hdb);exact PySem.W.callWith_K0 I.kIn hk (run_fn (us:=[]) F hr hb hd hx I .nil h)
theorem iD {pl:Sem Bool}(he:PE X o ta)(c:Cls X.K C)(hm:rb X.K C m f)(F:cS X.prog X.w X.K X.mg X.base CX k f fd ps sp)(hr:jI k X.A)(hb:Binds X.K fd ps ds)(hd:gZ dvs ds)(hx:mq CX X E)(ha:PA X (e::es) t)
  (hst:bB (e::es) X.env=(false,dn e X.env)::bB es X.env:=by rfl) (hpl:(gH pos (bB es X.env)).any (·.1)=false:=by rfl)
  (ht:dn (.Call (.Attribute o m apos) (e::es) [] pos) X.env=(do
   let ov ← dn o X.env
   standAt apos.atName
   let (f,first) ← holding [ov] (getMethod ov m pl)
   callWith pos f first (gH pos (bB (e::es) X.env)) (backToKw pos (kH [] X.env))):=by rfl) :
  PE X (.Call (.Attribute o m apos) (e::es) [] pos) (tMeth C m sp dvs E ta t):=by
 intro aL s σ H Q I h;apply PySem.W.methodCall_KW (pl:=pl) (thn (he aL s σ H _ I h) λu s1 hz0=>?_) ht;obtain⟨x,H1,I1,rx,a,dx,fs,ex,ea,l,q⟩:=hz0;subst ex;obtain rfl:u=af.ref a:=rx;apply rJ I1 ea c hm l ?_;apply lJ (first:=[.ref a]) (h₀:=X.base) I.ok.mod.kin hm.kp (thn (ha pos aL s1 σ H1 _ I1 q) λus s2 hz0=>?_) hst hpl;obtain⟨vs,H2,I2,r,q2⟩:=hz0;apply⟨I2.kIn,?_⟩;exact run_fn (us:=.ref a::us) (vs:=.ref a::vs) F hr hb hd hx I2 (.cons rfl r) q2
theorem iX {pl:Sem Bool}(he:PE X o ta)(c:Cls X.K C)(hm:rb X.K C m f)(F:cS X.prog X.w X.K X.mg X.base CX k f fd ps sp)(hr:jI k X.A)(hb:Binds X.K fd ps ds)(hd:gZ dvs ds)(hx:mq CX X E)
  (ht:dn (.Call (.Attribute o m apos) [] [] pos) X.env=(do
   let ov ← dn o X.env
   standAt apos.atName
   let (f,first) ← holding [ov] (getMethod ov m pl)
   callWith pos f first (gH pos (bB [] X.env)) (backToKw pos (kH [] X.env))):=by rfl) :
  PE X (.Call (.Attribute o m apos) [] [] pos) (tMeth C m sp dvs E ta tNil):=by
 intro aL s σ H Q I h;apply PySem.W.methodCall_KW (pl:=pl) (thn (he aL s σ H _ I h) λu s1 hz0=>?_) ht;obtain⟨x,H1,I1,rx,a,dx,fs,ex,ea,l,q⟩:=hz0;subst ex;obtain rfl:u=af.ref a:=rx;apply rJ I1 ea c hm l ?_;exact PySem.W.callWith_K0 (first:=[.ref a]) I1.kIn hm.kp (run_fn (us:=[.ref a]) (vs:=[.ref a]) F hr hb hd hx I1 (.cons rfl .nil) q)
structure Mk (K:ak)(C f:aq):Prop where
 makes:PySem.W.makesIn K C=true
 init:cf K (.ref C) "__init__" =some (some (.ref f))
 fn:PySem.W.isFn K (.ref f)=true
 kp:dW K (.ref C)=true
theorem run_make {Q:VK}{vs:List V}(M:Mk X.K C f)(F:cS X.prog X.w X.K X.mg X.base CX k f fd ps sp)(hr:jI (k+1) X.A)(hb:Binds X.K fd ps ds)(hd:gZ dvs ds)
  (hx:mq CX X E) (I:Inv X aL σ H s) (r:gZ vs us)
  (h:∀x dx,H x=none→H dx=none→dx≠x→sp (.ref x::(vs++dvs)) (upd (upd H dx (.own x)) x (.ins C dx [])) (λv H2=>v= .non∧Q (.ref x) H2) E) :
  bc (bC X.prog X.w) X.A (call (.ref C) us) (EP X aL σ Q) X.xe s:=by
 have hq:=h (s.heap.objs.size+1) s.heap.objs.size (I.hok.fresh (iF _)) (I.hok.fresh (aA _)) (cz (Nat.lt_succ_self _));have I2:=Inv.made (C:=C) I;have r2:gZ (V.ref (s.heap.objs.size+1)::(vs++dvs)) (af.ref (s.heap.objs.size+1)::(us++ds)):=.cons rfl (r.append hd);have hl:(af.ref (s.heap.objs.size+1)::us++ds).length=ps.length:=by
  have e:=r2.length;rw[F.len _ _ _ _ hq] at e;exact e.symm
 apply ko (make_map (f:=f) I.kIn M.makes M.init (beq_iff_eq.mp M.fn) (jU (F.run _ X.stack _ _ ⟨af.ref (s.heap.objs.size+1)::us,[]⟩ (af.ref (s.heap.objs.size+1)::(us++ds)) _ _ E (hr.make C us [])
  (I2.env0.make C us []) (hb _ (af.ref (s.heap.objs.size+1)::us) I2.kIn hl) r2 hq) fun r s' hq'=>?_))
 cases r with
 | error e=>exact hx aL σ _ _ e s' I2 hq'
 | ok fl =>
  cases fl with
  | ret u =>
   obtain⟨v,H',I3,rv,ev,q3⟩:=I2.after hq';subst ev;exact⟨rv,⟨V.ref (s.heap.objs.size+1),H',I3,rfl,q3⟩⟩
  | next=>exact eF hq'
  | brk=>exact eF hq'
  | cont=>exact eF hq'
theorem pe_make (M:Mk X.K C f)(F:cS X.prog X.w X.K X.mg X.base CX k f fd ps sp)(hr:jI (k+1) X.A)(hg:Gl X x)(hm:X.mg x=some (.ref C))(hb:Binds X.K fd ps ds)(hd:gZ dvs ds)(hx:mq CX X E)
  (ha:PA X (e::es) t) (hdb:(x == ("__debug__" :Str))=false:=by decide) (he:bB (e::es) X.env=(false,dn e X.env)::bB es X.env:=by rfl) (hpl:(gH pos (bB es X.env)).any (·.1)=false:=by rfl) :
  PE X (.Call (.Name x p) (e::es) [] pos) (tMake C sp dvs E t):=by
 intro aL s σ H Q I h;apply iu (mV I hg hm ?_ hdb);apply lJ (h₀:=X.base) I.ok.mod.kin M.kp (thn (ha pos aL s σ H _ I h) λus s1 hz0=>?_) he hpl;obtain⟨vs,H1,I1,r,q⟩:=hz0;apply⟨I1.kIn,?_⟩;exact run_make M F hr hb hd hx I1 r q
end
structure cA (N P:List Str)(sc:Scope):Prop where
 kind:sc.kind= .function
 co:sc.isCoroutine=false
 gen:sc.isGenerator=false
 nd:N.Nodup
 pre:N.take P.length=P
 par:∀x∈P,sc.names.lookup x=some .local∨sc.names.lookup x=some .cell
 nofree:∀y∈sc.names,y.2≠ .free
theorem bindL_out {kindOf:Str→Option dH}{x:Str}:∀{binds:List (Str×af)} {m:Str→Option af},(∀v,(x,v) ∉ binds)→bindL kindOf binds m x=m x
 | [],_,_=>rfl
 | (n,v)::r,m,h=>by
  unfold bindL;rw[bindL_out λw hw=>h w (aO _ hw)];split
  ·have:x≠n:=by rintro rfl;exact h v bJ
   simp[this]
  ·rfl
theorem bindC_out {kindOf:Str→Option dH}{x:Str}:∀{binds:List (Str×af)} {m:Str→Option af},(∀v,(x,v) ∉ binds)→bindC kindOf binds m x=m x
 | [],_,_=>rfl
 | (n,v)::r,m,h=>by
  unfold bindC;rw[bindC_out λw hw=>h w (aO _ hw)];split
  ·rfl
  ·have:x≠n:=by rintro rfl;exact h v bJ
   simp[this]
theorem bindL_get {kindOf:Str→Option dH}{x:Str}{v:af}:∀{P:List Str} {vs:List af} {i:Nat} {m:Str→Option af},P.Nodup→P[i]? =some x→vs[i]? =some v→kindOf x=some .local →
  bindL kindOf (P.zip vs) m x=some v
 | [],_,_,_,_,h,_,_=>by simp at h
 | _::_,[],_,_,_,_,h,_=>by simp at h
 | p::P,w::vs,0,m,nd,h1,h2,hk=>by
  simp at h1 h2;subst h1;subst h2;show bindL kindOf ((p,w)::P.zip vs) m p=_;unfold bindL;rw[bindL_out λv hv=>(bV.mp nd).1 (List.of_mem_zip hv).1,rL hk];simp
 | p::P,w::vs,i+1,m,nd,h1,h2,hk=>by
  show bindL kindOf ((p,w)::P.zip vs) m x=_;unfold bindL;exact bindL_get (i:=i) (bV.mp nd).2 (by simpa using h1) (by simpa using h2) hk
theorem bindC_get {kindOf:Str→Option dH}{x:Str}{v:af}:∀{P:List Str} {vs:List af} {i:Nat} {m:Str→Option af},P.Nodup→P[i]? =some x→vs[i]? =some v→kindOf x≠some .local →
  bindC kindOf (P.zip vs) m x=some v
 | [],_,_,_,_,h,_,_=>by simp at h
 | _::_,[],_,_,_,_,h,_=>by simp at h
 | p::P,w::vs,0,m,nd,h1,h2,hk=>by
  simp at h1 h2;subst h1;subst h2;show bindC kindOf ((p,w)::P.zip vs) m p=_;unfold bindC;rw[bindC_out λv hv=>(bV.mp nd).1 (List.of_mem_zip hv).1,rK hk];simp
 | p::P,w::vs,i+1,m,nd,h1,h2,hk=>by
  show bindC kindOf ((p,w)::P.zip vs) m x=_;unfold bindC;exact bindC_get (i:=i) (bV.mp nd).2 (by simpa using h1) (by simpa using h2) hk
def start (N:List Str)(vs:List V):St:=vs.map some++List.replicate (N.length - vs.length) none
def cxOf (CX:CXT)(P:aN)(w:bq)(K:ak)(mg:Str→Option af)(base:bP)(N:List Str)(qual:Str)(scope:Scope)(f:aq)(cd:af)(A:cp)(outer:List Env)(s:au)(H:Hp)(E:XK):Cx where
 prog:=P
 w:=w
 K:=K
 mg:=mg
 base:=base
 A:=A.deeper (envOfC qual scope s.heap.objs.size f cd)
 N:=N
 s₀:=s
 H₀:=H
 env:=envOfC qual scope s.heap.objs.size f cd
 outer:=outer
 stack:=envOfC qual scope s.heap.objs.size f cd::outer
 ex:=[]
 calm:=true
 fn:=λ_=>true
 pn:=[]
 xe:=λe s'=>bc (bC P w) (A.deeper (envOfC qual scope s.heap.objs.size f cd)) (leaving (envOfC qual scope s.heap.objs.size f cd) e) (λ_ s''=>CX outer H s E e s'') (λe' s''=>CX outer H s E e' s'') s'
theorem cell_has (h:sc.names.lookup x=some .cell):∃c,(cellsFrom n sc.names []).lookup x=some c:=by
 have q:=PySem.W.cellsFrom_some sc.names n [] (.inl h);exact mx.mp q
theorem inv_start {CX:CXT}{s1:au}{E:XK}{vs:List V}
  (S:cA N ps scope) (hd:A.handled=none) (e0:Env0 P w K mg base A outer s H) (hl:vs.length=ps.length) (r:gZ vs us)
  (x:InCallC s s.heap.objs.size (bindL (envOfC qual scope s.heap.objs.size f cd).kindOf (ps.zip us) λ_=>none) (cellsFrom (s.heap.objs.size+1) scope.names []) (bindC (envOfC qual scope s.heap.objs.size f cd).kindOf (ps.zip us) λ_=>none) s1) :
  Inv (cxOf CX P w K mg base N qual scope f cd A outer s H E) [] (start N vs) H s1:=by
 have hpl:ps.length≤N.length:=by have:=rR g9 S.pre;rw[aJ] at this;lia
 obtain⟨h1,tk,rfl,hk⟩:=x.done;have noA:∀b:aq,b ∉ (cxOf CX P w K mg base N qual scope f cd A outer s H E).ex:=λb z=>rM (show b∈([]:List aq) from z) ∅
 apply ⟨⟨e0.mod,S.kind,rfl,rfl,aA _,fun y z c h1 h2=>?_,fun y hy=>?_,fun y c _ h=>?_,fun _=>hd,cp.frames_deeper e0.frames,.inr ⟨rfl,rfl⟩,fun b z=>rM z (noA b),e0.bs,e0.bsz,fun b _ _=>noA b,fun b z=>rM z (noA b),e0.funs,e0.frf⟩,
  rfl,e0.bare,Un.kept hk,⟨_,x.toInCall.ns,fun i y v h1 h2 h3=>?_⟩,fun y c h=>⟨_,x.cell y c h⟩,e0.hok.fresh (aA _),fun y c h=>?_,fun p hp=>rM (show p∈([]:List (aq×Obj)) from hp) ∅,e0.hok.kept hk,?_⟩
 ·exact name_of_addr x.apart (gj h1) (gj h2)
 ·have hy:scope.names.lookup y=some .cell∨scope.names.lookup y=some .free:=hy
  rcases hy with hy | hy
  ·exact cell_has hy
  ·exact rM rfl (S.nofree _ (gj hy))
 ·exact Nat.le_of_lt (x.above y c (gj h))
 ·have hi:i<vs.length:=by
   unfold start at h2
   by_cases hi:i<vs.length
   ·exact hi
   ·rw[aR (by simpa using hi)] at h2
    rw[List.getElem?_replicate] at h2;split at h2 <;> cases h2
  have ha:vs[i]? =some v:=by
   unfold start at h2;rw[bI (by simpa using hi),ay] at h2;cases e:vs[i]? with
   | none=>rw[e] at h2;cases h2
   | some a=>rw[e] at h2;cases h2;rfl
  obtain⟨u,hu,rv⟩:=r.get ha;have hp:ps[i]? =some y:=by
   rw[←S.pre,cF ⋯];exact h1
  have ndP:ps.Nodup:=by rw[←S.pre];exact S.nd.sublist (List.take_sublist _ _)
  apply⟨u,rv,?_⟩
  rcases S.par y (aD hp) with k | k
  ·exact .inl ⟨k,bindL_get ndP hp hu k⟩
  ·obtain⟨c,e⟩:=cell_has (n:=s.heap.objs.size+1) k
   apply .inr ⟨.inl k,c,e,?_⟩;have q:=x.cell y c e;rw[bindC_get ndP hp hu (by show scope.names.lookup y≠_;rw[k];decide)] at q;exact q
 ·exact e0.hok.fresh (Nat.le_of_lt (x.above y c (gj h)))
 ·unfold start
  show _=N.length;rw[ao,ae,List.length_replicate];lia
theorem fn_of {CX:CXT}{params:Arguments}{dV kV doc pm cdv ct oc:af}{an:Option aq}
  {sp:Sp} (lk:K.lookup f=some ⟨oc,od,.func (fU name qual params body scope dV kV doc pm an cdv ct),osl⟩) (hcd:jk K cdv qual=true) (S:cA N ps scope)
  (len:∀vs H Q E,sp vs H Q E→vs.length=ps.length)
  (hbody:∀ (A:cp) (outer:List Env) (s:au) (H:Hp) (vs:List V) (Q:VK) (E:XK),jI k (A.deeper (envOfC qual scope s.heap.objs.size f cdv))→sp vs H Q E →
   ∃ t,PSs (cxOf CX P w K mg base N qual scope f cdv A outer s H E) body t∧t { nx:=fun _ H'=>Q .non H',rt:=Q } (start N vs) H) :
  cS P w K mg base CX (k+1) f (fU name qual params body scope dV kV doc pm an cdv ct) ps sp:=by
 apply⟨len,λA outer s H args us vs Q E hr e0 hb r hsp=>?_⟩;have hl:=len _ _ _ _ hsp;have KX:K.In s.heap:=e0.mod.kin.keeps λb o e=>(e0.bs b o e).1
 have lim:s.heap.NoLimit:=e0.mod.nolimit.keeps λb o e=>(e0.bs b o e).1
 have pH:∀y∈ps.zip us,scope.names.lookup y.1=some .local∨(scope.names.lookup y.1=some .cell∧((cellsFrom (s.heap.objs.size+1) scope.names []).lookup y.1).isSome=true):=λ⟨n,v⟩ hy=>by
  rcases S.par n (List.of_mem_zip hy).1 with q | q
  ·exact .inl q
  ·exact .inr ⟨q,PySem.W.cellsFrom_some _ _ _ (.inl q)⟩
 apply codeAny_call_function hr.depth (KX _ _ lk) rfl S.co S.gen rfl (PySem.W.codeRec_of KX hcd) (hb _ _ _ _ ?_);apply wpAny_newFunctionEnv_cells S.kind pH λenv he s1 x=>?_
 subst he;apply⟨lim.keeps x.toInCall.keep,codeAny_func ?_⟩;obtain⟨t,ht,hq⟩:=hbody A outer s H vs Q E (hr.deeper _) hsp;have I:Inv (cxOf CX P w K mg base N qual scope f cdv A outer s H E) [] (start N vs) H s1:=inv_start S hr.hd e0 hl r x;apply cW (ht [] s1 (start N vs) H _ I hq) (λfl s' hs=>?_) λe s' hs=>hs
 have fin:∀{σ':St} {H':Hp} {v:V} {u:af},Inv (cxOf CX P w K mg base N qual scope f cdv A outer s H E) [] σ' H' s'→iY v u→Q v H'→CE outer P w H s Q u s':=
  λ{σ' H' v u} J rv q=>⟨v,H',J.os,J.bare,J.base,J.hok,rv,q⟩
 cases fl with
 | ret u =>
  obtain⟨v,σ',H',J,rv,q⟩:=hs;exact fin J rv q
 | next =>
  obtain⟨σ',H',J,q⟩:=hs;exact fin (v:=V.non) (u:=af.none) J rfl q
 | brk =>
  obtain⟨_,_,_,q⟩:=hs;exact eF q
 | cont =>
  obtain⟨_,_,_,q⟩:=hs;exact eF q
section
variable {p:Pos}{t:TA}{id:String}{r:List V→Hp→VK→Prop}
def tCB (r:List V→Hp→VK→Prop)(t:TA):TE:=λσ H Q=>t σ H λvs H1=>r vs H1 Q
theorem bS (hc:jn X (.builtin id) r)(hg:Gl X x)(hm:X.mg x=none)(hv:bootBuiltins x=some (.builtin id))(ha:PA X (e::es) t)(hn:x ≠ "__name__":=by decide)(hdb:(x == ("__debug__" :Str))=false:=by decide)
  (he:bB (e::es) X.env=(false,dn e X.env)::bB es X.env:=by rfl) (hpl:(gH pos (bB es X.env)).any (·.1)=false:=by rfl):PE X (.Call (.Name x p) (e::es) [] pos) (tCB r t):=by
 intro aL s σ H Q I h;apply iu (oK I hg hm hv ?_ hn hdb);exact PyProof.Rows.callWith_builtin1 (thn (ha pos aL s σ H _ I h) λus s1 ⟨vs,H1,I1,r1,q1⟩=>hc aL s1 σ H1 vs us Q I1 r1 q1) he hpl
theorem ff (hc:jn X (.type T) r)(hg:Gl X x)(hm:X.mg x=none)(hv:bootBuiltins x=some (.type T))(ha:PA X (e::es) t)(hn:x ≠ "__name__":=by decide)(hdb:(x == ("__debug__" :Str))=false:=by decide)
  (he:bB (e::es) X.env=(false,dn e X.env)::bB es X.env:=by rfl) (hpl:(gH pos (bB es X.env)).any (·.1)=false:=by rfl):PE X (.Call (.Name x p) (e::es) [] pos) (tCB r t):=by
 intro aL s σ H Q I h;apply iu (oK I hg hm hv ?_ hn hdb);exact dY (thn (ha pos aL s σ H _ I h) λus s1 ⟨vs,H1,I1,r1,q1⟩=>hc aL s1 σ H1 vs us Q I1 r1 q1) he hpl
end
def MtM (X:Cx)(id:String)(r:V→List V→Hp→VK→Prop):Prop:=
 ∀(aL:List (aq×Obj)) (s:au) (σ:St) (H:Hp) (x:V) (xs:List V) (v:af) (us:List af) (Q:VK),Inv X aL σ H s→iY x v→gZ xs us→r x xs H Q →
  bc (bC X.prog X.w) X.A (call (.builtin id) (v::us)) (EP X aL σ Q) X.xe s
theorem gZ.one {x:V}(h:gZ [x] us):∃u,us=[u]∧iY x u:=by
 cases h with
 | cons r h=>cases h;exact⟨ρ,r⟩
theorem gZ.eraseIdx:∀{xs:List V} {us:List af} (i:Nat),gZ xs us→gZ (xs.eraseIdx i) (us.eraseIdx i)
 | _,_,_,.nil=>.nil
 | _,_,0,.cons _ t=>t
 | _,_,i+1,.cons r t=>.cons r (gZ.eraseIdx i t)
theorem len_erase {α:Type}:∀(l:List α) (i:Nat),(l.eraseIdx i).length≤l.length
 | [],_=>aA _
 | _::_,0=>iF _
 | _::r,i+1=>Nat.succ_le_succ (len_erase r i)
section
variable {l b:aq}{zs:List V}
theorem Inv.lset {its':List af}{f:Array af→Array af}(I:Inv X aL σ H s)(hH:H l=some (.lst xs))
  (e:s.heap.get? l=some { cls:=.type "list",data:=.seq its.toArray n }) (hf:f its.toArray=its'.toArray) (hv:gZ ys its') (hz:ys.length≤ax) :
  Inv X aL σ (upd H l (.lst ys)) { s with heap:=s.heap.update l (Obj.mapSeq f),toks:=t' }:=by
 have q:=PySem.IsL.update e f;rw[hf] at q;apply I.write (x:=l) (e:=l) (by rw[hH];exact trivial) (.inl rfl) (λb' u hb hu=>(gk s.heap (Obj.mapSeq f) (cM hb)).trans hu) ⟨_,q⟩ ?_;exact⟨hz,its',_,hv,q⟩
theorem Inv.lnew (I:Inv X aL σ H s)(hv:gZ ys its)(hz:ys.length≤ax) :
  Inv X aL σ (upd H s.heap.objs.size (.lst ys)) { s with heap:=s.heap.push { cls:=.type "list",data:=.seq its.toArray },toks:=t' }:=
 I.laid (λ_ _ q=>ar _ q) (aA _) ⟨hz,its,0,hv,aU _ rfl⟩
theorem Inv.fresh (I:Inv X aL σ H s):H s.heap.objs.size=none:=I.hok.fresh (aA _)
theorem Inv.lstM (I:Inv X aL σ H s)(hH:H l=some (.lst xs)):xs.length≤ax∧∃(its:List af) (n:Nat),gZ xs its∧xs.length=its.length∧s.heap.get? l=some { cls:=.type "list",data:=.seq its.toArray n }:=by
 obtain⟨z,its,n,r,e⟩:=I.hok l _ hH;exact⟨z,its,n,r,r.length,e⟩
theorem notLongL (h:n≤ax):lE n=false:=by
 unfold lE;exact rP ⋯
end
inductive rAppend (x:V)(vs:List V)(H:Hp)(Q:VK):Prop
 | mk (l xs y:_)(_:x= .ref l)(_:vs=[y])(_:H l=some (.lst xs))(_:xs.length<ax)(_:Q .non (upd H l (.lst (xs++[y]))))
theorem gp:MtM X "list.append" rAppend:=by
 intro aL s σ H x vs v us Q I rx rv h;obtain⟨l,xs,y,rfl,rfl,hH,hz,q⟩:=h;cases rx;obtain⟨u,rfl,ru⟩:=rv.one;obtain⟨z,its,n,r,hl,e⟩:=I.lstM hH;apply lI F.slot_list_append ⟨_,e,rfl⟩ F.entry_list_append (F.args_list_append_2 _ _) (PySem.list_append l its.toArray n u (by rw[aE];lia)) ⟨e,?_⟩;apply⟨.non,_,I.lset (its':=its++[u]) hH e ∅ (r.append (.cons ru .nil)) ?_,rfl,q⟩;rw[ao,List.length_singleton];lia
inductive rExtend (x:V)(vs:List V)(H:Hp)(Q:VK):Prop
 | mk (l b xs zs:_)(_:x= .ref l)(_:vs=[.ref b])(_:H l=some (.lst xs))(_:H b=some (.lst zs))(_:xs.length+zs.length≤ax)(_:Q .non (upd H l (.lst (xs++zs))))
theorem mt_extend:MtM X "list.extend" rExtend:=by
 intro aL s σ H x vs v us Q I rx rv h;obtain⟨l,b,xs,zs,rfl,rfl,hH,hB,hz,q⟩:=h;cases rx;obtain⟨u,rfl,ru⟩:=rv.one;cases ru;obtain⟨z,its,n,r,hl,e⟩:=I.lstM hH;obtain⟨z2,its2,n2,r2,hl2,e2⟩:=I.lstM hB;have hsz:its.toArray.size+its2.toArray.size≤ax:=by rw[aE,aE];lia
 have hlong:¬(!its.toArray.isEmpty && lE (its.toArray.size+its2.toArray.size))=true:=by
  rw[notLongL hsz,Bool.and_false];exact bQ
 apply lI F.slot_list_extend ⟨_,e,rfl⟩ F.entry_list_extend (F.args_list_extend_2 _ _)
  (AutoSeq1.list_extend_list_list_0 l its.toArray n b its2.toArray n2 hlong (by rw[aE];lia) ⋯) ⟨e,e2,?_⟩
 apply⟨.non,_,I.lset (its':=its++its2) hH e ∅ (r.append r2) ?_,rfl,q⟩;rw[ao];lia
inductive rPopAt (x:V)(vs:List V)(H:Hp)(Q:VK):Prop
 | mk (l xs i k y:_)(_:x= .ref l)(_:vs=[.int i])(_:H l=some (.lst xs))(_: -(2 ^ 63)≤i)(_:i<2 ^ 63)(_:seqIndex? i xs.length=some k)(_:xs[k]? =some y)(_:Q y (upd H l (.lst (xs.eraseIdx k))))
theorem mt_popAt:MtM X "list.pop" rPopAt:=by
 intro aL s σ H x vs v us Q I rx rv h;obtain⟨l,xs,i,k,y,rfl,rfl,hH,h1,h2,hk,hy,q⟩:=h;cases rx;obtain⟨u,rfl,ru⟩:=rv.one;obtain⟨t,rfl⟩:=ru;obtain⟨z,its,n,r,hl,e⟩:=I.lstM hH;obtain⟨w,hw,rw'⟩:=r.get hy;apply lI F.slot_list_pop ⟨_,e,rfl⟩ F.entry_list_pop (F.args_list_pop_2 _ _)
  (MeetsSeq.list_pop_at l its.toArray n i t k w (fitsIndex_both h1 h2) (by rw[aE,←hl];exact hk) (by rw[←kK];exact hw) (by rw[aE];lia)) ⟨e,?_⟩
 apply⟨y,_,I.lset (its':=its.eraseIdx k) hH e ?_ (r.eraseIdx k) ?_,rw',q⟩
 ·show its.toArray.eraseIdxIfInBounds k=(its.eraseIdx k).toArray
  rw[List.eraseIdxIfInBounds_toArray]
 ·have:=len_erase xs k
  lia
inductive rCat (x:V)(y:V)(H:Hp)(Q:VK):Prop
 | mk (l b xs zs:_)(_:x= .ref l)(_:y= .ref b)(_:H l=some (.lst xs))(_:H b=some (.lst zs))(_:xs.length+zs.length≤ax)(_:∀p,H p=none→Q (.ref p) (upd H p (.lst (xs++zs))))
theorem op_cat:OpR X (iZ .Add) rCat:=by
 intro aL s σ H x y v u Q I rx ry h;obtain⟨l,b,xs,zs,rfl,rfl,hH,hB,hz,q⟩:=h;cases rx;cases ry;obtain⟨z,its,n,r,hl,e⟩:=I.lstM hH;obtain⟨z2,its2,n2,r2,hl2,e2⟩:=I.lstM hB;apply PySem.P.add_list e e2 ?_ (by rw[aE,aE];lia);have ea:its.toArray++its2.toArray=(its++its2).toArray:=by simp
 rw[ea];exact⟨.ref _,_,I.lnew (t':=s.toks) (r.append r2) (by rw[ao];lia),rfl,q _ I.fresh⟩
theorem vals_ints:∀{vs:List af} {ns:List Int},IntsAre vs ns→gZ (ns.map V.int) vs
 | _,_,.nil=>.nil
 | _,_,.cons n t h=>.cons ⟨t,rfl⟩ (vals_ints h)
def Only (H:Hp):Prop:=∀b,H b=none∨∃o xs,H b=some (.frz o (.lst xs))
theorem law_call {mb:Str→Option af}{CX:CXT}{sp:Sp}{s₁:au}{ns:List Int}
  (KX:K.In s₁.heap) (hns:s₁.heap.Ns bH mg) (hb:s₁.heap.Ns builtinsNs mb) (hbb:∀x:Str,x ≠ "__name__" →mb x=bootBuiltins x) (hlim:s₁.heap.NoLimit) (hg:s₁.gens= #[])
  (ha:s₁.heap.get? a=some { cls:=.type "list",data:=.seq vs.toArray }) (hi:IntsAre vs ns) (hl:ns.length≤ax) (hr:jI k callerA)
  (F:∀base:bP,K.In base→base.Ns bH mg→cS P w K mg base CX k fa fd [x] sp) (hbind:∀(s:au) (u:af),BindsTo s fd ⟨[u],[]⟩ [(x,u)])
  (hsp:∀H:Hp,Only H→SqL K H a (ns.map V.int)→sp [.ref a] H (λv _=>v= .bl true) λ_ _ _=>False)
  (hCX:∀H e s',CX [] H s₁ (λ_ _ _=>False) e s'→False) :
  codeAny (bC P w) callerA (.call (.ref fa) ⟨[.ref a],[]⟩) (λr s'=>r= .ok (.ret (.bool true))∧OldK s₁.heap s'.heap∧s'.os=s₁.os∧AllBare s'.gens) s₁:=by
 have rv:=vals_ints hi;have lenV:=hi.length;have core:∀H:Hp,Only H→SqL K H a (ns.map V.int)→HOk P w H s₁.heap→(∀b,H b≠none→b=a)→(H a≠none→K.lookup a=none) →
   codeAny (bC P w) callerA (.call (.ref fa) ⟨[.ref a],[]⟩) (λr s'=>r= .ok (.ret (.bool true))∧OldK s₁.heap s'.heap∧s'.os=s₁.os∧AllBare s'.gens) s₁:=by
  intro H hO hS hok hA hK;have base_of:∀{b:aq} {o:Obj},s₁.heap.get? b=some o→H b=none→(hidT s₁.heap H).get? b=some o:=λe n=>hidT_get e n
  have noA:∀{b:aq} {o:Obj} {es:Array DictEntry} {ep:Nat},s₁.heap.get? b=some o→o.data= .dict es ep→H b=none:=λ{b o es ep} e d=>by
   cases q:H b with
   | none=>rfl
   | some u =>
    have e':b=a:=hA b (by rw[q];simp);subst e';rw[ha] at e;cases e;have d':Data.seq vs.toArray _=Data.dict es ep:=d;cases d'
  have nsK:∀{b:aq} {m:Str→Option af},s₁.heap.Ns b m→(hidT s₁.heap H).Ns b m:=λ{b m} ⟨o,es,ep,e,d,r⟩=>⟨o,es,ep,base_of e (noA e d),d,r⟩
  have hKb:K.In (hidT s₁.heap H):=fun b o e=>base_of (KX b o e) (by
   cases q:H b with
   | none=>rfl
   | some u =>
    have e':b=a:=hA b (by rw[q];simp);subst e';rw[hK (by rw[q];simp)] at e;cases e)
  have hM:Mod K mg (hidT s₁.heap H):=⟨hKb,nsK hns,⟨mb,nsK hb,hbb⟩,let ⟨mc,h1,h2⟩:=hlim;⟨mc,nsK h1,h2⟩⟩;have e0:Env0 P w K mg (hidT s₁.heap H) callerA [] s₁ H:=⟨rfl,hM,λb o e=>of_hidT e,Nat.le_of_eq (hidT_size _ _),trivial,λb hb=>rM (show b∈([]:List aq) from hb) ∅,hok,.of_eq hg⟩;apply jU ((F _ hKb (nsK hns)).run callerA [] s₁ H ⟨[.ref a],[]⟩ [.ref a] [.ref a] _ _ hr e0 (hbind s₁ (.ref a)) (.cons rfl .nil) (hsp H hO hS)) λr s' h=>?_
  cases r with
  | error e=>exact(hCX H e s' h).elim
  | ok fl =>
   cases fl with
   | next=>exact eF h
   | brk=>exact eF h
   | cont=>exact eF h
   | ret u =>
    obtain⟨v,H',os,bare,un,hok',r',q⟩:=h;have q':v= .bl true:=q;subst q';obtain rfl:u=af.bool true:=r';apply⟨rfl,OldK.of_keep λb o e=>?_,os,bare⟩;cases q:H b with
    | none=>exact un.keep b o e q (by intro z;exact rM (show b∈([]:List aq) from z) ∅) ∅
    | some u =>
     rcases hO b with z | ⟨ob,xs,z⟩
     ·rw[q] at z;cases z
     ·have z2:=un.frzs b ob _ z
      obtain⟨e1,_⟩:=hok b _ z;obtain⟨e2,_⟩:=hok' b _ z2;rw[e] at e1;cases e1;exact e2
 cases hk:K.lookup a with
 | some o =>
  have e:=KX a o hk;rw[ha] at e;cases e;apply core (λ_=>none) (λ_=>.inl rfl) (.inr ⟨_,vs.toArray,_,hk,rfl,rfl,rfl,by rw[aE,lenV];exact hl,by simpa using rv⟩) (λb u z=>by have z':(none:Option HO)=some u:=z;cases z') (λb z=>rM rfl z) λz=>rM rfl z
 | none =>
  apply core (λb=>if b=a then some (.frz { cls:=.type "list",data:=.seq vs.toArray } (.lst (ns.map V.int))) else none) (λb=>?_) (.inl (.inr ⟨{ cls:=.type "list",data:=.seq vs.toArray },rL rfl⟩)) (λb u z=>?_) (λb z=>?_) λ_=>hk
  ·by_cases hb:b=a
   ·exact .inr ⟨_,_,rL hb⟩
   ·exact .inl (rK hb)
  ·by_cases hb:b=a
   ·have z':=(rL hb).symm.trans z
    cases z';subst hb;exact⟨ha,by rw[ae];exact hl,vs,_,rv,ha⟩
   ·have z':=(rK hb).symm.trans z
    cases z'
  ·by_cases hb:b=a
   ·exact hb
   ·exact rM (rK hb) z
abbrev CX0:CXT:=λ_ _ _ _ _ _=>False
abbrev E0:XK:=λ_ _ _=>False
theorem ju:mq CX0 X E0:=λ_ _ _ _ _ _ _ h=>h.elim
structure Fun (K:ak)(x qual:Str)(st:cN)(f:aq)(fd:aY):Prop where
 ex:∃(oc:af) (od:Option aq) (kV doc pm:af) (an:Option aq) (cdv ct:af) (osl:Array (Option af)),
  fd=fU x qual (lq st) (j8 st) (defScope st) .none kV doc pm an cdv ct∧K.lookup f=some ⟨oc,od,.func fd,osl⟩∧jk K cdv qual=true
 kp:dW K (.ref f)=true
theorem Fun.ok {sp:Sp}(F:Fun K x qual st f fd)(S:cA N ps (defScope st))(len:∀vs H Q E,sp vs H Q E→vs.length=ps.length)
  (hbody:∀ (cdv:af) (A:cp) (outer:List Env) (s:au) (H:Hp) (vs:List V) (Q:VK) (E:XK),jI k (A.deeper (envOfC qual (defScope st) s.heap.objs.size f cdv))→sp vs H Q E →
   ∃ t,PSs (cxOf CX0 P w K mg base N qual (defScope st) f cdv A outer s H E).nox (j8 st) t∧t { nx:=fun _ H'=>Q .non H',rt:=Q } (start N vs) H):‹0› (k+1) f fd ps sp:=by
 obtain⟨oc,od,kV,doc,pm,an,cdv,ct,osl,rfl,lk,hcd⟩:=F.ex;apply fn_of lk hcd S len λA outer s H vs Q E hr hsp=>?_
 obtain⟨t,h,q⟩:=hbody cdv A outer s H vs Q E hr hsp;exact⟨t,h.nox,q⟩
theorem Fun.binds (F:Fun K x qual st f fd)
  (h:∀(kV doc pm:af) (an:Option aq) (cdv ct:af) (us:List af),us.length=ps.length→bindArgs (fU x qual (lq st) (j8 st) (defScope st) .none kV doc pm an cdv ct) ⟨us,[]⟩=iJ (ps.zip us)):Binds K fd ps []:=by
 obtain⟨oc,od,kV,doc,pm,an,cdv,ct,osl,rfl,lk,hcd⟩:=F.ex;exact .all (h kV doc pm an cdv ct)
theorem fun_mk {oc:af}{an:Option aq}{kV doc pm cdv ct:af}(l:K.lookup f=some ⟨oc,od,.func (fU x qual (lq st) (j8 st) (defScope st) .none kV doc pm an cdv ct),osl⟩)
  (c:jk K cdv qual=true) (k:dW K (.ref f)=true):Fun K x qual st f (fU x qual (lq st) (j8 st) (defScope st) .none kV doc pm an cdv ct):=⟨⟨oc,od,kV,doc,pm,an,cdv,ct,osl,rfl,l,c⟩,k⟩
theorem pv (i:Nat)(hN:X.N[i]? =some x:=by rfl)(hv:Vis X.env.scope x:=by first | exact Or.inl rfl | exact Or.inr (Or.inl rfl) | exact Or.inr (Or.inr rfl))(hd:(x == ("__debug__" :Str))=false:=by decide)
  (hcd:(x == ("__classdict__" :Str))=false:=by decide):PE X (.Name x pos) (tVar i):=pe_var hN hv hd hcd
theorem iteT {A B:Prop}(h:A):if true=true then A else B:=by
 rw[rL rfl];exact h
theorem jq {c A B:Prop}[Decidable c](h1:c→A)(h2:¬c→B):if c then A else B:=by
 by_cases h:c
 ·rw[rL h]
  exact h1 h
 ·rw[rK h]
  exact h2 h
def cg (H H':Hp):Prop:=∀b o,H b=some o→H' b=some o
theorem cg.refl (H:Hp):cg H H:=λ_ _ h=>h
theorem cg.trans (a:cg H H1)(b:cg H1 H2):cg H H2:=λc o h=>b c o (a c o h)
theorem cg.free (e:cg H H'){l:aq}(h:H' l=Option.none):H l=Option.none:=by
 cases q:H l with
 | none=>rfl
 | some o =>
  rw[e l o q] at h;cases h
def qR (X:Cx)(scope:Scope)(cl:List (Str×aq))(C:aq)(N:List Str)(s:au)(H:Hp)(ex:List aq):Cx:=
 { X with N:=N,s₀:=s,H₀:=H,env:=compEnvC scope cl C X.env,outer:=X.stack,ex:=ex,fn:=λ_=>false,pn:=[],xe:=λ_ _=>False }
theorem closure_has (hf:∀y∈scope.names,y.2= .free→∃c,env.cells.lookup y.1=some c) :
  ∃cl,closureFor scope env=iJ cl∧(∀x c,cl.lookup x=some c→env.cells.lookup x=some c)∧∀y∈scope.names,y.2= .free→cl.lookup y.1=env.cells.lookup y.1:=by
 have aux:∀(names:List (Str×dH)) (acc:List (Str×aq)),(∀y∈names,y.2= .free→∃c,env.cells.lookup y.1=some c)→(∀x c,acc.lookup x=some c→env.cells.lookup x=some c) →
   ∃ cl,(forIn names acc fun x r=>match x with
     | (name,kind)=>if (kind == dH.free)=true then (cellOf env name >>= fun c=>iJ (ForInStep.yield ((name,c)::r))) else iJ (ForInStep.yield r):Sem (List (Str×aq)))=iJ cl ∧
    (∀x c,cl.lookup x=some c→env.cells.lookup x=some c)∧(∀x c,acc.lookup x=some c→cl.lookup x=some c)∧∀y∈names,y.2= .free→cl.lookup y.1=env.cells.lookup y.1:=by
  intro names
  induction names with
  | nil=>intro acc _ ha;exact⟨acc,rfl,ha,λ_ _ e=>e,λy hy=>rM hy ∅⟩
  | cons z r ih =>
   intro acc hn ha;obtain⟨n,k⟩:=z;have hr:∀y∈r,y.2= .free→∃c,env.cells.lookup y.1=some c:=λy hy=>hn y (aO _ hy)
   by_cases hk:k= .free
   ·subst hk
    obtain⟨c,hc⟩:=hn (n,.free) bJ rfl;have hc:env.cells.lookup n=some c:=hc;have ha':∀x d,((n,c)::acc).lookup x=some d→env.cells.lookup x=some d:=λx d e=>by
     rw[fz] at e;cases hx:x == n with
     | true =>
      rw[hx] at e;have e':c=d:=bF e;have ex:x=n:=eq_of_beq hx;rw[ex,←e'];exact hc
     | false=>rw[hx] at e;exact ha x d e
    obtain⟨cl,e1,e2,e3,e4⟩:=ih ((n,c)::acc) hr ha';have oa:cellOf env n=iJ c:=by unfold cellOf;rw[hc]
    apply⟨cl,?_,e2,λx d e=>?_,λy hy hy2=>?_⟩
    ·rw[List.forIn_cons]
     show((if (dH.free == dH.free)=true then (cellOf env n >>= λc=>iJ (ForInStep.yield ((n,c)::acc))) else iJ (ForInStep.yield acc)) >>= _)=_;rw[rL (by decide:(dH.free == dH.free)=true),oa];exact e1
    ·have h1:((n,c)::acc).lookup x=some (if x == n then c else d):=by
      rw[fz];cases hx:x == n with
      | true=>rfl
      | false=>exact e
     have h2:=e3 x _ h1;have h3:=e2 x _ h2;have h4:=ha x d e;rw[h3] at h4;rw[h2];exact h4
    ·rcases az.mp hy with rfl | hy3
     ·have h1:((n,c)::acc).lookup n=some c:=by rw[fz,beq_self_eq_true]
      show cl.lookup n=_;rw[e3 n c h1,hc]
     ·exact e4 y hy3 hy2
   ·have hb:(k == dH.free)=false:=by simpa using hk
    obtain⟨cl,e1,e2,e3,e4⟩:=ih acc hr ha;apply⟨cl,?_,e2,e3,λy hy hy2=>?_⟩
    ·rw[List.forIn_cons]
     show((if (k == dH.free)=true then (cellOf env n >>= λc=>iJ (ForInStep.yield ((n,c)::acc))) else iJ (ForInStep.yield acc)) >>= _)=_;rw[hb];exact e1
    ·rcases az.mp hy with rfl | hy3
     ·exact rM hy2 hk
     ·exact e4 y hy3 hy2
 obtain⟨cl,e1,e2,_,e4⟩:=aux scope.names [] hf λx c e=>by cases e
 apply⟨cl,Eq.trans ?_ e1,e2,e4⟩;unfold closureFor
 first
  | rfl
  | (simp only[bind_pure];done)
  | (simp only[bind_pure];rfl)
  | (simp only[bind_pure]
     congr 1
     funext x r
     obtain ⟨n,k⟩:=x;cases (k == dH.free) <;> rfl)
theorem pj {env:Env}:∀{names:List (Str×dH)} {x:Str} {k':dH},
  (names.map λ(n,k)=>if (k == dH.free && env.scope.kind == .function && env.kindOf n == some .cell) then (n,dH.cell) else (n,k)).lookup x=some k' →
  names.lookup x=some k'∨(names.lookup x=some .free∧k'= .cell)
 | [],_,_,h=>by simp at h
 | (n,k)::r,x,k',h=>by
  have ih:=@pj env r x k';rw[bo] at h;show eT x ((n,k)::r)=_∨(eT x ((n,k)::r)=_∧_);rw[fz]
  by_cases hq:(k == dH.free && env.scope.kind == .function && env.kindOf n == some .cell)=true
  ·have g:eT x ((if (k == dH.free && env.scope.kind == .function && env.kindOf n == some .cell)=true then (n,dH.cell) else (n,k))::_)=_:=h
   rw[rL hq,fz] at g;have hk:k= .free:=by
    rw[bW,bW] at hq;exact eq_of_beq hq.1.1
   cases hx:x == n with
   | true=>rw[hx] at g;rw[hk];exact .inr ⟨rfl,(bF g).symm⟩
   | false=>rw[hx] at g;exact ih g
  ·have g:eT x ((if (k == dH.free && env.scope.kind == .function && env.kindOf n == some .cell)=true then (n,dH.cell) else (n,k))::_)=_:=h
   rw[rK hq,fz] at g;cases hx:x == n with
   | true=>rw[hx] at g;exact .inl g
   | false=>rw[hx] at g;exact ih g
theorem pM {env:Env}(hk:env.scope.kind= .function){x:Str}(hx:env.kindOf x=some .cell):∀{names:List (Str×dH)},names.lookup x=some .free →
  (names.map λ(n,k)=>if (k == dH.free && env.scope.kind == .function && env.kindOf n == some .cell) then (n,dH.cell) else (n,k)).lookup x=some .cell
 | [],h=>by simp at h
 | (n,k)::r,h=>by
  have ih:=@pM env hk x hx r;show eT x ((if (k == dH.free && env.scope.kind == .function && env.kindOf n == some .cell)=true then (n,dH.cell) else (n,k))::_)=some dH.cell;rw[fz] at h;cases hxn:x == n with
  | true =>
   rw[hxn] at h;have ek:k= .free:=bF h;have en:x=n:=eq_of_beq hxn;subst ek en;rw[rL (by rw[hk,hx];rfl),fz,beq_self_eq_true]
  | false =>
   rw[hxn] at h
   by_cases hq:(k == dH.free && env.scope.kind == .function && env.kindOf n == some .cell)=true
   ·rw[rL hq,fz,hxn];exact ih h
   ·rw[rK hq,fz,hxn];exact ih h
def PTs (X:Cx)(ifs:List Expr)(t:TT):Prop:=
 ∀(aL:List (aq×Obj)) (s:au) (σ:St) (H:Hp) (Q:Bool→Hp→Prop),Inv X aL σ H s→t σ H Q →
  bc (bC X.prog X.w) X.A (forIn ifs true λc r=>if r=true then do let ok ← isTrue c X.env (dn c X.env);iJ (ForInStep.yield ok) else iJ (ForInStep.yield r)) (TP X aL σ Q) X.xe s
def tNoIf:TT:=λ_ H Q=>Q true H
theorem jj {A B:Hp→Prop}(h:A H):tNoIf σ H λb H4=>if b=true then A H4 else B H4:=by
 show if true=true then A H else B H;rw[rL rfl];exact h
theorem j7:PTs X [] tNoIf:=λ_ _ _ H _ I h=>wpAny_tests_nil ⟨H,I,h⟩
theorem nV {c:Expr}{t:TT}(h:PT X c t):PTs X [c] t:=λaL s σ H Q I q=>wpAny_tests_one (h aL s σ H Q I q)
theorem HOk.take {h:bP}(x:HOk P w H h)(hn:H a=none)(new:iE P w (upd H a o) h a o):HOk P w (upd H a o) h:=λb u e=>by
 by_cases hb:b=a
 ·subst hb;rw[aP] at e;cases e;exact new
 ·rw[bf hb] at e
  exact(x b u e).stay (λ_ _ _ q=>q) (λc q=>by rw[bf (aZ q hn)];exact q) λc xs q=>by rw[bf (aZ q hn)];exact q
def hZ (σ:St)(js:List Nat):St:=js.map λj=>(σ[j]?).getD none
def CompW (js:List Nat)(tt:TT)(te:TE)(σ:St)(Q:VK)(J:It)(H1:Hp):Prop:=∃W:Nat→Nat→List V→Hp→Prop,(∃m,W 0 m [] H1)∧∀i m ys H2,W i m ys H2 →
 (J.stop i H2∧∀D,H2 D=none→Q (.ref D) (upd H2 D (.lst ys))) ∨
 (J.go i H2∧ys.length<ax∧∃ N:List V→Hp→Prop,(∀ ys' H',N ys' H'→∃ m',m'<m∧W (i+1) m' ys' H')∧∀ x H3,J.yld i H2 x H3→tt (some x::hZ σ js) H3 fun b H4 =>
  if b=true then te (some x::hZ σ js) H4 fun y H5=>N (ys++[y]) H5 else N ys H4)
def tComp (wi:TI)(js:List Nat)(tt:TT)(te:TE):TE:=λσ H Q=>wi σ H λJ H1=>CompW js tt te σ Q J H1
abbrev lobj (us:List af)(n:Nat):Obj:={ cls:=.type "list",data:=.seq us.toArray n }
abbrev pU (prog:aN)(w:bq)(A:cp)(env:Env)(R:Result→au→Prop):af→au→Prop:=notedBy (bC prog w) A env λx t=>R (.error x) t
theorem loop_any {it acc:af}(J:Nat→au→Prop)
  (step:∀ k t,J k t→bc (bC prog w) A (pyNext it) (fun r t1=>match r with
   | none=>R (.ok .next) t1
   | some v=>bc (bC prog w) A (md tg it v) (fun _ t2=>bc (bC prog w) A (assign tg env v) (fun _ t3 =>
     bc (bC prog w) A (forIn ifs true fun c b=>if b=true then do let z ← isTrue c env (dn c env);iJ (ForInStep.yield z) else iJ (ForInStep.yield b)) (fun z t4 =>
      if z=true then bc (bC prog w) A (dn elt env) (λy t5=>bc (bC prog w) A (call (.builtin "list.append") [acc,y]) (λ_ t6=>∃m,m<k∧J m t6) (pU prog w A env R) t5) (pU prog w A env R) t4
      else ∃ m,m<k∧J m t4) (pU prog w A env R) t3) (pU prog w A env R) t2) (pU prog w A env R) t1) (pU prog w A env R) t)
  (k:Nat) (h:J k s):codeAny (bC prog w) A (.compLoop (.ListComp elt [⟨tg,iter,ifs,0⟩] scope pos) 0 it acc env) R s:=by
 apply codeAny_loop rfl J (λk t hJ=>?_) k h;show bc _ A ((compTurn (.ListComp elt [⟨tg,iter,ifs,0⟩] scope pos) 0 it acc env).onRaise (λy=>do noteFrame y env;theTreesLotGoes y)) _ _ t;apply wpAny_noted ?_;rw[compTurn_list];apply ai (wpAny_standAt (ai (cW (step k t hJ) (λr t1 q1=>?_) λ_ _ f=>f)));cases r with
 | none=>exact aI q1
 | some v =>
  apply ai (cW q1 (λ_ t2 q2=>?_) λ_ _ f=>f);apply ai (cW q2 (λ_ t3 q3=>?_) λ_ _ f=>f);apply ai (cW q3 (λz t4 q4=>?_) λ_ _ f=>f);cases z with
  | false=>exact aI ⟨rfl,q4⟩
  | true=>exact ai (ai (cW q4 (λy t5 q5=>ai (cW q5 (λ_ t6 q6=>aI (aI ⟨rfl,q6⟩)) λ_ _ f=>f)) λ_ _ f=>f))
def CompWT (n:Nat)(g:TG)(js:List Nat)(tt:TT)(te:TE)(σ:St)(Q:VK)(J:It)(H1:Hp):Prop:=∃W:Nat→Nat→List V→Hp→Prop,(∃m,W 0 m [] H1)∧∀i m ys H2,W i m ys H2 →
 (J.stop i H2∧∀D,H2 D=none→Q (.ref D) (upd H2 D (.lst ys))) ∨
 (J.go i H2∧ys.length<ax∧∃ N:List V→Hp→Prop,(∀ ys' H',N ys' H'→∃ m',m'<m∧W (i+1) m' ys' H')∧∀ x H3,J.yld i H2 x H3→∀ v0:St,v0.length=n→g x (v0++hZ σ js) H3 fun σ4 H4 =>
  (∃ v1:St,v1.length=n∧σ4=v1++hZ σ js)∧tt σ4 H4 fun b H5=>if b=true then te σ4 H5 fun y H6=>N (ys++[y]) H6 else N ys H5)
def cxC (XE:List (Str×aq)→aq→af→au→Prop)(X:Cx)(scope:Scope)(cl:List (Str×aq))(C:aq)(N:List Str)(s:au)(H:Hp)(ex:List aq):Cx:=
 { X with N:=N,s₀:=s,H₀:=H,env:=compEnvC scope cl C X.env,outer:=X.stack,ex:=ex,fn:=λ_=>false,pn:=[],xe:=XE cl C }
theorem comp_core {Q:VK}{use:Option (af→Sem Unit)}{R:af→au→Prop}{xs:List Str}{wi:TI}
  (hc:X.calm=true) (hi:PI X tg iter wi)
  (oa:∀y∈scope.names,y.2≠ .cell) (pH:scope.kind= .function) (oO:∀y∈scope.names,y.2= .local→scope.names.lookup y.1=some .local)
  (hfr:∀y∈scope.names,y.2= .free→X.env.scope.names.lookup y.1=some .cell) (hjs:js.map (λj=>X.N[j]?)=fr.map some) (hfv:∀y∈fr,scope.names.lookup y=some .free)
  (hg:∀cl C s' H' ex,PG (cxC XE X scope cl C (xs++fr) s' H' ex) tg g)
  (hb:∀cl C s' H' ex,PASS cl C s' H' ex→PE (cxC XE X scope cl C (xs++fr) s' H' ex) elt te∧PTs (cxC XE X scope cl C (xs++fr) s' H' ex) ifs tt)
  (hp:∀cl C aL σ H2 s2 fp,Inv X aL σ H2 s2→(∀b∈fp,b∈X.ex∨X.s₀.heap.objs.size≤b)→s2.heap.objs.size≤C→PASS cl C s2 H2 fp)
  (hxe:∀cl C D e s',XE cl C e s'→pU X.prog X.w X.A (compEnvC scope cl C X.env) (compPost (bC X.prog X.w) X.A X.xe use R D C) e s')
  (hCW:∀σ Q J H1,CW σ Q J H1→CompWT xs.length g js tt te σ Q J H1) (I:Inv X aL σ H s) (h:wi σ H λJ H1=>CW σ Q J H1)
  (fin:∀(s4:au) (H5:Hp) (D C:aq) (mC:Str→Option af),s4.heap.Ns C mC→Inv X aL σ H5 s4→H5 C=none→C≠X.env.locals→C ∉ X.fs→(∀p∈X.pn++aL,p.1≠C)→(∀y c,X.env.cells.lookup y=some c→c≠C)→X.s₀.heap.objs.size≤C→Q (.ref D) H5→compPost (bC X.prog X.w) X.A X.xe use R (.ref D) C (.ok .next) s4)
  (hs:∀z,jE iter X.env z=iJ z:=by intro _;rfl) :
  bc (bC X.prog X.w) X.A (comprehension (.ListComp elt [⟨tg,iter,ifs,0⟩] scope pos) scope X.env pos' (newList []) false (dn iter X.env) use) R X.xe s:=by
 have hXk:X.env.scope.kind= .function:=I.ok.kind;obtain⟨cl,hclos,c1,c2⟩:=closure_has (scope:=scope) (env:=X.env) λy hy hk=>I.ok.has _ (.inl (hfr y hy hk))
 apply wpAny_comprehension_free rfl hs hclos pH oO (thn (hi aL s σ H _ I h) λxv s1 h1=>thn h1 λitv s2 h2=>?_);obtain⟨it,fp,tn,J,H2,rfl,I2,T,st2,f2,hcw⟩:=h2;obtain⟨W,⟨m0,w0⟩,turn⟩:=hCW _ _ _ _ hcw;apply gz (wpAny_newFunctionEnv oa (by intro y hy;simp at hy) (λhA nsA sbA=>?_) pH)
 dsimp only at nsA sbA ⊢
 generalize hG:s2.heap.push { cls:=.type "list",dict:=none,data:=.seq ([]:List af).toArray }=G at nsA sbA ⊢;have hC:G.objs.size=s2.heap.objs.size+1:=by rw[←hG,dv]
 have hDC:s2.heap.objs.size≠G.objs.size:=by rw[hC];exact cz (Nat.lt_succ_self _)
 have small:∀b o,s2.heap.get? b=some o→b≠G.objs.size∧b≠s2.heap.objs.size:=λb o e=>⟨by rw[hC];exact cz (Nat.lt_succ_of_lt (aV e)),cz (aV e)⟩
 have old:∀b o,s2.heap.get? b=some o→hA.get? b=some o:=λb o e=>sbA.extBut b o (small b o e).1 (ar _ (hG ▸ ar _ e))
 have hDA:hA.get? s2.heap.objs.size=some (lobj [] 0):=sbA.extBut _ _ hDC (ar _ (hG ▸ aU _ rfl));have fpo:∀b∈fp,∃o,s2.heap.get? b=some o:=λb hb=>let ⟨o,e,_⟩:=T.obj _ _ st2 b hb;⟨o,e⟩
 have celo:∀y c,cl.lookup y=some c→∃o,s2.heap.get? c=some o:=λy c e=>let ⟨_,o,ho,_⟩:=I2.cell y c (c1 y c e);⟨o,ho⟩
 have ok':(cxC XE X scope cl G.objs.size (xs++fr) s2 H2 fp).Ok:=by
  apply⟨I2.ok.mod,pH,I2.ok.glob,I2.ok.blt,?_,λa b c e1 e2=>I2.ok.inj a b c (c1 a c e1) (c1 b c e2),λy hy=>?_,λ_ _ z=>rM z (by intro q;cases q),I2.ok.hd,I2.ok.frames,.inl rfl,λb hb=>?_,I2.bs,cB I2.ok.bsz I2.sz,λb o e hb=>?_,λb hb hz=>?_,I2.stack,I2.stkFree⟩
  ·show s2.heap.objs.size≤G.objs.size
   rw[hC];exact iF _
  ·have hy:(relabel scope X.env).names.lookup y=some .cell∨(relabel scope X.env).names.lookup y=some .free:=hy
   have key:scope.names.lookup y=some .free:=by
    rcases hy with hy | hy
    ·rcases pj hy with q | ⟨q,_⟩
     ·exact rM rfl (oa _ (gj q))
     ·exact q
    ·rcases pj hy with q | ⟨q,_⟩
     ·exact q
     ·exact q
   have hm:=gj key;obtain⟨c,e⟩:=I.ok.has y (.inl (hfr _ hm rfl));exact⟨c,(c2 _ hm rfl).trans e⟩
  ·obtain⟨o,e⟩:=fpo b hb
   exact⟨(small b o e).1,λy c q=>(f2 b hb).2.2.2.2.1 y c (c1 y c q)⟩
  ·obtain⟨_,_,_,f3,_⟩:=f2 b hb
   rcases f3 with f3 | f3
   ·exact I2.ok.noex b o e f3
   ·exact rM (ck (aV e) (cB I2.ok.bsz f3)) (hV _)
  ·obtain⟨_,n1,n2,_⟩:=f2 b hb
   exact(az.mp (I2.stkSub b hz)).elim n1 n2
 have nofs:s2.heap.objs.size ∉ frs X.stack:=λhz=>by
  obtain⟨_,o,ho,_⟩:=I2.stack.mem hz;exact hV _ (aV ho)
 have lenB:(hZ σ js).length=fr.length:=by
  have e:=rR g9 hjs;rw[ae,ae] at e;unfold hZ;rw[ae];exact e
 have start':∀t,Inv (cxC XE X scope cl G.objs.size (xs++fr) s2 H2 fp) [(s2.heap.objs.size,lobj [] 0)] ((xs.map λ_=>none)++hZ σ js) H2 { s2 with heap:=hA,toks:=t }:=λt=>by
  apply⟨ok',rfl,I2.bare,Un.kept old,⟨_,nsA,λi y v e1 e2 e3=>?_⟩,λy c e=>?_,I2.hok.fresh (by rw[hC];exact iF _),λy c e=>I2.freeC y c (c1 y c e),λp hp=>?_,I2.hok.kept old,?_⟩
  ·by_cases hix:i<xs.length
   ·rw[bI (by rw[ae];exact hix),ay,gE hix] at e2
    cases e2
   ·obtain⟨i,rfl⟩:∃j,i=xs.length+j:=⟨i - xs.length,⋯⟩
    have e1:(xs++fr)[xs.length+i]? =some y:=e1;have e1:fr[i]? =some y:=by rw[aR ⋯,show xs.length+i - xs.length=i by lia] at e1;exact e1
    have e2:(hZ σ js)[i]? =some (some v):=by rw[aR (by rw[ae];lia),ae,show xs.length+i - xs.length=i by lia] at e2;exact e2
    unfold hZ at e2;rw[ay] at e2;obtain⟨j,ej,e2⟩:=bp.mp e2;have hN:X.N[j]? =some y:=by
     have q:=rR (λl=>l[i]?) hjs;simp only[ay,ej,e1,k6] at q;exact bF q
    have hσ:σ[j]? =some (some v):=by
     cases z:σ[j]? with
     | none=>rw[z] at e2;cases e2
     | some w=>rw[z] at e2;exact rR some e2
    have hfree:=hfv y (aD e1);have hm:=gj hfree;have hce:X.env.scope.names.lookup y=some .cell:=hfr _ hm rfl;obtain⟨m,_,hl⟩:=I2.loc;obtain⟨u,ru,look⟩:=hl j y v hN hσ (.inr (.inl hce));apply⟨u,ru,.inr ⟨.inl (pM hXk hce hfree),?_⟩⟩
    rcases look with ⟨k,_⟩ | ⟨_,c,ec,ho⟩
    ·have k:X.env.scope.names.lookup y=some .local:=k
     rw[hce] at k;cases k
    ·obtain⟨o,ho,hd⟩:=ho
     exact⟨c,(c2 _ hm rfl).trans ec,o,old c o ho,hd⟩
  ·obtain⟨v,o,ho,hd⟩:=I2.cell y c (c1 y c e)
   exact⟨v,o,old c o ho,hd⟩
  ·have hp:p∈[(s2.heap.objs.size,lobj [] 0)]:=hp
   have e:=aB.mp hp;subst e;exact⟨hDA,I2.hok.fresh (aA _),hDC,nofs,λv z=>by cases z⟩
  ·show((xs.map λ_=>none)++hZ σ js).length=(xs++fr).length
   rw[ao,ao,ae,lenB]
 have fok:∀{us:List af} {n:Nat} {H':Hp},(∀b∈fp,H' b=none)→∀b∈fp,FpOk (cxC XE X scope cl G.objs.size (xs++fr) s2 H2 fp) [(s2.heap.objs.size,lobj us n)] H' b:=λ{us n H'} hn b hb=>by
  obtain⟨o,e⟩:=fpo b hb;apply⟨hn b hb,(small b o e).1,λhz=>(az.mp (I2.stkSub b hz)).elim (f2 b hb).2.1 (f2 b hb).2.2.1,.inl hb,λy c q=>(f2 b hb).2.2.2.2.1 y c (c1 y c q),λp hp=>?_⟩;have hp:p∈[(s2.heap.objs.size,lobj us n)]:=hp;have ep:=aB.mp hp;subst ep;exact λz=>(small b o e).2 z.symm
 have hpass:=hp cl G.objs.size aL σ H2 s2 fp I2 (λb hb'=>(f2 b hb').2.2.2.1) (by rw[hC];exact iF _);have loop:∀sB:au,(∃t,sB={ s2 with heap:=hA,toks:=t }) →
   codeAny (bC X.prog X.w) X.A (.compLoop (.ListComp elt [⟨tg,iter,ifs,0⟩] scope pos) 0 (.ref it) (.ref s2.heap.objs.size) (compEnvC scope cl G.objs.size X.env))
    (compPost (bC X.prog X.w) X.A X.xe use R (.ref s2.heap.objs.size) G.objs.size) sB:=by
  rintro sB ⟨t,rfl⟩;apply loop_any (λk s'=>∃i ys us n v0 H',v0.length=xs.length∧Inv (cxC XE X scope cl G.objs.size (xs++fr) s2 H2 fp) [(s2.heap.objs.size,lobj us n)] (v0++hZ σ js) H' s'∧gZ ys us∧ys.length≤ax∧tn i s'.heap∧(∀b∈fp,H' b=none)∧W i k ys H') ?_ m0
   ⟨0,[],[],0,xs.map λ_=>none,H2,ae ..,start' t,.nil,cR _,T.keep _ _ _ st2 λb hb o e=>old b o e,λb hb=>(f2 b hb).1,w0⟩
  rintro k s3 ⟨i,ys,us,n,v0,H3,hv0,I3,rv,hlen,st3,fr3,w3⟩
  rcases turn i k ys H3 w3 with ⟨stop,qn⟩ | ⟨go,hlt,N',hN',step⟩
  ·apply thn (T.done (cxC XE X scope cl G.objs.size (xs++fr) s2 H2 fp) rfl rfl rfl hc i _ s3 _ H3 _ I3 (fok fr3) st3 stop) λr s4 hz0=>?_
   obtain⟨hr,I4⟩:=hz0;subst hr;obtain⟨mC,hnC,_⟩:=id I4.loc;obtain⟨pD,nD,_,_,_⟩:=I4.pin (s2.heap.objs.size,lobj us n) (by show _∈[]++[_];simp);have pD:s4.heap.get? s2.heap.objs.size=some (lobj us n):=pD;have nD:H3 s2.heap.objs.size=none:=nD;have nC:H3 G.objs.size=none:=I4.free;have D2:∀b o,s2.heap.get? b=some o→b≠s2.heap.objs.size:=λb o e=>(small b o e).2
   have base4:Un (frs X.stack) fp H2 H3 s2.heap s4.heap:=I4.base;have u4:Un (frs X.stack) fp H2 (upd H3 s2.heap.objs.size (.lst ys)) s2.heap s4.heap:=
    {keep:=base4.keep
     slot:=base4.slot
     free:=λb o e nb hx'=>by rw[bf (D2 b o e)];exact base4.free b o e nb hx'
     there:=base4.there
     tups:=λb xs e=>by have q:=base4.tups b xs e;rw[bf (aZ q nD)];exact q
     frzs:=λb o u e=>by have q:=base4.frzs b o u e;rw[bf (aZ q nD)];exact q
     tbls:=fun b ps e=>by obtain ⟨more,q⟩:=base4.tbls b ps e;exact ⟨more,by rw[bf (aZ q nD)];exact q⟩ }
   have I5:Inv X aL σ (upd H3 s2.heap.objs.size (.lst ys)) s4:=I2.call' (s':=s4) (ch:=fp) I4.os u4 (I4.hok.take nD ⟨hlen,us,n,rv,pD⟩) I4.bare λb hb=>by
    obtain⟨_,g1,_,g3,g4,g5⟩:=f2 b hb;exact⟨g3,g1,g4,g5⟩
   have locC:G.objs.size≠X.env.locals:=λz=>by
    obtain⟨_,⟨o,_,_,ho,_⟩,_⟩:=id I2.loc;exact(small _ o ho).1 z.symm
   have fsC:G.objs.size ∉ X.fs:=λhz=>by
    obtain⟨_,o,ho,_⟩:=I2.ok.funs.mem hz;have:=ck (aV ho) I2.sz;rw[hC] at this;exact hV _ (Nat.lt_of_succ_lt this)
   have pinX:∀p∈X.pn++aL,p.1≠G.objs.size:=λp hp=>(small _ _ (I2.pin p hp).1).1
   have nCu:(upd H3 s2.heap.objs.size (.lst ys)) G.objs.size=none:=by rw[bf (cM hDC)];exact nC
   apply fin s4 _ _ _ mC hnC I5 nCu locC fsC pinX (λy c q z=>?_) (cB I2.sz (by rw[hC];exact iF _)) (qn _ nD);obtain⟨v,o,ho,_⟩:=I2.cell y c q;exact(small c o ho).1 z
  ·apply thn (T.item (cxC XE X scope cl G.objs.size (xs++fr) s2 H2 fp) rfl rfl rfl hc i _ s3 _ H3 _ I3 (fok fr3) st3 go) λr s4 hz0=>?_
   obtain⟨u,hr,h4⟩:=hz0;subst hr;apply thn h4 λ_ s5 hz0=>?_
   obtain⟨v,H5,I5,r5,y5,st5,fr5⟩:=hz0;have I5':=I5.pinned (fok fr5) (T.obj _ _ st5);apply cW (hg cl G.objs.size s2 H2 fp _ s5 _ H5 v u _ I5' r5 (step v H5 y5 v0 hv0)) (λ_ s6 hz0=>?_) λe t f=>hxe _ _ _ e t f
   obtain⟨σ6,H6,I6,⟨w1,hw1,e6⟩,q6⟩:=hz0;subst e6;apply cW ((hb cl G.objs.size s2 H2 fp hpass).2 _ s6 _ H6 _ I6 q6) (λb s7 hz0=>?_) λe t f=>hxe _ _ _ e t f
   obtain⟨H7,I7,q7⟩:=hz0;have back:∀{s8:au} {H8:Hp},Inv (cxC XE X scope cl G.objs.size (xs++fr) s2 H2 fp) ([(s2.heap.objs.size,lobj us n)]++pinsAt fp s5.heap) (w1++hZ σ js) H8 s8→tn (i+1) s8.heap∧∀b∈fp,H8 b=none:=λ{s8 H8} I8=>by
    apply⟨T.keep _ _ _ st5 λb hb o e=>(I8.pin (b,o) (bz _ (bz _ (nk hb e)))).1,λb hb=>?_⟩;obtain⟨o,e,_⟩:=T.obj _ _ st5 b hb;exact(I8.pin (b,o) (bz _ (bz _ (nk hb e)))).2.1
   cases b with
   | false =>
    obtain⟨m',hm,w7⟩:=hN' _ _ q7;obtain⟨t7,n7⟩:=back I7;exact⟨m',hm,i+1,ys,us,n,w1,H7,hw1,I7.unpinned,rv,hlen,t7,n7,w7⟩
   | true =>
    apply cW ((hb cl G.objs.size s2 H2 fp hpass).1 _ s7 _ H7 _ I7 q7) (λy' s8 hz0=>?_) λe t f=>hxe _ _ _ e t f
    obtain⟨y,H8,I8,r8,q8⟩:=hz0;obtain⟨m',hm,w8⟩:=hN' _ _ q8;obtain⟨t8,n8⟩:=back I8;have I8':=I8.unpinned;obtain⟨pD,nD,_,_,_⟩:=I8'.pin (s2.heap.objs.size,lobj us n) (by show _∈[]++[_];simp);have pD:s8.heap.get? s2.heap.objs.size=some (lobj us n):=pD;have nD:H8 s2.heap.objs.size=none:=nD;apply append_at pD (λh9 hs9 e9=>?_) (by rw[aE,←rv.length];exact hlen);have e9:h9.get? s2.heap.objs.size=some (lobj (us++[y']) (n+1)):=by rw[e9];simp[lobj]
    have J0:Inv (cxC XE X scope cl G.objs.size (xs++fr) s2 H2 fp) [] (w1++hZ σ js) H8 s8:=I8'.pins_of λp hp=>rM hp ∅
    have J9:Inv (cxC XE X scope cl G.objs.size (xs++fr) s2 H2 fp) [] (w1++hZ σ js) H8 { s8 with heap:=h9,toks:=s8.toks }:=
     J0.turned (it:=s2.heap.objs.size) (fun b o hb' e=>hs9.extBut b o hb' e) nD hDC (.inr (aA _)) (fun y0 c q z=>by
      obtain ⟨o,e⟩:=celo y0 c q;exact (small c o e).2 z) fun p hp=>rM (show p∈([]:List (aq×Obj)) from hp) ∅
    apply ⟨m',hm,i+1,ys++[y],us++[y'],n+1,w1,H8,hw1,J9.pins_of fun p hp=>?_,rv.append (.cons r8 .nil),(by rw[ao,List.length_singleton];exact hlt),T.keep _ _ _ t8 fun b hb' o e=>hs9.extBut b o (by
     obtain ⟨o',e'⟩:=fpo b hb';exact (small b o' e').2) e,n8,w8⟩
    have ep:=aB.mp hp;subst ep;exact⟨e9,nD,hDC,nofs,λv z=>by cases z⟩
 exact codeAny_compStart_list (loop _ ⟨_,rfl⟩) (T.self _ 0 _ _ _ (T.keep _ _ _ st2 λb hb o e=>old b o e) (loop _ ⟨_,rfl⟩))
theorem pe_compC {xs:List Str}{wi:TI}
  (hc:X.calm=true) (hi:PI X tg iter wi)
  (oa:∀y∈scope.names,y.2≠ .cell) (pH:scope.kind= .function) (oO:∀y∈scope.names,y.2= .local→scope.names.lookup y.1=some .local)
  (hfr:∀y∈scope.names,y.2= .free→X.env.scope.names.lookup y.1=some .cell) (hjs:js.map (λj=>X.N[j]?)=fr.map some) (hfv:∀y∈fr,scope.names.lookup y=some .free)
  (hg:∀cl C s' H' ex,PG (qR X scope cl C (xs++fr) s' H' ex) tg g)
  (hb:∀cl C s' H' ex,PE (qR X scope cl C (xs++fr) s' H' ex) elt te∧PTs (qR X scope cl C (xs++fr) s' H' ex) ifs tt)
  (hCW:∀σ Q J H1,CW σ Q J H1→CompWT xs.length g js tt te σ Q J H1) (hs:∀z,jE iter X.env z=iJ z:=by intro _;rfl) :
  PE X (.ListComp elt [⟨tg,iter,ifs,0⟩] scope pos) (λσ H Q=>wi σ H λJ H1=>CW σ Q J H1):=by
 intro aL s σ H Q I h;rw[eval_ListComp];exact comp_core (XE:=λ_ _ _ _=>False) (PASS:=λ_ _ _ _ _=>True) (use:=none) (R:=EP X aL σ Q) hc hi oa pH oO hfr hjs hfv hg (λcl C s' H' ex _=>hb cl C s' H' ex) (λ_ _ _ _ _ _ _ _ _ _=>trivial) (λ_ _ _ _ _ f=>f.elim) hCW I h (λs4 H5 D C mC n I5 nC lC fC pC cC sC q=>⟨mC,n,λh' hsb=>⟨.ref D,H5,I5.turned (t':=s4.toks) (it:=C) (λb o hb' e=>hsb.extBut b o hb' e) nC lC (.inr sC) cC pC,rfl,q⟩⟩) hs
theorem compW_T {Q:VK}{J:It}(h:CompW js tt te σ Q J H1):CompWT 1 (oP 0) js tt te σ Q J H1:=by
 obtain⟨W,w0,turn⟩:=h;apply⟨W,w0,λi m ys H2 hw=>?_⟩
 rcases turn i m ys H2 hw with h | ⟨h1,h2,N,h3,h4⟩
 ·exact .inl h
 ·apply .inr ⟨h1,h2,N,h3,λx H3 hy v0 hv=>?_⟩
  obtain⟨w,rfl⟩:∃w,v0=[w]:=by
   obtain _ | ⟨w,v0⟩:=v0
   ·cases hv
   ·obtain _ | ⟨z,v0⟩:=v0
    ·exact⟨w,rfl⟩
    ·cases hv
  exact⟨⟨[some x],rfl,rfl⟩,h4 x H3 hy⟩
theorem jP {px:Pos}{wi:TI}
  (hc:X.calm=true) (hi:PI X (.Name x px) iter wi)
  (oa:∀y∈scope.names,y.2≠ .cell) (pH:scope.kind= .function) (oO:∀y∈scope.names,y.2= .local→scope.names.lookup y.1=some .local) (hx:scope.names.lookup x=some .local)
  (hfr:∀y∈scope.names,y.2= .free→X.env.scope.names.lookup y.1=some .cell) (hnd:(x::fr).Nodup) (hjs:js.map (λj=>X.N[j]?)=fr.map some) (hfv:∀y∈fr,scope.names.lookup y=some .free)
  (hb:∀cl C s' H' ex,PE (qR X scope cl C (x::fr) s' H' ex) elt te∧PTs (qR X scope cl C (x::fr) s' H' ex) ifs tt)
  (hs:∀z,jE iter X.env z=iJ z:=by intro _;rfl) :
  PE X (.ListComp elt [⟨.Name x px,iter,ifs,0⟩] scope pos) (tComp wi js tt te):=
 pe_compC (xs:=[x]) (g:=oP 0) hc hi oa pH oO hfr hjs hfv (λ_ _ _ _ _=>pg_name hnd rfl (.inl (lW hx)) (.inr (lW hx))) hb (λ_ _ _ _ h=>compW_T h) hs
theorem nextT_item {j t:aq}{its}{v:af}(jt:s.heap.IsTupleIter j t i)(tt:s.heap.IsTuple t its)(hv:its[i]? =some v)
  (q:∀g,g.IsTupleIter j t (i+1)→cQ j s.heap g→Q v { s with heap:=g }):bc (bC prog w) A (c7 (.ref j)) Q E s:=by
 obtain⟨ob,e1,e2,e3⟩:=id jt;obtain⟨ot,g1,_,k,g2⟩:=tt;unfold c7;apply ai (eP (name:=bU "__next__") jt.typeIs jG (ik jG jt.typeIs F.entry_tuple_iterator_next ?_ (F.args_tuple_iterator_next_1 _)));show bc _ _ (field (.ref j) 0 >>= _) _ _ s;apply ai (cJ e1 e3 (x:=.ref t) rfl ?_);show bc _ _ (ite ((af.ref t == af.none)=true) _ _) _ _ s;rw[rK (λz:(af.ref t == af.none)=true=>bQ z)];show bc _ _ (field (.ref j) 1 >>= _) _ _ s;apply ai (cJ e1 e3 (x:=.int i 0) rfl ?_);show bc _ _ (seqItems? (.ref t) >>= _) _ _ s;apply ai (jJ g1 g2 ?_);simp only[gq,hv];apply ai (kO e1 e3 ∅ (aI ⟨v,rfl,aI (q _ ?_ (cQ.update ..))⟩));exact⟨_,gF _ e1 (kM (ie e3 _)),(Obj.cls_mapFields ..).trans e2,by rw[ie e3];simp[kP]⟩
theorem nextT_end {j t:aq}{its}(hh:A.handled=none)(jt:s.heap.IsTupleIter j t i)(tt:s.heap.IsTuple t its)(hv:its[i]? =none)
  (q:∀g x,bP.ExtBut j s.heap g→(∃o,g.get? x=some o∧o.cls= .type "StopIteration")→E (.ref x) { s with heap:=g }):bc (bC prog w) A (c7 (.ref j)) Q E s:=by
 obtain⟨ob,e1,e2,e3⟩:=id jt;obtain⟨ot,g1,_,k,g2⟩:=tt;unfold c7;apply ai (eP (name:=bU "__next__") jt.typeIs jG (ik jG jt.typeIs F.entry_tuple_iterator_next ?_ (F.args_tuple_iterator_next_1 _)));show bc _ _ (field (.ref j) 0 >>= _) _ _ s;apply ai (cJ e1 e3 (x:=.ref t) rfl ?_);show bc _ _ (ite ((af.ref t == af.none)=true) _ _) _ _ s;rw[rK (λz:(af.ref t == af.none)=true=>bQ z)];show bc _ _ (field (.ref j) 1 >>= _) _ _ s;apply ai (cJ e1 e3 (x:=.int i 0) rfl ?_);show bc _ _ (seqItems? (.ref t) >>= _) _ _ s;apply ai (jJ g1 g2 ?_);simp only[gq,hv];apply ai (wpAny_rule (ai (kO e1 e3 ∅ ?_)));show bc _ _ (newExc (.type "StopIteration") [] >>= _) _ _ _;apply ai ?_;simp only[newExc,newTuple];apply ai (gz ?_ (by size_fits));apply ai (m:=firstArgMember _ _) (wpAny_of_eq (a:=af.none) (by first | rfl | (unfold firstArgMember;rfl)) ?_);apply gz ?_ (by size_fits);simp only[raiseNew];apply ai (wpAny_handled ?_)
 first | rw[show A.in1.handled=none from hh] | rw[hh]
 exact ai (aI (wpAny_throw (q _ _ (((cQ.update ..).extBut.push _).push _) ⟨_,aU _ rfl,rfl⟩)))
theorem Inv.turnAll {g:bP}(I:Inv X aL σ H s)(hf:∀b∈ch,FpOk X aL H b)
  (k:∀b o,b ∉ ch→s.heap.get? b=some o→g.get? b=some o) (hH:∀b u,H b=some u→H' b=some u) (hN:∀b o,s.heap.get? b=some o→H b=none→H' b=none) (hok:HOk X.prog X.w H' g):Inv X aL σ H' { s with heap:=g }:=by
 apply I.step (g':=s.gens) (d':=s.drawn) (t':=s.toks) (ch:=ch) (λb hb=>?_) (λb o _ _ hc e _=>k b o hc e) (λb o _ _ hc e _=>⟨o.slots,k b o hc e⟩) (λb o _ e n=>hN b o e n)
  (λb o hc e=>⟨o,k b o hc e⟩) (λb xs e=>hH b _ e) (λb o u e=>hH b _ e) (λb ps e=>⟨#[],by rw[hH b _ e];simp⟩) (λm hm=>?_) hok I.bare
 ·obtain⟨_,f1,_,f3,f4,f5⟩:=hf b hb
  exact⟨f3,f1,f4,f5⟩
 ·obtain⟨o,es,ep,ho,r⟩:=hm
  exact⟨o,es,ep,k _ o (λhb=>(hf _ hb).2.1 rfl) ho,r⟩
theorem cg.put (e:cg H H1)(h:H1 p=none):cg H (upd H1 p o):=λb u q=>by rw[bf (aZ (e b u q) h)];exact e b u q
theorem Inv.big (I:Inv X aL σ H s):gY<s.heap.objs.size:=by
 have h:bH<s.heap.objs.size:=(I.mod.glob.keeps I.bk).lt;exact Nat.lt_trans ↥0 h
theorem dk_empty (h:bP)(hb:gY<h.objs.size):iE P w H (h.push { cls:=.type "dict",data:=.dict #[] }) h.objs.size (.dK []):=
 ⟨cR _,beq_eq_false_iff_ne.mpr (cM (cz hb)),[],.nil,bP.DictOf.new h⟩
def tDNewK:TE:=λ_ H Q=>∀p,H p=none→Q (.ref p) (upd H p (.dK []))
theorem pe_dnewK:PE X (.Dict [] [] pos) tDNewK:=λaL s σ H Q I h =>
 wpAny_Dict_empty ⟨.ref s.heap.objs.size,_,I.laid (a:=s.heap.objs.size) (o:=.dK []) (t':=s.toks) (λ_ _ q=>ar _ q) (aA _) (dk_empty s.heap I.big),rfl,h _ (I.hok.fresh (aA _))⟩
theorem ps_setCG {iy:Nat}{y0:Str}{py spos:Pos}{xs:List Str}{wi:TI}
  (hN0:X.N.Nodup) (hi0:X.N[iy]? =some y0) (hx0:Loc X.env.scope y0) (hc:X.calm=true) (hi:PI X tg iter wi)
  (oa:∀y∈scope.names,y.2≠ .cell) (pH:scope.kind= .function) (oO:∀y∈scope.names,y.2= .local→scope.names.lookup y.1=some .local)
  (hfr:∀y∈scope.names,y.2= .free→X.env.scope.names.lookup y.1=some .cell) (hjs:js.map (λj=>X.N[j]?)=fr.map some) (hfv:∀y∈fr,scope.names.lookup y=some .free)
  (hg:∀cl C s' H' ex,PG (cxC XE X scope cl C (xs++fr) s' H' ex) tg g)
  (hb:∀cl C s' H' ex,PASS cl C s' H' ex→PE (cxC XE X scope cl C (xs++fr) s' H' ex) elt te∧PTs (cxC XE X scope cl C (xs++fr) s' H' ex) ifs tt)
  (hp:∀cl C aL σ H2 s2 fp,Inv X aL σ H2 s2→(∀b∈fp,b∈X.ex∨X.s₀.heap.objs.size≤b)→s2.heap.objs.size≤C→PASS cl C s2 H2 fp)
  (hxe:∀R D cl C e s',XE cl C e s'→pU X.prog X.w X.A (compEnvC scope cl C X.env) (compPost (bC X.prog X.w) X.A X.xe (some (assign (.Name y0 py) X.env)) R D C) e s')
  (hCW:∀σ Q J H1,CW σ Q J H1→CompWT xs.length g js tt te σ Q J H1) (hs:∀z,jE iter X.env z=iJ z:=by intro _;rfl) (hsw:lG (.ListComp elt [⟨tg,iter,ifs,0⟩] scope pos) (some (.Name y0 py)) spos.line X.env=iJ true:=by rfl)
  (hf0:X.fn y0=true∨X.env.scope.names.lookup y0=some .local:=by first | exact .inl rfl | exact .inr rfl | assumption) :
  PS X (.Assign [.Name y0 py] (.ListComp elt [⟨tg,iter,ifs,0⟩] scope pos) spos) (tAsg (λσ H Q=>wi σ H λJ H1=>CW σ Q J H1) (oP iy)):=by
 intro aL s σ H Dn I h;rw[exec_Assign_Name_used _ _ _ _ hsw];apply ai (wpAny_standAt (ai ?_));show bc _ X.A (do let _ ← comprehension (.ListComp elt [⟨tg,iter,ifs,0⟩] scope pos) scope X.env _ (newList []) false (dn iter X.env) (some (assign (.Name y0 py) X.env))) _ _ s;apply ai (cW (comp_core (use:=some (assign (.Name y0 py) X.env)) (R:=λ_ s'=>SP X aL Dn .next s') hc hi oa pH oO hfr hjs hfv hg hb hp (λcl C D e s'=>hxe _ D cl C e s') hCW I h (λs4 H5 D C mC hnC I5 nC locC fsC pinX cC sC q=>?_) hs) (λ_ s' hq=>aI (aI hq)) λ_ _ e=>e);obtain⟨oC,esC,epC,hoC,rC⟩:=id hnC;have I6:Inv X ((C,oC)::aL) σ H5 s4:=I5.pins_of λp hp=>by
  rcases az.mp hp with rfl | hp
  ·apply⟨hoC,nC,locC,fsC,λv z=>?_⟩
   rw[rC.1] at z;cases z
  ·exact I5.pin p (bz _ hp)
 have hPG0:PG X (.Name y0 py) (oP iy):=pg_name hN0 hi0 hx0 hf0;apply thn (hPG0 _ s4 σ _ (.ref D) (.ref D) (λσ' H'=>Dn.nx σ' H'∧H' C=none) I6 rfl ⟨q,nC⟩) λ_ s6 hz0=>?_
 obtain⟨σ6,H6,I7,q7,n7⟩:=hz0;have o7:=(I7.pin (C,oC) (bz _ (bJ ..))).1;apply⟨mC,⟨oC,esC,epC,o7,rC⟩,λh' hsb=>⟨σ6,H6,?_,q7⟩⟩;have I8:Inv X aL σ6 H6 s6:=I7.pins_of λp hp=>I7.pin p (bz _ (aO _ hp))
 exact I8.turned (t':=s6.toks) (it:=C) (λb o hb' e=>hsb.extBut b o hb' e) n7 locC (.inr sC) cC pinX
theorem pq {iy:Nat}{y0:Str}{py spos:Pos}{px:Pos}{wi:TI}
  (hN0:X.N.Nodup) (hi0:X.N[iy]? =some y0) (hx0:Loc X.env.scope y0) (hc:X.calm=true) (hi:PI X (.Name x px) iter wi)
  (oa:∀y∈scope.names,y.2≠ .cell) (pH:scope.kind= .function) (oO:∀y∈scope.names,y.2= .local→scope.names.lookup y.1=some .local) (hx:scope.names.lookup x=some .local)
  (hfr:∀y∈scope.names,y.2= .free→X.env.scope.names.lookup y.1=some .cell) (hnd:(x::fr).Nodup) (hjs:js.map (λj=>X.N[j]?)=fr.map some) (hfv:∀y∈fr,scope.names.lookup y=some .free)
  (hb:∀cl C s' H' ex,PE (qR X scope cl C (x::fr) s' H' ex) elt te∧PTs (qR X scope cl C (x::fr) s' H' ex) ifs tt)
  (hs:∀z,jE iter X.env z=iJ z:=by intro _;rfl) (hsw:lG (.ListComp elt [⟨.Name x px,iter,ifs,0⟩] scope pos) (some (.Name y0 py)) spos.line X.env=iJ true:=by rfl)
  (hf0:X.fn y0=true∨X.env.scope.names.lookup y0=some .local:=by first | exact .inl rfl | exact .inr rfl | assumption) :
  PS X (.Assign [.Name y0 py] (.ListComp elt [⟨.Name x px,iter,ifs,0⟩] scope pos) spos) (tAsg (tComp wi js tt te) (oP iy)):=
 ps_setCG (XE:=λ_ _ _ _=>False) (PASS:=λ_ _ _ _ _=>True) (xs:=[x]) (g:=oP 0) hN0 hi0 hx0 hc hi oa pH oO hfr hjs hfv (λ_ _ _ _ _=>pg_name hnd rfl (.inl (lW hx)) (.inr (lW hx))) (λcl C s' H' ex _=>hb cl C s' H' ex) (λ_ _ _ _ _ _ _ _ _ _=>trivial) (λ_ _ _ _ _ _ f=>f.elim) (λ_ _ _ _ h=>compW_T h) hs hsw hf0
def notStar:Expr→Bool
 | .Starred _ _=>false
 | _=>true
theorem starEach_not (h:notStar e=true):bB (e::es) env=(false,dn e env)::bB es env:=by
 cases e <;> first | rfl | cases h
theorem pa_k {t:TA}(ha:PE X e te)(hr:PA X es t)(h:notStar e=true:=by rfl):PA X (e::es) (ql te t):=ah ha hr (starEach_not h)
theorem ps_cut {t:TS}(h:PS X st t):PS X st (λD σ H=>∃N:St→Hp→Prop,(∀σ' H',N σ' H'→D.nx σ' H')∧t { D with nx:=N } σ H):=by
 intro aL s σ H D I ⟨N,hN,ht⟩;apply thn (h aL s σ H { D with nx:=N } I ht) λf s' q=>?_
 cases f with
 | next=>obtain⟨σ',H',I',n'⟩:=q;exact⟨σ',H',I',hN _ _ n'⟩
 | brk=>exact q
 | cont=>exact q
 | ret u=>exact q
theorem call_int_str:jn X (.type "int") (λxs H Q=>∃x n,xs=[.str x]∧PySem.intText? x=some n∧x.length≤640∧Q (.int n) H):=by
 intro aL s σ H xs us Q I r h;obtain⟨x,n,rfl,hn,hl,q⟩:=h;obtain⟨u,rfl,ru⟩:=mM r;obtain⟨t,rfl⟩:=(show ∃t,u=af.str x t from ru);exact PySem.W.KIN.call_text hn hl ⟨.int n,H,I.tok _,⟨_,rfl⟩,q⟩
theorem op_neL0 (hu:X.A.units<kU):OpR X (dA .NotEq) (λx y H Q=>∃a b xs,x= .ref a∧y= .ref b∧SqL X.K H a xs∧SqL X.K H b []∧Q (.bl (!xs.isEmpty)) H):=by
 intro aL s σ H x y v u Q I rx ry h;obtain⟨a,b,xs,rfl,rfl,ha,hb,q⟩:=h;cases(show v=af.ref a from rx);cases(show u=af.ref b from ry);obtain⟨its,r1,p1,_⟩:=I.list ha;obtain⟨its2,r2,p2,_⟩:=I.list hb;cases r2;cases r1 with
 | nil =>
  apply SeqAt.RcNeAt.lists (A:=X.A) (e:=λ_=>true) p1.isList p2.isList rfl hu (λj h1 _=>rM h1 ∅) X.prog X.w _ _ (fJ I q ∅)
 | cons _ _=>exact SeqAt.RcNeAt.lists_lengths (A:=X.A) p1.isList p2.isList ∅ hu X.prog X.w _ _ (fJ I q ∅)
def isVV (r d:aq):HO:=.ext λh=>h.IsValuesView r d
structure M0 (X:Cx)(o:Expr)(m:Str)(apos:Pos)(cpos:Pos):Prop where
 base:gN o m X.env (dn o X.env)=dn o X.env
 few:((gH cpos (bB [] X.env)).all (fun x=>!x.1) && (backToKw cpos (kH [] X.env)).all (fun x=>x.1.isSome)
  && decide (([]:List Expr).length+([]:List Keyword).length+(if ([]:List Keyword).isEmpty then 0 else 1)<30))=true
 line:(apos.endLine == cpos.line)=true
 trees:gH cpos (bB [] X.env)=[]
theorem Paired.getR {α β:Type}{F:α→β→Prop}:∀{l:List α} {k:List β},Paired F l k→∀{i:Nat} {x:α},l[i]? =some x→∃y,k[i]? =some y∧F x y
 | _,_,.nil,_,_,h=>by cases h
 | _,_,.cons r t,0,x,h=>by cases h;exact⟨ρ,r⟩
 | _,_,.cons r t,i+1,x,h=>Paired.getR t (i:=i) h
theorem enumL_step {z i1:aq}{xs:Array af}{x:af}(E0:IsEnum s.heap z i1 k was)(J0:s.heap.IsListIter i1 a k)(T0:s.heap.IsList a xs)(hx:xs[k]? =some x)(hzi:z≠i1)
  (q:∀ g,IsEnumOut g z i1 ((k:Int)+1) x s.heap.objs.size→g.IsListIter i1 a (k+1)→g.get? s.heap.objs.size=some { cls:=.type "tuple",data:=.seq #[.int k s.toks,x] }→g.objs.size=s.heap.objs.size+1 →
   (∀ c o,c≠z→c≠i1→s.heap.get? c=some o→g.get? c=some o)→Q (.ref s.heap.objs.size) { s with heap:=g,toks:=s.toks+1 }) :
  bc (bC prog w) A (eN.«enumerate.__next__» ⟨[.ref z],[]⟩) (λfin s'=>∃v,fin= .done (.ret v)∧Q v s') E s:=by
 obtain⟨h0,gs,dr,tk,os⟩:=s;show bc _ _ (field (.ref z) 2 >>= _) _ _ _;apply ai (cJ E0 rfl (x:=.ref i1) rfl ?_);apply ai (wpAny_nextOf_list_item J0 T0 hx λg1 J1 s1=>?_);have s1:cQ i1 h0 g1:=s1;have E1:IsEnum g1 z i1 k was:=(s1.2 z hzi).trans E0;show bc _ _ (field (.ref z) 3 >>= _) _ _ ⟨g1,gs,dr,tk,os⟩;apply ai (cJ E1 rfl (x:=kP k) rfl ?_);show bc _ _ (field (.ref z) 4 >>= _) _ _ ⟨g1,gs,dr,tk,os⟩;apply ai (cJ E1 rfl (x:=.none) rfl ?_);show bc _ _ (mkInt k >>= _) _ _ ⟨g1,gs,dr,tk,os⟩;apply ai (wpAny_mkInt ?_);show bc _ _ (setField (.ref z) 3 (kP ((k:Int)+1)) >>= _) _ _ ⟨g1,gs,dr,tk+1,os⟩;apply ai (eQ E1 ∅ λg2 E2 s2=>?_);have s2:cQ z g1 g2:=s2;have E2:IsEnum g2 z i1 ((k:Int)+1) was:=E2;show bc _ _ (setField (.ref z) 4 .none >>= _) _ _ ⟨g2,gs,dr,tk+1,os⟩;apply ai (eQ E2 ∅ λg3 E3 s3=>?_);have s3:cQ z g2 g3:=s3;have E3:IsEnum g3 z i1 ((k:Int)+1) was:=E3;show bc _ _ (newTuple [.int k tk,x] >>= _) _ _ ⟨g3,gs,dr,tk+1,os⟩;apply ai (wpAny_newTuple ?_);have E4:IsEnum (g3.push { cls:=.type "tuple",data:=.seq #[.int k tk,x] }) z i1 ((k:Int)+1) was:=ar _ E3;have z3:g3.objs.size=h0.objs.size:=by rw[s3.1,s2.1,s1.1]
 have J4:(g3.push { cls:=.type "tuple",data:=.seq #[.int k tk,x] }).IsListIter i1 a (k+1):=by
  obtain⟨o,e,r⟩:=(J1.extBut s2.extBut hzi.symm).extBut s3.extBut hzi.symm;exact⟨o,ar _ e,r⟩
 have T4:(g3.push { cls:=.type "tuple",data:=.seq #[.int k tk,x] }).get? h0.objs.size=some { cls:=.type "tuple",data:=.seq #[.int k tk,x] }:=by rw[←z3];exact aU _ rfl
 have z4:(g3.push { cls:=.type "tuple",data:=.seq #[.int k tk,x] }).objs.size=h0.objs.size+1:=by rw[dv,z3]
 have k4:∀c o,c≠z→c≠i1→h0.get? c=some o→(g3.push { cls:=.type "tuple",data:=.seq #[.int k tk,x] }).get? c=some o:=λc o c1 c2 e=>ar _ (s3.extBut c o c1 (s2.extBut c o c1 (s1.extBut c o c2 e)))
 have zlt:z<h0.objs.size:=aV E0;generalize g3.push { cls:=.type "tuple",data:=.seq #[.int k tk,x] }=g4 at E4 J4 T4 z4 k4;rw[z3];show bc _ _ (gG (.ref z) >>= _) _ _ ⟨g4,gs,dr,tk+1,os⟩;apply ai ?_;unfold gG;apply ai (cJ E4 rfl (x:=.none) rfl (aI ?_));simp only[if_true];apply ai (wpAny_rule ?_);apply ai (cJ E4 rfl (x:=was) rfl ?_);apply ai (eQ E4 ∅ λg5 E5 s5=>?_);have s5:cQ z g4 g5:=s5;have E5:IsEnum g5 z i1 ((k:Int)+1) x:=E5;show bc _ _ (iS (.ref z) (.ref h0.objs.size) >>= _) _ _ ⟨g5,gs,dr,tk+1,os⟩;apply ai ?_;unfold iS;apply ai (eQ E5 ∅ λg6 E6 s6=>?_);have s6:cQ z g5 g6:=s6;have E6:IsEnumOut g6 z i1 ((k:Int)+1) x h0.objs.size:=E6;apply eQ E6 ∅ λg7 E7 s7=>?_
 have s7:cQ z g6 g7:=s7;have E7:IsEnumOut g7 z i1 ((k:Int)+1) x h0.objs.size:=E7;have up:∀c o,c≠z→g4.get? c=some o→g7.get? c=some o:=λc o c1 e=>s7.extBut c o c1 (s6.extBut c o c1 (s5.extBut c o c1 e))
 apply ai (wpAny_letGo (aI ⟨_,rfl,q g7 E7 ?_ (up _ _ (i8 zlt) T4) (by rw[s7.1,s6.1,s5.1,z4]) λc o c1 c2 e=>up c o c1 (k4 c o c1 c2 e)⟩));obtain⟨o,e,r⟩:=J4;exact⟨o,up _ o hzi.symm e,r⟩
theorem enumL_item {z i1:aq}{xs:Array af}{x:af}{Q:Option af→au→Prop}(E0:IsEnum s.heap z i1 k was)(J0:s.heap.IsListIter i1 a k)(T0:s.heap.IsList a xs)(hx:xs[k]? =some x)(hzi:z≠i1)
  (q:∀ g,IsEnumOut g z i1 ((k:Int)+1) x s.heap.objs.size→g.IsListIter i1 a (k+1)→g.get? s.heap.objs.size=some { cls:=.type "tuple",data:=.seq #[.int k s.toks,x] }→g.objs.size=s.heap.objs.size+1 →
   (∀ c o,c≠z→c≠i1→s.heap.get? c=some o→g.get? c=some o)→Q (some (.ref s.heap.objs.size)) { s with heap:=g,toks:=s.toks+1 }):bc (bC prog w) A (pyNext (.ref z)) Q E s:=by
 have ht:s.TypeIs (.ref z) "enumerate":=⟨_,E0,rfl⟩;unfold pyNext;apply ai (lL (eP (name:=bU "__next__") ht k7 (ik k7 ht F.entry_enumerate_next ?_ (F.args_enumerate_next_1 _))));exact enumL_step E0 J0 T0 hx hzi λg e1 e2 e3 e4 e5=>aI (q g e1 e2 e3 e4 e5)
theorem enumL_end {z i1:aq}{xs:Array af}{Q:Option af→au→Prop}(hh:A.handled=none)(E0:IsEnum s.heap z i1 k was)(J0:s.heap.IsListIter i1 a k)(T0:s.heap.IsList a xs)(hx:xs[k]? =none)
  (q:∀g,bP.ExtBut i1 s.heap g→Q none { s with heap:=g }):bc (bC prog w) A (pyNext (.ref z)) Q E s:=by
 have ht:s.TypeIs (.ref z) "enumerate":=⟨_,E0,rfl⟩;unfold pyNext;apply ai (lL (eP (name:=bU "__next__") ht k7 (ik k7 ht F.entry_enumerate_next ?_ (F.args_enumerate_next_1 _))));show bc _ _ (field (.ref z) 2 >>= _) _ _ _;apply ai (cJ E0 rfl (x:=.ref i1) rfl ?_);apply ai (wpAny_nextOf_list_end hh J0 T0 hx λg x kp hxx=>?_);obtain⟨o,e1,e2⟩:=hxx;apply ai (wpAny_isInstance (T:="StopIteration") (b:=true) ⟨o,e1,e2⟩ isSubtype_stop ?_);exact aI (q _ kp)
section
open AutoSeq1 (wpAny_loadPart')
theorem enumL_new (a:aq)(xs:Array af) :
  Meets (eN.«enumerate.__new__» ⟨[.type "enumerate",.ref a],[]⟩) (fun _ R s=>s.heap.IsList a xs ∧
   R (.ok (.ret (.ref (s.heap.push { cls:=.type "list_iterator",data:=.fields #[.ref a,.int 0 0] }).objs.size)))
    {s with heap:=(s.heap.push { cls:=.type "list_iterator",data:=.fields #[.ref a,.int 0 0] }).push { cls:=.type "enumerate",data:=.fields #[.none,.bool false,.ref s.heap.objs.size,kP 0,.none,.none] } }):=
 .of_wp λprog w A R s h=>by
  obtain⟨hp,g,d,tk,os⟩:=s;obtain⟨h1,h⟩:=h;have subE:=sub_enumerate;have k1:bP.IsList (au.heap ⟨hp,g,d,tk,os⟩) a xs:=h1
  wp_walk using gX k1
  apply wpAny_stack_any λst=>aI ?_
  split
  ·rename_i c _ _ _ _ _
   cases(c == af.type "enumerate")
   ·wp_walk using gX k1
    exact⟨ρ,h⟩
   ·wp_walk using gX k1
    exact⟨ρ,h⟩
  ·wp_walk using gX k1
   exact⟨ρ,h⟩
theorem call_enumL {xs:Array af}(h1:s.heap.IsList a xs)
  (q:∀g,IsEnum g (s.heap.objs.size+1) s.heap.objs.size 0 .none→g.IsListIter s.heap.objs.size a 0→g.objs.size=s.heap.objs.size+2→(∀c o,s.heap.get? c=some o→g.get? c=some o)→Q (.ref (s.heap.objs.size+1)) { s with heap:=g }) :
  bc (bC prog w) A (call (.type "enumerate") [.ref a]) Q E s:=by
 apply callType_new F.called_enumerate ↥0 (F.typeCall_enumerate_1 _) (F.newCall_enumerate_1 _) (λobj=>F.args_object_init_2 obj _) F.entry_enumerate_new (enumL_new a xs) ⟨h1,?_⟩;have e1:(s.heap.push { cls:=.type "list_iterator",data:=.fields #[.ref a,.int 0 0] }).objs.size=s.heap.objs.size+1:=dv ..;have f2:=aU (s.heap.push { cls:=.type "list_iterator",data:=.fields #[.ref a,.int 0 0] }) (o:={ cls:=.type "enumerate",data:=.fields #[.none,.bool false,.ref s.heap.objs.size,kP 0,.none,.none] }) rfl;show _∧_;rw[e1] at f2 ⊢;exact⟨⟨_,f2,rfl⟩,q _ f2 ⟨_,ar _ (aU _ rfl),rfl,rfl⟩ (by rw[dv,e1]) λc o x=>ar _ (ar _ x)⟩
end
def ItL (a:aq):It:=
 ⟨fun i H=>∃ xs x,H a=some (.lst xs)∧xs[i]? =some x,
  λi H v H'=>∃p x,H p=none∧v= .ref p∧H'=upd H p (.tup [.int (i:Nat),x])∧∀xs,H a=some (.lst xs)→xs[i]? =some x,
  fun i H=>∃ xs,H a=some (.lst xs)∧xs.length≤i⟩
theorem turn_enumL {k0}{z i1:aq}(a:aq)(hzi:z≠i1) :
  Turn P w K (.Tuple es k0 pos) (ItL a) [z,i1] z (λi h=>(∃was,IsEnum h z i1 i was)∧h.IsListIter i1 a i) where
 mem:=by simp
 obj:=λi h st c hc=>by
  obtain⟨⟨was,e1⟩,⟨o2,e2,_,d2⟩⟩:=st;simp only[az,bg,or_false] at hc
  rcases hc with rfl | rfl
  ·exact⟨_,e1,λv z=>by cases z⟩
  ·exact⟨_,e2,λv z=>by rw[d2] at z;cases z⟩
 keep:=λi h h' st k=>by
  obtain⟨⟨was,e1⟩,⟨o2,e2,r2⟩⟩:=st;exact⟨⟨was,k z ∅ _ e1⟩,⟨o2,k i1 ∅ _ e2,r2⟩⟩
 item:=by
  intro X hP hw hK hc i aL s σ H E I hf st hg;subst hP hw hK;obtain⟨xs,x,ha,hx⟩:=hg;obtain⟨⟨was,e1⟩,j1⟩:=st;obtain⟨its,rv,pt,_⟩:=I.list (zL (K:=X.K) ha);obtain⟨u,hu,ru⟩:=rv.get hx;have nz:∀e∈[z,i1],H e=none:=λe he=>(hf e he).1
  have hT:H s.heap.objs.size=none:=I.fresh;apply enumL_item e1 j1 (pt.isList) (x:=u) (by simpa using hu) hzi λg z1 m1 tp sz kk=>⟨ρ,?_⟩
  apply wpAny_letOwnedTupleGo_enum z1 λg2 z2 s2=>?_
  have s2:cQ z g g2:=s2;have k2:∀e o,e ∉ [z,i1]→s.heap.get? e=some o→g2.get? e=some o:=λe o hn h=>by
   simp only[az,bg,or_false,not_or] at hn;exact s2.extBut _ _ hn.1 (kk e o hn.1 hn.2 h)
  have zlt:z<s.heap.objs.size:=aV e1;have tp2:g2.get? s.heap.objs.size=some { cls:=.type "tuple",data:=.seq #[.int i s.toks,u] }:=s2.extBut _ _ (i8 zlt) tp;have trk:∀e o,H e=some o→e ∉ [z,i1]:=λe o he hm=>by rw[nz e hm] at he;cases he
  have I':=I.tok (s.toks+1);have J:Inv X aL σ (upd H s.heap.objs.size (.tup [.int (i:Nat),x])) { s with heap:=g2,toks:=s.toks+1 }:=by
   apply I'.turnAll (ch:=[z,i1]) (λe he=>hf e he) k2 (λe o h=>by rw[bf (aZ h hT)];exact h) (λe o h n=>by rw[bf (cz (aV h))];exact n) λe o h=>?_
   by_cases q:e=s.heap.objs.size
   ·subst q
    rw[aP] at h;cases h;exact⟨by show 2≤ax;decide,[.int i s.toks,u],.cons ⟨_,rfl⟩ (.cons ru .nil),_,tp2,rfl,rfl,ρ⟩
   ·rw[bf q] at h
    apply (I.hok e o h).stay (fun c v hc' q'=>k2 c v (by
     rcases hc' with z' | z'
     ·rw[z'];exact trk e o h
     ·exact trk c _ z') q') (fun c q'=>by rw[bf (aZ q' hT)];exact q') fun c xs q'=>by rw[bf (aZ q' hT)];exact q'
  apply⟨.ref s.heap.objs.size,_,J,rfl,⟨_,x,hT,rfl,rfl,λxs' h'=>by rw[ha] at h';cases h';exact hx⟩,⟨⟨u,z2⟩,m1.extBut s2.extBut hzi.symm⟩,λe he=>?_⟩;obtain⟨o4,q4,_⟩:=j1;have hlt:e<s.heap.objs.size:=by
   simp only[az,bg,or_false] at he
   rcases he with rfl | rfl
   ·exact aV e1
   ·exact aV q4
  rw[bf (cz hlt)];exact nz e he
 done:=by
  intro X hP hw hK hc i aL s σ H E I hf st hg;subst hP hw hK;obtain⟨xs,ha,hx⟩:=hg;obtain⟨⟨was,e1⟩,j1⟩:=st;obtain⟨its,rv,pt,_⟩:=I.list (zL (K:=X.K) ha);obtain⟨f0,f1,f2,f3,f4,f5⟩:=hf i1 ∅;have hl:=rv.length;exact enumL_end (I.ok.hd hc) e1 j1 (pt.isList) (by simp;lia) λg kp=>⟨rfl,I.turned (t':=s.toks) (λb o hb e=>kp b o hb e) f0 f1 f3 f4 f5⟩
 self:=λ_ _ _ _ _ st h=>let ⟨⟨_,e1⟩,_⟩:=st;wpAny_pyIter_enum e1 h
def iEnumL (ta:TA):TI:=λσ H R=>ta σ H λvs H1=>∃a xs,vs=[.ref a]∧H1 a=some (.lst xs)∧R (ItL a) H1
theorem pi_enumL {ta:TA}{p:Pos}{k0}{pt:Pos}(hg:Gl X "enumerate")(hm:X.mg "enumerate" =none)(ha:PA X [ea] ta)(hs:bB [ea] X.env=[(false,dn ea X.env)]:=by rfl) :
  PI X (.Tuple es k0 pt) (.Call (.Name "enumerate" p) [ea] [] pos) (iEnumL ta):=by
 intro aL s σ H R I h;apply Call_ (oK I hg hm boot_enumerate (dY (thn (ha pos aL s σ H _ I h) λus s1 hz0=>?_) hs rfl));obtain⟨vs,H1,I1,r1,q1⟩:=hz0;obtain⟨a,xs,e,hA,q⟩:=q1;subst e;obtain⟨u1,rfl,r2⟩:=mM r1;cases(show u1=af.ref a from r2);obtain⟨its,rv,pt',_⟩:=I1.list (zL (K:=X.K) hA);apply call_enumL (pt'.isList) λg z1 j1 sz kk=>?_
 apply wpAny_pyIter_enum z1 ⟨s1.heap.objs.size+1,[s1.heap.objs.size+1,s1.heap.objs.size],_,ItL a,H1,rfl,I1.kept (t':=s1.toks) kk,turn_enumL a (by show @Ne Nat _ _;lia),⟨⟨_,z1⟩,j1⟩,λe he=>?_,q⟩;have hge:s1.heap.objs.size≤e:=by
  simp only[az,bg,or_false] at he
  rcases he with rfl | rfl <;> (show @LE.le Nat _ _ _;lia)
 exact I1.fpOk hge (I1.hok.fresh hge)
theorem for_enumL {D:nc}(Pv:Nat→St→Hp→Prop)(h0:Pv 0 σ H)(hl:∀i σ H,i≤xs.length→Pv i σ H→H a=some (.lst xs))
  (hs:∀i x p σ H,xs[i]? =some x→Pv i σ H→H p=none→g (.ref p) σ (upd H p (.tup [.int (i:Nat),x])) λσ2 H2=>tb { D with nx:=Pv (i+1),ct:=Pv (i+1),bk:=D.nx } σ2 H2) (hd:∀σ H,Pv xs.length σ H→D.nx σ H) :
  ∃W:Nat→Nat→St→Hp→Prop,(∃m,W 0 m σ H)∧∀i m σ H,W i m σ H →
   ((ItL a).stop i H∧D.nx σ H)∨((ItL a).go i H∧∃N:St→Hp→Prop,(∀σ' H',N σ' H'→∃m',m'<m∧W (i+1) m' σ' H')∧∀x H',(ItL a).yld i H x H'→g x σ H' λσ2 H2=>tb { D with nx:=N,ct:=N,bk:=D.nx } σ2 H2):=by
 apply⟨λi m σ H=>i≤xs.length∧m=xs.length - i∧Pv i σ H,⟨_,cR _,rfl,h0⟩,λi m σ H hz0=>?_⟩;obtain⟨hi,hm,hp⟩:=hz0;have qa:=hl i σ H hi hp
 by_cases e:i=xs.length
 ·subst e
  exact .inl ⟨⟨xs,qa,aA _⟩,hd σ H hp⟩
 ·have hlt:i<xs.length:=gI hi e
  apply .inr ⟨⟨xs,_,qa,gE hlt⟩,Pv (i+1),λσ' H' hp'=>⟨xs.length - (i+1),⋯,⋯,rfl,hp'⟩,λv H3 hy=>?_⟩;obtain⟨p,x,hn,rfl,rfl,hx⟩:=hy;exact hs i x p σ H (hx xs qa) hp hn
theorem mt_indexT1:MtM X "str.index" (λx vs H Q=>∃(z y:Str) (i:Nat) (rest:List Nat),x= .str z∧vs=[.str y]∧cO z y 0 z.length 1=i::rest∧Q (.int (i:Nat)) H):=by
 intro aL s σ H x vs v us Q I rx rv h;obtain⟨z,y,i,rest,rfl,rfl,ho,q⟩:=h;obtain⟨t,rfl⟩:=(show ∃t,v=af.str z t from rx);obtain⟨u,rfl,ru⟩:=rv.one;obtain⟨t',rfl⟩:=(show ∃t,u=af.str y t from ru);exact call_gives F.slot_str_index (typeIs_str _ _ _) F.entry_str_index (F.args_str_index_2 _ _) (gives_str_index z y t t' i rest ho) ⟨.int (i:Nat),H,I.tok _,⟨_,rfl⟩,q⟩
def strV:V→Option Str
 | .int i=>some (toString i)
 | .str z=>some z
 | _=>none
theorem call_strA:jn X (.type "str") (λxs H Q=>∃v z,xs=[v]∧strV v=some z∧(∀i,v= .int i→i.natAbs.log2<1920)∧Q (.str z) H):=by
 intro aL s σ H xs us Q I r h;obtain⟨v,z,rfl,hv,hz,q⟩:=h;cases v with
 | int i =>
  cases hv;exact pR aL s σ H _ us Q I r ⟨i,rfl,hz i rfl,q⟩
 | str y =>
  cases hv;obtain⟨u,rfl,t,rfl⟩:=mM r;exact PySem.P.str_of_str ⟨.str _,H,I,⟨_,rfl⟩,q⟩
 | _=>cases hv
def Itr2 (lo:Int)(n:Nat):It:=⟨λi _=>i<n,λi H x H'=>H'=H∧x= .int (lo+i * 2),λi _=>n≤i⟩
theorem turn_range2 (it:aq)(lo:Int)(n:Nat):Turn P w K tg (Itr2 lo n) [it] it (λi h=>IsRangeIter h it (lo+(i:Nat) * 2) ((n:Int) - (i:Nat)) 2) where
 mem:=by simp
 obj:=λi h st b hb=>by
  have e:b=it:=by simpa using hb
  subst e;exact ⟨_,st,fun v z=>by
   have z':Data.fields _=Data.cell v:=z;cases z'⟩
 keep:=λi h h' st k=>k it ∅ _ st
 item:=by
  intro X hP hw hK hc i aL s σ H E I hf st hg;subst hP hw hK;obtain⟨f0,f1,f2,f3,f4,f5⟩:=hf it ∅;have W:=Walks.range (prog:=X.prog) (w:=X.w) (I.ok.hd hc) it lo 2 n;apply W.item i s _ _ hg st λv h' tk hv st' kk=>?_
  obtain⟨t,rfl⟩:=hv;have I1:Inv X aL σ H { s with heap:=h',toks:=tk }:=I.turned (λb o hb e=>kk b o (by simpa using hb) e) f0 f1 f3 f4 f5;exact⟨ρ,go_of (s:={ s with heap:=h',toks:=tk }) (n:="range_iterator") st' rfl rfl ↥0 ⟨.int (lo+i * 2),H,I1,⟨t,rfl⟩,⟨rfl,rfl⟩,st',λb hb=>(hf b hb).1⟩⟩
 done:=by
  intro X hP hw hK hc i aL s σ H E I hf st hg;subst hP hw hK;obtain⟨f0,f1,f2,f3,f4,f5⟩:=hf it ∅;exact wpAny_pyNext_range_end (I.ok.hd hc) st (by have:n≤i:=hg;lia) λh' eb=>⟨rfl,I.turned (t':=s.toks) (λb o hb e=>eb b o hb e) f0 f1 f3 f4 f5⟩
 self:=λ_ _ _ _ _ st h=>wpAny_pyIter_rangeiter st h
theorem ow (a b:Int):jz a b 2=((((b - a+1) / 2).toNat:Nat):Int):=by
 unfold jz;simp only[show(2:Int) > 0 by decide,if_true];split <;> lia
theorem small_two {a:Int}(ha: -(2 ^ 40)≤a)(ha':a<2 ^ 40)(hb: -(2 ^ 40)≤b)(hb':b<2 ^ 40):eN.Range.small a b 2=true:=by
 unfold eN.Range.small;rw[ow];simp only[eN.Range.rangeFitsLong,bW,Bool.or_eq_true,decide_eq_true_eq,beq_iff_eq,show(2:Int) > 0 by decide,if_true];lia
theorem range_it2 {R:It→Hp→Prop}{hi:Int}{t u v:Tok}{tk:Nat}(I:Inv X aL σ H s)(h1: -(2 ^ 40)≤lo)(h2:lo<2 ^ 40)(h3: -(2 ^ 40)≤hi)(h4:hi<2 ^ 40)
  (q:R (Itr2 lo ((hi - lo+1) / 2).toNat) H):bc (bC X.prog X.w) X.A (pyIter (.ref s.heap.objs.size)) (PIE X aL σ tg R) E { s with heap:=s.heap.push { cls:=.type "range",data:=.fields #[.int lo t,.int hi u,.int 2 v] },toks:=tk }:=by
 apply wpAny_pyIter_range (IsRange.new ..) (small_two h1 h2 h3 h4) ?_;have I1:Inv X aL σ H { s with heap:=s.heap.push { cls:=.type "range",data:=.fields #[.int lo t,.int hi u,.int 2 v] },toks:=tk }:=I.kept λb o e=>ar _ e
 apply ⟨(s.heap.push { cls:=.type "range",data:=.fields #[.int lo t,.int hi u,.int 2 v] }).objs.size,[(s.heap.push { cls:=.type "range",data:=.fields #[.int lo t,.int hi u,.int 2 v] }).objs.size],_,_,H,rfl,
  I1.kept (t':=tk) fun b o e=>ar _ e,turn_range2 _ lo ((hi - lo+1) / 2).toNat,?_,fun b hb=>?_,q⟩
 ·have e1:lo+((0:Nat):Int) * 2=lo:=by simp
  have e2:((((hi - lo+1) / 2).toNat:Nat):Int) - ((0:Nat):Int)=jz lo hi 2:=by rw[ow];simp
  show IsRangeIter _ _ (lo+((0:Nat):Int) * 2) (((((hi - lo+1) / 2).toNat:Nat):Int) - ((0:Nat):Int)) 2;rw[e1,e2];exact aU _ rfl
 ·have e:b=(s.heap.push { cls:=.type "range",data:=.fields #[.int lo t,.int hi u,.int 2 v] }).objs.size:=by simpa using hb
  subst e;exact I1.fpOk (aA _) (I1.hok.fresh (aA _))
def iRng3 (ta:TA):TI:=λσ H R=>ta σ H λvs H1=>∃i j:Int,vs=[.int i,.int j,.int 2]∧(-(2 ^ 40)≤i∧i<2 ^ 40∧ -(2 ^ 40)≤j∧j<2 ^ 40)∧R (Itr2 i ((j - i+1) / 2).toNat) H1
theorem oy {a b c:Expr}{ta:TA}{p:Pos}(hg:Gl X "range")(hm:X.mg "range" =none)(ha:PA X [a,b,c] ta)(hs:bB [a,b,c] X.env=[(false,dn a X.env),(false,dn b X.env),(false,dn c X.env)]:=by rfl)(hs2:bB [b,c] X.env=[(false,dn b X.env),(false,dn c X.env)]:=by rfl) :
  PI X tg (.Call (.Name "range" p) [a,b,c] [] pos) (iRng3 ta):=by
 intro aL s σ H R I h;apply Call_ (oK I hg hm boot_range (dY (thn (ha pos aL s σ H _ I h) λus s1 hz0=>?_) (by rw[hs,hs2]) (by rw[hs2];rfl)));obtain⟨vs,H1,I1,r1,q1⟩:=hz0;obtain⟨i,j,e,⟨q1,q2,q3,q4⟩,q⟩:=q1;subst e;cases r1 with
 | cons r rr =>
  cases rr with
  | cons r' rr =>
   cases rr with
   | cons r'' rr =>
    cases rr;obtain⟨t,rfl⟩:=r;obtain⟨t',rfl⟩:=r';obtain⟨t'',rfl⟩:=r'';exact call_range_3 ↥0 (range_it2 I1 q1 q2 q3 q4 q) (Or.inl (PyProof.noPylong_small ⋯))
theorem nt {D:nc}(Pv:Nat→St→Hp→Prop)(h0:Pv 0 σ H)
  (hs:∀i σ H,i<n→Pv i σ H→g (.int (lo+i * 2)) σ H λσ2 H2=>tb { D with nx:=Pv (i+1),ct:=Pv (i+1),bk:=D.nx } σ2 H2) (hd:∀σ H,Pv n σ H→D.nx σ H) :
  ∃W:Nat→Nat→St→Hp→Prop,(∃m,W 0 m σ H)∧∀i m σ H,W i m σ H →
   ((Itr2 lo n).stop i H∧D.nx σ H)∨((Itr2 lo n).go i H∧∃N:St→Hp→Prop,(∀σ' H',N σ' H'→∃m',m'<m∧W (i+1) m' σ' H')∧∀x H',(Itr2 lo n).yld i H x H'→g x σ H' λσ2 H2=>tb { D with nx:=N,ct:=N,bk:=D.nx } σ2 H2):=by
 apply⟨λi m σ H=>m=n - i∧i≤n∧Pv i σ H,⟨n,∅,cR _,h0⟩,?_⟩;rintro i m σ H ⟨rfl,hi,p⟩
 by_cases hlt:i<n
 ·apply .inr ⟨hlt,Pv (i+1),λσ' H' p'=>⟨n - (i+1),⋯,rfl,hlt,p'⟩,λx H' y=>?_⟩
  obtain⟨e,y⟩:=y;subst e y;exact hs i σ _ hlt p
 ·have e:i=n:=by lia
  subst e;exact .inl ⟨aA _,hd σ H p⟩
theorem PE.cutV {t:TE}(h:PE X e t):PE X e (λσ H Q=>∃N:VK,(∀v H',N v H'→Q v H')∧t σ H N):=λaL s σ H Q I ⟨N,i,q⟩ =>
 thn (h aL s σ H N I q) λu s' ⟨v,H',I',rv,q'⟩=>⟨v,H',I',rv,i _ _ q'⟩
theorem cS.mo {CX:CXT}{sp sp':Sp}(F:cS P w K mg base CX k f fd ps sp)(h:∀vs H Q E,sp' vs H Q E→sp vs H Q E):cS P w K mg base CX k f fd ps sp':=
 ⟨λvs H Q E q=>F.len vs H Q E (h _ _ _ _ q),λA outer s H args us vs Q E hr he hb hv hs=>F.run A outer s H args us vs Q E hr he hb hv (h _ _ _ _ hs)⟩
theorem gone_ok {Q:Unit→au→Prop}(I:Inv X aL σ H s)(nd:X.N.Nodup)(at_:X.N[i]? =some x)(lc:X.env.scope.names.lookup x=some .local)
  (next:∀s',Inv X aL (σ.set i none) H s'→Q () s'):bc M A (do bindName X.env x .none;unbindBehindTheSuite X.env x pos) Q E s:=by
 obtain⟨m,nsm,look⟩:=id I.loc;have fk:(X.env.scope.kind == .class || (X.env.scope.kind == .module && X.env.locals != X.env.globals))=false:=by rw[I.ok.kind];rfl
 have il:i<σ.length:=by rw[I.len];exact(aj.mp at_).1
 apply wpAny_nameGoes_keeps lc nsm fk λg w nsg sb=>next _ ?_
 obtain⟨oL,_,_,eL,_⟩:=id nsm;have low:∀b o,X.s₀.heap.get? b=some o→b≠X.env.locals:=λb o e=>cz (ck (aV e) I.ok.above)
 have far:∀b o,b≠X.env.locals→s.heap.get? b=some o→g.get? b=some o:=λb o n e=>(sb.2 b n).trans e
 have un:Un X.fs X.ex X.H₀ H X.s₀.heap g:=
  {keep:=fun b o e n f x'=>far b o (low b o e) (I.base.keep b o e n f x')
   slot:=λb o e n f x'=>(I.base.slot b o e n f x').imp λsl q=>far b _ (low b o e) q
   free:=I.base.free
   there:=λb o e x'=>(I.base.there b o e x').imp λo' q=>far b o' (low b o e) q
   tups:=I.base.tups
   frzs:=I.base.frzs
   tbls:=I.base.tbls }
 have hk:HOk X.prog X.w H g:=fun a o e=>(I.hok a o e).stay (fun c o' hc q=>far c o' (by
  rintro rfl
  rcases hc with rfl | hc
  ·rw[I.free] at e;cases e
  ·rw[I.free] at hc;cases hc) q) (fun _ q=>q) fun _ _ q=>q
 apply⟨I.ok,I.os,I.bare,un,⟨_,nsg,λj y u e1 e2 e3=>?_⟩,λy c e=>?_,I.free,I.freeC,λp hp=>?_,hk,by simpa using I.len⟩
 ·by_cases hj:j=i
  ·subst hj
   rw[ke il] at e2;cases e2
  ·rw[List.getElem?_set_ne (cM hj)] at e2
   obtain⟨u',r',l'⟩:=look j y u e1 e2 e3;apply⟨u',r',?_⟩
   rcases l' with ⟨k1,k2⟩ | ⟨k1,c,k2,k3⟩
   ·apply .inl ⟨k1,?_⟩
    have ne:y≠x:=λz=>hj (nodup_ix nd e1 (z ▸ at_))
    simp[ne,k2]
   ·exact .inr ⟨k1,c,k2,k3.sameBut sb (I.cne y c k2)⟩
 ·obtain⟨w',z⟩:=I.cell y c e
  exact⟨w',z.sameBut sb (I.cne y c e)⟩
 ·obtain⟨e,n,nl,nf,d⟩:=I.pin p hp
  exact⟨far p.1 p.2 nl e,n,nl,nf,d⟩
def pG (a C:aq)(d:Option aq):HO:=.ext λh=>∃o us,h.get? a=some o∧o.cls= .ref C∧o.dict=d∧o.data= .fields us
open PySem PySem.Spec PySem.W PyProof.Rows
structure XCls (K:Frag)(C:aq):Prop where
 ga:findIn K (.ref C) "__getattribute__" =some (some (.builtin "BaseException.__getattribute__"))
 gh:findIn K (.ref C) "__getattr__" =some none
 cl:findIn K (.ref C) "__class__" =some (some (.builtin "object.__class__"))
 gt:specialIn K (.builtin "object.__class__") "__get__" =some (some (.builtin "getset_descriptor.__get__"))
 tk:takesIn K (.builtin "object.__class__")=some true
 ob:mroIn K C (.type "object")=some true
 bx:mroIn K C (.type "BaseException")=some true
 dc:hasDictIn K C=true
section
variable {K:Frag}{x:aq}{od:Option Obj}
theorem x_check {nv:af}{Q:Unit→au→Prop}(kin:K.In s.heap)(I:InstAt s.heap x ox C od)(T:XCls K C)(q:Q () s):bc (bC prog w) A (checkBuiltinCall "BaseException.__getattribute__" ⟨[.ref x,nv],[]⟩) Q E s:=by
 obtain⟨hh,g,d,t,os⟩:=s;have k1:builtinKind "BaseException.__getattribute__" =some .slot:=by decide +kernel
 have k2:splitId "BaseException.__getattribute__" =some ("BaseException","__getattribute__"):=by decide +kernel
 have L0:=I.type (M:=bC prog w);have L1:=looks_mroIn (M:=bC prog w) kin T.bx;have LI:Looks (bC prog w) hh (isInstance (.ref x) (.type "BaseException")) true:=L0.andThen L1;have ha:=F.args_bexc_ga (.ref x) nv;simp only[checkBuiltinCall,k1,k2];apply ai (LI.at ?_)
 repeat (any_goals (first | assumption | wp_step))
theorem x_value {v:af}{Q:Fin→au→Prop}(kin:K.In s.heap)(I:InstAt s.heap x ox C od)(hf:findObj K C od name=some (.value v))(q:Q (.done (.ret v)) s) :
  bc (bC prog w) A (eN.«object.__getattribute__» ⟨[.ref x,.str name tk],[]⟩) Q E s:=by
 obtain⟨hh,g,d,t,os⟩:=s;have L0:=I.type (M:=bC prog w);have L1:=looks_find (M:=bC prog w) kin I hf;apply ai (aI (ai (aI (ai (L0.at (ai (L1.at ?_)))))));exact aI q
theorem x_bind {gv a:af}{P:af→au→Prop}(kin:K.In s.heap)(I:InstAt s.heap x ox C od)(hf:findObj K C od name=some (.bind gv a))(q:bc (bC prog w) A (call gv [a,.ref x,.ref C]) P E s) :
  bc (bC prog w) A (eN.«object.__getattribute__» ⟨[.ref x,.str name tk],[]⟩) (λfin s'=>match fin with | .done (.ret v)=>P v s' | _=>False) E s:=by
 obtain⟨hh,g,d,t,os⟩:=s;have L0:=I.type (M:=bC prog w);have L1:=looks_find (M:=bC prog w) kin I hf;apply ai (aI (ai (aI (ai (L0.at (ai (L1.at ?_)))))));show bc _ _ (holding [a] (call gv [a,.ref x,.ref C]) >>= ret) _ _ _;exact ai (gx (cW q (λv s' z=>aI z) λ_ _ z=>z))
theorem x_by {fill ex:Bool}(kin:K.In s.heap)(I:InstAt s.heap x ox C od)(T:XCls K C)
  (q:bc (bC prog w) A.in1 (eN.«object.__getattribute__» ⟨[.ref x,.str name tk],[]⟩) (λfin s'=>match fin with | .done (.ret v)=>bc (bC prog w) A (handedOut v) Q E s' | _=>False) (λ_ _=>False) s) :
  bc (bC prog w) A (getAttrBy (.ref x) (.str name tk) fill ex) Q E s:=by
 obtain⟨hh,g,d,t,os⟩:=s;have L0:=I.type (M:=bC prog w);have L1:=looks_findIn (M:=bC prog w) kin T.ga;have L2:=looks_findIn (M:=bC prog w) kin T.gh;have f3:=F.excAttr_ValueError.ga.bind (.ref x);have hx0:(ex && onTheHeap (af.builtin "BaseException.__getattribute__"))=false:=by cases ex <;> rfl
 unfold getAttrBy;apply gx (ai (L0.at (ai (L1.at ?_))));show bc _ _ (getAttrByItsOwn _ _ _ _ _ _) _ _ _;unfold getAttrByItsOwn;apply ai (L2.at ?_);apply ai (lL (gx ?_));unfold callGetattribute;rw[rK (by rw[hx0];decide)];unfold boundAndCalled;rw[f3];apply ai (aI ?_);apply ko (lX F.excAttr_ValueError.ga.plain F.entry_bexc_ga (x_check kin I T ?_));apply cW q (λfin s' z=>?_) λ_ _ z=>z.elim
 rcases fin with (_ | _ | _ | _) | _ <;> first | exact z | exact z.elim
end
section
variable {K:Frag}{x:aq}
theorem xfind {od:Option Obj}{a g:af}(hc:(clsIn K C).isSome=true)(ha:findIn K (.ref C) name=some (some a))(hg:specialIn K a "__get__" =some (some g))(ht:takesIn K a=some true):findObj K C od name=some (.bind g a):=by
 obtain⟨cd,hc⟩:=mx.mp hc;unfold findObj;rw[hc,Option.bind_some,ha,Option.bind_some];simp[hg,ht]
theorem XCls.cls (T:XCls K C):∃cd,clsIn K C=some cd:=by
 obtain⟨cd,hc,_⟩:=any_some T.dc;exact⟨cd,hc⟩
def XAt (x C:aq)(h:bP):Prop:=∃ox od,InstAt h x ox C od
theorem kitx_exc (T:XCls K C):KitX K (.ref x) (.ref C) (XAt x C) where
 ty:=λ_ _ _ p=>by
  obtain⟨ox,od,I⟩:=p;exact I.type
 it:=λ_ _ kin _=>by
  obtain⟨cd,hc⟩:=T.cls;unfold clsIn at hc;split at hc
  ·rename_i ho
   intro A' Q' E' s' k q;unfold isType loadHead;exact ai (wpAny_loadPart (k _ _ (kin _ _ ho)) (aI q))
  ·cases hc
 ne:=λh tp dd its n sl kin htp=>by
  obtain⟨cd,hc⟩:=T.cls;apply gn.mpr λq=>?_
  have e:C=tp:=af.ref.inj (beq_iff_eq.mp q);subst e;unfold clsIn at hc;split at hc
  ·rename_i ho
   have z:=(kin _ _ ho).symm.trans htp;cases z
  ·cases hc
 ca:=λ{prog w A E Q s} kin p k=>by
  obtain⟨ox,od,I⟩:=p;obtain⟨cd,hc⟩:=T.cls;have hf:findObj K C od "__class__" =some (.bind (.builtin "getset_descriptor.__get__") (.builtin "object.__class__")):=xfind (by rw[hc];rfl) T.cl T.gt T.tk;unfold getAttr? getAttrBy?;apply ai (wpAny_mkText (ai (lL ?_)));apply x_by (s:={ s with toks:=s.toks+1 }) kin I T (x_bind (s:={ s with toks:=s.toks+1 }) kin I hf (ko (class_get (s:={ s with toks:=s.toks+1 }) kin I T.ob ?_)));exact handed_on rfl (aI k)
end
def XD (D:aq)(fs:List (Str×V)):HO:=.ext λh=>∃mA,h.Ns1 D mA∧(∀f,qU (fs.lookup f) (mA f))∧PySem.Within mA (fs.map (·.1))
theorem Inv.xat (I:Inv X aL σ H s)(e:H a=some (pG a C d))(hd:∀D,d=some D→∃fs,H D=some (XD D fs)):XAt a C s.heap:=by
 obtain⟨⟨o,us,p1,p2,p3,p4⟩,_,_⟩:=I.hok a _ e;cases d with
 | none=>exact⟨o,none,p1,p2,by unfold notCls;rw[p4],by rw[p3];trivial⟩
 | some D =>
  obtain⟨fs,q⟩:=hd D rfl;obtain⟨⟨mA,⟨od,es,ep,q1,_⟩,_⟩,_⟩:=I.hok D _ q;exact⟨o,some od,p1,p2,by unfold notCls;rw[p4],by rw[p3];exact q1⟩
theorem call_isx:jn X (.builtin "isinstance") (λxs H Q=>∃a C d b,(∃D,xs=[.ref a,.ref D]∧kitOne X.K (.ref C) (.ref D)=some b)∧H a=some (pG a C d)∧(∀D,d=some D→∃fs,H D=some (XD D fs))∧XCls X.K C∧Q (.bl b) H):=by
 intro aL s σ H vs us Q I r h;obtain⟨a,C,d,b,⟨D,rfl,ek⟩,e,hd,T,q⟩:=h;cases r with
 | cons r1 r =>
 cases r with
 | cons r2 r =>
 cases r;rename_i u1 u2;obtain rfl:u1=af.ref a:=r1;obtain rfl:u2=af.ref D:=r2;exact kia_one (kitx_exc T) I.kIn (I.xat e hd) ek (by intro z;cases z) λtk=>⟨.bl b,H,I.tok tk,rfl,q⟩
theorem pe_xfld {f:Str}(he:PE X e ta)(hb:gN e f X.env (dn e X.env)=dn e X.env) :
  PE X (.Attribute e f pos) (λσ H Q=>ta σ H λx H1=>∃a C D fs v,x= .ref a∧H1 a=some (pG a C (some D))∧H1 D=some (XD D fs)∧XCls X.K C∧jW X.K C f∧fs.lookup f=some v∧Q v H1):=by
 intro aL s σ H Q I h;apply attr_of hb (thn (he aL s σ H _ I h) λu s1 hz0=>?_);obtain⟨x,H1,I1,rx,a,C,D,fs,v,ex,ea,eD,T,n,l,q⟩:=hz0;subst ex;obtain rfl:u=af.ref a:=rx;obtain⟨⟨o,us,p1,p2,p3,p4⟩,_,_⟩:=I1.hok a _ ea;obtain⟨⟨mA,ns,rl,_⟩,_⟩:=I1.hok D _ eD;obtain⟨od,q1,q2⟩:=oJ ns;obtain⟨u,hu,ru⟩:=qU.some_of (v:=v) (o:=mA f) (by rw[←l];exact rl f);have J:InstAt s1.heap a o C (some od):=⟨p1,p2,by unfold notCls;rw[p4],by rw[p3];exact q1⟩;unfold getAttr;apply ai (wpAny_mkText ?_);apply x_by (s:={ s1 with toks:=s1.toks+1 }) I1.kIn J T (x_value (s:={ s1 with toks:=s1.toks+1 }) (v:=u) I1.kIn J (findObj_own T.dc n rfl (by rw[q2,hu])) ?_);exact handed_on (qJ ru) ⟨v,H1,I1.tok _,ru,q⟩
open PySem PySem.Spec PySem.W PyProof.Rows Builtin Builtin.ObjectAttr
section
variable {K:Frag}{x P:aq}{od:Option Obj}
theorem x_open {v:af}(kin:K.In s.heap)(J:InstAt s.heap x ox C od)(hm:Looks (bC prog w) s.heap (mroOf (.ref C)) (.ref C:: .ref P::bmVE))(ob:mroIn K C (.type "object")=some true)(na:findIn K (.ref C) name=some none)
  (k:bc (bC prog w) A.in1 (storeInOwnDict (.ref x) (.ref C) (.str name tk) name v false)
   (fun fin s'=>match fin with | .done f=>R (.ok f) s' | .again c'=>c'.quiet=true∧codeAny (bC prog w) A c' R s') (fun e s'=>R (.error e) s') s) :
  codeAny (bC prog w) A (.call (.builtin "object.__setattr__") ⟨[.ref x,.str name tk,v],[]⟩) R s:=by
 have SF:=PySem.F.store_ValueError;have LI:Looks (bC prog w) s.heap (isInstance (.ref x) (.type "object")) true:=J.type.andThen (looks_mroIn kin ob);apply lX SF.slot.plain SF.entry (@check_slot (bC prog w) _ _ s "object.__setattr__" "object" "__setattr__" (.ref x) [.str name tk,v] [] _ SF.kind SF.split LI (SF.args (.ref x) (.str name tk) v) ?_);rw[osa_eq,refuse_eq];apply ai (ai (J.type.here (ai (hm.here ?_))));rw[refuseLoop_ref,refuseLoop_ref,SF.passes];exact aI (ai (J.type.here (ai ((looks_findIn kin na).here (ai (aI k))))))
theorem x_set0 {v:af}{us:Array af}{Q:Unit→au→Prop}(kin:K.In s.heap)(T:XCls K C)(hs:findIn K (.ref C) "__setattr__" =some (some (.builtin "object.__setattr__")))(hm:Looks (bC prog w) s.heap (mroOf (.ref C)) (.ref C:: .ref P::bmVE))(na:findIn K (.ref C) name=some none)
  (e1:s.heap.get? x=some ⟨.ref C,none,.fields us,ox.slots⟩)
  (k:∀h' tk,h'.Ns1 s.heap.objs.size (λy=>if y=name then some v else none)→h'.get? x=some ⟨.ref C,some s.heap.objs.size,.fields us,ox.slots⟩→(∀b o,b≠x→s.heap.get? b=some o→h'.get? b=some o)→Q () { s with heap:=h',toks:=tk }) :
  bc (bC prog w) A (setAttr (.ref x) name v) Q E s:=by
 have J:InstAt s.heap x ⟨.ref C,none,.fields us,ox.slots⟩ C none:=⟨e1,rfl,rfl,trivial⟩;apply set_plain kin J hs (x_open (s:={ s with toks:=s.toks+1 }) kin J hm T.ob na ?_);obtain⟨cd,hc,hd⟩:=any_some T.dc;obtain⟨hh,g,dr,t,os⟩:=s;apply ai (aI (ai (ai (wpAny_loadPart e1 (ai ((looks_clsIn kin hc).at ?_))))));rw[hd];simp only[Bool.not_true,Bool.false_eq_true,if_false];rw[rK (by simp[typeHasDict])];have x1:(hh.push { cls:=.type "dict",data:=.dict #[] }).get? x=some ⟨.ref C,none,.fields us,ox.slots⟩:=ar _ e1;have xs:x≠hh.objs.size:=cz (aV e1);apply ai (wpAny_alloc' (ai (wpAny_update' x1 (aI ?_))));have d2:((hh.push { cls:=.type "dict",data:=.dict #[] }).update x λo=>{ cls:=o.cls,dict:=some hh.objs.size,data:=o.data,slots:=o.slots }).get? hh.objs.size=some { cls:=.type "dict",data:=.dict #[] }:=
  (bP.get?_update_ne _ _ _ _ xs.symm).trans (bP.get?_push_at rfl rfl)
 have n2:((hh.push { cls:=.type "dict",data:=.dict #[] }).update x λo=>{ cls:=o.cls,dict:=some hh.objs.size,data:=o.data,slots:=o.slots }).Ns hh.objs.size (λ_=>none):=⟨_,#[],_,d2,rfl,λe he=>rM he ∅,λ_=>rfl⟩;show bc _ _ (storeInDict hh.objs.size (.str name t) name v) _ _ _;unfold storeInDict newKeyGuard;apply ai (aI (ai (wpAny_nsSet1 (bP.Ns1.of_empty n2) λh' n3 same=>?_)));obtain⟨oD,eD,pD,gD,hD,cD⟩:=n3.count (Within.cons name v Within.nil);apply ai (wpAny_lookBehind gD (by rw[hD];exact pastItsLine_dict (cB cD (by rw[aG,gQ,sizeLine_eq];lia))) ?_);apply aI (k h' _ n3 ?_ λb o nb e=>?_)
 ·exact(same.2 x xs).trans (gF _ x1 rfl)
 ·exact(same.2 b (cz (aV e))).trans ((bP.get?_update_ne _ _ _ _ nb).trans (ar _ e))
theorem x_set1 {v:af}{us:Array af}{Q:Unit→au→Prop}(kin:K.In s.heap)(T:XCls K C)(hs:findIn K (.ref C) "__setattr__" =some (some (.builtin "object.__setattr__")))(hm:Looks (bC prog w) s.heap (mroOf (.ref C)) (.ref C:: .ref P::bmVE))(na:findIn K (.ref C) name=some none)
  (e1:s.heap.get? x=some ⟨.ref C,some D,.fields us,ox.slots⟩) (n1:s.heap.Ns1 D mA) (hw:Within mA ns) (hz:ns.length<1000)
  (k:∀h' tk,h'.Ns1 D (λy=>if y=name then some v else mA y)→cQ D s.heap h'→Q () { s with heap:=h',toks:=tk }) :
  bc (bC prog w) A (setAttr (.ref x) name v) Q E s:=by
 obtain⟨oA,q1,_⟩:=oJ n1;have J:InstAt s.heap x ⟨.ref C,some D,.fields us,ox.slots⟩ C (some oA):=⟨e1,rfl,rfl,q1⟩;apply set_plain kin J hs (x_open (s:={ s with toks:=s.toks+1 }) kin J hm T.ob na ?_);obtain⟨cd,hc,hd⟩:=any_some T.dc;obtain⟨hh,g,dr,t,os⟩:=s;apply ai (aI (ai (ai (wpAny_loadPart e1 (ai ((looks_clsIn kin hc).at ?_))))));rw[hd];apply aI (a:=some D) (ai (aI (ai (wpAny_nsSet1 n1 λh' n3 same=>?_))));obtain⟨oD,eD,pD,gD,hD,cD⟩:=n3.count (Within.cons name v hw);apply ai (wpAny_lookBehind gD (by rw[hD];exact pastItsLine_dict (cB cD (by rw[aG,sizeLine_eq];lia))) ?_);exact aI (k h' _ n3 same)
end
theorem cS.or {CX:CXT}{sp sp':Sp}(F:cS P w K mg base CX k f fd ps sp)(G:cS P w K mg base CX k f fd ps sp'):cS P w K mg base CX k f fd ps (λvs H Q E=>sp vs H Q E∨sp' vs H Q E):=
 ⟨λvs H Q E h=>h.elim (F.len vs H Q E) (G.len vs H Q E),λA outer s H args us vs Q E hr he hb hv hs=>hs.elim (F.run A outer s H args us vs Q E hr he hb hv) (G.run A outer s H args us vs Q E hr he hb hv)⟩
end L2
variable {CX:L2.CXT}{sp:L2.Sp}{wi:L2.TI}
namespace HT
open PySem PyProof.Rows
theorem cat_tup {t b:aq}{ws:List af}(ht:IsTup s.heap t vs.toArray)(hb:IsTup s.heap b ws.toArray)(hv:vs≠[])
  (h1:ws=[]→Q (.ref t) s) (h2:ws≠[]→Q (.ref s.heap.objs.size) { s with heap:=s.heap.push { cls:=.type "tuple",data:=.seq (vs++ws).toArray } })
  (hsz:vs.length+ws.length≤ax):bc (bC prog w) A (iZ .Add (.ref t) (.ref b)) Q E s:=by
 obtain⟨⟨cls,dd,data,sl⟩,ho,hc,n,hd⟩:=id ht;obtain⟨⟨cls2,dd2,data2,sl2⟩,ho2,hc2,n2,hd2⟩:=id hb;simp only at hc hd hc2 hd2;subst hc hd hc2 hd2;have e:vs.toArray++ws.toArray=(vs++ws).toArray:=by simp
 by_cases hw:ws=[]
 ·exact concat_meets ⟨_,ho,rfl⟩ ⟨_,ho2,rfl⟩ noFill_tuple_add seq_tuple_add PySem.F.slot_tuple_add mH (mn _ _)
   (tuple_addW1 t b vs.toArray ws.toArray n n2 dd dd2 sl sl2 (by simpa using hv) (by simp[hw])) ⟨ho,ho2,h1 hw⟩
 ·apply concat_meets ⟨_,ho,rfl⟩ ⟨_,ho2,rfl⟩ noFill_tuple_add seq_tuple_add PySem.F.slot_tuple_add mH (mn _ _)
   (tuple_addW2 t b vs.toArray ws.toArray n n2 dd dd2 sl sl2 (by simpa using hv) (by simpa using hw) (by rw[aE,aE];exact hsz)) ⟨ho,ho2,?_⟩
  rw[e];exact h2 hw
def sIx (n d:Nat):Option Int→Nat
 | none=>d
 | some v=>if v<0 then (v+(n:Int)).toNat else min v.toNat n
theorem sIx_nat (n d k:Nat):sIx n d (some (k:Int))=min k n:=by
 show(if (k:Int)<0 then ((k:Int)+(n:Int)).toNat else min (k:Int).toNat n)=min k n;rw[rK ⋯,gq]
theorem sIx_le (n d:Nat)(hd:d≤n)(o:Option Int):sIx n d o≤n:=by
 cases o with
 | none=>exact hd
 | some v =>
  show(if v<0 then (v+(n:Int)).toNat else min v.toNat n)≤n
  by_cases hv:v<0
  ·rw[rL hv];lia
  ·rw[rK hv];exact Nat.min_le_right _ _
theorem clip_eq (v:Int)(n d:Nat):(if v<0 then max (v+(n:Int)) 0 else min v (n:Int))=((sIx n d (some v):Nat):Int):=by
 show(if v<0 then max (v+(n:Int)) 0 else min v (n:Int))=(((if v<0 then (v+(n:Int)).toNat else min v.toNat n):Nat):Int)
 by_cases hv:v<0
 ·simp only[rL hv];lia
 ·simp only[rK hv];lia
theorem adjust_gen (lo hi:Option Int)(n:Nat):kX lo hi 1 (n:Int)=(((sIx n 0 lo:Nat):Int),((sIx n n hi:Nat):Int)):=by
 have h1:¬((1:Int)<0):=by lia
 unfold kX;simp only[h1,if_false];apply Prod.ext ?_ ?_
 ·cases lo with
  | none=>rfl
  | some v=>exact clip_eq v n 0
 ·cases hi with
  | none=>rfl
  | some v=>exact clip_eq v n n
theorem places_gen (i j:Nat):jd (i:Int) (j:Int) 1=j - i:=by
 unfold jd;have h1:(1:Int) > 0:=by lia
 simp only[h1,if_true,Int.ediv_one];split <;> lia
theorem rh {v:af}{o:Option Int}{Q:Option Int→au→Prop}(p:IsPart v o)(h:Q o s):bc (bC prog w) A (eN.Slice.slicePartIndex v) Q E s:=by
 cases p with
 | none=>exact slicePart_none h
 | int i t=>exact slicePart_int h
theorem sliceApplied_gen {sl:aq}{vl vu:af}{lo:Option Int}{Q:Int×Int×Nat→au→Prop}(hs:s.heap.IsSliceOf sl vl vu .none)(pl:IsPart vl lo)(pu:IsPart vu hi)
  (h:Q (((sIx n 0 lo:Nat):Int),1,sIx n n hi - sIx n 0 lo) s):bc (bC prog w) A (eN.Slice.sliceApplied (.ref sl) (iJ (n:Int))) Q E s:=by
 obtain⟨os,hos,hcs,hds⟩:=id hs;unfold eN.Slice.sliceApplied eN.Slice.sliceFields;apply ai (ai (cJ hos hds (x:=vl) rfl (ai (cJ hos hds (x:=vu) rfl (ai (cJ hos hds (x:=.none) rfl (aI ?_)))))));apply ai (slicePart_none ?_);show bc _ _ (if ((1:Int) == 0)=true then _ else _) _ _ s;rw[rK ↥0];apply ai (rh pl (ai (rh pu (ai (aI ?_)))));show bc _ _ (match kX lo hi 1 (n:Int) with | (lo,hi)=>iJ (lo,(1:Int),jd lo hi 1)) _ _ s;rw[adjust_gen lo hi n];show bc _ _ (iJ (((sIx n 0 lo:Nat):Int),(1:Int),jd ((sIx n 0 lo:Nat):Int) ((sIx n n hi:Nat):Int) 1)) _ _ s;rw[places_gen];exact aI h
theorem pick_gen (xs:Array af)(i k:Nat):((cI k).filterMap λ(m:Nat)=>xs[((i:Int)+(m:Int) * 1).toNat]?).toArray=((xs.toList.drop i).take k).toArray:=by
 have e:(λ(m:Nat)=>xs[((i:Int)+(m:Int) * 1).toNat]?)=λm=>xs[i+m]?:=by
  funext m
  have:((i:Int)+(m:Int) * 1).toNat=i+m:=by lia
  rw[this]
 rw[e];have:=pick_run xs i k;rw[List.filterMap_map] at this;have e2:((λx=>xs[x]?) ∘ λx=>i+x)=λm=>xs[i+m]?:=rfl
 rw[e2] at this;rw[this]
theorem getItem_tuple_cut {t sl:aq}{vl vu:af}{lo:Option Int}(ht:IsTup s.heap t items)(hs:s.heap.IsSliceOf sl vl vu .none)(pl:IsPart vl lo)(pu:IsPart vu hi)
  (hw:¬(sIx items.size 0 lo=0∧sIx items.size items.size hi=items.size))
  (h:Q (.ref s.heap.objs.size) { s with heap:=s.heap.push { cls:=.type "tuple",data:=.seq ((items.toList.drop (sIx items.size 0 lo)).take (sIx items.size items.size hi - sIx items.size 0 lo)).toArray } })
  (hsz:items.size≤ax):bc (bC prog w) A (getItem (.ref t) (.ref sl)) Q E s:=by
 have htake:sizeOk (.seq ((items.toList.drop (sIx items.size 0 lo)).take (sIx items.size items.size hi - sIx items.size 0 lo)).toArray):=by
  show((items.toList.drop (sIx items.size 0 lo)).take (sIx items.size items.size hi - sIx items.size 0 lo)).toArray.size≤ax;rw[aE,aJ,bE,gS];lia
 have hj:sIx items.size items.size hi≤items.size:=sIx_le _ _ (aA _) hi;obtain⟨os,hos,hcs,hds⟩:=id hs;have hTs:s.TypeIs (.ref sl) "slice":=⟨os,hos,hcs⟩;unfold getItem
 try with_reducible apply gx ?_
 first | apply ai (aI ?_) | skip
 apply ai (wpAny_sequenceKey ht.typeIs ↥0 ?_);apply ai (eP (name:=bU "__getitem__") ht.typeIs eh
  (ik eh ht.typeIs entry_tuple_getitem ?_ (args_tuple_getitem _ _)))
 show bc _ _ (eN.Tuple.tupleItemsOf (.ref t) >>= _) _ _ s;apply ai (tupleItemsOf_ ht ?_);apply ai (wpAny_typeOf hTs ?_);rw[rL ↥0];apply ai (sliceApplied_gen hs pl pu ?_);have hno:¬((((sIx items.size 0 lo:Nat):Int) == 0 && (1:Int) == 1 && (sIx items.size items.size hi - sIx items.size 0 lo) == items.size)=true):=by
  intro q;rw[bW,bW] at q;have q1:((sIx items.size 0 lo:Nat):Int)=0:=eq_of_beq q.1.1;have q2:sIx items.size items.size hi - sIx items.size 0 lo=items.size:=eq_of_beq q.2;exact hw ⟨⋯,⋯⟩
 show bc _ _ (if (((sIx items.size 0 lo:Nat):Int) == 0 && (1:Int) == 1 && (sIx items.size items.size hi - sIx items.size 0 lo) == items.size)=true then _ else _) _ _ s;rw[rK hno,pick_gen]
 first
  | exact ai (m:=jo _) (gz (aI ⟨_,rfl,aI h⟩) htake)
  | exact ai (m:=jo _) (gz (ai (aI (aI ⟨_,rfl,aI h⟩))) htake)
  | exact ai (ai (m:=jo _) (gz (aI (aI ⟨_,rfl,aI h⟩)) htake))
  | exact ai (ai (m:=jo _) (gz (aI ⟨_,rfl,aI h⟩) htake))
end HT
namespace L2
open PySem PySem.Spec PyProof.Rows
abbrev TO:=St→Hp→(Option Int→Hp→Prop)→Prop
def PO (X:Cx)(e:Option Expr)(t:TO):Prop:=
 ∀(aL:List (aq×Obj)) (s:au) (σ:St) (H:Hp) (Q:Option Int→Hp→Prop),Inv X aL σ H s→t σ H Q →
  bc (bC X.prog X.w) X.A (evalPart e X.env) (λu s'=>∃o H',Inv X aL σ H' s'∧IsPart u o∧Q o H') X.xe s
def tNoPart:TO:=λ_ H Q=>Q none H
def tPart (t:TE):TO:=λσ H Q=>t σ H λx H1=>∃i,x= .int i∧Q (some i) H1
section
variable {lo hi:Option Expr}{tl th:TO}
theorem eR:PO X none tNoPart:=by
 intro aL s σ H Q I h;rw[evalPart_none];exact aI ⟨none,H,I,.none,h⟩
theorem dJ (h:PE X e te):PO X (some e) (tPart te):=by
 intro aL s σ H Q I hw;rw[evalPart_some];apply thn (h aL s σ H _ I hw) λu s1 hz0=>?_
 obtain⟨x,H1,I1,r1,q1⟩:=hz0;obtain⟨i,rfl,q⟩:=q1;obtain⟨t,rfl⟩:=r1;exact⟨some i,H1,I1,.int i t,q⟩
def SlR (X:Cx)(r:V→Option Int→Option Int→Hp→VK→Prop):Prop:=
 ∀(aL:List (aq×Obj)) (s:au) (σ:St) (H:Hp) (x:V) (v vl vu:af) (lo hi:Option Int) (sl:aq) (Q:VK),Inv X aL σ H s→iY x v→s.heap.IsSliceOf sl vl vu .none→IsPart vl lo→IsPart vu hi→r x lo hi H Q →
  ∃T id,typeLookup (.type T) "__getitem__" =iJ (some (.builtin id))∧s.TypeIs v T∧bc (bC X.prog X.w) X.A (getItem v (.ref sl)) (EP X aL σ Q) X.xe s
def tSl (r:V→Option Int→Option Int→Hp→VK→Prop)(te:TE)(tl th:TO):TE:=λσ H Q=>te σ H λx H1=>tl σ H1 λl H2=>th σ H2 λu H3=>r x l u H3 Q
theorem cV {r:V→Option Int→Option Int→Hp→VK→Prop}(hr:SlR X r)(he:PE X e te)(hl:PO X lo tl)(hu:PO X hi th):PE X (.Subscript e (.Slice lo hi none p2) pos) (tSl r te tl th):=by
 intro aL s σ H Q I h;apply Subscript_ (thn (he aL s σ H _ I h) λv s1 hz0=>?_);obtain⟨x,H1,I1,r1,q1⟩:=hz0;apply wpAny_Slice (thn (hl aL s1 σ H1 _ I1 q1) λvl s2 ⟨l,H2,I2,pl,q2⟩=>thn (hu aL s2 σ H2 _ I2 q2) λvu s3 hz0=>?_);obtain⟨u,H3,I3,pu,q3⟩:=hz0;rw[evalPart_none];apply aI ?_;have I4:Inv X aL σ H3 { s3 with heap:=s3.heap.push { cls:=.type "slice",data:=.fields #[vl,vu,.none] } }:=I3.kept (t':=s3.toks) λb ob q=>ar _ q
 obtain⟨T,id,hT,ht,hg⟩:=hr aL { s3 with heap:=s3.heap.push { cls:=.type "slice",data:=.fields #[vl,vu,.none] } } σ H3 x v vl vu l u s3.heap.objs.size Q I4 r1 (bP.IsSliceOf.new ..) pl pu q3;show bc (bC X.prog X.w) X.A (subscriptTail e (.Slice lo hi none p2) v (.ref s3.heap.objs.size)) (EP X aL σ Q) X.xe { s3 with heap:=s3.heap.push { cls:=.type "slice",data:=.fields #[vl,vu,.none] } };exact tail_any (ops:=[.ref s3.heap.objs.size,v]) ht hT hg (by with_unfolding_all rfl)
def cutV (xs:List V)(lo hi:Option Int):List V:=(xs.drop (HT.sIx xs.length 0 lo)).take (HT.sIx xs.length xs.length hi - HT.sIx xs.length 0 lo)
theorem qS (xs:List V)(lo hi:Option Int):(cutV xs lo hi).length≤xs.length:=by
 unfold cutV;rw[aJ,bE];lia
def rSlT (K:ak):V→Option Int→Option Int→Hp→VK→Prop:=λx lo hi H Q=>∃a xs,x= .ref a∧SqT K H a xs ∧
 ¬(HT.sIx xs.length 0 lo=0∧HT.sIx xs.length xs.length hi=xs.length)∧∀p,H p=none→Q (.ref p) (upd H p (.tup (cutV xs lo hi)))
theorem sl_tup:SlR X (rSlT X.K):=by
 intro aL s σ H x v vl vu lo hi sl Q I rx hs pl pu h;obtain⟨a,xs,rfl,hx,hw,q⟩:=h;cases rx;obtain⟨its,r,ht,hz⟩:=I.tuple hx;have hlen:its.toArray.size=xs.length:=by rw[aE];exact r.length.symm
 apply⟨"tuple",_,eh.lookup,ht.typeIs,?_⟩;apply HT.getItem_tuple_cut ht hs pl pu (by rw[hlen];exact hw) ?_ (by rw[hlen];exact hz);rw[hlen];apply⟨.ref s.heap.objs.size,_,I.laid (t':=s.toks) (o:=.tup (cutV xs lo hi)) (λb ob q=>ar _ q) (aA _) ?_,rfl,q _ (I.hok.fresh (aA _))⟩;exact⟨cB (qS xs lo hi) hz,_,(r.drop (HT.sIx xs.length 0 lo)).take (HT.sIx xs.length xs.length hi - HT.sIx xs.length 0 lo),mZ.new _ _⟩
inductive rCatT (K:ak)(x:V)(y:V)(H:Hp)(Q:VK):Prop
 | mk (a b xs ys:_)(_:x= .ref a)(_:y= .ref b)(_:SqT K H a xs)(_:SqT K H b ys)(_:xs≠[])(_:xs.length+ys.length≤ax)(_:(ys=[]→Q (.ref a) H))(_:(ys≠[]→∀p,H p=none→Q (.ref p) (upd H p (.tup (xs++ys)))))
theorem gZ.nil_iff (r:gZ xs us):us=[]↔xs=[]:=by
 cases r with
 | nil=>simp
 | cons _ _=>simp
theorem op_catT:OpR X (iZ .Add) (rCatT X.K):=by
 intro aL s σ H x y v u Q I rx ry h;obtain⟨a,b,xs,ys,rfl,rfl,ha,hb,hx,hz,q1,q2⟩:=h;cases rx;cases ry;obtain⟨its,r1,p1,_⟩:=I.tuple ha;obtain⟨its2,r2,p2,_⟩:=I.tuple hb;apply HT.cat_tup p1 p2 (λz=>hx (r1.nil_iff.mp z)) (λz=>⟨.ref a,H,I,rfl,q1 (r2.nil_iff.mp z)⟩) (λz=>?_) (by rw[←r1.length,←r2.length];exact hz);apply⟨.ref s.heap.objs.size,_,I.laid (t':=s.toks) (o:=.tup (xs++ys)) (λb ob q=>ar _ q) (aA _) ?_,rfl,q2 (λw=>z (r2.nil_iff.mpr w)) _ (I.hok.fresh (aA _))⟩;exact⟨by rw[ao];exact hz,_,r1.append r2,mZ.new _ _⟩
end
def ixN (n:Nat)(i:Int):Option Nat:=if 0≤i then (if i<n then some i.toNat else none) else if -(n:Int)≤i then some (i+n).toNat else none
def atI {α:Type}(xs:List α)(i:Int):Option α:=(ixN xs.length i).bind λj=>xs[j]?
theorem ixN_seq {i:Int}(h:ixN n i=some j):seqIndex? i n=some j∧j<n∧ -(n:Int)≤i∧i<n:=by
 unfold ixN at h
 by_cases h0:0≤i
 ·rw[rL h0] at h
  by_cases h1:i<n
  ·rw[rL h1] at h
   have e:i.toNat=j:=bF h;exact⟨by rw[seqIndex_of h0 h1,e],⋯,⋯,h1⟩
  ·rw[rK h1] at h;cases h
 ·rw[rK h0] at h
  by_cases h1: -(n:Int)≤i
  ·rw[rL h1] at h
   have e:(i+n).toNat=j:=bF h;exact⟨by rw[seqIndex_neg ⋯ h1,e],⋯,h1,⋯⟩
  ·rw[rK h1] at h;cases h
theorem atI_get {xs:List α}{i:Int}{v:α}(h:atI xs i=some v):∃j,seqIndex? i xs.length=some j∧xs[j]? =some v∧j<xs.length∧ -(xs.length:Int)≤i∧i<xs.length:=by
 unfold atI at h;cases e:ixN xs.length i with
 | none=>rw[e] at h;cases h
 | some j =>
  rw[e] at h;obtain⟨h1,h2,h3,h4⟩:=ixN_seq e;exact⟨j,h1,h,h2,h3,h4⟩
theorem aH {xs:List α}{v:α}(h:xs[j]? =some v):atI xs (j:Int)=some v:=by
 have hj:j<xs.length:=(aj.mp h).1;have e:ixN xs.length (j:Int)=some j:=by
  unfold ixN;rw[rL ⋯,rL ⋯];simp
 unfold atI;rw[e];exact h
def PlainIx (b:Expr):Prop:=∀o i,subscripted b false o i=operate [o,i] (getItem o i)
def IxR (X:Cx)(r:R2):Prop:=
 ∀(value slice:Expr) (aL:List (aq×Obj)) (s:au) (σ:St) (H:Hp) (x y:V) (v u:af) (Q:VK),Inv X aL σ H s→iY x v→iY y u→r x y H Q →
  subscripted slice false v u=operate [v,u] (getItem v u)→bc (bC X.prog X.w) X.A (subscriptTail value slice v u) (EP X aL σ Q) X.xe s
def MtR (X:Cx)(id:String)(r:V→List V→Hp→VK→Prop):Prop:=
 ∀(aL:List (aq×Obj)) (s:au) (σ:St) (H:Hp) (x:V) (xs:List V) (v:af) (us:List af) (Q:VK),Inv X aL σ H s→iY x v→gZ xs us→r x xs H Q →
  bc (bC X.prog X.w) X.A (call (.builtin id) (v::us)) (EP X aL σ Q) X.xe s
section
variable {a b:Expr}{tb:TE}
theorem cE {r:R2}(hr:IxR X r)(ha:PE X a ta)(hb:PE X b tb)(hs:PlainIx b):PE X (.Subscript a b pos) (tOp r ta tb):=by
 intro aL s σ H Q I h;exact Subscript_ (binT ha hb I h λv u s2 x y H2 I2 rx ry q=>hr a b aL s2 σ H2 x y v u Q I2 rx ry q (hs _ _))
inductive rIxL (K:ak)(x:V)(y:V)(H:Hp)(Q:VK):Prop
 | mk (p xs i v:_)(_:x= .ref p)(_:y= .int i)(_:SqL K H p xs)(_:atI xs i=some v)(_:Q v H)
inductive rIxT (K:ak)(x:V)(y:V)(H:Hp)(Q:VK):Prop
 | mk (p xs i v:_)(_:x= .ref p)(_:y= .int i)(_:SqT K H p xs)(_:atI xs i=some v)(_:Q v H)
inductive rIxS (x:V)(y:V)(H:Hp)(Q:VK):Prop
 | mk (z i c:_)(_:x= .str z)(_:y= .int i)(_:z.length≤ax)(_:atI z.cps.toList i=some c)(_:Q (.str ⟨#[c]⟩) H)
theorem aW:IxR X (rIxL X.K):=by
 intro value slice aL s σ H x y v u Q I rx ry h hs;obtain⟨p,xs,i,z,rfl,rfl,hq,he,q⟩:=h;cases rx;obtain⟨t,rfl⟩:=ry;obtain⟨its,r,pl,hz⟩:=I.list hq;obtain⟨j,h1,h2,h3,h4,h5⟩:=atI_get he;obtain⟨w,ew,rw'⟩:=r.get h2;have hl:=r.length;have hn:=rG;have fin:EP X aL σ Q w s:=⟨z,H,I,rw',q⟩
 by_cases h0:0≤i
 ·have hj:i.toNat=j:=by
   rw[seqIndex_of h0 h5] at h1;exact bF h1
  exact item_listR pl.isList h0 ⋯ (by rw[hj];simpa using ew) fin hs
 ·have hj:(i+(its.toArray.size:Int)).toNat=j:=by
   rw[seqIndex_neg ⋯ h4] at h1;rw[aE,←hl];exact bF h1
  exact subscriptTail_builtinR (x:=w) pl.isList.typeIs ng.lookup
   (wpAny_getItem_list_neg (Q:=λr s'=>r=w∧EP X aL σ Q r s') pl.isList ⋯ (by rw[aE] <;> lia) ⋯ (by rw[hj];simpa using ew) ⟨rfl,fin⟩) hs
theorem ix_tup:IxR X (rIxT X.K):=by
 intro value slice aL s σ H x y v u Q I rx ry h hs;obtain⟨p,xs,i,z,rfl,rfl,hq,he,q⟩:=h;cases rx;obtain⟨t,rfl⟩:=ry;obtain⟨its,r,pl,hz⟩:=I.tuple hq;obtain⟨j,h1,h2,h3,h4,h5⟩:=atI_get he;obtain⟨w,ew,rw'⟩:=r.get h2;have hl:=r.length;have hn:=rG;have fin:EP X aL σ Q w s:=⟨z,H,I,rw',q⟩;exact subscriptTail_builtinR (x:=w) pl.typeIs slot_tuple_getitem.lookup
  (getItem_tuple (j:=j) (Q:=λr s'=>r=w∧EP X aL σ Q r s') pl ⋯ ⋯ (by rw[aE,←hl];exact h1) (by simpa using ew) ⟨rfl,fin⟩) hs
theorem ix_str:IxR X rIxS:=by
 intro value slice aL s σ H x y v u Q I rx ry h hs;obtain⟨z,i,c,rfl,rfl,hz,he,q⟩:=h;obtain⟨t,rfl⟩:=rx;obtain⟨t',rfl⟩:=ry;obtain⟨j,h1,h2,h3,h4,h5⟩:=atI_get he;have hl:z.cps.toList.length=z.length:=by simp[Str.length]
 rw[hl] at h1 h4 h5;have hn:=rG;exact tail_any (typeIs_str s z t) slot_str_getitem.lookup (getItem_str (c:=c) (by
  have e1:decide (i< -(2 ^ 63:Int))=false:=rP ⋯;have e2:decide (i ≥ 2 ^ 63)=false:=rP ⋯;rw[e1,e2,Bool.or_false]) (by rw[h1];simpa using h2) ⟨.str ⟨#[c]⟩,H,I.tok _,⟨_,rfl⟩,q⟩) hs
theorem mapSeq_set (its:List af)(n j:Nat)(u:af):Obj.mapSeq (·.setIfInBounds j u) { cls:=.type "list",data:=.seq its.toArray n }={ cls:=.type "list",data:=.seq (its.set j u).toArray n }:=by
 simp[Obj.mapSeq]
theorem Inv.lst {aL:List (aq×Obj)}{σ:St}{H:Hp}{s:au}{p:aq}{xs:List V}(I:Inv X aL σ H s)(h:H p=some (.lst xs)) :
  ∃(its:List af) (n:Nat),gZ xs its∧s.heap.get? p=some { cls:=.type "list",data:=.seq its.toArray n }∧xs.length≤ax:=by
 obtain⟨z,its,n,r,e⟩:=I.hok p _ h;exact⟨its,n,r,e,z⟩
theorem Inv.lstUpd {its':List af}{n':Nat}{f:Obj→Obj}(I:Inv X aL σ H s)(h:H p=some (.lst xs))
  (ho:s.heap.get? p=some { cls:=.type "list",data:=.seq its.toArray n }) (hf:f { cls:=.type "list",data:=.seq its.toArray n }={ cls:=.type "list",data:=.seq its'.toArray n' }) (r:gZ ys its') (hz:ys.length≤ax) (t:Nat) :
  Inv X aL σ (upd H p (.lst ys)) { s with heap:=s.heap.update p f,toks:=t }:=by
 have e:(s.heap.update p f).get? p=some { cls:=.type "list",data:=.seq its'.toArray n' }:=by
  rw[gF f ho (by rw[hf] <;> rfl),hf]
 apply I.write (x:=p) (e:=p) (by rw[h];trivial) (.inl rfl) (λb u hb q=>(gk _ _ (cM hb)).trans q) ⟨_,e⟩ ?_;exact⟨hz,its',n',r,e⟩
def rSetL:V→V→V→Hp→(Hp→Prop)→Prop:=λo i v H Q=>∃p xs k j,o= .ref p∧i= .int k∧H p=some (.lst xs)∧ixN xs.length k=some j∧Q (upd H p (.lst (xs.set j v)))
theorem set_list:PSet X rSetL:=by
 intro aL s σ H o i v ov iv u Q I ro ri rv h;obtain⟨p,xs,k,j,rfl,rfl,hp,hj,q⟩:=h;cases ro;obtain⟨t,rfl⟩:=ri;obtain⟨its,n,r,ho,hz⟩:=I.lst hp;obtain⟨h1,h2,h3,h4⟩:=ixN_seq hj;have hl:=r.length;have hn:=rG;have I':Inv X aL σ (upd H p (.lst (xs.set j v))) { s with heap:=s.heap.update p (Obj.mapSeq (·.setIfInBounds j u)) }:=
  I.lstUpd hp ho (mapSeq_set its n j u) (r.set rv j) (by rw[iw];exact hz) s.toks
 by_cases h0:0≤k
 ·have hk:k.toNat=j:=by
   rw[seqIndex_of h0 h4] at h1;exact bF h1
  exact PySem.W.ki_setAt ho h0 ⋯ (by rw[aE,←hl];exact h4) (by rw[hk];exact⟨_,I',q⟩)
 ·have hk:(k+(its.toArray.size:Int)).toNat=j:=by
   rw[seqIndex_neg ⋯ h3] at h1;rw[aE,←hl];exact bF h1
  exact PySem.W.ki_setBack ho ⋯ (by rw[aE,←hl];exact h3) ⋯ (by rw[hk];exact⟨_,I',q⟩)
theorem slice_bounds (lo hi:Option Int)(n:Nat):(jK lo hi none n).1=((HT.sIx n 0 lo:Nat):Int)∧(jK lo hi none n).2.1=((HT.sIx n n hi:Nat):Int)∧(jK lo hi none n).2.2=1:=by
 apply⟨?_,?_,rfl⟩
 ·cases lo with
  | none=>simp[jK,HT.sIx]
  | some i =>
   simp only[jK,HT.sIx,Option.getD_none,show(1:Int) > 0 by decide,if_true]
   by_cases h:i<0
   ·simp only[h,if_true] <;> lia
   ·simp only[h,if_false] <;> lia
 ·cases hi with
  | none=>simp[jK,HT.sIx]
  | some i =>
   simp only[jK,HT.sIx,Option.getD_none,show(1:Int) > 0 by decide,if_true]
   by_cases h:i<0
   ·simp only[h,if_true] <;> lia
   ·simp only[h,if_false] <;> lia
theorem slicePick_cut (its:List af)(lo hi:Option Int):slicePick its.toArray lo hi none=((its.drop (HT.sIx its.length 0 lo)).take (HT.sIx its.length its.length hi - HT.sIx its.length 0 lo)).toArray:=by
 obtain⟨h1,h2,h3⟩:=slice_bounds lo hi its.toArray.size;unfold slicePick;rw[h1,h2,h3];simp only[sliceRange_one,pick_run,aE] <;> rfl
def rSlL (K:ak):V→Option Int→Option Int→Hp→VK→Prop:=λx lo hi H Q=>∃a xs,x= .ref a∧SqL K H a xs∧∀p,H p=none→Q (.ref p) (upd H p (.lst (cutV xs lo hi)))
theorem sl_list:SlR X (rSlL X.K):=by
 intro aL s σ H x v vl vu lo hi sl Q I rx hs pl pu h;obtain⟨a,xs,rfl,hx,q⟩:=h;cases rx;obtain⟨its,r,ht,hz⟩:=I.list hx;have hlen:=r.length;apply⟨"list",_,ng.lookup,ht.isList.typeIs,?_⟩;apply nH ht.isList hs pl pu .none ∅ ?_ (by rw[aE] <;> lia);rw[slicePick_cut,←hlen];apply⟨.ref s.heap.objs.size,_,I.laid (t':=s.toks) (o:=.lst (cutV xs lo hi)) (λb ob q=>ar _ q) (aA _) ?_,rfl,q _ (I.hok.fresh (aA _))⟩;exact⟨cB (qS xs lo hi) hz,_,0,(r.drop (HT.sIx xs.length 0 lo)).take (HT.sIx xs.length xs.length hi - HT.sIx xs.length 0 lo),aU _ rfl⟩
def mY:V→Bool
 | .non=>true
 | .bl _=>true
 | .int _=>true
 | .str _=>true
 | _=>false
def eqV:V→V→Bool
 | .non,.non=>true
 | .bl a,.bl b=>a == b
 | .bl a,.int b=>(if a then 1 else 0) == b
 | .int a,.bl b=>a == (if b then 1 else 0)
 | .int a,.int b=>a == b
 | .str a,.str b=>a == b
 | _,_=>false
theorem kC {x:V}{v:af}(ry:iY y u)(rx:iY x v)(fy:mY y=true)(fx:mY x=true):SeqAt.EqAt A s u v (eqV y x):=by
 cases y with
 | non =>
  cases ry;cases x with
  | non=>cases rx;exact SeqAt.EqAt.same _
  | bl b=>cases rx;exact SeqAt.EqAt.none_bool b
  | int b=>obtain⟨t,rfl⟩:=rx;exact SeqAt.EqAt.none_int b t
  | str b=>obtain⟨t,rfl⟩:=rx;exact SeqAt.EqAt.none_str b t
  | _=>exact rM (show false=true from fx) bQ
 | bl a =>
  cases ry;cases x with
  | non=>cases rx;exact SeqAt.EqAt.bool_none a
  | bl b=>cases rx;exact SeqAt.EqAt.bool_bool a b
  | int b=>obtain⟨t,rfl⟩:=rx;exact SeqAt.EqAt.bool_int a b t
  | str b=>obtain⟨t,rfl⟩:=rx;exact SeqAt.EqAt.bool_str a b t
  | _=>exact rM (show false=true from fx) bQ
 | int a =>
  obtain⟨t',rfl⟩:=ry;cases x with
  | non=>cases rx;exact SeqAt.EqAt.int_none a t'
  | bl b=>cases rx;exact SeqAt.EqAt.int_bool a t' b
  | int b=>obtain⟨t,rfl⟩:=rx;exact SeqAt.EqAt.int_int a t' b t
  | str b=>obtain⟨t,rfl⟩:=rx;exact SeqAt.EqAt.int_str a t' b t
  | _=>exact rM (show false=true from fx) bQ
 | str a =>
  obtain⟨t',rfl⟩:=ry;cases x with
  | non=>cases rx;exact SeqAt.EqAt.str_none a t'
  | bl b=>cases rx;exact SeqAt.EqAt.str_bool a t' b
  | int b=>obtain⟨t,rfl⟩:=rx;exact SeqAt.EqAt.str_int a t' b t
  | str b=>obtain⟨t,rfl⟩:=rx;exact SeqAt.EqAt.str_str a t' b t
  | _=>exact rM (show false=true from fx) bQ
 | _=>exact rM (show false=true from fy) bQ
def eqU (x:V)(u:af):Bool:=match u with
 | .none=>eqV .non x
 | .bool b=>eqV (.bl b) x
 | .int i _=>eqV (.int i) x
 | .str z _=>eqV (.str z) x
 | _=>false
theorem eqU_of {x:V}(r:iY y u)(f:mY y=true):eqU x u=eqV y x:=by
 cases y with
 | non=>cases r;rfl
 | bl b=>cases r;rfl
 | int i=>obtain⟨t,rfl⟩:=r;rfl
 | str z=>obtain⟨t,rfl⟩:=r;rfl
 | _=>exact rM (show false=true from f) bQ
theorem qT {x:V}:∀{xs:List V} {us:List af},gZ xs us→xs.all mY=true→us.any (eqU x)=xs.any λy=>eqV y x
 | _,_,.nil,_=>rfl
 | y::xs,u::us,.cons r t,f=>by
  rw[List.all_cons,bW] at f;rw[jh,jh,eqU_of r f.1,qT t f.2]
theorem oF {A:cp}{s:au}{x:V}{v:af}(rx:iY x v)(fx:mY x=true):∀{xs:List V} {us:List af},gZ xs us→xs.all mY=true→∀u∈us,SeqAt.EqAt A s u v (eqU x u)
 | _,_,.nil,_=>λu hu=>by cases hu
 | y::xs,u::us,.cons r t,f=>λu' hu=>by
  rw[List.all_cons,bW] at f
  rcases az.mp hu with rfl | hu
  ·rw[eqU_of r f.1];exact kC r rx f.1 fx
  ·exact oF rx fx t f.2 u' hu
def inV (x:V)(xs:List V):Bool:=xs.any λy=>eqV y x
inductive rIn (K:ak)(neg:Bool)(x:V)(y:V)(H:Hp)(Q:VK):Prop
 | mk (p xs:_)(_:y= .ref p)(_:(SqL K H p xs∨SqT K H p xs))(_:mY x=true)(_:xs.all mY=true)(_:Q (.bl (if neg then !inV x xs else inV x xs)) H)
theorem k8:OpR X (dA .In) (rIn X.K false):=by
 intro aL s σ H x y v u Q I rx ry h;obtain⟨p,xs,rfl,hq,fx,fs,q⟩:=h;cases ry
 rcases hq with hq | hq
 ·obtain⟨its,r,pl,hz⟩:=I.list hq
  apply SeqAt.in_listAt (eqU x) pl.isList (λw hw=>oF rx fx r fs w (by simpa using hw)) ⟨.bl _,H,I,rfl,?_⟩;rw[show its.toArray.any (eqU x)=its.any (eqU x) by simp,qT r fs];exact q
 ·obtain⟨its,r,pl,hz⟩:=I.tuple hq
  apply SeqAt.in_tupleAt (eqU x) pl (λw hw=>oF rx fx r fs w (by simpa using hw)) ⟨.bl _,H,I,rfl,?_⟩;rw[show its.toArray.any (eqU x)=its.any (eqU x) by simp,qT r fs];exact q
theorem pO:OpR X (dA .NotIn) (rIn X.K true):=by
 intro aL s σ H x y v u Q I rx ry h;obtain⟨p,xs,rfl,hq,fx,fs,q⟩:=h;cases ry
 rcases hq with hq | hq
 ·obtain⟨its,r,pl,hz⟩:=I.list hq
  apply SeqAt.notIn_listAt (eqU x) pl.isList (λw hw=>oF rx fx r fs w (by simpa using hw)) ⟨.bl _,H,I,rfl,?_⟩;rw[show its.toArray.any (eqU x)=its.any (eqU x) by simp,qT r fs];exact q
 ·obtain⟨its,r,pl,hz⟩:=I.tuple hq
  apply SeqAt.notIn_tupleAt (eqU x) pl (λw hw=>oF rx fx r fs w (by simpa using hw)) ⟨.bl _,H,I,rfl,?_⟩;rw[show its.toArray.any (eqU x)=its.any (eqU x) by simp,qT r fs];exact q
theorem bO:jn X (.builtin "len") (λxs H Q=>∃p ys,xs=[.ref p]∧(SqL X.K H p ys∨SqT X.K H p ys)∧Q (.int ys.length) H):=by
 intro aL s σ H xs us Q I r h;obtain⟨p,ys,rfl,hq,q⟩:=h;obtain⟨u,rfl,rx⟩:=mM r;cases rx;have hn:=rG
 rcases hq with hq | hq
 ·obtain⟨its,r',pl,hz⟩:=I.list hq
  have hlen:=r'.length;exact Calls.call_len_list pl.isList (by simp only[aE] <;> lia) ⟨.int ys.length,H,I.tok _,⟨s.toks+1,by rw[aE,hlen]⟩,q⟩
 ·obtain⟨its,r',pl,hz⟩:=I.tuple hq
  have hlen:=r'.length;exact len_tuple pl (by simp only[aE] <;> lia) ⟨.int ys.length,H,I.tok _,⟨s.toks+1,by rw[aE,hlen]⟩,q⟩
theorem kD:jn X (.builtin "len") (λxs H Q=>∃z,xs=[.str z]∧z.length≤ax∧Q (.int z.length) H):=by
 intro aL s σ H xs us Q I r h;obtain⟨z,rfl,hz,q⟩:=h;obtain⟨u,rfl,t,rfl⟩:=mM r;have hn:=rG;exact len_str ⋯ ⟨.int z.length,H,I.tok _,⟨_,rfl⟩,q⟩
theorem pS:jn X (.type "list") (λxs H Q=>∃p ys,xs=[.ref p]∧(SqL X.K H p ys∨SqT X.K H p ys)∧∀l,H l=none→Q (.ref l) (upd H l (.lst ys))):=by
 intro aL s σ H xs us Q I r h;obtain⟨p,ys,rfl,hq,q⟩:=h;obtain⟨u,rfl,rx⟩:=mM r;cases rx;have fin:∀(its:List af),gZ ys its→ys.length≤ax→∀(h':bP) (c':Nat),(∀b o',s.heap.get? b=some o'→h'.get? b=some o') →
   h'.get? s.heap.objs.size=some { cls:=.type "list",dict:=none,data:=.seq its.toArray c',slots:=#[] }→EP X aL σ Q (.ref s.heap.objs.size) { s with heap:=h' }:=λits r' hz h' c' kp e =>
  ⟨.ref s.heap.objs.size,_,I.laid (t':=s.toks) kp (aA _) (show iE X.prog X.w _ h' _ (.lst ys) from ⟨hz,its,c',r',e⟩),rfl,q _ (I.hok.fresh (aA _))⟩
 rcases hq with hq | hq
 ·obtain⟨its,r',pl,hz⟩:=I.list hq
  have hlen:=r'.length;obtain⟨o,ho,hc,n,hd⟩:=pl.isList;exact call_list_seq p (.inl rfl) ho hc hd (λh' c' kp e=>fin its r' hz h' c' kp e) (by simp only[aE] <;> lia)
 ·obtain⟨its,r',pl,hz⟩:=I.tuple hq
  have hlen:=r'.length;obtain⟨o,ho,hc,n,hd⟩:=pl;exact call_list_seq p (.inr rfl) ho hc hd (λh' c' kp e=>fin its r' hz h' c' kp e) (by simp only[aE] <;> lia)
theorem call_tuple_of:jn X (.type "tuple") (λxs H Q=>∃p ys,xs=[.ref p]∧((SqL X.K H p ys∧∀l,H l=none→Q (.ref l) (upd H l (.tup ys)))∨(SqT X.K H p ys∧Q (.ref p) H))):=by
 intro aL s σ H xs us Q I r h;obtain⟨p,ys,rfl,h⟩:=h;obtain⟨u,rfl,rx⟩:=mM r;cases rx
 rcases h with ⟨hq,q⟩ | ⟨hq,q⟩
 ·obtain⟨its,r',pl,hz⟩:=I.list hq
  have hlen:=r'.length;apply call_tuple_list pl.isList (λh' kp=>?_) (by simp only[aE] <;> lia);have I1:Inv X aL σ H { s with heap:=h' }:=I.kept (t':=s.toks) kp;have I2:Inv X aL σ (upd H h'.objs.size (.tup ys)) { s with heap:=h'.push { cls:=.type "tuple",data:=.seq its.toArray } }:=
   I1.laid (t':=s.toks) (λb o e=>ar _ e) (aA _) (show iE X.prog X.w _ _ _ (.tup ys) from ⟨hz,its,r',mZ.new _ _⟩)
  exact⟨.ref h'.objs.size,_,I2,rfl,q _ (I1.hok.fresh (aA _))⟩
 ·obtain⟨its,r',pl,hz⟩:=I.tuple hq
  exact call_tuple_same pl ⟨.ref p,H,I,rfl,q⟩
def tyV (K:ak)(T:String)(x:V)(H:Hp):Prop:=match x with
 | .str _=>T = "str"
 | .int _=>T = "int"
 | .ref p=>(T = "list" ∧∃xs,SqL K H p xs)∨(T = "tuple" ∧∃o,K.lookup p=some o∧o.cls= .type "tuple" ∧o.dict=none) ∨
   (T = "dict" ∧((∃kvs,H p=some (.dK kvs))∨∃kvs,H p=some (.dT kvs)))∨(T = "set" ∧∃S n,H p=some (.set S n))
 | _=>False
theorem tyV_is {x:V}{v:af}(I:Inv X aL σ H s)(r:iY x v)(ty:tyV X.K T x H) :
  s.TypeIs v T∧∀a,v= .ref a→∃ob,s.heap.get? a=some ob∧ob.dict=none:=by
 cases x with
 | str z =>
  obtain⟨t,rfl⟩:=r;cases(show T = "str" from ty);exact⟨typeIs_str s z t,λ_ e=>nomatch e⟩
 | int i =>
  obtain⟨t,rfl⟩:=r;cases(show T = "int" from ty);exact⟨typeIs_int s i t,λ_ e=>nomatch e⟩
 | ref p =>
  cases r
  rcases ty with ⟨rfl,xs,hq⟩ | ⟨rfl,o,hk,hc,hd⟩ | ⟨rfl,hk⟩ | ⟨rfl,S,n,hk⟩
  ·obtain⟨its,_,pl,_⟩:=I.list hq
   apply⟨pl.isList.typeIs,λa e=>?_⟩;cases e;obtain⟨o,n,e,c,hd,_⟩:=pl;exact⟨o,e,hd⟩
  ·apply⟨⟨o,I.kIn p o hk,hc⟩,λa e=>?_⟩
   cases e;exact⟨o,I.kIn _ o hk,hd⟩
  ·have z:∃o,s.heap.get? p=some o∧o.ExactDict:=by
    rcases hk with ⟨kvs,hk⟩ | ⟨kvs,hk⟩
    ·obtain⟨_,_,_,_,o,_,_,e,ex,_⟩:=I.hok p _ hk
     exact⟨o,e,ex⟩
    ·obtain⟨_,_,_,_,o,_,_,e,ex,_⟩:=I.hok p _ hk
     exact⟨o,e,ex⟩
   obtain⟨o,e,ex⟩:=z;apply⟨⟨o,e,ex.1⟩,λa e2=>?_⟩;cases e2;exact⟨o,e,ex.2.1⟩
  ·obtain⟨o,_,_,_,e,ex,_⟩:=I.hok p _ hk
   apply⟨⟨o,e,ex.1⟩,λa e2=>?_⟩;cases e2;exact⟨o,e,ex.2.1⟩
 | _=>exact eF ty
def tBM (K:ak)(T:String)(r:V→List V→Hp→VK→Prop)(to:TE)(t:TA):TE:=λσ H Q=>to σ H λx H1=>tyV K T x H1∧t σ H1 λxs H2=>r x xs H2 Q
variable {o:Expr}{t:TA}{id:String}{r:V→List V→Hp→VK→Prop}
theorem jQ (pa:PlainAttrs T)(slot:Slot T name id)(hty:typeOf (.builtin id)=iJ (.type "method_descriptor"))(hm:MtR X id r)(ho:PE X o to)(ha:PA X (e::es) t)
  (hbase:gN o name X.env (dn o X.env)=dn o X.env:=by rfl)
  (hfew:((gH cpos (bB (e::es) X.env)).all (fun x=>!x.1) && (backToKw cpos (kH [] X.env)).all (fun x=>x.1.isSome)
   && decide ((e::es).length+([]:List Keyword).length+(if ([]:List Keyword).isEmpty then 0 else 1)<30))=true:=by rfl)
  (hline:(apos.endLine == cpos.line)=true:=by rfl) (hs:bB (e::es) X.env=(false,dn e X.env)::bB es X.env:=by rfl) (hplain:(gH cpos (bB es X.env)).any (·.1)=false:=by rfl) :
  PE X (.Call (.Attribute o name apos) (e::es) [] cpos) (tBM X.K T r to t):=by
 intro aL s σ H Q I h;apply wpAny_Call_method_late hbase hfew hline rfl (thn (ho aL s σ H _ I h) λv s1 hz0=>?_);obtain⟨x,H1,I1,r1,ty,q1⟩:=hz0;obtain⟨h1,h2⟩:=tyV_is I1 r1 ty;apply⟨T,id,pa,slot,hty,h1,h2,?_⟩;have hA:=ha cpos aL s1 σ H1 _ I1 q1;rw[hs] at hA ⊢;apply iV (by show(false || (gH cpos (bB es X.env)).any (·.1))=false;rw[hplain] <;> rfl) (kW ?_);exact thn hA λus s2 ⟨vs,H2,I2,r2,q2⟩=>hm aL s2 σ H2 x vs v us Q I2 r1 r2 q2
end
end L2
namespace Att
open PySem PySem.W PySem.Calls PyProof.Rows
theorem qF {P:Params}{h:bP}:∀(ns:List Int) (vs:List af),WellAll P h vs (ns.map WData.int)→IntsAre vs ns:=by
 intro ns
 induction ns with
 | nil =>
  intro vs w;rw[List.map_nil] at w;cases w;exact .nil
 | cons n ns ih =>
  intro vs w;rw[bo] at w;cases w with
  | cons a b =>
   cases a;exact .cons _ _ (ih _ b)
theorem script_of {l:OpenLaw}(hn:l.most=some n){P:Params}{h:bP}{args:List WData}{vals:List af}
  (hpre:l.row.toRowW.claim.pre args=true) (hwl:WellAll P h vals args) :
  ∃a vs ns,vals=[af.ref a]∧args=[WData.list (ns.map WData.int)]∧h.get? a=some { cls:=.type "list",data:=.seq vs.toArray }∧IntsAre vs ns∧ns.length≤n:=by
 have hsh:WShape.hasAll [] args [.list .int]=true:=(pre_splitW hpre).1;have hc:l.pre.holds [] { args:=args }=true:=(pre_splitW hpre).2;obtain⟨d,r,rfl,h1,h2⟩:=hasAllW_cons hsh;obtain rfl:=hasAllW_nil h2;obtain⟨xs,rfl,h3⟩:=hasW_list h1;obtain⟨ns,rfl⟩:=items_int h3;have hlen:ns.length≤n:=by
  unfold OpenLaw.pre at hc;have h4:(WTm.not (.lt (.lit (.int (n:Int))) (.len (.arg 0)))).holds [] { args:=[.list (ns.map .int)] }=true:=by
   have h4:=(holds_andW hc).1;rw[hn] at h4;exact h4
  have h5:=condW_of h4 (w_not (w_lt w_lit (w_len_list (w_arg rfl))));rw[ae] at h5;apply Nat.le_of_not_lt λq=>?_
  have q':(n:Int)<((ns.length:Nat):Int):=by lia
  first
   | (rw[rO q'] at h5;exact rM h5 ↥0)
   | (simp at h5;lia)
 cases hwl with
 | cons w1 w2 =>
  cases w2;cases w1 with
  | list ho hall=>exact⟨_,_,ns,rfl,rfl,ho,qF ns _ hall,hlen⟩
theorem post_true (l:OpenLaw)(args:List WData):l.row.toRowW.claim.post args (.bool true) args=true:=
 postW_of (r:=l.row.toRowW) (X:=(true == true))
  (show WShape.has [] (.bool true) .bool=true by first | rfl | decide | simp[WShape.has,WShape.arms,WShape.armsAll])
  (show(WTm.eq .res (.lit (.bool true))).value [] { args:=args,res:=some (.bool true),after:=args }=some (.bool (true == true)) from w_eq_bool (w_res rfl) w_lit) rfl
theorem attach_call {l:OpenLaw}{q:aN}{XP:(Str→Option af)→bP→Prop}{d:DefRec}
  (hn:l.most=some n) (hdf:d.params.defaults=[])
  (call:∀ (w:bq) (s₀ s₁:au) (mg mb:Str→Option af) (fa:aq) (o:Obj) (pm cd doc:af) (a:aq) (vs:List af) (ns:List Int),
   Ground q loose [] XP w s₀ mg mb s₁.heap→YP w s₁.heap →
   s₁.heap.get? fa=some o→o.data= .func (docDef d.name d.params d.body d.scope pm cd doc)→s₁.heap.CodeRec cd d.name→mg d.name=some (.ref fa) →
   s₁.heap.get? a=some { cls:=.type "list",data:=.seq vs.toArray }→IntsAre vs ns→ns.length≤n→s₁.gens= #[] →
   codeAny (bC l.prog w) callerA (.call (.ref fa) ⟨[.ref a],[]⟩) (fun r s'=>r= .ok (.ret (.bool true))∧OldK s₁.heap s'.heap∧s'.os=s₁.os∧AllBare s'.gens) s₁) :
  WalkO q loose XP YP l.row.toRowW d [] (λf vs=>PySem.call f vs):=by
 intro w s₀ s₁ mg mb G Y fa o pm cd doc dV kV ho hd hcd hD hmg hg args vals as hpre hlay hrd hwl hlo;obtain rfl:dV= .none:=Dflts.none hD hdf;obtain rfl:kV= .none:=Dflts.noKw hD;obtain⟨a,vs,ns,rfl,rfl,hobj,hints,hlen⟩:=script_of hn hpre hwl;apply enter_call (jU (call w s₀ s₁ mg mb fa o pm cd doc a vs ns G Y ho (fd_plain hd) hcd hmg hobj hints hlen hg) λr s' hq=>?_);obtain⟨rfl,h2,h3,h4⟩:=hq;exact⟨.inl ⟨.bool true,.bool true,[],rfl,λ_=>rfl,.bool true,post_true l _,λ_=>⟨List.Pairwise.nil,λ_ hm=>(nomatch hm)⟩⟩,h2,h3,h4⟩
end Att
namespace L2
open PySem PySem.Spec PyProof.Rows
theorem walk_of {l:PySem.W.OpenLaw}{q:aN}{XP:(Str→Option af)→bP→Prop}{d:DefRec}{K:Params→ak}{CX:bq→CXT}{sp:bq→Sp}
  (hn:l.most=some n) (hn2:n≤ax) (hdf:d.params.defaults=[]) (hr:jI k callerA)
  (hY:∀(w:bq) (h:bP),YP w h→(K w.params).In h)
  (F:∀ (w:bq) (mg:Str→Option af) (fa:aq) (h:bP),(K w.params).In h→h.Ns bH mg→mg d.name=some (.ref fa) →
   ∃fd:aY,(∀(s:au) (u:af),BindsTo s fd ⟨[u],[]⟩ [(x,u)]) ∧
    ∀ base:bP,(K w.params).In base→base.Ns bH mg→cS l.prog w (K w.params) mg base (CX w) k fa fd [x] (sp w))
  (hsp:∀(w:bq) (H:Hp) (a:aq) (ns:List Int),ns.length≤n→Only H→SqL (K w.params) H a (ns.map V.int)→sp w [.ref a] H (λv _=>v= .bl true) λ_ _ _=>False)
  (hCX:∀(w:bq) (H:Hp) (s:au) (e:af) (s':au),CX w [] H s (λ_ _ _=>False) e s'→False) :
  PySem.W.WalkO q loose XP YP l.row.toRowW d [] (λf vs=>PySem.call f vs):=by
 apply Att.attach_call hn hdf λw s₀ s₁ mg mb fa o pm cd doc a vs ns G Y ho hd hcd hmg hobj hints hlen hg=>?_
 have KX:=hY w _ Y;obtain⟨fd,hb,hF⟩:=F w mg fa _ KX G.T.g hmg;exact law_call KX G.T.g G.T.b G.T.builtins G.T.nolimit hg hobj hints (cB hlen hn2) hr hF hb (λH hO hS=>hsp w H a ns hlen hO hS) λH e s'=>hCX w H s₁ e s'
theorem op_fdivB:OpR X (iZ .FloorDiv) (rI (λ_ j=>0<j∧j.natAbs.log2<9000) λi j=>.int (i / j)):=opI λi j _ _ _ _ _ hc q=>by
 have e:i.fdiv j=i / j:=Int.fdiv_eq_ediv_of_nonneg i (Int.le_of_lt hc.1);apply floordiv_int (by have:=hc.1;lia) ?_ (.inl (PyProof.noPylong_of_log2 hc.2));rw[e];exact q
theorem bools_of:∀{bs:List Bool} {us:List af},gZ (bs.map V.bl) us→LSm.BoolsAre us bs
 | [],_,.nil=>.nil
 | b::bs,_,.cons r t=>by
  cases(show _=af.bool b from r);exact .cons b (bools_of t)
theorem call_all (hc:X.calm=true):jn X (.builtin "all") (λxs H Q=>∃(p:aq) (bs:List Bool),xs=[.ref p]∧SqL X.K H p (bs.map V.bl)∧Q (.bl (bs.all id)) H):=by
 intro aL s σ H xs us Q I r h;obtain⟨p,bs,rfl,hq,q⟩:=h;obtain⟨u,rfl,ru⟩:=mM r;cases(show u=af.ref p from ru);obtain⟨its,rv,pl,hz⟩:=I.list hq;have hb:=bools_of rv;have hil:s.heap.IsList p its.toArray:=pl.isList;have plt:p<s.heap.objs.size:=by obtain⟨_,e,_⟩:=hil;exact aV e
 apply call_all_walk (gX hil ⟨s.heap.objs.size,[s.heap.objs.size,p],[s.heap.objs.size],its.toArray.size,_,_,fun i=>(bs[i]?).getD true,rfl,
  Walks.list (A:=X.A.in1) (I.ok.hd hc) _ p (cz plt) its.toArray,⟨⟨_,aU _ rfl,rfl,rfl⟩,hil.push _⟩,?_,?_⟩)
 ·intro i v s' Q' E' hP hT
  obtain⟨b,e,rfl⟩:=hb.get i v (by simpa using hP);simp only[e,Option.getD_some] at hT;exact fq hT
 ·intro h' tk hk
  have e2:((cI its.toArray.size).all λi=>(bs[i]?).getD true)=bs.all id:=by
   rw[aE,hb.length];exact LSm.range_all bs
  rw[e2];exact⟨.bl _,H,I.kept (LSm.kept_iter hk),rfl,q⟩
theorem op_eqL0 (hu:X.A.units<kU):OpR X (dA .Eq) (λx y H Q=>∃a b xs,x= .ref a∧y= .ref b∧SqL X.K H a xs∧SqL X.K H b []∧Q (.bl xs.isEmpty) H):=by
 intro aL s σ H x y v u Q I rx ry h;obtain⟨a,b,xs,rfl,rfl,ha,hb,q⟩:=h;cases(show v=af.ref a from rx);cases(show u=af.ref b from ry);obtain⟨its,r1,p1,_⟩:=I.list ha;obtain⟨its2,r2,p2,_⟩:=I.list hb;cases r2;cases r1 with
 | nil=>exact SeqAt.eq_listAt (e:=λ_=>true) p1.isList p2.isList rfl hu (λj h1 _=>rM h1 ∅) (fJ I q ∅)
 | cons _ _=>exact SeqAt.eq_list_lengthsAt p1.isList p2.isList ∅ hu (fJ I q ∅)
def tyn (H:Hp):V→Option String
 | .non=>some "NoneType"
 | .bl _=>some "bool"
 | .int _=>some "int"
 | .str _=>some "str"
 | .ref a=>match H a with
  | some (.lst _)=>some "list"
  | some (.tup _)=>some "tuple"
  | some (.dK _)=>some "dict"
  | _=>none
 | _=>none
theorem TyOf.byName (h:tyn H v=some T):TyOf K H v (.type T):=by
 cases v with
 | non=>cases h;exact .non
 | bl b=>cases h;exact .bl b
 | int i=>cases h;exact .int i
 | str x=>cases h;exact .str x
 | ref a =>
  simp only[tyn] at h;cases e:H a with
  | none=>rw[e] at h;cases h
  | some o =>
   rw[e] at h;cases o <;> first | (cases h;first | exact .lst e | exact .tup e | exact .dK e) | cases h
 | _=>cases h
theorem kit_tuple (K:ak)(h:T∈["NoneType","bool","int","str","list","tuple","dict"]):eM K (.type T) (.type "tuple")=some (T == "tuple"):=by
 simp only[az,bg,or_false] at h
 rcases h with rfl | rfl | rfl | rfl | rfl | rfl | rfl <;> kernel_rfl
theorem kit_int (K:ak)(h:T∈["NoneType","bool","int","str","list","tuple","dict"]):eM K (.type T) (.type "int")=some (T == "int" || T == "bool"):=by
 simp only[az,bg,or_false] at h
 rcases h with rfl | rfl | rfl | rfl | rfl | rfl | rfl <;> kernel_rfl
theorem kit_bool (K:ak)(h:T∈["NoneType","bool","int","str","list","tuple","dict"]):eM K (.type T) (.type "bool")=some (T == "bool"):=by
 simp only[az,bg,or_false] at h
 rcases h with rfl | rfl | rfl | rfl | rfl | rfl | rfl <;> kernel_rfl
theorem tyn_mem (h:tyn H v=some T):T∈["NoneType","bool","int","str","list","tuple","dict"]:=by
 cases v with
 | non=>cases h;simp
 | bl b=>cases h;simp
 | int i=>cases h;simp
 | str x=>cases h;simp
 | ref a =>
  simp only[tyn] at h;cases e:H a with
  | none=>rw[e] at h;cases h
  | some o =>
   rw[e] at h;cases o <;> first | (cases h;simp;done) | cases h
 | _=>cases h
theorem mF:jn X (.builtin "isinstance") (λxs H Q=>∃x n t b,xs=[x,.ty n]∧TyOf X.K H x t∧eM X.K t (.type n)=some b∧Q (.bl b) H):=by
 intro aL s σ H xs us Q I r h;obtain⟨x,n,t,b,rfl,ty,e,q⟩:=h;obtain⟨u,w',rfl,ru,rw'⟩:=vals2 r;cases(show w'=af.type n from rw');exact isinst_ok I ru ty e λtk=>⟨.bl b,H,I.tok tk,rfl,q⟩
theorem call_isTup:jn X (.builtin "isinstance") (λxs H Q=>∃x T,xs=[x,.ty "tuple"]∧tyn H x=some T∧Q (.bl (T == "tuple")) H):=
 λaL s σ H xs us Q I r ⟨x,T,e,hT,q⟩=>mF aL s σ H xs us Q I r ⟨x,_,_,_,e,.byName hT,kit_tuple _ (tyn_mem hT),q⟩
theorem call_isInt:jn X (.builtin "isinstance") (λxs H Q=>∃x T,xs=[x,.ty "int"]∧tyn H x=some T∧Q (.bl (T == "int" || T == "bool")) H):=
 λaL s σ H xs us Q I r ⟨x,T,e,hT,q⟩=>mF aL s σ H xs us Q I r ⟨x,_,_,_,e,.byName hT,kit_int _ (tyn_mem hT),q⟩
theorem call_isBool:jn X (.builtin "isinstance") (λxs H Q=>∃x T,xs=[x,.ty "bool"]∧tyn H x=some T∧Q (.bl (T == "bool")) H):=
 λaL s σ H xs us Q I r ⟨x,T,e,hT,q⟩=>mF aL s σ H xs us Q I r ⟨x,_,_,_,e,.byName hT,kit_bool _ (tyn_mem hT),q⟩
inductive rCatA (K:ak)(x:V)(y:V)(H:Hp)(Q:VK):Prop
 | mk (a b xs ys:_)(_:x= .ref a)(_:y= .ref b)(_:H a=some (.tup xs))(_:H b=some (.tup ys))(_:xs.length+ys.length≤ax)(_:∀p H',cg H H'→H' p=some (.tup (xs++ys))→Q (.ref p) H')
theorem op_catA:OpR X (iZ .Add) (rCatA X.K):=by
 intro aL s σ H x y v u Q I rx ry h;obtain⟨a,b,xs,ys,rfl,rfl,ha,hb,hz,q⟩:=h;cases xs with
 | cons x xs =>
  apply op_catT aL s σ H (.ref a) (.ref b) v u Q I rx ry ⟨a,b,_,ys,rfl,rfl,zT ha,zT hb,∅,hz,λe=>?_,λ_ p hp=>?_⟩
  ·subst e
   exact q a H (cg.refl H) (by rw[bY];exact ha)
  ·exact q p _ (λc o e=>by rw[bf (aZ e hp)];exact e) aP
 | nil =>
  cases(show v=af.ref a from rx);cases(show u=af.ref b from ry);obtain⟨its,r1,p1,_⟩:=I.tuple (zT (K:=X.K) ha);obtain⟨its2,r2,p2,_⟩:=I.tuple (zT (K:=X.K) hb);cases r1;obtain⟨⟨c1,d1,t1,l1⟩,o1,k1,n1,g1⟩:=id p1;obtain⟨⟨c2,d2,t2,l2⟩,o2,k2,n2,g2⟩:=id p2;simp only at k1 g1 k2 g2;subst k1 g1 k2 g2;exact concat_meets ⟨_,o1,rfl⟩ ⟨_,o2,rfl⟩ noFill_tuple_add seq_tuple_add PySem.F.slot_tuple_add mH (mn _ _)
   (tuple_addW0 a b _ its2.toArray n1 n2 d1 d2 l1 l2 ∅) ⟨o1,o2,⟨.ref b,H,I,rfl,q b H (cg.refl H) hb⟩⟩
theorem PE.imp {t t':TE}(h:PE X e t)(i:∀σ H Q,t' σ H Q→t σ H Q):PE X e t':=λaL s σ H Q I q=>h aL s σ H Q I (i σ H Q q)
theorem OpR.imp {f:af→af→Sem af}{r r':R2}(h:OpR X f r)(i:∀x y H Q,r' x y H Q→r x y H Q):OpR X f r':=λaL s σ H x y v u Q I rx ry q=>h aL s σ H x y v u Q I rx ry (i x y H Q q)
theorem jn.imp {f:af}{r r':List V→Hp→VK→Prop}(h:jn X f r)(i:∀xs H Q,r' xs H Q→r xs H Q):jn X f r':=λaL s σ H xs us Q I rv q=>h aL s σ H xs us Q I rv (i xs H Q q)
theorem SlR.imp {r:V→Option Int→Option Int→Hp→VK→Prop}(h:SlR X r)(i:∀x lo hi H Q,r' x lo hi H Q→r x lo hi H Q):SlR X r':=λaL s σ H x v vl vu lo hi sl Q I rx hs pl pu q=>h aL s σ H x v vl vu lo hi sl Q I rx hs pl pu (i x lo hi H Q q)
def tACut (t:TA):TA:=λσ H R=>∃R':List V→Hp→Prop,(∀xs H,R' xs H→R xs H)∧t σ H R'
theorem PA.cut {t:TA}(h:PA X es t):PA X es (tACut t):=λpos aL s σ H Q I ⟨R',i,q⟩ =>
 thn (h pos aL s σ H R' I q) λus s' ⟨vs,H',I',rv,q'⟩=>⟨vs,H',I',rv,i _ _ q'⟩
def New (H:Hp)(o:HO)(Q:VK):Prop:=∀p H',cg H H'→H' p=some o→Q (.ref p) H'
theorem New.of {Q:VK}(h:New H o Q):∀p,H p=none→Q (.ref p) (upd H p o):=λp hp=>h p _ (cg.put (cg.refl H) hp) aP
def tTupA (t:TA):TE:=λσ H Q=>t σ H λxs H1=>xs.length≤ax∧New H1 (.tup xs) Q
def tLstA (t:TA):TE:=λσ H Q=>t σ H λxs H1=>xs.length≤ax∧New H1 (.lst xs) Q
theorem fY {t:TA}{x1}(h:PA X es t):PE X (.Tuple es x1 pos) (tTupA t):=(pe_tup h.cut).imp λ_ _ _ q=>⟨_,λ_ _ z=>⟨z.1,z.2.of⟩,q⟩
theorem gM {t:TA}(h:PA X es t):PE X (.List es pos) (tLstA t):=(kL h.cut).imp λ_ _ _ q=>⟨_,λ_ _ z=>⟨z.1,z.2.of⟩,q⟩
theorem nU:SlR X (λx lo hi H Q=>∃a xs,x= .ref a∧SqT X.K H a xs∧¬(HT.sIx xs.length 0 lo=0∧HT.sIx xs.length xs.length hi=xs.length)∧New H (.tup (cutV xs lo hi)) Q):=
 sl_tup.imp λ_ _ _ _ _ ⟨a,xs,e,h,n,q⟩=>⟨a,xs,e,h,n,q.of⟩
theorem call_listA:jn X (.type "list") (λxs H Q=>∃p ys,xs=[.ref p]∧(SqL X.K H p ys∨SqT X.K H p ys)∧New H (.lst ys) Q):=
 pS.imp λ_ _ _ ⟨p,ys,e,h,q⟩=>⟨p,ys,e,h,q.of⟩
theorem ip:OpR X (iZ .Add) (λx y H Q=>∃l b xs zs,x= .ref l∧y= .ref b∧H l=some (.lst xs)∧H b=some (.lst zs)∧xs.length+zs.length≤ax∧New H (.lst (xs++zs)) Q):=
 op_cat.imp λ_ _ _ _ ⟨l,b,xs,zs,e1,e2,e3,e4,e5,q⟩=>⟨l,b,xs,zs,e1,e2,e3,e4,e5,q.of⟩
inductive Dt where
 | non | bl (b:Bool) | int (i:Int) | str (x:Str) | tup (ds:List Dt) | oth (T:String)
mutual
inductive IsD (H:Hp):V→Dt→Prop where
 | non:IsD H .non .non
 | bl (b:Bool):IsD H (.bl b) (.bl b)
 | int (i:Int):IsD H (.int i) (.int i)
 | str (x:Str):IsD H (.str x) (.str x)
 | tup {a:aq} {xs:List V} {ds:List Dt} (h:H a=some (.tup xs)) (r:jc H xs ds):IsD H (.ref a) (.tup ds)
 | lst {a:aq} {xs:List V} (h:H a=some (.lst xs)):IsD H (.ref a) (.oth "list")
 | dct {a:aq} {kvs:List (Key×V)} (h:H a=some (.dK kvs)):IsD H (.ref a) (.oth "dict")
inductive jc (H:Hp):List V→List Dt→Prop where
 | nil:jc H [] []
 | cons {x:V} {d:Dt} {xs:List V} {ds:List Dt} (h:IsD H x d) (r:jc H xs ds):jc H (x::xs) (d::ds)
end
mutual
theorem IsD.same {H H':Hp}(e:cg H H'):∀{v:V} {d:Dt},IsD H v d→IsD H' v d
 | _,_,.non=>.non
 | _,_,.bl b=>.bl b
 | _,_,.int i=>.int i
 | _,_,.str x=>.str x
 | _,_,.tup h r=>.tup (e _ _ h) (jc.same e r)
 | _,_,.lst h=>.lst (e _ _ h)
 | _,_,.dct h=>.dct (e _ _ h)
theorem jc.same {H H':Hp}(e:cg H H'):∀{vs:List V} {ds:List Dt},jc H vs ds→jc H' vs ds
 | _,_,.nil=>.nil
 | _,_,.cons h r=>.cons (IsD.same e h) (jc.same e r)
end
theorem IsD.injs:∀n:Nat,(∀(v:V) (d e:Dt),sizeOf d≤n→IsD H v d→IsD H v e→d=e)∧(∀(vs:List V) (ds es:List Dt),sizeOf ds≤n→jc H vs ds→jc H vs es→ds=es):=by
 intro n
 induction n with
 | zero =>
  apply⟨λv d e h=>?_,λvs ds es h=>?_⟩
  ·cases d <;> simp at h
  ·cases ds <;> simp at h
 | succ n ih =>
  apply⟨λv d e hn h k=>?_,λvs ds es hn h k=>?_⟩
  ·cases h with
   | non=>cases k;rfl
   | bl b=>cases k;rfl
   | int i=>cases k;rfl
   | str x=>cases k;rfl
   | tup h r =>
    cases k with
    | tup h' r'=>rw[h] at h';cases h';rw[ih.2 _ _ _ (by simp at hn;lia) r r']
    | lst h'=>rw[h] at h';cases h'
    | dct h'=>rw[h] at h';cases h'
   | lst h =>
    cases k with
    | tup h' r'=>rw[h] at h';cases h'
    | lst h'=>rfl
    | dct h'=>rw[h] at h';cases h'
   | dct h =>
    cases k with
    | tup h' r'=>rw[h] at h';cases h'
    | lst h'=>rw[h] at h';cases h'
    | dct h'=>rfl
  ·cases h with
   | nil=>cases k;rfl
   | cons h r =>
    cases k with
    | cons h' r'=>rw[ih.1 _ _ _ (by simp at hn;lia) h h',ih.2 _ _ _ (by simp at hn;lia) r r']
theorem IsD.inj {d e:Dt}(h:IsD H v d)(k:IsD H v e):d=e:=(IsD.injs _).1 v d e (aA _) h k
theorem jc.inj {vs:List V}{ds es:List Dt}(h:jc H vs ds)(k:jc H vs es):ds=es:=(IsD.injs _).2 vs ds es (aA _) h k
theorem jc.length:∀{xs:List V} {ds:List Dt},jc H xs ds→xs.length=ds.length
 | _,_,.nil=>rfl
 | _,_,.cons _ r=>by rw[aG,aG,jc.length r]
theorem jc.at:∀{xs:List V} {ds:List Dt} {i:Nat} {d:Dt},jc H xs ds→ds[i]? =some d→∃x,xs[i]? =some x∧IsD H x d
 | _,_,_,_,.nil,e=>by simp at e
 | _,_,0,_,.cons h _,e=>by simp at e;subst e;exact⟨ρ,h⟩
 | _,_,i+1,d,.cons _ r,e=>by
  obtain⟨x,h1,h2⟩:=jc.at (i:=i) (d:=d) r (by simpa using e);exact⟨x,by simpa using h1,h2⟩
theorem jc.append:∀{xs ys:List V} {ds es:List Dt},jc H xs ds→jc H ys es→jc H (xs++ys) (ds++es)
 | _,_,_,_,.nil,s=>s
 | _,_,_,_,.cons h r,s=>.cons h (jc.append r s)
theorem jc.one {x:V}{d:Dt}(h:IsD H x d):jc H [x] [d]:=.cons h .nil
theorem jc.ints:∀(ns:List Int),jc H (ns.map V.int) (ns.map Dt.int)
 | []=>.nil
 | n::r=>.cons (.int n) (jc.ints r)
theorem jc.ints_of:∀{xs:List V} {ns:List Int},jc H xs (ns.map Dt.int)→xs=ns.map V.int
 | _,[],.nil=>rfl
 | _,n::r,.cons h q=>by cases h;rw[jc.ints_of q];rfl
theorem IsD.tup_of {ds:List Dt}(h:IsD H v (.tup ds)):∃a xs,v= .ref a∧H a=some (.tup xs)∧jc H xs ds:=by
 cases h with
 | tup h r=>exact⟨_,ρ,h,r⟩
mutual
def eqD:Dt→Dt→Bool
 | .non,.non=>true
 | .bl a,.bl b=>a == b
 | .bl a,.int b=>(if a then 1 else 0) == b
 | .int a,.bl b=>a == (if b then 1 else 0)
 | .int a,.int b=>a == b
 | .str a,.str b=>a == b
 | .tup xs,.tup ys=>eqDs xs ys
 | _,_=>false
def eqDs:List Dt→List Dt→Bool
 | [],[]=>true
 | x::xs,y::ys=>eqD x y && eqDs xs ys
 | _,_=>false
end
mutual
def pl:Dt→Bool
 | .oth _=>false
 | .tup ds=>pls ds
 | _=>true
def pls:List Dt→Bool
 | []=>true
 | d::ds=>pl d && pls ds
end
mutual
def dep:Dt→Nat
 | .tup ds=>deps ds+1
 | _=>0
def deps:List Dt→Nat
 | []=>0
 | d::ds=>max (dep d) (deps ds)
end
mutual
theorem eqD_refl:∀d:Dt,pl d=true→eqD d d=true
 | .non,_=>by unfold eqD;rfl
 | .bl b,_=>by unfold eqD;exact beq_self_eq_true b
 | .int i,_=>by unfold eqD;exact beq_self_eq_true i
 | .str x,_=>by unfold eqD;exact beq_self_eq_true x
 | .tup ds,h=>by
  unfold eqD;unfold pl at h;exact qM ds h
 | .oth T,h=>by unfold pl at h;cases h
theorem qM:∀ds:List Dt,pls ds=true→eqDs ds ds=true
 | [],_=>by unfold eqDs;rfl
 | d::ds,h=>by
  unfold eqDs;unfold pls at h;rw[bW] at h;rw[eqD_refl d h.1,qM ds h.2];rfl
end
theorem eqD_tup (xs ys:List Dt):eqD (.tup xs) (.tup ys)=eqDs xs ys:=by unfold eqD;rfl
theorem eqDs_all:∀(ds es:List Dt),eqDs ds es=((cI (min ds.length es.length)).all (λj=>eqD (ds.getD j .non) (es.getD j .non)) && ds.length == es.length)
 | [],[]=>by unfold eqDs;rfl
 | [],e::es=>by unfold eqDs;simp
 | d::ds,[]=>by unfold eqDs;simp
 | d::ds,e::es=>by
  unfold eqDs;rw[eqDs_all ds es];rw[aG,aG];have h1:min (ds.length+1) (es.length+1)=min ds.length es.length+1:=by lia
  rw[h1,List.range_succ_eq_map,List.all_cons,List.all_map];have h2:((ds.length+1) == (es.length+1))=(ds.length == es.length):=by rw[lF];simp
  rw[h2,Bool.and_assoc];rfl
theorem qv:∀{ds:List Dt} {i:Nat} {d:Dt},pls ds=true→ds[i]? =some d→pl d=true
 | [],_,_,_,e=>by simp at e
 | d::ds,0,_,h,e=>by
  unfold pls at h;rw[bW] at h;simp at e;subst e;exact h.1
 | d::ds,i+1,x,h,e=>by
  unfold pls at h;rw[bW] at h;exact qv (i:=i) h.2 (by simpa using e)
theorem deps_get:∀{ds:List Dt} {i:Nat} {d:Dt},ds[i]? =some d→dep d≤deps ds
 | [],_,_,e=>by simp at e
 | d::ds,0,_,e=>by
  simp at e;subst e;unfold deps;exact Nat.le_max_left _ _
 | d::ds,i+1,x,e=>by
  have:=deps_get (ds:=ds) (i:=i) (d:=x) (by simpa using e);unfold deps;exact cB this (Nat.le_max_right _ _)
theorem Inv.tupD {ds:List Dt}(I:Inv X aL σ H s)(h:IsD H v (.tup ds))(r:iY v u):∃a its,u= .ref a∧v= .ref a∧s.heap.IsTuple a its.toArray∧∃xs,gZ xs its∧jc H xs ds∧its.length=ds.length:=by
 obtain⟨a,xs,rfl,ha,hd⟩:=h.tup_of;cases(show u=af.ref a from r);obtain⟨its,rv,p,_⟩:=I.tuple (zT (K:=X.K) ha);exact⟨a,its,rfl,rfl,p,xs,rv,hd,by rw[←rv.length,hd.length]⟩
theorem eqAt_D:∀(n:Nat) {A:cp} {x y:V} {u v:af} {d e:Dt},dep d≤n→A.units+n<kU→Inv X aL σ H s→IsD H x d→IsD H y e→iY x u→iY y v→pl d=true→pl e=true→SeqAt.EqAt A s u v (eqD d e):=by
 intro n
 induction n with
 | zero =>
  intro A x y u v d e hd hu I ix iy rx ry px py;cases ix with
  | tup h r=>unfold dep at hd;lia
  | lst h=>unfold pl at px;cases px
  | dct h=>unfold pl at px;cases px
  | non =>
   cases iy with
   | tup h' r' =>
    obtain⟨a,its,rfl,_,hb,_⟩:=I.tupD (.tup h' r') ry;cases rx;exact SeqAt.EqAt.none_tuple hb ⋯
   | lst h'=>unfold pl at py;cases py
   | dct h'=>unfold pl at py;cases py
   | non=>exact kC rx ry rfl rfl
   | bl b=>exact kC rx ry rfl rfl
   | int b=>exact kC rx ry rfl rfl
   | str b=>exact kC rx ry rfl rfl
  | bl b =>
   cases iy with
   | tup h' r' =>
    obtain⟨a,its,rfl,_,hb,_⟩:=I.tupD (.tup h' r') ry;cases rx;exact SeqAt.EqAt.bool_tuple b hb ⋯
   | lst h'=>unfold pl at py;cases py
   | dct h'=>unfold pl at py;cases py
   | non=>exact kC rx ry rfl rfl
   | bl b=>exact kC rx ry rfl rfl
   | int b=>exact kC rx ry rfl rfl
   | str b=>exact kC rx ry rfl rfl
  | int i =>
   cases iy with
   | tup h' r' =>
    obtain⟨a,its,rfl,_,hb,_⟩:=I.tupD (.tup h' r') ry;obtain⟨t,rfl⟩:=rx;exact SeqAt.EqAt.int_tuple i t hb ⋯
   | lst h'=>unfold pl at py;cases py
   | dct h'=>unfold pl at py;cases py
   | non=>exact kC rx ry rfl rfl
   | bl b=>exact kC rx ry rfl rfl
   | int b=>exact kC rx ry rfl rfl
   | str b=>exact kC rx ry rfl rfl
  | str z =>
   cases iy with
   | tup h' r' =>
    obtain⟨a,its,rfl,_,hb,_⟩:=I.tupD (.tup h' r') ry;obtain⟨t,rfl⟩:=rx;exact SeqAt.EqAt.str_tuple z t hb ⋯
   | lst h'=>unfold pl at py;cases py
   | dct h'=>unfold pl at py;cases py
   | non=>exact kC rx ry rfl rfl
   | bl b=>exact kC rx ry rfl rfl
   | int b=>exact kC rx ry rfl rfl
   | str b=>exact kC rx ry rfl rfl
 | succ n ih =>
  intro A x y u v d e hd hu I ix iy rx ry px py
  by_cases hz:dep d=0
  ·
   cases ix with
   | tup h r=>unfold dep at hz;lia
   | lst h=>unfold pl at px;cases px
   | dct h=>unfold pl at px;cases px
   | non=>exact ih (by rw[hz];exact cR _) ⋯ I .non iy rx ry px py
   | bl b=>exact ih (by rw[hz];exact cR _) ⋯ I (.bl b) iy rx ry px py
   | int i=>exact ih (by rw[hz];exact cR _) ⋯ I (.int i) iy rx ry px py
   | str z=>exact ih (by rw[hz];exact cR _) ⋯ I (.str z) iy rx ry px py
  ·cases ix with
   | lst h=>unfold pl at px;cases px
   | dct h=>unfold pl at px;cases px
   | non=>exact rM (by unfold dep;rfl) hz
   | bl b=>exact rM (by unfold dep;rfl) hz
   | int i=>exact rM (by unfold dep;rfl) hz
   | str z=>exact rM (by unfold dep;rfl) hz
   | tup h r =>
    rename_i a xs ds;cases(show u=af.ref a from rx);obtain⟨its,rv,p,_⟩:=I.tuple (zT (K:=X.K) h);have p:s.heap.IsTuple a its.toArray:=p;cases iy with
    | lst h'=>unfold pl at py;cases py
    | dct h'=>unfold pl at py;cases py
    | non=>cases ry;exact SeqAt.EqAt.tuple_none p ⋯
    | bl b=>cases ry;exact SeqAt.EqAt.tuple_bool b p ⋯
    | int b=>obtain⟨t,rfl⟩:=ry;exact SeqAt.EqAt.tuple_int b t p ⋯
    | str b=>obtain⟨t,rfl⟩:=ry;exact SeqAt.EqAt.tuple_str b t p ⋯
    | tup h' r' =>
     rename_i b ys es;cases(show v=af.ref b from ry)
     by_cases hab:a=b
     ·subst hab
      have e1:Dt.tup ds=Dt.tup es:=IsD.inj (.tup h r) (.tup h' r');rw[e1];rw[eqD_refl _ py];exact SeqAt.EqAt.same _
     ·obtain⟨its2,rv2,p2,_⟩:=I.tuple (zT (K:=X.K) h')
      have p2:s.heap.IsTuple b its2.toArray:=p2;have l1:its.length=ds.length:=by rw[←rv.length,r.length]
      have l2:its2.length=es.length:=by rw[←rv2.length,r'.length]
      have pd:pls ds=true:=by unfold pl at px;exact px
      have pe:pls es=true:=by unfold pl at py;exact py
      have hd':deps ds≤n:=by unfold dep at hd;lia
      have key:=SeqAt.RcAt.tuples (A:=A) (e:=λj=>eqD (ds.getD j .non) (es.getD j .non)) p p2 ⋯ λj h1 h2=>by
       have h1':j<its.length:=by simpa using h1
       have h2':j<its2.length:=by simpa using h2
       obtain⟨x',ex,dx⟩:=r.at (i:=j) (d:=ds[j]'⋯) (gE ⋯);obtain⟨y',ey,dy⟩:=r'.at (i:=j) (d:=es[j]'⋯) (gE ⋯);obtain⟨u',eu,ru⟩:=rv.get ex;obtain⟨v',ev,rw'⟩:=rv2.get ey;have eu':its[j]=u':=by rw[gE h1'] at eu;exact bF eu
       have ev':its2[j]=v':=by rw[gE h2'] at ev;exact bF ev
       have g1:ds.getD j .non=ds[j]'⋯:=by rw[br,gE ⋯];rfl
       have g2:es.getD j .non=es[j]'⋯:=by rw[br,gE ⋯];rfl
       show SeqAt.EqAt A.in1 s (its.toArray[j]) (its2.toArray[j]) (eqD (ds.getD j .non) (es.getD j .non));rw[iB,iB,eu',ev',g1,g2];exact ih (cB (deps_get (gE ⋯)) hd') (by show A.units+1+n<kU;lia) I dx dy ru rw' (qv pd (gE ⋯)) (qv pe (gE ⋯))
      have e2:eqD (.tup ds) (.tup es)=((cI (min its.toArray.size its2.toArray.size)).all (λj=>eqD (ds.getD j .non) (es.getD j .non)) && its.toArray.size == its2.toArray.size):=by
       rw[eqD_tup,eqDs_all,aE,aE,l1,l2]
      rw[e2];exact SeqAt.EqAt.of_refs hab key
theorem op_eqD (hu:X.A.units+64<kU):OpR X (dA .Eq) (λx y H Q=>∃ds es,IsD H x (.tup ds)∧IsD H y (.tup es)∧pls ds=true∧pls es=true∧deps ds<60∧Q (.bl (eqDs ds es)) H):=by
 intro aL s σ H x y v u Q I rx ry h;obtain⟨ds,es,ix,iy,pd,pe,hd,q⟩:=h;obtain⟨a,xs,rfl,ha,r⟩:=ix.tup_of;obtain⟨b,ys,rfl,hb,r'⟩:=iy.tup_of;cases(show v=af.ref a from rx);cases(show u=af.ref b from ry);obtain⟨its,rv,p,_⟩:=I.tuple (zT (K:=X.K) ha);obtain⟨its2,rv2,p2,_⟩:=I.tuple (zT (K:=X.K) hb);have p:s.heap.IsTuple a its.toArray:=p;have p2:s.heap.IsTuple b its2.toArray:=p2;have l1:its.length=ds.length:=by rw[←rv.length,r.length]
 have l2:its2.length=es.length:=by rw[←rv2.length,r'.length]
 apply SeqAt.eq_tupleAt (e:=λj=>eqD (ds.getD j .non) (es.getD j .non)) p p2 ⋯ (λj h1 h2=>?_) (fJ I q ?_)
 ·have h1':j<its.length:=by simpa using h1
  have h2':j<its2.length:=by simpa using h2
  obtain⟨x',ex,dx⟩:=r.at (i:=j) (d:=ds[j]'⋯) (gE ⋯);obtain⟨y',ey,dy⟩:=r'.at (i:=j) (d:=es[j]'⋯) (gE ⋯);obtain⟨u',eu,ru⟩:=rv.get ex;obtain⟨v',ev,rw'⟩:=rv2.get ey;have eu':its[j]=u':=by rw[gE h1'] at eu;exact bF eu
  have ev':its2[j]=v':=by rw[gE h2'] at ev;exact bF ev
  have g1:ds.getD j .non=ds[j]'⋯:=by rw[br,gE ⋯];rfl
  have g2:es.getD j .non=es[j]'⋯:=by rw[br,gE ⋯];rfl
  show SeqAt.EqAt X.A.in1 s (its.toArray[j]) (its2.toArray[j]) (eqD (ds.getD j .non) (es.getD j .non));rw[iB,iB,eu',ev',g1,g2];exact eqAt_D 60 (cB (deps_get (gE ⋯)) ⋯) (by show X.A.units+1+60<kU;lia) I dx dy ru rw' (qv pd (gE ⋯)) (qv pe (gE ⋯))
 ·rw[eqDs_all,aE,aE,l1,l2]
end L2
variable {ds:List L2.Dt}
namespace L2
open PySem PySem.Spec PyProof.Rows
theorem strs_are:∀{zs:List Str} {us:List af},gZ (zs.map V.str) us→StrsAre us zs
 | [],_,.nil=>.nil
 | z::zs,_,.cons r t=>by
  obtain⟨tk,rfl⟩:=(show ∃t,_=af.str z t from r);exact .cons z tk (strs_are t)
theorem vals_strs:∀(l:List (Str×Tok)),gZ ((l.map (·.1)).map V.str) (strValues l)
 | []=>.nil
 | p::r=>.cons ⟨p.2,rfl⟩ (vals_strs r)
theorem mt_join:MtM X "str.join" (λx vs H Q=>∃z p zs,x= .str z∧vs=[.ref p]∧SqL X.K H p (zs.map V.str)∧z.length≤16∧(zs.map (·.length)).sum+zs.length≤1048576∧Q (.str (jB z zs)) H):=by
 intro aL s σ H x vs v us Q I rx rv h;obtain⟨z,p,zs,rfl,rfl,hq,hz,hw,q⟩:=h;obtain⟨t,rfl⟩:=(show ∃t,v=af.str z t from rx);obtain⟨u,rfl,ru⟩:=rv.one;cases(show u=af.ref p from ru);obtain⟨its,r,pl,_⟩:=I.list hq;exact join_listW pl.isList (by simpa using strs_are r) hz hw λt' k=>⟨.str _,H,I.tok k,⟨t',rfl⟩,q⟩
theorem split_run {y:Str}{t u:Tok}(hy:(y.length == 0)=false)(hsz:x.length+2≤ax)
  (h:∀(l:List (Str×Tok)) (tk:Nat),l.map (·.1)=c8 x y→Q (.ref s.heap.objs.size) { s with heap:=s.heap.push { cls:=.type "list",data:=.seq (strValues l).toArray },toks:=tk }) :
  bc (bC prog w) A (call (.builtin "str.split") [.str x t,.str y u]) Q E s:=by
 have few:(ig x (cO x y 0 x.length (x.length+1)) y.length).length≤ax:=by
  have:=StrLaws.occ_length_le x y 0 x.length (x.length+1);rw[length_partsBetween];lia
 by_cases c1:(decide (x.length<y.length) || decide (eN.Str.strKind x<eN.Str.strKind y))=true
 ·apply lI F.slot_str_split (typeIs_str _ _ _) F.entry_str_split (F.args_str_split_2 _ _) (meets_str_split_cannot_occur x y t u c1) ?_
  apply h [(x,t)] s.toks ?_;unfold c8;rw[rL c1];rfl
 ·have c1':=gn.mpr c1
  by_cases c2:(cO x y 0 x.length (x.length+1)).isEmpty=true
  ·apply lI F.slot_str_split (typeIs_str _ _ _) F.entry_str_split (F.args_str_split_2 _ _) (meets_str_split_not_found x y t u c1' hy c2) ?_
   apply h [(x,t)] s.toks ?_;unfold c8;rw[rK c1,rL c2];rfl
  ·apply lI F.slot_str_split (typeIs_str _ _ _) F.entry_str_split (F.args_str_split_2 _ _) (meets_str_split_sep x y t u c1' hy (gn.mpr c2) ⋯ few) ?_
   have e:=strsFrom_eq s.toks (ig x (cO x y 0 x.length (x.length+1)) y.length);have k:=h (numbered s.toks (ig x (cO x y 0 x.length (x.length+1)) y.length)) (s.toks+(ig x (cO x y 0 x.length (x.length+1)) y.length).length) (by
    rw[numbered_texts];unfold c8;rw[rK c1,rK c2])
   rw[←e] at k;exact k
theorem mt_split:MtM X "str.split" (λx vs H Q=>∃z y,x= .str z∧vs=[.str y]∧(y.length == 0)=false∧z.length+2≤ax∧New H (.lst ((c8 z y).map V.str)) Q):=by
 intro aL s σ H x vs v us Q I rx rv h;obtain⟨z,y,rfl,rfl,hy,hz,q⟩:=h;obtain⟨t,rfl⟩:=(show ∃t,v=af.str z t from rx);obtain⟨u,rfl,ru⟩:=rv.one;obtain⟨t',rfl⟩:=(show ∃t,u=af.str y t from ru);apply split_run hy hz λl tk e=>?_
 have hw:((c8 z y).map (·.length)).sum+(c8 z y).length≤z.length+1:=split_weight z y (by
  have:y.length≠0:=λh0=>by rw[h0] at hy;cases hy
  lia)
 apply⟨.ref s.heap.objs.size,_,I.laid (t':=tk) (o:=.lst ((c8 z y).map V.str)) (λ_ _ k=>ar _ k) (aA _) ⟨?_,strValues l,0,?_,aU _ rfl⟩,rfl,q _ _ (cg.put (cg.refl H) I.fresh) aP⟩
 ·rw[ae];lia
 ·rw[←e];exact vals_strs l
theorem jV:jn X (.type "tuple") (λxs H Q=>∃p ys,xs=[.ref p]∧SqL X.K H p ys∧New H (.tup ys) Q):=
 call_tuple_of.imp λ_ _ _ ⟨p,ys,e,h,q⟩=>⟨p,ys,e,.inl ⟨h,q.of⟩⟩
theorem gc:SlR X (λx lo hi H Q=>∃a xs,x= .ref a∧SqL X.K H a xs∧New H (.lst (cutV xs lo hi)) Q):=
 sl_list.imp λ_ _ _ _ _ ⟨a,xs,e,h,q⟩=>⟨a,xs,e,h,q.of⟩
def Its (z:Str):It:=⟨λi _=>i<z.cps.size,λi H x H'=>H'=H∧∃c,z.cps[i]? =some c∧x= .str ⟨#[c]⟩,λi _=>z.cps.size≤i⟩
theorem turn_str (it:aq)(x:Str)(t:Tok){ty:String}(hty:ty = "str_ascii_iterator" ∨ty = "str_iterator"):Turn P w K tg (Its x) [it] it (λi h=>h.IsStrIter it ty x t i) where
 mem:=by simp
 obj:=λi h st b hb=>by
  have e:b=it:=by simpa using hb
  subst e;obtain⟨o,e,c,d⟩:=st;exact⟨o,e,λv z=>by rw[d] at z;cases z⟩
 keep:=λi h h' st k=>by
  obtain⟨o,e,r⟩:=st;exact⟨o,k it ∅ o e,r⟩
 item:=by
  intro Y hP hw hK hc i aL s σ H E I hf st hg;subst hP hw hK;obtain⟨f0,f1,f2,f3,f4,f5⟩:=hf it ∅;have hi:i<x.cps.size:=hg;have key:∀h',h'.IsStrIter it ty x t (i+1)→cQ it s.heap h'→∃u,(some (af.str ⟨#[x.cps[i]]⟩ s.toks))=some u ∧
    bc (bC Y.prog Y.w) Y.A (md tg (.ref it) u) (λ_ s2=>∃x' H',Inv Y aL σ H' s2∧iY x' u∧(Its x).yld i H x' H'∧s2.heap.IsStrIter it ty x t (i+1)∧∀b∈[it],H' b=none) E { s with heap:=h',toks:=s.toks+1 }:=λh' st' sb=>by
   have I1:Inv Y aL σ H { s with heap:=h',toks:=s.toks+1 }:=I.turned (λb o hb e=>(sb.2 b hb).trans e) f0 f1 f3 f4 f5;obtain⟨o,e,c,d⟩:=id st';apply⟨ρ,go_of (s:={ s with heap:=h',toks:=s.toks+1 }) e c d ?_ ⟨.str ⟨#[x.cps[i]]⟩,H,I1,⟨_,rfl⟩,⟨rfl,_,by simp[hi],rfl⟩,st',λb hb=>(hf b hb).1⟩⟩
   rcases hty with rfl | rfl <;> decide
  rcases hty with rfl | rfl
  ·exact wpAny_pyNext_ascii_item st (c:=x.cps[i]) (by simp[hi]) λh' st' sb=>key h' st' sb
  ·exact wpAny_pyNext_wide_item st (c:=x.cps[i]) (by simp[hi]) λh' st' sb=>key h' st' sb
 done:=by
  intro Y hP hw hK hc i aL s σ H E I hf st hg;subst hP hw hK;obtain⟨f0,f1,f2,f3,f4,f5⟩:=hf it ∅;have hi:x.cps.size≤i:=hg
  rcases hty with rfl | rfl
  ·exact wpAny_pyNext_ascii_end (I.ok.hd hc) st (by simp;lia) λh' eb=>⟨rfl,I.turned (t':=s.toks) (λb o hb e=>eb b o hb e) f0 f1 f3 f4 f5⟩
  ·exact wpAny_pyNext_wide_end (I.ok.hd hc) st (by simp;lia) λh' eb=>⟨rfl,I.turned (t':=s.toks) (λb o hb e=>eb b o hb e) f0 f1 f3 f4 f5⟩
 self:=λA i s Q E st h=>by
  rcases hty with rfl | rfl
  ·exact wpAny_pyIter_striter_ascii st h
  ·exact wpAny_pyIter_striter_wide st h
def iStr (tl:TE):TI:=λσ H R=>tl σ H λx H1=>∃z,x= .str z∧R (Its z) H1
theorem pi_str {l:Expr}{tl:TE}(hl:PE X l tl):PI X tg l (iStr tl):=by
 intro aL s σ H R I h;apply thn (hl aL s σ H _ I h) λv s1 hz0=>?_
 obtain⟨x,H1,I1,r1,q1⟩:=hz0;obtain⟨z,rfl,q⟩:=q1;obtain⟨t,rfl⟩:=(show ∃t,v=af.str z t from r1);have fin:∀b∈[s1.heap.objs.size],FpOk X aL H1 b:=λb hb=>by
  have e:b=s1.heap.objs.size:=by simpa using hb
  subst e;exact I1.fpOk (aA _) I1.fresh
 cases ha:z.cps.all (· < 128) with
 | true=>exact wpAny_pyIter_ascii ha ⟨s1.heap.objs.size,[s1.heap.objs.size],_,_,H1,rfl,I1.kept (t':=s1.toks) λb o e=>ar _ e,turn_str _ z t (.inl rfl),⟨_,aU _ rfl,rfl,rfl⟩,fin,q⟩
 | false=>exact wpAny_pyIter_wide ha ⟨s1.heap.objs.size,[s1.heap.objs.size],_,_,H1,rfl,I1.kept (t':=s1.toks) λb o e=>ar _ e,turn_str _ z t (.inr rfl),⟨_,aU _ rfl,rfl,rfl⟩,fin,q⟩
theorem kit_str (K:ak)(h:T∈["NoneType","bool","int","str","list","tuple","dict"]):eM K (.type T) (.type "str")=some (T == "str"):=by
 simp only[az,bg,or_false] at h
 rcases h with rfl | rfl | rfl | rfl | rfl | rfl | rfl <;> kernel_rfl
theorem call_isStr:jn X (.builtin "isinstance") (λxs H Q=>∃x T,xs=[x,.ty "str"]∧tyn H x=some T∧Q (.bl (T == "str")) H):=
 λaL s σ H xs us Q I r ⟨x,T,e,hT,q⟩=>mF aL s σ H xs us Q I r ⟨x,_,_,_,e,.byName hT,kit_str _ (tyn_mem hT),q⟩
theorem ic {Q:VK}(Pv:Nat→List V→Hp→Prop)(h0:Pv 0 [] H)(hl:∀i ys H,i≤xs.length→Pv i ys H→SqL K H a xs∧ys.length≤i)(hz:xs.length≤ax)
  (hs:∀i x ys H,xs[i]? =some x→Pv i ys H→tt (some x::hZ σ js) H λb H4=>if b=true then te (some x::hZ σ js) H4 λy H5=>Pv (i+1) (ys++[y]) H5 else Pv (i+1) ys H4)
  (hd:∀ys H,Pv xs.length ys H→∀D,H D=none→Q (.ref D) (upd H D (.lst ys))):CompW js tt te σ Q (Itl K a) H:=by
 apply⟨λi m ys H=>i≤xs.length∧m=xs.length - i∧Pv i ys H,⟨_,cR _,rfl,h0⟩,λi m ys H2 hz0=>?_⟩;obtain⟨hi,hm,hp⟩:=hz0;obtain⟨hq,hy⟩:=hl i ys H2 hi hp
 by_cases e:i=xs.length
 ·subst e
  exact .inl ⟨⟨xs,hq,aA _⟩,hd ys H2 hp⟩
 ·have hlt:i<xs.length:=gI hi e
  apply .inr ⟨⟨xs,_,hq,gE hlt⟩,⋯,Pv (i+1),λys' H' hp'=>⟨xs.length - (i+1),⋯,⋯,rfl,hp'⟩,λx H3 hy3=>?_⟩;obtain⟨e3,hx⟩:=hy3;subst e3;exact hs i x ys H3 (hx xs hq) hp
theorem pL {Q:VK}(Pv:Nat→List V→Hp→Prop)(h0:Pv 0 [] H)(hl:∀i ys H,i≤n→Pv i ys H→ys.length≤i)(hz:n≤ax)
  (hs:∀(i:Nat) ys H,i<n→Pv i ys H→tt (some (.int (lo+i))::hZ σ js) H λb H4=>if b=true then te (some (.int (lo+i))::hZ σ js) H4 λy H5=>Pv (i+1) (ys++[y]) H5 else Pv (i+1) ys H4)
  (hd:∀ys H,Pv n ys H→∀D,H D=none→Q (.ref D) (upd H D (.lst ys))):CompW js tt te σ Q (Itr lo n) H:=by
 apply⟨λi m ys H=>i≤n∧m=n - i∧Pv i ys H,⟨_,cR _,rfl,h0⟩,λi m ys H2 hz0=>?_⟩;obtain⟨hi,hm,hp⟩:=hz0;have hy:=hl i ys H2 hi hp
 by_cases e:i=n
 ·subst e
  exact .inl ⟨aA _,hd ys H2 hp⟩
 ·have hlt:i<n:=gI hi e
  apply .inr ⟨hlt,⋯,Pv (i+1),λys' H' hp'=>⟨n - (i+1),⋯,⋯,rfl,hp'⟩,λx H3 hy3=>?_⟩;obtain⟨e3,hx⟩:=hy3;subst e3 hx;exact hs i ys H3 hlt hp
theorem comp_str {Q:VK}(Pv:Nat→List V→Hp→Prop)(h0:Pv 0 [] H)(hl:∀i ys H,i≤z.cps.size→Pv i ys H→ys.length≤i)(hz:z.cps.size≤ax)
  (hs:∀(i c:Nat) ys H,z.cps[i]? =some c→Pv i ys H→tt (some (.str ⟨#[c]⟩)::hZ σ js) H λb H4=>if b=true then te (some (.str ⟨#[c]⟩)::hZ σ js) H4 λy H5=>Pv (i+1) (ys++[y]) H5 else Pv (i+1) ys H4)
  (hd:∀ys H,Pv z.cps.size ys H→∀D,H D=none→Q (.ref D) (upd H D (.lst ys))):CompW js tt te σ Q (Its z) H:=by
 apply⟨λi m ys H=>i≤z.cps.size∧m=z.cps.size - i∧Pv i ys H,⟨_,cR _,rfl,h0⟩,λi m ys H2 hz0=>?_⟩;obtain⟨hi,hm,hp⟩:=hz0;have hy:=hl i ys H2 hi hp
 by_cases e:i=z.cps.size
 ·subst e
  exact .inl ⟨aA _,hd ys H2 hp⟩
 ·have hlt:i<z.cps.size:=gI hi e
  apply .inr ⟨hlt,⋯,Pv (i+1),λys' H' hp'=>⟨z.cps.size - (i+1),⋯,⋯,rfl,hp'⟩,λx H3 hy3=>?_⟩;obtain⟨e3,c,hc,hx⟩:=hy3;subst e3 hx;exact hs i c ys H3 hc hp
end L2
namespace HN
open PySem
end HN
local macro_rules
 | `(tactic|exists $s:term)=>`(tactic|(show ∀ y:cH×PySem.NameKind,y∈_→y.2=PySem.NameKind.free→eT y.1 (L2.defScope $s).names=some PySem.NameKind.cell;decide +kernel))
local macro_rules
 | `(tactic|trivial)=>`(tactic|first|decide +kernel|exact ⟨rfl,rfl,rfl,by decide +kernel,rfl,by decide +kernel,by decide +kernel⟩|exact True.intro)
local macro_rules
 | `(tactic|contradiction)=>`(tactic|(intro _ _ _ _ h;first | (cases h;subst_vars;rfl) | ((repeat (obtain ⟨_,h⟩:=h));subst_vars;rfl)))
namespace L2
open PySem PyProof.Rows
theorem ixZ {a:Expr}{p q:Pos}{i:Int}{j}(h:PE X a ta):PE X (.Subscript a (.Constant (.int i) j p) q) (tOp (rIxT X.K) ta (tC (.int i))):=cE ix_tup h aC (λ_ _=>rfl)
theorem szZ1:1≤ax:=by decide
theorem qW:2≤ax:=by decide
theorem szZ4:4≤ax:=by decide
theorem szZ5:5≤ax:=by decide
theorem psZ (i:Nat)(hN:X.N.Nodup)(he:PE X e te)(hi:X.N[i]? =some x:=by rfl)(hx:Loc X.env.scope x:=by first|exact .inl rfl|exact .inr rfl)(hs:lG e (some (.Name x pos')) pos.line X.env=iJ false:=by rfl)(hf:X.fn x=true∨X.env.scope.names.lookup x=some .local:=by first|exact .inl rfl|exact .inr rfl|assumption):PS X (.Assign [.Name x pos'] e pos) (tAsg te (oP i)):=ps_set hN hi hx he hs hf
theorem pgZ (i:Nat)(hN:X.N.Nodup)(hi:X.N[i]? =some x:=by rfl)(hx:Loc X.env.scope x:=by first|exact .inl rfl|exact .inr rfl)(hf:X.fn x=true∨X.env.scope.names.lookup x=some .local:=by first|exact .inl rfl|exact .inr rfl|assumption):PG X (.Name x pos) (oP i):=pg_name hN hi hx hf
end L2
namespace L2
abbrev pza:List cH:=["self","row"]
abbrev pzb:List cH:=["self"]
abbrev pzc:List cH:=["word"]
abbrev pzd:List cH:=["_law_pot_here","_law_most"]
abbrev pze:List cH:=["_law_script","_law_k"]
abbrev pzf:List cH:=["_law_beat","_law_rows"]
abbrev pzg:List cH:=["text"]
abbrev pzh:List cH:=["self","stop"]
abbrev pzi:List cH:=["beat","many","thing"]
abbrev pzj:List cH:=["beat","one","other","row"]
abbrev pzk:List cH:=["thing","low","high"]
abbrev pzl:List cH:=["_law_rows","_law_name","_law_stop"]
abbrev pzm:List cH:=["_law_rows","_law_name","_law_stop","_law_other"]
abbrev pzn:List cH:=["_law_script"]
abbrev pzo:List cH:=["_law_rows","_law_beat","_law_row"]
abbrev pzp:List cH:=["many","start","goal"]
abbrev pzq:List cH:=["beat","least","most"]
abbrev pzr:List cH:=["self","name","stops","runs","first"]
abbrev pzs:List cH:=["self","beat"]
abbrev pzt:List cH:=["one","other","row"]
abbrev pzu:List cH:=["_law_pot_here","_law_beat","_law_lines_here","_law_rows"]
abbrev pzv:List cH:=["_law_beat","_law_rows","_law_at"]
abbrev pzw:List cH:=["_law_text_here"]
abbrev pzx:List cH:=["self","stop","after"]
abbrev pzy:List cH:=["_law_cell","_law_k"]
abbrev pzz:List cH:=["_law_pot_here","_law_lots"]
abbrev pzA:List cH:=["_law_pot_here","_law_name","_law_stops","_law_rows"]
abbrev pzB:List cH:=["_law_script","_law_names_here","_law_stops","_law_most"]
abbrev pzC:List cH:=["_law_pot_here","_law_beat"]
abbrev pzD:List cH:=["_law_lines_here","_law_rows"]
abbrev pzE:List cH:=["_law_rows","_law_kind"]
abbrev pzF:List cH:=["_law_beat","_law_span"]
abbrev pzG:List cH:=["_law_pot_here","_law_beat","_law_rows","_law_word"]
abbrev pzH:List cH:=["_law_pot_here","_law_beat","_law_rows"]
end L2
namespace HN
open PySem L2 PyProof.Rows
abbrev B60:Int:=10 ^ 60 - 1
def isI:V→Bool
 | .int _=>true
 | _=>false
def iv:V→Int
 | .int i=>i
 | _=>0
def inI (v:V)(lo hi:Int):Bool:=match v with
 | .int i=>decide (lo≤i) && decide (i≤hi)
 | _=>false
def nJ (m:Int)(s g:V):Bool:=inI s 0 (m - 1) && (inI g 0 (m - 1) && !decide (s=g))
def qC (b:Int)(l o:V):Bool:=inI l 0 B60 && inI o (iv l) (if B60<iv l+b - 1 then B60 else iv l+b - 1)
def mO (H:Hp)(b m:Int)(v:V):Bool:=match v with
 | .ref a=>match H a with
  | some (.tup [s,g,l,o,w])=>nJ m s g && (qC b l o && inI w 0 1000000000000)
  | _=>false
 | _=>false
def Kn (H:Hp)(v:V):Prop:=∃T,tyn H v=some T
def Below (P:V→Prop)(H:Hp)(v:V):Prop:=Kn H v∧∀a xs,v= .ref a→H a=some (.tup xs)→∀x∈xs,P x
abbrev G1 (H:Hp)(v:V):Prop:=Below (Kn H) H v
theorem sort_int (h:tyn H v=some T):(T == "int" || T == "bool")=true→(!(T == "bool"))=isI v:=by
 cases v with
 | ref a =>
  simp only[tyn] at h;cases q:H a with
  | none=>rw[q] at h;cases h
  | some o=>rw[q] at h;cases o <;> first | (cases h;intro z;exact rM z ↥0) | cases h
 | non=>cases h;intro z;exact rM z ↥0
 | bl b=>cases h;intro _;show(!("bool" == "bool"))=false;decide
 | int i=>cases h;intro _;show(!("int" == "bool"))=true;decide
 | str x=>cases h;intro z;exact rM z ↥0
 | _=>cases h
theorem sort_noInt (h:tyn H v=some T):¬(T == "int" || T == "bool")=true→isI v=false:=by
 cases v with
 | int i=>cases h;intro z;exact rM ↥0 z
 | _=>intro _;rfl
theorem isI_of (h:isI v=true):∃i,v= .int i:=by
 cases v with
 | int i=>exact⟨i,rfl⟩
 | _=>cases h
theorem sort_tup (h:tyn H v=some T):(∃a xs,v= .ref a∧H a=some (.tup xs)∧(T == "tuple")=true)∨((T == "tuple")=false∧∀a xs,v= .ref a→H a≠some (.tup xs)):=by
 cases v with
 | ref a =>
  simp only[tyn] at h;cases q:H a with
  | none=>rw[q] at h;cases h
  | some o =>
   rw[q] at h;cases o with
   | tup xs=>cases h;exact .inl ⟨a,xs,rfl,q,↥0⟩
   | lst xs=>cases h;exact .inr ⟨↥0,λb ys e z=>by cases e;rw[q] at z;cases z⟩
   | dK xs=>cases h;exact .inr ⟨↥0,λb ys e z=>by cases e;rw[q] at z;cases z⟩
   | _=>cases h
 | non=>cases h;exact .inr ⟨↥0,λa xs e=>by cases e⟩
 | bl b=>cases h;exact .inr ⟨↥0,λa xs e=>by cases e⟩
 | int i=>cases h;exact .inr ⟨↥0,λa xs e=>by cases e⟩
 | str x=>cases h;exact .inr ⟨↥0,λa xs e=>by cases e⟩
 | _=>cases h
theorem spanOk_no {m:Int}(h:∀a xs,v= .ref a→H a=some (.tup xs)→xs.length≠5):mO H b m v=false:=by
 cases v with
 | ref a =>
  simp only[mO];split
  ·rename_i s g l o w e
   exact rM rfl (h a _ rfl e)
  ·rfl
 | _=>rfl
theorem len5 (h:xs.length=5):∃a b c d e,xs=[a,b,c,d,e]:=by
 rcases xs with _ | ⟨x0,_ | ⟨x1,_ | ⟨x2,_ | ⟨x3,_ | ⟨x4,_ | ⟨x5,xr⟩⟩⟩⟩⟩⟩ <;> first | exact⟨_,_,_,_,ρ⟩ | simp at h
theorem lO {b:Bool}{A B:Prop}(h:b=true)(x:A):if b=true then A else B:=by rw[rL h];exact x
theorem iQ {b:Bool}{A B:Prop}(h:b=false)(x:B):if b=true then A else B:=by rw[rK (by rw[h];exact bQ)];exact x
structure Nm (mg:Str→Option af):Prop where
 isin:mg "isinstance" =none
 tint:mg "int" =none
 tbool:mg "bool" =none
 ttup:mg "tuple" =none
 len:mg "len" =none
 min:mg "min" =none
 all:mg "all" =none
structure Cs (mg:Str→Option af):Prop where
 mh:∃t,mg "MOST_HAPPENINGS" =some (.int 16 t)
 ms:∃t,mg "MOST_SPANS" =some (.int 40 t)
 mw:∃t,mg "MOST_WEIGHT" =some (.int 1000000000000 t)
structure Fn (K:ak)(mg:Str→Option af)(x:Str)(st:cN)(ps:List Str)(f:aq)(fd:aY):Prop where
 F:Fun K x x st f fd
 mg:mg x=some (.ref f)
 b:Binds K fd ps []
theorem pc1 {p:Pos}{t:TA}(G:Fn X.K X.mg x st ps f fd)(F:cS X.prog X.w X.K X.mg X.base CX0 k f fd ps sp)(hr:jI k X.A)
  (ha:PA X (e::es) t) (hg:Gl X x:=by rfl) (hdb:(x == ("__debug__" :Str))=false:=by decide) (he:bB (e::es) X.env=(false,dn e X.env)::bB es X.env:=by rfl) (hpl:(gH pos (bB es X.env)).any (·.1)=false:=by rfl) :
  PE X (.Call (.Name x p) (e::es) [] pos) (tCall sp [] E0 t):=pe_call F hr hg G.mg G.F.kp G.b .nil ju ha hdb he hpl
theorem pc0 {p:Pos}(G:Fn X.K X.mg x st [] f fd)(F:cS X.prog X.w X.K X.mg X.base CX0 k f fd [] sp)(hr:jI k X.A)
  (hg:Gl X x:=by rfl) (hdb:(x == ("__debug__" :Str))=false:=by decide):PE X (.Call (.Name x p) [] [] pos) (tCall sp [] E0 tNil):=pe_call0 F hr hg G.mg G.F.kp G.b .nil ju hdb
theorem qx {i:Int}(hm:∃t,X.mg x=some (.int i t))(hg:Gl X x:=by rfl)(hd:(x == ("__debug__" :Str))=false:=by decide):PE X (.Name x pos) (tC (.int i)):=
 let ⟨t,e⟩:=hm;mP (v:=.int i) (u:=.int i t) hg e ⟨t,rfl⟩ hd
theorem pe_isTup {p:Pos}(N:Nm X.mg)(he:PE X e te)(hg:Gl X "isinstance":=by rfl)(hg2:Gl X "tuple":=by rfl)
  (hs1:bB [e,.Name "tuple" p2] X.env=(false,dn e X.env)::bB [.Name "tuple" p2] X.env:=by rfl) (hpl:(gH pos (bB [.Name "tuple" p2] X.env)).any (·.1)=false:=by rfl) :
  PE X (.Call (.Name "isinstance" p) [e,.Name "tuple" p2] [] pos) (tCB (λxs H Q=>∃x T,xs=[x,.ty "tuple"]∧tyn H x=some T∧Q (.bl (T == "tuple")) H) (ql te (ql (tC (.ty "tuple")) tNil))):=
 bS call_isTup hg N.isin jv (ah he (ah (pe_bltn hg2 N.ttup jL rfl) aw) hs1) (he:=hs1) (hpl:=hpl)
theorem pe_isInt {p:Pos}(N:Nm X.mg)(he:PE X e te)(hg:Gl X "isinstance":=by rfl)(hg2:Gl X "int":=by rfl)
  (hs1:bB [e,.Name "int" p2] X.env=(false,dn e X.env)::bB [.Name "int" p2] X.env:=by rfl) (hpl:(gH pos (bB [.Name "int" p2] X.env)).any (·.1)=false:=by rfl) :
  PE X (.Call (.Name "isinstance" p) [e,.Name "int" p2] [] pos) (tCB (λxs H Q=>∃x T,xs=[x,.ty "int"]∧tyn H x=some T∧Q (.bl (T == "int" || T == "bool")) H) (ql te (ql (tC (.ty "int")) tNil))):=
 bS call_isInt hg N.isin jv (ah he (ah (pe_bltn hg2 N.tint boot_int rfl) aw) hs1) (he:=hs1) (hpl:=hpl)
theorem pe_isBool {p:Pos}(N:Nm X.mg)(he:PE X e te)(hg:Gl X "isinstance":=by rfl)(hg2:Gl X "bool":=by rfl)
  (hs1:bB [e,.Name "bool" p2] X.env=(false,dn e X.env)::bB [.Name "bool" p2] X.env:=by rfl) (hpl:(gH pos (bB [.Name "bool" p2] X.env)).any (·.1)=false:=by rfl) :
  PE X (.Call (.Name "isinstance" p) [e,.Name "bool" p2] [] pos) (tCB (λxs H Q=>∃x T,xs=[x,.ty "bool"]∧tyn H x=some T∧Q (.bl (T == "bool")) H) (ql te (ql (tC (.ty "bool")) tNil))):=
 bS call_isBool hg N.isin jv (ah he (ah (pe_bltn hg2 N.tbool boot_bool rfl) aw) hs1) (he:=hs1) (hpl:=hpl)
def spGW:Sp:=λvs H Q _=>vs=[]∧Q (.int B60) H
inductive spWhole (vs:List V)(H:Hp)(Q:VK)(_:XK):Prop
 | mk (v:_)(_:vs=[v])(_:Kn H v)(_:Q (.bl (isI v)) H)
inductive pZ (vs:List V)(H:Hp)(Q:VK)(_:XK):Prop
 | mk (v lo hi:_)(_:vs=[v,.int lo,.int hi])(_:Kn H v)(_:Q (.bl (inI v lo hi)) H)
inductive spEnds (vs:List V)(H:Hp)(Q:VK)(_:XK):Prop
 | mk (m s g:_)(_:vs=[.int m,s,g])(_:Kn H s)(_:Kn H g)(_:Q (.bl (nJ m s g)) H)
inductive spLens (vs:List V)(H:Hp)(Q:VK)(_:XK):Prop
 | mk (b l o:_)(_:vs=[.int b,l,o])(_:Kn H l)(_:Kn H o)(_:Q (.bl (qC b l o)) H)
inductive rg (vs:List V)(H:Hp)(Q:VK)(_:XK):Prop
 | mk (b m v:_)(_:vs=[.int b,.int m,v])(_:G1 H v)(_:Q (.bl (mO H b m v)) H)
end HN
namespace L2
open PySem PySem.Spec PyProof.Rows
structure PEs (X:Cx)(e:Expr)(t:TE):Prop where
 h:PE X e t
structure PAs (X:Cx)(es:List Expr)(t:TA):Prop where
 h:PA X es t
structure PSt (X:Cx)(st:cN)(t:TS):Prop where
 h:PS X st t
structure PSl (X:Cx)(sts:List cN)(t:TS):Prop where
 h:PSs X sts t
section
variable {a b:Expr}{tb:TE}{t:TA}
theorem jf {i j}:PEs X (.Constant (.int i) j pos) (tC (.int i)):=⟨aC⟩
theorem k_op {op:Operator}{r:R2}(ho:OpR X (iZ op) r)(ha:PEs X a ta)(hb:PEs X b tb):PEs X (.BinOp a op b pos) (tOp r ta tb):=⟨cw ho ha.h hb.h⟩
theorem k_ix {r:R2}(hr:IxR X r)(ha:PEs X a ta)(hb:PEs X b tb)(hs:PlainIx b):PEs X (.Subscript a b pos) (tOp r ta tb):=⟨cE hr ha.h hb.h hs⟩
theorem pF (h:PAs X es t):PEs X (.List es pos) (tLstA t):=⟨gM h.h⟩
theorem oW:PAs X [] tNil:=⟨aw⟩
theorem dw (ha:PEs X e te)(hr:PAs X es t)(h:notStar e=true:=by rfl):PAs X (e::es) (ql te t):=⟨pa_k ha.h hr.h h⟩
theorem bh {t u:TS}(a:PSt X st t)(b:PSl X sts u):PSl X (st::sts) (iW t u):=⟨cZ a.h b.h⟩
theorem fj {t:TS}(a:PSt X st t):PSl X [st] t:=⟨bD a.h⟩
end
end L2
namespace HN
open PySem L2 PyProof.Rows
theorem cxK {CX:L2.CXT}{q:Str}{o:List Env}{H:L2.Hp}{E:L2.XK}:(L2.cxOf CX P w K mg base N q sc f cd A o s H E).K=K:=rfl
local macro_rules
 |`(tactic|and_intros)=>`(tactic|try dsimp only[cxK])
abbrev sGW:cN:=top 8
abbrev rm:cN:=top 9
abbrev qt:cN:=top 10
abbrev sEnds:cN:=top 17
abbrev sLens:cN:=top 18
abbrev sSpan:cN:=top 19
theorem scGW:cA [] [] (defScope sGW):=by trivial
theorem ok_gw (F:Fun K "greatest_whole" "greatest_whole" sGW f fd):‹0› 1 f fd [] spGW:=by
 apply F.ok scGW (λvs H Q E h=>by obtain⟨rfl,_⟩:=h;rfl) (λcdv A outer s H vs Q E hr h=>?_);obtain⟨rfl,k⟩:=h;apply⟨_,bD (cb (cw gL (cw mR aC aC) aC)),?_⟩
 and_intros
 exact⟨ς,⟨↥0,↥0,↥0⟩,ς,k⟩
theorem scWhole:cA ["thing"] ["thing"] (defScope rm):=by trivial
theorem ok_whole (F:Fun K "is_whole" "is_whole" rm f fd)(T:Nm mg):‹0› 1 f fd ["thing"] spWhole:=by
 specialize F.ok scWhole;obtain⟨v,rfl,⟨S,hS⟩,k⟩:=h;apply⟨_,bD (cb (mQ (pe_isInt T (pv 0)) (nP (pe_not (pe_isBool T (pv 0)))))),?_⟩
 and_intros
 apply⟨ρ,_,ρ,hS,ρ,?_⟩;apply jq (λhc=>?_) (λhc=>?_)
 ·apply⟨ρ,_,ρ,hS,ρ,?_⟩
  rw[sort_int hS hc];exact k
 ·rw[←sort_noInt hS hc];exact k
theorem scWithin:cA pzk pzk (defScope qt):=by trivial
theorem qz (F:Fun K "is_within" "is_within" qt f fd)(T:Nm mg)(G1:Fn K mg "is_whole" rm ["thing"] f1 fd1):‹0› 2 f fd pzk pZ:=by
 have F1:‹0› 1 f1 fd1 ["thing"] spWhole:=ok_whole G1.F T;specialize F.ok scWithin;obtain⟨v,lo,hi,rfl,hS,k⟩:=h;apply⟨_,bD (cb (mQ (pc1 G1 F1 hr (ah (pv 0) aw)) (nP (pe_chain q0 q0 (pv 1) (pv 0) (pv 2))))),?_⟩
 and_intros
 apply⟨ρ,ρ,hS,ρ,?_⟩;apply jq (λhc=>?_) (λhc=>?_)
 ·obtain⟨i,rfl⟩:=isI_of hc
  apply⟨ρ,ρ,ς,ρ,?_⟩;apply jq (λh1=>?_) (λh1=>?_)
  ·apply⟨ρ,ς,?_⟩
   have e:inI (.int i) lo hi=decide (i≤hi):=by show(decide (lo≤i) && decide (i≤hi))=_;rw[h1];rfl
   show Q (.bl (decide (i≤hi))) H;rw[←e];exact k
  ·have e:inI (.int i) lo hi=false:=by show(decide (lo≤i) && decide (i≤hi))=_;rw[gn.mpr h1];rfl
   rw[←e];exact k
 ·have e:inI v lo hi=false:=by
   cases v with
   | int i=>exact rM rfl hc
   | _=>rfl
  rw[←e];exact k
theorem scEnds:cA pzp pzp (defScope sEnds):=by trivial
theorem inI_int {hi:Int}(h:inI v lo hi=true):∃i,v= .int i∧lo≤i∧i≤hi:=by
 cases v with
 | int i =>
  have h:(decide (lo≤i) && decide (i≤hi))=true:=h;rw[bW] at h;exact⟨i,rfl,rQ h.1,rQ h.2⟩
 | _=>cases h
theorem ok_ends (F:Fun K "are_ends" "are_ends" sEnds f fd)(T:Nm mg)(G1:Fn K mg "is_whole" rm ["thing"] f1 fd1)(G2:Fn K mg "is_within" qt pzk f2 fd2) :
  ‹0› 3 f fd pzp spEnds:=by
 have F2:‹0› 2 f2 fd2 pzk pZ:=qz G2.F T G1;specialize F.ok scEnds;obtain ⟨m,st,g,rfl,hs,hg,k⟩:=h;apply ⟨_,bD (cb (mQ (pc1 G2 F2 hr (ah (pv 1) (ah aC (ah (cw gL (pv 0) aC) aw))))
  (mQ (pc1 G2 F2 hr (ah (pv 2) (ah aC (ah (cw gL (pv 0) aC) aw)))) (nP (iT pz (pv 1) (pv 2) (cn _)))))),?_⟩
 and_intros
 apply⟨ρ,ρ,ς,_,_,ρ,hs,ρ,?_⟩;apply jq (λh1=>?_) (λh1=>?_)
 ·apply⟨ρ,ρ,ς,_,_,ρ,hg,ρ,?_⟩
  apply jq (λh2=>?_) (λh2=>?_)
  ·obtain⟨i,rfl,_⟩:=inI_int h1
   obtain⟨j,rfl,_⟩:=inI_int h2;apply⟨ρ,ρ,rfl,?_⟩;have e:nJ m (.int i) (.int j)= !decide (V.int i=V.int j):=by unfold nJ;rw[h1,h2];rfl
   rw[←e];exact k
  ·have e:nJ m st g=false:=by unfold nJ;rw[h1,gn.mpr h2];rfl
   rw[←e];exact k
 ·have e:nJ m st g=false:=by unfold nJ;rw[gn.mpr h1];rfl
  rw[←e];exact k
theorem scLens:cA pzq pzq (defScope sLens):=by trivial
theorem ok_lens {fd0:aY}(F:Fun K "are_lengths" "are_lengths" sLens f fd)(T:Nm mg)(G0:Fn K mg "greatest_whole" sGW [] f0 fd0)(G1:Fn K mg "is_whole" rm ["thing"] f1 fd1)(G2:Fn K mg "is_within" qt pzk f2 fd2) :
  ‹0› 3 f fd pzq spLens:=by
 have F0:‹0› 1 f0 fd0 [] spGW:=ok_gw G0.F;have F2:‹0› 2 f2 fd2 pzk pZ:=qz G2.F T G1;specialize F.ok scLens;obtain ⟨b,l,o,rfl,hl,ho,k⟩:=h;have hr1:jI 1 _:=hr.mono ↥0;apply ⟨_,cZ (eO (mI (kr (pc1 G2 F2 hr (ah (pv 1) (ah aC (ah (pc0 G0 F0 hr1) aw)))))) (bD (cb qy)) cv)
  (bD (cb (pc1 G2 F2 hr (ah (pv 2) (ah (pv 1) (ah (bS (oR rfl) rfl T.min boot_min (ah (cw gL (cw dZ (pv 1) (pv 0)) aC) (ah (pc0 G0 F0 hr1) aw))) aw)))))),?_⟩
 and_intros
 apply sq1 ?_
 intros
 apply⟨ρ,rfl,_,_,ρ,hl,ρ,?_⟩;apply jq (λh1=>?_) (λh1=>?_)
 ·have e:qC b l o=false:=by
   unfold qC;have:inI l 0 B60=false:=by simpa using h1
   rw[this];rfl
  show Q (.bl false) H;rw[←e];exact k
 ·have h1:inI l 0 B60=true:=by simpa using h1
  obtain⟨i,rfl,_⟩:=inI_int h1;apply⟨ρ,ρ,ρ,ρ,ς,ς,rfl,_,ρ,_,_,ρ,ho,?_⟩;have e:qC b (.int i) o=inI o i (if B60<i+b - 1 then B60 else i+b - 1):=by
   unfold qC;rw[h1];rfl
  rw[e] at k;exact k
theorem scSpan:cA pzi pzi (defScope sSpan):=by trivial
theorem ok_span {f3 f4:aq}{fd0 fd3 fd4:aY}(F:Fun K "is_span" "is_span" sSpan f fd)(T:Nm mg)(C:Cs mg)(G0:Fn K mg "greatest_whole" sGW [] f0 fd0)(G1:Fn K mg "is_whole" rm ["thing"] f1 fd1)(G2:Fn K mg "is_within" qt pzk f2 fd2)
  (G3:Fn K mg "are_ends" sEnds pzp f3 fd3) (G4:Fn K mg "are_lengths" sLens pzq f4 fd4):‹0› 4 f fd pzi rg:=by
 have F2:‹0› 2 f2 fd2 pzk pZ:=qz G2.F T G1;have F3:‹0› 3 f3 fd3 pzp spEnds:=ok_ends G3.F T G1 G2;have F4:‹0› 3 f4 fd4 pzq spLens:=ok_lens G4.F T G0 G1 G2;specialize F.ok scSpan;obtain ⟨b,m,v,rfl,hv,k⟩:=h;have hr2:jI 2 _:=hr.mono ↥0;apply ⟨_,cZ (eO (PW.pt (ma (mI (kr (pe_isTup T (pv 2)))) (kq (bK pz (bS bO rfl T.len aS (ah (pv 2) aw)) aC (cn _))))) (bD (cb qy)) cv)
  (cZ (eO (PW.pt (ma (mI (kr (pc1 G3 F3 hr (ah (pv 1) (ah (ixZ (pv 2)) (ah (ixZ (pv 2)) aw))))))
   (kq (mI (kr (pc1 G4 F4 hr (ah (pv 0) (ah (ixZ (pv 2)) (ah (ixZ (pv 2)) aw))))))))) (bD (cb qy)) cv)
  (bD (cb (pc1 G2 F2 hr2 (ah (ixZ (pv 2)) (ah aC (ah (qx C.mw) aw))))))),?_⟩
 and_intros
 apply sq2 ?_
 intros
 obtain⟨S,hS⟩:=hv.1;apply⟨ρ,_,ρ,hS,ρ,?_⟩
 rcases sort_tup hS with ⟨a,xs,rfl,ha,hq⟩ | ⟨hq,hno⟩
 ·apply iQ (by rw[hq];rfl) ?_
  apply⟨ρ,a,xs,rfl,.inr (zT ha),rfl,ρ,?_⟩;apply jq (λh5=>?_) (λh5=>?_)
  ·have e:mO H b m (.ref a)=false:=spanOk_no λa' xs' e1 e2 z=>by
    cases e1;rw[ha] at e2;cases e2;rw[z] at h5;exact rM h5 ↥0
   show Q (.bl false) H;rw[←e];exact k
  ·have hl:xs.length=5:=by
    have h5:¬(!decide (V.int (xs.length:Int)=V.int 5))=true:=h5;rw[Bool.not_eq_true,Bool.not_eq_false'] at h5;have:=rQ h5;injection this with this
    lia
   obtain⟨x0,x1,x2,x3,x4,rfl⟩:=len5 hl;have kn:=hv.2 a _ rfl ha;have e:mO H b m (.ref a)=(nJ m x0 x1 && (qC b x2 x3 && inI x4 0 1000000000000)):=by simp only[mO];rw[ha]
   rw[e] at k;apply⟨ρ,ρ,a,τ,zT ha,aH (j:=0) rfl,ρ,a,τ,zT ha,aH (j:=1) rfl,_,_,ρ,kn _ ∅,kn _ ∅,ρ,?_⟩;apply jq (λh1=>?_) (λh1=>?_)
   ·have h1:nJ m x0 x1=false:=by simpa using h1
    rw[h1] at k;exact k
   ·have h1:nJ m x0 x1=true:=by simpa using h1
    rw[h1] at k;apply⟨ρ,ρ,a,τ,zT ha,aH (j:=2) rfl,ρ,a,τ,zT ha,aH (j:=3) rfl,_,_,ρ,kn _ ∅,kn _ ∅,ρ,?_⟩;apply jq (λh2=>?_) (λh2=>?_)
    ·have h2:qC b x2 x3=false:=by simpa using h2
     rw[h2] at k;exact k
    ·have h2:qC b x2 x3=true:=by simpa using h2
     rw[h2] at k;exact⟨ρ,a,τ,zT ha,aH (j:=4) rfl,_,_,ρ,kn _ ∅,k⟩
 ·apply lO (by rw[hq];rfl) ?_
  have e:mO H b m v=false:=spanOk_no λa xs e1 e2=>rM e2 (hno a xs e1)
  show Q (.bl false) H;rw[←e];exact k
end HN
namespace HT2
open PySem
theorem nr (y p q:Str)(r:List Str):gW y (p::q::r)=p++y++gW y (q::r):=rfl
theorem oQ (c:Nat)(p q:Str)(r:List Str):(gW ⟨#[c]⟩ (p::q::r)).cps.toList=p.cps.toList++c::(gW ⟨#[c]⟩ (q::r)).cps.toList:=by
 rw[nr];simp only[Str.cps_append,Array.toList_append];simp
theorem str_ext {a b:Str}(h:a.cps.toList=b.cps.toList):a=b:=by
 cases a with | mk x=>cases b with | mk y =>
 have:x=y:=by
  have:=rR List.toArray h
  simpa using this
 rw[this]
theorem cut_first {c:Nat}:∀{a b r s:List Nat},c ∉ a→c ∉ b→a++c::r=b++c::s→a=b∧r=s
 | [],[],_,_,_,_,e=>⟨rfl,(List.cons.inj e).2⟩
 | [],y::b,_,_,_,hb,e=>by
  have:=(List.cons.inj e).1;exact rM (this ▸ bJ ..) hb
 | x::a,[],_,_,ha,_,e=>by
  have:=(List.cons.inj e).1;exact rM (this ▸ bJ ..) ha
 | x::a,y::b,r,s,ha,hb,e=>by
  obtain⟨e1,e2⟩:=List.cons.inj e;obtain⟨h1,h2⟩:=cut_first (λm=>ha (aO _ m)) (λm=>hb (aO _ m)) e2;exact⟨by rw[e1,h1],h2⟩
theorem no_cut {c:Nat}{a b r:List Nat}(ha:c ∉ a)(e:a=b++c::r):False:=ha (by rw[e];simp)
theorem join_inj {c:Nat}:∀{as bs:List Str},as≠[]→bs≠[]→(∀p∈as,c ∉ p.cps.toList)→(∀p∈bs,c ∉ p.cps.toList)→gW ⟨#[c]⟩ as=gW ⟨#[c]⟩ bs→as=bs
 | [],_,h,_,_,_,_=>rM rfl h
 | _::_,[],_,h,_,_,_=>rM rfl h
 | [p],[q],_,_,_,_,e=>by
  have e:p=q:=e;rw[e]
 | [p],q::q2::r,_,_,ha,_,e=>by
  have:=rR (λs:Str=>s.cps.toList) e;simp only[oQ] at this;exact(no_cut (ha p ∅) this).elim
 | p::p2::r,[q],_,_,_,hb,e=>by
  have:=rR (λs:Str=>s.cps.toList) e;simp only[oQ] at this;exact(no_cut (hb q ∅) this.symm).elim
 | p::p2::r,q::q2::s,_,_,ha,hb,e=>by
  have:=rR (λs:Str=>s.cps.toList) e;simp only[oQ] at this;obtain⟨h1,h2⟩:=cut_first (ha p ∅) (hb q ∅) this;have ih:=join_inj (as:=p2::r) (bs:=q2::s) ∅ ∅ (λx hx=>ha x (aO _ hx)) (λx hx=>hb x (aO _ hx)) (str_ext h2);rw[str_ext h1,ih]
theorem split_ne (x:Str)(c:Nat):c8 x ⟨#[c]⟩≠[]:=by
 unfold c8;split
 ·simp
 ·split
  ·simp
  ·unfold ig
   intro h;have:=rR g9 h;simp at this
theorem o9 {c:Nat}{ys:List Str}(h:ys≠[])(hf:∀p∈ys,c ∉ p.cps.toList):c8 (jB ⟨#[c]⟩ ys) ⟨#[c]⟩=ys:=by
 have e:jB ⟨#[c]⟩ ys=gW ⟨#[c]⟩ ys:=gu _ _;rw[e];apply join_inj (c:=c) (split_ne _ _) h (λp hp=>StrLaws.split_free _ c p hp) hf ?_;exact StrLaws.join_split _ _
def dig (m:Nat):List Nat:=(Nat.toDigits 10 m).map Char.toNat
theorem qO (h:m<10):dig m=[48+m]:=by
 unfold dig;rw[Nat.toDigits_of_lt_base h];have:∀d:Nat,d<10→(Nat.digitChar d).toNat=48+d:=by decide
 show[(Nat.digitChar m).toNat]=_;rw[this m h]
theorem dig_ge (h:10≤m):dig m=dig (m / 10)++[48+m % 10]:=by
 have hm:m % 10<10:=Nat.mod_lt m ↥0;have t:Nat.toDigits 10 (m / 10)++Nat.toDigits 10 (m % 10)=Nat.toDigits 10 (10 * (m / 10)+m % 10):=Nat.toDigits_append_toDigits ↥0 ⋯ hm;rw[Nat.div_add_mod] at t;have e:=qO hm;unfold dig at e ⊢;rw[←t,av,e]
theorem dig_ne (m:Nat):dig m≠[]:=by
 rcases Nat.lt_or_ge m 10 with h | h
 ·rw[qO h];simp
 ·rw[dig_ge h];simp
theorem dig_all:∀(m:Nat),∀c∈dig m,48≤c∧c≤57:=by
 intro m
 induction m using Nat.strongRecOn with
 | _ m ih =>
  intro c hc
  rcases Nat.lt_or_ge m 10 with h | h
  ·rw[qO h] at hc
   have:=aB.mp hc;lia
  ·rw[dig_ge h] at hc
   rcases aX.mp hc with q | q
   ·exact ih (m / 10) ⋯ c q
   ·have:=aB.mp q
    lia
theorem dig_len:∀(k m:Nat),m<10 ^ (k+1)→(dig m).length≤k+1
 | 0,m,h=>by rw[qO (by simpa using h)];simp
 | k+1,m,h=>by
  rcases Nat.lt_or_ge m 10 with q | q
  ·rw[qO q];simp
  ·rw[dig_ge q,ao,List.length_singleton]
   have h2:m / 10<10 ^ (k+1):=by
    have e:(10:Nat) ^ (k+1+1)=10 ^ (k+1) * 10:=Nat.pow_succ ..;rw[e] at h;exact Nat.div_lt_of_lt_mul ⋯
   have:=dig_len k (m / 10) h2;lia
theorem dig_head:∀(m:Nat),1≤m→(dig m).head? ≠some 48:=by
 intro m
 induction m using Nat.strongRecOn with
 | _ m ih =>
  intro h1 e
  rcases Nat.lt_or_ge m 10 with h | h
  ·rw[qO h] at e
   have:48+m=48:=by simpa using e
   lia
  ·rw[dig_ge h] at e
   have ih':=ih (m / 10) ⋯ ⋯;cases hd:dig (m / 10) with
   | nil=>exact dig_ne _ hd
   | cons a r =>
    rw[hd] at e ih';exact ih' (by simpa using e)
theorem dig_one (h:1<(dig m).length):10≤m:=by
 rcases Nat.lt_or_ge m 10 with q | q
 ·rw[qO q] at h;simp at h
 ·exact q
def num (m:Nat):Str:=bU (toString ((m:Nat):Int))
theorem mS (m:Nat):(num m).cps.toList=dig m:=PySem.W.KIN.signs_num m
theorem num_len (h:m<10 ^ 60):(num m).length≤60:=by
 have:=dig_len 59 m h;rw[←mS] at this
 simpa [Str.length] using this
theorem num_pos (m:Nat):1≤(num m).length:=by
 have h:=dig_ne m;rw[←mS] at h;cases e:(num m).cps.toList with
 | nil=>exact rM e h
 | cons a r =>
  have:(num m).length=(num m).cps.toList.length:=by simp[Str.length]
  rw[this,e];simp
theorem num_int (h:m<10 ^ 60):PySem.intText? (num m)=some ((m:Nat):Int):=by
 have e:=PySem.intText_digits (x:=num m) (λc hc=>dig_all m c (by rw[←mS];exact hc)) (by rw[mS];exact dig_ne m) (cB (num_len h) ↥0);rw[mS] at e;rw[e];have v:=PySem.W.KIN.val_back m;unfold dig;rw[v]
end HT2
abbrev L2.zV:=Nat→L2.St→L2.Hp→Prop
abbrev L2.zW:=Nat→List L2.V→L2.Hp→Prop
namespace HN
open PySem L2 PyProof.Rows HT2
local macro_rules
 |`(tactic|and_intros)=>`(tactic|try dsimp only[cxK])
abbrev sp_:Str:=" "
abbrev nl_:Str:="\n"
theorem sp_eq:(sp_:Str)=⟨#[32]⟩:=by trivial
theorem nl_eq:(nl_:Str)=⟨#[10]⟩:=by trivial
def lH (i:Int):Str:=toString i
theorem qg (m:Nat):lH (m:Int)=num m:=rfl
def W60 (i:Int):Prop:=0≤i∧i<10 ^ 60
theorem W60.nat {i:Int}(h:W60 i):∃m:Nat,i=m∧m<10 ^ 60:=by
 obtain⟨m,rfl⟩:=cU h.1;exact⟨m,rfl,by have:=h.2;lia⟩
theorem numI_cps {i:Int}(h:W60 i):∀c∈(lH i).cps.toList,48≤c∧c≤57:=by
 obtain⟨m,rfl,_⟩:=h.nat;rw[qg,mS];exact dig_all m
theorem mD {i:Int}(h:W60 i):(lH i).length≤60:=by
 obtain⟨m,rfl,hm⟩:=h.nat;rw[qg];exact num_len hm
theorem numI_int {i:Int}(h:W60 i):PySem.intText? (lH i)=some i:=by
 obtain⟨m,rfl,hm⟩:=h.nat;rw[qg];exact num_int hm
theorem log_60 {i:Int}(h:W60 i):i.natAbs.log2<1920:=by
 by_cases h0:i.natAbs=0
 ·rw[h0];decide
 ·have h1:i.natAbs<2 ^ 200:=by
   have:(10:Nat) ^ 60<2 ^ 200:=by trivial
   have h2:i.natAbs<10 ^ 60:=by have:=h.1;have:=h.2;lia
   lia
  have:=(Nat.log2_lt h0).mpr h1;lia
theorem qA {i:Int}(h:W60 i){c:Nat}(hc:c<48):c ∉ (lH i).cps.toList:=λm=>by
 have:=numI_cps h c m;lia
theorem cps_app (a b:Str):(a++b).cps.toList=a.cps.toList++b.cps.toList:=by simp only[Str.cps_append,Array.toList_append]
theorem nZ (a b:Str):(a++b).length=a.length+b.length:=Str.length_append a b
theorem join_mem {c:Nat}:∀{ys:List Str} {x:Nat},x∈(gW ⟨#[c]⟩ ys).cps.toList→x=c∨∃y∈ys,x∈y.cps.toList
 | [],x,h=>by
  have h:x∈(gr).cps.toList:=h;exact rM h (by simp[gr])
 | [y],x,h=>.inr ⟨y,∅,h⟩
 | y::z::r,x,h=>by
  rw[oQ] at h
  rcases aX.mp h with h | h
  ·exact .inr ⟨y,∅,h⟩
  ·rcases az.mp h with h | h
   ·exact .inl h
   ·rcases join_mem (ys:=z::r) h with q | ⟨w',hw,q⟩
    ·exact .inl q
    ·exact .inr ⟨w',aO _ hw,q⟩
theorem sum_le {α:Type}(f:α→Nat)(k:Nat):∀(l:List α),(∀x∈l,f x≤k)→(l.map f).sum≤l.length * k
 | [],_=>by simp
 | x::r,h=>by
  have h1:=h x ∅;have h2:=sum_le f k r λy hy=>h y (aO _ hy)
  simp only[bo,fe,aG,Nat.add_mul];lia
structure Nm2 (mg:Str→Option af):Prop where
 tstr:mg "str" =none
 tlist:mg "list" =none
structure Cs2 (mg:Str→Option af):Prop where
 ltr:∃t,mg "LETTERS" =some (.str "abcdefghijklmnopqrstuvwxyz" t)
 ml:∃t,mg "MOST_LETTERS" =some (.int 8 t)
 fig:∃t,mg "FIGURES" =some (.str "0123456789" t)
 mf:∃t,mg "MOST_FIGURES" =some (.int 60 t)
theorem pe_gstr (hm:∃t,X.mg x=some (.str z t))(hg:Gl X x:=by rfl)(hd:(x == ("__debug__" :Str))=false:=by decide):PE X (.Name x pos) (tC (.str z)):=
 let ⟨t,e⟩:=hm;mP (v:=.str z) (u:=.str z t) hg e ⟨t,rfl⟩ hd
theorem pe_isStr {p:Pos}(N:Nm X.mg)(N2:Nm2 X.mg)(he:PE X e te)(hg:Gl X "isinstance":=by rfl)(hg2:Gl X "str":=by rfl)
  (hs1:bB [e,.Name "str" p2] X.env=(false,dn e X.env)::bB [.Name "str" p2] X.env:=by rfl) (hpl:(gH pos (bB [.Name "str" p2] X.env)).any (·.1)=false:=by rfl) :
  PE X (.Call (.Name "isinstance" p) [e,.Name "str" p2] [] pos) (tCB (λxs H Q=>∃x T,xs=[x,.ty "str"]∧tyn H x=some T∧Q (.bl (T == "str")) H) (ql te (ql (tC (.ty "str")) tNil))):=
 bS call_isStr hg N.isin jv (ah he (ah (pe_bltn hg2 N2.tstr boot_str rfl) aw) hs1) (he:=hs1) (hpl:=hpl)
def lV (z:Str):Bool:=decide (1≤z.length) && (decide (z.length≤60) && (!(decide (z.cps.toList.head? =some 48) && decide (1<z.length)) && z.cps.toList.all λc=>decide (48≤c∧c≤57)))
theorem fig_in (c:Nat):(!(cO ("0123456789" :Str) ⟨#[c]⟩ 0 ("0123456789" :Str).length 1).isEmpty)=decide (48≤c∧c≤57):=by
 rw[StrLaws.found_one];have e:("0123456789" :Str).cps.toList=List.range' 48 10:=by trivial
 rw[e,decide_eq_decide,List.mem_range'_1];omega
theorem numI_numeral {i:Int}(h:W60 i):lV (lH i)=true:=by
 obtain⟨m,rfl,hm⟩:=h.nat;unfold lV;rw[qg];rw[rO (num_pos m),rO (num_len hm),mS];have h1:((dig m).all λc=>decide (48≤c∧c≤57))=true:=by
  rw[jF];exact λc hc=>rO (dig_all m c hc)
 rw[h1];have h2:(decide ((dig m).head? =some 48) && decide (1<(num m).length))=false:=by
  rw[gn];intro z;rw[bW] at z;have z1:=rQ z.1;have z2:=rQ z.2;have e:(num m).length=(dig m).length:=by rw[←mS];simp[Str.length]
  rw[e] at z2;exact dig_head m (by have:=dig_one z2;lia) z1
 rw[h2];rfl
inductive spNumeral (vs:List V)(H:Hp)(Q:VK)(_:XK):Prop
 | mk (z:Str)(_:vs=[.str z])(_:z.length≤100000)(_:∀H',cg H H'→Q (.bl (lV z)) H')
inductive qr (vs:List V)(H:Hp)(Q:VK)(_:XK):Prop
 | mk (i:_)(_:vs=[.str (lH i)])(_:W60 i)(_:∀H',cg H H'→Q (.int i) H')
abbrev qe:cN:=top 11
abbrev sRead:cN:=top 12
theorem scNumeral:cA pzc pzc (defScope qe):=by trivial
theorem ok_numeral (F:Fun K "is_numeral" "is_numeral" qe f fd)(T:Nm mg)(C:Cs2 mg):‹0› 1 f fd pzc spNumeral:=by
 specialize F.ok scNumeral;obtain ⟨z,rfl,hz,k⟩:=h;apply ⟨_,cZ (eO (PW.pt (ma (bK pA (bS kD rfl T.len aS (ah (pv 0) aw)) aC (cn _)) (kq (bK op_gt (bS kD rfl T.len aS (ah (pv 0) aw)) (qx C.mf) (cn _))))) (bD (cb qy)) cv)
  (cZ (ps_cut (eO (PW.pt (nN (bK iM (cE ix_str (pv 0) aC (fun _ _=>rfl)) dU (cn _)) (lU (bK op_gt (bS kD rfl T.len aS (ah (pv 0) aw)) aC (cn _))))) (bD (cb qy)) cv))
  (bD (cb (bS (call_all rfl) rfl T.all boot_all (ah (jP (fr:=[]) (js:=[]) rfl (pi_str (pv 0)) ⇑0 rfl ⇑0 rfl (by exists qe) ⇑0 rfl ⇑0 (fun _ _ _ _ _=>⟨(iT op_in_str (pv 0) (pe_gstr C.fig) rfl),j7⟩)) aw))))),?_⟩
 and_intros
 apply sq2 ?_
 intros
 have big:(100000:Nat)≤ax:=by decide
 have hz':z.length≤ax:=by lia
 have k0:=k H (cg.refl H);apply⟨ρ,z,rfl,hz',ς,ρ,?_⟩;apply jq (λh1=>?_) (λh1=>?_)
 ·have h1:(z.length:Int)<1:=rQ h1
  have e:lV z=false:=by unfold lV;rw[rP ⋯];rfl
  rw[e] at k0;exact k0
 have h1:¬(z.length:Int)<1:=λq=>h1 (rO q)
 apply⟨ρ,z,rfl,hz',ς,ρ,?_⟩;apply jq (λh2=>?_) (λh2=>?_)
 ·have h2:(60:Int)<(z.length:Int):=rQ h2
  have e:lV z=false:=by unfold lV;rw[rP (by lia:¬z.length≤60),km,Bool.and_false]
  rw[e] at k0;exact k0
 have h2:¬(60:Int)<(z.length:Int):=λq=>h2 (rO q)
 have hl:z.cps.toList.length=z.length:=by simp[Str.length]
 obtain⟨c0,r0,hc⟩:∃c r,z.cps.toList=c::r:=by
  cases e:z.cps.toList with
  | nil=>rw[e] at hl;simp at hl;lia
  | cons c r=>exact⟨c,r,rfl⟩
 have en:lV z=(!(decide (c0=48) && decide (1<z.length)) && z.cps.toList.all λc=>decide (48≤c∧c≤57)):=by
  unfold lV;rw[rO (by lia:1≤z.length),rO (by lia:z.length≤60),kZ,kZ];congr 3;rw[decide_eq_decide,hc];simp
 have e48:decide (V.str ⟨#[c0]⟩=V.str "0")=decide (c0=48):=by
  rw[decide_eq_decide];have z0:("0" :Str)=⟨#[48]⟩:=by trivial
  rw[z0]
  constructor
  ·intro q
   injection q with q
   have:=rR (λs:Str=>s.cps.toList) q
   simpa using this
  ·intro q;rw[q]
 apply⟨λσ' H'=>σ'=[some (.str z)]∧H'=H∧(decide (c0=48) && decide (1<z.length))=false,?_,?_⟩
 ·rintro σ' H' ⟨rfl,rfl,hq⟩
  rw[hq] at en;apply⟨ρ,z,rfl,?_⟩;have hsz:z.cps.size=z.cps.toList.length:=by simp
  let pZ2:zW:=λi ys H2=>H2=H'∧ys=(z.cps.toList.take i).map λc=>V.bl (decide (48≤c∧c≤57))
  apply comp_str pZ2 ⟨rfl,rfl⟩ (λi ys H2 hi ⟨e1,e2⟩=>?_) hz' (λi c ys H2 hx ⟨e1,e2⟩=>?_) (λys H2 ⟨e1,e2⟩ D hD=>?_)
  ·rw[e2,ae,aJ];lia
  ·subst e1
   apply jj ?_;apply⟨ρ,ς,rfl,?_⟩;have hx':z.cps.toList[i]? =some c:=by rw[kK];exact hx
   rw[e2,aQ,hx',av,fig_in];rfl
  ·subst e1
   rw[hsz,bG] at e2;apply⟨D,z.cps.toList.map λc=>decide (48≤c∧c≤57),rfl,zL (by rw[aP,e2,b9];rfl),?_⟩;have e3:((z.cps.toList.map λc=>decide (48≤c∧c≤57)).all id)=lV z:=by rw[en,List.all_map];rfl
   rw[e3];exact k _ (cg.put (cg.refl H2) hD)
 ·apply⟨ρ,z,0,c0,rfl,rfl,hz',by rw[hc];exact aH (j:=0) rfl,rfl,ρ,?_⟩
  rw[e48];apply jq (λh3=>?_) (λh3=>?_)
  ·apply⟨ρ,z,rfl,hz',ς,ρ,?_⟩
   apply jq (λh4=>?_) (λh4=>?_)
   ·have h4:(1:Int)<(z.length:Int):=rQ h4
    rw[en,h3,rO (by lia:1<z.length)] at k0;exact k0
   ·have h4:¬(1:Int)<(z.length:Int):=λq=>h4 (rO q)
    exact⟨rfl,rfl,by rw[rP (by lia:¬1<z.length),Bool.and_false]⟩
  ·exact⟨rfl,rfl,by rw[gn.mpr h3,km]⟩
theorem scRead:cA pzc pzc (defScope sRead):=by trivial
theorem ok_readW (F:Fun K "read_whole" "read_whole" sRead f fd)(T:Nm mg)(C:Cs2 mg)(GN:Fn K mg "is_numeral" qe pzc f1 fd1):‹0› 2 f fd pzc qr:=by
 have FN:‹0› 1 f1 fd1 pzc spNumeral:=ok_numeral GN.F T C;specialize F.ok scRead;obtain ⟨i,rfl,hi,k⟩:=h;apply ⟨_,cZ (eO (mI (kr (pc1 GN FN hr (ah (pv 0) aw)))) (bD mz) cv)
  (bD (cb (ff call_int_str rfl T.tint boot_int (ah (pv 0) aw)))),?_⟩
 and_intros
 apply sq1 ?_
 intros
 apply⟨ρ,ρ,by have:=mD hi;lia,λH1 S1=>⟨ρ,?_⟩⟩;rw[numI_numeral hi];apply iQ rfl ?_;exact⟨ρ,_,i,rfl,numI_int hi,by have:=mD hi;lia,k H1 S1⟩
def nam (z:Str):Bool:=decide (1≤z.length) && (decide (z.length≤8) && z.cps.toList.all λc=>decide (97≤c∧c≤122))
theorem ltr_in (c:Nat):(!(cO ("abcdefghijklmnopqrstuvwxyz" :Str) ⟨#[c]⟩ 0 ("abcdefghijklmnopqrstuvwxyz" :Str).length 1).isEmpty)=decide (97≤c∧c≤122):=by
 rw[StrLaws.found_one];have e:("abcdefghijklmnopqrstuvwxyz" :Str).cps.toList=List.range' 97 26:=by trivial
 rw[e,decide_eq_decide,List.mem_range'_1];omega
inductive spNam (vs:List V)(H:Hp)(Q:VK)(_:XK):Prop
 | mk (z:Str)(_:vs=[.str z])(_:nam z=true)(_:∀H',cg H H'→Q (.str z) H')
abbrev sNam:cN:=top 25
theorem scNam:cA pzc pzc (defScope sNam):=by trivial
theorem ok_nam (F:Fun K "read_name" "read_name" sNam f fd)(T:Nm mg)(C:Cs2 mg):‹0› 1 f fd pzc spNam:=by
 specialize F.ok scNam;obtain ⟨z,rfl,hn,k⟩:=h;unfold nam at hn;simp only[bW,decide_eq_true_eq] at hn;obtain ⟨n1,n2,n3⟩:=hn;apply ⟨_,cZ (eO (PW.pt (ma (bK pA (bS kD rfl T.len aS (ah (pv 0) aw)) aC (cn _)) (ma (bK op_gt (bS kD rfl T.len aS (ah (pv 0) aw)) (qx C.ml) (cn _)) (kq (mI (kr (bS (call_all rfl) rfl T.all boot_all (ah (jP (fr:=[]) (js:=[]) rfl (pi_str (pv 0)) ⇑0 rfl ⇑0 rfl (by exists sNam) ⇑0 rfl ⇑0 (fun _ _ _ _ _=>⟨(iT op_in_str (pv 0) (pe_gstr C.ltr) rfl),j7⟩)) aw)))))))) (bD mz) cv)
  (bD (cb (pv 0))),?_⟩
 and_intros
 apply sq1 ?_
 intros
 have big:(100000:Nat)≤ax:=by decide
 have hz':z.length≤ax:=by lia
 apply⟨ρ,z,rfl,hz',ς,ρ,?_⟩;apply iQ (rP ⋯) ?_;apply⟨ρ,z,rfl,hz',ς,ρ,?_⟩;apply iQ (rP ⋯) ?_;apply⟨ρ,z,rfl,?_⟩;have hsz:z.cps.size=z.cps.toList.length:=by simp
 let pZ1:zW:=λi ys H2=>H2=H∧ys=(z.cps.toList.take i).map λc=>V.bl (decide (97≤c∧c≤122))
 apply comp_str pZ1 ⟨rfl,rfl⟩ (λi ys H2 hi ⟨e1,e2⟩=>?_) hz' (λi c ys H2 hx ⟨e1,e2⟩=>?_) (λys H2 ⟨e1,e2⟩ D hD=>?_)
 ·have:z.cps.toList.length=z.length:=by simp[Str.length]
  rw[e2,ae,aJ];lia
 ·subst e1
  apply jj ?_;apply⟨ρ,ς,rfl,?_⟩;have hx':z.cps.toList[i]? =some c:=by rw[kK];exact hx
  rw[e2,aQ,hx',av,ltr_in];rfl
 ·subst e1
  rw[hsz,bG] at e2;apply⟨D,z.cps.toList.map λc=>decide (97≤c∧c≤122),rfl,zL (by rw[aP,e2,b9];rfl),ρ,?_⟩;have e3:((z.cps.toList.map λc=>decide (97≤c∧c≤122)).all id)=true:=by rw[List.all_map];exact n3
  rw[e3];exact iQ rfl ⟨_,rfl,k _ (cg.put (cg.refl H2) hD)⟩
end HN
namespace L2
open PySem PySem.Spec PyProof.Rows
theorem ints_are:∀{ns:List Int} {us:List af},gZ (ns.map V.int) us→IntsAre us ns
 | [],_,.nil=>.nil
 | _::_,_,.cons ⟨_,e⟩ r=>by cases e;exact .cons _ _ (ints_are r)
theorem pls_ints:∀ns:List Int,pls (ns.map Dt.int)=true
 | []=>by unfold pls;rfl
 | n::r=>by rw[bo];unfold pls;rw[pls_ints r];unfold pl;rfl
theorem deps_ints:∀ns:List Int,deps (ns.map Dt.int)=0
 | []=>by unfold deps;rfl
 | n::r=>by rw[bo];unfold deps;rw[deps_ints r];unfold dep;rfl
theorem fm_some {α β:Type}{f:α→Option β}{g:α→β}:∀(l:List α),(∀x∈l,f x=some (g x))→l.filterMap f=l.map g
 | [],_=>rfl
 | x::l,h=>by rw[gT,h x ∅,bo,fm_some l λy hy=>h y (aO _ hy)]
theorem pick_back (xs:Array af):((cI xs.size).filterMap λ(k:Nat)=>xs[((xs.size:Int) - 1+(k:Int) * (-1)).toNat]?)=xs.toList.reverse:=by
 have e:∀k∈cI xs.size,(λ(k:Nat)=>xs[((xs.size:Int) - 1+(k:Int) * (-1)).toNat]?) k=some ((λk=>xs.toList.getD (xs.size - 1 - k) .none) k):=λk hk=>by
  have hk:=List.mem_range.mp hk;have:((xs.size:Int) - 1+(k:Int) * (-1)).toNat=xs.size - 1 - k:=by lia
  show xs[((xs.size:Int) - 1+(k:Int) * (-1)).toNat]? =some (xs.toList.getD (xs.size - 1 - k) .none);rw[this,br,kK,Array.getElem?_eq_getElem ⋯];rfl
 rw[fm_some _ e];apply List.ext_getElem ∅ λi h1 h2=>?_
 have hi:i<xs.size:=by simpa using h1
 rw[List.getElem_map,List.getElem_range,List.getElem_reverse,br,gE (by rw[gS];lia)];simp
theorem getItem_all {t sl:aq}{vl vu:af}{lo:Option Int}(ht:IsTup s.heap t items)(hs:s.heap.IsSliceOf sl vl vu .none)(pl:IsPart vl lo)(pu:IsPart vu hi)
  (hw:HT.sIx items.size 0 lo=0∧HT.sIx items.size items.size hi=items.size) (h:Q (.ref t) s):bc (bC prog w) A (getItem (.ref t) (.ref sl)) Q E s:=by
 obtain⟨os,hos,hcs,hds⟩:=id hs;have hTs:s.TypeIs (.ref sl) "slice":=⟨os,hos,hcs⟩;unfold getItem
 try with_reducible apply gx ?_
 first | apply ai (aI ?_) | skip
 apply ai (wpAny_sequenceKey ht.typeIs ↥0 ?_);apply ai (eP (name:=bU "__getitem__") ht.typeIs eh
  (ik eh ht.typeIs entry_tuple_getitem ?_ (args_tuple_getitem _ _)))
 show bc _ _ (eN.Tuple.tupleItemsOf (.ref t) >>= _) _ _ s;apply ai (tupleItemsOf_ ht ?_);apply ai (wpAny_typeOf hTs ?_);rw[rL ↥0];apply ai (HT.sliceApplied_gen hs pl pu ?_);show bc _ _ (if (((HT.sIx items.size 0 lo:Nat):Int) == 0 && (1:Int) == 1 && (HT.sIx items.size items.size hi - HT.sIx items.size 0 lo) == items.size)=true then _ else _) _ _ s;rw[hw.1,hw.2,Nat.sub_zero,rL ∅];unfold eN.Tuple.tupleIsExact;apply ai (ai (wpAny_typeOf ht.typeIs (aI ?_)));rw[rL ↥0];exact ai (wpAny_rule (aI ⟨_,rfl,aI h⟩))
theorem sl_tupN:SlR X (λx lo hi H Q=>∃a xs,x= .ref a∧H a=some (.tup xs)∧New H (.tup (cutV xs lo hi)) Q):=by
 intro aL s σ H x v vl vu lo hi sl Q I rx hs pl pu h;obtain⟨a,xs,rfl,hx,q⟩:=h
 by_cases hw:HT.sIx xs.length 0 lo=0∧HT.sIx xs.length xs.length hi=xs.length
 ·cases rx
  obtain⟨its,r,ht,hz⟩:=I.tuple (zT (K:=X.K) hx);have hlen:its.toArray.size=xs.length:=by rw[aE];exact r.length.symm
  apply⟨"tuple",_,eh.lookup,ht.typeIs,?_⟩;apply getItem_all ht hs pl pu (by rw[hlen];exact hw) ⟨.ref a,H,I,rfl,q a H (cg.refl H) ?_⟩;have e:cutV xs lo hi=xs:=by unfold cutV;rw[hw.1,hw.2,List.drop_zero,Nat.sub_zero,bG]
  rw[e];exact hx
 ·exact sl_tup aL s σ H _ v vl vu lo hi sl Q I rx hs pl pu ⟨a,xs,rfl,zT hx,hw,q.of⟩
theorem vals_back:∀{xs:List V} {us:List af},gZ xs us→gZ xs.reverse us.reverse
 | _,_,.nil=>.nil
 | _::_,_::_,.cons r t=>by rw[List.reverse_cons,List.reverse_cons];exact(vals_back t).append (.cons r .nil)
theorem call_sum (hc:X.calm=true):jn X (.builtin "sum") (λxs H Q=>∃(p:aq) (ns:List Int),xs=[.ref p]∧SqL X.K H p (ns.map V.int)∧Q (.int ns.sum) H):=by
 intro aL s σ H xs us Q I r h;obtain⟨p,ns,rfl,hq,q⟩:=h;obtain⟨u,rfl,ru⟩:=mM r;cases(show u=af.ref p from ru);obtain⟨its,rv,pl,hz⟩:=I.list hq;have hi:=ints_are rv;obtain⟨ys,hx⟩:=hi.allInts.items;have hl':s.heap.IsList p (intItems ys):=hx ▸ pl.isList;apply sum_intListG (I.ok.hd hc) hl' λh' tk t' hk=>?_
 have e1:ns=ys.toList.map (·.1):=by
  rw[←nums_intItems,←hx];exact(show numsOf its.toArray.toList=ns from hi.numsOf).symm
 have e2:preSum (numAt ys) ys.size=ns.sum:=by
  rw[preSum_eq,bR ∅,e1]
 rw[e2];exact⟨.int ns.sum,H,I.kept (t':=tk) hk,⟨t',rfl⟩,q⟩
section
variable {t:TA}
theorem k_non {j}:PEs X (.Constant .none j pos) (tC .non):=⟨ir⟩
theorem k_str {x j}:PEs X (.Constant (.str x) j pos) (tC (.str x)):=⟨dU⟩
end
theorem k_lstF {t:TA}(h:PAs X es t):PEs X (.List es pos) (tLst t):=⟨kL h.h⟩
theorem pick_backL (its:List af):slicePick its.toArray none none (some (-1))=its.reverse.toArray:=by
 unfold slicePick;have e0:jK none none (some (-1)) its.toArray.size=((its.length:Int) - 1,-1,-1):=by
  rw[aE];rfl
 rw[e0];show((sliceRange ((its.length:Int) - 1) (-1) (-1)).filterMap (its.toArray[·]?)).toArray=_;unfold sliceRange;have ec:(if (-1:Int) > 0 then (if (its.length:Int) - 1< -1 then (-1 - ((its.length:Int) - 1)+ -1 - 1) / -1 else 0) else (if (its.length:Int) - 1 > -1 then ((its.length:Int) - 1 - -1 - -1 - 1) / (- -1) else 0))=(its.length:Int):=by
  rw[rK ↥0,show -(-1:Int)=1 from rfl,Int.ediv_one];split <;> lia
 show(((cI (if (-1:Int) > 0 then (if (its.length:Int) - 1< -1 then (-1 - ((its.length:Int) - 1)+ -1 - 1) / -1 else 0) else (if (its.length:Int) - 1 > -1 then ((its.length:Int) - 1 - -1 - -1 - 1) / (- -1) else 0)).toNat).map λ(k:Nat)=>((its.length:Int) - 1+ -1 * (k:Int)).toNat).filterMap (its.toArray[·]?)).toArray=_;rw[ec,gq,List.filterMap_map];have h:=pick_back its.toArray;rw[aE] at h;congr 1;rw[←h];apply rR (λf=>kj f (cI its.length)) (funext λk=>?_);show its.toArray[((its.length:Int) - 1+ -1 * (k:Int)).toNat]? =its.toArray[((its.length:Int) - 1+(k:Int) * (-1)).toNat]?;rw[Int.mul_comm]
def tBackL (te:TE):TE:=λσ H Q=>te σ H λx H1=>∃a xs,x= .ref a∧H1 a=some (.lst xs)∧New H1 (.lst xs.reverse) Q
theorem pe_backL {p1 p3:Pos}{j}(he:PE X e te):PE X (.Subscript e (.Slice none none (some (.UnaryOp .USub (.Constant (.int 1) j p3) p1)) p2) pos) (tBackL te):=by
 intro aL s σ H Q I h;apply Subscript_ (thn (he aL s σ H _ I h) λv s1 hz0=>?_);obtain⟨x,H1,I1,r1,q1⟩:=hz0;obtain⟨a,xs,rfl,hx,q⟩:=q1;apply wpAny_Slice ?_;rw[evalPart_none,evalPart_some];apply aI (aI ?_);apply thn ((pe_un qk aC:PE X (.UnaryOp .USub (.Constant (.int 1) j p3) p1) _) aL s1 σ H1 (λx H2=>x= .int (-1)∧H2=H1) I1 ⟨_,rfl,rfl,rfl⟩) λu s2 hz0=>?_
 obtain⟨x2,H2,I2,r2,e2,e3⟩:=hz0;subst e2 e3;obtain⟨t,rfl⟩:=r2;cases r1;have I4:Inv X aL σ H2 { s2 with heap:=s2.heap.push { cls:=.type "slice",data:=.fields #[.none,.none,.int (-1) t] } }:=I2.kept (t':=s2.toks) λb ob q=>ar _ q
 obtain⟨its,r,ht,hz⟩:=I4.list (zL (K:=X.K) hx);have hlen:its.length=xs.length:=r.length.symm;apply tail_any (ops:=[.ref a,.ref s2.heap.objs.size]) ht.isList.typeIs ng.lookup (nH ht.isList (bP.IsSliceOf.new ..) .none .none (.int (-1) t) ↥0 ?_ (by rw[aE,hlen];exact hz)) (by with_unfolding_all rfl);rw[pick_backL];apply⟨.ref _,_,I4.laid (t':=s2.toks) (o:=.lst xs.reverse) (λ_ _ z=>ar _ z) (aA _) ⟨by rw[List.length_reverse];exact hz,its.reverse,0,vals_back r,aU _ rfl⟩,rfl,q.of _ I4.fresh⟩
def evs {α:Type}:List α→List α
 | []=>[]
 | [x]=>[x]
 | x::_::r=>x::evs r
theorem evs_pick {α:Type}:∀(l pre:List α),((cI ((l.length+1) / 2)).map λk=>pre.length+2 * k).filterMap ((pre++l)[·]?)=evs l
 | [],pre=>by simp[evs]
 | [x],pre=>by
  have e:([x].length+1) / 2=1:=by simp
  rw[e];simp[evs]
 | x::y::r,pre=>by
  have ih:=evs_pick r (pre++[x,y]);have e:((x::y::r).length+1) / 2=(r.length+1) / 2+1:=by simp only[aG];lia
  rw[e,List.range_succ_eq_map,bo,gT];have h0:(pre++x::y::r)[pre.length+2 * 0]? =some x:=by simp
  rw[h0];show x::_=x::evs r;congr 1;rw[←ih,b9];have e2:pre++[x,y]++r=pre++x::y::r:=by simp
  rw[e2];congr 1;apply dm λk _=>?_
  show pre.length+2 * (k+1)=(pre++[x,y]).length+2 * k;rw[ao];show _=pre.length+2+2 * k;lia
theorem qL {α β:Type}(f:α→β):∀l:List α,(evs l).map f=evs (l.map f)
 | []=>rfl
 | [_]=>rfl
 | _::_::r=>rR _ (qL f r)
theorem evs_len {α:Type}:∀l:List α,(evs l).length=(l.length+1) / 2
 | []=>by simp[evs]
 | [_]=>by simp[evs]
 | _::_::r=>by
  show(evs r).length+1=(r.length+1+1+1) / 2;rw[evs_len r];lia
theorem vals_evs:∀{xs:List V} {us:List af},gZ xs us→gZ (evs xs) (evs us)
 | [],_,h=>by cases h;exact .nil
 | [_],_,h=>by
  cases h with
  | cons r h=>cases h;exact .cons r .nil
 | _::_::_,_,h=>by
  cases h with
  | cons r h =>
   cases h with
   | cons _ t=>exact .cons r (vals_evs t)
theorem vals_drop:∀{xs:List V} {us:List af} (n:Nat),gZ xs us→gZ (xs.drop n) (us.drop n)
 | _,_,0,h=>h
 | _,_,_+1,.nil=>.nil
 | _,_,n+1,.cons _ t=>vals_drop n t
theorem pick_two (its:List af){a:Nat}(ha:a≤its.length):slicePick its.toArray (some (a:Int)) none (some 2)=(evs (its.drop a)).toArray:=by
 unfold slicePick;have e0:jK (some (a:Int)) none (some 2) its.toArray.size=((a:Int),(its.length:Int),2):=by
  rw[aE];show(max 0 (min (if (a:Int)<0 then (a:Int)+its.length else (a:Int)) (its.length:Int)),(its.length:Int),(2:Int))=_;rw[rK ⋯,Int.min_eq_left ⋯,Int.max_eq_right ⋯]
 rw[e0];congr 1;show((cI (if (2:Int) > 0 then (if (a:Int)<(its.length:Int) then ((its.length:Int) - a+2 - 1) / 2 else 0) else _).toNat).map λ(k:Nat)=>((a:Int)+2 * (k:Int)).toNat).filterMap (its.toArray[·]?)=_;rw[rL ↥0];have ec:(if (a:Int)<(its.length:Int) then ((its.length:Int) - a+2 - 1) / 2 else 0).toNat=((its.drop a).length+1) / 2:=by
  rw[bE];split <;> lia
 rw[ec,←evs_pick (its.drop a) (its.take a),eW,aJ,du ha];have e1:((cI (((its.drop a).length+1) / 2)).map λ(k:Nat)=>((a:Int)+2 * (k:Int)).toNat)=(cI (((its.drop a).length+1) / 2)).map λk=>a+2 * k:=dm λk _=>by lia
 rw[e1];apply rR (λf=>kj f _) (funext λk=>?_);simp
def tTwoL (K:ak)(a:Nat)(te:TE):TE:=λσ H Q=>te σ H λx H1=>∃p xs,x= .ref p∧SqL K H1 p xs∧a≤xs.length∧New H1 (.lst (evs (xs.drop a))) Q
theorem qw {a:Nat}{p1 p3:Pos}{j1 j2}(he:PE X e te):PE X (.Subscript e (.Slice (some (.Constant (.int (a:Int)) j1 p1)) none (some (.Constant (.int 2) j2 p3)) p2) pos) (tTwoL X.K a te):=by
 intro aL s σ H Q I h;apply Subscript_ (thn (he aL s σ H _ I h) λv s1 hz0=>?_);obtain⟨x,H1,I1,r1,q1⟩:=hz0;obtain⟨p,xs,rfl,hx,hl,q⟩:=q1;apply wpAny_Slice ?_;rw[evalPart_none,evalPart_some,evalPart_some];apply thn ((aC:PE X (.Constant (.int (a:Int)) j1 p1) _) aL s1 σ H1 (λx H2=>x= .int (a:Int)∧H2=H1) I1 ⟨rfl,rfl⟩) λu1 s2 hz0=>?_
 obtain⟨x2,H2,I2,r2,e2,e3⟩:=hz0;subst e2 e3;obtain⟨t1,rfl⟩:=r2;apply aI ?_;apply thn ((aC:PE X (.Constant (.int 2) j2 p3) _) aL s2 σ H2 (λx H3=>x= .int 2∧H3=H2) I2 ⟨rfl,rfl⟩) λu3 s3 hz0=>?_
 obtain⟨x3,H3,I3,r3,e4,e5⟩:=hz0;subst e4 e5;obtain⟨t3,rfl⟩:=r3;cases r1;have I4:Inv X aL σ H3 { s3 with heap:=s3.heap.push { cls:=.type "slice",data:=.fields #[.int (a:Int) t1,.none,.int 2 t3] } }:=I3.kept (t':=s3.toks) λb ob q=>ar _ q
 obtain⟨its,r,ht,hz⟩:=I4.list hx;have hlen:its.length=xs.length:=r.length.symm;apply tail_any (ops:=[.ref p,.ref s3.heap.objs.size]) ht.isList.typeIs ng.lookup (nH ht.isList (bP.IsSliceOf.new ..) (.int _ t1) .none (.int 2 t3) ↥0 ?_ (by rw[aE,hlen];exact hz)) (by with_unfolding_all rfl);rw[pick_two its ⋯];have el:(evs (xs.drop a)).length≤ax:=by
  rw[evs_len,bE];lia
 apply⟨.ref _,_,I4.laid (t':=s3.toks) (o:=.lst (evs (xs.drop a))) (λ_ _ z=>ar _ z) (aA _) ⟨el,evs (its.drop a),0,vals_evs (vals_drop a r),aU _ rfl⟩,rfl,q.of _ I4.fresh⟩
end L2
namespace HN
open PySem L2 PyProof.Rows HT2
local macro_rules
 |`(tactic|and_intros)=>`(tactic|try dsimp only[cxK])
abbrev sBeatR:cN:=top 26
abbrev sLineR:cN:=top 27
inductive spBeatR (vs:List V)(H:Hp)(Q:VK)(_:XK):Prop
 | mk (z:Str)(b:Int)(_:vs=[.str z])(_:z.length≤100000)(_:c8 z sp_=[("beat" :Str),lH b])(_:W60 b)(_:∀p H',cg H H'→H' p=some (.tup [.str "beat",.int b])→Q (.ref p) H')
structure LnW (ws:List Str)(n:Str)(ss:List Str)(rs:List Int):Prop where
 five:5≤ws.length
 few:ws.length≤100000
 odd:ws.length % 2=1
 name:ws[1]? =some n
 stops:evs (ws.drop 2)=ss
 runs:evs (ws.drop 3)=rs.map lH
 nn:nam n=true
 sn:∀z∈ss,nam z=true
 rn:∀i∈rs,W60 i
inductive spLineR (vs:List V)(H:Hp)(Q:VK)(_:XK):Prop
 | mk (L:aq)(ws:List Str)(n:Str)(ss:List Str)(rs:List Int)(_:vs=[.ref L])(_:H L=some (.lst (ws.map V.str)))(_:LnW ws n ss rs)(_:∀p a b H',cg H H'→H' a=some (.tup (ss.map V.str))→H' b=some (.tup (rs.map V.int))→H' p=some (.tup [.str "line",.str n,.ref a,.ref b])→Q (.ref p) H')
theorem scBeatR:cA ["row","words"] ["row"] (defScope sBeatR):=by trivial
theorem ok_beatR (F:Fun K "read_beat" "read_beat" sBeatR f fd)(T:Nm mg)(GW:Fn K mg "read_whole" sRead pzc f1 fd1)(FW:‹0› 2 f1 fd1 pzc qr):‹0› 3 f fd ["row"] spBeatR:=by
 specialize F.ok scBeatR;obtain ⟨z,b,rfl,hz,hs,hb,k⟩:=h;apply ⟨_,cZ (psZ 1 scBeatR.nd (jQ fW PySem.F.slot_str_split PySem.F.type_str_split mt_split (pv 0) (ah dU aw)))
  (cZ (eO (PW.pt (ma (bK pz (bS bO rfl T.len aS (ah (pv 1) aw)) aC (cn _)) (kq (bK pz (cE aW (pv 1) aC (fun _ _=>rfl)) dU (cn _))))) (bD mz) cv)
  (bD (cb (fY (ah dU (ah (pc1 GW FW hr (ah (cE aW (pv 1) aC (fun _ _=>rfl)) aw)) aw)))))),?_⟩
 and_intros
 apply sq2 ?_
 intros
 have one:((sp_:Str).length == 0)=false:=by trivial
 apply⟨ρ,rfl,ς,one,cB (show _≤200000 by lia) ↥0,λL H1 S1 e1=>?_⟩;have e1:H1 L=some (.lst ((c8 z sp_).map V.str)):=e1;rw[hs] at e1;have e1:H1 L=some (.lst [V.str ("beat" :Str),V.str (lH b)]):=e1;apply⟨ρ,L,ρ,.inl (zL e1),rfl,ρ,iQ (by show(!decide (V.int ((2:Nat):Int)=V.int 2))=false;decide) ?_⟩;apply⟨ρ,L,τ,zL e1,aH (j:=0) rfl,rfl,ρ,iQ ⇑0 ?_⟩;apply⟨ρ,L,τ,zL e1,aH (j:=1) rfl,b,rfl,hb,λH2 S2=>?_⟩;exact⟨qW,λp H4 S4 e4=>k p H4 (S1.trans (S2.trans S4)) e4⟩
theorem scLineR:cA ["words","stops","runs"] ["words"] (defScope sLineR):=by trivial
theorem ok_lineR (F:Fun K "read_line" "read_line" sLineR f fd)(T:Nm mg)(GN:Fn K mg "read_name" sNam pzc f1 fd1)(FN:‹0› 1 f1 fd1 pzc spNam)(GW:Fn K mg "read_whole" sRead pzc f2 fd2)(FW:‹0› 2 f2 fd2 pzc qr):‹0› 3 f fd ["words"] spLineR:=by
 specialize F.ok scLineR;obtain ⟨L,ws,n,ss,rs,rfl,hL,W,k⟩:=h;have hr1:=hr.mono (show 1≤2 by lia);apply ⟨_,cZ (eO (PW.pt (ma (bK pA (bS bO rfl T.len aS (ah (pv 0) aw)) aC (cn _)) (kq (bK iM (cw pP (bS bO rfl T.len aS (ah (pv 0) aw)) aC) aC (cn _))))) (bD mz) cv)
  (cZ (psZ 1 scLineR.nd (ff jV rfl T.ttup jL (ah (jP (fr:=[]) (js:=[]) rfl (gK (qw (a:=2) (pv 0))) ⇑0 rfl ⇑0 rfl (by exists sLineR) ⇑0 rfl ⇑0 (fun _ _ _ _ _=>⟨(pc1 GN FN hr1 (ah (pv 0) aw)),j7⟩)) aw)))
  (cZ (psZ 2 scLineR.nd (ff jV rfl T.ttup jL (ah (jP (fr:=[]) (js:=[]) rfl (gK (qw (a:=3) (pv 0))) ⇑0 rfl ⇑0 rfl (by exists sLineR) ⇑0 rfl ⇑0 (fun _ _ _ _ _=>⟨(pc1 GW FW hr (ah (pv 0) aw)),j7⟩)) aw)))
  (bD (cb (fY (ah dU (ah (pc1 GN FN hr1 (ah (cE aW (pv 0) aC (fun _ _=>rfl)) aw)) (ah (pv 1) (ah (pv 2) aw))))))))),?_⟩
 and_intros
 apply sq3 ?_
 intros
 have hlw:(ws.map V.str).length=ws.length:=ae _;have w1:=W.five;have w2:=W.few;have w3:=W.odd;have big:(200000:Nat)≤ax:=by decide
 apply⟨ρ,L,ρ,.inl (zL hL),ς,ρ,iQ (rP (by rw[hlw];lia)) ?_⟩;apply⟨ρ,L,ρ,.inl (zL hL),ς,(by show(0:Int)<2;decide),rfl,ρ,iQ ?_ ?_⟩
 ·rw[hlw]
  apply rP λz=>?_
  injection z with z
  lia
 apply⟨ρ,L,ρ,zL hL,by rw[hlw];lia,λD1 H1 S1 d1=>?_⟩;rw[←fZ,←qL,W.stops] at d1;have ls:ss.length≤200000:=by rw[←W.stops,evs_len,bE];lia
 have lr:rs.length≤200000:=by
  have:=rR g9 W.runs;rw[evs_len,bE,ae] at this;lia
 apply⟨D1,rfl,⟨_,zL d1⟩,?_⟩;apply ic (K:=K) (a:=D1) (xs:=ss.map V.str) (λj zs H3=>cg H1 H3∧zs=(ss.take j).map V.str) ⟨cg.refl _,rfl⟩ (λj zs H3 hj ⟨g1,g2⟩=>?_) (by rw[ae];lia) (λj x zs H3 hx3 ⟨g1,g2⟩=>?_) (λzs H3 ⟨g1,g2⟩ D hD=>?_)
 ·apply⟨zL (g1 _ _ d1),?_⟩
  rw[g2,ae,aJ];lia
 ·rw[ay] at hx3
  obtain⟨z,hn3,rfl⟩:=bp.mp hx3;apply jj ?_;apply⟨ρ,z,rfl,W.sn z (aD hn3),λH4 S4=>⟨g1.trans S4,?_⟩⟩;rw[g2,aQ,hn3,av];rfl
 rw[ae,bG] at g2;apply⟨D,zs,rfl,zL aP,λa H4 S4 e4=>?_⟩;rw[g2] at e4;have S5:cg H H4:=S1.trans (g1.trans (cg.trans (cg.put (cg.refl H3) hD) S4));apply⟨ρ,L,ρ,zL (S5 _ _ hL),by rw[hlw];lia,λD2 H6 S6 d2=>?_⟩;rw[←fZ,←qL,W.runs] at d2;apply⟨D2,rfl,⟨_,zL d2⟩,?_⟩;apply ic (K:=K) (a:=D2) (xs:=(rs.map lH).map V.str) (λj zs H3=>cg H6 H3∧zs=(rs.take j).map V.int) ⟨cg.refl _,rfl⟩ (λj zs H3 hj ⟨g1,g2⟩=>?_) (by rw[ae,ae];lia) (λj x zs H3 hx3 ⟨g1,g2⟩=>?_) (λzs2 H7 ⟨g3,g4⟩ D' hD'=>?_)
 ·apply⟨zL (g1 _ _ d2),?_⟩
  rw[g2,ae,aJ];lia
 ·rw[b9,ay] at hx3
  obtain⟨i,hn3,rfl⟩:=bp.mp hx3;apply jj ?_;apply⟨ρ,i,rfl,W.rn i (aD hn3),λH4 S4=>⟨g1.trans S4,?_⟩⟩;rw[g2,aQ,hn3,av];rfl
 rw[ae,ae,bG] at g4;apply⟨D',zs2,rfl,zL aP,λb H8 S8 e8=>?_⟩;rw[g4] at e8;have S9:cg H4 H8:=S6.trans (g3.trans (cg.trans (cg.put (cg.refl H7) hD') S8));apply⟨ρ,L,τ,zL (S9 _ _ (S5 _ _ hL)),aH (j:=1) (by rw[ay,W.name];rfl),n,rfl,W.nn,λH10 S10=>?_⟩;exact⟨ρ,ρ,szZ4,λp H11 S11 e11=>k p a b H11 (S5.trans (S9.trans (S10.trans S11))) ((S9.trans (S10.trans S11)) _ _ e4) ((S10.trans S11) _ _ e8) e11⟩
end HN
namespace L2
open PySem PySem.Spec PyProof.Rows
section
variable {κ:Type} [DecidableEq κ]
def l9 (kvs:List (κ×V))(k:κ):Option V:=(kvs.find? λkv=>decide (kv.1=k)).map (·.2)
def putK (kvs:List (κ×V))(k:κ)(v:V):List (κ×V):=
 if (kvs.any λkv=>decide (kv.1=k))=true then kvs.map (λkv=>if kv.1=k then (kv.1,v) else kv) else kvs++[(k,v)]
theorem jC {p:κ×V}{r:List (κ×V)}{k:κ}(e:p.1=k):l9 (p::r) k=some p.2:=by simp[l9,jX,e]
theorem ji {p:κ×V}{r:List (κ×V)}{k:κ}(e:¬p.1=k):l9 (p::r) k=l9 r k:=by simp[l9,jX,e]
theorem oo (k:κ):∀kvs:List (κ×V),(kvs.any λkv=>decide (kv.1=k))=(l9 kvs k).isSome
 | []=>rfl
 | p::r=>by
  rw[jh]
  by_cases e:p.1=k
  ·simp only[jC e,rO e,Bool.true_or,Option.isSome_some]
  ·rw[ji e,rP e,Bool.false_or];exact oo k r
theorem valV_map (k j:κ)(y:V):∀kvs:List (κ×V),l9 (kvs.map λkv=>if kv.1=k then (kv.1,y) else kv) j=(l9 kvs j).map λx=>if j=k then y else x
 | []=>rfl
 | p::r=>by
  have ih:=valV_map k j y r;rw[bo]
  by_cases h:p.1=k
  ·rw[rL h]
   by_cases e:p.1=j
   ·rw[jC (p:=(p.1,y)) e,jC e,k6,rL (e.symm.trans h)]
   ·rw[ji (p:=(p.1,y)) e,ji e,ih]
  ·rw[rK h]
   by_cases e:p.1=j
   ·rw[jC (p:=p) e,jC e,k6,rK (λz=>h (e.trans z))]
   ·rw[ji (p:=p) e,ji e,ih]
theorem valV_snoc (k j:κ)(y:V):∀kvs:List (κ×V),l9 kvs k=none→l9 (kvs++[(k,y)]) j=if j=k then some y else l9 kvs j
 | [],_=>by
  by_cases e:k=j
  ·rw[rL e.symm];exact jC (p:=(k,y)) e
  ·rw[rK (λz=>e z.symm)];exact ji (p:=(k,y)) e
 | p::r,hn=>by
  rw[List.cons_append];have hk:¬p.1=k:=λz=>by rw[jC z] at hn;cases hn
  rw[ji hk] at hn;have ih:=valV_snoc k j y r hn
  by_cases e:p.1=j
  ·rw[jC e,jC e,rK (λz=>hk (e.trans z))]
  ·rw[ji e,ji e,ih]
theorem valV_put (kvs:List (κ×V))(k j:κ)(y:V):l9 (putK kvs k y) j=if j=k then some y else l9 kvs j:=by
 unfold putK
 by_cases a:(kvs.any λkv=>decide (kv.1=k))=true
 ·rw[rL a,valV_map]
  rw[oo] at a
  by_cases e:j=k
  ·obtain⟨x,hx⟩:=mx.mp a
   rw[rL e,e,hx,k6,rL rfl]
  ·rw[rK e]
   cases l9 kvs j with
   | none=>rfl
   | some x=>rw[k6,rK e]
 ·rw[rK a]
  apply valV_snoc k j y kvs ?_;rw[oo] at a;cases q:l9 kvs k with
  | none=>rfl
  | some x=>rw[q] at a;exact(a rfl).elim
theorem nY (kvs:List (κ×V))(k:κ)(v:V):(putK kvs k v).length≤kvs.length+1:=by
 unfold putK;split
 ·rw[ae];lia
 ·rw[ao,aG,gQ];lia
theorem qU.isSome_eq {o:Option V}{u:Option af}(r:qU o u):o.isSome=u.isSome:=by
 cases o with
 | none=>cases u with
  | none=>rfl
  | some _=>exact(show False from r).elim
 | some _=>cases u with
  | none=>exact(show False from r).elim
  | some _=>rfl
theorem qU.getD {o:Option V}{u:Option af}{d:V}{d':af}(r:qU o u)(rd:iY d d'):iY (o.getD d) (u.getD d'):=by
 cases o with
 | none=>cases u with
  | none=>exact rd
  | some _=>exact(show False from r).elim
 | some _=>cases u with
  | none=>exact(show False from r).elim
  | some _=>exact r
theorem KV.val {kvs:List (κ×V)}{vs:List (κ×af)}(r:KV kvs vs)(k:κ):qU (l9 kvs k) (valueAt vs k):=by
 unfold KV at r
 induction r with
 | nil=>exact True.intro
 | @cons p q ps qs h t ih =>
  obtain⟨h1,h2⟩:=h
  by_cases e:p.1=k
  ·have e':q.1=k:=h1.symm.trans e
   have b:valueAt (q::qs) k=some q.2:=by simp[valueAt,jX,e']
   rw[jC e,b];exact h2
  ·have e':¬q.1=k:=λz=>e (h1.trans z)
   have b:valueAt (q::qs) k=valueAt qs k:=by simp[valueAt,jX,e']
   rw[ji e,b];exact ih
theorem KV.any {kvs:List (κ×V)}{vs:List (κ×af)}(r:KV kvs vs)(k:κ):(kvs.any λkv=>decide (kv.1=k))=vs.any λkv=>decide (kv.1=k):=by
 unfold KV at r
 induction r with
 | nil=>rfl
 | cons h t ih=>rw[jh,jh,ih,h.1]
theorem KV.repl {kvs:List (κ×V)}{vs:List (κ×af)}(r:KV kvs vs)(k:κ)(ry:iY y u) :
  KV (kvs.map λkv=>if kv.1=k then (kv.1,y) else kv) (vs.map λkv=>if kv.1=k then (kv.1,u) else kv):=by
 unfold KV at r ⊢
 induction r with
 | nil=>exact .nil
 | @cons p q ps qs h t ih =>
  rw[bo,bo];apply .cons ?_ ih;obtain⟨h1,h2⟩:=h
  by_cases e:p.1=k
  ·rw[rL e,rL (h1.symm.trans e)];exact⟨h1,ry⟩
  ·rw[rK e,rK (λz=>e (h1.trans z))];exact⟨h1,h2⟩
theorem KV.put {kvs:List (κ×V)}{vs:List (κ×af)}(r:KV kvs vs)(k:κ)(ry:iY y u):KV (putK kvs k y) (stored vs k u):=by
 unfold putK stored;rw[r.any k]
 by_cases e:(vs.any λkv=>decide (kv.1=k))=true
 ·rw[rL e,rL e];exact r.repl k ry
 ·rw[rK e,rK e];exact Paired.snoc r ⟨rfl,ry⟩
theorem KV.length {kvs:List (κ×V)}{vs:List (κ×af)}(r:KV kvs vs):kvs.length=vs.length:=Paired.length r
end
theorem kV_is {k:Key}(r:iY (kV k) u):(gU P w).is k u=true:=by
 cases k with
 | inl i=>obtain⟨t,e⟩:=(show ∃t,u=af.int i t from r);subst e;exact mixKind_int P w i t
 | inr x=>obtain⟨t,e⟩:=(show ∃t,u=af.str x t from r);subst e;exact nW P w x t
theorem items_are {P:aN}{w:bq}:∀{ks:List Key} {us:List af},gZ (ks.map kV) us→ItemsAre (gU P w) ks us
 | [],_,r=>by rw[List.map_nil] at r;cases r;exact .nil
 | k::ks,_,r=>by
  rw[bo] at r;cases r with
  | cons h t=>exact .cons (kV_is h) (items_are t)
abbrev KT (H:Hp):List (List Key×V)→List (List Key×aq×af)→Prop:=Paired λp q=>p.1=q.1∧H q.2.1=some (.tup (p.1.map kV))∧iY p.2 q.2.2
theorem KT.val {xs:List (List Key×aq×af)}(r:KT H kvs xs)(k:List Key):qU (l9 kvs k) ((atKey xs k).map (·.2)):=by
 induction r with
 | nil=>exact True.intro
 | @cons p q ps qs h t ih =>
  obtain⟨h1,_,h2⟩:=h
  by_cases e:p.1=k
  ·have e':q.1=k:=h1.symm.trans e
   have b:atKey (q::qs) k=some q.2:=by simp[atKey,jX,e']
   rw[jC e,b];exact h2
  ·have e':¬q.1=k:=λz=>e (h1.trans z)
   have b:atKey (q::qs) k=atKey qs k:=by simp[atKey,jX,e']
   rw[ji e,b];exact ih
theorem KT.repl {xs:List (List Key×aq×af)}(r:KT H kvs xs)(k:List Key)(ry:iY y u) :
  KT H (kvs.map λkv=>if kv.1=k then (kv.1,y) else kv) (xs.map (putAt k u)):=by
 induction r with
 | nil=>exact .nil
 | @cons p q ps qs h t ih =>
  rw[bo,bo];apply .cons ?_ ih;obtain⟨h1,h2,h3⟩:=h;unfold putAt
  by_cases e:p.1=k
  ·rw[rL e,rL (h1.symm.trans e)];exact⟨h1,h2,ry⟩
  ·rw[rK e,rK (λz=>e (h1.trans z))];exact⟨h1,h2,h3⟩
theorem KT.put {xs:List (List Key×aq×af)}(r:KT H kvs xs)(k:List Key){b:aq}(hb:H b=some (.tup (k.map kV)))(ry:iY y u) :
  KT H (putK kvs k y) (storedH xs k b u):=by
 have e:(kvs.any λkv=>decide (kv.1=k))=(atKey xs k).isSome:=by
  rw[oo,(r.val k).isSome_eq,Option.isSome_map]
 unfold putK storedH;rw[e]
 by_cases q:(atKey xs k).isSome=true
 ·rw[rL q,rL q];exact r.repl k ry
 ·rw[rK q,rK q];exact Paired.snoc r ⟨rfl,hb,ry⟩
theorem KT.keeps {xs:List (List Key×aq×af)}(r:KT H kvs xs)(ht:∀b ys,H b=some (.tup ys)→H' b=some (.tup ys)):KT H' kvs xs:=
 Paired.mapP r λ_ _ z=>⟨z.1,ht _ _ z.2.1,z.2.2⟩
section
variable {h:bP}
theorem rd_of {u:HO}(ok:HOk P w H h)(e:Rd H a u):iE P w H h a u:=e.ok ok
theorem dk_rd {kvs:List (Key×V)}(ok:HOk P w H h)(e:Rd H a (.dK kvs)):kvs.length≤ax∧(a == gY)=false∧∃vs,KV kvs vs∧h.DictOf (gU P w) a vs:=
 show iE P w H h a (.dK kvs) from rd_of ok e
theorem dk_of {kvs:List (Key×V)}(ok:HOk P w H h)(e:H a=some (.dK kvs)):kvs.length≤ax∧(a == gY)=false∧∃vs,KV kvs vs∧h.DictOf (gU P w) a vs:=dk_rd ok (.inl e)
theorem key_of {ks:List Key}(ok:HOk P w H h)(e:H a=some (.tup (ks.map kV))):(tupleKind (gU P w)).is h ks a:=by
 obtain⟨_,its,r,o,h1,h2,_,n,h3⟩:=(show iE P w H h a (.tup (ks.map kV)) from ok a _ e);exact⟨o,its.toArray,n,h1,h2,h3,by simpa using items_are r⟩
theorem dt_rd (ok:HOk P w H h)(e:Rd H a (.dT kvs)):kvs.length≤ax∧(a == gY)=false ∧
  ∃xs,KT H kvs xs∧h.DictOfH (tupleKind (gU P w)) a xs:=by
 obtain⟨z,y,xs,r,o,es,ep,h1,h2,h3,h4,h5⟩:=(show iE P w H h a (.dT kvs) from rd_of ok e);apply⟨z,y,xs,r,o,es,ep,h1,h2,h3,h4,λx hx=>?_,h5⟩;have all:∀{l:List (List Key×V)} {m:List (List Key×aq×af)},KT H l m→∀x∈m,(tupleKind (gU P w)).is h x.1 x.2.1:=by
  intro l m q
  induction q with
  | nil=>intro x hx;exact nomatch hx
  | @cons p q ps qs hq t ih =>
   intro x hx
   rcases az.mp hx with e | hx
   ·subst e
    exact key_of ok (by rw[←hq.1];exact hq.2.1)
   ·exact ih x hx
 exact all r x hx
theorem dt_of (ok:HOk P w H h)(e:H a=some (.dT kvs)):kvs.length≤ax∧(a == gY)=false ∧
  ∃xs,KT H kvs xs∧h.DictOfH (tupleKind (gU P w)) a xs:=dt_rd ok (.inl e)
end
def DGet (H:Hp)(a:aq)(y:V)(r:Option V):Prop:=
 (∃kvs k,Rd H a (.dK kvs)∧y=kV k∧r=l9 kvs k)∨∃kvs k b,Rd H a (.dT kvs)∧y= .ref b∧H b=some (.tup (k.map kV))∧r=l9 kvs k
def DPut (H:Hp)(a:aq)(y v:V)(H':Hp):Prop:=
 (∃kvs k,H a=some (.dK kvs)∧y=kV k∧kvs.length<ax∧H'=upd H a (.dK (putK kvs k v))) ∨
 ∃kvs k b,H a=some (.dT kvs)∧y= .ref b∧H b=some (.tup (k.map kV))∧kvs.length<ax∧H'=upd H a (.dT (putK kvs k v))
theorem DGet.t {b:aq}{k:List Key}(e:H a=some (.dT kvs))(eb:H b=some (.tup (k.map kV))):DGet H a (.ref b) (l9 kvs k):=.inr ⟨kvs,k,b,.inl e,rfl,eb,rfl⟩
theorem DPut.t {b:aq}{k:List Key}(e:H a=some (.dT kvs))(eb:H b=some (.tup (k.map kV)))(hl:kvs.length<ax) :
  DPut H a (.ref b) v (upd H a (.dT (putK kvs k v))):=.inr ⟨kvs,k,b,e,rfl,eb,hl,rfl⟩
section
variable {r:af}{o:Option V}
theorem d_in (hu:A.units+1<kU)(I:Inv X aL σ H s)(g:DGet H a y o)(ry:iY y u)(h:∀s',Inv X aL σ H s'→Q (.bool o.isSome) s') :
  bc (bC X.prog X.w) A (dA .In u (.ref a)) Q E s:=by
 rcases g with ⟨kvs,k,e,ey,l⟩ | ⟨kvs,k,b,e,ey,eb,l⟩
 ·subst ey
  obtain⟨z,hd,vs,rel,dd⟩:=dk_rd I.hok e;apply wpAny_in_of (kV_is ry) hd dd.mapOf ?_;rw[←(rel.val k).isSome_eq,←l];exact h _ (I.tok _)
 ·subst ey
  cases(show u=af.ref b from ry);obtain⟨z,hd,xs,rel,dd⟩:=dt_rd I.hok e;apply wpAny_in_heap (mJ hu) (key_of I.hok eb) hd dd ?_;have q:=(rel.val k).isSome_eq;rw[Option.isSome_map] at q;rw[←q,←l];exact h _ (I.tok _)
theorem d_write {ob:HO}(I:Inv X aL σ H s)(mu:Mut (H a))(hs:cQ a s.heap h')(he:∃q,h'.get? a=some q)(new:iE X.prog X.w (upd H a ob) h' a ob) :
  Inv X aL σ (upd H a ob) { s with heap:=h',toks:=t' }:=
 I.write (x:=a) (e:=a) mu (.inl rfl) (λb q hb z=>(hs.2 b hb).trans z) he new
theorem dk_new {kvs:List (Key×V)}{vs:List (Key×af)}(z:kvs.length≤ax)(hd:(a == gY)=false)(rel:KV kvs vs)(dd:h'.DictOf (gU P w) a vs) :
  iE P w H' h' a (.dK kvs):=⟨z,hd,vs,rel,dd⟩
theorem d_setItem {Q:Unit→au→Prop}(hu:A.units+1<kU)(I:Inv X aL σ H s)(g:DPut H a y v H')(ry:iY y u)(rv:iY v r)(h:∀s',Inv X aL σ H' s'→Q () s') :
  bc (bC X.prog X.w) A (setItem (.ref a) u r) Q E s:=by
 rcases g with ⟨kvs,k,e,ey,l,eH⟩ | ⟨kvs,k,b,e,ey,eb,l,eH⟩
 ·subst ey eH
  obtain⟨z,hd,vs,rel,dd⟩:=dk_of I.hok e;have hz:vs.length≤ax:=by rw[←rel.length];exact z
  have hl:(putK kvs k v).length≤ax:=by have:=nY kvs k v;lia
  apply wpAny_setItem_pairs (hsz:=hz) (kV_is ry) dd λh' dd' hs=>h _ ?_
  have he:∃q,h'.get? a=some q:=let ⟨q,_,_,hq,_⟩:=dd';⟨q,hq⟩;exact d_write I (by rw[e];exact True.intro) hs he (dk_new hl hd (rel.put k rv) dd')
 ·subst ey eH
  cases(show u=af.ref b from ry);obtain⟨z,hd,xs,rel,dd⟩:=dt_of I.hok e;have hz:xs.length≤ax:=by rw[←Paired.length rel];exact z
  have hl:(putK kvs k v).length≤ax:=by have:=nY kvs k v;lia
  apply wpAny_setItem_heap (hsz:=hz) (mJ hu) (key_of I.hok eb) dd λh' dd' hs=>h _ ?_
  obtain⟨q,es,ep,hq,h2,h3,h4,_,h5⟩:=dd';apply d_write I (by rw[e];exact True.intro) hs ⟨q,hq⟩ ⟨hl,hd,_,(rel.put k eb rv).keeps λc ys ec=>?_,q,es,ep,hq,h2,h3,h4,h5⟩;rw[bf (dz ec e (λz=>nomatch z))];exact ec
end
section
variable {kvs:List (Key×V)}{k:Key}
theorem d_len (I:Inv X aL σ H s)(e:Rd H a (.dK kvs))(h:∀t s',Inv X aL σ H s'→Q (.int kvs.length t) s'):bc (bC X.prog X.w) A (call (.builtin "len") [.ref a]) Q E s:=by
 obtain⟨z,hd,vs,rel,dd⟩:=dk_rd I.hok e;apply call_len_dict hd dd (by rw[←rel.length];rw[sizeLine_eq] at z;lia) ?_;rw[←rel.length];exact h _ _ (I.tok _)
end
def NoSl (i:Expr):Prop:=∀ov iv,subscripted i false ov iv=operate [ov,iv] (getItem ov iv)
theorem subD_of {slice:Expr}{id:String}
  (hl:typeLookup (.type T) "__getitem__" =iJ (some (.builtin id))) (hs:NoSl slice)
  (h:bc (bC prog w) A (dn value env) (λo s₁=>bc (bC prog w) A (dn slice env) (λi s₂=>s₂.TypeIs o T∧bc (bC prog w) A (getItem o i) Q E s₂) E s₁) E s) :
  bc (bC prog w) A (dn (.Subscript value slice pos) env) Q E s:=by
 apply Subscript_ (cW h (λo s₁ h₁=>cW h₁ (λi s₂ h₂=>?_) λ_ _ x=>x) λ_ _ x=>x);obtain⟨hT,h₂⟩:=h₂;unfold subscriptTail;apply ai ?_;rw[getitemInPython_of_ne hT.not_modules];apply ai (wpAny_specialOf hT hl ?_);have fin:bc (bC prog w) A (subscripted slice false o i) (λr s₃=>bc (bC prog w) A (letTemporaryGo value o r >>= λ_=>iJ r) Q E s₃) E s₂:=by
  rw[hs o i];exact wpAny_operating (cW h₂ (λr s₃ h₃=>ai (wpAny_letTemporaryGo (aI h₃))) λ_ _ x=>x)
 first
  | exact aI (ai fin)
  | exact ai (aI (ai fin))
  | exact ai fin
def tDIn (ty td:TE):TE:=λσ H Q=>ty σ H λy H1=>td σ H1 λx H2=>∃a o,x= .ref a∧DGet H2 a y o∧Q (.bl o.isSome) H2
def sDPut (td ty tv:TE):TS:=λD σ H=>tv σ H λv H1=>td σ H1 λx H2=>ty σ H2 λy H3=>∃a H4,x= .ref a∧DPut H3 a y v H4∧D.nx σ H4
section
variable {o i:Expr}{tpos:Pos}{ty tv:TE}
theorem pc_din (hu:X.A.units+1<kU)(hi:PE X i ty)(ho:PE X o td):PC X .In i o (tDIn ty td):=by
 intro aL s σ H Q I h;apply thn (hi aL s σ H _ I h) λiv s1 ⟨y,H1,I1,ry,q1⟩=>thn (ho aL s1 σ H1 _ I1 q1) λu s2 hz0=>?_
 obtain⟨x,H2,I2,rx,a,ov,ex,g,q2⟩:=hz0;subst ex;obtain rfl:u=af.ref a:=rx;exact d_in hu I2 g ry λs3 I3=>⟨.bl ov.isSome,H2,I3,rfl,q2⟩
theorem ps_dput (hu:X.A.units+1<kU)(ho:PE X o td)(hi:PE X i ty)(hv:PE X value tv)(hs:lG value (some (.Subscript o i pos')) pos.line X.env=iJ false) :
  PS X (.Assign [.Subscript o i pos'] value pos) (sDPut td ty tv):=by
 intro aL s σ H D I h;apply wpAny_Assign_Subscript (thn (hv aL s σ H _ I h) λr s1 ⟨v,H1,I1,rv,q1⟩=>thn (ho aL s1 σ H1 _ I1 q1) λu s2 ⟨x,H2,I2,rx,q2⟩=>thn (hi aL s2 σ H2 _ I2 q2) λiv s3 hz0=>?_) hs;obtain⟨y,H3,I3,ry,a,H4,ex,g,q3⟩:=hz0;subst ex;obtain rfl:u=af.ref a:=rx;exact d_setItem hu I3 g ry rv λs4 I4=>⟨σ,H4,I4,q3⟩
end
theorem dt_empty (h:bP)(hb:gY<h.objs.size):iE P w H (h.push { cls:=.type "dict",data:=.dict #[] }) h.objs.size (.dT []):=
 ⟨cR _,beq_eq_false_iff_ne.mpr (cM (cz hb)),[],.nil,_,#[],0,aU _ rfl,⟨rfl,rfl,rfl⟩,rfl,rfl,List.nodup_nil⟩
def tDNewT:TE:=λ_ H Q=>∀p,H p=none→Q (.ref p) (upd H p (.dT []))
theorem pe_dnewT:PE X (.Dict [] [] pos) tDNewT:=λaL s σ H Q I h =>
 wpAny_Dict_empty ⟨.ref s.heap.objs.size,_,I.laid (a:=s.heap.objs.size) (o:=.dT []) (t':=s.toks) (λ_ _ q=>ar _ q) (aA _) (dt_empty s.heap I.big),rfl,h _ (I.hok.fresh (aA _))⟩
structure M1 (X:Cx)(o:Expr)(m:Str)(apos:Pos)(e:Expr)(cpos:Pos):Prop where
 base:gN o m X.env (dn o X.env)=dn o X.env
 few:((gH cpos (bB [e] X.env)).all (fun x=>!x.1) && (backToKw cpos (kH [] X.env)).all (fun x=>x.1.isSome)
  && decide (([e]:List Expr).length+([]:List Keyword).length+(if ([]:List Keyword).isEmpty then 0 else 1)<30))=true
 line:(apos.endLine == cpos.line)=true
 trees:gH cpos (bB [e] X.env)=[(false,dn e X.env)]
structure M2 (X:Cx)(o:Expr)(m:Str)(apos:Pos)(e f:Expr)(cpos:Pos):Prop where
 base:gN o m X.env (dn o X.env)=dn o X.env
 few:((gH cpos (bB [e,f] X.env)).all (fun x=>!x.1) && (backToKw cpos (kH [] X.env)).all (fun x=>x.1.isSome)
  && decide (([e,f]:List Expr).length+([]:List Keyword).length+(if ([]:List Keyword).isEmpty then 0 else 1)<30))=true
 line:(apos.endLine == cpos.line)=true
 trees:gH cpos (bB [e,f] X.env)=[(false,dn e X.env),(false,dn f X.env)]
def IsDct (H:Hp)(a:aq):Prop:=(∃kvs,Rd H a (.dK kvs))∨∃kvs,Rd H a (.dT kvs)
theorem isDct_at (I:Inv X aL σ H s)(d:IsDct H a) :
  s.TypeIs (.ref a) "dict" ∧(∀b,af.ref a= .ref b→∃ob,s.heap.get? b=some ob∧ob.dict=none)∧(a == gY)=false:=by
 rcases d with ⟨kvs,e⟩ | ⟨kvs,e⟩
 ·obtain⟨_,hd,vs,_,dd⟩:=dk_rd I.hok e
  apply⟨dd.typeIs,λb q=>?_,hd⟩;cases q;obtain⟨ob,_,_,h1,h2,_⟩:=dd;exact⟨ob,h1,h2.2.1⟩
 ·obtain⟨_,hd,xs,_,dd⟩:=dt_rd I.hok e
  apply⟨dd.typeIs,λb q=>?_,hd⟩;cases q;obtain⟨ob,_,_,h1,h2,_⟩:=dd;exact⟨ob,h1,h2.2.1⟩
section
variable {d:V}{r:af}{o:Option V}
theorem d_get1 (hu:A.units+1<kU)(I:Inv X aL σ H s)(g:DGet H a y o)(ry:iY y u)(h:∀w' s',Inv X aL σ H s'→iY (o.getD .non) w'→Q w' s') :
  bc (bC X.prog X.w) A (call (.builtin "dict.get") [.ref a,u]) Q E s:=by
 rcases g with ⟨kvs,k,e,ey,l⟩ | ⟨kvs,k,b,e,ey,eb,l⟩
 ·subst ey
  obtain⟨z,hd,vs,rel,dd⟩:=dk_rd I.hok e;apply call_meetsIn hI dd.typeIs jZ (PySem.F.args_dict_get_2 _ _) (meets_dict_get (gU X.prog X.w) a (kV_is ry) hd) ⟨_,dd.mapOf,h _ _ (I.tok _) ?_⟩;rw[l];exact(rel.val k).getD rfl
 ·subst ey
  cases(show u=af.ref b from ry);obtain⟨z,hd,xs,rel,dd⟩:=dt_rd I.hok e;apply call_meetsIn hI dd.typeIs jZ (PySem.F.args_dict_get_2 _ _) (meetsH_dict_get (tupleKind (gU X.prog X.w)) a b hd) ⟨mJ hu,k,xs,key_of I.hok eb,dd,h _ _ (I.tok _) ?_⟩;rw[l];exact(rel.val k).getD rfl
theorem d_get2 (hu:A.units+1<kU)(I:Inv X aL σ H s)(g:DGet H a y o)(ry:iY y u)(rd:iY d r)(h:∀w' s',Inv X aL σ H s'→iY (o.getD d) w'→Q w' s') :
  bc (bC X.prog X.w) A (call (.builtin "dict.get") [.ref a,u,r]) Q E s:=by
 rcases g with ⟨kvs,k,e,ey,l⟩ | ⟨kvs,k,b,e,ey,eb,l⟩
 ·subst ey
  obtain⟨z,hd,vs,rel,dd⟩:=dk_rd I.hok e;apply call_meetsIn hI dd.typeIs jZ (PySem.F.args_dict_get_3 _ _ _) (meets_dict_get_default (gU X.prog X.w) a (kV_is ry) hd r) ⟨_,dd.mapOf,h _ _ (I.tok _) ?_⟩;rw[l];exact(rel.val k).getD rd
 ·subst ey
  cases(show u=af.ref b from ry);obtain⟨z,hd,xs,rel,dd⟩:=dt_rd I.hok e;apply call_meetsIn hI dd.typeIs jZ (PySem.F.args_dict_get_3 _ _ _) (meetsH_dict_get_default (tupleKind (gU X.prog X.w)) a b hd r) ⟨mJ hu,k,xs,key_of I.hok eb,dd,h _ _ (I.tok _) ?_⟩;rw[l];exact(rel.val k).getD rd
end
def tDGet1 (td ty:TE):TE:=λσ H Q=>td σ H λx H1=>∃a,x= .ref a∧IsDct H1 a∧ty σ H1 λy H2=>∃o,DGet H2 a y o∧Q (o.getD .non) H2
def tDGet2 (td ty tx:TE):TE:=λσ H Q=>td σ H λx H1=>∃a,x= .ref a∧IsDct H1 a∧ty σ H1 λy H2=>tx σ H2 λz H3=>∃o,DGet H3 a y o∧Q (o.getD z) H3
section
variable {o f:Expr}{ty tx:TE}
theorem pe_dget1 (hu:X.A.units+1<kU)(ho:PE X o td)(he:PE X e ty)(m:M1 X o "get" apos e cpos):PE X (.Call (.Attribute o "get" apos) [e] [] cpos) (tDGet1 td ty):=by
 intro aL s σ H Q I h;apply wpAny_Call_method m.base m.few m.line mG hI PySem.F.type_dict_get (thn (ho aL s σ H _ I h) λu s1 hz0=>?_);obtain⟨x,H1,I1,rx,a,ex,d,q1⟩:=hz0;subst ex;obtain rfl:u=af.ref a:=rx;obtain⟨t1,t2,_⟩:=isDct_at I1 d;apply⟨t1,t2,?_⟩;rw[m.trees];apply iV rfl (kW (lY (thn (he aL s1 σ H1 _ I1 q1) λiv s2 hz0=>?_)));obtain⟨y,H2,I2,ry,ov,g,q2⟩:=hz0;apply Calls.spliced_nil ?_;exact d_get1 hu I2 g ry λw' s3 I3 rw'=>⟨_,H2,I3,rw',q2⟩
theorem pe_dget2 (hu:X.A.units+1<kU)(ho:PE X o td)(he:PE X e ty)(hf:PE X f tx)(m:M2 X o "get" apos e f cpos):PE X (.Call (.Attribute o "get" apos) [e,f] [] cpos) (tDGet2 td ty tx):=by
 intro aL s σ H Q I h;apply wpAny_Call_method m.base m.few m.line mG hI PySem.F.type_dict_get (thn (ho aL s σ H _ I h) fun u s1 hz0=>?_);obtain ⟨x,H1,I1,rx,a,ex,d,q1⟩:=hz0;subst ex;obtain rfl:u=af.ref a:=rx;obtain ⟨t1,t2,_⟩:=isDct_at I1 d;apply ⟨t1,t2,?_⟩;rw[m.trees];apply iV rfl (kW (lY (thn (he aL s1 σ H1 _ I1 q1) fun iv s2 ⟨y,H2,I2,ry,q2⟩ =>
  lY (thn (hf aL s2 σ H2 _ I2 q2) fun fv s3 ⟨z,H3,I3,rz,ov,g,q3⟩=>Calls.spliced_nil ?_))))
 exact d_get2 hu I3 g ry rz λw' s4 I4 rw'=>⟨_,H3,I4,rw',q3⟩
end
end L2
namespace Att
open PySem PySem.W PySem.Calls PyProof.Rows
end Att
namespace L2
open PySem PySem.Spec PyProof.Rows
theorem call_lenD:jn X (.builtin "len") (λxs H Q=>∃a kvs,xs=[V.ref a]∧H a=some (.dK kvs)∧Q (.int kvs.length) H):=by
 intro aL s σ H xs us Q I r h;obtain⟨a,kvs,rfl,ha,q⟩:=h;obtain⟨u,rfl,ru⟩:=mM r;cases ru;exact d_len I (.inl ha) λt s' I'=>⟨.int kvs.length,H,I',⟨t,rfl⟩,q⟩
def DiK (P:aN)(w:bq)(K:ak)(a:aq)(kvs:List (Key×V)):Prop:=
 (a == gY)=false∧∃vs,KV kvs vs∧∀h:bP,K.In h→h.DictOf (gU P w) a vs
def tDGetK (kvs:List (Key×V))(ty:TE):TE:=λσ H Q=>ty σ H λy H1=>∃k v,y=kV k∧l9 kvs k=some v∧Q v H1
def tDNotInK (kvs:List (Key×V))(ty:TE):TE:=λσ H Q=>ty σ H λy H1=>∃k,y=kV k∧Q (.bl (!(l9 kvs k).isSome)) H1
section
variable {o i:Expr}{kvs:List (Key×V)}{ty:TE}
theorem pe_dgetK (D:DiK X.prog X.w X.K a kvs)(ho:PE X o (tC (.ref a)))(hi:PE X i ty)(hs:NoSl i):PE X (.Subscript o i pos) (tDGetK kvs ty):=by
 intro aL s σ H Q I h;obtain⟨hd,vs,rel,dd⟩:=D;apply subD_of PySem.F.slot_dict_getitem.lookup hs (thn (ho aL s σ H (λx H1=>x= .ref a∧H1=H) I ⟨rfl,rfl⟩) λu s1 hz0=>?_);obtain⟨x,H1,I1,rx,ex,e1⟩:=hz0;subst ex e1;obtain rfl:u=af.ref a:=rx;apply thn (hi aL s1 σ H1 _ I1 h) λiv s2 hz0=>?_
 obtain⟨y,H2,I2,ry,k,v,ey,l,q⟩:=hz0;subst ey;have dd:=dd _ I2.kIn;obtain⟨w',hw,rw'⟩:=qU.some_of (v:=v) (o:=valueAt vs k) (by rw[←l];exact rel.val k);exact⟨dd.typeIs,wpAny_getItem_of (kV_is ry) dd.mapOf hw ⟨v,H2,I2.tok _,rw',q⟩⟩
theorem pc_dnotinK (D:DiK X.prog X.w X.K a kvs)(hi:PE X i ty)(ho:PE X o (tC (.ref a))):PC X .NotIn i o (tDNotInK kvs ty):=by
 intro aL s σ H Q I h;obtain⟨hd,vs,rel,dd⟩:=D;apply thn (hi aL s σ H _ I h) λiv s1 ⟨y,H1,I1,ry,k,ey,q⟩=>thn (ho aL s1 σ H1 (λx H2=>x= .ref a∧H2=H1) I1 ⟨rfl,rfl⟩) λu s2 hz0=>?_
 obtain⟨x,H2,I2,rx,ex,e2⟩:=hz0;subst ex e2 ey;obtain rfl:u=af.ref a:=rx;have dd:=dd _ I2.kIn;apply wpAny_notIn_of (kV_is ry) hd dd.mapOf ?_;rw[←(rel.val k).isSome_eq];exact⟨.bl _,H2,I2.tok _,rfl,q⟩
end
end L2
namespace HN
open PySem L2 PyProof.Rows
theorem cutU {i:Int}(hi:i=(n:Int)):cutV xs none (some i)=xs.take n:=by
 unfold cutV;subst hi;have e:=HT.sIx_nat xs.length xs.length n;rw[e];show(xs.drop 0).take (min n xs.length - 0)=xs.take n;rw[List.drop_zero,Nat.sub_zero]
 by_cases h:n≤xs.length
 ·rw[du h]
 ·rw[Nat.min_eq_right ⋯,bG,bR ⋯]
theorem cutF {i:Int}(hi:i=(n:Int)):cutV xs (some i) none=xs.drop n:=by
 unfold cutV;subst hi;have e:=HT.sIx_nat xs.length 0 n;rw[e];show(xs.drop (min n xs.length)).take (xs.length - min n xs.length)=xs.drop n
 by_cases h:n≤xs.length
 ·rw[du h,bR (by rw[bE];lia)]
 ·rw[Nat.min_eq_right ⋯,List.drop_length,List.drop_of_length_le ⋯,List.take_nil]
end HN
namespace HN
open PySem L2 PyProof.Rows HT2
local macro_rules
 |`(tactic|and_intros)=>`(tactic|try dsimp only[cxK])
abbrev sRowR:cN:=top 28
inductive PR where
 | beat (b:Int)
 | line (n:Str) (ss:List Str) (rs:List Int)
 | oth (k:Str) (ns:List Str) (is:List Int)
def PR.at (H:Hp)(p:aq):PR→Prop
 | .beat b=>H p=some (.tup [.str "beat",.int b])
 | .line n ss rs=>∃a b,H a=some (.tup (ss.map V.str))∧H b=some (.tup (rs.map V.int))∧H p=some (.tup [.str "line",.str n,.ref a,.ref b])
 | .oth k ns is=>H p=some (.tup (.str k::(ns.map V.str++is.map V.int)))
theorem PR.at.kept (S:cg H H'):∀{r:PR},r.at H p→r.at H' p
 | .beat _,h=>S _ _ h
 | .line _ _ _,⟨a,b,h1,h2,h3⟩=>⟨a,b,S _ _ h1,S _ _ h2,S _ _ h3⟩
 | .oth _ _ _,h=>S _ _ h
def fms:List (Str×Nat×Nat):=[("stay",2,3),("change",3,3),("apart",3,1),("meet",4,1)]
def PR.wds (ws:List Str):PR→Prop
 | .beat _=>False
 | .line n ss rs=>ws[0]? =some ("line" :Str)∧LnW ws n ss rs
 | .oth k ns is=>ws=k::(ns++is.map lH)∧(k,ns.length,is.length)∈fms∧(∀z∈ns,nam z=true)∧∀i∈is,W60 i
structure Fms (P:aN)(w:bq)(K:ak)(mg:Str→Option af):Prop where
 ex:∃aF t1 t2 t3 t4,mg "FORMS" =some (.ref aF)∧DiK P w K aF [(.inr "stay",.ref t1),(.inr "change",.ref t2),(.inr "apart",.ref t3),(.inr "meet",.ref t4)] ∧
  (∀H,SqT K H t1 [.int 2,.int 3])∧(∀H,SqT K H t2 [.int 3,.int 3])∧(∀H,SqT K H t3 [.int 3,.int 1])∧∀H,SqT K H t4 [.int 4,.int 1]
theorem Fms.at {P:aN}{w:bq}{K:ak}{mg:Str→Option af}(M:Fms P w K mg):∃aF kvs,mg "FORMS" =some (.ref aF)∧DiK P w K aF kvs ∧
  ∀k a b,(k,a,b)∈fms→k ≠ "line" ∧∃t,l9 kvs (.inr k)=some (.ref t)∧∀H,SqT K H t [.int (a:Nat),.int (b:Nat)]:=by
 obtain⟨aF,t1,t2,t3,t4,h1,h2,q1,q2,q3,q4⟩:=M.ex;apply⟨aF,_,h1,h2,λk a b h=>?_⟩;unfold fms at h;simp only[az,bg,or_false,Prod.mk.injEq] at h
 rcases h with ⟨rfl,rfl,rfl⟩ | ⟨rfl,rfl,rfl⟩ | ⟨rfl,rfl,rfl⟩ | ⟨rfl,rfl,rfl⟩
 ·exact⟨by trivial,t1,rfl,q1⟩
 ·exact⟨by trivial,t2,rfl,q2⟩
 ·exact⟨by trivial,t3,rfl,q3⟩
 ·exact⟨by trivial,t4,rfl,q4⟩
theorem fms_few {k:Str}{a b:Nat}(h:(k,a,b)∈fms):a≤4∧b≤3:=by
 unfold fms at h;simp only[az,bg,or_false,Prod.mk.injEq] at h;lia
theorem cutA {i j:Int}(hi:i=(m:Int))(hj:j=(n:Int))(h1:m≤xs.length)(h2:n≤xs.length):cutV xs (some i) (some j)=(xs.drop m).take (n - m):=by
 subst hi hj;unfold cutV;rw[HT.sIx_nat,HT.sIx_nat,du h1,du h2]
inductive spRowR (vs:List V)(H:Hp)(Q:VK)(_:XK):Prop
 | mk (z:Str)(ws:List Str)(r:PR)(_:vs=[.str z])(_:z.length≤100000)(_:c8 z sp_=ws)(_:r.wds ws)(_:∀p H',cg H H'→r.at H' p→Q (.ref p) H')
theorem scRowR:cA ["row","words","form","behind","names"] ["row"] (defScope sRowR):=by trivial
theorem ok_rowR {f3:aq}{fd3:aY}(F:Fun K "read_row" "read_row" sRowR f fd)(T:Nm mg)(M:Fms P w K mg)(GN:Fn K mg "read_name" sNam pzc f1 fd1)(FN:‹0› 1 f1 fd1 pzc spNam)(GW:Fn K mg "read_whole" sRead pzc f2 fd2)(FW:‹0› 2 f2 fd2 pzc qr)
  (GL:Fn K mg "read_line" sLineR ["words"] f3 fd3) (FL:‹0› 3 f3 fd3 ["words"] spLineR):‹0› 4 f fd ["row"] spRowR:=by
 specialize F.ok scRowR;obtain ⟨z,ws,r,rfl,hz,hs,hw,k⟩:=h;have hr1:=hr.mono (show 1≤3 by lia);have hr2:=hr.mono (show 2≤3 by lia);obtain ⟨aF,kvs,hF,D,fm⟩:=M.at;apply ⟨_,cZ (psZ 1 scRowR.nd (jQ fW PySem.F.slot_str_split PySem.F.type_str_split mt_split (pv 0) (ah dU aw)))
  (cZ (eO (bK iM (cE aW (pv 1) aC (fun _ _=>rfl)) dU (cn _)) (bD (cb (pc1 GL FL hr (ah (pv 1) aw)))) cv)
  (cZ (eO (pt_cmp (pc_dnotinK D (cE aW (pv 1) aC (fun _ _=>rfl)) (mP (v:=.ref aF) rfl hF rfl)) rfl) (bD mz) cv)
  (cZ (psZ 2 scRowR.nd (pe_dgetK D (mP (v:=.ref aF) rfl hF rfl) (cE aW (pv 1) aC (fun _ _=>rfl)) (fun _ _=>rfl)))
  (cZ (psZ 3 scRowR.nd (cw dZ aC (ixZ (pv 2))))
  (cZ (eO (bK pz (bS bO rfl T.len aS (ah (pv 1) aw)) (cw dZ (pv 3) (ixZ (pv 2))) (cn _)) (bD mz) cv)
  (cZ (pq (iy:=4) (fr:=[]) (js:=[]) scRowR.nd rfl (.inl rfl) rfl (gK (cV gc (pv 1) (dJ aC) (dJ (pv 3)))) ⇑0 rfl ⇑0 rfl (by exists sRowR) ⇑0 rfl ⇑0 (fun _ _ _ _ _=>⟨(pc1 GN FN hr1 (ah (pv 0) aw)),j7⟩))
  (bD (cb (ff jV rfl T.ttup jL (ah (cw ip (cw ip (cV gc (pv 1) eR (dJ aC)) (pv 4)) (jP (fr:=[]) (js:=[]) rfl (gK (cV gc (pv 1) (dJ (pv 3)) eR)) ⇑0 rfl ⇑0 rfl (by exists sRowR) ⇑0 rfl ⇑0 (fun _ _ _ _ _=>⟨(pc1 GW FW hr2 (ah (pv 0) aw)),j7⟩))) aw)))))))))),?_⟩
 and_intros
 apply sq7 ?_
 intros
 have one:((sp_:Str).length == 0)=false:=by trivial
 apply⟨ρ,rfl,ς,one,cB (show _≤200000 by lia) ↥0,λL H1 S1 e1=>?_⟩;have e1:H1 L=some (.lst ((c8 z sp_).map V.str)):=e1;rw[hs] at e1;cases r with
 | beat b=>exact hw.elim
 | line n ss rs =>
  obtain⟨h0,W⟩:=hw;apply⟨ρ,L,τ,zL e1,aH (j:=0) (by rw[ay,h0];rfl),rfl,ρ,?_⟩;rw[show decide (V.str "line" =V.str "line")=true from by trivial];apply iteT ?_;exact⟨ρ,L,ws,n,ss,rs,rfl,e1,W,λp a b H2 S2 g1 g2 g3=>k p H2 (S1.trans S2) ⟨a,b,g1,g2,g3⟩⟩
 | oth kd ns is =>
  obtain⟨rfl,hf,nn,ii⟩:=hw;obtain⟨hk,t,ht,hq⟩:=fm _ _ _ hf;have few:=fms_few hf;have e1:H1 L=some (.lst (V.str kd::(ns.map V.str++(is.map lH).map V.str))):=by rw[e1,bo,av]
  have hlen:(V.str kd::(ns.map V.str++(is.map lH).map V.str)).length=1+ns.length+is.length:=by
   rw[aG,ao,ae,ae,ae];lia
  have big:(100000:Nat)≤ax:=by decide
  apply⟨ρ,L,τ,zL e1,aH (j:=0) rfl,rfl,ρ,iQ (rP λz=>hk (by injection z)) ?_⟩;apply⟨ρ,L,τ,zL e1,aH (j:=0) rfl,.inr kd,rfl,ρ,iQ (by rw[ht];rfl) ?_⟩;apply⟨ρ,L,τ,zL e1,aH (j:=0) rfl,.inr kd,ρ,ht,?_⟩;apply⟨ρ,t,τ,hq H1,aH (j:=0) rfl,ς,?_⟩;apply⟨ρ,L,ρ,.inl (zL e1),ρ,ρ,t,τ,hq H1,aH (j:=1) rfl,ς,rfl,ρ,iQ ?_ ?_⟩
  ·rw[hlen,rO (by congr 1 <;> lia)];rfl
  apply⟨ρ,ρ,ρ,ρ,L,ρ,zL e1,λD1 H2 S2 d1=>?_⟩;rw[cutA (i:=1) (j:=1+(ns.length:Int)) (m:=1) (n:=1+ns.length) rfl ⋯ (by rw[hlen];lia) (by rw[hlen];lia)] at d1;have d1:H2 D1=some (.lst (ns.map V.str)):=by
   rw[d1];show some (HO.lst ((ns.map V.str++(is.map lH).map V.str).take (1+ns.length - 1)))=_;rw[Nat.add_sub_cancel_left];congr 2;exact gP (ae _)
  apply⟨D1,rfl,⟨_,zL d1⟩,?_⟩;apply ic (K:=K) (a:=D1) (xs:=ns.map V.str) (λj zs H3=>cg H2 H3∧zs=(ns.take j).map V.str) ⟨cg.refl _,rfl⟩ (λj zs H3 hj ⟨g1,g2⟩=>?_) (by rw[ae];lia) (λj x zs H3 hx3 ⟨g1,g2⟩=>?_) (λzs H3 ⟨g1,g2⟩ D hD=>?_)
  ·apply⟨zL (g1 _ _ d1),?_⟩
   rw[g2,ae,aJ];lia
  ·rw[ay] at hx3
   obtain⟨y,hn3,rfl⟩:=bp.mp hx3;apply jj ?_;apply⟨ρ,y,rfl,nn y (aD hn3),λH4 S4=>⟨g1.trans S4,?_⟩⟩;rw[g2,aQ,hn3,av];rfl
  rw[ae,bG] at g2;have S5:cg H1 (upd H3 D (.lst zs)):=S2.trans (g1.trans (cg.put (cg.refl H3) hD));generalize hH:upd H3 D (.lst zs)=H5 at S5;have d5:H5 D=some (.lst (ns.map V.str)):=by rw[←hH,aP,g2]
  have e5:=S5 _ _ e1;apply⟨ρ,ρ,L,ρ,zL e5,λD2 H6 S6 d6=>?_⟩;rw[cutU (i:=1) (n:=1) rfl] at d6;have d6:H6 D2=some (.lst [V.str kd]):=d6;apply⟨ρ,D2,D,ς,d6,S6 _ _ d5,(by rw[ae];show 1+ns.length≤ax;lia),λD3 H7 S7 d7=>?_⟩;have e7:=(S6.trans S7) _ _ e5;apply⟨ρ,ρ,ρ,L,ρ,zL e7,λD4 H8 S8 d8=>?_⟩;rw[cutF (i:=1+(ns.length:Int)) (n:=1+ns.length) ⋯] at d8;have d8:H8 D4=some (.lst ((is.map lH).map V.str)):=by
   rw[d8];rw[Nat.add_comm 1 ns.length,List.drop_succ_cons];congr 2;exact List.drop_left' (ae _)
  apply⟨D4,rfl,⟨_,zL d8⟩,?_⟩;apply ic (K:=K) (a:=D4) (xs:=(is.map lH).map V.str) (λj zs H3=>cg H8 H3∧zs=(is.take j).map V.int) ⟨cg.refl _,rfl⟩ (λj zs H3 hj ⟨g1,g2⟩=>?_) (by rw[ae,ae];lia) (λj x zs H3 hx3 ⟨g1,g2⟩=>?_) (λzs2 H9 ⟨g3,g4⟩ D' hD'=>?_)
  ·apply⟨zL (g1 _ _ d8),?_⟩
   rw[g2,ae,aJ];lia
  ·rw[b9,ay] at hx3
   obtain⟨i,hn3,rfl⟩:=bp.mp hx3;apply jj ?_;apply⟨ρ,i,rfl,ii i (aD hn3),λH4 S4=>⟨g1.trans S4,?_⟩⟩;rw[g2,aQ,hn3,av];rfl
  rw[ae,ae,bG] at g4;have S10:cg H7 (upd H9 D' (.lst zs2)):=S8.trans (g3.trans (cg.put (cg.refl H9) hD'));have d10:=S10 _ _ d7;apply⟨D3,D',ς,d10,(by rw[aP]),(by rw[g4,ao,ae,ae];show 1+ns.length+is.length≤ax;lia),λD5 H11 S11 d11=>?_⟩;apply⟨D5,ρ,zL d11,λp H12 S12 d12=>k p H12 (S1.trans (S5.trans (S6.trans (S7.trans (S10.trans (S11.trans S12)))))) ?_⟩;show H12 p=some (.tup (.str kd::(ns.map V.str++is.map V.int)));rw[d12,g4];rfl
structure RsAt (H:Hp)(xs:List V)(rs:List PR):Prop where
 len:xs.length=rs.length
 get:∀(i:Nat) (r:PR),rs[i]? =some r→∃a:aq,xs[i]? =some (V.ref a)∧r.at H a
theorem RsAt.kept {rs:List PR}(S:cg H H')(h:RsAt H xs rs):RsAt H' xs rs:=⟨h.len,λi r e=>let ⟨a,h1,h2⟩:=h.get i r e;⟨a,h1,h2.kept S⟩⟩
theorem RsAt.snoc {rs:List PR}{r:PR}(h:RsAt H xs rs)(q:r.at H a):RsAt H (xs++[V.ref a]) (rs++[r]):=by
 apply⟨by rw[ao,ao,h.len];rfl,λi r' e=>?_⟩
 by_cases hi:i<rs.length
 ·rw[bI hi] at e
  obtain⟨b,h1,h2⟩:=h.get i r' e;exact⟨b,by rw[bI (by rw[h.len];exact hi)];exact h1,h2⟩
 ·rw[aR ⋯] at e
  have hl:=h.len;have h0:i - rs.length=0:=by
   have:=(aj.mp e).1;simp at this;lia
  rw[h0] at e;cases e;exact⟨a,by rw[aR ⋯,hl,h0];rfl,q⟩
theorem RsAt.cons {H:Hp}{xs:List V}{rs:List PR}{a:aq}{r:PR}(h:RsAt H xs rs)(q:r.at H a):RsAt H (V.ref a::xs) (r::rs):=by
 apply⟨by rw[aG,aG,h.len],λi r' e=>?_⟩;cases i with
 | zero=>cases e;exact⟨a,rfl,q⟩
 | succ i=>exact h.get i r' e
inductive spPlanR (vs:List V)(H:Hp)(Q:VK)(_:XK):Prop
 | mk (z z0:Str)(b:Int)(zr:List (Str×PR))(_:vs=[.str z])(_:z.length≤100000)(_:c8 z nl_=z0::zr.map (·.1))(_:zr.length≤100000)(_:z0.length≤100000)(_:c8 z0 sp_=[("beat" :Str),lH b])(_:W60 b)(_:(∀q∈zr,q.1.length≤100000∧q.2.wds (c8 q.1 sp_)))(_:∀p xs H',cg H H'→H' p=some (.lst xs)→RsAt H' xs (.beat b::zr.map (·.2))→Q (.ref p) H')
abbrev sPlanR:cN:=top 29
theorem scPlanR:cA ["text","rows"] pzg (defScope sPlanR):=by trivial
theorem ok_planR (F:Fun K "read_plan" "read_plan" sPlanR f fd)(T:Nm mg)(T2:Nm2 mg)(GB:Fn K mg "read_beat" sBeatR ["row"] f1 fd1)(FB:‹0› 3 f1 fd1 ["row"] spBeatR)(GR:Fn K mg "read_row" sRowR ["row"] f2 fd2)(FR:‹0› 4 f2 fd2 ["row"] spRowR) :
  ‹0› 5 f fd pzg spPlanR:=by
 specialize F.ok scPlanR;obtain ⟨z,z0,b,zr,rfl,hz,hs,hn,hz0,hs0,hb,hw,k⟩:=h;have hr3:=hr.mono (show 3≤4 by lia);apply ⟨_,cZ (eO (mI (kr (pe_isStr T T2 (pv 0)))) (bD mz) cv)
  (cZ (psZ 1 scPlanR.nd (jQ fW PySem.F.slot_str_split PySem.F.type_str_split mt_split (pv 0) (ah dU aw)))
  (bD (cb (cw ip (gM (ah (pc1 GB FB hr3 (ah (cE aW (pv 1) aC (fun _ _=>rfl)) aw)) aw)) (jP (fr:=[]) (js:=[]) rfl (gK (cV gc (pv 1) (dJ aC) eR)) ⇑0 rfl ⇑0 rfl (by exists sPlanR) ⇑0 rfl ⇑0 (fun _ _ _ _ _=>⟨(pc1 GR FR hr (ah (pv 0) aw)),j7⟩)))))),?_⟩
 and_intros
 apply sq2 ?_
 intros
 have one:((nl_:Str).length == 0)=false:=by trivial
 have big:(200000:Nat)≤ax:=by decide
 apply⟨ρ,_,"str",rfl,rfl,ρ,iQ ↥0 ?_⟩;apply⟨ρ,rfl,ς,one,cB (show _≤200000 by lia) ↥0,λL H1 S1 e1=>?_⟩;have e1:H1 L=some (.lst ((c8 z nl_).map V.str)):=e1;rw[hs] at e1;have e1:H1 L=some (.lst (V.str z0::(zr.map (·.1)).map V.str)):=e1;apply⟨ρ,L,τ,zL e1,aH (j:=0) rfl,z0,b,rfl,hz0,hs0,hb,λp0 H2 S2 e2=>?_⟩;apply⟨szZ1,λD0 H3 S3 d3=>?_⟩;have S13:=S2.trans S3;apply⟨ρ,ρ,L,ρ,zL (S13 _ _ e1),λD1 H4 S4 d4=>?_⟩;rw[cutF (i:=1) (n:=1) rfl] at d4;have d4:H4 D1=some (.lst ((zr.map (·.1)).map V.str)):=d4;apply⟨D1,rfl,⟨_,zL d4⟩,?_⟩
 let pZ1:zW:=λj zs H5=>cg H4 H5∧RsAt H5 zs ((zr.take j).map (·.2))
 apply ic (K:=K) (a:=D1) (xs:=(zr.map (·.1)).map V.str) pZ1 ⟨cg.refl _,⟨rfl,λi r e=>nomatch e⟩⟩ (λj zs H5 hj ⟨g1,g2⟩=>?_) (by rw[ae,ae];lia) (λj x zs H5 hx ⟨g1,g2⟩=>?_) (λzs H5 ⟨g1,g2⟩ D hD=>?_)
 ·apply⟨zL (g1 _ _ d4),?_⟩
  rw[g2.len,ae,aJ];lia
 ·rw[b9,ay] at hx
  obtain⟨q,hq,rfl⟩:=bp.mp hx;obtain⟨w1,w2⟩:=hw q (aD hq);apply jj ?_;apply⟨ρ,q.1,_,q.2,rfl,w1,rfl,w2,λp H6 S6 e6=>⟨g1.trans S6,?_⟩⟩;rw[aQ,hq,av];exact(g2.kept S6).snoc e6
 rw[ae,ae,bG] at g2;have hl:=g2.len;rw[ae] at hl;have S7:cg H5 (upd H5 D (.lst zs)):=cg.put (cg.refl H5) hD;have S8:cg H3 (upd H5 D (.lst zs)):=S4.trans (g1.trans S7);apply⟨D0,D,ς,S8 _ _ d3,(by rw[aP]),(by show 1+zs.length≤ax;lia),λp H9 S9 e9=>?_⟩;exact k p _ H9 (S1.trans (S13.trans (S8.trans S9))) e9 (((g2.kept S7).kept S9).cons (show PR.at H9 p0 (.beat b) from (S3.trans (S8.trans S9)) _ _ e2))
end HN
variable {pre prs rs:List HN.PR}{r:HN.PR}
namespace L2
open PySem PySem.Spec PyProof.Rows
open AutoSeq1 (wpAny_loadPart')
theorem oY (p:aq)(items:Array af)(x:af)(e:af→Bool)(he:∀y,y∈items→PySem.MeetsSeq.EqGives y x (e y))(j:Nat)(hj:j<items.size)(hit:e items[j]=true)(hno:∀m (hm:m<items.size),m<j→e items[m]=false) :
  Meets (eN.«tuple.index» ⟨[.ref p,x],[]⟩) (λ_ R s=>IsTup s.heap p items∧R (.ok (.ret (.int j s.toks))) { s with toks:=s.toks+1 }):=
 .of_wp λprog w A R s h=>by
  obtain⟨hp,g,d,tk,os⟩:=s;obtain⟨⟨o,ho,hc,n,hd⟩,h⟩:=h
  wp_walk using jr ho
  rw[hd];apply aI (aI ?_)
  dsimp only
  apply ai (aI (ai (aI (ai ?_))));rw[Nat.min_self,Std.Legacy.Range.forIn_eq_forIn_range'];apply wpAny_forIn_list _ (λl b s'=>∃k,l=List.range' k (items.size - k)∧k≤j∧b=(none,())∧s'=⟨hp,g,d,tk,os⟩) _ ?_ ?_ _ _ ?_
  ·rintro i rest b s' ⟨k,hl,hk,rfl,rfl⟩
   have hk2:items.size - k=(items.size - (k+1))+1:=by lia
   rw[hk2,List.range'_succ] at hl;injection hl with h1 h2
   subst h1;have hik:i<items.size:=by lia
   rw[Array.getElem?_eq_getElem hik];apply ai (he _ (Array.getElem_mem hik) prog w _ _ _ _ ?_)
   by_cases hij:i=j
   ·subst hij
    rw[hit,rL rfl]
    wp_walk
    first | exact⟨ρ,h⟩ | exact h
   ·rw[hno i hik ⋯,rK bQ]
    exact aI ⟨i+1,h2,⋯,rfl,rfl⟩
  ·rintro b s' ⟨k,hl,hk,rfl,rfl⟩
   have hk2:items.size - k=(items.size - (k+1))+1:=by lia
   rw[hk2,List.range'_succ] at hl;cases hl
  ·apply⟨0,?_,cR _,rfl,rfl⟩
   simp[Std.Legacy.Range.size]
theorem Inv.tupleN (I:Inv X aL σ H s)(h:H a=some (.tup xs)):∃its:List af,gZ xs its∧mZ s.heap a its.toArray:=by
 obtain⟨z,its,r,p⟩:=I.hok a _ h;exact⟨its,r,p⟩
def tBMT (r:V→List V→Hp→VK→Prop)(to:TE)(t:TA):TE:=λσ H Q=>to σ H λx H1=>(∃p xs,x= .ref p∧H1 p=some (.tup xs))∧t σ H1 λxs H2=>r x xs H2 Q
theorem pe_bmT {o:Expr}{t:TA}{id:String}{r:V→List V→Hp→VK→Prop}(slot:Slot "tuple" name id)(hty:typeOf (.builtin id)=iJ (.type "method_descriptor"))(hm:MtR X id r)(ho:PE X o to)(ha:PA X (e::es) t)
  (hbase:gN o name X.env (dn o X.env)=dn o X.env:=by rfl)
  (hfew:((gH cpos (bB (e::es) X.env)).all (λx=>!x.1) && (backToKw cpos (kH [] X.env)).all (λx=>x.1.isSome) && decide ((e::es).length+([]:List Keyword).length+(if ([]:List Keyword).isEmpty then 0 else 1)<30))=true:=by rfl)
  (hline:(apos.endLine == cpos.line)=true:=by rfl) (hs:bB (e::es) X.env=(false,dn e X.env)::bB es X.env:=by rfl) (hplain:(gH cpos (bB es X.env)).any (·.1)=false:=by rfl) :
  PE X (.Call (.Attribute o name apos) (e::es) [] cpos) (tBMT r to t):=by
 intro aL s σ H Q I h;apply wpAny_Call_method_late hbase hfew hline rfl (thn (ho aL s σ H _ I h) λv s1 hz0=>?_);obtain⟨x,H1,I1,r1,ty,q1⟩:=hz0;obtain⟨p,xs,rfl,hp⟩:=ty;cases(show v=af.ref p from r1);obtain⟨its,rv,ob,e1,c1,d1,n,dd⟩:=I1.tupleN hp;apply⟨"tuple",id,PySem.F.plainAttrs_tuple,slot,hty,⟨ob,e1,c1⟩,λa ea=>by cases ea;exact⟨ob,e1,d1⟩,?_⟩;have hA:=ha cpos aL s1 σ H1 _ I1 q1;rw[hs] at hA ⊢;apply iV (by show(false || (gH cpos (bB es X.env)).any (·.1))=false;rw[hplain] <;> rfl) (kW ?_);exact thn hA λus s2 ⟨vs,H2,I2,r2,q2⟩=>hm aL s2 σ H2 (.ref p) vs (.ref p) us Q I2 r1 r2 q2
end L2
namespace L2
open PySem PySem.Spec PyProof.Rows
inductive rIndexS (K:ak)(x:V)(vs:List V)(H:Hp)(Q:VK):Prop
 | mk (p:aq)(ns:List Str)(k:Str)(i:Nat)(_:x= .ref p)(_:vs=[.str k])(_:SqT K H p (ns.map V.str))(_:ns[i]? =some k)(_:(∀j,j<i→ns[j]? ≠some k))(_:Q (.int (i:Nat)) H)
theorem mt_indexS:MtM X "tuple.index" (rIndexS X.K):=by
 intro aL s σ H x vs v us Q I rx rv h;obtain⟨p,ns,k,i,rfl,rfl,hq,hi,hno,q⟩:=h;cases(show v=af.ref p from rx);obtain⟨u,rfl,ru⟩:=rv.one;obtain⟨t,rfl⟩:=(show ∃t,u=af.str k t from ru);obtain⟨its,r,pl,hz⟩:=I.tuple hq;have hl:its.length=ns.length:=by rw[←r.length,ae]
 have hil:i<ns.length:=(aj.mp hi).1;have at_:∀(m:Nat) (hm:m<its.toArray.size),∃tk,its.toArray[m]=af.str (ns[m]'(by rw[←hl];simpa using hm)) tk:=λm hm=>by
  have hm':m<ns.length:=by rw[←hl];simpa using hm
  obtain⟨u,hu,ru⟩:=r.get (i:=m) (x:=V.str ns[m]) (by rw[ay,gE hm'];rfl);obtain⟨tk,rfl⟩:=(show ∃t,u=af.str ns[m] t from ru);exact⟨tk,by have:=(aj.mp hu).2;simpa using this⟩
 have e0:∀(m:Nat) (hm:m<its.toArray.size),(match its.toArray[m] with | .str y _=>y == k | _=>false)=(ns[m]'(by rw[←hl];simpa using hm) == k):=λm hm=>by
  obtain⟨tk,e⟩:=at_ m hm;rw[e]
 have his:i<its.toArray.size:=by rw[aE,hl];exact hil
 apply lI F.slot_tuple_index ⟨_,pl.choose_spec.1,pl.choose_spec.2.1⟩ F.entry_tuple_index (F.args_tuple_index_2 _ _) (oY p its.toArray (.str k t) (λv=>match v with | .str y _=>y == k | _=>false) (λy hy=>?_) i his ?_ (λm hm hmi=>?_)) ⟨pl,⟨.int (i:Nat),H,I.tok _,⟨_,rfl⟩,q⟩⟩
 ·obtain⟨m,hm,rfl⟩:=Array.getElem_of_mem hy
  obtain⟨tk,e⟩:=at_ m hm;rw[e];exact λprog w A E s Q h=>wpAny_eqBool_str h
 ·rw[e0 i his,beq_iff_eq]
  exact(aj.mp hi).2
 ·rw[e0 m hm,beq_eq_false_iff_ne]
  have hm':m<ns.length:=by rw[←hl];simpa using hm
  intro z;exact hno m hmi (by rw[gE hm',z])
end L2
namespace HN
open PySem L2 PyProof.Rows HT2
local macro_rules
 |`(tactic|and_intros)=>`(tactic|try dsimp only[cxK])
abbrev cLin:cN:=top 30
abbrev sInitL:cN:=clsOf cLin 0
abbrev sComL:cN:=clsOf cLin 1
abbrev sGoL:cN:=clsOf cLin 2
structure LinC (K:ak)(C:aq):Prop where
 cl:Cls K C
 n1:jW K C "name"
 n2:jW K C "stops"
 n3:jW K C "runs"
 n4:jW K C "stays"
 n5:jW K C "first"
abbrev linF (n:Str)(a b D:aq)(fi:Int):List (Str×V):=[("name",.str n),("stops",.ref a),("runs",.ref b),("stays",.ref D),("first",.int fi)]
structure LinD (H:Hp)(C x:aq)(n:Str)(ss:List Str)(rs:List Int)(D:aq)(fi:Int):Prop where
 ex:∃dx a b,H x=some (.ins C dx (linF n a b D fi))∧H a=some (.tup (ss.map V.str))∧H b=some (.tup (rs.map V.int))
inductive spInitL (C:aq)(vs:List V)(H:Hp)(Q:VK)(_:XK):Prop
 | mk (x dx a b:aq)(n:Str)(fi:Int)(_:vs=[.ref x,.str n,.ref a,.ref b,.int fi])(_:H x=some (.ins C dx []))(_:∀(D:aq) (H':Hp),(∀c o,c≠x→H c=some o→H' c=some o)→H D=none→H' D=some (.dK [])→H' x=some (.ins C dx (linF n a b D fi))→Q .non H')
inductive spGoL (C:aq)(vs:List V)(H:Hp)(Q:VK)(_:XK):Prop
 | mk (x D:aq)(n z:Str)(ss:List Str)(rs:List Int)(fi:Int)(_:vs=[.ref x,.str z])(_:LinD H C x n ss rs D fi)(_:ss.length≤1000)(_:2≤ss.length)(_:ss.Nodup)(_:∀H',cg H H'→(∀i:Nat,ss[i]? =some z→i+1<ss.length→Q (.int (fi+2 * i)) H')∧((∀i:Nat,ss[i]? =some z→ss.length≤i+1)→Q .non H'))
theorem inV_strs (x:Str):∀p:List Str,inV (.str x) (p.map V.str)=decide (x∈p)
 | []=>by simp[inV]
 | y::p=>by
  have ih:=inV_strs x p;unfold inV at ih ⊢;rw[bo,jh,ih]
  by_cases e:y=x
  ·subst e;simp[eqV]
  ·have:eqV (.str y) (.str x)=false:=by simp[eqV,e]
   rw[this];simp[az,cM e]
theorem qK:∀p:List Str,(p.map V.str).all mY=true
 | []=>rfl
 | _::p=>qK p
theorem qh (nd:ss.Nodup)(h:ss[i]? =some z):∀j,j<i→ss[j]? ≠some z:=λj hj e=>by
 have hi:=(aj.mp h);have hj':=(aj.mp e);obtain⟨a,b⟩:=hi;obtain⟨c,d⟩:=hj';exact(gC.mp nd) j i c a hj (d.trans b.symm)
inductive spComL (C:aq)(vs:List V)(H:Hp)(Q:VK)(_:XK):Prop
 | mk (x D:aq)(n z:Str)(ss:List Str)(rs:List Int)(fi:Int)(_:vs=[.ref x,.str z])(_:LinD H C x n ss rs D fi)(_:ss.length≤1000)(_:2≤ss.length)(_:ss.Nodup)(_:∀H',cg H H'→(∀i:Nat,ss[i]? =some z→1≤i→Q (.int (fi+2 * i - 1)) H')∧((∀i:Nat,ss[i]? =some z→i=0)→Q .non H'))
theorem scInitL:cA pzr pzr (defScope sInitL):=by trivial
theorem ok_initL (F:Fun K "__init__" "Line.__init__" sInitL f fd)(CC:LinC K C):‹0› 1 f fd pzr (spInitL C):=by
 specialize F.ok scInitL;obtain⟨x,dx,a,b,n,fi,rfl,hx,k⟩:=h;apply⟨_,cZ (pN (pv 0) (pv 1) rfl) (cZ (pN (pv 0) (pv 2) rfl) (cZ (pN (pv 0) (pv 3) rfl) (cZ (pN (pv 0) pe_dnewK rfl) (bD (pN (pv 0) (pv 4) rfl))))),?_⟩
 and_intros
 apply sq4 ?_
 intros
 apply⟨ρ,ρ,x,C,dx,ρ,hx,CC.cl,CC.n1,↥0,?_⟩;apply⟨ρ,ρ,x,C,dx,ρ,aP,CC.cl,CC.n2,(by show 1<1000;decide),?_⟩;apply⟨ρ,ρ,x,C,dx,ρ,aP,CC.cl,CC.n3,(by show 2<1000;decide),?_⟩;apply λD hD=>⟨ρ,x,C,dx,ρ,(by rw[bf (aZ aP hD)];exact aP),CC.cl,CC.n4,(by show 3<1000;decide),?_⟩
 have xD:x≠D:=aZ aP hD;apply⟨ρ,ρ,x,C,dx,ρ,aP,CC.cl,CC.n5,(by show 4<1000;decide),?_⟩;rw[bf (cM xD),bf (cM xD),bf (cM xD)] at hD;apply k D _ (λc o hc e=>?_) hD ?_ aP
 ·rw[bf hc,bf hc,bf (aZ e hD),bf hc,bf hc,bf hc];exact e
 ·rw[bf (cM xD),bf (cM xD),aP]
theorem scGoL:cA pzh pzh (defScope sGoL):=by trivial
theorem ok_goL (F:Fun K "going" "Line.going" sGoL f fd)(CC:LinC K C):‹0› 1 f fd pzh (spGoL C):=by
 specialize F.ok scGoL;obtain⟨x,D,n,z,ss,rs,fi,rfl,⟨dx,a,b,hx,ha,hb⟩,few,two,nd,k⟩:=h;apply⟨_,bD (cb (pe_ifExp (bK (r:=rIn K false) k8 (pv 1) (cV nU (fG (pv 0) rfl) eR (dJ (pe_un qk aC))) rfl) (cw dZ (fG (pv 0) rfl) (cw kz aC (pe_bmT (r:=rIndexS K) PySem.F.slot_tuple_index PySem.F.type_tuple_index mt_indexS (fG (pv 0) rfl) (ah (pv 1) aw)))) ir)),?_⟩
 and_intros
 have hls:(ss.map V.str).length=ss.length:=ae _;have e1:HT.sIx (ss.map V.str).length (ss.map V.str).length (some (-1))=ss.length - 1:=by
  rw[hls];show(if (-1:Int)<0 then ((-1:Int)+(ss.length:Int)).toNat else min (-1:Int).toNat ss.length)=_;rw[rL ↥0];lia
 apply⟨ρ,ρ,x,C,dx,_,ρ,hx,CC.cl,CC.n2,rfl,ρ,ρ,a,ρ,zT ha,?_,λp H1 S1 e=>?_⟩
 ·rw[e1,hls]
  intro q;lia
 have ec:cutV (ss.map V.str) none (some (-1))=(ss.take (ss.length - 1)).map V.str:=by
  unfold cutV;rw[e1];show((ss.map V.str).drop 0).take (ss.length - 1 - 0)=_;rw[List.drop_zero,Nat.sub_zero,jg]
 rw[ec] at e;apply⟨p,ρ,.inr (zT e),rfl,qK _,ρ,?_⟩;show if inV (.str z) ((ss.take (ss.length - 1)).map V.str)=true then _ else _;rw[inV_strs];apply jq (λhc=>?_) (λhc=>?_)
 ·obtain⟨i,hi⟩:=cP (rQ hc)
  have hi2:i<ss.length - 1:=by
   have:=(aj.mp hi).1;rw[aJ] at this;lia
  rw[cF hi2] at hi;apply⟨ρ,x,C,dx,_,ρ,S1 _ _ hx,CC.cl,CC.n5,rfl,ρ,x,C,dx,_,ρ,S1 _ _ hx,CC.cl,CC.n2,rfl,⟨a,ρ,S1 _ _ ha⟩,ρ,a,ss,z,i,rfl,rfl,zT (S1 _ _ ha),hi,qh nd hi,?_⟩;exact⟨ς,.inl ⟨↥0,↥0⟩,ς,(k H1 S1).1 i hi ⋯⟩
 ·apply(k H1 S1).2 λi hi=>?_
  have hn:z ∉ ss.take (ss.length - 1):=λq=>hc (rO q)
  by_cases q:i<ss.length - 1
  ·exact rM (aD (by rw[cF q];exact hi)) hn
  ·lia
theorem scComL:cA pzh pzh (defScope sComL):=by trivial
theorem ok_comL (F:Fun K "coming" "Line.coming" sComL f fd)(CC:LinC K C):‹0› 1 f fd pzh (spComL C):=by
 specialize F.ok scComL;obtain⟨x,D,n,z,ss,rs,fi,rfl,⟨dx,a,b,hx,ha,hb⟩,few,two,nd,k⟩:=h;apply⟨_,bD (cb (pe_ifExp (bK (r:=rIn K false) k8 (pv 1) (cV nU (fG (pv 0) rfl) (dJ aC) eR) rfl) (cw gL (cw dZ (fG (pv 0) rfl) (cw kz aC (pe_bmT (r:=rIndexS K) PySem.F.slot_tuple_index PySem.F.type_tuple_index mt_indexS (fG (pv 0) rfl) (ah (pv 1) aw)))) aC) ir)),?_⟩
 and_intros
 have hls:(ss.map V.str).length=ss.length:=ae _;have e1:HT.sIx (ss.map V.str).length 0 (some 1)=1:=by
  rw[hls];have:=HT.sIx_nat ss.length 0 1;rw[du ⋯] at this;exact this
 apply⟨ρ,ρ,x,C,dx,_,ρ,hx,CC.cl,CC.n2,rfl,ρ,a,ρ,zT ha,?_,λp H1 S1 e=>?_⟩
 ·rw[e1]
  intro q;exact rM q.1 ↥0
 rw[cutF (i:=1) (n:=1) rfl,←fZ] at e;apply⟨p,ρ,.inr (zT e),rfl,qK _,ρ,?_⟩;show if inV (.str z) ((ss.drop 1).map V.str)=true then _ else _;rw[inV_strs];apply jq (λhc=>?_) (λhc=>?_)
 ·obtain⟨i,hi⟩:=cP (rQ hc)
  rw[cY] at hi;apply⟨ρ,x,C,dx,_,ρ,S1 _ _ hx,CC.cl,CC.n5,rfl,ρ,x,C,dx,_,ρ,S1 _ _ hx,CC.cl,CC.n2,rfl,⟨a,ρ,S1 _ _ ha⟩,ρ,a,ss,z,1+i,rfl,rfl,zT (S1 _ _ ha),hi,qh nd hi,?_⟩;exact⟨ς,.inl ⟨↥0,↥0⟩,ς,ς,(k H1 S1).1 (1+i) hi ⋯⟩
 ·apply(k H1 S1).2 λi hi=>?_
  have hn:z ∉ ss.drop 1:=λq=>hc (rO q)
  by_cases q:i=0
  ·exact q
  ·exact rM (aD (i:=i - 1) (by rw[cY,show 1+(i - 1)=i by lia];exact hi)) hn
end HN
namespace L2
open PySem PySem.Spec PyProof.Rows
theorem pX {α β:Type}{f:α→β→Sem (ForInStep β)}{Q:β→au→Prop}:∀(l:List α) (I:Nat→β→au→Prop) (b:β) (s:au),I 0 b s →
  (∀i a b s,l[i]? =some a→I i b s→bc M A (f a b) (λr s'=>∃b',r= .yield b'∧I (i+1) b' s') E s)→(∀b s,I l.length b s→Q b s)→bc M A (forIn l b f) Q E s
 | [],_,b,s,h0,_,hd=>by
  rw[List.forIn_nil];exact aI (hd b s h0)
 | a::l,I,b,s,h0,hs,hd=>by
  rw[List.forIn_cons];apply ai (cW (hs 0 a b s rfl h0) (λr s' hz0=>?_) λ_ _ f=>f);obtain⟨b',e,h'⟩:=hz0;subst e;exact pX l (λi=>I (i+1)) b' s' h' (λi a b s ha hi=>hs (i+1) a b s ha hi) λb s h=>hd b s h
structure Sq where
 l:Bool
 a:aq
def SqAt (h:bP)(c:Sq)(xs:Array af):Prop:=match c.l with | true=>h.IsList c.a xs | false=>h.IsTuple c.a xs
def ItAt (h:bP)(c:Sq)(i:aq)(k:Nat):Prop:=match c.l with | true=>h.IsListIter i c.a k | false=>h.IsTupleIter i c.a k
abbrev oj (h:bP)(T:aq)(vs:List af):Prop:=h.get? T=some { cls:=.type "tuple",data:=.seq vs.toArray }
theorem SqAt.ext {h g:bP}{c:Sq}{xs:Array af}(x:SqAt h c xs)(e:∀o,h.get? c.a=some o→g.get? c.a=some o):SqAt g c xs:=by
 obtain⟨l,a⟩:=c;cases l with
 | true=>obtain⟨o,ho,r⟩:=(show h.IsList a xs from x);exact⟨o,e o ho,r⟩
 | false=>obtain⟨o,ho,r⟩:=(show h.IsTuple a xs from x);exact⟨o,e o ho,r⟩
theorem ItAt.ext {h g:bP}{c:Sq}{i:aq}(x:ItAt h c i k)(e:∀o,h.get? i=some o→g.get? i=some o):ItAt g c i k:=by
 obtain⟨l,a⟩:=c;cases l with
 | true=>obtain⟨o,ho,r⟩:=(show h.IsListIter i a k from x);exact⟨o,e o ho,r⟩
 | false=>obtain⟨o,ho,r⟩:=(show h.IsTupleIter i a k from x);exact⟨o,e o ho,r⟩
theorem ItAt.obj {h:bP}{c:Sq}{i:aq}(x:ItAt h c i k):∃o,h.get? i=some o∧∀v,o.data≠ .cell v:=by
 obtain⟨l,a⟩:=c;cases l with
 | true=>obtain⟨o,ho,_,d⟩:=(show h.IsListIter i a k from x);exact⟨o,ho,λv z=>by rw[d] at z;cases z⟩
 | false=>obtain⟨o,ho,_,d⟩:=(show h.IsTupleIter i a k from x);exact⟨o,ho,λv z=>by rw[d] at z;cases z⟩
theorem rE {c:Sq}{i:aq}{xs:Array af}{v:af}(jt:ItAt s.heap c i k)(tt:SqAt s.heap c xs)(hv:xs[k]? =some v)
  (q:∀g,ItAt g c i (k+1)→cQ i s.heap g→Q v { s with heap:=g }):bc (bC prog w) A (c7 (.ref i)) Q E s:=by
 obtain⟨l,a⟩:=c;cases l with
 | true=>exact wpAny_nextOf_list_item (show s.heap.IsListIter i a k from jt) (show s.heap.IsList a xs from tt) hv λg h1 h2=>q g h1 h2
 | false=>exact nextT_item (show s.heap.IsTupleIter i a k from jt) (show s.heap.IsTuple a xs from tt) hv λg h1 h2=>q g h1 h2
theorem nextS_end {c:Sq}{i:aq}{xs:Array af}(hh:A.handled=none)(jt:ItAt s.heap c i k)(tt:SqAt s.heap c xs)(hv:xs[k]? =none)
  (q:∀g x,bP.ExtBut i s.heap g→(∃o,g.get? x=some o∧o.cls= .type "StopIteration")→E (.ref x) { s with heap:=g }):bc (bC prog w) A (c7 (.ref i)) Q E s:=by
 obtain⟨l,a⟩:=c;cases l with
 | true=>exact wpAny_nextOf_list_end hh (show s.heap.IsListIter i a k from jt) (show s.heap.IsList a xs from tt) hv λg x h1 h2=>q g x h1 h2
 | false=>exact nextT_end hh (show s.heap.IsTupleIter i a k from jt) (show s.heap.IsTuple a xs from tt) hv λg x h1 h2=>q g x h1 h2
theorem iterS {c:Sq}{xs:Array af}(tt:SqAt s.heap c xs)
  (q:∀g,ItAt g c s.heap.objs.size 0→g.objs.size=s.heap.objs.size+1→(∀b o,s.heap.get? b=some o→g.get? b=some o)→Q (.ref s.heap.objs.size) { s with heap:=g }):bc (bC prog w) A (pyIter (.ref c.a)) Q E s:=by
 obtain⟨l,a⟩:=c;cases l with
 | true=>exact gX (show s.heap.IsList a xs from tt) (q _ ⟨_,aU _ rfl,rfl,rfl⟩ (dv ..) λb o e=>ar _ e)
 | false=>exact wpAny_pyIter_tuple (show s.heap.IsTuple a xs from tt) (q _ ⟨_,aU _ rfl,rfl,rfl⟩ (dv ..) λb o e=>ar _ e)
theorem updRow {T:aq}{x:af}{Q:Unit→au→Prop}(hT:oj s.heap T vs)(hz:vs.length≤100)
  (h:∀g,oj g T (vs.set k x)→cQ T s.heap g→Q () { s with heap:=g }):bc (bC prog w) A (updateSeq T (·.setIfInBounds k x)) Q E s:=by
 apply wpAny_updateSeq hT rfl (h _ ?_ (cQ.update ..)) (by rw[aE];exact cB hz ↥0) (by rw[Array.size_setIfInBounds,aE];exact cB hz ↥0);show bP.get? _ T=_;rw[gF _ hT rfl];simp[Obj.mapSeq]
structure ZIn (h g:bP)(z TI TO:aq)(cs:List Sq)(is:List aq)(k j:Nat)(vs old:List af):Prop where
 sz:g.objs.size=h.objs.size
 zip:IsZip g z TI TO .ellipsis
 row:oj g TO (vs.take j++old.drop j)
 its:∀(n:Nat) c i,cs[n]? =some c→is[n]? =some i→ItAt g c i (if n<j then k+1 else k)
 ext:∀e o,e≠z→e≠TO→e ∉ is→h.get? e=some o→g.get? e=some o
structure ZOk (h:bP)(z TI TO:aq)(cs:List Sq)(is:List aq)(k:Nat)(old:List af):Prop where
 len:is.length=cs.length
 few:cs.length≤8
 pos:0<cs.length
 nod:(z::TI::TO::is).Nodup
 zip:IsZip h z TI TO .none
 ti:oj h TI (is.map af.ref)
 to:oj h TO old
 lo:old.length=cs.length
 its:∀(n:Nat) c i,cs[n]? =some c→is[n]? =some i→ItAt h c i k
 off:∀c∈cs,c.a≠z∧c.a≠TO∧c.a ∉ is
theorem nod_ne {is:List aq}{i:aq}{e:aq}(hn:is.Nodup)(h1:is[j]? =some i)(h2:is[n]? =some e)(h:n≠j):e≠i:=λz=>by
 subst z;have a:=(aj.mp h1);have b:=(aj.mp h2);obtain⟨ha,ea⟩:=a;obtain⟨hb,eb⟩:=b;exact h ((List.getElem_inj hn).mp (eb.trans ea.symm))
theorem ZIn.step {h g:bP}{z TI TO:aq}{cs:List Sq}{is:List aq}{i:aq}{c:Sq}(D:ZOk h z TI TO cs is k old)(Z:ZIn h g z TI TO cs is k j vs old)(hi:is[j]? =some i)(hc:cs[j]? =some c){g2 g3:bP}{v:af}(hv:vs[j]? =some v)(lv:vs.length=cs.length)
  (n2:ItAt g2 c i (k+1)) (s2:cQ i g g2) (r3:oj g3 TO ((vs.take j++old.drop j).set j v)) (s3:cQ TO g2 g3):ZIn h g3 z TI TO cs is k (j+1) vs old:=by
 have nod:=D.nod;rw[bV,bV,bV] at nod;obtain⟨nz,nT,nO,ni⟩:=nod;have mi:i∈is:=aD hi;have iz:z≠i:=λq=>nz (by rw[q];simp[mi])
 have iO:TO≠i:=λq=>nO (by rw[q];exact mi)
 have zO:z≠TO:=λq=>nz (by rw[q];simp)
 have jl:j<cs.length:=(aj.mp hc).1;apply⟨by rw[s3.1,s2.1,Z.sz],s3.extBut _ _ zO (s2.extBut _ _ iz Z.zip),?_,λn c' i' hc' hi'=>?_,λe o e1 e2 e3 q=>s3.extBut _ _ e2 (s2.extBut _ _ (λy=>e3 (by rw[y];exact mi)) (Z.ext e o e1 e2 e3 q))⟩
 ·have lo:=D.lo
  have e:(vs.take j++old.drop j).set j v=vs.take (j+1)++old.drop (j+1):=by
   have l1:(vs.take j).length=j:=by rw[aJ];lia
   rw[List.set_append,rK ⋯,l1,fu,my (by lia:j<old.length),List.set_cons_zero,aQ,hv];simp
  rw[←e];exact r3
 ·have mi':i'∈is:=aD hi'
  have iO':i'≠TO:=λq=>nO (by rw[←q];exact mi')
  by_cases e:n=j
  ·subst e
   rw[hi] at hi';rw[hc] at hc';cases hi';cases hc';rw[rL ⋯];exact n2.ext λo q=>s3.extBut _ _ iO' q
  ·have q:=Z.its n c' i' hc' hi'
   have e2:(if n<j+1 then k+1 else k)=(if n<j then k+1 else k):=by
    by_cases y:n<j
    ·rw[rL y,rL ⋯]
    ·rw[rK y,rK ⋯]
   rw[e2];exact q.ext λo r=>s3.extBut _ _ iO' (s2.extBut _ _ (nod_ne ni hi hi' e) r)
theorem zipS_go {z TI TO:aq}{cs:List Sq}{is:List aq}{Q:Option af→au→Prop}(D:ZOk s.heap z TI TO cs is k old)
  (hv:∀(n:Nat) c,cs[n]? =some c→∃xs v,SqAt s.heap c xs∧xs[k]? =some v∧vs[n]? =some v) (lv:vs.length=cs.length)
  (q:∀ g,IsZip g z TI TO (kP s.heap.objs.size)→oj g TO vs→(∀ (n:Nat) c i,cs[n]? =some c→is[n]? =some i→ItAt g c i (k+1))→oj g s.heap.objs.size vs→g.objs.size=s.heap.objs.size+1 →
   (∀ e o,e≠z→e≠TO→e ∉ is→s.heap.get? e=some o→g.get? e=some o)→Q (some (.ref s.heap.objs.size)) { s with heap:=g }):bc (bC prog w) A (pyNext (.ref z)) Q E s:=by
 have hT:s.TypeIs (.ref z) "zip":=⟨_,D.zip,rfl⟩;have nod:=D.nod;rw[bV,bV,bV] at nod;obtain⟨nz,nT,nO,ni⟩:=nod;have zO:z≠TO:=λq=>nz (by rw[q];simp)
 have few:=D.few;have len:=D.len;unfold pyNext;apply ai (lL (eP (name:=bU "__next__") hT F.slot_zip_next (ik F.slot_zip_next hT F.entry_zip_next ?_ (F.args_zip_next_1 _))));show bc _ _ (field (.ref z) 2 >>= _) _ _ s;apply ai (cJ D.zip rfl (x:=.bool false) (by rfl) ?_);show bc _ _ (field (.ref z) 3 >>= _) _ _ s;apply ai (cJ D.zip rfl (x:=.ref TI) (by rfl) ?_);apply ai (jJ D.ti rfl ?_)
 dsimp only
 rw[rK (by intro y;rw[Array.isEmpty_iff_size_eq_zero,aE,ae,len] at y;have:=D.pos;lia)];apply ai ?_;unfold gG;apply ai (cJ D.zip rfl (x:=.none) (by rfl) (aI ?_));simp only[if_true];apply ai (wpAny_rule ?_);apply ai (cJ D.zip rfl (x:=.ref TO) (by rfl) ?_);apply ai (eQ D.zip ∅ λg1 z1 s1=>?_);have z1:IsZip g1 z TI TO .ellipsis:=z1;apply ai ?_;apply pX _ (λj b s'=>b=_∧∃g,s'={ s with heap:=g }∧ZIn s.heap g z TI TO cs is k j vs old) _ _ ⟨rfl,g1,rfl,?_⟩ ?_ ?_
 ·apply⟨s1.1,z1,s1.extBut _ _ zO.symm D.to,λn c i hc hi=>?_,λe o e1 _ _ h=>s1.extBut _ _ e1 h⟩
  rw[rK ⋯];exact(D.its n c i hc hi).ext λo h=>s1.extBut _ _ (λy=>nz (by rw[←y];simp[aD hi])) h
 ·rintro j a b s' ha ⟨rfl,g,rfl,Z⟩
  rw[List.getElem?_zipIdx] at ha;obtain⟨x,hx,rfl⟩:=bp.mp ha;have hx:(is.map af.ref)[j]? =some x:=by simpa using hx
  rw[ay] at hx;obtain⟨i,hi,rfl⟩:=bp.mp hx;have jl:j<cs.length:=by rw[←len];exact(aj.mp hi).1
  have hc:cs[j]? =some cs[j]:=gE jl;obtain⟨xs,v,hq,hxv,hvv⟩:=hv j _ hc;obtain⟨o1,o2,o3⟩:=D.off _ (cu jl);have it:=Z.its j _ i hc hi;rw[rK ⋯] at it
  dsimp only
  apply ai (wpAny_onRaise ?_);show bc _ _ (c7 (.ref i) >>= _) _ _ _;apply ai (rE it (hq.ext λo h=>Z.ext _ o o1 o2 o3 h) hxv λg2 n2 s2=>aI ?_);have iO:TO≠i:=λq=>nO (by rw[q];exact aD hi)
  have r2:oj g2 TO (vs.take j++old.drop j):=s2.extBut _ _ iO Z.row;apply ai (jJ r2 rfl ?_);apply ai (updRow (x:=v) (k:=0+j) r2 (by rw[ao,aJ,bE];have:=D.lo;lia) λg3 r3 s3=>?_);rw[Nat.zero_add] at r3;apply ai (wpAny_letGo (aI ⟨_,rfl,rfl,g3,rfl,Z.step D hi hc hvv lv n2 s2 r3 s3⟩))
 ·rintro b s' ⟨rfl,g5,rfl,Z⟩
  have ll:((is.map af.ref).toArray.toList.zipIdx).length=cs.length:=by simp[len]
  rw[ll] at Z;have z5:=Z.zip;have o5:oj g5 TO vs:=by
   have:=Z.row;rw[←lv,bG,lv,←D.lo,List.drop_length,bY] at this;exact this
  have m5:∀(n:Nat) c i,cs[n]? =some c→is[n]? =some i→ItAt g5 c i (k+1):=λn c i hc hi=>by
   have:=Z.its n c i hc hi;rw[rL (aj.mp hc).1] at this;exact this
  dsimp only
  apply ai (jJ o5 rfl ?_);apply ai (wpAny_newTuple ?_);have zlt:z<g5.objs.size:=aV z5;have sz:=Z.sz;apply ai ?_;unfold iS;have z6:IsZip (g5.push { cls:=.type "tuple",data:=.seq vs.toArray }) z TI TO .ellipsis:=ar _ z5;apply ai (eQ z6 ∅ λg7 z7 s7=>?_);have z7:IsZip g7 z TI TO (kP g5.objs.size):=z7;apply eQ z7 ∅ λg8 z8 s8=>?_
  have z8:IsZip g8 z TI TO (kP g5.objs.size):=z8;have up:∀e o,e≠z→g5.get? e=some o→g8.get? e=some o:=λe o c1 h=>s8.extBut _ _ c1 (s7.extBut _ _ c1 (ar _ h))
  have t8:oj g8 g5.objs.size vs:=s8.extBut _ _ (i8 zlt) (s7.extBut _ _ (i8 zlt) (aU _ rfl));have sz8:g8.objs.size=g5.objs.size+1:=by rw[s8.1,s7.1,dv]
  rw[sz] at z8 t8 sz8;apply aI ⟨_,rfl,?_⟩;apply aI ?_;show Q (some (.ref g5.objs.size)) _;rw[sz];apply q g8 z8 (up _ _ zO.symm o5) (λn c i hc hi=>(m5 n c i hc hi).ext λo h=>up _ o (λy=>nz (by rw[←y];simp[aD hi])) h) t8 sz8 λe o c1 c2 c3 h=>up e o c1 (Z.ext e o c1 c2 c3 h)
theorem zipS_stop {z TI TO:aq}{cs:List Sq}{is:List aq}{cm:Sq}{Q:Option af→au→Prop}(hh:A.handled=none)(D:ZOk s.heap z TI TO cs is k old)
  (hv:∀(n:Nat) c,cs[n]? =some c→n<m→∃xs v,SqAt s.heap c xs∧xs[k]? =some v∧vs[n]? =some v) (lv:vs.length=cs.length) (hm:cs[m]? =some cm) {xm:Array af} (hxm:SqAt s.heap cm xm) (hem:xm[k]? =none)
  (q:∀g,(∀e o,e≠z→e≠TO→e ∉ is→s.heap.get? e=some o→g.get? e=some o)→Q none { s with heap:=g }):bc (bC prog w) A (pyNext (.ref z)) Q E s:=by
 have hT:s.TypeIs (.ref z) "zip":=⟨_,D.zip,rfl⟩;have nod:=D.nod;rw[bV,bV,bV] at nod;obtain⟨nz,nT,nO,ni⟩:=nod;have zO:z≠TO:=λq=>nz (by rw[q];simp)
 have few:=D.few;have len:=D.len;have fin:∀g x,(∀e o,e≠z→e≠TO→e ∉ is→s.heap.get? e=some o→g.get? e=some o)→(∃o,g.get? x=some o∧o.cls= .type "StopIteration") →
   bc (bC prog w) A (do if ← isInstance (.ref x) (.type "StopIteration") then iJ none else throw (.ref x)) Q E { s with heap:=g }:=λg x k ⟨o,ho,hc⟩=>by
  apply ai (wpAny_isInstance (T:="StopIteration") (b:=true) ⟨o,ho,hc⟩ isSubtype_stop ?_);exact aI (q g k)
 have ml:m<cs.length:=(aj.mp hm).1;unfold pyNext;apply ai (lL (eP (name:=bU "__next__") hT F.slot_zip_next (ik F.slot_zip_next hT F.entry_zip_next ?_ (F.args_zip_next_1 _))));show bc _ _ (field (.ref z) 2 >>= _) _ _ s;apply ai (cJ D.zip rfl (x:=.bool false) (by rfl) ?_);show bc _ _ (field (.ref z) 3 >>= _) _ _ s;apply ai (cJ D.zip rfl (x:=.ref TI) (by rfl) ?_);apply ai (jJ D.ti rfl ?_)
 dsimp only
 rw[rK (by intro y;rw[Array.isEmpty_iff_size_eq_zero,aE,ae,len] at y;have:=D.pos;lia)];apply ai ?_;unfold gG;apply ai (cJ D.zip rfl (x:=.none) (by rfl) (aI ?_));simp only[if_true];apply ai (wpAny_rule ?_);apply ai (cJ D.zip rfl (x:=.ref TO) (by rfl) ?_);apply ai (eQ D.zip ∅ λg1 z1 s1=>?_);have z1:IsZip g1 z TI TO .ellipsis:=z1;apply ai ?_;apply pX _ (λj b s'=>b=_∧j≤m∧∃g,s'={ s with heap:=g }∧ZIn s.heap g z TI TO cs is k j vs old) _ _ ⟨rfl,cR _,g1,rfl,?_⟩ ?_ ?_
 ·apply⟨s1.1,z1,s1.extBut _ _ zO.symm D.to,λn c i hc hi=>?_,λe o e1 _ _ h=>s1.extBut _ _ e1 h⟩
  rw[rK ⋯];exact(D.its n c i hc hi).ext λo h=>s1.extBut _ _ (λy=>nz (by rw[←y];simp[aD hi])) h
 ·rintro j a b s' ha ⟨rfl,jm,g,rfl,Z⟩
  rw[List.getElem?_zipIdx] at ha;obtain⟨x,hx,rfl⟩:=bp.mp ha;have hx:(is.map af.ref)[j]? =some x:=by simpa using hx
  rw[ay] at hx;obtain⟨i,hi,rfl⟩:=bp.mp hx;have jl:j<cs.length:=by rw[←len];exact(aj.mp hi).1
  have hc:cs[j]? =some cs[j]:=gE jl;obtain⟨o1,o2,o3⟩:=D.off _ (cu jl);have it:=Z.its j _ i hc hi;rw[rK ⋯] at it;have iO:TO≠i:=λq=>nO (by rw[q];exact aD hi)
  have iz:z≠i:=λq=>nz (by rw[q];simp[aD hi])
  dsimp only
  apply ai (wpAny_onRaise ?_);show bc _ _ (c7 (.ref i) >>= _) _ _ _
  by_cases e:j=m
  ·subst e
   rw[hc] at hm;cases hm;apply ai (nextS_end hh it (hxm.ext λo h=>Z.ext _ o o1 o2 o3 h) hem λg2 x s2 hx2=>?_);obtain⟨oe,e1,e2⟩:=hx2;have z2:IsZip g2 z TI TO .ellipsis:=s2 _ _ iz Z.zip;have xz:x≠z:=λr=>by subst r;rw[z2] at e1;cases e1;simp at e2
   exact eQ z2 ∅ λg3 _ s3=>fin g3 x (λe o c1 c2 c3 h=>s3.extBut _ _ c1 (s2 _ _ (λy=>c3 (by rw[y];exact aD hi)) (Z.ext e o c1 c2 c3 h))) ⟨oe,s3.extBut _ _ xz e1,e2⟩
  ·obtain⟨xs,v,hq,hxv,hvv⟩:=hv j _ hc ⋯
   apply ai (rE it (hq.ext λo h=>Z.ext _ o o1 o2 o3 h) hxv λg2 n2 s2=>aI ?_);have r2:oj g2 TO (vs.take j++old.drop j):=s2.extBut _ _ iO Z.row;apply ai (jJ r2 rfl ?_);apply ai (updRow (x:=v) (k:=0+j) r2 (by rw[ao,aJ,bE];have:=D.lo;lia) λg3 r3 s3=>?_);rw[Nat.zero_add] at r3;apply ai (wpAny_letGo (aI ⟨_,rfl,rfl,⋯,g3,rfl,Z.step D hi hc hvv lv n2 s2 r3 s3⟩))
 ·rintro b s' ⟨rfl,jm,g5,rfl,Z⟩
  have ll:((is.map af.ref).toArray.toList.zipIdx).length=cs.length:=by simp[len]
  rw[ll] at jm;lia
theorem oh {α:Type}{P:Nat→α→Prop}:∀(k:Nat),(∀n,n<k→∃u,P n u)→∃us:List α,us.length=k∧∀(n:Nat) u,us[n]? =some u→P n u
 | 0,_=>⟨[],rfl,λn u h=>by simp at h⟩
 | k+1,h=>by
  obtain⟨us,hl,hu⟩:=oh k λn hn=>h n ⋯
  obtain⟨u,pu⟩:=h k ⋯;apply⟨us++[u],by rw[ao,hl];rfl,λn v hv=>?_⟩
  by_cases e:n<us.length
  ·rw[bI e] at hv
   exact hu n v hv
  ·rw[aR ⋯] at hv
   have hn:n=us.length:=by
    have:=(aj.mp hv).1;simp at this;lia
   subst hn;rw[fu] at hv;cases hv;rw[hl];exact pu
theorem vals_of:∀{vs:List V} {us:List af},vs.length=us.length→(∀(n:Nat) v u,vs[n]? =some v→us[n]? =some u→iY v u)→gZ vs us
 | [],[],_,_=>.nil
 | v::vs,u::us,hl,h=>.cons (h 0 v u rfl rfl) (vals_of (by simpa using hl) λn v' u' a b=>h (n+1) v' u' a b)
 | [],_::_,hl,_=>by simp at hl
 | _::_,[],hl,_=>by simp at hl
def HSq (H:Hp)(c:Sq)(xs:List V):Prop:=match c.l with | true=>H c.a=some (.lst xs) | false=>H c.a=some (.tup xs)
theorem HSq.inj {c:Sq}(a:HSq H c xs)(b:HSq H c ys):xs=ys:=by
 obtain⟨l,q⟩:=c;cases l with
 | true=>have a:H q=some (.lst xs):=a;have b:H q=some (.lst ys):=b;rw[a] at b;cases b;rfl
 | false=>have a:H q=some (.tup xs):=a;have b:H q=some (.tup ys):=b;rw[a] at b;cases b;rfl
theorem HSq.has {c:Sq}(a:HSq H c xs):∃o,H c.a=some o:=by
 obtain⟨l,q⟩:=c;cases l with
 | true=>exact⟨_,a⟩
 | false=>exact⟨_,a⟩
theorem HSq.at {c:Sq}(I:Inv X aL σ H s)(h:HSq H c xs):∃its,gZ xs its∧SqAt s.heap c its.toArray:=by
 obtain⟨l,q⟩:=c;cases l with
 | true =>
  obtain⟨its,r,p,_⟩:=I.list (zL (K:=X.K) (show H q=some (.lst xs) from h));exact⟨its,r,p.isList⟩
 | false =>
  obtain⟨its,r,p,_⟩:=I.tuple (zT (K:=X.K) (show H q=some (.tup xs) from h));exact⟨its,r,p⟩
def Itq (cs:List Sq):It:=
 ⟨fun i H=>∃ vs:List V,vs.length=cs.length∧∀ (n:Nat) c,cs[n]? =some c→∃ xs x,HSq H c xs∧xs[i]? =some x∧vs[n]? =some x,
  λi H v H'=>∃p vs,H p=none∧v= .ref p∧H'=upd H p (.tup vs)∧vs.length=cs.length∧∀(n:Nat) c x xs,cs[n]? =some c→HSq H c xs→vs[n]? =some x→xs[i]? =some x,
  fun i H=>∃ m cm xm,cs[m]? =some cm∧HSq H cm xm∧xm.length≤i∧∀ (n:Nat) c,cs[n]? =some c→n<m→∃ xs x,HSq H c xs∧xs[i]? =some x⟩
theorem turn_zipS {k0}{z TI TO:aq}{cs:List Sq}{is:List aq} :
  Turn P w K (.Tuple es k0 pos) (Itq cs) (z::TI::TO::is) z (λi h=>∃old,ZOk h z TI TO cs is i old) where
 mem:=by simp
 obj:=λi h st c hc=>by
  obtain⟨old,D⟩:=st;simp only[az] at hc
  rcases hc with rfl | rfl | rfl | hc
  ·exact⟨_,D.zip,λv z=>by cases z⟩
  ·exact⟨_,D.ti,λv z=>by cases z⟩
  ·exact⟨_,D.to,λv z=>by cases z⟩
  ·obtain⟨n,hn⟩:=cP hc
   have hl:n<cs.length:=by rw[←D.len];exact(aj.mp hn).1
   exact(D.its n _ c (gE hl) hn).obj
 keep:=λi h h' st k=>by
  obtain⟨old,D⟩:=st;exact⟨old,D.len,D.few,D.pos,D.nod,k z ∅ _ D.zip,k TI ∅ _ D.ti,k TO ∅ _ D.to,D.lo,λn c i hc hi=>(D.its n c i hc hi).ext λo e=>k i (by simp[aD hi]) o e,D.off⟩
 item:=by
  intro X hP hw hK hc i aL s σ H E I hf st hg;subst hP hw hK;obtain⟨old,D⟩:=st;obtain⟨vs,lv,hv⟩:=hg;have nz:∀e∈z::TI::TO::is,H e=none:=λe he=>(hf e he).1
  have hT:H s.heap.objs.size=none:=I.fresh;have ex:∀n,n<cs.length→∃u:af,(∀c,cs[n]? =some c→∃xs,SqAt s.heap c xs∧xs[i]? =some u)∧∀v,vs[n]? =some v→iY v u:=λn hn=>by
   obtain⟨xs,x,h1,h2,h3⟩:=hv n _ (gE hn);obtain⟨its,r,p⟩:=h1.at I;obtain⟨u,hu,ru⟩:=r.get h2;apply⟨u,λc hc=>?_,λv hv'=>?_⟩
   ·rw[gE hn] at hc
    cases hc;exact⟨_,p,by simpa using hu⟩
   ·rw[h3] at hv'
    cases hv';exact ru
  obtain⟨us,lu,hu⟩:=oh cs.length ex;have hrel:gZ vs us:=vals_of ⋯ λn v u a b=>(hu n u b).2 v a
  apply zipS_go D (vs:=us) (λn c hc=>?_) lu λg z1 to1 m1 tp sz kk=>⟨ρ,?_⟩
  ·have hn:n<us.length:=by rw[lu];exact(aj.mp hc).1
   obtain⟨xs,a,b⟩:=(hu n _ (gE hn)).1 c hc;exact⟨xs,us[n],a,b,gE hn⟩
  apply wpAny_letOwnedTupleGo_zip z1 λg2 z2 s2=>?_
  have s2:cQ z g g2:=s2;have k2:∀e o,e ∉ z::TO::is→s.heap.get? e=some o→g2.get? e=some o:=λe o hn h=>by
   simp only[az,not_or] at hn;exact s2.extBut _ _ hn.1 (kk e o hn.1 hn.2.1 hn.2.2 h)
  have zlt:z<s.heap.objs.size:=aV D.zip;have tp2:oj g2 s.heap.objs.size us:=s2.extBut _ _ (i8 zlt) tp;have sub:∀e∈z::TO::is,e∈z::TI::TO::is:=λe he=>by
   simp only[az] at he ⊢
   rcases he with rfl | rfl | he <;> simp[*]
  have trk:∀e o,H e=some o→e ∉ z::TO::is:=λe o he hm=>by rw[nz e (sub e hm)] at he;cases he
  have J:Inv X aL σ (upd H s.heap.objs.size (.tup vs)) { s with heap:=g2 }:=by
   apply I.turnAll (ch:=z::TO::is) (λe he=>hf e (sub e he)) k2 (λe o h=>by rw[bf (aZ h hT)];exact h) (λe o h n=>by rw[bf (cz (aV h))];exact n) λe o h=>?_
   by_cases q:e=s.heap.objs.size
   ·subst q
    rw[aP] at h;cases h;exact⟨by rw[lv];exact cB D.few ↥0,us,hrel,_,tp2,rfl,rfl,ρ⟩
   ·rw[bf q] at h
    apply (I.hok e o h).stay (fun c v hc' q'=>k2 c v (by
     rcases hc' with z' | z'
     ·rw[z'];exact trk e o h
     ·exact trk c _ z') q') (fun c q'=>by rw[bf (aZ q' hT)];exact q') fun c xs q'=>by rw[bf (aZ q' hT)];exact q'
  have nod:=D.nod;rw[bV,bV,bV] at nod;obtain⟨nz',nT,nO,ni⟩:=nod;apply⟨.ref s.heap.objs.size,_,J,rfl,⟨_,vs,hT,rfl,rfl,lv,λn c x xs hc hq hx=>?_⟩,⟨us,D.len,D.few,D.pos,D.nod,z2,?_,s2.extBut _ _ (λy=>nz' (by rw[←y];simp)) to1,lu,λn c j hc hj=>?_,D.off⟩,λe he=>?_⟩
  ·obtain⟨ys,y,h1,h2,h3⟩:=hv n c hc
   rw[h1.inj hq] at h2;rw[h3] at hx;cases hx;exact h2
  ·apply k2 _ _ (λy=>?_) D.ti
   rcases az.mp y with y | y
   ·exact nz' (by rw[←y];simp)
   ·exact nT y
  ·exact(m1 n c j hc hj).ext λo e=>s2.extBut _ _ (λy=>nz' (by rw[←y];simp[aD hj])) e
  ·have hlt:e<s.heap.objs.size:=by
    simp only[az] at he
    rcases he with rfl | rfl | rfl | he
    ·exact aV D.zip
    ·exact aV D.ti
    ·exact aV D.to
    ·obtain⟨n,hn⟩:=cP he
     have hl:n<cs.length:=by rw[←D.len];exact(aj.mp hn).1
     obtain⟨o,ho,_⟩:=(D.its n _ e (gE hl) hn).obj;exact aV ho
   rw[bf (cz hlt)];exact nz e he
 done:=by
  intro X hP hw hK hc i aL s σ H E I hf st hg;subst hP hw hK;obtain⟨old,D⟩:=st;obtain⟨m,cm,xm,hm,hxm,hi,hv⟩:=hg;have nz:∀e∈z::TI::TO::is,H e=none:=λe he=>(hf e he).1
  have ex:∀n,n<cs.length→∃u:af,∀c,cs[n]? =some c→n<m→∃xs,SqAt s.heap c xs∧xs[i]? =some u:=λn hn=>by
   by_cases e:n<m
   ·obtain⟨xs,x,h1,h2⟩:=hv n _ (gE hn) e
    obtain⟨its,r,p⟩:=h1.at I;obtain⟨u,hu,ru⟩:=r.get h2;apply⟨u,λc hc _=>?_⟩;rw[gE hn] at hc;cases hc;exact⟨_,p,by simpa using hu⟩
   ·exact⟨.none,λc _ z=>rM z e⟩
  obtain⟨us,lu,hu⟩:=oh cs.length ex;obtain⟨its,r,p⟩:=hxm.at I;have hl:=r.length;apply zipS_stop (I.ok.hd hc) D (vs:=us) (m:=m) (λn c hc hn=>?_) lu hm p (by simp;lia) λg kk=>⟨rfl,?_⟩
  ·have hn':n<us.length:=by rw[lu];exact(aj.mp hc).1
   obtain⟨xs,a,b⟩:=hu n _ (gE hn') c hc hn;exact⟨xs,us[n],a,b,gE hn'⟩
  have sub:∀e∈z::TO::is,e∈z::TI::TO::is:=λe he=>by
   simp only[az] at he ⊢
   rcases he with rfl | rfl | he <;> simp[*]
  have k2:∀e o,e ∉ z::TO::is→s.heap.get? e=some o→g.get? e=some o:=λe o hn h=>by
   simp only[az,not_or] at hn;exact kk e o hn.1 hn.2.1 hn.2.2 h
  have trk:∀e o,H e=some o→e ∉ z::TO::is:=λe o he hm=>by rw[nz e (sub e hm)] at he;cases he
  apply I.turnAll (ch:=z::TO::is) (λe he=>hf e (sub e he)) k2 (λ_ _ h=>h) (λ_ _ _ n=>n) λe o h=>?_
  exact (I.hok e o h).stay (fun c v hc' q'=>k2 c v (by
   rcases hc' with z' | z'
   ·rw[z'];exact trk e o h
   ·exact trk c _ z') q') (fun _ q'=>q') fun _ _ q'=>q'
 self:=λ_ _ _ _ _ st h=>let ⟨_,D⟩:=st;wpAny_pyIter_zip D.zip h
structure ZNew (h g:bP)(cs:List Sq):Prop where
 zip:IsZip g (h.objs.size+cs.length+2) (h.objs.size+cs.length) (h.objs.size+cs.length+1) .none
 ti:oj g (h.objs.size+cs.length) (((cI cs.length).map λj=>h.objs.size+j).map af.ref)
 to:oj g (h.objs.size+cs.length+1) (List.replicate cs.length .none)
 its:∀(n:Nat) c,cs[n]? =some c→ItAt g c (h.objs.size+n) 0
 ext:∀b o,h.get? b=some o→g.get? b=some o
theorem newClass_zip (vs:List af):eN.SmallTypes.newClass "zip" ⟨.type "zip" :: vs,[]⟩=iJ (.type "zip",vs):=by
 unfold eN.SmallTypes.newClass;simp only[isType,sub_zip,pure_bind,Bool.not_true,Bool.false_eq_true,if_false]
theorem zipS_new (cs:List Sq)(few:cs.length≤8) :
  Meets (eN.«zip.__new__» ⟨.type "zip" :: cs.map λc=>af.ref c.a,[]⟩) (λ_ R s=>(∀c∈cs,∃xs,SqAt s.heap c xs)∧∀g,ZNew s.heap g cs→R (.ok (.ret (.ref (s.heap.objs.size+cs.length+2)))) { s with heap:=g }):=
 .of_wp λprog w A R s h=>by
  obtain⟨h1,h⟩:=h;unfold eN.«zip.__new__»;apply ai (wpAny_of_eq (newClass_zip _) ?_);show bc _ _ (eN.SmallTypes.iterAll (cs.map λc=>af.ref c.a) >>= _) _ _ _;apply ai ?_;unfold eN.SmallTypes.iterAll;apply ai (pX _ (λj its s'=>∃g,s'={ s with heap:=g }∧g.objs.size=s.heap.objs.size+j∧its=((cI j).map λi=>af.ref (s.heap.objs.size+i)).toArray∧(∀(n:Nat) c,n<j→cs[n]? =some c→ItAt g c (s.heap.objs.size+n) 0)∧∀b o,s.heap.get? b=some o→g.get? b=some o) _ _ ⟨s.heap,rfl,rfl,rfl,λn c hn=>rM hn ⋯,λ_ _ e=>e⟩ ?_ ?_)
  ·rintro j a its s' ha ⟨g,rfl,sz,rfl,hit,ext⟩
   rw[ay] at ha;obtain⟨c,hc,rfl⟩:=bp.mp ha;obtain⟨xs,hx⟩:=h1 c (aD hc);apply ai (gx (iterS (c:=c) (xs:=xs) (hx.ext λo e=>ext _ o e) λg2 i2 z2 e2=>?_));apply aI ⟨_,rfl,g2,rfl,?_,?_,λn c' hn hc'=>?_,λb o e=>e2 b o (ext b o e)⟩
   ·show g2.objs.size=_
    rw[z2];show g.objs.size+1=_;rw[sz];lia
   ·show Array.push _ (af.ref g.objs.size)=_
    rw[sz,List.range_succ,av];simp
   ·by_cases e:n=j
    ·subst e
     rw[hc] at hc';cases hc';have i2:ItAt g2 c g.objs.size 0:=i2;rw[sz] at i2;exact i2
    ·exact(hit n c' ⋯ hc').ext λo q=>e2 _ o q
  ·rintro its s' ⟨g,rfl,sz,rfl,hit,ext⟩
   have ll:(cs.map λc=>af.ref c.a).length=cs.length:=ae ..;rw[ll] at sz hit ⊢;apply aI ?_
   dsimp only
   have n8:((cI cs.length).map λi=>af.ref (s.heap.objs.size+i)).length≤ax:=by
    rw[ae,j9];exact cB few ↥0
   apply ai (wpAny_newTuple ?_ (by simpa using n8));apply ai (wpAny_newTuple ?_ (by simpa using n8));apply ai ?_;unfold eN.SmallTypes.newRecord;apply gz (aI ⟨_,rfl,?_⟩) (by show 5≤ax+2;decide);have e1:(g.push { cls:=.type "tuple",data:=.seq ((cI cs.length).map λi=>af.ref (s.heap.objs.size+i)).toArray }).objs.size=s.heap.objs.size+cs.length+1:=by rw[dv,sz]
   have e2:((g.push { cls:=.type "tuple",data:=.seq ((cI cs.length).map λi=>af.ref (s.heap.objs.size+i)).toArray }).push { cls:=.type "tuple",data:=.seq ((((cI cs.length).map λi=>af.ref (s.heap.objs.size+i)).toArray.toList.map λ_=>af.none)).toArray }).objs.size=s.heap.objs.size+cs.length+2:=by rw[dv,e1]
   have key:=h (((g.push { cls:=.type "tuple",data:=.seq ((cI cs.length).map λi=>af.ref (s.heap.objs.size+i)).toArray }).push { cls:=.type "tuple",data:=.seq ((((cI cs.length).map λi=>af.ref (s.heap.objs.size+i)).toArray.toList.map λ_=>af.none)).toArray }).push { cls:=.type "zip",data:=.fields #[.none,.bool false,.bool false,.ref (s.heap.objs.size+cs.length),.ref (s.heap.objs.size+cs.length+1)] })
    ⟨by rw[←e2];exact aU _ rfl,?_,?_,λn c hc=>(hit n c (aj.mp hc).1 hc).ext λo q=>ar _ (ar _ (ar _ q)),λb o q=>ar _ (ar _ (ar _ (ext b o q)))⟩
   ·rw[←e2] at key
    have e1':(s.heap.objs.size+cs.length:Nat)=g.objs.size:=sz.symm;rw[←e1,e1'] at key;exact key
   ·have em:(((cI cs.length).map λj=>s.heap.objs.size+j).map af.ref)=((cI cs.length).map λi=>af.ref (s.heap.objs.size+i)):=by rw[b9];rfl
    show bP.get? _ _=_;rw[em,←sz];exact ar _ (ar _ (aU _ rfl))
   ·rw[←e1]
    have er:(((cI cs.length).map λi=>af.ref (s.heap.objs.size+i)).toArray.toList.map λ_=>af.none)=List.replicate cs.length af.none:=by
     rw[List.eq_replicate_iff];exact⟨∅,λx hx=>by obtain⟨_,_,rfl⟩:=aK.mp hx;rfl⟩
    rw[er];exact ar _ (aU _ rfl)
theorem zip_args3 (a b c d:af):argsOk "object.__init__" ⟨[a,b,c,d],[]⟩:=by
 unfold argsOk;rw[signature?_of (id:="object.__init__") (n:=['_','_','t','i','n','i','_','_']) (o:=['t','c','e','j','b','o']) (by kernel_rfl) F.owner_object]
 kernel_rfl
theorem zip_type3 (a b c:af):checkTypeCall "zip" ⟨[a,b,c],[]⟩=iJ ():=by kernel_rfl
theorem zip_new3 (a b c:af):checkBuiltinCall "zip.__new__" ⟨[.type "zip",a,b,c],[]⟩=iJ ():=by kernel_rfl
theorem zip_walk {s1:au}{k0}{pt:Pos}{R:It→Hp→Prop}{cs:List Sq}(I1:Inv X aL σ H1 s1)(few:cs.length≤8)(pos:0<cs.length)(hq:∀c∈cs,∃xs,HSq H1 c xs)(q:R (Itq cs) H1){g:bP}(Z:ZNew s1.heap g cs) :
  bc (bC X.prog X.w) X.A (pyIter (.ref (s1.heap.objs.size+cs.length+2))) (PIE X aL σ (.Tuple es k0 pt) R) E { s1 with heap:=g }:=by
 have small:∀c∈cs,c.a<s1.heap.objs.size:=λc hc=>by
  obtain⟨xs,hx⟩:=hq c hc;obtain⟨o,ho⟩:=hx.has;exact Nat.lt_of_not_le λhge=>by rw[I1.hok.fresh hge] at ho;cases ho
 apply wpAny_pyIter_zip Z.zip ⟨_,(s1.heap.objs.size+cs.length+2)::(s1.heap.objs.size+cs.length)::(s1.heap.objs.size+cs.length+1)::((cI cs.length).map λj=>s1.heap.objs.size+j),_,Itq cs,H1,rfl,I1.kept (t':=s1.toks) Z.ext,turn_zipS,⟨_,?_,few,pos,?_,Z.zip,Z.ti,Z.to,by rw[List.length_replicate],λn c i hc hi=>?_,λc hc=>?_⟩,λe he=>?_,q⟩
 ·rw[ae,j9]
 ·have nd:((cI cs.length).map λj=>s1.heap.objs.size+j).Nodup:=by
   rw[List.nodup_iff_pairwise_ne,List.pairwise_map];exact(List.nodup_iff_pairwise_ne.mp List.nodup_range).imp λh e=>h ⋯
  have out:∀x,s1.heap.objs.size+cs.length≤x→x ∉ ((cI cs.length).map λj=>s1.heap.objs.size+j):=λx hx hm=>by
   obtain⟨j,hj,rfl⟩:=aK.mp hm;have:=List.mem_range.mp hj;lia
  rw[bV,bV,bV];apply⟨λh=>?_,λh=>?_,λh=>out _ (by show @LE.le Nat _ _ _;lia) h,nd⟩
  ·rcases az.mp h with h | h
   ·have h: @Eq Nat _ _:=h
    lia
   ·rcases az.mp h with h | h
    ·have h: @Eq Nat _ _:=h
     lia
    ·exact out _ (by show @LE.le Nat _ _ _;lia) h
  ·rcases az.mp h with h | h
   ·have h: @Eq Nat _ _:=h
    lia
   ·exact out _ (by show @LE.le Nat _ _ _;lia) h
 ·rw[ay,List.getElem?_range (aj.mp hc).1] at hi
  cases hi;exact Z.its n c hc
 ·have:=small c hc
  have this: @LT.lt Nat _ c.a s1.heap.objs.size:=this;apply⟨by show @Ne Nat _ _;lia,by show @Ne Nat _ _;lia,λhm=>?_⟩;obtain⟨j,hj,e⟩:=aK.mp hm;have e: @Eq Nat _ _:=e;lia
 ·have hge:s1.heap.objs.size≤e:=by
   simp only[az] at he
   rcases he with rfl | rfl | rfl | he
   ·show @LE.le Nat _ _ _;lia
   ·show @LE.le Nat _ _ _;lia
   ·show @LE.le Nat _ _ _;lia
   ·obtain⟨j,hj,rfl⟩:=aK.mp he
    show @LE.le Nat _ _ _;lia
  exact I1.fpOk hge (I1.hok.fresh hge)
def iZip2 (ta:TA):TI:=λσ H R=>ta σ H λvs H1=>∃c1 c2 xs ys,vs=[.ref c1.a,.ref c2.a]∧HSq H1 c1 xs∧HSq H1 c2 ys∧R (Itq [c1,c2]) H1
theorem pi_zip2 {eb:Expr}{ta:TA}{p:Pos}{k0}{pt:Pos}(hg:Gl X "zip")(hm:X.mg "zip" =none)(ha:PA X [ea,eb] ta)(hs:bB [ea,eb] X.env=[(false,dn ea X.env),(false,dn eb X.env)]:=by rfl)(hs2:bB [eb] X.env=[(false,dn eb X.env)]:=by rfl) :
  PI X (.Tuple es k0 pt) (.Call (.Name "zip" p) [ea,eb] [] pos) (iZip2 ta):=by
 intro aL s σ H R I h;apply Call_ (oK I hg hm boot_zip (dY (thn (ha pos aL s σ H _ I h) λus s1 hz0=>?_) (by rw[hs,hs2]) (by rw[hs2];rfl)));obtain⟨vs,H1,I1,r1,q1⟩:=hz0;obtain⟨c1,c2,xs,ys,e,h1,h2,q⟩:=q1;subst e;obtain⟨u1,u2,rfl,r2,r3⟩:=vals2 r1;cases(show u1=af.ref c1.a from r2);cases(show u2=af.ref c2.a from r3);obtain⟨_,_,p1⟩:=h1.at I1;obtain⟨_,_,p2⟩:=h2.at I1;apply callType_new F.called_zip ↥0 (F.typeCall_zip_2 _ _) (F.newCall_zip_2 _ _) (λobj=>F.args_object_init_3 obj _ _) F.entry_zip_new (zipS_new [c1,c2] (by show 2≤8;decide)) ⟨λc hc=>?_,λg Z=>⟨⟨_,Z.zip,rfl⟩,?_⟩⟩
 ·simp only[az,bg,or_false] at hc
  rcases hc with rfl | rfl
  ·exact⟨_,p1⟩
  ·exact⟨_,p2⟩
 ·apply zip_walk (cs:=[c1,c2]) I1 (by show 2≤8;decide) (by show 0<2;decide) (λc hc=>?_) q Z
  simp only[az,bg,or_false] at hc
  rcases hc with rfl | rfl
  ·exact⟨_,h1⟩
  ·exact⟨_,h2⟩
theorem valsThree {x z:V}(h:gZ [x,y,z] us):∃u1 u2 u3,us=[u1,u2,u3]∧iY x u1∧iY y u2∧iY z u3:=by
 cases h with
 | cons h1 r1=>cases r1 with
  | cons h2 r2=>cases r2 with
   | cons h3 r3=>cases r3;exact⟨_,_,ρ,h1,h2,h3⟩
def iZip3 (ta:TA):TI:=λσ H R=>ta σ H λvs H1=>∃c1 c2 c3 xs ys zs,vs=[.ref c1.a,.ref c2.a,.ref c3.a]∧HSq H1 c1 xs∧HSq H1 c2 ys∧HSq H1 c3 zs∧R (Itq [c1,c2,c3]) H1
theorem pi_zip3 {eb ec:Expr}{ta:TA}{p:Pos}{k0}{pt:Pos}(hg:Gl X "zip")(hm:X.mg "zip" =none)(ha:PA X [ea,eb,ec] ta)(hs:bB [ea,eb,ec] X.env=[(false,dn ea X.env),(false,dn eb X.env),(false,dn ec X.env)]:=by rfl)(hs2:bB [eb,ec] X.env=[(false,dn eb X.env),(false,dn ec X.env)]:=by rfl) :
  PI X (.Tuple es k0 pt) (.Call (.Name "zip" p) [ea,eb,ec] [] pos) (iZip3 ta):=by
 intro aL s σ H R I h;apply Call_ (oK I hg hm boot_zip (dY (thn (ha pos aL s σ H _ I h) λus s1 hz0=>?_) (by rw[hs,hs2]) (by rw[hs2];rfl)));obtain⟨vs,H1,I1,r1,q1⟩:=hz0;obtain⟨c1,c2,c3,xs,ys,zs,e,h1,h2,h3,q⟩:=q1;subst e;obtain⟨u1,u2,u3,rfl,r2,r3,r4⟩:=valsThree r1;cases(show u1=af.ref c1.a from r2);cases(show u2=af.ref c2.a from r3);cases(show u3=af.ref c3.a from r4);obtain⟨_,_,p1⟩:=h1.at I1;obtain⟨_,_,p2⟩:=h2.at I1;obtain⟨_,_,p3⟩:=h3.at I1;apply callType_new F.called_zip ↥0 (zip_type3 _ _ _) (zip_new3 _ _ _) (λobj=>zip_args3 obj _ _ _) F.entry_zip_new (zipS_new [c1,c2,c3] (by show 3≤8;decide)) ⟨λc hc=>?_,λg Z=>⟨⟨_,Z.zip,rfl⟩,?_⟩⟩
 ·simp only[az,bg,or_false] at hc
  rcases hc with rfl | rfl | rfl
  ·exact⟨_,p1⟩
  ·exact⟨_,p2⟩
  ·exact⟨_,p3⟩
 ·apply zip_walk (cs:=[c1,c2,c3]) I1 (by show 3≤8;decide) (by show 0<3;decide) (λc hc=>?_) q Z
  simp only[az,bg,or_false] at hc
  rcases hc with rfl | rfl | rfl
  ·exact⟨_,h1⟩
  ·exact⟨_,h2⟩
  ·exact⟨_,h3⟩
theorem for_zipB2 {c1 c2:Sq}{D:nc}(Pv:Nat→St→Hp→Prop)(h0:Pv 0 σ H)(hl:∀i σ H,i≤ys.length→Pv i σ H→HSq H c1 xs∧HSq H c2 ys)(hxy:ys.length≤xs.length)
  (hs:∀i x y p σ H,xs[i]? =some x→ys[i]? =some y→Pv i σ H→H p=none→g (.ref p) σ (upd H p (.tup [x,y])) λσ2 H2=>tb { D with nx:=Pv (i+1),ct:=Pv (i+1),bk:=D.nx } σ2 H2) (hd:∀σ H,Pv ys.length σ H→D.nx σ H) :
  ∃W:Nat→Nat→St→Hp→Prop,(∃m,W 0 m σ H)∧∀i m σ H,W i m σ H →
   ((Itq [c1,c2]).stop i H∧D.nx σ H)∨((Itq [c1,c2]).go i H∧∃N:St→Hp→Prop,(∀σ' H',N σ' H'→∃m',m'<m∧W (i+1) m' σ' H')∧∀x H',(Itq [c1,c2]).yld i H x H'→g x σ H' λσ2 H2=>tb { D with nx:=N,ct:=N,bk:=D.nx } σ2 H2):=by
 apply⟨λi m σ H=>i≤ys.length∧m=ys.length - i∧Pv i σ H,⟨_,cR _,rfl,h0⟩,λi m σ H w=>?_⟩;obtain⟨hi,hm,hp⟩:=w;obtain⟨qa,qb⟩:=hl i σ H hi hp
 by_cases e:i=ys.length
 ·subst e
  apply .inl ⟨?_,hd σ H hp⟩
  by_cases q:ys.length<xs.length
  ·apply⟨1,c2,ys,rfl,qb,aA _,λn c hc hn=>?_⟩
   obtain rfl:n=0:=by lia
   cases hc;exact⟨xs,_,qa,gE q⟩
  ·exact⟨0,c1,xs,rfl,qa,⋯,λn c _ hn=>rM hn ⋯⟩
 ·have hlt2:i<ys.length:=gI hi e
  have hlt:i<xs.length:=by lia
  apply .inr ⟨⟨[xs[i],ys[i]],rfl,λn c hc=>?_⟩,Pv (i+1),λσ' H' hp'=>⟨ys.length - (i+1),⋯,⋯,rfl,hp'⟩,λv H3 hy=>?_⟩
  ·match n,hc with
   | 0,hc=>cases hc;exact⟨xs,xs[i],qa,gE hlt,rfl⟩
   | 1,hc=>cases hc;exact⟨ys,ys[i],qb,gE hlt2,rfl⟩
   | n+2,hc=>simp at hc
  ·obtain⟨p,vs,hn,rfl,rfl,lv,hx⟩:=hy
   rcases vs with _ | ⟨x,_ | ⟨y,_ | ⟨u,vs⟩⟩⟩ <;> first | exact hs i x y p σ H (hx 0 c1 x xs rfl qa rfl) (hx 1 c2 y ys rfl qb rfl) hp hn | simp at lv
theorem for_zipB3 {c1 c2 c3:Sq}{zs:List V}{D:nc}(Pv:Nat→St→Hp→Prop)(h0:Pv 0 σ H)(hl:∀i σ H,i≤ys.length→Pv i σ H→HSq H c1 xs∧HSq H c2 ys∧HSq H c3 zs)(hxy:ys.length≤xs.length)(hyz:ys.length=zs.length)
  (hs:∀i x y z p σ H,xs[i]? =some x→ys[i]? =some y→zs[i]? =some z→Pv i σ H→H p=none→g (.ref p) σ (upd H p (.tup [x,y,z])) λσ2 H2=>tb { D with nx:=Pv (i+1),ct:=Pv (i+1),bk:=D.nx } σ2 H2) (hd:∀σ H,Pv ys.length σ H→D.nx σ H) :
  ∃W:Nat→Nat→St→Hp→Prop,(∃m,W 0 m σ H)∧∀i m σ H,W i m σ H →
   ((Itq [c1,c2,c3]).stop i H∧D.nx σ H)∨((Itq [c1,c2,c3]).go i H∧∃N:St→Hp→Prop,(∀σ' H',N σ' H'→∃m',m'<m∧W (i+1) m' σ' H')∧∀x H',(Itq [c1,c2,c3]).yld i H x H'→g x σ H' λσ2 H2=>tb { D with nx:=N,ct:=N,bk:=D.nx } σ2 H2):=by
 apply⟨λi m σ H=>i≤ys.length∧m=ys.length - i∧Pv i σ H,⟨_,cR _,rfl,h0⟩,λi m σ H w=>?_⟩;obtain⟨hi,hm,hp⟩:=w;obtain⟨qa,qb,qc⟩:=hl i σ H hi hp
 by_cases e:i=ys.length
 ·subst e
  apply .inl ⟨?_,hd σ H hp⟩
  by_cases q:ys.length<xs.length
  ·apply⟨1,c2,ys,rfl,qb,aA _,λn c hc hn=>?_⟩
   obtain rfl:n=0:=by lia
   cases hc;exact⟨xs,_,qa,gE q⟩
  ·exact⟨0,c1,xs,rfl,qa,⋯,λn c _ hn=>rM hn ⋯⟩
 ·have hlt2:i<ys.length:=gI hi e
  have hlt:i<xs.length:=by lia
  have hlt3:i<zs.length:=by lia
  apply .inr ⟨⟨[xs[i],ys[i],zs[i]],rfl,λn c hc=>?_⟩,Pv (i+1),λσ' H' hp'=>⟨ys.length - (i+1),⋯,⋯,rfl,hp'⟩,λv H3 hy=>?_⟩
  ·match n,hc with
   | 0,hc=>cases hc;exact⟨xs,xs[i],qa,gE hlt,rfl⟩
   | 1,hc=>cases hc;exact⟨ys,ys[i],qb,gE hlt2,rfl⟩
   | 2,hc=>cases hc;exact⟨zs,zs[i],qc,gE hlt3,rfl⟩
   | n+3,hc=>simp at hc
  ·obtain⟨p,vs,hn,rfl,rfl,lv,hx⟩:=hy
   rcases vs with _ | ⟨x,_ | ⟨y,_ | ⟨z,_ | ⟨u,vs⟩⟩⟩⟩ <;> first | exact hs i x y z p σ H (hx 0 c1 x xs rfl qa rfl) (hx 1 c2 y ys rfl qb rfl) (hx 2 c3 z zs rfl qc rfl) hp hn | simp at lv
end L2
variable {c:L2.Sq}{cs:List L2.Sq}
namespace HN
open PySem L2 PyProof.Rows HT2
local macro_rules
 |`(tactic|and_intros)=>`(tactic|try dsimp only[cxK])
abbrev sRideL:cN:=clsOf cLin 3
inductive spRideL (C:aq)(vs:List V)(H:Hp)(Q:VK)(_:XK):Prop
 | mk (x D:aq)(n z y:Str)(ss:List Str)(rs:List Int)(fi:Int)(_:vs=[.ref x,.str z,.str y])(_:LinD H C x n ss rs D fi)(_:ss.length=rs.length+1)(_:2≤ss.length)(_:ss.Nodup)(_:∀H',cg H H'→(∀(i:Nat) (r:Int),ss[i]? =some z→ss[i+1]? =some y→rs[i]? =some r→Q (.int r) H')∧((∀i:Nat,ss[i]? =some z→ss[i+1]? ≠some y)→Q .non H'))
theorem scRideL:cA ["self","stop","after","here","there","run"] pzx (defScope sRideL):=by trivial
theorem ok_rideL (F:Fun K "ride" "Line.ride" sRideL f fd)(hz:mg "zip" =none)(CC:LinC K C):‹0› 1 f fd pzx (spRideL C):=by
 specialize F.ok scRideL;obtain⟨x,D,n,z,y,ss,rs,fi,rfl,⟨dx,a,b,hx,ha,hb⟩,hl,two,nd,k⟩:=h;apply⟨_,PSl.h (bh ⟨(iC bX rfl (pi_zip3 rfl hz (ah (fG (pv 0) rfl) (ah (cV nU (fG (pv 0) rfl) (dJ aC) eR) (ah (fG (pv 0) rfl) aw)))) (rB rfl (iK (pgZ 3 scRideL.nd) (iK (pgZ 4 scRideL.nd) (iK (pgZ 5 scRideL.nd) pw)))) (bD (eO (PW.pt (nN (bK iM (pv 3) (pv 1) (cn _)) (lU (bK iM (pv 4) (pv 2) (cn _))))) (bD (cb (pv 5))) cv)))⟩ (fj ⟨(cb ir)⟩)),?_⟩
 and_intros
 apply sq1 ?_
 intros
 have hls:(ss.map V.str).length=ss.length:=ae _;have e1:HT.sIx (ss.map V.str).length 0 (some 1)=1:=by
  rw[hls];have:=HT.sIx_nat ss.length 0 1;rw[du ⋯] at this;exact this
 apply⟨ρ,x,C,dx,_,ρ,hx,CC.cl,CC.n2,rfl,ρ,x,C,dx,_,ρ,hx,CC.cl,CC.n2,rfl,ρ,a,ρ,zT ha,?_,λp H1 S1 e=>?_⟩
 ·rw[e1]
  intro q;exact rM q.1 ↥0
 rw[cutF (i:=1) (n:=1) rfl,←fZ] at e;apply⟨ρ,x,C,dx,_,ρ,S1 _ _ hx,CC.cl,CC.n3,rfl,⟨false,a⟩,⟨false,p⟩,⟨false,b⟩,_,_,ρ,S1 _ _ ha,e,S1 _ _ hb,?_⟩
 let pZ1:zV:=λi σ H2=>cg H1 H2∧(∀j,j<i→ss[j]? =some z→ss[j+1]? ≠some y)∧∃v3 v4 v5,σ=[some (.ref x),some (.str z),some (.str y),v3,v4,v5]
 apply for_zipB3 (c1:=⟨false,a⟩) (c2:=⟨false,p⟩) (c3:=⟨false,b⟩) (xs:=ss.map V.str) (ys:=(ss.drop 1).map V.str) (zs:=rs.map V.int) pZ1
  ⟨cg.refl _,λj hj=>rM hj (jY _),none,none,none,rfl⟩ (λi σ H2 _ q=>⟨q.1 _ _ (S1 _ _ ha),q.1 _ _ e,q.1 _ _ (S1 _ _ hb)⟩) (by rw[ae,ae,bE];lia) (by rw[ae,ae,bE];lia) ?_ ?_
 ·rintro i x1 x2 x3 q σ H2 h1 h2 h3 ⟨S2,no,v3,v4,v5,rfl⟩ hq
  rw[ay] at h1 h2 h3;obtain⟨u1,g1,rfl⟩:=bp.mp h1;obtain⟨u2,g2,rfl⟩:=bp.mp h2;obtain⟨r,g3,rfl⟩:=bp.mp h3;rw[cY,Nat.add_comm] at g2;have S6:cg H1 (upd H2 q (.tup [.str u1,.str u2,.int r])):=S2.put hq;have h6:(upd H2 q (.tup [.str u1,.str u2,.int r])) q=some (.tup [.str u1,.str u2,.int r]):=aP;generalize upd H2 q (.tup [.str u1,.str u2,.int r])=H6 at S6 h6 ⊢;have nx:¬(u1=z∧u2=y)→∀j,j<i+1→ss[j]? =some z→ss[j+1]? ≠some y:=λhne j hj w1 w2=>by
   rcases iH.mp hj with hj | hj
   ·exact no j hj w1 w2
   ·subst hj
    rw[g1] at w1;rw[g2] at w2;exact hne ⟨bF w1,bF w2⟩
  apply⟨q,ρ,zT h6,rfl,_,ρ,_,ρ,ς,?_⟩;apply⟨ρ,ρ,rfl,ρ,jq (λc1=>?_) (λc1=>?_)⟩
  ·have c1:u1=z:=by have:=rQ c1;injection this
   apply⟨ρ,ρ,rfl,ρ,jq (λc2=>?_) (λc2=>?_)⟩
   ·have c2:u2=y:=by have:=rQ c2;injection this
    exact⟨ρ,(k H6 (S1.trans S6)).1 i r (c1 ▸ g1) (c2 ▸ g2) g3⟩
   ·exact⟨S6,nx λz=>c2 (rO (by rw[z.2])),_,_,ρ⟩
  ·exact⟨S6,nx λz=>c1 (rO (by rw[z.1])),_,_,ρ⟩
 ·rintro σ H2 ⟨S2,no,v3,v4,v5,rfl⟩
  apply(k H2 (S1.trans S2)).2 λi h1 h2=>no i ?_ h1 h2
  have:=(aj.mp h2).1;rw[ae,bE];lia
abbrev sLabL:cN:=clsOf cLin 5
def mK (n:Str):List Str→List (List V)
 | s::t::r=>[.str n,.str s,.str "goes"]::[.str n,.str t,.str "comes"]::mK n (t::r)
 | _=>[]
inductive spLabL (C:aq)(vs:List V)(H:Hp)(Q:VK)(_:XK):Prop
 | mk (x D:aq)(n:Str)(ss:List Str)(rs:List Int)(fi:Int)(_:vs=[.ref x])(_:LinD H C x n ss rs D fi)(_:2≤ss.length)(_:ss.length≤1000)(_:∀(L:aq) (as:List aq) (H':Hp),cg H H'→H L=none→H' L=some (.lst (as.map V.ref))→as.map H'=(mK n ss).map (λt=>some (HO.tup t))→Q (.ref L) H')
theorem labs_take {n:Str}:∀{ss:List Str} {i:Nat} {s t:Str},ss[i]? =some s→ss[i+1]? =some t→mK n (ss.take (i+2))=mK n (ss.take (i+1))++[[.str n,.str s,.str "goes"],[.str n,.str t,.str "comes"]]
 | [],_,_,_,h,_=>by cases h
 | [_],0,_,_,_,h=>by cases h
 | [_],_+1,_,_,h,_=>by cases h
 | a::b::r,0,s,t,h1,h2=>by cases h1;cases h2;rfl
 | a::b::r,i+1,s,t,h1,h2=>by
  have ih:=labs_take (n:=n) (ss:=b::r) (i:=i) h1 h2;show _::_::mK n ((b::r).take (i+2))=_::_::(mK n ((b::r).take (i+1))++_);rw[ih]
theorem oG (h:as.map H=ts.map (λt=>some (HO.tup t)))(k:∀c o,c≠L→H c=some o→H' c=some o)(hL:H L=some (.lst xs)):as.map H'=ts.map (λt=>some (HO.tup t)):=by
 rw[←h];apply dm λc hc=>?_
 have hm:H c∈ts.map (λt=>some (HO.tup t)):=by rw[←h];exact b8 hc
 obtain⟨t,_,e⟩:=aK.mp hm;rw[←e];exact k c _ (λz=>by rw[z,hL] at e;cases e) e.symm
theorem scLabL:cA ["self","labels","here","there"] pzb (defScope sLabL):=by trivial
theorem ok_labL (F:Fun K "own_labels" "Line.own_labels" sLabL f fd)(hz:mg "zip" =none)(CC:LinC K C):‹0› 1 f fd pzb (spLabL C):=by
 specialize F.ok scLabL;obtain ⟨x,D,n,ss,rs,fi,rfl,⟨dx,a,b,hx,ha,hb⟩,two,few,k⟩:=h;apply ⟨_,PSl.h (bh ⟨(psZ 1 scLabL.nd (kL aw))⟩ (bh ⟨(iC bX rfl (pi_zip2 rfl hz (ah (fG (pv 0) rfl) (ah (cV nU (fG (pv 0) rfl) (dJ aC) eR) aw))) (rB rfl (iK (pgZ 2 scLabL.nd) (iK (pgZ 3 scLabL.nd) pw)))
  (PSl.h (bh ⟨(hW (jQ bu bN bM gp (pv 1) (ah (fY (ah (fG (pv 0) rfl) (ah (pv 2) (ah dU aw)))) aw)))⟩
   (fj ⟨(hW (jQ bu bN bM gp (pv 1) (ah (fY (ah (fG (pv 0) rfl) (ah (pv 3) (ah dU aw)))) aw)))⟩))))⟩ (fj ⟨(cb (pv 1))⟩))),?_⟩
 and_intros
 apply sq2 ?_
 intros
 have hls:(ss.map V.str).length=ss.length:=ae _;have e1:HT.sIx (ss.map V.str).length 0 (some 1)=1:=by
  rw[hls];have:=HT.sIx_nat ss.length 0 1;rw[du ⋯] at this;exact this
 apply⟨(by show 0≤ax;decide),λL hLn=>?_⟩;have S0:cg H (upd H L (.lst [])):=cg.put (cg.refl H) hLn;have hL:(upd H L (.lst [])) L=some (.lst []):=aP;generalize upd H L (.lst [])=H0 at S0 hL ⊢;have S0x:=S0 _ _ hx;apply⟨ρ,x,C,dx,_,ρ,S0x,CC.cl,CC.n2,rfl,ρ,x,C,dx,_,ρ,S0x,CC.cl,CC.n2,rfl,ρ,a,ρ,zT (S0 _ _ ha),?_,λp H1 S1 e=>?_⟩
 ·rw[e1]
  intro q;exact rM q.1 ↥0
 rw[cutF (i:=1) (n:=1) rfl,←fZ] at e;have hL1:=S1 _ _ hL;have ha1:=S1 _ _ (S0 _ _ ha);have hx1:=S1 _ _ S0x;apply⟨⟨false,a⟩,⟨false,p⟩,_,ρ,ha1,e,?_⟩
 let pZ1:zV:=λi σ H2=>(∀c o,c≠L→H1 c=some o→H2 c=some o)∧(∃as:List aq,as.length=2 * i∧H2 L=some (.lst (as.map V.ref))∧as.map H2=(mK n (ss.take (i+1))).map (λt=>some (HO.tup t)))∧∃v2 v3,σ=[some (.ref x),some (.ref L),v2,v3]
 apply for_zipB2 (c1:=⟨false,a⟩) (c2:=⟨false,p⟩) (xs:=ss.map V.str) (ys:=(ss.drop 1).map V.str) pZ1
  ⟨λc o _ h=>h,⟨[],rfl,hL1,by cases ss with | nil=>rfl | cons s r=>rfl⟩,none,none,rfl⟩ (λi σ H2 _ q=>⟨q.1 _ _ (dz ha1 hL1 nofun) ha1,q.1 _ _ (dz e hL1 nofun) e⟩) (by rw[ae,ae,bE];lia) ?_ ?_
 ·rintro i x1 x2 q σ H2 h1 h2 ⟨k2,⟨as,la,hL2,hm⟩,v2,v3,rfl⟩ hq
  rw[ay] at h1 h2;obtain⟨u1,g1,rfl⟩:=bp.mp h1;obtain⟨u2,g2,rfl⟩:=bp.mp h2;rw[cY,Nat.add_comm] at g2;have li:i+1<ss.length:=(aj.mp g2).1;have big:(100000:Nat)≤ax:=by decide
  have S6:cg H2 (upd H2 q (.tup [.str u1,.str u2])):=cg.put (cg.refl H2) hq;have h6:(upd H2 q (.tup [.str u1,.str u2])) q=some (.tup [.str u1,.str u2]):=aP;generalize upd H2 q (.tup [.str u1,.str u2])=H6 at S6 h6 ⊢;have xL:x≠L:=dz hx1 hL1 nofun;have hx6:=S6 _ _ (k2 _ _ xL hx1);apply⟨q,ρ,zT h6,rfl,_,ρ,ς,?_⟩;have hL6:=S6 _ _ hL2;apply⟨ρ,.inl ⟨rfl,_,zL hL6⟩,ρ,x,C,dx,_,ρ,hx6,CC.cl,CC.n1,rfl,ρ,(by show 3≤ax;decide),λp1 H7 S7 e7=>?_⟩;have hL7:=S7 _ _ hL6;apply⟨L,ς,hL7,(by rw[ae,la];lia),?_⟩;have S68:∀c o,c≠L→H2 c=some o→(upd H7 L (.lst (as.map V.ref++[.ref p1]))) c=some o:=λc o hc h=>by rw[bf hc];exact S7 _ _ (S6 _ _ h)
  have p1L:p1≠L:=dz e7 hL7 nofun;have e8:(upd H7 L (.lst (as.map V.ref++[.ref p1]))) p1=some (.tup [.str n,.str u1,.str "goes"]):=by rw[bf p1L];exact e7
  have hL8:(upd H7 L (.lst (as.map V.ref++[.ref p1]))) L=some (.lst (as.map V.ref++[.ref p1])):=aP;generalize upd H7 L (.lst (as.map V.ref++[.ref p1]))=H8 at S68 e8 hL8 ⊢;have hm8:=oG hm S68 hL2;have hx8:=S68 _ _ xL (k2 _ _ xL hx1);apply⟨ρ,.inl ⟨rfl,_,zL hL8⟩,ρ,x,C,dx,_,ρ,hx8,CC.cl,CC.n1,rfl,ρ,(by show 3≤ax;decide),λp2 H9 S9 e9=>?_⟩;have hL9:=S9 _ _ hL8;apply⟨L,ς,hL9,(by rw[ao,ae,la];show 2 * i+1<ax;lia),?_⟩;have p2L:p2≠L:=dz e9 hL9 nofun;have k9:∀c o,c≠L→H8 c=some o→(upd H9 L (.lst (as.map V.ref++[.ref p1]++[.ref p2]))) c=some o:=λc o hc h=>by rw[bf hc];exact S9 _ _ h
  apply⟨λc o hc h=>k9 _ _ hc (S68 _ _ hc (k2 _ _ hc h)),⟨as++[p1,p2],by rw[ao,la];show 2 * i+2=_;lia,?_,?_⟩,_,ρ⟩
  ·rw[aP,av,cG];rfl
  ·rw[labs_take g1 g2,av,av,oG hm8 k9 hL8]
   congr 1;show[_,_]=[_,_];rw[k9 _ _ p1L e8,bf p2L,e9]
 ·rintro σ H2 ⟨k2,⟨as,la,hL2,hm⟩,v2,v3,rfl⟩
  apply⟨ρ,k L as H2 (λc o h=>k2 c o ?_ (S1 _ _ (S0 _ _ h))) ?_ hL2 ?_⟩
  ·intro z;rw[z,hLn] at h;cases h
  ·exact hLn
  ·rw[hm,ae,bE,bR ⋯]
abbrev sApart:cN:=top 32
structure LinK (P:aN)(w:bq)(K:ak)(mg:Str→Option af)(base:bP)(C:aq)(fc fg fr:aq)(dc dg dr:aY):Prop where
 cc:LinC K C
 m1:rb K C "coming" fc
 f1:‹0› 1 fc dc pzh (spComL C)
 b1:Binds K dc pzh []
 m2:rb K C "going" fg
 f2:‹0› 1 fg dg pzh (spGoL C)
 b2:Binds K dg pzh []
 m3:rb K C "ride" fr
 f3:‹0› 1 fr dr pzx (spRideL C)
 b3:Binds K dr pzx []
structure LnOk (H:Hp)(C x:aq)(ss:List Str)(rs:List Int)(fi:Int):Prop where
 d:∃D n,LinD H C x n ss rs D fi
 nd:ss.Nodup
 two:2≤ss.length
 few:ss.length≤1000
 rl:ss.length=rs.length+1
theorem LnOk.kept {x:aq}{rs:List Int}{fi:Int}(S:cg H H')(h:LnOk H C x ss rs fi):LnOk H' C x ss rs fi:=by
 obtain⟨⟨D,n,dx,a,b,h1,h2,h3⟩,q⟩:=h;exact⟨⟨D,n,dx,a,b,S _ _ h1,S _ _ h2,S _ _ h3⟩,by assumption,by assumption,by assumption,by assumption⟩
theorem scApart:cA pzj pzj (defScope sApart):=by trivial
abbrev sMeet:cN:=top 33
theorem jA (nd:ss.Nodup)(e:ss[i]? =some z)(a:ss[j]? =some z):j=i:=by
 rcases Nat.lt_trichotomy j i with q | q | q
 ·exact rM a (qh nd e _ q)
 ·exact q
 ·exact rM e (qh nd a _ q)
theorem scMeet:cA ["beat","one","other","row","ride","back"] pzj (defScope sMeet):=by trivial
end HN
namespace HN
open PySem L2 PyProof.Rows
structure Sn where
 s:Int
 g:Int
 l:Int
 o:Int
 w:Int
abbrev Sn.row (x:Sn):List Int:=[x.s,x.g,x.l,x.o,x.w]
abbrev netP (b m:Int)(sp:List Sn):Dt:=.tup [.int b,.int m,.tup (sp.map λx=>.tup (x.row.map Dt.int))]
theorem small_le (h:n≤1000):n≤ax:=cB h ↥0
structure Nt (mg:Str→Option af):Prop where
 range:mg "range" =none
 enum:mg "enumerate" =none
 zip:mg "zip" =none
 sum:mg "sum" =none
 tlist:mg "list" =none
 max:mg "max" =none
end HN
variable {bt:List HN.Sn}{sn:HN.Sn}
namespace HN
open PySem L2 PyProof.Rows HT2
structure Ln where
 n:Str
 ss:List Str
 rs:List Int
 st:List (Str×Int×Int×Int)
 fi:Int
def sty (st:List (Str×Int×Int×Int))(z:Str):Int×Int×Int:=((st.find? λp=>decide (p.1=z)).map (·.2)).getD (0,0,0)
def stp (l:Ln)(i:Nat):List Sn:=⟨l.fi+2 * i,l.fi+2 * i+1,l.rs.getD i 0,l.rs.getD i 0,0⟩ ::
 (if i+2<l.ss.length then [⟨l.fi+2 * i+1,l.fi+2 * i+2,(sty l.st (l.ss.getD (i+1) gr)).1,(sty l.st (l.ss.getD (i+1) gr)).2.1,(sty l.st (l.ss.getD (i+1) gr)).2.2⟩] else [])
def ownN (l:Ln)(k:Nat):List Sn:=(cI k).flatMap (stp l)
abbrev oz (l:Ln):List Sn:=ownN l l.rs.length
theorem jR (l:Ln)(k:Nat):ownN l (k+1)=ownN l k++stp l k:=by
 unfold ownN;rw[List.range_succ,lK];simp
theorem stp_len (l:Ln)(i:Nat):(stp l i).length≤2:=by
 unfold stp;split <;> simp
theorem qf (l:Ln):∀k,(ownN l k).length≤2 * k
 | 0=>by simp[ownN]
 | k+1=>by
  have:=qf l k;have:=stp_len l k;rw[jR,ao];lia
abbrev snD (x:Sn):Dt:=.tup (x.row.map Dt.int)
structure StA (H:Hp)(D:aq)(st:List (Str×Int×Int×Int)):Prop where
 ex:∃kvs:List (Key×V),H D=some (.dK kvs)∧kvs.length=st.length∧∀z,(∀v,l9 kvs (.inr z)=some v→∃a,v= .ref a∧H a=some (.tup [.int (sty st z).1,.int (sty st z).2.1,.int (sty st z).2.2]))∧(l9 kvs (.inr z)=none→sty st z=(0,0,0)∧z ∉ st.map (·.1))∧((l9 kvs (.inr z)).isSome=true→z∈st.map (·.1))
structure LnA (H:Hp)(C x D:aq)(l:Ln):Prop where
 d:LinD H C x l.n l.ss l.rs D l.fi
 s:StA H D l.st
 nd:l.ss.Nodup
 two:2≤l.ss.length
 few:l.ss.length≤1000
 rl:l.ss.length=l.rs.length+1
theorem StA.kept {st:List (Str×Int×Int×Int)}(k:∀b xs,H b=some (.tup xs)→H' b=some (.tup xs))(e:H' D=H D)(h:StA H D st):StA H' D st:=by
 obtain⟨kvs,h1,h2,h3⟩:=h.ex;apply⟨kvs,e.trans h1,h2,λz=>⟨λv hv=>?_,(h3 z).2⟩⟩;obtain⟨a,e1,e2⟩:=(h3 z).1 v hv;exact⟨a,e1,k _ _ e2⟩
theorem LnA.kept {x:aq}{l:Ln}(k:∀b xs,H b=some (.tup xs)→H' b=some (.tup xs))(k2:∀b C dx fs,H b=some (.ins C dx fs)→H' b=some (.ins C dx fs))(e:H' D=H D)(h:LnA H C x D l):LnA H' C x D l:=by
 obtain⟨dx,a,b,h1,h2,h3⟩:=h.d;exact⟨⟨dx,a,b,k2 _ _ _ _ h1,k _ _ h2,k _ _ h3⟩,h.s.kept k e,h.nd,h.two,h.few,h.rl⟩
theorem LnA.same {x:aq}{l:Ln}(S:cg H H')(h:LnA H C x D l):LnA H' C x D l:=by
 obtain⟨kvs,h1,_⟩:=h.s.ex;exact h.kept (λb xs e=>S _ _ e) (λb C dx fs e=>S _ _ e) ((S _ _ h1).trans h1.symm)
structure Unt (K:ak)(mg:Str→Option af):Prop where
 ex:∃t,mg "STAY_UNTOLD" =some (.ref t)∧∀H,SqT K H t [.int 0,.int 0,.int 0]
inductive spOwn (C:aq)(vs:List V)(H:Hp)(Q:VK)(_:XK):Prop
 | mk (x D:aq)(l:Ln)(_:vs=[.ref x])(_:LnA H C x D l)(_:∀(L:aq) (ys:List V) (H':Hp),cg H H'→H L=none→H' L=some (.lst ys)→jc H' ys ((oz l).map snD)→Q (.ref L) H')
end HN
variable {l:HN.Ln}{ls:List HN.Ln}
namespace HN
open PySem L2 PyProof.Rows
theorem atI_last {xs:List α}{x:α}(h:xs[xs.length - 1]? =some x):atI xs (-1)=some x:=by
 have hl:xs.length - 1<xs.length:=(aj.mp h).1;unfold atI ixN;rw[rK ↥0,rL ⋯];show xs[(-1+(xs.length:Int)).toNat]? =some x;rw[show(-1+(xs.length:Int)).toNat=xs.length - 1 by lia];exact h
end HN
namespace L2
open PySem PySem.Spec PyProof.Rows
section
variable {d:aq}{a b:HO}
theorem Inv.retold (I:Inv X aL σ H s)(hd:H d=some a)(n1:∀xs,a≠ .tup xs)(n2:∀c,a≠ .own c)(m1:∀xs,X.H₀ d≠some (.tup xs))(m2:∀o u,X.H₀ d≠some (.frz o u))(m3:∀ps,X.H₀ d≠some (.tbl ps))
  (new:iE X.prog X.w (upd H d b) s.heap d b):Inv X aL σ (upd H d b) s:=by
 have nn:∀{c:aq},H c=none→(upd H d b) c=none:=λ{c} h=>by
  rw[bf (aZ hd h).symm];exact h
 apply⟨I.ok,I.os,I.bare,⟨I.base.keep,I.base.slot,λc o e n hx=>nn (I.base.free c o e n hx),I.base.there,λc xs e=>?_,λc o u e=>?_,λc ps e=>?_⟩,I.loc,I.cell,nn I.free,λx c e=>nn (I.freeC x c e),λp hp=>?_,λc o e=>?_,I.len⟩
 ·by_cases z:c=d
  ·subst z;exact rM e (m1 xs)
  ·rw[bf z];exact I.base.tups c xs e
 ·by_cases z:c=d
  ·subst z;exact rM e (m2 o u)
  ·rw[bf z];exact I.base.frzs c o u e
 ·by_cases z:c=d
  ·subst z;exact rM e (m3 ps)
  ·rw[bf z];exact I.base.tbls c ps e
 ·obtain⟨h1,h2,h3⟩:=I.pin p hp
  exact⟨h1,nn h2,h3⟩
 ·by_cases z:c=d
  ·subst z
   rw[aP] at e;cases e;exact new
  ·rw[bf z] at e
   apply(I.hok c o e).stay (λ_ _ _ e=>e) (λb' e'=>?_) λb' xs e'=>?_
   ·rw[bf λz=>by subst z;rw[hd] at e';cases e';exact n2 _ rfl];exact e'
   ·rw[bf λz=>by subst z;rw[hd] at e';cases e';exact n1 _ rfl];exact e'
theorem dk_put {h:bP}{kvs:List (Key×V)}(x:iE P w H h d (.dK kvs)):iE P w H' h d (.dK kvs):=x
end
def Itd (d:aq)(o:Obj)(kvs:List (Key×V)):It:=
 ⟨λi H=>H d=some (.frz o (.dK kvs))∧i<kvs.length,λi H x H'=>H'=H∧∃k,kvs[i]? =some (k,x),λi H=>H d=some (.frz o (.dK kvs))∧i=kvs.length⟩
theorem turn_vals (d it:aq)(o:Obj)(kvs:List (Key×V))(vs:List (Key×af))(ep:Nat)(rel:KV kvs vs)(dd:∀h:bP,h.get? d=some o→h.DictAt (gU P w) d vs ep) :
  Turn P w K tg (Itd d o kvs) [it] it (λi h=>h.IsValIter it d i vs.length ep) where
 mem:=by simp
 obj:=λi h st b hb=>by
  have e:b=it:=by simpa using hb
  subst e;obtain⟨o,e,c,d⟩:=st;exact⟨o,e,λv z=>by rw[d] at z;cases z⟩
 keep:=λi h h' st k=>by
  obtain⟨o,e,r⟩:=st;exact⟨o,k it ∅ o e,r⟩
 item:=by
  intro X hP hw hK hc i aL s σ H E I hf st hg;subst hP hw hK;obtain⟨hd,hi⟩:=hg;obtain⟨hg,_⟩:=(show iE X.prog X.w H s.heap d (.frz o (.dK kvs)) from I.hok d _ hd);obtain⟨⟨k,v⟩,hx,rk⟩:=Paired.getR rel (gE hi);obtain⟨f0,f1,f2,f3,f4,f5⟩:=hf it ∅;apply wpAny_pyNext_values_item st (dd _ hg) hx λh' st' sb=>?_
  have I1:Inv X aL σ H { s with heap:=h' }:=I.turned (t':=s.toks) (λb o hb e=>(sb.2 b hb).trans e) f0 f1 f3 f4 f5;obtain⟨oi,e2,c,dt⟩:=id st';exact⟨v,rfl,go_of (s:={ s with heap:=h' }) e2 c dt ↥0 ⟨kvs[i].2,H,I1,rk.2,⟨rfl,kvs[i].1,gE hi⟩,st',λb hb=>(hf b hb).1⟩⟩
 done:=by
  intro X hP hw hK hc i aL s σ H E I hf st hg;subst hP hw hK;obtain⟨hd,hi⟩:=hg;obtain⟨hg,_⟩:=(show iE X.prog X.w H s.heap d (.frz o (.dK kvs)) from I.hok d _ hd);obtain⟨f0,f1,f2,f3,f4,f5⟩:=hf it ∅;have hl:kvs.length=vs.length:=Paired.length rel;exact wpAny_pyNext_values_end (I.ok.hd hc) st (dd _ hg) (eX ⋯) λh' eb=>⟨rfl,I.turned (t':=s.toks) (λb o hb e=>eb b o hb e) f0 f1 f3 f4 f5⟩
 self:=λA i s Q E st h=>wpAny_pyIter_valiter st h
def iVals (td:TE):TI:=λσ H R=>td σ H λx H1=>∃d kvs,x= .ref d∧H1 d=some (.dK kvs)∧∀p ob,H1 p=none→R (Itd d ob kvs) (upd (upd H1 p (isVV p d)) d (.frz ob (.dK kvs)))
def Thw (H H':Hp)(Q:Hp→Prop):Prop:=∃d o kvs,H d=some (.dK kvs)∧H' d=some (.frz o (.dK kvs))∧Q (upd H' d (.dK kvs))
def tThawE (te:TE):TE:=λσ H Q=>te σ H λv H'=>Thw H H' (Q v)
def tThawS (t:TS):TS:=λD σ H=>t { D with nx:=λσ' H'=>Thw H H' (D.nx σ') } σ H
section
variable {σ':St}
theorem Inv.not0 (I:Inv X aL σ H s){d:aq}{kvs:List (Key×V)}(e:H d=some (.dK kvs)):(∀xs,X.H₀ d≠some (.tup xs))∧(∀o u,X.H₀ d≠some (.frz o u))∧∀ps,X.H₀ d≠some (.tbl ps):=
 ⟨(λxs z=>by have:=I.base.tups d xs z;rw[e] at this;cases this),(λo u z=>by have:=I.base.frzs d o u z;rw[e] at this;cases this),λps z=>by obtain⟨m,this⟩:=I.base.tbls d ps z;rw[e] at this;cases this⟩
theorem Thw.go {Q:Hp→Prop}(I:Inv X aL σ H s)(I':Inv X aL σ' H' s')(h:Thw H H' Q):∃H2,Inv X aL σ' H2 s'∧Q H2:=by
 obtain⟨d,o,kvs,e1,e2,q⟩:=h;obtain⟨n1,n2,n3⟩:=I.not0 e1;obtain⟨_,x⟩:=(show iE X.prog X.w H' s'.heap d (.frz o (.dK kvs)) from I'.hok d _ e2);exact⟨_,I'.retold e2 (λ_ z=>by cases z) (λ_ z=>by cases z) n1 n2 n3 (dk_put x),q⟩
theorem pe_thaw (h:PE X e te):PE X e (tThawE te):=λaL s σ H Q I hw =>
 thn (h aL s σ H _ I hw) λu s' z=>by
  obtain⟨v,H',I',r,q⟩:=z;obtain⟨H2,I2,q2⟩:=q.go I I';exact⟨v,H2,I2,r,q2⟩
theorem ps_thaw {t:TS}(h:PS X st t):PS X st (tThawS t):=λaL s σ H D I hw =>
 thn (h aL s σ H _ I hw) λf s' z=>by
  cases f with
  | next =>
   obtain⟨σ',H',I',q⟩:=z;obtain⟨H2,I2,q2⟩:=q.go I I';exact⟨σ',H2,I2,q2⟩
  | brk=>exact z
  | cont=>exact z
  | ret u=>exact z
theorem pi_vals {o:Expr}(ho:PE X o td)(m:M0 X o "values" apos cpos):PI X tg (.Call (.Attribute o "values" apos) [] [] cpos) (iVals td):=by
 intro aL s σ H R I h;apply wpAny_Call_method m.base m.few m.line mG PySem.F.slot_dict_values PySem.F.type_dict_values (thn (ho aL s σ H _ I h) λu s1 z=>?_);obtain⟨x,H1,I1,rx,d,kvs,ex,ea,q1⟩:=z;subst ex;obtain rfl:u=af.ref d:=rx;obtain⟨t1,t2,_⟩:=isDct_at I1 (.inl ⟨kvs,.inl ea⟩);apply⟨t1,t2,?_⟩;rw[m.trees];obtain⟨zz,hd,vs,rel,dd⟩:=dk_of I1.hok ea;apply iV rfl (PySem.evalArgs_none ?_);apply call_meetsIn PySem.F.slot_dict_values dd.typeIs PySem.F.entry_dict_values (PySem.F.args_dict_values_1 _) (meets_dict_values (gU X.prog X.w) d hd) ⟨⟨vs,dd⟩,?_⟩;have hg:(s1.heap.push { cls:=.type "dict_values",data:=.fields #[.ref d] }).get? s1.heap.objs.size=some { cls:=.type "dict_values",data:=.fields #[.ref d] }:=aU _ rfl;have hv:(s1.heap.push { cls:=.type "dict_values",data:=.fields #[.ref d] }).IsValuesView s1.heap.objs.size d:=⟨_,hg,rfl,rfl⟩;have hp:=I1.fresh;have hq:=q1 s1.heap.objs.size;have I2:Inv X aL σ (upd H1 s1.heap.objs.size (isVV s1.heap.objs.size d)) { s1 with heap:=s1.heap.push { cls:=.type "dict_values",data:=.fields #[.ref d] } }:=I1.laid (t':=s1.toks) (o:=isVV s1.heap.objs.size d) (λ_ _ z=>ar _ z) (aA _) ⟨hv,⟨_,hg⟩,λh1 h2 ⟨o,e,r⟩ k=>⟨o,k o e,r⟩⟩;generalize s1.heap.objs.size=p at hv hp hq I2 ⊢;generalize s1.heap.push { cls:=.type "dict_values",data:=.fields #[.ref d] }=h2 at hv I2 ⊢;have ea2:(upd H1 p (isVV p d)) d=some (.dK kvs):=by rw[bf (aZ ea hp)];exact ea
 generalize upd H1 p (isVV p d)=H2 at I2 ea2 hq;obtain⟨n1,n2,n3⟩:=I2.not0 ea2;obtain⟨zz2,hd2,vs2,rel2,dd2⟩:=dk_of I2.hok ea2;obtain⟨ep,hat⟩:=dd2.dictAt;apply wpAny_pyIter_values (s:={ s1 with heap:=h2 }) hv hat ?_;have hok2:=I2.hok d _ ea2;obtain⟨ob,hob⟩:∃ob,h2.get? d=some ob:=let ⟨o,es,ho,_⟩:=hat;⟨o,ho⟩;have I3:=I2.retold (b:=.frz ob (.dK kvs)) ea2 (λ_ z=>by cases z) (λ_ z=>by cases z) n1 n2 n3 ⟨hob,dk_put hok2⟩;apply⟨h2.objs.size,[h2.objs.size],_,Itd d ob kvs,ρ,I3.kept (t':=s1.toks) λc o e=>ar _ e,turn_vals d h2.objs.size ob kvs vs2 ep rel2 λh hh=>?_,⟨_,aU _ rfl,rfl,rfl⟩,λb hb=>?_,hq ob hp⟩
 ·obtain⟨o,es,ho,r⟩:=hat
  rw[hob] at ho;cases ho;exact⟨ob,es,hh,r⟩
 ·have e:b=h2.objs.size:=by simpa using hb
  subst e;exact I3.fpOk (aA _) (I3.hok.fresh (aA _))
end
theorem for_vals {d:aq}{o:Obj}{kvs:List (Key×V)}{D:nc}(Pv:Nat→St→Hp→Prop)(h0:Pv 0 σ H)(hl:∀i σ H,i≤kvs.length→Pv i σ H→H d=some (.frz o (.dK kvs)))
  (hs:∀i k x σ H,kvs[i]? =some (k,x)→Pv i σ H→g x σ H λσ2 H2=>tb { D with nx:=Pv (i+1),ct:=Pv (i+1),bk:=D.nx } σ2 H2) (hd:∀σ H,Pv kvs.length σ H→D.nx σ H) :
  ∃W:Nat→Nat→St→Hp→Prop,(∃m,W 0 m σ H)∧∀i m σ H,W i m σ H →
   ((Itd d o kvs).stop i H∧D.nx σ H)∨((Itd d o kvs).go i H∧∃N:St→Hp→Prop,(∀σ' H',N σ' H'→∃m',m'<m∧W (i+1) m' σ' H')∧∀x H',(Itd d o kvs).yld i H x H'→g x σ H' λσ2 H2=>tb { D with nx:=N,ct:=N,bk:=D.nx } σ2 H2):=by
 apply⟨λi m σ H=>m=kvs.length - i∧i≤kvs.length∧Pv i σ H,⟨kvs.length,∅,cR _,h0⟩,?_⟩;rintro i m σ H ⟨rfl,hi,p⟩;have q:=hl i σ H hi p
 by_cases e:i=kvs.length
 ·subst e
  exact .inl ⟨⟨q,rfl⟩,hd σ H p⟩
 ·have hlt:i<kvs.length:=gI hi e
  apply .inr ⟨⟨q,hlt⟩,Pv (i+1),λσ' H' p'=>⟨kvs.length - (i+1),⋯,rfl,⋯,p'⟩,λx H' hy=>?_⟩;obtain⟨rfl,k,hx⟩:=hy;exact hs i k x σ _ hx p
theorem comp_vals {d:aq}{o:Obj}{kvs:List (Key×V)}{Q:VK}(Pv:Nat→List V→Hp→Prop)(h0:Pv 0 [] H)(hl:∀i ys H,i≤kvs.length→Pv i ys H→H d=some (.frz o (.dK kvs))∧ys.length≤i)(hz:kvs.length≤ax)
  (hs:∀i k x ys H,kvs[i]? =some (k,x)→Pv i ys H→tt (some x::hZ σ js) H λb H4=>if b=true then te (some x::hZ σ js) H4 λy H5=>Pv (i+1) (ys++[y]) H5 else Pv (i+1) ys H4)
  (hd:∀ys H,Pv kvs.length ys H→∀D,H D=none→Q (.ref D) (upd H D (.lst ys))):CompW js tt te σ Q (Itd d o kvs) H:=by
 apply⟨λi m ys H=>i≤kvs.length∧m=kvs.length - i∧Pv i ys H,⟨_,cR _,rfl,h0⟩,λi m ys H2 z=>?_⟩;obtain⟨hi,hm,hp⟩:=z;obtain⟨hq,hy⟩:=hl i ys H2 hi hp
 by_cases e:i=kvs.length
 ·subst e
  exact .inl ⟨⟨hq,rfl⟩,hd ys H2 hp⟩
 ·have hlt:i<kvs.length:=gI hi e
  apply .inr ⟨⟨hq,hlt⟩,⋯,Pv (i+1),λys' H' hp'=>⟨kvs.length - (i+1),⋯,⋯,rfl,hp'⟩,λv H3 hy3=>?_⟩;obtain⟨e3,k,hx⟩:=hy3;subst e3;exact hs i k v ys _ hx hp
end L2
namespace HN
open PySem L2 PyProof.Rows HT2
local macro_rules
 |`(tactic|and_intros)=>`(tactic|try dsimp only[cxK])
abbrev sOwnL:cN:=clsOf cLin 4
theorem me {H H':Hp}{L:aq}{xs:List V}:∀{vs:List V} {sp:List Sn},jc H vs (sp.map snD)→(∀c o,c≠L→H c=some o→H' c=some o)→H L=some (.lst xs)→jc H' vs (sp.map snD)
 | _,[],.nil,_,_=>.nil
 | _,x::sp,.cons h r,k,hL=>by
  obtain⟨a,zs,rfl,ha,rz⟩:=h.tup_of;have ez:=jc.ints_of rz;subst ez;exact .cons (.tup (k _ _ (dz ha hL nofun) ha) (jc.ints _)) (me r k hL)
theorem snD_at {x:Sn}(h:H p=some (.tup [.int x.s,.int x.g,.int x.l,.int x.o,.int x.w])):IsD H (.ref p) (snD x):=.tup h (jc.ints x.row)
theorem scOwnL:cA ["self","spans","here","there","run"] pzb (defScope sOwnL):=by trivial
theorem ok_ownL {fc fg fr:aq}(F:Fun K "own_spans" "Line.own_spans" sOwnL f fd)(hz:mg "zip" =none)(U:Unt K mg)(CK:LinK P w K mg base C fc fg fr dc dg dr):‹0› 2 f fd pzb (spOwn C):=by
 specialize F.ok scOwnL;obtain ⟨x,D,l,rfl,A0,k⟩:=h;obtain ⟨tu,hU,uU⟩:=U.ex;have CC:=CK.cc;have u1:=i9 (jN (show 1≤64 by decide) _) hr.units;apply ⟨_,PSl.h (bh ⟨(psZ 1 scOwnL.nd (kL aw))⟩ (bh ⟨(iC bX rfl (pi_zip3 rfl hz (ah (fG (pv 0) rfl) (ah (cV nU (fG (pv 0) rfl) (dJ aC) eR) (ah (fG (pv 0) rfl) aw)))) (rB rfl (iK (pgZ 2 scOwnL.nd) (iK (pgZ 3 scOwnL.nd) (iK (pgZ 4 scOwnL.nd) pw))))
  (PSl.h (bh ⟨(hW (jQ bu bN bM gp (pv 1) (ah (fY (ah (iD (pv 0) CK.cc.cl CK.m2 CK.f2 (hr.mono ↥0) CK.b2 .nil ju (ah (pv 2) aw)) (ah (iD (pv 0) CK.cc.cl CK.m1 CK.f1 (hr.mono ↥0) CK.b1 .nil ju (ah (pv 3) aw)) (ah (pv 4) (ah (pv 4) (ah aC aw)))))) aw)))⟩
   (fj ⟨(eO (bK pz (pv 3) (cE ix_tup (fG (pv 0) rfl) (pe_un qk aC) (fun _ _=>rfl)) (cn _)) (bD (hW (jQ bu bN bM gp (pv 1) (ah (cw op_catT (fY (ah (iD (pv 0) CK.cc.cl CK.m1 CK.f1 (hr.mono ↥0) CK.b1 .nil ju (ah (pv 3) aw)) (ah (iD (pv 0) CK.cc.cl CK.m2 CK.f2 (hr.mono ↥0) CK.b2 .nil ju (ah (pv 3) aw)) aw))) (pe_dget2 u1 (fG (pv 0) rfl) (pv 3) (mP (v:=.ref tu) rfl hU rfl) ⟨rfl,rfl,rfl,rfl⟩)) aw)))) cv)⟩))))⟩ (fj ⟨(cb (pv 1))⟩))),?_⟩
 and_intros
 apply sq2 ?_
 intros
 obtain⟨n,ss,rs,st,fi⟩:=l;obtain⟨dx,a,b,hx,ha,hb⟩:=A0.d;have nd:ss.Nodup:=A0.nd;have two:2≤ss.length:=A0.two;have few:ss.length≤1000:=A0.few;have rl:ss.length=rs.length+1:=A0.rl;have hls:(ss.map V.str).length=ss.length:=ae _;have e1:HT.sIx (ss.map V.str).length 0 (some 1)=1:=by
  rw[hls];have:=HT.sIx_nat ss.length 0 1;rw[du ⋯] at this;exact this
 apply⟨(by show 0≤ax;decide),λL hLn=>?_⟩;have S0:cg H (upd H L (.lst [])):=cg.put (cg.refl H) hLn;have hL:(upd H L (.lst [])) L=some (.lst []):=aP;generalize upd H L (.lst [])=H0 at S0 hL ⊢;have S0x:=S0 _ _ hx;apply⟨ρ,x,C,dx,_,ρ,S0x,CC.cl,CC.n2,rfl,ρ,x,C,dx,_,ρ,S0x,CC.cl,CC.n2,rfl,ρ,a,ρ,zT (S0 _ _ ha),?_,λp H1 S1 e=>?_⟩
 ·rw[e1]
  intro q;exact rM q.1 ↥0
 rw[cutF (i:=1) (n:=1) rfl,←fZ] at e;have hL1:=S1 _ _ hL;have ha1:=S1 _ _ (S0 _ _ ha);have hb1:=S1 _ _ (S0 _ _ hb);have hx1:=S1 _ _ S0x;have A1:=(A0.same S0).same S1;apply⟨ρ,x,C,dx,_,ρ,hx1,CC.cl,CC.n3,rfl,⟨false,a⟩,⟨false,p⟩,⟨false,b⟩,_,_,ρ,ha1,e,hb1,?_⟩;have lD:(ss.drop 1).length=rs.length:=by rw[bE];lia
 let pZ1:zV:=λi σ H2=>(∀c o,c≠L→H1 c=some o→H2 c=some o)∧(∃ys:List V,H2 L=some (.lst ys)∧jc H2 ys ((ownN ⟨n,ss,rs,st,fi⟩ i).map snD))∧∃v2 v3 v4,σ=[some (.ref x),some (.ref L),v2,v3,v4]
 apply for_zipB3 (c1:=⟨false,a⟩) (c2:=⟨false,p⟩) (c3:=⟨false,b⟩) (xs:=ss.map V.str) (ys:=(ss.drop 1).map V.str) (zs:=rs.map V.int) pZ1
  ⟨λc o _ h=>h,⟨[],hL1,.nil⟩,none,none,none,rfl⟩ (λi σ H2 _ q=>⟨q.1 _ _ (dz ha1 hL1 nofun) ha1,q.1 _ _ (dz e hL1 nofun) e,q.1 _ _ (dz hb1 hL1 nofun) hb1⟩) (by rw[ae,ae,lD];lia) (by rw[ae,ae,lD]) ?_ ?_
 ·rintro i x1 x2 x3 q σ H2 h1 h2 h3 ⟨k2,⟨ys,hL2,hm⟩,v2,v3,v4,rfl⟩ hq
  rw[ay] at h1 h2 h3;obtain⟨u1,g1,rfl⟩:=bp.mp h1;obtain⟨u2,g2,rfl⟩:=bp.mp h2;obtain⟨r,g3,rfl⟩:=bp.mp h3;rw[cY,Nat.add_comm] at g2;have li:i+1<ss.length:=(aj.mp g2).1;have big:(100000:Nat)≤ax:=by decide
  have ly:ys.length≤2 * i:=by
   have:=hm.length;rw[ae] at this;rw[this];exact qf _ _
  have S6:cg H2 (upd H2 q (.tup [.str u1,.str u2,.int r])):=cg.put (cg.refl H2) hq;have h6:(upd H2 q (.tup [.str u1,.str u2,.int r])) q=some (.tup [.str u1,.str u2,.int r]):=aP;generalize upd H2 q (.tup [.str u1,.str u2,.int r])=H6 at S6 h6 ⊢;have A2:LnA H2 C x D ⟨n,ss,rs,st,fi⟩:=by
   obtain⟨kvs,d1,_⟩:=A1.s.ex;apply A1.kept (λb xs e=>k2 _ _ (dz e hL1 nofun) e) (λb C dx fs e=>k2 _ _ (dz e hL1 nofun) e) ((k2 _ _ (dz d1 hL1 nofun) d1).trans d1.symm)
  have A6:=A2.same S6;apply⟨q,ρ,zT h6,rfl,_,ρ,_,ρ,ς,?_⟩;have hL6:=S6 _ _ hL2;obtain⟨dx6,a6,b6,hx6,_⟩:=id A6.d;apply⟨ρ,.inl ⟨rfl,_,zL hL6⟩,ρ,x,dx6,ρ,hx6,rfl,ρ,x,D,n,u1,ss,rs,fi,rfl,A6.d,few,two,nd,λH7 S7=>⟨λi' a1 a2=>?_,λno=>rM (no i g1) ⋯⟩⟩;obtain rfl:=(jA nd g1 a1).symm;have A7:=A6.same S7;obtain⟨dx7,a7,b7,hx7,_⟩:=id A7.d;apply⟨ρ,x,dx7,ρ,hx7,rfl,ρ,x,D,n,u2,ss,rs,fi,rfl,A7.d,few,two,nd,λH8 S8=>⟨λj a1 a2=>?_,λno=>rM (no _ g2) ⋯⟩⟩;obtain rfl:=(jA nd g2 a1).symm;apply⟨ρ,ρ,szZ5,λp1 H9 S9 e9=>?_⟩;have A9:=(A7.same S8).same S9;have S29:cg H2 H9:=S6.trans (S7.trans (S8.trans S9));have hL9:=S29 _ _ hL2;have hm9:=jc.same S29 hm;apply⟨L,ς,hL9,⋯,?_⟩;have k9:∀c o,c≠L→H9 c=some o→(upd H9 L (.lst (ys++[.ref p1]))) c=some o:=λc o hc h=>by rw[bf hc];exact h
  have hLa:(upd H9 L (.lst (ys++[.ref p1]))) L=some (.lst (ys++[.ref p1])):=aP;generalize upd H9 L (.lst (ys++[.ref p1]))=Ha at k9 hLa ⊢;have p1L:p1≠L:=dz e9 hL9 nofun;have d1:IsD Ha (.ref p1) (snD ⟨fi+2 * i,fi+2 * i+1,r,r,0⟩):=snD_at (x:=⟨fi+2 * i,fi+2 * i+1,r,r,0⟩) (by
   have:=k9 _ _ p1L e9;rw[this];show some (HO.tup [.int (fi+2 * (i:Nat)),.int (fi+2 * ((i+1:Nat):Int) - 1),_,_,_])=_;rw[show fi+2 * ((i+1:Nat):Int) - 1=fi+2 * (i:Nat)+1 by lia])
  have da:jc Ha (ys++[.ref p1]) ((ownN ⟨n,ss,rs,st,fi⟩ i).map snD++[snD ⟨fi+2 * i,fi+2 * i+1,r,r,0⟩]):=(me hm9 k9 hL9).append (jc.one d1);have Aa:LnA Ha C x D ⟨n,ss,rs,st,fi⟩:=by
   obtain⟨kvs,d1,_⟩:=A9.s.ex;exact A9.kept (λb xs e=>k9 _ _ (dz e hL9 nofun) e) (λb C dx fs e=>k9 _ _ (dz e hL9 nofun) e) ((k9 _ _ (dz d1 hL9 nofun) d1).trans d1.symm)
  have ka:∀c o,c≠L→H1 c=some o→Ha c=some o:=λc o hc h=>k9 _ _ hc (S29 _ _ (k2 _ _ hc h))
  have er:rs.getD i 0=r:=by rw[br,g3];rfl
  obtain⟨dxa,aa,ba,hxa,haa,hba⟩:=id Aa.d;obtain⟨z,hzl⟩:∃z,ss[ss.length - 1]? =some z:=⟨_,gE ⋯⟩;apply⟨ρ,ρ,x,C,dxa,_,ρ,hxa,CC.cl,CC.n2,rfl,⟨1,rfl,aa,τ,zT haa,HN.atI_last (by rw[ae,ay,hzl];rfl),rfl,ρ,?_⟩⟩;have es:ss.getD (i+1) gr=u2:=by rw[br,g2];rfl
  apply jq (λhc=>?_) (λhc=>?_)
  ·have nl:i+2<ss.length:=by
    rcases Nat.lt_or_ge (i+2) ss.length with q | q
    ·exact q
    ·have:i+1=ss.length - 1:=by lia
     rw[this,hzl] at g2;cases g2;exact rM hc ∅
   apply⟨ρ,.inl ⟨rfl,_,zL hLa⟩,ρ,x,dxa,ρ,hxa,rfl,ρ,x,D,n,u2,ss,rs,fi,rfl,Aa.d,few,two,nd,λHb Sb=>⟨λj a1 a2=>?_,λno=>rM (no _ g2) ⋯⟩⟩;obtain rfl:=(jA nd g2 a1).symm;have Ab:=Aa.same Sb;obtain⟨dxb,ab,bb,hxb,_⟩:=id Ab.d;apply⟨ρ,x,dxb,ρ,hxb,rfl,ρ,x,D,n,u2,ss,rs,fi,rfl,Ab.d,few,two,nd,λHc Sc=>⟨λj a1 a2=>?_,λno=>rM (no _ g2) ⋯⟩⟩;obtain rfl:=(jA nd g2 a1).symm;apply⟨qW,λp2 Hd Sd ed=>?_⟩;have Ad:=(Ab.same Sc).same Sd;have Sad:cg Ha Hd:=Sb.trans (Sc.trans Sd);obtain⟨dxd,ad,bd,hxd,_⟩:=id Ad.d;obtain⟨kvs,hD,_,hst⟩:=Ad.s.ex;apply⟨ρ,x,C,dxd,_,ρ,hxd,CC.cl,CC.n4,rfl,D,rfl,.inl ⟨kvs,.inl hD⟩,ρ,_,.inl ⟨kvs,.inr u2,.inl hD,rfl,rfl⟩,?_⟩;obtain⟨t,et,hT⟩:∃t,(l9 kvs (.inr u2)).getD (.ref tu)= .ref t∧SqT K Hd t [.int (sty st u2).1,.int (sty st u2).2.1,.int (sty st u2).2.2]:=by
    cases hv:l9 kvs (.inr u2) with
    | none =>
     have:=((hst u2).2.1 hv).1;exact⟨tu,rfl,by rw[show sty st u2=(0,0,0) from this];exact uU _⟩
    | some v =>
     obtain⟨t,rfl,q⟩:=(hst u2).1 v hv;exact⟨t,rfl,zT q⟩
   apply⟨p2,t,_,ρ,et,zT ed,hT,∅,szZ5,λz=>rM z ∅,λ_ p3 hp3=>?_⟩;have hLd:=Sad _ _ hLa;have S3:cg Hd (upd Hd p3 (.tup ([.int (fi+2 * ((i+1:Nat):Int) - 1),.int (fi+2 * ((i+1:Nat):Int))]++[.int (sty st u2).1,.int (sty st u2).2.1,.int (sty st u2).2.2]))):=cg.put (cg.refl _) hp3;have e3:(upd Hd p3 (.tup ([.int (fi+2 * ((i+1:Nat):Int) - 1),.int (fi+2 * ((i+1:Nat):Int))]++[.int (sty st u2).1,.int (sty st u2).2.1,.int (sty st u2).2.2]))) p3=some (.tup [.int (fi+2 * i+1),.int (fi+2 * i+2),.int (sty st u2).1,.int (sty st u2).2.1,.int (sty st u2).2.2]):=by
    rw[aP,show fi+2 * ((i+1:Nat):Int) - 1=fi+2 * (i:Nat)+1 by lia,show fi+2 * ((i+1:Nat):Int)=fi+2 * (i:Nat)+2 by lia];rfl
   apply⟨L,ys++[.ref p1],ρ,rfl,S3 _ _ hLd,(by rw[ao];show ys.length+1<ax;lia),?_⟩;generalize upd Hd p3 (.tup ([.int (fi+2 * ((i+1:Nat):Int) - 1),.int (fi+2 * ((i+1:Nat):Int))]++[.int (sty st u2).1,.int (sty st u2).2.1,.int (sty st u2).2.2]))=He at S3 e3 ⊢;have hLe:=S3 _ _ hLd;have kf:∀c o,c≠L→He c=some o→(upd He L (.lst (ys++[.ref p1]++[.ref p3]))) c=some o:=λc o hc h=>by rw[bf hc];exact h
   have p3L:p3≠L:=dz e3 hLe nofun;have d3:=snD_at (x:=⟨fi+2 * i+1,fi+2 * i+2,(sty st u2).1,(sty st u2).2.1,(sty st u2).2.2⟩) (kf _ _ p3L e3);have df:=(me (sp:=ownN ⟨n,ss,rs,st,fi⟩ i++[⟨fi+2 * i,fi+2 * i+1,r,r,0⟩]) (jc.same (Sad.trans S3) (by rw[av];exact da)) kf hLe).append (jc.one d3);apply⟨λc o hc h=>kf _ _ hc (S3 _ _ (Sad _ _ (ka _ _ hc h))),⟨_,aP,?_⟩,_,_,ρ⟩;rw[jR];unfold stp;simp only[er,es];rw[rL nl,av];rw[av] at df;apply Eq.mp (rR _ ?_) df;rw[cG];rfl
  ·have nl:¬ i+2<ss.length:=fun q=>hc (by
    show(!decide (V.str u2=V.str z))=true;rw[Bool.not_eq_true'];apply rP λe=>?_
    injection e with e
    subst e;have:=jA nd hzl g2;lia)
   apply⟨ka,⟨_,hLa,?_⟩,_,_,ρ⟩;rw[jR];unfold stp;simp only[er];rw[rK nl,av];exact da
 ·rintro σ H2 ⟨k2,⟨ys,hL2,hm⟩,v2,v3,v4,rfl⟩
  apply⟨ρ,k L ys H2 (λc o h=>k2 c o ?_ (S1 _ _ (S0 _ _ h))) hLn hL2 ?_⟩
  ·intro z;rw[z,hLn] at h;cases h
  ·rw[ae,lD] at hm;exact hm
abbrev cPla:cN:=top 34
abbrev sInitP:cN:=clsOf cPla 0
abbrev sHap:cN:=clsOf cPla 1
abbrev sAllS:cN:=clsOf cPla 2
abbrev sAllL:cN:=clsOf cPla 3
abbrev sSmall:cN:=clsOf cPla 4
structure PlaC (K:ak)(C:aq):Prop where
 cl:Cls K C
 n1:jW K C "beat"
 n2:jW K C "lines"
 n3:jW K C "between"
abbrev LX:=Ln×aq×aq
def lg (zs:List LX):List (Key×V):=zs.map λz=>(.inr z.1.n,.ref z.2.1)
abbrev plF (b:Int)(DL LB:aq):List (Str×V):=[("beat",.int b),("lines",.ref DL),("between",.ref LB)]
structure PlI (CP CL:aq)(H0 H:Hp)(p:aq)(b:Int)(zs:List LX)(bt:List Sn)(DL LB:aq):Prop where
 S:cg H0 H
 pl:∃dp,H p=some (.ins CP dp (plF b DL LB))
 nL:H0 DL=none
 nB:H0 LB=none
 nD:∀z∈zs,H0 z.2.2=none
 dl:H DL=some (.dK (lg zs))
 ln:∀z∈zs,LnA H CL z.2.1 z.2.2 z.1
 nd:(DL::zs.map (·.2.2)).Nodup
 nn:(zs.map (·.1.n)).Nodup
 lb:∃ys,H LB=some (.lst ys)∧jc H ys (bt.map snD)
theorem PlI.same {zs:List LX}{DL:aq}(I:PlI CP CL H0 H p b zs bt DL LB)(S:cg H H'):PlI CP CL H0 H' p b zs bt DL LB:=by
 obtain⟨dp,h1⟩:=I.pl;obtain⟨ys,h2,h3⟩:=I.lb;exact⟨I.S.trans S,⟨dp,S _ _ h1⟩,I.nL,I.nB,I.nD,S _ _ I.dl,λz hz=>(I.ln z hz).same S,I.nd,I.nn,ys,S _ _ h2,jc.same S h3⟩
def mE (zs:List LX):Int:=(zs.map λz=>2 * (z.1.rs.length:Int)).sum
def allS (zs:List LX)(bt:List Sn):List Sn:=zs.flatMap (λz=>oz z.1)++bt
def allL (zs:List LX):List (List V):=zs.flatMap λz=>mK z.1.n z.1.ss
structure Few (zs:List LX)(bt:List Sn):Prop where
 a:zs.length≤100
 b:bt.length≤100
inductive spInitP (C:aq)(vs:List V)(H:Hp)(Q:VK)(_:XK):Prop
 | mk (x dx:aq)(b:Int)(_:vs=[.ref x,.int b])(_:H x=some (.ins C dx []))(_:∀(DL LB:aq) (H':Hp),(∀c o,c≠x→H c=some o→H' c=some o)→H DL=none→H LB=none→DL≠LB→H' DL=some (.dK [])→H' LB=some (.lst [])→H' x=some (.ins C dx (plF b DL LB))→Q .non H')
inductive spHap (CP CL:aq)(vs:List V)(H:Hp)(Q:VK)(_:XK):Prop
 | mk (H0:Hp)(p DL LB:aq)(b:Int)(zs:List LX)(bt:List Sn)(_:vs=[.ref p])(_:PlI CP CL H0 H p b zs bt DL LB)(_:Few zs bt)(_:∀H',cg H H'→Q (.int (mE zs)) H')
inductive spAllS (CP CL:aq)(vs:List V)(H:Hp)(Q:VK)(_:XK):Prop
 | mk (H0:Hp)(p DL LB:aq)(b:Int)(zs:List LX)(bt:List Sn)(_:vs=[.ref p])(_:PlI CP CL H0 H p b zs bt DL LB)(_:Few zs bt)(_:∀(L:aq) (ys:List V) (H':Hp),cg H H'→H L=none→H' L=some (.lst ys)→jc H' ys ((allS zs bt).map snD)→Q (.ref L) H')
inductive spAllL (CP CL:aq)(vs:List V)(H:Hp)(Q:VK)(_:XK):Prop
 | mk (H0:Hp)(p DL LB:aq)(b:Int)(zs:List LX)(bt:List Sn)(_:vs=[.ref p])(_:PlI CP CL H0 H p b zs bt DL LB)(_:Few zs bt)(_:∀(L:aq) (as:List aq) (H':Hp),cg H H'→H L=none→H' L=some (.lst (as.map V.ref))→as.map H'=(allL zs).map (λt=>some (HO.tup t))→Q (.ref L) H')
inductive spSmall (CP CL:aq)(vs:List V)(H:Hp)(Q:VK)(_:XK):Prop
 | mk (H0:Hp)(p DL LB:aq)(b:Int)(zs:List LX)(bt:List Sn)(_:vs=[.ref p])(_:PlI CP CL H0 H p b zs bt DL LB)(_:Few zs bt)(_:∀H',cg H H'→Q (.bl (decide (mE zs≤16) && decide ((allS zs bt).length≤40))) H')
theorem qj {H3:Hp}{d pv:aq}{u:HO}{ob:Obj}{kvs:List (Key×V)}(hp:H pv=none)(S:cg (upd (upd H pv u) d (.frz ob (.dK kvs))) H3):∀c o,c≠d→H c=some o→H3 c=some o:=λc o hc e =>
 S c o (by rw[bf hc,bf (aZ e hp)];exact e)
theorem thaw_same {H3:Hp}{d pv:aq}{u:HO}{ob:Obj}{kvs:List (Key×V)}(hd:H d=some (.dK kvs))(k:∀c o,c≠d→H c=some o→H3 c=some o):cg H (upd H3 d (.dK kvs)):=λc o e=>by
 by_cases z:c=d
 ·subst z;rw[hd] at e;rw[aP];exact e
 ·rw[bf z];exact k c o z e
theorem fldK (K:ak){f:Str}(he:PE X e ta)(hb:gN e f X.env (dn e X.env)=dn e X.env)(hK:X.K=K:=by rfl):PE X (.Attribute e f pos) (tFld K ta f):=by subst hK;exact fG he hb
theorem lenK (K:ak)(hK:X.K=K:=by rfl):jn X (.builtin "len") (λxs H Q=>∃p ys,xs=[.ref p]∧(SqL K H p ys∨SqT K H p ys)∧Q (.int ys.length) H):=by subst hK;exact bO
theorem scInitP:cA pzs pzs (defScope sInitP):=by trivial
theorem ok_initP (F:Fun K "__init__" "Plan.__init__" sInitP f fd)(CC:PlaC K C):‹0› 1 f fd pzs (spInitP C):=by
 specialize F.ok scInitP;obtain⟨x,dx,b,rfl,hx,k⟩:=h;apply⟨_,cZ (pN (pv 0) (pv 1) rfl) (cZ (pN (pv 0) pe_dnewK rfl) (bD (pN (pv 0) (kL aw) rfl))),?_⟩
 and_intros
 apply sq2 ?_
 intros
 apply⟨ρ,ρ,x,C,dx,ρ,hx,CC.cl,CC.n1,↥0,?_⟩;apply λD hD=>⟨ρ,x,C,dx,ρ,(by rw[bf (aZ aP hD)];exact aP),CC.cl,CC.n2,(by show 1<1000;decide),?_⟩
 have xD:x≠D:=aZ aP hD;apply⟨(by show 0≤ax;decide),λL hL=>⟨ρ,x,C,dx,[("beat",.int b),("lines",.ref D)],rfl,?_,CC.cl,CC.n3,(by show 2<1000;decide),?_⟩⟩
 ·rw[bf (aZ aP hL)];exact aP
 have xL:x≠L:=aZ aP hL;have DL:D≠L:=aZ (H:=upd (upd (upd H x (.ins C dx (qZ "beat" (.int b) []))) D (.dK [])) x (.ins C dx (qZ "lines" (.ref D) (qZ "beat" (.int b) [])))) (o:=.dK []) (by rw[bf (cM xD),aP]) hL;rw[bf (cM xD)] at hD;rw[bf (cM xL),bf (cM DL),bf (cM xL)] at hL;apply k D L _ (λc o hc e=>?_) hD hL DL ?_ ?_ aP
 ·rw[bf hc,bf (aZ e hL),bf hc,bf (aZ e hD),bf hc];exact e
 ·rw[bf (cM xD),bf DL,bf (cM xD),aP]
 ·rw[bf (cM xL),aP]
theorem scHap:cA pzb pzb (defScope sHap):=by trivial
structure LinQ (P:aN)(w:bq)(K:ak)(mg:Str→Option af)(base:bP)(C:aq)(fo fl:aq)(d1 d2:aY):Prop where
 m4:rb K C "own_spans" fo
 f4:‹0› 2 fo d1 pzb (spOwn C)
 b4:Binds K d1 pzb []
 m5:rb K C "own_labels" fl
 f5:‹0› 1 fl d2 pzb (spLabL C)
 b5:Binds K d2 pzb []
theorem labs_len (n:Str):∀ss:List Str,(mK n ss).length≤2 * ss.length
 | []=>by simp[mK]
 | [_]=>by simp[mK]
 | _::t::r=>by
  have:=labs_len n (t::r);show(mK n (t::r)).length+2≤_;simp only[aG] at this ⊢;lia
theorem take_flat {β:Type}(f:α→List β){zs:List α}{z:α}(h:zs[i]? =some z):(zs.take (i+1)).flatMap f=(zs.take i).flatMap f++f z:=by
 rw[aQ,h,lK];simp
theorem scAllS:cA ["self","spans","line"] pzb (defScope sAllS):=by trivial
theorem ok_allS {fo fl:aq}(F:Fun K "all_spans" "Plan.all_spans" sAllS f fd)(CC:PlaC K C)(LC:LinC K CL)(LQ:LinQ P w K mg base CL fo fl d1 d2):‹0› 3 f fd pzb (spAllS C CL):=by
 specialize F.ok scAllS;obtain ⟨H0,p,DL,LB,b,zs,bt,rfl,I,fw,k⟩:=h;apply ⟨_,PSl.h (bh ⟨(psZ 1 scAllS.nd (kL aw))⟩ (bh ⟨ps_thaw (iC bX rfl (pi_vals (fG (pv 0) rfl) ⟨rfl,rfl,rfl,rfl⟩) (pgZ 2 scAllS.nd) (bD (hW (jQ bu PySem.F.slot_list_extend PySem.F.type_list_extend mt_extend (pv 1) (ah (iX (pv 2) LC.cl LQ.m4 LQ.f4 hr LQ.b4 .nil ju) aw)))))⟩
  (fj ⟨(cb (cw op_cat (pv 1) (fG (pv 0) rfl)))⟩))),?_⟩
 and_intros
 apply sq2 ?_
 intros
 have lz:(lg zs).length=zs.length:=ae _;have big:(1000000:Nat)≤ax:=by decide
 have f1:=fw.a;have f2:=fw.b;apply⟨(by show 0≤ax;decide),λL hLn=>?_⟩;have S0:cg H (upd H L (.lst [])):=cg.put (cg.refl H) hLn;have hL:(upd H L (.lst [])) L=some (.lst []):=aP;generalize upd H L (.lst [])=H1 at S0 hL ⊢;have I1:=I.same S0;obtain⟨dp,hp⟩:=I1.pl;apply⟨ρ,p,C,dp,_,ρ,hp,CC.cl,CC.n2,rfl,DL,ρ,I1.dl,λpv ob hpv=>?_⟩;have LDL:L≠DL:=dz hL I1.dl nofun;have hLf:(upd (upd H1 pv (isVV pv DL)) DL (.frz ob (.dK (lg zs)))) L=some (.lst []):=by rw[bf LDL,bf (aZ hL hpv)];exact hL
 have kf:∀c o,c≠DL→H1 c=some o→(upd (upd H1 pv (isVV pv DL)) DL (.frz ob (.dK (lg zs)))) c=some o:=qj hpv (cg.refl _);have hDf:(upd (upd H1 pv (isVV pv DL)) DL (.frz ob (.dK (lg zs)))) DL=some (.frz ob (.dK (lg zs))):=aP;generalize upd (upd H1 pv (isVV pv DL)) DL (.frz ob (.dK (lg zs)))=Hf at hLf kf hDf ⊢;have Lf:∀z∈zs,LnA Hf CL z.2.1 z.2.2 z.1:=λz hz=>by
  have A:=I1.ln z hz;obtain⟨kvs,d1,_⟩:=A.s.ex;have nz:z.2.2≠DL:=λe=>(bV.mp I1.nd).1 (aK.mpr ⟨z,hz,e⟩)
  exact A.kept (λb xs e=>kf _ _ (dz e I1.dl nofun) e) (λb C dx fs e=>kf _ _ (dz e I1.dl nofun) e) ((kf _ _ nz d1).trans d1.symm)
 let pZ1:zV:=λi σ H2=>(∀c o,c≠L→Hf c=some o→H2 c=some o)∧(∃ys:List V,ys.length≤2000 * i∧H2 L=some (.lst ys)∧jc H2 ys (((zs.take i).flatMap λz=>oz z.1).map snD))∧∃v2,σ=[some (.ref p),some (.ref L),v2]
 apply for_vals pZ1
  ⟨λc o _ h=>h,⟨[],∅,hLf,.nil⟩,none,rfl⟩ (λi σ H2 _ q=>q.1 _ _ (cM LDL) hDf) (λi kk x σ H2 hx q=>?_) (λσ H3 q=>?_)
 ·obtain⟨k2,⟨ys,ly,hL2,hm⟩,v2,rfl⟩:=q
  unfold lg at hx;rw[ay] at hx;obtain⟨z,hz,e⟩:=bp.mp hx;cases e;have A1:=Lf z (aD hz);have A2:LnA H2 CL z.2.1 z.2.2 z.1:=by
   obtain⟨kvs,d1,_⟩:=A1.s.ex;exact A1.kept (λb xs e=>k2 _ _ (dz e hLf nofun) e) (λb C dx fs e=>k2 _ _ (dz e hLf nofun) e) ((k2 _ _ (dz d1 hLf nofun) d1).trans d1.symm)
  obtain⟨dx,a,bb,h1,_⟩:=id A2.d;apply⟨ρ,.inl ⟨rfl,_,zL hL2⟩,ρ,z.2.1,dx,ρ,h1,rfl,z.2.1,z.2.2,z.1,rfl,A2,λL2 us H4 S4 _ h4 d4=>?_⟩;have hL4:=S4 _ _ hL2;have lu:us.length≤2 * z.1.rs.length:=by
   have:=d4.length;rw[ae] at this;rw[this];exact qf _ _
  have:=A2.few;have:=A2.rl;have hi:i<zs.length:=(aj.mp hz).1;apply⟨L,L2,ς,hL4,h4,⋯,?_⟩;have kg:∀c o,c≠L→H4 c=some o→(upd H4 L (.lst (ys++us))) c=some o:=λc o hc h=>by rw[bf hc];exact h
  apply⟨λc o hc h=>kg _ _ hc (S4 _ _ (k2 _ _ hc h)),⟨_,(by rw[ao];lia),aP,?_⟩,ρ⟩;rw[take_flat (λz:LX=>oz z.1) hz,av];exact(me (jc.same S4 hm) kg hL4).append (me d4 kg hL4)
 ·obtain⟨k3,⟨ys,ly,hL3,hm⟩,v2,rfl⟩:=q
  rw[lz] at ly hm;rw[bG] at hm;have hD3:=k3 _ _ (cM LDL) hDf;have S5:cg H (upd H3 DL (.dK (lg zs))):=λc o e=>by
   have e1:=S0 _ _ e;have cL:c≠L:=aZ e hLn
   by_cases z:c=DL
   ·subst z;rw[I1.dl] at e1;rw[aP];exact e1
   ·rw[bf z];exact k3 _ _ cL (kf _ _ z e1)
  have k5:∀c o,c≠DL→H3 c=some o→(upd H3 DL (.dK (lg zs))) c=some o:=λc o hc e=>by rw[bf hc];exact e
  apply⟨DL,ob,lg zs,I1.dl,hD3,?_⟩;have hL5:=k5 _ _ LDL hL3;have hm5:jc (upd H3 DL (.dK (lg zs))) ys ((zs.flatMap λz=>oz z.1).map snD):=by
   clear ly;revert hm;generalize (zs.flatMap λz=>oz z.1)=sp;intro hm;have fin:∀{vs:List V} {sp:List Sn},jc H3 vs (sp.map snD)→jc (upd H3 DL (.dK (lg zs))) vs (sp.map snD):=by
    intro vs sp
    induction sp generalizing vs with
    | nil=>intro h;cases h;exact .nil
    | cons x sp ih =>
     intro h;cases h with
     | cons h r =>
      obtain⟨a,us,rfl,ha,rz⟩:=h.tup_of;have ez:=jc.ints_of rz;subst ez;exact .cons (.tup (k5 _ _ (dz ha hD3 nofun) ha) (jc.ints _)) (ih r)
   exact fin hm
  generalize upd H3 DL (.dK (lg zs))=H5 at S5 hL5 hm5 ⊢;have I5:=I.same S5;obtain⟨dp5,hp5⟩:=I5.pl;obtain⟨bs,hB,dB⟩:=I5.lb;have lbs:bs.length=bt.length:=by have:=dB.length;rwa [ae] at this
  apply⟨ρ,ρ,p,C,dp5,_,ρ,hp5,CC.cl,CC.n3,rfl,L,LB,ς,hL5,hB,⋯,λq hq=>?_⟩;have S6:cg H5 (upd H5 q (.lst (ys++bs))):=cg.put (cg.refl _) hq;apply k q _ _ (S5.trans S6) ?_ aP ?_
  ·cases e:H q with
   | none=>rfl
   | some o=>rw[S5 _ _ e] at hq;cases hq
  ·unfold allS
   rw[av];exact(jc.same S6 hm5).append (jc.same S6 dB)
theorem scSmall:cA pzb pzb (defScope sSmall):=by trivial
theorem ok_small {da:aY}(F:Fun K "is_small" "Plan.is_small" sSmall f fd)(T:Nm mg)(CS:Cs mg)(CC:PlaC K C)(m1:rb K C "happenings" fh)(f1:‹0› 1 fh dh pzb (spHap C CL))(b1:Binds K dh pzb [])
  (m2:rb K C "all_spans" fa) (f2:‹0› 3 fa da pzb (spAllS C CL)) (b2:Binds K da pzb []):‹0› 4 f fd pzb (spSmall C CL):=by
 specialize F.ok scSmall;obtain⟨H0,p,DL,LB,b,zs,bt,rfl,I,fw,k⟩:=h;apply⟨_,bD (cb (mQ (iT q0 (iX (pv 0) CC.cl m1 f1 (hr.mono ↥0) b1 .nil ju) (qx CS.mh) (cn _)) (nP (iT q0 (bS bO rfl T.len aS (ah (iX (pv 0) CC.cl m2 f2 hr b2 .nil ju) aw)) (qx CS.ms) (cn _))))),?_⟩
 and_intros
 obtain⟨dp,hp⟩:=I.pl;apply⟨ρ,p,dp,ρ,hp,rfl,H0,p,DL,LB,b,zs,bt,rfl,I,fw,λH1 S1=>?_⟩;apply⟨ς,ρ,jq (λh1=>?_) (λh1=>?_)⟩
 ·have I1:=I.same S1
  obtain⟨dp1,hp1⟩:=I1.pl;apply⟨ρ,p,dp1,ρ,hp1,rfl,H0,p,DL,LB,b,zs,bt,rfl,I1,fw,λL ys H2 S2 _ hL d=>?_⟩;apply⟨L,ρ,.inl (zL hL),ς,?_⟩;have e:=k H2 (S1.trans S2);have h1:decide (mE zs≤16)=true:=h1;have ly:(ys.length:Int)=(allS zs bt).length:=by have:=d.length;rw[ae] at this;lia
  rw[h1,kZ] at e;show Q (.bl (decide ((ys.length:Int)≤40))) H2;rw[ly];rw[show decide (((allS zs bt).length:Int)≤40)=decide ((allS zs bt).length≤40) from decide_eq_decide.mpr ⋯];exact e
 ·have e:=k H1 S1
  have h1:decide (mE zs≤16)=false:=by simpa using h1
  rw[h1,km] at e;exact e
theorem scAllL:cA ["self","labels","line"] pzb (defScope sAllL):=by trivial
theorem ok_allL {fo fl:aq}(F:Fun K "all_labels" "Plan.all_labels" sAllL f fd)(CC:PlaC K C)(LC:LinC K CL)(LQ:LinQ P w K mg base CL fo fl d1 d2):‹0› 2 f fd pzb (spAllL C CL):=by
 specialize F.ok scAllL;obtain ⟨H0,p,DL,LB,b,zs,bt,rfl,I,fw,k⟩:=h;apply ⟨_,PSl.h (bh ⟨(psZ 1 scAllL.nd (kL aw))⟩ (bh ⟨ps_thaw (iC bX rfl (pi_vals (fG (pv 0) rfl) ⟨rfl,rfl,rfl,rfl⟩) (pgZ 2 scAllL.nd) (bD (hW (jQ bu PySem.F.slot_list_extend PySem.F.type_list_extend mt_extend (pv 1) (ah (iX (pv 2) LC.cl LQ.m5 LQ.f5 hr LQ.b5 .nil ju) aw)))))⟩
  (fj ⟨(cb (pv 1))⟩))),?_⟩
 and_intros
 apply sq2 ?_
 intros
 have lz:(lg zs).length=zs.length:=ae _;have big:(1000000:Nat)≤ax:=by decide
 have f1:=fw.a;apply⟨(by show 0≤ax;decide),λL hLn=>?_⟩;have S0:cg H (upd H L (.lst [])):=cg.put (cg.refl H) hLn;have hL:(upd H L (.lst [])) L=some (.lst []):=aP;generalize upd H L (.lst [])=H1 at S0 hL ⊢;have I1:=I.same S0;obtain⟨dp,hp⟩:=I1.pl;apply⟨ρ,p,C,dp,_,ρ,hp,CC.cl,CC.n2,rfl,DL,ρ,I1.dl,λpv ob hpv=>?_⟩;have LDL:L≠DL:=dz hL I1.dl nofun;have hLf:(upd (upd H1 pv (isVV pv DL)) DL (.frz ob (.dK (lg zs)))) L=some (.lst []):=by rw[bf LDL,bf (aZ hL hpv)];exact hL
 have kf:∀c o,c≠DL→H1 c=some o→(upd (upd H1 pv (isVV pv DL)) DL (.frz ob (.dK (lg zs)))) c=some o:=qj hpv (cg.refl _);have hDf:(upd (upd H1 pv (isVV pv DL)) DL (.frz ob (.dK (lg zs)))) DL=some (.frz ob (.dK (lg zs))):=aP;generalize upd (upd H1 pv (isVV pv DL)) DL (.frz ob (.dK (lg zs)))=Hf at hLf kf hDf ⊢
 let pZ1:zV:=λi σ H2=>(∀c o,c≠L→Hf c=some o→H2 c=some o)∧(∃as:List aq,as.length≤2000 * i∧H2 L=some (.lst (as.map V.ref))∧as.map H2=(allL (zs.take i)).map (λt=>some (HO.tup t)))∧∃v2,σ=[some (.ref p),some (.ref L),v2]
 apply for_vals pZ1
  ⟨λc o _ h=>h,⟨[],∅,hLf,rfl⟩,none,rfl⟩ (λi σ H2 _ q=>q.1 _ _ (cM LDL) hDf) (λi kk x σ H2 hx q=>?_) (λσ H3 q=>?_)
 ·obtain⟨k2,⟨ys,ly,hL2,hm⟩,v2,rfl⟩:=q
  unfold lg at hx;rw[ay] at hx;obtain⟨z,hz,e⟩:=bp.mp hx;cases e;have A1:=I1.ln z (aD hz);obtain⟨dx,a,bb,g1,g2,g3⟩:=A1.d;have kb:∀c o,c≠DL→c≠L→H1 c=some o→H2 c=some o:=λc o h1 h2 h=>k2 _ _ h2 (kf _ _ h1 h)
  have D2:LinD H2 CL z.2.1 z.1.n z.1.ss z.1.rs z.2.2 z.1.fi:=⟨dx,a,bb,kb _ _ (dz g1 I1.dl nofun) (dz g1 hL nofun) g1,kb _ _ (dz g2 I1.dl nofun) (dz g2 hL nofun) g2,kb _ _ (dz g3 I1.dl nofun) (dz g3 hL nofun) g3⟩;obtain⟨dx,a,bb,h1,_⟩:=id D2;apply⟨ρ,.inl ⟨rfl,_,zL hL2⟩,ρ,z.2.1,dx,ρ,h1,rfl,z.2.1,z.2.2,z.1.n,z.1.ss,z.1.rs,z.1.fi,rfl,D2,A1.two,A1.few,λL2 us H4 S4 _ h4 d4=>?_⟩;have hL4:=S4 _ _ hL2;have lu:us.length≤2 * z.1.ss.length:=by
   have:=rR g9 d4;rw[ae,ae] at this;rw[this];exact labs_len _ _
  have:=A1.few;have hi:i<zs.length:=(aj.mp hz).1;apply⟨L,L2,ς,hL4,h4,(by rw[ae,ae];lia),?_⟩;have kg:∀c o,c≠L→H4 c=some o→(upd H4 L (.lst (ys.map V.ref++us.map V.ref))) c=some o:=λc o hc h=>by rw[bf hc];exact h
  have m4:ys.map H4=(allL (zs.take i)).map (λt=>some (HO.tup t)):=oG hm (λc o _ h=>S4 _ _ h) hL2;apply⟨λc o hc h=>kg _ _ hc (S4 _ _ (k2 _ _ hc h)),⟨ys++us,(by rw[ao];lia),(by rw[aP,av]),?_⟩,ρ⟩;unfold allL at m4 ⊢;rw[take_flat (λz:LX=>mK z.1.n z.1.ss) hz,av,av,oG m4 kg hL4,oG d4 kg hL4]
 ·obtain⟨k3,⟨ys,ly,hL3,hm⟩,v2,rfl⟩:=q
  rw[lz] at ly hm;rw[bG] at hm;have hD3:=k3 _ _ (cM LDL) hDf;have S5:cg H (upd H3 DL (.dK (lg zs))):=λc o e=>by
   have e1:=S0 _ _ e;have cL:c≠L:=aZ e hLn
   by_cases z:c=DL
   ·subst z;rw[I1.dl] at e1;rw[aP];exact e1
   ·rw[bf z];exact k3 _ _ cL (kf _ _ z e1)
  apply⟨DL,ob,lg zs,I1.dl,hD3,ρ,k L ys _ S5 hLn (by rw[bf LDL];exact hL3) ?_⟩;rw[←hm];apply dm λc hc=>?_
  have hm2:H3 c∈(allL zs).map (λt=>some (HO.tup t)):=by rw[←hm];exact b8 hc
  obtain⟨t,_,e⟩:=aK.mp hm2;rw[bf λz=>by rw[z,hD3] at e;cases e]
end HN
variable {zs:List HN.LX}
namespace L2
open PySem PySem.Spec PyProof.Rows
def hasK (l:List Key)(k:Key):Bool:=l.any λq=>decide (q=k)
theorem hasK_iff {l:List Key}{k:Key}:hasK l k=true↔k∈l:=by
 unfold hasK;rw[List.any_eq_true]
 constructor
 ·rintro⟨q,h,e⟩
  rw[←rQ e];exact h
 ·intro h
  exact⟨k,h,rO rfl⟩
def lN (val:Nat→Key):Nat→List Key
 | 0=>[]
 | i+1=>if hasK (lN val i) (val i)=true then lN val i else lN val i++[val i]
theorem metK_le (val:Nat→Key):∀i,(lN val i).length≤i
 | 0=>aA _
 | i+1=>by
  have:=metK_le val i;unfold lN;split
  ·lia
  ·rw[ao];show _+1≤_;lia
theorem metK_mem {val:Nat→Key}{k:Key}:∀{i:Nat},k∈lN val i↔∃j,j<i∧val j=k
 | 0=>by
  constructor
  ·intro h;cases h
  ·rintro⟨j,h,_⟩;lia
 | i+1=>by
  have ih:=metK_mem (val:=val) (k:=k) (i:=i);have e:k∈lN val (i+1)↔k∈lN val i∨val i=k:=by
   rw[lN];split
   ·rename_i h
    constructor
    ·exact .inl
    ·rintro(h' | h')
     ·exact h'
     ·rw[←h'];exact hasK_iff.mp h
   ·rw[aX,aB]
    constructor
    ·rintro(h | h)
     ·exact .inl h
     ·exact .inr h.symm
    ·rintro(h | h)
     ·exact .inl h
     ·exact .inr h.symm
  rw[e,ih]
  constructor
  ·rintro(⟨j,h,q⟩ | h)
   ·exact⟨j,⋯,q⟩
   ·exact⟨i,⋯,h⟩
  ·rintro⟨j,h,q⟩
   by_cases z:j=i
   ·subst z;exact .inr q
   ·exact .inl ⟨j,⋯,q⟩
theorem metK_nd {val:Nat→Key}:∀{n:Nat},(∀i j,i<j→j<n→val i≠val j)→(lN val n).length=n
 | 0,_=>rfl
 | n+1,h=>by
  have ih:=metK_nd (val:=val) (n:=n) λi j a b=>h i j a ⋯
  rw[lN,rK,ao,ih]
  ·rfl
  ·intro q
   obtain⟨j,hj,e⟩:=metK_mem.mp (hasK_iff.mp q);exact h j n hj ⋯ e
theorem metK_lt {val:Nat→Key}{i j:Nat}(h:i<j)(e:val i=val j):∀{n:Nat},j<n→(lN val n).length<n
 | 0,hn=>rM hn (jY _)
 | n+1,hn=>by
  have le:=metK_le val n;rw[lN];split
  ·lia
  ·rename_i q
   rw[ao];show _+1<_
   by_cases z:j=n
   ·subst z
    exact rM (hasK_iff.mpr (metK_mem.mpr ⟨i,h,e⟩)) q
   ·have:=metK_lt h e (n:=n) ⋯
    lia
section
variable {wr:List aq}{Pv:Nat→af→Prop}{St:Nat→au→Prop}
abbrev SetK (P:aN)(w:bq)(h:bP)(a:aq)(l:List Key):Prop:=h.SetOf (gU P w) a (hasK l) l.length
theorem SetK.at {h:bP}{l:List Key}(x:SetK P w h a l)(k:∀o,h.get? a=some o→h'.get? a=some o):SetK P w h' a l:=by
 obtain⟨o,es,ep,t,ho,rest⟩:=x;exact⟨o,es,ep,t,k _ ho,rest⟩
theorem upd_loop (W:WalksS P w A.in1 it fp wr G n Pv St)(S:aq)(hS:S ∉ fp)(val:Nat→Key)(hv:∀i v,Pv i v→∃x t,v= .str x t∧val i= .inr x)(hb:n+1<scanBound):∀(k i:Nat) (s:au),n - i=k→i≤n→St i s→SetK P w s.heap S (lN val i) →
  (∀s',Moved (S::wr) G s s'→SetK P w s'.heap S (lN val n)→R (.ok (.ret .none)) s')→codeAny (bC P w) A (.builtin "set.update.loop" ⟨[.ref S,.ref it],[]⟩) R s
 | 0,i,s,hk,hi,st,hs,hR=>by
  have nw:S ∉ wr:=λq=>hS (W.sub _ q)
  obtain rfl:i=n:=by lia
  apply codeAny_builtin F.entry_set_update_loop ?_;rw[cp.under_plainId nK _];apply ai (W.done s _ _ st λs' hm=>?_);exact aI (hR s' (hm.mono λb q=>aO _ q) (hs.at λo e=>hm.heap S _ nw e))
 | k+1,i,s,hk,hi,st,hs,hR=>by
  have nw:S ∉ wr:=λq=>hS (W.sub _ q)
  have up:∀b∈wr,b∈S::wr:=λb q=>aO _ q
  have hlt:i<n:=by lia
  apply codeAny_builtin F.entry_set_update_loop ?_;rw[cp.under_plainId nK _];apply ai (W.item i s _ _ hlt st λv s' hP st' hm=>?_);obtain⟨x,t,rfl,ev⟩:=hv i v hP;have hs':=hs.at (h':=s'.heap) λo e=>hm.heap S _ nw e
  show bc _ A.in1 (holding [af.str x t] (setAdd S (.str x t)) >>= _) _ _ s';apply ai (gx ?_);unfold setAdd;apply gx ?_;apply ai ((gU P w).pyHash (k:=.inr x) (nW _ _ _ _) ?_);have room:(lN val i).length+1<scanBound:=by have:=metK_le val i;lia
  apply wpAny_setAddHashed_of (knd:=gU P w) (s:={ s' with toks:=s'.toks+1 }) (nW _ _ _ _) rfl hs' room λh' sb h2=>?_
  have h3:SetK P w h' S (lN val (i+1)):=by
   have e1:(λq=>hasK (lN val i) q || decide (q=Sum.inr x))=hasK (lN val (i+1)):=funext λq=>by
    rw[lN,ev]
    by_cases z:hasK (lN val i) (Sum.inr x)=true
    ·rw[rL z]
     by_cases y:q=Sum.inr x
     ·subst y;rw[z];rfl
     ·rw[rP y,Bool.or_false]
    ·rw[rK z]
     unfold hasK;rw[List.any_append];show _=(_ || (decide (Sum.inr x=q) || false));rw[Bool.or_false,decide_eq_decide.mpr (eq_comm (a:=q) (b:=Sum.inr x))]
   have e2:(if hasK (lN val i) (Sum.inr x)=true then (lN val i).length else (lN val i).length+1)=(lN val (i+1)).length:=by
    rw[lN,ev];split
    ·rfl
    ·rw[ao];rfl
   rw[e1,e2] at h2;exact h2
  apply aI ⟨plainId_quiet nK _,upd_loop W S hS val hv hb k (i+1) _ ⋯ hlt (W.frame _ s' _ _ st' (iF _) λb q o e=>?_) h3 λs2 hm2 q2=>?_⟩
  ·rw[sb.2 b λz=>hS (by rw[←z];exact q)];exact e
  ·apply hR s2 (Moved.trans W.gtrans ((hm.mono up).then_heap (iF _) λb o q e=>?_) hm2) q2
   rw[sb.2 b λz=>q (by rw[z];exact bJ)];exact e
end
theorem set_seqS {l:aq}{its:Array af}{val:Nat→Key}
  (hh:A.handled=none) (hl:s.heap.IsTuple l its∨s.heap.IsList l its) (hv:∀(i:Nat) v,its[i]? =some v→∃x t,v= .str x t∧val i= .inr x) (hb:its.size+1<scanBound)
  (h:∀(h':bP) (tk:Nat),SetK P w h' s.heap.objs.size (lN val its.size)→(∀b o,b<s.heap.objs.size→s.heap.get? b=some o→h'.get? b=some o)→Q (.ref s.heap.objs.size) { s with heap:=h',toks:=tk }) :
  bc (bC P w) A (call (.type "set") [.ref l]) Q E s:=by
 obtain⟨c1,c2,mro1⟩:=PySem.F.called_set.mro;have made1:=PySem.F.called_set.made;have sub1:=PySem.F.called_set.sub;apply ko (codeAny_of_tree ?_);show bc _ _ (callAny (.type "set") _) _ _ _;apply aI ⟨Code.quiet_builtin _ ⇑0,codeAny_builtin PySem.F.entry_type_call ?_⟩;rw[cp.under_plain (weight_type_call_type "set" [.ref l] []) rfl];have no1:=PySem.F.called_set.notType;have can1:=PySem.F.called_set.canCreate;have ty1:=PySem.F.typeCall_set_1 (.ref l)
 repeat (any_goals (first | assumption | wp_step))
 apply jU (code_set_new_1 (.ref l) (E:=E) (Q₁:=λobj s₁=>∃led:Bool,obj= .ref s.heap.objs.size∧s₁={ s with heap:=s.heap.push { cls:=.type "set",dict:=none,data:=.set #[] 0 (.fresh 0 0 led) } }) λled=>⟨led,rfl,rfl⟩) λr s₁ hr=>?_
 cases r with
 | error e=>exact hr
 | ok fl =>
  cases fl with
  | ret obj =>
   obtain⟨led,rfl,rfl⟩:=hr;have g1:(s.heap.push { cls:=.type "set",dict:=none,data:=.set #[] 0 (.fresh 0 0 led) }).get? s.heap.objs.size=some { cls:=.type "set",dict:=none,data:=.set #[] 0 (.fresh 0 0 led) }:=aU _ rfl;have g2:au.TypeIs { s with heap:=s.heap.push { cls:=.type "set",dict:=none,data:=.set #[] 0 (.fresh 0 0 led) } } (.ref s.heap.objs.size) "set":=⟨_,g1,rfl⟩;have i1:=PySem.F.called_set.init.lookup;have i2:=PySem.F.called_set.init.bind (.ref s.heap.objs.size)
   repeat (any_goals (first | assumption | wp_step))
   apply jU (lX (R:=wants (λr s₂=>r= .none∧∃h' tk,s₂={ s with heap:=h',toks:=tk }∧SetK P w h' s.heap.objs.size (lN val its.size)∧(∀b o,b<s.heap.objs.size→s.heap.get? b=some o→h'.get? b=some o)) E) PySem.F.called_set.init.plain PySem.F.entry_set_init (check_set_init_1 g2 ?_)) λr₂ s₂ hr₂=>?_
   ·rcases hl with hl | hl
    all_goals
     obtain⟨ol,hol,hcl,nl,hdl⟩:=hl;obtain⟨ocls,odict,odata,oslots⟩:=ol;simp only at hcl hdl;subst hcl;subst hdl;have g3:=ar { cls:=.type "set",dict:=none,data:=.set #[] 0 (.fresh 0 0 led) } hol;have n1:=PySem.F.sub_tuple_set;have n4:=PySem.F.sub_list_set;have n2:=PySem.F.sub_tuple_frozenset;have n5:=PySem.F.sub_list_frozenset;have n3:(af.type "tuple" == af.type "dict")=false:=by decide
     have n6:(af.type "list" == af.type "dict")=false:=by decide
     first | have l1:(s.heap.push { cls:=.type "set",dict:=none,data:=.set #[] 0 (.fresh 0 0 led) }).IsTuple l its:=⟨_,g3,rfl,nl,rfl⟩ | have l1:(s.heap.push { cls:=.type "set",dict:=none,data:=.set #[] 0 (.fresh 0 0 led) }).IsList l its:=⟨_,g3,rfl,nl,rfl⟩
     unfold eN.«set.__init__» noKeywords eN.Frozenset.updateFrom;generalize hPI:pyIter=PI
     wp_walk
     subst hPI
     first | apply wpAny_pyIter_tuple l1 ?_ | apply gX l1 ?_
     apply ai (wpAny_runValue ?_);have lS:l<s.heap.objs.size:=aV hol;have h3:A.in1.in1.in1.handled=none:=by simp[hh]
     have nI:l≠(s.heap.push { cls:=.type "set",dict:=none,data:=.set #[] 0 (.fresh 0 0 led) }).objs.size:=by
      rw[dv];exact cz (Nat.lt_succ_of_lt lS)
     have nS:s.heap.objs.size ∉ [(s.heap.push { cls:=.type "set",dict:=none,data:=.set #[] 0 (.fresh 0 0 led) }).objs.size,l]:=by
      rw[dv];simp only[az,aB,bg,or_false,not_or];exact⟨cz (Nat.lt_succ_self _),i8 lS⟩
     first | apply upd_loop ((Walks.tuple h3 _ l nI its).toS) s.heap.objs.size nS val hv hb (its.size - 0) 0 _ ⋯ (cR _) ⟨⟨_,aU _ rfl,rfl,rfl⟩,?_⟩ ?hS0 ?hR | apply upd_loop ((Walks.list h3 _ l nI its).toS) s.heap.objs.size nS val hv hb (its.size - 0) 0 _ ⋯ (cR _) ⟨⟨_,aU _ rfl,rfl,rfl⟩,?_⟩ ?hS0 ?hR
     ·exact l1.at λo e=>ar _ e
     case hS0 =>
      exact⟨_,#[],0,_,ar _ g1,⟨rfl,rfl,rfl⟩,rfl,λe he=>by simp at he,λk=>by simp[hasK,lN],(by show 0<scanBound;unfold scanBound;lia),rfl,rfl⟩
     case hR =>
      intro s' hm hS';obtain⟨h',g',d',tk',os'⟩:=s';have eg:g'=s.gens:=hm.gens;have ed:d'=s.drawn:=hm.drawn;have eo:os'=s.os:=hm.os;subst eg;subst ed;subst eo;apply aI ?_;show bc _ _ (ret af.none) _ _ _;apply aI ⟨rfl,h',tk',rfl,hS',λb o hb e=>?_⟩;have b1:b≠s.heap.objs.size:=cz hb;have b2:b≠(s.heap.push { cls:=.type "set",dict:=none,data:=.set #[] 0 (.fresh 0 0 led) }).objs.size:=by
       rw[dv];exact cz (Nat.lt_succ_of_lt hb)
      exact hm.heap b o (by simp only[az,aB,bg,or_false,not_or];exact⟨b1,b2⟩) (ar _ (ar _ e))
   ·cases r₂ with
    | error e=>exact hr₂
    | ok fl₂ =>
     cases fl₂ with
     | ret r =>
      obtain⟨rfl,h',tk,rfl,hS',hk'⟩:=hr₂
      repeat (any_goals (first | assumption | wp_step))
      exact h _ _ hS' hk'
     | _=>exact hr₂.elim
  | _=>exact hr.elim
def pV (P:aN)(w:bq)(a:aq)(l:List Key):HO:=.ext λh=>SetK P w h a l
def ph (ns:List Str)(i:Nat):Key:=.inr (ns.getD i gr)
theorem call_setT (hc:X.calm=true):jn X (.type "set") (λxs H Q=>∃(p:aq) (ns:List Str),xs=[.ref p]∧SqT X.K H p (ns.map V.str)∧ns.length≤1000∧∀a,H a=none→Q (.ref a) (upd H a (pV X.prog X.w a (lN (ph ns) ns.length)))):=by
 intro aL s σ H xs us Q I r h;obtain⟨p,ns,rfl,hq,hn,q⟩:=h;obtain⟨u,rfl,ru⟩:=mM r;cases(show u=af.ref p from ru);obtain⟨its,rv,pl,hz⟩:=I.tuple hq;have hl:its.length=ns.length:=by rw[←rv.length,ae]
 have hl2:its.toArray.size=ns.length:=by rw[aE,hl]
 apply set_seqS (val:=ph ns) (I.ok.hd hc) (.inl pl) (λi v hv=>?_) (by rw[hl2];show ns.length+1<4096;lia) λh' tk hs hk=>?_
 ·have hv:its[i]? =some v:=by simpa using hv
  have hi:i<ns.length:=by rw[←hl];exact(aj.mp hv).1
  obtain⟨u,hu,ru⟩:=rv.get (i:=i) (x:=.str ns[i]) (by rw[ay,gE hi];rfl);rw[hv] at hu;cases hu;obtain⟨t,rfl⟩:=(show ∃t,v=af.str ns[i] t from ru);exact⟨_,t,rfl,by unfold ph;rw[br,gE hi];rfl⟩
 ·rw[hl2] at hs
  exact⟨.ref s.heap.objs.size,_,I.laid (t':=tk) (o:=pV X.prog X.w s.heap.objs.size (lN (ph ns) ns.length)) (λb u e=>hk b u (aV e) e) (aA _) ⟨hs,(let ⟨o,_,_,_,ho,_⟩:=hs;⟨o,ho⟩),λh1 h2 x k=>x.at k⟩,rfl,q _ I.fresh⟩
theorem call_lenK:jn X (.builtin "len") (λxs H Q=>∃(a:aq) (l:List Key),xs=[.ref a]∧H a=some (pV X.prog X.w a l)∧Q (.int l.length) H):=by
 intro aL s σ H xs us Q I r h;obtain⟨a,l,rfl,ha,q⟩:=h;obtain⟨u,rfl,ru⟩:=mM r;cases(show u=af.ref a from ru);obtain⟨⟨o,es,ep,t,e1,e2,e3,_,_,e4,e5,e6⟩,_,_⟩:=I.hok a _ ha;have e4:es.size<4096:=e4;apply call_len_set e1 e2 e3 e5 ⋯ ?_;rw[←e6] at q;exact⟨.int es.size,H,I.tok _,⟨ρ⟩,q⟩
end L2
namespace HN
open PySem L2 PyProof.Rows HT2
local macro_rules
 |`(tactic|and_intros)=>`(tactic|try dsimp only[cxK])
abbrev sTakeL:cN:=clsOf cPla 5
structure LinM (P:aN)(w:bq)(K:ak)(mg:Str→Option af)(base:bP)(C fi:aq)(di:aY):Prop where
 mke:Mk K C fi
 gl:mg "Line" =some (.ref C)
 f:‹0› 1 fi di pzr (spInitL C)
 b:Binds K di pzr []
structure PlaK (P:aN)(w:bq)(K:ak)(mg:Str→Option af)(base:bP)(CP CL fh fs:aq)(dh ds:aY):Prop where
 cc:PlaC K CP
 m1:rb K CP "happenings" fh
 f1:‹0› 1 fh dh pzb (spHap CP CL)
 b1:Binds K dh pzb []
 m2:rb K CP "is_small" fs
 f2:‹0› 4 fs ds pzb (spSmall CP CL)
 b2:Binds K ds pzb []
def small (zs:List LX)(bt:List Sn):Bool:=decide (mE zs≤16) && decide ((allS zs bt).length≤40)
inductive spTakeL (CP CL:aq)(vs:List V)(H:Hp)(Q:VK)(_:XK):Prop
 | mk (H0:Hp)(p q DL LB:aq)(b:Int)(zs:List LX)(bt:List Sn)(n:Str)(ss:List Str)(rs:List Int)(_:vs=[.ref p,.ref q])(_:PlI CP CL H0 H p b zs bt DL LB)(_:zs.length≤90)(_:bt.length≤90)(_:(PR.line n ss rs).at H q)(_:2≤ss.length)(_:ss.length≤1000)(_:ss.length=rs.length+1)(_:((n∈zs.map (·.1.n)∨¬ss.Nodup)→∀H',cg H H'→Q (.bl false) H'))(_:(n ∉ zs.map (·.1.n)→ss.Nodup→∀x D H',PlI CP CL H0 H' p b (zs++[(⟨n,ss,rs,[],mE zs⟩,x,D)]) bt DL LB→Q (.bl (small (zs++[(⟨n,ss,rs,[],mE zs⟩,x,D)]) bt)) H'))
theorem qB {n:Str}(h:n ∉ zs.map (·.1.n)):l9 (lg zs) (.inr n)=none:=by
 induction zs with
 | nil=>rfl
 | cons z zs ih =>
  rw[bo,az,not_or] at h;show l9 ((.inr z.1.n,.ref z.2.1)::lg zs) (.inr n)=none;rw[ji (λe=>h.1 (by injection e with e;exact e.symm))];exact ih h.2
theorem qi {z:LX}(nn:(zs.map (·.1.n)).Nodup)(h:z∈zs):l9 (lg zs) (.inr z.1.n)=some (.ref z.2.1):=by
 induction zs with
 | nil=>cases h
 | cons y zs ih =>
  rw[bo,bV] at nn;show l9 ((.inr y.1.n,.ref y.2.1)::lg zs) (.inr z.1.n)=_
  rcases az.mp h with e | e
  ·subst e;exact jC rfl
  ·rw[ji (λq=>nn.1 (by injection q with q;exact aK.mpr ⟨z,e,q.symm⟩))]
   exact ih nn.2 e
theorem putK_new {kvs:List (Key×V)}{k:Key}(h:l9 kvs k=none):putK kvs k v=kvs++[(k,v)]:=by
 unfold putK;rw[oo,h];rfl
theorem str_nd:(lN (ph ss) ss.length).length=ss.length↔ss.Nodup:=by
 constructor
 ·intro h
  apply gC.mpr λi j hi hj hij e=>?_
  have:=metK_lt (val:=ph ss) hij (by unfold ph;rw[br,br,gE hi,gE hj,e]) hj;lia
 ·intro nd
  apply metK_nd λi j hij hj e=>?_
  unfold ph at e;rw[br,br,gE (Nat.lt_trans hij hj),gE hj] at e;injection e with e
  exact(gC.mp nd) i j _ hj hij e
theorem setTK (P:aN)(w:bq)(K:ak)(hc:X.calm=true)(hP:X.prog=P:=by rfl)(hw:X.w=w:=by rfl)(hK:X.K=K:=by rfl):jn X (.type "set") (λxs H Q=>∃(p:aq) (ns:List Str),xs=[.ref p]∧SqT K H p (ns.map V.str)∧ns.length≤1000∧∀a,H a=none→Q (.ref a) (upd H a (pV P w a (lN (ph ns) ns.length)))):=by subst hP hw hK;exact call_setT hc
theorem lenSK (P:aN)(w:bq)(hP:X.prog=P:=by rfl)(hw:X.w=w:=by rfl):jn X (.builtin "len") (λxs H Q=>∃(a:aq) (l:List Key),xs=[.ref a]∧H a=some (pV P w a l)∧Q (.int l.length) H):=by subst hP hw;exact call_lenK
theorem scTakeL:cA ["self","row","name","stops"] pza (defScope sTakeL):=by trivial
theorem ok_takeL {fi fs:aq}{di ds:aY}(F:Fun K "take_line" "Plan.take_line" sTakeL f fd)(T:Nm mg)(hset:mg "set" =none)(PK:PlaK P w K mg base CP CL fh fs dh ds)(LM:LinM P w K mg base CL fi di):‹0› 5 f fd pza (spTakeL CP CL):=by
 specialize F.ok scTakeL;obtain ⟨H0,p,q,DL,LB,b,zs,bt,n,ss,rs,rfl,I,f1,f2,⟨a,b',ha,hb,hq⟩,two,few,rl,kn,ky⟩:=h;have u1:=i9 (jN (show 1≤64 by decide) _) hr.units;apply ⟨_,PSl.h (bh ⟨(psZ 2 scTakeL.nd (ixZ (pv 1)))⟩ (bh ⟨(psZ 3 scTakeL.nd (ixZ (pv 1)))⟩
  (bh ⟨(eO (PW.pt (ma (pt_cmp (pc_din u1 (pv 2) (fG (pv 0) rfl)) rfl) (kq (bK pz (bS (lenSK P w) rfl T.len aS (ah (ff (setTK P w K rfl) rfl hset boot_set (ah (pv 3) aw)) aw)) (bS bO rfl T.len aS (ah (pv 3) aw)) (cn _))))) (bD (cb qy)) cv)⟩
  (bh ⟨(ps_dput u1 (fG (pv 0) rfl) (pv 2) (pe_make LM.mke LM.f (hr.mono ↥0) rfl LM.gl LM.b .nil ju (ah (pv 2) (ah (pv 3) (ah (ixZ (pv 1)) (ah (iX (pv 0) PK.cc.cl PK.m1 PK.f1 (hr.mono ↥0) PK.b1 .nil ju) aw))))) rfl)⟩
  (fj ⟨(cb (iX (pv 0) PK.cc.cl PK.m2 PK.f2 hr PK.b2 .nil ju))⟩))))),?_⟩
 and_intros
 apply sq4 ?_
 intros
 obtain⟨dp,hp⟩:=I.pl;have CC:=PK.cc;apply⟨ρ,q,τ,zT hq,aH (j:=1) rfl,?_⟩;apply⟨ρ,q,τ,zT hq,aH (j:=2) rfl,?_⟩;apply⟨ρ,ρ,p,CP,dp,_,ρ,hp,CC.cl,CC.n2,rfl,DL,ρ,.inl ⟨_,.inr n,.inl I.dl,rfl,rfl⟩,ρ,jq (λhc=>?_) (λhc=>?_)⟩
 ·apply kn (.inl ?_) H (cg.refl H)
  apply Classical.byContradiction λno=>?_
  rw[qB no] at hc;cases hc
 have hn:n ∉ zs.map (·.1.n):=fun hm=>hc (by
  obtain ⟨z,hz,rfl⟩:=aK.mp hm;rw[qi I.nn hz];rfl)
 apply⟨ρ,a,ss,rfl,zT ha,few,λsa hsa=>?_⟩;have S1:cg H (upd H sa (pV P w sa (lN (ph ss) ss.length))):=cg.put (cg.refl H) hsa;have h1:(upd H sa (pV P w sa (lN (ph ss) ss.length))) sa=some (pV P w sa (lN (ph ss) ss.length)):=aP;generalize upd H sa (pV P w sa (lN (ph ss) ss.length))=H1 at S1 h1 ⊢;apply⟨sa,ρ,h1,ρ,a,ρ,.inr (zT (S1 _ _ ha)),rfl,ρ,jq (λhc=>?_) (λhc=>?_)⟩
 ·apply kn (.inr λnd=>?_) H1 S1
  rw[str_nd.mpr nd,ae] at hc;exact rM hc ∅
 have nd:ss.Nodup:=by
  apply str_nd.mp ?_;have hc:¬(!decide (V.int ((lN (ph ss) ss.length).length:Int)=V.int ((ss.map V.str).length:Int)))=true:=hc;rw[Bool.not_eq_true,Bool.not_eq_false'] at hc;have:=rQ hc;injection this with this
  rw[ae] at this;lia
 have I1:=I.same S1;obtain⟨dp1,hp1⟩:=I1.pl;apply⟨ρ,ρ,ρ,q,τ,zT (S1 _ _ hq),aH (j:=3) rfl,ρ,p,dp1,ρ,hp1,rfl,H0,p,DL,LB,b,zs,bt,rfl,I1,⟨⋯,⋯⟩,λH2 S2=>?_⟩;intro x dx hx hdx dxx;apply⟨x,dx,a,b',n,mE zs,rfl,aP,λD H3 k3 hD hD3 hx3=>⟨rfl,?_⟩⟩;have S12:=S1.trans S2;have I2:=I1.same S2;have e2:∀c o,H2 c=some o→H3 c=some o:=λc o e=>by
  apply k3 c o (aZ e hx) ?_;rw[bf (aZ e hx),bf (aZ e hdx)];exact e
 have S23:cg H2 H3:=λc o e=>e2 c o e
 have hD2:H2 D=none:=by
  cases e:H2 D with
  | none=>rfl
  | some o =>
   rw[bf (aZ e hx),bf (aZ e hdx),e] at hD;cases hD
 have I3:=I2.same S23;obtain⟨dp3,hp3⟩:=I3.pl;apply⟨ρ,p,CP,dp3,_,ρ,hp3,CC.cl,CC.n2,rfl,ρ,DL,ρ,.inl ⟨_,.inr n,I3.dl,rfl,?_,rfl⟩,?_⟩
 ·show(lg zs).length<ax
  unfold lg;rw[ae];have:(100000:Nat)≤ax:=by decide
  lia
 rw[putK_new (qB hn)];have ez:lg zs++[(.inr n,.ref x)]=lg (zs++[(⟨n,ss,rs,[],mE zs⟩,x,D)]):=by unfold lg;rw[av];rfl
 rw[ez];have k4:∀c o,c≠DL→H3 c=some o→(upd H3 DL (.dK (lg (zs++[(⟨n,ss,rs,[],mE zs⟩,x,D)])))) c=some o:=λc o hc e=>by rw[bf hc];exact e
 have h4:(upd H3 DL (.dK (lg (zs++[(⟨n,ss,rs,[],mE zs⟩,x,D)])))) DL=some (.dK (lg (zs++[(⟨n,ss,rs,[],mE zs⟩,x,D)]))):=aP;generalize upd H3 DL (.dK (lg (zs++[(⟨n,ss,rs,[],mE zs⟩,x,D)])))=H4 at k4 h4 ⊢;have DDL:D≠DL:=λz=>by rw[z,I2.dl] at hD2;cases hD2
 have kT:∀c xs,H3 c=some (.tup xs)→H4 c=some (.tup xs):=λc xs e=>k4 _ _ (dz e I3.dl nofun) e
 have kI:∀c C dx fs,H3 c=some (.ins C dx fs)→H4 c=some (.ins C dx fs):=λc C dx fs e=>k4 _ _ (dz e I3.dl nofun) e
 have A4:LnA H4 CL x D ⟨n,ss,rs,[],mE zs⟩:=⟨⟨dx,a,b',kI _ _ _ _ hx3,kT _ _ (e2 _ _ (S12 _ _ ha)),kT _ _ (e2 _ _ (S12 _ _ hb))⟩,⟨[],k4 _ _ DDL hD3,rfl,λz=>⟨(λv hv=>by cases hv),(λ_=>⟨rfl,∅⟩),(λhv=>by cases hv)⟩⟩,nd,two,few,rl⟩;have n0:H0 D=none:=by
  cases e:H0 D with
  | none=>rfl
  | some o=>rw[I2.S _ _ e] at hD2;cases hD2
 have I4:PlI CP CL H0 H4 p b (zs++[(⟨n,ss,rs,[],mE zs⟩,x,D)]) bt DL LB:=by
  obtain⟨ys,hB,dB⟩:=I3.lb;apply⟨λc o e=>k4 _ _ (aZ e I3.nL) (I3.S _ _ e),⟨dp3,kI _ _ _ _ hp3⟩,I3.nL,I3.nB,λz hz=>?_,h4,λz hz=>?_,?_,?_,ys,k4 _ _ (dz hB I3.dl nofun) hB,?_⟩
  ·rcases aX.mp hz with hz | hz
   ·exact I3.nD z hz
   ·rw[aB.mp hz];exact n0
  ·rcases aX.mp hz with hz | hz
   ·have A:=I3.ln z hz
    obtain⟨kvs,d1,_⟩:=A.s.ex;have nz:z.2.2≠DL:=λe=>(bV.mp I3.nd).1 (aK.mpr ⟨z,hz,e⟩)
    exact A.kept kT kI ((k4 _ _ nz d1).trans d1.symm)
   ·rw[aB.mp hz];exact A4
  ·rw[av,bV]
   obtain⟨m1,m2⟩:=bV.mp I3.nd;apply⟨λhm=>?_,List.nodup_append.mpr ⟨m2,∅,λc hc d hd e=>?_⟩⟩
   ·rcases aX.mp hm with hm | hm
    ·exact m1 hm
    ·exact DDL (aB.mp hm).symm
   ·have hd:d=D:=by simpa using hd
    subst hd;subst e;obtain⟨z,hz,ez⟩:=aK.mp hc;obtain⟨kvs,d1,_⟩:=(I2.ln z hz).s.ex;rw[ez,hD2] at d1;cases d1
  ·rw[av]
   apply List.nodup_append.mpr ⟨I3.nn,∅,λc hcc d hd e=>?_⟩;have hd:d=n:=by simpa using hd
   rw[e,hd] at hcc;exact hn hcc
  ·have fin:∀{vs:List V} {sp:List Sn},jc H3 vs (sp.map snD)→jc H4 vs (sp.map snD):=by
    intro vs sp
    induction sp generalizing vs with
    | nil=>intro h;cases h;exact .nil
    | cons x sp ih =>
     intro h;cases h with
     | cons h r =>
      obtain⟨a,us,rfl,ha,rz⟩:=h.tup_of;have ez:=jc.ints_of rz;subst ez;exact .cons (.tup (kT _ _ ha) (jc.ints _)) (ih r)
   exact fin dB
 obtain⟨dp4,hp4⟩:=I4.pl;apply⟨ρ,p,dp4,ρ,hp4,rfl,H0,p,DL,LB,b,_,bt,rfl,I4,⟨by rw[ao];show zs.length+1≤100;lia,⋯⟩,λH5 S5=>ky hn nd x D H5 (I4.same S5)⟩
abbrev sChange:cN:=top 31
abbrev sBtw:cN:=clsOf cPla 7
abbrev sTakeB:cN:=clsOf cPla 8
abbrev sTakeP:cN:=clsOf cPla 9
inductive Bt (b:Int)(x y:Ln):Str→List Str→List Int→Sn→Prop
 | change {z:Str} {l o w:Int} {i j:Nat} (h1:x.ss[i]? =some z) (h2:1≤i) (h3:y.ss[j]? =some z) (h4:j+1<y.ss.length):Bt b x y "change" [x.n,y.n,z] [l,o,w] ⟨x.fi+2 * i - 1,y.fi+2 * j,l,o,w⟩
 | apart {z:Str} {d:Int} {i j:Nat} (h1:x.ss[i]? =some z) (h2:i+1<x.ss.length) (h3:y.ss[j]? =some z) (h4:j+1<y.ss.length):Bt b x y "apart" [x.n,y.n,z] [d] ⟨x.fi+2 * i,y.fi+2 * j,d,b - d,0⟩
 | meet {z z2:Str} {d r u:Int} {i j:Nat} (h1:x.ss[i]? =some z) (h2:x.ss[i+1]? =some z2) (h3:x.rs[i]? =some r) (h4:y.ss[j]? =some z2) (h5:y.ss[j+1]? =some z) (h6:y.rs[j]? =some u):Bt b x y "meet" [x.n,y.n,z,z2] [d] ⟨x.fi+2 * i,y.fi+2 * j,r+d,b - u - d,0⟩
def Btw (b:Int)(ls:List Ln)(k:Str)(ns:List Str)(is:List Int)(sn:Sn):Prop:=∃x y:Ln,x∈ls∧y∈ls∧x.n≠y.n∧Bt b x y k ns is sn
inductive spBtw (CP CL:aq)(vs:List V)(H:Hp)(Q:VK)(_:XK):Prop
 | mk (H0:Hp)(p q DL LB:aq)(b:Int)(zs:List LX)(bt:List Sn)(k:Str)(ns:List Str)(is:List Int)(sn:Sn)(_:vs=[.ref p,.ref q])(_:PlI CP CL H0 H p b zs bt DL LB)(_:(PR.oth k ns is).at H q)(_:Btw b (zs.map (·.1)) k ns is sn)(_:∀t H',cg H H'→H' t=some (.tup [.int sn.s,.int sn.g,.int sn.l,.int sn.o,.int sn.w])→Q (.ref t) H')
def snB (b m:Int)(x:Sn):Bool:=nJ m (.int x.s) (.int x.g) && (qC b (.int x.l) (.int x.o) && inI (.int x.w) 0 1000000000000)
inductive spTakeB (CP CL:aq)(vs:List V)(H:Hp)(Q:VK)(_:XK):Prop
 | mk (H0:Hp)(p q DL LB:aq)(b:Int)(zs:List LX)(bt:List Sn)(k:Str)(ns:List Str)(is:List Int)(sn:Sn)(_:vs=[.ref p,.ref q])(_:PlI CP CL H0 H p b zs bt DL LB)(_:zs.length≤90)(_:bt.length≤90)(_:(PR.oth k ns is).at H q)(_:Btw b (zs.map (·.1)) k ns is sn)(_:∀H',PlI CP CL H0 H' p b zs (bt++[sn]) DL LB→Q (.bl (snB b (mE zs) sn && small zs (bt++[sn]))) H')
theorem LnA.ok {x:aq}(A:LnA H C x D l):LnOk H C x l.ss l.rs l.fi:=⟨⟨D,l.n,A.d⟩,A.nd,A.two,A.few,A.rl⟩
theorem scChange:cA pzt pzt (defScope sChange):=by trivial
theorem scBtw:cA ["self","row","one","other"] pza (defScope sBtw):=by trivial
theorem sn_at {t:aq}{x:Sn}(h:H t=some (.tup [.int x.s,.int x.g,.int x.l,.int x.o,.int x.w]))(b m:Int):mO H b m (.ref t)=snB b m x:=by
 simp only[mO,h];rfl
theorem sn_g1 {t:aq}{x:Sn}(h:H t=some (.tup [.int x.s,.int x.g,.int x.l,.int x.o,.int x.w])):G1 H (.ref t):=by
 apply⟨⟨"tuple",by simp only[tyn,h]⟩,λa xs ev ha x hx=>?_⟩;injection ev with ev
 subst ev;rw[h] at ha;injection ha with ha
 injection ha with ha
 subst ha;simp only[az,bg,or_false] at hx
 rcases hx with rfl | rfl | rfl | rfl | rfl <;> exact⟨"int",rfl⟩
theorem scTakeB:cA ["self","row","span"] pza (defScope sTakeB):=by trivial
theorem ok_takeB {fb fs:aq}{db ds:aY}(F:Fun K "take_between" "Plan.take_between" sTakeB f fd)(PK:PlaK P w K mg base CP CL fh fs dh ds)(mb:rb K CP "span_between" fb)(FB:‹0› 3 fb db pza (spBtw CP CL))(bb:Binds K db pza [])
  (GS:Fn K mg "is_span" sSpan pzi f1 d1) (FS:‹0› 4 f1 d1 pzi rg):‹0› 5 f fd pza (spTakeB CP CL):=by
 specialize F.ok scTakeB;obtain ⟨H0,p,q,DL,LB,b,zs,bt,k,ns,is,sn,rfl,I,f1,f2,hq,B,kk⟩:=h;have CC:=PK.cc;apply ⟨_,PSl.h (bh ⟨(psZ 2 scTakeB.nd (iD (pv 0) CC.cl mb FB (hr.mono ↥0) bb .nil ju (ah (pv 1) aw)))⟩
  (bh ⟨(hW (jQ bu bN bM gp (fG (pv 0) rfl) (ah (pv 2) aw)))⟩
  (fj ⟨(cb (mQ (pc1 GS FS hr (ah (fG (pv 0) rfl) (ah (iX (pv 0) CC.cl PK.m1 PK.f1 (hr.mono ↥0) PK.b1 .nil ju) (ah (pv 2) aw)))) (nP (iX (pv 0) CC.cl PK.m2 PK.f2 hr PK.b2 .nil ju))))⟩))),?_⟩
 and_intros
 apply sq2 ?_
 intros
 obtain⟨dp,hp⟩:=I.pl;have big:(100000:Nat)≤ax:=by decide
 apply⟨ρ,p,dp,ρ,hp,rfl,ρ,H0,p,q,DL,LB,b,zs,bt,k,ns,is,sn,rfl,I,hq,B,λt H1 S1 ht=>?_⟩;have I1:=I.same S1;obtain⟨dp1,hp1⟩:=I1.pl;obtain⟨ys,hB,dB⟩:=I1.lb;have ly:ys.length=bt.length:=by have:=dB.length;rwa [ae] at this
 apply⟨ρ,p,CP,dp1,_,ρ,hp1,CC.cl,CC.n3,rfl,.inl ⟨rfl,_,zL hB⟩,ρ,LB,ς,hB,⋯,?_⟩;have k2:∀c o,c≠LB→H1 c=some o→(upd H1 LB (.lst (ys++[.ref t]))) c=some o:=λc o hc e=>by rw[bf hc];exact e
 have h2:(upd H1 LB (.lst (ys++[.ref t]))) LB=some (.lst (ys++[.ref t])):=aP;generalize upd H1 LB (.lst (ys++[.ref t]))=H2 at k2 h2 ⊢;have ht2:=k2 _ _ (dz ht hB nofun) ht;have I2:PlI CP CL H0 H2 p b zs (bt++[sn]) DL LB:=by
  apply⟨λc o e=>k2 _ _ (aZ e I1.nB) (I1.S _ _ e),⟨dp1,k2 _ _ (dz hp1 hB nofun) hp1⟩,I1.nL,I1.nB,I1.nD,k2 _ _ (dz I1.dl hB nofun) I1.dl,λz hz=>?_,I1.nd,I1.nn,_,h2,?_⟩
  ·have A:=I1.ln z hz
   obtain⟨kvs,d1,_⟩:=A.s.ex;exact A.kept (λb xs e=>k2 _ _ (dz e hB nofun) e) (λb C dx fs e=>k2 _ _ (dz e hB nofun) e) ((k2 _ _ (dz d1 hB nofun) d1).trans d1.symm)
  ·rw[av]
   exact(me dB k2 hB).append (jc.one (snD_at ht2))
 obtain⟨dp2,hp2⟩:=I2.pl;have fw:Few zs (bt++[sn]):=⟨⋯,by rw[ao];show bt.length+1≤100;lia⟩;apply⟨ρ,p,CP,dp2,_,ρ,hp2,CC.cl,CC.n1,rfl,ρ,p,dp2,ρ,hp2,rfl,H0,p,DL,LB,b,zs,ρ,I2,fw,λH3 S3=>?_⟩;have ht3:=S3 _ _ ht2;apply⟨ρ,b,mE zs,ρ,sn_g1 ht3,ρ,?_⟩;rw[sn_at ht3];apply jq (λhc=>?_) (λhc=>?_)
 ·have I3:=I2.same S3
  obtain⟨dp3,hp3⟩:=I3.pl;apply⟨ρ,p,dp3,ρ,hp3,rfl,H0,p,DL,LB,b,zs,ρ,I3,fw,λH4 S4=>?_⟩;have e:=kk H4 (I3.same S4);rw[hc,kZ] at e;exact e
 ·have e:=kk H3 (I2.same S3)
  have hc:snB b (mE zs) sn=false:=by simpa using hc
  rw[hc,km] at e;exact e
abbrev sTakeS:cN:=clsOf cPla 6
def Ln.stay (x:Ln)(z:Str)(v:Int×Int×Int):Ln:={ x with st:=x.st++[(z,v)] }
def jH (n z:Str)(v:Int×Int×Int)(x:Ln):Ln:=if x.n=n then x.stay z v else x
def stayX (n z:Str)(v:Int×Int×Int)(x:LX):LX:=(jH n z v x.1,x.2)
theorem pY (n z:Str)(v:Int×Int×Int)(x:Ln):(jH n z v x).n=x.n:=by unfold jH;split <;> rfl
theorem stayAt_rs (n z:Str)(v:Int×Int×Int)(x:Ln):(jH n z v x).rs=x.rs:=by unfold jH;split <;> rfl
theorem sty_snoc {st:List (Str×Int×Int×Int)}{v:Int×Int×Int}(h:z ∉ st.map (·.1))(y:Str):sty (st++[(z,v)]) y=if y=z then v else sty st y:=by
 unfold sty;rw[List.find?_append]
 by_cases e:y=z
 ·subst e
  rw[rL rfl];have:st.find? (λp=>decide (p.1=y))=none:=by
   rw[List.find?_eq_none];intro p hp;have:p.1≠y:=λz=>h (aK.mpr ⟨p,hp,z⟩)
   simp[this]
  rw[this];simp
 ·rw[rK e]
  have:[(z,v)].find? (λp=>decide (p.1=y))=none:=by simp[cM e]
  rw[this];simp
theorem linK_stay (n z:Str)(v:Int×Int×Int)(zs:List LX):lg (zs.map (stayX n z v))=lg zs:=by
 unfold lg;rw[b9];apply dm λx _=>?_
 show(Sum.inr (jH n z v x.1).n,V.ref x.2.1)=_;rw[pY]
theorem hapN_stay (n z:Str)(v:Int×Int×Int)(zs:List LX):mE (zs.map (stayX n z v))=mE zs:=by
 unfold mE;rw[b9];congr 1;apply dm λx _=>?_
 show 2 * (((jH n z v x.1).rs.length:Nat):Int)=_;rw[stayAt_rs]
inductive spTakeS (CP CL:aq)(vs:List V)(H:Hp)(Q:VK)(_:XK):Prop
 | mk (H0:Hp)(p q DL LB:aq)(b:Int)(zs:List LX)(bt:List Sn)(x:LX)(z:Str)(l o w:Int)(i:Nat)(_:vs=[.ref p,.ref q])(_:PlI CP CL H0 H p b zs bt DL LB)(_:Few zs bt)(_:H q=some (.tup [.str "stay",.str x.1.n,.str z,.int l,.int o,.int w]))(_:x∈zs)(_:z ∉ x.1.st.map (·.1))(_:x.1.st.length≤1000)(_:x.1.ss[i]? =some z)(_:1≤i)(_:i+1<x.1.ss.length)(_:∀H',PlI CP CL H0 H' p b (zs.map (stayX x.1.n z (l,o,w))) bt DL LB→Q (.bl (snB b (mE zs) ⟨x.1.fi+2 * i - 1,x.1.fi+2 * i,l,o,w⟩)) H')
theorem scTakeS:cA ["self","row","line","stop"] pza (defScope sTakeS):=by trivial
abbrev sPlanBy:cN:=top 35
abbrev sNetBy:cN:=top 36
def ib (ls:List Ln):Int:=(ls.map λl=>2 * (l.rs.length:Int)).sum
def pW (ls:List Ln)(bt:List Sn):List Sn:=ls.flatMap oz++bt
def allLL (ls:List Ln):List (List V):=ls.flatMap λl=>mK l.n l.ss
def lM (ls:List Ln)(bt:List Sn):Bool:=decide (ib ls≤16) && decide ((pW ls bt).length≤40)
theorem og (zs:List LX):mE zs=ib (zs.map (·.1)):=by unfold mE ib;rw[b9];rfl
theorem allSL_of (zs:List LX)(bt:List Sn):allS zs bt=pW (zs.map (·.1)) bt:=by unfold allS pW;rw[List.flatMap_map]
theorem allLL_of (zs:List LX):allL zs=allLL (zs.map (·.1)):=by unfold allL allLL;rw[List.flatMap_map]
theorem ou (zs:List LX)(bt:List Sn):small zs bt=lM (zs.map (·.1)) bt:=by unfold small lM;rw[og,allSL_of]
inductive Tk (b:Int):List Ln→List Sn→PR→List Ln→List Sn→Prop
 | beat {ls:List Ln} {bt:List Sn} {b':Int} (h:1≤b'):Tk b ls bt (.beat b') ls bt
 | line {ls:List Ln} {bt:List Sn} {n:Str} {ss:List Str} {rs:List Int} (hn:n ∉ ls.map (·.n)) (nd:ss.Nodup) (two:2≤ss.length) (few:ss.length≤1000) (rl:ss.length=rs.length+1) (sm:lM (ls++[⟨n,ss,rs,[],ib ls⟩]) bt=true):Tk b ls bt (.line n ss rs) (ls++[⟨n,ss,rs,[],ib ls⟩]) bt
 | btw {ls:List Ln} {bt:List Sn} {k:Str} {ns:List Str} {is:List Int} {sn:Sn} (B:Btw b ls k ns is sn) (h1:k ≠ "beat") (h2:k ≠ "line") (h3:k ≠ "stay") (ok:snB b (ib ls) sn=true) (sm:lM ls (bt++[sn])=true):Tk b ls bt (.oth k ns is) ls (bt++[sn])
 | stay {ls:List Ln} {bt:List Sn} {x:Ln} {z:Str} {l o w:Int} {i:Nat} (hx:x∈ls) (hz:z ∉ x.st.map (·.1)) (few:x.st.length≤1000) (h1:x.ss[i]? =some z) (h2:1≤i) (h3:i+1<x.ss.length) (ok:snB b (ib ls) ⟨x.fi+2 * i - 1,x.fi+2 * i,l,o,w⟩=true):Tk b ls bt (.oth "stay" [x.n,z] [l,o,w]) (ls.map (jH x.n z (l,o,w))) bt
inductive Runs (b:Int):List Ln→List Sn→List PR→List Ln→List Sn→Prop
 | nil {ls:List Ln} {bt:List Sn}:Runs b ls bt [] ls bt
 | cons {ls l1 l2:List Ln} {bt b1 b2:List Sn} {r:PR} {rs:List PR} (h:Tk b ls bt r l1 b1) (t:Runs b l1 b1 rs l2 b2):Runs b ls bt (r::rs) l2 b2
inductive qp (CP CL:aq)(vs:List V)(H:Hp)(Q:VK)(_:XK):Prop
 | mk (H0:Hp)(p q DL LB:aq)(b:Int)(zs:List LX)(bt bt':List Sn)(ls':List Ln)(r:PR)(_:vs=[.ref p,.ref q])(_:PlI CP CL H0 H p b zs bt DL LB)(_:zs.length≤90)(_:bt.length≤90)(_:r.at H q)(_:Tk b (zs.map (·.1)) bt r ls' bt')(_:∀zs' H',zs'.map (·.1)=ls'→zs'.length≤zs.length+1→bt'.length≤bt.length+1→PlI CP CL H0 H' p b zs' bt' DL LB→Q (.bl true) H')
structure PlaT (P:aN)(w:bq)(K:ak)(mg:Str→Option af)(base:bP)(CP CL fi ft fa fl:aq)(di dt da dl:aY):Prop where
 mke:Mk K CP fi
 gl:mg "Plan" =some (.ref CP)
 f0:‹0› 1 fi di pzs (spInitP CP)
 b0:Binds K di pzs []
 mT:rb K CP "take" ft
 fT:‹0› 6 ft dt pza (qp CP CL)
 bT:Binds K dt pza []
 mA:rb K CP "all_spans" fa
 fA:‹0› 3 fa da pzb (spAllS CP CL)
 bA:Binds K da pzb []
 mL:rb K CP "all_labels" fl
 fL:‹0› 2 fl dl pzb (spAllL CP CL)
 bL:Binds K dl pzb []
def vD:V→Dt
 | .str s=>.str s
 | _=>.non
theorem oM (n:Str):∀(ss:List Str),∀t∈mK n ss,∃a b c:Str,t=[.str a,.str b,.str c]
 | [],t,h=>by cases h
 | [_],t,h=>by cases h
 | s::u::r,t,h=>by
  rcases az.mp h with e | h
  ·exact⟨_,_,_,e⟩
  ·rcases az.mp h with e | h
   ·exact⟨_,_,_,e⟩
   ·exact oM n (u::r) t h
theorem labs_isD {H:Hp}:∀{as:List aq} {ts:List (List V)},as.map H=ts.map (λt=>some (HO.tup t))→(∀t∈ts,∃a b c:Str,t=[.str a,.str b,.str c])→jc H (as.map V.ref) (ts.map λt=>.tup (t.map vD))
 | [],[],_,_=>.nil
 | [],_::_,h,_=>by cases h
 | _::_,[],h,_=>by cases h
 | a::as,t::ts,h,q=>by
  rw[bo,bo] at h;injection h with h1 h2
  obtain⟨x,y,z,rfl⟩:=q t bJ;exact .cons (.tup h1 (.cons (.str _) (.cons (.str _) (.cons (.str _) .nil)))) (labs_isD h2 λt ht=>q t (aO _ ht))
theorem scTakeP:cA pza pza (defScope sTakeP):=by trivial
theorem qd:cA ["rows","plan","number","row"] ["rows"] (defScope sPlanBy):=by trivial
theorem scNetBy:cA ["text","plan","net"] pzg (defScope sNetBy):=by trivial
end HN
namespace HN
open PySem L2 PyProof.Rows
local macro_rules
 |`(tactic|and_intros)=>`(tactic|try dsimp only[cxK])
inductive spCell (K:ak)(vs:List V)(H:Hp)(Q:VK)(_:XK):Prop
 | mk (a:aq)(ns:List Int)(k:Int)(_:vs=[.ref a,.int k])(_:SqL K H a (ns.map V.int))(_:0≤k)(_:∀c:Int,Q (.int c) H)
theorem oU {xs:List α}{r:Int}(h0:0≤r)(h1:r<xs.length):∃v,atI xs r=some v∧v∈xs:=by
 obtain⟨j,rfl⟩:=cU h0;have hj:j<xs.length:=by lia
 exact⟨xs[j],aH (gE hj),cu hj⟩
theorem log_ok {m:Int}(h0:0<m)(h:m<10 ^ 61):0<m∧m.natAbs.log2<9000:=by
 apply⟨h0,?_⟩;have h1:m.natAbs<2 ^ 300:=by
  have:(10:Nat) ^ 61<2 ^ 300:=by trivial
  have h2:m.natAbs<10 ^ 61:=by lia
  exact Nat.lt_trans h2 this
 have h3:m.natAbs≠0:=by lia
 have:=(Nat.log2_lt h3).mpr h1;lia
def Mv (p:aq)(H H':Hp):Prop:=(∀b o,b≠p→H b=some o→H' b=some o)∧∃n,H' p=some (.lst [.int n])
theorem Mv.trans (a:Mv p H H1)(b:Mv p H1 H2):Mv p H H2:=⟨λc o hc e=>b.1 c o hc (a.1 c o hc e),b.2⟩
theorem Mv.new (a:Mv p H H1)(hq:H1 q=none):Mv p H (upd H1 q o):=by
 obtain⟨n,hn⟩:=a.2;exact⟨λc u hc e=>by rw[bf (aZ (a.1 c u hc e) hq)];exact a.1 c u hc e,n,by rw[bf (aZ hn hq)];exact hn⟩
theorem Mv.at (a:Mv p H H1)(h:H q=some o)(hne:q≠p):H1 q=some o:=a.1 q o hne h
theorem Mv.then (a:Mv p H H1)(S:cg H1 H2):Mv p H H2:=⟨λc o hc e=>S _ _ (a.1 c o hc e),by obtain⟨n,hn⟩:=a.2;exact⟨n,S _ _ hn⟩⟩
theorem Mv.of {n:Int}(S:cg H H1)(h:H1 p=some (.lst [.int n])):Mv p H H1:=⟨λc o _ e=>S _ _ e,n,h⟩
theorem Mv.ne (a:Mv p H H1)(hq:H1 q=none):q≠p:=λz=>by obtain⟨n,hn⟩:=a.2;rw[z,hn] at hq;cases hq
theorem cg.mv (e:cg H H1)(hp:H p=none)(m:Mv p H1 H2):cg H H2:=λb o q=>m.1 b o (λz=>by rw[z,hp] at q;cases q) (e b o q)
inductive nM (vs:List V)(H:Hp)(Q:VK)(_:XK):Prop
 | mk (p n m:_)(_:vs=[.ref p,.int m])(_:H p=some (.lst [.int n]))(_:0<m)(_:m<10 ^ 61)(_:∀r H',0≤r→r<m→Mv p H H'→Q (.int r) H')
inductive spMix (vs:List V)(H:Hp)(Q:VK)(_:XK):Prop
 | mk (c k:_)(_:vs=[.int c,.int k])(_:0≤k)(_:k≤1000)(_:∀n,Q (.int n) H)
inductive spPotT (K:ak)(vs:List V)(H:Hp)(Q:VK)(_:XK):Prop
 | mk (a:aq)(ns:List Int)(k:Int)(_:vs=[.ref a,.int k])(_:SqL K H a (ns.map V.int))(_:0≤k)(_:k≤100)(_:∀n p,H p=none→Q (.ref p) (upd H p (.lst [.int n])))
abbrev sCell:cN:=top 38
abbrev sMix:cN:=top 39
abbrev sPotT:cN:=top 40
abbrev qu:cN:=top 41
theorem scCell:cA pze pze (defScope sCell):=by trivial
theorem ok_cell (F:Fun K "_law_cell_at" "_law_cell_at" sCell f fd)(T:Nm mg):‹0› 1 f fd pze (spCell K):=by
 specialize F.ok scCell;obtain⟨a,ns,j,rfl,ha,hj,k⟩:=h;apply⟨_,cZ (eO (bK pA (pv 1) (bS bO rfl T.len aS (ah (pv 0) aw)) (cn _)) (bD (cb (cE aW (pv 0) (pv 1) (λ_ _=>rfl)))) cv) (bD (cb aC)),?_⟩
 and_intros
 apply sq1 ?_
 intros
 apply⟨ρ,ρ,a,ρ,.inl ha,ς,ρ,?_⟩;apply jq (λh1=>?_) (λh1=>?_)
 ·have h1:j<((ns.map V.int).length:Int):=rQ h1
  obtain⟨v,e1,e2⟩:=oU hj h1;obtain⟨c,_,rfl⟩:=aK.mp e2;exact⟨ρ,ρ,a,τ,ha,e1,k c⟩
 ·exact k 0
theorem scTake:cA ["_law_pot_here","_law_most","_law_number"] pzd (defScope qu):=by trivial
theorem mB (F:Fun K "_law_take" "_law_take" qu f fd):‹0› 1 f fd pzd nM:=by
 specialize F.ok scTake;obtain ⟨p,n,m,rfl,hp,h0,h1,k⟩:=h;apply ⟨_,cZ (psZ 2 scTake.nd (cw pP (cE aW (pv 0) aC (fun _ _=>rfl)) (pv 1)))
  (cZ (ps_asg (cw op_fdivB (cE aW (pv 0) aC (fun _ _=>rfl)) (pv 1)) (pg_sub (pv 0) aC set_list)) (bD (cb (pv 2)))),?_⟩
 and_intros
 apply sq2 ?_
 intros
 apply⟨ρ,p,τ,zL hp,aH (j:=0) rfl,ρ,ς,h0,?_⟩;apply⟨ρ,p,τ,zL hp,aH (j:=0) rfl,ρ,ς,log_ok h0 h1,?_⟩;apply⟨ρ,p,_,_,0,rfl,rfl,hp,rfl,?_⟩;apply⟨ρ,k _ _ (Int.emod_nonneg _ ⋯) (Int.emod_lt_of_pos _ h0) ⟨λb o hb e=>by rw[bf hb];exact e,n / m,aP⟩⟩
theorem scMix:cA ["_law_cell","_law_k","_law_number"] pzy (defScope sMix):=by trivial
theorem ok_mix (F:Fun K "_law_mixed" "_law_mixed" sMix f fd):‹0› 1 f fd pzy spMix:=by
 specialize F.ok scMix;obtain ⟨c,j,rfl,j0,j1,k⟩:=h;apply ⟨_,PSl.h (bh ⟨(psZ 2 scMix.nd (cw pP (cw kz (cw dZ (cw dZ (cw pP (pv 0) aC) (cw kz aC (pv 1))) aC) aC) aC))⟩
  (bh ⟨(psZ 2 scMix.nd (cw pP (cw dZ (cw dZ (cw kz (pv 2) (pv 2)) (cw kz aC (pv 1))) aC) aC))⟩
  (fj ⟨(cb (cw pP (cw kz (pv 2) aC) aC))⟩))),?_⟩
 and_intros
 apply sq2 ?_
 intros
 apply⟨ρ,ς,(by show(0:Int)<2147483629;decide),ρ,ς,.inl ⟨↥0,↥0⟩,ς,ς,ς,.inr ⟨↥0,↥0⟩,ς,(by show(0:Int)<2147483647;decide),?_⟩;apply⟨ρ,ρ,ς,.inl ?_,ρ,ς,.inl ⟨↥0,↥0⟩,ς,ς,ς,(by show(0:Int)<2147483587;decide),?_⟩
 ·have h1:=Int.emod_nonneg ((c % 2147483629+7919 * j+1) * 48271) (by decide:(2147483647:Int)≠0)
  have h2:=Int.emod_lt_of_pos ((c % 2147483629+7919 * j+1) * 48271) (by decide:(0:Int)<2147483647);exact⟨⋯,⋯⟩
 ·exact⟨ρ,ς,.inr ⟨↥0,↥0⟩,ς,(by show(0:Int)<2147483629;decide),k _⟩
theorem scPotT:cA ["_law_script","_law_k","_law_cell","_law_number","_law_j"] pze (defScope sPotT):=by trivial
theorem ok_potT (F:Fun K "_law_pot" "_law_pot" sPotT f fd)(T:Nm mg)(T2:Nt mg)(G1:Fn K mg "_law_cell_at" sCell pze f1 fd1)(G2:Fn K mg "_law_mixed" sMix pzy f2 fd2):‹0› 2 f fd pze (spPotT K):=by
 have F1:‹0› 1 f1 fd1 pze (spCell K):=ok_cell G1.F T;have F2:‹0› 1 f2 fd2 pzy spMix:=ok_mix G2.F;specialize F.ok scPotT;obtain ⟨a,ns,j,rfl,ha,j0,j1,k⟩:=h;apply ⟨_,PSl.h (bh ⟨(psZ 2 scPotT.nd (pc1 G1 F1 hr (ah (pv 0) (ah (pv 1) aw))))⟩
  (bh ⟨(eO (bK iM (cw pP (pc1 G1 F1 hr (ah (pv 0) (ah aC aw))) aC) aC (cn _)) (bD (cb (kL (ah (pv 2) aw)))) cv)⟩
  (bh ⟨(psZ 3 scPotT.nd aC)⟩
  (bh ⟨(iC bX rfl (ku rfl T2.range (ah aC aw)) (pgZ 4 scPotT.nd) (bD (psZ 3 scPotT.nd (cw dZ (cw kz (pv 3) aC) (pc1 G2 F2 hr (ah (pv 2) (ah (cw dZ (pv 1) (cw kz aC (pv 4))) aw)))))))⟩
  (fj ⟨(cb (kL (ah (pv 3) aw)))⟩))))),?_⟩
 and_intros
 apply sq4 ?_
 intros
 apply⟨ρ,ρ,a,ns,j,rfl,ha,j0,λc=>?_⟩;apply⟨ρ,a,ns,0,rfl,ha,↥0,λc0=>⟨ς,(by show(0:Int)<2;decide),rfl,ρ,?_⟩⟩;apply jq (λ_=>?_) (λ_=>?_)
 ·exact⟨ρ,szZ1,λp hp=>k _ p hp⟩
 ·apply⟨9,rfl,↥0,↥0,mm (n:=9) (λi σ H2=>H2=H∧∃n vj,σ=[some (.ref a),some (.int j),some (.int c),some (.int n),vj]) ⟨rfl,0,none,rfl⟩ ?_ ?_⟩
  ·rintro i σ H2 hi ⟨rfl,n,vj,rfl⟩
   apply⟨ρ,ς,.inr ⟨↥0,↥0⟩,ρ,ρ,ρ,ς,.inl ⟨↥0,↥0⟩,ς,c,ρ,⋯,⋯,λn2=>⟨ς,?_⟩⟩;exact⟨rfl,_,ρ⟩
  ·rintro σ H2 ⟨rfl,n,vj,rfl⟩
   exact⟨ρ,szZ1,λp hp=>k _ p hp⟩
end HN
namespace HN
open PySem L2 PyProof.Rows HT2
local macro_rules
 |`(tactic|and_intros)=>`(tactic|try dsimp only[cxK])
abbrev sTxt:cN:=top 49
def wdS (v:V):Str:=(strV v).getD gr
def rp (r:List V):Str:=jB sp_ (r.map wdS)
structure jM (H:Hp)(xs:List V)(rows:List (List V)):Prop where
 len:xs.length=rows.length
 get:∀(i:Nat) (r:List V),rows[i]? =some r→∃a:aq,xs[i]? =some (V.ref a)∧H a=some (.lst r)
def WdOk (v:V):Prop:=(∃z,strV v=some z∧z.length≤100)∧∀i,v= .int i→W60 i
def planT (b:Int)(rows:List (List V)):Str:=jB nl_ ((("beat " :Str)++lH b)::rows.map rp)
theorem rowW_len {r:List V}(h:∀v∈r,WdOk v)(hl:r.length≤60):(rp r).length≤7000:=by
 unfold rp;have e:jB sp_ (r.map wdS)=gW sp_ (r.map wdS):=gu _ _;rw[e];have go:∀ys:List Str,(∀y∈ys,y.length≤100)→(gW sp_ ys).length≤ys.length * 101:=by
  intro ys
  induction ys with
  | nil=>intro _;decide +kernel
  | cons y ys ih =>
   intro hy;cases ys with
   | nil =>
    show y.length≤_;have:=hy y ∅;simp only[aG,gQ];lia
   | cons z ys =>
    rw[nr,nZ,nZ];have h1:=hy y ∅;have h2:=ih λx hx=>hy x (aO _ hx)
    have h3:(sp_:Str).length=1:=by trivial
    rw[h3];simp only[aG] at h2 ⊢;lia
 have:=go (r.map wdS) λy hy=>by
  obtain⟨v,hv,rfl⟩:=aK.mp hy;obtain⟨⟨z,e,l⟩,_⟩:=h v hv;unfold wdS;rw[e];exact l
 rw[ae] at this;lia
inductive spTxt (vs:List V)(H:Hp)(Q:VK)(_:XK):Prop
 | mk (b:Int)(L:aq)(xs:List V)(rows:List (List V))(_:vs=[.int b,.ref L])(_:W60 b)(_:H L=some (.lst xs))(_:jM H xs rows)(_:rows.length≤70)(_:(∀r∈rows,r.length≤60∧∀v∈r,WdOk v))(_:∀H',cg H H'→Q (.str (planT b rows)) H')
theorem scTxt:cA ["_law_beat","_law_rows","_law_texts","_law_row"] pzf (defScope sTxt):=by trivial
theorem ok_txt (F:Fun K "_law_text" "_law_text" sTxt f fd)(ht:mg "str" =none):‹0› 1 f fd pzf spTxt:=by
 specialize F.ok scTxt;obtain ⟨b,L,xs,rows,rfl,hb,hL,R,few,all,k⟩:=h;apply ⟨_,PSl.h (bh ⟨(psZ 2 scTxt.nd (kL (ah (cw op_add_str dU (ff pR rfl ht boot_str (ah (pv 0) aw))) aw)))⟩
  (bh ⟨(iC bX rfl (gK (pv 1)) (pgZ 3 scTxt.nd) (bD (hW (jQ bu bN bM gp (pv 2) (ah (jQ fW PySem.F.slot_str_join PySem.F.type_str_join mt_join dU (ah (jP (fr:=[]) (js:=[]) rfl (gK (pv 3)) ⇑0 rfl ⇑0 rfl (by exists sTxt) ⇑0 rfl ⇑0 (fun _ _ _ _ _=>⟨(ff call_strA rfl ht boot_str (ah (pv 0) aw)),j7⟩)) aw)) aw)))))⟩
  (fj ⟨(cb (jQ fW PySem.F.slot_str_join PySem.F.type_str_join mt_join dU (ah (pv 2) aw)))⟩))),?_⟩
 and_intros
 apply sq2 ?_
 intros
 have big:(1000000:Nat)≤ax:=by decide
 have lh:(("beat " :Str)++lH b).length≤65:=by
  rw[nZ];have:=mD hb;have h5:("beat " :Str).length=5:=by trivial
  lia
 apply⟨ρ,b,rfl,log_60 hb,ς,?_,szZ1,λM hM=>?_⟩
 ·have:=mD hb
  have h5:("beat " :Str).length=5:=by trivial
  show("beat " :Str).length+(lH b).length≤_;lia
 have S0:cg H (upd H M (.lst [.str (("beat " :Str)++lH b)])):=cg.put (cg.refl H) hM;have hM0:(upd H M (.lst [.str (("beat " :Str)++lH b)])) M=some (.lst (((("beat " :Str)++lH b)::(rows.take 0).map rp).map V.str)):=by rw[aP];rfl
 apply⟨ρ,L,rfl,⟨_,zL (S0 _ _ hL)⟩,?_⟩;have ML:L≠M:=aZ hL hM;have kx:∀c o,H c=some o→(upd H M (.lst [.str (("beat " :Str)++lH b)])) c=some o:=λc o e=>S0 _ _ e
 change ∃W,_
 generalize hH0:upd H M (.lst [.str (("beat " :Str)++lH b)])=H0 at S0 hM0;have hH0':upd H M (.lst [.str (bU "beat " ++ toString b)])=H0:=hH0
 let pZ1:zV:=λi σ H2=>(∀c o,c≠M→H0 c=some o→H2 c=some o)∧H2 M=some (.lst (((("beat " :Str)++lH b)::(rows.take i).map rp).map V.str))∧∃v3,σ=[some (.int b),some (.ref L),some (.ref M),v3]
 apply jT (K:=K) (a:=L) (xs:=xs) pZ1
  ⟨λc o _ h=>(by rw[←hH0] at h;exact h),(by rw[←hH0] at hM0;exact hM0),none,rfl⟩ (λi σ H2 _ q=>zL (q.1 _ _ ML (S0 _ _ hL))) ?_ ?_
 ·rintro i x σ H2 hx ⟨k2,hM2,v3,rfl⟩
  have li:i<rows.length:=by rw[←R.len];exact(aj.mp hx).1
  obtain⟨r,hr'⟩:∃r,rows[i]? =some r:=⟨_,gE li⟩;obtain⟨a,ha,har⟩:=R.get i r hr';rw[hx] at ha;cases ha;obtain⟨lr,hw⟩:=all r (aD hr');have aM:a≠M:=aZ har hM;have ha2:=k2 _ _ aM (S0 _ _ har);apply⟨ρ,.inl ⟨rfl,_,zL hM2⟩,rfl,ρ,a,rfl,⟨_,zL ha2⟩,?_⟩
  let pZ2:zW:=λj zs H3=>H3=H2∧zs=((r.take j).map wdS).map V.str
  apply ic (K:=K) (a:=a) (xs:=r) pZ2 ⟨rfl,rfl⟩ (λj zs H3 hj q=>?_) ⋯ (λj v zs H3 hv q=>?_) (λzs H3 q D hD=>?_)
  ·obtain⟨rfl,g2⟩:=q
   exact⟨zL ha2,by rw[g2,ae,ae,aJ];lia⟩
  ·obtain⟨rfl,g2⟩:=q
   obtain⟨⟨z,ez,lz⟩,hi⟩:=hw v (aD hv);apply jj ?_;apply⟨ρ,v,z,rfl,ez,λi e=>log_60 (hi i e),rfl,?_⟩;rw[g2,aQ,hv,av,av];show _=_++[V.str (wdS v)];unfold wdS;rw[ez];rfl
  ·obtain⟨rfl,g2⟩:=q
   rw[bG] at g2;have S4:cg H3 (upd H3 D (.lst zs)):=cg.put (cg.refl _) hD;have hD4:(upd H3 D (.lst zs)) D=some (.lst ((r.map wdS).map V.str)):=by rw[aP,g2]
   generalize upd H3 D (.lst zs)=H4 at S4 hD4 ⊢;apply⟨_,D,ρ,rfl,zL hD4,⇑0,?_,?_⟩
   ·have:=sum_le (λx:Str=>x.length) 100 (r.map wdS) λy hy=>by
     obtain⟨v,hv,rfl⟩:=aK.mp hy;obtain⟨⟨z,e,l⟩,_⟩:=hw v hv;unfold wdS;rw[e];exact l
    rw[ae] at this;rw[ae];have:r.length * 100≤60 * 100:=Nat.mul_le_mul_right _ lr;lia
   have hM4:=S4 _ _ hM2;apply⟨M,ς,hM4,(by simp only[ae,aG,aJ];lia),?_⟩;apply⟨λc o hc e=>by rw[bf hc];exact S4 _ _ (k2 _ _ hc e),?_,ρ⟩;rw[aP,aQ,hr',av];show some (HO.lst (_++[V.str (rp r)]))=_;rw[←List.cons_append,av];rfl
 ·rintro σ H2 ⟨k2,hM2,v3,rfl⟩
  rw[R.len,bG] at hM2;apply⟨rfl,ρ,_,M,ρ,rfl,zL hM2,⇑0,?_,k H2 λc o e=>k2 c o (aZ e hM) (S0 _ _ e)⟩;have:=sum_le (λx:Str=>x.length) 7000 ((("beat " :Str)++lH b)::rows.map rp) λy hy=>by
   rcases az.mp hy with e | hy
   ·subst e;lia
   ·obtain⟨r,hr,rfl⟩:=aK.mp hy
    exact rowW_len (all r hr).2 (all r hr).1
  simp only[aG,ae] at this ⊢;have:(rows.length+1) * 7000≤71 * 7000:=Nat.mul_le_mul_right _ ⋯;lia
def WOk (v:V):Prop:=(∃z,v= .str z∧nam z=true)∨∃i,v= .int i∧W60 i
theorem nam_len (h:nam z=true):1≤z.length∧z.length≤8:=by
 unfold nam at h;rw[bW,bW] at h;exact⟨rQ h.1,rQ h.2.1⟩
theorem nam_cps (h:nam z=true):∀c∈z.cps.toList,97≤c∧c≤122:=by
 unfold nam at h;rw[bW,bW,jF] at h;exact λc hc=>rQ (h.2.2 c hc)
theorem WOk.wd (h:WOk v):WdOk v:=by
 rcases h with ⟨z,rfl,hz⟩ | ⟨i,rfl,hi⟩
 ·exact⟨⟨z,rfl,by have:=nam_len hz;lia⟩,λi e=>by cases e⟩
 ·exact⟨⟨lH i,rfl,by have:=mD hi;lia⟩,λj e=>by cases e;exact hi⟩
theorem WOk.free (h:WOk v){c:Nat}(hc:c<48):c ∉ (wdS v).cps.toList:=by
 rcases h with ⟨z,rfl,hz⟩ | ⟨i,rfl,hi⟩
 ·intro m
  have:=nam_cps hz c m;lia
 ·exact qA hi hc
theorem rowW_split {r:List V}(h:∀v∈r,WOk v)(hne:r≠[]):c8 (rp r) sp_=r.map wdS:=by
 unfold rp;rw[sp_eq];apply o9 (λz=>hne (List.map_eq_nil_iff.mp z)) λp hp=>?_
 obtain⟨v,hv,rfl⟩:=aK.mp hp;exact(h v hv).free ↥0
theorem rowW_free {r:List V}(h:∀v∈r,WOk v):10 ∉ (rp r).cps.toList:=λm=>by
 unfold rp at m;rw[sp_eq,show jB ⟨#[32]⟩ (r.map wdS)=gW ⟨#[32]⟩ (r.map wdS) from gu _ _] at m
 rcases join_mem m with e | ⟨y,hy,m2⟩
 ·cases e
 ·obtain⟨v,hv,rfl⟩:=aK.mp hy
  exact(h v hv).free ↥0 m2
theorem beat_two (b:Int):("beat " :Str)++lH b=jB sp_ ["beat",lH b]:=by
 rw[show jB sp_ ["beat",lH b]=gW sp_ ["beat",lH b] from gu _ _,nr];show _=("beat" :Str)++sp_++lH b;rw[show("beat " :Str)=("beat" :Str)++sp_ by trivial]
theorem beat_split (hb:W60 b):c8 (("beat " :Str)++lH b) sp_=[("beat" :Str),lH b]:=by
 rw[beat_two,sp_eq];apply o9 ∅ λp hp=>?_
 simp only[az,bg,or_false] at hp
 rcases hp with rfl | rfl
 ·decide +kernel
 ·exact qA hb ↥0
theorem beat_free (hb:W60 b):10 ∉ (("beat " :Str)++lH b).cps.toList:=by
 rw[cps_app];intro m
 rcases aX.mp m with m | m
 ·revert m;decide +kernel
 ·exact qA hb ↥0 m
theorem planT_split {rows:List (List V)}(hb:W60 b)(h:∀r∈rows,∀v∈r,WOk v):c8 (planT b rows) nl_=(("beat " :Str)++lH b)::rows.map rp:=by
 unfold planT;rw[nl_eq];apply o9 ∅ λp hp=>?_
 rcases az.mp hp with rfl | hp
 ·exact beat_free hb
 ·obtain⟨r,hr,rfl⟩:=aK.mp hp
  exact rowW_free (h r hr)
theorem join_len {c:Str}(hc:c.length=1){m:Nat}:∀ys:List Str,(∀y∈ys,y.length≤m)→(gW c ys).length≤ys.length * (m+1)
 | [],_=>by show 0≤_;lia
 | [y],hy=>by
  show y.length≤_;have:=hy y ∅;simp only[aG,gQ];lia
 | y::z::ys,hy=>by
  rw[nr,nZ,nZ,hc];have h1:=hy y ∅;have h2:=join_len hc (z::ys) λx hx=>hy x (aO _ hx)
  have e:(y::z::ys).length * (m+1)=(z::ys).length * (m+1)+(m+1):=by rw[aG,Nat.succ_mul]
  lia
theorem rowW_len2 {r:List V}(h:∀v∈r,WOk v)(hl:r.length≤12):(rp r).length≤1220:=by
 unfold rp;rw[show jB sp_ (r.map wdS)=gW sp_ (r.map wdS) from gu _ _];have:=join_len (c:=sp_) ⇑0 (m:=100) (r.map wdS) λy hy=>by
  obtain⟨v,hv,rfl⟩:=aK.mp hy;obtain⟨⟨z,e,l⟩,_⟩:=(h v hv).wd;unfold wdS;rw[e];exact l
 rw[ae] at this;lia
theorem planT_len2 {rows:List (List V)}(hb:W60 b)(h:∀r∈rows,r.length≤12∧∀v∈r,WOk v)(few:rows.length≤70):(planT b rows).length≤100000:=by
 unfold planT;rw[show jB nl_ (((("beat " :Str)++lH b))::rows.map rp)=gW nl_ (((("beat " :Str)++lH b))::rows.map rp) from gu _ _];have:=join_len (c:=nl_) ⇑0 (m:=1220) ((("beat " :Str)++lH b)::rows.map rp) λy hy=>by
  rcases az.mp hy with rfl | hy
  ·rw[nZ]
   have:=mD hb;have h5:("beat " :Str).length=5:=by trivial
   lia
  ·obtain⟨r,hr,rfl⟩:=aK.mp hy
   exact rowW_len2 (h r hr).2 (h r hr).1
 simp only[aG,ae] at this;have:(rows.length+1) * (1220+1)≤71 * (1220+1):=Nat.mul_le_mul_right _ ⋯;lia
theorem snB_of {m:Int}{x:Sn}(s0:0≤x.s)(s1:x.s<m)(g0:0≤x.g)(g1:x.g<m)(ne:x.s≠x.g)(l0:0≤x.l)(lo:x.l≤x.o)(ob:x.o<x.l+b)(o60:x.o<10 ^ 60)(w0:0≤x.w)(w1:x.w≤1000000000000):snB b m x=true:=by
 have inn:∀i lo hi:Int,lo≤i→i≤hi→inI (.int i) lo hi=true:=λi lo hi h1 h2=>by
  show(decide (lo≤i) && decide (i≤hi))=true;rw[rO h1,rO h2];rfl
 unfold snB;have e1:nJ m (.int x.s) (.int x.g)=true:=by
  unfold nJ;rw[inn x.s 0 (m - 1) s0 ⋯,inn x.g 0 (m - 1) g0 ⋯,rP (λz=>ne (by injection z))];rfl
 have e2:qC b (.int x.l) (.int x.o)=true:=by
  show(inI (.int x.l) 0 B60 && inI (.int x.o) x.l (if B60<x.l+b - 1 then B60 else x.l+b - 1))=true;rw[inn x.l 0 B60 l0 (by unfold B60;lia),inn x.o x.l _ lo (by split <;> (unfold B60 at *;lia))];rfl
 rw[e1,e2,inn x.w 0 1000000000000 w0 w1];rfl
def iR:List Str→List Int→List V
 | s::ss,r::rs=>.str s:: .int r::iR ss rs
 | s::_,[]=>[.str s]
 | [],_=>[]
def PR.rowV:PR→List V
 | .beat b=>[.str "beat",.int b]
 | .line n ss rs=>.str "line" :: .str n::iR ss rs
 | .oth k ns is=>.str k::(ns.map V.str++is.map V.int)
theorem jD:∀{ss:List Str} {rs:List Int},ss.length=rs.length+1→(iR ss rs).length=2 * ss.length - 1
 | [],_,h=>by simp at h
 | [_],[],_=>rfl
 | _::_::_,[],h=>by simp at h
 | s::ss,r::rs,h=>by
  have hl:ss.length=rs.length+1:=by simpa using h
  show(iR ss rs).length+1+1=_;rw[jD hl,aG];lia
theorem qG:∀{ss:List Str} {rs:List Int} (i:Nat),ss.length=rs.length+1→(iR ss rs)[2 * i]? =(ss[i]?).map V.str
 | [],_,_,h=>by simp at h
 | [_],[],0,_=>rfl
 | [_],[],i+1,_=>rfl
 | _::_::_,[],_,h=>by simp at h
 | s::ss,r::rs,0,_=>rfl
 | s::ss,r::rs,i+1,h=>by
  have hl:ss.length=rs.length+1:=by simpa using h
  show(V.str s:: .int r::iR ss rs)[2 * i+1+1]? =_;rw[aT,aT,qG i hl,aT]
theorem qY {P:List α→Prop}(h0:P [])(h1:∀l a,P l→P (l++[a]))(l:List α):P l:=by
 have go:∀m:List α,P m.reverse:=by
  intro m
  induction m with
  | nil=>exact h0
  | cons a m ih=>rw[List.reverse_cons];exact h1 _ _ ih
 have:=go l.reverse
 rwa [List.reverse_reverse] at this
def Ln.core (x:Ln):Ln:={ x with st:=[] }
def oq (ls:List Ln):PR→List Ln
 | .line n ss rs=>ls++[⟨n,ss,rs,[],ib ls⟩]
 | .oth k [n,z] [l,o,w]=>if k = "stay" then ls.map (jH n z (l,o,w)) else ls
 | _=>ls
def iq (rs:List PR):List Ln:=rs.foldl oq []
def oZ (ls:List Ln):PR→List Ln
 | .line n ss rs=>ls++[⟨n,ss,rs,[],ib ls⟩]
 | _=>ls
def lsC (rs:List PR):List Ln:=rs.foldl oZ []
def PR.isL:PR→Bool
 | .line _ _ _=>true
 | _=>false
theorem kB (rs:List PR)(r:PR):iq (rs++[r])=oq (iq rs) r:=by unfold iq;rw[kh];rfl
theorem gf (rs:List PR)(r:PR):lsC (rs++[r])=oZ (lsC rs) r:=by unfold lsC;rw[kh];rfl
theorem stepC_no (h:r.isL=false):oZ ls r=ls:=by
 cases r with
 | line=>cases h
 | _=>rfl
theorem lsC_ins {a c:List PR}(h:r.isL=false):lsC (a++r::c)=lsC (a++c):=by
 unfold lsC;rw[kh,kh,List.foldl_cons,stepC_no h]
theorem mj (ls:List Ln):ib (ls.map Ln.core)=ib ls:=by unfold ib;rw[b9];rfl
theorem stay_core (n z:Str)(v:Int×Int×Int)(x:Ln):(jH n z v x).core=x.core:=by unfold jH;split <;> rfl
theorem stepL_c {C:List Ln→Prop}(ls:List Ln)(r:PR)(h1:∀n ss rs,r= .line n ss rs→C (ls++[⟨n,ss,rs,[],ib ls⟩]))(h2:∀n z l o w,r= .oth "stay" [n,z] [l,o,w]→C (ls.map (jH n z (l,o,w))))(h3:(∀n ss rs,r≠ .line n ss rs)→C ls):C (oq ls r):=by
 cases r with
 | beat b=>exact h3 (by intros;intro e;cases e)
 | line n ss rs=>exact h1 n ss rs rfl
 | oth k ns is =>
  have h4:C ls:=h3 (by intros;intro e;cases e);clear h3 h1
  rcases ns with _ | ⟨n,_ | ⟨z,_ | ⟨y,ns⟩⟩⟩
  ·exact h4
  ·exact h4
  ·rcases is with _ | ⟨l,_ | ⟨o,_ | ⟨w,_ | ⟨u,is⟩⟩⟩⟩
   ·exact h4
   ·exact h4
   ·exact h4
   ·show C (if k = "stay" then _ else _)
    by_cases hk:k = "stay"
    ·rw[rL hk];subst hk;exact h2 n z l o w rfl
    ·rw[rK hk];exact h4
   ·exact h4
  ·exact h4
theorem stepL_no (ls:List Ln){k:Str}(hk:k ≠ "stay")(ns:List Str)(is:List Int):oq ls (.oth k ns is)=ls:=
 stepL_c (C:=λx=>x=ls) ls _ (λ_ _ _ e=>by cases e) (λ_ _ _ _ _ e=>by cases e;exact rM rfl hk) λ_=>rfl
theorem step_core (ls:List Ln)(r:PR):(oq ls r).map Ln.core=oZ (ls.map Ln.core) r:=by
 apply stepL_c (C:=λx=>x.map Ln.core=oZ (ls.map Ln.core) r) ls r (λn ss rs e=>?_) (λn z l o w e=>?_) (λh=>?_)
 ·subst e
  rw[av];show _=ls.map Ln.core++[_];rw[mj];rfl
 ·subst e
  rw[b9];exact dm λx _=>stay_core _ _ _ x
 ·cases r with
  | line n ss rs=>exact rM rfl (h n ss rs)
  | _=>rfl
theorem eS (rs:List PR):(iq rs).map Ln.core=lsC rs:=by
 have go:∀(rs:List PR) (ls:List Ln),(rs.foldl oq ls).map Ln.core=rs.foldl oZ (ls.map Ln.core):=by
  intro rs
  induction rs with
  | nil=>intro ls;rfl
  | cons r rs ih =>
   intro ls;rw[List.foldl_cons,List.foldl_cons,ih,step_core]
 exact go rs []
def PR.lnOk:PR→Prop
 | .line n ss rs=>nam n=true∧(∀s∈ss,nam s=true)∧ss.Nodup∧2≤ss.length∧ss.length≤5∧ss.length=rs.length+1∧∀r∈rs,0≤r∧r<10 ^ 60
 | _=>False
def PR.sty2:PR→Option (Str×Str)
 | .oth k [n,z] _=>if k = "stay" then some (n,z) else none
 | _=>none
def stz (rs:List PR):List (Str×Str):=rs.filterMap PR.sty2
def NumOk (b l o w:Int):Prop:=0≤l∧l≤o∧o<l+b∧o<10 ^ 60∧0≤w∧w≤1000000000000
def StOk (b:Int)(pre:List PR)(ns:List Str)(is:List Int):Prop:=∃(x:Ln) (z:Str) (l o w:Int) (i:Nat),x∈lsC pre∧ns=[x.n,z]∧is=[l,o,w]∧x.ss[i]? =some z∧1≤i∧i+1<x.ss.length∧(x.n,z) ∉ stz pre∧NumOk b l o w
def BwOk (b:Int)(pre:List PR)(k:Str)(ns:List Str)(is:List Int):Prop:=∃sn:Sn,Btw b (lsC pre) k ns is sn∧NumOk b sn.l sn.o sn.w∧∀i∈is,W60 i
def lB (b:Int)(pre:List PR):PR→Prop
 | .beat _=>False
 | .line n ss rs=>n ∉ (lsC pre).map (·.n)∧(PR.line n ss rs).lnOk
 | .oth k ns is=>(k = "stay" ∧StOk b pre ns is)∨(k ≠ "stay" ∧BwOk b pre k ns is)
def gJ (b:Int)(rows:List PR):Prop:=∀i r,rows[i]? =some r→lB b (rows.take i) r
theorem lB.more {a c:List PR}{q:PR}(hr:r.isL=false)(hs:∀p,q.sty2=some p→r.sty2≠some p)(h:lB b (a++c) q):lB b (a++r::c) q:=by
 cases q with
 | beat b'=>exact h
 | line n ss rs =>
  obtain⟨h1,h2⟩:=h;exact⟨by rw[lsC_ins hr];exact h1,h2⟩
 | oth k ns is =>
  rcases h with ⟨rfl,x,z,l,o,w,i,h1,rfl,rfl,h2,h3,h4,h5,h6⟩ | ⟨hk,sn,h1,h2⟩
  ·apply .inl ⟨rfl,x,z,l,o,w,i,by rw[lsC_ins hr];exact h1,rfl,rfl,h2,h3,h4,λm=>h5 ?_,h6⟩
   unfold stz at m ⊢;rw[eZ,gT] at m;rw[eZ];have ne:=hs (x.n,z) (by unfold PR.sty2;exact rL rfl);cases e:r.sty2 with
   | none=>rw[e] at m;exact m
   | some p =>
    rw[e] at m ne
    rcases aX.mp m with m | m
    ·exact cq _ m
    ·rcases az.mp m with m | m
     ·exact rM (rR some m.symm) ne
     ·exact bz _ m
  ·exact .inr ⟨hk,sn,by rw[lsC_ins hr];exact h1,h2⟩
theorem gJ.ins {b:Int}{rows:List PR}{r:PR}{m:Nat}(h:gJ b rows)(hm:m≤rows.length)(hr:r.isL=false)(ok:lB b (rows.take m) r)(hs:∀p,r.sty2=some p→p ∉ stz rows):gJ b (rows.take m++r::rows.drop m):=by
 have lt:(rows.take m).length=m:=by rw[aJ];lia
 intro i q hq
 rcases Nat.lt_trichotomy i m with c | c | c
 ·rw[bI ⋯,cF c] at hq
  have:=h i q hq
  rwa [iU ⋯,List.take_take,du ⋯]
 ·subst c
  rw[aR ⋯,lt,fu,List.getElem?_cons_zero] at hq;cases hq
  rwa [iU ⋯,List.take_take,Nat.min_self]
 ·obtain⟨j,rfl⟩:∃j,i=m+1+j:=⟨i - m - 1,⋯⟩
  rw[aR ⋯,lt,show m+1+j - m=j+1 by lia,aT,cY] at hq;have o:=h (m+j) q hq;have e:(rows.take m++r::rows.drop m).take (m+1+j)=rows.take m++r::(rows.drop m).take j:=by
   rw[List.take_append,lt,show m+1+j - m=j+1 by lia,bR ⋯,List.take_succ_cons]
  have e2:rows.take (m+j)=rows.take m++(rows.drop m).take j:=by rw[List.take_add]
  rw[e];rw[e2] at o;apply o.more hr λp hp e3=>hs p e3 ?_
  unfold stz;exact ia.mpr ⟨q,aD hq,hp⟩
theorem lsC_mem:∀{rs:List PR} {x:Ln},x∈lsC rs→PR.line x.n x.ss x.rs∈rs∧x.st=[]:=by
 intro rs
 induction rs using qY with
 | h0=>intro x h;cases h
 | h1 rs r ih =>
  intro x h;rw[gf] at h;cases r with
  | line n ss rs' =>
   rcases aX.mp h with h | h
   ·obtain⟨a,b⟩:=ih h
    exact⟨cq _ a,b⟩
   ·rw[aB.mp h]
    exact⟨bz _ (aB.mpr rfl),rfl⟩
  | beat b=>obtain⟨a,b⟩:=ih h;exact⟨cq _ a,b⟩
  | oth k ns is=>obtain⟨a,b⟩:=ih h;exact⟨cq _ a,b⟩
theorem hapL_nn (ls:List Ln):0≤ib ls:=by
 unfold ib
 induction ls with
 | nil=>simp
 | cons x ls ih=>rw[bo,fe];lia
theorem lp (ls:List Ln)(x:Ln):ib (ls++[x])=ib ls+2 * (x.rs.length:Int):=by unfold ib;simp
structure Lay (ls:List Ln):Prop where
 in_:∀x∈ls,0≤x.fi∧x.fi+2 * (x.rs.length:Int)≤ib ls
 ap:∀x∈ls,∀y∈ls,x.n≠y.n→x.fi+2 * (x.rs.length:Int)≤y.fi∨y.fi+2 * (y.rs.length:Int)≤x.fi
theorem lay_C (rs:List PR):Lay (lsC rs):=by
 induction rs using qY with
 | h0=>exact⟨(λx h=>by cases h),(λx h=>by cases h)⟩
 | h1 rs r ih =>
  rw[gf];cases r with
  | line n ss rs' =>
   show Lay (lsC rs++[⟨n,ss,rs',[],ib (lsC rs)⟩]);have nn:=hapL_nn (lsC rs);apply⟨λx hx=>?_,λx hx y hy ne=>?_⟩
   ·rw[lp]
    rcases aX.mp hx with hx | hx
    ·have:=ih.in_ x hx
     dsimp only
     lia
    ·rw[aB.mp hx]
     dsimp only
     lia
   ·rcases aX.mp hx with hx | hx
    ·rcases aX.mp hy with hy | hy
     ·exact ih.ap x hx y hy ne
     ·rw[aB.mp hy]
      have:=ih.in_ x hx
      dsimp only
      lia
    ·rw[aB.mp hx]
     rcases aX.mp hy with hy | hy
     ·have:=ih.in_ y hy
      dsimp only
      lia
     ·rw[aB.mp hx,aB.mp hy] at ne
      exact rM rfl ne
  | beat b=>exact ih
  | oth k ns is=>exact ih
theorem gJ.take {rows:List PR}(h:gJ b rows)(m:Nat):gJ b (rows.take m):=λi r hr=>by
 have hi:i<m:=by
  by_cases c:i<m
  ·exact c
  ·rw[eX (by rw[aJ];lia)] at hr;cases hr
 rw[cF hi] at hr;rw[List.take_take,du ⋯];exact h i r hr
theorem gJ.lnOk {rows:List PR}(h:gJ b rows){x:Ln}(hx:x∈lsC rows):(PR.line x.n x.ss x.rs).lnOk:=by
 obtain⟨i,hi⟩:=cP (lsC_mem hx).1;exact(h i _ hi).2
theorem gJ.nd {rows:List PR}(h:gJ b rows):((lsC rows).map (·.n)).Nodup:=by
 have go:∀m,m≤rows.length→((lsC (rows.take m)).map (·.n)).Nodup:=by
  intro m
  induction m with
  | zero=>intro _;exact List.nodup_nil
  | succ m ih =>
   intro hm;have e:=gE (show m<rows.length by lia);rw[aQ,e];show((lsC (rows.take m++[rows[m]])).map (·.n)).Nodup;rw[gf];have o:=h m _ e;generalize rows[m]=r at o;cases r with
   | line n ss rs =>
    show((lsC (rows.take m)++[(⟨n,ss,rs,[],ib (lsC (rows.take m))⟩:Ln)]).map (·.n)).Nodup;rw[av];apply List.nodup_append.mpr ⟨ih ⋯,∅,λa ha b hb=>?_⟩;have:b=n:=by simpa using hb
    rw[this];exact λz=>o.1 (z ▸ ha)
   | beat b=>exact ih ⋯
   | oth k ns is=>exact ih ⋯
 have:=go rows.length (aA _)
 rwa [bG] at this
theorem ownS_len (h:l.ss.length=l.rs.length+1):(oz l).length+1=2 * l.rs.length∨l.rs.length=0:=by
 have go:∀k,k<l.rs.length→(ownN l k).length=2 * k:=by
  intro k
  induction k with
  | zero=>intro _;rfl
  | succ k ih =>
   intro hk;rw[jR,ao,ih ⋯];unfold stp;rw[rL ⋯];rfl
 cases e:l.rs.length with
 | zero=>exact .inr rfl
 | succ k =>
  left
  show(ownN l l.rs.length).length+1=_;rw[e,jR,ao,go k ⋯];unfold stp;rw[rK ⋯];rfl
def PR.spn:PR→Nat
 | .line _ _ rs=>2 * rs.length - 1
 | .oth k _ _=>if k = "stay" then 0 else 1
 | _=>0
def lZ (rows:List PR):Nat:=(rows.map PR.spn).sum
def PR.bwn:PR→Nat
 | .oth k _ _=>if k = "stay" then 0 else 1
 | _=>0
def bwP (rows:List PR):Nat:=(rows.map PR.bwn).sum
def ownL (ls:List Ln):Nat:=(ls.map λl=>2 * l.rs.length - 1).sum
theorem ownL_core (ls:List Ln):ownL (ls.map Ln.core)=ownL ls:=by unfold ownL;rw[b9];rfl
theorem own_C (rows:List PR):ownL (lsC rows)+bwP rows=lZ rows:=by
 induction rows using qY with
 | h0=>rfl
 | h1 rs r ih =>
  rw[gf];unfold lZ bwP at *;rw[av,av,jb,jb];cases r with
  | line n ss rs' =>
   show ownL (lsC rs++[_])+_=_;have e:∀x:Ln,ownL (lsC rs++[x])=ownL (lsC rs)+(2 * x.rs.length - 1):=λx=>by unfold ownL;rw[av,jb];simp
   rw[e];show ownL (lsC rs)+(2 * rs'.length - 1)+(_+(0+0))=_+((2 * rs'.length - 1)+0);lia
  | beat b=>show ownL (lsC rs)+(_+(0+0))=_+(0+0);lia
  | oth k ns is=>show ownL (lsC rs)+(_+((if k = "stay" then 0 else 1)+0))=_+((if k = "stay" then 0 else 1)+0);lia
theorem allS_len (h:∀l∈ls,l.ss.length=l.rs.length+1∧1≤l.rs.length):(pW ls bt).length=ownL ls+bt.length:=by
 unfold pW ownL;rw[ao];congr 1
 induction ls with
 | nil=>rfl
 | cons l ls ih =>
  rw[List.flatMap_cons,ao,bo,fe,ih λx hx=>h x (aO _ hx)];have:=h l bJ
  rcases ownS_len this.1 with e | e <;> lia
theorem spnP_snoc (rs:List PR)(r:PR):lZ (rs++[r])=lZ rs+r.spn:=by unfold lZ;simp
theorem oT (rs:List PR)(r:PR):bwP (rs++[r])=bwP rs+r.bwn:=by unfold bwP;simp
theorem spnP_take (rs:List PR)(m:Nat):lZ (rs.take m)≤lZ rs:=by
 have e:lZ rs=lZ (rs.take m)+lZ (rs.drop m):=by
  conv=>lhs;rw[←eW m rs]
  unfold lZ;rw[av,jb]
 lia
theorem hap_take (rs:List PR)(m:Nat):ib (lsC (rs.take m))≤ib (lsC rs):=by
 have go:∀(c a:List PR),ib (lsC a)≤ib (lsC (a++c)):=by
  intro c
  induction c with
  | nil=>intro a;rw[bY];exact j6 _
  | cons r c ih =>
   intro a;have:=ih (a++[r]);rw[cG] at this;apply Int.le_trans ?_ this;rw[gf];cases r with
   | line n ss rs=>show _≤ib (lsC a++[_]);rw[lp];dsimp only;lia
   | beat b=>exact j6 _
   | oth k ns is=>exact j6 _
 have:=go (rs.drop m) (rs.take m)
 rwa [eW] at this
theorem st_told:∀{rs:List PR} {x:Ln},x∈iq rs→(∀z∈x.st.map (·.1),(x.n,z)∈stz rs)∧x.st.length≤rs.length:=by
 intro rs
 induction rs using qY with
 | h0=>intro x h;cases h
 | h1 rs r ih =>
  intro x h;have up:∀p,p∈stz rs→p∈stz (rs++[r]):=λp hp=>by unfold stz;rw[eZ];exact cq _ hp
  have le:(rs++[r]).length=rs.length+1:=by simp
  have old:∀x∈iq rs,(∀z∈x.st.map (·.1),(x.n,z)∈stz (rs++[r]))∧x.st.length≤(rs++[r]).length:=λx hx=>by
   obtain⟨a,b⟩:=ih hx;exact⟨λz hz=>up _ (a z hz),⋯⟩
  rw[kB] at h;revert h;apply stepL_c (C:=λy=>x∈y→(∀z∈x.st.map (·.1),(x.n,z)∈stz (rs++[r]))∧x.st.length≤(rs++[r]).length) (iq rs) r (λn ss rs' e h=>?_) (λn z l o w e h=>?_) (λ_ h=>old x h)
  ·rcases aX.mp h with h | h
   ·exact old x h
   ·rw[aB.mp h]
    exact⟨(λz hz=>by cases hz),cR _⟩
  ·subst e
   obtain⟨y,hy,rfl⟩:=aK.mp h;obtain⟨a,b⟩:=old y hy;obtain⟨a',b'⟩:=ih hy;unfold jH;split
   ·next en =>
    apply⟨λz' hz=>?_,by show(y.st++[_]).length≤_;rw[ao,le];simp;lia⟩;have hz:z'∈(y.st++[(z,l,o,w)]).map (·.1):=hz;rw[av] at hz
    rcases aX.mp hz with hz | hz
    ·exact a z' hz
    ·have:z'=z:=by simpa using hz
     subst this;show(y.n,z')∈_;rw[en];unfold stz;rw[eZ];apply bz _ (ia.mpr ⟨_,aB.mpr rfl,?_⟩);show(if ("stay" :Str) = "stay" then some (n,z') else none)=_;rw[rL rfl]
   ·exact⟨a,b⟩
structure PlanOk (b:Int)(rows:List PR):Prop where
 b1:1≤b
 ok:gJ b rows
 hap:ib (lsC rows)≤16
 spn:lZ rows≤40
 few:rows.length≤70
 ne:lsC rows≠[]
theorem bt_core {x y:Ln}{k:Str}(B:Bt b x.core y.core k ns is sn):Bt b x y k ns is sn:=by
 cases B with
 | change h1 h2 h3 h4=>exact .change (x:=x) (y:=y) h1 h2 h3 h4
 | apart h1 h2 h3 h4=>exact .apart (x:=x) (y:=y) h1 h2 h3 h4
 | meet h1 h2 h3 h4 h5 h6=>exact .meet (x:=x) (y:=y) h1 h2 h3 h4 h5 h6
theorem bt_ends {x y:Ln}{k:Str}(B:Bt b x y k ns is sn)(rx:x.ss.length=x.rs.length+1)(ry:y.ss.length=y.rs.length+1):(x.fi≤sn.s∧sn.s<x.fi+2 * (x.rs.length:Int))∧y.fi≤sn.g∧sn.g<y.fi+2 * (y.rs.length:Int):=by
 have lt:∀{xs:List Str} {i:Nat} {z:Str},xs[i]? =some z→i<xs.length:=λh=>(aj.mp h).1
 cases B with
 | change h1 h2 h3 h4=>have:=lt h1;dsimp only;lia
 | apart h1 h2 h3 h4=>dsimp only;lia
 | meet h1 h2 h3 h4 h5 h6=>have:=lt h2;have:=lt h5;dsimp only;lia
theorem bt_kind {x y:Ln}{k:Str}(B:Bt b x y k ns is sn):k ≠ "beat" ∧k ≠ "line" ∧k ≠ "stay":=by
 cases B <;> decide +kernel
theorem runs_of {b:Int}(hb:1≤b):∀(suf pre:List PR) (bt:List Sn),gJ b (pre++suf)→ib (lsC (pre++suf))≤16→lZ (pre++suf)≤40→(pre++suf).length≤70→bt.length=bwP pre→∃bt',Runs b (iq pre) bt suf (iq (pre++suf)) bt'∧bt'.length=bwP (pre++suf)
 | [],pre,bt,_,_,_,_,hl=>⟨bt,by rw[bY];exact .nil,by rw[bY];exact hl⟩
 | r::suf,pre,bt,ok,hh,hs,hn,hl=>by
  have ea:pre++r::suf=pre++[r]++suf:=by simp
  have e1:(pre++r::suf).take (pre.length+1)=pre++[r]:=by rw[ea];exact gP ∅
  have e0:(pre++r::suf).take pre.length=pre:=gP rfl;have o:lB b pre r:=by
   have:=ok pre.length r (by rw[aR (aA _),fu];rfl)
   rwa [e0] at this
  have ok0:gJ b pre:=by have:=ok.take pre.length;rwa [e0] at this
  have ok1:gJ b (pre++[r]):=by have:=ok.take (pre.length+1);rwa [e1] at this
  have h1:ib (lsC (pre++[r]))≤16:=by have:=hap_take (pre++r::suf) (pre.length+1);rw[e1] at this;lia
  have s1:lZ (pre++[r])≤40:=by have:=spnP_take (pre++r::suf) (pre.length+1);rw[e1] at this;lia
  have lok:∀{rs:List PR},gJ b rs→∀l∈iq rs,l.ss.length=l.rs.length+1∧1≤l.rs.length:=λ{rs} ok l hl=>by
   have m:l.core∈lsC rs:=by rw[←eS];exact b8 hl
   obtain⟨_,_,_,a,_,c,_⟩:=ok.lnOk m;have a:2≤l.ss.length:=a;have c:l.ss.length=l.rs.length+1:=c;exact⟨c,⋯⟩
  have small:∀{bt1:List Sn},bt1.length=bwP (pre++[r])→lM (iq (pre++[r])) bt1=true:=λ{bt1} hb1=>by
   unfold lM;have c1:ib (iq (pre++[r]))≤16:=by rw[←mj,eS];exact h1
   have c2:(pW (iq (pre++[r])) bt1).length≤40:=by
    rw[allS_len (lok ok1),hb1,←ownL_core,eS,own_C];exact s1
   rw[rO c1,rO c2];rfl
  have hapO:ib (iq pre)=ib (lsC pre):=by rw[←mj,eS]
  have lay:=lay_C pre;have step:∃bt1,Tk b (iq pre) bt r (iq (pre++[r])) bt1∧bt1.length=bwP (pre++[r]):=by
   cases r with
   | beat b'=>exact rM o id
   | line n ss rs =>
    obtain⟨o1,o2,o3,o4,o5,o6,o7,o8⟩:=o;have hb1:bt.length=bwP (pre++[.line n ss rs]):=by rw[oT,hl];rfl
    apply⟨bt,?_,hb1⟩;have sm:=small hb1;rw[kB] at sm ⊢;apply .line (λm=>o1 ?_) o4 o5 ⋯ o7 sm;rw[←eS,b9];exact m
   | oth k ns is =>
    rcases o with ⟨rfl,x,z,l,o,w,i,hx,rfl,rfl,q1,q2,q3,q4,q5,q6,q7,q8,q9,q10⟩ | ⟨hk,sn,⟨x,y,hx,hy,ne,B⟩,⟨q5,q6,q7,q8,q9,q10⟩,wi⟩
    ·apply⟨bt,?_,by rw[oT,hl];rfl⟩
     obtain⟨hx1,hx2⟩:=lay.in_ x hx;obtain⟨_,_,_,_,_,c,_⟩:=ok0.lnOk hx;rw[←eS] at hx;obtain⟨x',hx',rfl⟩:=aK.mp hx;obtain⟨t1,t2⟩:=st_told hx';rw[kB,show oq (iq pre) (.oth "stay" [x'.core.n,z] [l,o,w])=(iq pre).map (jH x'.n z (l,o,w)) from by unfold oq;exact rL rfl];have c:x'.ss.length=x'.rs.length+1:=c;have q3:i+1<x'.ss.length:=q3;have hx1:0≤x'.fi:=hx1;have hx2:x'.fi+2 * (x'.rs.length:Int)≤ib (lsC pre):=hx2;have hn2:pre.length≤70:=by rw[ao] at hn;lia
     exact .stay (x:=x') hx' (λm=>q4 (t1 z m)) ⋯ q1 q2 q3 (snB_of (by dsimp only;lia) (by dsimp only;lia) (by dsimp only;lia) (by dsimp only;lia) (by dsimp only;lia) q5 q6 q7 q8 q9 q10)
    ·obtain⟨k1,k2,k3⟩:=bt_kind B
     have hb1:(bt++[sn]).length=bwP (pre++[.oth k ns is]):=by
      rw[oT,ao,hl];show _=_+(if k = "stay" then 0 else 1);rw[rK k3];rfl
     apply⟨bt++[sn],?_,hb1⟩;have sm:=small hb1;have es:iq (pre++[.oth k ns is])=iq pre:=by
      rw[kB];exact stepL_no _ k3 _ _
     rw[es] at sm ⊢;obtain⟨hx1,hx2⟩:=lay.in_ x hx;obtain⟨hy1,hy2⟩:=lay.in_ y hy;have ap:=lay.ap x hx y hy ne;obtain⟨_,_,_,_,_,cx,_⟩:=ok0.lnOk hx;obtain⟨_,_,_,_,_,cy,_⟩:=ok0.lnOk hy;obtain⟨⟨e1,e2⟩,e3,e4⟩:=bt_ends B cx cy;rw[←eS] at hx hy;obtain⟨x',hx',rfl⟩:=aK.mp hx;obtain⟨y',hy',rfl⟩:=aK.mp hy;exact .btw ⟨x',y',hx',hy',ne,bt_core B⟩ k1 k2 k3 (by rw[hapO];exact snB_of ⋯ ⋯ ⋯ ⋯ ⋯ q5 q6 q7 q8 q9 q10) sm
  obtain⟨bt1,tk,hb1⟩:=step;obtain⟨bt',ru,hb'⟩:=runs_of hb suf (pre++[r]) bt1 (by rw[←ea];exact ok) (by rw[←ea];exact hh) (by rw[←ea];exact hs) (by rw[←ea];exact hn) hb1;exact⟨bt',.cons tk (by rw[ea];exact ru),by rw[ea];exact hb'⟩
end HN
namespace L2
open PySem PySem.Spec PyProof.Rows
theorem mapS_inj {xs ys:List Str}(h:xs.map V.str=ys.map V.str):xs=ys:=by
 induction xs generalizing ys with
 | nil=>cases ys with
  | nil=>rfl
  | cons _ _=>cases h
 | cons x xs ih=>cases ys with
  | nil=>cases h
  | cons y ys =>
   rw[bo,bo] at h;injection h with h1 h2
   injection h1 with h1
   rw[h1,ih h2]
def eqJ (xs ys:List Str)(j:Nat):Bool:=decide (xs[j]? =ys[j]?)
theorem eqJ_all {xs ys:List Str}(hl:xs.length=ys.length):(cI xs.length).all (eqJ xs ys)=decide (xs=ys):=by
 by_cases e:xs=ys
 ·subst e
  rw[rO rfl,jF];exact λj _=>rO rfl
 ·rw[rP e]
  apply gn.mpr λh=>e (List.ext_getElem? λj=>?_)
  by_cases hj:j<xs.length
  ·exact rQ (jF.mp h j (List.mem_range.mpr hj))
  ·rw[eX ⋯,eX ⋯]
theorem itemS {b:aq}{xs ys:List Str}(I:Inv X aL σ H s)(ha:H a=some (.lst (xs.map V.str)))(hb:H b=some (.lst (ys.map V.str)))(hl:xs.length=ys.length) :
  ∃its its2:List af,s.heap.IsList a its.toArray∧s.heap.IsList b its2.toArray∧its.length=xs.length∧its2.length=ys.length∧∀(A:cp) (j:Nat) (h1:j<its.toArray.size) (h2:j<its2.toArray.size),SeqAt.EqAt A s its.toArray[j] its2.toArray[j] (eqJ xs ys j):=by
 obtain⟨its,rv,p,_⟩:=I.list (zL (K:=X.K) ha);obtain⟨its2,rv2,p2,_⟩:=I.list (zL (K:=X.K) hb);have l1:its.length=xs.length:=by rw[←rv.length,ae]
 have l2:its2.length=ys.length:=by rw[←rv2.length,ae]
 apply⟨its,its2,p.isList,p2.isList,l1,l2,λA j h1 h2=>?_⟩;have h1':j<its.length:=by simpa using h1
 have h2':j<its2.length:=by simpa using h2
 have jx:j<xs.length:=by lia
 have jy:j<ys.length:=by lia
 obtain⟨u',eu,ru⟩:=rv.get (i:=j) (x:=V.str xs[j]) (by rw[ay,gE jx];rfl);obtain⟨v',ev,rw'⟩:=rv2.get (i:=j) (x:=V.str ys[j]) (by rw[ay,gE jy];rfl);have eu':its[j]=u':=by rw[gE h1'] at eu;exact bF eu
 have ev':its2[j]=v':=by rw[gE h2'] at ev;exact bF ev
 obtain⟨t1,rfl⟩:=(show ∃t,u'=af.str xs[j] t from ru);obtain⟨t2,rfl⟩:=(show ∃t,v'=af.str ys[j] t from rw');rw[iB,iB,eu',ev'];have e:eqJ xs ys j=(xs[j] == ys[j]):=by
  unfold eqJ;rw[gE jx,gE jy]
  by_cases q:xs[j]=ys[j]
  ·rw[q,rO rfl,beq_self_eq_true]
  ·rw[rP λz=>q (bF z),beq_eq_false_iff_ne.mpr q]
 rw[e];exact SeqAt.EqAt.str_str _ _ _ _
theorem op_eqLS (hu:X.A.units+64<kU):OpR X (dA .Eq) (λx y H Q=>∃(a b:aq) (xs ys:List Str),x= .ref a∧y= .ref b∧H a=some (.lst (xs.map V.str))∧H b=some (.lst (ys.map V.str))∧xs.length=ys.length∧Q (.bl (decide (xs=ys))) H):=by
 intro aL s σ H x y v u Q I rx ry h;obtain⟨a,b,xs,ys,rfl,rfl,ha,hb,hl,q⟩:=h;cases(show v=af.ref a from rx);cases(show u=af.ref b from ry);obtain⟨its,its2,p,p2,l1,l2,key⟩:=itemS I ha hb hl;apply SeqAt.eq_listAt (e:=eqJ xs ys) p p2 (by rw[aE,aE];lia) ⋯ (λj h1 h2=>key _ j h1 h2) (fJ I q ?_);rw[aE,l1,eqJ_all hl]
theorem eqAt_S {b:aq}{xs ys:List Str}(hu:A.units<kU)(I:Inv X aL σ H s)(ha:H a=some (.lst (xs.map V.str)))(hb:H b=some (.lst (ys.map V.str)))(hl:xs.length=ys.length):SeqAt.EqAt A s (.ref a) (.ref b) (decide (xs=ys)):=by
 by_cases hab:a=b
 ·subst hab
  rw[ha] at hb;have e:xs=ys:=mapS_inj (by injection hb with hb;injection hb);rw[rO e];exact SeqAt.EqAt.same _
 ·obtain⟨its,its2,p,p2,l1,l2,key⟩:=itemS I ha hb hl
  have k:=SeqAt.RcAt.lists (A:=A) (e:=eqJ xs ys) p p2 (by rw[aE,aE];lia) hu λj h1 h2=>key _ j h1 h2
  rw[aE,l1,eqJ_all hl] at k;exact SeqAt.EqAt.of_refs hab k
def memS (H:Hp)(xs:List Str):af→Bool
 | .ref q=>@decide (H q=some (.lst (xs.map V.str))) (mr _)
 | _=>false
theorem memS_ref {xs ys:List Str}(h:H q=some (.lst (ys.map V.str))):memS H xs (.ref q)=decide (ys=xs):=by
 unfold memS
 by_cases e:ys=xs
 ·subst e
  rw[rO rfl];exact @rO _ (mr _) h
 ·rw[rP e]
  apply @rP _ (mr _) λz=>e ?_
  rw[h] at z;exact mapS_inj (by injection z with z;injection z)
theorem any_memS {H:Hp}{xs:List Str}:∀{as:List aq} {its:List af} {ts:List (List Str)},gZ (as.map V.ref) its→as.map H=ts.map (λt=>some (.lst (t.map V.str)))→its.any (memS H xs)=decide (xs∈ts)
 | [],_,[],r,_=>by
  cases r;simp
 | [],_,_::_,_,h=>by cases h
 | _::_,_,[],_,h=>by cases h
 | a::as,_,t::ts,r,h=>by
  rw[bo,bo] at h;injection h with h1 h2
  cases r with
  | cons r0 rs =>
   have r0:_=af.ref a:=r0;subst r0;rw[jh,memS_ref h1,any_memS rs h2]
   by_cases e:t=xs
   ·subst e;simp
   ·have:(xs∈t::ts)↔xs∈ts:=by
     rw[az];exact⟨λz=>z.resolve_left λq=>e q.symm,Or.inr⟩
    rw[rP e,Bool.false_or];exact decide_eq_decide.mpr this.symm
theorem op_notInLS (hu:X.A.units+64<kU):OpR X (dA .NotIn) (λx y H Q=>∃(a p:aq) (xs:List Str) (as:List aq) (ts:List (List Str)),x= .ref a∧y= .ref p∧H a=some (.lst (xs.map V.str))∧H p=some (.lst (as.map V.ref))∧as.map H=ts.map (λt=>some (.lst (t.map V.str)))∧(∀t∈ts,t.length=xs.length)∧Q (.bl (!decide (xs∈ts))) H):=by
 intro aL s σ H x y v u Q I rx ry h;obtain⟨a,p,xs,as,ts,rfl,rfl,ha,hp,hm,hl,q⟩:=h;cases(show v=af.ref a from rx);cases(show u=af.ref p from ry);obtain⟨its,r,pl,hz⟩:=I.list (zL (K:=X.K) hp);apply SeqAt.notIn_listAt (memS H xs) pl.isList (λw hw=>?_) ⟨.bl _,H,I,rfl,?_⟩
 ·have hw:w∈its:=by simpa using hw
  obtain⟨i,hi⟩:=cP hw;have il:i<as.length:=by have:=r.length;rw[ae] at this;rw[this];exact(aj.mp hi).1
  obtain⟨w',e1,rw'⟩:=r.get (i:=i) (x:=V.ref as[i]) (by rw[ay,gE il];rfl);rw[hi] at e1;cases e1;have rw2:w=af.ref as[i]:=rw';subst rw2;have e2:(as.map H)[i]? =some (H as[i]):=by rw[ay,gE il];rfl
  rw[hm,ay] at e2;obtain⟨t,ht,e3⟩:=bp.mp e2;rw[memS_ref e3.symm];exact eqAt_S (A:=X.A.in1) (by show X.A.units+1<kU;lia) I e3.symm ha (hl t (aD ht))
 ·rw[show its.toArray.any (memS H xs)=its.any (memS H xs) by simp,any_memS r hm]
  exact q
def isS (k:Str):af→Bool:=λv=>match v with | .str y _=>y == k | _=>false
theorem mt_indexLS:MtM X "list.index" (λx vs H Q=>∃(l:aq) (ns:List Str) (k:Str) (i:Nat),x= .ref l∧vs=[.str k]∧H l=some (.lst (ns.map V.str))∧ns[i]? =some k∧(∀j,j<i→ns[j]? ≠some k)∧i≤1000∧Q (.int (i:Nat)) H):=by
 intro aL s σ H x vs v us Q I rx rv h;obtain⟨l,ns,k,i,rfl,rfl,hH,hi,hno,hsm,q⟩:=h;cases(show v=af.ref l from rx);obtain⟨u,rfl,ru⟩:=rv.one;obtain⟨t,rfl⟩:=(show ∃t,u=af.str k t from ru);obtain⟨z,its,n,r,hl,e⟩:=I.lstM hH;rw[ae] at hl;have at_:∀(m:Nat) (hm:m<its.toArray.size) (hm':m<ns.length),∃tk,its.toArray[m]=af.str ns[m] tk:=λm hm hm'=>by
  obtain⟨u,hu,ru⟩:=r.get (i:=m) (x:=V.str ns[m]) (by rw[ay,gE hm'];rfl);obtain⟨tk,rfl⟩:=(show ∃t,u=af.str ns[m] t from ru);exact⟨tk,by have:=(aj.mp hu).2;simpa using this⟩
 obtain⟨hil,hib⟩:=aj.mp hi;have sz:its.toArray.size=ns.length:=by rw[aE];lia
 apply lI F.slot_list_index ⟨_,e,rfl⟩ F.entry_list_index (F.args_list_index_2 _ _) (SeqAt.list_indexAt l its.toArray n none #[] (.str k t) (isS k) i (by rw[sz];exact hil) ⋯ ?_ λm hm hmi=>?_) ⟨e,λy hy=>?_,⟨.int (i:Nat),H,I.tok _,⟨_,rfl⟩,q⟩⟩
 ·obtain⟨tk,e1⟩:=at_ i (by rw[sz];exact hil) hil
  rw[e1,hib];exact beq_self_eq_true k
 ·obtain⟨tk,e1⟩:=at_ m hm ⋯
  rw[e1];apply beq_eq_false_iff_ne.mpr λz=>hno m hmi ?_
  rw[gE ⋯,z]
 ·obtain⟨m,hm,rfl⟩:=Array.getElem_of_mem hy
  obtain⟨tk,e1⟩:=at_ m hm ⋯;rw[e1];exact SeqAt.EqAt.str_str _ _ _ _
end L2
namespace HN
open PySem L2 PyProof.Rows HT2
local macro_rules
 |`(tactic|and_intros)=>`(tactic|try dsimp only[cxK])
abbrev sEndW:cN:=top 45
abbrev sRidW:cN:=top 46
theorem intr_r:∀{ss:List Str} {rs:List Int} (i:Nat),ss.length=rs.length+1→(iR ss rs)[2 * i+1]? =(rs[i]?).map V.int
 | [],_,_,h=>by simp at h
 | [_],[],0,_=>rfl
 | [_],[],i+1,_=>rfl
 | _::_::_,[],_,h=>by simp at h
 | s::ss,r::rs,0,_=>rfl
 | s::ss,r::rs,i+1,h=>by
  have hl:ss.length=rs.length+1:=by simpa using h
  show(V.str s:: .int r::iR ss rs)[2 * i+1+1+1]? =_;rw[aT,aT,intr_r i hl,aT]
theorem oN:∀{ss:List Str} {rs:List Int},ss.length=rs.length+1→evs (iR ss rs)=ss.map V.str
 | [],_,h=>by simp at h
 | [_],[],_=>rfl
 | _::_::_,[],h=>by simp at h
 | s::ss,r::rs,h=>by
  have hl:ss.length=rs.length+1:=by simpa using h
  show V.str s::evs (iR ss rs)=_;rw[oN hl];rfl
theorem lsC_sub (c:List PR):∀(a:List PR) {x:Ln},x∈lsC a→x∈lsC (a++c):=by
 induction c with
 | nil=>intro a x h;rw[bY];exact h
 | cons r c ih =>
  intro a x h;have:=ih (a++[r]) (x:=x) (by
   rw[gf];cases r with
   | line n ss rs=>exact cq _ h
   | beat b=>exact h
   | oth k ns is=>exact h)
  rwa [cG] at this
theorem oH {x:Ln}(h:x∈lsC (rs.take m)):x∈lsC rs:=by
 have:=lsC_sub (rs.drop m) _ h
 rwa [eW] at this
def PR.okE:PR→Prop
 | .beat _=>False
 | .line _ ss rs=>ss.length=rs.length+1∧2≤ss.length∧ss.length≤400∧ss.Nodup
 | .oth k ns _=>k ≠ "line" ∧ns≠[]
def oV:Option Int→V
 | none=>.non
 | some i=>.int i
def oI (c:Prop)[Decidable c](i:Int):Option Int:=if c then some i else none
def nc (prs:List PR)(n z:Str)(c g:Option Int):Prop:=(∃x∈lsC prs,∃i:Nat,x.n=n∧x.ss[i]? =some z∧c=oI (0<i) (x.fi+2 * i - 1)∧g=oI (i+1<x.ss.length) (x.fi+2 * i))∨((∀x∈lsC prs,x.n=n→z ∉ x.ss)∧c=none∧g=none)
inductive spEndW (vs:List V)(H:Hp)(Q:VK)(_:XK):Prop
 | mk (R:aq)(xs:List V)(prs:List PR)(n z:Str)(_:vs=[.ref R,.str n,.str z])(_:H R=some (.lst xs))(_:jM H xs (prs.map PR.rowV))(_:(∀r∈prs,r.okE))(_:prs.length≤100)(_:∀L c g H',cg H H'→H' L=some (.lst [oV c,oV g])→nc prs n z c g→Q (.ref L) H')
def Ride (prs:List PR)(n z y:Str)(o:Option Int):Prop:=(∃x∈lsC prs,∃(i:Nat) (r:Int),x.n=n∧x.ss[i]? =some z∧x.ss[i+1]? =some y∧x.rs[i]? =some r∧o=some r)∨((∀x∈lsC prs,x.n=n→∀i:Nat,x.ss[i]? =some z→x.ss[i+1]? ≠some y)∧o=none)
inductive spRidW (vs:List V)(H:Hp)(Q:VK)(_:XK):Prop
 | mk (R:aq)(xs:List V)(prs:List PR)(n z y:Str)(_:vs=[.ref R,.str n,.str z,.str y])(_:H R=some (.lst xs))(_:jM H xs (prs.map PR.rowV))(_:(∀r∈prs,r.okE))(_:prs.length≤100)(_:∀o H',cg H H'→Ride prs n z y o→Q (oV o) H')
theorem qH:inV (.str z) (ss.map V.str)=decide (z∈ss):=by
 unfold inV
 induction ss with
 | nil=>simp
 | cons s ss ih =>
  rw[bo,jh,ih];show((s == z) || _)=_
  by_cases e:s=z
  ·subst e;simp
  ·rw[beq_eq_false_iff_ne.mpr e,Bool.false_or]
   apply decide_eq_decide.mpr ?_;rw[az];exact⟨Or.inr,λq=>q.resolve_left λy=>e y.symm⟩
theorem flat_str (ss:List Str):(ss.map V.str).all mY=true:=by
 rw[jF];intro v hv;obtain⟨z,_,rfl⟩:=aK.mp hv;rfl
theorem rj:cA ["_law_rows","_law_name","_law_stop","_law_begin","_law_row","_law_stops","_law_at"] pzl (defScope sEndW):=by trivial
theorem ok_endW (F:Fun K "_law_ends" "_law_ends" sEndW f fd)(T:Nm mg)(hint:mg "int" =none):‹0› 1 f fd pzl spEndW:=by
 specialize F.ok rj;obtain ⟨R,xs,prs,n,z,rfl,hR,rw_,ok,few,k⟩:=h;apply ⟨_,PSl.h (bh ⟨(psZ 3 rj.nd aC)⟩
  (bh ⟨(iC bX rfl (gK (pv 0)) (pgZ 4 rj.nd) (bD (eO (bK iM (cE aW (pv 4) aC (fun _ _=>rfl)) dU (cn _)) (PSl.h (bh ⟨(psZ 5 rj.nd (qw (a:=2) (pv 4)))⟩
  (bh ⟨(eO (PW.pt (nN (bK iM (cE aW (pv 4) aC (fun _ _=>rfl)) (pv 1) (cn _)) (lU (bK k8 (pv 2) (pv 5) rfl)))) (PSl.h (bh ⟨(psZ 6 rj.nd (jQ bu PySem.F.slot_list_index PySem.F.type_list_index mt_indexLS (pv 5) (ah (pv 2) aw)))⟩
  (fj ⟨(cb (gM (ah (PEs.h (k_ix aW (pF (dw k_non (dw (k_op gL (k_op dZ ⟨pv 3⟩ (k_op kz jf ⟨pv 6⟩)) jf) oW))) ⟨ff oS rfl hint boot_int (ah (iT op_gt (pv 6) aC (cn _)) aw)⟩ (fun _ _=>rfl))) (ah (PEs.h (k_ix aW (pF (dw k_non (dw (k_op dZ ⟨pv 3⟩ (k_op kz jf ⟨pv 6⟩)) oW))) ⟨ff oS rfl hint boot_int (ah (iT pA (pv 6) (cw gL (bS bO rfl T.len aS (ah (pv 5) aw)) aC) (cn _)) aw)⟩ (fun _ _=>rfl))) aw))))⟩))) cv)⟩
  (fj ⟨(psZ 3 rj.nd (cw gL (cw dZ (pv 3) (cw kz aC (bS bO rfl T.len aS (ah (pv 5) aw)))) aC))⟩)))) cv)))⟩
  (fj ⟨(cb (gM (ah ir (ah ir aw))))⟩))),?_⟩
 and_intros
 apply sq2 ?_
 intros
 have lxs:xs.length=prs.length:=by rw[rw_.len,ae]
 apply⟨ρ,R,rfl,⟨_,zL hR⟩,?_⟩;apply jT (K:=K) (a:=R) (xs:=xs) (λi σ H2=>cg H H2∧(∀x∈lsC (prs.take i),x.n=n→z ∉ x.ss)∧∃v4 v5 v6,σ=[some (.ref R),some (.str n),some (.str z),some (.int (ib (lsC (prs.take i)))),v4,v5,v6])
  ⟨cg.refl H,(λx hx=>by cases hx),none,none,none,rfl⟩ (λi σ H2 _ q=>zL (q.1 _ _ hR)) ?_ ?_
 ·rintro i x σ H2 hx ⟨S2,no,v4,v5,v6,rfl⟩
  have hi:i<prs.length:=by rw[←lxs];exact(aj.mp hx).1
  have hp:=gE hi;have et:prs.take (i+1)=prs.take i++[prs[i]]:=by rw[aQ,hp];rfl
  have okr:=ok _ (cu hi);obtain⟨a,hxa,hra⟩:=rw_.get i prs[i].rowV (by rw[ay,hp];rfl);rw[hx] at hxa;cases hxa;have sub:∀x,x∈lsC (prs.take (i+1))→x∈lsC prs:=λx h=>oH h
  rw[et] at sub ⊢;rw[gf] at sub ⊢;generalize prs[i]=r at okr hra sub ⊢;have hra2:=S2 _ _ hra;cases r with
  | beat b=>exact rM okr id
  | oth kk ns is =>
   have hra2:H2 a=some (.lst (.str kk::(ns.map V.str++is.map V.int))):=hra2;apply⟨ρ,a,τ,zL hra2,aH (j:=0) rfl,rfl,ρ,iQ (rP λz=>okr.1 (by injection z)) ?_⟩;exact⟨S2,no,_,_,ρ⟩
  | line m ss rs =>
   obtain⟨o1,o2,o3,nd⟩:=okr;have hra2:H2 a=some (.lst (.str "line" :: .str m::iR ss rs)):=hra2;apply⟨ρ,a,τ,zL hra2,aH (j:=0) rfl,rfl,ρ,lO (rO rfl) ?_⟩;apply⟨ρ,a,ρ,zL hra2,(by simp only[aG];lia),λSt H3 S3 e3=>?_⟩;have e3:H3 St=some (.lst (ss.map V.str)):=by rw[e3];show some (HO.lst (evs (iR ss rs)))=_;rw[oN o1]
   have hra3:=S3 _ _ hra2;have nx:¬(m=n∧z∈ss)→∀x∈oZ (lsC (prs.take i)) (.line m ss rs),x.n=n→z ∉ x.ss:=λhne x hx en=>by
    rcases aX.mp hx with hx | hx
    ·exact no x hx en
    ·rw[aB.mp hx] at en ⊢
     exact λhz=>hne ⟨en,hz⟩
   have en:ib (lsC (prs.take i))+2 * (((ss.map V.str).length:Nat):Int) - 2=ib (oZ (lsC (prs.take i)) (.line m ss rs)):=by
    rw[show oZ (lsC (prs.take i)) (.line m ss rs)=lsC (prs.take i)++[⟨m,ss,rs,[],ib (lsC (prs.take i))⟩] from rfl,lp,ae]
    dsimp only
    lia
   have xin:(⟨m,ss,rs,[],ib (lsC (prs.take i))⟩:Ln)∈lsC prs:=sub _ (bz _ (aB.mpr rfl));generalize ib (oZ (lsC (prs.take i)) (.line m ss rs))=hap1 at en ⊢;generalize ib (lsC (prs.take i))=hap0 at en xin ⊢;have go:∀σ5 σ6,¬(m=n∧z∈ss)→cg H H3∧(∀x∈oZ (lsC (prs.take i)) (.line m ss rs),x.n=n→z ∉ x.ss)∧∃v4 v5 v6,[some (.ref R),some (.str n),some (.str z),some (V.int (hap0+2 * (((ss.map V.str).length:Nat):Int) - 2)),some (.ref a),σ5,σ6]=[some (.ref R),some (.str n),some (.str z),some (.int hap1),v4,v5,v6]:=λσ5 σ6 hne=>⟨S2.trans S3,nx hne,_,_,_,by rw[en]⟩
   apply⟨ρ,a,τ,zL hra3,aH (j:=1) rfl,ρ,rfl,ρ,jq (λc1=>?_) (λc1=>?_)⟩
   ·have c1:m=n:=by have:=rQ c1;injection this
    apply⟨ρ,ρ,St,ρ,.inl (zL e3),rfl,flat_str ss,ρ,jq (λc2=>?_) (λc2=>?_)⟩
    ·have c2:z∈ss:=by
      have:inV (.str z) (ss.map V.str)=true:=c2;rw[qH] at this;exact rQ this
     obtain⟨j,hj⟩:=cP c2;have lj:=(aj.mp hj).1;apply⟨ρ,.inl ⟨rfl,_,zL e3⟩,ρ,St,ss,z,j,rfl,rfl,e3,hj,λj' h1 h2=>rM (jA nd h2 hj) ⋯,⋯,?_⟩;apply⟨ρ,ρ,ς,.inl ⟨↥0,↥0⟩,ς,ς,qW,λL4 H4 S4 e4=>?_⟩;apply⟨ρ,ς,.inr ⟨ρ,?_⟩⟩;apply⟨L4,_,_,oV (oI (0<j) (hap0+2 * j - 1)),rfl,rfl,zL e4,?_,?_⟩
     ·unfold oI
      by_cases c:0<j
      ·rw[rL c,rO ⋯];rfl
      ·rw[rK c,rP ⋯];rfl
     apply⟨ρ,ρ,ς,.inl ⟨↥0,↥0⟩,ς,qW,λL5 H5 S5 e5=>?_⟩;have S35:cg H3 H5:=S4.trans S5;apply⟨ρ,ρ,St,ρ,.inl (zL (S35 _ _ e3)),ς,ς,.inr ⟨ρ,?_⟩⟩;apply⟨L5,_,_,oV (oI (j+1<ss.length) (hap0+2 * j)),rfl,rfl,zL e5,?_,?_⟩
     ·rw[ae]
      unfold oI
      by_cases c:j+1<ss.length
      ·rw[rL c,rO ⋯];rfl
      ·rw[rK c,rP ⋯];rfl
     apply⟨qW,λL6 H6 S6 e6=>?_⟩;exact k L6 _ _ H6 (S2.trans (S3.trans (S35.trans S6))) e6 (.inl ⟨_,xin,j,c1,hj,rfl,rfl⟩)
    ·have c2:z ∉ ss:=λhz=>c2 (by show inV (.str z) (ss.map V.str)=true;rw[qH];exact rO hz)
     exact⟨ρ,ρ,St,ρ,.inl (zL e3),ς,.inl ⟨↥0,↥0⟩,ς,ς,go _ _ λz=>c2 z.2⟩
   ·have c1:m≠n:=λz=>c1 (rO (by rw[z]))
    exact⟨ρ,ρ,St,ρ,.inl (zL e3),ς,.inl ⟨↥0,↥0⟩,ς,ς,go _ _ λz=>c1 z.1⟩
 ·rintro σ H2 ⟨S2,no,v4,v5,v6,rfl⟩
  rw[lxs,bG] at no;apply⟨qW,λL H3 S3 e=>?_⟩;exact k L none none H3 (S2.trans S3) e (.inr ⟨no,rfl,rfl⟩)
theorem scRidW:cA ["_law_rows","_law_name","_law_stop","_law_other","_law_row","_law_k"] pzm (defScope sRidW):=by trivial
theorem ok_ridW (F:Fun K "_law_ride" "_law_ride" sRidW f fd)(T:Nm mg)(T2:Nt mg):‹0› 1 f fd pzm spRidW:=by
 specialize F.ok scRidW;obtain ⟨R,xs,prs,n,z,y,rfl,hR,rw_,ok,few,k⟩:=h;apply ⟨_,PSl.h (bh ⟨(iC bX rfl (gK (pv 0)) (pgZ 4 scRidW.nd) (bD (eO (bK (op_eqLS hr.units) (cV gc (pv 4) eR (dJ aC)) (gM (ah dU (ah (pv 1) aw))) (cn _)) (bD (iC bX rfl (oy rfl T2.range (ah aC (ah (cw gL (bS bO rfl T.len aS (ah (pv 4) aw)) aC) (ah aC aw)))) (pgZ 5 scRidW.nd) (bD (eO (PW.pt (nN (bK iM (cE aW (pv 4) (pv 5) (fun _ _=>rfl)) (pv 2) (cn _)) (lU (bK iM (cE aW (pv 4) (cw dZ (pv 5) aC) (fun _ _=>rfl)) (pv 3) (cn _))))) (bD (cb (cE aW (pv 4) (cw dZ (pv 5) aC) (fun _ _=>rfl)))) cv)))) cv)))⟩
  (fj ⟨(cb ir)⟩)),?_⟩
 and_intros
 apply sq1 ?_
 intros
 have lxs:xs.length=prs.length:=by rw[rw_.len,ae]
 apply⟨ρ,R,rfl,⟨_,zL hR⟩,?_⟩;apply jT (K:=K) (a:=R) (xs:=xs) (λi σ H2=>cg H H2∧(∀x∈lsC (prs.take i),x.n=n→∀j:Nat,x.ss[j]? =some z→x.ss[j+1]? ≠some y)∧∃v4 v5,σ=[some (.ref R),some (.str n),some (.str z),some (.str y),v4,v5])
  ⟨cg.refl H,(λx hx=>by cases hx),none,none,rfl⟩ (λi σ H2 _ q=>zL (q.1 _ _ hR)) ?_ ?_
 ·rintro i x σ H2 hx ⟨S2,no,v4,v5,rfl⟩
  have hi:i<prs.length:=by rw[←lxs];exact(aj.mp hx).1
  have hp:=gE hi;have et:prs.take (i+1)=prs.take i++[prs[i]]:=by rw[aQ,hp];rfl
  have okr:=ok _ (cu hi);obtain⟨a,hxa,hra⟩:=rw_.get i prs[i].rowV (by rw[ay,hp];rfl);rw[hx] at hxa;cases hxa;have sub:∀x,x∈lsC (prs.take (i+1))→x∈lsC prs:=λx h=>oH h
  rw[et] at sub ⊢;rw[gf] at sub ⊢;generalize prs[i]=r at okr hra sub ⊢;have hra2:=S2 _ _ hra;cases r with
  | beat b=>exact rM okr id
  | oth kk ns is =>
   obtain⟨o1,o2⟩:=okr;obtain⟨n0,ns',rfl⟩:∃a b,ns=a::b:=by
    cases ns with
    | nil=>exact rM rfl o2
    | cons a b=>exact⟨a,b,rfl⟩
   have hra2:H2 a=some (.lst (.str kk:: .str n0::(ns'.map V.str++is.map V.int))):=hra2;apply⟨ρ,ρ,a,ρ,zL hra2,λC1 H3 S3 e3=>?_⟩;rw[cutU (i:=2) (n:=2) rfl] at e3;apply⟨ρ,qW,λC2 H4 S4 e4=>?_⟩;apply⟨C1,C2,[kk,n0],["line",n],rfl,rfl,S4 _ _ e3,e4,rfl,ρ,iQ (rP λz=>o1 (by injection z)) ?_⟩;exact⟨S2.trans (S3.trans S4),no,_,ρ⟩
  | line m ss rs =>
   obtain⟨o1,o2,o3,nd⟩:=okr;have hra2:H2 a=some (.lst (.str "line" :: .str m::iR ss rs)):=hra2;have lrow:(V.str "line" :: .str m::iR ss rs).length=2 * ss.length+1:=by rw[aG,aG,jD o1];lia
   apply⟨ρ,ρ,a,ρ,zL hra2,λC1 H3 S3 e3=>?_⟩;rw[cutU (i:=2) (n:=2) rfl] at e3;apply⟨ρ,qW,λC2 H4 S4 e4=>?_⟩;have S24:=S3.trans S4;apply⟨C1,C2,["line",m],["line",n],rfl,rfl,S4 _ _ e3,e4,rfl,ρ,jq (λc1=>?_) (λc1=>?_)⟩
   ·have c1:m=n:=by have:=rQ c1;injection this with _ this;injection this
    have hra4:=S24 _ _ hra2;have xin:(⟨m,ss,rs,[],ib (lsC (prs.take i))⟩:Ln)∈lsC prs:=sub _ (bz _ (aB.mpr rfl));apply⟨ρ,a,ρ,.inl (zL hra4),ς,2,ρ,⟨↥0,↥0,by rw[lrow];lia,by rw[lrow];lia⟩,?_⟩;have en:(((((V.str "line" :: .str m::iR ss rs).length:Nat):Int) - 2) - 2+1) / 2=((ss.length - 1:Nat):Int):=by rw[lrow];lia
    rw[en,gq];apply nt (lo:=2) (n:=ss.length - 1) (λj σ H5=>cg H4 H5∧(∀q:Nat,q<j→ss[q]? =some z→ss[q+1]? ≠some y)∧∃v5,σ=[some (.ref R),some (.str n),some (.str z),some (.str y),some (.ref a),v5])
     ⟨cg.refl _,(λq hq=>rM hq (jY _)),_,rfl⟩ ?_ ?_
    ·rintro j σ H5 hj ⟨S5,nq,v5,rfl⟩
     obtain⟨s1,hs1⟩:∃s,ss[j]? =some s:=⟨_,gE ⋯⟩;obtain⟨s2,hs2⟩:∃s,ss[j+1]? =some s:=⟨_,gE ⋯⟩;obtain⟨r1,hr1⟩:∃r,rs[j]? =some r:=⟨_,gE ⋯⟩;have hra5:=S5 _ _ hra4;have g1:atI (V.str "line" :: .str m::iR ss rs) ((2:Int)+(j:Nat) * 2)=some (.str s1):=by
      rw[show(2:Int)+(j:Nat) * 2=((2 * j+1+1:Nat):Int) by lia];exact aH (by rw[aT,aT,qG j o1,hs1];rfl)
     have g2:atI (V.str "line" :: .str m::iR ss rs) ((2:Int)+(j:Nat) * 2+2)=some (.str s2):=by
      rw[show(2:Int)+(j:Nat) * 2+2=((2 * (j+1)+1+1:Nat):Int) by lia];exact aH (by rw[aT,aT,qG (j+1) o1,hs2];rfl)
     have g3:atI (V.str "line" :: .str m::iR ss rs) ((2:Int)+(j:Nat) * 2+1)=some (.int r1):=by
      rw[show(2:Int)+(j:Nat) * 2+1=((2 * j+1+1+1:Nat):Int) by lia];exact aH (by rw[aT,aT,intr_r j o1,hr1];rfl)
     have nx:¬(s1=z∧s2=y)→∀q:Nat,q<j+1→ss[q]? =some z→ss[q+1]? ≠some y:=λhne q hq w1 w2=>by
      rcases iH.mp hq with hq | hq
      ·exact nq q hq w1 w2
      ·subst hq
       rw[hs1] at w1;rw[hs2] at w2;exact hne ⟨bF w1,bF w2⟩
     apply⟨ρ,ρ,a,τ,zL hra5,g1,ρ,rfl,ρ,jq (λc2=>?_) (λc2=>?_)⟩
     ·have c2:s1=z:=by have:=rQ c2;injection this
      apply⟨ρ,ρ,ς,a,τ,zL hra5,g2,ρ,rfl,ρ,jq (λc3=>?_) (λc3=>?_)⟩
      ·have c3:s2=y:=by have:=rQ c3;injection this
       apply⟨ρ,ρ,ς,a,τ,zL hra5,g3,?_⟩;exact k (some r1) H5 (S2.trans (S24.trans S5)) (.inl ⟨_,xin,j,r1,c1,by rw[←c2];exact hs1,by rw[←c3];exact hs2,hr1,rfl⟩)
      ·exact⟨S5,nx λz=>c3 (rO (by rw[z.2])),ρ⟩
     ·exact⟨S5,nx λz=>c2 (rO (by rw[z.1])),ρ⟩
    ·rintro σ H5 ⟨S5,nq,v5,rfl⟩
     apply⟨S2.trans (S24.trans S5),λx hx en=>?_,_,ρ⟩
     rcases aX.mp hx with hx | hx
     ·exact no x hx en
     ·rw[aB.mp hx]
      intro q w1 w2;have:=(aj.mp w2).1;exact nq q (by dsimp only at this;lia) w1 w2
   ·apply⟨S2.trans S24,λx hx en=>?_,_,ρ⟩
    rcases aX.mp hx with hx | hx
    ·exact no x hx en
    ·rw[aB.mp hx] at en
     exact rM (rO (by rw[show m=n from en])) c1
 ·rintro σ H2 ⟨S2,no,v4,v5,rfl⟩
  rw[lxs,bG] at no;exact k none H2 S2 (.inr ⟨no,rfl⟩)
def NoSp (H:Hp)(v:V):Prop:=v= .non∨∃(t:aq) (x y:Option Int) (l o w:Int),v= .ref t∧H t=some (.tup [oV x,oV y,.int l,.int o,.int w])∧(x=none∨y=none)
theorem NoSp.same (S:∀a t,H a=some (.tup t)→H' a=some (.tup t))(h:NoSp H v):NoSp H' v:=by
 rcases h with h | ⟨t,x,y,l,o,w,h1,h2,h3⟩
 ·exact .inl h
 ·exact .inr ⟨t,x,y,l,o,w,h1,S _ _ h2,h3⟩
theorem NoSp.no (h:NoSp H v)(b m:Int):G1 H v∧mO H b m v=false:=by
 have kn:∀o:Option Int,Kn H (oV o):=λo=>by cases o <;> exact⟨ρ⟩
 rcases h with rfl | ⟨t,x,y,l,o,w,rfl,h2,h3⟩
 ·exact⟨⟨⟨ρ⟩,(λa xs e=>by cases e)⟩,rfl⟩
 ·apply⟨⟨⟨"tuple",by unfold tyn;dsimp only;rw[h2]⟩,λa xs e1 e2 z hz=>?_⟩,?_⟩
  ·cases e1
   rw[h2] at e2;cases e2;simp only[az,bg,or_false] at hz
   rcases hz with rfl | rfl | rfl | rfl | rfl
   ·exact kn _
   ·exact kn _
   ·exact⟨ρ⟩
   ·exact⟨ρ⟩
   ·exact⟨ρ⟩
  ·simp only[mO,h2]
   have e:nJ m (oV x) (oV y)=false:=by
    unfold nJ
    rcases h3 with rfl | rfl
    ·rfl
    ·rw[show inI (oV none) 0 (m - 1)=false from rfl,km,Bool.and_false]
   rw[e];rfl
structure PlH (CP CL:aq)(H:Hp)(p:aq)(b:Int)(zs:List LX)(DL LB:aq):Prop where
 pl:∃dp,H p=some (.ins CP dp (plF b DL LB))
 dl:H DL=some (.dK (lg zs))
 ln:∀z∈zs,LinD H CL z.2.1 z.1.n z.1.ss z.1.rs z.2.2 z.1.fi
inductive spHapN (CP CL:aq)(vs:List V)(H:Hp)(Q:VK)(_:XK):Prop
 | mk (p DL LB:aq)(b:Int)(zs:List LX)(_:vs=[.ref p])(_:PlH CP CL H p b zs DL LB)(_:zs.length≤100)(_:∀H',cg H H'→Q (.int (mE zs)) H')
inductive spChangeG (C:aq)(vs:List V)(H:Hp)(Q:VK)(_:XK):Prop
 | mk (l o w:Int)(x y p:aq)(n1 n2 z:Str)(ss tt:List Str)(rs us:List Int)(fi gi:Int)(_:vs=[.ref x,.ref y,.ref p])(_:LnOk H C x ss rs fi)(_:LnOk H C y tt us gi)(_:H p=some (.tup [.str "change",.str n1,.str n2,.str z,.int l,.int o,.int w]))(_:(∀(i j:Nat) q H',ss[i]? =some z→1≤i→tt[j]? =some z→j+1<tt.length→cg H H'→H' q=some (.tup [.int (fi+2 * i - 1),.int (gi+2 * j),.int l,.int o,.int w])→Q (.ref q) H'))(_:((∀i j:Nat,ss[i]? =some z→1≤i→tt[j]? =some z→j+1<tt.length→False)→∀v H',cg H H'→NoSp H' v→Q v H'))
inductive spApartG (C:aq)(vs:List V)(H:Hp)(Q:VK)(_:XK):Prop
 | mk (bt d:Int)(x y p:aq)(n1 n2 z:Str)(ss tt:List Str)(rs us:List Int)(fi gi:Int)(_:vs=[.int bt,.ref x,.ref y,.ref p])(_:LnOk H C x ss rs fi)(_:LnOk H C y tt us gi)(_:H p=some (.tup [.str "apart",.str n1,.str n2,.str z,.int d]))(_:(∀(i j:Nat) q H',ss[i]? =some z→i+1<ss.length→tt[j]? =some z→j+1<tt.length→cg H H'→H' q=some (.tup [.int (fi+2 * i),.int (gi+2 * j),.int d,.int (bt - d),.int 0])→Q (.ref q) H'))(_:((∀i j:Nat,ss[i]? =some z→i+1<ss.length→tt[j]? =some z→j+1<tt.length→False)→∀v H',cg H H'→NoSp H' v→Q v H'))
inductive spMeetG (C:aq)(vs:List V)(H:Hp)(Q:VK)(_:XK):Prop
 | mk (bt d:Int)(x y p:aq)(n1 n2 z z2:Str)(ss tt:List Str)(rs us:List Int)(fi gi:Int)(_:vs=[.int bt,.ref x,.ref y,.ref p])(_:LnOk H C x ss rs fi)(_:LnOk H C y tt us gi)(_:H p=some (.tup [.str "meet",.str n1,.str n2,.str z,.str z2,.int d]))(_:(∀(i j:Nat) (r u:Int) q H',ss[i]? =some z→ss[i+1]? =some z2→rs[i]? =some r→tt[j]? =some z2→tt[j+1]? =some z→us[j]? =some u→cg H H'→H' q=some (.tup [.int (fi+2 * i),.int (gi+2 * j),.int (r+d),.int (bt - u - d),.int 0])→Q (.ref q) H'))(_:((∀i j:Nat,ss[i]? =some z→ss[i+1]? =some z2→tt[j]? =some z2→tt[j+1]? =some z→False)→∀v H',cg H H'→NoSp H' v→Q v H'))
theorem PlI.h {DL:aq}(I:PlI CP CL H0 H p b zs bt DL LB):PlH CP CL H p b zs DL LB:=⟨I.pl,I.dl,λz hz=>(I.ln z hz).d⟩
theorem hap_of (vs:List V)(H:Hp)(Q:VK)(E:XK)(h:spHap C CL vs H Q E):spHapN C CL vs H Q E:=by
 obtain⟨H0,p,DL,LB,b,zs,bt,rfl,I,fw,k⟩:=h;exact⟨p,DL,LB,b,zs,rfl,I.h,fw.a,k⟩
theorem ok_hapN (F:Fun K "happenings" "Plan.happenings" sHap f fd)(T:Nm mg)(T2:Nt mg)(CC:PlaC K C)(LC:LinC K CL):‹0› 1 f fd pzb (spHapN C CL):=by
 specialize F.ok scHap;obtain⟨p,DL,LB,b,zs,rfl,I,f1,k⟩:=h;apply⟨_,bD (cb (bS (call_sum rfl) rfl T2.sum boot_sum (ah (pe_thaw (jP (fr:=[]) (js:=[]) rfl (pi_vals (fG (pv 0) rfl) ⟨rfl,rfl,rfl,rfl⟩) ⇑0 rfl ⇑0 rfl (by exists sHap) ⇑0 rfl ⇑0 (λ_ _ _ _ _=>⟨(cw kz aC (bS (lenK K) rfl T.len aS (ah (fldK K (pv 0) rfl) aw))),j7⟩))) aw))),?_⟩
 and_intros
 obtain⟨dp,hp⟩:=I.pl;apply⟨ρ,p,C,dp,_,ρ,hp,CC.cl,CC.n2,rfl,DL,ρ,I.dl,λpv ob hpv=>?_⟩;have lz:(lg zs).length=zs.length:=ae _;have big:(100000:Nat)≤ax:=by decide
 let pZ1:zW:=λi ys H2=>cg (upd (upd H pv (isVV pv DL)) DL (.frz ob (.dK (lg zs)))) H2∧ys=(zs.take i).map λz=>V.int (2 * (z.1.rs.length:Int))
 apply comp_vals pZ1 ⟨cg.refl _,rfl⟩ (λi ys H2 hi q=>⟨q.1 _ _ aP,by rw[q.2,ae,aJ];lia⟩) ⋯ (λi kk x ys H2 hx q=>?_) (λys H3 q D hD=>?_)
 ·obtain⟨S2,ey⟩:=q
  unfold lg at hx;rw[ay] at hx;obtain⟨z,hz,e⟩:=bp.mp hx;cases e;obtain⟨dx,a,bb,h1,h2,h3⟩:=I.ln z (aD hz);have kk:=qj hpv S2;have h1':=kk _ _ (dz h1 I.dl nofun) h1;have h3':=kk _ _ (dz h3 I.dl nofun) h3;apply jj ?_;apply⟨ρ,z.2.1,CL,dx,_,ρ,h1',LC.cl,LC.n3,rfl,bb,ρ,.inr (zT h3'),ς,.inl ⟨↥0,↥0⟩,S2,?_⟩;rw[ey,aQ,hz,av,ae];rfl
 ·obtain⟨S3,ey⟩:=q
  rw[lz,bG] at ey;have hD3:=S3 _ _ aP;have hDD:DL≠D:=aZ hD3 hD;have e5:(upd (upd H3 D (.lst ys)) DL (.dK (lg zs))) D=some (.lst ((zs.map λz:LX=>2 * (z.1.rs.length:Int)).map V.int)):=by rw[bf (cM hDD),aP,ey,b9];rfl
  apply⟨DL,ob,lg zs,I.dl,(by rw[bf hDD];exact hD3),D,ρ,zL e5,k _ (thaw_same (u:=isVV pv DL) (ob:=ob) (pv:=pv) I.dl λc o hc e=>?_)⟩;have:=qj hpv S3 c o hc e;rw[bf (aZ this hD)];exact this
theorem ok_changeG {fc fg fr:aq}(F:Fun K "change_span" "change_span" sChange f fd)(CK:LinK P w K mg base C fc fg fr dc dg dr):‹0› 2 f fd pzt (spChangeG C):=by
 specialize F.ok scChange;obtain⟨l,o,w,x,y,p,n1,n2,z,ss,tt,rs,us,fi,gi,rfl,hx,hy,hp,kY,kN⟩:=h;apply⟨_,bD (cb (fY (ah (PE.cutV (iD (pv 0) CK.cc.cl CK.m1 CK.f1 hr CK.b1 .nil ju (ah (ixZ (pv 2)) aw))) (ah (PE.cutV (iD (pv 1) CK.cc.cl CK.m2 CK.f2 hr CK.b2 .nil ju (ah (ixZ (pv 2)) aw))) (ah (ixZ (pv 2)) (ah (ixZ (pv 2)) (ah (ixZ (pv 2)) aw))))))),?_⟩
 and_intros
 obtain⟨⟨D,n,L⟩,nd,two,few,_⟩:=id hx;obtain⟨dx,a,b,hx1,_⟩:=id L;apply⟨λv H'=>cg H H'∧∃c,v=oV c∧((∃i:Nat,c=some (fi+2 * i - 1)∧ss[i]? =some z∧1≤i)∨(c=none∧∀i:Nat,ss[i]? =some z→i=0)),λv H1 hN=>?_,?_⟩
 rotate_left
 ·apply⟨ρ,x,dx,ρ,hx1,rfl,ρ,p,τ,zT hp,aH (j:=3) rfl,x,D,n,z,ss,rs,fi,rfl,L,few,two,nd,λH1 S1=>⟨λi a1 a2=>⟨S1,some _,rfl,.inl ⟨i,rfl,a1,a2⟩⟩,λno=>⟨S1,none,rfl,.inr ⟨rfl,no⟩⟩⟩⟩
 obtain⟨S1,c,rfl,hc⟩:=hN;obtain⟨⟨D2,n2',L2'⟩,nd2,two2,few2,_⟩:=hy.kept S1;obtain⟨dy,a3,b3,hy1,_⟩:=id L2';apply⟨λv H'=>cg H1 H'∧∃g,v=oV g∧((∃j:Nat,g=some (gi+2 * j)∧tt[j]? =some z∧j+1<tt.length)∨(g=none∧∀j:Nat,tt[j]? =some z→tt.length≤j+1)),λv H2 hN=>?_,?_⟩
 rotate_left
 ·apply⟨ρ,y,dy,ρ,hy1,rfl,ρ,p,τ,zT (S1 _ _ hp),aH (j:=3) rfl,y,D2,n2',z,tt,us,gi,rfl,L2',few2,two2,nd2,λH2 S2=>⟨λj a1 a2=>⟨S2,some _,rfl,.inl ⟨j,rfl,a1,a2⟩⟩,λno=>⟨S2,none,rfl,.inr ⟨rfl,no⟩⟩⟩⟩
 obtain⟨S2,g,rfl,hg⟩:=hN;have hp2:=S2 _ _ (S1 _ _ hp);apply⟨ρ,p,τ,zT hp2,aH (j:=4) rfl,ρ,p,τ,zT hp2,aH (j:=5) rfl,ρ,p,τ,zT hp2,aH (j:=6) rfl,szZ5,λq H3 S3 e=>?_⟩;have S03:=S1.trans (S2.trans S3)
 rcases hc with ⟨i,rfl,i1,i2⟩ | ⟨rfl,ni⟩
 ·rcases hg with ⟨j,rfl,j1,j2⟩ | ⟨rfl,nj⟩
  ·exact kY i j q H3 i1 i2 j1 j2 S03 e
  ·exact kN (λi j _ _ a b=>rM (nj j a) ⋯) _ H3 S03 (.inr ⟨q,_,_,_,_,ρ,e,.inr rfl⟩)
 ·exact kN (λi j a b _ _=>rM (ni i a) ⋯) _ H3 S03 (.inr ⟨q,_,_,_,_,ρ,e,.inl rfl⟩)
theorem ok_apartG {fc fg fr:aq}(F:Fun K "apart_span" "apart_span" sApart f fd)(CK:LinK P w K mg base C fc fg fr dc dg dr):‹0› 2 f fd pzj (spApartG C):=by
 specialize F.ok scApart;obtain⟨bt,d,x,y,p,n1,n2,z,ss,tt,rs,us,fi,gi,rfl,hx,hy,hp,kY,kN⟩:=h;apply⟨_,bD (cb (fY (ah (PE.cutV (iD (pv 1) CK.cc.cl CK.m2 CK.f2 hr CK.b2 .nil ju (ah (ixZ (pv 3)) aw))) (ah (PE.cutV (iD (pv 2) CK.cc.cl CK.m2 CK.f2 hr CK.b2 .nil ju (ah (ixZ (pv 3)) aw))) (ah (ixZ (pv 3)) (ah (cw gL (pv 0) (ixZ (pv 3))) (ah aC aw))))))),?_⟩
 and_intros
 obtain⟨⟨D,n,L⟩,nd,two,few,_⟩:=id hx;obtain⟨dx,a,b,hx1,_⟩:=id L;apply⟨λv H'=>cg H H'∧∃c,v=oV c∧((∃i:Nat,c=some (fi+2 * i)∧ss[i]? =some z∧i+1<ss.length)∨(c=none∧∀i:Nat,ss[i]? =some z→ss.length≤i+1)),λv H1 hN=>?_,?_⟩
 rotate_left
 ·apply⟨ρ,x,dx,ρ,hx1,rfl,ρ,p,τ,zT hp,aH (j:=3) rfl,x,D,n,z,ss,rs,fi,rfl,L,few,two,nd,λH1 S1=>⟨λi a1 a2=>⟨S1,some _,rfl,.inl ⟨i,rfl,a1,a2⟩⟩,λno=>⟨S1,none,rfl,.inr ⟨rfl,no⟩⟩⟩⟩
 obtain⟨S1,c,rfl,hc⟩:=hN;obtain⟨⟨D2,n2',L2'⟩,nd2,two2,few2,_⟩:=hy.kept S1;obtain⟨dy,a3,b3,hy1,_⟩:=id L2';apply⟨λv H'=>cg H1 H'∧∃g,v=oV g∧((∃j:Nat,g=some (gi+2 * j)∧tt[j]? =some z∧j+1<tt.length)∨(g=none∧∀j:Nat,tt[j]? =some z→tt.length≤j+1)),λv H2 hN=>?_,?_⟩
 rotate_left
 ·apply⟨ρ,y,dy,ρ,hy1,rfl,ρ,p,τ,zT (S1 _ _ hp),aH (j:=3) rfl,y,D2,n2',z,tt,us,gi,rfl,L2',few2,two2,nd2,λH2 S2=>⟨λj a1 a2=>⟨S2,some _,rfl,.inl ⟨j,rfl,a1,a2⟩⟩,λno=>⟨S2,none,rfl,.inr ⟨rfl,no⟩⟩⟩⟩
 obtain⟨S2,g,rfl,hg⟩:=hN;have hp2:=S2 _ _ (S1 _ _ hp);apply⟨ρ,p,τ,zT hp2,aH (j:=4) rfl,ρ,ρ,p,τ,zT hp2,aH (j:=4) rfl,ς,szZ5,λq H3 S3 e=>?_⟩;have S03:=S1.trans (S2.trans S3)
 rcases hc with ⟨i,rfl,i1,i2⟩ | ⟨rfl,ni⟩
 ·rcases hg with ⟨j,rfl,j1,j2⟩ | ⟨rfl,nj⟩
  ·exact kY i j q H3 i1 i2 j1 j2 S03 e
  ·exact kN (λi j _ _ a b=>rM (nj j a) ⋯) _ H3 S03 (.inr ⟨q,_,_,_,_,ρ,e,.inr rfl⟩)
 ·exact kN (λi j a b _ _=>rM (ni i a) ⋯) _ H3 S03 (.inr ⟨q,_,_,_,_,ρ,e,.inl rfl⟩)
theorem ok_meetG {fc fg fr:aq}(F:Fun K "meet_span" "meet_span" sMeet f fd)(CK:LinK P w K mg base C fc fg fr dc dg dr):‹0› 2 f fd pzj (spMeetG C):=by
 specialize F.ok scMeet;obtain ⟨bt,d,x,y,p,n1,n2,z,z2,ss,tt,rs,us,fi,gi,rfl,hx,hy,hp,kY,kN⟩:=h;apply ⟨_,PSl.h (bh ⟨(psZ 4 scMeet.nd (PE.cutV (iD (pv 1) CK.cc.cl CK.m3 CK.f3 hr CK.b3 .nil ju (ah (ixZ (pv 3)) (ah (ixZ (pv 3)) aw)))))⟩
  (bh ⟨(psZ 5 scMeet.nd (PE.cutV (iD (pv 2) CK.cc.cl CK.m3 CK.f3 hr CK.b3 .nil ju (ah (ixZ (pv 3)) (ah (ixZ (pv 3)) aw)))))⟩
  (bh ⟨(eO (PW.pt (ma (bK pQ (pv 4) ir (cn _)) (kq (bK pQ (pv 5) ir (cn _))))) (bD (cb ir)) cv)⟩
  (fj ⟨(cb (fY (ah (iD (pv 1) CK.cc.cl CK.m2 CK.f2 hr CK.b2 .nil ju (ah (ixZ (pv 3)) aw)) (ah (iD (pv 2) CK.cc.cl CK.m2 CK.f2 hr CK.b2 .nil ju (ah (ixZ (pv 3)) aw)) (ah (cw dZ (pv 4) (ixZ (pv 3))) (ah (cw gL (cw gL (pv 0) (pv 5)) (ixZ (pv 3))) (ah aC aw)))))))⟩)))),?_⟩
 and_intros
 apply sq3 ?_
 intros
 obtain⟨⟨D,n,L⟩,nd,two,few,rl⟩:=id hx;obtain⟨dx,a,b,hx1,_⟩:=id L;apply⟨λv H'=>cg H H'∧∃c,v=oV c∧((∃(i:Nat) (r:Int),c=some r∧ss[i]? =some z∧ss[i+1]? =some z2∧rs[i]? =some r)∨(c=none∧∀i:Nat,ss[i]? =some z→ss[i+1]? ≠some z2)),λv H1 hN=>?_,?_⟩
 rotate_left
 ·apply⟨ρ,x,dx,ρ,hx1,rfl,ρ,p,τ,zT hp,aH (j:=3) rfl,ρ,p,τ,zT hp,aH (j:=4) rfl,x,D,n,z,z2,ss,rs,fi,rfl,L,rl,two,nd,λH1 S1=>⟨λi r a1 a2 a3=>⟨S1,some _,rfl,.inl ⟨i,r,rfl,a1,a2,a3⟩⟩,λno=>⟨S1,none,rfl,.inr ⟨rfl,no⟩⟩⟩⟩
 obtain⟨S1,c,rfl,hc⟩:=hN;obtain⟨⟨D2,n2',L2'⟩,nd2,two2,few2,rl2⟩:=hy.kept S1;obtain⟨dy,a3,b3,hy1,_⟩:=id L2';have hp1:=S1 _ _ hp;apply⟨λv H'=>cg H1 H'∧∃g,v=oV g∧((∃(j:Nat) (u:Int),g=some u∧tt[j]? =some z2∧tt[j+1]? =some z∧us[j]? =some u)∨(g=none∧∀j:Nat,tt[j]? =some z2→tt[j+1]? ≠some z)),λv H2 hN=>?_,?_⟩
 rotate_left
 ·apply⟨ρ,y,dy,ρ,hy1,rfl,ρ,p,τ,zT hp1,aH (j:=4) rfl,ρ,p,τ,zT hp1,aH (j:=3) rfl,y,D2,n2',z2,z,tt,us,gi,rfl,L2',rl2,two2,nd2,λH2 S2=>⟨λj u b1 b2 b3=>⟨S2,some _,rfl,.inl ⟨j,u,rfl,b1,b2,b3⟩⟩,λno=>⟨S2,none,rfl,.inr ⟨rfl,no⟩⟩⟩⟩
 obtain⟨S2,g,rfl,hg⟩:=hN
 rcases hc with ⟨i,r,rfl,e1,e2,e3⟩ | ⟨rfl,ni⟩
 rotate_left
 ·exact⟨ρ,rfl,ρ,lO rfl (kN (λi j a b _ _=>ni i a b) _ H2 (S1.trans S2) (.inl rfl))⟩
 rcases hg with ⟨j,u,rfl,e4,e5,e6⟩ | ⟨rfl,nj⟩
 rotate_left
 ·exact⟨ρ,rfl,ρ,iQ rfl ⟨_,rfl,rfl,_,rfl,lO rfl (kN (λi j _ _ a b=>nj j a b) _ H2 (S1.trans S2) (.inl rfl))⟩⟩
 apply⟨ρ,rfl,ρ,iQ rfl ⟨_,rfl,rfl,_,rfl,iQ rfl ?_⟩⟩;have hp2:=S2 _ _ hp1;obtain⟨⟨D3,n3,L3⟩,_,_,_,_⟩:=hx.kept (S1.trans S2);obtain⟨dx3,a5,b5,hx3,_⟩:=id L3;have l1:=(aj.mp e2).1;have l2:=(aj.mp e5).1;apply⟨ρ,x,dx3,ρ,hx3,rfl,ρ,p,τ,zT hp2,aH (j:=3) rfl,x,D3,n3,z,ss,rs,fi,rfl,L3,few,two,nd,λH3 S3=>⟨λi2 c1 c2=>?_,λno=>rM (no _ e1) ⋯⟩⟩;obtain rfl:=jA nd e1 c1;obtain⟨⟨D4,n4,L4⟩,_,_,_,_⟩:=hy.kept (S1.trans (S2.trans S3));obtain⟨dy4,a6,b6,hy4,_⟩:=id L4;have hp3:=S3 _ _ hp2;apply⟨ρ,y,dy4,ρ,hy4,rfl,ρ,p,τ,zT hp3,aH (j:=4) rfl,y,D4,n4,z2,tt,us,gi,rfl,L4,few2,two2,nd2,λH4 S4=>⟨λj2 d1 d2=>?_,λno=>rM (no _ e4) ⋯⟩⟩;obtain rfl:=jA nd2 e4 d1;have hp4:=S4 _ _ hp3;apply⟨ρ,ρ,p,τ,zT hp4,aH (j:=5) rfl,ς,ρ,ρ,ς,ρ,p,τ,zT hp4,aH (j:=5) rfl,ς,szZ5,λq H5 S5 e=>?_⟩;exact kY _ _ r u q H5 e1 e2 e3 e4 e5 e6 (S1.trans (S2.trans (S3.trans (S4.trans S5)))) e
inductive OthG:Str→List Str→List Int→Prop
 | change {n1 n2 z:Str} {l o w:Int}:OthG "change" [n1,n2,z] [l,o,w]
 | apart {n1 n2 z:Str} {d:Int}:OthG "apart" [n1,n2,z] [d]
 | meet {n1 n2 z z2:Str} {d:Int}:OthG "meet" [n1,n2,z,z2] [d]
inductive spBtwN (CP CL:aq)(vs:List V)(H:Hp)(Q:VK)(_:XK):Prop
 | mk (H0:Hp)(p q DL LB:aq)(b:Int)(zs:List LX)(bt:List Sn)(k:Str)(ns:List Str)(is:List Int)(_:vs=[.ref p,.ref q])(_:PlI CP CL H0 H p b zs bt DL LB)(_:(PR.oth k ns is).at H q)(_:OthG k ns is)(_:(¬∃sn,Btw b (zs.map (·.1)) k ns is sn))(_:∀v H',cg H H'→NoSp H' v→Q v H')
inductive spTakeBN (CP CL:aq)(vs:List V)(H:Hp)(Q:VK)(_:XK):Prop
 | mk (H0:Hp)(p q DL LB:aq)(b:Int)(zs:List LX)(bt:List Sn)(k:Str)(ns:List Str)(is:List Int)(_:vs=[.ref p,.ref q])(_:PlI CP CL H0 H p b zs bt DL LB)(_:zs.length≤90)(_:bt.length≤90)(_:(PR.oth k ns is).at H q)(_:OthG k ns is)(_:(¬∃sn,Btw b (zs.map (·.1)) k ns is sn))(_:∀H',cg H0 H'→Q (.bl false) H')
def NoSty (zs:List LX)(n z:Str):Prop:=∀x∈zs,x.1.n=n→z∈x.1.st.map (·.1)∨∀i:Nat,x.1.ss[i]? =some z→¬(1≤i∧i+1<x.1.ss.length)
inductive spTakeSN (CP CL:aq)(vs:List V)(H:Hp)(Q:VK)(_:XK):Prop
 | mk (H0:Hp)(p q DL LB:aq)(b:Int)(zs:List LX)(bt:List Sn)(n z:Str)(l o w:Int)(_:vs=[.ref p,.ref q])(_:PlI CP CL H0 H p b zs bt DL LB)(_:zs.length≤90)(_:bt.length≤90)(_:H q=some (.tup [.str "stay",.str n,.str z,.int l,.int o,.int w]))(_:(∀x∈zs,x.1.st.length≤1000))(_:NoSty zs n z)(_:∀H',cg H0 H'→Q (.bl false) H')
theorem linK_in {n:Str}(h:n∈zs.map (·.1.n)):∃x∈zs,x.1.n=n:=by
 obtain⟨x,hx,e⟩:=aK.mp h;exact⟨x,hx,e⟩
theorem oE {α β:Type}{f:α→β}:∀{l:List α},(l.map f).Nodup→∀{x y:α},x∈l→y∈l→f x=f y→x=y
 | [],_,_,_,h,_,_=>by cases h
 | a::l,nn,x,y,hx,hy,e=>by
  rw[bo,bV] at nn
  rcases az.mp hx with r | hx
  ·rcases az.mp hy with q | hy
   ·exact r.trans q.symm
   ·exact rM (by rw[←r,e];exact b8 hy) nn.1
  ·rcases az.mp hy with q | hy
   ·exact rM (by rw[←q,←e];exact b8 hx) nn.1
   ·exact oE nn.2 hx hy e
theorem Bt.oth {x y:Ln}{k:Str}(B:Bt b x y k ns is sn):OthG k ns is∧ns[0]? =some x.n∧ns[1]? =some y.n:=by
 cases B with
 | change=>exact⟨.change,rfl,rfl⟩
 | apart=>exact⟨.apart,rfl,rfl⟩
 | meet=>exact⟨.meet,rfl,rfl⟩
theorem Bt.chg {x y:Ln}{k:Str}(B:Bt b x y k ns is sn)(hk:k = "change")(hn:ns=[n1,n2,z]):∃i j:Nat,x.ss[i]? =some z∧1≤i∧y.ss[j]? =some z∧j+1<y.ss.length:=by
 cases B with
 | change h1 h2 h3 h4=>cases hn;exact⟨_,_,h1,h2,h3,h4⟩
 | apart=>exact rM hk ⇑0
 | meet=>exact rM hk ⇑0
theorem Bt.apt {x y:Ln}{k:Str}(B:Bt b x y k ns is sn)(hk:k = "apart")(hn:ns=[n1,n2,z]):∃i j:Nat,x.ss[i]? =some z∧i+1<x.ss.length∧y.ss[j]? =some z∧j+1<y.ss.length:=by
 cases B with
 | apart h1 h2 h3 h4=>cases hn;exact⟨_,_,h1,h2,h3,h4⟩
 | change=>exact rM hk ⇑0
 | meet=>exact rM hk ⇑0
theorem Bt.mee {x y:Ln}{k:Str}{z2:Str}(B:Bt b x y k ns is sn)(hn:ns=[n1,n2,z,z2]):∃i j:Nat,x.ss[i]? =some z∧x.ss[i+1]? =some z2∧y.ss[j]? =some z2∧y.ss[j+1]? =some z:=by
 cases B with
 | meet h1 h2 h3 h4 h5 h6=>cases hn;exact⟨_,_,h1,h2,h4,h5⟩
 | apart=>cases hn
 | change=>cases hn
inductive spBtwG (CP CL:aq)(vs:List V)(H:Hp)(Q:VK)(_:XK):Prop
 | mk (H0:Hp)(p q DL LB:aq)(b:Int)(zs:List LX)(bt:List Sn)(k:Str)(ns:List Str)(is:List Int)(_:vs=[.ref p,.ref q])(_:PlI CP CL H0 H p b zs bt DL LB)(_:(PR.oth k ns is).at H q)(_:OthG k ns is)(_:(∀sn t H',Btw b (zs.map (·.1)) k ns is sn→cg H H'→H' t=some (.tup [.int sn.s,.int sn.g,.int sn.l,.int sn.o,.int sn.w])→Q (.ref t) H'))(_:((¬∃sn,Btw b (zs.map (·.1)) k ns is sn)→∀v H',cg H H'→NoSp H' v→Q v H'))
theorem bt_same {x y:Ln}{k:Str}{sn':Sn}(ndx:x.ss.Nodup)(ndy:y.ss.Nodup)(B:Bt b x y k ns is sn)(B':Bt b x y k ns is sn'):sn'=sn:=by
 generalize hk:k=k' at B';generalize hn:ns=ns' at B';generalize hi:is=is' at B';cases B with
 | change h1 h2 h3 h4 =>
  cases B' with
  | change g1 g2 g3 g4 =>
   cases hn;cases hi;rw[jA ndx h1 g1,jA ndy h3 g3]
  | apart=>exact rM hk ⇑0
  | meet=>exact rM hk ⇑0
 | apart h1 h2 h3 h4 =>
  cases B' with
  | apart g1 g2 g3 g4 =>
   cases hn;cases hi;rw[jA ndx h1 g1,jA ndy h3 g3]
  | change=>exact rM hk ⇑0
  | meet=>exact rM hk ⇑0
 | meet h1 h2 h3 h4 h5 h6 =>
  cases B' with
  | meet g1 g2 g3 g4 g5 g6 =>
   cases hn;cases hi;obtain rfl:=jA ndx h1 g1;obtain rfl:=jA ndy h4 g4;cases h3.symm.trans g3;cases h6.symm.trans g6;rfl
  | apart=>exact rM hk ⇑0
  | change=>exact rM hk ⇑0
theorem Btw.nms {k:Str}(B:Btw b (zs.map (·.1)) k ns is sn)(g0:ns[0]? =some n1)(g1:ns[1]? =some n2):n1∈zs.map (·.1.n)∧n2∈zs.map (·.1.n)∧n1≠n2:=by
 obtain⟨x,y,hx,hy,ne,B⟩:=B;obtain⟨_,a,c⟩:=B.oth;cases a.symm.trans g0;cases c.symm.trans g1;have m:∀{x:Ln},x∈zs.map (·.1)→x.n∈zs.map (·.1.n):=λhx=>by
  obtain⟨z,hz,rfl⟩:=aK.mp hx;exact aK.mpr ⟨z,hz,rfl⟩
 exact⟨m hx,m hy,ne⟩
theorem Btw.of {k:Str}{x y:LX}(nn:(zs.map (·.1.n)).Nodup)(hx:x∈zs)(hy:y∈zs)(g0:ns[0]? =some x.1.n)(g1:ns[1]? =some y.1.n)(B:Btw b (zs.map (·.1)) k ns is sn):Bt b x.1 y.1 k ns is sn:=by
 obtain⟨x',y',hx',hy',ne,B⟩:=B;obtain⟨_,a,c⟩:=B.oth;obtain⟨p,hp,rfl⟩:=aK.mp hx';obtain⟨q,hq,rfl⟩:=aK.mp hy';cases oE nn hp hx (bF (a.symm.trans g0));cases oE nn hq hy (bF (c.symm.trans g1));exact B
theorem btw_of (vs:List V)(H:Hp)(Q:VK)(E:XK)(h:spBtw CP CL vs H Q E):spBtwG CP CL vs H Q E:=by
 obtain⟨H0,p,q,DL,LB,b,zs,bt,k,ns,is,sn,rfl,I,hq,B,kk⟩:=h;obtain⟨x',y',hx',hy',ne,B'⟩:=id B;obtain⟨x,hx,rfl⟩:=aK.mp hx';obtain⟨y,hy,rfl⟩:=aK.mp hy';obtain⟨o,g0,g1⟩:=B'.oth;apply⟨H0,p,q,DL,LB,b,zs,bt,k,ns,is,rfl,I,hq,o,λsn' t H' C S e=>?_,λno=>rM ⟨_,B⟩ no⟩;cases bt_same (I.ln x hx).nd (I.ln y hy).nd B' (C.of I.nn hx hy g0 g1);exact kk t H' S e
theorem btwN_of (vs:List V)(H:Hp)(Q:VK)(E:XK)(h:spBtwN CP CL vs H Q E):spBtwG CP CL vs H Q E:=by
 obtain⟨H0,p,q,DL,LB,b,zs,bt,k,ns,is,rfl,I,hq,fm,no,kk⟩:=h;exact⟨H0,p,q,DL,LB,b,zs,bt,k,ns,is,rfl,I,hq,fm,λsn t H' C=>rM ⟨_,C⟩ no,λ_=>kk⟩
inductive p7 (CP CL:aq)(vs:List V)(H:Hp)(Q:VK)(_:XK):Prop
 | mk (H0:Hp)(p q DL LB:aq)(b:Int)(zs:List LX)(bt:List Sn)(n z:Str)(l o w:Int)(_:vs=[.ref p,.ref q])(_:PlI CP CL H0 H p b zs bt DL LB)(_:Few zs bt)(_:H q=some (.tup [.str "stay",.str n,.str z,.int l,.int o,.int w]))(_:(∀x∈zs,x.1.n=n→x.1.st.length≤1000))(_:(NoSty zs n z→∀H',cg H0 H'→Q (.bl false) H'))(_:∀(x:LX) (i:Nat) H',x∈zs→x.1.n=n→z ∉ x.1.st.map (·.1)→x.1.ss[i]? =some z→1≤i→i+1<x.1.ss.length→PlI CP CL H0 H' p b (zs.map (stayX x.1.n z (l,o,w))) bt DL LB→Q (.bl (snB b (mE zs) ⟨x.1.fi+2 * i - 1,x.1.fi+2 * i,l,o,w⟩)) H')
theorem takeS_of (vs:List V)(H:Hp)(Q:VK)(E:XK)(h:spTakeS CP CL vs H Q E):p7 CP CL vs H Q E:=by
 obtain⟨H0,p,q,DL,LB,b,zs,bt,x,z,l,o,w,i,rfl,I,fw,hq,hx,hz,lst,e1,e2,e3,k⟩:=h;apply⟨H0,p,q,DL,LB,b,zs,bt,x.1.n,z,l,o,w,rfl,I,fw,hq,λy hy e=>by cases oE I.nn hy hx e;exact lst,λno=>?_,λy j H' hy e hz' a1 a2 a3 I'=>?_⟩
 ·rcases no x hx rfl with no | no
  ·exact rM no hz
  ·exact rM ⟨e2,e3⟩ (no i e1)
 ·cases oE I.nn hy hx e
  cases jA (I.ln x hx).nd e1 a1;exact k H' I'
theorem takeSN_of (vs:List V)(H:Hp)(Q:VK)(E:XK)(h:spTakeSN CP CL vs H Q E):p7 CP CL vs H Q E:=by
 obtain⟨H0,p,q,DL,LB,b,zs,bt,n,z,l,o,w,rfl,I,f1,f2,hq,few,no,k⟩:=h;apply⟨H0,p,q,DL,LB,b,zs,bt,n,z,l,o,w,rfl,I,⟨⋯,⋯⟩,hq,λx hx _=>few x hx,λ_=>k,λy j H' hy e hz' a1 a2 a3 I'=>?_⟩
 rcases no y hy e with no | no
 ·exact rM no hz'
 ·exact rM ⟨a2,a3⟩ (no j a1)
theorem ok_btwG {f3:aq}{d3:aY}(F:Fun K "span_between" "Plan.span_between" sBtw f fd)(CC:PlaC K CP)(G1:Fn K mg "change_span" sChange pzt f1 d1)(F1:‹0› 2 f1 d1 pzt (spChangeG CL))
  (G2:Fn K mg "apart_span" sApart pzj f2 d2) (F2:‹0› 2 f2 d2 pzj (spApartG CL)) (G3:Fn K mg "meet_span" sMeet pzj f3 d3) (F3:‹0› 2 f3 d3 pzj (spMeetG CL)):‹0› 3 f fd pza (spBtwG CP CL):=by
 specialize F.ok scBtw;obtain ⟨H0,p,q,DL,LB,b,zs,bt,k,ns,is,rfl,I,hq,fm,kY,kN⟩:=h;have u1:=i9 (jN (show 1≤64 by decide) _) hr.units;apply ⟨_,PSl.h (bh ⟨(psZ 2 scBtw.nd (pe_dget1 u1 (fG (pv 0) rfl) (ixZ (pv 1)) ⟨rfl,rfl,rfl,rfl⟩))⟩ (bh ⟨(psZ 3 scBtw.nd (pe_dget1 u1 (fG (pv 0) rfl) (ixZ (pv 1)) ⟨rfl,rfl,rfl,rfl⟩))⟩
  (bh ⟨(eO (PW.pt (ma (bK pQ (pv 2) ir (cn _)) (ma (bK pQ (pv 3) ir (cn _)) (kq (bK iM (ixZ (pv 1)) (ixZ (pv 1)) (cn _)))))) (bD (cb ir)) cv)⟩
  (bh ⟨(eO (bK iM (ixZ (pv 1)) dU (cn _)) (bD (cb (pc1 G1 F1 hr (ah (pv 2) (ah (pv 3) (ah (pv 1) aw)))))) cv)⟩
  (bh ⟨(eO (bK iM (ixZ (pv 1)) dU (cn _)) (bD (cb (pc1 G2 F2 hr (ah (fG (pv 0) rfl) (ah (pv 2) (ah (pv 3) (ah (pv 1) aw))))))) cv)⟩
  (fj ⟨(cb (pc1 G3 F3 hr (ah (fG (pv 0) rfl) (ah (pv 2) (ah (pv 3) (ah (pv 1) aw))))))⟩)))))),?_⟩
 and_intros
 apply sq5 ?_
 intros
 obtain⟨dp,hp⟩:=I.pl;have dl:=I.dl;obtain⟨n1,n2,r,hq'⟩:∃(n1 n2:Str) (r:List V),H q=some (.tup (.str k:: .str n1:: .str n2::r))∧ns[0]? =some n1∧ns[1]? =some n2:=by
  cases fm with
  | change=>exact⟨_,_,_,hq,rfl,rfl⟩
  | apart=>exact⟨_,_,_,hq,rfl,rfl⟩
  | meet=>exact⟨_,_,_,hq,rfl,rfl⟩
 obtain⟨hq',g0,g1⟩:=hq';apply⟨ρ,p,CP,dp,_,ρ,hp,CC.cl,CC.n2,rfl,DL,rfl,.inl ⟨_,.inl dl⟩,ρ,q,τ,zT hq',aH (j:=1) rfl,_,.inl ⟨_,.inr n1,.inl dl,rfl,rfl⟩,?_⟩;apply⟨ρ,p,CP,dp,_,ρ,hp,CC.cl,CC.n2,rfl,DL,rfl,.inl ⟨_,.inl dl⟩,ρ,q,τ,zT hq',aH (j:=2) rfl,_,.inl ⟨_,.inr n2,.inl dl,rfl,rfl⟩,?_⟩;have nn:=λno=>kN no .non H (cg.refl _) (.inl rfl)
 by_cases m1:n1∈zs.map (·.1.n)
 rotate_left
 ·rw[qB m1]
  exact⟨ρ,rfl,ρ,lO rfl (nn λ⟨_,B⟩=>m1 (B.nms g0 g1).1)⟩
 obtain⟨x,hx,rfl⟩:=linK_in m1;rw[qi I.nn hx];apply⟨ρ,rfl,ρ,iQ (rP nofun) ?_⟩
 by_cases m2:n2∈zs.map (·.1.n)
 rotate_left
 ·rw[qB m2]
  exact⟨ρ,rfl,ρ,lO rfl (nn λ⟨_,B⟩=>m2 (B.nms g0 g1).2.1)⟩
 obtain⟨y,hy,rfl⟩:=linK_in m2;rw[qi I.nn hy];apply⟨ρ,rfl,ρ,iQ (rP nofun) ?_⟩;apply⟨ρ,q,τ,zT hq',aH (j:=1) rfl,ρ,q,τ,zT hq',aH (j:=2) rfl,rfl,ρ,jq (λc=>nn λ⟨_,B⟩=>(B.nms g0 g1).2.2 (by injection rQ c)) (λc=>?_)⟩;have ne:x.1.n≠y.1.n:=λz=>c (rO (by rw[z]))
 have Ax:=(I.ln x hx).ok;have Ay:=(I.ln y hy).ok;have bx:x.1∈zs.map (·.1):=b8 hx;have by_:y.1∈zs.map (·.1):=b8 hy;apply⟨ρ,q,τ,zT hq',aH (j:=0) rfl,rfl,ρ,?_⟩;cases fm with
 | change =>
  cases g0;cases g1;apply lO (rO rfl) ?_;apply⟨ρ,ρ,ρ,_,_,_,_,_,q,_,_,_,_,_,_,_,_,ρ,Ax,Ay,hq,λi j q H' a1 a2 a3 a4=>kY _ q H' ⟨x.1,y.1,bx,by_,ne,.change a1 a2 a3 a4⟩,λno=>kN λhz0=>?_⟩;obtain⟨_,B⟩:=hz0;obtain⟨i,j,a1,a2,a3,a4⟩:=(B.of I.nn hx hy rfl rfl).chg rfl rfl;exact no i j a1 a2 a3 a4
 | apart =>
  cases g0;cases g1;apply iQ ⇑0 ?_;apply⟨ρ,q,τ,zT hq',aH (j:=0) rfl,rfl,ρ,lO (rO rfl) ?_⟩;apply⟨ρ,p,CP,dp,_,ρ,hp,CC.cl,CC.n1,rfl,ρ,ρ,ρ,b,_,_,_,q,_,_,_,_,_,_,_,_,ρ,Ax,Ay,hq,λi j q H' a1 a2 a3 a4=>kY _ q H' ⟨x.1,y.1,bx,by_,ne,.apart a1 a2 a3 a4⟩,λno=>kN λhz0=>?_⟩;obtain⟨_,B⟩:=hz0;obtain⟨i,j,a1,a2,a3,a4⟩:=(B.of I.nn hx hy rfl rfl).apt rfl rfl;exact no i j a1 a2 a3 a4
 | meet =>
  cases g0;cases g1;apply iQ ⇑0 ?_;apply⟨ρ,q,τ,zT hq',aH (j:=0) rfl,rfl,ρ,iQ ⇑0 ?_⟩;apply⟨ρ,p,CP,dp,_,ρ,hp,CC.cl,CC.n1,rfl,ρ,ρ,ρ,b,_,_,_,q,_,_,_,_,_,_,_,_,_,ρ,Ax,Ay,hq,λi j r u q H' a1 a2 a3 a4 a5 a6=>kY _ q H' ⟨x.1,y.1,bx,by_,ne,.meet a1 a2 a3 a4 a5 a6⟩,λno=>kN λhz0=>?_⟩;obtain⟨_,B⟩:=hz0;obtain⟨i,j,a1,a2,a3,a4⟩:=(B.of I.nn hx hy rfl rfl).mee rfl;exact no i j a1 a2 a3 a4
theorem ok_takeBN {fb fs:aq}{db ds:aY}(F:Fun K "take_between" "Plan.take_between" sTakeB f fd)(PK:PlaK P w K mg base CP CL fh fs dh ds)(FHN:‹0› 1 fh dh pzb (spHapN CP CL))(mb:rb K CP "span_between" fb)(FB:‹0› 3 fb db pza (spBtwN CP CL))(bb:Binds K db pza [])
  (GS:Fn K mg "is_span" sSpan pzi f1 d1) (FS:‹0› 4 f1 d1 pzi rg):‹0› 5 f fd pza (spTakeBN CP CL):=by
 specialize F.ok scTakeB;obtain ⟨H0,p,q,DL,LB,b,zs,bt,k,ns,is,rfl,I,f1,f2,hq,fm,no,kk⟩:=h;have CC:=PK.cc;apply ⟨_,PSl.h (bh ⟨(psZ 2 scTakeB.nd (iD (pv 0) CC.cl mb FB (hr.mono ↥0) bb .nil ju (ah (pv 1) aw)))⟩
  (bh ⟨(hW (jQ bu bN bM gp (fG (pv 0) rfl) (ah (pv 2) aw)))⟩
  (fj ⟨(cb (mQ (pc1 GS FS hr (ah (fG (pv 0) rfl) (ah (iX (pv 0) CC.cl PK.m1 FHN (hr.mono ↥0) PK.b1 .nil ju) (ah (pv 2) aw)))) (nP (iX (pv 0) CC.cl PK.m2 PK.f2 hr PK.b2 .nil ju))))⟩))),?_⟩
 and_intros
 apply sq2 ?_
 intros
 obtain⟨dp,hp⟩:=I.pl;have big:(100000:Nat)≤ax:=by decide
 apply⟨ρ,p,dp,ρ,hp,rfl,ρ,H0,p,q,DL,LB,b,zs,bt,k,ns,is,rfl,I,hq,fm,no,λv H1 S1 nv=>?_⟩;have I1:=I.same S1;obtain⟨dp1,hp1⟩:=I1.pl;obtain⟨ys,hB,dB⟩:=I1.lb;have ly:ys.length=bt.length:=by have:=dB.length;rwa [ae] at this
 apply⟨ρ,p,CP,dp1,_,ρ,hp1,CC.cl,CC.n3,rfl,.inl ⟨rfl,_,zL hB⟩,ρ,LB,ς,hB,⋯,?_⟩;have k2:∀c o,c≠LB→H1 c=some o→(upd H1 LB (.lst (ys++[v]))) c=some o:=λc o hc e=>by rw[bf hc];exact e
 generalize upd H1 LB (.lst (ys++[v]))=H2 at k2 ⊢;have kt:∀a t,H1 a=some (.tup t)→H2 a=some (.tup t):=λa t e=>k2 _ _ (dz e hB nofun) e
 have ki:∀c C dx fs,H1 c=some (.ins C dx fs)→H2 c=some (.ins C dx fs):=λc C dx fs e=>k2 _ _ (dz e hB nofun) e
 have PH:PlH CP CL H2 p b zs DL LB:=⟨⟨dp1,ki _ _ _ _ hp1⟩,k2 _ _ (dz I1.dl hB nofun) I1.dl,fun z hz=>by
  obtain ⟨dx,a,bb,g1,g2,g3⟩:=(I1.ln z hz).d;exact ⟨dx,a,bb,ki _ _ _ _ g1,kt _ _ g2,kt _ _ g3⟩⟩
 have S02:cg H0 H2:=λc o e=>k2 _ _ (aZ e I1.nB) (I1.S _ _ e)
 obtain⟨dp2,hp2⟩:=PH.pl;apply⟨ρ,p,CP,dp2,_,ρ,hp2,CC.cl,CC.n1,rfl,ρ,p,dp2,ρ,hp2,rfl,p,DL,LB,b,zs,rfl,PH,⋯,λH3 S3=>?_⟩;have nv3:=(nv.same kt).same λa t e=>S3 _ _ e
 obtain⟨gg,eo⟩:=nv3.no b (mE zs);apply⟨ρ,b,mE zs,v,rfl,gg,?_⟩;rw[eo];exact⟨ρ,iQ rfl (kk H3 (S02.trans S3))⟩
theorem ok_takeSG {fs fc fg fr:aq}{ds:aY}(F:Fun K "take_stay" "Plan.take_stay" sTakeS f fd)(PK:PlaK P w K mg base CP CL fh fs dh ds)(LK:LinK P w K mg base CL fc fg fr dc dg dr)(GS:Fn K mg "is_span" sSpan pzi f1 d1)(FS:‹0› 4 f1 d1 pzi rg):‹0› 5 f fd pza (p7 CP CL):=by
 specialize F.ok scTakeS;obtain⟨H0,p,q,DL,LB,b,zs,bt,n,z,l,o,w,rfl,I,fw,hq,few,kN,kY⟩:=h;have u1:=i9 (jN (show 1≤64 by decide) _) hr.units;have CC:=PK.cc;have LC:=LK.cc;have big:(100000:Nat)≤ax:=by decide
 apply ⟨_,PSl.h (bh ⟨(psZ 2 scTakeS.nd (pe_dget1 u1 (fG (pv 0) rfl) (ixZ (pv 1)) ⟨rfl,rfl,rfl,rfl⟩))⟩ (bh ⟨(psZ 3 scTakeS.nd (ixZ (pv 1)))⟩
  (bh ⟨(eO (PW.pt (ma (bK pQ (pv 2) ir (cn _)) (kq (pt_cmp (pc_din u1 (pv 3) (fG (pv 2) rfl)) rfl)))) (bD (cb qy)) cv)⟩
  (bh ⟨(ps_dput u1 (fG (pv 2) rfl) (pv 3) (cV nU (pv 1) (dJ aC) eR) rfl)⟩
  (fj ⟨(cb (pc1 GS FS hr (ah (fG (pv 0) rfl) (ah (iX (pv 0) CC.cl PK.m1 PK.f1 (hr.mono ↥0) PK.b1 .nil ju) (ah (cw op_catA (fY (ah (PE.cutV (iD (pv 2) LC.cl LK.m1 LK.f1 (hr.mono ↥0) LK.b1 .nil ju (ah (pv 3) aw))) (ah (PE.cutV (iD (pv 2) LC.cl LK.m2 LK.f2 (hr.mono ↥0) LK.b2 .nil ju (ah (pv 3) aw))) aw))) (cV nU (pv 1) (dJ aC) eR)) aw)))))⟩))))),?_⟩
 and_intros
 apply sq4 ?_
 intros
 obtain⟨dp,hp⟩:=I.pl;have dl:=I.dl;have cut3:cutV [V.str "stay",.str n,.str z,.int l,.int o,.int w] (some 3) none=[.int l,.int o,.int w]:=rfl;apply⟨ρ,p,CP,dp,_,ρ,hp,CC.cl,CC.n2,rfl,DL,rfl,.inl ⟨_,.inl dl⟩,ρ,q,τ,zT hq,aH (j:=1) rfl,_,.inl ⟨_,.inr n,.inl dl,rfl,rfl⟩,?_⟩;apply⟨ρ,q,τ,zT hq,aH (j:=2) rfl,?_⟩
 by_cases m1:n∈zs.map (·.1.n)
 rotate_left
 ·rw[qB m1]
  exact⟨ρ,rfl,ρ,lO rfl (kN (λx hx e=>rM (aK.mpr ⟨x,hx,e⟩) m1) H I.S)⟩
 obtain⟨x,hx,rfl⟩:=linK_in m1;rw[qi I.nn hx];have A:=I.ln x hx;obtain⟨dx,a,bb,hX,ha,hb⟩:=id A.d;obtain⟨kvs,hD,lk,hst⟩:=id A.s.ex;apply⟨ρ,rfl,ρ,iQ (rP nofun) ?_⟩;apply⟨ρ,ρ,x.2.1,CL,dx,_,ρ,hX,LC.cl,LC.n4,rfl,x.2.2,ρ,.inl ⟨kvs,.inr z,.inl hD,rfl,rfl⟩,ρ,?_⟩;cases hv:l9 kvs (.inr z) with
 | some v=>exact lO rfl (kN (λy hy e=>by cases oE I.nn hy hx e;exact .inl ((hst z).2.2 (by rw[hv];rfl))) H I.S)
 | none =>
  apply iQ rfl ?_;have hz:z ∉ x.1.st.map (·.1):=((hst z).2.1 hv).2;apply⟨ρ,ρ,q,ρ,zT hq,(by intro y;exact rM y.1 (show ¬(3:Nat)=0 by decide)),λt1 H1 S1 h1=>?_⟩;rw[cut3] at h1;have I1:=I.same S1;apply⟨ρ,x.2.1,CL,dx,_,ρ,S1 _ _ hX,LC.cl,LC.n4,rfl,ρ,x.2.2,ρ,.inl ⟨kvs,.inr z,S1 _ _ hD,rfl,by have:=few x hx rfl;lia,rfl⟩,?_⟩;rw[putK_new hv];have k2:∀c u,c≠x.2.2→H1 c=some u→(upd H1 x.2.2 (.dK (kvs++[(.inr z,.ref t1)]))) c=some u:=λc u hc e=>by rw[bf hc];exact e
  have h2:(upd H1 x.2.2 (.dK (kvs++[(.inr z,.ref t1)]))) x.2.2=some (.dK (kvs++[(.inr z,.ref t1)])):=aP;generalize upd H1 x.2.2 (.dK (kvs++[(.inr z,.ref t1)]))=H2 at k2 h2 ⊢;have hD1:=S1 _ _ hD;have kT:∀c xs,H1 c=some (.tup xs)→H2 c=some (.tup xs):=λc xs e=>k2 _ _ (dz e hD1 nofun) e
  have kI:∀c C dx fs,H1 c=some (.ins C dx fs)→H2 c=some (.ins C dx fs):=λc C dx fs e=>k2 _ _ (dz e hD1 nofun) e
  have nDL:DL≠x.2.2:=λe=>(bV.mp I.nd).1 (by rw[e];exact aK.mpr ⟨x,hx,rfl⟩)
  have S2:StA H2 x.2.2 (x.1.st++[(z,l,o,w)]):=by
   apply⟨_,h2,by rw[ao,ao,lk];rfl,λy=>?_⟩;have ev:l9 (kvs++[(.inr z,.ref t1)]) (.inr y)=(l9 kvs (.inr y)).or (if y=z then some (.ref t1) else none):=by
    unfold l9;rw[List.find?_append]
    by_cases e:y=z
    ·subst e
     rw[rL rfl];have:[((Sum.inr y:Key),V.ref t1)].find? (λkv=>decide (kv.1=Sum.inr y))=some (.inr y,.ref t1):=by simp
     rw[this];cases(kvs.find? λkv=>decide (kv.1=Sum.inr y)) <;> rfl
    ·rw[rK e]
     have:[((Sum.inr z:Key),V.ref t1)].find? (λkv=>decide (kv.1=Sum.inr y))=none:=by simp[cM e]
     rw[this];cases(kvs.find? λkv=>decide (kv.1=Sum.inr y)) <;> rfl
   rw[ev,sty_snoc hz]
   by_cases e:y=z
   ·subst e
    rw[hv,rL rfl,rL rfl];apply⟨λv hv=>⟨t1,(by cases hv;rfl),kT _ _ h1⟩,(λh=>by cases h),(λ_=>by simp)⟩
   ·rw[rK e,rK e,Option.or_none]
    obtain⟨g1,g2,g3⟩:=hst y;apply⟨λv hv=>?_,λh=>⟨(g2 h).1,λm=>?_⟩,λh=>?_⟩
    ·obtain⟨a,q1,q2⟩:=g1 v hv
     exact⟨a,q1,kT _ _ (S1 _ _ q2)⟩
    ·rw[av] at m
     rcases aX.mp m with m | m
     ·exact(g2 h).2 m
     ·exact e (aB.mp m)
    ·rw[av]
     exact cq _ (g3 h)
  have I2:PlI CP CL H0 H2 p b (zs.map (stayX x.1.n z (l,o,w))) bt DL LB:=by
   obtain⟨ys,hB,dB⟩:=I1.lb;obtain⟨dp1,hp1⟩:=I1.pl;have nD0:=I.nD x hx;apply⟨λc u e=>k2 _ _ (aZ e nD0) (I1.S _ _ e),⟨dp1,kI _ _ _ _ hp1⟩,I.nL,I.nB,λy hy=>?_,?_,λy hy=>?_,?_,?_,ys,k2 _ _ (dz hB hD1 nofun) hB,?_⟩
   ·obtain⟨y',hy',rfl⟩:=aK.mp hy
    exact I.nD y' hy'
   ·rw[linK_stay];exact k2 _ _ nDL I1.dl
   ·obtain⟨y',hy',rfl⟩:=aK.mp hy
    have A':=I1.ln y' hy';show LnA H2 CL y'.2.1 y'.2.2 (jH x.1.n z (l,o,w) y'.1);unfold jH;split
    ·rename_i e
     cases oE I.nn hy' hx e;obtain⟨dx',a',b',g1,g2,g3⟩:=A'.d;exact⟨⟨dx',a',b',kI _ _ _ _ g1,kT _ _ g2,kT _ _ g3⟩,S2,A'.nd,A'.two,A'.few,A'.rl⟩
    ·rename_i e
     obtain⟨kv',d1,_⟩:=A'.s.ex;have ny:y'.2.2≠x.2.2:=λz=>e (by cases oE (bV.mp I.nd).2 hy' hx z;rfl)
     exact A'.kept kT kI ((k2 _ _ ny d1).trans d1.symm)
   ·rw[b9]
    exact I.nd
   ·rw[b9]
    have:(λy:LX=>(stayX x.1.n z (l,o,w) y).1.n)=λy:LX=>y.1.n:=funext λy=>pY _ _ _ _
    rw[show((λy:LX=>y.1.n) ∘ stayX x.1.n z (l,o,w))=λy:LX=>y.1.n from this];exact I.nn
   ·have fin:∀{vs:List V} {sp:List Sn},jc H1 vs (sp.map snD)→jc H2 vs (sp.map snD):=by
     intro vs sp
     induction sp generalizing vs with
     | nil=>intro h;cases h;exact .nil
     | cons x sp ih =>
      intro h;cases h with
      | cons h r =>
       obtain⟨a,us,rfl,ha,rz⟩:=h.tup_of;have ez:=jc.ints_of rz;subst ez;exact .cons (.tup (kT _ _ ha) (jc.ints _)) (ih r)
    exact fin dB
  obtain⟨dp2,hp2⟩:=I2.pl;have fw2:Few (zs.map (stayX x.1.n z (l,o,w))) bt:=⟨by rw[ae];exact fw.a,fw.b⟩;apply⟨ρ,p,CP,dp2,_,ρ,hp2,CC.cl,CC.n1,rfl,ρ,p,dp2,ρ,hp2,rfl,H0,p,DL,LB,b,_,bt,rfl,I2,fw2,λH3 S3=>?_⟩;rw[hapN_stay];have L3:LinD H3 CL x.2.1 x.1.n x.1.ss x.1.rs x.2.2 x.1.fi:=⟨dx,a,bb,S3 _ _ (kI _ _ _ _ (S1 _ _ hX)),S3 _ _ (kT _ _ (S1 _ _ ha)),S3 _ _ (kT _ _ (S1 _ _ hb))⟩;obtain⟨dx3,a3,b3,g3,gA,gB⟩:=id L3;apply⟨λv H'=>cg H3 H'∧∃c,v=oV c∧((∃i:Nat,c=some (x.1.fi+2 * i - 1)∧x.1.ss[i]? =some z∧1≤i)∨(c=none∧∀i:Nat,x.1.ss[i]? =some z→i=0)),λv H4 hN=>?_,?_⟩
  rotate_left
  ·exact⟨ρ,x.2.1,dx3,ρ,g3,rfl,ρ,x.2.1,x.2.2,x.1.n,z,x.1.ss,x.1.rs,x.1.fi,rfl,L3,A.few,A.two,A.nd,λH4 S4=>⟨λi a1 a2=>⟨S4,some _,rfl,.inl ⟨i,rfl,a1,a2⟩⟩,λno=>⟨S4,none,rfl,.inr ⟨rfl,no⟩⟩⟩⟩
  obtain⟨S4,c,rfl,hc⟩:=hN;have L4:LinD H4 CL x.2.1 x.1.n x.1.ss x.1.rs x.2.2 x.1.fi:=⟨dx3,a3,b3,S4 _ _ g3,S4 _ _ gA,S4 _ _ gB⟩;apply⟨λv H'=>cg H4 H'∧∃g,v=oV g∧((∃j:Nat,g=some (x.1.fi+2 * j)∧x.1.ss[j]? =some z∧j+1<x.1.ss.length)∨(g=none∧∀j:Nat,x.1.ss[j]? =some z→x.1.ss.length≤j+1)),λv H5 hN=>?_,?_⟩
  rotate_left
  ·exact⟨ρ,x.2.1,dx3,ρ,S4 _ _ g3,rfl,ρ,x.2.1,x.2.2,x.1.n,z,x.1.ss,x.1.rs,x.1.fi,rfl,L4,A.few,A.two,A.nd,λH5 S5=>⟨λj a1 a2=>⟨S5,some _,rfl,.inl ⟨j,rfl,a1,a2⟩⟩,λno=>⟨S5,none,rfl,.inr ⟨rfl,no⟩⟩⟩⟩
  obtain⟨S5,g,rfl,hg⟩:=hN;apply⟨qW,λt6 H6 S6 h6=>?_⟩;have S36:=S3.trans (S4.trans (S5.trans S6));have hq6:H6 q=some (.tup [.str "stay",.str x.1.n,.str z,.int l,.int o,.int w]):=S36 _ _ (kT _ _ (S1 _ _ hq));apply⟨ρ,ρ,q,ρ,zT hq6,(by intro y;exact rM y.1 (show ¬(3:Nat)=0 by decide)),λt7 H7 S7 h7=>?_⟩;rw[cut3] at h7;apply⟨t6,t7,ς,S7 _ _ h6,h7,(by show 2+3≤ax;decide),λt8 H8 S8 h8=>?_⟩;have h8:H8 t8=some (.tup [oV c,oV g,.int l,.int o,.int w]):=h8;have I8:=I2.same (S36.trans (S7.trans S8));have no:(c=none∨g=none)→(∀i:Nat,x.1.ss[i]? =some z→¬(1≤i∧i+1<x.1.ss.length))→Q (.bl false) H8∧NoSp H8 (.ref t8):=λe h=>⟨kN (λy hy e=>by cases oE I.nn hy hx e;exact .inr h) H8 I8.S,.inr ⟨t8,c,g,l,o,w,rfl,h8,e⟩⟩
  have nsp:(Q (.bl false) H8∧NoSp H8 (.ref t8))→rg [V.int b,V.int (mE zs),V.ref t8] H8 Q E0:=λn=>by
   obtain⟨gg,eo⟩:=n.2.no b (mE zs);exact⟨b,mE zs,ρ,gg,by rw[eo];exact n.1⟩
  rcases hc with ⟨i,rfl,i1,i2⟩ | ⟨rfl,ni⟩
  ·rcases hg with ⟨j,rfl,j1,j2⟩ | ⟨rfl,nj⟩
   ·cases jA A.nd i1 j1
    have h8:H8 t8=some (.tup [.int (x.1.fi+2 * i - 1),.int (x.1.fi+2 * i),.int l,.int o,.int w]):=h8;apply⟨b,mE zs,ρ,sn_g1 (x:=⟨_,_,_,_,_⟩) h8,?_⟩;rw[sn_at (x:=⟨x.1.fi+2 * i - 1,x.1.fi+2 * i,l,o,w⟩) h8];exact kY x i H8 hx rfl hz i1 i2 j2 I8
   ·exact nsp (no (.inr rfl) λi h1 h2=>rM (nj i h1) ⋯)
  ·exact nsp (no (.inl rfl) λi h1 h2=>rM (ni i h1) ⋯)
end HN
namespace L2
open PySem PySem.Spec PyProof.Rows
theorem tw_set (hN:X.N.Nodup)(hi:X.N[i]? =some x)(hx:Loc X.env.scope x)(he:PEs X e te)(hs:lG e (some (.Name x pos')) pos.line X.env=iJ false:=by rfl)(hf:X.fn x=true∨X.env.scope.names.lookup x=some .local:=by first | exact .inl rfl | exact .inr rfl | assumption):PSt X (.Assign [.Name x pos'] e pos) (tAsg te (oP i)):=⟨ps_set hN hi hx he.h hs hf⟩
theorem tw_if {c:Expr}{a b:List cN}{tc:TT}{t u:TS}(hc:PT X c tc)(ha:PSl X a t)(hb:PSl X b u):PSt X (.If c a b pos) (tIfS tc t u):=⟨eO hc ha.h hb.h⟩
theorem rF:PSl X [] tNext:=⟨cv⟩
theorem exw_of {t:TS}{C:TS→Prop}(h:PSl X sts t)(k:C t):∃t,PSs X sts t∧C t:=⟨t,h.h,k⟩
end L2
namespace HN
open PySem L2 PyProof.Rows HT2
local macro_rules
 |`(tactic|and_intros)=>`(tactic|try dsimp only[cxK])
abbrev sNms:cN:=top 42
abbrev ABC:Str:="abcdefghijklmnopqrstuvwxyz"
abbrev rD (c:Nat):Str:=⟨#[c]⟩
def strOf (cs:List Nat):Str:=⟨cs.toArray⟩
theorem abc_at {r:Nat}(h:r<26):atI ABC.cps.toList (r:Int)=some (97+r):=by
 have:∀i:Fin 26,atI ABC.cps.toList ((i:Nat):Int)=some (97+(i:Nat)):=by trivial
 exact this ⟨r,h⟩
theorem abc_ix {r:Nat}(h:r<26):cO ABC (rD (97+r)) 0 ABC.length 1=[r]:=by
 have:∀i:Fin 26,cO ABC (rD (97+(i:Nat))) 0 ABC.length 1=[(i:Nat)]:=by trivial
 exact this ⟨r,h⟩
theorem join_one:∀cs:List Nat,jB ("" :Str) (cs.map rD)=strOf cs:=λcs=>by
 rw[show("" :Str)=gr by trivial];have e:jB gr (cs.map rD)=gW gr (cs.map rD):=gu _ _;rw[e];have go:∀cs:List Nat,(gW gr (cs.map rD)).cps.toList=cs:=by
  intro cs
  induction cs with
  | nil=>rfl
  | cons c r ih =>
   cases r with
   | nil=>rfl
   | cons d r =>
    show(rD c++gr++gW gr ((d::r).map rD)).cps.toList=_;rw[cps_app,ih,cps_app];rfl
 exact str_ext (by rw[go cs];simp[strOf])
theorem strOf_cps (cs:List Nat):(strOf cs).cps.toList=cs:=by simp[strOf]
theorem strOf_nam {cs:List Nat}(h1:1≤cs.length)(h8:cs.length≤8)(h:∀c∈cs,97≤c∧c≤122):nam (strOf cs)=true:=by
 have hl:(strOf cs).length=cs.length:=by show(strOf cs).cps.size=_;simp[strOf]
 unfold nam;rw[hl,strOf_cps,rO h1,rO h8,kZ,kZ,jF];exact λc hc=>rO (h c hc)
def nmK (cs:List Nat)(m f k:Nat):Str:=strOf (cs.set m (97+(f+k) % 26))
def nms (cs:List Nat)(m f n:Nat):List Str:=(cI n).map (nmK cs m f)
theorem nms_nd {cs:List Nat}{f:Nat}(hm:m<cs.length)(hn:n≤26):(nms cs m f n).Nodup:=by
 apply gC.mpr λi j hi hj hij e=>?_
 have l:(nms cs m f n).length=n:=by unfold nms;rw[ae,j9]
 simp only[nms,List.getElem_map,List.getElem_range] at e;have e1:=rR (λs:Str=>s.cps.toList[m]?) e;unfold nmK at e1;simp only[strOf_cps,ke hm] at e1;injection e1 with e1
 lia
inductive spNms (vs:List V)(H:Hp)(Q:VK)(_:XK):Prop
 | mk (p:aq)(n:Int)(k:Nat)(_:vs=[.ref p,.int (k:Nat)])(_:H p=some (.lst [.int n]))(_:k≤10)(_:∀(L:aq) (ns:List Str) (H':Hp),Mv p H H'→H' L=some (.lst (ns.map V.str))→ns.length=k→ns.Nodup→(∀z∈ns,nam z=true)→Q (.ref L) H')
theorem Mv.free (a:Mv p H H1)(h:H1 q=none):H q=none:=by
 cases e:H q with
 | none=>rfl
 | some o =>
  by_cases c:q=p
  ·obtain⟨n,hn⟩:=a.2
   rw[c,hn] at h;cases h
  ·rw[a.1 q o c e] at h;cases h
theorem scNms:cA ["_law_pot_here","_law_lots","_law_letters","_law_base","_law_at","_law_first","_law_names_here","_law_k"] pzz (defScope sNms):=by trivial
theorem ok_nms (F:Fun K "_law_names" "_law_names" sNms f fd)(T:Nm mg)(T2:Nt mg)(G1:Fn K mg "_law_take" qu pzd f1 fd1):‹0› 2 f fd pzz spNms:=by
 have F1:‹0› 1 f1 fd1 pzd nM:=mB G1.F;specialize F.ok scNms;obtain ⟨p,n,lots,rfl,hp,hk,k⟩:=h;have hr1:jI 1 _:=hr;apply ⟨_,PSl.h (bh ⟨(psZ 2 scNms.nd dU)⟩
  (bh ⟨(pq (iy:=3) (fr:=["_law_letters","_law_pot_here"]) (js:=[2,0]) scNms.nd rfl (.inl rfl) rfl (ku rfl T2.range (ah (cw dZ aC (pc1 G1 F1 hr1 (ah (pv 0) (ah aC aw)))) aw)) ⇑0 rfl ⇑0 rfl (by exists sNms) ⇑0 rfl ⇑0 (fun _ _ _ _ _=>⟨(cE ix_str (pv 1) (pc1 G1 F1 hr1 (ah (pv 2) (ah aC aw))) (fun _ _=>rfl)),j7⟩))⟩
  (bh ⟨(psZ 4 scNms.nd (pc1 G1 F1 hr1 (ah (pv 0) (ah (bS bO rfl T.len aS (ah (pv 3) aw)) aw))))⟩
  (bh ⟨(psZ 5 scNms.nd (jQ fW PySem.F.slot_str_index PySem.F.type_str_index mt_indexT1 (pv 2) (ah (cE aW (pv 3) (pv 4) (fun _ _=>rfl)) aw)))⟩
  (bh ⟨(psZ 6 scNms.nd (kL aw))⟩
  (bh ⟨(iC bX rfl (ku rfl T2.range (ah (pv 1) aw)) (pgZ 7 scNms.nd) (PSl.h (bh ⟨(ps_asg (cE ix_str (pv 2) (cw pP (cw dZ (pv 5) (pv 7)) aC) (fun _ _=>rfl)) (pg_sub (pv 3) (pv 4) set_list))⟩
  (fj ⟨(hW (jQ bu bN bM gp (pv 6) (ah (jQ fW PySem.F.slot_str_join PySem.F.type_str_join mt_join dU (ah (pv 3) aw)) aw)))⟩))))⟩
  (fj ⟨(cb (pv 6))⟩))))))),?_⟩
 and_intros
 apply sq6 ?_
 intros
 apply⟨ρ,p,n,8,rfl,hp,↥0,↥0,λr H1 r0 r1 M1=>⟨ς,1+r,rfl,⋯,⋯,?_⟩⟩
 let pZ1:zW:=λi zs H4=>Mv p H H4∧∃cs:List Nat,zs=cs.map (λc=>V.str (rD c))∧cs.length=i∧∀c∈cs,97≤c∧c≤122
 apply pL (n:=(1+r).toNat) pZ1 ⟨M1,[],rfl,rfl,λ_ h=>rM h ∅⟩ (λi zs H4 _ ⟨_,cs,e,hl,_⟩=>by rw[e,ae,hl];exact aA _) (small_le ⋯) (λi zs H4 hi ⟨M4,cs,e4,hl4,all4⟩=>?_) (λzs H4 ⟨M4,cs,e4,hl4,all4⟩ B hB=>?_)
 ·obtain⟨n4,hp4⟩:=M4.2
  apply jj ?_;apply⟨ρ,ρ,p,n4,26,rfl,hp4,↥0,↥0,λr H5 r0 r1 M5=>?_⟩;obtain⟨m,rfl⟩:=cU r0;apply⟨_,_,97+m,rfl,rfl,⇑0,abc_at ⋯,M4.trans M5,cs++[97+m],by rw[e4,av];rfl,by rw[ao,hl4];rfl,λc hc=>?_⟩
  rcases aX.mp hc with hc | hc
  ·exact all4 c hc
  ·rw[aB.mp hc];lia
 have M5:Mv p H (upd H4 B (.lst zs)):=M4.new hB;have hB5:(upd H4 B (.lst zs)) B=some (.lst (cs.map λc=>V.str (rD c))):=by rw[aP,e4]
 have nBp:B≠p:=M4.ne hB;have nB0:H B=none:=by
  cases e:H B with
  | none=>rfl
  | some o=>rw[M4.1 B o nBp e] at hB;cases hB
 have nB:H B=none∧B≠p:=⟨nB0,nBp⟩;generalize upd H4 B (.lst zs)=H5 at M5 hB5 ⊢;obtain⟨n5,hp5⟩:=M5.2;have l1:1≤cs.length:=by lia
 have l8:cs.length≤8:=by lia
 apply⟨ρ,ρ,B,ρ,.inl (zL hB5),p,n5,ρ,hp5,(by rw[ae];lia),(by rw[ae];lia),λr2 H6 a0 a1 M6=>?_⟩;obtain⟨m,rfl⟩:=cU a0;rw[ae] at a1;have hm:m<cs.length:=by lia
 have hB6:=M6.1 _ _ nB.2 hB5;obtain⟨c,hc⟩:∃c,cs[m]? =some c:=⟨_,gE hm⟩;obtain⟨c0,c1⟩:=all4 c (aD hc);obtain⟨g,rfl⟩:∃g,c=97+g:=⟨c - 97,⋯⟩;apply⟨ρ,rfl,ρ,ρ,B,τ,zL hB6,aH (j:=m) (by rw[ay,hc];rfl),_,_,g,[],rfl,rfl,abc_ix ⋯,?_⟩;apply⟨(by show 0≤ax;decide),λL hL=>?_⟩;have M7:Mv p H (upd H6 L (.lst [])):=(M5.trans M6).new hL;have hL7:(upd H6 L (.lst [])) L=some (.lst []):=aP;have BL:B≠L:=aZ hB6 hL;have hB7:(upd H6 L (.lst [])) B=some (.lst (cs.map λc=>V.str (rD c))):=by rw[bf BL];exact hB6
 have Lp:L≠p:=(M5.trans M6).ne hL;have nL:H L=none:=by
  cases e:H L with
  | none=>rfl
  | some o=>rw[(M5.trans M6).1 L o Lp e] at hL;cases hL
 generalize upd H6 L (.lst [])=H7 at M7 hL7 hB7 ⊢;apply⟨ρ,(lots:Int),rfl,⋯,⋯,?_⟩
 let pZ1:zV:=λi σ H2=>(∀c o,c≠B→c≠L→H7 c=some o→H2 c=some o)∧(∃y,H2 B=some (.lst ((cs.set m y).map λc=>V.str (rD c))))∧H2 L=some (.lst ((nms cs m g i).map V.str))∧∃vj,σ=[some (.ref p),some (.int (lots:Nat)),some (.str ABC),some (.ref B),some (.int (m:Nat)),some (.int (g:Nat)),some (.ref L),vj]
 apply mm (n:=((lots:Nat):Int).toNat) pZ1
  ⟨λc o _ _ h=>h,⟨97+g,by rw[hB7,←(aj.mp hc).2,List.set_getElem_self]⟩,hL7,none,rfl⟩ ?_ ?_
 ·rintro i σ H2 hi ⟨k2,⟨y,hB2⟩,hL2,vj,rfl⟩
  have hr26:(g+i) % 26<26:=Nat.mod_lt _ ↥0;have ei:(((g:Nat):Int)+(0+(i:Nat))) % 26=(((g+i) % 26:Nat):Int):=by lia
  apply⟨ρ,ρ,ρ,ς,ς,(by show(0:Int)<26;decide),_,_,97+(g+i) % 26,rfl,rfl,⇑0,?_,?_⟩
  ·show atI ABC.cps.toList ((((g:Nat):Int)+(0+(i:Nat))) % 26)=_
   rw[ei];exact abc_at hr26
  apply⟨ρ,ρ,B,_,_,m,rfl,rfl,hB2,?_,?_⟩
  ·rw[ae,iw]
   unfold ixN;rw[rL ⋯,rL ⋯];rfl
  have k3:∀c o,c≠B→H2 c=some o→(upd H2 B (.lst (((cs.set m y).map λc=>V.str (rD c)).set m (.str (rD (97+(g+i) % 26)))))) c=some o:=λc o hc e=>by rw[bf hc];exact e
  have hB3:(upd H2 B (.lst (((cs.set m y).map λc=>V.str (rD c)).set m (.str (rD (97+(g+i) % 26)))))) B=some (.lst (((cs.set m (97+(g+i) % 26)).map rD).map V.str)):=by
   rw[aP,←List.map_set,List.set_set,b9];rfl
  generalize upd H2 B (.lst (((cs.set m y).map λc=>V.str (rD c)).set m (.str (rD (97+(g+i) % 26)))))=H3 at k3 hB3 ⊢;have hL3:=k3 _ _ (cM BL) hL2;have big:(100000:Nat)≤ax:=by decide
  apply⟨ρ,.inl ⟨rfl,_,zL hL3⟩,rfl,ρ,_,B,ρ,rfl,zL hB3,⇑0,?_,?_⟩
  ·rw[b9,ae,iw]
   have:((cs.set m (97+(g+i) % 26)).map ((λx:Str=>x.length) ∘ rD)).sum≤(cs.set m (97+(g+i) % 26)).length * 1:=sum_le _ 1 _ λx _=>aA _
   rw[iw] at this;lia
  rw[join_one];apply⟨L,ς,hL3,(by unfold nms;rw[ae,ae,j9];lia),?_⟩;apply⟨λc o h1 h2 e=>by rw[bf h2];exact k3 _ _ h1 (k2 _ _ h1 h2 e),⟨97+(g+i) % 26,by rw[bf BL,hB3,b9];rfl⟩,?_,ρ⟩;rw[aP];unfold nms;rw[List.range_succ,av,av];rfl
 ·rintro σ H2 ⟨k2,⟨y,hB2⟩,hL2,vj,rfl⟩
  have el:((lots:Nat):Int).toNat=lots:=by lia
  rw[el] at hL2;obtain⟨n7,hp7⟩:=M7.2;apply⟨ρ,k L _ H2 ⟨λc o hcp e=>?_,n7,k2 _ _ (cM nB.2) (cM Lp) hp7⟩ hL2 (by unfold nms;rw[ae,j9]) (nms_nd hm ⋯) λz hz=>?_⟩
  ·exact k2 c o (λz=>by rw[z,nB.1] at e;cases e) (λz=>by rw[z,nL] at e;cases e) (M7.1 c o hcp e)
  ·unfold nms at hz
   obtain⟨i,_,rfl⟩:=aK.mp hz;apply strOf_nam (by rw[iw];exact l1) (by rw[iw];exact l8) λc hc=>?_
   rcases List.mem_or_eq_of_mem_set hc with h | h
   ·exact all4 c h
   ·subst h
    have:(g+i) % 26<26:=Nat.mod_lt _ ↥0;lia
abbrev sLr:cN:=top 43
abbrev sLns:cN:=top 44
theorem toKp (K:ak){ex:Expr}{r:V→List V→Hp→VK→Prop}{t:TA}{Ty:String}(h:PE X ex (tBM X.K Ty r to t))(hK:X.K=K:=by rfl):PE X ex (tBM K Ty r to t):=by subst hK;exact h
theorem pop_prm {α:Type}:∀(l:List α) (i:Nat) (x:α),l[i]? =some x→(x::l.eraseIdx i).Perm l
 | [],i,x,h=>by cases h
 | a::l,0,x,h=>by
  cases h;exact List.Perm.refl _
 | a::l,i+1,x,h=>by
  rw[aT] at h;rw[List.eraseIdx_cons_succ];exact(List.Perm.swap a x _).trans ((pop_prm l i x h).cons a)
theorem je (h:xs.length≠ys.length):HO.lst xs≠HO.lst ys:=λz=>h (by injection z with z;rw[z])
theorem intr_snoc:∀{ss:List Str} {rs:List Int} {s:Str} {r:Int},ss.length=rs.length+1→iR ss rs++[.int r]++[.str s]=iR (ss++[s]) (rs++[r])
 | [],_,_,_,h=>by simp at h
 | [_],[],_,_,_=>rfl
 | _::_::_,[],_,_,h=>by simp at h
 | a::ss,b::rs,s,r,h=>by
  have hl:ss.length=rs.length+1:=by simpa using h
  show V.str a:: .int b::(iR ss rs++[.int r]++[.str s])=_;rw[intr_snoc hl];rfl
theorem jM.mv {n:Int}{rows:List (List V)}(M:Mv p H H')(hp:H p=some (.lst [.int n]))(h2:∀ r∈rows,2≤r.length)(h:jM H xs rows):jM H' xs rows:=⟨h.len,fun i r hr=>by
 obtain⟨a,h1,ha⟩:=h.get i r hr;apply⟨a,h1,M.1 _ _ (dz ha hp λz=>?_) ha⟩;have:=h2 r (aD hr);injection z with z
 rw[z] at this;simp at this⟩
theorem jM.same {rows:List (List V)}(S:cg H H')(h:jM H xs rows):jM H' xs rows:=⟨h.len,fun i r hr=>by
 obtain ⟨a,h1,ha⟩:=h.get i r hr;exact ⟨a,h1,S _ _ ha⟩⟩
theorem jM.nep {R:aq}{n:Int}{rows:List (List V)}(hp:H p=some (.lst [.int n]))(hR:H R=some (.lst xs))(h:jM H xs rows):R≠p:=λz=>by
 rw[z,hp] at hR;injection hR with hR
 injection hR with hR
 have e:=h.len;rw[←hR] at e;obtain⟨a,h1,_⟩:=h.get 0 _ (gE (show 0<rows.length by rw[←e];exact Nat.one_pos));rw[←hR] at h1;cases h1
theorem rowV_two (h:r.lnOk):2≤r.rowV.length:=by
 cases r with
 | line n ss rs=>show 2≤(iR ss rs).length+1+1;lia
 | beat b=>exact rM h id
 | oth k ns is=>exact rM h id
theorem lnOk_E (h:r.lnOk):r.okE:=by
 cases r with
 | line n ss rs =>
  obtain⟨_,_,h3,h4,h5,h6,_⟩:=h;exact⟨h6,h4,⋯,h3⟩
 | beat b=>exact rM h id
 | oth k ns is=>exact rM h id
inductive spLr (vs:List V)(H:Hp)(Q:VK)(_:XK):Prop
 | mk (p:aq)(n:Int)(nm:Str)(S R:aq)(ss:List Str)(xs:List V)(prs:List PR)(_:vs=[.ref p,.str nm,.ref S,.ref R])(_:H p=some (.lst [.int n]))(_:H S=some (.lst (ss.map V.str)))(_:(5≤ss.length∧ss.length≤30))(_:ss.Nodup)(_:(∀z∈ss,nam z=true))(_:nam nm=true)(_:H R=some (.lst xs))(_:jM H xs (prs.map PR.rowV))(_:(∀r∈prs,r.lnOk))(_:prs.length≤30)(_:∀L tt rs H',Mv p H H'→H L=none→H' L=some (.lst (PR.line nm tt rs).rowV)→(PR.line nm tt rs).lnOk→Q (.ref L) H')
structure LnsI (nn:List Str)(i:Nat)(prs:List PR):Prop where
 rows:∀b,gJ b prs
 ok:∀r∈prs,r.lnOk
 hap:ib (lsC prs)≤16
 few:prs.length≤i∧i≤30
 ne:1≤i→prs≠[]
 nms:∀x∈lsC prs,∃j,j<i∧nn[j]? =some x.n
structure qV (prs:List PR):Prop where
 rows:∀b,gJ b prs
 ok:∀r∈prs,r.lnOk
 hap:ib (lsC prs)≤16
 few:prs.length≤30
 ne:prs≠[]
theorem LnsI.nil (nn:List Str):LnsI nn 0 []:=⟨(λb i r h=>by cases h),(λr h=>by cases h),↥0,⟨aA _,↥0⟩,(λh=>rM h ↥0),(λx h=>by cases h)⟩
theorem gJ.snoc {rows:List PR}(h:gJ b rows)(o:lB b rows r):gJ b (rows++[r]):=λi q hq=>by
 by_cases c:i<rows.length
 ·rw[bI c] at hq
  rw[iU ⋯];exact h i q hq
 ·have e:i=rows.length:=by
   have:=(aj.mp hq).1;rw[ao] at this;simp at this;lia
  subst e;rw[aR (aA _),fu] at hq;cases hq;rw[gP rfl];exact o
theorem LnsI.more {n:Str}{tt:List Str}{rs:List Int}(I:LnsI nn i prs)(nd:nn.Nodup)(hi:i<30)(hn:nn[i]? =some n)(lok:(PR.line n tt rs).lnOk)(hh:ib (lsC prs)+2 * (rs.length:Int)≤16):LnsI nn (i+1) (prs++[.line n tt rs]):=by
 have hf:=I.few;have eC:lsC (prs++[.line n tt rs])=lsC prs++[⟨n,tt,rs,[],ib (lsC prs)⟩]:=gf _ _;apply⟨λb=>(I.rows b).snoc ⟨λm=>?_,lok⟩,λr hr=>?_,by rw[eC,lp];exact hh,⟨by rw[ao];simp;lia,⋯⟩,(λ_ z=>by simp at z),λx hx=>?_⟩
 ·obtain⟨x,hx,e⟩:=aK.mp m
  obtain⟨j,hj,e2⟩:=I.nms x hx;rw[e] at e2;have:=jA nd hn e2;lia
 ·rcases aX.mp hr with hr | hr
  ·exact I.ok r hr
  ·rw[aB.mp hr];exact lok
 ·rw[eC] at hx
  rcases aX.mp hx with hx | hx
  ·obtain⟨j,hj,e⟩:=I.nms x hx
   exact⟨j,⋯,e⟩
  ·rw[aB.mp hx]
   exact⟨i,⋯,hn⟩
theorem LnsI.up (I:LnsI nn i prs)(hi:i<30)(h1:1≤i):LnsI nn (i+1) prs:=⟨I.rows,I.ok,I.hap,⟨by have:=I.few;lia,⋯⟩,fun _=>I.ne h1,fun x hx=>by
 obtain ⟨j,hj,e⟩:=I.nms x hx;exact ⟨j,⋯,e⟩⟩
theorem LnsI.done (I:LnsI nn i prs)(h1:1≤i):qV prs:=⟨I.rows,I.ok,I.hap,by have:=I.few;lia,I.ne h1⟩
inductive spLns (K:ak)(vs:List V)(H:Hp)(Q:VK)(_:XK):Prop
 | mk (a N S:aq)(ns:List Int)(nn ss:List Str)(most:Int)(_:vs=[.ref a,.ref N,.ref S,.int most])(_:SqL K H a (ns.map V.int))(_:H N=some (.lst (nn.map V.str)))(_:nn.Nodup)(_:(∀z∈nn,nam z=true))(_:H S=some (.lst (ss.map V.str)))(_:(5≤ss.length∧ss.length≤30))(_:ss.Nodup)(_:(∀z∈ss,nam z=true))(_:1≤most)(_:most≤nn.length)(_:nn.length≤30)(_:∀L xs prs H',cg H H'→H L=none→H' L=some (.lst xs)→jM H' xs (prs.map PR.rowV)→qV prs→Q (.ref L) H')
theorem SqL.kept' (S:cg H H')(h:SqL K H a xs):SqL K H' a xs:=by
 rcases h with (h | ⟨o,h⟩) | h
 ·exact .inl (.inl (S _ _ h))
 ·exact .inl (.inr ⟨o,S _ _ h⟩)
 ·exact .inr h
theorem jM.snoc {rows:List (List V)}{B:aq}{r:List V}(h:jM H xs rows)(k:∀ a,∀ q∈rows,H a=some (.lst q)→H' a=some (.lst q))(hB:H' B=some (.lst r)):jM H' (xs++[.ref B]) (rows++[r]):=⟨by rw[ao,ao,h.len];rfl,fun i q hq=>by
 by_cases c:i<rows.length
 ·rw[bI c] at hq
  obtain⟨a,h1,ha⟩:=h.get i q hq;exact⟨a,by rw[bI (by rw[h.len];exact c)];exact h1,k a q (aD hq) ha⟩
 ·have e:i=rows.length:=by
   have:=(aj.mp hq).1;rw[ao] at this;simp at this;lia
  subst e;rw[aR (aA _),fu] at hq;cases hq;exact ⟨B,by rw[aR (by rw[h.len];exact aA _),h.len,fu];rfl,hB⟩⟩
theorem rowV_str (r:PR):∃(z:Str) (t:List V),r.rowV= .str z::t:=by cases r <;> exact⟨_,ρ⟩
theorem jM.neL (h:jM H xs (prs.map PR.rowV))(hL:H L=some (.lst xs)){q:List V}(hq:q∈prs.map PR.rowV)(ha:H a=some (.lst q)):a≠L:=λz=>by
 subst z;rw[hL] at ha;injection ha with ha
 injection ha with ha
 subst ha;obtain⟨r,hr,e⟩:=aK.mp hq;obtain⟨z,t,e2⟩:=rowV_str r;rw[e2] at e;have l:=h.len;obtain⟨b,h1,_⟩:=h.get 0 _ (gE (show 0<(prs.map PR.rowV).length by rw[←l,←e];simp));rw[←e] at h1;cases h1
theorem ne_of_none' {b:aq}(h:H a=none)(h':H b=some o):a≠b:=λz=>by rw[z,h'] at h;cases h
def PathOk (tt:List Str):Prop:=(∀z∈tt,nam z=true)∧tt.Nodup∧2≤tt.length∧tt.length≤5
theorem scLr:cA ["_law_pot_here","_law_name","_law_stops","_law_rows","_law_way","_law_here","_law_path","_law_row","_law_stop"] pzA (defScope sLr):=by trivial
theorem ok_lr (F:Fun K "_law_line_row" "_law_line_row" sLr f fd)(T:Nm mg)(T2:Nt mg)(G1:Fn K mg "_law_take" qu pzd f1 fd1):‹0› 2 f fd pzA spLr:=by
 have F1:‹0› 1 f1 fd1 pzd nM:=mB G1.F;specialize F.ok scLr;obtain ⟨p,n,nm,S,R,ss,xs,prs,rfl,hp,hS,⟨l5,l30⟩,nd,nam_,nmN,hR,rw_,okl,few,k⟩:=h;have hr1:jI 1 _:=hr;apply ⟨_,PSl.h (bh ⟨(psZ 4 scLr.nd (pc1 G1 F1 hr1 (ah (pv 0) (ah aC aw))))⟩
  (bh ⟨(psZ 5 scLr.nd (ff pS rfl T2.tlist boot_list (ah (pv 2) aw)))⟩
  (bh ⟨(pq (iy:=6) (fr:=["_law_here","_law_pot_here"]) (js:=[5,0]) scLr.nd rfl (.inl rfl) rfl (ku rfl T2.range (ah (cw dZ aC (pc1 G1 F1 hr1 (ah (pv 0) (ah aC aw)))) aw)) ⇑0 rfl ⇑0 rfl (by exists sLr) ⇑0 rfl ⇑0 (fun _ _ _ _ _=>⟨(toKp K (jQ bu PySem.F.slot_list_pop PySem.F.type_list_pop mt_popAt (pv 1) (ah (pc1 G1 F1 hr1 (ah (pv 2) (ah (bS (lenK K) rfl T.len aS (ah (pv 1) aw)) aw))) aw))),j7⟩))⟩
  (bh ⟨(ps_cut (eO (PW.pt (nN (bK pA (pv 4) aC (cn _)) (lU (bK (op_neL0 hr.units0) (pv 3) (gM aw) (cn _))))) (PSl.h (bh ⟨(psZ 6 scLr.nd (qw (a:=2) (cE aW (pv 3) (pc1 G1 F1 hr1 (ah (pv 0) (ah (bS bO rfl T.len aS (ah (pv 3) aw)) aw))) (fun _ _=>rfl))))⟩
  (fj ⟨(psZ 6 scLr.nd (PEs.h (k_ix aW (pF (dw ⟨pv 6⟩ (dw ⟨pe_backL (pv 6)⟩ oW))) ⟨pv 4⟩ (fun _ _=>rfl))))⟩))) cv))⟩
  (bh ⟨(psZ 7 scLr.nd (PEs.h (k_lstF (dw k_str (dw ⟨pv 1⟩ (dw (k_ix aW ⟨pv 6⟩ jf (fun _ _=>rfl)) oW))))))⟩
  (bh ⟨(iC bX rfl (gK (cV sl_list (pv 6) (dJ aC) eR)) (pgZ 8 scLr.nd) (PSl.h (bh ⟨(hW (jQ bu bN bM gp (pv 7) (ah (pc1 G1 F1 hr1 (ah (pv 0) (ah (PEs.h (k_ix aW (pF (dw jf (dw jf (dw jf (dw (k_op mR jf jf) oW))))) ⟨pc1 G1 F1 hr1 (ah (pv 0) (ah aC aw))⟩ (fun _ _=>rfl))) aw))) aw)))⟩
  (fj ⟨(hW (jQ bu bN bM gp (pv 7) (ah (pv 8) aw)))⟩))))⟩
  (fj ⟨(cb (pv 7))⟩))))))),?_⟩
 and_intros
 apply sq6 ?_
 intros
 have nSp:S≠p:=dz hS hp λz=>by
  injection z with z
  have:=rR g9 z;rw[ae] at this;simp at this;lia
 have nRp:R≠p:=rw_.nep hp hR;have two:∀r∈prs.map PR.rowV,2≤r.length:=λr hr=>by
  obtain⟨q,hq,rfl⟩:=aK.mp hr;exact rowV_two (okl q hq)
 apply⟨ρ,p,n,4,rfl,hp,↥0,↥0,λway H1 w0 w1 M1=>?_⟩;have hS1:=M1.1 _ _ nSp hS;obtain⟨n1,hp1⟩:=M1.2;apply⟨ρ,S,ρ,.inl (zL hS1),λl hl=>?_⟩;have M2:Mv p H (upd H1 l (.lst (ss.map V.str))):=M1.new hl;have h2l:(upd H1 l (.lst (ss.map V.str))) l=some (.lst (ss.map V.str)):=aP;have nlp:l≠p:=M1.ne hl;have fl:H l=none:=M1.free hl;generalize upd H1 l (.lst (ss.map V.str))=H2 at M2 h2l ⊢;obtain⟨n2,hp2⟩:=M2.2;apply⟨ρ,p,n2,4,rfl,hp2,↥0,↥0,λr H3 r0 r1 M3=>⟨ς,2+r,rfl,⋯,⋯,?_⟩⟩;have M13:=M2.trans M3
 let pZ1:zW:=λi zs HA=>(∀c o,c≠p→H c=some o→HA c=some o)∧(∃n,HA p=some (.lst [.int n]))∧∃ps rest:List Str,zs=ps.map V.str∧ps.length=i∧HA l=some (.lst (rest.map V.str))∧(ps++rest).Perm ss
 apply pL (n:=(2+r).toNat) pZ1
  ⟨M13.1,M13.2,[],ss,rfl,rfl,M3.at h2l nlp,List.Perm.refl _⟩ (λi zs HA _ q=>by obtain⟨_,_,ps,_,e,hl,_⟩:=q;rw[e,ae,hl];exact aA _) (small_le ⋯) (λi zs HA hi q=>?_) (λzs HA q D hD=>?_)
 ·obtain⟨SA,⟨nA,hpA⟩,ps,rest,eA,lA,hLA,pm⟩:=q
  have lr:ps.length+rest.length=ss.length:=by rw[←ao];exact pm.length_eq
  apply jj ?_;have ll:(rest.map V.str).length=rest.length:=ae _;apply⟨ρ,.inl ⟨rfl,_,zL hLA⟩,ρ,ρ,l,ρ,.inl (zL hLA),p,nA,ρ,hpA,(by show 0<((rest.map V.str).length:Int);lia),(by show((rest.map V.str).length:Int)<10 ^ 61;lia),λr4 HB a4 c4 MB=>?_⟩;have c4:r4<((rest.map V.str).length:Int):=c4;obtain⟨j,rfl⟩:=cU a4;obtain⟨y,hy⟩:∃y,rest[j]? =some y:=⟨_,gE ⋯⟩;have hLB:=MB.at hLA nlp;apply⟨l,rest.map V.str,_,j,V.str y,rfl,rfl,hLB,⋯,⋯,seqIndex_of a4 c4,by rw[ay,hy];rfl,?_⟩;obtain⟨nB,hpB⟩:=MB.2;apply⟨λc o hc e=>by rw[bf (aZ e fl)];exact MB.1 _ _ hc (SA c o hc e),⟨nB,by rw[bf (cM nlp)];exact hpB⟩,ps++[y],rest.eraseIdx j,by rw[eA,av];rfl,by rw[ao,lA];rfl,?_,?_⟩
  ·rw[aP,List.eraseIdx_eq_take_drop_succ,List.eraseIdx_eq_take_drop_succ,av,jg,fZ]
  ·rw[cG]
   exact((pop_prm rest j y hy).append_left ps).trans pm
 obtain⟨SA,⟨nA,hpA⟩,ps,rest,rfl,lA,hLA,pm⟩:=q;have MA:Mv p H HA:=⟨SA,nA,hpA⟩;have M4:Mv p H (upd HA D (.lst (ps.map V.str))):=MA.new hD;have h4:(upd HA D (.lst (ps.map V.str))) D=some (.lst (ps.map V.str)):=aP;have nd':=pm.nodup_iff.mpr nd;have pok:PathOk ps:=⟨λz hz=>nam_ z (pm.subset (cq _ hz)),(List.nodup_append.mp nd').1,⋯,⋯⟩;generalize upd HA D (.lst (ps.map V.str))=H4 at M4 h4 ⊢;apply⟨λσ' H'=>∃(Pp:aq) (tt:List Str),Mv p H H'∧H' Pp=some (.lst (tt.map V.str))∧PathOk tt∧σ'=[some (.ref p),some (.str nm),some (.ref S),some (.ref R),some (.int way),some (.ref l),some (.ref Pp),none,none],λσ' H5 q=>?_,?_⟩
 rotate_left
 ·have nx:∀H',Mv p H H'→H' D=some (.lst (ps.map V.str))→∃(Pp:aq) (tt:List Str),Mv p H H'∧H' Pp=some (.lst (tt.map V.str))∧PathOk tt∧[some (V.ref p),some (V.str nm),some (V.ref S),some (V.ref R),some (V.int way),some (V.ref l),some (V.ref D),none,none]=[some (.ref p),some (.str nm),some (.ref S),some (.ref R),some (.int way),some (.ref l),some (.ref Pp),none,none]:=λH' M h=>⟨D,ps,M,h,pok,rfl⟩
  apply⟨ρ,ς,ρ,jq (λc1=>?_) (λc1=>nx _ M4 h4)⟩;have c1:way<2:=rQ c1;apply⟨ρ,(by show 0≤ax;decide),λEm H5 S5 e5=>?_⟩;have M5:=M4.then S5;have hR5:=M5.1 _ _ nRp hR;apply⟨R,Em,xs,rfl,rfl,zL hR5,zL e5,ρ,jq (λc2=>?_) (λc2=>nx _ M5 (S5 _ _ h4))⟩;have ne:0<xs.length:=by
   cases xs with
   | nil=>cases c2
   | cons _ _=>simp
  obtain⟨n5,hp5⟩:=M5.2;have lx:xs.length=prs.length:=by rw[rw_.len,ae]
  apply⟨ρ,ρ,ρ,R,ρ,.inl (zL hR5),p,n5,ρ,hp5,(by show(0:Int)<(xs.length:Int);lia),(by show(xs.length:Int)<10 ^ 61;lia),λr6 H6 a6 c6 M6=>?_⟩;obtain⟨j,rfl⟩:=cU a6;have c6:(j:Int)<(xs.length:Int):=c6;have hj:j<prs.length:=by lia
  have M46:=M5.trans M6;have rw6:=rw_.mv M46 hp two;obtain⟨a,hxa,hra⟩:=rw6.get j prs[j].rowV (by rw[ay,gE hj];rfl);have okj:=okl _ (cu hj);generalize prs[j]=q at hra okj;cases q with
  | beat b=>exact rM okj id
  | oth kk ns is=>exact rM okj id
  | line m tt rs =>
   obtain⟨_,o2,o3,o4,o5,o6,_⟩:=okj;have hra:H6 a=some (.lst (.str "line" :: .str m::iR tt rs)):=hra;apply⟨R,τ,zL (M46.1 _ _ nRp hR),aH hxa,a,ρ,zL hra,(by simp only[aG];lia),λB H7 S7 e7=>?_⟩;have e7:H7 B=some (.lst (tt.map V.str)):=by rw[e7];show some (HO.lst (evs (iR tt rs)))=_;rw[oN o6]
   apply⟨ρ,ρ,B,ρ,e7,λC H8 S8 e8=>?_⟩;apply⟨qW,λW H9 S9 e9=>?_⟩;have M9:Mv p H H9:=M46.then (S7.trans (S8.trans S9));have ok1:PathOk tt:=⟨o2,o3,o4,o5⟩;have ok2:PathOk tt.reverse:=⟨λz hz=>o2 z (List.mem_reverse.mp hz),(List.reverse_perm tt).nodup_iff.mpr o3,by rw[List.length_reverse];exact o4,by rw[List.length_reverse];exact o5⟩;obtain rfl | rfl:way=0∨way=1:=by lia
   ·exact⟨ρ,W,τ,zL e9,rfl,B,tt,M9,(S8.trans S9) _ _ e7,ok1,rfl⟩
   ·exact⟨ρ,W,τ,zL e9,rfl,C,tt.reverse,M9,by rw[S9 _ _ e8,List.map_reverse],ok2,rfl⟩
 obtain⟨Pp,tt,M5,h5,⟨o2,o3,o4,o5⟩,rfl⟩:=q;obtain⟨n5,hp5⟩:=M5.2;have nPp:Pp≠p:=dz h5 hp5 λz=>by
  injection z with z
  have:=rR g9 z;rw[ae] at this;simp at this;lia
 obtain⟨s0,hs0⟩:∃s0,tt[0]? =some s0:=⟨_,gE ⋯⟩;apply⟨ρ,ρ,Pp,τ,zL h5,aH (j:=0) (by rw[ay,hs0];rfl),(by show 3≤ax;decide),λL hL=>?_⟩;have M6:Mv p H (upd H5 L (.lst [.str "line",.str nm,.str s0])):=M5.new hL;have h6:(upd H5 L (.lst [.str "line",.str nm,.str s0])) L=some (.lst (.str "line" :: .str nm::iR (tt.take 1) [])):=by
  rw[aP,show tt.take 1=[s0] by rw[aQ,hs0];rfl];rfl
 have fL:H L=none:=M5.free hL;have nLp:L≠p:=M5.ne hL;have nPL:Pp≠L:=aZ h5 hL;have hP6:(upd H5 L (.lst [.str "line",.str nm,.str s0])) Pp=some (.lst (tt.map V.str)):=by rw[bf nPL];exact h5
 generalize upd H5 L (.lst [.str "line",.str nm,.str s0])=H6 at M6 h6 hP6 ⊢;apply⟨ρ,ρ,Pp,ρ,zL hP6,λC hC=>?_⟩;rw[cutF (i:=1) (n:=1) rfl];have M7:Mv p H (upd H6 C (.lst ((tt.map V.str).drop 1))):=M6.new hC;have e7:(upd H6 C (.lst ((tt.map V.str).drop 1))) C=some (.lst ((tt.map V.str).drop 1)):=aP;have nCL:L≠C:=aZ h6 hC;have nCp:C≠p:=M6.ne hC;have h7:(upd H6 C (.lst ((tt.map V.str).drop 1))) L=some (.lst (.str "line" :: .str nm::iR (tt.take 1) [])):=by rw[bf nCL];exact h6
 generalize upd H6 C (.lst ((tt.map V.str).drop 1))=H7 at M7 e7 h7 ⊢;apply⟨C,rfl,⟨_,zL e7⟩,?_⟩;have lC:((tt.map V.str).drop 1).length+1=tt.length:=by rw[bE,ae];lia
 have big:(1000:Nat)≤ax:=by decide
 let pZ1:zV:=λi σ HB=>Mv p H HB∧HB C=some (.lst ((tt.map V.str).drop 1))∧∃rs:List Int,rs.length=i∧(∀r∈rs,0≤r∧r<10 ^ 12)∧HB L=some (.lst (.str "line" :: .str nm::iR (tt.take (i+1)) rs))∧∃v8,σ=[some (.ref p),some (.str nm),some (.ref S),some (.ref R),some (.int way),some (.ref l),some (.ref Pp),some (.ref L),v8]
 apply jT (K:=K) (a:=C) (xs:=(tt.map V.str).drop 1) pZ1
  ⟨M7,e7,[],rfl,(λr hr=>by cases hr),h7,none,rfl⟩ (λi σ HB _ q=>zL q.2.1) ?_ ?_
 ·rintro i x σ HB hx ⟨MB,hCB,rs,lrs,brs,hLB,v8,rfl⟩
  have hi:i+1<tt.length:=by have:=(aj.mp hx).1;lia
  rw[cY,ay,Nat.add_comm,gE hi] at hx;have hx:some (V.str tt[i+1])=some x:=hx;cases hx;obtain⟨nB,hpB⟩:=MB.2;have ltk:(tt.take (i+1)).length=rs.length+1:=by rw[aJ];lia
  have lint:(iR (tt.take (i+1)) rs).length≤20:=by rw[jD ltk];lia
  apply⟨ρ,.inl ⟨rfl,_,zL hLB⟩,ρ,ς,⟨↥0,↥0,↥0⟩,szZ4,λB HC SC eC=>?_⟩;have MC:=MB.then SC;obtain⟨nC,hpC⟩:=MC.2;apply⟨ρ,p,nC,4,rfl,hpC,↥0,↥0,λr HD a0 a1 MD=>?_⟩;have hBD:=MD.1 _ _ (dz eC hpC (je ∅)) eC;obtain⟨v,ev,mv⟩:=oU (xs:=[V.int 4,.int 60,.int 60,.int (10 ^ 12)]) a0 (by show r<4;lia);obtain⟨Mx,rfl,Mx1,Mx2⟩:∃M:Int,v= .int M∧1≤M∧M≤10 ^ 12:=by
   simp only[az,bg,or_false] at mv
   rcases mv with rfl | rfl | rfl | rfl
   ·exact⟨ρ,↥0,↥0⟩
   ·exact⟨ρ,↥0,↥0⟩
   ·exact⟨ρ,↥0,↥0⟩
   ·exact⟨ρ,↥0,↥0⟩
  have MD2:=MC.trans MD;obtain⟨nD,hpD⟩:=MD2.2;apply⟨B,τ,zL hBD,ev,p,nD,Mx,rfl,hpD,⋯,⋯,λr2 HE b0 b1 ME=>?_⟩;have kLE:HE L=some (.lst (.str "line" :: .str nm::iR (tt.take (i+1)) rs)):=ME.1 _ _ nLp (MD.1 _ _ nLp (SC _ _ hLB));have kCE:HE C=some (.lst ((tt.map V.str).drop 1)):=ME.1 _ _ nCp (MD.1 _ _ nCp (SC _ _ hCB));have MHE:=MD2.trans ME;apply⟨L,ς,kLE,(by simp only[aG];lia),?_⟩;apply⟨ρ,.inl ⟨rfl,_,zL aP⟩,ρ,L,ς,aP,(by simp only[aG,ao,gQ];lia),?_⟩;obtain⟨nE,hpE⟩:=MHE.2;apply⟨⟨λc o hc e=>?_,nE,?_⟩,?_,rs++[r2],by rw[ao,lrs];rfl,λr hr=>?_,?_,ρ⟩
  ·have:=aZ e fL
   rw[bf this,bf this];exact MHE.1 c o hc e
  ·rw[bf (cM nLp),bf (cM nLp)];exact hpE
  ·rw[bf (cM nCL),bf (cM nCL)];exact kCE
  ·rcases aX.mp hr with hr | hr
   ·exact brs r hr
   ·rw[aB.mp hr];lia
  ·rw[aP,show tt.take (i+1+1)=tt.take (i+1)++[tt[i+1]] by rw[aQ,gE hi];rfl,←intr_snoc ltk]
   rfl
 ·rintro σ HB ⟨MB,hCB,rs,lrs,brs,hLB,v8,rfl⟩
  rw[show((tt.map V.str).drop 1).length+1=tt.length from lC,bG] at hLB;exact⟨ρ,k L tt rs HB MB fL hLB ⟨nmN,o2,o3,o4,o5,⋯,λr hr=>⟨(brs r hr).1,by have:=(brs r hr).2;lia⟩⟩⟩
theorem scLns:cA ["_law_script","_law_names_here","_law_stops","_law_most","_law_rows","_law_many","_law_k","_law_row"] pzB (defScope sLns):=by trivial
theorem ok_lns {fP fL:aq}{dP dL:aY}(F:Fun K "_law_lines" "_law_lines" sLns f fd)(T:Nm mg)(T2:Nt mg)(GT:Fn K mg "_law_take" qu pzd fT dT)
  (GP:Fn K mg "_law_pot" sPotT pze fP dP) (FP:‹0› 2 fP dP pze (spPotT K))
  (GL:Fn K mg "_law_line_row" sLr pzA fL dL) (FL:‹0› 2 fL dL pzA spLr):‹0› 3 f fd pzB (spLns K):=by
 have FT:‹0› 1 fT dT pzd nM:=mB GT.F;specialize F.ok scLns;obtain ⟨a,N,S,ns,nn,ss,most,rfl,ha,hN,ndN,okN,hS,⟨l5,l30⟩,ndS,okS,m1,m2,m3,k⟩:=h;have hr1:jI 1 _:=hr.mono ↥0;have hr2:jI 2 _:=hr;apply ⟨_,PSl.h (bh ⟨(psZ 4 scLns.nd (kL aw))⟩
  (bh ⟨(psZ 5 scLns.nd aC)⟩
  (bh ⟨(iC bX rfl (ku rfl T2.range (ah (cw dZ aC (pc1 GT FT hr1 (ah (pc1 GP FP hr2 (ah (pv 0) (ah aC aw))) (ah (pv 3) aw)))) aw)) (pgZ 6 scLns.nd) (PSl.h (bh ⟨(psZ 7 scLns.nd (pc1 GL FL hr2 (ah (pc1 GP FP hr2 (ah (pv 0) (ah (cw dZ aC (pv 6)) aw))) (ah (cE aW (pv 1) (pv 6) (fun _ _=>rfl)) (ah (pv 2) (ah (pv 4) aw))))))⟩
  (fj ⟨(eO (bK q0 (cw gL (cw dZ (pv 5) (bS bO rfl T.len aS (ah (pv 7) aw))) aC) aC (cn _)) (PSl.h (bh ⟨(hW (jQ bu bN bM gp (pv 4) (ah (pv 7) aw)))⟩
  (fj ⟨(psZ 5 scLns.nd (cw gL (cw dZ (pv 5) (bS bO rfl T.len aS (ah (pv 7) aw))) aC))⟩))) cv)⟩))))⟩
  (fj ⟨(cb (pv 4))⟩)))),?_⟩
 and_intros
 apply sq3 ?_
 intros
 apply⟨(by show 0≤ax;decide),λL hL=>?_⟩;have S1:cg H (upd H L (.lst [])):=(cg.refl H).put hL;have h1:(upd H L (.lst [])) L=some (.lst []):=aP;generalize upd H L (.lst [])=H1 at S1 h1 ⊢;have sq:∀{H':Hp},cg H H'→SqL K H' a (ns.map V.int):=λS=>SqL.kept' S ha
 apply⟨ρ,a,ns,3,rfl,sq S1,↥0,↥0,λm p hp=>?_⟩;have S2:cg H1 (upd H1 p (.lst [.int m])):=cg.put (cg.refl H1) hp;have h2:(upd H1 p (.lst [.int m])) p=some (.lst [.int m]):=aP;generalize upd H1 p (.lst [.int m])=H2 at S2 h2 ⊢;apply⟨ρ,p,m,most,rfl,h2,⋯,⋯,λr H3 r0 r1 M3=>⟨ς,1+r,rfl,⋯,⋯,?_⟩⟩;have S3:cg H1 H3:=cg.mv S2 hp M3;have big:(1000:Nat)≤ax:=by decide
 let pZ1:zV:=λi σ HA=>cg H HA∧∃(xs:List V) (prs:List PR),HA L=some (.lst xs)∧jM HA xs (prs.map PR.rowV)∧LnsI nn i prs∧∃v6 v7,σ=[some (.ref a),some (.ref N),some (.ref S),some (.int most),some (.ref L),some (.int (ib (lsC prs))),v6,v7]
 apply mm (lo:=0) (n:=(1+r).toNat) pZ1
  ⟨S1.trans S3,[],[],S3 _ _ h1,⟨rfl,λi r h=>by cases h⟩,LnsI.nil nn,none,none,rfl⟩ ?_ ?_
 ·rintro i σ HA hi ⟨SA,xs,prs,hLA,rwA,I,v6,v7,rfl⟩
  have hi2:i<nn.length:=by lia
  have hn:=gE hi2;apply⟨ρ,ρ,ς,a,ns,ρ,sq SA,(by show(0:Int)≤4+(0+(i:Nat));lia),(by show(4:Int)+(0+(i:Nat))≤100;lia),λm4 p4 hp4=>?_⟩;have S4:cg HA (upd HA p4 (.lst [.int m4])):=cg.put (cg.refl HA) hp4;have h4:(upd HA p4 (.lst [.int m4])) p4=some (.lst [.int m4]):=aP;generalize upd HA p4 (.lst [.int m4])=H4 at S4 h4 ⊢;apply⟨ρ,ρ,N,τ,zL ((SA.trans S4) _ _ hN),(by rw[Int.zero_add];exact aH (by rw[ay,hn];rfl)),ρ,ρ,p4,m4,nn[i],S,L,ss,xs,prs,rfl,h4,(SA.trans S4) _ _ hS,⟨l5,l30⟩,ndS,okS,okN _ (cu hi2),S4 _ _ hLA,rwA.same S4,I.ok,by have:=I.few;lia,λB tt rs H5 M5 fB hB lok=>?_⟩;have S5:cg HA H5:=cg.mv S4 hp4 M5;have o6:tt.length=rs.length+1:=lok.2.2.2.2.2.1;have o5:tt.length≤5:=lok.2.2.2.2.1;have lrow:(PR.line nn[i] tt rs).rowV.length=2 * rs.length+3:=by
   show(iR tt rs).length+1+1=_;rw[jD o6];lia
  apply⟨ρ,ρ,B,ρ,.inl (zL hB),ς,ς,ς,ρ,jq (λc=>?_) (λc=>?_)⟩
  ·have c:ib (lsC prs)+((PR.line nn[i] tt rs).rowV.length:Nat) - 3≤16:=rQ c
   have hL5:=S5 _ _ hLA;apply⟨ρ,.inl ⟨rfl,_,zL hL5⟩,ρ,L,ς,hL5,(by rw[rwA.len,ae];have:=I.few;lia),?_⟩;have nBL:B≠L:=ne_of_none' fB (S4 _ _ hLA);apply⟨ρ,ρ,B,ρ,.inl (zL (by rw[bf nBL];exact hB)),ς,ς,?_⟩;apply⟨λc o e=>?_,xs++[.ref B],prs++[.line nn[i] tt rs],aP,?_,I.more ndN ⋯ hn lok (by rw[lrow] at c;lia),some (.int (0+(i:Nat))),some (.ref B),?_⟩
   ·rw[bf (aZ e hL)];exact(SA.trans S5) _ _ e
   ·rw[av]
    exact(rwA.same S5).snoc (λa q hq e=>by rw[bf ((rwA.same S5).neL hL5 hq e)];exact e) (by rw[bf nBL];exact hB)
   ·rw[show lsC (prs++[.line nn[i] tt rs])=lsC prs++[⟨nn[i],tt,rs,[],ib (lsC prs)⟩] from gf _ _,lp,lrow]
    show[some (V.ref a),some (V.ref N),some (V.ref S),some (V.int most),some (V.ref L),some (V.int (ib (lsC prs)+((2 * rs.length+3:Nat):Int) - 3)),_,_]=_;rw[show ib (lsC prs)+((2 * rs.length+3:Nat):Int) - 3=ib (lsC prs)+2 * (rs.length:Int) by lia]
  ·have i1:1≤i:=by
    cases i with
    | zero =>
     have e0:prs=[]:=by have:=I.few.1;exact j4.mp ⋯
     subst e0;apply rM (rO ?_) c;rw[lrow];show ib (lsC [])+_ - 3≤16;rw[show ib (lsC [])=0 from rfl];lia
    | succ i=>lia
   exact⟨SA.trans S5,xs,prs,S5 _ _ hLA,rwA.same S5,I.up ⋯ i1,_,ρ⟩
 ·rintro σ HA ⟨SA,xs,prs,hLA,rwA,I,v6,v7,rfl⟩
  exact⟨ρ,k L xs prs HA SA hL hLA rwA (I.done ⋯)⟩
abbrev sSpw:cN:=top 50
abbrev sInn:cN:=top 52
theorem p9 (K:ak)(hK:X.K=K:=by rfl):SlR X (λx lo hi H Q=>∃a xs,x= .ref a∧SqL K H a xs∧New H (.lst (cutV xs lo hi)) Q):=by subst hK;exact gc
theorem cut13 (a b c:V)(r:List V):cutV (a::b::c::r) (some 1) (some 3)=[b,c]:=by
 unfold cutV;have e1:=HT.sIx_nat (a::b::c::r).length 0 1;have e2:=HT.sIx_nat (a::b::c::r).length (a::b::c::r).length 3;rw[show((1:Nat):Int)=1 from rfl] at e1;rw[show((3:Nat):Int)=3 from rfl] at e2;rw[e1,e2,du ∅,du ∅];rfl
theorem lsC_at {n:Str}{rs:List Int}(h:prs[i]? =some (.line n ss rs)):(⟨n,ss,rs,[],ib (lsC (prs.take i))⟩:Ln)∈lsC prs:=by
 apply oH (m:=i+1) ?_;rw[aQ,h];show _∈lsC (prs.take i++[_]);rw[gf];exact bz _ (aB.mpr rfl)
theorem jM.neS {rows:List (List V)}{t:List V}(h:jM H xs rows)(hL:H L=some (.lst xs))(ha:H a=some (.lst (.str z::t))):a≠L:=λe=>by
 subst e;rw[hL] at ha;injection ha with ha
 injection ha with ha
 have l:=h.len;obtain⟨b,h1,_⟩:=h.get 0 _ (gE (show 0<rows.length by rw[←l,ha];simp));rw[ha] at h1;cases h1
theorem oV_non (o:Option Int):decide (oV o=V.non)=o.isNone:=by cases o <;> rfl
theorem pI (o:Option Int):mY (oV o)=true:=by cases o <;> rfl
theorem qI (c g:Option Int):inV .non [oV c,oV g]=(c.isNone || g.isNone):=by cases c <;> cases g <;> rfl
theorem oI_some {c:Prop}[Decidable c]{i:Int}(h:(oI c i).isNone=false):c:=by
 unfold oI at h;split at h
 ·assumption
 ·cases h
inductive spSpw (vs:List V)(H:Hp)(Q:VK)(_:XK):Prop
 | mk (p:aq)(n b:Int)(_:vs=[.ref p,.int b])(_:H p=some (.lst [.int n]))(_:1≤b)(_:b≤10 ^ 30)(_:∀L l o w H',Mv p H H'→H' L=some (.lst [.int l,.int o,.int w])→NumOk b l o w→Q (.ref L) H')
inductive Pr (x y:Ln):Str→List Str→Prop
 | change {z:Str} {i j:Nat} (h1:x.ss[i]? =some z) (h2:1≤i) (h3:y.ss[j]? =some z) (h4:j+1<y.ss.length):Pr x y "change" [x.n,y.n,z]
 | apart {z:Str} {i j:Nat} (h1:x.ss[i]? =some z) (h2:i+1<x.ss.length) (h3:y.ss[j]? =some z) (h4:j+1<y.ss.length):Pr x y "apart" [x.n,y.n,z]
 | meet {z z2:Str} {r u:Int} {i j:Nat} (h1:x.ss[i]? =some z) (h2:x.ss[i+1]? =some z2) (h3:x.rs[i]? =some r) (h4:y.ss[j]? =some z2) (h5:y.ss[j+1]? =some z) (h6:y.rs[j]? =some u):Pr x y "meet" [x.n,y.n,z,z2]
def pT (prs:List PR)(k:Str)(q:List Str):Prop:=∃x y:Ln,x∈lsC prs∧y∈lsC prs∧x.n≠y.n∧Pr x y k q
inductive spPrs (vs:List V)(H:Hp)(Q:VK)(_:XK):Prop
 | mk (R:aq)(xs:List V)(prs:List PR)(k:Str)(_:vs=[.ref R,.str k])(_:H R=some (.lst xs))(_:jM H xs (prs.map PR.rowV))(_:(∀r∈prs,r.lnOk))(_:prs.length≤30)(_:(k = "change" ∨k = "apart" ∨k = "meet"))(_:∀(L:aq) (ys:List V) (qs:List (List Str)) (H':Hp),cg H H'→H' L=some (.lst ys)→jM H' ys (qs.map (List.map V.str))→(∀q∈qs,pT prs k q)→qs.length≤10000→Q (.ref L) H')
def InnOk (prs rows:List PR)(q:List Str):Prop:=∃(x:Ln) (z:Str) (i:Nat),x∈lsC prs∧q=[x.n,z]∧x.ss[i]? =some z∧1≤i∧i+1<x.ss.length∧(x.n,z) ∉ stz rows
def PR.okI:PR→Prop
 | .beat _=>False
 | .line n ss rs=>(PR.line n ss rs).lnOk
 | .oth k ns _=>k ≠ "line" ∧2≤ns.length∧(k = "stay" →ns.length=2)
inductive spInn (vs:List V)(H:Hp)(Q:VK)(_:XK):Prop
 | mk (R R2:aq)(xs x2:List V)(prs rows:List PR)(_:vs=[.ref R,.ref R2])(_:H R=some (.lst xs))(_:jM H xs (prs.map PR.rowV))(_:(∀r∈prs,r.lnOk))(_:prs.length≤30)(_:H R2=some (.lst x2))(_:jM H x2 (rows.map PR.rowV))(_:(∀r∈rows,r.okI))(_:rows.length≤100)(_:∀(L:aq) (ys:List V) (qs:List (List Str)) (H':Hp),cg H H'→H' L=some (.lst ys)→jM H' ys (qs.map (List.map V.str))→(∀q∈qs,InnOk prs rows q)→qs.length≤10000→Q (.ref L) H')
structure Fnd (H HA:Hp)(L:aq)(G:List Str→Prop)(n:Nat):Prop where
 S:cg H HA
 ex:∃(ys:List V) (qs:List (List Str)),HA L=some (.lst ys)∧jM HA ys (qs.map (List.map V.str))∧(∀q∈qs,G q)∧qs.length≤n
theorem Fnd.same {HB:Hp}{G:List Str→Prop}(F:Fnd H HA L G n)(S:cg HA HB)(h:n≤m):Fnd H HB L G m:=by
 obtain⟨ys,qs,h1,h2,h3,h4⟩:=F.ex;exact⟨F.S.trans S,ys,qs,S _ _ h1,h2.same S,h3,⋯⟩
theorem Fnd.app {HB:Hp}{B:aq}{G:List Str→Prop}{t:List Str}(F:Fnd H HA L G n)(hL:H L=none)(S:cg HA HB)(hB:HB B=some (.lst ((z::t).map V.str)))(g:G (z::t))(h:n+1≤m)(hm:m≤10000):∃ys:List V,HB L=some (.lst ys)∧ys.length<ax∧Fnd H (upd HB L (.lst (ys++[.ref B]))) L G m:=by
 obtain⟨ys,qs,h1,h2,h3,h4⟩:=F.ex;have h2':=h2.same S;have ne:=h2'.neS (S _ _ h1) hB;have big:(20000:Nat)≤ax:=by decide
 apply⟨ys,S _ _ h1,?_,⟨λc o e=>by rw[bf (aZ e hL)];exact(F.S.trans S) _ _ e,ys++[.ref B],qs++[z::t],aP,?_,λq hq=>?_,by rw[ao];show qs.length+1≤m;lia⟩⟩
 ·rw[h2.len,ae];lia
 ·rw[av]
  apply h2'.snoc (λa q hq e=>?_) (by rw[bf ne];exact hB);have:a≠L:=by
   obtain⟨w,hw,rfl⟩:=aK.mp hq;cases w with
   | nil =>
    intro zz;subst zz;rw[S _ _ h1] at e;injection e with e
    injection e with e
    have l:=h2.len;rw[e] at l;rw[List.map_nil,gQ,ae] at l;rw[j4.mp l.symm] at hw;cases hw
   | cons z' t'=>exact h2'.neS (S _ _ h1) e
  rw[bf this];exact e
 ·rcases aX.mp hq with hq | hq
  ·exact h3 q hq
  ·rw[aB.mp hq];exact g
theorem scSpw:cA ["_law_pot_here","_law_beat","_law_least","_law_width","_law_weight"] pzC (defScope sSpw):=by trivial
theorem ok_spw (F:Fun K "_law_span_words" "_law_span_words" sSpw f fd)(T:Nm mg)(G1:Fn K mg "_law_take" qu pzd f1 fd1):‹0› 2 f fd pzC spSpw:=by
 have F1:‹0› 1 f1 fd1 pzd nM:=mB G1.F;specialize F.ok scSpw;obtain ⟨p,n,b,rfl,hp,b1,b2,k⟩:=h;have hr1:jI 1 _:=hr;apply ⟨_,PSl.h (bh ⟨(psZ 2 scSpw.nd (pc1 G1 F1 hr1 (ah (pv 0) (ah (PEs.h (k_ix aW (pF (dw ⟨pv 1⟩ (dw (k_op kz jf ⟨pv 1⟩) (dw jf (dw (k_op mR jf jf) oW))))) ⟨pc1 G1 F1 hr1 (ah (pv 0) (ah aC aw))⟩ (fun _ _=>rfl))) aw))))⟩
  (bh ⟨(psZ 3 scSpw.nd (pc1 G1 F1 hr1 (ah (pv 0) (ah (PEs.h (k_ix aW (pF (dw jf (dw ⟨bS (oR rfl) rfl T.min boot_min (ah (pv 1) (ah aC aw))⟩ (dw ⟨pv 1⟩ (dw ⟨pv 1⟩ oW))))) ⟨pc1 G1 F1 hr1 (ah (pv 0) (ah aC aw))⟩ (fun _ _=>rfl))) aw))))⟩
  (bh ⟨(psZ 4 scSpw.nd (PEs.h (pF (dw jf (dw jf (dw ⟨pc1 G1 F1 hr1 (ah (pv 0) (ah aC aw))⟩ (dw ⟨pc1 G1 F1 hr1 (ah (pv 0) (ah (cw dZ (cw mR aC aC) aC) aw))⟩ oW)))))))⟩
  (fj ⟨(cb (PEs.h (pF (dw ⟨pv 2⟩ (dw (k_op dZ ⟨pv 2⟩ ⟨pv 3⟩) (dw (k_ix aW ⟨pv 4⟩ ⟨pc1 G1 F1 hr1 (ah (pv 0) (ah aC aw))⟩ (fun _ _=>rfl)) oW))))))⟩)))),?_⟩
 and_intros
 apply sq3 ?_
 intros
 apply⟨ρ,ρ,ρ,ς,.inl ⟨↥0,↥0⟩,ς,⟨↥0,↥0,↥0⟩,szZ4,λB H1 S1 e1=>?_⟩;have M1:Mv p H H1:=Mv.of S1 (S1 _ _ hp);apply⟨ρ,p,n,4,rfl,S1 _ _ hp,↥0,↥0,λr H2 a0 a1 M2=>?_⟩;have e2:=M2.1 _ _ (dz e1 (S1 _ _ hp) (je ∅)) e1;obtain⟨v,ev,mv⟩:=oU (xs:=[V.int b,.int (3 * b),.int 60,.int (10 ^ 30)]) a0 (by show r<4;lia);obtain⟨m,rfl,m1,m2⟩:∃m:Int,v= .int m∧1≤m∧m≤10 ^ 31:=by
  simp only[az,bg,or_false] at mv
  rcases mv with rfl | rfl | rfl | rfl
  ·exact⟨ρ,⋯,⋯⟩
  ·exact⟨ρ,⋯,⋯⟩
  ·exact⟨ρ,↥0,↥0⟩
  ·exact⟨ρ,↥0,↥0⟩
 obtain⟨n2,hp2⟩:=M2.2;apply⟨B,τ,zL e2,ev,p,n2,m,rfl,hp2,⋯,⋯,λl H3 l0 l1 M3=>?_⟩;have M13:=(M1.trans M2).trans M3;obtain⟨n3,hp3⟩:=M13.2;apply⟨ρ,ρ,_,ρ,ρ,ρ,szZ4,λB H4 S4 e4=>?_⟩;apply⟨ρ,p,n3,4,rfl,S4 _ _ hp3,↥0,↥0,λr H5 c0 c1 M5=>?_⟩;have e5:=M5.1 _ _ (dz e4 (S4 _ _ hp3) (je ∅)) e4;obtain⟨v,ev,mv⟩:=oU (xs:=[V.int 1,.int (if (4:Int)<b then 4 else b),.int b,.int b]) c0 (by show r<4;lia);obtain⟨m',rfl,m1',m2'⟩:∃m:Int,v= .int m∧1≤m∧m≤b:=by
  simp only[az,bg,or_false] at mv
  rcases mv with rfl | rfl | rfl | rfl
  ·exact⟨ρ,↥0,⋯⟩
  ·exact⟨ρ,by split <;> lia,by split <;> lia⟩
  ·exact⟨ρ,⋯,⋯⟩
  ·exact⟨ρ,⋯,⋯⟩
 obtain⟨n5,hp5⟩:=M5.2;apply⟨B,τ,zL e5,ev,p,n5,m',rfl,hp5,⋯,⋯,λwd H6 w0 w1 M6=>?_⟩;have M36:=((M13.then S4).trans M5).trans M6;obtain⟨n6,hp6⟩:=M36.2;apply⟨ρ,p,n6,10,rfl,hp6,↥0,↥0,λx1 H7 x10 x11 M7=>?_⟩;obtain⟨n7,hp7⟩:=M7.2;apply⟨ρ,ς,⟨↥0,↥0,↥0⟩,ς,p,n7,ρ,hp7,(by show(0:Int)<10 ^ 12+1;decide),(by show(10 ^ 12+1:Int)<10 ^ 61;decide),λx2 H8 x20 x21 M8=>?_⟩;have x21:x2<10 ^ 12+1:=x21;apply⟨szZ4,λB H9 S9 e9=>?_⟩;have M39:=((M36.trans M7).trans M8).then S9;obtain⟨n9,hp9⟩:=M39.2;apply⟨ρ,ρ,ρ,ς,ρ,ρ,p,n9,4,rfl,hp9,↥0,↥0,λr Ha d0 d1 Ma=>?_⟩;have e9':=Ma.1 _ _ (dz e9 hp9 (je ∅)) e9;obtain⟨v,ev,mv⟩:=oU (xs:=[V.int 0,.int 1,.int x1,.int x2]) d0 (by show r<4;lia);obtain⟨wt,rfl,t1,t2⟩:∃m:Int,v= .int m∧0≤m∧m≤1000000000000:=by
  simp only[az,bg,or_false] at mv
  rcases mv with rfl | rfl | rfl | rfl
  ·exact⟨ρ,↥0,↥0⟩
  ·exact⟨ρ,↥0,↥0⟩
  ·exact⟨ρ,⋯,⋯⟩
  ·exact⟨ρ,⋯,⋯⟩
 apply⟨B,τ,zL e9',ev,(by show 3≤ax;decide),λL Hb Sb eb=>?_⟩;exact k L l (l+wd) wt Hb ((M39.trans Ma).then Sb) eb ⟨⋯,⋯,⋯,⋯,t1,t2⟩
theorem scInn:cA ["_law_lines_here","_law_rows","_law_told_here","_law_found","_law_row","_law_k"] pzD (defScope sInn):=by trivial
theorem ok_inn (F:Fun K "_law_inner" "_law_inner" sInn f fd)(T:Nm mg)(T2:Nt mg):‹0› 1 f fd pzD spInn:=by
 specialize F.ok scInn;obtain ⟨R,R2,xs,x2,prs,rows,rfl,hR,rw_,ok,few,hR2,rw2,ok2,few2,k⟩:=h;apply ⟨_,PSl.h (bh ⟨(pq (iy:=2) (fr:=[]) (js:=[]) scInn.nd rfl (.inl rfl) rfl (gK (pv 1)) ⇑0 rfl ⇑0 rfl (by exists sInn) ⇑0 rfl ⇑0 (fun _ _ _ _ _=>⟨(cV (p9 K) (pv 0) (dJ aC) (dJ aC)),(nV (bK iM (cE (r:=rIxL K) aW (pv 0) aC (fun _ _=>rfl)) dU (cn _)))⟩))⟩
  (bh ⟨(psZ 3 scInn.nd (kL aw))⟩
  (bh ⟨(iC bX rfl (gK (pv 0)) (pgZ 4 scInn.nd) (bD (iC bX rfl (oy rfl T2.range (ah aC (ah (cw gL (bS bO rfl T.len aS (ah (pv 4) aw)) aC) (ah aC aw)))) (pgZ 5 scInn.nd) (bD (eO (bK (op_notInLS hr.units) (gM (ah (cE aW (pv 4) aC (fun _ _=>rfl)) (ah (cE aW (pv 4) (pv 5) (fun _ _=>rfl)) aw))) (pv 2) rfl) (bD (hW (jQ bu bN bM gp (pv 3) (ah (gM (ah (cE aW (pv 4) aC (fun _ _=>rfl)) (ah (cE aW (pv 4) (pv 5) (fun _ _=>rfl)) aw))) aw)))) cv)))))⟩
  (fj ⟨(cb (pv 3))⟩)))),?_⟩
 and_intros
 apply sq3 ?_
 intros
 have lxs:xs.length=prs.length:=by rw[rw_.len,ae]
 have lx2:x2.length=rows.length:=by rw[rw2.len,ae]
 have big:(100000:Nat)≤ax:=by decide
 apply⟨ρ,R2,rfl,⟨_,zL hR2⟩,?_⟩;apply ic (K:=K) (a:=R2) (xs:=x2) (λi zs HA=>cg H HA∧∃as:List aq,zs=as.map V.ref∧as.map HA=((stz (rows.take i)).map λq=>[q.1,q.2]).map (λt=>some (HO.lst (t.map V.str)))∧zs.length≤i) ⟨cg.refl H,[],rfl,rfl,aA _⟩ (λi zs HA _ q=>?_) ⋯ (λi x zs HA hx q=>?_) (λzs HA q D hD=>?_)
 ·obtain⟨SA,as,_,_,h⟩:=q
  exact⟨zL (SA _ _ hR2),h⟩
 ·obtain⟨SA,as,rfl,hA,lA⟩:=q
  have hi:i<rows.length:=by rw[←lx2];exact(aj.mp hx).1
  have hp:=gE hi;have et:rows.take (i+1)=rows.take i++[rows[i]]:=by rw[aQ,hp];rfl
  have okr:=ok2 _ (cu hi);obtain ⟨a,hxa,hra⟩:=rw2.get i rows[i].rowV (by rw[ay,hp];rfl);rw[hx] at hxa;cases hxa;rw[et,show stz (rows.take i++[rows[i]])=stz (rows.take i)++(rows[i].sty2).toList by
   unfold stz;rw[eZ];cases h:rows[i].sty2 <;> simp[kj,h]]
  generalize rows[i]=r at okr hra ⊢;have hra2:=SA _ _ hra;cases r with
  | beat b=>exact rM okr id
  | line n ss rs =>
   have hra2:HA a=some (.lst (.str "line" :: .str n::iR ss rs)):=hra2;apply⟨ρ,a,τ,zL hra2,aH (j:=0) rfl,rfl,ρ,iQ ⇑0 ?_⟩;rw[show(PR.line n ss rs).sty2=none from rfl,lR,bY];exact⟨SA,as,rfl,hA,⋯⟩
  | oth kk ns is =>
   have hra2:HA a=some (.lst (.str kk::(ns.map V.str++is.map V.int))):=hra2;obtain⟨o1,o2,o3⟩:=okr
   by_cases hk:kk = "stay"
   ·have o3:=o3 hk
    obtain⟨n,z,rfl⟩:∃n z,ns=[n,z]:=by
     match ns,o3 with
     | [n,z],_=>exact⟨n,z,rfl⟩
    apply⟨ρ,a,τ,zL hra2,aH (j:=0) rfl,rfl,ρ,lO (rO (by rw[hk])) ?_⟩;apply⟨ρ,ρ,ρ,a,ρ,zL hra2,λC HB SB eB=>?_⟩;rw[show(V.str kk::(([n,z]:List Str).map V.str++is.map V.int))=V.str kk::V.str n::V.str z::is.map V.int from rfl,cut13] at eB;rw[show(PR.oth kk [n,z] is).sty2=some (n,z) from by unfold PR.sty2;exact rL hk];apply⟨SA.trans SB,as++[C],by rw[av];rfl,?_,by rw[ao];show _+1≤_;lia⟩;rw[av,Option.toList_some,av,av];congr 1
    ·rw[←hA]
     apply dm λc hc=>?_
     have hm:HA c∈((stz (rows.take i)).map λq=>[q.1,q.2]).map (λt=>some (HO.lst (t.map V.str))):=by rw[←hA];exact b8 hc
     obtain⟨t,_,e⟩:=aK.mp hm;rw[←e];exact SB _ _ e.symm
    ·show[HB C]=_
     rw[eB];rfl
   ·apply⟨ρ,a,τ,zL hra2,aH (j:=0) rfl,rfl,ρ,iQ (rP λz=>hk (by injection z)) ?_⟩
    have e:(PR.oth kk ns is).sty2=none:=by
     unfold PR.sty2;split
     ·next h=>cases h;exact rK hk
     ·rfl
    rw[e,lR,bY];exact⟨SA,as,rfl,hA,⋯⟩
 obtain⟨SA,as,rfl,hA,lA⟩:=q;rw[lx2,bG] at hA;have S1:cg HA (upd HA D (.lst (as.map V.ref))):=(cg.refl HA).put hD;have hD1:(upd HA D (.lst (as.map V.ref))) D=some (.lst (as.map V.ref)):=aP;have keepT:∀{H':Hp},cg HA H'→as.map H'=((stz rows).map λq=>[q.1,q.2]).map (λt=>some (HO.lst (t.map V.str))):=λ{H'} S=>by
  rw[←hA];apply dm λc hc=>?_
  have hm:HA c∈((stz rows).map λq=>[q.1,q.2]).map (λt=>some (HO.lst (t.map V.str))):=by rw[←hA];exact b8 hc
  obtain⟨t,_,e⟩:=aK.mp hm;rw[←e];exact S _ _ e.symm
 generalize upd HA D (.lst (as.map V.ref))=H1 at S1 hD1 ⊢;apply⟨(by show 0≤ax;decide),λL hL=>?_⟩;have S2:cg H1 (upd H1 L (.lst [])):=(cg.refl H1).put hL;have h2:(upd H1 L (.lst [])) L=some (.lst []):=aP;generalize upd H1 L (.lst [])=H2 at S2 h2 ⊢;have F0:Fnd H1 H2 L (InnOk prs rows) 0:=⟨S2,[],[],h2,⟨rfl,λi r h=>by cases h⟩,(λq hq=>by cases hq),aA _⟩;have SH1:=SA.trans S1;apply⟨ρ,R,rfl,⟨_,zL (S2 _ _ (SH1 _ _ hR))⟩,?_⟩;apply jT (K:=K) (a:=R) (xs:=xs) (λi σ HB=>Fnd H1 HB L (InnOk prs rows) (10 * i)∧∃v4 v5,σ=[some (.ref R),some (.ref R2),some (.ref D),some (.ref L),v4,v5])
  ⟨F0,none,none,rfl⟩ (λi σ HB _ q=>zL (q.1.S _ _ (SH1 _ _ hR))) ?_ ?_
 ·rintro i x σ HB hx ⟨FB,v4,v5,rfl⟩
  have hi:i<prs.length:=by rw[←lxs];exact(aj.mp hx).1
  have hp:=gE hi;have okr:=ok _ (cu hi);obtain⟨a,hxa,hra⟩:=rw_.get i prs[i].rowV (by rw[ay,hp];rfl);rw[hx] at hxa;cases hxa;generalize prs[i]=r at okr hra hp;cases r with
  | beat b=>exact rM okr id
  | oth kk ns is=>exact rM okr id
  | line m ss rs =>
   have xin:=lsC_at hp;obtain⟨_,o2,nd,o4,o5,o6,_⟩:=okr;have hra1:H1 a=some (.lst (.str "line" :: .str m::iR ss rs)):=SH1 _ _ hra;have lrow:(V.str "line" :: .str m::iR ss rs).length=2 * ss.length+1:=by rw[aG,aG,jD o6];lia
   apply⟨ρ,a,ρ,.inl (zL (FB.S _ _ hra1)),ς,4,ρ,⟨↥0,↥0,by rw[lrow];lia,by rw[lrow];lia⟩,?_⟩;have en:(((((V.str "line" :: .str m::iR ss rs).length:Nat):Int) - 2) - 4+1) / 2=((ss.length - 2:Nat):Int):=by rw[lrow];lia
   rw[en,gq];apply nt (lo:=4) (n:=ss.length - 2) (λj σ HC=>Fnd H1 HC L (InnOk prs rows) (10 * i+j)∧∃v5,σ=[some (.ref R),some (.ref R2),some (.ref D),some (.ref L),some (.ref a),v5])
    ⟨FB,_,rfl⟩ ?_ ?_
   ·rintro j σ HC hj ⟨FC,v5,rfl⟩
    obtain⟨s1,hs1⟩:∃s,ss[j+1]? =some s:=⟨_,gE ⋯⟩;have g1:atI (V.str "line" :: .str m::iR ss rs) ((4:Int)+(j:Nat) * 2)=some (.str s1):=by
     rw[show(4:Int)+(j:Nat) * 2=((2 * (j+1)+1+1:Nat):Int) by lia];exact aH (by rw[aT,aT,qG (j+1) o6,hs1];rfl)
    have hraC:=FC.S _ _ hra1;apply⟨ρ,a,τ,zL hraC,aH (j:=1) rfl,ρ,ρ,a,τ,zL hraC,g1,qW,λB HD SD eD=>?_⟩;have FD:=FC.same SD (aA _);have SAD:cg HA HD:=S1.trans FD.S;apply⟨ρ,B,D,[m,s1],as,ρ,rfl,eD,FD.S _ _ hD1,keepT SAD,(λt ht=>by obtain⟨q,_,rfl⟩:=aK.mp ht;rfl),ρ,jq (λc=>?_) (λc=>?_)⟩
    ·have c:¬([m,s1]∈(stz rows).map λq=>[q.1,q.2]):=λz=>by
      rw[rO z] at c;cases c
     have hraD:=FD.S _ _ hra1;obtain⟨ys,qs,hLD,_⟩:=FD.ex;apply⟨ρ,.inl ⟨rfl,_,zL hLD⟩,ρ,a,τ,zL hraD,aH (j:=1) rfl,ρ,ρ,a,τ,zL hraD,g1,qW,λB2 HE SE eE=>?_⟩;obtain⟨ys2,hLE,lz,FF⟩:=FD.app (m:=10 * i+(j+1)) hL SE (z:=m) (t:=[s1]) eE ⟨_,s1,j+1,xin,rfl,hs1,⋯,by show j+1+1<ss.length;lia,λz=>c (aK.mpr ⟨_,z,rfl⟩)⟩ ⋯ ⋯;exact⟨L,ys2,ρ,rfl,hLE,lz,FF,ρ⟩
    ·exact⟨FD.same (cg.refl _) ⋯,ρ⟩
   ·rintro σ HC ⟨FC,v5,rfl⟩
    exact⟨FC.same (cg.refl _) ⋯,_,ρ⟩
 ·rintro σ HB ⟨FB,v4,v5,rfl⟩
  obtain⟨ys,qs,h1,h2,h3,h4⟩:=FB.ex;exact⟨ρ,k L ys qs HB (SH1.trans FB.S) h1 h2 h3 ⋯⟩
abbrev sPrs:cN:=top 51
theorem nc.go {n:Str}{c g:Option Int}(h:nc prs n z c g)(hg:g.isNone=false):∃x∈lsC prs,∃i:Nat,x.n=n∧x.ss[i]? =some z∧i+1<x.ss.length:=by
 rcases h with ⟨x,hx,i,e1,e2,e3,e4⟩ | ⟨_,_,e⟩
 ·exact⟨x,hx,i,e1,e2,oI_some (by rw[←e4];exact hg)⟩
 ·rw[e] at hg;cases hg
theorem nc.come {n:Str}{c g:Option Int}(h:nc prs n z c g)(hg:c.isNone=false):∃x∈lsC prs,∃i:Nat,x.n=n∧x.ss[i]? =some z∧1≤i:=by
 rcases h with ⟨x,hx,i,e1,e2,e3,e4⟩ | ⟨_,e,_⟩
 ·exact⟨x,hx,i,e1,e2,oI_some (c:=0<i) (by rw[←e3];exact hg)⟩
 ·rw[e] at hg;cases hg
theorem nam_ne (h:nam z=true):z≠("" :Str):=λe=>by
 have:=(nam_len h).1;rw[e] at this;revert this;decide +kernel
def nxt (ss:List Str)(j:Nat):Str:=(ss[j+1]?).getD ""
theorem nxt_at {m:Str}{rs:List Int}(o6:ss.length=rs.length+1)(hj:j<ss.length):atI ((V.str "line" :: .str m::iR ss rs)++[.str "",.str ""]) ((2:Int)+(j:Nat) * 2+2)=some (.str (nxt ss j)):=by
 have li:(iR ss rs).length=2 * ss.length - 1:=jD o6;rw[show(2:Int)+(j:Nat) * 2+2=((2 * (j+1)+1+1:Nat):Int) by lia];apply aH ?_;unfold nxt
 by_cases c:j+1<ss.length
 ·rw[bI (by simp only[aG];lia),aT,aT,qG (j+1) o6,gE c]
  rfl
 ·have e:j+1=ss.length:=by lia
  rw[aR (by simp only[aG];lia),e,eX (aA _)];have:2 * ss.length+1+1 - (V.str "line" :: .str m::iR ss rs).length=1:=by simp only[aG];lia
  rw[this];rfl
theorem scPrs:cA ["_law_rows","_law_kind","_law_found","_law_one","_law_other","_law_k","_law_first","_law_there"] pzE (defScope sPrs):=by trivial
theorem ok_prs {fE fR:aq}{dE dR:aY}(F:Fun K "_law_pairs" "_law_pairs" sPrs f fd)(T:Nm mg)(T2:Nt mg)(hint:mg "int" =none)(GE:Fn K mg "_law_ends" sEndW pzl fE dE)(FE:‹0› 1 fE dE pzl spEndW)
  (GR:Fn K mg "_law_ride" sRidW pzm fR dR) (FR:‹0› 1 fR dR pzm spRidW):‹0› 2 f fd pzE spPrs:=by
 specialize F.ok scPrs;obtain ⟨R,xs,prs,kd,rfl,hR,rw_,ok,few,hkd,k⟩:=h;have hr1:jI 1 _:=hr;apply ⟨_,PSl.h (bh ⟨(psZ 2 scPrs.nd (kL aw))⟩
  (bh ⟨(iC bX rfl (gK (pv 0)) (pgZ 3 scPrs.nd) (bD (iC bX rfl (gK (pv 0)) (pgZ 4 scPrs.nd) (bD (eO (bK pz (cE aW (pv 3) aC (fun _ _=>rfl)) (cE aW (pv 4) aC (fun _ _=>rfl)) (cn _)) (bD (iC bX rfl (oy rfl T2.range (ah aC (ah (bS bO rfl T.len aS (ah (pv 3) aw)) (ah aC aw)))) (pgZ 5 scPrs.nd) (PSl.h (bh ⟨(psZ 6 scPrs.nd (cE aW (pc1 GE FE hr1 (ah (pv 0) (ah (cE aW (pv 3) aC (fun _ _=>rfl)) (ah (cE aW (pv 3) (pv 5) (fun _ _=>rfl)) aw)))) (ff oS rfl hint boot_int (ah (iT iM (pv 1) dU (cn _)) aw)) (fun _ _=>rfl)))⟩
  (bh ⟨(ps_cut (eO (PW.pt (nN (bK pz (pv 1) dU (cn _)) (lU (bK pO ir (gM (ah (pv 6) (ah (cE aW (pc1 GE FE hr1 (ah (pv 0) (ah (cE aW (pv 4) aC (fun _ _=>rfl)) (ah (cE aW (pv 3) (pv 5) (fun _ _=>rfl)) aw)))) aC (fun _ _=>rfl)) aw))) rfl)))) (bD (hW (jQ bu bN bM gp (pv 2) (ah (PEs.h (pF (dw (k_ix aW ⟨pv 3⟩ jf (fun _ _=>rfl)) (dw (k_ix aW ⟨pv 4⟩ jf (fun _ _=>rfl)) (dw (k_ix aW ⟨pv 3⟩ ⟨pv 5⟩ (fun _ _=>rfl)) oW))))) aw)))) cv))⟩
  (bh ⟨(psZ 7 scPrs.nd (cE aW (cw ip (pv 3) (gM (ah dU (ah dU aw)))) (cw dZ (pv 5) aC) (fun _ _=>rfl)))⟩
  (fj ⟨(eO (PW.pt (nN (bK iM (pv 1) dU (cn _)) (lU (bK op_notN (pc1 GR FR hr1 (ah (pv 0) (ah (cE aW (pv 4) aC (fun _ _=>rfl)) (ah (pv 7) (ah (cE aW (pv 3) (pv 5) (fun _ _=>rfl)) aw))))) ir (cn _))))) (bD (hW (jQ bu bN bM gp (pv 2) (ah (PEs.h (pF (dw (k_ix aW ⟨pv 3⟩ jf (fun _ _=>rfl)) (dw (k_ix aW ⟨pv 4⟩ jf (fun _ _=>rfl)) (dw (k_ix aW ⟨pv 3⟩ ⟨pv 5⟩ (fun _ _=>rfl)) (dw ⟨pv 7⟩ oW)))))) aw)))) cv)⟩))))))) cv)))))⟩
  (fj ⟨(cb (pv 2))⟩))),?_⟩
 and_intros
 apply sq2 ?_
 intros
 have lxs:xs.length=prs.length:=by rw[rw_.len,ae]
 have big:(1000:Nat)≤ax:=by decide
 have okE:∀r∈prs,r.okE:=λr hr=>lnOk_E (ok r hr)
 apply⟨(by show 0≤ax;decide),λL hL=>?_⟩;have S2:cg H (upd H L (.lst [])):=(cg.refl H).put hL;have h2:(upd H L (.lst [])) L=some (.lst []):=aP;generalize upd H L (.lst [])=H2 at S2 h2 ⊢;have F0:Fnd H H2 L (pT prs kd) 0:=⟨S2,[],[],h2,⟨rfl,λi r h=>by cases h⟩,(λq hq=>by cases hq),aA _⟩;apply⟨ρ,R,rfl,⟨_,zL (S2 _ _ hR)⟩,?_⟩
 let pZ1:zV:=λi σ HB=>Fnd H HB L (pT prs kd) (310 * i)∧∃v3 v4 v5 v6 v7,σ=[some (.ref R),some (.str kd),some (.ref L),v3,v4,v5,v6,v7]
 apply jT (K:=K) (a:=R) (xs:=xs) pZ1
  ⟨F0,none,none,none,none,none,rfl⟩ (λi σ HB _ q=>zL (q.1.S _ _ hR)) ?_ ?_
 ·rintro i x σ HB hx ⟨FB,v3,v4,v5,v6,v7,rfl⟩
  have hi:i<prs.length:=by rw[←lxs];exact(aj.mp hx).1
  have hp:=gE hi;have okr:=ok _ (cu hi);obtain⟨a,hxa,hra⟩:=rw_.get i prs[i].rowV (by rw[ay,hp];rfl);rw[hx] at hxa;cases hxa;generalize prs[i]=r at okr hra hp;cases r with
  | beat b=>exact rM okr id
  | oth kk ns is=>exact rM okr id
  | line m ss rs =>
   have xin:=lsC_at hp;obtain⟨_,o2,nd,o4,o5,o6,_⟩:=okr;have hra:H a=some (.lst (.str "line" :: .str m::iR ss rs)):=hra;have lrow:(V.str "line" :: .str m::iR ss rs).length=2 * ss.length+1:=by rw[aG,aG,jD o6];lia
   apply⟨ρ,R,rfl,⟨_,zL (FB.S _ _ hR)⟩,?_⟩
   let pZ3:zV:=λj σ HB=>Fnd H HB L (pT prs kd) (310 * i+10 * j)∧∃v4 v5 v6 v7,σ=[some (.ref R),some (.str kd),some (.ref L),some (.ref a),v4,v5,v6,v7]
   apply jT (K:=K) (a:=R) (xs:=xs) pZ3
    ⟨FB,_,_,_,_,rfl⟩ (λi σ HB _ q=>zL (q.1.S _ _ hR)) ?_ ?_
   ·rintro j x σ HB hx2 ⟨FB,v4,v5,v6,v7,rfl⟩
    have hj:j<prs.length:=by rw[←lxs];exact(aj.mp hx2).1
    have hp2:=gE hj;have okr2:=ok _ (cu hj);obtain⟨b,hxb,hrb⟩:=rw_.get j prs[j].rowV (by rw[ay,hp2];rfl);rw[hx2] at hxb;cases hxb;generalize prs[j]=r at okr2 hrb hp2;cases r with
    | beat b=>exact rM okr2 id
    | oth kk ns is=>exact rM okr2 id
    | line m2 ss2 rs2 =>
     have hrb:H b=some (.lst (.str "line" :: .str m2::iR ss2 rs2)):=hrb;apply⟨ρ,a,τ,zL (FB.S _ _ hra),aH (j:=1) rfl,ρ,b,τ,zL (FB.S _ _ hrb),aH (j:=1) rfl,rfl,ρ,jq (λc=>?_) (λc=>?_)⟩
     rotate_left
     ·exact⟨FB.same (cg.refl _) ⋯,_,_,_,ρ⟩
     have ne:m≠m2:=λz=>by
      have c:(!decide (V.str m=V.str m2))=true:=c;rw[z,rO rfl] at c;cases c
     apply⟨ρ,a,ρ,.inl (zL (FB.S _ _ hra)),2,ρ,⟨↥0,↥0,by rw[lrow];lia,by rw[lrow];lia⟩,?_⟩;have en:((((V.str "line" :: .str m::iR ss rs).length:Nat):Int) - 2+1) / 2=(ss.length:Int):=by rw[lrow];lia
     rw[en,gq]
     let pZ5:zV:=λq σ HC=>Fnd H HC L (pT prs kd) (310 * i+10 * j+2 * q)∧∃v5 v6 v7,σ=[some (.ref R),some (.str kd),some (.ref L),some (.ref a),some (.ref b),v5,v6,v7]
     apply nt (lo:=2) (n:=ss.length) pZ5
      ⟨FB,_,_,_,rfl⟩ ?_ ?_
     ·rintro q σ HC hq ⟨FC,v5,v6,v7,rfl⟩
      have bnd:310 * i+10 * j+2 * (q+1)≤10000:=by lia
      obtain⟨s1,hs1⟩:∃s,ss[q]? =some s:=⟨_,gE ⋯⟩;have g1:atI (V.str "line" :: .str m::iR ss rs) ((2:Int)+(q:Nat) * 2)=some (.str s1):=by
       rw[show(2:Int)+(q:Nat) * 2=((2 * q+1+1:Nat):Int) by lia];exact aH (by rw[aT,aT,qG q o6,hs1];rfl)
      apply⟨ρ,ρ,a,τ,zL (FC.S _ _ hra),aH (j:=1) rfl,ρ,ρ,a,τ,zL (FC.S _ _ hra),g1,R,xs,prs,m,s1,rfl,FC.S _ _ hR,rw_.same FC.S,okE,⋯,λE1 c1 g H5 S5 e5 en1=>?_⟩;have F5:=FC.same S5 (aA _);apply⟨ρ,rfl,.inr ⟨ρ,E1,_,_,oV (if kd = "apart" then g else c1),rfl,rfl,zL e5,?_,?_⟩⟩
      ·by_cases z:kd = "apart"
       ·rw[rL z,rO (by rw[z])];rfl
       ·rw[rK z,rP λy=>z (by injection y)];rfl
      generalize hfi:(if kd = "apart" then g else c1)=fi;apply⟨λσ' H'=>Fnd H H' L (pT prs kd) (310 * i+10 * j+2 * q+1)∧σ'=[some (.ref R),some (.str kd),some (.ref L),some (.ref a),some (.ref b),some (.int ((2:Int)+(q:Nat) * 2)),some (oV fi),v7],λσ' H6 qq=>?_,?_⟩
      rotate_left
      ·apply⟨ρ,rfl,ρ,jq (λc2=>?_) (λc2=>?_)⟩
       rotate_left
       ·exact⟨F5.same (cg.refl _) ⋯,rfl⟩
       have nm:kd ≠ "meet":=λz=>by
        have c2:(!decide (V.str kd=V.str "meet"))=true:=c2;rw[z,rO rfl] at c2;cases c2
       apply⟨ρ,ρ,ρ,b,τ,zL (F5.S _ _ hrb),aH (j:=1) rfl,ρ,ρ,a,τ,zL (F5.S _ _ hra),g1,R,xs,prs,m2,s1,rfl,F5.S _ _ hR,rw_.same F5.S,okE,⋯,λE2 c3 g2 H6 S6 e6 en2=>?_⟩;have F6:=F5.same S6 (aA _);apply⟨E2,τ,zL e6,aH (j:=1) rfl,qW,λB H7 S7 e7=>?_⟩;have F7:=F6.same S7 (aA _);apply⟨B,ρ,.inl (zL e7),rfl,(by show(mY (oV fi) && (mY (oV g2) && true))=true;rw[pI,pI];rfl),ρ,jq (λc4=>?_) (λc4=>?_)⟩
       rotate_left
       ·exact⟨F7.same (cg.refl _) ⋯,rfl⟩
       have c4:(!inV .non [oV fi,oV g2])=true:=c4;rw[qI] at c4;obtain⟨c5,c6⟩:fi.isNone=false∧g2.isNone=false:=by
        cases hf:fi.isNone <;> cases hg:g2.isNone <;> rw[hf,hg] at c4 <;> first | exact⟨rfl,rfl⟩ | cases c4
       obtain⟨y,hy,jy,y1,y2,y3⟩:=en2.go c6;have pk:pT prs kd [m,m2,s1]:=by
        by_cases z:kd = "apart"
        ·rw[rL z] at hfi
         obtain⟨x,hx,ix,x1,x2,x3⟩:=en1.go (by rw[hfi];exact c5);apply⟨x,y,hx,hy,by rw[x1,y1];exact ne,?_⟩;rw[z,←x1,←y1];exact .apart x2 x3 y2 y3
        ·rw[rK z] at hfi
         have z2:kd = "change":=by
          rcases hkd with h | h | h
          ·exact h
          ·exact rM h z
          ·exact rM h nm
         obtain⟨x,hx,ix,x1,x2,x3⟩:=en1.come (by rw[hfi];exact c5);apply⟨x,y,hx,hy,by rw[x1,y1];exact ne,?_⟩;rw[z2,←x1,←y1];exact .change x2 x3 y2 y3
       obtain⟨ys,qs,hL7,_⟩:=F7.ex;apply⟨ρ,.inl ⟨rfl,_,zL hL7⟩,ρ,a,τ,zL (F7.S _ _ hra),aH (j:=1) rfl,ρ,b,τ,zL (F7.S _ _ hrb),aH (j:=1) rfl,ρ,ρ,a,τ,zL (F7.S _ _ hra),g1,(by show 3≤ax;decide),λB2 H8 S8 e8=>?_⟩;obtain⟨ys2,hLE,lz,FF⟩:=F7.app (m:=310 * i+10 * j+2 * q+1) hL S8 (z:=m) (t:=[m2,s1]) e8 pk ⋯ ⋯;exact⟨L,ys2,ρ,rfl,hLE,lz,FF,rfl⟩
      obtain⟨F6,rfl⟩:=qq;apply⟨ρ,qW,λC H7 S7 e7=>?_⟩;have F7:=F6.same S7 (aA _);apply⟨a,C,ς,F7.S _ _ hra,e7,(by rw[lrow];show 2 * ss.length+1+2≤ax;lia),λD H8 S8 e8=>?_⟩;have F8:=F7.same S8 (aA _);apply⟨ρ,ς,D,τ,zL e8,nxt_at o6 hq,?_⟩;apply⟨ρ,rfl,ρ,jq (λc2=>?_) (λc2=>?_)⟩
      rotate_left
      ·exact⟨F8.same (cg.refl _) ⋯,_,_,ρ⟩
      have c2:kd = "meet":=by have:=rQ c2;injection this
      apply⟨ρ,ρ,b,τ,zL (F8.S _ _ hrb),aH (j:=1) rfl,ρ,ρ,ρ,a,τ,zL (F8.S _ _ hra),g1,R,xs,prs,m2,nxt ss q,s1,rfl,F8.S _ _ hR,rw_.same F8.S,okE,⋯,λo H9 S9 rd=>?_⟩;have F9:=F8.same S9 (aA _);apply⟨rfl,ρ,jq (λc3=>?_) (λc3=>?_)⟩
      rotate_left
      ·exact⟨F9.same (cg.refl _) ⋯,_,_,ρ⟩
      have c3:(!decide (oV o=V.non))=true:=c3;rw[oV_non] at c3;have pk:pT prs kd [m,m2,s1,nxt ss q]:=by
       rcases rd with ⟨y,hy,jy,u,y1,y2,y3,y4,y5⟩ | ⟨_,e⟩
       ·have ny:nam (nxt ss q)=true:=by
         obtain⟨iy,hiy⟩:=cP (lsC_mem hy).1;exact(ok _ (aD hiy)).2.1 _ (aD y2)
        have hq1:q+1<ss.length:=by
         by_cases c:q+1<ss.length
         ·exact c
         ·apply rM ?_ (nam_ne ny)
          unfold nxt;rw[eX ⋯];rfl
        obtain⟨r1,hr1⟩:∃r,rs[q]? =some r:=⟨_,gE ⋯⟩;have hn:ss[q+1]? =some (nxt ss q):=by unfold nxt;rw[gE hq1];rfl
        apply⟨_,y,xin,hy,by rw[y1];exact ne,?_⟩;rw[c2,←y1];exact .meet (x:=⟨m,ss,rs,[],ib (lsC (prs.take i))⟩) hs1 hn hr1 y2 y3 y4
       ·rw[e] at c3;cases c3
      obtain⟨ys,qs,hL9,_⟩:=F9.ex;apply⟨ρ,.inl ⟨rfl,_,zL hL9⟩,ρ,a,τ,zL (F9.S _ _ hra),aH (j:=1) rfl,ρ,b,τ,zL (F9.S _ _ hrb),aH (j:=1) rfl,ρ,ρ,a,τ,zL (F9.S _ _ hra),g1,ρ,szZ4,λB2 Ha Sa ea=>?_⟩;obtain⟨ys2,hLE,lz,FF⟩:=F9.app (m:=310 * i+10 * j+2 * (q+1)) hL Sa (z:=m) (t:=[m2,s1,nxt ss q]) ea pk ⋯ ⋯;exact⟨L,ys2,ρ,rfl,hLE,lz,FF,_,_,ρ⟩
     ·rintro σ HC ⟨FC,v5,v6,v7,rfl⟩
      exact⟨FC.same (cg.refl _) ⋯,_,_,_,ρ⟩
   ·rintro σ HB ⟨FB,v4,v5,v6,v7,rfl⟩
    exact⟨FB.same (cg.refl _) (by rw[lxs];lia),_,_,_,_,ρ⟩
 ·rintro σ HB ⟨FB,v3,v4,v5,v6,v7,rfl⟩
  obtain⟨ys,qs,h1,h2,h3,h4⟩:=FB.ex;exact⟨ρ,k L ys qs HB FB.S h1 h2 h3 ⋯⟩
abbrev sMor:cN:=top 53
def MoreOk (b:Int)(prs rows:List PR):PR→Prop
 | .oth k ns is=>(k = "stay" ∧∃(x:Ln) (z:Str) (l o w:Int) (i:Nat),x∈lsC prs∧ns=[x.n,z]∧is=[l,o,w]∧x.ss[i]? =some z∧1≤i∧i+1<x.ss.length∧(x.n,z) ∉ stz rows∧NumOk b l o w)∨(k ≠ "stay" ∧BwOk b prs k ns is)
 | _=>False
inductive spMor (vs:List V)(H:Hp)(Q:VK)(_:XK):Prop
 | mk (p:aq)(n b:Int)(R R2:aq)(xs x2:List V)(prs rows:List PR)(_:vs=[.ref p,.int b,.ref R,.ref R2])(_:H p=some (.lst [.int n]))(_:(1≤b∧b≤10 ^ 30))(_:H R=some (.lst xs))(_:jM H xs (prs.map PR.rowV))(_:qV prs)(_:H R2=some (.lst x2))(_:jM H x2 (rows.map PR.rowV))(_:(∀r∈rows,r.okI))(_:rows.length≤100)(_:(∀H',Mv p H H'→Q .non H'))(_:∀(L:aq) (r:PR) (H':Hp),Mv p H H'→H' L=some (.lst r.rowV)→MoreOk b prs rows r→Q (.ref L) H')
theorem okI_two (h:r.okI):2≤r.rowV.length:=by
 cases r with
 | line n ss rs=>exact rowV_two h
 | beat b=>exact rM h id
 | oth k ns is =>
  obtain⟨_,h2,_⟩:=h;show 2≤(ns.map V.str++is.map V.int).length+1;rw[ao,ae];lia
theorem nm_one (nd:(ls.map (·.n)).Nodup){x y:Ln}(hx:x∈ls)(hy:y∈ls)(e:x.n=y.n):x=y:=by
 obtain⟨i,hi⟩:=cP hx;obtain⟨j,hj⟩:=cP hy;have h1:(ls.map (·.n))[i]? =some x.n:=by rw[ay,hi];rfl
 have h2:(ls.map (·.n))[j]? =some x.n:=by rw[ay,hj,e];rfl
 have:=jA nd h1 h2;subst this;rw[hi] at hj;exact bF hj
theorem Ride.of (L:qV prs){x:Ln}{y:Str}{r:Int}{o:Option Int}(hx:x∈lsC prs)(h1:x.ss[i]? =some z)(h2:x.ss[i+1]? =some y)(h3:x.rs[i]? =some r)(R:Ride prs x.n z y o):o=some r:=by
 rcases R with ⟨x',hx',i',r',e1,e2,e3,e4,e5⟩ | ⟨no,_⟩
 ·have ex:=nm_one (L.rows 1).nd hx' hx e1
  subst ex;have nd:x'.ss.Nodup:=((L.rows 1).lnOk hx').2.2.1;have:=jA nd e2 h1;subst this;rw[e4] at h3;rw[e5,h3]
 ·exact rM h2 (no x hx rfl i h1)
theorem ride_bd (L:qV prs){x:Ln}{r:Int}(hx:x∈lsC prs)(h:x.rs[i]? =some r):0≤r∧r<10 ^ 60:=((L.rows 1).lnOk hx).2.2.2.2.2.2 r (aD h)
theorem lst_si {s:Str}{n:Int}:HO.lst [.str s]≠HO.lst [.int n]:=λz=>by injection z with z;injection z with z;cases z
theorem scMor:cA ["_law_pot_here","_law_beat","_law_lines_here","_law_rows","_law_kind","_law_inner_here","_law_some","_law_row","_law_room","_law_gap"] pzu (defScope sMor):=by trivial
theorem ok_mor {fI fS fP fR:aq}{dI dS dP dR:aY}(F:Fun K "_law_more_row" "_law_more_row" sMor f fd)(T:Nm mg)(T2:Nt mg)(GT:Fn K mg "_law_take" qu pzd fT dT)
  (GI:Fn K mg "_law_inner" sInn pzD fI dI) (FI:‹0› 1 fI dI pzD spInn)
  (GS:Fn K mg "_law_span_words" sSpw pzC fS dS) (FS:‹0› 2 fS dS pzC spSpw)
  (GP:Fn K mg "_law_pairs" sPrs pzE fP dP) (FP:‹0› 2 fP dP pzE spPrs)
  (GR:Fn K mg "_law_ride" sRidW pzm fR dR) (FR:‹0› 1 fR dR pzm spRidW):‹0› 3 f fd pzu spMor:=by
 have FT:‹0› 1 fT dT pzd nM:=mB GT.F;specialize F.ok scMor;obtain ⟨p,n,b,R,R2,xs,x2,prs,rows,rfl,hp,⟨b1,b2⟩,hR,rw_,lok,hR2,rw2,ok2,few2,kN,kR⟩:=h;have hr1:jI 1 _:=hr.mono ↥0;have hr2:jI 2 _:=hr;apply exw_of (bh (tw_set (i:=4) scMor.nd rfl (.inl rfl) (k_ix aW (pF (dw k_str (dw k_str (dw k_str (dw k_str (dw k_str (dw k_str oW))))))) ⟨pc1 GT FT hr1 (ah (pv 0) (ah aC aw))⟩ (fun _ _=>rfl)))
  (bh (tw_if (bK iM (pv 4) dU (cn _)) (bh ⟨(psZ 5 scMor.nd (pc1 GI FI hr1 (ah (pv 2) (ah (pv 3) aw))))⟩
  (bh (tw_if (bK (op_eqL0 hr.units0) (pv 5) (gM aw) (cn _)) (fj ⟨(cb ir)⟩) rF)
  (fj ⟨(cb (cw ip (cw ip (gM (ah dU aw)) (cE aW (pv 5) (pc1 GT FT hr1 (ah (pv 0) (ah (bS bO rfl T.len aS (ah (pv 5) aw)) aw))) (fun _ _=>rfl))) (pc1 GS FS hr2 (ah (pv 0) (ah (pv 1) aw)))))⟩))) rF)
  (bh ⟨(psZ 6 scMor.nd (pc1 GP FP hr2 (ah (pv 2) (ah (pv 4) aw))))⟩
  (bh (tw_if (bK (op_eqL0 hr.units0) (pv 6) (gM aw) (cn _)) (fj ⟨(cb ir)⟩) rF)
  (bh ⟨(psZ 7 scMor.nd (cw ip (gM (ah (pv 4) aw)) (cE aW (pv 6) (pc1 GT FT hr1 (ah (pv 0) (ah (bS bO rfl T.len aS (ah (pv 6) aw)) aw))) (fun _ _=>rfl))))⟩
  (bh (tw_if (bK iM (pv 4) dU (cn _)) (fj ⟨(cb (cw ip (pv 7) (pc1 GS FS hr2 (ah (pv 0) (ah (pv 1) aw)))))⟩) rF)
  (bh ⟨(psZ 8 scMor.nd (pv 1))⟩
  (bh (tw_if (bK iM (pv 4) dU (cn _)) (bh ⟨(psZ 8 scMor.nd (cw gL (pv 1) (pc1 GR FR hr1 (ah (pv 2) (ah (cE aW (pv 7) aC (fun _ _=>rfl)) (ah (cE aW (pv 7) aC (fun _ _=>rfl)) (ah (cE aW (pv 7) aC (fun _ _=>rfl)) aw)))))))⟩
  (fj ⟨(psZ 8 scMor.nd (cw gL (pv 8) (pc1 GR FR hr1 (ah (pv 2) (ah (cE aW (pv 7) aC (fun _ _=>rfl)) (ah (cE aW (pv 7) aC (fun _ _=>rfl)) (ah (cE aW (pv 7) aC (fun _ _=>rfl)) aw)))))))⟩)) rF)
  (bh ⟨(psZ 9 scMor.nd (pc1 GT FT hr1 (ah (pv 0) (ah (bS (call_max2 rfl) rfl T2.max boot_max (ah aC (ah (cw dZ (cw op_fdiv (pv 8) aC) aC) aw))) aw))))⟩
  (bh (tw_if (PW.pt (ma (bK pA (pv 8) (cw kz aC (pv 9)) (cn _)) (kq (bK op_ge (cw gL (pv 8) (cw kz aC (pv 9))) (pv 1) (cn _))))) (fj ⟨(cb ir)⟩) rF)
  (fj ⟨(cb (cw ip (pv 7) (gM (ah (pv 9) aw))))⟩))))))))))) ?_
 and_intros
 have big:(100000:Nat)≤ax:=by decide
 have two:∀r∈prs.map PR.rowV,2≤r.length:=λr hr=>by
  obtain⟨q,hq,rfl⟩:=aK.mp hr;exact rowV_two (lok.ok q hq)
 have two2:∀r∈rows.map PR.rowV,2≤r.length:=λr hr=>by
  obtain⟨q,hq,rfl⟩:=aK.mp hr;exact okI_two (ok2 q hq)
 have nR:=rw_.nep hp hR;have nR2:=rw2.nep hp hR2;have okE:∀r∈prs,r.okE:=λr hr=>lnOk_E (lok.ok r hr)
 have fewp:=lok.few;have gets:∀{H':Hp},Mv p H H'→H' R=some (.lst xs)∧jM H' xs (prs.map PR.rowV)∧H' R2=some (.lst x2)∧jM H' x2 (rows.map PR.rowV):=λM=>⟨M.1 _ _ nR hR,rw_.mv M hp two,M.1 _ _ nR2 hR2,rw2.mv M hp two2⟩
 apply⟨(by show 6≤ax;decide),λB H1 S1 e1=>?_⟩;have M1:Mv p H H1:=Mv.of S1 (S1 _ _ hp);apply⟨ρ,p,n,6,rfl,S1 _ _ hp,↥0,↥0,λr H2 a0 a1 M2'=>?_⟩;have e2:=M2'.1 _ _ (dz e1 (S1 _ _ hp) (je ∅)) e1;have M2:=M1.trans M2';obtain⟨v,ev,mv⟩:=oU (xs:=[V.str "stay",.str "change",.str "apart",.str "meet",.str "change",.str "stay"]) a0 (by show r<6;lia);obtain⟨kd,rfl,hkd⟩:∃kd:Str,v= .str kd∧(kd = "stay" ∨kd = "change" ∨kd = "apart" ∨kd = "meet"):=by
  simp only[az,bg,or_false] at mv
  rcases mv with rfl | rfl | rfl | rfl | rfl | rfl <;> exact⟨ρ,∅⟩
 apply⟨B,τ,zL e2,ev,?_⟩;obtain⟨n2,hp2⟩:=M2.2;obtain⟨gR,gw,gR2,gw2⟩:=gets M2;apply⟨ρ,rfl,ρ,jq (λc1=>?_) (λc1=>?_)⟩
 ·apply⟨ρ,ρ,R,R2,xs,x2,prs,rows,rfl,gR,gw,lok.ok,lok.few,gR2,gw2,ok2,few2,λL ys qs H3 S3 e3 rw3 ok3 l3=>?_⟩
  apply⟨ρ,(by show 0≤ax;decide),λEm H4 S4 e4=>?_⟩;have M4:Mv p H H4:=M2.then (S3.trans S4);apply⟨L,Em,ys,rfl,rfl,zL (S4 _ _ e3),zL e4,ρ,jq (λ_=>kN H4 M4) (λc2=>?_)⟩;have ly:ys.length=qs.length:=by rw[rw3.len,ae]
  have ne:0<ys.length:=by
   cases ys with
   | nil=>exact rM rfl c2
   | cons _ _=>simp
  apply⟨szZ1,λC H5 S5 e5=>?_⟩;have M5:=M4.then S5;obtain⟨n5,hp5⟩:=M5.2;have rw5:=rw3.same (S4.trans S5);have e35:=(S4.trans S5) _ _ e3;have nL:=rw5.nep hp5 e35;apply⟨ρ,ρ,ρ,L,ρ,.inl (zL e35),p,n5,ρ,hp5,(by show(0:Int)<(ys.length:Int);lia),(by show(ys.length:Int)<10 ^ 61;lia),λr6 H6 c60 c61 M6'=>?_⟩;obtain⟨j,rfl⟩:=cU c60;have c61:(j:Int)<(ys.length:Int):=c61;have hj:j<qs.length:=by lia
  have M6:=M5.trans M6';obtain⟨x,z,i,hx,eq,x1,x2,x3,x4⟩:=ok3 _ (cu hj);obtain⟨a,hya,hra⟩:=rw5.get j (qs[j].map V.str) (by rw[ay,gE hj];rfl);rw[eq] at hra;have hra6:=M6'.1 _ _ (dz hra hp5 (je ∅)) hra;have e56:=M6'.1 _ _ (dz e5 hp5 lst_si) e5;apply⟨L,τ,zL (M6'.1 _ _ nL e35),aH hya,C,a,ς,e56,hra6,(by show 1+2≤ax;lia),λD H7 S7 e7=>?_⟩;have M7:=M6.then S7;obtain⟨n7,hp7⟩:=M7.2;apply⟨ρ,ρ,p,n7,b,rfl,hp7,b1,b2,λE2 l o wt H8 M8' e8 num=>?_⟩;have e78:=M8'.1 _ _ (dz e7 hp7 (je ∅)) e7;apply⟨D,E2,ς,e78,e8,(by show 3+3≤ax;lia),λF2 H9 S9 e9=>?_⟩;exact kR F2 (.oth "stay" [x.n,z] [l,o,wt]) H9 ((M7.trans M8').then S9) e9 (.inl ⟨rfl,x,z,l,o,wt,i,hx,rfl,rfl,x1,x2,x3,x4,num⟩)
 have hkd:kd = "change" ∨kd = "apart" ∨kd = "meet":=by
  rcases hkd with h | h
  ·exact rM (rO (by rw[h])) c1
  ·exact h
 apply⟨ρ,ρ,R,xs,prs,kd,rfl,gR,gw,lok.ok,lok.few,hkd,λL ys qs H3 S3 e3 rw3 ok3 l3=>?_⟩;apply⟨ρ,(by show 0≤ax;decide),λEm H4 S4 e4=>?_⟩;have M4:Mv p H H4:=M2.then (S3.trans S4);apply⟨L,Em,ys,rfl,rfl,zL (S4 _ _ e3),zL e4,ρ,jq (λ_=>kN H4 M4) (λc2=>?_)⟩;have ly:ys.length=qs.length:=by rw[rw3.len,ae]
 have ne:0<ys.length:=by
  cases ys with
  | nil=>exact rM rfl c2
  | cons _ _=>simp
 apply⟨ρ,szZ1,λC H5 S5 e5=>?_⟩;have M5:=M4.then S5;obtain⟨n5,hp5⟩:=M5.2;have rw5:=rw3.same (S4.trans S5);have e35:=(S4.trans S5) _ _ e3;have nL:=rw5.nep hp5 e35;apply⟨ρ,ρ,ρ,L,ρ,.inl (zL e35),p,n5,ρ,hp5,(by show(0:Int)<(ys.length:Int);lia),(by show(ys.length:Int)<10 ^ 61;lia),λr6 H6 c60 c61 M6'=>?_⟩;obtain⟨j,rfl⟩:=cU c60;have c61:(j:Int)<(ys.length:Int):=c61;have hj:j<qs.length:=by lia
 have M6:=M5.trans M6';obtain⟨x,y,hx,hy,nxy,pr⟩:=ok3 _ (cu hj);obtain⟨a,hya,hra⟩:=rw5.get j (qs[j].map V.str) (by rw[ay,gE hj];rfl);have e56:=M6'.1 _ _ (dz e5 hp5 lst_si) e5;apply⟨L,τ,zL (M6'.1 _ _ nL e35),aH hya,?_⟩;generalize qs[j]=q at pr hra;cases pr with
 | @change z i j' h1 h2 h3 h4 =>
  have hra6:=M6'.1 _ _ (dz hra hp5 (je ∅)) hra;apply ⟨C,a,ς,e56,hra6,(by show 1+3≤ax;lia),fun D H7 S7 e7=>?_⟩;have M7:=M6.then S7;obtain ⟨n7,hp7⟩:=M7.2;apply ⟨ρ,rfl,ρ,lO (rO rfl) ?_⟩;apply ⟨ρ,ρ,ρ,p,n7,b,rfl,hp7,b1,b2,fun E2 l o wt H8 M8' e8 num=>?_⟩;have e78:=M8'.1 _ _ (dz e7 hp7 (je ∅)) e7;apply ⟨D,E2,ς,e78,e8,(by show 4+3≤ax;lia),fun F2 H9 S9 e9=>?_⟩;obtain ⟨u1,u2,u3,u4,u5,u6⟩:=num;exact kR F2 (.oth "change" [x.n,y.n,z] [l,o,wt]) H9 ((M7.trans M8').then S9) e9 (.inr ⟨by trivial,_,⟨x,y,hx,hy,nxy,.change (l:=l) (o:=o) (w:=wt) h1 h2 h3 h4⟩,⟨u1,u2,u3,u4,u5,u6⟩,fun i hi=>by
   simp only[az,bg,or_false] at hi
   rcases hi with rfl | rfl | rfl
   ·exact⟨u1,⋯⟩
   ·exact⟨⋯,⋯⟩
   ·exact ⟨u5,⋯⟩⟩)
 | @apart z i j' h1 h2 h3 h4 =>
  have hra6:=M6'.1 _ _ (dz hra hp5 (je ∅)) hra;apply⟨C,a,ς,e56,hra6,(by show 1+3≤ax;lia),λD H7 S7 e7=>?_⟩;have M7:=M6.then S7;obtain⟨n7,hp7⟩:=M7.2;apply⟨ρ,rfl,ρ,iQ ⇑0 ?_⟩;apply⟨ρ,?_⟩;apply⟨ρ,rfl,ρ,iQ ⇑0 ?_⟩;apply⟨ρ,ρ,ς,⟨↥0,↥0⟩,ς,_,ρ,p,n7,ρ,hp7,(by split <;> lia),(by split <;> lia),λg H8 g0 g1 M8'=>?_⟩;have e78:=M8'.1 _ _ (dz e7 hp7 (je ∅)) e7;have M8:=M7.trans M8';apply⟨ρ,ρ,ς,.inl ⟨↥0,↥0⟩,ς,ρ,jq (λ_=>kN H8 M8) (λc3=>?_)⟩;have c3:2 * g≤b:=by
   have:¬(b<2 * g):=λz=>c3 (rO z)
   lia
  apply⟨ρ,ρ,ς,.inl ⟨↥0,↥0⟩,ς,ρ,ς,ρ,jq (λ_=>kN H8 M8) (λc4=>?_)⟩;have c4:b - 2 * g<b:=by
   have:¬(b≤b - 2 * g):=λz=>c4 (rO z)
   lia
  apply ⟨ρ,ρ,szZ1,fun G H9 S9 e9=>?_⟩;apply ⟨D,G,ς,S9 _ _ e78,e9,(by show 4+1≤ax;lia),fun F2 Ha Sa ea=>?_⟩;exact kR F2 (.oth "apart" [x.n,y.n,z] [g]) Ha (M8.then (S9.trans Sa)) ea (.inr ⟨by trivial,_,⟨x,y,hx,hy,nxy,.apart (d:=g) h1 h2 h3 h4⟩,⟨g0,by dsimp only;lia,by dsimp only;lia,by dsimp only;lia,by dsimp only;decide,by dsimp only;decide⟩,fun i hi=>by
   rw[aB.mp hi];exact ⟨g0,⋯⟩⟩)
 | @meet z z2 r u i j' h1 h2 h3 h4 h5 h6 =>
  have hra6:=M6'.1 _ _ (dz hra hp5 (je ∅)) hra;apply⟨C,a,ς,e56,hra6,(by show 1+4≤ax;lia),λD H7 S7 e7=>?_⟩;have M7:=M6.then S7;apply⟨ρ,rfl,ρ,iQ ⇑0 ?_⟩;apply⟨ρ,?_⟩;apply⟨ρ,rfl,ρ,lO (rO rfl) ?_⟩;obtain⟨gR,gw,_,_⟩:=gets M7;have bx:=ride_bd lok hx h3;have b_y:=ride_bd lok hy h6;apply⟨ρ,ρ,ρ,D,τ,zL e7,aH (j:=1) rfl,ρ,D,τ,zL e7,aH (j:=3) rfl,ρ,D,τ,zL e7,aH (j:=4) rfl,R,xs,prs,x.n,z,z2,rfl,gR,gw,okE,⋯,λo1 H8 S8 rd1=>?_⟩;rw[rd1.of lok hx h1 h2 h3];have e78:=S8 _ _ e7;have M8:=M7.then S8;obtain⟨gR,gw,_,_⟩:=gets M8;apply⟨ς,ρ,ρ,ρ,D,τ,zL e78,aH (j:=2) rfl,ρ,D,τ,zL e78,aH (j:=4) rfl,ρ,D,τ,zL e78,aH (j:=3) rfl,R,xs,prs,y.n,z2,z,rfl,gR,gw,okE,⋯,λo2 H9 S9 rd2=>?_⟩;rw[rd2.of lok hy h4 h5 h6];have e79:=S9 _ _ e78;have M9:=M8.then S9;obtain⟨n9,hp9⟩:=M9.2;apply⟨ς,?_⟩;obtain⟨room,er⟩:∃room,b - r - u=room:=⟨_,rfl⟩;have hro:room≤b:=by lia
  apply⟨ρ,ρ,ς,⟨↥0,↥0⟩,ς,_,ρ,p,n9,ρ,hp9,(by split <;> lia),(by show(if (b - r - u) / 2+1 > 1 then (b - r - u) / 2+1 else 1)<10 ^ 61;split <;> lia),λg H8 g0 g1 M8'=>?_⟩;have e78:=M8'.1 _ _ (dz e79 hp9 (je ∅)) e79;have Ma:=M9.trans M8';apply⟨ρ,ρ,ς,.inl ⟨↥0,↥0⟩,ς,ρ,jq (λ_=>kN H8 Ma) (λc3=>?_)⟩;have c3:2 * g≤b - r - u:=by
   have:¬(b - r - u<2 * g):=λz=>c3 (rO z)
   lia
  apply⟨ρ,ρ,ς,.inl ⟨↥0,↥0⟩,ς,ρ,ς,ρ,jq (λ_=>kN H8 Ma) (λc4=>?_)⟩;have c4:b - r - u - 2 * g<b:=by
   have:¬(b≤b - r - u - 2 * g):=λz=>c4 (rO z)
   lia
  apply ⟨ρ,ρ,szZ1,fun G H9 S9 e9=>?_⟩;apply ⟨D,G,ς,S9 _ _ e78,e9,(by show 5+1≤ax;lia),fun F2 Hb Sb eb=>?_⟩;exact kR F2 (.oth "meet" [x.n,y.n,z,z2] [g]) Hb (Ma.then (S9.trans Sb)) eb (.inr ⟨by trivial,_,⟨x,y,hx,hy,nxy,.meet (d:=g) h1 h2 h3 h4 h5 h6⟩,⟨by dsimp only;lia,by dsimp only;lia,by dsimp only;lia,by dsimp only;lia,by dsimp only;decide,by dsimp only;decide⟩,fun i hi=>by
   rw[aB.mp hi];exact ⟨g0,⋯⟩⟩)
end HN
namespace L2
open PySem PySem.Spec PyProof.Rows
def lP:List Int→Int
 | []=>0
 | [a]=>a
 | a::b::l=>if a > lP (b::l) then a else lP (b::l)
theorem great_ok:∀(l:List Int),l≠[]→lP l∈l∧∀a∈l,a≤lP l
 | [],h=>rM rfl h
 | [a],_=>⟨by simp[lP],λx hx=>by rw[aB.mp hx];exact j6 _⟩
 | a::b::l,_=>by
  obtain⟨h1,h2⟩:=great_ok (b::l) ∅;show(if a > lP (b::l) then a else lP (b::l))∈a::b::l∧∀x∈a::b::l,x≤(if a > lP (b::l) then a else lP (b::l));split
  ·apply⟨bJ ..,λx hx=>?_⟩
   rcases az.mp hx with rfl | hx
   ·exact j6 _
   ·have:=h2 x hx;lia
  ·apply⟨aO _ h1,λx hx=>?_⟩
   rcases az.mp hx with rfl | hx
   ·lia
   ·exact h2 x hx
theorem call_max1 (hc:X.calm=true):jn X (.builtin "max") (λxs H Q=>∃(p:aq) (ns:List Int),xs=[.ref p]∧SqL X.K H p (ns.map V.int)∧ns≠[]∧Q (.int (lP ns)) H):=by
 intro aL s σ H xs us Q I r h;obtain⟨p,ns,rfl,hq,hne,q⟩:=h;obtain⟨u,rfl,ru⟩:=mM r;cases(show u=af.ref p from ru);obtain⟨its,rv,pl,hz⟩:=I.list hq;have hi:=ints_are rv;obtain⟨ys,hx⟩:=hi.allInts.items;have hl':s.heap.IsList p (intItems ys):=hx ▸ pl.isList;have e1:ns=ys.toList.map (·.1):=by
  rw[←nums_intItems,←hx];exact(show numsOf its.toArray.toList=ns from hi.numsOf).symm
 have hsz:0<ys.size:=by
  have:0<ns.length:=List.length_pos_iff.mpr hne;rw[e1,ae,gS] at this;exact this
 apply max_intList (I.ok.hd hc) hl' hsz λv h' tk hv hk=>?_
 obtain⟨t,rfl⟩:=intItems_at hv;obtain⟨b1,b2⟩:=argBest_gt (numAt ys) (ys.size - 1);obtain⟨l1,l2⟩:=great_ok ns hne;have m1:numAt ys (argBest (λi j=>decide (numAt ys i > numAt ys j)) (ys.size - 1))∈ns:=by
  rw[e1,numAt_eq];exact getD_mem (by rw[ae,gS];lia)
 have m2:numAt ys (argBest (λi j=>decide (numAt ys i > numAt ys j)) (ys.size - 1))=lP ns:=by
  apply Int.le_antisymm (l2 _ m1) ?_;have l3:lP ns∈ys.toList.map (·.1):=by rw[←e1];exact l1
  obtain⟨j,hj,e⟩:=mem_getD l3;rw[ae,gS] at hj;rw[←e,←numAt_eq];exact b2 j ⋯
 rw[m2];exact⟨.int (lP ns),H,I.kept (t':=tk) hk,⟨t,rfl⟩,q⟩
end L2
namespace HN
open PySem L2 PyProof.Rows HT2
local macro_rules
 |`(tactic|and_intros)=>`(tactic|try dsimp only[cxK])
abbrev sPln:cN:=top 54
theorem lsC_idx:∀{rows:List PR} {x:Ln},x∈lsC rows→∃i,rows[i]? =some (.line x.n x.ss x.rs)∧∀m,i<m→x∈lsC (rows.take m):=by
 intro rows
 induction rows using qY with
 | h0=>intro x h;cases h
 | h1 rs r ih =>
  intro x h;have old:x∈lsC rs→∃i,(rs++[r])[i]? =some (.line x.n x.ss x.rs)∧∀m,i<m→x∈lsC ((rs++[r]).take m):=λh=>by
   obtain⟨i,h1,h2⟩:=ih h;have li:=(aj.mp h1).1;apply⟨i,by rw[bI li];exact h1,λm hm=>?_⟩
   by_cases c:m≤rs.length
   ·rw[iU c];exact h2 m hm
   ·rw[bR (by rw[ao];show rs.length+1≤m;lia)]
    exact lsC_sub [r] rs h
  rw[gf] at h;cases r with
  | beat b=>exact old h
  | oth k ns is=>exact old h
  | line n ss rs' =>
   rcases aX.mp h with h | h
   ·exact old h
   ·rw[aB.mp h]
    apply⟨rs.length,by rw[aR (aA _),fu];rfl,λm hm=>?_⟩;rw[bR (by rw[ao];show rs.length+1≤m;lia),gf];exact bz _ (aB.mpr rfl)
theorem lB.okI (h:lB b pre r):r.okI:=by
 cases r with
 | beat b=>exact h
 | line n ss rs=>exact h.2
 | oth k ns is =>
  rcases h with ⟨rfl,x,z,l,o,w,i,_,rfl,_⟩ | ⟨hk,sn,⟨x,y,_,_,_,B⟩,_⟩
  ·exact⟨by trivial,aA _,λ_=>rfl⟩
  ·apply⟨(bt_kind B).2.1,?_,λz=>rM z hk⟩
   cases B <;> simp
theorem gJ.okI {rows:List PR}(h:gJ b rows):∀r∈rows,r.okI:=λr hr=>by
 obtain⟨i,hi⟩:=cP hr;exact(h i r hi).okI
theorem MoreOk.wds {rows:List PR}(h:MoreOk b prs rows r):∃(k w1 w2:Str) (t:List V),r.rowV= .str k:: .str w1:: .str w2::t∧r.isL=false∧(∃x∈lsC prs,x.n=w1)∧(∀p,r.sty2=some p→p ∉ stz rows) ∧
  (∀m,(∀x∈lsC prs,x.n=w1∨x.n=w2→x∈lsC (rows.take m))→lB b (rows.take m) r)∧r.spn=(if k = "stay" then 0 else 1):=by
 cases r with
 | beat b=>exact rM h id
 | line n ss rs=>exact rM h id
 | oth k ns is =>
  rcases h with ⟨rfl,x,z,l,o,w,i,hx,rfl,rfl,h1,h2,h3,h4,h5⟩ | ⟨hk,sn,⟨x,y,hx,hy,ne,B⟩,num,wi⟩
  ·apply⟨"stay",x.n,z,[.int l,.int o,.int w],rfl,rfl,⟨x,hx,rfl⟩,λp hp=>?_,λm hm=>.inl ⟨rfl,x,z,l,o,w,i,hm x hx (.inl rfl),rfl,rfl,h1,h2,h3,λq=>h4 ?_,h5⟩,rfl⟩
   ·have:(some (x.n,z):Option (Str×Str))=some p:=by rw[←hp];unfold PR.sty2;exact(rL rfl).symm
    cases this;exact h4
   ·obtain⟨r',hr',e'⟩:=ia.mp q
    exact ia.mpr ⟨r',iA hr',e'⟩
  ·obtain⟨t,et⟩:∃t,ns=x.n::y.n::t:=by cases B <;> exact⟨ρ⟩
   apply⟨k,x.n,y.n,t.map V.str++is.map V.int,by rw[et];rfl,rfl,⟨x,hx,rfl⟩,λp hp=>?_,λm hm=>.inr ⟨hk,sn,⟨x,y,hm x hx (.inl rfl),hm y hy (.inr rfl),ne,B⟩,num,wi⟩,rfl⟩;exfalso;have e:(PR.oth k ns is).sty2=none:=by
    unfold PR.sty2;split
    ·next h=>cases h;exact rK hk
    ·rfl
   rw[e] at hp;cases hp
theorem jM.ins {H:Hp}{xs:List V}{rows:List (List V)}{B:aq}{r:List V}{m:Nat}(h:jM H xs rows)(hm:m≤rows.length)(hB:H B=some (.lst r)):jM H (xs.take m++[.ref B]++xs.drop m) (rows.take m++r::rows.drop m):=⟨by
  have:=h.len;simp only[ao,aJ,bE,aG,gQ];lia,λi q hq=>by
 have l:=h.len;have lt:(rows.take m).length=m:=by rw[aJ];lia
 have lx:(xs.take m).length=m:=by rw[aJ];lia
 rcases Nat.lt_trichotomy i m with c | c | c
 ·rw[bI ⋯,cF c] at hq
  obtain⟨a,h1,h2⟩:=h.get i q hq;exact⟨a,by rw[bI (by rw[ao];lia),bI ⋯,cF c];exact h1,h2⟩
 ·subst c
  rw[aR ⋯,lt,fu,List.getElem?_cons_zero] at hq;cases hq;exact⟨B,by rw[bI (by rw[ao];show i<(xs.take i).length+1;lia),aR ⋯,lx,fu];rfl,hB⟩
 ·obtain⟨j,rfl⟩:∃j,i=m+1+j:=⟨i - m - 1,⋯⟩
  rw[aR ⋯,lt,show m+1+j - m=j+1 by lia,aT,cY] at hq;obtain⟨a,h1,h2⟩:=h.get _ q hq;have l3:(xs.take m++[V.ref B]).length=m+1:=by rw[ao,lx];rfl
  exact ⟨a,by rw[aR ⋯,l3,show m+1+j - (m+1)=j by lia,cY];exact h1,h2⟩⟩
theorem spn_ins (rows:List PR)(r:PR)(m:Nat):lZ (rows.take m++r::rows.drop m)=lZ rows+r.spn:=by
 have e:lZ rows=lZ (rows.take m)+lZ (rows.drop m):=by
  conv=>lhs;rw[←eW m rows]
  unfold lZ;rw[av,jb]
 rw[e];unfold lZ;rw[av,jb,bo,fe];lia
theorem spn_lines:∀{prs:List PR},(∀r∈prs,r.lnOk)→(prs.map λr=>((r.rowV.length:Nat):Int) - 4).sum=((lZ prs:Nat):Int)
 | [],_=>rfl
 | r::prs,h=>by
  have ih:=spn_lines (prs:=prs) λq hq=>h q (aO _ hq)
  have o:=h r bJ;rw[bo,fe,ih];unfold lZ;rw[bo,fe];cases r with
  | beat b=>exact rM o id
  | oth k ns is=>exact rM o id
  | line n ss rs =>
   obtain⟨_,_,_,o4,_,o6,_⟩:=o;have:(PR.line n ss rs).rowV.length=2 * rs.length+3:=by
    show(iR ss rs).length+1+1=_;rw[jD o6];lia
   rw[this];show((2 * rs.length+3:Nat):Int) - 4+_=(((2 * rs.length - 1)+_:Nat):Int);lia
theorem qV.spn (L:qV prs):lZ prs≤16:=by
 have e:=own_C prs;have b0:bwP prs=0:=by
  have:∀{l:List PR},(∀r∈l,r.lnOk)→bwP l=0:=by
   intro l
   induction l with
   | nil=>intro _;rfl
   | cons r l ih =>
    intro h;have o:=h r bJ;have:=ih λq hq=>h q (aO _ hq)
    unfold bwP at *;rw[bo,fe,this];cases r with
    | beat b=>rfl
    | line n ss rs=>rfl
    | oth k ns is=>exact rM o id
  exact this L.ok
 have le:∀ls:List Ln,(ownL ls:Int)≤ib ls:=by
  intro ls
  induction ls with
  | nil=>simp[ownL,ib]
  | cons x ls ih =>
   unfold ownL ib at *;rw[bo,fe,bo,fe];lia
 have:=le (lsC prs);have:=L.hap;lia
theorem qV.few8 (L:qV prs):prs.length≤8:=by
 have go:∀l:List PR,(∀r∈l,r.lnOk)→2 * (l.length:Int)≤ib (lsC l):=by
  intro l
  induction l using qY with
  | h0=>intro _;decide
  | h1 l r ih =>
   intro h;have i:=ih λq hq=>h q (cq _ hq)
   have o:=h r (bz _ (aB.mpr rfl));rw[gf,ao];cases r with
   | beat b=>exact rM o id
   | oth k ns is=>exact rM o id
   | line n ss rs =>
    show 2 * ((l.length+1:Nat):Int)≤ib (lsC l++[_]);rw[lp];obtain⟨_,_,_,o4,_,o6,_⟩:=o
    dsimp only
    lia
 have:=go prs L.ok;have:=L.hap;lia
theorem qV.ne' (L:qV prs):lsC prs≠[]:=λz=>by
 have ne:=L.ne;have ok:=L.ok;cases prs with
 | nil=>exact ne rfl
 | cons r l =>
  have o:=ok r bJ;cases r with
  | beat b=>exact o
  | oth k ns is=>exact o
  | line n ss rs =>
   have:=lsC_at (prs:=.line n ss rs::l) (i:=0) rfl;rw[z] at this;cases this
inductive spPln (K:ak)(vs:List V)(H:Hp)(Q:VK)(_:XK):Prop
 | mk (a:aq)(ns:List Int)(_:vs=[.ref a])(_:SqL K H a (ns.map V.int))(_:ns.length≤63)(_:∀(q L:aq) (xs:List V) (b:Int) (rows:List PR) (H':Hp),cg H H'→H' q=some (.tup [.int b,.ref L])→H' L=some (.lst xs)→jM H' xs (rows.map PR.rowV)→b≤10 ^ 21→rows.length≤63→PlanOk b rows→Q (.ref q) H')
theorem pf:cA ["_law_script","_law_pot_here","_law_beat","_law_lines_here","_law_rows","_law_many","_law_k","_law_row","_law_last","_law_at"] pzn (defScope sPln):=by trivial
theorem ok_pln {fP fN fL fM:aq}{dP dN dL dM:aY}(F:Fun K "_law_plan" "_law_plan" sPln f fd)(T:Nm mg)(T2:Nt mg)(hint:mg "int" =none)(GT:Fn K mg "_law_take" qu pzd fT dT)
  (GP:Fn K mg "_law_pot" sPotT pze fP dP) (FP:‹0› 2 fP dP pze (spPotT K))
  (GN:Fn K mg "_law_names" sNms pzz fN dN) (FN:‹0› 2 fN dN pzz spNms)
  (GL:Fn K mg "_law_lines" sLns pzB fL dL) (FL:‹0› 3 fL dL pzB (spLns K))
  (GM:Fn K mg "_law_more_row" sMor pzu fM dM) (FM:‹0› 3 fM dM pzu spMor):‹0› 4 f fd pzn (spPln K):=by
 have FT:‹0› 1 fT dT pzd nM:=mB GT.F;specialize F.ok pf;obtain ⟨a,ns,rfl,ha,lns,k⟩:=h;have hr1:jI 1 _:=hr.mono ↥0;have hr2:jI 2 _:=hr.mono ↥0;have hr3:jI 3 _:=hr;apply ⟨_,PSl.h (bh ⟨(psZ 1 pf.nd (pc1 GP FP hr2 (ah (pv 0) (ah aC aw))))⟩
  (bh ⟨(psZ 2 pf.nd (cw dZ aC (pc1 GT FT hr1 (ah (pv 1) (ah (PEs.h (k_ix aW (pF (dw jf (dw jf (dw jf (dw (k_op mR jf jf) oW))))) ⟨pc1 GT FT hr1 (ah (pv 1) (ah aC aw))⟩ (fun _ _=>rfl))) aw)))))⟩
  (bh ⟨(psZ 3 pf.nd (pc1 GL FL hr3 (ah (pv 0) (ah (pc1 GN FN hr2 (ah (pc1 GP FP hr2 (ah (pv 0) (ah aC aw))) (ah aC aw))) (ah (pc1 GN FN hr2 (ah (pv 1) (ah aC aw))) (ah aC aw))))))⟩
  (bh ⟨(psZ 4 pf.nd (ff call_listA rfl T2.tlist boot_list (ah (pv 3) aw)))⟩
  (bh ⟨(psZ 5 pf.nd (bS (call_sum rfl) rfl T2.sum boot_sum (ah (jP (fr:=[]) (js:=[]) rfl (gK (pv 3)) ⇑0 rfl ⇑0 rfl (by exists sPln) ⇑0 rfl ⇑0 (fun _ _ _ _ _=>⟨(cw gL (bS (lenK K) rfl T.len aS (ah (pv 0) aw)) aC),j7⟩)) aw)))⟩
  (bh ⟨(iC bX rfl (pi_range2 rfl T2.range (ah aC (ah (bS (oR rfl) rfl T.min boot_min (ah (bS bO rfl T.len aS (ah (pv 0) aw)) (ah aC aw))) aw))) (pgZ 6 pf.nd) (PSl.h (bh ⟨(psZ 1 pf.nd (pc1 GP FP hr2 (ah (pv 0) (ah (pv 6) aw))))⟩
  (bh ⟨(psZ 7 pf.nd (pc1 GM FM hr3 (ah (pv 1) (ah (pv 2) (ah (pv 3) (ah (pv 4) aw))))))⟩
  (fj ⟨(eO (PW.pt (nN (bK op_notN (pv 7) ir (cn _)) (lU (bK pA (pv 5) aC (cn _))))) (PSl.h (bh ⟨(psZ 8 pf.nd (bS (call_max1 rfl) rfl T2.max boot_max (ah (jP (fr:=["_law_row","_law_rows"]) (js:=[7,4]) rfl (ku rfl T2.range (ah (bS bO rfl T.len aS (ah (pv 4) aw)) aw)) ⇑0 rfl ⇑0 rfl (by exists sPln) ⇑0 rfl ⇑0 (fun _ _ _ _ _=>⟨(pv 0),(nV (PW.pt (nN (bK iM (cE (r:=rIxL K) aW (cE (r:=rIxL K) aW (pv 2) (pv 0) (fun _ _=>rfl)) aC (fun _ _=>rfl)) dU (cn _)) (lU (bK (r:=rIn K false) k8 (cE (r:=rIxL K) aW (cE (r:=rIxL K) aW (pv 2) (pv 0) (fun _ _=>rfl)) aC (fun _ _=>rfl)) (cV (p9 K) (pv 1) (dJ aC) (dJ aC)) rfl)))))⟩)) aw)))⟩
  (bh ⟨(psZ 9 pf.nd (cw dZ (cw dZ (pv 8) aC) (pc1 GT FT hr1 (ah (pv 1) (ah (cw gL (bS bO rfl T.len aS (ah (pv 4) aw)) (pv 8)) aw)))))⟩
  (bh ⟨(psZ 4 pf.nd (cw ip (cw ip (cV gc (pv 4) eR (dJ (pv 9))) (gM (ah (pv 7) aw))) (cV gc (pv 4) (dJ (pv 9)) eR)))⟩
  (fj ⟨(psZ 5 pf.nd (cw dZ (pv 5) (ff oS rfl hint boot_int (ah (iT pz (cE aW (pv 7) aC (fun _ _=>rfl)) dU (cn _)) aw))))⟩))))) cv)⟩)))))⟩
  (fj ⟨(cb (fY (ah (pv 2) (ah (pv 4) aw))))⟩))))))),?_⟩
 and_intros
 apply sq6 ?_
 intros
 have sq:∀{H':Hp},cg H H'→SqL K H' a (ns.map V.int):=λS=>SqL.kept' S ha
 have big:(100000:Nat)≤ax:=by decide
 apply⟨ρ,a,ns,1,rfl,ha,↥0,↥0,λm1 p1 hp1=>?_⟩;have S1:cg H (upd H p1 (.lst [.int m1])):=cg.put (cg.refl H) hp1;have h1:(upd H p1 (.lst [.int m1])) p1=some (.lst [.int m1]):=aP;generalize upd H p1 (.lst [.int m1])=H1 at S1 h1 ⊢;apply⟨ρ,ς,⟨↥0,↥0,↥0⟩,szZ4,λB H2 S2 e2=>?_⟩;apply⟨ρ,p1,m1,4,rfl,S2 _ _ h1,↥0,↥0,λr H3 a0 a1 M3=>?_⟩;have e3:=M3.1 _ _ (dz e2 (S2 _ _ h1) (je ∅)) e2;obtain⟨v,ev,mv⟩:=oU (xs:=[V.int 60,.int 60,.int 10,.int (10 ^ 20)]) a0 (by show r<4;lia);obtain⟨Mx,rfl,Mx1,Mx2⟩:∃M:Int,v= .int M∧1≤M∧M≤10 ^ 20:=by
  simp only[az,bg,or_false] at mv
  rcases mv with rfl | rfl | rfl | rfl
  ·exact⟨ρ,↥0,↥0⟩
  ·exact⟨ρ,↥0,↥0⟩
  ·exact⟨ρ,↥0,↥0⟩
  ·exact⟨ρ,↥0,↥0⟩
 obtain⟨n3,hp3⟩:=M3.2;apply⟨B,τ,zL e3,ev,p1,n3,Mx,rfl,hp3,⋯,⋯,λr4 H4 b0 b1 M4=>⟨ς,?_⟩⟩;obtain⟨b,eb⟩:∃b,1+r4=b:=⟨_,rfl⟩;have hb1:1≤b:=by lia
 have hb2:b≤10 ^ 20+1:=by lia
 show oP 2 (V.int (1+r4)) _ _ _;rw[eb];have M14:Mv p1 H1 H4:=((Mv.of S2 (S2 _ _ h1)).trans M3).trans M4;have S4:cg H H4:=cg.mv S1 hp1 M14;obtain⟨n4,hp4⟩:=M14.2;apply⟨ρ,ρ,a,ns,2,rfl,sq S4,↥0,↥0,λm5 p5 hp5=>?_⟩;have S5:cg H4 (upd H4 p5 (.lst [.int m5])):=cg.put (cg.refl H4) hp5;have h5:(upd H4 p5 (.lst [.int m5])) p5=some (.lst [.int m5]):=aP;generalize upd H4 p5 (.lst [.int m5])=H5 at S5 h5 ⊢;apply⟨p5,m5,4,rfl,h5,↥0,λN nn H6 M6 hN ln ndN okN=>?_⟩;have S6:cg H4 H6:=cg.mv S5 hp5 M6;apply⟨ρ,p1,n4,8,rfl,S6 _ _ hp4,↥0,λS ss H7 M7 hS ls ndS okS=>?_⟩;have hN7:=M7.1 _ _ (dz hN (S6 _ _ hp4) (je (by rw[ae,ln];simp))) hN;have S7:cg H H7:=cg.mv (S4.trans S6) hp1 M7;apply⟨a,N,S,ns,nn,ss,4,rfl,sq S7,hN7,ndN,okN,hS,⟨⋯,⋯⟩,ndS,okS,↥0,by rw[ln];decide,⋯,λLL x0 prs H8 S8 _ hLL rw0 lok=>?_⟩;have SH8:=S7.trans S8;apply⟨ρ,LL,x0,rfl,.inl (zL hLL),λR0 H9 S9 hR0=>?_⟩;have SH9:=SH8.trans S9;have lx0:x0.length=prs.length:=by rw[rw0.len,ae]
 have fewp:=lok.few8;apply⟨ρ,LL,rfl,⟨_,zL (S9 _ _ hLL)⟩,?_⟩
 let pZ1:zW:=λi zs HA=>HA=H9∧zs=((prs.take i).map λr=>((r.rowV.length:Nat):Int) - 4).map V.int
 apply ic (K:=K) (a:=LL) (xs:=x0) pZ1 ⟨rfl,rfl⟩ (λi zs HA hi q=>?_) ⋯ (λi x zs HA hx q=>?_) (λzs HA q D hD=>?_)
 ·obtain⟨rfl,g2⟩:=q
  exact⟨zL (S9 _ _ hLL),by rw[g2,ae,ae,aJ];lia⟩
 ·obtain⟨rfl,g2⟩:=q
  have hi:i<prs.length:=by rw[←lx0];exact(aj.mp hx).1
  obtain⟨c,hxc,hrc⟩:=rw0.get i prs[i].rowV (by rw[ay,gE hi];rfl);rw[hx] at hxc;cases hxc;apply jj ?_;apply⟨ρ,c,ρ,.inl (zL (S9 _ _ hrc)),ς,rfl,?_⟩;rw[g2,aQ,gE hi,av,av];rfl
 obtain⟨rfl,g2⟩:=q;rw[lx0,bG] at g2;have Sa:cg HA (upd HA D (.lst zs)):=(cg.refl HA).put hD;have ha':(upd HA D (.lst zs)) D=some (.lst ((prs.map λr=>((r.rowV.length:Nat):Int) - 4).map V.int)):=by rw[aP,g2]
 generalize upd HA D (.lst zs)=H10 at Sa ha' ⊢;apply⟨D,ρ,zL ha',?_⟩;rw[spn_lines lok.ok];have SH10:=SH9.trans Sa;have hR10:=Sa _ _ hR0;have hLL10:=Sa _ _ (S9 _ _ hLL);have rw10:=rw0.same (S9.trans Sa);apply⟨ρ,a,ρ,.inl (sq SH10),_,ρ,8,ρ,⟨↥0,↥0,by rw[ae];split <;> lia,by rw[ae];split <;> lia⟩,?_⟩;rw[ae];have nst:((if (63:Int)<(ns.length:Int) then (63:Int) else (ns.length:Int)) - 8).toNat≤55:=by split <;> lia
 generalize ((if (63:Int)<(ns.length:Int) then (63:Int) else (ns.length:Int)) - 8).toNat=nst' at nst ⊢;have spl:=lok.spn
 let pZ1:zV:=λi σ HA=>cg H10 HA∧∃(R:aq) (xs:List V) (rows:List PR),HA R=some (.lst xs)∧jM HA xs (rows.map PR.rowV)∧gJ b rows∧lsC rows=lsC prs∧lZ rows≤40∧rows.length≤8+i∧∃v1 v6 v7 v8 v9,σ=[some (.ref a),v1,some (.int b),some (.ref LL),some (.ref R),some (.int (lZ rows:Nat)),v6,v7,v8,v9]
 apply mm (lo:=8) (n:=nst') pZ1
  ⟨cg.refl _,R0,x0,prs,hR10,rw10,lok.rows b,rfl,⋯,⋯,_,_,_,_,_,rfl⟩ ?_ ?_
 ·rintro i σ HA hi ⟨SA,R,xs,rows,hR,rwA,okA,eC,spA,lA,v1,v6,v7,v8,v9,rfl⟩
  apply⟨ρ,ρ,a,ns,ρ,sq (SH10.trans SA),⋯,⋯,λmb pb hpb=>?_⟩;have Sb:cg HA (upd HA pb (.lst [.int mb])):=cg.put (cg.refl HA) hpb;have hb:(upd HA pb (.lst [.int mb])) pb=some (.lst [.int mb]):=aP;generalize upd HA pb (.lst [.int mb])=HB at Sb hb ⊢;have okI:=okA.okI;have lx:xs.length=rows.length:=by rw[rwA.len,ae]
  apply⟨ρ,ρ,ρ,ρ,pb,mb,b,LL,R,x0,xs,prs,rows,rfl,hb,⟨hb1,⋯⟩,(SA.trans Sb) _ _ hLL10,rw10.same (SA.trans Sb),lok,Sb _ _ hR,rwA.same Sb,okI,⋯,λHC MC=>?_,λLr r HC MC eL mo=>?_⟩
  ·apply⟨ρ,rfl,ρ,iQ rfl ?_⟩
   have SC:cg HA HC:=cg.mv Sb hpb MC;exact⟨SA.trans SC,R,xs,rows,SC _ _ hR,rwA.same SC,okA,eC,spA,⋯,_,_,_,_,ρ⟩
  ·have SC:cg HA HC:=cg.mv Sb hpb MC
   have rwC:=rwA.same SC;have hRC:=SC _ _ hR;apply⟨ρ,rfl,ρ,lO rfl ?_⟩;apply⟨ρ,ς,ρ,jq (λc1=>?_) (λc1=>?_)⟩
   rotate_left
   ·exact⟨SA.trans SC,R,xs,rows,hRC,rwC,okA,eC,spA,⋯,_,_,_,_,ρ⟩
   have c1:(lZ rows:Int)<40:=rQ c1;obtain⟨kd,w1,w2,t,er,nl,⟨x1,hx1,ex1⟩,fs,mk,sr⟩:=mo.wds;rw[er] at eL;apply⟨ρ,R,ρ,.inl (zL hRC),ρ,⋯,⋯,?_⟩;rw[gq,lx]
   let pZ3:zW:=λt zs HD=>cg HC HD∧∃js:List Int,zs=js.map V.int∧js.length≤t∧(∀j∈js,0≤j∧j<rows.length)∧∀(u:Nat),u<t→∀n ss rs,rows[u]? =some (.line n ss rs)→n=w1∨n=w2→(u:Int)∈js
   apply pL (lo:=0) (n:=rows.length) pZ3
    ⟨cg.refl _,[],rfl,aA _,(λj hj=>by cases hj),(λu hu=>rM hu (jY _))⟩ (λt zs HD _ q=>by obtain⟨_,js,e,hl,_⟩:=q;rw[e,ae];exact hl) ⋯ (λt zs HD ht q=>?_) (λzs HD q D2 hD2=>?_)
   ·obtain⟨SD,js,rfl,lj,bj,cj⟩:=q
    obtain⟨c,hxc,hrc⟩:=rwC.get t rows[t].rowV (by rw[ay,gE ht];rfl);have hrt:=gE ht;have hrc:=SD _ _ hrc;have hRD:=SD _ _ hRC;have i0:atI xs (0+(t:Int))=some (.ref c):=by rw[Int.zero_add];exact aH hxc
    have nxt':∀ {HE:Hp},cg HC HE→(∀ n ss rs,rows[t]? =some (.line n ss rs)→n=w1∨n=w2→False)→cg HC HE∧∃ js2:List Int,js.map V.int=js2.map V.int∧js2.length≤t+1∧(∀ j∈js2,0≤j∧j<rows.length)∧∀ (u:Nat),u<t+1→∀ n ss rs,rows[u]? =some (.line n ss rs)→n=w1∨n=w2→(u:Int)∈js2:=fun SE no=>⟨SE,js,rfl,⋯,bj,fun u hu n ss rs e1 e2=>by
     rcases iH.mp hu with hu | hu
     ·exact cj u hu n ss rs e1 e2
     ·subst hu;exact rM e2 (no n ss rs e1)⟩
    generalize rows[t]=rr at hrc hrt;cases rr with
    | beat b'=>exact rM (okI _ (aD hrt)) id
    | oth k' ns' is' =>
     have kl:k' ≠ "line":=(okI _ (aD hrt)).1;have hrc:HD c=some (.lst (.str k'::(ns'.map V.str++is'.map V.int))):=hrc;apply⟨ρ,ρ,R,τ,zL hRD,i0,c,τ,zL hrc,aH (j:=0) rfl,rfl,ρ,iQ (rP λz=>kl (by injection z)) ?_⟩;exact nxt' SD λn ss rs e _=>by rw[hrt] at e;cases e
    | line n' ss' rs' =>
     have hrc:HD c=some (.lst (.str "line" :: .str n'::iR ss' rs')):=hrc;apply⟨ρ,ρ,R,τ,zL hRD,i0,c,τ,zL hrc,aH (j:=0) rfl,rfl,ρ,lO (rO rfl) ?_⟩;apply⟨ρ,ρ,R,τ,zL hRD,i0,c,τ,zL hrc,aH (j:=1) rfl,ρ,ρ,ρ,Lr,ρ,zL (SD _ _ eL),λW HE SE eE=>?_⟩;rw[cut13] at eE;have SE2:=SD.trans SE;apply⟨W,ρ,.inl (zL eE),rfl,rfl,ρ,?_⟩;show if inV (.str n') (([w1,w2]:List Str).map V.str)=true then _ else _;rw[qH];apply jq (λc2=>?_) (λc2=>?_)
     ·apply⟨ρ,SE2,js++[(0+(t:Int))],by rw[av];rfl,by rw[ao];show js.length+1≤t+1;lia,λj hj=>?_,λu hu n ss rs e1 e2=>?_⟩
      ·rcases aX.mp hj with hj | hj
       ·exact bj j hj
       ·rw[aB.mp hj];lia
      ·rcases iH.mp hu with hu | hu
       ·exact cq _ (cj u hu n ss rs e1 e2)
       ·subst hu;exact bz _ (aB.mpr ⋯)
     ·exact nxt' SE2 λn ss rs e e2=>by
       rw[hrt] at e;cases e;apply c2 (rO ?_)
       rcases e2 with rfl | rfl <;> simp
   obtain⟨SD,js,rfl,lj,bj,cj⟩:=q;have all:∀x∈lsC prs,x.n=w1∨x.n=w2→∃u:Nat,(u:Int)∈js∧∀m,u<m→x∈lsC (rows.take m):=λx hx e=>by
    rw[←eC] at hx;obtain⟨u,e1,e2⟩:=lsC_idx hx;exact⟨u,cj u (aj.mp e1).1 _ _ _ e1 e,e2⟩
   obtain⟨u1,hu1,_⟩:=all x1 hx1 (.inl ex1);have jne:js≠[]:=λz=>by rw[z] at hu1;cases hu1
   obtain⟨gm,gle⟩:=great_ok js jne;have SDe:cg HC (upd HD D2 (.lst (js.map V.int))):=SD.put hD2;have hDe:(upd HD D2 (.lst (js.map V.int))) D2=some (.lst (js.map V.int)):=aP;generalize upd HD D2 (.lst (js.map V.int))=HE at SDe hDe ⊢;apply⟨D2,js,rfl,zL hDe,jne,?_⟩;obtain⟨g0,g1⟩:=bj _ gm;generalize lP js=la at gm gle g0 g1 ⊢;obtain⟨la,rfl⟩:=cU g0;have ME:=MC.then SDe;obtain⟨nE,hpE⟩:=ME.2;have hRE:=SDe _ _ hRC;apply⟨ρ,ς,ρ,ρ,R,ρ,.inl (zL hRE),ρ,ς,pb,nE,ρ,hpE,(by show(0:Int)<(xs.length:Int) - (la:Int);lia),(by show(xs.length:Int) - (la:Int)<10 ^ 61;lia),λr5 HF r50 r51 MF=>⟨ς,?_⟩⟩;have r51:r5<(xs.length:Int) - (la:Int):=r51;obtain⟨r5,rfl⟩:=cU r50;obtain⟨m,em⟩:∃m:Nat,(la:Int)+1+(r5:Int)=(m:Int):=⟨la+1+r5,⋯⟩;have hm:la<m:=by lia
   have hm2:m≤rows.length:=by lia
   show oP 9 (V.int ((la:Int)+1+(r5:Int))) _ _ _;rw[em];have SF:cg HA HF:=cg.mv (Sb) hpb (ME.trans MF);have hRF:=SF _ _ hR;have rwF:=rwA.same SF;have eLF:=MF.1 _ _ (dz (SDe _ _ eL) hpE (je ∅)) (SDe _ _ eL);apply⟨ρ,ρ,ρ,R,ρ,zL hRF,λA1 HG SG eG=>?_⟩;rw[cutU (i:=(m:Int)) (n:=m) rfl] at eG;apply⟨ρ,szZ1,λA2 HI SI eI=>?_⟩;apply⟨A1,A2,ς,SI _ _ eG,eI,(by rw[aJ];show _+1≤ax;lia),λA3 HJ SJ eJ=>?_⟩;apply⟨ρ,ρ,ρ,R,ρ,zL ((SG.trans (SI.trans SJ)) _ _ hRF),λA4 HK SK eK=>?_⟩;rw[cutF (i:=(m:Int)) (n:=m) rfl] at eK;apply⟨A3,A4,ς,SK _ _ eJ,eK,(by rw[ao,aJ,bE];show _+1+_≤ax;lia),λA5 HL SL eL5=>?_⟩;have SFL:cg HF HL:=SG.trans (SI.trans (SJ.trans (SK.trans SL)));have eLL:=SFL _ _ eLF;apply⟨ρ,ρ,Lr,τ,zL eLL,aH (j:=0) rfl,rfl,.inr ⟨ρ,ς,?_⟩⟩;have rwL:=(rwF.same SFL).ins (m:=m) (by rw[ae];exact hm2) (B:=Lr) (r:=r.rowV) (by rw[er];exact eLL);apply⟨SA.trans (SF.trans SFL),A5,_,rows.take m++r::rows.drop m,eL5,?_,okA.ins hm2 nl (mk m λx hx e=>?_) fs,?_,?_,?_,some (.ref pb),some (.int (8+(i:Nat))),some (.ref Lr),some (.int (la:Nat)),some (.int (m:Nat)),?_⟩
   ·rw[av,bo,jg,fZ]
    exact rwL
   ·obtain⟨u,h1,h2⟩:=all x hx e
    have:=gle _ h1;exact h2 m ⋯
   ·rw[lsC_ins nl,eW];exact eC
   ·rw[spn_ins,sr];split <;> lia
   ·rw[ao,aG,aJ,bE];lia
   ·have e5:(lZ rows:Int)+(if (!decide (V.str kd=V.str "stay"))=true then 1 else 0)=((lZ (rows.take m++r::rows.drop m):Nat):Int):=by
     rw[spn_ins,sr]
     by_cases z:kd = "stay"
     ·rw[rL z,z,rO rfl];rfl
     ·rw[rK z,rP λy=>z (by injection y)];rfl
    show[some (V.ref a),some (V.ref pb),some (V.int b),some (V.ref LL),some (V.ref A5),some (V.int ((lZ rows:Int)+(if (!decide (V.str kd=V.str "stay"))=true then 1 else 0))),_,_,_,_]=_;rw[e5]
 ·rintro σ HA ⟨SA,R,xs,rows,hR,rwA,okA,eC,spA,lA,v1,v6,v7,v8,v9,rfl⟩
  apply⟨ρ,ρ,qW,λq HB SB eB=>?_⟩;exact k q R xs b rows HB (SH10.trans (SA.trans SB)) eB (SB _ _ hR) (rwA.same SB) ⋯ ⋯ ⟨hb1,okA,by rw[eC];exact lok.hap,spA,⋯,by rw[eC];exact lok.ne'⟩
theorem intr_evs1:∀{ss:List Str} {rs:List Int},ss.length=rs.length+1→evs ((iR ss rs).drop 1)=rs.map V.int
 | [],_,h=>by simp at h
 | [_],[],_=>rfl
 | _::_::_,[],h=>by simp at h
 | s::[],r::rs,h=>by simp at h
 | s::u::ss,r::rs,h=>by
  have hl:(u::ss).length=rs.length+1:=by simpa using h
  have ih:=intr_evs1 hl
  match ss,rs,hl,ih with
  | [],[],_,_=>rfl
  | [],_::_,hl,_=>simp at hl
  | _::_,[],hl,_=>simp at hl
  | v::ss,q::rs,hl,ih =>
   show V.int r::evs ((iR (u::v::ss) (q::rs)).drop 1)=_;rw[ih];rfl
theorem lB.oth {k:Str}(h:lB b pre (.oth k ns is))(hp:∀x∈lsC pre,(PR.line x.n x.ss x.rs).lnOk):nam k=true∧(k,ns.length,is.length)∈fms∧(∀z∈ns,nam z=true)∧(∀i∈is,W60 i)∧ns.length+is.length≤6:=by
 rcases h with ⟨rfl,x,z,l,o,w,i,hx,rfl,rfl,h1,_,_,_,u1,u2,u3,u4,u5,u6⟩ | ⟨hk,sn,⟨x,y,hx,hy,ne,B⟩,_,wi⟩
 ·obtain⟨n1,n2,_⟩:=hp x hx
  apply⟨by trivial,by simp[fms],λq hq=>?_,λq hq=>?_,∅⟩
  ·simp only[az,bg,or_false] at hq
   rcases hq with rfl | rfl
   ·exact n1
   ·exact n2 _ (aD h1)
  ·simp only[az,bg,or_false] at hq
   rcases hq with rfl | rfl | rfl
   ·exact⟨u1,⋯⟩
   ·exact⟨⋯,u4⟩
   ·exact⟨u5,⋯⟩
 ·obtain⟨n1,n2,_⟩:=hp x hx
  obtain⟨m1,m2,_⟩:=hp y hy;cases B with
  | change h1 h2 h3 h4 =>
   apply⟨by trivial,by simp[fms],λq hq=>?_,wi,∅⟩;simp only[az,bg,or_false] at hq
   rcases hq with rfl | rfl | rfl
   ·exact n1
   ·exact m1
   ·exact n2 _ (aD h1)
  | apart h1 h2 h3 h4 =>
   apply⟨by trivial,by simp[fms],λq hq=>?_,wi,∅⟩;simp only[az,bg,or_false] at hq
   rcases hq with rfl | rfl | rfl
   ·exact n1
   ·exact m1
   ·exact n2 _ (aD h1)
  | meet h1 h2 h3 h4 h5 h6 =>
   apply⟨by trivial,by simp[fms],λq hq=>?_,wi,∅⟩;simp only[az,bg,or_false] at hq
   rcases hq with rfl | rfl | rfl | rfl
   ·exact n1
   ·exact m1
   ·exact n2 _ (aD h1)
   ·exact n2 _ (aD h2)
inductive Bts (b:Int)(cs:List Ln):List PR→List Sn→Prop
 | nil:Bts b cs [] []
 | skip {r:PR} {rs:List PR} {bt:List Sn} (h:r.bwn=0) (t:Bts b cs rs bt):Bts b cs (r::rs) bt
 | btw {k:Str} {ns:List Str} {is:List Int} {sn:Sn} {rs:List PR} {bt:List Sn} (hk:k ≠ "stay") (B:Btw b cs k ns is sn) (t:Bts b cs rs bt):Bts b cs (.oth k ns is::rs) (sn::bt)
theorem tk_core {l1:List Ln}{b1:List Sn}(h:Tk b ls bt r l1 b1):∀x∈ls.map Ln.core,x∈l1.map Ln.core:=λx hx=>by
 cases h with
 | beat h=>exact hx
 | line=>rw[av];exact cq _ hx
 | btw=>exact hx
 | stay =>
  obtain⟨y,hy,rfl⟩:=aK.mp hx;rw[b9];exact aK.mpr ⟨y,hy,stay_core _ _ _ _⟩
theorem runs_core:∀{ls l2:List Ln} {bt b2:List Sn},Runs b ls bt rs l2 b2→∀x∈ls.map Ln.core,x∈l2.map Ln.core:=by
 induction rs with
 | nil=>intro ls l2 bt b2 h x hx;cases h;exact hx
 | cons r rs ih =>
  intro ls l2 bt b2 h x hx;cases h with
  | cons tk t=>exact ih t x (tk_core tk x hx)
theorem core_bt {x y:Ln}{k:Str}(B:Bt b x y k ns is sn):Bt b x.core y.core k ns is sn:=by
 cases B with
 | change h1 h2 h3 h4=>exact .change (x:=x.core) (y:=y.core) h1 h2 h3 h4
 | apart h1 h2 h3 h4=>exact .apart (x:=x.core) (y:=y.core) h1 h2 h3 h4
 | meet h1 h2 h3 h4 h5 h6=>exact .meet (x:=x.core) (y:=y.core) h1 h2 h3 h4 h5 h6
theorem runs_bts {cs:List Ln}:∀{ls l2:List Ln} {bt b2:List Sn},Runs b ls bt rs l2 b2→(∀x∈l2.map Ln.core,x∈cs)→∃ys,b2=bt++ys∧Bts b cs rs ys:=by
 induction rs with
 | nil=>intro ls l2 bt b2 h _;cases h;exact⟨[],by rw[bY],.nil⟩
 | cons r rs ih =>
  intro ls l2 bt b2 h hc;cases h with
  | cons tk t =>
   obtain⟨ys,e,B⟩:=ih t hc;have mono:∀x∈ls.map Ln.core,x∈cs:=λx hx=>hc x (runs_core t x (tk_core tk x hx))
   cases tk with
   | beat h=>exact⟨ys,e,.skip rfl B⟩
   | line=>exact⟨ys,e,.skip rfl B⟩
   | stay=>exact⟨ys,e,.skip (by unfold PR.bwn;exact rL rfl) B⟩
   | btw B1 h1 h2 h3 ok sm =>
    obtain⟨x,y,hx,hy,ne,B2⟩:=B1;apply⟨_::ys,by rw[e,cG];rfl,.btw h3 ⟨x.core,y.core,mono _ (b8 hx),mono _ (b8 hy),ne,core_bt B2⟩ B⟩
theorem PlanOk.bts {rows:List PR}(h:PlanOk b rows)(r:Runs b [] [] (.beat b::rows) (iq rows) bt):Bts b (lsC rows) rows bt:=by
 obtain⟨ys,e,B⟩:=runs_bts (cs:=lsC rows) r λx hx=>by rw[←eS];exact hx
 rw[List.nil_append] at e;subst e;cases B with
 | skip _ t=>exact t
theorem nc.of {n:Str}{c g:Option Int}{x:Ln}(nd:((lsC prs).map (·.n)).Nodup)(ns:∀x∈lsC prs,x.ss.Nodup)(hx:x∈lsC prs)(hn:x.n=n)(h:x.ss[i]? =some z)(E:nc prs n z c g):c=oI (0<i) (x.fi+2 * i - 1)∧g=oI (i+1<x.ss.length) (x.fi+2 * i):=by
 rcases E with ⟨x',hx',i',e1,e2,e3,e4⟩ | ⟨no,_⟩
 ·have ex:=nm_one nd hx' hx (e1.trans hn.symm)
  subst ex;have:=jA (ns _ hx') e2 h;subst this;exact⟨e3,e4⟩
 ·exact rM (aD h) (no x hx hn)
theorem Ride.of2 {n y:Str}{o:Option Int}{x:Ln}{r:Int}(nd:((lsC prs).map (·.n)).Nodup)(ns:∀x∈lsC prs,x.ss.Nodup)(hx:x∈lsC prs)(hn:x.n=n)(h1:x.ss[i]? =some z)(h2:x.ss[i+1]? =some y)(h3:x.rs[i]? =some r)(R:Ride prs n z y o):o=some r:=by
 rcases R with ⟨x',hx',i',r',e1,e2,e3,e4,e5⟩ | ⟨no,_⟩
 ·have ex:=nm_one nd hx' hx (e1.trans hn.symm)
  subst ex;have:=jA (ns _ hx') e2 h1;subst this;rw[e4] at h3;rw[e5,h3]
 ·exact rM h2 (no x hx hn i h1)
inductive TwoR (b:Int)(prs:List PR):Str→List Str→List Int→Option Int→Option Int→Int→Int→Int→Prop
 | change {n1 n2 z:Str} {l o w:Int} {s g x1 x2:Option Int} (e1:nc prs n1 z s x1) (e2:nc prs n2 z x2 g):TwoR b prs "change" [n1,n2,z] [l,o,w] s g l o w
 | apart {n1 n2 z:Str} {d:Int} {s g x1 x2:Option Int} (e1:nc prs n1 z x1 s) (e2:nc prs n2 z x2 g):TwoR b prs "apart" [n1,n2,z] [d] s g d (b - d) 0
 | meet {n1 n2 z z2:Str} {d r u:Int} {s g x1 x2:Option Int} (r1:Ride prs n1 z z2 (some r)) (r2:Ride prs n2 z2 z (some u)) (e1:nc prs n1 z x1 s) (e2:nc prs n2 z2 x2 g):TwoR b prs "meet" [n1,n2,z,z2] [d] s g (r+d) (b - u - d) 0
 | meet0 {n1 n2 z z2:Str} {d:Int} {o1 o2:Option Int} (r1:Ride prs n1 z z2 o1) (r2:Ride prs n2 z2 z o2) (no:o1=none∨o2=none):TwoR b prs "meet" [n1,n2,z,z2] [d] none none 0 0 0
theorem TwoR.of {k:Str}{s g:Option Int}{l o w:Int}(nd:((lsC prs).map (·.n)).Nodup)(nss:∀x∈lsC prs,x.ss.Nodup)(B:Btw b (lsC prs) k ns is sn)(R:TwoR b prs k ns is s g l o w):s=some sn.s∧g=some sn.g∧l=sn.l∧o=sn.o∧w=sn.w:=by
 obtain⟨x,y,hx,hy,ne,B⟩:=B;have p:∀{c:Prop} [Decidable c] {i:Int},c→oI c i=some i:=λh=>rL h
 generalize hk:k=k' at R;generalize hn:ns=ns' at R;generalize hi:is=is' at R;cases B with
 | change h1 h2 h3 h4 =>
  cases R with
  | change e1 e2 =>
   cases hn;cases hi;obtain⟨a,_⟩:=e1.of nd nss hx rfl h1;obtain⟨_,c⟩:=e2.of nd nss hy rfl h3;exact⟨by rw[a,p ⋯],by rw[c,p h4],rfl,rfl,rfl⟩
  | apart=>exact rM hk ⇑0
  | meet=>exact rM hk ⇑0
  | meet0=>exact rM hk ⇑0
 | apart h1 h2 h3 h4 =>
  cases R with
  | apart e1 e2 =>
   cases hn;cases hi;obtain⟨_,a⟩:=e1.of nd nss hx rfl h1;obtain⟨_,c⟩:=e2.of nd nss hy rfl h3;exact⟨by rw[a,p h2],by rw[c,p h4],rfl,rfl,rfl⟩
  | change=>exact rM hk ⇑0
  | meet=>exact rM hk ⇑0
  | meet0=>exact rM hk ⇑0
 | meet h1 h2 h3 h4 h5 h6 =>
  cases R with
  | meet r1 r2 e1 e2 =>
   cases hn;cases hi;cases r1.of2 nd nss hx rfl h1 h2 h3;cases r2.of2 nd nss hy rfl h4 h5 h6;obtain⟨_,a⟩:=e1.of nd nss hx rfl h1;obtain⟨_,c⟩:=e2.of nd nss hy rfl h4;exact⟨by rw[a,p (aj.mp h2).1],by rw[c,p (aj.mp h5).1],rfl,rfl,rfl⟩
  | meet0 r1 r2 no =>
   cases hn;cases hi;rw[r1.of2 nd nss hx rfl h1 h2 h3,r2.of2 nd nss hy rfl h4 h5 h6] at no
   rcases no with no | no <;> cases no
  | change=>exact rM hk ⇑0
  | apart=>exact rM hk ⇑0
def styS (f:Str→Str→Int×Int×Int):PR→Str→Str→Int×Int×Int
 | .oth k [n',z'] [l,o,w]=>if k = "stay" then λn z=>if n=n'∧z=z' then (l,o,w) else f n z else f
 | _=>f
def qX (rows:List PR):Str→Str→Int×Int×Int:=rows.foldl styS (λ_ _=>(0,0,0))
theorem qo (rs:List PR)(r:PR):qX (rs++[r])=styS (qX rs) r:=by unfold qX;rw[kh];rfl
theorem qm (f:Str→Str→Int×Int×Int)(n' z':Str)(l o w:Int)(n z:Str):styS f (.oth "stay" [n',z'] [l,o,w]) n z=if n=n'∧z=z' then (l,o,w) else f n z:=by
 show(if ("stay" :Str) = "stay" then (λn z=>if n=n'∧z=z' then (l,o,w) else f n z) else f) n z=_;rw[rL rfl]
theorem styS_no (f:Str→Str→Int×Int×Int){k:Str}(hk:k ≠ "stay")(ns:List Str)(is:List Int):styS f (.oth k ns is)=f:=by
 rcases ns with _ | ⟨n,_ | ⟨z,_ | ⟨y,ns⟩⟩⟩
 ·rfl
 ·rfl
 ·rcases is with _ | ⟨l,_ | ⟨o,_ | ⟨w,_ | ⟨u,is⟩⟩⟩⟩
  ·rfl
  ·rfl
  ·rfl
  ·exact rK hk
  ·rfl
 ·rfl
theorem rf (ls:List Ln)(n z:Str)(l o w:Int):oq ls (.oth "stay" [n,z] [l,o,w])=ls.map (jH n z (l,o,w)):=by
 unfold oq;exact rL rfl
theorem sty_lsOf {rows:List PR}:gJ b rows→∀x∈iq rows,∀z,sty x.st z=qX rows x.n z:=by
 induction rows using qY with
 | h0=>intro _ x hx;cases hx
 | h1 rs r ih =>
  intro ok x hx z;have ok0:gJ b rs:=by
   have:=ok.take rs.length
   rwa [gP rfl] at this
  have o:lB b rs r:=by
   have:=ok rs.length r (by rw[aR (aA _),fu];rfl)
   rwa [gP rfl] at this
  have ih:=ih ok0;rw[qo];rw[kB] at hx;cases r with
  | beat b=>exact rM o id
  | line n ss rs' =>
   rcases aX.mp hx with hx | hx
   ·exact ih x hx z
   ·rw[aB.mp hx]
    show sty [] z=qX rs n z;have:∀y∈lsC rs,y.n≠n:=λy hy e=>o.1 (aK.mpr ⟨y,hy,e⟩)
    have none_:∀m:Nat,m≤rs.length→qX (rs.take m) n z=(0,0,0):=by
     intro m
     induction m with
     | zero=>intro _;rfl
     | succ m ihm =>
      intro hm;have e:=gE (show m<rs.length by lia);rw[aQ,e];show qX (rs.take m++[rs[m]]) n z=_;rw[qo];have o':=ok0 m _ e;generalize rs[m]=q at o';cases q with
      | beat b=>exact ihm ⋯
      | line n' ss' rs''=>exact ihm ⋯
      | oth k ns is =>
       rcases o' with ⟨rfl,y,z',l,o,w,i,hy,rfl,rfl,_⟩ | ⟨hk,_⟩
       ·rw[qm,rK λh=>this y (oH hy) h.1.symm]
        exact ihm ⋯
       ·rw[styS_no _ hk]
        exact ihm ⋯
    have e:=none_ rs.length (aA _);rw[bG] at e;rw[e];rfl
  | oth k ns is =>
   rcases o with ⟨rfl,y,z',l,o,w,i,hy,rfl,rfl,_,_,_,no,_⟩ | ⟨hk,_⟩
   ·have hx:x∈(iq rs).map (jH y.n z' (l,o,w)):=by
     rwa [rf] at hx
    obtain⟨x',hx',rfl⟩:=aK.mp hx;rw[qm,pY];unfold jH
    by_cases c:x'.n=y.n
    ·rw[rL c]
     show sty (x'.st++[(z',l,o,w)]) z=_;rw[sty_snoc λm=>no (by rw[←c];exact(st_told hx').1 z' m)]
     by_cases c2:z=z'
     ·rw[rL c2,rL ⟨c,c2⟩]
     ·rw[rK c2,rK λh=>c2 h.2]
      exact ih x' hx' z
    ·rw[rK c,rK λh=>c h.1]
     exact ih x' hx' z
   ·have e1:oq (iq rs) (.oth k ns is)=iq rs:=stepL_no _ hk _ _
    have e2:styS (qX rs) (.oth k ns is)=qX rs:=styS_no _ hk _ _;rw[e1] at hx;rw[e2];exact ih x hx z
theorem lsC_pre (rows:List PR)(i:Nat):∃t,lsC rows=lsC (rows.take i)++t:=by
 have go:∀c a:List PR,∃t,lsC (a++c)=lsC a++t:=by
  intro c
  induction c with
  | nil=>intro a;exact⟨[],by rw[bY,bY]⟩
  | cons r c ih =>
   intro a;obtain⟨t,e⟩:=ih (a++[r]);rw[cG] at e;have e:lsC (a++r::c)=lsC (a++[r])++t:=e;rw[e,gf];cases r with
   | beat b=>exact⟨t,rfl⟩
   | oth k ns is=>exact⟨t,rfl⟩
   | line n ss rs=>exact⟨_::t,by show(lsC a++[_])++t=_;rw[cG];rfl⟩
 have:=go (rows.drop i) (rows.take i)
 rwa [eW] at this
theorem lsOf_at {rows:List PR}{n:Str}{rs:List Int}(h:rows[i]? =some (.line n ss rs)):∃l,(iq rows)[(lsC (rows.take i)).length]? =some l∧l.core=⟨n,ss,rs,[],ib (lsC (rows.take i))⟩:=by
 obtain⟨t,e⟩:=lsC_pre rows (i+1);rw[aQ,h] at e;have e:lsC rows=lsC (rows.take i++[.line n ss rs])++t:=e;rw[gf] at e;have e2:(lsC rows)[(lsC (rows.take i)).length]? =some ⟨n,ss,rs,[],ib (lsC (rows.take i))⟩:=by
  rw[e];show((lsC (rows.take i)++[_])++t)[_]? =_;rw[cG,aR (aA _),fu];rfl
 rw[←eS,ay] at e2;obtain⟨l,h1,h2⟩:=bp.mp e2;exact⟨l,h1,h2⟩
theorem labs_goes (n:Str):∀{ss:List Str} {j:Nat} {z:Str},ss[j]? =some z→j+1<ss.length→(mK n ss)[2 * j]? =some [.str n,.str z,.str "goes"]
 | s::u::r,0,z,h,_=>by cases h;rfl
 | s::u::r,j+1,z,h,hj=>by
  show(_::_::mK n (u::r))[2 * j+1+1]? =_;rw[aT,aT];exact labs_goes n h (by simpa using hj)
 | [_],j,z,h,hj=>by simp at hj
 | [],j,z,h,hj=>by simp at hj
theorem rH (n:Str):∀{ss:List Str} {j:Nat} {z:Str},ss[j+1]? =some z→(mK n ss)[2 * j+1]? =some [.str n,.str z,.str "comes"]
 | s::u::r,0,z,h=>by cases h;rfl
 | s::u::r,j+1,z,h=>by
  show(_::_::mK n (u::r))[2 * j+1+1+1]? =_;rw[aT,aT];exact rH n h
 | [_],j,z,h=>by simp at h
 | [],j,z,h=>by simp at h
theorem own_lenN (h:l.ss.length=l.rs.length+1):∀k,k<l.rs.length→(ownN l k).length=2 * k:=by
 intro k
 induction k with
 | zero=>intro _;rfl
 | succ k ih =>
  intro hk;rw[jR,ao,ih ⋯];unfold stp;rw[rL ⋯];rfl
theorem own_pre (h:k≤m):∃t,ownN l m=ownN l k++t:=by
 obtain⟨d,rfl⟩:∃d,m=k+d:=⟨m - k,⋯⟩
 induction d with
 | zero=>exact⟨[],by rw[bY];rfl⟩
 | succ d ih =>
  obtain⟨t,e⟩:=ih ⋯;exact⟨t++stp l (k+d),by rw[show k+(d+1)=k+d+1 from rfl,jR,e,cG]⟩
theorem own_ride (h:l.ss.length=l.rs.length+1){r:Int}(hj:l.rs[j]? =some r):(oz l)[2 * j]? =some ⟨l.fi+2 * j,l.fi+2 * j+1,r,r,0⟩:=by
 have lj:=(aj.mp hj).1;obtain⟨t,e⟩:=own_pre (l:=l) (show j+1≤l.rs.length by lia);have ln:=own_lenN h j lj;have gd:l.rs.getD j 0=r:=by rw[br,hj];rfl
 show(ownN l l.rs.length)[2 * j]? =_;rw[e,jR,cG,aR ⋯,ln,fu];unfold stp;rw[gd];rfl
theorem own_stay (h:l.ss.length=l.rs.length+1)(hz:l.ss[j+1]? =some z)(hj:j+2<l.ss.length):(oz l)[2 * j+1]? =some ⟨l.fi+2 * j+1,l.fi+2 * j+2,(sty l.st z).1,(sty l.st z).2.1,(sty l.st z).2.2⟩:=by
 obtain⟨t,e⟩:=own_pre (l:=l) (show j+1≤l.rs.length by lia);have ln:=own_lenN h j ⋯;have gd:l.ss.getD (j+1) gr=z:=by rw[br,hz];rfl
 show(ownN l l.rs.length)[2 * j+1]? =_;rw[e,jR,cG,aR ⋯,ln,show 2 * j+1 - 2 * j=1 by lia];unfold stp;rw[rL hj,gd];rfl
theorem own_lenS (h:l.ss.length=l.rs.length+1)(h1:1≤l.rs.length):(oz l).length=2 * l.rs.length - 1:=by
 rcases ownS_len h with e | e <;> lia
def CntR (rows:List PR):Prop:=ib (lsC rows)≤16∧lZ rows≤40
def PR.frm:PR→Prop
 | .beat _=>False
 | .line n ss rs=>nam n=true∧(∀s∈ss,nam s=true)∧2≤ss.length∧ss.length≤5∧ss.length=rs.length+1∧∀r∈rs,W60 r
 | .oth k ns is=>((k = "stay" ∧∃(n z:Str) (l o w:Int),ns=[n,z]∧is=[l,o,w])∨OthG k ns is)∧(∀z∈ns,nam z=true)∧∀i∈is,W60 i
theorem oB {k:Str}(h:OthG k ns is):k ≠ "beat" ∧k ≠ "line" ∧k ≠ "stay":=by cases h <;> decide +kernel
theorem frm_ln {n:Str}{rs:List Int}(h:(PR.line n ss rs).frm)(nd:ss.Nodup):(PR.line n ss rs).lnOk:=by
 obtain⟨h1,h2,h3,h4,h5,h6⟩:=h;exact⟨h1,h2,nd,h3,h4,h5,λr hr=>h6 r hr⟩
def Std (b:Int)(pre:List PR)(r:PR):Prop:=lB b pre r∧CntR (pre++[r])
theorem snB_num {m:Int}{x:Sn}(h:snB b m x=true):NumOk b x.l x.o x.w:=by
 unfold snB at h;rw[bW,bW] at h;obtain⟨_,h1,h2⟩:=h;have inn:∀{i lo hi:Int},inI (.int i) lo hi=true→lo≤i∧i≤hi:=λ{i lo hi} q=>by
  have q:(decide (lo≤i) && decide (i≤hi))=true:=q;rw[bW] at q;exact⟨rQ q.1,rQ q.2⟩
 have h1:(inI (.int x.l) 0 B60 && inI (.int x.o) x.l (if B60<x.l+b - 1 then B60 else x.l+b - 1))=true:=h1;rw[bW] at h1;obtain⟨a1,a2⟩:=inn h1.1;obtain⟨a3,a4⟩:=inn h1.2;obtain⟨a5,a6⟩:=inn h2;apply⟨a1,a3,?_,?_,a5,a6⟩
 ·split at a4 <;> lia
 ·unfold B60 at *
  split at a4 <;> lia
theorem st_in:∀{rs:List PR},gJ b rs→∀{x:Ln},x∈iq rs→∀{z:Str},(x.n,z)∈stz rs→z∈x.st.map (·.1):=by
 intro rs
 induction rs using qY with
 | h0=>intro _ x hx;cases hx
 | h1 rs r ih =>
  intro ok x hx z hz;have ok0:gJ b rs:=by
   have:=ok.take rs.length
   rwa [gP rfl] at this
  have o:lB b rs r:=by
   have:=ok rs.length r (by rw[aR (aA _),fu];rfl)
   rwa [gP rfl] at this
  have ez:stz (rs++[r])=stz rs++(r.sty2).toList:=by
   unfold stz;rw[eZ];cases h:r.sty2 <;> simp[kj,h]
  rw[ez] at hz;rw[kB] at hx;cases r with
  | beat b=>exact rM o id
  | line n ss rs' =>
   rw[show(PR.line n ss rs').sty2=none from rfl,lR,bY] at hz
   rcases aX.mp hx with hx | hx
   ·exact ih ok0 hx hz
   ·rw[aB.mp hx] at hz
    exfalso;have:∀(m:Nat),m≤rs.length→(n,z) ∉ stz (rs.take m):=by
     intro m
     induction m with
     | zero=>intro _ h;cases h
     | succ m ihm =>
      intro hm h;have e:=gE (show m<rs.length by lia);rw[aQ,e] at h;have h:(n,z)∈stz (rs.take m++[rs[m]]):=h;have e2:stz (rs.take m++[rs[m]])=stz (rs.take m)++(rs[m].sty2).toList:=by
       unfold stz;rw[eZ];cases h:rs[m].sty2 <;> simp[kj,h]
      rw[e2] at h
      rcases aX.mp h with h | h
      ·exact ihm ⋯ h
      ·have o':=ok0 m _ e
       generalize rs[m]=q at o' h;cases q with
       | beat b=>exact o'
       | line n' ss' rs''=>cases h
       | oth k ns is =>
        rcases o' with ⟨rfl,y,z',l,o2,w,i,hy,rfl,rfl,_⟩ | ⟨hk,_⟩
        ·rw[show(PR.oth "stay" [y.n,z'] [l,o2,w]).sty2=some (y.n,z') from by unfold PR.sty2;exact rL rfl] at h
         have:=aB.mp h;injection this with h1 _
         exact o.1 (aK.mpr ⟨y,oH hy,h1.symm⟩)
        ·have e3:(PR.oth k ns is).sty2=none:=by
          unfold PR.sty2;split
          ·next h=>cases h;exact rK hk
          ·rfl
         rw[e3] at h;cases h
    have h2:=this rs.length (aA _);rw[bG] at h2;exact h2 hz
  | oth k ns is =>
   rcases o with ⟨rfl,y,z',l,o,w,i,hy,rfl,rfl,_⟩ | ⟨hk,_⟩
   ·rw[rf] at hx
    obtain⟨x',hx',rfl⟩:=aK.mp hx;rw[pY] at hz;rw[show(PR.oth "stay" [y.n,z'] [l,o,w]).sty2=some (y.n,z') from by unfold PR.sty2;exact rL rfl] at hz;unfold jH
    rcases aX.mp hz with hz | hz
    ·have:=ih ok0 hx' hz
     split
     ·show z∈(x'.st++[(z',l,o,w)]).map (·.1)
      rw[av];exact cq _ this
     ·exact this
    ·have:=aB.mp hz
     injection this with h1 h2
     rw[rL h1];show z∈(x'.st++[(z',l,o,w)]).map (·.1);rw[av,h2];exact bz _ (aB.mpr rfl)
   ·have e1:oq (iq rs) (.oth k ns is)=iq rs:=by
     unfold oq;split
     ·next h=>cases h
     ·next h=>cases h;rw[rK hk]
     ·rfl
    have e3:(PR.oth k ns is).sty2=none:=by
     unfold PR.sty2;split
     ·next h=>cases h;exact rK hk
     ·rfl
    rw[e1] at hx;rw[e3,lR,bY] at hz;exact ih ok0 hx hz
theorem tk_of (hb:1≤b)(ok:gJ b pre)(s:Std b pre r)(few:pre.length<70)(hl:bt.length=bwP pre):∃bt1,Tk b (iq pre) bt r (iq (pre++[r])) bt1∧bt1.length=bwP (pre++[r]):=by
 obtain⟨bt1,ru,e⟩:=runs_of hb [r] pre bt (ok.snoc s.1) s.2.1 s.2.2 (by rw[ao];show pre.length+1≤70;lia) hl;cases ru with
 | cons tk t =>
  cases t;exact⟨_,tk,e⟩
theorem Runs.snoc:∀{ls l1 l2:List Ln} {bt b1 b2:List Sn},Runs b ls bt rs l1 b1→Tk b l1 b1 r l2 b2→Runs b ls bt (rs++[r]) l2 b2:=by
 induction rs with
 | nil=>intro ls l1 l2 bt b1 b2 h t;cases h;exact .cons t .nil
 | cons q rs ih =>
  intro ls l1 l2 bt b1 b2 h t;cases h with
  | cons h1 h2=>exact .cons h1 (ih h2 t)
def UpTo (b:Int)(rs:List PR)(k:Nat):Prop:=∀i r,i<k→rs[i]? =some r→Std b (rs.take i) r
theorem UpTo.rows (h:UpTo b rs k):gJ b (rs.take k):=λi r hr=>by
 have hi:i<k:=by
  by_cases c:i<k
  ·exact c
  ·rw[eX (by rw[aJ];lia)] at hr;cases hr
 rw[cF hi] at hr;rw[List.take_take,du ⋯];exact(h i r hi hr).1
theorem UpTo.cnt (h:UpTo b rs k)(hk:k≤rs.length):CntR (rs.take k):=by
 cases k with
 | zero=>exact⟨show ib (lsC [])≤16 by decide,show lZ []≤40 by decide⟩
 | succ k =>
  have e:=gE (show k<rs.length by lia);have:=(h k _ ⋯ e).2
  rwa [aQ,e]
inductive Wrg (b:Int)(rs:List PR):Nat→Prop
 | beat (h:b<1):Wrg b rs 0
 | row {k:Nat} {r:PR} (h:1≤b) (u:UpTo b rs k) (e:rs[k]? =some r) (no:¬Std b (rs.take k) r):Wrg b rs (k+1)
 | none (h:1≤b) (u:UpTo b rs rs.length) (e:lsC rs=[]):Wrg b rs 0
theorem Wrg.one (a:Wrg b rs i)(c:Wrg b rs j):i=j:=by
 have lt:∀{k:Nat} {r:PR},rs[k]? =some r→k<rs.length:=λh=>(aj.mp h).1
 cases a with
 | beat h =>
  cases c with
  | beat=>rfl
  | row h2=>lia
  | none h2=>lia
 | row h u e no =>
  cases c with
  | beat h2=>lia
  | @row k2 r2 h2 u2 e2 no2 =>
   rename_i k r
   rcases Nat.lt_trichotomy k k2 with q | q | q
   ·exact rM (u2 k r q e) no
   ·rw[q]
   ·exact rM (u k2 r2 q e2) no2
  | none h2 u2=>exact rM (u2 _ _ (lt e) e) no
 | none h u e =>
  cases c with
  | beat h2=>lia
  | row h2 u2 e2 no2=>exact rM (u _ _ (lt e2) e2) no2
  | none=>rfl
end HN
namespace L2
open PySem PySem.Spec PyProof.Rows
theorem iE.seat {h:bP}(x:iE P w H h a o):∃u,h.get? a=some u:=by
 cases o with
 | lst xs=>obtain⟨_,_,_,_,e⟩:=x;exact⟨_,e⟩
 | tup xs=>obtain⟨_,_,_,u,e,_⟩:=x;exact⟨u,e⟩
 | dK kvs=>obtain⟨_,_,_,_,u,_,_,e,_⟩:=x;exact⟨u,e⟩
 | dT kvs=>obtain⟨_,_,_,_,u,_,_,e,_⟩:=x;exact⟨u,e⟩
 | set S n=>obtain⟨u,_,_,_,e,_⟩:=x;exact⟨u,e⟩
 | ins C dx fs=>obtain⟨_,_,_,e,_⟩:=x;exact⟨_,e⟩
 | own y=>exact x
 | xd fs=>obtain⟨_,⟨u,_,_,e,_⟩,_⟩:=x;exact⟨u,e⟩
 | rng lo hi=>obtain⟨_,_,_,e⟩:=x;exact⟨_,e⟩
 | frz ob u=>exact⟨_,x.1⟩
 | tbl ps=>exact⟨_,(show h.get? a=some _ from x)⟩
 | met f y=>exact⟨_,(show h.get? a=some _ from x)⟩
 | ext φ=>exact x.2.1
structure oX (B:bP)(l:List Env)(x:aq)(cls:af)(dct:Option aq)(h:bP):Prop where
 st:B.StaysIn h
 no:B.get? x=none
 fr:h.FunFrames B l
 tr:∃a0 fl,h.TracedAtW B x cls a0 fl
 dc:∃o,h.get? x=some o∧o.dict=dct
theorem nQ (f:Array af→Array af)(o:Obj):(iG f o).dict=o.dict:=by
 obtain⟨a,b,c,d⟩:=o;cases c <;> rfl
section
variable {l:List Env}{x:aq}{cls:af}
theorem entry_any {us:Array af}{top z0:af}{nx:Bool}{Q:Unit→au→Prop}(hfr:A.frames=some (env::outer))(fr:s.heap.FunFrames B (env::outer))(hf:env.frame=some L)(e1:s.heap.get? x=some ox)(st:B.StaysIn s.heap)(no:B.get? x=none)
  (ed:ox.data= .fields us) (big:1<us.size) (e0:us[0]? =some z0) (q:∀g,oX B (env::outer) x ox.cls ox.dict g→s.heap.UpToSlots g→Q () { s with heap:=g }) :
  bc M A (do let a ← frameOf env;let pl ← entryPlaceOf L nx;let b ← EntryCells.newEntry top a .none (kP L) .none pl;setField (.ref x) 1 b) Q E s:=by
 have away:x ∉ (env::outer).filterMap (·.frame):=by
  intro z;obtain⟨_,o,p,r⟩:=fr.mem z;rw[e1] at p;cases p;exact r us ed
 apply ai (wpAny_frameOf_fun hfr fr hf λh1 k1=>ai (wpAny_entryPlaceOf λpl isp=>?_));unfold EntryCells.newEntry newFields;apply ai (gz ?_ (isp.sizeOk5 _ _ _ _ _));have x1:h1.get? x=some ox:=(k1.2.1 x away).trans e1;have st1:B.StaysIn h1:=λb o p=>(k1.2.1 b λz=>by rw[(fr.mem z).1] at p;cases p).trans (st b o p)
 generalize hT:({ cls:=.type "traceback",dict:=none,data:=.fields ([top,.ref L,.none,kP L,.none]++(if pl.isEmpty then List.replicate 6 af.none else pl)).toArray }:Obj)=T;have dT:T.data= .fields ([top,.ref L,.none,kP L,.none]++(if pl.isEmpty then List.replicate 6 af.none else pl)).toArray:=by rw[←hT]
 have x2:=ar (h:=h1) T x1;have far:h1.objs.size≠x:=i8 (aV x1);have d3:=ie ed (·.setIfInBounds 1 (af.ref h1.objs.size));have x3:=gF (iG (·.setIfInBounds 1 (af.ref h1.objs.size))) x2 (kM d3);have t3:=(gk (h1.push T) (iG (·.setIfInBounds 1 (af.ref h1.objs.size))) far.symm).trans (aU h1 (by rw[←hT];rfl));have stay:∀b o,b≠x→h1.get? b=some o→((h1.push T).update x (iG (·.setIfInBounds 1 (af.ref h1.objs.size)))).get? b=some o:=λb o n p=>by
  rw[gk _ _ n.symm];exact ar _ p
 have notx:∀b o,s.heap.get? b=some o→(∀vs,o.data≠ .fields vs)→b≠x:=λb o p r z=>by
  rw[z,e1] at p;cases p;exact r us ed
 apply kO x2 ed big (q _ ⟨λb o p=>stay b o (λz=>by rw[z,no] at p;cases p) (st1 b o p),no,fr.of_keeps λb o p r=>?_,⟨z0,kP L,?_⟩,⟨_,x3,nQ _ _⟩⟩ λb o p r=>?_)
 ·obtain⟨sl,p2⟩:=k1.2.2 b o p
  exact⟨_,stay b _ (notx b o p r) p2,rfl⟩
 ·exact⟨_,_,h1.objs.size,T,_,x3,⟨Obj.cls_mapFields _ _,by rw[Array.getElem?_setIfInBounds_ne ↥0];exact e0⟩,d3,by simp[big],st1.fresh,far,t3,dT,by first | (simp;done) | (rcases isp with rfl | ⟨_,_,_,_,_,_,_,rfl⟩ <;> simp)⟩
 ·obtain⟨sl,p2⟩:=k1.2.2 b o p
  exact⟨sl,stay b _ (notx b o p r) p2⟩
theorem note_any {Q:Unit→au→Prop}(hfr:A.frames=some (env::outer))(hf:env.frame=some L)(a:oX B (env::outer) x cls dct s.heap)
  (q:∀g,oX B (env::outer) x cls dct g→s.heap.UpToSlots g→Q () { s with heap:=g }):bc M A (noteFrame (.ref x) env) Q E s:=by
 obtain⟨a0,fl,ht⟩:=a.tr
 by_cases hfl:fl=kP L
 ·subst hfl
  exact wpAny_noteFrame_againW hf ht (q s.heap a (bP.UpToSlots.refl _))
 ·obtain⟨ox,vx,T,ot,vt,e1,⟨ec,e0⟩,e2,e3,n1,n2,e4,e5,e6⟩:=ht
  subst ec;obtain⟨ox',e1',ed⟩:=a.dc;rw[e1] at e1';cases e1';subst ed;unfold noteFrame;simp only[hf];apply ai (cJ e1 e2 e3 ?_);rw[rL (by simp:(af.ref T != af.none)=true)];apply ai (cJ e4 e5 e6 ?_);rw[rK (by intro z;exact hfl (eq_of_beq z))];apply ai (kO e4 e5 (gb.mp e6).1 ?_);have away:∀b,b≠T→(s.heap.update T (iG (·.setIfInBounds 3 af.none))).get? b=s.heap.get? b:=λb hb=>gk _ _ hb.symm
  have apart:∀b o,s.heap.get? b=some o→(∀vs,o.data≠ .fields vs)→b≠T:=λb o hb hn z=>by
   rw[z,e4] at hb;cases hb;exact hn vt e5
  apply entry_any (s:={ s with heap:=s.heap.update T (iG (·.setIfInBounds 3 af.none)) }) hfr (a.fr.of_keeps λb o hb hn=>⟨o,(away b (apart b o hb hn)).trans hb,rfl⟩) hf ((away x n2.symm).trans e1) (λb o hb=>(away b λz=>by rw[z,n1] at hb;cases hb).trans (a.st b o hb)) a.no e2 (gb.mp e3).1 e0 λg hg u=>?_
  exact q g hg λb o hb hn=>u b o ((away b (apart b o hb hn)).trans hb) hn
theorem set_any {fr:Option aq}{Q:Unit→au→Prop}(a:oX B l x cls dct s.heap)(q:∀g,oX B l x cls dct g→s.heap.UpToSlots g→Q () { s with heap:=g }):bc M A (setFlight (.ref x) fr) Q E s:=by
 obtain⟨a0,fl,ht⟩:=a.tr;obtain⟨ox,vx,T,ot,vt,e1,ec,e2,e3,n1,n2,e4,e5,e6⟩:=ht;have s3:3<vt.size:=(gb.mp e6).1;have away:∀b,b≠T→(s.heap.update T (iG (·.setIfInBounds 3 (fr.elim af.none λf=>kP f)))).get? b=s.heap.get? b:=λb hb=>gk _ _ hb.symm
 have apart:∀b o,s.heap.get? b=some o→(∀vs,o.data≠ .fields vs)→b≠T:=λb o hb hn z=>by
  rw[z,e4] at hb;cases hb;exact hn vt e5
 unfold setFlight;apply ai (cJ e1 e2 e3 ?_);rw[rL (by simp:(af.ref T != af.none)=true)];apply kO e4 e5 s3 (q _ ⟨λb o hb=>(away b λz=>by rw[z,n1] at hb;cases hb).trans (a.st b o hb),a.no,a.fr.of_keeps λb o hb hn=>⟨o,(away b (apart b o hb hn)).trans hb,rfl⟩,⟨a0,fr.elim af.none λf=>kP f,?_⟩,?_⟩ λb o hb hn=>⟨o.slots,(away b (apart b o hb hn)).trans hb⟩)
 ·exact⟨ox,vx,T,_,_,(away x n2.symm).trans e1,ec,e2,e3,n1,n2,gF _ e4 (kM (ie e5 _)),ie e5 _,by simp[s3]⟩
 ·obtain⟨o,p,r⟩:=a.dc
  exact⟨o,(away x n2.symm).trans p,r⟩
theorem leave_any {Q:Unit→au→Prop}(hfr:A.frames=some (env::outer))(hf:env.frame=some L)(a:oX B (env::outer) x cls dct s.heap)(q:∀g,oX B outer x cls dct g→s.heap.UpToSlots g→Q () { s with heap:=g }) :
  bc M A (leaving env (.ref x)) Q E s:=by
 unfold leaving;apply ai (note_any hfr hf a λg hg u=>?_);apply set_any (s:={ s with heap:=g }) hg λg2 a2 u2=>?_
 exact q g2 ⟨a2.st,a2.no,a2.fr.2.2,a2.tr,a2.dc⟩ (u.trans u2)
theorem first_any {us:Array af}{z0:af}{Q:Unit→au→Prop}(hfr:A.frames=some (env::outer))(fr:s.heap.FunFrames B (env::outer))(hf:env.frame=some L)(e1:s.heap.get? x=some ox)(st:B.StaysIn s.heap)(no:B.get? x=none)
  (ed:ox.data= .fields us) (en:us[1]? =some .none) (e0:us[0]? =some z0) (q:∀g,oX B outer x ox.cls ox.dict g→s.heap.UpToSlots g→Q () { s with heap:=g }):bc M A (leaving env (.ref x)) Q E s:=by
 unfold leaving noteFrame;simp only[hf];apply ai (ai (cJ e1 ed en ?_));rw[rK ↥0];apply entry_any hfr fr hf e1 st no ed (gb.mp en).1 e0 λg hg u=>?_
 apply set_any (s:={ s with heap:=g }) hg λg2 a2 u2=>?_
 exact q g2 ⟨a2.st,a2.no,a2.fr.2.2,a2.tr,a2.dc⟩ (u.trans u2)
end
structure Air (P:aN)(w:bq)(fs ex:List aq)(H0:Hp)(h0 B:bP)(H':Hp)(h:bP):Prop where
 hok:HOk P w H' B
 keep:∀b o,h0.get? b=some o→H0 b=none→b ∉ fs→b ∉ ex→B.get? b=some o
 there:∀b o,h0.get? b=some o→b ∉ fs→b ∉ ex→∃o',B.get? b=some o'
 free:∀b o,h0.get? b=some o→H0 b=none→b ∉ ex→H' b=none
 tups:∀b xs,H0 b=some (.tup xs)→H' b=some (.tup xs)
 frzs:∀b o u,H0 b=some (.frz o u)→H' b=some (.frz o u)
 tbls:∀b ps,H0 b=some (.tbl ps)→∃more,H' b=some (.tbl (ps++more))
 slot:∀b o,h0.get? b=some o→H0 b=none→b∈fs→b ∉ ex→∃sl,h.get? b=some { o with slots:=sl }
section
variable {fs:List aq}{h0 h h2:bP}
theorem Air.un (a:Air P w fs ex H0 h0 B H' h)(st:B.StaysIn h)(frf:∀b∈fs,H0 b=none):Un fs ex H0 H' h0 h where
 keep:=λb o e n hb hx=>st b o (a.keep b o e n hb hx)
 slot:=λb o e n hb hx=>a.slot b o e n hb hx
 free:=λb o e n hx=>a.free b o e n hx
 there:=λb o e hx=>by
  by_cases hb:b∈fs
  ·obtain⟨sl,q⟩:=a.slot b o e (frf b hb) hb hx
   exact⟨_,q⟩
  ·obtain⟨o',q⟩:=a.there b o e hb hx
   exact⟨o',st b o' q⟩
 tups:=a.tups
 frzs:=a.frzs
 tbls:=a.tbls
theorem Air.up {l:List Env}{B':bP}(a:Air P w (frs l) ex H0 h0 B H' h)(fr:h.FunFrames B' l)(u:h.UpToSlots h2):Air P w (frs l) ex H0 h0 B H' h2:=
 ⟨a.hok,a.keep,a.there,a.free,a.tups,a.frzs,a.tbls,fun b o e n hb hx=>by
  obtain ⟨sl,q⟩:=a.slot b o e n hb hx;obtain ⟨_,o2,q2,hn⟩:=fr.mem hb;rw[q] at q2;cases q2;obtain ⟨sl2,q3⟩:=u b _ q hn;exact ⟨sl2,q3⟩⟩
theorem Air.after {fs' ex':List aq}{h1:bP}(u:Un fs' ex' H0 H1 h0 h1)(a:Air P w fs ex H1 h1 B H' h)(hf:∀b o,h0.get? b=some o→b ∉ fs'→b ∉ fs)(hi:∀b o,h0.get? b=some o→b∈fs'→b∈fs)(hx:∀b o,h0.get? b=some o→b ∉ ex'→b ∉ ex):Air P w fs' ex' H0 h0 B H' h:=by
 apply⟨a.hok,λb o e n hb hxx=>?_,λb o e hb hxx=>?_,λb o e n hxx=>?_,λb xs e=>a.tups b xs (u.tups b xs e),λb o u' e=>a.frzs b o u' (u.frzs b o u' e),λb ps e=>?_,λb o e n hb hxx=>?_⟩
 ·exact a.keep b o (u.keep b o e n hb hxx) (u.free b o e n hxx) (hf b o e hb) (hx b o e hxx)
 ·obtain⟨o',e'⟩:=u.there b o e hxx
  exact a.there b o' e' (hf b o e hb) (hx b o e hxx)
 ·obtain⟨o',e'⟩:=u.there b o e hxx
  exact a.free b o' e' (u.free b o e n hxx) (hx b o e hxx)
 ·obtain⟨m1,e1⟩:=u.tbls b ps e
  obtain⟨m2,e2⟩:=a.tbls b _ e1;exact⟨m1++m2,by rw[e2,Array.append_assoc]⟩
 ·obtain⟨sl,e1⟩:=u.slot b o e n hb hxx
  obtain⟨sl2,e2⟩:=a.slot b _ e1 (u.free b o e n hxx) (hi b o e hb) (hx b o e hxx);exact⟨sl2,e2⟩
end
def CXE (P:aN)(w:bq)(ex:List aq):CXT:=λouter H s E e s'=>∃(x:aq) (cls:af) (dct:Option aq) (B:bP) (H':Hp),e= .ref x∧s'.os=s.os∧AllBare s'.gens∧oX B outer x cls dct s'.heap∧Air P w (frs outer) ex H s.heap B H' s'.heap∧E cls dct H'
abbrev CXN (P:aN)(w:bq):CXT:=CXE P w []
theorem Inv.air1 {x:aq}(I:Inv X aL σ H s)(nx:H x=none):∃B:bP,B.StaysIn s.heap∧s.heap.FunFrames B X.stack∧B.get? x=none∧Air X.prog X.w (frs X.stack) [x] H s.heap B H s.heap:=by
 have hb:∀b o,s.heap.get? b=some o→b ∉ frs X.stack→b≠x→(PySem.W.hideAll s.heap (x::frs X.stack)).get? b=some o:=λb o e n nb=>PySem.W.hideAll_get _ e (by simp[nb,n])
 apply⟨PySem.W.hideAll s.heap (x::frs X.stack),λb o e=>PySem.W.of_hideAll _ e,PySem.W.funFrames_hide I.stack λenv he b hf=>aO _ (ia.mpr ⟨env,he,hf⟩),PySem.W.hideAll_none _ (bJ ..),?_⟩;apply⟨λa o e=>(I.hok a o e).stay (λb u hbu q=>hb b u q (λhm=>?_) λz=>?_) (λ_ q=>q) λ_ _ q=>q,λb o e _ n nx'=>hb b o e n (by simpa using nx'),λb o e n nx'=>⟨o,hb b o e n (by simpa using nx')⟩,λ_ _ _ n _=>n,λ_ _ e=>e,λ_ _ _ e=>e,λb ps e=>⟨#[],by simpa using e⟩,λb o e _ _ _=>⟨o.slots,e⟩⟩
 ·have z:=I.stkFree b hm
  rcases hbu with rfl | hbu
  ·rw[e] at z;cases z
  ·rw[hbu] at z;cases z
 ·subst z
  rcases hbu with rfl | hbu
  ·rw[e] at nx;cases nx
  ·rw[hbu] at nx;cases nx
theorem Air.out {h:bP}(I:Inv X aL σ H s)(a:Air X.prog X.w (frs X.stack) ex H s.heap B H' h)(hex:X.ex=[])(hst:X.stack=X.env::X.outer)(hfr:X.env.frame=some X.env.locals)(hx:∀b∈ex,X.s₀.heap.get? b=none) :
  Air X.prog X.w (frs X.outer) [] X.H₀ X.s₀.heap B H' h:=by
 have mem:∀b,b∈frs X.stack↔b=X.env.locals∨b∈frs X.outer:=λb=>by
  unfold frs;rw[hst,gT,hfr];simp
 have old:∀b o,X.s₀.heap.get? b=some o→b≠X.env.locals:=λb o e z=>by
  have h1:=aV e;have h2:=I.ok.above;rw[z] at h1;exact hV _ (ck h1 h2)
 have un:Un (frs X.outer) X.ex X.H₀ H X.s₀.heap s.heap:=I.base;rw[hex] at un;exact Air.after un a (λb o e n z=>((mem b).mp z).elim (old b o e) n) (λb o e hb=>(mem b).mpr (.inr hb)) λb o e _ z=>by have q:=hx b z;rw[e] at q;cases q
structure XDef (X:Cx)(E:XK):Prop where
 ex:X.ex=[]
 stk:X.stack=X.env::X.outer
 fr:X.env.frame=some X.env.locals
 any:∀(aL:List (aq×Obj)) (σ:St) (H:Hp) (s:au) (e:af) (s':au) (ex:List aq),Inv X aL σ H s→(∀b∈ex,X.s₀.heap.objs.size≤b)→CXE X.prog X.w ex X.stack H s E e s'→X.xe e s'
 made:∀(aL:List (aq×Obj)) (σ:St) (H:Hp) (s:au) (x:aq) (ox:Obj) (us:Array af) (z0:af),Inv X aL σ H s→H x=none→X.s₀.heap.get? x=none→s.heap.get? x=some ox→ox.data= .fields us→us[1]? =some .none→us[0]? =some z0→E ox.cls ox.dict H→X.xe (.ref x) s
theorem XDef.pass {E:XK}(D:XDef X E):mq (CXN X.prog X.w) X E:=λaL σ H s e s' I h=>D.any aL σ H s e s' [] I (λb hb=>rM hb ∅) h
theorem xdef_of {s0:au}{E:XK} :
  XDef (cxOf (CXN P w) P w K mg base N qual scope f cd A outer s0 H0 E) E:=by
 apply⟨rfl,rfl,rfl,?_,?_⟩
 ·intro aL σ H s e s' ex I hx hc
  obtain⟨x,cls,dct,B,H',rfl,os,bare,al,air,hE⟩:=hc;have out:=Air.out I air rfl rfl rfl λb hb=>bP.get?_none_of_le (hx b hb)
  apply leave_any (env:=envOfC qual scope s0.heap.objs.size f cd) (outer:=outer) I.ok.frames rfl al λg ag u=>?_
  apply⟨x,cls,dct,B,H',rfl,os.trans I.os,bare,ag,Air.up out al.fr.2.2 u,hE⟩
 ·intro aL σ H s x ox us z0 I nx far e1 ed en e0 hE
  obtain⟨B,b1,b2,b3,air⟩:=I.air1 nx;have out:=Air.out I air rfl rfl rfl λb hb=>by rw[aB.mp hb];exact far
  apply first_any (env:=envOfC qual scope s0.heap.objs.size f cd) (outer:=outer) I.ok.frames b2 rfl e1 b1 b3 ed en e0 λg al u=>?_
  exact⟨x,ox.cls,ox.dict,B,H,rfl,I.os,I.bare,al,Air.up out b2.2.2 u,hE⟩
theorem Fun.okX (F:Fun K x qual st f fd)(S:cA N ps (defScope st))(len:∀vs H Q E,sp vs H Q E→vs.length=ps.length)
  (hbody:∀ (cdv:af) (A:cp) (outer:List Env) (s:au) (H:Hp) (vs:List V) (Q:VK) (E:XK),jI k (A.deeper (envOfC qual (defScope st) s.heap.objs.size f cdv))→XDef (cxOf (CXN P w) P w K mg base N qual (defScope st) f cdv A outer s H E) E→sp vs H Q E →
   ∃ t,PSs (cxOf (CXN P w) P w K mg base N qual (defScope st) f cdv A outer s H E) (j8 st) t∧t { nx:=fun _ H'=>Q .non H',rt:=Q } (start N vs) H):cS P w K mg base (CXN P w) (k+1) f fd ps sp:=by
 obtain⟨oc,od,kV,doc,pm,an,cdv,ct,osl,rfl,lk,hcd⟩:=F.ex;exact fn_of lk hcd S len λA outer s H vs Q E hr hsp=>hbody cdv A outer s H vs Q E hr xdef_of hsp
structure Exc (K:ak)(mg:Str→Option af)(x:Str)(C:aq):Prop where
 mg:mg x=some (.ref C)
 ok:PySem.W.excIn K C [.type "ValueError",.type "Exception",.type "BaseException",.type "object"] "ValueError.__new__" =true
theorem own_at {h:bP}(X:K.In h)(hm:mg x=some (.ref C))(q:PySem.W.excIn K C bmB newId=true):OwnCls x C bmB newId mg h:=by
 apply⟨hm,?_⟩;unfold PySem.W.excIn at q;split at q
 ·rename_i dd cd sl ho
  split at q
  ·rename_i C' bm k0 k1 k2 k3 n k5 h1 h2
   simp only[bW,beq_iff_eq,Bool.not_eq_true'] at q;obtain⟨⟨⟨⟨⟨rfl,rfl⟩,h3⟩,h4⟩,h5⟩,h6⟩:=q;obtain⟨nm,bs,mro,ns,qn,hd,sn,sub,ab,col,del⟩:=cd
   dsimp only at h1 h3 h5 h6
   subst h1 h3;have e:sl= #[k0,k1,k2,k3,some (.builtin n),k5]:=by
    obtain⟨l⟩:=sl;simp only at h2;rw[h2]
   subst e;exact⟨bm,ns,nm,qn,bs,hd,sn,sub,ab,col,dd,k0,k1,k2,k3,k5,_,X _ _ ho,.of_isNs (PySem.W.isNs_of_in X h5),PySem.W.nsMap_none_of_in X h5 h6,PySem.W.tail_of_in X h4⟩
  ·cases q
 ·cases q
abbrev cxBody (X:Cx)(pn:List (aq×Obj))(W:af→au→Prop):Cx:={ X with pn:=pn,xe:=W }
abbrev qQ (X:Cx)(pn:List (aq×Obj))(x:aq):Cx:={ X with A:=X.A.mark (some (.ref x)),calm:=false,pn:=pn,xe:=λ_ _=>False }
def PassAt (CX:CXT)(X:Cx)(σ:St)(E:XK):Prop:=∀(aL:List (aq×Obj)) (H:Hp) (s:au) (e:af) (s':au),Inv X aL σ H s→CX X.stack H s E e s'→X.xe e s'
section
variable {pn:List (aq×Obj)}{σ0:St}{E:XK}
theorem pe_callS {ds:List af}{p:Pos}{t:TA}(F:cS X.prog X.w X.K X.mg X.base CX k f fd ps sp)(hr:jI k X.A)(hg:Gl X x)(hm:X.mg x=some (.ref f))(hk:dW X.K (.ref f)=true)(hb:Binds X.K fd ps ds)(hd:gZ dvs ds)(hx:PassAt CX X σ0 E)
  (ha:PA X (e::es) t) (hdb:(x == ("__debug__" :Str))=false:=by decide) (he:bB (e::es) X.env=(false,dn e X.env)::bB es X.env:=by rfl) (hpl:(gH pos (bB es X.env)).any (·.1)=false:=by rfl) :
  PE X (.Call (.Name x p) (e::es) [] pos) (λσ H Q=>σ=σ0∧tCall sp dvs E t σ H Q):=by
 intro aL s σ H Q I ⟨hσ,h⟩;subst hσ;apply iu (mV I hg hm ?_ hdb);apply lJ (h₀:=X.base) I.ok.mod.kin hk (thn (ha pos aL s σ H _ I h) λus s1 hz0=>?_) he hpl;obtain⟨vs,H1,I1,r,q⟩:=hz0;apply⟨I1.kIn,?_⟩;have r2:=r.append hd;have hl:(us++ds).length=ps.length:=by rw[←r2.length];exact F.len _ _ _ _ q
 apply ko (jU (F.run X.A X.stack s1 H1 ⟨us,[]⟩ (us++ds) (vs++dvs) Q E hr I1.env0 (hb s1 us I1.kIn hl) r2 q) λr s' hq=>?_);cases r with
 | error e=>exact hx aL H1 s1 e s' I1 hq
 | ok fl =>
  cases fl with
  | ret u=>exact I1.after hq
  | next=>exact eF hq
  | brk=>exact eF hq
  | cont=>exact eF hq
theorem Inv.toBody (I:Inv X aL σ H s):Inv (cxBody X (X.pn++aL) W) [] σ H s:=
 ⟨⟨I.ok.mod,I.ok.kind,I.ok.glob,I.ok.blt,I.ok.above,I.ok.inj,I.ok.has,I.ok.cab,I.ok.hd,I.ok.frames,I.ok.stk,I.ok.exf,I.ok.bs,I.ok.bsz,I.ok.noex,I.ok.exfs,I.ok.funs,I.ok.frf⟩,I.os,I.bare,I.base,I.loc,I.cell,I.free,I.freeC,by rw[bY];exact I.pin,I.hok,I.len⟩
theorem Inv.ofBody {more:List (aq×Obj)}(I:Inv (cxBody X (X.pn++aL) W) more σ H s):Inv X aL σ H s:=
 ⟨⟨I.ok.mod,I.ok.kind,I.ok.glob,I.ok.blt,I.ok.above,I.ok.inj,I.ok.has,I.ok.cab,I.ok.hd,I.ok.frames,I.ok.stk,I.ok.exf,I.ok.bs,I.ok.bsz,I.ok.noex,I.ok.exfs,I.ok.funs,I.ok.frf⟩,I.os,I.bare,I.base,I.loc,I.cell,I.free,I.freeC,λp hp=>I.pin p (cq _ hp),I.hok,I.len⟩
theorem Inv.toHand {x:aq}(I:Inv X aL σ H s):Inv (qQ X (X.pn++aL) x) [] σ H s:=
 ⟨⟨I.ok.mod,I.ok.kind,I.ok.glob,I.ok.blt,I.ok.above,I.ok.inj,I.ok.has,I.ok.cab,(λz=>nomatch z),I.ok.frames,I.ok.stk,I.ok.exf,I.ok.bs,I.ok.bsz,I.ok.noex,I.ok.exfs,I.ok.funs,I.ok.frf⟩,I.os,I.bare,I.base,I.loc,I.cell,I.free,I.freeC,by rw[bY];exact I.pin,I.hok,I.len⟩
theorem Inv.ofHand {x:aq}{more:List (aq×Obj)}(ok:X.Ok)(I:Inv (qQ X (X.pn++aL) x) more σ H s):Inv X aL σ H s:=
 ⟨ok,I.os,I.bare,I.base,I.loc,I.cell,I.free,I.freeC,λp hp=>I.pin p (cq _ hp),I.hok,I.len⟩
theorem SP.mono {Y:Cx}{D:nc}{f:Flow}(k:∀σ H,Inv Y pins' σ H s→Inv X aL σ H s)(h:SP Y pins' D f s):SP X aL D f s:=by
 cases f with
 | next=>obtain⟨σ,H,I,q⟩:=h;exact⟨σ,H,k _ _ I,q⟩
 | brk=>obtain⟨σ,H,I,q⟩:=h;exact⟨σ,H,k _ _ I,q⟩
 | cont=>obtain⟨σ,H,I,q⟩:=h;exact⟨σ,H,k _ _ I,q⟩
 | ret u=>obtain⟨v,σ,H,I,q⟩:=h;exact⟨v,σ,H,k _ _ I,q⟩
theorem Inv.landed {x:aq}{cls:af}(I:Inv X aL σ H s)(os:s'.os=s.os)(bare:AllBare s'.gens)(al:oX B X.stack x cls dct s'.heap)(air:Air X.prog X.w (frs X.stack) [] H s.heap B H' s'.heap):Inv X aL σ H' s':=
 I.call' (ch:=[]) os (air.un al.st λb hb=>I.stkFree b hb) (λa o e=>(air.hok a o e).stay (λb v _ q=>al.st b v q) (λ_ q=>q) λ_ _ q=>q) bare λb hb=>rM hb ∅
end
theorem Inv.landedAs {x:aq}(I:Inv X aL σ H s)(os:s'.os=s.os)(bare:AllBare s'.gens)(al:oX B X.stack x (.ref C) dct s'.heap)(air:Air X.prog X.w (frs X.stack) [] H s.heap B H' s'.heap):H' x=none∧Inv X aL σ (upd H' x (pG x C dct)) s':=by
 have free:H' x=none:=by
  cases q:H' x with
  | none=>rfl
  | some o =>
   obtain⟨u,e⟩:=iE.seat (air.hok x o q);rw[al.no] at e;cases e
 obtain⟨a0,fl,ox,vx,T,ot,vt,e1,⟨ec,_⟩,e2,_⟩:=id al.tr;have edc:ox.dict=dct:=by
  obtain⟨o,p,r⟩:=al.dc;rw[e1] at p;cases p;exact r
 have new:s.heap.get? x=none:=by
  cases q:s.heap.get? x with
  | none=>rfl
  | some o =>
   by_cases hf:x∈frs X.stack
   ·obtain⟨_,o2,q2,hn⟩:=al.fr.mem hf
    rw[e1] at q2;cases q2;exact rM e2 (hn vx)
   ·obtain⟨o',e'⟩:=air.there x o q hf ∅
    rw[al.no] at e';cases e'
 have un:=air.un al.st λb hb=>I.stkFree b hb
 have hok:HOk X.prog X.w H' s'.heap:=λa o e=>(air.hok a o e).stay (λb v _ q=>al.st b v q) (λ_ q=>q) λ_ _ q=>q
 apply⟨free,I.call' (ch:=[]) os { keep:=un.keep,slot:=un.slot,free:=λb o e n hx=>?_,there:=un.there,tups:=λb xs e=>?_,frzs:=λb o u e=>?_,tbls:=λb ps e=>?_ } (hok.take free ⟨⟨ox,vx,e1,ec,edc,e2⟩,⟨ox,e1⟩,λh1 h2 ⟨o,us,p1,p2⟩ k=>⟨o,us,k o p1,p2⟩⟩) bare λb hb=>rM hb ∅⟩
 ·rw[bf (λz=>by rw[z,new] at e;cases e)]
  exact un.free b o e n hx
 ·have q:=un.tups b xs e
  rw[bf (aZ q free)];exact q
 ·have q:=un.frzs b o u e
  rw[bf (aZ q free)];exact q
 ·obtain⟨more,q⟩:=un.tbls b ps e
  exact⟨more,by rw[bf (aZ q free)];exact q⟩
structure Under (K:ak)(C D:aq):Prop where
 up:kJ K C (.ref D)=some true
theorem match_up {nm' q':Str}{N':aq}{bs' bm':List af}{hdct':Bool}{sn':List Str}{sub':List af}{ab':Bool}{col':Option Bool}{dd':Option aq}{j0 j1 j2 j3 j5:Option af}{newId':String}
  {h:bP} {g:Array GenState} {d:Drawn} {t:Nat} {os:OsState} {e:aq} {oe:Obj} {Q:Bool→au→Prop} (kin:K.In h) (up:kJ K C (.ref D)=some true)
  (hD:h.get? D=some (excClassObj nm' q' D N' bs' bm' hdct' sn' sub' ab' col' dd' j0 j1 j2 j3 j5 newId')) (he:h.get? e=some oe) (hcls:oe.cls= .ref C) (hbase:bm'.contains (.type "BaseException")=true)
  (hq:Q true ⟨h,g,d,t,os⟩):bc M A (excMatches (.ref e) (.ref D)) Q E ⟨h,g,d,t,os⟩:=by
 have b1:(af.ref D::bm').contains (.type "BaseException")=true:=by rw[List.contains_cons,hbase,Bool.or_true]
 have f:=tc_notTuple;unfold excMatches
 repeat (first | (with_reducible apply iI he ?_;rw[hcls]) | with_reducible apply iI hD ?_ | (with_reducible apply wpAny_isSubtype_exc hD ?_;rw[b1]) | (with_reducible apply PySem.W.Looks.at (PySem.W.looks_mroIn kin up) ?_) | wp_step)
 exact hq
theorem ps_tryAs {n:Str}{iN:Nat}{np hp:Pos}{suite:List cN}{b₀:cN}{tb:St→XK→TS}{th:TS}(stk:X.stack=X.env::X.outer)(fr:X.env.frame=some X.env.locals)(nd:X.N.Nodup)(at_:X.N[iN]? =some n)(lc:X.env.scope.names.lookup n=some .local)(T:Exc X.K X.mg x D)
  (hb:∀(pn:List (aq×Obj)) (W:af→au→Prop) (σ:St) (E:XK),PassAt (CXN X.prog X.w) (cxBody X pn W) σ E→PSs (cxBody X pn W) body (tb σ E)) (hh:∀(pn:List (aq×Obj)) (e:aq),PSs (qQ X pn e) (b₀::suite) th) (hg:Gl X x:=by rfl) (hd:(x == ("__debug__" :Str))=false:=by decide) :
  PS X (.Try body [.ExceptHandler (some (.Name x np)) (some n) (b₀::suite) hp] [] [] pos) (λDn σ H=>tb σ (λcls dct H'=>∃C,cls= .ref C∧Under X.K C D∧∀a,H' a=none→th { Dn with nx:=λσ' H''=>Dn.nx (σ'.set iN none) H'',bk:=λσ' H''=>Dn.bk (σ'.set iN none) H'',ct:=λσ' H''=>Dn.ct (σ'.set iN none) H'' } (σ.set iN (some (.ref a))) (upd H' a (pG a C dct))) Dn σ H):=by
 intro aL s σ H Dn I h;apply wpAny_Try_except (cW (hb (X.pn++aL) (λe s₁=>bc (bC X.prog X.w) X.A (noteFrame e X.env) (λ_ s₂=>bc (bC X.prog X.w) X.A (setFlight e none) (λ_ s₃=>bc (bC X.prog X.w) X.A (handleBy e X.env [.ExceptHandler (some (.Name x np)) (some n) (b₀::suite) hp]) (SP X aL Dn) X.xe s₃) X.xe s₂) X.xe s₁) σ _ ?_ [] s σ H Dn I.toBody h) (λf s1 q=>?_) λ_ _ q=>q)
 ·intro pins' H1 s1 e s2 I1 hc
  obtain⟨a,cls,dct,B,H2,rfl,os,bare,al,air,C,rfl,U,hth⟩:=hc;have I1:Inv X aL σ H1 s1:=Inv.ofBody I1;have al:oX B X.stack a (.ref C) dct s2.heap:=al;have air:Air X.prog X.w (frs X.stack) [] H1 s1.heap B H2 s2.heap:=air;have hfr:X.A.frames=some (X.env::X.outer):=by rw[←stk];exact I.ok.frames
  have al':oX B (X.env::X.outer) a (.ref C) dct s2.heap:=by rw[←stk];exact al
  apply note_any hfr fr al' λg hgd u=>?_
  have hgd:oX B X.stack a (.ref C) dct g:=by rw[stk];exact hgd
  have air1:Air X.prog X.w (frs X.stack) [] H1 s1.heap B H2 g:=Air.up air al.fr u;apply set_any (s:={ s2 with heap:=g }) hgd λg2 al2 u2=>?_
  have air2:Air X.prog X.w (frs X.stack) [] H1 s1.heap B H2 g2:=Air.up air1 hgd.fr u2;have I2:Inv X aL σ H2 { s2 with heap:=g2 }:=I1.landed (s':={ s2 with heap:=g2 }) os bare al2 air2;have I2h:Inv (qQ X (X.pn++aL) a) [] σ H2 { s2 with heap:=g2 }:=I2.toHand;apply wpAny_handleBy_cons (codeAny_handlers_test ?_) (by intro q;cases q);apply mV (X:=qQ X (X.pn++aL) a) I2h hg T.mg ?_ hd;obtain⟨tl,N,nm,q,bs,hdct,sn,sub,ab,col,dd,k0,k1,k2,k3,k5,mN,hC,hN,hni,TL⟩:=(own_at I.ok.mod.kin T.mg T.ok).obj;obtain⟨b0,fl,tr⟩:=id al2.tr;obtain⟨ob,hob,hobc⟩:=tr.there;apply match_up I2.kIn U.up (I2.bk _ _ hC) hob hobc (TL.hasType rfl) (codeAny_handlers_suite_as ?_);apply set_any (s:={ s2 with heap:=g2 }) al2 λg3 al3 u3=>?_
  have air3:Air X.prog X.w (frs X.stack) [] H1 s1.heap B H2 g3:=Air.up air2 al2.fr u3;obtain⟨fre,I3⟩:=I1.landedAs (s':={ s2 with heap:=g3 }) os bare al3 air3;have I3h:Inv (qQ X (X.pn++aL) a) [] σ (upd H2 a (pG a C dct)) { s2 with heap:=g3 }:=I3.toHand;apply store_ok (X:=qQ X (X.pn++aL) a) (v:=.ref a) I3h nd at_ (.inl lc) rfl (λs5 I5=>?_) (.inr lc);apply cW (hh (X.pn++aL) a [] _ _ _ _ I5 (hth a fre)) (λf s6 q=>?_) λ_ _ z=>eF z
  cases f with
  | next=>obtain⟨σ6,H6,I6,q6⟩:=q;exact gone_ok (Inv.ofHand I.ok I6) nd at_ lc λs7 I7=>⟨_,_,I7,q6⟩
  | brk=>obtain⟨σ6,H6,I6,q6⟩:=q;exact gone_ok (Inv.ofHand I.ok I6) nd at_ lc λs7 I7=>⟨_,_,I7,q6⟩
  | cont=>obtain⟨σ6,H6,I6,q6⟩:=q;exact gone_ok (Inv.ofHand I.ok I6) nd at_ lc λs7 I7=>⟨_,_,I7,q6⟩
  | ret u=>obtain⟨v,σ6,H6,I6,r6,q6⟩:=q;exact gone_ok (Inv.ofHand I.ok I6) nd at_ lc λs7 I7=>⟨v,_,_,I7,r6,q6⟩
 ·have q:SP X aL Dn f s1:=SP.mono (λ_ _ Ib=>Inv.ofBody Ib) q
  cases f with
  | next=>exact aI q
  | brk=>exact q
  | cont=>exact q
  | ret u=>exact q
end L2
namespace L2
open PySem PySem.Spec PySem.W PyProof.Rows
def xNew (h:bP)(C:aq)(us:List af):bP:=(h.push { cls:=.type "tuple",data:=.seq us.toArray }).push { cls:=.ref C,data:=.fields #[.ref h.objs.size,.none,.none,.none,.bool false,.none] }
theorem om {h:bP}{b:aq}{o:Obj}(e:h.get? b=some o):(xNew h C us).get? b=some o:=ar _ (ar _ e)
theorem xNew_at {h:bP}:(xNew h C us).get? (h.objs.size+1)=some { cls:=.ref C,data:=.fields #[.ref h.objs.size,.none,.none,.none,.bool false,.none] }:=by
 unfold xNew;exact bP.get?_push_at (by rw[dv]) rfl
section
variable {h:bP}{g:Array GenState}{d:Drawn}{t:Nat}{os:OsState}
variable {nm q:Str}{N fI:aq}{bs bm:List af}{sn:List Str}{ab:Bool}{k0 k1 k2 k3 k5:Option af}{B initId:String}{oI:Obj}
theorem xcall_type {Q:Fin→au→Prop}(F:ExcBaseFacts B newId initId bmB)(T:OwnTail h bmB bm)(hC:h.get? C=some (excClassObj nm q C N bs bm hdct sn sub ab col dd k0 k1 k2 k3 k5 newId))
  (kl:Looks (bC prog w) h (typeLookup (.ref C) "__init__") (some (.ref fI))) (hf:h.get? fI=some oI) (hc:oI.cls= .type "function") (hlen:us.length≤ax)
  (k:bc (bC prog w) A (call (.ref fI) (.ref (h.objs.size+1)::us)) (λr s'=>r= .none∧Q (.done (.ret (.ref (h.objs.size+1)))) s') E ⟨xNew h C us,g,d,t,os⟩) :
  bc (bC prog w) A (eN.«type.__call__» ⟨.ref C::us,[]⟩) Q E ⟨h,g,d,t,os⟩:=by
 repeat (first | with_reducible apply iI hC ?_ | with_reducible apply wpAny_madeBy_exc hC ?_ | wp_step)
 apply codeAny_call_builtin_code (Code.quiet_builtin _ F.quiet) (wpAny_check_new_subT F T hC (codeAny_exc_new_subT F T hC ?_ hlen));show bc _ _ _ _ _ (⟨xNew h C us,g,d,t,os⟩:au);have c1:(xNew h C us).get? C=_:=om hC;have x1:=xNew_at (h:=h) (C:=C) (us:=us);have f1:(xNew h C us).get? fI=some oI:=om hf;have l1:=kl.keeps (h':=xNew h C us) λb o e=>om e
 have inn:(af.ref C::bm).contains (.ref C)=true:=by simp
 generalize xNew h C us=h1 at k c1 x1 f1 l1 ⊢;unfold isInstance
 repeat (first | with_reducible apply iI x1 ?_ | (with_reducible apply wpAny_isSubtype_exc c1 ?_;rw[inn]) | wp_step)
 show bc _ _ (typeLookup (.ref C) _) _ _ _;apply l1.at ?_;apply gx (ai ?_);unfold bindSpecial;apply ai (wpAny_typeOf (T:="function") ⟨_,f1,hc⟩ ?_);rw[rL ↥0];apply aI (ai (cW k (λr s' hr=>?_) λ_ _ z=>z));obtain⟨rfl,hQ⟩:=hr
 wp_walk
 exact hQ
theorem xcall (F:ExcBaseFacts B newId initId bmB)(T:OwnTail h bmB bm)(hC:h.get? C=some (excClassObj nm q C N bs bm hdct sn sub ab col dd k0 k1 k2 k3 k5 newId))
  (kl:Looks (bC prog w) h (typeLookup (.ref C) "__init__") (some (.ref fI))) (hf:h.get? fI=some oI) (hc:oI.cls= .type "function") (hlen:us.length≤ax)
  (k:bc (bC prog w) (A.under (.builtin "type.__call__" ⟨.ref C::us,[]⟩)) (call (.ref fI) (.ref (h.objs.size+1)::us)) (λr s'=>r= .none∧Q (.ref (h.objs.size+1)) s') E ⟨xNew h C us,g,d,t,os⟩) :
  bc (bC prog w) A (call (.ref C) us) Q E ⟨h,g,d,t,os⟩:=by
 have z1:=tc_lookup;have z2:=tc_bind (.ref C);have z3:(⟨h,g,d,t,os⟩:au).TypeIs (.ref C) "type":=⟨_,hC,rfl⟩;apply ko (codeAny_of_tree ?_);show bc _ _ (callAny (.ref C) _) _ _ _
 repeat (any_goals (first | assumption | with_reducible apply iI hC ?_ | wp_step))
 apply⟨rfl,codeAny_call_builtin_at (Code.quiet_builtin _ ⇑0) entry_typeCall (wpAny_check_type_call_sub hC (xcall_type F T hC kl hf hc hlen ?_))⟩;exact k
end
def XN (x C:aq)(d:Option aq):HO:=.ext λh=>∃o us z0,h.get? x=some o∧o.cls= .ref C∧o.dict=d∧o.data= .fields us∧us[0]? =some (.ref z0)∧us[1]? =some .none
theorem XN.stay {x C:aq}{d:Option aq}{P:aN}{w:bq}{H:Hp}{h:bP}{o:Obj}{us:Array af}{z0:aq}(p1:h.get? x=some o)(p2:o.cls= .ref C)(p3:o.dict=d)(p4:o.data= .fields us)(p5:us[0]? =some (.ref z0))(p6:us[1]? =some .none):iE P w H h x (XN x C d):=
 ⟨⟨o,us,z0,p1,p2,p3,p4,p5,p6⟩,⟨o,p1⟩,λ_ _ ⟨o,us,z0,p,r⟩ k=>⟨o,us,z0,k o p,r⟩⟩
theorem XD.stay {D:aq}{fs:List (Str×V)}{P:aN}{w:bq}{H:Hp}{h:bP}{mA:Str→Option af}(n:h.Ns1 D mA)(r:∀f,qU (fs.lookup f) (mA f))(wi:PySem.Within mA (fs.map (·.1))):iE P w H h D (XD D fs):=
 ⟨⟨mA,n,r,wi⟩,let ⟨o,_,_,e,_⟩:=n;⟨o,e⟩,λ_ _ ⟨mA,⟨o,es,ep,e,c⟩,r⟩ k=>⟨mA,⟨o,es,ep,k o e,c⟩,r⟩⟩
theorem upd_id {x:aq}(e:H x=some o):upd H x o=H:=by
 funext b
 unfold upd;split
 ·rename_i q;rw[q,e]
 ·rfl
structure XMk (K:Frag)(C P f:aq):Prop where
 lk:∃nm q N bs sn sub ab col dd k0 k1 k2 k3 k5,K.lookup C=some (excClassObj nm q C N bs (.ref P::bmVE) true sn sub ab col dd k0 k1 k2 k3 k5 "ValueError.__new__")
 up:excIn K P bmVE "ValueError.__new__" =true
 init:findIn K (.ref C) "__init__" =some (some (.ref f))
 fn:isFn K (.ref f)=true
 kp:keepIn K (.ref C)=true
 sa:findIn K (.ref C) "__setattr__" =some (some (.builtin "object.__setattr__"))
theorem XMk.tail {K:Frag}{P:aq}{h:bP}(M:XMk K C P f)(kin:K.In h):∃nm q N bs sn sub ab col dd k0 k1 k2 k3 k5,h.get? C=some (excClassObj nm q C N bs (.ref P::bmVE) true sn sub ab col dd k0 k1 k2 k3 k5 "ValueError.__new__")∧OwnTail h bmVE (.ref P::bmVE):=by
 obtain⟨nm,q,N,bs,sn,sub,ab,col,dd,k0,k1,k2,k3,k5,e⟩:=M.lk;obtain⟨tl,N',nm',q',bs',hdct',sn',sub',ab',col',dd',j0,j1,j2,j3,j5,mN,hP,hN,hni,_⟩:=(own_at (mg:=λ_=>some (.ref P)) (x:="") kin rfl M.up).obj;exact⟨nm,q,N,bs,sn,sub,ab,col,dd,k0,k1,k2,k3,k5,kin _ _ e,.own hP hN hni .base⟩
structure UpCls (K:Frag)(P:aq):Prop where
 ga:specialIn K (.ref P) "__getattribute__" =some (some (.builtin "type.__getattribute__"))
 rd:readsIn K P (.type "type")=true
 at_:findCls K (.ref P) (.type "type") "__init__" =some (.val (.builtin "ValueError.__init__"))
theorem xlaid (I:Inv X aL σ H s)(J:Inv X aL σ H' s')(nD:H' D=none)(hp:s.heap.objs.size≤D)(new:iE X.prog X.w (upd H' D o) s'.heap D o):Inv X aL σ (upd H' D o) s':=by
 have low:∀b,b<s.heap.objs.size→b≠D:=λb hb z=>by rw[z] at hb;exact hV _ (ck hb hp)
 apply⟨J.ok,J.os,J.bare,{ keep:=J.base.keep,slot:=J.base.slot,free:=λb u e n x=>?_,there:=J.base.there,tups:=λb xs e=>?_,frzs:=λb u v e=>?_,tbls:=λb ps e=>?_ },J.loc,J.cell,?_,λy c e=>?_,λp m=>?_,J.hok.take nD new,J.len⟩
 ·rw[bf (low b (ck (aV e) I.sz))];exact J.base.free b u e n x
 ·have q:=J.base.tups b xs e
  rw[bf (aZ q nD)];exact q
 ·have q:=J.base.frzs b u v e
  rw[bf (aZ q nD)];exact q
 ·obtain⟨more,q⟩:=J.base.tbls b ps e
  exact⟨more,by rw[bf (aZ q nD)];exact q⟩
 ·rw[bf (low _ I.lt)];exact J.free
 ·obtain⟨v,u,q,_⟩:=I.cell y c e
  rw[bf (low _ (aV q))];exact J.freeC y c e
 ·obtain⟨a1,a2,a3,a4,a5⟩:=J.pin p m
  apply⟨a1,?_,a3,a4,a5⟩;rw[bf (low _ (aV (I.pin p m).1))];exact a2
theorem XMk.mro {K:Frag}{C P f:aq}{h:bP}{M':Model}(M:XMk K C P f)(kin:K.In h):Looks M' h (mroOf (.ref C)) (.ref C:: .ref P::bmVE):=by
 obtain⟨nm,q,N,bs,sn,sub,ab,col,dd,k0,k1,k2,k3,k5,e⟩:=M.lk;have hc:clsIn K C=some { name:=nm,bases:=bs,mro:=.ref C:: .ref P::bmVE,ns:=N,qualname:=q,hasDict:=true,slotNames:=sn,subclasses:=sub,abstract:=ab,collection:=col,hasDel:=false }:=by
  unfold clsIn;rw[e]
 exact(looks_clsIn kin hc).andThen .now
theorem ps_xset {P:aq}{o:Expr}{f:Str}{tv:TE}(M:XMk X.K C P f0)(T:XCls X.K C)(na:jW X.K C f)(ha:PE X o ta)(hv:PE X value tv)(hs:lG value (some (.Attribute o f pos')) pos.line X.env=iJ false:=by rfl) :
  PS X (.Assign [.Attribute o f pos'] value pos) (fun Dn σ H=>tv σ H fun y H1=>ta σ H1 fun x H2=>∃ a,x= .ref a ∧
   ((H2 a=some (XN a C none)∧∀ D,H2 D=none→D≠a→Dn.nx σ (upd (upd H2 a (XN a C (some D))) D (XD D [(f,y)]))) ∨
    (∃ D fs,H2 a=some (XN a C (some D))∧H2 D=some (XD D fs)∧D≠a∧fs.length<1000∧Dn.nx σ (upd H2 D (XD D (qZ f y fs)))))):=by
 intro aL s σ H Dn I h;apply plainObj_wpAny_Assign_Attribute (thn (hv aL s σ H _ I h) λu s1 ⟨y,H1,I1,ry,q⟩=>thn (ha aL s1 σ H1 _ I1 q) λov s2 hz0=>?_) hs;obtain⟨x,H2,I2,rx,a,ex,q2⟩:=hz0;subst ex;obtain rfl:ov=af.ref a:=rx
 rcases q2 with ⟨ea,q2⟩ | ⟨D,fs,ea,eD,nD,lf,q2⟩
 ·obtain⟨⟨⟨oc,odi,oda,osl⟩,us,z0,p1,p2,p3,p4,p5,p6⟩,_,_⟩:=I2.hok a _ ea
  dsimp only at p2 p3 p4
  subst p2 p3 p4;apply x_set0 (ox:=⟨.ref C,none,.fields us,osl⟩) I2.kIn T M.sa (M.mro I2.kIn) na p1 λh' tk n3 e3 k3=>?_
  have fresh:H2 s2.heap.objs.size=none:=I2.hok.fresh (aA _);have ne:s2.heap.objs.size≠a:=i8 (aV p1);have J1:Inv X aL σ (upd H2 a (XN a C (some s2.heap.objs.size))) { s2 with heap:=h',toks:=tk }:=
   I2.write (x:=a) (e:=a) (by rw[ea];exact True.intro) (.inl rfl) (λb u nb q=>k3 b u nb q) ⟨_,e3⟩ (XN.stay e3 rfl rfl rfl p5 p6)
  have g1:upd H2 a (XN a C (some s2.heap.objs.size)) s2.heap.objs.size=none:=by rw[bf ne];exact fresh
  apply⟨σ,_,?_,q2 _ fresh ne⟩;apply xlaid I2 J1 g1 (aA _) (XD.stay n3 (λg=>?_) λg hg=>?_)
  ·show qU (eT g [(f,y)]) (if g=f then some u else none)
   by_cases z:g=f
   ·subst z;simp[eT];exact ry
   ·have z':(g == f)=false:=by simpa using z
    rw[rK z];simp[eT,z'];trivial
  ·by_cases z:g=f
   ·rw[z];simp
   ·exact rM (by rw[rK z]) hg
 ·obtain⟨⟨⟨oc,odi,oda,osl⟩,us,z0,p1,p2,p3,p4,p5,p6⟩,_,_⟩:=I2.hok a _ ea
  dsimp only at p2 p3 p4
  subst p2 p3 p4;obtain⟨⟨mA,n1,rl,wi⟩,_,_⟩:=I2.hok D _ eD;apply x_set1 (ox:=⟨.ref C,some D,.fields us,osl⟩) (ns:=fs.map (·.1)) I2.kIn T M.sa (M.mro I2.kIn) na p1 n1 wi (by rw[ae];exact lf) λh' tk n3 same=>?_
  apply⟨σ,_,I2.write (x:=D) (e:=D) (by rw[eD];exact True.intro) (.inl rfl) (λb u nb q=>(same.2 b nb).trans q) (let ⟨o,_,_,e,_⟩:=n3;⟨o,e⟩) (XD.stay n3 (λg=>?_) λg hg=>?_),q2⟩
  ·show qU ((qZ f y fs).lookup g) (if g=f then some u else mA g)
   rw[nX]
   by_cases q:g=f
   ·rw[rL q,rL q];exact ry
   ·rw[rK q,rK q];exact rl g
  ·by_cases q:g=f
   ·rw[q];exact(mW f y fs).1
   ·apply(mW f y fs).2 g (wi g λz=>hg ?_)
    show(if g=f then some u else mA g)=none;rw[rK q];exact z
def pJ (H:Hp)(x:aq):Hp:=λb=>if b=x then none else H b
theorem dropH_at {x:aq}:pJ H x x=none:=by unfold pJ;rw[rL rfl]
theorem nG {x b:aq}(n:b≠x):pJ H x b=H b:=by unfold pJ;rw[rK n]
theorem qN {x:aq}{u:HO}(n:H x=none)(ne:D≠x):pJ (upd (upd H x o) D u) x=upd H D u:=by
 funext b
 unfold pJ upd
 by_cases q:b=x
 ·rw[rL q,q,rK (cM ne),n]
 ·rw[rK q,rK q]
theorem Inv.drop {x:aq}(I:Inv X aL σ H s)(e:H x=some (XN x C d)):Inv X aL σ (pJ H x) s:=by
 have nx:∀b o,H b=some o→o≠XN x C d→b≠x:=λb o q n z=>by rw[z,e] at q;exact n (bF q).symm
 apply⟨I.ok,I.os,I.bare,{ keep:=I.base.keep,slot:=I.base.slot,free:=λb u q n z=>?_,there:=I.base.there,tups:=λb xs q=>?_,frzs:=λb u v q=>?_,tbls:=λb ps q=>?_ },I.loc,I.cell,?_,λy c q=>?_,λp m=>?_,λb o q=>?_,I.len⟩
 ·have:=I.base.free b u q n z
  unfold pJ;split
  ·rfl
  ·exact this
 ·have r:=I.base.tups b xs q
  rw[nG (nx b _ r nofun)];exact r
 ·have r:=I.base.frzs b u v q
  rw[nG (nx b _ r nofun)];exact r
 ·obtain⟨more,r⟩:=I.base.tbls b ps q
  exact⟨more,by rw[nG (nx b _ r nofun)];exact r⟩
 ·unfold pJ
  split
  ·rfl
  ·exact I.free
 ·have:=I.freeC y c q
  unfold pJ;split
  ·rfl
  ·exact this
 ·obtain⟨a1,a2,a3,a4,a5⟩:=I.pin p m
  apply⟨a1,?_,a3,a4,a5⟩;unfold pJ;split
  ·rfl
  ·exact a2
 ·have nb:b≠x:=λz=>by rw[z,dropH_at] at q;cases q
  rw[nG nb] at q;exact(I.hok b o q).stay (λ_ _ _ r=>r) (λc r=>by rw[nG (nx c _ r nofun)];exact r) λc xs r=>by rw[nG (nx c _ r nofun)];exact r
theorem run_makeX {P:aq}{ds:List af}{E:XK}{Q:VK}{vs:List V}(M:XMk X.K C P f)(F:cS X.prog X.w X.K X.mg X.base CX k f fd ps sp)(hr:jI (k+1) X.A)(hb:Binds X.K fd ps ds)(hd:gZ dvs ds)
  (hx:mq CX X E) (hz:ps.length≤ax) (I:Inv X aL σ H s) (r:gZ vs us)
  (h:∀y,H y=none→X.s₀.heap.objs.size≤y→sp (.ref y::(vs++dvs)) (upd H y (XN y C none)) (λv H2=>v= .non∧Q (.ref y) H2) E) :
  bc (bC X.prog X.w) X.A (call (.ref C) us) (EP X aL σ Q) X.xe s:=by
 have FB:=PySem.F.excBase_ValueError;obtain⟨nm,q,N,bs,sn,sub,ab,col,dd,k0,k1,k2,k3,k5,hC,T⟩:=M.tail I.kIn;obtain⟨oI,ho,hc⟩:=bp.mp (beq_iff_eq.mp M.fn);have sz:=I.sz;obtain⟨hh,g,dr,t,os⟩:=s;have hq:=h (hh.objs.size+1) (I.hok.fresh (iF _)) (cB sz (iF _));have I2:Inv X aL σ (upd H (hh.objs.size+1) (XN (hh.objs.size+1) C none)) ⟨xNew hh C us,g,dr,t,os⟩:=
  I.laid (a:=hh.objs.size+1) (t':=t) (λb u q=>om q) (iF _) (XN.stay xNew_at rfl rfl rfl (z0:=hh.objs.size) rfl rfl)
 have r2:gZ (V.ref (hh.objs.size+1)::(vs++dvs)) (af.ref (hh.objs.size+1)::(us++ds)):=.cons rfl (r.append hd);have hl:(af.ref (hh.objs.size+1)::us++ds).length=ps.length:=by
  have e:=r2.length;rw[F.len _ _ _ _ hq] at e;exact e.symm
 have hlen:us.length≤ax:=by
  rw[List.cons_append,aG,ao] at hl;lia
 apply xcall FB T hC (looks_findIn I.kIn M.init) (I.kIn _ _ ho) hc hlen ?_;apply ko (jU (F.run _ X.stack _ _ ⟨af.ref (hh.objs.size+1)::us,[]⟩ (af.ref (hh.objs.size+1)::(us++ds)) _ _ E (hr.make C us []) (I2.env0.make C us []) (hb _ (af.ref (hh.objs.size+1)::us) I2.kIn hl) r2 hq) λr s' hq'=>?_);cases r with
 | error e=>exact hx aL σ _ _ e s' I2 hq'
 | ok fl =>
  cases fl with
  | ret u =>
   obtain⟨v,H',I3,rv,ev,q3⟩:=I2.after hq';subst ev;exact⟨rv,⟨V.ref (hh.objs.size+1),H',I3,rfl,q3⟩⟩
  | next=>exact eF hq'
  | brk=>exact eF hq'
  | cont=>exact eF hq'
theorem pe_makeX {P:aq}{ds:List af}{E:XK}{p:Pos}{t:TA}(M:XMk X.K C P f)(F:cS X.prog X.w X.K X.mg X.base CX k f fd ps sp)(hr:jI (k+1) X.A)(hg:Gl X x)(hm:X.mg x=some (.ref C))(hb:Binds X.K fd ps ds)(hd:gZ dvs ds)(hx:mq CX X E)(hz:ps.length≤ax)
  (ha:PA X (e::es) t) (hdb:(x == ("__debug__" :Str))=false:=by decide) (he:bB (e::es) X.env=(false,dn e X.env)::bB es X.env:=by rfl) (hpl:(gH pos (bB es X.env)).any (·.1)=false:=by rfl) :
  PE X (.Call (.Name x p) (e::es) [] pos) (λσ H Q=>t σ H λvs H1=>∀y,H1 y=none→X.s₀.heap.objs.size≤y→sp (.ref y::(vs++dvs)) (upd H1 y (XN y C none)) (λv H2=>v= .non∧Q (.ref y) H2) E):=by
 intro aL s σ H Q I h;apply iu (mV I hg hm ?_ hdb);apply callWith_K (h₀:=X.base) I.ok.mod.kin M.kp (thn (ha pos aL s σ H _ I h) λus s1 hz0=>?_) he hpl;obtain⟨vs,H1,I1,r,q⟩:=hz0;apply⟨I1.kIn,?_⟩;exact run_makeX M F hr hb hd hx hz I1 r q
theorem raise_made {nm q:Str}{N:aq}{bs bm:List af}{sn:List Str}{ab:Bool}{k0 k1 k2 k3 k5:Option af}{v:Sem af}{Q:Flow→au→Prop}(hbase:bm.contains (.type "BaseException")=true)(hh:A.handled=none)
  (h:bc M A v (λu s1=>∃e d us z0 sl,u= .ref e∧s1.heap.get? C=some (excClassObj nm q C N bs bm hdct sn sub ab col dd k0 k1 k2 k3 k5 newId)∧s1.heap.get? e=some ⟨.ref C,d,.fields us,sl⟩∧us[0]? =some z0∧us[1]? =some .none∧E (.ref e) s1) E s) :
  bc M A (raiseStmt env (some v) none) Q E s:=by
 have hcB:(af.ref C::bm).contains (.type "BaseException")=true:=by rw[List.contains_cons,hbase,Bool.or_true]
 unfold raiseStmt;apply ai (cW h (λu s1 h1=>?_) λ_ _ z=>z);obtain⟨e,d,us,z0,sl,rfl,hC,he,e0,en,hE⟩:=h1;obtain⟨hp,g,dr,tk,os⟩:=s1
 repeat (first | with_reducible apply cJ he rfl en ?_ | with_reducible apply iI he ?_ | with_reducible apply iI hC ?_ | (with_reducible apply wpAny_isSubtype_exc hC ?_;rw[hcB]) | wp_step)
 exact wpAny_raiseNew_none hh hE
theorem ps_raiseV {E:XK}{P:aq}(D:XDef X E)(hc:X.calm=true)(M:XMk X.K C P f)(he:PE X e te) :
  PS X (.Raise (some e) none pos) (λ_ σ H=>te σ H λv H1=>∃y d,v= .ref y∧X.s₀.heap.objs.size≤y∧H1 y=some (XN y C d)∧E (.ref C) d (pJ H1 y)):=by
 intro aL s σ H Dn I h;obtain⟨nm,q,N,bs,sn,sub,ab,col,dd,k0,k1,k2,k3,k5,hC,T⟩:=M.tail I.ok.mod.kin;rw[arm_exec_Raise];simp only[evalOpt,Option.map];apply ai (wpAny_standAt (raise_made (C:=C) (nm:=nm) (q:=q) (N:=N) (bs:=bs) (bm:=.ref P::bmVE) (hdct:=true) (sn:=sn) (sub:=sub) (ab:=ab) (col:=col) (dd:=dd) (k0:=k0) (k1:=k1) (k2:=k2) (k3:=k3) (k5:=k5) (newId:="ValueError.__new__") (T.hasType rfl) (I.ok.hd hc) ?_));apply ai (cW (he aL s σ H _ I h) (λv s3 h3=>ai (wpAny_standAt (aI ?_))) λ_ _ z=>z);obtain⟨w,H1,I1,rw1,y,d,rfl,far,ey,hE⟩:=h3;obtain rfl:v=af.ref y:=rw1;obtain⟨⟨⟨oc,odi,oda,osl⟩,us,z0,p1,p2,p3,p4,p5,p6⟩,_,_⟩:=I1.hok y _ ey
 dsimp only at p2 p3 p4
 subst p2 p3 p4;exact⟨y,odi,us,_,osl,rfl,I1.bk _ _ hC,p1,p5,p6,D.made aL σ (pJ H1 y) s3 y _ us _ (I1.drop ey) dropH_at (bP.get?_none_of_le far) p1 rfl p6 p5 hE⟩
theorem init_up1 {x P:aq}{a:af}(I:Inv X aL σ H s)(e:H x=some (XN x C d))(M:XMk X.K C P f)(k:∀s',Inv X aL σ H s'→Q .none s') :
  bc (bC X.prog X.w) A (call (.builtin "ValueError.__init__") [.ref x,a]) Q E s:=by
 have F:=PySem.F.excBase_ValueError;obtain⟨⟨o,us,z0,p1,p2,p3,p4,p5,p6⟩,_,_⟩:=I.hok x _ e;obtain⟨nm,q,N,bs,sn,sub,ab,col,dd,k0,k1,k2,k3,k5,hC,T⟩:=M.tail I.kIn;obtain⟨hh,g,dr,t,os⟩:=s;apply ko (lX F.init.plain F.initEntry (wpAny_check_init_subT F T hC p1 p2 ?_));have ob:(hh.push { cls:=.type "tuple",data:=.seq [a].toArray }).get? x=some o:=ar _ p1;unfold eN.«BaseException.__init__»
 repeat (first | with_reducible apply cJ ob p4 p5 ?_ | with_reducible apply kO ob p4 (gb.mp p5).1 ?_ | wp_step)
 have I1:Inv X aL σ H ⟨hh.push { cls:=.type "tuple",data:=.seq [a].toArray },g,dr,t,os⟩:=I.kept (t':=t) λb u q=>ar _ q
 have sz:0<us.size:=(gb.mp p5).1;have n1:=gF (iG (·.setIfInBounds 0 (af.ref hh.objs.size))) ob (kM (ie p4 _));have I2:=I1.write (x:=x) (e:=x) (o:=XN x C d) (t':=t) (h':=(hh.push { cls:=.type "tuple",data:=.seq [a].toArray }).update x (iG (·.setIfInBounds 0 (af.ref hh.objs.size)))) (by rw[e];exact True.intro) (.inl rfl) (λb u nb q=>(gk _ _ nb.symm).trans q) ⟨_,n1⟩
  (XN.stay n1 ((Obj.cls_mapFields _ _).trans p2) ((nQ _ _).trans p3) (ie p4 _) (z0:=hh.objs.size) (by simp[sz]) (by rw[Array.getElem?_setIfInBounds_ne ↥0];exact p6))
 rw[upd_id e] at I2;exact k _ I2
theorem pe_upInit1 {P:aq}{e1 e2:Expr}{p:Pos}{t:TA}{pl:Sem Bool}(U:UpCls X.K P)(M:XMk X.K C P f0)(hg:Gl X x)(hm:X.mg x=some (.ref P))(ha:PA X [e1,e2] t)
  (hdb:(x == ("__debug__" :Str))=false:=by decide) (hst:bB [e1,e2] X.env=(false,dn e1 X.env)::bB [e2] X.env:=by rfl) (hpl:(gH pos (bB [e2] X.env)).any (·.1)=false:=by rfl)
  (ht:dn (.Call (.Attribute (.Name x p) "__init__" apos) [e1,e2] [] pos) X.env=(do
   let ov ← dn (.Name x p) X.env
   standAt apos.atName
   let (f,first) ← holding [ov] (getMethod ov "__init__" pl)
   callWith pos f first (gH pos (bB [e1,e2] X.env)) (backToKw pos (kH [] X.env))):=by rfl) :
  PE X (.Call (.Attribute (.Name x p) "__init__" apos) [e1,e2] [] pos) (λσ H Q=>t σ H λvs H1=>∃y a d,vs=[.ref y,a]∧H1 y=some (XN y C d)∧Q .non H1):=by
 intro aL s σ H Q I h;apply methodCall_KW (pl:=pl) (mV I hg hm ?_ hdb) ht;apply method_cls I.kIn U.ga (cls_value I.kIn U.rd U.at_ rfl ?_);have I0:Inv X aL σ H { s with toks:=s.toks+1 }:=I.tok _;apply PyProof.Rows.callWith_builtin1 (thn (ha pos aL _ σ H _ I0 h) λus s1 hz0=>?_) hst hpl;obtain⟨vs,H1,I1,r,y,a,d,ev,ey,q⟩:=hz0;subst ev;cases r with
 | cons r1 r =>
 cases r with
 | cons r2 r =>
 cases r;obtain rfl:_=af.ref y:=r1;exact init_up1 I1 ey M λs' I'=>⟨.non,H1,I',rfl,q⟩
end L2
namespace HN
open PySem L2 PyProof.Rows
def npF (r:Int):List (Str×V):=[("row",.int r)]
theorem npF_row {r:Int}:(npF r).lookup ("row" :Str)=some (V.int r):=by unfold npF;rfl
def XP (C:aq)(r:Int)(E:XK)(H:Hp):Prop:=∀D H',cg H H'→H' D=some (XD D (npF r))→E (.ref C) (some D) H'
inductive spInitNP (C:aq)(vs:List V)(H:Hp)(Q:VK)(_:XK):Prop
 | mk (x:aq)(a:Int)(_:vs=[.ref x,.int a])(_:H x=some (XN x C none))(_:∀D,H D=none→D≠x→Q .non (upd (upd H x (XN x C (some D))) D (XD D (npF a))))
structure NPc (K:ak)(mg:Str→Option af)(C P f:aq):Prop where
 mke:XMk K C P f
 up:UpCls K P
 cl:XCls K C
 na:jW K C "row"
 mgC:mg "NoPlan" =some (.ref C)
 mgP:mg "HourError" =some (.ref P)
theorem passX {E:XK}:mq CX0 X E:=λ_ _ _ _ _ _ _ h=>h.elim
end HN
namespace HN
open PySem L2 PyProof.Rows HT2
inductive spTakeN (CP CL:aq)(vs:List V)(H:Hp)(Q:VK)(_:XK):Prop
 | mk (H0:Hp)(p q DL LB:aq)(b:Int)(zs:List LX)(bt:List Sn)(pre:List PR)(r:PR)(_:vs=[.ref p,.ref q])(_:PlI CP CL H0 H p b zs bt DL LB)(_:zs.length≤90)(_:bt.length≤90)(_:r.at H q)(_:zs.map (·.1)=iq pre)(_:bt.length=bwP pre)(_:gJ b pre)(_:CntR pre)(_:pre.length≤100)(_:r.frm)(_:¬Std b pre r)(_:∀H',cg H0 H'→Q (.bl false) H')
theorem small_std (ok:gJ b (pre++[r]))(h:lM (iq (pre++[r])) bt=true)(hl:bt.length=bwP (pre++[r])):CntR (pre++[r]):=by
 unfold lM at h;rw[bW] at h;have h1:=rQ h.1;have h2:=rQ h.2;have lok:∀l∈iq (pre++[r]),l.ss.length=l.rs.length+1∧1≤l.rs.length:=λl hl=>by
  have m:l.core∈lsC (pre++[r]):=by rw[←eS];exact b8 hl
  obtain⟨_,_,_,a,_,c,_⟩:=ok.lnOk (x:=l.core) m;have a:2≤l.ss.length:=a;have c:l.ss.length=l.rs.length+1:=c;exact⟨c,⋯⟩
 rw[allS_len lok,hl,←ownL_core,eS,own_C] at h2;rw[←mj,eS] at h1;exact⟨h1,h2⟩
end HN
namespace HN
open PySem L2 PyProof.Rows
local macro_rules
 |`(tactic|and_intros)=>`(tactic|try dsimp only[cxK])
abbrev cNoPlan:cN:=top 4
abbrev sInitNP:cN:=clsDef cNoPlan 0
theorem scInitNP:cA pza pza (defScope sInitNP):=by trivial
theorem ok_initNP {U:aq}(F:Fun K "__init__" "NoPlan.__init__" sInitNP f fd)(T:NPc K mg C U f):‹0› 1 f fd pza (spInitNP C):=by
 specialize F.ok scInitNP;obtain ⟨x,a,rfl,hx,k⟩:=h;apply ⟨_,PSl.h (bh ⟨(hW (pe_upInit1 T.up T.mke rfl T.mgP (ah (pv 0) (ah (pv 1) aw))))⟩
  (fj ⟨(ps_xset T.mke T.cl T.na (pv 0) (pv 1))⟩)),?_⟩
 and_intros
 apply sq1 ?_
 intros
 apply⟨ρ,ρ,x,_,none,rfl,hx,?_⟩;apply⟨ρ,ρ,x,rfl,.inl ⟨hx,λD nD ne=>?_⟩⟩;exact k D nD ne
end HN
namespace HN
open PySem L2 PyProof.Rows HT2
local macro_rules
 |`(tactic|and_intros)=>`(tactic|try dsimp only[cxK])
inductive spTakeZ (CP:aq)(vs:List V)(H:Hp)(Q:VK)(_:XK):Prop
 | mk (p q:aq)(b:Int)(_:vs=[.ref p,.ref q])(_:H q=some (.tup [.str "beat",.int b]))(_:b<1)(_:Q (.bl false) H)
structure PlaN (P:aN)(w:bq)(K:ak)(mg:Str→Option af)(base:bP)(CP CL ft:aq)(dt:aY):Prop where
 fT:‹0› 6 ft dt pza (λvs H Q E=>(qp CP CL vs H Q E∨spTakeN CP CL vs H Q E)∨spTakeZ CP vs H Q E)
inductive spPlanByX (C CP CL:aq)(vs:List V)(H:Hp)(Q:VK)(E:XK):Prop
 | mk (L:aq)(xs:List V)(b:Int)(rs:List PR)(_:vs=[.ref L])(_:H L=some (.lst xs))(_:RsAt H xs (.beat b::rs))(_:rs.length≤69)(_:(∀r∈rs,r.frm))(_:(∀i H',cg H H'→Wrg b rs i→XP C i E H'))(_:∀p zs bt DL LB H',1≤b→UpTo b rs rs.length→lsC rs≠[]→Runs b [] [] (.beat b::rs) (iq rs) bt→zs.map (·.1)=iq rs→zs.length≤90→bt.length≤90→PlI CP CL H H' p b zs bt DL LB→Q (.ref p) H')
theorem ok_takeA {f3:aq}{d3:aY}(F:Fun K "take" "Plan.take" sTakeP f fd)(CC:PlaC K CP)(m1:rb K CP "take_line" f1)(F1:‹0› 5 f1 d1 pza (spTakeL CP CL))(b1:Binds K d1 pza [])
  (m2:rb K CP "take_between" f2) (F2:‹0› 5 f2 d2 pza (λvs H Q E=>spTakeB CP CL vs H Q E∨spTakeBN CP CL vs H Q E)) (b2:Binds K d2 pza []) (m3:rb K CP "take_stay" f3) (F3:‹0› 5 f3 d3 pza (λvs H Q E=>spTakeS CP CL vs H Q E∨spTakeSN CP CL vs H Q E)) (b3:Binds K d3 pza []):‹0› 6 f fd pza (λvs H Q E=>(qp CP CL vs H Q E∨spTakeN CP CL vs H Q E)∨spTakeZ CP vs H Q E):=by
 apply F.ok scTakeP (fun vs H Q E h=>by rcases h with (⟨H0,p,q,DL,LB,b,zs,bt,bt',ls',r,rfl,_⟩ | ⟨H0,p,q,DL,LB,b,zs,bt,pre,r,rfl,_⟩) | ⟨p,q,b,rfl,_⟩ <;> rfl) (fun cdv A outer s H vs Q E hr h=>?_);apply ⟨_,PSl.h (bh ⟨(eO (bK iM (ixZ (pv 1)) dU (cn _)) (bD (cb (iT op_ge (ixZ (pv 1)) aC (cn _)))) cv)⟩
  (bh ⟨(eO (bK iM (ixZ (pv 1)) dU (cn _)) (bD (cb (iD (pv 0) CC.cl m1 F1 hr b1 .nil ju (ah (pv 1) aw)))) cv)⟩
  (bh ⟨(eO (bK iM (ixZ (pv 1)) dU (cn _)) (bD (cb (iD (pv 0) CC.cl m3 F3 hr b3 .nil ju (ah (pv 1) aw)))) cv)⟩
  (fj ⟨(cb (iD (pv 0) CC.cl m2 F2 hr b2 .nil ju (ah (pv 1) aw)))⟩)))),?_⟩
 and_intros
 apply sq3 ?_
 intros
 rcases h with (h | h) | h
 ·obtain⟨H0,p,q,DL,LB,b,zs,bt,bt',ls',r,rfl,I,f1,f2,hq,tk,k⟩:=h
  obtain⟨dp,hp⟩:=I.pl;cases tk with
  | beat h =>
   have hq:H q=some (.tup [.str "beat",.int _]):=hq;apply⟨ρ,q,τ,zT hq,aH (j:=0) rfl,rfl,ρ,lO (rO rfl) ?_⟩;apply⟨ρ,q,τ,zT hq,aH (j:=1) rfl,ς,?_⟩;have e:=k zs H rfl ⋯ ⋯ I;show Q (.bl (decide ((1:Int)≤_))) H;rw[rO h];exact e
  | @line n ss rs hn nd two few rl sm =>
   obtain⟨a,b',h1,h2,h3⟩:=id hq;apply⟨ρ,q,τ,zT h3,aH (j:=0) rfl,rfl,ρ,iQ ⇑0 ?_⟩;apply⟨ρ,q,τ,zT h3,aH (j:=0) rfl,rfl,ρ,lO (rO rfl) ?_⟩;rw[b9] at hn;apply⟨ρ,p,dp,ρ,hp,rfl,ρ,H0,p,q,DL,LB,b,zs,bt,n,ss,rs,rfl,I,f1,f2,hq,two,few,rl,λno=>?_,λ_ _ x D H' I'=>?_⟩
   ·rcases no with no | no
    ·exact rM no hn
    ·exact rM nd no
   ·have e:=k (zs++[(⟨n,ss,rs,[],mE zs⟩,x,D)]) H' (by rw[av,og];rfl) (by rw[ao];exact aA _) ⋯ I'
    rw[ou,av];show Q (.bl (lM (zs.map (·.1)++[⟨n,ss,rs,[],mE zs⟩]) bt)) H';rw[og,sm];exact e
  | @btw k' ns is sn B h1 h2 h3 ok sm =>
   have hq':H q=some (.tup (.str k'::(ns.map V.str++is.map V.int))):=hq;apply⟨ρ,q,τ,zT hq',aH (j:=0) rfl,rfl,ρ,iQ (rP λz=>h1 (by injection z)) ?_⟩;apply⟨ρ,q,τ,zT hq',aH (j:=0) rfl,rfl,ρ,iQ (rP λz=>h2 (by injection z)) ?_⟩;apply⟨ρ,q,τ,zT hq',aH (j:=0) rfl,rfl,ρ,iQ (rP λz=>h3 (by injection z)) ?_⟩;apply⟨ρ,p,dp,ρ,hp,rfl,ρ,.inl ⟨H0,p,q,DL,LB,b,zs,bt,k',ns,is,sn,rfl,I,f1,f2,hq,B,λH' I'=>?_⟩⟩;have e:=k zs H' rfl ⋯ (by rw[ao];exact aA _) I';rw[ou,og,ok,sm];exact e
  | @stay x z l o w i hx hz few h1 h2 h3 ok =>
   have hq:H q=some (.tup [.str "stay",.str x.n,.str z,.int l,.int o,.int w]):=hq;obtain⟨y,hy,rfl⟩:=aK.mp hx;apply⟨ρ,q,τ,zT hq,aH (j:=0) rfl,rfl,ρ,iQ ⇑0 ?_⟩;apply⟨ρ,q,τ,zT hq,aH (j:=0) rfl,rfl,ρ,iQ ⇑0 ?_⟩;apply⟨ρ,q,τ,zT hq,aH (j:=0) rfl,rfl,ρ,lO (rO rfl) ?_⟩;apply⟨ρ,p,dp,ρ,hp,rfl,ρ,.inl ⟨H0,p,q,DL,LB,b,zs,bt,y,z,l,o,w,i,rfl,I,⟨⋯,⋯⟩,hq,hy,hz,few,h1,h2,h3,λH' I'=>?_⟩⟩;have e:=k (zs.map (stayX y.1.n z (l,o,w))) H' (by rw[b9,b9];rfl) (by rw[ae];lia) ⋯ I';rw[og,ok];exact e
 ·obtain⟨H0,p,q,DL,LB,b,zs,bt,pre,r,rfl,I,f1,f2,hq,ez,eb,ok,cnt,few,fm,no,k⟩:=h
  obtain⟨dp,hp⟩:=I.pl;have nms:zs.map (·.1.n)=(lsC pre).map (·.n):=by
   rw[←eS,←ez,b9,b9];rfl
  have hapE:mE zs=ib (iq pre):=by rw[og,ez]
  cases r with
  | beat b'=>exact rM fm id
  | line n ss rs =>
   obtain⟨a,b',h1,h2,h3⟩:=id hq;apply⟨ρ,q,τ,zT h3,aH (j:=0) rfl,rfl,ρ,iQ ⇑0 ?_⟩;apply⟨ρ,q,τ,zT h3,aH (j:=0) rfl,rfl,ρ,lO (rO rfl) ?_⟩;obtain⟨_,_,t1,t2,t3,_⟩:=id fm;apply⟨ρ,p,dp,ρ,hp,rfl,ρ,H0,p,q,DL,LB,b,zs,bt,n,ss,rs,rfl,I,f1,f2,hq,t1,⋯,t3,λ_ H' S'=>k H' (I.S.trans S'),λnn nd x D H' I'=>?_⟩;have ro:lB b pre (.line n ss rs):=⟨by rw[←nms];exact nn,frm_ln fm nd⟩;have e:small (zs++[(⟨n,ss,rs,[],mE zs⟩,x,D)]) bt=lM (iq (pre++[.line n ss rs])) bt:=by
    rw[ou,av,ez,kB];show lM (iq pre++[⟨n,ss,rs,[],mE zs⟩]) bt=lM (iq pre++[⟨n,ss,rs,[],ib (iq pre)⟩]) bt;rw[hapE]
   rw[e];cases c:lM (iq (pre++[.line n ss rs])) bt with
   | false=>exact k H' I'.S
   | true=>exact rM ⟨ro,small_std (ok.snoc ro) c (by rw[eb,oT];rfl)⟩ no
  | oth k' ns is =>
   obtain⟨fo,fn,fi⟩:=fm;have hq':H q=some (.tup (.str k'::(ns.map V.str++is.map V.int))):=hq
   rcases fo with ⟨rfl,n,z,l,o,w,rfl,rfl⟩ | fo
   ·have hq:H q=some (.tup [.str "stay",.str n,.str z,.int l,.int o,.int w]):=hq
    apply⟨ρ,q,τ,zT hq,aH (j:=0) rfl,rfl,ρ,iQ ⇑0 ?_⟩;apply⟨ρ,q,τ,zT hq,aH (j:=0) rfl,rfl,ρ,iQ ⇑0 ?_⟩;apply⟨ρ,q,τ,zT hq,aH (j:=0) rfl,rfl,ρ,lO (rO rfl) ?_⟩;have stl:∀x∈zs,x.1.st.length≤1000:=λx hx=>by
     have:=(st_told (rs:=pre) (x:=x.1) (by rw[←ez];exact b8 hx)).2;lia
    apply⟨ρ,p,dp,ρ,hp,rfl,ρ,?_⟩
    by_cases nsy:NoSty zs n z
    ·exact .inr ⟨H0,p,q,DL,LB,b,zs,bt,n,z,l,o,w,rfl,I,f1,f2,hq,stl,nsy,k⟩
    ·unfold NoSty at nsy
     simp only[Classical.not_forall] at nsy;obtain⟨x,hx,rfl,h⟩:=nsy;obtain⟨hz,h2⟩:=not_or.mp h;simp only[Classical.not_forall,Classical.not_not] at h2;obtain⟨i,i1,i2,i3⟩:=h2;apply .inl ⟨H0,p,q,DL,LB,b,zs,bt,x,z,l,o,w,i,rfl,I,⟨⋯,⋯⟩,hq,hx,hz,stl x hx,i1,i2,i3,λH' I'=>?_⟩;cases c:snB b (mE zs) ⟨x.1.fi+2 * i - 1,x.1.fi+2 * i,l,o,w⟩ with
     | false=>exact k H' I'.S
     | true =>
      have xm:x.1∈iq pre:=by rw[←ez];exact b8 hx
      have xc:x.1.core∈lsC pre:=by rw[←eS];exact b8 xm
      apply rM ⟨.inl ⟨rfl,x.1.core,z,l,o,w,i,xc,rfl,rfl,i1,i2,i3,λm=>hz (st_in ok xm m),snB_num c⟩,?_⟩ no;obtain⟨c1,c2⟩:=cnt;apply⟨by rw[gf];exact c1,?_⟩;rw[spnP_snoc];show _+(if ("stay" :Str) = "stay" then 0 else 1)≤40;rw[rL rfl];exact c2
   ·obtain⟨k1,k2,k3⟩:=oB fo
    apply⟨ρ,q,τ,zT hq',aH (j:=0) rfl,rfl,ρ,iQ (rP λz=>k1 (by injection z)) ?_⟩;apply⟨ρ,q,τ,zT hq',aH (j:=0) rfl,rfl,ρ,iQ (rP λz=>k2 (by injection z)) ?_⟩;apply⟨ρ,q,τ,zT hq',aH (j:=0) rfl,rfl,ρ,iQ (rP λz=>k3 (by injection z)) ?_⟩;apply⟨ρ,p,dp,ρ,hp,rfl,ρ,?_⟩
    by_cases bw:∃sn,Btw b (zs.map (·.1)) k' ns is sn
    ·obtain⟨sn,B⟩:=bw
     apply .inl ⟨H0,p,q,DL,LB,b,zs,bt,k',ns,is,sn,rfl,I,f1,f2,hq,B,λH' I'=>?_⟩;cases c:(snB b (mE zs) sn && small zs (bt++[sn])) with
     | false=>exact k H' I'.S
     | true =>
      rw[bW] at c;have ro:lB b pre (.oth k' ns is):=by
       obtain⟨x,y,hx,hy,ne,B'⟩:=B;rw[ez] at hx hy;apply .inr ⟨k3,sn,⟨x.core,y.core,?_,?_,ne,core_bt B'⟩,snB_num c.1,fi⟩
       ·rw[←eS];exact b8 hx
       ·rw[←eS];exact b8 hy
      have es:iq (pre++[.oth k' ns is])=iq pre:=by
       rw[kB];unfold oq;split
       ·next h=>cases h
       ·next h=>cases h;rw[rK k3]
       ·rfl
      have c2:lM (iq (pre++[.oth k' ns is])) (bt++[sn])=true:=by
       have:=c.2;rw[ou,ez] at this;rw[es];exact this
      apply rM ⟨ro,small_std (ok.snoc ro) c2 ?_⟩ no;rw[ao,eb,oT];show _+1=_+(if k' = "stay" then 0 else 1);rw[rK k3]
    ·exact .inr ⟨H0,p,q,DL,LB,b,zs,bt,k',ns,is,rfl,I,f1,f2,hq,fo,bw,k⟩
 ·obtain⟨p,q,b,rfl,hq,hb,k⟩:=h
  apply⟨ρ,q,τ,zT hq,aH (j:=0) rfl,rfl,ρ,lO (rO rfl) ?_⟩;apply⟨ρ,q,τ,zT hq,aH (j:=1) rfl,ς,?_⟩;show Q (.bl (decide ((1:Int)≤b))) H;rw[rP ⋯];exact k
theorem ok_planByX {fi ft fl U:aq}{di dt da dl d0:aY}(F:Fun K "plan_by" "plan_by" sPlanBy f fd)(T:Nm mg)(he:mg "enumerate" =none)(CC:PlaC K CP)(PT:PlaT P w K mg base CP CL fi ft fa fl di dt da dl)(PN:PlaN P w K mg base CP CL ft dt)
  (NP:NPc K mg C U f0) (FI:‹0› 1 f0 d0 pza (spInitNP C)) (BI:Binds K d0 pza []):cS P w K mg base (CXN P w) 7 f fd ["rows"] (spPlanByX C CP CL):=by
 apply F.okX qd (by contradiction) (fun cdv A outer s H vs Q E hr D h=>?_);obtain ⟨L,xs,b,rs,rfl,hL,R,few,fm,kE,kQ⟩:=h;have hr2:jI 2 _:=hr.mono ↥0;apply ⟨_,PSl.h (bh ⟨(psZ 1 qd.nd (pe_make (E:=E0) PT.mke PT.f0 (hr.mono ↥0) rfl PT.gl PT.b0 .nil passX (ah (ixZ (cE aW (pv 0) aC (fun _ _=>rfl))) aw)))⟩
  (bh ⟨(iC PassesOwn.leaving rfl (pi_enumL rfl he (ah (pv 0) aw)) (rB rfl (iK (pgZ 2 qd.nd) (iK (pgZ 3 qd.nd) pw))) (bD (eO (mI (kr (iD (E:=E0) (pv 1) CC.cl PT.mT PN.fT hr PT.bT .nil passX (ah (pv 3) aw)))) (bD (ps_raiseV D rfl NP.mke (pe_makeX (E:=E0) NP.mke FI hr2 rfl NP.mgC BI .nil passX ↥0 (ah (pv 2) aw)))) cv)))⟩
  (bh ⟨(eO (bK iM (bS call_lenD rfl T.len aS (ah (fG (pv 1) rfl) aw)) aC (cn _)) (bD (ps_raiseV D rfl NP.mke (pe_makeX (E:=E0) NP.mke FI hr2 rfl NP.mgC BI .nil passX ↥0 (ah aC aw)))) cv)⟩
  (fj ⟨(cb (pv 1))⟩)))),?_⟩
 and_intros
 apply sq3 ?_
 intros
 obtain⟨a0,h0,r0⟩:=R.get 0 (.beat b) rfl;have r0:H a0=some (.tup [.str "beat",.int b]):=r0;apply⟨ρ,L,τ,zL hL,aH (j:=0) h0,a0,τ,zT r0,aH (j:=1) rfl,?_⟩;intro x dx hx hdx dxx;apply⟨x,dx,b,rfl,aP,λDL LB H1 k1 hDL hLB dne h1 h2 h3=>⟨rfl,?_⟩⟩;have S1:cg H H1:=λc o e=>by
  apply k1 c o (aZ e hx) ?_;rw[bf (aZ e hx),bf (aZ e hdx)];exact e
 have nn:∀c,(upd (upd H dx (.own x)) x (.ins CP dx [])) c=none→H c=none:=λc h=>by
  cases e:H c with
  | none=>rfl
  | some o=>rw[bf (aZ e hx),bf (aZ e hdx),e] at h;cases h
 have I1:PlI CP CL H H1 x b [] [] DL LB:=⟨S1,⟨dx,h3⟩,nn _ hDL,nn _ hLB,(λz hz=>by cases hz),h1,(λz hz=>by cases hz),∅,∅,[],h2,.nil⟩;have lx:xs.length=rs.length+1:=R.len;apply⟨ρ,L,xs,rfl,S1 _ _ hL,?_⟩
 let pZ1:zV:=λi σ H2=>∃zs b1,PlI CP CL H H2 x b zs b1 DL LB∧zs.length≤i∧b1.length≤i∧Runs b [] [] ((PR.beat b::rs).take i) (iq (rs.take (i - 1))) b1∧zs.map (·.1)=iq (rs.take (i - 1))∧b1.length=bwP (rs.take (i - 1))∧(i=0∨1≤b)∧UpTo b rs (i - 1)∧∃v2 v3,σ=[some (.ref L),some (.ref x),v2,v3]
 apply for_enumL (a:=L) (xs:=xs) pZ1
  ⟨[],[],I1,aA _,aA _,.nil,rfl,rfl,.inl rfl,(λj r hj=>rM hj (jY _)),none,none,rfl⟩ (λi σ H2 _ q=>by obtain⟨zs,b1,I,_⟩:=q;exact I.S _ _ hL) (λi v p σ H2 hv q hp=>?_) (λσ H2 q=>?_)
 ·obtain⟨zs,b1,I,l1,l2,ru,ez,eb,b0,up,v2,v3,rfl⟩:=q
  have li:i<xs.length:=(aj.mp hv).1;obtain⟨r,hr'⟩:∃r,(PR.beat b::rs)[i]? =some r:=⟨_,gE (by rw[aG];lia)⟩;obtain⟨a,ha,ra⟩:=R.get i r hr';rw[hv] at ha;cases ha;have et:(PR.beat b::rs).take (i+1)=(PR.beat b::rs).take i++[r]:=by rw[aQ,hr'];rfl
  have S6:cg H2 (upd H2 p (.tup [.int (i:Nat),.ref a])):=cg.put (cg.refl H2) hp;have h6:(upd H2 p (.tup [.int (i:Nat),.ref a])) p=some (.tup [.int (i:Nat),.ref a]):=aP;generalize upd H2 p (.tup [.int (i:Nat),.ref a])=H6 at S6 h6 ⊢;have I6:=I.same S6;obtain⟨dp,hpp⟩:=I6.pl;apply⟨p,ρ,zT h6,rfl,_,ρ,ς,?_⟩;apply⟨ρ,x,dp,ρ,hpp,rfl,ρ,?_⟩;cases i with
  | zero =>
   cases hr'
   by_cases hb:1≤b
   ·apply .inl (.inl ⟨H,x,a,DL,LB,b,zs,b1,_,_,.beat b,rfl,I6,⋯,⋯,ra.kept I6.S,.beat hb,λzs' H7 ez' lz lb I7=>?_⟩)
    apply⟨ρ,iQ rfl ?_⟩;rw[ez] at ez';apply⟨zs',_,I7,⋯,⋯,?_,ez',eb,.inr hb,up,_,ρ⟩;cases ru;exact .cons (.beat hb) .nil
   ·have ra6:H6 a=some (.tup [.str "beat",.int b]):=ra.kept I6.S
    apply .inr ⟨x,a,b,rfl,ra6,⋯,?_⟩;apply⟨ρ,lO rfl ?_⟩;apply⟨ρ,λy ny far=>⟨y,ρ,aP,λd nd ne=>⟨rfl,y,some d,rfl,far,?_,?_⟩⟩⟩
    ·rw[bf (cM ne)];exact aP
    ·rw[upd_upd,qN ny ne]
     rw[bf ne] at nd;exact kE 0 H6 I6.S (.beat ⋯) d _ ((cg.refl H6).put nd) aP
  | succ i =>
   have hb:1≤b:=b0.resolve_left ⋯;have hr2:rs[i]? =some r:=hr';have hi:i<rs.length:=(aj.mp hr2).1;have rok:gJ b (rs.take i):=UpTo.rows up
   by_cases st:Std b (rs.take i) r
   ·obtain⟨bt1,tk,e1⟩:=tk_of hb rok st (by rw[aJ];lia) eb
    have et2:rs.take (i+1)=rs.take i++[r]:=by rw[aQ,hr2];rfl
    apply .inl (.inl ⟨H,x,a,DL,LB,b,zs,b1,_,_,r,rfl,I6,⋯,⋯,ra.kept I6.S,(by rw[ez];exact tk),λzs' H7 ez' lz lb I7=>?_⟩);apply⟨ρ,iQ rfl ?_⟩;apply⟨zs',_,I7,⋯,⋯,?_,?_,?_,.inr hb,λj q hj hq=>?_,_,ρ⟩
    ·rw[et]
     show Runs b [] [] _ (iq (rs.take (i+1))) _;rw[et2];exact ru.snoc tk
    ·show _=iq (rs.take (i+1))
     rw[et2];exact ez'
    ·show _=bwP (rs.take (i+1))
     rw[et2];exact e1
    ·have hj:j<i+1:=hj
     rcases iH.mp hj with hj | hj
     ·exact up j q hj hq
     ·subst hj
      rw[hr2] at hq;cases hq;exact st
   ·apply .inl (.inr ⟨H,x,a,DL,LB,b,zs,b1,rs.take i,r,rfl,I6,⋯,⋯,ra.kept I6.S,ez,eb,rok,UpTo.cnt up (by show i≤rs.length;lia),by rw[aJ];lia,fm r (aD hr2),st,λH7 S7=>?_⟩)
    apply⟨ρ,lO rfl ?_⟩;apply⟨ρ,λy ny far=>⟨y,ρ,aP,λd nd ne=>⟨rfl,y,some d,rfl,far,?_,?_⟩⟩⟩
    ·rw[bf (cM ne)];exact aP
    ·rw[upd_upd,qN ny ne]
     rw[bf ne] at nd;exact kE (i+1) H7 S7 (.row hb up hr2 st) d _ ((cg.refl H7).put nd) aP
 ·obtain⟨zs,b1,I,l1,l2,ru,ez,eb,b0,up,v2,v3,rfl⟩:=q
  rw[lx] at ru ez eb b0 up;have hb:1≤b:=b0.resolve_left ⋯;have e0:rs.take (rs.length+1 - 1)=rs:=bR ⋯;rw[e0] at ru ez eb;rw[bR (by rw[aG];lia)] at ru;have up:UpTo b rs rs.length:=up;obtain⟨dp,hpp⟩:=I.pl;have lk:(lg zs).length=zs.length:=ae _;have lz:zs.length=(lsC rs).length:=by rw[←eS,←ez,ae,ae]
  apply⟨ρ,x,CP,dp,_,ρ,hpp,CC.cl,CC.n2,rfl,DL,ρ,I.dl,rfl,ρ,jq (λc=>?_) (λc=>?_)⟩
  ·have c:(((lg zs).length:Nat):Int)=0:=by have:=rQ c;injection this
   have e:lsC rs=[]:=j4.mp ⋯;apply λy ny far=>⟨y,ρ,aP,λd nd ne=>⟨rfl,y,some d,rfl,far,?_,?_⟩⟩
   ·rw[bf (cM ne)];exact aP
   ·rw[upd_upd,qN ny ne]
    rw[bf ne] at nd;exact kE 0 H2 I.S (.none hb up e) d _ ((cg.refl H2).put nd) aP
  ·have ne:lsC rs≠[]:=λe=>c (rO (by rw[lk,lz,e];rfl))
   exact⟨ρ,kQ x zs b1 DL LB H2 hb up ne ru ez ⋯ ⋯ I⟩
def NetF (z:Str)(b:Int)(rs:List PR):Prop:=∃(z0:Str) (zr:List (Str×PR)),z.length≤100000∧c8 z nl_=z0::zr.map (·.1)∧rs.length≤69∧z0.length≤100000∧c8 z0 sp_=[("beat" :Str),lH b]∧W60 b ∧
 (∀q∈zr,q.1.length≤100000∧q.2.wds (c8 q.1 sp_))∧zr.map (·.2)=rs∧∀r∈rs,r.frm
inductive p8 (C:aq)(vs:List V)(H:Hp)(Q:VK)(E:XK):Prop
 | mk (z:Str)(b:Int)(rs:List PR)(_:vs=[.str z])(_:NetF z b rs)(_:(∀i H',cg H H'→Wrg b rs i→XP C i E H'))(_:∀bt v H',1≤b→UpTo b rs rs.length→lsC rs≠[]→Runs b [] [] (.beat b::rs) (iq rs) bt→cg H H'→IsD H' v (.tup [netP b (ib (iq rs)) (pW (iq rs) bt),.tup ((allLL (iq rs)).map λt=>.tup (t.map vD))])→Q v H')
theorem ok_netByX {fs fi ft fl:aq}{ds di dt da dl:aY}(F:Fun K "net_by" "net_by" sNetBy f fd)(T:Nm mg)(PK:PlaK P w K mg base CP CL fh fs dh ds)(PT:PlaT P w K mg base CP CL fi ft fa fl di dt da dl)(G1:Fn K mg "read_plan" sPlanR pzg f1 d1)(F1:‹0› 5 f1 d1 pzg spPlanR)
  (G2:Fn K mg "plan_by" sPlanBy ["rows"] f2 d2) (F2:cS P w K mg base (CXN P w) 7 f2 d2 ["rows"] (spPlanByX C CP CL)):cS P w K mg base (CXN P w) 8 f fd pzg (p8 C):=by
 apply F.okX scNetBy (by contradiction) (fun cdv A outer s H vs Q E hr D h=>?_);obtain ⟨z,b,rs,rfl,⟨z0,zr,hz,hs,hn,hz0,hs0,hb,hw,er,fm⟩,kE,k⟩:=h;have CC:=PK.cc;apply ⟨_,PSl.h (bh ⟨(psZ 1 scNetBy.nd (pe_call F2 hr rfl G2.mg G2.F.kp G2.b .nil D.pass (ah (pc1 G1 F1 (hr.mono ↥0) (ah (pv 0) aw)) aw)))⟩
  (bh ⟨(psZ 2 scNetBy.nd (fY (ah (fG (pv 1) rfl) (ah (iX (E:=E0) (pv 1) CC.cl PK.m1 PK.f1 (hr.mono ↥0) PK.b1 .nil passX) (ah (ff jV rfl T.ttup jL (ah (iX (E:=E0) (pv 1) CC.cl PT.mA PT.fA (hr.mono ↥0) PT.bA .nil passX) aw)) aw)))))⟩
  (fj ⟨(cb (fY (ah (pv 2) (ah (ff jV rfl T.ttup jL (ah (iX (E:=E0) (pv 1) CC.cl PT.mL PT.fL (hr.mono ↥0) PT.bL .nil passX) aw)) aw))))⟩))),?_⟩
 and_intros
 apply sq2 ?_
 intros
 apply⟨ρ,z,z0,b,zr,rfl,hz,hs,(by rw[←er,ae] at hn;lia),hz0,hs0,hb,hw,λp xs H1 S1 hL R=>?_⟩;rw[er] at R;apply⟨p,xs,b,rs,rfl,hL,R,hn,fm,λi H' S' wr=>kE i H' (S1.trans S') wr,λx zs bt DL LB H2 b1 up ne ru ez lz lb I2=>?_⟩;obtain⟨dp2,hp2⟩:=I2.pl;have fw:Few zs bt:=⟨⋯,⋯⟩;apply⟨ρ,x,CP,dp2,_,ρ,hp2,CC.cl,CC.n1,rfl,ρ,x,dp2,ρ,hp2,rfl,H1,x,DL,LB,b,zs,bt,rfl,I2,fw,λH3 S3=>?_⟩;have I3:=I2.same S3;obtain⟨dp3,hp3⟩:=I3.pl;apply⟨ρ,x,dp3,ρ,hp3,rfl,H1,x,DL,LB,b,zs,bt,rfl,I3,fw,λL ys H4 S4 _ hL4 d4=>?_⟩;apply⟨L,ys,rfl,zL hL4,λt H5 S5 e5=>?_⟩;apply⟨(by show 3≤ax;decide),λn H6 S6 e6=>?_⟩;have S36:=S4.trans (S5.trans S6);have I6:=I3.same S36;obtain⟨dp6,hp6⟩:=I6.pl;have dN:IsD H6 (.ref n) (netP b (ib (iq rs)) (pW (iq rs) bt)):=by
  rw[←ez,←og,←allSL_of];exact .tup e6 (.cons (.int _) (.cons (.int _) (.cons (.tup (S6 _ _ e5) (jc.same (S5.trans S6) d4)) .nil)))
 apply⟨ρ,ρ,x,dp6,ρ,hp6,rfl,H1,x,DL,LB,b,zs,bt,rfl,I6,fw,λL2 as H7 S7 _ hL7 d7=>?_⟩;apply⟨L2,as.map V.ref,rfl,zL hL7,λu H8 S8 e8=>?_⟩;apply⟨qW,λr H9 S9 e9=>?_⟩;have d9:as.map H9=(allL zs).map (λt=>some (HO.tup t)):=by
  rw[←d7];apply dm λc hc=>?_
  have hm:H7 c∈(allL zs).map (λt=>some (HO.tup t)):=by rw[←d7];exact b8 hc
  obtain⟨t,_,e⟩:=aK.mp hm;rw[←e];exact(S8.trans S9) _ _ e.symm
 apply k bt _ H9 b1 up ne ru (S1.trans (I2.S.trans (S3.trans (S36.trans (S7.trans (S8.trans S9)))))) (.tup e9 (.cons (IsD.same (S7.trans (S8.trans S9)) dN) (.cons (.tup (S9 _ _ e8) ?_) .nil)));rw[←ez,←allLL_of];apply labs_isD d9 λt ht=>?_
 unfold allL at ht;obtain⟨y,_,hy⟩:=List.mem_flatMap.mp ht;exact oM _ _ t hy
abbrev sTwW:cN:=top 47
inductive OthF:Str→List Str→List Int→Prop
 | change {n1 n2 z:Str} {l o w:Int}:OthF "change" [n1,n2,z] [l,o,w]
 | apart {n1 n2 z:Str} {d:Int}:OthF "apart" [n1,n2,z] [d]
 | meet {n1 n2 z z2:Str} {d:Int}:OthF "meet" [n1,n2,z,z2] [d]
theorem bt_form {x y:Ln}{k:Str}(B:Bt b x y k ns is sn):OthF k ns is:=by cases B <;> constructor
inductive spTwW (vs:List V)(H:Hp)(Q:VK)(_:XK):Prop
 | mk (R A:aq)(xs:List V)(prs:List PR)(b:Int)(k:Str)(ns:List Str)(is:List Int)(_:vs=[.ref R,.int b,.ref A])(_:H R=some (.lst xs))(_:jM H xs (prs.map PR.rowV))(_:(∀r∈prs,r.okE))(_:prs.length≤100)(_:H A=some (.lst (PR.oth k ns is).rowV))(_:OthF k ns is)(_:∀(t:aq) (s g:Option Int) (l o w:Int) (H':Hp),cg H H'→H' t=some (.tup [oV s,oV g,.int l,.int o,.int w])→TwoR b prs k ns is s g l o w→Q (.ref t) H')
theorem okI_E (h:r.okI):r.okE:=by
 cases r with
 | beat b=>exact rM h id
 | line n ss rs=>exact lnOk_E h
 | oth k ns is=>exact⟨h.1,λz=>by have:=h.2.1;rw[z] at this;simp at this⟩
structure TpI (H:Hp)(L:aq)(ts:List (List V)):Prop where
 ex:∃as:List aq,H L=some (.lst (as.map V.ref))∧as.map H=ts.map (λt=>some (HO.tup t))
theorem jO (h:as.map H=ts.map (λt=>some (HO.tup t)))(k:∀a t,H a=some (.tup t)→H' a=some (.tup t)):as.map H'=ts.map (λt=>some (HO.tup t)):=by
 rw[←h];apply dm λc hc=>?_
 have hm:H c∈ts.map (λt=>some (HO.tup t)):=by rw[←h];exact b8 hc
 obtain⟨t,_,e⟩:=aK.mp hm;rw[←e];exact k _ _ e.symm
theorem TpI.same (S:cg H H')(h:TpI H L ts):TpI H' L ts:=by
 obtain⟨as,h1,h2⟩:=h.ex;exact⟨as,S _ _ h1,jO h2 λa t e=>S _ _ e⟩
theorem TpI.other {L2:aq}{zs:List V}{ws:List V}(h:TpI H L ts)(ne:L≠L2)(h2:H L2=some (.lst ws)):TpI (upd H L2 (.lst zs)) L ts:=by
 obtain⟨as,h1,h3⟩:=h.ex;exact⟨as,by rw[bf ne];exact h1,jO h3 λa t e=>by rw[bf (dz e h2 nofun)];exact e⟩
theorem TpI.app {B:aq}{t:List V}(h:TpI H L ts)(hB:H B=some (.tup t))(few:ts.length≤1000):∃ws:List V,H L=some (.lst ws)∧ws.length<ax∧ws.length=ts.length∧TpI (upd H L (.lst (ws++[.ref B]))) L (ts++[t]):=by
 obtain⟨as,h1,h3⟩:=h.ex;have la:as.length=ts.length:=by have:=rR g9 h3;rwa [ae,ae] at this
 have big:(2000:Nat)≤ax:=by decide
 apply⟨as.map V.ref,h1,by rw[ae];lia,by rw[ae];exact la,as++[B],by rw[aP,av];rfl,?_⟩;have k:∀a t,H a=some (.tup t)→(upd H L (.lst (as.map V.ref++[.ref B]))) a=some (.tup t):=λa t e=>by rw[bf (dz e h1 nofun)];exact e
 rw[av,av,jO h3 k];show _++[_]=_++[_];rw[k _ _ hB]
theorem TpI.len (h:TpI H L ts):∃ws:List V,H L=some (.lst ws)∧ws.length=ts.length:=by
 obtain⟨as,h1,h3⟩:=h.ex;have la:as.length=ts.length:=by have:=rR g9 h3;rwa [ae,ae] at this
 exact⟨_,h1,by rw[ae];exact la⟩
def Styd (H:Hp)(kvs:List (List Key×V))(f:Str→Str→Int×Int×Int):Prop:=∀n z:Str,(∀v,l9 kvs [.inr n,.inr z]=some v→∃a,v= .ref a∧H a=some (.tup [.int (f n z).1,.int (f n z).2.1,.int (f n z).2.2]))∧(l9 kvs [.inr n,.inr z]=none→f n z=(0,0,0))
theorem Styd.keep {f:Str→Str→Int×Int×Int}(h:Styd H kvs f)(k:∀ a t,H a=some (.tup t)→H' a=some (.tup t)):Styd H' kvs f:=fun n z=>⟨fun v hv=>by
 obtain ⟨a,e1,e2⟩:=(h n z).1 v hv;exact ⟨a,e1,k _ _ e2⟩,(h n z).2⟩
theorem qE (n:Str):∀ss:List Str,(mK n ss).length=2 * (ss.length - 1)
 | []=>rfl
 | [_]=>rfl
 | s::u::r=>by
  show(mK n (u::r)).length+1+1=_;rw[qE n (u::r)];simp;lia
abbrev lT (x:Sn):List V:=x.row.map V.int
def labT (ls:List Ln):List (List V):=ls.flatMap λl=>mK l.n l.ss
def spnT (ls:List Ln):List (List V):=(ls.flatMap oz).map lT
inductive spNof (vs:List V)(H:Hp)(Q:VK)(_:XK):Prop
 | mk (R:aq)(xs:List V)(rows:List PR)(b:Int)(bt:List Sn)(_:vs=[.int b,.ref R])(_:H R=some (.lst xs))(_:jM H xs (rows.map PR.rowV))(_:PlanOk b rows)(_:Bts b (lsC rows) rows bt)(_:∀(v:V) (H':Hp),cg H H'→IsD H' v (.tup [netP b (ib (iq rows)) (pW (iq rows) bt),.tup ((allLL (iq rows)).map λt=>.tup (t.map vD))])→Q v H')
theorem scTwW:cA ["_law_rows","_law_beat","_law_row","_law_mine","_law_theirs","_law_ends_here"] pzo (defScope sTwW):=by trivial
theorem ok_twW {fE fR:aq}{dE dR:aY}(F:Fun K "_law_two" "_law_two" sTwW f fd)(GE:Fn K mg "_law_ends" sEndW pzl fE dE)(FE:‹0› 1 fE dE pzl spEndW)
  (GR:Fn K mg "_law_ride" sRidW pzm fR dR) (FR:‹0› 1 fR dR pzm spRidW):‹0› 2 f fd pzo spTwW:=by
 apply F.ok scTwW (by contradiction) (fun cdv A0 outer s H vs Q E hr h=>?_);obtain ⟨R,A,xs,prs,b,kk,ns,is,rfl,hR,rw_,ok,few,hA,fm,k⟩:=h;have hr1:jI 1 _:=hr;apply ⟨_,PSl.h (bh ⟨(eO (bK iM (cE aW (pv 2) aC (fun _ _=>rfl)) dU (cn _)) (bD (cb (fY (ah (cE aW (pc1 GE FE hr1 (ah (pv 0) (ah (cE aW (pv 2) aC (fun _ _=>rfl)) (ah (cE aW (pv 2) aC (fun _ _=>rfl)) aw)))) aC (fun _ _=>rfl)) (ah (cE aW (pc1 GE FE hr1 (ah (pv 0) (ah (cE aW (pv 2) aC (fun _ _=>rfl)) (ah (cE aW (pv 2) aC (fun _ _=>rfl)) aw)))) aC (fun _ _=>rfl)) (ah (cE aW (pv 2) aC (fun _ _=>rfl)) (ah (cE aW (pv 2) aC (fun _ _=>rfl)) (ah (cE aW (pv 2) aC (fun _ _=>rfl)) aw)))))))) cv)⟩
  (bh ⟨(eO (bK iM (cE aW (pv 2) aC (fun _ _=>rfl)) dU (cn _)) (bD (cb (fY (ah (cE aW (pc1 GE FE hr1 (ah (pv 0) (ah (cE aW (pv 2) aC (fun _ _=>rfl)) (ah (cE aW (pv 2) aC (fun _ _=>rfl)) aw)))) aC (fun _ _=>rfl)) (ah (cE aW (pc1 GE FE hr1 (ah (pv 0) (ah (cE aW (pv 2) aC (fun _ _=>rfl)) (ah (cE aW (pv 2) aC (fun _ _=>rfl)) aw)))) aC (fun _ _=>rfl)) (ah (cE aW (pv 2) aC (fun _ _=>rfl)) (ah (cw gL (pv 1) (cE aW (pv 2) aC (fun _ _=>rfl))) (ah aC aw)))))))) cv)⟩
  (bh ⟨(psZ 3 scTwW.nd (pc1 GR FR hr1 (ah (pv 0) (ah (cE aW (pv 2) aC (fun _ _=>rfl)) (ah (cE aW (pv 2) aC (fun _ _=>rfl)) (ah (cE aW (pv 2) aC (fun _ _=>rfl)) aw))))))⟩
  (bh ⟨(psZ 4 scTwW.nd (pc1 GR FR hr1 (ah (pv 0) (ah (cE aW (pv 2) aC (fun _ _=>rfl)) (ah (cE aW (pv 2) aC (fun _ _=>rfl)) (ah (cE aW (pv 2) aC (fun _ _=>rfl)) aw))))))⟩
  (bh ⟨(eO (PW.pt (ma (bK pQ (pv 3) ir (cn _)) (kq (bK pQ (pv 4) ir (cn _))))) (bD (cb (fY (ah ir (ah ir (ah aC (ah aC (ah aC aw)))))))) cv)⟩
  (bh ⟨(psZ 5 scTwW.nd (fY (ah (cE aW (pc1 GE FE hr1 (ah (pv 0) (ah (cE aW (pv 2) aC (fun _ _=>rfl)) (ah (cE aW (pv 2) aC (fun _ _=>rfl)) aw)))) aC (fun _ _=>rfl)) (ah (cE aW (pc1 GE FE hr1 (ah (pv 0) (ah (cE aW (pv 2) aC (fun _ _=>rfl)) (ah (cE aW (pv 2) aC (fun _ _=>rfl)) aw)))) aC (fun _ _=>rfl)) aw))))⟩
  (fj ⟨(cb (cw op_catA (pv 5) (fY (ah (cw dZ (pv 3) (cE aW (pv 2) aC (fun _ _=>rfl))) (ah (cw gL (cw gL (pv 1) (pv 4)) (cE aW (pv 2) aC (fun _ _=>rfl))) (ah aC aw))))))⟩))))))),?_⟩
 and_intros
 apply sq6 ?_
 intros
 cases fm with
 | @change n1 n2 z l o wt =>
  have hA:H A=some (.lst [.str "change",.str n1,.str n2,.str z,.int l,.int o,.int wt]):=hA;apply⟨ρ,A,τ,zL hA,aH (j:=0) rfl,rfl,ρ,lO (rO rfl) ?_⟩;apply⟨ρ,ρ,A,τ,zL hA,aH (j:=1) rfl,ρ,A,τ,zL hA,aH (j:=3) rfl,R,xs,prs,n1,z,rfl,hR,rw_,ok,few,λE1 c g H1 S1 e1 en1=>?_⟩;apply⟨E1,τ,zL e1,aH (j:=0) rfl,?_⟩;have hA:=S1 _ _ hA;apply⟨ρ,ρ,A,τ,zL hA,aH (j:=2) rfl,ρ,A,τ,zL hA,aH (j:=3) rfl,R,xs,prs,n2,z,rfl,S1 _ _ hR,rw_.same S1,ok,few,λE2 c2 g2 H2 S2 e2 en2=>?_⟩;apply⟨E2,τ,zL e2,aH (j:=1) rfl,?_⟩;have hA:=S2 _ _ hA;apply⟨ρ,A,τ,zL hA,aH (j:=4) rfl,ρ,A,τ,zL hA,aH (j:=5) rfl,ρ,A,τ,zL hA,aH (j:=6) rfl,szZ5,λt H3 S3 e3=>?_⟩;exact k t c g2 l o wt H3 (S1.trans (S2.trans S3)) e3 (.change en1 en2)
 | @apart n1 n2 z d =>
  have hA:H A=some (.lst [.str "apart",.str n1,.str n2,.str z,.int d]):=hA;apply⟨ρ,A,τ,zL hA,aH (j:=0) rfl,rfl,ρ,iQ ⇑0 ?_⟩;apply⟨ρ,A,τ,zL hA,aH (j:=0) rfl,rfl,ρ,lO (rO rfl) ?_⟩;apply⟨ρ,ρ,A,τ,zL hA,aH (j:=1) rfl,ρ,A,τ,zL hA,aH (j:=3) rfl,R,xs,prs,n1,z,rfl,hR,rw_,ok,few,λE1 c g H1 S1 e1 en1=>?_⟩;apply⟨E1,τ,zL e1,aH (j:=1) rfl,?_⟩;have hA:=S1 _ _ hA;apply⟨ρ,ρ,A,τ,zL hA,aH (j:=2) rfl,ρ,A,τ,zL hA,aH (j:=3) rfl,R,xs,prs,n2,z,rfl,S1 _ _ hR,rw_.same S1,ok,few,λE2 c2 g2 H2 S2 e2 en2=>?_⟩;apply⟨E2,τ,zL e2,aH (j:=1) rfl,?_⟩;have hA:=S2 _ _ hA;apply⟨ρ,A,τ,zL hA,aH (j:=4) rfl,ρ,ρ,A,τ,zL hA,aH (j:=4) rfl,ς,szZ5,λt H3 S3 e3=>?_⟩;exact k t g g2 d (b - d) 0 H3 (S1.trans (S2.trans S3)) e3 (.apart en1 en2)
 | @meet n1 n2 z z2 d =>
  have hA:H A=some (.lst [.str "meet",.str n1,.str n2,.str z,.str z2,.int d]):=hA;apply⟨ρ,A,τ,zL hA,aH (j:=0) rfl,rfl,ρ,iQ ⇑0 ?_⟩;apply⟨ρ,A,τ,zL hA,aH (j:=0) rfl,rfl,ρ,iQ ⇑0 ?_⟩;apply⟨ρ,ρ,A,τ,zL hA,aH (j:=1) rfl,ρ,A,τ,zL hA,aH (j:=3) rfl,ρ,A,τ,zL hA,aH (j:=4) rfl,R,xs,prs,n1,z,z2,rfl,hR,rw_,ok,few,λo1 H1 S1 rd1=>?_⟩;have hA:=S1 _ _ hA;apply⟨ρ,ρ,A,τ,zL hA,aH (j:=2) rfl,ρ,A,τ,zL hA,aH (j:=4) rfl,ρ,A,τ,zL hA,aH (j:=3) rfl,R,xs,prs,n2,z2,z,rfl,S1 _ _ hR,rw_.same S1,ok,few,λo2 H2 S2 rd2=>?_⟩;have S12:=S1.trans S2;have hA:=S2 _ _ hA;have no:o1=none∨o2=none→∀{t:aq} {H3:Hp},cg H2 H3→H3 t=some (.tup [.non,.non,.int 0,.int 0,.int 0])→Q (.ref t) H3:=λh t H3 S3 e=>k t none none 0 0 0 H3 (S12.trans S3) e (.meet0 rd1 rd2 h)
  cases o1 with
  | none =>
   apply⟨ρ,rfl,ρ,lO rfl ?_⟩;exact⟨szZ5,λt H3 S3 e=>no (.inl rfl) S3 e⟩
  | some r =>
   apply⟨ρ,rfl,ρ,iQ rfl ?_⟩;cases o2 with
   | none =>
    apply⟨ρ,rfl,ρ,lO rfl ?_⟩;exact⟨szZ5,λt H3 S3 e=>no (.inr rfl) S3 e⟩
   | some u =>
    apply⟨ρ,rfl,ρ,iQ rfl ?_⟩;apply⟨ρ,ρ,A,τ,zL hA,aH (j:=1) rfl,ρ,A,τ,zL hA,aH (j:=3) rfl,R,xs,prs,n1,z,rfl,S12 _ _ hR,rw_.same S12,ok,few,λE1 c g H3 S3 e3 en1=>?_⟩;apply⟨E1,τ,zL e3,aH (j:=1) rfl,?_⟩;have hA:=S3 _ _ hA;have S13:=S12.trans S3;apply⟨ρ,ρ,A,τ,zL hA,aH (j:=2) rfl,ρ,A,τ,zL hA,aH (j:=4) rfl,R,xs,prs,n2,z2,rfl,S13 _ _ hR,rw_.same S13,ok,few,λE2 c2 g2 H4 S4 e4 en2=>?_⟩;apply⟨E2,τ,zL e4,aH (j:=1) rfl,qW,λM H5 S5 e5=>?_⟩;have hA:=S5 _ _ (S4 _ _ hA);apply⟨ρ,ρ,ρ,A,τ,zL hA,aH (j:=5) rfl,ς,ρ,ρ,ς,ρ,A,τ,zL hA,aH (j:=5) rfl,ς,(by show 3≤ax;decide),λN H6 S6 e6=>?_⟩;apply⟨M,N,ς,S6 _ _ e5,e6,(by show 2+3≤ax;decide),λt H7 S7 e7=>?_⟩;exact k t g g2 (r+d) (b - u - d) 0 H7 (S13.trans (S4.trans (S5.trans (S6.trans S7)))) e7 (.meet rd1 rd2 en1 en2)
end HN
namespace L2
open PySem PySem.Spec PyProof.Rows
theorem call_setLS (hc:X.calm=true):jn X (.type "set") (λxs H Q=>∃(p:aq) (ns:List Str),xs=[.ref p]∧SqL X.K H p (ns.map V.str)∧ns.length≤1000∧∀a,H a=none→Q (.ref a) (upd H a (pV X.prog X.w a (lN (ph ns) ns.length)))):=by
 intro aL s σ H xs us Q I r h;obtain⟨p,ns,rfl,hq,hn,q⟩:=h;obtain⟨u,rfl,ru⟩:=mM r;cases(show u=af.ref p from ru);obtain⟨its,rv,pl,hz⟩:=I.list hq;have hl:its.length=ns.length:=by rw[←rv.length,ae]
 have hl2:its.toArray.size=ns.length:=by rw[aE,hl]
 apply set_seqS (val:=ph ns) (I.ok.hd hc) (.inr pl.isList) (λi v hv=>?_) (by rw[hl2];show ns.length+1<4096;lia) λh' tk hs hk=>?_
 ·have hv:its[i]? =some v:=by simpa using hv
  have hi:i<ns.length:=by rw[←hl];exact(aj.mp hv).1
  obtain⟨u,hu,ru⟩:=rv.get (i:=i) (x:=.str ns[i]) (by rw[ay,gE hi];rfl);rw[hv] at hu;cases hu;obtain⟨t,rfl⟩:=(show ∃t,v=af.str ns[i] t from ru);exact⟨_,t,rfl,by unfold ph;rw[br,gE hi];rfl⟩
 ·rw[hl2] at hs
  exact⟨.ref s.heap.objs.size,_,I.laid (t':=tk) (o:=pV X.prog X.w s.heap.objs.size (lN (ph ns) ns.length)) (λb u e=>hk b u (aV e) e) (aA _) ⟨hs,(let ⟨o,_,_,_,ho,_⟩:=hs;⟨o,ho⟩),λh1 h2 x k=>x.at k⟩,rfl,q _ I.fresh⟩
section
variable {a b c d:Expr}{tb tc:TE}
def tChainV3 (r r' r2:R2)(ta tb tc td:TE):TE:=λσ H Q=>ta σ H λx H1=>tb σ H1 λy H2=>r x y H2 λz H3=>∃k,z= .bl k ∧
 (if k=true then tc σ H3 λx2 H4=>r' y x2 H4 λz2 H5=>∃k2,z2= .bl k2∧(if k2=true then td σ H5 λx3 H6=>r2 x2 x3 H6 Q else Q (.bl false) H5) else Q (.bl false) H3)
theorem pe_chain3 {op' op2:CmpOp}{r r' r2:R2}(ho:OpR X (dA op) r)(ho':OpR X (dA op') r')(ho2:OpR X (dA op2) r2)(ha:PE X a ta)(hb:PE X b tb)(hc:PE X c tc)(hd:PE X d td)
  (hm:lastMarks [op,op',op2] [b,c,d]=false:=by with_unfolding_all rfl):PE X (.Compare a [op,op',op2] [b,c,d] pos) (tChainV3 r r' r2 ta tb tc td):=by
 intro aL s σ H Q I h;apply Compare_chain (thn (ha aL s σ H _ I h) fun v s1 ⟨x,H1,I1,r1,q1⟩=>chain_link (thn (hb aL s1 σ H1 _ I1 q1) fun u s2 ⟨y,H2,I2,r2,q2⟩ =>
  thn (ho aL s2 σ H2 x y v u _ I2 r1 r2 q2) fun d s3 ⟨z,H3,I3,r3,k,e,q3⟩=>?_)) hm
 subst e;cases r3;apply fq ?_;cases k with
 | false=>exact ite_ff ⟨.bl false,H3,I3,rfl,q3⟩
 | true =>
  apply ite_tt (chain_link (thn (hc aL s3 σ H3 _ I3 q3) λu2 s4 ⟨y2,H4,I4,r4,q4⟩=>thn (ho' aL s4 σ H4 y y2 u u2 _ I4 r2 r4 q4) λe2 s5 hz0=>?_));obtain⟨z2,H5,I5,r5,k2,ek2,q5⟩:=hz0;subst ek2;cases r5;apply fq ?_;cases k2 with
  | false=>exact ite_ff ⟨.bl false,H5,I5,rfl,q5⟩
  | true=>exact ite_tt (chain_last (thn (hd aL s5 σ H5 _ I5 q5) λw' s6 ⟨z',H6,I6,r6,q6⟩=>ho2 aL s6 σ H6 y2 z' u2 w' Q I6 r4 r6 q6))
end
end L2
namespace HN
open PySem L2 PyProof.Rows HT2
local macro_rules
 |`(tactic|and_intros)=>`(tactic|try dsimp only[cxK])
abbrev sSpr:cN:=top 55
abbrev sCnr:cN:=top 56
def numB (b l o w:Int):Bool:=decide (0≤l) && decide (l≤o) && decide (o<l+b) && decide (o<10 ^ 60) && decide (w≤10 ^ 12)
theorem nh {l o w:Int}(hw:0≤w):numB b l o w=true↔NumOk b l o w:=by
 unfold numB NumOk;simp only[bW,decide_eq_true_eq]
 constructor
 ·rintro⟨⟨⟨⟨h1,h2⟩,h3⟩,h4⟩,h5⟩
  exact⟨h1,h2,h3,h4,hw,⋯⟩
 ·rintro⟨h1,h2,h3,h4,h5,h6⟩
  exact⟨⟨⟨⟨h1,h2⟩,h3⟩,h4⟩,⋯⟩
inductive spSpr (vs:List V)(H:Hp)(Q:VK)(_:XK):Prop
 | mk (b l o w:Int)(t:aq)(_:vs=[.int b,.ref t])(_:H t=some (.tup [.int l,.int o,.int w]))(_:Q (.bl (numB b l o w)) H)
inductive spCnr (vs:List V)(H:Hp)(Q:VK)(_:XK):Prop
 | mk (R:aq)(xs:List V)(rows:List PR)(_:vs=[.ref R])(_:H R=some (.lst xs))(_:jM H xs (rows.map PR.rowV))(_:(∀r∈rows,r.frm))(_:rows.length≤100)(_:(CntR rows→Q (.bl true) H))(_:(¬CntR rows→Q (.bl false) H))
theorem frm_len {n:Str}{rs:List Int}(h:(PR.line n ss rs).frm):(PR.line n ss rs).rowV.length=2 * rs.length+3∧1≤rs.length:=by
 obtain⟨_,_,h3,_,h5,_⟩:=h;apply⟨?_,⋯⟩;show(iR ss rs).length+1+1=_;rw[jD h5];lia
theorem mX (h:r.frm):∃(a b c:Str) (t:List V),r.rowV= .str a:: .str b:: .str c::t∧(a = "stay" ↔∃n z is,r= .oth "stay" [n,z] is)∧(∀n z is,r= .oth "stay" [n,z] is→b=n∧c=z)∧(a = "line" ↔r.isL=true):=by
 cases r with
 | beat b=>exact rM h id
 | line n ss rs =>
  obtain⟨_,_,h3,_,h5,_⟩:=h
  match ss,rs,h3,h5 with
  | s::u::ss,r::rs,_,_ =>
   apply⟨"line",n,s,.int r::iR (u::ss) rs,rfl,⟨λe=>rM e ⇑0,λ⟨_,_,_,e⟩=>by cases e⟩,(λ_ _ _ e=>by cases e),⟨λ_=>rfl,λ_=>rfl⟩⟩
  | s::u::ss,[],_,h5=>simp at h5
 | oth k ns is =>
  obtain⟨h1,_,_⟩:=h
  rcases h1 with ⟨rfl,n,z,l,o,w,rfl,rfl⟩ | h1
  ·exact⟨"stay",n,z,[.int l,.int o,.int w],rfl,⟨λ_=>⟨_,_,ρ⟩,λ_=>rfl⟩,(λ_ _ _ e=>by cases e;exact⟨rfl,rfl⟩),⟨λe=>rM e ⇑0,(λe=>by cases e)⟩⟩
  ·obtain⟨_,k2,k3⟩:=oB h1
   have sh:∃(b c:Str) (t:List V),(PR.oth k ns is).rowV= .str k:: .str b:: .str c::t:=by cases h1 <;> exact⟨_,_,ρ⟩
   obtain⟨b,c,t,e⟩:=sh;exact⟨k,b,c,t,e,⟨λe=>rM e k3,λ⟨_,_,_,e⟩=>by cases e;exact rM rfl k3⟩,(λ_ _ _ e=>by cases e;exact rM rfl k3),⟨λe=>rM e k2,(λe=>by cases e)⟩⟩
theorem scSpr:cA ["_law_beat","_law_span","_law_least","_law_most","_law_weight"] pzF (defScope sSpr):=by trivial
theorem ok_spr (F:Fun K "_law_span_right" "_law_span_right" sSpr f fd):‹0› 1 f fd pzF spSpr:=by
 specialize F.ok scSpr;obtain ⟨b,l,o,w,t,rfl,ht,k⟩:=h;apply ⟨_,PSl.h (bh ⟨(ps_asg (pv 1) (rB rfl (iK (pgZ 2 scSpr.nd) (iK (pgZ 3 scSpr.nd) (iK (pgZ 4 scSpr.nd) pw)))))⟩
  (fj ⟨(cb (mQ (pe_chain3 q0 q0 pA aC (pv 2) (pv 3) (cw dZ (pv 2) (pv 0))) (mQ (iT pA (pv 3) (cw mR aC aC) (cn _)) (nP (iT q0 (pv 4) (cw mR aC aC) (cn _))))))⟩)),?_⟩
 and_intros
 apply sq1 ?_
 intros
 apply⟨ρ,t,ρ,zT ht,rfl,_,ρ,_,ρ,ς,?_⟩;unfold numB at k;apply⟨ρ,ς,ρ,jq (λc1=>?_) (λc1=>?_)⟩
 rotate_left
 ·apply⟨ρ,iQ rfl ?_⟩
  have:decide (0≤l)=false:=by
   cases h:decide (0≤l) with
   | false=>rfl
   | true=>exact rM h c1
  rw[this] at k;exact k
 have c1:decide (0≤l)=true:=c1;rw[c1] at k;apply⟨ρ,ς,ρ,jq (λc2=>?_) (λc2=>?_)⟩
 rotate_left
 ·apply⟨ρ,iQ rfl ?_⟩
  have:decide (l≤o)=false:=by
   cases h:decide (l≤o) with
   | false=>rfl
   | true=>exact rM h c2
  rw[this] at k;exact k
 have c2:decide (l≤o)=true:=c2;rw[c2] at k;apply⟨ρ,ρ,ς,ς,ρ,jq (λc3=>?_) (λc3=>?_)⟩
 rotate_left
 ·have:decide (o<l+b)=false:=by
   cases h:decide (o<l+b) with
   | false=>rfl
   | true=>exact rM h c3
  rw[this] at k;exact k
 have c3:decide (o<l+b)=true:=c3;rw[c3] at k;apply⟨ρ,ς,⟨↥0,↥0,↥0⟩,ς,ρ,jq (λc4=>?_) (λc4=>?_)⟩
 rotate_left
 ·have:decide (o<10 ^ 60)=false:=by
   cases h:decide (o<10 ^ 60) with
   | false=>rfl
   | true=>exact rM h c4
  rw[this] at k;exact k
 have c4:decide (o<10 ^ 60)=true:=c4;rw[c4] at k;apply⟨ρ,ς,⟨↥0,↥0,↥0⟩,ς,?_⟩;exact k
theorem scCnr:cA ["_law_rows","_law_happenings","_law_spans","_law_row"] ["_law_rows"] (defScope sCnr):=by trivial
theorem ok_cnr (F:Fun K "_law_counts_right" "_law_counts_right" sCnr f fd)(T:Nm mg):‹0› 1 f fd ["_law_rows"] spCnr:=by
 specialize F.ok scCnr;obtain ⟨R,xs,rows,rfl,hR,rw_,fm,few,kT,kF⟩:=h;apply ⟨_,PSl.h (bh ⟨(psZ 1 scCnr.nd aC)⟩
  (bh ⟨(psZ 2 scCnr.nd aC)⟩
  (bh ⟨(iC bX rfl (gK (pv 0)) (pgZ 3 scCnr.nd) (bD (eO (bK iM (cE aW (pv 3) aC (fun _ _=>rfl)) dU (cn _)) (PSl.h (bh ⟨(psZ 1 scCnr.nd (cw gL (cw dZ (pv 1) (bS bO rfl T.len aS (ah (pv 3) aw))) aC))⟩
  (fj ⟨(psZ 2 scCnr.nd (cw gL (cw dZ (pv 2) (bS bO rfl T.len aS (ah (pv 3) aw))) aC))⟩))) (bD (eO (bK pz (cE aW (pv 3) aC (fun _ _=>rfl)) dU (cn _)) (bD (psZ 2 scCnr.nd (cw dZ (pv 2) aC))) cv)))))⟩
  (fj ⟨(cb (mQ (iT q0 (pv 1) aC (cn _)) (nP (iT q0 (pv 2) aC (cn _)))))⟩)))),?_⟩
 and_intros
 apply sq3 ?_
 intros
 have lxs:xs.length=rows.length:=by rw[rw_.len,ae]
 apply⟨ρ,R,rfl,⟨_,zL hR⟩,?_⟩;apply jT (K:=K) (a:=R) (xs:=xs) (λi σ HA=>HA=H∧∃v3,σ=[some (.ref R),some (.int (ib (lsC (rows.take i)))),some (.int (lZ (rows.take i):Nat)),v3]) ⟨rfl,none,rfl⟩ (λi σ HA _ q=>by obtain⟨rfl,_⟩:=q;exact zL hR) ?_ ?_
 ·rintro i x σ HA hx ⟨rfl,v3,rfl⟩
  have hi:i<rows.length:=by rw[←lxs];exact(aj.mp hx).1
  have hp:=gE hi;have et:rows.take (i+1)=rows.take i++[rows[i]]:=by rw[aQ,hp];rfl
  have fr:=fm _ (cu hi);obtain⟨a,hxa,hra⟩:=rw_.get i rows[i].rowV (by rw[ay,hp];rfl);rw[hx] at hxa;cases hxa;rw[et,gf,spnP_snoc];generalize rows[i]=r at fr hra ⊢;cases r with
  | beat b=>exact rM fr id
  | line n ss rs =>
   obtain⟨lrow,l1⟩:=frm_len fr;have hra:HA a=some (.lst (.str "line" :: .str n::iR ss rs)):=hra;have lrow:(V.str "line" :: .str n::iR ss rs).length=2 * rs.length+3:=lrow;apply⟨ρ,a,τ,zL hra,aH (j:=0) rfl,rfl,ρ,lO (rO rfl) ?_⟩;apply⟨ρ,ρ,a,ρ,.inl (zL hra),ς,ς,?_⟩;apply⟨ρ,ρ,a,ρ,.inl (zL hra),ς,ς,rfl,some (.ref a),?_⟩;show[_,some (V.int (ib (lsC (rows.take i))+(((V.str "line" :: .str n::iR ss rs).length:Nat):Int) - 3)),some (V.int ((lZ (rows.take i):Int)+(((V.str "line" :: .str n::iR ss rs).length:Nat):Int) - 4)),_]=_;rw[lrow,show oZ (lsC (rows.take i)) (.line n ss rs)=lsC (rows.take i)++[⟨n,ss,rs,[],ib (lsC (rows.take i))⟩] from rfl,lp];have e1:ib (lsC (rows.take i))+((2 * rs.length+3:Nat):Int) - 3=ib (lsC (rows.take i))+2 * (rs.length:Int):=by lia
   have e2:(lZ (rows.take i):Int)+((2 * rs.length+3:Nat):Int) - 4=((lZ (rows.take i)+(PR.line n ss rs).spn:Nat):Int):=by
    show _=((lZ (rows.take i)+(2 * rs.length - 1):Nat):Int);lia
   rw[e1,e2]
  | oth k ns is =>
   have hra:HA a=some (.lst (.str k::(ns.map V.str++is.map V.int))):=hra;have kl:k ≠ "line":=by
    rcases fr.1 with ⟨rfl,_⟩ | h
    ·decide +kernel
    ·exact(oB h).2.1
   apply⟨ρ,a,τ,zL hra,aH (j:=0) rfl,rfl,ρ,iQ (rP λz=>kl (by injection z)) ?_⟩;apply⟨ρ,a,τ,zL hra,aH (j:=0) rfl,rfl,ρ,?_⟩
   by_cases c:k = "stay"
   ·apply iQ (by rw[rO (by rw[c])];rfl) ⟨rfl,some (.ref a),?_⟩
    show _=[_,_,some (V.int ((lZ (rows.take i)+(if k = "stay" then 0 else 1):Nat):Int)),_];rw[rL c];rfl
   ·apply lO (by rw[rP λz=>c (by injection z)];rfl) ?_
    apply⟨ρ,ς,rfl,some (.ref a),?_⟩;show _=[_,_,some (V.int ((lZ (rows.take i)+(if k = "stay" then 0 else 1):Nat):Int)),_];rw[rK c];rfl
 ·rintro σ HA ⟨rfl,v3,rfl⟩
  rw[lxs,bG];apply⟨ρ,ς,ρ,jq (λc1=>?_) (λc1=>?_)⟩
  ·have c1:ib (lsC rows)≤16:=rQ c1
   apply⟨ρ,ς,?_⟩
   by_cases c2:lZ rows≤40
   ·show Q (.bl (decide ((lZ rows:Int)≤40))) HA
    rw[rO ⋯];exact kT ⟨c1,c2⟩
   ·show Q (.bl (decide ((lZ rows:Int)≤40))) HA
    rw[rP ⋯];exact kF λz=>c2 z.2
  ·exact kF λz=>c1 (rO z.1)
abbrev sRgr:cN:=top 57
abbrev sFwr:cN:=top 58
def pE (rows:List PR):List PR:=rows.filter PR.isL
theorem mU (rows:List PR):lsC (pE rows)=lsC rows:=by
 induction rows using qY with
 | h0=>rfl
 | h1 rs r ih =>
  unfold pE at *;rw[l6,gf];cases h:r.isL with
  | true=>rw[show[r].filter PR.isL=[r] by simp[h],gf,ih]
  | false=>rw[show[r].filter PR.isL=[] by simp[h],bY,ih,stepC_no h]
def PR.nm:PR→Str
 | .line n _ _=>n
 | _ => ""
theorem lin_nms (rows:List PR):(pE rows).map PR.nm=(lsC rows).map (·.n):=by
 induction rows using qY with
 | h0=>rfl
 | h1 rs r ih =>
  unfold pE at *;rw[l6,gf,av,ih];cases r with
  | beat b=>show _++[]=_;rw[bY];rfl
  | oth k ns is=>show _++[]=_;rw[bY];rfl
  | line n ss rs'=>show _++[n]=(lsC rs++[_]).map _;rw[av];rfl
theorem othGF {k:Str}(h:OthG k ns is):OthF k ns is:=by cases h <;> constructor
theorem metK_iff (ss:List Str):((lN (ph ss) ss.length).length=ss.length)↔ss.Nodup:=by
 constructor
 ·intro h
  apply gC.mpr λi j hi hj hij e=>?_
  have:ph ss i=ph ss j:=by
   unfold ph;rw[br,br,gE hi,gE hj,e]
  have:=metK_lt (val:=ph ss) hij this (n:=ss.length) hj;lia
 ·intro nd
  apply metK_nd λi j hij hj e=>?_
  unfold ph at e;rw[br,br,gE (show i<ss.length by lia),gE hj] at e;injection e with e
  exact rM e (gC.mp nd i j ⋯ hj hij)
theorem TwoR.bw {k:Str}{s g l o w:Int}(R:TwoR b (pE pre) k ns is (some s) (some g) l o w)(h1:ns[0]? =some n1)(h2:ns[1]? =some n2)(ne:n1≠n2)(wi:∀i∈is,W60 i)(nu:numB b l o w=true):BwOk b pre k ns is:=by
 have p:∀{c:Prop} [Decidable c] {i j:Int},some j=oI c i→c∧j=i:=λ{c _ i j} h=>by
  unfold oI at h;split at h
  ·next q=>exact⟨q,bF h⟩
  ·cases h
 generalize hs:some s=s' at R;generalize hg:some g=g' at R;cases R with
 | change e1 e2 =>
  cases h1;cases h2
  rcases e1 with ⟨x,hx,i,x1,x2,x3,x4⟩ | ⟨_,q,_⟩
  ·rcases e2 with ⟨y,hy,j,y1,y2,y3,y4⟩ | ⟨_,_,q⟩
   ·obtain⟨a1,a2⟩:=p (hs.trans x3)
    obtain⟨a3,a4⟩:=p (hg.trans y4);rw[mU] at hx hy;have w0:=(wi w ∅).1;subst x1 y1;exact⟨_,⟨x,y,hx,hy,ne,.change (l:=l) (o:=o) (w:=w) x2 a1 y2 a3⟩,(nh w0).mp nu,wi⟩
   ·rw[q] at hg;cases hg
  ·rw[q] at hs;cases hs
 | apart e1 e2 =>
  cases h1;cases h2
  rcases e1 with ⟨x,hx,i,x1,x2,x3,x4⟩ | ⟨_,_,q⟩
  ·rcases e2 with ⟨y,hy,j,y1,y2,y3,y4⟩ | ⟨_,_,q⟩
   ·obtain⟨a1,a2⟩:=p (hs.trans x4)
    obtain⟨a3,a4⟩:=p (hg.trans y4);rw[mU] at hx hy;subst x1 y1;exact⟨_,⟨x,y,hx,hy,ne,.apart x2 a1 y2 a3⟩,(nh (j6 0)).mp nu,wi⟩
   ·rw[q] at hg;cases hg
  ·rw[q] at hs;cases hs
 | meet r1 r2 e1 e2 =>
  cases h1;cases h2
  rcases r1 with ⟨x,hx,i,r,x1,x2,x3,x4,x5⟩ | ⟨_,q⟩
  ·rcases r2 with ⟨y,hy,j,u,y1,y2,y3,y4,y5⟩ | ⟨_,q⟩
   ·cases x5;cases y5
    rw[mU] at hx hy;subst x1 y1;exact⟨_,⟨x,y,hx,hy,ne,.meet x2 x3 x4 y2 y3 y4⟩,(nh (j6 0)).mp nu,wi⟩
   ·cases q
  ·cases q
 | meet0 r1 r2 no=>cases hs
theorem jM.take {rows:List (List V)}(h:jM H xs rows):jM H (xs.take n) (rows.take n):=
 ⟨by rw[aJ,aJ,h.len],fun i r hr=>by
  have hi:i<n:=by
   by_cases c:i<n
   ·exact c
   ·rw[eX (by rw[aJ];lia)] at hr;cases hr
  rw[cF hi] at hr;obtain ⟨a,h1,h2⟩:=h.get i r hr;exact ⟨a,by rw[cF hi];exact h1,h2⟩⟩
inductive spRgr (vs:List V)(H:Hp)(Q:VK)(_:XK):Prop
 | mk (b:Int)(R:aq)(xs:List V)(rows:List PR)(m:Nat)(r:PR)(_:vs=[.int b,.ref R,.int (m:Nat)])(_:H R=some (.lst xs))(_:jM H xs (rows.map PR.rowV))(_:(∀r∈rows,r.frm))(_:rows.length≤100)(_:UpTo b rows m)(_:rows[m]? =some r)(_:(lB b (rows.take m) r→∀H',cg H H'→Q (.bl true) H'))(_:(¬lB b (rows.take m) r→∀H',cg H H'→Q (.bl false) H'))
def DueR (b:Int)(rows:List PR)(d:Int):Prop:=(∃i:Nat,Wrg b rows i∧d=i)∨(1≤b∧UpTo b rows rows.length∧lsC rows≠[]∧d= -1)
inductive spFwr (vs:List V)(H:Hp)(Q:VK)(_:XK):Prop
 | mk (b:Int)(R:aq)(xs:List V)(rows:List PR)(_:vs=[.int b,.ref R])(_:H R=some (.lst xs))(_:jM H xs (rows.map PR.rowV))(_:(∀r∈rows,r.frm))(_:rows.length≤100)(_:∀d H',cg H H'→DueR b rows d→Q (.int d) H')
theorem scRgr:cA ["_law_beat","_law_rows","_law_at","_law_row","_law_ahead","_law_stops","_law_span"] pzv (defScope sRgr):=by trivial
theorem ok_rgr {fE fS:aq}{dE dS:aY}(F:Fun K "_law_right_row" "_law_right_row" sRgr f fd)(T:Nm mg)(tset:mg "set" =none)(GE:Fn K mg "_law_ends" sEndW pzl fE dE)(FE:‹0› 1 fE dE pzl spEndW)
  (GT:Fn K mg "_law_two" sTwW pzo fT dT) (FT:‹0› 2 fT dT pzo spTwW) (GS:Fn K mg "_law_span_right" sSpr pzF fS dS):‹0› 3 f fd pzv spRgr:=by
 have FS:‹0› 1 fS dS pzF spSpr:=ok_spr GS.F;specialize F.ok scRgr;obtain ⟨b,R,xs,rows,m,r,rfl,hR,rw_,fm,few,up,hrm,kT,kF⟩:=h;have hr1:jI 1 _:=hr.mono ↥0;have hr2:jI 2 _:=hr;apply ⟨_,PSl.h (bh ⟨(psZ 3 scRgr.nd (cE aW (pv 1) (pv 2) (fun _ _=>rfl)))⟩
  (bh ⟨(pq (iy:=4) (fr:=[]) (js:=[]) scRgr.nd rfl (.inl rfl) rfl (gK (cV gc (pv 1) eR (dJ (pv 2)))) ⇑0 rfl ⇑0 rfl (by exists sRgr) ⇑0 rfl ⇑0 (fun _ _ _ _ _=>⟨(pv 0),(nV (bK iM (cE (r:=rIxL K) aW (pv 0) aC (fun _ _=>rfl)) dU (cn _)))⟩))⟩
  (bh ⟨(eO (bK iM (cE aW (pv 3) aC (fun _ _=>rfl)) dU (cn _)) (PSl.h (bh ⟨(psZ 5 scRgr.nd (qw (a:=2) (pv 3)))⟩
  (fj ⟨(cb (mQ (iT pO (cE aW (pv 3) aC (fun _ _=>rfl)) (jP (fr:=[]) (js:=[]) rfl (gK (pv 4)) ⇑0 rfl ⇑0 rfl (by exists sRgr) ⇑0 rfl ⇑0 (fun _ _ _ _ _=>⟨(cE (r:=rIxL K) aW (pv 0) aC (fun _ _=>rfl)),j7⟩)) rfl) (nP (iT iM (bS call_lenK rfl T.len aS (ah (ff (call_setLS rfl) rfl tset boot_set (ah (pv 5) aw)) aw)) (bS bO rfl T.len aS (ah (pv 5) aw)) (cn _)))))⟩))) cv)⟩
  (bh ⟨(eO (bK iM (cE aW (pv 3) aC (fun _ _=>rfl)) dU (cn _)) (PSl.h (bh ⟨(eO (PW.pt (ma (bK k8 ir (pc1 GE FE hr1 (ah (pv 4) (ah (cE aW (pv 3) aC (fun _ _=>rfl)) (ah (cE aW (pv 3) aC (fun _ _=>rfl)) aw)))) rfl) (kq (bK (op_neL0 hr.units0) (jP (fr:=["_law_row"]) (js:=[3]) rfl (gK (cV gc (pv 1) eR (dJ (pv 2)))) ⇑0 rfl ⇑0 rfl (by exists sRgr) ⇑0 rfl ⇑0 (fun _ _ _ _ _=>⟨(pv 0),(nV (bK (op_eqLS hr.units) (cV (p9 K) (pv 0) eR (dJ aC)) (cV (p9 K) (pv 1) eR (dJ aC)) (cn _)))⟩)) (gM aw) (cn _))))) (bD (cb qy)) cv)⟩
  (fj ⟨(cb (pc1 GS FS hr1 (ah (pv 0) (ah (ff jV rfl T.ttup jL (ah (cV gc (pv 3) (dJ aC) eR) aw)) aw))))⟩))) cv)⟩
  (bh ⟨(psZ 6 scRgr.nd (pc1 GT FT hr2 (ah (pv 4) (ah (pv 0) (ah (pv 3) aw)))))⟩
  (bh ⟨(eO (PW.pt (ma (bK iM (cE aW (pv 3) aC (fun _ _=>rfl)) (cE aW (pv 3) aC (fun _ _=>rfl)) (cn _)) (kq (bK k8 ir (cV sl_tupN (pv 6) eR (dJ aC)) rfl)))) (bD (cb qy)) cv)⟩
  (fj ⟨(cb (pc1 GS FS hr1 (ah (pv 0) (ah (cV sl_tupN (pv 6) (dJ aC) eR) aw))))⟩))))))),?_⟩
 and_intros
 apply sq6 ?_
 intros
 have big:(100000:Nat)≤ax:=by decide
 have lxs:xs.length=rows.length:=by rw[rw_.len,ae]
 have hm:m<rows.length:=(aj.mp hrm).1;have rok:=up.rows;have fr:=fm r (aD hrm);obtain⟨a,hxa,hra⟩:=rw_.get m r.rowV (by rw[ay,hrm];rfl);apply⟨ρ,ρ,R,τ,zL hR,aH hxa,?_⟩;apply⟨ρ,ρ,ρ,R,ρ,zL hR,λS0 H1 S1 e1=>?_⟩;rw[cutU (i:=(m:Int)) (n:=m) rfl] at e1;apply⟨S0,rfl,⟨_,zL e1⟩,?_⟩;have ltk:(xs.take m).length=m:=by rw[aJ];lia
 apply ic (K:=K) (a:=S0) (xs:=xs.take m) (λi zs HA=>HA=H1∧jM H1 zs ((pE (rows.take i)).map PR.rowV)∧zs.length≤i) ⟨rfl,⟨rfl,λi r h=>by cases h⟩,aA _⟩ (λi zs HA _ q=>?_) ⋯ (λi x zs HA hx q=>?_) (λzs HA q D hD=>?_)
 ·obtain⟨rfl,_,h⟩:=q
  exact⟨zL e1,h⟩
 ·obtain⟨rfl,rz,lz⟩:=q
  have hi:i<m:=by have:=(aj.mp hx).1;lia
  have hi2:i<rows.length:=by lia
  rw[cF hi] at hx;have hp:=gE hi2;have et:rows.take (i+1)=rows.take i++[rows[i]]:=by rw[aQ,hp];rfl
  obtain⟨c,hxc,hrc⟩:=rw_.get i rows[i].rowV (by rw[ay,hp];rfl);rw[hx] at hxc;cases hxc;have hrc:=S1 _ _ hrc;obtain⟨w1,w2,w3,t,e3,_,_,isl⟩:=mX (fm _ (cu hi2));have hrc3:HA c=some (.lst (.str w1:: .str w2:: .str w3::t)):=by rw[hrc,e3]
  have el:pE (rows.take (i+1))=pE (rows.take i)++(if rows[i].isL then [rows[i]] else []):=by
   rw[et];unfold pE;rw[l6];congr 1;cases h:rows[i].isL <;> simp[h]
  apply⟨ρ,c,τ,zL hrc3,aH (j:=0) rfl,rfl,ρ,?_⟩
  by_cases q:w1 = "line"
  ·apply lO (rO (by rw[q])) ⟨_,rfl,rfl,?_,by rw[ao];show _+1≤_;lia⟩
   rw[el,rL (isl.mp q),av];exact rz.snoc (λ_ _ _ e=>e) hrc
  ·apply iQ (rP λz=>q (by injection z)) ⟨rfl,?_,⋯⟩
   rw[el,rK λz=>q (isl.mpr z),bY];exact rz
 obtain⟨rfl,rz,lz⟩:=q;rw[ltk] at rz lz;have S2:cg HA (upd HA D (.lst zs)):=(cg.refl HA).put hD;have h2:(upd HA D (.lst zs)) D=some (.lst zs):=aP;generalize upd HA D (.lst zs)=H2 at S2 h2 ⊢;have S02:=S1.trans S2;have hra2:=S02 _ _ hra;have rz2:=rz.same S2;have hlin:∀q∈pE (rows.take m),q.lnOk:=λq hq=>by
  have hq2:=List.mem_filter.mp hq;obtain⟨i,hi⟩:=cP hq2.1;have o:=rok i q hi;cases q with
  | line n ss rs=>exact o.2
  | beat b=>cases hq2.2
  | oth k ns is=>cases hq2.2
 have okE:∀q∈pE (rows.take m),q.okE:=λq hq=>lnOk_E (hlin q hq)
 have fewl:(pE (rows.take m)).length≤100:=by
  have:(pE (rows.take m)).length≤(rows.take m).length:=List.length_filter_le _ _;rw[aJ] at this;lia
 have ndl:((lsC (pE (rows.take m))).map (·.n)).Nodup:=by rw[mU];exact rok.nd
 have nsl:∀x∈lsC (pE (rows.take m)),x.ss.Nodup:=λx hx=>by rw[mU] at hx;exact(rok.lnOk hx).2.2.1
 have kT2:lB b (rows.take m) r→∀H',cg H2 H'→Q (.bl true) H':=λo H' S=>kT o H' (S02.trans S)
 have kF2:¬lB b (rows.take m) r→∀H',cg H2 H'→Q (.bl false) H':=λo H' S=>kF o H' (S02.trans S)
 have rwR:jM H2 xs (rows.map PR.rowV):=rw_.same S02;have hR2:=S02 _ _ hR;obtain⟨w1,w2,w3,t,e3,isS,isN,isL⟩:=mX fr;have hra3:H2 a=some (.lst (.str w1:: .str w2:: .str w3::t)):=by rw[hra2,e3]
 apply⟨ρ,a,τ,zL hra3,aH (j:=0) rfl,rfl,ρ,jq (λc1=>?_) (λc1=>?_)⟩
 ·have c1:w1 = "line":=by have:=rQ c1;injection this
  have c1:=isL.mp c1;cases r with
  | beat b=>cases c1
  | oth k ns is=>cases c1
  | line n ss rs =>
   have hra4:H2 a=some (.lst (.str "line" :: .str n::iR ss rs)):=hra2;have o6:ss.length=rs.length+1:=fr.2.2.2.2.1;have s5:ss.length≤5:=fr.2.2.2.1;apply⟨ρ,a,ρ,zL hra4,(by simp only[aG];lia),λSt H3 S3 e4=>?_⟩;have e4:H3 St=some (.lst (ss.map V.str)):=by rw[e4];show some (HO.lst (evs (iR ss rs)))=_;rw[oN o6]
   apply⟨ρ,a,τ,zL (S3 _ _ hra4),aH (j:=1) rfl,ρ,D,rfl,⟨_,zL (S3 _ _ h2)⟩,?_⟩;have lzl:zs.length=(pE (rows.take m)).length:=by rw[rz2.len,ae]
   apply ic (K:=K) (a:=D) (xs:=zs) (λi ws HA=>HA=H3∧ws=(((pE (rows.take m)).take i).map PR.nm).map V.str) ⟨rfl,rfl⟩ (λi ws HA hi q=>?_) ⋯ (λi x ws HA hx q=>?_) (λws HA q N hN=>?_)
   ·obtain⟨rfl,g⟩:=q
    exact⟨zL (S3 _ _ h2),by rw[g,ae,ae,aJ];lia⟩
   ·obtain⟨rfl,g⟩:=q
    have hi:i<(pE (rows.take m)).length:=by rw[←lzl];exact(aj.mp hx).1
    have hp:=gE hi;obtain⟨c,hxc,hrc⟩:=rz2.get i (pE (rows.take m))[i].rowV (by rw[ay,hp];rfl);rw[hx] at hxc;cases hxc;have hrc:=S3 _ _ hrc;have ok1:=hlin _ (cu hi);apply jj ?_;rw[aQ,hp,av,av,g];generalize (pE (rows.take m))[i]=q at hrc ok1;cases q with
    | beat b=>exact rM ok1 id
    | oth k ns is=>exact rM ok1 id
    | line n' ss' rs' =>
     have hrc:HA c=some (.lst (.str "line" :: .str n'::iR ss' rs')):=hrc;exact⟨ρ,c,τ,zL hrc,aH (j:=1) rfl,rfl,rfl⟩
   obtain⟨rfl,g⟩:=q;rw[lzl,bG,lin_nms] at g;have S4:cg HA (upd HA N (.lst ws)):=(cg.refl HA).put hN;have h4:(upd HA N (.lst ws)) N=some (.lst (((lsC (rows.take m)).map (·.n)).map V.str)):=by rw[aP,g]
   generalize upd HA N (.lst ws)=H4 at S4 h4 ⊢;apply⟨N,ρ,.inl (zL h4),rfl,flat_str _,ρ,?_⟩;show if (!inV (.str n) (((lsC (rows.take m)).map (·.n)).map V.str))=true then _ else _;rw[qH];apply jq (λc2=>?_) (λc2=>?_)
   ·have c2:n ∉ (lsC (rows.take m)).map (·.n):=λz=>by rw[rO z] at c2;cases c2
    apply⟨ρ,St,ss,rfl,zL (S4 _ _ e4),⋯,λsa hsa=>?_⟩;have S5:cg H4 (upd H4 sa (pV P w sa (lN (ph ss) ss.length))):=(cg.refl H4).put hsa;apply⟨sa,ρ,aP,ρ,St,ρ,.inl (zL (S5 _ _ (S4 _ _ e4))),rfl,?_⟩
    by_cases nd:ss.Nodup
    ·show Q (.bl (decide (V.int ((lN (ph ss) ss.length).length:Nat)=V.int ((ss.map V.str).length:Nat)))) _
     rw[rO (by rw[(metK_iff ss).mpr nd,ae])];exact kT2 ⟨c2,frm_ln fr nd⟩ _ (S3.trans (S4.trans S5))
    ·show Q (.bl (decide (V.int ((lN (ph ss) ss.length).length:Nat)=V.int ((ss.map V.str).length:Nat)))) _
     rw[rP λz=>nd ((metK_iff ss).mp (by injection z with z;rw[ae] at z;lia))];exact kF2 (λo=>nd o.2.2.2.1) _ (S3.trans (S4.trans S5))
   ·apply kF2 (λo=>c2 ?_) H4 (S3.trans S4)
    rw[rP o.1];rfl
 apply⟨ρ,a,τ,zL hra3,aH (j:=0) rfl,rfl,ρ,jq (λc2=>?_) (λc2=>?_)⟩
 ·have c2:w1 = "stay":=by have:=rQ c2;injection this
  obtain⟨n,z,is,rfl⟩:=isS.mp c2;obtain⟨rfl,rfl⟩:=isN n z is rfl;obtain⟨l,o,wt,rfl⟩:∃l o wt,is=[l,o,wt]:=by
   rcases fr.1 with ⟨_,_,_,l,o,wt,e,rfl⟩ | h
   ·exact⟨l,o,wt,rfl⟩
   ·exact rM rfl (oB h).2.2
  have hra4:H2 a=some (.lst [.str "stay",.str w2,.str w3,.int l,.int o,.int wt]):=hra2;apply⟨ρ,ρ,a,τ,zL hra4,aH (j:=1) rfl,ρ,a,τ,zL hra4,aH (j:=2) rfl,D,zs,pE (rows.take m),w2,w3,rfl,h2,rz2,okE,fewl,λE1 c g H3 S3 e4 en=>?_⟩;apply⟨E1,ρ,.inl (zL e4),rfl,(by show(mY (oV c) && (mY (oV g) && true))=true;rw[pI,pI];rfl),ρ,jq (λc3=>?_) (λc3=>?_)⟩
  ·have c3:inV .non [oV c,oV g]=true:=c3
   rw[qI] at c3;apply kF2 (λro=>?_) H3 S3
   rcases ro with ⟨_,x,z',l',o',w',i,hx,en2,_,i1,i2,i3,_⟩ | ⟨h,_⟩
   ·injection en2 with q1 en2
    injection en2 with q2 _
    obtain⟨g1,g2⟩:=en.of ndl nsl (x:=x) (i:=i) (by rw[mU];exact hx) q1.symm (by rw[q2];exact i1);unfold oI at g1 g2;rw[rL ⋯] at g1;rw[rL i3] at g2;rw[g1,g2] at c3;cases c3
   ·exact h rfl
  ·have c3:¬(c.isNone || g.isNone)=true:=λq=>c3 (by show inV .non [oV c,oV g]=true;rw[qI];exact q)
   apply⟨ρ,ρ,ρ,R,ρ,zL (S3 _ _ hR2),λS5 H4 S4 e5=>?_⟩;rw[cutU (i:=(m:Int)) (n:=m) rfl] at e5;apply⟨S5,rfl,⟨_,zL e5⟩,?_⟩;have S24:=S3.trans S4;apply ic (K:=K) (a:=S5) (xs:=xs.take m) (λi ws HA=>cg H4 HA∧ws.length≤i∧(ws=[]→(w2,w3) ∉ stz (rows.take i))∧(ws≠[]→(w2,w3)∈stz (rows.take i))) ⟨cg.refl _,aA _,(λ_ h=>by cases h),(λh=>rM rfl h)⟩ (λi ws HA _ q=>⟨zL (q.1 _ _ e5),q.2.1⟩) ⋯ (λi x ws HA hx q=>?_) (λws HA q N hN=>?_)
   ·obtain⟨SA,lw,q1,q2⟩:=q
    have hi:i<m:=by have:=(aj.mp hx).1;lia
    have hi2:i<rows.length:=by lia
    rw[cF hi] at hx;have hp:=gE hi2;have et:rows.take (i+1)=rows.take i++[rows[i]]:=by rw[aQ,hp];rfl
    obtain⟨c',hxc,hrc⟩:=rwR.get i rows[i].rowV (by rw[ay,hp];rfl);rw[hx] at hxc;cases hxc;have hrc:=(S24.trans SA) _ _ hrc;obtain⟨v1,v2,v3,t',e3',isS',isN',_⟩:=mX (fm _ (cu hi2));have hrc3:HA c'=some (.lst (.str v1:: .str v2:: .str v3::t')):=by rw[hrc,e3']
    have ez:stz (rows.take (i+1))=stz (rows.take i)++(rows[i].sty2).toList:=by
     rw[et];unfold stz;rw[eZ];cases h:rows[i].sty2 <;> simp[kj,h]
    rw[ez];have mem:(w2,w3)∈(rows[i].sty2).toList↔([v1,v2,v3]:List Str)=[("stay" :Str),w2,w3]:=by
     constructor
     ·intro h
      generalize rows[i]=q at h isS' isN';have h:q.sty2=some (w2,w3):=by
       cases e:q.sty2 with
       | none=>rw[e] at h;cases h
       | some p=>rw[e] at h;rw[aB.mp h]
      unfold PR.sty2 at h;split at h
      ·next k n' z' is' =>
       split at h
       ·next hk =>
        cases h;subst hk;obtain⟨rfl,rfl⟩:=isN' _ _ _ rfl;rw[isS'.mpr ⟨_,_,_,rfl⟩]
       ·cases h
      ·cases h
     ·intro h
      injection h with h1 h
      injection h with h2 h
      injection h with h3 _
      obtain⟨n',z',is',e⟩:=isS'.mp h1;obtain⟨u1,u2⟩:=isN' _ _ _ e;rw[e,show(PR.oth "stay" [n',z'] is').sty2=some (n',z') from by unfold PR.sty2;exact rL rfl,←u1,←u2,h2,h3];exact aB.mpr rfl
    apply⟨ρ,ρ,c',ρ,zL hrc3,λC1 HB SB eB=>?_⟩;rw[cutU (i:=3) (n:=3) rfl] at eB;apply⟨ρ,ρ,a,ρ,zL ((S24.trans (SA.trans SB)) _ _ hra4),λC2 HC SC eC=>?_⟩;rw[cutU (i:=3) (n:=3) rfl] at eC;apply⟨C1,C2,[v1,v2,v3],[("stay" :Str),w2,w3],rfl,rfl,SC _ _ eB,eC,rfl,ρ,jq (λc4=>?_) (λc4=>?_)⟩
    ·have c4:=rQ c4
     exact⟨ρ,SA.trans (SB.trans SC),by rw[ao];show _+1≤_;lia,(λh=>by simp at h),λ_=>bz _ (mem.mpr c4)⟩
    ·have c4:¬([v1,v2,v3]:List Str)=[("stay" :Str),w2,w3]:=λz=>c4 (rO z)
     apply⟨SA.trans (SB.trans SC),⋯,λh=>?_,λh=>cq _ (q2 h)⟩;intro hh
     rcases aX.mp hh with hh | hh
     ·exact q1 h hh
     ·exact c4 (mem.mp hh)
   obtain⟨SA,lw,q1,q2⟩:=q;rw[ltk] at q1 q2;have S6:cg HA (upd HA N (.lst ws)):=(cg.refl HA).put hN;have h6:(upd HA N (.lst ws)) N=some (.lst ws):=aP;generalize upd HA N (.lst ws)=H6 at S6 h6 ⊢;apply⟨(by show 0≤ax;decide),λEm H7 S7 e7=>?_⟩;have S27:=S24.trans (SA.trans (S6.trans S7));apply⟨N,Em,ws,rfl,rfl,zL (S7 _ _ h6),zL e7,ρ,?_⟩;cases ws with
   | cons v ws =>
    apply lO rfl ?_;apply kF2 (λro=>?_) H7 S27
    rcases ro with ⟨_,x,z',l',o',w',i,hx,en2,_,i1,i2,i3,i4,_⟩ | ⟨h,_⟩
    ·injection en2 with q3 en2
     injection en2 with q4 _
     rw[←q3,←q4] at i4;exact i4 (q2 ∅)
    ·exact h rfl
   | nil =>
    apply iQ rfl ?_;have nst:=q1 rfl;apply⟨ρ,ρ,ρ,a,ρ,zL (S27 _ _ hra4),λC3 H8 S8 e8=>?_⟩;rw[cutF (i:=3) (n:=3) rfl] at e8;apply⟨C3,ρ,zL e8,λtp H9 S9 e9=>?_⟩;apply⟨b,l,o,wt,tp,rfl,e9,?_⟩;have w0:0≤wt:=(fr.2.2 wt ∅).1;have S29:=S27.trans (S8.trans S9);cases nu:numB b l o wt with
    | false =>
     apply kF2 (λro=>?_) H9 S29
     rcases ro with ⟨_,x,z',l',o',w',i,hx,en2,el,i1,i2,i3,i4,num⟩ | ⟨h,_⟩
     ·cases el
      rw[(nh w0).mpr num] at nu;cases nu
     ·exact h rfl
    | true =>
     apply kT2 (.inl ⟨rfl,?_⟩) H9 S29;obtain⟨c5,c6⟩:c.isNone=false∧g.isNone=false:=by
      cases hf:c.isNone <;> cases hg:g.isNone <;> rw[hf,hg] at c3 <;> first | exact⟨rfl,rfl⟩ | exact rM rfl c3
     rcases en with ⟨x,hx,i,x1,x2,x3,x4⟩ | ⟨_,q,_⟩
     ·rw[mU] at hx
      have i1:=oI_some (c:=0<i) (by rw[←x3];exact c5);have i2:=oI_some (c:=i+1<x.ss.length) (by rw[←x4];exact c6);exact⟨x,w3,l,o,wt,i,hx,by rw[x1],rfl,x2,i1,i2,by rw[x1];exact nst,(nh w0).mp nu⟩
     ·rw[q] at c5;cases c5
 ·have nl:w1 ≠ "line":=λz=>c1 (rO (by rw[z]))
  have ns':w1 ≠ "stay":=λz=>c2 (rO (by rw[z]))
  cases r with
  | beat b=>exact rM fr id
  | line n ss rs=>exact rM (isL.mpr rfl) nl
  | oth k ns is =>
   obtain⟨fo,fn,fi⟩:=fr;have fg:OthG k ns is:=by
    rcases fo with ⟨rfl,n,z,l,o,wt,rfl,rfl⟩ | h
    ·exact rM (isS.mpr ⟨_,_,_,rfl⟩) ns'
    ·exact h
   obtain⟨n1,n2,g1,g2,ew⟩:∃n1 n2,ns[0]? =some n1∧ns[1]? =some n2∧w2=n1∧w3=n2:=by
    cases fg <;> (injection e3 with _ e3;injection e3 with q1 e3;injection e3 with q2 _;injection q1 with q1;injection q2 with q2;exact⟨ς,q1.symm,q2.symm⟩)
   obtain⟨rfl,rfl⟩:=ew;have k3:=(oB fg).2.2;apply⟨ρ,ρ,ρ,D,a,zs,pE (rows.take m),b,k,ns,is,rfl,h2,rz2,okE,fewl,hra2,othGF fg,λtp s' g' l o wt H3 S3 e4 tw=>?_⟩;have noB:∀sn,Btw b (lsC (rows.take m)) k ns is sn→s'=some sn.s∧g'=some sn.g∧l=sn.l∧o=sn.o∧wt=sn.w:=λsn B=>tw.of ndl nsl (by rw[mU];exact B)
   have hra5:=S3 _ _ hra3;apply⟨ρ,a,τ,zL hra5,aH (j:=1) rfl,ρ,a,τ,zL hra5,aH (j:=2) rfl,rfl,ρ,jq (λc3=>?_) (λc3=>?_)⟩
   ·have c3:w2=w3:=by have:=rQ c3;injection this
    apply kF2 (λro=>?_) H3 S3
    rcases ro with ⟨h,_⟩ | ⟨_,sn,⟨x,y,_,_,ne,B⟩,_⟩
    ·exact k3 h
    ·have e:ns[0]? =some x.n∧ns[1]? =some y.n:=by cases B <;> exact⟨rfl,rfl⟩
     rw[g1,g2] at e;exact ne (by rw[←bF e.1,←bF e.2];exact c3)
   ·have c3:w2≠w3:=λz=>c3 (rO (by rw[z]))
    apply⟨ρ,ρ,tp,ρ,e4,λC4 H4 S4 e5=>?_⟩;rw[cutU (i:=2) (n:=2) rfl] at e5;have e5:H4 C4=some (.tup [oV s',oV g']):=e5;apply⟨C4,ρ,.inr (zT e5),rfl,(by show(mY (oV s') && (mY (oV g') && true))=true;rw[pI,pI];rfl),ρ,jq (λc4=>?_) (λc4=>?_)⟩
    ·have c4:inV .non [oV s',oV g']=true:=c4
     rw[qI] at c4;apply kF2 (λro=>?_) H4 (S3.trans S4)
     rcases ro with ⟨h,_⟩ | ⟨_,sn,B,_⟩
     ·exact k3 h
     ·obtain⟨q1,q2,_⟩:=noB sn B
      rw[q1,q2] at c4;cases c4
    ·have c4:¬(s'.isNone || g'.isNone)=true:=λq=>c4 (by show inV .non [oV s',oV g']=true;rw[qI];exact q)
     apply⟨ρ,ρ,ρ,tp,ρ,S4 _ _ e4,λC5 H5 S5 e6=>?_⟩;rw[cutF (i:=2) (n:=2) rfl] at e6;apply⟨b,l,o,wt,C5,rfl,e6,?_⟩;have S25:=S3.trans (S4.trans S5);cases nu:numB b l o wt with
     | false =>
      apply kF2 (λro=>?_) H5 S25
      rcases ro with ⟨h,_⟩ | ⟨_,sn,B,num,_⟩
      ·exact k3 h
      ·obtain⟨_,_,q3,q4,q5⟩:=noB sn B
       rw[←q3,←q4,←q5] at num;rw[(nh num.2.2.2.2.1).mpr num] at nu;cases nu
     | true =>
      apply kT2 (.inr ⟨k3,?_⟩) H5 S25;cases s' with
      | none=>exact rM rfl c4
      | some s' =>
       cases g' with
       | none=>exact rM rfl c4
       | some g'=>exact tw.bw g1 g2 c3 fi nu
theorem scFwr:cA pzv pzf (defScope sFwr):=by trivial
theorem ok_fwr {fR fC:aq}{dR dC:aY}(F:Fun K "_law_first_wrong" "_law_first_wrong" sFwr f fd)(T:Nm mg)(T2:Nt mg)(GR:Fn K mg "_law_right_row" sRgr pzv fR dR)(FR:‹0› 3 fR dR pzv spRgr)
  (GC:Fn K mg "_law_counts_right" sCnr ["_law_rows"] fC dC):‹0› 4 f fd pzf spFwr:=by
 have FC:‹0› 1 fC dC ["_law_rows"] spCnr:=ok_cnr GC.F T;specialize F.ok scFwr;obtain ⟨b,R,xs,rows,rfl,hR,rw_,fm,few,k⟩:=h;have hr1:jI 1 _:=hr.mono ↥0;have hr3:jI 3 _:=hr;apply ⟨_,PSl.h (bh ⟨(eO (bK pA (pv 0) aC (cn _)) (bD (cb aC)) cv)⟩
  (bh ⟨(iC bX rfl (ku rfl T2.range (ah (bS bO rfl T.len aS (ah (pv 1) aw)) aw)) (pgZ 2 scFwr.nd) (bD (eO (PW.pt (ma (mI (kr (pc1 GR FR hr3 (ah (pv 0) (ah (pv 1) (ah (pv 2) aw)))))) (kq (mI (kr (pc1 GC FC hr1 (ah (cV gc (pv 1) eR (dJ (cw dZ (pv 2) aC))) aw))))))) (bD (cb (cw dZ (pv 2) aC))) cv)))⟩
  (bh ⟨(eO (bK (op_eqL0 hr.units0) (jP (fr:=[]) (js:=[]) rfl (gK (pv 1)) ⇑0 rfl ⇑0 rfl (by exists sFwr) ⇑0 rfl ⇑0 (fun _ _ _ _ _=>⟨(pv 0),(nV (bK iM (cE (r:=rIxL K) aW (pv 0) aC (fun _ _=>rfl)) dU (cn _)))⟩)) (gM aw) (cn _)) (bD (cb aC)) cv)⟩
  (fj ⟨(cb (pe_un qk aC))⟩)))),?_⟩
 and_intros
 apply sq3 ?_
 intros
 have big:(100000:Nat)≤ax:=by decide
 have lxs:xs.length=rows.length:=by rw[rw_.len,ae]
 apply⟨ρ,ς,ρ,jq (λc1=>?_) (λc1=>?_)⟩
 ·have c1:b<1:=rQ c1
  exact k 0 H (cg.refl _) (.inl ⟨0,.beat c1,rfl⟩)
 have hb:1≤b:=by
  have:¬b<1:=λz=>c1 (rO z)
  lia
 apply⟨ρ,R,ρ,.inl (zL hR),rows.length,by rw[lxs],⋯,⋯,?_⟩
 let pZ1:zV:=λi σ HA=>cg H HA∧UpTo b rows i∧∃v2,σ=[some (.int b),some (.ref R),v2]
 apply mm (n:=rows.length) pZ1 ⟨cg.refl _,(λi r h=>rM h (jY _)),none,rfl⟩ ?_ ?_
 ·rintro i σ HA hi ⟨SA,up,v2,rfl⟩
  have hp:=gE hi;have et:rows.take (i+1)=rows.take i++[rows[i]]:=by rw[aQ,hp];rfl
  have hRA:=SA _ _ hR;have rwA:=rw_.same SA;have up1:Std b (rows.take i) rows[i]→UpTo b rows (i+1):=λst j r hj hr=>by
   by_cases c:j=i
   ·subst c
    rw[hp] at hr;cases hr;exact st
   ·exact up j r ⋯ hr
  have bad:∀HB,cg HA HB→¬Std b (rows.take i) rows[i]→Q (.int ((i:Nat)+1)) HB:=λHB SB no=>k _ HB (SA.trans SB) (.inl ⟨i+1,.row hb up hp no,⋯⟩)
  rw[Int.zero_add];apply⟨ρ,ρ,ρ,b,R,xs,rows,i,rows[i],rfl,hRA,rwA,fm,few,up,hp,λo H1 S1=>?_,λo H1 S1=>?_⟩
  ·apply⟨ρ,iQ rfl ?_⟩
   apply⟨ρ,ρ,ς,ρ,R,ρ,zL (S1 _ _ hRA),λS0 H2 S2 e2=>?_⟩;rw[cutU (i:=(i:Int)+1) (n:=i+1) rfl] at e2;have S12:=S1.trans S2;have rw2:jM H2 (xs.take (i+1)) ((rows.take (i+1)).map PR.rowV):=by
    rw[jg];exact(rwA.same S12).take
   apply⟨S0,_,rows.take (i+1),rfl,e2,rw2,λr hr=>fm r (iA hr),by rw[aJ];lia,λct=>?_,λct=>?_⟩
   ·rw[et] at ct
    exact⟨ρ,iQ rfl ⟨SA.trans S12,up1 ⟨o,ct⟩,_,rfl⟩⟩
   ·rw[et] at ct
    exact⟨ρ,lO rfl ⟨_,rfl,_,_,rfl,rfl,bad H2 S12 λst=>ct st.2⟩⟩
  ·exact⟨ρ,lO rfl ⟨_,rfl,_,_,rfl,rfl,bad H1 S1 λst=>o st.1⟩⟩
 ·rintro σ HA ⟨SA,up,v2,rfl⟩
  have hRA:=SA _ _ hR;have rwA:=rw_.same SA;apply⟨ρ,R,rfl,⟨_,zL hRA⟩,?_⟩
  let pZ2:zW:=λi zs HB=>HB=HA∧zs.length=(pE (rows.take i)).length∧zs.length≤i
  apply ic (K:=K) (a:=R) (xs:=xs) pZ2 ⟨rfl,rfl,aA _⟩ (λi zs HB _ q=>?_) ⋯ (λi x zs HB hx q=>?_) (λzs HB q N hN=>?_)
  ·obtain⟨rfl,_,h⟩:=q
   exact⟨zL hRA,h⟩
  ·obtain⟨rfl,lz,le⟩:=q
   have hi:i<rows.length:=by rw[←lxs];exact(aj.mp hx).1
   have hp:=gE hi;have et:rows.take (i+1)=rows.take i++[rows[i]]:=by rw[aQ,hp];rfl
   obtain⟨c,hxc,hrc⟩:=rwA.get i rows[i].rowV (by rw[ay,hp];rfl);rw[hx] at hxc;cases hxc;obtain⟨w1,w2,w3,t,e3,_,_,isl⟩:=mX (fm _ (cu hi));have hrc3:HB c=some (.lst (.str w1:: .str w2:: .str w3::t)):=by rw[hrc,e3]
   have el:pE (rows.take (i+1))=pE (rows.take i)++(if rows[i].isL then [rows[i]] else []):=by
    rw[et];unfold pE;rw[l6];congr 1;cases h:rows[i].isL <;> simp[h]
   apply⟨ρ,c,τ,zL hrc3,aH (j:=0) rfl,rfl,ρ,?_⟩
   by_cases q:w1 = "line"
   ·apply lO (rO (by rw[q])) ⟨_,rfl,rfl,?_,by rw[ao];show _+1≤_;lia⟩
    rw[el,rL (isl.mp q),ao,ao,lz];rfl
   ·apply iQ (rP λz=>q (by injection z)) ⟨rfl,?_,⋯⟩
    rw[el,rK λz=>q (isl.mpr z),bY];exact lz
  obtain⟨rfl,lz,_⟩:=q;rw[lxs,bG] at lz;have S2:cg HB (upd HB N (.lst zs)):=(cg.refl HB).put hN;have h2:(upd HB N (.lst zs)) N=some (.lst zs):=aP;generalize upd HB N (.lst zs)=H2 at S2 h2 ⊢;apply⟨(by show 0≤ax;decide),λEm H3 S3 e3=>?_⟩;have S03:=SA.trans (S2.trans S3);apply⟨N,Em,zs,rfl,rfl,zL (S3 _ _ h2),zL e3,ρ,?_⟩;have lc:lsC rows=[]↔zs=[]:=by
   have e:((pE rows).map PR.nm).length=((lsC rows).map (·.n)).length:=by rw[lin_nms]
   rw[ae,ae] at e
   constructor <;> intro h <;> apply List.eq_nil_of_length_eq_zero ?_
   ·rw[lz,e,h];rfl
   ·rw[←e,←lz,h];rfl
  cases zs with
  | nil=>exact lO rfl (k 0 H3 S03 (.inl ⟨0,.none hb up (lc.mpr rfl),rfl⟩))
  | cons v zs=>exact iQ rfl ⟨_,rfl,k (-1) H3 S03 (.inr ⟨hb,up,(λz=>by cases lc.mp z),rfl⟩)⟩
end HN
namespace L2
open PySem PySem.Spec PySem.W PyProof.Rows
theorem pe_xfldN (K:ak){f:Str}(he:PE X e ta)(hb:gN e f X.env (dn e X.env)=dn e X.env:=by rfl)(hK:X.K=K:=by rfl) :
  PE X (.Attribute e f pos) (λσ H Q=>ta σ H λx H1=>∃a C D fs v,x= .ref a∧H1 a=some (XN a C (some D))∧H1 D=some (XD D fs)∧XCls K C∧jW K C f∧fs.lookup f=some v∧Q v H1):=by
 subst hK;intro aL s σ H Q I h;apply attr_of hb (thn (he aL s σ H _ I h) λu s1 hz0=>?_);obtain⟨x,H1,I1,rx,a,C,D,fs,v,ex,ea,eD,T,n,l,q⟩:=hz0;subst ex;obtain rfl:u=af.ref a:=rx;obtain⟨⟨o,us,z0,p1,p2,p3,p4,_,_⟩,_,_⟩:=I1.hok a _ ea;obtain⟨⟨mA,ns,rl,_⟩,_⟩:=I1.hok D _ eD;obtain⟨od,q1,q2⟩:=oJ ns;obtain⟨u,hu,ru⟩:=qU.some_of (v:=v) (o:=mA f) (by rw[←l];exact rl f);have J:InstAt s1.heap a o C (some od):=⟨p1,p2,by unfold notCls;rw[p4],by rw[p3];exact q1⟩;unfold getAttr;apply ai (wpAny_mkText ?_);apply x_by (s:={ s1 with toks:=s1.toks+1 }) I1.kIn J T (x_value (s:={ s1 with toks:=s1.toks+1 }) (v:=u) I1.kIn J (findObj_own T.dc n rfl (by rw[q2,hu])) ?_);exact handed_on (qJ ru) ⟨v,H1,I1.tok _,ru,q⟩
end L2
namespace HN
open PySem L2 PyProof.Rows HT2
local macro_rules
 |`(tactic|and_intros)=>`(tactic|try dsimp only[cxK])
abbrev sTdn:cN:=top 59
theorem kit_self:eM K (.ref C) (.ref C)=some true:=by unfold eM;simp
theorem isxK (K:ak)(hK:X.K=K:=by rfl):jn X (.builtin "isinstance") (λxs H Q=>∃a C d b,(∃D,xs=[.ref a,.ref D]∧eM K (.ref C) (.ref D)=some b)∧H a=some (pG a C d)∧(∀D,d=some D→∃fs,H D=some (XD D fs))∧XCls K C∧Q (.bl b) H):=by subst hK;exact call_isx
theorem xfldK (K:ak){f:Str}(he:PE X e ta)(hb:gN e f X.env (dn e X.env)=dn e X.env:=by rfl)(hK:X.K=K:=by rfl) :
  PE X (.Attribute e f pos) (λσ H Q=>ta σ H λx H1=>∃a C D fs v,x= .ref a∧H1 a=some (pG a C (some D))∧H1 D=some (XD D fs)∧XCls K C∧jW K C f∧fs.lookup f=some v∧Q v H1):=by subst hK;exact pe_xfld he hb
structure NPs (K:ak)(mg:Str→Option af)(C c1 c2:aq):Prop where
 m1:mg "NoText" =some (.ref c1)
 m2:mg "TooGreat" =some (.ref c2)
 k1:eM K (.ref C) (.ref c1)=some false
 k2:eM K (.ref C) (.ref c2)=some false
inductive spTdn (vs:List V)(H:Hp)(Q:VK)(_:XK):Prop
 | mk (z:Str)(b:Int)(rs:List PR)(_:vs=[.str z])(_:NetF z b rs)(_:∀d H',cg H H'→DueR b rs d→Q (.int d) H')
theorem scTdn:cA ["_law_text_here","_law_error","e"] pzw (defScope sTdn):=by trivial
theorem ok_tdn {U fi c1 c2:aq}(F:Fun K "_law_told" "_law_told" sTdn f fd)(T:Nm mg)(NP:NPc K mg C U fi)(TO:NPs K mg C c1 c2)(TU:Exc K mg "HourError" U)(UN:Under K C U)
  (G2:Fn K mg "net_by" sNetBy pzg f2 fd2) (F2:cS P w K mg base (CXN P w) 8 f2 fd2 pzg (p8 C)):‹0› 9 f fd pzw spTdn:=by
 specialize F.ok scTdn;obtain ⟨z,b,rs,rfl,N,k⟩:=h;apply ⟨_,cZ (psZ 1 scTdn.nd ir)
  (cZ (ps_tryAs (iN:=2) rfl rfl scTdn.nd rfl rfl TU (fun pn W σ0 E hp=>(bD (hW (pe_callS F2 hr rfl G2.mg G2.F.kp G2.b .nil hp (ah (pv 0) aw)))))
   (fun pn e=>(bD (psZ 1 scTdn.nd (pv 2)))))
  (PSl.h (bh ⟨(eO (bK pQ (pv 1) ir (cn _)) (bD (cb (pe_un qk aC))) cv)⟩
  (bh ⟨(eO (PW.pt (ma (mI (kr (bS (isxK K) (by rfl) (by exact T.isin) jv (ah (pv 1) (ah (mP (v:=.ref C) (by rfl) (by exact NP.mgC) rfl) aw))))) (ma (kr (bS (isxK K) (by rfl) (by exact T.isin) jv (ah (pv 1) (ah (mP (v:=.ref c1) (by rfl) (by exact TO.m1) rfl) aw)))) (kq (kr (bS (isxK K) (by rfl) (by exact T.isin) jv (ah (pv 1) (ah (mP (v:=.ref c2) (by rfl) (by exact TO.m2) rfl) aw)))))))) (bD (cb (pe_un qk aC))) cv)⟩
  (bh ⟨(eO (PW.pt (ma (kr (pe_isBool T (xfldK K (pv 1)))) (kq (mI (kr (pe_isInt T (xfldK K (pv 1)))))))) (bD (cb (pe_un qk aC))) cv)⟩
  (fj ⟨(cb (xfldK K (pv 1)))⟩)))))),?_⟩
 and_intros
 apply⟨rfl,ρ,z,b,rs,rfl,N,λi H1 S1 wr D H3 S3 eD=>?_,λbt v H1 hb up ne ru S1 d1=>?_⟩
 ·apply⟨C,rfl,UN,λa na=>?_⟩
  have SA:cg H3 (upd H3 a (pG a C (some D))):=cg.put (cg.refl H3) na;have eA:(upd H3 a (pG a C (some D))) a=some (pG a C (some D)):=aP;have eDA:=SA _ _ eD;have S1A:cg H1 (upd H3 a (pG a C (some D))):=S3.trans SA;generalize upd H3 a (pG a C (some D))=HA at SA eA eDA S1A ⊢;have hd:∀D',some D=some D'→∃fs,HA D'=some (XD D' fs):=λD' e=>by cases e;exact⟨_,eDA⟩
  apply⟨ρ,?_⟩;apply⟨ρ,rfl,ρ,iQ rfl ?_⟩;apply⟨ρ,a,C,some D,true,⟨C,rfl,kit_self⟩,eA,hd,NP.cl,ρ,iQ rfl ?_⟩;apply⟨ρ,a,C,some D,false,⟨c1,rfl,TO.k1⟩,eA,hd,NP.cl,ρ,iQ rfl ?_⟩;apply⟨ρ,a,C,some D,false,⟨c2,rfl,TO.k2⟩,eA,hd,NP.cl,ρ,iQ rfl ?_⟩;apply⟨ρ,a,C,D,_,ρ,eA,eDA,NP.cl,NP.na,npF_row,ς,ρ,iQ rfl ?_⟩;apply⟨ρ,a,C,D,_,ρ,eA,eDA,NP.cl,NP.na,npF_row,ς,ρ,iQ rfl ?_⟩;apply⟨ρ,a,C,D,_,ρ,eA,eDA,NP.cl,NP.na,npF_row,?_⟩;exact k _ HA (S1.trans S1A) (.inl ⟨i,wr,rfl⟩)
 ·apply⟨ρ,rfl,ρ,lO rfl ⟨_,rfl,?_⟩⟩
  exact k _ H1 S1 (.inr ⟨hb,up,ne,rfl⟩)
def SK (v w:V):Prop:=((∃s,v= .str s)∧∃z,w= .str z∧nam z=true)∨((∃i,v= .int i)∧∃j,w= .int j∧W60 j)
theorem SK.str {s:Str}{w:V}(h:SK (.str s) w):∃z,w= .str z∧nam z=true:=by
 rcases h with ⟨_,h⟩ | ⟨⟨i,e⟩,_⟩
 ·exact h
 ·cases e
theorem SK.int {i:Int}{w:V}(h:SK (.int i) w):∃j,w= .int j∧W60 j:=by
 rcases h with ⟨⟨i,e⟩,_⟩ | ⟨_,h⟩
 ·cases e
 ·exact h
theorem intr_set:∀{ss:List Str} {rs:List Int} {k:Nat} {v w:V},ss.length=rs.length+1→(iR ss rs)[k]? =some v→SK v w→∃(ss':List Str) (rs':List Int),ss'.length=ss.length∧rs'.length=rs.length∧iR ss' rs'=(iR ss rs).set k w∧(∀s∈ss',s∈ss∨nam s=true)∧∀r∈rs',r∈rs∨W60 r
 | [],_,_,_,_,h,_,_=>by simp at h
 | _::_::_,[],_,_,_,h,_,_=>by simp at h
 | [s],[],0,v,w,_,e,sk=>by
  cases e;obtain⟨z,rfl,hz⟩:=sk.str;exact⟨[z],[],rfl,rfl,rfl,(λs h=>by rw[aB.mp h];exact .inr hz),(λr h=>by cases h)⟩
 | [s],[],k+1,v,w,_,e,sk=>by
  have e:(none:Option V)=some v:=e;cases e
 | s::ss,r::rs,0,v,w,h,e,sk=>by
  cases e;obtain⟨z,rfl,hz⟩:=sk.str;apply⟨z::ss,r::rs,rfl,rfl,rfl,λs h=>?_,λr h=>.inl h⟩
  rcases az.mp h with rfl | h
  ·exact .inr hz
  ·exact .inl (aO _ h)
 | s::ss,r::rs,1,v,w,h,e,sk=>by
  cases e;obtain⟨z,rfl,hz⟩:=sk.int;apply⟨s::ss,z::rs,rfl,rfl,rfl,λs h=>.inl h,λr h=>?_⟩
  rcases az.mp h with rfl | h
  ·exact .inr hz
  ·exact .inl (aO _ h)
 | s::ss,r::rs,k+2,v,w,h,e,sk=>by
  have hl:ss.length=rs.length+1:=by simpa using h
  obtain⟨ss',rs',l1,l2,e',m1,m2⟩:=intr_set (k:=k) (v:=v) (w:=w) hl e sk;apply⟨s::ss',r::rs',by rw[aG,l1];rfl,by rw[aG,l2];rfl,?_,λs h=>?_,λr h=>?_⟩
  ·show V.str s:: .int r::iR ss' rs'=_
   rw[e'];rfl
  ·rcases az.mp h with rfl | h
   ·exact .inl (bJ ..)
   ·exact(m1 _ h).imp (aO _) id
  ·rcases az.mp h with rfl | h
   ·exact .inl (bJ ..)
   ·exact(m2 _ h).imp (aO _) id
theorem ln1 {l:List α}(h:l.length=1):∃a,l=[a]:=by
 rcases l with _ | ⟨a,_ | ⟨b,r⟩⟩ <;> first | exact⟨ρ⟩ | simp at h
theorem ln2 {l:List α}(h:l.length=2):∃a b,l=[a,b]:=by
 rcases l with _ | ⟨a,_ | ⟨b,_ | ⟨c,r⟩⟩⟩ <;> first | exact⟨_,ρ⟩ | simp at h
theorem ln3 {l:List α}(h:l.length=3):∃a b c,l=[a,b,c]:=by
 rcases l with _ | ⟨a,l⟩
 ·simp at h
 ·obtain⟨b,c,rfl⟩:=ln2 (l:=l) (by simpa using h)
  exact⟨a,b,c,rfl⟩
theorem ln4 {l:List α}(h:l.length=4):∃a b c d,l=[a,b,c,d]:=by
 rcases l with _ | ⟨a,l⟩
 ·simp at h
 ·obtain⟨b,c,d,rfl⟩:=ln3 (l:=l) (by simpa using h)
  exact⟨a,b,c,d,rfl⟩
theorem othG_len {k:Str}{ns':List Str}{is':List Int}(h:OthG k ns is)(h1:ns'.length=ns.length)(h2:is'.length=is.length):OthG k ns' is':=by
 cases h with
 | change =>
  obtain⟨_,_,_,rfl⟩:=ln3 h1;obtain⟨_,_,_,rfl⟩:=ln3 h2;exact .change
 | apart =>
  obtain⟨_,_,_,rfl⟩:=ln3 h1;obtain⟨_,rfl⟩:=ln1 h2;exact .apart
 | meet =>
  obtain⟨_,_,_,_,rfl⟩:=ln4 h1;obtain⟨_,rfl⟩:=ln1 h2;exact .meet
theorem pB {α:Type}{a z:α}:∀{l:List α} {i:Nat},a∈l.set i z→a∈l∨a=z
 | [],_,h=>by cases h
 | x::l,0,h=>by
  rcases az.mp h with h | h
  ·exact .inr h
  ·exact .inl (aO _ h)
 | x::l,i+1,h=>by
  rcases az.mp h with h | h
  ·exact .inl (by rw[h];exact bJ ..)
  ·exact(pB (l:=l) (i:=i) h).imp (aO _) id
theorem oth_len {k:Str}{ns':List Str}{is':List Int}(h:(k = "stay" ∧∃(n z:Str) (l o w:Int),ns=[n,z]∧is=[l,o,w])∨OthG k ns is)(h1:ns'.length=ns.length)(h2:is'.length=is.length):(k = "stay" ∧∃(n z:Str) (l o w:Int),ns'=[n,z]∧is'=[l,o,w])∨OthG k ns' is':=by
 rcases h with ⟨hk,n,z,l,o,w,rfl,rfl⟩ | h
 ·obtain⟨_,_,rfl⟩:=ln2 h1
  obtain⟨_,_,_,rfl⟩:=ln3 h2;exact .inl ⟨hk,_,_,τ⟩
 ·exact .inr (othG_len h h1 h2)
theorem frm_set {w:V}(h:r.frm)(hk:1≤k)(e:r.rowV[k]? =some v)(s:SK v w):∃r':PR,r'.frm∧r'.rowV=r.rowV.set k w:=by
 obtain⟨k,rfl⟩:∃j,k=j+1:=⟨k - 1,⋯⟩;cases r with
 | beat b=>exact rM h id
 | line n ss rs =>
  obtain⟨h1,h2,h3,h4,h5,h6⟩:=h;cases k with
  | zero =>
   cases e;obtain⟨z,rfl,hz⟩:=s.str;exact⟨.line z ss rs,⟨hz,h2,h3,h4,h5,h6⟩,rfl⟩
  | succ k =>
   obtain⟨ss',rs',l1,l2,e',m1,m2⟩:=intr_set (k:=k) h5 e s;apply⟨.line n ss' rs',⟨h1,(λs hs=>(m1 s hs).elim (h2 s) id),⋯,⋯,⋯,λr hr=>(m2 r hr).elim (h6 r) id⟩,?_⟩;show V.str "line" :: .str n::iR ss' rs'=_;rw[e'];rfl
 | oth kd ns is =>
  obtain⟨h1,h2,h3⟩:=h;have e:(ns.map V.str++is.map V.int)[k]? =some v:=e
  by_cases c:k<ns.length
  ·rw[bI (by rw[ae];exact c),ay,gE c] at e
   cases e;obtain⟨z,rfl,hz⟩:=s.str;apply⟨.oth kd (ns.set k z) is,⟨oth_len h1 (by rw[iw]) rfl,λa ha=>?_,h3⟩,?_⟩
   ·rcases pB ha with ha | rfl
    ·exact h2 a ha
    ·exact hz
   ·show V.str kd::((ns.set k z).map V.str++is.map V.int)= .str kd::(ns.map V.str++is.map V.int).set k (.str z)
    rw[List.set_append,rL (by rw[ae];exact c),List.map_set]
  ·rw[aR (by rw[ae];lia),ae,ay] at e
   cases e2:is[k - ns.length]? with
   | none=>rw[e2] at e;cases e
   | some i =>
    rw[e2] at e;cases e;obtain⟨z,rfl,hz⟩:=s.int;apply⟨.oth kd ns (is.set (k - ns.length) z),⟨oth_len h1 rfl (by rw[iw]),h2,λa ha=>?_⟩,?_⟩
    ·rcases pB ha with ha | rfl
     ·exact h3 a ha
     ·exact hz
    ·show V.str kd::(ns.map V.str++(is.set (k - ns.length) z).map V.int)= .str kd::(ns.map V.str++is.map V.int).set k (.int z)
     rw[List.set_append,rK (by rw[ae];exact c),List.map_set,ae]
theorem intr_wd:∀{ss:List Str} {rs:List Int},(∀s∈ss,nam s=true)→(∀r∈rs,W60 r)→∀v∈iR ss rs,WOk v
 | s::ss,r::rs,h1,h2,v,hv=>by
  have hv:v∈V.str s:: .int r::iR ss rs:=hv
  rcases az.mp hv with rfl | hv
  ·exact .inl ⟨ρ,h1 s (bJ ..)⟩
  ·rcases az.mp hv with rfl | hv
   ·exact .inr ⟨ρ,h2 r (bJ ..)⟩
   ·exact intr_wd (λs h=>h1 s (aO _ h)) (λr h=>h2 r (aO _ h)) v hv
 | s::ss,[],h1,h2,v,hv=>by
  have hv:v∈[V.str s]:=hv;rw[aB.mp hv];exact .inl ⟨ρ,h1 s (bJ ..)⟩
 | [],_,_,_,v,hv=>by cases hv
theorem frm_wd (h:r.frm):(∀v∈r.rowV.drop 1,WOk v)∧4≤r.rowV.length∧r.rowV.length≤11:=by
 cases r with
 | beat b=>exact rM h id
 | line n ss rs =>
  obtain⟨h1,h2,h3,h4,h5,h6⟩:=h;have ll:(PR.line n ss rs).rowV.length=(iR ss rs).length+1+1:=rfl;rw[ll,jD h5];apply⟨λv hv=>?_,⋯,⋯⟩;have hv:v∈V.str n::iR ss rs:=hv
  rcases az.mp hv with rfl | hv
  ·exact .inl ⟨ρ,h1⟩
  ·exact intr_wd h2 h6 v hv
 | oth k ns is =>
  obtain⟨h1,h2,h3⟩:=h;have ll:(PR.oth k ns is).rowV.length=ns.length+is.length+1:=by
   show(ns.map V.str++is.map V.int).length+1=_;rw[ao,ae,ae]
  have l2:4≤ns.length+is.length+1∧ns.length+is.length+1≤11:=by
   rcases h1 with ⟨_,_,_,_,_,_,rfl,rfl⟩ | h1
   ·simp
   ·cases h1 <;> simp
  rw[ll];apply⟨λv hv=>?_,l2⟩;have hv:v∈ns.map V.str++is.map V.int:=hv
  rcases aX.mp hv with hv | hv
  ·obtain⟨z,hz,rfl⟩:=aK.mp hv
   exact .inl ⟨ρ,h2 z hz⟩
  ·obtain⟨z,hz,rfl⟩:=aK.mp hv
   exact .inr ⟨ρ,h3 z hz⟩
abbrev sOtw:cN:=top 60
abbrev sBnt:cN:=top 61
inductive spOtw (vs:List V)(H:Hp)(Q:VK)(_:XK):Prop
 | mk (p:aq)(n b:Int)(R:aq)(xs:List V)(rows:List PR)(v:V)(_:vs=[.ref p,.int b,.ref R,v])(_:H p=some (.lst [.int n]))(_:0≤b)(_:b≤10 ^ 21)(_:H R=some (.lst xs))(_:jM H xs (rows.map PR.rowV))(_:(∀r∈rows,r.frm))(_:rows.length≤100)(_:WOk v)(_:∀w H',SK v w→Mv p H H'→Q w H')
inductive spBnt (vs:List V)(H:Hp)(Q:VK)(_:XK):Prop
 | mk (p:aq)(n b:Int)(R:aq)(xs:List V)(rows:List PR)(_:vs=[.ref p,.int b,.ref R])(_:H p=some (.lst [.int n]))(_:0≤b)(_:b≤10 ^ 21)(_:H R=some (.lst xs))(_:jM H xs (rows.map PR.rowV))(_:(∀r∈rows,r.frm))(_:rows.length≤90)(_:∀R' xs' (rows':List PR) H',Mv p H H'→H' R'=some (.lst xs')→jM H' xs' (rows'.map PR.rowV)→(∀r∈rows',r.frm)→rows'.length≤rows.length+1→Q (.ref R') H')
theorem jM.drop {rows:List (List V)}(h:jM H xs rows):jM H (xs.drop n) (rows.drop n):=
 ⟨by rw[bE,bE,h.len],fun i r hr=>by
  rw[cY] at hr;obtain ⟨a,h1,h2⟩:=h.get _ r hr;exact ⟨a,by rw[cY];exact h1,h2⟩⟩
theorem jM.app {rows rows2:List (List V)}(h:jM H xs rows)(h2:jM H ys rows2):jM H (xs++ys) (rows++rows2):=
 ⟨by rw[ao,ao,h.len,h2.len],fun i r hr=>by
  by_cases c:i<rows.length
  ·rw[bI c] at hr
   obtain⟨a,q1,q2⟩:=h.get i r hr;exact⟨a,by rw[bI (by rw[h.len];exact c)];exact q1,q2⟩
  ·rw[aR ⋯] at hr
   obtain ⟨a,q1,q2⟩:=h2.get _ r hr;exact ⟨a,by rw[aR (by rw[h.len];lia),h.len];exact q1,q2⟩⟩
theorem jM.one {r:List V}(h:H a=some (.lst r)):jM H [.ref a] [r]:=⟨rfl,fun i q hq=>by
 cases i with
 | zero=>cases hq;exact⟨a,rfl,h⟩
 | succ i=>cases hq⟩
theorem set_cut {l:List α}{w:α}(h:k<l.length):l.take k++[w]++l.drop (k+1)=l.set k w:=by
 rw[List.set_eq_take_append_cons_drop,rL h,cG];rfl
theorem scOtw:cA ["_law_pot_here","_law_beat","_law_rows","_law_word","_law_more","_law_some","_law_row"] pzG (defScope sOtw):=by trivial
theorem ok_otw (F:Fun K "_law_other_word" "_law_other_word" sOtw f fd)(T:Nm mg)(T2:Nt mg)(N2:Nm2 mg)(G1:Fn K mg "_law_take" qu pzd f1 fd1):‹0› 2 f fd pzG spOtw:=by
 have F1:‹0› 1 f1 fd1 pzd nM:=mB G1.F;specialize F.ok scOtw;obtain ⟨p,n,b,R,xs,rows,v,rfl,hp,b0,b1,hR,rw_,fm,few,hv,k⟩:=h;have hr1:jI 1 _:=hr;apply ⟨_,PSl.h (bh ⟨(eO (kr (pe_isInt T (pv 3))) (PSl.h (bh ⟨(psZ 4 scOtw.nd (bS (oR rfl) rfl T.min boot_min (ah (cw gL (cw mR aC aC) aC) (ah (cw dZ (pv 3) aC) aw))))⟩
  (fj ⟨(cb (PEs.h (k_ix aW (pF (dw jf (dw ⟨pv 1⟩ (dw (k_op kz jf ⟨pv 1⟩) (dw (k_op dZ (k_op mR jf jf) jf) (dw (k_op gL (k_op mR jf jf) jf) (dw ⟨pv 4⟩ (dw ⟨bS (call_max2 rfl) rfl T2.max boot_max (ah aC (ah (cw gL (pv 3) aC) aw))⟩ (dw (k_op mR jf jf) oW))))))))) ⟨pc1 G1 F1 hr1 (ah (pv 0) (ah aC aw))⟩ (fun _ _=>rfl))))⟩))) cv)⟩
  (bh ⟨(psZ 5 scOtw.nd (gM (ah dU aw)))⟩
  (bh ⟨(iC bX rfl (gK (pv 2)) (pgZ 6 scOtw.nd) (bD (psZ 5 scOtw.nd (cw ip (pv 5) (jP (fr:=[]) (js:=[]) rfl (gK (cV gc (pv 6) (dJ aC) eR)) ⇑0 rfl ⇑0 rfl (by exists sOtw) ⇑0 rfl ⇑0 (fun _ _ _ _ _=>⟨(pv 0),(nV (kr (pe_isStr T N2 (pv 0))))⟩))))))⟩
  (fj ⟨(cb (cE aW (pv 5) (pc1 G1 F1 hr1 (ah (pv 0) (ah (bS bO rfl T.len aS (ah (pv 5) aw)) aw))) (fun _ _=>rfl)))⟩)))),?_⟩
 and_intros
 apply sq3 ?_
 intros
 have big:(100000:Nat)≤ax:=by decide
 have lxs:xs.length=rows.length:=by rw[rw_.len,ae]
 rcases hv with ⟨z,rfl,hz⟩ | ⟨i,rfl,i0,i1⟩
 rotate_left
 ·apply⟨ρ,ς,ρ,lO rfl ?_⟩
  apply⟨ς,⟨↥0,↥0,↥0⟩,ς,ρ,ς,_,ρ,?_⟩;apply⟨ρ,ρ,ς,.inl ⟨↥0,↥0⟩,ς,⟨↥0,↥0,↥0⟩,ς,ς,⟨↥0,↥0,↥0⟩,ς,ρ,ρ,ς,_,ρ,ς,⟨↥0,↥0,↥0⟩,(by show 8≤ax;decide),λB H1 S1 e1=>?_⟩;have M1:Mv p H H1:=Mv.of S1 (S1 _ _ hp);apply⟨ρ,p,n,8,rfl,S1 _ _ hp,↥0,↥0,λr H2 a0 a1 M2=>?_⟩;have e2:=M2.1 _ _ (dz e1 (S1 _ _ hp) (je ∅)) e1;obtain⟨v,ev,mv⟩:=oU (xs:=[V.int 0,.int b,.int (2 * b),.int (10 ^ 12+1),.int (10 ^ 60 - 1),.int (if i+1<10 ^ 60 - 1 then i+1 else 10 ^ 60 - 1),.int (if i - 1 > 0 then i - 1 else 0),.int (10 ^ 12)]) a0 (by show r<8;lia);obtain⟨m,rfl,m1,m2⟩:∃m:Int,v= .int m∧0≤m∧m<10 ^ 60:=by
   simp only[az,bg,or_false] at mv
   rcases mv with rfl | rfl | rfl | rfl | rfl | rfl | rfl | rfl
   ·exact⟨ρ,↥0,↥0⟩
   ·exact⟨ρ,⋯,⋯⟩
   ·exact⟨ρ,⋯,⋯⟩
   ·exact⟨ρ,↥0,↥0⟩
   ·exact⟨ρ,↥0,↥0⟩
   ·exact⟨ρ,by split <;> lia,by split <;> lia⟩
   ·exact⟨ρ,by split <;> lia,by split <;> lia⟩
   ·exact⟨ρ,↥0,↥0⟩
  apply⟨B,τ,zL e2,ev,?_⟩;exact k _ H2 (.inr ⟨⟨ρ⟩,m,rfl,m1,m2⟩) (M1.trans M2)
 ·apply⟨ρ,ς,ρ,iQ rfl ?_⟩
  apply⟨szZ1,λL0 H1 S1 e1=>?_⟩;apply⟨ρ,R,rfl,⟨_,zL (S1 _ _ hR)⟩,?_⟩
  let pZ2:zV:=λi σ HA=>cg H HA∧∃(L:aq) (ss:List Str) (v6:Option V),σ=[some (.ref p),some (.int b),some (.ref R),some (.str z),none,some (.ref L),v6]∧HA L=some (.lst (ss.map V.str))∧(∀s∈ss,nam s=true)∧1≤ss.length∧ss.length≤1+11 * i
  apply jT (K:=K) (a:=R) (xs:=xs) pZ2 ⟨S1,L0,["zzz"],none,rfl,e1,(λs h=>by rw[aB.mp h];decide +kernel),aA _,aA _⟩ (λi σ HA _ q=>zL (q.1 _ _ hR)) ?_ ?_
  ·rintro i x σ HA hx ⟨SA,L,ss,v6,rfl,hL,hs,l1,l2⟩
   have hi:i<rows.length:=by rw[←lxs];exact(aj.mp hx).1
   have hp':=gE hi;obtain⟨a,hxa,hra⟩:=rw_.get i rows[i].rowV (by rw[ay,hp'];rfl);rw[hx] at hxa;cases hxa;have hra:=SA _ _ hra;obtain⟨wd,w4,w11⟩:=frm_wd (fm _ (cu hi));generalize rows[i].rowV=row at hra wd w4 w11;apply⟨ρ,ρ,ρ,a,ρ,zL hra,λC HB SB eB=>?_⟩;rw[cutF (i:=1) (n:=1) rfl] at eB;apply⟨C,rfl,⟨_,zL eB⟩,?_⟩
   let pZ3:zW:=λi ws HC=>HC=HB∧ws.length≤i∧∃us:List Str,ws=us.map V.str∧∀s∈us,nam s=true
   apply ic (K:=K) (a:=C) (xs:=row.drop 1) pZ3 ⟨rfl,aA _,[],rfl,(λs h=>by cases h)⟩ (λi ws HC _ q=>?_) (by rw[bE];lia) (λi x ws HC hx q=>?_) (λws HC q N hN=>?_)
   ·obtain⟨rfl,h,_⟩:=q
    exact⟨zL eB,h⟩
   ·obtain⟨rfl,h,us,rfl,hu⟩:=q
    rcases wd x (aD hx) with ⟨y,rfl,hy⟩ | ⟨y,rfl,hy⟩
    ·apply⟨ρ,ς,ρ,lO rfl ⟨_,rfl,rfl,by rw[ao];show _+1≤_;lia,us++[y],by rw[av];rfl,λs hs=>?_⟩⟩
     rcases aX.mp hs with hs | hs
     ·exact hu s hs
     ·rw[aB.mp hs];exact hy
    ·exact⟨ρ,ς,ρ,iQ rfl ⟨rfl,⋯,us,rfl,hu⟩⟩
   obtain⟨rfl,lw,us,rfl,hu⟩:=q;rw[ae,bE] at lw;have S2:cg HC (upd HC N (.lst (us.map V.str))):=(cg.refl HC).put hN;have h2:(upd HC N (.lst (us.map V.str))) N=some (.lst (us.map V.str)):=aP;generalize upd HC N (.lst (us.map V.str))=H2 at S2 h2 ⊢;apply⟨L,N,ς,S2 _ _ (SB _ _ hL),h2,(by rw[ae,ae];lia),λL2 H3 S3 e3=>?_⟩;apply⟨SA.trans (SB.trans (S2.trans S3)),L2,ss++us,ρ,by rw[e3,av],λs hs'=>?_,by rw[ao];lia,by rw[ao];lia⟩
   rcases aX.mp hs' with h | h
   ·exact hs s h
   ·exact hu s h
  ·rintro σ HA ⟨SA,L,ss,v6,rfl,hL,hs,l1,l2⟩
   have hpA:=SA _ _ hp;apply ⟨ρ,ρ,ρ,L,ρ,.inl (zL hL),p,n,(ss.length:Nat),by rw[ae];rfl,hpA,⋯,⋯,fun r H2 a0 a1 M2=>?_⟩;have e2:=M2.1 _ _ (fun z=>by
    rw[z,hpA] at hL;injection hL with hL
    injection hL with hL
    cases ss with
    | nil=>cases hL
    | cons s ss=>injection hL with hL _;cases hL) hL
   obtain⟨v,ev,mv⟩:=oU (xs:=ss.map V.str) a0 (by rw[ae];exact a1);obtain⟨y,hy,rfl⟩:=aK.mp mv;apply⟨L,τ,zL e2,ev,?_⟩;exact k _ H2 (.inl ⟨⟨ρ⟩,y,rfl,hs y hy⟩) ((Mv.of SA hpA).trans M2)
theorem scBnt:cA ["_law_pot_here","_law_beat","_law_rows","_law_way","_law_at","_law_k","_law_row"] pzH (defScope sBnt):=by trivial
theorem ok_bnt {fO:aq}{dO:aY}(F:Fun K "_law_bent" "_law_bent" sBnt f fd)(T:Nm mg)(G1:Fn K mg "_law_take" qu pzd f1 fd1)(GO:Fn K mg "_law_other_word" sOtw pzG fO dO)(FO:‹0› 2 fO dO pzG spOtw):‹0› 3 f fd pzH spBnt:=by
 have F1:‹0› 1 f1 fd1 pzd nM:=mB G1.F;specialize F.ok scBnt;obtain ⟨p,n,b,R,xs,rows,rfl,hp,b0,b1,hR,rw_,fm,few,k⟩:=h;have hr1:jI 1 _:=hr.mono ↥0;have hr2:jI 2 _:=hr;apply ⟨_,PSl.h (bh ⟨(psZ 3 scBnt.nd (pc1 G1 F1 hr1 (ah (pv 0) (ah aC aw))))⟩
  (bh ⟨(eO (bK (op_eqL0 hr.units0) (pv 2) (gM aw) (cn _)) (bD (cb (pv 2))) cv)⟩
  (bh ⟨(psZ 4 scBnt.nd (pc1 G1 F1 hr1 (ah (pv 0) (ah (bS bO rfl T.len aS (ah (pv 2) aw)) aw))))⟩
  (bh ⟨(eO (bK iM (pv 3) aC (cn _)) (bD (cb (cw ip (pv 2) (gM (ah (cE aW (pv 2) (pv 4) (fun _ _=>rfl)) aw))))) cv)⟩
  (bh ⟨(eO (bK iM (pv 3) aC (cn _)) (bD (cb (cw ip (cw ip (gM (ah (cE aW (pv 2) (pv 4) (fun _ _=>rfl)) aw)) (cV gc (pv 2) eR (dJ (pv 4)))) (cV gc (pv 2) (dJ (cw dZ (pv 4) aC)) eR)))) cv)⟩
  (bh ⟨(eO (bK iM (pv 3) aC (cn _)) (bD (cb (cw ip (cV gc (pv 2) eR (dJ (pv 4))) (cV gc (pv 2) (dJ (cw dZ (pv 4) aC)) eR)))) cv)⟩
  (bh ⟨(psZ 5 scBnt.nd (cw dZ aC (pc1 G1 F1 hr1 (ah (pv 0) (ah (cw gL (bS bO rfl T.len aS (ah (cE aW (pv 2) (pv 4) (fun _ _=>rfl)) aw)) aC) aw)))))⟩
  (bh ⟨(psZ 6 scBnt.nd (cw ip (cw ip (cV gc (cE aW (pv 2) (pv 4) (fun _ _=>rfl)) eR (dJ (pv 5))) (gM (ah (pc1 GO FO hr2 (ah (pv 0) (ah (pv 1) (ah (pv 2) (ah (cE aW (cE aW (pv 2) (pv 4) (fun _ _=>rfl)) (pv 5) (fun _ _=>rfl)) aw))))) aw))) (cV gc (cE aW (pv 2) (pv 4) (fun _ _=>rfl)) (dJ (cw dZ (pv 5) aC)) eR)))⟩
  (fj ⟨(cb (cw ip (cw ip (cV gc (pv 2) eR (dJ (pv 4))) (gM (ah (pv 6) aw))) (cV gc (pv 2) (dJ (cw dZ (pv 4) aC)) eR)))⟩))))))))),?_⟩
 and_intros
 apply sq8 ?_
 intros
 have big:(100000:Nat)≤ax:=by decide
 have lxs:xs.length=rows.length:=by rw[rw_.len,ae]
 have two:∀r∈rows.map PR.rowV,2≤r.length:=λr hr=>by
  obtain⟨q,hq,rfl⟩:=aK.mp hr;have:=(frm_wd (fm q hq)).2.1;lia
 apply⟨ρ,p,n,6,rfl,hp,↥0,↥0,λwy H1 y0 y1 M1=>?_⟩;have hR1:=M1.at hR (rw_.nep hp hR);have rw1:=rw_.mv M1 hp two;obtain⟨n1,hp1⟩:=M1.2;apply⟨ρ,(by show 0≤ax;decide),λEm H2 S2 e2=>?_⟩;have M2:=M1.then S2;have hR2:=S2 _ _ hR1;have rw2:=rw1.same S2;have hp2:=S2 _ _ hp1;apply⟨R,Em,xs,rfl,rfl,zL hR2,zL e2,ρ,?_⟩
 by_cases ex:xs=[]
 ·apply lO (by rw[ex];rfl) ⟨_,rfl,?_⟩
  exact k R xs rows H2 M2 hR2 rw2 fm ⋯
 apply iQ (by cases xs with | nil=>exact rM rfl ex | cons=>rfl) ?_;have l1:1≤rows.length:=by
  cases xs with
  | nil=>exact rM rfl ex
  | cons v xs=>rw[←lxs,aG];lia
 apply⟨ρ,ρ,R,ρ,.inl (zL hR2),p,n1,(rows.length:Nat),by rw[lxs];rfl,hp2,⋯,⋯,λat_ H3 a0 a1 M3=>?_⟩;have hR3:=M3.at hR2 (rw2.nep hp2 hR2);have rw3:=rw2.mv M3 hp2 two;have M03:=M2.trans M3;obtain⟨n3,hp3⟩:=M3.2;obtain⟨m,rfl⟩:∃m:Nat,at_=m:=⟨at_.toNat,⋯⟩;have hm:m<rows.length:=by lia
 have hpm:=gE hm;have fr:=fm _ (cu hm);obtain⟨a,hxa,hra⟩:=rw3.get m rows[m].rowV (by rw[ay,hpm];rfl);apply⟨ρ,rfl,ρ,jq (λc1=>?_) (λc1=>?_)⟩
 ·apply⟨ρ,ρ,ρ,R,τ,zL hR3,aH hxa,szZ1,λB H4 S4 e4=>?_⟩
  apply⟨R,B,ς,S4 _ _ hR3,e4,(by show xs.length+1≤ax;lia),λR' H5 S5 e5=>?_⟩;have S35:=S4.trans S5;apply k R' _ (rows++[rows[m]]) H5 (M03.then S35) e5 ?_ (λr hr=>?_) (by rw[ao];exact aA _)
  ·rw[av]
   exact(rw3.same S35).app (.one (S35 _ _ hra))
  ·rcases aX.mp hr with hr | hr
   ·exact fm r hr
   ·rw[aB.mp hr];exact fr
 apply⟨ρ,rfl,ρ,jq (λc2=>?_) (λc2=>?_)⟩
 ·apply⟨ρ,ρ,R,τ,zL hR3,aH hxa,szZ1,λB H4 S4 e4=>?_⟩
  apply⟨ρ,ρ,ρ,R,ρ,zL (S4 _ _ hR3),λC H5 S5 e5=>?_⟩;rw[cutU (i:=(m:Int)) (n:=m) rfl] at e5;apply⟨B,C,ς,S5 _ _ e4,e5,(by show 1+_≤ax;rw[aJ];lia),λD H6 S6 e6=>?_⟩;apply⟨ρ,ρ,ς,ρ,R,ρ,zL ((S4.trans (S5.trans S6)) _ _ hR3),λG H7 S7 e7=>?_⟩;rw[cutF (i:=(m:Int)+1) (n:=m+1) rfl] at e7;apply⟨D,G,ς,S7 _ _ e6,e7,(by rw[ao,aJ,bE];show 1+_+_≤ax;lia),λR' H8 S8 e8=>?_⟩;have S38:=S4.trans (S5.trans (S6.trans (S7.trans S8)));apply k R' _ ([rows[m]]++rows.take m++rows.drop (m+1)) H8 (M03.then S38) e8 ?_ (λr hr=>?_) (by simp only[ao,aJ,bE,aG,gQ];lia)
  ·rw[av,av,jg,fZ]
   exact((jM.one (S38 _ _ hra)).app (rw3.same S38).take).app (rw3.same S38).drop
  ·rcases aX.mp hr with hr | hr
   ·rcases aX.mp hr with hr | hr
    ·rw[aB.mp hr];exact fr
    ·exact fm r (iA hr)
   ·exact fm r (List.mem_of_mem_drop hr)
 apply⟨ρ,rfl,ρ,jq (λc3=>?_) (λc3=>?_)⟩
 ·apply⟨ρ,ρ,ρ,R,ρ,zL hR3,λC H5 S5 e5=>?_⟩
  rw[cutU (i:=(m:Int)) (n:=m) rfl] at e5;apply⟨ρ,ρ,ς,ρ,R,ρ,zL (S5 _ _ hR3),λG H7 S7 e7=>?_⟩;rw[cutF (i:=(m:Int)+1) (n:=m+1) rfl] at e7;apply⟨C,G,ς,S7 _ _ e5,e7,(by rw[aJ,bE];lia),λR' H8 S8 e8=>?_⟩;have S38:=S5.trans (S7.trans S8);apply k R' _ (rows.take m++rows.drop (m+1)) H8 (M03.then S38) e8 ?_ (λr hr=>?_) (by simp only[ao,aJ,bE];lia)
  ·rw[av,jg,fZ]
   exact(rw3.same S38).take.app (rw3.same S38).drop
  ·rcases aX.mp hr with hr | hr
   ·exact fm r (iA hr)
   ·exact fm r (List.mem_of_mem_drop hr)
 obtain⟨wd,w4,w11⟩:=frm_wd fr;apply⟨ρ,ρ,ρ,R,τ,zL hR3,aH hxa,a,ρ,.inl (zL hra),ς,p,n3,ρ,hp3,⋯,⋯,λkk H4 k0 k1 M4=>?_⟩;have hR4:=M4.at hR3 (rw3.nep hp3 hR3);have rw4:=rw3.mv M4 hp3 two;have M04:=M03.trans M4;obtain⟨n4,hp4⟩:=M4.2;have hra4:H4 a=some (.lst rows[m].rowV):=by
  obtain⟨a',hxa',hra'⟩:=rw4.get m rows[m].rowV (by rw[ay,hpm];rfl);rw[hxa] at hxa';cases hxa';exact hra'
 clear rw3 hR3 hra hp3;obtain⟨j,ej⟩:∃j:Nat,1+kk=j:=⟨(1+kk).toNat,⋯⟩;apply⟨ς,(?_:oP 5 (V.int (1+kk)) _ H4 _)⟩;rw[ej];have hj1:1≤j:=by lia
 have hj:j<rows[m].rowV.length:=by lia
 have hjv:=gE hj;apply ⟨ρ,ρ,R,τ,zL hR4,aH hxa,ρ,ρ,a,ρ,zL hra4,fun C H5 S5 e5=>?_⟩;rw[cutU (i:=(j:Int)) (n:=j) rfl] at e5;apply ⟨ρ,ρ,ρ,ρ,ρ,R,τ,zL (S5 _ _ hR4),aH hxa,ρ,a,τ,zL (S5 _ _ hra4),aH hjv,?_⟩;have wv:WOk rows[m].rowV[j]:=wd _ (by
  apply aD (i:=j - 1) ?_;rw[cY,show 1+(j - 1)=j by lia];exact hjv)
 apply ⟨p,n4,b,R,xs,rows,ρ,S5 _ _ hp4,b0,b1,S5 _ _ hR4,rw4.same S5,fm,⋯,wv,fun wn H6 sk M6=>?_⟩;have hp5:=S5 _ _ hp4;have e6:H6 C=some (.lst (rows[m].rowV.take j)):=M6.at e5 (fun z=>by
  obtain⟨v1,v2,v3,t,e3,_⟩:=mX fr;rw[z,hp5,e3] at e5;obtain⟨i,rfl⟩:∃i,j=i+1:=⟨j - 1,⋯⟩;injection e5 with e5
  injection e5 with e5
  injection e5 with e5 _
  cases e5)
 have rw5:=rw4.same S5;have hR6:=M6.at (S5 _ _ hR4) (rw5.nep hp5 (S5 _ _ hR4));have rw6:=rw5.mv M6 hp5 two;have M06:=(M04.then S5).trans M6;obtain⟨n6,hp6⟩:=M6.2;have hra6:H6 a=some (.lst rows[m].rowV):=by
  obtain⟨a',hxa',hra'⟩:=rw6.get m rows[m].rowV (by rw[ay,hpm];rfl);rw[hxa] at hxa';cases hxa';exact hra'
 clear rw4 rw5 hR4 hra4 hp4 e5;apply⟨szZ1,λB H7 S7 e7=>?_⟩;apply⟨C,B,ς,S7 _ _ e6,e7,(by rw[aJ];show _+1≤ax;lia),λD H8 S8 e8=>?_⟩;have S68:=S7.trans S8;apply⟨ρ,ρ,R,τ,zL (S68 _ _ hR6),aH hxa,ρ,ς,ρ,a,ρ,zL (S68 _ _ hra6),λG H9 S9 e9=>?_⟩;rw[cutF (i:=(j:Int)+1) (n:=j+1) rfl] at e9;apply⟨D,G,ς,S9 _ _ e8,e9,(by rw[ao,aJ,bE];show _+1+_≤ax;lia),λN Ha Sa ea=>?_⟩;have ea:Ha N=some (.lst (rows[m].rowV.set j wn)):=by rw[ea,←set_cut hj]
 obtain⟨r',fr',er'⟩:=frm_set fr hj1 hjv sk;rw[←er'] at ea;have S6a:=S68.trans (S9.trans Sa);apply⟨ρ,ρ,ρ,R,ρ,zL (S6a _ _ hR6),λC2 Hb Sb eb=>?_⟩;rw[cutU (i:=(m:Int)) (n:=m) rfl] at eb;apply⟨ρ,szZ1,λB2 Hc Sc ec=>?_⟩;apply⟨C2,B2,ς,Sc _ _ eb,ec,(by rw[aJ];show _+1≤ax;lia),λD2 Hd Sd ed=>?_⟩;have S6d:=S6a.trans (Sb.trans (Sc.trans Sd));apply⟨ρ,ρ,ς,ρ,R,ρ,zL (S6d _ _ hR6),λG2 He Se ee=>?_⟩;rw[cutF (i:=(m:Int)+1) (n:=m+1) rfl] at ee;apply⟨D2,G2,ς,Se _ _ ed,ee,(by rw[ao,aJ,bE];show _+1+_≤ax;lia),λR' Hf Sf ef=>?_⟩;have Saf:=Sb.trans (Sc.trans (Sd.trans (Se.trans Sf)));have S6f:=S6a.trans Saf;apply k R' _ (rows.take m++[r']++rows.drop (m+1)) Hf (M06.then S6f) ef ?_ (λr hr=>?_) (by simp only[ao,aJ,bE,aG,gQ];lia)
 ·rw[av,av,jg,fZ]
  exact((rw6.same S6f).take.app (.one (Saf _ _ ea))).app (rw6.same S6f).drop
 ·rcases aX.mp hr with hr | hr
  ·rcases aX.mp hr with hr | hr
   ·exact fm r (iA hr)
   ·rw[aB.mp hr];exact fr'
  ·exact fm r (List.mem_of_mem_drop hr)
abbrev sNof:cN:=top 48
theorem labT_len:∀{ls:List Ln},(∀l∈ls,l.ss.length=l.rs.length+1)→(((labT ls).length:Nat):Int)=ib ls
 | [],_=>rfl
 | l::ls,h=>by
  have ih:=labT_len (ls:=ls) λx hx=>h x (aO _ hx)
  have e:=h l bJ;unfold labT ib at *;rw[List.flatMap_cons,ao,bo,fe,qE,←ih];lia
theorem own_le (ls:List Ln):(ls.flatMap oz).length≤(ls.map λl=>2 * l.rs.length).sum:=by
 induction ls with
 | nil=>exact aA _
 | cons l ls ih =>
  rw[List.flatMap_cons,ao,bo,fe];have:(oz l).length≤2 * l.rs.length:=qf l l.rs.length;lia
theorem hap_cast (ls:List Ln):(((ls.map λl=>2 * l.rs.length).sum:Nat):Int)=ib ls:=by
 induction ls with
 | nil=>rfl
 | cons l ls ih =>
  unfold ib at *;rw[bo,fe,bo,fe,←ih];lia
theorem hap_take2 (ls:List Ln)(m:Nat):ib (ls.take m)≤ib ls:=by
 have e:ib ls=ib (ls.take m)+ib (ls.drop m):=by
  conv=>lhs;rw[←eW m ls]
  unfold ib;rw[av,jb]
 have:=hapL_nn (ls.drop m);lia
structure NfI (H HA:Hp)(D LS LB:aq)(kvs:List (List Key×V))(f:Str→Str→Int×Int×Int)(sp lb:List (List V)):Prop where
 S:cg H HA
 d:HA D=some (.dT kvs)
 st:Styd HA kvs f
 s:TpI HA LS sp
 l:TpI HA LB lb
theorem NfI.same {HB:Hp}{LS:aq}{f:Str→Str→Int×Int×Int}{sp:List (List V)}(I:NfI H HA D LS LB kvs f sp lb)(S:cg HA HB):NfI H HB D LS LB kvs f sp lb:=⟨I.S.trans S,S _ _ I.d,I.st.keep λa t e=>S _ _ e,I.s.same S,I.l.same S⟩
theorem NfI.appL {LS B:aq}{f:Str→Str→Int×Int×Int}{sp:List (List V)}{t:List V}(I:NfI H HA D LS LB kvs f sp lb)(n1:H LB=none)(n2:LS≠LB)(hB:HA B=some (.tup t))(few:lb.length≤1000) :
  ∃ws:List V,HA LB=some (.lst ws)∧ws.length<ax∧NfI H (upd HA LB (.lst (ws++[.ref B]))) D LS LB kvs f sp (lb++[t]):=by
 obtain⟨ws,h1,h2,_,h3⟩:=I.l.app hB few;have k:∀a t,HA a=some (.tup t)→(upd HA LB (.lst (ws++[.ref B]))) a=some (.tup t):=λa t e=>by rw[bf (dz e h1 nofun)];exact e
 exact⟨ws,h1,h2,λc o e=>by rw[bf (aZ e n1)];exact I.S _ _ e,by rw[bf (dz I.d h1 nofun)];exact I.d,I.st.keep k,I.s.other n2 h1,h3⟩
theorem NfI.appS {LS B:aq}{f:Str→Str→Int×Int×Int}{sp:List (List V)}{t:List V}(I:NfI H HA D LS LB kvs f sp lb)(n1:H LS=none)(n2:LS≠LB)(hB:HA B=some (.tup t))(few:sp.length≤1000) :
  ∃ws:List V,HA LS=some (.lst ws)∧ws.length<ax∧NfI H (upd HA LS (.lst (ws++[.ref B]))) D LS LB kvs f (sp++[t]) lb:=by
 obtain⟨ws,h1,h2,_,h3⟩:=I.s.app hB few;have k:∀a t,HA a=some (.tup t)→(upd HA LS (.lst (ws++[.ref B]))) a=some (.tup t):=λa t e=>by rw[bf (dz e h1 nofun)];exact e
 exact⟨ws,h1,h2,λc o e=>by rw[bf (aZ e n1)];exact I.S _ _ e,by rw[bf (dz I.d h1 nofun)];exact I.d,I.st.keep k,h3,I.l.other (cM n2) h1⟩
theorem bts_drop {cs:List Ln}(h:Bts b cs (r::rs) bt):(r.bwn=0∧Bts b cs rs bt)∨∃k ns is sn b',r= .oth k ns is∧bt=sn::b'∧k ≠ "stay" ∧Btw b cs k ns is sn∧Bts b cs rs b':=by
 cases h with
 | skip h t=>exact .inl ⟨h,t⟩
 | btw hk B t=>exact .inr ⟨_,_,τ,hk,B,t⟩
theorem tups_isD {H:Hp}:∀{as:List aq} {sns:List Sn},as.map H=(sns.map lT).map (λt=>some (HO.tup t))→jc H (as.map V.ref) (sns.map λx=>.tup (x.row.map Dt.int))
 | [],[],_=>.nil
 | [],_::_,h=>by cases h
 | _::_,[],h=>by cases h
 | a::as,x::sns,h=>by
  rw[bo,bo,bo] at h;injection h with h1 h2
  exact .cons (.tup h1 (jc.ints x.row)) (tups_isD h2)
theorem scNof:cA ["_law_beat","_law_rows","_law_stays","_law_row","_law_spans","_law_labels","_law_k","_law_more"] pzf (defScope sNof):=by trivial
theorem ok_nof (F:Fun K "_law_net_of" "_law_net_of" sNof f fd)(T:Nm mg)(T2:Nt mg)(GT:Fn K mg "_law_two" sTwW pzo fT dT)(FT:‹0› 2 fT dT pzo spTwW):‹0› 3 f fd pzf spNof:=by
 specialize F.ok scNof;obtain ⟨R,xs,rows,b,bt,rfl,hR,rw_,pok,bts,k⟩:=h;have hr2:jI 2 _:=hr;have u1:=i9 (jN (show 1≤64 by decide) _) hr.units;apply ⟨_,PSl.h (bh ⟨(psZ 2 scNof.nd pe_dnewT)⟩
  (bh ⟨(iC bX rfl (gK (pv 1)) (pgZ 3 scNof.nd) (bD (eO (bK iM (cE aW (pv 3) aC (fun _ _=>rfl)) dU (cn _)) (bD (ps_dput u1 (pv 2) (fY (ah (cE aW (pv 3) aC (fun _ _=>rfl)) (ah (cE aW (pv 3) aC (fun _ _=>rfl)) aw))) (ff jV rfl T.ttup jL (ah (cV gc (pv 3) (dJ aC) eR) aw)) rfl)) cv)))⟩
  (bh ⟨(psZ 4 scNof.nd (kL aw))⟩
  (bh ⟨(psZ 5 scNof.nd (kL aw))⟩
  (bh ⟨(iC bX rfl (gK (pv 1)) (pgZ 3 scNof.nd) (bD (eO (bK iM (cE aW (pv 3) aC (fun _ _=>rfl)) dU (cn _)) (bD (iC bX rfl (oy rfl T2.range (ah aC (ah (bS bO rfl T.len aS (ah (pv 3) aw)) (ah aC aw)))) (pgZ 6 scNof.nd) (PSl.h (bh ⟨(ps_cut (eO (bK op_gt (pv 6) aC (cn _)) (bD (hW (jQ bu bN bM gp (pv 5) (ah (fY (ah (cE aW (pv 3) aC (fun _ _=>rfl)) (ah (cE aW (pv 3) (pv 6) (fun _ _=>rfl)) (ah dU aw)))) aw)))) cv))⟩
  (bh ⟨(ps_cut (eO (PW.pt (nN (bK op_gt (pv 6) aC (cn _)) (lU (bK pA (pv 6) (cw gL (bS bO rfl T.len aS (ah (pv 3) aw)) aC) (cn _))))) (bD (hW (jQ bu bN bM gp (pv 4) (ah (cw op_catA (fY (ah (cw gL (bS bO rfl T.len aS (ah (pv 5) aw)) aC) (ah (bS bO rfl T.len aS (ah (pv 5) aw)) aw))) (pe_dget2 u1 (pv 2) (fY (ah (cE aW (pv 3) aC (fun _ _=>rfl)) (ah (cE aW (pv 3) (pv 6) (fun _ _=>rfl)) aw))) (fY (ah aC (ah aC (ah aC aw)))) ⟨rfl,rfl,rfl,rfl⟩)) aw)))) cv))⟩
  (fj ⟨(eO (bK pA (pv 6) (cw gL (bS bO rfl T.len aS (ah (pv 3) aw)) aC) (cn _)) (PSl.h (bh ⟨(hW (jQ bu bN bM gp (pv 5) (ah (fY (ah (cE aW (pv 3) aC (fun _ _=>rfl)) (ah (cE aW (pv 3) (pv 6) (fun _ _=>rfl)) (ah dU aw)))) aw)))⟩
  (fj ⟨(hW (jQ bu bN bM gp (pv 4) (ah (fY (ah (cw gL (bS bO rfl T.len aS (ah (pv 5) aw)) aC) (ah (bS bO rfl T.len aS (ah (pv 5) aw)) (ah (cE aW (pv 3) (cw dZ (pv 6) aC) (fun _ _=>rfl)) (ah (cE aW (pv 3) (cw dZ (pv 6) aC) (fun _ _=>rfl)) (ah aC aw)))))) aw)))⟩))) cv)⟩)))))) cv)))⟩
  (bh ⟨(pq (iy:=7) (fr:=["_law_rows","_law_beat"]) (js:=[1,0]) scNof.nd rfl (.inl rfl) rfl (gK (pv 1)) ⇑0 rfl ⇑0 rfl (by exists sNof) ⇑0 rfl ⇑0 (fun _ _ _ _ _=>⟨(pc1 GT FT hr2 (ah (pv 1) (ah (pv 2) (ah (pv 0) aw)))),(nV (bK (r:=rIn K false) k8 (cE (r:=rIxL K) aW (pv 0) aC (fun _ _=>rfl)) (fY (ah dU (ah dU (ah dU aw)))) rfl))⟩))⟩
  (fj ⟨(cb (fY (ah (fY (ah (pv 0) (ah (bS bO rfl T.len aS (ah (pv 5) aw)) (ah (ff jV rfl T.ttup jL (ah (cw ip (pv 4) (pv 7)) aw)) aw)))) (ah (ff jV rfl T.ttup jL (ah (pv 5) aw)) aw))))⟩))))))),?_⟩
 and_intros
 apply sq6 ?_
 intros
 have big:(100000:Nat)≤ax:=by decide
 have ok:=pok.ok;have okI:=ok.okI;have few:=pok.few;have lxs:xs.length=rows.length:=by rw[rw_.len,ae]
 intro D hD;have S1:cg H (upd H D (.dT [])):=(cg.refl H).put hD;have h1:(upd H D (.dT [])) D=some (.dT []):=aP;generalize upd H D (.dT [])=H1 at S1 h1 ⊢;apply⟨ρ,R,rfl,⟨_,zL (S1 _ _ hR)⟩,?_⟩;apply jT (K:=K) (a:=R) (xs:=xs) (λi σ HA=>cg H HA∧(∃kvs,HA D=some (.dT kvs)∧kvs.length≤i∧Styd HA kvs (qX (rows.take i)))∧∃v3,σ=[some (.int b),some (.ref R),some (.ref D),v3,none,none,none,none])
  ⟨S1,⟨[],h1,aA _,λn z=>⟨(λv hv=>by cases hv),λ_=>rfl⟩⟩,none,rfl⟩ (λi σ HA _ q=>zL (q.1 _ _ hR)) ?_ ?_
 ·rintro i x σ HA hx ⟨SA,⟨kvs,hk,lk,st⟩,v3,rfl⟩
  have hi:i<rows.length:=by rw[←lxs];exact(aj.mp hx).1
  have hp:=gE hi;have et:rows.take (i+1)=rows.take i++[rows[i]]:=by rw[aQ,hp];rfl
  have okr:=ok i _ hp;obtain⟨a,hxa,hra⟩:=rw_.get i rows[i].rowV (by rw[ay,hp];rfl);rw[hx] at hxa;cases hxa;rw[et,qo];generalize rows[i]=r at okr hra ⊢;have hra2:=SA _ _ hra;cases r with
  | beat b=>exact rM okr id
  | line n ss rs =>
   have hra2:HA a=some (.lst (.str "line" :: .str n::iR ss rs)):=hra2;apply⟨ρ,a,τ,zL hra2,aH (j:=0) rfl,rfl,ρ,iQ ⇑0 ?_⟩;exact⟨SA,⟨kvs,hk,⋯,st⟩,ρ⟩
  | oth kk ns is =>
   have hra2:HA a=some (.lst (.str kk::(ns.map V.str++is.map V.int))):=hra2
   rcases okr with ⟨rfl,x,z,l,o,wt,q,_,rfl,rfl,_⟩ | ⟨hk',_⟩
   ·have hra2:HA a=some (.lst [.str "stay",.str x.n,.str z,.int l,.int o,.int wt]):=hra2
    apply⟨ρ,a,τ,zL hra2,aH (j:=0) rfl,rfl,ρ,lO (rO rfl) ?_⟩;apply⟨ρ,ρ,a,ρ,zL hra2,λC HB SB eB=>?_⟩;rw[cutF (i:=3) (n:=3) rfl] at eB;apply⟨C,ρ,zL eB,λt HC SC eC=>?_⟩;have SAC:=SB.trans SC;have hra3:=SAC _ _ hra2;apply⟨ρ,ρ,a,τ,zL hra3,aH (j:=1) rfl,ρ,a,τ,zL hra3,aH (j:=2) rfl,qW,λB HE SE eE=>?_⟩;have SAE:=SAC.trans SE;have eE:HE B=some (.tup (([.inr x.n,.inr z]:List Key).map kV)):=eE;have hD2:=SAE _ _ hk;apply⟨D,ρ,DPut.t hD2 eE ⋯,?_⟩;apply⟨λc o e=>by rw[bf (aZ e hD)];exact(SA.trans SAE) _ _ e,⟨_,aP,by have:=nY kvs ([.inr x.n,.inr z]:List Key) (.ref t);lia,λn' z'=>?_⟩,ρ⟩;rw[valV_put,qm];have iff_:(([.inr n',.inr z']:List Key)=[.inr x.n,.inr z])↔(n'=x.n∧z'=z):=by
     constructor
     ·intro h
      injection h with h1 h2
      injection h2 with h2 _
      injection h1 with h1
      injection h2 with h2
      exact⟨h1,h2⟩
     ·rintro⟨rfl,rfl⟩;rfl
    by_cases c:n'=x.n∧z'=z
    ·rw[rL c,rL (iff_.mpr c)]
     apply⟨λv hv=>?_,(λhv=>by cases hv)⟩;cases hv;exact⟨t,rfl,by rw[bf (dz (SE _ _ eC) hD2 nofun)];exact SE _ _ eC⟩
    ·rw[rK c,rK λh=>c (iff_.mp h)]
     exact(st.keep (λa t e=>by rw[bf (dz (SAE _ _ e) hD2 nofun)];exact SAE _ _ e)) n' z'
   ·apply⟨ρ,a,τ,zL hra2,aH (j:=0) rfl,rfl,ρ,iQ (rP λz=>hk' (by injection z)) ?_⟩
    rw[styS_no _ hk'];exact⟨SA,⟨kvs,hk,⋯,st⟩,ρ⟩
 rintro σ H2 ⟨S2,⟨kvs,hD2,_,st2⟩,v3,rfl⟩;rw[lxs,bG] at st2;apply⟨(by show 0≤ax;decide),λLS hLS=>?_⟩;have S3:cg H2 (upd H2 LS (.lst [])):=(cg.refl H2).put hLS;have h3:(upd H2 LS (.lst [])) LS=some (.lst []):=aP;generalize upd H2 LS (.lst [])=H3 at S3 h3 ⊢;apply⟨(by show 0≤ax;decide),λLB hLB=>?_⟩;have S4:cg H3 (upd H3 LB (.lst [])):=(cg.refl H3).put hLB;have h4:(upd H3 LB (.lst [])) LB=some (.lst []):=aP;have nSB:LS≠LB:=aZ h3 hLB;generalize upd H3 LB (.lst [])=H4 at S4 h4 ⊢;have fS:H2 LS=none:=hLS;have fB:H2 LB=none:=S3.free hLB;have I0:NfI H2 H4 D LS LB kvs (qX rows) [] []:=⟨S3.trans S4,(S3.trans S4) _ _ hD2,st2.keep λa t e=>(S3.trans S4) _ _ e,⟨[],S4 _ _ h3,rfl⟩,⟨[],h4,rfl⟩⟩;have lok:∀l∈iq rows,l.ss.length=l.rs.length+1∧1≤l.rs.length:=λl hl=>by
  have m:l.core∈lsC rows:=by rw[←eS];exact b8 hl
  obtain⟨_,_,_,a,_,c,_⟩:=ok.lnOk m;have a:2≤l.ss.length:=a;have c:l.ss.length=l.rs.length+1:=c;exact⟨c,⋯⟩
 have hap16:ib (iq rows)≤16:=by rw[←mj,eS];exact pok.hap
 have hRH4:=(S2.trans (S3.trans S4)) _ _ hR;apply⟨ρ,R,rfl,⟨_,zL hRH4⟩,?_⟩;apply jT (K:=K) (a:=R) (xs:=xs) (λi σ HA=>NfI H2 HA D LS LB kvs (qX rows) (spnT ((iq rows).take (lsC (rows.take i)).length)) (labT ((iq rows).take (lsC (rows.take i)).length))∧∃v3 v6,σ=[some (.int b),some (.ref R),some (.ref D),v3,some (.ref LS),some (.ref LB),v6,none])
  ⟨I0,_,none,rfl⟩ (λi σ HA _ q=>zL (q.1.S _ _ (S2 _ _ hR))) ?_ ?_
 ·rintro i x σ HA hx ⟨I,v3,v6,rfl⟩
  have hi:i<rows.length:=by rw[←lxs];exact(aj.mp hx).1
  have hp:=gE hi;have et:rows.take (i+1)=rows.take i++[rows[i]]:=by rw[aQ,hp];rfl
  have okr:=ok i _ hp;obtain⟨a,hxa,hra⟩:=rw_.get i rows[i].rowV (by rw[ay,hp];rfl);rw[hx] at hxa;cases hxa;rw[et,gf];have hra:=S2 _ _ hra;generalize rows[i]=r at okr hra hp ⊢;cases r with
  | beat b=>exact rM okr id
  | oth kk ns is =>
   have kl:kk ≠ "line":=(okI _ (aD hp)).1;have hra2:HA a=some (.lst (.str kk::(ns.map V.str++is.map V.int))):=I.S _ _ hra;apply⟨ρ,a,τ,zL hra2,aH (j:=0) rfl,rfl,ρ,iQ (rP λz=>kl (by injection z)) ?_⟩;exact⟨I,_,ρ⟩
  | line n ss rs =>
   obtain⟨l,hl,lc⟩:=lsOf_at hp;obtain⟨_,_,_,_,o4,o5,o6,_⟩:=okr;have hra:H2 a=some (.lst (.str "line" :: .str n::iR ss rs)):=hra;have lrow:(V.str "line" :: .str n::iR ss rs).length=2 * ss.length+1:=by rw[aG,aG,jD o6];lia
   have em:(oZ (lsC (rows.take i)) (.line n ss rs)).length=(lsC (rows.take i)).length+1:=by show(_++[_]).length=_;rw[ao];rfl
   rw[em];have hlm:=aD hl;have lst_:=sty_lsOf ok l hlm;have hF:ib ((iq rows).take (lsC (rows.take i)).length)=l.fi:=by
    have e1:((iq rows).take (lsC (rows.take i)).length).map Ln.core=lsC (rows.take i):=by
     obtain⟨t,e⟩:=lsC_pre rows i;rw[jg,eS,e,gP rfl]
    rw[←mj,e1];have:=rR Ln.fi lc;exact this.symm
   generalize hm:(lsC (rows.take i)).length=m at I hl hF ⊢;have e1:l.n=n:=rR Ln.n lc;have e2:l.ss=ss:=rR Ln.ss lc;have e3:l.rs=rs:=rR Ln.rs lc;have lbl:=labT_len (ls:=(iq rows).take m) λx hx=>(lok x (iA hx)).1
   have lbl16:(labT ((iq rows).take m)).length≤16:=by have:=hap_take2 (iq rows) m;lia
   have spl16:(spnT ((iq rows).take m)).length≤16:=by
    unfold spnT;rw[ae];have h1:=own_le ((iq rows).take m);have h2:=hap_cast ((iq rows).take m);have:=hap_take2 (iq rows) m;lia
   have tl:labT ((iq rows).take (m+1))=labT ((iq rows).take m)++mK n ss:=by
    unfold labT;rw[aQ,hl,lK];congr 1;show mK l.n l.ss++[]=_;rw[bY,e1,e2]
   have ts:spnT ((iq rows).take (m+1))=spnT ((iq rows).take m)++(oz l).map lT:=by
    unfold spnT;rw[aQ,hl,lK,av];congr 2;show oz l++[]=_;rw[bY]
   rw[tl,ts];generalize labT ((iq rows).take m)=lb0 at I lbl lbl16 ⊢;generalize spnT ((iq rows).take m)=sp0 at I spl16 ⊢;have lbF:((lb0.length:Nat):Int)=l.fi:=lbl.trans hF;have llabs:(mK n ss).length=2 * (ss.length - 1):=qE n ss;have hls:l.ss.length=l.rs.length+1:=by rw[e2,e3];exact o6
   have lown:((oz l).map lT).length=2 * ss.length - 3:=by rw[ae,own_lenS hls (by rw[e3];lia),e3];lia
   apply⟨ρ,a,τ,zL (I.S _ _ hra),aH (j:=0) rfl,rfl,ρ,lO (rO rfl) ?_⟩;apply⟨ρ,a,ρ,.inl (zL (I.S _ _ hra)),2,ρ,⟨↥0,↥0,by rw[lrow];lia,by rw[lrow];lia⟩,?_⟩;have en:((((V.str "line" :: .str n::iR ss rs).length:Nat):Int) - 2+1) / 2=(ss.length:Int):=by rw[lrow];lia
   rw[en,gq];apply nt (lo:=2) (n:=ss.length) (λj σ HC=>NfI H2 HC D LS LB kvs (qX rows) (sp0++((oz l).map lT).take (2 * j - 1)) (lb0++(mK n ss).take (2 * j - 1))∧∃v6,σ=[some (.int b),some (.ref R),some (.ref D),some (.ref a),some (.ref LS),some (.ref LB),v6,none])
    ⟨by show NfI _ _ _ _ _ _ _ (sp0++[]) (lb0++[]);rw[bY,bY];exact I,_,rfl⟩ ?_ ?_
   ·rintro j σ HC hj ⟨IC,v6,rfl⟩
    obtain⟨s1,hs1⟩:∃s,ss[j]? =some s:=⟨_,gE hj⟩;have g1:atI (V.str "line" :: .str n::iR ss rs) ((2:Int)+(j:Nat) * 2)=some (.str s1):=by
     rw[show(2:Int)+(j:Nat) * 2=((2 * j+1+1:Nat):Int) by lia];exact aH (by rw[aT,aT,qG j o6,hs1];rfl)
    have lbt:∀c:Nat,(lb0++(mK n ss).take c).length≤100:=λc=>by rw[ao,aJ];lia
    have spt:∀c:Nat,(sp0++((oz l).map lT).take c).length≤100:=λc=>by rw[ao,aJ];lia
    apply⟨λσ' H'=>NfI H2 H' D LS LB kvs (qX rows) (sp0++((oz l).map lT).take (2 * j - 1)) (lb0++(mK n ss).take (2 * j))∧σ'=[some (.int b),some (.ref R),some (.ref D),some (.ref a),some (.ref LS),some (.ref LB),some (.int ((2:Int)+(j:Nat) * 2)),none],λσ' H5 qq=>?_,?_⟩
    rotate_left
    ·cases j with
     | zero =>
      apply⟨ρ,ς,ρ,iQ ↥0 ?_⟩;exact⟨IC,rfl⟩
     | succ j =>
      apply⟨ρ,ς,ρ,lO (rO ⋯) ?_⟩;obtain⟨ws,hw,_⟩:=IC.l.len;apply⟨ρ,.inl ⟨rfl,_,zL hw⟩,ρ,a,τ,zL (IC.S _ _ hra),aH (j:=1) rfl,ρ,ρ,a,τ,zL (IC.S _ _ hra),g1,(by show 3≤ax;decide),λB H5 S5 e5=>?_⟩;obtain⟨ws2,hw2,lz,I5⟩:=(IC.same S5).appL fB nSB e5 (by have:=lbt (2 * (j+1) - 1);lia);apply⟨LB,ws2,ρ,rfl,hw2,lz,?_,rfl⟩;have e:(mK n ss).take (2 * (j+1))=(mK n ss).take (2 * (j+1) - 1)++[[.str n,.str s1,.str "comes"]]:=by
       rw[show 2 * (j+1)=2 * j+1+1 by lia,aQ,rH n hs1];rfl
      rw[e,←cG];exact I5
    obtain⟨I5,rfl⟩:=qq;apply⟨λσ' H'=>NfI H2 H' D LS LB kvs (qX rows) (sp0++((oz l).map lT).take (2 * j)) (lb0++(mK n ss).take (2 * j))∧σ'=[some (.int b),some (.ref R),some (.ref D),some (.ref a),some (.ref LS),some (.ref LB),some (.int ((2:Int)+(j:Nat) * 2)),none],λσ' H6 qq=>?_,?_⟩
    rotate_left
    ·cases j with
     | zero =>
      apply⟨ρ,ς,ρ,iQ ↥0 ?_⟩;exact⟨I5,rfl⟩
     | succ j =>
      apply⟨ρ,ς,ρ,lO (rO ⋯) ?_⟩;apply⟨ρ,ρ,a,ρ,.inl (zL (I5.S _ _ hra)),ς,ς,ρ,jq (λc=>?_) (λc=>?_)⟩
      ·have c:j+2<ss.length:=by have:=rQ c;rw[lrow] at this;lia
       obtain⟨wS,hwS,_⟩:=I5.s.len;obtain⟨wB,hwB,lwB⟩:=I5.l.len;have lwB:wB.length=lb0.length+(2 * j+2):=by rw[lwB,ao,aJ];lia
       apply⟨ρ,.inl ⟨rfl,_,zL hwS⟩,ρ,LB,ρ,.inl (zL hwB),ς,ρ,LB,ρ,.inl (zL hwB),qW,λC H6 S6 e6=>?_⟩;have I6:=I5.same S6;apply⟨ρ,D,rfl,.inr ⟨_,.inl I6.d⟩,ρ,a,τ,zL (I6.S _ _ hra),aH (j:=1) rfl,ρ,ρ,a,τ,zL (I6.S _ _ hra),g1,qW,λB H7 S7 e7=>?_⟩;apply⟨(by show 3≤ax;decide),λZ H8 S8 e8=>?_⟩;have I8:=I6.same (S7.trans S8);have e7:H8 B=some (.tup (([.inr n,.inr s1]:List Key).map kV)):=S8 _ _ e7;apply⟨_,DGet.t I8.d e7,?_⟩;obtain⟨st1,st2⟩:=I8.st n s1;obtain⟨Y,eY,hY⟩:∃Y,(l9 kvs [.inr n,.inr s1]).getD (.ref Z)= .ref Y∧H8 Y=some (.tup [.int (qX rows n s1).1,.int (qX rows n s1).2.1,.int (qX rows n s1).2.2]):=by
        cases hv:l9 kvs [.inr n,.inr s1] with
        | none=>exact⟨Z,rfl,by rw[st2 hv];exact e8⟩
        | some v =>
         obtain⟨Y,rfl,hY⟩:=st1 v hv;exact⟨Y,rfl,hY⟩
       rw[eY];apply⟨C,Y,ς,(S7.trans S8) _ _ e6,hY,(by show 2+3≤ax;decide),λB2 H9 S9 e9=>?_⟩;obtain⟨ws2,hw2,lz,I9⟩:=(I8.same S9).appS fS nSB e9 (by have:=spt (2 * (j+1) - 1);lia);apply⟨LS,ws2,ρ,rfl,hw2,lz,?_,rfl⟩;have e:((oz l).map lT).take (2 * (j+1))=((oz l).map lT).take (2 * (j+1) - 1)++[[.int ((wB.length:Nat) - 1),.int (wB.length:Nat),.int (qX rows n s1).1,.int (qX rows n s1).2.1,.int (qX rows n s1).2.2]]:=by
        rw[show 2 * (j+1)=2 * j+1+1 by lia,aQ,ay,own_stay hls (by rw[e2];exact hs1) (by rw[e2];exact c),lst_,e1];show _++[_]=_++[_];congr 2;show[V.int (l.fi+2 * j+1),V.int (l.fi+2 * j+2),_,_,_]=_;rw[show l.fi+2 * (j:Int)+1=((wB.length:Nat):Int) - 1 by lia,show l.fi+2 * (j:Int)+2=((wB.length:Nat):Int) by lia]
       rw[e,←cG];exact I9
      ·have c:ss.length=j+2:=by
        have:¬(j+2<ss.length):=λz=>c (rO (by rw[lrow];lia))
        lia
       apply⟨?_,rfl⟩;rw[bR (i:=2 * (j+1)) ⋯];rw[bR (i:=2 * (j+1) - 1) (l:=(oz l).map lT) ⋯] at I5;exact I5
    obtain⟨I6,rfl⟩:=qq;apply⟨ρ,ρ,a,ρ,.inl (zL (I6.S _ _ hra)),ς,ς,ρ,jq (λc=>?_) (λc=>?_)⟩
    ·have c:j+1<ss.length:=by have:=rQ c;rw[lrow] at this;lia
     obtain⟨r1,hr1⟩:∃r,rs[j]? =some r:=⟨_,gE ⋯⟩;have g3:atI (V.str "line" :: .str n::iR ss rs) ((2:Int)+(j:Nat) * 2+1)=some (.int r1):=by
      rw[show(2:Int)+(j:Nat) * 2+1=((2 * j+1+1+1:Nat):Int) by lia];exact aH (by rw[aT,aT,intr_r j o6,hr1];rfl)
     obtain⟨ws,hw,_⟩:=I6.l.len;apply⟨ρ,.inl ⟨rfl,_,zL hw⟩,ρ,a,τ,zL (I6.S _ _ hra),aH (j:=1) rfl,ρ,ρ,a,τ,zL (I6.S _ _ hra),g1,(by show 3≤ax;decide),λB H7 S7 e7=>?_⟩;obtain⟨ws2,hw2,lz,I7⟩:=(I6.same S7).appL fB nSB e7 (by have:=lbt (2 * j);lia);apply⟨LB,ws2,ρ,rfl,hw2,lz,?_⟩;have e:(mK n ss).take (2 * (j+1) - 1)=(mK n ss).take (2 * j)++[[.str n,.str s1,.str "goes"]]:=by
      rw[show 2 * (j+1) - 1=2 * j+1 by lia,aQ,labs_goes n hs1 c];rfl
     rw[cG,←e] at I7;generalize upd H7 LB (.lst (ws2++[.ref B]))=H8 at I7 ⊢;obtain⟨wS,hwS,_⟩:=I7.s.len;obtain⟨wB,hwB,lwB⟩:=I7.l.len;have lwB:wB.length=lb0.length+(2 * j+1):=by rw[lwB,ao,aJ];lia
     apply⟨ρ,.inl ⟨rfl,_,zL hwS⟩,ρ,LB,ρ,.inl (zL hwB),ς,ρ,LB,ρ,.inl (zL hwB),ρ,ρ,ς,a,τ,zL (I7.S _ _ hra),g3,ρ,ρ,ς,a,τ,zL (I7.S _ _ hra),g3,szZ5,λB2 H9 S9 e9=>?_⟩;obtain⟨ws3,hw3,lz3,I9⟩:=(I7.same S9).appS fS nSB e9 (by have:=spt (2 * j);lia);apply⟨LS,ws3,ρ,rfl,hw3,lz3,?_,ρ⟩;have e5:((oz l).map lT).take (2 * (j+1) - 1)=((oz l).map lT).take (2 * j)++[[.int ((wB.length:Nat) - 1),.int (wB.length:Nat),.int r1,.int r1,.int 0]]:=by
      rw[show 2 * (j+1) - 1=2 * j+1 by lia,aQ,ay,own_ride hls (by rw[e3];exact hr1)];show _++[_]=_++[_];congr 2;show[V.int (l.fi+2 * j),V.int (l.fi+2 * j+1),_,_,_]=_;rw[show l.fi+2 * (j:Int)=((wB.length:Nat):Int) - 1 by lia,show((wB.length:Nat):Int) - 1+1=((wB.length:Nat):Int) by lia]
     rw[cG,←e5] at I9;exact I9
    ·have c:ss.length=j+1:=by
      have:¬(j+1<ss.length):=λz=>c (rO (by rw[lrow];lia))
      lia
     apply⟨?_,ρ⟩;rw[bR (i:=2 * (j+1) - 1) (l:=(oz l).map lT) ⋯,bR (i:=2 * (j+1) - 1) (l:=mK n ss) ⋯];rw[bR (i:=2 * j) (l:=(oz l).map lT) ⋯,bR (i:=2 * j) (l:=mK n ss) ⋯] at I6;exact I6
   ·rintro σ HC ⟨IC,v6,rfl⟩
    apply⟨?_,_,ρ⟩;rw[bR (l:=(oz l).map lT) ⋯,bR (l:=mK n ss) ⋯] at IC;exact IC
 rintro σ H5 ⟨I5,v3,v6,rfl⟩;have em:(iq rows).take (lsC (rows.take xs.length)).length=iq rows:=by
  rw[lxs,bG];exact bR (by rw[←eS,ae];exact aA _)
 rw[em] at I5;have hR5:=I5.S _ _ (S2 _ _ hR);have rw5:=rw_.same (S2.trans I5.S);apply⟨ρ,R,rfl,⟨_,zL hR5⟩,?_⟩;have okE:∀r∈rows,r.okE:=λr hr=>okI_E (okI r hr)
 have nd:=ok.nd;have nss:∀x∈lsC rows,x.ss.Nodup:=λx hx=>(ok.lnOk hx).2.2.1
 apply ic (K:=K) (a:=R) (xs:=xs) (λi zs HA=>cg H5 HA∧∃(as:List aq) (m:Nat),zs=as.map V.ref∧as.map HA=((bt.take m).map lT).map (λt=>some (HO.tup t))∧Bts b (lsC rows) (rows.drop i) (bt.drop m)∧as.length≤i) ⟨cg.refl _,[],0,rfl,rfl,bts,aA _⟩ (λi zs HA _ q=>?_) ⋯ (λi x zs HA hx q=>?_) (λzs HA q D2 hD2'=>?_)
 ·obtain⟨SA,as,m,rfl,_,_,la⟩:=q
  exact⟨zL (SA _ _ hR5),by rw[ae];exact la⟩
 ·obtain⟨SA,as,m,rfl,hA,bA,la⟩:=q
  have hi:i<rows.length:=by rw[←lxs];exact(aj.mp hx).1
  have hp:=gE hi;obtain⟨a,hxa,hra⟩:=rw5.get i rows[i].rowV (by rw[ay,hp];rfl);rw[hx] at hxa;cases hxa;have hra:=SA _ _ hra;have okr:=okI _ (cu hi);rw[my hi] at bA;obtain⟨h0,t0,er⟩:∃h0 t0,rows[i].rowV= .str h0::t0:=rowV_str _;have hra0:HA a=some (.lst (.str h0::t0)):=by rw[hra,er]
  apply⟨ρ,a,τ,zL hra0,aH (j:=0) rfl,(by show 3≤ax;decide),λW HB SB eB=>?_⟩;apply⟨W,ρ,.inr (zT eB),rfl,rfl,ρ,?_⟩;have kA:as.map HB=((bt.take m).map lT).map (λt=>some (HO.tup t)):=jO hA λc t e=>SB _ _ e
  show if inV (.str h0) ((["change","apart","meet"]:List Str).map V.str)=true then _ else _;rw[qH]
  rcases bts_drop bA with ⟨b0,bt'⟩ | ⟨kk,ns,is,sn,b',e1,e2,hk,B,bt'⟩
  ·apply iQ ?_ ⟨SA.trans SB,as,m,rfl,kA,bt',⋯⟩
   have:h0 = "line" ∨h0 = "stay":=by
    generalize rows[i]=r at er b0 okr;cases r with
    | beat b=>exact rM okr id
    | line n ss rs=>injection er with er _;injection er with er;exact .inl er.symm
    | oth kk ns is =>
     injection er with er _
     injection er with er
     by_cases c:kk = "stay"
     ·exact .inr (er.symm.trans c)
     ·have b0:(if kk = "stay" then 0 else 1)=0:=b0
      rw[rK c] at b0;cases b0
   apply rP ?_
   rcases this with rfl | rfl <;> decide +kernel
  ·obtain⟨x,y,hx',hy',ne',B'⟩:=id B
   have fm:=bt_form B';rw[e1] at er hra;have hk0:h0=kk:=by injection er with er _;injection er with er;exact er.symm
   apply lO (rO (by rw[hk0];cases fm <;> simp)) ?_;apply⟨ρ,ρ,ρ,R,a,xs,rows,b,kk,ns,is,rfl,(SA.trans SB) _ _ hR5,rw5.same (SA.trans SB),okE,⋯,SB _ _ hra,fm,λt s g l o wt HC SC eC tw=>?_⟩;obtain⟨q1,q2,q3,q4,q5⟩:=tw.of nd nss B;have eC:HC t=some (.tup (lT sn)):=by rw[eC,q1,q2,q3,q4,q5];rfl
   have hm:m<bt.length:=by
    by_cases c:m<bt.length
    ·exact c
    ·rw[List.drop_of_length_le ⋯] at e2;cases e2
   rw[my hm] at e2;injection e2 with e2 e3
   apply⟨SA.trans (SB.trans SC),as++[t],m+1,by rw[av];rfl,?_,by rw[e3];exact bt',by rw[ao];show _+1≤_;lia⟩;rw[av,aQ,gE hm,e2,av,av,jO kA λc t e=>SC _ _ e];show _++[HC t]=_++[_];rw[eC]
 obtain⟨SA,as,m,rfl,hA,bA,la⟩:=q;rw[lxs,List.drop_of_length_le (aA _)] at bA;have bA':bt.drop m=[]:=by
  generalize bt.drop m=z at bA;cases bA;rfl
 have tk:bt.take m=bt:=bR (by have:=rR g9 bA';rw[bE] at this;simp at this;lia);rw[tk] at hA;have S6:cg HA (upd HA D2 (.lst (as.map V.ref))):=(cg.refl HA).put hD2';have h6:(upd HA D2 (.lst (as.map V.ref))) D2=some (.lst (as.map V.ref)):=aP;generalize upd HA D2 (.lst (as.map V.ref))=H6 at S6 h6 ⊢;have I6:=I5.same (SA.trans S6);have hA6:as.map H6=(bt.map lT).map (λt=>some (HO.tup t)):=jO hA λc t e=>S6 _ _ e
 obtain⟨sa,hsa,dsa⟩:=I6.s.ex;obtain⟨lba,hlb,dlb⟩:=I6.l.ex;have lsa:sa.length≤100:=by
  have e:=rR g9 dsa;rw[ae,ae] at e;unfold spnT at e;rw[ae] at e;have h1:=own_le (iq rows);have h2:=hap_cast (iq rows);lia
 apply⟨ρ,ρ,LB,ρ,.inl (zL hlb),ρ,ρ,LS,D2,ς,hsa,h6,(by rw[ae,ae];lia),λC H7 S7 e7=>?_⟩;apply⟨C,ρ,zL e7,λt H8 S8 e8=>?_⟩;apply⟨(by show 3≤ax;decide),λN H9 S9 e9=>?_⟩;have S69:=S7.trans (S8.trans S9);apply⟨ρ,LB,ρ,zL (S69 _ _ hlb),λU Ha Sa ea=>?_⟩;apply⟨qW,λr Hb Sb eb=>?_⟩;have S6b:=S69.trans (Sa.trans Sb);have dd:(sa++as).map Hb=((pW (iq rows) bt).map lT).map (λt=>some (HO.tup t)):=by
  unfold pW;rw[av,av,av];congr 1
  ·exact jO dsa λc t e=>S6b _ _ e
  ·exact jO hA6 λc t e=>S6b _ _ e
 have lbl:((lba.map V.ref).length:Int)=ib (iq rows):=by
  rw[ae];have e:=rR g9 dlb;rw[ae,ae] at e;rw[e];exact labT_len λx hx=>(lok x hx).1
 apply k _ Hb (S2.trans (I6.S.trans S6b)) (.tup eb (.cons (.tup ((Sa.trans Sb) _ _ e9) ?_) (.cons (.tup (Sb _ _ ea) ?_) .nil)))
 ·rw[lbl]
  apply .cons (.int _) (.cons (.int _) (.cons (.tup ((S9.trans (Sa.trans Sb)) _ _ e8) ?_) .nil));rw[←av];exact tups_isD dd
 ·exact labs_isD (jO dlb λc t e=>S6b _ _ e) λt ht=>by
   obtain⟨y,_,hy⟩:=List.mem_flatMap.mp ht;exact oM _ _ t hy
theorem frm_wok (h:r.frm):r.rowV≠[]∧r.rowV.length≤12∧(∀v∈r.rowV,WOk v)∧r.wds (r.rowV.map wdS):=by
 obtain⟨wd,_,l11⟩:=frm_wd h;cases r with
 | beat b=>exact rM h id
 | line n ss rs =>
  obtain⟨h1,h2,h4,h5,h6,w⟩:=h;have li:(iR ss rs).length=2 * ss.length - 1:=jD h6;apply⟨by show _::_≠[];simp,⋯,λv hv=>?_,rfl,⟨?_,?_,?_,rfl,?_,?_,h1,h2,w⟩⟩
  ·have hv:v∈V.str "line" :: (PR.line n ss rs).rowV.drop 1:=hv
   rcases az.mp hv with rfl | hv
   ·exact .inl ⟨ρ,by trivial⟩
   ·exact wd v hv
  ·rw[ae];show 5≤(iR ss rs).length+1+1;lia
  ·rw[ae];show(iR ss rs).length+1+1≤100000;lia
  ·rw[ae];show((iR ss rs).length+1+1) % 2=1;lia
  ·show evs ((iR ss rs).map wdS)=ss
   rw[←qL,oN h6,b9];show ss.map id=ss;rw[List.map_id]
  ·show evs (((iR ss rs).map wdS).drop 1)=rs.map lH
   rw[←fZ,←qL,intr_evs1 h6,b9];rfl
 | oth k ns is =>
  obtain⟨h1,k3,k4⟩:=h;have k12:nam k=true∧(k,ns.length,is.length)∈fms:=by
   rcases h1 with ⟨rfl,n,z,l,o,w,rfl,rfl⟩ | h1
   ·exact⟨by trivial,by simp[fms]⟩
   ·cases h1
    ·exact⟨by trivial,by simp[fms]⟩
    ·exact⟨by trivial,by simp[fms]⟩
    ·exact⟨by trivial,by simp[fms]⟩
  apply⟨by show _::_≠[];simp,⋯,λv hv=>?_,?_,k12.2,k3,k4⟩
  ·have hv:v∈V.str k::(PR.oth k ns is).rowV.drop 1:=hv
   rcases az.mp hv with rfl | hv
   ·exact .inl ⟨ρ,k12.1⟩
   ·exact wd v hv
  ·show k::(ns.map V.str++is.map V.int).map wdS=_
   rw[av,b9,b9];show k::(ns.map id++is.map lH)=_;rw[List.map_id]
theorem netF_of {rows:List PR}(wb:W60 b)(fm:∀r∈rows,r.frm)(few:rows.length≤69):NetF (planT b (rows.map PR.rowV)) b rows:=by
 have ok:∀r∈rows,_:=λr hr=>frm_wok (fm r hr)
 have ok2:∀r∈rows.map PR.rowV,r.length≤12∧∀v∈r,WOk v:=λr hr=>by
  obtain⟨q,hq,rfl⟩:=aK.mp hr;exact⟨(ok q hq).2.1,(ok q hq).2.2.1⟩
 apply⟨("beat " :Str)++lH b,rows.map λr=>(rp r.rowV,r),planT_len2 wb ok2 (by rw[ae];lia),?_,few,?_,beat_split wb,wb,λq hq=>?_,?_,fm⟩
 ·rw[planT_split wb λr hr=>(ok2 r hr).2,b9,b9]
  rfl
 ·rw[nZ]
  have:=mD wb;have h5:("beat " :Str).length=5:=by trivial
  lia
 ·obtain⟨r,hr,rfl⟩:=aK.mp hq
  obtain⟨o1,o2,o3,o4⟩:=ok r hr;apply⟨by have:=rowW_len2 o3 o2;show(rp r.rowV).length≤100000;lia,?_⟩;show r.wds (c8 (rp r.rowV) sp_);rw[rowW_split o3 o1];exact o4
 ·rw[b9]
  exact List.map_id rows
theorem lB.frm (h:lB b pre r)(hp:∀x∈lsC pre,(PR.line x.n x.ss x.rs).lnOk):r.frm:=by
 cases r with
 | beat b=>exact rM h id
 | line n ss rs =>
  obtain⟨_,h1,h2,h3,h4,h5,h6,h7⟩:=h;exact⟨h1,h2,h4,h5,h6,λr hr=>h7 r hr⟩
 | oth k ns is =>
  obtain⟨_,_,k3,k4,_⟩:=h.oth hp;apply⟨?_,k3,k4⟩
  rcases h with ⟨rfl,x,z,l,o,w,i,hx,rfl,rfl,_⟩ | ⟨hk,sn,⟨x,y,hx,hy,ne,B⟩,_,wi⟩
  ·exact .inl ⟨rfl,_,_,τ⟩
  ·cases B with
   | change=>exact .inr .change
   | apart=>exact .inr .apart
   | meet=>exact .inr .meet
theorem gJ.frm {rows:List PR}(h:gJ b rows):∀r∈rows,r.frm:=λr hr=>by
 obtain⟨i,hi⟩:=cP hr;exact(h i r hi).frm λx hx=>(h.take i).lnOk hx
theorem Wrg.not (a:Wrg b rs i)(h1:1≤b)(u:UpTo b rs rs.length)(ne:lsC rs≠[]):False:=by
 cases a with
 | beat h=>lia
 | row h u2 e no=>exact no (u _ _ (aj.mp e).1 e)
 | none h u2 e=>exact ne e
theorem DueR.one {d e:Int}(h:DueR b rs d)(k:DueR b rs e):d=e:=by
 rcases h with ⟨i,w1,rfl⟩ | ⟨a1,a2,a3,rfl⟩
 ·rcases k with ⟨j,w2,rfl⟩ | ⟨c1,c2,c3,rfl⟩
  ·rw[w1.one w2]
  ·exact(w1.not c1 c2 c3).elim
 ·rcases k with ⟨j,w2,rfl⟩ | ⟨c1,c2,c3,rfl⟩
  ·exact(w2.not a1 a2 a3).elim
  ·rfl
theorem plan_of {rows:List PR}(h1:1≤b)(u:UpTo b rows rows.length)(ne:lsC rows≠[])(few:rows.length≤70):PlanOk b rows:=by
 have r:=u.rows;have c:=u.cnt (aA _);rw[bG] at r c;exact⟨h1,r,c.1,c.2,few,ne⟩
theorem passN:mq (CXN X.prog X.w) X E0:=λaL σ H s e s' I h=>by
 obtain⟨a,cls,dct,B,H2,rfl,os,bare,al,air,hE⟩:=h;exact hE.elim
theorem rA:∀{ds:List Dt},(∀d∈ds,pl d=true)→pls ds=true
 | [],_=>by unfold pls;rfl
 | d::ds,h=>by
  unfold pls;rw[h d bJ,rA λx hx=>h x (aO _ hx)];rfl
theorem pK {n:Nat}:∀{ds:List Dt},(∀d∈ds,dep d≤n)→deps ds≤n
 | [],_=>by unfold deps;lia
 | d::ds,h=>by
  unfold deps;have:=h d bJ;have:=pK (ds:=ds) λx hx=>h x (aO _ hx)
  lia
theorem pl_tup (h:pls ds=true):pl (.tup ds)=true:=by unfold pl;exact h
theorem qP (h:deps ds≤n):dep (.tup ds)≤n+1:=by unfold dep;lia
theorem lab_strs (ls:List Ln):∃lss:List (List Str),(allLL ls).map (λt=>Dt.tup (t.map vD))=(lss.map λs=>.tup (s.map Dt.str))∧∀ss∈lss,ss.length≤10:=by
 have all:∀t∈allLL ls,∃a b c:Str,t=[.str a,.str b,.str c]:=λt ht=>by
  obtain⟨y,_,hy⟩:=List.mem_flatMap.mp ht;exact oM _ _ t hy
 generalize allLL ls=ts at all
 induction ts with
 | nil=>exact⟨[],rfl,(λss h=>by cases h)⟩
 | cons t ts ih =>
  obtain⟨lss,e,f⟩:=ih λx hx=>all x (aO _ hx)
  obtain ⟨a,b,c,rfl⟩:=all t bJ;exact ⟨[a,b,c]::lss,by rw[bo,e];rfl,fun ss hs=>by
   rcases az.mp hs with rfl | hs
   ·simp
   ·exact f ss hs⟩
theorem found_pl (b m:Int)(sp:List Sn)(lss:List (List Str)):pls [netP b m sp,.tup (lss.map λs=>.tup (s.map Dt.str))]=true∧deps [netP b m sp,.tup (lss.map λs=>.tup (s.map Dt.str))]<60:=by
 constructor
 ·apply rA λd hd=>?_
  simp only[az,bg,or_false] at hd
  rcases hd with rfl | rfl
  ·exact pl_tup (rA fun d hd=>by
    simp only[az,bg,or_false] at hd
    rcases hd with rfl | rfl | rfl
    ·unfold pl;rfl
    ·unfold pl;rfl
    ·apply pl_tup (rA λd hd=>?_)
     obtain ⟨x,_,rfl⟩:=aK.mp hd;exact pl_tup (pls_ints _))
  ·apply pl_tup (rA λd hd=>?_)
   obtain⟨x,_,rfl⟩:=aK.mp hd;apply pl_tup (rA λd hd=>?_);obtain⟨y,_,rfl⟩:=aK.mp hd;unfold pl;rfl
 ·apply i9 (pK (n:=5) λd hd=>?_) ↥0
  simp only[az,bg,or_false] at hd
  rcases hd with rfl | rfl
  ·apply qP (pK λd hd=>?_)
   simp only[az,bg,or_false] at hd
   rcases hd with rfl | rfl | rfl
   ·unfold dep;lia
   ·unfold dep;lia
   ·apply qP (pK λd hd=>?_)
    obtain⟨x,_,rfl⟩:=aK.mp hd;exact qP (by rw[deps_ints];lia)
  ·apply qP (pK λd hd=>?_)
   obtain⟨x,_,rfl⟩:=aK.mp hd;apply qP (pK λd hd=>?_);obtain⟨y,_,rfl⟩:=aK.mp hd;unfold dep;lia
abbrev sLaw:cN:=top 62
theorem ite_go {c:Prop}[Decidable c]{A B:Prop}{REST:L2.St→Hp→Prop}(σ:Int→L2.St)(h0:0≤b)(h1:b≤10 ^ 21)(hB:REST (σ b) H→B)(hA:REST (σ 0) H→A)(go:∀b',0≤b'→b'≤10 ^ 21→REST (σ b') H):if c then A else B:=by
 split
 ·exact hA (go 0 (j6 _) ↥0)
 ·exact hB (go b h0 h1)
inductive spLaw (K:ak)(vs:List V)(H:Hp)(Q:VK)(_:XK):Prop
 | mk (a:aq)(ns:List Int)(_:vs=[.ref a])(_:SqL K H a (ns.map V.int))(_:ns.length≤63)(_:∀H',Q (.bl true) H')
theorem scLaw:cA ["_law_script","_law_beat","_law_rows","_law_pot_here","_law_k","_law_due","_law_text_here"] pzn (defScope sLaw):=by trivial
theorem ok_law {fP fQ fB fF fX fD fN fO U:aq}{dP dQ dB dF dX dD dN dO d0:aY}(F:Fun K "law" "law" sLaw f fd)(T:Nm mg)(T2:Nt mg)
  (NP:NPc K mg C U f0) (FI:‹0› 1 f0 d0 pza (spInitNP C)) (BI:Binds K d0 pza [])
  (GP:Fn K mg "_law_plan" sPln pzn fP dP) (FP:‹0› 4 fP dP pzn (spPln K))
  (GQ:Fn K mg "_law_pot" sPotT pze fQ dQ) (FQ:‹0› 2 fQ dQ pze (spPotT K))
  (GT:Fn K mg "_law_take" qu pzd fT dT)
  (GB:Fn K mg "_law_bent" sBnt pzH fB dB) (FB:‹0› 3 fB dB pzH spBnt)
  (GF:Fn K mg "_law_first_wrong" sFwr pzf fF dF) (FF:‹0› 4 fF dF pzf spFwr)
  (GX:Fn K mg "_law_text" sTxt pzf fX dX) (FX:‹0› 1 fX dX pzf spTxt)
  (GD:Fn K mg "_law_told" sTdn pzw fD dD) (FD:‹0› 9 fD dD pzw spTdn)
  (GN:Fn K mg "net_by" sNetBy pzg fN dN) (FN:cS P w K mg base (CXN P w) 8 fN dN pzg (p8 C))
  (GO:Fn K mg "_law_net_of" sNof pzf fO dO) (FO:‹0› 3 fO dO pzf spNof):‹0› 10 f fd pzn (spLaw K):=by
 have FT:‹0› 1 fT dT pzd nM:=mB GT.F;specialize F.ok scLaw;obtain ⟨a,ns,rfl,ha,hl,k⟩:=h;have hr1:jI 1 _:=hr.mono ↥0;have hr2:jI 2 _:=hr.mono ↥0;have hr3:jI 3 _:=hr.mono ↥0;have hr4:jI 4 _:=hr.mono ↥0;have hr8:jI 8 _:=hr.mono ↥0;have hr9:jI 9 _:=hr;apply ⟨_,PSl.h (bh ⟨(ps_asg (pc1 GP FP hr4 (ah (pv 0) aw)) (rB rfl (iK (pgZ 1 scLaw.nd) (iK (pgZ 2 scLaw.nd) pw))))⟩
  (bh ⟨(psZ 3 scLaw.nd (pc1 GQ FQ hr2 (ah (pv 0) (ah aC aw))))⟩
  (bh ⟨(eO (bK iM (pc1 GT FT hr1 (ah (pv 3) (ah aC aw))) aC (cn _)) (bD (psZ 1 scLaw.nd aC)) cv)⟩
  (bh ⟨(iC bX rfl (ku rfl T2.range (ah (cw dZ aC (pc1 GT FT hr1 (ah (pv 3) (ah aC aw)))) aw)) (pgZ 4 scLaw.nd) (bD (psZ 2 scLaw.nd (pc1 GB FB hr3 (ah (pv 3) (ah (pv 1) (ah (pv 2) aw)))))))⟩
  (bh ⟨(eO (bK pz (pe_xfldN K (pe_makeX (E:=E0) NP.mke FI hr2 rfl NP.mgC BI .nil passX ↥0 (ah (bS bO rfl T.len aS (ah (pv 2) aw)) aw))) (bS bO rfl T.len aS (ah (pv 2) aw)) (cn _)) (bD (cb qy)) cv)⟩
  (bh ⟨(psZ 5 scLaw.nd (pc1 GF FF hr4 (ah (pv 1) (ah (pv 2) aw))))⟩
  (bh ⟨(psZ 6 scLaw.nd (pc1 GX FX hr1 (ah (pv 1) (ah (pv 2) aw))))⟩
  (bh ⟨(eO (bK pz (pc1 GD FD hr9 (ah (pv 6) aw)) (pv 5) (cn _)) (bD (cb qy)) cv)⟩
  (fj ⟨(cb (pe_or (iT op_ge (pv 5) aC (cn _)) (nP (iT (op_eqD hr.units) (pe_call FN hr8 rfl GN.mg GN.F.kp GN.b .nil passN (ah (pv 6) aw)) (pc1 GO FO hr3 (ah (pv 1) (ah (pv 2) aw))) (cn _)))))⟩))))))))),?_⟩
 and_intros
 apply sq8 ?_
 intros
 apply⟨ρ,a,ns,rfl,ha,hl,λq L xs b rows H1 S1 eq eL rw1 b2 few pok=>?_⟩;apply⟨q,ρ,zT eq,rfl,_,ρ,ς,?_⟩;have ha1:SqL K H1 a (ns.map V.int):=SqL.kept' S1 ha;apply⟨ρ,a,ns,7,rfl,ha1,↥0,↥0,λn p np=>?_⟩;have S2:cg H1 (upd H1 p (.lst [.int n])):=(cg.refl H1).put np;have hp2:(upd H1 p (.lst [.int n])) p=some (.lst [.int n]):=aP;generalize upd H1 p (.lst [.int n])=H2 at S2 hp2 ⊢;have fm:=pok.ok.frm;have two:∀{rows:List PR},(∀r∈rows,r.frm)→∀r∈rows.map PR.rowV,2≤r.length:=λ{rows} fm r hr=>by
  obtain⟨q,hq,rfl⟩:=aK.mp hr;have:=(frm_wd (fm q hq)).2.1;lia
 have b1:=pok.b1;apply⟨ρ,p,n,16,rfl,hp2,↥0,↥0,λr H3 _ _ M3=>?_⟩;have rw2:=rw1.same S2;have eL2:=S2 _ _ eL;have eL3:=M3.at eL2 (rw2.nep hp2 eL2);have rw3:=rw2.mv M3 hp2 (two fm);obtain⟨n3,hp3⟩:=M3.2;apply⟨rfl,ρ,?_⟩;apply ite_go (λb'=>[some (.ref a),some (.int b'),some (.ref L),some (.ref p),none,none,none]) ⋯ b2 (λx=>x) (λx=>x) λb' b0' b1'=>?_
 clear b1 b2;apply⟨ρ,p,n3,3,rfl,hp3,↥0,↥0,λr3 H4 r30 r31 M4=>?_⟩;have eL4:=M4.at eL3 (rw3.nep hp3 eL3);have rw4:=rw3.mv M4 hp3 (two fm);obtain⟨n4,hp4⟩:=M4.2;apply⟨ς,ρ,⋯,⋯,?_⟩
 let pZ1:zV:=λi σ HA=>∃(R:aq) (xs:List V) (rows:List PR) (nA:Int) (v4:Option V),σ=[some (.ref a),some (.int b'),some (.ref R),some (.ref p),v4,none,none]∧HA p=some (.lst [.int nA])∧HA R=some (.lst xs)∧jM HA xs (rows.map PR.rowV)∧(∀r∈rows,r.frm)∧rows.length≤63+i
 apply mm (n:=(1+r3).toNat) pZ1
  ⟨L,xs,rows,n4,none,rfl,hp4,eL4,rw4,fm,few⟩ ?_ ?_
 ·rintro i σ HA hi ⟨R,xs,rows,nA,v4,rfl,hpA,hR,rwA,fm,few⟩
  apply⟨ρ,ρ,ρ,p,nA,b',R,xs,rows,rfl,hpA,b0',b1',hR,rwA,fm,⋯,λR' xs' rows' H' M' hR' rw' fm' l'=>?_⟩;obtain⟨n',hp'⟩:=M'.2;exact⟨R',xs',rows',n',ρ,hp',hR',rw',fm',⋯⟩
 ·clear eL4 rw4 hp4 fm few
  rintro σ HA ⟨R,xs,rows,nA,v4,rfl,hpA,hR,rwA,fm,few⟩;have few:rows.length≤66:=by lia
  have lxs:xs.length=rows.length:=by rw[rwA.len,ae]
  apply⟨ρ,R,ρ,.inl (zL hR),λy ny far=>⟨y,ρ,aP,λd nd ne=>⟨rfl,y,C,d,_,ρ,(by rw[bf (cM ne)];exact aP),aP,NP.cl,NP.na,npF_row,?_⟩⟩⟩;have SB:cg HA (upd (upd (upd HA y (XN y C none)) y (XN y C (some d))) d (XD d (npF (xs.length:Nat)))):=by
   rw[upd_upd];rw[bf ne] at nd;exact((cg.refl HA).put ny).put (by rw[bf ne];exact nd)
  generalize upd (upd (upd HA y (XN y C none)) y (XN y C (some d))) d (XD d (npF (xs.length:Nat)))=HB at SB ⊢;have hRB:=SB _ _ hR;have rwB:=rwA.same SB;apply⟨ρ,R,ρ,.inl (zL hRB),rfl,ρ,iQ (by rw[rO rfl];rfl) ?_⟩;apply⟨ρ,ρ,b',R,xs,rows,rfl,hRB,rwB,fm,⋯,λdue HC SC hdue=>?_⟩;have wb:W60 b':=⟨⋯,⋯⟩;apply⟨ρ,ρ,b',R,xs,rows.map PR.rowV,rfl,wb,SC _ _ hRB,rwB.same SC,by rw[ae];lia,λr hr=>?_,λHD SD=>?_⟩
  ·obtain⟨z,hz,rfl⟩:=aK.mp hr
   have ok:=frm_wok (fm z hz);exact⟨by have:=ok.2.1;lia,λv hv=>(ok.2.2.1 v hv).wd⟩
  have nf:=netF_of wb fm ⋯;generalize planT b' (rows.map PR.rowV)=tx at nf ⊢;apply⟨ρ,tx,b',rows,rfl,nf,λd2 HE SE hd2=>?_⟩;obtain rfl:=hd2.one hdue;apply⟨ρ,rfl,ρ,iQ (by rw[rO rfl];rfl) ?_⟩;apply⟨ρ,ς,ρ,jq (λc1=>?_) (λc1=>?_)⟩
  ·exact k HE
  ·have c1:¬(0:Int)≤d2:=λz=>c1 (rO z)
   rcases hdue with ⟨i,_,rfl⟩ | ⟨h1,up,ne,rfl⟩
   ·exact rM (Int.natCast_nonneg i) c1
   have S0E:=SC.trans (SD.trans SE);apply⟨ρ,tx,b',rows,rfl,nf,(λi H' _ wr=>(wr.not h1 up ne).elim),λbt v HF _ _ _ ru SF dF=>?_⟩;have pok:=plan_of h1 up ne ⋯;have bts:=pok.bts ru;obtain⟨lss,els,few10⟩:=lab_strs (iq rows);rw[els] at dF;obtain⟨pl_,dep_⟩:=found_pl b' (ib (iq rows)) (pW (iq rows) bt) lss;have SBF:=S0E.trans SF;apply⟨ρ,ρ,R,xs,rows,b',bt,rfl,SBF _ _ hRB,rwB.same SBF,pok,bts,λv2 HG SG dG=>?_⟩;rw[els] at dG;apply⟨_,_,dF.same SG,dG,pl_,pl_,dep_,?_⟩;rw[qM _ pl_];exact k HG
theorem tupK2 {t:aq}{x y:Int}{a b:Tok}(h:K.lookup t=some ⟨.type "tuple",od,.seq #[.int x a,.int y b] n,sl⟩)(H:Hp):SqT K H t [.int x,.int y]:=
 .inr ⟨_,#[.int x a,.int y b],n,h,rfl,rfl,qW,.cons ⟨_,rfl⟩ (.cons ⟨_,rfl⟩ .nil)⟩
theorem unt_mk {t:aq}{a b c:Tok}(hm:mg "STAY_UNTOLD" =some (.ref t))(h:K.lookup t=some ⟨.type "tuple",od,.seq #[.int 0 a,.int 0 b,.int 0 c] n,sl⟩):Unt K mg:=
 ⟨t,hm,λH=>.inr ⟨_,#[.int 0 a,.int 0 b,.int 0 c],n,h,rfl,rfl,(by show 3≤ax;decide),.cons ⟨_,rfl⟩ (.cons ⟨_,rfl⟩ (.cons ⟨_,rfl⟩ .nil))⟩⟩
theorem fms_mk {aF t1 t2 t3 t4:aq}{k1 k2 k3 k4 a1 a2 a3 a4 b1 b2 b3 b4:Tok}{m1 m2 m3 m4:Nat}{o1 o2 o3 o4:Option aq}{l1 l2 l3 l4:Array (Option af)}(hm:mg "FORMS" =some (.ref aF))(hs:(aF == gY)=false)
  (hl:K.lookup aF=some ⟨.type "dict",none,.dict #[⟨eU w.params "stay",.str "stay" k1,.ref t1⟩,⟨eU w.params "change",.str "change" k2,.ref t2⟩,⟨eU w.params "apart",.str "apart" k3,.ref t3⟩,⟨eU w.params "meet",.str "meet" k4,.ref t4⟩] n,#[]⟩)
  (h1:K.lookup t1=some ⟨.type "tuple",o1,.seq #[.int 2 a1,.int 3 b1] m1,l1⟩) (h2:K.lookup t2=some ⟨.type "tuple",o2,.seq #[.int 3 a2,.int 3 b2] m2,l2⟩) (h3:K.lookup t3=some ⟨.type "tuple",o3,.seq #[.int 3 a3,.int 1 b3] m3,l3⟩) (h4:K.lookup t4=some ⟨.type "tuple",o4,.seq #[.int 4 a4,.int 1 b4] m4,l4⟩):Fms P w K mg:=by
 apply⟨aF,t1,t2,t3,t4,hm,⟨hs,[(.inr "stay",.ref t1),(.inr "change",.ref t2),(.inr "apart",.ref t3),(.inr "meet",.ref t4)],.cons ⟨rfl,rfl⟩ (.cons ⟨rfl,rfl⟩ (.cons ⟨rfl,rfl⟩ (.cons ⟨rfl,rfl⟩ .nil))),λh hi=>⟨_,_,n,hi _ _ hl,⟨rfl,rfl,rfl⟩,rfl,λe he=>?_,?_,?_⟩⟩,tupK2 h1,tupK2 h2,tupK2 h3,tupK2 h4⟩
 ·have he:e∈[DictEntry.mk (eU w.params "stay") (.str "stay" k1) (.ref t1),⟨eU w.params "change",.str "change" k2,.ref t2⟩,⟨eU w.params "apart",.str "apart" k3,.ref t3⟩,⟨eU w.params "meet",.str "meet" k4,.ref t4⟩]:=by simpa using he
  simp only[az,bg,or_false] at he
  rcases he with rfl | rfl | rfl | rfl
  ·exact⟨.inr "stay",jS "stay" k1,rfl⟩
  ·exact⟨.inr "change",jS "change" k2,rfl⟩
  ·exact⟨.inr "apart",jS "apart" k3,rfl⟩
  ·exact⟨.inr "meet",jS "meet" k4,rfl⟩
 ·exact .cons (jS "stay" k1) rfl (.cons (jS "change" k2) rfl (.cons (jS "apart" k3) rfl (.cons (jS "meet" k4) rfl .nil)))
 ·show[(Sum.inr ("stay" :Str):Key),.inr "change",.inr "apart",.inr "meet"].Nodup
  decide +kernel
theorem args0 {P:List af→Prop}(h:P []):∀us:List af,us.length=0→P us:=λus hl=>by rw[j4.mp hl];exact h
theorem args1 {P:List af→Prop}(h:∀x0,P [x0]):∀us:List af,us.length=1→P us:=by
 intro us hl;obtain _ | ⟨x0,us⟩:=us <;> try (cases hl;done)
 obtain _ | ⟨y,us⟩:=us
 ·exact h x0
 ·exact rM hl (by simp only[aG];lia)
theorem args2 {P:List af→Prop}(h:∀x0 x1,P [x0,x1]):∀us:List af,us.length=2→P us:=by
 intro us hl;obtain _ | ⟨x0,us⟩:=us <;> try (cases hl;done)
 obtain _ | ⟨x1,us⟩:=us <;> try (cases hl;done)
 obtain _ | ⟨y,us⟩:=us
 ·exact h x0 x1
 ·exact rM hl (by simp only[aG];lia)
theorem args3 {P:List af→Prop}(h:∀x0 x1 x2,P [x0,x1,x2]):∀us:List af,us.length=3→P us:=by
 intro us hl;obtain _ | ⟨x0,us⟩:=us <;> try (cases hl;done)
 obtain _ | ⟨x1,us⟩:=us <;> try (cases hl;done)
 obtain _ | ⟨x2,us⟩:=us <;> try (cases hl;done)
 obtain _ | ⟨y,us⟩:=us
 ·exact h x0 x1 x2
 ·exact rM hl (by simp only[aG];lia)
theorem args4 {P:List af→Prop}(h:∀x0 x1 x2 x3,P [x0,x1,x2,x3]):∀us:List af,us.length=4→P us:=by
 intro us hl;obtain _ | ⟨x0,us⟩:=us <;> try (cases hl;done)
 obtain _ | ⟨x1,us⟩:=us <;> try (cases hl;done)
 obtain _ | ⟨x2,us⟩:=us <;> try (cases hl;done)
 obtain _ | ⟨x3,us⟩:=us <;> try (cases hl;done)
 obtain _ | ⟨y,us⟩:=us
 ·exact h x0 x1 x2 x3
 ·exact rM hl (by simp only[aG];lia)
theorem Df.fn {h:bP}(a:Df K x st f)(X:K.In h)(G:h.Ns bH mg)
  (hb:∀(kV dc pm:af) (an:Option aq) (cd ct:af) (us:List af),us.length=ps.length→bindArgs (fU x x (lq st) (j8 st) (defScope st) .none kV dc pm an cd ct) ⟨us,[]⟩=iJ (ps.zip us):=by intro _ _ _ _ _ _;first  | exact args0 rfl | exact args1 λ_=>rfl | exact args2 λ_ _=>rfl | exact args3 λ_ _ _=>rfl | exact args4 λ_ _ _ _=>rfl):∃fd,Fn K mg x st ps f fd:=by
 obtain⟨n,oc,od,an,sl,kV,dc,pm,cd,ct,l,c,k⟩:=a;have F:=fun_mk (st:=st) l c k;exact⟨_,F,cT X G n,F.binds hb⟩
theorem args5 {P:List af→Prop}(h:∀x0 x1 x2 x3 x4,P [x0,x1,x2,x3,x4]):∀us:List af,us.length=5→P us:=by
 intro us hl
 rcases us with _ | ⟨x0,_ | ⟨x1,_ | ⟨x2,_ | ⟨x3,_ | ⟨x4,_ | ⟨x5,xr⟩⟩⟩⟩⟩⟩ <;> first | exact h _ _ _ _ _ | simp at hl
theorem Mf.fn {q:Str}(a:Mf K C x q st f)
  (hb:∀(kV dc pm:af) (an:Option aq) (cd ct:af) (us:List af),us.length=ps.length→bindArgs (fU x q (lq st) (j8 st) (defScope st) .none kV dc pm an cd ct) ⟨us,[]⟩=iJ (ps.zip us):=by intro _ _ _ _ _ _;first | exact args1 λ_=>rfl | exact args2 λ_ _=>rfl | exact args3 λ_ _ _=>rfl | exact args5 λ_ _ _ _ _=>rfl):∃fd,Fun K x q st f fd∧rb K C x f∧L2.Binds K fd ps []:=by
 obtain⟨n,b,oc,od,an,sl,kV,dc,pm,cd,ct,l,c,k⟩:=a;have F:=fun_mk (st:=st) l c k;exact⟨_,F,⟨n,b,k⟩,F.binds hb⟩
theorem all_mk {l:PySem.W.OpenLaw}{h:bP}(X:K.In h)(G:h.Ns bH mg)(hfa:mg "law" =some (.ref fa))(Fc:Facts K w)
  : ∃fd:aY,(∀(s:au) (v:af),BindsTo s fd ⟨[v],[]⟩ [("_law_script",v)])∧∀base:bP,K.In base→base.Ns bH mg→‹_› 10 fa fd pzn (spLaw K):=by
 apply Fc _ ?_;intro f1 a1 f2 a2 f3 a3 f4 a4 f5 a5 f6 a6 f7 a7 f8 a8 f9 a9 f10 a10 f11 a11 f12 a12 f13 a13 f14 a14 f15 a15 f16 a16 f17 a17 f18 a18 f19 a19 f20 a20 f21 a21 f22 a22 f23 a23 f24 a24 f25 a25 f26 a26 f27 a27 f28 a28 f29 a29 f30 a30 f31 a31 f32 a32 f33 a33 f34 a34 f35 a35 f36 a36 f37 a37 f38 a38 f39 a39 f40 a40 f41 a41 f42 a42 f43 a43 t1 t2 t3 t4 t5 t6 t7 xL xP xF q1 q2 q3 q4 q5 jy1 jy2 jy3 jy4 jy5 jy6 jz1 jz2 jz3 jz4 jz5 jz6 jz7 jz8 jz9 jza ka kb kc kd ua1 ub1 ua2 ub2 ua3 ub3 ua4 ub4 uc ud ue nF nn1 nn2 nn3 nn4 nn5 x1 xc xi rN rnm rq rbs rsub rsn rab rcol rdd odI anI rk0 rk1 rk2 rk3 rk5 slI ocI kVI dcI pmI cdI ctI xa xb y1 y2 y3 y4 y5 y6 y7 z1 z2 z3 z4 z5 z6 z7 z8 z9 z10 z11 z12 z13 z14 z15 w1 w2 w3 w4 w5 w6 w7 w8 w9 w10 w11 w12 w13 w14 w15 w16 w17 w18 w19 w20 w21 w22 w23 w24 w25 w26 w27 w28 w29 w30 w31 w32 w33 w34 w35 w36 w37 w38 w39 w40 w41 w42 w43 w44 w45 w46 w47 w48 w49 w50 w51 w52 w53 w54 w55 w56 w57 w58 w59 w60 w61 w62 w63 w64 w65 w66 w67 w68 w69 w70 w71 w72 w73 w74 w75;have e:=hfa.symm.trans (cT X G a43.n);cases e;erw[G1,a1,[]];erw[G2,a2,["thing"]];erw[G3,a3,pzk];erw[G4,a4,pzc];erw[G5,a5,pzc];erw[G6,a6,pzp];erw[G7,a7,pzq];erw[G8,a8,pzi];erw[G9,a9,pzc];erw[G10,a10,["row"]];erw[G11,a11,["words"]];erw[G12,a12,["row"]];erw[G13,a13,pzg];erw[G14,a14,pzt];erw[G15,a15,pzj];erw[G16,a16,pzj];erw[G17,a17,["rows"]];erw[G18,a18,pzg];erw[G19,a19,pze];erw[G20,a20,pzy];erw[G21,a21,pze];erw[G22,a22,pzd];erw[G23,a23,pzz];erw[G24,a24,pzA];erw[G25,a25,pzB];erw[G26,a26,pzl];erw[G27,a27,pzm];erw[G28,a28,pzf];erw[G29,a29,pzC];erw[G30,a30,pzE];erw[G31,a31,pzD];erw[G32,a32,pzu];erw[G33,a33,pzn];erw[G34,a34,pzo];erw[G35,a35,pzf];erw[G36,a36,pzF];erw[G37,a37,["_law_rows"]];erw[G38,a38,pzv];erw[G39,a39,pzf];erw[G40,a40,pzw];erw[G41,a41,pzG];erw[G42,a42,pzH];obtain⟨_,oc,od,an,sl,kV,dc,pm,cd,ct,l43,c43,k43⟩:=a43;have F43:=fun_mk (st:=sLaw) l43 c43 k43;have m1:=cK X G z1;have m2:=cK X G z2;have m3:=cK X G z3;have m4:=cK X G z4;have m5:=cK X G z5;have m6:=cK X G z6;have m7:=cK X G z7;have m8:=cK X G z8;have m9:=cK X G z9;have m10:=cK X G z10;have m11:=cK X G z11;have m12:=cK X G z12;have m13:=cK X G z13;have m14:=cK X G z14;have m15:=cK X G z15;have i1:=cT X G y1;have i2:=cT X G y2;have i3:=cT X G y3;have i4:=cT X G y4;have i5:=cT X G y5;have i6:=cT X G y6;have i7:=cT X G y7;apply⟨fU "law" "law" (lq sLaw) (j8 sLaw) (defScope sLaw) .none kV dc pm an cd ct,λs v=>.of_eq rfl,λbase _ _=>?_⟩;have T:Nm mg:=⟨m1,m2,m3,m4,m5,m6,m7⟩;have T2:Nt mg:=⟨m8,m9,m10,m11,m12,m13⟩;have C:Cs mg:=⟨⟨_,i1⟩,⟨_,i2⟩,⟨_,i3⟩⟩;have C2:Cs2 mg:=⟨⟨_,i4⟩,⟨_,i5⟩,⟨_,i6⟩,⟨_,i7⟩⟩;have N2:Nm2 mg:=⟨m15,m12⟩;obtain⟨_,Fjy1,mjy1,bjy1⟩:=w13.fn (ps:=pzr);obtain⟨_,Fjy2,mjy2,bjy2⟩:=w14.fn (ps:=pzh);obtain⟨_,Fjy3,mjy3,bjy3⟩:=w15.fn (ps:=pzh);obtain⟨_,Fjy4,mjy4,bjy4⟩:=w16.fn (ps:=pzx);obtain⟨_,Fjy5,mjy5,bjy5⟩:=w17.fn (ps:=pzb);obtain⟨_,Fjy6,mjy6,bjy6⟩:=w18.fn (ps:=pzb);obtain⟨_,Fjz1,mjz1,bjz1⟩:=w29.fn (ps:=pzs);obtain⟨_,Fjz2,mjz2,bjz2⟩:=w30.fn (ps:=pzb);obtain⟨_,Fjz3,mjz3,bjz3⟩:=w31.fn (ps:=pzb);obtain⟨_,Fjz4,mjz4,bjz4⟩:=w32.fn (ps:=pzb);obtain⟨_,Fjz5,mjz5,bjz5⟩:=w33.fn (ps:=pzb);obtain⟨_,Fjz6,mjz6,bjz6⟩:=w34.fn (ps:=pza);obtain⟨_,Fjz7,mjz7,bjz7⟩:=w35.fn (ps:=pza);obtain⟨_,Fjz8,mjz8,bjz8⟩:=w36.fn (ps:=pza);obtain⟨_,Fjz9,mjz9,bjz9⟩:=w37.fn (ps:=pza);obtain⟨_,Fjza,mjza,bjza⟩:=w38.fn (ps:=pza);have LC:LinC K xL:=⟨⟨w2,w3,w4,w5⟩,w6,w7,w8,w9,w10⟩;have PC:PlaC K xP:=⟨⟨w20,w21,w22,w23⟩,w24,w25,w26⟩;have FW:‹_› 2 f5 _ pzc qr:=ok_readW G5.F T C2 G4;have FN:‹_› 1 f9 _ pzc spNam:=ok_nam G9.F T C2;have M:Fms l.prog w K mg:=fms_mk (cT X G w39) w40 w41 w42 w43 w44 w45;have FL:‹_› 3 f11 _ ["words"] spLineR:=ok_lineR G11.F T G9 FN G5 FW;have FR:‹_› 5 f13 _ pzg spPlanR:=ok_planR G13.F T N2 G10 (ok_beatR G10.F T G5 FW) G12 (ok_rowR G12.F T M G9 FN G5 FW G11 FL);have LK:LinK l.prog w K mg base xL jy2 jy3 jy4 _ _ _:=⟨LC,mjy2,ok_comL Fjy2 LC,bjy2,mjy3,ok_goL Fjy3 LC,bjy3,mjy4,ok_rideL Fjy4 m10 LC,bjy4⟩;have U:Unt K mg:=unt_mk (cT X G w46) w47;have LQ:LinQ l.prog w K mg base xL jy5 jy6 _ _:=⟨mjy5,ok_ownL Fjy5 m10 U LK,bjy5,mjy6,ok_labL Fjy6 m10 LC,bjy6⟩;have FA:‹_› 3 jz3 _ pzb (spAllS xP xL):=ok_allS Fjz3 PC LC LQ;have FH:‹_› 1 jz2 _ pzb (spHap xP xL):=(ok_hapN Fjz2 T T2 PC LC).mo hap_of;have PK:PlaK l.prog w K mg base xP xL jz2 jz5 _ _:=⟨PC,mjz2,FH,bjz2,mjz5,ok_small Fjz5 T C PC mjz2 FH bjz2 mjz3 FA bjz3,bjz5⟩;have LM:LinM l.prog w K mg base xL jy1 _:=⟨⟨w11,mjy1.at_,mjy1.fn,w12⟩,cT X G w1,ok_initL Fjy1 LC,bjy1⟩;have FS:‹_› 4 f8 _ pzi rg:=ok_span G8.F T C G1 G2 G3 G6 G7;have FBG:‹_› 3 jz7 _ pza (spBtwG xP xL):=ok_btwG Fjz7 PC G14 (ok_changeG G14.F LK) G15 (ok_apartG G15.F LK) G16 (ok_meetG G16.F LK);have FB:‹_› 3 jz7 _ pza (spBtw xP xL):=FBG.mo btw_of;have FHN:‹_› 1 jz2 _ pzb (spHapN xP xL):=ok_hapN Fjz2 T T2 PC LC;have FSG:‹_› 5 jza _ pza (p7 xP xL):=ok_takeSG Fjza PK LK G8 FS;have PNT:‹_› 6 jz9 _ pza (λvs H Q E=>(qp xP xL vs H Q E∨spTakeN xP xL vs H Q E)∨spTakeZ xP vs H Q E):=ok_takeA Fjz9 PC mjz6 (ok_takeL Fjz6 T m14 PK LM) bjz6 mjz8 ((ok_takeB Fjz8 PK mjz7 FB bjz7 G8 FS).or (ok_takeBN Fjz8 PK FHN mjz7 (FBG.mo btwN_of) bjz7 G8 FS)) bjz8 mjza ((FSG.mo takeS_of).or (FSG.mo takeSN_of)) bjza;have FT:‹_› 6 jz9 _ pza (qp xP xL):=PNT.mo λ_ _ _ _ h=>.inl (.inl h)
 have PT:PlaT l.prog w K mg base xP xL jz1 jz9 jz3 jz4 _ _ _ _:=⟨⟨w27,mjz1.at_,mjz1.fn,w28⟩,cT X G w19,ok_initP Fjz1 PC,bjz1,mjz9,FT,bjz9,mjz3,FA,bjz3,mjz4,ok_allL Fjz4 PC LC LQ,bjz4⟩;have FI:=fun_mk (st:=sInitNP) w54 w55 w56;have BI:=FI.binds (ps:=pza) λ_ _ _ _ _ _=>args2 λ_ _=>rfl
 have NP:NPc K mg xc x1 xi:=⟨⟨⟨_,_,_,_,_,_,_,_,_,_,_,_,_,_,w50⟩,w71,w49,w51,w52,w53⟩,⟨w57,w58,w59⟩,⟨w60,w61,w62,w63,w64,w65,w66,w67⟩,w68,cT X G w48,cT X G w70⟩;have IG:=ok_initNP (P:=l.prog) (w:=w) (base:=base) FI NP;have PN:PlaN l.prog w K mg base xP xL jz9 _:=⟨PNT⟩;have NX:cS l.prog w K mg base (CXN l.prog w) 8 f18 _ pzg (p8 xc):=ok_netByX G18.F T PK PT G13 FR G17 (ok_planByX G17.F T m9 PC PT PN NP IG BI);have PO:‹_› 2 f21 _ pze (spPotT K):=ok_potT G21.F T T2 G19 G20;have EN:‹_› 1 f26 _ pzl spEndW:=ok_endW G26.F T m2;have RI:‹_› 1 f27 _ pzm spRidW:=ok_ridW G27.F T T2;have MO:‹_› 3 f32 _ pzu spMor:=ok_mor G32.F T T2 G22 G31 (ok_inn G31.F T T2) G29 (ok_spw G29.F T G22) G30 (ok_prs G30.F T T2 m2 G26 EN G27 RI) G27 RI;have PL:‹_› 4 f33 _ pzn (spPln K):=ok_pln G33.F T T2 m2 G22 G21 PO G23 (ok_nms G23.F T T2 G22) G25 (ok_lns G25.F T T2 G22 G21 PO G24 (ok_lr G24.F T T2 G22)) G32 MO;have TW:‹_› 2 f34 _ pzo spTwW:=ok_twW G34.F G26 EN G27 RI;have TO:NPs K mg xc xa xb:=⟨cT X G w72,cT X G w73,w74,w75⟩;have TD:‹_› 9 f40 _ pzw spTdn:=ok_tdn G40.F T NP TO ⟨cT X G w70,w71⟩ ⟨w69⟩ G18 NX;have FW_:‹_› 4 f39 _ pzf spFwr:=ok_fwr G39.F T T2 G38 (ok_rgr G38.F T m14 G26 EN G34 TW G36) G37;exact ok_law F43 T T2 NP IG BI G33 PL G21 PO G22 G42 (ok_bnt G42.F T G22 G41 (ok_otw G41.F T T2 N2 G22)) G39 FW_ G28 (ok_txt G28.F m15) G40 TD G18 NX G35 (ok_nof G35.F T T2 G34 TW)
theorem walk {l:PySem.W.OpenLaw}{q:aN}{XP:(Str→Option af)→bP→Prop}{d:DefRec}{K:Params→ak}(hn:l.most=some 63)(hdf:d.params.defaults=[])
  (hY:∀(w:bq) (h:bP),YP w h→(K w.params).In h)
  (F:∀ (w:bq) (mg:Str→Option af) (fa:aq) (h:bP),(K w.params).In h→h.Ns bH mg→mg d.name=some (.ref fa) →
   ∃ fd:aY,(∀ (s:au) (u:af),BindsTo s fd ⟨[u],[]⟩ [("_law_script",u)])∧∀ base:bP,(K w.params).In base→base.Ns bH mg→cS l.prog w (K w.params) mg base CX0 10 fa fd pzn (spLaw (K w.params))) :
  PySem.W.WalkO q loose XP YP l.row.toRowW d [] (λf vs=>PySem.call f vs):=
 L2.walk_of (n:=63) (k:=10) (x:="_law_script") (CX:=λ_=>CX0) (sp:=λw=>spLaw (K w.params)) hn ↥0 hdf ⟨rfl,↥0,↥0⟩ hY F (λ_ _ a ns hl _ hS=>⟨a,ns,rfl,hS,hl,λ_=>rfl⟩) λ_ _ _ _ _ z=>z
end HN
theorem PySem.Challenge.cw_hourtable_k82_whole_rows_that_may_not_be_holds : PySem.Challenge.rw_hourtable_k82_whole_rows_that_may_not_be.Holds := by
 apply HN.head0.2 ?_ HN.leftA (PySem.W.byRow2 "special-get-raises" HN.scf HN.sct);intro q loose XP YP d K hdf hd h0 Fc;exact HN.walk (l:=fK) rfl hdf h0 fun w mg fa h KX G hmg=>HN.all_mk KX G (by rw[hd] at hmg;exact hmg) (Fc w)
