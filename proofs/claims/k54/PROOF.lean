import PyProof.Rows.All
import KE.KIsAll
import OpenK.KMore
import KE.LcSums
import KE.KBools
import KE.KxBytes
import KE.RegKIsAll
import Lean
import PyProof.EqAt
import PyProof.EqKinds
import PyProof.TupleCall
import KE.KEqSeq
import PyProof.NeKinds
import PyProof.FitsBits
import PyProof.Rows.SumAny
import PyProof.Rows.SetFrom
import PyProof.SetRoads
import PyProof.ListRange
import KE.KSortTup
import KE.KSortKey
import KE.KLam
import KE.KNestM
import PyProof.Rows.MinMaxN
import KE.KRevIter
import PyProof.MaxThree
import PyProof.AutoSeq1
import PyProof.FactsAll.list_3
import PyProof.MinMaxWalk
import PyProof.WalkInts
import PyProof.Rows.CallKwBuiltin
import PyProof.Defs
import OpenK.KOwn
import PyProof.NsDelKeeps
import PyProof.ExcArgs
import PyProof.ExcInit
import PyProof.InstStoreFacts
import Wide.FinOn
import PySem.Challenge.RW_hourtable_k54_too_many_for_the_least
set_option Elab.async false
set_option linter.all false
set_option maxRecDepth 100000
set_option bootstrap.genMatcherCode false
open PySem renaming Value → aa, wpAny_bind → af, Addr → ai, Shared → ao, wpAny_pure → aC, wpAny → aJ, Program → aN, sizeLine → aP, model → aV, FuncData → bf, World → bp, starEach → br, mainGlobals → bt, Heap → bz, Around → bL, wpAny_mono → bP, mem_of_lookup → cg, boot_len → cj, NameKind → cu, Str → cA, Stmt → cF, wpAny_field → cG, wpAny_holding → cI, wpAny_Call_Name_kw → cY, Builtin → cZ, eval → dH, Spec → dI, wpAny_newObj_type → dN, lookup_relabel_local → d9, Scope → eO, Arguments → eS, sizeLine_eq → eY, wpAny_seqItems → fq, wpAny_callSpecial?_slot → fu, backTo → fE, binaryOp → fM, compareOp → gm, wpAny_loadPart_at → gn, foldedSetIterable → gu, wpAny_call → gF, rawInt → gM, codeAny_mono → g9, wpAny_passesOwn → ik, codeAny → iE, wpAny_call_entry → iU, wpAny_setField_rec → jz, sysModules → jA, wpAny_tryCatch → jN, wpAny_setField → jO, recursionLimit → jQ, call → jS, bootBuiltins → jT, Paired → jU, swapsWith → kf, attributeBase → kr, wpAny_letGo → ku, sliceBounds → ky, codeAny_call_builtin → kD, importedModules → kI, codeAny_builtin → kK
open List renaming length_map → ae, getD_eq_getElem?_getD → ah, length_append → au, getElem?_eq_some_iff → av, mem_cons_of_mem → aw, mem_singleton → ax, mem_append_right → ay, getElem?_map → az, mem_cons → aB, size_toArray → aD, map_append → aF, mem_append_left → aG, mem_append → aK, length_cons → aM, range → aQ, mem_map → aW, mem_of_getElem? → aY, mem_cons_self → aZ, take_length → bh, take_add_one → bj, length_range → bo, replicate → bC, nodup_cons → bF, foldl_cons → bG, length_take → bH, getElem_mem → bK, getElem?_append_right → bO, nodup_iff_pairwise_ne → bV, mem_range → bY, map_cons → bZ, mem_filter → cb, append_nil → cK, length_drop → cM, foldl_append → cQ, getElem?_set_ne → cS, getElem?_set_self → cT, lookup_cons → de, lookup → dk, map_map → dG, filter_cons → dZ, toList_toArray → eF, getElem?_append_left → eP, length_filter_le → eQ, not_mem_nil → eZ, map_congr_left → ft, pairwise_map → fU, dropLast_concat → fV, length_reverse → gw, getElem?_range → gB, length_eq_zero_iff → gC, length_set → gP, find?_cons → gQ, length_singleton → gX, length_replicate → gY, nodup_range → iF, replicate_succ → iQ, getElem_of_mem → iR, sum_append → i9, filter_append → jb, toArray → jr, take_of_length_le → ju, reverse_cons → jv, nodup_append → jw, any_eq_false → jx, getElem_map → jM, any_cons → jW, mem_of_mem_take → jZ, getElem_toArray → j4, filterMap_cons → km, getElem_range → kF, length_erase_of_mem → lN
open PySem.W renaming Frag → aq, nsIn → bS, findIn → bU, mg_none_of → bW, mg_of → cL, keepIn → cW, fnOf → dg, codeHdIn → dW, emptyDict → d8, instObj → fP, codeIn → gc, callWith_K → iS, kitOne → jd, isFn → jf, hasDictIn → jg, plainGet → jF
open PySem.Heap renaming get?_push_of_some → ar, lt_size → aE, get?_push_size → aU, get?_update_other → cU, SameBut → dm, get?_update_ne → eI, get?_update_self → eR, size_push → fc
open Nat renaming le_refl → aA, lt_of_lt_of_le → aL, le_trans → aS, zero_le → bD, ne_of_lt → bE, lt_of_le_of_lt → bT, ne_of_gt → cy, lt_irrefl → eC, mul_assoc → gg, lt_of_le_of_ne → gN, lt_succ_of_lt → ig, le_succ → iB, le_of_lt → iL, lt_succ_iff_lt_or_eq → i8, mul_comm → jG, lt_trans → jH, lt_succ_self → jV
open Bool renaming false_ne_true → aO, and_eq_true → cN, not_eq_true' → hW, eq_false_iff → jy, eq_iff_iff → ke
open Option renaming map_eq_some_iff → bq, map_some → fR, isSome_iff_exists → kR
open PySem.F renaming plainAttrs_list → bB, type_list_append → cB, slot_list_append → cE, type_list_pop → fF, slot_list_pop → fG, plain_min_loop → gJ, slot_tuple_iterator_next → iP, slot_list_insert → kM, args_tuple_add_2 → kN, entry_tuple_add → lI
open PyProof.Rows renaming seqObj → bI, slot_tuple_getitem → dh, callWith_type1 → fb, get?_update_seq → gj
open PySem.PassesOwn renaming never → bM
open Option.some renaming inj → bQ
open Ne renaming symm → bX
open False renaming elim → cf
open Int renaming toNat_natCast → cq, eq_ofNat_of_zero_le → cP, emod_lt_of_pos → dA, emod_nonneg → dX, zero_mul → eG, le_refl → fH, mul_ediv_add_emod → fQ, mul_zero → fZ, mul_le_mul_of_nonneg_left → gL, zero_add → gO, toNat_of_nonneg → iT, mul_assoc → ja
open PySem.Obj renaming mapSeq → cx, data_mapFields → fO, mapFields → gf, isFreed_of_fields → jL
open PySem.Builtin.SmallTypes renaming nextOf → cH, ownedTupleIsFree → kQ
open PySem.Str renaming ofString → cV
open Array renaming length_toList → df, getElem?_eq_some_iff → eh, getElem?_eq_getElem → eM
open PySem.Builtin.Range renaming rangeSize → dJ, small → gW
open Classical renaming byContradiction → eE
open PySem.Challenge renaming rw_hourtable_k54_too_many_for_the_least → eK
open Pure renaming pure → fj
open PySem.Heap.SameBut renaming update → fS
open PySem.Builtin.Slice renaming slicePlaces → gR, sliceAdjust → jX
open PySem.Builtin.Tuple renaming tupleExact → hV
open PySem.W.Fast renaming te14364793385576792824 → hX, te14289696077712309145 → ia, te14082659384304107361 → ib, te10274390034422433532 → ie, te1435165496053646825 → ir, te4187177175401517315 → my
open PySem.Builtin.List renaming listTooLong → ij
open PySem.Builtin.Int renaming intBits → jI
open Lean renaming maxHeartbeats → kq
noncomputable section
abbrev qQ:=@if_neg
abbrev qR:=@if_pos
abbrev qS:=@absurd
abbrev qT:=@decide_eq_true
abbrev qU:=@decide_eq_false
abbrev qV:=@of_decide_eq_true
abbrev qW:=@congrArg
set_option maxHeartbeats 4000000
theorem gE {α:Type}{l:List α}{i:Nat}(h:i<l.length):l[i]? =some l[i]:=List.getElem?_eq_getElem h
variable {A:bL}{B base h h':bz}{C D Da Ls T T0 T1 Tb0 a dx f f1 f2 f3 kS:ai}{E Q W:aa→ao→Prop}{K:aq}{M:PySem.Model}{N fr loose ps sn:List PySem.Str}{P prog:aN}{R:PySem.Result→ao→Prop}{Ts ch ex fp:List ai}{XP:(PySem.Str→Option aa)→bz→Prop}{YP:bp→bz→Prop}{aH pins':List (ai×PySem.Obj)}{apos lp p0 p1 pos pos' tpos:PySem.Pos}{b be lo z:Int}{bmB ds its old sub us vs:List aa}{body e ea elt iter re tg value:PySem.Expr}{cl:List (PySem.Str×ai)}{col:Option Bool}{d dct dd:Option ai}{d':PySem.Drawn}{e1 i j m n t':Nat}{env:PySem.Env}{es ifs:List PySem.Expr}{fd fd1 fd2 fd3:bf}{fz:ai→Option PySem.Obj}{g':Array PySem.GenState}{gs ns ts:List Int}{hdct:Bool}{hi:Option Int}{items:Array aa}{js l tk π:List Nat}{key:Nat→Int}{keys:List (Option PySem.Expr)}{ks:List (Int×Int)}{kw:List (PySem.Str×aa)}{lq name q q0 q1 qual x:PySem.Str}{mA mg:PySem.Str→Option aa}{newId:String}{oI ox:PySem.Obj}{od:Option PySem.Obj}{op:PySem.CmpOp}{osl:Array (Option aa)}{outer:List PySem.Env}{p:Array Nat}{params:eS}{s s':ao}{scope:eO}{st:cF}{u:aa}{w:bp}{α:Type}
namespace L2
open PySem PySem.Spec PyProof.Rows
def i6 (s:cF):eS:=match s with
 | .FunctionDef _ a _ _ _ _ _ _ _ _=>a
 | _=>{ posonlyargs:=[],args:=[],vararg:=none,kwonlyargs:=[],kw_defaults:=[],kwarg:=none,defaults:=[] }
def eX (s:cF):List cF:=match s with
 | .FunctionDef _ _ b _ _ _ _ _ _ _=>b
 | _=>[]
def defScope (s:cF):eO:=match s with
 | .FunctionDef _ _ _ _ _ _ sc _ _ _=>sc
 | _=>{ kind:= .function,names:=[],isGenerator:=false,isCoroutine:=false }
abbrev bmVE:List aa:=[.type "ValueError",.type "Exception",.type "BaseException",.type "object"]
end L2
namespace HN
open PySem L2 PyProof.Rows
def top (i:Nat):cF:=PySem.Challenge.pw_hourtable_k54_too_many_for_the_least.main.body.getD i (.Pass ⟨0,0,0,0⟩)
def clsOf (s:cF)(i:Nat):cF:=match s with
 | .ClassDef _ _ _ body _ _ _ _ _ _ _=>body.getD i (.Pass ⟨0,0,0,0⟩)
 | s=>s
def clsDef (s:cF)(i:Nat):cF:=match s with
 | .ClassDef _ _ _ body _ _ _ _ _ _ _=>body.getD i (.Pass ⟨0,0,0,0⟩)
 | s=>s
structure Df (K:aq)(x:Str)(st:cF)(f:ai):Prop where
 n:bS K bt x=some (some (.ref f))
 l:∃ (oc:aa) (od an:Option ai) (sl:Array (Option aa)) (kV dc pm cd ct:aa),K.lookup f=some ⟨oc,od,.func (dg x x (i6 st) (eX st) (defScope st) .none kV dc pm an cd ct),sl⟩∧gc K cd x=true∧cW K (.ref f)=true
def Facts (K:aq):Prop:=∀ C:Prop,(∀ {f1 f2 f3 f4 f5 f6 f7 f8 f9 f10 f11 f12 f13 f14 f15 f16 f17 f18 f19 f20 f21 f22 f23 f24 f25 f26 f27 f28 f29 f30 f31 f32 f33 f34 f35 f36 f37 f38 f39 f40 f41 f42:ai} {t1:Tok} {xC xi xs xt:ai} {odI anI odS anS odT anT:Option ai} {slI slS slT:Array (Option aa)} {ocI kVI dcI pmI ctI ocS kVS dcS pmS cdS ctS ocT kVT dcT pmT cdT ctT:aa} {xc xj rN:ai} {rnm rq:Str} {rbs rsub:List aa} {rsn:List Str} {rab:Bool} {rcol:Option Bool} {rdd odJ anJ:Option ai} {rk0 rk1 rk2 rk3 rk5:Option aa} {slJ:Array (Option aa)} {ocJ kVJ dcJ pmJ cdJ ctJ:aa} {x1 xa xb xd xe xf xg:ai},(Df K "width_of" (top 10) f1) →
 (Df K "leads_from" (top 12) f2) →
 (Df K "leads_to" (top 13) f3) →
 (Df K "first_bounds" (top 14) f4) →
 (Df K "sum_of" (top 15) f5) →
 (Df K "beats_of" (top 16) f6) →
 (Df K "is_dead" (top 17) f7) →
 (Df K "spans_by_width" (top 20) f8) →
 (Df K "forest_of" (top 21) f9) →
 (Df K "steps_from" (top 22) f10) →
 (Df K "way_between" (top 23) f11) →
 (Df K "ring_by" (top 24) f12) →
 (Df K "cases_of" (top 25) f13) →
 (Df K "rings_of" (top 26) f14) →
 (Df K "spread_of" (top 27) f15) →
 (Df K "rest_by" (top 29) f16) →
 (Df K "with_bound" (top 34) f17) →
 (Df K "rings_over" (top 39) f18) →
 (Df K "middle_of" (top 41) f19) →
 (Df K "dead_leaf" (top 42) f20) →
 (Df K "table_by" (top 43) f21) →
 (Df K "tables_that_fit" (top 44) f22) →
 (Df K "tree_from" (top 45) f23) →
 (Df K "tree_by" (top 46) f24) →
 (Df K "table_for" (top 47) f25) →
 (Df K "is_sure" (top 18) f26) →
 (Df K "wait_in" (top 30) f27) →
 (Df K "waits_of" (top 31) f28) →
 (Df K "wait_of" (top 32) f29) →
 (Df K "own_prices" (top 35) f30) →
 (Df K "worth_of" (top 36) f31) →
 (Df K "price_leaf" (top 49) f32) →
 (Df K "leaf_by" (top 50) f33) →
 (Df K "best_for" (top 51) f34) →
 (Df K "_law_cell_at" (top 53) f35) →
 (Df K "_law_mixed" (top 54) f36) →
 (Df K "_law_pot" (top 55) f37) →
 (Df K "_law_take" (top 56) f38) →
 (Df K "_law_widths" (top 57) f39) →
 (Df K "_law_chain" (top 58) f40) →
 (Df K "_law_told" (top 59) f41) →
 (Df K "law" (top 60) f42) →
 (bS K bt "MOST_CASES" =some (some (.int 4096 t1))) →
 (bS K bt "isinstance" =some none) →
 (bS K bt "int" =some none) →
 (bS K bt "bool" =some none) →
 (bS K bt "tuple" =some none) →
 (bS K bt "len" =some none) →
 (bS K bt "min" =some none) →
 (bS K bt "all" =some none) →
 (bS K bt "range" =some none) →
 (bS K bt "enumerate" =some none) →
 (bS K bt "zip" =some none) →
 (bS K bt "sum" =some none) →
 (bS K bt "list" =some none) →
 (bS K bt "max" =some none) →
 (bS K bt "set" =some none) →
 (bS K bt "sorted" =some none) →
 (bS K bt "reversed" =some none) →
 (bS K bt "ValueError" =some none) →
 (bS K bt "Cuts" =some (some (.ref xC))) →
 (jF K xC Str.empty=true) →
 (jg K xC=true) →
 (PySem.W.plainOver K xC=true) →
 (bU K (.ref xC) "__setattr__" =some (some (.builtin "object.__setattr__"))) →
 (bU K (.ref xC) "first_case" =some none) →
 (bU K (.ref xC) "touched" =some none) →
 (bU K (.ref xC) "order" =some none) →
 (PySem.W.makesIn K xC=true) →
 (bU K (.ref xC) "__init__" =some (some (.ref xi))) →
 (jf K (.ref xi)=true) →
 (cW K (.ref xC)=true) →
 (K.lookup xi=some ⟨ocI,odI,.func (dg "__init__" "Cuts.__init__" (i6 (clsOf (top 40) 0)) (eX (clsOf (top 40) 0)) (defScope (clsOf (top 40) 0)) .none kVI dcI pmI anI (.ref 288) ctI),slI⟩) →
 (gc K (.ref 288) "Cuts.__init__" =true) →
 (cW K (.ref xi)=true) →
 (bU K (.ref xC) "span_to_cut" =some (some (.ref xs))) →
 (jf K (.ref xs)=true) →
 (cW K (.ref xs)=true) →
 (K.lookup xs=some ⟨ocS,odS,.func (dg "span_to_cut" "Cuts.span_to_cut" (i6 (clsOf (top 40) 1)) (eX (clsOf (top 40) 1)) (defScope (clsOf (top 40) 1)) .none kVS dcS pmS anS cdS ctS),slS⟩) →
 (gc K cdS "Cuts.span_to_cut" =true) →
 (bU K (.ref xC) "sides" =some (some (.ref xt))) →
 (jf K (.ref xt)=true) →
 (cW K (.ref xt)=true) →
 (K.lookup xt=some ⟨ocT,odT,.func (dg "sides" "Cuts.sides" (i6 (clsOf (top 40) 2)) (eX (clsOf (top 40) 2)) (defScope (clsOf (top 40) 2)) .none kVT dcT pmT anT cdT ctT),slT⟩) →
 (gc K cdT "Cuts.sides" =true) →
 (bS K bt "TooGreat" =some (some (.ref xc))) →
 (bU K (.ref xc) "__init__" =some (some (.ref xj))) →
 (K.lookup xc=some (PySem.excClassObj rnm rq xc rN rbs (.ref x1::bmVE) true rsn rsub rab rcol rdd rk0 rk1 rk2 rk3 rk5 "ValueError.__new__")) →
 (jf K (.ref xj)=true) →
 (cW K (.ref xc)=true) →
 (bU K (.ref xc) "__setattr__" =some (some (.builtin "object.__setattr__"))) →
 (K.lookup xj=some ⟨ocJ,odJ,.func (dg "__init__" "TooGreat.__init__" (i6 (clsDef (top 7) 0)) (eX (clsDef (top 7) 0)) (defScope (clsDef (top 7) 0)) .none kVJ dcJ pmJ anJ cdJ ctJ),slJ⟩) →
 (gc K cdJ "TooGreat.__init__" =true) →
 (cW K (.ref xj)=true) →
 (PySem.W.specialIn K (.ref x1) "__getattribute__" =some (some (.builtin "type.__getattribute__"))) →
 (PySem.W.readsIn K x1 (.type "type")=true) →
 (PySem.W.findCls K (.ref x1) (.type "type") "__init__" =some (.val (.builtin "ValueError.__init__"))) →
 (bU K (.ref xc) "__getattribute__" =some (some (.builtin "BaseException.__getattribute__"))) →
 (bU K (.ref xc) "__getattr__" =some none) →
 (bU K (.ref xc) "__class__" =some (some (.builtin "object.__class__"))) →
 (PySem.W.specialIn K (.builtin "object.__class__") "__get__" =some (some (.builtin "getset_descriptor.__get__"))) →
 (PySem.W.takesIn K (.builtin "object.__class__")=some true) →
 (PySem.W.mroIn K xc (.type "object")=some true) →
 (PySem.W.mroIn K xc (.type "BaseException")=some true) →
 (jg K xc=true) →
 (bU K (.ref xc) "many" =some none) →
 (bU K (.ref xc) "most" =some none) →
 (PySem.W.mroIn K xc (.ref x1)=some true) →
 (bS K bt "NoOrder" =some (some (.ref xa))) →
 (bS K bt "NoPlan" =some (some (.ref xb))) →
 (bS K bt "NoText" =some (some (.ref xd))) →
 (bS K bt "NoWay" =some (some (.ref xe))) →
 (bS K bt "OtherBeats" =some (some (.ref xf))) →
 (bS K bt "TooWide" =some (some (.ref xg))) →
 (PySem.W.kitAny K (.ref xc) [.ref xa,.ref xb,.ref xd,.ref xe,.ref xf,.ref xg]=some false) →
 (jd K (.ref xc) (.type "ValueError")=some true) →
 (bS K bt "HourError" =some (some (.ref x1))) →
 (PySem.W.excIn K x1 [.type "ValueError",.type "Exception",.type "BaseException",.type "object"] "ValueError.__new__" =true) →
 (∃ (oc:aa) (od an:Option ai) (sl:Array (Option aa)) (kV dc pm ct:aa),K.lookup f8=some ⟨oc,od,.func (dg "spans_by_width" "spans_by_width" (i6 (top 20)) (eX (top 20)) (defScope (top 20)) .none kV dc pm an (.ref 185) ct),sl⟩) →
 (dW K 185 181=true) →
 (dW K 288 286=true) →
 (∃ (oc:aa) (od an:Option ai) (sl:Array (Option aa)) (kV dc pm ct:aa),K.lookup f25=some ⟨oc,od,.func (dg "table_for" "table_for" (i6 (top 47)) (eX (top 47)) (defScope (top 47)) .none kV dc pm an (.ref 356) ct),sl⟩) →
 (dW K 356 352=true) →
 (∃ (oc:aa) (od an:Option ai) (sl:Array (Option aa)) (kV dc pm ct:aa),K.lookup f34=some ⟨oc,od,.func (dg "best_for" "best_for" (i6 (top 51)) (eX (top 51)) (defScope (top 51)) .none kV dc pm an (.ref 375) ct),sl⟩) →
 (dW K 375 371=true)→C)→C
def Wp:Prop:=∀ {q:aN} {loose:List Str} {XP:(Str→Option aa)→bz→Prop} {YP:bp→bz→Prop} {d:DefRec} {K:Params→aq},d.params.defaults=[]→d.name = "law" →(∀ (w:bp) (h:bz),YP w h→(K w.params).In h∧∀ T∈([181,286,352,371]:List ai),h.get? T=some (PySem.W.tabObj #[]))→(∀ w:bp,∀ T∈([181,286,352,371]:List ai),∃ c,dW (K w.params) c T=true)→(∀ w:bp,PySem.W.noTabs (K w.params)=true)→(∀ w:bp,Facts (K w.params))→PySem.W.WalkO q loose XP YP (eK).row.toRowW d [] (fun f vs=>PySem.call f vs)
end HN
section
open PySem PySem.W PyProof.Rows
def HN.seenOf:aN:={ PySem.Challenge.pw_hourtable_k54_too_many_for_the_least with main:={ PySem.Challenge.pw_hourtable_k54_too_many_for_the_least.main with body:=[1,2,3,4,5,6,7,8,10,12,13,14,15,16,17,18,20,21,22,23,24,25,26,27,29,30,31,32,34,35,36,38,39,40,41,42,43,44,45,46,47,49,50,51,53,54,55,56,57,58,59,60].map HN.top } }
def HN.isSeen (s:ao):Bool:=xlAt HN.seenOf [] s && recOk (RowW.records (OpenRow.toRowW (OpenLaw.row eK))) s
local macro_rules
 | `(tactic| o_head $H:term) => `(tactic| (refine holds_open (q := HN.seenOf) (loose := []) (XP := XL HN.seenOf []) (Xt := HN.isSeen) (Yf := Hook.obs $H) (Ya := Hook.val $H) (YP := Hook.says $H) (N := 3500) ?_ (Hook.of $H) (Hook.keeps $H) (fun s e => xl_of s (Bool.and_eq_true_iff.mp e).1) XL.keeps (by rfl) (by rfl) (by rfl) (fun s e => recFacts_of (Bool.and_eq_true_iff.mp e).2) ?_ ?_ ?_ ?_ ?_ ?_))
theorem HN.left_two {σ β:Type}{e:Option σ}{f:σ→α}{g:σ→β}{a:α}{b:β}(h1:e.map f=some a)(h2:e.map g=some b):e.map (fun s=>(f s,g s))=some (a,b):=by
 cases e with
 | none=>cases h1
 | some s=>injection h1 with h1;injection h2 with h2;show some (f s,g s)=_;rw [h1,h2]
theorem HN.left_pr {σ β:Type}{e:Option σ}{f:σ→α×β}{a:α×β}(h1:e.map (fun s=>(f s).1)=some a.1)(h2:e.map (fun s=>(f s).2)=some a.2):e.map f=some a:=by
 cases e with
 | none=>cases h1
 | some s=>injection h1 with h1;injection h2 with h2;exact qW some (Prod.ext h1 h2)
set_option maxRecDepth 100000 in
set_option maxHeartbeats 0 in
theorem HN.head0 (W:HN.Wp)(Lf:∀ w:bp,(openEnds treeTable PySem.Challenge.rw_hourtable_k54_too_many_for_the_least.row.prog w 3500).map (openSeen HN.seenOf [] (kI PySem.Challenge.rw_hourtable_k54_too_many_for_the_least.row.prog.main.body) HN.isSeen true)=some (openGood HN.seenOf [])):PySem.Challenge.rw_hourtable_k54_too_many_for_the_least.Holds:=by
 w_on;refine holds_law (by decide +kernel) fun said=>?_;k_head
 ·exact fun w=>HN.left_two (Lf w) (by unfold openEnds fencedOpening topFrom;rewrite [ie,ia,hX,ir,ib];kernel_rfl)
 ·rfl
 ·assumption
 ·decide +kernel
 ·exact ⟨rfl,rfl,rfl,rfl,rfl,by decide +kernel⟩
 ·w_witness2
 k_fill
 refine W rfl rfl (fun w h Y=>⟨PySem.W.km_in_of Y,fun T hT=>PySem.W.km_tabs_of Y T (by revert hT;revert T;decide)⟩) (fun w T hT=>by
  simp only [aB,eZ,or_false] at hT
  rcases hT with rfl | rfl | rfl | rfl
  ·exact ⟨185,by kernel_rfl⟩
  ·exact ⟨288,by kernel_rfl⟩
  ·exact ⟨356,by kernel_rfl⟩
  ·exact ⟨375,by kernel_rfl⟩
  ) (fun w=>by kernel_rfl) ?F
 case F =>
  intro w C k;refine' k ?_ ?_ ?_ ?_ ?_ ?_ ?_ ?_ ?_ ?_ ?_ ?_ ?_ ?_ ?_ ?_ ?_ ?_ ?_ ?_ ?_ ?_ ?_ ?_ ?_ ?_ ?_ ?_ ?_ ?_ ?_ ?_ ?_ ?_ ?_ ?_ ?_ ?_ ?_ ?_ ?_ ?_ ?y1 ?z1 ?z2 ?z3 ?z4 ?z5 ?z6 ?z7 ?z8 ?z9 ?z10 ?z11 ?z12 ?z13 ?z14 ?z15 ?z16 ?z17 ?w1 ?w2 ?w3 ?w4 ?w5 ?w6 ?w7 ?w8 ?w9 ?w10 ?w11 ?w12 ?w13 ?w14 ?w15 ?w16 ?w17 ?w18 ?w19 ?w20 ?w21 ?w22 ?w23 ?w24 ?w25 ?w26 ?w27 ?w28 ?w29 ?w30 ?w31 ?w32 ?w33 ?w34 ?w35 ?w36 ?w37 ?w38 ?w39 ?w40 ?w41 ?w42 ?w43 ?w44 ?w45 ?w46 ?w47 ?w48 ?w49 ?w50 ?w51 ?w52 ?w53 ?w54 ?w55 ?w56 ?w57 ?w58 ?wc0 ?wh0 ?wh1 ?wc2 ?wh2 ?wc3 ?wh3
  all_goals first | exact ⟨by k_is,_,_,_,_,_,_,_,_,_,by k_is,by k_is,by k_is⟩ | skip
  (case y1=>k_is);(case z1=>k_is);(case z2=>k_is);(case z3=>k_is);(case z4=>k_is);(case z5=>k_is);(case z6=>k_is);(case z7=>k_is);(case z8=>k_is);(case z9=>k_is);(case z10=>k_is);(case z11=>k_is);(case z12=>k_is);(case z13=>k_is);(case z14=>k_is);(case z15=>k_is);(case z16=>k_is);(case z17=>k_is)
  (case w1=>k_is)
  (case w2=>k_is)
  (case w3=>k_is)
  (case w4=>k_is)
  (case w5=>k_is)
  (case w6=>k_is)
  (case w7=>k_is)
  (case w8=>k_is)
  (case w9=>k_is)
  (case w10=>k_is)
  (case w11=>k_is)
  (case w12=>k_is)
  (case w13=>k_is)
  (case w14=>k_is)
  (case w15=>k_is)
  (case w16=>k_is)
  (case w17=>k_is)
  (case w18=>k_is)
  (case w19=>k_is)
  (case w20=>k_is)
  (case w21=>k_is)
  (case w22=>k_is)
  (case w23=>k_is)
  (case w24=>k_is)
  (case w25=>k_is)
  (case w26=>k_is)
  (case w27=>k_is)
  (case w28=>k_is)
  (case w29=>k_is)
  (case w30=>k_is)
  (case w31=>k_is)
  (case w32=>k_is)
  (case w33=>k_is)
  (case w34=>k_is)
  (case w35=>k_is)
  (case w36=>k_is)
  (case w37=>k_is)
  (case w38=>k_is)
  (case w39=>k_is)
  (case w40=>k_is)
  (case w41=>k_is)
  (case w42=>k_is)
  (case w43=>k_is)
  (case w44=>k_is)
  (case w45=>k_is)
  (case w46=>k_is)
  (case w47=>k_is)
  (case w48=>k_is)
  (case w49=>k_is)
  (case w50=>k_is)
  (case w51=>k_is)
  (case w52=>k_is)
  (case w53=>k_is)
  (case w54=>k_is)
  (case w55=>kit_is)
  (case w56=>kit_is)
  (case w57=>k_is)
  (case w58=>k_exc)
  (case wc0=>exact ⟨_,_,_,_,_,_,_,_,by k_is⟩)
  (case wh0=>kernel_rfl)
  (case wh1=>kernel_rfl)
  (case wc2=>exact ⟨_,_,_,_,_,_,_,_,by k_is⟩)
  (case wh2=>kernel_rfl)
  (case wc3=>exact ⟨_,_,_,_,_,_,_,_,by k_is⟩)
  (case wh3=>kernel_rfl)
set_option maxHeartbeats 0 in
theorem HN.left1 (w:bp):(openEnds treeTable PySem.Challenge.rw_hourtable_k54_too_many_for_the_least.row.prog w 3500).map (fun s=>(openSeen HN.seenOf [] (kI PySem.Challenge.rw_hourtable_k54_too_many_for_the_least.row.prog.main.body) HN.isSeen true s).1)=some (openGood HN.seenOf []).1:=by
 unfold openEnds fencedOpening topFrom;rewrite [ie,ia,hX,ir,ib,my];kernel_rfl
set_option maxHeartbeats 0 in
theorem HN.left2 (w:bp):(openEnds treeTable PySem.Challenge.rw_hourtable_k54_too_many_for_the_least.row.prog w 3500).map (fun s=>(openSeen HN.seenOf [] (kI PySem.Challenge.rw_hourtable_k54_too_many_for_the_least.row.prog.main.body) HN.isSeen true s).2)=some (openGood HN.seenOf []).2:=by
 unfold openEnds fencedOpening topFrom;rewrite [ie,ia,hX,ir,ib,my];kernel_rfl
theorem HN.leftA (w:bp):(openEnds treeTable PySem.Challenge.rw_hourtable_k54_too_many_for_the_least.row.prog w 3500).map (openSeen HN.seenOf [] (kI PySem.Challenge.rw_hourtable_k54_too_many_for_the_least.row.prog.main.body) HN.isSeen true)=some (openGood HN.seenOf []):=HN.left_pr (f:=openSeen HN.seenOf [] (kI PySem.Challenge.rw_hourtable_k54_too_many_for_the_least.row.prog.main.body) HN.isSeen true) (HN.left1 w) (HN.left2 w)
end
namespace L2
open PySem PySem.Spec PyProof.Rows
abbrev Key:=Sum Int Str
def keyIs:Key→aa→Bool
 | .inl k,v=>aa.isInt k v
 | .inr x,v=>aa.isStrOf x v
def keyH (w:bp):Key→Int
 | .inl k=>hashInt k
 | .inr x=>hashStr w x
theorem gq:∀ {k:Key} {v:aa},keyIs k v=true→(∃ i t,k=Sum.inl i∧v=aa.int i t)∨(∃ x t,k=Sum.inr x∧v=aa.str x t)
 | .inl i,v,h=>by
  obtain ⟨t,e⟩:=aa.isInt_shape (k:=i) (v:=v) h;exact .inl ⟨i,t,rfl,e⟩
 | .inr x,v,h=>by
  obtain ⟨t,e⟩:=aa.isStrOf_shape (x:=x) (v:=v) h;exact .inr ⟨x,t,rfl,e⟩
theorem keyIs_int (i:Int)(t:Tok):keyIs (.inl i) (.int i t)=true:=by simp [keyIs,aa.isInt]
theorem keyIs_str (x:Str)(t:Tok):keyIs (.inr x) (.str x t)=true:=by simp [keyIs,aa.isStrOf]
theorem key_ll (a b:Int):decide ((Sum.inl a:Key)=Sum.inl b)=(a == b):=by
 by_cases e:a=b
 ·subst e;simp
 ·have h:¬ (Sum.inl a:Key)=Sum.inl b:=fun q=>e (Sum.inl.inj q)
  rw [qU h];exact (beq_eq_false_iff_ne.mpr e).symm
theorem key_rr (a b:Str):decide ((Sum.inr a:Key)=Sum.inr b)=decide (a=b):=by
 by_cases e:a=b
 ·subst e;simp
 ·have h:¬ (Sum.inr a:Key)=Sum.inr b:=fun q=>e (Sum.inr.inj q)
  rw [qU h,qU e]
theorem key_lr (a:Int)(b:Str):decide ((Sum.inl a:Key)=Sum.inr b)=false:=qU (fun q=>nomatch q)
theorem key_rl (a:Str)(b:Int):decide ((Sum.inr a:Key)=Sum.inl b)=false:=qU (fun q=>nomatch q)
def iH (prog:aN)(w:bp):PySem.KeyKind prog w Key where
 is:=keyIs
 hash:=keyH w
 inj:=fun v a b ha hb=>by
  rcases gq ha with ⟨i,t,rfl,rfl⟩ | ⟨x,t,rfl,rfl⟩
  ·rcases gq hb with ⟨j,u,rfl,e⟩ | ⟨y,u,rfl,e⟩
   ·injection e with e1 _;rw [e1]
   ·exact nomatch e
  ·rcases gq hb with ⟨j,u,rfl,e⟩ | ⟨y,u,rfl,e⟩
   ·exact nomatch e
   ·injection e with e1 _;rw [e1]
 byValue:=fun k v h=>by
  rcases gq h with ⟨i,t,rfl,rfl⟩ | ⟨x,t,rfl,rfl⟩ <;> rfl
 pyHash:=fun hv h=>by
  rcases gq hv with ⟨i,t,rfl,rfl⟩ | ⟨x,t,rfl,rfl⟩
  ·exact wpAny_pyHash_int h
  ·exact wpAny_pyHash_str h
 eqBool:=fun hu hv h=>by
  rcases gq hu with ⟨i,t,rfl,rfl⟩ | ⟨x,t,rfl,rfl⟩
  ·rcases gq hv with ⟨j,u,rfl,rfl⟩ | ⟨y,u,rfl,rfl⟩
   ·rw [key_ll] at h;exact wpAny_eqBool_int h
   ·rw [key_lr] at h;exact SeqAt.EqAt.int_str i t y u _ _ _ _ h
  ·rcases gq hv with ⟨j,u,rfl,rfl⟩ | ⟨y,u,rfl,rfl⟩
   ·rw [key_rl] at h;exact SeqAt.EqAt.str_int x t j u _ _ _ _ h
   ·rw [key_rr] at h;exact wpAny_eqBool_str h
 «strs» := fun k x t v h=>by
  rcases gq h with ⟨i,u,rfl,e⟩ | ⟨y,u,rfl,e⟩
  ·exact nomatch e
  ·injection e with e1 _
   subst e1;cases v <;> rfl
theorem mixKind_int (prog:aN)(w:bp)(i:Int)(t:Tok):(iH prog w).is (.inl i) (.int i t)=true:=keyIs_int i t
theorem mixKind_str (prog:aN)(w:bp)(x:Str)(t:Tok):(iH prog w).is (.inr x) (.str x t)=true:=keyIs_str x t
inductive V where
 | non | bl (b:Bool) | int (i:Int) | str (x:Str) | byt (b:Array UInt8) | flt (b:UInt64) | ref (a:ai) | ty (n:String)
 deriving DecidableEq
def fY:V→aa→Prop
 | .non,u=>u=aa.none
 | .bl b,u=>u=aa.bool b
 | .int i,u=>∃ t,u=aa.int i t
 | .str x,u=>∃ t,u=aa.str x t
 | .byt b,u=>∃ t,u=aa.bytes b t
 | .flt b,u=>∃ t,u=aa.float b t
 | .ref a,u=>u=aa.ref a
 | .ty n,u=>u=aa.type n
abbrev fN:List V→List aa→Prop:=jU fY
theorem fN.length {xs:List V}(r:fN xs us):xs.length=us.length:=Paired.length r
theorem fN.get:∀ {xs:List V} {us:List aa} {i:Nat} {x:V},fN xs us→xs[i]? =some x→∃ u,us[i]? =some u∧fY x u
 | _,_,_,_,.nil,e=>by simp at e
 | _,_,0,_,.cons r _,e=>by simp at e;subst e;exact ⟨_,rfl,r⟩
 | _,_,i+1,x,.cons _ t,e=>by
  obtain ⟨u,h1,h2⟩:=fN.get (i:=i) (x:=x) t (by simpa using e);exact ⟨u,by simpa using h1,h2⟩
theorem fN.set {x:V}{u:aa}(r:fY x u):∀ {xs:List V} {us:List aa} (i:Nat),fN xs us→fN (xs.set i x) (us.set i u)
 | _,_,_,.nil=> .nil
 | _,_,0,.cons _ t=> .cons r t
 | _,_,i+1,.cons q t=> .cons q (fN.set r i t)
theorem fN.append:∀ {xs ys:List V} {us ws:List aa},fN xs us→fN ys ws→fN (xs++ys) (us++ws)
 | _,_,_,_,.nil,s=>s
 | _,_,_,_,.cons r t,s=> .cons r (fN.append t s)
theorem fN.take:∀ {xs:List V} {us:List aa} (n:Nat),fN xs us→fN (xs.take n) (us.take n)
 | _,_,0,_=> .nil
 | _,_,_+1,.nil=> .nil
 | _,_,n+1,.cons r t=> .cons r (fN.take n t)
theorem fN.drop:∀ {xs:List V} {us:List aa} (n:Nat),fN xs us→fN (xs.drop n) (us.drop n)
 | _,_,0,r=>r
 | _,_,_+1,.nil=> .nil
 | _,_,n+1,.cons _ t=>fN.drop n t
def qp:Option V→Option aa→Prop
 | some v,some u=>fY v u
 | none,none=>True
 | _,_=>False
def KV {κ:Type}:List (κ×V)→List (κ×aa)→Prop:=jU fun (p:κ×V) (q:κ×aa)=>p.1=q.1∧fY p.2 q.2
def kV:Key→V
 | .inl i=> .int i
 | .inr x=> .str x
inductive HO where
 | lst (xs:List V)
 | tup (xs:List V)
 | dK (kvs:List (Key×V)) | dT (kvs:List (List Key×V))
 | set (S:Int→Bool) (n:Nat)
 | ins (C dx:ai) (fs:List (Str×V))
 | own (x:ai)
 | xd (fs:List (Str×V))
 | met (f x:ai)
 | rng (lo hi:Int)
 | frz (o:Obj) (u:HO)
 | tbl (ps:Array aa)
 | ext (φ:bz→Prop)
abbrev Hp:=ai→Option HO
def upd (H:Hp)(a:ai)(o:HO):Hp:=fun b=>if b=a then some o else H b
theorem aX {H:Hp}{o:HO}:upd H a o a=some o:=by unfold upd;rw [qR rfl]
theorem bc {H:Hp}{b:ai}{o:HO}(h:b≠a):upd H a o b=H b:=by unfold upd;rw [qQ h]
theorem upd_upd {H:Hp}{o u:HO}:upd (upd H a o) a u=upd H a u:=by
 funext b;unfold upd;split <;> rfl
theorem d7 {H:Hp}{b:ai}{o u:HO}(h:H a=some o)(h':H b=some u)(d:o≠u):a≠b:=by
 intro e;subst e;rw [h] at h';exact d (bQ h')
theorem bw {H:Hp}{b:ai}{o:HO}(h:H a=some o)(h':H b=none):a≠b:=by
 intro e;subst e;rw [h] at h';cases h'
def mJ (h:bz)(a:ai)(items:Array aa):Prop:=∃ o,h.get? a=some o∧o.cls= .type "tuple" ∧o.dict=none∧∃ n,o.data= .seq items n
theorem mJ.tup (p:mJ h a items):IsTup h a items:=let ⟨o,e,c,_,n,d⟩:=p;⟨o,e,c,n,d⟩
theorem mJ.lt (p:mJ h a items):a<h.objs.size:=p.tup.lt
theorem mJ.new (h:bz)(items:Array aa):mJ (h.push { cls:= .type "tuple",data:= .seq items }) h.objs.size items:=⟨_,aU _ rfl,rfl,rfl,_,rfl⟩
section
variable (P:aN) (w:bp)
def i7 (H:Hp)(h:bz)(a:ai):HO→Prop
 | .lst xs=>xs.length≤aP∧∃ (its:List aa) (n:Nat),fN xs its∧h.get? a=some { cls:= .type "list",data:= .seq its.toArray n }
 | .tup xs=>xs.length≤aP∧∃ its:List aa,fN xs its∧mJ h a its.toArray
 | .dK kvs=>kvs.length≤aP∧(a == jA)=false∧∃ vs,KV kvs vs∧h.DictOf (iH P w) a vs
 | .dT kvs=>kvs.length≤aP∧(a == jA)=false∧∃ xs:List (List Key×ai×aa),
   jU (fun (p:List Key×V) (q:List Key×ai×aa)=>p.1=q.1∧H q.2.1=some (.tup (p.1.map kV))∧fY p.2 q.2.2) kvs xs ∧
   ∃ o es ep,h.get? a=some o∧o.ExactDict∧o.data= .dict es ep∧es.toList=xs.map (entryOfKey (tupleKind (iH P w)))∧(xs.map (·.1)).Nodup
 | .set S n=>h.SetOf (intKind P w) a S n
 | .ins C dx fs=>H dx=some (.own a)∧fs.length≤1000∧dx≠a∧h.get? a=some (fP C dx) ∧
   ∃ mA,h.Ns1 dx mA∧(∀ f,qp (fs.lookup f) (mA f))∧PySem.Within mA (fs.map (·.1))
 | .own _=>∃ o,h.get? a=some o
 | .xd fs=>∃ mA,h.Ns1 a mA∧∀ f,qp (fs.lookup f) (mA f)
 | .rng lo hi=>∃ t u v,h.get? a=some { cls:= .type "range",data:= .fields #[.int lo t,.int hi u,.int 1 v] }
 | .frz o u=>h.get? a=some o∧i7 H h a u
 | .tbl ps=>h.get? a=some { cls:= .none,data:= .fields ps }
 | .met f x=>h.get? a=some (PySem.W.methodObj (.ref f) (.ref x))
 | .ext φ=>φ h∧(∃ o,h.get? a=some o)∧∀ h1 h2:bz,φ h1→(∀ o,h1.get? a=some o→h2.get? a=some o)→φ h2
def HOk (H:Hp)(h:bz):Prop:=∀ a o,H a=some o→i7 P w H h a o
end
section
variable {H H':Hp}{o:HO}
theorem i7.lt (x:i7 P w H h a o):a<h.objs.size:=by
 cases o with
 | lst xs=>obtain ⟨_,_,_,_,e⟩:=x;exact aE e
 | tup xs=>obtain ⟨_,_,_,p⟩:=x;exact p.lt
 | dK kvs=>obtain ⟨_,_,_,_,o,_,_,e,_⟩:=x;exact aE e
 | dT kvs=>obtain ⟨_,_,_,_,o,_,_,e,_⟩:=x;exact aE e
 | set S n=>obtain ⟨o,_,_,_,e,_⟩:=x;exact aE e
 | ins C dx fs=>obtain ⟨_,_,_,e,_⟩:=x;exact aE e
 | own y=>obtain ⟨_,e⟩:=x;exact aE e
 | xd fs=>obtain ⟨_,⟨_,_,_,e,_⟩,_⟩:=x;exact aE e
 | rng lo hi=>obtain ⟨_,_,_,e⟩:=x;exact aE e
 | frz ob u=>obtain ⟨e,_⟩:=x;exact aE e
 | tbl ps=>exact aE (show h.get? a=some _ from x)
 | met f y=>exact aE (show h.get? a=some _ from x)
 | ext φ=>obtain ⟨_,⟨_,e⟩,_⟩:=x;exact aE e
theorem Paired.mapP {α β:Type}{F G:α→β→Prop}:∀ {l₁:List α} {l₂:List β},jU F l₁ l₂→(∀ a b,F a b→G a b)→jU G l₁ l₂
 | _,_,.nil,_=> .nil
 | _,_,.cons r t,f=> .cons (f _ _ r) (Paired.mapP t f)
theorem i7.stay (x:i7 P w H h a o)(k:∀ b u,(b=a∨H b=some (.own a))→h.get? b=some u→h'.get? b=some u)
  (ho:∀ b,H b=some (.own a)→H' b=some (.own a)) (ht:∀ b xs,H b=some (.tup xs)→H' b=some (.tup xs)):i7 P w H' h' a o:=by
 induction o with
 | lst xs=>obtain ⟨z,its,n,r,e⟩:=x;exact ⟨z,its,n,r,k _ _ (.inl rfl) e⟩
 | tup xs=>obtain ⟨z,its,r,ob,e,c⟩:=x;exact ⟨z,its,r,ob,k _ _ (.inl rfl) e,c⟩
 | dK kvs=>obtain ⟨z,y,vs,r,ob,es,ep,e,c⟩:=x;exact ⟨z,y,vs,r,ob,es,ep,k _ _ (.inl rfl) e,c⟩
 | dT kvs =>
  obtain ⟨z,y,xs,r,ob,es,ep,e,c⟩:=x;exact ⟨z,y,xs,Paired.mapP r fun p q z=>⟨z.1,ht _ _ z.2.1,z.2.2⟩,ob,es,ep,k _ _ (.inl rfl) e,c⟩
 | set S n=>obtain ⟨ob,es,ep,t,e,c⟩:=x;exact ⟨ob,es,ep,t,k _ _ (.inl rfl) e,c⟩
 | ins C dx fs =>
  obtain ⟨d,z,ne,e,mA,⟨od,es,ep,e2,c⟩,r⟩:=x;exact ⟨ho _ d,z,ne,k _ _ (.inl rfl) e,mA,⟨od,es,ep,k _ _ (.inr d) e2,c⟩,r⟩
 | own y=>obtain ⟨ob,e⟩:=x;exact ⟨ob,k _ _ (.inl rfl) e⟩
 | xd fs=>obtain ⟨mA,⟨od,es,ep,e,c⟩,r⟩:=x;exact ⟨mA,⟨od,es,ep,k _ _ (.inl rfl) e,c⟩,r⟩
 | rng lo hi=>obtain ⟨t,u,v,e⟩:=x;exact ⟨t,u,v,k _ _ (.inl rfl) e⟩
 | frz ob u ih=>obtain ⟨e,q⟩:=x;exact ⟨k _ _ (.inl rfl) e,ih q⟩
 | tbl ps =>
  have e:h.get? a=some { cls:= .none,data:= .fields ps }:=x;show h'.get? a=some { cls:= .none,data:= .fields ps };exact k a _ (.inl rfl) e
 | met f y =>
  have e:h.get? a=some (PySem.W.methodObj (.ref f) (.ref y)):=x;show h'.get? a=some (PySem.W.methodObj (.ref f) (.ref y));exact k a _ (.inl rfl) e
 | ext φ=>obtain ⟨p,⟨o,e⟩,st⟩:=x;exact ⟨st _ _ p fun o q=>k _ _ (.inl rfl) q,⟨o,k _ _ (.inl rfl) e⟩,st⟩
theorem HOk.lt (x:HOk P w H h)(e:H a=some o):a<h.objs.size:=(x a o e).lt
theorem HOk.fresh (x:HOk P w H h)(e:h.objs.size≤a):H a=none:=by
 cases q:H a with
 | none=>rfl
 | some u=>exact qS (aL (x.lt q) e) (eC _)
theorem HOk.kept (x:HOk P w H h)(k:∀ b u,h.get? b=some u→h'.get? b=some u):HOk P w H h':=fun a o e =>
 (x a o e).stay (fun b u _ q=>k b u q) (fun _ q=>q) fun _ _ q=>q
theorem HOk.laid (x:HOk P w H h)(k:∀ b u,h.get? b=some u→h'.get? b=some u)(hp:h.objs.size≤a)(new:i7 P w (upd H a o) h' a o):HOk P w (upd H a o) h':=fun b u e=>by
 have hn:=x.fresh hp
 by_cases hb:b=a
 ·subst hb;rw [aX] at e;cases e;exact new
 ·rw [bc hb] at e
  exact (x b u e).stay (fun c v _ q=>k c v q) (fun c q=>by rw [bc (bw q hn)];exact q) fun c xs q=>by rw [bc (bw q hn)];exact q
end
def Rd (H:Hp)(a:ai)(u:HO):Prop:=H a=some u∨∃ o,H a=some (.frz o u)
theorem Rd.of {H:Hp}{u:HO}(h:H a=some u):Rd H a u:= .inl h
theorem Rd.ok {H:Hp}{u:HO}(r:Rd H a u)(x:HOk P w H h):i7 P w H h a u:=by
 rcases r with r | ⟨o,r⟩
 ·exact x a u r
 ·obtain ⟨_,q⟩:=x a _ r
  exact q
def Mut:Option HO→Prop
 | some (.lst _)=>True
 | some (.dK _)=>True
 | some (.dT _)=>True
 | some (.set _ _)=>True
 | some (.ins _ _ _)=>True
 | some (.ext _)=>True
 | _=>False
section
variable {H:Hp}{x e:ai}{o':HO}
theorem HOk.write (ok:HOk P w H h)(mu:Mut (H x))(he:e=x∨H e=some (.own x))(k:∀ b u,b≠e→h.get? b=some u→h'.get? b=some u)(heo:∃ u,h'.get? e=some u)
  (new:i7 P w (upd H x o') h' x o'):HOk P w (upd H x o') h':=fun b u q=>by
 have nown:∀ c y,H c=some (.own y)→c≠x:=fun c y r z=>by subst z;rw [r] at mu;exact mu
 have ntup:∀ c xs,H c=some (.tup xs)→c≠x:=fun c xs r z=>by subst z;rw [r] at mu;exact mu
 by_cases hb:b=x
 ·subst hb;rw [aX] at q;cases q;exact new
 ·rw [bc hb] at q
  by_cases hbe:b=e
  ·have q':H b=some (.own x):=by
    rcases he with z | z
    ·exact qS (hbe.trans z) hb
    ·rw [hbe];exact z
   rw [q] at q';cases q';obtain ⟨v,hv⟩:=heo;exact ⟨v,by rw [hbe];exact hv⟩
  ·refine (ok b u q).stay (fun c v hc r=>k c v ?_ r) (fun c r=>by rw [bc (nown c b r)];exact r) fun c xs r=>by rw [bc (ntup c xs r)];exact r
   rcases hc with rfl | hc
   ·exact hbe
   ·rintro rfl
    rcases he with z | z
    ·exact nown c b hc z
    ·rw [hc] at z;cases z;exact hb rfl
end
structure Un (fs ex:List ai)(H H':Hp)(h h':bz):Prop where
 keep:∀ b o,h.get? b=some o→H b=none→b ∉ fs→b ∉ ex→h'.get? b=some o
 slot:∀ b o,h.get? b=some o→H b=none→b∈fs→b ∉ ex→∃ sl,h'.get? b=some { o with slots:=sl }
 free:∀ b o,h.get? b=some o→H b=none→b ∉ ex→H' b=none
 there:∀ b o,h.get? b=some o→b ∉ ex→∃ o',h'.get? b=some o'
 tups:∀ b xs,H b=some (.tup xs)→H' b=some (.tup xs)
 frzs:∀ b o u,H b=some (.frz o u)→H' b=some (.frz o u)
 tbls:∀ b ps,H b=some (.tbl ps)→∃ more,H' b=some (.tbl (ps++more))
section
variable {fs fs' ex':List ai}{H H1 H2:Hp}{h1 h2:bz}{x e:ai}{o:HO}
theorem Un.any (u:Un fs ex H H1 h h1){b:ai}{ob:Obj}(q:h.get? b=some ob)(n:H b=none)(hx:b ∉ ex):∃ sl,h1.get? b=some { ob with slots:=sl }:=by
 by_cases hb:b∈fs
 ·exact u.slot b ob q n hb hx
 ·exact ⟨ob.slots,u.keep b ob q n hb hx⟩
theorem Un.kept (k:∀ b u,h.get? b=some u→h'.get? b=some u):Un fs ex H H h h' :=
 ⟨fun b ob q _ _ _=>k b ob q,fun b ob q _ _ _=>⟨ob.slots,k b ob q⟩,fun _ _ _ n _=>n,fun b ob q _=>⟨ob,k b ob q⟩,fun _ _ q=>q,fun _ _ _ q=>q,fun _ ps q=>⟨#[],by rw [q];simp⟩⟩
theorem Un.refl:Un fs ex H H h h:=Un.kept fun _ _ q=>q
theorem Un.laid (k:∀ b u,h.get? b=some u→h'.get? b=some u)(hp:h.objs.size≤a)(hn:H a=none):Un fs ex H (upd H a o) h h' where
 keep:=fun b u q _ _ _=>k b u q
 slot:=fun b u q _ _ _=>⟨u.slots,k b u q⟩
 free:=fun b u q n _=>by rw [bc (bE (aL (aE q) hp))];exact n
 there:=fun b u q _=>⟨u,k b u q⟩
 tups:=fun b xs q=>by rw [bc (bw q hn)];exact q
 frzs:=fun b u xs q=>by rw [bc (bw q hn)];exact q
 tbls:=fun b ps q=>⟨#[],by rw [bc (bw q hn),q];simp⟩
theorem Un.write (mu:Mut (H x))(he:e=x∨H e=some (.own x))(k:∀ b u,b≠e→h.get? b=some u→h'.get? b=some u)(heo:∃ u,h'.get? e=some u):Un fs ex H (upd H x o) h h':=by
 have hx:∀ b,H b=none→b≠x:=fun b n z=>by subst z;rw [n] at mu;exact mu
 have hb:∀ b,H b=none→b≠e:=fun b n z=>by
  subst z
  rcases he with r | r
  ·exact hx b n r
  ·rw [n] at r;cases r
 have hm:∀ b u,H b=some u→¬ Mut (some u)→b≠x:=fun b u q nm z=>by subst z;rw [q] at mu;exact nm mu
 refine ⟨fun b u q n _ _=>k b u (hb b n) q,fun b u q n _ _=>⟨u.slots,k b u (hb b n) q⟩,fun b u q n _=>by rw [bc (hx b n)];exact n,fun b u q _=>?_,
  fun b xs q=>by rw [bc (hm b _ q fun z=>z)];exact q,fun b u xs q=>by rw [bc (hm b _ q fun z=>z)];exact q,fun b ps q=>⟨#[],by rw [bc (hm b _ q fun z=>z),q];simp⟩⟩
 by_cases hbe:b=e
 ·subst hbe;exact heo
 ·exact ⟨u,k b u hbe q⟩
end
def trk (h:bz)(H:Hp):List ai:=(aQ h.objs.size).filter fun a=>(H a).isSome
def hidT (h:bz)(H:Hp):bz:=PySem.W.hideAll h (trk h H)
theorem hidT_size (h:bz)(H:Hp):(hidT h H).objs.size=h.objs.size:=PySem.W.hideAll_size _ _
theorem hidT_get {H:Hp}{b:ai}{o:Obj}(e:h.get? b=some o)(n:H b=none):(hidT h H).get? b=some o :=
 PySem.W.hideAll_get _ e fun hm=>by
  have q:(H b).isSome=true:=(cb.mp hm).2;rw [n] at q;simp at q
theorem of_hidT {H:Hp}{b:ai}{o:Obj}(e:(hidT h H).get? b=some o):h.get? b=some o∧H b=none:=by
 have e':h.get? b=some o:=PySem.W.of_hideAll (trk h H) e;refine ⟨e',?_⟩;cases q:H b with
 | none=>rfl
 | some x =>
  have hm:b∈trk h H:=cb.mpr ⟨bY.mpr (aE e'),by simp [q]⟩;have z:(hidT h H).get? b=none:=PySem.W.hideAll_none (trk h H) hm;rw [z] at e;cases e
structure Mod (K:aq)(mg:Str→Option aa)(base:bz):Prop where
 kin:K.In base
 glob:base.Ns bt mg
 blt:∃ mb,base.Ns builtinsNs mb∧∀ x:Str,x ≠ "__name__" →mb x=jT x
 nolimit:base.NoLimit
structure Cx where
 prog:aN
 w:bp
 K:aq
 mg:Str→Option aa
 base:bz
 A:bL
 N:List Str
 s₀:ao
 H₀:Hp
 env:Env
 outer:List Env
 stack:List Env
 ex:List ai
 fn:Str→Bool
 calm:Bool
 pn:List (ai×Obj)
 xe:aa→ao→Prop
def frs (l:List Env):List ai:=l.filterMap (·.frame)
abbrev Cx.fs (X:Cx):List ai:=frs X.outer
def Vis (sc:eO)(x:Str):Prop:=sc.names.lookup x=some .local∨sc.names.lookup x=some .cell∨sc.names.lookup x=some .free
def Loc (sc:eO)(x:Str):Prop:=sc.names.lookup x=some .local∨sc.names.lookup x=some .cell
def Look (env:Env)(h:bz)(m:Str→Option aa)(x:Str)(u:aa):Prop :=
 (env.kindOf x=some .local∧m x=some u)∨((env.kindOf x=some .cell∨env.kindOf x=some .free)∧∃ c,env.cells.lookup x=some c∧h.IsCell c (some u))
structure Cx.Ok (X:Cx):Prop where
 mod:Mod X.K X.mg X.base
 kind:X.env.scope.kind= .function
 glob:X.env.globals=bt
 blt:X.env.builtins=builtinsNs
 above:X.s₀.heap.objs.size≤X.env.locals
 inj:∀ x y c,X.env.cells.lookup x=some c→X.env.cells.lookup y=some c→x=y
 has:∀ x,(X.env.kindOf x=some .cell∨X.env.kindOf x=some .free)→∃ c,X.env.cells.lookup x=some c
 cab:∀ x c,X.fn x=true→X.env.cells.lookup x=some c→X.s₀.heap.objs.size≤c
 hd:X.calm=true→X.A.handled=none
 frames:X.A.frames=some X.stack
 stk:X.stack=X.outer∨(X.stack=X.env::X.outer∧X.env.frame=some X.env.locals)
 exf:∀ b∈X.ex,b≠X.env.locals∧∀ x c,X.env.cells.lookup x=some c→c≠b
 bs:∀ b o,X.base.get? b=some o→X.s₀.heap.get? b=some o∧X.H₀ b=none
 bsz:X.base.objs.size≤X.s₀.heap.objs.size
 noex:∀ b o,X.base.get? b=some o→b ∉ X.ex
 exfs:∀ b∈X.ex,b ∉ X.fs
 funs:X.s₀.heap.FunFrames X.base X.outer
 frf:∀ b∈X.fs,X.H₀ b=none
structure Inv (X:Cx)(aH:List (ai×Obj))(σ:List (Option V))(H:Hp)(s:ao):Prop where
 ok:X.Ok
 os:s.os=X.s₀.os
 bare:AllBare s.gens
 base:Un X.fs X.ex X.H₀ H X.s₀.heap s.heap
 loc:∃ m,s.heap.Ns X.env.locals m∧∀ (i:Nat) (x:Str) (v:V),X.N[i]? =some x→σ[i]? =some (some v)→Vis X.env.scope x→∃ u,fY v u∧Look X.env s.heap m x u
 cell:∀ x c,X.env.cells.lookup x=some c→∃ v,s.heap.IsCell c v
 free:H X.env.locals=none
 freeC:∀ x c,X.env.cells.lookup x=some c→H c=none
 pin:∀ p∈X.pn++aH,s.heap.get? p.1=some p.2∧H p.1=none∧p.1≠X.env.locals∧p.1 ∉ X.fs∧∀ v,p.2.data≠ .cell v
 hok:HOk X.prog X.w H s.heap
 len:σ.length=X.N.length
section
variable {X:Cx}{σ:List (Option V)}{H H':Hp}
theorem Cx.Ok.nofr (ok:X.Ok){b:ai}{o:Obj}(e:X.base.get? b=some o):b ∉ X.fs:=fun hb=>by
 have:=(ok.funs.mem hb).1;rw [e] at this;cases this
theorem Inv.bs (I:Inv X aH σ H s):∀ b o,X.base.get? b=some o→s.heap.get? b=some o∧H b=none:=fun b o e =>
 ⟨I.base.keep b o (I.ok.bs b o e).1 (I.ok.bs b o e).2 (I.ok.nofr e) (I.ok.noex b o e),I.base.free b o (I.ok.bs b o e).1 (I.ok.bs b o e).2 (I.ok.noex b o e)⟩
theorem Inv.bk (I:Inv X aH σ H s):∀ b o,X.base.get? b=some o→s.heap.get? b=some o:=fun b o e=>(I.bs b o e).1
theorem Inv.mod (I:Inv X aH σ H s):Mod X.K X.mg X.base:=I.ok.mod
theorem Inv.kIn (I:Inv X aH σ H s):X.K.In s.heap:=I.ok.mod.kin.keeps I.bk
theorem Inv.nolimit (I:Inv X aH σ H s):s.heap.NoLimit:=I.ok.mod.nolimit.keeps I.bk
theorem Inv.lt (I:Inv X aH σ H s):X.env.locals<s.heap.objs.size:=let ⟨_,hn,_⟩:=I.loc;hn.lt
theorem Inv.sz (I:Inv X aH σ H s):X.s₀.heap.objs.size≤s.heap.objs.size:=aS I.ok.above (iL I.lt)
theorem Inv.nofs (I:Inv X aH σ H s)(h:s.heap.objs.size≤a):a ∉ X.fs:=fun hb=>by
 obtain ⟨_,o,ho,_⟩:=I.ok.funs.mem hb;exact qS (aL (aE ho) (aS I.sz h)) (eC _)
theorem Inv.cne (I:Inv X aH σ H s):∀ x c,X.env.cells.lookup x=some c→c≠X.env.locals:=fun x c e z=>by
 obtain ⟨v,o,ho,hd⟩:=I.cell x c e;obtain ⟨m,⟨o',es,ep,ho',hd',_⟩,_⟩:=I.loc;rw [z,ho'] at ho;cases ho;rw [hd'] at hd;cases hd
theorem Inv.funs (I:Inv X aH σ H s):s.heap.FunFrames X.base X.outer:=by
 have all:∀ (l:List Env),(∀ b∈frs l,b∈X.fs)→X.s₀.heap.FunFrames X.base l→s.heap.FunFrames X.base l:=by
  intro l
  induction l with
  | nil=>intro _ _;trivial
  | cons env r ih =>
   intro hs hl;obtain ⟨hk,⟨L,o,hf,hn,ho,hd⟩,hr⟩:=hl;have hL:L∈X.fs:=hs L (by unfold frs;rw [km,hf];exact aZ);obtain ⟨sl,e⟩:=I.base.slot L o ho (I.ok.frf L hL) hL fun z=>I.ok.exfs L z hL
   exact ⟨hk,⟨L,_,hf,hn,e,hd⟩,ih (fun b hb=>hs b (by unfold frs;rw [km,hf];exact aw _ hb)) hr⟩
 exact all X.outer (fun _ hb=>hb) I.ok.funs
theorem Inv.stack (I:Inv X aH σ H s):s.heap.FunFrames X.base X.stack:=by
 rcases I.ok.stk with e | ⟨e,hf⟩
 ·rw [e];exact I.funs
 ·rw [e]
  obtain ⟨m,hn,_⟩:=I.loc;refine .cons (by rw [I.ok.kind];decide) hf hn ?_ I.funs;exact bz.get?_none_of_le (aS I.ok.bsz I.ok.above)
theorem Inv.stkSub (I:Inv X aH σ H s):∀ b∈frs X.stack,b∈X.env.locals::X.fs:=fun b hb=>by
 rcases I.ok.stk with e | ⟨e,hf⟩
 ·rw [e] at hb;exact aw _ hb
 ·rw [e] at hb
  unfold frs at hb;rw [km,hf] at hb;exact hb
theorem Inv.stkFree (I:Inv X aH σ H s):∀ b∈frs X.stack,H b=none:=fun b hb=>by
 rcases aB.mp (I.stkSub b hb) with e | hb
 ·rw [e];exact I.free
 ·obtain ⟨_,o,ho,_⟩:=I.ok.funs.mem hb
  exact I.base.free b o ho (I.ok.frf b hb) fun z=>I.ok.exfs b z hb
theorem Inv.step (I:Inv X aH σ H s)
  (hch:∀ b∈ch,(b∈X.ex∨X.s₀.heap.objs.size≤b)∧b≠X.env.locals∧(∀ x c,X.env.cells.lookup x=some c→c≠b)∧∀ p∈X.pn++aH,p.1≠b)
  (keep:∀ b o,b≠X.env.locals→b ∉ X.fs→b ∉ ch→s.heap.get? b=some o→H b=none→h'.get? b=some o)
  (slot:∀ b o,b≠X.env.locals→b∈X.fs→b ∉ ch→s.heap.get? b=some o→H b=none→∃ sl,h'.get? b=some { o with slots:=sl }) (free:∀ b o,b ∉ ch→s.heap.get? b=some o→H b=none→H' b=none)
  (there:∀ b o,b ∉ ch→s.heap.get? b=some o→∃ o',h'.get? b=some o')
  (tups:∀ b xs,H b=some (.tup xs)→H' b=some (.tup xs)) (frzs:∀ b o u,H b=some (.frz o u)→H' b=some (.frz o u)) (tbls:∀ b ps,H b=some (.tbl ps)→∃ more,H' b=some (.tbl (ps++more)))
  (ns:∀ m,s.heap.Ns X.env.locals m→h'.Ns X.env.locals m) (hok:HOk X.prog X.w H' h') (hg:AllBare g') :
  Inv X aH σ H' { s with heap:=h',gens:=g',drawn:=d',toks:=t' }:=by
 have neL:∀ b o,X.s₀.heap.get? b=some o→b≠X.env.locals:=fun b o e=>bE (aL (aE e) I.ok.above)
 have neC:∀ b o,X.s₀.heap.get? b=some o→b ∉ X.ex→b ∉ ch:=fun b o e hx hb=>by
  rcases (hch b hb).1 with z | z
  ·exact hx z
  ·exact qS (aL (aE e) z) (eC _)
 have cellK:∀ x c,X.env.cells.lookup x=some c→∀ v,s.heap.IsCell c v→h'.IsCell c v:=fun x c e v ⟨o,ho,hd⟩=>by
  have nch:c ∉ ch:=fun z=>(hch c z).2.2.1 x c e rfl
  by_cases hc:c∈X.fs
  ·obtain ⟨sl,q⟩:=slot c o (I.cne x c e) hc nch ho (I.freeC x c e)
   exact ⟨_,q,hd⟩
  ·exact ⟨o,keep c o (I.cne x c e) hc nch ho (I.freeC x c e),hd⟩
 refine ⟨I.ok,I.os,hg,⟨fun b o e n hb hx=>?_,fun b o e n hb hx=>?_,fun b o e n hx=>?_,fun b o e hx=>?_,fun b xs e=>tups b xs (I.base.tups b xs e),fun b o xs e=>frzs b o xs (I.base.frzs b o xs e),fun b ps e=>?_⟩,?_,fun x c e=>?_,?_,fun x c e=>?_,fun p hp=>?_,hok,I.len⟩
 ·exact keep b o (neL b o e) hb (neC b o e hx) (I.base.keep b o e n hb hx) (I.base.free b o e n hx)
 ·obtain ⟨sl,e1⟩:=I.base.slot b o e n hb hx
  obtain ⟨sl',e2⟩:=slot b _ (neL b o e) hb (neC b o e hx) e1 (I.base.free b o e n hx);exact ⟨sl',e2⟩
 ·obtain ⟨o',e1⟩:=I.base.there b o e hx
  exact free b o' (neC b o e hx) e1 (I.base.free b o e n hx)
 ·obtain ⟨o',e1⟩:=I.base.there b o e hx
  exact there b o' (neC b o e hx) e1
 ·obtain ⟨m1,e1⟩:=I.base.tbls b ps e
  obtain ⟨m2,e2⟩:=tbls b _ e1;exact ⟨m1++m2,by rw [e2,Array.append_assoc]⟩
 ·obtain ⟨m,hn,hl⟩:=I.loc
  refine ⟨m,ns m hn,fun i x v e1 e2 e3=>?_⟩;obtain ⟨u,r,l⟩:=hl i x v e1 e2 e3;refine ⟨u,r,?_⟩
  rcases l with l | ⟨k,c,e,z⟩
  ·exact .inl l
  ·exact .inr ⟨k,c,e,cellK x c e _ z⟩
 ·obtain ⟨v,z⟩:=I.cell x c e
  exact ⟨v,cellK x c e v z⟩
 ·obtain ⟨m,⟨o,_,_,ho,_⟩,_⟩:=I.loc
  exact free _ o (fun z=>(hch _ z).2.1 rfl) ho I.free
 ·obtain ⟨v,o,ho,hd⟩:=I.cell x c e
  exact free c o (fun z=>(hch c z).2.2.1 x c e rfl) ho (I.freeC x c e)
 ·obtain ⟨e,n,ne,nf,d⟩:=I.pin p hp
  have nch:p.1 ∉ ch:=fun z=>(hch p.1 z).2.2.2 p hp rfl
  exact ⟨keep p.1 p.2 ne nf nch e n,free p.1 p.2 nch e n,ne,nf,d⟩
theorem Inv.un (I:Inv X aH σ H s)(u:Un X.fs [] H H' s.heap h')(hok:HOk X.prog X.w H' h'):Inv X aH σ H' { s with heap:=h',toks:=t' }:=by
 obtain ⟨m,⟨o,es,ep,ho,r⟩,_⟩:=id I.loc;obtain ⟨sl,hL⟩:=u.any ho I.free (by simp);exact I.step (g':=s.gens) (d':=s.drawn) (ch:=[]) (fun _ z=>nomatch z) (fun b o _ hb _ e n=>u.keep b o e n hb (by simp)) (fun b o _ hb _ e n=>u.slot b o e n hb (by simp)) (fun b o _ e n=>u.free b o e n (by simp)) (fun b o _ e=>u.there b o e (by simp)) u.tups u.frzs u.tbls (fun m' hm=>by
  obtain ⟨o',es',ep',ho',r'⟩:=hm;rw [ho] at ho';cases ho';exact ⟨_,es',ep',hL,r'⟩) hok I.bare
theorem Inv.call (I:Inv X aH σ H s)(u:Un (frs X.stack) ch H H' s.heap h')(hok:HOk X.prog X.w H' h')(hg:AllBare g')
  (hch:∀ b∈ch,(b∈X.ex∨X.s₀.heap.objs.size≤b)∧b≠X.env.locals∧(∀ x c,X.env.cells.lookup x=some c→c≠b)∧∀ p∈X.pn++aH,p.1≠b) :
  Inv X aH σ H' { s with heap:=h',gens:=g',drawn:=d',toks:=t' }:=by
 obtain ⟨m,⟨o,es,ep,ho,r⟩,_⟩:=id I.loc;obtain ⟨sl,hL⟩:=u.any ho I.free fun z=>(hch _ z).2.1 rfl
 exact I.step (ch:=ch) hch (fun b o hL hb hc e n=>u.keep b o e n (fun z=>(aB.mp (I.stkSub b z)).elim hL hb) hc) (fun b o _ _ hc e n=>u.any e n hc) (fun b o hc e n=>u.free b o e n hc) (fun b o hc e=>u.there b o e hc) u.tups u.frzs u.tbls (fun m' hm=>by
  obtain ⟨o',es',ep',ho',r'⟩:=hm;rw [ho] at ho';cases ho';exact ⟨_,es',ep',hL,r'⟩) hok hg
theorem Inv.turned {it:ai}(I:Inv X aH σ H s)(k:∀ b o,b≠it→s.heap.get? b=some o→h'.get? b=some o)(hn:H it=none)(hL:it≠X.env.locals)
  (h1:it∈X.ex∨X.s₀.heap.objs.size≤it) (h2:∀ x c,X.env.cells.lookup x=some c→c≠it) (h3:∀ p∈X.pn++aH,p.1≠it):Inv X aH σ H { s with heap:=h',toks:=t' }:=by
 have nit:∀ b u,H b=some u→b≠it:=fun b u e z=>by rw [z,hn] at e;cases e
 refine I.step (g':=s.gens) (d':=s.drawn) (ch:=[it]) (fun b hb=>?_) (fun b o _ _ hc e _=>k b o (fun z=>hc (by simp [z])) e) (fun b o _ _ hc e _=>⟨o.slots,k b o (fun z=>hc (by simp [z])) e⟩) (fun _ _ _ _ n=>n)
  (fun b o hc e=>⟨o,k b o (fun z=>hc (by simp [z])) e⟩) (fun _ _ e=>e) (fun _ _ _ e=>e) (fun b ps e=>⟨#[],by rw [e];simp⟩) (fun m hm=>?_) (fun b u e=>?_) I.bare
 ·have e:b=it:=by simpa using hb
  subst e;exact ⟨h1,hL,h2,h3⟩
 ·obtain ⟨o,es,ep,ho,r⟩:=hm
  exact ⟨o,es,ep,k _ o (bX hL) ho,r⟩
 ·refine (I.hok b u e).stay (fun c v hc q=>k c v ?_ q) (fun _ q=>q) fun _ _ q=>q
  rcases hc with z | z
  ·rw [z];exact nit b u e
  ·exact nit c _ z
theorem Inv.tok (I:Inv X aH σ H s)(t:Nat):Inv X aH σ H { s with toks:=t }:=I.un (h':=s.heap) (t':=t) Un.refl I.hok
theorem Inv.kept (I:Inv X aH σ H s)(k:∀ b u,s.heap.get? b=some u→h'.get? b=some u):Inv X aH σ H { s with heap:=h',toks:=t' }:=I.un (Un.kept k) (I.hok.kept k)
theorem Inv.laid {o:HO}(I:Inv X aH σ H s)(k:∀ b u,s.heap.get? b=some u→h'.get? b=some u)(hp:s.heap.objs.size≤a)(new:i7 X.prog X.w (upd H a o) h' a o) :
  Inv X aH σ (upd H a o) { s with heap:=h',toks:=t' }:=I.un (Un.laid k hp (I.hok.fresh hp)) (I.hok.laid k hp new)
theorem Inv.write {x e:ai}{o:HO}(I:Inv X aH σ H s)(mu:Mut (H x))(he:e=x∨H e=some (.own x))(k:∀ b u,b≠e→s.heap.get? b=some u→h'.get? b=some u)(heo:∃ u,h'.get? e=some u)
  (new:i7 X.prog X.w (upd H x o) h' x o):Inv X aH σ (upd H x o) { s with heap:=h',toks:=t' }:=I.un (Un.write mu he k heo) (I.hok.write mu he k heo new)
theorem Inv.pins_of (I:Inv X aH σ H s)(h:∀ p∈pins',s.heap.get? p.1=some p.2∧H p.1=none∧p.1≠X.env.locals∧p.1 ∉ X.fs∧∀ v,p.2.data≠ .cell v):Inv X pins' σ H s :=
 ⟨I.ok,I.os,I.bare,I.base,I.loc,I.cell,I.free,I.freeC,fun p hp=>(aK.mp hp).elim (fun z=>I.pin p (aG _ z)) (h p),I.hok,I.len⟩
theorem nodup_ix (hN:N.Nodup)(a:N[i]? =some x)(b:N[j]? =some x):i=j:=by
 obtain ⟨h1,e1⟩:=av.mp a;obtain ⟨h2,e2⟩:=av.mp b;exact (List.getElem_inj hN).mp (e1.trans e2.symm)
theorem store_ok2 {v:V}{Q:Unit→ao→Prop}(I:Inv X aH σ H s)(hN:X.N.Nodup)(hi:X.N[i]? =some x)(hx:Loc X.env.scope x)(r:fY v u)
  (h:∀ s',Inv X aH (σ.set i (some v)) H s'→(∃ a,dm a s.heap s'.heap∧(a=X.env.locals∨X.env.cells.lookup x=some a))→Q () s') (hf:X.fn x=true∨X.env.scope.names.lookup x=some .local:=by first | exact .inl rfl | exact .inr rfl | assumption):aJ M A (storeName X.env x u) Q E s:=by
 obtain ⟨m,hn,hl⟩:=id I.loc;have hcls:(X.env.scope.kind == .class || (X.env.scope.kind == .module && X.env.locals != X.env.globals))=false:=by rw [I.ok.kind];rfl
 have hiσ:i<σ.length:=by rw [I.len];exact (av.mp hi).1
 have cne:=I.cne;have tracked:∀ {a:ai} {h':bz},(∃ o,s.heap.get? a=some o∧H a=none)→dm a s.heap h'→HOk X.prog X.w H h':=fun {a h'} ha hs b ob e=>by
  obtain ⟨_,_,hfree⟩:=ha;refine (I.hok b ob e).stay (fun c w' hc q=>(hs.2 c ?_).trans q) (fun _ q=>q) fun _ _ q=>q
  rintro rfl
  rcases hc with rfl | hc
  ·rw [hfree] at e;cases e
  ·rw [hfree] at hc;cases hc
 rcases hx with hk | hk
 ·refine wpAny_storeName_local hk hn (fun h' hn' hs=>?_) hcls
  obtain ⟨oL,_,_,hoL,_⟩:=id hn;refine h _ ⟨I.ok,I.os,I.bare,⟨fun b o e n hb hx=>?_,fun b o e n hb hx=>?_,I.base.free,fun b o e hx=>?_,I.base.tups,I.base.frzs,I.base.tbls⟩,⟨_,hn',fun j y v' e1 e2 e3=>?_⟩,fun y c e=>?_,I.free,I.freeC,fun p hp=>?_,tracked ⟨oL,hoL,I.free⟩ hs,by simpa using I.len⟩ ⟨_,hs,.inl rfl⟩
  ·exact (hs.2 b (bE (aL (aE e) I.ok.above))).trans (I.base.keep b o e n hb hx)
  ·obtain ⟨sl,e1⟩:=I.base.slot b o e n hb hx
   exact ⟨sl,(hs.2 b (bE (aL (aE e) I.ok.above))).trans e1⟩
  ·obtain ⟨o',e1⟩:=I.base.there b o e hx
   exact ⟨o',(hs.2 b (bE (aL (aE e) I.ok.above))).trans e1⟩
  ·by_cases hj:j=i
   ·subst hj
    rw [hi] at e1;cases e1;rw [cT hiσ] at e2;cases e2;exact ⟨u,r,.inl ⟨hk,by simp⟩⟩
   ·rw [cS (bX hj)] at e2
    obtain ⟨u',r',q⟩:=hl j y v' e1 e2 e3;refine ⟨u',r',?_⟩
    rcases q with ⟨k,e⟩ | ⟨k,c,e,z⟩
    ·refine .inl ⟨k,?_⟩
     have:y≠x:=fun e=>hj (nodup_ix hN e1 (e ▸ hi))
     simp [this,e]
    ·exact .inr ⟨k,c,e,z.sameBut hs (cne y c e)⟩
  ·obtain ⟨w',z⟩:=I.cell y c e
   exact ⟨w',z.sameBut hs (cne y c e)⟩
  ·obtain ⟨e,n,ne,nf,d⟩:=I.pin p hp
   exact ⟨(hs.2 p.1 ne).trans e,n,ne,nf,d⟩
 ·have hfn:X.fn x=true:=by
   rcases hf with z | z
   ·exact z
   ·rw [z] at hk;cases hk
  obtain ⟨c,hc⟩:=I.ok.has x (.inl hk);obtain ⟨w',z⟩:=I.cell x c hc;refine wpAny_storeName_cell I.ok.kind hk hc z (fun h' hc' hs=>?_);obtain ⟨oc,hoc,hocd⟩:=id z;refine h { s with heap:=h' } ⟨I.ok,I.os,I.bare,⟨fun b o e n hb hx=>?_,fun b o e n hb hx=>?_,I.base.free,fun b o e hx=>?_,I.base.tups,I.base.frzs,I.base.tbls⟩,⟨m,hn.sameBut hs (bX (cne x c hc)),fun j y v' e1 e2 e3=>?_⟩,fun y c' e=>?_,I.free,I.freeC,fun p hp=>?_,tracked ⟨oc,hoc,I.freeC x c hc⟩ hs,by simpa using I.len⟩ ⟨c,hs,.inr hc⟩
  ·exact (hs.2 b (bE (aL (aE e) (I.ok.cab x c hfn hc)))).trans (I.base.keep b o e n hb hx)
  ·obtain ⟨sl,e1⟩:=I.base.slot b o e n hb hx
   exact ⟨sl,(hs.2 b (bE (aL (aE e) (I.ok.cab x c hfn hc)))).trans e1⟩
  ·obtain ⟨o',e1⟩:=I.base.there b o e hx
   exact ⟨o',(hs.2 b (bE (aL (aE e) (I.ok.cab x c hfn hc)))).trans e1⟩
  ·by_cases hj:j=i
   ·subst hj
    rw [hi] at e1;cases e1;rw [cT hiσ] at e2;cases e2;exact ⟨u,r,.inr ⟨.inl hk,c,hc,hc'⟩⟩
   ·rw [cS (bX hj)] at e2
    obtain ⟨u',r',q⟩:=hl j y v' e1 e2 e3;refine ⟨u',r',?_⟩
    rcases q with q | ⟨k,c',e,z'⟩
    ·exact .inl q
    ·refine .inr ⟨k,c',e,z'.sameBut hs ?_⟩
     rintro rfl;exact hj (nodup_ix hN e1 (I.ok.inj _ _ _ e hc ▸ hi))
  ·by_cases hcc:c'=c
   ·subst hcc;exact ⟨_,hc'⟩
   ·obtain ⟨w2,z2⟩:=I.cell y c' e
    exact ⟨w2,z2.sameBut hs hcc⟩
  ·obtain ⟨e,n,ne,nf,d⟩:=I.pin p hp
   refine ⟨(hs.2 p.1 ?_).trans e,n,ne,nf,d⟩;intro q;rw [q,hoc] at e;have q':oc=p.2:=bQ e;exact d w' (by rw [←q'];exact hocd)
theorem oJ {v:V}{Q:Unit→ao→Prop}(I:Inv X aH σ H s)(hN:X.N.Nodup)(hi:X.N[i]? =some x)(hx:Loc X.env.scope x)(r:fY v u)
  (h:∀ s',Inv X aH (σ.set i (some v)) H s'→Q () s') (hf:X.fn x=true∨X.env.scope.names.lookup x=some .local:=by first | exact .inl rfl | exact .inr rfl | assumption):aJ M A (storeName X.env x u) Q E s :=
 store_ok2 I hN hi hx r (fun s' I' _=>h s' I') hf
theorem Inv.call' (I:Inv X aH σ H s)(ho:s'.os=s.os)(u:Un (frs X.stack) ch H H' s.heap s'.heap)(hok:HOk X.prog X.w H' s'.heap)(hg:AllBare s'.gens)
  (hch:∀ b∈ch,(b∈X.ex∨X.s₀.heap.objs.size≤b)∧b≠X.env.locals∧(∀ x c,X.env.cells.lookup x=some c→c≠b)∧∀ p∈X.pn++aH,p.1≠b):Inv X aH σ H' s':=by
 obtain ⟨h',g',d',t',o'⟩:=s';have e:o'=s.os:=ho;subst e;exact I.call (g':=g') (t':=t') (d':=d') u hok hg hch
end
abbrev XK:=aa→Option ai→Hp→Prop
abbrev St:=List (Option V)
abbrev VK:=V→Hp→Prop
abbrev TE:=St→Hp→VK→Prop
end L2
variable {H H' H0 H1 H2 Hc:L2.Hp}{Hf:L2.Hp→Prop}{X:L2.Cx}{dvs xs ys zs:List L2.V}{kvs:List (List L2.Key×L2.V)}{o:L2.HO}{r r':L2.V→Option Int→Option Int→L2.Hp→L2.VK→Prop}{ta te tl tv:L2.TE}{tget:L2.V→L2.V→L2.Hp→L2.VK→Prop}{trs:List (L2.TE×L2.TE)}{v y:L2.V}{σ:L2.St}
namespace L2
open PySem PySem.Spec PyProof.Rows
abbrev TT:=St→Hp→(Bool→Hp→Prop)→Prop
abbrev TA:=St→Hp→(List V→Hp→Prop)→Prop
structure kO where
 nx:St→Hp→Prop
 rt:VK
 bk:St→Hp→Prop:=fun _ _=>False
 ct:St→Hp→Prop:=fun _ _=>False
abbrev TS:=kO→St→Hp→Prop
def EP (X:Cx)(aH:List (ai×Obj))(σ:St)(Q:VK)(u:aa)(s':ao):Prop:=∃ v H',Inv X aH σ H' s'∧fY v u∧Q v H'
def TP (X:Cx)(aH:List (ai×Obj))(σ:St)(Q:Bool→Hp→Prop)(b:Bool)(s':ao):Prop:=∃ H',Inv X aH σ H' s'∧Q b H'
def AP (X:Cx)(aH:List (ai×Obj))(σ:St)(Q:List V→Hp→Prop)(us:List aa)(s':ao):Prop:=∃ vs H',Inv X aH σ H' s'∧fN vs us∧Q vs H'
def SP (X:Cx)(aH:List (ai×Obj))(D:kO)(f:Flow)(s':ao):Prop :=
 match f with
 | .next=>∃ σ' H',Inv X aH σ' H' s'∧D.nx σ' H'
 | .brk=>∃ σ' H',Inv X aH σ' H' s'∧D.bk σ' H'
 | .cont=>∃ σ' H',Inv X aH σ' H' s'∧D.ct σ' H'
 | .ret u=>∃ v σ' H',Inv X aH σ' H' s'∧fY v u∧D.rt v H'
def PE (X:Cx)(e:Expr)(t:TE):Prop :=
 ∀ (aH:List (ai×Obj)) (s:ao) (σ:St) (H:Hp) (Q:VK),Inv X aH σ H s→t σ H Q→aJ (aV X.prog X.w) X.A (dH e X.env) (EP X aH σ Q) X.xe s
def PT (X:Cx)(e:Expr)(t:TT):Prop :=
 ∀ (aH:List (ai×Obj)) (s:ao) (σ:St) (H:Hp) (Q:Bool→Hp→Prop),Inv X aH σ H s→t σ H Q→aJ (aV X.prog X.w) X.A (isTrue e X.env (dH e X.env)) (TP X aH σ Q) X.xe s
def PW (X:Cx)(e:Expr)(t:TT):Prop :=
 ∀ (whole:Sem aa) (aH:List (ai×Obj)) (s:ao) (σ:St) (H:Hp) (Q:Bool→Hp→Prop),Inv X aH σ H s→t σ H Q→aJ (aV X.prog X.w) X.A (isTrue e X.env whole) (TP X aH σ Q) X.xe s
theorem PW.pt {t:TT}(h:PW X e t):PT X e t:=h _
def PA (X:Cx)(es:List Expr)(t:TA):Prop :=
 ∀ (pos:Pos) (aH:List (ai×Obj)) (s:ao) (σ:St) (H:Hp) (Q:List V→Hp→Prop),Inv X aH σ H s→t σ H Q→aJ (aV X.prog X.w) X.A (spliced (fE pos (br es X.env))) (AP X aH σ Q) X.xe s
def PS (X:Cx)(st:cF)(t:TS):Prop :=
 ∀ (aH:List (ai×Obj)) (s:ao) (σ:St) (H:Hp) (D:kO),Inv X aH σ H s→t D σ H→aJ (aV X.prog X.w) X.A (exec st X.env) (SP X aH D) X.xe s
def PSs (X:Cx)(st:List cF)(t:TS):Prop :=
 ∀ (aH:List (ai×Obj)) (s:ao) (σ:St) (H:Hp) (D:kO),Inv X aH σ H s→t D σ H→aJ (aV X.prog X.w) X.A (execs st X.env) (SP X aH D) X.xe s
theorem thn {t:Sem α}{Q Q':α→ao→Prop}(h:aJ M A t Q E s)(hQ:∀ a s,Q a s→Q' a s):aJ M A t Q' E s:=bP h hQ fun _ _ x=>x
section
inductive HasV (o:Option (Option V))(k:V→Prop):Prop
 | mk (v:V)(h:o=some (some v))(q:k v):HasV o k
inductive IsBl (x:V)(k:Bool→Prop):Prop
 | mk (c:Bool)(h:x= .bl c)(q:k c):IsBl x k
def tVar (i:Nat):TE:=fun σ H Q=>HasV σ[i]? fun v=>Q v H
def tC (v:V):TE:=fun _ H Q=>Q v H
theorem pe_var (hN:X.N[i]? =some x)(hv:Vis X.env.scope x)(hd:(x == ("__debug__" :Str))=false:=by decide)(hcd:(x == ("__classdict__" :Str))=false:=by decide):PE X (.Name x pos) (tVar i):=by
 intro aH s σ H Q I h;obtain ⟨v,e,h⟩:=h;obtain ⟨m,hn,hl⟩:=I.loc;obtain ⟨u,r,l⟩:=hl i x v hN e hv;have fin:EP X aH σ Q u s:=⟨v,H,I,r,h⟩
 rcases l with ⟨hk,hm⟩ | ⟨hk,c,hc,iK⟩
 ·exact wpAny_Name (wpAny_loadName_local I.ok.kind hk hn hm fin) hd
 ·rcases hk with hk | hk
  ·exact wpAny_Name (wpAny_loadName_cell I.ok.kind hk hc iK fin) hd
  ·exact wpAny_Name (wpAny_loadName_free I.ok.kind hk hc iK fin hcd) hd
theorem bR {i j pos}:PE X (.Constant (.int i) j pos) (tC (.int i)):=fun _ _ _ H _ I h=>wpAny_Constant_int ⟨.int i,H,I.tok _,⟨_,rfl⟩,h⟩
theorem pe_bl {b j pos}:PE X (.Constant (.bool b) j pos) (tC (.bl b)):=fun _ _ _ H _ I h=>Constant_bool ⟨.bl b,H,I,rfl,h⟩
theorem mF {j pos}:PE X (.Constant .none j pos) (tC .non):=fun _ _ _ H _ I h=>Constant_none ⟨.non,H,I,rfl,h⟩
theorem mE {x j pos}:PE X (.Constant (.str x) j pos) (tC (.str x)):=fun _ _ _ H _ I h=>Calls.Constant_str ⟨.str x,H,I.tok _,⟨_,rfl⟩,h⟩
def Gl (X:Cx)(x:Str):Prop:=X.env.kindOf x=some .globalImplicit
theorem lW (I:Inv X aH σ H s)(hg:Gl X x)(hm:X.mg x=some u)(h:Q u s)
  (hd:(x == ("__debug__" :Str))=false:=by decide):aJ (aV X.prog X.w) X.A (dH (.Name x pos) X.env) Q E s :=
 Calls.Name_function_global I.ok.kind hg (Calls.loadGlobal_global (by rw [I.ok.glob];exact I.mod.glob.keeps I.bk) hm h) hd
theorem mH (I:Inv X aH σ H s)(hg:Gl X x)(hm:X.mg x=none)(hv:jT x=some u)(h:Q u s)
  (hn:x ≠ "__name__" := by decide) (hd:(x == ("__debug__" :Str))=false:=by decide):aJ (aV X.prog X.w) X.A (dH (.Name x pos) X.env) Q E s:=by
 obtain ⟨mb,h1,h2⟩:=I.mod.blt;exact Calls.Name_function_global I.ok.kind hg (Calls.loadGlobal_builtin (by rw [I.ok.glob];exact I.mod.glob.keeps I.bk) hm (by rw [I.ok.blt];exact h1.keeps I.bk) ((h2 x hn).trans hv) h) hd
theorem lU (hg:Gl X x)(hm:X.mg x=some u)(r:fY v u)(hd:(x == ("__debug__" :Str))=false:=by decide):PE X (.Name x pos) (tC v) :=
 fun _ _ _ H _ I h=>lW I hg hm ⟨v,H,I,r,h⟩ hd
theorem pe_bltn (hg:Gl X x)(hm:X.mg x=none)(hv:jT x=some u)(r:fY v u)(hn:x ≠ "__name__" := by decide)(hd:(x == ("__debug__" :Str))=false:=by decide):PE X (.Name x pos) (tC v) :=
 fun _ _ _ H _ I h=>mH I hg hm hv ⟨v,H,I,r,h⟩ hn hd
variable {a b:Expr}{tb:TE}
def PC (X:Cx)(op:CmpOp)(a b:Expr)(t:TE):Prop :=
 ∀ (aH:List (ai×Obj)) (s:ao) (σ:St) (H:Hp) (Q:VK),Inv X aH σ H s→t σ H Q →
  aJ (aV X.prog X.w) X.A (dH a X.env) (fun v s₁=>aJ (aV X.prog X.w) X.A (dH b X.env) (fun u s₂=>aJ (aV X.prog X.w) X.A (gm op v u) (EP X aH σ Q) X.xe s₂) X.xe s₁) X.xe s
def tB (t:TE):TT:=fun σ H Q=>t σ H fun x H1=>IsBl x fun c=>Q c H1
theorem pt_cmp {t:TE}(h:PC X op a b t)(h1:behindInMarks op b=false:=by first | exact nobehind _ (by decide) (by decide) | rfl):PT X (.Compare a [op] [b] pos) (tB t):=by
 intro aH s σ H Q I hw;refine wpAny_isTrue_Compare1 (thn (h aH s σ H _ I hw) fun v s1 h1=>thn h1 fun u s2 h2=>thn h2 fun c s3 ⟨x,H1,I1,r1,q1⟩=>?_) h1;obtain ⟨d,rfl,q⟩:=q1;cases r1;exact wpAny_truthy_bool ⟨H1,I1,q⟩
theorem pt_val {t:TE}(h:PE X e t)(he:∀ whole,isTrue e X.env whole=(do let v ← whole;standAt e.pos;holding [v] (truthy v)):=by intro _;rfl):PT X e (tB t):=by
 intro aH s σ H Q I hw;refine isTrue_plain (thn (h aH s σ H _ I hw) fun v s1 ⟨x,H1,I1,r1,q1⟩=>?_) (he _);obtain ⟨d,rfl,q⟩:=q1;cases r1;exact wpAny_truthy_bool ⟨H1,I1,q⟩
variable {tA tB':TT} {rest:List Expr}
def tAnd (t u:TT):TT:=fun σ H Q=>t σ H fun c H1=>if c=true then u σ H1 Q else Q false H1
def tOr (t u:TT):TT:=fun σ H Q=>t σ H fun c H1=>if c=true then Q true H1 else u σ H1 Q
def tNot (t:TT):TT:=fun σ H Q=>t σ H fun c H1=>Q (!c) H1
theorem pw_and1 (ha:PT X a tA):PW X (.BoolOp .And [a] pos) tA:=by
 intro wh aH s σ H Q I h;refine isTrue_and (thn (ha aH s σ H Q I h) fun c s1 e=>?_);cases c with
 | true=>exact isTrue_and_nil e
 | false=>exact e
theorem pw_or1 (ha:PT X a tA):PW X (.BoolOp .Or [a] pos) tA:=by
 intro wh aH s σ H Q I h;refine isTrue_or (thn (ha aH s σ H Q I h) fun c s1 e=>?_);cases c with
 | false=>exact isTrue_or_nil e
 | true=>exact e
theorem pw_and (ha:PT X a tA)(hb:PW X (.BoolOp .And (b::rest) pos) tB'):PW X (.BoolOp .And (a::b::rest) pos) (tAnd tA tB'):=by
 intro wh aH s σ H Q I h;refine isTrue_and (thn (ha aH s σ H _ I h) fun c s1 ⟨H1,I1,q1⟩=>?_);cases c with
 | true=>exact hb wh aH s1 σ H1 Q I1 q1
 | false=>exact ⟨H1,I1,q1⟩
theorem pw_or (ha:PT X a tA)(hb:PW X (.BoolOp .Or (b::rest) pos) tB'):PW X (.BoolOp .Or (a::b::rest) pos) (tOr tA tB'):=by
 intro wh aH s σ H Q I h;refine isTrue_or (thn (ha aH s σ H _ I h) fun c s1 ⟨H1,I1,q1⟩=>?_);cases c with
 | true=>exact ⟨H1,I1,q1⟩
 | false=>exact hb wh aH s1 σ H1 Q I1 q1
theorem pt_not (ha:PT X a tA):PT X (.UnaryOp .Not a pos) (tNot tA):=by
 intro aH s σ H Q I h;exact isTrue_not (ha aH s σ H (fun c H1=>Q (!c) H1) I h)
def tIf (t:TT)(ta tb:TE):TE:=fun σ H Q=>t σ H fun c H1=>if c=true then ta σ H1 Q else tb σ H1 Q
theorem mm {c:Expr}(hc:PT X c tA)(ha:PE X a ta)(hb:PE X b tb):PE X (.IfExp c a b pos) (tIf tA ta tb):=by
 intro aH s σ H Q I h;refine wpAny_IfExp (thn (hc aH s σ H _ I h) fun d s1 ⟨H1,I1,q1⟩=>?_);cases d with
 | true=>exact ha aH s1 σ H1 Q I1 q1
 | false=>exact hb aH s1 σ H1 Q I1 q1
end
def SqL (K:aq)(H:Hp)(a:ai)(xs:List V):Prop :=
 Rd H a (.lst xs) ∨
  ∃ (o:Obj) (its:Array aa) (n:Nat),K.lookup a=some o∧o.cls= .type "list" ∧o.dict=none∧o.data= .seq its n∧its.size≤aP∧fN xs its.toList
def SqT (K:aq)(H:Hp)(a:ai)(xs:List V):Prop :=
 Rd H a (.tup xs) ∨
  ∃ (o:Obj) (its:Array aa) (n:Nat),K.lookup a=some o∧o.cls= .type "tuple" ∧o.data= .seq its n∧its.size≤aP∧fN xs its.toList
def absV:aa→Option V
 | .none=>some .non
 | .bool b=>some (.bl b)
 | .int i _=>some (.int i)
 | .str x _=>some (.str x)
 | .bytes b _=>some (.byt b)
 | .float b _=>some (.flt b)
 | .ref a=>some (.ref a)
 | .type n=>some (.ty n)
 | _=>none
theorem fY.abs {x:V}(r:fY x u):absV u=some x:=by
 cases x with
 | non=>cases r;rfl
 | bl _=>cases r;rfl
 | int _=>obtain ⟨t,rfl⟩:=r;rfl
 | str _=>obtain ⟨t,rfl⟩:=r;rfl
 | byt _=>obtain ⟨t,rfl⟩:=r;rfl
 | flt _=>obtain ⟨t,rfl⟩:=r;rfl
 | ref _=>cases r;rfl
 | ty _=>cases r;rfl
theorem fY.inj {x:V}(r:fY x u)(q:fY y u):x=y:=bQ (r.abs.symm.trans q.abs)
theorem fN.inj:∀ {xs ys:List V} {us:List aa},fN xs us→fN ys us→xs=ys
 | _,_,_,.nil,.nil=>rfl
 | _,_,_,.cons r t,.cons r' t'=>by rw [r.inj r',fN.inj t t']
theorem SqL.of (h:H a=some (.lst xs)):SqL K H a xs:= .inl (.inl h)
theorem SqT.of (h:H a=some (.tup xs)):SqT K H a xs:= .inl (.inl h)
theorem Inv.list (I:Inv X aH σ H s)(h:SqL X.K H a xs):∃ its:List aa,fN xs its∧PlainL s.heap a its.toArray∧xs.length≤aP:=by
 rcases h with h | ⟨o,its,n,hk,hc,hd,hs,hz,r⟩
 ·obtain ⟨z,its,n,r,e⟩:=h.ok I.hok
  exact ⟨its,r,⟨_,n,e,rfl,rfl,rfl⟩,z⟩
 ·refine ⟨its.toList,r,⟨o,n,I.kIn a o hk,hc,hd,by simpa using hs⟩,?_⟩
  have e:=r.length;simp only [df] at e;lia
theorem Inv.tuple (I:Inv X aH σ H s)(h:SqT X.K H a xs):∃ its:List aa,fN xs its∧IsTup s.heap a its.toArray∧xs.length≤aP:=by
 rcases h with h | ⟨o,its,n,hk,hc,hs,hz,r⟩
 ·obtain ⟨z,its,r,p⟩:=h.ok I.hok
  exact ⟨its,r,p.tup,z⟩
 ·refine ⟨its.toList,r,⟨o,I.kIn a o hk,hc,n,by simpa using hs⟩,?_⟩
  have e:=r.length;simp only [df] at e;lia
theorem Inv.list_inj (I:Inv X aH σ H s)(h:SqL X.K H a xs)(h':SqL X.K H a ys):xs=ys:=by
 obtain ⟨its,r,⟨o,n,e,_,_,d⟩,_⟩:=I.list h;obtain ⟨its',r',⟨o',n',e',_,_,d'⟩,_⟩:=I.list h';rw [e] at e';cases e';rw [d] at d';injection d' with d1 _
 have:its=its':=by simpa using qW Array.toList d1
 subst this;exact r.inj r'
theorem Inv.tuple_inj (I:Inv X aH σ H s)(h:SqT X.K H a xs)(h':SqT X.K H a ys):xs=ys:=by
 obtain ⟨its,r,⟨o,e,_,n,d⟩,_⟩:=I.tuple h;obtain ⟨its',r',⟨o',e',_,n',d'⟩,_⟩:=I.tuple h';rw [e] at e';cases e';rw [d] at d';injection d' with d1 _
 have:its=its':=by simpa using qW Array.toList d1
 subst this;exact r.inj r'
abbrev Cx.wish (X:Cx)(E:aa→ao→Prop):Cx:={ X with xe:=E }
abbrev Cx.nox (X:Cx):Cx:=X.wish fun _ _=>False
theorem Cx.Ok.wish (ok:X.Ok)(E:aa→ao→Prop):(X.wish E).Ok :=
 ⟨ok.mod,ok.kind,ok.glob,ok.blt,ok.above,ok.inj,ok.has,ok.cab,ok.hd,ok.frames,ok.stk,ok.exf,ok.bs,ok.bsz,ok.noex,ok.exfs,ok.funs,ok.frf⟩
theorem Cx.Ok.unwish (ok:(X.wish E).Ok):X.Ok :=
 ⟨ok.mod,ok.kind,ok.glob,ok.blt,ok.above,ok.inj,ok.has,ok.cab,ok.hd,ok.frames,ok.stk,ok.exf,ok.bs,ok.bsz,ok.noex,ok.exfs,ok.funs,ok.frf⟩
theorem Inv.wish (I:Inv X aH σ H s)(E:aa→ao→Prop):Inv (X.wish E) aH σ H s:=⟨I.ok.wish E,I.os,I.bare,I.base,I.loc,I.cell,I.free,I.freeC,I.pin,I.hok,I.len⟩
theorem Inv.unwish (I:Inv (X.wish E) aH σ H s):Inv X aH σ H s:=⟨I.ok.unwish,I.os,I.bare,I.base,I.loc,I.cell,I.free,I.freeC,I.pin,I.hok,I.len⟩
theorem SP.unwish {D:kO}{f:Flow}(h:SP (X.wish E) aH D f s'):SP X aH D f s':=by
 cases f with
 | next=>obtain ⟨σ',H',I,q⟩:=h;exact ⟨σ',H',I.unwish,q⟩
 | brk=>obtain ⟨σ',H',I,q⟩:=h;exact ⟨σ',H',I.unwish,q⟩
 | cont=>obtain ⟨σ',H',I,q⟩:=h;exact ⟨σ',H',I.unwish,q⟩
 | ret u=>obtain ⟨v,σ',H',I,r,q⟩:=h;exact ⟨v,σ',H',I.unwish,r,q⟩
theorem PSs.nox {st:List cF}{t:TS}(h:PSs X.nox st t):PSs X st t:=fun aH s σ H D I hw =>
 bP (h aH s σ H D (I.wish _) hw) (fun _ _ q=>q.unwish) fun _ _ z=>cf z
section
variable {rest:List cF}{t u:TS}
def tNext:TS:=fun D σ H=>D.nx σ H
def tSeq (t u:TS):TS:=fun D σ H=>t { D with nx:=u D } σ H
theorem gH:PSs X [] tNext:=fun _ _ σ H _ I h=>wpAny_execs_nil ⟨σ,H,I,h⟩
theorem k9 (h1:PS X st t)(h2:PSs X rest u):PSs X (st::rest) (tSeq t u):=by
 intro aH s σ H D I h;refine wpAny_execs_cons (thn (h1 aH s σ H { D with nx:=u D } I h) fun f s1 q=>?_);cases f with
 | next =>
  obtain ⟨σ',H',I',q⟩:=q;exact h2 aH s1 σ' H' D I' q
 | ret v=>exact q
 | brk=>exact q
 | cont=>exact q
theorem dE (h1:PS X st t):PSs X [st] t:=by
 intro aH s σ H D I h;refine wpAny_execs_cons (thn (h1 aH s σ H D I h) fun f s1 q=>?_);cases f with
 | next=>exact wpAny_execs_nil q
 | ret v=>exact q
 | brk=>exact q
 | cont=>exact q
theorem Inv.quiet (I:Inv X aH σ H s):interactive X.env=false:=by simp [interactive,I.ok.kind]
def tDrop (te:TE):TS:=fun D σ H=>te σ H fun _ H1=>D.nx σ H1
theorem iX (he:PE X e te)(hs:kf e none pos.line X.env=fj false:=by rfl):PS X (.Expr e pos) (tDrop te):=by
 intro aH s σ H D I h;exact wpAny_Expr_any (thn (he aH s σ H _ I h) fun v s1 ⟨x,H1,I1,r1,q1⟩=>⟨σ,H1,I1,q1⟩) I.quiet hs
def tRet (te:TE):TS:=fun D σ H=>te σ H D.rt
theorem cO (he:PE X e te):PS X (.Return (some e) pos) (tRet te):=by
 intro aH s σ H D I h;exact wpAny_Return_some (thn (he aH s σ H _ I h) fun v s1 ⟨x,H1,I1,r1,q1⟩=>⟨x,σ,H1,I1,r1,q1⟩)
def tIfS (c:TT)(t u:TS):TS:=fun D σ H=>c σ H fun b H1=>if b=true then t D σ H1 else u D σ H1
theorem kh {c:Expr}{a b:List cF}{tc:TT}(hc:PT X c tc)(ha:PSs X a t)(hb:PSs X b u):PS X (.If c a b pos) (tIfS tc t u):=by
 intro aH s σ H D I h;refine wpAny_If (thn (hc aH s σ H _ I h) fun d s1 ⟨H1,I1,q1⟩=>?_);cases d with
 | true=>exact ha aH s1 σ H1 D I1 q1
 | false=>exact hb aH s1 σ H1 D I1 q1
end
abbrev TG:=V→St→Hp→(St→Hp→Prop)→Prop
abbrev TGs:=List V→St→Hp→(St→Hp→Prop)→Prop
def PG (X:Cx)(target:Expr)(t:TG):Prop :=
 ∀ (aH:List (ai×Obj)) (s:ao) (σ:St) (H:Hp) (v:V) (u:aa) (Q:St→Hp→Prop),Inv X aH σ H s→fY v u→t v σ H Q →
  aJ (aV X.prog X.w) X.A (assign target X.env u) (fun _ s'=>∃ σ' H',Inv X aH σ' H' s'∧Q σ' H') X.xe s
def PGs (X:Cx)(ts:List Expr)(t:TGs):Prop :=
 ∀ (aH:List (ai×Obj)) (s:ao) (σ:St) (H:Hp) (vs:List V) (us:List aa) (Q:St→Hp→Prop),Inv X aH σ H s→fN vs us→t vs σ H Q →
  aJ (aV X.prog X.w) X.A (assignInOrder ((assignEach ts X.env).map (·.2)) us) (fun _ s'=>∃ σ' H',Inv X aH σ' H' s'∧Q σ' H') X.xe s
abbrev TSet:=V→V→V→Hp→(Hp→Prop)→Prop
def PSet (X:Cx)(t:TSet):Prop :=
 ∀ (aH:List (ai×Obj)) (s:ao) (σ:St) (H:Hp) (o i v:V) (ov iv u:aa) (Q:Hp→Prop),Inv X aH σ H s→fY o ov→fY i iv→fY v u→t o i v H Q →
  aJ (aV X.prog X.w) X.A (setItem ov iv u) (fun _ s'=>∃ H',Inv X aH σ H' s'∧Q H') X.xe s
abbrev TIp:=V→V→Hp→VK→Prop
def PIp (X:Cx)(op:Operator)(t:TIp):Prop :=
 ∀ (aH:List (ai×Obj)) (s:ao) (σ:St) (H:Hp) (x y:V) (v u:aa) (Q:VK),Inv X aH σ H s→fY x v→fY y u→t x y H Q →
  aJ (aV X.prog X.w) X.A (inplaceOp op v u) (EP X aH σ Q) X.xe s
def om (i:Nat):TG:=fun v σ H Q=>Q (σ.set i (some v)) H
theorem og (hN:X.N.Nodup)(hi:X.N[i]? =some x)(hx:Loc X.env.scope x)(hf:X.fn x=true∨X.env.scope.names.lookup x=some .local:=by first | exact .inl rfl | exact .inr rfl | assumption):PG X (.Name x pos) (om i):=by
 intro aH s σ H v u Q I r h;exact wpAny_assign_Name (oJ I hN hi hx r (fun s' I'=>⟨_,H,I',h⟩) hf)
def gNil:TGs:=fun vs σ H Q=>vs=[]∧Q σ H
def gCons (t:TG)(u:TGs):TGs:=fun vs σ H Q=>∃ v r,vs=v::r∧t v σ H fun σ' H'=>u r σ' H' Q
theorem pgs_nil:PGs X [] gNil:=by
 intro aH s σ H vs us Q I r h;obtain ⟨e,h⟩:=h;subst e;cases r;exact assignInOrder_nil ⟨σ,H,I,h⟩
theorem jR {t:TG}{u:TGs}(h1:PG X e t)(h2:PGs X es u)
  (hs:(assignEach (e::es) X.env).map (·.2)=assign e X.env::(assignEach es X.env).map (·.2):=by rfl):PGs X (e::es) (gCons t u):=by
 intro aH s σ H vs us Q I r h;obtain ⟨v,vr,e1,h⟩:=h;subst e1;cases r with
 | cons r rr =>
  rw [hs];refine assignInOrder_cons (thn (h1 aH s σ H _ _ _ I r h) fun _ s1 ⟨σ1,H1,I1,q1⟩=>?_);exact h2 aH s1 σ1 H1 _ _ Q I1 rr q1
def gTup (K:aq)(n:Nat)(t:TGs):TG:=fun v σ H Q=>∃ a xs,v= .ref a∧SqT K H a xs∧xs.length=n∧t xs σ H Q
theorem pg_tup {k:Nat}{t:TGs}(hc:X.calm=true)(h:PGs X es t)
  (hn:(assignEach es X.env).length=n:=by rfl) (hst:(assignEach es X.env).findIdx? (·.1)=none:=by rfl):PG X (.Tuple es k pos) (gTup X.K n t):=by
 intro aH s σ H v u Q I r hw;obtain ⟨a,xs,e1,hq,hl,hw⟩:=hw;subst e1;cases r;obtain ⟨its,rv,ht,hz⟩:=I.tuple hq;refine assign_Tuple_tuple (I.ok.hd hc) ht (by simp [hn,←hl,rv.length]) hst fun h' hx=>?_
 have I1:Inv X aH σ H { s with heap:=h' }:=I.kept (t':=s.toks) fun b o e=>hx b o (bE (aE e)) e
 exact h aH _ σ H xs _ Q I1 (by simpa using rv) hw
def gSub (to ti:TE)(t:TSet):TG:=fun v σ H Q=>to σ H fun o H1=>ti σ H1 fun i H2=>t o i v H2 fun H3=>Q σ H3
theorem pg_sub {o i:Expr}{to ti:TE}{t:TSet}(ho:PE X o to)(hi:PE X i ti)(hs:PSet X t)
  (ha:∀ v,assign (.Subscript o i pos) X.env v=(do
   let ov ← holding [v] (dH o X.env)
   let iv ← holding [v,ov] (dH i X.env)
   standAt pos
   holding [v,ov,iv] (setItem ov iv v)
   release [v,ov,iv] []):=by intro _;rfl):PG X (.Subscript o i pos) (gSub to ti t):=by
 intro aH s σ H v u Q I r h;rw [ha];refine af (cI (thn (ho aH s σ H _ I h) fun ov s1 ⟨x,H1,I1,r1,q1⟩=>?_));refine af (cI (thn (hi aH s1 σ H1 _ I1 q1) fun iv s2 ⟨y,H2,I2,r2,q2⟩=>?_));refine af (wpAny_standAt (af (cI (thn (hs aH s2 σ H2 x y v ov iv u _ I2 r1 r2 r q2) fun _ s3 ⟨H3,I3,q3⟩=>?_))));exact wpAny_release ⟨σ,H3,I3,q3⟩
def tAsg (te:TE)(g:TG):TS:=fun D σ H=>te σ H fun x H1=>g x σ H1 D.nx
theorem ps_asg {g:TG}(he:PE X e te)(hg:PG X tg g)(hs:swapsWithSole [tg] e pos.line X.env=fj false:=by rfl)(hw:swappedStores [tg] e X.env=fj none:=by rfl)
  (h1:(assignEach [tg] X.env).map (·.2)=[assign tg X.env]:=by rfl):PS X (.Assign [tg] e pos) (tAsg te g):=by
 intro aH s σ H D I h;refine wpAny_Assign_stores (thn (he aH s σ H _ I h) fun v s1 ⟨x,H1,I1,r1,q1⟩=>?_) hs hw;rw [h1];exact thn (hg aH s1 σ H1 x v _ I1 r1 q1) fun _ s2 q=>q
theorem ps_set (hN:X.N.Nodup)(hi:X.N[i]? =some x)(hx:Loc X.env.scope x)(he:PE X e te)(hs:kf e (some (.Name x pos')) pos.line X.env=fj false:=by rfl)(hf:X.fn x=true∨X.env.scope.names.lookup x=some .local:=by first | exact .inl rfl | exact .inr rfl | assumption) :
  PS X (.Assign [.Name x pos'] e pos) (tAsg te (om i)):=by
 intro aH s σ H D I h;refine wpAny_Assign_Name (thn (he aH s σ H _ I h) fun v s1 ⟨y,H1,I1,r1,q1⟩=>?_) hs;exact oJ I1 hN hi hx r1 (fun s2 I2=>⟨_,H1,I2,q1⟩) hf
def tAug (i:Nat)(te:TE)(ti:TIp):TS:=fun D σ H=>∃ x,σ[i]? =some (some x)∧te σ H fun y H1=>ti x y H1 fun z H2=>D.nx (σ.set i (some z)) H2
theorem pN {op:Operator}{ti:TIp}(hN:X.N.Nodup)(hi:X.N[i]? =some x)(hx:Loc X.env.scope x)(he:PE X e te)(ho:PIp X op ti)(hf:X.fn x=true∨X.env.scope.names.lookup x=some .local:=by first | exact .inl rfl | exact .inr rfl | assumption) :
  PS X (.AugAssign (.Name x pos') op e pos) (tAug i te ti):=by
 intro aH s σ H D I h;obtain ⟨v,e1,h⟩:=h;obtain ⟨m,hn,hl⟩:=I.loc;have vis:Vis X.env.scope x:=by rcases hx with k | k;exact .inl k;exact .inr (.inl k)
 obtain ⟨u,r,l⟩:=hl i x v hi e1 vis;refine wpAny_AugAssign_Name ?_;have go:aJ (aV X.prog X.w) X.A (dH e X.env) (fun w s₂=>aJ (aV X.prog X.w) X.A (inplaceOp op u w) (fun r s₃=>aJ (aV X.prog X.w) X.A (storeName X.env x r) (fun _=>SP X aH D .next) X.xe s₃) X.xe s₂) X.xe s:=by
  refine thn (he aH s σ H _ I h) fun w s1 ⟨y,H1,I1,r1,q1⟩=>?_
  refine thn (ho aH s1 σ H1 v y u w _ I1 r r1 q1) fun z s2 ⟨zv,H2,I2,r2,q2⟩=>?_
  exact oJ I2 hN hi hx r2 (fun s3 I3=>⟨_,H2,I3,q2⟩) hf
 rcases l with ⟨hk,hm⟩ | ⟨hk,c,hc,iK⟩
 ·exact wpAny_loadName_local I.ok.kind hk hn hm go
 ·rcases hk with hk | hk
  ·exact wpAny_loadName_cell I.ok.kind hk hc iK go
  ·rcases hx with k | k
   ·have:X.env.scope.names.lookup x=some .free:=hk
    rw [k] at this;cases this
   ·have:X.env.scope.names.lookup x=some .free:=hk
    rw [k] at this;cases this
def tAugS (to ti te:TE)(tget:V→V→Hp→VK→Prop)(tip:TIp)(tset:TSet):TS:=fun D σ H=>to σ H fun o H1=>ti σ H1 fun i H2=>tget o i H2 fun x H3=>te σ H3 fun y H4=>tip x y H4 fun z H5=>tset o i z H5 fun H6=>D.nx σ H6
def PGet (X:Cx)(t:V→V→Hp→VK→Prop):Prop :=
 ∀ (aH:List (ai×Obj)) (s:ao) (σ:St) (H:Hp) (o i:V) (ov iv:aa) (Q:VK),Inv X aH σ H s→fY o ov→fY i iv→t o i H Q →
  aJ (aV X.prog X.w) X.A (getItem ov iv) (EP X aH σ Q) X.xe s
theorem ps_augS {o i:Expr}{to ti:TE}{tip:TIp}{tset:TSet}{op:Operator}(ho:PE X o to)(hi:PE X i ti)(hg:PGet X tget)(he:PE X e te)(hp:PIp X op tip)(hs:PSet X tset)
  (ha:∀ ov iv new,augStore i ov iv new=(do holding [new,ov,iv] (setItem ov iv new);release [new,ov,iv] [];fj .next):=by intros;rfl):PS X (.AugAssign (.Subscript o i tpos) op e pos) (tAugS to ti te tget tip tset):=by
 intro aH s σ H D I h;refine wpAny_AugAssign_SubscriptAny (thn (ho aH s σ H _ I h) fun ov s1 ⟨x1,H1,I1,r1,q1⟩=>?_) ha;refine thn (hi aH s1 σ H1 _ I1 q1) fun iv s2 ⟨x2,H2,I2,r2,q2⟩=>?_
 refine thn (hg aH s2 σ H2 x1 x2 ov iv _ I2 r1 r2 q2) fun old s3 ⟨x3,H3,I3,r3,q3⟩=>?_
 refine thn (he aH s3 σ H3 _ I3 q3) fun v s4 ⟨x4,H4,I4,r4,q4⟩=>?_
 refine thn (hp aH s4 σ H4 x3 x4 old v _ I4 r3 r4 q4) fun new s5 ⟨x5,H5,I5,r5,q5⟩=>?_
 exact thn (hs aH s5 σ H5 x1 x2 x5 ov iv new _ I5 r1 r2 r5 q5) fun _ s6 ⟨H6,I6,q6⟩=>⟨σ,H6,I6,q6⟩
def ipI (f:Int→Int→Int):TIp:=fun x y H Q=>∃ i j,x= .int i∧y= .int j∧Q (.int (f i j)) H
theorem ip_add:PIp X .Add (ipI fun i j=>i+j):=by
 intro aH s σ H x y v u Q I r1 r2 h;obtain ⟨i,j,e1,e2,q⟩:=h;subst e1;subst e2;obtain ⟨t,rfl⟩:=r1;obtain ⟨t',rfl⟩:=r2;exact iadd_int ⟨.int _,H,I.tok _,⟨_,rfl⟩,q⟩
theorem ip_sub:PIp X .Sub (ipI fun i j=>i - j):=by
 intro aH s σ H x y v u Q I r1 r2 h;obtain ⟨i,j,e1,e2,q⟩:=h;subst e1;subst e2;obtain ⟨t,rfl⟩:=r1;obtain ⟨t',rfl⟩:=r2;exact isub_int ⟨.int _,H,I.tok _,⟨_,rfl⟩,q⟩
def tWhile (c:TT)(tb:TS):TS:=fun D σ H=>∃ W:Nat→St→Hp→Prop,(∃ m,W m σ H)∧∀ m σ H,W m σ H →
 c σ H fun b H1=>if b=true then ∃ N:St→Hp→Prop,(∀ σ' H',N σ' H'→∃ m',m'<m∧W m' σ' H')∧tb { D with nx:=N,ct:=N,bk:=D.nx } σ H1 else D.nx σ H1
theorem oR {c:Expr}{body:List cF}{tc:TT}{tb:TS}(hp:PassesOwn (aV X.prog X.w) X.A X.env X.xe)(hc:PT X c tc)(hb:PSs X body tb):PS X (.While c body [] pos) (tWhile tc tb):=by
 intro aH s σ H D I h;obtain ⟨W,⟨m0,w0⟩,turn⟩:=h;refine wpAny_While (codeAny_whileLoop (fun n s'=>∃ σ' H',Inv X aH σ' H' s'∧W n σ' H') ?_ m0 ⟨σ,H,I,w0⟩);rintro n s1 ⟨σ1,H1,I1,w1⟩;refine ik hp (thn (hc aH s1 σ1 H1 _ I1 (turn n σ1 H1 w1)) fun b s2 ⟨H2,I2,q2⟩=>?_);cases b with
 | true =>
  obtain ⟨N,hN,q2⟩:=q2;rw [qR rfl];refine ik hp (thn (hb aH s2 σ1 H2 _ I2 q2) fun f s3 q3=>?_);cases f with
  | next =>
   obtain ⟨σ3,H3,I3,n3⟩:=q3;obtain ⟨m',hm,w3⟩:=hN σ3 H3 n3;exact ⟨m',hm,σ3,H3,I3,w3⟩
  | cont =>
   obtain ⟨σ3,H3,I3,n3⟩:=q3;obtain ⟨m',hm,w3⟩:=hN σ3 H3 n3;exact ⟨m',hm,σ3,H3,I3,w3⟩
  | brk=>exact q3
  | ret v=>exact q3
 | false =>
  rw [qQ aO];exact wpAny_execs_nil ⟨σ1,H2,I2,q2⟩
structure It where
 go:Nat→Hp→Prop
 yld:Nat→Hp→V→Hp→Prop
 stop:Nat→Hp→Prop
def FpOk (X:Cx)(aH:List (ai×Obj))(H:Hp)(b:ai):Prop :=
 H b=none∧b≠X.env.locals∧b ∉ X.fs∧(b∈X.ex∨X.s₀.heap.objs.size≤b)∧(∀ x c,X.env.cells.lookup x=some c→c≠b)∧∀ p∈X.pn++aH,p.1≠b
theorem Inv.fpOk {b:ai}(I:Inv X aH σ H s)(hb:s.heap.objs.size≤b)(hn:H' b=none):FpOk X aH H' b:=by
 refine ⟨hn,cy (aL I.lt hb),I.nofs hb,.inr (aS I.sz hb),fun x c e z=>?_,fun p hp z=>?_⟩
 ·obtain ⟨v,q⟩:=I.cell x c e
  exact qS (aL q.lt (by rw [z];exact hb)) (eC _)
 ·exact qS (aL (aE (I.pin p hp).1) (by rw [z];exact hb)) (eC _)
structure Turn (P:aN)(w:bp)(K:aq)(tg:Expr)(J:It)(fp:List ai)(it:ai)(tn:Nat→bz→Prop):Prop where
 mem:it∈fp
 obj:∀ i h,tn i h→∀ b∈fp,∃ o,h.get? b=some o∧∀ v,o.data≠ .cell v
 keep:∀ i h h',tn i h→(∀ b∈fp,∀ o,h.get? b=some o→h'.get? b=some o)→tn i h'
 item:∀ (X:Cx),X.prog=P→X.w=w→X.K=K→X.calm=true→∀ (i:Nat) (aH:List (ai×Obj)) (s:ao) (σ:St) (H:Hp) (E:aa→ao→Prop),Inv X aH σ H s→(∀ b∈fp,FpOk X aH H b)→tn i s.heap→J.go i H →
  aJ (aV P w) X.A (pyNext (.ref it)) (fun r s1=>∃ u,r=some u ∧
   aJ (aV P w) X.A (letOwnedTupleGo tg (.ref it) u) (fun _ s2=>∃ x H',Inv X aH σ H' s2∧fY x u∧J.yld i H x H'∧tn (i+1) s2.heap∧∀ b∈fp,H' b=none) E s1) E s
 done:∀ (X:Cx),X.prog=P→X.w=w→X.K=K→X.calm=true→∀ (i:Nat) (aH:List (ai×Obj)) (s:ao) (σ:St) (H:Hp) (E:aa→ao→Prop),Inv X aH σ H s→(∀ b∈fp,FpOk X aH H b)→tn i s.heap→J.stop i H →
  aJ (aV P w) X.A (pyNext (.ref it)) (fun r s1=>r=none∧Inv X aH σ H s1) E s
 self:∀ (A:bL) (i:Nat) (s:ao) (Q:aa→ao→Prop) (E:aa→ao→Prop),tn i s.heap→Q (.ref it) s→aJ (aV P w) A (pyIter (.ref it)) Q E s
abbrev TI:=St→Hp→(It→Hp→Prop)→Prop
def PIE (X:Cx)(aH:List (ai×Obj))(σ:St)(tg:Expr)(R:It→Hp→Prop)(itv:aa)(s2:ao):Prop :=
 ∃ (it:ai) (fp:List ai) (tn:Nat→bz→Prop) (J:It) (H':Hp),itv= .ref it∧Inv X aH σ H' s2∧Turn X.prog X.w X.K tg J fp it tn∧tn 0 s2.heap∧(∀ b∈fp,FpOk X aH H' b)∧R J H'
def PI (X:Cx)(tg iter:Expr)(wi:TI):Prop :=
 ∀ (aH:List (ai×Obj)) (s:ao) (σ:St) (H:Hp) (R:It→Hp→Prop),Inv X aH σ H s→wi σ H R →
  aJ (aV X.prog X.w) X.A (dH iter X.env) (fun v s1=>aJ (aV X.prog X.w) X.A (pyIter v) (PIE X aH σ tg R) X.xe s1) X.xe s
theorem go_of {it:ai}{o:Obj}{n:String}{vs:Array aa}{Q:Unit→ao→Prop}(ho:s.heap.get? it=some o)(hc:o.cls= .type n)(hd:o.data= .fields vs)
  (hn:["enumerate","zip","dict_itemiterator","dict_reverseitemiterator","odict_iterator","itertools.zip_longest","itertools.pairwise"].contains n=false) (hQ:Q () s):aJ M A (letOwnedTupleGo tg (.ref it) u) Q E s:=by
 unfold letOwnedTupleGo;cases tg <;> first
  | exact aC hQ
  | (cases u <;> first
    | exact aC hQ
    | (refine af (wpAny_load ho ?_)
       rw [hc,hd];show aJ M A (if (["enumerate","zip","dict_itemiterator","dict_reverseitemiterator","odict_iterator","itertools.zip_longest","itertools.pairwise"].contains n && vs[0]? == some (gM _))=true then _ else _) Q E s;rw [qQ (by intro h;rw [hn,Bool.false_and] at h;cases h)];exact aC hQ))
def Itl (K:aq)(a:ai):It :=
 ⟨fun i H=>∃ xs x,SqL K H a xs∧xs[i]? =some x,fun i H x H'=>H'=H∧∀ xs,SqL K H a xs→xs[i]? =some x,fun i H=>∃ xs,SqL K H a xs∧xs.length≤i⟩
def Itt (K:aq)(a:ai):It :=
 ⟨fun i H=>∃ xs x,SqT K H a xs∧xs[i]? =some x,fun i H x H'=>H'=H∧∀ xs,SqT K H a xs→xs[i]? =some x,fun i H=>∃ xs,SqT K H a xs∧xs.length≤i⟩
def Itr (lo:Int)(n:Nat):It:=⟨fun i _=>i<n,fun i H x H'=>H'=H∧x= .int (lo+i),fun i _=>n≤i⟩
theorem turn_list (a it:ai):Turn P w K tg (Itl K a) [it] it (fun i h=>h.IsListIter it a i) where
 mem:=by simp
 obj:=fun i h st b hb=>by
  have e:b=it:=by simpa using hb
  subst e;obtain ⟨o,e,c,d⟩:=st;exact ⟨o,e,fun v z=>by rw [d] at z;cases z⟩
 keep:=fun i h h' st k=>st.at fun o e=>k it (by simp) o e
 item:=by
  intro X hP hw hK hc i aH s σ H E I hf st hg;subst hP hw hK;obtain ⟨xs,x,hq,hx⟩:=hg;obtain ⟨its,rv,p,hz⟩:=I.list hq;obtain ⟨u,hu,ru⟩:=rv.get hx;obtain ⟨f0,f1,f2,f3,f4,f5⟩:=hf it (by simp);refine wpAny_pyNext_list_item st p.isList (x:=u) (by simpa using hu) fun h' st' sb=>?_
  have I1:Inv X aH σ H { s with heap:=h' }:=I.turned (t':=s.toks) (fun b o hb e=>(sb.2 b hb).trans e) f0 f1 f3 f4 f5;obtain ⟨o,e,c,d⟩:=id st';exact ⟨u,rfl,go_of (s:={ s with heap:=h' }) e c d (by decide) ⟨x,H,I1,ru,⟨rfl,fun ys hy=>by rw [I.list_inj hy hq];exact hx⟩,st',fun b hb=>(hf b hb).1⟩⟩
 done:=by
  intro X hP hw hK hc i aH s σ H E I hf st hg;subst hP hw hK;obtain ⟨xs,hq,hx⟩:=hg;obtain ⟨its,rv,p,hz⟩:=I.list hq;obtain ⟨f0,f1,f2,f3,f4,f5⟩:=hf it (by simp);have hl:=rv.length;exact wpAny_pyNext_list_end (I.ok.hd hc) st p.isList (by simp;lia) fun h' eb=>⟨rfl,I.turned (t':=s.toks) (fun b o hb e=>eb b o hb e) f0 f1 f3 f4 f5⟩
 self:=fun _ _ _ _ _ st h=>wpAny_pyIter_listiter st h
theorem turn_tuple (a it:ai):Turn P w K tg (Itt K a) [it] it (fun i h=>h.IsTupleIter it a i) where
 mem:=by simp
 obj:=fun i h st b hb=>by
  have e:b=it:=by simpa using hb
  subst e;obtain ⟨o,e,c,d⟩:=st;exact ⟨o,e,fun v z=>by rw [d] at z;cases z⟩
 keep:=fun i h h' st k=>st.at fun o e=>k it (by simp) o e
 item:=by
  intro X hP hw hK hc i aH s σ H E I hf st hg;subst hP hw hK;obtain ⟨xs,x,hq,hx⟩:=hg;obtain ⟨its,rv,p,hz⟩:=I.tuple hq;obtain ⟨u,hu,ru⟩:=rv.get hx;obtain ⟨f0,f1,f2,f3,f4,f5⟩:=hf it (by simp);refine wpAny_pyNext_tuple_item st (show s.heap.IsTuple a its.toArray from p) (x:=u) (by simpa using hu) fun h' st' sb=>?_
  have I1:Inv X aH σ H { s with heap:=h' }:=I.turned (t':=s.toks) (fun b o hb e=>(sb.2 b hb).trans e) f0 f1 f3 f4 f5;obtain ⟨o,e,c,d⟩:=id st';exact ⟨u,rfl,go_of (s:={ s with heap:=h' }) e c d (by decide) ⟨x,H,I1,ru,⟨rfl,fun ys hy=>by rw [I.tuple_inj hy hq];exact hx⟩,st',fun b hb=>(hf b hb).1⟩⟩
 done:=by
  intro X hP hw hK hc i aH s σ H E I hf st hg;subst hP hw hK;obtain ⟨xs,hq,hx⟩:=hg;obtain ⟨its,rv,p,hz⟩:=I.tuple hq;obtain ⟨f0,f1,f2,f3,f4,f5⟩:=hf it (by simp);have hl:=rv.length;exact wpAny_pyNext_tuple_end (I.ok.hd hc) st (show s.heap.IsTuple a its.toArray from p) (by simp;lia) fun h' eb=>⟨rfl,I.turned (t':=s.toks) (fun b o hb e=>eb b o hb e) f0 f1 f3 f4 f5⟩
 self:=fun _ _ _ _ _ st h=>wpAny_pyIter_tupleiter st h
theorem turn_range (it:ai)(lo:Int)(n:Nat):Turn P w K tg (Itr lo n) [it] it (fun i h=>IsRangeIter h it (lo+(i:Nat) * 1) ((n:Int) - (i:Nat)) 1) where
 mem:=by simp
 obj:=fun i h st b hb=>by
  have e:b=it:=by simpa using hb
  subst e;exact ⟨_,st,fun v z=>by
   have z':Data.fields _=Data.cell v:=z;cases z'⟩
 keep:=fun i h h' st k=>k it (by simp) _ st
 item:=by
  intro X hP hw hK hc i aH s σ H E I hf st hg;subst hP hw hK;obtain ⟨f0,f1,f2,f3,f4,f5⟩:=hf it (by simp);have W:=Walks.range (prog:=X.prog) (w:=X.w) (I.ok.hd hc) it lo 1 n;refine W.item i s _ _ hg st fun v h' tk hv st' kk=>?_
  obtain ⟨t,rfl⟩:=hv;have I1:Inv X aH σ H { s with heap:=h',toks:=tk }:=I.turned (fun b o hb e=>kk b o (by simpa using hb) e) f0 f1 f3 f4 f5;refine ⟨_,rfl,go_of (s:={ s with heap:=h',toks:=tk }) (n := "range_iterator") st' rfl rfl (by decide) ⟨.int (lo+i),H,I1,⟨t,?_⟩,⟨rfl,rfl⟩,st',fun b hb=>(hf b hb).1⟩⟩;rw [Int.mul_one]
 done:=by
  intro X hP hw hK hc i aH s σ H E I hf st hg;subst hP hw hK;obtain ⟨f0,f1,f2,f3,f4,f5⟩:=hf it (by simp);exact wpAny_pyNext_range_end (I.ok.hd hc) st (by have:n≤i:=hg;lia) fun h' eb=>⟨rfl,I.turned (t':=s.toks) (fun b o hb e=>eb b o hb e) f0 f1 f3 f4 f5⟩
 self:=fun _ _ _ _ _ st h=>wpAny_pyIter_rangeiter st h
def iList (K:aq)(tl:TE):TI:=fun σ H R=>tl σ H fun x H1=>∃ a,x= .ref a∧(∃ xs,SqL K H1 a xs)∧R (Itl K a) H1
def iTup (K:aq)(tl:TE):TI:=fun σ H R=>tl σ H fun x H1=>∃ a,x= .ref a∧(∃ xs,SqT K H1 a xs)∧R (Itt K a) H1
theorem jn {l:Expr}(hl:PE X l tl):PI X tg l (iList X.K tl):=by
 intro aH s σ H R I h;refine thn (hl aH s σ H _ I h) fun v s1 ⟨x,H1,I1,r1,q1⟩=>?_
 obtain ⟨a,e,⟨xs,hq⟩,q⟩:=q1;subst e;cases r1;obtain ⟨its,rv,p,hz⟩:=I1.list hq;refine wpAny_pyIter_list p.isList ?_;refine ⟨s1.heap.objs.size,[s1.heap.objs.size],_,_,H1,rfl,I1.kept (t':=s1.toks) fun b o e=>ar _ e,turn_list a _,⟨_,aU _ rfl,rfl,rfl⟩,fun b hb=>?_,q⟩;have e:b=s1.heap.objs.size:=by simpa using hb
 subst e;exact I1.fpOk (aA _) (I1.hok.fresh (aA _))
theorem mB {l:Expr}(hl:PE X l tl):PI X tg l (iTup X.K tl):=by
 intro aH s σ H R I h;refine thn (hl aH s σ H _ I h) fun v s1 ⟨x,H1,I1,r1,q1⟩=>?_
 obtain ⟨a,e,⟨xs,hq⟩,q⟩:=q1;subst e;cases r1;obtain ⟨its,rv,p,hz⟩:=I1.tuple hq;refine wpAny_pyIter_tuple (show s1.heap.IsTuple a its.toArray from p) ?_;refine ⟨s1.heap.objs.size,[s1.heap.objs.size],_,_,H1,rfl,I1.kept (t':=s1.toks) fun b o e=>ar _ e,turn_tuple a _,⟨_,aU _ rfl,rfl,rfl⟩,fun b hb=>?_,q⟩;have e:b=s1.heap.objs.size:=by simpa using hb
 subst e;exact I1.fpOk (aA _) (I1.hok.fresh (aA _))
theorem range_it {R:It→Hp→Prop}{hi:Int}{t u v:Tok}{tk:Nat}(I:Inv X aH σ H s)(h1: -(2 ^ 62)≤lo)(h2:lo<2 ^ 62)(h3: -(2 ^ 62)≤hi)(h4:hi<2 ^ 62)
  (q:R (Itr lo (hi - lo).toNat) H):aJ (aV X.prog X.w) X.A (pyIter (.ref s.heap.objs.size)) (PIE X aH σ tg R) E { s with heap:=s.heap.push { cls:= .type "range",data:= .fields #[.int lo t,.int hi u,.int 1 v] },toks:=tk }:=by
 refine wpAny_pyIter_range (IsRange.new ..) (small_one h1 h2 h3 h4) ?_;have I1:Inv X aH σ H { s with heap:=s.heap.push { cls:= .type "range",data:= .fields #[.int lo t,.int hi u,.int 1 v] },toks:=tk }:=I.kept fun b o e=>ar _ e
 refine ⟨(s.heap.push { cls:= .type "range",data:= .fields #[.int lo t,.int hi u,.int 1 v] }).objs.size,[(s.heap.push { cls:= .type "range",data:= .fields #[.int lo t,.int hi u,.int 1 v] }).objs.size],_,_,H,rfl,
  I1.kept (t':=tk) fun b o e=>ar _ e,turn_range _ lo (hi - lo).toNat,?_,fun b hb=>?_,q⟩
 ·have e1:lo+((0:Nat):Int) * 1=lo:=by simp
  have e2:(((hi - lo).toNat:Nat):Int) - ((0:Nat):Int)=dJ lo hi 1:=by rw [rangeSize_one];split <;> lia
  show IsRangeIter _ _ (lo+((0:Nat):Int) * 1) ((((hi - lo).toNat:Nat):Int) - ((0:Nat):Int)) 1;rw [e1,e2];exact aU _ rfl
 ·have e:b=(s.heap.push { cls:= .type "range",data:= .fields #[.int lo t,.int hi u,.int 1 v] }).objs.size:=by simpa using hb
  subst e;exact I1.fpOk (aA _) (I1.hok.fresh (aA _))
def iRng1 (ta:TA):TI:=fun σ H R=>ta σ H fun vs H1=>∃ j:Int,vs=[.int j]∧ -(2 ^ 62)≤j∧j<2 ^ 62∧R (Itr 0 j.toNat) H1
theorem iZ {a:Expr}{ta:TA}{p:Pos}(hg:Gl X "range")(hm:X.mg "range" =none)(ha:PA X [a] ta)(hs:br [a] X.env=[(false,dH a X.env)]:=by rfl):PI X tg (.Call (.Name "range" p) [a] [] pos) (iRng1 ta):=by
 intro aH s σ H R I h;refine Call_ (mH I hg hm boot_range (fb (thn (ha pos aH s σ H _ I h) fun us s1 ⟨vs,H1,I1,r1,q1⟩=>?_) hs rfl));obtain ⟨j,e,q1,q2,q⟩:=q1;subst e;cases r1 with
 | cons r rr =>
  cases rr;obtain ⟨t,rfl⟩:=r;exact call_range_1 (range_it I1 (by lia) (by lia) q1 q2 (by simpa using q))
def tFor (wi:TI)(g:TG)(tb:TS):TS:=fun D σ H=>wi σ H fun J H1=>∃ W:Nat→Nat→St→Hp→Prop,(∃ m,W 0 m σ H1)∧∀ i m σ H,W i m σ H →
 (J.stop i H∧D.nx σ H)∨(J.go i H∧∃ N:St→Hp→Prop,(∀ σ' H',N σ' H'→∃ m',m'<m∧W (i+1) m' σ' H')∧∀ x H',J.yld i H x H'→g x σ H' fun σ2 H2=>tb { D with nx:=N,ct:=N,bk:=D.nx } σ2 H2)
def pinsAt (fp:List ai)(h:bz):List (ai×Obj):=fp.filterMap fun b=>(h.get? b).map fun o=>(b,o)
theorem mq {b:ai}{o:Obj}(hb:b∈fp)(e:h.get? b=some o):(b,o)∈pinsAt fp h:=List.mem_filterMap.mpr ⟨b,hb,by rw [e];rfl⟩
theorem of_pinsAt {p:ai×Obj}(hp:p∈pinsAt fp h):p.1∈fp∧h.get? p.1=some p.2:=by
 obtain ⟨b,hb,e⟩:=List.mem_filterMap.mp hp;cases q:h.get? b with
 | none=>rw [q] at e;cases e
 | some o =>
  rw [q] at e;have e':(b,o)=p:=bQ e;subst e';exact ⟨hb,q⟩
theorem Inv.pinned (I:Inv X aH σ H s)(hf:∀ b∈fp,FpOk X aH H b)(ho:∀ b∈fp,∃ o,s.heap.get? b=some o∧∀ v,o.data≠ .cell v):Inv X (aH++pinsAt fp s.heap) σ H s :=
 I.pins_of fun p hp=>(aK.mp hp).elim (fun z=>I.pin p (ay _ z)) fun z=>by
  obtain ⟨hb,e⟩:=of_pinsAt z;obtain ⟨f0,f1,f2,_⟩:=hf p.1 hb;obtain ⟨o,e',d⟩:=ho p.1 hb;rw [e] at e';cases e';exact ⟨e,f0,f1,f2,d⟩
theorem Inv.unpinned {pl:List (ai×Obj)}(I:Inv X (aH++pl) σ H s):Inv X aH σ H s:=I.pins_of fun p hp=>I.pin p (ay _ (aG _ hp))
theorem iW {body:List cF}{wi:TI}{g:TG}{tb:TS}(hp:PassesOwn (aV X.prog X.w) X.A X.env X.xe)(hc:X.calm=true)(hi:PI X tg iter wi)(hg:PG X tg g)(hb:PSs X body tb)
  (hs:∀ x,gu iter X.env x=fj x:=by intro _;rfl):PS X (.For tg iter body [] pos) (tFor wi g tb):=by
 intro aH s σ H D I h;refine wpAny_For (thn (hi aH s σ H _ I h) fun v s1 h1=>thn h1 fun itv s2 h2=>?_) hs;obtain ⟨it,fp,tn,J,H2,e,I2,T,st2,f2,W,⟨m0,w0⟩,turn⟩:=h2;subst e;have stat:∀ {H':Hp},(∀ b∈fp,H' b=none)→∀ b∈fp,FpOk X aH H' b:=fun hn b hb=>⟨hn b hb,(f2 b hb).2⟩
 refine codeAny_forLoop_any (fun n s'=>∃ i σ' H',Inv X aH σ' H' s'∧tn i s'.heap∧(∀ b∈fp,H' b=none)∧W i n σ' H') ?_ m0 ⟨0,σ,H2,I2,st2,fun b hb=>(f2 b hb).1,w0⟩;rintro n s3 ⟨i,σ3,H3,I3,st3,fr3,w3⟩
 rcases turn i n σ3 H3 w3 with ⟨stop,qn⟩ | ⟨go,N,hN,step⟩
 ·refine ik hp (thn (T.done X rfl rfl rfl hc i aH s3 σ3 H3 X.xe I3 (stat fr3) st3 stop) fun r s4 ⟨hr,I4⟩=>?_)
  subst hr;exact wpAny_execs_nil ⟨σ3,H3,I4,qn⟩
 ·refine ik hp (thn (T.item X rfl rfl rfl hc i aH s3 σ3 H3 X.xe I3 (stat fr3) st3 go) fun r s4 ⟨u,hr,h4⟩=>?_)
  subst hr;refine ik hp (thn h4 fun _ s5 ⟨x,H5,I5,r5,y5,st5,fr5⟩=>?_);have I5':=I5.pinned (stat fr5) (T.obj _ _ st5);refine ik hp (thn (hg _ s5 σ3 H5 x u _ I5' r5 (step x H5 y5)) fun _ s6 ⟨σ6,H6,I6,q6⟩=>?_);refine ik hp (thn (hb _ s6 σ6 H6 _ I6 q6) fun f s7 q7=>?_);have again:∀ {σ7:St} {H7:Hp},Inv X (aH++pinsAt fp s5.heap) σ7 H7 s7→N σ7 H7→∃ m,m<n∧∃ i σ' H',Inv X aH σ' H' s7∧tn i s7.heap∧(∀ b∈fp,H' b=none)∧W i m σ' H':=fun {σ7 H7} I7 n7=>by
   obtain ⟨m',hm,w7⟩:=hN σ7 H7 n7;refine ⟨m',hm,i+1,σ7,H7,I7.unpinned,T.keep _ _ _ st5 fun b hb o e=>(I7.pin (b,o) (ay _ (ay _ (mq hb e)))).1,fun b hb=>?_,w7⟩;obtain ⟨o,e,d⟩:=T.obj _ _ st5 b hb;exact (I7.pin (b,o) (ay _ (ay _ (mq hb e)))).2.1
  cases f with
  | next=>obtain ⟨σ7,H7,I7,n7⟩:=q7;exact again I7 n7
  | cont=>obtain ⟨σ7,H7,I7,n7⟩:=q7;exact again I7 n7
  | brk=>obtain ⟨σ7,H7,I7,q7⟩:=q7;exact ⟨σ7,H7,I7.unpinned,q7⟩
  | ret v=>obtain ⟨x7,σ7,H7,I7,r7,q7⟩:=q7;exact ⟨x7,σ7,H7,I7.unpinned,r7,q7⟩
theorem lF {g:TG}{tb:TS}{D:kO}(Pv:Nat→St→Hp→Prop)(h0:Pv 0 σ H)(hl:∀ i σ H,i≤xs.length→Pv i σ H→SqL K H a xs)
  (hs:∀ i x σ H,xs[i]? =some x→Pv i σ H→g x σ H fun σ2 H2=>tb { D with nx:=Pv (i+1),ct:=Pv (i+1),bk:=D.nx } σ2 H2) (hd:∀ σ H,Pv xs.length σ H→D.nx σ H) :
  ∃ W:Nat→Nat→St→Hp→Prop,(∃ m,W 0 m σ H)∧∀ i m σ H,W i m σ H →
   ((Itl K a).stop i H∧D.nx σ H)∨((Itl K a).go i H∧∃ N:St→Hp→Prop,(∀ σ' H',N σ' H'→∃ m',m'<m∧W (i+1) m' σ' H')∧∀ x H',(Itl K a).yld i H x H'→g x σ H' fun σ2 H2=>tb { D with nx:=N,ct:=N,bk:=D.nx } σ2 H2):=by
 refine ⟨fun i m σ H=>m=xs.length - i∧i≤xs.length∧Pv i σ H,⟨xs.length,by simp,bD _,h0⟩,?_⟩;rintro i m σ H ⟨rfl,hi,p⟩;have q:=hl i σ H hi p
 by_cases hlt:i<xs.length
 ·refine .inr ⟨⟨xs,xs[i],q,by simp [hlt]⟩,Pv (i+1),fun σ' H' p'=>⟨xs.length - (i+1),by lia,rfl,hlt,p'⟩,fun x H' y=>?_⟩
  obtain ⟨e,y⟩:=y;subst e;exact hs i x σ _ (y xs q) p
 ·have e:i=xs.length:=by lia
  subst e;exact .inl ⟨⟨xs,q,aA _⟩,hd σ H p⟩
theorem pV {g:TG}{tb:TS}{D:kO}(Pv:Nat→St→Hp→Prop)(h0:Pv 0 σ H)(hl:∀ i σ H,i≤xs.length→Pv i σ H→SqT K H a xs)
  (hs:∀ i x σ H,xs[i]? =some x→Pv i σ H→g x σ H fun σ2 H2=>tb { D with nx:=Pv (i+1),ct:=Pv (i+1),bk:=D.nx } σ2 H2) (hd:∀ σ H,Pv xs.length σ H→D.nx σ H) :
  ∃ W:Nat→Nat→St→Hp→Prop,(∃ m,W 0 m σ H)∧∀ i m σ H,W i m σ H →
   ((Itt K a).stop i H∧D.nx σ H)∨((Itt K a).go i H∧∃ N:St→Hp→Prop,(∀ σ' H',N σ' H'→∃ m',m'<m∧W (i+1) m' σ' H')∧∀ x H',(Itt K a).yld i H x H'→g x σ H' fun σ2 H2=>tb { D with nx:=N,ct:=N,bk:=D.nx } σ2 H2):=by
 refine ⟨fun i m σ H=>m=xs.length - i∧i≤xs.length∧Pv i σ H,⟨xs.length,by simp,bD _,h0⟩,?_⟩;rintro i m σ H ⟨rfl,hi,p⟩;have q:=hl i σ H hi p
 by_cases hlt:i<xs.length
 ·refine .inr ⟨⟨xs,xs[i],q,by simp [hlt]⟩,Pv (i+1),fun σ' H' p'=>⟨xs.length - (i+1),by lia,rfl,hlt,p'⟩,fun x H' y=>?_⟩
  obtain ⟨e,y⟩:=y;subst e;exact hs i x σ _ (y xs q) p
 ·have e:i=xs.length:=by lia
  subst e;exact .inl ⟨⟨xs,q,aA _⟩,hd σ H p⟩
theorem l9 {g:TG}{tb:TS}{D:kO}(Pv:Nat→St→Hp→Prop)(h0:Pv 0 σ H)
  (hs:∀ i σ H,i<n→Pv i σ H→g (.int (lo+i)) σ H fun σ2 H2=>tb { D with nx:=Pv (i+1),ct:=Pv (i+1),bk:=D.nx } σ2 H2) (hd:∀ σ H,Pv n σ H→D.nx σ H) :
  ∃ W:Nat→Nat→St→Hp→Prop,(∃ m,W 0 m σ H)∧∀ i m σ H,W i m σ H →
   ((Itr lo n).stop i H∧D.nx σ H)∨((Itr lo n).go i H∧∃ N:St→Hp→Prop,(∀ σ' H',N σ' H'→∃ m',m'<m∧W (i+1) m' σ' H')∧∀ x H',(Itr lo n).yld i H x H'→g x σ H' fun σ2 H2=>tb { D with nx:=N,ct:=N,bk:=D.nx } σ2 H2):=by
 refine ⟨fun i m σ H=>m=n - i∧i≤n∧Pv i σ H,⟨n,by simp,bD _,h0⟩,?_⟩;rintro i m σ H ⟨rfl,hi,p⟩
 by_cases hlt:i<n
 ·refine .inr ⟨hlt,Pv (i+1),fun σ' H' p'=>⟨n - (i+1),by lia,rfl,hlt,p'⟩,fun x H' y=>?_⟩
  obtain ⟨e,y⟩:=y;subst e y;exact hs i σ _ hlt p
 ·have e:i=n:=by lia
  subst e;exact .inl ⟨aA _,hd σ H p⟩
abbrev R2:=V→V→Hp→VK→Prop
def OpR (X:Cx)(f:aa→aa→Sem aa)(r:R2):Prop :=
 ∀ (aH:List (ai×Obj)) (s:ao) (σ:St) (H:Hp) (x y:V) (v u:aa) (Q:VK),Inv X aH σ H s→fY x v→fY y u→r x y H Q →
  aJ (aV X.prog X.w) X.A (f v u) (EP X aH σ Q) X.xe s
def UnR (X:Cx)(f:aa→Sem aa)(r:V→Hp→VK→Prop):Prop :=
 ∀ (aH:List (ai×Obj)) (s:ao) (σ:St) (H:Hp) (x:V) (v:aa) (Q:VK),Inv X aH σ H s→fY x v→r x H Q →
  aJ (aV X.prog X.w) X.A (f v) (EP X aH σ Q) X.xe s
def lJ (X:Cx)(f:aa)(r:List V→Hp→VK→Prop):Prop :=
 ∀ (aH:List (ai×Obj)) (s:ao) (σ:St) (H:Hp) (xs:List V) (us:List aa) (Q:VK),Inv X aH σ H s→fN xs us→r xs H Q →
  aJ (aV X.prog X.w) X.A (jS f us) (EP X aH σ Q) X.xe s
def tOp (r:R2)(ta tb:TE):TE:=fun σ H Q=>ta σ H fun x H1=>tb σ H1 fun y H2=>r x y H2 Q
def tUn (r:V→Hp→VK→Prop)(ta:TE):TE:=fun σ H Q=>ta σ H fun x H1=>r x H1 Q
inductive rI (C:Int→Int→Prop)(g:Int→Int→V)(x:V)(y:V)(H:Hp)(Q:VK):Prop
 | mk (i j:_)(_:x= .int i)(_:y= .int j)(_:C i j)(_:Q (g i j) H)
inductive rI0 (g:Int→Int→V)(x:V)(y:V)(H:Hp)(Q:VK):Prop
 | mk (i j:_)(_:x= .int i)(_:y= .int j)(_:Q (g i j) H)
inductive rU (g:Int→V)(x:V)(H:Hp)(Q:VK):Prop
 | mk (i:_)(_:x= .int i)(_:Q (g i) H)
section
variable {a b c:Expr}{tb tc:TE}
theorem binT (ha:PE X a ta)(hb:PE X b tb){R:V→V→Hp→Prop}(I:Inv X aH σ H s)
  (h:ta σ H fun x H1=>tb σ H1 fun y H2=>R x y H2) {f:aa→aa→Sem aa}
  (hf:∀ v u s2 x y H2,Inv X aH σ H2 s2→fY x v→fY y u→R x y H2→aJ (aV X.prog X.w) X.A (f v u) Q X.xe s2) :
  aJ (aV X.prog X.w) X.A (dH a X.env) (fun v s₁=>aJ (aV X.prog X.w) X.A (dH b X.env) (fun u s₂=>aJ (aV X.prog X.w) X.A (f v u) Q X.xe s₂) X.xe s₁) X.xe s:=by
 refine thn (ha aH s σ H _ I h) fun v s1 ⟨x,H1,I1,r1,q1⟩=>?_
 refine thn (hb aH s1 σ H1 _ I1 q1) fun u s2 ⟨y,H2,I2,r2,q2⟩=>?_
 exact hf v u s2 x y H2 I2 r1 r2 q2
theorem dv {op:Operator}{r:R2}(ho:OpR X (fM op) r)(ha:PE X a ta)(hb:PE X b tb):PE X (.BinOp a op b pos) (tOp r ta tb):=by
 intro aH s σ H Q I h;exact wpAny_BinOp (binT ha hb I h fun v u s2 x y H2 I2 rx ry q=>ho aH s2 σ H2 x y v u Q I2 rx ry q)
theorem pe_un {op:UnaryOp}{r:V→Hp→VK→Prop}(ho:UnR X (unaryOp op) r)(ha:PE X a ta):PE X (.UnaryOp op a pos) (tUn r ta):=by
 intro aH s σ H Q I h;exact UnaryOp_ (thn (ha aH s σ H _ I h) fun v s1 ⟨x,H1,I1,r1,q1⟩=>ho aH s1 σ H1 x v Q I1 r1 q1)
theorem opI {f:aa→aa→Sem aa}{C:Int→Int→Prop}{g:Int→Int→Int}
  (rule:∀ (i j:Int) (t u:Tok) (s:ao) (Q:aa→ao→Prop) (E:aa→ao→Prop),C i j→Q (.int (g i j) s.toks) { s with toks:=s.toks+1 }→aJ (aV X.prog X.w) X.A (f (.int i t) (.int j u)) Q E s) :
  OpR X f (rI C fun i j=> .int (g i j)):=by
 intro aH s σ H x y v u Q I rx ry h;obtain ⟨i,j,rfl,rfl,hc,q⟩:=h;obtain ⟨t,rfl⟩:=rx;obtain ⟨t',rfl⟩:=ry;exact rule i j t t' s _ _ hc ⟨.int (g i j),H,I.tok _,⟨_,rfl⟩,q⟩
theorem opI0 {f:aa→aa→Sem aa}{g:Int→Int→Int}
  (rule:∀ (i j:Int) (t u:Tok) (s:ao) (Q:aa→ao→Prop) (E:aa→ao→Prop),Q (.int (g i j) s.toks) { s with toks:=s.toks+1 }→aJ (aV X.prog X.w) X.A (f (.int i t) (.int j u)) Q E s) :
  OpR X f (rI0 fun i j=> .int (g i j)):=by
 intro aH s σ H x y v u Q I rx ry h;obtain ⟨i,j,rfl,rfl,q⟩:=h;obtain ⟨t,rfl⟩:=rx;obtain ⟨t',rfl⟩:=ry;exact rule i j t t' s _ _ ⟨.int (g i j),H,I.tok _,⟨_,rfl⟩,q⟩
theorem opB0 {f:aa→aa→Sem aa}{g:Int→Int→Bool}
  (rule:∀ (i j:Int) (t u:Tok) (s:ao) (Q:aa→ao→Prop) (E:aa→ao→Prop),Q (.bool (g i j)) s→aJ (aV X.prog X.w) X.A (f (.int i t) (.int j u)) Q E s) :
  OpR X f (rI0 fun i j=> .bl (g i j)):=by
 intro aH s σ H x y v u Q I rx ry h;obtain ⟨i,j,rfl,rfl,q⟩:=h;obtain ⟨t,rfl⟩:=rx;obtain ⟨t',rfl⟩:=ry;exact rule i j t t' s _ _ ⟨.bl (g i j),H,I,rfl,q⟩
def CDiv (i j:Int):Prop:=0<j∧j<1073741824
def CPow (i j:Int):Prop:=0≤j∧j≤1000000∧i.natAbs<2 ^ 64
def CMul (i j:Int):Prop:=(-(2 ^ 64)<i∧i<2 ^ 64)∨(-(2 ^ 64)<j∧j<2 ^ 64)
theorem CMul.ok {i j:Int}(h:CMul i j):IntMulOk i j:=by
 rcases h with ⟨h1,h2⟩ | ⟨h1,h2⟩
 ·exact .of_left (intBits_le_64 h1 h2)
 ·exact .of_right (intBits_le_64 h1 h2)
theorem gG:OpR X (fM .Add) (rI0 fun i j=> .int (i+j)):=opI0 fun _ _ _ _ _ _ _ q=>add_int q
theorem op_sub:OpR X (fM .Sub) (rI0 fun i j=> .int (i - j)):=opI0 fun _ _ _ _ _ _ _ q=>sub_int q
theorem ko:OpR X (fM .Mult) (rI CMul fun i j=> .int (i * j)):=opI fun _ _ _ _ _ _ _ hc q=>mul_int q hc.ok
theorem op_fdiv:OpR X (fM .FloorDiv) (rI CDiv fun i j=> .int (i / j)):=opI fun i j _ _ _ _ _ hc q=>by
 have h1:(0:Int)<j:=hc.1;have h2:j<1073741824:=hc.2;exact floordiv_int (by lia) (by rw [Int.fdiv_eq_ediv_of_nonneg i (by lia)];exact q) (.inl (PyProof.noPylong_small (by lia)))
theorem nG:OpR X (fM .Mod) (rI (fun _ j=>0<j) fun i j=> .int (i % j)):=opI fun i j _ _ _ _ _ hc q=>by
 have h1:(0:Int)<j:=hc;exact mod_int' (by lia) (by rw [Int.fmod_eq_emod_of_nonneg i (by lia)];exact q)
theorem op_pow:OpR X (fM .Pow) (rI CPow fun i j=> .int (i ^ j.toNat)):=opI fun _ _ _ _ _ _ _ hc q=>pow_int_small hc.1 hc.2.1 hc.2.2 q
theorem unI {f:aa→Sem aa}{g:Int→Int}
  (rule:∀ (i:Int) (t:Tok) (s:ao) (Q:aa→ao→Prop) (E:aa→ao→Prop),Q (.int (g i) s.toks) { s with toks:=s.toks+1 }→aJ (aV X.prog X.w) X.A (f (.int i t)) Q E s) :
  UnR X f (rU fun i=> .int (g i)):=by
 intro aH s σ H x v Q I rx h;obtain ⟨i,rfl,q⟩:=h;obtain ⟨t,rfl⟩:=rx;exact rule i t s _ _ ⟨.int (g i),H,I.tok _,⟨_,rfl⟩,q⟩
theorem un_neg:UnR X (unaryOp .USub) (rU fun i=> .int (-i)):=unI fun _ _ _ _ _ q=>neg_int q
end
def scal:V→V→Bool
 | .non,.non=>true | .non,.int _=>true | .int _,.non=>true | .non,.bl _=>true | .bl _,.non=>true | .non,.str _=>true | .str _,.non=>true
 | .int _,.int _=>true | .bl _,.bl _=>true | .str _,.str _=>true | .byt _,.byt _=>true
 | .int _,.str _=>true | .str _,.int _=>true | .bl _,.str _=>true | .str _,.bl _=>true
 | _,_=>false
def rEq:R2:=fun x y H Q=>scal x y=true∧Q (.bl (decide (x=y))) H
def rNe:R2:=fun x y H Q=>scal x y=true∧Q (.bl (!decide (x=y))) H
theorem dec_int {i j:Int}:decide (V.int i=V.int j)=(i == j):=by
 rw [ke];simp
theorem dec_bl {i j:Bool}:decide (V.bl i=V.bl j)=(i == j):=by
 rw [ke];simp
theorem dec_str {i j:Str}:decide (V.str i=V.str j)=(i == j):=by
 rw [ke];simp
theorem dec_byt {i j:Array UInt8}:decide (V.byt i=V.byt j)=(i.toList == j.toList):=by
 rw [ke];cases i;cases j;simp
section
variable {a b c:Expr}{tb tc:TE}
theorem fh {Q:VK}{k k':Bool}(I:Inv X aH σ H s)(q:Q (.bl k) H)(e:k=k'):EP X aH σ Q (.bool k') s:=by
 subst e;exact ⟨.bl k,H,I,rfl,q⟩
theorem qk:OpR X (gm .Eq) rEq:=by
 intro aH s σ H x y v u Q I rx ry h;obtain ⟨hs,q⟩:=h;cases x with
 | non =>
  cases rx;cases y with
  | non=>cases ry;exact PySem.EqNone.eq_none_none (fh I q (by simp))
  | bl j=>cases ry;exact PySem.EqNone.eq_none_bool (fh I q (by simp))
  | int j=>obtain ⟨t',rfl⟩:=ry;exact PySem.EqNone.eq_none_int (fh I q (by simp))
  | str j=>obtain ⟨t',rfl⟩:=ry;exact PySem.EqNone.eq_none_str (fh I q (by simp))
  | _=>exact qS (show false=true from hs) aO
 | bl i =>
  cases rx;cases y with
  | non=>cases ry;exact PySem.EqNone.eq_bool_none (fh I q (by simp))
  | bl j=>cases ry;exact eq_bool (fh I q dec_bl)
  | str j=>obtain ⟨t',rfl⟩:=ry;exact PySem.EqMixed.eq_bool_str (fh I q (by simp))
  | _=>exact qS (show false=true from hs) aO
 | int i =>
  obtain ⟨t,rfl⟩:=rx;cases y with
  | non=>cases ry;exact PySem.EqNone.eq_int_none (fh I q (by simp))
  | int j=>obtain ⟨t',rfl⟩:=ry;exact eq_int (fh I q dec_int)
  | str j=>obtain ⟨t',rfl⟩:=ry;exact PySem.EqMixed.eq_int_str (fh I q (by simp))
  | _=>exact qS (show false=true from hs) aO
 | str i =>
  obtain ⟨t,rfl⟩:=rx;cases y with
  | non=>cases ry;exact PySem.EqNone.eq_str_none (fh I q (by simp))
  | bl j=>cases ry;exact PySem.EqMixed.eq_str_bool (fh I q (by simp))
  | int j=>obtain ⟨t',rfl⟩:=ry;exact PySem.EqMixed.eq_str_int (fh I q (by simp))
  | str j=>obtain ⟨t',rfl⟩:=ry;exact eq_str (fh I q dec_str)
  | _=>exact qS (show false=true from hs) aO
 | byt i =>
  obtain ⟨t,rfl⟩:=rx;cases y with
  | byt j=>obtain ⟨t',rfl⟩:=ry;exact PySem.W.eq_bytes (fh I q dec_byt)
  | _=>exact qS (show false=true from hs) aO
 | _=>cases y <;> exact qS (show false=true from hs) aO
theorem op_ne:OpR X (gm .NotEq) rNe:=by
 intro aH s σ H x y v u Q I rx ry h;obtain ⟨hs,q⟩:=h;cases x with
 | non =>
  cases rx;cases y with
  | non=>cases ry;exact PySem.EqNone.ne_none_none (fh I q (by simp))
  | bl j=>cases ry;exact PySem.EqNone.ne_none_bool (fh I q (by simp))
  | int j=>obtain ⟨t',rfl⟩:=ry;exact PySem.EqNone.ne_none_int (fh I q (by simp))
  | str j=>obtain ⟨t',rfl⟩:=ry;exact PySem.EqNone.ne_none_str (fh I q (by simp))
  | _=>exact qS (show false=true from hs) aO
 | bl i =>
  cases rx;cases y with
  | non=>cases ry;exact PySem.EqNone.ne_bool_none (fh I q (by simp))
  | bl j=>cases ry;exact ne_bool (fh I q (qW not dec_bl))
  | str j=>obtain ⟨t',rfl⟩:=ry;exact PySem.EqMixed.ne_bool_str (fh I q (by simp))
  | _=>exact qS (show false=true from hs) aO
 | int i =>
  obtain ⟨t,rfl⟩:=rx;cases y with
  | non=>cases ry;exact PySem.EqNone.ne_int_none (fh I q (by simp))
  | int j=>obtain ⟨t',rfl⟩:=ry;exact ne_int (fh I q (qW not dec_int))
  | str j=>obtain ⟨t',rfl⟩:=ry;exact PySem.EqMixed.ne_int_str (fh I q (by simp))
  | _=>exact qS (show false=true from hs) aO
 | str i =>
  obtain ⟨t,rfl⟩:=rx;cases y with
  | non=>cases ry;exact PySem.EqNone.ne_str_none (fh I q (by simp))
  | bl j=>cases ry;exact PySem.EqMixed.ne_str_bool (fh I q (by simp))
  | int j=>obtain ⟨t',rfl⟩:=ry;exact PySem.EqMixed.ne_str_int (fh I q (by simp))
  | str j=>obtain ⟨t',rfl⟩:=ry;exact ne_str (fh I q (qW not dec_str))
  | _=>exact qS (show false=true from hs) aO
 | byt i =>
  obtain ⟨t,rfl⟩:=rx;cases y with
  | byt j=>obtain ⟨t',rfl⟩:=ry;exact PySem.W.ne_bytes (fh I q (qW not dec_byt))
  | _=>exact qS (show false=true from hs) aO
 | _=>cases y <;> exact qS (show false=true from hs) aO
theorem op_lt:OpR X (gm .Lt) (rI0 fun i j=> .bl (decide (i<j))):=opB0 fun _ _ _ _ _ _ _ q=>lt_int q
theorem op_gt:OpR X (gm .Gt) (rI0 fun i j=> .bl (decide (j<i))):=opB0 fun _ _ _ _ _ _ _ q=>gt_int q
theorem op_ge:OpR X (gm .GtE) (rI0 fun i j=> .bl (decide (j≤i))):=opB0 fun _ _ _ _ _ _ _ q=>ge_int q
theorem op_isN:OpR X (gm .Is) (fun x y H Q=>y= .non∧Q (.bl (decide (x= .non))) H):=by
 intro aH s σ H x y v u Q I rx ry h;obtain ⟨rfl,q⟩:=h;cases ry;refine is_none_gen (fh I q ?_);cases x <;> first
  | (cases rx;rfl)
  | (obtain ⟨t,rfl⟩:=rx;rfl)
theorem op_notN:OpR X (gm .IsNot) (fun x y H Q=>y= .non∧Q (.bl (!decide (x= .non))) H):=by
 intro aH s σ H x y v u Q I rx ry h;obtain ⟨rfl,q⟩:=h;cases ry;refine isnot_none_gen (fh I q ?_);cases x <;> first
  | (cases rx;rfl)
  | (obtain ⟨t,rfl⟩:=rx;rfl)
theorem fg (b:Expr)(h:op≠ .In:=by decide)(h2:op≠ .NotIn:=by decide):behindInMarks op b=false:=by
 have e1:(op == CmpOp.In)=false:=by cases op <;> first | rfl | exact qS rfl h
 have e2:(op == CmpOp.NotIn)=false:=by cases op <;> first | rfl | exact qS rfl h2
 cases b <;> simp [behindInMarks,e1,e2]
theorem pe_cmpR {r:R2}(ho:OpR X (gm op) r)(ha:PE X a ta)(hb:PE X b tb)(hm:behindInMarks op b=false):PE X (.Compare a [op] [b] pos) (tOp r ta tb):=by
 intro aH s σ H Q I h;exact wpAny_Compare1 (binT ha hb I h fun v u s2 x y H2 I2 rx ry q=>ho aH s2 σ H2 x y v u Q I2 rx ry q) hm
def tTest (t:TE):TT:=fun σ H Q=>t σ H fun x H'=>IsBl x fun k=>Q k H'
theorem dB {r:R2}(ho:OpR X (gm op) r)(ha:PE X a ta)(hb:PE X b tb)(hm:behindInMarks op b=false):PT X (.Compare a [op] [b] pos) (tTest (tOp r ta tb)):=by
 intro aH s σ H Q I h;refine wpAny_isTrue_Compare1 (thn (ha aH s σ H _ I h) fun v s1 ⟨x,H1,I1,r1,q1⟩=>thn (hb aH s1 σ H1 _ I1 q1) fun u s2 ⟨y,H2,I2,r2,q2⟩ =>
  thn (ho aH s2 σ H2 x y v u _ I2 r1 r2 q2) fun c s3 ⟨z,H3,I3,r3,k,e,q3⟩=>?_) hm
 subst e;cases r3;exact wpAny_truthy_bool ⟨H3,I3,q3⟩
theorem line63:(aP:Nat)<2 ^ 63:=by rw [eY];decide
theorem vals1 {x:V}(r:fN [x] us):∃ u,us=[u]∧fY x u:=by
 cases r with
 | cons r1 r2=>cases r2;exact ⟨_,rfl,r1⟩
theorem vals2 {x:V}(r:fN [x,y] us):∃ u w',us=[u,w']∧fY x u∧fY y w':=by
 cases r with
 | cons r1 r2 =>
  cases r2 with
  | cons r3 r4=>cases r4;exact ⟨_,_,rfl,r1,r3⟩
end
structure ObjM (h:bz)(x dx C:ai)(mA:Str→Option aa):Prop where
 obj:h.get? x=some (fP C dx)
 ns:h.Ns1 dx mA
 ne:dx≠x
theorem pR (n:h.Ns1 dx mA):∃ od,h.get? dx=some od∧∀ name,PySem.W.lookIn name od=some (mA name):=by
 obtain ⟨o,es,ep,ho,hd,hk,_,hm⟩:=n;refine ⟨o,ho,fun name=>?_⟩;have e:=hm name;unfold nsFind findBy at e;rw [←Array.find?_toList] at e;unfold PySem.W.lookIn;rw [hd]
 dsimp only
 split
 ·rename_i y q
  rw [q] at e;exact qW some e
 ·rename_i q
  rw [q] at e;have a:es.toList.any (·.refKey)=false:=by
   rw [jx];intro y hy;obtain ⟨z,t,hkey⟩:=hk y (Array.mem_toList_iff.mp hy);simp [DictEntry.refKey,hkey]
  have a':¬ es.toList.any (·.refKey)=true:=by rw [a];exact aO
  rw [qQ a'];exact qW some e
theorem ObjM.look {x:ai}(I:ObjM h x dx C mA):∃ od,PySem.W.InstAt h x (fP C dx) C (some od)∧∀ name,PySem.W.lookIn name od=some (mA name) :=
 let ⟨od,ho,hl⟩:=pR I.ns
 ⟨od,⟨I.obj,rfl,rfl,ho⟩,hl⟩
section
variable {x:ai}{v:aa}
theorem get_map {expr:Bool}(X:K.In s.heap)(I:ObjM s.heap x dx C mA)(hg:jF K C name=true)(hh:jg K C=true)
  (ha:bU K (.ref C) name=some none) (hv:mA name=some v) (hv':PySem.W.handedIn v=true) (h:Q v { s with toks:=s.toks+1 }) :
  aJ (aV prog w) A (getAttr (.ref x) name expr) Q E s:=by
 obtain ⟨od,J,hl⟩:=I.look;exact PySem.W.get_value X J (PySem.W.plainGet_of hg).1 (PySem.W.findObj_own hh ha rfl (by rw [hl,hv])) hv' h
theorem get_meth {pl:Sem Bool}{Q:aa×List aa→ao→Prop}(X:K.In s.heap)(I:ObjM s.heap x dx C mA)(hg:jF K C name=true)
  (hf:bU K (.ref C) name=some (some (.ref f))) (ht:jf K (.ref f)=true) (hv:mA name=none) (h:Q (.ref f,[.ref x]) s) :
  aJ (aV prog w) A (getMethod (.ref x) name pl) Q E s:=by
 obtain ⟨od,J,hl⟩:=I.look;exact PySem.W.method_fn X J (PySem.W.plainGet_of hg).1 (PySem.W.plainGet_of hg).2 hf (beq_iff_eq.mp ht) (by show (PySem.W.lookIn name od).map (·.isSome)=some false;rw [hl,hv];rfl) h
theorem set_map {ns:List Str}{Q:Unit→ao→Prop}(X:K.In s.heap)(I:ObjM s.heap x dx C mA)
  (hs:bU K (.ref C) "__setattr__" =some (some (.builtin "object.__setattr__"))) (hp:PySem.W.plainOver K C=true) (ht:PySem.W.takerIn K C name=some none) (hh:jg K C=true)
  (hw:PySem.Within mA ns) (hsz:ns.length≤aP)
  (h:∀ h',ObjM h' x dx C (fun y=>if y=name then some v else mA y)→dm dx s.heap h'→Q () { s with heap:=h',toks:=s.toks+2 }) :
  aJ (aV prog w) A (setAttr (.ref x) name v) Q E s:=by
 obtain ⟨od,J,hl⟩:=I.look;refine PySem.W.set_plain X J hs (PySem.W.osa_open (s:={ s with toks:=s.toks+1 }) (r:=none) X J hp ht fun b=>?_);obtain ⟨cd,hc,hd'⟩:=PySem.W.any_some hh;have hx:s.heap.get? x=some ⟨.ref C,some dx,.plain,#[]⟩:=I.obj;refine af (aC (af (af (wpAny_loadPart hx (af (PySem.W.Looks.here (s:={ s with toks:=s.toks+1 }) (PySem.W.looks_clsIn X hc) ?_))))));rw [hd'];refine aC (a:=some dx) (af (aC (af ?_)));refine wpAny_nsSet1 (s:={ s with toks:=s.toks+1 }) I.ns fun h' hn2 hs2=>?_
 obtain ⟨oD,esD,epD,hoD,hdD,hcD⟩:=hn2.count (PySem.Within.cons name v hw);refine af (wpAny_lookBehind hoD (by rw [hdD];exact pastItsLine_dict (aS hcD (by rw [aM];lia))) ?_);exact aC (h _ ⟨(hs2.2 _ (bX I.ne)).trans I.obj,hn2,I.ne⟩ hs2)
theorem make_map (X:K.In s.heap)(hm:PySem.W.makesIn K C=true)
  (hi:bU K (.ref C) "__init__" =some (some (.ref f))) (hf:PySem.W.typeIn K (.ref f)=some (.type "function"))
  (h:iE (aV prog w) (A.under (.builtin "type.__call__" ⟨.ref C::vs,kw⟩)) (.call (.ref f) ⟨.ref (s.heap.objs.size+1)::vs,kw⟩) (PySem.W.InitBack (s.heap.objs.size+1) R)
   {s with heap:=(s.heap.push d8).push (fP C s.heap.objs.size) }) :
  iE (aV prog w) A (.call (.ref C) ⟨vs,kw⟩) R s:=by
 obtain ⟨hh,g,d,t,os⟩:=s;exact PySem.W.make_core (PySem.W.makes_of X hm) (PySem.W.looks_findIn X hi) (fun self=>PySem.W.bind_fn X self hf) (.inl rfl) h
end
def mz (f:Str)(v:V):List (Str×V)→List (Str×V)
 | []=>[(f,v)]
 | (g,x)::r=>if g=f then (g,v)::r else (g,x)::mz f v r
theorem ka (f g:Str)(v:V):∀ fs:List (Str×V),(mz f v fs).lookup g=if g=f then some v else fs.lookup g
 | []=>by
  show dk g [(f,v)]=_
  by_cases h:g=f
  ·have hb:(g == f)=true:=beq_iff_eq.mpr h
   simp only [dk,hb,qR h]
  ·have hb:(g == f)=false:=beq_eq_false_iff_ne.mpr h
   simp only [dk,hb,qQ h]
 | (k,x)::r=>by
  have ih:=ka f g v r;rw [show mz f v ((k,x)::r)=(if k=f then (k,v)::r else (k,x)::mz f v r) from rfl]
  by_cases hk:k=f
  ·rw [qR hk]
   by_cases h:g=k
   ·have hb:(g == k)=true:=beq_iff_eq.mpr h
    simp only [dk,hb,qR (h.trans hk)]
   ·have hb:(g == k)=false:=beq_eq_false_iff_ne.mpr h
    simp only [dk,hb,qQ (fun e:g=f=>h (e.trans hk.symm))]
  ·rw [qQ hk]
   by_cases h:g=k
   ·have hb:(g == k)=true:=beq_iff_eq.mpr h
    simp only [dk,hb,qQ (fun e:g=f=>hk (h.symm.trans e))]
   ·have hb:(g == k)=false:=beq_eq_false_iff_ne.mpr h
    simp only [dk,hb];exact ih
theorem lY (f:Str)(v:V):∀ fs:List (Str×V),f∈(mz f v fs).map (·.1)∧∀ g,g∈fs.map (·.1)→g∈(mz f v fs).map (·.1)
 | []=>⟨by simp [mz],fun g h=>by simp at h⟩
 | (k,x)::r=>by
  obtain ⟨i1,i2⟩:=lY f v r;rw [show mz f v ((k,x)::r)=(if k=f then (k,v)::r else (k,x)::mz f v r) from rfl]
  by_cases hk:k=f
  ·rw [qR hk]
   subst hk;exact ⟨by simp,fun g h=>by simpa using h⟩
  ·rw [qQ hk]
   refine ⟨?_,fun g h=>?_⟩
   ·rw [bZ]
    exact aw _ i1
   ·rw [bZ] at h ⊢
    rcases aB.mp h with e | e
    ·exact aB.mpr (.inl e)
    ·exact aw _ (i2 g e)
theorem pS (f:Str)(v:V):∀ fs:List (Str×V),(mz f v fs).length≤fs.length+1
 | []=>by simp [mz]
 | (k,x)::r=>by
  have ih:=pS f v r;rw [show mz f v ((k,x)::r)=(if k=f then (k,v)::r else (k,x)::mz f v r) from rfl]
  by_cases hk:k=f
  ·rw [qR hk,aM,aM];lia
  ·rw [qQ hk,aM,aM];lia
theorem qp.some_of {o:Option aa}(r:qp (some v) o):∃ u,o=some u∧fY v u:=by
 cases o with
 | none=>exact (show False from r).elim
 | some u=>exact ⟨u,rfl,r⟩
theorem qp.none_of {o:Option aa}(r:qp none o):o=none:=by
 cases o with
 | none=>rfl
 | some u=>exact (show False from r).elim
theorem handed_of (r:fY v u):PySem.W.handedIn u=true:=by
 cases v with
 | non=>cases (show u=aa.none from r);rfl
 | bl b=>cases (show u=aa.bool b from r);rfl
 | int i=>obtain ⟨t,e⟩:=(show ∃ t,u=aa.int i t from r);cases e;rfl
 | str x=>obtain ⟨t,e⟩:=(show ∃ t,u=aa.str x t from r);cases e;rfl
 | byt b=>obtain ⟨t,e⟩:=(show ∃ t,u=aa.bytes b t from r);cases e;rfl
 | flt b=>obtain ⟨t,e⟩:=(show ∃ t,u=aa.float b t from r);cases e;rfl
 | ref a=>cases (show u=aa.ref a from r);rfl
 | ty n=>cases (show u=aa.type n from r);rfl
section
variable {fs fs':List (Str×V)}
theorem ins_get (hok:HOk P w H h)(e:H a=some (.ins C dx fs)):∃ mA,ObjM h a dx C mA∧(∀ f,qp (fs.lookup f) (mA f))∧PySem.Within mA (fs.map (·.1))∧fs.length≤1000∧H dx=some (.own a):=by
 obtain ⟨d,z,ne,ob,mA,n,r,q⟩:=(show i7 P w H h a (.ins C dx fs) from hok a _ e);exact ⟨mA,⟨ob,n,ne⟩,r,q,z,d⟩
end
structure Cls (K:aq)(C:ai):Prop where
 pg:jF K C Str.empty=true
 hd:jg K C=true
 po:PySem.W.plainOver K C=true
 sa:bU K (.ref C) "__setattr__" =some (some (.builtin "object.__setattr__"))
theorem Cls.get (c:Cls K C)(f:Str):jF K C f=true:=c.pg
def kt (K:aq)(C:ai)(f:Str):Prop:=bU K (.ref C) f=some none
theorem kt.taker {f:Str}(n:kt K C f):PySem.W.takerIn K C f=some none:=by
 unfold PySem.W.takerIn;rw [show bU K (.ref C) f=some none from n];rfl
structure Meth (K:aq)(C:ai)(m:Str)(f:ai):Prop where
 at_:bU K (.ref C) m=some (some (.ref f))
 fn:jf K (.ref f)=true
 kp:cW K (.ref f)=true
section
variable {fs:List (Str×V)}{f:Str}
theorem getattr_ok {b:Bool}(I:Inv X aH σ H s)(e:H a=some (.ins C dx fs))(c:Cls X.K C)(n:kt X.K C f)(l:fs.lookup f=some v)
  (h:∀ u s',Inv X aH σ H s'→fY v u→Q u s'):aJ (aV X.prog X.w) A (getAttr (.ref a) f b) Q E s:=by
 obtain ⟨mA,O,r,_,_,_⟩:=ins_get I.hok e;obtain ⟨u,hu,ru⟩:=qp.some_of (v:=v) (o:=mA f) (by rw [←l];exact r f);exact get_map I.kIn O (c.get f) c.hd n hu (handed_of ru) (h u _ (I.tok _) ru)
theorem getmeth_ok {m:Str}{g:ai}{pl:Sem Bool}{Q:aa×List aa→ao→Prop}(I:Inv X aH σ H s)(e:H a=some (.ins C dx fs))(c:Cls X.K C)(k:Meth X.K C m g)(l:fs.lookup m=none)
  (h:Q (.ref g,[.ref a]) s):aJ (aV X.prog X.w) A (getMethod (.ref a) m pl) Q E s:=by
 obtain ⟨mA,O,r,_,_,_⟩:=ins_get I.hok e;have hn:mA m=none:=qp.none_of (by rw [←l];exact r m);exact get_meth I.kIn O (c.get m) k.at_ k.fn hn h
theorem setattr_ok {Q:Unit→ao→Prop}(I:Inv X aH σ H s)(e:H a=some (.ins C dx fs))(c:Cls X.K C)(n:kt X.K C f)(hl:fs.length<1000)(ry:fY y u)
  (h:∀ s',Inv X aH σ (upd H a (.ins C dx (mz f y fs))) s'→Q () s'):aJ (aV X.prog X.w) A (setAttr (.ref a) f u) Q E s:=by
 obtain ⟨mA,O,r,wi,_,ho⟩:=ins_get I.hok e;have hz:(fs.map (·.1)).length≤aP:=by rw [ae,eY];lia
 refine set_map I.kIn O c.sa c.po n.taker c.hd wi hz fun h' O' sb=>h _ ?_
 have hd:∃ o,h'.get? dx=some o:=let ⟨o,_,_,e',_⟩:=O'.ns;⟨o,e'⟩;refine I.write (x:=a) (e:=dx) (by rw [e];exact True.intro) (.inr ho) (fun b q hb z=>(sb.2 b hb).trans z) hd ?_;refine ⟨by rw [bc O.ne];exact ho,?_,O.ne,O'.obj,_,O'.ns,fun g=>?_,fun g hg=>?_⟩
 ·have:=pS f y fs;lia
 ·show qp ((mz f y fs).lookup g) (if g=f then some u else mA g)
  rw [ka]
  by_cases q:g=f
  ·rw [qR q,qR q];exact ry
  ·rw [qQ q,qQ q];exact r g
 ·by_cases q:g=f
  ·rw [q];exact (lY f y fs).1
  ·refine (lY f y fs).2 g (wi g fun z=>hg ?_)
   show (if g=f then some u else mA g)=none;rw [qQ q];exact z
theorem Inv.made (I:Inv X aH σ H s):Inv X aH σ (upd (upd H s.heap.objs.size (.own (s.heap.objs.size+1))) (s.heap.objs.size+1) (.ins C s.heap.objs.size []))
  {s with heap:=(s.heap.push d8).push (fP C s.heap.objs.size) }:=by
 have e1:(s.heap.push d8).get? s.heap.objs.size=some d8:=aU s.heap rfl;have e2:((s.heap.push d8).push (fP C s.heap.objs.size)).get? (s.heap.objs.size+1)=some (fP C s.heap.objs.size):=by
  have:=aU (s.heap.push d8) (o:=fP C s.heap.objs.size) rfl
  rwa [fc] at this
 have e3:(s.heap.push d8).Ns s.heap.objs.size (fun _=>none):=⟨d8,#[],_,e1,rfl,(fun e he=>qS he (by simp)),fun _=>rfl⟩;have I1:=I.laid (a:=s.heap.objs.size) (o:= .own (s.heap.objs.size+1)) (h':=s.heap.push d8) (t':=s.toks) (fun b u q=>ar _ q) (aA _) ⟨_,e1⟩;refine I1.laid (a:=s.heap.objs.size+1) (o:= .ins C s.heap.objs.size []) (t':=s.toks) (fun b u q=>ar _ q) (Nat.le_of_eq (fc _ _)) ?_;have ne:s.heap.objs.size≠s.heap.objs.size+1:=bE (jV _);refine ⟨by rw [bc ne,aX],bD _,ne,e2,fun _=>none,(bz.Ns1.of_empty e3).at fun o q=>ar _ q,fun _=>True.intro,fun y hy=>qS rfl hy⟩
theorem attr_of {f:Str}(hb:kr e f env (dH e env)=dH e env)
  (h:aJ (aV prog w) A (dH e env) (fun o s₁=>aJ (aV prog w) A (getAttr o f true) Q E s₁) E s):aJ (aV prog w) A (dH (.Attribute e f pos) env) Q E s :=
 Attribute_any_ h (by rw [arm_eval_Attribute,hb])
end
def tFld (K:aq)(ta:TE)(f:Str):TE:=fun σ H Q=>ta σ H fun x H1=>∃ a C dx fs v,x= .ref a∧H1 a=some (.ins C dx fs)∧Cls K C∧kt K C f∧fs.lookup f=some v∧Q v H1
def sFld (K:aq)(ta tv:TE)(f:Str):TS:=fun D σ H=>tv σ H fun y H1=>ta σ H1 fun x H2=>∃ a C dx fs,x= .ref a∧H2 a=some (.ins C dx fs)∧Cls K C∧kt K C f∧fs.length<1000 ∧
 D.nx σ (upd H2 a (.ins C dx (mz f y fs)))
section
variable {o:Expr}{f:Str}
theorem pe_fld (he:PE X e ta)(hb:kr e f X.env (dH e X.env)=dH e X.env):PE X (.Attribute e f pos) (tFld X.K ta f):=by
 intro aH s σ H Q I h;refine attr_of hb (thn (he aH s σ H _ I h) fun u s1 ⟨x,H1,I1,rx,a,C,dx,fs,v,ex,ea,c,n,l,q⟩=>?_);subst ex;obtain rfl:u=aa.ref a:=rx;exact getattr_ok I1 ea c n l fun u' s2 I2 ru=>⟨v,H1,I2,ru,q⟩
theorem ps_fld (ha:PE X o ta)(hv:PE X value tv)(hs:kf value (some (.Attribute o f pos')) pos.line X.env=fj false):PS X (.Assign [.Attribute o f pos'] value pos) (sFld X.K ta tv f):=by
 intro aH s σ H D I h;refine plainObj_wpAny_Assign_Attribute (thn (hv aH s σ H _ I h) fun u s1 ⟨y,H1,I1,ry,q⟩=>thn (ha aH s1 σ H1 _ I1 q) fun ov s2 ⟨x,H2,I2,rx,a,C,dx,fs,ex,ea,c,n,l,q2⟩=>?_) hs;subst ex;obtain rfl:ov=aa.ref a:=rx;exact setattr_ok I2 ea c n l ry fun s3 I3=>⟨σ,_,I3,q2⟩
end
structure iA (k:Nat)(A:bL):Prop where
 hd:A.handled=none
 dp:A.depth+3 * k+5<jQ
 un:A.units+16 * k+200<cLine
theorem iA.mono {k:Nat}(r:iA k A)(h:j≤k):iA j A:=⟨r.hd,by have:=r.dp;lia,by have:=r.un;lia⟩
theorem iA.deeper {k:Nat}(r:iA (k+1) A)(env:Env):iA k (A.deeper env) :=
 ⟨r.hd,by have:=r.dp;show A.depth+1+3 * k+5<_;lia,by have:=r.un;show A.units+3+16 * k+200<_;lia⟩
theorem iA.in1 {k:Nat}(r:iA (k+1) A):iA k A.in1 :=
 ⟨r.hd,by have:=r.dp;show A.depth+3 * k+5<_;lia,by have:=r.un;show A.units+1+16 * k+200<_;lia⟩
theorem make_depth:(A.under (.builtin "type.__call__" ⟨.ref C::us,kw⟩)).depth=A.depth+1:=by
 first | rfl | simp [bL.under,Code.weight,Code.isCreation,Code.isGuard,Code.isCaller,Code.frames,Code.isFrame,guardIds]
theorem make_units:(A.under (.builtin "type.__call__" ⟨.ref C::us,kw⟩)).units=A.units+1:=by
 first | rfl | simp [bL.under,Code.cUnits,Code.frames,Code.isFrame]
theorem iA.make {k:Nat}(r:iA (k+1) A)(C:ai)(us:List aa)(kw:List (Str×aa)):iA k (A.under (.builtin "type.__call__" ⟨.ref C::us,kw⟩)) :=
 ⟨r.hd,by have:=r.dp;rw [make_depth];lia,by have:=r.un;rw [make_units];lia⟩
theorem iA.depth {k:Nat}(r:iA k A):A.depth<jQ:=by have:=r.dp;lia
theorem iA.units {k:Nat}(r:iA k A):A.units+64<cLine:=by have:=r.un;lia
def tNil:TA:=fun _ H Q=>Q [] H
def tCons (ta:TE)(tr:TA):TA:=fun σ H Q=>ta σ H fun x H1=>tr σ H1 fun xs H2=>Q (x::xs) H2
section
variable {t:TA}
theorem aI:PA X [] tNil:=fun _ _ _ _ H Q I h=>Calls.spliced_nil ⟨[],H,I,.nil,h⟩
theorem ak (ha:PE X e te)(hr:PA X es t)(hs:br (e::es) X.env=(false,dH e X.env)::br es X.env:=by rfl):PA X (e::es) (tCons te t):=by
 intro pos aH s σ H Q I h;rw [hs];show aJ _ _ (spliced ((false,dH e X.env)::fE pos (br es X.env))) _ _ s;refine Calls.spliced_cons (thn (ha aH s σ H _ I h) fun u s1 ⟨x,H1,I1,r1,q1⟩=>?_);exact thn (hr pos aH s1 σ H1 _ I1 q1) fun us s2 ⟨xs,H2,I2,r2,q2⟩=>⟨x::xs,H2,I2,.cons r1 r2,q2⟩
def tTup (t:TA):TE:=fun σ H Q=>t σ H fun xs H1=>xs.length≤aP∧∀ p,H1 p=none→Q (.ref p) (upd H1 p (.tup xs))
def tLst (t:TA):TE:=fun σ H Q=>t σ H fun xs H1=>xs.length≤aP∧∀ p,H1 p=none→Q (.ref p) (upd H1 p (.lst xs))
theorem pe_tup {x1}(h:PA X es t):PE X (.Tuple es x1 pos) (tTup t):=by
 intro aH s σ H Q I hq;refine wpAny_Tuple_spliced (thn (h pos aH s σ H _ I hq) fun us s1 ⟨xs,H1,I1,r,z,q⟩=>⟨by rw [←r.length];exact z,?_⟩);have hf:H1 s1.heap.objs.size=none:=I1.hok.fresh (aA _);refine ⟨.ref s1.heap.objs.size,upd H1 s1.heap.objs.size (.tup xs),I1.laid (t':=s1.toks) (fun b u e=>ar _ e) (aA _) ?_,rfl,q _ hf⟩;exact ⟨z,us,r,⟨_,aU _ rfl,rfl,rfl,_,rfl⟩⟩
theorem jB (h:PA X es t):PE X (.List es pos) (tLst t):=by
 intro aH s σ H Q I hq;refine wpAny_List_spliced (thn (h pos aH s σ H _ I hq) fun us s1 ⟨xs,H1,I1,r,z,q⟩=>⟨by rw [←r.length];exact z,?_⟩);have hf:H1 s1.heap.objs.size=none:=I1.hok.fresh (aA _);refine ⟨.ref s1.heap.objs.size,upd H1 s1.heap.objs.size (.lst xs),I1.laid (t':=s1.toks) (fun b u e=>ar _ e) (aA _) ?_,rfl,q _ hf⟩;exact ⟨z,us,0,r,aU _ rfl⟩
end
abbrev Sp:=List V→Hp→VK→XK→Prop
abbrev CXT:=List Env→Hp→ao→XK→aa→ao→Prop
structure Env0 (P:aN)(w:bp)(K:aq)(mg:Str→Option aa)(base:bz)(A:bL)(outer:List Env)(s:ao)(H:Hp):Prop where
 frames:A.frames=some outer
 mod:Mod K mg base
 bs:∀ b o,base.get? b=some o→s.heap.get? b=some o∧H b=none
 bsz:base.objs.size≤s.heap.objs.size
 funs:s.heap.FunFrames base outer
 frf:∀ b∈frs outer,H b=none
 hok:HOk P w H s.heap
 bare:AllBare s.gens
def CE (outer:List Env)(P:aN)(w:bp)(H:Hp)(s:ao)(Q:VK)(u:aa)(s':ao):Prop :=
 ∃ v H',s'.os=s.os∧AllBare s'.gens∧Un (frs outer) [] H H' s.heap s'.heap∧HOk P w H' s'.heap∧fY v u∧Q v H'
def CR (CX:CXT)(outer:List Env)(P:aN)(w:bp)(H:Hp)(s:ao)(Q:VK)(E:XK)(r:Result)(s':ao):Prop :=
 match r with
 | .ok (.ret u)=>CE outer P w H s Q u s'
 | .ok _=>False
 | .error e=>CX outer H s E e s'
structure cR (P:aN)(w:bp)(K:aq)(mg:Str→Option aa)(base:bz)(CX:CXT)(k:Nat)(f:ai)(fd:bf)(ps:List Str)(sp:Sp):Prop where
 len:∀ vs H Q E,sp vs H Q E→vs.length=ps.length
 run:∀ (A:bL) (outer:List Env) (s:ao) (H:Hp) (args:Args) (us:List aa) (vs:List V) (Q:VK) (E:XK),iA k A→Env0 P w K mg base A outer s H→BindsTo s fd args (ps.zip us)→fN vs us→sp vs H Q E →
  iE (aV P w) A (.call (.ref f) args) (CR CX outer P w H s Q E) s
theorem Env0.make (e:Env0 P w K mg base A outer s H)(C:ai)(us:List aa)(kw:List (Str×aa)) :
  Env0 P w K mg base (A.under (.builtin "type.__call__" ⟨.ref C::us,kw⟩)) outer s H:=⟨by first | exact e.frames | (simpa [bL.under,Code.envs,Code.isFrame,pushEnvs] using e.frames),e.mod,e.bs,e.bsz,e.funs,e.frf,e.hok,e.bare⟩
theorem Inv.env0 (I:Inv X aH σ H s):Env0 X.prog X.w X.K X.mg X.base X.A X.stack s H :=
 ⟨I.ok.frames,I.ok.mod,I.bs,aS I.ok.bsz I.sz,I.stack,I.stkFree,I.hok,I.bare⟩
theorem Inv.after {Q:VK}(I:Inv X aH σ H s)(h:CE X.stack X.prog X.w H s Q u s'):EP X aH σ Q u s':=by
 obtain ⟨v,H',os,bare,un,hok,r,q⟩:=h;obtain ⟨hh,g,d,t,os'⟩:=s';obtain rfl:os'=s.os:=os;exact ⟨v,H',I.call (h':=hh) (g':=g) (d':=d) (t':=t) (ch:=[]) un hok bare (fun b z=>qS z (by simp)),r,q⟩
def tCall (sp:Sp)(dvs:List V)(E:XK)(t:TA):TE:=fun σ H Q=>t σ H fun vs H1=>sp (vs++dvs) H1 Q E
def tMeth (C:ai)(m:Str)(sp:Sp)(dvs:List V)(E:XK)(ta:TE)(t:TA):TE:=fun σ H Q=>ta σ H fun x H1=>∃ a dx fs,x= .ref a∧H1 a=some (.ins C dx fs)∧fs.lookup m=none ∧
 t σ H1 fun vs H2=>sp (x::(vs++dvs)) H2 Q E
def tMake (C:ai)(sp:Sp)(dvs:List V)(E:XK)(t:TA):TE:=fun σ H Q=>t σ H fun vs H1=>∀ x dx,H1 x=none→H1 dx=none→dx≠x →
 sp (.ref x::(vs++dvs)) (upd (upd H1 dx (.own x)) x (.ins C dx [])) (fun v H2=>v= .non∧Q (.ref x) H2) E
def md (K:aq)(fd:bf)(ps:List Str)(ds:List aa):Prop :=
 ∀ (s:ao) (us:List aa),K.In s.heap→(us++ds).length=ps.length→BindsTo s fd ⟨us,[]⟩ (ps.zip (us++ds))
theorem md.all (h:∀ us:List aa,us.length=ps.length→bindArgs fd ⟨us,[]⟩=fj (ps.zip us)):md K fd ps []:=fun s us _ hl=>by
 rw [cK] at hl ⊢;exact .of_eq (h us hl)
def ma (CX:CXT)(X:Cx)(E:XK):Prop:=∀ (aH:List (ai×Obj)) (σ:St) (H:Hp) (s:ao) (e:aa) (s':ao),Inv X aH σ H s→CX X.stack H s E e s'→X.xe e s'
section
variable {CX:CXT}{k:Nat}{sp:Sp}{E:XK}{m:Str}{p:Pos}{o:Expr}{t:TA}
theorem run_fn {Q:VK}{vs:List V}(F:cR X.prog X.w X.K X.mg X.base CX k f fd ps sp)(hr:iA k X.A)(hb:md X.K fd ps ds)(hd:fN dvs ds)(hx:ma CX X E)
  (I:Inv X aH σ H s) (r:fN vs us) (h:sp (vs++dvs) H Q E):aJ (aV X.prog X.w) X.A (jS (.ref f) us) (EP X aH σ Q) X.xe s:=by
 have r2:fN (vs++dvs) (us++ds):=r.append hd;have hl:(us++ds).length=ps.length:=by rw [←r2.length];exact F.len _ _ _ _ h
 refine gF (g9 (F.run X.A X.stack s H ⟨us,[]⟩ (us++ds) (vs++dvs) Q E hr I.env0 (hb s us I.kIn hl) r2 h) fun r s' hq=>?_);cases r with
 | error e=>exact hx aH σ H s e s' I hq
 | ok fl =>
  cases fl with
  | ret u=>exact I.after hq
  | next=>exact cf hq
  | brk=>exact cf hq
  | cont=>exact cf hq
theorem pe_call (F:cR X.prog X.w X.K X.mg X.base CX k f fd ps sp)(hr:iA k X.A)(hg:Gl X x)(hm:X.mg x=some (.ref f))(hk:cW X.K (.ref f)=true)(hb:md X.K fd ps ds)(hd:fN dvs ds)(hx:ma CX X E)
  (ha:PA X (e::es) t) (hdb:(x == ("__debug__" :Str))=false:=by decide) (he:br (e::es) X.env=(false,dH e X.env)::br es X.env:=by rfl) (hpl:(fE pos (br es X.env)).any (·.1)=false:=by rfl) :
  PE X (.Call (.Name x p) (e::es) [] pos) (tCall sp dvs E t):=by
 intro aH s σ H Q I h;refine cY (lW I hg hm ?_ hdb);refine iS (h₀:=X.base) I.ok.mod.kin hk (thn (ha pos aH s σ H _ I h) fun us s1 ⟨vs,H1,I1,r,q⟩=>⟨I1.kIn,?_⟩) he hpl;exact run_fn F hr hb hd hx I1 r q
theorem pe_meth {pl:Sem Bool}(he:PE X o ta)(c:Cls X.K C)(hm:Meth X.K C m f)(F:cR X.prog X.w X.K X.mg X.base CX k f fd ps sp)(hr:iA k X.A)(hb:md X.K fd ps ds)(hd:fN dvs ds)(hx:ma CX X E)(ha:PA X (e::es) t)
  (hst:br (e::es) X.env=(false,dH e X.env)::br es X.env:=by rfl) (hpl:(fE pos (br es X.env)).any (·.1)=false:=by rfl)
  (ht:dH (.Call (.Attribute o m apos) (e::es) [] pos) X.env=(do
   let ov ← dH o X.env
   standAt apos.atName
   let (f,first) ← holding [ov] (getMethod ov m pl)
   callWith pos f first (fE pos (br (e::es) X.env)) (backToKw pos (keywordEach [] X.env))):=by rfl) :
  PE X (.Call (.Attribute o m apos) (e::es) [] pos) (tMeth C m sp dvs E ta t):=by
 intro aH s σ H Q I h;refine PySem.W.methodCall_KW (pl:=pl) (thn (he aH s σ H _ I h) fun u s1 ⟨x,H1,I1,rx,a,dx,fs,ex,ea,l,q⟩=>?_) ht;subst ex;obtain rfl:u=aa.ref a:=rx;refine getmeth_ok I1 ea c hm l ?_;refine iS (first:=[.ref a]) (h₀:=X.base) I.ok.mod.kin hm.kp (thn (ha pos aH s1 σ H1 _ I1 q) fun us s2 ⟨vs,H2,I2,r,q2⟩=>⟨I2.kIn,?_⟩) hst hpl;exact run_fn (us:= .ref a::us) (vs:= .ref a::vs) F hr hb hd hx I2 (.cons rfl r) q2
structure Mk (K:aq)(C f:ai):Prop where
 makes:PySem.W.makesIn K C=true
 init:bU K (.ref C) "__init__" =some (some (.ref f))
 fn:jf K (.ref f)=true
 kp:cW K (.ref C)=true
theorem run_make {Q:VK}{vs:List V}(M:Mk X.K C f)(F:cR X.prog X.w X.K X.mg X.base CX k f fd ps sp)(hr:iA (k+1) X.A)(hb:md X.K fd ps ds)(hd:fN dvs ds)
  (hx:ma CX X E) (I:Inv X aH σ H s) (r:fN vs us)
  (h:∀ x dx,H x=none→H dx=none→dx≠x→sp (.ref x::(vs++dvs)) (upd (upd H dx (.own x)) x (.ins C dx [])) (fun v H2=>v= .non∧Q (.ref x) H2) E) :
  aJ (aV X.prog X.w) X.A (jS (.ref C) us) (EP X aH σ Q) X.xe s:=by
 have hq:=h (s.heap.objs.size+1) s.heap.objs.size (I.hok.fresh (iB _)) (I.hok.fresh (aA _)) (bE (jV _));have I2:=Inv.made (C:=C) I;have r2:fN (V.ref (s.heap.objs.size+1)::(vs++dvs)) (aa.ref (s.heap.objs.size+1)::(us++ds)):= .cons rfl (r.append hd);have hl:(aa.ref (s.heap.objs.size+1)::us++ds).length=ps.length:=by
  have e:=r2.length;rw [F.len _ _ _ _ hq] at e;exact e.symm
 refine gF (make_map (f:=f) I.kIn M.makes M.init (beq_iff_eq.mp M.fn) (g9 (F.run _ X.stack _ _ ⟨aa.ref (s.heap.objs.size+1)::us,[]⟩ (aa.ref (s.heap.objs.size+1)::(us++ds)) _ _ E (hr.make C us [])
  (I2.env0.make C us []) (hb _ (aa.ref (s.heap.objs.size+1)::us) I2.kIn hl) r2 hq) fun r s' hq'=>?_))
 cases r with
 | error e=>exact hx aH σ _ _ e s' I2 hq'
 | ok fl =>
  cases fl with
  | ret u =>
   obtain ⟨v,H',I3,rv,ev,q3⟩:=I2.after hq';subst ev;exact ⟨rv,⟨V.ref (s.heap.objs.size+1),H',I3,rfl,q3⟩⟩
  | next=>exact cf hq'
  | brk=>exact cf hq'
  | cont=>exact cf hq'
theorem pe_make (M:Mk X.K C f)(F:cR X.prog X.w X.K X.mg X.base CX k f fd ps sp)(hr:iA (k+1) X.A)(hg:Gl X x)(hm:X.mg x=some (.ref C))(hb:md X.K fd ps ds)(hd:fN dvs ds)(hx:ma CX X E)
  (ha:PA X (e::es) t) (hdb:(x == ("__debug__" :Str))=false:=by decide) (he:br (e::es) X.env=(false,dH e X.env)::br es X.env:=by rfl) (hpl:(fE pos (br es X.env)).any (·.1)=false:=by rfl) :
  PE X (.Call (.Name x p) (e::es) [] pos) (tMake C sp dvs E t):=by
 intro aH s σ H Q I h;refine cY (lW I hg hm ?_ hdb);refine iS (h₀:=X.base) I.ok.mod.kin M.kp (thn (ha pos aH s σ H _ I h) fun us s1 ⟨vs,H1,I1,r,q⟩=>⟨I1.kIn,?_⟩) he hpl;exact run_make M F hr hb hd hx I1 r q
end
structure cp (N P:List Str)(sc:eO):Prop where
 kind:sc.kind= .function
 co:sc.isCoroutine=false
 gen:sc.isGenerator=false
 nd:N.Nodup
 pre:N.take P.length=P
 par:∀ x∈P,sc.names.lookup x=some .local∨sc.names.lookup x=some .cell
 nofree:∀ y∈sc.names,y.2≠ .free
theorem bindL_out {kindOf:Str→Option cu}{x:Str}:∀ {binds:List (Str×aa)} {m:Str→Option aa},(∀ v,(x,v) ∉ binds)→bindL kindOf binds m x=m x
 | [],_,_=>rfl
 | (n,v)::r,m,h=>by
  unfold bindL;rw [bindL_out fun w hw=>h w (aw _ hw)];split
  ·have:x≠n:=by rintro rfl;exact h v aZ
   simp [this]
  ·rfl
theorem bindC_out {kindOf:Str→Option cu}{x:Str}:∀ {binds:List (Str×aa)} {m:Str→Option aa},(∀ v,(x,v) ∉ binds)→bindC kindOf binds m x=m x
 | [],_,_=>rfl
 | (n,v)::r,m,h=>by
  unfold bindC;rw [bindC_out fun w hw=>h w (aw _ hw)];split
  ·rfl
  ·have:x≠n:=by rintro rfl;exact h v aZ
   simp [this]
theorem bindL_get {kindOf:Str→Option cu}{x:Str}{v:aa}:∀ {P:List Str} {vs:List aa} {i:Nat} {m:Str→Option aa},P.Nodup→P[i]? =some x→vs[i]? =some v→kindOf x=some .local →
  bindL kindOf (P.zip vs) m x=some v
 | [],_,_,_,_,h,_,_=>by simp at h
 | _::_,[],_,_,_,_,h,_=>by simp at h
 | p::P,w::vs,0,m,nd,h1,h2,hk=>by
  simp at h1 h2;subst h1;subst h2;show bindL kindOf ((p,w)::P.zip vs) m p=_;unfold bindL;rw [bindL_out fun v hv=>(bF.mp nd).1 (List.of_mem_zip hv).1,qR hk];simp
 | p::P,w::vs,i+1,m,nd,h1,h2,hk=>by
  show bindL kindOf ((p,w)::P.zip vs) m x=_;unfold bindL;exact bindL_get (i:=i) (bF.mp nd).2 (by simpa using h1) (by simpa using h2) hk
theorem bindC_get {kindOf:Str→Option cu}{x:Str}{v:aa}:∀ {P:List Str} {vs:List aa} {i:Nat} {m:Str→Option aa},P.Nodup→P[i]? =some x→vs[i]? =some v→kindOf x≠some .local →
  bindC kindOf (P.zip vs) m x=some v
 | [],_,_,_,_,h,_,_=>by simp at h
 | _::_,[],_,_,_,_,h,_=>by simp at h
 | p::P,w::vs,0,m,nd,h1,h2,hk=>by
  simp at h1 h2;subst h1;subst h2;show bindC kindOf ((p,w)::P.zip vs) m p=_;unfold bindC;rw [bindC_out fun v hv=>(bF.mp nd).1 (List.of_mem_zip hv).1,qQ hk];simp
 | p::P,w::vs,i+1,m,nd,h1,h2,hk=>by
  show bindC kindOf ((p,w)::P.zip vs) m x=_;unfold bindC;exact bindC_get (i:=i) (bF.mp nd).2 (by simpa using h1) (by simpa using h2) hk
def start (N:List Str)(vs:List V):St:=vs.map some++bC (N.length - vs.length) none
def cxOf (CX:CXT)(P:aN)(w:bp)(K:aq)(mg:Str→Option aa)(base:bz)(N:List Str)(qual:Str)(scope:eO)(f:ai)(cd:aa)(A:bL)(outer:List Env)(s:ao)(H:Hp)(E:XK):Cx where
 prog:=P
 w:=w
 K:=K
 mg:=mg
 base:=base
 A:=A.deeper (envOfC qual scope s.heap.objs.size f cd)
 N:=N
 s₀:=s
 H₀:=H
 env:=envOfC qual scope s.heap.objs.size f cd
 outer:=outer
 stack:=envOfC qual scope s.heap.objs.size f cd::outer
 ex:=[]
 calm:=true
 fn:=fun _=>true
 pn:=[]
 xe:=fun e s'=>aJ (aV P w) (A.deeper (envOfC qual scope s.heap.objs.size f cd)) (leaving (envOfC qual scope s.heap.objs.size f cd) e) (fun _ s''=>CX outer H s E e s'') (fun e' s''=>CX outer H s E e' s'') s'
theorem cell_has {sc:eO}(h:sc.names.lookup x=some .cell):∃ c,(cellsFrom n sc.names []).lookup x=some c:=by
 have q:=PySem.W.cellsFrom_some sc.names n [] (.inl h);exact kR.mp q
theorem inv_start {CX:CXT}{cd:aa}{s1:ao}{E:XK}{vs:List V}
  (S:cp N ps scope) (hd:A.handled=none) (e0:Env0 P w K mg base A outer s H) (hl:vs.length=ps.length) (r:fN vs us)
  (x:InCallC s s.heap.objs.size (bindL (envOfC qual scope s.heap.objs.size f cd).kindOf (ps.zip us) fun _=>none) (cellsFrom (s.heap.objs.size+1) scope.names []) (bindC (envOfC qual scope s.heap.objs.size f cd).kindOf (ps.zip us) fun _=>none) s1) :
  Inv (cxOf CX P w K mg base N qual scope f cd A outer s H E) [] (start N vs) H s1:=by
 have hpl:ps.length≤N.length:=by have:=qW List.length S.pre;rw [bH] at this;lia
 obtain ⟨h1,tk,rfl,hk⟩:=x.done;have noA:∀ b:ai,b ∉ (cxOf CX P w K mg base N qual scope f cd A outer s H E).ex:=fun b z=>qS (show b∈([]:List ai) from z) (by simp)
 refine ⟨⟨e0.mod,S.kind,rfl,rfl,aA _,fun y z c h1 h2=>?_,fun y hy=>?_,fun y c _ h=>?_,fun _=>hd,bL.frames_deeper e0.frames,.inr ⟨rfl,rfl⟩,fun b z=>qS z (noA b),e0.bs,e0.bsz,fun b _ _=>noA b,fun b z=>qS z (noA b),e0.funs,e0.frf⟩,
  rfl,e0.bare,Un.kept hk,⟨_,x.toInCall.ns,fun i y v h1 h2 h3=>?_⟩,fun y c h=>⟨_,x.cell y c h⟩,e0.hok.fresh (aA _),fun y c h=>?_,fun p hp=>qS (show p∈([]:List (ai×Obj)) from hp) (by simp),e0.hok.kept hk,?_⟩
 ·exact name_of_addr x.apart (cg h1) (cg h2)
 ·have hy:scope.names.lookup y=some .cell∨scope.names.lookup y=some .free:=hy
  rcases hy with hy | hy
  ·exact cell_has hy
  ·exact qS rfl (S.nofree _ (cg hy))
 ·exact iL (x.above y c (cg h))
 ·have hi:i<vs.length:=by
   unfold start at h2
   by_cases hi:i<vs.length
   ·exact hi
   ·rw [bO (by simpa using hi)] at h2
    rw [List.getElem?_replicate] at h2;split at h2 <;> cases h2
  have ha:vs[i]? =some v:=by
   unfold start at h2;rw [eP (by simpa using hi),az] at h2;cases e:vs[i]? with
   | none=>rw [e] at h2;cases h2
   | some a=>rw [e] at h2;cases h2;rfl
  obtain ⟨u,hu,rv⟩:=r.get ha;have hp:ps[i]? =some y:=by
   rw [←S.pre,List.getElem?_take_of_lt (by lia)];exact h1
  have ndP:ps.Nodup:=by rw [←S.pre];exact S.nd.sublist (List.take_sublist _ _)
  refine ⟨u,rv,?_⟩
  rcases S.par y (aY hp) with k | k
  ·exact .inl ⟨k,bindL_get ndP hp hu k⟩
  ·obtain ⟨c,e⟩:=cell_has (n:=s.heap.objs.size+1) k
   refine .inr ⟨.inl k,c,e,?_⟩;have q:=x.cell y c e;rw [bindC_get ndP hp hu (by show scope.names.lookup y≠_;rw [k];decide)] at q;exact q
 ·exact e0.hok.fresh (iL (x.above y c (cg h)))
 ·unfold start
  show _=N.length;rw [au,ae,gY];lia
theorem fn_of {CX:CXT}{k:Nat}{body:List cF}{dV kV doc pm cdv ct oc:aa}{an od:Option ai}
  {sp:Sp} (lk:K.lookup f=some ⟨oc,od,.func (dg name qual params body scope dV kV doc pm an cdv ct),osl⟩) (hcd:gc K cdv qual=true) (S:cp N ps scope)
  (len:∀ vs H Q E,sp vs H Q E→vs.length=ps.length)
  (hbody:∀ (A:bL) (outer:List Env) (s:ao) (H:Hp) (vs:List V) (Q:VK) (E:XK),iA k (A.deeper (envOfC qual scope s.heap.objs.size f cdv))→sp vs H Q E →
   ∃ t,PSs (cxOf CX P w K mg base N qual scope f cdv A outer s H E) body t∧t { nx:=fun _ H'=>Q .non H',rt:=Q } (start N vs) H) :
  cR P w K mg base CX (k+1) f (dg name qual params body scope dV kV doc pm an cdv ct) ps sp:=by
 refine ⟨len,fun A outer s H args us vs Q E hr e0 hb r hsp=>?_⟩;have hl:=len _ _ _ _ hsp;have KX:K.In s.heap:=e0.mod.kin.keeps fun b o e=>(e0.bs b o e).1
 have lim:s.heap.NoLimit:=e0.mod.nolimit.keeps fun b o e=>(e0.bs b o e).1
 have mS:∀ y∈ps.zip us,scope.names.lookup y.1=some .local∨(scope.names.lookup y.1=some .cell∧((cellsFrom (s.heap.objs.size+1) scope.names []).lookup y.1).isSome=true):=fun ⟨n,v⟩ hy=>by
  rcases S.par n (List.of_mem_zip hy).1 with q | q
  ·exact .inl q
  ·exact .inr ⟨q,PySem.W.cellsFrom_some _ _ _ (.inl q)⟩
 refine codeAny_call_function hr.depth (KX _ _ lk) rfl S.co S.gen rfl (PySem.W.codeRec_of KX hcd) (hb _ _ _ _ ?_);refine wpAny_newFunctionEnv_cells S.kind mS fun env he s1 x=>?_
 subst he;refine ⟨lim.keeps x.toInCall.keep,codeAny_func ?_⟩;obtain ⟨t,ht,hq⟩:=hbody A outer s H vs Q E (hr.deeper _) hsp;have I:Inv (cxOf CX P w K mg base N qual scope f cdv A outer s H E) [] (start N vs) H s1:=inv_start S hr.hd e0 hl r x;refine bP (ht [] s1 (start N vs) H _ I hq) (fun fl s' hs=>?_) fun e s' hs=>hs
 have fin:∀ {σ':St} {H':Hp} {v:V} {u:aa},Inv (cxOf CX P w K mg base N qual scope f cdv A outer s H E) [] σ' H' s'→fY v u→Q v H'→CE outer P w H s Q u s' :=
  fun {σ' H' v u} J rv q=>⟨v,H',J.os,J.bare,J.base,J.hok,rv,q⟩
 cases fl with
 | ret u =>
  obtain ⟨v,σ',H',J,rv,q⟩:=hs;exact fin J rv q
 | next =>
  obtain ⟨σ',H',J,q⟩:=hs;exact fin (v:=V.non) (u:=aa.none) J rfl q
 | brk =>
  obtain ⟨_,_,_,q⟩:=hs;exact cf q
 | cont =>
  obtain ⟨_,_,_,q⟩:=hs;exact cf q
section
variable {p:Pos}{t:TA}{id T:String}{r:List V→Hp→VK→Prop}
def tCB (r:List V→Hp→VK→Prop)(t:TA):TE:=fun σ H Q=>t σ H fun vs H1=>r vs H1 Q
theorem dO (hc:lJ X (.builtin id) r)(hg:Gl X x)(hm:X.mg x=none)(hv:jT x=some (.builtin id))(ha:PA X (e::es) t)(hn:x ≠ "__name__" := by decide)(hdb:(x == ("__debug__" :Str))=false:=by decide)
  (he:br (e::es) X.env=(false,dH e X.env)::br es X.env:=by rfl) (hpl:(fE pos (br es X.env)).any (·.1)=false:=by rfl):PE X (.Call (.Name x p) (e::es) [] pos) (tCB r t):=by
 intro aH s σ H Q I h;refine cY (mH I hg hm hv ?_ hn hdb);exact PyProof.Rows.callWith_builtin1 (thn (ha pos aH s σ H _ I h) fun us s1 ⟨vs,H1,I1,r1,q1⟩=>hc aH s1 σ H1 vs us Q I1 r1 q1) he hpl
theorem i3 (hc:lJ X (.type T) r)(hg:Gl X x)(hm:X.mg x=none)(hv:jT x=some (.type T))(ha:PA X (e::es) t)(hn:x ≠ "__name__" := by decide)(hdb:(x == ("__debug__" :Str))=false:=by decide)
  (he:br (e::es) X.env=(false,dH e X.env)::br es X.env:=by rfl) (hpl:(fE pos (br es X.env)).any (·.1)=false:=by rfl):PE X (.Call (.Name x p) (e::es) [] pos) (tCB r t):=by
 intro aH s σ H Q I h;refine cY (mH I hg hm hv ?_ hn hdb);exact fb (thn (ha pos aH s σ H _ I h) fun us s1 ⟨vs,H1,I1,r1,q1⟩=>hc aH s1 σ H1 vs us Q I1 r1 q1) he hpl
end
end L2
variable {CW:L2.St→L2.VK→L2.It→L2.Hp→Prop}{CX:L2.CXT}{g:L2.TG}{t:L2.TA}{tt:L2.TT}{wi:L2.TI}
namespace HT
open PySem PyProof.Rows
theorem cat_tup {t b:ai}{ws:List aa}(ht:IsTup s.heap t vs.toArray)(hb:IsTup s.heap b ws.toArray)(hv:vs≠[])
  (h1:ws=[]→Q (.ref t) s) (h2:ws≠[]→Q (.ref s.heap.objs.size) { s with heap:=s.heap.push { cls:= .type "tuple",data:= .seq (vs++ws).toArray } })
  (hsz:vs.length+ws.length≤aP):aJ (aV prog w) A (fM .Add (.ref t) (.ref b)) Q E s:=by
 obtain ⟨⟨cls,dd,data,sl⟩,ho,hc,n,hd⟩:=id ht;obtain ⟨⟨cls2,dd2,data2,sl2⟩,ho2,hc2,n2,hd2⟩:=id hb;simp only at hc hd hc2 hd2;subst hc hd hc2 hd2;have e:vs.toArray++ws.toArray=(vs++ws).toArray:=by simp
 by_cases hw:ws=[]
 ·exact concat_meets ⟨_,ho,rfl⟩ ⟨_,ho2,rfl⟩ noFill_tuple_add seq_tuple_add PySem.F.slot_tuple_add lI (kN _ _)
   (tuple_addW1 t b vs.toArray ws.toArray n n2 dd dd2 sl sl2 (by simpa using hv) (by simp [hw])) ⟨ho,ho2,h1 hw⟩
 ·refine concat_meets ⟨_,ho,rfl⟩ ⟨_,ho2,rfl⟩ noFill_tuple_add seq_tuple_add PySem.F.slot_tuple_add lI (kN _ _)
   (tuple_addW2 t b vs.toArray ws.toArray n n2 dd dd2 sl sl2 (by simpa using hv) (by simpa using hw) (by rw [aD,aD];exact hsz)) ⟨ho,ho2,?_⟩
  rw [e];exact h2 hw
def sIx (n d:Nat):Option Int→Nat
 | none=>d
 | some v=>if v<0 then (v+(n:Int)).toNat else min v.toNat n
theorem sIx_nat (n d k:Nat):sIx n d (some (k:Int))=min k n:=by
 show (if (k:Int)<0 then ((k:Int)+(n:Int)).toNat else min (k:Int).toNat n)=min k n;rw [qQ (by lia),cq]
theorem sIx_le (n d:Nat)(hd:d≤n)(o:Option Int):sIx n d o≤n:=by
 cases o with
 | none=>exact hd
 | some v =>
  show (if v<0 then (v+(n:Int)).toNat else min v.toNat n)≤n
  by_cases hv:v<0
  ·rw [qR hv];lia
  ·rw [qQ hv];exact Nat.min_le_right _ _
theorem clip_eq (v:Int)(n d:Nat):(if v<0 then max (v+(n:Int)) 0 else min v (n:Int))=((sIx n d (some v):Nat):Int):=by
 show (if v<0 then max (v+(n:Int)) 0 else min v (n:Int))=(((if v<0 then (v+(n:Int)).toNat else min v.toNat n):Nat):Int)
 by_cases hv:v<0
 ·simp only [qR hv];lia
 ·simp only [qQ hv];lia
theorem adjust_gen (lo hi:Option Int)(n:Nat):jX lo hi 1 (n:Int)=(((sIx n 0 lo:Nat):Int),((sIx n n hi:Nat):Int)):=by
 have h1:¬ ((1:Int)<0):=by lia
 unfold jX;simp only [h1,if_false];refine Prod.ext ?_ ?_
 ·cases lo with
  | none=>rfl
  | some v=>exact clip_eq v n 0
 ·cases hi with
  | none=>rfl
  | some v=>exact clip_eq v n n
theorem places_gen (i j:Nat):gR (i:Int) (j:Int) 1=j - i:=by
 unfold gR;have h1:(1:Int) > 0:=by lia
 simp only [h1,if_true,Int.ediv_one];split <;> lia
theorem qu {v:aa}{o:Option Int}{Q:Option Int→ao→Prop}(p:IsPart v o)(h:Q o s):aJ (aV prog w) A (cZ.Slice.slicePartIndex v) Q E s:=by
 cases p with
 | none=>exact slicePart_none h
 | int i t=>exact slicePart_int h
theorem sliceApplied_gen {sl:ai}{vl vu:aa}{lo:Option Int}{Q:Int×Int×Nat→ao→Prop}(hs:s.heap.IsSliceOf sl vl vu .none)(pl:IsPart vl lo)(pu:IsPart vu hi)
  (h:Q (((sIx n 0 lo:Nat):Int),1,sIx n n hi - sIx n 0 lo) s):aJ (aV prog w) A (cZ.Slice.sliceApplied (.ref sl) (fj (n:Int))) Q E s:=by
 obtain ⟨os,hos,hcs,hds⟩:=id hs;unfold cZ.Slice.sliceApplied cZ.Slice.sliceFields;refine af (af (cG hos hds (x:=vl) rfl (af (cG hos hds (x:=vu) rfl (af (cG hos hds (x:= .none) rfl (aC ?_)))))));refine af (slicePart_none ?_);show aJ _ _ (if ((1:Int) == 0)=true then _ else _) _ _ s;rw [qQ (by decide)];refine af (qu pl (af (qu pu (af (aC ?_)))));show aJ _ _ (match jX lo hi 1 (n:Int) with | (lo,hi)=>fj (lo,(1:Int),gR lo hi 1)) _ _ s;rw [adjust_gen lo hi n];show aJ _ _ (fj (((sIx n 0 lo:Nat):Int),(1:Int),gR ((sIx n 0 lo:Nat):Int) ((sIx n n hi:Nat):Int) 1)) _ _ s;rw [places_gen];exact aC h
theorem pick_gen (xs:Array aa)(i k:Nat):((aQ k).filterMap fun (m:Nat)=>xs[((i:Int)+(m:Int) * 1).toNat]?).toArray=((xs.toList.drop i).take k).toArray:=by
 have e:(fun (m:Nat)=>xs[((i:Int)+(m:Int) * 1).toNat]?)=fun m=>xs[i+m]? := by
  funext m
  have:((i:Int)+(m:Int) * 1).toNat=i+m:=by lia
  rw [this]
 rw [e];have:=pick_run xs i k;rw [List.filterMap_map] at this;have e2:((fun x=>xs[x]?) ∘ fun x=>i+x)=fun m=>xs[i+m]? := rfl
 rw [e2] at this;rw [this]
theorem getItem_tuple_cut {t sl:ai}{vl vu:aa}{lo:Option Int}(ht:IsTup s.heap t items)(hs:s.heap.IsSliceOf sl vl vu .none)(pl:IsPart vl lo)(pu:IsPart vu hi)
  (hw:¬ (sIx items.size 0 lo=0∧sIx items.size items.size hi=items.size))
  (h:Q (.ref s.heap.objs.size) { s with heap:=s.heap.push { cls:= .type "tuple",data:= .seq ((items.toList.drop (sIx items.size 0 lo)).take (sIx items.size items.size hi - sIx items.size 0 lo)).toArray } })
  (hsz:items.size≤aP):aJ (aV prog w) A (getItem (.ref t) (.ref sl)) Q E s:=by
 have htake:sizeOk (.seq ((items.toList.drop (sIx items.size 0 lo)).take (sIx items.size items.size hi - sIx items.size 0 lo)).toArray):=by
  show ((items.toList.drop (sIx items.size 0 lo)).take (sIx items.size items.size hi - sIx items.size 0 lo)).toArray.size≤aP;rw [aD,bH,cM,df];lia
 have hj:sIx items.size items.size hi≤items.size:=sIx_le _ _ (aA _) hi;obtain ⟨os,hos,hcs,hds⟩:=id hs;have hTs:s.TypeIs (.ref sl) "slice" := ⟨os,hos,hcs⟩;unfold getItem
 try with_reducible refine cI ?_
 first | refine af (aC ?_) | skip
 refine af (wpAny_sequenceKey ht.typeIs (by decide) ?_);refine af (fu (name:=cV "__getitem__") ht.typeIs dh
  (iU dh ht.typeIs entry_tuple_getitem ?_ (args_tuple_getitem _ _)))
 show aJ _ _ (cZ.Tuple.tupleItemsOf (.ref t) >>= _) _ _ s;refine af (tupleItemsOf_ ht ?_);refine af (wpAny_typeOf hTs ?_);rw [qR (by decide)];refine af (sliceApplied_gen hs pl pu ?_);have hno:¬ ((((sIx items.size 0 lo:Nat):Int) == 0 && (1:Int) == 1 && (sIx items.size items.size hi - sIx items.size 0 lo) == items.size)=true):=by
  intro q;rw [cN,cN] at q;have q1:((sIx items.size 0 lo:Nat):Int)=0:=eq_of_beq q.1.1;have q2:sIx items.size items.size hi - sIx items.size 0 lo=items.size:=eq_of_beq q.2;exact hw ⟨by lia,by lia⟩
 show aJ _ _ (if (((sIx items.size 0 lo:Nat):Int) == 0 && (1:Int) == 1 && (sIx items.size items.size hi - sIx items.size 0 lo) == items.size)=true then _ else _) _ _ s;rw [qQ hno,pick_gen]
 first
  | exact af (m:=hV _) (dN (aC ⟨_,rfl,aC h⟩) htake)
  | exact af (m:=hV _) (dN (af (aC (aC ⟨_,rfl,aC h⟩))) htake)
  | exact af (af (m:=hV _) (dN (aC (aC ⟨_,rfl,aC h⟩)) htake))
  | exact af (af (m:=hV _) (dN (aC ⟨_,rfl,aC h⟩) htake))
end HT
namespace L2
open PySem PySem.Spec PyProof.Rows
abbrev TO:=St→Hp→(Option Int→Hp→Prop)→Prop
def PO (X:Cx)(e:Option Expr)(t:TO):Prop :=
 ∀ (aH:List (ai×Obj)) (s:ao) (σ:St) (H:Hp) (Q:Option Int→Hp→Prop),Inv X aH σ H s→t σ H Q →
  aJ (aV X.prog X.w) X.A (evalPart e X.env) (fun u s'=>∃ o H',Inv X aH σ H' s'∧IsPart u o∧Q o H') X.xe s
def tNoPart:TO:=fun _ H Q=>Q none H
def tPart (t:TE):TO:=fun σ H Q=>t σ H fun x H1=>∃ i,x= .int i∧Q (some i) H1
section
variable {lo hi:Option Expr}{tl th:TO}{p2:Pos}
theorem po_none:PO X none tNoPart:=by
 intro aH s σ H Q I h;rw [evalPart_none];exact aC ⟨none,H,I,.none,h⟩
theorem po_some (h:PE X e te):PO X (some e) (tPart te):=by
 intro aH s σ H Q I hw;rw [evalPart_some];refine thn (h aH s σ H _ I hw) fun u s1 ⟨x,H1,I1,r1,q1⟩=>?_
 obtain ⟨i,rfl,q⟩:=q1;obtain ⟨t,rfl⟩:=r1;exact ⟨some i,H1,I1,.int i t,q⟩
def SlR (X:Cx)(r:V→Option Int→Option Int→Hp→VK→Prop):Prop :=
 ∀ (aH:List (ai×Obj)) (s:ao) (σ:St) (H:Hp) (x:V) (v vl vu:aa) (lo hi:Option Int) (sl:ai) (Q:VK),Inv X aH σ H s→fY x v→s.heap.IsSliceOf sl vl vu .none→IsPart vl lo→IsPart vu hi→r x lo hi H Q →
  ∃ T id,typeLookup (.type T) "__getitem__" =fj (some (.builtin id))∧s.TypeIs v T∧aJ (aV X.prog X.w) X.A (getItem v (.ref sl)) (EP X aH σ Q) X.xe s
def tSl (r:V→Option Int→Option Int→Hp→VK→Prop)(te:TE)(tl th:TO):TE:=fun σ H Q=>te σ H fun x H1=>tl σ H1 fun l H2=>th σ H2 fun u H3=>r x l u H3 Q
theorem oT (hr:SlR X r)(he:PE X e te)(hl:PO X lo tl)(hu:PO X hi th):PE X (.Subscript e (.Slice lo hi none p2) pos) (tSl r te tl th):=by
 intro aH s σ H Q I h;refine Subscript_ (thn (he aH s σ H _ I h) fun v s1 ⟨x,H1,I1,r1,q1⟩=>?_);refine wpAny_Slice (thn (hl aH s1 σ H1 _ I1 q1) fun vl s2 ⟨l,H2,I2,pl,q2⟩=>thn (hu aH s2 σ H2 _ I2 q2) fun vu s3 ⟨u,H3,I3,pu,q3⟩=>?_);rw [evalPart_none];refine aC ?_;have I4:Inv X aH σ H3 { s3 with heap:=s3.heap.push { cls:= .type "slice",data:= .fields #[vl,vu,.none] } }:=I3.kept (t':=s3.toks) fun b ob q=>ar _ q
 obtain ⟨T,id,hT,ht,hg⟩:=hr aH { s3 with heap:=s3.heap.push { cls:= .type "slice",data:= .fields #[vl,vu,.none] } } σ H3 x v vl vu l u s3.heap.objs.size Q I4 r1 (bz.IsSliceOf.new ..) pl pu q3;show aJ (aV X.prog X.w) X.A (subscriptTail e (.Slice lo hi none p2) v (.ref s3.heap.objs.size)) (EP X aH σ Q) X.xe { s3 with heap:=s3.heap.push { cls:= .type "slice",data:= .fields #[vl,vu,.none] } };exact tail_any (ops:=[.ref s3.heap.objs.size,v]) ht hT hg (by with_unfolding_all rfl)
def cutV (xs:List V)(lo hi:Option Int):List V:=(xs.drop (HT.sIx xs.length 0 lo)).take (HT.sIx xs.length xs.length hi - HT.sIx xs.length 0 lo)
theorem qd (xs:List V)(lo hi:Option Int):(cutV xs lo hi).length≤xs.length:=by
 unfold cutV;rw [bH,cM];lia
def rSlT (K:aq):V→Option Int→Option Int→Hp→VK→Prop:=fun x lo hi H Q=>∃ a xs,x= .ref a∧SqT K H a xs ∧
 ¬ (HT.sIx xs.length 0 lo=0∧HT.sIx xs.length xs.length hi=xs.length)∧∀ p,H p=none→Q (.ref p) (upd H p (.tup (cutV xs lo hi)))
theorem sl_tup:SlR X (rSlT X.K):=by
 intro aH s σ H x v vl vu lo hi sl Q I rx hs pl pu h;obtain ⟨a,xs,rfl,hx,hw,q⟩:=h;cases rx;obtain ⟨its,r,ht,hz⟩:=I.tuple hx;have hlen:its.toArray.size=xs.length:=by rw [aD];exact r.length.symm
 refine ⟨"tuple",_,dh.lookup,ht.typeIs,?_⟩;refine HT.getItem_tuple_cut ht hs pl pu (by rw [hlen];exact hw) ?_ (by rw [hlen];exact hz);rw [hlen];refine ⟨.ref s.heap.objs.size,_,I.laid (t':=s.toks) (o:= .tup (cutV xs lo hi)) (fun b ob q=>ar _ q) (aA _) ?_,rfl,q _ (I.hok.fresh (aA _))⟩;exact ⟨aS (qd xs lo hi) hz,_,(r.drop (HT.sIx xs.length 0 lo)).take (HT.sIx xs.length xs.length hi - HT.sIx xs.length 0 lo),mJ.new _ _⟩
inductive rCatT (K:aq)(x:V)(y:V)(H:Hp)(Q:VK):Prop
 | mk (a b xs ys:_)(_:x= .ref a)(_:y= .ref b)(_:SqT K H a xs)(_:SqT K H b ys)(_:xs≠[])(_:xs.length+ys.length≤aP)(_:(ys=[]→Q (.ref a) H))(_:(ys≠[]→∀ p,H p=none→Q (.ref p) (upd H p (.tup (xs++ys)))))
theorem fN.nil_iff (r:fN xs us):us=[]↔xs=[]:=by
 cases r with
 | nil=>simp
 | cons _ _=>simp
theorem op_catT:OpR X (fM .Add) (rCatT X.K):=by
 intro aH s σ H x y v u Q I rx ry h;obtain ⟨a,b,xs,ys,rfl,rfl,ha,hb,hx,hz,q1,q2⟩:=h;cases rx;cases ry;obtain ⟨its,r1,p1,_⟩:=I.tuple ha;obtain ⟨its2,r2,p2,_⟩:=I.tuple hb;refine HT.cat_tup p1 p2 (fun z=>hx (r1.nil_iff.mp z)) (fun z=>⟨.ref a,H,I,rfl,q1 (r2.nil_iff.mp z)⟩) (fun z=>?_) (by rw [←r1.length,←r2.length];exact hz);refine ⟨.ref s.heap.objs.size,_,I.laid (t':=s.toks) (o:= .tup (xs++ys)) (fun b ob q=>ar _ q) (aA _) ?_,rfl,q2 (fun w=>z (r2.nil_iff.mpr w)) _ (I.hok.fresh (aA _))⟩;exact ⟨by rw [au];exact hz,_,r1.append r2,mJ.new _ _⟩
end
def ixN (n:Nat)(i:Int):Option Nat:=if 0≤i then (if i<n then some i.toNat else none) else if -(n:Int)≤i then some (i+n).toNat else none
def atI {α:Type}(xs:List α)(i:Int):Option α:=(ixN xs.length i).bind fun j=>xs[j]?
theorem ixN_seq {i:Int}(h:ixN n i=some j):seqIndex? i n=some j∧j<n∧ -(n:Int)≤i∧i<n:=by
 unfold ixN at h
 by_cases h0:0≤i
 ·rw [qR h0] at h
  by_cases h1:i<n
  ·rw [qR h1] at h
   have e:i.toNat=j:=bQ h;exact ⟨by rw [seqIndex_of h0 h1,e],by lia,by lia,h1⟩
  ·rw [qQ h1] at h;cases h
 ·rw [qQ h0] at h
  by_cases h1: -(n:Int)≤i
  ·rw [qR h1] at h
   have e:(i+n).toNat=j:=bQ h;exact ⟨by rw [seqIndex_neg (by lia) h1,e],by lia,h1,by lia⟩
  ·rw [qQ h1] at h;cases h
theorem atI_get {xs:List α}{i:Int}{v:α}(h:atI xs i=some v):∃ j,seqIndex? i xs.length=some j∧xs[j]? =some v∧j<xs.length∧ -(xs.length:Int)≤i∧i<xs.length:=by
 unfold atI at h;cases e:ixN xs.length i with
 | none=>rw [e] at h;cases h
 | some j =>
  rw [e] at h;obtain ⟨h1,h2,h3,h4⟩:=ixN_seq e;exact ⟨j,h1,h,h2,h3,h4⟩
theorem aR {xs:List α}{v:α}(h:xs[j]? =some v):atI xs (j:Int)=some v:=by
 have hj:j<xs.length:=(av.mp h).1;have e:ixN xs.length (j:Int)=some j:=by
  unfold ixN;rw [qR (by lia),qR (by lia)];simp
 unfold atI;rw [e];exact h
def PlainIx (b:Expr):Prop:=∀ o i,subscripted b false o i=operate [o,i] (getItem o i)
def IxR (X:Cx)(r:R2):Prop :=
 ∀ (value slice:Expr) (aH:List (ai×Obj)) (s:ao) (σ:St) (H:Hp) (x y:V) (v u:aa) (Q:VK),Inv X aH σ H s→fY x v→fY y u→r x y H Q →
  subscripted slice false v u=operate [v,u] (getItem v u)→aJ (aV X.prog X.w) X.A (subscriptTail value slice v u) (EP X aH σ Q) X.xe s
def MtR (X:Cx)(id:String)(r:V→List V→Hp→VK→Prop):Prop :=
 ∀ (aH:List (ai×Obj)) (s:ao) (σ:St) (H:Hp) (x:V) (xs:List V) (v:aa) (us:List aa) (Q:VK),Inv X aH σ H s→fY x v→fN xs us→r x xs H Q →
  aJ (aV X.prog X.w) X.A (jS (.builtin id) (v::us)) (EP X aH σ Q) X.xe s
section
variable {a b:Expr}{tb:TE}
theorem fB {r:R2}(hr:IxR X r)(ha:PE X a ta)(hb:PE X b tb)(hs:PlainIx b):PE X (.Subscript a b pos) (tOp r ta tb):=by
 intro aH s σ H Q I h;exact Subscript_ (binT ha hb I h fun v u s2 x y H2 I2 rx ry q=>hr a b aH s2 σ H2 x y v u Q I2 rx ry q (hs _ _))
inductive rIxL (K:aq)(x:V)(y:V)(H:Hp)(Q:VK):Prop
 | mk (p xs i v:_)(_:x= .ref p)(_:y= .int i)(_:SqL K H p xs)(_:atI xs i=some v)(_:Q v H)
inductive rIxT (K:aq)(x:V)(y:V)(H:Hp)(Q:VK):Prop
 | mk (p xs i v:_)(_:x= .ref p)(_:y= .int i)(_:SqT K H p xs)(_:atI xs i=some v)(_:Q v H)
theorem i5:IxR X (rIxL X.K):=by
 intro value slice aH s σ H x y v u Q I rx ry h hs;obtain ⟨p,xs,i,z,rfl,rfl,hq,he,q⟩:=h;cases rx;obtain ⟨t,rfl⟩:=ry;obtain ⟨its,r,pl,hz⟩:=I.list hq;obtain ⟨j,h1,h2,h3,h4,h5⟩:=atI_get he;obtain ⟨w,ew,rw'⟩:=r.get h2;have hl:=r.length;have hn:=line63;have fin:EP X aH σ Q w s:=⟨z,H,I,rw',q⟩
 by_cases h0:0≤i
 ·have hj:i.toNat=j:=by
   rw [seqIndex_of h0 h5] at h1;exact bQ h1
  exact item_listR pl.isList h0 (by lia) (by rw [hj];simpa using ew) fin hs
 ·have hj:(i+(its.toArray.size:Int)).toNat=j:=by
   rw [seqIndex_neg (by lia) h4] at h1;rw [aD,←hl];exact bQ h1
  exact subscriptTail_builtinR (x:=w) pl.isList.typeIs slot_list_getitem.lookup
   (wpAny_getItem_list_neg (Q:=fun r s'=>r=w∧EP X aH σ Q r s') pl.isList (by lia) (by rw [aD] <;> lia) (by lia) (by rw [hj];simpa using ew) ⟨rfl,fin⟩) hs
theorem fm:IxR X (rIxT X.K):=by
 intro value slice aH s σ H x y v u Q I rx ry h hs;obtain ⟨p,xs,i,z,rfl,rfl,hq,he,q⟩:=h;cases rx;obtain ⟨t,rfl⟩:=ry;obtain ⟨its,r,pl,hz⟩:=I.tuple hq;obtain ⟨j,h1,h2,h3,h4,h5⟩:=atI_get he;obtain ⟨w,ew,rw'⟩:=r.get h2;have hl:=r.length;have hn:=line63;have fin:EP X aH σ Q w s:=⟨z,H,I,rw',q⟩;exact subscriptTail_builtinR (x:=w) pl.typeIs slot_tuple_getitem.lookup
  (getItem_tuple (j:=j) (Q:=fun r s'=>r=w∧EP X aH σ Q r s') pl (by lia) (by lia) (by rw [aD,←hl];exact h1) (by simpa using ew) ⟨rfl,fin⟩) hs
theorem mapSeq_set (its:List aa)(n j:Nat)(u:aa):cx (·.setIfInBounds j u) { cls:= .type "list",data:= .seq its.toArray n }={ cls:= .type "list",data:= .seq (its.set j u).toArray n }:=by
 simp [cx]
theorem Inv.lst {p:ai}(I:Inv X aH σ H s)(h:H p=some (.lst xs)) :
  ∃ (its:List aa) (n:Nat),fN xs its∧s.heap.get? p=some { cls:= .type "list",data:= .seq its.toArray n }∧xs.length≤aP:=by
 obtain ⟨z,its,n,r,e⟩:=I.hok p _ h;exact ⟨its,n,r,e,z⟩
theorem Inv.lstUpd {p:ai}{its':List aa}{n':Nat}{f:Obj→Obj}(I:Inv X aH σ H s)(h:H p=some (.lst xs))
  (ho:s.heap.get? p=some { cls:= .type "list",data:= .seq its.toArray n }) (hf:f { cls:= .type "list",data:= .seq its.toArray n }={ cls:= .type "list",data:= .seq its'.toArray n' }) (r:fN ys its') (hz:ys.length≤aP) (t:Nat) :
  Inv X aH σ (upd H p (.lst ys)) { s with heap:=s.heap.update p f,toks:=t }:=by
 have e:(s.heap.update p f).get? p=some { cls:= .type "list",data:= .seq its'.toArray n' }:=by
  rw [eR f ho (by rw [hf] <;> rfl),hf]
 refine I.write (x:=p) (e:=p) (by rw [h];trivial) (.inl rfl) (fun b u hb q=>(cU _ _ (bX hb)).trans q) ⟨_,e⟩ ?_;exact ⟨hz,its',n',r,e⟩
def rSetL:V→V→V→Hp→(Hp→Prop)→Prop:=fun o i v H Q=>∃ p xs k j,o= .ref p∧i= .int k∧H p=some (.lst xs)∧ixN xs.length k=some j∧Q (upd H p (.lst (xs.set j v)))
theorem set_list:PSet X rSetL:=by
 intro aH s σ H o i v ov iv u Q I ro ri rv h;obtain ⟨p,xs,k,j,rfl,rfl,hp,hj,q⟩:=h;cases ro;obtain ⟨t,rfl⟩:=ri;obtain ⟨its,n,r,ho,hz⟩:=I.lst hp;obtain ⟨h1,h2,h3,h4⟩:=ixN_seq hj;have hl:=r.length;have hn:=line63;have I':Inv X aH σ (upd H p (.lst (xs.set j v))) { s with heap:=s.heap.update p (cx (·.setIfInBounds j u)) } :=
  I.lstUpd hp ho (mapSeq_set its n j u) (r.set rv j) (by rw [gP];exact hz) s.toks
 by_cases h0:0≤k
 ·have hk:k.toNat=j:=by
   rw [seqIndex_of h0 h4] at h1;exact bQ h1
  exact PySem.W.ki_setAt ho h0 (by lia) (by rw [aD,←hl];exact h4) (by rw [hk];exact ⟨_,I',q⟩)
 ·have hk:(k+(its.toArray.size:Int)).toNat=j:=by
   rw [seqIndex_neg (by lia) h3] at h1;rw [aD,←hl];exact bQ h1
  exact PySem.W.ki_setBack ho (by lia) (by rw [aD,←hl];exact h3) (by lia) (by rw [hk];exact ⟨_,I',q⟩)
theorem slice_bounds (lo hi:Option Int)(n:Nat):(ky lo hi none n).1=((HT.sIx n 0 lo:Nat):Int)∧(ky lo hi none n).2.1=((HT.sIx n n hi:Nat):Int)∧(ky lo hi none n).2.2=1:=by
 refine ⟨?_,?_,rfl⟩
 ·cases lo with
  | none=>simp [ky,HT.sIx]
  | some i =>
   simp only [ky,HT.sIx,Option.getD_none,show (1:Int) > 0 by decide,if_true]
   by_cases h:i<0
   ·simp only [h,if_true] <;> lia
   ·simp only [h,if_false] <;> lia
 ·cases hi with
  | none=>simp [ky,HT.sIx]
  | some i =>
   simp only [ky,HT.sIx,Option.getD_none,show (1:Int) > 0 by decide,if_true]
   by_cases h:i<0
   ·simp only [h,if_true] <;> lia
   ·simp only [h,if_false] <;> lia
theorem slicePick_cut (its:List aa)(lo hi:Option Int):slicePick its.toArray lo hi none=((its.drop (HT.sIx its.length 0 lo)).take (HT.sIx its.length its.length hi - HT.sIx its.length 0 lo)).toArray:=by
 obtain ⟨h1,h2,h3⟩:=slice_bounds lo hi its.toArray.size;unfold slicePick;rw [h1,h2,h3];simp only [sliceRange_one,pick_run,aD] <;> rfl
def rSlL (K:aq):V→Option Int→Option Int→Hp→VK→Prop:=fun x lo hi H Q=>∃ a xs,x= .ref a∧SqL K H a xs∧∀ p,H p=none→Q (.ref p) (upd H p (.lst (cutV xs lo hi)))
theorem sl_list:SlR X (rSlL X.K):=by
 intro aH s σ H x v vl vu lo hi sl Q I rx hs pl pu h;obtain ⟨a,xs,rfl,hx,q⟩:=h;cases rx;obtain ⟨its,r,ht,hz⟩:=I.list hx;have hlen:=r.length;refine ⟨"list",_,slot_list_getitem.lookup,ht.isList.typeIs,?_⟩;refine wpAny_getItem_list_slice ht.isList hs pl pu .none (by simp) ?_ (by rw [aD] <;> lia);rw [slicePick_cut,←hlen];refine ⟨.ref s.heap.objs.size,_,I.laid (t':=s.toks) (o:= .lst (cutV xs lo hi)) (fun b ob q=>ar _ q) (aA _) ?_,rfl,q _ (I.hok.fresh (aA _))⟩;exact ⟨aS (qd xs lo hi) hz,_,0,(r.drop (HT.sIx xs.length 0 lo)).take (HT.sIx xs.length xs.length hi - HT.sIx xs.length 0 lo),aU _ rfl⟩
def flatV:V→Bool
 | .non=>true
 | .bl _=>true
 | .int _=>true
 | .str _=>true
 | _=>false
def eqV:V→V→Bool
 | .non,.non=>true
 | .bl a,.bl b=>a == b
 | .bl a,.int b=>(if a then 1 else 0) == b
 | .int a,.bl b=>a == (if b then 1 else 0)
 | .int a,.int b=>a == b
 | .str a,.str b=>a == b
 | _,_=>false
theorem jC {x:V}{v:aa}(ry:fY y u)(rx:fY x v)(fy:flatV y=true)(fx:flatV x=true):SeqAt.EqAt A s u v (eqV y x):=by
 cases y with
 | non =>
  cases ry;cases x with
  | non=>cases rx;exact SeqAt.EqAt.same _
  | bl b=>cases rx;exact SeqAt.EqAt.none_bool b
  | int b=>obtain ⟨t,rfl⟩:=rx;exact SeqAt.EqAt.none_int b t
  | str b=>obtain ⟨t,rfl⟩:=rx;exact SeqAt.EqAt.none_str b t
  | _=>exact qS (show false=true from fx) aO
 | bl a =>
  cases ry;cases x with
  | non=>cases rx;exact SeqAt.EqAt.bool_none a
  | bl b=>cases rx;exact SeqAt.EqAt.bool_bool a b
  | int b=>obtain ⟨t,rfl⟩:=rx;exact SeqAt.EqAt.bool_int a b t
  | str b=>obtain ⟨t,rfl⟩:=rx;exact SeqAt.EqAt.bool_str a b t
  | _=>exact qS (show false=true from fx) aO
 | int a =>
  obtain ⟨t',rfl⟩:=ry;cases x with
  | non=>cases rx;exact SeqAt.EqAt.int_none a t'
  | bl b=>cases rx;exact SeqAt.EqAt.int_bool a t' b
  | int b=>obtain ⟨t,rfl⟩:=rx;exact SeqAt.EqAt.int_int a t' b t
  | str b=>obtain ⟨t,rfl⟩:=rx;exact SeqAt.EqAt.int_str a t' b t
  | _=>exact qS (show false=true from fx) aO
 | str a =>
  obtain ⟨t',rfl⟩:=ry;cases x with
  | non=>cases rx;exact SeqAt.EqAt.str_none a t'
  | bl b=>cases rx;exact SeqAt.EqAt.str_bool a t' b
  | int b=>obtain ⟨t,rfl⟩:=rx;exact SeqAt.EqAt.str_int a t' b t
  | str b=>obtain ⟨t,rfl⟩:=rx;exact SeqAt.EqAt.str_str a t' b t
  | _=>exact qS (show false=true from fx) aO
 | _=>exact qS (show false=true from fy) aO
def eqU (x:V)(u:aa):Bool:=match u with
 | .none=>eqV .non x
 | .bool b=>eqV (.bl b) x
 | .int i _=>eqV (.int i) x
 | .str z _=>eqV (.str z) x
 | _=>false
theorem eqU_of {x:V}(r:fY y u)(f:flatV y=true):eqU x u=eqV y x:=by
 cases y with
 | non=>cases r;rfl
 | bl b=>cases r;rfl
 | int i=>obtain ⟨t,rfl⟩:=r;rfl
 | str z=>obtain ⟨t,rfl⟩:=r;rfl
 | _=>exact qS (show false=true from f) aO
theorem qe {x:V}:∀ {xs:List V} {us:List aa},fN xs us→xs.all flatV=true→us.any (eqU x)=xs.any fun y=>eqV y x
 | _,_,.nil,_=>rfl
 | y::xs,u::us,.cons r t,f=>by
  rw [List.all_cons,cN] at f;rw [jW,jW,eqU_of r f.1,qe t f.2]
theorem nI {A:bL}{s:ao}{x:V}{v:aa}(rx:fY x v)(fx:flatV x=true):∀ {xs:List V} {us:List aa},fN xs us→xs.all flatV=true→∀ u∈us,SeqAt.EqAt A s u v (eqU x u)
 | _,_,.nil,_=>fun u hu=>by cases hu
 | y::xs,u::us,.cons r t,f=>fun u' hu=>by
  rw [List.all_cons,cN] at f
  rcases aB.mp hu with rfl | hu
  ·rw [eqU_of r f.1];exact jC r rx f.1 fx
  ·exact nI rx fx t f.2 u' hu
def inV (x:V)(xs:List V):Bool:=xs.any fun y=>eqV y x
inductive rIn (K:aq)(neg:Bool)(x:V)(y:V)(H:Hp)(Q:VK):Prop
 | mk (p xs:_)(_:y= .ref p)(_:(SqL K H p xs∨SqT K H p xs))(_:flatV x=true)(_:xs.all flatV=true)(_:Q (.bl (if neg then !inV x xs else inV x xs)) H)
theorem op_in_seq:OpR X (gm .In) (rIn X.K false):=by
 intro aH s σ H x y v u Q I rx ry h;obtain ⟨p,xs,rfl,hq,fx,fs,q⟩:=h;cases ry
 rcases hq with hq | hq
 ·obtain ⟨its,r,pl,hz⟩:=I.list hq
  refine SeqAt.in_listAt (eqU x) pl.isList (fun w hw=>nI rx fx r fs w (by simpa using hw)) ⟨.bl _,H,I,rfl,?_⟩;rw [show its.toArray.any (eqU x)=its.any (eqU x) by simp,qe r fs];exact q
 ·obtain ⟨its,r,pl,hz⟩:=I.tuple hq
  refine SeqAt.in_tupleAt (eqU x) pl (fun w hw=>nI rx fx r fs w (by simpa using hw)) ⟨.bl _,H,I,rfl,?_⟩;rw [show its.toArray.any (eqU x)=its.any (eqU x) by simp,qe r fs];exact q
theorem op_notIn_seq:OpR X (gm .NotIn) (rIn X.K true):=by
 intro aH s σ H x y v u Q I rx ry h;obtain ⟨p,xs,rfl,hq,fx,fs,q⟩:=h;cases ry
 rcases hq with hq | hq
 ·obtain ⟨its,r,pl,hz⟩:=I.list hq
  refine SeqAt.notIn_listAt (eqU x) pl.isList (fun w hw=>nI rx fx r fs w (by simpa using hw)) ⟨.bl _,H,I,rfl,?_⟩;rw [show its.toArray.any (eqU x)=its.any (eqU x) by simp,qe r fs];exact q
 ·obtain ⟨its,r,pl,hz⟩:=I.tuple hq
  refine SeqAt.notIn_tupleAt (eqU x) pl (fun w hw=>nI rx fx r fs w (by simpa using hw)) ⟨.bl _,H,I,rfl,?_⟩;rw [show its.toArray.any (eqU x)=its.any (eqU x) by simp,qe r fs];exact q
theorem cz:lJ X (.builtin "len") (fun xs H Q=>∃ p ys,xs=[.ref p]∧(SqL X.K H p ys∨SqT X.K H p ys)∧Q (.int ys.length) H):=by
 intro aH s σ H xs us Q I r h;obtain ⟨p,ys,rfl,hq,q⟩:=h;obtain ⟨u,rfl,rx⟩:=vals1 r;cases rx;have hn:=line63
 rcases hq with hq | hq
 ·obtain ⟨its,r',pl,hz⟩:=I.list hq
  have hlen:=r'.length;exact Calls.call_len_list pl.isList (by simp only [aD] <;> lia) ⟨.int ys.length,H,I.tok _,⟨s.toks+1,by rw [aD,hlen]⟩,q⟩
 ·obtain ⟨its,r',pl,hz⟩:=I.tuple hq
  have hlen:=r'.length;exact len_tuple pl (by simp only [aD] <;> lia) ⟨.int ys.length,H,I.tok _,⟨s.toks+1,by rw [aD,hlen]⟩,q⟩
theorem call_tuple_of:lJ X (.type "tuple") (fun xs H Q=>∃ p ys,xs=[.ref p]∧((SqL X.K H p ys∧∀ l,H l=none→Q (.ref l) (upd H l (.tup ys)))∨(SqT X.K H p ys∧Q (.ref p) H))):=by
 intro aH s σ H xs us Q I r h;obtain ⟨p,ys,rfl,h⟩:=h;obtain ⟨u,rfl,rx⟩:=vals1 r;cases rx
 rcases h with ⟨hq,q⟩ | ⟨hq,q⟩
 ·obtain ⟨its,r',pl,hz⟩:=I.list hq
  have hlen:=r'.length;refine call_tuple_list pl.isList (fun h' kp=>?_) (by simp only [aD] <;> lia);have I1:Inv X aH σ H { s with heap:=h' }:=I.kept (t':=s.toks) kp;have I2:Inv X aH σ (upd H h'.objs.size (.tup ys)) { s with heap:=h'.push { cls:= .type "tuple",data:= .seq its.toArray } } :=
   I1.laid (t':=s.toks) (fun b o e=>ar _ e) (aA _) (show i7 X.prog X.w _ _ _ (.tup ys) from ⟨hz,its,r',mJ.new _ _⟩)
  exact ⟨.ref h'.objs.size,_,I2,rfl,q _ (I1.hok.fresh (aA _))⟩
 ·obtain ⟨its,r',pl,hz⟩:=I.tuple hq
  exact call_tuple_same pl ⟨.ref p,H,I,rfl,q⟩
def tyV (K:aq)(T:String)(x:V)(H:Hp):Prop:=match x with
 | .str _=>T = "str"
 | .int _=>T = "int"
 | .ref p=>(T = "list" ∧∃ xs,SqL K H p xs)∨(T = "tuple" ∧∃ o,K.lookup p=some o∧o.cls= .type "tuple" ∧o.dict=none) ∨
   (T = "dict" ∧((∃ kvs,H p=some (.dK kvs))∨∃ kvs,H p=some (.dT kvs)))∨(T = "set" ∧∃ S n,H p=some (.set S n))
 | _=>False
theorem tyV_is {T:String}{x:V}{v:aa}(I:Inv X aH σ H s)(r:fY x v)(ty:tyV X.K T x H) :
  s.TypeIs v T∧∀ a,v= .ref a→∃ ob,s.heap.get? a=some ob∧ob.dict=none:=by
 cases x with
 | str z =>
  obtain ⟨t,rfl⟩:=r;cases (show T = "str" from ty);exact ⟨typeIs_str s z t,fun _ e=>nomatch e⟩
 | int i =>
  obtain ⟨t,rfl⟩:=r;cases (show T = "int" from ty);exact ⟨typeIs_int s i t,fun _ e=>nomatch e⟩
 | ref p =>
  cases r
  rcases ty with ⟨rfl,xs,hq⟩ | ⟨rfl,o,hk,hc,hd⟩ | ⟨rfl,hk⟩ | ⟨rfl,S,n,hk⟩
  ·obtain ⟨its,_,pl,_⟩:=I.list hq
   refine ⟨pl.isList.typeIs,fun a e=>?_⟩;cases e;obtain ⟨o,n,e,c,hd,_⟩:=pl;exact ⟨o,e,hd⟩
  ·refine ⟨⟨o,I.kIn p o hk,hc⟩,fun a e=>?_⟩
   cases e;exact ⟨o,I.kIn _ o hk,hd⟩
  ·have z:∃ o,s.heap.get? p=some o∧o.ExactDict:=by
    rcases hk with ⟨kvs,hk⟩ | ⟨kvs,hk⟩
    ·obtain ⟨_,_,_,_,o,_,_,e,ex,_⟩:=I.hok p _ hk
     exact ⟨o,e,ex⟩
    ·obtain ⟨_,_,_,_,o,_,_,e,ex,_⟩:=I.hok p _ hk
     exact ⟨o,e,ex⟩
   obtain ⟨o,e,ex⟩:=z;refine ⟨⟨o,e,ex.1⟩,fun a e2=>?_⟩;cases e2;exact ⟨o,e,ex.2.1⟩
  ·obtain ⟨o,_,_,_,e,ex,_⟩:=I.hok p _ hk
   refine ⟨⟨o,e,ex.1⟩,fun a e2=>?_⟩;cases e2;exact ⟨o,e,ex.2.1⟩
 | _=>exact cf ty
def tBM0 (K:aq)(T:String)(r:V→List V→Hp→VK→Prop)(to:TE):TE:=fun σ H Q=>to σ H fun x H1=>tyV K T x H1∧r x [] H1 Q
def tBM (K:aq)(T:String)(r:V→List V→Hp→VK→Prop)(to:TE)(t:TA):TE:=fun σ H Q=>to σ H fun x H1=>tyV K T x H1∧t σ H1 fun xs H2=>r x xs H2 Q
variable {o:Expr}{to:TE}{cpos:Pos}{T id:String}{r:V→List V→Hp→VK→Prop}
theorem qG (pa:PlainAttrs T)(slot:Slot T name id)(hty:typeOf (.builtin id)=fj (.type "method_descriptor"))(hm:MtR X id r)(ho:PE X o to)
  (hbase:kr o name X.env (dH o X.env)=dH o X.env:=by rfl) (hline:(apos.endLine == cpos.line)=true:=by rfl):PE X (.Call (.Attribute o name apos) [] [] cpos) (tBM0 X.K T r to):=by
 intro aH s σ H Q I h;refine wpAny_Call_method0_late hbase hline (thn (ho aH s σ H _ I h) fun v s1 ⟨x,H1,I1,r1,ty,q1⟩=>?_);obtain ⟨h1,h2⟩:=tyV_is I1 r1 ty;exact ⟨T,id,pa,slot,hty,h1,h2,Calls.callWith_builtin rfl (PySem.evalArgs_none (hm aH s1 σ H1 x [] v [] Q I1 r1 .nil q1))⟩
theorem oh (pa:PlainAttrs T)(slot:Slot T name id)(hty:typeOf (.builtin id)=fj (.type "method_descriptor"))(hm:MtR X id r)(ho:PE X o to)(ha:PA X (e::es) t)
  (hbase:kr o name X.env (dH o X.env)=dH o X.env:=by rfl)
  (hfew:((fE cpos (br (e::es) X.env)).all (fun x=> !x.1) && (backToKw cpos (keywordEach [] X.env)).all (fun x=>x.1.isSome)
   && decide ((e::es).length+([]:List Keyword).length+(if ([]:List Keyword).isEmpty then 0 else 1)<30))=true:=by rfl)
  (hline:(apos.endLine == cpos.line)=true:=by rfl) (hs:br (e::es) X.env=(false,dH e X.env)::br es X.env:=by rfl) (hplain:(fE cpos (br es X.env)).any (·.1)=false:=by rfl) :
  PE X (.Call (.Attribute o name apos) (e::es) [] cpos) (tBM X.K T r to t):=by
 intro aH s σ H Q I h;refine wpAny_Call_method_late hbase hfew hline rfl (thn (ho aH s σ H _ I h) fun v s1 ⟨x,H1,I1,r1,ty,q1⟩=>?_);obtain ⟨h1,h2⟩:=tyV_is I1 r1 ty;refine ⟨T,id,pa,slot,hty,h1,h2,?_⟩;have hA:=ha cpos aH s1 σ H1 _ I1 q1;rw [hs] at hA ⊢;refine Calls.callWith_builtin (by show (false || (fE cpos (br es X.env)).any (·.1))=false;rw [hplain] <;> rfl) (Calls.evalArgs_plain ?_);exact thn hA fun us s2 ⟨vs,H2,I2,r2,q2⟩=>hm aH s2 σ H2 x vs v us Q I2 r1 r2 q2
end
def MtM (X:Cx)(id:String)(r:V→List V→Hp→VK→Prop):Prop :=
 ∀ (aH:List (ai×Obj)) (s:ao) (σ:St) (H:Hp) (x:V) (xs:List V) (v:aa) (us:List aa) (Q:VK),Inv X aH σ H s→fY x v→fN xs us→r x xs H Q →
  aJ (aV X.prog X.w) X.A (jS (.builtin id) (v::us)) (EP X aH σ Q) X.xe s
theorem fN.one:∀ {x:V} {us:List aa},fN [x] us→∃ u,us=[u]∧fY x u
 | _,_,.cons r .nil=>⟨_,rfl,r⟩
theorem fN.zero:∀ {us:List aa},fN [] us→us=[]
 | _,.nil=>rfl
theorem fN.dropLast (h:fN xs us):fN xs.dropLast us.dropLast:=by
 induction h with
 | nil=>exact .nil
 | cons r t ih =>
  cases t with
  | nil=>exact .nil
  | cons q t'=>exact .cons r ih
theorem fN.rep {xs:List V}{us:List aa}(h:fN xs us):∀ k:Nat,fN (bC k xs).flatten (bC k us).flatten
 | 0=> .nil
 | k+1=>by
  rw [iQ,iQ,List.flatten_cons,List.flatten_cons];exact fN.append h (fN.rep h k)
theorem erase_last (l:List α):l.eraseIdx (l.length - 1)=l.dropLast:=by
 induction l with
 | nil=>rfl
 | cons a r ih =>
  cases r with
  | nil=>rfl
  | cons b r =>
   have e:(a::b::r).length - 1=((b::r).length - 1)+1:=by
    have h1:(a::b::r).length=r.length+2:=rfl;have h2:(b::r).length=r.length+1:=rfl;lia
   rw [e,List.eraseIdx_cons_succ,ih]
   all_goals rfl
theorem foldl_rep (its:List aa):∀ (k:Nat) (acc:List aa),
  List.foldl (fun x1 x2=>x1++x2) acc.toArray (bC k its.toArray)=(acc++(bC k its).flatten).toArray
 | 0,acc=>by simp
 | k+1,acc=>by
  have e:acc.toArray++its.toArray=(acc++its).toArray:=by simp
  have e2:(acc++its)++(bC k its).flatten=acc++(bC (k+1) its).flatten:=by
   rw [iQ,List.flatten_cons,List.append_assoc]
  rw [←e2,←foldl_rep its k (acc++its),←e,iQ,bG]
section
variable {l b:ai}
theorem Inv.lset {its':List aa}{f:Array aa→Array aa}(I:Inv X aH σ H s)(hH:H l=some (.lst xs))
  (e:s.heap.get? l=some { cls:= .type "list",data:= .seq its.toArray n }) (hf:f its.toArray=its'.toArray) (hv:fN ys its') (hz:ys.length≤aP) :
  Inv X aH σ (upd H l (.lst ys)) { s with heap:=s.heap.update l (cx f),toks:=t' }:=by
 have q:=PySem.IsL.update e f;rw [hf] at q;refine I.write (x:=l) (e:=l) (by rw [hH];exact trivial) (.inl rfl) (fun b' u hb hu=>(cU s.heap (cx f) (bX hb)).trans hu) ⟨_,q⟩ ?_;exact ⟨hz,its',_,hv,q⟩
theorem Inv.lnew (I:Inv X aH σ H s)(hv:fN ys its)(hz:ys.length≤aP) :
  Inv X aH σ (upd H s.heap.objs.size (.lst ys)) { s with heap:=s.heap.push { cls:= .type "list",data:= .seq its.toArray },toks:=t' } :=
 I.laid (fun _ _ q=>ar _ q) (aA _) ⟨hz,its,0,hv,aU _ rfl⟩
theorem Inv.fresh (I:Inv X aH σ H s):H s.heap.objs.size=none:=I.hok.fresh (aA _)
theorem Inv.lstM (I:Inv X aH σ H s)(hH:H l=some (.lst xs)):xs.length≤aP∧∃ (its:List aa) (n:Nat),fN xs its∧xs.length=its.length∧s.heap.get? l=some { cls:= .type "list",data:= .seq its.toArray n }:=by
 obtain ⟨z,its,n,r,e⟩:=I.hok l _ hH;exact ⟨z,its,n,r,r.length,e⟩
theorem notLongL (h:n≤aP):ij n=false:=by
 unfold ij;exact qU (by lia)
end
inductive rAppend (x:V)(vs:List V)(H:Hp)(Q:VK):Prop
 | mk (l xs y:_)(_:x= .ref l)(_:vs=[y])(_:H l=some (.lst xs))(_:xs.length<aP)(_:Q .non (upd H l (.lst (xs++[y]))))
theorem i4:MtM X "list.append" rAppend:=by
 intro aH s σ H x vs v us Q I rx rv h;obtain ⟨l,xs,y,rfl,rfl,hH,hz,q⟩:=h;cases rx;obtain ⟨u,rfl,ru⟩:=rv.one;obtain ⟨z,its,n,r,hl,e⟩:=I.lstM hH;refine call_meets F.slot_list_append ⟨_,e,rfl⟩ F.entry_list_append (F.args_list_append_2 _ _) (PySem.list_append l its.toArray n u (by rw [aD];lia)) ⟨e,?_⟩;refine ⟨.non,_,I.lset (its':=its++[u]) hH e (by simp) (r.append (.cons ru .nil)) ?_,rfl,q⟩;rw [au,gX];lia
inductive rExtend (x:V)(vs:List V)(H:Hp)(Q:VK):Prop
 | mk (l b xs zs:_)(_:x= .ref l)(_:vs=[.ref b])(_:H l=some (.lst xs))(_:H b=some (.lst zs))(_:xs.length+zs.length≤aP)(_:Q .non (upd H l (.lst (xs++zs))))
theorem mt_extend:MtM X "list.extend" rExtend:=by
 intro aH s σ H x vs v us Q I rx rv h;obtain ⟨l,b,xs,zs,rfl,rfl,hH,hB,hz,q⟩:=h;cases rx;obtain ⟨u,rfl,ru⟩:=rv.one;cases ru;obtain ⟨z,its,n,r,hl,e⟩:=I.lstM hH;obtain ⟨z2,its2,n2,r2,hl2,e2⟩:=I.lstM hB;have hsz:its.toArray.size+its2.toArray.size≤aP:=by rw [aD,aD];lia
 have hlong:¬ (!its.toArray.isEmpty && ij (its.toArray.size+its2.toArray.size))=true:=by
  rw [notLongL hsz,Bool.and_false];exact aO
 refine call_meets F.slot_list_extend ⟨_,e,rfl⟩ F.entry_list_extend (F.args_list_extend_2 _ _)
  (AutoSeq1.list_extend_list_list_0 l its.toArray n b its2.toArray n2 hlong (by rw [aD];lia) (by lia)) ⟨e,e2,?_⟩
 refine ⟨.non,_,I.lset (its':=its++its2) hH e (by simp) (r.append r2) ?_,rfl,q⟩;rw [au];lia
inductive rPop (x:V)(vs:List V)(H:Hp)(Q:VK):Prop
 | mk (l xs y:_)(_:x= .ref l)(_:vs=[])(_:H l=some (.lst xs))(_:xs[xs.length - 1]? =some y)(_:Q y (upd H l (.lst xs.dropLast)))
theorem qI:MtM X "list.pop" rPop:=by
 intro aH s σ H x vs v us Q I rx rv h;obtain ⟨l,xs,y,rfl,rfl,hH,hy,q⟩:=h;cases rx;have hus:=rv.zero;subst hus;obtain ⟨z,its,n,r,hl,e⟩:=I.lstM hH;obtain ⟨u,hu,ru⟩:=r.get hy;have hy':its.toArray[its.toArray.size - 1]? =some u:=by
  show its.toArray[its.length - 1]? =some u;rw [←Array.getElem?_toList,←hl];exact hu
 refine call_meets F.slot_list_pop ⟨_,e,rfl⟩ F.entry_list_pop (F.args_list_pop_1 _) (MeetsSeq.list_pop_last l its.toArray n u hy' (by rw [aD];lia)) ⟨e,?_⟩;refine ⟨y,_,I.lset (its':=its.dropLast) hH e ?_ r.dropLast ?_,ru,q⟩
 ·show its.toArray.eraseIdxIfInBounds (its.toArray.size - 1)=its.dropLast.toArray
  rw [aD,List.eraseIdxIfInBounds_toArray,erase_last]
 ·rw [List.length_dropLast]
  lia
inductive rCat (x:V)(y:V)(H:Hp)(Q:VK):Prop
 | mk (l b xs zs:_)(_:x= .ref l)(_:y= .ref b)(_:H l=some (.lst xs))(_:H b=some (.lst zs))(_:xs.length+zs.length≤aP)(_:∀ p,H p=none→Q (.ref p) (upd H p (.lst (xs++zs))))
theorem op_cat:OpR X (fM .Add) rCat:=by
 intro aH s σ H x y v u Q I rx ry h;obtain ⟨l,b,xs,zs,rfl,rfl,hH,hB,hz,q⟩:=h;cases rx;cases ry;obtain ⟨z,its,n,r,hl,e⟩:=I.lstM hH;obtain ⟨z2,its2,n2,r2,hl2,e2⟩:=I.lstM hB;refine PySem.P.add_list e e2 ?_ (by rw [aD,aD];lia);have ea:its.toArray++its2.toArray=(its++its2).toArray:=by simp
 rw [ea];exact ⟨.ref _,_,I.lnew (t':=s.toks) (r.append r2) (by rw [au];lia),rfl,q _ I.fresh⟩
inductive rRep (x:V)(y:V)(H:Hp)(Q:VK):Prop
 | mk (l k xs:_)(_:x= .ref l)(_:y= .int k)(_:H l=some (.lst xs))(_: -(2 ^ 63)≤k)(_:k<2 ^ 63)(_:xs.length * k.toNat≤aP)(_:∀ p,H p=none→Q (.ref p) (upd H p (.lst (bC k.toNat xs).flatten)))
theorem len_rep (xs:List α)(k:Nat):(bC k xs).flatten.length=k * xs.length:=by
 induction k with
 | zero=>simp
 | succ k ih=>rw [iQ,List.flatten_cons,au,ih,Nat.succ_mul,Nat.add_comm]
theorem op_rep:OpR X (fM .Mult) rRep:=by
 intro aH s σ H x y v u Q I rx ry h;obtain ⟨l,k,xs,rfl,rfl,hH,h1,h2,hz,q⟩:=h;cases rx;obtain ⟨t,rfl⟩:=ry;obtain ⟨z,its,n,r,hl,e⟩:=I.lstM hH;have hlen:its.toArray.size * k.toNat≤aP:=by rw [aD,←hl];exact hz
 have hcap:¬ its.toArray.size * k.toNat > (2 ^ 63 - 1) / 8:=by
  have:(aP:Nat)≤(2 ^ 63 - 1) / 8:=by decide
  lia
 have hfit:¬ (!Builtin.List.listFitsIndex k)=true:=by
  rw [fitsIndex_both h1 h2];exact aO
 have hlong:¬ ij (its.toArray.size * k.toNat)=true:=by
  rw [notLongL hlen];exact aO
 have hnew:List.foldl (fun x1 x2=>x1++x2) #[] (bC (if its.toArray.isEmpty=true then 0 else k.toNat) its.toArray)=(bC k.toNat its).flatten.toArray:=by
  have f0:∀ m:Nat,List.foldl (fun x1 x2=>x1++x2) #[] (bC m its.toArray)=(bC m its).flatten.toArray:=fun m=>by
   have:=foldl_rep its m [];rw [List.nil_append] at this;exact this
  rw [f0];cases its with
  | nil=>simp
  | cons a r'=>rw [qQ (by simp)]
 refine wpAny_binaryOp_repeat_ref (T := "list") (U := "int") (by decide) ⟨_,e,rfl⟩ (fun s'=>typeIs_int s' k t) noFill_list_mul F.fills_int_mul F.slot_int_rmul repeat_list F.slot_int_index.lookup
  (call_meets F.slot_int_rmul (typeIs_int s k t) F.entry_int_rmul (F.args_int_rmul_2 _ _) (int___rmul___int_list k t l its.toArray n)
   ⟨e,rfl,⟨_,e,rfl⟩,call_meets F.slot_list_mul ⟨_,e,rfl⟩ F.entry_list_mul (F.args_list_mul_2 _ _) (AutoListH.list___mul___list_int_3 l its.toArray n k t hfit hcap hlong) ⟨e,?_⟩⟩)
 rw [hnew];exact ⟨.ref _,_,I.lnew (t':=s.toks) (r.rep k.toNat) (by rw [len_rep,jG];exact hz),rfl,q _ I.fresh⟩
end L2
namespace Att
open PySem PySem.W PySem.Calls PyProof.Rows
theorem pT {P:Params}:∀ (ns:List Int) (vs:List aa),WellAll P h vs (ns.map WData.int)→IntsAre vs ns:=by
 intro ns
 induction ns with
 | nil =>
  intro vs w;rw [List.map_nil] at w;cases w;exact .nil
 | cons n ns ih =>
  intro vs w;rw [bZ] at w;cases w with
  | cons a b =>
   cases a;exact .cons _ _ (ih _ b)
theorem script_of {l:OpenLaw}(hn:l.most=some n){P:Params}{args:List WData}{vals:List aa}
  (hpre:l.row.toRowW.claim.pre args=true) (hwl:WellAll P h vals args) :
  ∃ a vs ns,vals=[aa.ref a]∧args=[WData.list (ns.map WData.int)]∧h.get? a=some { cls:= .type "list",data:= .seq vs.toArray }∧IntsAre vs ns∧ns.length≤n:=by
 have hsh:WShape.hasAll [] args [.list .int]=true:=(pre_splitW hpre).1;have hc:l.pre.holds [] { args:=args }=true:=(pre_splitW hpre).2;obtain ⟨d,r,rfl,h1,h2⟩:=hasAllW_cons hsh;obtain rfl:=hasAllW_nil h2;obtain ⟨xs,rfl,h3⟩:=hasW_list h1;obtain ⟨ns,rfl⟩:=items_int h3;have hlen:ns.length≤n:=by
  unfold OpenLaw.pre at hc;have h4:(WTm.not (.lt (.lit (.int (n:Int))) (.len (.arg 0)))).holds [] { args:=[.list (ns.map .int)] }=true:=by
   have h4:=(holds_andW hc).1;rw [hn] at h4;exact h4
  have h5:=condW_of h4 (w_not (w_lt w_lit (w_len_list (w_arg rfl))));rw [ae] at h5;refine Nat.le_of_not_lt fun q=>?_
  have q':(n:Int)<((ns.length:Nat):Int):=by lia
  first
   | (rw [qT q'] at h5;exact qS h5 (by decide))
   | (simp at h5;lia)
 cases hwl with
 | cons w1 w2 =>
  cases w2;cases w1 with
  | list ho hall=>exact ⟨_,_,ns,rfl,rfl,ho,pT ns _ hall,hlen⟩
theorem post_true (l:OpenLaw)(args:List WData):l.row.toRowW.claim.post args (.bool true) args=true :=
 postW_of (r:=l.row.toRowW) (X:=(true == true))
  (show WShape.has [] (.bool true) .bool=true by first | rfl | decide | simp [WShape.has,WShape.arms,WShape.armsAll])
  (show (WTm.eq .res (.lit (.bool true))).value [] { args:=args,res:=some (.bool true),after:=args }=some (.bool (true == true)) from w_eq_bool (w_res rfl) w_lit) rfl
theorem attach_call {l:OpenLaw}{q:aN}{d:DefRec}
  (hn:l.most=some n) (hdf:d.params.defaults=[])
  (jS:∀ (w:bp) (s₀ s₁:ao) (mg mb:Str→Option aa) (fa:ai) (o:Obj) (pm cd doc:aa) (a:ai) (vs:List aa) (ns:List Int),
   Ground q loose [] XP w s₀ mg mb s₁.heap→YP w s₁.heap →
   s₁.heap.get? fa=some o→o.data= .func (docDef d.name d.params d.body d.scope pm cd doc)→s₁.heap.CodeRec cd d.name→mg d.name=some (.ref fa) →
   s₁.heap.get? a=some { cls:= .type "list",data:= .seq vs.toArray }→IntsAre vs ns→ns.length≤n→s₁.gens= #[] →
   iE (aV l.prog w) callerA (.call (.ref fa) ⟨[.ref a],[]⟩) (fun r s'=>r= .ok (.ret (.bool true))∧OldK s₁.heap s'.heap∧s'.os=s₁.os∧AllBare s'.gens) s₁) :
  WalkO q loose XP YP l.row.toRowW d [] (fun f vs=>PySem.call f vs):=by
 intro w s₀ s₁ mg mb G Y fa o pm cd doc dV kV ho hd hcd hD hmg hg args vals as hpre hlay hrd hwl hlo;obtain rfl:dV= .none:=Dflts.none hD hdf;obtain rfl:kV= .none:=Dflts.noKw hD;obtain ⟨a,vs,ns,rfl,rfl,hobj,hints,hlen⟩:=script_of hn hpre hwl;refine enter_call (g9 (jS w s₀ s₁ mg mb fa o pm cd doc a vs ns G Y ho (fd_plain hd) hcd hmg hobj hints hlen hg) fun r s' hq=>?_);obtain ⟨rfl,h2,h3,h4⟩:=hq;exact ⟨.inl ⟨.bool true,.bool true,[],rfl,fun _=>rfl,.bool true,post_true l _,fun _=>⟨List.Pairwise.nil,fun _ hm=>(nomatch hm)⟩⟩,h2,h3,h4⟩
end Att
namespace L2
open PySem PySem.Spec PyProof.Rows
theorem oY:∀ {vs:List aa} {ns:List Int},IntsAre vs ns→fN (ns.map V.int) vs
 | _,_,.nil=> .nil
 | _,_,.cons n t h=> .cons ⟨t,rfl⟩ (oY h)
abbrev CX0:CXT:=fun _ _ _ _ _ _=>False
abbrev E0:XK:=fun _ _ _=>False
theorem pass0:ma CX0 X E0:=fun _ _ _ _ _ _ _ h=>h.elim
structure Fun (K:aq)(x qual:Str)(st:cF)(f:ai)(fd:bf):Prop where
 ex:∃ (oc:aa) (od:Option ai) (kV doc pm:aa) (an:Option ai) (cdv ct:aa) (osl:Array (Option aa)),
  fd=dg x qual (i6 st) (eX st) (defScope st) .none kV doc pm an cdv ct∧K.lookup f=some ⟨oc,od,.func fd,osl⟩∧gc K cdv qual=true
 kp:cW K (.ref f)=true
theorem Fun.ok {k:Nat}{sp:Sp}(F:Fun K x qual st f fd)(S:cp N ps (defScope st))(len:∀ vs H Q E,sp vs H Q E→vs.length=ps.length)
  (hbody:∀ (cdv:aa) (A:bL) (outer:List Env) (s:ao) (H:Hp) (vs:List V) (Q:VK) (E:XK),iA k (A.deeper (envOfC qual (defScope st) s.heap.objs.size f cdv))→sp vs H Q E →
   ∃ t,PSs (cxOf CX0 P w K mg base N qual (defScope st) f cdv A outer s H E).nox (eX st) t∧t { nx:=fun _ H'=>Q .non H',rt:=Q } (start N vs) H):cR P w K mg base CX0 (k+1) f fd ps sp:=by
 obtain ⟨oc,od,kV,doc,pm,an,cdv,ct,osl,rfl,lk,hcd⟩:=F.ex;refine fn_of lk hcd S len fun A outer s H vs Q E hr hsp=>?_
 obtain ⟨t,h,q⟩:=hbody cdv A outer s H vs Q E hr hsp;exact ⟨t,h.nox,q⟩
theorem Fun.binds (F:Fun K x qual st f fd)
  (h:∀ (kV doc pm:aa) (an:Option ai) (cdv ct:aa) (us:List aa),us.length=ps.length→bindArgs (dg x qual (i6 st) (eX st) (defScope st) .none kV doc pm an cdv ct) ⟨us,[]⟩=fj (ps.zip us)):md K fd ps []:=by
 obtain ⟨oc,od,kV,doc,pm,an,cdv,ct,osl,rfl,lk,hcd⟩:=F.ex;exact .all (h kV doc pm an cdv ct)
theorem nN {oc:aa}{od an:Option ai}{kV doc pm cdv ct:aa}(l:K.lookup f=some ⟨oc,od,.func (dg x qual (i6 st) (eX st) (defScope st) .none kV doc pm an cdv ct),osl⟩)
  (c:gc K cdv qual=true) (k:cW K (.ref f)=true):Fun K x qual st f (dg x qual (i6 st) (eX st) (defScope st) .none kV doc pm an cdv ct):=⟨⟨oc,od,kV,doc,pm,an,cdv,ct,osl,rfl,l,c⟩,k⟩
theorem nj (h:n≤1000):n<aP:=bT h (by decide)
theorem pv (i:Nat)(hN:X.N[i]? =some x:=by rfl)(hv:Vis X.env.scope x:=by first | exact Or.inl rfl | exact Or.inr (Or.inl rfl) | exact Or.inr (Or.inr rfl))(hd:(x == ("__debug__" :Str))=false:=by decide)
  (hcd:(x == ("__classdict__" :Str))=false:=by decide):PE X (.Name x pos) (tVar i):=pe_var hN hv hd hcd
theorem iteF {A B:Prop}(h:B):if false=true then A else B:=by
 rw [qQ aO];exact h
theorem iteT {A B:Prop}(h:A):if true=true then A else B:=by
 rw [qR rfl];exact h
theorem ite2 {c A B:Prop}[Decidable c](h1:c→A)(h2:¬ c→B):if c then A else B:=by
 by_cases h:c
 ·rw [qR h]
  exact h1 h
 ·rw [qQ h]
  exact h2 h
def bJ (H H':Hp):Prop:=∀ b o,H b=some o→H' b=some o
theorem bJ.refl (H:Hp):bJ H H:=fun _ _ h=>h
theorem bJ.trans (a:bJ H H1)(b:bJ H1 H2):bJ H H2:=fun c o h=>b c o (a c o h)
theorem bJ.free (e:bJ H H'){l:ai}(h:H' l=Option.none):H l=Option.none:=by
 cases q:H l with
 | none=>rfl
 | some o =>
  rw [e l o q] at h;cases h
theorem bJ.seq (e:bJ H H')(h:SqL K H a xs):SqL K H' a xs:=by
 rcases h with (h | ⟨o,h⟩) | h
 ·exact .inl (.inl (e _ _ h))
 ·exact .inl (.inr ⟨o,e _ _ h⟩)
 ·exact .inr h
theorem op_fdivB:OpR X (fM .FloorDiv) (rI (fun _ j=>0<j∧j.natAbs.log2<9000) fun i j=> .int (i / j)):=opI fun i j _ _ _ _ _ hc q=>by
 have e:i.fdiv j=i / j:=Int.fdiv_eq_ediv_of_nonneg i (Int.le_of_lt hc.1);refine floordiv_int (by have:=hc.1;lia) ?_ (.inl (PyProof.noPylong_of_log2 hc.2));rw [e];exact q
inductive rCatA (K:aq)(x:V)(y:V)(H:Hp)(Q:VK):Prop
 | mk (a b xs ys:_)(_:x= .ref a)(_:y= .ref b)(_:H a=some (.tup xs))(_:H b=some (.tup ys))(_:xs.length+ys.length≤aP)(_:∀ p H',bJ H H'→H' p=some (.tup (xs++ys))→Q (.ref p) H')
theorem oi:OpR X (fM .Add) (rCatA X.K):=by
 intro aH s σ H x y v u Q I rx ry h;obtain ⟨a,b,xs,ys,rfl,rfl,ha,hb,hz,q⟩:=h;cases xs with
 | cons x xs =>
  refine op_catT aH s σ H (.ref a) (.ref b) v u Q I rx ry ⟨a,b,_,ys,rfl,rfl,SqT.of ha,SqT.of hb,(by simp),hz,fun e=>?_,fun _ p hp=>?_⟩
  ·subst e
   exact q a H (bJ.refl H) (by rw [cK];exact ha)
  ·exact q p _ (fun c o e=>by rw [bc (bw e hp)];exact e) aX
 | nil =>
  cases (show v=aa.ref a from rx);cases (show u=aa.ref b from ry);obtain ⟨its,r1,p1,_⟩:=I.tuple (SqT.of (K:=X.K) ha);obtain ⟨its2,r2,p2,_⟩:=I.tuple (SqT.of (K:=X.K) hb);cases r1;obtain ⟨⟨c1,d1,t1,l1⟩,o1,k1,n1,g1⟩:=id p1;obtain ⟨⟨c2,d2,t2,l2⟩,o2,k2,n2,g2⟩:=id p2;simp only at k1 g1 k2 g2;subst k1 g1 k2 g2;exact concat_meets ⟨_,o1,rfl⟩ ⟨_,o2,rfl⟩ noFill_tuple_add seq_tuple_add PySem.F.slot_tuple_add lI (kN _ _)
   (tuple_addW0 a b _ its2.toArray n1 n2 d1 d2 l1 l2 (by simp)) ⟨o1,o2,⟨.ref b,H,I,rfl,q b H (bJ.refl H) hb⟩⟩
def gk (X:Cx)(scope:eO)(cl:List (Str×ai))(C:ai)(N:List Str)(s:ao)(H:Hp)(ex:List ai):Cx :=
 { X with N:=N,s₀:=s,H₀:=H,env:=compEnvC scope cl C X.env,outer:=X.stack,ex:=ex,fn:=fun _=>false,pn:=[],xe:=fun _ _=>False }
theorem mW (hf:∀ y∈scope.names,y.2= .free→∃ c,env.cells.lookup y.1=some c) :
  ∃ cl,closureFor scope env=fj cl∧(∀ x c,cl.lookup x=some c→env.cells.lookup x=some c)∧∀ y∈scope.names,y.2= .free→cl.lookup y.1=env.cells.lookup y.1:=by
 have aux:∀ (names:List (Str×cu)) (acc:List (Str×ai)),(∀ y∈names,y.2= .free→∃ c,env.cells.lookup y.1=some c)→(∀ x c,acc.lookup x=some c→env.cells.lookup x=some c) →
   ∃ cl,(forIn names acc fun x r=>match x with
     | (name,kind)=>if (kind == cu.free)=true then (cellOf env name >>= fun c=>fj (ForInStep.yield ((name,c)::r))) else fj (ForInStep.yield r):Sem (List (Str×ai)))=fj cl ∧
    (∀ x c,cl.lookup x=some c→env.cells.lookup x=some c)∧(∀ x c,acc.lookup x=some c→cl.lookup x=some c)∧∀ y∈names,y.2= .free→cl.lookup y.1=env.cells.lookup y.1:=by
  intro names
  induction names with
  | nil=>intro acc _ ha;exact ⟨acc,rfl,ha,fun _ _ e=>e,fun y hy=>qS hy (by simp)⟩
  | cons z r ih =>
   intro acc hn ha;obtain ⟨n,k⟩:=z;have hr:∀ y∈r,y.2= .free→∃ c,env.cells.lookup y.1=some c:=fun y hy=>hn y (aw _ hy)
   by_cases hk:k= .free
   ·subst hk
    obtain ⟨c,hc⟩:=hn (n,.free) aZ rfl;have hc:env.cells.lookup n=some c:=hc;have ha':∀ x d,((n,c)::acc).lookup x=some d→env.cells.lookup x=some d:=fun x d e=>by
     rw [de] at e;cases hx:x == n with
     | true =>
      rw [hx] at e;have e':c=d:=bQ e;have ex:x=n:=eq_of_beq hx;rw [ex,←e'];exact hc
     | false=>rw [hx] at e;exact ha x d e
    obtain ⟨cl,e1,e2,e3,e4⟩:=ih ((n,c)::acc) hr ha';have iK:cellOf env n=fj c:=by unfold cellOf;rw [hc]
    refine ⟨cl,?_,e2,fun x d e=>?_,fun y hy hy2=>?_⟩
    ·rw [List.forIn_cons]
     show ((if (cu.free == cu.free)=true then (cellOf env n >>= fun c=>fj (ForInStep.yield ((n,c)::acc))) else fj (ForInStep.yield acc)) >>= _)=_;rw [qR (by decide:(cu.free == cu.free)=true),iK];exact e1
    ·have h1:((n,c)::acc).lookup x=some (if x == n then c else d):=by
      rw [de];cases hx:x == n with
      | true=>rfl
      | false=>exact e
     have h2:=e3 x _ h1;have h3:=e2 x _ h2;have h4:=ha x d e;rw [h3] at h4;rw [h2];exact h4
    ·rcases aB.mp hy with rfl | hy3
     ·have h1:((n,c)::acc).lookup n=some c:=by rw [de,beq_self_eq_true]
      show cl.lookup n=_;rw [e3 n c h1,hc]
     ·exact e4 y hy3 hy2
   ·have hb:(k == cu.free)=false:=by simpa using hk
    obtain ⟨cl,e1,e2,e3,e4⟩:=ih acc hr ha;refine ⟨cl,?_,e2,e3,fun y hy hy2=>?_⟩
    ·rw [List.forIn_cons]
     show ((if (k == cu.free)=true then (cellOf env n >>= fun c=>fj (ForInStep.yield ((n,c)::acc))) else fj (ForInStep.yield acc)) >>= _)=_;rw [hb];exact e1
    ·rcases aB.mp hy with rfl | hy3
     ·exact qS hy2 hk
     ·exact e4 y hy3 hy2
 obtain ⟨cl,e1,e2,_,e4⟩:=aux scope.names [] hf fun x c e=>by cases e
 refine ⟨cl,Eq.trans ?_ e1,e2,e4⟩;unfold closureFor
 first
  | rfl
  | (simp only [bind_pure];done)
  | (simp only [bind_pure];rfl)
  | (simp only [bind_pure]
     congr 1
     funext x r
     obtain ⟨n,k⟩:=x;cases (k == cu.free) <;> rfl)
theorem nY {env:Env}:∀ {names:List (Str×cu)} {x:Str} {k':cu},
  (names.map fun (n,k)=>if (k == cu.free && env.scope.kind == .function && env.kindOf n == some .cell) then (n,cu.cell) else (n,k)).lookup x=some k' →
  names.lookup x=some k'∨(names.lookup x=some .free∧k'= .cell)
 | [],_,_,h=>by simp at h
 | (n,k)::r,x,k',h=>by
  have ih:= @nY env r x k';rw [bZ] at h;show dk x ((n,k)::r)=_∨(dk x ((n,k)::r)=_∧_);rw [de]
  by_cases hq:(k == cu.free && env.scope.kind == .function && env.kindOf n == some .cell)=true
  ·have g:dk x ((if (k == cu.free && env.scope.kind == .function && env.kindOf n == some .cell)=true then (n,cu.cell) else (n,k))::_)=_:=h
   rw [qR hq,de] at g;have hk:k= .free:=by
    rw [cN,cN] at hq;exact eq_of_beq hq.1.1
   cases hx:x == n with
   | true=>rw [hx] at g;rw [hk];exact .inr ⟨rfl,(bQ g).symm⟩
   | false=>rw [hx] at g;exact ih g
  ·have g:dk x ((if (k == cu.free && env.scope.kind == .function && env.kindOf n == some .cell)=true then (n,cu.cell) else (n,k))::_)=_:=h
   rw [qQ hq,de] at g;cases hx:x == n with
   | true=>rw [hx] at g;exact .inl g
   | false=>rw [hx] at g;exact ih g
theorem oz {env:Env}(hk:env.scope.kind= .function){x:Str}(hx:env.kindOf x=some .cell):∀ {names:List (Str×cu)},names.lookup x=some .free →
  (names.map fun (n,k)=>if (k == cu.free && env.scope.kind == .function && env.kindOf n == some .cell) then (n,cu.cell) else (n,k)).lookup x=some .cell
 | [],h=>by simp at h
 | (n,k)::r,h=>by
  have ih:= @oz env hk x hx r;show dk x ((if (k == cu.free && env.scope.kind == .function && env.kindOf n == some .cell)=true then (n,cu.cell) else (n,k))::_)=some cu.cell;rw [de] at h;cases hxn:x == n with
  | true =>
   rw [hxn] at h;have ek:k= .free:=bQ h;have en:x=n:=eq_of_beq hxn;subst ek en;rw [qR (by rw [hk,hx];rfl),de,beq_self_eq_true]
  | false =>
   rw [hxn] at h
   by_cases hq:(k == cu.free && env.scope.kind == .function && env.kindOf n == some .cell)=true
   ·rw [qR hq,de,hxn];exact ih h
   ·rw [qQ hq,de,hxn];exact ih h
def PTs (X:Cx)(ifs:List Expr)(t:TT):Prop :=
 ∀ (aH:List (ai×Obj)) (s:ao) (σ:St) (H:Hp) (Q:Bool→Hp→Prop),Inv X aH σ H s→t σ H Q →
  aJ (aV X.prog X.w) X.A (forIn ifs true fun c r=>if r=true then do let ok ← isTrue c X.env (dH c X.env);fj (ForInStep.yield ok) else fj (ForInStep.yield r)) (TP X aH σ Q) X.xe s
def tNoIf:TT:=fun _ H Q=>Q true H
theorem jo {A B:Hp→Prop}(h:A H):tNoIf σ H fun b H4=>if b=true then A H4 else B H4:=by
 show if true=true then A H else B H;rw [qR rfl];exact h
theorem j8:PTs X [] tNoIf:=fun _ _ _ H _ I h=>wpAny_tests_nil ⟨H,I,h⟩
theorem pL {c:Expr}{t:TT}(h:PT X c t):PTs X [c] t:=fun aH s σ H Q I q=>wpAny_tests_one (h aH s σ H Q I q)
theorem HOk.take (x:HOk P w H h)(hn:H a=none)(new:i7 P w (upd H a o) h a o):HOk P w (upd H a o) h:=fun b u e=>by
 by_cases hb:b=a
 ·subst hb;rw [aX] at e;cases e;exact new
 ·rw [bc hb] at e
  exact (x b u e).stay (fun _ _ _ q=>q) (fun c q=>by rw [bc (bw q hn)];exact q) fun c xs q=>by rw [bc (bw q hn)];exact q
def cX (σ:St)(js:List Nat):St:=js.map fun j=>(σ[j]?).getD none
def CompW (js:List Nat)(tt:TT)(te:TE)(σ:St)(Q:VK)(J:It)(H1:Hp):Prop:=∃ W:Nat→Nat→List V→Hp→Prop,(∃ m,W 0 m [] H1)∧∀ i m ys H2,W i m ys H2 →
 (J.stop i H2∧∀ D,H2 D=none→Q (.ref D) (upd H2 D (.lst ys))) ∨
 (J.go i H2∧ys.length<aP∧∃ N:List V→Hp→Prop,(∀ ys' H',N ys' H'→∃ m',m'<m∧W (i+1) m' ys' H')∧∀ x H3,J.yld i H2 x H3→tt (some x::cX σ js) H3 fun b H4 =>
  if b=true then te (some x::cX σ js) H4 fun y H5=>N (ys++[y]) H5 else N ys H4)
def tComp (wi:TI)(js:List Nat)(tt:TT)(te:TE):TE:=fun σ H Q=>wi σ H fun J H1=>CompW js tt te σ Q J H1
abbrev lobj (us:List aa)(n:Nat):Obj:={ cls:= .type "list",data:= .seq us.toArray n }
abbrev qN (prog:aN)(w:bp)(A:bL)(env:Env)(R:Result→ao→Prop):aa→ao→Prop:=notedBy (aV prog w) A env fun x t=>R (.error x) t
theorem loop_any {it acc:aa}(J:Nat→ao→Prop)
  (step:∀ k t,J k t→aJ (aV prog w) A (pyNext it) (fun r t1=>match r with
   | none=>R (.ok .next) t1
   | some v=>aJ (aV prog w) A (letOwnedTupleGo tg it v) (fun _ t2=>aJ (aV prog w) A (assign tg env v) (fun _ t3 =>
     aJ (aV prog w) A (forIn ifs true fun c b=>if b=true then do let z ← isTrue c env (dH c env);fj (ForInStep.yield z) else fj (ForInStep.yield b)) (fun z t4 =>
      if z=true then aJ (aV prog w) A (dH elt env) (fun y t5=>aJ (aV prog w) A (jS (.builtin "list.append") [acc,y]) (fun _ t6=>∃ m,m<k∧J m t6) (qN prog w A env R) t5) (qN prog w A env R) t4
      else ∃ m,m<k∧J m t4) (qN prog w A env R) t3) (qN prog w A env R) t2) (qN prog w A env R) t1) (qN prog w A env R) t)
  (k:Nat) (h:J k s):iE (aV prog w) A (.compLoop (.ListComp elt [⟨tg,iter,ifs,0⟩] scope pos) 0 it acc env) R s:=by
 refine codeAny_loop rfl J (fun k t hJ=>?_) k h;show aJ _ A ((compTurn (.ListComp elt [⟨tg,iter,ifs,0⟩] scope pos) 0 it acc env).onRaise (fun y=>do noteFrame y env;theTreesLotGoes y)) _ _ t;refine wpAny_noted ?_;rw [compTurn_list];refine af (wpAny_standAt (af (bP (step k t hJ) (fun r t1 q1=>?_) fun _ _ f=>f)));cases r with
 | none=>exact aC q1
 | some v =>
  refine af (bP q1 (fun _ t2 q2=>?_) fun _ _ f=>f);refine af (bP q2 (fun _ t3 q3=>?_) fun _ _ f=>f);refine af (bP q3 (fun z t4 q4=>?_) fun _ _ f=>f);cases z with
  | false=>exact aC ⟨rfl,q4⟩
  | true=>exact af (af (bP q4 (fun y t5 q5=>af (bP q5 (fun _ t6 q6=>aC (aC ⟨rfl,q6⟩)) fun _ _ f=>f)) fun _ _ f=>f))
def qP (n:Nat)(g:TG)(js:List Nat)(tt:TT)(te:TE)(σ:St)(Q:VK)(J:It)(H1:Hp):Prop:=∃ W:Nat→Nat→List V→Hp→Prop,(∃ m,W 0 m [] H1)∧∀ i m ys H2,W i m ys H2 →
 (J.stop i H2∧∀ D,H2 D=none→Q (.ref D) (upd H2 D (.lst ys))) ∨
 (J.go i H2∧ys.length<aP∧∃ N:List V→Hp→Prop,(∀ ys' H',N ys' H'→∃ m',m'<m∧W (i+1) m' ys' H')∧∀ x H3,J.yld i H2 x H3→∀ v0:St,v0.length=n→g x (v0++cX σ js) H3 fun σ4 H4 =>
  (∃ v1:St,v1.length=n∧σ4=v1++cX σ js)∧tt σ4 H4 fun b H5=>if b=true then te σ4 H5 fun y H6=>N (ys++[y]) H6 else N ys H5)
def tCompT (wi:TI)(n:Nat)(g:TG)(js:List Nat)(tt:TT)(te:TE):TE:=fun σ H Q=>wi σ H fun J H1=>qP n g js tt te σ Q J H1
theorem comp_core {Q:VK}{use:Option (aa→Sem Unit)}{R:aa→ao→Prop}{xs:List Str}
  (hc:X.calm=true) (hi:PI X tg iter wi)
  (iK:∀ y∈scope.names,y.2≠ .cell) (mS:scope.kind= .function) (l3:∀ y∈scope.names,y.2= .local→scope.names.lookup y.1=some .local)
  (hfr:∀ y∈scope.names,y.2= .free→X.env.scope.names.lookup y.1=some .cell) (hjs:js.map (fun j=>X.N[j]?)=fr.map some) (hfv:∀ y∈fr,scope.names.lookup y=some .free)
  (hg:∀ cl C s' H' ex,PG (gk X scope cl C (xs++fr) s' H' ex) tg g)
  (hb:∀ cl C s' H' ex,PE (gk X scope cl C (xs++fr) s' H' ex) elt te∧PTs (gk X scope cl C (xs++fr) s' H' ex) ifs tt)
  (hCW:∀ σ Q J H1,CW σ Q J H1→qP xs.length g js tt te σ Q J H1) (I:Inv X aH σ H s) (h:wi σ H fun J H1=>CW σ Q J H1)
  (fin:∀ (s4:ao) (H5:Hp) (D C:ai) (mC:Str→Option aa),s4.heap.Ns C mC→Inv X aH σ H5 s4→H5 C=none→C≠X.env.locals→C ∉ X.fs→(∀ p∈X.pn++aH,p.1≠C)→(∀ y c,X.env.cells.lookup y=some c→c≠C)→X.s₀.heap.objs.size≤C→Q (.ref D) H5→compPost (aV X.prog X.w) X.A X.xe use R (.ref D) C (.ok .next) s4)
  (hs:∀ z,gu iter X.env z=fj z:=by intro _;rfl) :
  aJ (aV X.prog X.w) X.A (comprehension (.ListComp elt [⟨tg,iter,ifs,0⟩] scope pos) scope X.env pos' (newList []) false (dH iter X.env) use) R X.xe s:=by
 have hXk:X.env.scope.kind= .function:=I.ok.kind;obtain ⟨cl,hclos,c1,c2⟩:=mW (scope:=scope) (env:=X.env) fun y hy hk=>I.ok.has _ (.inl (hfr y hy hk))
 refine wpAny_comprehension_free rfl hs hclos mS l3 (thn (hi aH s σ H _ I h) fun xv s1 h1=>thn h1 fun itv s2 h2=>?_);obtain ⟨it,fp,tn,J,H2,rfl,I2,T,st2,f2,hcw⟩:=h2;obtain ⟨W,⟨m0,w0⟩,turn⟩:=hCW _ _ _ _ hcw;refine dN (wpAny_newFunctionEnv iK (by intro y hy;simp at hy) (fun hA nsA sbA=>?_) mS)
 dsimp only at nsA sbA ⊢
 generalize hG:s2.heap.push { cls:= .type "list",dict:=none,data:= .seq ([]:List aa).toArray }=G at nsA sbA ⊢;have hC:G.objs.size=s2.heap.objs.size+1:=by rw [←hG,fc]
 have hDC:s2.heap.objs.size≠G.objs.size:=by rw [hC];exact bE (jV _)
 have small:∀ b o,s2.heap.get? b=some o→b≠G.objs.size∧b≠s2.heap.objs.size:=fun b o e=>⟨by rw [hC];exact bE (ig (aE e)),bE (aE e)⟩
 have old:∀ b o,s2.heap.get? b=some o→hA.get? b=some o:=fun b o e=>sbA.extBut b o (small b o e).1 (ar _ (hG ▸ ar _ e))
 have hDA:hA.get? s2.heap.objs.size=some (lobj [] 0):=sbA.extBut _ _ hDC (ar _ (hG ▸ aU _ rfl));have fpo:∀ b∈fp,∃ o,s2.heap.get? b=some o:=fun b hb=>let ⟨o,e,_⟩:=T.obj _ _ st2 b hb;⟨o,e⟩
 have celo:∀ y c,cl.lookup y=some c→∃ o,s2.heap.get? c=some o:=fun y c e=>let ⟨_,o,ho,_⟩:=I2.cell y c (c1 y c e);⟨o,ho⟩
 have ok':(gk X scope cl G.objs.size (xs++fr) s2 H2 fp).Ok:=by
  refine ⟨I2.ok.mod,mS,I2.ok.glob,I2.ok.blt,?_,fun a b c e1 e2=>I2.ok.inj a b c (c1 a c e1) (c1 b c e2),fun y hy=>?_,fun _ _ z=>qS z (by intro q;cases q),I2.ok.hd,I2.ok.frames,.inl rfl,fun b hb=>?_,I2.bs,aS I2.ok.bsz I2.sz,fun b o e hb=>?_,fun b hb hz=>?_,I2.stack,I2.stkFree⟩
  ·show s2.heap.objs.size≤G.objs.size
   rw [hC];exact iB _
  ·have hy:(relabel scope X.env).names.lookup y=some .cell∨(relabel scope X.env).names.lookup y=some .free:=hy
   have key:scope.names.lookup y=some .free:=by
    rcases hy with hy | hy
    ·rcases nY hy with q | ⟨q,_⟩
     ·exact qS rfl (iK _ (cg q))
     ·exact q
    ·rcases nY hy with q | ⟨q,_⟩
     ·exact q
     ·exact q
   have hm:=cg key;obtain ⟨c,e⟩:=I.ok.has y (.inl (hfr _ hm rfl));exact ⟨c,(c2 _ hm rfl).trans e⟩
  ·obtain ⟨o,e⟩:=fpo b hb
   exact ⟨(small b o e).1,fun y c q=>(f2 b hb).2.2.2.2.1 y c (c1 y c q)⟩
  ·obtain ⟨_,_,_,f3,_⟩:=f2 b hb
   rcases f3 with f3 | f3
   ·exact I2.ok.noex b o e f3
   ·exact qS (aL (aE e) (aS I2.ok.bsz f3)) (eC _)
  ·obtain ⟨_,n1,n2,_⟩:=f2 b hb
   exact (aB.mp (I2.stkSub b hz)).elim n1 n2
 have nofs:s2.heap.objs.size ∉ frs X.stack:=fun hz=>by
  obtain ⟨_,o,ho,_⟩:=I2.stack.mem hz;exact eC _ (aE ho)
 have lenB:(cX σ js).length=fr.length:=by
  have e:=qW List.length hjs;rw [ae,ae] at e;unfold cX;rw [ae];exact e
 have start':∀ t,Inv (gk X scope cl G.objs.size (xs++fr) s2 H2 fp) [(s2.heap.objs.size,lobj [] 0)] ((xs.map fun _=>none)++cX σ js) H2 { s2 with heap:=hA,toks:=t }:=fun t=>by
  refine ⟨ok',rfl,I2.bare,Un.kept old,⟨_,nsA,fun i y v e1 e2 e3=>?_⟩,fun y c e=>?_,I2.hok.fresh (by rw [hC];exact iB _),fun y c e=>I2.freeC y c (c1 y c e),fun p hp=>?_,I2.hok.kept old,?_⟩
  ·by_cases hix:i<xs.length
   ·rw [eP (by rw [ae];exact hix),az,gE hix] at e2
    cases e2
   ·obtain ⟨i,rfl⟩:∃ j,i=xs.length+j:=⟨i - xs.length,by lia⟩
    have e1:(xs++fr)[xs.length+i]? =some y:=e1;have e1:fr[i]? =some y:=by rw [bO (by lia),show xs.length+i - xs.length=i by lia] at e1;exact e1
    have e2:(cX σ js)[i]? =some (some v):=by rw [bO (by rw [ae];lia),ae,show xs.length+i - xs.length=i by lia] at e2;exact e2
    unfold cX at e2;rw [az] at e2;obtain ⟨j,ej,e2⟩:=bq.mp e2;have hN:X.N[j]? =some y:=by
     have q:=qW (fun l=>l[i]?) hjs;simp only [az,ej,e1,fR] at q;exact bQ q
    have hσ:σ[j]? =some (some v):=by
     cases z:σ[j]? with
     | none=>rw [z] at e2;cases e2
     | some w=>rw [z] at e2;exact qW some e2
    have hfree:=hfv y (aY e1);have hm:=cg hfree;have hce:X.env.scope.names.lookup y=some .cell:=hfr _ hm rfl;obtain ⟨m,_,hl⟩:=I2.loc;obtain ⟨u,ru,look⟩:=hl j y v hN hσ (.inr (.inl hce));refine ⟨u,ru,.inr ⟨.inl (oz hXk hce hfree),?_⟩⟩
    rcases look with ⟨k,_⟩ | ⟨_,c,ec,ho⟩
    ·have k:X.env.scope.names.lookup y=some .local:=k
     rw [hce] at k;cases k
    ·obtain ⟨o,ho,hd⟩:=ho
     exact ⟨c,(c2 _ hm rfl).trans ec,o,old c o ho,hd⟩
  ·obtain ⟨v,o,ho,hd⟩:=I2.cell y c (c1 y c e)
   exact ⟨v,o,old c o ho,hd⟩
  ·have hp:p∈[(s2.heap.objs.size,lobj [] 0)]:=hp
   have e:=ax.mp hp;subst e;exact ⟨hDA,I2.hok.fresh (aA _),hDC,nofs,fun v z=>by cases z⟩
  ·show ((xs.map fun _=>none)++cX σ js).length=(xs++fr).length
   rw [au,au,ae,lenB]
 have fok:∀ {us:List aa} {n:Nat} {H':Hp},(∀ b∈fp,H' b=none)→∀ b∈fp,FpOk (gk X scope cl G.objs.size (xs++fr) s2 H2 fp) [(s2.heap.objs.size,lobj us n)] H' b:=fun {us n H'} hn b hb=>by
  obtain ⟨o,e⟩:=fpo b hb;refine ⟨hn b hb,(small b o e).1,fun hz=>(aB.mp (I2.stkSub b hz)).elim (f2 b hb).2.1 (f2 b hb).2.2.1,.inl hb,fun y c q=>(f2 b hb).2.2.2.2.1 y c (c1 y c q),fun p hp=>?_⟩;have hp:p∈[(s2.heap.objs.size,lobj us n)]:=hp;have ep:=ax.mp hp;subst ep;exact fun z=>(small b o e).2 z.symm
 have loop:∀ sB:ao,(∃ t,sB={ s2 with heap:=hA,toks:=t }) →
   iE (aV X.prog X.w) X.A (.compLoop (.ListComp elt [⟨tg,iter,ifs,0⟩] scope pos) 0 (.ref it) (.ref s2.heap.objs.size) (compEnvC scope cl G.objs.size X.env))
    (compPost (aV X.prog X.w) X.A X.xe use R (.ref s2.heap.objs.size) G.objs.size) sB:=by
  rintro sB ⟨t,rfl⟩;refine loop_any (fun k s'=>∃ i ys us n v0 H',v0.length=xs.length∧Inv (gk X scope cl G.objs.size (xs++fr) s2 H2 fp) [(s2.heap.objs.size,lobj us n)] (v0++cX σ js) H' s'∧fN ys us∧ys.length≤aP∧tn i s'.heap∧(∀ b∈fp,H' b=none)∧W i k ys H') ?_ m0
   ⟨0,[],[],0,xs.map fun _=>none,H2,ae ..,start' t,.nil,bD _,T.keep _ _ _ st2 fun b hb o e=>old b o e,fun b hb=>(f2 b hb).1,w0⟩
  rintro k s3 ⟨i,ys,us,n,v0,H3,hv0,I3,rv,hlen,st3,fr3,w3⟩
  rcases turn i k ys H3 w3 with ⟨stop,qn⟩ | ⟨go,hlt,N',hN',step⟩
  ·refine thn (T.done (gk X scope cl G.objs.size (xs++fr) s2 H2 fp) rfl rfl rfl hc i _ s3 _ H3 _ I3 (fok fr3) st3 stop) fun r s4 ⟨hr,I4⟩=>?_
   subst hr;obtain ⟨mC,hnC,_⟩:=id I4.loc;obtain ⟨pD,nD,_,_,_⟩:=I4.pin (s2.heap.objs.size,lobj us n) (by show _∈[]++[_];simp);have pD:s4.heap.get? s2.heap.objs.size=some (lobj us n):=pD;have nD:H3 s2.heap.objs.size=none:=nD;have nC:H3 G.objs.size=none:=I4.free;have D2:∀ b o,s2.heap.get? b=some o→b≠s2.heap.objs.size:=fun b o e=>(small b o e).2
   have base4:Un (frs X.stack) fp H2 H3 s2.heap s4.heap:=I4.base;have u4:Un (frs X.stack) fp H2 (upd H3 s2.heap.objs.size (.lst ys)) s2.heap s4.heap :=
    {keep:=base4.keep
     slot:=base4.slot
     free:=fun b o e nb hx'=>by rw [bc (D2 b o e)];exact base4.free b o e nb hx'
     there:=base4.there
     tups:=fun b xs e=>by have q:=base4.tups b xs e;rw [bc (bw q nD)];exact q
     frzs:=fun b o u e=>by have q:=base4.frzs b o u e;rw [bc (bw q nD)];exact q
     tbls:=fun b ps e=>by obtain ⟨more,q⟩:=base4.tbls b ps e;exact ⟨more,by rw [bc (bw q nD)];exact q⟩ }
   have I5:Inv X aH σ (upd H3 s2.heap.objs.size (.lst ys)) s4:=I2.call' (s':=s4) (ch:=fp) I4.os u4 (I4.hok.take nD ⟨hlen,us,n,rv,pD⟩) I4.bare fun b hb=>by
    obtain ⟨_,g1,_,g3,g4,g5⟩:=f2 b hb;exact ⟨g3,g1,g4,g5⟩
   have locC:G.objs.size≠X.env.locals:=fun z=>by
    obtain ⟨_,⟨o,_,_,ho,_⟩,_⟩:=id I2.loc;exact (small _ o ho).1 z.symm
   have fsC:G.objs.size ∉ X.fs:=fun hz=>by
    obtain ⟨_,o,ho,_⟩:=I2.ok.funs.mem hz;have:=aL (aE ho) I2.sz;rw [hC] at this;exact eC _ (Nat.lt_of_succ_lt this)
   have pinX:∀ p∈X.pn++aH,p.1≠G.objs.size:=fun p hp=>(small _ _ (I2.pin p hp).1).1
   have nCu:(upd H3 s2.heap.objs.size (.lst ys)) G.objs.size=none:=by rw [bc (bX hDC)];exact nC
   refine fin s4 _ _ _ mC hnC I5 nCu locC fsC pinX (fun y c q z=>?_) (aS I2.sz (by rw [hC];exact iB _)) (qn _ nD);obtain ⟨v,o,ho,_⟩:=I2.cell y c q;exact (small c o ho).1 z
  ·refine thn (T.item (gk X scope cl G.objs.size (xs++fr) s2 H2 fp) rfl rfl rfl hc i _ s3 _ H3 _ I3 (fok fr3) st3 go) fun r s4 ⟨u,hr,h4⟩=>?_
   subst hr;refine thn h4 fun _ s5 ⟨v,H5,I5,r5,y5,st5,fr5⟩=>?_
   have I5':=I5.pinned (fok fr5) (T.obj _ _ st5);refine bP (hg cl G.objs.size s2 H2 fp _ s5 _ H5 v u _ I5' r5 (step v H5 y5 v0 hv0)) (fun _ s6 ⟨σ6,H6,I6,⟨w1,hw1,e6⟩,q6⟩=>?_) fun _ _ f=>f.elim
   subst e6;refine bP ((hb cl G.objs.size s2 H2 fp).2 _ s6 _ H6 _ I6 q6) (fun b s7 ⟨H7,I7,q7⟩=>?_) fun _ _ f=>f.elim
   have back:∀ {s8:ao} {H8:Hp},Inv (gk X scope cl G.objs.size (xs++fr) s2 H2 fp) ([(s2.heap.objs.size,lobj us n)]++pinsAt fp s5.heap) (w1++cX σ js) H8 s8→tn (i+1) s8.heap∧∀ b∈fp,H8 b=none:=fun {s8 H8} I8=>by
    refine ⟨T.keep _ _ _ st5 fun b hb o e=>(I8.pin (b,o) (ay _ (ay _ (mq hb e)))).1,fun b hb=>?_⟩;obtain ⟨o,e,_⟩:=T.obj _ _ st5 b hb;exact (I8.pin (b,o) (ay _ (ay _ (mq hb e)))).2.1
   cases b with
   | false =>
    obtain ⟨m',hm,w7⟩:=hN' _ _ q7;obtain ⟨t7,n7⟩:=back I7;exact ⟨m',hm,i+1,ys,us,n,w1,H7,hw1,I7.unpinned,rv,hlen,t7,n7,w7⟩
   | true =>
    refine bP ((hb cl G.objs.size s2 H2 fp).1 _ s7 _ H7 _ I7 q7) (fun y' s8 ⟨y,H8,I8,r8,q8⟩=>?_) fun _ _ f=>f.elim
    obtain ⟨m',hm,w8⟩:=hN' _ _ q8;obtain ⟨t8,n8⟩:=back I8;have I8':=I8.unpinned;obtain ⟨pD,nD,_,_,_⟩:=I8'.pin (s2.heap.objs.size,lobj us n) (by show _∈[]++[_];simp);have pD:s8.heap.get? s2.heap.objs.size=some (lobj us n):=pD;have nD:H8 s2.heap.objs.size=none:=nD;refine append_at pD (fun h9 hs9 e9=>?_) (by rw [aD,←rv.length];exact hlen);have e9:h9.get? s2.heap.objs.size=some (lobj (us++[y']) (n+1)):=by rw [e9];simp [lobj]
    have J0:Inv (gk X scope cl G.objs.size (xs++fr) s2 H2 fp) [] (w1++cX σ js) H8 s8:=I8'.pins_of fun p hp=>qS hp (by simp)
    have J9:Inv (gk X scope cl G.objs.size (xs++fr) s2 H2 fp) [] (w1++cX σ js) H8 { s8 with heap:=h9,toks:=s8.toks } :=
     J0.turned (it:=s2.heap.objs.size) (fun b o hb' e=>hs9.extBut b o hb' e) nD hDC (.inr (aA _)) (fun y0 c q z=>by
      obtain ⟨o,e⟩:=celo y0 c q;exact (small c o e).2 z) fun p hp=>qS (show p∈([]:List (ai×Obj)) from hp) (by simp)
    refine ⟨m',hm,i+1,ys++[y],us++[y'],n+1,w1,H8,hw1,J9.pins_of fun p hp=>?_,rv.append (.cons r8 .nil),(by rw [au,gX];exact hlt),T.keep _ _ _ t8 fun b hb' o e=>hs9.extBut b o (by
     obtain ⟨o',e'⟩:=fpo b hb';exact (small b o' e').2) e,n8,w8⟩
    have ep:=ax.mp hp;subst ep;exact ⟨e9,nD,hDC,nofs,fun v z=>by cases z⟩
 exact codeAny_compStart_list (loop _ ⟨_,rfl⟩) (T.self _ 0 _ _ _ (T.keep _ _ _ st2 fun b hb o e=>old b o e) (loop _ ⟨_,rfl⟩))
theorem pe_compC {xs:List Str}
  (hc:X.calm=true) (hi:PI X tg iter wi)
  (iK:∀ y∈scope.names,y.2≠ .cell) (mS:scope.kind= .function) (l3:∀ y∈scope.names,y.2= .local→scope.names.lookup y.1=some .local)
  (hfr:∀ y∈scope.names,y.2= .free→X.env.scope.names.lookup y.1=some .cell) (hjs:js.map (fun j=>X.N[j]?)=fr.map some) (hfv:∀ y∈fr,scope.names.lookup y=some .free)
  (hg:∀ cl C s' H' ex,PG (gk X scope cl C (xs++fr) s' H' ex) tg g)
  (hb:∀ cl C s' H' ex,PE (gk X scope cl C (xs++fr) s' H' ex) elt te∧PTs (gk X scope cl C (xs++fr) s' H' ex) ifs tt)
  (hCW:∀ σ Q J H1,CW σ Q J H1→qP xs.length g js tt te σ Q J H1) (hs:∀ z,gu iter X.env z=fj z:=by intro _;rfl) :
  PE X (.ListComp elt [⟨tg,iter,ifs,0⟩] scope pos) (fun σ H Q=>wi σ H fun J H1=>CW σ Q J H1):=by
 intro aH s σ H Q I h;rw [eval_ListComp];exact comp_core (use:=none) (R:=EP X aH σ Q) hc hi iK mS l3 hfr hjs hfv hg hb hCW I h (fun s4 H5 D C mC n I5 nC lC fC pC cC sC q=>⟨mC,n,fun h' hsb=>⟨.ref D,H5,I5.turned (t':=s4.toks) (it:=C) (fun b o hb' e=>hsb.extBut b o hb' e) nC lC (.inr sC) cC pC,rfl,q⟩⟩) hs
theorem compW_T {Q:VK}{J:It}(h:CompW js tt te σ Q J H1):qP 1 (om 0) js tt te σ Q J H1:=by
 obtain ⟨W,w0,turn⟩:=h;refine ⟨W,w0,fun i m ys H2 hw=>?_⟩
 rcases turn i m ys H2 hw with h | ⟨h1,h2,N,h3,h4⟩
 ·exact .inl h
 ·refine .inr ⟨h1,h2,N,h3,fun x H3 hy v0 hv=>?_⟩
  obtain ⟨w,rfl⟩:∃ w,v0=[w]:=by
   obtain _ | ⟨w,v0⟩:=v0
   ·cases hv
   ·obtain _ | ⟨z,v0⟩:=v0
    ·exact ⟨w,rfl⟩
    ·cases hv
  exact ⟨⟨[some x],rfl,rfl⟩,h4 x H3 hy⟩
theorem j9 {px:Pos}
  (hc:X.calm=true) (hi:PI X (.Name x px) iter wi)
  (iK:∀ y∈scope.names,y.2≠ .cell) (mS:scope.kind= .function) (l3:∀ y∈scope.names,y.2= .local→scope.names.lookup y.1=some .local) (hx:scope.names.lookup x=some .local)
  (hfr:∀ y∈scope.names,y.2= .free→X.env.scope.names.lookup y.1=some .cell) (hnd:(x::fr).Nodup) (hjs:js.map (fun j=>X.N[j]?)=fr.map some) (hfv:∀ y∈fr,scope.names.lookup y=some .free)
  (hb:∀ cl C s' H' ex,PE (gk X scope cl C (x::fr) s' H' ex) elt te∧PTs (gk X scope cl C (x::fr) s' H' ex) ifs tt)
  (hs:∀ z,gu iter X.env z=fj z:=by intro _;rfl) :
  PE X (.ListComp elt [⟨.Name x px,iter,ifs,0⟩] scope pos) (tComp wi js tt te) :=
 pe_compC (xs:=[x]) (g:=om 0) hc hi iK mS l3 hfr hjs hfv (fun _ _ _ _ _=>og hnd rfl (.inl (d9 hx)) (.inr (d9 hx))) hb (fun _ _ _ _ h=>compW_T h) hs
theorem oV {Q:VK}(Pv:Nat→List V→Hp→Prop)(h0:Pv 0 [] H)(hl:∀ i ys H,i≤xs.length→Pv i ys H→SqT K H a xs∧ys.length≤i)(hz:xs.length≤aP)
  (hs:∀ i x ys H,xs[i]? =some x→Pv i ys H→tt (some x::cX σ js) H fun b H4=>if b=true then te (some x::cX σ js) H4 fun y H5=>Pv (i+1) (ys++[y]) H5 else Pv (i+1) ys H4)
  (hd:∀ ys H,Pv xs.length ys H→∀ D,H D=none→Q (.ref D) (upd H D (.lst ys))):CompW js tt te σ Q (Itt K a) H:=by
 refine ⟨fun i m ys H=>i≤xs.length∧m=xs.length - i∧Pv i ys H,⟨_,bD _,rfl,h0⟩,fun i m ys H2 ⟨hi,hm,hp⟩=>?_⟩;obtain ⟨hq,hy⟩:=hl i ys H2 hi hp
 by_cases e:i=xs.length
 ·subst e
  exact .inl ⟨⟨xs,hq,aA _⟩,hd ys H2 hp⟩
 ·have hlt:i<xs.length:=gN hi e
  refine .inr ⟨⟨xs,_,hq,gE hlt⟩,by lia,Pv (i+1),fun ys' H' hp'=>⟨xs.length - (i+1),by lia,by lia,rfl,hp'⟩,fun x H3 hy3=>?_⟩;obtain ⟨e3,hx⟩:=hy3;subst e3;exact hs i x ys H3 (hx xs hq) hp
theorem nextT_item {j t:ai}{its}{v:aa}(jt:s.heap.IsTupleIter j t i)(tt:s.heap.IsTuple t its)(hv:its[i]? =some v)
  (q:∀ g,g.IsTupleIter j t (i+1)→dm j s.heap g→Q v { s with heap:=g }):aJ (aV prog w) A (cH (.ref j)) Q E s:=by
 obtain ⟨ob,e1,e2,e3⟩:=id jt;obtain ⟨ot,g1,_,k,g2⟩:=tt;unfold cH;refine af (fu (name:=cV "__next__") jt.typeIs iP (iU iP jt.typeIs F.entry_tuple_iterator_next ?_ (F.args_tuple_iterator_next_1 _)));show aJ _ _ (field (.ref j) 0 >>= _) _ _ s;refine af (cG e1 e3 (x:= .ref t) rfl ?_);show aJ _ _ (ite ((aa.ref t == aa.none)=true) _ _) _ _ s;rw [qQ (fun z:(aa.ref t == aa.none)=true=>aO z)];show aJ _ _ (field (.ref j) 1 >>= _) _ _ s;refine af (cG e1 e3 (x:= .int i 0) rfl ?_);show aJ _ _ (seqItems? (.ref t) >>= _) _ _ s;refine af (fq g1 g2 ?_);simp only [cq,hv];refine af (jO e1 e3 (by simp) (aC ⟨v,rfl,aC (q _ ?_ (fS ..))⟩));exact ⟨_,eR _ e1 (jL (fO e3 _)),(Obj.cls_mapFields ..).trans e2,by rw [fO e3];simp [gM]⟩
theorem nextT_end {j t:ai}{its}(hh:A.handled=none)(jt:s.heap.IsTupleIter j t i)(tt:s.heap.IsTuple t its)(hv:its[i]? =none)
  (q:∀ g x,bz.ExtBut j s.heap g→(∃ o,g.get? x=some o∧o.cls= .type "StopIteration")→E (.ref x) { s with heap:=g }):aJ (aV prog w) A (cH (.ref j)) Q E s:=by
 obtain ⟨ob,e1,e2,e3⟩:=id jt;obtain ⟨ot,g1,_,k,g2⟩:=tt;unfold cH;refine af (fu (name:=cV "__next__") jt.typeIs iP (iU iP jt.typeIs F.entry_tuple_iterator_next ?_ (F.args_tuple_iterator_next_1 _)));show aJ _ _ (field (.ref j) 0 >>= _) _ _ s;refine af (cG e1 e3 (x:= .ref t) rfl ?_);show aJ _ _ (ite ((aa.ref t == aa.none)=true) _ _) _ _ s;rw [qQ (fun z:(aa.ref t == aa.none)=true=>aO z)];show aJ _ _ (field (.ref j) 1 >>= _) _ _ s;refine af (cG e1 e3 (x:= .int i 0) rfl ?_);show aJ _ _ (seqItems? (.ref t) >>= _) _ _ s;refine af (fq g1 g2 ?_);simp only [cq,hv];refine af (wpAny_rule (af (jO e1 e3 (by simp) ?_)));show aJ _ _ (newExc (.type "StopIteration") [] >>= _) _ _ _;refine af ?_;simp only [newExc,newTuple];refine af (dN ?_ (by size_fits));refine af (m:=firstArgMember _ _) (wpAny_of_eq (a:=aa.none) (by first | rfl | (unfold firstArgMember;rfl)) ?_);refine dN ?_ (by size_fits);simp only [raiseNew];refine af (wpAny_handled ?_)
 first | rw [show A.in1.handled=none from hh] | rw [hh]
 exact af (aC (wpAny_throw (q _ _ (((fS ..).extBut.push _).push _) ⟨_,aU _ rfl,rfl⟩)))
theorem Inv.turnAll {g:bz}(I:Inv X aH σ H s)(hf:∀ b∈ch,FpOk X aH H b)
  (k:∀ b o,b ∉ ch→s.heap.get? b=some o→g.get? b=some o) (hH:∀ b u,H b=some u→H' b=some u) (hN:∀ b o,s.heap.get? b=some o→H b=none→H' b=none) (hok:HOk X.prog X.w H' g):Inv X aH σ H' { s with heap:=g }:=by
 refine I.step (g':=s.gens) (d':=s.drawn) (t':=s.toks) (ch:=ch) (fun b hb=>?_) (fun b o _ _ hc e _=>k b o hc e) (fun b o _ _ hc e _=>⟨o.slots,k b o hc e⟩) (fun b o _ e n=>hN b o e n)
  (fun b o hc e=>⟨o,k b o hc e⟩) (fun b xs e=>hH b _ e) (fun b o u e=>hH b _ e) (fun b ps e=>⟨#[],by rw [hH b _ e];simp⟩) (fun m hm=>?_) hok I.bare
 ·obtain ⟨_,f1,_,f3,f4,f5⟩:=hf b hb
  exact ⟨f3,f1,f4,f5⟩
 ·obtain ⟨o,es,ep,ho,r⟩:=hm
  exact ⟨o,es,ep,k _ o (fun hb=>(hf _ hb).2.1 rfl) ho,r⟩
theorem bJ.put (e:bJ H H1){p:ai}(h:H1 p=none):bJ H (upd H1 p o):=fun b u q=>by rw [bc (bw (e b u q) h)];exact e b u q
theorem Inv.big (I:Inv X aH σ H s):jA<s.heap.objs.size:=by
 have h:bt<s.heap.objs.size:=(I.mod.glob.keeps I.bk).lt;exact jH (by decide) h
theorem dk_empty (h:bz)(hb:jA<h.objs.size):i7 P w H (h.push { cls:= .type "dict",data:= .dict #[] }) h.objs.size (.dK []) :=
 ⟨bD _,beq_eq_false_iff_ne.mpr (bX (bE hb)),[],.nil,bz.DictOf.new h⟩
def tDNewK:TE:=fun _ H Q=>∀ p,H p=none→Q (.ref p) (upd H p (.dK []))
theorem pe_dnewK:PE X (.Dict [] [] pos) tDNewK:=fun aH s σ H Q I h =>
 wpAny_Dict_empty ⟨.ref s.heap.objs.size,_,I.laid (a:=s.heap.objs.size) (o:= .dK []) (t':=s.toks) (fun _ _ q=>ar _ q) (aA _) (dk_empty s.heap I.big),rfl,h _ (I.hok.fresh (aA _))⟩
theorem PE.imp {t t':TE}(h:PE X e t)(i:∀ σ H Q,t' σ H Q→t σ H Q):PE X e t':=fun aH s σ H Q I q=>h aH s σ H Q I (i σ H Q q)
theorem OpR.imp {f:aa→aa→Sem aa}{r r':R2}(h:OpR X f r)(i:∀ x y H Q,r' x y H Q→r x y H Q):OpR X f r':=fun aH s σ H x y v u Q I rx ry q=>h aH s σ H x y v u Q I rx ry (i x y H Q q)
theorem lJ.imp {f:aa}{r r':List V→Hp→VK→Prop}(h:lJ X f r)(i:∀ xs H Q,r' xs H Q→r xs H Q):lJ X f r':=fun aH s σ H xs us Q I rv q=>h aH s σ H xs us Q I rv (i xs H Q q)
theorem SlR.imp (h:SlR X r)(i:∀ x lo hi H Q,r' x lo hi H Q→r x lo hi H Q):SlR X r':=fun aH s σ H x v vl vu lo hi sl Q I rx hs pl pu q=>h aH s σ H x v vl vu lo hi sl Q I rx hs pl pu (i x lo hi H Q q)
def tACut (t:TA):TA:=fun σ H R=>∃ R':List V→Hp→Prop,(∀ xs H,R' xs H→R xs H)∧t σ H R'
theorem PA.cut (h:PA X es t):PA X es (tACut t):=fun pos aH s σ H Q I ⟨R',i,q⟩ =>
 thn (h pos aH s σ H R' I q) fun us s' ⟨vs,H',I',rv,q'⟩=>⟨vs,H',I',rv,i _ _ q'⟩
def New (H:Hp)(o:HO)(Q:VK):Prop:=∀ p H',bJ H H'→H' p=some o→Q (.ref p) H'
theorem New.of {Q:VK}(h:New H o Q):∀ p,H p=none→Q (.ref p) (upd H p o):=fun p hp=>h p _ (bJ.put (bJ.refl H) hp) aX
def tTupA (t:TA):TE:=fun σ H Q=>t σ H fun xs H1=>xs.length≤aP∧New H1 (.tup xs) Q
def tLstA (t:TA):TE:=fun σ H Q=>t σ H fun xs H1=>xs.length≤aP∧New H1 (.lst xs) Q
theorem dU {x1}(h:PA X es t):PE X (.Tuple es x1 pos) (tTupA t):=(pe_tup h.cut).imp fun _ _ _ q=>⟨_,fun _ _ z=>⟨z.1,z.2.of⟩,q⟩
theorem pe_lstA (h:PA X es t):PE X (.List es pos) (tLstA t):=(jB h.cut).imp fun _ _ _ q=>⟨_,fun _ _ z=>⟨z.1,z.2.of⟩,q⟩
theorem op_catL:OpR X (fM .Add) (fun x y H Q=>∃ l b xs zs,x= .ref l∧y= .ref b∧H l=some (.lst xs)∧H b=some (.lst zs)∧xs.length+zs.length≤aP∧New H (.lst (xs++zs)) Q) :=
 op_cat.imp fun _ _ _ _ ⟨l,b,xs,zs,e1,e2,e3,e4,e5,q⟩=>⟨l,b,xs,zs,e1,e2,e3,e4,e5,q.of⟩
inductive Dt where
 | non | bl (b:Bool) | int (i:Int) | str (x:Str) | tup (ds:List Dt) | oth (T:String)
mutual
inductive IsD (H:Hp):V→Dt→Prop where
 | non:IsD H .non .non
 | bl (b:Bool):IsD H (.bl b) (.bl b)
 | int (i:Int):IsD H (.int i) (.int i)
 | str (x:Str):IsD H (.str x) (.str x)
 | tup {a:ai} {xs:List V} {ds:List Dt} (h:H a=some (.tup xs)) (r:dM H xs ds):IsD H (.ref a) (.tup ds)
 | lst {a:ai} {xs:List V} (h:H a=some (.lst xs)):IsD H (.ref a) (.oth "list")
 | dct {a:ai} {kvs:List (Key×V)} (h:H a=some (.dK kvs)):IsD H (.ref a) (.oth "dict")
inductive dM (H:Hp):List V→List Dt→Prop where
 | nil:dM H [] []
 | cons {x:V} {d:Dt} {xs:List V} {ds:List Dt} (h:IsD H x d) (r:dM H xs ds):dM H (x::xs) (d::ds)
end
mutual
theorem IsD.same {H H':Hp}(e:bJ H H'):∀ {v:V} {d:Dt},IsD H v d→IsD H' v d
 | _,_,.non=> .non
 | _,_,.bl b=> .bl b
 | _,_,.int i=> .int i
 | _,_,.str x=> .str x
 | _,_,.tup h r=> .tup (e _ _ h) (dM.same e r)
 | _,_,.lst h=> .lst (e _ _ h)
 | _,_,.dct h=> .dct (e _ _ h)
theorem dM.same {H H':Hp}(e:bJ H H'):∀ {vs:List V} {ds:List Dt},dM H vs ds→dM H' vs ds
 | _,_,.nil=> .nil
 | _,_,.cons h r=> .cons (IsD.same e h) (dM.same e r)
end
mutual
theorem IsD.inj {H:Hp}:∀ {v:V} {d e:Dt},IsD H v d→IsD H v e→d=e
 | _,_,_,.non,.non=>rfl
 | _,_,_,.bl _,.bl _=>rfl
 | _,_,_,.int _,.int _=>rfl
 | _,_,_,.str _,.str _=>rfl
 | _,_,_,.tup h r,q=>by
  cases q with
  | tup h' r'=>rw [h] at h';cases h';rw [dM.inj r r']
  | lst h'=>rw [h] at h';cases h'
  | dct h'=>rw [h] at h';cases h'
 | _,_,_,.lst h,q=>by
  cases q with
  | tup h' r'=>rw [h] at h';cases h'
  | lst h'=>rfl
  | dct h'=>rw [h] at h';cases h'
 | _,_,_,.dct h,q=>by
  cases q with
  | tup h' r'=>rw [h] at h';cases h'
  | lst h'=>rw [h] at h';cases h'
  | dct h'=>rfl
theorem dM.inj {H:Hp}:∀ {vs:List V} {ds es:List Dt},dM H vs ds→dM H vs es→ds=es
 | _,_,_,.nil,.nil=>rfl
 | _,_,_,.cons h r,.cons h' r'=>by rw [IsD.inj h h',dM.inj r r']
end
theorem dM.length:∀ {xs:List V} {ds:List Dt},dM H xs ds→xs.length=ds.length
 | _,_,.nil=>rfl
 | _,_,.cons _ r=>by rw [aM,aM,dM.length r]
theorem dM.get:∀ {xs:List V} {ds:List Dt} {i:Nat} {x:V},dM H xs ds→xs[i]? =some x→∃ d,ds[i]? =some d∧IsD H x d
 | _,_,_,_,.nil,e=>by simp at e
 | _,_,0,_,.cons h _,e=>by simp at e;subst e;exact ⟨_,rfl,h⟩
 | _,_,i+1,x,.cons _ r,e=>by
  obtain ⟨d,h1,h2⟩:=dM.get (i:=i) (x:=x) r (by simpa using e);exact ⟨d,by simpa using h1,h2⟩
theorem dM.at:∀ {xs:List V} {ds:List Dt} {i:Nat} {d:Dt},dM H xs ds→ds[i]? =some d→∃ x,xs[i]? =some x∧IsD H x d
 | _,_,_,_,.nil,e=>by simp at e
 | _,_,0,_,.cons h _,e=>by simp at e;subst e;exact ⟨_,rfl,h⟩
 | _,_,i+1,d,.cons _ r,e=>by
  obtain ⟨x,h1,h2⟩:=dM.at (i:=i) (d:=d) r (by simpa using e);exact ⟨x,by simpa using h1,h2⟩
theorem dM.append:∀ {xs ys:List V} {ds es:List Dt},dM H xs ds→dM H ys es→dM H (xs++ys) (ds++es)
 | _,_,_,_,.nil,s=>s
 | _,_,_,_,.cons h r,s=> .cons h (dM.append r s)
theorem dM.ints:∀ (ns:List Int),dM H (ns.map V.int) (ns.map Dt.int)
 | []=> .nil
 | n::r=> .cons (.int n) (dM.ints r)
theorem dM.ints_of:∀ {xs:List V} {ns:List Int},dM H xs (ns.map Dt.int)→xs=ns.map V.int
 | _,[],.nil=>rfl
 | _,n::r,.cons h q=>by cases h;rw [dM.ints_of q];rfl
theorem IsD.tup_of {ds:List Dt}(h:IsD H v (.tup ds)):∃ a xs,v= .ref a∧H a=some (.tup xs)∧dM H xs ds:=by
 cases h with
 | tup h r=>exact ⟨_,_,rfl,h,r⟩
mutual
def eqD:Dt→Dt→Bool
 | .non,.non=>true
 | .bl a,.bl b=>a == b
 | .bl a,.int b=>(if a then 1 else 0) == b
 | .int a,.bl b=>a == (if b then 1 else 0)
 | .int a,.int b=>a == b
 | .str a,.str b=>a == b
 | .tup xs,.tup ys=>eqDs xs ys
 | _,_=>false
def eqDs:List Dt→List Dt→Bool
 | [],[]=>true
 | x::xs,y::ys=>eqD x y && eqDs xs ys
 | _,_=>false
end
mutual
def pl:Dt→Bool
 | .oth _=>false
 | .tup ds=>pls ds
 | _=>true
def pls:List Dt→Bool
 | []=>true
 | d::ds=>pl d && pls ds
end
mutual
def dep:Dt→Nat
 | .tup ds=>deps ds+1
 | _=>0
def deps:List Dt→Nat
 | []=>0
 | d::ds=>max (dep d) (deps ds)
end
mutual
theorem eqD_refl:∀ d:Dt,pl d=true→eqD d d=true
 | .non,_=>by unfold eqD;rfl
 | .bl b,_=>by unfold eqD;exact beq_self_eq_true b
 | .int i,_=>by unfold eqD;exact beq_self_eq_true i
 | .str x,_=>by unfold eqD;exact beq_self_eq_true x
 | .tup ds,h=>by
  unfold eqD;unfold pl at h;exact pX ds h
 | .oth T,h=>by unfold pl at h;cases h
theorem pX:∀ ds:List Dt,pls ds=true→eqDs ds ds=true
 | [],_=>by unfold eqDs;rfl
 | d::ds,h=>by
  unfold eqDs;unfold pls at h;rw [cN] at h;rw [eqD_refl d h.1,pX ds h.2];rfl
end
theorem eqD_tup (xs ys:List Dt):eqD (.tup xs) (.tup ys)=eqDs xs ys:=by unfold eqD;rfl
theorem eqDs_all:∀ (ds es:List Dt),eqDs ds es=((aQ (min ds.length es.length)).all (fun j=>eqD (ds.getD j .non) (es.getD j .non)) && ds.length == es.length)
 | [],[]=>by unfold eqDs;rfl
 | [],e::es=>by unfold eqDs;simp
 | d::ds,[]=>by unfold eqDs;simp
 | d::ds,e::es=>by
  unfold eqDs;rw [eqDs_all ds es];rw [aM,aM];have h1:min (ds.length+1) (es.length+1)=min ds.length es.length+1:=by lia
  rw [h1,List.range_succ_eq_map,List.all_cons,List.all_map];have h2:((ds.length+1) == (es.length+1))=(ds.length == es.length):=by rw [ke];simp
  rw [h2,Bool.and_assoc];rfl
theorem pP:∀ {ds:List Dt} {i:Nat} {d:Dt},pls ds=true→ds[i]? =some d→pl d=true
 | [],_,_,_,e=>by simp at e
 | d::ds,0,_,h,e=>by
  unfold pls at h;rw [cN] at h;simp at e;subst e;exact h.1
 | d::ds,i+1,x,h,e=>by
  unfold pls at h;rw [cN] at h;exact pP (i:=i) h.2 (by simpa using e)
theorem deps_get:∀ {ds:List Dt} {i:Nat} {d:Dt},ds[i]? =some d→dep d≤deps ds
 | [],_,_,e=>by simp at e
 | d::ds,0,_,e=>by
  simp at e;subst e;unfold deps;exact Nat.le_max_left _ _
 | d::ds,i+1,x,e=>by
  have:=deps_get (ds:=ds) (i:=i) (d:=x) (by simpa using e);unfold deps;exact aS this (Nat.le_max_right _ _)
theorem Inv.tupD {ds:List Dt}(I:Inv X aH σ H s)(h:IsD H v (.tup ds))(r:fY v u):∃ a its,u= .ref a∧v= .ref a∧s.heap.IsTuple a its.toArray∧∃ xs,fN xs its∧dM H xs ds∧its.length=ds.length:=by
 obtain ⟨a,xs,rfl,ha,hd⟩:=h.tup_of;cases (show u=aa.ref a from r);obtain ⟨its,rv,p,_⟩:=I.tuple (SqT.of (K:=X.K) ha);exact ⟨a,its,rfl,rfl,p,xs,rv,hd,by rw [←rv.length,hd.length]⟩
theorem eqAt_D:∀ (n:Nat) {A:bL} {x y:V} {u v:aa} {d e:Dt},dep d≤n→A.units+n<cLine→Inv X aH σ H s→IsD H x d→IsD H y e→fY x u→fY y v→pl d=true→pl e=true→SeqAt.EqAt A s u v (eqD d e):=by
 intro n
 induction n with
 | zero =>
  intro A x y u v d e hd hu I ix iy rx ry px py;cases ix with
  | tup h r=>unfold dep at hd;lia
  | lst h=>unfold pl at px;cases px
  | dct h=>unfold pl at px;cases px
  | non =>
   cases iy with
   | tup h' r' =>
    obtain ⟨a,its,rfl,_,hb,_⟩:=I.tupD (.tup h' r') ry;cases rx;exact SeqAt.EqAt.none_tuple hb (by lia)
   | lst h'=>unfold pl at py;cases py
   | dct h'=>unfold pl at py;cases py
   | non=>exact jC rx ry rfl rfl
   | bl b=>exact jC rx ry rfl rfl
   | int b=>exact jC rx ry rfl rfl
   | str b=>exact jC rx ry rfl rfl
  | bl b =>
   cases iy with
   | tup h' r' =>
    obtain ⟨a,its,rfl,_,hb,_⟩:=I.tupD (.tup h' r') ry;cases rx;exact SeqAt.EqAt.bool_tuple b hb (by lia)
   | lst h'=>unfold pl at py;cases py
   | dct h'=>unfold pl at py;cases py
   | non=>exact jC rx ry rfl rfl
   | bl b=>exact jC rx ry rfl rfl
   | int b=>exact jC rx ry rfl rfl
   | str b=>exact jC rx ry rfl rfl
  | int i =>
   cases iy with
   | tup h' r' =>
    obtain ⟨a,its,rfl,_,hb,_⟩:=I.tupD (.tup h' r') ry;obtain ⟨t,rfl⟩:=rx;exact SeqAt.EqAt.int_tuple i t hb (by lia)
   | lst h'=>unfold pl at py;cases py
   | dct h'=>unfold pl at py;cases py
   | non=>exact jC rx ry rfl rfl
   | bl b=>exact jC rx ry rfl rfl
   | int b=>exact jC rx ry rfl rfl
   | str b=>exact jC rx ry rfl rfl
  | str z =>
   cases iy with
   | tup h' r' =>
    obtain ⟨a,its,rfl,_,hb,_⟩:=I.tupD (.tup h' r') ry;obtain ⟨t,rfl⟩:=rx;exact SeqAt.EqAt.str_tuple z t hb (by lia)
   | lst h'=>unfold pl at py;cases py
   | dct h'=>unfold pl at py;cases py
   | non=>exact jC rx ry rfl rfl
   | bl b=>exact jC rx ry rfl rfl
   | int b=>exact jC rx ry rfl rfl
   | str b=>exact jC rx ry rfl rfl
 | succ n ih =>
  intro A x y u v d e hd hu I ix iy rx ry px py
  by_cases hz:dep d=0
  ·
   cases ix with
   | tup h r=>unfold dep at hz;lia
   | lst h=>unfold pl at px;cases px
   | dct h=>unfold pl at px;cases px
   | non=>exact ih (by rw [hz];exact bD _) (by lia) I .non iy rx ry px py
   | bl b=>exact ih (by rw [hz];exact bD _) (by lia) I (.bl b) iy rx ry px py
   | int i=>exact ih (by rw [hz];exact bD _) (by lia) I (.int i) iy rx ry px py
   | str z=>exact ih (by rw [hz];exact bD _) (by lia) I (.str z) iy rx ry px py
  ·cases ix with
   | lst h=>unfold pl at px;cases px
   | dct h=>unfold pl at px;cases px
   | non=>exact qS (by unfold dep;rfl) hz
   | bl b=>exact qS (by unfold dep;rfl) hz
   | int i=>exact qS (by unfold dep;rfl) hz
   | str z=>exact qS (by unfold dep;rfl) hz
   | tup h r =>
    rename_i a xs ds;cases (show u=aa.ref a from rx);obtain ⟨its,rv,p,_⟩:=I.tuple (SqT.of (K:=X.K) h);have p:s.heap.IsTuple a its.toArray:=p;cases iy with
    | lst h'=>unfold pl at py;cases py
    | dct h'=>unfold pl at py;cases py
    | non=>cases ry;exact SeqAt.EqAt.tuple_none p (by lia)
    | bl b=>cases ry;exact SeqAt.EqAt.tuple_bool b p (by lia)
    | int b=>obtain ⟨t,rfl⟩:=ry;exact SeqAt.EqAt.tuple_int b t p (by lia)
    | str b=>obtain ⟨t,rfl⟩:=ry;exact SeqAt.EqAt.tuple_str b t p (by lia)
    | tup h' r' =>
     rename_i b ys es;cases (show v=aa.ref b from ry)
     by_cases hab:a=b
     ·subst hab
      have e1:Dt.tup ds=Dt.tup es:=IsD.inj (.tup h r) (.tup h' r');rw [e1];rw [eqD_refl _ py];exact SeqAt.EqAt.same _
     ·obtain ⟨its2,rv2,p2,_⟩:=I.tuple (SqT.of (K:=X.K) h')
      have p2:s.heap.IsTuple b its2.toArray:=p2;have l1:its.length=ds.length:=by rw [←rv.length,r.length]
      have l2:its2.length=es.length:=by rw [←rv2.length,r'.length]
      have pd:pls ds=true:=by unfold pl at px;exact px
      have pe:pls es=true:=by unfold pl at py;exact py
      have hd':deps ds≤n:=by unfold dep at hd;lia
      have key:=SeqAt.RcAt.tuples (A:=A) (e:=fun j=>eqD (ds.getD j .non) (es.getD j .non)) p p2 (by lia) fun j h1 h2=>by
       have h1':j<its.length:=by simpa using h1
       have h2':j<its2.length:=by simpa using h2
       obtain ⟨x',ex,dx⟩:=r.at (i:=j) (d:=ds[j]'(by lia)) (gE (by lia));obtain ⟨y',ey,dy⟩:=r'.at (i:=j) (d:=es[j]'(by lia)) (gE (by lia));obtain ⟨u',eu,ru⟩:=rv.get ex;obtain ⟨v',ev,rw'⟩:=rv2.get ey;have eu':its[j]=u':=by rw [gE h1'] at eu;exact bQ eu
       have ev':its2[j]=v':=by rw [gE h2'] at ev;exact bQ ev
       have g1:ds.getD j .non=ds[j]'(by lia):=by rw [ah,gE (by lia)];rfl
       have g2:es.getD j .non=es[j]'(by lia):=by rw [ah,gE (by lia)];rfl
       show SeqAt.EqAt A.in1 s (its.toArray[j]) (its2.toArray[j]) (eqD (ds.getD j .non) (es.getD j .non));rw [j4,j4,eu',ev',g1,g2];exact ih (aS (deps_get (gE (by lia))) hd') (by show A.units+1+n<cLine;lia) I dx dy ru rw' (pP pd (gE (by lia))) (pP pe (gE (by lia)))
      have e2:eqD (.tup ds) (.tup es)=((aQ (min its.toArray.size its2.toArray.size)).all (fun j=>eqD (ds.getD j .non) (es.getD j .non)) && its.toArray.size == its2.toArray.size):=by
       rw [eqD_tup,eqDs_all,aD,aD,l1,l2]
      rw [e2];exact SeqAt.EqAt.of_refs hab key
end L2
namespace L2
open PySem PySem.Spec PyProof.Rows
theorem kL:lJ X (.type "tuple") (fun xs H Q=>∃ p ys,xs=[.ref p]∧SqL X.K H p ys∧New H (.tup ys) Q) :=
 call_tuple_of.imp fun _ _ _ ⟨p,ys,e,h,q⟩=>⟨p,ys,e,.inl ⟨h,q.of⟩⟩
theorem sl_listA:SlR X (fun x lo hi H Q=>∃ a xs,x= .ref a∧SqL X.K H a xs∧New H (.lst (cutV xs lo hi)) Q) :=
 sl_list.imp fun _ _ _ _ _ ⟨a,xs,e,h,q⟩=>⟨a,xs,e,h,q.of⟩
theorem kJ {Q:VK}(Pv:Nat→List V→Hp→Prop)(h0:Pv 0 [] H)(hl:∀ i ys H,i≤xs.length→Pv i ys H→SqL K H a xs∧ys.length≤i)(hz:xs.length≤aP)
  (hs:∀ i x ys H,xs[i]? =some x→Pv i ys H→tt (some x::cX σ js) H fun b H4=>if b=true then te (some x::cX σ js) H4 fun y H5=>Pv (i+1) (ys++[y]) H5 else Pv (i+1) ys H4)
  (hd:∀ ys H,Pv xs.length ys H→∀ D,H D=none→Q (.ref D) (upd H D (.lst ys))):CompW js tt te σ Q (Itl K a) H:=by
 refine ⟨fun i m ys H=>i≤xs.length∧m=xs.length - i∧Pv i ys H,⟨_,bD _,rfl,h0⟩,fun i m ys H2 ⟨hi,hm,hp⟩=>?_⟩;obtain ⟨hq,hy⟩:=hl i ys H2 hi hp
 by_cases e:i=xs.length
 ·subst e
  exact .inl ⟨⟨xs,hq,aA _⟩,hd ys H2 hp⟩
 ·have hlt:i<xs.length:=gN hi e
  refine .inr ⟨⟨xs,_,hq,gE hlt⟩,by lia,Pv (i+1),fun ys' H' hp'=>⟨xs.length - (i+1),by lia,by lia,rfl,hp'⟩,fun x H3 hy3=>?_⟩;obtain ⟨e3,hx⟩:=hy3;subst e3;exact hs i x ys H3 (hx xs hq) hp
theorem mx {Q:VK}(Pv:Nat→List V→Hp→Prop)(h0:Pv 0 [] H)(hl:∀ i ys H,i≤n→Pv i ys H→ys.length≤i)(hz:n≤aP)
  (hs:∀ (i:Nat) ys H,i<n→Pv i ys H→tt (some (.int (lo+i))::cX σ js) H fun b H4=>if b=true then te (some (.int (lo+i))::cX σ js) H4 fun y H5=>Pv (i+1) (ys++[y]) H5 else Pv (i+1) ys H4)
  (hd:∀ ys H,Pv n ys H→∀ D,H D=none→Q (.ref D) (upd H D (.lst ys))):CompW js tt te σ Q (Itr lo n) H:=by
 refine ⟨fun i m ys H=>i≤n∧m=n - i∧Pv i ys H,⟨_,bD _,rfl,h0⟩,fun i m ys H2 ⟨hi,hm,hp⟩=>?_⟩;have hy:=hl i ys H2 hi hp
 by_cases e:i=n
 ·subst e
  exact .inl ⟨aA _,hd ys H2 hp⟩
 ·have hlt:i<n:=gN hi e
  refine .inr ⟨hlt,by lia,Pv (i+1),fun ys' H' hp'=>⟨n - (i+1),by lia,by lia,rfl,hp'⟩,fun x H3 hy3=>?_⟩;obtain ⟨e3,hx⟩:=hy3;subst e3 hx;exact hs i ys H3 hlt hp
theorem ps_setCC {iy:Nat}{y0:Str}{py spos:Pos}{xs:List Str}
  (hN0:X.N.Nodup) (hi0:X.N[iy]? =some y0) (hx0:Loc X.env.scope y0) (hc:X.calm=true) (hi:PI X tg iter wi)
  (iK:∀ y∈scope.names,y.2≠ .cell) (mS:scope.kind= .function) (l3:∀ y∈scope.names,y.2= .local→scope.names.lookup y.1=some .local)
  (hfr:∀ y∈scope.names,y.2= .free→X.env.scope.names.lookup y.1=some .cell) (hjs:js.map (fun j=>X.N[j]?)=fr.map some) (hfv:∀ y∈fr,scope.names.lookup y=some .free)
  (hg:∀ cl C s' H' ex,PG (gk X scope cl C (xs++fr) s' H' ex) tg g)
  (hb:∀ cl C s' H' ex,PE (gk X scope cl C (xs++fr) s' H' ex) elt te∧PTs (gk X scope cl C (xs++fr) s' H' ex) ifs tt)
  (hCW:∀ σ Q J H1,CW σ Q J H1→qP xs.length g js tt te σ Q J H1) (hs:∀ z,gu iter X.env z=fj z:=by intro _;rfl) (hsw:kf (.ListComp elt [⟨tg,iter,ifs,0⟩] scope pos) (some (.Name y0 py)) spos.line X.env=fj true:=by rfl)
  (hf0:X.fn y0=true∨X.env.scope.names.lookup y0=some .local:=by first | exact .inl rfl | exact .inr rfl | assumption) :
  PS X (.Assign [.Name y0 py] (.ListComp elt [⟨tg,iter,ifs,0⟩] scope pos) spos) (tAsg (fun σ H Q=>wi σ H fun J H1=>CW σ Q J H1) (om iy)):=by
 intro aH s σ H Dn I h;rw [exec_Assign_Name_used _ _ _ _ hsw];refine af (wpAny_standAt (af ?_));show aJ _ X.A (do let _ ← comprehension (.ListComp elt [⟨tg,iter,ifs,0⟩] scope pos) scope X.env _ (newList []) false (dH iter X.env) (some (assign (.Name y0 py) X.env))) _ _ s;refine af (bP (comp_core (use:=some (assign (.Name y0 py) X.env)) (R:=fun _ s'=>SP X aH Dn .next s') hc hi iK mS l3 hfr hjs hfv hg hb hCW I h (fun s4 H5 D C mC hnC I5 nC locC fsC pinX cC sC q=>?_) hs) (fun _ s' hq=>aC (aC hq)) fun _ _ e=>e);obtain ⟨oC,esC,epC,hoC,rC⟩:=id hnC;have I6:Inv X ((C,oC)::aH) σ H5 s4:=I5.pins_of fun p hp=>by
  rcases aB.mp hp with rfl | hp
  ·refine ⟨hoC,nC,locC,fsC,fun v z=>?_⟩
   rw [rC.1] at z;cases z
  ·exact I5.pin p (ay _ hp)
 have hPG0:PG X (.Name y0 py) (om iy):=og hN0 hi0 hx0 hf0;refine thn (hPG0 _ s4 σ _ (.ref D) (.ref D) (fun σ' H'=>Dn.nx σ' H'∧H' C=none) I6 rfl ⟨q,nC⟩) fun _ s6 ⟨σ6,H6,I7,q7,n7⟩=>?_
 have o7:=(I7.pin (C,oC) (ay _ (aZ ..))).1;refine ⟨mC,⟨oC,esC,epC,o7,rC⟩,fun h' hsb=>⟨σ6,H6,?_,q7⟩⟩;have I8:Inv X aH σ6 H6 s6:=I7.pins_of fun p hp=>I7.pin p (ay _ (aw _ hp))
 exact I8.turned (t':=s6.toks) (it:=C) (fun b o hb' e=>hsb.extBut b o hb' e) n7 locC (.inr sC) cC pinX
theorem ps_setC {iy:Nat}{y0:Str}{py spos:Pos}{px:Pos}
  (hN0:X.N.Nodup) (hi0:X.N[iy]? =some y0) (hx0:Loc X.env.scope y0) (hc:X.calm=true) (hi:PI X (.Name x px) iter wi)
  (iK:∀ y∈scope.names,y.2≠ .cell) (mS:scope.kind= .function) (l3:∀ y∈scope.names,y.2= .local→scope.names.lookup y.1=some .local) (hx:scope.names.lookup x=some .local)
  (hfr:∀ y∈scope.names,y.2= .free→X.env.scope.names.lookup y.1=some .cell) (hnd:(x::fr).Nodup) (hjs:js.map (fun j=>X.N[j]?)=fr.map some) (hfv:∀ y∈fr,scope.names.lookup y=some .free)
  (hb:∀ cl C s' H' ex,PE (gk X scope cl C (x::fr) s' H' ex) elt te∧PTs (gk X scope cl C (x::fr) s' H' ex) ifs tt)
  (hs:∀ z,gu iter X.env z=fj z:=by intro _;rfl) (hsw:kf (.ListComp elt [⟨.Name x px,iter,ifs,0⟩] scope pos) (some (.Name y0 py)) spos.line X.env=fj true:=by rfl)
  (hf0:X.fn y0=true∨X.env.scope.names.lookup y0=some .local:=by first | exact .inl rfl | exact .inr rfl | assumption) :
  PS X (.Assign [.Name y0 py] (.ListComp elt [⟨.Name x px,iter,ifs,0⟩] scope pos) spos) (tAsg (tComp wi js tt te) (om iy)) :=
 ps_setCC (xs:=[x]) (g:=om 0) hN0 hi0 hx0 hc hi iK mS l3 hfr hjs hfv (fun _ _ _ _ _=>og hnd rfl (.inl (d9 hx)) (.inr (d9 hx))) hb (fun _ _ _ _ h=>compW_T h) hs hsw hf0
def notStar:Expr→Bool
 | .Starred _ _=>false
 | _=>true
theorem starEach_not (h:notStar e=true):br (e::es) env=(false,dH e env)::br es env:=by
 cases e <;> first | rfl | cases h
theorem pa_k (ha:PE X e te)(hr:PA X es t)(h:notStar e=true:=by rfl):PA X (e::es) (tCons te t):=ak ha hr (starEach_not h)
structure PEs (X:Cx)(e:Expr)(t:TE):Prop where
 h:PE X e t
structure PAs (X:Cx)(es:List Expr)(t:TA):Prop where
 h:PA X es t
structure PSt (X:Cx)(st:cF)(t:TS):Prop where
 h:PS X st t
theorem ps_cutK {t:TS}(h:PS X st t):PS X st (fun D σ H=>∃ N:St→Hp→Prop,(∀ σ' H',N σ' H'→D.nx σ' H')∧t { D with nx:=N } σ H):=by
 intro aH s σ H D I ⟨N,hN,ht⟩;refine thn (h aH s σ H { D with nx:=N } I ht) fun f s' q=>?_
 cases f with
 | next=>obtain ⟨σ',H',I',n'⟩:=q;exact ⟨σ',H',I',hN _ _ n'⟩
 | brk=>exact q
 | cont=>exact q
 | ret u=>exact q
structure PSl (X:Cx)(sts:List cF)(t:TS):Prop where
 h:PSs X sts t
section
variable {a b:Expr}{tb:TE}
theorem fX {i j}:PEs X (.Constant (.int i) j pos) (tC (.int i)):=⟨bR⟩
theorem k_op {op:Operator}{r:R2}(ho:OpR X (fM op) r)(ha:PEs X a ta)(hb:PEs X b tb):PEs X (.BinOp a op b pos) (tOp r ta tb):=⟨dv ho ha.h hb.h⟩
theorem k_ix {r:R2}(hr:IxR X r)(ha:PEs X a ta)(hb:PEs X b tb)(hs:PlainIx b):PEs X (.Subscript a b pos) (tOp r ta tb):=⟨fB hr ha.h hb.h hs⟩
theorem lG:PAs X [] tNil:=⟨aI⟩
theorem cJ (ha:PEs X e te)(hr:PAs X es t)(h:notStar e=true:=by rfl):PAs X (e::es) (tCons te t):=⟨pa_k ha.h hr.h h⟩
theorem bg {sts:List cF}{t u:TS}(a:PSt X st t)(b:PSl X sts u):PSl X (st::sts) (tSeq t u):=⟨k9 a.h b.h⟩
theorem dF {t:TS}(a:PSt X st t):PSl X [st] t:=⟨dE a.h⟩
end
def CBig (i j:Int):Prop:=i.natAbs<10 ^ 400∧j.natAbs<10 ^ 400
theorem bits_of {x:Int}(h:x.natAbs<10 ^ 400):jI x≤2 ^ 20:=by
 unfold jI;split
 ·exact bD _
 ·rename_i hx
  have h0 : x.natAbs ≠ 0 := fun z => hx (by have : x = 0 := by lia
                                            rw [this];rfl)
  have h1:x.natAbs<2 ^ 4000:=jH h (by decide +kernel);have h2:=(Nat.log2_lt h0).mpr h1;have h3:(4000:Nat)+1≤2 ^ 20:=by decide
  lia
theorem op_mulB:OpR X (fM .Mult) (rI CBig fun i j=> .int (i * j)):=opI fun _ _ _ _ _ _ _ hc q=>mul_int q (IntMulOk.of_bits (bits_of hc.1) (bits_of hc.2))
theorem ints_are:∀ {ns:List Int} {us:List aa},fN (ns.map V.int) us→IntsAre us ns
 | [],_,.nil=> .nil
 | _::_,_,.cons ⟨_,e⟩ r=>by cases e;exact .cons _ _ (ints_are r)
theorem pe_compT {xs:List Str}
  (hc:X.calm=true) (hi:PI X tg iter wi)
  (iK:∀ y∈scope.names,y.2≠ .cell) (mS:scope.kind= .function) (l3:∀ y∈scope.names,y.2= .local→scope.names.lookup y.1=some .local)
  (hfr:∀ y∈scope.names,y.2= .free→X.env.scope.names.lookup y.1=some .cell) (hjs:js.map (fun j=>X.N[j]?)=fr.map some) (hfv:∀ y∈fr,scope.names.lookup y=some .free)
  (hg:∀ cl C s' H' ex,PG (gk X scope cl C (xs++fr) s' H' ex) tg g)
  (hb:∀ cl C s' H' ex,PE (gk X scope cl C (xs++fr) s' H' ex) elt te∧PTs (gk X scope cl C (xs++fr) s' H' ex) ifs tt)
  (hs:∀ z,gu iter X.env z=fj z:=by intro _;rfl) :
  PE X (.ListComp elt [⟨tg,iter,ifs,0⟩] scope pos) (tCompT wi xs.length g js tt te) :=
 pe_compC hc hi iK mS l3 hfr hjs hfv hg hb (fun _ _ _ _ h=>h) hs
abbrev gPair (K:aq):TG:=gTup K 2 (gCons (om 0) (gCons (om 1) gNil))
theorem pg_two {y:Str}{k:Nat}{p2 pt:Pos}(hc:X.calm=true)(hnd:(x::y::fr).Nodup)(hx:scope.names.lookup x=some .local)(hy:scope.names.lookup y=some .local) :
  PG (gk X scope cl C ([x,y]++fr) s H ex) (.Tuple [.Name x p1,.Name y p2] k pt) (gPair X.K) :=
 pg_tup hc (jR (og (i:=0) hnd rfl (.inl (d9 hx)) (.inr (d9 hx))) (jR (og (i:=1) hnd rfl (.inl (d9 hy)) (.inr (d9 hy))) pgs_nil))
theorem getItem_all {t sl:ai}{vl vu:aa}{lo:Option Int}(ht:IsTup s.heap t items)(hs:s.heap.IsSliceOf sl vl vu .none)(pl:IsPart vl lo)(pu:IsPart vu hi)
  (hw:HT.sIx items.size 0 lo=0∧HT.sIx items.size items.size hi=items.size) (h:Q (.ref t) s):aJ (aV prog w) A (getItem (.ref t) (.ref sl)) Q E s:=by
 obtain ⟨os,hos,hcs,hds⟩:=id hs;have hTs:s.TypeIs (.ref sl) "slice" := ⟨os,hos,hcs⟩;unfold getItem
 try with_reducible refine cI ?_
 first | refine af (aC ?_) | skip
 refine af (wpAny_sequenceKey ht.typeIs (by decide) ?_);refine af (fu (name:=cV "__getitem__") ht.typeIs dh
  (iU dh ht.typeIs entry_tuple_getitem ?_ (args_tuple_getitem _ _)))
 show aJ _ _ (cZ.Tuple.tupleItemsOf (.ref t) >>= _) _ _ s;refine af (tupleItemsOf_ ht ?_);refine af (wpAny_typeOf hTs ?_);rw [qR (by decide)];refine af (HT.sliceApplied_gen hs pl pu ?_);show aJ _ _ (if (((HT.sIx items.size 0 lo:Nat):Int) == 0 && (1:Int) == 1 && (HT.sIx items.size items.size hi - HT.sIx items.size 0 lo) == items.size)=true then _ else _) _ _ s;rw [hw.1,hw.2,Nat.sub_zero,qR (by simp)];unfold cZ.Tuple.tupleIsExact;refine af (af (wpAny_typeOf ht.typeIs (aC ?_)));rw [qR (by decide)];exact af (wpAny_rule (aC ⟨_,rfl,aC h⟩))
theorem sl_tupN:SlR X (fun x lo hi H Q=>∃ a xs,x= .ref a∧H a=some (.tup xs)∧New H (.tup (cutV xs lo hi)) Q):=by
 intro aH s σ H x v vl vu lo hi sl Q I rx hs pl pu h;obtain ⟨a,xs,rfl,hx,q⟩:=h
 by_cases hw:HT.sIx xs.length 0 lo=0∧HT.sIx xs.length xs.length hi=xs.length
 ·cases rx
  obtain ⟨its,r,ht,hz⟩:=I.tuple (SqT.of (K:=X.K) hx);have hlen:its.toArray.size=xs.length:=by rw [aD];exact r.length.symm
  refine ⟨"tuple",_,dh.lookup,ht.typeIs,?_⟩;refine getItem_all ht hs pl pu (by rw [hlen];exact hw) ⟨.ref a,H,I,rfl,q a H (bJ.refl H) ?_⟩;have e:cutV xs lo hi=xs:=by unfold cutV;rw [hw.1,hw.2,List.drop_zero,Nat.sub_zero,bh]
  rw [e];exact hx
 ·exact sl_tup aH s σ H _ v vl vu lo hi sl Q I rx hs pl pu ⟨a,xs,rfl,SqT.of hx,hw,q.of⟩
theorem call_sum (hc:X.calm=true):lJ X (.builtin "sum") (fun xs H Q=>∃ (p:ai) (ns:List Int),xs=[.ref p]∧SqL X.K H p (ns.map V.int)∧Q (.int ns.sum) H):=by
 intro aH s σ H xs us Q I r h;obtain ⟨p,ns,rfl,hq,q⟩:=h;obtain ⟨u,rfl,ru⟩:=vals1 r;cases (show u=aa.ref p from ru);obtain ⟨its,rv,pl,hz⟩:=I.list hq;have hi:=ints_are rv;obtain ⟨ys,hx⟩:=hi.allInts.items;have hl':s.heap.IsList p (intItems ys):=hx ▸ pl.isList;refine sum_intListG (I.ok.hd hc) hl' fun h' tk t' hk=>?_
 have e1:ns=ys.toList.map (·.1):=by
  rw [←nums_intItems,←hx];exact (show numsOf its.toArray.toList=ns from hi.numsOf).symm
 have e2:preSum (numAt ys) ys.size=ns.sum:=by
  rw [preSum_eq,ju (by simp),e1]
 rw [e2];exact ⟨.int ns.sum,H,I.kept (t':=tk) hk,⟨t',rfl⟩,q⟩
theorem vals_at:∀ {xs:List V} {us:List aa},xs.length=us.length→(∀ (i:Nat) (x:V),xs[i]? =some x→∃ u,us[i]? =some u∧fY x u)→fN xs us
 | [],[],_,_=> .nil
 | [],_::_,h,_=>by cases h
 | _::_,[],h,_=>by cases h
 | x::xs,u::us,h,k=>by
  obtain ⟨u',e,r⟩:=k 0 x rfl;cases e;exact .cons r (vals_at (by simpa using h) fun i y hy=>k (i+1) y hy)
theorem call_rng1:lJ X (.type "range") (fun xs H Q=>∃ j:Int,xs=[.int j]∧New H (.rng 0 j) Q):=by
 intro aH s σ H xs us Q I r h;obtain ⟨j,rfl,q⟩:=h;obtain ⟨u,rfl,ru⟩:=vals1 r;obtain ⟨t,rfl⟩:=(show ∃ t,u=aa.int j t from ru);refine call_range_1 ?_;exact ⟨.ref s.heap.objs.size,_,I.laid (t':=s.toks+1+1) (o:= .rng 0 j) (fun _ _ z=>ar _ z) (aA _) ⟨_,_,_,aU _ rfl⟩,rfl,q.of _ I.fresh⟩
theorem call_listR (hc:X.calm=true):lJ X (.type "list") (fun xs H Q=>∃ (a:ai) (n:Nat),xs=[.ref a]∧H a=some (.rng 0 (n:Int))∧n≤1000∧∀ l,H l=none→Q (.ref l) (upd H l (.lst ((aQ n).map fun k=>V.int (k:Nat))))):=by
 intro aH s σ H xs us Q I r h;obtain ⟨a,n,rfl,ha,hn,q⟩:=h;obtain ⟨u,rfl,ru⟩:=vals1 r;cases (show u=aa.ref a from ru);obtain ⟨t,u,v,hr⟩:=I.hok a _ ha;have hs:dJ 0 (n:Int) 1=n:=by
  unfold dJ;rw [qR (by decide)]
  by_cases h0:(0:Int)<n
  ·rw [qR h0,Int.ediv_one];lia
  ·rw [qQ h0];lia
 refine call_list_range (n:=n) (I.ok.hd hc) hr (by unfold gW;rw [hs];unfold cZ.Range.rangeFitsLong;simp;lia) hs (by lia) fun h' tk acc c hk hg hi=>?_
 refine ⟨.ref s.heap.objs.size,_,I.laid (t':=tk) (o:= .lst ((aQ n).map fun k=>V.int (k:Nat))) hk (aA _) ⟨?_,acc.toList,c,?_,?_⟩,rfl,q _ I.fresh⟩
 ·rw [ae,bo];exact aS hn (by decide)
 ·refine vals_at (by rw [ae,bo,df,hi.1]) fun i x hx=>?_
  rw [az] at hx;obtain ⟨k,hk2,rfl⟩:=bq.mp hx;have hik:i<n:=by have:=(av.mp hk2).1;rw [bo] at this;exact this
  rw [gB hik] at hk2;cases hk2;have hi2:i<acc.size:=by rw [hi.1];exact hik
  have e:=eM hi2;obtain ⟨t2,e2⟩:=hi.2 i _ e;refine ⟨_,by rw [Array.getElem?_toList];exact e,⟨t2,?_⟩⟩;rw [e2];congr 1;lia
 ·rw [Array.toArray_toList];exact hg
theorem k_lstF (h:PAs X es t):PEs X (.List es pos) (tLst t):=⟨jB h.h⟩
section
variable {κ:Type} [DecidableEq κ]
def nU (kvs:List (κ×V))(k:κ):Option V:=(kvs.find? fun kv=>decide (kv.1=k)).map (·.2)
def nZ (kvs:List (κ×V))(k:κ)(v:V):List (κ×V) :=
 if (kvs.any fun kv=>decide (kv.1=k))=true then kvs.map (fun kv=>if kv.1=k then (kv.1,v) else kv) else kvs++[(k,v)]
theorem iC {p:κ×V}{r:List (κ×V)}{k:κ}(e:p.1=k):nU (p::r) k=some p.2:=by simp [nU,gQ,e]
theorem gZ {p:κ×V}{r:List (κ×V)}{k:κ}(e:¬ p.1=k):nU (p::r) k=nU r k:=by simp [nU,gQ,e]
theorem ng (k:κ):∀ kvs:List (κ×V),(kvs.any fun kv=>decide (kv.1=k))=(nU kvs k).isSome
 | []=>rfl
 | p::r=>by
  rw [jW]
  by_cases e:p.1=k
  ·simp only [iC e,qT e,Bool.true_or,Option.isSome_some]
  ·rw [gZ e,qU e,Bool.false_or];exact ng k r
theorem valV_map (k j:κ)(y:V):∀ kvs:List (κ×V),nU (kvs.map fun kv=>if kv.1=k then (kv.1,y) else kv) j=(nU kvs j).map fun x=>if j=k then y else x
 | []=>rfl
 | p::r=>by
  have ih:=valV_map k j y r;rw [bZ]
  by_cases h:p.1=k
  ·rw [qR h]
   by_cases e:p.1=j
   ·rw [iC (p:=(p.1,y)) e,iC e,fR,qR (e.symm.trans h)]
   ·rw [gZ (p:=(p.1,y)) e,gZ e,ih]
  ·rw [qQ h]
   by_cases e:p.1=j
   ·rw [iC (p:=p) e,iC e,fR,qQ (fun z=>h (e.trans z))]
   ·rw [gZ (p:=p) e,gZ e,ih]
theorem valV_snoc (k j:κ)(y:V):∀ kvs:List (κ×V),nU kvs k=none→nU (kvs++[(k,y)]) j=if j=k then some y else nU kvs j
 | [],_=>by
  by_cases e:k=j
  ·rw [qR e.symm];exact iC (p:=(k,y)) e
  ·rw [qQ (fun z=>e z.symm)];exact gZ (p:=(k,y)) e
 | p::r,hn=>by
  rw [List.cons_append];have hk:¬ p.1=k:=fun z=>by rw [iC z] at hn;cases hn
  rw [gZ hk] at hn;have ih:=valV_snoc k j y r hn
  by_cases e:p.1=j
  ·rw [iC e,iC e,qQ (fun z=>hk (e.trans z))]
  ·rw [gZ e,gZ e,ih]
theorem valV_put (kvs:List (κ×V))(k j:κ)(y:V):nU (nZ kvs k y) j=if j=k then some y else nU kvs j:=by
 unfold nZ
 by_cases a:(kvs.any fun kv=>decide (kv.1=k))=true
 ·rw [qR a,valV_map]
  rw [ng] at a
  by_cases e:j=k
  ·obtain ⟨x,hx⟩:=kR.mp a
   rw [qR e,e,hx,fR,qR rfl]
  ·rw [qQ e]
   cases nU kvs j with
   | none=>rfl
   | some x=>rw [fR,qQ e]
 ·rw [qQ a]
  refine valV_snoc k j y kvs ?_;rw [ng] at a;cases q:nU kvs k with
  | none=>rfl
  | some x=>rw [q] at a;exact (a rfl).elim
theorem lE (kvs:List (κ×V))(k:κ)(v:V):(nZ kvs k v).length≤kvs.length+1:=by
 unfold nZ;split
 ·rw [ae];lia
 ·rw [au,aM,List.length_nil];lia
theorem putK_new {kvs:List (κ×V)}{k:κ}(v:V)(h:nU kvs k=none):nZ kvs k v=kvs++[(k,v)]:=by
 unfold nZ;rw [ng,h];exact qQ (by decide)
theorem qp.isSome_eq {o:Option V}{u:Option aa}(r:qp o u):o.isSome=u.isSome:=by
 cases o with
 | none=>cases u with
  | none=>rfl
  | some _=>exact (show False from r).elim
 | some _=>cases u with
  | none=>exact (show False from r).elim
  | some _=>rfl
theorem KV.val {kvs:List (κ×V)}{vs:List (κ×aa)}(r:KV kvs vs)(k:κ):qp (nU kvs k) (valueAt vs k):=by
 unfold KV at r
 induction r with
 | nil=>exact True.intro
 | @cons p q ps qs h t ih =>
  obtain ⟨h1,h2⟩:=h
  by_cases e:p.1=k
  ·have e':q.1=k:=h1.symm.trans e
   have b:valueAt (q::qs) k=some q.2:=by simp [valueAt,gQ,e']
   rw [iC e,b];exact h2
  ·have e':¬ q.1=k:=fun z=>e (h1.trans z)
   have b:valueAt (q::qs) k=valueAt qs k:=by simp [valueAt,gQ,e']
   rw [gZ e,b];exact ih
theorem KV.any {kvs:List (κ×V)}{vs:List (κ×aa)}(r:KV kvs vs)(k:κ):(kvs.any fun kv=>decide (kv.1=k))=vs.any fun kv=>decide (kv.1=k):=by
 unfold KV at r
 induction r with
 | nil=>rfl
 | cons h t ih=>rw [jW,jW,ih,h.1]
theorem KV.repl {kvs:List (κ×V)}{vs:List (κ×aa)}(r:KV kvs vs)(k:κ)(ry:fY y u) :
  KV (kvs.map fun kv=>if kv.1=k then (kv.1,y) else kv) (vs.map fun kv=>if kv.1=k then (kv.1,u) else kv):=by
 unfold KV at r ⊢
 induction r with
 | nil=>exact .nil
 | @cons p q ps qs h t ih =>
  rw [bZ,bZ];refine .cons ?_ ih;obtain ⟨h1,h2⟩:=h
  by_cases e:p.1=k
  ·rw [qR e,qR (h1.symm.trans e)];exact ⟨h1,ry⟩
  ·rw [qQ e,qQ (fun z=>e (h1.trans z))];exact ⟨h1,h2⟩
theorem KV.put {kvs:List (κ×V)}{vs:List (κ×aa)}(r:KV kvs vs)(k:κ)(ry:fY y u):KV (nZ kvs k y) (stored vs k u):=by
 unfold nZ stored;rw [r.any k]
 by_cases e:(vs.any fun kv=>decide (kv.1=k))=true
 ·rw [qR e,qR e];exact r.repl k ry
 ·rw [qQ e,qQ e];exact Paired.snoc r ⟨rfl,ry⟩
theorem KV.length {kvs:List (κ×V)}{vs:List (κ×aa)}(r:KV kvs vs):kvs.length=vs.length:=Paired.length r
end
theorem kV_is {k:Key}(r:fY (kV k) u):(iH P w).is k u=true:=by
 cases k with
 | inl i=>obtain ⟨t,e⟩:=(show ∃ t,u=aa.int i t from r);subst e;exact mixKind_int P w i t
 | inr x=>obtain ⟨t,e⟩:=(show ∃ t,u=aa.str x t from r);subst e;exact mixKind_str P w x t
theorem items_are {P:aN}{w:bp}:∀ {ks:List Key} {us:List aa},fN (ks.map kV) us→ItemsAre (iH P w) ks us
 | [],_,r=>by rw [List.map_nil] at r;cases r;exact .nil
 | k::ks,_,r=>by
  rw [bZ] at r;cases r with
  | cons h t=>exact .cons (kV_is h) (items_are t)
abbrev KT (H:Hp):List (List Key×V)→List (List Key×ai×aa)→Prop:=jU fun p q=>p.1=q.1∧H q.2.1=some (.tup (p.1.map kV))∧fY p.2 q.2.2
theorem KT.val {xs:List (List Key×ai×aa)}(r:KT H kvs xs)(k:List Key):qp (nU kvs k) ((atKey xs k).map (·.2)):=by
 induction r with
 | nil=>exact True.intro
 | @cons p q ps qs h t ih =>
  obtain ⟨h1,_,h2⟩:=h
  by_cases e:p.1=k
  ·have e':q.1=k:=h1.symm.trans e
   have b:atKey (q::qs) k=some q.2:=by simp [atKey,gQ,e']
   rw [iC e,b];exact h2
  ·have e':¬ q.1=k:=fun z=>e (h1.trans z)
   have b:atKey (q::qs) k=atKey qs k:=by simp [atKey,gQ,e']
   rw [gZ e,b];exact ih
theorem KT.repl {xs:List (List Key×ai×aa)}(r:KT H kvs xs)(k:List Key)(ry:fY y u) :
  KT H (kvs.map fun kv=>if kv.1=k then (kv.1,y) else kv) (xs.map (putAt k u)):=by
 induction r with
 | nil=>exact .nil
 | @cons p q ps qs h t ih =>
  rw [bZ,bZ];refine .cons ?_ ih;obtain ⟨h1,h2,h3⟩:=h;unfold putAt
  by_cases e:p.1=k
  ·rw [qR e,qR (h1.symm.trans e)];exact ⟨h1,h2,ry⟩
  ·rw [qQ e,qQ (fun z=>e (h1.trans z))];exact ⟨h1,h2,h3⟩
theorem KT.put {xs:List (List Key×ai×aa)}(r:KT H kvs xs)(k:List Key){b:ai}(hb:H b=some (.tup (k.map kV)))(ry:fY y u) :
  KT H (nZ kvs k y) (storedH xs k b u):=by
 have e:(kvs.any fun kv=>decide (kv.1=k))=(atKey xs k).isSome:=by
  rw [ng,(r.val k).isSome_eq,Option.isSome_map]
 unfold nZ storedH;rw [e]
 by_cases q:(atKey xs k).isSome=true
 ·rw [qR q,qR q];exact r.repl k ry
 ·rw [qQ q,qQ q];exact Paired.snoc r ⟨rfl,hb,ry⟩
theorem KT.keeps {xs:List (List Key×ai×aa)}(r:KT H kvs xs)(ht:∀ b ys,H b=some (.tup ys)→H' b=some (.tup ys)):KT H' kvs xs :=
 Paired.mapP r fun _ _ z=>⟨z.1,ht _ _ z.2.1,z.2.2⟩
theorem rd_of {u:HO}(ok:HOk P w H h)(e:Rd H a u):i7 P w H h a u:=e.ok ok
theorem dk_rd {kvs:List (Key×V)}(ok:HOk P w H h)(e:Rd H a (.dK kvs)):kvs.length≤aP∧(a == jA)=false∧∃ vs,KV kvs vs∧h.DictOf (iH P w) a vs :=
 show i7 P w H h a (.dK kvs) from rd_of ok e
theorem dk_of {kvs:List (Key×V)}(ok:HOk P w H h)(e:H a=some (.dK kvs)):kvs.length≤aP∧(a == jA)=false∧∃ vs,KV kvs vs∧h.DictOf (iH P w) a vs:=dk_rd ok (.inl e)
theorem key_of {ks:List Key}(ok:HOk P w H h)(e:H a=some (.tup (ks.map kV))):(tupleKind (iH P w)).is h ks a:=by
 obtain ⟨_,its,r,o,h1,h2,_,n,h3⟩:=(show i7 P w H h a (.tup (ks.map kV)) from ok a _ e);exact ⟨o,its.toArray,n,h1,h2,h3,by simpa using items_are r⟩
theorem dt_rd (ok:HOk P w H h)(e:Rd H a (.dT kvs)):kvs.length≤aP∧(a == jA)=false ∧
  ∃ xs,KT H kvs xs∧h.DictOfH (tupleKind (iH P w)) a xs:=by
 obtain ⟨z,y,xs,r,o,es,ep,h1,h2,h3,h4,h5⟩:=(show i7 P w H h a (.dT kvs) from rd_of ok e);refine ⟨z,y,xs,r,o,es,ep,h1,h2,h3,h4,fun x hx=>?_,h5⟩;have all:∀ {l:List (List Key×V)} {m:List (List Key×ai×aa)},KT H l m→∀ x∈m,(tupleKind (iH P w)).is h x.1 x.2.1:=by
  intro l m q
  induction q with
  | nil=>intro x hx;exact nomatch hx
  | @cons p q ps qs hq t ih =>
   intro x hx
   rcases aB.mp hx with e | hx
   ·subst e
    exact key_of ok (by rw [←hq.1];exact hq.2.1)
   ·exact ih x hx
 exact all r x hx
theorem dt_of (ok:HOk P w H h)(e:H a=some (.dT kvs)):kvs.length≤aP∧(a == jA)=false ∧
  ∃ xs,KT H kvs xs∧h.DictOfH (tupleKind (iH P w)) a xs:=dt_rd ok (.inl e)
def DGet (H:Hp)(a:ai)(y:V)(r:Option V):Prop :=
 (∃ kvs k,Rd H a (.dK kvs)∧y=kV k∧r=nU kvs k)∨∃ kvs k b,Rd H a (.dT kvs)∧y= .ref b∧H b=some (.tup (k.map kV))∧r=nU kvs k
def DPut (H:Hp)(a:ai)(y v:V)(H':Hp):Prop :=
 (∃ kvs k,H a=some (.dK kvs)∧y=kV k∧kvs.length<aP∧H'=upd H a (.dK (nZ kvs k v))) ∨
 ∃ kvs k b,H a=some (.dT kvs)∧y= .ref b∧H b=some (.tup (k.map kV))∧kvs.length<aP∧H'=upd H a (.dT (nZ kvs k v))
theorem DGet.k {H:Hp}{a:ai}{kvs:List (Key×V)}{k:Key}(e:H a=some (.dK kvs)):DGet H a (kV k) (nU kvs k):= .inl ⟨kvs,k,.inl e,rfl,rfl⟩
theorem DPut.k {H:Hp}{a:ai}{kvs:List (Key×V)}{k:Key}{v:V}(e:H a=some (.dK kvs))(hl:kvs.length<aP):DPut H a (kV k) v (upd H a (.dK (nZ kvs k v))):= .inl ⟨kvs,k,e,rfl,hl,rfl⟩
section
variable {r:aa}{o:Option V}
theorem d_getItem (hu:A.units+1<cLine)(I:Inv X aH σ H s)(g:DGet H a y (some v))(ry:fY y u)(h:∀ w' s',Inv X aH σ H s'→fY v w'→Q w' s') :
  aJ (aV X.prog X.w) A (getItem (.ref a) u) Q E s:=by
 rcases g with ⟨kvs,k,e,ey,l⟩ | ⟨kvs,k,b,e,ey,eb,l⟩
 ·subst ey
  obtain ⟨z,hd,vs,rel,dd⟩:=dk_rd I.hok e;obtain ⟨w',hw,rw'⟩:=qp.some_of (v:=v) (o:=valueAt vs k) (by rw [l];exact rel.val k);exact wpAny_getItem_of (kV_is ry) dd.mapOf hw (h w' _ (I.tok _) rw')
 ·subst ey
  cases (show u=aa.ref b from ry);obtain ⟨z,hd,xs,rel,dd⟩:=dt_rd I.hok e;obtain ⟨w',hw,rw'⟩:=qp.some_of (v:=v) (o:=(atKey xs k).map (·.2)) (by rw [l];exact rel.val k);obtain ⟨p,hp,hp2⟩:=bq.mp hw;refine wpAny_getItem_heap (tupleKind_room_in1 hu) (key_of I.hok eb) dd hp ?_;rw [hp2];exact h w' _ (I.tok _) rw'
theorem d_notIn (hu:A.units+1<cLine)(I:Inv X aH σ H s)(g:DGet H a y o)(ry:fY y u)(h:∀ s',Inv X aH σ H s'→Q (.bool (!o.isSome)) s') :
  aJ (aV X.prog X.w) A (gm .NotIn u (.ref a)) Q E s:=by
 rcases g with ⟨kvs,k,e,ey,l⟩ | ⟨kvs,k,b,e,ey,eb,l⟩
 ·subst ey
  obtain ⟨z,hd,vs,rel,dd⟩:=dk_rd I.hok e;refine wpAny_notIn_of (kV_is ry) hd dd.mapOf ?_;rw [←(rel.val k).isSome_eq,←l];exact h _ (I.tok _)
 ·subst ey
  cases (show u=aa.ref b from ry);obtain ⟨z,hd,xs,rel,dd⟩:=dt_rd I.hok e;refine wpAny_notIn_heap (tupleKind_room_in1 hu) (key_of I.hok eb) hd dd ?_;have q:=(rel.val k).isSome_eq;rw [Option.isSome_map] at q;rw [←q,←l];exact h _ (I.tok _)
theorem d_write {ob:HO}(I:Inv X aH σ H s)(mu:Mut (H a))(hs:dm a s.heap h')(he:∃ q,h'.get? a=some q)(new:i7 X.prog X.w (upd H a ob) h' a ob) :
  Inv X aH σ (upd H a ob) { s with heap:=h',toks:=t' } :=
 I.write (x:=a) (e:=a) mu (.inl rfl) (fun b q hb z=>(hs.2 b hb).trans z) he new
theorem dk_new {kvs:List (Key×V)}{vs:List (Key×aa)}(z:kvs.length≤aP)(hd:(a == jA)=false)(rel:KV kvs vs)(dd:h'.DictOf (iH P w) a vs) :
  i7 P w H' h' a (.dK kvs):=⟨z,hd,vs,rel,dd⟩
theorem d_setItem {Q:Unit→ao→Prop}(hu:A.units+1<cLine)(I:Inv X aH σ H s)(g:DPut H a y v H')(ry:fY y u)(rv:fY v r)(h:∀ s',Inv X aH σ H' s'→Q () s') :
  aJ (aV X.prog X.w) A (setItem (.ref a) u r) Q E s:=by
 rcases g with ⟨kvs,k,e,ey,l,eH⟩ | ⟨kvs,k,b,e,ey,eb,l,eH⟩
 ·subst ey eH
  obtain ⟨z,hd,vs,rel,dd⟩:=dk_of I.hok e;have hz:vs.length≤aP:=by rw [←rel.length];exact z
  have hl:(nZ kvs k v).length≤aP:=by have:=lE kvs k v;lia
  refine wpAny_setItem_pairs (hsz:=hz) (kV_is ry) dd fun h' dd' hs=>h _ ?_
  have he:∃ q,h'.get? a=some q:=let ⟨q,_,_,hq,_⟩:=dd';⟨q,hq⟩;exact d_write I (by rw [e];exact True.intro) hs he (dk_new hl hd (rel.put k rv) dd')
 ·subst ey eH
  cases (show u=aa.ref b from ry);obtain ⟨z,hd,xs,rel,dd⟩:=dt_of I.hok e;have hz:xs.length≤aP:=by rw [←Paired.length rel];exact z
  have hl:(nZ kvs k v).length≤aP:=by have:=lE kvs k v;lia
  refine wpAny_setItem_heap (hsz:=hz) (tupleKind_room_in1 hu) (key_of I.hok eb) dd fun h' dd' hs=>h _ ?_
  obtain ⟨q,es,ep,hq,h2,h3,h4,_,h5⟩:=dd';refine d_write I (by rw [e];exact True.intro) hs ⟨q,hq⟩ ⟨hl,hd,_,(rel.put k eb rv).keeps fun c ys ec=>?_,q,es,ep,hq,h2,h3,h4,h5⟩;rw [bc (d7 ec e (fun z=>nomatch z))];exact ec
end
def NoSl (i:Expr):Prop:=∀ ov iv,subscripted i false ov iv=operate [ov,iv] (getItem ov iv)
theorem subD_of {slice:Expr}{T id:String}
  (hl:typeLookup (.type T) "__getitem__" =fj (some (.builtin id))) (hs:NoSl slice)
  (h:aJ (aV prog w) A (dH value env) (fun o s₁=>aJ (aV prog w) A (dH slice env) (fun i s₂=>s₂.TypeIs o T∧aJ (aV prog w) A (getItem o i) Q E s₂) E s₁) E s) :
  aJ (aV prog w) A (dH (.Subscript value slice pos) env) Q E s:=by
 refine Subscript_ (bP h (fun o s₁ h₁=>bP h₁ (fun i s₂ h₂=>?_) fun _ _ x=>x) fun _ _ x=>x);obtain ⟨hT,h₂⟩:=h₂;unfold subscriptTail;refine af ?_;rw [getitemInPython_of_ne hT.not_modules];refine af (wpAny_specialOf hT hl ?_);have fin:aJ (aV prog w) A (subscripted slice false o i) (fun r s₃=>aJ (aV prog w) A (letTemporaryGo value o r >>= fun _=>fj r) Q E s₃) E s₂:=by
  rw [hs o i];exact wpAny_operating (bP h₂ (fun r s₃ h₃=>af (wpAny_letTemporaryGo (aC h₃))) fun _ _ x=>x)
 first
  | exact aC (af fin)
  | exact af (aC (af fin))
  | exact af fin
theorem dict_typeIs {o:Option V}(I:Inv X aH σ H s)(g:DGet H a y o):s.TypeIs (.ref a) "dict" := by
 rcases g with ⟨kvs,k,e,_,_⟩ | ⟨kvs,k,b,e,_,_,_⟩
 ·obtain ⟨_,_,vs,_,dd⟩:=dk_rd I.hok e
  exact dd.typeIs
 ·obtain ⟨_,_,xs,_,dd⟩:=dt_rd I.hok e
  exact dd.typeIs
def tDGet (td ty:TE):TE:=fun σ H Q=>td σ H fun x H1=>ty σ H1 fun y H2=>∃ a v,x= .ref a∧DGet H2 a y (some v)∧Q v H2
def tDNotIn (ty td:TE):TE:=fun σ H Q=>ty σ H fun y H1=>td σ H1 fun x H2=>∃ a o,x= .ref a∧DGet H2 a y o∧Q (.bl (!o.isSome)) H2
def sDPut (td ty tv:TE):TS:=fun D σ H=>tv σ H fun v H1=>td σ H1 fun x H2=>ty σ H2 fun y H3=>∃ a H4,x= .ref a∧DPut H3 a y v H4∧D.nx σ H4
section
variable {o i:Expr}{td ty:TE}
theorem pe_dget (hu:X.A.units+1<cLine)(ho:PE X o td)(hi:PE X i ty)(hs:NoSl i):PE X (.Subscript o i pos) (tDGet td ty):=by
 intro aH s σ H Q I h;refine subD_of PySem.F.slot_dict_getitem.lookup hs (thn (ho aH s σ H _ I h) fun u s1 ⟨x,H1,I1,rx,q1⟩=>thn (hi aH s1 σ H1 _ I1 q1) fun iv s2 ⟨y,H2,I2,ry,a,v,ex,g,q2⟩=>?_);subst ex;obtain rfl:u=aa.ref a:=rx;exact ⟨dict_typeIs I2 g,d_getItem hu I2 g ry fun w' s3 I3 rw'=>⟨v,H2,I3,rw',q2⟩⟩
theorem nF (hu:X.A.units+1<cLine)(hi:PE X i ty)(ho:PE X o td):PC X .NotIn i o (tDNotIn ty td):=by
 intro aH s σ H Q I h;refine thn (hi aH s σ H _ I h) fun iv s1 ⟨y,H1,I1,ry,q1⟩=>thn (ho aH s1 σ H1 _ I1 q1) fun u s2 ⟨x,H2,I2,rx,a,ov,ex,g,q2⟩=>?_
 subst ex;obtain rfl:u=aa.ref a:=rx;exact d_notIn hu I2 g ry fun s3 I3=>⟨.bl (!ov.isSome),H2,I3,rfl,q2⟩
theorem ps_dput (hu:X.A.units+1<cLine)(ho:PE X o td)(hi:PE X i ty)(hv:PE X value tv)(hs:kf value (some (.Subscript o i pos')) pos.line X.env=fj false) :
  PS X (.Assign [.Subscript o i pos'] value pos) (sDPut td ty tv):=by
 intro aH s σ H D I h;refine wpAny_Assign_Subscript (thn (hv aH s σ H _ I h) fun r s1 ⟨v,H1,I1,rv,q1⟩=>thn (ho aH s1 σ H1 _ I1 q1) fun u s2 ⟨x,H2,I2,rx,q2⟩=>thn (hi aH s2 σ H2 _ I2 q2) fun iv s3 ⟨y,H3,I3,ry,a,H4,ex,g,q3⟩=>?_) hs;subst ex;obtain rfl:u=aa.ref a:=rx;exact d_setItem hu I3 g ry rv fun s4 I4=>⟨σ,H4,I4,q3⟩
end
def tPairs:List (TE×TE)→St→Hp→(List (V×V)→Hp→Prop)→Prop
 | [],_,H,Q=>Q [] H
 | (tk,tv)::r,σ,H,Q=>tk σ H fun x H1=>tv σ H1 fun y H2=>tPairs r σ H2 fun ps H3=>Q ((x,y)::ps) H3
abbrev VV:List (V×V)→List (aa×aa)→Prop:=jU fun p q=>fY p.1 q.1∧fY p.2 q.2
def PPs (X:Cx)(pos:Pos)(keys:List (Option Expr))(values:List Expr)(trs:List (TE×TE)):Prop :=
 ∀ (aH:List (ai×Obj)) (s:ao) (σ:St) (H:Hp) (Q:List (V×V)→Hp→Prop),Inv X aH σ H s→tPairs trs σ H Q →
  aJ (aV X.prog X.w) X.A (evalPairs (pairTrees keys values X.env pos)) (fun vs s'=>∃ ps H',Inv X aH σ H' s'∧VV ps vs∧Q ps H') X.xe s
theorem pps_nil:PPs X pos [] [] []:=fun aH s σ H Q I h=>pairTrees_nil_walk ⟨[],H,I,.nil,h⟩
theorem pps_cons {k v:Expr}{ks:List (Option Expr)}{vs:List Expr}{tk:TE}(hk:PE X k tk)(hv:PE X v tv)(hr:PPs X pos ks vs trs) :
  PPs X pos (some k::ks) (v::vs) ((tk,tv)::trs):=fun aH s σ H Q I h =>
 pairTrees_cons_walk (thn (hk aH s σ H _ I h) fun u s1 ⟨x,H1,I1,rx,q1⟩=>thn (hv aH s1 σ H1 _ I1 q1) fun w2 s2 ⟨y,H2,I2,ry,q2⟩ =>
  thn (hr aH s2 σ H2 _ I2 q2) fun ws s3 ⟨ps,H3,I3,rel,q3⟩=>⟨(x,y)::ps,H3,I3,.cons ⟨rx,ry⟩ rel,q3⟩)
def nH (kvs more:List (Key×V)):List (Key×V):=more.foldl (fun acc kv=>nZ acc kv.1 kv.2) kvs
theorem KV.merge:∀ {more:List (Key×V)} {rs:List (Key×aa)} {kvs:List (Key×V)} {vs:List (Key×aa)},KV more rs→KV kvs vs→KV (nH kvs more) (merged vs rs):=by
 intro more rs kvs vs r;unfold KV at r
 induction r generalizing kvs vs with
 | nil=>intro q;exact q
 | @cons p q ps qs h t ih =>
  intro r0;have e:KV (nZ kvs p.1 p.2) (stored vs q.1 q.2):=by
   have:=r0.put p.1 h.2;rw [←h.1];exact this
  exact ih e
theorem nJ:∀ (more kvs:List (Key×V)),(nH kvs more).length≤kvs.length+more.length
 | [],kvs=>by show kvs.length≤kvs.length+0;lia
 | p::r,kvs=>by
  have h1:=nJ r (nZ kvs p.1 p.2);have h2:=lE kvs p.1 p.2;show (nH (nZ kvs p.1 p.2) r).length≤_;rw [aM];lia
theorem qM {P:aN}{w:bp}:∀ {kvs:List (Key×V)} {ws:List (aa×aa)},VV (kvs.map fun kv=>(kV kv.1,kv.2)) ws→∃ rs,Carries (iH P w) ws rs∧KV kvs rs
 | [],_,r=>by rw [List.map_nil] at r;cases r;exact ⟨[],True.intro,.nil⟩
 | p::kvs,_,r=>by
  rw [bZ] at r;cases r with
  | @cons a b as bs h t =>
   obtain ⟨rs,c,q⟩:=qM (P:=P) (w:=w) t;obtain ⟨b1,b2⟩:=b;exact ⟨(p.1,b2)::rs,⟨kV_is h.1,rfl,c⟩,.cons ⟨rfl,h.2⟩ q⟩
def tDisp (trs:List (TE×TE)):TE:=fun σ H Q=>∀ p,H p=none→tPairs trs σ (upd H p (.dK [])) fun ps H2=>H2 p=some (.dK [])∧∃ kvs:List (Key×V),ps=kvs.map (fun kv=>(kV kv.1,kv.2))∧kvs.length≤15∧Q (.ref p) (upd H2 p (.dK (nH [] kvs)))
theorem pe_disp {values:List Expr}(h:PPs X pos keys values trs)(hall:keys.all (·.isSome)=true)(hl:keys.length=values.length)(h0:keys≠[])
  (h15:keys.length≤15):PE X (.Dict keys values pos) (tDisp trs):=by
 intro aH s σ H Q I q;have hn:=I.hok.fresh (aA s.heap.objs.size);have I1:=I.laid (a:=s.heap.objs.size) (o:= .dK []) (h':=s.heap.push { cls:= .type "dict",data:= .dict #[] }) (t':=s.toks) (fun _ _ q=>ar _ q) (aA _) (dk_empty s.heap I.big);refine wpAny_Dict_walk (knd:=iH X.prog X.w) hall hl h0 h15 (thn (h aH _ σ _ _ I1 (q _ hn)) fun ws s2 ⟨ps,H2,I2,rel,e,kvs,ep,lk,q2⟩=>?_);subst ep;obtain ⟨rs,c,rk⟩:=qM (P:=X.prog) (w:=X.w) rel;obtain ⟨z,hd,vs0,r0,dd⟩:=dk_of I2.hok e;cases r0;refine ⟨rs,c,dd,fun h' dd' hs=>⟨.ref s.heap.objs.size,_,?_,rfl,q2⟩⟩;have hz:(nH [] kvs).length≤aP:=by
  have h1:=nJ kvs [];rw [List.length_nil] at h1;rw [eY];lia
 have he:∃ q,h'.get? s.heap.objs.size=some q:=let ⟨q,_,_,hq,_⟩:=dd';⟨q,hq⟩;exact d_write I2 (by rw [e];exact True.intro) hs he (dk_new hz hd (rk.merge .nil) dd')
end L2
namespace Att
open PySem PySem.W PySem.Calls PyProof.Rows
end Att
namespace L2
open PySem PySem.Spec PyProof.Rows
theorem oF {α β:Type}{f:α→β→Sem (ForInStep β)}{Q:β→ao→Prop}:∀ (l:List α) (I:Nat→β→ao→Prop) (b:β) (s:ao),I 0 b s →
  (∀ i a b s,l[i]? =some a→I i b s→aJ M A (f a b) (fun r s'=>∃ b',r= .yield b'∧I (i+1) b' s') E s)→(∀ b s,I l.length b s→Q b s)→aJ M A (forIn l b f) Q E s
 | [],_,b,s,h0,_,hd=>by
  rw [List.forIn_nil];exact aC (hd b s h0)
 | a::l,I,b,s,h0,hs,hd=>by
  rw [List.forIn_cons];refine af (bP (hs 0 a b s rfl h0) (fun r s' ⟨b',e,h'⟩=>?_) fun _ _ f=>f);subst e;exact oF l (fun i=>I (i+1)) b' s' h' (fun i a b s ha hi=>hs (i+1) a b s ha hi) fun b s h=>hd b s h
structure Sq where
 l:Bool
 a:ai
def SqAt (h:bz)(c:Sq)(xs:Array aa):Prop:=match c.l with | true=>h.IsList c.a xs | false=>h.IsTuple c.a xs
def ItAt (h:bz)(c:Sq)(i:ai)(k:Nat):Prop:=match c.l with | true=>h.IsListIter i c.a k | false=>h.IsTupleIter i c.a k
abbrev mZ (h:bz)(T:ai)(vs:List aa):Prop:=h.get? T=some { cls:= .type "tuple",data:= .seq vs.toArray }
theorem SqAt.ext {g:bz}{c:Sq}{xs:Array aa}(x:SqAt h c xs)(e:∀ o,h.get? c.a=some o→g.get? c.a=some o):SqAt g c xs:=by
 obtain ⟨l,a⟩:=c;cases l with
 | true=>obtain ⟨o,ho,r⟩:=(show h.IsList a xs from x);exact ⟨o,e o ho,r⟩
 | false=>obtain ⟨o,ho,r⟩:=(show h.IsTuple a xs from x);exact ⟨o,e o ho,r⟩
theorem ItAt.ext {g:bz}{c:Sq}{i:ai}{k:Nat}(x:ItAt h c i k)(e:∀ o,h.get? i=some o→g.get? i=some o):ItAt g c i k:=by
 obtain ⟨l,a⟩:=c;cases l with
 | true=>obtain ⟨o,ho,r⟩:=(show h.IsListIter i a k from x);exact ⟨o,e o ho,r⟩
 | false=>obtain ⟨o,ho,r⟩:=(show h.IsTupleIter i a k from x);exact ⟨o,e o ho,r⟩
theorem ItAt.obj {c:Sq}{i:ai}{k:Nat}(x:ItAt h c i k):∃ o,h.get? i=some o∧∀ v,o.data≠ .cell v:=by
 obtain ⟨l,a⟩:=c;cases l with
 | true=>obtain ⟨o,ho,_,d⟩:=(show h.IsListIter i a k from x);exact ⟨o,ho,fun v z=>by rw [d] at z;cases z⟩
 | false=>obtain ⟨o,ho,_,d⟩:=(show h.IsTupleIter i a k from x);exact ⟨o,ho,fun v z=>by rw [d] at z;cases z⟩
theorem qH {c:Sq}{i:ai}{k:Nat}{xs:Array aa}{v:aa}(jt:ItAt s.heap c i k)(tt:SqAt s.heap c xs)(hv:xs[k]? =some v)
  (q:∀ g,ItAt g c i (k+1)→dm i s.heap g→Q v { s with heap:=g }):aJ (aV prog w) A (cH (.ref i)) Q E s:=by
 obtain ⟨l,a⟩:=c;cases l with
 | true=>exact wpAny_nextOf_list_item (show s.heap.IsListIter i a k from jt) (show s.heap.IsList a xs from tt) hv fun g h1 h2=>q g h1 h2
 | false=>exact nextT_item (show s.heap.IsTupleIter i a k from jt) (show s.heap.IsTuple a xs from tt) hv fun g h1 h2=>q g h1 h2
theorem nextS_end {c:Sq}{i:ai}{k:Nat}{xs:Array aa}(hh:A.handled=none)(jt:ItAt s.heap c i k)(tt:SqAt s.heap c xs)(hv:xs[k]? =none)
  (q:∀ g x,bz.ExtBut i s.heap g→(∃ o,g.get? x=some o∧o.cls= .type "StopIteration")→E (.ref x) { s with heap:=g }):aJ (aV prog w) A (cH (.ref i)) Q E s:=by
 obtain ⟨l,a⟩:=c;cases l with
 | true=>exact wpAny_nextOf_list_end hh (show s.heap.IsListIter i a k from jt) (show s.heap.IsList a xs from tt) hv fun g x h1 h2=>q g x h1 h2
 | false=>exact nextT_end hh (show s.heap.IsTupleIter i a k from jt) (show s.heap.IsTuple a xs from tt) hv fun g x h1 h2=>q g x h1 h2
theorem iterS {c:Sq}{xs:Array aa}(tt:SqAt s.heap c xs)
  (q:∀ g,ItAt g c s.heap.objs.size 0→g.objs.size=s.heap.objs.size+1→(∀ b o,s.heap.get? b=some o→g.get? b=some o)→Q (.ref s.heap.objs.size) { s with heap:=g }):aJ (aV prog w) A (pyIter (.ref c.a)) Q E s:=by
 obtain ⟨l,a⟩:=c;cases l with
 | true=>exact wpAny_pyIter_list (show s.heap.IsList a xs from tt) (q _ ⟨_,aU _ rfl,rfl,rfl⟩ (fc ..) fun b o e=>ar _ e)
 | false=>exact wpAny_pyIter_tuple (show s.heap.IsTuple a xs from tt) (q _ ⟨_,aU _ rfl,rfl,rfl⟩ (fc ..) fun b o e=>ar _ e)
theorem updRow {x:aa}{k:Nat}{Q:Unit→ao→Prop}(hT:mZ s.heap T vs)(hz:vs.length≤100)
  (h:∀ g,mZ g T (vs.set k x)→dm T s.heap g→Q () { s with heap:=g }):aJ (aV prog w) A (updateSeq T (·.setIfInBounds k x)) Q E s:=by
 refine wpAny_updateSeq hT rfl (h _ ?_ (fS ..)) (by rw [aD];exact aS hz (by decide)) (by rw [Array.size_setIfInBounds,aD];exact aS hz (by decide));show bz.get? _ T=_;rw [eR _ hT rfl];simp [cx]
structure ZIn (h g:bz)(z TI TO:ai)(cs:List Sq)(is:List ai)(k j:Nat)(vs old:List aa):Prop where
 sz:g.objs.size=h.objs.size
 zip:IsZip g z TI TO .ellipsis
 row:mZ g TO (vs.take j++old.drop j)
 its:∀ (n:Nat) c i,cs[n]? =some c→is[n]? =some i→ItAt g c i (if n<j then k+1 else k)
 ext:∀ e o,e≠z→e≠TO→e ∉ is→h.get? e=some o→g.get? e=some o
structure ZOk (h:bz)(z TI TO:ai)(cs:List Sq)(is:List ai)(k:Nat)(old:List aa):Prop where
 len:is.length=cs.length
 few:cs.length≤8
 pos:0<cs.length
 nod:(z::TI::TO::is).Nodup
 zip:IsZip h z TI TO .none
 ti:mZ h TI (is.map aa.ref)
 to:mZ h TO old
 lo:old.length=cs.length
 its:∀ (n:Nat) c i,cs[n]? =some c→is[n]? =some i→ItAt h c i k
 off:∀ c∈cs,c.a≠z∧c.a≠TO∧c.a ∉ is
theorem nod_ne {is:List ai}{i:ai}{e:ai}(hn:is.Nodup)(h1:is[j]? =some i)(h2:is[n]? =some e)(h:n≠j):e≠i:=fun z=>by
 subst z;have a:=(av.mp h1);have b:=(av.mp h2);obtain ⟨ha,ea⟩:=a;obtain ⟨hb,eb⟩:=b;exact h ((List.getElem_inj hn).mp (eb.trans ea.symm))
theorem ZIn.step {g:bz}{z TI TO:ai}{cs:List Sq}{is:List ai}{k:Nat}{i:ai}{c:Sq}(D:ZOk h z TI TO cs is k old)(Z:ZIn h g z TI TO cs is k j vs old)(hi:is[j]? =some i)(hc:cs[j]? =some c){g2 g3:bz}{v:aa}(hv:vs[j]? =some v)(lv:vs.length=cs.length)
  (n2:ItAt g2 c i (k+1)) (s2:dm i g g2) (r3:mZ g3 TO ((vs.take j++old.drop j).set j v)) (s3:dm TO g2 g3):ZIn h g3 z TI TO cs is k (j+1) vs old:=by
 have nod:=D.nod;rw [bF,bF,bF] at nod;obtain ⟨nz,nT,nO,ni⟩:=nod;have mi:i∈is:=aY hi;have iz:z≠i:=fun q=>nz (by rw [q];simp [mi])
 have iO:TO≠i:=fun q=>nO (by rw [q];exact mi)
 have zO:z≠TO:=fun q=>nz (by rw [q];simp)
 have jl:j<cs.length:=(av.mp hc).1;refine ⟨by rw [s3.1,s2.1,Z.sz],s3.extBut _ _ zO (s2.extBut _ _ iz Z.zip),?_,fun n c' i' hc' hi'=>?_,fun e o e1 e2 e3 q=>s3.extBut _ _ e2 (s2.extBut _ _ (fun y=>e3 (by rw [y];exact mi)) (Z.ext e o e1 e2 e3 q))⟩
 ·have lo:=D.lo
  have e:(vs.take j++old.drop j).set j v=vs.take (j+1)++old.drop (j+1):=by
   have l1:(vs.take j).length=j:=by rw [bH];lia
   rw [List.set_append,qQ (by lia),l1,Nat.sub_self,List.drop_eq_getElem_cons (by lia:j<old.length),List.set_cons_zero,bj,hv];simp
  rw [←e];exact r3
 ·have mi':i'∈is:=aY hi'
  have iO':i'≠TO:=fun q=>nO (by rw [←q];exact mi')
  by_cases e:n=j
  ·subst e
   rw [hi] at hi';rw [hc] at hc';cases hi';cases hc';rw [qR (by lia)];exact n2.ext fun o q=>s3.extBut _ _ iO' q
  ·have q:=Z.its n c' i' hc' hi'
   have e2:(if n<j+1 then k+1 else k)=(if n<j then k+1 else k):=by
    by_cases y:n<j
    ·rw [qR y,qR (by lia)]
    ·rw [qQ y,qQ (by lia)]
   rw [e2];exact q.ext fun o r=>s3.extBut _ _ iO' (s2.extBut _ _ (nod_ne ni hi hi' e) r)
theorem zipS_go {z TI TO:ai}{cs:List Sq}{is:List ai}{k:Nat}{Q:Option aa→ao→Prop}(D:ZOk s.heap z TI TO cs is k old)
  (hv:∀ (n:Nat) c,cs[n]? =some c→∃ xs v,SqAt s.heap c xs∧xs[k]? =some v∧vs[n]? =some v) (lv:vs.length=cs.length)
  (q:∀ g,IsZip g z TI TO (gM s.heap.objs.size)→mZ g TO vs→(∀ (n:Nat) c i,cs[n]? =some c→is[n]? =some i→ItAt g c i (k+1))→mZ g s.heap.objs.size vs→g.objs.size=s.heap.objs.size+1 →
   (∀ e o,e≠z→e≠TO→e ∉ is→s.heap.get? e=some o→g.get? e=some o)→Q (some (.ref s.heap.objs.size)) { s with heap:=g }):aJ (aV prog w) A (pyNext (.ref z)) Q E s:=by
 have hT:s.TypeIs (.ref z) "zip" := ⟨_,D.zip,rfl⟩;have nod:=D.nod;rw [bF,bF,bF] at nod;obtain ⟨nz,nT,nO,ni⟩:=nod;have zO:z≠TO:=fun q=>nz (by rw [q];simp)
 have few:=D.few;have len:=D.len;unfold pyNext;refine af (wpAny_attempt (fu (name:=cV "__next__") hT F.slot_zip_next (iU F.slot_zip_next hT F.entry_zip_next ?_ (F.args_zip_next_1 _))));show aJ _ _ (field (.ref z) 2 >>= _) _ _ s;refine af (cG D.zip rfl (x:= .bool false) (by rfl) ?_);show aJ _ _ (field (.ref z) 3 >>= _) _ _ s;refine af (cG D.zip rfl (x:= .ref TI) (by rfl) ?_);refine af (fq D.ti rfl ?_)
 dsimp only
 rw [qQ (by intro y;rw [Array.isEmpty_iff_size_eq_zero,aD,ae,len] at y;have:=D.pos;lia)];refine af ?_;unfold kQ;refine af (cG D.zip rfl (x:= .none) (by rfl) (aC ?_));simp only [if_true];refine af (wpAny_rule ?_);refine af (cG D.zip rfl (x:= .ref TO) (by rfl) ?_);refine af (jz D.zip (by simp) fun g1 z1 s1=>?_);have z1:IsZip g1 z TI TO .ellipsis:=z1;refine af ?_;refine oF _ (fun j b s'=>b=_∧∃ g,s'={ s with heap:=g }∧ZIn s.heap g z TI TO cs is k j vs old) _ _ ⟨rfl,g1,rfl,?_⟩ ?_ ?_
 ·refine ⟨s1.1,z1,s1.extBut _ _ zO.symm D.to,fun n c i hc hi=>?_,fun e o e1 _ _ h=>s1.extBut _ _ e1 h⟩
  rw [qQ (by lia)];exact (D.its n c i hc hi).ext fun o h=>s1.extBut _ _ (fun y=>nz (by rw [←y];simp [aY hi])) h
 ·rintro j a b s' ha ⟨rfl,g,rfl,Z⟩
  rw [List.getElem?_zipIdx] at ha;obtain ⟨x,hx,rfl⟩:=bq.mp ha;have hx:(is.map aa.ref)[j]? =some x:=by simpa using hx
  rw [az] at hx;obtain ⟨i,hi,rfl⟩:=bq.mp hx;have jl:j<cs.length:=by rw [←len];exact (av.mp hi).1
  have hc:cs[j]? =some cs[j]:=gE jl;obtain ⟨xs,v,hq,hxv,hvv⟩:=hv j _ hc;obtain ⟨o1,o2,o3⟩:=D.off _ (bK jl);have it:=Z.its j _ i hc hi;rw [qQ (by lia)] at it
  dsimp only
  refine af (wpAny_onRaise ?_);show aJ _ _ (cH (.ref i) >>= _) _ _ _;refine af (qH it (hq.ext fun o h=>Z.ext _ o o1 o2 o3 h) hxv fun g2 n2 s2=>aC ?_);have iO:TO≠i:=fun q=>nO (by rw [q];exact aY hi)
  have r2:mZ g2 TO (vs.take j++old.drop j):=s2.extBut _ _ iO Z.row;refine af (fq r2 rfl ?_);refine af (updRow (x:=v) (k:=0+j) r2 (by rw [au,bH,cM];have:=D.lo;lia) fun g3 r3 s3=>?_);rw [Nat.zero_add] at r3;refine af (ku (aC ⟨_,rfl,rfl,g3,rfl,Z.step D hi hc hvv lv n2 s2 r3 s3⟩))
 ·rintro b s' ⟨rfl,g5,rfl,Z⟩
  have ll:((is.map aa.ref).toArray.toList.zipIdx).length=cs.length:=by simp [len]
  rw [ll] at Z;have z5:=Z.zip;have o5:mZ g5 TO vs:=by
   have:=Z.row;rw [←lv,bh,lv,←D.lo,List.drop_length,cK] at this;exact this
  have m5:∀ (n:Nat) c i,cs[n]? =some c→is[n]? =some i→ItAt g5 c i (k+1):=fun n c i hc hi=>by
   have:=Z.its n c i hc hi;rw [qR (av.mp hc).1] at this;exact this
  dsimp only
  refine af (fq o5 rfl ?_);refine af (wpAny_newTuple ?_);have zlt:z<g5.objs.size:=aE z5;have sz:=Z.sz;refine af ?_;unfold cZ.SmallTypes.ownedTupleHandOut;have z6:IsZip (g5.push { cls:= .type "tuple",data:= .seq vs.toArray }) z TI TO .ellipsis:=ar _ z5;refine af (jz z6 (by simp) fun g7 z7 s7=>?_);have z7:IsZip g7 z TI TO (gM g5.objs.size):=z7;refine jz z7 (by simp) fun g8 z8 s8=>?_
  have z8:IsZip g8 z TI TO (gM g5.objs.size):=z8;have up:∀ e o,e≠z→g5.get? e=some o→g8.get? e=some o:=fun e o c1 h=>s8.extBut _ _ c1 (s7.extBut _ _ c1 (ar _ h))
  have t8:mZ g8 g5.objs.size vs:=s8.extBut _ _ (cy zlt) (s7.extBut _ _ (cy zlt) (aU _ rfl));have sz8:g8.objs.size=g5.objs.size+1:=by rw [s8.1,s7.1,fc]
  rw [sz] at z8 t8 sz8;refine aC ⟨_,rfl,?_⟩;refine aC ?_;show Q (some (.ref g5.objs.size)) _;rw [sz];refine q g8 z8 (up _ _ zO.symm o5) (fun n c i hc hi=>(m5 n c i hc hi).ext fun o h=>up _ o (fun y=>nz (by rw [←y];simp [aY hi])) h) t8 sz8 fun e o c1 c2 c3 h=>up e o c1 (Z.ext e o c1 c2 c3 h)
theorem zipS_stop {z TI TO:ai}{cs:List Sq}{is:List ai}{k:Nat}{cm:Sq}{Q:Option aa→ao→Prop}(hh:A.handled=none)(D:ZOk s.heap z TI TO cs is k old)
  (hv:∀ (n:Nat) c,cs[n]? =some c→n<m→∃ xs v,SqAt s.heap c xs∧xs[k]? =some v∧vs[n]? =some v) (lv:vs.length=cs.length) (hm:cs[m]? =some cm) {xm:Array aa} (hxm:SqAt s.heap cm xm) (hem:xm[k]? =none)
  (q:∀ g,(∀ e o,e≠z→e≠TO→e ∉ is→s.heap.get? e=some o→g.get? e=some o)→Q none { s with heap:=g }):aJ (aV prog w) A (pyNext (.ref z)) Q E s:=by
 have hT:s.TypeIs (.ref z) "zip" := ⟨_,D.zip,rfl⟩;have nod:=D.nod;rw [bF,bF,bF] at nod;obtain ⟨nz,nT,nO,ni⟩:=nod;have zO:z≠TO:=fun q=>nz (by rw [q];simp)
 have few:=D.few;have len:=D.len;have fin:∀ g x,(∀ e o,e≠z→e≠TO→e ∉ is→s.heap.get? e=some o→g.get? e=some o)→(∃ o,g.get? x=some o∧o.cls= .type "StopIteration") →
   aJ (aV prog w) A (do if ← isInstance (.ref x) (.type "StopIteration") then fj none else throw (.ref x)) Q E { s with heap:=g }:=fun g x k ⟨o,ho,hc⟩=>by
  refine af (wpAny_isInstance (T := "StopIteration") (b:=true) ⟨o,ho,hc⟩ isSubtype_stop ?_);exact aC (q g k)
 have ml:m<cs.length:=(av.mp hm).1;unfold pyNext;refine af (wpAny_attempt (fu (name:=cV "__next__") hT F.slot_zip_next (iU F.slot_zip_next hT F.entry_zip_next ?_ (F.args_zip_next_1 _))));show aJ _ _ (field (.ref z) 2 >>= _) _ _ s;refine af (cG D.zip rfl (x:= .bool false) (by rfl) ?_);show aJ _ _ (field (.ref z) 3 >>= _) _ _ s;refine af (cG D.zip rfl (x:= .ref TI) (by rfl) ?_);refine af (fq D.ti rfl ?_)
 dsimp only
 rw [qQ (by intro y;rw [Array.isEmpty_iff_size_eq_zero,aD,ae,len] at y;have:=D.pos;lia)];refine af ?_;unfold kQ;refine af (cG D.zip rfl (x:= .none) (by rfl) (aC ?_));simp only [if_true];refine af (wpAny_rule ?_);refine af (cG D.zip rfl (x:= .ref TO) (by rfl) ?_);refine af (jz D.zip (by simp) fun g1 z1 s1=>?_);have z1:IsZip g1 z TI TO .ellipsis:=z1;refine af ?_;refine oF _ (fun j b s'=>b=_∧j≤m∧∃ g,s'={ s with heap:=g }∧ZIn s.heap g z TI TO cs is k j vs old) _ _ ⟨rfl,bD _,g1,rfl,?_⟩ ?_ ?_
 ·refine ⟨s1.1,z1,s1.extBut _ _ zO.symm D.to,fun n c i hc hi=>?_,fun e o e1 _ _ h=>s1.extBut _ _ e1 h⟩
  rw [qQ (by lia)];exact (D.its n c i hc hi).ext fun o h=>s1.extBut _ _ (fun y=>nz (by rw [←y];simp [aY hi])) h
 ·rintro j a b s' ha ⟨rfl,jm,g,rfl,Z⟩
  rw [List.getElem?_zipIdx] at ha;obtain ⟨x,hx,rfl⟩:=bq.mp ha;have hx:(is.map aa.ref)[j]? =some x:=by simpa using hx
  rw [az] at hx;obtain ⟨i,hi,rfl⟩:=bq.mp hx;have jl:j<cs.length:=by rw [←len];exact (av.mp hi).1
  have hc:cs[j]? =some cs[j]:=gE jl;obtain ⟨o1,o2,o3⟩:=D.off _ (bK jl);have it:=Z.its j _ i hc hi;rw [qQ (by lia)] at it;have iO:TO≠i:=fun q=>nO (by rw [q];exact aY hi)
  have iz:z≠i:=fun q=>nz (by rw [q];simp [aY hi])
  dsimp only
  refine af (wpAny_onRaise ?_);show aJ _ _ (cH (.ref i) >>= _) _ _ _
  by_cases e:j=m
  ·subst e
   rw [hc] at hm;cases hm;refine af (nextS_end hh it (hxm.ext fun o h=>Z.ext _ o o1 o2 o3 h) hem fun g2 x s2 hx2=>?_);obtain ⟨oe,e1,e2⟩:=hx2;have z2:IsZip g2 z TI TO .ellipsis:=s2 _ _ iz Z.zip;have xz:x≠z:=fun r=>by subst r;rw [z2] at e1;cases e1;simp at e2
   exact jz z2 (by simp) fun g3 _ s3=>fin g3 x (fun e o c1 c2 c3 h=>s3.extBut _ _ c1 (s2 _ _ (fun y=>c3 (by rw [y];exact aY hi)) (Z.ext e o c1 c2 c3 h))) ⟨oe,s3.extBut _ _ xz e1,e2⟩
  ·obtain ⟨xs,v,hq,hxv,hvv⟩:=hv j _ hc (by lia)
   refine af (qH it (hq.ext fun o h=>Z.ext _ o o1 o2 o3 h) hxv fun g2 n2 s2=>aC ?_);have r2:mZ g2 TO (vs.take j++old.drop j):=s2.extBut _ _ iO Z.row;refine af (fq r2 rfl ?_);refine af (updRow (x:=v) (k:=0+j) r2 (by rw [au,bH,cM];have:=D.lo;lia) fun g3 r3 s3=>?_);rw [Nat.zero_add] at r3;refine af (ku (aC ⟨_,rfl,rfl,by lia,g3,rfl,Z.step D hi hc hvv lv n2 s2 r3 s3⟩))
 ·rintro b s' ⟨rfl,jm,g5,rfl,Z⟩
  have ll:((is.map aa.ref).toArray.toList.zipIdx).length=cs.length:=by simp [len]
  rw [ll] at jm;lia
theorem mX {α:Type}{P:Nat→α→Prop}:∀ (k:Nat),(∀ n,n<k→∃ u,P n u)→∃ us:List α,us.length=k∧∀ (n:Nat) u,us[n]? =some u→P n u
 | 0,_=>⟨[],rfl,fun n u h=>by simp at h⟩
 | k+1,h=>by
  obtain ⟨us,hl,hu⟩:=mX k fun n hn=>h n (by lia)
  obtain ⟨u,pu⟩:=h k (by lia);refine ⟨us++[u],by rw [au,hl];rfl,fun n v hv=>?_⟩
  by_cases e:n<us.length
  ·rw [eP e] at hv
   exact hu n v hv
  ·rw [bO (by lia)] at hv
   have hn:n=us.length:=by
    have:=(av.mp hv).1;simp at this;lia
   subst hn;rw [Nat.sub_self] at hv;cases hv;rw [hl];exact pu
theorem vals_of:∀ {vs:List V} {us:List aa},vs.length=us.length→(∀ (n:Nat) v u,vs[n]? =some v→us[n]? =some u→fY v u)→fN vs us
 | [],[],_,_=> .nil
 | v::vs,u::us,hl,h=> .cons (h 0 v u rfl rfl) (vals_of (by simpa using hl) fun n v' u' a b=>h (n+1) v' u' a b)
 | [],_::_,hl,_=>by simp at hl
 | _::_,[],hl,_=>by simp at hl
def HSq (H:Hp)(c:Sq)(xs:List V):Prop:=match c.l with | true=>H c.a=some (.lst xs) | false=>H c.a=some (.tup xs)
theorem HSq.inj {c:Sq}(a:HSq H c xs)(b:HSq H c ys):xs=ys:=by
 obtain ⟨l,q⟩:=c;cases l with
 | true=>have a:H q=some (.lst xs):=a;have b:H q=some (.lst ys):=b;rw [a] at b;cases b;rfl
 | false=>have a:H q=some (.tup xs):=a;have b:H q=some (.tup ys):=b;rw [a] at b;cases b;rfl
theorem HSq.has {c:Sq}(a:HSq H c xs):∃ o,H c.a=some o:=by
 obtain ⟨l,q⟩:=c;cases l with
 | true=>exact ⟨_,a⟩
 | false=>exact ⟨_,a⟩
theorem HSq.at {c:Sq}(I:Inv X aH σ H s)(h:HSq H c xs):∃ its,fN xs its∧SqAt s.heap c its.toArray:=by
 obtain ⟨l,q⟩:=c;cases l with
 | true =>
  obtain ⟨its,r,p,_⟩:=I.list (SqL.of (K:=X.K) (show H q=some (.lst xs) from h));exact ⟨its,r,p.isList⟩
 | false =>
  obtain ⟨its,r,p,_⟩:=I.tuple (SqT.of (K:=X.K) (show H q=some (.tup xs) from h));exact ⟨its,r,p⟩
def Itq (cs:List Sq):It :=
 ⟨fun i H=>∃ vs:List V,vs.length=cs.length∧∀ (n:Nat) c,cs[n]? =some c→∃ xs x,HSq H c xs∧xs[i]? =some x∧vs[n]? =some x,
  fun i H v H'=>∃ p vs,H p=none∧v= .ref p∧H'=upd H p (.tup vs)∧vs.length=cs.length∧∀ (n:Nat) c x xs,cs[n]? =some c→HSq H c xs→vs[n]? =some x→xs[i]? =some x,
  fun i H=>∃ m cm xm,cs[m]? =some cm∧HSq H cm xm∧xm.length≤i∧∀ (n:Nat) c,cs[n]? =some c→n<m→∃ xs x,HSq H c xs∧xs[i]? =some x⟩
theorem turn_zipS {k0}{z TI TO:ai}{cs:List Sq}{is:List ai} :
  Turn P w K (.Tuple es k0 pos) (Itq cs) (z::TI::TO::is) z (fun i h=>∃ old,ZOk h z TI TO cs is i old) where
 mem:=by simp
 obj:=fun i h st c hc=>by
  obtain ⟨old,D⟩:=st;simp only [aB] at hc
  rcases hc with rfl | rfl | rfl | hc
  ·exact ⟨_,D.zip,fun v z=>by cases z⟩
  ·exact ⟨_,D.ti,fun v z=>by cases z⟩
  ·exact ⟨_,D.to,fun v z=>by cases z⟩
  ·obtain ⟨n,hn⟩:=List.getElem?_of_mem hc
   have hl:n<cs.length:=by rw [←D.len];exact (av.mp hn).1
   exact (D.its n _ c (gE hl) hn).obj
 keep:=fun i h h' st k=>by
  obtain ⟨old,D⟩:=st;exact ⟨old,D.len,D.few,D.pos,D.nod,k z (by simp) _ D.zip,k TI (by simp) _ D.ti,k TO (by simp) _ D.to,D.lo,fun n c i hc hi=>(D.its n c i hc hi).ext fun o e=>k i (by simp [aY hi]) o e,D.off⟩
 item:=by
  intro X hP hw hK hc i aH s σ H E I hf st hg;subst hP hw hK;obtain ⟨old,D⟩:=st;obtain ⟨vs,lv,hv⟩:=hg;have nz:∀ e∈z::TI::TO::is,H e=none:=fun e he=>(hf e he).1
  have hT:H s.heap.objs.size=none:=I.fresh;have ex:∀ n,n<cs.length→∃ u:aa,(∀ c,cs[n]? =some c→∃ xs,SqAt s.heap c xs∧xs[i]? =some u)∧∀ v,vs[n]? =some v→fY v u:=fun n hn=>by
   obtain ⟨xs,x,h1,h2,h3⟩:=hv n _ (gE hn);obtain ⟨its,r,p⟩:=h1.at I;obtain ⟨u,hu,ru⟩:=r.get h2;refine ⟨u,fun c hc=>?_,fun v hv'=>?_⟩
   ·rw [gE hn] at hc
    cases hc;exact ⟨_,p,by simpa using hu⟩
   ·rw [h3] at hv'
    cases hv';exact ru
  obtain ⟨us,lu,hu⟩:=mX cs.length ex;have hrel:fN vs us:=vals_of (by lia) fun n v u a b=>(hu n u b).2 v a
  refine zipS_go D (vs:=us) (fun n c hc=>?_) lu fun g z1 to1 m1 tp sz kk=>⟨_,rfl,?_⟩
  ·have hn:n<us.length:=by rw [lu];exact (av.mp hc).1
   obtain ⟨xs,a,b⟩:=(hu n _ (gE hn)).1 c hc;exact ⟨xs,us[n],a,b,gE hn⟩
  refine wpAny_letOwnedTupleGo_zip z1 fun g2 z2 s2=>?_
  have s2:dm z g g2:=s2;have k2:∀ e o,e ∉ z::TO::is→s.heap.get? e=some o→g2.get? e=some o:=fun e o hn h=>by
   simp only [aB,not_or] at hn;exact s2.extBut _ _ hn.1 (kk e o hn.1 hn.2.1 hn.2.2 h)
  have zlt:z<s.heap.objs.size:=aE D.zip;have tp2:mZ g2 s.heap.objs.size us:=s2.extBut _ _ (cy zlt) tp;have sub:∀ e∈z::TO::is,e∈z::TI::TO::is:=fun e he=>by
   simp only [aB] at he ⊢
   rcases he with rfl | rfl | he <;> simp [*]
  have trk:∀ e o,H e=some o→e ∉ z::TO::is:=fun e o he hm=>by rw [nz e (sub e hm)] at he;cases he
  have J:Inv X aH σ (upd H s.heap.objs.size (.tup vs)) { s with heap:=g2 }:=by
   refine I.turnAll (ch:=z::TO::is) (fun e he=>hf e (sub e he)) k2 (fun e o h=>by rw [bc (bw h hT)];exact h) (fun e o h n=>by rw [bc (bE (aE h))];exact n) fun e o h=>?_
   by_cases q:e=s.heap.objs.size
   ·subst q
    rw [aX] at h;cases h;exact ⟨by rw [lv];exact aS D.few (by decide),us,hrel,_,tp2,rfl,rfl,_,rfl⟩
   ·rw [bc q] at h
    refine (I.hok e o h).stay (fun c v hc' q'=>k2 c v (by
     rcases hc' with z' | z'
     ·rw [z'];exact trk e o h
     ·exact trk c _ z') q') (fun c q'=>by rw [bc (bw q' hT)];exact q') fun c xs q'=>by rw [bc (bw q' hT)];exact q'
  have nod:=D.nod;rw [bF,bF,bF] at nod;obtain ⟨nz',nT,nO,ni⟩:=nod;refine ⟨.ref s.heap.objs.size,_,J,rfl,⟨_,vs,hT,rfl,rfl,lv,fun n c x xs hc hq hx=>?_⟩,⟨us,D.len,D.few,D.pos,D.nod,z2,?_,s2.extBut _ _ (fun y=>nz' (by rw [←y];simp)) to1,lu,fun n c j hc hj=>?_,D.off⟩,fun e he=>?_⟩
  ·obtain ⟨ys,y,h1,h2,h3⟩:=hv n c hc
   rw [h1.inj hq] at h2;rw [h3] at hx;cases hx;exact h2
  ·refine k2 _ _ (fun y=>?_) D.ti
   rcases aB.mp y with y | y
   ·exact nz' (by rw [←y];simp)
   ·exact nT y
  ·exact (m1 n c j hc hj).ext fun o e=>s2.extBut _ _ (fun y=>nz' (by rw [←y];simp [aY hj])) e
  ·have hlt:e<s.heap.objs.size:=by
    simp only [aB] at he
    rcases he with rfl | rfl | rfl | he
    ·exact aE D.zip
    ·exact aE D.ti
    ·exact aE D.to
    ·obtain ⟨n,hn⟩:=List.getElem?_of_mem he
     have hl:n<cs.length:=by rw [←D.len];exact (av.mp hn).1
     obtain ⟨o,ho,_⟩:=(D.its n _ e (gE hl) hn).obj;exact aE ho
   rw [bc (bE hlt)];exact nz e he
 done:=by
  intro X hP hw hK hc i aH s σ H E I hf st hg;subst hP hw hK;obtain ⟨old,D⟩:=st;obtain ⟨m,cm,xm,hm,hxm,hi,hv⟩:=hg;have nz:∀ e∈z::TI::TO::is,H e=none:=fun e he=>(hf e he).1
  have ex:∀ n,n<cs.length→∃ u:aa,∀ c,cs[n]? =some c→n<m→∃ xs,SqAt s.heap c xs∧xs[i]? =some u:=fun n hn=>by
   by_cases e:n<m
   ·obtain ⟨xs,x,h1,h2⟩:=hv n _ (gE hn) e
    obtain ⟨its,r,p⟩:=h1.at I;obtain ⟨u,hu,ru⟩:=r.get h2;refine ⟨u,fun c hc _=>?_⟩;rw [gE hn] at hc;cases hc;exact ⟨_,p,by simpa using hu⟩
   ·exact ⟨.none,fun c _ z=>qS z e⟩
  obtain ⟨us,lu,hu⟩:=mX cs.length ex;obtain ⟨its,r,p⟩:=hxm.at I;have hl:=r.length;refine zipS_stop (I.ok.hd hc) D (vs:=us) (m:=m) (fun n c hc hn=>?_) lu hm p (by simp;lia) fun g kk=>⟨rfl,?_⟩
  ·have hn':n<us.length:=by rw [lu];exact (av.mp hc).1
   obtain ⟨xs,a,b⟩:=hu n _ (gE hn') c hc hn;exact ⟨xs,us[n],a,b,gE hn'⟩
  have sub:∀ e∈z::TO::is,e∈z::TI::TO::is:=fun e he=>by
   simp only [aB] at he ⊢
   rcases he with rfl | rfl | he <;> simp [*]
  have k2:∀ e o,e ∉ z::TO::is→s.heap.get? e=some o→g.get? e=some o:=fun e o hn h=>by
   simp only [aB,not_or] at hn;exact kk e o hn.1 hn.2.1 hn.2.2 h
  have trk:∀ e o,H e=some o→e ∉ z::TO::is:=fun e o he hm=>by rw [nz e (sub e hm)] at he;cases he
  refine I.turnAll (ch:=z::TO::is) (fun e he=>hf e (sub e he)) k2 (fun _ _ h=>h) (fun _ _ _ n=>n) fun e o h=>?_
  exact (I.hok e o h).stay (fun c v hc' q'=>k2 c v (by
   rcases hc' with z' | z'
   ·rw [z'];exact trk e o h
   ·exact trk c _ z') q') (fun _ q'=>q') fun _ _ q'=>q'
 self:=fun _ _ _ _ _ st h=>let ⟨_,D⟩:=st;wpAny_pyIter_zip D.zip h
structure ZNew (h g:bz)(cs:List Sq):Prop where
 zip:IsZip g (h.objs.size+cs.length+2) (h.objs.size+cs.length) (h.objs.size+cs.length+1) .none
 ti:mZ g (h.objs.size+cs.length) (((aQ cs.length).map fun j=>h.objs.size+j).map aa.ref)
 to:mZ g (h.objs.size+cs.length+1) (bC cs.length .none)
 its:∀ (n:Nat) c,cs[n]? =some c→ItAt g c (h.objs.size+n) 0
 ext:∀ b o,h.get? b=some o→g.get? b=some o
theorem newClass_zip (vs:List aa):cZ.SmallTypes.newClass "zip" ⟨.type "zip" :: vs,[]⟩=fj (.type "zip",vs):=by
 unfold cZ.SmallTypes.newClass;simp only [isType,sub_zip,pure_bind,Bool.not_true,Bool.false_eq_true,if_false]
theorem zipS_new (cs:List Sq)(few:cs.length≤8) :
  Meets (cZ.«zip.__new__» ⟨.type "zip" :: cs.map fun c=>aa.ref c.a,[]⟩) (fun _ R s=>(∀ c∈cs,∃ xs,SqAt s.heap c xs)∧∀ g,ZNew s.heap g cs→R (.ok (.ret (.ref (s.heap.objs.size+cs.length+2)))) { s with heap:=g }) :=
 .of_wp fun prog w A R s h=>by
  obtain ⟨h1,h⟩:=h;unfold cZ.«zip.__new__»;refine af (wpAny_of_eq (newClass_zip _) ?_);show aJ _ _ (cZ.SmallTypes.iterAll (cs.map fun c=>aa.ref c.a) >>= _) _ _ _;refine af ?_;unfold cZ.SmallTypes.iterAll;refine af (oF _ (fun j its s'=>∃ g,s'={ s with heap:=g }∧g.objs.size=s.heap.objs.size+j∧its=((aQ j).map fun i=>aa.ref (s.heap.objs.size+i)).toArray∧(∀ (n:Nat) c,n<j→cs[n]? =some c→ItAt g c (s.heap.objs.size+n) 0)∧∀ b o,s.heap.get? b=some o→g.get? b=some o) _ _ ⟨s.heap,rfl,rfl,rfl,fun n c hn=>qS hn (by lia),fun _ _ e=>e⟩ ?_ ?_)
  ·rintro j a its s' ha ⟨g,rfl,sz,rfl,hit,ext⟩
   rw [az] at ha;obtain ⟨c,hc,rfl⟩:=bq.mp ha;obtain ⟨xs,hx⟩:=h1 c (aY hc);refine af (cI (iterS (c:=c) (xs:=xs) (hx.ext fun o e=>ext _ o e) fun g2 i2 z2 e2=>?_));refine aC ⟨_,rfl,g2,rfl,?_,?_,fun n c' hn hc'=>?_,fun b o e=>e2 b o (ext b o e)⟩
   ·show g2.objs.size=_
    rw [z2];show g.objs.size+1=_;rw [sz];lia
   ·show Array.push _ (aa.ref g.objs.size)=_
    rw [sz,List.range_succ,aF];simp
   ·by_cases e:n=j
    ·subst e
     rw [hc] at hc';cases hc';have i2:ItAt g2 c g.objs.size 0:=i2;rw [sz] at i2;exact i2
    ·exact (hit n c' (by lia) hc').ext fun o q=>e2 _ o q
  ·rintro its s' ⟨g,rfl,sz,rfl,hit,ext⟩
   have ll:(cs.map fun c=>aa.ref c.a).length=cs.length:=ae ..;rw [ll] at sz hit ⊢;refine aC ?_
   dsimp only
   have n8:((aQ cs.length).map fun i=>aa.ref (s.heap.objs.size+i)).length≤aP:=by
    rw [ae,bo];exact aS few (by decide)
   refine af (wpAny_newTuple ?_ (by simpa using n8));refine af (wpAny_newTuple ?_ (by simpa using n8));refine af ?_;unfold cZ.SmallTypes.newRecord;refine dN (aC ⟨_,rfl,?_⟩) (by show 5≤aP+2;decide);have e1:(g.push { cls:= .type "tuple",data:= .seq ((aQ cs.length).map fun i=>aa.ref (s.heap.objs.size+i)).toArray }).objs.size=s.heap.objs.size+cs.length+1:=by rw [fc,sz]
   have e2:((g.push { cls:= .type "tuple",data:= .seq ((aQ cs.length).map fun i=>aa.ref (s.heap.objs.size+i)).toArray }).push { cls:= .type "tuple",data:= .seq ((((aQ cs.length).map fun i=>aa.ref (s.heap.objs.size+i)).toArray.toList.map fun _=>aa.none)).toArray }).objs.size=s.heap.objs.size+cs.length+2:=by rw [fc,e1]
   have key:=h (((g.push { cls:= .type "tuple",data:= .seq ((aQ cs.length).map fun i=>aa.ref (s.heap.objs.size+i)).toArray }).push { cls:= .type "tuple",data:= .seq ((((aQ cs.length).map fun i=>aa.ref (s.heap.objs.size+i)).toArray.toList.map fun _=>aa.none)).toArray }).push { cls:= .type "zip",data:= .fields #[.none,.bool false,.bool false,.ref (s.heap.objs.size+cs.length),.ref (s.heap.objs.size+cs.length+1)] })
    ⟨by rw [←e2];exact aU _ rfl,?_,?_,fun n c hc=>(hit n c (av.mp hc).1 hc).ext fun o q=>ar _ (ar _ (ar _ q)),fun b o q=>ar _ (ar _ (ar _ (ext b o q)))⟩
   ·rw [←e2] at key
    have e1':(s.heap.objs.size+cs.length:Nat)=g.objs.size:=sz.symm;rw [←e1,e1'] at key;exact key
   ·have em:(((aQ cs.length).map fun j=>s.heap.objs.size+j).map aa.ref)=((aQ cs.length).map fun i=>aa.ref (s.heap.objs.size+i)):=by rw [dG];rfl
    show bz.get? _ _=_;rw [em,←sz];exact ar _ (ar _ (aU _ rfl))
   ·rw [←e1]
    have er:(((aQ cs.length).map fun i=>aa.ref (s.heap.objs.size+i)).toArray.toList.map fun _=>aa.none)=bC cs.length aa.none:=by
     rw [List.eq_replicate_iff];exact ⟨by simp,fun x hx=>by obtain ⟨_,_,rfl⟩:=aW.mp hx;rfl⟩
    rw [er];exact ar _ (aU _ rfl)
theorem zip_args3 (a b c d:aa):argsOk "object.__init__" ⟨[a,b,c,d],[]⟩:=by
 unfold argsOk;rw [signature?_of (id := "object.__init__") (n:=['_','_','t','i','n','i','_','_']) (o:=['t','c','e','j','b','o']) (by kernel_rfl) F.owner_object]
 kernel_rfl
theorem zip_type3 (a b c:aa):checkTypeCall "zip" ⟨[a,b,c],[]⟩=fj ():=by kernel_rfl
theorem zip_new3 (a b c:aa):checkBuiltinCall "zip.__new__" ⟨[.type "zip",a,b,c],[]⟩=fj ():=by kernel_rfl
theorem zip_walk {s1:ao}{k0}{pt:Pos}{R:It→Hp→Prop}{cs:List Sq}(I1:Inv X aH σ H1 s1)(few:cs.length≤8)(pos:0<cs.length)(hq:∀ c∈cs,∃ xs,HSq H1 c xs)(q:R (Itq cs) H1){g:bz}(Z:ZNew s1.heap g cs) :
  aJ (aV X.prog X.w) X.A (pyIter (.ref (s1.heap.objs.size+cs.length+2))) (PIE X aH σ (.Tuple es k0 pt) R) E { s1 with heap:=g }:=by
 have small:∀ c∈cs,c.a<s1.heap.objs.size:=fun c hc=>by
  obtain ⟨xs,hx⟩:=hq c hc;obtain ⟨o,ho⟩:=hx.has;exact Nat.lt_of_not_le fun hge=>by rw [I1.hok.fresh hge] at ho;cases ho
 refine wpAny_pyIter_zip Z.zip ⟨_,(s1.heap.objs.size+cs.length+2)::(s1.heap.objs.size+cs.length)::(s1.heap.objs.size+cs.length+1)::((aQ cs.length).map fun j=>s1.heap.objs.size+j),_,Itq cs,H1,rfl,I1.kept (t':=s1.toks) Z.ext,turn_zipS,⟨_,?_,few,pos,?_,Z.zip,Z.ti,Z.to,by rw [gY],fun n c i hc hi=>?_,fun c hc=>?_⟩,fun e he=>?_,q⟩
 ·rw [ae,bo]
 ·have nd:((aQ cs.length).map fun j=>s1.heap.objs.size+j).Nodup:=by
   rw [bV,fU];exact (bV.mp iF).imp fun h e=>h (by lia)
  have out:∀ x,s1.heap.objs.size+cs.length≤x→x ∉ ((aQ cs.length).map fun j=>s1.heap.objs.size+j):=fun x hx hm=>by
   obtain ⟨j,hj,rfl⟩:=aW.mp hm;have:=bY.mp hj;lia
  rw [bF,bF,bF];refine ⟨fun h=>?_,fun h=>?_,fun h=>out _ (by show @LE.le Nat _ _ _;lia) h,nd⟩
  ·rcases aB.mp h with h | h
   ·have h: @Eq Nat _ _:=h
    lia
   ·rcases aB.mp h with h | h
    ·have h: @Eq Nat _ _:=h
     lia
    ·exact out _ (by show @LE.le Nat _ _ _;lia) h
  ·rcases aB.mp h with h | h
   ·have h: @Eq Nat _ _:=h
    lia
   ·exact out _ (by show @LE.le Nat _ _ _;lia) h
 ·rw [az,gB (av.mp hc).1] at hi
  cases hi;exact Z.its n c hc
 ·have:=small c hc
  have this: @LT.lt Nat _ c.a s1.heap.objs.size:=this;refine ⟨by show @Ne Nat _ _;lia,by show @Ne Nat _ _;lia,fun hm=>?_⟩;obtain ⟨j,hj,e⟩:=aW.mp hm;have e: @Eq Nat _ _:=e;lia
 ·have hge:s1.heap.objs.size≤e:=by
   simp only [aB] at he
   rcases he with rfl | rfl | rfl | he
   ·show @LE.le Nat _ _ _;lia
   ·show @LE.le Nat _ _ _;lia
   ·show @LE.le Nat _ _ _;lia
   ·obtain ⟨j,hj,rfl⟩:=aW.mp he
    show @LE.le Nat _ _ _;lia
  exact I1.fpOk hge (I1.hok.fresh hge)
def iZip2 (ta:TA):TI:=fun σ H R=>ta σ H fun vs H1=>∃ c1 c2 xs ys,vs=[.ref c1.a,.ref c2.a]∧HSq H1 c1 xs∧HSq H1 c2 ys∧R (Itq [c1,c2]) H1
theorem pi_zip2 {eb:Expr}{ta:TA}{p:Pos}{k0}{pt:Pos}(hg:Gl X "zip")(hm:X.mg "zip" =none)(ha:PA X [ea,eb] ta)(hs:br [ea,eb] X.env=[(false,dH ea X.env),(false,dH eb X.env)]:=by rfl)(hs2:br [eb] X.env=[(false,dH eb X.env)]:=by rfl) :
  PI X (.Tuple es k0 pt) (.Call (.Name "zip" p) [ea,eb] [] pos) (iZip2 ta):=by
 intro aH s σ H R I h;refine Call_ (mH I hg hm boot_zip (fb (thn (ha pos aH s σ H _ I h) fun us s1 ⟨vs,H1,I1,r1,q1⟩=>?_) (by rw [hs,hs2]) (by rw [hs2];rfl)));obtain ⟨c1,c2,xs,ys,e,h1,h2,q⟩:=q1;subst e;obtain ⟨u1,u2,rfl,r2,r3⟩:=vals2 r1;cases (show u1=aa.ref c1.a from r2);cases (show u2=aa.ref c2.a from r3);obtain ⟨_,_,p1⟩:=h1.at I1;obtain ⟨_,_,p2⟩:=h2.at I1;refine callType_new F.called_zip (by decide) (F.typeCall_zip_2 _ _) (F.newCall_zip_2 _ _) (fun obj=>F.args_object_init_3 obj _ _) F.entry_zip_new (zipS_new [c1,c2] (by show 2≤8;decide)) ⟨fun c hc=>?_,fun g Z=>⟨⟨_,Z.zip,rfl⟩,?_⟩⟩
 ·simp only [aB,eZ,or_false] at hc
  rcases hc with rfl | rfl
  ·exact ⟨_,p1⟩
  ·exact ⟨_,p2⟩
 ·refine zip_walk (cs:=[c1,c2]) I1 (by show 2≤8;decide) (by show 0<2;decide) (fun c hc=>?_) q Z
  simp only [aB,eZ,or_false] at hc
  rcases hc with rfl | rfl
  ·exact ⟨_,h1⟩
  ·exact ⟨_,h2⟩
theorem valsThree {x z:V}(h:fN [x,y,z] us):∃ u1 u2 u3,us=[u1,u2,u3]∧fY x u1∧fY y u2∧fY z u3:=by
 cases h with
 | cons h1 r1=>cases r1 with
  | cons h2 r2=>cases r2 with
   | cons h3 r3=>cases r3;exact ⟨_,_,_,rfl,h1,h2,h3⟩
def iZip3 (ta:TA):TI:=fun σ H R=>ta σ H fun vs H1=>∃ c1 c2 c3 xs ys zs,vs=[.ref c1.a,.ref c2.a,.ref c3.a]∧HSq H1 c1 xs∧HSq H1 c2 ys∧HSq H1 c3 zs∧R (Itq [c1,c2,c3]) H1
theorem pi_zip3 {eb ec:Expr}{ta:TA}{p:Pos}{k0}{pt:Pos}(hg:Gl X "zip")(hm:X.mg "zip" =none)(ha:PA X [ea,eb,ec] ta)(hs:br [ea,eb,ec] X.env=[(false,dH ea X.env),(false,dH eb X.env),(false,dH ec X.env)]:=by rfl)(hs2:br [eb,ec] X.env=[(false,dH eb X.env),(false,dH ec X.env)]:=by rfl) :
  PI X (.Tuple es k0 pt) (.Call (.Name "zip" p) [ea,eb,ec] [] pos) (iZip3 ta):=by
 intro aH s σ H R I h;refine Call_ (mH I hg hm boot_zip (fb (thn (ha pos aH s σ H _ I h) fun us s1 ⟨vs,H1,I1,r1,q1⟩=>?_) (by rw [hs,hs2]) (by rw [hs2];rfl)));obtain ⟨c1,c2,c3,xs,ys,zs,e,h1,h2,h3,q⟩:=q1;subst e;obtain ⟨u1,u2,u3,rfl,r2,r3,r4⟩:=valsThree r1;cases (show u1=aa.ref c1.a from r2);cases (show u2=aa.ref c2.a from r3);cases (show u3=aa.ref c3.a from r4);obtain ⟨_,_,p1⟩:=h1.at I1;obtain ⟨_,_,p2⟩:=h2.at I1;obtain ⟨_,_,p3⟩:=h3.at I1;refine callType_new F.called_zip (by decide) (zip_type3 _ _ _) (zip_new3 _ _ _) (fun obj=>zip_args3 obj _ _ _) F.entry_zip_new (zipS_new [c1,c2,c3] (by show 3≤8;decide)) ⟨fun c hc=>?_,fun g Z=>⟨⟨_,Z.zip,rfl⟩,?_⟩⟩
 ·simp only [aB,eZ,or_false] at hc
  rcases hc with rfl | rfl | rfl
  ·exact ⟨_,p1⟩
  ·exact ⟨_,p2⟩
  ·exact ⟨_,p3⟩
 ·refine zip_walk (cs:=[c1,c2,c3]) I1 (by show 3≤8;decide) (by show 0<3;decide) (fun c hc=>?_) q Z
  simp only [aB,eZ,or_false] at hc
  rcases hc with rfl | rfl | rfl
  ·exact ⟨_,h1⟩
  ·exact ⟨_,h2⟩
  ·exact ⟨_,h3⟩
theorem for_zip3 {c1 c2 c3:Sq}{tb:TS}{D:kO}(Pv:Nat→St→Hp→Prop)(h0:Pv 0 σ H)(hl:∀ i σ H,i≤xs.length→Pv i σ H→HSq H c1 xs∧HSq H c2 ys∧HSq H c3 zs)(hxy:xs.length=ys.length)(hxz:xs.length=zs.length)
  (hs:∀ i x y z p σ H,xs[i]? =some x→ys[i]? =some y→zs[i]? =some z→Pv i σ H→H p=none→g (.ref p) σ (upd H p (.tup [x,y,z])) fun σ2 H2=>tb { D with nx:=Pv (i+1),ct:=Pv (i+1),bk:=D.nx } σ2 H2) (hd:∀ σ H,Pv xs.length σ H→D.nx σ H) :
  ∃ W:Nat→Nat→St→Hp→Prop,(∃ m,W 0 m σ H)∧∀ i m σ H,W i m σ H →
   ((Itq [c1,c2,c3]).stop i H∧D.nx σ H)∨((Itq [c1,c2,c3]).go i H∧∃ N:St→Hp→Prop,(∀ σ' H',N σ' H'→∃ m',m'<m∧W (i+1) m' σ' H')∧∀ x H',(Itq [c1,c2,c3]).yld i H x H'→g x σ H' fun σ2 H2=>tb { D with nx:=N,ct:=N,bk:=D.nx } σ2 H2):=by
 refine ⟨fun i m σ H=>i≤xs.length∧m=xs.length - i∧Pv i σ H,⟨_,bD _,rfl,h0⟩,fun i m σ H ⟨hi,hm,hp⟩=>?_⟩;obtain ⟨qa,qb,qc⟩:=hl i σ H hi hp
 by_cases e:i=xs.length
 ·subst e
  exact .inl ⟨⟨0,c1,xs,rfl,qa,aA _,fun n c _ hn=>qS hn (by lia)⟩,hd σ H hp⟩
 ·have hlt:i<xs.length:=gN hi e
  have hlt2:i<ys.length:=by lia
  have hlt3:i<zs.length:=by lia
  refine .inr ⟨⟨[xs[i],ys[i],zs[i]],rfl,fun n c hc=>?_⟩,Pv (i+1),fun σ' H' hp'=>⟨xs.length - (i+1),by lia,by lia,rfl,hp'⟩,fun v H3 hy=>?_⟩
  ·match n,hc with
   | 0,hc=>cases hc;exact ⟨xs,xs[i],qa,gE hlt,rfl⟩
   | 1,hc=>cases hc;exact ⟨ys,ys[i],qb,gE hlt2,rfl⟩
   | 2,hc=>cases hc;exact ⟨zs,zs[i],qc,gE hlt3,rfl⟩
   | n+3,hc=>simp at hc
  ·obtain ⟨p,vs,hn,rfl,rfl,lv,hx⟩:=hy
   match vs,lv,hx with
   | [x,y,z],_,hx=>exact hs i x y z p σ H (hx 0 c1 x xs rfl qa rfl) (hx 1 c2 y ys rfl qb rfl) (hx 2 c3 z zs rfl qc rfl) hp hn
theorem PE.cutV {t:TE}(h:PE X e t):PE X e (fun σ H Q=>∃ N:VK,(∀ v H',N v H'→Q v H')∧t σ H N):=fun aH s σ H Q I ⟨N,i,q⟩ =>
 thn (h aH s σ H N I q) fun u s' ⟨v,H',I',rv,q'⟩=>⟨v,H',I',rv,i _ _ q'⟩
theorem compT_zip2 {c1 c2:Sq}{Q:VK}(Pv:Nat→List V→Hp→Prop)(h0:Pv 0 [] H)(hl:∀ i zs H,i≤xs.length→Pv i zs H→HSq H c1 xs∧HSq H c2 ys∧zs.length≤i)(hxy:xs.length=ys.length)(hz:xs.length≤aP)
  (hs:∀ i x y zs p H,xs[i]? =some x→ys[i]? =some y→Pv i zs H→H p=none→tt (some x::some y::cX σ js) (upd H p (.tup [x,y])) fun b H4=>if b=true then te (some x::some y::cX σ js) H4 fun y H5=>Pv (i+1) (zs++[y]) H5 else Pv (i+1) zs H4)
  (hd:∀ zs H,Pv xs.length zs H→∀ D,H D=none→Q (.ref D) (upd H D (.lst zs))):qP 2 (gPair K) js tt te σ Q (Itq [c1,c2]) H:=by
 refine ⟨fun i m zs H=>i≤xs.length∧m=xs.length - i∧Pv i zs H,⟨_,bD _,rfl,h0⟩,fun i m zs H2 ⟨hi,hm,hp⟩=>?_⟩;obtain ⟨qa,qb,hy⟩:=hl i zs H2 hi hp
 by_cases e:i=xs.length
 ·subst e
  exact .inl ⟨⟨0,c1,xs,rfl,qa,aA _,fun n c _ hn=>qS hn (by lia)⟩,hd zs H2 hp⟩
 ·have hlt:i<xs.length:=gN hi e
  have hlt2:i<ys.length:=by lia
  refine .inr ⟨⟨[xs[i],ys[i]],rfl,fun n c hc=>?_⟩,by lia,Pv (i+1),fun ys' H' hp'=>⟨xs.length - (i+1),by lia,by lia,rfl,hp'⟩,fun v H3 hy3 v0 hv0=>?_⟩
  ·match n,hc with
   | 0,hc=>cases hc;exact ⟨xs,xs[i],qa,gE hlt,rfl⟩
   | 1,hc=>cases hc;exact ⟨ys,ys[i],qb,gE hlt2,rfl⟩
   | n+2,hc=>simp at hc
  ·obtain ⟨p,vs,hn,rfl,rfl,lv,hx⟩:=hy3
   match vs,lv,hx,v0,hv0 with
   | [x,y],_,hx,[v1,v2],_=>exact ⟨p,_,rfl,SqT.of aX,rfl,_,_,rfl,_,_,rfl,rfl,⟨[some x,some y],rfl,rfl⟩,hs i x y zs p H2 (hx 0 c1 x xs rfl qa rfl) (hx 1 c2 y ys rfl qb rfl) hp hn⟩
end L2
variable {cs:List L2.Sq}
local macro_rules
 | `(tactic|exists $s:term) => `(tactic|(show ∀ y:cA×PySem.NameKind,y∈_→y.2=PySem.NameKind.free→dk y.1 (L2.defScope $s).names=some PySem.NameKind.cell;decide +kernel))
local macro_rules
 | `(tactic|trivial) => `(tactic|first|decide +kernel|exact ⟨rfl,rfl,rfl,by decide +kernel,rfl,by decide +kernel,by decide +kernel⟩|exact True.intro)
local macro_rules
 | `(tactic|contradiction) => `(tactic|(intro _ _ _ _ h;first | (cases h;subst_vars;rfl) | ((repeat (obtain ⟨_,h⟩:=h));subst_vars;rfl)))
namespace L2
open PySem PyProof.Rows
theorem ixZ {a:Expr}{p q:Pos}{i:Int}{j}(h:PE X a ta):PE X (.Subscript a (.Constant (.int i) j p) q) (tOp (rIxT X.K) ta (tC (.int i))):=fB fm h bR (fun _ _=>rfl)
theorem szZ1:1≤aP:=by decide
theorem nS:2≤aP:=by decide
theorem szZ4:4≤aP:=by decide
theorem szZ5:5≤aP:=by decide
theorem psZ (i:Nat)(hN:X.N.Nodup)(he:PE X e te)(hi:X.N[i]? =some x:=by rfl)(hx:Loc X.env.scope x:=by first|exact .inl rfl|exact .inr rfl)(hs:kf e (some (.Name x pos')) pos.line X.env=fj false:=by rfl)(hf:X.fn x=true∨X.env.scope.names.lookup x=some .local:=by first|exact .inl rfl|exact .inr rfl|assumption):PS X (.Assign [.Name x pos'] e pos) (tAsg te (om i)):=ps_set hN hi hx he hs hf
theorem pgZ (i:Nat)(hN:X.N.Nodup)(hi:X.N[i]? =some x:=by rfl)(hx:Loc X.env.scope x:=by first|exact .inl rfl|exact .inr rfl)(hf:X.fn x=true∨X.env.scope.names.lookup x=some .local:=by first|exact .inl rfl|exact .inr rfl|assumption):PG X (.Name x pos) (om i):=og hN hi hx hf
end L2
namespace L2
abbrev pza:List cA:=["net"]
abbrev pzb:List cA:=["net","bounds","ring"]
abbrev pzc:List cA:=["net","step"]
abbrev pzd:List cA:=["_law_script","_law_k"]
abbrev pze:List cA:=["_law_script"]
abbrev pzf:List cA:=["net","table"]
abbrev pzg:List cA:=["net","span"]
abbrev pzh:List cA:=["net","case"]
abbrev pzi:List cA:=["beat","number"]
abbrev pzj:List cA:=["net","spans","happening"]
abbrev pzk:List cA:=["net","most"]
abbrev pzl:List cA:=["net","leaf_in"]
abbrev pzm:List cA:=["_law_pot_here","_law_most"]
abbrev pzn:List cA:=["case","span"]
abbrev pzo:List cA:=["bounds","span","low","high"]
abbrev pzp:List cA:=["rings","span"]
abbrev pzq:List cA:=["net","rings","wait","case"]
abbrev pzr:List cA:=["self","many","most"]
abbrev pzs:List cA:=["_law_cell","_law_k"]
abbrev pzt:List cA:=["bounds","way"]
abbrev pzu:List cA:=["net","bounds","leaf"]
abbrev pzv:List cA:=["net","spans","begin","end"]
abbrev pzw:List cA:=["self","case","span","at"]
abbrev pzx:List cA:=["net","steps","bounds"]
abbrev pzy:List cA:=["net","rings","bounds"]
abbrev pzz:List cA:=["net","table","span"]
end L2
namespace HN
open PySem L2 PyProof.Rows
theorem iteB {b:Bool}{A B:Prop}(h:b=true)(x:A):if b=true then A else B:=by rw [qR h];exact x
theorem iteC {b:Bool}{A B:Prop}(h:b=false)(x:B):if b=true then A else B:=by rw [qQ (by rw [h];exact aO)];exact x
structure Nm (mg:Str→Option aa):Prop where
 isin:mg "isinstance" =none
 tint:mg "int" =none
 tbool:mg "bool" =none
 ttup:mg "tuple" =none
 len:mg "len" =none
 min:mg "min" =none
 all:mg "all" =none
structure Fn (K:aq)(mg:Str→Option aa)(x:Str)(st:cF)(ps:List Str)(f:ai)(fd:bf):Prop where
 F:Fun K x x st f fd
 mg:mg x=some (.ref f)
 b:md K fd ps []
theorem pc1 {k:Nat}{sp:Sp}{p:Pos}(G:Fn X.K X.mg x st ps f fd)(F:cR X.prog X.w X.K X.mg X.base CX0 k f fd ps sp)(hr:iA k X.A)
  (ha:PA X (e::es) t) (hg:Gl X x:=by rfl) (hdb:(x == ("__debug__" :Str))=false:=by decide) (he:br (e::es) X.env=(false,dH e X.env)::br es X.env:=by rfl) (hpl:(fE pos (br es X.env)).any (·.1)=false:=by rfl) :
  PE X (.Call (.Name x p) (e::es) [] pos) (tCall sp [] E0 t):=pe_call F hr hg G.mg G.F.kp G.b .nil pass0 ha hdb he hpl
theorem pe_gint {i:Int}(hm:∃ t,X.mg x=some (.int i t))(hg:Gl X x:=by rfl)(hd:(x == ("__debug__" :Str))=false:=by decide):PE X (.Name x pos) (tC (.int i)) :=
 let ⟨t,e⟩:=hm;lU (v:= .int i) (u:= .int i t) hg e ⟨t,rfl⟩ hd
structure Sn where
 s:Int
 g:Int
 l:Int
 o:Int
 w:Int
abbrev Sn.row (x:Sn):List Int:=[x.s,x.g,x.l,x.o,x.w]
abbrev lM (b m:Int)(sp:List Sn):Dt:= .tup [.int b,.int m,.tup (sp.map fun x=> .tup (x.row.map Dt.int))]
theorem gp {m:Int}{sp:List Sn}(h:IsD H v (lM b m sp)):∃ t p ys,v= .ref t∧H t=some (.tup [.int b,.int m,.ref p])∧H p=some (.tup ys)∧ys.length=sp.length∧∀ (i:Nat) (x:Sn),sp[i]? =some x→∃ q,ys[i]? =some (.ref q)∧H q=some (.tup [.int x.s,.int x.g,.int x.l,.int x.o,.int x.w]):=by
 obtain ⟨t,xs,rfl,ht,rx⟩:=h.tup_of;cases rx with
 | cons h0 r0 =>
  cases r0 with
  | cons h1 r1 =>
   cases r1 with
   | cons h2 r2 =>
    cases r2;cases h0;cases h1;obtain ⟨p,ys,rfl,hp,ry⟩:=h2.tup_of;refine ⟨t,p,ys,rfl,ht,hp,by rw [ry.length,ae],fun i x hx=>?_⟩;obtain ⟨y,hy,dy⟩:=ry.at (i:=i) (d:= .tup (x.row.map Dt.int)) (by rw [az,hx];rfl);obtain ⟨q,zs,rfl,hq,rz⟩:=dy.tup_of;have ez:=rz.ints_of;subst ez;exact ⟨q,hy,hq⟩
def tm (ts:List Int)(i:Int):Int:=ts.getD i.toNat 0
theorem tm_at {i:Int}(h0:0≤i)(h1:i<ts.length):atI (ts.map V.int) i=some (.int (tm ts i)):=by
 obtain ⟨j,rfl⟩:=cP h0;refine aR ?_;rw [az,gE (by lia)];unfold tm;rw [cq,ah,gE (by lia)];rfl
structure Rdy (b:Int)(ts:List Int)(sp:List Sn):Prop where
 b1:0<b
 few:sp.length≤1000
 ends:∀ x∈sp,0≤x.s∧x.s<ts.length∧0≤x.g∧x.g<ts.length
def fT (b:Int)(ts:List Int)(x:Sn):Int:=(tm ts x.g - tm ts x.s - x.l) % b
def oW (b:Int)(ts:List Int)(sp:List Sn):List Int:=sp.map (fT b ts)
def brk (b:Int)(ts:List Int)(x:Sn):Bool:=decide (x.o - x.l<fT b ts x)
def ki (b:Int)(ts:List Int)(sp:List Sn):Bool:= !(sp.any (brk b ts))
def eJ (b:Int)(ts:List Int)(sp:List Sn):Int:=(sp.map fun x=>x.w * fT b ts x).sum
theorem fA (h:n≤1000):n≤aP:=aS h (by decide)
structure Nt (mg:Str→Option aa):Prop where
 range:mg "range" =none
 enum:mg "enumerate" =none
 zip:mg "zip" =none
 sum:mg "sum" =none
 tlist:mg "list" =none
 max:mg "max" =none
structure SnOk (b m:Int)(x:Sn):Prop where
 s0:0≤x.s
 s1:x.s<m
 g0:0≤x.g
 g1:x.g<m
 ne:x.s≠x.g
 l0:0≤x.l
 lo:x.l≤x.o
 ob:x.o<x.l+b
 o60:x.o<10 ^ 60
 w0:0≤x.w
 w1:x.w≤1000000000000
structure kd (b m:Int)(sp:List Sn):Prop where
 b1:1≤b
 b2:b≤10 ^ 59
 m1:1≤m
 m2:m≤16
 few:sp.length≤40
 all:∀ x∈sp,SnOk b m x
theorem kd.rdy {m:Int}{sp:List Sn}(h:kd b m sp)(ht:(ts.length:Int)=m):Rdy b ts sp :=
 ⟨by have:=h.b1;lia,by have:=h.few;lia,fun x hx=>by have:=h.all x hx;exact ⟨this.s0,by have:=this.s1;lia,this.g0,by have:=this.g1;lia⟩⟩
theorem kd.ws {m:Int}{sp:List Sn}(h:kd b m sp):∀ x∈sp,0≤x.w∧x.w≤1000000000000:=fun x hx=>⟨(h.all x hx).w0,(h.all x hx).w1⟩
theorem rest_two (x y l b:Int):(x % b - y % b - l) % b=(x - y - l) % b:=by
 have hx:=fQ x b;have hy:=fQ y b;have e:x - y - l=(x % b - y % b - l)+b * (x / b - y / b):=by rw [Int.mul_sub];lia
 rw [e,Int.add_mul_emod_self_left]
inductive spRest (vs:List V)(H:Hp)(Q:VK)(_:XK):Prop
 | mk (b n:_)(_:vs=[.int b,.int n])(_:0<b)(_:Q (.int (n % b)) H)
inductive spWidth (vs:List V)(H:Hp)(Q:VK)(_:XK):Prop
 | mk (v b m sp i x:_)(_:vs=[v,.int (i:Nat)])(_:IsD H v (lM b m sp))(_:sp[i]? =some x)(_:Q (.int (x.o - x.l)) H)
inductive spWaitIn (vs:List V)(H:Hp)(Q:VK)(_:XK):Prop
 | mk (v u b m sp ts i x:_)(_:vs=[v,.ref u,.int (i:Nat)])(_:IsD H v (lM b m sp))(_:H u=some (.tup (ts.map V.int)))(_:Rdy b ts sp)(_:sp[i]? =some x)(_:Q (.int (fT b ts x)) H)
inductive spWaits (vs:List V)(H:Hp)(Q:VK)(_:XK):Prop
 | mk (v u b m sp ts:_)(_:vs=[v,.ref u])(_:IsD H v (lM b m sp))(_:H u=some (.tup (ts.map V.int)))(_:Rdy b ts sp)(_:∀ p H',bJ H H'→H' p=some (.tup ((oW b ts sp).map V.int))→Q (.ref p) H')
inductive spWaitOf (vs:List V)(H:Hp)(Q:VK)(_:XK):Prop
 | mk (v u b m sp ts:_)(_:vs=[v,.ref u])(_:IsD H v (lM b m sp))(_:H u=some (.tup (ts.map V.int)))(_:Rdy b ts sp)(_:(∀ x∈sp,0≤x.w∧x.w≤1000000000000))(_:∀ H',bJ H H'→Q (.int (eJ b ts sp)) H')
inductive spCell (K:aq)(vs:List V)(H:Hp)(Q:VK)(_:XK):Prop
 | mk (a:ai)(ns:List Int)(k:Int)(_:vs=[.ref a,.int k])(_:SqL K H a (ns.map V.int))(_:0≤k)(_:∀ c:Int,Q (.int c) H)
theorem atI_in {xs:List α}{r:Int}(h0:0≤r)(h1:r<xs.length):∃ v,atI xs r=some v∧v∈xs:=by
 obtain ⟨j,rfl⟩:=cP h0;have hj:j<xs.length:=by lia
 exact ⟨xs[j],aR (gE hj),bK hj⟩
theorem log_ok {m:Int}(h0:0<m)(h:m<10 ^ 61):0<m∧m.natAbs.log2<9000:=by
 refine ⟨h0,?_⟩;have h1:m.natAbs<2 ^ 300:=by
  have:(10:Nat) ^ 61<2 ^ 300:=by trivial
  have h2:m.natAbs<10 ^ 61:=by lia
  exact jH h2 this
 have h3:m.natAbs≠0:=by lia
 have:=(Nat.log2_lt h3).mpr h1;lia
theorem goal_ok {s t m:Int}(h0:0≤s)(h1:s<m)(h2:0≤t)(h3:t<m - 1):0≤(s+1+t) % m∧(s+1+t) % m<m∧s≠(s+1+t) % m:=by
 have hm:0<m:=by lia
 have a:=dX (s+1+t) (by lia:m≠0);have b:=dA (s+1+t) hm;refine ⟨a,b,?_⟩
 by_cases q:s+1+t<m
 ·rw [Int.emod_eq_of_lt (by lia) q];lia
 ·have e:(s+1+t) % m=(s+1+t - m) % m:=(Int.sub_emod_right _ _).symm
  rw [e,Int.emod_eq_of_lt (by lia) (by lia)];lia
abbrev rowsP {α:Type}(f:α→List Int)(xs:List α):Dt:= .tup (xs.map fun x=> .tup ((f x).map Dt.int))
theorem kz {f:α→List Int}{xs:List α}(r:dM H ys (xs.map fun x=> .tup ((f x).map Dt.int))){x:α}(hx:xs[i]? =some x):∃ q,ys[i]? =some (.ref q)∧H q=some (.tup ((f x).map V.int)):=by
 obtain ⟨y,hy,dy⟩:=r.at (i:=i) (d:= .tup ((f x).map Dt.int)) (by rw [az,hx];rfl);obtain ⟨q,zs,rfl,hq,rz⟩:=dy.tup_of;have ez:=rz.ints_of;subst ez;exact ⟨q,hy,hq⟩
theorem iV {f:α→List Int}{xs:List α}(h:IsD H v (rowsP f xs)):∃ p ys,v= .ref p∧H p=some (.tup ys)∧ys.length=xs.length∧dM H ys (xs.map fun x=> .tup ((f x).map Dt.int)):=by
 obtain ⟨p,ys,rfl,hp,ry⟩:=h.tup_of;exact ⟨p,ys,rfl,hp,by rw [ry.length,ae],ry⟩
structure Stp where
 i:Nat
 d:Int
abbrev Stp.row (s:Stp):List Int:=[(s.i:Int),s.d]
abbrev oy (ws:List Stp):Dt:=rowsP Stp.row ws
abbrev bndR (p:Int×Int):List Int:=[p.1,p.2]
abbrev bndP (bs:List (Int×Int)):Dt:=rowsP bndR bs
def frm (x:Sn)(d:Int):Int:=if d=1 then x.s else x.g
def too (x:Sn)(d:Int):Int:=if d=1 then x.g else x.s
def qo (n:Nat)(ws:List Stp):Prop:=∀ s∈ws,s.i<n∧(s.d=1∨s.d= -1)
def mI (sp:List Sn)(s:Stp):Int:=match sp[s.i]? with | some x=>frm x s.d | none=>0
def e8 (sp:List Sn)(s:Stp):Int:=match sp[s.i]? with | some x=>too x s.d | none=>0
def qJ (bs:List (Int×Int))(s:Stp):Int:=match bs[s.i]? with | some p=>if s.d=1 then p.1 else -p.2 | none=>0
def l4 (bs:List (Int×Int))(s:Stp):Int:=match bs[s.i]? with | some p=>if s.d=1 then p.2 else -p.1 | none=>0
def fe (bs:List (Int×Int))(ws:List Stp):Int:=(ws.map (qJ bs)).sum
def iq (bs:List (Int×Int))(ws:List Stp):Int:=(ws.map (l4 bs)).sum
inductive spFrom (vs:List V)(H:Hp)(Q:VK)(_:XK):Prop
 | mk (v:V)(q:ai)(b m:Int)(sp:List Sn)(s:Stp)(x:Sn)(_:vs=[v,.ref q])(_:IsD H v (lM b m sp))(_:H q=some (.tup (s.row.map V.int)))(_:sp[s.i]? =some x)(_:Q (.int (frm x s.d)) H)
inductive spTo (vs:List V)(H:Hp)(Q:VK)(_:XK):Prop
 | mk (v:V)(q:ai)(b m:Int)(sp:List Sn)(s:Stp)(x:Sn)(_:vs=[v,.ref q])(_:IsD H v (lM b m sp))(_:H q=some (.tup (s.row.map V.int)))(_:sp[s.i]? =some x)(_:Q (.int (too x s.d)) H)
inductive spFirst (vs:List V)(H:Hp)(Q:VK)(_:XK):Prop
 | mk (v:V)(b m:Int)(sp:List Sn)(_:vs=[v])(_:IsD H v (lM b m sp))(_:sp.length≤1000)(_:∀ u H',bJ H H'→IsD H' u (bndP (sp.map fun x=>(x.l,x.o)))→Q u H')
inductive spSum (vs:List V)(H:Hp)(Q:VK)(_:XK):Prop
 | mk (vb vw:V)(bs:List (Int×Int))(ws:List Stp)(_:vs=[vb,vw])(_:IsD H vb (bndP bs))(_:IsD H vw (oy ws))(_:qo bs.length ws)(_:∀ p H',bJ H H'→H' p=some (.tup [.int (fe bs ws),.int (iq bs ws)])→Q (.ref p) H')
abbrev fJ {α:Type}(f:α→List Int)(xs:List α):List Dt:=xs.map fun x=> .tup ((f x).map Dt.int)
structure N3 (mg:Str→Option aa):Prop where
 tset:mg "set" =none
def lH (H H':Hp):Prop:=∀ q xs,H q=some (.tup xs)→H' q=some (.tup xs)
theorem lH.trans (a:lH H H1)(b:lH H1 H2):lH H H2:=fun q xs h=>b q xs (a q xs h)
theorem bJ.tupK (e:bJ H H'):lH H H':=fun _ _ h=>e _ _ h
theorem fv {p:ai}(hp:H p=some (.lst xs)):lH H (upd H p o):=fun q ys h=>by rw [bc (d7 h hp nofun)];exact h
theorem eU {α:Type}{f:α→List Int}{H H':Hp}(e:lH H H'):∀ {xs:List α} {zs:List V},dM H zs (fJ f xs)→dM H' zs (fJ f xs)
 | [],_,h=>by cases h;exact .nil
 | x::xs,zs,h=>by
  unfold fJ at h ⊢;rw [bZ] at h ⊢;cases h with
  | cons h1 h2 =>
   obtain ⟨q,ws,rfl,hq,rw'⟩:=h1.tup_of;have e2:=rw'.ints_of;subst e2;exact .cons (.tup (e q _ hq) (dM.ints _)) (eU e h2)
def BsU (bs:List (Int×Int)):Prop:=∀ q∈bs,0≤q.1∧q.1≤q.2∧q.2<10 ^ 60
def upB (b s:Int):Int:= -(-s / b)
inductive pj (vs:List V)(H:Hp)(Q:VK)(_:XK):Prop
 | mk (vn vb vw:V)(b m:Int)(sp:List Sn)(bs:List (Int×Int))(ws:List Stp)(_:vs=[vn,vb,vw])(_:IsD H vn (lM b m sp))(_:0<b)(_:b<10 ^ 61)(_:IsD H vb (bndP bs))(_:IsD H vw (oy ws))(_:qo bs.length ws)(_:∀ p H',bJ H H'→H' p=some (.tup [.int (upB b (fe bs ws)),.int (iq bs ws / b)])→Q (.ref p) H')
inductive Lf where
 | ring (ws:List Stp)
 | price (rows:List (Int×List Stp))
abbrev rowD (r:Int×List Stp):Dt:= .tup [.int r.1,oy r.2]
def leafP:Lf→Dt
 | .ring ws=> .tup [.str "ring",oy ws]
 | .price rows=> .tup [.str "price",.tup (rows.map rowD)]
def jD (b:Int)(bs:List (Int×Int))(ws:List Stp):Bool:=decide (upB b (fe bs ws) > iq bs ws / b)
def sureB (b:Int)(bs:List (Int×Int))(ws:List Stp):Bool:=decide (upB b (fe bs ws)=iq bs ws / b)
inductive spDead (vs:List V)(H:Hp)(Q:VK)(_:XK):Prop
 | mk (vn vb vw:V)(b m:Int)(sp:List Sn)(bs:List (Int×Int))(ws:List Stp)(_:vs=[vn,vb,vw])(_:IsD H vn (lM b m sp))(_:0<b)(_:b<10 ^ 61)(_:IsD H vb (bndP bs))(_:IsD H vw (oy ws))(_:qo bs.length ws)(_:∀ H',bJ H H'→Q (.bl (jD b bs ws)) H')
inductive spSure (vs:List V)(H:Hp)(Q:VK)(_:XK):Prop
 | mk (vn vb vw:V)(b m:Int)(sp:List Sn)(bs:List (Int×Int))(ws:List Stp)(_:vs=[vn,vb,vw])(_:IsD H vn (lM b m sp))(_:0<b)(_:b<10 ^ 61)(_:IsD H vb (bndP bs))(_:IsD H vw (oy ws))(_:qo bs.length ws)(_:∀ H',bJ H H'→Q (.bl (sureB b bs ws)) H')
theorem dM.takeN {H:Hp}:∀ {xs:List V} {ds:List Dt} (n:Nat),dM H xs ds→dM H (xs.take n) (ds.take n)
 | _,_,0,_=> .nil
 | _,_,_+1,.nil=> .nil
 | _,_,n+1,.cons h r=> .cons h (dM.takeN n r)
theorem dM.dropN {H:Hp}:∀ {xs:List V} {ds:List Dt} (n:Nat),dM H xs ds→dM H (xs.drop n) (ds.drop n)
 | _,_,0,h=>h
 | _,_,_+1,.nil=> .nil
 | _,_,n+1,.cons _ r=>dM.dropN n r
def qi (sp:List Sn):Int→List Stp→Int→Prop
 | x,[],y=>x=y
 | x,s::ws,y=>mI sp s=x∧qi sp (e8 sp s) ws y
theorem qi.append {sp:List Sn}:∀ {us:List Stp} {x y z:Int} {vs:List Stp},qi sp x us y→qi sp y vs z→qi sp x (us++vs) z
 | [],_,_,_,_,h,k=>by cases h;exact k
 | _::us,_,_,_,_,h,k=>⟨h.1,qi.append (us:=us) h.2 k⟩
theorem mV {sp:List Sn}{d:Int}(h:j<sp.length):mI sp ⟨j,d⟩=frm sp[j] d:=by
 unfold mI;show (match sp[j]? with | some x=>frm x d | none=>0)=_;rw [gE h]
theorem kU {sp:List Sn}{d:Int}(h:j<sp.length):e8 sp ⟨j,d⟩=too sp[j] d:=by
 unfold e8;show (match sp[j]? with | some x=>too x d | none=>0)=_;rw [gE h]
theorem ends_of_span {sp:List Sn}{st:Stp}{d:Int}(h:j<sp.length)(e:st.i=j)(hs:st.d=1∨st.d= -1)(hd:d=1∨d= -1):e8 sp st=e8 sp ⟨j,d⟩∨mI sp st=e8 sp ⟨j,d⟩:=by
 obtain ⟨i,dd⟩:=st;have e:i=j:=e;subst e;have hs:dd=1∨dd= -1:=hs;rw [kU h,kU h,mV h];unfold too frm
 rcases hs with rfl | rfl <;> rcases hd with rfl | rfl <;> simp
structure Bk (sp:List Sn)(be ou:Int)(x:Int)(ws:List Stp):Prop where
 inn:qo sp.length ws
 alo:qi sp be ws x
 one:(ws.map Stp.i).Nodup
 out:∀ s∈ws,(s.i:Int)≠ou
structure Rg (sp:List Sn)(ws:List Stp):Prop where
 inn:qo sp.length ws
 two:2≤ws.length
 few:ws.length≤17
 one:(ws.map Stp.i).Nodup
 rnd:∃ x,qi sp x ws x
theorem Bk.ring {sp:List Sn}{k:Nat}{ws:List Stp}(hk:k<sp.length)(hne:sp[k].s≠sp[k].g)(h:Bk sp sp[k].g (k:Nat) sp[k].s ws)(hl:ws.length≤16):Rg sp (⟨k,1⟩::ws):=by
 refine ⟨fun s hs=>?_,?_,by rw [aM];lia,?_,sp[k].s,?_,?_⟩
 ·rcases aB.mp hs with rfl | hs
  ·exact ⟨hk,.inl rfl⟩
  ·exact h.inn s hs
 ·cases ws with
  | nil=>exact qS h.alo.symm hne
  | cons a r=>rw [aM,aM];lia
 ·rw [bZ,bF]
  refine ⟨fun z=>?_,h.one⟩;obtain ⟨st,hst,e⟩:=aW.mp z;exact h.out st hst (by rw [e])
 ·rw [mV hk];rfl
 ·rw [kU hk];exact h.alo
inductive spWithB (vs:List V)(H:Hp)(Q:VK)(_:XK):Prop
 | mk (vb:V)(k:Nat)(lo hi:Int)(bs:List (Int×Int))(_:vs=[vb,.int (k:Nat),.int lo,.int hi])(_:IsD H vb (bndP bs))(_:k<bs.length)(_:bs.length≤40)(_:∀ u H',bJ H H'→IsD H' u (bndP (bs.set k (lo,hi)))→Q u H')
inductive Tq where
 | leaf (d:Dt)
 | cut (k:Nat) (a:Int) (x y:Tq)
def kT:Tq→Dt
 | .leaf d=>d
 | .cut k a x y=> .tup [.str "cut",.int (k:Nat),.int a,kT x,kT y]
def lV (bs:List (Int×Int))(k:Nat)(a:Int):List (Int×Int):=bs.set k ((bs.getD k (0,0)).1,a)
def eV (bs:List (Int×Int))(k:Nat)(a:Int):List (Int×Int):=bs.set k (a+1,(bs.getD k (0,0)).2)
theorem one_len (bs:List (Int×Int))(k:Nat)(a:Int):(lV bs k a).length=bs.length:=by unfold lV;rw [gP]
theorem other_len (bs:List (Int×Int))(k:Nat)(a:Int):(eV bs k a).length=bs.length:=by unfold eV;rw [gP]
end HN
variable {S:List HN.Stp}{c:List (Int×List HN.Stp)×List Int}{rg' rs:List (Nat×List HN.Stp)}{rows:List (Int×List HN.Stp)}{sp:List HN.Sn}
namespace L2
open PySem PyProof.Rows HN
mutual
theorem IsD.keepP {H H':Hp}(e:lH H H'):∀ {v:V} {d:Dt},IsD H v d→pl d=true→IsD H' v d
 | _,_,.non,_=> .non
 | _,_,.bl b,_=> .bl b
 | _,_,.int i,_=> .int i
 | _,_,.str x,_=> .str x
 | _,_,.tup h r,p=> .tup (e _ _ h) (dM.keepP e r (by unfold pl at p;exact p))
 | _,_,.lst h,p=>by unfold pl at p;cases p
 | _,_,.dct h,p=>by unfold pl at p;cases p
theorem dM.keepP {H H':Hp}(e:lH H H'):∀ {xs:List V} {ds:List Dt},dM H xs ds→pls ds=true→dM H' xs ds
 | _,_,.nil,_=> .nil
 | _,_,.cons h r,p=>by
  unfold pls at p;rw [cN] at p;exact .cons (IsD.keepP e h p.1) (dM.keepP e r p.2)
end
end L2
namespace HN
open PySem L2 PyProof.Rows
theorem lx {α:Type}{f:α→Dt}:∀ (xs:List α),(∀ x∈xs,pl (f x)=true)→pls (xs.map f)=true
 | [],_=>by show pls []=true;unfold pls;rfl
 | x::xs,h=>by
  show pls (f x::xs.map f)=true;unfold pls;rw [h x (by simp),lx xs fun y hy=>h y (aw _ hy)];rfl
theorem pl_ints (ns:List Int):pl (.tup (ns.map Dt.int))=true:=by
 unfold pl;exact lx ns fun x _=>by unfold pl;rfl
theorem mQ (f:α→List Int)(xs:List α):pl (rowsP f xs)=true:=by
 unfold rowsP;unfold pl;exact lx xs fun x _=>pl_ints (f x)
def RowOk (b:Int)(sp:List Sn)(bs:List (Int×Int))(r:Int×List Stp):Prop:=Rg sp r.2∧sureB b bs r.2=true∧ -1000000000000≤r.1∧r.1≤1000000000000
def LfOk (b:Int)(sp:List Sn)(bs:List (Int×Int)):Lf→Prop
 | .ring ws=>Rg sp ws∧jD b bs ws=true
 | .price rows=>rows.length≤40∧∀ r∈rows,RowOk b sp bs r
theorem cw {m:Int}(e:lH H H')(h:IsD H v (lM b m sp)):IsD H' v (lM b m sp):=by
 obtain ⟨t,xs,rfl,ht,rx⟩:=h.tup_of;cases rx with
 | cons h0 r0 =>
  cases r0 with
  | cons h1 r1 =>
   cases r1 with
   | cons h2 r2 =>
    cases r2;cases h0;cases h1;obtain ⟨p,ys,rfl,hp,ry⟩:=h2.tup_of;exact .tup (e _ _ ht) (.cons (.int _) (.cons (.int _) (.cons (.tup (e _ _ hp) (eU (f:=Sn.row) (xs:=sp) e ry)) .nil)))
def sideS (k:Int)(x:Sn):Sn:=⟨x.s+k,x.g+k,x.l,x.o,x.w⟩
theorem Rdy.side {k:Int}{t1 t2:List Int}{sp1 sp2:List Sn}(hk:(t1.length:Int)=k)(R1:Rdy b t1 sp1)(R2:Rdy b t2 sp2)(few:sp1.length+sp2.length≤1000):Rdy b (t1++t2) (sp1++sp2.map (sideS k)) :=
 ⟨R1.b1,by rw [au,ae];exact few,fun x hx=>by
  rw [au]
  rcases aK.mp hx with hx | hx
  ·obtain ⟨s0,s1,g0,g1⟩:=R1.ends x hx
   exact ⟨s0,by lia,g0,by lia⟩
  ·obtain ⟨y,hy,rfl⟩:=aW.mp hx
   obtain ⟨s0,s1,g0,g1⟩:=R2.ends y hy;show 0≤y.s+k∧y.s+k<((t1.length+t2.length:Nat):Int)∧0≤y.g+k∧y.g+k<((t1.length+t2.length:Nat):Int);lia⟩
structure Sides (b m1 m2:Int)(sp1 sp2:List Sn):Prop where
 N1:kd b m1 sp1
 N2:kd b m2 sp2
 m:m1+m2≤16
 few:sp1.length+sp2.length≤40
def TabsL (H:Hp)(b m:Int)(us:List V):Prop:=∀ u∈us,∃ (q:ai) (ts:List Int),u= .ref q∧H q=some (.tup (ts.map V.int))∧(ts.length:Int)=m
theorem TabsL.same {m:Int}{us:List V}(h:TabsL H b m us)(e:bJ H H'):TabsL H' b m us:=fun u hu=>let ⟨q,ts,a,c,d⟩:=h u hu;⟨q,ts,a,e _ _ c,d⟩
def strS (n:Int)(x:Sn):Sn:=⟨x.s,x.g,x.l * n,x.o * n,x.w⟩
def strT (n:Int)(ts:List Int):List Int:=ts.map fun t=>t * n
theorem strT_len (n:Int)(ts:List Int):(strT n ts).length=ts.length:=by unfold strT;rw [ae]
theorem Rdy.str {n:Int}(R:Rdy b ts sp)(hn:0<n):Rdy (b * n) (strT n ts) (sp.map (strS n)) :=
 ⟨Int.mul_pos R.b1 hn,by rw [ae];exact R.few,fun x hx=>by
  obtain ⟨y,hy,rfl⟩:=aW.mp hx;rw [strT_len];exact R.ends y hy⟩
end HN
namespace L2
open PySem PySem.W PyProof.Rows
def Gd {α:Type}(lt:Nat→Nat→Bool)(n:Nat):KasT α→(α→Prop)→Prop
 | .ret a,P=>P a
 | .ask i j k,P=>i<n∧j<n∧Gd lt n (k (lt i j)) P
theorem Gd.mono {α:Type}{lt:Nat→Nat→Bool}{n:Nat}{P R:α→Prop}(h:∀ a,P a→R a):∀ {t:KasT α},Gd lt n t P→Gd lt n t R
 | .ret a,g=>h a g
 | .ask _ _ _,g=>⟨g.1,g.2.1,Gd.mono h g.2.2⟩
theorem Gd.bind {α β:Type}{lt:Nat→Nat→Bool}{n:Nat}{f:α→KasT β}{P:β→Prop}:∀ {t:KasT α},Gd lt n t (fun a=>Gd lt n (f a) P)→Gd lt n (t.bind f) P
 | .ret _,g=>g
 | .ask _ _ _,g=>⟨g.1,g.2.1,Gd.bind g.2.2⟩
theorem Gd.wp {α:Type}{lt:Nat→Nat→Bool}{n:Nat}{P:α→Prop}{cmp:Nat→Nat→(Bool→ao→Prop)→ao→Prop}{Q:α→ao→Prop}{s:ao}(hc:∀ i j C,i<n→j<n→C (lt i j) s→cmp i j C s)(hq:∀ a,P a→Q a s):∀ {t:KasT α},Gd lt n t P→t.kasWp cmp Q s
 | .ret a,g=>hq a g
 | .ask i j k,g=>hc i j _ g.1 g.2.1 (Gd.wp hc hq g.2.2)
structure Ord (lt:Nat→Nat→Bool)(n:Nat):Prop where
 tot:∀ i j,i<n→j<n→i≠j→lt i j=false→lt j i=true
 tr:∀ i j k,lt i j=true→lt j k=true→lt i k=true
abbrev gA (p:Array Nat)(i:Nat):Nat:=p.getD i 0
abbrev Pm (n:Nat)(p:Array Nat):Prop:=p.toList.Perm (aQ n)
theorem l7:gA p i=p[i]?.getD 0:=by
 show p.getD i 0=_;rw [Array.getD_eq_getD_getElem?]
theorem Pm.size (h:Pm n p):p.size=n:=by
 have:=h.length_eq;rw [bo,df] at this;exact this
theorem Pm.lt (h:Pm n p)(hi:i<n):gA p i<n:=by
 have hs:i<p.size:=by rw [h.size];exact hi
 have e:gA p i=p[i]:=by rw [l7,eM hs];rfl
 rw [e];have:p[i]∈p.toList:=by simp
 exact bY.mp (h.mem_iff.mp this)
theorem Pm.ne (h:Pm n p)(hij:i<j)(hj:j<n):gA p i≠gA p j:=by
 have hd:p.toList.Nodup:=h.nodup_iff.mpr iF;have si:i<p.toList.length:=by rw [df,h.size];lia
 have sj:j<p.toList.length:=by rw [df,h.size];lia
 have ei:gA p i=p.toList[i]:=by rw [l7,eM (by rw [h.size];lia)];simp
 have ej:gA p j=p.toList[j]:=by rw [l7,eM (by rw [h.size];lia)];simp
 rw [ei,ej];exact List.pairwise_iff_getElem.mp (bV.mp hd) i j si sj hij
theorem Pm.of {q:Array Nat}(h:Pm n p)(e:q.Perm p):Pm n q:=(Array.perm_iff_toList_perm.mp e).trans h
def SoA (lt:Nat→Nat→Bool)(p:Array Nat)(m:Nat):Prop:=∀ i j,i<j→j<m→lt (gA p i) (gA p j)=true
def DeA (lt:Nat→Nat→Bool)(p:Array Nat)(m:Nat):Prop:=∀ i j,i<j→j<m→lt (gA p j) (gA p i)=true
section
variable {lt:Nat→Nat→Bool}
theorem SoA.more (O:Ord lt n)(h:SoA lt p m)(h1:lt (gA p (m - 1)) (gA p m)=true):SoA lt p (m+1):=fun i j hij hj=>by
 by_cases e:j<m
 ·exact h i j hij e
 ·have ej:j=m:=by lia
  rw [ej]
  by_cases ei:i=m - 1
  ·rw [ei];exact h1
  ·exact O.tr _ _ _ (h i (m - 1) (by lia) (by lia)) h1
theorem DeA.more (O:Ord lt n)(h:DeA lt p m)(h1:lt (gA p m) (gA p (m - 1))=true):DeA lt p (m+1):=fun i j hij hj=>by
 by_cases e:j<m
 ·exact h i j hij e
 ·have ej:j=m:=by lia
  rw [ej]
  by_cases ei:i=m - 1
  ·rw [ei];exact h1
  ·exact O.tr _ _ _ h1 (h i (m - 1) (by lia) (by lia))
theorem asc_ok (O:Ord lt n){p:Array Nat}(hp:Pm n p):∀ (f m:Nat),1≤m→m+f=n→SoA lt p m→Gd lt n (kas_asc p f m) (fun r=>m≤r∧r≤n∧SoA lt p r∧(r<n→lt (gA p r) (gA p (r - 1))=true))
 | 0,m,_,h1,hs=>⟨aA _,by lia,hs,fun z=>qS z (by lia)⟩
 | f+1,m,h0,h1,hs=>by
  refine ⟨hp.lt (by lia),hp.lt (by lia),?_⟩;cases c:lt (gA p m) (gA p (m - 1)) with
  | true =>
   exact ⟨aA _,by lia,hs,fun _=>c⟩
  | false =>
   have h2:=O.tot _ _ (hp.lt (by lia)) (hp.lt (by lia)) (hp.ne (by lia:m - 1<m) (by lia)).symm c;refine (asc_ok O hp f (m+1) (by lia) (by lia) (hs.more O h2)).mono fun r ⟨a,b,cc,d⟩=>⟨by lia,b,cc,d⟩
theorem desc_ok (O:Ord lt n){p:Array Nat}(hp:Pm n p):∀ (f m:Nat),1≤m→m+f=n→DeA lt p m→Gd lt n (kas_desc f p m 0) (fun r=>r.1=p∧r.2.2=0∧m≤r.2.1∧r.2.1≤n∧DeA lt p r.2.1)
 | 0,m,_,h1,hs=>⟨rfl,rfl,aA _,by show m≤n;lia,hs⟩
 | f+1,m,h0,h1,hs=>by
  refine ⟨hp.lt (by lia),hp.lt (by lia),?_⟩;cases c:lt (gA p m) (gA p (m - 1)) with
  | true =>
   refine (desc_ok O hp f (m+1) (by lia) (by lia) (hs.more O c)).mono fun r ⟨a,b,cc,d,e⟩=>⟨a,b,by lia,d,e⟩
  | false =>
   have h2:=O.tot _ _ (hp.lt (by lia)) (hp.lt (by lia)) (hp.ne (by lia:m - 1<m) (by lia)).symm c;refine ⟨hp.lt (by lia),hp.lt (by lia),?_⟩;show Gd lt n (if (lt (gA p (m - 1)) (gA p m))=true then KasT.ret (p,m,0) else kas_desc f p (m+1) (0+1)) _;rw [qR h2];exact ⟨rfl,rfl,aA _,by show m≤n;lia,hs⟩
theorem rev_ok (hp:Pm n p)(hm:m≤n):Pm n (kas_rev p 0 m):=hp.of (mirror_perm _ _ _ _)
theorem rev_so (hp:Pm n p)(hm:m≤n)(h:DeA lt p m):SoA lt (kas_rev p 0 m) m:=fun i j hij hj=>by
 have e:∀ k,k<m→gA (kas_rev p 0 m) k=gA p (m - 1 - k):=fun k hk=>by
  rw [l7,l7];have:=getElem?_mirror_all (xs:=p) (i:=0) (j:=m) (by rw [hp.size];exact hm) k;unfold kas_rev;rw [this,qR ⟨bD _,hk⟩];congr 2;lia
 rw [e i (by lia),e j hj];exact h _ _ (by lia) (by lia)
theorem tail_ok (O:Ord lt n)(hp:Pm n p)(h1:1≤m)(hm:m≤n)(h:DeA lt p m):Gd lt n (kas_tail3 m n p) (fun r=>Pm n r.2∧1≤r.1∧r.1≤n∧SoA lt r.2 r.1):=by
 unfold kas_tail3;refine Gd.bind ((asc_ok O (rev_ok hp hm) (n - m) m h1 (by lia) (rev_so hp hm h)).mono fun r ⟨a,b,c,_⟩=>?_);exact ⟨rev_ok hp hm,by show 1≤r;lia,b,c⟩
theorem count_ok (O:Ord lt n)(h1:1≤n)(hp:Pm n p):Gd lt n (kas_count n p) (fun r=>Pm n r.2∧1≤r.1∧r.1≤n∧SoA lt r.2 r.1):=by
 unfold kas_count;refine Gd.bind ((asc_ok O hp (n - 1) 1 (aA _) (by lia) (fun i j a b=>qS a (by lia))).mono fun r ⟨a,b,c,d⟩=>?_)
 by_cases e:r=n
 ·rw [qR (by rw [e];exact beq_self_eq_true n)]
  exact ⟨hp,a,b,c⟩
 ·rw [qQ (by rw [beq_iff_eq];exact e)]
  by_cases e2:r > 1
  ·rw [qR e2]
   refine ⟨hp.lt (by lia),hp.lt (by lia),?_⟩;show Gd lt n (if (lt (gA p 0) (gA p (r - 1)))=true then KasT.ret (r,p) else _) _;rw [qR (c 0 (r - 1) (by lia) (by lia))];exact ⟨hp,a,b,c⟩
  ·rw [qQ e2]
   have er:r=1:=by lia
   subst er;have hn:1<n:=by lia
   have dd:=d hn;unfold kas_descPart;refine Gd.bind ((desc_ok O hp (n - (1+1)) (1+1) (by lia) (by lia) (fun i j x y=>by
    have ei:i=0:=by lia
    have ej:j=1:=by lia
    rw [ei,ej];exact dd)).mono fun q ⟨q1,q2,q3,q4,q5⟩=>?_)
   rw [qQ (by rw [q2];lia),q1];exact tail_ok O hp (by lia) q4 q5
theorem place_ok (O:Ord lt n){p:Array Nat}(hp:Pm n p){k:Nat}(hk:k<n)(hs:SoA lt p k):∀ (f l r:Nat),l≤r→r≤k→r - l≤f→(∀ i,i<l→lt (gA p i) (gA p k)=true)→(∀ i,r≤i→i<k→lt (gA p k) (gA p i)=true)→Gd lt n (kas_place p k f l r) (fun m=>m≤k∧(∀ i,i<m→lt (gA p i) (gA p k)=true)∧∀ i,m≤i→i<k→lt (gA p k) (gA p i)=true)
 | 0,l,r,h1,h2,h3,a,b=>⟨by lia,a,fun i x y=>b i (by lia) y⟩
 | f+1,l,r,h1,h2,h3,a,b=>by
  show Gd lt n (if l ≥ r then KasT.ret l else KasT.ask (gA p k) (gA p ((l+r) / 2)) fun c=>if c=true then kas_place p k f l ((l+r) / 2) else kas_place p k f ((l+r) / 2+1) r) _
  by_cases e:l ≥ r
  ·rw [qR e]
   exact ⟨by lia,a,fun i x y=>b i (by lia) y⟩
  ·rw [qQ e]
   refine ⟨hp.lt hk,hp.lt (by lia),?_⟩;cases c:lt (gA p k) (gA p ((l+r) / 2)) with
   | true =>
    refine place_ok O hp hk hs f l ((l+r) / 2) (by lia) (by lia) (by lia) a fun i x y=>?_
    by_cases ei:i=(l+r) / 2
    ·rw [ei];exact c
    ·exact O.tr _ _ _ c (hs _ _ (by lia) y)
   | false =>
    have h5:=O.tot _ _ (hp.lt hk) (hp.lt (by lia)) (hp.ne (by lia:(l+r) / 2<k) hk).symm c;refine place_ok O hp hk hs f ((l+r) / 2+1) r (by lia) h2 (by lia) (fun i x=>?_) b
    by_cases ei:i=(l+r) / 2
    ·rw [ei];exact h5
    ·exact O.tr _ _ _ (hs i _ (by lia:i<(l+r) / 2) (by lia)) h5
theorem bub_so (O:Ord lt n)(hp:Pm n p){k:Nat}(hk:k<n)(hm:m≤k)(hs:SoA lt p k)(a:∀ i,i<m→lt (gA p i) (gA p k)=true)(b:∀ i,m≤i→i<k→lt (gA p k) (gA p i)=true):SoA lt (bubble p k (k - m)) (k+1):=fun i j hij hj=>by
 have e:∀ x,gA (bubble p k (k - m)) x=if x=m then gA p k else if m<x∧x≤k then gA p (x - 1) else gA p x:=fun x=>by
  have:=getElem?_bubble (xs:=p) (src:=k) (by rw [hp.size];exact hk) (k - m) (by lia) x;have e0:k - (k - m)=m:=by lia
  rw [e0] at this;rw [l7,this]
  by_cases h1:x=m
  ·rw [qR h1,qR h1,l7]
  ·rw [qQ h1,qQ h1]
   by_cases h2:m<x∧x≤k
   ·rw [qR h2,qR h2,l7]
   ·rw [qQ h2,qQ h2,l7]
 rw [e i,e j]
 by_cases i1:i=m
 ·rw [qR i1,qQ (by lia),qR (by lia)]
  exact b _ (by lia) (by lia)
 ·rw [qQ i1]
  by_cases i2:m<i∧i≤k
  ·rw [qR i2,qQ (by lia),qR (by lia)]
   exact hs _ _ (by lia) (by lia)
  ·rw [qQ i2]
   by_cases j1:j=m
   ·rw [qR j1];exact a _ (by lia)
   ·rw [qQ j1]
    by_cases j2:m<j∧j≤k
    ·rw [qR j2];exact hs _ _ (by lia) (by lia)
    ·rw [qQ j2];exact hs _ _ hij (by lia)
theorem bin_ok (O:Ord lt n):∀ (f:Nat) (p:Array Nat) (k:Nat),k+f=n→Pm n p→SoA lt p k→Gd lt n (kas_bin f p k) (fun q=>Pm n q∧SoA lt q n)
 | 0,p,k,h1,hp,hs=>by
  have e:k=n:=by lia
  rw [e] at hs;exact ⟨hp,hs⟩
 | f+1,p,k,h1,hp,hs=>by
  show Gd lt n ((kas_place p k k 0 k).bind fun l=>kas_bin f (bubble p k (k - l)) (k+1)) _;refine Gd.bind ((place_ok O hp (by lia) hs k 0 k (bD _) (aA _) (by lia) (fun i x=>qS x (by lia)) (fun i x y=>qS x (by lia))).mono fun m ⟨m1,m2,m3⟩=>?_);exact bin_ok O f _ (k+1) (by lia) (hp.of (bubble_perm _ _ _)) (bub_so O hp (by lia) m1 hs m2 m3)
theorem sort_ok (O:Ord lt n)(h1:1≤n):Gd lt n (kas_sort n) (fun q=>Pm n q∧SoA lt q n):=by
 unfold kas_sort;refine Gd.bind ((count_ok O h1 (p:=(aQ n).toArray) (by show (aQ n).toArray.toList.Perm _;rw [eF])).mono fun r ⟨a,b,c,d⟩=>?_)
 by_cases e:r.1<n
 ·rw [qR e]
  have em:max r.1 1=r.1:=by lia
  rw [em];exact bin_ok O _ _ _ (by lia) a d
 ·rw [qQ e]
  have er:r.1=n:=by lia
  rw [er] at d;exact ⟨a,d⟩
end
theorem pq {out:Array aa}{b:ai}{u:Obj}(hb:b≠a)(e:h.get? b=some u):(sortedHeap h a vs out).get? b=some u:=by
 unfold sortedHeap;rw [eI _ _ _ _ hb];exact ar _ (ar _ (by rw [eI _ _ _ _ hb];exact e))
theorem sortedHeap_at {out:Array aa}(e:h.get? a=some (bI "list" vs.toArray n)):∃ c,(sortedHeap h a vs out).get? a=some (bI "list" out c):=by
 unfold sortedHeap;exact ⟨_,gj (ar _ (ar _ (gj e fun _=> #[]))) fun _=>out⟩
def preAll (h:bz)(vs:List aa):bz:=((h.push (bI "list" #[] 0)).update h.objs.size (cx (· ++ vs.toArray))).push (bI "list" vs.toArray 0)
theorem preAll_keep {b:ai}{u:Obj}(e:h.get? b=some u):(preAll h vs).get? b=some u:=by
 have hb:=aE e;exact ar _ (by rw [eI _ _ _ _ (bE hb)];exact ar _ e)
theorem preAll_at:(preAll h vs).get? (h.objs.size+1)=some (bI "list" vs.toArray 0):=by
 have hsz:((h.push (bI "list" #[] 0)).update h.objs.size (cx (· ++ vs.toArray))).objs.size=h.objs.size+1:=by
  rw [bz.size_update,size_push']
 unfold preAll;rw [←hsz];exact aU _ rfl
theorem call_sortedI:lJ X (.builtin "sorted") (fun xs H Q=>∃ (p:ai) (ns:List Int),xs=[.ref p]∧SqL X.K H p (ns.map V.int)∧ns.length<64∧∀ (l:ai) (ns':List Int),H l=none→ns'.Perm ns→ns'.Pairwise (· ≤ ·)→Q (.ref l) (upd H l (.lst (ns'.map V.int)))):=by
 intro aH s σ H xs us Q I r h;obtain ⟨p,ns,rfl,hq,hn,q⟩:=h;obtain ⟨u,rfl,ru⟩:=vals1 r;cases (show u=aa.ref p from ru);obtain ⟨its,rv,pl,hz⟩:=I.list hq;have hl:its.length=ns.length:=by rw [←rv.length,ae]
 refine sorted_ints pl.isList (ints_are rv) (by lia) fun out ns' a1 a2 a3=>?_
 obtain ⟨c,hc⟩:=sortedHeap_at (h:=preAll s.heap its) (vs:=its) (out:=out) preAll_at;refine ⟨.ref (s.heap.objs.size+1),_,I.laid (o:= .lst (ns'.map V.int)) (t':=s.toks) (fun b u e=>pq (bE (ig (aE e))) (preAll_keep e)) (iB _) ⟨?_,out.toList,c,oY a1,?_⟩,rfl,q _ ns' (I.hok.fresh (iB _)) a2 a3⟩
 ·rw [ae,a2.length_eq];exact aS (by lia:ns.length≤1000) (by decide)
 ·rw [Array.toArray_toList];exact hc
def kA (h:bz)(a:ai)(vs:List aa):bz:=((h.update a (cx fun _=>(#[]:Array aa))).push (bI "tuple" vs.toArray 0)).push (bI "list" #[] 0)
theorem mid_keep {b:ai}{u:Obj}(hb:b≠a)(e:h.get? b=some u):(kA h a vs).get? b=some u :=
 ar _ (ar _ (by rw [eI _ _ _ _ hb];exact e))
def ltP (k m:Int×Int):Bool:=if (k.1 == m.1)=true then (if (k.2 == m.2)=true then false else decide (k.2<m.2)) else decide (k.1<m.1)
theorem ltP_iff {k m:Int×Int}:ltP k m=true↔(k.1<m.1∨(k.1=m.1∧k.2<m.2)):=by
 unfold ltP
 by_cases h1:k.1=m.1
 ·rw [qR (by rw [beq_iff_eq];exact h1)]
  by_cases h2:k.2=m.2
  ·rw [qR (by rw [beq_iff_eq];exact h2)]
   constructor
   ·intro h;cases h
   ·intro h;lia
  ·rw [qQ (by rw [beq_iff_eq];exact h2),decide_eq_true_eq]
   lia
 ·rw [qQ (by rw [beq_iff_eq];exact h1),decide_eq_true_eq]
  lia
abbrev kyP (ks:List (Int×Int))(i:Nat):Int×Int:=ks.getD i (0,0)
theorem kyP_at (h:i<ks.length):kyP ks i=ks[i]:=by
 show ks.getD i (0,0)=_;rw [ah,gE h];rfl
theorem ord_of (h:ks.Nodup):Ord (fun i j=>ltP (kyP ks i) (kyP ks j)) ks.length:=by
 refine ⟨fun i j hi hj hne hf=>?_,fun i j k h1 h2=>?_⟩
 ·show ltP (kyP ks j) (kyP ks i)=true
  have hn:kyP ks i≠kyP ks j:=by
   rw [kyP_at hi,kyP_at hj];intro e;exact hne ((List.getElem_inj h).mp e)
  have hf:¬ ltP (kyP ks i) (kyP ks j)=true:=by
   show ¬ ltP (kyP ks i) (kyP ks j)=true;rw [show ltP (kyP ks i) (kyP ks j)=false from hf];decide
  rw [ltP_iff] at hf ⊢;have:¬ ((kyP ks i).1=(kyP ks j).1∧(kyP ks i).2=(kyP ks j).2):=fun z=>hn (Prod.ext z.1 z.2)
  lia
 ·have h1:ltP (kyP ks i) (kyP ks j)=true:=h1
  have h2:ltP (kyP ks j) (kyP ks k)=true:=h2;show ltP (kyP ks i) (kyP ks k)=true;rw [ltP_iff] at h1 h2 ⊢;lia
def PrsAt (h:bz)(vs:List aa)(ks:List (Int×Int)):Prop:=vs.length=ks.length∧∀ (i:Nat) (v:aa) (k:Int×Int),vs[i]? =some v→ks[i]? =some k→∃ a o t u n,v= .ref a∧h.get? a=some o∧o.cls= .type "tuple" ∧o.data= .seq #[.int k.1 t,.int k.2 u] n
theorem prs_tups {h:bz}:∀ {vs:List aa} {ks:List (Int×Int)},PrsAt h vs ks→∃ fs:List aa,KatTups h vs fs∧fs.length=vs.length∧∀ f∈fs,∃ i t,f=aa.int i t
 | [],[],_=>⟨[],trivial,rfl,fun f hf=>qS hf (by simp)⟩
 | [],_::_,p=>qS p.1 (by simp)
 | _::_,[],p=>qS p.1 (by simp)
 | v::vs,k::ks,p=>by
  obtain ⟨fs,t1,t2,t3⟩:=prs_tups (vs:=vs) (ks:=ks) ⟨by have:=p.1;simp only [aM] at this;lia,fun i v' k' e1 e2=>p.2 (i+1) v' k' (by simpa using e1) (by simpa using e2)⟩;obtain ⟨a,o,t,u,n,rfl,q2,q3,q4⟩:=p.2 0 v k rfl rfl;refine ⟨.int k.1 t::fs,KatTups.cons q2 q3 q4 rfl t1,by rw [aM,aM,t2],fun f hf=>?_⟩
  rcases aB.mp hf with rfl | hf
  ·exact ⟨_,_,rfl⟩
  ·exact t3 f hf
theorem prs_kind (p:PrsAt s.heap vs ks)(h1:1≤vs.length){Q:SortKind→ao→Prop}(q:Q (tuples' true) s):aJ (aV prog w) A (keyKind' vs.toArray) Q E s:=by
 obtain ⟨fs,t1,t2,t3⟩:=prs_tups p;have e1:((aa.type "int" :aa) == aa.type "int")=true:=by trivial
 have e2:((aa.type "int" :aa) != aa.type "tuple")=true:=by trivial
 refine kat_kind (T:= .type "int") t1 (by lia) (fun v hv=>?_) e1 (by rw [e2];exact q);obtain ⟨i,t,rfl⟩:=t3 v hv;exact Looks.of_pure rfl
theorem prs_ask (p:PrsAt s.heap vs ks)(hi:i<vs.length)(hj:j<vs.length){C:Bool→ao→Prop}(c:C (ltP (kyP ks i) (kyP ks j)) s):kas_ask prog w A (tuples' true) vs i j C s:=by
 have li:=p.1;obtain ⟨a,o,t,u,n,e1,q2,q3,q4⟩:=p.2 i vs[i] ks[i] (gE hi) (gE (by lia));obtain ⟨a',o',t',u',n',e1',q2',q3',q4'⟩:=p.2 j vs[j] ks[j] (gE hj) (gE (by lia));unfold kas_ask;have ei:vs.getD i aa.none= .ref a:=by rw [ah,gE hi];exact e1
 have ej:vs.getD j aa.none= .ref a':=by rw [ah,gE hj];exact e1'
 rw [ei,ej];rw [kyP_at (by lia),kyP_at (by lia)] at c;refine kat_lt q2 q4 q2' q4' ?_;refine kat_cons (wpAny_eqBool_int ?_);unfold ltP at c
 by_cases h1:(ks[i].1 == ks[j].1)=true
 ·rw [qR h1] at c
  rw [h1];refine kat_yes (kat_cons (wpAny_eqBool_int ?_))
  by_cases h2:(ks[i].2 == ks[j].2)=true
  ·rw [qR h2] at c
   rw [h2];exact kat_yes (kat_nil c)
  ·rw [qQ h2] at c
   rw [jy.mpr h2];exact kat_no (kat_one _ _ (lt_int (Q:=PySem.W.BoolBack C) c))
 ·rw [qQ h1] at c
  rw [jy.mpr h1];exact kat_no (oneLt_int c)
def pY (h:bz)(kS a:ai)(out:List aa):bz:=(h.update kS (cx fun _=>(#[]:Array aa))).update a (cx fun _=>out.toArray)
theorem key_tail {st:SortSt}{out ks:List aa}{e:Nat}{P:PySem.Fin→ao→Prop}(hout:(arrOf st).map (·.2)=jr out)(hz:out.length<64)(hkz:ks.length<64)(hf:failedOf st=none)
  (hk:s.heap.get? kS=some (bI "list" ks.toArray e)) (ha:s.heap.get? a=some (bI "list" #[] e1)) (hne:kS≠a)
  (h:P (.done (.ret .none)) { s with heap:=pY s.heap kS a out }):aJ (aV prog w) A (ksk_tail a false e1 (.ref kS) st) P E s:=by
 have na:(s.heap.update kS (cx fun _=>(#[]:Array aa))).get? a=some (bI "list" #[] e1):=by
  rw [eI _ _ _ _ (bX hne)];exact ha
 unfold ksk_tail
 try dsimp only
 rw [hout];refine af (listUpdate_at hk rfl ?_ (by rw [aD,eY];lia) (bD _));refine af (ku ?_);refine af (seqEpoch_at na rfl ?_);refine af (listUpdate_at na rfl ?_ (bD _) (by show (if false=true then _ else out.toArray).size≤_;rw [qQ (by decide),aD,eY];lia));rw [hf];simp only [bne_self_eq_false,Bool.false_eq_true,if_false];exact aC h
theorem key_end {ks:List aa}{e:Nat}{κ:SortKind}{lt:Nat→Nat→Bool}{P:PySem.Fin→ao→Prop}(hl:ks.length=vs.length)(h2:2≤vs.length)(h64:vs.length<64)(O:Ord lt vs.length)
  (hk:s.heap.get? kS=some (bI "list" ks.toArray e)) (ha:s.heap.get? a=some (bI "list" #[] e1)) (hne:kS≠a)
  (hkk:∀ Q:SortKind→ao→Prop,Q κ s→aJ (aV prog w) A (keyKind' ks.toArray) Q (fun _ _=>False) s)
  (hc:∀ i j C,i<vs.length→j<vs.length→C (lt i j) s→kas_ask prog w A κ ks i j C s)
  (h:∀ p:Array Nat,Pm vs.length p→SoA lt p vs.length→P (.done (.ret .none)) { s with heap:=pY s.heap kS a (p.toList.map fun i=>vs.getD i aa.none) }) :
  aJ (aV prog w) A (ksk_end a false vs.toArray e1 (.ref kS) ks.toArray) P E s:=by
 have hn2:¬ vs.toArray.size<2:=by rw [aD];lia
 unfold ksk_end
 try dsimp only
 rw [qQ (by decide),qQ hn2,qQ hn2,qQ (by decide)];refine af (bP (hkk (fun κ' s'=>κ'=κ∧s'=s) ⟨rfl,rfl⟩) (fun κ' s0 z=>?_) fun _ _ x=>x.elim);obtain ⟨z1,z2⟩:=z;subst z1;subst z2;have G:=(sort_ok O (by lia)).wp (cmp:=kas_ask prog w A κ' ks) (s:=s0) (Q:=fun p s'=>s'=s0∧Pm vs.length p∧SoA lt p vs.length) hc (fun p hp=>⟨rfl,hp.1,hp.2⟩);refine af (bP (kat_run (Q:=fun st' s'=>∃ p:Array Nat,p.size=vs.length∧arrOf st'=p.map (kas_item (ks.toArray.zip vs.toArray))∧failedOf st'=none∧s'=s0∧Pm vs.length p∧SoA lt p vs.length) hl h2 h64 (fun p' st' s' a1 a2 a3 a4=>⟨p',a1,a2,a3,a4.1,a4.2.1,a4.2.2⟩) G) ?_ fun _ _ e=>e);rintro ⟨⟨⟩,st'⟩ s' ⟨p,hp,har,hf,rfl,pm,so⟩
 try dsimp only
 exact key_tail (kat_snds hl har) (by rw [ae,df,hp];exact h64) (by lia) hf hk ha hne (h p pm so)
theorem key_fold {f:aa}{kS:ai}{body:aa→PUnit→Sem (ForInStep PUnit)}(J:List aa→ao→Prop)(vs:List aa)(h64:vs.length<64)
  (hb:∀ x ks e (t:ao),ks.length<64→t.heap.get? kS=some (bI "list" ks.toArray e) →
   aJ (aV prog w) A (jS f [x]) (fun k t'=>t'.heap.get? kS=some (bI "list" ks.toArray e)∧∀ h' c,dm kS t'.heap h'→h'.get? kS=some (bI "list" (ks++[k]).toArray c)→J (ks++[k]) { t' with heap:=h' }) (fun _ _=>False) t →
   aJ (aV prog w) A (body x ⟨⟩) (fun r t'=>r= .yield ⟨⟩∧∃ k c,t'.heap.get? kS=some (bI "list" (ks++[k]).toArray c)∧J (ks++[k]) t') E t)
  (hc:∀ ks x e (t:ao),vs[ks.length]? =some x→J ks t→t.heap.get? kS=some (bI "list" ks.toArray e) →
   aJ (aV prog w) A (jS f [x]) (fun k t'=>t'.heap.get? kS=some (bI "list" ks.toArray e)∧∀ h' c,dm kS t'.heap h'→h'.get? kS=some (bI "list" (ks++[k]).toArray c)→J (ks++[k]) { t' with heap:=h' }) (fun _ _=>False) t) :
  ∀ (r ks:List aa) (e:Nat) (t:ao),vs=vs.take ks.length++r→ks.length+r.length=vs.length→t.heap.get? kS=some (bI "list" ks.toArray e)→J ks t →
   aJ (aV prog w) A (forIn r PUnit.unit body) (fun _ t'=>∃ ks e,t'.heap.get? kS=some (bI "list" ks.toArray e)∧ks.length=vs.length∧J ks t') E t
 | [],ks,e,t,_,hl,hk,j=>by
  rw [List.forIn_nil];exact aC ⟨ks,e,hk,by simpa using hl,j⟩
 | x::r,ks,e,t,hv,hl,hk,j=>by
  rw [aM] at hl;rw [List.forIn_cons];have hx:vs[ks.length]? =some x:=by
   rw [hv,bO (by rw [bH];lia),bH,show ks.length - min ks.length vs.length=0 by lia];rfl
  refine af (bP (hb x ks e t (by lia) hk (hc ks x e t hx j hk)) (fun q t' hq=>?_) fun _ _ z=>z);obtain ⟨rfl,k,c,hk',j'⟩:=hq;show aJ (aV prog w) A (forIn r PUnit.unit body) _ E t';refine key_fold J vs h64 hb hc r (ks++[k]) c t' ?_ (by rw [au,gX];lia) hk' j';rw [au,gX,bj,hx]
  simpa using hv
theorem key_rest {f:aa}{P:PySem.Fin→ao→Prop}(J:List aa→ao→Prop)(h64:vs.length<64)(hk:s.heap.get? kS=some (bI "list" #[] 0))(j0:J [] s)
  (hc:∀ ks x e (t:ao),vs[ks.length]? =some x→J ks t→t.heap.get? kS=some (bI "list" ks.toArray e) →
   aJ (aV prog w) A (jS f [x]) (fun k t'=>t'.heap.get? kS=some (bI "list" ks.toArray e)∧∀ h' c,dm kS t'.heap h'→h'.get? kS=some (bI "list" (ks++[k]).toArray c)→J (ks++[k]) { t' with heap:=h' }) (fun _ _=>False) t)
  (h:∀ ks e (t:ao),ks.length=vs.length→J ks t→t.heap.get? kS=some (bI "list" ks.toArray e)→aJ (aV prog w) A (ksk_end a false vs.toArray e1 (.ref kS) ks.toArray) P E t) :
  aJ (aV prog w) A (ksk_rest a f false vs.toArray e1 (.ref kS)) P E s:=by
 unfold ksk_rest;refine af (wpAny_rule ?_)
 first
  | rw [List.forIn_toArray]
  | (rw [←Array.forIn_toList];simp only [eF])
  | rw [←Array.forIn_toList]
 refine af (bP (key_fold J vs h64 (fun x ks e t hz ht hx=>?_) hc vs [] 0 s (by simp) (by simp) hk j0) (fun _ t hd=>?_) fun _ _ z=>z)
 ·refine af (wpAny_attempt (bP hx (fun k t' hk=>?_) fun _ _ hF=>hF.elim))
  obtain ⟨k1,k2⟩:=hk;have s1:=fS t'.heap kS (cx (·.push k));have ea:(jr ks).push k=jr (ks++[k]):=by simp
  obtain ⟨c2,hc2⟩:∃ c2,(t'.heap.update kS (cx (·.push k))).get? kS=some (bI "list" (jr (ks++[k])) c2):=⟨_,by rw [←ea];exact gj k1 (·.push k)⟩
  try dsimp only
  refine af (listUpdate_at k1 rfl ?_ (by rw [aD,eY];lia) (aS (Nat.le_of_eq (Array.size_push ..)) (by rw [aD,eY];lia)));exact aC ⟨rfl,k,c2,hc2,k2 _ c2 s1 hc2⟩
 ·obtain ⟨ks,e,hk',hl,j⟩:=hd
  try dsimp only
  refine af (listItems_at hk' rfl ?_);exact h ks e t hl j hk'
theorem collect_range {r:ai}{a c:Int}{t u v:Tok}{Q:List aa→ao→Prop}(hh:A.handled=none)(hr:IsRange s.heap r a b c t u v)(hsmall:gW a b c=true)(hn:dJ a b c=n)(hlen:n≤2 ^ 24)
  (h:∀ h' tk acc,(∀ b o,s.heap.get? b=some o→h'.get? b=some o)→s.heap.objs.size<h'.objs.size→ItemsOf (fun i v=>∃ t,v= .int (a+i * c) t) acc n→Q acc.toList { s with heap:=h',toks:=tk }) :
  aJ (aV prog w) A (collect (.ref r)) Q E s:=by
 unfold collect;refine af (wpAny_runValue (kK entry_proto_collect' ?_));show aJ _ _ (do again (.builtin "list.__iadd__" ⟨[←newList [],.ref r],[]⟩)) _ _ s;refine af (wpAny_newList (aC ⟨Code.quiet_builtin _ (by trivial),kK entry_list_iadd' ?_⟩));have key:=wpAny_extend_range (prog:=prog) (w:=w) (A:=A) (s:={ s with heap:=s.heap.push (bI "list" #[] 0) }) (R:=fun r s'=>match r with
   | .ok (.ret v)=>aJ (aV prog w) A (match v with
    | .ref a=>do
     let o ← load a
     match o.data with
     | .seq xs _=>fj xs.toList
     | _=>unsupported "internal:collect"
    | _=>unsupported "internal:collect") Q E s'
   | .ok _=>False
   | .error e=>E e s') hh (ar _ hr) hsmall hn hlen s.heap.objs.size (.ref s.heap.objs.size) 0 (aU _ rfl) (fun h' tk acc c' hk hS hacc=>by
  show aJ (aV prog w) A (do
    let o ← load s.heap.objs.size
    match o.data with
    | .seq xs _=>fj xs.toList
    | _=>unsupported "internal:collect") Q E { s with heap:=h',toks:=tk }
  refine af (wpAny_load hS ?_);exact aC (h h' tk acc (fun b o e=>hk b o (bE (aE e)) (ar _ e)) (aE hS) hacc))
 exact key
def KeyDo (prog:aN)(w:bp)(B:bL)(f:aa)(vs:List aa)(kS D:ai)(e1:Nat)(Q:ao→Prop)(s1:ao):Prop :=
 ∃ J:List aa→ao→Prop,J [] s1 ∧
  (∀ ks x e (t:ao),vs[ks.length]? =some x→J ks t→t.heap.get? kS=some (bI "list" ks.toArray e) →
   aJ (aV prog w) B (jS f [x]) (fun k t'=>t'.heap.get? kS=some (bI "list" ks.toArray e)∧∀ h' c,dm kS t'.heap h'→h'.get? kS=some (bI "list" (ks++[k]).toArray c)→J (ks++[k]) { t' with heap:=h' }) (fun _ _=>False) t) ∧
  ∀ ks (t:ao),ks.length=vs.length→J ks t→t.heap.get? D=some (bI "list" #[] e1)∧∃ κ lt,Ord lt vs.length ∧
   (2≤vs.length→∀ Q:SortKind→ao→Prop,Q κ t→aJ (aV prog w) B (keyKind' ks.toArray) Q (fun _ _=>False) t) ∧
   (∀ i j C,i<vs.length→j<vs.length→C (lt i j) t→kas_ask prog w B κ ks i j C t) ∧
   ∀ p:Array Nat,Pm vs.length p→SoA lt p vs.length→Q { t with heap:=pY t.heap kS D (p.toList.map fun i=>vs.getD i aa.none) }
theorem zip_snd:∀ (ks vs:List aa),ks.length=vs.length→(ks.zip vs).map (·.2)=vs
 | [],[],_=>rfl
 | [],_::_,h=>by cases h
 | _::_,[],h=>by cases h
 | _::ks,v::vs,h=>by
  show v::(ks.zip vs).map (·.2)=v::vs;rw [zip_snd ks vs (by simpa using h)]
theorem key_end_few {ks:List aa}{e:Nat}{P:PySem.Fin→ao→Prop}(hl:ks.length=vs.length)(h2:vs.length<2)
  (hk:s.heap.get? kS=some (bI "list" ks.toArray e)) (ha:s.heap.get? a=some (bI "list" #[] e1)) (hne:kS≠a)
  (h:P (.done (.ret .none)) { s with heap:=pY s.heap kS a vs }) :
  aJ (aV prog w) A (ksk_end a false vs.toArray e1 (.ref kS) ks.toArray) P E s:=by
 have hn2:vs.toArray.size<2:=by rw [aD];lia
 unfold ksk_end
 try dsimp only
 rw [qQ (by decide),qR hn2,qR hn2,qQ (by decide)];refine af (aC ?_);rw [StateT.run_pure];refine af (aC ?_)
 try dsimp only
 refine key_tail (out:=vs) ?_ (by lia) (by lia) rfl hk ha hne h;show (ks.toArray.zip vs.toArray).map (·.2)=vs.toArray
 apply Array.toList_inj.mp
 rw [Array.toList_map,Array.toList_zip];exact zip_snd ks vs hl
theorem range_getD (vs:List aa):((aQ vs.length).map fun i=>vs.getD i aa.none)=vs:=by
 refine List.ext_getElem? fun i=>?_
 rw [az]
 by_cases hi:i<vs.length
 ·rw [gB hi]
  show some (vs.getD i aa.none)=_;rw [ah,gE hi];rfl
 ·rw [List.getElem?_eq_none (by rw [bo];lia),List.getElem?_eq_none (by lia)];rfl
theorem key_tree {q:ai}{P:PySem.Fin→ao→Prop}(ho:s.heap.get? a=some (bI "list" vs.toArray n))(h64:vs.length<64)
  (h:∀ e1,(kA s.heap a vs).get? a=some (bI "list" #[] e1)→(kA s.heap a vs).get? (s.heap.objs.size+1)=some (bI "list" #[] 0)→KeyDo prog w A (.ref q) vs (s.heap.objs.size+1) a e1 (fun t=>P (.done (.ret .none)) t) { s with heap:=kA s.heap a vs }) :
  aJ (aV prog w) A (ksk_tree a (.ref q) false) P E s:=by
 obtain ⟨e1,ho1⟩:∃ e1,(s.heap.update a (cx fun _=>(#[]:Array aa))).get? a=some (bI "list" #[] e1):=⟨_,gj ho fun _=> #[]⟩;have ha:a<s.heap.objs.size:=aE ho;have ho6:(kA s.heap a vs).get? a=some (bI "list" #[] e1):=ar _ (ar _ ho1);have hkS:((s.heap.update a (cx fun _=>(#[]:Array aa))).push (bI "tuple" vs.toArray 0)).objs.size=s.heap.objs.size+1:=by rw [size_push',bz.size_update]
 have hk0:(kA s.heap a vs).get? (s.heap.objs.size+1)=some (bI "list" #[] 0):=by
  unfold kA;rw [←hkS];exact aU _ rfl
 obtain ⟨J,j0,jc,je⟩:=h e1 ho6 hk0;unfold ksk_tree;refine af (listItems_at ho rfl ?_);refine af (listUpdate_at ho rfl ?_ (by rw [aD,eY];lia) (bD _));refine af (seqEpoch_at ho1 rfl ?_);refine af (wpAny_newTuple ?_ (by show vs.length≤_;rw [eY];lia));refine af (wpAny_newList ?_ (bD _));refine cI ?_;show aJ (aV prog w) A (ksk_rest a (.ref q) false vs.toArray e1 (.ref ((s.heap.update a (cx fun _=>(#[]:Array aa))).push (bI "tuple" vs.toArray 0)).objs.size)) P E { s with heap:=kA s.heap a vs };rw [hkS];refine key_rest J h64 hk0 j0 jc fun ks e t hl j hk=>?_
 obtain ⟨ha',κ,lt,O,hkk,hc,hP⟩:=je ks t hl j
 by_cases h2:vs.length<2
 ·have hh:=hP (aQ vs.length).toArray (by show (aQ vs.length).toArray.toList.Perm _;rw [eF]) (fun i j x y=>qS y (by lia))
  rw [eF,range_getD] at hh;exact key_end_few hl h2 hk ha' (cy (ig ha)) hh
 ·exact key_end hl (by lia) h64 O hk ha' (cy (ig ha)) (hkk (by lia)) hc hP
theorem sorted_keyR {r q:ai}{a c:Int}{t u v:Tok}(hh:A.handled=none)(hr:IsRange s.heap r a b c t u v)(hsmall:gW a b c=true)(hn:dJ a b c=n)(h64:n<64)
  (h:∀ (vs:List aa) (h1:bz) (tk:Nat) (D kS:ai) (e1:Nat),vs.length=n→(∀ (i:Nat) x,vs[i]? =some x→∃ t,x= .int (a+i * c) t)→(∀ b o,s.heap.get? b=some o→h1.get? b=some o)→s.heap.objs.size≤D→D<kS→h1.get? D=some (bI "list" #[] e1)→h1.get? kS=some (bI "list" #[] 0) →
   KeyDo prog w A.in1.in1 (.ref q) vs kS D e1 (fun t'=>Q (.ref D) t') { s with heap:=h1,toks:=tk }) :
  aJ (aV prog w) A (jS (.builtin "sorted") [.ref r] [(cV "key",.ref q)]) Q E s:=by
 refine call_function_entry_kw kind_sorted plain_sorted entry_sorted (ksk_s1 _ _) ?_;unfold cZ.«sorted»;refine af (m:=checkCount "sorted" 1 1 _) (aC ?_);refine af (collect_range hh hr hsmall hn (by lia) fun h' tk acc hk hlt hi=>?_);have hl:acc.toList.length=n:=by rw [df];exact hi.1
 refine af (wpAny_newList ?_ (by rw [hl,eY];lia));have hoL:(h'.push (bI "list" acc.toList.toArray 0)).get? h'.objs.size=some (bI "list" acc.toList.toArray 0):=aU _ rfl;show aJ _ _ _ _ _ { s with heap:=h'.push (bI "list" acc.toList.toArray 0),toks:=tk };refine af (cI (wpAny_call_entry_kw slot_list_sort ⟨_,hoL,rfl⟩ entry_list_sort ?body (ksk_l1 _ _)))
 case body =>
  show aJ (aV prog w) A.in1.in1 (cZ.«list.sort» ⟨[.ref h'.objs.size],[(cV "key",.ref q)]⟩) _ _ _;rw [ksk_t1];refine key_tree (s:={ s with heap:=h'.push (bI "list" acc.toList.toArray 0),toks:=tk }) hoL (by lia) fun e1 g1 g2=>?_
  have K:=h acc.toList (kA (h'.push (bI "list" acc.toList.toArray 0)) h'.objs.size acc.toList) tk h'.objs.size ((h'.push (bI "list" acc.toList.toArray 0)).objs.size+1) e1 hl ?_ ?_ (iL hlt) (by rw [size_push'];exact ig (jV _)) g1 g2
  ·obtain ⟨J,j0,jc,je⟩:=K
   refine ⟨J,j0,jc,fun ks t' x1 x2=>?_⟩;obtain ⟨y1,κ,lt,y2,y3,y4,y5⟩:=je ks t' x1 x2;exact ⟨y1,κ,lt,y2,y3,y4,fun p p1 p2=>⟨_,rfl,aC ⟨_,rfl,y5 p p1 p2⟩⟩⟩
  ·intro i x hx
   rw [Array.getElem?_toList] at hx;exact hi.2 i x hx
  ·exact fun b o e=>mid_keep (bE (jH (aE e) hlt)) (ar _ (hk b o e))
section
variable {σ:List (Option V)}
theorem Inv.take (I:Inv X aH σ H s)(hn:H D=none)(hs0:X.s₀.heap.objs.size≤D)(hL:D≠X.env.locals)(hC:∀ x c,X.env.cells.lookup x=some c→c≠D)(hP:∀ p∈X.pn++aH,p.1≠D)(new:i7 X.prog X.w (upd H D o) s.heap D o):Inv X aH σ (upd H D o) s where
 ok:=I.ok
 os:=I.os
 bare:=I.bare
 base :=
  {keep:=I.base.keep
   slot:=I.base.slot
   free:=fun b ob e nb hx=>by rw [bc (bE (aL (aE e) hs0))];exact I.base.free b ob e nb hx
   there:=I.base.there
   tups:=fun b xs e=>by have q:=I.base.tups b xs e;rw [bc (bw q hn)];exact q
   frzs:=fun b o u e=>by have q:=I.base.frzs b o u e;rw [bc (bw q hn)];exact q
   tbls:=fun b ps e=>by obtain ⟨more,q⟩:=I.base.tbls b ps e;exact ⟨more,by rw [bc (bw q hn)];exact q⟩ }
 loc:=I.loc
 cell:=I.cell
 free:=by rw [bc hL.symm];exact I.free
 freeC:=fun x c e=>by rw [bc (hC x c e)];exact I.freeC x c e
 pin:=fun p hp=>by
  obtain ⟨a,b,c,d,e⟩:=I.pin p hp;exact ⟨a,by rw [bc (hP p hp)];exact b,c,d,e⟩
 hok:=I.hok.take hn new
 len:=I.len
theorem Inv.unpin {p0:ai×Obj}(I:Inv X (p0::aH) σ H s):Inv X aH σ H s:=I.pins_of fun p hp=>I.pin p (ay _ (aw _ hp))
theorem Inv.repin {o o':Obj}(I:Inv X ((kS,o)::aH) σ H s)(hs0:X.s₀.heap.objs.size≤kS)(hC:∀ x c,X.env.cells.lookup x=some c→c≠kS)(hP:∀ p∈X.pn++aH,p.1≠kS)(hsb:dm kS s.heap h')(ho':h'.get? kS=some o')(hd:∀ v,o'.data≠ .cell v):Inv X ((kS,o')::aH) σ H { s with heap:=h' }:=by
 obtain ⟨p1,p2,p3,p4,_⟩:=I.pin (kS,o) (ay _ (aZ ..));have I2:=I.unpin.turned (t':=s.toks) (it:=kS) (h':=h') (fun b o hb e=>hsb.extBut b o hb e) p2 p3 (.inr hs0) hC hP;refine I2.pins_of fun p hp=>?_
 rcases aB.mp hp with rfl | hp
 ·exact ⟨ho',p2,p3,p4,hd⟩
 ·exact I2.pin p (ay _ hp)
theorem prs_of {as:List ai}(I:Inv X aH σ H s)(hl:as.length=ks.length)(h:∀ (i:Nat) a k,as[i]? =some a→ks[i]? =some k→H a=some (.tup [.int k.1,.int k.2])):PrsAt s.heap (as.map aa.ref) ks:=by
 refine ⟨by rw [ae,hl],fun i v k e1 e2=>?_⟩;rw [az] at e1;obtain ⟨a,ea,rfl⟩:=bq.mp e1;obtain ⟨tz,tts,tr,o,ho,hcl,_,nn,hdt⟩:=I.hok a _ (h i a k ea e2);cases tr with
 | cons r1 tr=>cases tr with
  | cons r2 tr =>
   cases tr;obtain ⟨t1,rfl⟩:=r1;obtain ⟨t2,rfl⟩:=r2;exact ⟨a,o,t1,t2,nn,rfl,ho,hcl,hdt⟩
theorem keyDo_of {B:bL}{f:aa}{num:Nat→Int}{key:Nat→Int×Int}{Q:ao→Prop}
  (I:Inv X ((kS,bI "list" #[] 0)::(D,bI "list" #[] e1)::aH) σ H s) (hl:vs.length=n) (h64:n<64) (hv:∀ (i:Nat) x,vs[i]? =some x→∃ t,x= .int (num i) t)
  (k0:X.s₀.heap.objs.size≤kS) (d0:X.s₀.heap.objs.size≤D) (kC:∀ x c,X.env.cells.lookup x=some c→c≠kS) (dC:∀ x c,X.env.cells.lookup x=some c→c≠D) (kP:∀ p∈X.pn++aH,p.1≠kS) (dP:∀ p∈X.pn++aH,p.1≠D) (hne:kS≠D)
  (hnd:((aQ n).map key).Nodup)
  (hf:∀ (t:ao) (H':Hp) (pins':List (ai×Obj)) (i:Nat) (tk:Tok),i<n→Inv X pins' σ H' t→bJ H H'→aJ (aV X.prog X.w) B (jS f [.int (num i) tk]) (fun k t'=>∃ q H'',Inv X pins' σ H'' t'∧bJ H' H''∧k= .ref q∧H'' q=some (.tup [.int (key i).1,.int (key i).2])) (fun _ _=>False) t)
  (fin:∀ (t:ao) (H':Hp) (π:List Nat),bJ H H'→H' D=none→Inv X aH σ (upd H' D (.lst (π.map fun i=>V.int (num i)))) t→π.Perm (aQ n)→π.Pairwise (fun i j=>ltP (key i) (key j)=true)→Q t) :
  KeyDo X.prog X.w B f vs kS D e1 Q s:=by
 have pK:∀ p∈X.pn++((D,bI "list" #[] e1)::aH),p.1≠kS:=fun p hp=>by
  rcases aK.mp hp with hp | hp
  ·exact kP p (aG _ hp)
  ·rcases aB.mp hp with rfl | hp
   ·exact bX hne
   ·exact kP p (ay _ hp)
 refine ⟨fun ks t=>∃ e H' as,Inv X ((kS,bI "list" ks.toArray e)::(D,bI "list" #[] e1)::aH) σ H' t∧bJ H H'∧ks=as.map aa.ref∧∀ (i:Nat) a,as[i]? =some a→H' a=some (.tup [.int (key i).1,.int (key i).2]),⟨0,H,[],I,bJ.refl H,rfl,fun i a e=>by simp at e⟩,?_,?_⟩
 ·rintro ks x e t hx ⟨e',H',as,I',S',rfl,has⟩ hk
  rw [ae] at hx;have hi:as.length<n:=by rw [←hl];exact (av.mp hx).1
  obtain ⟨tk,rfl⟩:=hv _ x hx;refine bP (hf t H' _ as.length tk hi I' S') (fun k t' hk'=>?_) fun _ _ z=>z
  obtain ⟨q,H'',I'',S'',rfl,hq⟩:=hk';have pk:=(I''.pin _ (ay _ (aZ ..))).1;have pk0:=(I'.pin _ (ay _ (aZ ..))).1;have pk0:t.heap.get? kS=some (bI "list" (as.map aa.ref).toArray e'):=pk0;rw [hk] at pk0;have ee:e=e':=by cases pk0;rfl
  refine ⟨by rw [ee];exact pk,fun h' c hsb hg=>⟨c,H'',as++[q],I''.repin k0 kC pK hsb hg (fun v z=>by cases z),S'.trans S'',by rw [aF];rfl,fun i a ea=>?_⟩⟩
  by_cases hlt:i<as.length
  ·rw [eP hlt] at ea
   exact S'' _ _ (has i a ea)
  ·rw [bO (by lia)] at ea
   have hz:i=as.length:=by
    have:=(av.mp ea).1;simp only [gX] at this;lia
   subst hz;rw [Nat.sub_self] at ea;cases ea;exact hq
 ·rintro ks t hks ⟨e',H',as,I',S',rfl,has⟩
  rw [ae] at hks;obtain ⟨pd,nD,lD,fD,_⟩:=I'.pin (D,bI "list" #[] e1) (ay _ (aw _ (aZ ..)));obtain ⟨pk,nK,lK,fK,_⟩:=I'.pin (kS,bI "list" (as.map aa.ref).toArray e') (ay _ (aZ ..));have pd:t.heap.get? D=some (bI "list" #[] e1):=pd;have pk:t.heap.get? kS=some (bI "list" (as.map aa.ref).toArray e'):=pk;have kat:∀ i,i<n→kyP ((aQ n).map key) i=key i:=fun i hi=>by
   rw [kyP_at (by rw [ae,bo];exact hi),jM,kF]
  have PR:PrsAt t.heap (as.map aa.ref) ((aQ n).map key):=prs_of I' (by rw [ae,bo];lia) fun i a k ea ek=>by
   rw [az] at ek;obtain ⟨j,ej,rfl⟩:=bq.mp ek;have hi:i<n:=by have:=(av.mp ej).1;rw [bo] at this;exact this
   rw [gB hi] at ej;cases ej;exact has i a ea
  have ln:((aQ n).map key).length=n:=by rw [ae,bo]
  have O:=ord_of hnd;rw [ln] at O;refine ⟨pd,tuples' true,fun i j=>ltP (kyP ((aQ n).map key) i) (kyP ((aQ n).map key) j),by rw [hl];exact O,fun h2 Q' q'=>prs_kind (s:=t) PR (by rw [ae];lia) q',fun i j C hi hj c=>prs_ask (s:=t) PR (by rw [ae];lia) (by rw [ae];lia) c,fun p pm so=>?_⟩;rw [hl] at pm so;have s1:=fS t.heap kS (cx fun _=>(#[]:Array aa));obtain ⟨ck,hck⟩:∃ ck,(t.heap.update kS (cx fun _=>(#[]:Array aa))).get? kS=some (bI "list" #[] ck):=⟨_,gj pk fun _=> #[]⟩;have I1:=I'.repin k0 kC pK s1 hck (fun v z=>by cases z);have I2:=I1.unpin;have hD1:(t.heap.update kS (cx fun _=>(#[]:Array aa))).get? D=some (bI "list" #[] e1):=by rw [eI _ _ _ _ (bX hne)];exact pd
  have s2:=fS (t.heap.update kS (cx fun _=>(#[]:Array aa))) D (cx fun _=>jr (p.toList.map fun i=>vs.getD i aa.none));obtain ⟨cD,hcD⟩:∃ cD,(pY t.heap kS D (p.toList.map fun i=>vs.getD i aa.none)).get? D=some (bI "list" (jr (p.toList.map fun i=>vs.getD i aa.none)) cD):=⟨_,gj hD1 fun _=>jr (p.toList.map fun i=>vs.getD i aa.none)⟩;have I3:=(I2.repin d0 dC dP s2 hcD (fun v z=>by cases z)).unpin;refine fin _ H' p.toList S' nD (I3.take nD d0 lD dC dP ⟨?_,_,cD,?_,hcD⟩) pm ?_
  ·rw [ae,pm.length_eq,bo];exact aS (by lia:n≤1000) (by decide)
  ·refine vals_at (by rw [ae,ae]) fun i x hx=>?_
   rw [az] at hx;obtain ⟨j,hj,rfl⟩:=bq.mp hx;have hjn:j<n:=bY.mp (pm.mem_iff.mp (aY hj));obtain ⟨tk,ex⟩:=hv j vs[j] (gE (by lia));refine ⟨vs.getD j aa.none,by rw [az,hj];rfl,?_⟩;rw [ah,gE (by lia)];exact ⟨tk,ex⟩
  ·refine List.pairwise_iff_getElem.mpr fun a b ha hb hab=>?_
   have sz:=Pm.size pm;rw [df] at ha hb;have:=so a b hab (by lia);have ea:gA p a=p.toList[a]:=by rw [l7,eM ha];simp
   have eb:gA p b=p.toList[b]:=by rw [l7,eM hb];simp
   have la:p.toList[a]<n:=by rw [←ea];exact pm.lt (by lia)
   have lb:p.toList[b]<n:=by rw [←eb];exact pm.lt (by lia)
   have this:ltP (kyP ((aQ n).map key) (gA p a)) (kyP ((aQ n).map key) (gA p b))=true:=this;rw [ea,eb,kat _ la,kat _ lb] at this;exact this
end
end L2
namespace L2
open PySem PySem.W PySem.Spec PyProof.Rows
def BM (mg:Str→Option aa)(base:bz):Prop:=∃ bm ob,mg "__builtins__" =some (.ref bm)∧bm≠builtinsNs∧bm≠bt∧base.get? bm=some ob∧ob.cls= .type "module" ∧ob.dict=some builtinsNs∧ob.data= .plain
def CdK (q:Str)(H:Hp)(c:ai):Prop:=∃ oc vs t,H c=some (.frz oc (.own 0))∧oc.data= .fields vs∧vs[1]? =some (.str q t)
def LamT (P:ai)(pos:Pos)(q:Str)(H:Hp):Prop :=
 H P=some (.tbl #[])∨∃ c,H P=some (.tbl #[gM pos.line,gM pos.col,.ref c])∧CdK q H c
def Tb (P:ai)(H H':Hp):Prop:=∀ a o,a≠P→H a=some o→H' a=some o
theorem Tb.refl {P:ai}(H:Hp):Tb P H H:=fun _ _ _ e=>e
theorem Tb.trans {P:ai}(a:Tb P H H1)(b:Tb P H1 H2):Tb P H H2:=fun x o n e=>b x o n (a x o n e)
theorem bJ.tb {P:ai}(a:bJ H H'):Tb P H H':=fun x o _ e=>a x o e
theorem CdK.tb {P:ai}{c:ai}(a:Tb P H H')(hn:c≠P)(k:CdK q H c):CdK q H' c:=let ⟨oc,vs,t,e,r⟩:=k;⟨oc,vs,t,a _ _ hn e,r⟩
theorem LamT.same {P:ai}(a:bJ H H')(k:LamT P pos q H):LamT P pos q H':=by
 rcases k with k | ⟨c,k,oc,vs,t,e,r⟩
 ·exact .inl (a _ _ k)
 ·exact .inr ⟨c,a _ _ k,oc,vs,t,a _ _ e,r⟩
def LamF (q:Str)(params:eS)(body:Expr)(scope:eO)(cl:List (Str×ai))(f:ai)(H:Hp):Prop :=
 ∃ pm c ct,H f=some (.frz (kla_obj "<lambda>" q params body scope cl pm c ct) (.own 0))∧CdK q H c
theorem LamF.same (a:bJ H H')(k:LamF q params body scope cl f H):LamF q params body scope cl f H' :=
 let ⟨pm,c,ct,e,oc,vs,t,e2,r⟩:=k;⟨pm,c,ct,a _ _ e,oc,vs,t,a _ _ e2,r⟩
section
variable {σ:List (Option V)}
theorem Inv.grown {P:ai}{ps more:Array aa}{tk:Nat}(I:Inv X aH σ H s)(hP:H P=some (.tbl ps))(hx:bz.ExtBut P s.heap h')(ht:h'.get? P=some (tabObj (ps++more))) :
  Inv X aH σ (upd H P (.tbl (ps++more))) { s with heap:=h',toks:=tk }:=by
 have neP:∀ b,H b=none→b≠P:=fun b e z=>by rw [z,hP] at e;cases e
 have neO:∀ b o,H b=some o→(∀ ps,o≠ .tbl ps)→b≠P:=fun b o e hn z=>by rw [z,hP] at e;exact hn ps (bQ e).symm
 refine I.step (g':=s.gens) (d':=s.drawn) (ch:=[]) (fun _ z=>nomatch z) (fun b o _ _ _ e n=>hx b o (neP b n) e) (fun b o _ _ _ e n=>⟨o.slots,hx b o (neP b n) e⟩) (fun b o _ _ n=>by rw [bc (neP b n)];exact n)
  (fun b o _ e=>?_) (fun b xs e=>by rw [bc (neO b _ e fun _ z=>by cases z)];exact e) (fun b o u e=>by rw [bc (neO b _ e fun _ z=>by cases z)];exact e) (fun b qs e=>?_) (fun m hn=>hn.extBut hx (neP _ I.free)) (fun b u e=>?_) I.bare
 ·by_cases hb:b=P
  ·exact ⟨_,hb ▸ ht⟩
  ·exact ⟨o,hx b o hb e⟩
 ·by_cases hb:b=P
  ·subst hb
   rw [hP] at e;cases e;exact ⟨more,aX⟩
  ·exact ⟨#[],by rw [bc hb,e];simp⟩
 ·by_cases hb:b=P
  ·subst hb
   rw [aX] at e;cases e;exact ht
  ·rw [bc hb] at e
   refine (I.hok b u e).stay (fun c v hc q=>hx c v ?_ q) (fun c q=>by rw [bc (neO c _ q fun _ z=>by cases z)];exact q) fun c xs q=>by rw [bc (neO c _ q fun _ z=>by cases z)];exact q
   rcases hc with rfl | hc
   ·exact hb
   ·exact neO c _ hc fun _ z=>by cases z
theorem lam_make {c P:ai}(I:Inv X aH σ H s)(hd:defaultsOf params X.env=([],[]))(mU:X.env.code= .ref c)(C:codeHdIn X.K c P=true)(B:BM X.mg X.base)
  (hfr:∀ y∈scope.names,y.2= .free→X.env.scope.names.lookup y.1=some .cell) (T:LamT P pos (X.env.qual ++ "<lambda>") H)
  (h:∀ f cl H' s',Inv X aH σ H' s'→Tb P H H'→LamT P pos (X.env.qual ++ "<lambda>") H'→LamF (X.env.qual ++ "<lambda>") params body scope cl f H'→(∀ x c,cl.lookup x=some c→X.env.cells.lookup x=some c)→(∀ y∈scope.names,y.2= .free→cl.lookup y.1=X.env.cells.lookup y.1)→Q (.ref f) s') :
  aJ (aV X.prog X.w) X.A (dH (.Lambda params body scope pos) X.env) Q X.xe s:=by
 obtain ⟨cl,hclos,c1,c2⟩:=mW (scope:=scope) (env:=X.env) fun y hy hk=>I.ok.has _ (.inl (hfr y hy hk))
 refine kla_eval hd ?_;have hgs:s.heap.Ns bt X.mg:=I.mod.glob.keeps I.bk;obtain ⟨bm,ob,b1,b2,b3,b4,b5⟩:=B;have CH:CodeHd s.heap c P:=codeHd_of_K I.kIn C;obtain ⟨ps,hP⟩:∃ ps,H P=some (.tbl ps):=by
  rcases T with T | ⟨c',T,_⟩
  ·exact ⟨_,T⟩
  ·exact ⟨_,T⟩
 have hbP:bm≠P:=fun q=>by have z:=(I.bs bm ob b4).2;rw [q,hP] at z;cases z
 have hgP:bt≠P:=fun q=>by
  obtain ⟨o,es,ep,e,_⟩:=I.mod.glob;have z:=(I.bs _ o e).2;rw [q,hP] at z;cases z
 have hBA:s.heap.BuiltinsAt X.mg P:=⟨bm,ob,b1,b2,b3,hbP,I.bk _ _ b4,b5⟩;have fin:∀ (H1:Hp) (h1:bz) (tk:Nat) (c':ai) (ctv:aa),Inv X aH σ H1 { s with heap:=h1,toks:=tk }→Tb P H H1→LamT P pos (X.env.qual ++ "<lambda>") H1→CdK (X.env.qual ++ "<lambda>") H1 c' →
   Q (.ref h1.objs.size) { s with heap:=h1.push (kla_obj "<lambda>" (X.env.qual ++ "<lambda>") params body scope cl ((X.mg "__name__").getD .none) c' ctv),toks:=tk }:=fun H1 h1 tk c' ctv I1 t1 T1 K1=>by
  have fr:H1 h1.objs.size=none:=I1.hok.fresh (aA _);have S:bJ H1 (upd H1 h1.objs.size (.frz (kla_obj "<lambda>" (X.env.qual ++ "<lambda>") params body scope cl ((X.mg "__name__").getD .none) c' ctv) (.own 0))):=fun a o e=>by rw [bc (bw e fr)];exact e
  have I2:=I1.laid (t':=tk) (a:=h1.objs.size) (o:= .frz (kla_obj "<lambda>" (X.env.qual ++ "<lambda>") params body scope cl ((X.mg "__name__").getD .none) c' ctv) (.own 0)) (h':=h1.push (kla_obj "<lambda>" (X.env.qual ++ "<lambda>") params body scope cl ((X.mg "__name__").getD .none) c' ctv)) (fun b u e=>ar _ e) (aA _) ⟨aU _ rfl,_,aU _ rfl⟩;obtain ⟨oc,vs,t,e,r⟩:=K1;exact h _ cl _ _ I2 (t1.trans S.tb) (T1.same S) ⟨_,c',ctv,aX,oc,vs,t,S _ _ e,r⟩ c1 c2
 rcases T with T | ⟨c',T,K⟩
 ·rw [T] at hP;cases hP
  have hPh:s.heap.get? P=some (tabObj #[]):=I.hok P _ T;refine kla_makeFunction (mg:=X.mg) hclos I.ok.glob hgs mU CH hPh trivial rfl hgP hBA fun c' ctv h' tk hx hge hlt hrec htb=>?_
  have I1:=I.grown (tk:=tk) T hx htb;obtain ⟨c2',oc,vs,t,e2,hoc,hdd,hv⟩:=hrec;cases e2;have Plt:P<s.heap.objs.size:=aE hPh;have ncP:c'≠P:=cy (aL Plt hge);have frc:H c'=none:=I.hok.fresh hge;have hn1:(upd H P (.tbl (#[]++ #[gM pos.line,gM pos.col,.ref c']))) c'=none:=by rw [bc ncP];exact frc
  have old:∀ b o,s.heap.get? b=some o→b≠c':=fun b o e=>bE (aL (aE e) hge)
  have I2:=I1.take (D:=c') (o:= .frz oc (.own 0)) hn1 (aS I.sz hge) (cy (aL I.lt hge)) (fun x d e=>by obtain ⟨v,o,ho,_⟩:=I.cell x d e;exact old d o ho) (fun p hp=>old _ _ (I.pin p hp).1) ⟨hoc,_,hoc⟩;refine fin _ h' tk c' ctv I2 (fun a o hn e=>?_) (.inr ⟨c',?_,oc,vs,t,aX,hdd,hv⟩) ⟨oc,vs,t,aX,hdd,hv⟩
  ·rw [bc (bw e frc),bc hn];exact e
  ·rw [bc (bX ncP),aX];rfl
 ·rw [T] at hP;cases hP
  have hPh:s.heap.get? P=some (tabObj #[gM pos.line,gM pos.col,.ref c']):=I.hok P _ T;refine kla_makeFunctionHit (cv:= .ref c') (mg:=X.mg) hclos I.ok.glob hgs mU CH hPh trivial (codeAmong_snoc [] trivial rfl) hBA fun ctv h' tk hk hsz=>?_
  exact fin H h' tk c' ctv (I.kept hk) (Tb.refl H) (.inr ⟨c',T,K⟩) K
def cxLam (X:Cx)(q:Str)(scope:eO)(cl:List (Str×ai))(L f:ai)(cd:aa)(N:List Str)(s:ao)(H:Hp):Cx :=
 { X with A:=X.A.in1.in1.deeper (envX q scope L f cd cl),N:=N,s₀:=s,H₀:=H,env:=envX q scope L f cd cl,outer:=X.stack,stack:=envX q scope L f cd cl::X.stack,ex:=[],calm:=true,fn:=fun _=>false,pn:=[],xe:=fun _ _=>False }
theorem lam_call {Q:VK}(I:Inv X aH σ H s)(hc:X.calm=true)(hr:X.A.depth<jQ)(F:LamF q params body scope cl f H)(ru:fY v u)
  (hbind:∀ pm cdv ct,bindArgs (kla_fn "<lambda>" q params body scope cl pm cdv ct) ⟨[u],[]⟩=fj [(x,u)])
  (hk:scope.kind= .function) (hco:scope.isCoroutine=false) (hgen:scope.isGenerator=false) (iK:∀ y∈scope.names,y.2≠ .cell) (hx:scope.names.lookup x=some .local) (hfx:x ∉ fr)
  (c1:∀ x c,cl.lookup x=some c→X.env.cells.lookup x=some c) (c2:∀ y∈scope.names,y.2= .free→cl.lookup y.1=X.env.cells.lookup y.1)
  (hfr:∀ y∈scope.names,y.2= .free→X.env.scope.names.lookup y.1=some .cell) (hjs:js.map (fun j=>X.N[j]?)=fr.map some) (hfv:∀ y∈fr,scope.names.lookup y=some .free)
  (hb:∀ L cd s' H',PE (cxLam X q scope cl L f cd (x::fr) s' H') body te) (ht:te (some v::cX σ js) H Q) :
  aJ (aV X.prog X.w) X.A.in1.in1 (jS (.ref f) [u]) (EP X aH σ Q) (fun _ _=>False) s:=by
 obtain ⟨pm,cd,ct,e,oc,vs,t,ec,hdc,hvc⟩:=F;have ho:s.heap.get? f=some (kla_obj "<lambda>" q params body scope cl pm cd ct):=(I.hok f _ e).1;have hoc:s.heap.get? cd=some oc:=(I.hok cd _ ec).1;refine gF (kla_callFunE hr ho rfl hco hgen rfl ⟨cd,oc,vs,t,rfl,hoc,hdc,hvc⟩ ?_);rw [hbind];refine aC (wpAny_newFunctionEnv iK (fun y hy=>?_) (fun h₁ hns hsb=>⟨I.nolimit.fresh _ hsb,?_⟩) hk)
 ·rw [ax.mp hy];exact hx
 show iE _ _ (.expr body (envX q scope s.heap.objs.size f (.ref cd) cl)) _ _;have old:∀ b o,s.heap.get? b=some o→h₁.get? b=some o:=fun b o e=>hsb.extBut b o (bE (aE e)) (ar _ e)
 refine kla_codeExpr ?_;have ok':(cxLam X q scope cl s.heap.objs.size f (.ref cd) (x::fr) s H).Ok:=by
  refine ⟨I.ok.mod,hk,rfl,rfl,aA _,fun a b c e1 e2=>I.ok.inj a b c (c1 a c e1) (c1 b c e2),fun y hy=>?_,fun _ _ z=>qS z (by intro q;cases q),fun _=>I.ok.hd hc,bL.frames_deeper I.ok.frames,.inr ⟨rfl,rfl⟩,fun b hb=>qS (show b∈([]:List ai) from hb) (by simp),I.bs,aS I.ok.bsz I.sz,fun b o e hb=>qS (show b∈([]:List ai) from hb) (by simp),fun b hb=>qS (show b∈([]:List ai) from hb) (by simp),I.stack,I.stkFree⟩;have hy:scope.names.lookup y=some .cell∨scope.names.lookup y=some .free:=hy
  rcases hy with hy | hy
  ·exact qS rfl (iK _ (cg hy))
  ·have hm:=cg hy
   obtain ⟨c,e⟩:=I.ok.has y (.inl (hfr _ hm rfl));exact ⟨c,(c2 _ hm rfl).trans e⟩
 have lenB:(cX σ js).length=fr.length:=by
  have e:=qW List.length hjs;rw [ae,ae] at e;unfold cX;rw [ae];exact e
 have I1:Inv (cxLam X q scope cl s.heap.objs.size f (.ref cd) (x::fr) s H) [] (some v::cX σ js) H { s with heap:=h₁,toks:=s.toks+1 }:=by
  refine ⟨ok',rfl,I.bare,Un.kept old,⟨_,hns,fun i y v' e1 e2 e3=>?_⟩,fun y c e=>?_,I.hok.fresh (aA _),fun y c e=>I.freeC y c (c1 y c e),fun p hp=>qS (show p∈([]:List (ai×Obj)) from hp) (by simp),I.hok.kept old,?_⟩
  ·cases i with
   | zero =>
    have e1:some x=some y:=e1;have e2:some (some v)=some (some v'):=e2;cases e1;cases e2;exact ⟨u,ru,.inl ⟨hx,by show dk x [(x,u)]=_;rw [de,beq_self_eq_true]⟩⟩
   | succ i =>
    have e1:fr[i]? =some y:=e1;have e2:(cX σ js)[i]? =some (some v'):=e2;unfold cX at e2;rw [az] at e2;obtain ⟨j,ej,e2⟩:=bq.mp e2;have hN:X.N[j]? =some y:=by
     have q:=qW (fun l=>l[i]?) hjs;simp only [az,ej,e1,fR] at q;exact bQ q
    have hσ:σ[j]? =some (some v'):=by
     cases z:σ[j]? with
     | none=>rw [z] at e2;cases e2
     | some w=>rw [z] at e2;exact qW some e2
    have hfree:=hfv y (aY e1);have hm:=cg hfree;have hce:X.env.scope.names.lookup y=some .cell:=hfr _ hm rfl;obtain ⟨m,_,hl⟩:=I.loc;obtain ⟨u',ru',look⟩:=hl j y v' hN hσ (.inr (.inl hce));refine ⟨u',ru',.inr ⟨.inr hfree,?_⟩⟩
    rcases look with ⟨k,_⟩ | ⟨_,c,ec,ho⟩
    ·have k:X.env.scope.names.lookup y=some .local:=k
     rw [hce] at k;cases k
    ·obtain ⟨o,ho,hd⟩:=ho
     exact ⟨c,(c2 _ hm rfl).trans ec,o,old c o ho,hd⟩
  ·obtain ⟨v',o,ho,hd⟩:=I.cell y c (c1 y c e)
   exact ⟨v',o,old c o ho,hd⟩
  ·show (some v::cX σ js).length=(x::fr).length
   rw [aM,aM,lenB]
 refine bP (hb _ _ s H [] _ _ H Q I1 ht) (fun w s' hs=>?_) fun _ _ z=>z.elim
 obtain ⟨v',H',J,rv,qv⟩:=hs;exact I.after ⟨v',H',J.os,J.bare,J.base,J.hok,rv,qv⟩
end
def SortQ (P:ai)(lp:Pos)(lq:Str)(js:List Nat)(te:TE)(σ:St)(Q:VK)(v:V)(H1:Hp):Prop:=∃ (r:ai) (n:Nat) (key:Nat→Int×Int),v= .ref r∧H1 r=some (.rng 0 n)∧n<64∧LamT P lp lq H1∧((aQ n).map key).Nodup ∧
 (∀ i:Nat,i<n→∀ H2,Tb P H1 H2→te (some (.int i)::cX σ js) H2 fun u H3=>bJ H2 H3∧∃ a,u= .ref a∧H3 a=some (.tup [.int (key i).1,.int (key i).2])) ∧
 ∀ (D:ai) (H4:Hp) (π:List Nat),Tb P H1 H4→LamT P lp lq H4→H4 D=none→π.Perm (aQ n)→π.Pairwise (fun i j=>ltP (key i) (key j)=true)→Q (.ref D) (upd H4 D (.lst (π.map fun (i:Nat)=>V.int i)))
def tSortL (P:ai)(lp:Pos)(lq:Str)(tr:TE)(js:List Nat)(te:TE):TE:=fun σ H Q=>tr σ H fun v H1=>SortQ P lp lq js te σ Q v H1
def SortQ1 (P:ai)(lp:Pos)(lq:Str)(js:List Nat)(te:TE)(σ:St)(Q:VK):List V→Hp→Prop
 | [v],H1=>SortQ P lp lq js te σ Q v H1
 | _,_=>False
theorem rng_size0:dJ 0 (n:Int) 1=n:=by
 unfold dJ;rw [qR (by decide)]
 by_cases h0:(0:Int)<n
 ·rw [qR h0,Int.ediv_one];lia
 ·rw [qQ h0];lia
theorem rng_small0 (h:n<64):gW 0 (n:Int) 1=true:=by unfold gW;rw [rng_size0];unfold cZ.Range.rangeFitsLong;simp;lia
theorem pe_sortL {tr:TE}{p kp:Pos}{c P:ai}(hc:X.calm=true)(hrm:X.A.depth<jQ)(hg:Gl X "sorted")(hm:X.mg "sorted" =none)(hi:PE X re tr)
  (hd:defaultsOf params X.env=([],[])) (mU:X.env.code= .ref c) (C:codeHdIn X.K c P=true) (B:BM X.mg X.base)
  (hbind:∀ q cl pm cdv ct (u:aa),bindArgs (kla_fn "<lambda>" q params body scope cl pm cdv ct) ⟨[u],[]⟩=fj [(x,u)])
  (hk:scope.kind= .function) (hco:scope.isCoroutine=false) (hgen:scope.isGenerator=false) (iK:∀ y∈scope.names,y.2≠ .cell) (hx:scope.names.lookup x=some .local) (hfx:x ∉ fr)
  (hfr:∀ y∈scope.names,y.2= .free→X.env.scope.names.lookup y.1=some .cell) (hjs:js.map (fun j=>X.N[j]?)=fr.map some) (hfv:∀ y∈fr,scope.names.lookup y=some .free)
  (hb:∀ cl L f cd s' H',PE (cxLam X (X.env.qual ++ "<lambda>") scope cl L f cd (x::fr) s' H') body te)
  (he:fE pos (br [re] X.env)=(false,dH re X.env)::fE pos (br [] X.env):=by rfl)
  (hs:br [re] X.env=(false,dH re X.env)::br [] X.env:=by rfl) (hpl:(fE pos (br [re] X.env)).any (·.1)=false:=by rfl) :
  PE X (.Call (.Name "sorted" p) [re] [⟨some "key",.Lambda params body scope lp,kp⟩] pos) (tSortL P lp (X.env.qual ++ "<lambda>") tr js te):=by
 intro aH s σ H Q I h;refine cY (mH I hg hm (u:= .builtin "sorted") (by trivial) ?_);refine callWith_kw (kws:=[⟨some "key",.Lambda params body scope lp,kp⟩]) (thn ((ak hi aI hs) pos aH s σ H (SortQ1 P lp (X.env.qual ++ "<lambda>") js te σ Q) I h) fun us s1 ⟨vs,H1,I1,r1,q0⟩=>?_) he hpl;refine kws_cons ?_;obtain ⟨v,rfl⟩:∃ v,vs=[v]:=by
  cases vs with
  | nil=>exact q0.elim
  | cons v r=>cases r with
   | nil=>exact ⟨v,rfl⟩
   | cons _ _=>exact q0.elim
 have q1:SortQ P lp (X.env.qual ++ "<lambda>") js te σ Q v H1:=q0;obtain ⟨r,n,key,rfl,hr,h64,T,hnd,hkey,hQ⟩:=q1;obtain rfl:us=[.ref r]:=by
  cases r1 with
  | cons ru rs =>
   cases rs;exact qW (fun z=>[z]) ru
 refine lam_make (body:=body) I1 hd mU C B hfr T fun f cl H2 s2 I2 tb T2 F2 c1 c2=>?_
 refine kws_nil ?_;show aJ _ _ (jS (.builtin "sorted") [.ref r] [(cV "key",.ref f)]) _ _ _;have rP:r≠P:=fun z=>by
  rcases T with T | ⟨_,T,_⟩ <;> rw [←z,hr] at T <;> cases T
 obtain ⟨t1,t2,t3,e3⟩:=I2.hok r _ (tb r _ rP hr);have hr3:IsRange s2.heap r 0 n 1 t1 t2 t3:=by first | exact e3 | exact ⟨_,e3,rfl,rfl⟩
 refine sorted_keyR (I2.ok.hd hc) hr3 (rng_small0 h64) rng_size0 h64 fun ws h1 tk D kS e1 hl hw hkeep hD hDk gD gK=>?_
 have I3:Inv X aH σ H2 { s2 with heap:=h1,toks:=tk }:=I2.kept hkeep;have old:∀ b o,s2.heap.get? b=some o→b≠D∧b≠kS:=fun b o e=>⟨bE (aL (aE e) hD),bE (jH (aL (aE e) hD) hDk)⟩
 have hDs:=aE gD;have hKs:=aE gK;have frD:H2 D=none:=I2.hok.fresh hD;have frK:H2 kS=none:=I2.hok.fresh (iL (bT hD hDk));have cc:∀ y d,X.env.cells.lookup y=some d→d≠D∧d≠kS:=fun y d e=>by obtain ⟨v,o,ho,_⟩:=I2.cell y d e;exact old d o ho
 have pp:∀ z∈X.pn++aH,z.1≠D∧z.1≠kS:=fun z hz=>old _ _ (I2.pin z hz).1
 have nl:s2.heap.objs.size≤kS:=iL (bT hD hDk);have I4:Inv X ((kS,bI "list" #[] 0)::(D,bI "list" #[] e1)::aH) σ H2 { s2 with heap:=h1,toks:=tk }:=I3.pins_of fun z hz=>by
  rcases aB.mp hz with rfl | hz
  ·exact ⟨gK,frK,cy (aL I2.lt nl),I2.nofs nl,fun v z=>by cases z⟩
  ·rcases aB.mp hz with rfl | hz
   ·exact ⟨gD,frD,cy (aL I2.lt hD),I2.nofs hD,fun v z=>by cases z⟩
   ·exact I3.pin z (ay _ hz)
 refine keyDo_of (num:=fun i=>(i:Int)) (key:=key) I4 hl h64 (fun i x e=>by obtain ⟨t,q⟩:=hw i x e;exact ⟨t,by rw [q];congr 1;lia⟩) (aS I2.sz nl) (aS I2.sz hD) (fun y d e=>(cc y d e).2) (fun y d e=>(cc y d e).1) (fun z hz=>(pp z hz).2) (fun z hz=>(pp z hz).1) (cy hDk) hnd ?_ ?_
 ·intro t H' pins' i tk hi' I' S'
  refine bP (lam_call (v:= .int i) I' hc hrm (F2.same S') ⟨_,rfl⟩ (fun pm cdv ct=>hbind _ _ _ _ _ _) hk hco hgen iK hx hfx c1 c2 hfr hjs hfv (fun L cd s' H'=>hb cl L f cd s' H') (hkey i hi' H' (tb.trans S'.tb))) (fun k t' ⟨v,H'',I'',rv,S'',a,ev,ea⟩=>?_) fun _ _ z=>z
  subst ev;obtain rfl:k= .ref a:=rv;exact ⟨a,H'',I'',S'',rfl,ea⟩
 ·intro t H' π S' hD' I' pm pw
  exact ⟨.ref D,_,I',rfl,hQ D H' π (tb.trans S'.tb) (T2.same S') hD' pm pw⟩
end L2
namespace HN
open PySem L2 PyProof.Rows
def z0:Sn:=⟨0,0,0,0,0⟩
def sAt (sp:List Sn)(i:Nat):Sn:=sp.getD i z0
theorem jh (h:i<sp.length):sp[i]? =some (sAt sp i):=by
 unfold sAt;rw [ah,gE h];rfl
theorem dQ (h:i<sp.length):sAt sp i∈sp:=aY (jh h)
def wkey (sp:List Sn)(i:Nat):Int×Int:=((sAt sp i).o - (sAt sp i).l,(i:Int))
def Ordd (sp:List Sn)(π:List Nat):Prop:=π.Perm (aQ sp.length)∧π.Pairwise fun i j=>ltP (wkey sp i) (wkey sp j)=true
theorem wkey_nodup (sp:List Sn)(n:Nat):((aQ n).map (wkey sp)).Nodup:=by
 rw [bV,fU];refine List.Pairwise.imp (fun {a b} h e=>h ?_) iF;have:=qW Prod.snd e;exact Int.ofNat.inj this
theorem ltP_asym {x y:Int×Int}(h:ltP x y=true)(k:ltP y x=true):False:=by
 rw [ltP_iff] at h k;lia
theorem perm_eq {α:Type}{R:α→α→Prop}(as:∀ a b,R a b→R b a→a=b):∀ {l k:List α},l.Perm k→l.Pairwise R→k.Pairwise R→l=k
 | [],k,p,_,_=>(List.nil_perm.mp p).symm
 | a::l,k,p,hl,hk=>by
  cases k with
  | nil=>exact qS p.symm (by intro z;have:=List.nil_perm.mp z;cases this)
  | cons b k =>
   have ab:a=b:=by
    have ha:a∈b::k:=p.mem_iff.mp aZ;have hb:b∈a::l:=p.mem_iff.mpr aZ
    rcases aB.mp ha with e | ha
    ·exact e
    ·rcases aB.mp hb with e | hb
     ·exact e.symm
     ·exact as a b (List.rel_of_pairwise_cons hl hb) (List.rel_of_pairwise_cons hk ha)
   subst ab;rw [perm_eq as p.cons_inv (List.pairwise_cons.mp hl).2 (List.pairwise_cons.mp hk).2]
theorem Ordd.one {ρ:List Nat}(a:Ordd sp π)(b:Ordd sp ρ):π=ρ :=
 perm_eq (fun _ _ h k=>(ltP_asym h k).elim) (a.1.trans b.1.symm) a.2 b.2
theorem Ordd.lt (a:Ordd sp π)(h:i∈π):i<sp.length:=bY.mp (a.1.mem_iff.mp h)
theorem Ordd.len (a:Ordd sp π):π.length=sp.length:=by rw [a.1.length_eq,bo]
def iJ (gs:List Int)(x y:Int):List Int:=gs.map fun g=>if g=y then x else g
def eN (sp:List Sn)(c:List Int×List Nat)(i:Nat):List Int×List Nat :=
 if tm c.1 (sAt sp i).s=tm c.1 (sAt sp i).g then c else (iJ c.1 (tm c.1 (sAt sp i).s) (tm c.1 (sAt sp i).g),c.2++[i])
def jK (m:Nat):List Int:=(aQ m).map fun (k:Nat)=>(k:Int)
def kB (sp:List Sn)(m:Nat)(π:List Nat):List Int×List Nat:=π.foldl (eN sp) (jK m,[])
def dY (ps:List (List Int))(x:Int):List Int:=(ps.filter fun p=>decide (x∈p)).headD []
def stepQ (sp:List Sn)(c:List (List Int)×List Nat)(i:Nat):List (List Int)×List Nat :=
 if dY c.1 (sAt sp i).s=dY c.1 (sAt sp i).g then c
 else (c.1.filter (fun p=> !(decide (p=dY c.1 (sAt sp i).s)) && !(decide (p=dY c.1 (sAt sp i).g)))++[dY c.1 (sAt sp i).s++dY c.1 (sAt sp i).g],c.2++[i])
def prt0 (m:Nat):List (List Int):=(aQ m).map fun (k:Nat)=>[(k:Int)]
structure Rl (m:Nat)(gs:List Int)(ps:List (List Int)):Prop where
 len:gs.length=m
 cov:∀ x:Int,0≤x→x<m→∃ p∈ps,x∈p
 one:∀ p∈ps,∀ q∈ps,∀ x,x∈p→x∈q→p=q
 eqv:∀ x y:Int,0≤x→x<m→0≤y→y<m→(tm gs x=tm gs y↔∃ p∈ps,x∈p∧y∈p)
theorem Rl.part {ps:List (List Int)}(R:Rl m gs ps){x:Int}(h0:0≤x)(h1:x<m):dY ps x∈ps∧x∈dY ps x:=by
 obtain ⟨p,hp,hx⟩:=R.cov x h0 h1;unfold dY;have hm:p∈ps.filter fun p=>decide (x∈p):=cb.mpr ⟨hp,qT hx⟩
 cases e:ps.filter fun p=>decide (x∈p) with
 | nil=>rw [e] at hm;cases hm
 | cons q r =>
  have hq:q∈ps.filter fun p=>decide (x∈p):=by rw [e];exact aZ
  obtain ⟨a,b⟩:=cb.mp hq;exact ⟨a,qV b⟩
theorem Rl.is {ps:List (List Int)}(R:Rl m gs ps){x y:Int}(h0:0≤x)(h1:x<m)(k0:0≤y)(k1:y<m):tm gs x=tm gs y↔x∈dY ps y:=by
 obtain ⟨p1,p2⟩:=R.part k0 k1;refine (R.eqv x y h0 h1 k0 k1).trans ⟨fun ⟨p,hp,hx,hy⟩=>?_,fun h=>⟨_,p1,h,p2⟩⟩;rw [←R.one p hp _ p1 y hy p2];exact hx
theorem Rl.same {ps:List (List Int)}(R:Rl m gs ps){x y:Int}(h0:0≤x)(h1:x<m)(k0:0≤y)(k1:y<m):tm gs x=tm gs y↔dY ps x=dY ps y:=by
 refine (R.is h0 h1 k0 k1).trans ⟨fun h=>?_,fun h=>?_⟩
 ·exact R.one _ (R.part h0 h1).1 _ (R.part k0 k1).1 x (R.part h0 h1).2 h
 ·rw [←h];exact (R.part h0 h1).2
theorem kW {u v x:Int}(h0:0≤x)(h1:x<gs.length):tm (iJ gs u v) x=if tm gs x=v then u else tm gs x:=by
 obtain ⟨j,rfl⟩:=cP h0;have hj:j<gs.length:=by lia
 unfold tm iJ;simp only [cq,ah,az,gE hj,fR,Option.getD_some]
theorem Rl.join {ps:List (List Int)}(R:Rl m gs ps){a:Int}(a0:0≤a)(a1:a<m)(b0:0≤b)(b1:b<m) :
  Rl m (iJ gs (tm gs a) (tm gs b)) (ps.filter (fun p=> !(decide (p=dY ps a)) && !(decide (p=dY ps b)))++[dY ps a++dY ps b]):=by
 obtain ⟨pa,ha⟩:=R.part a0 a1;obtain ⟨pb,hb⟩:=R.part b0 b1;have mem:∀ p,p∈ps.filter (fun p=> !(decide (p=dY ps a)) && !(decide (p=dY ps b)))++[dY ps a++dY ps b]↔(p∈ps∧p≠dY ps a∧p≠dY ps b)∨p=dY ps a++dY ps b:=fun p=>by
  rw [aK,cb,ax];simp only [cN,hW,decide_eq_false_iff_not,ne_eq]
 have uni:∀ p∈ps,p≠dY ps a→p≠dY ps b→∀ x,x∈p→x ∉ dY ps a++dY ps b:=fun p hp n1 n2 x hx hz=>by
  rcases aK.mp hz with hz | hz
  ·exact n1 (R.one p hp _ pa x hx hz)
  ·exact n2 (R.one p hp _ pb x hx hz)
 refine ⟨by unfold iJ;rw [ae];exact R.len,fun x h0 h1=>?_,fun p hp q hq x hx hy=>?_,fun x y h0 h1 k0 k1=>?_⟩
 ·obtain ⟨p,hp,hx⟩:=R.cov x h0 h1
  by_cases e1:p=dY ps a
  ·exact ⟨_,(mem _).mpr (.inr rfl),aG _ (e1 ▸ hx)⟩
  ·by_cases e2:p=dY ps b
   ·exact ⟨_,(mem _).mpr (.inr rfl),ay _ (e2 ▸ hx)⟩
   ·exact ⟨p,(mem p).mpr (.inl ⟨hp,e1,e2⟩),hx⟩
 ·rcases (mem p).mp hp with ⟨p1,p2,p3⟩ | rfl
  ·rcases (mem q).mp hq with ⟨q1,q2,q3⟩ | rfl
   ·exact R.one p p1 q q1 x hx hy
   ·exact qS hy (uni p p1 p2 p3 x hx)
  ·rcases (mem q).mp hq with ⟨q1,q2,q3⟩ | rfl
   ·exact qS hx (uni q q1 q2 q3 x hy)
   ·rfl
 ·rw [kW h0 (by rw [R.len];exact h1),kW k0 (by rw [R.len];exact k1)]
  have xa:=R.is h0 h1 a0 a1;have xb:=R.is h0 h1 b0 b1;have ya:=R.is k0 k1 a0 a1;have yb:=R.is k0 k1 b0 b1;have xy:=R.eqv x y h0 h1 k0 k1
  constructor
  ·intro h
   by_cases e:tm gs x=tm gs y
   ·obtain ⟨p,hp,hx,hy⟩:=xy.mp e
    by_cases e1:p=dY ps a
    ·exact ⟨_,(mem _).mpr (.inr rfl),aG _ (e1 ▸ hx),aG _ (e1 ▸ hy)⟩
    ·by_cases e2:p=dY ps b
     ·exact ⟨_,(mem _).mpr (.inr rfl),ay _ (e2 ▸ hx),ay _ (e2 ▸ hy)⟩
     ·exact ⟨p,(mem p).mpr (.inl ⟨hp,e1,e2⟩),hx,hy⟩
   ·refine ⟨_,(mem _).mpr (.inr rfl),?_,?_⟩
    ·by_cases e1:tm gs x=tm gs b
     ·exact ay _ (xb.mp e1)
     ·rw [qQ e1] at h
      by_cases e2:tm gs y=tm gs b
      ·rw [qR e2] at h;exact aG _ (xa.mp h)
      ·rw [qQ e2] at h;exact qS h e
    ·by_cases e1:tm gs y=tm gs b
     ·exact ay _ (yb.mp e1)
     ·rw [qQ e1] at h
      by_cases e2:tm gs x=tm gs b
      ·rw [qR e2] at h;exact aG _ (ya.mp h.symm)
      ·rw [qQ e2] at h;exact qS h e
  ·rintro ⟨p,hp,hx,hy⟩
   rcases (mem p).mp hp with ⟨p1,p2,p3⟩ | rfl
   ·rw [xy.mpr ⟨p,p1,hx,hy⟩]
   ·have fx:∀ z:Int,(z∈dY ps a→tm gs z=tm gs a)→(z∈dY ps b→tm gs z=tm gs b)→z∈dY ps a++dY ps b→(if tm gs z=tm gs b then tm gs a else tm gs z)=tm gs a:=fun z f1 f2 hz=>by
     by_cases e:tm gs z=tm gs b
     ·rw [qR e]
     ·rw [qQ e]
      rcases aK.mp hz with hz | hz
      ·exact f1 hz
      ·exact qS (f2 hz) e
    rw [fx x xa.mpr xb.mpr hx,fx y ya.mpr yb.mpr hy]
theorem nW {x:Int}(h0:0≤x)(h1:x<m):tm (jK m) x=x:=by
 obtain ⟨j,rfl⟩:=cP h0;unfold tm jK;rw [cq,ah,az,gB (by lia)];rfl
theorem Rl.start (m:Nat):Rl m (jK m) (prt0 m):=by
 have mem:∀ p,p∈prt0 m↔∃ k:Nat,k<m∧p=[(k:Int)]:=fun p=>by
  unfold prt0;rw [aW];exact ⟨fun ⟨k,a,b⟩=>⟨k,bY.mp a,b.symm⟩,fun ⟨k,a,b⟩=>⟨k,bY.mpr a,b.symm⟩⟩
 refine ⟨by unfold jK;rw [ae,bo],fun x h0 h1=>⟨[x],(mem _).mpr ⟨x.toNat,by lia,by rw [iT h0]⟩,ax.mpr rfl⟩,fun p hp q hq x hx hy=>?_,fun x y h0 h1 k0 k1=>?_⟩
 ·obtain ⟨k,_,rfl⟩:=(mem p).mp hp
  obtain ⟨j,_,rfl⟩:=(mem q).mp hq;rw [←ax.mp hx,←ax.mp hy]
 ·rw [nW h0 h1,nW k0 k1]
  refine ⟨fun e=>⟨[x],(mem _).mpr ⟨x.toNat,by lia,by rw [iT h0]⟩,ax.mpr rfl,by rw [e];exact ax.mpr rfl⟩,fun ⟨p,hp,hx,hy⟩=>?_⟩;obtain ⟨k,_,rfl⟩:=(mem p).mp hp;rw [ax.mp hx,ax.mp hy]
def kO (m:Nat)(sp:List Sn):Prop:=∀ x∈sp,0≤x.s∧x.s<m∧0≤x.g∧x.g<m
theorem pU {m:Nat}{sp:List Sn}(E:kO m sp):∀ (π:List Nat) (gs:List Int) (ps:List (List Int)) (tk:List Nat),(∀ i∈π,i<sp.length)→Rl m gs ps→Rl m (π.foldl (eN sp) (gs,tk)).1 (π.foldl (stepQ sp) (ps,tk)).1∧(π.foldl (eN sp) (gs,tk)).2=(π.foldl (stepQ sp) (ps,tk)).2
 | [],gs,ps,tk,_,R=>⟨R,rfl⟩
 | i::π,gs,ps,tk,h,R=>by
  obtain ⟨a0,a1,b0,b1⟩:=E _ (dQ (h i aZ));have hs:=R.same a0 a1 b0 b1;rw [bG,bG];unfold eN stepQ
  by_cases e:tm gs (sAt sp i).s=tm gs (sAt sp i).g
  ·rw [qR (show tm (gs,tk).1 _=tm (gs,tk).1 _ from e),qR (show dY (ps,tk).1 _=dY (ps,tk).1 _ from hs.mp e)]
   exact pU E π gs ps tk (fun j hj=>h j (aw _ hj)) R
  ·rw [qQ (show ¬ tm (gs,tk).1 _=tm (gs,tk).1 _ from e),qQ (show ¬ dY (ps,tk).1 _=dY (ps,tk).1 _ from fun z=>e (hs.mpr z))]
   exact pU E π _ _ _ (fun j hj=>h j (aw _ hj)) (R.join a0 a1 b0 b1)
theorem kG (sp:List Sn):∀ (π:List Nat) (c:List Int×List Nat),(∀ i∈(π.foldl (eN sp) c).2,i∈c.2∨i∈π)∧(π.foldl (eN sp) c).2.length≤c.2.length+π.length
 | [],c=>⟨fun i h=> .inl h,aA _⟩
 | j::π,c=>by
  obtain ⟨a,b⟩:=kG sp π (eN sp c j);rw [bG];have key:(∀ i∈(eN sp c j).2,i∈c.2∨i=j)∧(eN sp c j).2.length≤c.2.length+1:=by
   unfold eN;split
   ·exact ⟨fun i h=> .inl h,by lia⟩
   ·refine ⟨fun i h=>?_,by rw [au];exact aA _⟩
    rcases aK.mp h with h | h
    ·exact .inl h
    ·exact .inr (ax.mp h)
  refine ⟨fun i hi=>?_,by rw [aM];lia⟩
  rcases a i hi with h | h
  ·rcases key.1 i h with h | h
   ·exact .inl h
   ·exact .inr (h ▸ aZ)
  ·exact .inr (aw _ h)
def ow (m:Nat)(sp:List Sn)(ns:List Int):Prop:=∃ π,Ordd sp π∧ns.Perm ((kB sp m π).2.map fun (i:Nat)=>(i:Int))∧ns.Pairwise (· ≤ ·)
theorem ow.one {ms:List Int}(a:ow m sp ns)(b:ow m sp ms):ns=ms:=by
 obtain ⟨π,o1,p1,w1⟩:=a;obtain ⟨ρ,o2,p2,w2⟩:=b;rw [o1.one o2] at p1;exact perm_eq (fun a b h k=>by lia) (p1.trans p2.symm) w1 w2
theorem ow.len (a:ow m sp ns):ns.length≤sp.length:=by
 obtain ⟨π,o,p,_⟩:=a;rw [p.length_eq,ae];have:=(kG sp π (jK m,[])).2;have h2:=o.len;have h3:((jK m,([]:List Nat)).2).length=0:=rfl;unfold kB;lia
theorem kd.ends {m:Int}(N:kd b m sp):kO m.toNat sp:=fun x hx=>by
 obtain ⟨s0,s1,g0,g1,_⟩:=N.all x hx;lia
theorem Tb.tupK (hT:∃ ps,H T=some (.tbl ps))(e:L2.Tb T H H'):lH H H':=fun q xs h=>e q _ (by obtain ⟨ps,hT⟩:=hT;exact d7 h hT nofun) h
theorem LamT.tbl (h:L2.LamT T lp lq H):∃ ps,H T=some (.tbl ps):=by
 rcases h with h | ⟨c,h,_⟩
 ·exact ⟨_,h⟩
 ·exact ⟨_,h⟩
theorem LamT.upd (h:L2.LamT T lp lq H)(ha:∀ p u,H a=some (.frz p u)→False)(hb:∀ ps,H a=some (.tbl ps)→False):L2.LamT T lp lq (upd H a o):=by
 rcases h with h | ⟨c,h,oc,vs,t,e,r⟩
 ·exact .inl (by rw [bc (fun z=>hb _ (z ▸ h))];exact h)
 ·exact .inr ⟨c,by rw [bc (fun z=>hb _ (z ▸ h))];exact h,oc,vs,t,by rw [bc (fun z=>ha _ _ (z ▸ e))];exact e,r⟩
inductive spSpW (T:ai)(lp:Pos)(lq:Str)(vs:List V)(H:Hp)(Q:VK)(_:XK):Prop
 | mk (v b m sp:_)(_:vs=[v])(_:IsD H v (lM b m sp))(_:sp.length≤40)(_:L2.LamT T lp lq H)(_:∀ D H' π,L2.Tb T H H'→L2.LamT T lp lq H'→H' D=none→Ordd sp π→Q (.ref D) (L2.upd H' D (.lst (π.map fun (i:Nat)=>V.int i))))
inductive kX (T:ai)(lp:Pos)(lq:Str)(vs:List V)(H:Hp)(Q:VK)(_:XK):Prop
 | mk (v b m sp:_)(_:vs=[v])(_:IsD H v (lM b m sp))(_:kd b m sp)(_:L2.LamT T lp lq H)(_:∀ u H' ns,L2.Tb T H H'→L2.LamT T lp lq H'→H' u=some (.tup (ns.map V.int))→ow m.toNat sp ns→Q (.ref u) H')
def Finer (m:Nat)(gs hs:List Int):Prop:=∀ x y:Int,0≤x→x<m→0≤y→y<m→tm gs x=tm gs y→tm hs x=tm hs y
theorem Finer.refl (m:Nat)(gs:List Int):Finer m gs gs:=fun _ _ _ _ _ _ h=>h
theorem kH (gs:List Int)(u v:Int):(iJ gs u v).length=gs.length:=by unfold iJ;rw [ae]
theorem Finer.wide {hs:List Int}{u v:Int}(F:Finer m gs hs)(l2:hs.length=m):Finer m gs (iJ hs u v):=by
 intro x y x0 x1 y0 y1 h;rw [kW x0 (by lia),kW y0 (by lia),F x y x0 x1 y0 y1 h]
theorem join_meets {a:Int}(l1:gs.length=m)(a0:0≤a)(a1:a<m)(b0:0≤b)(b1:b<m):tm (iJ gs (tm gs a) (tm gs b)) a=tm (iJ gs (tm gs a) (tm gs b)) b:=by
 rw [kW a0 (by lia),kW b0 (by lia),qR rfl]
 by_cases e:tm gs a=tm gs b
 ·rw [qR e]
 ·rw [qQ e]
theorem stepG_len {sp:List Sn}:∀ (π:List Nat) (c:List Int×List Nat),(π.foldl (eN sp) c).1.length=c.1.length
 | [],_=>rfl
 | i::π,c=>by
  rw [bG,stepG_len π];unfold eN;split
  ·rfl
  ·exact kH _ _ _
theorem iG (sp:List Sn)(gs:List Int)(tk:List Nat)(i:Nat):(tm gs (sAt sp i).s=tm gs (sAt sp i).g∧eN sp (gs,tk) i=(gs,tk))∨(tm gs (sAt sp i).s≠tm gs (sAt sp i).g∧eN sp (gs,tk) i=(iJ gs (tm gs (sAt sp i).s) (tm gs (sAt sp i).g),tk++[i])):=by
 unfold eN
 by_cases e:tm gs (sAt sp i).s=tm gs (sAt sp i).g
 ·exact .inl ⟨e,qR e⟩
 ·exact .inr ⟨e,qQ e⟩
theorem nM {m:Nat}{sp:List Sn}:∀ (π:List Nat) (gs hs:List Int) (tk:List Nat),hs.length=m→Finer m gs hs→Finer m gs (π.foldl (eN sp) (hs,tk)).1
 | [],_,_,_,_,F=>F
 | i::π,gs,hs,tk,l,F=>by
  rw [bG]
  rcases iG sp hs tk i with ⟨_,e⟩ | ⟨_,e⟩ <;> rw [e]
  ·exact nM π gs hs tk l F
  ·exact nM π gs _ _ (by rw [kH];exact l) (F.wide l)
theorem jY {m:Nat}{sp:List Sn}(E:kO m sp):∀ (π:List Nat) (gs:List Int) (tk:List Nat),gs.length=m→(∀ i∈π,i<sp.length)→∀ i∈π,tm (π.foldl (eN sp) (gs,tk)).1 (sAt sp i).s=tm (π.foldl (eN sp) (gs,tk)).1 (sAt sp i).g
 | [],_,_,_,_,i,h=>by cases h
 | j::π,gs,tk,l,hp,i,h=>by
  rw [bG];obtain ⟨a0,a1,b0,b1⟩:=E _ (dQ (hp j aZ));have hp':∀ i∈π,i<sp.length:=fun k hk=>hp k (aw _ hk)
  rcases iG sp gs tk j with ⟨q,e⟩ | ⟨_,e⟩ <;> rw [e]
  ·rcases aB.mp h with rfl | h
   ·exact nM π gs gs tk l (Finer.refl m gs) _ _ a0 a1 b0 b1 q
   ·exact jY E π gs tk l hp' i h
  ·have l':(iJ gs (tm gs (sAt sp j).s) (tm gs (sAt sp j).g)).length=m:=by rw [kH];exact l
   rcases aB.mp h with rfl | h
   ·exact nM π _ _ _ l' (Finer.refl m _) _ _ a0 a1 b0 b1 (join_meets l a0 a1 b0 b1)
   ·exact jY E π _ _ l' hp' i h
theorem tm_mem {x:Int}(h0:0≤x)(h1:x<gs.length):tm gs x∈gs:=by
 obtain ⟨j,rfl⟩:=cP h0;unfold tm;rw [cq,ah,gE (by lia)];exact bK _
theorem mem_tm {v:Int}(h:v∈gs):∃ x:Int,0≤x∧x<gs.length∧tm gs x=v:=by
 obtain ⟨j,hj,e⟩:=iR h;refine ⟨j,by lia,by lia,?_⟩;unfold tm;rw [cq,ah,gE hj];exact e
def Cnt (m:Nat)(gs:List Int)(k:Nat):Prop:=∃ D:List Int,D.Nodup∧(∀ v,v∈D↔v∈gs)∧D.length+k=m
theorem Cnt.join {k:Nat}(C:Cnt m gs k){u v:Int}(hu:u∈gs)(hv:v∈gs)(n:u≠v):Cnt m (iJ gs u v) (k+1):=by
 obtain ⟨D,nd,mem,l⟩:=C;have hvD:=(mem v).mpr hv;refine ⟨D.erase v,nd.erase v,fun z=>?_,by rw [lN hvD];have:=List.length_pos_of_mem hvD;lia⟩;rw [nd.mem_erase_iff,mem];unfold iJ;rw [aW]
 constructor
 ·rintro ⟨h1,h2⟩
  exact ⟨z,h2,qQ h1⟩
 ·rintro ⟨w,hw,rfl⟩
  by_cases e:w=v
  ·rw [qR e];exact ⟨n,hu⟩
  ·rw [qQ e];exact ⟨e,hw⟩
theorem oU {m:Nat}{sp:List Sn}(E:kO m sp):∀ (π:List Nat) (gs:List Int) (tk:List Nat),gs.length=m→(∀ i∈π,i<sp.length)→Cnt m gs tk.length→Cnt m (π.foldl (eN sp) (gs,tk)).1 (π.foldl (eN sp) (gs,tk)).2.length
 | [],_,_,_,_,C=>C
 | j::π,gs,tk,l,hp,C=>by
  rw [bG];obtain ⟨a0,a1,b0,b1⟩:=E _ (dQ (hp j aZ));have hp':∀ i∈π,i<sp.length:=fun k hk=>hp k (aw _ hk)
  rcases iG sp gs tk j with ⟨_,e⟩ | ⟨n,e⟩ <;> rw [e]
  ·exact oU E π gs tk l hp' C
  ·refine oU E π _ _ (by rw [kH];exact l) hp' ?_
   rw [au];exact C.join (tm_mem a0 (by lia)) (tm_mem b0 (by lia)) n
theorem Cnt.start (m:Nat):Cnt m (jK m) 0:=by
 refine ⟨jK m,?_,fun _=>Iff.rfl,by unfold jK;rw [ae,bo];lia⟩;unfold jK;rw [bV,fU];exact List.Pairwise.imp (fun {a b} h e=>h (Int.ofNat.inj e)) iF
theorem lP:∀ {l k:List Int},l.Nodup→(∀ x∈l,x∈k)→l.length≤k.length
 | [],_,_,_=>bD _
 | a::l,k,nd,h=>by
  have ha:=h a aZ;have ih:=lP (l:=l) (k:=k.erase a) (bF.mp nd).2 fun x hx=>by
   have hxk:=h x (aw _ hx);have hne:x≠a:=fun z=>(bF.mp nd).1 (z ▸ hx)
   exact (List.mem_erase_of_ne hne).mpr hxk
  rw [lN ha] at ih;have:=List.length_pos_of_mem ha;rw [aM];lia
theorem jq (m:Nat):(jK m).length=m:=by unfold jK;rw [ae,bo]
theorem o8 (sp:List Sn):∀ (π:List Nat) (gs:List Int) (tk:List Nat),∃ more,(π.foldl (eN sp) (gs,tk)).2=tk++more
 | [],gs,tk=>⟨[],(cK tk).symm⟩
 | j::π,gs,tk=>by
  rw [bG]
  rcases iG sp gs tk j with ⟨_,e⟩ | ⟨_,e⟩ <;> rw [e]
  ·exact o8 sp π gs tk
  ·obtain ⟨more,h⟩:=o8 sp π (iJ gs (tm gs (sAt sp j).s) (tm gs (sAt sp j).g)) (tk++[j])
   exact ⟨j::more,by rw [h,List.append_assoc];rfl⟩
def jJ (sp:List Sn)(l:List Nat):Int:=l.foldl (fun c i=>c * ((wkey sp i).1+1)) 1
theorem prodW_snoc (sp:List Sn)(l:List Nat)(i:Nat):jJ sp (l++[i])=jJ sp l * ((wkey sp i).1+1):=by unfold jJ;rw [cQ];rfl
theorem fold_mul (sp:List Sn):∀ (l:List Nat) (c:Int),l.foldl (fun c i=>c * ((wkey sp i).1+1)) c=c * jJ sp l
 | [],c=>(Int.mul_one c).symm
 | i::l,c=>by
  unfold jJ;rw [bG,bG,fold_mul sp l,fold_mul sp l,Int.one_mul,ja]
theorem fW (sp:List Sn)(l:List Nat)(i:Nat):jJ sp (i::l)=((wkey sp i).1+1) * jJ sp l:=by
 show l.foldl _ (1 * ((wkey sp i).1+1))=_;rw [fold_mul,Int.one_mul]
theorem prodW_perm (sp:List Sn){k:List Nat}(h:l.Perm k):jJ sp l=jJ sp k:=by
 induction h with
 | nil=>rfl
 | cons x _ ih=>rw [fW,fW,ih]
 | swap x y l=>rw [fW,fW,fW,fW,←ja,←ja,Int.mul_comm ((wkey sp y).1+1)]
 | trans _ _ h1 h2=>exact h1.trans h2
theorem gone_sorted:∀ (π:List Nat) (gs:List Int),∃ more,(π.foldl (eN sp) (gs,[])).2=more∧more.Sublist π:=by
 have key:∀ (π:List Nat) (gs:List Int) (tk:List Nat),∃ more,(π.foldl (eN sp) (gs,tk)).2=tk++more∧more.Sublist π:=by
  intro π
  induction π with
  | nil=>intro gs tk;exact ⟨[],(cK tk).symm,List.Sublist.slnil⟩
  | cons j π ih =>
   intro gs tk;rw [bG]
   rcases iG sp gs tk j with ⟨_,e⟩ | ⟨_,e⟩ <;> rw [e]
   ·obtain ⟨more,h1,h2⟩:=ih gs tk
    exact ⟨more,h1,h2.cons j⟩
   ·obtain ⟨more,h1,h2⟩:=ih (iJ gs (tm gs (sAt sp j).s) (tm gs (sAt sp j).g)) (tk++[j])
    exact ⟨j::more,by rw [h1,List.append_assoc];rfl,h2.cons_cons j⟩
 intro π gs;obtain ⟨more,h1,h2⟩:=key π gs [];exact ⟨more,by rw [h1,List.nil_append],h2⟩
def lkW (l:List (Int×List Stp))(x:Int):Option (List Stp):=(l.find? fun p=>decide (p.1=x)).map (·.2)
theorem ly (p:Int×List Stp)(l:List (Int×List Stp))(x:Int):lkW (p::l) x=if p.1=x then some p.2 else lkW l x:=by
 unfold lkW;rw [gQ]
 by_cases e:p.1=x
 ·rw [qT e,qR e];rfl
 ·rw [qU e,qQ e]
theorem mR {l:List (Int×List Stp)}{y:Int}{ws:List Stp}(h:lkW l y=none)(x:Int):lkW (l++[(y,ws)]) x=if x=y then some ws else lkW l x:=by
 induction l with
 | nil =>
  show lkW [(y,ws)] x=_;rw [ly]
  by_cases e:x=y
  ·rw [qR e,qR e.symm]
  ·rw [qQ e,qQ (fun z=>e z.symm)]
 | cons p l ih =>
  rw [ly] at h
  by_cases e:p.1=y
  ·rw [qR e] at h;cases h
  ·rw [qQ e] at h
   rw [List.cons_append,ly,ly,ih h]
   by_cases e1:p.1=x
   ·rw [qR e1,qR e1,qQ (fun z=>e (e1.trans z))]
   ·rw [qQ e1,qQ e1]
def stF (tk:List Nat):List Stp:=tk.map (fun i=>⟨i,1⟩)++tk.map (fun i=>⟨i,-1⟩)
def dt (sp:List Sn)(tk:List Nat)(x:Int):List Stp:=(stF tk).filter fun s=>decide (mI sp s=x)
def iu (sp:List Sn)(x:Int)(c:List (Int×List Stp)×List Int)(s:Stp):List (Int×List Stp)×List Int :=
 if lkW c.1 (e8 sp s)=none then (c.1++[(e8 sp s,(lkW c.1 x).getD []++[s])],c.2++[e8 sp s]) else c
def lX (l:List Int):Int:=l.getLast?.getD 0
def qj (sp:List Sn)(tk:List Nat)(c:List (Int×List Stp)×List Int):List (Int×List Stp)×List Int :=
 (dt sp tk (lX c.2)).foldl (iu sp (lX c.2)) (c.1,c.2.dropLast)
def itW (sp:List Sn)(tk:List Nat)(be:Int):Nat→List (Int×List Stp)×List Int
 | 0=>([(be,[])],[be])
 | k+1=>qj sp tk (itW sp tk be k)
def WayR (sp:List Sn)(tk:List Nat)(be en:Int)(p:List Stp):Prop:=∃ k,lkW (itW sp tk be k).1 en=some p∧∀ j,j<k→lkW (itW sp tk be j).1 en=none
structure Pth (sp:List Sn)(tk:List Nat)(be x:Int)(ws:List Stp):Prop where
 inn:∀ s∈ws,s.i∈tk∧s.i<sp.length∧(s.d=1∨s.d= -1)
 alo:qi sp be ws x
 one:(ws.map Stp.i).Nodup
 met:(be::ws.map (e8 sp)).Nodup
theorem mem_stF {s:Stp}(h:s∈stF tk):s.i∈tk∧(s.d=1∨s.d= -1):=by
 rcases aK.mp h with h | h
 ·obtain ⟨i,hi,rfl⟩:=aW.mp h;exact ⟨hi,.inl rfl⟩
 ·obtain ⟨i,hi,rfl⟩:=aW.mp h;exact ⟨hi,.inr rfl⟩
structure WI (m:Nat)(sp:List Sn)(tk:List Nat)(be:Int)(c:List (Int×List Stp)×List Int):Prop where
 pth:∀ x ws,lkW c.1 x=some ws→Pth sp tk be x ws∧∀ s∈ws,lkW c.1 (mI sp s)≠none∧lkW c.1 (e8 sp s)≠none
 rng:∀ x,lkW c.1 x≠none→0≤x∧x<m
 ahd:∀ x∈c.2,lkW c.1 x≠none
 beg:lkW c.1 be≠none
def Clo (sp:List Sn)(tk:List Nat)(ex:Int→Prop)(c:List (Int×List Stp)×List Int):Prop:=∀ x,lkW c.1 x≠none→x ∉ c.2→¬ ex x→∀ s∈dt sp tk x,lkW c.1 (e8 sp s)≠none
def nQ (l:List (Int×List Stp)):Nat:=(aQ 16).countP fun x=>(lkW l ((x:Nat):Int)).isNone
theorem count_lt' {α:Type}{P Q:α→Bool}:∀ {l:List α},(∀ x∈l,Q x=true→P x=true)→∀ {a:α},a∈l→P a=true→Q a=false→l.countP Q<l.countP P
 | [],_,_,h,_,_=>qS h (by simp)
 | x::l,hPQ,a,h,hP,hQ=>by
  have le:l.countP Q≤l.countP P:=List.countP_mono_left fun y hy=>hPQ y (aw _ hy)
  rw [List.countP_cons,List.countP_cons]
  rcases aB.mp h with rfl | h
  ·rw [hP,hQ];simp;lia
  ·have ih:=count_lt' (P:=P) (Q:=Q) (l:=l) (fun y hy=>hPQ y (aw _ hy)) h hP hQ
   have:=hPQ x (by simp);cases q:Q x with
   | true=>rw [this q];simp;lia
   | false=>simp;lia
theorem cntW_new {l:List (Int×List Stp)}{y:Int}{ws:List Stp}(h:lkW l y=none)(y0:0≤y)(y1:y<16):nQ (l++[(y,ws)])<nQ l:=by
 unfold nQ;obtain ⟨n,rfl⟩:=cP y0;refine count_lt' (a:=n) (fun x _ hx=>?_) (bY.mpr (by lia)) ?_ ?_
 ·rw [mR h] at hx
  split at hx
  ·cases hx
  ·exact hx
 ·show (lkW l ((n:Nat):Int)).isNone=true
  rw [h];rfl
 ·show (lkW (l++[(((n:Nat):Int),ws)]) ((n:Nat):Int)).isNone=false
  rw [mR h,qR rfl];rfl
theorem mf (E:kO m sp){s:Stp}(hi:s.i<sp.length):0≤e8 sp s∧e8 sp s<m:=by
 obtain ⟨i,d⟩:=s;have hi:i<sp.length:=hi;rw [kU hi];obtain ⟨a,b,c,e⟩:=E _ (bK hi);unfold too;split
 ·exact ⟨c,e⟩
 ·exact ⟨a,b⟩
theorem visit_ok {x:Int}(E:kO m sp)(m16:m≤16)(ht:∀ i∈tk,i<sp.length){s:Stp}(I:WI m sp tk be c)(hx:lkW c.1 x≠none)(hs:s∈dt sp tk x)(C:Clo sp tk (· =x) c) :
  WI m sp tk be (iu sp x c s)∧Clo sp tk (· =x) (iu sp x c s)∧lkW (iu sp x c s).1 (e8 sp s)≠none∧(∀ y,lkW c.1 y≠none→lkW (iu sp x c s).1 y=lkW c.1 y)∧2 * nQ (iu sp x c s).1+(iu sp x c s).2.length≤2 * nQ c.1+c.2.length∧(iu sp x c s).1.length+nQ (iu sp x c s).1≤c.1.length+nQ c.1:=by
 obtain ⟨hs1,hs2⟩:=cb.mp hs;have hfr:mI sp s=x:=qV hs2;obtain ⟨hst,hsd⟩:=mem_stF hs1;have hsn:=ht _ hst;have tr:=mf E hsn;unfold iu
 by_cases e:lkW c.1 (e8 sp s)=none
 ·rw [qR e]
  obtain ⟨ws,hws⟩:∃ ws,lkW c.1 x=some ws:=Option.ne_none_iff_exists'.mp hx;have eg:(lkW c.1 x).getD []=ws:=by rw [hws];rfl
  rw [eg];have keep:∀ y,lkW c.1 y≠none→lkW (c.1++[(e8 sp s,ws++[s])]) y=lkW c.1 y:=fun y hy=>by
   rw [mR e,qQ (fun (z:y=e8 sp s)=>hy (by rw [z];exact e))]
  have new:lkW (c.1++[(e8 sp s,ws++[s])]) (e8 sp s)=some (ws++[s]):=by rw [mR e,qR rfl]
  have more:∀ y,lkW c.1 y≠none→lkW (c.1++[(e8 sp s,ws++[s])]) y≠none:=fun y hy=>by rw [keep y hy];exact hy
  obtain ⟨P,K⟩:=I.pth x ws hws;have hne:∀ st∈ws,st.i=s.i→False:=fun st hst' e2=>by
   obtain ⟨k1,k2⟩:=K st hst'
   rcases ends_of_span (sp:=sp) (st:=st) (d:=s.d) hsn e2 (P.inn st hst').2.2 hsd with z | z
   ·have z:e8 sp st=e8 sp s:=z
    rw [z] at k2;exact k2 e
   ·have z:mI sp st=e8 sp s:=z
    rw [z] at k1;exact k1 e
  have hnew:Pth sp tk be (e8 sp s) (ws++[s]):=by
   refine ⟨fun st hst'=>?_,P.alo.append ⟨hfr,rfl⟩,?_,?_⟩
   ·rcases aK.mp hst' with h | h
    ·exact P.inn st h
    ·rw [ax.mp h];exact ⟨hst,hsn,hsd⟩
   ·rw [aF]
    refine jw.mpr ⟨P.one,by simp,fun a ha b hb e3=>?_⟩;obtain ⟨st,hst',rfl⟩:=aW.mp ha;have hb:b=s.i:=by simpa using hb
    exact hne st hst' (by rw [e3,hb])
   ·rw [aF,←List.cons_append]
    refine jw.mpr ⟨P.met,by simp,fun a ha b hb e3=>?_⟩;have hb:b=e8 sp s:=by simpa using hb
    subst hb;subst e3
    rcases aB.mp ha with z | z
    ·rw [z] at e;exact I.beg e
    ·obtain ⟨st,hst',e4⟩:=aW.mp z
     exact (K st hst').2 (by rw [e4];exact e)
  refine ⟨⟨fun y vs hy=>?_,fun y hy=>?_,fun y hy=>?_,more _ I.beg⟩,fun y hy hn ex t ht'=>?_,?_,keep,?_,?_⟩
  ·rw [mR e] at hy
   by_cases ey:y=e8 sp s
   ·rw [qR ey] at hy
    cases hy;rw [ey];refine ⟨hnew,fun st hst'=>?_⟩
    rcases aK.mp hst' with h | h
    ·exact ⟨more _ (K st h).1,more _ (K st h).2⟩
    ·rw [ax.mp h,hfr]
     exact ⟨more _ hx,by rw [new];exact fun z=>nomatch z⟩
   ·rw [qQ ey] at hy
    obtain ⟨P',K'⟩:=I.pth y vs hy;exact ⟨P',fun st h=>⟨more _ (K' st h).1,more _ (K' st h).2⟩⟩
  ·have hy:lkW (c.1++[(e8 sp s,ws++[s])]) y≠none:=hy
   rw [mR e] at hy
   by_cases ey:y=e8 sp s
   ·rw [ey];exact tr
   ·rw [qQ ey] at hy;exact I.rng y hy
  ·rcases aK.mp hy with h | h
   ·exact more _ (I.ahd y h)
   ·rw [ax.mp h];show lkW (c.1++[(e8 sp s,ws++[s])]) (e8 sp s)≠none;rw [new];exact fun z=>nomatch z
  ·have hy:lkW (c.1++[(e8 sp s,ws++[s])]) y≠none:=hy
   have hn:y ∉ c.2++[e8 sp s]:=hn;have ey:y≠e8 sp s:=fun z=>hn (ay _ (ax.mpr z))
   rw [mR e,qQ ey] at hy;exact more _ (C y hy (fun z=>hn (aG _ z)) ex t ht')
  ·show lkW (c.1++[(e8 sp s,ws++[s])]) (e8 sp s)≠none
   rw [new];exact fun z=>nomatch z
  ·have:=cntW_new (ws:=ws++[s]) e tr.1 (by lia)
   show 2 * nQ (c.1++[(e8 sp s,ws++[s])])+(c.2++[e8 sp s]).length≤_;rw [au];have:[e8 sp s].length=1:=rfl;lia
  ·have:=cntW_new (ws:=ws++[s]) e tr.1 (by lia)
   show (c.1++[(e8 sp s,ws++[s])]).length+nQ (c.1++[(e8 sp s,ws++[s])])≤_;rw [au];have:[(e8 sp s,ws++[s])].length=1:=rfl;lia
 ·rw [qQ e]
  exact ⟨I,C,e,fun _ _=>rfl,aA _,aA _⟩
theorem oX {m:Nat}{sp:List Sn}{tk:List Nat}{be x:Int}(E:kO m sp)(m16:m≤16)(ht:∀ i∈tk,i<sp.length):∀ {L:List Stp} {c:List (Int×List Stp)×List Int},WI m sp tk be c→lkW c.1 x≠none→(∀ s∈L,s∈dt sp tk x)→Clo sp tk (· =x) c →
  WI m sp tk be (L.foldl (iu sp x) c)∧Clo sp tk (· =x) (L.foldl (iu sp x) c)∧(∀ s∈L,lkW (L.foldl (iu sp x) c).1 (e8 sp s)≠none)∧(∀ y,lkW c.1 y≠none→lkW (L.foldl (iu sp x) c).1 y=lkW c.1 y)∧2 * nQ (L.foldl (iu sp x) c).1+(L.foldl (iu sp x) c).2.length≤2 * nQ c.1+c.2.length∧(L.foldl (iu sp x) c).1.length+nQ (L.foldl (iu sp x) c).1≤c.1.length+nQ c.1
 | [],c,I,_,_,C=>⟨I,C,fun _ h=>(by cases h),fun _ _=>rfl,aA _,aA _⟩
 | s::L,c,I,hx,hL,C=>by
  obtain ⟨a1,a2,a3,a4,a5,a6⟩:=visit_ok E m16 ht I hx (hL s aZ) C;obtain ⟨b1,b2,b3,b4,b5,b6⟩:=oX E m16 ht (L:=L) a1 (by rw [a4 x hx];exact hx) (fun t h=>hL t (aw _ h)) a2;rw [bG];refine ⟨b1,b2,fun t h=>?_,fun y hy=>?_,aS b5 a5,aS b6 a6⟩
  ·rcases aB.mp h with rfl | h
   ·rw [b4 _ a3];exact a3
   ·exact b3 t h
  ·rw [b4 y (by rw [a4 y hy];exact hy),a4 y hy]
theorem turn_ok (E:kO m sp)(m16:m≤16)(ht:∀ i∈tk,i<sp.length)(I:WI m sp tk be c)(C:Clo sp tk (fun _=>False) c)(hne:c.2≠[]) :
  WI m sp tk be (qj sp tk c)∧Clo sp tk (fun _=>False) (qj sp tk c)∧2 * nQ (qj sp tk c).1+(qj sp tk c).2.length<2 * nQ c.1+c.2.length∧(qj sp tk c).1.length+nQ (qj sp tk c).1≤c.1.length+nQ c.1:=by
 have hl:c.2.getLast? =some (c.2.getLast hne):=List.getLast?_eq_some_getLast hne;have e0:c.2=c.2.dropLast++[lX c.2]:=by
  unfold lX;rw [hl];exact (List.dropLast_concat_getLast hne).symm
 have hmem:lX c.2∈c.2:=by rw [e0];unfold lX;simp
 have hx:=I.ahd _ hmem;have I0:WI m sp tk be (c.1,c.2.dropLast):=⟨I.pth,I.rng,fun y hy=>I.ahd y ((List.dropLast_sublist _).subset hy),I.beg⟩;have C0:Clo sp tk (· =lX c.2) (c.1,c.2.dropLast):=fun y hy hn ex t ht'=>C y hy (fun z=>by
  rw [e0] at z
  rcases aK.mp z with z | z
  ·exact hn z
  ·exact ex (ax.mp z)) (fun z=>z) t ht'
 obtain ⟨b1,b2,b3,b4,b5,b6⟩:=oX E m16 ht (L:=dt sp tk (lX c.2)) I0 hx (fun _ h=>h) C0;refine ⟨b1,fun y hy hn _ t ht'=>?_,?_,b6⟩
 ·by_cases e:y=lX c.2
  ·subst e;exact b3 t ht'
  ·exact b2 y hy hn e t ht'
 ·have l1:c.2.dropLast.length+1=c.2.length:=by
   have:=qW List.length e0;rw [au] at this;exact this.symm
  have b5:2 * nQ (qj sp tk c).1+(qj sp tk c).2.length≤2 * nQ c.1+c.2.dropLast.length:=b5;lia
theorem start_ok (b0:0≤be)(b1:be<m):WI m sp tk be ([(be,[])],[be])∧Clo sp tk (fun _=>False) ([(be,[])],[be]):=by
 have lk:∀ x,lkW [(be,[])] x=if be=x then some [] else none:=fun x=>by rw [ly];rfl
 have kb:∀ x,lkW [(be,([]:List Stp))] x≠none→x=be:=fun x h=>by
  rw [lk] at h
  by_cases e:be=x
  ·exact e.symm
  ·rw [qQ e] at h;exact qS rfl h
 have kn:lkW [(be,([]:List Stp))] be≠none:=by rw [lk,qR rfl];exact fun z=>nomatch z
 refine ⟨⟨fun x ws h=>?_,fun x h=>by rw [kb x h];exact ⟨b0,b1⟩,fun x h=>by rw [ax.mp h];exact kn,kn⟩,fun x h hn=>?_⟩
 ·have h:lkW [(be,[])] x=some ws:=h
  rw [lk] at h
  by_cases e:be=x
  ·rw [qR e] at h
   cases h;exact ⟨⟨fun _ h=>(nomatch h),e,List.nodup_nil,bF.mpr ⟨fun h=>(nomatch h),List.nodup_nil⟩⟩,fun _ h=>(nomatch h)⟩
  ·rw [qQ e] at h;cases h
 ·exact qS (ax.mpr (kb x h)) hn
def qO (sp:List Sn)(tk:List Nat)(be en:Int):Prop:=∀ S:Int→Prop,(∀ i∈tk,S (sAt sp i).s↔S (sAt sp i).g)→S be→S en
theorem qK (h:i<sp.length):mI sp ⟨i,1⟩=(sAt sp i).s∧e8 sp ⟨i,1⟩=(sAt sp i).g∧mI sp ⟨i,-1⟩=(sAt sp i).g∧e8 sp ⟨i,-1⟩=(sAt sp i).s:=by
 have e:sAt sp i=sp[i]:=by unfold sAt;rw [ah,gE h];rfl
 rw [mV h,kU h,mV h,kU h,e];unfold frm too;exact ⟨rfl,rfl,rfl,rfl⟩
theorem left_of {en:Int}(ht:∀ i∈tk,i<sp.length)(hh:qO sp tk be en)(I:WI m sp tk be c)(C:Clo sp tk (fun _=>False) c)(hn:lkW c.1 en=none):c.2≠[]:=fun z=>by
 refine hh (fun x=>lkW c.1 x≠none) (fun i hi=>?_) I.beg hn;have hin:=ht i hi;obtain ⟨f1,f2,f3,f4⟩:=qK hin;have m1:(⟨i,1⟩:Stp)∈dt sp tk (sAt sp i).s:=cb.mpr ⟨aG _ (aW.mpr ⟨i,hi,rfl⟩),qT f1⟩;have m2:(⟨i,-1⟩:Stp)∈dt sp tk (sAt sp i).g:=cb.mpr ⟨ay _ (aW.mpr ⟨i,hi,rfl⟩),qT f3⟩
 constructor
 ·intro h
  have:=C _ h (by rw [z];exact eZ) (fun z=>z) _ m1;rw [f2] at this;exact this
 ·intro h
  have:=C _ h (by rw [z];exact eZ) (fun z=>z) _ m2;rw [f4] at this;exact this
theorem held_of {m:Nat}{sp:List Sn}(E:kO m sp)(S:Int→Prop):∀ (π:List Nat) (gs:List Int) (tk:List Nat),gs.length=m→(∀ i∈π,i<sp.length)→(∀ i∈(π.foldl (eN sp) (gs,tk)).2,S (sAt sp i).s↔S (sAt sp i).g) →
  (∀ x y:Int,0≤x→x<m→0≤y→y<m→tm gs x=tm gs y→(S x↔S y))→∀ x y:Int,0≤x→x<m→0≤y→y<m→tm (π.foldl (eN sp) (gs,tk)).1 x=tm (π.foldl (eN sp) (gs,tk)).1 y→(S x↔S y)
 | [],_,_,_,_,_,h=>h
 | j::π,gs,tk,l,hp,hS,h=>by
  rw [bG] at hS ⊢;obtain ⟨a0,a1,b0,b1⟩:=E _ (dQ (hp j aZ));have hp':∀ i∈π,i<sp.length:=fun k hk=>hp k (aw _ hk)
  rcases iG sp gs tk j with ⟨_,e⟩ | ⟨_,e⟩ <;> rw [e] at hS ⊢
  ·exact held_of E S π gs tk l hp' hS h
  ·refine held_of E S π _ _ (by rw [kH];exact l) hp' hS fun x y x0 x1 y0 y1 hxy=>?_
   obtain ⟨more,hm⟩:=o8 sp π (iJ gs (tm gs (sAt sp j).s) (tm gs (sAt sp j).g)) (tk++[j]);have hj:=hS j (by rw [hm];simp);rw [kW x0 (by lia),kW y0 (by lia)] at hxy
   by_cases e1:tm gs x=tm gs (sAt sp j).g
   ·have f1:=h x _ x0 x1 b0 b1 e1
    rw [qR e1] at hxy
    by_cases e2:tm gs y=tm gs (sAt sp j).g
    ·exact f1.trans (h y _ y0 y1 b0 b1 e2).symm
    ·rw [qQ e2] at hxy
     exact f1.trans (hj.symm.trans (h _ y a0 a1 y0 y1 hxy))
   ·rw [qQ e1] at hxy
    by_cases e2:tm gs y=tm gs (sAt sp j).g
    ·rw [qR e2] at hxy
     exact (h x _ x0 x1 a0 a1 hxy).trans (hj.trans (h y _ y0 y1 b0 b1 e2).symm)
    ·rw [qQ e2] at hxy
     exact h x y x0 x1 y0 y1 hxy
theorem held_span (E:kO m sp)(O:Ordd sp π)(pm:l.Perm (kB sp m π).2){k:Nat}(hk:k<sp.length):qO sp l (sAt sp k).g (sAt sp k).s:=by
 intro S hS hg;have hp:∀ i∈π,i<sp.length:=fun i hi=>O.lt hi
 obtain ⟨a0,a1,b0,b1⟩:=E _ (dQ hk);refine (held_of E S π (jK m) [] (jq m) hp (fun i hi=>hS i (pm.mem_iff.mpr hi)) (fun x y x0 x1 y0 y1 h=>?_) _ _ a0 a1 b0 b1 (jY E π (jK m) [] (jq m) hp k (O.1.mem_iff.mpr (bY.mpr hk)))).mpr hg;rw [nW x0 x1,nW y0 y1] at h;rw [h]
theorem WayR.pth {en:Int}(E:kO m sp)(m16:m≤16)(ht:∀ i∈tk,i<sp.length)(b0:0≤be)(b1:be<m)(hh:qO sp tk be en){p:List Stp}(h:WayR sp tk be en p):Pth sp tk be en p:=by
 obtain ⟨k,h1,h2⟩:=h;have key:∀ j,j≤k→WI m sp tk be (itW sp tk be j)∧Clo sp tk (fun _=>False) (itW sp tk be j):=by
  intro j
  induction j with
  | zero=>intro _;exact start_ok b0 b1
  | succ j ih =>
   intro hj;obtain ⟨I,C⟩:=ih (by lia);obtain ⟨a,b,_⟩:=turn_ok E m16 ht I C (left_of ht hh I C (h2 j (by lia)));exact ⟨a,b⟩
 exact ((key k (aA _)).1.pth en p h1).1
theorem Pth.len {en:Int}{p:List Stp}(E:kO m sp)(b0:0≤be)(b1:be<m)(h:Pth sp tk be en p):p.length+1≤m:=by
 have:=lP h.met (k:=jK m) fun x hx=>by
  have key:∀ x:Int,0≤x→x<m→x∈jK m:=fun x x0 x1=>by
   unfold jK;exact aW.mpr ⟨x.toNat,bY.mpr (by lia),iT x0⟩
  rcases aB.mp hx with rfl | hx
  ·exact key _ b0 b1
  ·obtain ⟨s,hs,rfl⟩:=aW.mp hx
   have t:=mf E (h.inn s hs).2.1;exact key _ t.1 t.2
 rw [aM,ae,jq] at this;exact this
def kx (pr:Int)(ps:List Int)(s:Stp):List Int:=ps.set s.i (ps.getD s.i 0 - pr * s.d)
def rowP (ps:List Int)(r:Int×List Stp):List Int:=r.2.foldl (kx r.1) ps
def ownM (sp:List Sn)(rows:List (Int×List Stp)):List Int:=rows.foldl rowP (sp.map Sn.w)
theorem lQ {pr:Int}:∀ (ws:List Stp) (ps:List Int),(ws.foldl (kx pr) ps).length=ps.length
 | [],_=>rfl
 | s::ws,ps=>by
  rw [bG,lQ ws];unfold kx;rw [gP]
theorem rows_len:∀ (rows:List (Int×List Stp)) (ps:List Int),(rows.foldl rowP ps).length=ps.length
 | [],_=>rfl
 | r::rows,ps=>by
  rw [bG,rows_len rows];exact lQ r.2 ps
theorem own_len (sp:List Sn)(rows:List (Int×List Stp)):(ownM sp rows).length=sp.length:=by
 unfold ownM;rw [rows_len,ae]
def hasS (k:Nat)(d:Int)(ws:List Stp):Bool:=ws.any fun s=>decide (s.i=k) && decide (s.d=d)
def ownV (k:Nat)(acc pr:Int)(ws:List Stp):Int:=if hasS k (-1) ws=true then (if hasS k 1 ws=true then acc - pr else acc)+pr else (if hasS k 1 ws=true then acc - pr else acc)
def ownS (k:Nat)(acc:Int)(r:Int×List Stp):Int:=ownV k acc r.1 r.2
theorem hasS_no {k:Nat}{d:Int}:∀ {ws:List Stp},k ∉ ws.map Stp.i→hasS k d ws=false
 | [],_=>rfl
 | s::ws,h=>by
  show (decide (s.i=k) && decide (s.d=d) || hasS k d ws)=false;rw [hasS_no (ws:=ws) fun z=>h (by rw [bZ];exact aw _ z),qU (fun z=>h (by rw [bZ,z];simp))];rfl
theorem steps_at {k:Nat}{pr:Int}:∀ (ws:List Stp) (ps:List Int),k<ps.length→(∀ s∈ws,s.d=1∨s.d= -1)→(ws.map Stp.i).Nodup→(ws.foldl (kx pr) ps).getD k 0=ownV k (ps.getD k 0) pr ws
 | [],_,_,_,_=>rfl
 | s::ws,ps,hk,hd,hn=>by
  rw [bZ,bF] at hn;rw [bG,steps_at ws _ (by unfold kx;rw [gP];exact hk) (fun t ht=>hd t (aw _ ht)) hn.2]
  by_cases e:s.i=k
  ·have h0:∀ d,hasS k d ws=false:=fun d=>hasS_no (by rw [←e];exact hn.1)
   have h1:∀ d,hasS k d (s::ws)=decide (s.d=d):=fun d=>by
    show (decide (s.i=k) && decide (s.d=d) || hasS k d ws)=_;rw [h0,qT e];simp
   have h2:(kx pr ps s).getD k 0=ps.getD k 0 - pr * s.d:=by
    unfold kx;rw [e,ah,cT hk];rfl
   unfold ownV;rw [h0,h0,h1,h1,h2]
   rcases hd s (by simp) with d1 | d1
   ·rw [d1];simp
   ·rw [d1];simp
  ·have h1:∀ d,hasS k d (s::ws)=hasS k d ws:=fun d=>by
    show (decide (s.i=k) && decide (s.d=d) || hasS k d ws)=_;rw [qU e];simp
   have h2:(kx pr ps s).getD k 0=ps.getD k 0:=by
    unfold kx;rw [ah,cS e,←ah]
   unfold ownV;rw [h1,h1,h2]
structure RwOk (n:Nat)(r:Int×List Stp):Prop where
 inn:qo n r.2
 one:(r.2.map Stp.i).Nodup
 few:r.2.length≤17
 lo: -1000000000000≤r.1
 hi:r.1≤1000000000000
theorem pI {k n:Nat}:∀ (rows:List (Int×List Stp)) (ps:List Int),k<ps.length→(∀ r∈rows,RwOk n r)→(rows.foldl rowP ps).getD k 0=rows.foldl (ownS k) (ps.getD k 0)
 | [],_,_,_=>rfl
 | r::rows,ps,hk,h=>by
  have hr:=h r (by simp);rw [bG,bG,pI rows _ (by show k<(r.2.foldl (kx r.1) ps).length;rw [lQ];exact hk) fun t ht=>h t (aw _ ht)];congr 1;exact steps_at r.2 ps hk (fun s hs=>(hr.inn s hs).2) hr.one
theorem ownS_abs {k n:Nat}:∀ (rows:List (Int×List Stp)) (a:Int) (m:Nat),a.natAbs≤m→(∀ r∈rows,RwOk n r)→(rows.foldl (ownS k) a).natAbs≤m+rows.length * 2000000000000
 | [],_,_,ha,_=>by simpa using ha
 | r::rows,a,m,ha,h=>by
  have hr:=h r (by simp);have h1:=hr.lo;have h2:=hr.hi;rw [bG];have step:(ownS k a r).natAbs≤m+2000000000000:=by
   show (ownV k a r.1 r.2).natAbs≤_;unfold ownV;split <;> split <;> lia
  have:=ownS_abs (k:=k) (n:=n) rows (ownS k a r) (m+2000000000000) step fun t ht=>h t (aw _ ht)
  rw [aM];lia
def wOf (sp:List Sn)(k:Nat):Int:=match sp[k]? with | some x=>x.w | none=>0
def lOf (sp:List Sn)(k:Nat):Int:=match sp[k]? with | some x=>x.l | none=>0
def owK (sp:List Sn)(rows:List (Int×List Stp))(k:Nat):Int:=rows.foldl (ownS k) (wOf sp k)
theorem own_at {k:Nat}(hk:k<sp.length)(h:∀ r∈rows,RwOk n r):(ownM sp rows).getD k 0=owK sp rows k:=by
 unfold ownM owK;rw [pI rows _ (by rw [ae];exact hk) h];congr 1;unfold wOf;rw [ah,az,gE hk];rfl
theorem owK_abs {k:Nat}(hw:∀ x∈sp,0≤x.w∧x.w≤1000000000000)(h:∀ r∈rows,RwOk n r)(hl:rows.length≤41): -18446744073709551616<owK sp rows k∧owK sp rows k<18446744073709551616:=by
 have:=ownS_abs (k:=k) rows (wOf sp k) 1000000000000 (by
  unfold wOf;cases q:sp[k]? with
  | none=>exact bD _
  | some x =>
   have:=hw x (aY q);show x.w.natAbs≤_;lia) h
 unfold owK;lia
def termW (sp:List Sn)(bs:List (Int×Int))(rows:List (Int×List Stp))(k:Nat):Int:=owK sp rows k * (if owK sp rows k<0 then (bs.getD k (0,0)).2 else (bs.getD k (0,0)).1) - wOf sp k * lOf sp k
def oE (b:Int)(bs:List (Int×Int))(rows:List (Int×List Stp)):Int:=(rows.map fun r=>r.1 * upB b (fe bs r.2) * b).sum
def lO (b:Int)(sp:List Sn)(bs:List (Int×Int))(rows:List (Int×List Stp)):Int:=oE b bs rows+((aQ sp.length).map (termW sp bs rows)).sum
theorem div_absW {x:Int}(hb:0<b):(x / b).natAbs≤x.natAbs:=by
 have e:=fQ x b;have r0:=dX x (by lia:b≠0);have r1:=dA x hb;generalize x / b=q at e;generalize x % b=r at e r0 r1
 rcases Int.lt_or_le q 0 with hq | hq
 ·have:b * (q+1)≤1 * (q+1):=Int.mul_le_mul_of_nonpos_right (by lia) (by lia)
  rw [Int.mul_add] at this;lia
 ·have:1 * q≤b * q:=Int.mul_le_mul_of_nonneg_right (by lia) hq
  lia
theorem qr {bs:List (Int×Int)}:∀ {ws:List Stp},BsU bs→(fe bs ws).natAbs≤ws.length * 10 ^ 60
 | [],_=>bD _
 | s::ws,h=>by
  have ih:=qr (ws:=ws) h;have k:(qJ bs s).natAbs≤10 ^ 60:=by
   unfold qJ;cases q:bs[s.i]? with
   | none=>exact bD _
   | some p =>
    obtain ⟨a,b,c⟩:=h p (aY q);have c:p.2<10 ^ 60:=c;show (if s.d=1 then p.1 else -p.2).natAbs≤_;split <;> lia
  have e:fe bs (s::ws)=qJ bs s+fe bs ws:=rfl;rw [e,aM,Nat.add_mul];lia
theorem up_abs {bs:List (Int×Int)}{ws:List Stp}(hb:0<b)(h:BsU bs)(hl:ws.length≤17):(upB b (fe bs ws)).natAbs≤17 * 10 ^ 60:=by
 unfold upB;rw [Int.natAbs_neg];have h1:=div_absW (x:= -fe bs ws) hb;rw [Int.natAbs_neg] at h1;have h2:=qr (ws:=ws) h;have h3:ws.length * 10 ^ 60≤17 * 10 ^ 60:=Nat.mul_le_mul_right _ hl;lia
inductive spOwn (vs:List V)(H:Hp)(Q:VK)(_:XK):Prop
 | mk (v:V)(pr:ai)(b m:Int)(sp:List Sn)(rows:List (Int×List Stp))(_:vs=[v,.ref pr])(_:IsD H v (lM b m sp))(_:sp.length≤40)(_:IsD H (.ref pr) (.tup (rows.map rowD)))(_:(∀ r∈rows,RwOk sp.length r))(_:∀ L H',bJ H H'→H' L=some (.lst ((ownM sp rows).map V.int))→Q (.ref L) H')
structure WoArgs (H:Hp)(v vb vl:V)(b m:Int)(sp:List Sn)(bs:List (Int×Int))(rows:List (Int×List Stp)):Prop where
 net:IsD H v (lM b m sp)
 bnd:IsD H vb (bndP bs)
 leaf:IsD H vl (leafP (.price rows))
 b0:0<b
 b61:b<10 ^ 61
 lb:bs.length=sp.length
 few:sp.length≤40
 bu:BsU bs
 ws:∀ x∈sp,0≤x.w∧x.w≤1000000000000
 rw':∀ r∈rows,RwOk sp.length r
 lr:rows.length≤41
inductive spWorth (vs:List V)(H:Hp)(Q:VK)(_:XK):Prop
 | mk (v vb vl:V)(b m:Int)(sp:List Sn)(bs:List (Int×Int))(rows:List (Int×List Stp))(_:vs=[v,vb,vl])(_:WoArgs H v vb vl b m sp bs rows)(_:∀ H',bJ H H'→Q (.int (lO b sp bs rows)) H')
end HN
namespace L2
open PySem PySem.Spec PyProof.Rows
end L2
namespace HN
open PySem L2 PyProof.Rows
def mL (f:Nat→Int):Nat→Int
 | 0=>0
 | n+1=>mL f n+f n
theorem mj (f:Nat→Int):∀ n,((aQ n).map f).sum=mL f n
 | 0=>rfl
 | n+1=>by
  rw [List.range_succ,aF,i9,mj f n];show mL f n+(f n+0)=mL f n+f n;lia
theorem oH (f g:Nat→Int):∀ n,mL (fun k=>f k+g k) n=mL f n+mL g n
 | 0=>rfl
 | n+1=>by
  show mL (fun k=>f k+g k) n+(f n+g n)=(mL f n+f n)+(mL g n+g n);rw [oH f g n];lia
theorem oG (c:Int)(f:Nat→Int):∀ n,mL (fun k=>c * f k) n=c * mL f n
 | 0=>(fZ c).symm
 | n+1=>by
  show mL (fun k=>c * f k) n+c * f n=c * (mL f n+f n);rw [oG c f n,Int.mul_add]
theorem j7 {f g:Nat→Int}:∀ n,(∀ k,k<n→f k=g k)→mL f n=mL g n
 | 0,_=>rfl
 | n+1,h=>by
  show mL f n+f n=mL g n+g n;rw [j7 n fun k hk=>h k (by lia),h n (by lia)]
theorem sumN_none {i:Nat}{c:Int}{y:Nat→Int}:∀ n,n≤i→mL (fun k=>(if i=k then c else 0) * y k) n=0
 | 0,_=>rfl
 | n+1,h=>by
  show mL (fun k=>(if i=k then c else 0) * y k) n+(if i=n then c else 0) * y n=0;rw [sumN_none n (by lia),qQ (by lia),eG];rfl
theorem sumN_one {i:Nat}{c:Int}{y:Nat→Int}:∀ n,i<n→mL (fun k=>(if i=k then c else 0) * y k) n=c * y i
 | 0,h=>qS h (by lia)
 | n+1,h=>by
  show mL (fun k=>(if i=k then c else 0) * y k) n+(if i=n then c else 0) * y n=c * y i
  by_cases e:i=n
  ·subst e
   rw [sumN_none i (aA _),qR rfl,gO]
  ·rw [sumN_one n (by lia),qQ e,eG,Int.add_zero]
theorem sumN_list {α:Type}(f:α→Int)(xs:List α):∀ n,n≤xs.length→((xs.take n).map f).sum=mL (fun k=>match xs[k]? with | some x=>f x | none=>0) n
 | 0,_=>rfl
 | n+1,h=>by
  rw [bj,gE (by lia),aF,i9,sumN_list f xs n (by lia)];show _+(f xs[n]+0)=mL _ n+(match xs[n]? with | some x=>f x | none=>0);rw [gE (by lia)];show _+(f xs[n]+0)=_+f xs[n];lia
def sg (k:Nat):List Stp→Int
 | []=>0
 | s::ws=>(if s.i=k then s.d else 0)+sg k ws
def alg (y:Nat→Int):List Stp→Int
 | []=>0
 | s::ws=>s.d * y s.i+alg y ws
theorem fold_sg {k:Nat}{pr:Int}:∀ (ws:List Stp) (ps:List Int),k<ps.length→(ws.foldl (kx pr) ps).getD k 0=ps.getD k 0 - pr * sg k ws
 | [],ps,_=>by show ps.getD k 0=ps.getD k 0 - pr * 0;rw [fZ,Int.sub_zero]
 | s::ws,ps,hk=>by
  rw [bG,fold_sg ws _ (by unfold kx;rw [gP];exact hk)];show _=ps.getD k 0 - pr * ((if s.i=k then s.d else 0)+sg k ws);rw [Int.mul_add]
  by_cases e:s.i=k
  ·have h2:(kx pr ps s).getD k 0=ps.getD k 0 - pr * s.d:=by
    unfold kx;rw [e,ah,cT hk];rfl
   rw [h2,qR e];lia
  ·have h2:(kx pr ps s).getD k 0=ps.getD k 0:=by
    unfold kx;rw [ah,cS e,←ah]
   rw [h2,qQ e,fZ];lia
def sgR (k:Nat):List (Int×List Stp)→Int
 | []=>0
 | r::rows=>r.1 * sg k r.2+sgR k rows
theorem rows_sg {k:Nat}:∀ (rows:List (Int×List Stp)) (ps:List Int),k<ps.length→(rows.foldl rowP ps).getD k 0=ps.getD k 0 - sgR k rows
 | [],ps,_=>by show ps.getD k 0=ps.getD k 0 - 0;rw [Int.sub_zero]
 | r::rows,ps,hk=>by
  rw [bG,rows_sg rows _ (by show k<(r.2.foldl (kx r.1) ps).length;rw [lQ];exact hk)];show (r.2.foldl (kx r.1) ps).getD k 0 - sgR k rows=ps.getD k 0 - (r.1 * sg k r.2+sgR k rows);rw [fold_sg r.2 ps hk];lia
theorem owK_sg {k:Nat}(hk:k<sp.length)(h:∀ r∈rows,RwOk n r):owK sp rows k=wOf sp k - sgR k rows:=by
 rw [←own_at hk h];unfold ownM;rw [rows_sg rows _ (by rw [ae];exact hk)];congr 1;unfold wOf;rw [ah,az,gE hk];rfl
theorem sum_sg {y:Nat→Int}{n:Nat}:∀ (ws:List Stp),(∀ s∈ws,s.i<n)→mL (fun k=>sg k ws * y k) n=alg y ws
 | [],_=>by
  show mL (fun k=>0 * y k) n=0;rw [j7 (g:=fun _=>0 * 0) n fun k _=>by rw [eG,eG],oG 0 (fun _=>0) n,eG]
 | s::ws,h=>by
  show mL (fun k=>((if s.i=k then s.d else 0)+sg k ws) * y k) n=s.d * y s.i+alg y ws;rw [j7 (g:=fun k=>(if s.i=k then s.d else 0) * y k+sg k ws * y k) n fun k _=>Int.add_mul ..,oH,sumN_one n (h s (by simp)),sum_sg ws fun t ht=>h t (aw _ ht)]
def algR (y:Nat→Int):List (Int×List Stp)→Int
 | []=>0
 | r::rows=>r.1 * alg y r.2+algR y rows
theorem sum_sgR {y:Nat→Int}{n:Nat}:∀ (rows:List (Int×List Stp)),(∀ r∈rows,∀ s∈r.2,s.i<n)→mL (fun k=>sgR k rows * y k) n=algR y rows
 | [],_=>by
  show mL (fun k=>0 * y k) n=0;rw [j7 (g:=fun _=>0 * 0) n fun k _=>by rw [eG,eG],oG 0 (fun _=>0) n,eG]
 | r::rows,h=>by
  show mL (fun k=>(r.1 * sg k r.2+sgR k rows) * y k) n=r.1 * alg y r.2+algR y rows;rw [j7 (g:=fun k=>r.1 * (sg k r.2 * y k)+sgR k rows * y k) n fun k _=>by rw [Int.add_mul,ja],oH,oG,sum_sg r.2 (h r (by simp)),sum_sgR rows fun t ht=>h t (aw _ ht)]
def iI (b:Int)(ts:List Int)(sp:List Sn)(k:Nat):Int:=match sp[k]? with | some x=>x.l+fT b ts x | none=>0
def InB (y:Nat→Int)(bs:List (Int×Int)):Prop:=∀ k,k<bs.length→(bs.getD k (0,0)).1≤y k∧y k≤(bs.getD k (0,0)).2
theorem lay_in (hb:0<b)(hf:ki b ts sp=true):InB (iI b ts sp) (sp.map fun x=>(x.l,x.o)):=fun k hk=>by
 rw [ae] at hk;have e:(sp.map fun x=>(x.l,x.o)).getD k (0,0)=(sp[k].l,sp[k].o):=by
  rw [ah,az,gE hk];rfl
 have e2:iI b ts sp k=sp[k].l+fT b ts sp[k]:=by
  unfold iI;rw [gE hk]
 rw [e,e2];have h0:0≤fT b ts sp[k]:=by unfold fT;exact dX _ (by lia)
 have h1:¬ (sp[k].o - sp[k].l<fT b ts sp[k]):=by
  unfold ki at hf;rw [hW,jx] at hf;have:=hf sp[k] (bK hk);unfold brk at this
  simpa using this
 exact ⟨by show sp[k].l≤_;lia,by show _≤sp[k].o;lia⟩
theorem inB_one {y:Nat→Int}{bs:List (Int×Int)}{k:Nat}{a:Int}(h:InB y bs)(ha:y k≤a):InB y (lV bs k a):=fun j hj=>by
 rw [one_len] at hj;have hh:=h j hj;unfold lV;rw [ah]
 by_cases e:k=j
 ·subst e
  rw [cT hj];exact ⟨hh.1,ha⟩
 ·rw [cS e,←ah]
  exact hh
theorem inB_other {y:Nat→Int}{bs:List (Int×Int)}{k:Nat}{a:Int}(h:InB y bs)(ha:a+1≤y k):InB y (eV bs k a):=fun j hj=>by
 rw [other_len] at hj;have hh:=h j hj;unfold eV;rw [ah]
 by_cases e:k=j
 ·subst e
  rw [cT hj];exact ⟨ha,hh.2⟩
 ·rw [cS e,←ah]
  exact hh
theorem alg_way {b:Int}{ts:List Int}{sp:List Sn}:∀ (ws:List Stp) (x z:Int),qo sp.length ws→qi sp x ws z→∃ Z,alg (iI b ts sp) ws=tm ts z - tm ts x+b * Z
 | [],x,z,_,h=>by
  have h:x=z:=h;subst h;exact ⟨0,by show (0:Int)=_;rw [fZ];lia⟩
 | s::ws,x,z,hw,h=>by
  obtain ⟨h1,h2⟩:=h;obtain ⟨Z,hZ⟩:=alg_way (b:=b) (ts:=ts) ws _ z (fun t ht=>hw t (aw _ ht)) h2;obtain ⟨hs,hd⟩:=hw s (by simp);obtain ⟨i,d⟩:=s;have hs:i<sp.length:=hs;have hd:d=1∨d= -1:=hd;have e2:iI b ts sp i=sp[i].l+fT b ts sp[i]:=by
   unfold iI;rw [gE hs]
  have hm:=fQ (tm ts sp[i].g - tm ts sp[i].s - sp[i].l) b;show ∃ Z,d * iI b ts sp i+alg (iI b ts sp) ws=_;rw [hZ,e2];unfold fT;rw [kU hs] at *;rw [mV hs] at h1;unfold frm at h1;unfold too at *;generalize (tm ts sp[i].g - tm ts sp[i].s - sp[i].l) / b=q at hm;generalize (tm ts sp[i].g - tm ts sp[i].s - sp[i].l) % b=r at hm ⊢
  rcases hd with rfl | rfl
  ·rw [qR rfl] at h1 ⊢
   subst h1;exact ⟨Z - q,by rw [Int.mul_sub];lia⟩
  ·rw [qQ (by decide)] at h1 ⊢
   subst h1;exact ⟨Z+q,by rw [Int.mul_add b Z q];lia⟩
theorem alg_lo {y:Nat→Int}{bs:List (Int×Int)}(h:InB y bs):∀ (ws:List Stp),qo bs.length ws→fe bs ws≤alg y ws∧alg y ws≤iq bs ws
 | [],_=>⟨fH _,fH _⟩
 | s::ws,hw=>by
  obtain ⟨i1,i2⟩:=alg_lo h ws fun t ht=>hw t (aw _ ht)
  obtain ⟨hs,hd⟩:=hw s (by simp);obtain ⟨b1,b2⟩:=h s.i hs;have e:bs.getD s.i (0,0)=bs[s.i]:=by rw [ah,gE hs];rfl
  rw [e] at b1 b2;have e1:fe bs (s::ws)=qJ bs s+fe bs ws:=rfl;have e2:iq bs (s::ws)=l4 bs s+iq bs ws:=rfl;have f1:qJ bs s=if s.d=1 then bs[s.i].1 else -bs[s.i].2:=by unfold qJ;rw [gE hs]
  have f2:l4 bs s=if s.d=1 then bs[s.i].2 else -bs[s.i].1:=by unfold l4;rw [gE hs]
  rw [e1,e2,f1,f2];show _≤s.d * y s.i+alg y ws∧s.d * y s.i+alg y ws≤_
  rcases hd with d1 | d1
  ·rw [d1,qR rfl,qR rfl];lia
  ·rw [d1,qQ (by decide),qQ (by decide)];lia
theorem ring_in {bs:List (Int×Int)}{ws:List Stp}(hb:0<b)(hl:bs.length=sp.length)(h:InB (iI b ts sp) bs)(hr:Rg sp ws) :
  ∃ Z,alg (iI b ts sp) ws=b * Z∧upB b (fe bs ws)≤Z∧Z≤iq bs ws / b:=by
 obtain ⟨x,hx⟩:=hr.rnd;obtain ⟨Z,hZ⟩:=alg_way (b:=b) (ts:=ts) ws x x hr.inn hx;obtain ⟨l1,l2⟩:=alg_lo h ws (by rw [hl];exact hr.inn);have e:alg (iI b ts sp) ws=b * Z:=by lia
 rw [e] at l1 l2;refine ⟨Z,e,?_,?_⟩
 ·unfold upB
  have: -Z≤ -fe bs ws / b:=by
   rw [Int.le_ediv_iff_mul_le hb,Int.neg_mul,Int.mul_comm Z b];lia
  lia
 ·rw [Int.le_ediv_iff_mul_le hb,Int.mul_comm Z b];exact l2
theorem wait_sum:eJ b ts sp=mL (fun k=>wOf sp k * iI b ts sp k - wOf sp k * lOf sp k) sp.length:=by
 unfold eJ;have:=sumN_list (fun x:Sn=>x.w * fT b ts x) sp sp.length (aA _);rw [bh] at this;rw [this];refine j7 _ fun k hk=>?_
 unfold wOf iI lOf;rw [gE hk];show sp[k].w * fT b ts sp[k]=sp[k].w * (sp[k].l+fT b ts sp[k]) - sp[k].w * sp[k].l;rw [Int.mul_add];lia
theorem rows_in {b:Int}{ts:List Int}{sp:List Sn}{bs:List (Int×Int)}(hb:0<b)(hl:bs.length=sp.length)(h:InB (iI b ts sp) bs):∀ (rows:List (Int×List Stp)),(∀ r∈rows,RowOk b sp bs r)→algR (iI b ts sp) rows=oE b bs rows
 | [],_=>rfl
 | r::rows,hr=>by
  obtain ⟨h1,h2,_⟩:=hr r (by simp);obtain ⟨Z,e,z1,z2⟩:=ring_in hb hl h h1;have h2:=qV h2;have ez:Z=upB b (fe bs r.2):=by lia
  have ih:=rows_in hb hl h rows fun t ht=>hr t (aw _ ht)
  have e3:oE b bs (r::rows)=r.1 * upB b (fe bs r.2) * b+oE b bs rows:=rfl;show r.1 * alg (iI b ts sp) r.2+algR (iI b ts sp) rows=_;rw [e3,ih,e,ez,Int.mul_comm b,ja]
def longer (b:Nat)(tt:List (List Int)):List (List Int):=tt.flatMap fun t=>(aQ b).map fun c:Nat=>t++[(0:Int)+(c:Nat)]
def allT (b:Nat):Nat→List (List Int)
 | 0=>[[]]
 | n+1=>longer b (allT b n)
theorem qO.more {tk':List Nat}{x y:Int}(h:∀ i∈tk,i∈tk')(k:qO sp tk x y):qO sp tk' x y:=fun S hS=>k S fun i hi=>hS i (h i hi)
theorem qO.trans {x y:Int}(a:qO sp tk x y)(c:qO sp tk y z):qO sp tk x z:=fun S hS h=>c S hS (a S hS h)
theorem qO.symm {x y:Int}(a:qO sp tk x y):qO sp tk y x:=fun S hS h=>eE fun n=>a (fun z=>¬ S z) (fun i hi=>not_congr (hS i hi)) n h
inductive Acy (sp:List Sn):List Nat→Prop where
 | nil:Acy sp []
 | snoc {tk:List Nat} {k:Nat} (h:Acy sp tk) (hk:k<sp.length) (s:∃ S:Int→Prop,(∀ i∈tk,S (sAt sp i).s↔S (sAt sp i).g)∧S (sAt sp k).s∧¬ S (sAt sp k).g):Acy sp (tk++[k])
theorem Acy.pot (h:Acy sp tk)(y:Nat→Int):∃ π:Int→Int,∀ i∈tk,π (sAt sp i).g - π (sAt sp i).s=y i:=by
 induction h with
 | nil=>exact ⟨fun _=>0,fun _ h=>qS h (by simp)⟩
 | snoc h hk s ih =>
  rename_i tk k;obtain ⟨π,hπ⟩:=ih;obtain ⟨S,hS,s1,s2⟩:=s;have dec:∀ x,Decidable (S x):=fun x=>Classical.propDecidable _
  refine ⟨fun x=>if S x then π x else π x+(y k - (π (sAt sp k).g - π (sAt sp k).s)),fun i hi=>?_⟩
  rcases aK.mp hi with hi | hi
  ·have e:=hπ i hi
   have f:=hS i hi;show (if S (sAt sp i).g then _ else _) - (if S (sAt sp i).s then _ else _)=_
   by_cases c:S (sAt sp i).s
   ·rw [qR c,qR (f.mp c)];exact e
   ·rw [qQ c,qQ (fun z=>c (f.mpr z))];lia
  ·rw [ax.mp hi]
   show (if S (sAt sp k).g then _ else _) - (if S (sAt sp k).s then _ else _)=_;rw [qQ s2,qR s1];lia
theorem Acy.nodup (h:Acy sp tk):tk.Nodup∧∀ i∈tk,i<sp.length:=by
 induction h with
 | nil=>exact ⟨List.nodup_nil,fun _ h=>qS h (by simp)⟩
 | snoc h hk s ih =>
  rename_i tk k;obtain ⟨S,hS,s1,s2⟩:=s;refine ⟨jw.mpr ⟨ih.1,by simp,fun a ha c hc e=>?_⟩,fun i hi=>?_⟩
  ·rw [ax.mp hc] at e
   subst e;exact s2 ((hS _ ha).mp s1)
  ·rcases aK.mp hi with hi | hi
   ·exact ih.2 i hi
   ·rw [ax.mp hi];exact hk
structure Pots (sp:List Sn)(tk:List Nat):Prop where
 nodup:tk.Nodup∧∀ i∈tk,i<sp.length
 pot:∀ y:Nat→Int,∃ π:Int→Int,∀ i∈tk,π (sAt sp i).g - π (sAt sp i).s=y i
theorem Acy.pots (h:Acy sp tk):Pots sp tk:=⟨h.nodup,h.pot⟩
theorem Pots.perm (h:Pots sp tk)(p:l.Perm tk):Pots sp l :=
 ⟨⟨p.nodup_iff.mpr h.nodup.1,fun i hi=>h.nodup.2 i (p.mem_iff.mp hi)⟩,fun y=>let ⟨π,k⟩:=h.pot y;⟨π,fun i hi=>k i (p.mem_iff.mp hi)⟩⟩
structure Gd (m:Nat)(sp:List Sn)(gs:List Int)(tk:List Nat):Prop where
 len:gs.length=m
 eq:∀ i∈tk,tm gs (sAt sp i).s=tm gs (sAt sp i).g
 held:∀ x y:Int,0≤x→x<m→0≤y→y<m→tm gs x=tm gs y→qO sp tk x y
 acy:Acy sp tk
 cnt:Cnt m gs tk.length
theorem Gd.start (m:Nat)(sp:List Sn):Gd m sp (jK m) []:=by
 refine ⟨jq m,fun _ h=>qS h (by simp),fun x y x0 x1 y0 y1 e=>?_,.nil,Cnt.start m⟩;rw [nW x0 x1,nW y0 y1] at e;subst e;exact fun S _ h=>h
theorem Gd.step (E:kO m sp)(g:Gd m sp gs tk)(hi:i<sp.length):Gd m sp (eN sp (gs,tk) i).1 (eN sp (gs,tk) i).2:=by
 obtain ⟨s0,s1,g0,g1⟩:=E _ (dQ hi);unfold eN
 by_cases e:tm gs (sAt sp i).s=tm gs (sAt sp i).g
 ·rw [qR e];exact g
 ·rw [qQ e]
  have l:=g.len;have old:∀ j∈tk,j<sp.length:=g.acy.nodup.2;have jt:∀ x:Int,0≤x→x<m→tm (iJ gs (tm gs (sAt sp i).s) (tm gs (sAt sp i).g)) x=if tm gs x=tm gs (sAt sp i).g then tm gs (sAt sp i).s else tm gs x:=fun x x0 x1=>kW x0 (by lia)
  have up:∀ {x y:Int},qO sp tk x y→qO sp (tk++[i]) x y:=fun h=>h.more fun j hj=>aG _ hj
  have ed:qO sp (tk++[i]) (sAt sp i).s (sAt sp i).g:=fun S hS h=>(hS i (ay _ (ax.mpr rfl))).mp h
  refine ⟨by show (iJ _ _ _).length=m;rw [kH];exact l,fun j hj=>?_,fun x y x0 x1 y0 y1 h=>?_,.snoc g.acy hi ⟨fun x=>tm gs x=tm gs (sAt sp i).s,fun j hj=>by show tm gs _=_↔tm gs _=_;rw [g.eq j hj],rfl,fun z=>e z.symm⟩,?_⟩
  ·show tm (iJ _ _ _) _=tm (iJ _ _ _) _
   rcases aK.mp hj with hj | hj
   ·obtain ⟨a0,a1,b0,b1⟩:=E _ (dQ (old j hj))
    rw [jt _ a0 a1,jt _ b0 b1,g.eq j hj]
   ·rw [ax.mp hj,jt _ s0 s1,jt _ g0 g1,qR rfl,qQ e]
  ·have h:tm (iJ _ _ _) x=tm (iJ _ _ _) y:=h
   rw [jt x x0 x1,jt y y0 y1] at h;show qO sp (tk++[i]) x y
   by_cases c1:tm gs x=tm gs (sAt sp i).g
   ·by_cases c2:tm gs y=tm gs (sAt sp i).g
    ·exact up (g.held x y x0 x1 y0 y1 (c1.trans c2.symm))
    ·rw [qR c1,qQ c2] at h
     exact (up (g.held x _ x0 x1 g0 g1 c1)).trans (ed.symm.trans (up (g.held _ y s0 s1 y0 y1 h)))
   ·by_cases c2:tm gs y=tm gs (sAt sp i).g
    ·rw [qQ c1,qR c2] at h
     exact (up (g.held x _ x0 x1 s0 s1 h)).trans (ed.trans (up (g.held _ y g0 g1 y0 y1 c2.symm)))
    ·rw [qQ c1,qQ c2] at h
     exact up (g.held x y x0 x1 y0 y1 h)
  ·show Cnt m (iJ _ _ _) (tk++[i]).length
   rw [au];exact g.cnt.join (tm_mem s0 (by lia)) (tm_mem g0 (by lia)) e
theorem Gd.fold {m:Nat}{sp:List Sn}(E:kO m sp):∀ (π:List Nat) (gs:List Int) (tk:List Nat),(∀ i∈π,i<sp.length)→Gd m sp gs tk→Gd m sp (π.foldl (eN sp) (gs,tk)).1 (π.foldl (eN sp) (gs,tk)).2
 | [],_,_,_,g=>g
 | i::π,gs,tk,h,g=>by
  rw [bG];exact Gd.fold E π _ _ (fun j hj=>h j (aw _ hj)) (g.step E (h i (by simp)))
theorem Gd.few (g:Gd m sp gs tk)(h:0<m):tk.length<m:=by
 obtain ⟨D,_,mem,l⟩:=g.cnt;have:D≠[]:=fun z=>by
  have h0:tm gs 0∈gs:=tm_mem (fH 0) (by rw [g.len];lia);have:=(mem _).mpr h0;rw [z] at this;cases this
 have:=List.length_pos_iff.mpr this;lia
structure RK (sp:List Sn)(tk:List Nat)(q:Nat×List Stp):Prop where
 lt:q.1<sp.length
 out:q.1 ∉ tk
 way:∃ p,q.2=⟨q.1,1⟩::p∧Pth sp tk (sAt sp q.1).g (sAt sp q.1).s p
theorem RK.rg {m:Int}{q:Nat×List Stp}(N:kd b m sp)(h:RK sp tk q)(hl:tk.length≤15):Rg sp q.2:=by
 obtain ⟨p,e,P⟩:=h.way;have hk:=h.lt;have eA:sAt sp q.1=sp[q.1]:=by unfold sAt;rw [ah,gE hk];rfl
 rw [e];refine Bk.ring hk (N.all _ (bK hk)).ne ⟨fun s hs=>(P.inn s hs).2,by rw [←eA];exact P.alo,P.one,fun s hs z=>?_⟩ ?_
 ·have z:s.i=q.1:=by lia
  exact h.out (z ▸ (P.inn s hs).1)
 ·have hn:((p.map Stp.i).map fun n:Nat=>(n:Int)).Nodup:=by
   rw [bV,fU];exact (bV.mp P.one).imp fun hh e=>hh (by lia)
  have:=lP (l:=(p.map Stp.i).map fun n:Nat=>(n:Int)) (k:=tk.map fun n:Nat=>(n:Int)) hn fun x hx=>by
   obtain ⟨i,hi,rfl⟩:=aW.mp hx;obtain ⟨s,hs,rfl⟩:=aW.mp hi;exact aW.mpr ⟨_,(P.inn s hs).1,rfl⟩
  rw [ae,ae,ae] at this;lia
structure OB (sp:List Sn)(tk:List Nat)(bs:List (Int×Int)):Prop where
 len:bs.length=sp.length
 out:∀ k,k<sp.length→k ∉ tk→bs.getD k (0,0)=((sAt sp k).l,(sAt sp k).o)
 lo:∀ k,k<sp.length→(sAt sp k).l≤(bs.getD k (0,0)).1∧(bs.getD k (0,0)).1≤(bs.getD k (0,0)).2∧(bs.getD k (0,0)).2≤(sAt sp k).o
theorem iD {bs:List (Int×Int)}{k:Nat}{x:Int×Int}(hj:j<bs.length):(bs.set k x).getD j (0,0)=if k=j then x else bs.getD j (0,0):=by
 rw [ah]
 by_cases e:k=j
 ·subst e
  rw [cT hj,qR rfl];rfl
 ·rw [cS e,qQ e,←ah]
theorem OB.one {bs:List (Int×Int)}{k:Nat}{a:Int}(h:OB sp tk bs)(hk:k∈tk)(hn:k<sp.length)(h1:(bs.getD k (0,0)).1≤a)(h2:a<(bs.getD k (0,0)).2):OB sp tk (lV bs k a):=by
 have l:=h.len;refine ⟨by rw [one_len];exact l,fun j hj hjn=>?_,fun j hj=>?_⟩
 ·unfold lV
  rw [iD (by lia),qQ (fun (z:k=j)=>hjn (z ▸ hk))];exact h.out j hj hjn
 ·unfold lV
  rw [iD (by lia)];have:=h.lo j hj
  by_cases e:k=j
  ·rw [qR e]
   subst e;exact ⟨this.1,h1,by show a≤_;lia⟩
  ·rw [qQ e];exact this
theorem OB.other {bs:List (Int×Int)}{k:Nat}{a:Int}(h:OB sp tk bs)(hk:k∈tk)(hn:k<sp.length)(h1:(bs.getD k (0,0)).1≤a)(h2:a<(bs.getD k (0,0)).2):OB sp tk (eV bs k a):=by
 have l:=h.len;refine ⟨by rw [other_len];exact l,fun j hj hjn=>?_,fun j hj=>?_⟩
 ·unfold eV
  rw [iD (by lia),qQ (fun (z:k=j)=>hjn (z ▸ hk))];exact h.out j hj hjn
 ·unfold eV
  rw [iD (by lia)];have:=h.lo j hj
  by_cases e:k=j
  ·rw [qR e]
   subst e;exact ⟨by show _≤a+1;lia,by show a+1≤(bs.getD k (0,0)).2;lia,this.2.2⟩
  ·rw [qQ e];exact this
theorem OB.first {m:Int}(N:kd b m sp)(tk:List Nat):OB sp tk (sp.map fun x=>(x.l,x.o)):=by
 have e:∀ k,k<sp.length→(sp.map fun x=>(x.l,x.o)).getD k (0,0)=((sAt sp k).l,(sAt sp k).o):=fun k hk=>by
  rw [ah,az,jh hk];rfl
 refine ⟨ae ..,fun k hk _=>e k hk,fun k hk=>?_⟩;rw [e k hk];have:=N.all _ (dQ hk);exact ⟨fH _,this.lo,fH _⟩
def k4 (sp:List Sn)(rg:List (Nat×List Stp)):List (Int×List Stp):=rg.map fun q=>((sAt sp q.1).w,q.2)
structure Fx (b:Int)(tk:List Nat)(rg:List (Nat×List Stp))(bs:List (Int×Int)):Prop where
 fix:∀ k∈tk,(bs.getD k (0,0)).1=(bs.getD k (0,0)).2
 alive:∀ q∈rg,jD b bs q.2=false
structure FF (m:Int)(sp:List Sn)(tk:List Nat)(rg:List (Nat×List Stp)):Prop where
 acy:Pots sp tk
 few:(tk.length:Int)<m
 rk:∀ q∈rg,RK sp tk q
 all:∀ k,k<sp.length→k ∉ tk→∃ r,(k,r)∈rg
 one:(rg.map (·.1)).Nodup
theorem low_fix {bs:List (Int×Int)}{tk:List Nat}(h:∀ k∈tk,k<bs.length∧(bs.getD k (0,0)).1=(bs.getD k (0,0)).2):∀ (p:List Stp),(∀ s∈p,s.i∈tk∧(s.d=1∨s.d= -1))→fe bs p=alg (fun k=>(bs.getD k (0,0)).1) p∧iq bs p=alg (fun k=>(bs.getD k (0,0)).1) p
 | [],_=>⟨rfl,rfl⟩
 | s::p,hp=>by
  obtain ⟨i1,i2⟩:=low_fix h p fun t ht=>hp t (aw _ ht)
  obtain ⟨h1,h2⟩:=hp s (by simp);obtain ⟨h3,h4⟩:=h s.i h1;have e:bs.getD s.i (0,0)=bs[s.i]:=by rw [ah,gE h3];rfl
  have e1:fe bs (s::p)=qJ bs s+fe bs p:=rfl;have e2:iq bs (s::p)=l4 bs s+iq bs p:=rfl;have f1:qJ bs s=if s.d=1 then bs[s.i].1 else -bs[s.i].2:=by unfold qJ;rw [gE h3]
  have f2:l4 bs s=if s.d=1 then bs[s.i].2 else -bs[s.i].1:=by unfold l4;rw [gE h3]
  rw [e] at h4;rw [e1,e2,f1,f2,i1,i2];show _=s.d * (bs.getD s.i (0,0)).1+_∧_=s.d * (bs.getD s.i (0,0)).1+_;rw [e]
  rcases h2 with d1 | d1
  ·rw [d1,qR rfl,qR rfl];lia
  ·rw [d1,qQ (by decide),qQ (by decide)];lia
theorem o4 {bs:List (Int×Int)}{q:Nat×List Stp}(h:RK sp tk q)(O:OB sp tk bs)(fix:∀ k∈tk,(bs.getD k (0,0)).1=(bs.getD k (0,0)).2) :
  ∃ p,q.2=⟨q.1,1⟩::p∧Pth sp tk (sAt sp q.1).g (sAt sp q.1).s p∧fe bs q.2=(sAt sp q.1).l+alg (fun k=>(bs.getD k (0,0)).1) p∧iq bs q.2=(sAt sp q.1).o+alg (fun k=>(bs.getD k (0,0)).1) p:=by
 obtain ⟨p,e,P⟩:=h.way;have hk:=h.lt;have l:=O.len;obtain ⟨a1,a2⟩:=low_fix (bs:=bs) (tk:=p.map Stp.i) (fun k hk'=>by
  obtain ⟨s,hs,rfl⟩:=aW.mp hk';exact ⟨by rw [l];exact (P.inn s hs).2.1,fix _ (P.inn s hs).1⟩) p fun s hs=>⟨aW.mpr ⟨s,hs,rfl⟩,(P.inn s hs).2.2⟩
 have eb:=O.out q.1 hk h.out;have hb:q.1<bs.length:=by lia
 have e0:bs.getD q.1 (0,0)=bs[q.1]:=by rw [ah,gE hb];rfl
 refine ⟨p,e,P,?_,?_⟩
 ·rw [e,show fe bs (⟨q.1,1⟩::p)=qJ bs ⟨q.1,1⟩+fe bs p from rfl,a1]
  congr 1;unfold qJ;show (match bs[q.1]? with | some p=>if (1:Int)=1 then p.1 else -p.2 | none=>0)=_;rw [gE hb];show (if (1:Int)=1 then bs[q.1].1 else _)=_;rw [qR rfl,←e0,eb]
 ·rw [e,show iq bs (⟨q.1,1⟩::p)=l4 bs ⟨q.1,1⟩+iq bs p from rfl,a2]
  congr 1;unfold l4;show (match bs[q.1]? with | some p=>if (1:Int)=1 then p.2 else -p.1 | none=>0)=_;rw [gE hb];show (if (1:Int)=1 then bs[q.1].2 else _)=_;rw [qR rfl,←e0,eb]
theorem beat_one {hi:Int}(hb:0<b)(h:upB b lo≤hi / b)(hw:hi - lo<b):upB b lo=hi / b∧lo≤b * upB b lo∧b * upB b lo≤hi:=by
 have e:=fQ (-lo) b;have r0:=dX (-lo) (by lia:b≠0);have r1:=dA (-lo) hb;have e':=fQ hi b;have r0':=dX hi (by lia:b≠0);have r1':=dA hi hb;unfold upB at h ⊢;generalize -lo / b=u at *;generalize hi / b=v at *;have m1:b * -u= -(b * u):=Int.mul_neg ..;have h2:b * -u≤b * v:=gL h (by lia);refine ⟨?_,by lia,by lia⟩
 rcases Int.lt_or_le (-u) v with c | c
 ·have:b * (-u+1)≤b * v:=gL (by lia) (by lia)
  rw [Int.mul_add,Int.mul_one] at this;lia
 ·lia
theorem fx_sure {m:Int}{rg:List (Nat×List Stp)}{bs:List (Int×Int)}(N:kd b m sp)(f:FF m sp tk rg)(O:OB sp tk bs)(x:Fx b tk rg bs):LfOk b sp bs (.price (k4 sp rg)):=by
 have m2:=N.m2;have fw:=f.few;have tl:tk.length≤15:=by lia
 refine ⟨?_,fun r hr=>?_⟩
 ·show (rg.map _).length≤40
  rw [ae];have hn:((rg.map (·.1)).map fun n:Nat=>(n:Int)).Nodup:=by
   rw [bV,fU];exact (bV.mp f.one).imp fun hh e=>hh (by lia)
  have:=lP (l:=(rg.map (·.1)).map fun n:Nat=>(n:Int)) (k:=(aQ sp.length).map fun n:Nat=>(n:Int)) hn fun z hz=>by
   obtain ⟨i,hi,rfl⟩:=aW.mp hz;obtain ⟨q,hq,rfl⟩:=aW.mp hi;exact aW.mpr ⟨_,bY.mpr (f.rk q hq).lt,rfl⟩
  rw [ae,ae,ae,bo] at this;have:=N.few;lia
 ·obtain ⟨q,hq,rfl⟩:=aW.mp hr
  have K:=f.rk q hq;have sn:=N.all _ (dQ K.lt);refine ⟨K.rg N tl,?_,by have:=sn.w0;show -1000000000000≤(sAt sp q.1).w;lia,sn.w1⟩;obtain ⟨p,e,P,e1,e2⟩:=o4 K O x.fix;have al:=x.alive q hq;have al:¬ (upB b (fe bs q.2) > iq bs q.2 / b):=by
   unfold jD at al
   simpa using al
  show decide (upB b (fe bs q.2)=iq bs q.2 / b)=true;refine qT (beat_one (by have:=N.b1;lia) (by lia) ?_).1;have:=sn.ob;rw [e1,e2];lia
theorem alg_pot {sp:List Sn}{tk:List Nat}{y:Nat→Int}{π:Int→Int}(ht:∀ i∈tk,i<sp.length)(hπ:∀ i∈tk,π (sAt sp i).g - π (sAt sp i).s=y i):∀ (p:List Stp) (u z:Int),(∀ s∈p,s.i∈tk∧(s.d=1∨s.d= -1))→qi sp u p z→alg y p=π z - π u
 | [],u,z,_,a=>by
  have a:u=z:=a;subst a;show (0:Int)=_;lia
 | s::p,u,z,hp,a=>by
  obtain ⟨a1,a2⟩:=a;have ih:=alg_pot ht hπ p _ z (fun t h=>hp t (aw _ h)) a2;obtain ⟨h1,h2⟩:=hp s (by simp);obtain ⟨f1,f2,f3,f4⟩:=qK (ht s.i h1);have e:=hπ s.i h1;obtain ⟨i,d⟩:=s
  dsimp only at e f1 f2 f3 f4
  have h2:d=1∨d= -1:=h2;show d * y i+alg y p=_;rw [ih,←a1]
  rcases h2 with rfl | rfl
  ·rw [f1,f2];show 1 * y i+_=_;lia
  ·rw [f3,f4];show -1 * y i+_=_;lia
def potT (b:Int)(π:Int→Int)(m:Nat):List Int:=(aQ m).map fun x:Nat=>(π (x:Nat) - π 0) % b
theorem potT_at {π:Int→Int}{x:Int}(h0:0≤x)(h1:x<m):tm (potT b π m) x=(π x - π 0) % b:=by
 obtain ⟨n,rfl⟩:=cP h0;unfold tm potT;rw [cq,ah,az,gB (by lia)];rfl
theorem wait_pot {π:Int→Int}{x:Sn}(s0:0≤x.s)(s1:x.s<m)(g0:0≤x.g)(g1:x.g<m):fT b (potT b π m) x=(π x.g - π x.s - x.l) % b:=by
 unfold fT;rw [potT_at s0 s1,potT_at g0 g1,rest_two];congr 1;lia
theorem rest_in {Y l Z:Int}(h0:l≤Y)(h1:Y<l+b):(Y - b * Z - l) % b=Y - l:=by
 rw [show Y - b * Z - l=(Y - l)+b * (-Z) by rw [Int.mul_neg];lia,Int.add_mul_emod_self_left];exact Int.emod_eq_of_lt (by lia) (by lia)
theorem sg_no {k:Nat}:∀ (p:List Stp),(∀ s∈p,s.i≠k)→sg k p=0
 | [],_=>rfl
 | s::p,h=>by
  show (if s.i=k then s.d else 0)+sg k p=0;rw [qQ (h s (by simp)),sg_no p fun t ht=>h t (aw _ ht)];rfl
theorem sgR_no {sp:List Sn}{tk:List Nat}{k:Nat}(hk:k ∉ tk):∀ (rg:List (Nat×List Stp)),(∀ q∈rg,RK sp tk q)→k ∉ rg.map (·.1)→sgR k (k4 sp rg)=0
 | [],_,_=>rfl
 | q::rg,h,hn=>by
  have ih:=sgR_no hk rg (fun t ht=>h t (aw _ ht)) fun z=>hn (aw _ z)
  show (sAt sp q.1).w * sg k q.2+sgR k (k4 sp rg)=0;obtain ⟨p,e,P⟩:=(h q (by simp)).way;rw [ih,e,sg_no _ fun s hs=>?_,fZ];rfl
  rcases aB.mp hs with rfl | hs
  ·exact fun z=>hn (by show k∈q.1::_;rw [show k=q.1 from z.symm];simp)
  ·exact fun z=>hk (z ▸ (P.inn s hs).1)
theorem sgR_own {sp:List Sn}{tk:List Nat}{k:Nat}(hk:k ∉ tk):∀ (rg:List (Nat×List Stp)),(∀ q∈rg,RK sp tk q)→(rg.map (·.1)).Nodup→k∈rg.map (·.1)→sgR k (k4 sp rg)=(sAt sp k).w
 | [],_,_,h=>qS h (by simp)
 | q::rg,h,hn,hm=>by
  rw [bZ,bF] at hn;show (sAt sp q.1).w * sg k q.2+sgR k (k4 sp rg)=_;obtain ⟨p,e,P⟩:=(h q (by simp)).way;have hp:∀ s∈p,s.i≠k:=fun s hs z=>hk (z ▸ (P.inn s hs).1)
  have e2:sg k q.2=if q.1=k then 1 else 0:=by
   rw [e];show (if q.1=k then (1:Int) else 0)+sg k p=_;rw [sg_no p hp,Int.add_zero]
  rw [e2]
  by_cases c:q.1=k
  ·rw [qR c,c,Int.mul_one,sgR_no hk rg (fun t ht=>h t (aw _ ht)) (c ▸ hn.1),Int.add_zero]
  ·rw [qQ c,fZ,gO]
   exact sgR_own hk rg (fun t ht=>h t (aw _ ht)) hn.2 ((aB.mp hm).resolve_left fun z=>c z.symm)
theorem mem_allT {b:Nat}:∀ (n:Nat) (ts:List Int),ts.length=n→(∀ x∈ts,0≤x∧x<(b:Int))→ts∈allT b n
 | 0,ts,h,_=>by rw [gC.mp h];exact ax.mpr rfl
 | n+1,ts,h,hx=>by
  have hne:ts≠[]:=fun z=>by rw [z] at h;cases h
  have e:=List.dropLast_concat_getLast hne;have hd:ts.dropLast∈allT b n:=mem_allT n _ (by rw [List.length_dropLast];lia) fun x h'=>hx x ((List.dropLast_sublist _).subset h')
  obtain ⟨l0,l1⟩:=hx _ (List.getLast_mem hne);obtain ⟨c,hc⟩:=cP l0;refine List.mem_flatMap.mpr ⟨ts.dropLast,hd,aW.mpr ⟨c,bY.mpr (by lia),?_⟩⟩;rw [gO];show ts.dropLast++[((c:Nat):Int)]=ts;rw [show ((c:Nat):Int)=ts.getLast hne from hc.symm];exact e
theorem tight {m:Int}{rg:List (Nat×List Stp)}{bs:List (Int×Int)}(N:kd b m sp)(f:FF m sp tk rg)(O:OB sp tk bs)(x:Fx b tk rg bs) :
  ∃ ts∈allT b.toNat m.toNat,ts.getD 0 0=0∧ki b ts sp=true∧eJ b ts sp=lO b sp bs (k4 sp rg):=by
 have hb:0<b:=by have:=N.b1;lia
 have m1:=N.m1;obtain ⟨ht1,ht2⟩:=f.acy.nodup;obtain ⟨π,hπ⟩:=f.acy.pot fun k=>(bs.getD k (0,0)).1
 have eW:∀ k,k<sp.length→fT b (potT b π m.toNat) (sAt sp k)=(π (sAt sp k).g - π (sAt sp k).s - (sAt sp k).l) % b:=fun k hk=>by
  have s:=N.all _ (dQ hk);exact wait_pot s.s0 (by have:=s.s1;lia) s.g0 (by have:=s.g1;lia)
 have key:∀ k,k<sp.length→∃ Y,fT b (potT b π m.toNat) (sAt sp k)=Y - (sAt sp k).l∧(bs.getD k (0,0)).1≤Y∧Y≤(bs.getD k (0,0)).2:=fun k hk=>by
  have s:=N.all _ (dQ hk);have lo:=O.lo k hk
  by_cases c:k∈tk
  ·have e:=hπ k c
   have fx:=x.fix k c;refine ⟨(bs.getD k (0,0)).1,?_,fH _,by lia⟩;rw [eW k hk,show π (sAt sp k).g - π (sAt sp k).s - (sAt sp k).l=(bs.getD k (0,0)).1 - b * 0 - (sAt sp k).l by rw [fZ];lia];exact rest_in lo.1 (by have:=s.ob;lia)
  ·obtain ⟨r,hr⟩:=f.all k hk c
   have K:=f.rk _ hr;obtain ⟨p,e,P,e1,e2⟩:=o4 K O x.fix;have al:=x.alive _ hr;have al:¬ (upB b (fe bs r) > iq bs r / b):=by unfold jD at al;simpa using al
   obtain ⟨_,z1,z2⟩:=beat_one hb (lo:=fe bs r) (hi:=iq bs r) (by lia) (by
    have e1:fe bs r=_:=e1;have e2:iq bs r=_:=e2;have:=s.ob;rw [e1,e2];show (sAt sp k).o+_ - ((sAt sp k).l+_)<b;lia)
   have ea:=alg_pot ht2 hπ p _ _ (fun s hs=>⟨(P.inn s hs).1,(P.inn s hs).2.2⟩) P.alo;have e1:fe bs r=(sAt sp k).l+alg (fun k=>(bs.getD k (0,0)).1) p:=e1;have e2:iq bs r=(sAt sp k).o+alg (fun k=>(bs.getD k (0,0)).1) p:=e2;have ea:alg (fun k=>(bs.getD k (0,0)).1) p=π (sAt sp k).s - π (sAt sp k).g:=ea;have eo:=O.out k hk c;rw [eo];refine ⟨b * upB b (fe bs r) - alg (fun k=>(bs.getD k (0,0)).1) p,?_,by show (sAt sp k).l≤_;lia,by show _≤(sAt sp k).o;lia⟩;rw [eW k hk];have hs:=s.ob;have:=rest_in (b:=b) (Y:=b * upB b (fe bs r) - alg (fun k=>(bs.getD k (0,0)).1) p) (l:=(sAt sp k).l) (Z:=upB b (fe bs r)) (by lia) (by lia);rw [←this];congr 1;lia
 have lay:∀ k,k<sp.length→iI b (potT b π m.toNat) sp k=(sAt sp k).l+fT b (potT b π m.toNat) (sAt sp k):=fun k hk=>by
  unfold iI;rw [jh hk]
 have hin:InB (iI b (potT b π m.toNat) sp) bs:=fun k hk=>by
  have hk:k<sp.length:=by rw [←O.len];exact hk
  obtain ⟨Y,e,y1,y2⟩:=key k hk;rw [lay k hk,e]
  constructor <;> lia
 refine ⟨potT b π m.toNat,mem_allT _ _ (by unfold potT;rw [ae,bo]) (fun z hz=>?_),?_,?_,?_⟩
 ·obtain ⟨i,_,rfl⟩:=aW.mp hz
  have h0:=dX (π (i:Nat) - π 0) (by lia:b≠0);have h1:=dA (π (i:Nat) - π 0) hb;exact ⟨h0,by lia⟩
 ·have:=potT_at (b:=b) (π:=π) (m:=m.toNat) (x:=0) (fH 0) (by lia)
  rw [Int.sub_self,Int.zero_emod] at this;exact this
 ·unfold ki
  rw [hW,jx];intro s hs;obtain ⟨k,hk,rfl⟩:=iR hs;have eA:sAt sp k=sp[k]:=by unfold sAt;rw [ah,gE hk];rfl
  obtain ⟨Y,e,y1,y2⟩:=key k hk;have:=(O.lo k hk).2.2;rw [eA] at e this;unfold brk;rw [qU (by lia)];exact aO
 ·have rok:∀ r∈k4 sp rg,RowOk b sp bs r:=(fx_sure N f O x).2
  have rw1:∀ r∈k4 sp rg,RwOk sp.length r:=fun r hh=>by
   have q:=rok r hh;exact ⟨q.1.inn,q.1.one,q.1.few,q.2.2.1,q.2.2.2⟩
  have e1:=rows_in hb O.len hin _ rok;have e2:=sum_sgR (y:=iI b (potT b π m.toNat) sp) (n:=sp.length) (k4 sp rg) fun r hh s hs=>((rw1 r hh).inn s hs).1
  unfold lO;rw [mj,←e1,←e2,wait_sum,←oH];refine j7 _ fun k hk=>?_
  unfold termW;have eo:=owK_sg hk rw1;have hl:=hin k (by rw [O.len];exact hk);have ew:wOf sp k=(sAt sp k).w:=by unfold wOf;rw [jh hk]
  have keyo:owK sp (k4 sp rg) k * (if owK sp (k4 sp rg) k<0 then (bs.getD k (0,0)).2 else (bs.getD k (0,0)).1)=owK sp (k4 sp rg) k * iI b (potT b π m.toNat) sp k:=by
   by_cases c:k∈tk
   ·have fx:=x.fix k c
    have e:iI b (potT b π m.toNat) sp k=(bs.getD k (0,0)).1:=by lia
    rw [e];split
    ·rw [←fx]
    ·rfl
   ·have z:owK sp (k4 sp rg) k=0:=by
     obtain ⟨r,hr⟩:=f.all k hk c;rw [eo,ew,sgR_own c rg f.rk f.one (aW.mpr ⟨_,hr,rfl⟩),Int.sub_self]
    rw [z,eG,eG]
  have ex:owK sp (k4 sp rg) k * iI b (potT b π m.toNat) sp k=wOf sp k * iI b (potT b π m.toNat) sp k - sgR k (k4 sp rg) * iI b (potT b π m.toNat) sp k:=by rw [eo,Int.sub_mul]
  lia
def iM (m:Nat)(sp:List Sn)(l:List Nat):Prop:=ow m sp (l.map fun (i:Nat)=>(i:Int))∧∃ π,Ordd sp π∧l.Perm (kB sp m π).2
theorem pQ:∀ {l k:List Nat},l.map (fun (i:Nat)=>(i:Int))=k.map (fun (i:Nat)=>(i:Int))→l=k
 | [],[],_=>rfl
 | [],_::_,h=>by cases h
 | _::_,[],h=>by cases h
 | a::l,b::k,h=>by
  rw [bZ,bZ] at h;injection h with h1 h2
  have h1:a=b:=by lia
  rw [h1,pQ h2]
theorem iM.one {k:List Nat}(a:iM m sp l)(b:iM m sp k):l=k:=pQ (ow.one a.1 b.1)
theorem iM.gd (E:kO m sp)(a:iM m sp l):∃ gs tk,Gd m sp gs tk∧l.Perm tk∧∀ i,i<sp.length→tm gs (sAt sp i).s=tm gs (sAt sp i).g:=by
 obtain ⟨_,π,O,pm⟩:=a;refine ⟨(kB sp m π).1,(kB sp m π).2,Gd.fold E π _ _ (fun i hi=>O.lt hi) (Gd.start m sp),pm,fun i hi=>?_⟩;exact jY E π (jK m) [] (jq _) (fun i hi=>O.lt hi) i (O.1.mem_iff.mpr (bY.mpr hi))
theorem iM.pots (E:kO m sp)(a:iM m sp l):Pots sp l:=by
 obtain ⟨gs,tk,g,p,_⟩:=a.gd E;exact g.acy.pots.perm p
theorem iM.few (E:kO m sp)(h:0<m)(a:iM m sp l):l.length<m:=by
 obtain ⟨gs,tk,g,p,_⟩:=a.gd E;rw [p.length_eq];exact g.few h
theorem iM.held (E:kO m sp)(a:iM m sp l){k:Nat}(hk:k<sp.length):qO sp l (sAt sp k).s (sAt sp k).g:=by
 obtain ⟨gs,tk,g,p,me⟩:=a.gd E;obtain ⟨s0,s1,g0,g1⟩:=E _ (dQ hk);exact (g.held _ _ s0 s1 g0 g1 (me k hk)).more fun i hi=>p.mem_iff.mpr hi
def pJ (sp:List Sn)(tk:List Nat):List Nat:=(aQ sp.length).filter fun k=> !(decide (k∈tk))
structure FR (m:Int)(sp:List Sn)(l:List Nat)(rg:List (Nat×List Stp)):Prop where
 fr:iM m.toNat sp l
 rk:∀ q∈rg,RK sp l q
 ks:rg.map (·.1)=pJ sp l
theorem FR.ff {m:Int}{rg:List (Nat×List Stp)}(N:kd b m sp)(a:FR m sp l rg):FF m sp l rg:=by
 have m1:=N.m1;refine ⟨a.fr.pots N.ends,by have:=a.fr.few N.ends (by lia);lia,a.rk,fun k hk hn=>?_,?_⟩
 ·have:k∈rg.map (·.1):=by
   rw [a.ks];exact cb.mpr ⟨bY.mpr hk,by rw [qU hn];rfl⟩
  obtain ⟨q,hq,rfl⟩:=aW.mp this;exact ⟨q.2,hq⟩
 ·rw [a.ks]
  exact iF.filter _
def wayQ (q:Nat×List Stp):Dt:=oy q.2
def iw (k:Nat)(q:Nat×List Stp):Bool:=decide (k∈q.2.map Stp.i)
theorem Tb.lamT (h:L2.LamT T lp lq H)(e:L2.Tb T H H'):lH H H':=Tb.tupK (LamT.tbl h) e
inductive oM (T:ai)(lp:Pos)(lq:Str)(vs:List V)(H:Hp)(Q:VK)(_:XK):Prop
 | mk (v:V)(b m:Int)(sp:List Sn)(_:vs=[v])(_:IsD H v (lM b m sp))(_:kd b m sp)(_:L2.LamT T lp lq H)(_:∀ (L:ai) (rl:List V) (l:List Nat) (rg:List (Nat×List Stp)) (H':Hp),L2.Tb T H H'→L2.LamT T lp lq H'→H L=none→H' L=some (.lst rl)→dM H' rl (rg.map wayQ)→FR m sp l rg→Q (.ref L) H')
inductive spOverR (vs:List V)(H:Hp)(Q:VK)(_:XK):Prop
 | mk (u:ai)(k:Nat)(rl:List V)(rg:List (Nat×List Stp))(_:vs=[.ref u,.int (k:Nat)])(_:H u=some (.lst rl))(_:dM H rl (rg.map wayQ))(_:rg.length≤40)(_:(∀ q∈rg,q.2.length≤1000))(_:∀ (L:ai) (rl':List V) (H':Hp),bJ H H'→H L=none→H' L=some (.lst rl')→dM H' rl' ((rg.filter (iw k)).map wayQ)→Q (.ref L) H')
structure CsD (H:Hp)(c:ai)(bs:List (Int×Int))(rs:List (Nat×List Stp)):Prop where
 ex:∃ vb u rl,H c=some (.tup [vb,.ref u])∧IsD H vb (bndP bs)∧H u=some (.lst rl)∧dM H rl (rs.map wayQ)
theorem CsD.same {c:ai}{bs:List (Int×Int)}(a:CsD H c bs rs)(e:bJ H H'):CsD H' c bs rs:=by
 obtain ⟨vb,u,rl,h1,h2,h3,h4⟩:=a.ex;exact ⟨vb,u,rl,e _ _ h1,h2.same e,e _ _ h3,h4.same e⟩
inductive spMid (vs:List V)(H:Hp)(Q:VK)(_:XK):Prop
 | mk (c:ai)(k:Nat)(bs:List (Int×Int))(rs:List (Nat×List Stp))(_:vs=[.ref c,.int (k:Nat)])(_:CsD H c bs rs)(_:k<bs.length)(_:Q (.int (((bs.getD k (0,0)).1+(bs.getD k (0,0)).2) / 2)) H)
inductive pf (vs:List V)(H:Hp)(Q:VK)(_:XK):Prop
 | mk (v:V)(c:ai)(b m:Int)(sp:List Sn)(bs:List (Int×Int))(rs:List (Nat×List Stp))(_:vs=[v,.ref c])(_:IsD H v (lM b m sp))(_:0<b)(_:b<10 ^ 61)(_:CsD H c bs rs)(_:rs.length≤40)(_:(∀ q∈rs,qo bs.length q.2))(_:∀ r H',bJ H H'→((r= .non∧∀ q∈rs,jD b bs q.2=false)∨∃ q∈rs,IsD H' r (leafP (.ring q.2))∧jD b bs q.2=true)→Q r H')
inductive Spr (sp:List Sn):List Stp→Prop where
 | nil:Spr sp []
 | snoc {S:List Stp} {s:Stp} (h:Spr sp S) (n:e8 sp s≠mI sp s) (o:∀ t∈S,e8 sp s≠e8 sp t∧e8 sp s≠mI sp t):Spr sp (S++[s])
structure SI (m:Nat)(sp:List Sn)(tk:List Nat)(ex:Int→Prop)(R A:List Int)(S:List Stp):Prop where
 rng:∀ r∈R,0≤r∧r<(m:Int)
 nd:R.Nodup
 ahd:∀ a∈A,a∈R
 inn:∀ s∈S,s.i∈tk∧(s.d=1∨s.d= -1)∧mI sp s∈R∧e8 sp s∈R
 spr:Spr sp S
 len:S.length≤R.length
 clo:∀ z∈R,z ∉ A→¬ ex z→∀ s∈dt sp tk z,s.i∈S.map Stp.i
 con:∀ π:Int→Int,(∀ s∈S,π (mI sp s)=π (e8 sp s))→∀ a c,(a∈A∨ex a)→(c∈A∨ex c)→π a=π c
def exN:Int→Prop:=fun _=>False
section
variable {R A:List Int}
theorem SI.start:SI m sp tk exN [] [] [] :=
 ⟨fun _ h=>(by cases h),List.nodup_nil,fun _ h=>(by cases h),fun _ h=>(by cases h),.nil,aA _,fun _ h=>(by cases h),fun _ _ a c h=>(by rcases h with h | h;cases h;cases h)⟩
theorem SI.root {x:Int}(h:SI m sp tk exN R [] S)(hx:x ∉ R)(x0:0≤x)(x1:x<(m:Int)):SI m sp tk exN (R++[x]) [x] S:=by
 refine ⟨fun r hr=>?_,jw.mpr ⟨h.nd,by simp,fun a ha c hc e=>?_⟩,fun a ha=>ay _ ha,fun s hs=>?_,h.spr,by rw [au];exact Nat.le_succ_of_le h.len,fun z hz hn ex=>?_,fun π _ a c ha hc=>?_⟩
 ·rcases aK.mp hr with z | z
  ·exact h.rng r z
  ·rw [ax.mp z];exact ⟨x0,x1⟩
 ·rw [ax.mp hc] at e
  exact hx (e ▸ ha)
 ·obtain ⟨a,b,c,d⟩:=h.inn s hs
  exact ⟨a,b,aG _ c,aG _ d⟩
 ·rcases aK.mp hz with y | y
  ·exact h.clo z y (by simp) ex
  ·exact qS y hn
 ·rcases ha with ha | ha
  ·rcases hc with hc | hc
   ·rw [ax.mp ha,ax.mp hc]
   ·exact hc.elim
  ·exact ha.elim
theorem SI.pop {x:Int}(h:SI m sp tk exN R (A++[x]) S):SI m sp tk (· =x) R A S∧x∈R:=by
 refine ⟨⟨h.rng,h.nd,fun a ha=>h.ahd a (aG _ ha),h.inn,h.spr,h.len,fun z hz hn ex=>?_,fun π hπ a c ha hc=>?_⟩,h.ahd x (by simp)⟩
 ·refine h.clo z hz (fun y=>?_) id
  rcases aK.mp y with y | y
  ·exact hn y
  ·exact ex (ax.mp y)
 ·have up:∀ a:Int,(a∈A∨a=x)→a∈A++[x]∨exN a:=fun a ha=> .inl (ha.elim (fun z=>aG _ z) fun z=>by rw [z];simp)
  exact h.con π hπ a c (up a ha) (up c hc)
theorem nX {x:Int}{s:Stp}(h:s∈dt sp tk x):(s.i∈tk∧(s.d=1∨s.d= -1))∧mI sp s=x :=
 ⟨mem_stF (cb.mp h).1,qV (cb.mp h).2⟩
theorem o6 {x:Int}{d:Int}(h:i∈tk)(hd:d=1∨d= -1)(e:mI sp ⟨i,d⟩=x):(⟨i,d⟩:Stp)∈dt sp tk x:=by
 refine cb.mpr ⟨?_,qT e⟩;unfold stF
 rcases hd with rfl | rfl
 ·exact aG _ (aW.mpr ⟨i,h,rfl⟩)
 ·exact ay _ (aW.mpr ⟨i,h,rfl⟩)
theorem SI.add {x:Int}{s:Stp}(E:kO m sp)(ht:∀ i∈tk,i<sp.length)(h:SI m sp tk (· =x) R A S)(hx:x∈R)(hs:s∈dt sp tk x)(hn:e8 sp s ∉ R):SI m sp tk (· =x) (R++[e8 sp s]) (A++[e8 sp s]) (S++[s]):=by
 obtain ⟨⟨h1,h2⟩,h3⟩:=nX hs;refine ⟨fun r hr=>?_,jw.mpr ⟨h.nd,by simp,fun a ha c hc e=>?_⟩,fun a ha=>?_,fun t hT=>?_,.snoc h.spr (fun z=>hn (by rw [z,h3];exact hx)) (fun t hT=>⟨fun z=>hn (by rw [z];exact (h.inn t hT).2.2.2),fun z=>hn (by rw [z];exact (h.inn t hT).2.2.1)⟩),by rw [au,au];exact Nat.succ_le_succ h.len,fun z hz hz' ex t hT=>?_,fun π hπ=>?_⟩
 ·rcases aK.mp hr with z | z
  ·exact h.rng r z
  ·rw [ax.mp z];exact mf E (ht _ h1)
 ·rw [ax.mp hc] at e
  exact hn (e ▸ ha)
 ·rcases aK.mp ha with z | z
  ·exact aG _ (h.ahd a z)
  ·exact ay _ z
 ·rcases aK.mp hT with z | z
  ·obtain ⟨a,b,c,d⟩:=h.inn t z
   exact ⟨a,b,aG _ c,aG _ d⟩
  ·rw [ax.mp z]
   exact ⟨h1,h2,aG _ (h3 ▸ hx),by simp⟩
 ·rw [aF]
  refine aG _ ?_
  rcases aK.mp hz with y | y
  ·exact h.clo z y (fun y'=>hz' (aG _ y')) ex t hT
  ·exact qS (ay _ y) hz'
 ·have old:∀ t∈S,π (mI sp t)=π (e8 sp t):=fun t hT=>hπ t (aG _ hT)
  have new:π (e8 sp s)=π x:=by rw [←hπ s (by simp),h3]
  have one:∀ a:Int,(a∈A++[e8 sp s]∨a=x)→π a=π x:=fun a ha=>by
   rcases ha with ha | ha
   ·rcases aK.mp ha with z | z
    ·exact h.con π old a x (.inl z) (.inr rfl)
    ·rw [ax.mp z,new]
   ·rw [ha]
  exact fun a c ha hc=>(one a ha).trans (one c hc).symm
theorem SI.has {x:Int}{s:Stp}(P:Pots sp tk)(ne:∀ i∈tk,(sAt sp i).s≠(sAt sp i).g)(h:SI m sp tk (· =x) R A S)(hs:s∈dt sp tk x)(hn:e8 sp s∈R):s.i∈S.map Stp.i:=by
 obtain ⟨⟨h1,h2⟩,h3⟩:=nX hs;have lt:=P.nodup.2 _ h1;obtain ⟨f1,f2,f3,f4⟩:=qK lt;have hne:=ne _ h1;obtain ⟨i,d⟩:=s;have h2:d=1∨d= -1:=h2;show i∈_;have h1:i∈tk:=h1;have f1:mI sp ⟨i,1⟩=(sAt sp i).s:=f1;have f2:e8 sp ⟨i,1⟩=(sAt sp i).g:=f2;have f3:mI sp ⟨i,-1⟩=(sAt sp i).g:=f3;have f4:e8 sp ⟨i,-1⟩=(sAt sp i).s:=f4;have hne:(sAt sp i).s≠(sAt sp i).g:=hne
 by_cases c:e8 sp ⟨i,d⟩∈A
 ·refine eE fun no=>?_
  obtain ⟨π,hπ⟩:=P.pot fun k=>if k=i then 1 else 0
  have e:=h.con π (fun t hT=>by
   obtain ⟨t1,t2,_⟩:=h.inn t hT;have e:=hπ _ t1;rw [qQ (fun z=>no (aW.mpr ⟨t,hT,z⟩))] at e;obtain ⟨g1,g2,g3,g4⟩:=qK (P.nodup.2 _ t1);obtain ⟨j,dj⟩:=t;have t2:dj=1∨dj= -1:=t2
   dsimp only at e g1 g2 g3 g4
   rcases t2 with rfl | rfl
   ·rw [g1,g2];lia
   ·rw [g3,g4];lia) _ x (.inl c) (.inr rfl)
  have y:=hπ i h1;rw [qR rfl] at y;rw [←h3] at e
  rcases h2 with rfl | rfl
  ·rw [f1,f2] at e
   dsimp only at e y
   lia
  ·rw [f3,f4] at e
   dsimp only at e y
   lia
 ·rcases h2 with rfl | rfl
  ·rw [f2] at hn c
   exact h.clo _ hn c (fun z=>hne (by rw [←f1,h3];exact z.symm)) ⟨i,-1⟩ (o6 h1 (.inr rfl) f3)
  ·rw [f4] at hn c
   exact h.clo _ hn c (fun z=>hne (by rw [←f3,h3];exact z)) ⟨i,1⟩ (o6 h1 (.inl rfl) f1)
theorem SI.done {x:Int}(h:SI m sp tk (· =x) R A S)(a:∀ s∈dt sp tk x,s.i∈S.map Stp.i):SI m sp tk exN R A S:=by
 refine ⟨h.rng,h.nd,h.ahd,h.inn,h.spr,h.len,fun z hz hn _=>?_,fun π hπ a c ha hc=>h.con π hπ a c (.inl (ha.elim id cf)) (.inl (hc.elim id cf))⟩
 by_cases e:z=x
 ·rw [e];exact a
 ·exact h.clo z hz hn e
theorem SI.few (h:SI m sp tk exN R A S):R.length≤m:=by
 have:=lP (k:=(aQ m).map fun i:Nat=>(i:Int)) h.nd fun x hx=>by
  obtain ⟨a,b⟩:=h.rng x hx;exact aW.mpr ⟨x.toNat,bY.mpr (by lia),by lia⟩
 rwa [ae,bo] at this
theorem SI.fewX {x:Int}(h:SI m sp tk (· =x) R A S):R.length≤m:=by
 have:=lP (k:=(aQ m).map fun i:Nat=>(i:Int)) h.nd fun x hx=>by
  obtain ⟨a,b⟩:=h.rng x hx;exact aW.mpr ⟨x.toNat,bY.mpr (by lia),by lia⟩
 rwa [ae,bo] at this
end
structure SprOk (m:Nat)(sp:List Sn)(tk:List Nat)(S:List Stp):Prop where
 spr:Spr sp S
 inn:∀ s∈S,s.i∈tk∧(s.d=1∨s.d= -1)
 all:∀ i∈tk,i∈S.map Stp.i
 len:S.length≤m
theorem SI.ok {R:List Int}(E:kO m sp)(ht:∀ i∈tk,i<sp.length)(h:SI m sp tk exN R [] S)(a:∀ x:Nat,x<m→(x:Int)∈R):SprOk m sp tk S:=by
 refine ⟨h.spr,fun s hs=>⟨(h.inn s hs).1,(h.inn s hs).2.1⟩,fun i hi=>?_,aS h.len h.few⟩;obtain ⟨s0,s1,_,_⟩:=E _ (dQ (ht i hi));obtain ⟨f1,_⟩:=qK (ht i hi);have:=a (sAt sp i).s.toNat (by lia);rw [show (((sAt sp i).s.toNat:Nat):Int)=(sAt sp i).s by lia] at this;exact h.clo _ this (by simp) id ⟨i,1⟩ (o6 hi (.inl rfl) f1)
def setT (sp:List Sn)(y:Nat→Int)(ts:List Int)(s:Stp):List Int:=ts.set (e8 sp s).toNat (tm ts (mI sp s)+s.d * y s.i)
def j6 (sp:List Sn)(y:Nat→Int)(m:Nat)(S:List Stp):List Int:=S.foldl (setT sp y) (bC m 0)
theorem mh {sp:List Sn}{y:Nat→Int}{m:Nat}:∀ (S:List Stp) (ts:List Int),(S.foldl (setT sp y) ts).length=ts.length
 | [],_=>rfl
 | s::S,ts=>by
  rw [bG,mh (m:=m) S];exact gP
theorem tm_set {x v:Int}(x0:0≤x)(x1:x<ts.length)(z0:0≤z):tm (ts.set x.toNat v) z=if z=x then v else tm ts z:=by
 unfold tm;rw [ah,ah]
 by_cases e:z=x
 ·rw [qR e,e,cT (by lia)];rfl
 ·rw [qQ e,cS (by lia)]
theorem tooS_sAt0 {s:Stp}(h:s.i<sp.length):too (sAt sp s.i) s.d=e8 sp s∧frm (sAt sp s.i) s.d=mI sp s:=by
 have e:sAt sp s.i=sp[s.i]:=by unfold sAt;rw [ah,gE h];rfl
 rw [e];exact ⟨(kU h).symm,(mV h).symm⟩
theorem timesS_ok {y:Nat→Int}(E:kO m sp)(h:Spr sp S):(∀ s∈S,s.i<sp.length)→∀ s∈S,tm (j6 sp y m S) (e8 sp s)=tm (j6 sp y m S) (mI sp s)+s.d * y s.i:=by
 induction h with
 | nil=>exact fun _ s hs=>by cases hs
 | snoc h n o ih =>
  rename_i S s;intro hl t ht;have hl':∀ t∈S,t.i<sp.length:=fun t h'=>hl t (aG _ h')
  have frm_rng:∀ t:Stp,t.i<sp.length→0≤mI sp t:=fun t h'=>by
   have e:=(tooS_sAt0 h').2;obtain ⟨a,b,c,d⟩:=E _ (dQ h');rw [←e];unfold frm;split <;> lia
  have e:j6 sp y m (S++[s])=setT sp y (j6 sp y m S) s:=by unfold j6;rw [cQ];rfl
  have hs:s.i<sp.length:=hl s (by simp);obtain ⟨x0,x1⟩:=mf E hs;have len:(j6 sp y m S).length=m:=by unfold j6;rw [mh (m:=m),gY]
  rw [e];unfold setT
  rcases aK.mp ht with z | z
  ·rw [tm_set x0 (by lia) (mf E (hl' t z)).1,tm_set x0 (by lia) (frm_rng t (hl' t z)),qQ (fun q=>(o t z).1 q.symm),qQ (fun q=>(o t z).2 q.symm)]
   exact ih hl' t z
  ·rw [ax.mp z,tm_set x0 (by lia) x0,tm_set x0 (by lia) (frm_rng s hs),qR rfl,qQ (fun q=>n q.symm)]
theorem SprOk.pot (E:kO m sp)(ht:∀ i∈tk,i<sp.length)(h:SprOk m sp tk S)(y:Nat→Int):∀ i∈tk,tm (j6 sp y m S) (sAt sp i).g - tm (j6 sp y m S) (sAt sp i).s=y i:=fun i hi=>by
 obtain ⟨s,hs,rfl⟩:=aW.mp (h.all i hi);have e:=timesS_ok (y:=y) E h.spr (fun t hT=>ht _ (h.inn t hT).1) s hs;obtain ⟨f1,f2,f3,f4⟩:=qK (ht _ hi);have hd:=(h.inn s hs).2;obtain ⟨i,d⟩:=s
 dsimp only at e f1 f2 f3 f4 hd ⊢
 rcases hd with rfl | rfl
 ·rw [f1,f2] at e;lia
 ·rw [f3,f4] at e;lia
def lowB (bs:List (Int×Int))(k:Nat):Int:=(bs.getD k (0,0)).1
def tabOf (b:Int)(sp:List Sn)(bs:List (Int×Int))(m:Nat)(S:List Stp):List Int:=(j6 sp (lowB bs) m S).map (· % b)
abbrev Cse:=List (Int×Int)×List (Nat×List Stp)
def wdB (bs:List (Int×Int))(k:Nat):Nat:=((bs.getD k (0,0)).2 - (bs.getD k (0,0)).1+1).toNat
def prdN:List Nat→Nat
 | []=>1
 | x::l=>x * prdN l
def e7 (bs:List (Int×Int))(l:List Nat):Nat:=prdN (l.map (wdB bs))
theorem nE {f g:Nat→Nat}:∀ (l:List Nat),(∀ j∈l,f j=g j)→prdN (l.map f)=prdN (l.map g)
 | [],_=>rfl
 | j::l,h=>by
  show f j * _=g j * _;rw [h j (by simp),nE l fun i hi=>h i (aw _ hi)]
theorem qA {f g h:Nat→Nat}{k:Nat}(e:f k=g k+h k):∀ (l:List Nat),l.Nodup→k∈l→(∀ j∈l,j≠k→f j=g j∧f j=h j)→prdN (l.map f)=prdN (l.map g)+prdN (l.map h)
 | [],_,hk,_=>qS hk (by simp)
 | j::l,nd,hk,hh=>by
  rw [bF] at nd;show f j * _=g j * _+h j * _
  by_cases c:j=k
  ·subst c
   have ne:∀ i∈l,i≠j:=fun i hi z=>nd.1 (z ▸ hi)
   rw [←nE (f:=f) (g:=g) l fun i hi=>(hh i (aw _ hi) (ne i hi)).1,←nE (f:=f) (g:=h) l fun i hi=>(hh i (aw _ hi) (ne i hi)).2,e,Nat.add_mul]
  ·obtain ⟨a1,a2⟩:=hh j (by simp) c
   rw [qA e l nd.2 ((aB.mp hk).resolve_left fun z=>c z.symm) fun i hi=>hh i (aw _ hi),Nat.mul_add,←a1,←a2]
theorem prdN_pos {f:Nat→Nat}:∀ (l:List Nat),(∀ j∈l,0<f j)→0<prdN (l.map f)
 | [],_=>Nat.one_pos
 | j::l,h=>Nat.mul_pos (h j (by simp)) (prdN_pos l fun i hi=>h i (aw _ hi))
theorem iY {bs:List (Int×Int)}(O:OB sp l bs)(hl:∀ k∈l,k<sp.length):0<e7 bs l:=prdN_pos l fun j hj=>by
 have:=O.lo j (hl j hj);unfold wdB;lia
theorem mP {bs:List (Int×Int)}{k:Nat}{a:Int}(O:OB sp l bs)(nd:l.Nodup)(hl:∀ k∈l,k<sp.length)(hk:k∈l)(h1:(bs.getD k (0,0)).1≤a)(h2:a<(bs.getD k (0,0)).2):e7 bs l=e7 (lV bs k a) l+e7 (eV bs k a) l:=by
 have hb:=O.len;have hkl:=hl k hk;refine qA ?_ l nd hk fun j hj hn=>?_
 ·unfold wdB lV eV
  rw [iD (by lia),iD (by lia),qR rfl,qR rfl];show _=(a - _+1).toNat+(_ - (a+1)+1).toNat;lia
 ·have hjl:=hl j hj
  unfold wdB lV eV;rw [iD (by lia),iD (by lia),qQ (bX hn),qQ (bX hn)];exact ⟨rfl,rfl⟩
theorem lh {sp:List Sn}:∀ (l:List Nat),(∀ k∈l,k<sp.length)→(∀ x∈sp,x.l≤x.o)→((e7 (sp.map fun x=>(x.l,x.o)) l:Nat):Int)=jJ sp l
 | [],_,_=>rfl
 | k::l,h,p=>by
  have ih:=lh l (fun j hj=>h j (aw _ hj)) p;rw [fW,←ih];show ((wdB _ k * e7 _ l:Nat):Int)=_;have hk:=h k (by simp);have e:(sp.map fun x=>(x.l,x.o)).getD k (0,0)=((sAt sp k).l,(sAt sp k).o):=by rw [ah,az,jh hk];rfl
  have q:=p _ (dQ hk);have e2:((wdB (sp.map fun x=>(x.l,x.o)) k:Nat):Int)=(wkey sp k).1+1:=by
   unfold wdB;rw [e];show (((sAt sp k).o - (sAt sp k).l+1).toNat:Int)=(sAt sp k).o - (sAt sp k).l+1;lia
  rw [←e2];exact Int.natCast_mul _ _
structure jj (b:Int)(sp:List Sn)(l:List Nat)(rg:List (Nat×List Stp))(c:Cse):Prop where
 ob:OB sp l c.1
 sub:∀ q∈c.2,q∈rg
 few:c.2.length≤40
 alive:∀ q∈rg,q ∉ c.2→jD b c.1 q.2=false
theorem low_set {bs:List (Int×Int)}{k:Nat}{x:Int×Int}:∀ (ws:List Stp),k ∉ ws.map Stp.i→fe (bs.set k x) ws=fe bs ws∧iq (bs.set k x) ws=iq bs ws
 | [],_=>⟨rfl,rfl⟩
 | s::ws,h=>by
  obtain ⟨i1,i2⟩:=low_set (x:=x) ws fun z=>h (aw _ z)
  have hs:k≠s.i:=fun z=>h (by rw [z];simp)
  have e:(bs.set k x)[s.i]? =bs[s.i]? := cS hs
  constructor
  ·show qJ _ s+fe _ ws=qJ _ s+fe _ ws
   rw [i1];congr 1;unfold qJ;rw [e]
  ·show l4 _ s+iq _ ws=l4 _ s+iq _ ws
   rw [i2];congr 1;unfold l4;rw [e]
theorem dead_set {bs:List (Int×Int)}{k:Nat}{x:Int×Int}{q:Nat×List Stp}(h:iw k q=false):jD b (bs.set k x) q.2=jD b bs q.2:=by
 obtain ⟨a1,a2⟩:=low_set (bs:=bs) (x:=x) q.2 (of_decide_eq_false h);unfold jD;rw [a1,a2]
theorem jj.cut {rg:List (Nat×List Stp)}{c:Cse}(C:jj b sp l rg c)(lrg:rg.length≤40)(hl:∀ k∈l,k<sp.length)(al:∀ q∈c.2,jD b c.1 q.2=false){k:Nat}{a:Int}(hk:k∈l)(h1:(c.1.getD k (0,0)).1≤a)(h2:a<(c.1.getD k (0,0)).2) :
  jj b sp l rg (eV c.1 k a,rg.filter (iw k))∧jj b sp l rg (lV c.1 k a,rg.filter (iw k)):=by
 have sub:∀ q∈rg.filter (iw k),q∈rg:=fun q hq=>(cb.mp hq).1
 have few:(rg.filter (iw k)).length≤40:=aS (eQ _ _) lrg;have all:∀ q∈rg,jD b c.1 q.2=false:=fun q hq=>by
  by_cases z:q∈c.2
  ·exact al q z
  ·exact C.alive q hq z
 have out:∀ q∈rg,q ∉ rg.filter (iw k)→iw k q=false:=fun q hq hn=>jy.mpr fun z=>hn (cb.mpr ⟨hq,z⟩)
 exact ⟨⟨C.ob.other hk (hl k hk) h1 h2,sub,few,fun q hq hn=>(dead_set (out q hq hn)).trans (all q hq)⟩,⟨C.ob.one hk (hl k hk) h1 h2,sub,few,fun q hq hn=>(dead_set (out q hq hn)).trans (all q hq)⟩⟩
theorem dead_none {bs:List (Int×Int)}{ws:List Stp}(hb:0<b)(hl:bs.length=sp.length)(h:InB (iI b ts sp) bs)(hr:Rg sp ws):jD b bs ws=false:=by
 obtain ⟨Z,_,z1,z2⟩:=ring_in hb hl h hr;unfold jD;exact qU (by lia)
theorem key_pot {m:Int}{rg:List (Nat×List Stp)}{bs:List (Int×Int)}(N:kd b m sp)(f:FF m sp tk rg)(O:OB sp tk bs)(x:Fx b tk rg bs){π:Int→Int}(hπ:∀ i∈tk,π (sAt sp i).g - π (sAt sp i).s=(bs.getD i (0,0)).1)
  (eW:∀ k,k<sp.length→fT b ts (sAt sp k)=(π (sAt sp k).g - π (sAt sp k).s - (sAt sp k).l) % b):∀ k,k<sp.length→(bs.getD k (0,0)).1≤iI b ts sp k∧iI b ts sp k≤(bs.getD k (0,0)).2:=fun k hk=>by
 have hb:0<b:=by have:=N.b1;lia
 obtain ⟨ht1,ht2⟩:=f.acy.nodup;have s:=N.all _ (dQ hk);have lo:=O.lo k hk;have lay:iI b ts sp k=(sAt sp k).l+fT b ts (sAt sp k):=by unfold iI;rw [jh hk]
 rw [lay];have fin:∀ Y,fT b ts (sAt sp k)=Y - (sAt sp k).l→(bs.getD k (0,0)).1≤Y→Y≤(bs.getD k (0,0)).2→(bs.getD k (0,0)).1≤(sAt sp k).l+fT b ts (sAt sp k)∧(sAt sp k).l+fT b ts (sAt sp k)≤(bs.getD k (0,0)).2:=fun Y e y1 y2=>by lia
 by_cases c:k∈tk
 ·have e:=hπ k c
  have fx:=x.fix k c;refine fin (bs.getD k (0,0)).1 ?_ (fH _) (by lia);rw [eW k hk,show π (sAt sp k).g - π (sAt sp k).s - (sAt sp k).l=(bs.getD k (0,0)).1 - b * 0 - (sAt sp k).l by rw [fZ];lia];exact rest_in lo.1 (by have:=s.ob;lia)
 ·obtain ⟨r,hr⟩:=f.all k hk c
  have K:=f.rk _ hr;obtain ⟨p,e,P,e1,e2⟩:=o4 K O x.fix;have al:=x.alive _ hr;have al:¬ (upB b (fe bs r) > iq bs r / b):=by unfold jD at al;simpa using al
  obtain ⟨_,z1,z2⟩:=beat_one hb (lo:=fe bs r) (hi:=iq bs r) (by lia) (by
   have e1:fe bs r=_:=e1;have e2:iq bs r=_:=e2;have:=s.ob;rw [e1,e2];show (sAt sp k).o+_ - ((sAt sp k).l+_)<b;lia)
  have ea:=alg_pot ht2 hπ p _ _ (fun s hs=>⟨(P.inn s hs).1,(P.inn s hs).2.2⟩) P.alo;have e1:fe bs r=(sAt sp k).l+alg (fun k=>(bs.getD k (0,0)).1) p:=e1;have e2:iq bs r=(sAt sp k).o+alg (fun k=>(bs.getD k (0,0)).1) p:=e2;have ea:alg (fun k=>(bs.getD k (0,0)).1) p=π (sAt sp k).s - π (sAt sp k).g:=ea;have eo:=O.out k hk c;rw [eo] at fin ⊢;refine fin (b * upB b (fe bs r) - alg (fun k=>(bs.getD k (0,0)).1) p) ?_ (by show (sAt sp k).l≤_;lia) (by show _≤(sAt sp k).o;lia);rw [eW k hk];have hs:=s.ob;have:=rest_in (b:=b) (Y:=b * upB b (fe bs r) - alg (fun k=>(bs.getD k (0,0)).1) p) (l:=(sAt sp k).l) (Z:=upB b (fe bs r)) (by lia) (by lia);rw [←this];congr 1;lia
theorem fits_lay {m:Int}(h:∀ k,k<sp.length→iI b ts sp k≤(sAt sp k).o):ki b ts sp=true:=by
 unfold ki;rw [hW,jx];intro s hs;obtain ⟨k,hk,rfl⟩:=iR hs;have eA:sAt sp k=sp[k]:=by unfold sAt;rw [ah,gE hk];rfl
 have:=h k hk;have lay:iI b ts sp k=(sAt sp k).l+fT b ts (sAt sp k):=by unfold iI;rw [jh hk]
 rw [lay,eA] at this;unfold brk;rw [qU (by lia)];exact aO
structure Kp (H H':Hp):Prop where
 tup:lH H H'
 lst:∀ q xs,H q=some (.lst xs)→H' q=some (.lst xs)
 frz:∀ q o xs,H q=some (.frz o (.lst xs))→H' q=some (.frz o (.lst xs))
theorem bJ.kp (e:bJ H H'):Kp H H':=⟨fun _ _ h=>e _ _ h,fun _ _ h=>e _ _ h,fun _ _ _ h=>e _ _ h⟩
theorem Kp.trans (a:Kp H H1)(b:Kp H1 H2):Kp H H2:=⟨fun _ _ h=>b.tup _ _ (a.tup _ _ h),fun _ _ h=>b.lst _ _ (a.lst _ _ h),fun _ _ _ h=>b.frz _ _ _ (a.frz _ _ _ h)⟩
theorem Tb.kp (h:L2.LamT T lp lq H)(e:L2.Tb T H H'):Kp H H':=by
 obtain ⟨ps,hT⟩:=LamT.tbl h;exact ⟨fun q _ h=>e q _ (d7 h hT nofun) h,fun q _ h=>e q _ (d7 h hT nofun) h,fun q _ _ h=>e q _ (d7 h hT nofun) h⟩
theorem Kp.upd {x:ai}{fs:List (Str×V)}(h:H x=some (.ins C dx fs)):Kp H (upd H x o) :=
 ⟨fun q _ hq=>by rw [bc (d7 hq h nofun)];exact hq,fun q _ hq=>by rw [bc (d7 hq h nofun)];exact hq,fun q _ _ hq=>by rw [bc (d7 hq h nofun)];exact hq⟩
theorem LamT.ntb {U:ai}{lp':Pos}{lq':Str}(h:L2.LamT T lp lq H)(hU:L2.LamT U lp' lq' H)(ne:T≠U)(e:L2.Tb U H H'):L2.LamT T lp lq H':=by
 obtain ⟨ps,hT⟩:=LamT.tbl hU
 rcases h with h | ⟨c,h,oc,vs,t,e1,r⟩
 ·exact .inl (e _ _ ne h)
 ·exact .inr ⟨c,e _ _ ne h,oc,vs,t,e _ _ (d7 e1 hT nofun) e1,r⟩
theorem mr {x:ai}{fs:List (Str×V)}(h:L2.LamT T lp lq H)(hx:H x=some (.ins C dx fs)):L2.LamT T lp lq (L2.upd H x o):=LamT.upd h (fun p u z=>by rw [hx] at z;cases z) (fun ps z=>by rw [hx] at z;cases z)
theorem wayQ_kp {rl:List V}(e:Kp H H')(h:dM H rl (rs.map wayQ)):dM H' rl (rs.map wayQ):=dM.keepP e.tup h (lx rs fun q _=>mQ _ _)
theorem CsD.kp {c:ai}{bs:List (Int×Int)}(a:CsD H c bs rs)(e:Kp H H'):CsD H' c bs rs:=by
 obtain ⟨vb,u,rl,h1,h2,h3,h4⟩:=a.ex;exact ⟨vb,u,rl,e.tup _ _ h1,IsD.keepP e.tup h2 (mQ _ _),e.lst _ _ h3,wayQ_kp e h4⟩
structure TchD (H:Hp)(tl:ai)(n:Nat)(rg:List (Nat×List Stp)):Prop where
 ex:∃ tv,H tl=some (.lst tv)∧tv.length=n∧∀ k,k<n→∃ u rl,tv[k]? =some (.ref u)∧H u=some (.lst rl)∧dM H rl ((rg.filter (iw k)).map wayQ)
theorem TchD.kp {tl:ai}{rg:List (Nat×List Stp)}(a:TchD H tl n rg)(e:Kp H H'):TchD H' tl n rg:=by
 obtain ⟨tv,h1,h2,h3⟩:=a.ex;refine ⟨tv,e.lst _ _ h1,h2,fun k hk=>?_⟩;obtain ⟨u,rl,a1,a2,a3⟩:=h3 k hk;exact ⟨u,rl,a1,e.lst _ _ a2,wayQ_kp e a3⟩
structure CutD (H:Hp)(C x:ai)(sp:List Sn)(l:List Nat)(rg:List (Nat×List Stp)):Prop where
 ex:∃ (dx c0 tl ol:ai) (ord:List Nat),H x=some (.ins C dx [("first_case",.ref c0),("touched",.ref tl),("order",.ref ol)])∧CsD H c0 (sp.map fun z=>(z.l,z.o)) rg∧TchD H tl sp.length rg∧H ol=some (.lst (ord.map fun (i:Nat)=>V.int i))∧ord.Perm l
theorem CutD.same {x:ai}{rg:List (Nat×List Stp)}(a:CutD H C x sp l rg)(e:bJ H H'):CutD H' C x sp l rg:=by
 obtain ⟨dx,c0,tl,ol,ord,h1,h2,h3,h4,h5⟩:=a.ex;exact ⟨dx,c0,tl,ol,ord,e _ _ h1,h2.same e,h3.kp (bJ.kp e),e _ _ h4,h5⟩
structure CsE (Hb H:Hp)(c:ai)(bs:List (Int×Int))(rs:List (Nat×List Stp)):Prop where
 ex:∃ vb u rl,H c=some (.tup [vb,.ref u])∧IsD H vb (bndP bs)∧Hb u=some (.lst rl)∧dM Hb rl (rs.map wayQ)
theorem CsE.dn {Hb:Hp}{c:ai}{bs:List (Int×Int)}(a:CsE Hb H c bs rs)(e:bJ Hb H):CsD H c bs rs:=by
 obtain ⟨vb,u,rl,h1,h2,h3,h4⟩:=a.ex;exact ⟨vb,u,rl,h1,h2,e _ _ h3,h4.same e⟩
theorem CsE.keep {Hb:Hp}{c:ai}{bs:List (Int×Int)}(a:CsE Hb H c bs rs)(e:lH H H'):CsE Hb H' c bs rs:=by
 obtain ⟨vb,u,rl,h1,h2,h3,h4⟩:=a.ex;exact ⟨vb,u,rl,e _ _ h1,IsD.keepP e h2 (mQ _ _),h3,h4⟩
inductive spInitC (T0:ai)(p0:Pos)(q0:Str)(T1:ai)(p1:Pos)(q1:Str)(C:ai)(vs:List V)(H:Hp)(Q:VK)(_:XK):Prop
 | mk (x dx:ai)(v:V)(b m:Int)(sp:List Sn)(_:vs=[.ref x,v])(_:H x=some (.ins C dx []))(_:IsD H v (lM b m sp))(_:kd b m sp)(_:L2.LamT T0 p0 q0 H)(_:L2.LamT T1 p1 q1 H)(_:∀ (l:List Nat) (rg:List (Nat×List Stp)) (H':Hp),(∀ a o,a≠T0→a≠T1→a≠x→H a=some o→H' a=some o)→Kp H H'→L2.LamT T0 p0 q0 H'→L2.LamT T1 p1 q1 H'→FR m sp l rg→CutD H' C x sp l rg→Q .non H')
inductive spSpanC (C:ai)(vs:List V)(H:Hp)(Q:VK)(_:XK):Prop
 | mk (x c:ai)(sp:List Sn)(l:List Nat)(rg rs:List (Nat×List Stp))(bs:List (Int×Int))(_:vs=[.ref x,.ref c])(_:CutD H C x sp l rg)(_:CsD H c bs rs)(_:(∀ k∈l,k<bs.length))(_:l.length≤40)(_:((∀ k∈l,¬ ((bs.getD k (0,0)).1<(bs.getD k (0,0)).2))→Q .non H))(_:∀ k∈l,(bs.getD k (0,0)).1<(bs.getD k (0,0)).2→Q (.int (k:Nat)) H)
inductive spSidesC (C:ai)(vs:List V)(H:Hp)(Q:VK)(_:XK):Prop
 | mk (Hb:Hp)(x c:ai)(k:Nat)(a:Int)(sp:List Sn)(l:List Nat)(rg rs:List (Nat×List Stp))(bs:List (Int×Int))(_:vs=[.ref x,.ref c,.int (k:Nat),.int a])(_:bJ Hb H)(_:CutD Hb C x sp l rg)(_:CsD H c bs rs)(_:k<bs.length)(_:bs.length=sp.length)(_:bs.length≤40)(_:∀ (L q1 q2:ai) (H':Hp),bJ H H'→H L=none→H' L=some (.lst [.ref q1,.ref q2])→CsE Hb H' q1 (eV bs k a) (rg.filter (iw k))→CsE Hb H' q2 (lV bs k a) (rg.filter (iw k))→Q (.ref L) H')
theorem ord_perm (h:π.Perm (aQ l.length)):(π.map fun i=>l.getD i 0).Perm l:=by
 have e:(aQ l.length).map (fun i=>l.getD i 0)=l:=by
  refine List.ext_getElem (by rw [ae,bo]) fun i h1 h2=>?_
  rw [jM,kF,ah,gE h2];rfl
 have:=h.map (fun i=>l.getD i 0)
 rwa [e] at this
theorem tm_mod {x:Int}:tm (ts.map (· % b)) x=tm ts x % b:=by
 unfold tm;rw [ah,ah,az];cases ts[x.toNat]? with
 | none=>exact (Int.zero_emod b).symm
 | some y=>rfl
def TabOk (b m:Int)(sp:List Sn)(t:List Int):Prop:=t.length=m.toNat∧(∀ x∈t,0≤x∧x<b)∧ki b t sp=true
theorem tab_ok {m:Int}{rg:List (Nat×List Stp)}{bs:List (Int×Int)}(N:kd b m sp)(f:FF m sp l rg)(O:OB sp l bs)(x:Fx b l rg bs)(h:SprOk m.toNat sp l S) :
  TabOk b m sp (tabOf b sp bs m.toNat S)∧∀ k,k<sp.length→(bs.getD k (0,0)).1≤iI b (tabOf b sp bs m.toNat S) sp k∧iI b (tabOf b sp bs m.toNat S) sp k≤(bs.getD k (0,0)).2:=by
 have hb:0<b:=by have:=N.b1;lia
 have ht2:=f.acy.nodup.2;have key:=key_pot N f O x (ts:=tabOf b sp bs m.toNat S) (π:=tm (j6 sp (lowB bs) m.toNat S)) (fun i hi=>h.pot N.ends ht2 (lowB bs) i hi) fun k hk=>by
  unfold fT tabOf;rw [tm_mod,tm_mod,rest_two]
 refine ⟨⟨?_,fun y hy=>?_,fits_lay (m:=m) fun k hk=>?_⟩,key⟩
 ·unfold tabOf j6
  rw [ae,mh (m:=0),gY]
 ·obtain ⟨z,_,rfl⟩:=aW.mp hy
  exact ⟨dX _ (by lia),dA _ hb⟩
 ·have:=key k hk
  have:=(O.lo k hk).2.2;lia
def psC (l:List Nat):List Cse→Nat
 | []=>0
 | c::cs=>e7 c.1 l+psC l cs
theorem pO (l:List Nat):∀ (cs ds:List Cse),psC l (cs++ds)=psC l cs+psC l ds
 | [],ds=>(Nat.zero_add _).symm
 | c::cs,ds=>by
  show _+psC l (cs++ds)=_+psC l cs+psC l ds;rw [pO l cs ds];lia
structure SrcI (b m:Int)(sp:List Sn)(l:List Nat)(rg:List (Nat×List Stp))(cs:List Cse)(Ts:List (List Int)):Prop where
 ok:∀ c∈cs,jj b sp l rg c
 tabs:∀ t∈Ts,TabOk b m sp t
 hold:∀ T,ki b T sp=true→(∃ t∈Ts,∀ k∈l,iI b t sp k=iI b T sp k)∨∃ c∈cs,InB (iI b T sp) c.1
 cnt:Ts.length+psC l cs≤e7 (sp.map fun x=>(x.l,x.o)) l
def szC (l:List Nat):List Cse→Nat
 | []=>0
 | c::cs=>(2 * e7 c.1 l - 1)+szC l cs
theorem mK (l:List Nat):∀ (cs ds:List Cse),szC l (cs++ds)=szC l cs+szC l ds
 | [],ds=>(Nat.zero_add _).symm
 | c::cs,ds=>by
  show _+szC l (cs++ds)=_+szC l cs+szC l ds;rw [mK l cs ds];lia
section
variable {m:Int}{rg:List (Nat×List Stp)}{cs:List Cse}{Ts:List (List Int)}{c:Cse}
theorem szC_len (hl:∀ k∈l,k<sp.length):∀ (cs:List Cse),(∀ c∈cs,jj b sp l rg c)→cs.length≤szC l cs
 | [],_=>aA _
 | c::cs,h=>by
  have ih:=szC_len hl cs fun d hd=>h d (aw _ hd)
  have:=iY (h c (by simp)).ob hl;show cs.length+1≤2 * e7 c.1 l - 1+szC l cs;lia
theorem SrcI.start (N:kd b m sp)(hl:rg.length≤40):SrcI b m sp l rg [(sp.map fun x=>(x.l,x.o),rg)] []:=by
 have hb:0<b:=by have:=N.b1;lia
 refine ⟨fun c hc=>?_,fun t h=>qS h (by simp),fun T hT=> .inr ⟨_,ax.mpr rfl,lay_in hb hT⟩,by show 0+(e7 (sp.map fun x=>(x.l,x.o)) l+0)≤_;lia⟩;rw [ax.mp hc];exact ⟨OB.first N l,fun q hq=>hq,hl,fun q hq hn=>qS hq hn⟩
theorem SrcI.dead (N:kd b m sp)(f:FF m sp l rg)(I:SrcI b m sp l rg (cs++[c]) Ts){q:Nat×List Stp}(hq:q∈c.2)(hd:jD b c.1 q.2=true):SrcI b m sp l rg cs Ts:=by
 have hb:0<b:=by have:=N.b1;lia
 have C:=I.ok c (by simp);refine ⟨fun d hd=>I.ok d (aG _ hd),I.tabs,fun T hT=>?_,by have:=I.cnt;rw [pO] at this;lia⟩
 rcases I.hold T hT with h | ⟨d,h1,h2⟩
 ·exact .inl h
 ·rcases aK.mp h1 with z | z
  ·exact .inr ⟨d,z,h2⟩
  ·rw [ax.mp z] at h2
   have:=f.few;have m2:=N.m2;rw [dead_none hb C.ob.len h2 ((f.rk q (C.sub q hq)).rg N (by lia))] at hd;cases hd
theorem jj.all (C:jj b sp l rg c)(al:∀ q∈c.2,jD b c.1 q.2=false):∀ q∈rg,jD b c.1 q.2=false:=fun q hq=>by
 by_cases z:q∈c.2
 ·exact al q z
 ·exact C.alive q hq z
theorem SrcI.leaf (N:kd b m sp)(f:FF m sp l rg)(h:SprOk m.toNat sp l S)(I:SrcI b m sp l rg (cs++[c]) Ts)(al:∀ q∈c.2,jD b c.1 q.2=false)(fx:∀ k∈l,¬ ((c.1.getD k (0,0)).1<(c.1.getD k (0,0)).2)):SrcI b m sp l rg cs (Ts++[tabOf b sp c.1 m.toNat S]):=by
 have C:=I.ok c (by simp);have ht2:=f.acy.nodup.2;have fix:∀ k∈l,(c.1.getD k (0,0)).1=(c.1.getD k (0,0)).2:=fun k hk=>by
  have:=(C.ob.lo k (ht2 k hk)).2.1;have:=fx k hk;lia
 obtain ⟨t1,t2⟩:=tab_ok N f C.ob ⟨fix,C.all al⟩ h;have pc:=iY C.ob ht2;refine ⟨fun d hd=>I.ok d (aG _ hd),fun t ht=>?_,fun T hT=>?_,by have:=I.cnt;rw [pO] at this;have e:psC l [c]=e7 c.1 l+0:=rfl;rw [au];show Ts.length+1+_≤_;lia⟩
 ·rcases aK.mp ht with z | z
  ·exact I.tabs t z
  ·rw [ax.mp z];exact t1
 ·rcases I.hold T hT with ⟨t,h1,h2⟩ | ⟨d,h1,h2⟩
  ·exact .inl ⟨t,aG _ h1,h2⟩
  ·rcases aK.mp h1 with z | z
   ·exact .inr ⟨d,z,h2⟩
   ·rw [ax.mp z] at h2
    refine .inl ⟨_,ay _ (ax.mpr rfl),fun k hk=>?_⟩;have a1:=t2 k (ht2 k hk);have a2:=h2 k (by rw [C.ob.len];exact ht2 k hk);have a3:=fix k hk;lia
theorem SrcI.cut (N:kd b m sp)(f:FF m sp l rg)(lrg:rg.length≤40)(I:SrcI b m sp l rg (cs++[c]) Ts)(al:∀ q∈c.2,jD b c.1 q.2=false){k:Nat}{a:Int}(hk:k∈l)(h1:(c.1.getD k (0,0)).1≤a)(h2:a<(c.1.getD k (0,0)).2) :
  SrcI b m sp l rg (cs++[(eV c.1 k a,rg.filter (iw k)),(lV c.1 k a,rg.filter (iw k))]) Ts∧szC l (cs++[(eV c.1 k a,rg.filter (iw k)),(lV c.1 k a,rg.filter (iw k))])<szC l (cs++[c]):=by
 have C:=I.ok c (by simp);have ht2:=f.acy.nodup.2;obtain ⟨o1,o2⟩:=C.cut lrg ht2 al hk h1 h2;refine ⟨⟨fun d hd=>?_,I.tabs,fun T hT=>?_,?_⟩,?_⟩
 ·rcases aK.mp hd with z | z
  ·exact I.ok d (aG _ z)
  ·rcases aB.mp z with rfl | z
   ·exact o1
   ·rw [ax.mp z];exact o2
 ·rcases I.hold T hT with h | ⟨d,d1,d2⟩
  ·exact .inl h
  ·rcases aK.mp d1 with z | z
   ·exact .inr ⟨d,aG _ z,d2⟩
   ·rw [ax.mp z] at d2
    by_cases e:iI b T sp k≤a
    ·exact .inr ⟨(lV c.1 k a,rg.filter (iw k)),by simp,inB_one d2 e⟩
    ·exact .inr ⟨(eV c.1 k a,rg.filter (iw k)),by simp,inB_other d2 (by lia)⟩
 ·have h0:=I.cnt
  rw [pO] at h0 ⊢;have e:=mP C.ob f.acy.nodup.1 ht2 hk h1 h2;have e1:psC l [c]=e7 c.1 l+0:=rfl;have e2:psC l [(eV c.1 k a,rg.filter (iw k)),(lV c.1 k a,rg.filter (iw k))]=e7 (eV c.1 k a) l+(e7 (lV c.1 k a) l+0):=rfl;lia
 ·rw [mK,mK]
  show _+((2 * e7 (eV c.1 k a) l - 1)+((2 * e7 (lV c.1 k a) l - 1)+0))<_+((2 * e7 c.1 l - 1)+0);have p1:=iY o1.ob ht2;have p2:=iY o2.ob ht2;have e:=mP C.ob f.acy.nodup.1 ht2 hk h1 h2;have p1:0<e7 (eV c.1 k a) l:=p1;have p2:0<e7 (lV c.1 k a) l:=p2;lia
theorem SrcI.less (f:FF m sp l rg)(I:SrcI b m sp l rg (cs++[c]) Ts):szC l cs<szC l (cs++[c]):=by
 have:=iY (I.ok c (by simp)).ob f.acy.nodup.2;rw [mK];show _<_+((2 * e7 c.1 l - 1)+0);lia
end
def CsL (Hb Hc:Hp):List V→List Cse→Prop:=jU fun v c=>∃ q,v= .ref q∧CsE Hb Hc q c.1 c.2
theorem CsL.keep {Hb Hd:Hp}(e:lH Hc Hd){cs:List Cse}(h:CsL Hb Hc zs cs):CsL Hb Hd zs cs:=L2.Paired.mapP h fun _ _ ⟨q,a,b⟩=>⟨q,a,b.keep e⟩
theorem Paired.app {α β:Type}{R:α→β→Prop}:∀ {xs:List α} {ys:List β} {us:List α} {vs:List β},jU R xs ys→jU R us vs→jU R (xs++us) (ys++vs)
 | _,_,_,_,.nil,h=>h
 | _,_,_,_,.cons r t,h=> .cons r (Paired.app t h)
theorem Paired.len {α β:Type}{R:α→β→Prop}:∀ {xs:List α} {ys:List β},jU R xs ys→xs.length=ys.length
 | _,_,.nil=>rfl
 | _,_,.cons _ t=>qW (· + 1) (Paired.len t)
theorem Paired.snoc_of {α β:Type}{R:α→β→Prop}:∀ {ys:List β} {zs:List α} {y:β},jU R zs (ys++[y])→∃ xs x,zs=xs++[x]∧jU R xs ys∧R x y
 | [],_,_,.cons r .nil=>⟨[],_,rfl,.nil,r⟩
 | _::_,_,_,.cons r t=>by
  obtain ⟨xs,x,rfl,a,b⟩:=Paired.snoc_of t;exact ⟨_::xs,x,rfl,.cons r a,b⟩
inductive spTabF (T0:ai)(p0:Pos)(q0:Str)(T1:ai)(p1:Pos)(q1:Str)(vs:List V)(H:Hp)(Q:VK)(_:XK):Prop
 | mk (v:V)(b m:Int)(sp:List Sn)(most:Nat)(_:vs=[v,.int (most:Nat)])(_:IsD H v (lM b m sp))(_:kd b m sp)(_:most≤4096)(_:(∀ l,iM m.toNat sp l→jJ sp l≤4096))(_:L2.LamT T0 p0 q0 H)(_:L2.LamT T1 p1 q1 H)(_:∀ (L:ai) (tv:List V) (l:List Nat) (rg:List (Nat×List Stp)) (Ts:List (List Int)) (H':Hp),(∀ a o,a≠T0→a≠T1→H a=some o→H' a=some o)→Kp H H'→L2.LamT T0 p0 q0 H'→L2.LamT T1 p1 q1 H'→H' L=some (.lst tv)→dM H' tv (fJ id Ts)→FR m sp l rg→(∀ t∈Ts,TabOk b m sp t)→Ts.length≤most→(Ts.length<most∨most=4096→∀ T,ki b T sp=true→∃ t∈Ts,∀ k∈l,iI b t sp k=iI b T sp k)→Q (.ref L) H')
inductive Mrk where
 | leaf (d:Dt)
 | cut (k:Nat) (a:Int)
def mrkD:Mrk→Dt
 | .leaf d=>d
 | .cut k a=> .tup [.str "cut",.int (k:Nat),.int a]
def pre:Tq→List Mrk
 | .leaf d=>[.leaf d]
 | .cut k a x y=> .cut k a::(pre x++pre y)
def stpT:Option (List Tq)→Mrk→Option (List Tq)
 | some s,.leaf d=>some (.leaf d::s)
 | some (x::y::s),.cut k a=>some (.cut k a x y::s)
 | _,_=>none
theorem stp_none:∀ (l:List Mrk),l.foldl stpT none=none
 | []=>rfl
 | .leaf _::l=>stp_none l
 | .cut _ _::l=>stp_none l
theorem stp_pre:∀ (t:Tq) (s:List Tq),(pre t).reverse.foldl stpT (some s)=some (t::s)
 | .leaf d,s=>rfl
 | .cut k a x y,s=>by
  show (Mrk.cut k a::(pre x++pre y)).reverse.foldl stpT (some s)=_;rw [jv,List.reverse_append,cQ,cQ,stp_pre y,stp_pre x];rfl
theorem stp_at {l:List Mrk}{r:List Tq}(h:l.foldl stpT (some [])=some r){m:Mrk}{s:List Tq}(hm:l[i]? =some m)(hs:(l.take i).foldl stpT (some [])=some s):∃ s',stpT (some s) m=some s'∧(l.take (i+1)).foldl stpT (some [])=some s':=by
 have hi:=(av.mp hm).1;have e:(l.take (i+1)).foldl stpT (some [])=stpT (some s) m:=by
  rw [bj,hm,cQ,hs];rfl
 cases q:stpT (some s) m with
 | some s'=>exact ⟨s',rfl,by rw [e,q]⟩
 | none =>
  exfalso;rw [←List.take_append_drop (i+1) l,cQ,e,q,stp_none] at h;cases h
def LeafW (d:Dt):Prop:=pl d=true∧∃ w x,d= .tup [.str w,x]∧w ≠ "cut"
theorem pl_cut {k:Nat}{a:Int}{x y:Tq}(hx:pl (kT x)=true)(hy:pl (kT y)=true):pl (kT (.cut k a x y))=true:=by
 show pl (.tup [.str "cut",.int (k:Nat),.int a,kT x,kT y])=true;simp [pl,pls,hx,hy]
theorem dM.snocD {H:Hp}:∀ {ds:List Dt} {zs:List V} {d:Dt},dM H zs (ds++[d])→∃ zs' z,zs=zs'++[z]∧dM H zs' ds∧IsD H z d
 | [],_,_,.cons h .nil=>⟨[],_,rfl,.nil,h⟩
 | _::_,_,_,.cons h t=>by
  obtain ⟨zs',z,rfl,a,b⟩:=dM.snocD t;exact ⟨_::zs',z,rfl,.cons h a,b⟩
def GoodT (R:List (Int×Int)→Dt→Prop):Tq→List (Int×Int)→Nat→Prop
 | .leaf d,bs,_=>R bs d
 | .cut _ _ _ _,_,0=>False
 | .cut k a x y,bs,n+1=>k<bs.length∧(bs.getD k (0,0)).1≤a∧a<(bs.getD k (0,0)).2∧GoodT R x (lV bs k a) n∧GoodT R y (eV bs k a) n
def qh (R:List (Int×Int)→Dt→Prop)(l:List Nat)(c:Cse)(t:Tq):Prop:=∀ n,2 ^ n * e7 c.1 l≤3 ^ n→GoodT R t c.1 n
theorem oa {f g:Nat→Nat}{k:Nat}:∀ (l:List Nat),l.Nodup→k∈l→(∀ j∈l,j≠k→f j=g j)→prdN (l.map g) * f k=prdN (l.map f) * g k
 | [],_,hk,_=>qS hk (by simp)
 | j::l,nd,hk,hh=>by
  rw [bF] at nd;show g j * _ * f k=f j * _ * g k
  by_cases c:j=k
  ·subst c
   have ne:∀ i∈l,i≠j:=fun i hi z=>nd.1 (z ▸ hi)
   rw [←nE (f:=f) (g:=g) l fun i hi=>hh i (aw _ hi) (ne i hi),jG (g j),jG (f j),gg,gg,jG (g j)]
  ·rw [hh j (by simp) c,gg,gg,oa l nd.2 ((aB.mp hk).resolve_left fun z=>c z.symm) fun i hi=>hh i (aw _ hi)]
theorem scale_le {F G f g:Nat}(e:G * f=F * g)(h:3 * g≤2 * f)(hf:0<f):3 * G≤2 * F:=by
 have h1:3 * G * f≤2 * F * f:=by
  rw [gg,e,jG F g,←gg,gg 2 F f,jG F f,←gg];exact Nat.mul_le_mul_right F h
 exact Nat.le_of_mul_le_mul_right h1 hf
theorem prodC_mid {bs:List (Int×Int)}{k:Nat}{a:Int}(O:OB sp l bs)(nd:l.Nodup)(hl:∀ k∈l,k<sp.length)(hk:k∈l)(h:(bs.getD k (0,0)).1<(bs.getD k (0,0)).2)(ha:a=((bs.getD k (0,0)).1+(bs.getD k (0,0)).2) / 2) :
  3 * e7 (lV bs k a) l≤2 * e7 bs l∧3 * e7 (eV bs k a) l≤2 * e7 bs l:=by
 have hb:=O.len;have hkl:=hl k hk;have wk1:wdB (lV bs k a) k=(a - (bs.getD k (0,0)).1+1).toNat:=by unfold wdB lV;rw [iD (by lia),qR rfl]
 have wk2:wdB (eV bs k a) k=((bs.getD k (0,0)).2 - (a+1)+1).toNat:=by unfold wdB eV;rw [iD (by lia),qR rfl]
 have w0:wdB bs k=((bs.getD k (0,0)).2 - (bs.getD k (0,0)).1+1).toNat:=rfl
 constructor
 ·refine scale_le (oa (f:=wdB bs) (g:=wdB (lV bs k a)) (k:=k) l nd hk fun j hj hn=>?_) (by rw [wk1,w0];lia) (by rw [w0];lia)
  have hjl:=hl j hj;unfold wdB lV;rw [iD (by lia),qQ (bX hn)]
 ·refine scale_le (oa (f:=wdB bs) (g:=wdB (eV bs k a)) (k:=k) l nd hk fun j hj hn=>?_) (by rw [wk2,w0];lia) (by rw [w0];lia)
  have hjl:=hl j hj;unfold wdB eV;rw [iD (by lia),qQ (bX hn)]
section
variable {R:List (Int×Int)→Dt→Prop}{c c0:Cse}{k:Nat}{a:Int}{x y:Tq}{ms:List Mrk}{cr:List Cse}{d:Dt}{rs':List (Nat×List Stp)}
theorem qh.leaf (h:R c.1 d):qh R l c (.leaf d):=fun n _=>by
 cases n <;> exact h
theorem qh.cut (hk:k<c.1.length)(h1:(c.1.getD k (0,0)).1≤a)(h2:a<(c.1.getD k (0,0)).2)(p2:2≤e7 c.1 l)(m1:3 * e7 (lV c.1 k a) l≤2 * e7 c.1 l)(m2:3 * e7 (eV c.1 k a) l≤2 * e7 c.1 l)
  (gx:qh R l (lV c.1 k a,rs) x) (gy:qh R l (eV c.1 k a,rs') y):qh R l c (.cut k a x y):=fun n hn=>by
 cases n with
 | zero=>simp at hn;lia
 | succ n =>
  have key:∀ p,3 * p≤2 * e7 c.1 l→2 ^ n * p≤3 ^ n:=fun p hp=>by
   have h3:2 ^ n * (3 * p)≤2 ^ n * (2 * e7 c.1 l):=Nat.mul_le_mul_left _ hp;rw [Nat.pow_succ,Nat.pow_succ,gg] at hn;rw [Nat.mul_left_comm] at h3;lia
  exact ⟨hk,h1,h2,gx n (key _ m1),gy n (key _ m2)⟩
def Wn (R:List (Int×Int)→Dt→Prop)(l:List Nat)(c0:Cse)(ms:List Mrk)(cr:List Cse):Prop:=∀ F:List Tq,jU (qh R l) cr F→∃ t,ms++F.flatMap pre=pre t∧qh R l c0 t
theorem Wn.start:Wn R l c0 [] [c0]:=fun F h=>by
 cases h with
 | cons g r=>cases r;exact ⟨_,by simp,g⟩
theorem Wn.leaf (h:Wn R l c0 ms (c::cr))(r:R c.1 d):Wn R l c0 (ms++[.leaf d]) cr:=fun F hF=>by
 obtain ⟨t,e,g⟩:=h (.leaf d::F) (.cons (qh.leaf r) hF);exact ⟨t,by rw [←e];simp [pre],g⟩
theorem Wn.cut (h:Wn R l c0 ms (c::cr))(hk:k<c.1.length)(h1:(c.1.getD k (0,0)).1≤a)(h2:a<(c.1.getD k (0,0)).2)(p2:2≤e7 c.1 l)(m1:3 * e7 (lV c.1 k a) l≤2 * e7 c.1 l)(m2:3 * e7 (eV c.1 k a) l≤2 * e7 c.1 l):Wn R l c0 (ms++[.cut k a]) ((lV c.1 k a,rs)::(eV c.1 k a,rs')::cr):=fun F hF=>by
 cases hF with
 | cons gx r =>
  cases r with
  | cons gy r =>
   rename_i x y F;obtain ⟨t,e,g⟩:=h (.cut k a x y::F) (.cons (qh.cut hk h1 h2 p2 m1 m2 gx gy) r);exact ⟨t,by rw [←e];simp [pre],g⟩
theorem Wn.fin (h:Wn R l c0 ms []):∃ t,ms=pre t∧qh R l c0 t:=by
 obtain ⟨t,e,g⟩:=h [] .nil;exact ⟨t,by rw [←e];simp,g⟩
end
inductive spTreeF (vs:List V)(H:Hp)(Q:VK)(_:XK):Prop
 | mk (L:ai)(ys:List V)(ms:List Mrk)(t:Tq)(_:vs=[.ref L])(_:H L=some (.lst ys))(_:dM H ys (ms.map mrkD))(_:ms=pre t)(_:(∀ d,Mrk.leaf d∈ms→LeafW d))(_:ms.length≤10000)(_:∀ u H',bJ H H'→IsD H' u (kT t)→Q u H')
end HN
namespace L2
open PySem PySem.W PySem.Spec PyProof.Rows
theorem law_callTs {mb:Str→Option aa}{k:Nat}{fa:ai}{sp:Sp}{s₁:ao}
  (KX:K.In s₁.heap) (hns:s₁.heap.Ns bt mg) (hb:s₁.heap.Ns builtinsNs mb) (hbb:∀ x:Str,x ≠ "__name__" →mb x=jT x) (hlim:s₁.heap.NoLimit) (hg:s₁.gens= #[])
  (hbm:BM mg s₁.heap) (hT:∀ T∈Ts,s₁.heap.get? T=some (tabObj #[])) (C:∀ T∈Ts,∃ c,codeHdIn K c T=true) (nt:noTabs K=true)
  (ha:s₁.heap.get? a=some { cls:= .type "list",data:= .seq vs.toArray }) (hi:IntsAre vs ns) (hl:ns.length≤aP) (hr:iA k callerA)
  (F:∀ base:bz,K.In base→base.Ns bt mg→BM mg base→cR P w K mg base CX k fa fd [x] sp) (hbind:∀ (s:ao) (u:aa),BindsTo s fd ⟨[u],[]⟩ [(x,u)])
  (hsp:∀ H:Hp,(∀ T∈Ts,H T=some (.tbl #[]))→SqL K H a (ns.map V.int)→sp [.ref a] H (fun v _=>v= .bl true) fun _ _ _=>False)
  (hCX:∀ H e s',CX [] H s₁ (fun _ _ _=>False) e s'→False) :
  iE (aV P w) callerA (.call (.ref fa) ⟨[.ref a],[]⟩) (fun r s'=>r= .ok (.ret (.bool true))∧OldK s₁.heap s'.heap∧s'.os=s₁.os∧AllBare s'.gens) s₁:=by
 have rv:=oY hi;have lenV:=hi.length;have hTK:∀ T∈Ts,K.lookup T=none:=fun T mT=>by
  cases q:K.lookup T with
  | none=>rfl
  | some o =>
   have e:=KX T o q;rw [hT T mT] at e;cases e;have z:=List.all_eq_true.mp nt (T,tabObj #[]) (mem_of_lookupK q);cases z
 have aT:a ∉ Ts:=fun z=>by rw [hT a z] at ha;cases ha
 have isT:∀ T∈Ts,isCodeTable s₁.heap T:=fun T mT=>by obtain ⟨c,C⟩:=C T mT;exact ((codeHd_of_K KX C).tab (hT T mT)).isCodeTable
 have core:∀ H:Hp,SqL K H a (ns.map V.int)→HOk P w H s₁.heap→(∀ T∈Ts,H T=some (.tbl #[]))→(∀ b,H b≠none→b ∉ Ts→b=a∧∃ o xs,H b=some (.frz o (.lst xs)))→(H a≠none→K.lookup a=none) →
   iE (aV P w) callerA (.call (.ref fa) ⟨[.ref a],[]⟩) (fun r s'=>r= .ok (.ret (.bool true))∧OldK s₁.heap s'.heap∧s'.os=s₁.os∧AllBare s'.gens) s₁:=by
  intro H hS hok hHT hA hK;have base_of:∀ {b:ai} {o:Obj},s₁.heap.get? b=some o→H b=none→(hidT s₁.heap H).get? b=some o:=fun e n=>hidT_get e n
  have no2:∀ {b:ai} {o:Obj},s₁.heap.get? b=some o→o≠tabObj #[]→o≠{ cls:= .type "list",data:= .seq vs.toArray }→H b=none:=fun {b o} e d1 d2=>by
   cases q:H b with
   | none=>rfl
   | some u =>
    by_cases hbT:b∈Ts
    ·rw [hT b hbT] at e;cases e;exact qS rfl d1
    ·have e':b=a:=(hA b (by rw [q];simp) hbT).1
     subst e';rw [ha] at e;cases e;exact qS rfl d2
  have nsK:∀ {b:ai} {m:Str→Option aa},s₁.heap.Ns b m→(hidT s₁.heap H).Ns b m:=fun {b m} ⟨o,es,ep,e,d,r⟩=>⟨o,es,ep,base_of e (no2 e (fun z=>by subst z;cases d) (fun z=>by subst z;cases d)),d,r⟩
  have hKb:K.In (hidT s₁.heap H):=fun b o e=>base_of (KX b o e) (by
   cases q:H b with
   | none=>rfl
   | some u =>
    by_cases hbT:b∈Ts
    ·rw [hTK b hbT] at e;cases e
    ·have e':b=a:=(hA b (by rw [q];simp) hbT).1
     subst e';rw [hK (by rw [q];simp)] at e;cases e)
  have hM:Mod K mg (hidT s₁.heap H):=⟨hKb,nsK hns,⟨mb,nsK hb,hbb⟩,let ⟨mc,h1,h2⟩:=hlim;⟨mc,nsK h1,h2⟩⟩;have hBM:BM mg (hidT s₁.heap H):=by
   obtain ⟨bm,ob,b1,b2,b3,b4,b5,b6,b7⟩:=hbm;exact ⟨bm,ob,b1,b2,b3,base_of b4 (no2 b4 (fun z=>by subst z;cases b5) (fun z=>by subst z;cases b7)),b5,b6,b7⟩
  have e0:Env0 P w K mg (hidT s₁.heap H) callerA [] s₁ H:=⟨rfl,hM,fun b o e=>of_hidT e,Nat.le_of_eq (hidT_size _ _),trivial,fun b hb=>qS (show b∈([]:List ai) from hb) (by simp),hok,.of_eq hg⟩;refine g9 ((F _ hKb (nsK hns) hBM).run callerA [] s₁ H ⟨[.ref a],[]⟩ [.ref a] [.ref a] _ _ hr e0 (hbind s₁ (.ref a)) (.cons rfl .nil) (hsp H hHT hS)) fun r s' h=>?_
  cases r with
  | error e=>exact (hCX H e s' h).elim
  | ok fl =>
   cases fl with
   | next=>exact cf h
   | brk=>exact cf h
   | cont=>exact cf h
   | ret u =>
    obtain ⟨v,H',os,bare,un,hok',r',q⟩:=h;have q':v= .bl true:=q;subst q';obtain rfl:u=aa.bool true:=r';have tT:∀ T∈Ts,∃ more,s'.heap.get? T=some (tabObj (#[]++more)):=fun T mT=>by
     obtain ⟨more,eT⟩:=un.tbls T _ (hHT T mT);exact ⟨more,hok' T _ eT⟩
    have stay:∀ b o,s₁.heap.get? b=some o→b ∉ Ts→s'.heap.get? b=some o:=fun b o e hbT=>by
     cases q:H b with
     | none=>exact un.keep b o e q (by intro z;exact qS (show b∈([]:List ai) from z) (by simp)) (by simp)
     | some u =>
      obtain ⟨_,ob,xs,z⟩:=hA b (by rw [q];simp) hbT;have z2:=un.frzs b ob _ z;obtain ⟨e1,_⟩:=hok b _ z;obtain ⟨e2,_⟩:=hok' b _ z2;rw [e] at e1;cases e1;exact e2
    refine ⟨rfl,⟨fun b o e=>?_,fun b o e=>?_⟩,os,bare⟩
    ·by_cases hbT:b∈Ts
     ·rw [hT b hbT] at e;cases e
      obtain ⟨more,tb⟩:=tT b hbT;exact .inr (.inl ⟨isT b hbT,rfl,#[],more,rfl,tb⟩)
     ·exact .inl (stay b o e hbT)
    ·by_cases hbT:b∈Ts
     ·obtain ⟨more,tb⟩:=tT b hbT;exact ⟨_,tb⟩
     ·exact ⟨o,stay b o e hbT⟩
 cases hk:K.lookup a with
 | some o =>
  have e:=KX a o hk;rw [ha] at e;cases e;refine core (fun b=>if b∈Ts then some (.tbl #[]) else none) (.inr ⟨_,vs.toArray,_,hk,rfl,rfl,rfl,by rw [aD,lenV];exact hl,by simpa using rv⟩) (fun b u z=>?_) (fun T mT=>qR mT) (fun b z hb=>qS (qQ hb) z) fun z=>qS (qQ aT) z
  by_cases hb:b∈Ts
  ·have z':=(qR hb).symm.trans z
   cases z';exact hT b hb
  ·have z':=(qQ hb).symm.trans z
   cases z'
 | none =>
  refine core (fun b=>if b∈Ts then some (.tbl #[]) else if b=a then some (.frz { cls:= .type "list",data:= .seq vs.toArray } (.lst (ns.map V.int))) else none) (.inl (.inr ⟨{ cls:= .type "list",data:= .seq vs.toArray },(qQ aT).trans (qR rfl)⟩)) (fun b u z=>?_) (fun T mT=>qR mT) (fun b z hb=>?_) fun _=>hk
  ·by_cases hb:b∈Ts
   ·have z':=(qR hb).symm.trans z
    cases z';exact hT b hb
   ·have z:=(qQ hb).symm.trans z
    by_cases hb:b=a
    ·have z':=(qR hb).symm.trans z
     cases z';subst hb;exact ⟨ha,by rw [ae];exact hl,vs,_,rv,ha⟩
    ·have z':=(qQ hb).symm.trans z
     cases z'
  ·by_cases hba:b=a
   ·exact ⟨hba,_,_,(qQ hb).trans (qR hba)⟩
   ·exact qS ((qQ hb).trans (qQ hba)) z
theorem walk_ofTs {l:PySem.W.OpenLaw}{k:Nat}{q:aN}{d:DefRec}{K:Params→aq}{CX:bp→CXT}{sp:bp→Sp}
  (hn:l.most=some n) (hn2:n≤aP) (hdf:d.params.defaults=[]) (hr:iA k callerA)
  (hY:∀ (w:bp) (h:bz),YP w h→(K w.params).In h∧∀ T∈Ts,h.get? T=some (tabObj #[])) (C:∀ w:bp,∀ T∈Ts,∃ c,codeHdIn (K w.params) c T=true) (nt:∀ w:bp,noTabs (K w.params)=true)
  (F:∀ (w:bp) (mg:Str→Option aa) (fa:ai) (h:bz),(K w.params).In h→h.Ns bt mg→mg d.name=some (.ref fa) →
   ∃ fd:bf,(∀ (s:ao) (u:aa),BindsTo s fd ⟨[u],[]⟩ [(x,u)]) ∧
    ∀ base:bz,(K w.params).In base→base.Ns bt mg→BM mg base→cR l.prog w (K w.params) mg base (CX w) k fa fd [x] (sp w))
  (hsp:∀ (w:bp) (H:Hp) (a:ai) (ns:List Int),ns.length≤n→(∀ T∈Ts,H T=some (.tbl #[]))→SqL (K w.params) H a (ns.map V.int)→sp w [.ref a] H (fun v _=>v= .bl true) fun _ _ _=>False)
  (hCX:∀ (w:bp) (H:Hp) (s:ao) (e:aa) (s':ao),CX w [] H s (fun _ _ _=>False) e s'→False) :
  PySem.W.WalkO q loose XP YP l.row.toRowW d [] (fun f vs=>PySem.call f vs):=by
 refine Att.attach_call hn hdf fun w s₀ s₁ mg mb fa o pm cd doc a vs ns G Y ho hd hcd hmg hobj hints hlen hg=>?_
 obtain ⟨KX,hT⟩:=hY w _ Y;obtain ⟨fd,hb,hF⟩:=F w mg fa _ KX G.T.g hmg;have hbm:BM mg s₁.heap:=by
  obtain ⟨bm,ob,b1,b2,b3,b4,b5,b6⟩:=G.T.bmain;refine ⟨bm,ob,b1,b2,fun q=>?_,b3,b4,b5,b6⟩;obtain ⟨o,es,ep,e,hd,_⟩:=G.T.g;rw [q,e] at b3;cases b3;rw [hd] at b6;cases b6
 exact law_callTs KX G.T.g G.T.b G.T.builtins G.T.nolimit hg hbm hT (C w) (nt w) hobj hints (aS hlen hn2) hr hF hb (fun H hO hS=>hsp w H a ns hlen hO hS) fun H e s'=>hCX w H s₁ e s'
theorem sorted_keyT {r q:ai}{ws:List aa}(hl0:IsTup s.heap r ws.toArray)(h64:ws.length<64)
  (h:∀ (g h1:bz) (D kS:ai) (e1:Nat),(∀ b o,s.heap.get? b=some o→g.get? b=some o)→(∀ b o,g.get? b=some o→h1.get? b=some o)→g.objs.size≤D→D<kS→h1.get? D=some (bI "list" #[] e1)→h1.get? kS=some (bI "list" #[] 0) →
   KeyDo prog w A.in1.in1 (.ref q) ws kS D e1 (fun t'=>Q (.ref D) t') { s with heap:=h1 }) :
  aJ (aV prog w) A (jS (.builtin "sorted") [.ref r] [(cV "key",.ref q)]) Q E s:=by
 obtain ⟨ob,ho,hc,n,hd⟩:=hl0;refine call_function_entry_kw kind_sorted plain_sorted entry_sorted (ksk_s1 _ _) ?_;unfold cZ.«sorted»;refine af (m:=checkCount "sorted" 1 1 _) (aC ?_);refine af (wpAny_collect_seq r (.inr rfl) ho hc hd (fun h' hk=>?_) (by rw [aD,eY];lia));rw [show ws.toArray.toList=ws by simp];refine af (wpAny_newList ?_ (by rw [eY];lia));have hoL:(h'.push (bI "list" ws.toArray 0)).get? h'.objs.size=some (bI "list" ws.toArray 0):=aU _ rfl;show aJ _ _ _ _ _ { s with heap:=h'.push (bI "list" ws.toArray 0) };refine af (cI (wpAny_call_entry_kw slot_list_sort ⟨_,hoL,rfl⟩ entry_list_sort ?body (ksk_l1 _ _)))
 case body =>
  show aJ (aV prog w) A.in1.in1 (cZ.«list.sort» ⟨[.ref h'.objs.size],[(cV "key",.ref q)]⟩) _ _ _;rw [ksk_t1];refine key_tree (s:={ s with heap:=h'.push (bI "list" ws.toArray 0) }) hoL (by lia) fun e1 g1 g2=>?_
  have K:=h h' (kA (h'.push (bI "list" ws.toArray 0)) h'.objs.size ws) h'.objs.size ((h'.push (bI "list" ws.toArray 0)).objs.size+1) e1 hk ?_ (aA _) (by rw [size_push'];exact ig (jV _)) g1 g2
  ·obtain ⟨J,j0,jc,je⟩:=K
   refine ⟨J,j0,jc,fun ks t' x1 x2=>?_⟩;obtain ⟨y1,κ,lt,y2,y3,y4,y5⟩:=je ks t' x1 x2;exact ⟨y1,κ,lt,y2,y3,y4,fun p p1 p2=>⟨_,rfl,aC ⟨_,rfl,y5 p p1 p2⟩⟩⟩
  ·exact fun b o e=>mid_keep (bE (aE e)) (ar _ e)
theorem its_at:∀ {ns:List Int} {its:List aa} {i:Nat} {x:aa},fN (ns.map V.int) its→its[i]? =some x→∃ t,x= .int (ns.getD i 0) t
 | [],_,_,_,.nil,e=>by simp at e
 | n::ns,_,0,_,.cons r _,e=>by
  cases e;exact r
 | n::ns,_,i+1,_,.cons _ rs,e=>its_at (ns:=ns) (i:=i) rs e
def SortTQ (P:ai)(lp:Pos)(lq:Str)(js:List Nat)(te:TE)(σ:St)(Q:VK)(v:V)(H1:Hp):Prop:=∃ (r:ai) (ns:List Int) (key:Nat→Int×Int),v= .ref r∧H1 r=some (.tup (ns.map V.int))∧ns.length<64∧LamT P lp lq H1∧((aQ ns.length).map key).Nodup ∧
 (∀ i:Nat,i<ns.length→∀ H2,Tb P H1 H2→te (some (.int (ns.getD i 0))::cX σ js) H2 fun u H3=>bJ H2 H3∧∃ a,u= .ref a∧H3 a=some (.tup [.int (key i).1,.int (key i).2])) ∧
 ∀ (D:ai) (H4:Hp) (π:List Nat),Tb P H1 H4→LamT P lp lq H4→H4 D=none→π.Perm (aQ ns.length)→π.Pairwise (fun i j=>ltP (key i) (key j)=true)→Q (.ref D) (upd H4 D (.lst (π.map fun (i:Nat)=>V.int (ns.getD i 0))))
def tSortT (P:ai)(lp:Pos)(lq:Str)(tr:TE)(js:List Nat)(te:TE):TE:=fun σ H Q=>tr σ H fun v H1=>SortTQ P lp lq js te σ Q v H1
def SortT1 (P:ai)(lp:Pos)(lq:Str)(js:List Nat)(te:TE)(σ:St)(Q:VK):List V→Hp→Prop
 | [v],H1=>SortTQ P lp lq js te σ Q v H1
 | _,_=>False
theorem pe_sortT {tr:TE}{p kp:Pos}{c P:ai}(hc:X.calm=true)(hrm:X.A.depth<jQ)(hg:Gl X "sorted")(hm:X.mg "sorted" =none)(hi:PE X re tr)
  (hd:defaultsOf params X.env=([],[])) (mU:X.env.code= .ref c) (C:codeHdIn X.K c P=true) (B:BM X.mg X.base)
  (hbind:∀ q cl pm cdv ct (u:aa),bindArgs (kla_fn "<lambda>" q params body scope cl pm cdv ct) ⟨[u],[]⟩=fj [(x,u)])
  (hk:scope.kind= .function) (hco:scope.isCoroutine=false) (hgen:scope.isGenerator=false) (iK:∀ y∈scope.names,y.2≠ .cell) (hx:scope.names.lookup x=some .local) (hfx:x ∉ fr)
  (hfr:∀ y∈scope.names,y.2= .free→X.env.scope.names.lookup y.1=some .cell) (hjs:js.map (fun j=>X.N[j]?)=fr.map some) (hfv:∀ y∈fr,scope.names.lookup y=some .free)
  (hb:∀ cl L f cd s' H',PE (cxLam X (X.env.qual ++ "<lambda>") scope cl L f cd (x::fr) s' H') body te)
  (he:fE pos (br [re] X.env)=(false,dH re X.env)::fE pos (br [] X.env):=by rfl)
  (hs:br [re] X.env=(false,dH re X.env)::br [] X.env:=by rfl) (hpl:(fE pos (br [re] X.env)).any (·.1)=false:=by rfl) :
  PE X (.Call (.Name "sorted" p) [re] [⟨some "key",.Lambda params body scope lp,kp⟩] pos) (tSortT P lp (X.env.qual ++ "<lambda>") tr js te):=by
 intro aH s σ H Q I h;refine cY (mH I hg hm (u:= .builtin "sorted") (by trivial) ?_);refine callWith_kw (kws:=[⟨some "key",.Lambda params body scope lp,kp⟩]) (thn ((ak hi aI hs) pos aH s σ H (SortT1 P lp (X.env.qual ++ "<lambda>") js te σ Q) I h) fun us s1 ⟨vs,H1,I1,r1,q0⟩=>?_) he hpl;refine kws_cons ?_;obtain ⟨v,rfl⟩:∃ v,vs=[v]:=by
  cases vs with
  | nil=>exact q0.elim
  | cons v r=>cases r with
   | nil=>exact ⟨v,rfl⟩
   | cons _ _=>exact q0.elim
 have q1:SortTQ P lp (X.env.qual ++ "<lambda>") js te σ Q v H1:=q0;obtain ⟨r,ns,key,rfl,hr,h64,T,hnd,hkey,hQ⟩:=q1;obtain rfl:us=[.ref r]:=by
  cases r1 with
  | cons ru rs =>
   cases rs;exact qW (fun z=>[z]) ru
 refine lam_make (body:=body) I1 hd mU C B hfr T fun f cl H2 s2 I2 tb T2 F2 c1 c2=>?_
 refine kws_nil ?_;show aJ _ _ (jS (.builtin "sorted") [.ref r] [(cV "key",.ref f)]) _ _ _;have rP:r≠P:=fun z=>by
  rcases T with T | ⟨_,T,_⟩ <;> rw [←z,hr] at T <;> cases T
 obtain ⟨its,rv,ht,_⟩:=I2.tuple (SqT.of (K:=X.K) (tb r _ rP hr));have lits:its.length=ns.length:=by rw [←rv.length,ae]
 refine sorted_keyT ht (by lia) fun g h1 D kS e1 hg hkeep hD hDk gD gK=>?_
 have I2:Inv X aH σ H2 { s2 with heap:=g }:=I2.kept (t':=s2.toks) hg;have I3:Inv X aH σ H2 { s2 with heap:=h1 }:=I2.kept (t':=s2.toks) hkeep;have old:∀ b o,g.get? b=some o→b≠D∧b≠kS:=fun b o e=>⟨bE (aL (aE e) hD),bE (jH (aL (aE e) hD) hDk)⟩
 have hDs:=aE gD;have hKs:=aE gK;have frD:H2 D=none:=I2.hok.fresh hD;have frK:H2 kS=none:=I2.hok.fresh (iL (bT hD hDk));have cc:∀ y d,X.env.cells.lookup y=some d→d≠D∧d≠kS:=fun y d e=>by obtain ⟨v,o,ho,_⟩:=I2.cell y d e;exact old d o ho
 have pp:∀ z∈X.pn++aH,z.1≠D∧z.1≠kS:=fun z hz=>old _ _ (I2.pin z hz).1
 have nl:g.objs.size≤kS:=iL (bT hD hDk);have I4:Inv X ((kS,bI "list" #[] 0)::(D,bI "list" #[] e1)::aH) σ H2 { s2 with heap:=h1 }:=I3.pins_of fun z hz=>by
  rcases aB.mp hz with rfl | hz
  ·exact ⟨gK,frK,cy (aL I2.lt nl),I2.nofs nl,fun v z=>by cases z⟩
  ·rcases aB.mp hz with rfl | hz
   ·exact ⟨gD,frD,cy (aL I2.lt hD),I2.nofs hD,fun v z=>by cases z⟩
   ·exact I3.pin z (ay _ hz)
 refine keyDo_of (num:=fun i=>ns.getD i 0) (key:=key) I4 lits h64 (fun i x e=>its_at rv e) (aS I2.sz nl) (aS I2.sz hD) (fun y d e=>(cc y d e).2) (fun y d e=>(cc y d e).1) (fun z hz=>(pp z hz).2) (fun z hz=>(pp z hz).1) (cy hDk) hnd ?_ ?_
 ·intro t H' pins' i tk hi' I' S'
  refine bP (lam_call (v:= .int (ns.getD i 0)) I' hc hrm (F2.same S') ⟨_,rfl⟩ (fun pm cdv ct=>hbind _ _ _ _ _ _) hk hco hgen iK hx hfx c1 c2 hfr hjs hfv (fun L cd s' H'=>hb cl L f cd s' H') (hkey i hi' H' (tb.trans S'.tb))) (fun k t' ⟨v,H'',I'',rv,S'',a,ev,ea⟩=>?_) fun _ _ z=>z
  subst ev;obtain rfl:k= .ref a:=rv;exact ⟨a,H'',I'',S'',rfl,ea⟩
 ·intro t H' π S' hD' I' pm pw
  exact ⟨.ref D,_,I',rfl,hQ D H' π (tb.trans S'.tb) (T2.same S') hD' pm pw⟩
def ptF (H:Hp)(fz:ai→Option Obj):Hp:=fun b=>match fz b with | some o=>some (.frz o (.own 0)) | none=>H b
def ctF (H:Hp)(fz:ai→Option Obj):Hp:=fun b=>match fz b with | some _=>none | none=>H b
def Fz (fz:ai→Option Obj)(H:Hp):Prop:=∀ b o,fz b=some o→H b=some (.frz o (.own 0))
section
variable {b:ai}{o:Obj}{fs:List ai}
theorem pM (e:fz b=some o):ptF H fz b=some (.frz o (.own 0)):=by unfold ptF;rw [e]
theorem gT (e:fz b=none):ptF H fz b=H b:=by unfold ptF;rw [e]
theorem qL (e:fz b=some o):ctF H fz b=none:=by unfold ctF;rw [e]
theorem gU (e:fz b=none):ctF H fz b=H b:=by unfold ctF;rw [e]
theorem Fz.out (F:Fz fz H){u:HO}(e:H b=some u)(n:∀ o,u≠ .frz o (.own 0)):fz b=none:=by
 cases q:fz b with
 | none=>rfl
 | some o=>rw [F b o q] at e;cases e;exact qS rfl (n o)
theorem Fz.cut (F:Fz fz H){u:HO}(e:H b=some u)(n:∀ o,u≠ .frz o (.own 0)):ctF H fz b=some u:=by rw [gU (F.out e n)];exact e
theorem HOk.cut (hok:HOk P w H h)(F:Fz fz H):HOk P w (ctF H fz) h:=fun a o e=>by
 cases q:fz a with
 | some o'=>rw [qL q] at e;cases e
 | none =>
  rw [gU q] at e;exact (hok a o e).stay (fun _ _ _ e=>e) (fun b e'=>F.cut e' (fun _ z=>by cases z)) fun b xs e'=>F.cut e' (fun _ z=>by cases z)
theorem HOk.ptF (hok:HOk P w H h)(N:∀ b o,fz b=some o→H b=none)(G:∀ b o,fz b=some o→h.get? b=some o):HOk P w (ptF H fz) h:=fun a o e=>by
 cases q:fz a with
 | some o' =>
  rw [pM q] at e;cases e;exact ⟨G a o' q,_,G a o' q⟩
 | none =>
  rw [gT q] at e;have out:∀ b u,H b=some u→fz b=none:=fun b u e'=>by
   cases q':fz b with
   | none=>rfl
   | some o'=>rw [N b o' q'] at e';cases e'
  exact (hok a o e).stay (fun _ _ _ e=>e) (fun b e'=>by rw [gT (out b _ e')];exact e') fun b xs e'=>by rw [gT (out b _ e')];exact e'
theorem Un.thaw (u:Un fs [] (ptF H fz) H' h h')(N:∀ b o,fz b=some o→H b=none)(hok:HOk P w H' h')(G:∀ b o,fz b=some o→h.get? b=some o):Un fs [] H (ctF H' fz) h h':=by
 have F:Fz fz H':=fun b o e=>u.frzs b o _ (pM e)
 have out:∀ b u,H b=some u→fz b=none:=fun b u e'=>by
  cases q':fz b with
  | none=>rfl
  | some o'=>rw [N b o' q'] at e';cases e'
 have same:∀ b o ob,fz b=some o→h.get? b=some ob→h'.get? b=some ob:=fun b o ob q e=>by
  have e1:=G b o q;rw [e] at e1;cases e1;exact (hok b _ (F b _ q)).1
 refine ⟨fun b o e n hf hx=>?_,fun b o e n hf hx=>?_,fun b o e n hx=>?_,u.there,fun b xs e=>?_,fun b o x e=>?_,fun b ps e=>?_⟩
 ·cases q:fz b with
  | some o'=>exact same b o' o q e
  | none=>exact u.keep b o e (by rw [gT q];exact n) hf hx
 ·cases q:fz b with
  | some o'=>exact ⟨o.slots,same b o' o q e⟩
  | none=>exact u.slot b o e (by rw [gT q];exact n) hf hx
 ·cases q:fz b with
  | some o'=>exact qL q
  | none=>rw [gU q];exact u.free b o e (by rw [gT q];exact n) hx
 ·have q:=out b _ e
  rw [gU q];exact u.tups b xs (by rw [gT q];exact e)
 ·have q:=out b _ e
  rw [gU q];exact u.frzs b o x (by rw [gT q];exact e)
 ·have q:=out b _ e
  rw [gU q];exact u.tbls b ps (by rw [gT q];exact e)
theorem Un.froze (u:Un fs [] (ctF H fz) H' h h')(F:Fz fz H):Un fs [] H (ptF H' fz) h h':=by
 have out:∀ b,H b=none→fz b=none:=fun b n=>by
  cases q:fz b with
  | none=>rfl
  | some o=>rw [F b o q] at n;cases n
 refine ⟨fun b o e n hf hx=>u.keep b o e (by rw [gU (out b n)];exact n) hf hx,fun b o e n hf hx=>u.slot b o e (by rw [gU (out b n)];exact n) hf hx,fun b o e n hx=>?_,u.there,fun b xs e=>?_,fun b o x e=>?_,fun b ps e=>?_⟩
 ·rw [gT (out b n)];exact u.free b o e (by rw [gU (out b n)];exact n) hx
 ·have q:=F.out e (fun _ z=>by cases z)
  rw [gT q];exact u.tups b xs (by rw [gU q];exact e)
 ·cases q:fz b with
  | some o'=>rw [F b o' q] at e;cases e;exact pM q
  | none=>rw [gT q];exact u.frzs b o x (by rw [gU q];exact e)
 ·have q:=F.out e (fun _ z=>by cases z)
  rw [gT q];exact u.tbls b ps (by rw [gU q];exact e)
end
structure Clo (cl:List (Str×ai))(fz:ai→Option Obj)(fr:List Str)(ws:List V):Prop where
 all:∀ x c,cl.lookup x=some c→∃ o,fz c=some o
 cell:∀ c o,fz c=some o→∃ v,o.data= .cell v
 inj:∀ a b c,cl.lookup a=some c→cl.lookup b=some c→a=b
 val:∀ (i:Nat) y v,fr[i]? =some y→ws[i]? =some v→∃ c o u,cl.lookup y=some c∧fz c=some o∧o.data= .cell (some u)∧fY v u
 len:ws.length=fr.length
structure LmOk (P:aN)(w:bp)(K:aq)(mg:Str→Option aa)(base:bz)(k:Nat)(f:ai)(Hf:Hp→Prop)(sp:Sp):Prop where
 isFn:∀ H h,Hf H→HOk P w H h→FnAt f h
 run:∀ (A:bL) (outer:List Env) (s:ao) (H:Hp) (u:aa) (v:V) (Q:VK),iA k A→Env0 P w K mg base A outer s H→Hf H→fY v u→sp [v] H Q E0→iE (aV P w) A (.call (.ref f) ⟨[u],[]⟩) (CR CX0 outer P w H s Q E0) s
def cxLm (P:aN)(w:bp)(K:aq)(mg:Str→Option aa)(base:bz)(q:Str)(scope:eO)(cl:List (Str×ai))(L f:ai)(cd:aa)(N:List Str)(A:bL)(outer:List Env)(s:ao)(H:Hp):Cx :=
 { prog:=P,w:=w,K:=K,mg:=mg,base:=base,A:=A.deeper (envX q scope L f cd cl),N:=N,s₀:=s,H₀:=H,env:=envX q scope L f cd cl,outer:=outer,stack:=envX q scope L f cd cl::outer,ex:=[],calm:=true,fn:=fun _=>false,pn:=[],xe:=fun _ _=>False }
theorem lam_run {k:Nat}{ws:List V}{sp:Sp}
  (hbind:∀ u pm cdv ct,bindArgs (kla_fn "<lambda>" q params body scope cl pm cdv ct) ⟨[u],[]⟩=fj [(x,u)])
  (hk:scope.kind= .function) (hco:scope.isCoroutine=false) (hgen:scope.isGenerator=false) (iK:∀ y∈scope.names,y.2≠ .cell) (hx:scope.names.lookup x=some .local) (hfx:x ∉ fr)
  (C:Clo cl fz fr ws) (hcl:∀ y∈scope.names,y.2= .free→∃ c,cl.lookup y.1=some c) (hfv:∀ y∈fr,scope.names.lookup y=some .free)
  (hb:∀ L cd A outer s' H',iA k (A.deeper (envX q scope L f cd cl))→PE (cxLm P w K mg base q scope cl L f cd (x::fr) A outer s' H') body te)
  (ht:∀ v H Q,LamF q params body scope cl f H→Fz fz H→sp [v] H Q E0→te (some v::ws.map some) (ctF H fz) (fun y H'=>(∀ b o,fz b=some o→H' b=none)→Q y (ptF H' fz))) :
  LmOk P w K mg base (k+1) f (fun H=>LamF q params body scope cl f H∧Fz fz H) sp:=by
 refine ⟨fun H h ⟨⟨pm,cd,ct,e,_⟩,_⟩ hok=>⟨_,_,_,_,(hok f _ e).1⟩,fun A outer s H u v Q hr e0 ⟨F,Z⟩ ru hsp=>?_⟩;have ht:=ht v H Q F Z hsp;obtain ⟨pm,cd,ct,e,oc,vs,t,ec,hdc,hvc⟩:=F;have ho:s.heap.get? f=some (kla_obj "<lambda>" q params body scope cl pm cd ct):=(e0.hok f _ e).1;have hoc:s.heap.get? cd=some oc:=(e0.hok cd _ ec).1;refine kla_callFunE (by have:=hr.dp;lia) ho rfl hco hgen rfl ⟨cd,oc,vs,t,rfl,hoc,hdc,hvc⟩ ?_;rw [hbind];refine aC (wpAny_newFunctionEnv iK (fun y hy=>?_) (fun h₁ hns hsb=>⟨?nl,?_⟩) hk)
 ·rw [ax.mp hy];exact hx
 case nl=>exact (e0.mod.nolimit.keeps (fun b o e=>(e0.bs b o e).1)).fresh _ hsb
 show iE _ _ (.expr body (envX q scope s.heap.objs.size f (.ref cd) cl)) _ _;have old:∀ b o,s.heap.get? b=some o→h₁.get? b=some o:=fun b o e=>hsb.extBut b o (bE (aE e)) (ar _ e)
 refine kla_codeExpr ?_;have hokc:=HOk.cut e0.hok Z;have cutN:∀ b,H b=none→ctF H fz b=none:=fun b n=>by
  cases z:fz b with
  | some o=>exact qL z
  | none=>rw [gU z];exact n
 have ok':(cxLm P w K mg base q scope cl s.heap.objs.size f (.ref cd) (x::fr) A outer s (ctF H fz)).Ok:=by
  refine ⟨e0.mod,hk,rfl,rfl,aA _,C.inj,fun y hy=>?_,fun _ _ z=>qS z (by intro q;cases q),fun _=>hr.hd,bL.frames_deeper e0.frames,.inr ⟨rfl,rfl⟩,fun b hb=>qS (show b∈([]:List ai) from hb) (by simp),fun b o e=>⟨(e0.bs b o e).1,cutN b (e0.bs b o e).2⟩,e0.bsz,fun b o e hb=>qS (show b∈([]:List ai) from hb) (by simp),fun b hb=>qS (show b∈([]:List ai) from hb) (by simp),e0.funs,fun b hb=>cutN b (e0.frf b hb)⟩;have hy:scope.names.lookup y=some .cell∨scope.names.lookup y=some .free:=hy
  rcases hy with hy | hy
  ·exact qS rfl (iK _ (cg hy))
  ·exact hcl _ (cg hy) rfl
 have cellAt:∀ c o,fz c=some o→h₁.get? c=some o:=fun c o z=>old _ _ (e0.hok c _ (Z c o z)).1
 have I1:Inv (cxLm P w K mg base q scope cl s.heap.objs.size f (.ref cd) (x::fr) A outer s (ctF H fz)) [] (some v::ws.map some) (ctF H fz) { s with heap:=h₁,toks:=s.toks+1 }:=by
  refine ⟨ok',rfl,e0.bare,Un.kept old,⟨_,hns,fun i y v' e1 e2 e3=>?_⟩,fun y c e=>?_,hokc.fresh (aA _),fun y c e=>?_,fun p hp=>qS (show p∈([]:List (ai×Obj)) from hp) (by simp),hokc.kept old,?_⟩
  ·cases i with
   | zero =>
    have e1:some x=some y:=e1;have e2:some (some v)=some (some v'):=e2;cases e1;cases e2;exact ⟨u,ru,.inl ⟨hx,by show dk x [(x,u)]=_;rw [de,beq_self_eq_true]⟩⟩
   | succ i =>
    have e1:fr[i]? =some y:=e1;have e2:(ws.map some)[i]? =some (some v'):=e2;rw [az] at e2;obtain ⟨v2,e2,e4⟩:=bq.mp e2;cases e4;obtain ⟨c,o,u',z1,z2,z3,z4⟩:=C.val i y v' e1 e2;exact ⟨u',z4,.inr ⟨.inr (hfv y (aY e1)),c,z1,o,cellAt c o z2,z3⟩⟩
  ·obtain ⟨o,z⟩:=C.all y c e
   obtain ⟨v',hv'⟩:=C.cell c o z;exact ⟨v',o,cellAt c o z,hv'⟩
  ·obtain ⟨o,z⟩:=C.all y c e
   exact qL z
  ·show (some v::ws.map some).length=(x::fr).length
   rw [aM,aM,ae,C.len]
 refine bP (hb _ _ A outer s (ctF H fz) (hr.deeper _) [] _ _ (ctF H fz) _ I1 ht) (fun y s' hs=>?_) fun _ _ z=>z.elim
 obtain ⟨v',H',J,rv,qv⟩:=hs;have JB:Un (frs outer) [] (ctF H fz) H' s.heap s'.heap:=J.base;have heapAt:∀ b o,fz b=some o→s'.heap.get? b=some o:=fun b o z=>JB.keep b o (e0.hok b _ (Z b o z)).1 (qL z) (fun hb=>by have:=e0.frf b hb;rw [Z b o z] at this;cases this) (by simp)
 have freeAt:∀ b o,fz b=some o→H' b=none:=fun b o z=>JB.free b o (e0.hok b _ (Z b o z)).1 (qL z) (by simp)
 exact ⟨v',ptF H' fz,J.os,J.bare,Un.froze JB Z,HOk.ptF J.hok freeAt heapAt,rv,qv freeAt⟩
def tLam (i:Nat)(f:ai)(Hf:Hp→Prop)(sp:Sp)(t:TE):TE:=fun σ H Q=>σ[i]? =some (some (.ref f))∧Hf H∧t σ H fun v H1=>Hf H1∧sp [v] H1 Q E0
theorem pe_callV {k:Nat}{p:Pos}{t:TE}{sp:Sp}(L:LmOk X.prog X.w X.K X.mg X.base k f Hf sp)(hr:iA k X.A)(ha:PE X e t)(hN:X.N[i]? =some x:=by rfl)(hv:Vis X.env.scope x:=by first | exact Or.inl rfl | exact Or.inr (.inl rfl) | exact Or.inr (.inr rfl))
  (hd:(x == ("__debug__" :Str))=false:=by decide) (hcd:(x == ("__classdict__" :Str))=false:=by decide) (he:br [e] X.env=[(false,dH e X.env)]:=by rfl):PE X (.Call (.Name x p) [e] [] pos) (tLam i f Hf sp t):=by
 intro aH s σ H Q I ⟨h1,h2,h3⟩;refine cY (thn (pe_var hN hv hd hcd aH s σ H (fun v H1=>v= .ref f∧H1=H) I ⟨_,h1,rfl,rfl⟩) fun u s1 ⟨v,H1,I1,r1,e1,e2⟩=>?_);subst e1;subst e2;cases r1;refine callWith_F (L.isFn _ _ h2 I1.hok) (thn ((ak ha aI he) pos aH s1 σ H1 (fun vs H2=>match vs with | [v]=>Hf H2∧sp [v] H2 Q E0 | _=>False) I1 h3) fun us s2 ⟨vs,H2,I2,r2,q2⟩=>?_) he rfl
 ·obtain _ | ⟨v,_ | ⟨v',vs⟩⟩:=vs
  ·exact q2.elim
  rotate_left
  ·exact q2.elim
  obtain ⟨h4,h5⟩:=q2;obtain ⟨u,rfl,ru⟩:=r2.one;refine ⟨L.isFn _ _ h4 I2.hok,gF (g9 (L.run X.A X.stack s2 H2 u v Q hr I2.env0 h4 ru h5) fun r s' hq=>?_)⟩;cases r with
  | error e=>exact cf hq
  | ok fl =>
   cases fl with
   | ret u=>exact I2.after hq
   | next=>exact cf hq
   | brk=>exact cf hq
   | cont=>exact cf hq
def LamE (env:Env)(scope:eO)(cl:List (Str×ai)):Prop:=(∀ x c,cl.lookup x=some c→env.cells.lookup x=some c)∧∀ y∈scope.names,y.2= .free→cl.lookup y.1=env.cells.lookup y.1
def tLamb (env:Env)(T:ai)(lp:Pos)(params:eS)(body:Expr)(scope:eO):TE:=fun _ H Q=>LamT T lp (env.qual ++ "<lambda>") H∧∀ g cl H',Tb T H H'→LamT T lp (env.qual ++ "<lambda>") H'→LamF (env.qual ++ "<lambda>") params body scope cl g H'→LamE env scope cl→Q (.ref g) H'
def tCallZ (env:Env)(scope:eO)(fr:List Str)(js:List Nat)(sp:Sp)(t:TA):TE:=fun σ H Q=>t σ H fun vs H1=>∃ cl ws,LamE env scope cl∧cX σ js=ws.map some∧∀ fz,Clo cl fz fr ws→(∀ b o,fz b=some o→H1 b=none)→sp vs (ptF H1 fz) (fun y H'=>Fz fz H'→Q y (ctF H' fz)) E0
open Classical in
def oo (cl:List (Str×ai))(h:bz):ai→Option Obj:=fun b=>if ∃ x,cl.lookup x=some b then h.get? b else none
section
variable {σ:List (Option V)}
theorem pe_lam {c:ai}(hd:defaultsOf params X.env=([],[]))(mU:X.env.code= .ref c)(C:codeHdIn X.K c T=true)(B:BM X.mg X.base)
  (hfr:∀ y∈scope.names,y.2= .free→X.env.scope.names.lookup y.1=some .cell):PE X (.Lambda params body scope pos) (tLamb X.env T pos params body scope):=fun _ _ _ _ _ I ⟨L,h⟩ =>
 lam_make I hd mU C B hfr L fun f cl H' _ I' t1 T1 F c1 c2=>⟨.ref f,H',I',rfl,h f cl H' t1 T1 F ⟨c1,c2⟩⟩
theorem nP {b:ai}{o:Obj}(e:oo cl h b=some o):(∃ x,cl.lookup x=some b)∧h.get? b=some o:=by
 unfold oo at e;split at e
 ·rename_i z;exact ⟨z,e⟩
 ·cases e
theorem frzOf_of {b:ai}{o:Obj}(z:cl.lookup x=some b)(e:h.get? b=some o):oo cl h b=some o:=by
 unfold oo;rw [qR ⟨x,z⟩];exact e
theorem Inv.clo {ws:List V}(I:Inv X aH σ H s)(E:LamE X.env scope cl)(hws:cX σ js=ws.map some)(hjs:js.map (fun j=>X.N[j]?)=fr.map some)(hfv:∀ y∈fr,scope.names.lookup y=some .free)
  (hfr:∀ y∈scope.names,y.2= .free→X.env.scope.names.lookup y.1=some .cell):Clo cl (oo cl s.heap) fr ws:=by
 have lens:ws.length=fr.length:=by
  have e:=qW List.length hws;have e2:=qW List.length hjs;unfold cX at e;rw [ae,ae] at e e2;lia
 refine ⟨fun x c e=>?_,fun c o e=>?_,fun a b c e1 e2=>I.ok.inj a b c (E.1 a c e1) (E.1 b c e2),fun i y v e1 e2=>?_,lens⟩
 ·obtain ⟨v,o,ho,_⟩:=I.cell x c (E.1 x c e)
  exact ⟨o,frzOf_of e ho⟩
 ·obtain ⟨⟨x,hx⟩,ho⟩:=nP e
  obtain ⟨v,o',ho',hd⟩:=I.cell x c (E.1 x c hx);rw [ho] at ho';cases ho';exact ⟨v,hd⟩
 ·have e3:(cX σ js)[i]? =some (some v):=by rw [hws,az,e2];rfl
  unfold cX at e3;rw [az] at e3;obtain ⟨j,ej,e3⟩:=bq.mp e3;have hN:X.N[j]? =some y:=by
   have q:=qW (fun l=>l[i]?) hjs;simp only [az,ej,e1,fR] at q;exact bQ q
  have hσ:σ[j]? =some (some v):=by
   cases z:σ[j]? with
   | none=>rw [z] at e3;cases e3
   | some w=>rw [z] at e3;exact qW some e3
  have hm:=cg (hfv y (aY e1));have hce:X.env.scope.names.lookup y=some .cell:=hfr _ hm rfl;obtain ⟨m,_,hl⟩:=I.loc;obtain ⟨u',ru',look⟩:=hl j y v hN hσ (.inr (.inl hce))
  rcases look with ⟨k,_⟩ | ⟨_,c,ec,o,ho,hd⟩
  ·have k:X.env.scope.names.lookup y=some .local:=k
   rw [hce] at k;cases k
  ·have ecl:cl.lookup y=some c:=(E.2 _ hm rfl).trans ec
   exact ⟨c,o,u',ecl,frzOf_of ecl ho,hd,ru'⟩
theorem pe_callZ {p:Pos}{k:Nat}{sp:Sp}(F:cR X.prog X.w X.K X.mg X.base CX0 k f fd ps sp)(hr:iA k X.A)(hfn:∀ x,X.fn x=true)(hg:Gl X x)(hm:X.mg x=some (.ref f))(hk:cW X.K (.ref f)=true)(hb:md X.K fd ps [])
  (hjs:js.map (fun j=>X.N[j]?)=fr.map some) (hfv:∀ y∈fr,scope.names.lookup y=some .free) (hfr:∀ y∈scope.names,y.2= .free→X.env.scope.names.lookup y.1=some .cell)
  (ha:PA X (e::es) t) (hdb:(x == ("__debug__" :Str))=false:=by decide) (he:br (e::es) X.env=(false,dH e X.env)::br es X.env:=by rfl) (hpl:(fE pos (br es X.env)).any (·.1)=false:=by rfl) :
  PE X (.Call (.Name x p) (e::es) [] pos) (tCallZ X.env scope fr js sp t):=by
 intro aH s σ H Q I h;refine cY (lW I hg hm ?_ hdb);refine iS (h₀:=X.base) I.ok.mod.kin hk (thn (ha pos aH s σ H _ I h) fun us s1 ⟨vs,H1,I1,r,q⟩=>⟨I1.kIn,?_⟩) he hpl;obtain ⟨cl,ws,LE,hws,q⟩:=q;have C:=I1.clo LE hws hjs hfv hfr;have N:∀ b o,oo cl s1.heap b=some o→H1 b=none:=fun b o e=>by
  obtain ⟨⟨x,hx⟩,_⟩:=nP e;exact I1.freeC x b (LE.1 x b hx)
 have G:∀ b o,oo cl s1.heap b=some o→s1.heap.get? b=some o:=fun b o e=>(nP e).2
 have up:∀ b o,oo cl s1.heap b=some o→X.s₀.heap.objs.size≤b:=fun b o e=>by
  obtain ⟨⟨x,hx⟩,_⟩:=nP e;exact I1.ok.cab x b (hfn x) (LE.1 x b hx)
 have q:=q _ C N;have hl:us.length=ps.length:=by rw [←r.length];exact F.len _ _ _ _ q
 have e0:Env0 X.prog X.w X.K X.mg X.base X.A X.stack s1 (ptF H1 (oo cl s1.heap)):=by
  have e:=I1.env0;refine ⟨e.frames,e.mod,fun b o eb=>⟨(e.bs b o eb).1,?_⟩,e.bsz,e.funs,fun b hb=>?_,HOk.ptF e.hok N G,e.bare⟩
  ·cases z:oo cl s1.heap b with
   | none=>rw [gT z];exact (e.bs b o eb).2
   | some o' =>
    have h1:=up b o' z;have h2:=aE eb;have h3:=I1.ok.bsz;exact qS (aL h2 (aS h3 h1)) (eC _)
  ·cases z:oo cl s1.heap b with
   | none=>rw [gT z];exact e.frf b hb
   | some o' =>
    exfalso
    rcases aB.mp (I1.stkSub b hb) with el | hb'
    ·obtain ⟨v,hv⟩:=C.cell b o' z
     obtain ⟨m,⟨o2,es2,ep2,ho2,hd2,_⟩,_⟩:=I1.loc;have e1:=G b o' z;rw [el,ho2] at e1;cases e1;rw [hd2] at hv;cases hv
    ·obtain ⟨_,o2,ho2,_⟩:=I1.ok.funs.mem hb'
     have h1:=up b o' z;have h2:=aE ho2;exact qS (aL h2 h1) (eC _)
 refine gF (g9 (F.run X.A X.stack s1 _ ⟨us,[]⟩ us vs _ E0 hr e0 (by have:=hb s1 us I1.kIn (by rw [cK];exact hl);rw [cK] at this;exact this) r q) fun r' s' hq=>?_);cases r' with
 | error e=>exact cf hq
 | ok fl =>
  cases fl with
  | ret u =>
   obtain ⟨v,H',os,bare,un,hok,rv,qv⟩:=hq;have Z:Fz (oo cl s1.heap) H':=fun b o e=>un.frzs b o _ (pM e)
   exact I1.after ⟨v,ctF H' (oo cl s1.heap),os,bare,Un.thaw un N hok G,HOk.cut hok Z,rv,qv Z⟩
  | next=>exact cf hq
  | brk=>exact cf hq
  | cont=>exact cf hq
end
end L2
namespace HN
open PySem L2 PyProof.Rows
def TiedBy (sp:List Sn)(L k:Int):Prop:=∃ x∈sp,x.o - x.l≤L∧((x.s=k∧0≤x.g∧x.g<k)∨(x.g=k∧0≤x.s∧x.s<k))
def Narrow (m:Int)(sp:List Sn)(L:Int):Prop:=(∀ x∈sp,x.o - x.l≤L)∨∀ k,1≤k→k<m→TiedBy sp L k
theorem taken_at {sp:List Sn}{i:Nat}:∀ (π:List Nat) (c:List Int×List Nat),i∈(π.foldl (eN sp) c).2→i∈c.2∨∃ π1 π2,π=π1++i::π2∧tm (π1.foldl (eN sp) c).1 (sAt sp i).s≠tm (π1.foldl (eN sp) c).1 (sAt sp i).g
 | [],c,h=> .inl h
 | j::π,c,h=>by
  rw [bG] at h
  rcases taken_at π _ h with h | ⟨π1,π2,rfl,hne⟩
  ·obtain ⟨gs,tk⟩:=c
   rcases iG sp gs tk j with ⟨_,e⟩ | ⟨n,e⟩ <;> rw [e] at h
   ·exact .inl h
   ·rcases aK.mp h with h | h
    ·exact .inl h
    ·rw [ax.mp h]
     exact .inr ⟨[],π,rfl,n⟩
  ·exact .inr ⟨j::π1,π2,rfl,hne⟩
theorem qf {m:Nat}{sp:List Sn}{L:Int}{gs:List Int}(E:kO m sp)(meets:∀ x∈sp,x.o - x.l≤L→tm gs x.s=tm gs x.g)(ti:∀ k:Int,1≤k→k<m→TiedBy sp L k):∀ (n:Nat) (k:Int),0≤k→k<m→k.toNat≤n→tm gs k=tm gs 0
 | n,k,k0,k1,kn=>by
  by_cases z:k=0
  ·rw [z]
  ·obtain ⟨x,hx,hw,h⟩:=ti k (by lia) k1
   have e:=meets x hx hw
   rcases h with ⟨h1,h2,h3⟩ | ⟨h1,h2,h3⟩
   ·cases n with
    | zero=>lia
    | succ n =>
     rw [h1] at e;rw [e];exact qf E meets ti n x.g h2 (by lia) (by lia)
   ·cases n with
    | zero=>lia
    | succ n =>
     rw [h1] at e;rw [←e];exact qf E meets ti n x.s h2 (by lia) (by lia)
theorem frst_narrow {L:Int}(E:kO m sp)(N:Narrow (m:Int) sp L)(F:iM m sp l):∀ i∈l,i<sp.length∧(wkey sp i).1≤L:=by
 obtain ⟨_,π,O,pm⟩:=F;intro i hi;have hi:=pm.mem_iff.mp hi
 rcases taken_at π (jK m,[]) hi with h | ⟨π1,π2,e,h⟩
 ·cases h
 have hil:i<sp.length:=O.lt (by rw [e];simp);refine ⟨hil,?_⟩
 rcases N with N | N
 ·exact N _ (dQ hil)
 ·by_cases w:(wkey sp i).1≤L
  ·exact w
  exfalso;have w:L<(sAt sp i).o - (sAt sp i).l:=by
   have:¬ ((sAt sp i).o - (sAt sp i).l≤L):=w;lia
  have p1:∀ j∈π1,j<sp.length:=fun j hj=>O.lt (by rw [e];simp [hj])
  have meets:∀ x∈sp,x.o - x.l≤L→tm (π1.foldl (eN sp) (jK m,[])).1 x.s=tm (π1.foldl (eN sp) (jK m,[])).1 x.g:=by
   intro x hx hw;obtain ⟨j,hj,ej⟩:=iR hx;have ej:sAt sp j=x:=by
    unfold sAt;rw [ah,gE hj];exact ej
   have hjπ:j∈π:=O.1.mem_iff.mpr (bY.mpr hj);have hj1:j∈π1:=by
    rw [e] at hjπ
    rcases aK.mp hjπ with z | z
    ·exact z
    ·exfalso
     rcases aB.mp z with z | z
     ·rw [z] at ej;rw [ej] at w;lia
     ·have pw:=O.2
      rw [e] at pw;have:=(List.pairwise_cons.mp (List.pairwise_append.mp pw).2.1).1 j z;rw [ltP_iff] at this;unfold wkey at this;rw [ej] at this;lia
   have:=jY E π1 (jK m) [] (jq m) p1 j hj1;rw [ej] at this;exact this
  obtain ⟨a0,a1,b0,b1⟩:=E _ (dQ hil);refine h ?_;rw [qf E meets N _ _ a0 a1 (aA _),qf E meets N _ _ b0 b1 (aA _)]
end HN
namespace L2
open PySem PySem.W PySem.Spec PyProof.Rows
def CGrt (i j:Int):Prop:=i.natAbs<10 ^ 1000∧j.natAbs<10 ^ 1000
theorem bits_grt {x:Int}(h:x.natAbs<10 ^ 1000):jI x≤2 ^ 20:=by
 unfold jI;split
 ·exact bD _
 ·rename_i hx
  have h0 : x.natAbs ≠ 0 := fun z => hx (by have e : x = 0 := by lia
                                            rw [e];rfl)
  have h2:=(Nat.log2_lt h0).mpr (jH h (by trivial:10 ^ 1000<2 ^ 10000));have h3:(10000:Nat)+1≤2 ^ 20:=by decide
  lia
theorem ip_mulG:PIp X .Mult (fun x y H Q=>∃ i j,x= .int i∧y= .int j∧CGrt i j∧Q (.int (i * j)) H):=by
 intro aH s σ H x y v u Q I r1 r2 h;obtain ⟨i,j,e1,e2,hc,q⟩:=h;subst e1;subst e2;obtain ⟨t,rfl⟩:=r1;obtain ⟨t',rfl⟩:=r2;exact imul_int ⟨.int _,H,I.tok _,⟨_,rfl⟩,q⟩ (IntMulOk.of_bits (bits_grt hc.1) (bits_grt hc.2))
end L2
namespace L2
open PySem PySem.Spec PyProof.Rows
def Itvl (K:aq)(a:ai)(n:Nat):It :=
 ⟨fun i H=>∃ xs x,SqL K H a xs∧xs.length=n∧xs.reverse[i]? =some x,fun i H x H'=>H'=H∧∀ xs,SqL K H a xs→xs.reverse[i]? =some x,fun i _=>i=n⟩
theorem turn_revL (a it:ai)(n:Nat):Turn P w K tg (Itvl K a n) [it] it (fun i h=>h.IsRevIter it a ((n:Int) - 1 - (i:Nat))) where
 mem:=by simp
 obj:=fun i h st b hb=>by
  have e:b=it:=by simpa using hb
  subst e;obtain ⟨o,e,c,d⟩:=st;exact ⟨o,e,fun v z=>by rw [d] at z;cases z⟩
 keep:=fun i h h' st k=>st.at fun o e=>k it (by simp) o e
 item:=by
  intro X hP hw hK hc i aH s σ H E I hf st hg;subst hP hw hK;obtain ⟨xs,x,hq,hn,hx⟩:=hg;obtain ⟨its,rv,p,hz⟩:=I.list hq;have hi:i<xs.length:=by
   have:=(av.mp hx).1;rw [gw] at this;exact this
  have hx2:=hx;rw [List.getElem?_reverse hi] at hx2;obtain ⟨u,hu,ru⟩:=rv.get hx2;obtain ⟨f0,f1,f2,f3,f4,f5⟩:=hf it (by simp);have e:(n:Int) - 1 - (i:Nat)=((xs.length - 1 - i:Nat):Int):=by lia
  rw [e] at st;refine wpAny_pyNext_rev_item st p.isList (x:=u) (by simpa using hu) fun h' st' sb=>?_
  have I1:Inv X aH σ H { s with heap:=h' }:=I.turned (t':=s.toks) (fun b o hb e=>(sb.2 b hb).trans e) f0 f1 f3 f4 f5;obtain ⟨o,e2,c,d⟩:=id st';have e3:((xs.length - 1 - i:Nat):Int) - 1=(n:Int) - 1 - ((i+1:Nat):Int):=by lia
  rw [e3] at st';exact ⟨u,rfl,go_of (s:={ s with heap:=h' }) e2 c d (by decide) ⟨x,H,I1,ru,⟨rfl,fun ys hy=>by rw [I.list_inj hy hq];exact hx⟩,st',fun b hb=>(hf b hb).1⟩⟩
 done:=by
  intro X hP hw hK hc i aH s σ H E I hf st hg;subst hP hw hK;obtain ⟨f0,f1,f2,f3,f4,f5⟩:=hf it (by simp);have hg:i=n:=hg;have e:(n:Int) - 1 - (i:Nat)= -1:=by lia
  rw [e] at st;exact wpAny_pyNext_rev_end (I.ok.hd hc) st fun h' eb=>⟨rfl,I.turned (t':=s.toks) (fun b o hb e=>eb b o hb e) f0 f1 f3 f4 f5⟩
 self:=fun _ _ _ _ _ st h=>wpAny_pyIter_revIter st h
def iRevL (K:aq)(ta:TA):TI:=fun σ H R=>ta σ H fun vs H1=>∃ a xs,vs=[.ref a]∧SqL K H1 a xs∧R (Itvl K a xs.length) H1
theorem pi_revL {ta:TA}{p:Pos}(hg:Gl X "reversed")(hm:X.mg "reversed" =none)(ha:PA X [ea] ta)(hs:br [ea] X.env=[(false,dH ea X.env)]:=by rfl) :
  PI X tg (.Call (.Name "reversed" p) [ea] [] pos) (iRevL X.K ta):=by
 intro aH s σ H R I h;refine Call_ (mH I hg hm boot_reversed (fb (thn (ha pos aH s σ H _ I h) fun us s1 z=>?_) hs rfl));obtain ⟨vs,H1,I1,r1,q1⟩:=z;obtain ⟨a,xs,e,hA,q⟩:=q1;subst e;obtain ⟨u1,rfl,r2⟩:=vals1 r1;cases (show u1=aa.ref a from r2);obtain ⟨its,rv,pt',hz⟩:=I1.list hA;have hl:=rv.length;refine call_reversed_list pt'.isList ?_;have z1:(s1.heap.push (revObj a ((its.toArray.size:Int) - 1))).IsRevIter s1.heap.objs.size a ((xs.length:Int) - 1 - ((0:Nat):Int)):=by
  refine ⟨_,aU _ rfl,rfl,?_⟩;rw [aD,←hl,show (xs.length:Int) - 1 - ((0:Nat):Int)=(xs.length:Int) - 1 by lia];rfl
 refine wpAny_pyIter_revIter (s:={ s1 with heap:=s1.heap.push (revObj a ((its.toArray.size:Int) - 1)) }) z1 ⟨s1.heap.objs.size,[s1.heap.objs.size],_,Itvl X.K a xs.length,H1,rfl,I1.kept (t':=s1.toks) fun c o e=>ar _ e,turn_revL a _ _,z1,fun b hb=>?_,q⟩;have e:b=s1.heap.objs.size:=by simpa using hb
 subst e;exact I1.fpOk (aA _) (I1.hok.fresh (aA _))
theorem for_revL {tb:TS}{D:kO}(Pv:Nat→St→Hp→Prop)(h0:Pv 0 σ H)(hl:∀ i σ H,i≤xs.length→Pv i σ H→SqL K H a xs)
  (hs:∀ i x σ H,xs.reverse[i]? =some x→Pv i σ H→g x σ H fun σ2 H2=>tb { D with nx:=Pv (i+1),ct:=Pv (i+1),bk:=D.nx } σ2 H2) (hd:∀ σ H,Pv xs.length σ H→D.nx σ H) :
  ∃ W:Nat→Nat→St→Hp→Prop,(∃ m,W 0 m σ H)∧∀ i m σ H,W i m σ H →
   ((Itvl K a xs.length).stop i H∧D.nx σ H)∨((Itvl K a xs.length).go i H∧∃ N:St→Hp→Prop,(∀ σ' H',N σ' H'→∃ m',m'<m∧W (i+1) m' σ' H')∧∀ x H',(Itvl K a xs.length).yld i H x H'→g x σ H' fun σ2 H2=>tb { D with nx:=N,ct:=N,bk:=D.nx } σ2 H2):=by
 refine ⟨fun i m σ H=>m=xs.length - i∧i≤xs.length∧Pv i σ H,⟨xs.length,by simp,bD _,h0⟩,?_⟩;rintro i m σ H ⟨rfl,hi,p⟩;have q:=hl i σ H hi p
 by_cases e:i=xs.length
 ·subst e
  exact .inl ⟨rfl,hd σ H p⟩
 ·have hlt:i<xs.length:=gN hi e
  refine .inr ⟨⟨xs,_,q,rfl,gE (by rw [gw];exact hlt)⟩,Pv (i+1),fun σ' H' p'=>⟨xs.length - (i+1),by lia,rfl,by lia,p'⟩,fun x H' hy=>?_⟩;obtain ⟨rfl,hx⟩:=hy;exact hs i x σ _ (hx xs q) p
theorem thou_le (h:n≤1001):n≤aP:=aS h (by decide)
inductive rInsert (x:V)(vs:List V)(H:Hp)(Q:VK):Prop
 | mk (l xs k y:_)(_:x= .ref l)(_:vs=[.int k,y])(_:H l=some (.lst xs))(_:xs.length≤1000)(_:0≤k)(_:k≤xs.length)(_:Q .non (upd H l (.lst (xs.take k.toNat++y::xs.drop k.toNat))))
theorem mt_insert:MtM X "list.insert" rInsert:=by
 intro aH s σ H x vs v us Q I rx rv h;obtain ⟨l,xs,k,y,rfl,rfl,hH,hz,k0,k1,q⟩:=h;cases rx;obtain ⟨u,w',rfl,⟨t,rfl⟩,ru⟩:=vals2 rv;obtain ⟨z,its,n,r,hl,e⟩:=I.lstM hH;have hlen:its.length=xs.length:=r.length.symm;have hs:its.toArray.size≤aP:=by rw [aD];exact thou_le (by lia)
 have hf:cZ.List.listFitsIndex k=true:=by
  unfold cZ.List.listFitsIndex;simp only [cN,decide_eq_true_eq]
  constructor <;> lia
 refine call_meets kM ⟨_,e,rfl⟩ PySem.F.entry_list_insert (PySem.F.args_list_insert_3 _ _ _) (PySem.AutoSeq1.list_insert_list_int_val_1 l its.toArray n k t w' (by rw [hf];decide) hs) ⟨e,?_⟩;refine ⟨.non,_,I.lset (its':=its.take k.toNat++w'::its.drop k.toNat) hH e ?_ ((r.take _).append (.cons ru (r.drop _))) ?_,rfl,q⟩
 ·show (its.toArray.extract 0 (if k<0 then (k+(its.toArray.size:Int)).toNat else min k.toNat its.toArray.size)).push w'++its.toArray.extract (if k<0 then (k+(its.toArray.size:Int)).toNat else min k.toNat its.toArray.size)=(its.take k.toNat++w'::its.drop k.toNat).toArray
  rw [qQ (by lia),aD,Nat.min_eq_left (by lia)]
  apply Array.toList_inj.mp
  have ht:(its.drop k.toNat).take (its.length - k.toNat)=its.drop k.toNat:=ju (by rw [cM];lia);simp [ht]
 ·rw [au,aM,bH,cM]
  exact thou_le (by lia)
end L2
namespace HN
open PySem L2 PyProof.Rows
def Mv (p:ai)(H H':Hp):Prop:=(∀ b o,b≠p→H b=some o→H' b=some o)∧∃ n,H' p=some (.lst [.int n])
theorem Mv.trans {p:ai}(a:Mv p H H1)(b:Mv p H1 H2):Mv p H H2:=⟨fun c o hc e=>b.1 c o hc (a.1 c o hc e),b.2⟩
theorem Mv.new {p q:ai}(a:Mv p H H1)(hq:H1 q=none):Mv p H (upd H1 q o):=by
 obtain ⟨n,hn⟩:=a.2;exact ⟨fun c u hc e=>by rw [bc (bw (a.1 c u hc e) hq)];exact a.1 c u hc e,n,by rw [bc (bw hn hq)];exact hn⟩
theorem Mv.at {p q:ai}(a:Mv p H H1)(h:H q=some o)(hne:q≠p):H1 q=some o:=a.1 q o hne h
theorem Mv.then {p:ai}(a:Mv p H H1)(S:bJ H1 H2):Mv p H H2:=⟨fun c o hc e=>S _ _ (a.1 c o hc e),by obtain ⟨n,hn⟩:=a.2;exact ⟨n,S _ _ hn⟩⟩
theorem Mv.of {p:ai}{n:Int}(S:bJ H H1)(h:H1 p=some (.lst [.int n])):Mv p H H1:=⟨fun c o _ e=>S _ _ e,n,h⟩
theorem Mv.ne {p q:ai}(a:Mv p H H1)(hq:H1 q=none):q≠p:=fun z=>by obtain ⟨n,hn⟩:=a.2;rw [z,hn] at hq;cases hq
theorem bJ.mv {p:ai}(e:bJ H H1)(hp:H p=none)(m:Mv p H1 H2):bJ H H2:=fun b o q=>m.1 b o (fun z=>by rw [z,hp] at q;cases q) (e b o q)
theorem Mv.tupK {p:ai}{n:Int}(h:H p=some (.lst [.int n]))(a:Mv p H H1):lH H H1:=fun q xs e=>a.1 q _ (d7 e h nofun) e
inductive spTake (vs:List V)(H:Hp)(Q:VK)(_:XK):Prop
 | mk (p n m:_)(_:vs=[.ref p,.int m])(_:H p=some (.lst [.int n]))(_:0<m)(_:m<10 ^ 61)(_:∀ r H',0≤r→r<m→Mv p H H'→Q (.int r) H')
inductive spMix (vs:List V)(H:Hp)(Q:VK)(_:XK):Prop
 | mk (c k:_)(_:vs=[.int c,.int k])(_:0≤k)(_:k≤1000)(_:∀ n,Q (.int n) H)
inductive spPotT (K:aq)(vs:List V)(H:Hp)(Q:VK)(_:XK):Prop
 | mk (a:ai)(ns:List Int)(k:Int)(_:vs=[.ref a,.int k])(_:SqL K H a (ns.map V.int))(_:0≤k)(_:k≤100)(_:∀ n p,H p=none→Q (.ref p) (upd H p (.lst [.int n])))
abbrev sCell:cF:=top 53
abbrev sMix:cF:=top 54
abbrev sPotT:cF:=top 55
abbrev sTake:cF:=top 56
theorem scCell:cp pzd pzd (defScope sCell):=by trivial
theorem ok_cell (F:Fun K "_law_cell_at" "_law_cell_at" sCell f fd)(T:Nm mg):cR P w K mg base CX0 1 f fd pzd (spCell K):=by
 refine F.ok scCell (by contradiction) (fun cdv A outer s H vs Q E hr h=>?_);obtain ⟨a,ns,j,rfl,ha,hj,k⟩:=h;refine ⟨_,k9 (kh (dB op_lt (pv 1) (dO cz rfl T.len cj (ak (pv 0) aI)) (fg _)) (dE (cO (fB i5 (pv 0) (pv 1) (fun _ _=>rfl)))) gH) (dE (cO bR)),?_⟩;refine ⟨_,rfl,_,rfl,a,_,rfl,.inl ha,_,_,rfl,rfl,_,rfl,?_⟩;refine ite2 (fun h1=>?_) (fun h1=>?_)
 ·have h1:j<((ns.map V.int).length:Int):=qV h1
  obtain ⟨v,e1,e2⟩:=atI_in hj h1;obtain ⟨c,_,rfl⟩:=aW.mp e2;exact ⟨_,rfl,_,rfl,a,_,_,_,rfl,rfl,ha,e1,k c⟩
 ·exact k 0
theorem scTake:cp ["_law_pot_here","_law_most","_law_number"] pzm (defScope sTake):=by trivial
theorem ok_take (F:Fun K "_law_take" "_law_take" sTake f fd):cR P w K mg base CX0 1 f fd pzm spTake:=by
 refine F.ok scTake (by contradiction) (fun cdv A outer s H vs Q E hr h=>?_);obtain ⟨p,n,m,rfl,hp,h0,h1,k⟩:=h;refine ⟨_,k9 (psZ 2 scTake.nd (dv nG (fB i5 (pv 0) bR (fun _ _=>rfl)) (pv 1)))
  (k9 (ps_asg (dv op_fdivB (fB i5 (pv 0) bR (fun _ _=>rfl)) (pv 1)) (pg_sub (pv 0) bR set_list)) (dE (cO (pv 2)))),?_⟩
 refine ⟨_,rfl,p,_,_,_,rfl,rfl,SqL.of hp,aR (j:=0) rfl,_,rfl,_,_,rfl,rfl,h0,?_⟩;refine ⟨_,rfl,p,_,_,_,rfl,rfl,SqL.of hp,aR (j:=0) rfl,_,rfl,_,_,rfl,rfl,log_ok h0 h1,?_⟩;refine ⟨_,rfl,p,_,_,0,rfl,rfl,hp,rfl,?_⟩;refine ⟨_,rfl,k _ _ (dX _ (by lia)) (dA _ h0) ⟨fun b o hb e=>by rw [bc hb];exact e,n / m,aX⟩⟩
theorem scMix:cp ["_law_cell","_law_k","_law_number"] pzs (defScope sMix):=by trivial
theorem ok_mix (F:Fun K "_law_mixed" "_law_mixed" sMix f fd):cR P w K mg base CX0 1 f fd pzs spMix:=by
 refine F.ok scMix (by contradiction) (fun cdv A outer s H vs Q E hr h=>?_);obtain ⟨c,j,rfl,j0,j1,k⟩:=h;refine ⟨_,PSl.h (bg ⟨(psZ 2 scMix.nd (dv nG (dv ko (dv gG (dv gG (dv nG (pv 0) bR) (dv ko bR (pv 1))) bR) bR) bR))⟩
  (bg ⟨(psZ 2 scMix.nd (dv nG (dv gG (dv gG (dv ko (pv 2) (pv 2)) (dv ko bR (pv 1))) bR) bR))⟩
  (dF ⟨(cO (dv nG (dv ko (pv 2) bR) bR))⟩))),?_⟩
 refine ⟨_,rfl,_,_,rfl,rfl,(by show (0:Int)<2147483629;decide),_,rfl,_,_,rfl,rfl,.inl ⟨by decide,by decide⟩,_,_,rfl,rfl,_,_,rfl,rfl,_,_,rfl,rfl,.inr ⟨by decide,by decide⟩,_,_,rfl,rfl,(by show (0:Int)<2147483647;decide),?_⟩;refine ⟨_,rfl,_,rfl,_,_,rfl,rfl,.inl ?_,_,rfl,_,_,rfl,rfl,.inl ⟨by decide,by decide⟩,_,_,rfl,rfl,_,_,rfl,rfl,_,_,rfl,rfl,(by show (0:Int)<2147483587;decide),?_⟩
 ·have h1:=dX ((c % 2147483629+7919 * j+1) * 48271) (by decide:(2147483647:Int)≠0)
  have h2:=dA ((c % 2147483629+7919 * j+1) * 48271) (by decide:(0:Int)<2147483647);exact ⟨by lia,by lia⟩
 ·exact ⟨_,rfl,_,_,rfl,rfl,.inr ⟨by decide,by decide⟩,_,_,rfl,rfl,(by show (0:Int)<2147483629;decide),k _⟩
theorem scPotT:cp ["_law_script","_law_k","_law_cell","_law_number","_law_j"] pzd (defScope sPotT):=by trivial
theorem ok_potT (F:Fun K "_law_pot" "_law_pot" sPotT f fd)(T:Nm mg)(T2:Nt mg)(G1:Fn K mg "_law_cell_at" sCell pzd f1 fd1)(G2:Fn K mg "_law_mixed" sMix pzs f2 fd2):cR P w K mg base CX0 2 f fd pzd (spPotT K):=by
 have F1:cR P w K mg base CX0 1 f1 fd1 pzd (spCell K):=ok_cell G1.F T;have F2:cR P w K mg base CX0 1 f2 fd2 pzs spMix:=ok_mix G2.F;refine F.ok scPotT (by contradiction) (fun cdv A outer s H vs Q E hr h=>?_);obtain ⟨a,ns,j,rfl,ha,j0,j1,k⟩:=h;refine ⟨_,PSl.h (bg ⟨(psZ 2 scPotT.nd (pc1 G1 F1 hr (ak (pv 0) (ak (pv 1) aI))))⟩
  (bg ⟨(kh (dB qk (dv nG (pc1 G1 F1 hr (ak (pv 0) (ak bR aI))) bR) bR (fg _)) (dE (cO (jB (ak (pv 2) aI)))) gH)⟩
  (bg ⟨(psZ 3 scPotT.nd bR)⟩
  (bg ⟨(iW bM rfl (iZ rfl T2.range (ak bR aI)) (pgZ 4 scPotT.nd) (dE (psZ 3 scPotT.nd (dv gG (dv ko (pv 3) bR) (pc1 G2 F2 hr (ak (pv 2) (ak (dv gG (pv 1) (dv ko bR (pv 4))) aI)))))))⟩
  (dF ⟨(cO (jB (ak (pv 3) aI)))⟩))))),?_⟩
 refine ⟨_,rfl,_,rfl,a,ns,j,rfl,ha,j0,fun c=>?_⟩;refine ⟨_,rfl,a,ns,0,rfl,ha,by decide,fun c0=>⟨_,_,rfl,rfl,(by show (0:Int)<2;decide),rfl,_,rfl,?_⟩⟩;refine ite2 (fun _=>?_) (fun _=>?_)
 ·exact ⟨_,rfl,szZ1,fun p hp=>k _ p hp⟩
 ·refine ⟨9,rfl,by decide,by decide,l9 (n:=9) (fun i σ H2=>H2=H∧∃ n vj,σ=[some (.ref a),some (.int j),some (.int c),some (.int n),vj]) ⟨rfl,0,none,rfl⟩ ?_ ?_⟩
  ·rintro i σ H2 hi ⟨rfl,n,vj,rfl⟩
   refine ⟨_,rfl,_,_,rfl,rfl,.inr ⟨by decide,by decide⟩,_,rfl,_,rfl,_,rfl,_,_,rfl,rfl,.inl ⟨by decide,by decide⟩,_,_,rfl,rfl,c,_,rfl,by lia,by lia,fun n2=>⟨_,_,rfl,rfl,?_⟩⟩;exact ⟨rfl,_,_,rfl⟩
  ·rintro σ H2 ⟨rfl,n,vj,rfl⟩
   exact ⟨_,rfl,szZ1,fun p hp=>k _ p hp⟩
def nar (x:Sn):Bool:=decide (x.o - x.l≤8999)
def narI (sp:List Sn)(i:Nat):Bool:=nar (sAt sp i)
def pW (xs:List Sn):Int:=xs.foldr (fun x c=>(x.o - x.l+1) * c) 1
def manyW (ws:List Int):Int:=ws.foldl (fun c w=>c * (w+1)) 1
theorem pW_perm {l k:List Sn}(h:l.Perm k):pW l=pW k:=by
 induction h with
 | nil=>rfl
 | cons x _ ih=>show (x.o - x.l+1) * pW _=(x.o - x.l+1) * pW _;rw [ih]
 | swap x y l=>show (y.o - y.l+1) * ((x.o - x.l+1) * pW l)=(x.o - x.l+1) * ((y.o - y.l+1) * pW l);rw [←ja,←ja,Int.mul_comm (y.o - y.l+1)]
 | trans _ _ h1 h2=>exact h1.trans h2
theorem prodW_map (sp:List Sn):∀ (l:List Nat),jJ sp l=pW (l.map (sAt sp))
 | []=>rfl
 | i::l=>by rw [fW,prodW_map sp l];rfl
theorem sp_rng (sp:List Sn):(aQ sp.length).map (sAt sp)=sp:=by
 refine List.ext_getElem (by rw [ae,bo]) fun i h1 h2=>?_
 rw [jM,kF];unfold sAt;rw [ah,gE h2];rfl
theorem nar_map (sp:List Sn):((aQ sp.length).filter (narI sp)).map (sAt sp)=sp.filter nar:=by
 conv=>rhs;rw [←sp_rng sp]
 rw [List.filter_map];rfl
theorem prodW_sub {sp:List Sn}:∀ (l k:List Nat),l.Nodup→(∀ i∈l,i∈k)→k.length≤l.length→jJ sp l=jJ sp k
 | [],k,_,_,h=>by
  have:k=[]:=gC.mp (by simpa using h);rw [this]
 | a::l,k,nd,h,hl=>by
  have ha:=h a aZ;have nd':=bF.mp nd;have e:=prodW_sub (sp:=sp) l (k.erase a) nd'.2 (fun x hx=>(List.mem_erase_of_ne (show x≠a from fun z=>nd'.1 (by rw [←z];exact hx))).mpr (h x (aw _ hx))) (by rw [lN ha];rw [aM] at hl;lia);rw [prodW_perm sp (List.perm_cons_erase ha),fW,fW,e]
theorem frst_nodup' (F:iM m sp l):l.Nodup:=by
 obtain ⟨_,π,O,pm⟩:=F;refine pm.nodup_iff.mpr ?_;obtain ⟨more,h1,h2⟩:=gone_sorted (sp:=sp) π (jK m);have h1:(kB sp m π).2=more:=h1;rw [h1];exact (O.1.nodup_iff.mpr iF).sublist h2
theorem frst_len {L:Int}(E:kO m sp)(m0:0<m)(ti:∀ k:Int,1≤k→k<m→TiedBy sp L k)(F:iM m sp l):m≤l.length+1:=by
 obtain ⟨_,π,O,pm⟩:=F;have hv:∀ i∈π,i<sp.length:=fun i hi=>O.lt hi
 obtain ⟨D,nd,mem,lD⟩:=oU E π (jK m) [] (jq _) hv (Cnt.start _);have me:=jY E π (jK m) [] (jq _) hv;have lg:(π.foldl (eN sp) (jK m,[])).1.length=m:=(stepG_len _ _).trans (jq _);have meets:∀ x∈sp,x.o - x.l≤L→tm (π.foldl (eN sp) (jK m,[])).1 x.s=tm (π.foldl (eN sp) (jK m,[])).1 x.g:=fun x hx _=>by
  obtain ⟨j,hj,ej⟩:=iR hx;have ej:sAt sp j=x:=by
   unfold sAt;rw [ah,gE hj];exact ej
  have:=me j (O.1.mem_iff.mpr (bY.mpr hj))
  rwa [ej] at this
 have one:D.length≤1:=by
  have:=lP (k:=[tm (π.foldl (eN sp) (jK m,[])).1 0]) nd fun v hv=>by
   obtain ⟨k,k0,k1,ek⟩:=mem_tm ((mem v).mp hv);rw [←ek,qf E meets ti _ k k0 (by lia) (aA _)];simp
  exact this
 have pl:=pm.length_eq;have pl:l.length=(π.foldl (eN sp) (jK m,[])).2.length:=pl;lia
structure Chn (b:Int)(ws:List Int)(k:Nat)(sp:List Sn):Prop where
 all:∀ x∈sp,SnOk b (ws.length+1:Nat) x
 cnt:(sp.filter nar).length=k
 prd:pW (sp.filter nar)=manyW (ws.take k)
 tie:∀ j:Int,1≤j→j<k+1→TiedBy sp 8999 j
 ext:∀ x∈sp,nar x=false→x.w=0∧x.o - x.l=b - 1
 tab:∃ tt:List Int,tt.length=k+1∧∀ x∈sp,nar x=true→fT b tt x=0∧x.s≤k∧x.g≤k
section
variable {ws:List Int}{k:Nat}{x:Sn}
theorem put_perm (sp:List Sn)(x:Sn)(j:Nat):(sp.take j++x::sp.drop j).Perm (x::sp):=by
 have:=List.perm_middle (l₁:=sp.take j) (l₂:=sp.drop j) (a:=x)
 rwa [List.take_append_drop] at this
theorem Chn.perm {sp':List Sn}(h:Chn b ws k sp)(p:sp'.Perm sp):Chn b ws k sp' :=
 ⟨fun y hy=>h.all y (p.mem_iff.mp hy),by rw [(p.filter nar).length_eq];exact h.cnt,by rw [pW_perm (p.filter nar)];exact h.prd,fun j a c=>by
  obtain ⟨y,hy,r⟩:=h.tie j a c;exact ⟨y,p.mem_iff.mpr hy,r⟩,fun y hy=>h.ext y (p.mem_iff.mp hy),by
  obtain ⟨tt,a,c⟩:=h.tab;exact ⟨tt,a,fun y hy=>c y (p.mem_iff.mp hy)⟩⟩
theorem Chn.nil:Chn b ws 0 []:=⟨fun _ h=>qS h (by simp),rfl,rfl,fun j a c=>by lia,fun _ h=>qS h (by simp),[0],rfl,fun _ h=>qS h (by simp)⟩
theorem tm_ap {tt:List Int}{i:Int}(h0:0≤i)(h:i<tt.length):tm (tt++[z]) i=tm tt i:=by
 unfold tm;rw [ah,ah,eP (by lia)]
theorem tm_nw {tt:List Int}{k:Nat}(h:tt.length=k):tm (tt++[z]) k=z:=by
 unfold tm;rw [ah,cq,←h,bO (aA _),Nat.sub_self];rfl
theorem Chn.link (h:Chn b ws k sp)(b1:1≤b)(ok:SnOk b (ws.length+1:Nat) x)(hk:k<ws.length)(w:x.o - x.l=ws[k])(w9:ws[k]≤8999)(e:(x.s=k∧x.g=k+1)∨(x.g=k∧x.s=k+1))(j:Nat):Chn b ws (k+1) (sp.take j++x::sp.drop j):=by
 have nx:nar x=true:=qT (by lia);refine Chn.perm ?_ (put_perm sp x j);refine ⟨fun y hy=>?_,?_,?_,fun i a c=>?_,fun y hy n=>?_,?_⟩
 ·rcases aB.mp hy with rfl | z
  ·exact ok
  ·exact h.all y z
 ·rw [dZ,qR nx,aM,h.cnt]
 ·rw [dZ,qR nx]
  show (x.o - x.l+1) * pW _=_;rw [h.prd,w,bj,gE hk,Int.mul_comm];unfold manyW;rw [cQ];rfl
 ·by_cases z:i=k+1
  ·refine ⟨x,by simp,by lia,?_⟩
   rcases e with ⟨e1,e2⟩ | ⟨e1,e2⟩
   ·exact .inr ⟨by lia,by lia,by lia⟩
   ·exact .inl ⟨by lia,by lia,by lia⟩
  ·obtain ⟨y,hy,r⟩:=h.tie i a (by lia)
   exact ⟨y,aw _ hy,r⟩
 ·rcases aB.mp hy with rfl | z
  ·rw [nx] at n;cases n
  ·exact h.ext y z n
 ·obtain ⟨tt,lt,ht⟩:=h.tab
  have old:∀ z,∀ y∈sp,nar y=true→fT b (tt++[z]) y=0∧y.s≤(k+1:Nat)∧y.g≤(k+1:Nat):=fun z y hy ny=>by
   obtain ⟨a,c,d⟩:=ht y hy ny;have s:=h.all y hy;have:=s.s0;have:=s.g0;refine ⟨?_,by lia,by lia⟩;unfold fT at a ⊢;rw [tm_ap (by lia) (by lia),tm_ap (by lia) (by lia)];exact a
  have s0:=ok.s0;have g0:=ok.g0
  rcases e with ⟨e1,e2⟩ | ⟨e1,e2⟩
  ·refine ⟨tt++[tm tt k+x.l],by rw [au,lt];rfl,fun y hy ny=>?_⟩
   rcases aB.mp hy with rfl | z
   ·refine ⟨?_,by lia,by lia⟩
    unfold fT;rw [e1,e2,tm_ap (i:=(k:Int)) (by lia) (by lia),show ((k:Int)+1)=((k+1:Nat):Int) by lia,tm_nw lt,show tm tt k+y.l - tm tt k - y.l=0 by lia];exact Int.zero_emod b
   ·exact old _ y z ny
  ·refine ⟨tt++[tm tt k - x.l],by rw [au,lt];rfl,fun y hy ny=>?_⟩
   rcases aB.mp hy with rfl | z
   ·refine ⟨?_,by lia,by lia⟩
    unfold fT;rw [e1,e2,tm_ap (i:=(k:Int)) (by lia) (by lia),show ((k:Int)+1)=((k+1:Nat):Int) by lia,tm_nw lt,show tm tt k - (tm tt k - y.l) - y.l=0 by lia];exact Int.zero_emod b
   ·exact old _ y z ny
theorem Chn.free (h:Chn b ws k sp)(ok:SnOk b (ws.length+1:Nat) x)(b9:9001≤b)(w:x.o - x.l=b - 1)(w0:x.w=0)(j:Nat):Chn b ws k (sp.take j++x::sp.drop j):=by
 have nx:nar x=false:=qU (by lia);refine Chn.perm ?_ (put_perm sp x j);have ef:(x::sp).filter nar=sp.filter nar:=by rw [dZ,qQ (by rw [nx];exact aO)]
 refine ⟨fun y hy=>?_,by rw [ef];exact h.cnt,by rw [ef];exact h.prd,fun i a c=>?_,fun y hy n=>?_,?_⟩
 ·rcases aB.mp hy with rfl | z
  ·exact ok
  ·exact h.all y z
 ·obtain ⟨y,hy,r⟩:=h.tie i a c
  exact ⟨y,aw _ hy,r⟩
 ·rcases aB.mp hy with rfl | z
  ·exact ⟨w0,w⟩
  ·exact h.ext y z n
 ·obtain ⟨tt,lt,ht⟩:=h.tab
  refine ⟨tt,lt,fun y hy n=>?_⟩
  rcases aB.mp hy with rfl | z
  ·rw [nx] at n;cases n
  ·exact ht y z n
theorem Chn.cases (h:Chn b ws ws.length sp)(b9:9001≤b)(F:iM (ws.length+1) sp l):jJ sp l=manyW ws:=by
 have E:kO (ws.length+1) sp:=fun x hx=>by
  have s:=h.all x hx;exact ⟨s.s0,s.s1,s.g0,s.g1⟩
 have ti:∀ k:Int,1≤k→k<(ws.length+1:Nat)→TiedBy sp 8999 k:=fun k a c=>h.tie k a (by lia)
 have ln:=frst_len E (by lia) ti F;have na:=frst_narrow E (.inr ti) F;rw [prodW_sub l ((aQ sp.length).filter (narI sp)) (frst_nodup' F) (fun i hi=>cb.mpr ⟨bY.mpr (na i hi).1,qT (na i hi).2⟩) ?_,prodW_map,nar_map,h.prd,bh];have:=h.cnt;rw [←nar_map,ae] at this;lia
theorem Chn.waits (h:Chn b ws k sp)(b1:1≤b):∃ t,ki b t sp=true∧eJ b t sp=0:=by
 obtain ⟨tt,_,ht⟩:=h.tab;have each:∀ x∈sp,fT b tt x≤x.o - x.l∧x.w * fT b tt x=0:=fun x hx=>by
  have s:=h.all x hx;have lo:=s.lo;cases n:nar x with
  | true =>
   rw [(ht x hx n).1,fZ];exact ⟨by lia,rfl⟩
  | false =>
   obtain ⟨a,c⟩:=h.ext x hx n;have:=dA (tm tt x.g - tm tt x.s - x.l) (show 0<b by lia);have:fT b tt x<b:=this;rw [a,eG];exact ⟨by lia,rfl⟩
 refine ⟨tt,?_,?_⟩
 ·unfold ki
  rw [hW,jx];intro x hx;have:=(each x hx).1;unfold brk;simp only [decide_eq_true_eq];lia
 ·have:∀ l:List Sn,(∀ x∈l,x.w * fT b tt x=0)→eJ b tt l=0:=fun l=>by
   induction l with
   | nil=>intro _;rfl
   | cons y l ih =>
    intro hl;show y.w * fT b tt y+eJ b tt l=0;rw [hl y (by simp),ih fun z hz=>hl z (aw _ hz)];rfl
  exact this sp fun x hx=>(each x hx).2
end
abbrev sWithB:cF:=top 34
theorem cutU {i:Int}(hi:i=(n:Int)):cutV xs none (some i)=xs.take n:=by
 unfold cutV;subst hi;have e:=HT.sIx_nat xs.length xs.length n;rw [e];show (xs.drop 0).take (min n xs.length - 0)=xs.take n;rw [List.drop_zero,Nat.sub_zero]
 by_cases h:n≤xs.length
 ·rw [Nat.min_eq_left h]
 ·rw [Nat.min_eq_right (by lia),bh,ju (by lia)]
theorem cutF {i:Int}(hi:i=(n:Int)):cutV xs (some i) none=xs.drop n:=by
 unfold cutV;subst hi;have e:=HT.sIx_nat xs.length 0 n;rw [e];show (xs.drop (min n xs.length)).take (xs.length - min n xs.length)=xs.drop n
 by_cases h:n≤xs.length
 ·rw [Nat.min_eq_left h,ju (by rw [cM];lia)]
 ·rw [Nat.min_eq_right (by lia),List.drop_length,List.drop_of_length_le (by lia),List.take_nil]
theorem scWithB:cp pzo pzo (defScope sWithB):=by trivial
theorem ok_withB (F:Fun K "with_bound" "with_bound" sWithB f fd):cR P w K mg base CX0 1 f fd pzo spWithB:=by
 refine F.ok scWithB (by contradiction) (fun cdv A outer s H vs Q E hr h=>?_);obtain ⟨vb,n,lo,hi,bs,rfl,hb,hn,few,k⟩:=h;obtain ⟨pb,yb,rfl,hpb,hlb,rb⟩:=iV hb;refine ⟨_,PSl.h (dF ⟨(cO (dv oi (dv oi (oT sl_tupN (pv 0) po_none (po_some (pv 1))) (dU (ak (dU (ak (pv 2) (ak (pv 3) aI))) aI))) (oT sl_tupN (pv 0) (po_some (dv gG (pv 1) bR)) po_none)))⟩),?_⟩;have lyb:yb.length≤40:=by lia
 refine ⟨_,rfl,_,rfl,_,rfl,pb,_,rfl,hpb,fun qB HB SB hB=>⟨_,rfl,_,rfl,nS,fun q1 H1 S1 h1=>⟨szZ1,fun qC HC SC hC=>?_⟩⟩⟩;rw [cutU (n:=n) rfl] at hB;refine ⟨qB,qC,_,_,rfl,rfl,SC _ _ (S1 _ _ hB),hC,?_,fun qD HD SD hD=>?_⟩
 ·rw [bH];exact aS (by show min n yb.length+1≤1000;lia) (by decide)
 refine ⟨_,rfl,_,rfl,_,_,rfl,rfl,_,rfl,pb,_,rfl,SD _ _ (SC _ _ (S1 _ _ (SB _ _ hpb))),fun qE HE SE hE=>?_⟩;rw [cutF (n:=n+1) (by lia)] at hE;refine ⟨qD,qE,_,_,rfl,rfl,SE _ _ hD,hE,?_,fun qF HF SF hF=>?_⟩
 ·rw [au,bH,cM];exact aS (by show min n yb.length+1+(yb.length - (n+1))≤1000;lia) (by decide)
 have S1F:bJ H1 HF:=SC.trans (SD.trans (SE.trans SF));have SF':bJ H HF:=SB.trans (S1.trans S1F);refine k (.ref qF) HF SF' (.tup hF ?_);have e:bs.set n (lo,hi)=bs.take n++[(lo,hi)]++bs.drop (n+1):=by
  rw [List.set_eq_take_append_cons_drop,qR hn,List.append_assoc];rfl
 rw [e,aF,aF,List.map_take,List.map_drop];exact ((dM.takeN n (rb.same SF')).append (.cons (.tup (S1F _ _ h1) (dM.ints [lo,hi])) .nil)).append (dM.dropN (n+1) (rb.same SF'))
abbrev sWds:cF:=top 57
def NewN (H:Hp)(o:HO)(Q:VK):Prop:=∀ a H',H a=none→bJ H H'→H' a=some o→Q (.ref a) H'
theorem NewN.of {Q:VK}(h:NewN H o Q):∀ a,H a=none→Q (.ref a) (upd H a o):=fun a ha=>h a _ ha (bJ.put (bJ.refl H) ha) aX
theorem op_catN:OpR X (fM .Add) (fun x y H Q=>∃ l b xs zs,x= .ref l∧y= .ref b∧H l=some (.lst xs)∧H b=some (.lst zs)∧xs.length+zs.length≤aP∧NewN H (.lst (xs++zs)) Q) :=
 op_cat.imp fun _ _ _ _ ⟨l,b,xs,zs,e1,e2,e3,e4,e5,q⟩=>⟨l,b,xs,zs,e1,e2,e3,e4,e5,q.of⟩
theorem op_repN:OpR X (fM .Mult) (fun x y H Q=>∃ l k xs,x= .ref l∧y= .int k∧H l=some (.lst xs)∧ -(2 ^ 63)≤k∧k<2 ^ 63∧xs.length * k.toNat≤aP∧NewN H (.lst (bC k.toNat xs).flatten) Q) :=
 op_rep.imp fun _ _ _ _ ⟨l,k,xs,e1,e2,e3,e4,e5,e6,q⟩=>⟨l,k,xs,e1,e2,e3,e4,e5,e6,q.of⟩
theorem pe_lstN (h:PA X es t):PE X (.List es pos) (fun σ H Q=>t σ H fun xs H1=>xs.length≤aP∧NewN H1 (.lst xs) Q):=(jB h.cut).imp fun _ _ _ q=>⟨_,fun _ _ z=>⟨z.1,z.2.of⟩,q⟩
theorem t_setN (hN:X.N.Nodup)(hi:X.N[i]? =some x)(hx:Loc X.env.scope x)(he:PEs X e te)(hs:kf e (some (.Name x pos')) pos.line X.env=fj false:=by rfl)(hf:X.fn x=true∨X.env.scope.names.lookup x=some .local:=by first | exact .inl rfl | exact .inr rfl | assumption):PSt X (.Assign [.Name x pos'] e pos) (tAsg te (om i)):=⟨ps_set hN hi hx he.h hs hf⟩
theorem ji (h:PAs X es t):PEs X (.List es pos) (fun σ H Q=>t σ H fun xs H1=>xs.length≤aP∧NewN H1 (.lst xs) Q):=⟨pe_lstN h.h⟩
def WL (p:ai)(H:Hp)(z:V):Prop:=∃ (q:ai) (ws:List Int),z= .ref q∧H q=some (.lst (ws.map V.int))∧q≠p∧(1≤ws.length∧ws.length≤13∧∀ w∈ws,0≤w∧w≤8999)
theorem WL.same {p:ai}{z:V}(h:WL p H z)(S:bJ H H'):WL p H' z:=by
 obtain ⟨q,ws,a,b,c,d⟩:=h;exact ⟨q,ws,a,S _ _ b,c,d⟩
theorem WL.mv {p:ai}{z:V}(h:WL p H z)(M:Mv p H H'):WL p H' z:=by
 obtain ⟨q,ws,a,b,c,d⟩:=h;exact ⟨q,ws,a,M.at b c,c,d⟩
theorem WL.mk {p q:ai}(ws:List Int)(h0:H0 p=some o)(n:H0 q=none)(h:H q=some (.lst (ws.map V.int)))(g:1≤ws.length∧ws.length≤13∧∀ w∈ws,0≤w∧w≤8999):WL p H (.ref q):=⟨q,ws,rfl,h,fun z=>(by rw [z,h0] at n;cases n),g⟩
inductive spWds (K:aq)(vs:List V)(H:Hp)(Q:VK)(_:XK):Prop
 | mk (a:ai)(ns:List Int)(_:vs=[.ref a])(_:SqL K H a (ns.map V.int))(_:∀ (q:ai) (ws:List Int) (H':Hp),bJ H H'→H' q=some (.lst (ws.map V.int))→(1≤ws.length∧ws.length≤13∧∀ w∈ws,0≤w∧w≤8999)→Q (.ref q) H')
theorem scWds:cp ["_law_script","_law_pot_here","_law_some","_law_widths_here","_law_turn"] pze (defScope sWds):=by trivial
set_option maxHeartbeats 600000 in
theorem ok_wds (F:Fun K "_law_widths" "_law_widths" sWds f fd)(T:Nm mg)(T2:Nt mg)(G1:Fn K mg "_law_take" sTake pzm f1 fd1)(G2:Fn K mg "_law_pot" sPotT pzd f2 fd2)(F2:cR P w K mg base CX0 2 f2 fd2 pzd (spPotT K)):cR P w K mg base CX0 3 f fd pze (spWds K):=by
 have F1:cR P w K mg base CX0 1 f1 fd1 pzm spTake:=ok_take G1.F;refine F.ok scWds (by contradiction) (fun cdv A outer s H vs Q E hr h=>?_);obtain ⟨a,ns,rfl,ha,k⟩:=h;have hr1:iA 1 _:=hr.mono (by decide);refine ⟨_,PSl.h (bg ⟨(psZ 1 scWds.nd (pc1 G2 F2 hr (ak (pv 0) (ak bR aI))))⟩
  (bg (t_setN (i:=2) scWds.nd rfl (.inl rfl) (ji (cJ (ji (cJ fX lG)) (cJ (ji (cJ fX lG)) (cJ (ji (cJ fX (cJ fX lG))) (cJ (ji (cJ fX (cJ fX lG))) (cJ (ji (cJ fX (cJ fX (cJ fX lG)))) (cJ (ji (cJ fX (cJ fX (cJ fX lG)))) (cJ (ji (cJ fX (cJ fX (cJ fX (cJ fX lG))))) (cJ (ji (cJ fX (cJ fX (cJ fX (cJ fX lG))))) (cJ (k_op op_repN (ji (cJ fX lG)) fX) lG)))))))))))
  (bg (t_setN (i:=2) scWds.nd rfl (.inl rfl) (k_op op_catN ⟨pv 2⟩ (ji (cJ (ji (cJ fX (cJ fX (cJ fX (cJ fX (cJ fX (cJ fX lG))))))) (cJ (k_op op_repN (ji (cJ fX lG)) fX) (cJ (k_op op_catN (k_op op_repN (ji (cJ fX lG)) fX) (ji (cJ fX lG))) (cJ (k_op op_repN (ji (cJ fX lG)) fX) (cJ (ji (cJ fX (cJ fX (cJ fX lG)))) (cJ (ji (cJ fX (cJ fX (cJ fX lG)))) lG)))))))))
  (bg ⟨(iX (oh bB cE cB i4 (pv 2) (ak (pe_lstN (ak (pc1 G1 F1 hr1 (ak (pv 1) (ak bR aI))) aI)) aI)))⟩
  (bg ⟨(psZ 3 scWds.nd (fB i5 (pv 2) (dv nG (pc1 G1 F1 hr1 (ak (pv 1) (ak bR aI))) bR) (fun _ _=>rfl)))⟩
  (bg ⟨(ps_cutK (kh (dB qk (pc1 G1 F1 hr1 (ak (pv 1) (ak bR aI))) bR (fg _)) (dE (ps_setC (iy:=3) (fr:=["_law_pot_here"]) (js:=[1]) scWds.nd rfl (.inl rfl) rfl (iZ rfl T2.range (ak (dv gG bR (pc1 G1 F1 hr1 (ak (pv 1) (ak bR aI)))) aI)) (by trivial) rfl (by trivial) rfl (by exists sWds) (by trivial) rfl (by trivial) (fun _ _ _ _ _=>⟨(pc1 G1 F1 hr1 (ak (pv 1) (ak bR aI))),j8⟩))) gH))⟩
  (bg ⟨(psZ 4 scWds.nd (pc1 G1 F1 hr1 (ak (pv 1) (ak (dO cz rfl T.len cj (ak (pv 3) aI)) aI))))⟩
  (dF ⟨(cO (dv op_catL (oT sl_listA (pv 3) (po_some (pv 4)) po_none) (oT sl_listA (pv 3) po_none (po_some (pv 4)))))⟩)))))))),?_⟩
 refine ⟨_,rfl,a,ns,1,rfl,ha,by decide,by decide,fun n0 ph hph=>?_⟩;have SH:bJ H (upd H ph (.lst [.int n0])):=(bJ.refl H).put hph;have hp:(upd H ph (.lst [.int n0])) ph=some (.lst [.int n0]):=aX;generalize upd H ph (.lst [.int n0])=H0 at SH hp ⊢;refine ⟨szZ1,fun q1 H1 n1 S1 h1=>⟨szZ1,fun q2 H2 n2 S2 h2=>⟨nS,fun q3 H3 n3 S3 h3=>⟨nS,fun q4 H4 n4 S4 h4=>⟨(by show 3≤aP;decide),fun q5 H5 n5 S5 h5=>⟨(by show 3≤aP;decide),fun q6 H6 n6 S6 h6=>⟨szZ4,fun q7 H7 n7 S7 h7=>⟨szZ4,fun q8 H8 n8 S8 h8=>⟨szZ1,fun q9 H9 n9 S9 h9=>?_⟩⟩⟩⟩⟩⟩⟩⟩⟩;refine ⟨q9,6,_,rfl,rfl,h9,by decide,by decide,(by show 1 * 6≤aP;decide),fun q10 H10 n10 S10 h10=>⟨(by show 9≤aP;decide),fun L H11 nL S11 hL=>?_⟩⟩;have p1:=S1 _ _ hp;have p2:=S2 _ _ p1;have p3:=S3 _ _ p2;have p4:=S4 _ _ p3;have p5:=S5 _ _ p4;have p6:=S6 _ _ p5;have p7:=S7 _ _ p6;have p8:=S8 _ _ p7;have p9:=S9 _ _ p8;have p10:=S10 _ _ p9;have p11:=S11 _ _ p10;have w1:=WL.mk [4095] hp n1 h1 (by decide);have w2:=WL.mk [4096] p1 n2 h2 (by decide);have w3:=WL.mk [63,63] p2 n3 h3 (by decide);have w4:=WL.mk [63,64] p3 n4 h4 (by decide);have w5:=WL.mk [15,15,15] p4 n5 h5 (by decide);have w6:=WL.mk [15,15,16] p5 n6 h6 (by decide);have w7:=WL.mk [7,7,7,7] p6 n7 h7 (by decide);have w8:=WL.mk [7,7,7,8] p7 n8 h8 (by decide);have w10:=WL.mk (H:=H10) (bC 6 3) p9 n10 h10 (by decide);have T9:=S10.trans S11;have T8:=S9.trans T9;have T7:=S8.trans T8;have T6:=S7.trans T7;have T5:=S6.trans T6;have T4:=S5.trans T5;have T3:=S4.trans T4;have T2':=S3.trans T3;have T1:=S2.trans T2';have allA:∀ z∈[V.ref q1,.ref q2,.ref q3,.ref q4,.ref q5,.ref q6,.ref q7,.ref q8,.ref q10],WL ph H11 z:=fun z hz=>by
  simp only [aB,eZ,or_false] at hz
  rcases hz with rfl | rfl | rfl | rfl | rfl | rfl | rfl | rfl | rfl
  ·exact w1.same T1
  ·exact w2.same T2'
  ·exact w3.same T3
  ·exact w4.same T4
  ·exact w5.same T5
  ·exact w6.same T6
  ·exact w7.same T7
  ·exact w8.same T8
  ·exact w10.same S11
 have SA:bJ H H11:=SH.trans (S1.trans T1);clear w1 w2 w3 w4 w5 w6 w7 w8 w10 T9 T8 T7 T6 T5 T4 T3 T2' T1 S1 S2 S3 S4 S5 S6 S7 S8 S9 S10 S11 h1 h2 h3 h4 h5 h6 h7 h8 h9 h10 n1 n2 n3 n4 n5 n6 n7 n8 n9 n10 p1 p2 p3 p4 p5 p6 p7 p8 p9 p10 hp SH nL;generalize eA:[V.ref q1,V.ref q2,V.ref q3,V.ref q4,V.ref q5,V.ref q6,V.ref q7,V.ref q8,V.ref q10]=zA at hL allA ⊢;have lA:zA.length=9:=by rw [←eA];rfl
 clear eA;refine ⟨_,rfl,(by show 6≤aP;decide),fun r1 J1 n1 S1 h1=>⟨szZ1,fun r2 J2 n2 S2 h2=>?_⟩⟩;refine ⟨r2,12,_,rfl,rfl,h2,by decide,by decide,(by show 1 * 12≤aP;decide),fun r3 J3 n3 S3 h3=>⟨szZ1,fun r4 J4 n4 S4 h4=>?_⟩⟩;refine ⟨r4,11,_,rfl,rfl,h4,by decide,by decide,(by show 1 * 11≤aP;decide),fun r5 J5 n5 S5 h5=>⟨szZ1,fun r6 J6 n6 S6 h6=>?_⟩⟩;refine ⟨r5,r6,_,_,rfl,rfl,S6 _ _ h5,h6,(by show 12≤aP;decide),fun r7 J7 n7 S7 h7=>⟨szZ1,fun r8 J8 n8 S8 h8=>?_⟩⟩;refine ⟨r8,13,_,rfl,rfl,h8,by decide,by decide,(by show 1 * 13≤aP;decide),fun r9 J9 n9 S9 h9=>⟨(by show 3≤aP;decide),fun r10 JA n10 SX h10=>⟨(by show 3≤aP;decide),fun r11 JB n11 SB h11=>⟨(by show 6≤aP;decide),fun r12 JC n12 SC h12=>?_⟩⟩⟩⟩;have T10:=SB.trans SC;have T9:=SX.trans T10;have T8:=S9.trans T9;have T7:=S8.trans T8;have T6:=S7.trans T7;have T5:=S6.trans T6;have T4:=S5.trans T5;have T3:=S4.trans T4;have T2':=S3.trans T3;have T1:=S2.trans T2';have T0:=S1.trans T1;refine ⟨L,r12,_,_,rfl,rfl,T0 _ _ hL,h12,(by rw [lA];show 15≤aP;decide),fun L H1 n13 SD hL1=>?_⟩;have TD:=T0.trans SD;have f:∀ {H':Hp},bJ H11 H'→H' ph=some (.lst [.int n0]):=fun S=>S _ _ p11
 have U2:=S1.trans S2;have U3:=U2.trans S3;have U4:=U3.trans S4;have U5:=U4.trans S5;have U6:=U5.trans S6;have U7:=U6.trans S7;have U8:=U7.trans S8;have U9:=U8.trans S9;have UA:=U9.trans SX;have allz:∀ z∈zA++[V.ref r1,V.ref r3,V.ref r7,V.ref r9,V.ref r10,V.ref r11],WL ph H1 z:=fun z hz=>by
  rcases aK.mp hz with hz | hz
  ·exact (allA z hz).same TD
  simp only [aB,eZ,or_false] at hz
  rcases hz with rfl | rfl | rfl | rfl | rfl | rfl
  ·exact (WL.mk [3,3,3,3,3,4] p11 n1 h1 (by decide)).same (T1.trans SD)
  ·exact (WL.mk (H:=J3) (bC 12 1) (f U2) n3 h3 (by decide)).same (T3.trans SD)
  ·exact (WL.mk (H:=J7) [1,1,1,1,1,1,1,1,1,1,1,2] (f U6) n7 h7 (by decide)).same (T7.trans SD)
  ·exact (WL.mk (H:=J9) (bC 13 1) (f U8) n9 h9 (by decide)).same (T9.trans SD)
  ·exact (WL.mk [0,4095,0] (f U9) n10 h10 (by decide)).same (T10.trans SD)
  ·exact (WL.mk [0,4096,0] (f UA) n11 h11 (by decide)).same (SC.trans SD)
 have nL:L≠ph:=fun z=>by rw [z,T0 _ _ p11] at n13;cases n13
 have nLH:H L=none:=(SA.trans T0).free n13;have hp1:=TD _ _ p11;have S1':bJ H H1:=SA.trans TD;have lz:(zA++[V.ref r1,V.ref r3,V.ref r7,V.ref r9,V.ref r10,V.ref r11]).length=15:=by rw [au,lA];rfl
 clear T0 T1 T2' T3 T4 T5 T6 T7 T8 T9 T10 U2 U3 U4 U5 U6 U7 U8 U9 UA S1 S2 S3 S4 S5 S6 S7 S8 S9 SX SB SC SD h1 h2 h3 h4 h5 h6 h7 h8 h9 h10 h11 h12 n1 n2 n3 n4 n5 n6 n7 n8 n9 n10 n11 n12 n13 TD allA p11 hL SA f lA;generalize zA++[V.ref r1,V.ref r3,V.ref r7,V.ref r9,V.ref r10,V.ref r11]=zs at hL1 allz lz ⊢;have hL:=hL1;have S1:=S1';clear hL1 S1';refine ⟨_,rfl,.inl ⟨rfl,_,SqL.of hL⟩,_,rfl,ph,n0,9000,rfl,hp1,by decide,by decide,fun r2 H2 a2 c2 M2=>⟨szZ1,fun q3 H3 n3 S3 h3=>?_⟩⟩;obtain ⟨k2,hp2⟩:=M2.2;have hL3:=S3 _ _ (M2.at hL nL);refine ⟨L,zs,_,rfl,rfl,hL3,(by rw [lz];show 15<aP;decide),?_⟩;have w3:WL ph H3 (.ref q3):=WL.mk [r2] hp2 n3 h3 ⟨aA 1,(by show 1≤13;decide),fun x hx=>by rw [ax.mp hx];lia⟩;have SM:bJ H H3:=(bJ.mv S1 hph M2).trans S3;have q3L:q3≠L:=fun z=>by rw [z,M2.at hL nL] at n3;cases n3
 have wl:∀ z∈zs++[V.ref q3],WL ph (upd H3 L (.lst (zs++[.ref q3]))) z:=fun z hz=>by
  have keep:∀ z,WL ph H3 z→z≠ .ref L→WL ph (upd H3 L (.lst (zs++[.ref q3]))) z:=fun z h n=>by
   obtain ⟨q,ws,rfl,b,c,d⟩:=h;exact ⟨q,ws,rfl,by rw [bc (fun z=>n (by rw [z]))];exact b,c,d⟩
  rcases aK.mp hz with hz | hz
  ·refine keep z (((allz z hz).mv M2).same S3) fun e=>?_
   obtain ⟨q,ws,e',b,c,d⟩:=allz z hz;rw [e] at e';cases e';rw [hL] at b;cases b;rw [ae] at lz;lia
  ·rw [ax.mp hz]
   exact keep _ w3 fun e=>q3L (by cases e;rfl)
 have S4:bJ H (upd H3 L (.lst (zs++[.ref q3]))):=fun q o e=>by
  rw [bc (fun z=>by rw [z,nLH] at e;cases e)];exact SM q o e
 have hL4:(upd H3 L (.lst (zs++[.ref q3]))) L=some (.lst (zs++[.ref q3])):=aX;have hp4:(upd H3 L (.lst (zs++[.ref q3]))) ph=some (.lst [.int k2]):=by rw [bc (bX nL)];exact S3 _ _ hp2
 generalize upd H3 L (.lst (zs++[.ref q3]))=H4 at wl S4 hL4 hp4 ⊢;have lz':(zs++[V.ref q3]).length=16:=by rw [au,lz];rfl
 generalize zs++[V.ref q3]=zs at wl hL4 lz' ⊢;clear w3 SM S3 h3 hL3 M2 hp2 allz hL lz n3;refine ⟨_,rfl,_,rfl,ph,k2,20,rfl,hp4,by decide,by decide,fun r5 H5 a5 c5 M5=>⟨_,_,rfl,rfl,(by show (0:Int)<16;decide),?_⟩⟩;obtain ⟨z5,e5,m5⟩:=atI_in (xs:=zs) (r:=r5 % 16) (dX _ (by decide)) (by have:=dA r5 (show (0:Int)<16 by decide);lia);obtain ⟨q5,ws5,rfl,h5,n5,g5⟩:=(wl z5 m5).mv M5;refine ⟨L,_,_,_,rfl,rfl,SqL.of (M5.at hL4 nL),e5,?_⟩;have S5:bJ H H5:=bJ.mv S4 hph M5;obtain ⟨k5,hp5⟩:=M5.2;refine ⟨fun σ' H'=>bJ H H'∧∃ (q:ai) (ws:List Int) (k6:Int),H' ph=some (.lst [.int k6])∧H' q=some (.lst (ws.map V.int))∧q≠ph∧(1≤ws.length∧ws.length≤13∧∀ w∈ws,0≤w∧w≤8999)∧σ'=[some (.ref a),some (.ref ph),some (.ref L),some (.ref q),none],?_,?_⟩
 rotate_left
 ·refine ⟨_,rfl,ph,k5,4,rfl,hp5,by decide,by decide,fun r6 H6 a6 c6 M6=>⟨rfl,_,rfl,?_⟩⟩
  have S6:=bJ.mv S5 hph M6;obtain ⟨k6,hp6⟩:=M6.2;refine ite2 (fun _=>?_) (fun _=>⟨S6,q5,ws5,k6,hp6,M6.at h5 n5,n5,g5,rfl⟩);refine ⟨_,rfl,ph,k6,8,rfl,hp6,by decide,by decide,fun r7 H7 a7 c7 M7=>⟨_,_,rfl,rfl,_,rfl,(by show -2 ^ 62≤1+r7;lia),(by show 1+r7<2 ^ 62;lia),?_⟩⟩;have S7:=bJ.mv S6 hph M7;obtain ⟨k7,hp7⟩:=M7.2;refine mx (n:=(1+r7).toNat) (fun i zs HA=>Mv ph H7 HA∧∃ ts:List Int,zs=ts.map V.int∧ts.length=i∧∀ x∈ts,0≤x∧x≤8999) ⟨Mv.of (bJ.refl H7) hp7,[],rfl,rfl,fun _ h=>qS h (by simp)⟩ (fun i zs HA _ ⟨_,ts,e,hl,_⟩=>by rw [e,ae,hl];exact aA _) (fA (by lia)) (fun i zs HA hi ⟨MA,ts,eA,lA,allA⟩=>?_) (fun zs HA ⟨MA,ts,eA,lA,allA⟩ tq htq=>?_)
  ·refine jo ?_
   obtain ⟨nA,hpA⟩:=MA.2;refine ⟨_,rfl,ph,nA,12,rfl,hpA,by decide,by decide,fun r HB rb0 rb1 MB=>⟨MA.trans MB,ts++[r],by rw [eA,aF];rfl,by rw [au,lA];rfl,fun x hx=>?_⟩⟩
   rcases aK.mp hx with hx | hx
   ·exact allA x hx
   ·rw [ax.mp hx];lia
  ·subst eA
   obtain ⟨nA,hpA⟩:=MA.2;have nt:tq≠ph:=fun z=>by rw [z,hpA] at htq;cases htq
   exact ⟨(bJ.mv S7 hph MA).put htq,tq,ts,nA,by rw [bc (bX nt)];exact hpA,aX,nt,⟨by lia,by lia,allA⟩,rfl⟩
 clear h5 g5 wl hL4 S5 hp5;rintro σ' H6 ⟨S6,q,ws,k6,hp6,h6,nq,g6,rfl⟩;obtain ⟨g1,g2,g3⟩:=g6;refine ⟨_,rfl,_,rfl,q,_,rfl,.inl (SqL.of h6),ph,k6,_,rfl,hp6,(by rw [ae];lia),(by rw [ae];lia),fun r7 H7 a7 c7 M7=>?_⟩;rw [ae] at c7;have h7:=M7.at h6 nq;have S7:=bJ.mv S6 hph M7;refine ⟨_,rfl,_,rfl,_,rfl,q,_,rfl,SqL.of h7,fun q8 H8 S8 h8=>⟨_,rfl,_,rfl,_,rfl,q,_,rfl,SqL.of (S8 _ _ h7),fun q9 H9 S9 h9=>?_⟩⟩;have er:r7=(r7.toNat:Int):=by lia
 rw [cutF er,←List.map_drop] at h8;rw [cutU er,←List.map_take] at h9;refine ⟨q8,q9,_,_,rfl,rfl,S9 _ _ h8,h9,(by rw [ae,ae,cM,bH];exact fA (by lia)),fun q10 H10 S10 h10=>?_⟩;refine k q10 (ws.drop r7.toNat++ws.take r7.toNat) H10 (S7.trans (S8.trans (S9.trans S10))) (by rw [h10,aF]) ⟨?_,?_,fun x hx=>?_⟩
 ·rw [au,cM,bH];lia
 ·rw [au,cM,bH];lia
 ·rcases aK.mp hx with hx | hx
  ·exact g3 x (List.mem_of_mem_drop hx)
  ·exact g3 x (jZ hx)
abbrev sChn:cF:=top 58
inductive spChn (K:aq)(vs:List V)(H:Hp)(Q:VK)(_:XK):Prop
 | mk (a:ai)(ns:List Int)(_:vs=[.ref a])(_:SqL K H a (ns.map V.int))(_:∀ (q:ai) (v:V) (b m mn:Int) (sp:List Sn) (H':Hp),bJ H H'→H' q=some (.tup [v,.int mn])→IsD H' v (lM b m sp)→kd b m sp→(∀ l,iM m.toNat sp l→jJ sp l=mn)→(∃ t,ki b t sp=true∧eJ b t sp=0)→Q (.ref q) H')
theorem mM:cp ["_law_script","_law_widths_here","_law_pot_here","_law_beat","_law_spans","_law_k","_law_ends","_law_least","_law_start","_law_goal","_law_many","_law_width"] pze (defScope sChn):=by trivial
theorem ok_chn (F:Fun K "_law_chain" "_law_chain" sChn f fd)(T:Nm mg)(T2:Nt mg)(G1:Fn K mg "_law_take" sTake pzm f1 fd1)(G2:Fn K mg "_law_pot" sPotT pzd f2 fd2)(F2:cR P w K mg base CX0 2 f2 fd2 pzd (spPotT K))
  (G3:Fn K mg "_law_widths" sWds pze f3 fd3) (F3:cR P w K mg base CX0 3 f3 fd3 pze (spWds K)):cR P w K mg base CX0 4 f fd pze (spChn K):=by
 have F1:cR P w K mg base CX0 1 f1 fd1 pzm spTake:=ok_take G1.F;refine F.ok mM (by contradiction) (fun cdv A outer s H vs Q E hr h=>?_);obtain ⟨a,ns,rfl,ha,k⟩:=h;have hr1:iA 1 _:=hr.mono (by decide);have hr2:iA 2 _:=hr.mono (by decide);refine ⟨_,PSl.h (bg ⟨(psZ 1 mM.nd (pc1 G3 F3 hr (ak (pv 0) aI)))⟩
  (bg ⟨(psZ 2 mM.nd (pc1 G2 F2 hr2 (ak (pv 0) (ak bR aI))))⟩
  (bg ⟨(ps_cutK (psZ 3 mM.nd (dv gG bR (pc1 G1 F1 hr1 (ak (pv 2) (ak (dv op_pow bR bR) aI))))))⟩
  (bg ⟨(psZ 4 mM.nd (jB aI))⟩
  (bg ⟨(iW bM rfl (iZ rfl T2.range (ak (dO cz rfl T.len cj (ak (pv 1) aI)) aI)) (pgZ 5 mM.nd) (PSl.h (bg ⟨(ps_cutK (psZ 6 mM.nd (PEs.h (k_ix i5 (k_lstF (cJ ⟨dU (ak (pv 5) (ak (dv gG (pv 5) bR) aI))⟩ (cJ ⟨dU (ak (dv gG (pv 5) bR) (ak (pv 5) aI))⟩ lG))) ⟨pc1 G1 F1 hr1 (ak (pv 2) (ak bR aI))⟩ (fun _ _=>rfl)))))⟩
  (bg ⟨(psZ 7 mM.nd (pc1 G1 F1 hr1 (ak (pv 2) (ak (pv 3) aI))))⟩
  (dF ⟨(iX (oh bB kM PySem.F.type_list_insert mt_insert (pv 4) (ak (pc1 G1 F1 hr1 (ak (pv 2) (ak (dv gG (dO cz rfl T.len cj (ak (pv 4) aI)) bR) aI))) (ak (dv oi (pv 6) (dU (ak (pv 7) (ak (dv gG (pv 7) (fB i5 (pv 1) (pv 5) (fun _ _=>rfl))) (ak (pc1 G1 F1 hr1 (ak (pv 2) (ak bR aI))) aI))))) aI))))⟩)))))⟩
  (bg ⟨(iW bM rfl (iZ rfl T2.range (ak (pc1 G1 F1 hr1 (ak (pv 2) (ak bR aI))) aI)) (pgZ 5 mM.nd) (PSl.h (bg ⟨(psZ 8 mM.nd (pc1 G1 F1 hr1 (ak (pv 2) (ak (dv gG (dO cz rfl T.len cj (ak (pv 1) aI)) bR) aI))))⟩
  (bg ⟨(psZ 9 mM.nd (dv nG (dv gG (dv gG (pv 8) bR) (pc1 G1 F1 hr1 (ak (pv 2) (ak (dO cz rfl T.len cj (ak (pv 1) aI)) aI)))) (dv gG (dO cz rfl T.len cj (ak (pv 1) aI)) bR)))⟩
  (bg ⟨(psZ 7 mM.nd (pc1 G1 F1 hr1 (ak (pv 2) (ak (pv 3) aI))))⟩
  (dF ⟨(iX (oh bB kM PySem.F.type_list_insert mt_insert (pv 4) (ak (pc1 G1 F1 hr1 (ak (pv 2) (ak (dv gG (dO cz rfl T.len cj (ak (pv 4) aI)) bR) aI))) (ak (dU (ak (pv 8) (ak (pv 9) (ak (pv 7) (ak (dv op_sub (dv gG (pv 7) (pv 3)) bR) (ak bR aI)))))) aI))))⟩))))))⟩
  (bg ⟨(psZ 10 mM.nd bR)⟩
  (bg ⟨(iW bM rfl (jn (pv 1)) (pgZ 11 mM.nd) (dE (psZ 10 mM.nd (dv ko (pv 10) (dv gG (pv 11) bR)))))⟩
  (dF ⟨(cO (dU (ak (dU (ak (pv 3) (ak (dv gG (dO cz rfl T.len cj (ak (pv 1) aI)) bR) (ak (i3 kL rfl T.ttup boot_tuple (ak (pv 4) aI)) aI)))) (ak (pv 10) aI))))⟩))))))))),?_⟩
 refine ⟨_,rfl,a,ns,rfl,ha,fun wq ws H1 S1 h1 g=>?_⟩;obtain ⟨g1,g2,g3⟩:=g;refine ⟨_,rfl,a,ns,2,rfl,S1.seq ha,by decide,by decide,fun n0 ph hph=>?_⟩;have hphH:=S1.free hph;have S2:bJ H (upd H1 ph (.lst [.int n0])):=S1.put hph;have h2:(upd H1 ph (.lst [.int n0])) wq=some (.lst (ws.map V.int)):=by rw [bc (bw h1 hph)];exact h1
 have hp2:(upd H1 ph (.lst [.int n0])) ph=some (.lst [.int n0]):=aX;have nwp:wq≠ph:=bw h1 hph;generalize upd H1 ph (.lst [.int n0])=H2 at S2 h2 hp2 ⊢;refine ⟨fun σ' H'=>Mv ph H2 H'∧∃ b,9001≤b∧b≤9001+10 ^ 40∧σ'=[some (.ref a),some (.ref wq),some (.ref ph),some (.int b),none,none,none,none,none,none,none,none],?_,?_⟩
 rotate_left
 ·refine ⟨_,rfl,_,_,rfl,rfl,⟨by decide,by decide,by decide⟩,ph,n0,_,rfl,hp2,by decide,by decide,fun r H3 a3 c3 M3=>⟨_,_,rfl,rfl,?_⟩⟩
  have c3:r<10 ^ 40:=c3;exact ⟨M3,9001+r,by lia,by lia,rfl⟩
 rintro σ' H3 ⟨M3,b,b9,b40,rfl⟩;have S3:bJ H H3:=bJ.mv S2 hphH M3;have h3:=M3.at h2 nwp;obtain ⟨n3,hp3⟩:=M3.2;refine ⟨bD _,fun Ls hLs=>?_⟩;have S4:bJ H (upd H3 Ls (.lst [])):=S3.put hLs;have hL4:(upd H3 Ls (.lst [])) Ls=some (.lst []):=aX;have nLw:Ls≠wq:=bX (bw h3 hLs);have nLp:Ls≠ph:=bX (bw hp3 hLs);have hLH:H Ls=none:=S3.free hLs;have h4:(upd H3 Ls (.lst [])) wq=some (.lst (ws.map V.int)):=by rw [bc (bX nLw)];exact h3
 have hp4:(upd H3 Ls (.lst [])) ph=some (.lst [.int n3]):=by rw [bc (bX nLp)];exact hp3
 generalize upd H3 Ls (.lst [])=H4 at S4 hL4 h4 hp4 ⊢;clear M3 S3 h3 hp3 S2 h2 hp2 hLs;refine ⟨_,rfl,wq,_,rfl,.inl (SqL.of h4),_,rfl,(by rw [ae];lia),(by rw [ae];lia),?_⟩;rw [ae];obtain ⟨m,em⟩:∃ m:Int,m=((ws.length+1:Nat):Int):=⟨_,rfl⟩
 let St:=fun (H':Hp) (zs:List V) (sp:List Sn)=>bJ H H'∧H' wq=some (.lst (ws.map V.int))∧(∃ n,H' ph=some (.lst [.int n]))∧H' Ls=some (.lst zs)∧dM H' zs (fJ Sn.row sp)
 refine l9 (n:=ws.length) (fun i σ H'=>∃ (zs:List V) (sp:List Sn) (v5 v6 v7:Option V),St H' zs sp∧sp.length≤i∧Chn b ws i sp∧σ=[some (.ref a),some (.ref wq),some (.ref ph),some (.int b),some (.ref Ls),v5,v6,v7,none,none,none,none]) ⟨[],[],none,none,none,⟨S4,h4,⟨n3,hp4⟩,hL4,.nil⟩,aA _,Chn.nil,rfl⟩ ?_ ?_
 ·rintro i σ H5 hi ⟨zs,sp,v5,v6,v7,⟨S5,h5,⟨n5,hp5⟩,hL5,d5⟩,l5,C5,rfl⟩
  have lz:zs.length=sp.length:=by rw [d5.length];unfold fJ;rw [ae]
  refine ⟨fun σ' H'=>Mv ph H5 H'∧∃ (e:ai) (s g:Int),H' e=some (.tup [.int s,.int g])∧((s=i∧g=i+1)∨(g=i∧s=i+1))∧σ'=[some (.ref a),some (.ref wq),some (.ref ph),some (.int b),some (.ref Ls),some (.int (0+(i:Int))),some (.ref e),v7,none,none,none,none],?_,?_⟩
  rotate_left
  ·refine ⟨_,rfl,_,rfl,_,_,rfl,rfl,nS,fun t1 H6 S6 h6=>⟨_,rfl,_,_,rfl,rfl,_,rfl,nS,fun t2 H7 S7 h7=>⟨nS,fun q hq=>?_⟩⟩⟩
   have M7:Mv ph H5 H7:=(Mv.of (bJ.refl H5) hp5).then (S6.trans S7);have h6:=S7 _ _ h6;have nq:=M7.ne hq;have M8:=M7.new (o:= .lst [.ref t1,.ref t2]) hq;have S8:bJ H7 (upd H7 q (.lst [.ref t1,.ref t2])):=(bJ.refl H7).put hq;have h8:(upd H7 q (.lst [.ref t1,.ref t2])) q=some (.lst [.ref t1,.ref t2]):=aX;generalize upd H7 q (.lst [.ref t1,.ref t2])=H8 at M8 S8 h8 ⊢;obtain ⟨n8,hp8⟩:=M8.2;refine ⟨_,rfl,ph,n8,2,rfl,hp8,by decide,by decide,fun r H9 a9 c9 M9=>?_⟩;have h9:=M9.at h8 nq;have k6:=Mv.tupK hp8 M9 _ _ (S8 _ _ h6);have k7:=Mv.tupK hp8 M9 _ _ (S8 _ _ h7);have M9:=M8.trans M9;have c9:r<2:=c9;have er:r=0∨r=1:=by lia
   rcases er with rfl | rfl
   ·refine ⟨q,_,_,_,rfl,rfl,SqL.of h9,aR (j:=0) rfl,M9,t1,0+(i:Int),0+(i:Int)+1,k6,.inl ⟨by lia,by lia⟩,rfl⟩
   ·refine ⟨q,_,_,_,rfl,rfl,SqL.of h9,aR (j:=1) rfl,M9,t2,0+(i:Int)+1,0+(i:Int),k7,.inr ⟨by lia,by lia⟩,rfl⟩
  rintro σ' H6 ⟨M6,e,es,eg,he6,hsg,rfl⟩;obtain ⟨n6,hp6⟩:=M6.2;refine ⟨_,rfl,_,rfl,ph,n6,b,rfl,hp6,by lia,by lia,fun r7 H7 a7 c7 M7=>?_⟩;have he7:=Mv.tupK hp6 M7 _ _ he6;have M7:=M6.trans M7;obtain ⟨n7,hp7⟩:=M7.2;have hL7:=M7.at hL5 nLp;refine ⟨_,rfl,.inl ⟨rfl,_,SqL.of hL7⟩,_,rfl,_,rfl,Ls,_,rfl,.inl (SqL.of hL7),_,_,rfl,rfl,ph,n7,_,rfl,hp7,by lia,by lia,fun pl H8 pl0 pl1 M8=>?_⟩;have he8:=Mv.tupK hp7 M8 _ _ he7;have M8:=M7.trans M8;obtain ⟨n8,hp8⟩:=M8.2;refine ⟨_,rfl,_,rfl,_,rfl,_,rfl,_,rfl,wq,_,_,_,rfl,rfl,SqL.of (M8.at h5 nwp),(by rw [gO];exact aR (v:=V.int ws[i]) (by rw [az,gE hi];rfl)),_,_,rfl,rfl,_,rfl,ph,n8,9,rfl,hp8,by decide,by decide,fun r9 H9 a9 c9 M9=>?_⟩;have he9:=Mv.tupK hp8 M9 _ _ he8;have M9:=M8.trans M9;refine ⟨(by show 3≤aP;decide),fun c4 HA SA hA=>⟨e,c4,_,_,rfl,rfl,SA _ _ he9,hA,szZ5,fun t HB SB hB=>?_⟩⟩;have MB:=M9.then (SA.trans SB);have SMB:bJ H HB:=bJ.mv S5 hphH MB;obtain ⟨nB,hpB⟩:=MB.2;have hLB:=MB.at hL5 nLp;refine ⟨Ls,zs,pl,.ref t,rfl,rfl,hLB,by lia,pl0,by lia,?_⟩;have gi:=g3 ws[i] (bK hi);have KB:lH H5 HB:=Mv.tupK hp5 MB;have KC:lH HB (upd HB Ls (.lst (zs.take pl.toNat++ .ref t::zs.drop pl.toNat))):=fv hLB;have ok:SnOk b (ws.length+1:Nat) ⟨es,eg,r7,r7+ws[i],r9⟩:=⟨by show 0≤es;lia,by show es<_;lia,by show 0≤eg;lia,by show eg<_;lia,by show es≠eg;lia,a7,by show r7≤r7+ws[i];lia,by show r7+ws[i]<r7+b;lia,by show r7+ws[i]<10 ^ 60;lia,a9,by show r9≤1000000000000;lia⟩;refine ⟨zs.take pl.toNat++ .ref t::zs.drop pl.toNat,sp.take pl.toNat++⟨es,eg,r7,r7+ws[i],r9⟩::sp.drop pl.toNat,_,_,_,⟨fun q o e=>?_,by rw [bc (bX nLw)];exact MB.at h5 nwp,⟨nB,by rw [bc (bX nLp)];exact hpB⟩,aX,?_⟩,?_,C5.link (by lia) ok hi (by show r7+ws[i] - r7=ws[i];lia) gi.2 (by show (es=_∧eg=_)∨(eg=_∧es=_);lia) _,rfl⟩
  ·rw [bc (fun z=>by rw [z,hLH] at e;cases e)]
   exact SMB q o e
  ·have r:=eU (KB.trans KC) d5
   unfold fJ at r ⊢;rw [aF,bZ,List.map_take,List.map_drop];exact (dM.takeN _ r).append (.cons (.tup (KC _ _ hB) (dM.ints (Sn.row ⟨es,eg,r7,r7+ws[i],r9⟩))) (dM.dropN _ r))
  ·rw [au,aM,bH,cM]
   lia
 rintro σ H5 ⟨zs,sp,v5,v6,v7,⟨S5,h5,⟨n5,hp5⟩,hL5,d5⟩,l5,C5,rfl⟩;refine ⟨_,rfl,ph,n5,5,rfl,hp5,by decide,by decide,fun cn H6 cn0 cn1 M6=>⟨cn,rfl,by lia,by lia,?_⟩⟩;have S6:bJ H H6:=bJ.mv S5 hphH M6;have d6:=eU (Mv.tupK hp5 M6) d5;refine l9 (n:=cn.toNat) (fun i σ H'=>∃ (zs:List V) (sp:List Sn) (v5 v7 v8 v9:Option V),St H' zs sp∧sp.length≤13+i∧Chn b ws ws.length sp∧σ=[some (.ref a),some (.ref wq),some (.ref ph),some (.int b),some (.ref Ls),v5,v6,v7,v8,v9,none,none]) ⟨zs,sp,_,_,_,_,⟨S6,M6.at h5 nwp,M6.2,M6.at hL5 nLp,d6⟩,by lia,C5,rfl⟩ ?_ ?_
 ·clear d6 S6 M6 d5 hL5 hp5 h5 S5 C5 l5 zs sp
  rintro i σ H5 hi ⟨zs,sp,v5,v7,v8,v9,⟨S5,h5,⟨n5,hp5⟩,hL5,d5⟩,l5,C5,rfl⟩;have lz:zs.length=sp.length:=by rw [d5.length];unfold fJ;rw [ae]
  refine ⟨_,rfl,_,rfl,wq,_,rfl,.inl (SqL.of h5),_,_,rfl,rfl,ph,n5,_,rfl,hp5,by lia,(by rw [ae];lia),fun r1 H6 a1 c1 M6=>?_⟩;rw [ae] at c1;obtain ⟨n6,hp6⟩:=M6.2;refine ⟨_,rfl,_,_,rfl,rfl,_,rfl,_,rfl,wq,_,rfl,.inl (SqL.of (M6.at h5 nwp)),ph,n6,_,rfl,hp6,(by rw [ae];lia),(by rw [ae];lia),fun r2 H7 a2 c2 M7=>?_⟩;rw [ae] at c2;have M7:=M6.trans M7;refine ⟨_,_,rfl,rfl,_,rfl,wq,_,rfl,.inl (SqL.of (M7.at h5 nwp)),_,_,rfl,rfl,_,_,rfl,rfl,(by rw [ae];show (0:Int)<(ws.length:Int)+1;lia),?_⟩;rw [ae];have c1:r1<(ws.length:Int)+1:=c1;obtain ⟨g0,g1',g2'⟩:=goal_ok (m:=(ws.length:Int)+1) a1 c1 a2 (by lia);obtain ⟨gl,egl⟩:∃ gl,gl=(r1+1+r2) % ((ws.length:Int)+1):=⟨_,rfl⟩;rw [←egl] at g0 g1' g2';obtain ⟨n7,hp7⟩:=M7.2;refine ⟨_,rfl,_,rfl,ph,n7,b,rfl,hp7,by lia,by lia,fun r8 H8 a8 c8 M8=>?_⟩;have M8:=M7.trans M8;obtain ⟨n8,hp8⟩:=M8.2;have hL8:=M8.at hL5 nLp;refine ⟨_,rfl,.inl ⟨rfl,_,SqL.of hL8⟩,_,rfl,_,rfl,Ls,_,rfl,.inl (SqL.of hL8),_,_,rfl,rfl,ph,n8,_,rfl,hp8,by lia,by lia,fun pl H9 pl0 pl1 M9=>?_⟩;have M9:=M8.trans M9;refine ⟨_,rfl,_,rfl,_,rfl,_,rfl,_,rfl,_,_,rfl,rfl,_,_,rfl,rfl,szZ5,fun t HB SB hB=>?_⟩;have hB:HB t=some (.tup [.int r1,.int gl,.int r8,.int (r8+b - 1),.int 0]):=by rw [hB,egl]
  have MB:=M9.then SB;have SMB:bJ H HB:=bJ.mv S5 hphH MB;obtain ⟨nB,hpB⟩:=MB.2;have hLB:=MB.at hL5 nLp;refine ⟨Ls,zs,pl,.ref t,rfl,rfl,hLB,by lia,pl0,by lia,?_⟩;have KB:lH H5 HB:=Mv.tupK hp5 MB;have KC:lH HB (upd HB Ls (.lst (zs.take pl.toNat++ .ref t::zs.drop pl.toNat))):=fv hLB;have ok:SnOk b (ws.length+1:Nat) ⟨r1,gl,r8,r8+b - 1,0⟩:=⟨a1,by show r1<_;lia,g0,by show gl<_;lia,(fun z=>g2' z),a8,by show r8≤r8+b - 1;lia,by show r8+b - 1<r8+b;lia,by show r8+b - 1<10 ^ 60;lia,fH 0,by show (0:Int)≤1000000000000;decide⟩;refine ⟨zs.take pl.toNat++ .ref t::zs.drop pl.toNat,sp.take pl.toNat++⟨r1,gl,r8,r8+b - 1,0⟩::sp.drop pl.toNat,_,_,_,_,⟨fun q o e=>?_,by rw [bc (bX nLw)];exact MB.at h5 nwp,⟨nB,by rw [bc (bX nLp)];exact hpB⟩,aX,?_⟩,?_,C5.free ok b9 (by show r8+b - 1 - r8=b - 1;lia) rfl _,rfl⟩
  ·rw [bc (fun z=>by rw [z,hLH] at e;cases e)]
   exact SMB q o e
  ·have r:=eU (KB.trans KC) d5
   unfold fJ at r ⊢;rw [aF,bZ,List.map_take,List.map_drop];exact (dM.takeN _ r).append (.cons (.tup (KC _ _ hB) (dM.ints (Sn.row ⟨r1,gl,r8,r8+b - 1,0⟩))) (dM.dropN _ r))
  ·rw [au,aM,bH,cM]
   lia
 clear d6 S6 M6 d5 hL5 hp5 h5 S5 C5 l5 zs sp;rintro σ H6 ⟨zs,sp,v5,v7,v8,v9,⟨S6,h6,⟨n6,hp6⟩,hL6,d6⟩,l6,C6,rfl⟩;have lz:zs.length=sp.length:=by rw [d6.length];unfold fJ;rw [ae]
 refine ⟨_,rfl,wq,rfl,⟨_,SqL.of h6⟩,?_⟩;refine lF (K:=K) (a:=wq) (xs:=ws.map V.int) (fun i σ H'=>H'=H6∧∃ v11,σ=[some (.ref a),some (.ref wq),some (.ref ph),some (.int b),some (.ref Ls),v5,v6,v7,v8,v9,some (.int (manyW (ws.take i))),v11]) ⟨rfl,none,rfl⟩ (fun i σ H' _ ⟨e,_⟩=>by rw [e];exact SqL.of h6) ?_ ?_
 ·rintro i y σ _ hy ⟨rfl,v11,rfl⟩
  rw [az] at hy;obtain ⟨z,ez,rfl⟩:=bq.mp hy;have gz:=g3 z (aY ez);refine ⟨_,rfl,_,rfl,_,_,rfl,rfl,_,_,rfl,rfl,.inr ⟨by lia,by lia⟩,rfl,some (.int z),?_⟩;rw [bj,ez];unfold manyW;rw [cQ];rfl
 rintro σ _ ⟨rfl,v11,rfl⟩;rw [ae,bh];refine ⟨_,rfl,_,rfl,wq,_,rfl,.inl (SqL.of h6),_,_,rfl,rfl,_,rfl,Ls,_,rfl,SqL.of hL6,fun qB HB SB hB=>⟨(by show 3≤aP;decide),fun tC HC SC hC=>⟨_,rfl,nS,fun tF HF SF hF=>?_⟩⟩⟩;have SBF:=SB.trans (SC.trans SF);rw [ae] at hC;have em':(ws.length:Int)+1=m:=by lia
 have hC:HC tC=some (.tup [.int b,.int m,.ref qB]):=by rw [hC,←em']
 have C6':=C6.all;have N:kd b m sp:=⟨by lia,by lia,by lia,by lia,by lia,by rw [em];exact C6.all⟩;refine k tF (.ref tC) b m (manyW ws) sp HF (S6.trans SBF) hF (.tup (SF _ _ hC) (.cons (.int b) (.cons (.int m) (.cons (.tup (SF _ _ (SC _ _ hB)) (d6.same SBF)) .nil)))) N (fun l F=>C6.cases b9 (by rw [show ws.length+1=m.toNat by lia];exact F)) (C6.waits (by lia))
abbrev sSum:cF:=top 15
abbrev sBeats:cF:=top 16
theorem scSum:cp ["bounds","way","low","high","step","bound"] pzt (defScope sSum):=by trivial
theorem ok_sum (F:Fun K "sum_of" "sum_of" sSum f fd):cR P w K mg base CX0 1 f fd pzt spSum:=by
 refine F.ok scSum (by contradiction) (fun cdv A outer s H vs Q E hr h=>?_);obtain ⟨vb,vw,bs,ws,rfl,hb,hw,hin,k⟩:=h;obtain ⟨pb,yb,rfl,hpb,hlb,rb⟩:=iV hb;obtain ⟨pw,yw,rfl,hpw,hlw,rw'⟩:=iV hw;refine ⟨_,PSl.h (bg ⟨(psZ 2 scSum.nd bR)⟩
  (bg ⟨(psZ 3 scSum.nd bR)⟩
  (bg ⟨(iW bM rfl (mB (pv 1)) (pgZ 4 scSum.nd) (PSl.h (bg ⟨(psZ 5 scSum.nd (fB fm (pv 0) (ixZ (pv 4)) (fun _ _=>rfl)))⟩
  (dF ⟨(kh (dB qk (ixZ (pv 4)) bR (fg _)) (PSl.h (bg ⟨(pN (i:=2) scSum.nd rfl (.inl rfl) (ixZ (pv 5)) ip_add)⟩
  (dF ⟨(pN (i:=3) scSum.nd rfl (.inl rfl) (ixZ (pv 5)) ip_add)⟩))) (PSl.h (bg ⟨(pN (i:=2) scSum.nd rfl (.inl rfl) (ixZ (pv 5)) ip_sub)⟩
  (dF ⟨(pN (i:=3) scSum.nd rfl (.inl rfl) (ixZ (pv 5)) ip_sub)⟩))))⟩))))⟩
  (dF ⟨(cO (dU (ak (pv 2) (ak (pv 3) aI))))⟩)))),?_⟩
 refine ⟨_,rfl,pw,rfl,⟨_,SqT.of hpw⟩,?_⟩;refine pV (K:=K) (xs:=yw) (fun i σ H2=>H2=H∧∃ v4 v5,σ=[some (.ref pb),some (.ref pw),some (.int (fe bs (ws.take i))),some (.int (iq bs (ws.take i))),v4,v5]) ⟨rfl,none,none,rfl⟩ (fun i σ H2 _ ⟨e1,_⟩=>by rw [e1];exact SqT.of hpw) ?_ ?_
 ·rintro i y σ H2 hy ⟨rfl,v4,v5,rfl⟩
  have hi:i<ws.length:=by rw [←hlw];exact (av.mp hy).1
  obtain ⟨q,hq,hq2⟩:=kz rw' (gE hi);rw [hy] at hq;cases hq;obtain ⟨i1,d1⟩:=hin ws[i] (bK hi);have hm1:fe bs (ws.take (i+1))=fe bs (ws.take i)+qJ bs ws[i]:=by
   unfold fe;rw [bj,gE hi,aF,i9];simp
  have hm2:iq bs (ws.take (i+1))=iq bs (ws.take i)+l4 bs ws[i]:=by
   unfold iq;rw [bj,gE hi,aF,i9];simp
  obtain ⟨qb,hqb,hqb2⟩:=kz rb (gE i1);refine ⟨_,rfl,_,rfl,q,_,_,_,rfl,rfl,SqT.of hq2,aR (j:=0) rfl,pb,_,_,_,rfl,rfl,SqT.of hpb,aR (j:=ws[i].i) hqb,?_⟩;refine ⟨_,rfl,q,_,_,_,rfl,rfl,SqT.of hq2,aR (j:=1) rfl,rfl,_,rfl,?_⟩;refine ite2 (fun h1=>?_) (fun h1=>?_)
  ·have h1:ws[i].d=1:=by have:=qV h1;injection this
   refine ⟨_,rfl,_,rfl,qb,_,_,_,rfl,rfl,SqT.of hqb2,aR (j:=0) rfl,_,_,rfl,rfl,?_⟩;refine ⟨_,rfl,_,rfl,qb,_,_,_,rfl,rfl,SqT.of hqb2,aR (j:=1) rfl,_,_,rfl,rfl,rfl,some (.ref q),some (.ref qb),?_⟩;have l1:qJ bs ws[i]=bs[ws[i].i].1:=by unfold qJ;rw [gE i1];exact qR h1
   have l2:l4 bs ws[i]=bs[ws[i].i].2:=by unfold l4;rw [gE i1];exact qR h1
   rw [hm1,hm2,l1,l2];rfl
  ·have h1:ws[i].d≠1:=fun z=>h1 (qT (by rw [z]))
   refine ⟨_,rfl,_,rfl,qb,_,_,_,rfl,rfl,SqT.of hqb2,aR (j:=1) rfl,_,_,rfl,rfl,?_⟩;refine ⟨_,rfl,_,rfl,qb,_,_,_,rfl,rfl,SqT.of hqb2,aR (j:=0) rfl,_,_,rfl,rfl,rfl,some (.ref q),some (.ref qb),?_⟩;have l1:qJ bs ws[i]= -bs[ws[i].i].2:=by unfold qJ;rw [gE i1];exact qQ h1
   have l2:l4 bs ws[i]= -bs[ws[i].i].1:=by unfold l4;rw [gE i1];exact qQ h1
   rw [hm1,hm2,l1,l2,←Int.sub_eq_add_neg,←Int.sub_eq_add_neg];rfl
 ·rintro σ H2 ⟨rfl,v4,v5,rfl⟩
  rw [hlw,bh];exact ⟨_,rfl,_,rfl,nS,fun p3 H3 S3 h3=>k p3 H3 S3 h3⟩
theorem scBeats:cp ["net","bounds","ring","beat","ends"] pzb (defScope sBeats):=by trivial
theorem ok_beats (F:Fun K "beats_of" "beats_of" sBeats f fd)(G1:Fn K mg "sum_of" sSum pzt f1 fd1):cR P w K mg base CX0 2 f fd pzb pj:=by
 have F1:cR P w K mg base CX0 1 f1 fd1 pzt spSum:=ok_sum G1.F;refine F.ok scBeats (by contradiction) (fun cdv A outer s H vs Q E hr h=>?_);obtain ⟨vn,vb,vw,b,m,sp,bs,ws,rfl,hv,hb0,hb1,hb,hw,hin,k⟩:=h;obtain ⟨t,pn,ys,rfl,ht,_⟩:=gp hv;refine ⟨_,PSl.h (bg ⟨(psZ 3 scBeats.nd (ixZ (pv 0)))⟩
  (bg ⟨(psZ 4 scBeats.nd (pc1 G1 F1 hr (ak (pv 1) (ak (pv 2) aI))))⟩
  (dF ⟨(cO (dU (ak (pe_un un_neg (dv op_fdivB (pe_un un_neg (ixZ (pv 4))) (pv 3))) (ak (dv op_fdivB (ixZ (pv 4)) (pv 3)) aI))))⟩))),?_⟩
 refine ⟨_,rfl,t,_,_,_,rfl,rfl,SqT.of ht,aR (j:=0) rfl,?_⟩;refine ⟨_,rfl,_,rfl,vb,vw,bs,ws,rfl,hb,hw,hin,fun p1 H1 S1 h1=>?_⟩;refine ⟨_,rfl,p1,_,_,_,rfl,rfl,SqT.of h1,aR (j:=0) rfl,_,rfl,_,rfl,_,_,rfl,rfl,log_ok hb0 hb1,_,rfl,?_⟩;refine ⟨_,rfl,p1,_,_,_,rfl,rfl,SqT.of h1,aR (j:=1) rfl,_,rfl,_,_,rfl,rfl,log_ok hb0 hb1,nS,fun p2 H2 S2 h2=>k p2 H2 (S1.trans S2) h2⟩
abbrev sSure:cF:=top 18
theorem scSure:cp ["net","bounds","ring","beats"] pzb (defScope sSure):=by trivial
theorem ok_sure (F:Fun K "is_sure" "is_sure" sSure f fd)(G1:Fn K mg "beats_of" sBeats pzb f1 fd1)(F1:cR P w K mg base CX0 2 f1 fd1 pzb pj):cR P w K mg base CX0 3 f fd pzb spSure:=by
 refine F.ok scSure (by contradiction) (fun cdv A outer s H vs Q E hr h=>?_);obtain ⟨vn,vb,vw,b,m,sp,bs,ws,rfl,hv,hb0,hb1,hb,hw,hin,k⟩:=h;refine ⟨_,PSl.h (bg ⟨(psZ 3 scSure.nd (pc1 G1 F1 hr (ak (pv 0) (ak (pv 1) (ak (pv 2) aI)))))⟩
  (dF ⟨(cO (pe_cmpR qk (ixZ (pv 3)) (ixZ (pv 3)) (fg _)))⟩)),?_⟩
 refine ⟨_,rfl,_,rfl,_,rfl,vn,vb,vw,b,m,sp,bs,ws,rfl,hv,hb0,hb1,hb,hw,hin,fun p1 H1 S1 h1=>?_⟩;refine ⟨_,rfl,p1,_,_,_,rfl,rfl,SqT.of h1,aR (j:=0) rfl,_,rfl,p1,_,_,_,rfl,rfl,SqT.of h1,aR (j:=1) rfl,rfl,?_⟩;have e:decide (V.int (upB b (fe bs ws))=V.int (iq bs ws / b))=sureB b bs ws:=decide_eq_decide.mpr ⟨fun z=>by injection z,fun z=>by rw [z]⟩;have k1:=k H1 S1;rw [←e] at k1;exact k1
abbrev sOwn:cF:=top 35
abbrev sWorth:cF:=top 36
def rGetL:V→V→Hp→VK→Prop:=fun o i H Q=>∃ p xs k y,o= .ref p∧i= .int ((k:Nat):Int)∧H p=some (.lst xs)∧xs[k]? =some y∧Q y H
theorem get_listP:PGet X rGetL:=by
 intro aH s σ H o i ov iv Q I ro ri h;obtain ⟨p,xs,k,y,rfl,rfl,hp,hy,q⟩:=h;cases (show ov=aa.ref p from ro);obtain ⟨t,rfl⟩:=ri;obtain ⟨its,r,pl,hz⟩:=I.list (SqL.of (K:=X.K) hp);obtain ⟨u,hu,ru⟩:=r.get hy;have hl:=r.length;have hk:k<xs.length:=(av.mp hy).1;have l63:=line63;exact wpAny_getItem_list pl.isList (by lia) (by lia) (by simpa using hu) ⟨y,H,I,ru,q⟩
theorem row_of {r:Int×List Stp}(h:IsD H v (rowD r)):∃ q vw,v= .ref q∧H q=some (.tup [.int r.1,vw])∧IsD H vw (oy r.2):=by
 obtain ⟨q,xs,rfl,hq,rx⟩:=IsD.tup_of (show IsD H v (.tup [.int r.1,oy r.2]) from h);cases rx with
 | cons g1 gr=>cases gr with
  | cons g2 gr =>
   cases gr;cases g1;exact ⟨q,_,rfl,hq,g2⟩
theorem price_of (h:IsD H v (leafP (.price rows))):∃ p pr ys,v= .ref p∧H p=some (.tup [.str "price",.ref pr])∧H pr=some (.tup ys)∧dM H ys (rows.map rowD):=by
 obtain ⟨p,xs,rfl,hp,rx⟩:=IsD.tup_of (show IsD H v (.tup [.str "price",.tup (rows.map rowD)]) from h);cases rx with
 | cons g1 gr=>cases gr with
  | cons g2 gr =>
   cases gr;cases g1;obtain ⟨pr,ys,rfl,hpr,ry⟩:=g2.tup_of;exact ⟨p,pr,ys,rfl,hp,hpr,ry⟩
theorem fold_take {β:Type}(f:β→α→β)(b:β){xs:List α}(h:i<xs.length):(xs.take (i+1)).foldl f b=f ((xs.take i).foldl f b) xs[i]:=by
 rw [bj,gE h,cQ];rfl
theorem sum_take (f:α→Int){xs:List α}(h:i<xs.length):((xs.take (i+1)).map f).sum=((xs.take i).map f).sum+f xs[i]:=by
 rw [bj,gE h,aF,i9];simp
theorem sum_range (f:Nat→Int)(i:Nat):((aQ (i+1)).map f).sum=((aQ i).map f).sum+f i:=by
 rw [List.range_succ,aF,i9];simp
theorem scOwn:cp ["net","rows","prices","row","step"] ["net","rows"] (defScope sOwn):=by trivial
theorem ok_own (F:Fun K "own_prices" "own_prices" sOwn f fd):cR P w K mg base CX0 1 f fd ["net","rows"] spOwn:=by
 refine F.ok scOwn (by contradiction) (fun cdv A outer s H vs Q E hr h=>?_);obtain ⟨v,pr,b,m,sp,rows,rfl,hv,few,hrr,hok,k⟩:=h;obtain ⟨t,pn,ys,rfl,ht,hpn,hl,hy⟩:=gp hv;obtain ⟨pr',yr,e0,hpr,ry⟩:=hrr.tup_of;cases e0;have lr:yr.length=rows.length:=by rw [ry.length,ae]
 refine ⟨_,PSl.h (bg ⟨(ps_setC (iy:=2) (fr:=[]) (js:=[]) scOwn.nd rfl (.inl rfl) rfl (mB (ixZ (pv 0))) (by trivial) rfl (by trivial) rfl (by exists sOwn) (by trivial) rfl (by trivial) (fun _ _ _ _ _=>⟨(fB (r:=rIxT K) fm (pv 0) bR (fun _ _=>rfl)),j8⟩))⟩
  (bg ⟨(iW bM rfl (mB (pv 1)) (pgZ 3 scOwn.nd) (dE (iW bM rfl (mB (ixZ (pv 3))) (pgZ 4 scOwn.nd) (dE (ps_augS (pv 2) (ixZ (pv 4)) get_listP (dv ko (ixZ (pv 3)) (ixZ (pv 4))) ip_sub set_list)))))⟩
  (dF ⟨(cO (pv 2))⟩))),?_⟩
 refine ⟨_,rfl,t,_,_,_,rfl,rfl,SqT.of ht,aR (j:=2) rfl,pn,rfl,⟨_,SqT.of hpn⟩,?_⟩;refine oV (K:=K) (a:=pn) (xs:=ys) (fun i zs H2=>H2=H∧zs=((sp.take i).map Sn.w).map V.int) ⟨rfl,rfl⟩ (fun i zs H2 hi ⟨e1,e2⟩=>?_) (by rw [hl];exact fA (by lia)) (fun i x zs H2 hx ⟨e1,e2⟩=>?_) (fun zs H2 ⟨e1,e2⟩ D hD=>?_)
 ·subst e1
  refine ⟨SqT.of hpn,?_⟩;rw [e2,ae,ae,bH];lia
 ·subst e1
  have hi:i<sp.length:=by rw [←hl];exact (av.mp hx).1
  obtain ⟨q,hq,hq2⟩:=hy i sp[i] (gE hi);rw [hx] at hq;cases hq;refine jo ⟨_,rfl,q,_,_,_,rfl,rfl,SqT.of hq2,aR (j:=4) rfl,rfl,?_⟩;rw [e2,bj,gE hi,aF,aF];rfl
 subst e1;rw [hl,bh] at e2;subst e2;have S1:bJ H2 (upd H2 D (.lst ((sp.map Sn.w).map V.int))):=bJ.put (bJ.refl H2) hD;have hD1:(upd H2 D (.lst ((sp.map Sn.w).map V.int))) D=some (.lst ((sp.map Sn.w).map V.int)):=aX;generalize upd H2 D (.lst ((sp.map Sn.w).map V.int))=H1 at S1 hD1 ⊢;refine ⟨_,rfl,pr,rfl,⟨_,SqT.of (S1 _ _ hpr)⟩,?_⟩;refine pV (K:=K) (xs:=yr) (fun i σ H3=>bJ H2 H3∧(∃ v3 v4,σ=[some (.ref t),some (.ref pr),some (.ref D),v3,v4])∧H3 D=some (.lst (((rows.take i).foldl rowP (sp.map Sn.w)).map V.int))) ⟨S1,⟨none,none,rfl⟩,hD1⟩ (fun i σ H3 _ ⟨S3,_⟩=>SqT.of (S3 _ _ hpr)) ?_ ?_
 ·rintro i y σ H3 hy3 ⟨S3,⟨v3,v4,rfl⟩,hD3⟩
  have hi:i<rows.length:=by rw [←lr];exact (av.mp hy3).1
  obtain ⟨d,hd,dy⟩:=ry.get hy3;rw [az,gE hi] at hd;cases hd;obtain ⟨q,vw,rfl,hq,hw⟩:=row_of dy;obtain ⟨pw,yw,rfl,hpw,hlw,rw'⟩:=iV hw;have ok:=hok rows[i] (bK hi);obtain ⟨ps,hps⟩:∃ ps,ps=(rows.take i).foldl rowP (sp.map Sn.w):=⟨_,rfl⟩;have lps:ps.length=sp.length:=by rw [hps,rows_len,ae]
  rw [←hps] at hD3;refine ⟨_,rfl,q,_,_,_,rfl,rfl,SqT.of (S3 _ _ hq),aR (j:=1) rfl,pw,rfl,⟨_,SqT.of (S3 _ _ hpw)⟩,?_⟩;refine pV (K:=K) (xs:=yw) (fun j σ H4=>bJ H2 H4∧(∃ v4,σ=[some (.ref t),some (.ref pr),some (.ref D),some (.ref q),v4])∧H4 D=some (.lst (((rows[i].2.take j).foldl (kx rows[i].1) ps).map V.int))) ⟨S3,⟨_,rfl⟩,hD3⟩ (fun j σ H4 _ ⟨S4,_⟩=>SqT.of (S4 _ _ hpw)) ?_ ?_
  ·rintro j z σ H4 hz ⟨S4,⟨v4,rfl⟩,hD4⟩
   have hj:j<rows[i].2.length:=by rw [←hlw];exact (av.mp hz).1
   obtain ⟨q2,e2,h2⟩:=kz rw' (gE hj);rw [hz] at e2;cases e2;obtain ⟨i1,d1⟩:=ok.inn rows[i].2[j] (bK hj);obtain ⟨qs,hqs⟩:∃ qs,qs=(rows[i].2.take j).foldl (kx rows[i].1) ps:=⟨_,rfl⟩;have lqs:qs.length=sp.length:=by rw [hqs,lQ,lps]
   rw [←hqs] at hD4;have hgs:qs[rows[i].2[j].i]? =some (qs.getD rows[i].2[j].i 0):=by rw [ah,gE (by lia)];rfl
   refine ⟨_,rfl,_,rfl,q2,_,_,_,rfl,rfl,SqT.of (S4 _ _ h2),aR (j:=0) rfl,D,_,rows[i].2[j].i,_,rfl,rfl,hD4,by rw [az,hgs];rfl,_,rfl,q,_,_,_,rfl,rfl,SqT.of (S4 _ _ hq),aR (j:=0) rfl,_,rfl,q2,_,_,_,rfl,rfl,SqT.of (S4 _ _ h2),aR (j:=1) rfl,_,_,rfl,rfl,.inr ?_,_,_,rfl,rfl,D,_,_,rows[i].2[j].i,rfl,rfl,hD4,(by simp [ixN,lqs,i1]),?_⟩
   ·rcases d1 with d1 | d1 <;> rw [d1] <;> exact ⟨by decide,by decide⟩
   refine ⟨fun bb o e=>?_,⟨_,rfl⟩,?_⟩
   ·rw [bc (fun z=>by rw [z,hD] at e;cases e)]
    exact S4 _ _ e
   ·rw [aX,fold_take _ _ hj,←hqs]
    congr 2;unfold kx;rw [List.map_set]
  ·rintro σ H4 ⟨S4,⟨v4,rfl⟩,hD4⟩
   refine ⟨S4,⟨_,_,rfl⟩,?_⟩;rw [fold_take _ _ hi,←hps,hD4,hlw,bh];rfl
 ·rintro σ H3 ⟨S3,⟨v3,v4,rfl⟩,hD3⟩
  refine ⟨_,rfl,k D H3 S3 ?_⟩;rw [hD3,lr,bh];rfl
theorem lR:cp ["net","bounds","leaf","worth","row","price","bound","span"] pzu (defScope sWorth):=by trivial
theorem ok_worth (F:Fun K "worth_of" "worth_of" sWorth f fd)(T:Nm mg)(T2:Nt mg)(G1:Fn K mg "beats_of" sBeats pzb f1 fd1)(F1:cR P w K mg base CX0 2 f1 fd1 pzb pj)(G2:Fn K mg "own_prices" sOwn ["net","rows"] f2 fd2):cR P w K mg base CX0 3 f fd pzu spWorth:=by
 have F2:cR P w K mg base CX0 1 f2 fd2 ["net","rows"] spOwn:=ok_own G2.F;refine F.ok lR (by contradiction) (fun cdv A outer s H vs Q E hr h=>?_);obtain ⟨v,vb,vl,b,m,sp,bs,rows,rfl,W,k⟩:=h;have hr1:iA 1 _:=hr.mono (by decide);obtain ⟨hv,hb,hl0,b0,b61,lb,few,bu,hws,hok,lr41⟩:=W;obtain ⟨t,pn,ys,rfl,ht,hpn,hl,hy⟩:=gp hv;obtain ⟨p,pr,yr,rfl,hp,hpr,ry⟩:=price_of hl0;obtain ⟨pb,yb,rfl,hpb,hlb,rb⟩:=iV hb;have lr:yr.length=rows.length:=by rw [ry.length,ae]
 refine ⟨_,PSl.h (bg ⟨(psZ 3 lR.nd bR)⟩
  (bg ⟨(iW bM rfl (mB (ixZ (pv 2))) (pgZ 4 lR.nd) (dE (pN (i:=3) lR.nd rfl (.inl rfl) (dv op_mulB (dv ko (ixZ (pv 4)) (ixZ (pc1 G1 F1 hr (ak (pv 0) (ak (pv 1) (ak (ixZ (pv 4)) aI)))))) (ixZ (pv 0))) ip_add)))⟩
  (bg ⟨(iW bM rfl (pi_zip3 rfl T2.zip (ak (pc1 G2 F2 hr1 (ak (pv 0) (ak (ixZ (pv 2)) aI))) (ak (pv 1) (ak (ixZ (pv 0)) aI)))) (pg_tup rfl (jR (pgZ 5 lR.nd) (jR (pgZ 6 lR.nd) (jR (pgZ 7 lR.nd) pgs_nil)))) (dE (pN (i:=3) lR.nd rfl (.inl rfl) (dv op_sub (dv ko (pv 5) (mm (dB op_lt (pv 5) bR (fg _)) (ixZ (pv 6)) (ixZ (pv 6)))) (dv ko (ixZ (pv 7)) (ixZ (pv 7)))) ip_add)))⟩
  (dF ⟨(cO (pv 3))⟩)))),?_⟩
 refine ⟨_,rfl,p,_,_,_,rfl,rfl,SqT.of hp,aR (j:=1) rfl,pr,rfl,⟨_,SqT.of hpr⟩,?_⟩;refine pV (K:=K) (xs:=yr) (fun i σ H3=>bJ H H3∧∃ v4 v5 v6 v7,σ=[some (.ref t),some (.ref pb),some (.ref p),some (.int (oE b bs (rows.take i))),v4,v5,v6,v7]) ⟨bJ.refl H,none,none,none,none,rfl⟩ (fun i σ H3 _ ⟨S3,_⟩=>SqT.of (S3 _ _ hpr)) ?_ ?_
 ·rintro i y σ H3 hy3 ⟨S3,v4,v5,v6,v7,rfl⟩
  have hi:i<rows.length:=by rw [←lr];exact (av.mp hy3).1
  obtain ⟨d,hd,dy⟩:=ry.get hy3;rw [az,gE hi] at hd;cases hd;obtain ⟨q,vw,rfl,hq,hw⟩:=row_of dy;have ok:=hok rows[i] (bK hi);have u1:=up_abs (b:=b) (bs:=bs) (ws:=rows[i].2) b0 bu ok.few;have p1:=ok.lo;have p2:=ok.hi;refine ⟨_,rfl,_,rfl,q,_,_,_,rfl,rfl,SqT.of (S3 _ _ hq),aR (j:=0) rfl,_,rfl,_,rfl,_,rfl,q,_,_,_,rfl,rfl,SqT.of (S3 _ _ hq),aR (j:=1) rfl,.ref t,.ref pb,vw,b,m,sp,bs,rows[i].2,rfl,hv.same S3,b0,b61,hb.same S3,hw.same S3,by rw [lb];exact ok.inn,fun q5 H5 S5 h5=>?_⟩;refine ⟨q5,_,_,_,rfl,rfl,SqT.of h5,aR (j:=0) rfl,_,_,rfl,rfl,.inl ⟨by show -(2 ^ 64)<rows[i].1;lia,by show rows[i].1<2 ^ 64;lia⟩,_,rfl,t,_,_,_,rfl,rfl,SqT.of (S5 _ _ (S3 _ _ ht)),aR (j:=0) rfl,_,_,rfl,rfl,⟨?_,?_⟩,_,_,rfl,rfl,S3.trans S5,some (.ref q),v5,v6,v7,?_⟩
  ·rw [Int.natAbs_mul]
   have h1:rows[i].1.natAbs≤10 ^ 12:=by lia
   exact bT (Nat.mul_le_mul h1 u1) (by trivial)
  ·exact bT (by lia:b.natAbs≤10 ^ 61) (by trivial)
  ·unfold oE
   rw [sum_take _ hi];rfl
 rintro σ H3 ⟨S3,v4,v5,v6,v7,rfl⟩;rw [lr,bh];have hrr:IsD H3 (.ref pr) (.tup (rows.map rowD)):= .tup (S3 _ _ hpr) (ry.same S3);refine ⟨_,rfl,_,rfl,p,_,_,_,rfl,rfl,SqT.of (S3 _ _ hp),aR (j:=1) rfl,.ref t,pr,b,m,sp,rows,rfl,hv.same S3,few,hrr,hok,fun L H4 S4 hL=>?_⟩;have S04:=S3.trans S4;refine ⟨_,rfl,_,rfl,t,_,_,_,rfl,rfl,SqT.of (S04 _ _ ht),aR (j:=2) rfl,⟨true,L⟩,⟨false,pb⟩,⟨false,pn⟩,_,_,_,rfl,hL,S04 _ _ hpb,S04 _ _ hpn,?_⟩;have lo:=own_len sp rows;refine for_zip3 (c1:=⟨true,L⟩) (c2:=⟨false,pb⟩) (c3:=⟨false,pn⟩) (xs:=(ownM sp rows).map V.int) (ys:=yb) (zs:=ys) (fun i σ H5=>bJ H4 H5∧∃ v4 v5 v6 v7,σ=[some (.ref t),some (.ref pb),some (.ref p),some (.int (oE b bs rows+((aQ i).map (termW sp bs rows)).sum)),v4,v5,v6,v7]) ⟨bJ.refl H4,v4,v5,v6,v7,by simp⟩ (fun i σ H5 _ ⟨S5,_⟩=>⟨S5 _ _ hL,S5 _ _ (S04 _ _ hpb),S5 _ _ (S04 _ _ hpn)⟩) (by rw [ae];lia) (by rw [ae];lia) ?_ ?_
 ·rintro i x y z pz σ H5 hx hy5 hz ⟨S5,v4,v5,v6,v7,rfl⟩ hpz
  have hi:i<sp.length:=by rw [←hl];exact (av.mp hz).1
  have hib:i<bs.length:=by lia
  rw [az,gE (by lia)] at hx;cases hx;obtain ⟨qb,e1,h1⟩:=kz rb (gE hib);rw [hy5] at e1;cases e1;obtain ⟨qz,e2,h2⟩:=hy i sp[i] (gE hi);rw [hz] at e2;cases e2;have eo:(ownM sp rows)[i]=owK sp rows i:=by
   rw [←own_at hi hok,ah,gE (by lia)];rfl
  rw [eo];have S6:bJ H4 (upd H5 pz (.tup [.int (owK sp rows i),.ref qb,.ref qz])):=S5.put hpz;have h6:(upd H5 pz (.tup [.int (owK sp rows i),.ref qb,.ref qz])) pz=some (.tup [.int (owK sp rows i),.ref qb,.ref qz]):=aX;generalize upd H5 pz (.tup [.int (owK sp rows i),.ref qb,.ref qz])=H6 at S6 h6 ⊢;have S06:=S04.trans S6;have ob:=owK_abs (k:=i) hws hok lr41;have wx:=hws sp[i] (bK hi);have ew:wOf sp i=sp[i].w:=by unfold wOf;rw [gE hi]
  have el:lOf sp i=sp[i].l:=by unfold lOf;rw [gE hi]
  have eb:bs.getD i (0,0)=bs[i]:=by rw [ah,gE hib];rfl
  have et:termW sp bs rows i=owK sp rows i * (if owK sp rows i<0 then bs[i].2 else bs[i].1) - sp[i].w * sp[i].l:=by unfold termW;rw [ew,el,eb]
  refine ⟨pz,_,rfl,SqT.of h6,rfl,_,_,rfl,_,_,rfl,_,_,rfl,rfl,?_⟩;refine ⟨_,rfl,_,rfl,_,rfl,_,_,rfl,rfl,_,rfl,?_⟩
  by_cases hneg:owK sp rows i<0
  ·refine iteB (qT hneg) ?_
   refine ⟨_,rfl,qb,_,_,_,rfl,rfl,SqT.of (S06 _ _ h1),aR (j:=1) rfl,_,_,rfl,rfl,.inl ⟨by show -(2 ^ 64)<owK sp rows i;lia,by show owK sp rows i<2 ^ 64;lia⟩,_,rfl,qz,_,_,_,rfl,rfl,SqT.of (S06 _ _ h2),aR (j:=4) rfl,_,rfl,qz,_,_,_,rfl,rfl,SqT.of (S06 _ _ h2),aR (j:=2) rfl,_,_,rfl,rfl,.inl ⟨by show -(2 ^ 64)<sp[i].w;lia,by show sp[i].w<2 ^ 64;lia⟩,_,_,rfl,rfl,_,_,rfl,rfl,S6,v4,some (.int (owK sp rows i)),some (.ref qb),some (.ref qz),?_⟩;rw [sum_range,et,qR hneg,←Int.add_assoc];rfl
  ·refine iteC (qU hneg) ?_
   refine ⟨_,rfl,qb,_,_,_,rfl,rfl,SqT.of (S06 _ _ h1),aR (j:=0) rfl,_,_,rfl,rfl,.inl ⟨by show -(2 ^ 64)<owK sp rows i;lia,by show owK sp rows i<2 ^ 64;lia⟩,_,rfl,qz,_,_,_,rfl,rfl,SqT.of (S06 _ _ h2),aR (j:=4) rfl,_,rfl,qz,_,_,_,rfl,rfl,SqT.of (S06 _ _ h2),aR (j:=2) rfl,_,_,rfl,rfl,.inl ⟨by show -(2 ^ 64)<sp[i].w;lia,by show sp[i].w<2 ^ 64;lia⟩,_,_,rfl,rfl,_,_,rfl,rfl,S6,v4,some (.int (owK sp rows i)),some (.ref qb),some (.ref qz),?_⟩;rw [sum_range,et,qQ hneg,←Int.add_assoc];rfl
 ·rintro σ H5 ⟨S5,v4,v5,v6,v7,rfl⟩
  refine ⟨_,rfl,?_⟩;have k1:=k H5 (S04.trans S5);unfold lO at k1;rw [ae,lo];exact k1
abbrev sDead:cF:=top 17
theorem scDead:cp ["net","bounds","ring","beats"] pzb (defScope sDead):=by trivial
theorem ok_dead (F:Fun K "is_dead" "is_dead" sDead f fd)(G1:Fn K mg "beats_of" sBeats pzb f1 fd1)(F1:cR P w K mg base CX0 2 f1 fd1 pzb pj):cR P w K mg base CX0 3 f fd pzb spDead:=by
 refine F.ok scDead (by contradiction) (fun cdv A outer s H vs Q E hr h=>?_);obtain ⟨vn,vb,vw,b,m,sp,bs,ws,rfl,hv,hb0,hb1,hb,hw,hin,k⟩:=h;refine ⟨_,PSl.h (bg ⟨(psZ 3 scDead.nd (pc1 G1 F1 hr (ak (pv 0) (ak (pv 1) (ak (pv 2) aI)))))⟩
  (dF ⟨(cO (pe_cmpR op_gt (ixZ (pv 3)) (ixZ (pv 3)) (fg _)))⟩)),?_⟩
 refine ⟨_,rfl,_,rfl,_,rfl,vn,vb,vw,b,m,sp,bs,ws,rfl,hv,hb0,hb1,hb,hw,hin,fun p1 H1 S1 h1=>?_⟩;exact ⟨_,rfl,p1,_,_,_,rfl,rfl,SqT.of h1,aR (j:=0) rfl,_,rfl,p1,_,_,_,rfl,rfl,SqT.of h1,aR (j:=1) rfl,_,_,rfl,rfl,k H1 S1⟩
abbrev sWidth:cF:=top 10
theorem scWidth:cp ["net","span","least","most"] pzg (defScope sWidth):=by trivial
theorem ok_width (F:Fun K "width_of" "width_of" sWidth f fd):cR P w K mg base CX0 1 f fd pzg spWidth:=by
 refine F.ok scWidth (by contradiction) (fun cdv A outer s H vs Q E hr h=>?_);obtain ⟨v,b,m,sp,i,x,rfl,hv,hx,k⟩:=h;obtain ⟨t,p,ys,rfl,ht,hp,hl,hy⟩:=gp hv;obtain ⟨q,hq,hq2⟩:=hy i x hx;refine ⟨_,PSl.h (bg ⟨(psZ 2 scWidth.nd (ixZ (fB fm (ixZ (pv 0)) (pv 1) (fun _ _=>rfl))))⟩
  (bg ⟨(psZ 3 scWidth.nd (ixZ (fB fm (ixZ (pv 0)) (pv 1) (fun _ _=>rfl))))⟩
  (dF ⟨(cO (dv op_sub (pv 3) (pv 2)))⟩))),?_⟩
 refine ⟨_,rfl,t,_,_,_,rfl,rfl,SqT.of ht,aR (j:=2) rfl,_,rfl,p,_,_,_,rfl,rfl,SqT.of hp,aR (j:=i) hq,q,_,_,_,rfl,rfl,SqT.of hq2,aR (j:=2) rfl,?_⟩;refine ⟨_,rfl,t,_,_,_,rfl,rfl,SqT.of ht,aR (j:=2) rfl,_,rfl,p,_,_,_,rfl,rfl,SqT.of hp,aR (j:=i) hq,q,_,_,_,rfl,rfl,SqT.of hq2,aR (j:=3) rfl,?_⟩;exact ⟨_,rfl,_,rfl,_,_,rfl,rfl,k⟩
abbrev sSpW:cF:=top 20
abbrev lT:cF:=top 21
def lamPos:List cF→Pos
 | [.Return (some (.Call _ _ [⟨_,.Lambda _ _ _ lp,_⟩] _)) _]=>lp
 | _=>⟨0,0,0,0⟩
abbrev lpW:Pos:=lamPos (eX sSpW)
abbrev lqW:Str:=(("spans_by_width" :Str) ++ ".<locals>.") ++ "<lambda>"
theorem okC {c:ai}{k:Nat}{sp:Sp}(F:Fun K x qual st f fd)(hc:fd.code= .ref c)(S:cp N ps (defScope st))(len:∀ vs H Q E,sp vs H Q E→vs.length=ps.length)
  (hbody:∀ (A:bL) (outer:List Env) (s:ao) (H:Hp) (vs:List V) (Q:VK) (E:XK),iA k (A.deeper (envOfC qual (defScope st) s.heap.objs.size f (.ref c)))→sp vs H Q E →
   ∃ t,PSs (cxOf CX0 P w K mg base N qual (defScope st) f (.ref c) A outer s H E).nox (eX st) t∧t { nx:=fun _ H'=>Q .non H',rt:=Q } (L2.start N vs) H):cR P w K mg base CX0 (k+1) f fd ps sp:=by
 obtain ⟨oc,od,kV,doc,pm,an,cdv,ct,osl,rfl,lk,hcd⟩:=F.ex;have hc:cdv= .ref c:=hc;subst hc;refine fn_of lk hcd S len fun A outer s H vs Q E hr hsp=>?_
 obtain ⟨t,h,q⟩:=hbody A outer s H vs Q E hr hsp;exact ⟨t,h.nox,q⟩
theorem scSpW:cp pza pza (defScope sSpW):=by trivial
theorem ok_spW {c:ai}(F:Fun K "spans_by_width" "spans_by_width" sSpW f fd)(hcd:fd.code= .ref c)(C:dW K c Tb0=true)(B:BM mg base)(T:Nm mg)(T2:Nt mg)(ms:mg "sorted" =none)(G1:Fn K mg "width_of" sWidth pzg f1 fd1) :
  cR P w K mg base CX0 5 f fd pza (spSpW Tb0 lpW lqW):=by
 have F1:cR P w K mg base CX0 1 f1 fd1 pzg spWidth:=ok_width G1.F;refine okC F hcd scSpW (by contradiction) (fun A outer s H vs Q E hr h=>?_);obtain ⟨v,b,m,sp,rfl,hv,few,hT,k⟩:=h;obtain ⟨t,p,ys,rfl,ht,hp,hl,hy⟩:=gp hv;refine ⟨_,PSl.h (dF ⟨(cO (pe_sortL (js:=[0]) (fr:=pza) (x := "span") (c:=c) (P:=Tb0) rfl hr.depth rfl ms (i3 call_rng1 rfl T2.range boot_range (ak (dO cz rfl T.len cj (ak (ixZ (pv 0)) aI)) aI)) rfl rfl C B (fun _ _ _ _ _ _=>rfl) rfl rfl rfl (by trivial) rfl (by decide) (by exists sSpW) rfl (by trivial)
  (fun cl L f' cd s' H'=>pe_tup (ak (pc1 G1 F1 (((hr.in1).in1).deeper _ |>.mono (by decide)) (ak (pv 1) (ak (pv 0) aI))) (ak (pv 0) aI)))))⟩),?_⟩
 refine ⟨_,rfl,t,_,_,_,rfl,rfl,SqT.of ht,aR (j:=2) rfl,p,_,rfl,.inr (SqT.of hp),_,rfl,fun r H1 S1 hr1=>?_⟩;have hv1:IsD H1 (.ref t) (lM b m sp):=hv.same S1;have hT1:=LamT.same S1 hT;refine ⟨r,ys.length,wkey sp,rfl,hr1,by lia,hT1,wkey_nodup sp _,fun i hi H2 tb=>?_,fun D H4 π tb lt hD pm pw=>?_⟩
 ·have hv2:=cw (Tb.tupK (LamT.tbl hT1) tb) hv1
  refine ⟨_,rfl,_,rfl,.ref t,b,m,sp,i,sAt sp i,rfl,hv2,jh (by lia),_,rfl,nS,fun q hq=>⟨fun a o e=>by rw [bc (bw e hq)];exact e,q,rfl,aX⟩⟩
 ·exact k D H4 π ((bJ.tb S1).trans tb) lt hD ⟨by rw [←hl];exact pm,pw⟩
theorem kZ:cp ["net","groups","taken","span","one","other"] pza (defScope lT):=by trivial
theorem ok_forest (F:Fun K "forest_of" "forest_of" lT f fd)(T:Nm mg)(T2:Nt mg)(ms:mg "sorted" =none)(G1:Fn K mg "spans_by_width" sSpW pza f1 fd1)(F1:cR P w K mg base CX0 5 f1 fd1 pza (spSpW Tb0 lp lq)) :
  cR P w K mg base CX0 6 f fd pza (kX Tb0 lp lq):=by
 refine F.ok kZ (by contradiction) (fun cdv A outer s H vs Q E hr h=>?_);obtain ⟨v,b,m,sp,rfl,hv,N,hT,k⟩:=h;obtain ⟨t,p,ys,rfl,ht,hp,hl,hy⟩:=gp hv;obtain ⟨mn,rfl⟩:=cP (show 0≤m by have:=N.m1;lia);have m2:=N.m2;have few:=N.few;have E:=N.ends;rw [cq] at E k;refine ⟨_,PSl.h (bg ⟨(psZ 1 kZ.nd (i3 (call_listR rfl) rfl T2.tlist boot_list (ak (i3 call_rng1 rfl T2.range boot_range (ak (ixZ (pv 0)) aI)) aI)))⟩
  (bg ⟨(psZ 2 kZ.nd (jB aI))⟩
  (bg ⟨(iW bM rfl (jn (pc1 G1 F1 hr (ak (pv 0) aI))) (pgZ 3 kZ.nd) (PSl.h (bg ⟨(psZ 4 kZ.nd (fB i5 (pv 1) (ixZ (fB fm (ixZ (pv 0)) (pv 3) (fun _ _=>rfl))) (fun _ _=>rfl)))⟩
  (bg ⟨(psZ 5 kZ.nd (fB i5 (pv 1) (ixZ (fB fm (ixZ (pv 0)) (pv 3) (fun _ _=>rfl))) (fun _ _=>rfl)))⟩
  (dF ⟨(kh (dB op_ne (pv 4) (pv 5) (fg _)) (PSl.h (bg ⟨(iX (oh bB cE cB i4 (pv 2) (ak (pv 3) aI)))⟩
  (dF ⟨(ps_setC (iy:=1) (fr:=["one","other"]) (js:=[4,5]) kZ.nd rfl (.inl rfl) rfl (jn (pv 1)) (by trivial) rfl (by trivial) rfl (by exists lT) (by trivial) rfl (by trivial) (fun _ _ _ _ _=>⟨(mm (dB qk (pv 0) (pv 2) (fg _)) (pv 1) (pv 0)),j8⟩))⟩))) gH)⟩)))))⟩
  (dF ⟨(cO (i3 kL rfl T.ttup boot_tuple (ak (dO call_sortedI rfl ms boot_sorted (ak (pv 2) aI)) aI)))⟩)))),?_⟩
 refine ⟨_,rfl,t,_,_,_,rfl,rfl,SqT.of ht,aR (j:=1) rfl,(mn:Int),rfl,fun a1 H1 S1 h1=>⟨a1,mn,rfl,h1,by lia,fun Lg hLg=>?_⟩⟩;have S2:bJ H (upd H1 Lg (.lst ((aQ mn).map fun k=>V.int (k:Nat)))):=S1.trans (bJ.put (bJ.refl H1) hLg);have hLg2:(upd H1 Lg (.lst ((aQ mn).map fun k=>V.int (k:Nat)))) Lg=some (.lst ((jK mn).map V.int)):=by rw [aX];unfold jK;rw [dG];rfl
 generalize upd H1 Lg (.lst ((aQ mn).map fun k=>V.int (k:Nat)))=H2 at S2 hLg2 ⊢;refine ⟨bD _,fun Lt hLt=>?_⟩;have S3:bJ H (upd H2 Lt (.lst [])):=S2.trans (bJ.put (bJ.refl H2) hLt);have hgt:Lg≠Lt:=fun z=>by rw [z,hLt] at hLg2;cases hLg2
 have hLt3:(upd H2 Lt (.lst [])) Lt=some (.lst []):=aX;have hLg3:(upd H2 Lt (.lst [])) Lg=some (.lst ((jK mn).map V.int)):=by rw [bc hgt];exact hLg2
 generalize upd H2 Lt (.lst [])=H3 at S3 hLt3 hLg3 ⊢;have hT3:=LamT.same S3 hT;obtain ⟨ps3,hTb3⟩:=LamT.tbl hT3;refine ⟨_,rfl,.ref t,b,mn,sp,rfl,hv.same S3,few,hT3,fun D H4 π tb4 hT4 hD O=>?_⟩;obtain ⟨ps4,hTb4⟩:=LamT.tbl hT4;have nLg:Lg≠Tb0:=d7 hLg3 hTb3 nofun;have nLt:Lt≠Tb0:=d7 hLt3 hTb3 nofun;have hLg4:=tb4 _ _ nLg hLg3;have hLt4:=tb4 _ _ nLt hLt3;have nDg:D≠Lg:=fun z=>by rw [z,hLg4] at hD;cases hD
 have nDt:D≠Lt:=fun z=>by rw [z,hLt4] at hD;cases hD
 have S5:bJ H4 (upd H4 D (.lst (π.map fun (i:Nat)=>V.int i))):=bJ.put (bJ.refl H4) hD;have tb5:L2.Tb Tb0 H (upd H4 D (.lst (π.map fun (i:Nat)=>V.int i))):=((bJ.tb S3).trans tb4).trans (bJ.tb S5);have hT5:=LamT.same S5 hT4;have hD5:(upd H4 D (.lst (π.map fun (i:Nat)=>V.int i))) D=some (.lst (π.map fun (i:Nat)=>V.int i)):=aX;have hLg5:=S5 _ _ hLg4;have hLt5:=S5 _ _ hLt4;generalize upd H4 D (.lst (π.map fun (i:Nat)=>V.int i))=H5 at tb5 hT5 hD5 hLg5 hLt5 ⊢;have hLtN:∀ o,H Lt=some o→False:=fun o e=>by rw [S2 _ _ e] at hLt;cases hLt
 clear hLg4 hLt4 S5 hD hTb4 hT4 tb4 hLg3 hLt3 hT3 hTb3 hLg2 hLt S2 h1 S1 hLg S3;refine ⟨D,rfl,⟨_,SqL.of hD5⟩,?_⟩;have tkE:∀ {H':Hp},L2.Tb Tb0 H H'→lH H H':=fun e=>Tb.tupK (LamT.tbl hT) e
 refine lF (K:=K) (a:=D) (xs:=π.map fun (i:Nat)=>V.int i) (fun i σ HA=>L2.Tb Tb0 H HA∧L2.LamT Tb0 lp lq HA∧HA D=some (.lst (π.map fun (i:Nat)=>V.int i))∧∃ (La:ai) (v3 v4 v5:Option V),σ=[some (.ref t),some (.ref La),some (.ref Lt),v3,v4,v5]∧La≠Lt∧HA La=some (.lst (((π.take i).foldl (eN sp) (jK mn,[])).1.map V.int))∧HA Lt=some (.lst (((π.take i).foldl (eN sp) (jK mn,[])).2.map fun (i:Nat)=>V.int i)))
  ⟨tb5,hT5,hD5,Lg,none,none,none,rfl,hgt,hLg5,hLt5⟩ (fun i σ HA _ ⟨_,_,h,_⟩=>SqL.of h) ?_ ?_
 ·rintro i x σ HA hx ⟨tbA,hTA,hDA,La,v3,v4,v5,rfl,nLa,hLa,hLtA⟩
  rw [az] at hx;obtain ⟨j,hj,rfl⟩:=bq.mp hx;have hjn:j<sp.length:=O.lt (aY hj);have hvA:=cw (tkE tbA) hv;obtain ⟨t',p',ys',e0,htA,hpA,hlA,hyA⟩:=gp hvA;cases e0;obtain ⟨q,hq,hq2⟩:=hyA j _ (jh hjn);obtain ⟨s0,s1,g0,g1⟩:=E _ (dQ hjn);have fold:(π.take (i+1)).foldl (eN sp) (jK mn,[])=eN sp ((π.take i).foldl (eN sp) (jK mn,[])) j:=by
   rw [bj,hj];show (π.take i++[j]).foldl _ _=_;rw [cQ];rfl
  rw [fold];obtain ⟨gl,gb⟩:((π.take i).foldl (eN sp) (jK mn,[])).1.length=mn∧((π.take i).foldl (eN sp) (jK mn,[])).2.length≤sp.length:=by
   refine ⟨(pU E (π.take i) _ _ [] (fun i hi=>O.lt (jZ hi)) (Rl.start mn)).1.len,?_⟩;have:=(kG sp (π.take i) (jK mn,[])).2;rw [bH] at this;have h2:=O.len;show _≤_;have h3:((jK mn,([]:List Nat)).2).length=0:=rfl;lia
  generalize (π.take i).foldl (eN sp) (jK mn,[])=c at hLa hLtA gl gb ⊢;obtain ⟨gs,tk⟩:=c;have hLa:HA La=some (.lst (gs.map V.int)):=hLa;have hLtA:HA Lt=some (.lst (tk.map fun (i:Nat)=>V.int i)):=hLtA;have gl:gs.length=mn:=gl;have gb:tk.length≤sp.length:=gb;have es:=tm_at (ts:=gs) s0 (by lia);have eg:=tm_at (ts:=gs) g0 (by lia);refine ⟨_,rfl,_,rfl,t,_,_,_,rfl,rfl,SqT.of htA,aR (j:=2) rfl,_,rfl,p',_,_,_,rfl,rfl,SqT.of hpA,aR (j:=j) hq,q,_,_,_,rfl,rfl,SqT.of hq2,aR (j:=0) rfl,La,_,_,_,rfl,rfl,SqL.of hLa,es,?_⟩;refine ⟨_,rfl,_,rfl,t,_,_,_,rfl,rfl,SqT.of htA,aR (j:=2) rfl,_,rfl,p',_,_,_,rfl,rfl,SqT.of hpA,aR (j:=j) hq,q,_,_,_,rfl,rfl,SqT.of hq2,aR (j:=1) rfl,La,_,_,_,rfl,rfl,SqL.of hLa,eg,?_⟩;refine ⟨_,rfl,_,rfl,rfl,_,rfl,?_⟩
  by_cases e:tm gs (sAt sp j).s=tm gs (sAt sp j).g
  ·have st:eN sp (gs,tk) j=(gs,tk):=by unfold eN;exact qR e
   rw [st,e,qT rfl];exact iteF ⟨tbA,hTA,hDA,La,_,_,_,rfl,nLa,hLa,hLtA⟩
  ·have st:eN sp (gs,tk) j=(iJ gs (tm gs (sAt sp j).s) (tm gs (sAt sp j).g),tk++[j]):=by unfold eN;exact qQ e
   rw [st,qU (fun z=>e (V.int.inj z))];refine iteT ?_;obtain ⟨x,hx⟩:∃ x,x=tm gs (sAt sp j).s:=⟨_,rfl⟩;obtain ⟨y,hy⟩:∃ y,y=tm gs (sAt sp j).g:=⟨_,rfl⟩;rw [←hx,←hy] at e ⊢;refine ⟨_,rfl,.inl ⟨rfl,_,SqL.of hLtA⟩,_,rfl,Lt,_,_,rfl,rfl,hLtA,nj (by rw [ae];lia),?_⟩;have hLt6:(upd HA Lt (.lst ((tk.map fun (i:Nat)=>V.int i)++[V.int j]))) Lt=some (.lst ((tk++[j]).map fun (i:Nat)=>V.int i)):=by rw [aX,aF];rfl
   have keep:∀ a o,a≠Lt→HA a=some o→(upd HA Lt (.lst ((tk.map fun (i:Nat)=>V.int i)++[V.int j]))) a=some o:=fun a o h e=>by rw [bc h];exact e
   have nTL:Tb0≠Lt:=fun z=>nLt z.symm
   have tb6:L2.Tb Tb0 H (upd HA Lt (.lst ((tk.map fun (i:Nat)=>V.int i)++[V.int j]))):=fun a o hn e=>keep a o (fun z=>by subst z;exact hLtN _ e) (tbA a o hn e)
   have hT6:L2.LamT Tb0 lp lq (upd HA Lt (.lst ((tk.map fun (i:Nat)=>V.int i)++[V.int j]))):=LamT.upd hTA (fun p u z=>by rw [hLtA] at z;cases z) fun ps z=>by rw [hLtA] at z;cases z
   have hD6:=keep _ _ nDt hDA;have hLa6:=keep _ _ nLa hLa;generalize upd HA Lt (.lst ((tk.map fun (i:Nat)=>V.int i)++[V.int j]))=HB at hLt6 keep tb6 hT6 hD6 hLa6 ⊢;refine ⟨_,rfl,La,rfl,⟨_,SqL.of hLa6⟩,?_⟩;refine kJ (K:=K) (a:=La) (xs:=gs.map V.int) (fun i zs HC=>HC=HB∧zs=(iJ (gs.take i) x y).map V.int) ⟨rfl,rfl⟩ (fun i zs HC hi ⟨e1,e2⟩=>?_) (by rw [ae];exact fA (by lia)) (fun i v zs HC hv ⟨e1,e2⟩=>?_) (fun zs HC ⟨e1,e2⟩ L hL=>?_)
   ·subst e1
    refine ⟨SqL.of hLa6,?_⟩;rw [ae] at hi;rw [e2,ae];unfold iJ;rw [ae,bH];lia
   ·subst e1
    rw [az] at hv;obtain ⟨g,hg,rfl⟩:=bq.mp hv;refine jo ?_;have nx:zs++[V.int (if g=y then x else g)]=(iJ (gs.take (i+1)) x y).map V.int:=by
     rw [e2];unfold iJ;rw [bj,hg,aF,aF];rfl
    refine ⟨_,rfl,_,rfl,rfl,_,rfl,?_⟩
    by_cases eg:g=y
    ·rw [eg,qT rfl]
     refine iteT ⟨_,rfl,rfl,?_⟩;rw [←nx,qR eg]
    ·rw [qU (fun z=>eg (V.int.inj z))]
     refine iteF ⟨_,rfl,rfl,?_⟩;rw [←nx,qQ eg]
   ·subst e1
    have eL:zs=(iJ gs x y).map V.int:=by rw [e2,ae,bh]
    subst eL;have S7:bJ HC (upd HC L (.lst ((iJ gs x y).map V.int))):=bJ.put (bJ.refl HC) hL;have nLL:L≠Lt:=fun z=>by rw [z,hLt6] at hL;cases hL
    exact ⟨tb6.trans (bJ.tb S7),LamT.same S7 hT6,S7 _ _ hD6,L,_,_,_,rfl,nLL,aX,S7 _ _ hLt6⟩
 ·rintro σ HA ⟨tbA,hTA,hDA,La,v3,v4,v5,rfl,nLa,hLa,hLtA⟩
  rw [ae,bh] at hLtA;have tl:(π.foldl (eN sp) (jK mn,[])).2.length≤40:=by
   have:=(kG sp π (jK mn,[])).2;have h2:=O.len;have h3:((jK mn,([]:List Nat)).2).length=0:=rfl;lia
  have hLtI:HA Lt=some (.lst (((kB sp mn π).2.map fun (i:Nat)=>(i:Int)).map V.int)):=by rw [hLtA,dG];rfl
  refine ⟨_,rfl,Lt,_,rfl,SqL.of hLtI,by rw [ae];exact bT tl (by decide),fun L ns hL pm pw=>?_⟩;have S7:bJ HA (upd HA L (.lst (ns.map V.int))):=bJ.put (bJ.refl HA) hL;refine ⟨L,_,rfl,.inl (Rd.of aX),fun u H8 S8 hu=>?_⟩;exact k u H8 ns ((tbA.trans (bJ.tb S7)).trans (bJ.tb S8)) (LamT.same S8 (LamT.same S7 hTA)) hu ⟨π,O,pm,pw⟩
abbrev sFrom:cF:=top 12
abbrev sTo:cF:=top 13
theorem scFrom:cp ["net","step","span"] pzc (defScope sFrom):=by trivial
theorem ok_from (F:Fun K "leads_from" "leads_from" sFrom f fd):cR P w K mg base CX0 1 f fd pzc spFrom:=by
 refine F.ok scFrom (by contradiction) (fun cdv A outer s0 H vs Q E hr h=>?_);obtain ⟨v,q,b,m,sp,s,x,rfl,hv,hq,hx,k⟩:=h;obtain ⟨t,p,ys,rfl,ht,hp,hl,hy⟩:=gp hv;obtain ⟨qx,hqx,hqx2⟩:=hy s.i x hx;refine ⟨_,PSl.h (bg ⟨(psZ 2 scFrom.nd (fB fm (ixZ (pv 0)) (ixZ (pv 1)) (fun _ _=>rfl)))⟩
  (dF ⟨(cO (mm (dB qk (ixZ (pv 1)) bR (fg _)) (ixZ (pv 2)) (ixZ (pv 2))))⟩)),?_⟩
 refine ⟨_,rfl,t,_,_,_,rfl,rfl,SqT.of ht,aR (j:=2) rfl,_,rfl,q,_,_,_,rfl,rfl,SqT.of hq,aR (j:=0) rfl,p,_,_,_,rfl,rfl,SqT.of hp,aR (j:=s.i) hqx,?_⟩;refine ⟨_,rfl,q,_,_,_,rfl,rfl,SqT.of hq,aR (j:=1) rfl,rfl,_,rfl,?_⟩;refine ite2 (fun h1=>?_) (fun h1=>?_)
 ·have h1:s.d=1:=by have:=qV h1;injection this
  refine ⟨_,rfl,qx,_,_,_,rfl,rfl,SqT.of hqx2,aR (j:=0) rfl,?_⟩;have e:frm x s.d=x.s:=qR h1;rw [←e];exact k
 ·have h1:s.d≠1:=fun z=>h1 (qT (by rw [z]))
  refine ⟨_,rfl,qx,_,_,_,rfl,rfl,SqT.of hqx2,aR (j:=1) rfl,?_⟩;have e:frm x s.d=x.g:=qQ h1;rw [←e];exact k
theorem scTo:cp ["net","step","span"] pzc (defScope sTo):=by trivial
theorem ok_to (F:Fun K "leads_to" "leads_to" sTo f fd):cR P w K mg base CX0 1 f fd pzc spTo:=by
 refine F.ok scTo (by contradiction) (fun cdv A outer s0 H vs Q E hr h=>?_);obtain ⟨v,q,b,m,sp,s,x,rfl,hv,hq,hx,k⟩:=h;obtain ⟨t,p,ys,rfl,ht,hp,hl,hy⟩:=gp hv;obtain ⟨qx,hqx,hqx2⟩:=hy s.i x hx;refine ⟨_,PSl.h (bg ⟨(psZ 2 scTo.nd (fB fm (ixZ (pv 0)) (ixZ (pv 1)) (fun _ _=>rfl)))⟩
  (dF ⟨(cO (mm (dB qk (ixZ (pv 1)) bR (fg _)) (ixZ (pv 2)) (ixZ (pv 2))))⟩)),?_⟩
 refine ⟨_,rfl,t,_,_,_,rfl,rfl,SqT.of ht,aR (j:=2) rfl,_,rfl,q,_,_,_,rfl,rfl,SqT.of hq,aR (j:=0) rfl,p,_,_,_,rfl,rfl,SqT.of hp,aR (j:=s.i) hqx,?_⟩;refine ⟨_,rfl,q,_,_,_,rfl,rfl,SqT.of hq,aR (j:=1) rfl,rfl,_,rfl,?_⟩;refine ite2 (fun h1=>?_) (fun h1=>?_)
 ·have h1:s.d=1:=by have:=qV h1;injection this
  refine ⟨_,rfl,qx,_,_,_,rfl,rfl,SqT.of hqx2,aR (j:=1) rfl,?_⟩;have e:too x s.d=x.g:=qR h1;rw [←e];exact k
 ·have h1:s.d≠1:=fun z=>h1 (qT (by rw [z]))
  refine ⟨_,rfl,qx,_,_,_,rfl,rfl,SqT.of hqx2,aR (j:=0) rfl,?_⟩;have e:too x s.d=x.s:=qQ h1;rw [←e];exact k
abbrev pE:cF:=top 22
abbrev sWayB:cF:=top 23
abbrev sRingBy:cF:=top 24
inductive spSteps (vs:List V)(H:Hp)(Q:VK)(_:XK):Prop
 | mk (v u b m sp tk x:_)(_:vs=[v,.ref u,.int x])(_:IsD H v (lM b m sp))(_:H u=some (.tup (tk.map fun (i:Nat)=>V.int i)))(_:(∀ i∈tk,i<sp.length))(_:tk.length≤40)(_:∀ L H' zs,bJ H H'→H L=none→H' L=some (.lst zs)→dM H' zs (fJ Stp.row (dt sp tk x))→Q (.ref L) H')
inductive spWayBt (vs:List V)(H:Hp)(Q:VK)(_:XK):Prop
 | mk (v u b m sp tk be en:_)(_:vs=[v,.ref u,.int be,.int en])(_:IsD H v (lM b m sp))(_:kd b m sp)(_:H u=some (.tup (tk.map fun (i:Nat)=>V.int i)))(_:(∀ i∈tk,i<sp.length))(_:tk.length≤40)(_:0≤be)(_:be<m)(_:qO sp tk be en)(_:∀ q H' p,bJ H H'→IsD H' q (oy p)→WayR sp tk be en p→Q q H')
inductive spRingBy (T:ai)(lp:Pos)(lq:Str)(vs:List V)(H:Hp)(Q:VK)(_:XK):Prop
 | mk (v b m sp k:_)(_:vs=[v,.int (k:Nat)])(_:IsD H v (lM b m sp))(_:kd b m sp)(_:L2.LamT T lp lq H)(_:k<sp.length)(_:∀ q H' (l π:List Nat) p,L2.Tb T H H'→L2.LamT T lp lq H'→IsD H' q (oy (⟨k,1⟩::p))→ow m.toNat sp (l.map fun (i:Nat)=>(i:Int))→Ordd sp π→l.Perm (kB sp m.toNat π).2→WayR sp l (sAt sp k).g (sAt sp k).s p→Q q H')
def DW (H:Hp):List (Key×V)→List (Int×List Stp)→Prop:=jU fun (p:Key×V) (q:Int×List Stp)=>p.1= .inl q.1∧IsD H p.2 (oy q.2)
theorem DW.none {H:Hp}{x:Int}:∀ {kvs:List (Key×V)} {l:List (Int×List Stp)},DW H kvs l→lkW l x=none→nU kvs (.inl x)=none
 | _,_,.nil,_=>rfl
 | _,_,.cons (b:=q) r t,h=>by
  rw [ly] at h
  by_cases e:q.1=x
  ·rw [qR e] at h;cases h
  ·rw [qQ e] at h
   rw [gZ (fun z=>e (Sum.inl.inj (r.1.symm.trans z)))];exact DW.none t h
theorem DW.some {H:Hp}{x:Int}{ws:List Stp}:∀ {kvs:List (Key×V)} {l:List (Int×List Stp)},DW H kvs l→lkW l x=some ws→∃ v,nU kvs (.inl x)=some v∧IsD H v (oy ws)
 | _,_,.nil,h=>by cases h
 | _,_,.cons (b:=q) r t,h=>by
  rw [ly] at h
  by_cases e:q.1=x
  ·rw [qR e] at h
   cases h;exact ⟨_,iC (by rw [r.1,e]),r.2⟩
  ·rw [qQ e] at h
   rw [gZ (fun z=>e (Sum.inl.inj (r.1.symm.trans z)))];exact DW.some t h
theorem qq {ws:List Stp}(e:lH H H')(h:IsD H v (oy ws)):IsD H' v (oy ws):=by
 obtain ⟨p,ys,rfl,hp,_,r⟩:=iV h;exact .tup (e _ _ hp) (eU e r)
theorem DW.keep (e:lH H H'){kvs:List (Key×V)}{l:List (Int×List Stp)}(h:DW H kvs l):DW H' kvs l:=L2.Paired.mapP h fun _ _ z=>⟨z.1,qq e z.2⟩
theorem DW.len {H:Hp}:∀ {kvs:List (Key×V)} {l:List (Int×List Stp)},DW H kvs l→kvs.length=l.length
 | _,_,.nil=>rfl
 | _,_,.cons _ t=>qW (· + 1) (DW.len t)
theorem DW.snoc {H:Hp}{p:Key×V}{q:Int×List Stp}(h:p.1= .inl q.1∧IsD H p.2 (oy q.2)):∀ {kvs:List (Key×V)} {l:List (Int×List Stp)},DW H kvs l→DW H (kvs++[p]) (l++[q])
 | _,_,.nil=> .cons h .nil
 | _,_,.cons r t=> .cons r (DW.snoc h t)
structure JW (H Hc:Hp)(Da La:ai)(c:List (Int×List Stp)×List Int):Prop where
 same:bJ H Hc
 da:∃ kvs,Hc Da=some (.dK kvs)∧DW Hc kvs c.1
 la:Hc La=some (.lst (c.2.map V.int))
theorem JW.on {Hc':Hp}{La:ai}(j:JW H Hc Da La c)(e:bJ Hc Hc'):JW H Hc' Da La c:=by
 obtain ⟨kvs,h1,h2⟩:=j.da;exact ⟨j.same.trans e,⟨kvs,e _ _ h1,h2.keep (bJ.tupK e)⟩,e _ _ j.la⟩
theorem JW.upL {La:ai}{td:List Int}(j:JW H Hc Da La c)(hL:H La=none)(n:Da≠La):JW H (upd Hc La (.lst (td.map V.int))) Da La (c.1,td):=by
 obtain ⟨kvs,h1,h2⟩:=j.da;exact ⟨fun a o e=>by rw [bc (bw e hL)];exact j.same a o e,⟨kvs,by rw [bc n];exact h1,h2.keep (fv j.la)⟩,aX⟩
theorem mapI_at {x:V}(h:(l.map fun (i:Nat)=>V.int i)[i]? =some x):∃ j,l[i]? =some j∧x=V.int (j:Nat):=by
 rw [az] at h;obtain ⟨j,hj,rfl⟩:=bq.mp h;exact ⟨j,hj,rfl⟩
theorem nh {s:Stp}(h:s.i<sp.length):too (sAt sp s.i) s.d=e8 sp s∧frm (sAt sp s.i) s.d=mI sp s:=by
 have e:sAt sp s.i=sp[s.i]:=by unfold sAt;rw [ah,gE h];rfl
 rw [e];exact ⟨(kU h).symm,(mV h).symm⟩
theorem last_mem {l:List Int}(h:l.getLast? =some z):z∈l:=by
 obtain ⟨ys,rfl⟩:=List.getLast?_eq_some_iff.mp h;simp
theorem scSteps:cp ["net","spans","happening","steps"] pzj (defScope pE):=by trivial
theorem ok_steps (F:Fun K "steps_from" "steps_from" pE f fd)(G1:Fn K mg "leads_from" sFrom pzc f1 fd1):cR P w K mg base CX0 2 f fd pzj spSteps:=by
 have F1:cR P w K mg base CX0 1 f1 fd1 pzc spFrom:=ok_from G1.F;refine F.ok scSteps (by contradiction) (fun cdv A outer s H vs Q E hr h=>?_);obtain ⟨v,u,b,m,sp,tk,x,rfl,hv,hu,hlt,few,k⟩:=h;have hr1:=hr;refine ⟨_,PSl.h (bg ⟨(psZ 3 scSteps.nd (dv op_catL (j9 (fr:=[]) (js:=[]) rfl (mB (pv 1)) (by trivial) rfl (by trivial) rfl (by exists pE) (by trivial) rfl (by trivial) (fun _ _ _ _ _=>⟨(dU (ak (pv 0) (ak bR aI))),j8⟩)) (j9 (fr:=[]) (js:=[]) rfl (mB (pv 1)) (by trivial) rfl (by trivial) rfl (by exists pE) (by trivial) rfl (by trivial) (fun _ _ _ _ _=>⟨(dU (ak (pv 0) (ak (pe_un un_neg bR) aI))),j8⟩))))⟩
  (dF ⟨(cO (j9 (fr:=["happening","net"]) (js:=[2,0]) rfl (jn (pv 3)) (by trivial) rfl (by trivial) rfl (by exists pE) (by trivial) rfl (by trivial) (fun _ _ _ _ _=>⟨(pv 0),(pL (dB qk (pc1 G1 F1 hr1 (ak (pv 2) (ak (pv 0) aI))) (pv 1) (fg _)))⟩)))⟩)),?_⟩
 have half:∀ (d:Int) (td:TE) (H0:Hp) (Rt:V→Hp→Prop),(∀ σ H1 (R:VK),R (.int d) H1→td σ H1 R)→bJ H H0→(∀ L H' zs,bJ H0 H'→H' L=some (.lst zs)→dM H' zs (fJ Stp.row (tk.map fun i=>⟨i,d⟩))→Rt (.ref L) H') →
   CompW [] tNoIf (tTupA (tCons (tVar 0) (tCons td tNil))) [some v,some (.ref u),some (.int x),none] Rt (Itt K u) H0:=fun d td H0 Rt htd S0 fin=>by
  refine oV (K:=K) (a:=u) (xs:=tk.map fun (i:Nat)=>V.int i) (fun i zs HC=>bJ H0 HC∧zs.length=i∧dM HC zs (fJ Stp.row ((tk.take i).map fun i=>⟨i,d⟩))) ⟨bJ.refl H0,rfl,.nil⟩ (fun i zs HC hi ⟨e1,e2,_⟩=>⟨SqT.of (e1 _ _ (S0 _ _ hu)),Nat.le_of_eq e2⟩) (by rw [ae];exact fA (by lia)) (fun i y zs HC hy ⟨e1,e2,e3⟩=>?_) (fun zs HC ⟨e1,e2,e3⟩ D hD=>?_)
  ·obtain ⟨j,hj,rfl⟩:=mapI_at hy
   refine jo ⟨_,rfl,htd _ _ _ ⟨nS,fun q H2 S2 h2=>⟨e1.trans S2,by rw [au,e2];rfl,?_⟩⟩⟩;rw [bj,hj];show dM H2 (zs++[.ref q]) (fJ Stp.row ((tk.take i++[j]).map fun i=>⟨i,d⟩));unfold fJ at e3 ⊢;rw [aF,aF];exact (e3.same S2).append (.cons (.tup h2 (dM.ints (Stp.row ⟨j,d⟩))) .nil)
  ·have S2:=bJ.put (bJ.refl HC) hD (o:= .lst zs)
   rw [ae,bh] at e3;exact fin D _ zs (e1.trans S2) aX (e3.same S2)
 refine ⟨_,rfl,u,rfl,⟨_,SqT.of hu⟩,half 1 _ H _ (fun _ _ _ h=>h) (bJ.refl H) fun L1 H1 z1 S1 h1 d1=>?_⟩;refine ⟨_,rfl,u,rfl,⟨_,SqT.of (S1 _ _ hu)⟩,half (-1) _ H1 _ (fun _ _ _ h=>⟨1,rfl,h⟩) S1 fun L2' H2 z2 S2 h2 d2=>?_⟩;have l1:z1.length=tk.length:=by rw [d1.length];unfold fJ;rw [ae,ae]
 have l2:z2.length=tk.length:=by rw [d2.length];unfold fJ;rw [ae,ae]
 refine ⟨L1,L2',_,_,rfl,rfl,S2 _ _ h1,h2,by rw [l1,l2];exact fA (by lia),fun L3 H3 S3 h3=>?_⟩;have d3:dM H3 (z1++z2) (fJ Stp.row (stF tk)):=by
  unfold stF fJ;rw [aF];exact ((d1.same S2).same S3).append (d2.same S3)
 have S03:=S1.trans (S2.trans S3);have hv3:=hv.same S03;refine ⟨_,rfl,L3,rfl,⟨_,SqL.of h3⟩,?_⟩;have ls:(z1++z2).length=(stF tk).length:=by rw [d3.length];unfold fJ;rw [ae]
 refine kJ (K:=K) (a:=L3) (xs:=z1++z2) (fun i zs HC=>HC=H3∧zs.length≤i∧dM H3 zs (fJ Stp.row (((stF tk).take i).filter fun s=>decide (mI sp s=x)))) ⟨rfl,bD _,.nil⟩ (fun i zs HC hi ⟨e1,e2,_⟩=>⟨by rw [e1];exact SqL.of h3,e2⟩) (by rw [au,l1,l2];exact fA (by lia)) (fun i y zs HC hy ⟨e1,e2,e3⟩=>?_) (fun zs HC ⟨e1,e2,e3⟩ D hD=>?_)
 ·subst e1
  have hi:i<(stF tk).length:=by have:=(av.mp hy).1;lia
  have hsi:=gE hi;obtain ⟨y',hy',dy⟩:=d3.at (i:=i) (d:= .tup ((Stp.row (stF tk)[i]).map Dt.int)) (by unfold fJ;rw [az,hsi];rfl);rw [hy] at hy';cases hy';obtain ⟨q,qs,rfl,hq,rq⟩:=dy.tup_of;have eq:=rq.ints_of;subst eq;have hin:=hlt _ (mem_stF (bK hi)).1;refine ⟨_,rfl,_,rfl,v,q,b,m,sp,(stF tk)[i],sAt sp (stF tk)[i].i,rfl,hv3,hq,jh hin,_,rfl,rfl,_,rfl,?_⟩;rw [(nh hin).2];have nx:((stF tk).take (i+1)).filter (fun s=>decide (mI sp s=x))=((stF tk).take i).filter (fun s=>decide (mI sp s=x))++(if mI sp (stF tk)[i]=x then [(stF tk)[i]] else []):=by
   rw [bj,hsi,jb];show _++[(stF tk)[i]].filter _=_;rw [dZ,List.filter_nil]
   by_cases e:mI sp (stF tk)[i]=x
   ·rw [qR e,qR (qT e)]
   ·rw [qQ e,qQ (by rw [qU e];decide)]
  rw [nx]
  by_cases e:mI sp (stF tk)[i]=x
  ·rw [qR e,e,qT rfl]
   refine iteT ⟨_,rfl,rfl,by rw [au];exact Nat.succ_le_succ e2,?_⟩;unfold fJ at e3 ⊢;rw [aF];exact e3.append (.cons dy .nil)
  ·rw [qQ e,qU (fun z=>e (V.int.inj z)),cK]
   exact iteF ⟨rfl,Nat.le_succ_of_le e2,e3⟩
 ·subst e1
  have S4:=bJ.put (bJ.refl HC) hD (o:= .lst zs);rw [ls,bh] at e3;exact k D _ zs (S03.trans S4) (bJ.free S03 hD) aX (e3.same S4)
theorem qw:cp ["net","spans","begin","end","ways","ahead","here","step","there"] pzv (defScope sWayB):=by trivial
theorem ok_wayBt (F:Fun K "way_between" "way_between" sWayB f fd)(G1:Fn K mg "steps_from" pE pzj f1 fd1)(F1:cR P w K mg base CX0 2 f1 fd1 pzj spSteps)(G2:Fn K mg "leads_to" sTo pzc f2 fd2):cR P w K mg base CX0 3 f fd pzv spWayBt:=by
 have F2:cR P w K mg base CX0 1 f2 fd2 pzc spTo:=ok_to G2.F;refine F.ok qw (by contradiction) (fun cdv A outer s H vs Q E hr h=>?_);obtain ⟨v,u,b,m,sp,tk,be,en,rfl,hv,N,hu,hlt,few,be0,be1,held,k⟩:=h;have u1:=bT (Nat.add_le_add_left (by decide:1≤64) _) hr.units;have hr1:iA 1 _:=hr.mono (by decide);have E:=N.ends;have m16:m.toNat≤16:=by have:=N.m2;lia
 have b1:be<(m.toNat:Int):=by lia
 refine ⟨_,PSl.h (bg ⟨(psZ 4 qw.nd (pe_disp (pps_cons (pv 2) (dU aI) pps_nil) rfl rfl (by decide) (by decide)))⟩
  (bg ⟨(psZ 5 qw.nd (jB (ak (pv 2) aI)))⟩
  (bg ⟨(oR bM (pt_cmp (nF u1 (pv 3) (pv 4)) rfl) (PSl.h (bg ⟨(psZ 6 qw.nd (qG bB fG fF qI (pv 5)))⟩
  (dF ⟨(iW bM rfl (jn (pc1 G1 F1 hr (ak (pv 0) (ak (pv 1) (ak (pv 6) aI))))) (pgZ 7 qw.nd) (PSl.h (bg ⟨(psZ 8 qw.nd (pc1 G2 F2 hr1 (ak (pv 0) (ak (pv 7) aI))))⟩
  (dF ⟨(kh (pt_cmp (nF u1 (pv 8) (pv 4)) rfl) (PSl.h (bg ⟨(ps_dput u1 (pv 4) (pv 8) (dv oi (pe_dget u1 (pv 4) (pv 6) (fun _ _=>rfl)) (dU (ak (pv 7) aI))) rfl)⟩
  (dF ⟨(iX (oh bB cE cB i4 (pv 5) (ak (pv 8) aI)))⟩))) gH)⟩))))⟩))))⟩
  (dF ⟨(cO (pe_dget u1 (pv 4) (pv 3) (fun _ _=>rfl)))⟩)))),?_⟩
 intro Da hDa;refine ⟨_,rfl,bD _,fun q1 H1 S1 h1=>⟨S1 _ _ aX,[(.inl be,.ref q1)],rfl,(by show 1≤15;decide),?_⟩⟩;have S0:bJ H (upd H Da (.dK [])):=bJ.put (bJ.refl H) hDa;have hDa1:H1 Da=some (.dK []):=S1 _ _ aX;have hDa2:(upd H1 Da (.dK (nH [] [(.inl be,.ref q1)]))) Da=some (.dK [(.inl be,.ref q1)]):=aX;have S2:bJ H (upd H1 Da (.dK (nH [] [(.inl be,.ref q1)]))):=fun b o e=>by
  rw [bc (fun z=>by rw [z,hDa] at e;cases e)];exact S1 _ _ (S0 _ _ e)
 have hq1:(upd H1 Da (.dK (nH [] [(.inl be,.ref q1)]))) q1=some (.tup []):=by
  rw [bc (d7 h1 hDa1 nofun)];exact h1
 generalize upd H1 Da (.dK (nH [] [(.inl be,.ref q1)]))=H2 at hDa2 S2 hq1 ⊢;clear hDa1 S0 S1 h1;refine ⟨_,rfl,szZ1,fun La hLa=>?_⟩;have nDL:Da≠La:=fun z=>by rw [z,hLa] at hDa2;cases hDa2
 have S3:bJ H2 (upd H2 La (.lst [.int be])):=bJ.put (bJ.refl H2) hLa;have hLaH:H La=none:=by
  cases z:H La with
  | none=>rfl
  | some o=>rw [S2 _ _ z] at hLa;cases hLa
 have J3:JW H (upd H2 La (.lst [.int be])) Da La (itW sp tk be 0):=⟨S2.trans S3,⟨_,S3 _ _ hDa2,.cons ⟨rfl,.tup (S3 _ _ hq1) .nil⟩ .nil⟩,aX⟩;generalize upd H2 La (.lst [.int be])=H3 at J3 ⊢;clear S3 hLa hDa2 hq1 S2;have c0:(itW sp tk be 0).1.length+nQ (itW sp tk be 0).1≤17:=by
  have:nQ [(be,([]:List Stp))]≤16:=by
   unfold nQ;have:=List.countP_le_length (p:=fun x:Nat=>(lkW [(be,([]:List Stp))] ((x:Nat):Int)).isNone) (l:=aQ 16);rw [bo] at this;exact this
  show 1+nQ [(be,([]:List Stp))]≤17;lia
 have c1:2 * nQ (itW sp tk be 0).1+(itW sp tk be 0).2.length≤40:=by
  have e1:(itW sp tk be 0).1.length=1:=rfl;have e2:(itW sp tk be 0).2.length=1:=rfl;lia
 refine ⟨fun n σ HA=>∃ (i:Nat) (v6 v7 v8:Option V),n=2 * nQ (itW sp tk be i).1+(itW sp tk be i).2.length∧n≤40∧σ=[some v,some (.ref u),some (.int be),some (.int en),some (.ref Da),some (.ref La),v6,v7,v8]∧JW H HA Da La (itW sp tk be i)∧WI m.toNat sp tk be (itW sp tk be i)∧Clo sp tk (fun _=>False) (itW sp tk be i)∧(itW sp tk be i).1.length+nQ (itW sp tk be i).1≤17∧∀ j,j<i→lkW (itW sp tk be j).1 en=none,
  ⟨_,0,none,none,none,rfl,c1,rfl,J3,(start_ok be0 b1).1,(start_ok be0 b1).2,c0,fun j hj=>qS hj (Nat.not_lt_zero _)⟩,?_⟩
 rintro n σ HA ⟨i,v6,v7,v8,rfl,n40,rfl,JA,WA,CA,lA,bA⟩;obtain ⟨kvs,hDaA,dwA⟩:=JA.da;refine ⟨_,rfl,_,rfl,Da,_,rfl,DGet.k (k:= .inl en) hDaA,_,rfl,?_⟩;cases hen:lkW (itW sp tk be i).1 en with
 | some p =>
  obtain ⟨vp,hvp,dp⟩:=dwA.some hen;rw [hvp];refine iteF ⟨_,rfl,_,rfl,Da,vp,rfl,?_,k vp HA p JA.same dp ⟨i,hen,bA⟩⟩;have:=DGet.k (k:= .inl en) hDaA;rw [hvp] at this;exact this
 | none =>
  rw [dwA.none hen];refine iteT ⟨_,fun σ' H' z=>z,?_⟩;have hne:=left_of hlt held WA CA hen;obtain ⟨t1,t2,t3,t4⟩:=turn_ok E m16 hlt WA CA hne;have hlast:(itW sp tk be i).2.getLast? =some (lX (itW sp tk be i).2):=by
   unfold lX;rw [List.getLast?_eq_some_getLast hne];rfl
  have hget:((itW sp tk be i).2.map V.int)[((itW sp tk be i).2.map V.int).length - 1]? =some (V.int (lX (itW sp tk be i).2)):=by
   rw [ae,az,←List.getLast?_eq_getElem?,hlast];rfl
  refine ⟨_,rfl,.inl ⟨rfl,_,SqL.of JA.la⟩,La,_,_,rfl,rfl,JA.la,hget,?_⟩;have JB:=JA.upL (td:=(itW sp tk be i).2.dropLast) hLaH nDL;rw [List.map_dropLast] at JB;generalize upd HA La (.lst ((itW sp tk be i).2.map V.int).dropLast)=HB at JB ⊢;have hx:lkW (itW sp tk be i).1 (lX (itW sp tk be i).2)≠none:=WA.ahd _ (last_mem hlast);have W0:WI m.toNat sp tk be ((itW sp tk be i).1,(itW sp tk be i).2.dropLast):=⟨WA.pth,WA.rng,fun y hy=>WA.ahd y ((List.dropLast_sublist _).subset hy),WA.beg⟩;have C0:Clo sp tk (· =lX (itW sp tk be i).2) ((itW sp tk be i).1,(itW sp tk be i).2.dropLast):=fun y hy hn ex t ht'=>CA y hy (fun z=>by
   rw [List.getLast?_eq_some_iff] at hlast;obtain ⟨ys,hys⟩:=hlast;rw [hys,fV] at hn;rw [hys] at z
   rcases aK.mp z with z | z
   ·exact hn z
   ·exact ex (ax.mp z)) (fun z=>z) t ht'
  have eT:itW sp tk be (i+1)=(dt sp tk (lX (itW sp tk be i).2)).foldl (iu sp (lX (itW sp tk be i).2)) ((itW sp tk be i).1,(itW sp tk be i).2.dropLast):=rfl;have bN:∀ j,j<i+1→lkW (itW sp tk be j).1 en=none:=fun j hj=>by
   rcases i8.mp hj with h | h
   ·exact bA j h
   ·rw [h];exact hen
  rw [show qj sp tk (itW sp tk be i)=itW sp tk be (i+1) from rfl] at t1 t2 t3 t4;generalize lX (itW sp tk be i).2=x at hx C0 eT ⊢;generalize hc:((itW sp tk be i).1,(itW sp tk be i).2.dropLast)=c at JB W0 C0 eT;have hx:lkW c.1 x≠none:=by rw [←hc];exact hx
  have lc:c.1.length+nQ c.1≤17:=by rw [←hc];exact lA
  have lc2:2 * nQ c.1+c.2.length≤40:=by
   rw [←hc];show 2 * nQ (itW sp tk be i).1+(itW sp tk be i).2.dropLast.length≤40;rw [List.length_dropLast];lia
  refine ⟨_,rfl,_,rfl,_,rfl,v,u,b,m,sp,tk,x,rfl,hv.same JB.same,JB.same _ _ hu,hlt,few,fun L HC zs SC fL hL dz=>⟨L,rfl,⟨_,SqL.of hL⟩,?_⟩⟩;have nLL:L≠La:=fun z=>by rw [z,JB.la] at fL;cases fL
  have JC:=JB.on SC;clear JB hc;have vis:∀ j:Nat,WI m.toNat sp tk be (((dt sp tk x).take j).foldl (iu sp x) c)∧lkW (((dt sp tk x).take j).foldl (iu sp x) c).1 x≠none∧(((dt sp tk x).take j).foldl (iu sp x) c).1.length≤17∧(((dt sp tk x).take j).foldl (iu sp x) c).2.length≤40:=fun j=>by
   obtain ⟨b1,_,_,b4,b5,b6⟩:=oX E m16 hlt (L:=(dt sp tk x).take j) W0 hx (fun t h=>jZ h) C0;exact ⟨b1,by rw [b4 x hx];exact hx,by lia,by lia⟩
  have lz:zs.length=(dt sp tk x).length:=by rw [dz.length];unfold fJ;rw [ae]
  refine lF (K:=K) (a:=L) (xs:=zs) (fun j σ HD=>JW H HD Da La (((dt sp tk x).take j).foldl (iu sp x) c)∧HD L=some (.lst zs)∧dM HD zs (fJ Stp.row (dt sp tk x))∧∃ w7 w8,σ=[some v,some (.ref u),some (.int be),some (.int en),some (.ref Da),some (.ref La),some (.int x),w7,w8]) ⟨JC,hL,dz,_,_,rfl⟩ (fun j σ HD _ ⟨_,h,_⟩=>SqL.of h) ?_ ?_
  ·rintro j y σ HD hy ⟨JD,hLD,dD,w7,w8,rfl⟩
   have hj:j<(dt sp tk x).length:=by have:=(av.mp hy).1;lia
   have hsj:=gE hj;obtain ⟨y',hy',dy⟩:=dD.at (i:=j) (d:= .tup ((Stp.row (dt sp tk x)[j]).map Dt.int)) (by unfold fJ;rw [az,hsj];rfl);rw [hy] at hy';cases hy';obtain ⟨q,qs,rfl,hq,rq⟩:=dy.tup_of;have eq:=rq.ints_of;subst eq;have hmem:(dt sp tk x)[j]∈dt sp tk x:=bK hj;have hin:=hlt _ (mem_stF (cb.mp hmem).1).1;have fold:((dt sp tk x).take (j+1)).foldl (iu sp x) c=iu sp x (((dt sp tk x).take j).foldl (iu sp x) c) (dt sp tk x)[j]:=by
    rw [bj,hsj];show ((dt sp tk x).take j++[(dt sp tk x)[j]]).foldl _ _=_;rw [cQ];rfl
   rw [fold];obtain ⟨Wj,xj,kj,aj⟩:=vis j;generalize ((dt sp tk x).take j).foldl (iu sp x) c=d at JD Wj xj kj aj;generalize (dt sp tk x)[j]=st at hq hin dy;refine ⟨_,rfl,_,rfl,v,q,b,m,sp,st,sAt sp st.i,rfl,hv.same JD.same,hq,jh hin,?_⟩;rw [(nh hin).1];obtain ⟨kv2,hDaD,dwD⟩:=JD.da;refine ⟨_,rfl,_,rfl,Da,_,rfl,DGet.k (k:= .inl (e8 sp st)) hDaD,_,rfl,?_⟩;cases hto:lkW d.1 (e8 sp st) with
   | some p0 =>
    obtain ⟨vp,hvp,_⟩:=dwD.some hto;rw [hvp];have ev:iu sp x d st=d:=by unfold iu;exact qQ (by rw [hto];exact fun z=>nomatch z)
    rw [ev];exact iteF ⟨JD,hLD,dD,_,_,rfl⟩
   | none =>
    rw [dwD.none hto];refine iteT ?_;obtain ⟨ws,hws⟩:∃ ws,lkW d.1 x=some ws:=Option.ne_none_iff_exists'.mp xj;have ev:iu sp x d st=(d.1++[(e8 sp st,ws++[st])],d.2++[e8 sp st]):=by
     unfold iu;rw [qR hto,hws];rfl
    rw [ev];obtain ⟨vw,hvw,dw⟩:=dwD.some hws;obtain ⟨pw,yw,rfl,hpw,hlw,rw'⟩:=iV dw;have hget':DGet HD Da (V.int x) (some (.ref pw)):=by
     have:=DGet.k (k:= .inl x) hDaD;rw [hvw] at this;exact this
    have lw:=((Wj.pth x ws hws).1.len E be0 b1);refine ⟨_,rfl,_,rfl,Da,.ref pw,rfl,hget',_,rfl,szZ1,fun q4 H16 S16 h16=>⟨pw,q4,_,_,rfl,rfl,S16 _ _ hpw,h16,?_,fun q5 H17 S17 h17=>?_⟩⟩
    ·rw [hlw];exact aS (by show ws.length+1≤1000;lia) (by decide)
    have ST:=S16.trans S17;have hDa7:=ST _ _ hDaD;have dw7:=dwD.keep (bJ.tupK ST);have hLa7:=ST _ _ JD.la;have hL7:=ST _ _ hLD;have dD7:=dD.same ST;have S7:=JD.same.trans ST;have lk:kv2.length≤17:=by rw [dwD.len];exact kj
    refine ⟨_,rfl,_,rfl,Da,_,rfl,DPut.k (k:= .inl (e8 sp st)) hDa7 (bT (by lia:kv2.length≤999) (by decide)),?_⟩;have hway:IsD H17 (.ref q5) (oy (ws++[st])):=by
     refine .tup h17 ?_;rw [aF];exact (rw'.same ST).append (.cons (dy.same ST) .nil)
    rw [putK_new _ (dwD.none hto)];have K8:lH H17 (upd H17 Da (.dK (kv2++[(.inl (e8 sp st),.ref q5)]))):=fun q xs h=>by rw [bc (d7 h hDa7 nofun)];exact h
    have hDa8:(upd H17 Da (.dK (kv2++[(.inl (e8 sp st),.ref q5)]))) Da=some (.dK (kv2++[(.inl (e8 sp st),.ref q5)])):=aX;have dw8:DW (upd H17 Da (.dK (kv2++[(.inl (e8 sp st),.ref q5)]))) (kv2++[(.inl (e8 sp st),.ref q5)]) (d.1++[(e8 sp st,ws++[st])]):=DW.snoc ⟨rfl,qq K8 hway⟩ (dw7.keep K8);have hLa8:(upd H17 Da (.dK (kv2++[(.inl (e8 sp st),.ref q5)]))) La=some (.lst (d.2.map V.int)):=by rw [bc nDL.symm];exact hLa7
    have nLD:L≠Da:=d7 hLD hDaD nofun;have hL8:(upd H17 Da (.dK (kv2++[(.inl (e8 sp st),.ref q5)]))) L=some (.lst zs):=by rw [bc nLD];exact hL7
    have S8:bJ H (upd H17 Da (.dK (kv2++[(.inl (e8 sp st),.ref q5)]))):=fun a o e=>by rw [bc (bw e hDa)];exact S7 a o e
    have dD8:dM (upd H17 Da (.dK (kv2++[(.inl (e8 sp st),.ref q5)]))) zs (fJ Stp.row (dt sp tk x)):=eU K8 dD7;generalize upd H17 Da (.dK (kv2++[(.inl (e8 sp st),.ref q5)]))=H8 at hDa8 dw8 hLa8 hL8 S8 dD8 ⊢;refine ⟨_,rfl,.inl ⟨rfl,_,SqL.of hLa8⟩,_,rfl,La,_,_,rfl,rfl,hLa8,nj (by rw [ae];lia),?_⟩;have J8:JW H H8 Da La (d.1++[(e8 sp st,ws++[st])],d.2):=⟨S8,⟨_,hDa8,dw8⟩,hLa8⟩;have J9:=J8.upL (td:=d.2++[e8 sp st]) hLaH nDL;rw [aF] at J9;refine ⟨J9,?_,eU (fv hLa8) dD8,_,_,rfl⟩;rw [bc nLL];exact hL8
  ·rintro σ HD ⟨JD,hLD,dD,w7,w8,rfl⟩
   rw [lz,bh,←eT] at JD;exact ⟨_,t3,i+1,_,_,_,rfl,by lia,rfl,JD,t1,t2,by lia,bN⟩
theorem ow.natsF (a:ow m sp ns):∃ (l π:List Nat),ns=l.map (fun (i:Nat)=>(i:Int))∧Ordd sp π∧l.Perm (kB sp m π).2:=by
 obtain ⟨π,o,p,_⟩:=a;have nn:∀ x∈ns,0≤x:=fun x hx=>by
  obtain ⟨i,_,rfl⟩:=aW.mp (p.mem_iff.mp hx);lia
 refine ⟨ns.map Int.toNat,π,?_,o,?_⟩
 ·rw [dG]
  conv=>lhs;rw [←List.map_id ns]
  exact ft fun x hx=>(iT (nn x hx)).symm
 ·have q:=p.map Int.toNat
  rw [dG] at q;have e:((kB sp m π).2.map (Int.toNat ∘ fun (i:Nat)=>(i:Int)))=(kB sp m π).2:=by
   conv=>rhs;rw [←List.map_id (kB sp m π).2]
   exact ft fun x _=>rfl
  rw [e] at q;exact q
theorem gone_ltF (O:Ordd sp π)(pm:l.Perm (kB sp m π).2):∀ i∈l,i<sp.length:=fun i hi=>by
 rcases (kG sp π (jK m,[])).1 i (pm.mem_iff.mp hi) with z | z
 ·cases z
 ·exact O.lt z
theorem scRingBy:cp ["net","span","start","goal"] pzg (defScope sRingBy):=by trivial
theorem ok_ringBy (F:Fun K "ring_by" "ring_by" sRingBy f fd)(G1:Fn K mg "way_between" sWayB pzv f1 fd1)(F1:cR P w K mg base CX0 3 f1 fd1 pzv spWayBt)
  (G2:Fn K mg "forest_of" lT pza f2 fd2) (F2:cR P w K mg base CX0 6 f2 fd2 pza (kX Tb0 lp lq)):cR P w K mg base CX0 7 f fd pzg (spRingBy Tb0 lp lq):=by
 refine F.ok scRingBy (by contradiction) (fun cdv A outer s H vs Q E hr h=>?_);obtain ⟨v,b,m,sp,k,rfl,hv,N,hT,hk,fin⟩:=h;obtain ⟨t,p,ys,rfl,ht,hp,hl,hy⟩:=gp hv;obtain ⟨q,hq,hq2⟩:=hy k _ (jh hk);have hr1:iA 3 _:=hr.mono (by decide);have E:=N.ends;have few:=N.few;obtain ⟨a0,a1,b0,b1⟩:=E _ (dQ hk);refine ⟨_,PSl.h (bg ⟨(psZ 2 scRingBy.nd (ixZ (fB fm (ixZ (pv 0)) (pv 1) (fun _ _=>rfl))))⟩
  (bg ⟨(psZ 3 scRingBy.nd (ixZ (fB fm (ixZ (pv 0)) (pv 1) (fun _ _=>rfl))))⟩
  (dF ⟨(cO (dv oi (dU (ak (dU (ak (pv 1) (ak bR aI))) aI)) (pc1 G1 F1 hr1 (ak (pv 0) (ak (pc1 G2 F2 hr (ak (pv 0) aI)) (ak (pv 3) (ak (pv 2) aI)))))))⟩))),?_⟩
 refine ⟨_,rfl,t,_,_,_,rfl,rfl,SqT.of ht,aR (j:=2) rfl,_,rfl,p,_,_,_,rfl,rfl,SqT.of hp,aR (j:=k) hq,q,_,_,_,rfl,rfl,SqT.of hq2,aR (j:=0) rfl,?_⟩;refine ⟨_,rfl,t,_,_,_,rfl,rfl,SqT.of ht,aR (j:=2) rfl,_,rfl,p,_,_,_,rfl,rfl,SqT.of hp,aR (j:=k) hq,q,_,_,_,rfl,rfl,SqT.of hq2,aR (j:=1) rfl,?_⟩;refine ⟨_,rfl,nS,fun q1 H1 S1 h1=>⟨szZ1,fun q2 H2 S2 h2=>⟨_,rfl,_,rfl,.ref t,b,m,sp,rfl,hv.same (S1.trans S2),N,LamT.same (S1.trans S2) hT,fun u H3 ns tb3 hT3 hu F0=>?_⟩⟩⟩;have hT2:=LamT.same (S1.trans S2) hT;have K3:=Tb.tupK (LamT.tbl hT2) tb3;obtain ⟨l,π,rfl,O,pm⟩:=F0.natsF;have hlt:=gone_ltF O pm;have lfew:l.length≤40:=by have:=F0.len;rw [ae] at this;lia
 rw [dG] at hu;refine ⟨_,rfl,_,rfl,.ref t,u,b,m,sp,l,(sAt sp k).g,(sAt sp k).s,rfl,cw K3 (hv.same (S1.trans S2)),N,hu,hlt,lfew,b0,by have:=N.m1;lia,held_span E O pm hk,fun w4 H4 pth S4 d4 wr=>?_⟩;obtain ⟨pw,yw,rfl,hpw,hlw,rw'⟩:=iV d4;have hP:=WayR.pth E (by have:=N.m2;lia) hlt b0 b1 (held_span E O pm hk) wr;have ln:=hP.len E b0 b1;have h24:=S4 _ _ (K3 _ _ h2);have h14:=S4 _ _ (K3 _ _ (S2 _ _ h1));refine ⟨q2,pw,_,_,rfl,rfl,h24,hpw,?_,fun q5 H5 S5 h5=>?_⟩
 ·rw [hlw];have:=N.m2;exact aS (by show 1+pth.length≤1000;lia) (by decide)
 refine fin _ H5 l π pth ((bJ.tb (S1.trans S2)).trans (tb3.trans (bJ.tb (S4.trans S5)))) (LamT.same (S4.trans S5) hT3) ?_ F0 O pm wr;exact .tup h5 (.cons (.tup (S5 _ _ h14) (dM.ints (Stp.row ⟨k,1⟩))) (rw'.same S5))
abbrev pG:cF:=top 26
theorem inV_intsF (x:Int):∀ p:List Int,inV (.int x) (p.map V.int)=decide (x∈p)
 | []=>by simp [inV]
 | y::p=>by
  have ih:=inV_intsF x p;unfold inV at ih ⊢;rw [bZ,jW,ih]
  by_cases e:y=x
  ·subst e;simp [eqV]
  ·have:eqV (.int y) (.int x)=false:=by simp [eqV,e]
   rw [this];simp [aB,bX e]
theorem inV_nat (x:Nat)(l:List Nat):inV (.int (x:Int)) (l.map fun (i:Nat)=>V.int i)=decide (x∈l):=by
 have e:(l.map fun (i:Nat)=>V.int i)=(l.map fun (i:Nat)=>(i:Int)).map V.int:=by rw [dG];rfl
 rw [e,inV_intsF];refine decide_eq_decide.mpr ⟨fun h=>?_,fun h=>aW.mpr ⟨x,h,rfl⟩⟩;obtain ⟨j,hj,e⟩:=aW.mp h;have:j=x:=by lia
 rw [←this];exact hj
theorem scRingsO:cp ["net","taken"] pza (defScope pG):=by trivial
theorem ok_ringsO (F:Fun K "rings_of" "rings_of" pG f fd)(T:Nm mg)(T2:Nt mg)(G1:Fn K mg "forest_of" lT pza f1 fd1)(F1:cR P w K mg base CX0 6 f1 fd1 pza (kX Tb0 lp lq))(G2:Fn K mg "ring_by" sRingBy pzg f2 fd2)(F2:cR P w K mg base CX0 7 f2 fd2 pzg (spRingBy Tb0 lp lq)):cR P w K mg base CX0 8 f fd pza (oM Tb0 lp lq):=by
 refine F.ok scRingsO (by contradiction) (fun cdv A outer s H vs Q E hr h=>?_);obtain ⟨v,b,m,sp,rfl,hv,N,hT,k⟩:=h;have hr6:iA 6 _:=hr.mono (by decide);have E:=N.ends;have few:=N.few;have m1:=N.m1;refine ⟨_,PSl.h (bg ⟨(psZ 1 scRingsO.nd (pc1 G1 F1 hr6 (ak (pv 0) aI)))⟩
  (dF ⟨(cO (j9 (fr:=["net","taken"]) (js:=[0,1]) rfl (iZ rfl T2.range (ak (dO cz rfl T.len cj (ak (ixZ (pv 0)) aI)) aI)) (by trivial) rfl (by trivial) rfl (by exists pG) (by trivial) rfl (by trivial) (fun _ _ _ _ _=>⟨(pc1 G2 F2 hr (ak (pv 1) (ak (pv 0) aI))),(pL (dB (r:=rIn K true) op_notIn_seq (pv 0) (pv 2) rfl))⟩)))⟩)),?_⟩
 refine ⟨_,rfl,v,b,m,sp,rfl,hv,N,hT,fun u H1 ns tb1 hT1 hu F0=>?_⟩;obtain ⟨l,π,rfl,O,pm⟩:=F0.natsF;have fr:iM m.toNat sp l:=⟨F0,π,O,pm⟩;rw [dG] at hu;have hu:H1 u=some (.tup (l.map fun (i:Nat)=>V.int i)):=hu;have hv1:=cw (Tb.lamT hT tb1) hv;obtain ⟨t,p,ys,rfl,ht,hp,hl,hy⟩:=gp hv1;refine ⟨_,rfl,t,_,_,_,rfl,rfl,SqT.of ht,aR (j:=2) rfl,p,_,rfl,.inr (SqT.of hp),_,rfl,by lia,by lia,?_⟩;refine mx (n:=((ys.length:Int)).toNat) (fun i zs HC=>L2.Tb Tb0 H1 HC∧L2.LamT Tb0 lp lq HC∧∃ rg:List (Nat×List Stp),zs.length≤i∧dM HC zs (rg.map wayQ)∧(∀ q∈rg,RK sp l q)∧rg.map (·.1)=(aQ i).filter fun k=> !(decide (k∈l))) ⟨Tb.refl H1,hT1,[],aA _,.nil,fun _ h=>qS h (by simp),rfl⟩ (fun i zs HC hi ⟨_,_,_,e2,_⟩=>e2) (fA (by lia)) (fun i zs HC hi ⟨tb,hTC,rg,lz,dz,hrk,hks⟩=>?_) (fun zs HC ⟨tb,hTC,rg,lz,dz,hrk,hks⟩ D hD=>?_)
 ·rw [gO]
  have hin:i<sp.length:=by lia
  have KC:=Tb.lamT hT1 tb;have ef:(aQ (i+1)).filter (fun k=> !(decide (k∈l)))=(aQ i).filter (fun k=> !(decide (k∈l)))++(if i∈l then [] else [i]):=by
   rw [List.range_succ,jb];congr 1;rw [dZ,List.filter_nil]
   by_cases c:i∈l
   ·rw [qR c,qT c];rfl
   ·rw [qQ c,qU c];rfl
  refine ⟨_,rfl,_,rfl,u,_,rfl,.inr (SqT.of (KC _ _ hu)),rfl,(by rw [List.all_map];exact List.all_eq_true.mpr fun _ _=>rfl),_,rfl,?_⟩;rw [inV_nat];show if (!(decide (i∈l)))=true then _ else _;rw [ef];refine ite2 (fun hc=>?_) (fun hc=>?_)
  rotate_left
  ·have c:i∈l:=by simpa using hc
   rw [qR c,cK];exact ⟨tb,hTC,rg,by lia,dz,hrk,hks⟩
  have c:i ∉ l:=by simpa using hc
  rw [qQ c];refine ⟨_,rfl,_,rfl,.ref t,b,m,sp,i,rfl,cw KC hv1,N,hTC,hin,fun q HD l' π' pw tbD hTD dq F0' O' pm' wr=>?_⟩;have el:l'=l:=iM.one (m:=m.toNat) (sp:=sp) ⟨F0',π',O',pm'⟩ fr;subst el;obtain ⟨s0,s1,g0,g1⟩:=E _ (dQ hin);have hlt:=(fr.pots E).nodup.2;have Pw:=WayR.pth E (by have:=N.m2;lia) hlt g0 g1 (fr.held E hin).symm wr;have KD:=Tb.lamT hTC tbD;refine ⟨tb.trans tbD,hTD,rg++[(i,⟨i,1⟩::pw)],by rw [au];show zs.length+1≤i+1;lia,?_,fun q' hq'=>?_,by rw [aF,hks];rfl⟩
  ·rw [aF]
   exact (dM.keepP KD dz (lx rg fun q _=>mQ _ _)).append (.cons dq .nil)
  ·rcases aK.mp hq' with z | z
   ·exact hrk q' z
   ·rw [ax.mp z];exact ⟨hin,c,pw,rfl,Pw⟩
 ·have SD:bJ HC (upd HC D (.lst zs)):=bJ.put (bJ.refl HC) hD
  have hDH:H D=none:=by
   cases z:H D with
   | none=>rfl
   | some o =>
    by_cases e:D=Tb0
    ·subst e
     obtain ⟨ps,hps⟩:=LamT.tbl hTC;rw [hps] at hD;cases hD
    ·have:=tb D o e (tb1 D o e z)
     rw [hD] at this;cases this
  refine k D zs l rg _ (tb1.trans (tb.trans (bJ.tb SD))) (LamT.same SD hTC) hDH aX (dz.same SD) ⟨fr,hrk,?_⟩;rw [hks];unfold pJ;rw [cq,hl]
abbrev sOverR:cF:=top 39
abbrev sMid:cF:=top 41
abbrev sDeadL:cF:=top 42
theorem noFree {n:List (Str×cu)}{p:Str×cu→Prop}(h:(n.all fun y=>y.2 != .free)=true):∀ y∈n,y.2= .free→p y:=fun y hy e=>by
 have:=List.all_eq_true.mp h y hy;rw [e] at this;exact qS this (by decide)
theorem pi_tupK {l:Expr}(e:X.K=K)(hl:PE X l tl):PI X tg l (iTup K tl):=e ▸ mB hl
theorem scOverR:cp pzp pzp (defScope sOverR):=by trivial
theorem ok_overR (F:Fun K "rings_over" "rings_over" sOverR f fd):cR P w K mg base CX0 1 f fd pzp spOverR:=by
 refine F.ok scOverR (by contradiction) (fun cdv A outer s H vs Q E hr h=>?_);obtain ⟨u,kk,rl,rg,rfl,hu,hrs,few,hlen,k⟩:=h;have lrl:rl.length=rg.length:=by rw [hrs.length,ae]
 refine ⟨_,PSl.h (dF ⟨(cO (j9 (fr:=["span"]) (js:=[1]) rfl (jn (pv 0)) (by trivial) rfl (by trivial) rfl (by exists sOverR) (by trivial) rfl (by trivial) (fun _ _ _ _ _=>⟨(pv 0),(pL (dB (r:=rIn K false) op_in_seq (pv 1) (by exact (j9 (fr:=[]) (js:=[]) rfl (pi_tupK (K:=K) rfl (pv 0)) (by trivial) rfl (by trivial) rfl (noFree (by trivial)) (by trivial) rfl (by trivial) (fun _ _ _ _ _=>⟨(fB (r:=rIxT K) fm (pv 0) bR (fun _ _=>rfl)),j8⟩))) rfl))⟩)))⟩),?_⟩;refine ⟨_,rfl,u,rfl,⟨_,SqL.of hu⟩,?_⟩;refine kJ (K:=K) (a:=u) (xs:=rl) (fun i zs HC=>bJ H HC∧zs.length≤i∧dM HC zs (((rg.take i).filter (iw kk)).map wayQ)) ⟨bJ.refl H,aA _,.nil⟩ (fun i zs HC hi ⟨S,e2,_⟩=>⟨SqL.of (S _ _ hu),e2⟩) (by rw [lrl];exact fA (by lia)) (fun i x zs HC hx ⟨S,e2,e3⟩=>?_) (fun zs HC ⟨S,e2,e3⟩ D hD=>?_)
 ·have hi:i<rg.length:=by have:=(av.mp hx).1;lia
  obtain ⟨d,ed,dx⟩:=hrs.get hx;rw [az,gE hi] at ed;cases ed;have dx:IsD H x (oy rg[i].2):=dx;obtain ⟨px,yx,rfl,hpx,hlx,rx⟩:=iV dx;have et:(rg.take (i+1)).filter (iw kk)=(rg.take i).filter (iw kk)++(if iw kk rg[i]=true then [rg[i]] else []):=by
   rw [bj,gE hi,jb];congr 1;show List.filter _ [rg[i]]=_;rw [dZ];rfl
  have ln:=hlen _ (bK hi);refine ⟨_,rfl,_,rfl,px,rfl,⟨_,SqT.of (S _ _ hpx)⟩,?_⟩;refine oV (K:=K) (a:=px) (xs:=yx) (fun j ws HD=>HD=HC∧ws=((rg[i].2.take j).map fun s=>V.int (s.i:Int))) ⟨rfl,rfl⟩ (fun j ws HD hj ⟨e1,e2'⟩=>⟨by rw [e1];exact SqT.of (S _ _ hpx),by rw [e2',ae,bH];lia⟩) (by rw [hlx];exact fA ln) (fun j y ws HD hy' ⟨e1,e2'⟩=>?_) (fun ws HD ⟨e1,e2'⟩ D hD=>?_)
  ·subst e1
   have hj:j<rg[i].2.length:=by have:=(av.mp hy').1;lia
   obtain ⟨q,hq,hq2⟩:=kz rx (gE hj);rw [hy'] at hq;cases hq;refine jo ?_;refine ⟨_,rfl,q,_,_,_,rfl,rfl,SqT.of (S _ _ hq2),aR (j:=0) rfl,rfl,?_⟩;rw [e2',bj,gE hj,aF];rfl
  ·subst e1
   have S1:bJ HD (upd HD D (.lst ws)):=bJ.put (bJ.refl HD) hD;have hD1:(upd HD D (.lst ws)) D=some (.lst ws):=aX;generalize upd HD D (.lst ws)=HE at S1 hD1 ⊢;rw [hlx,bh] at e2';subst e2';refine ⟨D,_,rfl,.inl (SqL.of hD1),rfl,(by rw [List.all_map];exact List.all_eq_true.mpr fun _ _=>rfl),_,rfl,?_⟩;rw [show (rg[i].2.map fun s=>V.int (s.i:Int))=(rg[i].2.map Stp.i).map (fun (i:Nat)=>V.int i) by rw [dG];rfl,inV_nat,et];show if (decide (kk∈rg[i].2.map Stp.i))=true then _ else _;have eo:iw kk rg[i]=decide (kk∈rg[i].2.map Stp.i):=rfl;rw [eo];refine ite2 (fun c=>?_) (fun c=>?_)
   ·refine ⟨_,rfl,S.trans S1,by rw [au];show zs.length+1≤i+1;lia,?_⟩
    rw [qR c,aF];exact (e3.same S1).append (.cons (dx.same (S.trans S1)) .nil)
   ·refine ⟨S.trans S1,by lia,?_⟩
    rw [qQ c,cK];exact e3.same S1
 ·rw [lrl,bh] at e3
  have S1:bJ HC (upd HC D (.lst zs)):=bJ.put (bJ.refl HC) hD;refine k D zs _ (S.trans S1) (bJ.free S hD) aX (e3.same S1)
theorem scMid:cp ["case","span","bound"] pzn (defScope sMid):=by trivial
theorem ok_mid (F:Fun K "middle_of" "middle_of" sMid f fd):cR P w K mg base CX0 1 f fd pzn spMid:=by
 refine F.ok scMid (by contradiction) (fun cdv A outer s H vs Q E hr h=>?_);obtain ⟨c,kk,bs,rs,rfl,hc,hk,k⟩:=h;obtain ⟨vb,u,rl,h1,h2,h3,h4⟩:=hc.ex;obtain ⟨pb,yb,rfl,hpb,hlb,rb⟩:=iV h2;obtain ⟨q,hq,hq2⟩:=kz rb (gE hk);have e0:bs.getD kk (0,0)=bs[kk]:=by rw [ah,gE hk];rfl
 refine ⟨_,PSl.h (bg ⟨(psZ 2 scMid.nd (fB fm (ixZ (pv 0)) (pv 1) (fun _ _=>rfl)))⟩
  (dF ⟨(cO (dv op_fdiv (dv gG (ixZ (pv 2)) (ixZ (pv 2))) bR))⟩)),?_⟩
 refine ⟨_,rfl,c,_,_,_,rfl,rfl,SqT.of h1,aR (j:=0) rfl,_,rfl,pb,_,_,_,rfl,rfl,SqT.of hpb,aR (j:=kk) hq,?_⟩;refine ⟨_,rfl,q,_,_,_,rfl,rfl,SqT.of hq2,aR (j:=0) rfl,_,rfl,q,_,_,_,rfl,rfl,SqT.of hq2,aR (j:=1) rfl,_,_,rfl,rfl,_,_,rfl,rfl,⟨by decide,by decide⟩,?_⟩;rw [e0] at k;exact k
theorem scDeadL:cp ["net","case","ring"] pzh (defScope sDeadL):=by trivial
theorem ok_deadL (F:Fun K "dead_leaf" "dead_leaf" sDeadL f fd)(G1:Fn K mg "is_dead" sDead pzb f1 fd1)(F1:cR P w K mg base CX0 3 f1 fd1 pzb spDead):cR P w K mg base CX0 4 f fd pzh pf:=by
 refine F.ok scDeadL (by contradiction) (fun cdv A outer s H vs Q E hr h=>?_);obtain ⟨v,c,b,m,sp,bs,rs,rfl,hv,b0,b61,hc,few,hin,k⟩:=h;obtain ⟨vb,u,rl,h1,h2,h3,h4⟩:=hc.ex;have hr3:iA 3 _:=hr;have lrl:rl.length=rs.length:=by rw [h4.length,ae]
 refine ⟨_,PSl.h (bg ⟨(iW bM rfl (jn (ixZ (pv 1))) (pgZ 2 scDeadL.nd) (dE (kh (pt_val (pc1 G1 F1 hr3 (ak (pv 0) (ak (ixZ (pv 1)) (ak (pv 2) aI))))) (dE (cO (dU (ak mE (ak (pv 2) aI))))) gH)))⟩
  (dF ⟨(cO mF)⟩)),?_⟩
 refine ⟨_,rfl,c,_,_,_,rfl,rfl,SqT.of h1,aR (j:=1) rfl,u,rfl,⟨_,SqL.of h3⟩,?_⟩;refine lF (K:=K) (a:=u) (xs:=rl) (fun i σ H1=>bJ H H1∧(∀ q∈rs.take i,jD b bs q.2=false)∧∃ v2,σ=[some v,some (.ref c),v2]) ⟨bJ.refl H,fun _ h=>qS h (by simp),none,rfl⟩ (fun i σ H1 _ ⟨S,_⟩=>SqL.of (S _ _ h3)) ?_ ?_
 ·rintro i x σ H1 hx ⟨S1,hal,v2,rfl⟩
  have hi:i<rs.length:=by have:=(av.mp hx).1;lia
  obtain ⟨d,ed,dx⟩:=h4.get hx;rw [az,gE hi] at ed;cases ed;have dx:IsD H x (oy rs[i].2):=dx;refine ⟨_,rfl,_,rfl,c,_,_,_,rfl,rfl,SqT.of (S1 _ _ h1),aR (j:=0) rfl,_,rfl,v,vb,x,b,m,sp,bs,rs[i].2,rfl,hv.same S1,b0,b61,h2.same S1,dx.same S1,hin _ (bK hi),fun H2 S2=>⟨_,rfl,ite2 (fun hc=>?_) (fun hc=>?_)⟩⟩
  ·refine ⟨_,rfl,nS,fun q3 H3 S3 h3'=>?_⟩
   exact k (.ref q3) H3 (S1.trans (S2.trans S3)) (.inr ⟨rs[i],bK hi,.tup h3' (.cons (.str _) (.cons (dx.same (S1.trans (S2.trans S3))) .nil)),hc⟩)
  ·refine ⟨S1.trans S2,fun q hq=>?_,_,rfl⟩
   rw [bj,gE hi] at hq
   rcases aK.mp hq with z | z
   ·exact hal q z
   ·rw [ax.mp z];exact jy.mpr hc
 ·rintro σ H1 ⟨S1,hal,v2,rfl⟩
  rw [lrl,bh] at hal;exact k .non H1 S1 (.inl ⟨rfl,hal⟩)
def RDead (b:Int)(sp:List Sn)(bs:List (Int×Int))(d:Dt):Prop:=∃ p:List Stp,d=leafP (.ring p)∧Rg sp p∧jD b bs p=true
theorem oj (p:List Stp):LeafW (leafP (.ring p)):=⟨by show (true && (pl (oy p) && true))=true;rw [show pl (oy p)=true from mQ _ _];rfl,"ring",oy p,rfl,by decide⟩
def qg (T0 T1:ai)(H H':Hp):Prop:=∀ a o,a≠T0→a≠T1→H a=some o→H' a=some o
theorem qg.trans (a:qg T0 T1 H H1)(b:qg T0 T1 H1 H2):qg T0 T1 H H2:=fun x o n0 n1 e=>b x o n0 n1 (a x o n0 n1 e)
theorem bJ.stayT (a:bJ H H'):qg T0 T1 H H':=fun x o _ _ e=>a x o e
inductive oN (v:V)(b m:Int)(sp:List Sn)(R:List (Int×Int)→Dt→Prop)(vs:List V)(H:Hp)(Q:VK)(_:XK):Prop
 | mk (l:List Nat)(rg:List (Nat×List Stp))(q:ai)(c:Cse)(_:vs=[.ref q])(_:FR m sp l rg)(_:CsD H q c.1 c.2)(_:jj b sp l rg c)(_:IsD H v (lM b m sp))(_:∀ r H',bJ H H'→((∃ d,IsD H' r d∧LeafW d∧R c.1 d)∨(r= .non∧(∀ z∈c.2,jD b c.1 z.2=false)∧∃ k∈l,(c.1.getD k (0,0)).1<(c.1.getD k (0,0)).2))→Q r H')
inductive oK (P:aN)(w:bp)(K:aq)(mg:Str→Option aa)(base:bz)(T0:ai)(p0:Pos)(q0:Str)(T1:ai)(p1:Pos)(q1:Str)(vs:List V)(H:Hp)(Q:VK)(_:XK):Prop
 | mk (v:V)(g:ai)(b m:Int)(sp:List Sn)(R:List (Int×Int)→Dt→Prop)(_:vs=[v,.ref g])(_:IsD H v (lM b m sp))(_:kd b m sp)(_:(∀ l,iM m.toNat sp l→jJ sp l≤4096))(_:L2.LamT T0 p0 q0 H)(_:L2.LamT T1 p1 q1 H)(_:LmOk P w K mg base 6 g (qg T0 T1 H) (oN v b m sp R))(_:∀ (u:V) (t:Tq) (H':Hp),qg T0 T1 H H'→Kp H H'→L2.LamT T0 p0 q0 H'→L2.LamT T1 p1 q1 H'→IsD H' u (kT t)→pl (kT t)=true→GoodT R t (sp.map fun z=>(z.l,z.o)) 21→Q u H')
section
variable {m:Int}{rg:List (Nat×List Stp)}{cs:List Cse}{c:Cse}
theorem sz_cut (f:FF m sp l rg)(lrg:rg.length≤40)(C:jj b sp l rg c)(al:∀ q∈c.2,jD b c.1 q.2=false){k:Nat}{a:Int}(hk:k∈l)(h1:(c.1.getD k (0,0)).1≤a)(h2:a<(c.1.getD k (0,0)).2)(hc:∀ d∈cs,jj b sp l rg d) :
  (∀ d∈cs++[(eV c.1 k a,rg.filter (iw k)),(lV c.1 k a,rg.filter (iw k))],jj b sp l rg d)∧szC l (cs++[(eV c.1 k a,rg.filter (iw k)),(lV c.1 k a,rg.filter (iw k))])<szC l (cs++[c])∧2≤e7 c.1 l:=by
 have ht2:=f.acy.nodup.2;obtain ⟨o1,o2⟩:=C.cut lrg ht2 al hk h1 h2;have p1:0<e7 (eV c.1 k a) l:=iY o1.ob ht2;have p2:0<e7 (lV c.1 k a) l:=iY o2.ob ht2;have e:=mP C.ob f.acy.nodup.1 ht2 hk h1 h2;refine ⟨fun d hd=>?_,?_,by lia⟩
 ·rcases aK.mp hd with z | z
  ·exact hc d z
  ·rcases aB.mp z with rfl | z
   ·exact o1
   ·rw [ax.mp z];exact o2
 ·rw [mK,mK]
  show _+((2 * e7 (eV c.1 k a) l - 1)+((2 * e7 (lV c.1 k a) l - 1)+0))<_+((2 * e7 c.1 l - 1)+0);lia
theorem sz_less (f:FF m sp l rg)(C:jj b sp l rg c):szC l cs<szC l (cs++[c]):=by
 have:=iY C.ob f.acy.nodup.2;rw [mK];show _<_+((2 * e7 c.1 l - 1)+0);lia
end
theorem pls_appT:∀ (xs ys:List Dt),pls (xs++ys)=(pls xs && pls ys)
 | [],ys=>by show pls ys=(true && pls ys);rw [Bool.true_and]
 | x::xs,ys=>by
  show (pl x && pls (xs++ys))=((pl x && pls xs) && pls ys);rw [pls_appT xs ys,Bool.and_assoc]
theorem LmOk.mono {k:Nat}{sp:Sp}(L:LmOk P w K mg base j f Hf sp)(h:j≤k):LmOk P w K mg base k f Hf sp:=⟨L.isFn,fun A outer s H u v Q hr=>L.run A outer s H u v Q (hr.mono h)⟩
theorem pl_pre:∀ (t:Tq),(∀ d,Mrk.leaf d∈pre t→LeafW d)→pl (kT t)=true
 | .leaf d,h=>(h d (by simp [pre])).1
 | .cut k a x y,h=>pl_cut (pl_pre x fun d hd=>h d (by simp [pre,hd])) (pl_pre y fun d hd=>h d (by simp [pre,hd]))
end HN
namespace L2
open PySem PySem.W PySem.Spec PyProof.Rows
def LamG (P:ai)(q:Str)(H:Hp):Prop:=∃ l:List (Pos×ai),H P=some (.tbl (triples l).toArray)∧∀ e∈l,CdK q H e.2
theorem LamG.tbl {P:ai}(k:LamG P q H):∃ ps,H P=some (.tbl ps):=let ⟨_,e,_⟩:=k;⟨_,e⟩
theorem LamG.nil {P:ai}(e:H P=some (.tbl #[])):LamG P q H:=⟨[],e,fun _ h=>qS h (by simp)⟩
theorem CdK.ne {P c:ai}{ps:Array aa}(k:CdK q H c)(e:H P=some (.tbl ps)):c≠P:=fun z=>by
 obtain ⟨oc,vs,t,e2,_⟩:=k;rw [z,e] at e2;cases e2
theorem LamG.stay {P:ai}(k:LamG P q H)(hT:∀ ps,H P=some (.tbl ps)→H' P=some (.tbl ps))(hf:∀ a o u,H a=some (.frz o u)→H' a=some (.frz o u)):LamG P q H':=by
 obtain ⟨l,e,r⟩:=k;refine ⟨l,hT _ e,fun x hx=>?_⟩;obtain ⟨oc,vs,t,e2,z⟩:=r x hx;exact ⟨oc,vs,t,hf _ _ _ e2,z⟩
theorem LamG.same {P:ai}(a:bJ H H')(k:LamG P q H):LamG P q H':=k.stay (fun _ e=>a _ _ e) fun _ _ _ e=>a _ _ e
theorem nV:∀ l:List (Pos×ai),TriplesOk (triples l)
 | []=>trivial
 | (p,c)::r=>nV r
theorem oZ {pos:Pos}:∀ {l:List (Pos×ai)} {cv:aa},codeAmong pos (triples l)=some cv→∃ e∈l,cv= .ref e.2
 | [],cv,h=>by cases h
 | (p,c)::r,cv,h=>by
  have h:(if (((p.line:Nat):Int) == ((pos.line:Nat):Int) && ((p.col:Nat):Int) == ((pos.col:Nat):Int))=true then some (aa.ref c) else codeAmong pos (triples r))=some cv:=h;split at h
  ·cases h;exact ⟨(p,c),by simp,rfl⟩
  ·obtain ⟨e,he,z⟩:=oZ h
   exact ⟨e,by simp [he],z⟩
section
variable {σ:List (Option V)}
theorem lam_makeG {c P:ai}(I:Inv X aH σ H s)(hd:defaultsOf params X.env=([],[]))(mU:X.env.code= .ref c)(C:codeHdIn X.K c P=true)(B:BM X.mg X.base)
  (hfr:∀ y∈scope.names,y.2= .free→X.env.scope.names.lookup y.1=some .cell) (T:LamG P (X.env.qual ++ "<lambda>") H)
  (h:∀ f cl H' s',Inv X aH σ H' s'→Tb P H H'→LamG P (X.env.qual ++ "<lambda>") H'→LamF (X.env.qual ++ "<lambda>") params body scope cl f H'→(∀ x c,cl.lookup x=some c→X.env.cells.lookup x=some c)→(∀ y∈scope.names,y.2= .free→cl.lookup y.1=X.env.cells.lookup y.1)→Q (.ref f) s') :
  aJ (aV X.prog X.w) X.A (dH (.Lambda params body scope pos) X.env) Q X.xe s:=by
 obtain ⟨cl,hclos,c1,c2⟩:=mW (scope:=scope) (env:=X.env) fun y hy hk=>I.ok.has _ (.inl (hfr y hy hk))
 refine kla_eval hd ?_;have hgs:s.heap.Ns bt X.mg:=I.mod.glob.keeps I.bk;obtain ⟨bm,ob,b1,b2,b3,b4,b5⟩:=B;have CH:CodeHd s.heap c P:=codeHd_of_K I.kIn C;obtain ⟨l,hP,K⟩:=T;have hbP:bm≠P:=fun q=>by have z:=(I.bs bm ob b4).2;rw [q,hP] at z;cases z
 have hgP:bt≠P:=fun q=>by
  obtain ⟨o,es,ep,e,_⟩:=I.mod.glob;have z:=(I.bs _ o e).2;rw [q,hP] at z;cases z
 have hBA:s.heap.BuiltinsAt X.mg P:=⟨bm,ob,b1,b2,b3,hbP,I.bk _ _ b4,b5⟩;have fin:∀ (H1:Hp) (h1:bz) (tk:Nat) (c':ai) (ctv:aa),Inv X aH σ H1 { s with heap:=h1,toks:=tk }→Tb P H H1→LamG P (X.env.qual ++ "<lambda>") H1→CdK (X.env.qual ++ "<lambda>") H1 c' →
   Q (.ref h1.objs.size) { s with heap:=h1.push (kla_obj "<lambda>" (X.env.qual ++ "<lambda>") params body scope cl ((X.mg "__name__").getD .none) c' ctv),toks:=tk }:=fun H1 h1 tk c' ctv I1 t1 T1 K1=>by
  have fr:H1 h1.objs.size=none:=I1.hok.fresh (aA _);have S:bJ H1 (upd H1 h1.objs.size (.frz (kla_obj "<lambda>" (X.env.qual ++ "<lambda>") params body scope cl ((X.mg "__name__").getD .none) c' ctv) (.own 0))):=fun a o e=>by rw [bc (bw e fr)];exact e
  have I2:=I1.laid (t':=tk) (a:=h1.objs.size) (o:= .frz (kla_obj "<lambda>" (X.env.qual ++ "<lambda>") params body scope cl ((X.mg "__name__").getD .none) c' ctv) (.own 0)) (h':=h1.push (kla_obj "<lambda>" (X.env.qual ++ "<lambda>") params body scope cl ((X.mg "__name__").getD .none) c' ctv)) (fun b u e=>ar _ e) (aA _) ⟨aU _ rfl,_,aU _ rfl⟩;obtain ⟨oc,vs,t,e,r⟩:=K1;exact h _ cl _ _ I2 (t1.trans S.tb) (T1.same S) ⟨_,c',ctv,aX,oc,vs,t,S _ _ e,r⟩ c1 c2
 have hPh:s.heap.get? P=some (tabObj (triples l).toArray):=I.hok P _ hP;cases hq:codeAmong pos (triples l) with
 | none =>
  refine kla_makeFunction (mg:=X.mg) hclos I.ok.glob hgs mU CH hPh (by rw [eF];exact nV l) (by rw [eF];exact hq) hgP hBA fun c' ctv h' tk hx hge hlt hrec htb=>?_
  have I1:=I.grown (tk:=tk) hP hx htb;obtain ⟨c2',oc,vs,t,e2,hoc,hdd,hv⟩:=hrec;cases e2;have Plt:P<s.heap.objs.size:=aE hPh;have ncP:c'≠P:=cy (aL Plt hge);have frc:H c'=none:=I.hok.fresh hge;have hn1:(upd H P (.tbl ((triples l).toArray++ #[gM pos.line,gM pos.col,.ref c']))) c'=none:=by rw [bc ncP];exact frc
  have old:∀ b o,s.heap.get? b=some o→b≠c':=fun b o e=>bE (aL (aE e) hge)
  have I2:=I1.take (D:=c') (o:= .frz oc (.own 0)) hn1 (aS I.sz hge) (cy (aL I.lt hge)) (fun x d e=>by obtain ⟨v,o,ho,_⟩:=I.cell x d e;exact old d o ho) (fun p hp=>old _ _ (I.pin p hp).1) ⟨hoc,_,hoc⟩;have tb:Tb P H (upd (upd H P (.tbl ((triples l).toArray++ #[gM pos.line,gM pos.col,.ref c']))) c' (.frz oc (.own 0))):=fun a o hn e=>by
   rw [bc (bw e frc),bc hn];exact e
  refine fin _ h' tk c' ctv I2 tb ⟨l++[(pos,c')],?_,fun x hx=>?_⟩ ⟨oc,vs,t,aX,hdd,hv⟩
  ·rw [bc (bX ncP),aX,triples_append]
   congr 2
   apply Array.toList_inj.mp
   simp
  ·rcases aK.mp hx with hx | hx
   ·exact (K x hx).tb tb ((K x hx).ne hP)
   ·rw [ax.mp hx]
    exact ⟨oc,vs,t,aX,hdd,hv⟩
 | some cv =>
  obtain ⟨e,he,rfl⟩:=oZ hq;refine kla_makeFunctionHit (cv:= .ref e.2) (mg:=X.mg) hclos I.ok.glob hgs mU CH hPh (by rw [eF];exact nV l) (by rw [eF];exact hq) hBA fun ctv h' tk hk hsz=>?_
  exact fin H h' tk e.2 ctv (I.kept hk) (Tb.refl H) ⟨l,hP,K⟩ (K e he)
def tLambG (env:Env)(T:ai)(params:eS)(body:Expr)(scope:eO):TE:=fun _ H Q=>LamG T (env.qual ++ "<lambda>") H∧∀ g cl H',Tb T H H'→LamG T (env.qual ++ "<lambda>") H'→LamF (env.qual ++ "<lambda>") params body scope cl g H'→LamE env scope cl→Q (.ref g) H'
theorem pe_lamG {c:ai}(hd:defaultsOf params X.env=([],[]))(mU:X.env.code= .ref c)(C:codeHdIn X.K c T=true)(B:BM X.mg X.base)
  (hfr:∀ y∈scope.names,y.2= .free→X.env.scope.names.lookup y.1=some .cell):PE X (.Lambda params body scope pos) (tLambG X.env T params body scope):=fun _ _ _ _ _ I ⟨L,h⟩ =>
 lam_makeG I hd mU C B hfr L fun f cl H' _ I' t1 T1 F c1 c2=>⟨.ref f,H',I',rfl,h f cl H' t1 T1 F ⟨c1,c2⟩⟩
theorem Inv.repinE {o o':Obj}(I:Inv X ((kS,o)::aH) σ H s)(hs0:X.s₀.heap.objs.size≤kS)(hC:∀ x c,X.env.cells.lookup x=some c→c≠kS)(hP:∀ p∈X.pn++aH,p.1≠kS)(k:∀ b o,b≠kS→s.heap.get? b=some o→h'.get? b=some o)(ho':h'.get? kS=some o')(hd:∀ v,o'.data≠ .cell v):Inv X ((kS,o')::aH) σ H { s with heap:=h',toks:=t' }:=by
 obtain ⟨p1,p2,p3,p4,_⟩:=I.pin (kS,o) (ay _ (aZ ..));have I2:=I.unpin.turned (t':=t') (it:=kS) (h':=h') k p2 p3 (.inr hs0) hC hP;refine I2.pins_of fun p hp=>?_
 rcases aB.mp hp with rfl | hp
 ·exact ⟨ho',p2,p3,p4,hd⟩
 ·exact I2.pin p (ay _ hp)
theorem Inv.swap {p q:ai×Obj}(I:Inv X (p::q::aH) σ H s):Inv X (q::p::aH) σ H s:=I.pins_of fun z hz=>by
 refine I.pin z (ay _ ?_)
 rcases aB.mp hz with rfl | hz
 ·simp
 ·rcases aB.mp hz with rfl | hz
  ·simp
  ·simp [hz]
end
def jE (key:Nat→Int):Nat→Nat:=argBest fun i j=>decide (key i<key j)
theorem best_ok (key:Nat→Int):∀ n,jE key n≤n∧∀ j,j≤n→key (jE key n)≤key j
 | 0=>⟨aA 0,fun j hj=>by rw [Nat.le_zero.mp hj];exact fH _⟩
 | n+1=>by
  obtain ⟨h1,h2⟩:=best_ok key n;have e:jE key (n+1)=if decide (key (n+1)<key (jE key n))=true then n+1 else jE key n:=rfl;rw [e]
  by_cases c:key (n+1)<key (jE key n)
  ·rw [qR (qT c)]
   refine ⟨aA _,fun j hj=>?_⟩
   by_cases z:j=n+1
   ·rw [z];exact fH _
   ·have:=h2 j (by lia);lia
  ·rw [qQ (by rw [qU c];exact aO)]
   refine ⟨by lia,fun j hj=>?_⟩
   by_cases z:j=n+1
   ·rw [z];lia
   ·exact h2 j (by lia)
section
variable {σ:List (Option V)}
def KeyI (X:Cx)(σ:List (Option V))(H:Hp)(f:aa)(vs:List V)(key:Nat→Int):Prop :=
 ∀ (t:ao) (H':Hp) (pins':List (ai×Obj)) (i:Nat) (v:V) (u:aa),vs[i]? =some v→fY v u→Inv X pins' σ H' t→bJ H H'→aJ (aV X.prog X.w) X.A.in1 (jS f [u]) (fun k t'=>∃ H'' tk,Inv X pins' σ H'' t'∧bJ H' H''∧k= .int (key i) tk) (fun _ _=>False) t
structure Two (X:Cx)(aH:List (ai×Obj))(It S:ai):Prop where
 i0:X.s₀.heap.objs.size≤It
 s0:X.s₀.heap.objs.size≤S
 ic:∀ x c,X.env.cells.lookup x=some c→c≠It
 sc:∀ x c,X.env.cells.lookup x=some c→c≠S
 ip:∀ p∈X.pn++aH,p.1≠It
 sp:∀ p∈X.pn++aH,p.1≠S
 ne:It≠S
theorem Two.ipS {It S:ai}(T:Two X aH It S)(o:Obj):∀ p∈X.pn++((S,o)::aH),p.1≠It:=fun p hp=>by
 rcases aK.mp hp with hp | hp
 ·exact T.ip p (aG _ hp)
 ·rcases aB.mp hp with rfl | hp
  ·exact bX T.ne
  ·exact T.ip p (ay _ hp)
theorem Two.spI {It S:ai}(T:Two X aH It S)(o:Obj):∀ p∈X.pn++((It,o)::aH),p.1≠S:=fun p hp=>by
 rcases aK.mp hp with hp | hp
 ·exact T.sp p (aG _ hp)
 ·rcases aB.mp hp with rfl | hp
  ·exact T.ne
  ·exact T.sp p (ay _ hp)
theorem min_next {It S L:ai}{oS:Obj}{vs:List V}{Q:Option aa→ao→Prop}(hh:A.handled=none)(T:Two X aH It S)(I:Inv X ((It,oI)::(S,oS)::aH) σ H s)(hL:H L=some (.lst vs))(hI:oI.cls= .type "list_iterator" ∧oI.data= .fields #[.ref L,.int j 0])
  (hit:∀ v u oI' s',vs[j]? =some v→fY v u→Inv X ((It,oI')::(S,oS)::aH) σ H s'→oI'.cls= .type "list_iterator" ∧oI'.data= .fields #[.ref L,.int ((j+1:Nat):Int) 0]→Q (some u) s')
  (hend:∀ s',j=vs.length→Inv X ((S,oS)::aH) σ H s'→Q none s') (hj:j≤vs.length):aJ (aV X.prog X.w) A (pyNext (.ref It)) Q E s:=by
 obtain ⟨its,rv,⟨o,n,ho,hcl,_,hd⟩,_⟩:=I.list (SqL.of hL);have gI:=(I.pin (It,oI) (ay _ (aZ ..))).1;have hLI:L≠It:=fun z=>by have:=(I.pin (It,oI) (ay _ (aZ ..))).2.1;rw [←z,hL] at this;cases this
 have st:s.heap.IsListIter It L j∧s.heap.IsList L its.toArray:=⟨⟨oI,gI,hI.1,hI.2⟩,⟨o,ho,hcl,n,hd⟩⟩;have W:=Walks.list (prog:=X.prog) (w:=X.w) (A:=A) hh It L hLI its.toArray;have lz:its.length=vs.length:=rv.length.symm
 by_cases e:j=vs.length
 ·refine W.done s _ _ (by rw [aD,lz,←e];exact st) fun h' tk hk=>hend _ e ?_
  have:=I.unpin.turned (t':=tk) (it:=It) (h':=h') (fun b o hb e=>hk b o (by simp [hb]) e) (I.pin (It,oI) (ay _ (aZ ..))).2.1 (I.pin (It,oI) (ay _ (aZ ..))).2.2.1 (.inr T.i0) T.ic (T.ipS oS);exact this
 ·refine W.item j s _ _ (by rw [aD];lia) st fun u h' tk hu st' hk=>?_
  obtain ⟨oI',gI',c1,c2⟩:=st'.1;have hu:its[j]? =some u:=by simpa using hu
  have hv:vs[j]? =some (vs[j]'(by lia)):=gE _;refine hit vs[j] u oI' _ hv ?_ (I.repinE T.i0 T.ic (T.ipS oS) (fun b o hb e=>hk b o (by simp [hb]) e) gI' (fun v z=>by rw [c2] at z;cases z)) ⟨c1,c2⟩;obtain ⟨u',hu',ru⟩:=fN.get rv hv;rw [hu] at hu';cases hu';exact ru
end
theorem mY {id:String}{b:cZ}{args:List aa}(hk:builtinKind id=none)(hp:plainId id=true)
  (hb:entryFor table id=some b) (ha:argsOk id ⟨args,kw⟩)
  (hfin:aJ (aV prog w) A.in1 (b ⟨args,kw⟩) (fun fin s'=>match fin with
   | .done f=>(match (Except.ok f:Result) with | .ok (.ret v)=>Q v s' | .ok _=>False | .error e=>E e s')
   | .again c'=>c'.quiet=true∧iE (aV prog w) A c' (fun r s'=>match r with | .ok (.ret v)=>Q v s' | .ok _=>False | .error e=>E e s') s') E s):aJ (aV prog w) A (jS (.builtin id) args kw) Q E s:=by
 refine gF (kD hp hb ?_);simp only [checkBuiltinCall,hk];cases hsig:Manifest.signature? id with
 | none=>exact aC hfin
 | some sig =>
  have ha':Bind.checkArgs id sig ⟨args,kw⟩=fj ():=by simpa only [argsOk,hsig] using ha
  simp only [ha'];exact aC hfin
section
variable {σ:List (Option V)}
theorem Inv.pin1 {p:ai×Obj}(I:Inv X (p::aH) σ H s):s.heap.get? p.1=some p.2:=(I.pin p (ay _ (aZ ..))).1
theorem Inv.pin2 {p q:ai×Obj}(I:Inv X (p::q::aH) σ H s):s.heap.get? q.1=some q.2:=I.unpin.pin1
theorem min_put {It S:ai}{xs:Array aa}{c:Nat}(T:Two X aH It S)(I:Inv X ((It,oI)::(S,bI "list" xs c)::aH) σ H s)(ys:Array aa):∃ c',Inv X ((It,oI)::(S,bI "list" ys c')::aH) σ H { s with heap:=s.heap.update S (cx fun _=>ys) }:=by
 have hS:=I.pin2;obtain ⟨c',hc'⟩:∃ c',(s.heap.update S (cx fun _=>ys)).get? S=some (bI "list" ys c'):=⟨_,gj hS fun _=>ys⟩;exact ⟨c',(I.swap.repinE (t':=s.toks) T.s0 T.sc (T.spI oI) (fun b o hb e=>(cU _ _ (bX hb)).trans e) hc' (fun v z=>by cases z)).swap⟩
theorem min_loop {It S L g:ai}{vs:List V}(T:Two X aH It S)(hh:X.A.handled=none)(hkey:KeyI X σ H (.ref g) vs key)(hL:H L=some (.lst vs))
  (fin:∀ v u H' s',vs[jE key (vs.length - 1)]? =some v→fY v u→bJ H H'→Inv X aH σ H' s'→R (.ok (.ret u)) s') :
  ∀ (k j:Nat) (s:ao) (H':Hp) (v:V) (vb:aa) (tb:Tok) (c:Nat) (oI:Obj),vs.length - (j+1)=k→j+1≤vs.length→bJ H H'→Inv X ((It,oI)::(S,bI "list" #[vb,.int (key (jE key j)) tb] c)::aH) σ H' s →
   oI.cls= .type "list_iterator" ∧oI.data= .fields #[.ref L,.int ((j+1:Nat):Int) 0]→vs[jE key j]? =some v→fY v vb→iE (aV X.prog X.w) X.A (.builtin "min.loop" ⟨[.ref It,.ref g,.ref S],[]⟩) R s:=by
 have hname:(toString "min" ++ toString ".loop" :String) = "min.loop" := by decide
 intro k
 induction k with
 | zero =>
  intro j s H' v vb tb c oI hk hj S' I hI hv rv;have hin:j+1=vs.length:=by lia
  have hS:=I.pin2;refine kK F.entry_min_loop ?_;rw [bL.under_plainId gJ _];show aJ _ X.A.in1 (seqItems? (.ref S) >>= _) _ _ s;refine af (fq hS rfl ?_);show aJ _ X.A.in1 (tryCatch (pyNext (.ref It)) _ >>= _) _ _ s;refine af (jN (min_next (A:=X.A.in1) (j:=j+1) hh T I (S' _ _ hL) hI (fun v2 u2 _ _ z=>qS (av.mp z).1 (by lia)) (fun s' _ I'=>?_) (by lia)));have hS':=I'.pin1;show aJ _ X.A.in1 (updateSeq S (fun _=> #[]) >>= _) _ _ _;refine af ?_;refine wpAny_updateSeq hS' rfl (af (ku (aC ?_)));have I2:=(I'.repinE (t':=s'.toks) T.s0 T.sc T.sp (h':=s'.heap.update S (cx fun _=> #[])) (fun b o hb e=>(cU _ _ (bX hb)).trans e) (gj hS' fun _=> #[]) (fun v z=>by cases z)).unpin;exact fin v vb H' _ (by rw [←hin];exact hv) rv S' I2
 | succ k ih =>
  intro j s H' v vb tb c oI hk hj S' I hI hv rv;have hlt:j+1<vs.length:=by lia
  have hS:=I.pin2;refine kK F.entry_min_loop ?_;rw [bL.under_plainId gJ _];show aJ _ X.A.in1 (seqItems? (.ref S) >>= _) _ _ s;refine af (fq hS rfl ?_);show aJ _ X.A.in1 (tryCatch (pyNext (.ref It)) _ >>= _) _ _ s;refine af (jN (min_next (A:=X.A.in1) (j:=j+1) hh T I (S' _ _ hL) hI (fun v2 u2 oI2 s2 hv2 ru2 I2 hI2=>?_) (fun s' z _=>qS z (by lia)) (by lia)));show aJ _ X.A.in1 (tryCatch (holding [u2] (jS (.ref g) [u2])) _ >>= _) _ _ _;refine af (jN (cI (bP (hkey _ H' _ (j+1) v2 u2 hv2 ru2 I2 S') (fun kv s3 hk3=>?_) fun _ _ z=>z.elim)));obtain ⟨H3,tk,I3,S3,rfl⟩:=hk3;have hS3:=I3.pin2;show aJ _ X.A.in1 (tryCatch (holding [u2,.int (key (j+1)) tk] (richCompare .Lt (.int (key (j+1)) tk) (.int (key (jE key j)) tb) >>= _)) _ >>= _) _ _ _;refine af (jN (cI (af (CmpOf.ints_lt (P:=fun i v=>∃ t,v= .int (key i) t) key (fun _ _ z=>z) (j+1) (jE key j) _ _ _ _ _ ⟨tk,rfl⟩ ⟨tb,rfl⟩ ?_))));refine af (cI (wpAny_truthy_bool ?_));refine af (ku (aC ?_));have eb:jE key (j+1)=if decide (key (j+1)<key (jE key j))=true then j+1 else jE key j:=rfl;cases hb:decide (key (j+1)<key (jE key j)) with
  | true =>
   rw [hb,qR rfl] at eb;rw [qR hb];refine af ?_;refine wpAny_updateSeq hS3 rfl (af (ku ?_));rw [hname];obtain ⟨c',I4⟩:=min_put T I3 #[u2,.int (key (j+1)) tk];refine aC ⟨plainId_quiet gJ _,ih (j+1) _ H3 v2 u2 tk c' oI2 (by lia) hlt (S'.trans S3) (by rw [eb];exact I4) hI2 (by rw [eb];exact hv2) ru2⟩
  | false =>
   rw [hb,qQ aO] at eb;rw [qQ (fun z=>aO (hb.symm.trans z))];refine af (ku ?_);rw [hname];exact aC ⟨plainId_quiet gJ _,ih (j+1) _ H3 v vb tb c oI2 (by lia) hlt (S'.trans S3) (by rw [eb];exact I3) hI2 (by rw [eb];exact hv) rv⟩
theorem min_first {It S L g:ai}{vs:List V}(T:Two X aH It S)(hh:X.A.handled=none)(hkey:KeyI X σ H (.ref g) vs key)(hL:H L=some (.lst vs))(hne:vs≠[])
  (fin:∀ v u H' s',vs[jE key (vs.length - 1)]? =some v→fY v u→bJ H H'→Inv X aH σ H' s'→R (.ok (.ret u)) s')
  {c:Nat} (I:Inv X ((It,oI)::(S,bI "list" #[] c)::aH) σ H s) (hI:oI.cls= .type "list_iterator" ∧oI.data= .fields #[.ref L,.int ((0:Nat):Int) 0]):iE (aV X.prog X.w) X.A (.builtin "min.loop" ⟨[.ref It,.ref g,.ref S],[]⟩) R s:=by
 have hname:(toString "min" ++ toString ".loop" :String) = "min.loop" := by decide
 have hlt:0<vs.length:=List.length_pos_iff.mpr hne;have hS:=I.pin2;refine kK F.entry_min_loop ?_;rw [bL.under_plainId gJ _];show aJ _ X.A.in1 (seqItems? (.ref S) >>= _) _ _ s;refine af (fq hS rfl ?_);show aJ _ X.A.in1 (tryCatch (pyNext (.ref It)) _ >>= _) _ _ s;refine af (jN (min_next (A:=X.A.in1) (j:=0) hh T I hL hI (fun v2 u2 oI2 s2 hv2 ru2 I2 hI2=>?_) (fun s' z _=>qS z (by lia)) (by lia)));show aJ _ X.A.in1 (tryCatch (holding [u2] (jS (.ref g) [u2])) _ >>= _) _ _ _;refine af (jN (cI (bP (hkey _ H _ 0 v2 u2 hv2 ru2 I2 (bJ.refl H)) (fun kv s3 hk3=>?_) fun _ _ z=>z.elim)));obtain ⟨H3,tk,I3,S3,rfl⟩:=hk3;have hS3:=I3.pin2;show aJ _ X.A.in1 (updateSeq S (fun _=> #[u2,.int (key 0) tk]) >>= _) _ _ _;refine af ?_;refine wpAny_updateSeq hS3 rfl ?_;rw [hname];obtain ⟨c',I4⟩:=min_put T I3 #[u2,.int (key 0) tk];exact aC ⟨plainId_quiet gJ _,min_loop T hh hkey hL fin _ 0 _ H3 v2 u2 tk c' oI2 rfl hlt S3 I4 hI2 hv2 ru2⟩
theorem args_minK (a g:aa):argsOk "min" ⟨[a],[(cV "key",g)]⟩:=by unfold argsOk;kernel_rfl
theorem call_minK {L g:ai}{vs:List V}(I:Inv X aH σ H s)(hh:X.A.handled=none)(hkey:KeyI X σ H (.ref g) vs key)(hL:H L=some (.lst vs))(hne:vs≠[])
  (fin:∀ v u H' s',vs[jE key (vs.length - 1)]? =some v→fY v u→bJ H H'→Inv X aH σ H' s'→Q u s'):aJ (aV X.prog X.w) X.A (jS (.builtin "min") [.ref L] [(cV "key",.ref g)]) Q E s:=by
 have hname:(toString "min" ++ toString ".loop" :String) = "min.loop" := by decide
 refine mY F.kind_min F.plain_min F.entry_min (args_minK _ _) ?_;show aJ _ X.A.in1 (cZ.Builtins.bindParams "min" ["key","default"] 0 ⟨[],[(cV "key",.ref g)]⟩ >>= _) _ _ s;refine af (wpAny_of_eq (show cZ.Builtins.bindParams "min" ["key","default"] 0 ⟨[],[(cV "key",.ref g)]⟩=fj [some (.ref g),none] from rfl) ?_);refine af (aC ?_);obtain ⟨its,rv,⟨o,n,ho,hcl,_,hd⟩,_⟩:=I.list (SqL.of hL);refine af (wpAny_pyIter_list ⟨o,ho,hcl,n,hd⟩ ?_);refine af (dN ?_);rw [hname];obtain ⟨h1,eh1⟩:∃ h1,h1=s.heap.push { cls:= .type "list_iterator",data:= .fields #[.ref L,.int 0 0] }:=⟨_,rfl⟩;have z1:h1.objs.size=s.heap.objs.size+1:=by rw [eh1];exact fc ..
 rw [←eh1];obtain ⟨h2,eh2⟩:∃ h2,h2=h1.push { cls:= .type "list",data:= .seq #[] }:=⟨_,rfl⟩;have keep:∀ b o,s.heap.get? b=some o→h2.get? b=some o:=fun b o e=>by rw [eh2];refine ar _ ?_;rw [eh1];exact ar _ e
 have gI:h2.get? s.heap.objs.size=some { cls:= .type "list_iterator",data:= .fields #[.ref L,.int 0 0] }:=by rw [eh2];refine ar _ ?_;rw [eh1];exact aU _ rfl
 have gS:h2.get? h1.objs.size=some (bI "list" #[] 0):=by rw [eh2];exact aU _ rfl
 have I2:=I.kept (t':=s.toks) keep;have lS:s.heap.objs.size≤h1.objs.size:=by lia
 have I3:Inv X ((s.heap.objs.size,{ cls:= .type "list_iterator",data:= .fields #[.ref L,.int 0 0] })::(h1.objs.size,bI "list" #[] 0)::aH) σ H { s with heap:=h2 }:=I2.pins_of fun z hz=>by
  rcases aB.mp hz with rfl | hz
  ·exact ⟨gI,I.hok.fresh (aA _),cy I.lt,I.nofs (aA _),fun v z=>by cases z⟩
  ·rcases aB.mp hz with rfl | hz
   ·exact ⟨gS,I.hok.fresh lS,cy (aL I.lt lS),I.nofs lS,fun v z=>by cases z⟩
   ·exact I2.pin z (ay _ hz)
 have old:∀ b o,s.heap.get? b=some o→b≠s.heap.objs.size∧b≠h1.objs.size:=fun b o e=>⟨bE (aE e),bE (aL (aE e) lS)⟩
 have T:Two X aH s.heap.objs.size h1.objs.size:=⟨I.sz,aS I.sz lS,fun y d e=>by obtain ⟨v,o,ho,_⟩:=I.cell y d e;exact (old d o ho).1,fun y d e=>by obtain ⟨v,o,ho,_⟩:=I.cell y d e;exact (old d o ho).2,fun z hz=>(old _ _ (I.pin z hz).1).1,fun z hz=>(old _ _ (I.pin z hz).1).2,bE (by lia:s.heap.objs.size<h1.objs.size)⟩;refine aC ⟨plainId_quiet gJ _,?_⟩;rw [←eh2];exact min_first (R:=fun r s'=>match r with | .ok (.ret v)=>Q v s' | .ok _=>False | .error e=>E e s') T hh hkey hL hne (fun v u H' s' a1 a2 a3 a4=>fin v u H' s' a1 a2 a3 a4) I3 ⟨rfl,rfl⟩
end
def MinQ (P:ai)(lq:Str)(js:List Nat)(te:TE)(σ:St)(Q:VK)(v:V)(H1:Hp):Prop:=∃ (L:ai) (vs:List V) (key:Nat→Int),v= .ref L∧H1 L=some (.lst vs)∧vs≠[]∧LamG P lq H1 ∧
 (∀ i x,vs[i]? =some x→∀ H2,Tb P H1 H2→te (some x::cX σ js) H2 fun u H3=>bJ H2 H3∧u= .int (key i)) ∧
 ∀ H4 i x,Tb P H1 H4→LamG P lq H4→vs[i]? =some x→(∀ j,j<vs.length→key i≤key j)→Q x H4
def tMinL (P:ai)(lq:Str)(tr:TE)(js:List Nat)(te:TE):TE:=fun σ H Q=>tr σ H fun v H1=>MinQ P lq js te σ Q v H1
def MinQ1 (P:ai)(lq:Str)(js:List Nat)(te:TE)(σ:St)(Q:VK):List V→Hp→Prop
 | [v],H1=>MinQ P lq js te σ Q v H1
 | _,_=>False
theorem pe_minL {tr:TE}{p kp:Pos}{c P:ai}(hc:X.calm=true)(hrm:X.A.depth<jQ)(hg:Gl X "min")(hm:X.mg "min" =none)(hi:PE X re tr)
  (hd:defaultsOf params X.env=([],[])) (mU:X.env.code= .ref c) (C:codeHdIn X.K c P=true) (B:BM X.mg X.base)
  (hbind:∀ q cl pm cdv ct (u:aa),bindArgs (kla_fn "<lambda>" q params body scope cl pm cdv ct) ⟨[u],[]⟩=fj [(x,u)])
  (hk:scope.kind= .function) (hco:scope.isCoroutine=false) (hgen:scope.isGenerator=false) (iK:∀ y∈scope.names,y.2≠ .cell) (hx:scope.names.lookup x=some .local) (hfx:x ∉ fr)
  (hfr:∀ y∈scope.names,y.2= .free→X.env.scope.names.lookup y.1=some .cell) (hjs:js.map (fun j=>X.N[j]?)=fr.map some) (hfv:∀ y∈fr,scope.names.lookup y=some .free)
  (hb:∀ cl L f cd s' H',PE (cxLam X (X.env.qual ++ "<lambda>") scope cl L f cd (x::fr) s' H') body te)
  (he:fE pos (br [re] X.env)=(false,dH re X.env)::fE pos (br [] X.env):=by rfl)
  (hs:br [re] X.env=(false,dH re X.env)::br [] X.env:=by rfl) (hpl:(fE pos (br [re] X.env)).any (·.1)=false:=by rfl) :
  PE X (.Call (.Name "min" p) [re] [⟨some "key",.Lambda params body scope lp,kp⟩] pos) (tMinL P (X.env.qual ++ "<lambda>") tr js te):=by
 intro aH s σ H Q I h;refine cY (mH I hg hm (u:= .builtin "min") (by trivial) ?_);refine callWith_kw (kws:=[⟨some "key",.Lambda params body scope lp,kp⟩]) (thn ((ak hi aI hs) pos aH s σ H (MinQ1 P (X.env.qual ++ "<lambda>") js te σ Q) I h) fun us s1 ⟨vs,H1,I1,r1,q0⟩=>?_) he hpl;refine kws_cons ?_;obtain ⟨v,rfl⟩:∃ v,vs=[v]:=by
  cases vs with
  | nil=>exact q0.elim
  | cons v r=>cases r with
   | nil=>exact ⟨v,rfl⟩
   | cons _ _=>exact q0.elim
 have q1:MinQ P (X.env.qual ++ "<lambda>") js te σ Q v H1:=q0;obtain ⟨L,vs,key,rfl,hL,hne,T,hkey,hQ⟩:=q1;obtain rfl:us=[.ref L]:=by
  cases r1 with
  | cons ru rs =>
   cases rs;exact qW (fun z=>[z]) ru
 refine lam_makeG (body:=body) I1 hd mU C B hfr T fun f cl H2 s2 I2 tb T2 F2 c1 c2=>?_
 refine kws_nil ?_;show aJ _ _ (jS (.builtin "min") [.ref L] [(cV "key",.ref f)]) _ _ _;have LP:L≠P:=fun z=>by
  obtain ⟨ps,e⟩:=T.tbl;rw [←z,hL] at e;cases e
 have KI:KeyI X σ H2 (.ref f) vs key:=fun t H' pins' i v u hv ru I' S'=>by
  refine wpAny_of_in1 (bP (lam_call (v:=v) I' hc hrm (F2.same S') ru (fun pm cdv ct=>hbind _ _ _ _ _ _) hk hco hgen iK hx hfx c1 c2 hfr hjs hfv (fun L cd s' H'=>hb cl L f cd s' H') (hkey i v hv H' (tb.trans S'.tb))) (fun k t' ⟨v',H'',I'',rv,S'',ev⟩=>?_) fun _ _ z=>z);subst ev;obtain ⟨tk,rfl⟩:∃ tk,k= .int (key i) tk:=rv;exact ⟨H'',tk,I'',S'',rfl⟩
 refine call_minK I2 (I2.ok.hd hc) KI (tb _ _ LP hL) hne fun v u H' s' hv ru S' I'=>?_
 obtain ⟨b1,b2⟩:=best_ok key (vs.length - 1);exact ⟨v,H',I',ru,hQ H' _ v (tb.trans S'.tb) (T2.same S') hv fun j hj=>b2 j (by lia)⟩
end L2
namespace HN
open PySem L2 PyProof.Rows
def posR (r:Int×List Stp):Bool:=decide (r.1 > 0)
def kg (b:Int)(sp:List Sn)(bs:List (Int×Int))(rg:List (Nat×List Stp)):List (Int×List Stp):=k4 sp (rg.filter fun q=>sureB b bs q.2)
def oB (b:Int)(sp:List Sn)(bs:List (Int×Int))(rg:List (Nat×List Stp)):List (Int×List Stp):=(kg b sp bs rg).filter posR
theorem rowsW_pos {b:Int}{bs:List (Int×Int)}:∀ (rows:List (Int×List Stp)),(∀ r∈rows,0≤r.1)→oE b bs (rows.filter posR)=oE b bs rows
 | [],_=>rfl
 | r::rows,h=>by
  have ih:=rowsW_pos (b:=b) (bs:=bs) rows fun t ht=>h t (aw _ ht)
  have e:oE b bs (r::rows)=r.1 * upB b (fe bs r.2) * b+oE b bs rows:=rfl;rw [dZ,e]
  by_cases c:r.1 > 0
  ·rw [qR (show posR r=true from qT c)]
   show r.1 * upB b (fe bs r.2) * b+oE b bs (rows.filter posR)=_;rw [ih]
  ·rw [qQ (show ¬ (posR r=true) by unfold posR;rw [qU c];exact aO),ih]
   have:=h r (by simp);rw [show r.1=0 by lia,eG,eG,gO]
theorem own_pos {k:Nat}:∀ (rows:List (Int×List Stp)) (a:Int),(∀ r∈rows,0≤r.1)→(rows.filter posR).foldl (ownS k) a=rows.foldl (ownS k) a
 | [],_,_=>rfl
 | r::rows,a,h=>by
  have ih:=fun a=>own_pos (k:=k) rows a fun t ht=>h t (aw _ ht)
  rw [dZ,bG]
  by_cases c:r.1 > 0
  ·rw [qR (show posR r=true from qT c),bG];exact ih _
  ·rw [qQ (show ¬ (posR r=true) by unfold posR;rw [qU c];exact aO),ih]
   have:=h r (by simp);have e:ownS k a r=a:=by
    show ownV k a r.1 r.2=a;unfold ownV;split <;> split <;> lia
   rw [e]
theorem worth_pos {bs:List (Int×Int)}(rows:List (Int×List Stp))(h:∀ r∈rows,0≤r.1):lO b sp bs (rows.filter posR)=lO b sp bs rows:=by
 unfold lO;rw [rowsW_pos rows h];congr 2;refine ft fun k _=>?_
 have e:owK sp (rows.filter posR) k=owK sp rows k:=own_pos rows _ h;unfold termW;rw [e]
def RBest (b:Int)(sp:List Sn)(w:Int)(bs:List (Int×Int))(d:Dt):Prop:=RDead b sp bs d∨∃ rows:List (Int×List Stp),d=leafP (.price rows)∧(∀ r∈rows,RowOk b sp bs r)∧rows.length≤40∧w≤lO b sp bs rows
section
variable {m:Int}{rg:List (Nat×List Stp)}{bs:List (Int×Int)}
theorem rg_few (N:kd b m sp)(f:FF m sp l rg):rg.length≤40:=by
 have hn:((rg.map (·.1)).map fun n:Nat=>(n:Int)).Nodup:=by
  rw [bV,fU];exact (bV.mp f.one).imp fun hh e=>hh (by lia)
 have:=lP (l:=(rg.map (·.1)).map fun n:Nat=>(n:Int)) (k:=(aQ sp.length).map fun n:Nat=>(n:Int)) hn fun z hz=>by
  obtain ⟨i,hi,rfl⟩:=aW.mp hz;obtain ⟨q,hq,rfl⟩:=aW.mp hi;exact aW.mpr ⟨_,bY.mpr (f.rk q hq).lt,rfl⟩
 rw [ae,ae,ae,bo] at this;have:=N.few;lia
theorem sureR_w (N:kd b m sp)(f:FF m sp l rg):∀ r∈kg b sp bs rg,0≤r.1:=fun r hr=>by
 obtain ⟨q,hq,rfl⟩:=aW.mp hr;exact (N.all _ (dQ (f.rk q (cb.mp hq).1).lt)).w0
theorem price_ok (N:kd b m sp)(f:FF m sp l rg):(∀ r∈oB b sp bs rg,RowOk b sp bs r)∧(oB b sp bs rg).length≤40:=by
 have m2:=N.m2;have fw:=f.few;refine ⟨fun r hr=>?_,?_⟩
 ·obtain ⟨q,hq,rfl⟩:=aW.mp (cb.mp hr).1
  obtain ⟨h1,h2⟩:=cb.mp hq;have K:=f.rk q h1;have sn:=N.all _ (dQ K.lt);exact ⟨K.rg N (by lia),h2,by have:=sn.w0;show -1000000000000≤(sAt sp q.1).w;lia,sn.w1⟩
 ·refine aS (eQ _ _) ?_
  unfold kg k4;rw [ae];exact aS (eQ _ _) (rg_few N f)
theorem price_tight (N:kd b m sp)(f:FF m sp l rg)(O:OB sp l bs)(x:Fx b l rg bs):∃ ts,ki b ts sp=true∧eJ b ts sp=lO b sp bs (oB b sp bs rg):=by
 obtain ⟨ts,_,_,h1,h2⟩:=tight N f O x;have fs:=fx_sure N f O x;have e:rg.filter (fun q=>sureB b bs q.2)=rg:=List.filter_eq_self.mpr fun q hq=>(fs.2 _ (aW.mpr ⟨q,hq,rfl⟩)).2.1
 refine ⟨ts,h1,h2.trans ?_⟩;unfold oB;rw [worth_pos _ (sureR_w N f)];unfold kg;rw [e]
theorem tight_in (N:kd b m sp)(f:FF m sp l rg)(O:OB sp l bs)(x:Fx b l rg bs):∃ ts,ki b ts sp=true∧InB (iI b ts sp) bs:=by
 obtain ⟨π,hπ⟩:=f.acy.pot fun k=>(bs.getD k (0,0)).1
 have m1:=N.m1;have key:=key_pot N f O x (ts:=potT b π m.toNat) (π:=π) hπ fun k hk=>by
  have s:=N.all _ (dQ hk);exact wait_pot s.s0 (by have:=s.s1;lia) s.g0 (by have:=s.g1;lia)
 refine ⟨potT b π m.toNat,fits_lay (m:=m) fun k hk=>?_,fun k hk=>key k (by rw [←O.len];exact hk)⟩;have:=key k hk;have:=(O.lo k hk).2.2;lia
theorem fx_other (N:kd b m sp)(f:FF m sp l rg)(f':FF m sp l rg')(O:OB sp l bs)(x:Fx b l rg' bs):Fx b l rg bs:=by
 obtain ⟨ts,_,hin⟩:=tight_in N f' O x;have m2:=N.m2;have fw:=f.few;exact ⟨x.fix,fun q hq=>dead_none (by have:=N.b1;lia) O.len hin ((f.rk q hq).rg N (by lia))⟩
theorem leafW_price (rows:List (Int×List Stp)):LeafW (leafP (.price rows)):=by
 refine ⟨?_,"price",.tup (rows.map rowD),rfl,by decide⟩;show (true && (pl (.tup (rows.map rowD)) && true))=true;rw [show pl (.tup (rows.map rowD))=true from lx rows fun r _=>by show (true && (pl (oy r.2) && true))=true;rw [show pl (oy r.2)=true from mQ _ _];rfl];rfl
end
abbrev sFirst:cF:=top 14
theorem scFirst:cp pza pza (defScope sFirst):=by trivial
theorem ok_first (F:Fun K "first_bounds" "first_bounds" sFirst f fd)(T:Nm mg):cR P w K mg base CX0 1 f fd pza spFirst:=by
 refine F.ok scFirst (by contradiction) (fun cdv A outer s H vs Q E hr h=>?_);obtain ⟨v,b,m,sp,rfl,hv,few,k⟩:=h;obtain ⟨t,p,ys,rfl,ht,hp,hl,hy⟩:=gp hv;refine ⟨_,PSl.h (dF ⟨(cO (i3 kL rfl T.ttup boot_tuple (ak (j9 (fr:=[]) (js:=[]) rfl (mB (ixZ (pv 0))) (by trivial) rfl (by trivial) rfl (by exists sFirst) (by trivial) rfl (by trivial) (fun _ _ _ _ _=>⟨(dU (ak (fB (r:=rIxT K) fm (pv 0) bR (fun _ _=>rfl)) (ak (fB (r:=rIxT K) fm (pv 0) bR (fun _ _=>rfl)) aI))),j8⟩)) aI)))⟩),?_⟩;refine ⟨_,rfl,t,_,_,_,rfl,rfl,SqT.of ht,aR (j:=2) rfl,p,rfl,⟨_,SqT.of hp⟩,?_⟩;refine oV (K:=K) (a:=p) (xs:=ys) (fun i zs H2=>bJ H H2∧dM H2 zs (((sp.take i).map fun x=>(x.l,x.o)).map fun x=> .tup ((bndR x).map Dt.int))) ⟨bJ.refl H,.nil⟩ (fun i zs H2 hi ⟨e1,e2⟩=>?_) (by rw [hl];exact fA few) (fun i x zs H2 hx ⟨e1,e2⟩=>?_) (fun zs H2 ⟨e1,e2⟩ D hD=>?_)
 ·refine ⟨SqT.of (e1 _ _ hp),?_⟩
  rw [e2.length,ae,ae,bH];lia
 ·have hi:i<sp.length:=by rw [←hl];exact (av.mp hx).1
  obtain ⟨q,hq,hq2⟩:=hy i sp[i] (gE hi);rw [hx] at hq;cases hq;have hq3:=e1 _ _ hq2;refine jo ?_;refine ⟨_,rfl,q,_,_,_,rfl,rfl,SqT.of hq3,aR (j:=2) rfl,_,rfl,q,_,_,_,rfl,rfl,SqT.of hq3,aR (j:=3) rfl,nS,fun q4 H4 S4 h4=>⟨e1.trans S4,?_⟩⟩;rw [bj,gE hi,aF,aF];exact (e2.same S4).append (.cons (.tup h4 (dM.ints [sp[i].l,sp[i].o])) .nil)
 ·refine ⟨D,_,rfl,SqL.of aX,fun p3 H3 S3 h3=>?_⟩
  have S23:=(bJ.put (o:= .lst zs) (bJ.refl H2) hD).trans S3;refine k (.ref p3) H3 (e1.trans S23) (.tup h3 ?_);rw [hl,bh] at e2;exact e2.same S23
abbrev cCuts:cF:=top 40
abbrev qy:cF:=clsOf cCuts 0
abbrev sSpanC:cF:=clsOf cCuts 1
abbrev sSidesC:cF:=clsOf cCuts 2
def lamPosC:List cF→Pos
 | [_,_,_,_,.Assign _ (.Call _ _ [⟨_,.Lambda _ _ _ lp,_⟩] _) _]=>lp
 | _=>⟨0,0,0,0⟩
abbrev lpC:Pos:=lamPosC (eX qy)
abbrev lqC:Str:=(("Cuts.__init__" :Str) ++ ".<locals>.") ++ "<lambda>"
theorem lenNC (K:aq)(hK:X.K=K:=by rfl):lJ X (.builtin "len") (fun xs H Q=>∃ p ys,xs=[.ref p]∧(SqL K H p ys∨SqT K H p ys)∧Q (.int ys.length) H):=by subst hK;exact cz
structure CutC (K:aq)(C:ai):Prop where
 cl:Cls K C
 n1:kt K C "first_case"
 n2:kt K C "touched"
 n3:kt K C "order"
theorem scInitC:cp ["self","net","rings","touched"] ["self","net"] (defScope qy):=by trivial
theorem ok_initC {f4 c:ai}{fd4:bf}(F:Fun K "__init__" "Cuts.__init__" qy f fd)(hcd:fd.code= .ref c)(CH:dW K c T1=true)(B:BM mg base)(ne:T0≠T1)(T:Nm mg)(T2:Nt mg)(ms:mg "sorted" =none)(CC:CutC K C)
  (G1:Fn K mg "rings_of" pG pza f1 fd1) (F1:cR P w K mg base CX0 8 f1 fd1 pza (oM T0 p0 q0))
  (G2:Fn K mg "rings_over" sOverR pzp f2 fd2) (G3:Fn K mg "first_bounds" sFirst pza f3 fd3)
  (G4:Fn K mg "forest_of" lT pza f4 fd4) (F4:cR P w K mg base CX0 6 f4 fd4 pza (kX T0 p0 q0)):cR P w K mg base CX0 9 f fd ["self","net"] (spInitC T0 p0 q0 T1 lpC lqC C):=by
 have F2:cR P w K mg base CX0 1 f2 fd2 pzp spOverR:=ok_overR G2.F;have F3:cR P w K mg base CX0 1 f3 fd3 pza spFirst:=ok_first G3.F T;refine okC F hcd scInitC (by contradiction) (fun A outer s H vs Q E hr h=>?_);obtain ⟨x,dx,v,b,m,sp,rfl,hx,hv,N,hT0,hT1,k⟩:=h;have hr1:iA 1 _:=hr.mono (by decide);have hr6:iA 6 _:=hr.mono (by decide);have E:=N.ends;have few:=N.few;have m1:=N.m1;have m2:=N.m2;refine ⟨_,PSl.h (bg ⟨(psZ 2 scInitC.nd (pc1 G1 F1 hr (ak (pv 1) aI)))⟩
  (bg ⟨(psZ 3 scInitC.nd (j9 (fr:=["rings"]) (js:=[2]) rfl (iZ rfl T2.range (ak (dO cz rfl T.len cj (ak (ixZ (pv 1)) aI)) aI)) (by trivial) rfl (by trivial) rfl (by exists qy) (by trivial) rfl (by trivial) (fun _ _ _ _ _=>⟨(pc1 G2 F2 hr1 (ak (pv 1) (ak (pv 0) aI))),j8⟩)))⟩
  (bg ⟨(ps_fld (pv 0) (dU (ak (pc1 G3 F3 hr1 (ak (pv 1) aI)) (ak (pv 2) aI))) rfl)⟩
  (bg ⟨(ps_fld (pv 0) (pv 3) rfl)⟩
  (dF ⟨(ps_fld (pv 0) (pe_sortT (js:=[3]) (fr:=["touched"]) (x := "span") (c:=c) (P:=T1) rfl hr.depth rfl ms (pc1 G4 F4 hr6 (ak (pv 1) aI)) rfl rfl CH B (fun _ _ _ _ _ _=>rfl) rfl rfl rfl (by trivial) rfl (by decide) (by exists qy) rfl (by trivial)
   (fun cl L f' cd s' H'=>pe_tup (ak (pe_un un_neg (dO (lenNC K) rfl T.len cj (ak (fB (r:=rIxL K) i5 (pv 1) (pv 0) (fun _ _=>rfl)) aI))) (ak (pv 0) aI)))) rfl)⟩))))),?_⟩
 refine ⟨_,rfl,v,b,m,sp,rfl,hv,N,hT0,fun L rl l rg H1 tb1 hT01 fL hL dL R=>?_⟩;have fr:=R.fr;have xT0:x≠T0:=by obtain ⟨ps,h⟩:=LamT.tbl hT0;exact d7 hx h nofun
 have xT1:x≠T1:=by obtain ⟨ps,h⟩:=LamT.tbl hT1;exact d7 hx h nofun
 have K1:Kp H H1:=Tb.kp hT0 tb1;have hT11:=LamT.ntb hT1 hT0 (bX ne) tb1;have hx1:=tb1 x _ xT0 hx;have hv1:=cw K1.tup hv;have tl:l.length≤15:=by have:=fr.few E (by lia);lia
 have lrg:rg.length≤40:=by
  have:rg.length=(pJ sp l).length:=by rw [←R.ks,ae]
  have h2:(pJ sp l).length≤sp.length:=by unfold pJ;exact aS (eQ _ _) (by rw [bo];exact aA _)
  lia
 have lng:∀ q∈rg,q.2.length≤1000:=fun q hq=>by
  have:=((R.rk q hq).rg N tl).few;lia
 have st1:∀ a o,a≠T0→a≠T1→a≠x→H a=some o→H1 a=some o:=fun a o n0 _ _ e=>tb1 a o n0 e
 obtain ⟨t,p,ys,ev,ht,hp,hl,hy⟩:=gp hv1;subst ev;clear hy hv fL tb1;refine ⟨_,rfl,t,_,_,_,rfl,rfl,SqT.of ht,aR (j:=2) rfl,p,_,rfl,.inr (SqT.of hp),_,rfl,by lia,by lia,?_⟩;refine mx (n:=((ys.length:Int)).toNat) (fun i zs HC=>bJ H1 HC∧zs.length=i∧∀ j,j<i→∃ u ql,zs[j]? =some (.ref u)∧HC u=some (.lst ql)∧dM HC ql ((rg.filter (iw j)).map wayQ)) ⟨bJ.refl H1,rfl,fun j hj=>qS hj (Nat.not_lt_zero _)⟩ (fun i zs HC hi ⟨_,e2,_⟩=>Nat.le_of_eq e2) (fA (by lia)) (fun i zs HC hi ⟨S,lz,dz⟩=>?_) (fun zs HC ⟨S,lz,dz⟩ D hD=>?_)
 ·rw [gO]
  refine jo ⟨_,rfl,_,rfl,L,i,rl,rg,rfl,S _ _ hL,dL.same S,lrg,lng,fun L' rl' H2 S2 f2 h2 d2=>⟨S.trans S2,by rw [au,lz];rfl,fun j hj=>?_⟩⟩
  rcases i8.mp hj with z | z
  ·obtain ⟨u,ql,a1,a2,a3⟩:=dz j z
   exact ⟨u,ql,by rw [eP (by lia)];exact a1,S2 _ _ a2,a3.same S2⟩
  ·subst z
   exact ⟨L',rl',by rw [bO (by lia),lz,Nat.sub_self];rfl,h2,d2⟩
 have S1:bJ H1 (upd HC D (.lst zs)):=S.trans (bJ.put (bJ.refl HC) hD);have tch:TchD (upd HC D (.lst zs)) D sp.length rg:=by
  refine ⟨zs,aX,by rw [lz];lia,fun j hj=>?_⟩;obtain ⟨u,ql,a1,a2,a3⟩:=dz j (by lia);have S2:bJ HC (upd HC D (.lst zs)):=bJ.put (bJ.refl HC) hD;exact ⟨u,ql,a1,S2 _ _ a2,a3.same S2⟩
 generalize upd HC D (.lst zs)=H2 at S1 tch ⊢;clear dz hD;refine ⟨_,rfl,.ref t,b,m,sp,rfl,hv1.same S1,by lia,fun ub H3 S3 hub=>⟨_,rfl,nS,fun q4 H4 S4 h4=>⟨_,rfl,x,C,dx,_,rfl,S4 _ _ (S3 _ _ (S1 _ _ hx1)),CC.cl,CC.n1,by decide,?_⟩⟩⟩;have S14:bJ H1 H4:=S1.trans (S3.trans S4);have cs4:CsD H4 q4 (sp.map fun z=>(z.l,z.o)) rg:=⟨ub,L,rl,h4,hub.same S4,S14 _ _ hL,dL.same S14⟩;have tch4:=tch.kp (bJ.kp (S3.trans S4));have hx4:=S14 _ _ hx1;have K4:Kp H4 (upd H4 x (.ins C dx (mz "first_case" (.ref q4) []))):=Kp.upd hx4;have st5:∀ a o,a≠T0→a≠T1→a≠x→H a=some o→(upd H4 x (.ins C dx (mz "first_case" (.ref q4) []))) a=some o:=fun a o n0 n1 n2 e=>by rw [bc n2];exact S14 _ _ (st1 a o n0 n1 n2 e)
 have kp5:Kp H (upd H4 x (.ins C dx (mz "first_case" (.ref q4) []))):=K1.trans ((bJ.kp S14).trans K4);have hx5:(upd H4 x (.ins C dx (mz "first_case" (.ref q4) []))) x=some (.ins C dx [("first_case",.ref q4)]):=aX;have hT05:=mr (o:= .ins C dx (mz "first_case" (.ref q4) [])) (LamT.same S14 hT01) hx4;have hT15:=mr (o:= .ins C dx (mz "first_case" (.ref q4) [])) (LamT.same S14 hT11) hx4;have hv5:=cw K4.tup (hv1.same S14);have cs5:=cs4.kp K4;have tch5:=tch4.kp K4;generalize upd H4 x (.ins C dx (mz "first_case" (.ref q4) []))=H5 at st5 kp5 hx5 hT05 hT15 hv5 cs5 tch5 ⊢;clear K4 hx4 tch4 cs4 S14 h4 S4 hub S3 tch S1 ht hp st1 hv1 hT11 hT01 hx1 K1 dL hL;refine ⟨_,rfl,_,rfl,x,C,dx,_,rfl,hx5,CC.cl,CC.n2,(by show 1<1000;decide),?_⟩;have K5:Kp H5 (upd H5 x (.ins C dx (mz "touched" (.ref D) [("first_case",.ref q4)]))):=Kp.upd hx5;have st6:∀ a o,a≠T0→a≠T1→a≠x→H a=some o→(upd H5 x (.ins C dx (mz "touched" (.ref D) [("first_case",.ref q4)]))) a=some o:=fun a o n0 n1 n2 e=>by rw [bc n2];exact st5 a o n0 n1 n2 e
 have kp6:=kp5.trans K5;have hx6:(upd H5 x (.ins C dx (mz "touched" (.ref D) [("first_case",.ref q4)]))) x=some (.ins C dx [("first_case",.ref q4),("touched",.ref D)]):=aX;have hT06:=mr (o:= .ins C dx (mz "touched" (.ref D) [("first_case",.ref q4)])) hT05 hx5;have hT16:=mr (o:= .ins C dx (mz "touched" (.ref D) [("first_case",.ref q4)])) hT15 hx5;have hv6:=cw K5.tup hv5;have cs6:=cs5.kp K5;have tch6:=tch5.kp K5;generalize upd H5 x (.ins C dx (mz "touched" (.ref D) [("first_case",.ref q4)]))=H6 at st6 kp6 hx6 hT06 hT16 hv6 cs6 tch6 ⊢;clear K5 st5 kp5 hx5 hT05 hT15 hv5 cs5 tch5;refine ⟨_,rfl,.ref t,b,m,sp,rfl,hv6,N,hT06,fun u H7 ns tb7 hT07 hu F0=>?_⟩;obtain ⟨l',π0,rfl,O0,pm0⟩:=F0.natsF;have el:l'=l:=iM.one (m:=m.toNat) (sp:=sp) ⟨F0,π0,O0,pm0⟩ fr;subst el;have K6:Kp H6 H7:=Tb.kp hT06 tb7;have hT17:=LamT.ntb hT16 hT06 (bX ne) tb7;have hx7:=tb7 x _ xT0 hx6;have st7:∀ a o,a≠T0→a≠T1→a≠x→H a=some o→H7 a=some o:=fun a o n0 n1 n2 e=>tb7 a o n0 (st6 a o n0 n1 n2 e)
 have kp7:=kp6.trans K6;have cs7:=cs6.kp K6;have tch7:=tch6.kp K6;clear K6 st6 kp6 hx6 hT06 hT16 hv6 cs6 tch6 tb7;have hlt:=(fr.pots E).nodup.2;have hnd:=(fr.pots E).nodup.1;have lns:(l'.map fun (i:Nat)=>(i:Int)).length=l'.length:=ae ..;have gns:∀ i,i<l'.length→(l'.map fun (i:Nat)=>(i:Int)).getD i 0=((l'.getD i 0:Nat):Int):=fun i hi=>by
  rw [ah,az,ah,gE hi];rfl
 refine ⟨u,l'.map fun (i:Nat)=>(i:Int),fun i=>(-(((rg.filter (iw (l'.getD i 0))).length:Nat):Int),((l'.getD i 0:Nat):Int)),rfl,hu,by rw [lns];lia,hT17,?_,fun i hi H8 tb8=>?_,fun D2 H8 π tb8 hT18 f8 pm8 _=>?_⟩
 ·refine List.Pairwise.of_map (S:=fun a c:Int=>a≠c) Prod.snd (fun a c h e=>h (by rw [e])) ?_
  rw [dG,lns];have e:(aQ l'.length).map (Prod.snd ∘ fun i=>(-(((rg.filter (iw (l'.getD i 0))).length:Nat):Int),((l'.getD i 0:Nat):Int)))=l'.map fun (i:Nat)=>(i:Int):=by
   refine List.ext_getElem (by rw [ae,ae,bo]) fun i h1 h2=>?_
   rw [ae,bo] at h1;rw [jM,kF,jM];show ((l'.getD i 0:Nat):Int)=_;rw [ah,gE h1];rfl
  rw [e,fU];exact (bV.mp hnd).imp fun hh e=>hh (by lia)
 ·rw [lns] at hi
  rw [gns i hi];obtain ⟨tv,a1,a2,a3⟩:=tch7.ex;have hk:l'.getD i 0<sp.length:=by
   rw [ah,gE hi];exact hlt _ (bK hi)
  obtain ⟨uu,ql,b1,b2,b3⟩:=a3 _ hk;have K8:Kp H7 H8:=Tb.kp hT17 tb8;have lq:ql.length=(rg.filter (iw (l'.getD i 0))).length:=by rw [b3.length,ae]
  refine ⟨_,rfl,_,rfl,D,_,_,_,rfl,rfl,SqL.of (K8.lst _ _ a1),aR b1,uu,_,rfl,.inl (SqL.of (K8.lst _ _ b2)),_,rfl,_,rfl,nS,fun a9 h9=>⟨bJ.put (bJ.refl H8) h9,a9,rfl,?_⟩⟩;rw [aX,lq]
 ·have K8:Kp H7 H8:=Tb.kp hT17 tb8
  have S9:bJ H8 (upd H8 D2 (.lst (π.map fun (i:Nat)=>V.int ((l'.map fun (i:Nat)=>(i:Int)).getD i 0)))):=bJ.put (bJ.refl H8) f8;have h9:(upd H8 D2 (.lst (π.map fun (i:Nat)=>V.int ((l'.map fun (i:Nat)=>(i:Int)).getD i 0)))) D2=some (.lst ((π.map fun i=>l'.getD i 0).map fun (i:Nat)=>V.int i)):=by
   rw [aX,dG];congr 2;refine ft fun i hi=>?_
   have:=bY.mp (pm8.mem_iff.mp hi);rw [lns] at this;rw [gns i this];rfl
  generalize upd H8 D2 (.lst (π.map fun (i:Nat)=>V.int ((l'.map fun (i:Nat)=>(i:Int)).getD i 0)))=H9 at S9 h9 ⊢;have hx9:=S9 _ _ (tb8 x _ xT1 hx7);refine ⟨_,rfl,x,C,dx,_,rfl,hx9,CC.cl,CC.n3,(by show 2<1000;decide),?_⟩;have K9:Kp H7 H9:=K8.trans (bJ.kp S9);have hT08:=LamT.same S9 (LamT.ntb hT07 hT17 ne tb8);have hT19:=LamT.same S9 hT18;have KX:Kp H9 (upd H9 x (.ins C dx (mz "order" (.ref D2) [("first_case",.ref q4),("touched",.ref D)]))):=Kp.upd hx9;refine k l' rg _ (fun a o n0 n1 n2 e=>?_) (kp7.trans (K9.trans KX)) (mr hT08 hx9) (mr hT19 hx9) R ⟨dx,q4,D,D2,_,aX,(cs7.kp K9).kp KX,(tch7.kp K9).kp KX,KX.lst _ _ h9,ord_perm (by rw [lns] at pm8;exact pm8)⟩;rw [bc n2];exact S9 _ _ (tb8 a o n1 (st7 a o n0 n1 n2 e))
theorem scSpanC:cp ["self","case","span","bound"] ["self","case"] (defScope sSpanC):=by trivial
theorem ok_spanC (F:Fun K "span_to_cut" "Cuts.span_to_cut" sSpanC f fd)(CC:CutC K C):cR P w K mg base CX0 1 f fd ["self","case"] (spSpanC C):=by
 refine F.ok scSpanC (by contradiction) (fun cdv A outer s H vs Q E hr h=>?_);obtain ⟨x,c,sp,l,rg,rs,bs,rfl,hx,hc,hl,few,k1,k2⟩:=h;obtain ⟨dx,c0,tl,ol,ord,h1,h2,h3,h4,h5⟩:=hx.ex;obtain ⟨vb,u,rl,c1,c2,c3,c4⟩:=hc.ex;obtain ⟨pb,yb,rfl,hpb,hlb,rb⟩:=iV c2;refine ⟨_,PSl.h (bg ⟨(iW bM rfl (jn (pe_fld (pv 0) rfl)) (pgZ 2 scSpanC.nd) (PSl.h (bg ⟨(psZ 3 scSpanC.nd (fB fm (ixZ (pv 1)) (pv 2) (fun _ _=>rfl)))⟩
  (dF ⟨(kh (dB op_lt (ixZ (pv 3)) (ixZ (pv 3)) (fg _)) (dE (cO (pv 2))) gH)⟩))))⟩
  (dF ⟨(cO mF)⟩)),?_⟩
 refine ⟨_,rfl,x,C,dx,_,_,rfl,h1,CC.cl,CC.n3,rfl,ol,rfl,⟨_,SqL.of h4⟩,?_⟩;refine lF (K:=K) (a:=ol) (xs:=ord.map fun (i:Nat)=>V.int i) (fun i σ H1=>H1=H∧(∀ j∈ord.take i,¬ ((bs.getD j (0,0)).1<(bs.getD j (0,0)).2))∧∃ v2 v3,σ=[some (.ref x),some (.ref c),v2,v3]) ⟨rfl,fun _ h=>qS h (by simp),none,none,rfl⟩ (fun i σ H1 _ ⟨e,_⟩=>by rw [e];exact SqL.of h4) ?_ ?_
 ·rintro i y σ H1 hy ⟨rfl,hal,v2,v3,rfl⟩
  obtain ⟨j,hj,rfl⟩:=mapI_at hy;have hm:j∈ord:=aY hj;have hjl:=h5.mem_iff.mp hm;have hjb:=hl j hjl;obtain ⟨q,hq,hq2⟩:=kz rb (gE hjb);have e0:bs.getD j (0,0)=bs[j]:=by rw [ah,gE hjb];rfl
  refine ⟨_,rfl,c,_,_,_,rfl,rfl,SqT.of c1,aR (j:=0) rfl,_,rfl,pb,_,_,_,rfl,rfl,SqT.of hpb,aR (j:=j) hq,?_⟩;refine ⟨_,rfl,q,_,_,_,rfl,rfl,SqT.of hq2,aR (j:=0) rfl,_,rfl,q,_,_,_,rfl,rfl,SqT.of hq2,aR (j:=1) rfl,_,_,rfl,rfl,_,rfl,?_⟩;show if decide (bs[j].1<bs[j].2)=true then _ else _;refine ite2 (fun hc=>?_) (fun hc=>?_)
  ·exact ⟨_,rfl,k2 j hjl (by rw [e0];exact qV hc)⟩
  ·refine ⟨rfl,fun z hz=>?_,_,_,rfl⟩
   rw [bj,hj] at hz
   rcases aK.mp hz with y | y
   ·exact hal z y
   ·rw [ax.mp (show z∈[j] from y),e0]
    exact fun w=>hc (qT w)
 ·rintro σ H1 ⟨rfl,hal,v2,v3,rfl⟩
  rw [ae,bh] at hal;exact k1 fun j hj=>hal j (h5.mem_iff.mpr hj)
theorem oP:cp ["self","case","span","at","bounds","one","other"] pzw (defScope sSidesC):=by trivial
theorem ok_sidesC (F:Fun K "sides" "Cuts.sides" sSidesC f fd)(CC:CutC K C)(G1:Fn K mg "with_bound" sWithB pzo f1 fd1):cR P w K mg base CX0 2 f fd pzw (spSidesC C):=by
 have F1:cR P w K mg base CX0 1 f1 fd1 pzo spWithB:=ok_withB G1.F;refine F.ok oP (by contradiction) (fun cdv A outer s H vs Q E hr h=>?_);obtain ⟨Hb,x,c,n,a,sp,l,rg,rs,bs,rfl,Sb,hx,hc,hn,lb,few,k⟩:=h;obtain ⟨dx,c0,tl,ol,ord,h1,h2,h3,h4,h5⟩:=hx.ex;obtain ⟨tv,t1,t2,t3⟩:=h3.ex;obtain ⟨u,ql,b1,b2,b3⟩:=t3 n (by lia);obtain ⟨vb,u0,rl,c1,c2,c3,c4⟩:=hc.ex;obtain ⟨pb,yb,rfl,hpb,hlb,rb⟩:=iV c2;obtain ⟨qn,hqn,hqn2⟩:=kz rb (gE hn);have e0:bs.getD n (0,0)=bs[n]:=by rw [ah,gE hn];rfl
 have e1:lV bs n a=bs.set n (bs[n].1,a):=by unfold lV;rw [e0]
 have e2:eV bs n a=bs.set n (a+1,bs[n].2):=by unfold eV;rw [e0]
 refine ⟨_,PSl.h (bg ⟨(psZ 4 oP.nd (ixZ (pv 1)))⟩
  (bg ⟨(psZ 5 oP.nd (pc1 G1 F1 hr (ak (pv 4) (ak (pv 2) (ak (ixZ (fB fm (pv 4) (pv 2) (fun _ _=>rfl))) (ak (pv 3) aI))))))⟩
  (bg ⟨(psZ 6 oP.nd (pc1 G1 F1 hr (ak (pv 4) (ak (pv 2) (ak (dv gG (pv 3) bR) (ak (ixZ (fB fm (pv 4) (pv 2) (fun _ _=>rfl))) aI))))))⟩
  (dF ⟨(cO (jB (ak (dU (ak (pv 6) (ak (fB i5 (pe_fld (pv 0) rfl) (pv 2) (fun _ _=>rfl)) aI))) (ak (dU (ak (pv 5) (ak (fB i5 (pe_fld (pv 0) rfl) (pv 2) (fun _ _=>rfl)) aI))) aI))))⟩)))),?_⟩
 refine ⟨_,rfl,c,_,_,_,rfl,rfl,SqT.of c1,aR (j:=0) rfl,?_⟩;refine ⟨_,rfl,_,rfl,_,rfl,_,rfl,pb,_,_,_,rfl,rfl,SqT.of hpb,aR (j:=n) hqn,qn,_,_,_,rfl,rfl,SqT.of hqn2,aR (j:=0) rfl,_,rfl,.ref pb,n,bs[n].1,a,bs,rfl,c2,hn,few,fun u1 H1 S1 hu1=>?_⟩;refine ⟨_,rfl,_,rfl,_,rfl,_,_,rfl,rfl,_,rfl,_,rfl,pb,_,_,_,rfl,rfl,SqT.of (S1 _ _ hpb),aR (j:=n) hqn,qn,_,_,_,rfl,rfl,SqT.of (S1 _ _ hqn2),aR (j:=1) rfl,.ref pb,n,a+1,bs[n].2,bs,rfl,c2.same S1,hn,few,fun u2 H2 S2 hu2=>?_⟩;have S02:=S1.trans S2;have Sb2:=Sb.trans S02;refine ⟨_,rfl,_,rfl,x,C,dx,_,_,rfl,Sb2 _ _ h1,CC.cl,CC.n2,rfl,_,rfl,tl,_,_,_,rfl,rfl,SqL.of (Sb2 _ _ t1),aR b1,nS,fun q3 H3 S3 h3'=>?_⟩;refine ⟨_,rfl,_,rfl,x,C,dx,_,_,rfl,S3 _ _ (Sb2 _ _ h1),CC.cl,CC.n2,rfl,_,rfl,tl,_,_,_,rfl,rfl,SqL.of (S3 _ _ (Sb2 _ _ t1)),aR b1,nS,fun q4 H4 S4 h4'=>?_⟩;refine ⟨nS,fun L hL=>?_⟩;have S5:bJ H4 (upd H4 L (.lst [.ref q3,.ref q4])):=bJ.put (bJ.refl H4) hL;have S25:=S3.trans (S4.trans S5);refine k L q3 q4 _ (S02.trans S25) (bJ.free (S02.trans (S3.trans S4)) hL) aX ⟨u2,u,ql,S5 _ _ (S4 _ _ h3'),?_,b2,b3⟩ ⟨u1,u,ql,S5 _ _ h4',?_,b2,b3⟩
 ·rw [e2];exact hu2.same S25
 ·rw [e1];exact (hu1.same S2).same S25
abbrev sSpread:cF:=top 27
inductive spSpread (T:ai)(lp:Pos)(lq:Str)(vs:List V)(H:Hp)(Q:VK)(_:XK):Prop
 | mk (v:V)(b m:Int)(sp:List Sn)(_:vs=[v])(_:IsD H v (lM b m sp))(_:kd b m sp)(_:L2.LamT T lp lq H)(_:∀ (L:ai) (zs:List V) (l:List Nat) (S:List Stp) (H':Hp),L2.Tb T H H'→L2.LamT T lp lq H'→H L=none→H' L=some (.lst zs)→dM H' zs (fJ Stp.row S)→iM m.toNat sp l→SprOk m.toNat sp l S→Q (.ref L) H')
structure JS (H Hc:Hp)(Da Ls:ai)(R:List Int)(S:List Stp)(n:Nat):Prop where
 same:bJ H Hc
 da:∃ kvs,Hc Da=some (.dK kvs)∧(∀ x,nU kvs (.inl x)=none↔x ∉ R)∧kvs.length≤R.length+n
 ls:∃ zs,Hc Ls=some (.lst zs)∧dM Hc zs (fJ Stp.row S)
theorem JS.on {Hc':Hp}{R:List Int}(j:JS H Hc Da Ls R S n)(e:bJ Hc Hc'):JS H Hc' Da Ls R S n:=by
 obtain ⟨kvs,h1,h2⟩:=j.da;obtain ⟨zs,h3,h4⟩:=j.ls;exact ⟨j.same.trans e,⟨kvs,e _ _ h1,h2⟩,⟨zs,e _ _ h3,h4.same e⟩⟩
theorem JS.upL {La:ai}{R:List Int}(j:JS H Hc Da Ls R S n)(hL:H La=none)(hc:Hc La=some (.lst xs))(ne:Ls≠La):JS H (upd Hc La (.lst ys)) Da Ls R S n:=by
 obtain ⟨kvs,h1,h2⟩:=j.da;obtain ⟨zs,h3,h4⟩:=j.ls;exact ⟨fun a o e=>by rw [bc (bw e hL)];exact j.same a o e,⟨kvs,by rw [bc (d7 h1 hc nofun)];exact h1,h2⟩,⟨zs,by rw [bc ne];exact h3,eU (fv hc) h4⟩⟩
theorem JS.upS {q:ai}{R:List Int}{s:Stp}(j:JS H Hc Da Ls R S n)(hL:H Ls=none)(hc:Hc Ls=some (.lst zs))(hz:dM Hc zs (fJ Stp.row S))(hq:IsD Hc (.ref q) (.tup ((Stp.row s).map Dt.int))):JS H (upd Hc Ls (.lst (zs++[.ref q]))) Da Ls R (S++[s]) n:=by
 obtain ⟨kvs,h1,h2⟩:=j.da;have hd:dM Hc (zs++[.ref q]) (fJ Stp.row (S++[s])):=by
  unfold fJ at hz ⊢;rw [aF];exact hz.append (.cons hq .nil)
 exact ⟨fun a o e=>by rw [bc (bw e hL)];exact j.same a o e,⟨kvs,by rw [bc (d7 h1 hc nofun)];exact h1,h2⟩,⟨_,aX,eU (fv hc) hd⟩⟩
theorem JS.upD {R:List Int}{kvs:List (Key×V)}{x:Int}{R':List Int}{n':Nat}(j:JS H Hc Da Ls R S n)(hD:H Da=none)(hc:Hc Da=some (.dK kvs))(hk:∀ x,nU kvs (.inl x)=none↔x ∉ R)(hR:∀ z,z∈R'↔z∈R∨z=x)(hl:kvs.length+1≤R'.length+n'):JS H (upd Hc Da (.dK (nZ kvs (.inl x) y))) Da Ls R' S n':=by
 obtain ⟨zs,h3,h4⟩:=j.ls;have K:lH Hc (upd Hc Da (.dK (nZ kvs (.inl x) y))):=fun q xs h=>by rw [bc (d7 h hc nofun)];exact h
 refine ⟨fun a o e=>by rw [bc (bw e hD)];exact j.same a o e,⟨_,aX,fun z=>?_,?_⟩,⟨zs,by rw [bc (d7 h3 hc nofun)];exact h3,eU K h4⟩⟩
 ·rw [valV_put,hR]
  by_cases e:z=x
  ·rw [qR (by rw [e])]
   exact ⟨fun h=>(by cases h),fun h=>qS (Or.inr e) h⟩
  ·rw [qQ (fun h=>e (Sum.inl.inj h)),hk]
   exact ⟨fun h h'=>h'.elim h e,fun h h'=>h (.inl h')⟩
 ·exact aS (lE _ _ _) hl
theorem jP:cp ["net","taken","reached","steps","first","ahead","here","step","there"] pza (defScope sSpread):=by trivial
theorem ok_spread (F:Fun K "spread_of" "spread_of" sSpread f fd)(T:Nm mg)(T2:Nt mg)(G1:Fn K mg "forest_of" lT pza f1 fd1)(F1:cR P w K mg base CX0 6 f1 fd1 pza (kX Tb0 lp lq))(G2:Fn K mg "steps_from" pE pzj f2 fd2)(F2:cR P w K mg base CX0 2 f2 fd2 pzj spSteps)(G3:Fn K mg "leads_to" sTo pzc f3 fd3):cR P w K mg base CX0 7 f fd pza (spSpread Tb0 lp lq):=by
 have F3:cR P w K mg base CX0 1 f3 fd3 pzc spTo:=ok_to G3.F;refine F.ok jP (by contradiction) (fun cdv A outer s H0 vs Q E hr h=>?_);obtain ⟨v,b,m,sp,rfl,hv,N,hT,k⟩:=h;have hr2:iA 2 _:=hr.mono (by decide);have hr1:iA 1 _:=hr.mono (by decide);have u1:=bT (Nat.add_le_add_left (by decide:1≤64) _) hr.units;have E:=N.ends;have m1:=N.m1;have m2:=N.m2;refine ⟨_,PSl.h (bg ⟨(psZ 1 jP.nd (pc1 G1 F1 hr (ak (pv 0) aI)))⟩
  (bg ⟨(psZ 2 jP.nd pe_dnewK)⟩
  (bg ⟨(psZ 3 jP.nd (jB aI))⟩
  (bg ⟨(iW bM rfl (iZ rfl T2.range (ak (ixZ (pv 0)) aI)) (pgZ 4 jP.nd) (PSl.h (bg ⟨(psZ 5 jP.nd (PE.cutV (mm (pt_cmp (nF u1 (pv 4) (pv 2)) rfl) (jB (ak (pv 4) aI)) (jB aI))))⟩
  (bg ⟨(ps_dput u1 (pv 2) (pv 4) pe_bl rfl)⟩
  (dF ⟨(oR bM (dB op_gt (dO cz rfl T.len cj (ak (pv 5) aI)) bR (fg _)) (PSl.h (bg ⟨(psZ 6 jP.nd (qG bB fG fF qI (pv 5)))⟩
  (dF ⟨(iW bM rfl (jn (pc1 G2 F2 hr2 (ak (pv 0) (ak (pv 1) (ak (pv 6) aI))))) (pgZ 7 jP.nd) (PSl.h (bg ⟨(psZ 8 jP.nd (pc1 G3 F3 hr1 (ak (pv 0) (ak (pv 7) aI))))⟩
  (dF ⟨(kh (pt_cmp (nF u1 (pv 8) (pv 2)) rfl) (PSl.h (bg ⟨(ps_dput u1 (pv 2) (pv 8) pe_bl rfl)⟩
  (bg ⟨(iX (oh bB cE cB i4 (pv 5) (ak (pv 8) aI)))⟩
  (dF ⟨(iX (oh bB cE cB i4 (pv 3) (ak (pv 7) aI)))⟩)))) gH)⟩))))⟩))))⟩)))))⟩
  (dF ⟨(cO (pv 3))⟩))))),?_⟩
 refine ⟨_,rfl,v,b,m,sp,rfl,hv,N,hT,fun u H ns tb1 hT1 hu F0=>?_⟩;obtain ⟨l,π,rfl,O,pm⟩:=F0.natsF;have fr:iM m.toNat sp l:=⟨F0,π,O,pm⟩;rw [dG] at hu;have hu:H u=some (.tup (l.map fun (i:Nat)=>V.int i)):=hu;have hv1:=cw (Tb.lamT hT tb1) hv;obtain ⟨t,p,ys,rfl,ht,hp,hl,hy⟩:=gp hv1;clear hy hp hl hv;have PT:=fr.pots E;have hlt:=PT.nodup.2;have few:l.length≤40:=by have:=fr.few E (by lia);lia
 have ne:∀ i∈l,(sAt sp i).s≠(sAt sp i).g:=fun i hi=>(N.all _ (dQ (hlt i hi))).ne
 intro Da hDa;have hDa1:(upd H Da (.dK [])) Da=some (.dK []):=aX;have S1:bJ H (upd H Da (.dK [])):=bJ.put (bJ.refl H) hDa;generalize upd H Da (.dK [])=H1 at hDa1 S1 ⊢;refine ⟨bD _,fun Ls hLs=>?_⟩;have hLsH:H Ls=none:=bJ.free S1 hLs;have S2:bJ H1 (upd H1 Ls (.lst [])):=bJ.put (bJ.refl H1) hLs;have J2:JS H (upd H1 Ls (.lst [])) Da Ls [] [] 0:=⟨S1.trans S2,⟨[],S2 _ _ hDa1,fun x=>⟨fun _ h=>(by cases h),fun _=>rfl⟩,aA _⟩,⟨[],aX,.nil⟩⟩;generalize upd H1 Ls (.lst [])=H2 at J2 ⊢;clear S2 hLs S1 hDa1;refine ⟨_,rfl,t,_,_,_,rfl,rfl,SqT.of (J2.same _ _ ht),aR (j:=1) rfl,m,rfl,by lia,by lia,?_⟩;refine l9 (n:=m.toNat) (fun i σ HC=>∃ (R:List Int) (S:List Stp) (w4 w5 w6 w7 w8:Option V),σ=[some (.ref t),some (.ref u),some (.ref Da),some (.ref Ls),w4,w5,w6,w7,w8]∧JS H HC Da Ls R S i∧SI m.toNat sp l exN R [] S∧∀ x:Nat,x<i→(x:Int)∈R) ⟨[],[],none,none,none,none,none,rfl,J2,SI.start,fun x hx=>qS hx (Nat.not_lt_zero _)⟩ ?_ ?_
 ·rintro i σ HC hi ⟨R,S,w4,w5,w6,w7,w8,rfl,JC,I0,hall⟩
  rw [gO];have hRm:=I0.few;obtain ⟨kvs,hDaC,hkv,hkl⟩:=JC.da;refine ⟨fun v H'=>∃ La A,v= .ref La∧H La=none∧La≠Ls∧JS H H' Da Ls R S i∧H' La=some (.lst (A.map V.int))∧((i:Int) ∉ R∧A=[(i:Int)]∨(i:Int)∈R∧A=[]),?_,?_⟩
  rotate_left
  ·refine ⟨_,rfl,_,rfl,Da,_,rfl,DGet.k (k:= .inl (i:Int)) hDaC,_,rfl,?_⟩
   have mk:∀ (La:ai) (xs:List V),HC La=none→JS H (upd HC La (.lst xs)) Da Ls R S i∧H La=none∧La≠Ls:=fun La xs hLa=>⟨JC.on (bJ.put (bJ.refl HC) hLa),bJ.free JC.same hLa,fun z=>by
    obtain ⟨zs,hz,_⟩:=JC.ls;rw [z,hz] at hLa;cases hLa⟩
   cases c:nU kvs (.inl (i:Int)) with
   | none =>
    refine iteT ⟨_,rfl,szZ1,fun La hLa=>?_⟩;obtain ⟨a1,a2,a3⟩:=mk La [.int (i:Int)] hLa;exact ⟨La,[(i:Int)],rfl,a2,a3,a1,aX,.inl ⟨(hkv _).mp c,rfl⟩⟩
   | some o =>
    refine iteF ⟨bD _,fun La hLa=>?_⟩;obtain ⟨a1,a2,a3⟩:=mk La [] hLa;exact ⟨La,[],rfl,a2,a3,a1,aX,.inr ⟨eE fun z=>(by rw [(hkv _).mpr z] at c;cases c),rfl⟩⟩
  rintro _ HD ⟨La,A,rfl,hLaH,nLL,JD,hLa,hA⟩;obtain ⟨kvD,hDaD,hkD,hlD⟩:=JD.da;refine ⟨_,rfl,_,rfl,Da,_,rfl,DPut.k (k:= .inl (i:Int)) hDaD (bT (by lia:kvD.length≤999) (by decide)),?_⟩;obtain ⟨R',hR',IR,inR,hall'⟩:∃ R',(∀ z,z∈R'↔z∈R∨z=(i:Int))∧SI m.toNat sp l exN R' A S∧R.length≤R'.length∧(∀ x:Nat,x<i+1→(x:Int)∈R'):=by
   rcases hA with ⟨a1,rfl⟩ | ⟨a1,rfl⟩
   ·refine ⟨R++[(i:Int)],fun z=>by rw [aK,ax],I0.root a1 (by lia) (by lia),by rw [au];lia,fun x hx=>?_⟩
    rcases i8.mp hx with z | z
    ·exact aG _ (hall x z)
    ·rw [z];simp
   ·refine ⟨R,fun z=>⟨.inl,fun h=>h.elim id fun e=>e ▸ a1⟩,I0,aA _,fun x hx=>?_⟩
    rcases i8.mp hx with z | z
    ·exact hall x z
    ·rw [z];exact a1
  have JE:=JD.upD (y:= .bl true) (R':=R') (n':=i+1) (x:=(i:Int)) hDa hDaD hkD hR' (by lia);have hLaE:(upd HD Da (.dK (nZ kvD (.inl (i:Int)) (.bl true)))) La=some (.lst (A.map V.int)):=by rw [bc (d7 hLa hDaD nofun)];exact hLa
  generalize upd HD Da (.dK (nZ kvD (.inl (i:Int)) (.bl true)))=HE at JE hLaE ⊢;have lA:A.length≤1:=by rcases hA with ⟨_,rfl⟩ | ⟨_,rfl⟩ <;> simp
  clear hA hLa JD hDaD hkD hlD inR I0 hall hkv hDaC JC;refine ⟨fun n σ HA=>∃ (R A:List Int) (S:List Stp) (w6 w7 w8:Option V),n=2 * (16 - R.length)+A.length∧n≤40∧σ=[some (.ref t),some (.ref u),some (.ref Da),some (.ref Ls),some (.int (i:Int)),some (.ref La),w6,w7,w8]∧JS H HA Da Ls R S (i+1)∧HA La=some (.lst (A.map V.int))∧SI m.toNat sp l exN R A S∧∀ x:Nat,x<i+1→(x:Int)∈R,⟨_,R',A,S,_,_,_,rfl,by lia,rfl,JE,hLaE,IR,hall'⟩,?_⟩;clear JE hLaE IR hall' hR' hkl;rintro n σ HA ⟨R,A,S,w6,w7,w8,rfl,n40,rfl,JA,hLa,IA,hall⟩;refine ⟨_,rfl,La,_,rfl,.inl (SqL.of hLa),_,_,rfl,rfl,_,rfl,?_⟩
  rcases List.eq_nil_or_concat A with rfl | ⟨A',x,rfl⟩
  ·refine iteC (by rfl) ?_
   exact ⟨R,S,_,_,_,_,_,rfl,JA,IA,hall⟩
  rw [List.concat_eq_append] at hLa n40 IA ⊢;refine iteB (qT (by rw [ae,au];show ((A'.length+1:Nat):Int) > 0;lia)) ?_;refine ⟨_,fun σ' H' z=>z,?_⟩;rw [aF] at hLa;refine ⟨_,rfl,.inl ⟨rfl,_,SqL.of hLa⟩,La,_,.int x,rfl,rfl,hLa,by rw [au,bO (by simp)];simp,?_⟩;rw [show (A'.map V.int++[x].map V.int).dropLast=A'.map V.int from fV];have JB:=JA.upL (ys:=A'.map V.int) hLaH hLa nLL.symm;have hLaB:(upd HA La (.lst (A'.map V.int))) La=some (.lst (A'.map V.int)):=aX;generalize upd HA La (.lst (A'.map V.int))=HB at JB hLaB ⊢;obtain ⟨IB,xR⟩:=IA.pop;have lB:2 * (16 - R.length)+A'.length+1≤40:=by rw [au] at n40;exact n40
  have eB:2 * (16 - R.length)+(A'++[x]).length=2 * (16 - R.length)+A'.length+1:=by rw [au];rfl
  rw [eB];clear JA hLa IA n40 eB;refine ⟨_,rfl,_,rfl,_,rfl,.ref t,u,b,m,sp,l,x,rfl,hv1.same JB.same,JB.same _ _ hu,hlt,few,fun L HC zs SC fL hL dz=>⟨L,rfl,⟨_,SqL.of hL⟩,?_⟩⟩;have nL1:L≠La:=fun z=>by rw [z,hLaB] at fL;cases fL
  have nL2:L≠Ls:=fun z=>by
   obtain ⟨z1,hz1,_⟩:=JB.ls;rw [z,hz1] at fL;cases fL
  have JC:=JB.on SC;have hLaC:=SC _ _ hLaB;clear JB hLaB;have lz:zs.length=(dt sp l x).length:=by rw [dz.length];unfold fJ;rw [ae]
  refine lF (K:=K) (a:=L) (xs:=zs) (fun j σ HD=>∃ (R2 A2:List Int) (S2:List Stp) (w7 w8:Option V),JS H HD Da Ls R2 S2 (i+1)∧HD La=some (.lst (A2.map V.int))∧SI m.toNat sp l (· =x) R2 A2 S2∧x∈R2∧(∀ x:Nat,x<i+1→(x:Int)∈R2)∧2 * (16 - R2.length)+A2.length≤2 * (16 - R.length)+A'.length∧(∀ s∈(dt sp l x).take j,s.i∈S2.map Stp.i)∧HD L=some (.lst zs)∧dM HD zs (fJ Stp.row (dt sp l x))∧σ=[some (.ref t),some (.ref u),some (.ref Da),some (.ref Ls),some (.int (i:Int)),some (.ref La),some (.int x),w7,w8]) ⟨R,A',S,_,_,JC,hLaC,IB,xR,hall,aA _,fun s hs=>qS hs (by simp),hL,dz,rfl⟩ (fun j σ HD _ q=>by obtain ⟨_,_,_,_,_,_,_,_,_,_,_,_,h,_⟩:=q;exact SqL.of h) ?_ ?_
  ·clear JC hLaC IB xR hall hL dz SC
   rintro j y σ HD hy ⟨R2,A2,S2,w7,w8,JD,hLaD,ID,xD,hallD,mD,hsD,hLD,dD,rfl⟩;have hj:j<(dt sp l x).length:=by have:=(av.mp hy).1;lia
   have hsj:=gE hj;obtain ⟨y',hy',dy⟩:=dD.at (i:=j) (d:= .tup ((Stp.row (dt sp l x)[j]).map Dt.int)) (by unfold fJ;rw [az,hsj];rfl);rw [hy] at hy';cases hy';obtain ⟨q,qs,rfl,hq,rq⟩:=dy.tup_of;have eq:=rq.ints_of;subst eq;have hmem:(dt sp l x)[j]∈dt sp l x:=bK hj;have hin:=hlt _ (nX hmem).1.1;have more:∀ S3:List Stp,(∀ s∈S2,s∈S3)→(dt sp l x)[j].i∈S3.map Stp.i→∀ s∈(dt sp l x).take (j+1),s.i∈S3.map Stp.i:=fun S3 sub hj3 s hs=>by
    rw [bj,hsj] at hs
    rcases aK.mp hs with z | z
    ·obtain ⟨t',ht',e⟩:=aW.mp (hsD s z)
     exact aW.mpr ⟨t',sub _ ht',e⟩
    ·rw [ax.mp (show s∈[(dt sp l x)[j]] from z)];exact hj3
   generalize (dt sp l x)[j]=st at hq hin dy hmem more;refine ⟨_,rfl,_,rfl,.ref t,q,b,m,sp,st,sAt sp st.i,rfl,hv1.same JD.same,hq,jh hin,?_⟩;rw [(nh hin).1];obtain ⟨kv2,hDaD,hk2,hl2⟩:=JD.da;have hR2:=ID.fewX;refine ⟨_,rfl,_,rfl,Da,_,rfl,DGet.k (k:= .inl (e8 sp st)) hDaD,_,rfl,?_⟩;cases hto:nU kv2 (.inl (e8 sp st)) with
   | some o =>
    have inR:e8 sp st∈R2:=eE fun z=>by rw [(hk2 _).mpr z] at hto;cases hto
    exact iteF ⟨R2,A2,S2,_,_,JD,hLaD,ID,xD,hallD,mD,more S2 (fun _ h=>h) (ID.has PT ne hmem inR),hLD,dD,rfl⟩
   | none =>
    have out:e8 sp st ∉ R2:=(hk2 _).mp hto;have I3:=ID.add E hlt xD hmem out;have hR3:=I3.fewX;rw [au] at hR3;have hR3:R2.length+1≤m.toNat:=hR3;refine iteT ⟨_,rfl,_,rfl,Da,_,rfl,DPut.k (k:= .inl (e8 sp st)) hDaD (bT (by lia:kv2.length≤999) (by decide)),?_⟩;have J3:=JD.upD (y:= .bl true) (R':=R2++[e8 sp st]) (n':=i+1) (x:=e8 sp st) hDa hDaD hk2 (fun z=>by rw [aK,ax]) (by rw [au];show _≤R2.length+1+(i+1);lia);have K3:lH HD (upd HD Da (.dK (nZ kv2 (.inl (e8 sp st)) (.bl true)))):=fun q xs h=>by rw [bc (d7 h hDaD nofun)];exact h
    have hLa3:(upd HD Da (.dK (nZ kv2 (.inl (e8 sp st)) (.bl true)))) La=some (.lst (A2.map V.int)):=by rw [bc (d7 hLaD hDaD nofun)];exact hLaD
    have hL3:(upd HD Da (.dK (nZ kv2 (.inl (e8 sp st)) (.bl true)))) L=some (.lst zs):=by rw [bc (d7 hLD hDaD nofun)];exact hLD
    generalize upd HD Da (.dK (nZ kv2 (.inl (e8 sp st)) (.bl true)))=H3 at J3 K3 hLa3 hL3 ⊢;have d3:=eU K3 dD;have q3:=K3 _ _ hq;refine ⟨_,rfl,.inl ⟨rfl,_,SqL.of hLa3⟩,_,rfl,La,_,_,rfl,rfl,hLa3,nj (by rw [ae];lia),?_⟩;have J4:=J3.upL (ys:=A2.map V.int++[V.int (e8 sp st)]) hLaH hLa3 nLL.symm;have K4:lH H3 (upd H3 La (.lst (A2.map V.int++[V.int (e8 sp st)]))):=fv hLa3;have hLa4:(upd H3 La (.lst (A2.map V.int++[V.int (e8 sp st)]))) La=some (.lst (A2.map V.int++[V.int (e8 sp st)])):=aX;have hL4:(upd H3 La (.lst (A2.map V.int++[V.int (e8 sp st)]))) L=some (.lst zs):=by rw [bc nL1];exact hL3
    generalize upd H3 La (.lst (A2.map V.int++[V.int (e8 sp st)]))=H4 at J4 K4 hLa4 hL4 ⊢;have d4:=eU K4 d3;have q4:=K4 _ _ q3;obtain ⟨z4,hz4,dz4⟩:=J4.ls;have lz4:z4.length=S2.length:=by rw [dz4.length];unfold fJ;rw [ae]
    have lS:=ID.len;refine ⟨_,rfl,.inl ⟨rfl,_,SqL.of hz4⟩,_,rfl,Ls,_,_,rfl,rfl,hz4,nj (by lia),?_⟩;have J5:=J4.upS (s:=st) hLsH hz4 dz4 (.tup q4 (dM.ints (Stp.row st)));refine ⟨R2++[e8 sp st],A2++[e8 sp st],S2++[st],_,_,J5,?_,I3,aG _ xD,fun x hx=>aG _ (hallD x hx),?_,more _ (fun _ h=>aG _ h) (by rw [aF];exact ay _ (by simp)),?_,eU (fv hz4) d4,rfl⟩
    ·rw [bc nLL,hLa4,aF];rfl
    ·rw [au,au]
     show 2 * (16 - (R2.length+1))+(A2.length+1)≤_;lia
    ·rw [bc nL2];exact hL4
  ·rintro σ HD ⟨R2,A2,S2,w7,w8,JD,hLaD,ID,xD,hallD,mD,hsD,hLD,dD,rfl⟩
   rw [lz,bh] at hsD;exact ⟨_,by lia,R2,A2,S2,_,_,_,rfl,by lia,rfl,JD,hLaD,ID.done hsD,hallD⟩
 ·rintro σ HC ⟨R,S,w4,w5,w6,w7,w8,rfl,JC,I0,hall⟩
  obtain ⟨zs,hz,dz⟩:=JC.ls;have hLs0:H0 Ls=none:=by
   cases z:H0 Ls with
   | none=>rfl
   | some o =>
    by_cases e:Ls=Tb0
    ·subst e
     obtain ⟨ps,hps⟩:=LamT.tbl hT1;rw [hps] at hLsH;cases hLsH
    ·rw [tb1 Ls o e z] at hLsH;cases hLsH
  exact ⟨_,rfl,k Ls zs l S HC (tb1.trans (bJ.tb JC.same)) (LamT.same JC.same hT1) hLs0 hz dz fr (I0.ok E hlt hall)⟩
abbrev sRest:cF:=top 29
abbrev sTabBy:cF:=top 43
inductive spTabBy (vs:List V)(H:Hp)(Q:VK)(_:XK):Prop
 | mk (v vb:V)(L:ai)(b m:Int)(sp:List Sn)(bs:List (Int×Int))(zs:List V)(S:List Stp)(_:vs=[v,.ref L,vb])(_:IsD H v (lM b m sp))(_:0<b)(_:0<m)(_:m≤16)(_:kO m.toNat sp)(_:H L=some (.lst zs))(_:dM H zs (fJ Stp.row S))(_:S.length≤16)(_:(∀ s∈S,s.i<sp.length∧(s.d=1∨s.d= -1)))(_:IsD H vb (bndP bs))(_:bs.length=sp.length)(_:∀ q H',bJ H H'→H' q=some (.tup ((tabOf b sp bs m.toNat S).map V.int))→Q (.ref q) H')
theorem frmS_rng (E:kO m sp){t:Stp}(h:t.i<sp.length):0≤mI sp t∧mI sp t<m:=by
 obtain ⟨a,b,c,d⟩:=E _ (dQ h);rw [←(tooS_sAt0 h).2];unfold frm;split <;> lia
theorem ixN_int (h0:0≤z)(h1:z<n):ixN n z=some z.toNat:=by unfold ixN;rw [qR h0,qR h1]
theorem atI_int {xs:List α}{x:α}(h0:0≤z)(h:xs[z.toNat]? =some x):atI xs z=some x:=by
 have:=(av.mp h).1;unfold atI;rw [ixN_int h0 (by lia)];exact h
theorem map_set {l:List Int}{x:Int}:(l.map V.int).set n (V.int x)=(l.set n x).map V.int:=by rw [List.map_set]
theorem scRest:cp pzi pzi (defScope sRest):=by trivial
theorem ok_rest (F:Fun K "rest_by" "rest_by" sRest f fd):cR P w K mg base CX0 1 f fd pzi spRest:=by
 refine F.ok scRest (by contradiction) (fun cdv A outer s H vs Q E hr h=>?_);obtain ⟨b,n,rfl,hb,k⟩:=h;refine ⟨_,PSl.h (dF ⟨(cO (dv nG (pv 1) (pv 0)))⟩),?_⟩;exact ⟨_,rfl,_,rfl,_,_,rfl,rfl,hb,k⟩
theorem scTabBy:cp ["net","steps","bounds","times","step"] pzx (defScope sTabBy):=by trivial
theorem ok_tabBy (F:Fun K "table_by" "table_by" sTabBy f fd)(T:Nm mg)(G1:Fn K mg "leads_to" sTo pzc f1 fd1)(G2:Fn K mg "leads_from" sFrom pzc f2 fd2)(G3:Fn K mg "rest_by" sRest pzi f3 fd3):cR P w K mg base CX0 2 f fd pzx spTabBy:=by
 have F1:cR P w K mg base CX0 1 f1 fd1 pzc spTo:=ok_to G1.F;have F2:cR P w K mg base CX0 1 f2 fd2 pzc spFrom:=ok_from G2.F;have F3:cR P w K mg base CX0 1 f3 fd3 pzi spRest:=ok_rest G3.F;refine F.ok scTabBy (by contradiction) (fun cdv A outer s H vs Q E hr h=>?_);obtain ⟨v,vb,L,b,m,sp,bs,zs,S,rfl,hv,hb,m0,m16,E,hL,dz,lS,hS,hvb,lb,k⟩:=h;have hr1:=hr;obtain ⟨t,p,ys,rfl,ht,hp,hl,hy⟩:=gp hv;obtain ⟨pb,yb,rfl,hpb,hlb,rb⟩:=iV hvb;refine ⟨_,PSl.h (bg ⟨(psZ 3 scTabBy.nd (dv op_rep (pe_lstA (ak bR aI)) (ixZ (pv 0))))⟩
  (bg ⟨(iW bM rfl (jn (pv 1)) (pgZ 4 scTabBy.nd) (dE (ps_asg (dv gG (fB i5 (pv 3) (pc1 G2 F2 hr1 (ak (pv 0) (ak (pv 4) aI))) (fun _ _=>rfl)) (dv ko (ixZ (pv 4)) (ixZ (fB fm (pv 2) (ixZ (pv 4)) (fun _ _=>rfl))))) (pg_sub (pv 3) (pc1 G1 F1 hr1 (ak (pv 0) (ak (pv 4) aI))) set_list))))⟩
  (dF ⟨(cO (i3 kL rfl T.ttup boot_tuple (ak (j9 (fr:=pza) (js:=[0]) rfl (jn (pv 3)) (by trivial) rfl (by trivial) rfl (by exists sTabBy) (by trivial) rfl (by trivial) (fun _ _ _ _ _=>⟨(pc1 G3 F3 hr1 (ak (fB (r:=rIxT K) fm (pv 1) bR (fun _ _=>rfl)) (ak (pv 0) aI))),j8⟩)) aI)))⟩))),?_⟩
 refine ⟨szZ1,fun q1 H1 S1 h1=>⟨_,rfl,t,_,_,_,rfl,rfl,SqT.of (S1 _ _ ht),aR (j:=1) rfl,q1,m,_,rfl,rfl,h1,by lia,by lia,?_,fun Lt hLt=>?_⟩⟩
 ·show 1 * m.toNat≤aP
  exact fA (by lia)
 have hLtH:H Lt=none:=bJ.free S1 hLt;have S2:bJ H (upd H1 Lt (.lst (bC m.toNat [V.int 0]).flatten)):=S1.trans (bJ.put (bJ.refl H1) hLt);have h2:(upd H1 Lt (.lst (bC m.toNat [V.int 0]).flatten)) Lt=some (.lst ((bC m.toNat (0:Int)).map V.int)):=by
  rw [aX,List.map_replicate,List.flatten_replicate_singleton]
 generalize upd H1 Lt (.lst (bC m.toNat [V.int 0]).flatten)=H2 at S2 h2 ⊢;have lz:zs.length=S.length:=by rw [dz.length];unfold fJ;rw [ae]
 have len:∀ j,((S.take j).foldl (setT sp (lowB bs)) (bC m.toNat 0)).length=m.toNat:=fun j=>by rw [mh (m:=0),gY]
 refine ⟨_,rfl,L,rfl,⟨_,SqL.of (S2 _ _ hL)⟩,?_⟩;refine lF (K:=K) (a:=L) (xs:=zs) (fun j σ HD=>bJ H HD∧HD Lt=some (.lst (((S.take j).foldl (setT sp (lowB bs)) (bC m.toNat 0)).map V.int))∧∃ w4,σ=[some (.ref t),some (.ref L),some (.ref pb),some (.ref Lt),w4]) ⟨S2,h2,none,rfl⟩ (fun j σ HD _ ⟨h,_⟩=>SqL.of (h _ _ hL)) ?_ ?_
 ·rintro j y σ HD hy' ⟨SD,hD,w4,rfl⟩
  have hj:j<S.length:=by have:=(av.mp hy').1;lia
  have hsj:=gE hj;obtain ⟨y',hy2,dy⟩:=dz.at (i:=j) (d:= .tup ((Stp.row S[j]).map Dt.int)) (by unfold fJ;rw [az,hsj];rfl);rw [hy'] at hy2;cases hy2;obtain ⟨q,qs,rfl,hq,rq⟩:=dy.tup_of;have eq:=rq.ints_of;subst eq;obtain ⟨hin,hd⟩:=hS _ (bK hj);have fold:(S.take (j+1)).foldl (setT sp (lowB bs)) (bC m.toNat 0)=setT sp (lowB bs) ((S.take j).foldl (setT sp (lowB bs)) (bC m.toNat 0)) S[j]:=by
   rw [bj,hsj,cQ];rfl
  rw [fold];have lj:=len j;generalize (S.take j).foldl (setT sp (lowB bs)) (bC m.toNat 0)=ts at hD lj ⊢;generalize S[j]=st at hq hin hd;obtain ⟨f0,f1'⟩:=frmS_rng E hin;obtain ⟨t0,t1⟩:=mf E hin;have hbi:st.i<bs.length:=by lia
  obtain ⟨qb,hqb,hqb2⟩:=kz rb (gE hbi);have el:lowB bs st.i=bs[st.i].1:=by unfold lowB;rw [ah,gE hbi];rfl
  have hat:∀ z:Int,0≤z→z<m.toNat→(ts.map V.int)[z.toNat]? =some (V.int (tm ts z)):=fun z z0 z1=>by
   rw [az,gE (by lia:z.toNat<ts.length)];unfold tm;rw [ah,gE (by lia:z.toNat<ts.length)];rfl
  refine ⟨_,rfl,_,rfl,_,rfl,.ref t,q,b,m,sp,st,sAt sp st.i,rfl,hv.same SD,SD _ _ hq,jh hin,?_⟩;rw [(nh hin).2];refine ⟨Lt,_,_,_,rfl,rfl,SqL.of hD,atI_int f0 (hat _ f0 f1'),?_⟩;refine ⟨_,rfl,q,_,_,_,rfl,rfl,SqT.of (SD _ _ hq),aR (j:=1) rfl,_,rfl,_,rfl,q,_,_,_,rfl,rfl,SqT.of (SD _ _ hq),aR (j:=0) rfl,pb,_,_,_,rfl,rfl,SqT.of (SD _ _ hpb),aR (j:=st.i) hqb,qb,_,_,_,rfl,rfl,SqT.of (SD _ _ hqb2),aR (j:=0) rfl,_,_,rfl,rfl,?_,_,_,rfl,rfl,?_⟩
  ·exact .inl (by rcases hd with e | e <;> rw [e] <;> decide)
  refine ⟨_,rfl,_,rfl,_,rfl,.ref t,q,b,m,sp,st,sAt sp st.i,rfl,hv.same SD,SD _ _ hq,jh hin,?_⟩;rw [(nh hin).1];refine ⟨Lt,_,_,_,rfl,rfl,hD,ixN_int t0 (by rw [ae];lia),?_⟩;rw [map_set,←el];exact ⟨fun a o e=>by rw [bc (bw e hLtH)];exact SD _ _ e,aX,_,rfl⟩
 ·rintro σ HD ⟨SD,hD,w4,rfl⟩
  rw [lz,bh] at hD;refine ⟨_,rfl,Lt,rfl,⟨_,SqL.of hD⟩,?_⟩;have lt:(j6 sp (lowB bs) m.toNat S).length=m.toNat:=by have:=len S.length;rwa [bh] at this
  refine kJ (K:=K) (a:=Lt) (xs:=(j6 sp (lowB bs) m.toNat S).map V.int) (fun i zs HC=>HC=HD∧zs=(((j6 sp (lowB bs) m.toNat S).take i).map (· % b)).map V.int) ⟨rfl,rfl⟩ (fun i zs HC hi ⟨e1,e2⟩=>⟨by rw [e1];exact SqL.of hD,by rw [e2,ae,ae,bH];lia⟩) (by rw [ae,lt];exact fA (by lia)) (fun i x zs HC hx ⟨e1,e2⟩=>?_) (fun zs HC ⟨e1,e2⟩ D hD2=>?_)
  ·subst e1
   rw [az] at hx;obtain ⟨z,hz,rfl⟩:=bq.mp hx;refine jo ⟨_,rfl,t,_,_,_,rfl,rfl,SqT.of (SD _ _ ht),aR (j:=0) rfl,_,rfl,b,z,rfl,hb,?_⟩;rw [e2,bj,hz,aF,aF];exact ⟨rfl,rfl⟩
  ·subst e1
   rw [ae,bh] at e2;have S3:bJ HC (upd HC D (.lst zs)):=bJ.put (bJ.refl HC) hD2;refine ⟨D,_,rfl,.inl (.inl aX),fun q H4 S4 h4=>?_⟩;exact k q H4 (SD.trans (S3.trans S4)) (by rw [h4,e2];rfl)
abbrev sTabF:cF:=top 44
theorem CutD.move {x:ai}{rg:List (Nat×List Stp)}(a:CutD H C x sp l rg)(e:Kp H H')(hx:∀ o,H x=some o→H' x=some o):CutD H' C x sp l rg:=by
 obtain ⟨dx,c0,tl,ol,ord,h1,h2,h3,h4,h5⟩:=a.ex;exact ⟨dx,c0,tl,ol,ord,hx _ h1,h2.kp e,h3.kp e,e.lst _ _ h4,h5⟩
structure CutK (P:aN)(w:bp)(K:aq)(mg:Str→Option aa)(base:bz)(T0:ai)(p0:Pos)(q0:Str)(T1:ai)(p1:Pos)(q1:Str)(C fi g1 g2:ai)(di d1 d2:bf):Prop where
 cc:CutC K C
 mke:Mk K C fi
 gl:mg "Cuts" =some (.ref C)
 ini:cR P w K mg base CX0 9 fi di ["self","net"] (spInitC T0 p0 q0 T1 p1 q1 C)
 bi:md K di ["self","net"] []
 m1:Meth K C "span_to_cut" g1
 f1:cR P w K mg base CX0 1 g1 d1 ["self","case"] (spSpanC C)
 b1:md K d1 ["self","case"] []
 m2:Meth K C "sides" g2
 f2:cR P w K mg base CX0 2 g2 d2 pzw (spSidesC C)
 b2:md K d2 pzw []
theorem pB:cp ["net","most","cuts","steps","tables","ahead","case","span"] pzk (defScope sTabF):=by trivial
theorem ok_tabF {f4 f5 fi g1 g2:ai}{fd4 fd5 di d1 d2:bf}(F:Fun K "tables_that_fit" "tables_that_fit" sTabF f fd)(T:Nm mg)(ne:T0≠T1)(CK:CutK P w K mg base T0 p0 q0 T1 p1 q1 C fi g1 g2 di d1 d2)
  (G2:Fn K mg "spread_of" sSpread pza f2 fd2) (F2:cR P w K mg base CX0 7 f2 fd2 pza (spSpread T0 p0 q0))
  (G3:Fn K mg "dead_leaf" sDeadL pzh f3 fd3) (F3:cR P w K mg base CX0 4 f3 fd3 pzh pf)
  (G4:Fn K mg "table_by" sTabBy pzx f4 fd4) (F4:cR P w K mg base CX0 2 f4 fd4 pzx spTabBy)
  (G5:Fn K mg "middle_of" sMid pzn f5 fd5):cR P w K mg base CX0 11 f fd pzk (spTabF T0 p0 q0 T1 p1 q1):=by
 have F5:cR P w K mg base CX0 1 f5 fd5 pzn spMid:=ok_mid G5.F;refine F.ok pB (by contradiction) (fun cdv A outer s H vs Q E hr h=>?_);obtain ⟨v,b,m,sp,most,rfl,hv,N,hmost,hcases,hT0,hT1,k⟩:=h;have hr1:iA 1 _:=hr.mono (by decide);have hr2:iA 2 _:=hr.mono (by decide);have hr4:iA 4 _:=hr.mono (by decide);have hr7:iA 7 _:=hr.mono (by decide);have E:=N.ends;have nfew:=N.few;have m1:=N.m1;have m2:=N.m2;have nb1:=N.b1;refine ⟨_,PSl.h (bg ⟨(psZ 2 pB.nd (pe_make CK.mke CK.ini hr rfl CK.gl CK.bi .nil pass0 (ak (pv 0) aI)))⟩
  (bg ⟨(psZ 3 pB.nd (pc1 G2 F2 hr7 (ak (pv 0) aI)))⟩
  (bg ⟨(psZ 4 pB.nd (jB aI))⟩
  (bg ⟨(psZ 5 pB.nd (jB (ak (pe_fld (pv 2) rfl) aI)))⟩
  (bg ⟨(oR bM (PW.pt (pw_and (dB op_gt (dO cz rfl T.len cj (ak (pv 5) aI)) bR (fg _)) (pw_and1 (dB op_lt (dO cz rfl T.len cj (ak (pv 4) aI)) (pv 1) (fg _))))) (PSl.h (bg ⟨(psZ 6 pB.nd (qG bB fG fF qI (pv 5)))⟩
  (dF ⟨(kh (dB op_isN (pc1 G3 F3 hr4 (ak (pv 0) (ak (pv 6) aI))) mF (fg _)) (PSl.h (bg ⟨(psZ 7 pB.nd (pe_meth (pv 2) CK.cc.cl CK.m1 CK.f1 hr1 CK.b1 .nil pass0 (ak (pv 6) aI)))⟩
  (dF ⟨(kh (dB op_isN (pv 7) mF (fg _)) (dE (iX (oh bB cE cB i4 (pv 4) (ak (pc1 G4 F4 hr2 (ak (pv 0) (ak (pv 3) (ak (ixZ (pv 6)) aI)))) aI)))) (dE (iX (oh bB PySem.F.slot_list_extend PySem.F.type_list_extend mt_extend (pv 5) (ak (pe_meth (pv 2) CK.cc.cl CK.m2 CK.f2 hr2 CK.b2 .nil pass0 (ak (pv 6) (ak (pv 7) (ak (pc1 G5 F5 hr1 (ak (pv 6) (ak (pv 7) aI))) aI)))) aI)))))⟩))) gH)⟩))))⟩
  (dF ⟨(cO (pv 4))⟩)))))),?_⟩
 refine ⟨_,rfl,fun x dx hx hdx nxd=>?_⟩;have S0:bJ H (upd (upd H dx (.own x)) x (.ins C dx [])):=by
  have Sa:bJ H (upd H dx (.own x)):=bJ.put (bJ.refl H) hdx;exact bJ.put Sa (by rw [bc (bX nxd)];exact hx)
 have hx0:(upd (upd H dx (.own x)) x (.ins C dx [])) x=some (.ins C dx []):=aX;generalize upd (upd H dx (.own x)) x (.ins C dx [])=H0 at S0 hx0 ⊢;refine ⟨x,dx,v,b,m,sp,rfl,hx0,hv.same S0,N,LamT.same S0 hT0,LamT.same S0 hT1,fun l rg H1 st1 kp1 hT01 hT11 R cd1=>⟨rfl,?_⟩⟩;have f:=R.ff N;have fr:=R.fr;have lrg:rg.length≤40:=by
  have:rg.length=(pJ sp l).length:=by rw [←R.ks,ae]
  have h2:(pJ sp l).length≤sp.length:=by unfold pJ;exact aS (eQ _ _) (by rw [bo];exact aA _)
  lia
 have tl:l.length≤15:=by have:=fr.few E (by lia);lia
 have hlt:=f.acy.nodup.2;have st1':∀ a o,a≠T0→a≠T1→H a=some o→H1 a=some o:=fun a o n0 n1 e=>st1 a o n0 n1 (bw e hx) (S0 _ _ e)
 have kp1':Kp H H1:=(bJ.kp S0).trans kp1;have hv1:=cw kp1'.tup hv;refine ⟨_,rfl,v,b,m,sp,rfl,hv1,N,hT01,fun Ls zsS l' S H2 tb2 hT02 fLs hLs dS fr' SO=>?_⟩;have el:l'=l:=iM.one fr' fr;subst el;have kp2:Kp H1 H2:=Tb.kp hT01 tb2;have hT12:=LamT.ntb hT11 hT01 (bX ne) tb2;have cd2:CutD H2 C x sp l' rg:=cd1.move kp2 fun o e=>tb2 x o (by
  obtain ⟨_,_,_,_,_,h1,_⟩:=cd1.ex;obtain ⟨ps,h⟩:=LamT.tbl hT01;exact d7 h1 h nofun) e
 have st2:∀ a o,a≠T0→a≠T1→H a=some o→H2 a=some o:=fun a o n0 n1 e=>tb2 a o n0 (st1' a o n0 n1 e)
 have kp2':=kp1'.trans kp2;have hv2:=cw kp2.tup hv1;clear kp2 tb2 cd1 hT01 hT11 hv1 kp1' st1' kp1 st1 hv S0 fr' hx0;obtain ⟨dx',c0,tl',ol,ord,h1,h2,h3,h4,h5⟩:=cd2.ex;refine ⟨bD _,fun Lt hLt=>?_⟩;have S3:bJ H2 (upd H2 Lt (.lst [])):=bJ.put (bJ.refl H2) hLt;have hLt3:(upd H2 Lt (.lst [])) Lt=some (.lst []):=aX;generalize upd H2 Lt (.lst [])=H3 at S3 hLt3 ⊢;refine ⟨_,rfl,x,C,dx',_,_,rfl,S3 _ _ h1,CK.cc.cl,CK.cc.n1,rfl,szZ1,fun Ah hAh=>?_⟩;have hAh2:H2 Ah=none:=bJ.free S3 hAh;have nLA:Lt≠Ah:=fun z=>by rw [←z,hLt3] at hAh;cases hAh
 have S4:bJ H3 (upd H3 Ah (.lst [.ref c0])):=bJ.put (bJ.refl H3) hAh;have hAh4:(upd H3 Ah (.lst [.ref c0])) Ah=some (.lst [.ref c0]):=aX;generalize upd H3 Ah (.lst [.ref c0])=H4 at S4 hAh4 ⊢;have S24:=S3.trans S4;have cl4:CsL H2 H4 [.ref c0] [(sp.map fun z=>(z.l,z.o),rg)]:=by
  obtain ⟨vb,u,rl,a1,a2,a3,a4⟩:=h2.ex;exact .cons ⟨c0,rfl,vb,u,rl,S24 _ _ a1,a2.same S24,a3,a4⟩ .nil
 have sz0:szC l' [(sp.map fun z=>(z.l,z.o),rg)]≤8191:=by
  have e:=lh l' hlt fun y hy=>(N.all y hy).lo
  have:=hcases l' fr;show (2 * e7 (sp.map fun z=>(z.l,z.o)) l' - 1)+0≤8191;lia
 refine ⟨fun n σ Hc=>∃ (cs:List Cse) (Ts:List (List Int)) (zs tv:List V) (w6 w7:Option V),n=szC l' cs∧n≤8191∧σ=[some v,some (.int (most:Nat)),some (.ref x),some (.ref Ls),some (.ref Lt),some (.ref Ah),w6,w7]∧bJ H2 Hc∧Hc Ah=some (.lst zs)∧CsL H2 Hc zs cs∧Hc Lt=some (.lst tv)∧dM Hc tv (fJ id Ts)∧SrcI b m sp l' rg cs Ts∧Ts.length≤most,⟨_,_,[],_,[],_,_,rfl,sz0,rfl,S24,hAh4,cl4,S4 _ _ hLt3,.nil,SrcI.start N lrg,bD _⟩,?_⟩;clear cl4 hAh4 S4 S24 hLt3 S3 hAh sz0;rintro n σ Hc ⟨cs,Ts,zs,tv,w6,w7,rfl,n8,rfl,Sc,hAc,clc,hLc,dtv,I,hTs⟩;have lzs:zs.length=cs.length:=Paired.len clc;have ltv:tv.length=Ts.length:=by rw [dtv.length];unfold fJ;rw [ae]
 have lcs:=szC_len hlt cs I.ok;have pF:e7 (sp.map fun z=>(z.l,z.o)) l'≤4096:=by
  have e:=lh l' hlt fun y hy=>(N.all y hy).lo
  have:=hcases l' fr;lia
 have fin:(Ts.length<most∨most=4096→cs=[])→Q (.ref Lt) Hc:=fun he=>k Lt tv l' rg Ts Hc (fun a o n0 n1 e=>Sc _ _ (st2 a o n0 n1 e)) (kp2'.trans (bJ.kp Sc)) (LamT.same Sc hT02) (LamT.same Sc hT12) hLc dtv R I.tabs hTs fun lt T hT=>by
  rcases I.hold T hT with h | ⟨c,hc,_⟩
  ·exact h
  ·rw [he lt] at hc;cases hc
 refine ⟨_,rfl,Ah,_,rfl,.inl (SqL.of hAc),_,_,rfl,rfl,_,rfl,?_⟩
 rcases List.eq_nil_or_concat cs with rfl | ⟨cs',c,rfl⟩
 ·have:zs=[]:=gC.mp lzs
  subst this;refine iteC (by rfl) (iteF ⟨_,rfl,fin fun _=>rfl⟩)
 rw [List.concat_eq_append] at *;obtain ⟨zs',y,rfl,clc',q,rfl,ce⟩:=Paired.snoc_of clc;refine iteB (qT (by rw [au];show ((zs'.length+1:Nat):Int) > 0;lia)) ?_;refine ⟨_,rfl,Lt,_,rfl,.inl (SqL.of hLc),_,rfl,_,_,rfl,rfl,_,rfl,?_⟩
 by_cases hlm:Ts.length<most
 rotate_left
 ·exact iteC (qU (by lia)) ⟨_,rfl,fin fun z=>qS z fun z=>by
   rcases z with z | z
   ·exact hlm z
   ·have h0:=I.cnt
    rw [pO] at h0;have h1:=iY (I.ok c (by simp)).ob hlt;have e1:psC l' [c]=e7 c.1 l'+0:=rfl;lia⟩
 refine iteB (qT (by lia)) ⟨_,fun σ' H' z=>z,?_⟩;refine ⟨_,rfl,.inl ⟨rfl,_,SqL.of hAc⟩,Ah,_,.ref q,rfl,rfl,hAc,by rw [au,bO (by simp)];simp,?_⟩;rw [fV];have K5:lH Hc (upd Hc Ah (.lst zs')):=fv hAc;have S5:bJ H2 (upd Hc Ah (.lst zs')):=fun a o e=>by rw [bc (bw e hAh2)];exact Sc _ _ e
 have hA5:(upd Hc Ah (.lst zs')) Ah=some (.lst zs'):=aX;have hL5:(upd Hc Ah (.lst zs')) Lt=some (.lst tv):=by rw [bc nLA];exact hLc
 have cl5:=CsL.keep K5 (show CsL H2 Hc zs' cs' from clc');have ce5:=ce.keep K5;have dtv5:=eU K5 dtv;generalize upd Hc Ah (.lst zs')=H5 at K5 S5 hA5 hL5 cl5 ce5 dtv5 ⊢;have C:=I.ok c (by simp);have less:=I.less f;have lcs':cs'.length+1≤8191:=by rw [au] at lcs;show cs'.length+[c].length≤8191;lia
 have lz':zs'.length=cs'.length:=Paired.len cl5;clear clc clc' ce hAc hLc dtv K5 lzs fin;refine ⟨_,rfl,_,rfl,v,q,b,m,sp,c.1,c.2,rfl,hv2.same S5,by lia,by have:=N.b2;lia,ce5.dn S5,C.few,fun z hz=>by rw [C.ob.len];exact ((f.rk z (C.sub z hz)).rg N tl).inn,fun r H6 S6 hd=>⟨rfl,_,rfl,?_⟩⟩;have S26:=S5.trans S6;have hA6:=S6 _ _ hA5;have hL6:=S6 _ _ hL5;have ce6:=ce5.keep (bJ.tupK S6);have cl6:=CsL.keep (bJ.tupK S6) cl5;have dtv6:=dtv5.same S6;clear ce5 cl5 dtv5 hA5 hL5
 rcases hd with ⟨rfl,al⟩ | ⟨z,hz,dz,hdz⟩
 rotate_left
 ·have:r≠ .non:=fun e=>by rw [e] at dz;cases dz
  refine iteC (qU this) ?_;exact ⟨_,less,cs',Ts,zs',tv,_,_,rfl,by lia,rfl,S26,hA6,cl6,hL6,dtv6,I.dead N f hz hdz,hTs⟩
 refine iteB (qT rfl) ?_;refine ⟨_,rfl,x,dx',_,rfl,S26 _ _ h1,rfl,_,rfl,x,q,sp,l',rg,c.2,c.1,rfl,cd2.same S26,ce6.dn S26,fun j hj=>by rw [C.ob.len];exact hlt j hj,by lia,fun fx=>?_,fun j hj hlj=>?_⟩
 ·refine ⟨_,rfl,rfl,_,rfl,iteB (qT rfl) ?_⟩
  obtain ⟨vb,u,rl,a1,a2,a3,a4⟩:=ce6.ex;refine ⟨_,rfl,.inl ⟨rfl,_,SqL.of hL6⟩,_,rfl,_,rfl,_,rfl,q,_,_,_,rfl,rfl,SqT.of a1,aR (j:=0) rfl,v,vb,Ls,b,m,sp,c.1,zsS,S,rfl,hv2.same S26,by lia,by lia,m2,E,S26 _ _ hLs,dS.same S26,by have:=SO.len;lia,fun s' hs'=>⟨hlt _ (SO.inn s' hs').1,(SO.inn s' hs').2⟩,a2,C.ob.len,fun qt H7 S7 h7=>?_⟩;refine ⟨Lt,_,_,rfl,rfl,S7 _ _ hL6,bT (m:=4096) (by lia) (by decide),?_⟩;have K8:lH H7 (upd H7 Lt (.lst (tv++[.ref qt]))):=fv (S7 _ _ hL6);refine ⟨_,less,cs',Ts++[tabOf b sp c.1 m.toNat S],zs',tv++[.ref qt],_,_,rfl,by lia,rfl,fun a o e=>?_,?_,CsL.keep K8 (CsL.keep (bJ.tupK S7) cl6),aX,?_,I.leaf N f SO al fx,by rw [au];exact hlm⟩
  ·rw [bc (bw e hLt)];exact S7 _ _ (S26 _ _ e)
  ·rw [bc (bX nLA)];exact S7 _ _ hA6
  ·refine eU K8 ?_
   unfold fJ;rw [aF];exact (dtv6.same S7).append (.cons (.tup h7 (dM.ints _)) .nil)
 ·refine ⟨_,rfl,rfl,_,rfl,iteC (qU nofun) ?_⟩
  have hjb:j<c.1.length:=by rw [C.ob.len];exact hlt j hj
  refine ⟨_,rfl,.inl ⟨rfl,_,SqL.of hA6⟩,_,rfl,x,dx',_,rfl,S26 _ _ h1,rfl,_,rfl,_,rfl,_,rfl,_,rfl,q,j,c.1,c.2,rfl,ce6.dn S26,hjb,?_⟩;obtain ⟨a,ha⟩:∃ a,a=((c.1.getD j (0,0)).1+(c.1.getD j (0,0)).2) / 2:=⟨_,rfl⟩;rw [←ha];refine ⟨H2,x,q,j,a,sp,l',rg,c.2,c.1,rfl,S26,cd2,ce6.dn S26,hjb,C.ob.len,by rw [C.ob.len];exact nfew,fun L q1 q2 H7 S7 fL hL e1 e2=>?_⟩;have nLA2:L≠Ah:=fun z=>by rw [z,hA6] at fL;cases fL
  refine ⟨Ah,L,_,_,rfl,rfl,S7 _ _ hA6,hL,aS (m:=10000) (by show zs'.length+2≤10000;lia) (by decide),?_⟩;have K8:lH H7 (upd H7 Ah (.lst (zs'++[.ref q1,.ref q2]))):=fv (S7 _ _ hA6);obtain ⟨I',less'⟩:=I.cut N f lrg al hj (a:=a) (by lia) (by lia);refine ⟨_,less',_,Ts,_,tv,_,_,rfl,by lia,rfl,fun a o e=>?_,aX,?_,?_,eU K8 (dtv6.same S7),I',hTs⟩
  ·rw [bc (bw e hAh2)];exact S7 _ _ (S26 _ _ e)
  ·exact Paired.app (CsL.keep K8 (CsL.keep (bJ.tupK S7) cl6)) (.cons ⟨q1,rfl,e1.keep K8⟩ (.cons ⟨q2,rfl,e2.keep K8⟩ .nil))
  ·rw [bc nLA];exact S7 _ _ hL6
abbrev sTreeF:cF:=top 45
theorem pA:cp ["marks","trees","mark","one","other"] ["marks"] (defScope sTreeF):=by trivial
theorem ok_treeF (F:Fun K "tree_from" "tree_from" sTreeF f fd)(RV:mg "reversed" =none):cR P w K mg base CX0 1 f fd ["marks"] spTreeF:=by
 refine F.ok pA (by contradiction) (fun cdv A outer s H vs Q E hr h=>?_);obtain ⟨L,ys,ms,t,rfl,hL,dys,ems,hlw,few,k⟩:=h;refine ⟨_,PSl.h (bg ⟨(psZ 1 pA.nd (jB aI))⟩
  (bg ⟨(iW bM rfl (pi_revL rfl RV (ak (pv 0) aI)) (pgZ 2 pA.nd) (dE (kh (dB qk (ixZ (pv 2)) mE (fg _)) (PSl.h (bg ⟨(psZ 3 pA.nd (qG bB fG fF qI (pv 1)))⟩
  (bg ⟨(psZ 4 pA.nd (qG bB fG fF qI (pv 1)))⟩
  (dF ⟨(iX (oh bB cE cB i4 (pv 1) (ak (dv oi (pv 2) (dU (ak (pv 3) (ak (pv 4) aI)))) aI)))⟩)))) (dE (iX (oh bB cE cB i4 (pv 1) (ak (pv 2) aI)))))))⟩
  (dF ⟨(cO (fB i5 (pv 1) bR (fun _ _=>rfl)))⟩))),?_⟩
 refine ⟨bD _,fun Lt hLt=>?_⟩;have nLL:L≠Lt:=bw hL hLt;have S1:bJ H (upd H Lt (.lst [])):=bJ.put (bJ.refl H) hLt;have h1:(upd H Lt (.lst [])) Lt=some (.lst []):=aX;generalize upd H Lt (.lst [])=H1 at S1 h1 ⊢;have lys:ys.length=ms.length:=by rw [dys.length,ae]
 have tot:ms.reverse.foldl stpT (some [])=some [t]:=by rw [ems];exact stp_pre t []
 refine ⟨_,rfl,L,ys,rfl,SqL.of (S1 _ _ hL),?_⟩;refine for_revL (K:=K) (a:=L) (xs:=ys) (fun i σ H2=>bJ H H2∧∃ (zs:List V) (st:List Tq) (v2 v3 v4:Option V),σ=[some (.ref L),some (.ref Lt),v2,v3,v4]∧H2 Lt=some (.lst zs)∧(ms.reverse.take i).foldl stpT (some [])=some st∧dM H2 zs (st.reverse.map kT)∧st.length≤i∧∀ t∈st,pl (kT t)=true) ⟨S1,[],[],none,none,none,rfl,h1,rfl,.nil,aA _,fun _ h=>qS h (by simp)⟩ (fun i σ H2 _ ⟨S2,_⟩=>SqL.of (S2 _ _ hL)) ?_ ?_
 ·rintro i x σ H2 hx ⟨S2,zs,st,v2,v3,v4,rfl,hz,hst,dz,lst,pls'⟩
  have hi:i<ys.length:=by have:=(av.mp hx).1;rwa [gw] at this
  have hm:ms.reverse[i]? =some (ms.reverse[i]'(by rw [gw];lia)):=gE _;obtain ⟨mk,hmk⟩:∃ mk,ms.reverse[i]? =some mk:=⟨_,hm⟩;clear hm;have dx:IsD H2 x (mrkD mk):=by
   have hj:ys.length - 1 - i<ys.length:=by lia
   rw [List.getElem?_reverse (by lia)] at hx;rw [List.getElem?_reverse (by lia)] at hmk;obtain ⟨y,hy,dy⟩:=(dys.same S2).at (i:=ys.length - 1 - i) (d:=mrkD mk) (by rw [az,lys,hmk];rfl);rw [hx] at hy;cases hy;exact dy
  obtain ⟨st',est,est2⟩:=stp_at tot hmk hst;have lzs:zs.length≤10000:=by
   have:=dz.length;rw [ae,gw] at this;lia
  cases mk with
  | leaf d =>
   have e:st'= .leaf d::st:=by
    have:some (Tq.leaf d::st)=some st':=est;cases this;rfl
   subst e;obtain ⟨pd,w1,x1,ed,nw⟩:=hlw d (List.mem_reverse.mp (aY hmk));have dx:IsD H2 x d:=dx;rw [ed] at dx;obtain ⟨q,xs,rfl,hq,rq⟩:=IsD.tup_of dx;cases rq with
   | cons d0 rq =>
    cases d0;refine ⟨_,rfl,q,_,_,_,rfl,rfl,SqT.of hq,aR (j:=0) rfl,rfl,_,rfl,iteC (qU (fun z=>nw (by injection z))) ?_⟩;refine ⟨_,rfl,.inl ⟨rfl,_,SqL.of hz⟩,_,rfl,Lt,zs,_,rfl,rfl,hz,(bT lzs (by decide)),?_⟩;have KC:lH H2 (upd H2 Lt (.lst (zs++[.ref q]))):=fv hz;refine ⟨fun a o e=>by rw [bc (bw e hLt)];exact S2 _ _ e,zs++[.ref q],_,_,_,_,rfl,aX,est2,?_,by rw [aM];lia,fun t ht=>?_⟩
    ·rw [jv,aF]
     refine (dM.keepP KC dz (lx _ fun t ht=>pls' t (List.mem_reverse.mp ht))).append (.cons ?_ .nil);rw [←ed] at dx;exact IsD.keepP KC dx pd
    ·rcases aB.mp ht with rfl | ht
     ·exact pd
     ·exact pls' t ht
  | cut kc ac =>
   obtain ⟨x1,y1,s1,rfl,e⟩:∃ x1 y1 s1,st=x1::y1::s1∧st'= .cut kc ac x1 y1::s1:=by
    rcases st with _ | ⟨x1,_ | ⟨y1,s1⟩⟩
    ·cases est
    ·cases est
    ·refine ⟨x1,y1,s1,rfl,?_⟩
     have:some (Tq.cut kc ac x1 y1::s1)=some st':=est;cases this;rfl
   subst e;have dx:IsD H2 x (.tup [.str "cut",.int (kc:Nat),.int ac]):=dx;obtain ⟨q,xs,rfl,hq,rq⟩:=IsD.tup_of dx;obtain rfl:xs=[.str "cut",.int (kc:Nat),.int ac]:=by
    cases rq with
    | cons d0 rq =>
     cases d0;cases rq with
     | cons d1 rq =>
      cases d1;cases rq with
      | cons d2 rq=>cases d2;cases rq;rfl
   rw [jv,jv,aF,aF] at dz;obtain ⟨zs1,vx,rfl,dz1,dvx⟩:=dM.snocD dz;obtain ⟨zs2,vy,rfl,dz2,dvy⟩:=dM.snocD dz1;have px:=pls' x1 (by simp);have py:=pls' y1 (by simp);refine ⟨_,rfl,q,_,_,_,rfl,rfl,SqT.of hq,aR (j:=0) rfl,rfl,_,rfl,iteB (qT rfl) ?_⟩;refine ⟨_,rfl,.inl ⟨rfl,_,SqL.of hz⟩,Lt,_,vx,rfl,rfl,hz,by rw [au,bO (by simp)];simp,?_⟩;rw [fV];have K3:lH H2 (upd H2 Lt (.lst (zs2++[vy]))):=fv hz;have S3:bJ H (upd H2 Lt (.lst (zs2++[vy]))):=fun a o e=>by rw [bc (bw e hLt)];exact S2 _ _ e
   have h3:(upd H2 Lt (.lst (zs2++[vy]))) Lt=some (.lst (zs2++[vy])):=aX;generalize upd H2 Lt (.lst (zs2++[vy]))=H3 at K3 S3 h3 ⊢;refine ⟨_,rfl,.inl ⟨rfl,_,SqL.of h3⟩,Lt,_,vy,rfl,rfl,h3,by rw [au,bO (by simp)];simp,?_⟩;rw [fV];have K4:lH H2 (upd H3 Lt (.lst zs2)):=K3.trans (fv h3);have S4:bJ H (upd H3 Lt (.lst zs2)):=fun a o e=>by rw [bc (bw e hLt)];exact S3 _ _ e
   have h4:(upd H3 Lt (.lst zs2)) Lt=some (.lst zs2):=aX;generalize upd H3 Lt (.lst zs2)=H4 at K4 S4 h4 ⊢;refine ⟨_,rfl,.inl ⟨rfl,_,SqL.of h4⟩,_,rfl,_,rfl,_,rfl,nS,fun q5 H5 S5 h5=>?_⟩;refine ⟨q,q5,_,_,rfl,rfl,S5 _ _ (K4 _ _ hq),h5,szZ5,fun q6 H6 S6 h6=>?_⟩;have S46:=S5.trans S6;refine ⟨Lt,zs2,_,rfl,rfl,S46 _ _ h4,(bT (by rw [au,au] at lzs;lia:zs2.length≤10000) (by decide)),?_⟩;have K26:lH H2 H6:=fun a xs e=>S46 _ _ (K4 _ _ e)
   have KC:lH H6 (upd H6 Lt (.lst (zs2++[.ref q6]))):=fv (S46 _ _ h4);have K2C:=K26.trans KC;refine ⟨fun a o e=>by rw [bc (bw e hLt)];exact S46 _ _ (S4 _ _ e),zs2++[.ref q6],_,_,_,_,rfl,aX,est2,?_,by simp only [aM] at lst ⊢;lia,fun t ht=>?_⟩
   ·rw [jv,aF]
    refine (dM.keepP K2C dz2 (lx _ fun t ht=>pls' t (by simp [List.mem_reverse.mp ht]))).append (.cons ?_ .nil);exact .tup (KC _ _ h6) (.cons (.str _) (.cons (.int _) (.cons (.int _) (.cons (IsD.keepP K2C dvx px) (.cons (IsD.keepP K2C dvy py) .nil)))))
   ·rcases aB.mp ht with rfl | ht
    ·exact pl_cut px py
    ·exact pls' t (by simp [ht])
 ·rintro σ H2 ⟨S2,zs,st,v2,v3,v4,rfl,hz,hst,dz,lst,pls'⟩
  rw [lys,←gw,bh,tot] at hst;cases hst;cases dz with
  | cons d0 dn =>
   cases dn;exact ⟨_,rfl,Lt,_,_,_,rfl,rfl,SqL.of hz,aR (j:=0) rfl,k _ H2 S2 d0⟩
abbrev sTreeB:cF:=top 46
theorem kY:cp ["net","leaf_in","cuts","marks","ahead","case","mark","span","at"] pzl (defScope sTreeB):=by trivial
theorem ok_treeBy {f5 f6 fi g1 g2:ai}{fd5 fd6 di d1 d2:bf}(F:Fun K "tree_by" "tree_by" sTreeB f fd)(T:Nm mg)(CK:CutK P w K mg base T0 p0 q0 T1 p1 q1 C fi g1 g2 di d1 d2)
  (G5:Fn K mg "middle_of" sMid pzn f5 fd5) (G6:Fn K mg "tree_from" sTreeF ["marks"] f6 fd6) (F6:cR P w K mg base CX0 1 f6 fd6 ["marks"] spTreeF):cR P w K mg base CX0 11 f fd pzl (oK P w K mg base T0 p0 q0 T1 p1 q1):=by
 have F5:cR P w K mg base CX0 1 f5 fd5 pzn spMid:=ok_mid G5.F;refine F.ok kY (by contradiction) (fun cdv A outer s H vs Q E hr h=>?_);obtain ⟨v,g,b,m,sp,R,rfl,hv,N,hcases,hT0,hT1,LM,k⟩:=h;have hr1:iA 1 _:=hr.mono (by decide);have hr2:iA 2 _:=hr.mono (by decide);have hr6:iA 6 _:=hr.mono (by decide);have E:=N.ends;have nfew:=N.few;have m1:=N.m1;have m2:=N.m2;have nb1:=N.b1;refine ⟨_,PSl.h (bg ⟨(psZ 2 kY.nd (pe_make CK.mke CK.ini hr rfl CK.gl CK.bi .nil pass0 (ak (pv 0) aI)))⟩
  (bg ⟨(psZ 3 kY.nd (jB aI))⟩
  (bg ⟨(psZ 4 kY.nd (jB (ak (pe_fld (pv 2) rfl) aI)))⟩
  (bg ⟨(oR bM (dB op_gt (dO cz rfl T.len cj (ak (pv 4) aI)) bR (fg _)) (PSl.h (bg ⟨(psZ 5 kY.nd (qG bB fG fF qI (pv 4)))⟩
  (bg ⟨(psZ 6 kY.nd (pe_callV (i:=1) LM hr6 (pv 5)))⟩
  (bg ⟨(ps_cutK (kh (dB op_isN (pv 6) mF (fg _)) (PSl.h (bg ⟨(psZ 7 kY.nd (pe_meth (pv 2) CK.cc.cl CK.m1 CK.f1 hr1 CK.b1 .nil pass0 (ak (pv 5) aI)))⟩
  (bg ⟨(psZ 8 kY.nd (pc1 G5 F5 hr1 (ak (pv 5) (ak (pv 7) aI))))⟩
  (bg ⟨(psZ 6 kY.nd (dU (ak mE (ak (pv 7) (ak (pv 8) aI)))))⟩
  (dF ⟨(iX (oh bB PySem.F.slot_list_extend PySem.F.type_list_extend mt_extend (pv 4) (ak (pe_meth (pv 2) CK.cc.cl CK.m2 CK.f2 hr2 CK.b2 .nil pass0 (ak (pv 5) (ak (pv 7) (ak (pv 8) aI)))) aI)))⟩))))) gH))⟩
  (dF ⟨(iX (oh bB cE cB i4 (pv 3) (ak (pv 6) aI)))⟩))))))⟩
  (dF ⟨(cO (pc1 G6 F6 hr1 (ak (pv 3) aI)))⟩))))),?_⟩
 refine ⟨_,rfl,fun x dx hx hdx nxd=>?_⟩;have S0:bJ H (upd (upd H dx (.own x)) x (.ins C dx [])):=by
  have Sa:bJ H (upd H dx (.own x)):=bJ.put (bJ.refl H) hdx;exact bJ.put Sa (by rw [bc (bX nxd)];exact hx)
 have hx0:(upd (upd H dx (.own x)) x (.ins C dx [])) x=some (.ins C dx []):=aX;generalize upd (upd H dx (.own x)) x (.ins C dx [])=H0 at S0 hx0 ⊢;refine ⟨x,dx,v,b,m,sp,rfl,hx0,hv.same S0,N,LamT.same S0 hT0,LamT.same S0 hT1,fun l rg H2 st1 kp1 hT02 hT12 RR cd2=>⟨rfl,?_⟩⟩;have f:=RR.ff N;have fr:=RR.fr;have lrg:rg.length≤40:=by
  have:rg.length=(pJ sp l).length:=by rw [←RR.ks,ae]
  have h2:(pJ sp l).length≤sp.length:=by unfold pJ;exact aS (eQ _ _) (by rw [bo];exact aA _)
  lia
 have tl:l.length≤15:=by have:=fr.few E (by lia);lia
 have hlt:=f.acy.nodup.2;have st2:qg T0 T1 H H2:=fun a o n0 n1 e=>st1 a o n0 n1 (bw e hx) (S0 _ _ e)
 have kp2':Kp H H2:=(bJ.kp S0).trans kp1;have hv2:=cw kp2'.tup hv;clear st1 kp1 S0 hx0 hv;obtain ⟨dx',c0,tl',ol,ord,h1,h2,h3,h4,h5⟩:=cd2.ex;refine ⟨bD _,fun Lt hLt=>?_⟩;have S3:bJ H2 (upd H2 Lt (.lst [])):=bJ.put (bJ.refl H2) hLt;have hLt3:(upd H2 Lt (.lst [])) Lt=some (.lst []):=aX;generalize upd H2 Lt (.lst [])=H3 at S3 hLt3 ⊢;refine ⟨_,rfl,x,C,dx',_,_,rfl,S3 _ _ h1,CK.cc.cl,CK.cc.n1,rfl,szZ1,fun Ah hAh=>?_⟩;have hAh2:H2 Ah=none:=bJ.free S3 hAh;have nLA:Lt≠Ah:=fun z=>by rw [←z,hLt3] at hAh;cases hAh
 have S4:bJ H3 (upd H3 Ah (.lst [.ref c0])):=bJ.put (bJ.refl H3) hAh;have hAh4:(upd H3 Ah (.lst [.ref c0])) Ah=some (.lst [.ref c0]):=aX;generalize upd H3 Ah (.lst [.ref c0])=H4 at S4 hAh4 ⊢;have S24:=S3.trans S4;have cl4:CsL H2 H4 [.ref c0] [(sp.map fun z=>(z.l,z.o),rg)]:=by
  obtain ⟨vb,u,rl,a1,a2,a3,a4⟩:=h2.ex;exact .cons ⟨c0,rfl,vb,u,rl,S24 _ _ a1,a2.same S24,a3,a4⟩ .nil
 have pr0:e7 (sp.map fun z=>(z.l,z.o)) l≤4096:=by
  have e:=lh l hlt fun y hy=>(N.all y hy).lo
  have:=hcases l fr;lia
 have sz0:szC l [(sp.map fun z=>(z.l,z.o),rg)]+0≤8191:=by
  show (2 * e7 (sp.map fun z=>(z.l,z.o)) l - 1)+0+0≤8191;lia
 have ok0:∀ c∈[(sp.map (fun z=>(z.l,z.o)),rg)],jj b sp l rg c:=(SrcI.start (b:=b) (l:=l) N lrg).ok;refine ⟨fun n σ Hc=>∃ (cs:List Cse) (ms:List Mrk) (zs mv:List V) (w5 w6 w7 w8:Option V),n=szC l cs∧n+ms.length≤8191∧σ=[some v,some (.ref g),some (.ref x),some (.ref Lt),some (.ref Ah),w5,w6,w7,w8]∧bJ H2 Hc∧Hc Ah=some (.lst zs)∧CsL H2 Hc zs cs∧Hc Lt=some (.lst mv)∧dM Hc mv (ms.map mrkD)∧(∀ c∈cs,jj b sp l rg c)∧Wn R l (sp.map (fun z=>(z.l,z.o)),rg) ms cs.reverse∧(∀ d,Mrk.leaf d∈ms→LeafW d)∧pls (ms.map mrkD)=true,⟨_,_,[],_,[],_,_,_,_,rfl,sz0,rfl,S24,hAh4,cl4,S4 _ _ hLt3,.nil,ok0,Wn.start,fun _ h=>qS h (by simp),rfl⟩,?_⟩;clear cl4 hAh4 S4 S24 hLt3 S3 hAh sz0 ok0;rintro n σ Hc ⟨cs,ms,zs,mv,w5,w6,w7,w8,rfl,n8,rfl,Sc,hAc,clc,hLc,dmv,ok,W,lw,pm⟩;have lzs:zs.length=cs.length:=Paired.len clc;have lmv:mv.length=ms.length:=by rw [dmv.length,ae]
 have lcs:=szC_len hlt cs ok;refine ⟨_,rfl,Ah,_,rfl,.inl (SqL.of hAc),_,_,rfl,rfl,_,rfl,?_⟩
 rcases List.eq_nil_or_concat cs with rfl | ⟨cs',c,rfl⟩
 ·have:zs=[]:=gC.mp lzs
  subst this;obtain ⟨t,et,gt⟩:=Wn.fin W;refine iteC (by rfl) ⟨_,rfl,Lt,mv,ms,t,rfl,hLc,dmv,et,lw,by lia,fun u H9 S9 h9=>?_⟩;have S29:=Sc.trans S9;refine k u t H9 (st2.trans (bJ.stayT S29)) (kp2'.trans (bJ.kp S29)) (LamT.same S29 hT02) (LamT.same S29 hT12) h9 (pl_pre t (by rw [←et];exact lw)) (gt 21 ?_);have:2 ^ 21 * e7 (sp.map fun z=>(z.l,z.o)) l≤2 ^ 21 * 4096:=Nat.mul_le_mul_left _ pr0;exact aS this (by decide)
 rw [List.concat_eq_append] at *;obtain ⟨zs',y,rfl,clc',q,rfl,ce⟩:=Paired.snoc_of clc;refine iteB (qT (by rw [au];show ((zs'.length+1:Nat):Int) > 0;lia)) ⟨_,fun σ' H' z=>z,?_⟩;refine ⟨_,rfl,.inl ⟨rfl,_,SqL.of hAc⟩,Ah,_,.ref q,rfl,rfl,hAc,by rw [au,bO (by simp)];simp,?_⟩;rw [fV];have K5:lH Hc (upd Hc Ah (.lst zs')):=fv hAc;have S5:bJ H2 (upd Hc Ah (.lst zs')):=fun a o e=>by rw [bc (bw e hAh2)];exact Sc _ _ e
 have hA5:(upd Hc Ah (.lst zs')) Ah=some (.lst zs'):=aX;have hL5:(upd Hc Ah (.lst zs')) Lt=some (.lst mv):=by rw [bc nLA];exact hLc
 have cl5:=CsL.keep K5 (show CsL H2 Hc zs' cs' from clc');have ce5:=ce.keep K5;have dmv5:=dM.keepP K5 dmv pm;generalize upd Hc Ah (.lst zs')=H5 at K5 S5 hA5 hL5 cl5 ce5 dmv5 ⊢;have C':=ok c (by simp);have less:=sz_less (cs:=cs') f C';rw [List.reverse_append] at W;have W:Wn R l (sp.map (fun z=>(z.l,z.o)),rg) ms (c::cs'.reverse):=W;have ok':∀ d∈cs',jj b sp l rg d:=fun d hd=>ok d (aG _ hd)
 have lcs':cs'.length+1≤8191:=by rw [au] at lcs;show cs'.length+[c].length≤8191;lia
 have lz':zs'.length=cs'.length:=Paired.len cl5;have stH5:qg T0 T1 H H5:=st2.trans (bJ.stayT S5);clear clc clc' ce hAc hLc dmv K5 lzs ok;refine ⟨rfl,stH5,_,rfl,stH5,l,rg,q,c,rfl,RR,ce5.dn S5,C',hv2.same S5,fun r H6 S6 hd=>?_⟩;have S26:=S5.trans S6;have hA6:=S6 _ _ hA5;have hL6:=S6 _ _ hL5;have ce6:=ce5.keep (bJ.tupK S6);have cl6:=CsL.keep (bJ.tupK S6) cl5;have dmv6:=dmv5.same S6;clear ce5 cl5 dmv5 hA5 hL5 stH5;refine ⟨fun σ' H'=>∃ (cs2:List Cse) (mk:Mrk) (zs2:List V) (v6:V) (w7 w8:Option V),szC l cs2<szC l (cs'++[c])∧σ'=[some v,some (.ref g),some (.ref x),some (.ref Lt),some (.ref Ah),some (.ref q),some v6,w7,w8]∧bJ H2 H'∧H' Ah=some (.lst zs2)∧CsL H2 H' zs2 cs2∧H' Lt=some (.lst mv)∧dM H' mv (ms.map mrkD)∧IsD H' v6 (mrkD mk)∧(∀ c∈cs2,jj b sp l rg c)∧Wn R l (sp.map (fun z=>(z.l,z.o)),rg) (ms++[mk]) cs2.reverse∧(∀ d,mk= .leaf d→LeafW d)∧pl (mrkD mk)=true,?_,?_⟩
 ·rintro σ' H7 ⟨cs2,mk,zs2,v6,w7,w8,less2,rfl,S7,hA7,cl7,hL7,dm7,d6,ok2,W2,lw2,pm2⟩
  refine ⟨_,rfl,.inl ⟨rfl,_,SqL.of hL7⟩,_,rfl,Lt,mv,_,rfl,rfl,hL7,(bT (by lia:mv.length≤10000) (by decide)),?_⟩;have K8:lH H7 (upd H7 Lt (.lst (mv++[v6]))):=fv hL7;refine ⟨_,less2,cs2,ms++[mk],zs2,mv++[v6],_,_,_,_,rfl,by rw [au];show _+(ms.length+1)≤8191;lia,rfl,fun a o e=>by rw [bc (bw e hLt)];exact S7 _ _ e,by rw [bc (bX nLA)];exact hA7,CsL.keep K8 cl7,aX,?_,ok2,W2,fun d hd=>?_,?_⟩
  ·rw [aF]
   exact (dM.keepP K8 dm7 pm).append (.cons (IsD.keepP K8 d6 pm2) .nil)
  ·rcases aK.mp hd with z | z
   ·exact lw d z
   ·exact lw2 d (ax.mp z).symm
  ·rw [aF,pls_appT,pm,Bool.true_and]
   show (pl (mrkD mk) && true)=true;rw [pm2];rfl
 refine ⟨_,rfl,rfl,_,rfl,?_⟩
 rcases hd with ⟨d,dr,dw,dR⟩ | ⟨rfl,al,k0,hk0,hlk0⟩
 ·have nr:r≠ .non:=fun e=>by
   obtain ⟨_,w',x',ed,_⟩:=dw;rw [e,ed] at dr;cases dr
  refine iteC (qU nr) ?_;exact ⟨cs',.leaf d,zs',r,_,_,less,rfl,S26,hA6,cl6,hL6,dmv6,dr,ok',W.leaf dR,(fun d' e=>by cases e;exact dw),dw.1⟩
 refine iteB (qT rfl) ?_;refine ⟨_,rfl,x,dx',_,rfl,S26 _ _ h1,rfl,_,rfl,x,q,sp,l,rg,c.2,c.1,rfl,cd2.same S26,ce6.dn S26,fun j hj=>by rw [C'.ob.len];exact hlt j hj,by lia,fun fx=>qS hlk0 (fx k0 hk0),fun j hj hlj=>?_⟩;have hjb:j<c.1.length:=by rw [C'.ob.len];exact hlt j hj
 refine ⟨_,rfl,_,rfl,q,j,c.1,c.2,rfl,ce6.dn S26,hjb,?_⟩;obtain ⟨a,ha⟩:∃ a,a=((c.1.getD j (0,0)).1+(c.1.getD j (0,0)).2) / 2:=⟨_,rfl⟩;rw [←ha];refine ⟨_,rfl,_,rfl,(by show 3≤aP;decide),fun qm H7 S7 hm7=>?_⟩;have S27:=S26.trans S7;refine ⟨_,rfl,.inl ⟨rfl,_,SqL.of (S7 _ _ hA6)⟩,_,rfl,x,dx',_,rfl,S27 _ _ h1,rfl,_,rfl,_,rfl,_,rfl,H2,x,q,j,a,sp,l,rg,c.2,c.1,rfl,S27,cd2,(ce6.keep (bJ.tupK S7)).dn S27,hjb,C'.ob.len,by rw [C'.ob.len];exact nfew,fun L q1 q2 H8 S8 fL hL e1 e2=>?_⟩;have nLA2:L≠Ah:=fun z=>by rw [z,S7 _ _ hA6] at fL;cases fL
 have hA8:=S8 _ _ (S7 _ _ hA6);refine ⟨Ah,L,_,_,rfl,rfl,hA8,hL,aS (m:=10000) (by show zs'.length+2≤10000;lia) (by decide),?_⟩;have K9:lH H8 (upd H8 Ah (.lst (zs'++[.ref q1,.ref q2]))):=fv hA8;have K68:lH H6 H8:=fun a xs e=>S8 _ _ (S7 _ _ e)
 obtain ⟨okn,lessn,p2⟩:=sz_cut f lrg C' al hj (a:=a) (by lia) (by lia) ok';obtain ⟨mid1,mid2⟩:=prodC_mid C'.ob f.acy.nodup.1 hlt hj hlj ha;refine ⟨_,.cut j a,_,.ref qm,_,_,lessn,rfl,fun a o e=>?_,aX,?_,?_,?_,?_,okn,?_,(fun d e=>by cases e),rfl⟩
 ·rw [bc (bw e hAh2)];exact S8 _ _ (S27 _ _ e)
 ·exact Paired.app (CsL.keep K9 (CsL.keep K68 cl6)) (.cons ⟨q1,rfl,e1.keep K9⟩ (.cons ⟨q2,rfl,e2.keep K9⟩ .nil))
 ·rw [bc nLA];exact S8 _ _ (S7 _ _ hL6)
 ·exact dM.keepP K9 (dM.keepP K68 dmv6 pm) pm
 ·exact .tup (K9 _ _ (S8 _ _ hm7)) (.cons (.str _) (.cons (.int _) (.cons (.int _) .nil)))
 ·rw [List.reverse_append]
  exact W.cut hjb (by lia) (by lia) p2 mid1 mid2
abbrev sCases:cF:=top 25
theorem ow.nats (a:ow m sp ns):∃ (l π:List Nat),ns=l.map (fun (i:Nat)=>(i:Int))∧Ordd sp π∧l.Perm (kB sp m π).2:=by
 obtain ⟨π,o,p,_⟩:=a;have nn:∀ x∈ns,0≤x:=fun x hx=>by
  obtain ⟨i,_,rfl⟩:=aW.mp (p.mem_iff.mp hx);lia
 refine ⟨ns.map Int.toNat,π,?_,o,?_⟩
 ·rw [dG]
  conv=>lhs;rw [←List.map_id ns]
  exact ft fun x hx=>(iT (nn x hx)).symm
 ·have q:=p.map Int.toNat
  rw [dG] at q;have e:((kB sp m π).2.map (Int.toNat ∘ fun (i:Nat)=>(i:Int)))=(kB sp m π).2:=by
   conv=>rhs;rw [←List.map_id (kB sp m π).2]
   exact ft fun x _=>rfl
  rw [e] at q;exact q
theorem gone_few (E:kO m sp)(h:∀ i∈π,i<sp.length):(kB sp m π).2.length≤m:=by
 obtain ⟨D,_,_,l⟩:=oU E π (jK m) [] (jq m) h (Cnt.start m);have l:D.length+(kB sp m π).2.length=m:=l;lia
theorem gone_lt (h:∀ i∈π,i<sp.length):∀ i∈(kB sp m π).2,i<sp.length:=fun i hi=>by
 rcases (kG sp π (jK m,[])).1 i hi with z | z
 ·cases z
 ·exact h i z
def WOk (sp:List Sn):Prop:=∀ x∈sp,0≤x.o - x.l∧x.o - x.l+1≤10 ^ 61
theorem kd.wok {m:Int}(N:kd b m sp)(h:b≤10 ^ 61):WOk sp:=fun x hx=>by
 have s:=N.all x hx;have:=s.lo;have:=s.ob;lia
theorem prodW_abs {sp:List Sn}(w:WOk sp):∀ {l:List Nat},(∀ i∈l,i<sp.length)→(jJ sp l).natAbs≤(10 ^ 61) ^ l.length
 | [],_=>by show 1≤(10 ^ 61) ^ 0;decide
 | i::l,h=>by
  rw [fW,Int.natAbs_mul,aM,Nat.pow_succ,jG ((10 ^ 61) ^ l.length)];refine Nat.mul_le_mul ?_ (prodW_abs w fun j hj=>h j (aw _ hj));have:=w _ (dQ (h i aZ));show ((sAt sp i).o - (sAt sp i).l+1).natAbs≤_;lia
theorem pow_33 {k:Nat}(h:n≤(10 ^ 61) ^ k)(hk:k≤16):n<10 ^ 1000:=by
 refine bT h ?_;rw [←Nat.pow_mul];exact Nat.pow_lt_pow_right (by decide) (by lia)
inductive spCases (T:ai)(lp:Pos)(lq:Str)(vs:List V)(H:Hp)(Q:VK)(_:XK):Prop
 | mk (v b m sp:_)(_:vs=[v])(_:IsD H v (lM b m sp))(_:kd b m sp)(_:b≤10 ^ 61)(_:L2.LamT T lp lq H)(_:∀ H' (l:List Nat),L2.Tb T H H'→L2.LamT T lp lq H'→iM m.toNat sp l→Q (.int (jJ sp l)) H')
theorem scCases:cp ["net","cases","span"] pza (defScope sCases):=by trivial
theorem ok_cases (F:Fun K "cases_of" "cases_of" sCases f fd)(G1:Fn K mg "forest_of" lT pza f1 fd1)(F1:cR P w K mg base CX0 6 f1 fd1 pza (kX Tb0 lp lq))(G2:Fn K mg "width_of" sWidth pzg f2 fd2) :
  cR P w K mg base CX0 7 f fd pza (spCases Tb0 lp lq):=by
 have F2:cR P w K mg base CX0 1 f2 fd2 pzg spWidth:=ok_width G2.F;refine F.ok scCases (by contradiction) (fun cdv A outer s H vs Q E hr h=>?_);obtain ⟨v,b,m,sp,rfl,hv,N,b33,hT,k⟩:=h;have hr1:iA 1 _:=hr.mono (by decide);have E:=N.ends;have m2:=N.m2;have m1:=N.m1;have wk:=N.wok b33;refine ⟨_,PSl.h (bg ⟨(psZ 1 scCases.nd bR)⟩
  (bg ⟨(iW bM rfl (mB (pc1 G1 F1 hr (ak (pv 0) aI))) (pgZ 2 scCases.nd) (dE (pN (i:=1) scCases.nd rfl (.inl rfl) (dv gG (pc1 G2 F2 hr1 (ak (pv 0) (ak (pv 2) aI))) bR) ip_mulG)))⟩
  (dF ⟨(cO (pv 1))⟩))),?_⟩
 refine ⟨_,rfl,v,b,m,sp,rfl,hv,N,hT,fun u H1 ns tb hT1 hu F0=>?_⟩;obtain ⟨l,π,rfl,O,pm⟩:=F0.nats;have hp:∀ i∈π,i<sp.length:=fun i hi=>O.lt hi
 have hlt:∀ i∈l,i<sp.length:=fun i hi=>gone_lt hp i (pm.mem_iff.mp hi)
 have few:l.length≤16:=by have:=gone_few E hp;rw [pm.length_eq];lia
 have hv1:=cw (Tb.tupK (LamT.tbl hT) tb) hv;rw [dG] at hu;refine ⟨u,rfl,⟨_,SqT.of hu⟩,?_⟩;refine pV (K:=K) (a:=u) (xs:=l.map (V.int ∘ fun (i:Nat)=>(i:Int))) (fun i σ HA=>HA=H1∧∃ v2,σ=[some v,some (.int (jJ sp (l.take i))),v2]) ⟨rfl,none,rfl⟩ (fun i σ HA _ ⟨e,_⟩=>by rw [e];exact SqT.of hu) ?_ ?_
 ·rintro i x σ HA hx ⟨rfl,v2,rfl⟩
  rw [az] at hx;obtain ⟨j,hj,rfl⟩:=bq.mp hx;have hjl:=aY hj;have hjn:=hlt j hjl;have w0:=wk _ (dQ hjn);refine ⟨_,rfl,_,rfl,_,rfl,v,b,m,sp,j,sAt sp j,rfl,hv1,jh hjn,_,_,rfl,rfl,?_⟩;refine ⟨_,_,rfl,rfl,⟨?_,?_⟩,rfl,some (.int j),?_⟩
  ·exact pow_33 (prodW_abs wk (l:=l.take i) fun k hk=>hlt k (jZ hk)) (by rw [bH];lia)
  ·exact pow_33 (k:=1) (by rw [Nat.pow_one];lia) (by decide)
  ·rw [bj,hj]
   show _=[some v,some (.int (jJ sp (l.take i++[j]))),_];rw [prodW_snoc];rfl
 ·rintro σ HA ⟨rfl,v2,rfl⟩
  rw [ae,bh];exact ⟨_,rfl,k HA l tb hT1 ⟨F0,π,O,pm⟩⟩
abbrev jk:cF:=top 47
def lamE5:List cF→Expr
 | [_,_,_,_,.Return (some (.Tuple [_,.Call _ [_,e] _ _] _ _)) _]=>e
 | _=> .Constant .none 0 ⟨0,0,0,0⟩
def lamP5:Expr→Pos
 | .Lambda _ _ _ p=>p
 | _=>⟨0,0,0,0⟩
def lamS5:Expr→eO
 | .Lambda _ _ s _=>s
 | _=>{ kind:= .function,names:=[],isGenerator:=false,isCoroutine:=false }
def lamA5:Expr→eS
 | .Lambda a _ _ _=>a
 | _=>{ posonlyargs:=[],args:=[],vararg:=none,kwonlyargs:=[],kw_defaults:=[],kwarg:=none,defaults:=[] }
def lamB5:Expr→Expr
 | .Lambda _ e _ _=>e
 | e=>e
abbrev laT:eS:=lamA5 (lamE5 (eX jk))
abbrev lbT:Expr:=lamB5 (lamE5 (eX jk))
abbrev lpT:Pos:=lamP5 (lamE5 (eX jk))
abbrev lsT:eO:=lamS5 (lamE5 (eX jk))
abbrev lqT:Str:=(("table_for" :Str) ++ ".<locals>.") ++ "<lambda>"
theorem oQ (N:∀ b o,fz b=some o→H b=none):bJ H (ptF H fz):=fun a o e=>by
 cases q:fz a with
 | none=>rw [gT q];exact e
 | some o'=>rw [N a o' q] at e;cases e
theorem ctF_kp (F:Fz fz H):Kp H (ctF H fz):=⟨fun q xs e=>F.cut e (fun _ z=>by cases z),fun q xs e=>F.cut e (fun _ z=>by cases z),fun q _ xs e=>F.cut e (fun _ z=>by cases z)⟩
theorem ptF_back (F:Fz fz H)(S:bJ (ctF H fz) H'):bJ H (ptF H' fz):=fun a o e=>by
 cases q:fz a with
 | some o'=>rw [F a o' q] at e;cases e;exact pM q
 | none=>rw [gT q];exact S a o (by rw [gU q];exact e)
theorem LamT.cutF (F:Fz fz H)(cl:∀ c o,fz c=some o→∃ v,o.data= .cell v)(h:L2.LamT T lp lq H):L2.LamT T lp lq (ctF H fz):=by
 rcases h with h | ⟨c,h,oc,vs,t,e,hd,r⟩
 ·exact .inl (F.cut h (fun _ z=>by cases z))
 ·refine .inr ⟨c,F.cut h (fun _ z=>by cases z),oc,vs,t,?_,hd,r⟩
  cases q:fz c with
  | none=>rw [gU q];exact e
  | some o' =>
   obtain ⟨v,hv⟩:=cl c o' q;rw [F c o' q] at e;cases e;rw [hd] at hv;cases hv
theorem LmOk.imp {k:Nat}{Hg:Hp→Prop}{sp:Sp}(L:LmOk P w K mg base k f Hf sp)(h:∀ H,Hg H→Hf H):LmOk P w K mg base k f Hg sp:=⟨fun H hh g=>L.isFn H hh (h H g),fun A outer s H u v Q hr e0 g=>L.run A outer s H u v Q hr e0 (h H g)⟩
inductive o9 (T0:ai)(p0:Pos)(q0:Str)(T1:ai)(p1:Pos)(q1:Str)(T2:ai)(vs:List V)(H:Hp)(Q:VK)(_:XK):Prop
 | mk (v:V)(b m:Int)(sp:List Sn)(_:vs=[v])(_:IsD H v (lM b m sp))(_:kd b m sp)(_:(∀ l,iM m.toNat sp l→jJ sp l≤4096))(_:L2.LamT T0 p0 q0 H)(_:L2.LamT T1 p1 q1 H)(_:L2.LamT T2 lpT lqT H)(_:∀ (q:ai) (H':Hp),(∀ a o,a≠T0→a≠T1→a≠T2→H a=some o→H' a=some o)→Kp H H'→L2.LamT T0 p0 q0 H'→L2.LamT T1 p1 q1 H'→L2.LamT T2 lpT lqT H'→((∃ (qt:ai) (t:List Int),H' q=some (.tup [.str "table",.ref qt])∧H' qt=some (.tup (t.map V.int))∧TabOk b m sp t)∨∃ (u:V) (t:Tq),H' q=some (.tup [.str "none",u])∧IsD H' u (kT t)∧pl (kT t)=true∧(∀ T,¬ ki b T sp=true)∧GoodT (RDead b sp) t (sp.map fun z=>(z.l,z.o)) 21)→Q (.ref q) H')
theorem nu:PS X st (fun _ _ _=>False):=fun _ _ _ _ _ _ h=>h.elim
theorem nk:cp ["net","many","tables"] pza (defScope jk):=by trivial
theorem ok_tabForN {f4 c T2:ai}{fd4:bf}(F:Fun K "table_for" "table_for" jk f fd)(hcd:fd.code= .ref c)(CH:dW K c T2=true)(B:BM mg base)(T:Nm mg)(MC:∃ t,mg "MOST_CASES" =some (.int 4096 t))(ne:T0≠T1)(n2:T2≠T0)(n3:T2≠T1)
  (G1:Fn K mg "cases_of" sCases pza f1 fd1) (F1:cR P w K mg base CX0 7 f1 fd1 pza (spCases T0 p0 q0))
  (G2:Fn K mg "tables_that_fit" sTabF pzk f2 fd2) (F2:cR P w K mg base CX0 11 f2 fd2 pzk (spTabF T0 p0 q0 T1 p1 q1))
  (G3:Fn K mg "tree_by" sTreeB pzl f3 fd3) (F3:cR P w K mg base CX0 11 f3 fd3 pzl (oK P w K mg base T0 p0 q0 T1 p1 q1))
  (G4:Fn K mg "dead_leaf" sDeadL pzh f4 fd4) (F4:cR P w K mg base CX0 4 f4 fd4 pzh pf):cR P w K mg base CX0 12 f fd pza (o9 T0 p0 q0 T1 p1 q1 T2):=by
 refine okC F hcd nk (by contradiction) (fun A outer s H vs Q E hr h=>?_);obtain ⟨v,b,m,sp,rfl,hv,N,hc,hT0,hT1,hT2,k⟩:=h;have hr7:iA 7 _:=hr.mono (by decide);refine ⟨_,PSl.h (bg ⟨(psZ 1 nk.nd (pc1 G1 F1 hr7 (ak (pv 0) aI)))⟩
  (bg ⟨(kh (dB op_gt (pv 1) (pe_gint MC) (fg _)) (dE nu) gH)⟩
  (bg ⟨(psZ 2 nk.nd (pc1 G2 F2 hr (ak (pv 0) (ak bR aI))))⟩
  (bg ⟨(kh (dB op_gt (dO cz rfl T.len cj (ak (pv 2) aI)) bR (fg _)) (dE (cO (dU (ak mE (ak (fB i5 (pv 2) bR (fun _ _=>rfl)) aI))))) gH)⟩
  (dF ⟨(cO (dU (ak mE (ak (pe_callZ (scope:=lsT) (fr:=pza) (js:=[0]) F3 hr (fun _=>rfl) rfl G3.mg G3.F.kp G3.b rfl (by trivial) (by exists jk) (ak (pv 0) (ak (pe_lam (T:=T2) rfl rfl CH B (by exists jk)) aI))) aI))))⟩))))),?_⟩
 refine ⟨_,rfl,v,b,m,sp,rfl,hv,N,by have:=N.b2;lia,hT0,fun H1 l tb1 hT01 fr=>?_⟩;have kp1:=Tb.kp hT0 tb1;have hT11:=LamT.ntb hT1 hT0 (bX ne) tb1;have hT21:=LamT.ntb hT2 hT0 n2 tb1;have cl:=hc l fr;refine ⟨_,rfl,_,_,rfl,rfl,_,rfl,iteC (qU (by lia)) ?_⟩;refine ⟨_,rfl,v,b,m,sp,1,rfl,cw kp1.tup hv,N,by decide,hc,hT01,hT11,fun L tv l' rg Ts H2 st2 kp2 hT02 hT12 hL dL R tabs few hold=>?_⟩;have hT22:L2.LamT T2 lpT lqT H2:=by
  obtain ⟨ps0,e0⟩:=LamT.tbl hT01;obtain ⟨ps1,e1⟩:=LamT.tbl hT11
  rcases hT21 with h | ⟨c',h,oc,vs,t,e,r⟩
  ·exact .inl (st2 _ _ n2 n3 h)
  ·exact .inr ⟨c',st2 _ _ n2 n3 h,oc,vs,t,st2 _ _ (d7 e e0 nofun) (d7 e e1 nofun) e,r⟩
 have ltv:tv.length=Ts.length:=by rw [dL.length];unfold fJ;rw [ae]
 refine ⟨_,rfl,L,_,rfl,.inl (SqL.of hL),_,_,rfl,rfl,_,rfl,?_⟩;cases Ts with
 | cons t Ts =>
  refine iteB (qT (by rw [ltv,aM];show ((Ts.length+1:Nat):Int) > 0;lia)) ?_;cases dL with
  | cons d0 ds =>
   rename_i y ys;obtain ⟨qt,qs,rfl,hq,rq⟩:=IsD.tup_of d0;have eq:=rq.ints_of;subst eq;refine ⟨_,rfl,L,_,_,_,rfl,rfl,SqL.of hL,aR (j:=0) rfl,nS,fun q H3 S3 h3=>?_⟩;exact k q H3 (fun a o n0 n1 _ e=>S3 _ _ (st2 a o n0 n1 (tb1 a o n0 e))) (kp1.trans (kp2.trans (bJ.kp S3))) (LamT.same S3 hT02) (LamT.same S3 hT12) (LamT.same S3 hT22) (.inl ⟨qt,t,h3,S3 _ _ hq,tabs t (by simp)⟩)
 | nil =>
  refine iteC (qU (by rw [ltv];decide)) ?_;have nof:∀ T',¬ ki b T' sp=true:=fun T' hT'=>by
   obtain ⟨t,ht,_⟩:=hold (.inl (by decide)) T' hT';cases ht
  have hv2:=cw kp2.tup (cw kp1.tup hv);refine ⟨_,rfl,hT22,fun g cl' H3 tb3 hT23 LF LE=>⟨cl',[v],LE,rfl,fun fz C0 N0=>?_⟩⟩;have kp3:=Tb.kp hT22 tb3;have hT03:=LamT.ntb hT02 hT22 (bX n2) tb3;have hT13:=LamT.ntb hT12 hT22 (bX n3) tb3;have SP:=oQ N0;have hT04:=LamT.same SP hT03;have hT14:=LamT.same SP hT13;have LF:LamF lqT laT lbT lsT cl' g H3:=LF;have LF4:=LF.same SP;have hv4:=(cw kp3.tup hv2).same SP;have m2:=N.m2;have m1:=N.m1;have LM:LmOk P w K mg base 6 g (qg T0 T1 (ptF H3 fz)) (oN v b m sp (RDead b sp)):=by
   refine LmOk.mono (j:=5) (LmOk.imp (lam_run (k:=4) (q:=lqT) (params:=laT) (body:=lbT) (scope:=lsT) (cl:=cl') (fz:=fz) (x := "case") (fr:=pza) (ws:=[v]) (fun _ _ _ _=>rfl) rfl rfl rfl (by trivial) rfl (by decide) C0 (fun y hy hf=>?_) (by trivial) (fun L' cd A' outer' s' H' hr'=>pc1 G4 F4 hr' (ak (pv 1) (ak (pv 0) aI))) (fun v' Hx Qx _ Zx hsp=>?_)) fun Hx st=>?_) (by decide)
   ·have e:y.1 = "net" := (by trivial:∀ y:Str×cu,y∈lsT.names→y.2=cu.free→y.1 = "net") y hy hf
    obtain ⟨cc,_,_,ec,_⟩:=C0.val 0 "net" v rfl rfl;exact ⟨cc,by rw [e];exact ec⟩
   ·obtain ⟨l2,rg2,q2,c2,e2,R2,cd2,ok2,hvx,kk⟩:=hsp
    cases e2;have KX:=ctF_kp Zx;have f2:=R2.ff N;have tl:l2.length≤15:=by have:=R2.fr.few N.ends (by lia);lia
    refine ⟨_,rfl,_,rfl,v,q2,b,m,sp,c2.1,c2.2,rfl,cw KX.tup hvx,by have:=N.b1;lia,by have:=N.b2;lia,cd2.kp KX,ok2.few,fun z hz=>by rw [ok2.ob.len];exact ((f2.rk z (ok2.sub z hz)).rg N tl).inn,fun r H' S' hd fr'=>?_⟩;refine kk r _ (ptF_back Zx S') ?_
    rcases hd with ⟨rfl,al⟩ | ⟨z,hz,dz,hdz⟩
    ·refine .inr ⟨rfl,al,eE fun nz=>?_⟩
     have ht2:=f2.acy.nodup.2;have fix:∀ j∈l2,(c2.1.getD j (0,0)).1=(c2.1.getD j (0,0)).2:=fun j hj=>by
      have h1:=(ok2.ob.lo j (ht2 j hj)).2.1;have h2:¬ ((c2.1.getD j (0,0)).1<(c2.1.getD j (0,0)).2):=fun z=>nz ⟨j,hj,z⟩
      lia
     obtain ⟨ts,_,_,hf,_⟩:=tight N f2 ok2.ob ⟨fix,ok2.all al⟩;exact nof ts hf
    ·exact .inl ⟨_,IsD.keepP (bJ.tupK (oQ fr')) dz (oj z.2).1,oj z.2,z.2,rfl,(f2.rk z (ok2.sub z hz)).rg N tl,hdz⟩
   ·obtain ⟨ps0,e0⟩:=LamT.tbl hT04
    obtain ⟨ps1,e1⟩:=LamT.tbl hT14;have fz':∀ a o u,ptF H3 fz a=some (.frz o u)→Hx a=some (.frz o u):=fun a o u e=>st a _ (d7 e e0 nofun) (d7 e e1 nofun) e
    obtain ⟨pm,cd,ct,e,oc,vs,t,ec,r⟩:=LF4;exact ⟨⟨pm,cd,ct,fz' _ _ _ e,oc,vs,t,fz' _ _ _ ec,r⟩,fun a o z=>fz' _ _ _ (pM z)⟩
  refine ⟨v,g,b,m,sp,RDead b sp,rfl,hv4,N,hc,hT04,hT14,LM,fun u t H5 st5 kp5 hT05 hT15 du plu gd Z5=>?_⟩;have KC:=ctF_kp Z5;have hT25:L2.LamT T2 lpT lqT H5:=by
   obtain ⟨ps0,e0⟩:=LamT.tbl hT04;obtain ⟨ps1,e1⟩:=LamT.tbl hT14
   rcases LamT.same SP hT23 with h | ⟨c',h,oc,vs,t,e,r⟩
   ·exact .inl (st5 _ _ n2 n3 h)
   ·exact .inr ⟨c',st5 _ _ n2 n3 h,oc,vs,t,st5 _ _ (d7 e e0 nofun) (d7 e e1 nofun) e,r⟩
  refine ⟨nS,fun q H6 S6 h6=>?_⟩;have kpa:Kp H H6:=kp1.trans (kp2.trans (kp3.trans ((bJ.kp SP).trans (kp5.trans (KC.trans (bJ.kp S6))))));have sta:∀ a o,a≠T0→a≠T1→a≠T2→H a=some o→H6 a=some o:=fun a o n0 n1 n2' e=>by
   have e3:=tb3 a o n2' (st2 a o n0 n1 (tb1 a o n0 e));have e5:=st5 a o n0 n1 (SP _ _ e3);refine S6 _ _ ?_;have fo:fz a=none:=by
    cases z:fz a with
    | none=>rfl
    | some o'=>rw [N0 a o' z] at e3;cases e3
   rw [gU fo];exact e5
  exact k q H6 sta kpa (LamT.same S6 (LamT.cutF Z5 C0.cell hT05)) (LamT.same S6 (LamT.cutF Z5 C0.cell hT15)) (LamT.same S6 (LamT.cutF Z5 C0.cell hT25)) (.inr ⟨u,t,h6,(IsD.keepP KC.tup du plu).same S6,plu,nof,gd⟩)
abbrev pH:cF:=top 49
abbrev sLeafBy:cF:=top 50
inductive spPriceL (vs:List V)(H:Hp)(Q:VK)(_:XK):Prop
 | mk (v vb:V)(u:ai)(b m:Int)(sp:List Sn)(l:List Nat)(rg:List (Nat×List Stp))(bs:List (Int×Int))(rl:List V)(_:vs=[v,.ref u,vb])(_:IsD H v (lM b m sp))(_:kd b m sp)(_:FF m sp l rg)(_:H u=some (.lst rl))(_:dM H rl (rg.map wayQ))(_:IsD H vb (bndP bs))(_:bs.length=sp.length)(_:∀ r H',bJ H H'→IsD H' r (leafP (.price (oB b sp bs rg)))→Q r H')
inductive spLeafBy (vs:List V)(H:Hp)(Q:VK)(_:XK):Prop
 | mk (v:V)(u q:ai)(w:Int)(b m:Int)(sp:List Sn)(l:List Nat)(rg rg':List (Nat×List Stp))(c:Cse)(rl:List V)(_:vs=[v,.ref u,.int w,.ref q])(_:IsD H v (lM b m sp))(_:kd b m sp)(_:FR m sp l rg)(_:FR m sp l rg')(_:H u=some (.lst rl))(_:dM H rl (rg.map wayQ))(_:CsD H q c.1 c.2)(_:jj b sp l rg' c)(_:∀ r H',bJ H H'→((∃ d,IsD H' r d∧LeafW d∧RBest b sp w c.1 d)∨(r= .non∧(∀ z∈c.2,jD b c.1 z.2=false)∧lO b sp c.1 (oB b sp c.1 rg)<w))→Q r H')
theorem sureR_next {bs:List (Int×Int)}{rg:List (Nat×List Stp)}(hi:i<rg.length):kg b sp bs (rg.take (i+1))=kg b sp bs (rg.take i)++(if sureB b bs rg[i].2=true then [((sAt sp rg[i].1).w,rg[i].2)] else []):=by
 unfold kg k4;rw [bj,gE hi,jb,aF];congr 1;show ([rg[i]].filter _).map _=_;rw [dZ,List.filter_nil]
 by_cases e:sureB b bs rg[i].2=true
 ·rw [qR e,qR e];rfl
 ·rw [qQ e,qQ e];rfl
theorem ob_bu {m:Int}{bs:List (Int×Int)}(N:kd b m sp)(O:OB sp l bs):BsU bs:=fun q hq=>by
 obtain ⟨k,hk,rfl⟩:=List.mem_iff_getElem.mp hq;have hk':k<sp.length:=by rw [←O.len];exact hk
 have h:=O.lo k hk';have e:bs.getD k (0,0)=bs[k]:=by rw [ah,gE hk];rfl
 rw [e] at h;have s:=N.all _ (dQ hk');have:=s.l0;have:=s.o60;exact ⟨by lia,h.2.1,by lia⟩
theorem scPriceL:cp ["net","rings","bounds","rows"] pzy (defScope pH):=by trivial
theorem ok_priceL (F:Fun K "price_leaf" "price_leaf" pH f fd)(T:Nm mg)(G1:Fn K mg "is_sure" sSure pzb f1 fd1)(F1:cR P w K mg base CX0 3 f1 fd1 pzb spSure):cR P w K mg base CX0 4 f fd pzy spPriceL:=by
 refine F.ok scPriceL (by contradiction) (fun cdv A outer s H vs Q E hr h=>?_);obtain ⟨v,vb,u,b,m,sp,l,rg,bs,rl,rfl,hv,N,ff,hu,dl,hb,lb,k⟩:=h;obtain ⟨t,p,ys,rfl,ht,hp,hl,hy⟩:=gp hv;have b1:=N.b1;have m2:=N.m2;have fw:=ff.few;have lrl:rl.length=rg.length:=by rw [dl.length,ae]
 have few:=rg_few N ff;refine ⟨_,PSl.h (bg ⟨(ps_setC (iy:=3) (fr:=["net","bounds"]) (js:=[0,2]) scPriceL.nd rfl (.inl rfl) rfl (jn (pv 1)) (by trivial) rfl (by trivial) rfl (by exists pH) (by trivial) rfl (by trivial) (fun _ _ _ _ _=>⟨(dU (ak (fB (r:=rIxT K) fm (fB (r:=rIxT K) fm (fB (r:=rIxT K) fm (pv 1) bR (fun _ _=>rfl)) (fB (r:=rIxT K) fm (fB (r:=rIxT K) fm (pv 0) bR (fun _ _=>rfl)) bR (fun _ _=>rfl)) (fun _ _=>rfl)) bR (fun _ _=>rfl)) (ak (pv 0) aI))),(pL (pt_val (pc1 G1 F1 hr (ak (pv 1) (ak (pv 2) (ak (pv 0) aI))))))⟩))⟩
  (dF ⟨(cO (dU (ak mE (ak (i3 kL rfl T.ttup boot_tuple (ak (j9 (fr:=[]) (js:=[]) rfl (jn (pv 3)) (by trivial) rfl (by trivial) rfl (by exists pH) (by trivial) rfl (by trivial) (fun _ _ _ _ _=>⟨(pv 0),(pL (dB op_gt (fB (r:=rIxT K) fm (pv 0) bR (fun _ _=>rfl)) bR (fg _)))⟩)) aI)) aI))))⟩)),?_⟩
 refine ⟨_,rfl,u,rfl,⟨_,SqL.of hu⟩,?_⟩;refine kJ (K:=K) (a:=u) (xs:=rl) (fun i zs HC=>bJ H HC∧zs.length≤i∧dM HC zs ((kg b sp bs (rg.take i)).map rowD)) ⟨bJ.refl H,bD _,.nil⟩ (fun i zs HC hi ⟨e1,e2,_⟩=>⟨SqL.of (e1 _ _ hu),e2⟩) (by rw [lrl];exact fA (by lia)) (fun i x zs HC hx ⟨SC,lz,dz⟩=>?_) (fun zs HC ⟨SC,lz,dz⟩ D hD=>?_)
 ·have hi:i<rg.length:=by rw [←lrl];exact (av.mp hx).1
  obtain ⟨d,ed,dx⟩:=dl.get hx;rw [az,gE hi] at ed;cases ed;have dx:IsD H x (oy rg[i].2):=dx;have K1:=ff.rk _ (bK hi);have rgi:=K1.rg N (by lia);obtain ⟨pp,ep,_⟩:=K1.way;have dx0:=dx;obtain ⟨pw,yw,rfl,hpw,hlw,rw'⟩:=iV dx;obtain ⟨q0,hq0,hq0'⟩:=kz rw' (show rg[i].2[0]? =some ⟨rg[i].1,1⟩ by rw [ep];rfl);obtain ⟨qs,hqs,hqs'⟩:=hy rg[i].1 (sAt sp rg[i].1) (jh K1.lt);refine ⟨_,rfl,_,rfl,_,rfl,.ref t,vb,.ref pw,b,m,sp,bs,rg[i].2,rfl,hv.same SC,by lia,by have:=N.b2;lia,hb.same SC,dx0.same SC,by rw [lb];exact rgi.inn,fun H4 S4=>⟨_,rfl,?_⟩⟩;have S04:=SC.trans S4;rw [sureR_next hi];cases hs:sureB b bs rg[i].2 with
  | true =>
   rw [qR rfl];refine iteT ⟨_,rfl,t,_,_,_,rfl,rfl,SqT.of (S04 _ _ ht),aR (j:=2) rfl,_,rfl,pw,_,_,_,rfl,rfl,SqT.of (S04 _ _ hpw),aR (j:=0) hq0,q0,_,_,_,rfl,rfl,SqT.of (S04 _ _ hq0'),aR (j:=0) rfl,p,_,_,_,rfl,rfl,SqT.of (S04 _ _ hp),aR (j:=rg[i].1) hqs,qs,_,_,_,rfl,rfl,SqT.of (S04 _ _ hqs'),aR (j:=4) rfl,_,rfl,nS,fun q5 H5 S5 h5=>⟨S04.trans S5,by rw [au];exact Nat.succ_le_succ lz,?_⟩⟩;rw [aF];exact ((dz.same S4).same S5).append (.cons (.tup h5 (.cons (.int _) (.cons (dx0.same (S04.trans S5)) .nil))) .nil)
  | false =>
   rw [qQ aO,cK];exact iteF ⟨S04,by lia,dz.same S4⟩
 ·have S3:bJ H (upd HC D (.lst zs)):=SC.put hD
  have hD3:(upd HC D (.lst zs)) D=some (.lst zs):=aX;have dz3:=dz.same (bJ.put (o:= .lst zs) (bJ.refl HC) hD);generalize upd HC D (.lst zs)=H3 at S3 hD3 dz3 ⊢;rw [lrl,bh] at dz3;have lzs:zs.length=(kg b sp bs rg).length:=by rw [dz3.length,ae]
  have ls:(kg b sp bs rg).length≤40:=by
   unfold kg k4;rw [ae];exact aS (eQ _ _) few
  refine ⟨_,rfl,D,rfl,⟨_,SqL.of hD3⟩,?_⟩;refine kJ (K:=K) (a:=D) (xs:=zs) (fun i ws HC=>HC=H3∧ws.length≤i∧dM H3 ws ((((kg b sp bs rg).take i).filter posR).map rowD)) ⟨rfl,bD _,.nil⟩ (fun i ws HC hi ⟨e1,e2,_⟩=>⟨by rw [e1];exact SqL.of hD3,e2⟩) (by rw [lzs];exact fA (by lia)) (fun i x ws HC hx ⟨e1,lw,dw⟩=>?_) (fun ws HC ⟨e1,lw,dw⟩ D2 hD2=>?_)
  ·subst e1
   have hi:i<(kg b sp bs rg).length:=by rw [←lzs];exact (av.mp hx).1
   obtain ⟨d,ed,dx⟩:=dz3.get hx;rw [az,gE hi] at ed;cases ed;have dx0:=dx;obtain ⟨q,xs,rfl,hq,rx⟩:=IsD.tup_of (show IsD HC x (.tup [.int (kg b sp bs rg)[i].1,oy (kg b sp bs rg)[i].2]) from dx);obtain ⟨y2,rfl⟩:∃ y2,xs=[.int (kg b sp bs rg)[i].1,y2]:=by
    cases rx with
    | cons a rx=>cases a;cases rx with
     | cons _ rx=>cases rx;exact ⟨_,rfl⟩
   refine ⟨_,rfl,q,_,_,_,rfl,rfl,SqT.of hq,aR (j:=0) rfl,_,_,rfl,rfl,_,rfl,?_⟩;have nx:((kg b sp bs rg).take (i+1)).filter posR=((kg b sp bs rg).take i).filter posR++(if decide ((kg b sp bs rg)[i].1 > 0)=true then [(kg b sp bs rg)[i]] else []):=by
    rw [bj,gE hi,jb];show _++[(kg b sp bs rg)[i]].filter _=_;rw [dZ,List.filter_nil];rfl
   rw [nx];cases hc:decide ((kg b sp bs rg)[i].1 > 0) with
   | true =>
    rw [qR rfl];refine iteT ⟨_,rfl,rfl,by rw [au];exact Nat.succ_le_succ lw,?_⟩;rw [aF];exact dw.append (.cons dx0 .nil)
   | false =>
    rw [qQ aO,cK];exact iteF ⟨rfl,by lia,dw⟩
  ·subst e1
   refine ⟨D2,_,rfl,SqL.of aX,fun p3 H4 S4 h4=>⟨nS,fun q5 H5 S5 h5=>?_⟩⟩;have S35:=(bJ.put (o:= .lst ws) (bJ.refl HC) hD2).trans (S4.trans S5);rw [lzs,bh] at dw;exact k (.ref q5) H5 (S3.trans S35) (.tup h5 (.cons (.str _) (.cons (.tup (S5 _ _ h4) (dw.same S35)) .nil)))
theorem scLeafBy:cp ["net","rings","wait","case","dead","leaf"] pzq (defScope sLeafBy):=by trivial
theorem ok_leafBy (F:Fun K "leaf_by" "leaf_by" sLeafBy f fd)(G1:Fn K mg "dead_leaf" sDeadL pzh f1 fd1)(F1:cR P w K mg base CX0 4 f1 fd1 pzh pf)
  (G2:Fn K mg "price_leaf" pH pzy f2 fd2) (F2:cR P w K mg base CX0 4 f2 fd2 pzy spPriceL)
  (G3:Fn K mg "worth_of" sWorth pzu f3 fd3) (F3:cR P w K mg base CX0 3 f3 fd3 pzu spWorth):cR P w K mg base CX0 5 f fd pzq spLeafBy:=by
 refine F.ok scLeafBy (by contradiction) (fun cdv A outer s H vs Q E hr h=>?_);obtain ⟨v,u,q,w0,b,m,sp,l,rg,rg',c,rl,rfl,hv,N,R,R',hu,dl,cd,ok,k⟩:=h;have hr3:iA 3 _:=hr.mono (by decide);have ff:=R.ff N;have ff':=R'.ff N;have b1:=N.b1;have m2:=N.m2;have fw:=ff.few;refine ⟨_,PSl.h (bg ⟨(psZ 4 scLeafBy.nd (pc1 G1 F1 hr (ak (pv 0) (ak (pv 3) aI))))⟩
  (bg ⟨(kh (dB op_notN (pv 4) mF (fg _)) (dE (cO (pv 4))) gH)⟩
  (bg ⟨(psZ 5 scLeafBy.nd (pc1 G2 F2 hr (ak (pv 0) (ak (pv 1) (ak (ixZ (pv 3)) aI)))))⟩
  (dF ⟨(cO (mm (dB op_ge (pc1 G3 F3 hr3 (ak (pv 0) (ak (ixZ (pv 3)) (ak (pv 5) aI)))) (pv 2) (fg _)) (pv 5) mF))⟩)))),?_⟩
 refine ⟨_,rfl,_,rfl,v,q,b,m,sp,c.1,c.2,rfl,hv,by lia,by have:=N.b2;lia,cd,ok.few,fun z hz=>by rw [ok.ob.len];exact ((ff'.rk z (ok.sub z hz)).rg N (by lia)).inn,fun r H1 S1 hd=>?_⟩
 rcases hd with ⟨rfl,al⟩ | ⟨z,hz,dz,hdz⟩
 rotate_left
 ·have nn:r≠ .non:=fun e=>by rw [e] at dz;cases dz
  refine ⟨_,rfl,rfl,_,rfl,iteB (by rw [qU nn];rfl) ?_⟩;exact ⟨_,rfl,k r H1 S1 (.inl ⟨_,dz,oj z.2,.inl ⟨z.2,rfl,(ff'.rk z (ok.sub z hz)).rg N (by lia),hdz⟩⟩)⟩
 refine ⟨_,rfl,rfl,_,rfl,iteC (by rw [qT rfl];rfl) ?_⟩;obtain ⟨vb,u',rl',a1,a2,a3,a4⟩:=(cd.same S1).ex;refine ⟨_,rfl,_,rfl,_,rfl,q,_,_,_,rfl,rfl,SqT.of a1,aR (j:=0) rfl,v,vb,u,b,m,sp,l,rg,c.1,rl,rfl,hv.same S1,N,ff,S1 _ _ hu,dl.same S1,a2,ok.ob.len,fun r2 H2 S2 d2=>?_⟩;obtain ⟨pok,pfew⟩:=price_ok (bs:=c.1) N ff;refine ⟨_,rfl,_,rfl,q,_,_,_,rfl,rfl,SqT.of (S2 _ _ a1),aR (j:=0) rfl,_,rfl,v,vb,r2,b,m,sp,c.1,oB b sp c.1 rg,rfl,⟨(hv.same S1).same S2,a2.same S2,d2,by lia,by have:=N.b2;lia,ok.ob.len,N.few,ob_bu N ok.ob,N.ws,fun r hr=>⟨(pok r hr).1.inn,(pok r hr).1.one,(pok r hr).1.few,(pok r hr).2.2.1,(pok r hr).2.2.2⟩,by lia⟩,fun H3 S3=>?_⟩;refine ⟨_,rfl,_,_,rfl,rfl,_,rfl,?_⟩;have S03:=S1.trans (S2.trans S3)
 by_cases e:lO b sp c.1 (oB b sp c.1 rg) ≥ w0
 ·exact iteB (qT e) ⟨_,rfl,k r2 H3 S03 (.inl ⟨_,d2.same S3,leafW_price _,.inr ⟨_,rfl,pok,pfew,e⟩⟩)⟩
 ·exact iteC (qU e) (k .non H3 S03 (.inr ⟨rfl,al,by lia⟩))
abbrev sWaitOf:cF:=top 32
abbrev sWaitIn:cF:=top 30
abbrev sWaits:cF:=top 31
theorem oO:cp ["net","table","span","start","goal","least"] pzz (defScope sWaitIn):=by trivial
theorem ok_waitIn (F:Fun K "wait_in" "wait_in" sWaitIn f fd)(G1:Fn K mg "rest_by" sRest pzi f1 fd1):cR P w K mg base CX0 2 f fd pzz spWaitIn:=by
 have F1:cR P w K mg base CX0 1 f1 fd1 pzi spRest:=ok_rest G1.F;refine F.ok oO (by contradiction) (fun cdv A outer s H vs Q E hr h=>?_);obtain ⟨v,u,b,m,sp,ts,i,x,rfl,hv,hu,R,hx,k⟩:=h;obtain ⟨t,p,ys,rfl,ht,hp,hl,hy⟩:=gp hv;obtain ⟨q,hq,hq2⟩:=hy i x hx;obtain ⟨s0,s1,g0,g1⟩:=R.ends x (aY hx);refine ⟨_,PSl.h (bg ⟨(psZ 3 oO.nd (ixZ (fB fm (ixZ (pv 0)) (pv 2) (fun _ _=>rfl))))⟩
  (bg ⟨(psZ 4 oO.nd (ixZ (fB fm (ixZ (pv 0)) (pv 2) (fun _ _=>rfl))))⟩
  (bg ⟨(psZ 5 oO.nd (ixZ (fB fm (ixZ (pv 0)) (pv 2) (fun _ _=>rfl))))⟩
  (dF ⟨(cO (pc1 G1 F1 hr (ak (ixZ (pv 0)) (ak (dv op_sub (dv op_sub (fB fm (pv 1) (pv 4) (fun _ _=>rfl)) (fB fm (pv 1) (pv 3) (fun _ _=>rfl))) (pv 5)) aI))))⟩)))),?_⟩
 refine ⟨_,rfl,t,_,_,_,rfl,rfl,SqT.of ht,aR (j:=2) rfl,_,rfl,p,_,_,_,rfl,rfl,SqT.of hp,aR (j:=i) hq,q,_,_,_,rfl,rfl,SqT.of hq2,aR (j:=0) rfl,?_⟩;refine ⟨_,rfl,t,_,_,_,rfl,rfl,SqT.of ht,aR (j:=2) rfl,_,rfl,p,_,_,_,rfl,rfl,SqT.of hp,aR (j:=i) hq,q,_,_,_,rfl,rfl,SqT.of hq2,aR (j:=1) rfl,?_⟩;refine ⟨_,rfl,t,_,_,_,rfl,rfl,SqT.of ht,aR (j:=2) rfl,_,rfl,p,_,_,_,rfl,rfl,SqT.of hp,aR (j:=i) hq,q,_,_,_,rfl,rfl,SqT.of hq2,aR (j:=2) rfl,?_⟩;refine ⟨_,rfl,t,_,_,_,rfl,rfl,SqT.of ht,aR (j:=0) rfl,?_⟩;refine ⟨_,rfl,_,rfl,u,_,_,_,rfl,rfl,SqT.of hu,tm_at g0 g1,_,rfl,_,rfl,u,_,_,_,rfl,rfl,SqT.of hu,tm_at s0 s1,_,_,rfl,rfl,_,rfl,_,_,rfl,rfl,?_⟩;exact ⟨b,_,rfl,R.b1,k⟩
theorem scWaits:cp pzf pzf (defScope sWaits):=by trivial
theorem ok_waits (F:Fun K "waits_of" "waits_of" sWaits f fd)(T:Nm mg)(T2:Nt mg)(G1:Fn K mg "rest_by" sRest pzi f1 fd1)(G2:Fn K mg "wait_in" sWaitIn pzz f2 fd2):cR P w K mg base CX0 3 f fd pzf spWaits:=by
 have F2:cR P w K mg base CX0 2 f2 fd2 pzz spWaitIn:=ok_waitIn G2.F G1;refine F.ok scWaits (by contradiction) (fun cdv A outer s H vs Q E hr h=>?_);obtain ⟨v,u,b,m,sp,ts,rfl,hv,hu,R,k⟩:=h;obtain ⟨t,p,ys,rfl,ht,hp,hl,hy⟩:=gp hv;refine ⟨_,PSl.h (dF ⟨(cO (i3 kL rfl T.ttup boot_tuple (ak (j9 (fr:=pzf) (js:=[0,1]) rfl (iZ rfl T2.range (ak (dO cz rfl T.len cj (ak (ixZ (pv 0)) aI)) aI)) (by trivial) rfl (by trivial) rfl (by exists sWaits) (by trivial) rfl (by trivial) (fun _ _ _ _ _=>⟨(pc1 G2 F2 hr (ak (pv 1) (ak (pv 2) (ak (pv 0) aI)))),j8⟩)) aI)))⟩),?_⟩;have few:=R.few;refine ⟨_,rfl,t,_,_,_,rfl,rfl,SqT.of ht,aR (j:=2) rfl,p,_,rfl,.inr (SqT.of hp),_,rfl,by lia,by lia,?_⟩;refine mx (n:=((ys.length:Int)).toNat) (fun i zs H2=>H2=H∧zs=(oW b ts (sp.take i)).map V.int) ⟨rfl,rfl⟩ (fun i zs H2 hi ⟨e1,e2⟩=>?_) (by rw [cq,hl];exact fA few) (fun i zs H2 hi ⟨e1,e2⟩=>?_) (fun zs H2 ⟨e1,e2⟩ D hD=>?_)
 ·rw [e2,ae];unfold oW;rw [ae,bH];lia
 ·subst e1
  rw [cq,hl] at hi;refine jo ?_;refine ⟨_,rfl,_,rfl,_,rfl,.ref t,u,b,m,sp,ts,i,sp[i],?_,hv,hu,R,gE hi,rfl,?_⟩
  ·rw [gO];rfl
  ·rw [e2];unfold oW
   rw [bj,gE hi,aF,aF];rfl
 ·subst e1
  refine ⟨D,_,rfl,SqL.of aX,fun p3 H3 S3 h3=>?_⟩;refine k p3 H3 ((bJ.put (bJ.refl H2) hD).trans S3) ?_;rw [h3,e2,cq,hl,bh]
theorem scWaitOf:cp pzf pzf (defScope sWaitOf):=by trivial
theorem ok_waitOf (F:Fun K "wait_of" "wait_of" sWaitOf f fd)(T:Nm mg)(T2:Nt mg)(G1:Fn K mg "waits_of" sWaits pzf f1 fd1)(F1:cR P w K mg base CX0 3 f1 fd1 pzf spWaits):cR P w K mg base CX0 4 f fd pzf spWaitOf:=by
 refine F.ok scWaitOf (by contradiction) (fun cdv A outer s H vs Q E hr h=>?_);obtain ⟨v,u,b,m,sp,ts,rfl,hv,hu,R,hw,k⟩:=h;obtain ⟨t,p,ys,e0,ht,hp,hl,hy⟩:=gp hv;subst e0;refine ⟨_,PSl.h (dF ⟨(cO (dO (call_sum rfl) rfl T2.sum boot_sum (ak (pe_compT (xs:=["span","wait"]) (fr:=[]) (js:=[]) rfl (pi_zip2 rfl T2.zip (ak (ixZ (pv 0)) (ak (pc1 G1 F1 hr (ak (pv 0) (ak (pv 1) aI))) aI))) (by trivial) rfl (by trivial) (by exists sWaitOf) rfl (by trivial) (fun _ _ _ _ _=>pg_two rfl (by trivial) rfl rfl) (fun _ _ _ _ _=>⟨(dv ko (fB (r:=rIxT K) fm (pv 0) bR (fun _ _=>rfl)) (pv 1)),j8⟩)) aI)))⟩),?_⟩;have few:=R.few;refine ⟨_,rfl,t,_,_,_,rfl,rfl,SqT.of ht,aR (j:=2) rfl,_,rfl,_,rfl,_,u,b,m,sp,ts,rfl,hv,hu,R,fun p1 H1 S1 h1=>?_⟩;refine ⟨⟨false,p⟩,⟨false,p1⟩,_,_,rfl,S1 _ _ hp,h1,?_⟩;refine compT_zip2 (K:=K) (c1:=⟨false,p⟩) (c2:=⟨false,p1⟩) (xs:=ys) (ys:=(oW b ts sp).map V.int) (fun i zs H2=>bJ H1 H2∧zs=((sp.take i).map fun x=>x.w * fT b ts x).map V.int) ⟨bJ.refl H1,rfl⟩ (fun i zs H2 hi ⟨S2,e2⟩=>⟨S2 _ _ (S1 _ _ hp),S2 _ _ h1,?_⟩) (by unfold oW;rw [ae,ae,hl]) (by rw [hl];exact fA few) (fun i x y zs pz H2 hx hx' ⟨S2,e2⟩ hpz=>?_) (fun zs H2 ⟨S2,e2⟩ D hD=>?_)
 ·rw [e2,ae,ae,bH];lia
 ·have hi:i<sp.length:=by rw [←hl];exact (av.mp hx).1
  obtain ⟨q,hq,hq2⟩:=hy i sp[i] (gE hi);rw [hx] at hq;cases hq;unfold oW at hx';rw [az,az,gE hi] at hx';cases hx';have S3:bJ H1 (upd H2 pz (.tup [.ref q,.int (fT b ts sp[i])])):=S2.put hpz;generalize upd H2 pz (.tup [.ref q,.int (fT b ts sp[i])])=H3 at S3 ⊢;have hq3:=S3 _ _ (S1 _ _ hq2);obtain ⟨w0,w1⟩:=hw sp[i] (bK hi);refine jo ?_;refine ⟨_,rfl,q,_,_,_,rfl,rfl,SqT.of hq3,aR (j:=4) rfl,_,rfl,_,_,rfl,rfl,.inl ⟨by lia,by lia⟩,S3,?_⟩;rw [e2,bj,gE hi,aF,aF];rfl
 ·refine ⟨D,_,rfl,SqL.of (by rw [e2];exact aX),?_⟩
  have e3:((sp.take ys.length).map fun x=>x.w * fT b ts x).sum=eJ b ts sp:=by
   unfold eJ;rw [hl,bh]
  rw [e3];exact k _ (S1.trans (S2.put hD))
abbrev lL:cF:=top 51
def lamE6:List cF→Expr
 | [_,_,_,_,_,.Return (some (.Tuple [_,_,_,.Call _ [_,e] _ _] _ _)) _]=>e
 | _=> .Constant .none 0 ⟨0,0,0,0⟩
abbrev laB:eS:=lamA5 (lamE6 (eX lL))
abbrev lbB:Expr:=lamB5 (lamE6 (eX lL))
abbrev lsB:eO:=lamS5 (lamE6 (eX lL))
abbrev lqB:Str:=(("best_for" :Str) ++ ".<locals>.") ++ "<lambda>"
theorem LmOk.imp2 {k:Nat}{Hg:Hp→Prop}{sp sp':Sp}(L:LmOk P w K mg base k f Hf sp')(h:∀ H,Hg H→Hf H)(h2:∀ v H Q,Hg H→sp [v] H Q E0→sp' [v] H Q E0):LmOk P w K mg base k f Hg sp:=⟨fun H hh g=>L.isFn H hh (h H g),fun A outer s H u v Q hr e0 g ru hsp=>L.run A outer s H u v Q hr e0 (h H g) ru (h2 v H Q g hsp)⟩
theorem LamT.stayF (k:L2.LamT T lp lq H)(hT:∀ ps,H T=some (.tbl ps)→H' T=some (.tbl ps))(hf:∀ a o u,H a=some (.frz o u)→H' a=some (.frz o u)):L2.LamT T lp lq H':=by
 rcases k with k | ⟨c,k,oc,vs,t,e,r⟩
 ·exact .inl (hT _ k)
 ·exact .inr ⟨c,hT _ k,oc,vs,t,hf _ _ _ e,r⟩
theorem LamG.cutF (F:Fz fz H)(cl:∀ c o,fz c=some o→∃ v,o.data= .cell v)(h:L2.LamG T lq H):L2.LamG T lq (ctF H fz):=by
 obtain ⟨l,e,r⟩:=h;refine ⟨l,F.cut e (fun _ z=>by cases z),fun x hx=>?_⟩;obtain ⟨oc,vs,t,e2,hd,z⟩:=r x hx;refine ⟨oc,vs,t,?_,hd,z⟩;cases q:fz x.2 with
 | none=>rw [gU q];exact e2
 | some o' =>
  obtain ⟨v,hv⟩:=cl _ o' q;rw [F _ o' q] at e2;cases e2;rw [hd] at hv;cases hv
theorem lay_all {m:Int}{rg:List (Nat×List Stp)}{t T:List Int}(N:kd b m sp)(f:FF m sp l rg)(h1:ki b t sp=true)(h2:ki b T sp=true)(e:∀ k∈l,iI b t sp k=iI b T sp k):∀ k,k<sp.length→iI b t sp k=iI b T sp k:=fun k hk=>by
 by_cases c:k∈l
 ·exact e k c
 have hb:0<b:=by have:=N.b1;lia
 have m2:=N.m2;have fw:=f.few;obtain ⟨r,hr⟩:=f.all k hk c;have R:=f.rk _ hr;have rgk:=R.rg N (by lia);obtain ⟨p,ep,P⟩:=R.way;have ep:r=⟨k,1⟩::p:=ep;obtain ⟨x0,al⟩:=rgk.rnd;obtain ⟨Z1,a1⟩:=alg_way (b:=b) (ts:=t) (sp:=sp) r x0 x0 rgk.inn al;obtain ⟨Z2,a2⟩:=alg_way (b:=b) (ts:=T) (sp:=sp) r x0 x0 rgk.inn al;have same:∀ (q:List Stp),(∀ s∈q,s.i∈l)→alg (iI b t sp) q=alg (iI b T sp) q:=fun q=>by
  induction q with
  | nil=>intro _;rfl
  | cons s q ih =>
   intro hs;show s.d * iI b t sp s.i+alg _ q=s.d * iI b T sp s.i+alg _ q;rw [ih fun z hz=>hs z (aw _ hz),e s.i (hs s (by simp))]
 have sp':=same p fun s hs=>(P.inn s hs).1
 rw [ep] at a1 a2;have a1:1 * iI b t sp k+alg (iI b t sp) p=tm t x0 - tm t x0+b * Z1:=a1;have a2:1 * iI b T sp k+alg (iI b T sp) p=tm T x0 - tm T x0+b * Z2:=a2;have i1:=lay_in hb h1 k (by rw [ae];exact hk);have i2:=lay_in hb h2 k (by rw [ae];exact hk);have s:=N.all _ (dQ hk);have eb:(sp.map fun x=>(x.l,x.o)).getD k (0,0)=((sAt sp k).l,(sAt sp k).o):=by
  rw [ah,az,jh hk];rfl
 rw [eb] at i1 i2;have i1:(sAt sp k).l≤iI b t sp k∧iI b t sp k≤(sAt sp k).o:=i1;have i2:(sAt sp k).l≤iI b T sp k∧iI b T sp k≤(sAt sp k).o:=i2;have ob:=s.ob;have d:iI b t sp k - iI b T sp k=b * (Z1 - Z2):=by rw [Int.mul_sub];lia
 rcases Int.lt_or_le 0 (Z1 - Z2) with z | z
 ·have:b * 1≤b * (Z1 - Z2):=gL (by lia) (by lia)
  lia
 ·rcases Int.lt_or_le (Z1 - Z2) 0 with z' | z'
  ·have:b * (Z1 - Z2)≤b * (-1):=gL (by lia) (by lia)
   lia
  ·have:Z1 - Z2=0:=by lia
   rw [this,fZ] at d;lia
theorem wait_same {t T:List Int}(e:∀ k,k<sp.length→iI b t sp k=iI b T sp k):eJ b t sp=eJ b T sp:=by
 rw [wait_sum,wait_sum,←mj,←mj];congr 1;refine ft fun k hk=>?_
 rw [e k (bY.mp hk)]
structure BestA (H:Hp)(q:ai)(b m:Int)(sp:List Sn)(qt:ai)(ts:List Int)(u:V)(t:Tq):Prop where
 q:H q=some (.tup [.str "best",.ref qt,.int (eJ b ts sp),u])
 qt:H qt=some (.tup (ts.map V.int))
 tab:TabOk b m sp ts
 least:∀ T,ki b T sp=true→eJ b ts sp≤eJ b T sp
 tree:IsD H u (kT t)
 pl:pl (kT t)=true
 good:GoodT (RBest b sp (eJ b ts sp)) t (sp.map fun z=>(z.l,z.o)) 21
structure NoneA (H:Hp)(q:ai)(b:Int)(sp:List Sn)(u:V)(t:Tq):Prop where
 q:H q=some (.tup [.str "none",u])
 tree:IsD H u (kT t)
 pl:pl (kT t)=true
 no:∀ T,¬ ki b T sp=true
 good:GoodT (RDead b sp) t (sp.map fun z=>(z.l,z.o)) 21
inductive spBest (T0:ai)(p0:Pos)(q0:Str)(T1:ai)(p1:Pos)(q1:Str)(T2 T3:ai)(vs:List V)(H:Hp)(Q:VK)(_:XK):Prop
 | mk (v:V)(b m:Int)(sp:List Sn)(_:vs=[v])(_:IsD H v (lM b m sp))(_:kd b m sp)(_:(∀ l,iM m.toNat sp l→jJ sp l≤4096))(_:L2.LamT T0 p0 q0 H)(_:L2.LamT T1 p1 q1 H)(_:L2.LamT T2 lpT lqT H)(_:L2.LamG T3 lqB H)(_:∀ (q:ai) (H':Hp),Kp H H'→L2.LamT T0 p0 q0 H'→L2.LamT T1 p1 q1 H'→L2.LamT T2 lpT lqT H'→L2.LamG T3 lqB H'→((∃ u t,NoneA H' q b sp u t)∨∃ qt ts u t,BestA H' q b m sp qt ts u t)→Q (.ref q) H')
theorem mO:cp ["net","found","table","wait","rings"] pza (defScope lL):=by trivial
theorem ok_best {f4 f5 f6 c T2 T3:ai}{fd4 fd5 fd6:bf}(F:Fun K "best_for" "best_for" lL f fd)(hcd:fd.code= .ref c)(CH:dW K c T3=true)(B:BM mg base)(T:Nm mg)(MC:∃ t,mg "MOST_CASES" =some (.int 4096 t))(ne:T0≠T1)(n2:T2≠T0)(n3:T2≠T1)(m0:T3≠T0)(m1:T3≠T1)(m2:T3≠T2)
  (G1:Fn K mg "table_for" jk pza f1 fd1) (F1:cR P w K mg base CX0 12 f1 fd1 pza (o9 T0 p0 q0 T1 p1 q1 T2))
  (G2:Fn K mg "tables_that_fit" sTabF pzk f2 fd2) (F2:cR P w K mg base CX0 11 f2 fd2 pzk (spTabF T0 p0 q0 T1 p1 q1))
  (G3:Fn K mg "tree_by" sTreeB pzl f3 fd3) (F3:cR P w K mg base CX0 11 f3 fd3 pzl (oK P w K mg base T0 p0 q0 T1 p1 q1))
  (G4:Fn K mg "leaf_by" sLeafBy pzq f4 fd4) (F4:cR P w K mg base CX0 5 f4 fd4 pzq spLeafBy)
  (G5:Fn K mg "wait_of" sWaitOf pzf f5 fd5) (F5:cR P w K mg base CX0 4 f5 fd5 pzf spWaitOf)
  (G6:Fn K mg "rings_of" pG pza f6 fd6) (F6:cR P w K mg base CX0 8 f6 fd6 pza (oM T0 p0 q0)):cR P w K mg base CX0 13 f fd pza (spBest T0 p0 q0 T1 p1 q1 T2 T3):=by
 refine okC F hcd mO (by contradiction) (fun A outer s H vs Q E hr h=>?_);obtain ⟨v,b,m,sp,rfl,hv,N,hc,hT0,hT1,hT2,hT3,k⟩:=h;have hr4:iA 4 _:=hr.mono (by decide);have hr8:iA 8 _:=hr.mono (by decide);have hr11:iA 11 _:=hr.mono (by decide);refine ⟨_,PSl.h (bg ⟨(psZ 1 mO.nd (pc1 G1 F1 hr (ak (pv 0) aI)))⟩
  (bg ⟨(kh (dB qk (ixZ (pv 1)) mE (fg _)) (dE (cO (pv 1))) gH)⟩
  (bg ⟨(psZ 2 mO.nd (pe_minL (js:=[0]) (fr:=pza) (x := "other") (c:=c) (P:=T3) rfl hr.depth rfl T.min (pc1 G2 F2 hr11 (ak (pv 0) (ak (pe_gint MC) aI))) rfl rfl CH B (fun _ _ _ _ _ _=>rfl) rfl rfl rfl (by trivial) rfl (by decide) (by exists lL) rfl (by trivial)
   (fun cl L f' cd s' H'=>pc1 G5 F5 (((hr.in1).in1).deeper _ |>.mono (by decide)) (ak (pv 1) (ak (pv 0) aI)))))⟩
  (bg ⟨(psZ 3 mO.nd (pc1 G5 F5 hr4 (ak (pv 0) (ak (pv 2) aI))))⟩
  (bg ⟨(psZ 4 mO.nd (pc1 G6 F6 hr8 (ak (pv 0) aI)))⟩
  (dF ⟨(cO (dU (ak mE (ak (pv 2) (ak (pv 3) (ak (pe_callZ (scope:=lsB) (fr:=["net","rings","wait"]) (js:=[0,4,3]) F3 hr11 (fun _=>rfl) rfl G3.mg G3.F.kp G3.b rfl (by trivial) (by exists lL) (ak (pv 0) (ak (pe_lamG (T:=T3) rfl rfl CH B (by exists lL)) aI))) aI))))))⟩)))))),?_⟩
 obtain ⟨ps0,et0⟩:=LamT.tbl hT0;obtain ⟨ps1,et1⟩:=LamT.tbl hT1;obtain ⟨ps2,et2⟩:=LamT.tbl hT2;refine ⟨_,rfl,v,b,m,sp,rfl,hv,N,hc,hT0,hT1,hT2,fun q H1 st1 kp1 hT01 hT11 hT21 ans=>?_⟩;have hT31:L2.LamG T3 lqB H1:=hT3.stay (fun ps e=>st1 _ _ m0 m1 m2 e) fun a o u e=>st1 _ _ (d7 e et0 nofun) (d7 e et1 nofun) (d7 e et2 nofun) e
 have hv1:=cw kp1.tup hv
 rcases ans with ⟨qt0,t0,hq,hqt,tok0⟩ | ⟨u,t,hq,du,plu,nof,gd⟩
 rotate_left
 ·refine ⟨_,rfl,q,_,_,_,rfl,rfl,SqT.of hq,aR (j:=0) rfl,rfl,_,rfl,iteB (qT rfl) ?_⟩
  exact ⟨_,rfl,k q H1 kp1 hT01 hT11 hT21 hT31 (.inl ⟨u,t,hq,du,plu,nof,gd⟩)⟩
 refine ⟨_,rfl,q,_,_,_,rfl,rfl,SqT.of hq,aR (j:=0) rfl,rfl,_,rfl,iteC (qU nofun) ?_⟩;obtain ⟨qs0,eu0⟩:=LamT.tbl hT01;obtain ⟨qs1,eu1⟩:=LamT.tbl hT11;refine ⟨_,rfl,v,b,m,sp,4096,rfl,hv1,N,by decide,hc,hT01,hT11,fun L tv l rg Ts H2 st2 kp2 hT02 hT12 hL dL R tabs few hold=>?_⟩;have fz2:∀ a o u,H1 a=some (.frz o u)→H2 a=some (.frz o u):=fun a o u e=>st2 _ _ (d7 e eu0 nofun) (d7 e eu1 nofun) e
 have hT22:L2.LamT T2 lpT lqT H2:=LamT.stayF hT21 (fun ps e=>st2 _ _ n2 n3 e) fz2;have hT32:L2.LamG T3 lqB H2:=hT31.stay (fun ps e=>st2 _ _ m0 m1 e) fz2;have hv2:=cw kp2.tup hv1;have ff:=R.ff N;have holdA:=hold (.inr rfl);have ltv:tv.length=Ts.length:=by rw [dL.length];unfold fJ;rw [ae]
 have hne:tv≠[]:=fun z=>by
  obtain ⟨t,ht,_⟩:=holdA t0 tok0.2.2;rw [z] at ltv;rw [gC.mp ltv.symm] at ht;cases ht
 have nm1:=N.m1;have rdyT:∀ t∈Ts,Rdy b t sp:=fun t ht=>N.rdy (by have:=(tabs t ht).1;lia)
 have getT:∀ (i:Nat) x,tv[i]? =some x→∃ qx,x= .ref qx∧H2 qx=some (.tup ((Ts.getD i []).map V.int))∧Ts.getD i []∈Ts:=fun i x hx=>by
  have hi:i<Ts.length:=by rw [←ltv];exact (av.mp hx).1
  obtain ⟨d,ed,dx⟩:=dL.get hx;unfold fJ at ed;rw [az,gE hi] at ed;cases ed;obtain ⟨qx,xs,rfl,hqx,rx⟩:=dx.tup_of;have:=rx.ints_of;subst this;have e:Ts.getD i []=Ts[i]:=by rw [ah,gE hi];rfl
  rw [e];exact ⟨qx,rfl,hqx,bK hi⟩
 obtain ⟨qs3,eu3⟩:=hT32.tbl;refine ⟨L,tv,fun i=>eJ b (Ts.getD i []) sp,rfl,hL,hne,hT32,fun i x hx H3 tb=>?_,fun H4 i x tb4 hT34 hx mini=>?_⟩
 ·obtain ⟨qx,rfl,hqx,memx⟩:=getT i x hx
  have nqx:qx≠T3:=d7 hqx eu3 nofun;refine ⟨_,rfl,_,rfl,v,qx,b,m,sp,_,rfl,cw (fun a xs e=>tb _ _ (d7 e eu3 nofun) e) hv2,tb _ _ nqx hqx,rdyT _ memx,N.ws,fun H' S'=>⟨S',rfl⟩⟩
 obtain ⟨qx,rfl,hqx,memx⟩:=getT i x hx;obtain ⟨ts,ets⟩:∃ ts,ts=Ts.getD i []:=⟨_,rfl⟩;have mini:∀ j,j<tv.length→eJ b (Ts.getD i []) sp≤eJ b (Ts.getD j []) sp:=mini;rw [←ets] at hqx memx mini;have tok:=tabs ts memx;have kp4:Kp H2 H4:=⟨fun a xs e=>tb4 _ _ (d7 e eu3 nofun) e,fun a xs e=>tb4 _ _ (d7 e eu3 nofun) e,fun a _ xs e=>tb4 _ _ (d7 e eu3 nofun) e⟩;have least:∀ T',ki b T' sp=true→eJ b ts sp≤eJ b T' sp:=fun T' hT'=>by
  obtain ⟨t',ht',el⟩:=holdA T' hT';rw [←wait_same (lay_all N ff (tabs t' ht').2.2 hT' el)];obtain ⟨j,hj,rfl⟩:=List.mem_iff_getElem.mp ht';have:=mini j (by lia);have e:Ts.getD j []=Ts[j]:=by rw [ah,gE hj];rfl
  rw [e] at this;exact this
 have fz4:∀ a o u,H2 a=some (.frz o u)→H4 a=some (.frz o u):=fun a o u e=>tb4 _ _ (d7 e eu3 nofun) e
 have hT04:L2.LamT T0 p0 q0 H4:=LamT.stayF hT02 (fun ps e=>tb4 _ _ (bX m0) e) fz4;have hT14:L2.LamT T1 p1 q1 H4:=LamT.stayF hT12 (fun ps e=>tb4 _ _ (bX m1) e) fz4;have hT24:L2.LamT T2 lpT lqT H4:=LamT.stayF hT22 (fun ps e=>tb4 _ _ (bX m2) e) fz4;have hv4:=cw kp4.tup hv2;have hqx4:=kp4.tup _ _ hqx;refine ⟨_,rfl,_,rfl,v,qx,b,m,sp,ts,rfl,hv4,hqx4,rdyT ts memx,N.ws,fun H5 S5=>?_⟩;obtain ⟨w0,ew0⟩:∃ w0,w0=eJ b ts sp:=⟨_,rfl⟩;rw [←ew0];refine ⟨_,rfl,v,b,m,sp,rfl,hv4.same S5,N,LamT.same S5 hT04,fun u6 rl l6 rg6 H6 tb6 hT06 fr6 hu6 dl6 R6=>?_⟩;have hT05:=LamT.same S5 hT04;obtain ⟨qs5,eu5⟩:=LamT.tbl hT05;have kp6:Kp H5 H6:=Tb.kp hT05 tb6;have fz6:∀ a o u,H5 a=some (.frz o u)→H6 a=some (.frz o u):=fun a o u e=>tb6 _ _ (d7 e eu5 nofun) e
 have hT16:L2.LamT T1 p1 q1 H6:=LamT.stayF (LamT.same S5 hT14) (fun ps e=>tb6 _ _ (bX ne) e) fz6;have hT26:L2.LamT T2 lpT lqT H6:=LamT.stayF (LamT.same S5 hT24) (fun ps e=>tb6 _ _ n2 e) fz6;have hT36:L2.LamG T3 lqB H6:=(hT34.same S5).stay (fun ps e=>tb6 _ _ m0 e) fz6;have hv6:=cw kp6.tup (hv4.same S5);have hqx6:=kp6.tup _ _ (S5 _ _ hqx4);refine ⟨_,rfl,_,rfl,_,rfl,hT36,fun g cl' H7 tb7 hT37 LF LE=>⟨cl',[v,.ref u6,.int w0],LE,rfl,fun fz C0 N0=>?_⟩⟩;obtain ⟨qs6,eu6⟩:=hT36.tbl;have fz7:∀ a o u,H6 a=some (.frz o u)→H7 a=some (.frz o u):=fun a o u e=>tb7 _ _ (d7 e eu6 nofun) e
 have kp7:Kp H6 H7:=⟨fun a xs e=>tb7 _ _ (d7 e eu6 nofun) e,fun a xs e=>tb7 _ _ (d7 e eu6 nofun) e,fun a _ xs e=>tb7 _ _ (d7 e eu6 nofun) e⟩;have SP:=oQ N0;have hT08:L2.LamT T0 p0 q0 (ptF H7 fz):=LamT.same SP (LamT.stayF hT06 (fun ps e=>tb7 _ _ (bX m0) e) fz7);have hT18:L2.LamT T1 p1 q1 (ptF H7 fz):=LamT.same SP (LamT.stayF hT16 (fun ps e=>tb7 _ _ (bX m1) e) fz7);have hT28:L2.LamT T2 lpT lqT (ptF H7 fz):=LamT.same SP (LamT.stayF hT26 (fun ps e=>tb7 _ _ (bX m2) e) fz7);have hT38:L2.LamG T3 lqB (ptF H7 fz):=hT37.same SP;have LF:LamF lqB laB lbB lsB cl' g H7:=LF;have LF8:=LF.same SP;have hv8:=(cw kp7.tup hv6).same SP;have hu8:ptF H7 fz u6=some (.lst rl):=SP _ _ (kp7.lst _ _ hu6);have dl8:dM (ptF H7 fz) rl (rg6.map wayQ):=(wayQ_kp kp7 dl6).same SP;obtain ⟨qs8,eu8⟩:=LamT.tbl hT08;obtain ⟨qt8,ev8⟩:=LamT.tbl hT18;have nm2:=N.m2;have LM:LmOk P w K mg base 6 g (qg T0 T1 (ptF H7 fz)) (oN v b m sp (RBest b sp w0)):=by
  refine LmOk.imp2 (sp':=fun vs Hx Qx E=>(Hx u6=some (.lst rl)∧dM Hx rl (rg6.map wayQ))∧oN v b m sp (RBest b sp w0) vs Hx Qx E) (lam_run (k:=5) (q:=lqB) (params:=laB) (body:=lbB) (scope:=lsB) (cl:=cl') (fz:=fz) (x := "case") (fr:=["net","rings","wait"]) (ws:=[v,.ref u6,.int w0]) (fun _ _ _ _=>rfl) rfl rfl rfl (by trivial) rfl (by decide) C0 (fun y hy hf=>?_) (by trivial) (fun L' cd A' outer' s' H' hr'=>pc1 G4 F4 hr' (ak (pv 1) (ak (pv 2) (ak (pv 3) (ak (pv 0) aI))))) (fun v' Hx Qx _ Zx hsp=>?_)) (fun Hx st=>?_) fun v' Hx Qx st hsp=>⟨⟨?_,?_⟩,hsp⟩
  ·have e:y.1 = "net" ∨y.1 = "rings" ∨y.1 = "wait" := (by trivial:∀ y:Str×cu,y∈lsB.names→y.2=cu.free→y.1 = "net" ∨y.1 = "rings" ∨y.1 = "wait") y hy hf
   rcases e with e | e | e
   ·obtain ⟨cc,_,_,ec,_⟩:=C0.val 0 "net" v rfl rfl
    exact ⟨cc,by rw [e];exact ec⟩
   ·obtain ⟨cc,_,_,ec,_⟩:=C0.val 1 "rings" (.ref u6) rfl rfl
    exact ⟨cc,by rw [e];exact ec⟩
   ·obtain ⟨cc,_,_,ec,_⟩:=C0.val 2 "wait" (.int w0) rfl rfl
    exact ⟨cc,by rw [e];exact ec⟩
  ·obtain ⟨⟨hux,dlx⟩,l2,rg2,q2,c2,e2,R2,cd2,ok2,hvx,kk⟩:=hsp
   cases e2;have KX:=ctF_kp Zx;have el:l2=l6:=iM.one R2.fr R6.fr;subst el;have f6:=R6.ff N;have f2:=R2.ff N;refine ⟨_,rfl,_,rfl,_,rfl,_,rfl,v,u6,q2,w0,b,m,sp,l2,rg6,rg2,c2,rl,rfl,cw KX.tup hvx,N,R6,R2,KX.lst _ _ hux,wayQ_kp KX dlx,cd2.kp KX,ok2,fun r H' S' ans fr'=>?_⟩;refine kk r _ (ptF_back Zx S') ?_
   rcases ans with ⟨d,dd,dw,rb⟩ | ⟨rfl,al,lt⟩
   ·exact .inl ⟨d,IsD.keepP (bJ.tupK (oQ fr')) dd dw.1,dw,rb⟩
   ·refine .inr ⟨rfl,al,eE fun nz=>?_⟩
    have ht2:=f2.acy.nodup.2;have fix:∀ j∈l2,(c2.1.getD j (0,0)).1=(c2.1.getD j (0,0)).2:=fun j hj=>by
     have h1:=(ok2.ob.lo j (ht2 j hj)).2.1;have h2:¬ ((c2.1.getD j (0,0)).1<(c2.1.getD j (0,0)).2):=fun z=>nz ⟨j,hj,z⟩
     lia
    obtain ⟨ts',hf',hw'⟩:=price_tight N f6 ok2.ob (fx_other N f6 f2 ok2.ob ⟨fix,ok2.all al⟩);have:=least ts' hf';lia
  ·have fz':∀ a o u,ptF H7 fz a=some (.frz o u)→Hx a=some (.frz o u):=fun a o u e=>st a _ (d7 e eu8 nofun) (d7 e ev8 nofun) e
   obtain ⟨pm,cd,ct,e,oc,vs,t,ec,r⟩:=LF8;exact ⟨⟨pm,cd,ct,fz' _ _ _ e,oc,vs,t,fz' _ _ _ ec,r⟩,fun a o z=>fz' _ _ _ (pM z)⟩
  ·exact st _ _ (d7 hu8 eu8 nofun) (d7 hu8 ev8 nofun) hu8
  ·exact dM.keepP (fun a xs e=>st _ _ (d7 e eu8 nofun) (d7 e ev8 nofun) e) dl8 (lx rg6 fun q _=>mQ _ _)
 refine ⟨v,g,b,m,sp,RBest b sp w0,rfl,hv8,N,hc,hT08,hT18,LM,fun u t H9 st9 kp9 hT09 hT19 du plu gd Z9=>?_⟩;have KC:=ctF_kp Z9;have fz9:∀ a o u,ptF H7 fz a=some (.frz o u)→H9 a=some (.frz o u):=fun a o u e=>st9 _ _ (d7 e eu8 nofun) (d7 e ev8 nofun) e
 have hT29:L2.LamT T2 lpT lqT H9:=LamT.stayF hT28 (fun ps e=>st9 _ _ n2 n3 e) fz9;have hT39:L2.LamG T3 lqB H9:=hT38.stay (fun ps e=>st9 _ _ m0 m1 e) fz9;refine ⟨szZ4,fun qa HA SA hA=>?_⟩;have kpA:Kp H HA:=kp1.trans (kp2.trans (kp4.trans ((bJ.kp S5).trans (kp6.trans (kp7.trans ((bJ.kp SP).trans (kp9.trans (KC.trans (bJ.kp SA)))))))));have hqxA:HA qx=some (.tup (ts.map V.int)):=SA _ _ (KC.tup _ _ (kp9.tup _ _ (SP _ _ (kp7.tup _ _ hqx6))));refine k qa HA kpA (LamT.same SA (LamT.cutF Z9 C0.cell hT09)) (LamT.same SA (LamT.cutF Z9 C0.cell hT19)) (LamT.same SA (LamT.cutF Z9 C0.cell hT29)) ((LamG.cutF Z9 C0.cell hT39).same SA) (.inr ⟨qx,ts,u,t,?_,hqxA,tok,least,(IsD.keepP KC.tup du plu).same SA,plu,?_⟩)
 ·rw [←ew0];exact hA
 ·rw [←ew0];exact gd
end HN
namespace L2
open PySem PySem.Spec PyProof.Rows
theorem i7.seat (x:i7 P w H h a o):∃ u,h.get? a=some u:=by
 cases o with
 | lst xs=>obtain ⟨_,_,_,_,e⟩:=x;exact ⟨_,e⟩
 | tup xs=>obtain ⟨_,_,_,u,e,_⟩:=x;exact ⟨u,e⟩
 | dK kvs=>obtain ⟨_,_,_,_,u,_,_,e,_⟩:=x;exact ⟨u,e⟩
 | dT kvs=>obtain ⟨_,_,_,_,u,_,_,e,_⟩:=x;exact ⟨u,e⟩
 | set S n=>obtain ⟨u,_,_,_,e,_⟩:=x;exact ⟨u,e⟩
 | ins C dx fs=>obtain ⟨_,_,_,e,_⟩:=x;exact ⟨_,e⟩
 | own y=>exact x
 | xd fs=>obtain ⟨_,⟨u,_,_,e,_⟩,_⟩:=x;exact ⟨u,e⟩
 | rng lo hi=>obtain ⟨_,_,_,e⟩:=x;exact ⟨_,e⟩
 | frz ob u=>exact ⟨_,x.1⟩
 | tbl ps=>exact ⟨_,(show h.get? a=some _ from x)⟩
 | met f y=>exact ⟨_,(show h.get? a=some _ from x)⟩
 | ext φ=>exact x.2.1
structure nR (B:bz)(l:List Env)(x:ai)(cls:aa)(dct:Option ai)(h:bz):Prop where
 st:B.StaysIn h
 no:B.get? x=none
 fr:h.FunFrames B l
 tr:∃ a0 fl,h.TracedAtW B x cls a0 fl
 dc:∃ o,h.get? x=some o∧o.dict=dct
theorem mG (f:Array aa→Array aa)(o:Obj):(gf f o).dict=o.dict:=by
 obtain ⟨a,b,c,d⟩:=o;cases c <;> rfl
section
variable {l:List Env}{L x:ai}{cls:aa}
theorem entry_any {us:Array aa}{top z0:aa}{nx:Bool}{Q:Unit→ao→Prop}(hfr:A.frames=some (env::outer))(fr:s.heap.FunFrames B (env::outer))(hf:env.frame=some L)(e1:s.heap.get? x=some ox)(st:B.StaysIn s.heap)(no:B.get? x=none)
  (ed:ox.data= .fields us) (big:1<us.size) (e0:us[0]? =some z0) (q:∀ g,nR B (env::outer) x ox.cls ox.dict g→s.heap.UpToSlots g→Q () { s with heap:=g }) :
  aJ M A (do let a ← frameOf env;let pl ← entryPlaceOf L nx;let b ← EntryCells.newEntry top a .none (gM L) .none pl;setField (.ref x) 1 b) Q E s:=by
 have away:x ∉ (env::outer).filterMap (·.frame):=by
  intro z;obtain ⟨_,o,p,r⟩:=fr.mem z;rw [e1] at p;cases p;exact r us ed
 refine af (wpAny_frameOf_fun hfr fr hf fun h1 k1=>af (wpAny_entryPlaceOf fun pl isp=>?_));unfold EntryCells.newEntry newFields;refine af (dN ?_ (isp.sizeOk5 _ _ _ _ _));have x1:h1.get? x=some ox:=(k1.2.1 x away).trans e1;have st1:B.StaysIn h1:=fun b o p=>(k1.2.1 b fun z=>by rw [(fr.mem z).1] at p;cases p).trans (st b o p)
 generalize hT:({ cls:= .type "traceback",dict:=none,data:= .fields ([top,.ref L,.none,gM L,.none]++(if pl.isEmpty then bC 6 aa.none else pl)).toArray }:Obj)=T;have dT:T.data= .fields ([top,.ref L,.none,gM L,.none]++(if pl.isEmpty then bC 6 aa.none else pl)).toArray:=by rw [←hT]
 have x2:=ar (h:=h1) T x1;have far:h1.objs.size≠x:=cy (aE x1);have d3:=fO ed (·.setIfInBounds 1 (aa.ref h1.objs.size));have x3:=eR (gf (·.setIfInBounds 1 (aa.ref h1.objs.size))) x2 (jL d3);have t3:=(cU (h1.push T) (gf (·.setIfInBounds 1 (aa.ref h1.objs.size))) far.symm).trans (aU h1 (by rw [←hT];rfl));have stay:∀ b o,b≠x→h1.get? b=some o→((h1.push T).update x (gf (·.setIfInBounds 1 (aa.ref h1.objs.size)))).get? b=some o:=fun b o n p=>by
  rw [cU _ _ n.symm];exact ar _ p
 have notx:∀ b o,s.heap.get? b=some o→(∀ vs,o.data≠ .fields vs)→b≠x:=fun b o p r z=>by
  rw [z,e1] at p;cases p;exact r us ed
 refine jO x2 ed big (q _ ⟨fun b o p=>stay b o (fun z=>by rw [z,no] at p;cases p) (st1 b o p),no,fr.of_keeps fun b o p r=>?_,⟨z0,gM L,?_⟩,⟨_,x3,mG _ _⟩⟩ fun b o p r=>?_)
 ·obtain ⟨sl,p2⟩:=k1.2.2 b o p
  exact ⟨_,stay b _ (notx b o p r) p2,rfl⟩
 ·exact ⟨_,_,h1.objs.size,T,_,x3,⟨Obj.cls_mapFields _ _,by rw [Array.getElem?_setIfInBounds_ne (by decide)];exact e0⟩,d3,by simp [big],st1.fresh,far,t3,dT,by first | (simp;done) | (rcases isp with rfl | ⟨_,_,_,_,_,_,_,rfl⟩ <;> simp)⟩
 ·obtain ⟨sl,p2⟩:=k1.2.2 b o p
  exact ⟨sl,stay b _ (notx b o p r) p2⟩
theorem note_any {Q:Unit→ao→Prop}(hfr:A.frames=some (env::outer))(hf:env.frame=some L)(a:nR B (env::outer) x cls dct s.heap)
  (q:∀ g,nR B (env::outer) x cls dct g→s.heap.UpToSlots g→Q () { s with heap:=g }):aJ M A (noteFrame (.ref x) env) Q E s:=by
 obtain ⟨a0,fl,ht⟩:=a.tr
 by_cases hfl:fl=gM L
 ·subst hfl
  exact wpAny_noteFrame_againW hf ht (q s.heap a (bz.UpToSlots.refl _))
 ·obtain ⟨ox,vx,T,ot,vt,e1,⟨ec,e0⟩,e2,e3,n1,n2,e4,e5,e6⟩:=ht
  subst ec;obtain ⟨ox',e1',ed⟩:=a.dc;rw [e1] at e1';cases e1';subst ed;unfold noteFrame;simp only [hf];refine af (cG e1 e2 e3 ?_);rw [qR (by simp:(aa.ref T != aa.none)=true)];refine af (cG e4 e5 e6 ?_);rw [qQ (by intro z;exact hfl (eq_of_beq z))];refine af (jO e4 e5 (eh.mp e6).1 ?_);have away:∀ b,b≠T→(s.heap.update T (gf (·.setIfInBounds 3 aa.none))).get? b=s.heap.get? b:=fun b hb=>cU _ _ hb.symm
  have apart:∀ b o,s.heap.get? b=some o→(∀ vs,o.data≠ .fields vs)→b≠T:=fun b o hb hn z=>by
   rw [z,e4] at hb;cases hb;exact hn vt e5
  refine entry_any (s:={ s with heap:=s.heap.update T (gf (·.setIfInBounds 3 aa.none)) }) hfr (a.fr.of_keeps fun b o hb hn=>⟨o,(away b (apart b o hb hn)).trans hb,rfl⟩) hf ((away x n2.symm).trans e1) (fun b o hb=>(away b fun z=>by rw [z,n1] at hb;cases hb).trans (a.st b o hb)) a.no e2 (eh.mp e3).1 e0 fun g hg u=>?_
  exact q g hg fun b o hb hn=>u b o ((away b (apart b o hb hn)).trans hb) hn
theorem set_any {fr:Option ai}{Q:Unit→ao→Prop}(a:nR B l x cls dct s.heap)(q:∀ g,nR B l x cls dct g→s.heap.UpToSlots g→Q () { s with heap:=g }):aJ M A (setFlight (.ref x) fr) Q E s:=by
 obtain ⟨a0,fl,ht⟩:=a.tr;obtain ⟨ox,vx,T,ot,vt,e1,ec,e2,e3,n1,n2,e4,e5,e6⟩:=ht;have s3:3<vt.size:=(eh.mp e6).1;have away:∀ b,b≠T→(s.heap.update T (gf (·.setIfInBounds 3 (fr.elim aa.none fun f=>gM f)))).get? b=s.heap.get? b:=fun b hb=>cU _ _ hb.symm
 have apart:∀ b o,s.heap.get? b=some o→(∀ vs,o.data≠ .fields vs)→b≠T:=fun b o hb hn z=>by
  rw [z,e4] at hb;cases hb;exact hn vt e5
 unfold setFlight;refine af (cG e1 e2 e3 ?_);rw [qR (by simp:(aa.ref T != aa.none)=true)];refine jO e4 e5 s3 (q _ ⟨fun b o hb=>(away b fun z=>by rw [z,n1] at hb;cases hb).trans (a.st b o hb),a.no,a.fr.of_keeps fun b o hb hn=>⟨o,(away b (apart b o hb hn)).trans hb,rfl⟩,⟨a0,fr.elim aa.none fun f=>gM f,?_⟩,?_⟩ fun b o hb hn=>⟨o.slots,(away b (apart b o hb hn)).trans hb⟩)
 ·exact ⟨ox,vx,T,_,_,(away x n2.symm).trans e1,ec,e2,e3,n1,n2,eR _ e4 (jL (fO e5 _)),fO e5 _,by simp [s3]⟩
 ·obtain ⟨o,p,r⟩:=a.dc
  exact ⟨o,(away x n2.symm).trans p,r⟩
theorem leave_any {Q:Unit→ao→Prop}(hfr:A.frames=some (env::outer))(hf:env.frame=some L)(a:nR B (env::outer) x cls dct s.heap)(q:∀ g,nR B outer x cls dct g→s.heap.UpToSlots g→Q () { s with heap:=g }) :
  aJ M A (leaving env (.ref x)) Q E s:=by
 unfold leaving;refine af (note_any hfr hf a fun g hg u=>?_);refine set_any (s:={ s with heap:=g }) hg fun g2 a2 u2=>?_
 exact q g2 ⟨a2.st,a2.no,a2.fr.2.2,a2.tr,a2.dc⟩ (u.trans u2)
theorem first_any {us:Array aa}{z0:aa}{Q:Unit→ao→Prop}(hfr:A.frames=some (env::outer))(fr:s.heap.FunFrames B (env::outer))(hf:env.frame=some L)(e1:s.heap.get? x=some ox)(st:B.StaysIn s.heap)(no:B.get? x=none)
  (ed:ox.data= .fields us) (en:us[1]? =some .none) (e0:us[0]? =some z0) (q:∀ g,nR B outer x ox.cls ox.dict g→s.heap.UpToSlots g→Q () { s with heap:=g }):aJ M A (leaving env (.ref x)) Q E s:=by
 unfold leaving noteFrame;simp only [hf];refine af (af (cG e1 ed en ?_));rw [qQ (by decide)];refine entry_any hfr fr hf e1 st no ed (eh.mp en).1 e0 fun g hg u=>?_
 refine set_any (s:={ s with heap:=g }) hg fun g2 a2 u2=>?_
 exact q g2 ⟨a2.st,a2.no,a2.fr.2.2,a2.tr,a2.dc⟩ (u.trans u2)
end
structure Air (P:aN)(w:bp)(fs ex:List ai)(H0:Hp)(h0 B:bz)(H':Hp)(h:bz):Prop where
 hok:HOk P w H' B
 keep:∀ b o,h0.get? b=some o→H0 b=none→b ∉ fs→b ∉ ex→B.get? b=some o
 there:∀ b o,h0.get? b=some o→b ∉ fs→b ∉ ex→∃ o',B.get? b=some o'
 free:∀ b o,h0.get? b=some o→H0 b=none→b ∉ ex→H' b=none
 tups:∀ b xs,H0 b=some (.tup xs)→H' b=some (.tup xs)
 frzs:∀ b o u,H0 b=some (.frz o u)→H' b=some (.frz o u)
 tbls:∀ b ps,H0 b=some (.tbl ps)→∃ more,H' b=some (.tbl (ps++more))
 slot:∀ b o,h0.get? b=some o→H0 b=none→b∈fs→b ∉ ex→∃ sl,h.get? b=some { o with slots:=sl }
section
variable {fs:List ai}{h0 h2:bz}
theorem Air.un (a:Air P w fs ex H0 h0 B H' h)(st:B.StaysIn h)(frf:∀ b∈fs,H0 b=none):Un fs ex H0 H' h0 h where
 keep:=fun b o e n hb hx=>st b o (a.keep b o e n hb hx)
 slot:=fun b o e n hb hx=>a.slot b o e n hb hx
 free:=fun b o e n hx=>a.free b o e n hx
 there:=fun b o e hx=>by
  by_cases hb:b∈fs
  ·obtain ⟨sl,q⟩:=a.slot b o e (frf b hb) hb hx
   exact ⟨_,q⟩
  ·obtain ⟨o',q⟩:=a.there b o e hb hx
   exact ⟨o',st b o' q⟩
 tups:=a.tups
 frzs:=a.frzs
 tbls:=a.tbls
theorem Air.up {l:List Env}{B':bz}(a:Air P w (frs l) ex H0 h0 B H' h)(fr:h.FunFrames B' l)(u:h.UpToSlots h2):Air P w (frs l) ex H0 h0 B H' h2 :=
 ⟨a.hok,a.keep,a.there,a.free,a.tups,a.frzs,a.tbls,fun b o e n hb hx=>by
  obtain ⟨sl,q⟩:=a.slot b o e n hb hx;obtain ⟨_,o2,q2,hn⟩:=fr.mem hb;rw [q] at q2;cases q2;obtain ⟨sl2,q3⟩:=u b _ q hn;exact ⟨sl2,q3⟩⟩
theorem Air.after {fs' ex':List ai}{h1:bz}(u:Un fs' ex' H0 H1 h0 h1)(a:Air P w fs ex H1 h1 B H' h)(hf:∀ b o,h0.get? b=some o→b ∉ fs'→b ∉ fs)(hi:∀ b o,h0.get? b=some o→b∈fs'→b∈fs)(hx:∀ b o,h0.get? b=some o→b ∉ ex'→b ∉ ex):Air P w fs' ex' H0 h0 B H' h:=by
 refine ⟨a.hok,fun b o e n hb hxx=>?_,fun b o e hb hxx=>?_,fun b o e n hxx=>?_,fun b xs e=>a.tups b xs (u.tups b xs e),fun b o u' e=>a.frzs b o u' (u.frzs b o u' e),fun b ps e=>?_,fun b o e n hb hxx=>?_⟩
 ·exact a.keep b o (u.keep b o e n hb hxx) (u.free b o e n hxx) (hf b o e hb) (hx b o e hxx)
 ·obtain ⟨o',e'⟩:=u.there b o e hxx
  exact a.there b o' e' (hf b o e hb) (hx b o e hxx)
 ·obtain ⟨o',e'⟩:=u.there b o e hxx
  exact a.free b o' e' (u.free b o e n hxx) (hx b o e hxx)
 ·obtain ⟨m1,e1⟩:=u.tbls b ps e
  obtain ⟨m2,e2⟩:=a.tbls b _ e1;exact ⟨m1++m2,by rw [e2,Array.append_assoc]⟩
 ·obtain ⟨sl,e1⟩:=u.slot b o e n hb hxx
  obtain ⟨sl2,e2⟩:=a.slot b _ e1 (u.free b o e n hxx) (hi b o e hb) (hx b o e hxx);exact ⟨sl2,e2⟩
end
def CXE (P:aN)(w:bp)(ex:List ai):CXT:=fun outer H s E e s'=>∃ (x:ai) (cls:aa) (dct:Option ai) (B:bz) (H':Hp),e= .ref x∧s'.os=s.os∧AllBare s'.gens∧nR B outer x cls dct s'.heap∧Air P w (frs outer) ex H s.heap B H' s'.heap∧E cls dct H'
abbrev CXN (P:aN)(w:bp):CXT:=CXE P w []
theorem Inv.air1 {x:ai}(I:Inv X aH σ H s)(nx:H x=none):∃ B:bz,B.StaysIn s.heap∧s.heap.FunFrames B X.stack∧B.get? x=none∧Air X.prog X.w (frs X.stack) [x] H s.heap B H s.heap:=by
 have hb:∀ b o,s.heap.get? b=some o→b ∉ frs X.stack→b≠x→(PySem.W.hideAll s.heap (x::frs X.stack)).get? b=some o:=fun b o e n nb=>PySem.W.hideAll_get _ e (by simp [nb,n])
 refine ⟨PySem.W.hideAll s.heap (x::frs X.stack),fun b o e=>PySem.W.of_hideAll _ e,PySem.W.funFrames_hide I.stack fun env he b hf=>aw _ (List.mem_filterMap.mpr ⟨env,he,hf⟩),PySem.W.hideAll_none _ (aZ ..),?_⟩;refine ⟨fun a o e=>(I.hok a o e).stay (fun b u hbu q=>hb b u q (fun hm=>?_) fun z=>?_) (fun _ q=>q) fun _ _ q=>q,fun b o e _ n nx'=>hb b o e n (by simpa using nx'),fun b o e n nx'=>⟨o,hb b o e n (by simpa using nx')⟩,fun _ _ _ n _=>n,fun _ _ e=>e,fun _ _ _ e=>e,fun b ps e=>⟨#[],by simpa using e⟩,fun b o e _ _ _=>⟨o.slots,e⟩⟩
 ·have z:=I.stkFree b hm
  rcases hbu with rfl | hbu
  ·rw [e] at z;cases z
  ·rw [hbu] at z;cases z
 ·subst z
  rcases hbu with rfl | hbu
  ·rw [e] at nx;cases nx
  ·rw [hbu] at nx;cases nx
theorem Air.out (I:Inv X aH σ H s)(a:Air X.prog X.w (frs X.stack) ex H s.heap B H' h)(hex:X.ex=[])(hst:X.stack=X.env::X.outer)(hfr:X.env.frame=some X.env.locals)(hx:∀ b∈ex,X.s₀.heap.get? b=none) :
  Air X.prog X.w (frs X.outer) [] X.H₀ X.s₀.heap B H' h:=by
 have mem:∀ b,b∈frs X.stack↔b=X.env.locals∨b∈frs X.outer:=fun b=>by
  unfold frs;rw [hst,km,hfr];simp
 have old:∀ b o,X.s₀.heap.get? b=some o→b≠X.env.locals:=fun b o e z=>by
  have h1:=aE e;have h2:=I.ok.above;rw [z] at h1;exact eC _ (aL h1 h2)
 have un:Un (frs X.outer) X.ex X.H₀ H X.s₀.heap s.heap:=I.base;rw [hex] at un;exact Air.after un a (fun b o e n z=>((mem b).mp z).elim (old b o e) n) (fun b o e hb=>(mem b).mpr (.inr hb)) fun b o e _ z=>by have q:=hx b z;rw [e] at q;cases q
structure XDef (X:Cx)(E:XK):Prop where
 ex:X.ex=[]
 stk:X.stack=X.env::X.outer
 fr:X.env.frame=some X.env.locals
 any:∀ (aH:List (ai×Obj)) (σ:St) (H:Hp) (s:ao) (e:aa) (s':ao) (ex:List ai),Inv X aH σ H s→(∀ b∈ex,X.s₀.heap.objs.size≤b)→CXE X.prog X.w ex X.stack H s E e s'→X.xe e s'
 made:∀ (aH:List (ai×Obj)) (σ:St) (H:Hp) (s:ao) (x:ai) (ox:Obj) (us:Array aa) (z0:aa),Inv X aH σ H s→H x=none→X.s₀.heap.get? x=none→s.heap.get? x=some ox→ox.data= .fields us→us[1]? =some .none→us[0]? =some z0→E ox.cls ox.dict H→X.xe (.ref x) s
theorem XDef.pass {E:XK}(D:XDef X E):ma (CXN X.prog X.w) X E:=fun aH σ H s e s' I h=>D.any aH σ H s e s' [] I (fun b hb=>qS hb (by simp)) h
theorem xdef_of {cd:aa}{s0:ao}{E:XK} :
  XDef (cxOf (CXN P w) P w K mg base N qual scope f cd A outer s0 H0 E) E:=by
 refine ⟨rfl,rfl,rfl,?_,?_⟩
 ·intro aH σ H s e s' ex I hx hc
  obtain ⟨x,cls,dct,B,H',rfl,os,bare,al,air,hE⟩:=hc;have out:=Air.out I air rfl rfl rfl fun b hb=>bz.get?_none_of_le (hx b hb)
  refine leave_any (env:=envOfC qual scope s0.heap.objs.size f cd) (outer:=outer) I.ok.frames rfl al fun g ag u=>?_
  refine ⟨x,cls,dct,B,H',rfl,os.trans I.os,bare,ag,Air.up out al.fr.2.2 u,hE⟩
 ·intro aH σ H s x ox us z0 I nx far e1 ed en e0 hE
  obtain ⟨B,b1,b2,b3,air⟩:=I.air1 nx;have out:=Air.out I air rfl rfl rfl fun b hb=>by rw [ax.mp hb];exact far
  refine first_any (env:=envOfC qual scope s0.heap.objs.size f cd) (outer:=outer) I.ok.frames b2 rfl e1 b1 b3 ed en e0 fun g al u=>?_
  exact ⟨x,ox.cls,ox.dict,B,H,rfl,I.os,I.bare,al,Air.up out b2.2.2 u,hE⟩
theorem Fun.okX {k:Nat}{sp:Sp}(F:Fun K x qual st f fd)(S:cp N ps (defScope st))(len:∀ vs H Q E,sp vs H Q E→vs.length=ps.length)
  (hbody:∀ (cdv:aa) (A:bL) (outer:List Env) (s:ao) (H:Hp) (vs:List V) (Q:VK) (E:XK),iA k (A.deeper (envOfC qual (defScope st) s.heap.objs.size f cdv))→XDef (cxOf (CXN P w) P w K mg base N qual (defScope st) f cdv A outer s H E) E→sp vs H Q E →
   ∃ t,PSs (cxOf (CXN P w) P w K mg base N qual (defScope st) f cdv A outer s H E) (eX st) t∧t { nx:=fun _ H'=>Q .non H',rt:=Q } (start N vs) H):cR P w K mg base (CXN P w) (k+1) f fd ps sp:=by
 obtain ⟨oc,od,kV,doc,pm,an,cdv,ct,osl,rfl,lk,hcd⟩:=F.ex;exact fn_of lk hcd S len fun A outer s H vs Q E hr hsp=>hbody cdv A outer s H vs Q E hr xdef_of hsp
structure Exc (K:aq)(mg:Str→Option aa)(x:Str)(C:ai):Prop where
 mg:mg x=some (.ref C)
 ok:PySem.W.excIn K C [.type "ValueError",.type "Exception",.type "BaseException",.type "object"] "ValueError.__new__" =true
theorem own_at (X:K.In h)(hm:mg x=some (.ref C))(q:PySem.W.excIn K C bmB newId=true):OwnCls x C bmB newId mg h:=by
 refine ⟨hm,?_⟩;unfold PySem.W.excIn at q;split at q
 ·rename_i dd cd sl ho
  split at q
  ·rename_i C' bm k0 k1 k2 k3 n k5 h1 h2
   simp only [cN,beq_iff_eq,hW] at q;obtain ⟨⟨⟨⟨⟨rfl,rfl⟩,h3⟩,h4⟩,h5⟩,h6⟩:=q;obtain ⟨nm,bs,mro,ns,qn,hd,sn,sub,ab,col,del⟩:=cd
   dsimp only at h1 h3 h5 h6
   subst h1 h3;have e:sl= #[k0,k1,k2,k3,some (.builtin n),k5]:=by
    obtain ⟨l⟩:=sl;simp only at h2;rw [h2]
   subst e;exact ⟨bm,ns,nm,qn,bs,hd,sn,sub,ab,col,dd,k0,k1,k2,k3,k5,_,X _ _ ho,.of_isNs (PySem.W.isNs_of_in X h5),PySem.W.nsMap_none_of_in X h5 h6,PySem.W.tail_of_in X h4⟩
  ·cases q
 ·cases q
abbrev cxBody (X:Cx)(pn:List (ai×Obj))(W:aa→ao→Prop):Cx:={ X with pn:=pn,xe:=W }
abbrev pZ (X:Cx)(pn:List (ai×Obj))(x:ai):Cx:={ X with A:=X.A.mark (some (.ref x)),calm:=false,pn:=pn,xe:=fun _ _=>False }
def PassAt (CX:CXT)(X:Cx)(σ:St)(E:XK):Prop:=∀ (aH:List (ai×Obj)) (H:Hp) (s:ao) (e:aa) (s':ao),Inv X aH σ H s→CX X.stack H s E e s'→X.xe e s'
section
variable {pn:List (ai×Obj)}{σ0:St}{E:XK}
theorem pe_callS {k:Nat}{sp:Sp}{p:Pos}(F:cR X.prog X.w X.K X.mg X.base CX k f fd ps sp)(hr:iA k X.A)(hg:Gl X x)(hm:X.mg x=some (.ref f))(hk:cW X.K (.ref f)=true)(hb:md X.K fd ps ds)(hd:fN dvs ds)(hx:PassAt CX X σ0 E)
  (ha:PA X (e::es) t) (hdb:(x == ("__debug__" :Str))=false:=by decide) (he:br (e::es) X.env=(false,dH e X.env)::br es X.env:=by rfl) (hpl:(fE pos (br es X.env)).any (·.1)=false:=by rfl) :
  PE X (.Call (.Name x p) (e::es) [] pos) (fun σ H Q=>σ=σ0∧tCall sp dvs E t σ H Q):=by
 intro aH s σ H Q I ⟨hσ,h⟩;subst hσ;refine cY (lW I hg hm ?_ hdb);refine iS (h₀:=X.base) I.ok.mod.kin hk (thn (ha pos aH s σ H _ I h) fun us s1 ⟨vs,H1,I1,r,q⟩=>⟨I1.kIn,?_⟩) he hpl;have r2:=r.append hd;have hl:(us++ds).length=ps.length:=by rw [←r2.length];exact F.len _ _ _ _ q
 refine gF (g9 (F.run X.A X.stack s1 H1 ⟨us,[]⟩ (us++ds) (vs++dvs) Q E hr I1.env0 (hb s1 us I1.kIn hl) r2 q) fun r s' hq=>?_);cases r with
 | error e=>exact hx aH H1 s1 e s' I1 hq
 | ok fl =>
  cases fl with
  | ret u=>exact I1.after hq
  | next=>exact cf hq
  | brk=>exact cf hq
  | cont=>exact cf hq
theorem Inv.toBody (I:Inv X aH σ H s):Inv (cxBody X (X.pn++aH) W) [] σ H s :=
 ⟨⟨I.ok.mod,I.ok.kind,I.ok.glob,I.ok.blt,I.ok.above,I.ok.inj,I.ok.has,I.ok.cab,I.ok.hd,I.ok.frames,I.ok.stk,I.ok.exf,I.ok.bs,I.ok.bsz,I.ok.noex,I.ok.exfs,I.ok.funs,I.ok.frf⟩,I.os,I.bare,I.base,I.loc,I.cell,I.free,I.freeC,by rw [cK];exact I.pin,I.hok,I.len⟩
theorem Inv.ofBody {more:List (ai×Obj)}(I:Inv (cxBody X (X.pn++aH) W) more σ H s):Inv X aH σ H s :=
 ⟨⟨I.ok.mod,I.ok.kind,I.ok.glob,I.ok.blt,I.ok.above,I.ok.inj,I.ok.has,I.ok.cab,I.ok.hd,I.ok.frames,I.ok.stk,I.ok.exf,I.ok.bs,I.ok.bsz,I.ok.noex,I.ok.exfs,I.ok.funs,I.ok.frf⟩,I.os,I.bare,I.base,I.loc,I.cell,I.free,I.freeC,fun p hp=>I.pin p (aG _ hp),I.hok,I.len⟩
theorem Inv.toHand {x:ai}(I:Inv X aH σ H s):Inv (pZ X (X.pn++aH) x) [] σ H s :=
 ⟨⟨I.ok.mod,I.ok.kind,I.ok.glob,I.ok.blt,I.ok.above,I.ok.inj,I.ok.has,I.ok.cab,(fun z=>nomatch z),I.ok.frames,I.ok.stk,I.ok.exf,I.ok.bs,I.ok.bsz,I.ok.noex,I.ok.exfs,I.ok.funs,I.ok.frf⟩,I.os,I.bare,I.base,I.loc,I.cell,I.free,I.freeC,by rw [cK];exact I.pin,I.hok,I.len⟩
theorem Inv.ofHand {x:ai}{more:List (ai×Obj)}(ok:X.Ok)(I:Inv (pZ X (X.pn++aH) x) more σ H s):Inv X aH σ H s :=
 ⟨ok,I.os,I.bare,I.base,I.loc,I.cell,I.free,I.freeC,fun p hp=>I.pin p (aG _ hp),I.hok,I.len⟩
theorem SP.mono {Y:Cx}{D:kO}{f:Flow}(k:∀ σ H,Inv Y pins' σ H s→Inv X aH σ H s)(h:SP Y pins' D f s):SP X aH D f s:=by
 cases f with
 | next=>obtain ⟨σ,H,I,q⟩:=h;exact ⟨σ,H,k _ _ I,q⟩
 | brk=>obtain ⟨σ,H,I,q⟩:=h;exact ⟨σ,H,k _ _ I,q⟩
 | cont=>obtain ⟨σ,H,I,q⟩:=h;exact ⟨σ,H,k _ _ I,q⟩
 | ret u=>obtain ⟨v,σ,H,I,q⟩:=h;exact ⟨v,σ,H,k _ _ I,q⟩
theorem Inv.landed {x:ai}{cls:aa}(I:Inv X aH σ H s)(os:s'.os=s.os)(bare:AllBare s'.gens)(al:nR B X.stack x cls dct s'.heap)(air:Air X.prog X.w (frs X.stack) [] H s.heap B H' s'.heap):Inv X aH σ H' s' :=
 I.call' (ch:=[]) os (air.un al.st fun b hb=>I.stkFree b hb) (fun a o e=>(air.hok a o e).stay (fun b v _ q=>al.st b v q) (fun _ q=>q) fun _ _ q=>q) bare fun b hb=>qS hb (by simp)
end
theorem gone_ok {Q:Unit→ao→Prop}(I:Inv X aH σ H s)(nd:X.N.Nodup)(at_:X.N[i]? =some x)(lc:X.env.scope.names.lookup x=some .local)
  (next:∀ s',Inv X aH (σ.set i none) H s'→Q () s'):aJ M A (do bindName X.env x .none;unbindBehindTheSuite X.env x pos) Q E s:=by
 obtain ⟨m,nsm,look⟩:=id I.loc;have fk:(X.env.scope.kind == .class || (X.env.scope.kind == .module && X.env.locals != X.env.globals))=false:=by rw [I.ok.kind];rfl
 have il:i<σ.length:=by rw [I.len];exact (av.mp at_).1
 refine wpAny_nameGoes_keeps lc nsm fk fun g w nsg sb=>next _ ?_
 obtain ⟨oL,_,_,eL,_⟩:=id nsm;have low:∀ b o,X.s₀.heap.get? b=some o→b≠X.env.locals:=fun b o e=>bE (aL (aE e) I.ok.above)
 have far:∀ b o,b≠X.env.locals→s.heap.get? b=some o→g.get? b=some o:=fun b o n e=>(sb.2 b n).trans e
 have un:Un X.fs X.ex X.H₀ H X.s₀.heap g :=
  {keep:=fun b o e n f x'=>far b o (low b o e) (I.base.keep b o e n f x')
   slot:=fun b o e n f x'=>(I.base.slot b o e n f x').imp fun sl q=>far b _ (low b o e) q
   free:=I.base.free
   there:=fun b o e x'=>(I.base.there b o e x').imp fun o' q=>far b o' (low b o e) q
   tups:=I.base.tups
   frzs:=I.base.frzs
   tbls:=I.base.tbls }
 have hk:HOk X.prog X.w H g:=fun a o e=>(I.hok a o e).stay (fun c o' hc q=>far c o' (by
  rintro rfl
  rcases hc with rfl | hc
  ·rw [I.free] at e;cases e
  ·rw [I.free] at hc;cases hc) q) (fun _ q=>q) fun _ _ q=>q
 refine ⟨I.ok,I.os,I.bare,un,⟨_,nsg,fun j y u e1 e2 e3=>?_⟩,fun y c e=>?_,I.free,I.freeC,fun p hp=>?_,hk,by simpa using I.len⟩
 ·by_cases hj:j=i
  ·subst hj
   rw [cT il] at e2;cases e2
  ·rw [cS (bX hj)] at e2
   obtain ⟨u',r',l'⟩:=look j y u e1 e2 e3;refine ⟨u',r',?_⟩
   rcases l' with ⟨k1,k2⟩ | ⟨k1,c,k2,k3⟩
   ·refine .inl ⟨k1,?_⟩
    have ne:y≠x:=fun z=>hj (nodup_ix nd e1 (z ▸ at_))
    simp [ne,k2]
   ·exact .inr ⟨k1,c,k2,k3.sameBut sb (I.cne y c k2)⟩
 ·obtain ⟨w',z⟩:=I.cell y c e
  exact ⟨w',z.sameBut sb (I.cne y c e)⟩
 ·obtain ⟨e,n,nl,nf,d⟩:=I.pin p hp
  exact ⟨far p.1 p.2 nl e,n,nl,nf,d⟩
def lZ (a C:ai)(d:Option ai):HO:= .ext fun h=>∃ o us,h.get? a=some o∧o.cls= .ref C∧o.dict=d∧o.data= .fields us
theorem Inv.landedAs {x:ai}(I:Inv X aH σ H s)(os:s'.os=s.os)(bare:AllBare s'.gens)(al:nR B X.stack x (.ref C) dct s'.heap)(air:Air X.prog X.w (frs X.stack) [] H s.heap B H' s'.heap):H' x=none∧Inv X aH σ (upd H' x (lZ x C dct)) s':=by
 have free:H' x=none:=by
  cases q:H' x with
  | none=>rfl
  | some o =>
   obtain ⟨u,e⟩:=i7.seat (air.hok x o q);rw [al.no] at e;cases e
 obtain ⟨a0,fl,ox,vx,T,ot,vt,e1,⟨ec,_⟩,e2,_⟩:=id al.tr;have edc:ox.dict=dct:=by
  obtain ⟨o,p,r⟩:=al.dc;rw [e1] at p;cases p;exact r
 have new:s.heap.get? x=none:=by
  cases q:s.heap.get? x with
  | none=>rfl
  | some o =>
   by_cases hf:x∈frs X.stack
   ·obtain ⟨_,o2,q2,hn⟩:=al.fr.mem hf
    rw [e1] at q2;cases q2;exact qS e2 (hn vx)
   ·obtain ⟨o',e'⟩:=air.there x o q hf (by simp)
    rw [al.no] at e';cases e'
 have un:=air.un al.st fun b hb=>I.stkFree b hb
 have hok:HOk X.prog X.w H' s'.heap:=fun a o e=>(air.hok a o e).stay (fun b v _ q=>al.st b v q) (fun _ q=>q) fun _ _ q=>q
 refine ⟨free,I.call' (ch:=[]) os { keep:=un.keep,slot:=un.slot,free:=fun b o e n hx=>?_,there:=un.there,tups:=fun b xs e=>?_,frzs:=fun b o u e=>?_,tbls:=fun b ps e=>?_ } (hok.take free ⟨⟨ox,vx,e1,ec,edc,e2⟩,⟨ox,e1⟩,fun h1 h2 ⟨o,us,p1,p2⟩ k=>⟨o,us,k o p1,p2⟩⟩) bare fun b hb=>qS hb (by simp)⟩
 ·rw [bc (fun z=>by rw [z,new] at e;cases e)]
  exact un.free b o e n hx
 ·have q:=un.tups b xs e
  rw [bc (bw q free)];exact q
 ·have q:=un.frzs b o u e
  rw [bc (bw q free)];exact q
 ·obtain ⟨more,q⟩:=un.tbls b ps e
  exact ⟨more,by rw [bc (bw q free)];exact q⟩
structure Under (K:aq)(C D:ai):Prop where
 up:PySem.W.mroIn K C (.ref D)=some true
theorem match_up {nm' q':Str}{N':ai}{bs' bm':List aa}{hdct':Bool}{sn':List Str}{sub':List aa}{ab':Bool}{col':Option Bool}{dd':Option ai}{j0 j1 j2 j3 j5:Option aa}{newId':String}
  {g:Array GenState} {d:Drawn} {t:Nat} {os:OsState} {e:ai} {oe:Obj} {Q:Bool→ao→Prop} (kin:K.In h) (up:PySem.W.mroIn K C (.ref D)=some true)
  (hD:h.get? D=some (excClassObj nm' q' D N' bs' bm' hdct' sn' sub' ab' col' dd' j0 j1 j2 j3 j5 newId')) (he:h.get? e=some oe) (hcls:oe.cls= .ref C) (hbase:bm'.contains (.type "BaseException")=true)
  (hq:Q true ⟨h,g,d,t,os⟩):aJ M A (excMatches (.ref e) (.ref D)) Q E ⟨h,g,d,t,os⟩:=by
 have b1:(aa.ref D::bm').contains (.type "BaseException")=true:=by rw [List.contains_cons,hbase,Bool.or_true]
 have f:=tc_notTuple;unfold excMatches
 repeat (first | (with_reducible refine gn he ?_;rw [hcls]) | with_reducible refine gn hD ?_ | (with_reducible refine wpAny_isSubtype_exc hD ?_;rw [b1]) | (with_reducible refine PySem.W.Looks.at (PySem.W.looks_mroIn kin up) ?_) | wp_step)
 exact hq
theorem ps_tryAs {n:Str}{iN:Nat}{np hp:Pos}{body suite:List cF}{b₀:cF}{tb:St→XK→TS}{th:TS}(stk:X.stack=X.env::X.outer)(fr:X.env.frame=some X.env.locals)(nd:X.N.Nodup)(at_:X.N[iN]? =some n)(lc:X.env.scope.names.lookup n=some .local)(T:Exc X.K X.mg x D)
  (hb:∀ (pn:List (ai×Obj)) (W:aa→ao→Prop) (σ:St) (E:XK),PassAt (CXN X.prog X.w) (cxBody X pn W) σ E→PSs (cxBody X pn W) body (tb σ E)) (hh:∀ (pn:List (ai×Obj)) (e:ai),PSs (pZ X pn e) (b₀::suite) th) (hg:Gl X x:=by rfl) (hd:(x == ("__debug__" :Str))=false:=by decide) :
  PS X (.Try body [.ExceptHandler (some (.Name x np)) (some n) (b₀::suite) hp] [] [] pos) (fun Dn σ H=>tb σ (fun cls dct H'=>∃ C,cls= .ref C∧Under X.K C D∧∀ a,H' a=none→th { Dn with nx:=fun σ' H''=>Dn.nx (σ'.set iN none) H'',bk:=fun σ' H''=>Dn.bk (σ'.set iN none) H'',ct:=fun σ' H''=>Dn.ct (σ'.set iN none) H'' } (σ.set iN (some (.ref a))) (upd H' a (lZ a C dct))) Dn σ H):=by
 intro aH s σ H Dn I h;refine wpAny_Try_except (bP (hb (X.pn++aH) (fun e s₁=>aJ (aV X.prog X.w) X.A (noteFrame e X.env) (fun _ s₂=>aJ (aV X.prog X.w) X.A (setFlight e none) (fun _ s₃=>aJ (aV X.prog X.w) X.A (handleBy e X.env [.ExceptHandler (some (.Name x np)) (some n) (b₀::suite) hp]) (SP X aH Dn) X.xe s₃) X.xe s₂) X.xe s₁) σ _ ?_ [] s σ H Dn I.toBody h) (fun f s1 q=>?_) fun _ _ q=>q)
 ·intro pins' H1 s1 e s2 I1 hc
  obtain ⟨a,cls,dct,B,H2,rfl,os,bare,al,air,C,rfl,U,hth⟩:=hc;have I1:Inv X aH σ H1 s1:=Inv.ofBody I1;have al:nR B X.stack a (.ref C) dct s2.heap:=al;have air:Air X.prog X.w (frs X.stack) [] H1 s1.heap B H2 s2.heap:=air;have hfr:X.A.frames=some (X.env::X.outer):=by rw [←stk];exact I.ok.frames
  have al':nR B (X.env::X.outer) a (.ref C) dct s2.heap:=by rw [←stk];exact al
  refine note_any hfr fr al' fun g hgd u=>?_
  have hgd:nR B X.stack a (.ref C) dct g:=by rw [stk];exact hgd
  have air1:Air X.prog X.w (frs X.stack) [] H1 s1.heap B H2 g:=Air.up air al.fr u;refine set_any (s:={ s2 with heap:=g }) hgd fun g2 al2 u2=>?_
  have air2:Air X.prog X.w (frs X.stack) [] H1 s1.heap B H2 g2:=Air.up air1 hgd.fr u2;have I2:Inv X aH σ H2 { s2 with heap:=g2 }:=I1.landed (s':={ s2 with heap:=g2 }) os bare al2 air2;have I2h:Inv (pZ X (X.pn++aH) a) [] σ H2 { s2 with heap:=g2 }:=I2.toHand;refine wpAny_handleBy_cons (codeAny_handlers_test ?_) (by intro q;cases q);refine lW (X:=pZ X (X.pn++aH) a) I2h hg T.mg ?_ hd;obtain ⟨tl,N,nm,q,bs,hdct,sn,sub,ab,col,dd,k0,k1,k2,k3,k5,mN,hC,hN,hni,TL⟩:=(own_at I.ok.mod.kin T.mg T.ok).obj;obtain ⟨b0,fl,tr⟩:=id al2.tr;obtain ⟨ob,hob,hobc⟩:=tr.there;refine match_up I2.kIn U.up (I2.bk _ _ hC) hob hobc (TL.hasType rfl) (codeAny_handlers_suite_as ?_);refine set_any (s:={ s2 with heap:=g2 }) al2 fun g3 al3 u3=>?_
  have air3:Air X.prog X.w (frs X.stack) [] H1 s1.heap B H2 g3:=Air.up air2 al2.fr u3;obtain ⟨fre,I3⟩:=I1.landedAs (s':={ s2 with heap:=g3 }) os bare al3 air3;have I3h:Inv (pZ X (X.pn++aH) a) [] σ (upd H2 a (lZ a C dct)) { s2 with heap:=g3 }:=I3.toHand;refine oJ (X:=pZ X (X.pn++aH) a) (v:= .ref a) I3h nd at_ (.inl lc) rfl (fun s5 I5=>?_) (.inr lc);refine bP (hh (X.pn++aH) a [] _ _ _ _ I5 (hth a fre)) (fun f s6 q=>?_) fun _ _ z=>cf z
  cases f with
  | next=>obtain ⟨σ6,H6,I6,q6⟩:=q;exact gone_ok (Inv.ofHand I.ok I6) nd at_ lc fun s7 I7=>⟨_,_,I7,q6⟩
  | brk=>obtain ⟨σ6,H6,I6,q6⟩:=q;exact gone_ok (Inv.ofHand I.ok I6) nd at_ lc fun s7 I7=>⟨_,_,I7,q6⟩
  | cont=>obtain ⟨σ6,H6,I6,q6⟩:=q;exact gone_ok (Inv.ofHand I.ok I6) nd at_ lc fun s7 I7=>⟨_,_,I7,q6⟩
  | ret u=>obtain ⟨v,σ6,H6,I6,r6,q6⟩:=q;exact gone_ok (Inv.ofHand I.ok I6) nd at_ lc fun s7 I7=>⟨v,_,_,I7,r6,q6⟩
 ·have q:SP X aH Dn f s1:=SP.mono (fun _ _ Ib=>Inv.ofBody Ib) q
  cases f with
  | next=>exact aC q
  | brk=>exact q
  | cont=>exact q
  | ret u=>exact q
end L2
namespace L2
open PySem PySem.Spec PySem.W PyProof.Rows
structure XCls (K:Frag)(C:ai):Prop where
 ga:findIn K (.ref C) "__getattribute__" =some (some (.builtin "BaseException.__getattribute__"))
 gh:findIn K (.ref C) "__getattr__" =some none
 cl:findIn K (.ref C) "__class__" =some (some (.builtin "object.__class__"))
 gt:specialIn K (.builtin "object.__class__") "__get__" =some (some (.builtin "getset_descriptor.__get__"))
 tk:takesIn K (.builtin "object.__class__")=some true
 ob:mroIn K C (.type "object")=some true
 bx:mroIn K C (.type "BaseException")=some true
 dc:hasDictIn K C=true
section
variable {K:Frag}{x:ai}
theorem x_check {nv:aa}{Q:Unit→ao→Prop}(kin:K.In s.heap)(I:InstAt s.heap x ox C od)(T:XCls K C)(q:Q () s):aJ (aV prog w) A (checkBuiltinCall "BaseException.__getattribute__" ⟨[.ref x,nv],[]⟩) Q E s:=by
 obtain ⟨hh,g,d,t,os⟩:=s;have k1:builtinKind "BaseException.__getattribute__" =some .slot:=by trivial
 have k2:splitId "BaseException.__getattribute__" =some ("BaseException","__getattribute__"):=by trivial
 have L0:=I.type (M:=aV prog w);have L1:=looks_mroIn (M:=aV prog w) kin T.bx;have LI:Looks (aV prog w) hh (isInstance (.ref x) (.type "BaseException")) true:=L0.andThen L1;have ha:=F.args_bexc_ga (.ref x) nv;simp only [checkBuiltinCall,k1,k2];refine af (LI.at ?_)
 repeat (any_goals (first | assumption | wp_step))
theorem x_value {v:aa}{tk:Tok}{Q:Fin→ao→Prop}(kin:K.In s.heap)(I:InstAt s.heap x ox C od)(hf:findObj K C od name=some (.value v))(q:Q (.done (.ret v)) s) :
  aJ (aV prog w) A (cZ.«object.__getattribute__» ⟨[.ref x,.str name tk],[]⟩) Q E s:=by
 obtain ⟨hh,g,d,t,os⟩:=s;have L0:=I.type (M:=aV prog w);have L1:=looks_find (M:=aV prog w) kin I hf;refine af (aC (af (aC (af (L0.at (af (L1.at ?_)))))));exact aC q
theorem x_bind {gv a:aa}{tk:Tok}{P:aa→ao→Prop}(kin:K.In s.heap)(I:InstAt s.heap x ox C od)(hf:findObj K C od name=some (.bind gv a))(q:aJ (aV prog w) A (jS gv [a,.ref x,.ref C]) P E s) :
  aJ (aV prog w) A (cZ.«object.__getattribute__» ⟨[.ref x,.str name tk],[]⟩) (fun fin s'=>match fin with | .done (.ret v)=>P v s' | _=>False) E s:=by
 obtain ⟨hh,g,d,t,os⟩:=s;have L0:=I.type (M:=aV prog w);have L1:=looks_find (M:=aV prog w) kin I hf;refine af (aC (af (aC (af (L0.at (af (L1.at ?_)))))));show aJ _ _ (holding [a] (jS gv [a,.ref x,.ref C]) >>= ret) _ _ _;exact af (cI (bP q (fun v s' z=>aC z) fun _ _ z=>z))
theorem x_by {tk:Tok}{fill ex:Bool}(kin:K.In s.heap)(I:InstAt s.heap x ox C od)(T:XCls K C)
  (q:aJ (aV prog w) A.in1 (cZ.«object.__getattribute__» ⟨[.ref x,.str name tk],[]⟩) (fun fin s'=>match fin with | .done (.ret v)=>aJ (aV prog w) A (handedOut v) Q E s' | _=>False) (fun _ _=>False) s) :
  aJ (aV prog w) A (getAttrBy (.ref x) (.str name tk) fill ex) Q E s:=by
 obtain ⟨hh,g,d,t,os⟩:=s;have L0:=I.type (M:=aV prog w);have L1:=looks_findIn (M:=aV prog w) kin T.ga;have L2:=looks_findIn (M:=aV prog w) kin T.gh;have f3:=F.excAttr_ValueError.ga.bind (.ref x);have hx0:(ex && onTheHeap (aa.builtin "BaseException.__getattribute__"))=false:=by cases ex <;> rfl
 unfold getAttrBy;refine cI (af (L0.at (af (L1.at ?_))));show aJ _ _ (getAttrByItsOwn _ _ _ _ _ _) _ _ _;unfold getAttrByItsOwn;refine af (L2.at ?_);refine af (wpAny_attempt (cI ?_));unfold callGetattribute;rw [qQ (by rw [hx0];decide)];unfold boundAndCalled;rw [f3];refine af (aC ?_);refine gF (kD F.excAttr_ValueError.ga.plain F.entry_bexc_ga (x_check kin I T ?_));refine bP q (fun fin s' z=>?_) fun _ _ z=>z.elim
 rcases fin with (_ | _ | _ | _) | _ <;> first | exact z | exact z.elim
end
section
variable {K:Frag}{x:ai}
theorem xfind {a g:aa}(hc:(clsIn K C).isSome=true)(ha:findIn K (.ref C) name=some (some a))(hg:specialIn K a "__get__" =some (some g))(ht:takesIn K a=some true):findObj K C od name=some (.bind g a):=by
 obtain ⟨cd,hc⟩:=kR.mp hc;unfold findObj;rw [hc,Option.bind_some,ha,Option.bind_some];simp [hg,ht]
theorem XCls.cls (T:XCls K C):∃ cd,clsIn K C=some cd:=by
 obtain ⟨cd,hc,_⟩:=any_some T.dc;exact ⟨cd,hc⟩
def XAt (x C:ai)(h:bz):Prop:=∃ ox od,InstAt h x ox C od
theorem kitx_exc (T:XCls K C):KitX K (.ref x) (.ref C) (XAt x C) where
 ty:=fun _ _ _ p=>by
  obtain ⟨ox,od,I⟩:=p;exact I.type
 it:=fun _ _ kin _=>by
  obtain ⟨cd,hc⟩:=T.cls;unfold clsIn at hc;split at hc
  ·rename_i ho
   intro A' Q' E' s' k q;unfold isType loadHead;exact af (wpAny_loadPart (k _ _ (kin _ _ ho)) (aC q))
  ·cases hc
 ne:=fun h tp dd its n sl kin htp=>by
  obtain ⟨cd,hc⟩:=T.cls;refine jy.mpr fun q=>?_
  have e:C=tp:=aa.ref.inj (beq_iff_eq.mp q);subst e;unfold clsIn at hc;split at hc
  ·rename_i ho
   have z:=(kin _ _ ho).symm.trans htp;cases z
  ·cases hc
 ca:=fun {prog w A E Q s} kin p k=>by
  obtain ⟨ox,od,I⟩:=p;obtain ⟨cd,hc⟩:=T.cls;have hf:findObj K C od "__class__" =some (.bind (.builtin "getset_descriptor.__get__") (.builtin "object.__class__")):=xfind (by rw [hc];rfl) T.cl T.gt T.tk;unfold getAttr? getAttrBy?;refine af (wpAny_mkText (af (wpAny_attempt ?_)));refine x_by (s:={ s with toks:=s.toks+1 }) kin I T (x_bind (s:={ s with toks:=s.toks+1 }) kin I hf (gF (class_get (s:={ s with toks:=s.toks+1 }) kin I T.ob ?_)));exact handed_on rfl (aC k)
end
def XD (D:ai)(fs:List (Str×V)):HO:= .ext fun h=>∃ mA,h.Ns1 D mA∧(∀ f,qp (fs.lookup f) (mA f))∧PySem.Within mA (fs.map (·.1))
theorem Inv.xat (I:Inv X aH σ H s)(e:H a=some (lZ a C d))(hd:∀ D,d=some D→∃ fs,H D=some (XD D fs)):XAt a C s.heap:=by
 obtain ⟨⟨o,us,p1,p2,p3,p4⟩,_,_⟩:=I.hok a _ e;cases d with
 | none=>exact ⟨o,none,p1,p2,by unfold notCls;rw [p4],by rw [p3];trivial⟩
 | some D =>
  obtain ⟨fs,q⟩:=hd D rfl;obtain ⟨⟨mA,⟨od,es,ep,q1,_⟩,_⟩,_⟩:=I.hok D _ q;exact ⟨o,some od,p1,p2,by unfold notCls;rw [p4],by rw [p3];exact q1⟩
theorem call_isx:lJ X (.builtin "isinstance") (fun xs H Q=>∃ a C d b,(∃ D,xs=[.ref a,.ref D]∧kitOne X.K (.ref C) (.ref D)=some b)∧H a=some (lZ a C d)∧(∀ D,d=some D→∃ fs,H D=some (XD D fs))∧XCls X.K C∧Q (.bl b) H):=by
 intro aH s σ H vs us Q I r h;obtain ⟨a,C,d,b,⟨D,rfl,ek⟩,e,hd,T,q⟩:=h;cases r with
 | cons r1 r =>
 cases r with
 | cons r2 r =>
 cases r;rename_i u1 u2;obtain rfl:u1=aa.ref a:=r1;obtain rfl:u2=aa.ref D:=r2;exact kia_one (kitx_exc T) I.kIn (I.xat e hd) ek nofun fun tk=>⟨.bl b,H,I.tok tk,rfl,q⟩
theorem call_isxB {T0:String}:lJ X (.builtin "isinstance") (fun xs H Q=>∃ a C d b,(xs=[.ref a,.ty T0]∧kitOne X.K (.ref C) (.type T0)=some b)∧H a=some (lZ a C d)∧(∀ D,d=some D→∃ fs,H D=some (XD D fs))∧XCls X.K C∧Q (.bl b) H):=by
 intro aH s σ H vs us Q I r h;obtain ⟨a,C,d,b,⟨rfl,ek⟩,e,hd,T,q⟩:=h;cases r with
 | cons r1 r =>
 cases r with
 | cons r2 r =>
 cases r;rename_i u1 u2;obtain rfl:u1=aa.ref a:=r1;obtain rfl:u2=aa.type T0:=r2;exact kia_one (kitx_exc T) I.kIn (I.xat e hd) ek nofun fun tk=>⟨.bl b,H,I.tok tk,rfl,q⟩
theorem vals_refs:∀ {ds:List ai} {us:List aa},fN (ds.map V.ref) us→us=ds.map aa.ref
 | [],_,.nil=>rfl
 | d::ds,_,.cons r t=>by rw [bZ,vals_refs t];exact qW (· :: _) r
theorem call_isxT:lJ X (.builtin "isinstance") (fun xs H Q=>∃ a C d b t,∃ ds:List ai,xs=[.ref a,.ref t]∧H t=some (.tup (ds.map V.ref))∧kitAny X.K (.ref C) (ds.map aa.ref)=some b∧H a=some (lZ a C d)∧(∀ D,d=some D→∃ fs,H D=some (XD D fs))∧XCls X.K C∧Q (.bl b) H):=by
 intro aH s σ H vs us Q I r h;obtain ⟨a,C,d,b,t,ds,rfl,et,ek,e,hd,T,q⟩:=h;cases r with
 | cons r1 r =>
 cases r with
 | cons r2 r =>
 cases r;rename_i u1 u2;obtain rfl:u1=aa.ref a:=r1;obtain rfl:u2=aa.ref t:=r2;obtain ⟨_,its,rv,⟨oc,od,oda,osl⟩,p1,p2,p3,n,p4⟩:=I.hok t _ et;have ei:=vals_refs rv;subst ei
 dsimp only at p2 p3 p4
 subst p2 p3 p4;exact kia_tup (kitx_exc T) I.kIn (I.xat e hd) p1 ek nofun fun tk=>⟨.bl b,H,I.tok tk,rfl,q⟩
theorem pe_xfld {f:Str}(he:PE X e ta)(hb:kr e f X.env (dH e X.env)=dH e X.env) :
  PE X (.Attribute e f pos) (fun σ H Q=>ta σ H fun x H1=>∃ a C D fs v,x= .ref a∧H1 a=some (lZ a C (some D))∧H1 D=some (XD D fs)∧XCls X.K C∧kt X.K C f∧fs.lookup f=some v∧Q v H1):=by
 intro aH s σ H Q I h;refine attr_of hb (thn (he aH s σ H _ I h) fun u s1 ⟨x,H1,I1,rx,a,C,D,fs,v,ex,ea,eD,T,n,l,q⟩=>?_);subst ex;obtain rfl:u=aa.ref a:=rx;obtain ⟨⟨o,us,p1,p2,p3,p4⟩,_,_⟩:=I1.hok a _ ea;obtain ⟨⟨mA,ns,rl,_⟩,_⟩:=I1.hok D _ eD;obtain ⟨od,q1,q2⟩:=pR ns;obtain ⟨u,hu,ru⟩:=qp.some_of (v:=v) (o:=mA f) (by rw [←l];exact rl f);have J:InstAt s1.heap a o C (some od):=⟨p1,p2,by unfold notCls;rw [p4],by rw [p3];exact q1⟩;unfold getAttr;refine af (wpAny_mkText ?_);refine x_by (s:={ s1 with toks:=s1.toks+1 }) I1.kIn J T (x_value (s:={ s1 with toks:=s1.toks+1 }) (v:=u) I1.kIn J (findObj_own T.dc n rfl (by rw [q2,hu])) ?_);exact handed_on (handed_of ru) ⟨v,H1,I1.tok _,ru,q⟩
def xNew (h:bz)(C:ai)(us:List aa):bz:=(h.push { cls:= .type "tuple",data:= .seq us.toArray }).push { cls:= .ref C,data:= .fields #[.ref h.objs.size,.none,.none,.none,.bool false,.none] }
theorem nc {b:ai}{o:Obj}(e:h.get? b=some o):(xNew h C us).get? b=some o:=ar _ (ar _ e)
theorem xNew_at:(xNew h C us).get? (h.objs.size+1)=some { cls:= .ref C,data:= .fields #[.ref h.objs.size,.none,.none,.none,.bool false,.none] }:=by
 unfold xNew;exact bz.get?_push_at (by rw [fc]) rfl
section
variable {g:Array GenState}{d:Drawn}{t:Nat}{os:OsState}
variable {nm:Str}{N fI:ai}{bs bm:List aa}{ab:Bool}{k0 k1 k2 k3 k5:Option aa}{B initId:String}
theorem xcall_type {Q:Fin→ao→Prop}(F:ExcBaseFacts B newId initId bmB)(T:OwnTail h bmB bm)(hC:h.get? C=some (excClassObj nm q C N bs bm hdct sn sub ab col dd k0 k1 k2 k3 k5 newId))
  (kl:Looks (aV prog w) h (typeLookup (.ref C) "__init__") (some (.ref fI))) (hf:h.get? fI=some oI) (hc:oI.cls= .type "function") (hlen:us.length≤aP)
  (k:aJ (aV prog w) A (jS (.ref fI) (.ref (h.objs.size+1)::us)) (fun r s'=>r= .none∧Q (.done (.ret (.ref (h.objs.size+1)))) s') E ⟨xNew h C us,g,d,t,os⟩) :
  aJ (aV prog w) A (cZ.«type.__call__» ⟨.ref C::us,[]⟩) Q E ⟨h,g,d,t,os⟩:=by
 repeat (first | with_reducible refine gn hC ?_ | with_reducible refine wpAny_madeBy_exc hC ?_ | wp_step)
 refine codeAny_call_builtin_code (Code.quiet_builtin _ F.quiet) (wpAny_check_new_subT F T hC (codeAny_exc_new_subT F T hC ?_ hlen));show aJ _ _ _ _ _ (⟨xNew h C us,g,d,t,os⟩:ao);have c1:(xNew h C us).get? C=_:=nc hC;have x1:=xNew_at (h:=h) (C:=C) (us:=us);have f1:(xNew h C us).get? fI=some oI:=nc hf;have l1:=kl.keeps (h':=xNew h C us) fun b o e=>nc e
 have inn:(aa.ref C::bm).contains (.ref C)=true:=by simp
 generalize xNew h C us=h1 at k c1 x1 f1 l1 ⊢;unfold isInstance
 repeat (first | with_reducible refine gn x1 ?_ | (with_reducible refine wpAny_isSubtype_exc c1 ?_;rw [inn]) | wp_step)
 show aJ _ _ (typeLookup (.ref C) _) _ _ _;refine l1.at ?_;refine cI (af ?_);unfold bindSpecial;refine af (wpAny_typeOf (T := "function") ⟨_,f1,hc⟩ ?_);rw [qR (by decide)];refine aC (af (bP k (fun r s' hr=>?_) fun _ _ z=>z));obtain ⟨rfl,hQ⟩:=hr
 wp_walk
 exact hQ
theorem xcall (F:ExcBaseFacts B newId initId bmB)(T:OwnTail h bmB bm)(hC:h.get? C=some (excClassObj nm q C N bs bm hdct sn sub ab col dd k0 k1 k2 k3 k5 newId))
  (kl:Looks (aV prog w) h (typeLookup (.ref C) "__init__") (some (.ref fI))) (hf:h.get? fI=some oI) (hc:oI.cls= .type "function") (hlen:us.length≤aP)
  (k:aJ (aV prog w) (A.under (.builtin "type.__call__" ⟨.ref C::us,[]⟩)) (jS (.ref fI) (.ref (h.objs.size+1)::us)) (fun r s'=>r= .none∧Q (.ref (h.objs.size+1)) s') E ⟨xNew h C us,g,d,t,os⟩) :
  aJ (aV prog w) A (jS (.ref C) us) Q E ⟨h,g,d,t,os⟩:=by
 have z1:=tc_lookup;have z2:=tc_bind (.ref C);have z3:(⟨h,g,d,t,os⟩:ao).TypeIs (.ref C) "type" := ⟨_,hC,rfl⟩;refine gF (codeAny_of_tree ?_);show aJ _ _ (callAny (.ref C) _) _ _ _
 repeat (any_goals (first | assumption | with_reducible refine gn hC ?_ | wp_step))
 refine ⟨rfl,codeAny_call_builtin_at (Code.quiet_builtin _ (by trivial)) entry_typeCall (wpAny_check_type_call_sub hC (xcall_type F T hC kl hf hc hlen ?_))⟩;exact k
end
end L2
namespace L2
open PySem PySem.Spec PySem.W PyProof.Rows Builtin Builtin.ObjectAttr
section
variable {K:Frag}{x P:ai}
theorem x_open {tk:Tok}{v:aa}(kin:K.In s.heap)(J:InstAt s.heap x ox C od)(hm:Looks (aV prog w) s.heap (mroOf (.ref C)) (.ref C:: .ref P::bmVE))(ob:mroIn K C (.type "object")=some true)(na:findIn K (.ref C) name=some none)
  (k:aJ (aV prog w) A.in1 (storeInOwnDict (.ref x) (.ref C) (.str name tk) name v false)
   (fun fin s'=>match fin with | .done f=>R (.ok f) s' | .again c'=>c'.quiet=true∧iE (aV prog w) A c' R s') (fun e s'=>R (.error e) s') s) :
  iE (aV prog w) A (.call (.builtin "object.__setattr__") ⟨[.ref x,.str name tk,v],[]⟩) R s:=by
 have SF:=PySem.F.store_ValueError;have LI:Looks (aV prog w) s.heap (isInstance (.ref x) (.type "object")) true:=J.type.andThen (looks_mroIn kin ob);refine kD SF.slot.plain SF.entry (@check_slot (aV prog w) _ _ s "object.__setattr__" "object" "__setattr__" (.ref x) [.str name tk,v] [] _ SF.kind SF.split LI (SF.args (.ref x) (.str name tk) v) ?_);rw [osa_eq,refuse_eq];refine af (af (J.type.here (af (hm.here ?_))));rw [refuseLoop_ref,refuseLoop_ref,SF.passes];exact aC (af (J.type.here (af ((looks_findIn kin na).here (af (aC k))))))
theorem x_set0 {v:aa}{us:Array aa}{Q:Unit→ao→Prop}(kin:K.In s.heap)(T:XCls K C)(hs:findIn K (.ref C) "__setattr__" =some (some (.builtin "object.__setattr__")))(hm:Looks (aV prog w) s.heap (mroOf (.ref C)) (.ref C:: .ref P::bmVE))(na:findIn K (.ref C) name=some none)
  (e1:s.heap.get? x=some ⟨.ref C,none,.fields us,ox.slots⟩)
  (k:∀ h' tk,h'.Ns1 s.heap.objs.size (fun y=>if y=name then some v else none)→h'.get? x=some ⟨.ref C,some s.heap.objs.size,.fields us,ox.slots⟩→(∀ b o,b≠x→s.heap.get? b=some o→h'.get? b=some o)→Q () { s with heap:=h',toks:=tk }) :
  aJ (aV prog w) A (setAttr (.ref x) name v) Q E s:=by
 have J:InstAt s.heap x ⟨.ref C,none,.fields us,ox.slots⟩ C none:=⟨e1,rfl,rfl,trivial⟩;refine set_plain kin J hs (x_open (s:={ s with toks:=s.toks+1 }) kin J hm T.ob na ?_);obtain ⟨cd,hc,hd⟩:=any_some T.dc;obtain ⟨hh,g,dr,t,os⟩:=s;refine af (aC (af (af (wpAny_loadPart e1 (af ((looks_clsIn kin hc).at ?_))))));rw [hd];simp only [Bool.not_true,Bool.false_eq_true,if_false];rw [qQ (by simp [typeHasDict])];have x1:(hh.push { cls:= .type "dict",data:= .dict #[] }).get? x=some ⟨.ref C,none,.fields us,ox.slots⟩:=ar _ e1;have xs:x≠hh.objs.size:=bE (aE e1);refine af (wpAny_alloc' (af (wpAny_update' x1 (aC ?_))));have d2:((hh.push { cls:= .type "dict",data:= .dict #[] }).update x fun o=>{ cls:=o.cls,dict:=some hh.objs.size,data:=o.data,slots:=o.slots }).get? hh.objs.size=some { cls:= .type "dict",data:= .dict #[] } :=
  (eI _ _ _ _ xs.symm).trans (bz.get?_push_at rfl rfl)
 have n2:((hh.push { cls:= .type "dict",data:= .dict #[] }).update x fun o=>{ cls:=o.cls,dict:=some hh.objs.size,data:=o.data,slots:=o.slots }).Ns hh.objs.size (fun _=>none):=⟨_,#[],_,d2,rfl,fun e he=>qS he (by simp),fun _=>rfl⟩;show aJ _ _ (storeInDict hh.objs.size (.str name t) name v) _ _ _;unfold storeInDict newKeyGuard;refine af (aC (af (wpAny_nsSet1 (bz.Ns1.of_empty n2) fun h' n3 same=>?_)));obtain ⟨oD,eD,pD,gD,hD,cD⟩:=n3.count (Within.cons name v Within.nil);refine af (wpAny_lookBehind gD (by rw [hD];exact pastItsLine_dict (aS cD (by rw [aM,List.length_nil,eY];lia))) ?_);refine aC (k h' _ n3 ?_ fun b o nb e=>?_)
 ·exact (same.2 x xs).trans (eR _ x1 rfl)
 ·exact (same.2 b (bE (aE e))).trans ((eI _ _ _ _ nb).trans (ar _ e))
theorem x_set1 {v:aa}{us:Array aa}{ns:List Str}{Q:Unit→ao→Prop}(kin:K.In s.heap)(T:XCls K C)(hs:findIn K (.ref C) "__setattr__" =some (some (.builtin "object.__setattr__")))(hm:Looks (aV prog w) s.heap (mroOf (.ref C)) (.ref C:: .ref P::bmVE))(na:findIn K (.ref C) name=some none)
  (e1:s.heap.get? x=some ⟨.ref C,some D,.fields us,ox.slots⟩) (n1:s.heap.Ns1 D mA) (hw:Within mA ns) (hz:ns.length<1000)
  (k:∀ h' tk,h'.Ns1 D (fun y=>if y=name then some v else mA y)→dm D s.heap h'→Q () { s with heap:=h',toks:=tk }) :
  aJ (aV prog w) A (setAttr (.ref x) name v) Q E s:=by
 obtain ⟨oA,q1,_⟩:=pR n1;have J:InstAt s.heap x ⟨.ref C,some D,.fields us,ox.slots⟩ C (some oA):=⟨e1,rfl,rfl,q1⟩;refine set_plain kin J hs (x_open (s:={ s with toks:=s.toks+1 }) kin J hm T.ob na ?_);obtain ⟨cd,hc,hd⟩:=any_some T.dc;obtain ⟨hh,g,dr,t,os⟩:=s;refine af (aC (af (af (wpAny_loadPart e1 (af ((looks_clsIn kin hc).at ?_))))));rw [hd];refine aC (a:=some D) (af (aC (af (wpAny_nsSet1 n1 fun h' n3 same=>?_))));obtain ⟨oD,eD,pD,gD,hD,cD⟩:=n3.count (Within.cons name v hw);refine af (wpAny_lookBehind gD (by rw [hD];exact pastItsLine_dict (aS cD (by rw [aM,eY];lia))) ?_);exact aC (k h' _ n3 same)
end
end L2
namespace L2
open PySem PySem.Spec PySem.W PyProof.Rows
def XN (x C:ai)(d:Option ai):HO:= .ext fun h=>∃ o us z0,h.get? x=some o∧o.cls= .ref C∧o.dict=d∧o.data= .fields us∧us[0]? =some (.ref z0)∧us[1]? =some .none
theorem XN.stay {x:ai}{o:Obj}{us:Array aa}{z0:ai}(p1:h.get? x=some o)(p2:o.cls= .ref C)(p3:o.dict=d)(p4:o.data= .fields us)(p5:us[0]? =some (.ref z0))(p6:us[1]? =some .none):i7 P w H h x (XN x C d) :=
 ⟨⟨o,us,z0,p1,p2,p3,p4,p5,p6⟩,⟨o,p1⟩,fun _ _ ⟨o,us,z0,p,r⟩ k=>⟨o,us,z0,k o p,r⟩⟩
theorem XD.stay {fs:List (Str×V)}(n:h.Ns1 D mA)(r:∀ f,qp (fs.lookup f) (mA f))(wi:PySem.Within mA (fs.map (·.1))):i7 P w H h D (XD D fs) :=
 ⟨⟨mA,n,r,wi⟩,let ⟨o,_,_,e,_⟩:=n;⟨o,e⟩,fun _ _ ⟨mA,⟨o,es,ep,e,c⟩,r⟩ k=>⟨mA,⟨o,es,ep,k o e,c⟩,r⟩⟩
theorem upd_id {x:ai}(e:H x=some o):upd H x o=H:=by
 funext b
 unfold upd;split
 ·rename_i q;rw [q,e]
 ·rfl
structure XMk (K:Frag)(C P f:ai):Prop where
 lk:∃ nm q N bs sn sub ab col dd k0 k1 k2 k3 k5,K.lookup C=some (excClassObj nm q C N bs (.ref P::bmVE) true sn sub ab col dd k0 k1 k2 k3 k5 "ValueError.__new__")
 up:excIn K P bmVE "ValueError.__new__" =true
 init:findIn K (.ref C) "__init__" =some (some (.ref f))
 fn:isFn K (.ref f)=true
 kp:keepIn K (.ref C)=true
 sa:findIn K (.ref C) "__setattr__" =some (some (.builtin "object.__setattr__"))
theorem XMk.tail {K:Frag}{P:ai}(M:XMk K C P f)(kin:K.In h):∃ nm q N bs sn sub ab col dd k0 k1 k2 k3 k5,h.get? C=some (excClassObj nm q C N bs (.ref P::bmVE) true sn sub ab col dd k0 k1 k2 k3 k5 "ValueError.__new__")∧OwnTail h bmVE (.ref P::bmVE):=by
 obtain ⟨nm,q,N,bs,sn,sub,ab,col,dd,k0,k1,k2,k3,k5,e⟩:=M.lk;obtain ⟨tl,N',nm',q',bs',hdct',sn',sub',ab',col',dd',j0,j1,j2,j3,j5,mN,hP,hN,hni,_⟩:=(own_at (mg:=fun _=>some (.ref P)) (x := "") kin rfl M.up).obj;exact ⟨nm,q,N,bs,sn,sub,ab,col,dd,k0,k1,k2,k3,k5,kin _ _ e,.own hP hN hni .base⟩
theorem init_up {x P:ai}{a b:aa}(I:Inv X aH σ H s)(e:H x=some (XN x C d))(M:XMk X.K C P f)(k:∀ s',Inv X aH σ H s'→Q .none s') :
  aJ (aV X.prog X.w) A (jS (.builtin "ValueError.__init__") [.ref x,a,b]) Q E s:=by
 have F:=PySem.F.excBase_ValueError;obtain ⟨⟨o,us,z0,p1,p2,p3,p4,p5,p6⟩,_,_⟩:=I.hok x _ e;obtain ⟨nm,q,N,bs,sn,sub,ab,col,dd,k0,k1,k2,k3,k5,hC,T⟩:=M.tail I.kIn;obtain ⟨hh,g,dr,t,os⟩:=s;refine gF (kD F.init.plain F.initEntry (wpAny_check_init_subT F T hC p1 p2 ?_));have ob:(hh.push { cls:= .type "tuple",data:= .seq [a,b].toArray }).get? x=some o:=ar _ p1;unfold cZ.«BaseException.__init__»
 repeat (first | with_reducible refine cG ob p4 p5 ?_ | with_reducible refine jO ob p4 (eh.mp p5).1 ?_ | wp_step)
 have I1:Inv X aH σ H ⟨hh.push { cls:= .type "tuple",data:= .seq [a,b].toArray },g,dr,t,os⟩:=I.kept (t':=t) fun b u q=>ar _ q
 have sz:0<us.size:=(eh.mp p5).1;have n1:=eR (gf (·.setIfInBounds 0 (aa.ref hh.objs.size))) ob (jL (fO p4 _));have I2:=I1.write (x:=x) (e:=x) (o:=XN x C d) (t':=t) (h':=(hh.push { cls:= .type "tuple",data:= .seq [a,b].toArray }).update x (gf (·.setIfInBounds 0 (aa.ref hh.objs.size)))) (by rw [e];exact True.intro) (.inl rfl) (fun b u nb q=>(cU _ _ nb.symm).trans q) ⟨_,n1⟩
  (XN.stay n1 ((Obj.cls_mapFields _ _).trans p2) ((mG _ _).trans p3) (fO p4 _) (z0:=hh.objs.size) (by simp [sz]) (by rw [Array.getElem?_setIfInBounds_ne (by decide)];exact p6))
 rw [upd_id e] at I2;exact k _ I2
structure UpCls (K:Frag)(P:ai):Prop where
 ga:specialIn K (.ref P) "__getattribute__" =some (some (.builtin "type.__getattribute__"))
 rd:readsIn K P (.type "type")=true
 at_:findCls K (.ref P) (.type "type") "__init__" =some (.val (.builtin "ValueError.__init__"))
theorem xlaid (I:Inv X aH σ H s)(J:Inv X aH σ H' s')(nD:H' D=none)(hp:s.heap.objs.size≤D)(new:i7 X.prog X.w (upd H' D o) s'.heap D o):Inv X aH σ (upd H' D o) s':=by
 have low:∀ b,b<s.heap.objs.size→b≠D:=fun b hb z=>by rw [z] at hb;exact eC _ (aL hb hp)
 refine ⟨J.ok,J.os,J.bare,{ keep:=J.base.keep,slot:=J.base.slot,free:=fun b u e n x=>?_,there:=J.base.there,tups:=fun b xs e=>?_,frzs:=fun b u v e=>?_,tbls:=fun b ps e=>?_ },J.loc,J.cell,?_,fun y c e=>?_,fun p m=>?_,J.hok.take nD new,J.len⟩
 ·rw [bc (low b (aL (aE e) I.sz))];exact J.base.free b u e n x
 ·have q:=J.base.tups b xs e
  rw [bc (bw q nD)];exact q
 ·have q:=J.base.frzs b u v e
  rw [bc (bw q nD)];exact q
 ·obtain ⟨more,q⟩:=J.base.tbls b ps e
  exact ⟨more,by rw [bc (bw q nD)];exact q⟩
 ·rw [bc (low _ I.lt)];exact J.free
 ·obtain ⟨v,u,q,_⟩:=I.cell y c e
  rw [bc (low _ (aE q))];exact J.freeC y c e
 ·obtain ⟨a1,a2,a3,a4,a5⟩:=J.pin p m
  refine ⟨a1,?_,a3,a4,a5⟩;rw [bc (low _ (aE (I.pin p m).1))];exact a2
theorem pe_upInit {P f0:ai}{e1 e2 e3:Expr}{p:Pos}{pl:Sem Bool}(U:UpCls X.K P)(M:XMk X.K C P f0)(hg:Gl X x)(hm:X.mg x=some (.ref P))(ha:PA X [e1,e2,e3] t)
  (hdb:(x == ("__debug__" :Str))=false:=by decide) (hst:br [e1,e2,e3] X.env=(false,dH e1 X.env)::br [e2,e3] X.env:=by rfl) (hpl:(fE pos (br [e2,e3] X.env)).any (·.1)=false:=by rfl)
  (ht:dH (.Call (.Attribute (.Name x p) "__init__" apos) [e1,e2,e3] [] pos) X.env=(do
   let ov ← dH (.Name x p) X.env
   standAt apos.atName
   let (f,first) ← holding [ov] (getMethod ov "__init__" pl)
   callWith pos f first (fE pos (br [e1,e2,e3] X.env)) (backToKw pos (keywordEach [] X.env))):=by rfl) :
  PE X (.Call (.Attribute (.Name x p) "__init__" apos) [e1,e2,e3] [] pos) (fun σ H Q=>t σ H fun vs H1=>∃ y a b d,vs=[.ref y,a,b]∧H1 y=some (XN y C d)∧Q .non H1):=by
 intro aH s σ H Q I h;refine methodCall_KW (pl:=pl) (lW I hg hm ?_ hdb) ht;refine method_cls I.kIn U.ga (cls_value I.kIn U.rd U.at_ rfl ?_);have I0:Inv X aH σ H { s with toks:=s.toks+1 }:=I.tok _;refine PyProof.Rows.callWith_builtin1 (thn (ha pos aH _ σ H _ I0 h) fun us s1 ⟨vs,H1,I1,r,y,a,b,d,ev,ey,q⟩=>?_) hst hpl;subst ev;cases r with
 | cons r1 r =>
 cases r with
 | cons r2 r =>
 cases r with
 | cons r3 r =>
 cases r;obtain rfl:_=aa.ref y:=r1;exact init_up I1 ey M fun s' I'=>⟨.non,H1,I',rfl,q⟩
theorem XMk.mro {K:Frag}{C P f:ai}{h:bz}{M':Model}(M:XMk K C P f)(kin:K.In h):Looks M' h (mroOf (.ref C)) (.ref C:: .ref P::bmVE):=by
 obtain ⟨nm,q,N,bs,sn,sub,ab,col,dd,k0,k1,k2,k3,k5,e⟩:=M.lk;have hc:clsIn K C=some { name:=nm,bases:=bs,mro:= .ref C:: .ref P::bmVE,ns:=N,qualname:=q,hasDict:=true,slotNames:=sn,subclasses:=sub,abstract:=ab,collection:=col,hasDel:=false }:=by
  unfold clsIn;rw [e]
 exact (looks_clsIn kin hc).andThen .now
theorem ps_xset {P f0:ai}{o:Expr}{f:Str}(M:XMk X.K C P f0)(T:XCls X.K C)(na:kt X.K C f)(ha:PE X o ta)(hv:PE X value tv)(hs:kf value (some (.Attribute o f pos')) pos.line X.env=fj false:=by rfl) :
  PS X (.Assign [.Attribute o f pos'] value pos) (fun Dn σ H=>tv σ H fun y H1=>ta σ H1 fun x H2=>∃ a,x= .ref a ∧
   ((H2 a=some (XN a C none)∧∀ D,H2 D=none→D≠a→Dn.nx σ (upd (upd H2 a (XN a C (some D))) D (XD D [(f,y)]))) ∨
    (∃ D fs,H2 a=some (XN a C (some D))∧H2 D=some (XD D fs)∧D≠a∧fs.length<1000∧Dn.nx σ (upd H2 D (XD D (mz f y fs)))))):=by
 intro aH s σ H Dn I h;refine plainObj_wpAny_Assign_Attribute (thn (hv aH s σ H _ I h) fun u s1 ⟨y,H1,I1,ry,q⟩=>thn (ha aH s1 σ H1 _ I1 q) fun ov s2 ⟨x,H2,I2,rx,a,ex,q2⟩=>?_) hs;subst ex;obtain rfl:ov=aa.ref a:=rx
 rcases q2 with ⟨ea,q2⟩ | ⟨D,fs,ea,eD,nD,lf,q2⟩
 ·obtain ⟨⟨⟨oc,odi,oda,osl⟩,us,z0,p1,p2,p3,p4,p5,p6⟩,_,_⟩:=I2.hok a _ ea
  dsimp only at p2 p3 p4
  subst p2 p3 p4;refine x_set0 (ox:=⟨.ref C,none,.fields us,osl⟩) I2.kIn T M.sa (M.mro I2.kIn) na p1 fun h' tk n3 e3 k3=>?_
  have fresh:H2 s2.heap.objs.size=none:=I2.hok.fresh (aA _);have ne:s2.heap.objs.size≠a:=cy (aE p1);have J1:Inv X aH σ (upd H2 a (XN a C (some s2.heap.objs.size))) { s2 with heap:=h',toks:=tk } :=
   I2.write (x:=a) (e:=a) (by rw [ea];exact True.intro) (.inl rfl) (fun b u nb q=>k3 b u nb q) ⟨_,e3⟩ (XN.stay e3 rfl rfl rfl p5 p6)
  have g1:upd H2 a (XN a C (some s2.heap.objs.size)) s2.heap.objs.size=none:=by rw [bc ne];exact fresh
  refine ⟨σ,_,?_,q2 _ fresh ne⟩;refine xlaid I2 J1 g1 (aA _) (XD.stay n3 (fun g=>?_) fun g hg=>?_)
  ·show qp (dk g [(f,y)]) (if g=f then some u else none)
   by_cases z:g=f
   ·subst z;simp [dk];exact ry
   ·have z':(g == f)=false:=by simpa using z
    rw [qQ z];simp [dk,z'];trivial
  ·by_cases z:g=f
   ·rw [z];simp
   ·exact qS (by rw [qQ z]) hg
 ·obtain ⟨⟨⟨oc,odi,oda,osl⟩,us,z0,p1,p2,p3,p4,p5,p6⟩,_,_⟩:=I2.hok a _ ea
  dsimp only at p2 p3 p4
  subst p2 p3 p4;obtain ⟨⟨mA,n1,rl,wi⟩,_,_⟩:=I2.hok D _ eD;refine x_set1 (ox:=⟨.ref C,some D,.fields us,osl⟩) (ns:=fs.map (·.1)) I2.kIn T M.sa (M.mro I2.kIn) na p1 n1 wi (by rw [ae];exact lf) fun h' tk n3 same=>?_
  refine ⟨σ,_,I2.write (x:=D) (e:=D) (by rw [eD];exact True.intro) (.inl rfl) (fun b u nb q=>(same.2 b nb).trans q) (let ⟨o,_,_,e,_⟩:=n3;⟨o,e⟩) (XD.stay n3 (fun g=>?_) fun g hg=>?_),q2⟩
  ·show qp ((mz f y fs).lookup g) (if g=f then some u else mA g)
   rw [ka]
   by_cases q:g=f
   ·rw [qR q,qR q];exact ry
   ·rw [qQ q,qQ q];exact rl g
  ·by_cases q:g=f
   ·rw [q];exact (lY f y fs).1
   ·refine (lY f y fs).2 g (wi g fun z=>hg ?_)
    show (if g=f then some u else mA g)=none;rw [qQ q];exact z
def oq (H:Hp)(x:ai):Hp:=fun b=>if b=x then none else H b
theorem dropH_at {x:ai}:oq H x x=none:=by unfold oq;rw [qR rfl]
theorem mw {x b:ai}(n:b≠x):oq H x b=H b:=by unfold oq;rw [qQ n]
theorem dropH_two {x:ai}{u:HO}(n:H x=none)(ne:D≠x):oq (upd (upd H x o) D u) x=upd H D u:=by
 funext b
 unfold oq upd
 by_cases q:b=x
 ·rw [qR q,q,qQ (bX ne),n]
 ·rw [qQ q,qQ q]
theorem Inv.drop {x:ai}(I:Inv X aH σ H s)(e:H x=some (XN x C d)):Inv X aH σ (oq H x) s:=by
 have nx:∀ b o,H b=some o→o≠XN x C d→b≠x:=fun b o q n z=>by rw [z,e] at q;exact n (bQ q).symm
 refine ⟨I.ok,I.os,I.bare,{ keep:=I.base.keep,slot:=I.base.slot,free:=fun b u q n z=>?_,there:=I.base.there,tups:=fun b xs q=>?_,frzs:=fun b u v q=>?_,tbls:=fun b ps q=>?_ },I.loc,I.cell,?_,fun y c q=>?_,fun p m=>?_,fun b o q=>?_,I.len⟩
 ·have:=I.base.free b u q n z
  unfold oq;split
  ·rfl
  ·exact this
 ·have r:=I.base.tups b xs q
  rw [mw (nx b _ r nofun)];exact r
 ·have r:=I.base.frzs b u v q
  rw [mw (nx b _ r nofun)];exact r
 ·obtain ⟨more,r⟩:=I.base.tbls b ps q
  exact ⟨more,by rw [mw (nx b _ r nofun)];exact r⟩
 ·unfold oq
  split
  ·rfl
  ·exact I.free
 ·have:=I.freeC y c q
  unfold oq;split
  ·rfl
  ·exact this
 ·obtain ⟨a1,a2,a3,a4,a5⟩:=I.pin p m
  refine ⟨a1,?_,a3,a4,a5⟩;unfold oq;split
  ·rfl
  ·exact a2
 ·have nb:b≠x:=fun z=>by rw [z,dropH_at] at q;cases q
  rw [mw nb] at q;exact (I.hok b o q).stay (fun _ _ _ r=>r) (fun c r=>by rw [mw (nx c _ r nofun)];exact r) fun c xs r=>by rw [mw (nx c _ r nofun)];exact r
theorem run_makeX {k:Nat}{P:ai}{sp:Sp}{E:XK}{Q:VK}{vs:List V}(M:XMk X.K C P f)(F:cR X.prog X.w X.K X.mg X.base CX k f fd ps sp)(hr:iA (k+1) X.A)(hb:md X.K fd ps ds)(hd:fN dvs ds)
  (hx:ma CX X E) (hz:ps.length≤aP) (I:Inv X aH σ H s) (r:fN vs us)
  (h:∀ y,H y=none→X.s₀.heap.objs.size≤y→sp (.ref y::(vs++dvs)) (upd H y (XN y C none)) (fun v H2=>v= .non∧Q (.ref y) H2) E) :
  aJ (aV X.prog X.w) X.A (jS (.ref C) us) (EP X aH σ Q) X.xe s:=by
 have FB:=PySem.F.excBase_ValueError;obtain ⟨nm,q,N,bs,sn,sub,ab,col,dd,k0,k1,k2,k3,k5,hC,T⟩:=M.tail I.kIn;obtain ⟨oI,ho,hc⟩:=bq.mp (beq_iff_eq.mp M.fn);have sz:=I.sz;obtain ⟨hh,g,dr,t,os⟩:=s;have hq:=h (hh.objs.size+1) (I.hok.fresh (iB _)) (aS sz (iB _));have I2:Inv X aH σ (upd H (hh.objs.size+1) (XN (hh.objs.size+1) C none)) ⟨xNew hh C us,g,dr,t,os⟩ :=
  I.laid (a:=hh.objs.size+1) (t':=t) (fun b u q=>nc q) (iB _) (XN.stay xNew_at rfl rfl rfl (z0:=hh.objs.size) rfl rfl)
 have r2:fN (V.ref (hh.objs.size+1)::(vs++dvs)) (aa.ref (hh.objs.size+1)::(us++ds)):= .cons rfl (r.append hd);have hl:(aa.ref (hh.objs.size+1)::us++ds).length=ps.length:=by
  have e:=r2.length;rw [F.len _ _ _ _ hq] at e;exact e.symm
 have hlen:us.length≤aP:=by
  rw [List.cons_append,aM,au] at hl;lia
 refine xcall FB T hC (looks_findIn I.kIn M.init) (I.kIn _ _ ho) hc hlen ?_;refine gF (g9 (F.run _ X.stack _ _ ⟨aa.ref (hh.objs.size+1)::us,[]⟩ (aa.ref (hh.objs.size+1)::(us++ds)) _ _ E (hr.make C us []) (I2.env0.make C us []) (hb _ (aa.ref (hh.objs.size+1)::us) I2.kIn hl) r2 hq) fun r s' hq'=>?_);cases r with
 | error e=>exact hx aH σ _ _ e s' I2 hq'
 | ok fl =>
  cases fl with
  | ret u =>
   obtain ⟨v,H',I3,rv,ev,q3⟩:=I2.after hq';subst ev;exact ⟨rv,⟨V.ref (hh.objs.size+1),H',I3,rfl,q3⟩⟩
  | next=>exact cf hq'
  | brk=>exact cf hq'
  | cont=>exact cf hq'
theorem pe_makeX {k:Nat}{P:ai}{sp:Sp}{E:XK}{p:Pos}(M:XMk X.K C P f)(F:cR X.prog X.w X.K X.mg X.base CX k f fd ps sp)(hr:iA (k+1) X.A)(hg:Gl X x)(hm:X.mg x=some (.ref C))(hb:md X.K fd ps ds)(hd:fN dvs ds)(hx:ma CX X E)(hz:ps.length≤aP)
  (ha:PA X (e::es) t) (hdb:(x == ("__debug__" :Str))=false:=by decide) (he:br (e::es) X.env=(false,dH e X.env)::br es X.env:=by rfl) (hpl:(fE pos (br es X.env)).any (·.1)=false:=by rfl) :
  PE X (.Call (.Name x p) (e::es) [] pos) (fun σ H Q=>t σ H fun vs H1=>∀ y,H1 y=none→X.s₀.heap.objs.size≤y→sp (.ref y::(vs++dvs)) (upd H1 y (XN y C none)) (fun v H2=>v= .non∧Q (.ref y) H2) E):=by
 intro aH s σ H Q I h;refine cY (lW I hg hm ?_ hdb);refine callWith_K (h₀:=X.base) I.ok.mod.kin M.kp (thn (ha pos aH s σ H _ I h) fun us s1 ⟨vs,H1,I1,r,q⟩=>⟨I1.kIn,?_⟩) he hpl;exact run_makeX M F hr hb hd hx hz I1 r q
theorem raise_made {nm:Str}{N:ai}{bs bm:List aa}{ab:Bool}{k0 k1 k2 k3 k5:Option aa}{v:Sem aa}{Q:Flow→ao→Prop}(hbase:bm.contains (.type "BaseException")=true)(hh:A.handled=none)
  (h:aJ M A v (fun u s1=>∃ e d us z0 sl,u= .ref e∧s1.heap.get? C=some (excClassObj nm q C N bs bm hdct sn sub ab col dd k0 k1 k2 k3 k5 newId)∧s1.heap.get? e=some ⟨.ref C,d,.fields us,sl⟩∧us[0]? =some z0∧us[1]? =some .none∧E (.ref e) s1) E s) :
  aJ M A (raiseStmt env (some v) none) Q E s:=by
 have hcB:(aa.ref C::bm).contains (.type "BaseException")=true:=by rw [List.contains_cons,hbase,Bool.or_true]
 unfold raiseStmt;refine af (bP h (fun u s1 h1=>?_) fun _ _ z=>z);obtain ⟨e,d,us,z0,sl,rfl,hC,he,e0,en,hE⟩:=h1;obtain ⟨hp,g,dr,tk,os⟩:=s1
 repeat (first | with_reducible refine cG he rfl en ?_ | with_reducible refine gn he ?_ | with_reducible refine gn hC ?_ | (with_reducible refine wpAny_isSubtype_exc hC ?_;rw [hcB]) | wp_step)
 exact wpAny_raiseNew_none hh hE
theorem ps_raiseV {E:XK}{P:ai}(D:XDef X E)(hc:X.calm=true)(M:XMk X.K C P f)(he:PE X e te) :
  PS X (.Raise (some e) none pos) (fun _ σ H=>te σ H fun v H1=>∃ y d,v= .ref y∧X.s₀.heap.objs.size≤y∧H1 y=some (XN y C d)∧E (.ref C) d (oq H1 y)):=by
 intro aH s σ H Dn I h;obtain ⟨nm,q,N,bs,sn,sub,ab,col,dd,k0,k1,k2,k3,k5,hC,T⟩:=M.tail I.ok.mod.kin;rw [arm_exec_Raise];simp only [evalOpt,Option.map];refine af (wpAny_standAt (raise_made (C:=C) (nm:=nm) (q:=q) (N:=N) (bs:=bs) (bm:= .ref P::bmVE) (hdct:=true) (sn:=sn) (sub:=sub) (ab:=ab) (col:=col) (dd:=dd) (k0:=k0) (k1:=k1) (k2:=k2) (k3:=k3) (k5:=k5) (newId := "ValueError.__new__") (T.hasType rfl) (I.ok.hd hc) ?_));refine af (bP (he aH s σ H _ I h) (fun v s3 h3=>af (wpAny_standAt (aC ?_))) fun _ _ z=>z);obtain ⟨w,H1,I1,rw1,y,d,rfl,far,ey,hE⟩:=h3;obtain rfl:v=aa.ref y:=rw1;obtain ⟨⟨⟨oc,odi,oda,osl⟩,us,z0,p1,p2,p3,p4,p5,p6⟩,_,_⟩:=I1.hok y _ ey
 dsimp only at p2 p3 p4
 subst p2 p3 p4;exact ⟨y,odi,us,_,osl,rfl,I1.bk _ _ hC,p1,p5,p6,D.made aH σ (oq H1 y) s3 y _ us _ (I1.drop ey) dropH_at (bz.get?_none_of_le far) p1 rfl p6 p5 hE⟩
end L2
namespace HN
open PySem L2 PyProof.Rows
def tgF (a b:Int):List (Str×V):=mz "most" (.int b) [("many",.int a)]
theorem tgF_many {a:Int}:(tgF a b).lookup ("many" :Str)=some (V.int a):=by unfold tgF;rw [ka];rfl
theorem tgF_most {a:Int}:(tgF a b).lookup ("most" :Str)=some (V.int b):=by unfold tgF;rw [ka];rfl
def XE (C:ai)(a b:Int)(E:XK)(H:Hp):Prop:=∀ D H',bJ H H'→H' D=some (XD D (tgF a b))→E (.ref C) (some D) H'
inductive spInitTG (C:ai)(vs:List V)(H:Hp)(Q:VK)(_:XK):Prop
 | mk (x:ai)(a b:Int)(_:vs=[.ref x,.int a,.int b])(_:H x=some (XN x C none))(_:∀ D,H D=none→D≠x→Q .non (upd (upd H x (XN x C (some D))) D (XD D (tgF a b))))
structure TGc (K:aq)(mg:Str→Option aa)(C P f:ai):Prop where
 mke:XMk K C P f
 up:UpCls K P
 cl:XCls K C
 na1:kt K C "many"
 na2:kt K C "most"
 mgC:mg "TooGreat" =some (.ref C)
 mgP:mg "HourError" =some (.ref P)
abbrev cTooG:cF:=top 7
abbrev sInitTG:cF:=clsDef cTooG 0
theorem scInitTG:cp pzr pzr (defScope sInitTG):=by trivial
theorem ok_initTG {U:ai}(F:Fun K "__init__" "TooGreat.__init__" sInitTG f fd)(T:TGc K mg C U f):cR P w K mg base CX0 1 f fd pzr (spInitTG C):=by
 refine F.ok scInitTG (by contradiction) (fun cdv A outer s H vs Q E hr h=>?_);obtain ⟨x,a,b,rfl,hx,k⟩:=h;refine ⟨_,PSl.h (bg ⟨(iX (pe_upInit T.up T.mke rfl T.mgP (ak (pv 0) (ak (pv 1) (ak (pv 2) aI)))))⟩
  (bg ⟨(ps_xset T.mke T.cl T.na1 (pv 0) (pv 1))⟩
  (dF ⟨(ps_xset T.mke T.cl T.na2 (pv 0) (pv 2))⟩))),?_⟩
 refine ⟨_,rfl,_,rfl,_,rfl,x,_,_,none,rfl,hx,?_⟩;refine ⟨_,rfl,_,rfl,x,rfl,.inl ⟨hx,fun D nD ne=>?_⟩⟩;refine ⟨_,rfl,_,rfl,x,rfl,.inr ⟨D,_,by rw [bc (bX ne)];exact aX,aX,ne,by show 1<1000;decide,?_⟩⟩;rw [upd_upd];exact k D nD ne
end HN
namespace L2
open PySem PySem.Spec PyProof.Rows
theorem cR.up {k:Nat}{sp:Sp}(F:cR P w K mg base CX0 k f fd ps sp):cR P w K mg base CX k f fd ps sp :=
 ⟨F.len,fun A outer s H args us vs Q E hr he hb hv hs=>g9 (F.run A outer s H args us vs Q E hr he hb hv hs) fun r s' h=>by
  cases r with
  | error e=>exact h.elim
  | ok c=>cases c <;> exact h⟩
theorem cR.or {k:Nat}{sp sp':Sp}(F:cR P w K mg base CX k f fd ps sp)(G:cR P w K mg base CX k f fd ps sp'):cR P w K mg base CX k f fd ps (fun vs H Q E=>sp vs H Q E∨sp' vs H Q E) :=
 ⟨fun vs H Q E h=>h.elim (F.len vs H Q E) (G.len vs H Q E),fun A outer s H args us vs Q E hr he hb hv hs=>hs.elim (F.run A outer s H args us vs Q E hr he hb hv) (G.run A outer s H args us vs Q E hr he hb hv)⟩
end L2
namespace HN
open PySem L2 PyProof.Rows
inductive spTooM (C:ai)(T0:ai)(p0:Pos)(q0:Str)(vs:List V)(H:Hp)(_:VK)(E:XK):Prop
 | mk (v:V)(b m mn:Int)(sp:List Sn)(_:vs=[v])(_:IsD H v (lM b m sp))(_:kd b m sp)(_:(∀ l,iM m.toNat sp l→jJ sp l=mn))(_:4096<mn)(_:L2.LamT T0 p0 q0 H)(_:∀ H',L2.Tb T0 H H'→L2.LamT T0 p0 q0 H'→XE C mn 4096 E H')
theorem passX {E:XK}:ma CX0 X E:=fun _ _ _ _ _ _ _ h=>h.elim
theorem pcX {E:XK}{k:Nat}{sp:Sp}{p:Pos}(G:Fn X.K X.mg x st ps f fd)(F:cR X.prog X.w X.K X.mg X.base (CXN X.prog X.w) k f fd ps sp)(hr:iA k X.A)(hx:ma (CXN X.prog X.w) X E)
  (ha:PA X (e::es) t) (hg:Gl X x:=by rfl) (hdb:(x == ("__debug__" :Str))=false:=by decide) (he:br (e::es) X.env=(false,dH e X.env)::br es X.env:=by rfl) (hpl:(fE pos (br es X.env)).any (·.1)=false:=by rfl) :
  PE X (.Call (.Name x p) (e::es) [] pos) (tCall sp [] E t):=pe_call F hr hg G.mg G.F.kp G.b .nil hx ha hdb he hpl
theorem ok_tooMany {U fi:ai}{fdi:bf}(F:Fun K "table_for" "table_for" jk f fd)(MC:∃ t,mg "MOST_CASES" =some (.int 4096 t))(TG:TGc K mg C U fi)(FI:cR P w K mg base CX0 1 fi fdi pzr (spInitTG C))(BI:md K fdi pzr [])
  (G1:Fn K mg "cases_of" sCases pza f1 fd1) (F1:cR P w K mg base CX0 7 f1 fd1 pza (spCases T0 p0 q0)):cR P w K mg base (CXN P w) 12 f fd pza (spTooM C T0 p0 q0):=by
 refine F.okX nk (by contradiction) (fun cdv A outer s H vs Q E hr D h=>?_);obtain ⟨v,b,m,mn,sp,rfl,hv,N,hc,big,hT0,kE⟩:=h;have hr2:iA 2 _:=hr.mono (by decide);have hr7:iA 7 _:=hr.mono (by decide);refine ⟨_,PSl.h (bg ⟨(psZ 1 nk.nd (pc1 G1 F1 hr7 (ak (pv 0) aI)))⟩
  (bg ⟨(kh (dB op_gt (pv 1) (pe_gint MC) (fg _)) (dE (ps_raiseV D rfl TG.mke (pe_makeX (E:=E0) TG.mke FI hr2 rfl TG.mgC BI .nil passX (by decide) (ak (pv 1) (ak (pe_gint MC) aI))))) gH)⟩
  (bg ⟨nu⟩ (bg ⟨nu⟩ (dF ⟨nu⟩))))),?_⟩
 refine ⟨_,rfl,v,b,m,sp,rfl,hv,N,by have:=N.b2;lia,hT0,fun H1 l tb1 hT01 fr=>?_⟩;rw [hc l fr];refine ⟨_,rfl,_,_,rfl,rfl,_,rfl,iteB (qT big) ?_⟩;refine ⟨_,rfl,fun y ny far=>⟨y,_,_,rfl,aX,fun d nd ne=>⟨rfl,y,some d,rfl,far,?_,?_⟩⟩⟩
 ·rw [bc (bX ne)];exact aX
 ·rw [upd_upd,dropH_two ny ne]
  rw [bc ne] at nd;exact kE H1 tb1 hT01 d _ ((bJ.refl H1).put nd) aX
theorem ok_bestM (F:Fun K "best_for" "best_for" lL f fd)(G1:Fn K mg "table_for" jk pza f1 fd1)(F1:cR P w K mg base (CXN P w) 12 f1 fd1 pza (spTooM C T0 p0 q0)):cR P w K mg base (CXN P w) 13 f fd pza (spTooM C T0 p0 q0):=by
 refine F.okX mO (by contradiction) (fun cdv A outer s H vs Q E hr D h=>?_);obtain ⟨v,b,m,mn,sp,rfl,h1,h2,h3,h4,h5,h6⟩:=h;exact ⟨_,PSl.h (bg ⟨(psZ 1 mO.nd (pcX G1 F1 hr D.pass (ak (pv 0) aI)))⟩ (bg ⟨nu⟩ (bg ⟨nu⟩ (bg ⟨nu⟩ (bg ⟨nu⟩ (dF ⟨nu⟩)))))),_,rfl,v,b,m,mn,sp,rfl,h1,h2,h3,h4,h5,h6⟩
abbrev sTld:cF:=top 59
structure TGs (K:aq)(mg:Str→Option aa)(C c1 c2 c3 c4 c5 c6:ai):Prop where
 m1:mg "NoOrder" =some (.ref c1)
 m2:mg "NoPlan" =some (.ref c2)
 m3:mg "NoText" =some (.ref c3)
 m4:mg "NoWay" =some (.ref c4)
 m5:mg "OtherBeats" =some (.ref c5)
 m6:mg "TooWide" =some (.ref c6)
 mv:mg "ValueError" =none
 k1:PySem.W.kitAny K (.ref C) [.ref c1,.ref c2,.ref c3,.ref c4,.ref c5,.ref c6]=some false
 kv:jd K (.ref C) (.type "ValueError")=some true
theorem boot_VE:jT "ValueError" =some (.type "ValueError"):=by trivial
theorem kit_self:jd K (.ref C) (.ref C)=some true:=by unfold jd;simp
theorem isxK (K:aq)(hK:X.K=K:=by rfl):lJ X (.builtin "isinstance") (fun xs H Q=>∃ a C d b,(∃ D,xs=[.ref a,.ref D]∧jd K (.ref C) (.ref D)=some b)∧H a=some (lZ a C d)∧(∀ D,d=some D→∃ fs,H D=some (XD D fs))∧XCls K C∧Q (.bl b) H):=by subst hK;exact call_isx
theorem isxBK (K:aq)(T0:String)(hK:X.K=K:=by rfl):lJ X (.builtin "isinstance") (fun xs H Q=>∃ a C d b,(xs=[.ref a,.ty T0]∧jd K (.ref C) (.type T0)=some b)∧H a=some (lZ a C d)∧(∀ D,d=some D→∃ fs,H D=some (XD D fs))∧XCls K C∧Q (.bl b) H):=by subst hK;exact call_isxB
theorem isxTK (K:aq)(hK:X.K=K:=by rfl):lJ X (.builtin "isinstance") (fun xs H Q=>∃ a C d b t,∃ ds:List ai,xs=[.ref a,.ref t]∧H t=some (.tup (ds.map V.ref))∧PySem.W.kitAny K (.ref C) (ds.map aa.ref)=some b∧H a=some (lZ a C d)∧(∀ D,d=some D→∃ fs,H D=some (XD D fs))∧XCls K C∧Q (.bl b) H):=by subst hK;exact call_isxT
theorem xfldK (K:aq){f:Str}(he:PE X e ta)(hb:kr e f X.env (dH e X.env)=dH e X.env:=by rfl)(hK:X.K=K:=by rfl) :
  PE X (.Attribute e f pos) (fun σ H Q=>ta σ H fun x H1=>∃ a C D fs v,x= .ref a∧H1 a=some (lZ a C (some D))∧H1 D=some (XD D fs)∧XCls K C∧kt K C f∧fs.lookup f=some v∧Q v H1):=by subst hK;exact pe_xfld he hb
inductive spTldB (T0:ai)(p0:Pos)(q0:Str)(T1:ai)(p1:Pos)(q1:Str)(T2 T3:ai)(vs:List V)(H:Hp)(Q:VK)(_:XK):Prop
 | mk (v:V)(b m mn:Int)(sp:List Sn)(_:vs=[v])(_:IsD H v (lM b m sp))(_:kd b m sp)(_:(∀ l,iM m.toNat sp l→jJ sp l=mn))(_:(∃ T,ki b T sp=true∧eJ b T sp=0))(_:L2.LamT T0 p0 q0 H)(_:L2.LamT T1 p1 q1 H)(_:L2.LamT T2 lpT lqT H)(_:L2.LamG T3 lqB H)(_:∀ (q:ai) (H':Hp),Kp H H'→L2.LamT T0 p0 q0 H'→L2.LamT T1 p1 q1 H'→L2.LamT T2 lpT lqT H'→L2.LamG T3 lqB H'→((4096<mn∧∃ L,H' q=some (.tup [.non,.ref L])∧H' L=some (.lst [.int mn,.int 4096]))∨mn≤4096∧∃ qa x z,H' q=some (.tup [.ref qa,.non])∧H' qa=some (.tup (.str "best" :: x:: .int 0::z)))→Q (.ref q) H')
theorem wait_nn {b:Int}{ts:List Int}(hb:1≤b):∀ (sp:List Sn),(∀ x∈sp,0≤x.w∧x.w≤1000000000000)→0≤eJ b ts sp
 | [],_=>fH 0
 | x::sp,h=>by
  have a:=wait_nn (ts:=ts) hb sp fun y hy=>h y (aw _ hy)
  have:0≤x.w * fT b ts x:=Int.mul_nonneg (h x (by simp)).1 (dX _ (by lia));show 0≤x.w * fT b ts x+eJ b ts sp;lia
theorem scTld:cp ["_law_net","_law_told_here","_law_fields","_law_other","e"] ["_law_net"] (defScope sTld):=by trivial
theorem ok_tldB {U fi c1 c2 c3 c4 c5 c6 TT T3:ai}(F:Fun K "_law_told" "_law_told" sTld f fd)(T:Nm mg)(TG:TGc K mg C U fi)(TO:TGs K mg C c1 c2 c3 c4 c5 c6)(TU:Exc K mg "HourError" U)(UN:Under K C U)(n1:T1≠T0)(n2:TT≠T0)(n3:T3≠T0)
  (G2:Fn K mg "best_for" lL pza f2 fd2) (F2:cR P w K mg base (CXN P w) 13 f2 fd2 pza (fun vs H Q E=>spTooM C T0 p0 q0 vs H Q E∨spBest T0 p0 q0 T1 p1 q1 TT T3 vs H Q E)):cR P w K mg base CX0 14 f fd ["_law_net"] (spTldB T0 p0 q0 T1 p1 q1 TT T3):=by
 refine F.ok scTld (by contradiction) (fun cdv A outer s H vs Q E hr h=>?_);obtain ⟨v,b,m,mn,sp,rfl,hv,N,hc,⟨tf,hf,wf⟩,hT0,hT1,hT2,hT3,k⟩:=h;refine ⟨_,k9 (psZ 1 scTld.nd mF)
  (k9 (psZ 2 scTld.nd mF)
  (k9 (ps_tryAs (iN:=4) rfl rfl scTld.nd rfl rfl TU (fun pn W σ0 E hp=>(dE (psZ 1 scTld.nd (pe_callS F2 hr rfl G2.mg G2.F.kp G2.b .nil hp (ak (pv 0) aI)))))
   (fun pn e=>(PSl.h (bg ⟨(psZ 3 scTld.nd (dO (isxTK K) rfl T.isin boot_isinstance (ak (pv 4) (ak (dU (ak (lU (v:= .ref c1) rfl TO.m1 rfl) (ak (lU (v:= .ref c2) rfl TO.m2 rfl) (ak (lU (v:= .ref c3) rfl TO.m3 rfl) (ak (lU (v:= .ref c4) rfl TO.m4 rfl) (ak (lU (v:= .ref c5) rfl TO.m5 rfl) (ak (lU (v:= .ref c6) rfl TO.m6 rfl) aI))))))) aI))))⟩
    (bg ⟨(psZ 2 scTld.nd (pe_lstA (ak mE aI)))⟩
    (dF ⟨(kh (PW.pt (pw_and (pt_val (dO (isxK K) (by rfl) (by exact T.isin) boot_isinstance (ak (pv 4) (ak (lU (v:= .ref C) (by rfl) (by exact TG.mgC) rfl) aI)))) (pw_and (pt_val (dO (isxBK K "ValueError") (by rfl) (by exact T.isin) boot_isinstance (ak (pv 4) (ak (pe_bltn (v:= .ty "ValueError") (by rfl) (by exact TO.mv) boot_VE rfl) aI)))) (pw_and1 (pt_not (pt_val (pv 3))))))) (dE (psZ 2 scTld.nd (pe_lstA (ak (xfldK K (pv 4)) (ak (xfldK K (pv 4)) aI))))) gH)⟩))))))
  (dE (cO (dU (ak (pv 1) (ak (pv 2) aI))))))),?_⟩
 rcases Int.lt_or_le 4096 mn with big | small
 ·refine ⟨rfl,_,rfl,.inl ⟨v,b,m,mn,sp,rfl,hv,N,hc,big,hT0,fun H1 tb t10 D H3 S3 eD=>?_⟩⟩
  have kp1:=Tb.kp hT0 tb;have t11:=LamT.ntb hT1 hT0 n1 tb;have t12:=LamT.ntb hT2 hT0 n2 tb;obtain ⟨ps0,et0⟩:=LamT.tbl hT0;have t13:L2.LamG T3 lqB H1:=hT3.stay (fun ps e=>tb _ _ n3 e) fun a o u e=>tb _ _ (d7 e et0 nofun) e
  refine ⟨C,rfl,UN,fun a na=>?_⟩;have SA:bJ H3 (upd H3 a (lZ a C (some D))):=bJ.put (bJ.refl H3) na;have eA:(upd H3 a (lZ a C (some D))) a=some (lZ a C (some D)):=aX;have eDA:=SA _ _ eD;have S1A:bJ H1 (upd H3 a (lZ a C (some D))):=S3.trans SA;generalize upd H3 a (lZ a C (some D))=HA at SA eA eDA S1A ⊢;have hd:∀ {H':Hp},bJ HA H'→∀ D',some D=some D'→∃ fs,H' D'=some (XD D' fs):=fun S D' e=>by cases e;exact ⟨_,S _ _ eDA⟩
  refine ⟨_,rfl,(by show 6≤aP;decide),fun tp H4 S4 h4=>⟨a,C,some D,false,tp,[c1,c2,c3,c4,c5,c6],rfl,h4,TO.k1,S4 _ _ eA,hd S4,TG.cl,?_⟩⟩;refine ⟨szZ1,fun l5 H5 S5 h5=>?_⟩;have SA5:=S4.trans S5;refine ⟨_,rfl,a,C,some D,true,⟨C,rfl,kit_self⟩,SA5 _ _ eA,hd SA5,TG.cl,_,rfl,ite2 (fun _=>?_) (fun z=>qS rfl z)⟩;refine ⟨_,rfl,a,C,some D,true,⟨rfl,TO.kv⟩,SA5 _ _ eA,hd SA5,TG.cl,_,rfl,ite2 (fun _=>?_) (fun z=>qS rfl z)⟩;refine ⟨_,rfl,_,rfl,ite2 (fun _=>?_) (fun z=>qS rfl z)⟩;refine ⟨_,rfl,a,C,D,_,_,rfl,SA5 _ _ eA,SA5 _ _ eDA,TG.cl,TG.na1,tgF_many,_,rfl,a,C,D,_,_,rfl,SA5 _ _ eA,SA5 _ _ eDA,TG.cl,TG.na2,tgF_most,nS,fun l6 H6 S6 h6=>?_⟩;refine ⟨_,rfl,_,rfl,nS,fun q H7 S7 h7=>?_⟩;have S17:bJ H1 H7:=S1A.trans (SA5.trans (S6.trans S7));exact k q H7 (kp1.trans (bJ.kp S17)) (LamT.same S17 t10) (LamT.same S17 t11) (LamT.same S17 t12) (t13.same S17) (.inl ⟨big,l6,h7,S7 _ _ h6⟩)
 ·refine ⟨rfl,_,rfl,.inr ⟨v,b,m,sp,rfl,hv,N,(fun l F=>by rw [hc l F];exact small),hT0,hT1,hT2,hT3,fun q3 H3 kp a0 a1 a2 a3 ans=>?_⟩⟩
  rcases ans with ⟨_,_,an⟩ | ⟨qt,ts,u3,t,ba⟩
  ·exact qS hf (an.no tf)
  have l1:=ba.least tf hf;have l2:=wait_nn (ts:=ts) N.b1 sp N.ws;have e0:eJ b ts sp=0:=by lia
  have hq:=ba.q;rw [e0] at hq;refine ⟨_,rfl,_,rfl,nS,fun q H7 S7 h7=>?_⟩;exact k q H7 (kp.trans (bJ.kp S7)) (LamT.same S7 a0) (LamT.same S7 a1) (LamT.same S7 a2) (a3.same S7) (.inr ⟨small,q3,_,_,h7,S7 _ _ hq⟩)
end HN
namespace L2
open PySem PySem.Spec PyProof.Rows
theorem op_neLD (hu:X.A.units+64<cLine):OpR X (gm .NotEq) (fun x y H Q=>∃ (a b:ai) (xs ys:List V) (ds es:List Dt),(x= .ref a∧y= .ref b)∧(H a=some (.lst xs)∧H b=some (.lst ys))∧dM H xs ds∧dM H ys es∧ds.length=es.length∧pls ds=true∧pls es=true∧deps ds<60∧Q (.bl (!(eqDs ds es))) H):=by
 intro aH s σ H x y v u Q I rx ry h;obtain ⟨a,b,xs,ys,ds,es,⟨rfl,rfl⟩,⟨ha,hb⟩,r,r',le,pd,pe,hd,q⟩:=h;cases (show v=aa.ref a from rx);cases (show u=aa.ref b from ry);obtain ⟨its,rv,p,_⟩:=I.list (SqL.of (K:=X.K) ha);obtain ⟨its2,rv2,p2,_⟩:=I.list (SqL.of (K:=X.K) hb);have p:s.heap.IsList a its.toArray:=p.isList;have p2:s.heap.IsList b its2.toArray:=p2.isList;have l1:its.length=ds.length:=by rw [←rv.length,r.length]
 have l2:its2.length=es.length:=by rw [←rv2.length,r'.length]
 have key:=SeqAt.RcNeAt.lists (A:=X.A) (e:=fun j=>eqD (ds.getD j .non) (es.getD j .non)) p p2 (by rw [aD,aD];lia) (by lia) (fun j h1 h2=>by
  have h1':j<its.length:=by simpa using h1
  have h2':j<its2.length:=by simpa using h2
  obtain ⟨x',ex,dx⟩:=r.at (i:=j) (d:=ds[j]'(by lia)) (gE (by lia));obtain ⟨y',ey,dy⟩:=r'.at (i:=j) (d:=es[j]'(by lia)) (gE (by lia));obtain ⟨u',eu,ru⟩:=rv.get ex;obtain ⟨v',ev,rw'⟩:=rv2.get ey;have eu':its[j]=u':=by rw [gE h1'] at eu;exact bQ eu
  have ev':its2[j]=v':=by rw [gE h2'] at ev;exact bQ ev
  have g1:ds.getD j .non=ds[j]'(by lia):=by rw [ah,gE (by lia)];rfl
  have g2:es.getD j .non=es[j]'(by lia):=by rw [ah,gE (by lia)];rfl
  show SeqAt.EqAt X.A.in1 s (its.toArray[j]) (its2.toArray[j]) (eqD (ds.getD j .non) (es.getD j .non));rw [j4,j4,eu',ev',g1,g2];exact eqAt_D 60 (aS (deps_get (gE (by lia))) (by lia)) (by show X.A.units+1+60<cLine;lia) I dx dy ru rw' (pP pd (gE (by lia))) (pP pe (gE (by lia))))
 refine key X.prog X.w _ _ (fh I q ?_);rw [eqDs_all,aD,l1,←le,Nat.min_self,beq_self_eq_true,Bool.and_true]
end L2
namespace HN
open PySem L2 PyProof.Rows
abbrev sLaw:cF:=top 60
inductive spLawTs (Ts:List ai)(K:aq)(vs:List V)(H:Hp)(Q:VK)(_:XK):Prop
 | mk (a:ai)(ns:List Int)(_:vs=[.ref a])(_:SqL K H a (ns.map V.int))(_:(∀ T∈Ts,H T=some (.tbl #[])))(_:∀ H',Q (.bl true) H')
theorem scLaw:cp ["_law_script","_law_net","_law_many","_law_turn","_law_told_here","_law_fields"] pze (defScope sLaw):=by trivial
theorem ok_law {TT T3:ai}(F:Fun K "law" "law" sLaw f fd)(T2:Nt mg)
  (G1:Fn K mg "_law_chain" sChn pze f1 fd1) (F1:cR P w K mg base CX0 4 f1 fd1 pze (spChn K))
  (G2:Fn K mg "_law_told" sTld ["_law_net"] f2 fd2) (F2:cR P w K mg base CX0 14 f2 fd2 ["_law_net"] (spTldB T0 p0 q0 T1 p1 q1 TT T3)):cR P w K mg base CX0 15 f fd pze (spLawTs [T0,T1,TT,T3] K):=by
 refine F.ok scLaw (by contradiction) (fun cdv A outer s H vs Q E hr h=>?_);obtain ⟨a,ns,rfl,ha,hT,k⟩:=h;have hr4:iA 4 _:=hr.mono (by decide);refine ⟨_,PSl.h (bg ⟨(ps_asg (pc1 G1 F1 hr4 (ak (pv 0) aI)) (pg_tup rfl (jR (pgZ 1 scLaw.nd) (jR (pgZ 2 scLaw.nd) pgs_nil))))⟩
  (bg ⟨(iW bM rfl (iZ rfl T2.range (ak bR aI)) (pgZ 3 scLaw.nd) (PSl.h (bg ⟨(ps_asg (pc1 G2 F2 hr (ak (pv 1) aI)) (pg_tup rfl (jR (pgZ 4 scLaw.nd) (jR (pgZ 5 scLaw.nd) pgs_nil))))⟩
   (dF ⟨(kh (dB op_gt (pv 2) bR (fg _)) (dE (kh (dB (op_neLD hr.units) (pv 5) (pe_lstA (ak (pv 2) (ak bR aI))) (fg _)) (dE (cO pe_bl)) gH))
    (dE (kh (PW.pt (pw_or (dB op_notN (pv 5) mF (fg _)) (pw_or (dB op_ne (ixZ (pv 4)) mE (fg _)) (pw_or1 (dB op_ne (ixZ (pv 4)) bR (fg _)))))) (dE (cO pe_bl)) gH)))⟩))))⟩
  (dF ⟨(cO pe_bl)⟩))),?_⟩
 refine ⟨_,rfl,a,ns,rfl,ha,fun q v b m mn sp H1 S1 hq hv N hc hf=>?_⟩;refine ⟨q,_,rfl,SqT.of hq,rfl,_,_,rfl,_,_,rfl,rfl,?_⟩;have hT0:L2.LamT T0 p0 q0 H1:=LamT.same S1 (.inl (hT T0 (by simp)));have hT1:L2.LamT T1 p1 q1 H1:=LamT.same S1 (.inl (hT T1 (by simp)));have hT2:L2.LamT TT lpT lqT H1:=LamT.same S1 (.inl (hT TT (by simp)));have hT3:L2.LamG T3 lqB H1:=(LamG.nil (hT T3 (by simp))).same S1;refine ⟨2,rfl,by decide,by decide,?_⟩;refine l9 (n:=2) (fun i σ H'=>IsD H' v (lM b m sp)∧L2.LamT T0 p0 q0 H'∧L2.LamT T1 p1 q1 H'∧L2.LamT TT lpT lqT H'∧L2.LamG T3 lqB H'∧∃ v4 v5 v6,σ=[some (.ref a),some v,some (.int mn),v4,v5,v6]) ⟨hv,hT0,hT1,hT2,hT3,none,none,none,rfl⟩ ?_ ?_
 ·rintro i σ H3 hi ⟨hv3,t30,t31,t32,t33,v4,v5,v6,rfl⟩
  refine ⟨_,rfl,v,b,m,mn,sp,rfl,hv3,N,hc,hf,t30,t31,t32,t33,fun q4 H4 kp4 t40 t41 t42 t43 ans=>?_⟩;have hv4:=cw kp4.tup hv3
  rcases ans with ⟨big,L,h4,hL⟩ | ⟨small,qa,x,z,h4,hqa⟩
  ·refine ⟨q4,_,rfl,SqT.of h4,rfl,_,_,rfl,_,_,rfl,rfl,?_⟩
   refine ⟨_,rfl,_,_,rfl,rfl,_,rfl,iteB (qT big) ?_⟩;refine ⟨_,rfl,_,rfl,nS,fun L5 H5 S5 h5=>?_⟩;refine ⟨L,L5,_,_,[.int mn,.int 4096],[.int mn,.int 4096],⟨rfl,rfl⟩,⟨S5 _ _ hL,h5⟩,.cons (.int _) (.cons (.int _) .nil),.cons (.int _) (.cons (.int _) .nil),rfl,(by simp [pls,pl]),(by simp [pls,pl]),(by simp [deps,dep]),?_⟩;refine ⟨_,rfl,iteC (by rw [pX _ (by simp [pls,pl])];rfl) ?_⟩;exact ⟨hv4.same S5,LamT.same S5 t40,LamT.same S5 t41,LamT.same S5 t42,t43.same S5,_,_,_,rfl⟩
  ·refine ⟨q4,_,rfl,SqT.of h4,rfl,_,_,rfl,_,_,rfl,rfl,?_⟩
   refine ⟨_,rfl,_,_,rfl,rfl,_,rfl,iteC (qU (by lia)) ?_⟩;refine ⟨_,rfl,rfl,_,rfl,iteC (by rw [qT rfl];rfl) ?_⟩;refine ⟨_,rfl,qa,_,_,_,rfl,rfl,SqT.of hqa,aR (j:=0) rfl,rfl,_,rfl,iteC rfl ?_⟩;refine ⟨_,rfl,qa,_,_,_,rfl,rfl,SqT.of hqa,aR (j:=2) rfl,rfl,_,rfl,iteC rfl ?_⟩;exact ⟨hv4,t40,t41,t42,t43,_,_,_,rfl⟩
 rintro σ H3 ⟨_,_,_,_,_,v4,v5,v6,rfl⟩;exact k H3
theorem args1 {P:List aa→Prop}(h:∀ x0,P [x0]):∀ us:List aa,us.length=1→P us:=by
 intro us hl;obtain _ | ⟨x0,us⟩:=us <;> try (cases hl;done)
 obtain _ | ⟨y,us⟩:=us
 ·exact h x0
 ·exact qS hl (by simp only [aM];lia)
theorem args2 {P:List aa→Prop}(h:∀ x0 x1,P [x0,x1]):∀ us:List aa,us.length=2→P us:=by
 intro us hl;obtain _ | ⟨x0,us⟩:=us <;> try (cases hl;done)
 obtain _ | ⟨x1,us⟩:=us <;> try (cases hl;done)
 obtain _ | ⟨y,us⟩:=us
 ·exact h x0 x1
 ·exact qS hl (by simp only [aM];lia)
theorem args3 {P:List aa→Prop}(h:∀ x0 x1 x2,P [x0,x1,x2]):∀ us:List aa,us.length=3→P us:=by
 intro us hl;obtain _ | ⟨x0,us⟩:=us <;> try (cases hl;done)
 obtain _ | ⟨x1,us⟩:=us <;> try (cases hl;done)
 obtain _ | ⟨x2,us⟩:=us <;> try (cases hl;done)
 obtain _ | ⟨y,us⟩:=us
 ·exact h x0 x1 x2
 ·exact qS hl (by simp only [aM];lia)
theorem args4 {P:List aa→Prop}(h:∀ x0 x1 x2 x3,P [x0,x1,x2,x3]):∀ us:List aa,us.length=4→P us:=by
 intro us hl;obtain _ | ⟨x0,us⟩:=us <;> try (cases hl;done)
 obtain _ | ⟨x1,us⟩:=us <;> try (cases hl;done)
 obtain _ | ⟨x2,us⟩:=us <;> try (cases hl;done)
 obtain _ | ⟨x3,us⟩:=us <;> try (cases hl;done)
 obtain _ | ⟨y,us⟩:=us
 ·exact h x0 x1 x2 x3
 ·exact qS hl (by simp only [aM];lia)
theorem Df.fn (a:Df K x st f)(X:K.In h)(G:h.Ns bt mg)
  (hb:∀ (kV dc pm:aa) (an:Option ai) (cd ct:aa) (us:List aa),us.length=ps.length→bindArgs (dg x x (i6 st) (eX st) (defScope st) .none kV dc pm an cd ct) ⟨us,[]⟩=fj (ps.zip us):=by intro _ _ _ _ _ _;first  | exact args1 fun _=>rfl | exact args2 fun _ _=>rfl | exact args3 fun _ _ _=>rfl | exact args4 fun _ _ _ _=>rfl):∃ fd,Fn K mg x st ps f fd:=by
 obtain ⟨n,oc,od,an,sl,kV,dc,pm,cd,ct,l,c,k⟩:=a;have F:=nN (st:=st) l c k;exact ⟨_,F,cL X G n,F.binds hb⟩
theorem all_mk {l:PySem.W.OpenLaw}{fa:ai}(X:K.In h)(G:h.Ns bt mg)(hfa:mg "law" =some (.ref fa))(Fc:Facts K)
  : ∃ fd:bf,(∀ (s:ao) (v:aa),BindsTo s fd ⟨[v],[]⟩ [("_law_script",v)])∧∀ base:bz,K.In base→base.Ns bt mg→BM mg base→cR l.prog w K mg base CX0 15 fa fd pze (spLawTs [181,286,352,371] K):=by
 refine Fc _ ?_;intro f1 f2 f3 f4 f5 f6 f7 f8 f9 f10 f11 f12 f13 f14 f15 f16 f17 f18 f19 f20 f21 f22 f23 f24 f25 f26 f27 f28 f29 f30 f31 f32 f33 f34 f35 f36 f37 f38 f39 f40 f41 f42 t1 xC xi xs xt odI anI odS anS odT anT slI slS slT ocI kVI dcI pmI ctI ocS kVS dcS pmS cdS ctS ocT kVT dcT pmT cdT ctT xc xj rN rnm rq rbs rsub rsn rab rcol rdd odJ anJ rk0 rk1 rk2 rk3 rk5 slJ ocJ kVJ dcJ pmJ cdJ ctJ x1 xa xb xd xe xf xg a1 a2 a3 a4 a5 a6 a7 a8 a9 a10 a11 a12 a13 a14 a15 a16 a17 a18 a19 a20 a21 a22 a23 a24 a25 a26 a27 a28 a29 a30 a31 a32 a33 a34 a35 a36 a37 a38 a39 a40 a41 a42 y1 z1 z2 z3 z4 z5 z6 z7 z8 z9 z10 z11 z12 z13 z14 z15 z16 z17 w1 w2 w3 w4 w5 w6 w7 w8 w9 w10 w11 w12 w13 w14 w15 w16 w17 w18 w19 w20 w21 w22 w23 w24 w25 w26 w27 w28 w29 w30 w31 w32 w33 w34 w35 w36 w37 w38 w39 w40 w41 w42 w43 w44 w45 w46 w47 w48 w49 w50 w51 w52 w53 w54 w55 w56 w57 w58 wc0 wh0 wh1 wc2 wh2 wc3 wh3;have e:=hfa.symm.trans (cL X G a42.n);cases e;obtain ⟨fd1,G1⟩:=a1.fn X G (ps:=pzg);obtain ⟨fd2,G2⟩:=a2.fn X G (ps:=pzc);obtain ⟨fd3,G3⟩:=a3.fn X G (ps:=pzc);obtain ⟨fd4,G4⟩:=a4.fn X G (ps:=pza);obtain ⟨fd5,G5⟩:=a5.fn X G (ps:=pzt);obtain ⟨fd6,G6⟩:=a6.fn X G (ps:=pzb);obtain ⟨fd7,G7⟩:=a7.fn X G (ps:=pzb);obtain ⟨_,oc,od,an,sl,kV,dc,pm,cd,ct,l8,c8,k8⟩:=id a8;obtain ⟨_,_,_,_,_,_,_,_,z⟩:=wc0;have z:=l8.symm.trans z;have wc0:cd=aa.ref 185:=by injection z with z;injection z with _ _ z _;injection z with z;injection z
 have F8:=nN (st:=sSpW) l8 c8 k8;have b8:=F8.binds (ps:=pza) fun _ _ _ _ _ _=>args1 fun _=>rfl
 have G8:Fn K mg "spans_by_width" sSpW pza f8 _:=⟨F8,cL X G a8.n,b8⟩;obtain ⟨fd9,G9⟩:=a9.fn X G (ps:=pza);obtain ⟨fd10,G10⟩:=a10.fn X G (ps:=pzj);obtain ⟨fd11,G11⟩:=a11.fn X G (ps:=pzv);obtain ⟨fd12,G12⟩:=a12.fn X G (ps:=pzg);obtain ⟨fd13,G13⟩:=a13.fn X G (ps:=pza);obtain ⟨fd14,G14⟩:=a14.fn X G (ps:=pza);obtain ⟨fd15,G15⟩:=a15.fn X G (ps:=pza);obtain ⟨fd16,G16⟩:=a16.fn X G (ps:=pzi);obtain ⟨fd17,G17⟩:=a17.fn X G (ps:=pzo);obtain ⟨fd18,G18⟩:=a18.fn X G (ps:=pzp);obtain ⟨fd19,G19⟩:=a19.fn X G (ps:=pzn);obtain ⟨fd20,G20⟩:=a20.fn X G (ps:=pzh);obtain ⟨fd21,G21⟩:=a21.fn X G (ps:=pzx);obtain ⟨fd22,G22⟩:=a22.fn X G (ps:=pzk);obtain ⟨fd23,G23⟩:=a23.fn X G (ps:=["marks"]);obtain ⟨fd24,G24⟩:=a24.fn X G (ps:=pzl);obtain ⟨_,oc,od,an,sl,kV,dc,pm,cd,ct,l25,c25,k25⟩:=id a25;obtain ⟨_,_,_,_,_,_,_,_,z⟩:=wc2;have z:=l25.symm.trans z;have wc2:cd=aa.ref 356:=by injection z with z;injection z with _ _ z _;injection z with z;injection z
 have F25:=nN (st:=jk) l25 c25 k25;have b25:=F25.binds (ps:=pza) fun _ _ _ _ _ _=>args1 fun _=>rfl
 have G25:Fn K mg "table_for" jk pza f25 _:=⟨F25,cL X G a25.n,b25⟩;obtain ⟨fd26,G26⟩:=a26.fn X G (ps:=pzb);obtain ⟨fd27,G27⟩:=a27.fn X G (ps:=pzz);obtain ⟨fd28,G28⟩:=a28.fn X G (ps:=pzf);obtain ⟨fd29,G29⟩:=a29.fn X G (ps:=pzf);obtain ⟨fd30,G30⟩:=a30.fn X G (ps:=["net","rows"]);obtain ⟨fd31,G31⟩:=a31.fn X G (ps:=pzu);obtain ⟨fd32,G32⟩:=a32.fn X G (ps:=pzy);obtain ⟨fd33,G33⟩:=a33.fn X G (ps:=pzq);obtain ⟨_,oc,od,an,sl,kV,dc,pm,cd,ct,l34,c34,k34⟩:=id a34;obtain ⟨_,_,_,_,_,_,_,_,z⟩:=wc3;have z:=l34.symm.trans z;have wc3:cd=aa.ref 375:=by injection z with z;injection z with _ _ z _;injection z with z;injection z
 have F34:=nN (st:=lL) l34 c34 k34;have b34:=F34.binds (ps:=pza) fun _ _ _ _ _ _=>args1 fun _=>rfl
 have G34:Fn K mg "best_for" lL pza f34 _:=⟨F34,cL X G a34.n,b34⟩;obtain ⟨fd35,G35⟩:=a35.fn X G (ps:=pzd);obtain ⟨fd36,G36⟩:=a36.fn X G (ps:=pzs);obtain ⟨fd37,G37⟩:=a37.fn X G (ps:=pzd);obtain ⟨fd38,G38⟩:=a38.fn X G (ps:=pzm);obtain ⟨fd39,G39⟩:=a39.fn X G (ps:=pze);obtain ⟨fd40,G40⟩:=a40.fn X G (ps:=pze);obtain ⟨fd41,G41⟩:=a41.fn X G (ps:=["_law_net"]);obtain ⟨_,oc,od,an,sl,kV,dc,pm,cd,ct,l42,c42,k42⟩:=a42;have F42:=nN (st:=sLaw) l42 c42 k42;have m1:=bW X G z1;have m2:=bW X G z2;have m3:=bW X G z3;have m4:=bW X G z4;have m5:=bW X G z5;have m6:=bW X G z6;have m7:=bW X G z7;have m8:=bW X G z8;have m9:=bW X G z9;have m10:=bW X G z10;have m11:=bW X G z11;have m12:=bW X G z12;have m13:=bW X G z13;have m14:=bW X G z14;have m15:=bW X G z15;have m16:=bW X G z16;have m17:=bW X G z17;have i1:=cL X G y1;refine ⟨dg "law" "law" (i6 sLaw) (eX sLaw) (defScope sLaw) .none kV dc pm an cd ct,fun s v=> .of_eq rfl,fun base _ _ hB=>?_⟩;have T:Nm mg:=⟨m1,m2,m3,m4,m5,m6,m7⟩;have T2:Nt mg:=⟨m8,m9,m10,m11,m12,m13⟩;have T3:N3 mg:=⟨m14⟩;have SW:cR l.prog w K mg base CX0 5 f8 _ pza (spSpW 181 lpW lqW):=ok_spW F8 wc0 wh0 hB T T2 m15 G1;have FO:cR l.prog w K mg base CX0 6 f9 _ pza (kX 181 lpW lqW):=ok_forest G9.F T T2 m15 G8 SW;have ST:cR l.prog w K mg base CX0 2 f10 _ pzj spSteps:=ok_steps G10.F G2;have RB:cR l.prog w K mg base CX0 7 f12 _ pzg (spRingBy 181 lpW lqW):=ok_ringBy G12.F G11 (ok_wayBt G11.F G10 ST G3) G9 FO;have RO:cR l.prog w K mg base CX0 8 f14 _ pza (oM 181 lpW lqW):=ok_ringsO G14.F T T2 G9 FO G12 RB;have CC:CutC K xC:=⟨⟨w2,w3,w4,w5⟩,w6,w7,w8⟩;have CI:=nN (st:=qy) w13 w14 w15;have CS:=nN (st:=sSpanC) w19 w20 w18;have CT:=nN (st:=sSidesC) w24 w25 w23;have CK:CutK l.prog w K mg base 181 lpW lqW 286 lpC lqC xC xi xs xt _ _ _:=⟨CC,⟨w9,w10,w11,w12⟩,cL X G w1,ok_initC CI rfl wh1 hB (by decide) T T2 m15 CC G14 RO G18 G4 G9 FO,CI.binds (ps:=["self","net"]) fun _ _ _ _ _ _=>args2 fun _ _=>rfl,⟨w16,w17,w18⟩,ok_spanC CS CC,CS.binds (ps:=["self","case"]) fun _ _ _ _ _ _=>args2 fun _ _=>rfl,⟨w21,w22,w23⟩,ok_sidesC CT CC G17,CT.binds (ps:=pzw) fun _ _ _ _ _ _=>args4 fun _ _ _ _=>rfl⟩;have BO:cR l.prog w K mg base CX0 2 f6 _ pzb pj:=ok_beats G6.F G5;have DL:cR l.prog w K mg base CX0 4 f20 _ pzh pf:=ok_deadL G20.F G7 (ok_dead G7.F G6 BO);have TF:cR l.prog w K mg base CX0 11 f22 _ pzk (spTabF 181 lpW lqW 286 lpC lqC):=ok_tabF G22.F T (by decide) CK G15 (ok_spread G15.F T T2 G9 FO G10 ST G3) G20 DL G21 (ok_tabBy G21.F T G3 G2 G16) G19;have TY:cR l.prog w K mg base CX0 11 f24 _ pzl (oK l.prog w K mg base 181 lpW lqW 286 lpC lqC):=ok_treeBy G24.F T CK G19 G23 (ok_treeF G23.F m16);have TN:cR l.prog w K mg base CX0 12 f25 _ pza (o9 181 lpW lqW 286 lpC lqC 352):=ok_tabForN F25 wc2 wh2 hB T ⟨_,i1⟩ (by decide) (by decide) (by decide) G13 (ok_cases G13.F G9 FO G1) G22 TF G24 TY G20 DL;have WO:cR l.prog w K mg base CX0 4 f29 _ pzf spWaitOf:=ok_waitOf G29.F T T2 G28 (ok_waits G28.F T T2 G16 G27);have LB:cR l.prog w K mg base CX0 5 f33 _ pzq spLeafBy:=ok_leafBy G33.F G20 DL G32 (ok_priceL G32.F T G26 (ok_sure G26.F G6 BO)) G31 (ok_worth G31.F T T2 G6 BO G30);have BF:cR l.prog w K mg base CX0 13 f34 _ pza (spBest 181 lpW lqW 286 lpC lqC 352 371):=ok_best F34 wc3 wh3 hB T ⟨_,i1⟩ (by decide) (by decide) (by decide) (by decide) (by decide) (by decide) G25 TN G22 TF G24 TY G33 LB G29 WO G14 RO;have PO:cR l.prog w K mg base CX0 2 f37 _ pzd (spPotT K):=ok_potT G37.F T T2 G35 G36;have FI:=nN (st:=sInitTG) w32 w33 w34;have BI:=FI.binds (ps:=pzr) fun _ _ _ _ _ _=>args3 fun _ _ _=>rfl
 have TG:TGc K mg xc x1 xj:=⟨⟨⟨_,_,_,_,_,_,_,_,_,_,_,_,_,_,w28⟩,w58,w27,w29,w30,w31⟩,⟨w35,w36,w37⟩,⟨w38,w39,w40,w41,w42,w43,w44,w45⟩,w46,w47,cL X G w26,cL X G w57⟩;have TO:TGs K mg xc xa xb xd xe xf xg:=⟨cL X G w49,cL X G w50,cL X G w51,cL X G w52,cL X G w53,cL X G w54,m17,w55,w56⟩;have IG:=ok_initTG (P:=l.prog) (w:=w) (base:=base) FI TG;have BX:cR l.prog w K mg base (CXN l.prog w) 13 f34 _ pza (spTooM xc 181 lpW lqW):=ok_bestM F34 G25 (ok_tooMany F25 ⟨_,i1⟩ TG IG BI G13 (ok_cases G13.F G9 FO G1));have TL:cR l.prog w K mg base CX0 14 f41 _ ["_law_net"] (spTldB 181 lpW lqW 286 lpC lqC 352 371):=ok_tldB G41.F T TG TO ⟨cL X G w57,w58⟩ ⟨w48⟩ (by decide) (by decide) (by decide) G34 (BX.or BF.up);exact ok_law F42 T2 G40 (ok_chn G40.F T T2 G38 G37 PO G39 (ok_wds G39.F T T2 G38 G37 PO)) G41 TL
theorem walk {l:PySem.W.OpenLaw}{q:aN}{d:DefRec}{K:Params→aq}(hn:l.most=some 63)(hdf:d.params.defaults=[])
  (hY:∀ (w:bp) (h:bz),YP w h→(K w.params).In h∧∀ T∈([181,286,352,371]:List ai),h.get? T=some (PySem.W.tabObj #[])) (hC:∀ w:bp,∀ T∈([181,286,352,371]:List ai),∃ c,dW (K w.params) c T=true) (hN:∀ w:bp,PySem.W.noTabs (K w.params)=true)
  (F:∀ (w:bp) (mg:Str→Option aa) (fa:ai) (h:bz),(K w.params).In h→h.Ns bt mg→mg d.name=some (.ref fa) →
   ∃ fd:bf,(∀ (s:ao) (u:aa),BindsTo s fd ⟨[u],[]⟩ [("_law_script",u)])∧∀ base:bz,(K w.params).In base→base.Ns bt mg→BM mg base→cR l.prog w (K w.params) mg base CX0 15 fa fd pze (spLawTs [181,286,352,371] (K w.params))) :
  PySem.W.WalkO q loose XP YP l.row.toRowW d [] (fun f vs=>PySem.call f vs) :=
 L2.walk_ofTs (n:=63) (k:=15) (x := "_law_script") (Ts:=[181,286,352,371]) (CX:=fun _=>CX0) (sp:=fun w=>spLawTs [181,286,352,371] (K w.params)) hn (by decide) hdf ⟨rfl,by decide,by decide⟩ hY hC hN F (fun _ _ a ns hl hT hS=>⟨a,ns,rfl,hS,hT,fun _=>rfl⟩) fun _ _ _ _ _ z=>z
end HN
set_option maxHeartbeats 0 in
theorem PySem.Challenge.cw_hourtable_k54_too_many_for_the_least_holds : PySem.Challenge.rw_hourtable_k54_too_many_for_the_least.Holds := by
 refine HN.head0 ?_ HN.leftA;intro q loose XP YP d K hdf hd h0 h1 h2 Fc;exact HN.walk (l:=eK) rfl hdf h0 h1 h2 fun w mg fa h KX G hmg=>HN.all_mk KX G (by rw [hd] at hmg;exact hmg) (Fc w)
