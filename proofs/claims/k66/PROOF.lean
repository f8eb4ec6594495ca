import PyProof.Rows.All
import KE.KIsAll
import OpenK.KMore
import KE.LcSums
import KE.KBools
import KE.KxBytes
import KE.RegKIsAll
import Lean
import PyProof.EqAt
import PyProof.EqKinds
import PyProof.TupleCall
import KE.KEqSeq
import PyProof.NeKinds
import PyProof.FitsBits
import PyProof.Rows.SumAny
import PyProof.Rows.SetFrom
import PyProof.SetRoads
import PyProof.ListRange
import KE.KSortTup
import KE.KSortKey
import KE.KLam
import KE.KNestM
import PyProof.Rows.MinMaxN
import KE.KRevIter
import PyProof.MaxThree
import PyProof.AutoSeq1
import PyProof.FactsAll.list_3
import PyProof.WalkInts
import PyProof.SeqI3
import KE.KDictList
import KE.KDictLaws
import PyProof.CallRoads
import OpenK.KOwn
import PyProof.NsDelKeeps
import PyProof.ExcArgs
import PyProof.ExcInit
import PyProof.InstStoreFacts
import PyProof.MinMaxWalk
import PyProof.Rows.CallKwBuiltin
import PyProof.Defs
import PyProof.Rows.SeqMore
import Wide.FinOn
import Wide.All
import PySem.Challenge.RW_hourtable_k66_too_many_cases_to_change
set_option Elab.async false
set_option linter.all false
set_option maxRecDepth 100000
set_option bootstrap.genMatcherCode false
open PySem renaming Value → aa, wpAny_bind → ae, Addr → ai, Shared → ao, wpAny_pure → aA, wpAny → aH, Program → aQ, sizeLine → aR, model → aU, starEach → bb, FuncData → bf, mainGlobals → bp, World → bq, Heap → bw, Around → bG, wpAny_mono → bH, wpAny_field → bX, wpAny_holding → cf, Str → cq, NameKind → cE, Stmt → cG, mem_of_lookup → cH, Spec → cN, boot_len → cO, Builtin → cV, wpAny_newObj_type → cY, wpAny_callSpecial?_slot → df, eval → dg, wpAny_setField_rec → dt, wpAny_seqItems → du, wpAny_Call_Name_kw → dv, wpAny_tryCatch → dJ, backTo → dM, lookup_relabel_local → dW, sizeLine_eq → eG, wpAny_pyIter_list → eS, rawInt → fg, wpAny_letGo → fm, wpAny_call_entry → fq, compareOp → fQ, codeAny_builtin → fR, wpAny_loadPart_at → fS, foldedSetIterable → fW, binaryOp → fX, Scope → gc, wpAny_updateSeq → gP, wpAny_passesOwn → gQ, plainId_quiet → gR, attributeBase → gT, codeAny → hV, call → ir, wpAny_call → iE, sysModules → iF, recursionLimit → iG, Arguments → iP, pyNext → iR, wpAny_attempt → iX, wpAny_truthy_bool → jy, wpAny_setField → jz, holding → jD, codeAny_mono → jF, bootBuiltins → jG, Paired → jH, swapsWith → j4, codeAny_call_builtin → ke, wpAny_loadPart' → kg
open List renaming length_map → af, getD_eq_getElem?_getD → ah, getElem?_eq_some_iff → ar, length_append → av, mem_singleton → aw, getElem?_map → ax, mem_append_right → ay, size_toArray → aB, mem_cons_of_mem → aD, mem_append_left → aE, mem_cons → aF, mem_append → aG, range → aK, map_append → aM, mem_of_getElem? → aO, mem_cons_self → aX, length_cons → aY, length_range → ba, take_add_one → bh, take_length → bo, getElem?_append_right → br, mem_map → bt, getElem_mem → bu, nodup_cons → bz, replicate → bF, length_take → bI, getElem_of_mem → bM, foldl_cons → bP, getElem?_append_left → bS, mem_range → bT, mem_filter → b9, map_cons → cg, length_singleton → cu, foldl_append → cx, nodup_iff_pairwise_ne → cJ, append_nil → cP, not_mem_nil → cR, map_map → cU, lookup → cZ, lookup_cons → dm, length_filter_le → dG, getElem?_set_ne → dN, getElem?_set_self → dZ, toList_toArray → d5, filter_cons → e8, filter_append → fe, map_congr_left → fY, length_set → gu, find?_cons → gw, length_replicate → gF, any_eq_false → gH, nodup_range → hW, length_drop → ia, getElem_map → ib, replicate_succ → iB, getElem?_range → iC, filterMap_cons → iD, getElem_range → iQ, length_eq_zero_iff → iV, toArray → i9, pairwise_map → ja, nodup_nil → jb, nodup_append → jd, getElem_inj → jx, any_cons → jJ, mem_of_mem_take → jM, getElem_toArray → jN, range_succ → jY, length_pos_iff → j7, length_erase_of_mem → kO
open PySem.Heap renaming get?_push_of_some → ak, lt_size → aC, get?_push_size → aN, SameBut → cb, get?_update_other → cy, size_push → cQ, get?_update_ne → d6, get?_update_self → d9
open PySem.W renaming Frag → au, findIn → bJ, nsIn → bL, mg_none_of → bQ, mg_of → cz, fnOf → cK, keepIn → cW, codeHdIn → de, kia_one → dF, emptyDict → dR, kitOne → eZ, instObj → fo, codeIn → fM, isFn → iT, hasDictIn → iU, plainGet → jk, mroIn → jo, callWith_K → j6
open Nat renaming le_refl → az, lt_of_lt_of_le → aL, le_trans → aS, ne_of_lt → bj, zero_le → bE, lt_of_le_of_lt → bU, ne_of_gt → bZ, sub_self → eJ, lt_irrefl → e7, lt_of_le_of_ne → gq, lt_succ_of_lt → gM, le_succ → gZ, le_of_lt → iu, lt_succ_iff_lt_or_eq → iM, lt_succ_self → jI
open Option renaming map_eq_some_iff → aI, map_some → gn, isSome_iff_exists → ku
open Bool renaming false_ne_true → aV, and_eq_true → cS, not_eq_true' → fE, eq_false_iff → jf, eq_iff_iff → jZ
open Option.some renaming inj → bC
open PyProof.Rows renaming seqObj → bD, slot_tuple_getitem → cT, get?_update_seq → eY, callWith_type1 → fZ, boot_isinstance → i8, boot_tuple → jj
open PySem.F renaming plainAttrs_list → bK, type_list_append → cA, slot_list_append → cB, plain_min_loop → gi, plain_max_loop → gj, slot_tuple_iterator_next → iw, slot_enumerate_next → jO, args_tuple_add_2 → kq, entry_tuple_add → kL
open PySem.PassesOwn renaming never → bO
open Int renaming toNat_natCast → bV, eq_ofNat_of_zero_le → dQ, toNat_of_nonneg → d7, le_refl → gp, emod_lt_of_pos → gr, emod_nonneg → gy, mul_ediv_add_emod → gJ, zero_add → jn, add_mul_emod_self_left → kr
open Array renaming length_toList → bW, getElem?_eq_getElem → cL, getElem?_eq_some_iff → dY, getElem?_toList → gC
open PySem.Str renaming ofString → bY
open Ne renaming symm → cn
open PySem.Obj renaming mapSeq → cp, data_mapFields → fj, mapFields → fN, isFreed_of_fields → jw
open PySem.Builtin.SmallTypes renaming nextOf → cF, ownedTupleIsFree → eC, ownedTupleHandOut → gf
open False renaming elim → cI
open PySem.Builtin.Range renaming rangeSize → dB, small → gB
open PySem.Challenge renaming rw_hourtable_k66_too_many_cases_to_change → dX
open Pure renaming pure → eQ
open PySem.Heap.SameBut renaming update → ft
open PySem.Around renaming under_plainId → fB
open PySem.Builtin.Builtins renaming bindParams → fO
open PySem.Builtin.Slice renaming slicePlaces → gx, sliceAdjust → jK
open PySem.Builtin.Tuple renaming tupleExact → gL
open Classical renaming byContradiction → gN
open PySem.Builtin.List renaming listTooLong → gO
open MonadExcept renaming tryCatch → iY
open ToString renaming toString → iZ
open PySem.Calls renaming callWith_builtin → i5
open Lean renaming maxHeartbeats → j9
noncomputable section
abbrev pN:=@if_neg
abbrev pO:=@if_pos
abbrev pP:=@absurd
abbrev pQ:=@decide_eq_true
abbrev pR:=@decide_eq_false
abbrev pS:=@of_decide_eq_true
abbrev pT:=@congrArg
set_option maxHeartbeats 4000000
theorem gE {α:Type}{l:List α}{i:Nat}(h:i<l.length):l[i]? =some l[i]:=List.getElem?_eq_getElem h
variable {A:bG}{As ch ex fp:List ai}{B base h h':bw}{C D Da L Ls T0 T1 Tb0 a dx f f1 f2 f3 kS:ai}{E Q W:aa→ao→Prop}{K:au}{M:PySem.Model}{N fr loose ps sn:List PySem.Str}{P prog:aQ}{R:PySem.Result→ao→Prop}{T newId:String}{Ts:List (List Int)}{XP:(PySem.Str→Option aa)→bw→Prop}{YP:bq→bw→Prop}{aJ pins':List (ai×PySem.Obj)}{apos lp p0 p1 p2 pos pos':PySem.Pos}{b be lo z:Int}{bmB ds its old sub us vs:List aa}{body e elt iter re tg value:PySem.Expr}{cl:List (PySem.Str×ai)}{col:Option Bool}{d dct dd:Option ai}{d':PySem.Drawn}{e1 i j m n t':Nat}{env:PySem.Env}{es ifs:List PySem.Expr}{fd fd1 fd2 fd3 fd4:bf}{g':Array PySem.GenState}{gs hs ns ts:List Int}{hdct:Bool}{hi:Option Int}{items:Array aa}{js l tk π:List Nat}{key:Nat→Int}{keys:List (Option PySem.Expr)}{ks:List (Int×Int)}{kw:List (PySem.Str×aa)}{lq name q q0 q1 qual x:PySem.Str}{mA mg:PySem.Str→Option aa}{oI ox:PySem.Obj}{od:Option PySem.Obj}{op:PySem.CmpOp}{osl:Array (Option aa)}{outer:List PySem.Env}{p:Array Nat}{params:iP}{s s':ao}{scope:gc}{st:cG}{sts:List cG}{u was:aa}{w:bq}{α:Type}
namespace L2
open PySem PySem.Spec PyProof.Rows
def iq (s:cG):iP:=match s with
 | .FunctionDef _ a _ _ _ _ _ _ _ _=>a
 | _=>{ posonlyargs:=[],args:=[],vararg:=none,kwonlyargs:=[],kw_defaults:=[],kwarg:=none,defaults:=[] }
def fJ (s:cG):List cG:=match s with
 | .FunctionDef _ _ b _ _ _ _ _ _ _=>b
 | _=>[]
def defScope (s:cG):gc:=match s with
 | .FunctionDef _ _ _ _ _ _ sc _ _ _=>sc
 | _=>{ kind:= .function,names:=[],isGenerator:=false,isCoroutine:=false }
abbrev bmVE:List aa:=[.type "ValueError",.type "Exception",.type "BaseException",.type "object"]
end L2
namespace HN
open PySem L2 PyProof.Rows
def top (i:Nat):cG:=PySem.Challenge.pw_hourtable_k66_too_many_cases_to_change.main.body.getD i (.Pass ⟨0,0,0,0⟩)
def clsOf (s:cG)(i:Nat):cG:=match s with
 | .ClassDef _ _ _ body _ _ _ _ _ _ _=>body.getD i (.Pass ⟨0,0,0,0⟩)
 | s=>s
def clsDef (s:cG)(i:Nat):cG:=match s with
 | .ClassDef _ _ _ body _ _ _ _ _ _ _=>body.getD i (.Pass ⟨0,0,0,0⟩)
 | s=>s
structure Df (K:au)(x:Str)(st:cG)(f:ai):Prop where
 n:bL K bp x=some (some (.ref f))
 l:∃ (oc:aa) (od an:Option ai) (sl:Array (Option aa)) (kV dc pm cd ct:aa),K.lookup f=some ⟨oc,od,.func (cK x x (iq st) (fJ st) (defScope st) .none kV dc pm an cd ct),sl⟩∧fM K cd x=true∧cW K (.ref f)=true
def Facts (K:au):Prop:=∀ C:Prop,(∀ {f1 f2 f3 f4 f5 f6 f7 f8 f9 f10 f11 f12 f13 f14 f15 f16 f17 f18 f19 f20 f21 f22 f23 f24 f25 f26 f27 f28 f29 f30 f31 f32 f33 f34 f35 f36 f37 f38 f39 f40 f41:ai} {t1:Tok} {xC xi xs xt:ai} {odI anI odS anS odT anT:Option ai} {slI slS slT:Array (Option aa)} {ocI kVI dcI pmI ctI ocS kVS dcS pmS cdS ctS ocT kVT dcT pmT cdT ctT:aa} {xc xj rN:ai} {rnm rq:Str} {rbs rsub:List aa} {rsn:List Str} {rab:Bool} {rcol:Option Bool} {rdd odJ anJ:Option ai} {rk0 rk1 rk2 rk3 rk5:Option aa} {slJ:Array (Option aa)} {ocJ kVJ dcJ pmJ cdJ ctJ:aa} {x1 xa xb xd xe xf xg:ai},(Df K "width_of" (top 10) f1) →
 (Df K "leads_from" (top 12) f2) →
 (Df K "leads_to" (top 13) f3) →
 (Df K "first_bounds" (top 14) f4) →
 (Df K "sum_of" (top 15) f5) →
 (Df K "beats_of" (top 16) f6) →
 (Df K "is_dead" (top 17) f7) →
 (Df K "spans_by_width" (top 19) f8) →
 (Df K "forest_of" (top 20) f9) →
 (Df K "steps_from" (top 21) f10) →
 (Df K "way_between" (top 22) f11) →
 (Df K "ring_by" (top 23) f12) →
 (Df K "cases_of" (top 24) f13) →
 (Df K "rings_of" (top 25) f14) →
 (Df K "spread_of" (top 26) f15) →
 (Df K "rest_by" (top 28) f16) →
 (Df K "with_bound" (top 30) f17) →
 (Df K "rings_over" (top 33) f18) →
 (Df K "middle_of" (top 35) f19) →
 (Df K "dead_leaf" (top 36) f20) →
 (Df K "table_by" (top 37) f21) →
 (Df K "tables_that_fit" (top 38) f22) →
 (Df K "table_for" (top 41) f23) →
 (Df K "parts_of" (top 43) f24) →
 (Df K "shifts_between" (top 44) f25) →
 (Df K "moved_in_parts" (top 45) f26) →
 (Df K "held_at_firsts" (top 46) f27) →
 (Df K "commonest" (top 47) f28) →
 (Df K "held_at_most" (top 48) f29) →
 (Df K "others_in" (top 49) f30) →
 (Df K "staying" (top 50) f31) →
 (Df K "fewest_moved" (top 51) f32) →
 (Df K "_law_cell_at" (top 53) f33) →
 (Df K "_law_box" (top 54) f34) →
 (Df K "_law_draw" (top 55) f35) →
 (Df K "_law_kept" (top 56) f36) →
 (Df K "_law_all_kept" (top 57) f37) →
 (Df K "_law_wides" (top 58) f38) →
 (Df K "_law_net" (top 59) f39) →
 (Df K "_law_told" (top 60) f40) →
 (Df K "law" (top 61) f41) →
 (bL K bp "MOST_CASES" =some (some (.int 4096 t1))) →
 (bL K bp "isinstance" =some none) →
 (bL K bp "int" =some none) →
 (bL K bp "bool" =some none) →
 (bL K bp "tuple" =some none) →
 (bL K bp "len" =some none) →
 (bL K bp "min" =some none) →
 (bL K bp "all" =some none) →
 (bL K bp "range" =some none) →
 (bL K bp "enumerate" =some none) →
 (bL K bp "zip" =some none) →
 (bL K bp "sum" =some none) →
 (bL K bp "list" =some none) →
 (bL K bp "max" =some none) →
 (bL K bp "set" =some none) →
 (bL K bp "sorted" =some none) →
 (bL K bp "reversed" =some none) →
 (bL K bp "ValueError" =some none) →
 (bL K bp "Cuts" =some (some (.ref xC))) →
 (jk K xC Str.empty=true) →
 (iU K xC=true) →
 (PySem.W.plainOver K xC=true) →
 (bJ K (.ref xC) "__setattr__" =some (some (.builtin "object.__setattr__"))) →
 (bJ K (.ref xC) "first_case" =some none) →
 (bJ K (.ref xC) "touched" =some none) →
 (bJ K (.ref xC) "order" =some none) →
 (PySem.W.makesIn K xC=true) →
 (bJ K (.ref xC) "__init__" =some (some (.ref xi))) →
 (iT K (.ref xi)=true) →
 (cW K (.ref xC)=true) →
 (K.lookup xi=some ⟨ocI,odI,.func (cK "__init__" "Cuts.__init__" (iq (clsOf (top 34) 0)) (fJ (clsOf (top 34) 0)) (defScope (clsOf (top 34) 0)) .none kVI dcI pmI anI (.ref 252) ctI),slI⟩) →
 (fM K (.ref 252) "Cuts.__init__" =true) →
 (cW K (.ref xi)=true) →
 (bJ K (.ref xC) "span_to_cut" =some (some (.ref xs))) →
 (iT K (.ref xs)=true) →
 (cW K (.ref xs)=true) →
 (K.lookup xs=some ⟨ocS,odS,.func (cK "span_to_cut" "Cuts.span_to_cut" (iq (clsOf (top 34) 1)) (fJ (clsOf (top 34) 1)) (defScope (clsOf (top 34) 1)) .none kVS dcS pmS anS cdS ctS),slS⟩) →
 (fM K cdS "Cuts.span_to_cut" =true) →
 (bJ K (.ref xC) "sides" =some (some (.ref xt))) →
 (iT K (.ref xt)=true) →
 (cW K (.ref xt)=true) →
 (K.lookup xt=some ⟨ocT,odT,.func (cK "sides" "Cuts.sides" (iq (clsOf (top 34) 2)) (fJ (clsOf (top 34) 2)) (defScope (clsOf (top 34) 2)) .none kVT dcT pmT anT cdT ctT),slT⟩) →
 (fM K cdT "Cuts.sides" =true) →
 (bL K bp "TooGreat" =some (some (.ref xc))) →
 (bJ K (.ref xc) "__init__" =some (some (.ref xj))) →
 (K.lookup xc=some (PySem.excClassObj rnm rq xc rN rbs (.ref x1::bmVE) true rsn rsub rab rcol rdd rk0 rk1 rk2 rk3 rk5 "ValueError.__new__")) →
 (iT K (.ref xj)=true) →
 (cW K (.ref xc)=true) →
 (bJ K (.ref xc) "__setattr__" =some (some (.builtin "object.__setattr__"))) →
 (K.lookup xj=some ⟨ocJ,odJ,.func (cK "__init__" "TooGreat.__init__" (iq (clsDef (top 7) 0)) (fJ (clsDef (top 7) 0)) (defScope (clsDef (top 7) 0)) .none kVJ dcJ pmJ anJ cdJ ctJ),slJ⟩) →
 (fM K cdJ "TooGreat.__init__" =true) →
 (cW K (.ref xj)=true) →
 (PySem.W.specialIn K (.ref x1) "__getattribute__" =some (some (.builtin "type.__getattribute__"))) →
 (PySem.W.readsIn K x1 (.type "type")=true) →
 (PySem.W.findCls K (.ref x1) (.type "type") "__init__" =some (.val (.builtin "ValueError.__init__"))) →
 (bJ K (.ref xc) "__getattribute__" =some (some (.builtin "BaseException.__getattribute__"))) →
 (bJ K (.ref xc) "__getattr__" =some none) →
 (bJ K (.ref xc) "__class__" =some (some (.builtin "object.__class__"))) →
 (PySem.W.specialIn K (.builtin "object.__class__") "__get__" =some (some (.builtin "getset_descriptor.__get__"))) →
 (PySem.W.takesIn K (.builtin "object.__class__")=some true) →
 (jo K xc (.type "object")=some true) →
 (jo K xc (.type "BaseException")=some true) →
 (iU K xc=true) →
 (bJ K (.ref xc) "many" =some none) →
 (bJ K (.ref xc) "most" =some none) →
 (jo K xc (.ref x1)=some true) →
 (bL K bp "NoOrder" =some (some (.ref xa))) →
 (bL K bp "NoPlan" =some (some (.ref xb))) →
 (bL K bp "NoText" =some (some (.ref xd))) →
 (bL K bp "NoWay" =some (some (.ref xe))) →
 (bL K bp "OtherBeats" =some (some (.ref xf))) →
 (bL K bp "TooWide" =some (some (.ref xg))) →
 (PySem.W.kitAny K (.ref xc) [.ref xa,.ref xb,.ref xd]=some false) →
 (PySem.W.kitAny K (.ref xc) [.ref xe,.ref xf,.ref xg]=some false) →
 (eZ K (.ref xc) (.type "ValueError")=some true) →
 (bL K bp "HourError" =some (some (.ref x1))) →
 (PySem.W.excIn K x1 [.type "ValueError",.type "Exception",.type "BaseException",.type "object"] "ValueError.__new__" =true) →
 (∃ (oc:aa) (od an:Option ai) (sl:Array (Option aa)) (kV dc pm ct:aa),K.lookup f8=some ⟨oc,od,.func (cK "spans_by_width" "spans_by_width" (iq (top 19)) (fJ (top 19)) (defScope (top 19)) .none kV dc pm an (.ref 178) ct),sl⟩) →
 (de K 178 174=true) →
 (de K 252 250=true) →
 (∃ (oc:aa) (od an:Option ai) (sl:Array (Option aa)) (kV dc pm ct:aa),K.lookup f23=some ⟨oc,od,.func (cK "table_for" "table_for" (iq (top 41)) (fJ (top 41)) (defScope (top 41)) .none kV dc pm an (.ref 320) ct),sl⟩) →
 (de K 320 316=true) →
 (∃ (oc:aa) (od an:Option ai) (sl:Array (Option aa)) (kV dc pm ct:aa),K.lookup f28=some ⟨oc,od,.func (cK "commonest" "commonest" (iq (top 47)) (fJ (top 47)) (defScope (top 47)) .none kV dc pm an (.ref 351) ct),sl⟩) →
 (de K 351 347=true) →
 (∃ (oc:aa) (od an:Option ai) (sl:Array (Option aa)) (kV dc pm ct:aa),K.lookup f32=some ⟨oc,od,.func (cK "fewest_moved" "fewest_moved" (iq (top 51)) (fJ (top 51)) (defScope (top 51)) .none kV dc pm an (.ref 371) ct),sl⟩) →
 (de K 371 369=true)→C)→C
def Wp:Prop:=∀ {q:aQ} {loose:List Str} {XP:(Str→Option aa)→bw→Prop} {YP:bq→bw→Prop} {d:DefRec} {K:Params→au},d.params.defaults=[]→d.name = "law" →(∀ (w:bq) (h:bw),YP w h→(K w.params).In h∧∀ T∈([174,250,316,347,369]:List ai),h.get? T=some (PySem.W.tabObj #[]))→(∀ w:bq,∀ T∈([174,250,316,347,369]:List ai),∃ c,de (K w.params) c T=true)→(∀ w:bq,PySem.W.noTabs (K w.params)=true)→(∀ w:bq,Facts (K w.params))→PySem.W.WalkO q loose XP YP (dX).row.toRowW d [] (fun f vs=>PySem.call f vs)
end HN
section
open PySem PySem.W PyProof.Rows
def HN.seenOf:aQ:={ PySem.Challenge.pw_hourtable_k66_too_many_cases_to_change with main:={ PySem.Challenge.pw_hourtable_k66_too_many_cases_to_change.main with body:=[1,2,3,4,5,6,7,8,10,12,13,14,15,16,17,19,20,21,22,23,24,25,26,28,30,32,33,34,35,36,37,38,39,40,41,43,44,45,46,47,48,49,50,51,53,54,55,56,57,58,59,60,61].map HN.top } }
def HN.isSeen (s:ao):Bool:=xlAt HN.seenOf [] s && recOk (RowW.records (OpenRow.toRowW (OpenLaw.row dX))) s
local macro_rules
 | `(tactic| o_head $H:term) => `(tactic| (refine holds_open (q := HN.seenOf) (loose := []) (XP := XL HN.seenOf []) (Xt := HN.isSeen) (Yf := Hook.obs $H) (Ya := Hook.val $H) (YP := Hook.says $H) (N := 3497) ?_ (Hook.of $H) (Hook.keeps $H) (fun s e => xl_of s (Bool.and_eq_true_iff.mp e).1) XL.keeps (by rfl) (by rfl) (by rfl) (fun s e => recFacts_of (Bool.and_eq_true_iff.mp e).2) ?_ ?_ ?_ ?_ ?_ ?_))
theorem HN.left_two {σ β:Type}{e:Option σ}{f:σ→α}{g:σ→β}{a:α}{b:β}(h1:e.map f=some a)(h2:e.map g=some b):e.map (fun s=>(f s,g s))=some (a,b):=by
 cases e with
 | none=>cases h1
 | some s=>injection h1 with h1;injection h2 with h2;show some (f s,g s)=_;rw [h1,h2]
theorem HN.left_pr {σ β:Type}{e:Option σ}{f:σ→α×β}{a:α×β}(h1:e.map (fun s=>(f s).1)=some a.1)(h2:e.map (fun s=>(f s).2)=some a.2):e.map f=some a:=by
 cases e with
 | none=>cases h1
 | some s=>injection h1 with h1;injection h2 with h2;exact pT some (Prod.ext h1 h2)
set_option maxHeartbeats 0 in
theorem HN.left2 (w:bq):(openEnds treeTable PySem.Challenge.rw_hourtable_k66_too_many_cases_to_change.row.prog w 3497).map (fun s=>(openSeen HN.seenOf [] (importedModules PySem.Challenge.rw_hourtable_k66_too_many_cases_to_change.row.prog.main.body) HN.isSeen true s).2)=some (openGood HN.seenOf []).2:=by
 kernel_rfl
set_option maxHeartbeats 0 in
theorem HN.left1 (w:bq):(openEnds treeTable PySem.Challenge.rw_hourtable_k66_too_many_cases_to_change.row.prog w 3497).map (fun s=>(openSeen HN.seenOf [] (importedModules PySem.Challenge.rw_hourtable_k66_too_many_cases_to_change.row.prog.main.body) HN.isSeen true s).1)=some (openGood HN.seenOf []).1:=by
 kernel_rfl
set_option maxRecDepth 100000 in
set_option maxHeartbeats 0 in
theorem HN.head0 (W:HN.Wp):PySem.Challenge.rw_hourtable_k66_too_many_cases_to_change.Holds:=by
 w_on;refine holds_law (by decide +kernel) fun said=>?_;k_head
 ·exact fun w=>HN.left_two (HN.left_pr (HN.left1 w) (HN.left2 w)) (by kernel_rfl)
 ·rfl
 ·assumption
 ·decide +kernel
 ·exact ⟨rfl,rfl,rfl,rfl,rfl,by decide +kernel⟩
 ·w_witness2
 k_fill
 refine W rfl rfl (fun w h Y=>⟨PySem.W.km_in_of Y,fun T hT=>PySem.W.km_tabs_of Y T (by revert hT;revert T;decide)⟩) (fun w T hT=>by
  simp only [aF,cR,or_false] at hT
  rcases hT with rfl | rfl | rfl | rfl | rfl
  ·exact ⟨178,by kernel_rfl⟩
  ·exact ⟨252,by kernel_rfl⟩
  ·exact ⟨320,by kernel_rfl⟩
  ·exact ⟨351,by kernel_rfl⟩
  ·exact ⟨371,by kernel_rfl⟩
  ) (fun w=>by kernel_rfl) ?F
 case F =>
  intro w C k;refine' k ?_ ?_ ?_ ?_ ?_ ?_ ?_ ?_ ?_ ?_ ?_ ?_ ?_ ?_ ?_ ?_ ?_ ?_ ?_ ?_ ?_ ?_ ?_ ?_ ?_ ?_ ?_ ?_ ?_ ?_ ?_ ?_ ?_ ?_ ?_ ?_ ?_ ?_ ?_ ?_ ?_ ?y1 ?z1 ?z2 ?z3 ?z4 ?z5 ?z6 ?z7 ?z8 ?z9 ?z10 ?z11 ?z12 ?z13 ?z14 ?z15 ?z16 ?z17 ?w1 ?w2 ?w3 ?w4 ?w5 ?w6 ?w7 ?w8 ?w9 ?w10 ?w11 ?w12 ?w13 ?w14 ?w15 ?w16 ?w17 ?w18 ?w19 ?w20 ?w21 ?w22 ?w23 ?w24 ?w25 ?w26 ?w27 ?w28 ?w29 ?w30 ?w31 ?w32 ?w33 ?w34 ?w35 ?w36 ?w37 ?w38 ?w39 ?w40 ?w41 ?w42 ?w43 ?w44 ?w45 ?w46 ?w47 ?w48 ?w49 ?w50 ?w51 ?w52 ?w53 ?w54 ?w55 ?w56 ?w57 ?w58 ?w59 ?wc0 ?wh0 ?wh1 ?wc2 ?wh2 ?wc3 ?wh3 ?wc4 ?wh4
  all_goals first | exact ⟨by k_is,_,_,_,_,_,_,_,_,_,by k_is,by k_is,by k_is⟩ | skip
  (case y1=>k_is);(case z1=>k_is);(case z2=>k_is);(case z3=>k_is);(case z4=>k_is);(case z5=>k_is);(case z6=>k_is);(case z7=>k_is);(case z8=>k_is);(case z9=>k_is);(case z10=>k_is);(case z11=>k_is);(case z12=>k_is);(case z13=>k_is);(case z14=>k_is);(case z15=>k_is);(case z16=>k_is);(case z17=>k_is)
  (case w1=>k_is)
  (case w2=>k_is)
  (case w3=>k_is)
  (case w4=>k_is)
  (case w5=>k_is)
  (case w6=>k_is)
  (case w7=>k_is)
  (case w8=>k_is)
  (case w9=>k_is)
  (case w10=>k_is)
  (case w11=>k_is)
  (case w12=>k_is)
  (case w13=>k_is)
  (case w14=>k_is)
  (case w15=>k_is)
  (case w16=>k_is)
  (case w17=>k_is)
  (case w18=>k_is)
  (case w19=>k_is)
  (case w20=>k_is)
  (case w21=>k_is)
  (case w22=>k_is)
  (case w23=>k_is)
  (case w24=>k_is)
  (case w25=>k_is)
  (case w26=>k_is)
  (case w27=>k_is)
  (case w28=>k_is)
  (case w29=>k_is)
  (case w30=>k_is)
  (case w31=>k_is)
  (case w32=>k_is)
  (case w33=>k_is)
  (case w34=>k_is)
  (case w35=>k_is)
  (case w36=>k_is)
  (case w37=>k_is)
  (case w38=>k_is)
  (case w39=>k_is)
  (case w40=>k_is)
  (case w41=>k_is)
  (case w42=>k_is)
  (case w43=>k_is)
  (case w44=>k_is)
  (case w45=>k_is)
  (case w46=>k_is)
  (case w47=>k_is)
  (case w48=>k_is)
  (case w49=>k_is)
  (case w50=>k_is)
  (case w51=>k_is)
  (case w52=>k_is)
  (case w53=>k_is)
  (case w54=>k_is)
  (case w55=>kit_is)
  (case w56=>kit_is)
  (case w57=>kit_is)
  (case w58=>k_is)
  (case w59=>k_exc)
  (case wc0=>exact ⟨_,_,_,_,_,_,_,_,by k_is⟩)
  (case wh0=>kernel_rfl)
  (case wh1=>kernel_rfl)
  (case wc2=>exact ⟨_,_,_,_,_,_,_,_,by k_is⟩)
  (case wh2=>kernel_rfl)
  (case wc3=>exact ⟨_,_,_,_,_,_,_,_,by k_is⟩)
  (case wh3=>kernel_rfl)
  (case wc4=>exact ⟨_,_,_,_,_,_,_,_,by k_is⟩)
  (case wh4=>kernel_rfl)
end
namespace L2
open PySem PySem.Spec PyProof.Rows
abbrev Key:=Sum Int Str
def keyIs:Key→aa→Bool
 | .inl k,v=>aa.isInt k v
 | .inr x,v=>aa.isStrOf x v
def keyH (w:bq):Key→Int
 | .inl k=>hashInt k
 | .inr x=>hashStr w x
theorem fV:∀ {k:Key} {v:aa},keyIs k v=true→(∃ i t,k=Sum.inl i∧v=aa.int i t)∨(∃ x t,k=Sum.inr x∧v=aa.str x t)
 | .inl i,v,h=>by
  obtain ⟨t,e⟩:=aa.isInt_shape (k:=i) (v:=v) h;exact .inl ⟨i,t,rfl,e⟩
 | .inr x,v,h=>by
  obtain ⟨t,e⟩:=aa.isStrOf_shape (x:=x) (v:=v) h;exact .inr ⟨x,t,rfl,e⟩
theorem keyIs_int (i:Int)(t:Tok):keyIs (.inl i) (.int i t)=true:=by simp [keyIs,aa.isInt]
theorem keyIs_str (x:Str)(t:Tok):keyIs (.inr x) (.str x t)=true:=by simp [keyIs,aa.isStrOf]
theorem key_ll (a b:Int):decide ((Sum.inl a:Key)=Sum.inl b)=(a == b):=by
 by_cases e:a=b
 ·subst e;simp
 ·have h:¬ (Sum.inl a:Key)=Sum.inl b:=fun q=>e (Sum.inl.inj q)
  rw [pR h];exact (beq_eq_false_iff_ne.mpr e).symm
theorem key_rr (a b:Str):decide ((Sum.inr a:Key)=Sum.inr b)=decide (a=b):=by
 by_cases e:a=b
 ·subst e;simp
 ·have h:¬ (Sum.inr a:Key)=Sum.inr b:=fun q=>e (Sum.inr.inj q)
  rw [pR h,pR e]
theorem key_lr (a:Int)(b:Str):decide ((Sum.inl a:Key)=Sum.inr b)=false:=pR (fun q=>nomatch q)
theorem key_rl (a:Str)(b:Int):decide ((Sum.inr a:Key)=Sum.inl b)=false:=pR (fun q=>nomatch q)
def gg (prog:aQ)(w:bq):PySem.KeyKind prog w Key where
 is:=keyIs
 hash:=keyH w
 inj:=fun v a b ha hb=>by
  rcases fV ha with ⟨i,t,rfl,rfl⟩ | ⟨x,t,rfl,rfl⟩
  ·rcases fV hb with ⟨j,u,rfl,e⟩ | ⟨y,u,rfl,e⟩
   ·injection e with e1 _;rw [e1]
   ·exact nomatch e
  ·rcases fV hb with ⟨j,u,rfl,e⟩ | ⟨y,u,rfl,e⟩
   ·exact nomatch e
   ·injection e with e1 _;rw [e1]
 byValue:=fun k v h=>by
  rcases fV h with ⟨i,t,rfl,rfl⟩ | ⟨x,t,rfl,rfl⟩ <;> rfl
 pyHash:=fun hv h=>by
  rcases fV hv with ⟨i,t,rfl,rfl⟩ | ⟨x,t,rfl,rfl⟩
  ·exact wpAny_pyHash_int h
  ·exact wpAny_pyHash_str h
 eqBool:=fun hu hv h=>by
  rcases fV hu with ⟨i,t,rfl,rfl⟩ | ⟨x,t,rfl,rfl⟩
  ·rcases fV hv with ⟨j,u,rfl,rfl⟩ | ⟨y,u,rfl,rfl⟩
   ·rw [key_ll] at h;exact wpAny_eqBool_int h
   ·rw [key_lr] at h;exact SeqAt.EqAt.int_str i t y u _ _ _ _ h
  ·rcases fV hv with ⟨j,u,rfl,rfl⟩ | ⟨y,u,rfl,rfl⟩
   ·rw [key_rl] at h;exact SeqAt.EqAt.str_int x t j u _ _ _ _ h
   ·rw [key_rr] at h;exact wpAny_eqBool_str h
 «strs» := fun k x t v h=>by
  rcases fV h with ⟨i,u,rfl,e⟩ | ⟨y,u,rfl,e⟩
  ·exact nomatch e
  ·injection e with e1 _
   subst e1;cases v <;> rfl
theorem mixKind_int (prog:aQ)(w:bq)(i:Int)(t:Tok):(gg prog w).is (.inl i) (.int i t)=true:=keyIs_int i t
theorem mixKind_str (prog:aQ)(w:bq)(x:Str)(t:Tok):(gg prog w).is (.inr x) (.str x t)=true:=keyIs_str x t
inductive V where
 | non | bl (b:Bool) | int (i:Int) | str (x:Str) | byt (b:Array UInt8) | flt (b:UInt64) | ref (a:ai) | ty (n:String)
 deriving DecidableEq
def RelV:V→aa→Prop
 | .non,u=>u=aa.none
 | .bl b,u=>u=aa.bool b
 | .int i,u=>∃ t,u=aa.int i t
 | .str x,u=>∃ t,u=aa.str x t
 | .byt b,u=>∃ t,u=aa.bytes b t
 | .flt b,u=>∃ t,u=aa.float b t
 | .ref a,u=>u=aa.ref a
 | .ty n,u=>u=aa.type n
abbrev Vals:List V→List aa→Prop:=jH RelV
theorem Vals.length {xs:List V}(r:Vals xs us):xs.length=us.length:=Paired.length r
theorem Vals.get:∀ {xs:List V} {us:List aa} {i:Nat} {x:V},Vals xs us→xs[i]? =some x→∃ u,us[i]? =some u∧RelV x u
 | _,_,_,_,.nil,e=>by simp at e
 | _,_,0,_,.cons r _,e=>by simp at e;subst e;exact ⟨_,rfl,r⟩
 | _,_,i+1,x,.cons _ t,e=>by
  obtain ⟨u,h1,h2⟩:=Vals.get (i:=i) (x:=x) t (by simpa using e);exact ⟨u,by simpa using h1,h2⟩
theorem Vals.set {x:V}{u:aa}(r:RelV x u):∀ {xs:List V} {us:List aa} (i:Nat),Vals xs us→Vals (xs.set i x) (us.set i u)
 | _,_,_,.nil=> .nil
 | _,_,0,.cons _ t=> .cons r t
 | _,_,i+1,.cons q t=> .cons q (Vals.set r i t)
theorem Vals.append:∀ {xs ys:List V} {us ws:List aa},Vals xs us→Vals ys ws→Vals (xs++ys) (us++ws)
 | _,_,_,_,.nil,s=>s
 | _,_,_,_,.cons r t,s=> .cons r (Vals.append t s)
theorem Vals.take:∀ {xs:List V} {us:List aa} (n:Nat),Vals xs us→Vals (xs.take n) (us.take n)
 | _,_,0,_=> .nil
 | _,_,_+1,.nil=> .nil
 | _,_,n+1,.cons r t=> .cons r (Vals.take n t)
theorem Vals.drop:∀ {xs:List V} {us:List aa} (n:Nat),Vals xs us→Vals (xs.drop n) (us.drop n)
 | _,_,0,r=>r
 | _,_,_+1,.nil=> .nil
 | _,_,n+1,.cons _ t=>Vals.drop n t
def RelO:Option V→Option aa→Prop
 | some v,some u=>RelV v u
 | none,none=>True
 | _,_=>False
def KV {κ:Type}:List (κ×V)→List (κ×aa)→Prop:=jH fun (p:κ×V) (q:κ×aa)=>p.1=q.1∧RelV p.2 q.2
def kV:Key→V
 | .inl i=> .int i
 | .inr x=> .str x
inductive HO where
 | lst (xs:List V)
 | tup (xs:List V)
 | dK (kvs:List (Key×V)) | dT (kvs:List (List Key×V))
 | set (S:Int→Bool) (n:Nat)
 | ins (C dx:ai) (fs:List (Str×V))
 | own (x:ai)
 | xd (fs:List (Str×V))
 | met (f x:ai)
 | rng (lo hi:Int)
 | frz (o:Obj) (u:HO)
 | tbl (ps:Array aa)
 | ext (φ:bw→Prop)
abbrev Hp:=ai→Option HO
def upd (H:Hp)(a:ai)(o:HO):Hp:=fun b=>if b=a then some o else H b
theorem aW {H:Hp}{o:HO}:upd H a o a=some o:=by unfold upd;rw [pO rfl]
theorem aZ {H:Hp}{b:ai}{o:HO}(h:b≠a):upd H a o b=H b:=by unfold upd;rw [pN h]
theorem upd_upd {H:Hp}{o u:HO}:upd (upd H a o) a u=upd H a u:=by
 funext b;unfold upd;split <;> rfl
theorem eV {H:Hp}{b:ai}{o u:HO}(h:H a=some o)(h':H b=some u)(d:o≠u):a≠b:=by
 intro e;subst e;rw [h] at h';exact d (bC h')
theorem bB {H:Hp}{b:ai}{o:HO}(h:H a=some o)(h':H b=none):a≠b:=by
 intro e;subst e;rw [h] at h';cases h'
def IsTupN (h:bw)(a:ai)(items:Array aa):Prop:=∃ o,h.get? a=some o∧o.cls= .type "tuple" ∧o.dict=none∧∃ n,o.data= .seq items n
theorem IsTupN.tup {h:bw}{a:ai}{items:Array aa}(p:IsTupN h a items):IsTup h a items:=let ⟨o,e,c,_,n,d⟩:=p;⟨o,e,c,n,d⟩
theorem IsTupN.lt (p:IsTupN h a items):a<h.objs.size:=p.tup.lt
theorem IsTupN.new (h:bw)(items:Array aa):IsTupN (h.push { cls:= .type "tuple",data:= .seq items }) h.objs.size items:=⟨_,aN _ rfl,rfl,rfl,_,rfl⟩
section
variable (P:aQ) (w:bq)
def ObjOk (H:Hp)(h:bw)(a:ai):HO→Prop
 | .lst xs=>xs.length≤aR∧∃ (its:List aa) (n:Nat),Vals xs its∧h.get? a=some { cls:= .type "list",data:= .seq its.toArray n }
 | .tup xs=>xs.length≤aR∧∃ its:List aa,Vals xs its∧IsTupN h a its.toArray
 | .dK kvs=>kvs.length≤aR∧(a == iF)=false∧∃ vs,KV kvs vs∧h.DictOf (gg P w) a vs
 | .dT kvs=>kvs.length≤aR∧(a == iF)=false∧∃ xs:List (List Key×ai×aa),
   jH (fun (p:List Key×V) (q:List Key×ai×aa)=>p.1=q.1∧H q.2.1=some (.tup (p.1.map kV))∧RelV p.2 q.2.2) kvs xs ∧
   ∃ o es ep,h.get? a=some o∧o.ExactDict∧o.data= .dict es ep∧es.toList=xs.map (entryOfKey (tupleKind (gg P w)))∧(xs.map (·.1)).Nodup
 | .set S n=>h.SetOf (intKind P w) a S n
 | .ins C dx fs=>H dx=some (.own a)∧fs.length≤1000∧dx≠a∧h.get? a=some (fo C dx) ∧
   ∃ mA,h.Ns1 dx mA∧(∀ f,RelO (fs.lookup f) (mA f))∧PySem.Within mA (fs.map (·.1))
 | .own _=>∃ o,h.get? a=some o
 | .xd fs=>∃ mA,h.Ns1 a mA∧∀ f,RelO (fs.lookup f) (mA f)
 | .rng lo hi=>∃ t u v,h.get? a=some { cls:= .type "range",data:= .fields #[.int lo t,.int hi u,.int 1 v] }
 | .frz o u=>h.get? a=some o∧ObjOk H h a u
 | .tbl ps=>h.get? a=some { cls:= .none,data:= .fields ps }
 | .met f x=>h.get? a=some (PySem.W.methodObj (.ref f) (.ref x))
 | .ext φ=>φ h∧(∃ o,h.get? a=some o)∧∀ h1 h2:bw,φ h1→(∀ o,h1.get? a=some o→h2.get? a=some o)→φ h2
def HOk (H:Hp)(h:bw):Prop:=∀ a o,H a=some o→ObjOk P w H h a o
end
section
variable {H H':Hp}{o:HO}
theorem ObjOk.lt (x:ObjOk P w H h a o):a<h.objs.size:=by
 cases o with
 | lst xs=>obtain ⟨_,_,_,_,e⟩:=x;exact aC e
 | tup xs=>obtain ⟨_,_,_,p⟩:=x;exact p.lt
 | dK kvs=>obtain ⟨_,_,_,_,o,_,_,e,_⟩:=x;exact aC e
 | dT kvs=>obtain ⟨_,_,_,_,o,_,_,e,_⟩:=x;exact aC e
 | set S n=>obtain ⟨o,_,_,_,e,_⟩:=x;exact aC e
 | ins C dx fs=>obtain ⟨_,_,_,e,_⟩:=x;exact aC e
 | own y=>obtain ⟨_,e⟩:=x;exact aC e
 | xd fs=>obtain ⟨_,⟨_,_,_,e,_⟩,_⟩:=x;exact aC e
 | rng lo hi=>obtain ⟨_,_,_,e⟩:=x;exact aC e
 | frz ob u=>obtain ⟨e,_⟩:=x;exact aC e
 | tbl ps=>exact aC (show h.get? a=some _ from x)
 | met f y=>exact aC (show h.get? a=some _ from x)
 | ext φ=>obtain ⟨_,⟨_,e⟩,_⟩:=x;exact aC e
theorem Paired.mapP {α β:Type}{F G:α→β→Prop}:∀ {l₁:List α} {l₂:List β},jH F l₁ l₂→(∀ a b,F a b→G a b)→jH G l₁ l₂
 | _,_,.nil,_=> .nil
 | _,_,.cons r t,f=> .cons (f _ _ r) (Paired.mapP t f)
theorem ObjOk.stay (x:ObjOk P w H h a o)(k:∀ b u,(b=a∨H b=some (.own a))→h.get? b=some u→h'.get? b=some u)
  (ho:∀ b,H b=some (.own a)→H' b=some (.own a)) (ht:∀ b xs,H b=some (.tup xs)→H' b=some (.tup xs)):ObjOk P w H' h' a o:=by
 induction o with
 | lst xs=>obtain ⟨z,its,n,r,e⟩:=x;exact ⟨z,its,n,r,k _ _ (.inl rfl) e⟩
 | tup xs=>obtain ⟨z,its,r,ob,e,c⟩:=x;exact ⟨z,its,r,ob,k _ _ (.inl rfl) e,c⟩
 | dK kvs=>obtain ⟨z,y,vs,r,ob,es,ep,e,c⟩:=x;exact ⟨z,y,vs,r,ob,es,ep,k _ _ (.inl rfl) e,c⟩
 | dT kvs =>
  obtain ⟨z,y,xs,r,ob,es,ep,e,c⟩:=x;exact ⟨z,y,xs,Paired.mapP r fun p q z=>⟨z.1,ht _ _ z.2.1,z.2.2⟩,ob,es,ep,k _ _ (.inl rfl) e,c⟩
 | set S n=>obtain ⟨ob,es,ep,t,e,c⟩:=x;exact ⟨ob,es,ep,t,k _ _ (.inl rfl) e,c⟩
 | ins C dx fs =>
  obtain ⟨d,z,ne,e,mA,⟨od,es,ep,e2,c⟩,r⟩:=x;exact ⟨ho _ d,z,ne,k _ _ (.inl rfl) e,mA,⟨od,es,ep,k _ _ (.inr d) e2,c⟩,r⟩
 | own y=>obtain ⟨ob,e⟩:=x;exact ⟨ob,k _ _ (.inl rfl) e⟩
 | xd fs=>obtain ⟨mA,⟨od,es,ep,e,c⟩,r⟩:=x;exact ⟨mA,⟨od,es,ep,k _ _ (.inl rfl) e,c⟩,r⟩
 | rng lo hi=>obtain ⟨t,u,v,e⟩:=x;exact ⟨t,u,v,k _ _ (.inl rfl) e⟩
 | frz ob u ih=>obtain ⟨e,q⟩:=x;exact ⟨k _ _ (.inl rfl) e,ih q⟩
 | tbl ps =>
  have e:h.get? a=some { cls:= .none,data:= .fields ps }:=x;show h'.get? a=some { cls:= .none,data:= .fields ps };exact k a _ (.inl rfl) e
 | met f y =>
  have e:h.get? a=some (PySem.W.methodObj (.ref f) (.ref y)):=x;show h'.get? a=some (PySem.W.methodObj (.ref f) (.ref y));exact k a _ (.inl rfl) e
 | ext φ=>obtain ⟨p,⟨o,e⟩,st⟩:=x;exact ⟨st _ _ p fun o q=>k _ _ (.inl rfl) q,⟨o,k _ _ (.inl rfl) e⟩,st⟩
theorem HOk.lt (x:HOk P w H h)(e:H a=some o):a<h.objs.size:=(x a o e).lt
theorem HOk.fresh (x:HOk P w H h)(e:h.objs.size≤a):H a=none:=by
 cases q:H a with
 | none=>rfl
 | some u=>exact pP (aL (x.lt q) e) (e7 _)
theorem HOk.kept (x:HOk P w H h)(k:∀ b u,h.get? b=some u→h'.get? b=some u):HOk P w H h':=fun a o e =>
 (x a o e).stay (fun b u _ q=>k b u q) (fun _ q=>q) fun _ _ q=>q
theorem HOk.laid (x:HOk P w H h)(k:∀ b u,h.get? b=some u→h'.get? b=some u)(hp:h.objs.size≤a)(new:ObjOk P w (upd H a o) h' a o):HOk P w (upd H a o) h':=fun b u e=>by
 have hn:=x.fresh hp
 by_cases hb:b=a
 ·subst hb;rw [aW] at e;cases e;exact new
 ·rw [aZ hb] at e
  exact (x b u e).stay (fun c v _ q=>k c v q) (fun c q=>by rw [aZ (bB q hn)];exact q) fun c xs q=>by rw [aZ (bB q hn)];exact q
end
def Rd (H:Hp)(a:ai)(u:HO):Prop:=H a=some u∨∃ o,H a=some (.frz o u)
theorem Rd.of {H:Hp}{u:HO}(h:H a=some u):Rd H a u:= .inl h
theorem Rd.ok {H:Hp}{u:HO}(r:Rd H a u)(x:HOk P w H h):ObjOk P w H h a u:=by
 rcases r with r | ⟨o,r⟩
 ·exact x a u r
 ·obtain ⟨_,q⟩:=x a _ r
  exact q
def Mut:Option HO→Prop
 | some (.lst _)=>True
 | some (.dK _)=>True
 | some (.dT _)=>True
 | some (.set _ _)=>True
 | some (.ins _ _ _)=>True
 | some (.ext _)=>True
 | _=>False
section
variable {H:Hp}{x e:ai}{o':HO}
theorem HOk.write (ok:HOk P w H h)(mu:Mut (H x))(he:e=x∨H e=some (.own x))(k:∀ b u,b≠e→h.get? b=some u→h'.get? b=some u)(heo:∃ u,h'.get? e=some u)
  (new:ObjOk P w (upd H x o') h' x o'):HOk P w (upd H x o') h':=fun b u q=>by
 have nown:∀ c y,H c=some (.own y)→c≠x:=fun c y r z=>by subst z;rw [r] at mu;exact mu
 have ntup:∀ c xs,H c=some (.tup xs)→c≠x:=fun c xs r z=>by subst z;rw [r] at mu;exact mu
 by_cases hb:b=x
 ·subst hb;rw [aW] at q;cases q;exact new
 ·rw [aZ hb] at q
  by_cases hbe:b=e
  ·have q':H b=some (.own x):=by
    rcases he with z | z
    ·exact pP (hbe.trans z) hb
    ·rw [hbe];exact z
   rw [q] at q';cases q';obtain ⟨v,hv⟩:=heo;exact ⟨v,by rw [hbe];exact hv⟩
  ·refine (ok b u q).stay (fun c v hc r=>k c v ?_ r) (fun c r=>by rw [aZ (nown c b r)];exact r) fun c xs r=>by rw [aZ (ntup c xs r)];exact r
   rcases hc with rfl | hc
   ·exact hbe
   ·rintro rfl
    rcases he with z | z
    ·exact nown c b hc z
    ·rw [hc] at z;cases z;exact hb rfl
end
structure Un (fs ex:List ai)(H H':Hp)(h h':bw):Prop where
 keep:∀ b o,h.get? b=some o→H b=none→b ∉ fs→b ∉ ex→h'.get? b=some o
 slot:∀ b o,h.get? b=some o→H b=none→b∈fs→b ∉ ex→∃ sl,h'.get? b=some { o with slots:=sl }
 free:∀ b o,h.get? b=some o→H b=none→b ∉ ex→H' b=none
 there:∀ b o,h.get? b=some o→b ∉ ex→∃ o',h'.get? b=some o'
 tups:∀ b xs,H b=some (.tup xs)→H' b=some (.tup xs)
 frzs:∀ b o u,H b=some (.frz o u)→H' b=some (.frz o u)
 tbls:∀ b ps,H b=some (.tbl ps)→∃ more,H' b=some (.tbl (ps++more))
section
variable {fs fs' ex':List ai}{H H1 H2:Hp}{h1 h2:bw}{x e:ai}{o:HO}
theorem Un.any (u:Un fs ex H H1 h h1){b:ai}{ob:Obj}(q:h.get? b=some ob)(n:H b=none)(hx:b ∉ ex):∃ sl,h1.get? b=some { ob with slots:=sl }:=by
 by_cases hb:b∈fs
 ·exact u.slot b ob q n hb hx
 ·exact ⟨ob.slots,u.keep b ob q n hb hx⟩
theorem Un.kept (k:∀ b u,h.get? b=some u→h'.get? b=some u):Un fs ex H H h h' :=
 ⟨fun b ob q _ _ _=>k b ob q,fun b ob q _ _ _=>⟨ob.slots,k b ob q⟩,fun _ _ _ n _=>n,fun b ob q _=>⟨ob,k b ob q⟩,fun _ _ q=>q,fun _ _ _ q=>q,fun _ ps q=>⟨#[],by rw [q];simp⟩⟩
theorem Un.refl:Un fs ex H H h h:=Un.kept fun _ _ q=>q
theorem Un.laid (k:∀ b u,h.get? b=some u→h'.get? b=some u)(hp:h.objs.size≤a)(hn:H a=none):Un fs ex H (upd H a o) h h' where
 keep:=fun b u q _ _ _=>k b u q
 slot:=fun b u q _ _ _=>⟨u.slots,k b u q⟩
 free:=fun b u q n _=>by rw [aZ (bj (aL (aC q) hp))];exact n
 there:=fun b u q _=>⟨u,k b u q⟩
 tups:=fun b xs q=>by rw [aZ (bB q hn)];exact q
 frzs:=fun b u xs q=>by rw [aZ (bB q hn)];exact q
 tbls:=fun b ps q=>⟨#[],by rw [aZ (bB q hn),q];simp⟩
theorem Un.write (mu:Mut (H x))(he:e=x∨H e=some (.own x))(k:∀ b u,b≠e→h.get? b=some u→h'.get? b=some u)(heo:∃ u,h'.get? e=some u):Un fs ex H (upd H x o) h h':=by
 have hx:∀ b,H b=none→b≠x:=fun b n z=>by subst z;rw [n] at mu;exact mu
 have hb:∀ b,H b=none→b≠e:=fun b n z=>by
  subst z
  rcases he with r | r
  ·exact hx b n r
  ·rw [n] at r;cases r
 have hm:∀ b u,H b=some u→¬ Mut (some u)→b≠x:=fun b u q nm z=>by subst z;rw [q] at mu;exact nm mu
 refine ⟨fun b u q n _ _=>k b u (hb b n) q,fun b u q n _ _=>⟨u.slots,k b u (hb b n) q⟩,fun b u q n _=>by rw [aZ (hx b n)];exact n,fun b u q _=>?_,
  fun b xs q=>by rw [aZ (hm b _ q fun z=>z)];exact q,fun b u xs q=>by rw [aZ (hm b _ q fun z=>z)];exact q,fun b ps q=>⟨#[],by rw [aZ (hm b _ q fun z=>z),q];simp⟩⟩
 by_cases hbe:b=e
 ·subst hbe;exact heo
 ·exact ⟨u,k b u hbe q⟩
end
def trk (h:bw)(H:Hp):List ai:=(aK h.objs.size).filter fun a=>(H a).isSome
def hidT (h:bw)(H:Hp):bw:=PySem.W.hideAll h (trk h H)
theorem hidT_size (h:bw)(H:Hp):(hidT h H).objs.size=h.objs.size:=PySem.W.hideAll_size _ _
theorem hidT_get {H:Hp}{b:ai}{o:Obj}(e:h.get? b=some o)(n:H b=none):(hidT h H).get? b=some o :=
 PySem.W.hideAll_get _ e fun hm=>by
  have q:(H b).isSome=true:=(b9.mp hm).2;rw [n] at q;simp at q
theorem of_hidT {H:Hp}{b:ai}{o:Obj}(e:(hidT h H).get? b=some o):h.get? b=some o∧H b=none:=by
 have e':h.get? b=some o:=PySem.W.of_hideAll (trk h H) e;refine ⟨e',?_⟩;cases q:H b with
 | none=>rfl
 | some x =>
  have hm:b∈trk h H:=b9.mpr ⟨bT.mpr (aC e'),by simp [q]⟩;have z:(hidT h H).get? b=none:=PySem.W.hideAll_none (trk h H) hm;rw [z] at e;cases e
structure Mod (K:au)(mg:Str→Option aa)(base:bw):Prop where
 kin:K.In base
 glob:base.Ns bp mg
 blt:∃ mb,base.Ns builtinsNs mb∧∀ x:Str,x ≠ "__name__" →mb x=jG x
 nolimit:base.NoLimit
structure Cx where
 prog:aQ
 w:bq
 K:au
 mg:Str→Option aa
 base:bw
 A:bG
 N:List Str
 s₀:ao
 H₀:Hp
 env:Env
 outer:List Env
 stack:List Env
 ex:List ai
 fn:Str→Bool
 calm:Bool
 pn:List (ai×Obj)
 xe:aa→ao→Prop
def frs (l:List Env):List ai:=l.filterMap (·.frame)
abbrev Cx.fs (X:Cx):List ai:=frs X.outer
def Vis (sc:gc)(x:Str):Prop:=sc.names.lookup x=some .local∨sc.names.lookup x=some .cell∨sc.names.lookup x=some .free
def Loc (sc:gc)(x:Str):Prop:=sc.names.lookup x=some .local∨sc.names.lookup x=some .cell
def Look (env:Env)(h:bw)(m:Str→Option aa)(x:Str)(u:aa):Prop :=
 (env.kindOf x=some .local∧m x=some u)∨((env.kindOf x=some .cell∨env.kindOf x=some .free)∧∃ c,env.cells.lookup x=some c∧h.IsCell c (some u))
structure Cx.Ok (X:Cx):Prop where
 mod:Mod X.K X.mg X.base
 kind:X.env.scope.kind= .function
 glob:X.env.globals=bp
 blt:X.env.builtins=builtinsNs
 above:X.s₀.heap.objs.size≤X.env.locals
 inj:∀ x y c,X.env.cells.lookup x=some c→X.env.cells.lookup y=some c→x=y
 has:∀ x,(X.env.kindOf x=some .cell∨X.env.kindOf x=some .free)→∃ c,X.env.cells.lookup x=some c
 cab:∀ x c,X.fn x=true→X.env.cells.lookup x=some c→X.s₀.heap.objs.size≤c
 hd:X.calm=true→X.A.handled=none
 frames:X.A.frames=some X.stack
 stk:X.stack=X.outer∨(X.stack=X.env::X.outer∧X.env.frame=some X.env.locals)
 exf:∀ b∈X.ex,b≠X.env.locals∧∀ x c,X.env.cells.lookup x=some c→c≠b
 bs:∀ b o,X.base.get? b=some o→X.s₀.heap.get? b=some o∧X.H₀ b=none
 bsz:X.base.objs.size≤X.s₀.heap.objs.size
 noex:∀ b o,X.base.get? b=some o→b ∉ X.ex
 exfs:∀ b∈X.ex,b ∉ X.fs
 funs:X.s₀.heap.FunFrames X.base X.outer
 frf:∀ b∈X.fs,X.H₀ b=none
structure Inv (X:Cx)(aJ:List (ai×Obj))(σ:List (Option V))(H:Hp)(s:ao):Prop where
 ok:X.Ok
 os:s.os=X.s₀.os
 bare:AllBare s.gens
 base:Un X.fs X.ex X.H₀ H X.s₀.heap s.heap
 loc:∃ m,s.heap.Ns X.env.locals m∧∀ (i:Nat) (x:Str) (v:V),X.N[i]? =some x→σ[i]? =some (some v)→Vis X.env.scope x→∃ u,RelV v u∧Look X.env s.heap m x u
 cell:∀ x c,X.env.cells.lookup x=some c→∃ v,s.heap.IsCell c v
 free:H X.env.locals=none
 freeC:∀ x c,X.env.cells.lookup x=some c→H c=none
 pin:∀ p∈X.pn++aJ,s.heap.get? p.1=some p.2∧H p.1=none∧p.1≠X.env.locals∧p.1 ∉ X.fs∧∀ v,p.2.data≠ .cell v
 hok:HOk X.prog X.w H s.heap
 len:σ.length=X.N.length
section
variable {X:Cx}{σ:List (Option V)}{H H':Hp}
theorem Cx.Ok.nofr (ok:X.Ok){b:ai}{o:Obj}(e:X.base.get? b=some o):b ∉ X.fs:=fun hb=>by
 have:=(ok.funs.mem hb).1;rw [e] at this;cases this
theorem Inv.bs (I:Inv X aJ σ H s):∀ b o,X.base.get? b=some o→s.heap.get? b=some o∧H b=none:=fun b o e =>
 ⟨I.base.keep b o (I.ok.bs b o e).1 (I.ok.bs b o e).2 (I.ok.nofr e) (I.ok.noex b o e),I.base.free b o (I.ok.bs b o e).1 (I.ok.bs b o e).2 (I.ok.noex b o e)⟩
theorem Inv.bk (I:Inv X aJ σ H s):∀ b o,X.base.get? b=some o→s.heap.get? b=some o:=fun b o e=>(I.bs b o e).1
theorem Inv.mod (I:Inv X aJ σ H s):Mod X.K X.mg X.base:=I.ok.mod
theorem Inv.kIn (I:Inv X aJ σ H s):X.K.In s.heap:=I.ok.mod.kin.keeps I.bk
theorem Inv.nolimit (I:Inv X aJ σ H s):s.heap.NoLimit:=I.ok.mod.nolimit.keeps I.bk
theorem Inv.lt (I:Inv X aJ σ H s):X.env.locals<s.heap.objs.size:=let ⟨_,hn,_⟩:=I.loc;hn.lt
theorem Inv.sz (I:Inv X aJ σ H s):X.s₀.heap.objs.size≤s.heap.objs.size:=aS I.ok.above (iu I.lt)
theorem Inv.nofs (I:Inv X aJ σ H s)(h:s.heap.objs.size≤a):a ∉ X.fs:=fun hb=>by
 obtain ⟨_,o,ho,_⟩:=I.ok.funs.mem hb;exact pP (aL (aC ho) (aS I.sz h)) (e7 _)
theorem Inv.cne (I:Inv X aJ σ H s):∀ x c,X.env.cells.lookup x=some c→c≠X.env.locals:=fun x c e z=>by
 obtain ⟨v,o,ho,hd⟩:=I.cell x c e;obtain ⟨m,⟨o',es,ep,ho',hd',_⟩,_⟩:=I.loc;rw [z,ho'] at ho;cases ho;rw [hd'] at hd;cases hd
theorem Inv.funs (I:Inv X aJ σ H s):s.heap.FunFrames X.base X.outer:=by
 have all:∀ (l:List Env),(∀ b∈frs l,b∈X.fs)→X.s₀.heap.FunFrames X.base l→s.heap.FunFrames X.base l:=by
  intro l
  induction l with
  | nil=>intro _ _;trivial
  | cons env r ih =>
   intro hs hl;obtain ⟨hk,⟨L,o,hf,hn,ho,hd⟩,hr⟩:=hl;have hL:L∈X.fs:=hs L (by unfold frs;rw [iD,hf];exact aX);obtain ⟨sl,e⟩:=I.base.slot L o ho (I.ok.frf L hL) hL fun z=>I.ok.exfs L z hL
   exact ⟨hk,⟨L,_,hf,hn,e,hd⟩,ih (fun b hb=>hs b (by unfold frs;rw [iD,hf];exact aD _ hb)) hr⟩
 exact all X.outer (fun _ hb=>hb) I.ok.funs
theorem Inv.stack (I:Inv X aJ σ H s):s.heap.FunFrames X.base X.stack:=by
 rcases I.ok.stk with e | ⟨e,hf⟩
 ·rw [e];exact I.funs
 ·rw [e]
  obtain ⟨m,hn,_⟩:=I.loc;refine .cons (by rw [I.ok.kind];decide) hf hn ?_ I.funs;exact bw.get?_none_of_le (aS I.ok.bsz I.ok.above)
theorem Inv.stkSub (I:Inv X aJ σ H s):∀ b∈frs X.stack,b∈X.env.locals::X.fs:=fun b hb=>by
 rcases I.ok.stk with e | ⟨e,hf⟩
 ·rw [e] at hb;exact aD _ hb
 ·rw [e] at hb
  unfold frs at hb;rw [iD,hf] at hb;exact hb
theorem Inv.stkFree (I:Inv X aJ σ H s):∀ b∈frs X.stack,H b=none:=fun b hb=>by
 rcases aF.mp (I.stkSub b hb) with e | hb
 ·rw [e];exact I.free
 ·obtain ⟨_,o,ho,_⟩:=I.ok.funs.mem hb
  exact I.base.free b o ho (I.ok.frf b hb) fun z=>I.ok.exfs b z hb
theorem Inv.step (I:Inv X aJ σ H s)
  (hch:∀ b∈ch,(b∈X.ex∨X.s₀.heap.objs.size≤b)∧b≠X.env.locals∧(∀ x c,X.env.cells.lookup x=some c→c≠b)∧∀ p∈X.pn++aJ,p.1≠b)
  (keep:∀ b o,b≠X.env.locals→b ∉ X.fs→b ∉ ch→s.heap.get? b=some o→H b=none→h'.get? b=some o)
  (slot:∀ b o,b≠X.env.locals→b∈X.fs→b ∉ ch→s.heap.get? b=some o→H b=none→∃ sl,h'.get? b=some { o with slots:=sl }) (free:∀ b o,b ∉ ch→s.heap.get? b=some o→H b=none→H' b=none)
  (there:∀ b o,b ∉ ch→s.heap.get? b=some o→∃ o',h'.get? b=some o')
  (tups:∀ b xs,H b=some (.tup xs)→H' b=some (.tup xs)) (frzs:∀ b o u,H b=some (.frz o u)→H' b=some (.frz o u)) (tbls:∀ b ps,H b=some (.tbl ps)→∃ more,H' b=some (.tbl (ps++more)))
  (ns:∀ m,s.heap.Ns X.env.locals m→h'.Ns X.env.locals m) (hok:HOk X.prog X.w H' h') (hg:AllBare g') :
  Inv X aJ σ H' { s with heap:=h',gens:=g',drawn:=d',toks:=t' }:=by
 have neL:∀ b o,X.s₀.heap.get? b=some o→b≠X.env.locals:=fun b o e=>bj (aL (aC e) I.ok.above)
 have neC:∀ b o,X.s₀.heap.get? b=some o→b ∉ X.ex→b ∉ ch:=fun b o e hx hb=>by
  rcases (hch b hb).1 with z | z
  ·exact hx z
  ·exact pP (aL (aC e) z) (e7 _)
 have cellK:∀ x c,X.env.cells.lookup x=some c→∀ v,s.heap.IsCell c v→h'.IsCell c v:=fun x c e v ⟨o,ho,hd⟩=>by
  have nch:c ∉ ch:=fun z=>(hch c z).2.2.1 x c e rfl
  by_cases hc:c∈X.fs
  ·obtain ⟨sl,q⟩:=slot c o (I.cne x c e) hc nch ho (I.freeC x c e)
   exact ⟨_,q,hd⟩
  ·exact ⟨o,keep c o (I.cne x c e) hc nch ho (I.freeC x c e),hd⟩
 refine ⟨I.ok,I.os,hg,⟨fun b o e n hb hx=>?_,fun b o e n hb hx=>?_,fun b o e n hx=>?_,fun b o e hx=>?_,fun b xs e=>tups b xs (I.base.tups b xs e),fun b o xs e=>frzs b o xs (I.base.frzs b o xs e),fun b ps e=>?_⟩,?_,fun x c e=>?_,?_,fun x c e=>?_,fun p hp=>?_,hok,I.len⟩
 ·exact keep b o (neL b o e) hb (neC b o e hx) (I.base.keep b o e n hb hx) (I.base.free b o e n hx)
 ·obtain ⟨sl,e1⟩:=I.base.slot b o e n hb hx
  obtain ⟨sl',e2⟩:=slot b _ (neL b o e) hb (neC b o e hx) e1 (I.base.free b o e n hx);exact ⟨sl',e2⟩
 ·obtain ⟨o',e1⟩:=I.base.there b o e hx
  exact free b o' (neC b o e hx) e1 (I.base.free b o e n hx)
 ·obtain ⟨o',e1⟩:=I.base.there b o e hx
  exact there b o' (neC b o e hx) e1
 ·obtain ⟨m1,e1⟩:=I.base.tbls b ps e
  obtain ⟨m2,e2⟩:=tbls b _ e1;exact ⟨m1++m2,by rw [e2,Array.append_assoc]⟩
 ·obtain ⟨m,hn,hl⟩:=I.loc
  refine ⟨m,ns m hn,fun i x v e1 e2 e3=>?_⟩;obtain ⟨u,r,l⟩:=hl i x v e1 e2 e3;refine ⟨u,r,?_⟩
  rcases l with l | ⟨k,c,e,z⟩
  ·exact .inl l
  ·exact .inr ⟨k,c,e,cellK x c e _ z⟩
 ·obtain ⟨v,z⟩:=I.cell x c e
  exact ⟨v,cellK x c e v z⟩
 ·obtain ⟨m,⟨o,_,_,ho,_⟩,_⟩:=I.loc
  exact free _ o (fun z=>(hch _ z).2.1 rfl) ho I.free
 ·obtain ⟨v,o,ho,hd⟩:=I.cell x c e
  exact free c o (fun z=>(hch c z).2.2.1 x c e rfl) ho (I.freeC x c e)
 ·obtain ⟨e,n,ne,nf,d⟩:=I.pin p hp
  have nch:p.1 ∉ ch:=fun z=>(hch p.1 z).2.2.2 p hp rfl
  exact ⟨keep p.1 p.2 ne nf nch e n,free p.1 p.2 nch e n,ne,nf,d⟩
theorem Inv.un (I:Inv X aJ σ H s)(u:Un X.fs [] H H' s.heap h')(hok:HOk X.prog X.w H' h'):Inv X aJ σ H' { s with heap:=h',toks:=t' }:=by
 obtain ⟨m,⟨o,es,ep,ho,r⟩,_⟩:=id I.loc;obtain ⟨sl,hL⟩:=u.any ho I.free (by simp);exact I.step (g':=s.gens) (d':=s.drawn) (ch:=[]) (fun _ z=>nomatch z) (fun b o _ hb _ e n=>u.keep b o e n hb (by simp)) (fun b o _ hb _ e n=>u.slot b o e n hb (by simp)) (fun b o _ e n=>u.free b o e n (by simp)) (fun b o _ e=>u.there b o e (by simp)) u.tups u.frzs u.tbls (fun m' hm=>by
  obtain ⟨o',es',ep',ho',r'⟩:=hm;rw [ho] at ho';cases ho';exact ⟨_,es',ep',hL,r'⟩) hok I.bare
theorem Inv.call (I:Inv X aJ σ H s)(u:Un (frs X.stack) ch H H' s.heap h')(hok:HOk X.prog X.w H' h')(hg:AllBare g')
  (hch:∀ b∈ch,(b∈X.ex∨X.s₀.heap.objs.size≤b)∧b≠X.env.locals∧(∀ x c,X.env.cells.lookup x=some c→c≠b)∧∀ p∈X.pn++aJ,p.1≠b) :
  Inv X aJ σ H' { s with heap:=h',gens:=g',drawn:=d',toks:=t' }:=by
 obtain ⟨m,⟨o,es,ep,ho,r⟩,_⟩:=id I.loc;obtain ⟨sl,hL⟩:=u.any ho I.free fun z=>(hch _ z).2.1 rfl
 exact I.step (ch:=ch) hch (fun b o hL hb hc e n=>u.keep b o e n (fun z=>(aF.mp (I.stkSub b z)).elim hL hb) hc) (fun b o _ _ hc e n=>u.any e n hc) (fun b o hc e n=>u.free b o e n hc) (fun b o hc e=>u.there b o e hc) u.tups u.frzs u.tbls (fun m' hm=>by
  obtain ⟨o',es',ep',ho',r'⟩:=hm;rw [ho] at ho';cases ho';exact ⟨_,es',ep',hL,r'⟩) hok hg
theorem Inv.turned {it:ai}(I:Inv X aJ σ H s)(k:∀ b o,b≠it→s.heap.get? b=some o→h'.get? b=some o)(hn:H it=none)(hL:it≠X.env.locals)
  (h1:it∈X.ex∨X.s₀.heap.objs.size≤it) (h2:∀ x c,X.env.cells.lookup x=some c→c≠it) (h3:∀ p∈X.pn++aJ,p.1≠it):Inv X aJ σ H { s with heap:=h',toks:=t' }:=by
 have nit:∀ b u,H b=some u→b≠it:=fun b u e z=>by rw [z,hn] at e;cases e
 refine I.step (g':=s.gens) (d':=s.drawn) (ch:=[it]) (fun b hb=>?_) (fun b o _ _ hc e _=>k b o (fun z=>hc (by simp [z])) e) (fun b o _ _ hc e _=>⟨o.slots,k b o (fun z=>hc (by simp [z])) e⟩) (fun _ _ _ _ n=>n)
  (fun b o hc e=>⟨o,k b o (fun z=>hc (by simp [z])) e⟩) (fun _ _ e=>e) (fun _ _ _ e=>e) (fun b ps e=>⟨#[],by rw [e];simp⟩) (fun m hm=>?_) (fun b u e=>?_) I.bare
 ·have e:b=it:=by simpa using hb
  subst e;exact ⟨h1,hL,h2,h3⟩
 ·obtain ⟨o,es,ep,ho,r⟩:=hm
  exact ⟨o,es,ep,k _ o (cn hL) ho,r⟩
 ·refine (I.hok b u e).stay (fun c v hc q=>k c v ?_ q) (fun _ q=>q) fun _ _ q=>q
  rcases hc with z | z
  ·rw [z];exact nit b u e
  ·exact nit c _ z
theorem Inv.tok (I:Inv X aJ σ H s)(t:Nat):Inv X aJ σ H { s with toks:=t }:=I.un (h':=s.heap) (t':=t) Un.refl I.hok
theorem Inv.kept (I:Inv X aJ σ H s)(k:∀ b u,s.heap.get? b=some u→h'.get? b=some u):Inv X aJ σ H { s with heap:=h',toks:=t' }:=I.un (Un.kept k) (I.hok.kept k)
theorem Inv.laid {o:HO}(I:Inv X aJ σ H s)(k:∀ b u,s.heap.get? b=some u→h'.get? b=some u)(hp:s.heap.objs.size≤a)(new:ObjOk X.prog X.w (upd H a o) h' a o) :
  Inv X aJ σ (upd H a o) { s with heap:=h',toks:=t' }:=I.un (Un.laid k hp (I.hok.fresh hp)) (I.hok.laid k hp new)
theorem Inv.write {x e:ai}{o:HO}(I:Inv X aJ σ H s)(mu:Mut (H x))(he:e=x∨H e=some (.own x))(k:∀ b u,b≠e→s.heap.get? b=some u→h'.get? b=some u)(heo:∃ u,h'.get? e=some u)
  (new:ObjOk X.prog X.w (upd H x o) h' x o):Inv X aJ σ (upd H x o) { s with heap:=h',toks:=t' }:=I.un (Un.write mu he k heo) (I.hok.write mu he k heo new)
theorem Inv.pins_of (I:Inv X aJ σ H s)(h:∀ p∈pins',s.heap.get? p.1=some p.2∧H p.1=none∧p.1≠X.env.locals∧p.1 ∉ X.fs∧∀ v,p.2.data≠ .cell v):Inv X pins' σ H s :=
 ⟨I.ok,I.os,I.bare,I.base,I.loc,I.cell,I.free,I.freeC,fun p hp=>(aG.mp hp).elim (fun z=>I.pin p (aE _ z)) (h p),I.hok,I.len⟩
theorem nodup_ix (hN:N.Nodup)(a:N[i]? =some x)(b:N[j]? =some x):i=j:=by
 obtain ⟨h1,e1⟩:=ar.mp a;obtain ⟨h2,e2⟩:=ar.mp b;exact (jx hN).mp (e1.trans e2.symm)
theorem store_ok2 {v:V}{Q:Unit→ao→Prop}(I:Inv X aJ σ H s)(hN:X.N.Nodup)(hi:X.N[i]? =some x)(hx:Loc X.env.scope x)(r:RelV v u)
  (h:∀ s',Inv X aJ (σ.set i (some v)) H s'→(∃ a,cb a s.heap s'.heap∧(a=X.env.locals∨X.env.cells.lookup x=some a))→Q () s') (hf:X.fn x=true∨X.env.scope.names.lookup x=some .local:=by first | exact .inl rfl | exact .inr rfl | assumption):aH M A (storeName X.env x u) Q E s:=by
 obtain ⟨m,hn,hl⟩:=id I.loc;have hcls:(X.env.scope.kind == .class || (X.env.scope.kind == .module && X.env.locals != X.env.globals))=false:=by rw [I.ok.kind];rfl
 have hiσ:i<σ.length:=by rw [I.len];exact (ar.mp hi).1
 have cne:=I.cne;have tracked:∀ {a:ai} {h':bw},(∃ o,s.heap.get? a=some o∧H a=none)→cb a s.heap h'→HOk X.prog X.w H h':=fun {a h'} ha hs b ob e=>by
  obtain ⟨_,_,hfree⟩:=ha;refine (I.hok b ob e).stay (fun c w' hc q=>(hs.2 c ?_).trans q) (fun _ q=>q) fun _ _ q=>q
  rintro rfl
  rcases hc with rfl | hc
  ·rw [hfree] at e;cases e
  ·rw [hfree] at hc;cases hc
 rcases hx with hk | hk
 ·refine wpAny_storeName_local hk hn (fun h' hn' hs=>?_) hcls
  obtain ⟨oL,_,_,hoL,_⟩:=id hn;refine h _ ⟨I.ok,I.os,I.bare,⟨fun b o e n hb hx=>?_,fun b o e n hb hx=>?_,I.base.free,fun b o e hx=>?_,I.base.tups,I.base.frzs,I.base.tbls⟩,⟨_,hn',fun j y v' e1 e2 e3=>?_⟩,fun y c e=>?_,I.free,I.freeC,fun p hp=>?_,tracked ⟨oL,hoL,I.free⟩ hs,by simpa using I.len⟩ ⟨_,hs,.inl rfl⟩
  ·exact (hs.2 b (bj (aL (aC e) I.ok.above))).trans (I.base.keep b o e n hb hx)
  ·obtain ⟨sl,e1⟩:=I.base.slot b o e n hb hx
   exact ⟨sl,(hs.2 b (bj (aL (aC e) I.ok.above))).trans e1⟩
  ·obtain ⟨o',e1⟩:=I.base.there b o e hx
   exact ⟨o',(hs.2 b (bj (aL (aC e) I.ok.above))).trans e1⟩
  ·by_cases hj:j=i
   ·subst hj
    rw [hi] at e1;cases e1;rw [dZ hiσ] at e2;cases e2;exact ⟨u,r,.inl ⟨hk,by simp⟩⟩
   ·rw [dN (cn hj)] at e2
    obtain ⟨u',r',q⟩:=hl j y v' e1 e2 e3;refine ⟨u',r',?_⟩
    rcases q with ⟨k,e⟩ | ⟨k,c,e,z⟩
    ·refine .inl ⟨k,?_⟩
     have:y≠x:=fun e=>hj (nodup_ix hN e1 (e ▸ hi))
     simp [this,e]
    ·exact .inr ⟨k,c,e,z.sameBut hs (cne y c e)⟩
  ·obtain ⟨w',z⟩:=I.cell y c e
   exact ⟨w',z.sameBut hs (cne y c e)⟩
  ·obtain ⟨e,n,ne,nf,d⟩:=I.pin p hp
   exact ⟨(hs.2 p.1 ne).trans e,n,ne,nf,d⟩
 ·have hfn:X.fn x=true:=by
   rcases hf with z | z
   ·exact z
   ·rw [z] at hk;cases hk
  obtain ⟨c,hc⟩:=I.ok.has x (.inl hk);obtain ⟨w',z⟩:=I.cell x c hc;refine wpAny_storeName_cell I.ok.kind hk hc z (fun h' hc' hs=>?_);obtain ⟨oc,hoc,hocd⟩:=id z;refine h { s with heap:=h' } ⟨I.ok,I.os,I.bare,⟨fun b o e n hb hx=>?_,fun b o e n hb hx=>?_,I.base.free,fun b o e hx=>?_,I.base.tups,I.base.frzs,I.base.tbls⟩,⟨m,hn.sameBut hs (cn (cne x c hc)),fun j y v' e1 e2 e3=>?_⟩,fun y c' e=>?_,I.free,I.freeC,fun p hp=>?_,tracked ⟨oc,hoc,I.freeC x c hc⟩ hs,by simpa using I.len⟩ ⟨c,hs,.inr hc⟩
  ·exact (hs.2 b (bj (aL (aC e) (I.ok.cab x c hfn hc)))).trans (I.base.keep b o e n hb hx)
  ·obtain ⟨sl,e1⟩:=I.base.slot b o e n hb hx
   exact ⟨sl,(hs.2 b (bj (aL (aC e) (I.ok.cab x c hfn hc)))).trans e1⟩
  ·obtain ⟨o',e1⟩:=I.base.there b o e hx
   exact ⟨o',(hs.2 b (bj (aL (aC e) (I.ok.cab x c hfn hc)))).trans e1⟩
  ·by_cases hj:j=i
   ·subst hj
    rw [hi] at e1;cases e1;rw [dZ hiσ] at e2;cases e2;exact ⟨u,r,.inr ⟨.inl hk,c,hc,hc'⟩⟩
   ·rw [dN (cn hj)] at e2
    obtain ⟨u',r',q⟩:=hl j y v' e1 e2 e3;refine ⟨u',r',?_⟩
    rcases q with q | ⟨k,c',e,z'⟩
    ·exact .inl q
    ·refine .inr ⟨k,c',e,z'.sameBut hs ?_⟩
     rintro rfl;exact hj (nodup_ix hN e1 (I.ok.inj _ _ _ e hc ▸ hi))
  ·by_cases hcc:c'=c
   ·subst hcc;exact ⟨_,hc'⟩
   ·obtain ⟨w2,z2⟩:=I.cell y c' e
    exact ⟨w2,z2.sameBut hs hcc⟩
  ·obtain ⟨e,n,ne,nf,d⟩:=I.pin p hp
   refine ⟨(hs.2 p.1 ?_).trans e,n,ne,nf,d⟩;intro q;rw [q,hoc] at e;have q':oc=p.2:=bC e;exact d w' (by rw [←q'];exact hocd)
theorem nI {v:V}{Q:Unit→ao→Prop}(I:Inv X aJ σ H s)(hN:X.N.Nodup)(hi:X.N[i]? =some x)(hx:Loc X.env.scope x)(r:RelV v u)
  (h:∀ s',Inv X aJ (σ.set i (some v)) H s'→Q () s') (hf:X.fn x=true∨X.env.scope.names.lookup x=some .local:=by first | exact .inl rfl | exact .inr rfl | assumption):aH M A (storeName X.env x u) Q E s :=
 store_ok2 I hN hi hx r (fun s' I' _=>h s' I') hf
theorem Inv.call' (I:Inv X aJ σ H s)(ho:s'.os=s.os)(u:Un (frs X.stack) ch H H' s.heap s'.heap)(hok:HOk X.prog X.w H' s'.heap)(hg:AllBare s'.gens)
  (hch:∀ b∈ch,(b∈X.ex∨X.s₀.heap.objs.size≤b)∧b≠X.env.locals∧(∀ x c,X.env.cells.lookup x=some c→c≠b)∧∀ p∈X.pn++aJ,p.1≠b):Inv X aJ σ H' s':=by
 obtain ⟨h',g',d',t',o'⟩:=s';have e:o'=s.os:=ho;subst e;exact I.call (g':=g') (t':=t') (d':=d') u hok hg hch
end
abbrev XK:=aa→Option ai→Hp→Prop
abbrev St:=List (Option V)
abbrev VK:=V→Hp→Prop
abbrev TE:=St→Hp→VK→Prop
abbrev TT:=St→Hp→(Bool→Hp→Prop)→Prop
abbrev TA:=St→Hp→(List V→Hp→Prop)→Prop
end L2
variable {H H' H0 H1 H2 Hc:L2.Hp}{X:L2.Cx}{dvs xs ys zs:List L2.V}{kvs:List (List L2.Key×L2.V)}{o:L2.HO}{r:L2.V→List L2.V→L2.Hp→L2.VK→Prop}{t:L2.TA}{ta te tl to tr tv:L2.TE}{trs:List (L2.TE×L2.TE)}{tt:L2.TT}{v y:L2.V}{σ:L2.St}
namespace L2
open PySem PySem.Spec PyProof.Rows
structure j8 where
 nx:St→Hp→Prop
 rt:VK
 bk:St→Hp→Prop:=fun _ _=>False
 ct:St→Hp→Prop:=fun _ _=>False
abbrev TS:=j8→St→Hp→Prop
def EP (X:Cx)(aJ:List (ai×Obj))(σ:St)(Q:VK)(u:aa)(s':ao):Prop:=∃ v H',Inv X aJ σ H' s'∧RelV v u∧Q v H'
def TP (X:Cx)(aJ:List (ai×Obj))(σ:St)(Q:Bool→Hp→Prop)(b:Bool)(s':ao):Prop:=∃ H',Inv X aJ σ H' s'∧Q b H'
def AP (X:Cx)(aJ:List (ai×Obj))(σ:St)(Q:List V→Hp→Prop)(us:List aa)(s':ao):Prop:=∃ vs H',Inv X aJ σ H' s'∧Vals vs us∧Q vs H'
def SP (X:Cx)(aJ:List (ai×Obj))(D:j8)(f:Flow)(s':ao):Prop :=
 match f with
 | .next=>∃ σ' H',Inv X aJ σ' H' s'∧D.nx σ' H'
 | .brk=>∃ σ' H',Inv X aJ σ' H' s'∧D.bk σ' H'
 | .cont=>∃ σ' H',Inv X aJ σ' H' s'∧D.ct σ' H'
 | .ret u=>∃ v σ' H',Inv X aJ σ' H' s'∧RelV v u∧D.rt v H'
def PE (X:Cx)(e:Expr)(t:TE):Prop :=
 ∀ (aJ:List (ai×Obj)) (s:ao) (σ:St) (H:Hp) (Q:VK),Inv X aJ σ H s→t σ H Q→aH (aU X.prog X.w) X.A (dg e X.env) (EP X aJ σ Q) X.xe s
def PT (X:Cx)(e:Expr)(t:TT):Prop :=
 ∀ (aJ:List (ai×Obj)) (s:ao) (σ:St) (H:Hp) (Q:Bool→Hp→Prop),Inv X aJ σ H s→t σ H Q→aH (aU X.prog X.w) X.A (isTrue e X.env (dg e X.env)) (TP X aJ σ Q) X.xe s
def PW (X:Cx)(e:Expr)(t:TT):Prop :=
 ∀ (whole:Sem aa) (aJ:List (ai×Obj)) (s:ao) (σ:St) (H:Hp) (Q:Bool→Hp→Prop),Inv X aJ σ H s→t σ H Q→aH (aU X.prog X.w) X.A (isTrue e X.env whole) (TP X aJ σ Q) X.xe s
theorem PW.pt {t:TT}(h:PW X e t):PT X e t:=h _
def PA (X:Cx)(es:List Expr)(t:TA):Prop :=
 ∀ (pos:Pos) (aJ:List (ai×Obj)) (s:ao) (σ:St) (H:Hp) (Q:List V→Hp→Prop),Inv X aJ σ H s→t σ H Q→aH (aU X.prog X.w) X.A (spliced (dM pos (bb es X.env))) (AP X aJ σ Q) X.xe s
def PS (X:Cx)(st:cG)(t:TS):Prop :=
 ∀ (aJ:List (ai×Obj)) (s:ao) (σ:St) (H:Hp) (D:j8),Inv X aJ σ H s→t D σ H→aH (aU X.prog X.w) X.A (exec st X.env) (SP X aJ D) X.xe s
def PSs (X:Cx)(st:List cG)(t:TS):Prop :=
 ∀ (aJ:List (ai×Obj)) (s:ao) (σ:St) (H:Hp) (D:j8),Inv X aJ σ H s→t D σ H→aH (aU X.prog X.w) X.A (execs st X.env) (SP X aJ D) X.xe s
theorem thn {t:Sem α}{Q Q':α→ao→Prop}(h:aH M A t Q E s)(hQ:∀ a s,Q a s→Q' a s):aH M A t Q' E s:=bH h hQ fun _ _ x=>x
section
inductive HasV (o:Option (Option V))(k:V→Prop):Prop
 | mk (v:V)(h:o=some (some v))(q:k v):HasV o k
inductive IsBl (x:V)(k:Bool→Prop):Prop
 | mk (c:Bool)(h:x= .bl c)(q:k c):IsBl x k
def tVar (i:Nat):TE:=fun σ H Q=>HasV σ[i]? fun v=>Q v H
def tC (v:V):TE:=fun _ H Q=>Q v H
theorem pe_var (hN:X.N[i]? =some x)(hv:Vis X.env.scope x)(hd:(x == ("__debug__" :Str))=false:=by decide)(hcd:(x == ("__classdict__" :Str))=false:=by decide):PE X (.Name x pos) (tVar i):=by
 intro aJ s σ H Q I h;obtain ⟨v,e,h⟩:=h;obtain ⟨m,hn,hl⟩:=I.loc;obtain ⟨u,r,l⟩:=hl i x v hN e hv;have fin:EP X aJ σ Q u s:=⟨v,H,I,r,h⟩
 rcases l with ⟨hk,hm⟩ | ⟨hk,c,hc,iH⟩
 ·exact wpAny_Name (wpAny_loadName_local I.ok.kind hk hn hm fin) hd
 ·rcases hk with hk | hk
  ·exact wpAny_Name (wpAny_loadName_cell I.ok.kind hk hc iH fin) hd
  ·exact wpAny_Name (wpAny_loadName_free I.ok.kind hk hc iH fin hcd) hd
theorem bR {i j pos}:PE X (.Constant (.int i) j pos) (tC (.int i)):=fun _ _ _ H _ I h=>wpAny_Constant_int ⟨.int i,H,I.tok _,⟨_,rfl⟩,h⟩
theorem pe_bl {b j pos}:PE X (.Constant (.bool b) j pos) (tC (.bl b)):=fun _ _ _ H _ I h=>Constant_bool ⟨.bl b,H,I,rfl,h⟩
theorem pe_non {j pos}:PE X (.Constant .none j pos) (tC .non):=fun _ _ _ H _ I h=>Constant_none ⟨.non,H,I,rfl,h⟩
theorem nA {x j pos}:PE X (.Constant (.str x) j pos) (tC (.str x)):=fun _ _ _ H _ I h=>Calls.Constant_str ⟨.str x,H,I.tok _,⟨_,rfl⟩,h⟩
def Gl (X:Cx)(x:Str):Prop:=X.env.kindOf x=some .globalImplicit
theorem md (I:Inv X aJ σ H s)(hg:Gl X x)(hm:X.mg x=some u)(h:Q u s)
  (hd:(x == ("__debug__" :Str))=false:=by decide):aH (aU X.prog X.w) X.A (dg (.Name x pos) X.env) Q E s :=
 Calls.Name_function_global I.ok.kind hg (Calls.loadGlobal_global (by rw [I.ok.glob];exact I.mod.glob.keeps I.bk) hm h) hd
theorem lV (I:Inv X aJ σ H s)(hg:Gl X x)(hm:X.mg x=none)(hv:jG x=some u)(h:Q u s)
  (hn:x ≠ "__name__" := by decide) (hd:(x == ("__debug__" :Str))=false:=by decide):aH (aU X.prog X.w) X.A (dg (.Name x pos) X.env) Q E s:=by
 obtain ⟨mb,h1,h2⟩:=I.mod.blt;exact Calls.Name_function_global I.ok.kind hg (Calls.loadGlobal_builtin (by rw [I.ok.glob];exact I.mod.glob.keeps I.bk) hm (by rw [I.ok.blt];exact h1.keeps I.bk) ((h2 x hn).trans hv) h) hd
theorem kG (hg:Gl X x)(hm:X.mg x=some u)(r:RelV v u)(hd:(x == ("__debug__" :Str))=false:=by decide):PE X (.Name x pos) (tC v) :=
 fun _ _ _ H _ I h=>md I hg hm ⟨v,H,I,r,h⟩ hd
theorem pe_bltn (hg:Gl X x)(hm:X.mg x=none)(hv:jG x=some u)(r:RelV v u)(hn:x ≠ "__name__" := by decide)(hd:(x == ("__debug__" :Str))=false:=by decide):PE X (.Name x pos) (tC v) :=
 fun _ _ _ H _ I h=>lV I hg hm hv ⟨v,H,I,r,h⟩ hn hd
variable {a b:Expr}{tb:TE}
def PC (X:Cx)(op:CmpOp)(a b:Expr)(t:TE):Prop :=
 ∀ (aJ:List (ai×Obj)) (s:ao) (σ:St) (H:Hp) (Q:VK),Inv X aJ σ H s→t σ H Q →
  aH (aU X.prog X.w) X.A (dg a X.env) (fun v s₁=>aH (aU X.prog X.w) X.A (dg b X.env) (fun u s₂=>aH (aU X.prog X.w) X.A (fQ op v u) (EP X aJ σ Q) X.xe s₂) X.xe s₁) X.xe s
def tB (t:TE):TT:=fun σ H Q=>t σ H fun x H1=>IsBl x fun c=>Q c H1
theorem pt_cmp {t:TE}(h:PC X op a b t)(h1:behindInMarks op b=false:=by first | exact nobehind _ (by decide) (by decide) | rfl):PT X (.Compare a [op] [b] pos) (tB t):=by
 intro aJ s σ H Q I hw;refine wpAny_isTrue_Compare1 (thn (h aJ s σ H _ I hw) fun v s1 h1=>thn h1 fun u s2 h2=>thn h2 fun c s3 ⟨x,H1,I1,r1,q1⟩=>?_) h1;obtain ⟨d,rfl,q⟩:=q1;cases r1;exact jy ⟨H1,I1,q⟩
theorem pt_val {t:TE}(h:PE X e t)(he:∀ whole,isTrue e X.env whole=(do let v ← whole;standAt e.pos;jD [v] (truthy v)):=by intro _;rfl):PT X e (tB t):=by
 intro aJ s σ H Q I hw;refine isTrue_plain (thn (h aJ s σ H _ I hw) fun v s1 ⟨x,H1,I1,r1,q1⟩=>?_) (he _);obtain ⟨d,rfl,q⟩:=q1;cases r1;exact jy ⟨H1,I1,q⟩
variable {tA tB':TT} {rest:List Expr}
def tAnd (t u:TT):TT:=fun σ H Q=>t σ H fun c H1=>if c=true then u σ H1 Q else Q false H1
def tOr (t u:TT):TT:=fun σ H Q=>t σ H fun c H1=>if c=true then Q true H1 else u σ H1 Q
def tNot (t:TT):TT:=fun σ H Q=>t σ H fun c H1=>Q (!c) H1
theorem pw_and1 (ha:PT X a tA):PW X (.BoolOp .And [a] pos) tA:=by
 intro wh aJ s σ H Q I h;refine isTrue_and (thn (ha aJ s σ H Q I h) fun c s1 e=>?_);cases c with
 | true=>exact isTrue_and_nil e
 | false=>exact e
theorem pw_or1 (ha:PT X a tA):PW X (.BoolOp .Or [a] pos) tA:=by
 intro wh aJ s σ H Q I h;refine isTrue_or (thn (ha aJ s σ H Q I h) fun c s1 e=>?_);cases c with
 | false=>exact isTrue_or_nil e
 | true=>exact e
theorem pw_and (ha:PT X a tA)(hb:PW X (.BoolOp .And (b::rest) pos) tB'):PW X (.BoolOp .And (a::b::rest) pos) (tAnd tA tB'):=by
 intro wh aJ s σ H Q I h;refine isTrue_and (thn (ha aJ s σ H _ I h) fun c s1 ⟨H1,I1,q1⟩=>?_);cases c with
 | true=>exact hb wh aJ s1 σ H1 Q I1 q1
 | false=>exact ⟨H1,I1,q1⟩
theorem pw_or (ha:PT X a tA)(hb:PW X (.BoolOp .Or (b::rest) pos) tB'):PW X (.BoolOp .Or (a::b::rest) pos) (tOr tA tB'):=by
 intro wh aJ s σ H Q I h;refine isTrue_or (thn (ha aJ s σ H _ I h) fun c s1 ⟨H1,I1,q1⟩=>?_);cases c with
 | true=>exact ⟨H1,I1,q1⟩
 | false=>exact hb wh aJ s1 σ H1 Q I1 q1
theorem pt_not (ha:PT X a tA):PT X (.UnaryOp .Not a pos) (tNot tA):=by
 intro aJ s σ H Q I h;exact isTrue_not (ha aJ s σ H (fun c H1=>Q (!c) H1) I h)
def tIf (t:TT)(ta tb:TE):TE:=fun σ H Q=>t σ H fun c H1=>if c=true then ta σ H1 Q else tb σ H1 Q
theorem nP {c:Expr}(hc:PT X c tA)(ha:PE X a ta)(hb:PE X b tb):PE X (.IfExp c a b pos) (tIf tA ta tb):=by
 intro aJ s σ H Q I h;refine wpAny_IfExp (thn (hc aJ s σ H _ I h) fun d s1 ⟨H1,I1,q1⟩=>?_);cases d with
 | true=>exact ha aJ s1 σ H1 Q I1 q1
 | false=>exact hb aJ s1 σ H1 Q I1 q1
end
def SqL (K:au)(H:Hp)(a:ai)(xs:List V):Prop :=
 Rd H a (.lst xs) ∨
  ∃ (o:Obj) (its:Array aa) (n:Nat),K.lookup a=some o∧o.cls= .type "list" ∧o.dict=none∧o.data= .seq its n∧its.size≤aR∧Vals xs its.toList
def SqT (K:au)(H:Hp)(a:ai)(xs:List V):Prop :=
 Rd H a (.tup xs) ∨
  ∃ (o:Obj) (its:Array aa) (n:Nat),K.lookup a=some o∧o.cls= .type "tuple" ∧o.data= .seq its n∧its.size≤aR∧Vals xs its.toList
def absV:aa→Option V
 | .none=>some .non
 | .bool b=>some (.bl b)
 | .int i _=>some (.int i)
 | .str x _=>some (.str x)
 | .bytes b _=>some (.byt b)
 | .float b _=>some (.flt b)
 | .ref a=>some (.ref a)
 | .type n=>some (.ty n)
 | _=>none
theorem RelV.abs {x:V}(r:RelV x u):absV u=some x:=by
 cases x with
 | non=>cases r;rfl
 | bl _=>cases r;rfl
 | int _=>obtain ⟨t,rfl⟩:=r;rfl
 | str _=>obtain ⟨t,rfl⟩:=r;rfl
 | byt _=>obtain ⟨t,rfl⟩:=r;rfl
 | flt _=>obtain ⟨t,rfl⟩:=r;rfl
 | ref _=>cases r;rfl
 | ty _=>cases r;rfl
theorem RelV.inj {x:V}(r:RelV x u)(q:RelV y u):x=y:=bC (r.abs.symm.trans q.abs)
theorem Vals.inj:∀ {xs ys:List V} {us:List aa},Vals xs us→Vals ys us→xs=ys
 | _,_,_,.nil,.nil=>rfl
 | _,_,_,.cons r t,.cons r' t'=>by rw [r.inj r',Vals.inj t t']
theorem SqL.of (h:H a=some (.lst xs)):SqL K H a xs:= .inl (.inl h)
theorem SqT.of (h:H a=some (.tup xs)):SqT K H a xs:= .inl (.inl h)
theorem Inv.list (I:Inv X aJ σ H s)(h:SqL X.K H a xs):∃ its:List aa,Vals xs its∧PlainL s.heap a its.toArray∧xs.length≤aR:=by
 rcases h with h | ⟨o,its,n,hk,hc,hd,hs,hz,r⟩
 ·obtain ⟨z,its,n,r,e⟩:=h.ok I.hok
  exact ⟨its,r,⟨_,n,e,rfl,rfl,rfl⟩,z⟩
 ·refine ⟨its.toList,r,⟨o,n,I.kIn a o hk,hc,hd,by simpa using hs⟩,?_⟩
  have e:=r.length;simp only [bW] at e;lia
theorem Inv.tuple (I:Inv X aJ σ H s)(h:SqT X.K H a xs):∃ its:List aa,Vals xs its∧IsTup s.heap a its.toArray∧xs.length≤aR:=by
 rcases h with h | ⟨o,its,n,hk,hc,hs,hz,r⟩
 ·obtain ⟨z,its,r,p⟩:=h.ok I.hok
  exact ⟨its,r,p.tup,z⟩
 ·refine ⟨its.toList,r,⟨o,I.kIn a o hk,hc,n,by simpa using hs⟩,?_⟩
  have e:=r.length;simp only [bW] at e;lia
theorem Inv.list_inj (I:Inv X aJ σ H s)(h:SqL X.K H a xs)(h':SqL X.K H a ys):xs=ys:=by
 obtain ⟨its,r,⟨o,n,e,_,_,d⟩,_⟩:=I.list h;obtain ⟨its',r',⟨o',n',e',_,_,d'⟩,_⟩:=I.list h';rw [e] at e';cases e';rw [d] at d';injection d' with d1 _
 have:its=its':=by simpa using pT Array.toList d1
 subst this;exact r.inj r'
theorem Inv.tuple_inj (I:Inv X aJ σ H s)(h:SqT X.K H a xs)(h':SqT X.K H a ys):xs=ys:=by
 obtain ⟨its,r,⟨o,e,_,n,d⟩,_⟩:=I.tuple h;obtain ⟨its',r',⟨o',e',_,n',d'⟩,_⟩:=I.tuple h';rw [e] at e';cases e';rw [d] at d';injection d' with d1 _
 have:its=its':=by simpa using pT Array.toList d1
 subst this;exact r.inj r'
abbrev Cx.wish (X:Cx)(E:aa→ao→Prop):Cx:={ X with xe:=E }
abbrev Cx.nox (X:Cx):Cx:=X.wish fun _ _=>False
theorem Cx.Ok.wish (ok:X.Ok)(E:aa→ao→Prop):(X.wish E).Ok :=
 ⟨ok.mod,ok.kind,ok.glob,ok.blt,ok.above,ok.inj,ok.has,ok.cab,ok.hd,ok.frames,ok.stk,ok.exf,ok.bs,ok.bsz,ok.noex,ok.exfs,ok.funs,ok.frf⟩
theorem Cx.Ok.unwish (ok:(X.wish E).Ok):X.Ok :=
 ⟨ok.mod,ok.kind,ok.glob,ok.blt,ok.above,ok.inj,ok.has,ok.cab,ok.hd,ok.frames,ok.stk,ok.exf,ok.bs,ok.bsz,ok.noex,ok.exfs,ok.funs,ok.frf⟩
theorem Inv.wish (I:Inv X aJ σ H s)(E:aa→ao→Prop):Inv (X.wish E) aJ σ H s:=⟨I.ok.wish E,I.os,I.bare,I.base,I.loc,I.cell,I.free,I.freeC,I.pin,I.hok,I.len⟩
theorem Inv.unwish (I:Inv (X.wish E) aJ σ H s):Inv X aJ σ H s:=⟨I.ok.unwish,I.os,I.bare,I.base,I.loc,I.cell,I.free,I.freeC,I.pin,I.hok,I.len⟩
theorem SP.unwish {D:j8}{f:Flow}(h:SP (X.wish E) aJ D f s'):SP X aJ D f s':=by
 cases f with
 | next=>obtain ⟨σ',H',I,q⟩:=h;exact ⟨σ',H',I.unwish,q⟩
 | brk=>obtain ⟨σ',H',I,q⟩:=h;exact ⟨σ',H',I.unwish,q⟩
 | cont=>obtain ⟨σ',H',I,q⟩:=h;exact ⟨σ',H',I.unwish,q⟩
 | ret u=>obtain ⟨v,σ',H',I,r,q⟩:=h;exact ⟨v,σ',H',I.unwish,r,q⟩
theorem PSs.nox {st:List cG}{t:TS}(h:PSs X.nox st t):PSs X st t:=fun aJ s σ H D I hw =>
 bH (h aJ s σ H D (I.wish _) hw) (fun _ _ q=>q.unwish) fun _ _ z=>cI z
section
variable {rest:List cG}{t u:TS}
def tNext:TS:=fun D σ H=>D.nx σ H
def tSeq (t u:TS):TS:=fun D σ H=>t { D with nx:=u D } σ H
theorem fF:PSs X [] tNext:=fun _ _ σ H _ I h=>wpAny_execs_nil ⟨σ,H,I,h⟩
theorem nN (h1:PS X st t)(h2:PSs X rest u):PSs X (st::rest) (tSeq t u):=by
 intro aJ s σ H D I h;refine wpAny_execs_cons (thn (h1 aJ s σ H { D with nx:=u D } I h) fun f s1 q=>?_);cases f with
 | next =>
  obtain ⟨σ',H',I',q⟩:=q;exact h2 aJ s1 σ' H' D I' q
 | ret v=>exact q
 | brk=>exact q
 | cont=>exact q
theorem dA (h1:PS X st t):PSs X [st] t:=by
 intro aJ s σ H D I h;refine wpAny_execs_cons (thn (h1 aJ s σ H D I h) fun f s1 q=>?_);cases f with
 | next=>exact wpAny_execs_nil q
 | ret v=>exact q
 | brk=>exact q
 | cont=>exact q
theorem Inv.quiet (I:Inv X aJ σ H s):interactive X.env=false:=by simp [interactive,I.ok.kind]
def tDrop (te:TE):TS:=fun D σ H=>te σ H fun _ H1=>D.nx σ H1
theorem jS (he:PE X e te)(hs:j4 e none pos.line X.env=eQ false:=by rfl):PS X (.Expr e pos) (tDrop te):=by
 intro aJ s σ H D I h;exact wpAny_Expr_any (thn (he aJ s σ H _ I h) fun v s1 ⟨x,H1,I1,r1,q1⟩=>⟨σ,H1,I1,q1⟩) I.quiet hs
def tRet (te:TE):TS:=fun D σ H=>te σ H D.rt
theorem cM (he:PE X e te):PS X (.Return (some e) pos) (tRet te):=by
 intro aJ s σ H D I h;exact wpAny_Return_some (thn (he aJ s σ H _ I h) fun v s1 ⟨x,H1,I1,r1,q1⟩=>⟨x,σ,H1,I1,r1,q1⟩)
def tIfS (c:TT)(t u:TS):TS:=fun D σ H=>c σ H fun b H1=>if b=true then t D σ H1 else u D σ H1
theorem jB {c:Expr}{a b:List cG}{tc:TT}(hc:PT X c tc)(ha:PSs X a t)(hb:PSs X b u):PS X (.If c a b pos) (tIfS tc t u):=by
 intro aJ s σ H D I h;refine wpAny_If (thn (hc aJ s σ H _ I h) fun d s1 ⟨H1,I1,q1⟩=>?_);cases d with
 | true=>exact ha aJ s1 σ H1 D I1 q1
 | false=>exact hb aJ s1 σ H1 D I1 q1
end
abbrev TG:=V→St→Hp→(St→Hp→Prop)→Prop
abbrev TGs:=List V→St→Hp→(St→Hp→Prop)→Prop
def PG (X:Cx)(target:Expr)(t:TG):Prop :=
 ∀ (aJ:List (ai×Obj)) (s:ao) (σ:St) (H:Hp) (v:V) (u:aa) (Q:St→Hp→Prop),Inv X aJ σ H s→RelV v u→t v σ H Q →
  aH (aU X.prog X.w) X.A (assign target X.env u) (fun _ s'=>∃ σ' H',Inv X aJ σ' H' s'∧Q σ' H') X.xe s
def PGs (X:Cx)(ts:List Expr)(t:TGs):Prop :=
 ∀ (aJ:List (ai×Obj)) (s:ao) (σ:St) (H:Hp) (vs:List V) (us:List aa) (Q:St→Hp→Prop),Inv X aJ σ H s→Vals vs us→t vs σ H Q →
  aH (aU X.prog X.w) X.A (assignInOrder ((assignEach ts X.env).map (·.2)) us) (fun _ s'=>∃ σ' H',Inv X aJ σ' H' s'∧Q σ' H') X.xe s
abbrev TSet:=V→V→V→Hp→(Hp→Prop)→Prop
def PSet (X:Cx)(t:TSet):Prop :=
 ∀ (aJ:List (ai×Obj)) (s:ao) (σ:St) (H:Hp) (o i v:V) (ov iv u:aa) (Q:Hp→Prop),Inv X aJ σ H s→RelV o ov→RelV i iv→RelV v u→t o i v H Q →
  aH (aU X.prog X.w) X.A (setItem ov iv u) (fun _ s'=>∃ H',Inv X aJ σ H' s'∧Q H') X.xe s
abbrev TIp:=V→V→Hp→VK→Prop
def PIp (X:Cx)(op:Operator)(t:TIp):Prop :=
 ∀ (aJ:List (ai×Obj)) (s:ao) (σ:St) (H:Hp) (x y:V) (v u:aa) (Q:VK),Inv X aJ σ H s→RelV x v→RelV y u→t x y H Q →
  aH (aU X.prog X.w) X.A (inplaceOp op v u) (EP X aJ σ Q) X.xe s
def nj (i:Nat):TG:=fun v σ H Q=>Q (σ.set i (some v)) H
theorem nc (hN:X.N.Nodup)(hi:X.N[i]? =some x)(hx:Loc X.env.scope x)(hf:X.fn x=true∨X.env.scope.names.lookup x=some .local:=by first | exact .inl rfl | exact .inr rfl | assumption):PG X (.Name x pos) (nj i):=by
 intro aJ s σ H v u Q I r h;exact wpAny_assign_Name (nI I hN hi hx r (fun s' I'=>⟨_,H,I',h⟩) hf)
def gNil:TGs:=fun vs σ H Q=>vs=[]∧Q σ H
def gCons (t:TG)(u:TGs):TGs:=fun vs σ H Q=>∃ v r,vs=v::r∧t v σ H fun σ' H'=>u r σ' H' Q
theorem pgs_nil:PGs X [] gNil:=by
 intro aJ s σ H vs us Q I r h;obtain ⟨e,h⟩:=h;subst e;cases r;exact assignInOrder_nil ⟨σ,H,I,h⟩
theorem lL {t:TG}{u:TGs}(h1:PG X e t)(h2:PGs X es u)
  (hs:(assignEach (e::es) X.env).map (·.2)=assign e X.env::(assignEach es X.env).map (·.2):=by rfl):PGs X (e::es) (gCons t u):=by
 intro aJ s σ H vs us Q I r h;obtain ⟨v,vr,e1,h⟩:=h;subst e1;cases r with
 | cons r rr =>
  rw [hs];refine assignInOrder_cons (thn (h1 aJ s σ H _ _ _ I r h) fun _ s1 ⟨σ1,H1,I1,q1⟩=>?_);exact h2 aJ s1 σ1 H1 _ _ Q I1 rr q1
def gTup (K:au)(n:Nat)(t:TGs):TG:=fun v σ H Q=>∃ a xs,v= .ref a∧SqT K H a xs∧xs.length=n∧t xs σ H Q
theorem pg_tup {k:Nat}{t:TGs}(hc:X.calm=true)(h:PGs X es t)
  (hn:(assignEach es X.env).length=n:=by rfl) (hst:(assignEach es X.env).findIdx? (·.1)=none:=by rfl):PG X (.Tuple es k pos) (gTup X.K n t):=by
 intro aJ s σ H v u Q I r hw;obtain ⟨a,xs,e1,hq,hl,hw⟩:=hw;subst e1;cases r;obtain ⟨its,rv,ht,hz⟩:=I.tuple hq;refine assign_Tuple_tuple (I.ok.hd hc) ht (by simp [hn,←hl,rv.length]) hst fun h' hx=>?_
 have I1:Inv X aJ σ H { s with heap:=h' }:=I.kept (t':=s.toks) fun b o e=>hx b o (bj (aC e)) e
 exact h aJ _ σ H xs _ Q I1 (by simpa using rv) hw
def gSub (to ti:TE)(t:TSet):TG:=fun v σ H Q=>to σ H fun o H1=>ti σ H1 fun i H2=>t o i v H2 fun H3=>Q σ H3
theorem pG {o i:Expr}{ti:TE}{t:TSet}(ho:PE X o to)(hi:PE X i ti)(hs:PSet X t)
  (ha:∀ v,assign (.Subscript o i pos) X.env v=(do
   let ov ← jD [v] (dg o X.env)
   let iv ← jD [v,ov] (dg i X.env)
   standAt pos
   jD [v,ov,iv] (setItem ov iv v)
   release [v,ov,iv] []):=by intro _;rfl):PG X (.Subscript o i pos) (gSub to ti t):=by
 intro aJ s σ H v u Q I r h;rw [ha];refine ae (cf (thn (ho aJ s σ H _ I h) fun ov s1 ⟨x,H1,I1,r1,q1⟩=>?_));refine ae (cf (thn (hi aJ s1 σ H1 _ I1 q1) fun iv s2 ⟨y,H2,I2,r2,q2⟩=>?_));refine ae (wpAny_standAt (ae (cf (thn (hs aJ s2 σ H2 x y v ov iv u _ I2 r1 r2 r q2) fun _ s3 ⟨H3,I3,q3⟩=>?_))));exact wpAny_release ⟨σ,H3,I3,q3⟩
def tAsg (te:TE)(g:TG):TS:=fun D σ H=>te σ H fun x H1=>g x σ H1 D.nx
theorem pB {g:TG}(he:PE X e te)(hg:PG X tg g)(hs:swapsWithSole [tg] e pos.line X.env=eQ false:=by rfl)(hw:swappedStores [tg] e X.env=eQ none:=by rfl)
  (h1:(assignEach [tg] X.env).map (·.2)=[assign tg X.env]:=by rfl):PS X (.Assign [tg] e pos) (tAsg te g):=by
 intro aJ s σ H D I h;refine wpAny_Assign_stores (thn (he aJ s σ H _ I h) fun v s1 ⟨x,H1,I1,r1,q1⟩=>?_) hs hw;rw [h1];exact thn (hg aJ s1 σ H1 x v _ I1 r1 q1) fun _ s2 q=>q
theorem ps_set (hN:X.N.Nodup)(hi:X.N[i]? =some x)(hx:Loc X.env.scope x)(he:PE X e te)(hs:j4 e (some (.Name x pos')) pos.line X.env=eQ false:=by rfl)(hf:X.fn x=true∨X.env.scope.names.lookup x=some .local:=by first | exact .inl rfl | exact .inr rfl | assumption) :
  PS X (.Assign [.Name x pos'] e pos) (tAsg te (nj i)):=by
 intro aJ s σ H D I h;refine wpAny_Assign_Name (thn (he aJ s σ H _ I h) fun v s1 ⟨y,H1,I1,r1,q1⟩=>?_) hs;exact nI I1 hN hi hx r1 (fun s2 I2=>⟨_,H1,I2,q1⟩) hf
def tAug (i:Nat)(te:TE)(ti:TIp):TS:=fun D σ H=>∃ x,σ[i]? =some (some x)∧te σ H fun y H1=>ti x y H1 fun z H2=>D.nx (σ.set i (some z)) H2
theorem ps_aug {op:Operator}{ti:TIp}(hN:X.N.Nodup)(hi:X.N[i]? =some x)(hx:Loc X.env.scope x)(he:PE X e te)(ho:PIp X op ti)(hf:X.fn x=true∨X.env.scope.names.lookup x=some .local:=by first | exact .inl rfl | exact .inr rfl | assumption) :
  PS X (.AugAssign (.Name x pos') op e pos) (tAug i te ti):=by
 intro aJ s σ H D I h;obtain ⟨v,e1,h⟩:=h;obtain ⟨m,hn,hl⟩:=I.loc;have vis:Vis X.env.scope x:=by rcases hx with k | k;exact .inl k;exact .inr (.inl k)
 obtain ⟨u,r,l⟩:=hl i x v hi e1 vis;refine wpAny_AugAssign_Name ?_;have go:aH (aU X.prog X.w) X.A (dg e X.env) (fun w s₂=>aH (aU X.prog X.w) X.A (inplaceOp op u w) (fun r s₃=>aH (aU X.prog X.w) X.A (storeName X.env x r) (fun _=>SP X aJ D .next) X.xe s₃) X.xe s₂) X.xe s:=by
  refine thn (he aJ s σ H _ I h) fun w s1 ⟨y,H1,I1,r1,q1⟩=>?_
  refine thn (ho aJ s1 σ H1 v y u w _ I1 r r1 q1) fun z s2 ⟨zv,H2,I2,r2,q2⟩=>?_
  exact nI I2 hN hi hx r2 (fun s3 I3=>⟨_,H2,I3,q2⟩) hf
 rcases l with ⟨hk,hm⟩ | ⟨hk,c,hc,iH⟩
 ·exact wpAny_loadName_local I.ok.kind hk hn hm go
 ·rcases hk with hk | hk
  ·exact wpAny_loadName_cell I.ok.kind hk hc iH go
  ·rcases hx with k | k
   ·have:X.env.scope.names.lookup x=some .free:=hk
    rw [k] at this;cases this
   ·have:X.env.scope.names.lookup x=some .free:=hk
    rw [k] at this;cases this
def ipI (f:Int→Int→Int):TIp:=fun x y H Q=>∃ i j,x= .int i∧y= .int j∧Q (.int (f i j)) H
theorem ip_add:PIp X .Add (ipI fun i j=>i+j):=by
 intro aJ s σ H x y v u Q I r1 r2 h;obtain ⟨i,j,e1,e2,q⟩:=h;subst e1;subst e2;obtain ⟨t,rfl⟩:=r1;obtain ⟨t',rfl⟩:=r2;exact iadd_int ⟨.int _,H,I.tok _,⟨_,rfl⟩,q⟩
theorem ip_sub:PIp X .Sub (ipI fun i j=>i - j):=by
 intro aJ s σ H x y v u Q I r1 r2 h;obtain ⟨i,j,e1,e2,q⟩:=h;subst e1;subst e2;obtain ⟨t,rfl⟩:=r1;obtain ⟨t',rfl⟩:=r2;exact isub_int ⟨.int _,H,I.tok _,⟨_,rfl⟩,q⟩
def tWhile (c:TT)(tb:TS):TS:=fun D σ H=>∃ W:Nat→St→Hp→Prop,(∃ m,W m σ H)∧∀ m σ H,W m σ H →
 c σ H fun b H1=>if b=true then ∃ N:St→Hp→Prop,(∀ σ' H',N σ' H'→∃ m',m'<m∧W m' σ' H')∧tb { D with nx:=N,ct:=N,bk:=D.nx } σ H1 else D.nx σ H1
theorem ps_while {c:Expr}{body:List cG}{tc:TT}{tb:TS}(hp:PassesOwn (aU X.prog X.w) X.A X.env X.xe)(hc:PT X c tc)(hb:PSs X body tb):PS X (.While c body [] pos) (tWhile tc tb):=by
 intro aJ s σ H D I h;obtain ⟨W,⟨m0,w0⟩,turn⟩:=h;refine wpAny_While (codeAny_whileLoop (fun n s'=>∃ σ' H',Inv X aJ σ' H' s'∧W n σ' H') ?_ m0 ⟨σ,H,I,w0⟩);rintro n s1 ⟨σ1,H1,I1,w1⟩;refine gQ hp (thn (hc aJ s1 σ1 H1 _ I1 (turn n σ1 H1 w1)) fun b s2 ⟨H2,I2,q2⟩=>?_);cases b with
 | true =>
  obtain ⟨N,hN,q2⟩:=q2;rw [pO rfl];refine gQ hp (thn (hb aJ s2 σ1 H2 _ I2 q2) fun f s3 q3=>?_);cases f with
  | next =>
   obtain ⟨σ3,H3,I3,n3⟩:=q3;obtain ⟨m',hm,w3⟩:=hN σ3 H3 n3;exact ⟨m',hm,σ3,H3,I3,w3⟩
  | cont =>
   obtain ⟨σ3,H3,I3,n3⟩:=q3;obtain ⟨m',hm,w3⟩:=hN σ3 H3 n3;exact ⟨m',hm,σ3,H3,I3,w3⟩
  | brk=>exact q3
  | ret v=>exact q3
 | false =>
  rw [pN aV];exact wpAny_execs_nil ⟨σ1,H2,I2,q2⟩
structure It where
 go:Nat→Hp→Prop
 yld:Nat→Hp→V→Hp→Prop
 stop:Nat→Hp→Prop
def FpOk (X:Cx)(aJ:List (ai×Obj))(H:Hp)(b:ai):Prop :=
 H b=none∧b≠X.env.locals∧b ∉ X.fs∧(b∈X.ex∨X.s₀.heap.objs.size≤b)∧(∀ x c,X.env.cells.lookup x=some c→c≠b)∧∀ p∈X.pn++aJ,p.1≠b
theorem Inv.fpOk {b:ai}(I:Inv X aJ σ H s)(hb:s.heap.objs.size≤b)(hn:H' b=none):FpOk X aJ H' b:=by
 refine ⟨hn,bZ (aL I.lt hb),I.nofs hb,.inr (aS I.sz hb),fun x c e z=>?_,fun p hp z=>?_⟩
 ·obtain ⟨v,q⟩:=I.cell x c e
  exact pP (aL q.lt (by rw [z];exact hb)) (e7 _)
 ·exact pP (aL (aC (I.pin p hp).1) (by rw [z];exact hb)) (e7 _)
structure Turn (P:aQ)(w:bq)(K:au)(tg:Expr)(J:It)(fp:List ai)(it:ai)(tn:Nat→bw→Prop):Prop where
 mem:it∈fp
 obj:∀ i h,tn i h→∀ b∈fp,∃ o,h.get? b=some o∧∀ v,o.data≠ .cell v
 keep:∀ i h h',tn i h→(∀ b∈fp,∀ o,h.get? b=some o→h'.get? b=some o)→tn i h'
 item:∀ (X:Cx),X.prog=P→X.w=w→X.K=K→X.calm=true→∀ (i:Nat) (aJ:List (ai×Obj)) (s:ao) (σ:St) (H:Hp) (E:aa→ao→Prop),Inv X aJ σ H s→(∀ b∈fp,FpOk X aJ H b)→tn i s.heap→J.go i H →
  aH (aU P w) X.A (iR (.ref it)) (fun r s1=>∃ u,r=some u ∧
   aH (aU P w) X.A (letOwnedTupleGo tg (.ref it) u) (fun _ s2=>∃ x H',Inv X aJ σ H' s2∧RelV x u∧J.yld i H x H'∧tn (i+1) s2.heap∧∀ b∈fp,H' b=none) E s1) E s
 done:∀ (X:Cx),X.prog=P→X.w=w→X.K=K→X.calm=true→∀ (i:Nat) (aJ:List (ai×Obj)) (s:ao) (σ:St) (H:Hp) (E:aa→ao→Prop),Inv X aJ σ H s→(∀ b∈fp,FpOk X aJ H b)→tn i s.heap→J.stop i H →
  aH (aU P w) X.A (iR (.ref it)) (fun r s1=>r=none∧Inv X aJ σ H s1) E s
 self:∀ (A:bG) (i:Nat) (s:ao) (Q:aa→ao→Prop) (E:aa→ao→Prop),tn i s.heap→Q (.ref it) s→aH (aU P w) A (pyIter (.ref it)) Q E s
abbrev TI:=St→Hp→(It→Hp→Prop)→Prop
def PIE (X:Cx)(aJ:List (ai×Obj))(σ:St)(tg:Expr)(R:It→Hp→Prop)(itv:aa)(s2:ao):Prop :=
 ∃ (it:ai) (fp:List ai) (tn:Nat→bw→Prop) (J:It) (H':Hp),itv= .ref it∧Inv X aJ σ H' s2∧Turn X.prog X.w X.K tg J fp it tn∧tn 0 s2.heap∧(∀ b∈fp,FpOk X aJ H' b)∧R J H'
def PI (X:Cx)(tg iter:Expr)(wi:TI):Prop :=
 ∀ (aJ:List (ai×Obj)) (s:ao) (σ:St) (H:Hp) (R:It→Hp→Prop),Inv X aJ σ H s→wi σ H R →
  aH (aU X.prog X.w) X.A (dg iter X.env) (fun v s1=>aH (aU X.prog X.w) X.A (pyIter v) (PIE X aJ σ tg R) X.xe s1) X.xe s
theorem go_of {it:ai}{o:Obj}{n:String}{vs:Array aa}{Q:Unit→ao→Prop}(ho:s.heap.get? it=some o)(hc:o.cls= .type n)(hd:o.data= .fields vs)
  (hn:["enumerate","zip","dict_itemiterator","dict_reverseitemiterator","odict_iterator","itertools.zip_longest","itertools.pairwise"].contains n=false) (hQ:Q () s):aH M A (letOwnedTupleGo tg (.ref it) u) Q E s:=by
 unfold letOwnedTupleGo;cases tg <;> first
  | exact aA hQ
  | (cases u <;> first
    | exact aA hQ
    | (refine ae (wpAny_load ho ?_)
       rw [hc,hd];show aH M A (if (["enumerate","zip","dict_itemiterator","dict_reverseitemiterator","odict_iterator","itertools.zip_longest","itertools.pairwise"].contains n && vs[0]? == some (fg _))=true then _ else _) Q E s;rw [pN (by intro h;rw [hn,Bool.false_and] at h;cases h)];exact aA hQ))
def Itl (K:au)(a:ai):It :=
 ⟨fun i H=>∃ xs x,SqL K H a xs∧xs[i]? =some x,fun i H x H'=>H'=H∧∀ xs,SqL K H a xs→xs[i]? =some x,fun i H=>∃ xs,SqL K H a xs∧xs.length≤i⟩
def Itt (K:au)(a:ai):It :=
 ⟨fun i H=>∃ xs x,SqT K H a xs∧xs[i]? =some x,fun i H x H'=>H'=H∧∀ xs,SqT K H a xs→xs[i]? =some x,fun i H=>∃ xs,SqT K H a xs∧xs.length≤i⟩
def Itr (lo:Int)(n:Nat):It:=⟨fun i _=>i<n,fun i H x H'=>H'=H∧x= .int (lo+i),fun i _=>n≤i⟩
theorem turn_list (a it:ai):Turn P w K tg (Itl K a) [it] it (fun i h=>h.IsListIter it a i) where
 mem:=by simp
 obj:=fun i h st b hb=>by
  have e:b=it:=by simpa using hb
  subst e;obtain ⟨o,e,c,d⟩:=st;exact ⟨o,e,fun v z=>by rw [d] at z;cases z⟩
 keep:=fun i h h' st k=>st.at fun o e=>k it (by simp) o e
 item:=by
  intro X hP hw hK hc i aJ s σ H E I hf st hg;subst hP hw hK;obtain ⟨xs,x,hq,hx⟩:=hg;obtain ⟨its,rv,p,hz⟩:=I.list hq;obtain ⟨u,hu,ru⟩:=rv.get hx;obtain ⟨f0,f1,f2,f3,f4,f5⟩:=hf it (by simp);refine wpAny_pyNext_list_item st p.isList (x:=u) (by simpa using hu) fun h' st' sb=>?_
  have I1:Inv X aJ σ H { s with heap:=h' }:=I.turned (t':=s.toks) (fun b o hb e=>(sb.2 b hb).trans e) f0 f1 f3 f4 f5;obtain ⟨o,e,c,d⟩:=id st';exact ⟨u,rfl,go_of (s:={ s with heap:=h' }) e c d (by decide) ⟨x,H,I1,ru,⟨rfl,fun ys hy=>by rw [I.list_inj hy hq];exact hx⟩,st',fun b hb=>(hf b hb).1⟩⟩
 done:=by
  intro X hP hw hK hc i aJ s σ H E I hf st hg;subst hP hw hK;obtain ⟨xs,hq,hx⟩:=hg;obtain ⟨its,rv,p,hz⟩:=I.list hq;obtain ⟨f0,f1,f2,f3,f4,f5⟩:=hf it (by simp);have hl:=rv.length;exact wpAny_pyNext_list_end (I.ok.hd hc) st p.isList (by simp;lia) fun h' eb=>⟨rfl,I.turned (t':=s.toks) (fun b o hb e=>eb b o hb e) f0 f1 f3 f4 f5⟩
 self:=fun _ _ _ _ _ st h=>wpAny_pyIter_listiter st h
theorem turn_tuple (a it:ai):Turn P w K tg (Itt K a) [it] it (fun i h=>h.IsTupleIter it a i) where
 mem:=by simp
 obj:=fun i h st b hb=>by
  have e:b=it:=by simpa using hb
  subst e;obtain ⟨o,e,c,d⟩:=st;exact ⟨o,e,fun v z=>by rw [d] at z;cases z⟩
 keep:=fun i h h' st k=>st.at fun o e=>k it (by simp) o e
 item:=by
  intro X hP hw hK hc i aJ s σ H E I hf st hg;subst hP hw hK;obtain ⟨xs,x,hq,hx⟩:=hg;obtain ⟨its,rv,p,hz⟩:=I.tuple hq;obtain ⟨u,hu,ru⟩:=rv.get hx;obtain ⟨f0,f1,f2,f3,f4,f5⟩:=hf it (by simp);refine wpAny_pyNext_tuple_item st (show s.heap.IsTuple a its.toArray from p) (x:=u) (by simpa using hu) fun h' st' sb=>?_
  have I1:Inv X aJ σ H { s with heap:=h' }:=I.turned (t':=s.toks) (fun b o hb e=>(sb.2 b hb).trans e) f0 f1 f3 f4 f5;obtain ⟨o,e,c,d⟩:=id st';exact ⟨u,rfl,go_of (s:={ s with heap:=h' }) e c d (by decide) ⟨x,H,I1,ru,⟨rfl,fun ys hy=>by rw [I.tuple_inj hy hq];exact hx⟩,st',fun b hb=>(hf b hb).1⟩⟩
 done:=by
  intro X hP hw hK hc i aJ s σ H E I hf st hg;subst hP hw hK;obtain ⟨xs,hq,hx⟩:=hg;obtain ⟨its,rv,p,hz⟩:=I.tuple hq;obtain ⟨f0,f1,f2,f3,f4,f5⟩:=hf it (by simp);have hl:=rv.length;exact wpAny_pyNext_tuple_end (I.ok.hd hc) st (show s.heap.IsTuple a its.toArray from p) (by simp;lia) fun h' eb=>⟨rfl,I.turned (t':=s.toks) (fun b o hb e=>eb b o hb e) f0 f1 f3 f4 f5⟩
 self:=fun _ _ _ _ _ st h=>wpAny_pyIter_tupleiter st h
theorem turn_range (it:ai)(lo:Int)(n:Nat):Turn P w K tg (Itr lo n) [it] it (fun i h=>IsRangeIter h it (lo+(i:Nat) * 1) ((n:Int) - (i:Nat)) 1) where
 mem:=by simp
 obj:=fun i h st b hb=>by
  have e:b=it:=by simpa using hb
  subst e;exact ⟨_,st,fun v z=>by
   have z':Data.fields _=Data.cell v:=z;cases z'⟩
 keep:=fun i h h' st k=>k it (by simp) _ st
 item:=by
  intro X hP hw hK hc i aJ s σ H E I hf st hg;subst hP hw hK;obtain ⟨f0,f1,f2,f3,f4,f5⟩:=hf it (by simp);have W:=Walks.range (prog:=X.prog) (w:=X.w) (I.ok.hd hc) it lo 1 n;refine W.item i s _ _ hg st fun v h' tk hv st' kk=>?_
  obtain ⟨t,rfl⟩:=hv;have I1:Inv X aJ σ H { s with heap:=h',toks:=tk }:=I.turned (fun b o hb e=>kk b o (by simpa using hb) e) f0 f1 f3 f4 f5;refine ⟨_,rfl,go_of (s:={ s with heap:=h',toks:=tk }) (n := "range_iterator") st' rfl rfl (by decide) ⟨.int (lo+i),H,I1,⟨t,?_⟩,⟨rfl,rfl⟩,st',fun b hb=>(hf b hb).1⟩⟩;rw [Int.mul_one]
 done:=by
  intro X hP hw hK hc i aJ s σ H E I hf st hg;subst hP hw hK;obtain ⟨f0,f1,f2,f3,f4,f5⟩:=hf it (by simp);exact wpAny_pyNext_range_end (I.ok.hd hc) st (by have:n≤i:=hg;lia) fun h' eb=>⟨rfl,I.turned (t':=s.toks) (fun b o hb e=>eb b o hb e) f0 f1 f3 f4 f5⟩
 self:=fun _ _ _ _ _ st h=>wpAny_pyIter_rangeiter st h
def iList (K:au)(tl:TE):TI:=fun σ H R=>tl σ H fun x H1=>∃ a,x= .ref a∧(∃ xs,SqL K H1 a xs)∧R (Itl K a) H1
def iTup (K:au)(tl:TE):TI:=fun σ H R=>tl σ H fun x H1=>∃ a,x= .ref a∧(∃ xs,SqT K H1 a xs)∧R (Itt K a) H1
theorem fU {l:Expr}(hl:PE X l tl):PI X tg l (iList X.K tl):=by
 intro aJ s σ H R I h;refine thn (hl aJ s σ H _ I h) fun v s1 ⟨x,H1,I1,r1,q1⟩=>?_
 obtain ⟨a,e,⟨xs,hq⟩,q⟩:=q1;subst e;cases r1;obtain ⟨its,rv,p,hz⟩:=I1.list hq;refine eS p.isList ?_;refine ⟨s1.heap.objs.size,[s1.heap.objs.size],_,_,H1,rfl,I1.kept (t':=s1.toks) fun b o e=>ak _ e,turn_list a _,⟨_,aN _ rfl,rfl,rfl⟩,fun b hb=>?_,q⟩;have e:b=s1.heap.objs.size:=by simpa using hb
 subst e;exact I1.fpOk (az _) (I1.hok.fresh (az _))
theorem oE {l:Expr}(hl:PE X l tl):PI X tg l (iTup X.K tl):=by
 intro aJ s σ H R I h;refine thn (hl aJ s σ H _ I h) fun v s1 ⟨x,H1,I1,r1,q1⟩=>?_
 obtain ⟨a,e,⟨xs,hq⟩,q⟩:=q1;subst e;cases r1;obtain ⟨its,rv,p,hz⟩:=I1.tuple hq;refine wpAny_pyIter_tuple (show s1.heap.IsTuple a its.toArray from p) ?_;refine ⟨s1.heap.objs.size,[s1.heap.objs.size],_,_,H1,rfl,I1.kept (t':=s1.toks) fun b o e=>ak _ e,turn_tuple a _,⟨_,aN _ rfl,rfl,rfl⟩,fun b hb=>?_,q⟩;have e:b=s1.heap.objs.size:=by simpa using hb
 subst e;exact I1.fpOk (az _) (I1.hok.fresh (az _))
theorem range_it {R:It→Hp→Prop}{hi:Int}{t u v:Tok}{tk:Nat}(I:Inv X aJ σ H s)(h1: -(2 ^ 62)≤lo)(h2:lo<2 ^ 62)(h3: -(2 ^ 62)≤hi)(h4:hi<2 ^ 62)
  (q:R (Itr lo (hi - lo).toNat) H):aH (aU X.prog X.w) X.A (pyIter (.ref s.heap.objs.size)) (PIE X aJ σ tg R) E { s with heap:=s.heap.push { cls:= .type "range",data:= .fields #[.int lo t,.int hi u,.int 1 v] },toks:=tk }:=by
 refine wpAny_pyIter_range (IsRange.new ..) (small_one h1 h2 h3 h4) ?_;have I1:Inv X aJ σ H { s with heap:=s.heap.push { cls:= .type "range",data:= .fields #[.int lo t,.int hi u,.int 1 v] },toks:=tk }:=I.kept fun b o e=>ak _ e
 refine ⟨(s.heap.push { cls:= .type "range",data:= .fields #[.int lo t,.int hi u,.int 1 v] }).objs.size,[(s.heap.push { cls:= .type "range",data:= .fields #[.int lo t,.int hi u,.int 1 v] }).objs.size],_,_,H,rfl,
  I1.kept (t':=tk) fun b o e=>ak _ e,turn_range _ lo (hi - lo).toNat,?_,fun b hb=>?_,q⟩
 ·have e1:lo+((0:Nat):Int) * 1=lo:=by simp
  have e2:(((hi - lo).toNat:Nat):Int) - ((0:Nat):Int)=dB lo hi 1:=by rw [rangeSize_one];split <;> lia
  show IsRangeIter _ _ (lo+((0:Nat):Int) * 1) ((((hi - lo).toNat:Nat):Int) - ((0:Nat):Int)) 1;rw [e1,e2];exact aN _ rfl
 ·have e:b=(s.heap.push { cls:= .type "range",data:= .fields #[.int lo t,.int hi u,.int 1 v] }).objs.size:=by simpa using hb
  subst e;exact I1.fpOk (az _) (I1.hok.fresh (az _))
def iRng1 (ta:TA):TI:=fun σ H R=>ta σ H fun vs H1=>∃ j:Int,vs=[.int j]∧ -(2 ^ 62)≤j∧j<2 ^ 62∧R (Itr 0 j.toNat) H1
theorem gW {a:Expr}{ta:TA}{p:Pos}(hg:Gl X "range")(hm:X.mg "range" =none)(ha:PA X [a] ta)(hs:bb [a] X.env=[(false,dg a X.env)]:=by rfl):PI X tg (.Call (.Name "range" p) [a] [] pos) (iRng1 ta):=by
 intro aJ s σ H R I h;refine Call_ (lV I hg hm boot_range (fZ (thn (ha pos aJ s σ H _ I h) fun us s1 ⟨vs,H1,I1,r1,q1⟩=>?_) hs rfl));obtain ⟨j,e,q1,q2,q⟩:=q1;subst e;cases r1 with
 | cons r rr =>
  cases rr;obtain ⟨t,rfl⟩:=r;exact call_range_1 (range_it I1 (by lia) (by lia) q1 q2 (by simpa using q))
def tFor (wi:TI)(g:TG)(tb:TS):TS:=fun D σ H=>wi σ H fun J H1=>∃ W:Nat→Nat→St→Hp→Prop,(∃ m,W 0 m σ H1)∧∀ i m σ H,W i m σ H →
 (J.stop i H∧D.nx σ H)∨(J.go i H∧∃ N:St→Hp→Prop,(∀ σ' H',N σ' H'→∃ m',m'<m∧W (i+1) m' σ' H')∧∀ x H',J.yld i H x H'→g x σ H' fun σ2 H2=>tb { D with nx:=N,ct:=N,bk:=D.nx } σ2 H2)
def pinsAt (fp:List ai)(h:bw):List (ai×Obj):=fp.filterMap fun b=>(h.get? b).map fun o=>(b,o)
theorem lN {b:ai}{o:Obj}(hb:b∈fp)(e:h.get? b=some o):(b,o)∈pinsAt fp h:=List.mem_filterMap.mpr ⟨b,hb,by rw [e];rfl⟩
theorem of_pinsAt {p:ai×Obj}(hp:p∈pinsAt fp h):p.1∈fp∧h.get? p.1=some p.2:=by
 obtain ⟨b,hb,e⟩:=List.mem_filterMap.mp hp;cases q:h.get? b with
 | none=>rw [q] at e;cases e
 | some o =>
  rw [q] at e;have e':(b,o)=p:=bC e;subst e';exact ⟨hb,q⟩
theorem Inv.pinned (I:Inv X aJ σ H s)(hf:∀ b∈fp,FpOk X aJ H b)(ho:∀ b∈fp,∃ o,s.heap.get? b=some o∧∀ v,o.data≠ .cell v):Inv X (aJ++pinsAt fp s.heap) σ H s :=
 I.pins_of fun p hp=>(aG.mp hp).elim (fun z=>I.pin p (ay _ z)) fun z=>by
  obtain ⟨hb,e⟩:=of_pinsAt z;obtain ⟨f0,f1,f2,_⟩:=hf p.1 hb;obtain ⟨o,e',d⟩:=ho p.1 hb;rw [e] at e';cases e';exact ⟨e,f0,f1,f2,d⟩
theorem Inv.unpinned {pl:List (ai×Obj)}(I:Inv X (aJ++pl) σ H s):Inv X aJ σ H s:=I.pins_of fun p hp=>I.pin p (ay _ (aE _ hp))
theorem iW {body:List cG}{wi:TI}{g:TG}{tb:TS}(hp:PassesOwn (aU X.prog X.w) X.A X.env X.xe)(hc:X.calm=true)(hi:PI X tg iter wi)(hg:PG X tg g)(hb:PSs X body tb)
  (hs:∀ x,fW iter X.env x=eQ x:=by intro _;rfl):PS X (.For tg iter body [] pos) (tFor wi g tb):=by
 intro aJ s σ H D I h;refine wpAny_For (thn (hi aJ s σ H _ I h) fun v s1 h1=>thn h1 fun itv s2 h2=>?_) hs;obtain ⟨it,fp,tn,J,H2,e,I2,T,st2,f2,W,⟨m0,w0⟩,turn⟩:=h2;subst e;have stat:∀ {H':Hp},(∀ b∈fp,H' b=none)→∀ b∈fp,FpOk X aJ H' b:=fun hn b hb=>⟨hn b hb,(f2 b hb).2⟩
 refine codeAny_forLoop_any (fun n s'=>∃ i σ' H',Inv X aJ σ' H' s'∧tn i s'.heap∧(∀ b∈fp,H' b=none)∧W i n σ' H') ?_ m0 ⟨0,σ,H2,I2,st2,fun b hb=>(f2 b hb).1,w0⟩;rintro n s3 ⟨i,σ3,H3,I3,st3,fr3,w3⟩
 rcases turn i n σ3 H3 w3 with ⟨stop,qn⟩ | ⟨go,N,hN,step⟩
 ·refine gQ hp (thn (T.done X rfl rfl rfl hc i aJ s3 σ3 H3 X.xe I3 (stat fr3) st3 stop) fun r s4 ⟨hr,I4⟩=>?_)
  subst hr;exact wpAny_execs_nil ⟨σ3,H3,I4,qn⟩
 ·refine gQ hp (thn (T.item X rfl rfl rfl hc i aJ s3 σ3 H3 X.xe I3 (stat fr3) st3 go) fun r s4 ⟨u,hr,h4⟩=>?_)
  subst hr;refine gQ hp (thn h4 fun _ s5 ⟨x,H5,I5,r5,y5,st5,fr5⟩=>?_);have I5':=I5.pinned (stat fr5) (T.obj _ _ st5);refine gQ hp (thn (hg _ s5 σ3 H5 x u _ I5' r5 (step x H5 y5)) fun _ s6 ⟨σ6,H6,I6,q6⟩=>?_);refine gQ hp (thn (hb _ s6 σ6 H6 _ I6 q6) fun f s7 q7=>?_);have again:∀ {σ7:St} {H7:Hp},Inv X (aJ++pinsAt fp s5.heap) σ7 H7 s7→N σ7 H7→∃ m,m<n∧∃ i σ' H',Inv X aJ σ' H' s7∧tn i s7.heap∧(∀ b∈fp,H' b=none)∧W i m σ' H':=fun {σ7 H7} I7 n7=>by
   obtain ⟨m',hm,w7⟩:=hN σ7 H7 n7;refine ⟨m',hm,i+1,σ7,H7,I7.unpinned,T.keep _ _ _ st5 fun b hb o e=>(I7.pin (b,o) (ay _ (ay _ (lN hb e)))).1,fun b hb=>?_,w7⟩;obtain ⟨o,e,d⟩:=T.obj _ _ st5 b hb;exact (I7.pin (b,o) (ay _ (ay _ (lN hb e)))).2.1
  cases f with
  | next=>obtain ⟨σ7,H7,I7,n7⟩:=q7;exact again I7 n7
  | cont=>obtain ⟨σ7,H7,I7,n7⟩:=q7;exact again I7 n7
  | brk=>obtain ⟨σ7,H7,I7,q7⟩:=q7;exact ⟨σ7,H7,I7.unpinned,q7⟩
  | ret v=>obtain ⟨x7,σ7,H7,I7,r7,q7⟩:=q7;exact ⟨x7,σ7,H7,I7.unpinned,r7,q7⟩
theorem jE {g:TG}{tb:TS}{D:j8}(Pv:Nat→St→Hp→Prop)(h0:Pv 0 σ H)(hl:∀ i σ H,i≤xs.length→Pv i σ H→SqL K H a xs)
  (hs:∀ i x σ H,xs[i]? =some x→Pv i σ H→g x σ H fun σ2 H2=>tb { D with nx:=Pv (i+1),ct:=Pv (i+1),bk:=D.nx } σ2 H2) (hd:∀ σ H,Pv xs.length σ H→D.nx σ H) :
  ∃ W:Nat→Nat→St→Hp→Prop,(∃ m,W 0 m σ H)∧∀ i m σ H,W i m σ H →
   ((Itl K a).stop i H∧D.nx σ H)∨((Itl K a).go i H∧∃ N:St→Hp→Prop,(∀ σ' H',N σ' H'→∃ m',m'<m∧W (i+1) m' σ' H')∧∀ x H',(Itl K a).yld i H x H'→g x σ H' fun σ2 H2=>tb { D with nx:=N,ct:=N,bk:=D.nx } σ2 H2):=by
 refine ⟨fun i m σ H=>m=xs.length - i∧i≤xs.length∧Pv i σ H,⟨xs.length,by simp,bE _,h0⟩,?_⟩;rintro i m σ H ⟨rfl,hi,p⟩;have q:=hl i σ H hi p
 by_cases hlt:i<xs.length
 ·refine .inr ⟨⟨xs,xs[i],q,by simp [hlt]⟩,Pv (i+1),fun σ' H' p'=>⟨xs.length - (i+1),by lia,rfl,hlt,p'⟩,fun x H' y=>?_⟩
  obtain ⟨e,y⟩:=y;subst e;exact hs i x σ _ (y xs q) p
 ·have e:i=xs.length:=by lia
  subst e;exact .inl ⟨⟨xs,q,az _⟩,hd σ H p⟩
theorem for_tup {g:TG}{tb:TS}{D:j8}(Pv:Nat→St→Hp→Prop)(h0:Pv 0 σ H)(hl:∀ i σ H,i≤xs.length→Pv i σ H→SqT K H a xs)
  (hs:∀ i x σ H,xs[i]? =some x→Pv i σ H→g x σ H fun σ2 H2=>tb { D with nx:=Pv (i+1),ct:=Pv (i+1),bk:=D.nx } σ2 H2) (hd:∀ σ H,Pv xs.length σ H→D.nx σ H) :
  ∃ W:Nat→Nat→St→Hp→Prop,(∃ m,W 0 m σ H)∧∀ i m σ H,W i m σ H →
   ((Itt K a).stop i H∧D.nx σ H)∨((Itt K a).go i H∧∃ N:St→Hp→Prop,(∀ σ' H',N σ' H'→∃ m',m'<m∧W (i+1) m' σ' H')∧∀ x H',(Itt K a).yld i H x H'→g x σ H' fun σ2 H2=>tb { D with nx:=N,ct:=N,bk:=D.nx } σ2 H2):=by
 refine ⟨fun i m σ H=>m=xs.length - i∧i≤xs.length∧Pv i σ H,⟨xs.length,by simp,bE _,h0⟩,?_⟩;rintro i m σ H ⟨rfl,hi,p⟩;have q:=hl i σ H hi p
 by_cases hlt:i<xs.length
 ·refine .inr ⟨⟨xs,xs[i],q,by simp [hlt]⟩,Pv (i+1),fun σ' H' p'=>⟨xs.length - (i+1),by lia,rfl,hlt,p'⟩,fun x H' y=>?_⟩
  obtain ⟨e,y⟩:=y;subst e;exact hs i x σ _ (y xs q) p
 ·have e:i=xs.length:=by lia
  subst e;exact .inl ⟨⟨xs,q,az _⟩,hd σ H p⟩
theorem lG {g:TG}{tb:TS}{D:j8}(Pv:Nat→St→Hp→Prop)(h0:Pv 0 σ H)
  (hs:∀ i σ H,i<n→Pv i σ H→g (.int (lo+i)) σ H fun σ2 H2=>tb { D with nx:=Pv (i+1),ct:=Pv (i+1),bk:=D.nx } σ2 H2) (hd:∀ σ H,Pv n σ H→D.nx σ H) :
  ∃ W:Nat→Nat→St→Hp→Prop,(∃ m,W 0 m σ H)∧∀ i m σ H,W i m σ H →
   ((Itr lo n).stop i H∧D.nx σ H)∨((Itr lo n).go i H∧∃ N:St→Hp→Prop,(∀ σ' H',N σ' H'→∃ m',m'<m∧W (i+1) m' σ' H')∧∀ x H',(Itr lo n).yld i H x H'→g x σ H' fun σ2 H2=>tb { D with nx:=N,ct:=N,bk:=D.nx } σ2 H2):=by
 refine ⟨fun i m σ H=>m=n - i∧i≤n∧Pv i σ H,⟨n,by simp,bE _,h0⟩,?_⟩;rintro i m σ H ⟨rfl,hi,p⟩
 by_cases hlt:i<n
 ·refine .inr ⟨hlt,Pv (i+1),fun σ' H' p'=>⟨n - (i+1),by lia,rfl,hlt,p'⟩,fun x H' y=>?_⟩
  obtain ⟨e,y⟩:=y;subst e y;exact hs i σ _ hlt p
 ·have e:i=n:=by lia
  subst e;exact .inl ⟨az _,hd σ H p⟩
abbrev R2:=V→V→Hp→VK→Prop
def OpR (X:Cx)(f:aa→aa→Sem aa)(r:R2):Prop :=
 ∀ (aJ:List (ai×Obj)) (s:ao) (σ:St) (H:Hp) (x y:V) (v u:aa) (Q:VK),Inv X aJ σ H s→RelV x v→RelV y u→r x y H Q →
  aH (aU X.prog X.w) X.A (f v u) (EP X aJ σ Q) X.xe s
def UnR (X:Cx)(f:aa→Sem aa)(r:V→Hp→VK→Prop):Prop :=
 ∀ (aJ:List (ai×Obj)) (s:ao) (σ:St) (H:Hp) (x:V) (v:aa) (Q:VK),Inv X aJ σ H s→RelV x v→r x H Q →
  aH (aU X.prog X.w) X.A (f v) (EP X aJ σ Q) X.xe s
def CallR (X:Cx)(f:aa)(r:List V→Hp→VK→Prop):Prop :=
 ∀ (aJ:List (ai×Obj)) (s:ao) (σ:St) (H:Hp) (xs:List V) (us:List aa) (Q:VK),Inv X aJ σ H s→Vals xs us→r xs H Q →
  aH (aU X.prog X.w) X.A (ir f us) (EP X aJ σ Q) X.xe s
def tOp (r:R2)(ta tb:TE):TE:=fun σ H Q=>ta σ H fun x H1=>tb σ H1 fun y H2=>r x y H2 Q
def tUn (r:V→Hp→VK→Prop)(ta:TE):TE:=fun σ H Q=>ta σ H fun x H1=>r x H1 Q
inductive rI (C:Int→Int→Prop)(g:Int→Int→V)(x:V)(y:V)(H:Hp)(Q:VK):Prop
 | mk (i j:_)(_:x= .int i)(_:y= .int j)(_:C i j)(_:Q (g i j) H)
inductive rI0 (g:Int→Int→V)(x:V)(y:V)(H:Hp)(Q:VK):Prop
 | mk (i j:_)(_:x= .int i)(_:y= .int j)(_:Q (g i j) H)
inductive rU (g:Int→V)(x:V)(H:Hp)(Q:VK):Prop
 | mk (i:_)(_:x= .int i)(_:Q (g i) H)
section
variable {a b c:Expr}{tb tc:TE}
theorem binT (ha:PE X a ta)(hb:PE X b tb){R:V→V→Hp→Prop}(I:Inv X aJ σ H s)
  (h:ta σ H fun x H1=>tb σ H1 fun y H2=>R x y H2) {f:aa→aa→Sem aa}
  (hf:∀ v u s2 x y H2,Inv X aJ σ H2 s2→RelV x v→RelV y u→R x y H2→aH (aU X.prog X.w) X.A (f v u) Q X.xe s2) :
  aH (aU X.prog X.w) X.A (dg a X.env) (fun v s₁=>aH (aU X.prog X.w) X.A (dg b X.env) (fun u s₂=>aH (aU X.prog X.w) X.A (f v u) Q X.xe s₂) X.xe s₁) X.xe s:=by
 refine thn (ha aJ s σ H _ I h) fun v s1 ⟨x,H1,I1,r1,q1⟩=>?_
 refine thn (hb aJ s1 σ H1 _ I1 q1) fun u s2 ⟨y,H2,I2,r2,q2⟩=>?_
 exact hf v u s2 x y H2 I2 r1 r2 q2
theorem dU {op:Operator}{r:R2}(ho:OpR X (fX op) r)(ha:PE X a ta)(hb:PE X b tb):PE X (.BinOp a op b pos) (tOp r ta tb):=by
 intro aJ s σ H Q I h;exact wpAny_BinOp (binT ha hb I h fun v u s2 x y H2 I2 rx ry q=>ho aJ s2 σ H2 x y v u Q I2 rx ry q)
theorem pe_un {op:UnaryOp}{r:V→Hp→VK→Prop}(ho:UnR X (unaryOp op) r)(ha:PE X a ta):PE X (.UnaryOp op a pos) (tUn r ta):=by
 intro aJ s σ H Q I h;exact UnaryOp_ (thn (ha aJ s σ H _ I h) fun v s1 ⟨x,H1,I1,r1,q1⟩=>ho aJ s1 σ H1 x v Q I1 r1 q1)
theorem opI {f:aa→aa→Sem aa}{C:Int→Int→Prop}{g:Int→Int→Int}
  (rule:∀ (i j:Int) (t u:Tok) (s:ao) (Q:aa→ao→Prop) (E:aa→ao→Prop),C i j→Q (.int (g i j) s.toks) { s with toks:=s.toks+1 }→aH (aU X.prog X.w) X.A (f (.int i t) (.int j u)) Q E s) :
  OpR X f (rI C fun i j=> .int (g i j)):=by
 intro aJ s σ H x y v u Q I rx ry h;obtain ⟨i,j,rfl,rfl,hc,q⟩:=h;obtain ⟨t,rfl⟩:=rx;obtain ⟨t',rfl⟩:=ry;exact rule i j t t' s _ _ hc ⟨.int (g i j),H,I.tok _,⟨_,rfl⟩,q⟩
theorem opI0 {f:aa→aa→Sem aa}{g:Int→Int→Int}
  (rule:∀ (i j:Int) (t u:Tok) (s:ao) (Q:aa→ao→Prop) (E:aa→ao→Prop),Q (.int (g i j) s.toks) { s with toks:=s.toks+1 }→aH (aU X.prog X.w) X.A (f (.int i t) (.int j u)) Q E s) :
  OpR X f (rI0 fun i j=> .int (g i j)):=by
 intro aJ s σ H x y v u Q I rx ry h;obtain ⟨i,j,rfl,rfl,q⟩:=h;obtain ⟨t,rfl⟩:=rx;obtain ⟨t',rfl⟩:=ry;exact rule i j t t' s _ _ ⟨.int (g i j),H,I.tok _,⟨_,rfl⟩,q⟩
theorem opB0 {f:aa→aa→Sem aa}{g:Int→Int→Bool}
  (rule:∀ (i j:Int) (t u:Tok) (s:ao) (Q:aa→ao→Prop) (E:aa→ao→Prop),Q (.bool (g i j)) s→aH (aU X.prog X.w) X.A (f (.int i t) (.int j u)) Q E s) :
  OpR X f (rI0 fun i j=> .bl (g i j)):=by
 intro aJ s σ H x y v u Q I rx ry h;obtain ⟨i,j,rfl,rfl,q⟩:=h;obtain ⟨t,rfl⟩:=rx;obtain ⟨t',rfl⟩:=ry;exact rule i j t t' s _ _ ⟨.bl (g i j),H,I,rfl,q⟩
def CDiv (i j:Int):Prop:=0<j∧j<1073741824
def CPow (i j:Int):Prop:=0≤j∧j≤1000000∧i.natAbs<2 ^ 64
def CMul (i j:Int):Prop:=(-(2 ^ 64)<i∧i<2 ^ 64)∨(-(2 ^ 64)<j∧j<2 ^ 64)
theorem CMul.ok {i j:Int}(h:CMul i j):IntMulOk i j:=by
 rcases h with ⟨h1,h2⟩ | ⟨h1,h2⟩
 ·exact .of_left (intBits_le_64 h1 h2)
 ·exact .of_right (intBits_le_64 h1 h2)
theorem iA:OpR X (fX .Add) (rI0 fun i j=> .int (i+j)):=opI0 fun _ _ _ _ _ _ _ q=>add_int q
theorem op_sub:OpR X (fX .Sub) (rI0 fun i j=> .int (i - j)):=opI0 fun _ _ _ _ _ _ _ q=>sub_int q
theorem nE:OpR X (fX .Mult) (rI CMul fun i j=> .int (i * j)):=opI fun _ _ _ _ _ _ _ hc q=>mul_int q hc.ok
theorem op_fdiv:OpR X (fX .FloorDiv) (rI CDiv fun i j=> .int (i / j)):=opI fun i j _ _ _ _ _ hc q=>by
 have h1:(0:Int)<j:=hc.1;have h2:j<1073741824:=hc.2;exact floordiv_int (by lia) (by rw [Int.fdiv_eq_ediv_of_nonneg i (by lia)];exact q) (.inl (PyProof.noPylong_small (by lia)))
theorem nF:OpR X (fX .Mod) (rI (fun _ j=>0<j) fun i j=> .int (i % j)):=opI fun i j _ _ _ _ _ hc q=>by
 have h1:(0:Int)<j:=hc;exact mod_int' (by lia) (by rw [Int.fmod_eq_emod_of_nonneg i (by lia)];exact q)
theorem op_pow:OpR X (fX .Pow) (rI CPow fun i j=> .int (i ^ j.toNat)):=opI fun _ _ _ _ _ _ _ hc q=>pow_int_small hc.1 hc.2.1 hc.2.2 q
theorem unI {f:aa→Sem aa}{g:Int→Int}
  (rule:∀ (i:Int) (t:Tok) (s:ao) (Q:aa→ao→Prop) (E:aa→ao→Prop),Q (.int (g i) s.toks) { s with toks:=s.toks+1 }→aH (aU X.prog X.w) X.A (f (.int i t)) Q E s) :
  UnR X f (rU fun i=> .int (g i)):=by
 intro aJ s σ H x v Q I rx h;obtain ⟨i,rfl,q⟩:=h;obtain ⟨t,rfl⟩:=rx;exact rule i t s _ _ ⟨.int (g i),H,I.tok _,⟨_,rfl⟩,q⟩
theorem un_neg:UnR X (unaryOp .USub) (rU fun i=> .int (-i)):=unI fun _ _ _ _ _ q=>neg_int q
end
def scal:V→V→Bool
 | .non,.non=>true | .non,.int _=>true | .int _,.non=>true | .non,.bl _=>true | .bl _,.non=>true | .non,.str _=>true | .str _,.non=>true
 | .int _,.int _=>true | .bl _,.bl _=>true | .str _,.str _=>true | .byt _,.byt _=>true
 | .int _,.str _=>true | .str _,.int _=>true | .bl _,.str _=>true | .str _,.bl _=>true
 | _,_=>false
def rEq:R2:=fun x y H Q=>scal x y=true∧Q (.bl (decide (x=y))) H
def rNe:R2:=fun x y H Q=>scal x y=true∧Q (.bl (!decide (x=y))) H
theorem dec_int {i j:Int}:decide (V.int i=V.int j)=(i == j):=by
 rw [jZ];simp
theorem dec_bl {i j:Bool}:decide (V.bl i=V.bl j)=(i == j):=by
 rw [jZ];simp
theorem dec_str {i j:Str}:decide (V.str i=V.str j)=(i == j):=by
 rw [jZ];simp
theorem dec_byt {i j:Array UInt8}:decide (V.byt i=V.byt j)=(i.toList == j.toList):=by
 rw [jZ];cases i;cases j;simp
section
variable {a b c:Expr}{tb tc:TE}
theorem eI {Q:VK}{k k':Bool}(I:Inv X aJ σ H s)(q:Q (.bl k) H)(e:k=k'):EP X aJ σ Q (.bool k') s:=by
 subst e;exact ⟨.bl k,H,I,rfl,q⟩
theorem ng:OpR X (fQ .Eq) rEq:=by
 intro aJ s σ H x y v u Q I rx ry h;obtain ⟨hs,q⟩:=h;cases x with
 | non =>
  cases rx;cases y with
  | non=>cases ry;exact PySem.EqNone.eq_none_none (eI I q (by simp))
  | bl j=>cases ry;exact PySem.EqNone.eq_none_bool (eI I q (by simp))
  | int j=>obtain ⟨t',rfl⟩:=ry;exact PySem.EqNone.eq_none_int (eI I q (by simp))
  | str j=>obtain ⟨t',rfl⟩:=ry;exact PySem.EqNone.eq_none_str (eI I q (by simp))
  | _=>exact pP (show false=true from hs) aV
 | bl i =>
  cases rx;cases y with
  | non=>cases ry;exact PySem.EqNone.eq_bool_none (eI I q (by simp))
  | bl j=>cases ry;exact eq_bool (eI I q dec_bl)
  | str j=>obtain ⟨t',rfl⟩:=ry;exact PySem.EqMixed.eq_bool_str (eI I q (by simp))
  | _=>exact pP (show false=true from hs) aV
 | int i =>
  obtain ⟨t,rfl⟩:=rx;cases y with
  | non=>cases ry;exact PySem.EqNone.eq_int_none (eI I q (by simp))
  | int j=>obtain ⟨t',rfl⟩:=ry;exact eq_int (eI I q dec_int)
  | str j=>obtain ⟨t',rfl⟩:=ry;exact PySem.EqMixed.eq_int_str (eI I q (by simp))
  | _=>exact pP (show false=true from hs) aV
 | str i =>
  obtain ⟨t,rfl⟩:=rx;cases y with
  | non=>cases ry;exact PySem.EqNone.eq_str_none (eI I q (by simp))
  | bl j=>cases ry;exact PySem.EqMixed.eq_str_bool (eI I q (by simp))
  | int j=>obtain ⟨t',rfl⟩:=ry;exact PySem.EqMixed.eq_str_int (eI I q (by simp))
  | str j=>obtain ⟨t',rfl⟩:=ry;exact eq_str (eI I q dec_str)
  | _=>exact pP (show false=true from hs) aV
 | byt i =>
  obtain ⟨t,rfl⟩:=rx;cases y with
  | byt j=>obtain ⟨t',rfl⟩:=ry;exact PySem.W.eq_bytes (eI I q dec_byt)
  | _=>exact pP (show false=true from hs) aV
 | _=>cases y <;> exact pP (show false=true from hs) aV
theorem op_ne:OpR X (fQ .NotEq) rNe:=by
 intro aJ s σ H x y v u Q I rx ry h;obtain ⟨hs,q⟩:=h;cases x with
 | non =>
  cases rx;cases y with
  | non=>cases ry;exact PySem.EqNone.ne_none_none (eI I q (by simp))
  | bl j=>cases ry;exact PySem.EqNone.ne_none_bool (eI I q (by simp))
  | int j=>obtain ⟨t',rfl⟩:=ry;exact PySem.EqNone.ne_none_int (eI I q (by simp))
  | str j=>obtain ⟨t',rfl⟩:=ry;exact PySem.EqNone.ne_none_str (eI I q (by simp))
  | _=>exact pP (show false=true from hs) aV
 | bl i =>
  cases rx;cases y with
  | non=>cases ry;exact PySem.EqNone.ne_bool_none (eI I q (by simp))
  | bl j=>cases ry;exact ne_bool (eI I q (pT not dec_bl))
  | str j=>obtain ⟨t',rfl⟩:=ry;exact PySem.EqMixed.ne_bool_str (eI I q (by simp))
  | _=>exact pP (show false=true from hs) aV
 | int i =>
  obtain ⟨t,rfl⟩:=rx;cases y with
  | non=>cases ry;exact PySem.EqNone.ne_int_none (eI I q (by simp))
  | int j=>obtain ⟨t',rfl⟩:=ry;exact ne_int (eI I q (pT not dec_int))
  | str j=>obtain ⟨t',rfl⟩:=ry;exact PySem.EqMixed.ne_int_str (eI I q (by simp))
  | _=>exact pP (show false=true from hs) aV
 | str i =>
  obtain ⟨t,rfl⟩:=rx;cases y with
  | non=>cases ry;exact PySem.EqNone.ne_str_none (eI I q (by simp))
  | bl j=>cases ry;exact PySem.EqMixed.ne_str_bool (eI I q (by simp))
  | int j=>obtain ⟨t',rfl⟩:=ry;exact PySem.EqMixed.ne_str_int (eI I q (by simp))
  | str j=>obtain ⟨t',rfl⟩:=ry;exact ne_str (eI I q (pT not dec_str))
  | _=>exact pP (show false=true from hs) aV
 | byt i =>
  obtain ⟨t,rfl⟩:=rx;cases y with
  | byt j=>obtain ⟨t',rfl⟩:=ry;exact PySem.W.ne_bytes (eI I q (pT not dec_byt))
  | _=>exact pP (show false=true from hs) aV
 | _=>cases y <;> exact pP (show false=true from hs) aV
theorem op_lt:OpR X (fQ .Lt) (rI0 fun i j=> .bl (decide (i<j))):=opB0 fun _ _ _ _ _ _ _ q=>lt_int q
theorem op_le:OpR X (fQ .LtE) (rI0 fun i j=> .bl (decide (i≤j))):=opB0 fun _ _ _ _ _ _ _ q=>le_int q
theorem op_gt:OpR X (fQ .Gt) (rI0 fun i j=> .bl (decide (j<i))):=opB0 fun _ _ _ _ _ _ _ q=>gt_int q
theorem op_isN:OpR X (fQ .Is) (fun x y H Q=>y= .non∧Q (.bl (decide (x= .non))) H):=by
 intro aJ s σ H x y v u Q I rx ry h;obtain ⟨rfl,q⟩:=h;cases ry;refine is_none_gen (eI I q ?_);cases x <;> first
  | (cases rx;rfl)
  | (obtain ⟨t,rfl⟩:=rx;rfl)
theorem eO (b:Expr)(h:op≠ .In:=by decide)(h2:op≠ .NotIn:=by decide):behindInMarks op b=false:=by
 have e1:(op == CmpOp.In)=false:=by cases op <;> first | rfl | exact pP rfl h
 have e2:(op == CmpOp.NotIn)=false:=by cases op <;> first | rfl | exact pP rfl h2
 cases b <;> simp [behindInMarks,e1,e2]
theorem pe_cmpR {r:R2}(ho:OpR X (fQ op) r)(ha:PE X a ta)(hb:PE X b tb)(hm:behindInMarks op b=false):PE X (.Compare a [op] [b] pos) (tOp r ta tb):=by
 intro aJ s σ H Q I h;exact wpAny_Compare1 (binT ha hb I h fun v u s2 x y H2 I2 rx ry q=>ho aJ s2 σ H2 x y v u Q I2 rx ry q) hm
def tTest (t:TE):TT:=fun σ H Q=>t σ H fun x H'=>IsBl x fun k=>Q k H'
theorem dE {r:R2}(ho:OpR X (fQ op) r)(ha:PE X a ta)(hb:PE X b tb)(hm:behindInMarks op b=false):PT X (.Compare a [op] [b] pos) (tTest (tOp r ta tb)):=by
 intro aJ s σ H Q I h;refine wpAny_isTrue_Compare1 (thn (ha aJ s σ H _ I h) fun v s1 ⟨x,H1,I1,r1,q1⟩=>thn (hb aJ s1 σ H1 _ I1 q1) fun u s2 ⟨y,H2,I2,r2,q2⟩ =>
  thn (ho aJ s2 σ H2 x y v u _ I2 r1 r2 q2) fun c s3 ⟨z,H3,I3,r3,k,e,q3⟩=>?_) hm
 subst e;cases r3;exact jy ⟨H3,I3,q3⟩
theorem line63:(aR:Nat)<2 ^ 63:=by rw [eG];decide
theorem vals1 {x:V}(r:Vals [x] us):∃ u,us=[u]∧RelV x u:=by
 cases r with
 | cons r1 r2=>cases r2;exact ⟨_,rfl,r1⟩
theorem vals2 {x:V}(r:Vals [x,y] us):∃ u w',us=[u,w']∧RelV x u∧RelV y w':=by
 cases r with
 | cons r1 r2 =>
  cases r2 with
  | cons r3 r4=>cases r4;exact ⟨_,_,rfl,r1,r3⟩
theorem call_max2 (hc:X.calm=true):CallR X (.builtin "max") (fun xs H Q=>∃ i j,xs=[.int i,.int j]∧Q (.int (if j > i then j else i)) H):=by
 intro aJ s σ H xs us Q I r h;obtain ⟨i,j,rfl,q⟩:=h;obtain ⟨u,w',rfl,⟨t,rfl⟩,⟨t',rfl⟩⟩:=vals2 r;refine max_two_ints (I.ok.hd hc) fun h' tk k=>⟨_,H,I.kept k,?_,q⟩
 by_cases hj:j > i
 ·rw [pO hj,pO hj];exact ⟨_,rfl⟩
 ·rw [pN hj,pN hj];exact ⟨_,rfl⟩
end
structure ObjM (h:bw)(x dx C:ai)(mA:Str→Option aa):Prop where
 obj:h.get? x=some (fo C dx)
 ns:h.Ns1 dx mA
 ne:dx≠x
theorem oK (n:h.Ns1 dx mA):∃ od,h.get? dx=some od∧∀ name,PySem.W.lookIn name od=some (mA name):=by
 obtain ⟨o,es,ep,ho,hd,hk,_,hm⟩:=n;refine ⟨o,ho,fun name=>?_⟩;have e:=hm name;unfold nsFind findBy at e;rw [←Array.find?_toList] at e;unfold PySem.W.lookIn;rw [hd]
 dsimp only
 split
 ·rename_i y q
  rw [q] at e;exact pT some e
 ·rename_i q
  rw [q] at e;have a:es.toList.any (·.refKey)=false:=by
   rw [gH];intro y hy;obtain ⟨z,t,hkey⟩:=hk y (Array.mem_toList_iff.mp hy);simp [DictEntry.refKey,hkey]
  have a':¬ es.toList.any (·.refKey)=true:=by rw [a];exact aV
  rw [pN a'];exact pT some e
theorem ObjM.look {x:ai}(I:ObjM h x dx C mA):∃ od,PySem.W.InstAt h x (fo C dx) C (some od)∧∀ name,PySem.W.lookIn name od=some (mA name) :=
 let ⟨od,ho,hl⟩:=oK I.ns
 ⟨od,⟨I.obj,rfl,rfl,ho⟩,hl⟩
section
variable {x:ai}{v:aa}
theorem get_map {expr:Bool}(X:K.In s.heap)(I:ObjM s.heap x dx C mA)(hg:jk K C name=true)(hh:iU K C=true)
  (ha:bJ K (.ref C) name=some none) (hv:mA name=some v) (hv':PySem.W.handedIn v=true) (h:Q v { s with toks:=s.toks+1 }) :
  aH (aU prog w) A (getAttr (.ref x) name expr) Q E s:=by
 obtain ⟨od,J,hl⟩:=I.look;exact PySem.W.get_value X J (PySem.W.plainGet_of hg).1 (PySem.W.findObj_own hh ha rfl (by rw [hl,hv])) hv' h
theorem get_meth {pl:Sem Bool}{Q:aa×List aa→ao→Prop}(X:K.In s.heap)(I:ObjM s.heap x dx C mA)(hg:jk K C name=true)
  (hf:bJ K (.ref C) name=some (some (.ref f))) (ht:iT K (.ref f)=true) (hv:mA name=none) (h:Q (.ref f,[.ref x]) s) :
  aH (aU prog w) A (getMethod (.ref x) name pl) Q E s:=by
 obtain ⟨od,J,hl⟩:=I.look;exact PySem.W.method_fn X J (PySem.W.plainGet_of hg).1 (PySem.W.plainGet_of hg).2 hf (beq_iff_eq.mp ht) (by show (PySem.W.lookIn name od).map (·.isSome)=some false;rw [hl,hv];rfl) h
theorem set_map {ns:List Str}{Q:Unit→ao→Prop}(X:K.In s.heap)(I:ObjM s.heap x dx C mA)
  (hs:bJ K (.ref C) "__setattr__" =some (some (.builtin "object.__setattr__"))) (hp:PySem.W.plainOver K C=true) (ht:PySem.W.takerIn K C name=some none) (hh:iU K C=true)
  (hw:PySem.Within mA ns) (hsz:ns.length≤aR)
  (h:∀ h',ObjM h' x dx C (fun y=>if y=name then some v else mA y)→cb dx s.heap h'→Q () { s with heap:=h',toks:=s.toks+2 }) :
  aH (aU prog w) A (setAttr (.ref x) name v) Q E s:=by
 obtain ⟨od,J,hl⟩:=I.look;refine PySem.W.set_plain X J hs (PySem.W.osa_open (s:={ s with toks:=s.toks+1 }) (r:=none) X J hp ht fun b=>?_);obtain ⟨cd,hc,hd'⟩:=PySem.W.any_some hh;have hx:s.heap.get? x=some ⟨.ref C,some dx,.plain,#[]⟩:=I.obj;refine ae (aA (ae (ae (wpAny_loadPart hx (ae (PySem.W.Looks.here (s:={ s with toks:=s.toks+1 }) (PySem.W.looks_clsIn X hc) ?_))))));rw [hd'];refine aA (a:=some dx) (ae (aA (ae ?_)));refine wpAny_nsSet1 (s:={ s with toks:=s.toks+1 }) I.ns fun h' hn2 hs2=>?_
 obtain ⟨oD,esD,epD,hoD,hdD,hcD⟩:=hn2.count (PySem.Within.cons name v hw);refine ae (wpAny_lookBehind hoD (by rw [hdD];exact pastItsLine_dict (aS hcD (by rw [aY];lia))) ?_);exact aA (h _ ⟨(hs2.2 _ (cn I.ne)).trans I.obj,hn2,I.ne⟩ hs2)
theorem make_map (X:K.In s.heap)(hm:PySem.W.makesIn K C=true)
  (hi:bJ K (.ref C) "__init__" =some (some (.ref f))) (hf:PySem.W.typeIn K (.ref f)=some (.type "function"))
  (h:hV (aU prog w) (A.under (.builtin "type.__call__" ⟨.ref C::vs,kw⟩)) (.call (.ref f) ⟨.ref (s.heap.objs.size+1)::vs,kw⟩) (PySem.W.InitBack (s.heap.objs.size+1) R)
   {s with heap:=(s.heap.push dR).push (fo C s.heap.objs.size) }) :
  hV (aU prog w) A (.call (.ref C) ⟨vs,kw⟩) R s:=by
 obtain ⟨hh,g,d,t,os⟩:=s;exact PySem.W.make_core (PySem.W.makes_of X hm) (PySem.W.looks_findIn X hi) (fun self=>PySem.W.bind_fn X self hf) (.inl rfl) h
end
def lQ (f:Str)(v:V):List (Str×V)→List (Str×V)
 | []=>[(f,v)]
 | (g,x)::r=>if g=f then (g,v)::r else (g,x)::lQ f v r
theorem jU (f g:Str)(v:V):∀ fs:List (Str×V),(lQ f v fs).lookup g=if g=f then some v else fs.lookup g
 | []=>by
  show cZ g [(f,v)]=_
  by_cases h:g=f
  ·have hb:(g == f)=true:=beq_iff_eq.mpr h
   simp only [cZ,hb,pO h]
  ·have hb:(g == f)=false:=beq_eq_false_iff_ne.mpr h
   simp only [cZ,hb,pN h]
 | (k,x)::r=>by
  have ih:=jU f g v r;rw [show lQ f v ((k,x)::r)=(if k=f then (k,v)::r else (k,x)::lQ f v r) from rfl]
  by_cases hk:k=f
  ·rw [pO hk]
   by_cases h:g=k
   ·have hb:(g == k)=true:=beq_iff_eq.mpr h
    simp only [cZ,hb,pO (h.trans hk)]
   ·have hb:(g == k)=false:=beq_eq_false_iff_ne.mpr h
    simp only [cZ,hb,pN (fun e:g=f=>h (e.trans hk.symm))]
  ·rw [pN hk]
   by_cases h:g=k
   ·have hb:(g == k)=true:=beq_iff_eq.mpr h
    simp only [cZ,hb,pN (fun e:g=f=>hk (h.symm.trans e))]
   ·have hb:(g == k)=false:=beq_eq_false_iff_ne.mpr h
    simp only [cZ,hb];exact ih
theorem kZ (f:Str)(v:V):∀ fs:List (Str×V),f∈(lQ f v fs).map (·.1)∧∀ g,g∈fs.map (·.1)→g∈(lQ f v fs).map (·.1)
 | []=>⟨by simp [lQ],fun g h=>by simp at h⟩
 | (k,x)::r=>by
  obtain ⟨i1,i2⟩:=kZ f v r;rw [show lQ f v ((k,x)::r)=(if k=f then (k,v)::r else (k,x)::lQ f v r) from rfl]
  by_cases hk:k=f
  ·rw [pO hk]
   subst hk;exact ⟨by simp,fun g h=>by simpa using h⟩
  ·rw [pN hk]
   refine ⟨?_,fun g h=>?_⟩
   ·rw [cg]
    exact aD _ i1
   ·rw [cg] at h ⊢
    rcases aF.mp h with e | e
    ·exact aF.mpr (.inl e)
    ·exact aD _ (i2 g e)
theorem oM (f:Str)(v:V):∀ fs:List (Str×V),(lQ f v fs).length≤fs.length+1
 | []=>by simp [lQ]
 | (k,x)::r=>by
  have ih:=oM f v r;rw [show lQ f v ((k,x)::r)=(if k=f then (k,v)::r else (k,x)::lQ f v r) from rfl]
  by_cases hk:k=f
  ·rw [pO hk,aY,aY];lia
  ·rw [pN hk,aY,aY];lia
theorem RelO.some_of {o:Option aa}(r:RelO (some v) o):∃ u,o=some u∧RelV v u:=by
 cases o with
 | none=>exact (show False from r).elim
 | some u=>exact ⟨u,rfl,r⟩
theorem RelO.none_of {o:Option aa}(r:RelO none o):o=none:=by
 cases o with
 | none=>rfl
 | some u=>exact (show False from r).elim
theorem handed_of (r:RelV v u):PySem.W.handedIn u=true:=by
 cases v with
 | non=>cases (show u=aa.none from r);rfl
 | bl b=>cases (show u=aa.bool b from r);rfl
 | int i=>obtain ⟨t,e⟩:=(show ∃ t,u=aa.int i t from r);cases e;rfl
 | str x=>obtain ⟨t,e⟩:=(show ∃ t,u=aa.str x t from r);cases e;rfl
 | byt b=>obtain ⟨t,e⟩:=(show ∃ t,u=aa.bytes b t from r);cases e;rfl
 | flt b=>obtain ⟨t,e⟩:=(show ∃ t,u=aa.float b t from r);cases e;rfl
 | ref a=>cases (show u=aa.ref a from r);rfl
 | ty n=>cases (show u=aa.type n from r);rfl
section
variable {fs fs':List (Str×V)}
theorem ins_get (hok:HOk P w H h)(e:H a=some (.ins C dx fs)):∃ mA,ObjM h a dx C mA∧(∀ f,RelO (fs.lookup f) (mA f))∧PySem.Within mA (fs.map (·.1))∧fs.length≤1000∧H dx=some (.own a):=by
 obtain ⟨d,z,ne,ob,mA,n,r,q⟩:=(show ObjOk P w H h a (.ins C dx fs) from hok a _ e);exact ⟨mA,⟨ob,n,ne⟩,r,q,z,d⟩
end
structure Cls (K:au)(C:ai):Prop where
 pg:jk K C Str.empty=true
 hd:iU K C=true
 po:PySem.W.plainOver K C=true
 sa:bJ K (.ref C) "__setattr__" =some (some (.builtin "object.__setattr__"))
theorem Cls.get (c:Cls K C)(f:Str):jk K C f=true:=c.pg
def NoAttr (K:au)(C:ai)(f:Str):Prop:=bJ K (.ref C) f=some none
theorem NoAttr.taker {f:Str}(n:NoAttr K C f):PySem.W.takerIn K C f=some none:=by
 unfold PySem.W.takerIn;rw [show bJ K (.ref C) f=some none from n];rfl
structure Meth (K:au)(C:ai)(m:Str)(f:ai):Prop where
 at_:bJ K (.ref C) m=some (some (.ref f))
 fn:iT K (.ref f)=true
 kp:cW K (.ref f)=true
section
variable {fs:List (Str×V)}{f:Str}
theorem getattr_ok {b:Bool}(I:Inv X aJ σ H s)(e:H a=some (.ins C dx fs))(c:Cls X.K C)(n:NoAttr X.K C f)(l:fs.lookup f=some v)
  (h:∀ u s',Inv X aJ σ H s'→RelV v u→Q u s'):aH (aU X.prog X.w) A (getAttr (.ref a) f b) Q E s:=by
 obtain ⟨mA,O,r,_,_,_⟩:=ins_get I.hok e;obtain ⟨u,hu,ru⟩:=RelO.some_of (v:=v) (o:=mA f) (by rw [←l];exact r f);exact get_map I.kIn O (c.get f) c.hd n hu (handed_of ru) (h u _ (I.tok _) ru)
theorem getmeth_ok {m:Str}{g:ai}{pl:Sem Bool}{Q:aa×List aa→ao→Prop}(I:Inv X aJ σ H s)(e:H a=some (.ins C dx fs))(c:Cls X.K C)(k:Meth X.K C m g)(l:fs.lookup m=none)
  (h:Q (.ref g,[.ref a]) s):aH (aU X.prog X.w) A (getMethod (.ref a) m pl) Q E s:=by
 obtain ⟨mA,O,r,_,_,_⟩:=ins_get I.hok e;have hn:mA m=none:=RelO.none_of (by rw [←l];exact r m);exact get_meth I.kIn O (c.get m) k.at_ k.fn hn h
theorem setattr_ok {Q:Unit→ao→Prop}(I:Inv X aJ σ H s)(e:H a=some (.ins C dx fs))(c:Cls X.K C)(n:NoAttr X.K C f)(hl:fs.length<1000)(ry:RelV y u)
  (h:∀ s',Inv X aJ σ (upd H a (.ins C dx (lQ f y fs))) s'→Q () s'):aH (aU X.prog X.w) A (setAttr (.ref a) f u) Q E s:=by
 obtain ⟨mA,O,r,wi,_,ho⟩:=ins_get I.hok e;have hz:(fs.map (·.1)).length≤aR:=by rw [af,eG];lia
 refine set_map I.kIn O c.sa c.po n.taker c.hd wi hz fun h' O' sb=>h _ ?_
 have hd:∃ o,h'.get? dx=some o:=let ⟨o,_,_,e',_⟩:=O'.ns;⟨o,e'⟩;refine I.write (x:=a) (e:=dx) (by rw [e];exact True.intro) (.inr ho) (fun b q hb z=>(sb.2 b hb).trans z) hd ?_;refine ⟨by rw [aZ O.ne];exact ho,?_,O.ne,O'.obj,_,O'.ns,fun g=>?_,fun g hg=>?_⟩
 ·have:=oM f y fs;lia
 ·show RelO ((lQ f y fs).lookup g) (if g=f then some u else mA g)
  rw [jU]
  by_cases q:g=f
  ·rw [pO q,pO q];exact ry
  ·rw [pN q,pN q];exact r g
 ·by_cases q:g=f
  ·rw [q];exact (kZ f y fs).1
  ·refine (kZ f y fs).2 g (wi g fun z=>hg ?_)
   show (if g=f then some u else mA g)=none;rw [pN q];exact z
theorem Inv.made (I:Inv X aJ σ H s):Inv X aJ σ (upd (upd H s.heap.objs.size (.own (s.heap.objs.size+1))) (s.heap.objs.size+1) (.ins C s.heap.objs.size []))
  {s with heap:=(s.heap.push dR).push (fo C s.heap.objs.size) }:=by
 have e1:(s.heap.push dR).get? s.heap.objs.size=some dR:=aN s.heap rfl;have e2:((s.heap.push dR).push (fo C s.heap.objs.size)).get? (s.heap.objs.size+1)=some (fo C s.heap.objs.size):=by
  have:=aN (s.heap.push dR) (o:=fo C s.heap.objs.size) rfl
  rwa [cQ] at this
 have e3:(s.heap.push dR).Ns s.heap.objs.size (fun _=>none):=⟨dR,#[],_,e1,rfl,(fun e he=>pP he (by simp)),fun _=>rfl⟩;have I1:=I.laid (a:=s.heap.objs.size) (o:= .own (s.heap.objs.size+1)) (h':=s.heap.push dR) (t':=s.toks) (fun b u q=>ak _ q) (az _) ⟨_,e1⟩;refine I1.laid (a:=s.heap.objs.size+1) (o:= .ins C s.heap.objs.size []) (t':=s.toks) (fun b u q=>ak _ q) (Nat.le_of_eq (cQ _ _)) ?_;have ne:s.heap.objs.size≠s.heap.objs.size+1:=bj (jI _);refine ⟨by rw [aZ ne,aW],bE _,ne,e2,fun _=>none,(bw.Ns1.of_empty e3).at fun o q=>ak _ q,fun _=>True.intro,fun y hy=>pP rfl hy⟩
theorem attr_of {f:Str}(hb:gT e f env (dg e env)=dg e env)
  (h:aH (aU prog w) A (dg e env) (fun o s₁=>aH (aU prog w) A (getAttr o f true) Q E s₁) E s):aH (aU prog w) A (dg (.Attribute e f pos) env) Q E s :=
 Attribute_any_ h (by rw [arm_eval_Attribute,hb])
end
def tFld (K:au)(ta:TE)(f:Str):TE:=fun σ H Q=>ta σ H fun x H1=>∃ a C dx fs v,x= .ref a∧H1 a=some (.ins C dx fs)∧Cls K C∧NoAttr K C f∧fs.lookup f=some v∧Q v H1
def sFld (K:au)(ta tv:TE)(f:Str):TS:=fun D σ H=>tv σ H fun y H1=>ta σ H1 fun x H2=>∃ a C dx fs,x= .ref a∧H2 a=some (.ins C dx fs)∧Cls K C∧NoAttr K C f∧fs.length<1000 ∧
 D.nx σ (upd H2 a (.ins C dx (lQ f y fs)))
section
variable {o:Expr}{f:Str}{tpos:Pos}
theorem pe_fld (he:PE X e ta)(hb:gT e f X.env (dg e X.env)=dg e X.env):PE X (.Attribute e f pos) (tFld X.K ta f):=by
 intro aJ s σ H Q I h;refine attr_of hb (thn (he aJ s σ H _ I h) fun u s1 ⟨x,H1,I1,rx,a,C,dx,fs,v,ex,ea,c,n,l,q⟩=>?_);subst ex;obtain rfl:u=aa.ref a:=rx;exact getattr_ok I1 ea c n l fun u' s2 I2 ru=>⟨v,H1,I2,ru,q⟩
theorem ps_fld (ha:PE X o ta)(hv:PE X value tv)(hs:j4 value (some (.Attribute o f pos')) pos.line X.env=eQ false):PS X (.Assign [.Attribute o f pos'] value pos) (sFld X.K ta tv f):=by
 intro aJ s σ H D I h;refine plainObj_wpAny_Assign_Attribute (thn (hv aJ s σ H _ I h) fun u s1 ⟨y,H1,I1,ry,q⟩=>thn (ha aJ s1 σ H1 _ I1 q) fun ov s2 ⟨x,H2,I2,rx,a,C,dx,fs,ex,ea,c,n,l,q2⟩=>?_) hs;subst ex;obtain rfl:ov=aa.ref a:=rx;exact setattr_ok I2 ea c n l ry fun s3 I3=>⟨σ,_,I3,q2⟩
end
section
variable {c:aa}{b:Bool}
inductive TyOf (K:au)(H:Hp):V→aa→Prop where
 | non:TyOf K H .non (.type "NoneType")
 | bl (x:Bool):TyOf K H (.bl x) (.type "bool")
 | int (i:Int):TyOf K H (.int i) (.type "int")
 | str (x:Str):TyOf K H (.str x) (.type "str")
 | flt (x:UInt64):TyOf K H (.flt x) (.type "float")
 | lst {a:ai} {xs:List V} (e:H a=some (.lst xs)):TyOf K H (.ref a) (.type "list")
 | frz {a:ai} {o:Obj} {xs:List V} (e:H a=some (.frz o (.lst xs))):TyOf K H (.ref a) (.type "list")
 | tup {a:ai} {xs:List V} (e:H a=some (.tup xs)):TyOf K H (.ref a) (.type "tuple")
 | dK {a:ai} {kvs:List (Key×V)} (e:H a=some (.dK kvs)):TyOf K H (.ref a) (.type "dict")
 | dT {a:ai} {kvs:List (List Key×V)} (e:H a=some (.dT kvs)):TyOf K H (.ref a) (.type "dict")
 | ins {a C dx:ai} {fs:List (Str×V)} (e:H a=some (.ins C dx fs)) (cl:Cls K C) (ha:bJ K (.ref C) "__class__" =some (some (.builtin "object.__class__")))
   (hn:PySem.W.specialIn K (.builtin "object.__class__") "__get__" =some (some (.builtin "getset_descriptor.__get__"))) (htk:PySem.W.takesIn K (.builtin "object.__class__")=some true)
   (hm:jo K C (.type "object")=some true):TyOf K H (.ref a) (.ref C)
theorem isinst_ok {x:V}{t:aa}(I:Inv X aJ σ H s)(rx:RelV x u)(ty:TyOf X.K H x t)(e:eZ X.K t c=some b)(h:∀ tk,Q (.bool b) { s with toks:=tk }) :
  aH (aU X.prog X.w) A (ir (.builtin "isinstance") [u,c]) Q E s:=by
 cases ty with
 | non=>cases (show u=aa.none from rx);exact dF PySem.W.kitx_none I.kIn True.intro e (fun z=>nomatch z) h
 | bl y=>cases (show u=aa.bool y from rx);exact dF PySem.W.kitx_bool I.kIn True.intro e (fun z=>nomatch z) h
 | int i=>obtain ⟨t,q⟩:=(show ∃ t,u=aa.int i t from rx);cases q;exact dF PySem.W.kitx_int I.kIn True.intro e (fun z=>nomatch z) h
 | str y=>obtain ⟨t,q⟩:=(show ∃ t,u=aa.str y t from rx);cases q;exact dF PySem.W.kitx_str I.kIn True.intro e (fun z=>nomatch z) h
 | flt y=>obtain ⟨t,q⟩:=(show ∃ t,u=aa.float y t from rx);cases q;exact dF PySem.W.kitx_float I.kIn True.intro e (fun z=>nomatch z) h
 | @lst a xs ea =>
  cases (show u=aa.ref a from rx);obtain ⟨_,_,n,_,h1⟩:=(show ObjOk X.prog X.w H s.heap a (.lst xs) from I.hok a _ ea);exact dF PySem.W.kitx_list I.kIn ⟨_,h1,rfl⟩ e (fun z=>nomatch z) h
 | @frz a ob xs ea =>
  cases (show u=aa.ref a from rx);obtain ⟨_,_,_,n,_,h1⟩:=(show ObjOk X.prog X.w H s.heap a (.frz ob (.lst xs)) from I.hok a _ ea);exact dF PySem.W.kitx_list I.kIn ⟨_,h1,rfl⟩ e (fun z=>nomatch z) h
 | @tup a xs ea =>
  cases (show u=aa.ref a from rx);obtain ⟨_,_,_,p⟩:=(show ObjOk X.prog X.w H s.heap a (.tup xs) from I.hok a _ ea);obtain ⟨o,h1,h2,_⟩:=p;exact dF PySem.W.kitx_tuple I.kIn ⟨o,h1,h2⟩ e (fun z=>nomatch z) h
 | @dK a kvs ea =>
  cases (show u=aa.ref a from rx);obtain ⟨_,_,vs,_,p⟩:=(show ObjOk X.prog X.w H s.heap a (.dK kvs) from I.hok a _ ea);obtain ⟨o,es,ep,h1,h2,_⟩:=p;exact dF PySem.W.kitx_dict I.kIn ⟨o,h1,h2.1⟩ e (fun z=>nomatch z) h
 | @dT a kvs ea =>
  cases (show u=aa.ref a from rx);obtain ⟨_,_,xs,_,o,es,ep,h1,h2,_⟩:=(show ObjOk X.prog X.w H s.heap a (.dT kvs) from I.hok a _ ea);exact dF PySem.W.kitx_dict I.kIn ⟨o,h1,h2.1⟩ e (fun z=>nomatch z) h
 | @ins a C dx fs ea cl ha hn htk hm =>
  cases (show u=aa.ref a from rx);obtain ⟨mA,O,_⟩:=ins_get I.hok ea;obtain ⟨od,J,_⟩:=O.look;exact dF (PySem.W.kitx_own (cl.get _) cl.hd ha hn htk hm) I.kIn J e (fun z=>nomatch z) h
end
structure Room (k:Nat)(A:bG):Prop where
 hd:A.handled=none
 dp:A.depth+3 * k+5<iG
 un:A.units+16 * k+200<cLine
theorem Room.mono {k:Nat}(r:Room k A)(h:j≤k):Room j A:=⟨r.hd,by have:=r.dp;lia,by have:=r.un;lia⟩
theorem Room.deeper {k:Nat}(r:Room (k+1) A)(env:Env):Room k (A.deeper env) :=
 ⟨r.hd,by have:=r.dp;show A.depth+1+3 * k+5<_;lia,by have:=r.un;show A.units+3+16 * k+200<_;lia⟩
theorem Room.in1 {k:Nat}(r:Room (k+1) A):Room k A.in1 :=
 ⟨r.hd,by have:=r.dp;show A.depth+3 * k+5<_;lia,by have:=r.un;show A.units+1+16 * k+200<_;lia⟩
theorem make_depth:(A.under (.builtin "type.__call__" ⟨.ref C::us,kw⟩)).depth=A.depth+1:=by
 first | rfl | simp [bG.under,Code.weight,Code.isCreation,Code.isGuard,Code.isCaller,Code.frames,Code.isFrame,guardIds]
theorem make_units:(A.under (.builtin "type.__call__" ⟨.ref C::us,kw⟩)).units=A.units+1:=by
 first | rfl | simp [bG.under,Code.cUnits,Code.frames,Code.isFrame]
theorem Room.make {k:Nat}(r:Room (k+1) A)(C:ai)(us:List aa)(kw:List (Str×aa)):Room k (A.under (.builtin "type.__call__" ⟨.ref C::us,kw⟩)) :=
 ⟨r.hd,by have:=r.dp;rw [make_depth];lia,by have:=r.un;rw [make_units];lia⟩
theorem Room.depth {k:Nat}(r:Room k A):A.depth<iG:=by have:=r.dp;lia
theorem Room.units {k:Nat}(r:Room k A):A.units+64<cLine:=by have:=r.un;lia
theorem Room.units0 {k:Nat}(r:Room k A):A.units<cLine:=by have:=r.un;lia
def tNil:TA:=fun _ H Q=>Q [] H
def tCons (ta:TE)(tr:TA):TA:=fun σ H Q=>ta σ H fun x H1=>tr σ H1 fun xs H2=>Q (x::xs) H2
theorem aP:PA X [] tNil:=fun _ _ _ _ H Q I h=>Calls.spliced_nil ⟨[],H,I,.nil,h⟩
theorem aq (ha:PE X e te)(hr:PA X es t)(hs:bb (e::es) X.env=(false,dg e X.env)::bb es X.env:=by rfl):PA X (e::es) (tCons te t):=by
 intro pos aJ s σ H Q I h;rw [hs];show aH _ _ (spliced ((false,dg e X.env)::dM pos (bb es X.env))) _ _ s;refine Calls.spliced_cons (thn (ha aJ s σ H _ I h) fun u s1 ⟨x,H1,I1,r1,q1⟩=>?_);exact thn (hr pos aJ s1 σ H1 _ I1 q1) fun us s2 ⟨xs,H2,I2,r2,q2⟩=>⟨x::xs,H2,I2,.cons r1 r2,q2⟩
def tTup (t:TA):TE:=fun σ H Q=>t σ H fun xs H1=>xs.length≤aR∧∀ p,H1 p=none→Q (.ref p) (upd H1 p (.tup xs))
def tLst (t:TA):TE:=fun σ H Q=>t σ H fun xs H1=>xs.length≤aR∧∀ p,H1 p=none→Q (.ref p) (upd H1 p (.lst xs))
theorem pe_tup {x1}(h:PA X es t):PE X (.Tuple es x1 pos) (tTup t):=by
 intro aJ s σ H Q I hq;refine wpAny_Tuple_spliced (thn (h pos aJ s σ H _ I hq) fun us s1 ⟨xs,H1,I1,r,z,q⟩=>⟨by rw [←r.length];exact z,?_⟩);have hf:H1 s1.heap.objs.size=none:=I1.hok.fresh (az _);refine ⟨.ref s1.heap.objs.size,upd H1 s1.heap.objs.size (.tup xs),I1.laid (t':=s1.toks) (fun b u e=>ak _ e) (az _) ?_,rfl,q _ hf⟩;exact ⟨z,us,r,⟨_,aN _ rfl,rfl,rfl,_,rfl⟩⟩
theorem jT (h:PA X es t):PE X (.List es pos) (tLst t):=by
 intro aJ s σ H Q I hq;refine wpAny_List_spliced (thn (h pos aJ s σ H _ I hq) fun us s1 ⟨xs,H1,I1,r,z,q⟩=>⟨by rw [←r.length];exact z,?_⟩);have hf:H1 s1.heap.objs.size=none:=I1.hok.fresh (az _);refine ⟨.ref s1.heap.objs.size,upd H1 s1.heap.objs.size (.lst xs),I1.laid (t':=s1.toks) (fun b u e=>ak _ e) (az _) ?_,rfl,q _ hf⟩;exact ⟨z,us,0,r,aN _ rfl⟩
abbrev Sp:=List V→Hp→VK→XK→Prop
abbrev CXT:=List Env→Hp→ao→XK→aa→ao→Prop
structure Env0 (P:aQ)(w:bq)(K:au)(mg:Str→Option aa)(base:bw)(A:bG)(outer:List Env)(s:ao)(H:Hp):Prop where
 frames:A.frames=some outer
 mod:Mod K mg base
 bs:∀ b o,base.get? b=some o→s.heap.get? b=some o∧H b=none
 bsz:base.objs.size≤s.heap.objs.size
 funs:s.heap.FunFrames base outer
 frf:∀ b∈frs outer,H b=none
 hok:HOk P w H s.heap
 bare:AllBare s.gens
def CE (outer:List Env)(P:aQ)(w:bq)(H:Hp)(s:ao)(Q:VK)(u:aa)(s':ao):Prop :=
 ∃ v H',s'.os=s.os∧AllBare s'.gens∧Un (frs outer) [] H H' s.heap s'.heap∧HOk P w H' s'.heap∧RelV v u∧Q v H'
def CR (CX:CXT)(outer:List Env)(P:aQ)(w:bq)(H:Hp)(s:ao)(Q:VK)(E:XK)(r:Result)(s':ao):Prop :=
 match r with
 | .ok (.ret u)=>CE outer P w H s Q u s'
 | .ok _=>False
 | .error e=>CX outer H s E e s'
structure FnOk (P:aQ)(w:bq)(K:au)(mg:Str→Option aa)(base:bw)(CX:CXT)(k:Nat)(f:ai)(fd:bf)(ps:List Str)(sp:Sp):Prop where
 len:∀ vs H Q E,sp vs H Q E→vs.length=ps.length
 run:∀ (A:bG) (outer:List Env) (s:ao) (H:Hp) (args:Args) (us:List aa) (vs:List V) (Q:VK) (E:XK),Room k A→Env0 P w K mg base A outer s H→BindsTo s fd args (ps.zip us)→Vals vs us→sp vs H Q E →
  hV (aU P w) A (.call (.ref f) args) (CR CX outer P w H s Q E) s
theorem Env0.make (e:Env0 P w K mg base A outer s H)(C:ai)(us:List aa)(kw:List (Str×aa)) :
  Env0 P w K mg base (A.under (.builtin "type.__call__" ⟨.ref C::us,kw⟩)) outer s H:=⟨by first | exact e.frames | (simpa [bG.under,Code.envs,Code.isFrame,pushEnvs] using e.frames),e.mod,e.bs,e.bsz,e.funs,e.frf,e.hok,e.bare⟩
theorem Inv.env0 (I:Inv X aJ σ H s):Env0 X.prog X.w X.K X.mg X.base X.A X.stack s H :=
 ⟨I.ok.frames,I.ok.mod,I.bs,aS I.ok.bsz I.sz,I.stack,I.stkFree,I.hok,I.bare⟩
theorem Inv.after {Q:VK}(I:Inv X aJ σ H s)(h:CE X.stack X.prog X.w H s Q u s'):EP X aJ σ Q u s':=by
 obtain ⟨v,H',os,bare,un,hok,r,q⟩:=h;obtain ⟨hh,g,d,t,os'⟩:=s';obtain rfl:os'=s.os:=os;exact ⟨v,H',I.call (h':=hh) (g':=g) (d':=d) (t':=t) (ch:=[]) un hok bare (fun b z=>pP z (by simp)),r,q⟩
def tCall (sp:Sp)(dvs:List V)(E:XK)(t:TA):TE:=fun σ H Q=>t σ H fun vs H1=>sp (vs++dvs) H1 Q E
def tMeth (C:ai)(m:Str)(sp:Sp)(dvs:List V)(E:XK)(ta:TE)(t:TA):TE:=fun σ H Q=>ta σ H fun x H1=>∃ a dx fs,x= .ref a∧H1 a=some (.ins C dx fs)∧fs.lookup m=none ∧
 t σ H1 fun vs H2=>sp (x::(vs++dvs)) H2 Q E
def tMake (C:ai)(sp:Sp)(dvs:List V)(E:XK)(t:TA):TE:=fun σ H Q=>t σ H fun vs H1=>∀ x dx,H1 x=none→H1 dx=none→dx≠x →
 sp (.ref x::(vs++dvs)) (upd (upd H1 dx (.own x)) x (.ins C dx [])) (fun v H2=>v= .non∧Q (.ref x) H2) E
def Binds (K:au)(fd:bf)(ps:List Str)(ds:List aa):Prop :=
 ∀ (s:ao) (us:List aa),K.In s.heap→(us++ds).length=ps.length→BindsTo s fd ⟨us,[]⟩ (ps.zip (us++ds))
theorem Binds.all (h:∀ us:List aa,us.length=ps.length→bindArgs fd ⟨us,[]⟩=eQ (ps.zip us)):Binds K fd ps []:=fun s us _ hl=>by
 rw [cP] at hl ⊢;exact .of_eq (h us hl)
def lH (CX:CXT)(X:Cx)(E:XK):Prop:=∀ (aJ:List (ai×Obj)) (σ:St) (H:Hp) (s:ao) (e:aa) (s':ao),Inv X aJ σ H s→CX X.stack H s E e s'→X.xe e s'
section
variable {CX:CXT}{k:Nat}{sp:Sp}{E:XK}{m:Str}{p:Pos}{o:Expr}
theorem run_fn {Q:VK}{vs:List V}(F:FnOk X.prog X.w X.K X.mg X.base CX k f fd ps sp)(hr:Room k X.A)(hb:Binds X.K fd ps ds)(hd:Vals dvs ds)(hx:lH CX X E)
  (I:Inv X aJ σ H s) (r:Vals vs us) (h:sp (vs++dvs) H Q E):aH (aU X.prog X.w) X.A (ir (.ref f) us) (EP X aJ σ Q) X.xe s:=by
 have r2:Vals (vs++dvs) (us++ds):=r.append hd;have hl:(us++ds).length=ps.length:=by rw [←r2.length];exact F.len _ _ _ _ h
 refine iE (jF (F.run X.A X.stack s H ⟨us,[]⟩ (us++ds) (vs++dvs) Q E hr I.env0 (hb s us I.kIn hl) r2 h) fun r s' hq=>?_);cases r with
 | error e=>exact hx aJ σ H s e s' I hq
 | ok fl =>
  cases fl with
  | ret u=>exact I.after hq
  | next=>exact cI hq
  | brk=>exact cI hq
  | cont=>exact cI hq
theorem pe_call (F:FnOk X.prog X.w X.K X.mg X.base CX k f fd ps sp)(hr:Room k X.A)(hg:Gl X x)(hm:X.mg x=some (.ref f))(hk:cW X.K (.ref f)=true)(hb:Binds X.K fd ps ds)(hd:Vals dvs ds)(hx:lH CX X E)
  (ha:PA X (e::es) t) (hdb:(x == ("__debug__" :Str))=false:=by decide) (he:bb (e::es) X.env=(false,dg e X.env)::bb es X.env:=by rfl) (hpl:(dM pos (bb es X.env)).any (·.1)=false:=by rfl) :
  PE X (.Call (.Name x p) (e::es) [] pos) (tCall sp dvs E t):=by
 intro aJ s σ H Q I h;refine dv (md I hg hm ?_ hdb);refine j6 (h₀:=X.base) I.ok.mod.kin hk (thn (ha pos aJ s σ H _ I h) fun us s1 ⟨vs,H1,I1,r,q⟩=>⟨I1.kIn,?_⟩) he hpl;exact run_fn F hr hb hd hx I1 r q
theorem pe_meth {pl:Sem Bool}(he:PE X o ta)(c:Cls X.K C)(hm:Meth X.K C m f)(F:FnOk X.prog X.w X.K X.mg X.base CX k f fd ps sp)(hr:Room k X.A)(hb:Binds X.K fd ps ds)(hd:Vals dvs ds)(hx:lH CX X E)(ha:PA X (e::es) t)
  (hst:bb (e::es) X.env=(false,dg e X.env)::bb es X.env:=by rfl) (hpl:(dM pos (bb es X.env)).any (·.1)=false:=by rfl)
  (ht:dg (.Call (.Attribute o m apos) (e::es) [] pos) X.env=(do
   let ov ← dg o X.env
   standAt apos.atName
   let (f,first) ← jD [ov] (getMethod ov m pl)
   callWith pos f first (dM pos (bb (e::es) X.env)) (backToKw pos (keywordEach [] X.env))):=by rfl) :
  PE X (.Call (.Attribute o m apos) (e::es) [] pos) (tMeth C m sp dvs E ta t):=by
 intro aJ s σ H Q I h;refine PySem.W.methodCall_KW (pl:=pl) (thn (he aJ s σ H _ I h) fun u s1 ⟨x,H1,I1,rx,a,dx,fs,ex,ea,l,q⟩=>?_) ht;subst ex;obtain rfl:u=aa.ref a:=rx;refine getmeth_ok I1 ea c hm l ?_;refine j6 (first:=[.ref a]) (h₀:=X.base) I.ok.mod.kin hm.kp (thn (ha pos aJ s1 σ H1 _ I1 q) fun us s2 ⟨vs,H2,I2,r,q2⟩=>⟨I2.kIn,?_⟩) hst hpl;exact run_fn (us:= .ref a::us) (vs:= .ref a::vs) F hr hb hd hx I2 (.cons rfl r) q2
structure Mk (K:au)(C f:ai):Prop where
 makes:PySem.W.makesIn K C=true
 init:bJ K (.ref C) "__init__" =some (some (.ref f))
 fn:iT K (.ref f)=true
 kp:cW K (.ref C)=true
theorem run_make {Q:VK}{vs:List V}(M:Mk X.K C f)(F:FnOk X.prog X.w X.K X.mg X.base CX k f fd ps sp)(hr:Room (k+1) X.A)(hb:Binds X.K fd ps ds)(hd:Vals dvs ds)
  (hx:lH CX X E) (I:Inv X aJ σ H s) (r:Vals vs us)
  (h:∀ x dx,H x=none→H dx=none→dx≠x→sp (.ref x::(vs++dvs)) (upd (upd H dx (.own x)) x (.ins C dx [])) (fun v H2=>v= .non∧Q (.ref x) H2) E) :
  aH (aU X.prog X.w) X.A (ir (.ref C) us) (EP X aJ σ Q) X.xe s:=by
 have hq:=h (s.heap.objs.size+1) s.heap.objs.size (I.hok.fresh (gZ _)) (I.hok.fresh (az _)) (bj (jI _));have I2:=Inv.made (C:=C) I;have r2:Vals (V.ref (s.heap.objs.size+1)::(vs++dvs)) (aa.ref (s.heap.objs.size+1)::(us++ds)):= .cons rfl (r.append hd);have hl:(aa.ref (s.heap.objs.size+1)::us++ds).length=ps.length:=by
  have e:=r2.length;rw [F.len _ _ _ _ hq] at e;exact e.symm
 refine iE (make_map (f:=f) I.kIn M.makes M.init (beq_iff_eq.mp M.fn) (jF (F.run _ X.stack _ _ ⟨aa.ref (s.heap.objs.size+1)::us,[]⟩ (aa.ref (s.heap.objs.size+1)::(us++ds)) _ _ E (hr.make C us [])
  (I2.env0.make C us []) (hb _ (aa.ref (s.heap.objs.size+1)::us) I2.kIn hl) r2 hq) fun r s' hq'=>?_))
 cases r with
 | error e=>exact hx aJ σ _ _ e s' I2 hq'
 | ok fl =>
  cases fl with
  | ret u =>
   obtain ⟨v,H',I3,rv,ev,q3⟩:=I2.after hq';subst ev;exact ⟨rv,⟨V.ref (s.heap.objs.size+1),H',I3,rfl,q3⟩⟩
  | next=>exact cI hq'
  | brk=>exact cI hq'
  | cont=>exact cI hq'
theorem pe_make (M:Mk X.K C f)(F:FnOk X.prog X.w X.K X.mg X.base CX k f fd ps sp)(hr:Room (k+1) X.A)(hg:Gl X x)(hm:X.mg x=some (.ref C))(hb:Binds X.K fd ps ds)(hd:Vals dvs ds)(hx:lH CX X E)
  (ha:PA X (e::es) t) (hdb:(x == ("__debug__" :Str))=false:=by decide) (he:bb (e::es) X.env=(false,dg e X.env)::bb es X.env:=by rfl) (hpl:(dM pos (bb es X.env)).any (·.1)=false:=by rfl) :
  PE X (.Call (.Name x p) (e::es) [] pos) (tMake C sp dvs E t):=by
 intro aJ s σ H Q I h;refine dv (md I hg hm ?_ hdb);refine j6 (h₀:=X.base) I.ok.mod.kin M.kp (thn (ha pos aJ s σ H _ I h) fun us s1 ⟨vs,H1,I1,r,q⟩=>⟨I1.kIn,?_⟩) he hpl;exact run_make M F hr hb hd hx I1 r q
end
structure cj (N P:List Str)(sc:gc):Prop where
 kind:sc.kind= .function
 co:sc.isCoroutine=false
 gen:sc.isGenerator=false
 nd:N.Nodup
 pre:N.take P.length=P
 par:∀ x∈P,sc.names.lookup x=some .local∨sc.names.lookup x=some .cell
 nofree:∀ y∈sc.names,y.2≠ .free
theorem bindL_out {kindOf:Str→Option cE}{x:Str}:∀ {binds:List (Str×aa)} {m:Str→Option aa},(∀ v,(x,v) ∉ binds)→bindL kindOf binds m x=m x
 | [],_,_=>rfl
 | (n,v)::r,m,h=>by
  unfold bindL;rw [bindL_out fun w hw=>h w (aD _ hw)];split
  ·have:x≠n:=by rintro rfl;exact h v aX
   simp [this]
  ·rfl
theorem bindC_out {kindOf:Str→Option cE}{x:Str}:∀ {binds:List (Str×aa)} {m:Str→Option aa},(∀ v,(x,v) ∉ binds)→bindC kindOf binds m x=m x
 | [],_,_=>rfl
 | (n,v)::r,m,h=>by
  unfold bindC;rw [bindC_out fun w hw=>h w (aD _ hw)];split
  ·rfl
  ·have:x≠n:=by rintro rfl;exact h v aX
   simp [this]
theorem bindL_get {kindOf:Str→Option cE}{x:Str}{v:aa}:∀ {P:List Str} {vs:List aa} {i:Nat} {m:Str→Option aa},P.Nodup→P[i]? =some x→vs[i]? =some v→kindOf x=some .local →
  bindL kindOf (P.zip vs) m x=some v
 | [],_,_,_,_,h,_,_=>by simp at h
 | _::_,[],_,_,_,_,h,_=>by simp at h
 | p::P,w::vs,0,m,nd,h1,h2,hk=>by
  simp at h1 h2;subst h1;subst h2;show bindL kindOf ((p,w)::P.zip vs) m p=_;unfold bindL;rw [bindL_out fun v hv=>(bz.mp nd).1 (List.of_mem_zip hv).1,pO hk];simp
 | p::P,w::vs,i+1,m,nd,h1,h2,hk=>by
  show bindL kindOf ((p,w)::P.zip vs) m x=_;unfold bindL;exact bindL_get (i:=i) (bz.mp nd).2 (by simpa using h1) (by simpa using h2) hk
theorem bindC_get {kindOf:Str→Option cE}{x:Str}{v:aa}:∀ {P:List Str} {vs:List aa} {i:Nat} {m:Str→Option aa},P.Nodup→P[i]? =some x→vs[i]? =some v→kindOf x≠some .local →
  bindC kindOf (P.zip vs) m x=some v
 | [],_,_,_,_,h,_,_=>by simp at h
 | _::_,[],_,_,_,_,h,_=>by simp at h
 | p::P,w::vs,0,m,nd,h1,h2,hk=>by
  simp at h1 h2;subst h1;subst h2;show bindC kindOf ((p,w)::P.zip vs) m p=_;unfold bindC;rw [bindC_out fun v hv=>(bz.mp nd).1 (List.of_mem_zip hv).1,pN hk];simp
 | p::P,w::vs,i+1,m,nd,h1,h2,hk=>by
  show bindC kindOf ((p,w)::P.zip vs) m x=_;unfold bindC;exact bindC_get (i:=i) (bz.mp nd).2 (by simpa using h1) (by simpa using h2) hk
def start (N:List Str)(vs:List V):St:=vs.map some++bF (N.length - vs.length) none
def cxOf (CX:CXT)(P:aQ)(w:bq)(K:au)(mg:Str→Option aa)(base:bw)(N:List Str)(qual:Str)(scope:gc)(f:ai)(cd:aa)(A:bG)(outer:List Env)(s:ao)(H:Hp)(E:XK):Cx where
 prog:=P
 w:=w
 K:=K
 mg:=mg
 base:=base
 A:=A.deeper (envOfC qual scope s.heap.objs.size f cd)
 N:=N
 s₀:=s
 H₀:=H
 env:=envOfC qual scope s.heap.objs.size f cd
 outer:=outer
 stack:=envOfC qual scope s.heap.objs.size f cd::outer
 ex:=[]
 calm:=true
 fn:=fun _=>true
 pn:=[]
 xe:=fun e s'=>aH (aU P w) (A.deeper (envOfC qual scope s.heap.objs.size f cd)) (leaving (envOfC qual scope s.heap.objs.size f cd) e) (fun _ s''=>CX outer H s E e s'') (fun e' s''=>CX outer H s E e' s'') s'
theorem cell_has {sc:gc}(h:sc.names.lookup x=some .cell):∃ c,(cellsFrom n sc.names []).lookup x=some c:=by
 have q:=PySem.W.cellsFrom_some sc.names n [] (.inl h);exact ku.mp q
theorem inv_start {CX:CXT}{cd:aa}{s1:ao}{E:XK}{vs:List V}
  (S:cj N ps scope) (hd:A.handled=none) (e0:Env0 P w K mg base A outer s H) (hl:vs.length=ps.length) (r:Vals vs us)
  (x:InCallC s s.heap.objs.size (bindL (envOfC qual scope s.heap.objs.size f cd).kindOf (ps.zip us) fun _=>none) (cellsFrom (s.heap.objs.size+1) scope.names []) (bindC (envOfC qual scope s.heap.objs.size f cd).kindOf (ps.zip us) fun _=>none) s1) :
  Inv (cxOf CX P w K mg base N qual scope f cd A outer s H E) [] (start N vs) H s1:=by
 have hpl:ps.length≤N.length:=by have:=pT List.length S.pre;rw [bI] at this;lia
 obtain ⟨h1,tk,rfl,hk⟩:=x.done;have noA:∀ b:ai,b ∉ (cxOf CX P w K mg base N qual scope f cd A outer s H E).ex:=fun b z=>pP (show b∈([]:List ai) from z) (by simp)
 refine ⟨⟨e0.mod,S.kind,rfl,rfl,az _,fun y z c h1 h2=>?_,fun y hy=>?_,fun y c _ h=>?_,fun _=>hd,bG.frames_deeper e0.frames,.inr ⟨rfl,rfl⟩,fun b z=>pP z (noA b),e0.bs,e0.bsz,fun b _ _=>noA b,fun b z=>pP z (noA b),e0.funs,e0.frf⟩,
  rfl,e0.bare,Un.kept hk,⟨_,x.toInCall.ns,fun i y v h1 h2 h3=>?_⟩,fun y c h=>⟨_,x.cell y c h⟩,e0.hok.fresh (az _),fun y c h=>?_,fun p hp=>pP (show p∈([]:List (ai×Obj)) from hp) (by simp),e0.hok.kept hk,?_⟩
 ·exact name_of_addr x.apart (cH h1) (cH h2)
 ·have hy:scope.names.lookup y=some .cell∨scope.names.lookup y=some .free:=hy
  rcases hy with hy | hy
  ·exact cell_has hy
  ·exact pP rfl (S.nofree _ (cH hy))
 ·exact iu (x.above y c (cH h))
 ·have hi:i<vs.length:=by
   unfold start at h2
   by_cases hi:i<vs.length
   ·exact hi
   ·rw [br (by simpa using hi)] at h2
    rw [List.getElem?_replicate] at h2;split at h2 <;> cases h2
  have ha:vs[i]? =some v:=by
   unfold start at h2;rw [bS (by simpa using hi),ax] at h2;cases e:vs[i]? with
   | none=>rw [e] at h2;cases h2
   | some a=>rw [e] at h2;cases h2;rfl
  obtain ⟨u,hu,rv⟩:=r.get ha;have hp:ps[i]? =some y:=by
   rw [←S.pre,List.getElem?_take_of_lt (by lia)];exact h1
  have ndP:ps.Nodup:=by rw [←S.pre];exact S.nd.sublist (List.take_sublist _ _)
  refine ⟨u,rv,?_⟩
  rcases S.par y (aO hp) with k | k
  ·exact .inl ⟨k,bindL_get ndP hp hu k⟩
  ·obtain ⟨c,e⟩:=cell_has (n:=s.heap.objs.size+1) k
   refine .inr ⟨.inl k,c,e,?_⟩;have q:=x.cell y c e;rw [bindC_get ndP hp hu (by show scope.names.lookup y≠_;rw [k];decide)] at q;exact q
 ·exact e0.hok.fresh (iu (x.above y c (cH h)))
 ·unfold start
  show _=N.length;rw [av,af,gF];lia
theorem fn_of {CX:CXT}{k:Nat}{body:List cG}{dV kV doc pm cdv ct oc:aa}{an od:Option ai}
  {sp:Sp} (lk:K.lookup f=some ⟨oc,od,.func (cK name qual params body scope dV kV doc pm an cdv ct),osl⟩) (hcd:fM K cdv qual=true) (S:cj N ps scope)
  (len:∀ vs H Q E,sp vs H Q E→vs.length=ps.length)
  (hbody:∀ (A:bG) (outer:List Env) (s:ao) (H:Hp) (vs:List V) (Q:VK) (E:XK),Room k (A.deeper (envOfC qual scope s.heap.objs.size f cdv))→sp vs H Q E →
   ∃ t,PSs (cxOf CX P w K mg base N qual scope f cdv A outer s H E) body t∧t { nx:=fun _ H'=>Q .non H',rt:=Q } (start N vs) H) :
  FnOk P w K mg base CX (k+1) f (cK name qual params body scope dV kV doc pm an cdv ct) ps sp:=by
 refine ⟨len,fun A outer s H args us vs Q E hr e0 hb r hsp=>?_⟩;have hl:=len _ _ _ _ hsp;have KX:K.In s.heap:=e0.mod.kin.keeps fun b o e=>(e0.bs b o e).1
 have lim:s.heap.NoLimit:=e0.mod.nolimit.keeps fun b o e=>(e0.bs b o e).1
 have mj:∀ y∈ps.zip us,scope.names.lookup y.1=some .local∨(scope.names.lookup y.1=some .cell∧((cellsFrom (s.heap.objs.size+1) scope.names []).lookup y.1).isSome=true):=fun ⟨n,v⟩ hy=>by
  rcases S.par n (List.of_mem_zip hy).1 with q | q
  ·exact .inl q
  ·exact .inr ⟨q,PySem.W.cellsFrom_some _ _ _ (.inl q)⟩
 refine codeAny_call_function hr.depth (KX _ _ lk) rfl S.co S.gen rfl (PySem.W.codeRec_of KX hcd) (hb _ _ _ _ ?_);refine wpAny_newFunctionEnv_cells S.kind mj fun env he s1 x=>?_
 subst he;refine ⟨lim.keeps x.toInCall.keep,codeAny_func ?_⟩;obtain ⟨t,ht,hq⟩:=hbody A outer s H vs Q E (hr.deeper _) hsp;have I:Inv (cxOf CX P w K mg base N qual scope f cdv A outer s H E) [] (start N vs) H s1:=inv_start S hr.hd e0 hl r x;refine bH (ht [] s1 (start N vs) H _ I hq) (fun fl s' hs=>?_) fun e s' hs=>hs
 have fin:∀ {σ':St} {H':Hp} {v:V} {u:aa},Inv (cxOf CX P w K mg base N qual scope f cdv A outer s H E) [] σ' H' s'→RelV v u→Q v H'→CE outer P w H s Q u s' :=
  fun {σ' H' v u} J rv q=>⟨v,H',J.os,J.bare,J.base,J.hok,rv,q⟩
 cases fl with
 | ret u =>
  obtain ⟨v,σ',H',J,rv,q⟩:=hs;exact fin J rv q
 | next =>
  obtain ⟨σ',H',J,q⟩:=hs;exact fin (v:=V.non) (u:=aa.none) J rfl q
 | brk =>
  obtain ⟨_,_,_,q⟩:=hs;exact cI q
 | cont =>
  obtain ⟨_,_,_,q⟩:=hs;exact cI q
section
variable {p:Pos}{id:String}{r:List V→Hp→VK→Prop}
def tCB (r:List V→Hp→VK→Prop)(t:TA):TE:=fun σ H Q=>t σ H fun vs H1=>r vs H1 Q
theorem dO (hc:CallR X (.builtin id) r)(hg:Gl X x)(hm:X.mg x=none)(hv:jG x=some (.builtin id))(ha:PA X (e::es) t)(hn:x ≠ "__name__" := by decide)(hdb:(x == ("__debug__" :Str))=false:=by decide)
  (he:bb (e::es) X.env=(false,dg e X.env)::bb es X.env:=by rfl) (hpl:(dM pos (bb es X.env)).any (·.1)=false:=by rfl):PE X (.Call (.Name x p) (e::es) [] pos) (tCB r t):=by
 intro aJ s σ H Q I h;refine dv (lV I hg hm hv ?_ hn hdb);exact PyProof.Rows.callWith_builtin1 (thn (ha pos aJ s σ H _ I h) fun us s1 ⟨vs,H1,I1,r1,q1⟩=>hc aJ s1 σ H1 vs us Q I1 r1 q1) he hpl
theorem eR (hc:CallR X (.type T) r)(hg:Gl X x)(hm:X.mg x=none)(hv:jG x=some (.type T))(ha:PA X (e::es) t)(hn:x ≠ "__name__" := by decide)(hdb:(x == ("__debug__" :Str))=false:=by decide)
  (he:bb (e::es) X.env=(false,dg e X.env)::bb es X.env:=by rfl) (hpl:(dM pos (bb es X.env)).any (·.1)=false:=by rfl):PE X (.Call (.Name x p) (e::es) [] pos) (tCB r t):=by
 intro aJ s σ H Q I h;refine dv (lV I hg hm hv ?_ hn hdb);exact fZ (thn (ha pos aJ s σ H _ I h) fun us s1 ⟨vs,H1,I1,r1,q1⟩=>hc aJ s1 σ H1 vs us Q I1 r1 q1) he hpl
end
end L2
variable {CW:L2.St→L2.VK→L2.It→L2.Hp→Prop}{CX:L2.CXT}{g:L2.TG}{wi:L2.TI}
namespace HT
open PySem PyProof.Rows
theorem cat_tup {t b:ai}{ws:List aa}(ht:IsTup s.heap t vs.toArray)(hb:IsTup s.heap b ws.toArray)(hv:vs≠[])
  (h1:ws=[]→Q (.ref t) s) (h2:ws≠[]→Q (.ref s.heap.objs.size) { s with heap:=s.heap.push { cls:= .type "tuple",data:= .seq (vs++ws).toArray } })
  (hsz:vs.length+ws.length≤aR):aH (aU prog w) A (fX .Add (.ref t) (.ref b)) Q E s:=by
 obtain ⟨⟨cls,dd,data,sl⟩,ho,hc,n,hd⟩:=id ht;obtain ⟨⟨cls2,dd2,data2,sl2⟩,ho2,hc2,n2,hd2⟩:=id hb;simp only at hc hd hc2 hd2;subst hc hd hc2 hd2;have e:vs.toArray++ws.toArray=(vs++ws).toArray:=by simp
 by_cases hw:ws=[]
 ·exact concat_meets ⟨_,ho,rfl⟩ ⟨_,ho2,rfl⟩ noFill_tuple_add seq_tuple_add PySem.F.slot_tuple_add kL (kq _ _)
   (tuple_addW1 t b vs.toArray ws.toArray n n2 dd dd2 sl sl2 (by simpa using hv) (by simp [hw])) ⟨ho,ho2,h1 hw⟩
 ·refine concat_meets ⟨_,ho,rfl⟩ ⟨_,ho2,rfl⟩ noFill_tuple_add seq_tuple_add PySem.F.slot_tuple_add kL (kq _ _)
   (tuple_addW2 t b vs.toArray ws.toArray n n2 dd dd2 sl sl2 (by simpa using hv) (by simpa using hw) (by rw [aB,aB];exact hsz)) ⟨ho,ho2,?_⟩
  rw [e];exact h2 hw
def sIx (n d:Nat):Option Int→Nat
 | none=>d
 | some v=>if v<0 then (v+(n:Int)).toNat else min v.toNat n
theorem sIx_nat (n d k:Nat):sIx n d (some (k:Int))=min k n:=by
 show (if (k:Int)<0 then ((k:Int)+(n:Int)).toNat else min (k:Int).toNat n)=min k n;rw [pN (by lia),bV]
theorem sIx_le (n d:Nat)(hd:d≤n)(o:Option Int):sIx n d o≤n:=by
 cases o with
 | none=>exact hd
 | some v =>
  show (if v<0 then (v+(n:Int)).toNat else min v.toNat n)≤n
  by_cases hv:v<0
  ·rw [pO hv];lia
  ·rw [pN hv];exact Nat.min_le_right _ _
theorem clip_eq (v:Int)(n d:Nat):(if v<0 then max (v+(n:Int)) 0 else min v (n:Int))=((sIx n d (some v):Nat):Int):=by
 show (if v<0 then max (v+(n:Int)) 0 else min v (n:Int))=(((if v<0 then (v+(n:Int)).toNat else min v.toNat n):Nat):Int)
 by_cases hv:v<0
 ·simp only [pO hv];lia
 ·simp only [pN hv];lia
theorem adjust_gen (lo hi:Option Int)(n:Nat):jK lo hi 1 (n:Int)=(((sIx n 0 lo:Nat):Int),((sIx n n hi:Nat):Int)):=by
 have h1:¬ ((1:Int)<0):=by lia
 unfold jK;simp only [h1,if_false];refine Prod.ext ?_ ?_
 ·cases lo with
  | none=>rfl
  | some v=>exact clip_eq v n 0
 ·cases hi with
  | none=>rfl
  | some v=>exact clip_eq v n n
theorem places_gen (i j:Nat):gx (i:Int) (j:Int) 1=j - i:=by
 unfold gx;have h1:(1:Int) > 0:=by lia
 simp only [h1,if_true,Int.ediv_one];split <;> lia
theorem pj {v:aa}{o:Option Int}{Q:Option Int→ao→Prop}(p:IsPart v o)(h:Q o s):aH (aU prog w) A (cV.Slice.slicePartIndex v) Q E s:=by
 cases p with
 | none=>exact slicePart_none h
 | int i t=>exact slicePart_int h
theorem sliceApplied_gen {sl:ai}{vl vu:aa}{lo:Option Int}{Q:Int×Int×Nat→ao→Prop}(hs:s.heap.IsSliceOf sl vl vu .none)(pl:IsPart vl lo)(pu:IsPart vu hi)
  (h:Q (((sIx n 0 lo:Nat):Int),1,sIx n n hi - sIx n 0 lo) s):aH (aU prog w) A (cV.Slice.sliceApplied (.ref sl) (eQ (n:Int))) Q E s:=by
 obtain ⟨os,hos,hcs,hds⟩:=id hs;unfold cV.Slice.sliceApplied cV.Slice.sliceFields;refine ae (ae (bX hos hds (x:=vl) rfl (ae (bX hos hds (x:=vu) rfl (ae (bX hos hds (x:= .none) rfl (aA ?_)))))));refine ae (slicePart_none ?_);show aH _ _ (if ((1:Int) == 0)=true then _ else _) _ _ s;rw [pN (by decide)];refine ae (pj pl (ae (pj pu (ae (aA ?_)))));show aH _ _ (match jK lo hi 1 (n:Int) with | (lo,hi)=>eQ (lo,(1:Int),gx lo hi 1)) _ _ s;rw [adjust_gen lo hi n];show aH _ _ (eQ (((sIx n 0 lo:Nat):Int),(1:Int),gx ((sIx n 0 lo:Nat):Int) ((sIx n n hi:Nat):Int) 1)) _ _ s;rw [places_gen];exact aA h
theorem pick_gen (xs:Array aa)(i k:Nat):((aK k).filterMap fun (m:Nat)=>xs[((i:Int)+(m:Int) * 1).toNat]?).toArray=((xs.toList.drop i).take k).toArray:=by
 have e:(fun (m:Nat)=>xs[((i:Int)+(m:Int) * 1).toNat]?)=fun m=>xs[i+m]? := by
  funext m
  have:((i:Int)+(m:Int) * 1).toNat=i+m:=by lia
  rw [this]
 rw [e];have:=pick_run xs i k;rw [List.filterMap_map] at this;have e2:((fun x=>xs[x]?) ∘ fun x=>i+x)=fun m=>xs[i+m]? := rfl
 rw [e2] at this;rw [this]
theorem getItem_tuple_cut {t sl:ai}{vl vu:aa}{lo:Option Int}(ht:IsTup s.heap t items)(hs:s.heap.IsSliceOf sl vl vu .none)(pl:IsPart vl lo)(pu:IsPart vu hi)
  (hw:¬ (sIx items.size 0 lo=0∧sIx items.size items.size hi=items.size))
  (h:Q (.ref s.heap.objs.size) { s with heap:=s.heap.push { cls:= .type "tuple",data:= .seq ((items.toList.drop (sIx items.size 0 lo)).take (sIx items.size items.size hi - sIx items.size 0 lo)).toArray } })
  (hsz:items.size≤aR):aH (aU prog w) A (getItem (.ref t) (.ref sl)) Q E s:=by
 have htake:sizeOk (.seq ((items.toList.drop (sIx items.size 0 lo)).take (sIx items.size items.size hi - sIx items.size 0 lo)).toArray):=by
  show ((items.toList.drop (sIx items.size 0 lo)).take (sIx items.size items.size hi - sIx items.size 0 lo)).toArray.size≤aR;rw [aB,bI,ia,bW];lia
 have hj:sIx items.size items.size hi≤items.size:=sIx_le _ _ (az _) hi;obtain ⟨os,hos,hcs,hds⟩:=id hs;have hTs:s.TypeIs (.ref sl) "slice" := ⟨os,hos,hcs⟩;unfold getItem
 try with_reducible refine cf ?_
 first | refine ae (aA ?_) | skip
 refine ae (wpAny_sequenceKey ht.typeIs (by decide) ?_);refine ae (df (name:=bY "__getitem__") ht.typeIs cT
  (fq cT ht.typeIs entry_tuple_getitem ?_ (args_tuple_getitem _ _)))
 show aH _ _ (cV.Tuple.tupleItemsOf (.ref t) >>= _) _ _ s;refine ae (tupleItemsOf_ ht ?_);refine ae (wpAny_typeOf hTs ?_);rw [pO (by decide)];refine ae (sliceApplied_gen hs pl pu ?_);have hno:¬ ((((sIx items.size 0 lo:Nat):Int) == 0 && (1:Int) == 1 && (sIx items.size items.size hi - sIx items.size 0 lo) == items.size)=true):=by
  intro q;rw [cS,cS] at q;have q1:((sIx items.size 0 lo:Nat):Int)=0:=eq_of_beq q.1.1;have q2:sIx items.size items.size hi - sIx items.size 0 lo=items.size:=eq_of_beq q.2;exact hw ⟨by lia,by lia⟩
 show aH _ _ (if (((sIx items.size 0 lo:Nat):Int) == 0 && (1:Int) == 1 && (sIx items.size items.size hi - sIx items.size 0 lo) == items.size)=true then _ else _) _ _ s;rw [pN hno,pick_gen]
 first
  | exact ae (m:=gL _) (cY (aA ⟨_,rfl,aA h⟩) htake)
  | exact ae (m:=gL _) (cY (ae (aA (aA ⟨_,rfl,aA h⟩))) htake)
  | exact ae (ae (m:=gL _) (cY (aA (aA ⟨_,rfl,aA h⟩)) htake))
  | exact ae (ae (m:=gL _) (cY (aA ⟨_,rfl,aA h⟩) htake))
end HT
namespace L2
open PySem PySem.Spec PyProof.Rows
abbrev TO:=St→Hp→(Option Int→Hp→Prop)→Prop
def PO (X:Cx)(e:Option Expr)(t:TO):Prop :=
 ∀ (aJ:List (ai×Obj)) (s:ao) (σ:St) (H:Hp) (Q:Option Int→Hp→Prop),Inv X aJ σ H s→t σ H Q →
  aH (aU X.prog X.w) X.A (evalPart e X.env) (fun u s'=>∃ o H',Inv X aJ σ H' s'∧IsPart u o∧Q o H') X.xe s
def tNoPart:TO:=fun _ H Q=>Q none H
def tPart (t:TE):TO:=fun σ H Q=>t σ H fun x H1=>∃ i,x= .int i∧Q (some i) H1
theorem intsAre_of:∀ {us:List aa},Vals (ns.map V.int) us→IntsAre us ns:=by
 induction ns with
 | nil=>intro us r;rw [List.map_nil] at r;cases r;exact .nil
 | cons n ns ih =>
  intro us r;rw [cg] at r;cases r with
  | cons r1 r2 =>
   obtain ⟨t,e⟩:=r1;subst e;exact .cons n t (ih r2)
section
variable {lo hi:Option Expr}{tl th:TO}
theorem po_none:PO X none tNoPart:=by
 intro aJ s σ H Q I h;rw [evalPart_none];exact aA ⟨none,H,I,.none,h⟩
theorem po_some (h:PE X e te):PO X (some e) (tPart te):=by
 intro aJ s σ H Q I hw;rw [evalPart_some];refine thn (h aJ s σ H _ I hw) fun u s1 ⟨x,H1,I1,r1,q1⟩=>?_
 obtain ⟨i,rfl,q⟩:=q1;obtain ⟨t,rfl⟩:=r1;exact ⟨some i,H1,I1,.int i t,q⟩
def SlR (X:Cx)(r:V→Option Int→Option Int→Hp→VK→Prop):Prop :=
 ∀ (aJ:List (ai×Obj)) (s:ao) (σ:St) (H:Hp) (x:V) (v vl vu:aa) (lo hi:Option Int) (sl:ai) (Q:VK),Inv X aJ σ H s→RelV x v→s.heap.IsSliceOf sl vl vu .none→IsPart vl lo→IsPart vu hi→r x lo hi H Q →
  ∃ T id,typeLookup (.type T) "__getitem__" =eQ (some (.builtin id))∧s.TypeIs v T∧aH (aU X.prog X.w) X.A (getItem v (.ref sl)) (EP X aJ σ Q) X.xe s
def tSl (r:V→Option Int→Option Int→Hp→VK→Prop)(te:TE)(tl th:TO):TE:=fun σ H Q=>te σ H fun x H1=>tl σ H1 fun l H2=>th σ H2 fun u H3=>r x l u H3 Q
theorem pe_slice {r:V→Option Int→Option Int→Hp→VK→Prop}(hr:SlR X r)(he:PE X e te)(hl:PO X lo tl)(hu:PO X hi th):PE X (.Subscript e (.Slice lo hi none p2) pos) (tSl r te tl th):=by
 intro aJ s σ H Q I h;refine Subscript_ (thn (he aJ s σ H _ I h) fun v s1 ⟨x,H1,I1,r1,q1⟩=>?_);refine wpAny_Slice (thn (hl aJ s1 σ H1 _ I1 q1) fun vl s2 ⟨l,H2,I2,pl,q2⟩=>thn (hu aJ s2 σ H2 _ I2 q2) fun vu s3 ⟨u,H3,I3,pu,q3⟩=>?_);rw [evalPart_none];refine aA ?_;have I4:Inv X aJ σ H3 { s3 with heap:=s3.heap.push { cls:= .type "slice",data:= .fields #[vl,vu,.none] } }:=I3.kept (t':=s3.toks) fun b ob q=>ak _ q
 obtain ⟨T,id,hT,ht,hg⟩:=hr aJ { s3 with heap:=s3.heap.push { cls:= .type "slice",data:= .fields #[vl,vu,.none] } } σ H3 x v vl vu l u s3.heap.objs.size Q I4 r1 (bw.IsSliceOf.new ..) pl pu q3;show aH (aU X.prog X.w) X.A (subscriptTail e (.Slice lo hi none p2) v (.ref s3.heap.objs.size)) (EP X aJ σ Q) X.xe { s3 with heap:=s3.heap.push { cls:= .type "slice",data:= .fields #[vl,vu,.none] } };exact tail_any (ops:=[.ref s3.heap.objs.size,v]) ht hT hg (by with_unfolding_all rfl)
def cutV (xs:List V)(lo hi:Option Int):List V:=(xs.drop (HT.sIx xs.length 0 lo)).take (HT.sIx xs.length xs.length hi - HT.sIx xs.length 0 lo)
theorem cutV_length (xs:List V)(lo hi:Option Int):(cutV xs lo hi).length≤xs.length:=by
 unfold cutV;rw [bI,ia];lia
def rSlT (K:au):V→Option Int→Option Int→Hp→VK→Prop:=fun x lo hi H Q=>∃ a xs,x= .ref a∧SqT K H a xs ∧
 ¬ (HT.sIx xs.length 0 lo=0∧HT.sIx xs.length xs.length hi=xs.length)∧∀ p,H p=none→Q (.ref p) (upd H p (.tup (cutV xs lo hi)))
theorem sl_tup:SlR X (rSlT X.K):=by
 intro aJ s σ H x v vl vu lo hi sl Q I rx hs pl pu h;obtain ⟨a,xs,rfl,hx,hw,q⟩:=h;cases rx;obtain ⟨its,r,ht,hz⟩:=I.tuple hx;have hlen:its.toArray.size=xs.length:=by rw [aB];exact r.length.symm
 refine ⟨"tuple",_,cT.lookup,ht.typeIs,?_⟩;refine HT.getItem_tuple_cut ht hs pl pu (by rw [hlen];exact hw) ?_ (by rw [hlen];exact hz);rw [hlen];refine ⟨.ref s.heap.objs.size,_,I.laid (t':=s.toks) (o:= .tup (cutV xs lo hi)) (fun b ob q=>ak _ q) (az _) ?_,rfl,q _ (I.hok.fresh (az _))⟩;exact ⟨aS (cutV_length xs lo hi) hz,_,(r.drop (HT.sIx xs.length 0 lo)).take (HT.sIx xs.length xs.length hi - HT.sIx xs.length 0 lo),IsTupN.new _ _⟩
inductive rCatT (K:au)(x:V)(y:V)(H:Hp)(Q:VK):Prop
 | mk (a b xs ys:_)(_:x= .ref a)(_:y= .ref b)(_:SqT K H a xs)(_:SqT K H b ys)(_:xs≠[])(_:xs.length+ys.length≤aR)(_:(ys=[]→Q (.ref a) H))(_:(ys≠[]→∀ p,H p=none→Q (.ref p) (upd H p (.tup (xs++ys)))))
theorem Vals.nil_iff (r:Vals xs us):us=[]↔xs=[]:=by
 cases r with
 | nil=>simp
 | cons _ _=>simp
theorem op_catT:OpR X (fX .Add) (rCatT X.K):=by
 intro aJ s σ H x y v u Q I rx ry h;obtain ⟨a,b,xs,ys,rfl,rfl,ha,hb,hx,hz,q1,q2⟩:=h;cases rx;cases ry;obtain ⟨its,r1,p1,_⟩:=I.tuple ha;obtain ⟨its2,r2,p2,_⟩:=I.tuple hb;refine HT.cat_tup p1 p2 (fun z=>hx (r1.nil_iff.mp z)) (fun z=>⟨.ref a,H,I,rfl,q1 (r2.nil_iff.mp z)⟩) (fun z=>?_) (by rw [←r1.length,←r2.length];exact hz);refine ⟨.ref s.heap.objs.size,_,I.laid (t':=s.toks) (o:= .tup (xs++ys)) (fun b ob q=>ak _ q) (az _) ?_,rfl,q2 (fun w=>z (r2.nil_iff.mpr w)) _ (I.hok.fresh (az _))⟩;exact ⟨by rw [av];exact hz,_,r1.append r2,IsTupN.new _ _⟩
end
def ixN (n:Nat)(i:Int):Option Nat:=if 0≤i then (if i<n then some i.toNat else none) else if -(n:Int)≤i then some (i+n).toNat else none
def atI {α:Type}(xs:List α)(i:Int):Option α:=(ixN xs.length i).bind fun j=>xs[j]?
theorem ixN_seq {i:Int}(h:ixN n i=some j):seqIndex? i n=some j∧j<n∧ -(n:Int)≤i∧i<n:=by
 unfold ixN at h
 by_cases h0:0≤i
 ·rw [pO h0] at h
  by_cases h1:i<n
  ·rw [pO h1] at h
   have e:i.toNat=j:=bC h;exact ⟨by rw [seqIndex_of h0 h1,e],by lia,by lia,h1⟩
  ·rw [pN h1] at h;cases h
 ·rw [pN h0] at h
  by_cases h1: -(n:Int)≤i
  ·rw [pO h1] at h
   have e:(i+n).toNat=j:=bC h;exact ⟨by rw [seqIndex_neg (by lia) h1,e],by lia,h1,by lia⟩
  ·rw [pN h1] at h;cases h
theorem atI_get {xs:List α}{i:Int}{v:α}(h:atI xs i=some v):∃ j,seqIndex? i xs.length=some j∧xs[j]? =some v∧j<xs.length∧ -(xs.length:Int)≤i∧i<xs.length:=by
 unfold atI at h;cases e:ixN xs.length i with
 | none=>rw [e] at h;cases h
 | some j =>
  rw [e] at h;obtain ⟨h1,h2,h3,h4⟩:=ixN_seq e;exact ⟨j,h1,h,h2,h3,h4⟩
theorem bc {xs:List α}{v:α}(h:xs[j]? =some v):atI xs (j:Int)=some v:=by
 have hj:j<xs.length:=(ar.mp h).1;have e:ixN xs.length (j:Int)=some j:=by
  unfold ixN;rw [pO (by lia),pO (by lia)];simp
 unfold atI;rw [e];exact h
def PlainIx (b:Expr):Prop:=∀ o i,subscripted b false o i=operate [o,i] (getItem o i)
def IxR (X:Cx)(r:R2):Prop :=
 ∀ (value slice:Expr) (aJ:List (ai×Obj)) (s:ao) (σ:St) (H:Hp) (x y:V) (v u:aa) (Q:VK),Inv X aJ σ H s→RelV x v→RelV y u→r x y H Q →
  subscripted slice false v u=operate [v,u] (getItem v u)→aH (aU X.prog X.w) X.A (subscriptTail value slice v u) (EP X aJ σ Q) X.xe s
def MtR (X:Cx)(id:String)(r:V→List V→Hp→VK→Prop):Prop :=
 ∀ (aJ:List (ai×Obj)) (s:ao) (σ:St) (H:Hp) (x:V) (xs:List V) (v:aa) (us:List aa) (Q:VK),Inv X aJ σ H s→RelV x v→Vals xs us→r x xs H Q →
  aH (aU X.prog X.w) X.A (ir (.builtin id) (v::us)) (EP X aJ σ Q) X.xe s
section
variable {a b:Expr}{tb:TE}
theorem eN {r:R2}(hr:IxR X r)(ha:PE X a ta)(hb:PE X b tb)(hs:PlainIx b):PE X (.Subscript a b pos) (tOp r ta tb):=by
 intro aJ s σ H Q I h;exact Subscript_ (binT ha hb I h fun v u s2 x y H2 I2 rx ry q=>hr a b aJ s2 σ H2 x y v u Q I2 rx ry q (hs _ _))
inductive rIxL (K:au)(x:V)(y:V)(H:Hp)(Q:VK):Prop
 | mk (p xs i v:_)(_:x= .ref p)(_:y= .int i)(_:SqL K H p xs)(_:atI xs i=some v)(_:Q v H)
inductive rIxT (K:au)(x:V)(y:V)(H:Hp)(Q:VK):Prop
 | mk (p xs i v:_)(_:x= .ref p)(_:y= .int i)(_:SqT K H p xs)(_:atI xs i=some v)(_:Q v H)
theorem fc:IxR X (rIxL X.K):=by
 intro value slice aJ s σ H x y v u Q I rx ry h hs;obtain ⟨p,xs,i,z,rfl,rfl,hq,he,q⟩:=h;cases rx;obtain ⟨t,rfl⟩:=ry;obtain ⟨its,r,pl,hz⟩:=I.list hq;obtain ⟨j,h1,h2,h3,h4,h5⟩:=atI_get he;obtain ⟨w,ew,rw'⟩:=r.get h2;have hl:=r.length;have hn:=line63;have fin:EP X aJ σ Q w s:=⟨z,H,I,rw',q⟩
 by_cases h0:0≤i
 ·have hj:i.toNat=j:=by
   rw [seqIndex_of h0 h5] at h1;exact bC h1
  exact item_listR pl.isList h0 (by lia) (by rw [hj];simpa using ew) fin hs
 ·have hj:(i+(its.toArray.size:Int)).toNat=j:=by
   rw [seqIndex_neg (by lia) h4] at h1;rw [aB,←hl];exact bC h1
  exact subscriptTail_builtinR (x:=w) pl.isList.typeIs slot_list_getitem.lookup
   (wpAny_getItem_list_neg (Q:=fun r s'=>r=w∧EP X aJ σ Q r s') pl.isList (by lia) (by rw [aB] <;> lia) (by lia) (by rw [hj];simpa using ew) ⟨rfl,fin⟩) hs
theorem fu:IxR X (rIxT X.K):=by
 intro value slice aJ s σ H x y v u Q I rx ry h hs;obtain ⟨p,xs,i,z,rfl,rfl,hq,he,q⟩:=h;cases rx;obtain ⟨t,rfl⟩:=ry;obtain ⟨its,r,pl,hz⟩:=I.tuple hq;obtain ⟨j,h1,h2,h3,h4,h5⟩:=atI_get he;obtain ⟨w,ew,rw'⟩:=r.get h2;have hl:=r.length;have hn:=line63;have fin:EP X aJ σ Q w s:=⟨z,H,I,rw',q⟩;exact subscriptTail_builtinR (x:=w) pl.typeIs slot_tuple_getitem.lookup
  (getItem_tuple (j:=j) (Q:=fun r s'=>r=w∧EP X aJ σ Q r s') pl (by lia) (by lia) (by rw [aB,←hl];exact h1) (by simpa using ew) ⟨rfl,fin⟩) hs
theorem mapSeq_set (its:List aa)(n j:Nat)(u:aa):cp (·.setIfInBounds j u) { cls:= .type "list",data:= .seq its.toArray n }={ cls:= .type "list",data:= .seq (its.set j u).toArray n }:=by
 simp [cp]
theorem Inv.lst {aJ:List (ai×Obj)}{σ:St}{H:Hp}{s:ao}{p:ai}{xs:List V}(I:Inv X aJ σ H s)(h:H p=some (.lst xs)) :
  ∃ (its:List aa) (n:Nat),Vals xs its∧s.heap.get? p=some { cls:= .type "list",data:= .seq its.toArray n }∧xs.length≤aR:=by
 obtain ⟨z,its,n,r,e⟩:=I.hok p _ h;exact ⟨its,n,r,e,z⟩
theorem Inv.lstUpd {p:ai}{its':List aa}{n':Nat}{f:Obj→Obj}(I:Inv X aJ σ H s)(h:H p=some (.lst xs))
  (ho:s.heap.get? p=some { cls:= .type "list",data:= .seq its.toArray n }) (hf:f { cls:= .type "list",data:= .seq its.toArray n }={ cls:= .type "list",data:= .seq its'.toArray n' }) (r:Vals ys its') (hz:ys.length≤aR) (t:Nat) :
  Inv X aJ σ (upd H p (.lst ys)) { s with heap:=s.heap.update p f,toks:=t }:=by
 have e:(s.heap.update p f).get? p=some { cls:= .type "list",data:= .seq its'.toArray n' }:=by
  rw [d9 f ho (by rw [hf] <;> rfl),hf]
 refine I.write (x:=p) (e:=p) (by rw [h];trivial) (.inl rfl) (fun b u hb q=>(cy _ _ (cn hb)).trans q) ⟨_,e⟩ ?_;exact ⟨hz,its',n',r,e⟩
def rSetL:V→V→V→Hp→(Hp→Prop)→Prop:=fun o i v H Q=>∃ p xs k j,o= .ref p∧i= .int k∧H p=some (.lst xs)∧ixN xs.length k=some j∧Q (upd H p (.lst (xs.set j v)))
theorem lJ:PSet X rSetL:=by
 intro aJ s σ H o i v ov iv u Q I ro ri rv h;obtain ⟨p,xs,k,j,rfl,rfl,hp,hj,q⟩:=h;cases ro;obtain ⟨t,rfl⟩:=ri;obtain ⟨its,n,r,ho,hz⟩:=I.lst hp;obtain ⟨h1,h2,h3,h4⟩:=ixN_seq hj;have hl:=r.length;have hn:=line63;have I':Inv X aJ σ (upd H p (.lst (xs.set j v))) { s with heap:=s.heap.update p (cp (·.setIfInBounds j u)) } :=
  I.lstUpd hp ho (mapSeq_set its n j u) (r.set rv j) (by rw [gu];exact hz) s.toks
 by_cases h0:0≤k
 ·have hk:k.toNat=j:=by
   rw [seqIndex_of h0 h4] at h1;exact bC h1
  exact PySem.W.ki_setAt ho h0 (by lia) (by rw [aB,←hl];exact h4) (by rw [hk];exact ⟨_,I',q⟩)
 ·have hk:(k+(its.toArray.size:Int)).toNat=j:=by
   rw [seqIndex_neg (by lia) h3] at h1;rw [aB,←hl];exact bC h1
  exact PySem.W.ki_setBack ho (by lia) (by rw [aB,←hl];exact h3) (by lia) (by rw [hk];exact ⟨_,I',q⟩)
def flatV:V→Bool
 | .non=>true
 | .bl _=>true
 | .int _=>true
 | .str _=>true
 | _=>false
def eqV:V→V→Bool
 | .non,.non=>true
 | .bl a,.bl b=>a == b
 | .bl a,.int b=>(if a then 1 else 0) == b
 | .int a,.bl b=>a == (if b then 1 else 0)
 | .int a,.int b=>a == b
 | .str a,.str b=>a == b
 | _,_=>false
theorem jh {x:V}{v:aa}(ry:RelV y u)(rx:RelV x v)(fy:flatV y=true)(fx:flatV x=true):SeqAt.EqAt A s u v (eqV y x):=by
 cases y with
 | non =>
  cases ry;cases x with
  | non=>cases rx;exact SeqAt.EqAt.same _
  | bl b=>cases rx;exact SeqAt.EqAt.none_bool b
  | int b=>obtain ⟨t,rfl⟩:=rx;exact SeqAt.EqAt.none_int b t
  | str b=>obtain ⟨t,rfl⟩:=rx;exact SeqAt.EqAt.none_str b t
  | _=>exact pP (show false=true from fx) aV
 | bl a =>
  cases ry;cases x with
  | non=>cases rx;exact SeqAt.EqAt.bool_none a
  | bl b=>cases rx;exact SeqAt.EqAt.bool_bool a b
  | int b=>obtain ⟨t,rfl⟩:=rx;exact SeqAt.EqAt.bool_int a b t
  | str b=>obtain ⟨t,rfl⟩:=rx;exact SeqAt.EqAt.bool_str a b t
  | _=>exact pP (show false=true from fx) aV
 | int a =>
  obtain ⟨t',rfl⟩:=ry;cases x with
  | non=>cases rx;exact SeqAt.EqAt.int_none a t'
  | bl b=>cases rx;exact SeqAt.EqAt.int_bool a t' b
  | int b=>obtain ⟨t,rfl⟩:=rx;exact SeqAt.EqAt.int_int a t' b t
  | str b=>obtain ⟨t,rfl⟩:=rx;exact SeqAt.EqAt.int_str a t' b t
  | _=>exact pP (show false=true from fx) aV
 | str a =>
  obtain ⟨t',rfl⟩:=ry;cases x with
  | non=>cases rx;exact SeqAt.EqAt.str_none a t'
  | bl b=>cases rx;exact SeqAt.EqAt.str_bool a t' b
  | int b=>obtain ⟨t,rfl⟩:=rx;exact SeqAt.EqAt.str_int a t' b t
  | str b=>obtain ⟨t,rfl⟩:=rx;exact SeqAt.EqAt.str_str a t' b t
  | _=>exact pP (show false=true from fx) aV
 | _=>exact pP (show false=true from fy) aV
def eqU (x:V)(u:aa):Bool:=match u with
 | .none=>eqV .non x
 | .bool b=>eqV (.bl b) x
 | .int i _=>eqV (.int i) x
 | .str z _=>eqV (.str z) x
 | _=>false
theorem eqU_of {x:V}(r:RelV y u)(f:flatV y=true):eqU x u=eqV y x:=by
 cases y with
 | non=>cases r;rfl
 | bl b=>cases r;rfl
 | int i=>obtain ⟨t,rfl⟩:=r;rfl
 | str z=>obtain ⟨t,rfl⟩:=r;rfl
 | _=>exact pP (show false=true from f) aV
theorem oV {x:V}:∀ {xs:List V} {us:List aa},Vals xs us→xs.all flatV=true→us.any (eqU x)=xs.any fun y=>eqV y x
 | _,_,.nil,_=>rfl
 | y::xs,u::us,.cons r t,f=>by
  rw [List.all_cons,cS] at f;rw [jJ,jJ,eqU_of r f.1,oV t f.2]
theorem mL {A:bG}{s:ao}{x:V}{v:aa}(rx:RelV x v)(fx:flatV x=true):∀ {xs:List V} {us:List aa},Vals xs us→xs.all flatV=true→∀ u∈us,SeqAt.EqAt A s u v (eqU x u)
 | _,_,.nil,_=>fun u hu=>by cases hu
 | y::xs,u::us,.cons r t,f=>fun u' hu=>by
  rw [List.all_cons,cS] at f
  rcases aF.mp hu with rfl | hu
  ·rw [eqU_of r f.1];exact jh r rx f.1 fx
  ·exact mL rx fx t f.2 u' hu
def inV (x:V)(xs:List V):Bool:=xs.any fun y=>eqV y x
inductive rIn (K:au)(neg:Bool)(x:V)(y:V)(H:Hp)(Q:VK):Prop
 | mk (p xs:_)(_:y= .ref p)(_:(SqL K H p xs∨SqT K H p xs))(_:flatV x=true)(_:xs.all flatV=true)(_:Q (.bl (if neg then !inV x xs else inV x xs)) H)
theorem op_in_seq:OpR X (fQ .In) (rIn X.K false):=by
 intro aJ s σ H x y v u Q I rx ry h;obtain ⟨p,xs,rfl,hq,fx,fs,q⟩:=h;cases ry
 rcases hq with hq | hq
 ·obtain ⟨its,r,pl,hz⟩:=I.list hq
  refine SeqAt.in_listAt (eqU x) pl.isList (fun w hw=>mL rx fx r fs w (by simpa using hw)) ⟨.bl _,H,I,rfl,?_⟩;rw [show its.toArray.any (eqU x)=its.any (eqU x) by simp,oV r fs];exact q
 ·obtain ⟨its,r,pl,hz⟩:=I.tuple hq
  refine SeqAt.in_tupleAt (eqU x) pl (fun w hw=>mL rx fx r fs w (by simpa using hw)) ⟨.bl _,H,I,rfl,?_⟩;rw [show its.toArray.any (eqU x)=its.any (eqU x) by simp,oV r fs];exact q
theorem op_notIn_seq:OpR X (fQ .NotIn) (rIn X.K true):=by
 intro aJ s σ H x y v u Q I rx ry h;obtain ⟨p,xs,rfl,hq,fx,fs,q⟩:=h;cases ry
 rcases hq with hq | hq
 ·obtain ⟨its,r,pl,hz⟩:=I.list hq
  refine SeqAt.notIn_listAt (eqU x) pl.isList (fun w hw=>mL rx fx r fs w (by simpa using hw)) ⟨.bl _,H,I,rfl,?_⟩;rw [show its.toArray.any (eqU x)=its.any (eqU x) by simp,oV r fs];exact q
 ·obtain ⟨its,r,pl,hz⟩:=I.tuple hq
  refine SeqAt.notIn_tupleAt (eqU x) pl (fun w hw=>mL rx fx r fs w (by simpa using hw)) ⟨.bl _,H,I,rfl,?_⟩;rw [show its.toArray.any (eqU x)=its.any (eqU x) by simp,oV r fs];exact q
theorem dk:CallR X (.builtin "len") (fun xs H Q=>∃ p ys,xs=[.ref p]∧(SqL X.K H p ys∨SqT X.K H p ys)∧Q (.int ys.length) H):=by
 intro aJ s σ H xs us Q I r h;obtain ⟨p,ys,rfl,hq,q⟩:=h;obtain ⟨u,rfl,rx⟩:=vals1 r;cases rx;have hn:=line63
 rcases hq with hq | hq
 ·obtain ⟨its,r',pl,hz⟩:=I.list hq
  have hlen:=r'.length;exact Calls.call_len_list pl.isList (by simp only [aB] <;> lia) ⟨.int ys.length,H,I.tok _,⟨s.toks+1,by rw [aB,hlen]⟩,q⟩
 ·obtain ⟨its,r',pl,hz⟩:=I.tuple hq
  have hlen:=r'.length;exact len_tuple pl (by simp only [aB] <;> lia) ⟨.int ys.length,H,I.tok _,⟨s.toks+1,by rw [aB,hlen]⟩,q⟩
theorem call_list_of:CallR X (.type "list") (fun xs H Q=>∃ p ys,xs=[.ref p]∧(SqL X.K H p ys∨SqT X.K H p ys)∧∀ l,H l=none→Q (.ref l) (upd H l (.lst ys))):=by
 intro aJ s σ H xs us Q I r h;obtain ⟨p,ys,rfl,hq,q⟩:=h;obtain ⟨u,rfl,rx⟩:=vals1 r;cases rx;have fin:∀ (its:List aa),Vals ys its→ys.length≤aR→∀ (h':bw) (c':Nat),(∀ b o',s.heap.get? b=some o'→h'.get? b=some o') →
   h'.get? s.heap.objs.size=some { cls:= .type "list",dict:=none,data:= .seq its.toArray c',slots:= #[] }→EP X aJ σ Q (.ref s.heap.objs.size) { s with heap:=h' }:=fun its r' hz h' c' kp e =>
  ⟨.ref s.heap.objs.size,_,I.laid (t':=s.toks) kp (az _) (show ObjOk X.prog X.w _ h' _ (.lst ys) from ⟨hz,its,c',r',e⟩),rfl,q _ (I.hok.fresh (az _))⟩
 rcases hq with hq | hq
 ·obtain ⟨its,r',pl,hz⟩:=I.list hq
  have hlen:=r'.length;obtain ⟨o,ho,hc,n,hd⟩:=pl.isList;exact call_list_seq p (.inl rfl) ho hc hd (fun h' c' kp e=>fin its r' hz h' c' kp e) (by simp only [aB] <;> lia)
 ·obtain ⟨its,r',pl,hz⟩:=I.tuple hq
  have hlen:=r'.length;obtain ⟨o,ho,hc,n,hd⟩:=pl;exact call_list_seq p (.inr rfl) ho hc hd (fun h' c' kp e=>fin its r' hz h' c' kp e) (by simp only [aB] <;> lia)
theorem call_tuple_of:CallR X (.type "tuple") (fun xs H Q=>∃ p ys,xs=[.ref p]∧((SqL X.K H p ys∧∀ l,H l=none→Q (.ref l) (upd H l (.tup ys)))∨(SqT X.K H p ys∧Q (.ref p) H))):=by
 intro aJ s σ H xs us Q I r h;obtain ⟨p,ys,rfl,h⟩:=h;obtain ⟨u,rfl,rx⟩:=vals1 r;cases rx
 rcases h with ⟨hq,q⟩ | ⟨hq,q⟩
 ·obtain ⟨its,r',pl,hz⟩:=I.list hq
  have hlen:=r'.length;refine call_tuple_list pl.isList (fun h' kp=>?_) (by simp only [aB] <;> lia);have I1:Inv X aJ σ H { s with heap:=h' }:=I.kept (t':=s.toks) kp;have I2:Inv X aJ σ (upd H h'.objs.size (.tup ys)) { s with heap:=h'.push { cls:= .type "tuple",data:= .seq its.toArray } } :=
   I1.laid (t':=s.toks) (fun b o e=>ak _ e) (az _) (show ObjOk X.prog X.w _ _ _ (.tup ys) from ⟨hz,its,r',IsTupN.new _ _⟩)
  exact ⟨.ref h'.objs.size,_,I2,rfl,q _ (I1.hok.fresh (az _))⟩
 ·obtain ⟨its,r',pl,hz⟩:=I.tuple hq
  exact call_tuple_same pl ⟨.ref p,H,I,rfl,q⟩
def tyV (K:au)(T:String)(x:V)(H:Hp):Prop:=match x with
 | .str _=>T = "str"
 | .int _=>T = "int"
 | .ref p=>(T = "list" ∧∃ xs,SqL K H p xs)∨(T = "tuple" ∧∃ o,K.lookup p=some o∧o.cls= .type "tuple" ∧o.dict=none) ∨
   (T = "dict" ∧((∃ kvs,H p=some (.dK kvs))∨∃ kvs,H p=some (.dT kvs)))∨(T = "set" ∧∃ S n,H p=some (.set S n))
 | _=>False
theorem tyV_is {x:V}{v:aa}(I:Inv X aJ σ H s)(r:RelV x v)(ty:tyV X.K T x H) :
  s.TypeIs v T∧∀ a,v= .ref a→∃ ob,s.heap.get? a=some ob∧ob.dict=none:=by
 cases x with
 | str z =>
  obtain ⟨t,rfl⟩:=r;cases (show T = "str" from ty);exact ⟨typeIs_str s z t,fun _ e=>nomatch e⟩
 | int i =>
  obtain ⟨t,rfl⟩:=r;cases (show T = "int" from ty);exact ⟨typeIs_int s i t,fun _ e=>nomatch e⟩
 | ref p =>
  cases r
  rcases ty with ⟨rfl,xs,hq⟩ | ⟨rfl,o,hk,hc,hd⟩ | ⟨rfl,hk⟩ | ⟨rfl,S,n,hk⟩
  ·obtain ⟨its,_,pl,_⟩:=I.list hq
   refine ⟨pl.isList.typeIs,fun a e=>?_⟩;cases e;obtain ⟨o,n,e,c,hd,_⟩:=pl;exact ⟨o,e,hd⟩
  ·refine ⟨⟨o,I.kIn p o hk,hc⟩,fun a e=>?_⟩
   cases e;exact ⟨o,I.kIn _ o hk,hd⟩
  ·have z:∃ o,s.heap.get? p=some o∧o.ExactDict:=by
    rcases hk with ⟨kvs,hk⟩ | ⟨kvs,hk⟩
    ·obtain ⟨_,_,_,_,o,_,_,e,ex,_⟩:=I.hok p _ hk
     exact ⟨o,e,ex⟩
    ·obtain ⟨_,_,_,_,o,_,_,e,ex,_⟩:=I.hok p _ hk
     exact ⟨o,e,ex⟩
   obtain ⟨o,e,ex⟩:=z;refine ⟨⟨o,e,ex.1⟩,fun a e2=>?_⟩;cases e2;exact ⟨o,e,ex.2.1⟩
  ·obtain ⟨o,_,_,_,e,ex,_⟩:=I.hok p _ hk
   refine ⟨⟨o,e,ex.1⟩,fun a e2=>?_⟩;cases e2;exact ⟨o,e,ex.2.1⟩
 | _=>exact cI ty
def tBM0 (K:au)(T:String)(r:V→List V→Hp→VK→Prop)(to:TE):TE:=fun σ H Q=>to σ H fun x H1=>tyV K T x H1∧r x [] H1 Q
def tBM (K:au)(T:String)(r:V→List V→Hp→VK→Prop)(to:TE)(t:TA):TE:=fun σ H Q=>to σ H fun x H1=>tyV K T x H1∧t σ H1 fun xs H2=>r x xs H2 Q
variable {o:Expr}{cpos:Pos}{id:String}
theorem pe_bm0 (pa:PlainAttrs T)(slot:Slot T name id)(hty:typeOf (.builtin id)=eQ (.type "method_descriptor"))(hm:MtR X id r)(ho:PE X o to)
  (hbase:gT o name X.env (dg o X.env)=dg o X.env:=by rfl) (hline:(apos.endLine == cpos.line)=true:=by rfl):PE X (.Call (.Attribute o name apos) [] [] cpos) (tBM0 X.K T r to):=by
 intro aJ s σ H Q I h;refine wpAny_Call_method0_late hbase hline (thn (ho aJ s σ H _ I h) fun v s1 ⟨x,H1,I1,r1,ty,q1⟩=>?_);obtain ⟨h1,h2⟩:=tyV_is I1 r1 ty;exact ⟨T,id,pa,slot,hty,h1,h2,i5 rfl (PySem.evalArgs_none (hm aJ s1 σ H1 x [] v [] Q I1 r1 .nil q1))⟩
theorem oH (pa:PlainAttrs T)(slot:Slot T name id)(hty:typeOf (.builtin id)=eQ (.type "method_descriptor"))(hm:MtR X id r)(ho:PE X o to)(ha:PA X (e::es) t)
  (hbase:gT o name X.env (dg o X.env)=dg o X.env:=by rfl)
  (hfew:((dM cpos (bb (e::es) X.env)).all (fun x=> !x.1) && (backToKw cpos (keywordEach [] X.env)).all (fun x=>x.1.isSome)
   && decide ((e::es).length+([]:List Keyword).length+(if ([]:List Keyword).isEmpty then 0 else 1)<30))=true:=by rfl)
  (hline:(apos.endLine == cpos.line)=true:=by rfl) (hs:bb (e::es) X.env=(false,dg e X.env)::bb es X.env:=by rfl) (hplain:(dM cpos (bb es X.env)).any (·.1)=false:=by rfl) :
  PE X (.Call (.Attribute o name apos) (e::es) [] cpos) (tBM X.K T r to t):=by
 intro aJ s σ H Q I h;refine wpAny_Call_method_late hbase hfew hline rfl (thn (ho aJ s σ H _ I h) fun v s1 ⟨x,H1,I1,r1,ty,q1⟩=>?_);obtain ⟨h1,h2⟩:=tyV_is I1 r1 ty;refine ⟨T,id,pa,slot,hty,h1,h2,?_⟩;have hA:=ha cpos aJ s1 σ H1 _ I1 q1;rw [hs] at hA ⊢;refine i5 (by show (false || (dM cpos (bb es X.env)).any (·.1))=false;rw [hplain] <;> rfl) (Calls.evalArgs_plain ?_);exact thn hA fun us s2 ⟨vs,H2,I2,r2,q2⟩=>hm aJ s2 σ H2 x vs v us Q I2 r1 r2 q2
end
def MtM (X:Cx)(id:String)(r:V→List V→Hp→VK→Prop):Prop :=
 ∀ (aJ:List (ai×Obj)) (s:ao) (σ:St) (H:Hp) (x:V) (xs:List V) (v:aa) (us:List aa) (Q:VK),Inv X aJ σ H s→RelV x v→Vals xs us→r x xs H Q →
  aH (aU X.prog X.w) X.A (ir (.builtin id) (v::us)) (EP X aJ σ Q) X.xe s
theorem Vals.one:∀ {x:V} {us:List aa},Vals [x] us→∃ u,us=[u]∧RelV x u
 | _,_,.cons r .nil=>⟨_,rfl,r⟩
theorem Vals.zero:∀ {us:List aa},Vals [] us→us=[]
 | _,.nil=>rfl
theorem Vals.dropLast (h:Vals xs us):Vals xs.dropLast us.dropLast:=by
 induction h with
 | nil=>exact .nil
 | cons r t ih =>
  cases t with
  | nil=>exact .nil
  | cons q t'=>exact .cons r ih
theorem Vals.rep {xs:List V}{us:List aa}(h:Vals xs us):∀ k:Nat,Vals (bF k xs).flatten (bF k us).flatten
 | 0=> .nil
 | k+1=>by
  rw [iB,iB,List.flatten_cons,List.flatten_cons];exact Vals.append h (Vals.rep h k)
theorem erase_last (l:List α):l.eraseIdx (l.length - 1)=l.dropLast:=by
 induction l with
 | nil=>rfl
 | cons a r ih =>
  cases r with
  | nil=>rfl
  | cons b r =>
   have e:(a::b::r).length - 1=((b::r).length - 1)+1:=by
    have h1:(a::b::r).length=r.length+2:=rfl;have h2:(b::r).length=r.length+1:=rfl;lia
   rw [e,List.eraseIdx_cons_succ,ih]
   all_goals rfl
theorem foldl_rep (its:List aa):∀ (k:Nat) (acc:List aa),
  List.foldl (fun x1 x2=>x1++x2) acc.toArray (bF k its.toArray)=(acc++(bF k its).flatten).toArray
 | 0,acc=>by simp
 | k+1,acc=>by
  have e:acc.toArray++its.toArray=(acc++its).toArray:=by simp
  have e2:(acc++its)++(bF k its).flatten=acc++(bF (k+1) its).flatten:=by
   rw [iB,List.flatten_cons,List.append_assoc]
  rw [←e2,←foldl_rep its k (acc++its),←e,iB,bP]
section
variable {l b:ai}
theorem Inv.lset {its':List aa}{f:Array aa→Array aa}(I:Inv X aJ σ H s)(hH:H l=some (.lst xs))
  (e:s.heap.get? l=some { cls:= .type "list",data:= .seq its.toArray n }) (hf:f its.toArray=its'.toArray) (hv:Vals ys its') (hz:ys.length≤aR) :
  Inv X aJ σ (upd H l (.lst ys)) { s with heap:=s.heap.update l (cp f),toks:=t' }:=by
 have q:=PySem.IsL.update e f;rw [hf] at q;refine I.write (x:=l) (e:=l) (by rw [hH];exact trivial) (.inl rfl) (fun b' u hb hu=>(cy s.heap (cp f) (cn hb)).trans hu) ⟨_,q⟩ ?_;exact ⟨hz,its',_,hv,q⟩
theorem Inv.lnew (I:Inv X aJ σ H s)(hv:Vals ys its)(hz:ys.length≤aR) :
  Inv X aJ σ (upd H s.heap.objs.size (.lst ys)) { s with heap:=s.heap.push { cls:= .type "list",data:= .seq its.toArray },toks:=t' } :=
 I.laid (fun _ _ q=>ak _ q) (az _) ⟨hz,its,0,hv,aN _ rfl⟩
theorem Inv.fresh (I:Inv X aJ σ H s):H s.heap.objs.size=none:=I.hok.fresh (az _)
theorem Inv.lstM (I:Inv X aJ σ H s)(hH:H l=some (.lst xs)):xs.length≤aR∧∃ (its:List aa) (n:Nat),Vals xs its∧xs.length=its.length∧s.heap.get? l=some { cls:= .type "list",data:= .seq its.toArray n }:=by
 obtain ⟨z,its,n,r,e⟩:=I.hok l _ hH;exact ⟨z,its,n,r,r.length,e⟩
theorem notLongL (h:n≤aR):gO n=false:=by
 unfold gO;exact pR (by lia)
end
inductive rAppend (x:V)(vs:List V)(H:Hp)(Q:VK):Prop
 | mk (l xs y:_)(_:x= .ref l)(_:vs=[y])(_:H l=some (.lst xs))(_:xs.length<aR)(_:Q .non (upd H l (.lst (xs++[y]))))
theorem iL:MtM X "list.append" rAppend:=by
 intro aJ s σ H x vs v us Q I rx rv h;obtain ⟨l,xs,y,rfl,rfl,hH,hz,q⟩:=h;cases rx;obtain ⟨u,rfl,ru⟩:=rv.one;obtain ⟨z,its,n,r,hl,e⟩:=I.lstM hH;refine call_meets F.slot_list_append ⟨_,e,rfl⟩ F.entry_list_append (F.args_list_append_2 _ _) (PySem.list_append l its.toArray n u (by rw [aB];lia)) ⟨e,?_⟩;refine ⟨.non,_,I.lset (its':=its++[u]) hH e (by simp) (r.append (.cons ru .nil)) ?_,rfl,q⟩;rw [av,cu];lia
inductive rExtend (x:V)(vs:List V)(H:Hp)(Q:VK):Prop
 | mk (l b xs zs:_)(_:x= .ref l)(_:vs=[.ref b])(_:H l=some (.lst xs))(_:H b=some (.lst zs))(_:xs.length+zs.length≤aR)(_:Q .non (upd H l (.lst (xs++zs))))
theorem mt_extend:MtM X "list.extend" rExtend:=by
 intro aJ s σ H x vs v us Q I rx rv h;obtain ⟨l,b,xs,zs,rfl,rfl,hH,hB,hz,q⟩:=h;cases rx;obtain ⟨u,rfl,ru⟩:=rv.one;cases ru;obtain ⟨z,its,n,r,hl,e⟩:=I.lstM hH;obtain ⟨z2,its2,n2,r2,hl2,e2⟩:=I.lstM hB;have hsz:its.toArray.size+its2.toArray.size≤aR:=by rw [aB,aB];lia
 have hlong:¬ (!its.toArray.isEmpty && gO (its.toArray.size+its2.toArray.size))=true:=by
  rw [notLongL hsz,Bool.and_false];exact aV
 refine call_meets F.slot_list_extend ⟨_,e,rfl⟩ F.entry_list_extend (F.args_list_extend_2 _ _)
  (AutoSeq1.list_extend_list_list_0 l its.toArray n b its2.toArray n2 hlong (by rw [aB];lia) (by lia)) ⟨e,e2,?_⟩
 refine ⟨.non,_,I.lset (its':=its++its2) hH e (by simp) (r.append r2) ?_,rfl,q⟩;rw [av];lia
inductive rPop (x:V)(vs:List V)(H:Hp)(Q:VK):Prop
 | mk (l xs y:_)(_:x= .ref l)(_:vs=[])(_:H l=some (.lst xs))(_:xs[xs.length - 1]? =some y)(_:Q y (upd H l (.lst xs.dropLast)))
theorem mt_pop:MtM X "list.pop" rPop:=by
 intro aJ s σ H x vs v us Q I rx rv h;obtain ⟨l,xs,y,rfl,rfl,hH,hy,q⟩:=h;cases rx;have hus:=rv.zero;subst hus;obtain ⟨z,its,n,r,hl,e⟩:=I.lstM hH;obtain ⟨u,hu,ru⟩:=r.get hy;have hy':its.toArray[its.toArray.size - 1]? =some u:=by
  show its.toArray[its.length - 1]? =some u;rw [←gC,←hl];exact hu
 refine call_meets F.slot_list_pop ⟨_,e,rfl⟩ F.entry_list_pop (F.args_list_pop_1 _) (MeetsSeq.list_pop_last l its.toArray n u hy' (by rw [aB];lia)) ⟨e,?_⟩;refine ⟨y,_,I.lset (its':=its.dropLast) hH e ?_ r.dropLast ?_,ru,q⟩
 ·show its.toArray.eraseIdxIfInBounds (its.toArray.size - 1)=its.dropLast.toArray
  rw [aB,List.eraseIdxIfInBounds_toArray,erase_last]
 ·rw [List.length_dropLast]
  lia
inductive rCat (x:V)(y:V)(H:Hp)(Q:VK):Prop
 | mk (l b xs zs:_)(_:x= .ref l)(_:y= .ref b)(_:H l=some (.lst xs))(_:H b=some (.lst zs))(_:xs.length+zs.length≤aR)(_:∀ p,H p=none→Q (.ref p) (upd H p (.lst (xs++zs))))
theorem op_cat:OpR X (fX .Add) rCat:=by
 intro aJ s σ H x y v u Q I rx ry h;obtain ⟨l,b,xs,zs,rfl,rfl,hH,hB,hz,q⟩:=h;cases rx;cases ry;obtain ⟨z,its,n,r,hl,e⟩:=I.lstM hH;obtain ⟨z2,its2,n2,r2,hl2,e2⟩:=I.lstM hB;refine PySem.P.add_list e e2 ?_ (by rw [aB,aB];lia);have ea:its.toArray++its2.toArray=(its++its2).toArray:=by simp
 rw [ea];exact ⟨.ref _,_,I.lnew (t':=s.toks) (r.append r2) (by rw [av];lia),rfl,q _ I.fresh⟩
inductive rRep (x:V)(y:V)(H:Hp)(Q:VK):Prop
 | mk (l k xs:_)(_:x= .ref l)(_:y= .int k)(_:H l=some (.lst xs))(_: -(2 ^ 63)≤k)(_:k<2 ^ 63)(_:xs.length * k.toNat≤aR)(_:∀ p,H p=none→Q (.ref p) (upd H p (.lst (bF k.toNat xs).flatten)))
theorem len_rep (xs:List α)(k:Nat):(bF k xs).flatten.length=k * xs.length:=by
 induction k with
 | zero=>simp
 | succ k ih=>rw [iB,List.flatten_cons,av,ih,Nat.succ_mul,Nat.add_comm]
theorem op_rep:OpR X (fX .Mult) rRep:=by
 intro aJ s σ H x y v u Q I rx ry h;obtain ⟨l,k,xs,rfl,rfl,hH,h1,h2,hz,q⟩:=h;cases rx;obtain ⟨t,rfl⟩:=ry;obtain ⟨z,its,n,r,hl,e⟩:=I.lstM hH;have hlen:its.toArray.size * k.toNat≤aR:=by rw [aB,←hl];exact hz
 have hcap:¬ its.toArray.size * k.toNat > (2 ^ 63 - 1) / 8:=by
  have:(aR:Nat)≤(2 ^ 63 - 1) / 8:=by decide
  lia
 have hfit:¬ (!Builtin.List.listFitsIndex k)=true:=by
  rw [fitsIndex_both h1 h2];exact aV
 have hlong:¬ gO (its.toArray.size * k.toNat)=true:=by
  rw [notLongL hlen];exact aV
 have hnew:List.foldl (fun x1 x2=>x1++x2) #[] (bF (if its.toArray.isEmpty=true then 0 else k.toNat) its.toArray)=(bF k.toNat its).flatten.toArray:=by
  have f0:∀ m:Nat,List.foldl (fun x1 x2=>x1++x2) #[] (bF m its.toArray)=(bF m its).flatten.toArray:=fun m=>by
   have:=foldl_rep its m [];rw [List.nil_append] at this;exact this
  rw [f0];cases its with
  | nil=>simp
  | cons a r'=>rw [pN (by simp)]
 refine wpAny_binaryOp_repeat_ref (T := "list") (U := "int") (by decide) ⟨_,e,rfl⟩ (fun s'=>typeIs_int s' k t) noFill_list_mul F.fills_int_mul F.slot_int_rmul repeat_list F.slot_int_index.lookup
  (call_meets F.slot_int_rmul (typeIs_int s k t) F.entry_int_rmul (F.args_int_rmul_2 _ _) (int___rmul___int_list k t l its.toArray n)
   ⟨e,rfl,⟨_,e,rfl⟩,call_meets F.slot_list_mul ⟨_,e,rfl⟩ F.entry_list_mul (F.args_list_mul_2 _ _) (AutoListH.list___mul___list_int_3 l its.toArray n k t hfit hcap hlong) ⟨e,?_⟩⟩)
 rw [hnew];exact ⟨.ref _,_,I.lnew (t':=s.toks) (r.rep k.toNat) (by rw [len_rep,Nat.mul_comm];exact hz),rfl,q _ I.fresh⟩
end L2
namespace Att
open PySem PySem.W PySem.Calls PyProof.Rows
theorem oN {P:Params}:∀ (ns:List Int) (vs:List aa),WellAll P h vs (ns.map WData.int)→IntsAre vs ns:=by
 intro ns
 induction ns with
 | nil =>
  intro vs w;rw [List.map_nil] at w;cases w;exact .nil
 | cons n ns ih =>
  intro vs w;rw [cg] at w;cases w with
  | cons a b =>
   cases a;exact .cons _ _ (ih _ b)
theorem script_of {l:OpenLaw}(hn:l.most=some n){P:Params}{args:List WData}{vals:List aa}
  (hpre:l.row.toRowW.claim.pre args=true) (hwl:WellAll P h vals args) :
  ∃ a vs ns,vals=[aa.ref a]∧args=[WData.list (ns.map WData.int)]∧h.get? a=some { cls:= .type "list",data:= .seq vs.toArray }∧IntsAre vs ns∧ns.length≤n:=by
 have hsh:WShape.hasAll [] args [.list .int]=true:=(pre_splitW hpre).1;have hc:l.pre.holds [] { args:=args }=true:=(pre_splitW hpre).2;obtain ⟨d,r,rfl,h1,h2⟩:=hasAllW_cons hsh;obtain rfl:=hasAllW_nil h2;obtain ⟨xs,rfl,h3⟩:=hasW_list h1;obtain ⟨ns,rfl⟩:=items_int h3;have hlen:ns.length≤n:=by
  unfold OpenLaw.pre at hc;have h4:(WTm.not (.lt (.lit (.int (n:Int))) (.len (.arg 0)))).holds [] { args:=[.list (ns.map .int)] }=true:=by
   have h4:=(holds_andW hc).1;rw [hn] at h4;exact h4
  have h5:=condW_of h4 (w_not (w_lt w_lit (w_len_list (w_arg rfl))));rw [af] at h5;refine Nat.le_of_not_lt fun q=>?_
  have q':(n:Int)<((ns.length:Nat):Int):=by lia
  first
   | (rw [pQ q'] at h5;exact pP h5 (by decide))
   | (simp at h5;lia)
 cases hwl with
 | cons w1 w2 =>
  cases w2;cases w1 with
  | list ho hall=>exact ⟨_,_,ns,rfl,rfl,ho,oN ns _ hall,hlen⟩
theorem post_true (l:OpenLaw)(args:List WData):l.row.toRowW.claim.post args (.bool true) args=true :=
 postW_of (r:=l.row.toRowW) (X:=(true == true))
  (show WShape.has [] (.bool true) .bool=true by first | rfl | decide | simp [WShape.has,WShape.arms,WShape.armsAll])
  (show (WTm.eq .res (.lit (.bool true))).value [] { args:=args,res:=some (.bool true),after:=args }=some (.bool (true == true)) from w_eq_bool (w_res rfl) w_lit) rfl
theorem attach_call {l:OpenLaw}{q:aQ}{d:DefRec}
  (hn:l.most=some n) (hdf:d.params.defaults=[])
  (ir:∀ (w:bq) (s₀ s₁:ao) (mg mb:Str→Option aa) (fa:ai) (o:Obj) (pm cd doc:aa) (a:ai) (vs:List aa) (ns:List Int),
   Ground q loose [] XP w s₀ mg mb s₁.heap→YP w s₁.heap →
   s₁.heap.get? fa=some o→o.data= .func (docDef d.name d.params d.body d.scope pm cd doc)→s₁.heap.CodeRec cd d.name→mg d.name=some (.ref fa) →
   s₁.heap.get? a=some { cls:= .type "list",data:= .seq vs.toArray }→IntsAre vs ns→ns.length≤n→s₁.gens= #[] →
   hV (aU l.prog w) callerA (.call (.ref fa) ⟨[.ref a],[]⟩) (fun r s'=>r= .ok (.ret (.bool true))∧OldK s₁.heap s'.heap∧s'.os=s₁.os∧AllBare s'.gens) s₁) :
  WalkO q loose XP YP l.row.toRowW d [] (fun f vs=>PySem.call f vs):=by
 intro w s₀ s₁ mg mb G Y fa o pm cd doc dV kV ho hd hcd hD hmg hg args vals as hpre hlay hrd hwl hlo;obtain rfl:dV= .none:=Dflts.none hD hdf;obtain rfl:kV= .none:=Dflts.noKw hD;obtain ⟨a,vs,ns,rfl,rfl,hobj,hints,hlen⟩:=script_of hn hpre hwl;refine enter_call (jF (ir w s₀ s₁ mg mb fa o pm cd doc a vs ns G Y ho (fd_plain hd) hcd hmg hobj hints hlen hg) fun r s' hq=>?_);obtain ⟨rfl,h2,h3,h4⟩:=hq;exact ⟨.inl ⟨.bool true,.bool true,[],rfl,fun _=>rfl,.bool true,post_true l _,fun _=>⟨List.Pairwise.nil,fun _ hm=>(nomatch hm)⟩⟩,h2,h3,h4⟩
end Att
namespace L2
open PySem PySem.Spec PyProof.Rows
theorem nW:∀ {vs:List aa} {ns:List Int},IntsAre vs ns→Vals (ns.map V.int) vs
 | _,_,.nil=> .nil
 | _,_,.cons n t h=> .cons ⟨t,rfl⟩ (nW h)
abbrev CX0:CXT:=fun _ _ _ _ _ _=>False
abbrev E0:XK:=fun _ _ _=>False
theorem pass0:lH CX0 X E0:=fun _ _ _ _ _ _ _ h=>h.elim
structure Fun (K:au)(x qual:Str)(st:cG)(f:ai)(fd:bf):Prop where
 ex:∃ (oc:aa) (od:Option ai) (kV doc pm:aa) (an:Option ai) (cdv ct:aa) (osl:Array (Option aa)),
  fd=cK x qual (iq st) (fJ st) (defScope st) .none kV doc pm an cdv ct∧K.lookup f=some ⟨oc,od,.func fd,osl⟩∧fM K cdv qual=true
 kp:cW K (.ref f)=true
theorem Fun.ok {k:Nat}{sp:Sp}(F:Fun K x qual st f fd)(S:cj N ps (defScope st))(len:∀ vs H Q E,sp vs H Q E→vs.length=ps.length)
  (hbody:∀ (cdv:aa) (A:bG) (outer:List Env) (s:ao) (H:Hp) (vs:List V) (Q:VK) (E:XK),Room k (A.deeper (envOfC qual (defScope st) s.heap.objs.size f cdv))→sp vs H Q E →
   ∃ t,PSs (cxOf CX0 P w K mg base N qual (defScope st) f cdv A outer s H E).nox (fJ st) t∧t { nx:=fun _ H'=>Q .non H',rt:=Q } (start N vs) H):FnOk P w K mg base CX0 (k+1) f fd ps sp:=by
 obtain ⟨oc,od,kV,doc,pm,an,cdv,ct,osl,rfl,lk,hcd⟩:=F.ex;refine fn_of lk hcd S len fun A outer s H vs Q E hr hsp=>?_
 obtain ⟨t,h,q⟩:=hbody cdv A outer s H vs Q E hr hsp;exact ⟨t,h.nox,q⟩
theorem Fun.binds (F:Fun K x qual st f fd)
  (h:∀ (kV doc pm:aa) (an:Option ai) (cdv ct:aa) (us:List aa),us.length=ps.length→bindArgs (cK x qual (iq st) (fJ st) (defScope st) .none kV doc pm an cdv ct) ⟨us,[]⟩=eQ (ps.zip us)):Binds K fd ps []:=by
 obtain ⟨oc,od,kV,doc,pm,an,cdv,ct,osl,rfl,lk,hcd⟩:=F.ex;exact .all (h kV doc pm an cdv ct)
theorem lW {oc:aa}{od an:Option ai}{kV doc pm cdv ct:aa}(l:K.lookup f=some ⟨oc,od,.func (cK x qual (iq st) (fJ st) (defScope st) .none kV doc pm an cdv ct),osl⟩)
  (c:fM K cdv qual=true) (k:cW K (.ref f)=true):Fun K x qual st f (cK x qual (iq st) (fJ st) (defScope st) .none kV doc pm an cdv ct):=⟨⟨oc,od,kV,doc,pm,an,cdv,ct,osl,rfl,l,c⟩,k⟩
theorem mG (h:n≤1000):n<aR:=bU h (by decide)
theorem pv (i:Nat)(hN:X.N[i]? =some x:=by rfl)(hv:Vis X.env.scope x:=by first | exact Or.inl rfl | exact Or.inr (Or.inl rfl) | exact Or.inr (Or.inr rfl))(hd:(x == ("__debug__" :Str))=false:=by decide)
  (hcd:(x == ("__classdict__" :Str))=false:=by decide):PE X (.Name x pos) (tVar i):=pe_var hN hv hd hcd
theorem iteF {A B:Prop}(h:B):if false=true then A else B:=by
 rw [pN aV];exact h
theorem iteT {A B:Prop}(h:A):if true=true then A else B:=by
 rw [pO rfl];exact h
theorem ite2 {c A B:Prop}[Decidable c](h1:c→A)(h2:¬ c→B):if c then A else B:=by
 by_cases h:c
 ·rw [pO h]
  exact h1 h
 ·rw [pN h]
  exact h2 h
def Same (H H':Hp):Prop:=∀ b o,H b=some o→H' b=some o
theorem Same.refl (H:Hp):Same H H:=fun _ _ h=>h
theorem Same.trans (a:Same H H1)(b:Same H1 H2):Same H H2:=fun c o h=>b c o (a c o h)
theorem Same.free (e:Same H H'){l:ai}(h:H' l=Option.none):H l=Option.none:=by
 cases q:H l with
 | none=>rfl
 | some o =>
  rw [e l o q] at h;cases h
theorem op_fdivB:OpR X (fX .FloorDiv) (rI (fun _ j=>0<j∧j.natAbs.log2<9000) fun i j=> .int (i / j)):=opI fun i j _ _ _ _ _ hc q=>by
 have e:i.fdiv j=i / j:=Int.fdiv_eq_ediv_of_nonneg i (Int.le_of_lt hc.1);refine floordiv_int (by have:=hc.1;lia) ?_ (.inl (PyProof.noPylong_of_log2 hc.2));rw [e];exact q
theorem op_eqL0 (hu:X.A.units<cLine):OpR X (fQ .Eq) (fun x y H Q=>∃ a b xs,x= .ref a∧y= .ref b∧SqL X.K H a xs∧SqL X.K H b []∧Q (.bl xs.isEmpty) H):=by
 intro aJ s σ H x y v u Q I rx ry h;obtain ⟨a,b,xs,rfl,rfl,ha,hb,q⟩:=h;cases (show v=aa.ref a from rx);cases (show u=aa.ref b from ry);obtain ⟨its,r1,p1,_⟩:=I.list ha;obtain ⟨its2,r2,p2,_⟩:=I.list hb;cases r2;cases r1 with
 | nil=>exact SeqAt.eq_listAt (e:=fun _=>true) p1.isList p2.isList rfl hu (fun j h1 _=>pP h1 (by simp)) (eI I q (by simp))
 | cons _ _=>exact SeqAt.eq_list_lengthsAt p1.isList p2.isList (by simp) hu (eI I q (by simp))
def tyn (H:Hp):V→Option String
 | .non=>some "NoneType"
 | .bl _=>some "bool"
 | .int _=>some "int"
 | .str _=>some "str"
 | .ref a=>match H a with
  | some (.lst _)=>some "list"
  | some (.tup _)=>some "tuple"
  | some (.dK _)=>some "dict"
  | _=>none
 | _=>none
theorem TyOf.byName (h:tyn H v=some T):TyOf K H v (.type T):=by
 cases v with
 | non=>cases h;exact .non
 | bl b=>cases h;exact .bl b
 | int i=>cases h;exact .int i
 | str x=>cases h;exact .str x
 | ref a =>
  simp only [tyn] at h;cases e:H a with
  | none=>rw [e] at h;cases h
  | some o =>
   rw [e] at h;cases o <;> first | (cases h;first | exact .lst e | exact .tup e | exact .dK e) | cases h
 | _=>cases h
theorem kit_tuple (K:au)(h:T∈["NoneType","bool","int","str","list","tuple","dict"]):eZ K (.type T) (.type "tuple")=some (T == "tuple"):=by
 simp only [aF,cR,or_false] at h
 rcases h with rfl | rfl | rfl | rfl | rfl | rfl | rfl <;> kernel_rfl
theorem tyn_mem (h:tyn H v=some T):T∈["NoneType","bool","int","str","list","tuple","dict"]:=by
 cases v with
 | non=>cases h;simp
 | bl b=>cases h;simp
 | int i=>cases h;simp
 | str x=>cases h;simp
 | ref a =>
  simp only [tyn] at h;cases e:H a with
  | none=>rw [e] at h;cases h
  | some o =>
   rw [e] at h;cases o <;> first | (cases h;simp;done) | cases h
 | _=>cases h
theorem call_isinst:CallR X (.builtin "isinstance") (fun xs H Q=>∃ x n t b,xs=[x,.ty n]∧TyOf X.K H x t∧eZ X.K t (.type n)=some b∧Q (.bl b) H):=by
 intro aJ s σ H xs us Q I r h;obtain ⟨x,n,t,b,rfl,ty,e,q⟩:=h;obtain ⟨u,w',rfl,ru,rw'⟩:=vals2 r;cases (show w'=aa.type n from rw');exact isinst_ok I ru ty e fun tk=>⟨.bl b,H,I.tok tk,rfl,q⟩
theorem call_isTup:CallR X (.builtin "isinstance") (fun xs H Q=>∃ x T,xs=[x,.ty "tuple"]∧tyn H x=some T∧Q (.bl (T == "tuple")) H) :=
 fun aJ s σ H xs us Q I r ⟨x,T,e,hT,q⟩=>call_isinst aJ s σ H xs us Q I r ⟨x,_,_,_,e,.byName hT,kit_tuple _ (tyn_mem hT),q⟩
inductive rCatA (K:au)(x:V)(y:V)(H:Hp)(Q:VK):Prop
 | mk (a b xs ys:_)(_:x= .ref a)(_:y= .ref b)(_:H a=some (.tup xs))(_:H b=some (.tup ys))(_:xs.length+ys.length≤aR)(_:∀ p H',Same H H'→H' p=some (.tup (xs++ys))→Q (.ref p) H')
theorem op_catA:OpR X (fX .Add) (rCatA X.K):=by
 intro aJ s σ H x y v u Q I rx ry h;obtain ⟨a,b,xs,ys,rfl,rfl,ha,hb,hz,q⟩:=h;cases xs with
 | cons x xs =>
  refine op_catT aJ s σ H (.ref a) (.ref b) v u Q I rx ry ⟨a,b,_,ys,rfl,rfl,SqT.of ha,SqT.of hb,(by simp),hz,fun e=>?_,fun _ p hp=>?_⟩
  ·subst e
   exact q a H (Same.refl H) (by rw [cP];exact ha)
  ·exact q p _ (fun c o e=>by rw [aZ (bB e hp)];exact e) aW
 | nil =>
  cases (show v=aa.ref a from rx);cases (show u=aa.ref b from ry);obtain ⟨its,r1,p1,_⟩:=I.tuple (SqT.of (K:=X.K) ha);obtain ⟨its2,r2,p2,_⟩:=I.tuple (SqT.of (K:=X.K) hb);cases r1;obtain ⟨⟨c1,d1,t1,l1⟩,o1,k1,n1,g1⟩:=id p1;obtain ⟨⟨c2,d2,t2,l2⟩,o2,k2,n2,g2⟩:=id p2;simp only at k1 g1 k2 g2;subst k1 g1 k2 g2;exact concat_meets ⟨_,o1,rfl⟩ ⟨_,o2,rfl⟩ noFill_tuple_add seq_tuple_add PySem.F.slot_tuple_add kL (kq _ _)
   (tuple_addW0 a b _ its2.toArray n1 n2 d1 d2 l1 l2 (by simp)) ⟨o1,o2,⟨.ref b,H,I,rfl,q b H (Same.refl H) hb⟩⟩
def fP (X:Cx)(scope:gc)(cl:List (Str×ai))(C:ai)(N:List Str)(s:ao)(H:Hp)(ex:List ai):Cx :=
 { X with N:=N,s₀:=s,H₀:=H,env:=compEnvC scope cl C X.env,outer:=X.stack,ex:=ex,fn:=fun _=>false,pn:=[],xe:=fun _ _=>False }
theorem mq (hf:∀ y∈scope.names,y.2= .free→∃ c,env.cells.lookup y.1=some c) :
  ∃ cl,closureFor scope env=eQ cl∧(∀ x c,cl.lookup x=some c→env.cells.lookup x=some c)∧∀ y∈scope.names,y.2= .free→cl.lookup y.1=env.cells.lookup y.1:=by
 have aux:∀ (names:List (Str×cE)) (acc:List (Str×ai)),(∀ y∈names,y.2= .free→∃ c,env.cells.lookup y.1=some c)→(∀ x c,acc.lookup x=some c→env.cells.lookup x=some c) →
   ∃ cl,(forIn names acc fun x r=>match x with
     | (name,kind)=>if (kind == cE.free)=true then (cellOf env name >>= fun c=>eQ (ForInStep.yield ((name,c)::r))) else eQ (ForInStep.yield r):Sem (List (Str×ai)))=eQ cl ∧
    (∀ x c,cl.lookup x=some c→env.cells.lookup x=some c)∧(∀ x c,acc.lookup x=some c→cl.lookup x=some c)∧∀ y∈names,y.2= .free→cl.lookup y.1=env.cells.lookup y.1:=by
  intro names
  induction names with
  | nil=>intro acc _ ha;exact ⟨acc,rfl,ha,fun _ _ e=>e,fun y hy=>pP hy (by simp)⟩
  | cons z r ih =>
   intro acc hn ha;obtain ⟨n,k⟩:=z;have hr:∀ y∈r,y.2= .free→∃ c,env.cells.lookup y.1=some c:=fun y hy=>hn y (aD _ hy)
   by_cases hk:k= .free
   ·subst hk
    obtain ⟨c,hc⟩:=hn (n,.free) aX rfl;have hc:env.cells.lookup n=some c:=hc;have ha':∀ x d,((n,c)::acc).lookup x=some d→env.cells.lookup x=some d:=fun x d e=>by
     rw [dm] at e;cases hx:x == n with
     | true =>
      rw [hx] at e;have e':c=d:=bC e;have ex:x=n:=eq_of_beq hx;rw [ex,←e'];exact hc
     | false=>rw [hx] at e;exact ha x d e
    obtain ⟨cl,e1,e2,e3,e4⟩:=ih ((n,c)::acc) hr ha';have iH:cellOf env n=eQ c:=by unfold cellOf;rw [hc]
    refine ⟨cl,?_,e2,fun x d e=>?_,fun y hy hy2=>?_⟩
    ·rw [List.forIn_cons]
     show ((if (cE.free == cE.free)=true then (cellOf env n >>= fun c=>eQ (ForInStep.yield ((n,c)::acc))) else eQ (ForInStep.yield acc)) >>= _)=_;rw [pO (by decide:(cE.free == cE.free)=true),iH];exact e1
    ·have h1:((n,c)::acc).lookup x=some (if x == n then c else d):=by
      rw [dm];cases hx:x == n with
      | true=>rfl
      | false=>exact e
     have h2:=e3 x _ h1;have h3:=e2 x _ h2;have h4:=ha x d e;rw [h3] at h4;rw [h2];exact h4
    ·rcases aF.mp hy with rfl | hy3
     ·have h1:((n,c)::acc).lookup n=some c:=by rw [dm,beq_self_eq_true]
      show cl.lookup n=_;rw [e3 n c h1,hc]
     ·exact e4 y hy3 hy2
   ·have hb:(k == cE.free)=false:=by simpa using hk
    obtain ⟨cl,e1,e2,e3,e4⟩:=ih acc hr ha;refine ⟨cl,?_,e2,e3,fun y hy hy2=>?_⟩
    ·rw [List.forIn_cons]
     show ((if (k == cE.free)=true then (cellOf env n >>= fun c=>eQ (ForInStep.yield ((n,c)::acc))) else eQ (ForInStep.yield acc)) >>= _)=_;rw [hb];exact e1
    ·rcases aF.mp hy with rfl | hy3
     ·exact pP hy2 hk
     ·exact e4 y hy3 hy2
 obtain ⟨cl,e1,e2,_,e4⟩:=aux scope.names [] hf fun x c e=>by cases e
 refine ⟨cl,Eq.trans ?_ e1,e2,e4⟩;unfold closureFor
 first
  | rfl
  | (simp only [bind_pure];done)
  | (simp only [bind_pure];rfl)
  | (simp only [bind_pure]
     congr 1
     funext x r
     obtain ⟨n,k⟩:=x;cases (k == cE.free) <;> rfl)
theorem mX {env:Env}:∀ {names:List (Str×cE)} {x:Str} {k':cE},
  (names.map fun (n,k)=>if (k == cE.free && env.scope.kind == .function && env.kindOf n == some .cell) then (n,cE.cell) else (n,k)).lookup x=some k' →
  names.lookup x=some k'∨(names.lookup x=some .free∧k'= .cell)
 | [],_,_,h=>by simp at h
 | (n,k)::r,x,k',h=>by
  have ih:= @mX env r x k';rw [cg] at h;show cZ x ((n,k)::r)=_∨(cZ x ((n,k)::r)=_∧_);rw [dm]
  by_cases hq:(k == cE.free && env.scope.kind == .function && env.kindOf n == some .cell)=true
  ·have g:cZ x ((if (k == cE.free && env.scope.kind == .function && env.kindOf n == some .cell)=true then (n,cE.cell) else (n,k))::_)=_:=h
   rw [pO hq,dm] at g;have hk:k= .free:=by
    rw [cS,cS] at hq;exact eq_of_beq hq.1.1
   cases hx:x == n with
   | true=>rw [hx] at g;rw [hk];exact .inr ⟨rfl,(bC g).symm⟩
   | false=>rw [hx] at g;exact ih g
  ·have g:cZ x ((if (k == cE.free && env.scope.kind == .function && env.kindOf n == some .cell)=true then (n,cE.cell) else (n,k))::_)=_:=h
   rw [pN hq,dm] at g;cases hx:x == n with
   | true=>rw [hx] at g;exact .inl g
   | false=>rw [hx] at g;exact ih g
theorem kX {env:Env}(hk:env.scope.kind= .function){x:Str}(hx:env.kindOf x=some .cell):∀ {names:List (Str×cE)},names.lookup x=some .free →
  (names.map fun (n,k)=>if (k == cE.free && env.scope.kind == .function && env.kindOf n == some .cell) then (n,cE.cell) else (n,k)).lookup x=some .cell
 | [],h=>by simp at h
 | (n,k)::r,h=>by
  have ih:= @kX env hk x hx r;show cZ x ((if (k == cE.free && env.scope.kind == .function && env.kindOf n == some .cell)=true then (n,cE.cell) else (n,k))::_)=some cE.cell;rw [dm] at h;cases hxn:x == n with
  | true =>
   rw [hxn] at h;have ek:k= .free:=bC h;have en:x=n:=eq_of_beq hxn;subst ek en;rw [pO (by rw [hk,hx];rfl),dm,beq_self_eq_true]
  | false =>
   rw [hxn] at h
   by_cases hq:(k == cE.free && env.scope.kind == .function && env.kindOf n == some .cell)=true
   ·rw [pO hq,dm,hxn];exact ih h
   ·rw [pN hq,dm,hxn];exact ih h
def PTs (X:Cx)(ifs:List Expr)(t:TT):Prop :=
 ∀ (aJ:List (ai×Obj)) (s:ao) (σ:St) (H:Hp) (Q:Bool→Hp→Prop),Inv X aJ σ H s→t σ H Q →
  aH (aU X.prog X.w) X.A (forIn ifs true fun c r=>if r=true then do let ok ← isTrue c X.env (dg c X.env);eQ (ForInStep.yield ok) else eQ (ForInStep.yield r)) (TP X aJ σ Q) X.xe s
def tNoIf:TT:=fun _ H Q=>Q true H
theorem gk {A B:Hp→Prop}(h:A H):tNoIf σ H fun b H4=>if b=true then A H4 else B H4:=by
 show if true=true then A H else B H;rw [pO rfl];exact h
theorem ig:PTs X [] tNoIf:=fun _ _ _ H _ I h=>wpAny_tests_nil ⟨H,I,h⟩
theorem mZ {c:Expr}{t:TT}(h:PT X c t):PTs X [c] t:=fun aJ s σ H Q I q=>wpAny_tests_one (h aJ s σ H Q I q)
theorem HOk.take (x:HOk P w H h)(hn:H a=none)(new:ObjOk P w (upd H a o) h a o):HOk P w (upd H a o) h:=fun b u e=>by
 by_cases hb:b=a
 ·subst hb;rw [aW] at e;cases e;exact new
 ·rw [aZ hb] at e
  exact (x b u e).stay (fun _ _ _ q=>q) (fun c q=>by rw [aZ (bB q hn)];exact q) fun c xs q=>by rw [aZ (bB q hn)];exact q
def dh (σ:St)(js:List Nat):St:=js.map fun j=>(σ[j]?).getD none
def CompW (js:List Nat)(tt:TT)(te:TE)(σ:St)(Q:VK)(J:It)(H1:Hp):Prop:=∃ W:Nat→Nat→List V→Hp→Prop,(∃ m,W 0 m [] H1)∧∀ i m ys H2,W i m ys H2 →
 (J.stop i H2∧∀ D,H2 D=none→Q (.ref D) (upd H2 D (.lst ys))) ∨
 (J.go i H2∧ys.length<aR∧∃ N:List V→Hp→Prop,(∀ ys' H',N ys' H'→∃ m',m'<m∧W (i+1) m' ys' H')∧∀ x H3,J.yld i H2 x H3→tt (some x::dh σ js) H3 fun b H4 =>
  if b=true then te (some x::dh σ js) H4 fun y H5=>N (ys++[y]) H5 else N ys H4)
def tComp (wi:TI)(js:List Nat)(tt:TT)(te:TE):TE:=fun σ H Q=>wi σ H fun J H1=>CompW js tt te σ Q J H1
abbrev lobj (us:List aa)(n:Nat):Obj:={ cls:= .type "list",data:= .seq us.toArray n }
abbrev pL (prog:aQ)(w:bq)(A:bG)(env:Env)(R:Result→ao→Prop):aa→ao→Prop:=notedBy (aU prog w) A env fun x t=>R (.error x) t
theorem loop_any {it acc:aa}(J:Nat→ao→Prop)
  (step:∀ k t,J k t→aH (aU prog w) A (iR it) (fun r t1=>match r with
   | none=>R (.ok .next) t1
   | some v=>aH (aU prog w) A (letOwnedTupleGo tg it v) (fun _ t2=>aH (aU prog w) A (assign tg env v) (fun _ t3 =>
     aH (aU prog w) A (forIn ifs true fun c b=>if b=true then do let z ← isTrue c env (dg c env);eQ (ForInStep.yield z) else eQ (ForInStep.yield b)) (fun z t4 =>
      if z=true then aH (aU prog w) A (dg elt env) (fun y t5=>aH (aU prog w) A (ir (.builtin "list.append") [acc,y]) (fun _ t6=>∃ m,m<k∧J m t6) (pL prog w A env R) t5) (pL prog w A env R) t4
      else ∃ m,m<k∧J m t4) (pL prog w A env R) t3) (pL prog w A env R) t2) (pL prog w A env R) t1) (pL prog w A env R) t)
  (k:Nat) (h:J k s):hV (aU prog w) A (.compLoop (.ListComp elt [⟨tg,iter,ifs,0⟩] scope pos) 0 it acc env) R s:=by
 refine codeAny_loop rfl J (fun k t hJ=>?_) k h;show aH _ A ((compTurn (.ListComp elt [⟨tg,iter,ifs,0⟩] scope pos) 0 it acc env).onRaise (fun y=>do noteFrame y env;theTreesLotGoes y)) _ _ t;refine wpAny_noted ?_;rw [compTurn_list];refine ae (wpAny_standAt (ae (bH (step k t hJ) (fun r t1 q1=>?_) fun _ _ f=>f)));cases r with
 | none=>exact aA q1
 | some v =>
  refine ae (bH q1 (fun _ t2 q2=>?_) fun _ _ f=>f);refine ae (bH q2 (fun _ t3 q3=>?_) fun _ _ f=>f);refine ae (bH q3 (fun z t4 q4=>?_) fun _ _ f=>f);cases z with
  | false=>exact aA ⟨rfl,q4⟩
  | true=>exact ae (ae (bH q4 (fun y t5 q5=>ae (bH q5 (fun _ t6 q6=>aA (aA ⟨rfl,q6⟩)) fun _ _ f=>f)) fun _ _ f=>f))
def pM (n:Nat)(g:TG)(js:List Nat)(tt:TT)(te:TE)(σ:St)(Q:VK)(J:It)(H1:Hp):Prop:=∃ W:Nat→Nat→List V→Hp→Prop,(∃ m,W 0 m [] H1)∧∀ i m ys H2,W i m ys H2 →
 (J.stop i H2∧∀ D,H2 D=none→Q (.ref D) (upd H2 D (.lst ys))) ∨
 (J.go i H2∧ys.length<aR∧∃ N:List V→Hp→Prop,(∀ ys' H',N ys' H'→∃ m',m'<m∧W (i+1) m' ys' H')∧∀ x H3,J.yld i H2 x H3→∀ v0:St,v0.length=n→g x (v0++dh σ js) H3 fun σ4 H4 =>
  (∃ v1:St,v1.length=n∧σ4=v1++dh σ js)∧tt σ4 H4 fun b H5=>if b=true then te σ4 H5 fun y H6=>N (ys++[y]) H6 else N ys H5)
def tCompT (wi:TI)(n:Nat)(g:TG)(js:List Nat)(tt:TT)(te:TE):TE:=fun σ H Q=>wi σ H fun J H1=>pM n g js tt te σ Q J H1
theorem comp_core {Q:VK}{use:Option (aa→Sem Unit)}{R:aa→ao→Prop}{xs:List Str}
  (hc:X.calm=true) (hi:PI X tg iter wi)
  (iH:∀ y∈scope.names,y.2≠ .cell) (mj:scope.kind= .function) (k9:∀ y∈scope.names,y.2= .local→scope.names.lookup y.1=some .local)
  (hfr:∀ y∈scope.names,y.2= .free→X.env.scope.names.lookup y.1=some .cell) (hjs:js.map (fun j=>X.N[j]?)=fr.map some) (hfv:∀ y∈fr,scope.names.lookup y=some .free)
  (hg:∀ cl C s' H' ex,PG (fP X scope cl C (xs++fr) s' H' ex) tg g)
  (hb:∀ cl C s' H' ex,PE (fP X scope cl C (xs++fr) s' H' ex) elt te∧PTs (fP X scope cl C (xs++fr) s' H' ex) ifs tt)
  (hCW:∀ σ Q J H1,CW σ Q J H1→pM xs.length g js tt te σ Q J H1) (I:Inv X aJ σ H s) (h:wi σ H fun J H1=>CW σ Q J H1)
  (fin:∀ (s4:ao) (H5:Hp) (D C:ai) (mC:Str→Option aa),s4.heap.Ns C mC→Inv X aJ σ H5 s4→H5 C=none→C≠X.env.locals→C ∉ X.fs→(∀ p∈X.pn++aJ,p.1≠C)→(∀ y c,X.env.cells.lookup y=some c→c≠C)→X.s₀.heap.objs.size≤C→Q (.ref D) H5→compPost (aU X.prog X.w) X.A X.xe use R (.ref D) C (.ok .next) s4)
  (hs:∀ z,fW iter X.env z=eQ z:=by intro _;rfl) :
  aH (aU X.prog X.w) X.A (comprehension (.ListComp elt [⟨tg,iter,ifs,0⟩] scope pos) scope X.env pos' (newList []) false (dg iter X.env) use) R X.xe s:=by
 have hXk:X.env.scope.kind= .function:=I.ok.kind;obtain ⟨cl,hclos,c1,c2⟩:=mq (scope:=scope) (env:=X.env) fun y hy hk=>I.ok.has _ (.inl (hfr y hy hk))
 refine wpAny_comprehension_free rfl hs hclos mj k9 (thn (hi aJ s σ H _ I h) fun xv s1 h1=>thn h1 fun itv s2 h2=>?_);obtain ⟨it,fp,tn,J,H2,rfl,I2,T,st2,f2,hcw⟩:=h2;obtain ⟨W,⟨m0,w0⟩,turn⟩:=hCW _ _ _ _ hcw;refine cY (wpAny_newFunctionEnv iH (by intro y hy;simp at hy) (fun hA nsA sbA=>?_) mj)
 dsimp only at nsA sbA ⊢
 generalize hG:s2.heap.push { cls:= .type "list",dict:=none,data:= .seq ([]:List aa).toArray }=G at nsA sbA ⊢;have hC:G.objs.size=s2.heap.objs.size+1:=by rw [←hG,cQ]
 have hDC:s2.heap.objs.size≠G.objs.size:=by rw [hC];exact bj (jI _)
 have small:∀ b o,s2.heap.get? b=some o→b≠G.objs.size∧b≠s2.heap.objs.size:=fun b o e=>⟨by rw [hC];exact bj (gM (aC e)),bj (aC e)⟩
 have old:∀ b o,s2.heap.get? b=some o→hA.get? b=some o:=fun b o e=>sbA.extBut b o (small b o e).1 (ak _ (hG ▸ ak _ e))
 have hDA:hA.get? s2.heap.objs.size=some (lobj [] 0):=sbA.extBut _ _ hDC (ak _ (hG ▸ aN _ rfl));have fpo:∀ b∈fp,∃ o,s2.heap.get? b=some o:=fun b hb=>let ⟨o,e,_⟩:=T.obj _ _ st2 b hb;⟨o,e⟩
 have celo:∀ y c,cl.lookup y=some c→∃ o,s2.heap.get? c=some o:=fun y c e=>let ⟨_,o,ho,_⟩:=I2.cell y c (c1 y c e);⟨o,ho⟩
 have ok':(fP X scope cl G.objs.size (xs++fr) s2 H2 fp).Ok:=by
  refine ⟨I2.ok.mod,mj,I2.ok.glob,I2.ok.blt,?_,fun a b c e1 e2=>I2.ok.inj a b c (c1 a c e1) (c1 b c e2),fun y hy=>?_,fun _ _ z=>pP z (by intro q;cases q),I2.ok.hd,I2.ok.frames,.inl rfl,fun b hb=>?_,I2.bs,aS I2.ok.bsz I2.sz,fun b o e hb=>?_,fun b hb hz=>?_,I2.stack,I2.stkFree⟩
  ·show s2.heap.objs.size≤G.objs.size
   rw [hC];exact gZ _
  ·have hy:(relabel scope X.env).names.lookup y=some .cell∨(relabel scope X.env).names.lookup y=some .free:=hy
   have key:scope.names.lookup y=some .free:=by
    rcases hy with hy | hy
    ·rcases mX hy with q | ⟨q,_⟩
     ·exact pP rfl (iH _ (cH q))
     ·exact q
    ·rcases mX hy with q | ⟨q,_⟩
     ·exact q
     ·exact q
   have hm:=cH key;obtain ⟨c,e⟩:=I.ok.has y (.inl (hfr _ hm rfl));exact ⟨c,(c2 _ hm rfl).trans e⟩
  ·obtain ⟨o,e⟩:=fpo b hb
   exact ⟨(small b o e).1,fun y c q=>(f2 b hb).2.2.2.2.1 y c (c1 y c q)⟩
  ·obtain ⟨_,_,_,f3,_⟩:=f2 b hb
   rcases f3 with f3 | f3
   ·exact I2.ok.noex b o e f3
   ·exact pP (aL (aC e) (aS I2.ok.bsz f3)) (e7 _)
  ·obtain ⟨_,n1,n2,_⟩:=f2 b hb
   exact (aF.mp (I2.stkSub b hz)).elim n1 n2
 have nofs:s2.heap.objs.size ∉ frs X.stack:=fun hz=>by
  obtain ⟨_,o,ho,_⟩:=I2.stack.mem hz;exact e7 _ (aC ho)
 have lenB:(dh σ js).length=fr.length:=by
  have e:=pT List.length hjs;rw [af,af] at e;unfold dh;rw [af];exact e
 have start':∀ t,Inv (fP X scope cl G.objs.size (xs++fr) s2 H2 fp) [(s2.heap.objs.size,lobj [] 0)] ((xs.map fun _=>none)++dh σ js) H2 { s2 with heap:=hA,toks:=t }:=fun t=>by
  refine ⟨ok',rfl,I2.bare,Un.kept old,⟨_,nsA,fun i y v e1 e2 e3=>?_⟩,fun y c e=>?_,I2.hok.fresh (by rw [hC];exact gZ _),fun y c e=>I2.freeC y c (c1 y c e),fun p hp=>?_,I2.hok.kept old,?_⟩
  ·by_cases hix:i<xs.length
   ·rw [bS (by rw [af];exact hix),ax,gE hix] at e2
    cases e2
   ·obtain ⟨i,rfl⟩:∃ j,i=xs.length+j:=⟨i - xs.length,by lia⟩
    have e1:(xs++fr)[xs.length+i]? =some y:=e1;have e1:fr[i]? =some y:=by rw [br (by lia),show xs.length+i - xs.length=i by lia] at e1;exact e1
    have e2:(dh σ js)[i]? =some (some v):=by rw [br (by rw [af];lia),af,show xs.length+i - xs.length=i by lia] at e2;exact e2
    unfold dh at e2;rw [ax] at e2;obtain ⟨j,ej,e2⟩:=aI.mp e2;have hN:X.N[j]? =some y:=by
     have q:=pT (fun l=>l[i]?) hjs;simp only [ax,ej,e1,gn] at q;exact bC q
    have hσ:σ[j]? =some (some v):=by
     cases z:σ[j]? with
     | none=>rw [z] at e2;cases e2
     | some w=>rw [z] at e2;exact pT some e2
    have hfree:=hfv y (aO e1);have hm:=cH hfree;have hce:X.env.scope.names.lookup y=some .cell:=hfr _ hm rfl;obtain ⟨m,_,hl⟩:=I2.loc;obtain ⟨u,ru,look⟩:=hl j y v hN hσ (.inr (.inl hce));refine ⟨u,ru,.inr ⟨.inl (kX hXk hce hfree),?_⟩⟩
    rcases look with ⟨k,_⟩ | ⟨_,c,ec,ho⟩
    ·have k:X.env.scope.names.lookup y=some .local:=k
     rw [hce] at k;cases k
    ·obtain ⟨o,ho,hd⟩:=ho
     exact ⟨c,(c2 _ hm rfl).trans ec,o,old c o ho,hd⟩
  ·obtain ⟨v,o,ho,hd⟩:=I2.cell y c (c1 y c e)
   exact ⟨v,o,old c o ho,hd⟩
  ·have hp:p∈[(s2.heap.objs.size,lobj [] 0)]:=hp
   have e:=aw.mp hp;subst e;exact ⟨hDA,I2.hok.fresh (az _),hDC,nofs,fun v z=>by cases z⟩
  ·show ((xs.map fun _=>none)++dh σ js).length=(xs++fr).length
   rw [av,av,af,lenB]
 have fok:∀ {us:List aa} {n:Nat} {H':Hp},(∀ b∈fp,H' b=none)→∀ b∈fp,FpOk (fP X scope cl G.objs.size (xs++fr) s2 H2 fp) [(s2.heap.objs.size,lobj us n)] H' b:=fun {us n H'} hn b hb=>by
  obtain ⟨o,e⟩:=fpo b hb;refine ⟨hn b hb,(small b o e).1,fun hz=>(aF.mp (I2.stkSub b hz)).elim (f2 b hb).2.1 (f2 b hb).2.2.1,.inl hb,fun y c q=>(f2 b hb).2.2.2.2.1 y c (c1 y c q),fun p hp=>?_⟩;have hp:p∈[(s2.heap.objs.size,lobj us n)]:=hp;have ep:=aw.mp hp;subst ep;exact fun z=>(small b o e).2 z.symm
 have loop:∀ sB:ao,(∃ t,sB={ s2 with heap:=hA,toks:=t }) →
   hV (aU X.prog X.w) X.A (.compLoop (.ListComp elt [⟨tg,iter,ifs,0⟩] scope pos) 0 (.ref it) (.ref s2.heap.objs.size) (compEnvC scope cl G.objs.size X.env))
    (compPost (aU X.prog X.w) X.A X.xe use R (.ref s2.heap.objs.size) G.objs.size) sB:=by
  rintro sB ⟨t,rfl⟩;refine loop_any (fun k s'=>∃ i ys us n v0 H',v0.length=xs.length∧Inv (fP X scope cl G.objs.size (xs++fr) s2 H2 fp) [(s2.heap.objs.size,lobj us n)] (v0++dh σ js) H' s'∧Vals ys us∧ys.length≤aR∧tn i s'.heap∧(∀ b∈fp,H' b=none)∧W i k ys H') ?_ m0
   ⟨0,[],[],0,xs.map fun _=>none,H2,af ..,start' t,.nil,bE _,T.keep _ _ _ st2 fun b hb o e=>old b o e,fun b hb=>(f2 b hb).1,w0⟩
  rintro k s3 ⟨i,ys,us,n,v0,H3,hv0,I3,rv,hlen,st3,fr3,w3⟩
  rcases turn i k ys H3 w3 with ⟨stop,qn⟩ | ⟨go,hlt,N',hN',step⟩
  ·refine thn (T.done (fP X scope cl G.objs.size (xs++fr) s2 H2 fp) rfl rfl rfl hc i _ s3 _ H3 _ I3 (fok fr3) st3 stop) fun r s4 ⟨hr,I4⟩=>?_
   subst hr;obtain ⟨mC,hnC,_⟩:=id I4.loc;obtain ⟨pD,nD,_,_,_⟩:=I4.pin (s2.heap.objs.size,lobj us n) (by show _∈[]++[_];simp);have pD:s4.heap.get? s2.heap.objs.size=some (lobj us n):=pD;have nD:H3 s2.heap.objs.size=none:=nD;have nC:H3 G.objs.size=none:=I4.free;have D2:∀ b o,s2.heap.get? b=some o→b≠s2.heap.objs.size:=fun b o e=>(small b o e).2
   have base4:Un (frs X.stack) fp H2 H3 s2.heap s4.heap:=I4.base;have u4:Un (frs X.stack) fp H2 (upd H3 s2.heap.objs.size (.lst ys)) s2.heap s4.heap :=
    {keep:=base4.keep
     slot:=base4.slot
     free:=fun b o e nb hx'=>by rw [aZ (D2 b o e)];exact base4.free b o e nb hx'
     there:=base4.there
     tups:=fun b xs e=>by have q:=base4.tups b xs e;rw [aZ (bB q nD)];exact q
     frzs:=fun b o u e=>by have q:=base4.frzs b o u e;rw [aZ (bB q nD)];exact q
     tbls:=fun b ps e=>by obtain ⟨more,q⟩:=base4.tbls b ps e;exact ⟨more,by rw [aZ (bB q nD)];exact q⟩ }
   have I5:Inv X aJ σ (upd H3 s2.heap.objs.size (.lst ys)) s4:=I2.call' (s':=s4) (ch:=fp) I4.os u4 (I4.hok.take nD ⟨hlen,us,n,rv,pD⟩) I4.bare fun b hb=>by
    obtain ⟨_,g1,_,g3,g4,g5⟩:=f2 b hb;exact ⟨g3,g1,g4,g5⟩
   have locC:G.objs.size≠X.env.locals:=fun z=>by
    obtain ⟨_,⟨o,_,_,ho,_⟩,_⟩:=id I2.loc;exact (small _ o ho).1 z.symm
   have fsC:G.objs.size ∉ X.fs:=fun hz=>by
    obtain ⟨_,o,ho,_⟩:=I2.ok.funs.mem hz;have:=aL (aC ho) I2.sz;rw [hC] at this;exact e7 _ (Nat.lt_of_succ_lt this)
   have pinX:∀ p∈X.pn++aJ,p.1≠G.objs.size:=fun p hp=>(small _ _ (I2.pin p hp).1).1
   have nCu:(upd H3 s2.heap.objs.size (.lst ys)) G.objs.size=none:=by rw [aZ (cn hDC)];exact nC
   refine fin s4 _ _ _ mC hnC I5 nCu locC fsC pinX (fun y c q z=>?_) (aS I2.sz (by rw [hC];exact gZ _)) (qn _ nD);obtain ⟨v,o,ho,_⟩:=I2.cell y c q;exact (small c o ho).1 z
  ·refine thn (T.item (fP X scope cl G.objs.size (xs++fr) s2 H2 fp) rfl rfl rfl hc i _ s3 _ H3 _ I3 (fok fr3) st3 go) fun r s4 ⟨u,hr,h4⟩=>?_
   subst hr;refine thn h4 fun _ s5 ⟨v,H5,I5,r5,y5,st5,fr5⟩=>?_
   have I5':=I5.pinned (fok fr5) (T.obj _ _ st5);refine bH (hg cl G.objs.size s2 H2 fp _ s5 _ H5 v u _ I5' r5 (step v H5 y5 v0 hv0)) (fun _ s6 ⟨σ6,H6,I6,⟨w1,hw1,e6⟩,q6⟩=>?_) fun _ _ f=>f.elim
   subst e6;refine bH ((hb cl G.objs.size s2 H2 fp).2 _ s6 _ H6 _ I6 q6) (fun b s7 ⟨H7,I7,q7⟩=>?_) fun _ _ f=>f.elim
   have back:∀ {s8:ao} {H8:Hp},Inv (fP X scope cl G.objs.size (xs++fr) s2 H2 fp) ([(s2.heap.objs.size,lobj us n)]++pinsAt fp s5.heap) (w1++dh σ js) H8 s8→tn (i+1) s8.heap∧∀ b∈fp,H8 b=none:=fun {s8 H8} I8=>by
    refine ⟨T.keep _ _ _ st5 fun b hb o e=>(I8.pin (b,o) (ay _ (ay _ (lN hb e)))).1,fun b hb=>?_⟩;obtain ⟨o,e,_⟩:=T.obj _ _ st5 b hb;exact (I8.pin (b,o) (ay _ (ay _ (lN hb e)))).2.1
   cases b with
   | false =>
    obtain ⟨m',hm,w7⟩:=hN' _ _ q7;obtain ⟨t7,n7⟩:=back I7;exact ⟨m',hm,i+1,ys,us,n,w1,H7,hw1,I7.unpinned,rv,hlen,t7,n7,w7⟩
   | true =>
    refine bH ((hb cl G.objs.size s2 H2 fp).1 _ s7 _ H7 _ I7 q7) (fun y' s8 ⟨y,H8,I8,r8,q8⟩=>?_) fun _ _ f=>f.elim
    obtain ⟨m',hm,w8⟩:=hN' _ _ q8;obtain ⟨t8,n8⟩:=back I8;have I8':=I8.unpinned;obtain ⟨pD,nD,_,_,_⟩:=I8'.pin (s2.heap.objs.size,lobj us n) (by show _∈[]++[_];simp);have pD:s8.heap.get? s2.heap.objs.size=some (lobj us n):=pD;have nD:H8 s2.heap.objs.size=none:=nD;refine append_at pD (fun h9 hs9 e9=>?_) (by rw [aB,←rv.length];exact hlen);have e9:h9.get? s2.heap.objs.size=some (lobj (us++[y']) (n+1)):=by rw [e9];simp [lobj]
    have J0:Inv (fP X scope cl G.objs.size (xs++fr) s2 H2 fp) [] (w1++dh σ js) H8 s8:=I8'.pins_of fun p hp=>pP hp (by simp)
    have J9:Inv (fP X scope cl G.objs.size (xs++fr) s2 H2 fp) [] (w1++dh σ js) H8 { s8 with heap:=h9,toks:=s8.toks } :=
     J0.turned (it:=s2.heap.objs.size) (fun b o hb' e=>hs9.extBut b o hb' e) nD hDC (.inr (az _)) (fun y0 c q z=>by
      obtain ⟨o,e⟩:=celo y0 c q;exact (small c o e).2 z) fun p hp=>pP (show p∈([]:List (ai×Obj)) from hp) (by simp)
    refine ⟨m',hm,i+1,ys++[y],us++[y'],n+1,w1,H8,hw1,J9.pins_of fun p hp=>?_,rv.append (.cons r8 .nil),(by rw [av,cu];exact hlt),T.keep _ _ _ t8 fun b hb' o e=>hs9.extBut b o (by
     obtain ⟨o',e'⟩:=fpo b hb';exact (small b o' e').2) e,n8,w8⟩
    have ep:=aw.mp hp;subst ep;exact ⟨e9,nD,hDC,nofs,fun v z=>by cases z⟩
 exact codeAny_compStart_list (loop _ ⟨_,rfl⟩) (T.self _ 0 _ _ _ (T.keep _ _ _ st2 fun b hb o e=>old b o e) (loop _ ⟨_,rfl⟩))
theorem pe_compC {xs:List Str}
  (hc:X.calm=true) (hi:PI X tg iter wi)
  (iH:∀ y∈scope.names,y.2≠ .cell) (mj:scope.kind= .function) (k9:∀ y∈scope.names,y.2= .local→scope.names.lookup y.1=some .local)
  (hfr:∀ y∈scope.names,y.2= .free→X.env.scope.names.lookup y.1=some .cell) (hjs:js.map (fun j=>X.N[j]?)=fr.map some) (hfv:∀ y∈fr,scope.names.lookup y=some .free)
  (hg:∀ cl C s' H' ex,PG (fP X scope cl C (xs++fr) s' H' ex) tg g)
  (hb:∀ cl C s' H' ex,PE (fP X scope cl C (xs++fr) s' H' ex) elt te∧PTs (fP X scope cl C (xs++fr) s' H' ex) ifs tt)
  (hCW:∀ σ Q J H1,CW σ Q J H1→pM xs.length g js tt te σ Q J H1) (hs:∀ z,fW iter X.env z=eQ z:=by intro _;rfl) :
  PE X (.ListComp elt [⟨tg,iter,ifs,0⟩] scope pos) (fun σ H Q=>wi σ H fun J H1=>CW σ Q J H1):=by
 intro aJ s σ H Q I h;rw [eval_ListComp];exact comp_core (use:=none) (R:=EP X aJ σ Q) hc hi iH mj k9 hfr hjs hfv hg hb hCW I h (fun s4 H5 D C mC n I5 nC lC fC pC cC sC q=>⟨mC,n,fun h' hsb=>⟨.ref D,H5,I5.turned (t':=s4.toks) (it:=C) (fun b o hb' e=>hsb.extBut b o hb' e) nC lC (.inr sC) cC pC,rfl,q⟩⟩) hs
theorem compW_T {Q:VK}{J:It}(h:CompW js tt te σ Q J H1):pM 1 (nj 0) js tt te σ Q J H1:=by
 obtain ⟨W,w0,turn⟩:=h;refine ⟨W,w0,fun i m ys H2 hw=>?_⟩
 rcases turn i m ys H2 hw with h | ⟨h1,h2,N,h3,h4⟩
 ·exact .inl h
 ·refine .inr ⟨h1,h2,N,h3,fun x H3 hy v0 hv=>?_⟩
  obtain ⟨w,rfl⟩:∃ w,v0=[w]:=by
   obtain _ | ⟨w,v0⟩:=v0
   ·cases hv
   ·obtain _ | ⟨z,v0⟩:=v0
    ·exact ⟨w,rfl⟩
    ·cases hv
  exact ⟨⟨[some x],rfl,rfl⟩,h4 x H3 hy⟩
theorem ij {px:Pos}
  (hc:X.calm=true) (hi:PI X (.Name x px) iter wi)
  (iH:∀ y∈scope.names,y.2≠ .cell) (mj:scope.kind= .function) (k9:∀ y∈scope.names,y.2= .local→scope.names.lookup y.1=some .local) (hx:scope.names.lookup x=some .local)
  (hfr:∀ y∈scope.names,y.2= .free→X.env.scope.names.lookup y.1=some .cell) (hnd:(x::fr).Nodup) (hjs:js.map (fun j=>X.N[j]?)=fr.map some) (hfv:∀ y∈fr,scope.names.lookup y=some .free)
  (hb:∀ cl C s' H' ex,PE (fP X scope cl C (x::fr) s' H' ex) elt te∧PTs (fP X scope cl C (x::fr) s' H' ex) ifs tt)
  (hs:∀ z,fW iter X.env z=eQ z:=by intro _;rfl) :
  PE X (.ListComp elt [⟨.Name x px,iter,ifs,0⟩] scope pos) (tComp wi js tt te) :=
 pe_compC (xs:=[x]) (g:=nj 0) hc hi iH mj k9 hfr hjs hfv (fun _ _ _ _ _=>nc hnd rfl (.inl (dW hx)) (.inr (dW hx))) hb (fun _ _ _ _ h=>compW_T h) hs
theorem nS {Q:VK}(Pv:Nat→List V→Hp→Prop)(h0:Pv 0 [] H)(hl:∀ i ys H,i≤xs.length→Pv i ys H→SqT K H a xs∧ys.length≤i)(hz:xs.length≤aR)
  (hs:∀ i x ys H,xs[i]? =some x→Pv i ys H→tt (some x::dh σ js) H fun b H4=>if b=true then te (some x::dh σ js) H4 fun y H5=>Pv (i+1) (ys++[y]) H5 else Pv (i+1) ys H4)
  (hd:∀ ys H,Pv xs.length ys H→∀ D,H D=none→Q (.ref D) (upd H D (.lst ys))):CompW js tt te σ Q (Itt K a) H:=by
 refine ⟨fun i m ys H=>i≤xs.length∧m=xs.length - i∧Pv i ys H,⟨_,bE _,rfl,h0⟩,fun i m ys H2 ⟨hi,hm,hp⟩=>?_⟩;obtain ⟨hq,hy⟩:=hl i ys H2 hi hp
 by_cases e:i=xs.length
 ·subst e
  exact .inl ⟨⟨xs,hq,az _⟩,hd ys H2 hp⟩
 ·have hlt:i<xs.length:=gq hi e
  refine .inr ⟨⟨xs,_,hq,gE hlt⟩,by lia,Pv (i+1),fun ys' H' hp'=>⟨xs.length - (i+1),by lia,by lia,rfl,hp'⟩,fun x H3 hy3=>?_⟩;obtain ⟨e3,hx⟩:=hy3;subst e3;exact hs i x ys H3 (hx xs hq) hp
theorem nextT_item {j t:ai}{its}{v:aa}(jt:s.heap.IsTupleIter j t i)(tt:s.heap.IsTuple t its)(hv:its[i]? =some v)
  (q:∀ g,g.IsTupleIter j t (i+1)→cb j s.heap g→Q v { s with heap:=g }):aH (aU prog w) A (cF (.ref j)) Q E s:=by
 obtain ⟨ob,e1,e2,e3⟩:=id jt;obtain ⟨ot,g1,_,k,g2⟩:=tt;unfold cF;refine ae (df (name:=bY "__next__") jt.typeIs iw (fq iw jt.typeIs F.entry_tuple_iterator_next ?_ (F.args_tuple_iterator_next_1 _)));show aH _ _ (field (.ref j) 0 >>= _) _ _ s;refine ae (bX e1 e3 (x:= .ref t) rfl ?_);show aH _ _ (ite ((aa.ref t == aa.none)=true) _ _) _ _ s;rw [pN (fun z:(aa.ref t == aa.none)=true=>aV z)];show aH _ _ (field (.ref j) 1 >>= _) _ _ s;refine ae (bX e1 e3 (x:= .int i 0) rfl ?_);show aH _ _ (seqItems? (.ref t) >>= _) _ _ s;refine ae (du g1 g2 ?_);simp only [bV,hv];refine ae (jz e1 e3 (by simp) (aA ⟨v,rfl,aA (q _ ?_ (ft ..))⟩));exact ⟨_,d9 _ e1 (jw (fj e3 _)),(Obj.cls_mapFields ..).trans e2,by rw [fj e3];simp [fg]⟩
theorem nextT_end {j t:ai}{its}(hh:A.handled=none)(jt:s.heap.IsTupleIter j t i)(tt:s.heap.IsTuple t its)(hv:its[i]? =none)
  (q:∀ g x,bw.ExtBut j s.heap g→(∃ o,g.get? x=some o∧o.cls= .type "StopIteration")→E (.ref x) { s with heap:=g }):aH (aU prog w) A (cF (.ref j)) Q E s:=by
 obtain ⟨ob,e1,e2,e3⟩:=id jt;obtain ⟨ot,g1,_,k,g2⟩:=tt;unfold cF;refine ae (df (name:=bY "__next__") jt.typeIs iw (fq iw jt.typeIs F.entry_tuple_iterator_next ?_ (F.args_tuple_iterator_next_1 _)));show aH _ _ (field (.ref j) 0 >>= _) _ _ s;refine ae (bX e1 e3 (x:= .ref t) rfl ?_);show aH _ _ (ite ((aa.ref t == aa.none)=true) _ _) _ _ s;rw [pN (fun z:(aa.ref t == aa.none)=true=>aV z)];show aH _ _ (field (.ref j) 1 >>= _) _ _ s;refine ae (bX e1 e3 (x:= .int i 0) rfl ?_);show aH _ _ (seqItems? (.ref t) >>= _) _ _ s;refine ae (du g1 g2 ?_);simp only [bV,hv];refine ae (wpAny_rule (ae (jz e1 e3 (by simp) ?_)));show aH _ _ (newExc (.type "StopIteration") [] >>= _) _ _ _;refine ae ?_;simp only [newExc,newTuple];refine ae (cY ?_ (by size_fits));refine ae (m:=firstArgMember _ _) (wpAny_of_eq (a:=aa.none) (by first | rfl | (unfold firstArgMember;rfl)) ?_);refine cY ?_ (by size_fits);simp only [raiseNew];refine ae (wpAny_handled ?_)
 first | rw [show A.in1.handled=none from hh] | rw [hh]
 exact ae (aA (wpAny_throw (q _ _ (((ft ..).extBut.push _).push _) ⟨_,aN _ rfl,rfl⟩)))
theorem Inv.turnAll {g:bw}(I:Inv X aJ σ H s)(hf:∀ b∈ch,FpOk X aJ H b)
  (k:∀ b o,b ∉ ch→s.heap.get? b=some o→g.get? b=some o) (hH:∀ b u,H b=some u→H' b=some u) (hN:∀ b o,s.heap.get? b=some o→H b=none→H' b=none) (hok:HOk X.prog X.w H' g):Inv X aJ σ H' { s with heap:=g }:=by
 refine I.step (g':=s.gens) (d':=s.drawn) (t':=s.toks) (ch:=ch) (fun b hb=>?_) (fun b o _ _ hc e _=>k b o hc e) (fun b o _ _ hc e _=>⟨o.slots,k b o hc e⟩) (fun b o _ e n=>hN b o e n)
  (fun b o hc e=>⟨o,k b o hc e⟩) (fun b xs e=>hH b _ e) (fun b o u e=>hH b _ e) (fun b ps e=>⟨#[],by rw [hH b _ e];simp⟩) (fun m hm=>?_) hok I.bare
 ·obtain ⟨_,f1,_,f3,f4,f5⟩:=hf b hb
  exact ⟨f3,f1,f4,f5⟩
 ·obtain ⟨o,es,ep,ho,r⟩:=hm
  exact ⟨o,es,ep,k _ o (fun hb=>(hf _ hb).2.1 rfl) ho,r⟩
theorem Same.put (e:Same H H1){p:ai}(h:H1 p=none):Same H (upd H1 p o):=fun b u q=>by rw [aZ (bB (e b u q) h)];exact e b u q
theorem Inv.big (I:Inv X aJ σ H s):iF<s.heap.objs.size:=by
 have h:bp<s.heap.objs.size:=(I.mod.glob.keeps I.bk).lt;exact Nat.lt_trans (by decide) h
theorem dk_empty (h:bw)(hb:iF<h.objs.size):ObjOk P w H (h.push { cls:= .type "dict",data:= .dict #[] }) h.objs.size (.dK []) :=
 ⟨bE _,beq_eq_false_iff_ne.mpr (cn (bj hb)),[],.nil,bw.DictOf.new h⟩
def tDNewK:TE:=fun _ H Q=>∀ p,H p=none→Q (.ref p) (upd H p (.dK []))
theorem pe_dnewK:PE X (.Dict [] [] pos) tDNewK:=fun aJ s σ H Q I h =>
 wpAny_Dict_empty ⟨.ref s.heap.objs.size,_,I.laid (a:=s.heap.objs.size) (o:= .dK []) (t':=s.toks) (fun _ _ q=>ak _ q) (az _) (dk_empty s.heap I.big),rfl,h _ (I.hok.fresh (az _))⟩
theorem PE.imp {t t':TE}(h:PE X e t)(i:∀ σ H Q,t' σ H Q→t σ H Q):PE X e t':=fun aJ s σ H Q I q=>h aJ s σ H Q I (i σ H Q q)
theorem OpR.imp {f:aa→aa→Sem aa}{r r':R2}(h:OpR X f r)(i:∀ x y H Q,r' x y H Q→r x y H Q):OpR X f r':=fun aJ s σ H x y v u Q I rx ry q=>h aJ s σ H x y v u Q I rx ry (i x y H Q q)
theorem CallR.imp {f:aa}{r r':List V→Hp→VK→Prop}(h:CallR X f r)(i:∀ xs H Q,r' xs H Q→r xs H Q):CallR X f r':=fun aJ s σ H xs us Q I rv q=>h aJ s σ H xs us Q I rv (i xs H Q q)
def tACut (t:TA):TA:=fun σ H R=>∃ R':List V→Hp→Prop,(∀ xs H,R' xs H→R xs H)∧t σ H R'
theorem PA.cut (h:PA X es t):PA X es (tACut t):=fun pos aJ s σ H Q I ⟨R',i,q⟩ =>
 thn (h pos aJ s σ H R' I q) fun us s' ⟨vs,H',I',rv,q'⟩=>⟨vs,H',I',rv,i _ _ q'⟩
def New (H:Hp)(o:HO)(Q:VK):Prop:=∀ p H',Same H H'→H' p=some o→Q (.ref p) H'
theorem New.of {Q:VK}(h:New H o Q):∀ p,H p=none→Q (.ref p) (upd H p o):=fun p hp=>h p _ (Same.put (Same.refl H) hp) aW
def tTupA (t:TA):TE:=fun σ H Q=>t σ H fun xs H1=>xs.length≤aR∧New H1 (.tup xs) Q
def tLstA (t:TA):TE:=fun σ H Q=>t σ H fun xs H1=>xs.length≤aR∧New H1 (.lst xs) Q
theorem fb {x1}(h:PA X es t):PE X (.Tuple es x1 pos) (tTupA t):=(pe_tup h.cut).imp fun _ _ _ q=>⟨_,fun _ _ z=>⟨z.1,z.2.of⟩,q⟩
theorem oF (h:PA X es t):PE X (.List es pos) (tLstA t):=(jT h.cut).imp fun _ _ _ q=>⟨_,fun _ _ z=>⟨z.1,z.2.of⟩,q⟩
theorem op_catL:OpR X (fX .Add) (fun x y H Q=>∃ l b xs zs,x= .ref l∧y= .ref b∧H l=some (.lst xs)∧H b=some (.lst zs)∧xs.length+zs.length≤aR∧New H (.lst (xs++zs)) Q) :=
 op_cat.imp fun _ _ _ _ ⟨l,b,xs,zs,e1,e2,e3,e4,e5,q⟩=>⟨l,b,xs,zs,e1,e2,e3,e4,e5,q.of⟩
inductive Dt where
 | non | bl (b:Bool) | int (i:Int) | str (x:Str) | tup (ds:List Dt) | oth (T:String)
mutual
inductive IsD (H:Hp):V→Dt→Prop where
 | non:IsD H .non .non
 | bl (b:Bool):IsD H (.bl b) (.bl b)
 | int (i:Int):IsD H (.int i) (.int i)
 | str (x:Str):IsD H (.str x) (.str x)
 | tup {a:ai} {xs:List V} {ds:List Dt} (h:H a=some (.tup xs)) (r:IsDs H xs ds):IsD H (.ref a) (.tup ds)
 | lst {a:ai} {xs:List V} (h:H a=some (.lst xs)):IsD H (.ref a) (.oth "list")
 | dct {a:ai} {kvs:List (Key×V)} (h:H a=some (.dK kvs)):IsD H (.ref a) (.oth "dict")
inductive IsDs (H:Hp):List V→List Dt→Prop where
 | nil:IsDs H [] []
 | cons {x:V} {d:Dt} {xs:List V} {ds:List Dt} (h:IsD H x d) (r:IsDs H xs ds):IsDs H (x::xs) (d::ds)
end
mutual
theorem IsD.same {H H':Hp}(e:Same H H'):∀ {v:V} {d:Dt},IsD H v d→IsD H' v d
 | _,_,.non=> .non
 | _,_,.bl b=> .bl b
 | _,_,.int i=> .int i
 | _,_,.str x=> .str x
 | _,_,.tup h r=> .tup (e _ _ h) (IsDs.same e r)
 | _,_,.lst h=> .lst (e _ _ h)
 | _,_,.dct h=> .dct (e _ _ h)
theorem IsDs.same {H H':Hp}(e:Same H H'):∀ {vs:List V} {ds:List Dt},IsDs H vs ds→IsDs H' vs ds
 | _,_,.nil=> .nil
 | _,_,.cons h r=> .cons (IsD.same e h) (IsDs.same e r)
end
mutual
theorem IsD.inj {H:Hp}:∀ {v:V} {d e:Dt},IsD H v d→IsD H v e→d=e
 | _,_,_,.non,.non=>rfl
 | _,_,_,.bl _,.bl _=>rfl
 | _,_,_,.int _,.int _=>rfl
 | _,_,_,.str _,.str _=>rfl
 | _,_,_,.tup h r,q=>by
  cases q with
  | tup h' r'=>rw [h] at h';cases h';rw [IsDs.inj r r']
  | lst h'=>rw [h] at h';cases h'
  | dct h'=>rw [h] at h';cases h'
 | _,_,_,.lst h,q=>by
  cases q with
  | tup h' r'=>rw [h] at h';cases h'
  | lst h'=>rfl
  | dct h'=>rw [h] at h';cases h'
 | _,_,_,.dct h,q=>by
  cases q with
  | tup h' r'=>rw [h] at h';cases h'
  | lst h'=>rw [h] at h';cases h'
  | dct h'=>rfl
theorem IsDs.inj {H:Hp}:∀ {vs:List V} {ds es:List Dt},IsDs H vs ds→IsDs H vs es→ds=es
 | _,_,_,.nil,.nil=>rfl
 | _,_,_,.cons h r,.cons h' r'=>by rw [IsD.inj h h',IsDs.inj r r']
end
theorem IsDs.length:∀ {xs:List V} {ds:List Dt},IsDs H xs ds→xs.length=ds.length
 | _,_,.nil=>rfl
 | _,_,.cons _ r=>by rw [aY,aY,IsDs.length r]
theorem IsDs.get:∀ {xs:List V} {ds:List Dt} {i:Nat} {x:V},IsDs H xs ds→xs[i]? =some x→∃ d,ds[i]? =some d∧IsD H x d
 | _,_,_,_,.nil,e=>by simp at e
 | _,_,0,_,.cons h _,e=>by simp at e;subst e;exact ⟨_,rfl,h⟩
 | _,_,i+1,x,.cons _ r,e=>by
  obtain ⟨d,h1,h2⟩:=IsDs.get (i:=i) (x:=x) r (by simpa using e);exact ⟨d,by simpa using h1,h2⟩
theorem IsDs.at:∀ {xs:List V} {ds:List Dt} {i:Nat} {d:Dt},IsDs H xs ds→ds[i]? =some d→∃ x,xs[i]? =some x∧IsD H x d
 | _,_,_,_,.nil,e=>by simp at e
 | _,_,0,_,.cons h _,e=>by simp at e;subst e;exact ⟨_,rfl,h⟩
 | _,_,i+1,d,.cons _ r,e=>by
  obtain ⟨x,h1,h2⟩:=IsDs.at (i:=i) (d:=d) r (by simpa using e);exact ⟨x,by simpa using h1,h2⟩
theorem IsDs.append:∀ {xs ys:List V} {ds es:List Dt},IsDs H xs ds→IsDs H ys es→IsDs H (xs++ys) (ds++es)
 | _,_,_,_,.nil,s=>s
 | _,_,_,_,.cons h r,s=> .cons h (IsDs.append r s)
theorem IsDs.ints:∀ (ns:List Int),IsDs H (ns.map V.int) (ns.map Dt.int)
 | []=> .nil
 | n::r=> .cons (.int n) (IsDs.ints r)
theorem IsDs.ints_of:∀ {xs:List V} {ns:List Int},IsDs H xs (ns.map Dt.int)→xs=ns.map V.int
 | _,[],.nil=>rfl
 | _,n::r,.cons h q=>by cases h;rw [IsDs.ints_of q];rfl
theorem IsD.tup_of {ds:List Dt}(h:IsD H v (.tup ds)):∃ a xs,v= .ref a∧H a=some (.tup xs)∧IsDs H xs ds:=by
 cases h with
 | tup h r=>exact ⟨_,_,rfl,h,r⟩
mutual
def eqD:Dt→Dt→Bool
 | .non,.non=>true
 | .bl a,.bl b=>a == b
 | .bl a,.int b=>(if a then 1 else 0) == b
 | .int a,.bl b=>a == (if b then 1 else 0)
 | .int a,.int b=>a == b
 | .str a,.str b=>a == b
 | .tup xs,.tup ys=>eqDs xs ys
 | _,_=>false
def eqDs:List Dt→List Dt→Bool
 | [],[]=>true
 | x::xs,y::ys=>eqD x y && eqDs xs ys
 | _,_=>false
end
mutual
def pl:Dt→Bool
 | .oth _=>false
 | .tup ds=>pls ds
 | _=>true
def pls:List Dt→Bool
 | []=>true
 | d::ds=>pl d && pls ds
end
mutual
def dep:Dt→Nat
 | .tup ds=>deps ds+1
 | _=>0
def deps:List Dt→Nat
 | []=>0
 | d::ds=>max (dep d) (deps ds)
end
mutual
theorem eqD_refl:∀ d:Dt,pl d=true→eqD d d=true
 | .non,_=>by unfold eqD;rfl
 | .bl b,_=>by unfold eqD;exact beq_self_eq_true b
 | .int i,_=>by unfold eqD;exact beq_self_eq_true i
 | .str x,_=>by unfold eqD;exact beq_self_eq_true x
 | .tup ds,h=>by
  unfold eqD;unfold pl at h;exact oQ ds h
 | .oth T,h=>by unfold pl at h;cases h
theorem oQ:∀ ds:List Dt,pls ds=true→eqDs ds ds=true
 | [],_=>by unfold eqDs;rfl
 | d::ds,h=>by
  unfold eqDs;unfold pls at h;rw [cS] at h;rw [eqD_refl d h.1,oQ ds h.2];rfl
end
theorem eqD_tup (xs ys:List Dt):eqD (.tup xs) (.tup ys)=eqDs xs ys:=by unfold eqD;rfl
theorem eqDs_all:∀ (ds es:List Dt),eqDs ds es=((aK (min ds.length es.length)).all (fun j=>eqD (ds.getD j .non) (es.getD j .non)) && ds.length == es.length)
 | [],[]=>by unfold eqDs;rfl
 | [],e::es=>by unfold eqDs;simp
 | d::ds,[]=>by unfold eqDs;simp
 | d::ds,e::es=>by
  unfold eqDs;rw [eqDs_all ds es];rw [aY,aY];have h1:min (ds.length+1) (es.length+1)=min ds.length es.length+1:=by lia
  rw [h1,List.range_succ_eq_map,List.all_cons,List.all_map];have h2:((ds.length+1) == (es.length+1))=(ds.length == es.length):=by rw [jZ];simp
  rw [h2,Bool.and_assoc];rfl
theorem oB:∀ {ds:List Dt} {i:Nat} {d:Dt},pls ds=true→ds[i]? =some d→pl d=true
 | [],_,_,_,e=>by simp at e
 | d::ds,0,_,h,e=>by
  unfold pls at h;rw [cS] at h;simp at e;subst e;exact h.1
 | d::ds,i+1,x,h,e=>by
  unfold pls at h;rw [cS] at h;exact oB (i:=i) h.2 (by simpa using e)
theorem deps_get:∀ {ds:List Dt} {i:Nat} {d:Dt},ds[i]? =some d→dep d≤deps ds
 | [],_,_,e=>by simp at e
 | d::ds,0,_,e=>by
  simp at e;subst e;unfold deps;exact Nat.le_max_left _ _
 | d::ds,i+1,x,e=>by
  have:=deps_get (ds:=ds) (i:=i) (d:=x) (by simpa using e);unfold deps;exact aS this (Nat.le_max_right _ _)
theorem Inv.tupD {ds:List Dt}(I:Inv X aJ σ H s)(h:IsD H v (.tup ds))(r:RelV v u):∃ a its,u= .ref a∧v= .ref a∧s.heap.IsTuple a its.toArray∧∃ xs,Vals xs its∧IsDs H xs ds∧its.length=ds.length:=by
 obtain ⟨a,xs,rfl,ha,hd⟩:=h.tup_of;cases (show u=aa.ref a from r);obtain ⟨its,rv,p,_⟩:=I.tuple (SqT.of (K:=X.K) ha);exact ⟨a,its,rfl,rfl,p,xs,rv,hd,by rw [←rv.length,hd.length]⟩
theorem eqAt_D:∀ (n:Nat) {A:bG} {x y:V} {u v:aa} {d e:Dt},dep d≤n→A.units+n<cLine→Inv X aJ σ H s→IsD H x d→IsD H y e→RelV x u→RelV y v→pl d=true→pl e=true→SeqAt.EqAt A s u v (eqD d e):=by
 intro n
 induction n with
 | zero =>
  intro A x y u v d e hd hu I ix iy rx ry px py;cases ix with
  | tup h r=>unfold dep at hd;lia
  | lst h=>unfold pl at px;cases px
  | dct h=>unfold pl at px;cases px
  | non =>
   cases iy with
   | tup h' r' =>
    obtain ⟨a,its,rfl,_,hb,_⟩:=I.tupD (.tup h' r') ry;cases rx;exact SeqAt.EqAt.none_tuple hb (by lia)
   | lst h'=>unfold pl at py;cases py
   | dct h'=>unfold pl at py;cases py
   | non=>exact jh rx ry rfl rfl
   | bl b=>exact jh rx ry rfl rfl
   | int b=>exact jh rx ry rfl rfl
   | str b=>exact jh rx ry rfl rfl
  | bl b =>
   cases iy with
   | tup h' r' =>
    obtain ⟨a,its,rfl,_,hb,_⟩:=I.tupD (.tup h' r') ry;cases rx;exact SeqAt.EqAt.bool_tuple b hb (by lia)
   | lst h'=>unfold pl at py;cases py
   | dct h'=>unfold pl at py;cases py
   | non=>exact jh rx ry rfl rfl
   | bl b=>exact jh rx ry rfl rfl
   | int b=>exact jh rx ry rfl rfl
   | str b=>exact jh rx ry rfl rfl
  | int i =>
   cases iy with
   | tup h' r' =>
    obtain ⟨a,its,rfl,_,hb,_⟩:=I.tupD (.tup h' r') ry;obtain ⟨t,rfl⟩:=rx;exact SeqAt.EqAt.int_tuple i t hb (by lia)
   | lst h'=>unfold pl at py;cases py
   | dct h'=>unfold pl at py;cases py
   | non=>exact jh rx ry rfl rfl
   | bl b=>exact jh rx ry rfl rfl
   | int b=>exact jh rx ry rfl rfl
   | str b=>exact jh rx ry rfl rfl
  | str z =>
   cases iy with
   | tup h' r' =>
    obtain ⟨a,its,rfl,_,hb,_⟩:=I.tupD (.tup h' r') ry;obtain ⟨t,rfl⟩:=rx;exact SeqAt.EqAt.str_tuple z t hb (by lia)
   | lst h'=>unfold pl at py;cases py
   | dct h'=>unfold pl at py;cases py
   | non=>exact jh rx ry rfl rfl
   | bl b=>exact jh rx ry rfl rfl
   | int b=>exact jh rx ry rfl rfl
   | str b=>exact jh rx ry rfl rfl
 | succ n ih =>
  intro A x y u v d e hd hu I ix iy rx ry px py
  by_cases hz:dep d=0
  ·
   cases ix with
   | tup h r=>unfold dep at hz;lia
   | lst h=>unfold pl at px;cases px
   | dct h=>unfold pl at px;cases px
   | non=>exact ih (by rw [hz];exact bE _) (by lia) I .non iy rx ry px py
   | bl b=>exact ih (by rw [hz];exact bE _) (by lia) I (.bl b) iy rx ry px py
   | int i=>exact ih (by rw [hz];exact bE _) (by lia) I (.int i) iy rx ry px py
   | str z=>exact ih (by rw [hz];exact bE _) (by lia) I (.str z) iy rx ry px py
  ·cases ix with
   | lst h=>unfold pl at px;cases px
   | dct h=>unfold pl at px;cases px
   | non=>exact pP (by unfold dep;rfl) hz
   | bl b=>exact pP (by unfold dep;rfl) hz
   | int i=>exact pP (by unfold dep;rfl) hz
   | str z=>exact pP (by unfold dep;rfl) hz
   | tup h r =>
    rename_i a xs ds;cases (show u=aa.ref a from rx);obtain ⟨its,rv,p,_⟩:=I.tuple (SqT.of (K:=X.K) h);have p:s.heap.IsTuple a its.toArray:=p;cases iy with
    | lst h'=>unfold pl at py;cases py
    | dct h'=>unfold pl at py;cases py
    | non=>cases ry;exact SeqAt.EqAt.tuple_none p (by lia)
    | bl b=>cases ry;exact SeqAt.EqAt.tuple_bool b p (by lia)
    | int b=>obtain ⟨t,rfl⟩:=ry;exact SeqAt.EqAt.tuple_int b t p (by lia)
    | str b=>obtain ⟨t,rfl⟩:=ry;exact SeqAt.EqAt.tuple_str b t p (by lia)
    | tup h' r' =>
     rename_i b ys es;cases (show v=aa.ref b from ry)
     by_cases hab:a=b
     ·subst hab
      have e1:Dt.tup ds=Dt.tup es:=IsD.inj (.tup h r) (.tup h' r');rw [e1];rw [eqD_refl _ py];exact SeqAt.EqAt.same _
     ·obtain ⟨its2,rv2,p2,_⟩:=I.tuple (SqT.of (K:=X.K) h')
      have p2:s.heap.IsTuple b its2.toArray:=p2;have l1:its.length=ds.length:=by rw [←rv.length,r.length]
      have l2:its2.length=es.length:=by rw [←rv2.length,r'.length]
      have pd:pls ds=true:=by unfold pl at px;exact px
      have pe:pls es=true:=by unfold pl at py;exact py
      have hd':deps ds≤n:=by unfold dep at hd;lia
      have key:=SeqAt.RcAt.tuples (A:=A) (e:=fun j=>eqD (ds.getD j .non) (es.getD j .non)) p p2 (by lia) fun j h1 h2=>by
       have h1':j<its.length:=by simpa using h1
       have h2':j<its2.length:=by simpa using h2
       obtain ⟨x',ex,dx⟩:=r.at (i:=j) (d:=ds[j]'(by lia)) (gE (by lia));obtain ⟨y',ey,dy⟩:=r'.at (i:=j) (d:=es[j]'(by lia)) (gE (by lia));obtain ⟨u',eu,ru⟩:=rv.get ex;obtain ⟨v',ev,rw'⟩:=rv2.get ey;have eu':its[j]=u':=by rw [gE h1'] at eu;exact bC eu
       have ev':its2[j]=v':=by rw [gE h2'] at ev;exact bC ev
       have g1:ds.getD j .non=ds[j]'(by lia):=by rw [ah,gE (by lia)];rfl
       have g2:es.getD j .non=es[j]'(by lia):=by rw [ah,gE (by lia)];rfl
       show SeqAt.EqAt A.in1 s (its.toArray[j]) (its2.toArray[j]) (eqD (ds.getD j .non) (es.getD j .non));rw [jN,jN,eu',ev',g1,g2];exact ih (aS (deps_get (gE (by lia))) hd') (by show A.units+1+n<cLine;lia) I dx dy ru rw' (oB pd (gE (by lia))) (oB pe (gE (by lia)))
      have e2:eqD (.tup ds) (.tup es)=((aK (min its.toArray.size its2.toArray.size)).all (fun j=>eqD (ds.getD j .non) (es.getD j .non)) && its.toArray.size == its2.toArray.size):=by
       rw [eqD_tup,eqDs_all,aB,aB,l1,l2]
      rw [e2];exact SeqAt.EqAt.of_refs hab key
end L2
namespace L2
open PySem PySem.Spec PyProof.Rows
theorem ji:CallR X (.type "tuple") (fun xs H Q=>∃ p ys,xs=[.ref p]∧SqL X.K H p ys∧New H (.tup ys) Q) :=
 call_tuple_of.imp fun _ _ _ ⟨p,ys,e,h,q⟩=>⟨p,ys,e,.inl ⟨h,q.of⟩⟩
theorem gY {Q:VK}(Pv:Nat→List V→Hp→Prop)(h0:Pv 0 [] H)(hl:∀ i ys H,i≤xs.length→Pv i ys H→SqL K H a xs∧ys.length≤i)(hz:xs.length≤aR)
  (hs:∀ i x ys H,xs[i]? =some x→Pv i ys H→tt (some x::dh σ js) H fun b H4=>if b=true then te (some x::dh σ js) H4 fun y H5=>Pv (i+1) (ys++[y]) H5 else Pv (i+1) ys H4)
  (hd:∀ ys H,Pv xs.length ys H→∀ D,H D=none→Q (.ref D) (upd H D (.lst ys))):CompW js tt te σ Q (Itl K a) H:=by
 refine ⟨fun i m ys H=>i≤xs.length∧m=xs.length - i∧Pv i ys H,⟨_,bE _,rfl,h0⟩,fun i m ys H2 ⟨hi,hm,hp⟩=>?_⟩;obtain ⟨hq,hy⟩:=hl i ys H2 hi hp
 by_cases e:i=xs.length
 ·subst e
  exact .inl ⟨⟨xs,hq,az _⟩,hd ys H2 hp⟩
 ·have hlt:i<xs.length:=gq hi e
  refine .inr ⟨⟨xs,_,hq,gE hlt⟩,by lia,Pv (i+1),fun ys' H' hp'=>⟨xs.length - (i+1),by lia,by lia,rfl,hp'⟩,fun x H3 hy3=>?_⟩;obtain ⟨e3,hx⟩:=hy3;subst e3;exact hs i x ys H3 (hx xs hq) hp
theorem km {Q:VK}(Pv:Nat→List V→Hp→Prop)(h0:Pv 0 [] H)(hl:∀ i ys H,i≤n→Pv i ys H→ys.length≤i)(hz:n≤aR)
  (hs:∀ (i:Nat) ys H,i<n→Pv i ys H→tt (some (.int (lo+i))::dh σ js) H fun b H4=>if b=true then te (some (.int (lo+i))::dh σ js) H4 fun y H5=>Pv (i+1) (ys++[y]) H5 else Pv (i+1) ys H4)
  (hd:∀ ys H,Pv n ys H→∀ D,H D=none→Q (.ref D) (upd H D (.lst ys))):CompW js tt te σ Q (Itr lo n) H:=by
 refine ⟨fun i m ys H=>i≤n∧m=n - i∧Pv i ys H,⟨_,bE _,rfl,h0⟩,fun i m ys H2 ⟨hi,hm,hp⟩=>?_⟩;have hy:=hl i ys H2 hi hp
 by_cases e:i=n
 ·subst e
  exact .inl ⟨az _,hd ys H2 hp⟩
 ·have hlt:i<n:=gq hi e
  refine .inr ⟨hlt,by lia,Pv (i+1),fun ys' H' hp'=>⟨n - (i+1),by lia,by lia,rfl,hp'⟩,fun x H3 hy3=>?_⟩;obtain ⟨e3,hx⟩:=hy3;subst e3 hx;exact hs i ys H3 hlt hp
theorem ps_setCC {iy:Nat}{y0:Str}{py spos:Pos}{xs:List Str}
  (hN0:X.N.Nodup) (hi0:X.N[iy]? =some y0) (hx0:Loc X.env.scope y0) (hc:X.calm=true) (hi:PI X tg iter wi)
  (iH:∀ y∈scope.names,y.2≠ .cell) (mj:scope.kind= .function) (k9:∀ y∈scope.names,y.2= .local→scope.names.lookup y.1=some .local)
  (hfr:∀ y∈scope.names,y.2= .free→X.env.scope.names.lookup y.1=some .cell) (hjs:js.map (fun j=>X.N[j]?)=fr.map some) (hfv:∀ y∈fr,scope.names.lookup y=some .free)
  (hg:∀ cl C s' H' ex,PG (fP X scope cl C (xs++fr) s' H' ex) tg g)
  (hb:∀ cl C s' H' ex,PE (fP X scope cl C (xs++fr) s' H' ex) elt te∧PTs (fP X scope cl C (xs++fr) s' H' ex) ifs tt)
  (hCW:∀ σ Q J H1,CW σ Q J H1→pM xs.length g js tt te σ Q J H1) (hs:∀ z,fW iter X.env z=eQ z:=by intro _;rfl) (hsw:j4 (.ListComp elt [⟨tg,iter,ifs,0⟩] scope pos) (some (.Name y0 py)) spos.line X.env=eQ true:=by rfl)
  (hf0:X.fn y0=true∨X.env.scope.names.lookup y0=some .local:=by first | exact .inl rfl | exact .inr rfl | assumption) :
  PS X (.Assign [.Name y0 py] (.ListComp elt [⟨tg,iter,ifs,0⟩] scope pos) spos) (tAsg (fun σ H Q=>wi σ H fun J H1=>CW σ Q J H1) (nj iy)):=by
 intro aJ s σ H Dn I h;rw [exec_Assign_Name_used _ _ _ _ hsw];refine ae (wpAny_standAt (ae ?_));show aH _ X.A (do let _ ← comprehension (.ListComp elt [⟨tg,iter,ifs,0⟩] scope pos) scope X.env _ (newList []) false (dg iter X.env) (some (assign (.Name y0 py) X.env))) _ _ s;refine ae (bH (comp_core (use:=some (assign (.Name y0 py) X.env)) (R:=fun _ s'=>SP X aJ Dn .next s') hc hi iH mj k9 hfr hjs hfv hg hb hCW I h (fun s4 H5 D C mC hnC I5 nC locC fsC pinX cC sC q=>?_) hs) (fun _ s' hq=>aA (aA hq)) fun _ _ e=>e);obtain ⟨oC,esC,epC,hoC,rC⟩:=id hnC;have I6:Inv X ((C,oC)::aJ) σ H5 s4:=I5.pins_of fun p hp=>by
  rcases aF.mp hp with rfl | hp
  ·refine ⟨hoC,nC,locC,fsC,fun v z=>?_⟩
   rw [rC.1] at z;cases z
  ·exact I5.pin p (ay _ hp)
 have hPG0:PG X (.Name y0 py) (nj iy):=nc hN0 hi0 hx0 hf0;refine thn (hPG0 _ s4 σ _ (.ref D) (.ref D) (fun σ' H'=>Dn.nx σ' H'∧H' C=none) I6 rfl ⟨q,nC⟩) fun _ s6 ⟨σ6,H6,I7,q7,n7⟩=>?_
 have o7:=(I7.pin (C,oC) (ay _ (aX ..))).1;refine ⟨mC,⟨oC,esC,epC,o7,rC⟩,fun h' hsb=>⟨σ6,H6,?_,q7⟩⟩;have I8:Inv X aJ σ6 H6 s6:=I7.pins_of fun p hp=>I7.pin p (ay _ (aD _ hp))
 exact I8.turned (t':=s6.toks) (it:=C) (fun b o hb' e=>hsb.extBut b o hb' e) n7 locC (.inr sC) cC pinX
theorem oo {iy:Nat}{y0:Str}{py spos:Pos}{px:Pos}
  (hN0:X.N.Nodup) (hi0:X.N[iy]? =some y0) (hx0:Loc X.env.scope y0) (hc:X.calm=true) (hi:PI X (.Name x px) iter wi)
  (iH:∀ y∈scope.names,y.2≠ .cell) (mj:scope.kind= .function) (k9:∀ y∈scope.names,y.2= .local→scope.names.lookup y.1=some .local) (hx:scope.names.lookup x=some .local)
  (hfr:∀ y∈scope.names,y.2= .free→X.env.scope.names.lookup y.1=some .cell) (hnd:(x::fr).Nodup) (hjs:js.map (fun j=>X.N[j]?)=fr.map some) (hfv:∀ y∈fr,scope.names.lookup y=some .free)
  (hb:∀ cl C s' H' ex,PE (fP X scope cl C (x::fr) s' H' ex) elt te∧PTs (fP X scope cl C (x::fr) s' H' ex) ifs tt)
  (hs:∀ z,fW iter X.env z=eQ z:=by intro _;rfl) (hsw:j4 (.ListComp elt [⟨.Name x px,iter,ifs,0⟩] scope pos) (some (.Name y0 py)) spos.line X.env=eQ true:=by rfl)
  (hf0:X.fn y0=true∨X.env.scope.names.lookup y0=some .local:=by first | exact .inl rfl | exact .inr rfl | assumption) :
  PS X (.Assign [.Name y0 py] (.ListComp elt [⟨.Name x px,iter,ifs,0⟩] scope pos) spos) (tAsg (tComp wi js tt te) (nj iy)) :=
 ps_setCC (xs:=[x]) (g:=nj 0) hN0 hi0 hx0 hc hi iH mj k9 hfr hjs hfv (fun _ _ _ _ _=>nc hnd rfl (.inl (dW hx)) (.inr (dW hx))) hb (fun _ _ _ _ h=>compW_T h) hs hsw hf0
def notStar:Expr→Bool
 | .Starred _ _=>false
 | _=>true
theorem starEach_not (h:notStar e=true):bb (e::es) env=(false,dg e env)::bb es env:=by
 cases e <;> first | rfl | cases h
theorem pa_k (ha:PE X e te)(hr:PA X es t)(h:notStar e=true:=by rfl):PA X (e::es) (tCons te t):=aq ha hr (starEach_not h)
structure PEs (X:Cx)(e:Expr)(t:TE):Prop where
 h:PE X e t
structure PAs (X:Cx)(es:List Expr)(t:TA):Prop where
 h:PA X es t
structure PSt (X:Cx)(st:cG)(t:TS):Prop where
 h:PS X st t
theorem ps_cutK {t:TS}(h:PS X st t):PS X st (fun D σ H=>∃ N:St→Hp→Prop,(∀ σ' H',N σ' H'→D.nx σ' H')∧t { D with nx:=N } σ H):=by
 intro aJ s σ H D I ⟨N,hN,ht⟩;refine thn (h aJ s σ H { D with nx:=N } I ht) fun f s' q=>?_
 cases f with
 | next=>obtain ⟨σ',H',I',n'⟩:=q;exact ⟨σ',H',I',hN _ _ n'⟩
 | brk=>exact q
 | cont=>exact q
 | ret u=>exact q
structure PSl (X:Cx)(sts:List cG)(t:TS):Prop where
 h:PSs X sts t
section
variable {a b:Expr}{tb:TE}
theorem i4 {i j}:PEs X (.Constant (.int i) j pos) (tC (.int i)):=⟨bR⟩
theorem k_op {op:Operator}{r:R2}(ho:OpR X (fX op) r)(ha:PEs X a ta)(hb:PEs X b tb):PEs X (.BinOp a op b pos) (tOp r ta tb):=⟨dU ho ha.h hb.h⟩
theorem k_ix {r:R2}(hr:IxR X r)(ha:PEs X a ta)(hb:PEs X b tb)(hs:PlainIx b):PEs X (.Subscript a b pos) (tOp r ta tb):=⟨eN hr ha.h hb.h hs⟩
theorem k_lst (h:PAs X es t):PEs X (.List es pos) (tLstA t):=⟨oF h.h⟩
theorem nr:PAs X [] tNil:=⟨aP⟩
theorem dH (ha:PEs X e te)(hr:PAs X es t)(h:notStar e=true:=by rfl):PAs X (e::es) (tCons te t):=⟨pa_k ha.h hr.h h⟩
theorem bg {t u:TS}(a:PSt X st t)(b:PSl X sts u):PSl X (st::sts) (tSeq t u):=⟨nN a.h b.h⟩
theorem c9 {t:TS}(a:PSt X st t):PSl X [st] t:=⟨dA a.h⟩
end
theorem ints_are:∀ {ns:List Int} {us:List aa},Vals (ns.map V.int) us→IntsAre us ns
 | [],_,.nil=> .nil
 | _::_,_,.cons ⟨_,e⟩ r=>by cases e;exact .cons _ _ (ints_are r)
theorem pe_compT {xs:List Str}
  (hc:X.calm=true) (hi:PI X tg iter wi)
  (iH:∀ y∈scope.names,y.2≠ .cell) (mj:scope.kind= .function) (k9:∀ y∈scope.names,y.2= .local→scope.names.lookup y.1=some .local)
  (hfr:∀ y∈scope.names,y.2= .free→X.env.scope.names.lookup y.1=some .cell) (hjs:js.map (fun j=>X.N[j]?)=fr.map some) (hfv:∀ y∈fr,scope.names.lookup y=some .free)
  (hg:∀ cl C s' H' ex,PG (fP X scope cl C (xs++fr) s' H' ex) tg g)
  (hb:∀ cl C s' H' ex,PE (fP X scope cl C (xs++fr) s' H' ex) elt te∧PTs (fP X scope cl C (xs++fr) s' H' ex) ifs tt)
  (hs:∀ z,fW iter X.env z=eQ z:=by intro _;rfl) :
  PE X (.ListComp elt [⟨tg,iter,ifs,0⟩] scope pos) (tCompT wi xs.length g js tt te) :=
 pe_compC hc hi iH mj k9 hfr hjs hfv hg hb (fun _ _ _ _ h=>h) hs
abbrev gPair (K:au):TG:=gTup K 2 (gCons (nj 0) (gCons (nj 1) gNil))
theorem pg_two {y:Str}{k:Nat}{pt:Pos}(hc:X.calm=true)(hnd:(x::y::fr).Nodup)(hx:scope.names.lookup x=some .local)(hy:scope.names.lookup y=some .local) :
  PG (fP X scope cl C ([x,y]++fr) s H ex) (.Tuple [.Name x p1,.Name y p2] k pt) (gPair X.K) :=
 pg_tup hc (lL (nc (i:=0) hnd rfl (.inl (dW hx)) (.inr (dW hx))) (lL (nc (i:=1) hnd rfl (.inl (dW hy)) (.inr (dW hy))) pgs_nil))
theorem fm_some {α β:Type}{f:α→Option β}{g:α→β}:∀ (l:List α),(∀ x∈l,f x=some (g x))→l.filterMap f=l.map g
 | [],_=>rfl
 | x::l,h=>by rw [iD,h x (by simp),cg,fm_some l fun y hy=>h y (aD _ hy)]
theorem pick_back (xs:Array aa):((aK xs.size).filterMap fun (k:Nat)=>xs[((xs.size:Int) - 1+(k:Int) * (-1)).toNat]?)=xs.toList.reverse:=by
 have e:∀ k∈aK xs.size,(fun (k:Nat)=>xs[((xs.size:Int) - 1+(k:Int) * (-1)).toNat]?) k=some ((fun k=>xs.toList.getD (xs.size - 1 - k) .none) k):=fun k hk=>by
  have hk:=bT.mp hk;have:((xs.size:Int) - 1+(k:Int) * (-1)).toNat=xs.size - 1 - k:=by lia
  show xs[((xs.size:Int) - 1+(k:Int) * (-1)).toNat]? =some (xs.toList.getD (xs.size - 1 - k) .none);rw [this,ah,gC,cL (by lia)];rfl
 rw [fm_some _ e];refine List.ext_getElem (by simp) fun i h1 h2=>?_
 have hi:i<xs.size:=by simpa using h1
 rw [ib,iQ,List.getElem_reverse,ah,gE (by rw [bW];lia)];simp
theorem getItem_all {t sl:ai}{vl vu:aa}{lo:Option Int}(ht:IsTup s.heap t items)(hs:s.heap.IsSliceOf sl vl vu .none)(pl:IsPart vl lo)(pu:IsPart vu hi)
  (hw:HT.sIx items.size 0 lo=0∧HT.sIx items.size items.size hi=items.size) (h:Q (.ref t) s):aH (aU prog w) A (getItem (.ref t) (.ref sl)) Q E s:=by
 obtain ⟨os,hos,hcs,hds⟩:=id hs;have hTs:s.TypeIs (.ref sl) "slice" := ⟨os,hos,hcs⟩;unfold getItem
 try with_reducible refine cf ?_
 first | refine ae (aA ?_) | skip
 refine ae (wpAny_sequenceKey ht.typeIs (by decide) ?_);refine ae (df (name:=bY "__getitem__") ht.typeIs cT
  (fq cT ht.typeIs entry_tuple_getitem ?_ (args_tuple_getitem _ _)))
 show aH _ _ (cV.Tuple.tupleItemsOf (.ref t) >>= _) _ _ s;refine ae (tupleItemsOf_ ht ?_);refine ae (wpAny_typeOf hTs ?_);rw [pO (by decide)];refine ae (HT.sliceApplied_gen hs pl pu ?_);show aH _ _ (if (((HT.sIx items.size 0 lo:Nat):Int) == 0 && (1:Int) == 1 && (HT.sIx items.size items.size hi - HT.sIx items.size 0 lo) == items.size)=true then _ else _) _ _ s;rw [hw.1,hw.2,Nat.sub_zero,pO (by simp)];unfold cV.Tuple.tupleIsExact;refine ae (ae (wpAny_typeOf ht.typeIs (aA ?_)));rw [pO (by decide)];exact ae (wpAny_rule (aA ⟨_,rfl,aA h⟩))
theorem sl_tupN:SlR X (fun x lo hi H Q=>∃ a xs,x= .ref a∧H a=some (.tup xs)∧New H (.tup (cutV xs lo hi)) Q):=by
 intro aJ s σ H x v vl vu lo hi sl Q I rx hs pl pu h;obtain ⟨a,xs,rfl,hx,q⟩:=h
 by_cases hw:HT.sIx xs.length 0 lo=0∧HT.sIx xs.length xs.length hi=xs.length
 ·cases rx
  obtain ⟨its,r,ht,hz⟩:=I.tuple (SqT.of (K:=X.K) hx);have hlen:its.toArray.size=xs.length:=by rw [aB];exact r.length.symm
  refine ⟨"tuple",_,cT.lookup,ht.typeIs,?_⟩;refine getItem_all ht hs pl pu (by rw [hlen];exact hw) ⟨.ref a,H,I,rfl,q a H (Same.refl H) ?_⟩;have e:cutV xs lo hi=xs:=by unfold cutV;rw [hw.1,hw.2,List.drop_zero,Nat.sub_zero,bo]
  rw [e];exact hx
 ·exact sl_tup aJ s σ H _ v vl vu lo hi sl Q I rx hs pl pu ⟨a,xs,rfl,SqT.of hx,hw,q.of⟩
theorem vals_back:∀ {xs:List V} {us:List aa},Vals xs us→Vals xs.reverse us.reverse
 | _,_,.nil=> .nil
 | _::_,_::_,.cons r t=>by rw [List.reverse_cons,List.reverse_cons];exact (vals_back t).append (.cons r .nil)
theorem vals_at:∀ {xs:List V} {us:List aa},xs.length=us.length→(∀ (i:Nat) (x:V),xs[i]? =some x→∃ u,us[i]? =some u∧RelV x u)→Vals xs us
 | [],[],_,_=> .nil
 | [],_::_,h,_=>by cases h
 | _::_,[],h,_=>by cases h
 | x::xs,u::us,h,k=>by
  obtain ⟨u',e,r⟩:=k 0 x rfl;cases e;exact .cons r (vals_at (by simpa using h) fun i y hy=>k (i+1) y hy)
theorem oU:CallR X (.type "range") (fun xs H Q=>∃ j:Int,xs=[.int j]∧New H (.rng 0 j) Q):=by
 intro aJ s σ H xs us Q I r h;obtain ⟨j,rfl,q⟩:=h;obtain ⟨u,rfl,ru⟩:=vals1 r;obtain ⟨t,rfl⟩:=(show ∃ t,u=aa.int j t from ru);refine call_range_1 ?_;exact ⟨.ref s.heap.objs.size,_,I.laid (t':=s.toks+1+1) (o:= .rng 0 j) (fun _ _ z=>ak _ z) (az _) ⟨_,_,_,aN _ rfl⟩,rfl,q.of _ I.fresh⟩
theorem pJ (hc:X.calm=true):CallR X (.type "list") (fun xs H Q=>∃ (a:ai) (n:Nat),xs=[.ref a]∧H a=some (.rng 0 (n:Int))∧n≤1000∧∀ l,H l=none→Q (.ref l) (upd H l (.lst ((aK n).map fun k=>V.int (k:Nat))))):=by
 intro aJ s σ H xs us Q I r h;obtain ⟨a,n,rfl,ha,hn,q⟩:=h;obtain ⟨u,rfl,ru⟩:=vals1 r;cases (show u=aa.ref a from ru);obtain ⟨t,u,v,hr⟩:=I.hok a _ ha;have hs:dB 0 (n:Int) 1=n:=by
  unfold dB;rw [pO (by decide)]
  by_cases h0:(0:Int)<n
  ·rw [pO h0,Int.ediv_one];lia
  ·rw [pN h0];lia
 refine call_list_range (n:=n) (I.ok.hd hc) hr (by unfold gB;rw [hs];unfold cV.Range.rangeFitsLong;simp;lia) hs (by lia) fun h' tk acc c hk hg hi=>?_
 refine ⟨.ref s.heap.objs.size,_,I.laid (t':=tk) (o:= .lst ((aK n).map fun k=>V.int (k:Nat))) hk (az _) ⟨?_,acc.toList,c,?_,?_⟩,rfl,q _ I.fresh⟩
 ·rw [af,ba];exact aS hn (by decide)
 ·refine vals_at (by rw [af,ba,bW,hi.1]) fun i x hx=>?_
  rw [ax] at hx;obtain ⟨k,hk2,rfl⟩:=aI.mp hx;have hik:i<n:=by have:=(ar.mp hk2).1;rw [ba] at this;exact this
  rw [iC hik] at hk2;cases hk2;have hi2:i<acc.size:=by rw [hi.1];exact hik
  have e:=cL hi2;obtain ⟨t2,e2⟩:=hi.2 i _ e;refine ⟨_,by rw [gC];exact e,⟨t2,?_⟩⟩;rw [e2];congr 1;lia
 ·rw [Array.toArray_toList];exact hg
theorem pick_backL (its:List aa):slicePick its.toArray none none (some (-1))=its.reverse.toArray:=by
 unfold slicePick;have e0:sliceBounds none none (some (-1)) its.toArray.size=((its.length:Int) - 1,-1,-1):=by
  rw [aB];rfl
 rw [e0];show ((sliceRange ((its.length:Int) - 1) (-1) (-1)).filterMap (its.toArray[·]?)).toArray=_;unfold sliceRange;have ec:(if (-1:Int) > 0 then (if (its.length:Int) - 1< -1 then (-1 - ((its.length:Int) - 1)+ -1 - 1) / -1 else 0) else (if (its.length:Int) - 1 > -1 then ((its.length:Int) - 1 - -1 - -1 - 1) / (- -1) else 0))=(its.length:Int):=by
  rw [pN (by decide),show -(-1:Int)=1 from rfl,Int.ediv_one];split <;> lia
 show (((aK (if (-1:Int) > 0 then (if (its.length:Int) - 1< -1 then (-1 - ((its.length:Int) - 1)+ -1 - 1) / -1 else 0) else (if (its.length:Int) - 1 > -1 then ((its.length:Int) - 1 - -1 - -1 - 1) / (- -1) else 0)).toNat).map fun (k:Nat)=>((its.length:Int) - 1+ -1 * (k:Int)).toNat).filterMap (its.toArray[·]?)).toArray=_;rw [ec,bV,List.filterMap_map];have h:=pick_back its.toArray;rw [aB] at h;congr 1;rw [←h];refine pT (fun f=>List.filterMap f (aK its.length)) (funext fun k=>?_);show its.toArray[((its.length:Int) - 1+ -1 * (k:Int)).toNat]? =its.toArray[((its.length:Int) - 1+(k:Int) * (-1)).toNat]?;rw [Int.mul_comm]
section
variable {κ:Type} [DecidableEq κ]
def kM (kvs:List (κ×V))(k:κ):Option V:=(kvs.find? fun kv=>decide (kv.1=k)).map (·.2)
def mI (kvs:List (κ×V))(k:κ)(v:V):List (κ×V) :=
 if (kvs.any fun kv=>decide (kv.1=k))=true then kvs.map (fun kv=>if kv.1=k then (kv.1,v) else kv) else kvs++[(k,v)]
theorem gG {p:κ×V}{r:List (κ×V)}{k:κ}(e:p.1=k):kM (p::r) k=some p.2:=by simp [kM,gw,e]
theorem fT {p:κ×V}{r:List (κ×V)}{k:κ}(e:¬ p.1=k):kM (p::r) k=kM r k:=by simp [kM,gw,e]
theorem mB (k:κ):∀ kvs:List (κ×V),(kvs.any fun kv=>decide (kv.1=k))=(kM kvs k).isSome
 | []=>rfl
 | p::r=>by
  rw [jJ]
  by_cases e:p.1=k
  ·simp only [gG e,pQ e,Bool.true_or,Option.isSome_some]
  ·rw [fT e,pR e,Bool.false_or];exact mB k r
theorem valV_map (k j:κ)(y:V):∀ kvs:List (κ×V),kM (kvs.map fun kv=>if kv.1=k then (kv.1,y) else kv) j=(kM kvs j).map fun x=>if j=k then y else x
 | []=>rfl
 | p::r=>by
  have ih:=valV_map k j y r;rw [cg]
  by_cases h:p.1=k
  ·rw [pO h]
   by_cases e:p.1=j
   ·rw [gG (p:=(p.1,y)) e,gG e,gn,pO (e.symm.trans h)]
   ·rw [fT (p:=(p.1,y)) e,fT e,ih]
  ·rw [pN h]
   by_cases e:p.1=j
   ·rw [gG (p:=p) e,gG e,gn,pN (fun z=>h (e.trans z))]
   ·rw [fT (p:=p) e,fT e,ih]
theorem valV_snoc (k j:κ)(y:V):∀ kvs:List (κ×V),kM kvs k=none→kM (kvs++[(k,y)]) j=if j=k then some y else kM kvs j
 | [],_=>by
  by_cases e:k=j
  ·rw [pO e.symm];exact gG (p:=(k,y)) e
  ·rw [pN (fun z=>e z.symm)];exact fT (p:=(k,y)) e
 | p::r,hn=>by
  rw [List.cons_append];have hk:¬ p.1=k:=fun z=>by rw [gG z] at hn;cases hn
  rw [fT hk] at hn;have ih:=valV_snoc k j y r hn
  by_cases e:p.1=j
  ·rw [gG e,gG e,pN (fun z=>hk (e.trans z))]
  ·rw [fT e,fT e,ih]
theorem valV_put (kvs:List (κ×V))(k j:κ)(y:V):kM (mI kvs k y) j=if j=k then some y else kM kvs j:=by
 unfold mI
 by_cases a:(kvs.any fun kv=>decide (kv.1=k))=true
 ·rw [pO a,valV_map]
  rw [mB] at a
  by_cases e:j=k
  ·obtain ⟨x,hx⟩:=ku.mp a
   rw [pO e,e,hx,gn,pO rfl]
  ·rw [pN e]
   cases kM kvs j with
   | none=>rfl
   | some x=>rw [gn,pN e]
 ·rw [pN a]
  refine valV_snoc k j y kvs ?_;rw [mB] at a;cases q:kM kvs k with
  | none=>rfl
  | some x=>rw [q] at a;exact (a rfl).elim
theorem jV (kvs:List (κ×V))(k:κ)(v:V):(mI kvs k v).length≤kvs.length+1:=by
 unfold mI;split
 ·rw [af];lia
 ·rw [av,aY,List.length_nil];lia
theorem putK_new {kvs:List (κ×V)}{k:κ}(v:V)(h:kM kvs k=none):mI kvs k v=kvs++[(k,v)]:=by
 unfold mI;rw [mB,h];exact pN (by decide)
theorem RelO.isSome_eq {o:Option V}{u:Option aa}(r:RelO o u):o.isSome=u.isSome:=by
 cases o with
 | none=>cases u with
  | none=>rfl
  | some _=>exact (show False from r).elim
 | some _=>cases u with
  | none=>exact (show False from r).elim
  | some _=>rfl
theorem KV.val {kvs:List (κ×V)}{vs:List (κ×aa)}(r:KV kvs vs)(k:κ):RelO (kM kvs k) (valueAt vs k):=by
 unfold KV at r
 induction r with
 | nil=>exact True.intro
 | @cons p q ps qs h t ih =>
  obtain ⟨h1,h2⟩:=h
  by_cases e:p.1=k
  ·have e':q.1=k:=h1.symm.trans e
   have b:valueAt (q::qs) k=some q.2:=by simp [valueAt,gw,e']
   rw [gG e,b];exact h2
  ·have e':¬ q.1=k:=fun z=>e (h1.trans z)
   have b:valueAt (q::qs) k=valueAt qs k:=by simp [valueAt,gw,e']
   rw [fT e,b];exact ih
theorem KV.any {kvs:List (κ×V)}{vs:List (κ×aa)}(r:KV kvs vs)(k:κ):(kvs.any fun kv=>decide (kv.1=k))=vs.any fun kv=>decide (kv.1=k):=by
 unfold KV at r
 induction r with
 | nil=>rfl
 | cons h t ih=>rw [jJ,jJ,ih,h.1]
theorem KV.repl {kvs:List (κ×V)}{vs:List (κ×aa)}(r:KV kvs vs)(k:κ)(ry:RelV y u) :
  KV (kvs.map fun kv=>if kv.1=k then (kv.1,y) else kv) (vs.map fun kv=>if kv.1=k then (kv.1,u) else kv):=by
 unfold KV at r ⊢
 induction r with
 | nil=>exact .nil
 | @cons p q ps qs h t ih =>
  rw [cg,cg];refine .cons ?_ ih;obtain ⟨h1,h2⟩:=h
  by_cases e:p.1=k
  ·rw [pO e,pO (h1.symm.trans e)];exact ⟨h1,ry⟩
  ·rw [pN e,pN (fun z=>e (h1.trans z))];exact ⟨h1,h2⟩
theorem KV.put {kvs:List (κ×V)}{vs:List (κ×aa)}(r:KV kvs vs)(k:κ)(ry:RelV y u):KV (mI kvs k y) (stored vs k u):=by
 unfold mI stored;rw [r.any k]
 by_cases e:(vs.any fun kv=>decide (kv.1=k))=true
 ·rw [pO e,pO e];exact r.repl k ry
 ·rw [pN e,pN e];exact Paired.snoc r ⟨rfl,ry⟩
theorem KV.length {kvs:List (κ×V)}{vs:List (κ×aa)}(r:KV kvs vs):kvs.length=vs.length:=Paired.length r
end
theorem kV_is {k:Key}(r:RelV (kV k) u):(gg P w).is k u=true:=by
 cases k with
 | inl i=>obtain ⟨t,e⟩:=(show ∃ t,u=aa.int i t from r);subst e;exact mixKind_int P w i t
 | inr x=>obtain ⟨t,e⟩:=(show ∃ t,u=aa.str x t from r);subst e;exact mixKind_str P w x t
theorem items_are {P:aQ}{w:bq}:∀ {ks:List Key} {us:List aa},Vals (ks.map kV) us→ItemsAre (gg P w) ks us
 | [],_,r=>by rw [List.map_nil] at r;cases r;exact .nil
 | k::ks,_,r=>by
  rw [cg] at r;cases r with
  | cons h t=>exact .cons (kV_is h) (items_are t)
abbrev KT (H:Hp):List (List Key×V)→List (List Key×ai×aa)→Prop:=jH fun p q=>p.1=q.1∧H q.2.1=some (.tup (p.1.map kV))∧RelV p.2 q.2.2
theorem KT.val {xs:List (List Key×ai×aa)}(r:KT H kvs xs)(k:List Key):RelO (kM kvs k) ((atKey xs k).map (·.2)):=by
 induction r with
 | nil=>exact True.intro
 | @cons p q ps qs h t ih =>
  obtain ⟨h1,_,h2⟩:=h
  by_cases e:p.1=k
  ·have e':q.1=k:=h1.symm.trans e
   have b:atKey (q::qs) k=some q.2:=by simp [atKey,gw,e']
   rw [gG e,b];exact h2
  ·have e':¬ q.1=k:=fun z=>e (h1.trans z)
   have b:atKey (q::qs) k=atKey qs k:=by simp [atKey,gw,e']
   rw [fT e,b];exact ih
theorem KT.repl {xs:List (List Key×ai×aa)}(r:KT H kvs xs)(k:List Key)(ry:RelV y u) :
  KT H (kvs.map fun kv=>if kv.1=k then (kv.1,y) else kv) (xs.map (putAt k u)):=by
 induction r with
 | nil=>exact .nil
 | @cons p q ps qs h t ih =>
  rw [cg,cg];refine .cons ?_ ih;obtain ⟨h1,h2,h3⟩:=h;unfold putAt
  by_cases e:p.1=k
  ·rw [pO e,pO (h1.symm.trans e)];exact ⟨h1,h2,ry⟩
  ·rw [pN e,pN (fun z=>e (h1.trans z))];exact ⟨h1,h2,h3⟩
theorem KT.put {xs:List (List Key×ai×aa)}(r:KT H kvs xs)(k:List Key){b:ai}(hb:H b=some (.tup (k.map kV)))(ry:RelV y u) :
  KT H (mI kvs k y) (storedH xs k b u):=by
 have e:(kvs.any fun kv=>decide (kv.1=k))=(atKey xs k).isSome:=by
  rw [mB,(r.val k).isSome_eq,Option.isSome_map]
 unfold mI storedH;rw [e]
 by_cases q:(atKey xs k).isSome=true
 ·rw [pO q,pO q];exact r.repl k ry
 ·rw [pN q,pN q];exact Paired.snoc r ⟨rfl,hb,ry⟩
theorem KT.keeps {xs:List (List Key×ai×aa)}(r:KT H kvs xs)(ht:∀ b ys,H b=some (.tup ys)→H' b=some (.tup ys)):KT H' kvs xs :=
 Paired.mapP r fun _ _ z=>⟨z.1,ht _ _ z.2.1,z.2.2⟩
theorem rd_of {u:HO}(ok:HOk P w H h)(e:Rd H a u):ObjOk P w H h a u:=e.ok ok
theorem dk_rd {kvs:List (Key×V)}(ok:HOk P w H h)(e:Rd H a (.dK kvs)):kvs.length≤aR∧(a == iF)=false∧∃ vs,KV kvs vs∧h.DictOf (gg P w) a vs :=
 show ObjOk P w H h a (.dK kvs) from rd_of ok e
theorem dk_of {kvs:List (Key×V)}(ok:HOk P w H h)(e:H a=some (.dK kvs)):kvs.length≤aR∧(a == iF)=false∧∃ vs,KV kvs vs∧h.DictOf (gg P w) a vs:=dk_rd ok (.inl e)
theorem key_of {ks:List Key}(ok:HOk P w H h)(e:H a=some (.tup (ks.map kV))):(tupleKind (gg P w)).is h ks a:=by
 obtain ⟨_,its,r,o,h1,h2,_,n,h3⟩:=(show ObjOk P w H h a (.tup (ks.map kV)) from ok a _ e);exact ⟨o,its.toArray,n,h1,h2,h3,by simpa using items_are r⟩
theorem dt_rd (ok:HOk P w H h)(e:Rd H a (.dT kvs)):kvs.length≤aR∧(a == iF)=false ∧
  ∃ xs,KT H kvs xs∧h.DictOfH (tupleKind (gg P w)) a xs:=by
 obtain ⟨z,y,xs,r,o,es,ep,h1,h2,h3,h4,h5⟩:=(show ObjOk P w H h a (.dT kvs) from rd_of ok e);refine ⟨z,y,xs,r,o,es,ep,h1,h2,h3,h4,fun x hx=>?_,h5⟩;have all:∀ {l:List (List Key×V)} {m:List (List Key×ai×aa)},KT H l m→∀ x∈m,(tupleKind (gg P w)).is h x.1 x.2.1:=by
  intro l m q
  induction q with
  | nil=>intro x hx;exact nomatch hx
  | @cons p q ps qs hq t ih =>
   intro x hx
   rcases aF.mp hx with e | hx
   ·subst e
    exact key_of ok (by rw [←hq.1];exact hq.2.1)
   ·exact ih x hx
 exact all r x hx
theorem dt_of (ok:HOk P w H h)(e:H a=some (.dT kvs)):kvs.length≤aR∧(a == iF)=false ∧
  ∃ xs,KT H kvs xs∧h.DictOfH (tupleKind (gg P w)) a xs:=dt_rd ok (.inl e)
def DGet (H:Hp)(a:ai)(y:V)(r:Option V):Prop :=
 (∃ kvs k,Rd H a (.dK kvs)∧y=kV k∧r=kM kvs k)∨∃ kvs k b,Rd H a (.dT kvs)∧y= .ref b∧H b=some (.tup (k.map kV))∧r=kM kvs k
def DPut (H:Hp)(a:ai)(y v:V)(H':Hp):Prop :=
 (∃ kvs k,H a=some (.dK kvs)∧y=kV k∧kvs.length<aR∧H'=upd H a (.dK (mI kvs k v))) ∨
 ∃ kvs k b,H a=some (.dT kvs)∧y= .ref b∧H b=some (.tup (k.map kV))∧kvs.length<aR∧H'=upd H a (.dT (mI kvs k v))
theorem DGet.k {H:Hp}{a:ai}{kvs:List (Key×V)}{k:Key}(e:H a=some (.dK kvs)):DGet H a (kV k) (kM kvs k):= .inl ⟨kvs,k,.inl e,rfl,rfl⟩
theorem DPut.k {H:Hp}{a:ai}{kvs:List (Key×V)}{k:Key}{v:V}(e:H a=some (.dK kvs))(hl:kvs.length<aR):DPut H a (kV k) v (upd H a (.dK (mI kvs k v))):= .inl ⟨kvs,k,e,rfl,hl,rfl⟩
section
variable {r:aa}{o:Option V}
theorem d_getItem (hu:A.units+1<cLine)(I:Inv X aJ σ H s)(g:DGet H a y (some v))(ry:RelV y u)(h:∀ w' s',Inv X aJ σ H s'→RelV v w'→Q w' s') :
  aH (aU X.prog X.w) A (getItem (.ref a) u) Q E s:=by
 rcases g with ⟨kvs,k,e,ey,l⟩ | ⟨kvs,k,b,e,ey,eb,l⟩
 ·subst ey
  obtain ⟨z,hd,vs,rel,dd⟩:=dk_rd I.hok e;obtain ⟨w',hw,rw'⟩:=RelO.some_of (v:=v) (o:=valueAt vs k) (by rw [l];exact rel.val k);exact wpAny_getItem_of (kV_is ry) dd.mapOf hw (h w' _ (I.tok _) rw')
 ·subst ey
  cases (show u=aa.ref b from ry);obtain ⟨z,hd,xs,rel,dd⟩:=dt_rd I.hok e;obtain ⟨w',hw,rw'⟩:=RelO.some_of (v:=v) (o:=(atKey xs k).map (·.2)) (by rw [l];exact rel.val k);obtain ⟨p,hp,hp2⟩:=aI.mp hw;refine wpAny_getItem_heap (tupleKind_room_in1 hu) (key_of I.hok eb) dd hp ?_;rw [hp2];exact h w' _ (I.tok _) rw'
theorem d_notIn (hu:A.units+1<cLine)(I:Inv X aJ σ H s)(g:DGet H a y o)(ry:RelV y u)(h:∀ s',Inv X aJ σ H s'→Q (.bool (!o.isSome)) s') :
  aH (aU X.prog X.w) A (fQ .NotIn u (.ref a)) Q E s:=by
 rcases g with ⟨kvs,k,e,ey,l⟩ | ⟨kvs,k,b,e,ey,eb,l⟩
 ·subst ey
  obtain ⟨z,hd,vs,rel,dd⟩:=dk_rd I.hok e;refine wpAny_notIn_of (kV_is ry) hd dd.mapOf ?_;rw [←(rel.val k).isSome_eq,←l];exact h _ (I.tok _)
 ·subst ey
  cases (show u=aa.ref b from ry);obtain ⟨z,hd,xs,rel,dd⟩:=dt_rd I.hok e;refine wpAny_notIn_heap (tupleKind_room_in1 hu) (key_of I.hok eb) hd dd ?_;have q:=(rel.val k).isSome_eq;rw [Option.isSome_map] at q;rw [←q,←l];exact h _ (I.tok _)
theorem d_write {ob:HO}(I:Inv X aJ σ H s)(mu:Mut (H a))(hs:cb a s.heap h')(he:∃ q,h'.get? a=some q)(new:ObjOk X.prog X.w (upd H a ob) h' a ob) :
  Inv X aJ σ (upd H a ob) { s with heap:=h',toks:=t' } :=
 I.write (x:=a) (e:=a) mu (.inl rfl) (fun b q hb z=>(hs.2 b hb).trans z) he new
theorem dk_new {kvs:List (Key×V)}{vs:List (Key×aa)}(z:kvs.length≤aR)(hd:(a == iF)=false)(rel:KV kvs vs)(dd:h'.DictOf (gg P w) a vs) :
  ObjOk P w H' h' a (.dK kvs):=⟨z,hd,vs,rel,dd⟩
theorem d_setItem {Q:Unit→ao→Prop}(hu:A.units+1<cLine)(I:Inv X aJ σ H s)(g:DPut H a y v H')(ry:RelV y u)(rv:RelV v r)(h:∀ s',Inv X aJ σ H' s'→Q () s') :
  aH (aU X.prog X.w) A (setItem (.ref a) u r) Q E s:=by
 rcases g with ⟨kvs,k,e,ey,l,eH⟩ | ⟨kvs,k,b,e,ey,eb,l,eH⟩
 ·subst ey eH
  obtain ⟨z,hd,vs,rel,dd⟩:=dk_of I.hok e;have hz:vs.length≤aR:=by rw [←rel.length];exact z
  have hl:(mI kvs k v).length≤aR:=by have:=jV kvs k v;lia
  refine wpAny_setItem_pairs (hsz:=hz) (kV_is ry) dd fun h' dd' hs=>h _ ?_
  have he:∃ q,h'.get? a=some q:=let ⟨q,_,_,hq,_⟩:=dd';⟨q,hq⟩;exact d_write I (by rw [e];exact True.intro) hs he (dk_new hl hd (rel.put k rv) dd')
 ·subst ey eH
  cases (show u=aa.ref b from ry);obtain ⟨z,hd,xs,rel,dd⟩:=dt_of I.hok e;have hz:xs.length≤aR:=by rw [←Paired.length rel];exact z
  have hl:(mI kvs k v).length≤aR:=by have:=jV kvs k v;lia
  refine wpAny_setItem_heap (hsz:=hz) (tupleKind_room_in1 hu) (key_of I.hok eb) dd fun h' dd' hs=>h _ ?_
  obtain ⟨q,es,ep,hq,h2,h3,h4,_,h5⟩:=dd';refine d_write I (by rw [e];exact True.intro) hs ⟨q,hq⟩ ⟨hl,hd,_,(rel.put k eb rv).keeps fun c ys ec=>?_,q,es,ep,hq,h2,h3,h4,h5⟩;rw [aZ (eV ec e (fun z=>nomatch z))];exact ec
end
def NoSl (i:Expr):Prop:=∀ ov iv,subscripted i false ov iv=operate [ov,iv] (getItem ov iv)
theorem subD_of {slice:Expr}{id:String}
  (hl:typeLookup (.type T) "__getitem__" =eQ (some (.builtin id))) (hs:NoSl slice)
  (h:aH (aU prog w) A (dg value env) (fun o s₁=>aH (aU prog w) A (dg slice env) (fun i s₂=>s₂.TypeIs o T∧aH (aU prog w) A (getItem o i) Q E s₂) E s₁) E s) :
  aH (aU prog w) A (dg (.Subscript value slice pos) env) Q E s:=by
 refine Subscript_ (bH h (fun o s₁ h₁=>bH h₁ (fun i s₂ h₂=>?_) fun _ _ x=>x) fun _ _ x=>x);obtain ⟨hT,h₂⟩:=h₂;unfold subscriptTail;refine ae ?_;rw [getitemInPython_of_ne hT.not_modules];refine ae (wpAny_specialOf hT hl ?_);have fin:aH (aU prog w) A (subscripted slice false o i) (fun r s₃=>aH (aU prog w) A (letTemporaryGo value o r >>= fun _=>eQ r) Q E s₃) E s₂:=by
  rw [hs o i];exact wpAny_operating (bH h₂ (fun r s₃ h₃=>ae (wpAny_letTemporaryGo (aA h₃))) fun _ _ x=>x)
 first
  | exact aA (ae fin)
  | exact ae (aA (ae fin))
  | exact ae fin
theorem dict_typeIs {o:Option V}(I:Inv X aJ σ H s)(g:DGet H a y o):s.TypeIs (.ref a) "dict" := by
 rcases g with ⟨kvs,k,e,_,_⟩ | ⟨kvs,k,b,e,_,_,_⟩
 ·obtain ⟨_,_,vs,_,dd⟩:=dk_rd I.hok e
  exact dd.typeIs
 ·obtain ⟨_,_,xs,_,dd⟩:=dt_rd I.hok e
  exact dd.typeIs
def tDGet (td ty:TE):TE:=fun σ H Q=>td σ H fun x H1=>ty σ H1 fun y H2=>∃ a v,x= .ref a∧DGet H2 a y (some v)∧Q v H2
def tDNotIn (ty td:TE):TE:=fun σ H Q=>ty σ H fun y H1=>td σ H1 fun x H2=>∃ a o,x= .ref a∧DGet H2 a y o∧Q (.bl (!o.isSome)) H2
def sDPut (td ty tv:TE):TS:=fun D σ H=>tv σ H fun v H1=>td σ H1 fun x H2=>ty σ H2 fun y H3=>∃ a H4,x= .ref a∧DPut H3 a y v H4∧D.nx σ H4
section
variable {o i:Expr}{tpos:Pos}{td ty:TE}
theorem pe_dget (hu:X.A.units+1<cLine)(ho:PE X o td)(hi:PE X i ty)(hs:NoSl i):PE X (.Subscript o i pos) (tDGet td ty):=by
 intro aJ s σ H Q I h;refine subD_of PySem.F.slot_dict_getitem.lookup hs (thn (ho aJ s σ H _ I h) fun u s1 ⟨x,H1,I1,rx,q1⟩=>thn (hi aJ s1 σ H1 _ I1 q1) fun iv s2 ⟨y,H2,I2,ry,a,v,ex,g,q2⟩=>?_);subst ex;obtain rfl:u=aa.ref a:=rx;exact ⟨dict_typeIs I2 g,d_getItem hu I2 g ry fun w' s3 I3 rw'=>⟨v,H2,I3,rw',q2⟩⟩
theorem mJ (hu:X.A.units+1<cLine)(hi:PE X i ty)(ho:PE X o td):PC X .NotIn i o (tDNotIn ty td):=by
 intro aJ s σ H Q I h;refine thn (hi aJ s σ H _ I h) fun iv s1 ⟨y,H1,I1,ry,q1⟩=>thn (ho aJ s1 σ H1 _ I1 q1) fun u s2 ⟨x,H2,I2,rx,a,ov,ex,g,q2⟩=>?_
 subst ex;obtain rfl:u=aa.ref a:=rx;exact d_notIn hu I2 g ry fun s3 I3=>⟨.bl (!ov.isSome),H2,I3,rfl,q2⟩
theorem ps_dput (hu:X.A.units+1<cLine)(ho:PE X o td)(hi:PE X i ty)(hv:PE X value tv)(hs:j4 value (some (.Subscript o i pos')) pos.line X.env=eQ false) :
  PS X (.Assign [.Subscript o i pos'] value pos) (sDPut td ty tv):=by
 intro aJ s σ H D I h;refine wpAny_Assign_Subscript (thn (hv aJ s σ H _ I h) fun r s1 ⟨v,H1,I1,rv,q1⟩=>thn (ho aJ s1 σ H1 _ I1 q1) fun u s2 ⟨x,H2,I2,rx,q2⟩=>thn (hi aJ s2 σ H2 _ I2 q2) fun iv s3 ⟨y,H3,I3,ry,a,H4,ex,g,q3⟩=>?_) hs;subst ex;obtain rfl:u=aa.ref a:=rx;exact d_setItem hu I3 g ry rv fun s4 I4=>⟨σ,H4,I4,q3⟩
end
def tPairs:List (TE×TE)→St→Hp→(List (V×V)→Hp→Prop)→Prop
 | [],_,H,Q=>Q [] H
 | (tk,tv)::r,σ,H,Q=>tk σ H fun x H1=>tv σ H1 fun y H2=>tPairs r σ H2 fun ps H3=>Q ((x,y)::ps) H3
abbrev VV:List (V×V)→List (aa×aa)→Prop:=jH fun p q=>RelV p.1 q.1∧RelV p.2 q.2
def PPs (X:Cx)(pos:Pos)(keys:List (Option Expr))(values:List Expr)(trs:List (TE×TE)):Prop :=
 ∀ (aJ:List (ai×Obj)) (s:ao) (σ:St) (H:Hp) (Q:List (V×V)→Hp→Prop),Inv X aJ σ H s→tPairs trs σ H Q →
  aH (aU X.prog X.w) X.A (evalPairs (pairTrees keys values X.env pos)) (fun vs s'=>∃ ps H',Inv X aJ σ H' s'∧VV ps vs∧Q ps H') X.xe s
theorem pps_nil:PPs X pos [] [] []:=fun aJ s σ H Q I h=>pairTrees_nil_walk ⟨[],H,I,.nil,h⟩
theorem pps_cons {k v:Expr}{ks:List (Option Expr)}{vs:List Expr}{tk:TE}(hk:PE X k tk)(hv:PE X v tv)(hr:PPs X pos ks vs trs) :
  PPs X pos (some k::ks) (v::vs) ((tk,tv)::trs):=fun aJ s σ H Q I h =>
 pairTrees_cons_walk (thn (hk aJ s σ H _ I h) fun u s1 ⟨x,H1,I1,rx,q1⟩=>thn (hv aJ s1 σ H1 _ I1 q1) fun w2 s2 ⟨y,H2,I2,ry,q2⟩ =>
  thn (hr aJ s2 σ H2 _ I2 q2) fun ws s3 ⟨ps,H3,I3,rel,q3⟩=>⟨(x,y)::ps,H3,I3,.cons ⟨rx,ry⟩ rel,q3⟩)
def mK (kvs more:List (Key×V)):List (Key×V):=more.foldl (fun acc kv=>mI acc kv.1 kv.2) kvs
theorem KV.merge:∀ {more:List (Key×V)} {rs:List (Key×aa)} {kvs:List (Key×V)} {vs:List (Key×aa)},KV more rs→KV kvs vs→KV (mK kvs more) (merged vs rs):=by
 intro more rs kvs vs r;unfold KV at r
 induction r generalizing kvs vs with
 | nil=>intro q;exact q
 | @cons p q ps qs h t ih =>
  intro r0;have e:KV (mI kvs p.1 p.2) (stored vs q.1 q.2):=by
   have:=r0.put p.1 h.2;rw [←h.1];exact this
  exact ih e
theorem mM:∀ (more kvs:List (Key×V)),(mK kvs more).length≤kvs.length+more.length
 | [],kvs=>by show kvs.length≤kvs.length+0;lia
 | p::r,kvs=>by
  have h1:=mM r (mI kvs p.1 p.2);have h2:=jV kvs p.1 p.2;show (mK (mI kvs p.1 p.2) r).length≤_;rw [aY];lia
theorem pI {P:aQ}{w:bq}:∀ {kvs:List (Key×V)} {ws:List (aa×aa)},VV (kvs.map fun kv=>(kV kv.1,kv.2)) ws→∃ rs,Carries (gg P w) ws rs∧KV kvs rs
 | [],_,r=>by rw [List.map_nil] at r;cases r;exact ⟨[],True.intro,.nil⟩
 | p::kvs,_,r=>by
  rw [cg] at r;cases r with
  | @cons a b as bs h t =>
   obtain ⟨rs,c,q⟩:=pI (P:=P) (w:=w) t;obtain ⟨b1,b2⟩:=b;exact ⟨(p.1,b2)::rs,⟨kV_is h.1,rfl,c⟩,.cons ⟨rfl,h.2⟩ q⟩
def tDisp (trs:List (TE×TE)):TE:=fun σ H Q=>∀ p,H p=none→tPairs trs σ (upd H p (.dK [])) fun ps H2=>H2 p=some (.dK [])∧∃ kvs:List (Key×V),ps=kvs.map (fun kv=>(kV kv.1,kv.2))∧kvs.length≤15∧Q (.ref p) (upd H2 p (.dK (mK [] kvs)))
theorem pe_disp {values:List Expr}(h:PPs X pos keys values trs)(hall:keys.all (·.isSome)=true)(hl:keys.length=values.length)(h0:keys≠[])
  (h15:keys.length≤15):PE X (.Dict keys values pos) (tDisp trs):=by
 intro aJ s σ H Q I q;have hn:=I.hok.fresh (az s.heap.objs.size);have I1:=I.laid (a:=s.heap.objs.size) (o:= .dK []) (h':=s.heap.push { cls:= .type "dict",data:= .dict #[] }) (t':=s.toks) (fun _ _ q=>ak _ q) (az _) (dk_empty s.heap I.big);refine wpAny_Dict_walk (knd:=gg X.prog X.w) hall hl h0 h15 (thn (h aJ _ σ _ _ I1 (q _ hn)) fun ws s2 ⟨ps,H2,I2,rel,e,kvs,ep,lk,q2⟩=>?_);subst ep;obtain ⟨rs,c,rk⟩:=pI (P:=X.prog) (w:=X.w) rel;obtain ⟨z,hd,vs0,r0,dd⟩:=dk_of I2.hok e;cases r0;refine ⟨rs,c,dd,fun h' dd' hs=>⟨.ref s.heap.objs.size,_,?_,rfl,q2⟩⟩;have hz:(mK [] kvs).length≤aR:=by
  have h1:=mM kvs [];rw [List.length_nil] at h1;rw [eG];lia
 have he:∃ q,h'.get? s.heap.objs.size=some q:=let ⟨q,_,_,hq,_⟩:=dd';⟨q,hq⟩;exact d_write I2 (by rw [e];exact True.intro) hs he (dk_new hz hd (rk.merge .nil) dd')
structure M2 (X:Cx)(o:Expr)(m:Str)(apos:Pos)(e f:Expr)(cpos:Pos):Prop where
 base:gT o m X.env (dg o X.env)=dg o X.env
 few:((dM cpos (bb [e,f] X.env)).all (fun x=> !x.1) && (backToKw cpos (keywordEach [] X.env)).all (fun x=>x.1.isSome)
  && decide (([e,f]:List Expr).length+([]:List Keyword).length+(if ([]:List Keyword).isEmpty then 0 else 1)<30))=true
 line:(apos.endLine == cpos.line)=true
 trees:dM cpos (bb [e,f] X.env)=[(false,dg e X.env),(false,dg f X.env)]
def IsDct (H:Hp)(a:ai):Prop:=(∃ kvs,Rd H a (.dK kvs))∨∃ kvs,Rd H a (.dT kvs)
theorem isDct_at (I:Inv X aJ σ H s)(d:IsDct H a) :
  s.TypeIs (.ref a) "dict" ∧(∀ b,aa.ref a= .ref b→∃ ob,s.heap.get? b=some ob∧ob.dict=none)∧(a == iF)=false:=by
 rcases d with ⟨kvs,e⟩ | ⟨kvs,e⟩
 ·obtain ⟨_,hd,vs,_,dd⟩:=dk_rd I.hok e
  refine ⟨dd.typeIs,fun b q=>?_,hd⟩;cases q;obtain ⟨ob,_,_,h1,h2,_⟩:=dd;exact ⟨ob,h1,h2.2.1⟩
 ·obtain ⟨_,hd,xs,_,dd⟩:=dt_rd I.hok e
  refine ⟨dd.typeIs,fun b q=>?_,hd⟩;cases q;obtain ⟨ob,_,_,h1,h2,_⟩:=dd;exact ⟨ob,h1,h2.2.1⟩
end L2
namespace Att
open PySem PySem.W PySem.Calls PyProof.Rows
end Att
namespace L2
open PySem PySem.Spec PyProof.Rows
section
variable {κ:Type} [DecidableEq κ]
theorem nd_snoc:∀ {l:List κ} {k:κ},l.Nodup→¬ k∈l→(l++[k]).Nodup
 | [],k,_,_=>by simp
 | a::r,k,h,hk=>by
  obtain ⟨h1,h2⟩:=bz.mp h;show (a::(r++[k])).Nodup;refine bz.mpr ⟨fun m=>?_,nd_snoc h2 fun m=>hk (aF.mpr (Or.inr m))⟩
  rcases aG.mp m with q | q
  ·exact h1 q
  ·exact hk (aF.mpr (Or.inl (aw.mp q).symm))
end
theorem nG {α β:Type}{f:α→β→Sem (ForInStep β)}{Q:β→ao→Prop}:∀ (l:List α) (I:Nat→β→ao→Prop) (b:β) (s:ao),I 0 b s →
  (∀ i a b s,l[i]? =some a→I i b s→aH M A (f a b) (fun r s'=>∃ b',r= .yield b'∧I (i+1) b' s') E s)→(∀ b s,I l.length b s→Q b s)→aH M A (forIn l b f) Q E s
 | [],_,b,s,h0,_,hd=>by
  rw [List.forIn_nil];exact aA (hd b s h0)
 | a::l,I,b,s,h0,hs,hd=>by
  rw [List.forIn_cons];refine ae (bH (hs 0 a b s rfl h0) (fun r s' ⟨b',e,h'⟩=>?_) fun _ _ f=>f);subst e;exact nG l (fun i=>I (i+1)) b' s' h' (fun i a b s ha hi=>hs (i+1) a b s ha hi) fun b s h=>hd b s h
structure Sq where
 l:Bool
 a:ai
def SqAt (h:bw)(c:Sq)(xs:Array aa):Prop:=match c.l with | true=>h.IsList c.a xs | false=>h.IsTuple c.a xs
def ItAt (h:bw)(c:Sq)(i:ai)(k:Nat):Prop:=match c.l with | true=>h.IsListIter i c.a k | false=>h.IsTupleIter i c.a k
abbrev mw (h:bw)(T:ai)(vs:List aa):Prop:=h.get? T=some { cls:= .type "tuple",data:= .seq vs.toArray }
theorem SqAt.ext {g:bw}{c:Sq}{xs:Array aa}(x:SqAt h c xs)(e:∀ o,h.get? c.a=some o→g.get? c.a=some o):SqAt g c xs:=by
 obtain ⟨l,a⟩:=c;cases l with
 | true=>obtain ⟨o,ho,r⟩:=(show h.IsList a xs from x);exact ⟨o,e o ho,r⟩
 | false=>obtain ⟨o,ho,r⟩:=(show h.IsTuple a xs from x);exact ⟨o,e o ho,r⟩
theorem ItAt.ext {g:bw}{c:Sq}{i:ai}{k:Nat}(x:ItAt h c i k)(e:∀ o,h.get? i=some o→g.get? i=some o):ItAt g c i k:=by
 obtain ⟨l,a⟩:=c;cases l with
 | true=>obtain ⟨o,ho,r⟩:=(show h.IsListIter i a k from x);exact ⟨o,e o ho,r⟩
 | false=>obtain ⟨o,ho,r⟩:=(show h.IsTupleIter i a k from x);exact ⟨o,e o ho,r⟩
theorem ItAt.obj {c:Sq}{i:ai}{k:Nat}(x:ItAt h c i k):∃ o,h.get? i=some o∧∀ v,o.data≠ .cell v:=by
 obtain ⟨l,a⟩:=c;cases l with
 | true=>obtain ⟨o,ho,_,d⟩:=(show h.IsListIter i a k from x);exact ⟨o,ho,fun v z=>by rw [d] at z;cases z⟩
 | false=>obtain ⟨o,ho,_,d⟩:=(show h.IsTupleIter i a k from x);exact ⟨o,ho,fun v z=>by rw [d] at z;cases z⟩
theorem pH {c:Sq}{i:ai}{k:Nat}{xs:Array aa}{v:aa}(jt:ItAt s.heap c i k)(tt:SqAt s.heap c xs)(hv:xs[k]? =some v)
  (q:∀ g,ItAt g c i (k+1)→cb i s.heap g→Q v { s with heap:=g }):aH (aU prog w) A (cF (.ref i)) Q E s:=by
 obtain ⟨l,a⟩:=c;cases l with
 | true=>exact wpAny_nextOf_list_item (show s.heap.IsListIter i a k from jt) (show s.heap.IsList a xs from tt) hv fun g h1 h2=>q g h1 h2
 | false=>exact nextT_item (show s.heap.IsTupleIter i a k from jt) (show s.heap.IsTuple a xs from tt) hv fun g h1 h2=>q g h1 h2
theorem nextS_end {c:Sq}{i:ai}{k:Nat}{xs:Array aa}(hh:A.handled=none)(jt:ItAt s.heap c i k)(tt:SqAt s.heap c xs)(hv:xs[k]? =none)
  (q:∀ g x,bw.ExtBut i s.heap g→(∃ o,g.get? x=some o∧o.cls= .type "StopIteration")→E (.ref x) { s with heap:=g }):aH (aU prog w) A (cF (.ref i)) Q E s:=by
 obtain ⟨l,a⟩:=c;cases l with
 | true=>exact wpAny_nextOf_list_end hh (show s.heap.IsListIter i a k from jt) (show s.heap.IsList a xs from tt) hv fun g x h1 h2=>q g x h1 h2
 | false=>exact nextT_end hh (show s.heap.IsTupleIter i a k from jt) (show s.heap.IsTuple a xs from tt) hv fun g x h1 h2=>q g x h1 h2
theorem iterS {c:Sq}{xs:Array aa}(tt:SqAt s.heap c xs)
  (q:∀ g,ItAt g c s.heap.objs.size 0→g.objs.size=s.heap.objs.size+1→(∀ b o,s.heap.get? b=some o→g.get? b=some o)→Q (.ref s.heap.objs.size) { s with heap:=g }):aH (aU prog w) A (pyIter (.ref c.a)) Q E s:=by
 obtain ⟨l,a⟩:=c;cases l with
 | true=>exact eS (show s.heap.IsList a xs from tt) (q _ ⟨_,aN _ rfl,rfl,rfl⟩ (cQ ..) fun b o e=>ak _ e)
 | false=>exact wpAny_pyIter_tuple (show s.heap.IsTuple a xs from tt) (q _ ⟨_,aN _ rfl,rfl,rfl⟩ (cQ ..) fun b o e=>ak _ e)
theorem updRow {T:ai}{x:aa}{k:Nat}{Q:Unit→ao→Prop}(hT:mw s.heap T vs)(hz:vs.length≤100)
  (h:∀ g,mw g T (vs.set k x)→cb T s.heap g→Q () { s with heap:=g }):aH (aU prog w) A (updateSeq T (·.setIfInBounds k x)) Q E s:=by
 refine gP hT rfl (h _ ?_ (ft ..)) (by rw [aB];exact aS hz (by decide)) (by rw [Array.size_setIfInBounds,aB];exact aS hz (by decide));show bw.get? _ T=_;rw [d9 _ hT rfl];simp [cp]
structure ZIn (h g:bw)(z TI TO:ai)(cs:List Sq)(is:List ai)(k j:Nat)(vs old:List aa):Prop where
 sz:g.objs.size=h.objs.size
 zip:IsZip g z TI TO .ellipsis
 row:mw g TO (vs.take j++old.drop j)
 its:∀ (n:Nat) c i,cs[n]? =some c→is[n]? =some i→ItAt g c i (if n<j then k+1 else k)
 ext:∀ e o,e≠z→e≠TO→e ∉ is→h.get? e=some o→g.get? e=some o
structure ZOk (h:bw)(z TI TO:ai)(cs:List Sq)(is:List ai)(k:Nat)(old:List aa):Prop where
 len:is.length=cs.length
 few:cs.length≤8
 pos:0<cs.length
 nod:(z::TI::TO::is).Nodup
 zip:IsZip h z TI TO .none
 ti:mw h TI (is.map aa.ref)
 to:mw h TO old
 lo:old.length=cs.length
 its:∀ (n:Nat) c i,cs[n]? =some c→is[n]? =some i→ItAt h c i k
 off:∀ c∈cs,c.a≠z∧c.a≠TO∧c.a ∉ is
theorem nod_ne {is:List ai}{i:ai}{e:ai}(hn:is.Nodup)(h1:is[j]? =some i)(h2:is[n]? =some e)(h:n≠j):e≠i:=fun z=>by
 subst z;have a:=(ar.mp h1);have b:=(ar.mp h2);obtain ⟨ha,ea⟩:=a;obtain ⟨hb,eb⟩:=b;exact h ((jx hn).mp (eb.trans ea.symm))
theorem ZIn.step {g:bw}{z TI TO:ai}{cs:List Sq}{is:List ai}{k:Nat}{i:ai}{c:Sq}(D:ZOk h z TI TO cs is k old)(Z:ZIn h g z TI TO cs is k j vs old)(hi:is[j]? =some i)(hc:cs[j]? =some c){g2 g3:bw}{v:aa}(hv:vs[j]? =some v)(lv:vs.length=cs.length)
  (n2:ItAt g2 c i (k+1)) (s2:cb i g g2) (r3:mw g3 TO ((vs.take j++old.drop j).set j v)) (s3:cb TO g2 g3):ZIn h g3 z TI TO cs is k (j+1) vs old:=by
 have nod:=D.nod;rw [bz,bz,bz] at nod;obtain ⟨nz,nT,nO,ni⟩:=nod;have mi:i∈is:=aO hi;have iz:z≠i:=fun q=>nz (by rw [q];simp [mi])
 have iO:TO≠i:=fun q=>nO (by rw [q];exact mi)
 have zO:z≠TO:=fun q=>nz (by rw [q];simp)
 have jl:j<cs.length:=(ar.mp hc).1;refine ⟨by rw [s3.1,s2.1,Z.sz],s3.extBut _ _ zO (s2.extBut _ _ iz Z.zip),?_,fun n c' i' hc' hi'=>?_,fun e o e1 e2 e3 q=>s3.extBut _ _ e2 (s2.extBut _ _ (fun y=>e3 (by rw [y];exact mi)) (Z.ext e o e1 e2 e3 q))⟩
 ·have lo:=D.lo
  have e:(vs.take j++old.drop j).set j v=vs.take (j+1)++old.drop (j+1):=by
   have l1:(vs.take j).length=j:=by rw [bI];lia
   rw [List.set_append,pN (by lia),l1,eJ,List.drop_eq_getElem_cons (by lia:j<old.length),List.set_cons_zero,bh,hv];simp
  rw [←e];exact r3
 ·have mi':i'∈is:=aO hi'
  have iO':i'≠TO:=fun q=>nO (by rw [←q];exact mi')
  by_cases e:n=j
  ·subst e
   rw [hi] at hi';rw [hc] at hc';cases hi';cases hc';rw [pO (by lia)];exact n2.ext fun o q=>s3.extBut _ _ iO' q
  ·have q:=Z.its n c' i' hc' hi'
   have e2:(if n<j+1 then k+1 else k)=(if n<j then k+1 else k):=by
    by_cases y:n<j
    ·rw [pO y,pO (by lia)]
    ·rw [pN y,pN (by lia)]
   rw [e2];exact q.ext fun o r=>s3.extBut _ _ iO' (s2.extBut _ _ (nod_ne ni hi hi' e) r)
theorem zipS_go {z TI TO:ai}{cs:List Sq}{is:List ai}{k:Nat}{Q:Option aa→ao→Prop}(D:ZOk s.heap z TI TO cs is k old)
  (hv:∀ (n:Nat) c,cs[n]? =some c→∃ xs v,SqAt s.heap c xs∧xs[k]? =some v∧vs[n]? =some v) (lv:vs.length=cs.length)
  (q:∀ g,IsZip g z TI TO (fg s.heap.objs.size)→mw g TO vs→(∀ (n:Nat) c i,cs[n]? =some c→is[n]? =some i→ItAt g c i (k+1))→mw g s.heap.objs.size vs→g.objs.size=s.heap.objs.size+1 →
   (∀ e o,e≠z→e≠TO→e ∉ is→s.heap.get? e=some o→g.get? e=some o)→Q (some (.ref s.heap.objs.size)) { s with heap:=g }):aH (aU prog w) A (iR (.ref z)) Q E s:=by
 have hT:s.TypeIs (.ref z) "zip" := ⟨_,D.zip,rfl⟩;have nod:=D.nod;rw [bz,bz,bz] at nod;obtain ⟨nz,nT,nO,ni⟩:=nod;have zO:z≠TO:=fun q=>nz (by rw [q];simp)
 have few:=D.few;have len:=D.len;unfold iR;refine ae (iX (df (name:=bY "__next__") hT F.slot_zip_next (fq F.slot_zip_next hT F.entry_zip_next ?_ (F.args_zip_next_1 _))));show aH _ _ (field (.ref z) 2 >>= _) _ _ s;refine ae (bX D.zip rfl (x:= .bool false) (by rfl) ?_);show aH _ _ (field (.ref z) 3 >>= _) _ _ s;refine ae (bX D.zip rfl (x:= .ref TI) (by rfl) ?_);refine ae (du D.ti rfl ?_)
 dsimp only
 rw [pN (by intro y;rw [Array.isEmpty_iff_size_eq_zero,aB,af,len] at y;have:=D.pos;lia)];refine ae ?_;unfold eC;refine ae (bX D.zip rfl (x:= .none) (by rfl) (aA ?_));simp only [if_true];refine ae (wpAny_rule ?_);refine ae (bX D.zip rfl (x:= .ref TO) (by rfl) ?_);refine ae (dt D.zip (by simp) fun g1 z1 s1=>?_);have z1:IsZip g1 z TI TO .ellipsis:=z1;refine ae ?_;refine nG _ (fun j b s'=>b=_∧∃ g,s'={ s with heap:=g }∧ZIn s.heap g z TI TO cs is k j vs old) _ _ ⟨rfl,g1,rfl,?_⟩ ?_ ?_
 ·refine ⟨s1.1,z1,s1.extBut _ _ zO.symm D.to,fun n c i hc hi=>?_,fun e o e1 _ _ h=>s1.extBut _ _ e1 h⟩
  rw [pN (by lia)];exact (D.its n c i hc hi).ext fun o h=>s1.extBut _ _ (fun y=>nz (by rw [←y];simp [aO hi])) h
 ·rintro j a b s' ha ⟨rfl,g,rfl,Z⟩
  rw [List.getElem?_zipIdx] at ha;obtain ⟨x,hx,rfl⟩:=aI.mp ha;have hx:(is.map aa.ref)[j]? =some x:=by simpa using hx
  rw [ax] at hx;obtain ⟨i,hi,rfl⟩:=aI.mp hx;have jl:j<cs.length:=by rw [←len];exact (ar.mp hi).1
  have hc:cs[j]? =some cs[j]:=gE jl;obtain ⟨xs,v,hq,hxv,hvv⟩:=hv j _ hc;obtain ⟨o1,o2,o3⟩:=D.off _ (bu jl);have it:=Z.its j _ i hc hi;rw [pN (by lia)] at it
  dsimp only
  refine ae (wpAny_onRaise ?_);show aH _ _ (cF (.ref i) >>= _) _ _ _;refine ae (pH it (hq.ext fun o h=>Z.ext _ o o1 o2 o3 h) hxv fun g2 n2 s2=>aA ?_);have iO:TO≠i:=fun q=>nO (by rw [q];exact aO hi)
  have r2:mw g2 TO (vs.take j++old.drop j):=s2.extBut _ _ iO Z.row;refine ae (du r2 rfl ?_);refine ae (updRow (x:=v) (k:=0+j) r2 (by rw [av,bI,ia];have:=D.lo;lia) fun g3 r3 s3=>?_);rw [Nat.zero_add] at r3;refine ae (fm (aA ⟨_,rfl,rfl,g3,rfl,Z.step D hi hc hvv lv n2 s2 r3 s3⟩))
 ·rintro b s' ⟨rfl,g5,rfl,Z⟩
  have ll:((is.map aa.ref).toArray.toList.zipIdx).length=cs.length:=by simp [len]
  rw [ll] at Z;have z5:=Z.zip;have o5:mw g5 TO vs:=by
   have:=Z.row;rw [←lv,bo,lv,←D.lo,List.drop_length,cP] at this;exact this
  have m5:∀ (n:Nat) c i,cs[n]? =some c→is[n]? =some i→ItAt g5 c i (k+1):=fun n c i hc hi=>by
   have:=Z.its n c i hc hi;rw [pO (ar.mp hc).1] at this;exact this
  dsimp only
  refine ae (du o5 rfl ?_);refine ae (wpAny_newTuple ?_);have zlt:z<g5.objs.size:=aC z5;have sz:=Z.sz;refine ae ?_;unfold gf;have z6:IsZip (g5.push { cls:= .type "tuple",data:= .seq vs.toArray }) z TI TO .ellipsis:=ak _ z5;refine ae (dt z6 (by simp) fun g7 z7 s7=>?_);have z7:IsZip g7 z TI TO (fg g5.objs.size):=z7;refine dt z7 (by simp) fun g8 z8 s8=>?_
  have z8:IsZip g8 z TI TO (fg g5.objs.size):=z8;have up:∀ e o,e≠z→g5.get? e=some o→g8.get? e=some o:=fun e o c1 h=>s8.extBut _ _ c1 (s7.extBut _ _ c1 (ak _ h))
  have t8:mw g8 g5.objs.size vs:=s8.extBut _ _ (bZ zlt) (s7.extBut _ _ (bZ zlt) (aN _ rfl));have sz8:g8.objs.size=g5.objs.size+1:=by rw [s8.1,s7.1,cQ]
  rw [sz] at z8 t8 sz8;refine aA ⟨_,rfl,?_⟩;refine aA ?_;show Q (some (.ref g5.objs.size)) _;rw [sz];refine q g8 z8 (up _ _ zO.symm o5) (fun n c i hc hi=>(m5 n c i hc hi).ext fun o h=>up _ o (fun y=>nz (by rw [←y];simp [aO hi])) h) t8 sz8 fun e o c1 c2 c3 h=>up e o c1 (Z.ext e o c1 c2 c3 h)
theorem zipS_stop {z TI TO:ai}{cs:List Sq}{is:List ai}{k:Nat}{cm:Sq}{Q:Option aa→ao→Prop}(hh:A.handled=none)(D:ZOk s.heap z TI TO cs is k old)
  (hv:∀ (n:Nat) c,cs[n]? =some c→n<m→∃ xs v,SqAt s.heap c xs∧xs[k]? =some v∧vs[n]? =some v) (lv:vs.length=cs.length) (hm:cs[m]? =some cm) {xm:Array aa} (hxm:SqAt s.heap cm xm) (hem:xm[k]? =none)
  (q:∀ g,(∀ e o,e≠z→e≠TO→e ∉ is→s.heap.get? e=some o→g.get? e=some o)→Q none { s with heap:=g }):aH (aU prog w) A (iR (.ref z)) Q E s:=by
 have hT:s.TypeIs (.ref z) "zip" := ⟨_,D.zip,rfl⟩;have nod:=D.nod;rw [bz,bz,bz] at nod;obtain ⟨nz,nT,nO,ni⟩:=nod;have zO:z≠TO:=fun q=>nz (by rw [q];simp)
 have few:=D.few;have len:=D.len;have fin:∀ g x,(∀ e o,e≠z→e≠TO→e ∉ is→s.heap.get? e=some o→g.get? e=some o)→(∃ o,g.get? x=some o∧o.cls= .type "StopIteration") →
   aH (aU prog w) A (do if ← isInstance (.ref x) (.type "StopIteration") then eQ none else throw (.ref x)) Q E { s with heap:=g }:=fun g x k ⟨o,ho,hc⟩=>by
  refine ae (wpAny_isInstance (T := "StopIteration") (b:=true) ⟨o,ho,hc⟩ isSubtype_stop ?_);exact aA (q g k)
 have ml:m<cs.length:=(ar.mp hm).1;unfold iR;refine ae (iX (df (name:=bY "__next__") hT F.slot_zip_next (fq F.slot_zip_next hT F.entry_zip_next ?_ (F.args_zip_next_1 _))));show aH _ _ (field (.ref z) 2 >>= _) _ _ s;refine ae (bX D.zip rfl (x:= .bool false) (by rfl) ?_);show aH _ _ (field (.ref z) 3 >>= _) _ _ s;refine ae (bX D.zip rfl (x:= .ref TI) (by rfl) ?_);refine ae (du D.ti rfl ?_)
 dsimp only
 rw [pN (by intro y;rw [Array.isEmpty_iff_size_eq_zero,aB,af,len] at y;have:=D.pos;lia)];refine ae ?_;unfold eC;refine ae (bX D.zip rfl (x:= .none) (by rfl) (aA ?_));simp only [if_true];refine ae (wpAny_rule ?_);refine ae (bX D.zip rfl (x:= .ref TO) (by rfl) ?_);refine ae (dt D.zip (by simp) fun g1 z1 s1=>?_);have z1:IsZip g1 z TI TO .ellipsis:=z1;refine ae ?_;refine nG _ (fun j b s'=>b=_∧j≤m∧∃ g,s'={ s with heap:=g }∧ZIn s.heap g z TI TO cs is k j vs old) _ _ ⟨rfl,bE _,g1,rfl,?_⟩ ?_ ?_
 ·refine ⟨s1.1,z1,s1.extBut _ _ zO.symm D.to,fun n c i hc hi=>?_,fun e o e1 _ _ h=>s1.extBut _ _ e1 h⟩
  rw [pN (by lia)];exact (D.its n c i hc hi).ext fun o h=>s1.extBut _ _ (fun y=>nz (by rw [←y];simp [aO hi])) h
 ·rintro j a b s' ha ⟨rfl,jm,g,rfl,Z⟩
  rw [List.getElem?_zipIdx] at ha;obtain ⟨x,hx,rfl⟩:=aI.mp ha;have hx:(is.map aa.ref)[j]? =some x:=by simpa using hx
  rw [ax] at hx;obtain ⟨i,hi,rfl⟩:=aI.mp hx;have jl:j<cs.length:=by rw [←len];exact (ar.mp hi).1
  have hc:cs[j]? =some cs[j]:=gE jl;obtain ⟨o1,o2,o3⟩:=D.off _ (bu jl);have it:=Z.its j _ i hc hi;rw [pN (by lia)] at it;have iO:TO≠i:=fun q=>nO (by rw [q];exact aO hi)
  have iz:z≠i:=fun q=>nz (by rw [q];simp [aO hi])
  dsimp only
  refine ae (wpAny_onRaise ?_);show aH _ _ (cF (.ref i) >>= _) _ _ _
  by_cases e:j=m
  ·subst e
   rw [hc] at hm;cases hm;refine ae (nextS_end hh it (hxm.ext fun o h=>Z.ext _ o o1 o2 o3 h) hem fun g2 x s2 hx2=>?_);obtain ⟨oe,e1,e2⟩:=hx2;have z2:IsZip g2 z TI TO .ellipsis:=s2 _ _ iz Z.zip;have xz:x≠z:=fun r=>by subst r;rw [z2] at e1;cases e1;simp at e2
   exact dt z2 (by simp) fun g3 _ s3=>fin g3 x (fun e o c1 c2 c3 h=>s3.extBut _ _ c1 (s2 _ _ (fun y=>c3 (by rw [y];exact aO hi)) (Z.ext e o c1 c2 c3 h))) ⟨oe,s3.extBut _ _ xz e1,e2⟩
  ·obtain ⟨xs,v,hq,hxv,hvv⟩:=hv j _ hc (by lia)
   refine ae (pH it (hq.ext fun o h=>Z.ext _ o o1 o2 o3 h) hxv fun g2 n2 s2=>aA ?_);have r2:mw g2 TO (vs.take j++old.drop j):=s2.extBut _ _ iO Z.row;refine ae (du r2 rfl ?_);refine ae (updRow (x:=v) (k:=0+j) r2 (by rw [av,bI,ia];have:=D.lo;lia) fun g3 r3 s3=>?_);rw [Nat.zero_add] at r3;refine ae (fm (aA ⟨_,rfl,rfl,by lia,g3,rfl,Z.step D hi hc hvv lv n2 s2 r3 s3⟩))
 ·rintro b s' ⟨rfl,jm,g5,rfl,Z⟩
  have ll:((is.map aa.ref).toArray.toList.zipIdx).length=cs.length:=by simp [len]
  rw [ll] at jm;lia
theorem mr {α:Type}{P:Nat→α→Prop}:∀ (k:Nat),(∀ n,n<k→∃ u,P n u)→∃ us:List α,us.length=k∧∀ (n:Nat) u,us[n]? =some u→P n u
 | 0,_=>⟨[],rfl,fun n u h=>by simp at h⟩
 | k+1,h=>by
  obtain ⟨us,hl,hu⟩:=mr k fun n hn=>h n (by lia)
  obtain ⟨u,pu⟩:=h k (by lia);refine ⟨us++[u],by rw [av,hl];rfl,fun n v hv=>?_⟩
  by_cases e:n<us.length
  ·rw [bS e] at hv
   exact hu n v hv
  ·rw [br (by lia)] at hv
   have hn:n=us.length:=by
    have:=(ar.mp hv).1;simp at this;lia
   subst hn;rw [eJ] at hv;cases hv;rw [hl];exact pu
theorem vals_of:∀ {vs:List V} {us:List aa},vs.length=us.length→(∀ (n:Nat) v u,vs[n]? =some v→us[n]? =some u→RelV v u)→Vals vs us
 | [],[],_,_=> .nil
 | v::vs,u::us,hl,h=> .cons (h 0 v u rfl rfl) (vals_of (by simpa using hl) fun n v' u' a b=>h (n+1) v' u' a b)
 | [],_::_,hl,_=>by simp at hl
 | _::_,[],hl,_=>by simp at hl
def HSq (H:Hp)(c:Sq)(xs:List V):Prop:=match c.l with | true=>H c.a=some (.lst xs) | false=>H c.a=some (.tup xs)
theorem HSq.inj {c:Sq}(a:HSq H c xs)(b:HSq H c ys):xs=ys:=by
 obtain ⟨l,q⟩:=c;cases l with
 | true=>have a:H q=some (.lst xs):=a;have b:H q=some (.lst ys):=b;rw [a] at b;cases b;rfl
 | false=>have a:H q=some (.tup xs):=a;have b:H q=some (.tup ys):=b;rw [a] at b;cases b;rfl
theorem HSq.has {c:Sq}(a:HSq H c xs):∃ o,H c.a=some o:=by
 obtain ⟨l,q⟩:=c;cases l with
 | true=>exact ⟨_,a⟩
 | false=>exact ⟨_,a⟩
theorem HSq.at {c:Sq}(I:Inv X aJ σ H s)(h:HSq H c xs):∃ its,Vals xs its∧SqAt s.heap c its.toArray:=by
 obtain ⟨l,q⟩:=c;cases l with
 | true =>
  obtain ⟨its,r,p,_⟩:=I.list (SqL.of (K:=X.K) (show H q=some (.lst xs) from h));exact ⟨its,r,p.isList⟩
 | false =>
  obtain ⟨its,r,p,_⟩:=I.tuple (SqT.of (K:=X.K) (show H q=some (.tup xs) from h));exact ⟨its,r,p⟩
def Itq (cs:List Sq):It :=
 ⟨fun i H=>∃ vs:List V,vs.length=cs.length∧∀ (n:Nat) c,cs[n]? =some c→∃ xs x,HSq H c xs∧xs[i]? =some x∧vs[n]? =some x,
  fun i H v H'=>∃ p vs,H p=none∧v= .ref p∧H'=upd H p (.tup vs)∧vs.length=cs.length∧∀ (n:Nat) c x xs,cs[n]? =some c→HSq H c xs→vs[n]? =some x→xs[i]? =some x,
  fun i H=>∃ m cm xm,cs[m]? =some cm∧HSq H cm xm∧xm.length≤i∧∀ (n:Nat) c,cs[n]? =some c→n<m→∃ xs x,HSq H c xs∧xs[i]? =some x⟩
theorem turn_zipS {k0}{z TI TO:ai}{cs:List Sq}{is:List ai} :
  Turn P w K (.Tuple es k0 pos) (Itq cs) (z::TI::TO::is) z (fun i h=>∃ old,ZOk h z TI TO cs is i old) where
 mem:=by simp
 obj:=fun i h st c hc=>by
  obtain ⟨old,D⟩:=st;simp only [aF] at hc
  rcases hc with rfl | rfl | rfl | hc
  ·exact ⟨_,D.zip,fun v z=>by cases z⟩
  ·exact ⟨_,D.ti,fun v z=>by cases z⟩
  ·exact ⟨_,D.to,fun v z=>by cases z⟩
  ·obtain ⟨n,hn⟩:=List.getElem?_of_mem hc
   have hl:n<cs.length:=by rw [←D.len];exact (ar.mp hn).1
   exact (D.its n _ c (gE hl) hn).obj
 keep:=fun i h h' st k=>by
  obtain ⟨old,D⟩:=st;exact ⟨old,D.len,D.few,D.pos,D.nod,k z (by simp) _ D.zip,k TI (by simp) _ D.ti,k TO (by simp) _ D.to,D.lo,fun n c i hc hi=>(D.its n c i hc hi).ext fun o e=>k i (by simp [aO hi]) o e,D.off⟩
 item:=by
  intro X hP hw hK hc i aJ s σ H E I hf st hg;subst hP hw hK;obtain ⟨old,D⟩:=st;obtain ⟨vs,lv,hv⟩:=hg;have nz:∀ e∈z::TI::TO::is,H e=none:=fun e he=>(hf e he).1
  have hT:H s.heap.objs.size=none:=I.fresh;have ex:∀ n,n<cs.length→∃ u:aa,(∀ c,cs[n]? =some c→∃ xs,SqAt s.heap c xs∧xs[i]? =some u)∧∀ v,vs[n]? =some v→RelV v u:=fun n hn=>by
   obtain ⟨xs,x,h1,h2,h3⟩:=hv n _ (gE hn);obtain ⟨its,r,p⟩:=h1.at I;obtain ⟨u,hu,ru⟩:=r.get h2;refine ⟨u,fun c hc=>?_,fun v hv'=>?_⟩
   ·rw [gE hn] at hc
    cases hc;exact ⟨_,p,by simpa using hu⟩
   ·rw [h3] at hv'
    cases hv';exact ru
  obtain ⟨us,lu,hu⟩:=mr cs.length ex;have hrel:Vals vs us:=vals_of (by lia) fun n v u a b=>(hu n u b).2 v a
  refine zipS_go D (vs:=us) (fun n c hc=>?_) lu fun g z1 to1 m1 tp sz kk=>⟨_,rfl,?_⟩
  ·have hn:n<us.length:=by rw [lu];exact (ar.mp hc).1
   obtain ⟨xs,a,b⟩:=(hu n _ (gE hn)).1 c hc;exact ⟨xs,us[n],a,b,gE hn⟩
  refine wpAny_letOwnedTupleGo_zip z1 fun g2 z2 s2=>?_
  have s2:cb z g g2:=s2;have k2:∀ e o,e ∉ z::TO::is→s.heap.get? e=some o→g2.get? e=some o:=fun e o hn h=>by
   simp only [aF,not_or] at hn;exact s2.extBut _ _ hn.1 (kk e o hn.1 hn.2.1 hn.2.2 h)
  have zlt:z<s.heap.objs.size:=aC D.zip;have tp2:mw g2 s.heap.objs.size us:=s2.extBut _ _ (bZ zlt) tp;have sub:∀ e∈z::TO::is,e∈z::TI::TO::is:=fun e he=>by
   simp only [aF] at he ⊢
   rcases he with rfl | rfl | he <;> simp [*]
  have trk:∀ e o,H e=some o→e ∉ z::TO::is:=fun e o he hm=>by rw [nz e (sub e hm)] at he;cases he
  have J:Inv X aJ σ (upd H s.heap.objs.size (.tup vs)) { s with heap:=g2 }:=by
   refine I.turnAll (ch:=z::TO::is) (fun e he=>hf e (sub e he)) k2 (fun e o h=>by rw [aZ (bB h hT)];exact h) (fun e o h n=>by rw [aZ (bj (aC h))];exact n) fun e o h=>?_
   by_cases q:e=s.heap.objs.size
   ·subst q
    rw [aW] at h;cases h;exact ⟨by rw [lv];exact aS D.few (by decide),us,hrel,_,tp2,rfl,rfl,_,rfl⟩
   ·rw [aZ q] at h
    refine (I.hok e o h).stay (fun c v hc' q'=>k2 c v (by
     rcases hc' with z' | z'
     ·rw [z'];exact trk e o h
     ·exact trk c _ z') q') (fun c q'=>by rw [aZ (bB q' hT)];exact q') fun c xs q'=>by rw [aZ (bB q' hT)];exact q'
  have nod:=D.nod;rw [bz,bz,bz] at nod;obtain ⟨nz',nT,nO,ni⟩:=nod;refine ⟨.ref s.heap.objs.size,_,J,rfl,⟨_,vs,hT,rfl,rfl,lv,fun n c x xs hc hq hx=>?_⟩,⟨us,D.len,D.few,D.pos,D.nod,z2,?_,s2.extBut _ _ (fun y=>nz' (by rw [←y];simp)) to1,lu,fun n c j hc hj=>?_,D.off⟩,fun e he=>?_⟩
  ·obtain ⟨ys,y,h1,h2,h3⟩:=hv n c hc
   rw [h1.inj hq] at h2;rw [h3] at hx;cases hx;exact h2
  ·refine k2 _ _ (fun y=>?_) D.ti
   rcases aF.mp y with y | y
   ·exact nz' (by rw [←y];simp)
   ·exact nT y
  ·exact (m1 n c j hc hj).ext fun o e=>s2.extBut _ _ (fun y=>nz' (by rw [←y];simp [aO hj])) e
  ·have hlt:e<s.heap.objs.size:=by
    simp only [aF] at he
    rcases he with rfl | rfl | rfl | he
    ·exact aC D.zip
    ·exact aC D.ti
    ·exact aC D.to
    ·obtain ⟨n,hn⟩:=List.getElem?_of_mem he
     have hl:n<cs.length:=by rw [←D.len];exact (ar.mp hn).1
     obtain ⟨o,ho,_⟩:=(D.its n _ e (gE hl) hn).obj;exact aC ho
   rw [aZ (bj hlt)];exact nz e he
 done:=by
  intro X hP hw hK hc i aJ s σ H E I hf st hg;subst hP hw hK;obtain ⟨old,D⟩:=st;obtain ⟨m,cm,xm,hm,hxm,hi,hv⟩:=hg;have nz:∀ e∈z::TI::TO::is,H e=none:=fun e he=>(hf e he).1
  have ex:∀ n,n<cs.length→∃ u:aa,∀ c,cs[n]? =some c→n<m→∃ xs,SqAt s.heap c xs∧xs[i]? =some u:=fun n hn=>by
   by_cases e:n<m
   ·obtain ⟨xs,x,h1,h2⟩:=hv n _ (gE hn) e
    obtain ⟨its,r,p⟩:=h1.at I;obtain ⟨u,hu,ru⟩:=r.get h2;refine ⟨u,fun c hc _=>?_⟩;rw [gE hn] at hc;cases hc;exact ⟨_,p,by simpa using hu⟩
   ·exact ⟨.none,fun c _ z=>pP z e⟩
  obtain ⟨us,lu,hu⟩:=mr cs.length ex;obtain ⟨its,r,p⟩:=hxm.at I;have hl:=r.length;refine zipS_stop (I.ok.hd hc) D (vs:=us) (m:=m) (fun n c hc hn=>?_) lu hm p (by simp;lia) fun g kk=>⟨rfl,?_⟩
  ·have hn':n<us.length:=by rw [lu];exact (ar.mp hc).1
   obtain ⟨xs,a,b⟩:=hu n _ (gE hn') c hc hn;exact ⟨xs,us[n],a,b,gE hn'⟩
  have sub:∀ e∈z::TO::is,e∈z::TI::TO::is:=fun e he=>by
   simp only [aF] at he ⊢
   rcases he with rfl | rfl | he <;> simp [*]
  have k2:∀ e o,e ∉ z::TO::is→s.heap.get? e=some o→g.get? e=some o:=fun e o hn h=>by
   simp only [aF,not_or] at hn;exact kk e o hn.1 hn.2.1 hn.2.2 h
  have trk:∀ e o,H e=some o→e ∉ z::TO::is:=fun e o he hm=>by rw [nz e (sub e hm)] at he;cases he
  refine I.turnAll (ch:=z::TO::is) (fun e he=>hf e (sub e he)) k2 (fun _ _ h=>h) (fun _ _ _ n=>n) fun e o h=>?_
  exact (I.hok e o h).stay (fun c v hc' q'=>k2 c v (by
   rcases hc' with z' | z'
   ·rw [z'];exact trk e o h
   ·exact trk c _ z') q') (fun _ q'=>q') fun _ _ q'=>q'
 self:=fun _ _ _ _ _ st h=>let ⟨_,D⟩:=st;wpAny_pyIter_zip D.zip h
structure ZNew (h g:bw)(cs:List Sq):Prop where
 zip:IsZip g (h.objs.size+cs.length+2) (h.objs.size+cs.length) (h.objs.size+cs.length+1) .none
 ti:mw g (h.objs.size+cs.length) (((aK cs.length).map fun j=>h.objs.size+j).map aa.ref)
 to:mw g (h.objs.size+cs.length+1) (bF cs.length .none)
 its:∀ (n:Nat) c,cs[n]? =some c→ItAt g c (h.objs.size+n) 0
 ext:∀ b o,h.get? b=some o→g.get? b=some o
theorem newClass_zip (vs:List aa):cV.SmallTypes.newClass "zip" ⟨.type "zip" :: vs,[]⟩=eQ (.type "zip",vs):=by
 unfold cV.SmallTypes.newClass;simp only [isType,sub_zip,pure_bind,Bool.not_true,Bool.false_eq_true,if_false]
theorem zipS_new (cs:List Sq)(few:cs.length≤8) :
  Meets (cV.«zip.__new__» ⟨.type "zip" :: cs.map fun c=>aa.ref c.a,[]⟩) (fun _ R s=>(∀ c∈cs,∃ xs,SqAt s.heap c xs)∧∀ g,ZNew s.heap g cs→R (.ok (.ret (.ref (s.heap.objs.size+cs.length+2)))) { s with heap:=g }) :=
 .of_wp fun prog w A R s h=>by
  obtain ⟨h1,h⟩:=h;unfold cV.«zip.__new__»;refine ae (wpAny_of_eq (newClass_zip _) ?_);show aH _ _ (cV.SmallTypes.iterAll (cs.map fun c=>aa.ref c.a) >>= _) _ _ _;refine ae ?_;unfold cV.SmallTypes.iterAll;refine ae (nG _ (fun j its s'=>∃ g,s'={ s with heap:=g }∧g.objs.size=s.heap.objs.size+j∧its=((aK j).map fun i=>aa.ref (s.heap.objs.size+i)).toArray∧(∀ (n:Nat) c,n<j→cs[n]? =some c→ItAt g c (s.heap.objs.size+n) 0)∧∀ b o,s.heap.get? b=some o→g.get? b=some o) _ _ ⟨s.heap,rfl,rfl,rfl,fun n c hn=>pP hn (by lia),fun _ _ e=>e⟩ ?_ ?_)
  ·rintro j a its s' ha ⟨g,rfl,sz,rfl,hit,ext⟩
   rw [ax] at ha;obtain ⟨c,hc,rfl⟩:=aI.mp ha;obtain ⟨xs,hx⟩:=h1 c (aO hc);refine ae (cf (iterS (c:=c) (xs:=xs) (hx.ext fun o e=>ext _ o e) fun g2 i2 z2 e2=>?_));refine aA ⟨_,rfl,g2,rfl,?_,?_,fun n c' hn hc'=>?_,fun b o e=>e2 b o (ext b o e)⟩
   ·show g2.objs.size=_
    rw [z2];show g.objs.size+1=_;rw [sz];lia
   ·show Array.push _ (aa.ref g.objs.size)=_
    rw [sz,jY,aM];simp
   ·by_cases e:n=j
    ·subst e
     rw [hc] at hc';cases hc';have i2:ItAt g2 c g.objs.size 0:=i2;rw [sz] at i2;exact i2
    ·exact (hit n c' (by lia) hc').ext fun o q=>e2 _ o q
  ·rintro its s' ⟨g,rfl,sz,rfl,hit,ext⟩
   have ll:(cs.map fun c=>aa.ref c.a).length=cs.length:=af ..;rw [ll] at sz hit ⊢;refine aA ?_
   dsimp only
   have n8:((aK cs.length).map fun i=>aa.ref (s.heap.objs.size+i)).length≤aR:=by
    rw [af,ba];exact aS few (by decide)
   refine ae (wpAny_newTuple ?_ (by simpa using n8));refine ae (wpAny_newTuple ?_ (by simpa using n8));refine ae ?_;unfold cV.SmallTypes.newRecord;refine cY (aA ⟨_,rfl,?_⟩) (by show 5≤aR+2;decide);have e1:(g.push { cls:= .type "tuple",data:= .seq ((aK cs.length).map fun i=>aa.ref (s.heap.objs.size+i)).toArray }).objs.size=s.heap.objs.size+cs.length+1:=by rw [cQ,sz]
   have e2:((g.push { cls:= .type "tuple",data:= .seq ((aK cs.length).map fun i=>aa.ref (s.heap.objs.size+i)).toArray }).push { cls:= .type "tuple",data:= .seq ((((aK cs.length).map fun i=>aa.ref (s.heap.objs.size+i)).toArray.toList.map fun _=>aa.none)).toArray }).objs.size=s.heap.objs.size+cs.length+2:=by rw [cQ,e1]
   have key:=h (((g.push { cls:= .type "tuple",data:= .seq ((aK cs.length).map fun i=>aa.ref (s.heap.objs.size+i)).toArray }).push { cls:= .type "tuple",data:= .seq ((((aK cs.length).map fun i=>aa.ref (s.heap.objs.size+i)).toArray.toList.map fun _=>aa.none)).toArray }).push { cls:= .type "zip",data:= .fields #[.none,.bool false,.bool false,.ref (s.heap.objs.size+cs.length),.ref (s.heap.objs.size+cs.length+1)] })
    ⟨by rw [←e2];exact aN _ rfl,?_,?_,fun n c hc=>(hit n c (ar.mp hc).1 hc).ext fun o q=>ak _ (ak _ (ak _ q)),fun b o q=>ak _ (ak _ (ak _ (ext b o q)))⟩
   ·rw [←e2] at key
    have e1':(s.heap.objs.size+cs.length:Nat)=g.objs.size:=sz.symm;rw [←e1,e1'] at key;exact key
   ·have em:(((aK cs.length).map fun j=>s.heap.objs.size+j).map aa.ref)=((aK cs.length).map fun i=>aa.ref (s.heap.objs.size+i)):=by rw [cU];rfl
    show bw.get? _ _=_;rw [em,←sz];exact ak _ (ak _ (aN _ rfl))
   ·rw [←e1]
    have er:(((aK cs.length).map fun i=>aa.ref (s.heap.objs.size+i)).toArray.toList.map fun _=>aa.none)=bF cs.length aa.none:=by
     rw [List.eq_replicate_iff];exact ⟨by simp,fun x hx=>by obtain ⟨_,_,rfl⟩:=bt.mp hx;rfl⟩
    rw [er];exact ak _ (aN _ rfl)
theorem zip_walk {s1:ao}{k0}{pt:Pos}{R:It→Hp→Prop}{cs:List Sq}(I1:Inv X aJ σ H1 s1)(few:cs.length≤8)(pos:0<cs.length)(hq:∀ c∈cs,∃ xs,HSq H1 c xs)(q:R (Itq cs) H1){g:bw}(Z:ZNew s1.heap g cs) :
  aH (aU X.prog X.w) X.A (pyIter (.ref (s1.heap.objs.size+cs.length+2))) (PIE X aJ σ (.Tuple es k0 pt) R) E { s1 with heap:=g }:=by
 have small:∀ c∈cs,c.a<s1.heap.objs.size:=fun c hc=>by
  obtain ⟨xs,hx⟩:=hq c hc;obtain ⟨o,ho⟩:=hx.has;exact Nat.lt_of_not_le fun hge=>by rw [I1.hok.fresh hge] at ho;cases ho
 refine wpAny_pyIter_zip Z.zip ⟨_,(s1.heap.objs.size+cs.length+2)::(s1.heap.objs.size+cs.length)::(s1.heap.objs.size+cs.length+1)::((aK cs.length).map fun j=>s1.heap.objs.size+j),_,Itq cs,H1,rfl,I1.kept (t':=s1.toks) Z.ext,turn_zipS,⟨_,?_,few,pos,?_,Z.zip,Z.ti,Z.to,by rw [gF],fun n c i hc hi=>?_,fun c hc=>?_⟩,fun e he=>?_,q⟩
 ·rw [af,ba]
 ·have nd:((aK cs.length).map fun j=>s1.heap.objs.size+j).Nodup:=by
   rw [cJ,ja];exact (cJ.mp hW).imp fun h e=>h (by lia)
  have out:∀ x,s1.heap.objs.size+cs.length≤x→x ∉ ((aK cs.length).map fun j=>s1.heap.objs.size+j):=fun x hx hm=>by
   obtain ⟨j,hj,rfl⟩:=bt.mp hm;have:=bT.mp hj;lia
  rw [bz,bz,bz];refine ⟨fun h=>?_,fun h=>?_,fun h=>out _ (by show @LE.le Nat _ _ _;lia) h,nd⟩
  ·rcases aF.mp h with h | h
   ·have h: @Eq Nat _ _:=h
    lia
   ·rcases aF.mp h with h | h
    ·have h: @Eq Nat _ _:=h
     lia
    ·exact out _ (by show @LE.le Nat _ _ _;lia) h
  ·rcases aF.mp h with h | h
   ·have h: @Eq Nat _ _:=h
    lia
   ·exact out _ (by show @LE.le Nat _ _ _;lia) h
 ·rw [ax,iC (ar.mp hc).1] at hi
  cases hi;exact Z.its n c hc
 ·have:=small c hc
  have this: @LT.lt Nat _ c.a s1.heap.objs.size:=this;refine ⟨by show @Ne Nat _ _;lia,by show @Ne Nat _ _;lia,fun hm=>?_⟩;obtain ⟨j,hj,e⟩:=bt.mp hm;have e: @Eq Nat _ _:=e;lia
 ·have hge:s1.heap.objs.size≤e:=by
   simp only [aF] at he
   rcases he with rfl | rfl | rfl | he
   ·show @LE.le Nat _ _ _;lia
   ·show @LE.le Nat _ _ _;lia
   ·show @LE.le Nat _ _ _;lia
   ·obtain ⟨j,hj,rfl⟩:=bt.mp he
    show @LE.le Nat _ _ _;lia
  exact I1.fpOk hge (I1.hok.fresh hge)
def iZip2 (ta:TA):TI:=fun σ H R=>ta σ H fun vs H1=>∃ c1 c2 xs ys,vs=[.ref c1.a,.ref c2.a]∧HSq H1 c1 xs∧HSq H1 c2 ys∧R (Itq [c1,c2]) H1
theorem pi_zip2 {ea eb:Expr}{ta:TA}{p:Pos}{k0}{pt:Pos}(hg:Gl X "zip")(hm:X.mg "zip" =none)(ha:PA X [ea,eb] ta)(hs:bb [ea,eb] X.env=[(false,dg ea X.env),(false,dg eb X.env)]:=by rfl)(hs2:bb [eb] X.env=[(false,dg eb X.env)]:=by rfl) :
  PI X (.Tuple es k0 pt) (.Call (.Name "zip" p) [ea,eb] [] pos) (iZip2 ta):=by
 intro aJ s σ H R I h;refine Call_ (lV I hg hm boot_zip (fZ (thn (ha pos aJ s σ H _ I h) fun us s1 ⟨vs,H1,I1,r1,q1⟩=>?_) (by rw [hs,hs2]) (by rw [hs2];rfl)));obtain ⟨c1,c2,xs,ys,e,h1,h2,q⟩:=q1;subst e;obtain ⟨u1,u2,rfl,r2,r3⟩:=vals2 r1;cases (show u1=aa.ref c1.a from r2);cases (show u2=aa.ref c2.a from r3);obtain ⟨_,_,p1⟩:=h1.at I1;obtain ⟨_,_,p2⟩:=h2.at I1;refine callType_new F.called_zip (by decide) (F.typeCall_zip_2 _ _) (F.newCall_zip_2 _ _) (fun obj=>F.args_object_init_3 obj _ _) F.entry_zip_new (zipS_new [c1,c2] (by show 2≤8;decide)) ⟨fun c hc=>?_,fun g Z=>⟨⟨_,Z.zip,rfl⟩,?_⟩⟩
 ·simp only [aF,cR,or_false] at hc
  rcases hc with rfl | rfl
  ·exact ⟨_,p1⟩
  ·exact ⟨_,p2⟩
 ·refine zip_walk (cs:=[c1,c2]) I1 (by show 2≤8;decide) (by show 0<2;decide) (fun c hc=>?_) q Z
  simp only [aF,cR,or_false] at hc
  rcases hc with rfl | rfl
  ·exact ⟨_,h1⟩
  ·exact ⟨_,h2⟩
theorem for_zip2 {c1 c2:Sq}{tb:TS}{D:j8}(Pv:Nat→St→Hp→Prop)(h0:Pv 0 σ H)(hl:∀ i σ H,i≤xs.length→Pv i σ H→HSq H c1 xs∧HSq H c2 ys)(hxy:xs.length=ys.length)
  (hs:∀ i x y p σ H,xs[i]? =some x→ys[i]? =some y→Pv i σ H→H p=none→g (.ref p) σ (upd H p (.tup [x,y])) fun σ2 H2=>tb { D with nx:=Pv (i+1),ct:=Pv (i+1),bk:=D.nx } σ2 H2) (hd:∀ σ H,Pv xs.length σ H→D.nx σ H) :
  ∃ W:Nat→Nat→St→Hp→Prop,(∃ m,W 0 m σ H)∧∀ i m σ H,W i m σ H →
   ((Itq [c1,c2]).stop i H∧D.nx σ H)∨((Itq [c1,c2]).go i H∧∃ N:St→Hp→Prop,(∀ σ' H',N σ' H'→∃ m',m'<m∧W (i+1) m' σ' H')∧∀ x H',(Itq [c1,c2]).yld i H x H'→g x σ H' fun σ2 H2=>tb { D with nx:=N,ct:=N,bk:=D.nx } σ2 H2):=by
 refine ⟨fun i m σ H=>i≤xs.length∧m=xs.length - i∧Pv i σ H,⟨_,bE _,rfl,h0⟩,fun i m σ H ⟨hi,hm,hp⟩=>?_⟩;obtain ⟨qa,qb⟩:=hl i σ H hi hp
 by_cases e:i=xs.length
 ·subst e
  exact .inl ⟨⟨0,c1,xs,rfl,qa,az _,fun n c _ hn=>pP hn (by lia)⟩,hd σ H hp⟩
 ·have hlt:i<xs.length:=gq hi e
  have hlt2:i<ys.length:=by lia
  refine .inr ⟨⟨[xs[i],ys[i]],rfl,fun n c hc=>?_⟩,Pv (i+1),fun σ' H' hp'=>⟨xs.length - (i+1),by lia,by lia,rfl,hp'⟩,fun v H3 hy=>?_⟩
  ·match n,hc with
   | 0,hc=>cases hc;exact ⟨xs,xs[i],qa,gE hlt,rfl⟩
   | 1,hc=>cases hc;exact ⟨ys,ys[i],qb,gE hlt2,rfl⟩
   | n+2,hc=>simp at hc
  ·obtain ⟨p,vs,hn,rfl,rfl,lv,hx⟩:=hy
   match vs,lv,hx with
   | [x,y],_,hx=>exact hs i x y p σ H (hx 0 c1 x xs rfl qa rfl) (hx 1 c2 y ys rfl qb rfl) hp hn
theorem PE.cutV {t:TE}(h:PE X e t):PE X e (fun σ H Q=>∃ N:VK,(∀ v H',N v H'→Q v H')∧t σ H N):=fun aJ s σ H Q I ⟨N,i,q⟩ =>
 thn (h aJ s σ H N I q) fun u s' ⟨v,H',I',rv,q'⟩=>⟨v,H',I',rv,i _ _ q'⟩
theorem compT_zip2 {c1 c2:Sq}{Q:VK}(Pv:Nat→List V→Hp→Prop)(h0:Pv 0 [] H)(hl:∀ i zs H,i≤xs.length→Pv i zs H→HSq H c1 xs∧HSq H c2 ys∧zs.length≤i)(hxy:xs.length=ys.length)(hz:xs.length≤aR)
  (hs:∀ i x y zs p H,xs[i]? =some x→ys[i]? =some y→Pv i zs H→H p=none→tt (some x::some y::dh σ js) (upd H p (.tup [x,y])) fun b H4=>if b=true then te (some x::some y::dh σ js) H4 fun y H5=>Pv (i+1) (zs++[y]) H5 else Pv (i+1) zs H4)
  (hd:∀ zs H,Pv xs.length zs H→∀ D,H D=none→Q (.ref D) (upd H D (.lst zs))):pM 2 (gPair K) js tt te σ Q (Itq [c1,c2]) H:=by
 refine ⟨fun i m zs H=>i≤xs.length∧m=xs.length - i∧Pv i zs H,⟨_,bE _,rfl,h0⟩,fun i m zs H2 ⟨hi,hm,hp⟩=>?_⟩;obtain ⟨qa,qb,hy⟩:=hl i zs H2 hi hp
 by_cases e:i=xs.length
 ·subst e
  exact .inl ⟨⟨0,c1,xs,rfl,qa,az _,fun n c _ hn=>pP hn (by lia)⟩,hd zs H2 hp⟩
 ·have hlt:i<xs.length:=gq hi e
  have hlt2:i<ys.length:=by lia
  refine .inr ⟨⟨[xs[i],ys[i]],rfl,fun n c hc=>?_⟩,by lia,Pv (i+1),fun ys' H' hp'=>⟨xs.length - (i+1),by lia,by lia,rfl,hp'⟩,fun v H3 hy3 v0 hv0=>?_⟩
  ·match n,hc with
   | 0,hc=>cases hc;exact ⟨xs,xs[i],qa,gE hlt,rfl⟩
   | 1,hc=>cases hc;exact ⟨ys,ys[i],qb,gE hlt2,rfl⟩
   | n+2,hc=>simp at hc
  ·obtain ⟨p,vs,hn,rfl,rfl,lv,hx⟩:=hy3
   match vs,lv,hx,v0,hv0 with
   | [x,y],_,hx,[v1,v2],_=>exact ⟨p,_,rfl,SqT.of aW,rfl,_,_,rfl,_,_,rfl,rfl,⟨[some x,some y],rfl,rfl⟩,hs i x y zs p H2 (hx 0 c1 x xs rfl qa rfl) (hx 1 c2 y ys rfl qb rfl) hp hn⟩
end L2
variable {cs:List L2.Sq}
local macro_rules
 | `(tactic|exists $s:term) => `(tactic|(show ∀ y:cq×PySem.NameKind,y∈_→y.2=PySem.NameKind.free→cZ y.1 (L2.defScope $s).names=some PySem.NameKind.cell;decide +kernel))
local macro_rules
 | `(tactic|trivial) => `(tactic|first|decide +kernel|exact ⟨rfl,rfl,rfl,by decide +kernel,rfl,by decide +kernel,by decide +kernel⟩|exact True.intro)
local macro_rules
 | `(tactic|contradiction) => `(tactic|(intro _ _ _ _ h;first | (cases h;subst_vars;rfl) | ((repeat (obtain ⟨_,h⟩:=h));subst_vars;rfl)))
namespace L2
open PySem PyProof.Rows
theorem ixZ {a:Expr}{p q:Pos}{i:Int}{j}(h:PE X a ta):PE X (.Subscript a (.Constant (.int i) j p) q) (tOp (rIxT X.K) ta (tC (.int i))):=eN fu h bR (fun _ _=>rfl)
theorem szZ1:1≤aR:=by decide
theorem oY:2≤aR:=by decide
theorem szZ4:4≤aR:=by decide
theorem szZ5:5≤aR:=by decide
theorem psZ (i:Nat)(hN:X.N.Nodup)(he:PE X e te)(hi:X.N[i]? =some x:=by rfl)(hx:Loc X.env.scope x:=by first|exact .inl rfl|exact .inr rfl)(hs:j4 e (some (.Name x pos')) pos.line X.env=eQ false:=by rfl)(hf:X.fn x=true∨X.env.scope.names.lookup x=some .local:=by first|exact .inl rfl|exact .inr rfl|assumption):PS X (.Assign [.Name x pos'] e pos) (tAsg te (nj i)):=ps_set hN hi hx he hs hf
theorem pgZ (i:Nat)(hN:X.N.Nodup)(hi:X.N[i]? =some x:=by rfl)(hx:Loc X.env.scope x:=by first|exact .inl rfl|exact .inr rfl)(hf:X.fn x=true∨X.env.scope.names.lookup x=some .local:=by first|exact .inl rfl|exact .inr rfl|assumption):PG X (.Name x pos) (nj i):=nc hN hi hx hf
end L2
namespace L2
abbrev pza:List cq:=["net"]
abbrev pzb:List cq:=["net","step"]
abbrev pzc:List cq:=["net","table"]
abbrev pzd:List cq:=["net","span"]
abbrev pze:List cq:=["_law_script","_law_k"]
abbrev pzf:List cq:=["net","bounds","ring"]
abbrev pzg:List cq:=["beat","number"]
abbrev pzh:List cq:=["net","most"]
abbrev pzi:List cq:=["net","parts","table","other"]
abbrev pzj:List cq:=["_law_box_here","_law_most"]
abbrev pzk:List cq:=["net","one","other"]
abbrev pzl:List cq:=["net","spans","happening"]
abbrev pzm:List cq:=["net","parts","table","shifts"]
abbrev pzn:List cq:=["numbers"]
abbrev pzo:List cq:=["_law_net_here","_law_table"]
abbrev pzp:List cq:=["table","other"]
abbrev pzq:List cq:=["_law_box_here"]
abbrev pzr:List cq:=["rings","span"]
abbrev pzs:List cq:=["net","case"]
abbrev pzt:List cq:=["bounds","span","low","high"]
abbrev pzu:List cq:=["self","many","most"]
abbrev pzv:List cq:=["_law_way","_law_net_here","_law_table"]
abbrev pzw:List cq:=["_law_box_here","_law_wides_here"]
abbrev pzx:List cq:=["_law_net_here","_law_span","_law_table"]
abbrev pzy:List cq:=["net","spans","begin","end"]
abbrev pzz:List cq:=["net","steps","bounds"]
abbrev pzA:List cq:=["bounds","way"]
abbrev pzB:List cq:=["self","case","span","at"]
end L2
namespace HN
open PySem L2 PyProof.Rows
theorem iteB {b:Bool}{A B:Prop}(h:b=true)(x:A):if b=true then A else B:=by rw [pO h];exact x
theorem iteC {b:Bool}{A B:Prop}(h:b=false)(x:B):if b=true then A else B:=by rw [pN (by rw [h];exact aV)];exact x
structure Nm (mg:Str→Option aa):Prop where
 isin:mg "isinstance" =none
 tint:mg "int" =none
 tbool:mg "bool" =none
 ttup:mg "tuple" =none
 len:mg "len" =none
 min:mg "min" =none
 all:mg "all" =none
structure Fn (K:au)(mg:Str→Option aa)(x:Str)(st:cG)(ps:List Str)(f:ai)(fd:bf):Prop where
 F:Fun K x x st f fd
 mg:mg x=some (.ref f)
 b:Binds K fd ps []
theorem pc1 {k:Nat}{sp:Sp}{p:Pos}(G:Fn X.K X.mg x st ps f fd)(F:FnOk X.prog X.w X.K X.mg X.base CX0 k f fd ps sp)(hr:Room k X.A)
  (ha:PA X (e::es) t) (hg:Gl X x:=by rfl) (hdb:(x == ("__debug__" :Str))=false:=by decide) (he:bb (e::es) X.env=(false,dg e X.env)::bb es X.env:=by rfl) (hpl:(dM pos (bb es X.env)).any (·.1)=false:=by rfl) :
  PE X (.Call (.Name x p) (e::es) [] pos) (tCall sp [] E0 t):=pe_call F hr hg G.mg G.F.kp G.b .nil pass0 ha hdb he hpl
theorem oG {i:Int}(hm:∃ t,X.mg x=some (.int i t))(hg:Gl X x:=by rfl)(hd:(x == ("__debug__" :Str))=false:=by decide):PE X (.Name x pos) (tC (.int i)) :=
 let ⟨t,e⟩:=hm;kG (v:= .int i) (u:= .int i t) hg e ⟨t,rfl⟩ hd
theorem pe_isTup {p:Pos}(N:Nm X.mg)(he:PE X e te)(hg:Gl X "isinstance" := by rfl)(hg2:Gl X "tuple" := by rfl)
  (hs1:bb [e,.Name "tuple" p2] X.env=(false,dg e X.env)::bb [.Name "tuple" p2] X.env:=by rfl) (hpl:(dM pos (bb [.Name "tuple" p2] X.env)).any (·.1)=false:=by rfl) :
  PE X (.Call (.Name "isinstance" p) [e,.Name "tuple" p2] [] pos) (tCB (fun xs H Q=>∃ x T,xs=[x,.ty "tuple"]∧tyn H x=some T∧Q (.bl (T == "tuple")) H) (tCons te (tCons (tC (.ty "tuple")) tNil))) :=
 dO call_isTup hg N.isin i8 (aq he (aq (pe_bltn hg2 N.ttup jj rfl) aP) hs1) (he:=hs1) (hpl:=hpl)
structure Sn where
 s:Int
 g:Int
 l:Int
 o:Int
 w:Int
abbrev Sn.row (x:Sn):List Int:=[x.s,x.g,x.l,x.o,x.w]
abbrev kN (b m:Int)(sp:List Sn):Dt:= .tup [.int b,.int m,.tup (sp.map fun x=> .tup (x.row.map Dt.int))]
theorem fH {m:Int}{sp:List Sn}(h:IsD H v (kN b m sp)):∃ t p ys,v= .ref t∧H t=some (.tup [.int b,.int m,.ref p])∧H p=some (.tup ys)∧ys.length=sp.length∧∀ (i:Nat) (x:Sn),sp[i]? =some x→∃ q,ys[i]? =some (.ref q)∧H q=some (.tup [.int x.s,.int x.g,.int x.l,.int x.o,.int x.w]):=by
 obtain ⟨t,xs,rfl,ht,rx⟩:=h.tup_of;cases rx with
 | cons h0 r0 =>
  cases r0 with
  | cons h1 r1 =>
   cases r1 with
   | cons h2 r2 =>
    cases r2;cases h0;cases h1;obtain ⟨p,ys,rfl,hp,ry⟩:=h2.tup_of;refine ⟨t,p,ys,rfl,ht,hp,by rw [ry.length,af],fun i x hx=>?_⟩;obtain ⟨y,hy,dy⟩:=ry.at (i:=i) (d:= .tup (x.row.map Dt.int)) (by rw [ax,hx];rfl);obtain ⟨q,zs,rfl,hq,rz⟩:=dy.tup_of;have ez:=rz.ints_of;subst ez;exact ⟨q,hy,hq⟩
def tm (ts:List Int)(i:Int):Int:=ts.getD i.toNat 0
theorem nZ {i:Int}(h0:0≤i)(h1:i<ts.length):atI (ts.map V.int) i=some (.int (tm ts i)):=by
 obtain ⟨j,rfl⟩:=dQ h0;refine bc ?_;rw [ax,gE (by lia)];unfold tm;rw [bV,ah,gE (by lia)];rfl
def jq (b:Int)(ts:List Int)(x:Sn):Int:=(tm ts x.g - tm ts x.s - x.l) % b
def brk (b:Int)(ts:List Int)(x:Sn):Bool:=decide (x.o - x.l<jq b ts x)
def kT (b:Int)(ts:List Int)(sp:List Sn):Bool:= !(sp.any (brk b ts))
theorem eK (h:n≤1000):n≤aR:=aS h (by decide)
structure Nt (mg:Str→Option aa):Prop where
 range:mg "range" =none
 enum:mg "enumerate" =none
 zip:mg "zip" =none
 sum:mg "sum" =none
 tlist:mg "list" =none
 max:mg "max" =none
structure SnOk (b m:Int)(x:Sn):Prop where
 s0:0≤x.s
 s1:x.s<m
 g0:0≤x.g
 g1:x.g<m
 ne:x.s≠x.g
 l0:0≤x.l
 lo:x.l≤x.o
 ob:x.o<x.l+b
 o60:x.o<10 ^ 60
 w0:0≤x.w
 w1:x.w≤1000000000000
structure NetT (b m:Int)(sp:List Sn):Prop where
 b1:1≤b
 b2:b≤10 ^ 59
 m1:1≤m
 m2:m≤16
 few:sp.length≤40
 all:∀ x∈sp,SnOk b m x
theorem rest_two (x y l b:Int):(x % b - y % b - l) % b=(x - y - l) % b:=by
 have hx:=gJ x b;have hy:=gJ y b;have e:x - y - l=(x % b - y % b - l)+b * (x / b - y / b):=by rw [Int.mul_sub];lia
 rw [e,kr]
inductive spRest (vs:List V)(H:Hp)(Q:VK)(_:XK):Prop
 | mk (b n:_)(_:vs=[.int b,.int n])(_:0<b)(_:Q (.int (n % b)) H)
inductive spWidth (vs:List V)(H:Hp)(Q:VK)(_:XK):Prop
 | mk (v b m sp i x:_)(_:vs=[v,.int (i:Nat)])(_:IsD H v (kN b m sp))(_:sp[i]? =some x)(_:Q (.int (x.o - x.l)) H)
def Mb (p:ai)(H H':Hp):Prop:=(∀ b o,b≠p→H b=some o→H' b=some o)∧∃ x y,H' p=some (.lst [.int x,.int y])
theorem Mb.refl {p:ai}{x y:Int}(h:H p=some (.lst [.int x,.int y])):Mb p H H:=⟨fun _ _ _ e=>e,x,y,h⟩
theorem Mb.trans {p:ai}(a:Mb p H H1)(b:Mb p H1 H2):Mb p H H2:=⟨fun c o hc e=>b.1 c o hc (a.1 c o hc e),b.2⟩
theorem Mb.then {p:ai}(a:Mb p H H1)(e:Same H1 H2):Mb p H H2:=⟨fun c o hc q=>e _ _ (a.1 c o hc q),let ⟨x,y,h⟩:=a.2;⟨x,y,e _ _ h⟩⟩
theorem Mb.at {p q:ai}(a:Mb p H H1)(h:H q=some o)(hne:q≠p):H1 q=some o:=a.1 q o hne h
inductive spCell (K:au)(vs:List V)(H:Hp)(Q:VK)(_:XK):Prop
 | mk (a:ai)(ns:List Int)(k:Int)(_:vs=[.ref a,.int k])(_:SqL K H a (ns.map V.int))(_:0≤k)(_:∀ c:Int,Q (.int c) H)
inductive spBox (K:au)(vs:List V)(H:Hp)(Q:VK)(_:XK):Prop
 | mk (a:ai)(ns:List Int)(k:Int)(_:vs=[.ref a,.int k])(_:SqL K H a (ns.map V.int))(_:0≤k)(_:∀ x y p,H p=none→Q (.ref p) (upd H p (.lst [.int x,.int y])))
inductive spDraw (vs:List V)(H:Hp)(Q:VK)(_:XK):Prop
 | mk (p x y m:_)(_:vs=[.ref p,.int m])(_:H p=some (.lst [.int x,.int y]))(_:0<m)(_:m<10 ^ 61)(_:∀ r H',0≤r→r<m→Mb p H H'→Q (.int r) H')
theorem atI_in {xs:List α}{r:Int}(h0:0≤r)(h1:r<xs.length):∃ v,atI xs r=some v∧v∈xs:=by
 obtain ⟨j,rfl⟩:=dQ h0;have hj:j<xs.length:=by lia
 exact ⟨xs[j],bc (gE hj),bu hj⟩
theorem log_ok {m:Int}(h0:0<m)(h:m<10 ^ 61):0<m∧m.natAbs.log2<9000:=by
 refine ⟨h0,?_⟩;have h1:m.natAbs<2 ^ 300:=by
  have:(10:Nat) ^ 61<2 ^ 300:=by trivial
  have h2:m.natAbs<10 ^ 61:=by lia
  exact Nat.lt_trans h2 this
 have h3:m.natAbs≠0:=by lia
 have:=(Nat.log2_lt h3).mpr h1;lia
abbrev rowsP {α:Type}(f:α→List Int)(xs:List α):Dt:= .tup (xs.map fun x=> .tup ((f x).map Dt.int))
theorem l4 {f:α→List Int}{xs:List α}(r:IsDs H ys (xs.map fun x=> .tup ((f x).map Dt.int))){x:α}(hx:xs[i]? =some x):∃ q,ys[i]? =some (.ref q)∧H q=some (.tup ((f x).map V.int)):=by
 obtain ⟨y,hy,dy⟩:=r.at (i:=i) (d:= .tup ((f x).map Dt.int)) (by rw [ax,hx];rfl);obtain ⟨q,zs,rfl,hq,rz⟩:=dy.tup_of;have ez:=rz.ints_of;subst ez;exact ⟨q,hy,hq⟩
theorem jR {f:α→List Int}{xs:List α}(h:IsD H v (rowsP f xs)):∃ p ys,v= .ref p∧H p=some (.tup ys)∧ys.length=xs.length∧IsDs H ys (xs.map fun x=> .tup ((f x).map Dt.int)):=by
 obtain ⟨p,ys,rfl,hp,ry⟩:=h.tup_of;exact ⟨p,ys,rfl,hp,by rw [ry.length,af],ry⟩
structure Stp where
 i:Nat
 d:Int
abbrev Stp.row (s:Stp):List Int:=[(s.i:Int),s.d]
abbrev wayP (ws:List Stp):Dt:=rowsP Stp.row ws
abbrev bndR (p:Int×Int):List Int:=[p.1,p.2]
abbrev bndP (bs:List (Int×Int)):Dt:=rowsP bndR bs
def frm (x:Sn)(d:Int):Int:=if d=1 then x.s else x.g
def too (x:Sn)(d:Int):Int:=if d=1 then x.g else x.s
def WayIn (n:Nat)(ws:List Stp):Prop:=∀ s∈ws,s.i<n∧(s.d=1∨s.d= -1)
def kR (sp:List Sn)(s:Stp):Int:=match sp[s.i]? with | some x=>frm x s.d | none=>0
def eE (sp:List Sn)(s:Stp):Int:=match sp[s.i]? with | some x=>too x s.d | none=>0
def lowS (bs:List (Int×Int))(s:Stp):Int:=match bs[s.i]? with | some p=>if s.d=1 then p.1 else -p.2 | none=>0
def lh (bs:List (Int×Int))(s:Stp):Int:=match bs[s.i]? with | some p=>if s.d=1 then p.2 else -p.1 | none=>0
def iK (bs:List (Int×Int))(ws:List Stp):Int:=(ws.map (lowS bs)).sum
def jr (bs:List (Int×Int))(ws:List Stp):Int:=(ws.map (lh bs)).sum
inductive spFrom (vs:List V)(H:Hp)(Q:VK)(_:XK):Prop
 | mk (v:V)(q:ai)(b m:Int)(sp:List Sn)(s:Stp)(x:Sn)(_:vs=[v,.ref q])(_:IsD H v (kN b m sp))(_:H q=some (.tup (s.row.map V.int)))(_:sp[s.i]? =some x)(_:Q (.int (frm x s.d)) H)
inductive spTo (vs:List V)(H:Hp)(Q:VK)(_:XK):Prop
 | mk (v:V)(q:ai)(b m:Int)(sp:List Sn)(s:Stp)(x:Sn)(_:vs=[v,.ref q])(_:IsD H v (kN b m sp))(_:H q=some (.tup (s.row.map V.int)))(_:sp[s.i]? =some x)(_:Q (.int (too x s.d)) H)
inductive spFirst (vs:List V)(H:Hp)(Q:VK)(_:XK):Prop
 | mk (v:V)(b m:Int)(sp:List Sn)(_:vs=[v])(_:IsD H v (kN b m sp))(_:sp.length≤1000)(_:∀ u H',Same H H'→IsD H' u (bndP (sp.map fun x=>(x.l,x.o)))→Q u H')
inductive spSum (vs:List V)(H:Hp)(Q:VK)(_:XK):Prop
 | mk (vb vw:V)(bs:List (Int×Int))(ws:List Stp)(_:vs=[vb,vw])(_:IsD H vb (bndP bs))(_:IsD H vw (wayP ws))(_:WayIn bs.length ws)(_:∀ p H',Same H H'→H' p=some (.tup [.int (iK bs ws),.int (jr bs ws)])→Q (.ref p) H')
abbrev eU {α:Type}(f:α→List Int)(xs:List α):List Dt:=xs.map fun x=> .tup ((f x).map Dt.int)
structure N3 (mg:Str→Option aa):Prop where
 tset:mg "set" =none
def TupK (H H':Hp):Prop:=∀ q xs,H q=some (.tup xs)→H' q=some (.tup xs)
theorem TupK.trans (a:TupK H H1)(b:TupK H1 H2):TupK H H2:=fun q xs h=>b q xs (a q xs h)
theorem Same.tupK (e:Same H H'):TupK H H':=fun _ _ h=>e _ _ h
theorem i6 {p:ai}(hp:H p=some (.lst xs)):TupK H (upd H p o):=fun q ys h=>by rw [aZ (eV h hp nofun)];exact h
theorem eP {α:Type}{f:α→List Int}{H H':Hp}(e:TupK H H'):∀ {xs:List α} {zs:List V},IsDs H zs (eU f xs)→IsDs H' zs (eU f xs)
 | [],_,h=>by cases h;exact .nil
 | x::xs,zs,h=>by
  unfold eU at h ⊢;rw [cg] at h ⊢;cases h with
  | cons h1 h2 =>
   obtain ⟨q,ws,rfl,hq,rw'⟩:=h1.tup_of;have e2:=rw'.ints_of;subst e2;exact .cons (.tup (e q _ hq) (IsDs.ints _)) (eP e h2)
def upB (b s:Int):Int:= -(-s / b)
inductive spBeats (vs:List V)(H:Hp)(Q:VK)(_:XK):Prop
 | mk (vn vb vw:V)(b m:Int)(sp:List Sn)(bs:List (Int×Int))(ws:List Stp)(_:vs=[vn,vb,vw])(_:IsD H vn (kN b m sp))(_:0<b)(_:b<10 ^ 61)(_:IsD H vb (bndP bs))(_:IsD H vw (wayP ws))(_:WayIn bs.length ws)(_:∀ p H',Same H H'→H' p=some (.tup [.int (upB b (iK bs ws)),.int (jr bs ws / b)])→Q (.ref p) H')
inductive Lf where
 | ring (ws:List Stp)
 | price (rows:List (Int×List Stp))
abbrev rowD (r:Int×List Stp):Dt:= .tup [.int r.1,wayP r.2]
def leafP:Lf→Dt
 | .ring ws=> .tup [.str "ring",wayP ws]
 | .price rows=> .tup [.str "price",.tup (rows.map rowD)]
def kK (b:Int)(bs:List (Int×Int))(ws:List Stp):Bool:=decide (upB b (iK bs ws) > jr bs ws / b)
inductive spDead (vs:List V)(H:Hp)(Q:VK)(_:XK):Prop
 | mk (vn vb vw:V)(b m:Int)(sp:List Sn)(bs:List (Int×Int))(ws:List Stp)(_:vs=[vn,vb,vw])(_:IsD H vn (kN b m sp))(_:0<b)(_:b<10 ^ 61)(_:IsD H vb (bndP bs))(_:IsD H vw (wayP ws))(_:WayIn bs.length ws)(_:∀ H',Same H H'→Q (.bl (kK b bs ws)) H')
theorem IsDs.takeN {H:Hp}:∀ {xs:List V} {ds:List Dt} (n:Nat),IsDs H xs ds→IsDs H (xs.take n) (ds.take n)
 | _,_,0,_=> .nil
 | _,_,_+1,.nil=> .nil
 | _,_,n+1,.cons h r=> .cons h (IsDs.takeN n r)
theorem IsDs.dropN {H:Hp}:∀ {xs:List V} {ds:List Dt} (n:Nat),IsDs H xs ds→IsDs H (xs.drop n) (ds.drop n)
 | _,_,0,h=>h
 | _,_,_+1,.nil=> .nil
 | _,_,n+1,.cons _ r=>IsDs.dropN n r
def Along (sp:List Sn):Int→List Stp→Int→Prop
 | x,[],y=>x=y
 | x,s::ws,y=>kR sp s=x∧Along sp (eE sp s) ws y
theorem Along.append {sp:List Sn}:∀ {us:List Stp} {x y z:Int} {vs:List Stp},Along sp x us y→Along sp y vs z→Along sp x (us++vs) z
 | [],_,_,_,_,h,k=>by cases h;exact k
 | _::us,_,_,_,_,h,k=>⟨h.1,Along.append (us:=us) h.2 k⟩
theorem mm {sp:List Sn}{d:Int}(h:j<sp.length):kR sp ⟨j,d⟩=frm sp[j] d:=by
 unfold kR;show (match sp[j]? with | some x=>frm x d | none=>0)=_;rw [gE h]
theorem ky {sp:List Sn}{d:Int}(h:j<sp.length):eE sp ⟨j,d⟩=too sp[j] d:=by
 unfold eE;show (match sp[j]? with | some x=>too x d | none=>0)=_;rw [gE h]
theorem ends_of_span {sp:List Sn}{st:Stp}{d:Int}(h:j<sp.length)(e:st.i=j)(hs:st.d=1∨st.d= -1)(hd:d=1∨d= -1):eE sp st=eE sp ⟨j,d⟩∨kR sp st=eE sp ⟨j,d⟩:=by
 obtain ⟨i,dd⟩:=st;have e:i=j:=e;subst e;have hs:dd=1∨dd= -1:=hs;rw [ky h,ky h,mm h];unfold too frm
 rcases hs with rfl | rfl <;> rcases hd with rfl | rfl <;> simp
structure Bk (sp:List Sn)(be ou:Int)(x:Int)(ws:List Stp):Prop where
 inn:WayIn sp.length ws
 alo:Along sp be ws x
 one:(ws.map Stp.i).Nodup
 out:∀ s∈ws,(s.i:Int)≠ou
structure Rg (sp:List Sn)(ws:List Stp):Prop where
 inn:WayIn sp.length ws
 two:2≤ws.length
 few:ws.length≤17
 one:(ws.map Stp.i).Nodup
 rnd:∃ x,Along sp x ws x
theorem Bk.ring {sp:List Sn}{k:Nat}{ws:List Stp}(hk:k<sp.length)(hne:sp[k].s≠sp[k].g)(h:Bk sp sp[k].g (k:Nat) sp[k].s ws)(hl:ws.length≤16):Rg sp (⟨k,1⟩::ws):=by
 refine ⟨fun s hs=>?_,?_,by rw [aY];lia,?_,sp[k].s,?_,?_⟩
 ·rcases aF.mp hs with rfl | hs
  ·exact ⟨hk,.inl rfl⟩
  ·exact h.inn s hs
 ·cases ws with
  | nil=>exact pP h.alo.symm hne
  | cons a r=>rw [aY,aY];lia
 ·rw [cg,bz]
  refine ⟨fun z=>?_,h.one⟩;obtain ⟨st,hst,e⟩:=bt.mp z;exact h.out st hst (by rw [e])
 ·rw [mm hk];rfl
 ·rw [ky hk];exact h.alo
inductive spWithB (vs:List V)(H:Hp)(Q:VK)(_:XK):Prop
 | mk (vb:V)(k:Nat)(lo hi:Int)(bs:List (Int×Int))(_:vs=[vb,.int (k:Nat),.int lo,.int hi])(_:IsD H vb (bndP bs))(_:k<bs.length)(_:bs.length≤40)(_:∀ u H',Same H H'→IsD H' u (bndP (bs.set k (lo,hi)))→Q u H')
def o8 (bs:List (Int×Int))(k:Nat)(a:Int):List (Int×Int):=bs.set k ((bs.getD k (0,0)).1,a)
def gX (bs:List (Int×Int))(k:Nat)(a:Int):List (Int×Int):=bs.set k (a+1,(bs.getD k (0,0)).2)
theorem one_len (bs:List (Int×Int))(k:Nat)(a:Int):(o8 bs k a).length=bs.length:=by unfold o8;rw [gu]
theorem other_len (bs:List (Int×Int))(k:Nat)(a:Int):(gX bs k a).length=bs.length:=by unfold gX;rw [gu]
end HN
variable {S ws:List HN.Stp}{c:List (Int×List HN.Stp)×List Int}{rs:List (Nat×List HN.Stp)}{sp:List HN.Sn}
namespace L2
open PySem PyProof.Rows HN
mutual
theorem IsD.keepP {H H':Hp}(e:TupK H H'):∀ {v:V} {d:Dt},IsD H v d→pl d=true→IsD H' v d
 | _,_,.non,_=> .non
 | _,_,.bl b,_=> .bl b
 | _,_,.int i,_=> .int i
 | _,_,.str x,_=> .str x
 | _,_,.tup h r,p=> .tup (e _ _ h) (IsDs.keepP e r (by unfold pl at p;exact p))
 | _,_,.lst h,p=>by unfold pl at p;cases p
 | _,_,.dct h,p=>by unfold pl at p;cases p
theorem IsDs.keepP {H H':Hp}(e:TupK H H'):∀ {xs:List V} {ds:List Dt},IsDs H xs ds→pls ds=true→IsDs H' xs ds
 | _,_,.nil,_=> .nil
 | _,_,.cons h r,p=>by
  unfold pls at p;rw [cS] at p;exact .cons (IsD.keepP e h p.1) (IsDs.keepP e r p.2)
end
end L2
namespace HN
open PySem L2 PyProof.Rows
theorem oz {α:Type}{f:α→Dt}:∀ (xs:List α),(∀ x∈xs,pl (f x)=true)→pls (xs.map f)=true
 | [],_=>by show pls []=true;unfold pls;rfl
 | x::xs,h=>by
  show pls (f x::xs.map f)=true;unfold pls;rw [h x (by simp),oz xs fun y hy=>h y (aD _ hy)];rfl
theorem pl_ints (ns:List Int):pl (.tup (ns.map Dt.int))=true:=by
 unfold pl;exact oz ns fun x _=>by unfold pl;rfl
theorem pl_rows (f:α→List Int)(xs:List α):pl (rowsP f xs)=true:=by
 unfold rowsP;unfold pl;exact oz xs fun x _=>pl_ints (f x)
theorem cw {m:Int}(e:TupK H H')(h:IsD H v (kN b m sp)):IsD H' v (kN b m sp):=by
 obtain ⟨t,xs,rfl,ht,rx⟩:=h.tup_of;cases rx with
 | cons h0 r0 =>
  cases r0 with
  | cons h1 r1 =>
   cases r1 with
   | cons h2 r2 =>
    cases r2;cases h0;cases h1;obtain ⟨p,ys,rfl,hp,ry⟩:=h2.tup_of;exact .tup (e _ _ ht) (.cons (.int _) (.cons (.int _) (.cons (.tup (e _ _ hp) (eP (f:=Sn.row) (xs:=sp) e ry)) .nil)))
def sideS (k:Int)(x:Sn):Sn:=⟨x.s+k,x.g+k,x.l,x.o,x.w⟩
structure Sides (b m1 m2:Int)(sp1 sp2:List Sn):Prop where
 N1:NetT b m1 sp1
 N2:NetT b m2 sp2
 m:m1+m2≤16
 few:sp1.length+sp2.length≤40
def TabsL (H:Hp)(b m:Int)(us:List V):Prop:=∀ u∈us,∃ (q:ai) (ts:List Int),u= .ref q∧H q=some (.tup (ts.map V.int))∧(ts.length:Int)=m
theorem TabsL.same {m:Int}{us:List V}(h:TabsL H b m us)(e:Same H H'):TabsL H' b m us:=fun u hu=>let ⟨q,ts,a,c,d⟩:=h u hu;⟨q,ts,a,e _ _ c,d⟩
def strS (n:Int)(x:Sn):Sn:=⟨x.s,x.g,x.l * n,x.o * n,x.w⟩
def strT (n:Int)(ts:List Int):List Int:=ts.map fun t=>t * n
theorem strT_len (n:Int)(ts:List Int):(strT n ts).length=ts.length:=by unfold strT;rw [af]
end HN
namespace L2
open PySem PySem.W PyProof.Rows
def Gd {α:Type}(lt:Nat→Nat→Bool)(n:Nat):KasT α→(α→Prop)→Prop
 | .ret a,P=>P a
 | .ask i j k,P=>i<n∧j<n∧Gd lt n (k (lt i j)) P
theorem Gd.mono {α:Type}{lt:Nat→Nat→Bool}{n:Nat}{P R:α→Prop}(h:∀ a,P a→R a):∀ {t:KasT α},Gd lt n t P→Gd lt n t R
 | .ret a,g=>h a g
 | .ask _ _ _,g=>⟨g.1,g.2.1,Gd.mono h g.2.2⟩
theorem Gd.bind {α β:Type}{lt:Nat→Nat→Bool}{n:Nat}{f:α→KasT β}{P:β→Prop}:∀ {t:KasT α},Gd lt n t (fun a=>Gd lt n (f a) P)→Gd lt n (t.bind f) P
 | .ret _,g=>g
 | .ask _ _ _,g=>⟨g.1,g.2.1,Gd.bind g.2.2⟩
theorem Gd.wp {α:Type}{lt:Nat→Nat→Bool}{n:Nat}{P:α→Prop}{cmp:Nat→Nat→(Bool→ao→Prop)→ao→Prop}{Q:α→ao→Prop}{s:ao}(hc:∀ i j C,i<n→j<n→C (lt i j) s→cmp i j C s)(hq:∀ a,P a→Q a s):∀ {t:KasT α},Gd lt n t P→t.kasWp cmp Q s
 | .ret a,g=>hq a g
 | .ask i j k,g=>hc i j _ g.1 g.2.1 (Gd.wp hc hq g.2.2)
structure Ord (lt:Nat→Nat→Bool)(n:Nat):Prop where
 tot:∀ i j,i<n→j<n→i≠j→lt i j=false→lt j i=true
 tr:∀ i j k,lt i j=true→lt j k=true→lt i k=true
abbrev gA (p:Array Nat)(i:Nat):Nat:=p.getD i 0
abbrev Pm (n:Nat)(p:Array Nat):Prop:=p.toList.Perm (aK n)
theorem lE:gA p i=p[i]?.getD 0:=by
 show p.getD i 0=_;rw [Array.getD_eq_getD_getElem?]
theorem Pm.size (h:Pm n p):p.size=n:=by
 have:=h.length_eq;rw [ba,bW] at this;exact this
theorem Pm.lt (h:Pm n p)(hi:i<n):gA p i<n:=by
 have hs:i<p.size:=by rw [h.size];exact hi
 have e:gA p i=p[i]:=by rw [lE,cL hs];rfl
 rw [e];have:p[i]∈p.toList:=by simp
 exact bT.mp (h.mem_iff.mp this)
theorem Pm.ne (h:Pm n p)(hij:i<j)(hj:j<n):gA p i≠gA p j:=by
 have hd:p.toList.Nodup:=h.nodup_iff.mpr hW;have si:i<p.toList.length:=by rw [bW,h.size];lia
 have sj:j<p.toList.length:=by rw [bW,h.size];lia
 have ei:gA p i=p.toList[i]:=by rw [lE,cL (by rw [h.size];lia)];simp
 have ej:gA p j=p.toList[j]:=by rw [lE,cL (by rw [h.size];lia)];simp
 rw [ei,ej];exact List.pairwise_iff_getElem.mp (cJ.mp hd) i j si sj hij
theorem Pm.of {q:Array Nat}(h:Pm n p)(e:q.Perm p):Pm n q:=(Array.perm_iff_toList_perm.mp e).trans h
def SoA (lt:Nat→Nat→Bool)(p:Array Nat)(m:Nat):Prop:=∀ i j,i<j→j<m→lt (gA p i) (gA p j)=true
def DeA (lt:Nat→Nat→Bool)(p:Array Nat)(m:Nat):Prop:=∀ i j,i<j→j<m→lt (gA p j) (gA p i)=true
section
variable {lt:Nat→Nat→Bool}
theorem SoA.more (O:Ord lt n)(h:SoA lt p m)(h1:lt (gA p (m - 1)) (gA p m)=true):SoA lt p (m+1):=fun i j hij hj=>by
 by_cases e:j<m
 ·exact h i j hij e
 ·have ej:j=m:=by lia
  rw [ej]
  by_cases ei:i=m - 1
  ·rw [ei];exact h1
  ·exact O.tr _ _ _ (h i (m - 1) (by lia) (by lia)) h1
theorem DeA.more (O:Ord lt n)(h:DeA lt p m)(h1:lt (gA p m) (gA p (m - 1))=true):DeA lt p (m+1):=fun i j hij hj=>by
 by_cases e:j<m
 ·exact h i j hij e
 ·have ej:j=m:=by lia
  rw [ej]
  by_cases ei:i=m - 1
  ·rw [ei];exact h1
  ·exact O.tr _ _ _ h1 (h i (m - 1) (by lia) (by lia))
theorem asc_ok (O:Ord lt n){p:Array Nat}(hp:Pm n p):∀ (f m:Nat),1≤m→m+f=n→SoA lt p m→Gd lt n (kas_asc p f m) (fun r=>m≤r∧r≤n∧SoA lt p r∧(r<n→lt (gA p r) (gA p (r - 1))=true))
 | 0,m,_,h1,hs=>⟨az _,by lia,hs,fun z=>pP z (by lia)⟩
 | f+1,m,h0,h1,hs=>by
  refine ⟨hp.lt (by lia),hp.lt (by lia),?_⟩;cases c:lt (gA p m) (gA p (m - 1)) with
  | true =>
   exact ⟨az _,by lia,hs,fun _=>c⟩
  | false =>
   have h2:=O.tot _ _ (hp.lt (by lia)) (hp.lt (by lia)) (hp.ne (by lia:m - 1<m) (by lia)).symm c;refine (asc_ok O hp f (m+1) (by lia) (by lia) (hs.more O h2)).mono fun r ⟨a,b,cc,d⟩=>⟨by lia,b,cc,d⟩
theorem desc_ok (O:Ord lt n){p:Array Nat}(hp:Pm n p):∀ (f m:Nat),1≤m→m+f=n→DeA lt p m→Gd lt n (kas_desc f p m 0) (fun r=>r.1=p∧r.2.2=0∧m≤r.2.1∧r.2.1≤n∧DeA lt p r.2.1)
 | 0,m,_,h1,hs=>⟨rfl,rfl,az _,by show m≤n;lia,hs⟩
 | f+1,m,h0,h1,hs=>by
  refine ⟨hp.lt (by lia),hp.lt (by lia),?_⟩;cases c:lt (gA p m) (gA p (m - 1)) with
  | true =>
   refine (desc_ok O hp f (m+1) (by lia) (by lia) (hs.more O c)).mono fun r ⟨a,b,cc,d,e⟩=>⟨a,b,by lia,d,e⟩
  | false =>
   have h2:=O.tot _ _ (hp.lt (by lia)) (hp.lt (by lia)) (hp.ne (by lia:m - 1<m) (by lia)).symm c;refine ⟨hp.lt (by lia),hp.lt (by lia),?_⟩;show Gd lt n (if (lt (gA p (m - 1)) (gA p m))=true then KasT.ret (p,m,0) else kas_desc f p (m+1) (0+1)) _;rw [pO h2];exact ⟨rfl,rfl,az _,by show m≤n;lia,hs⟩
theorem rev_ok (hp:Pm n p)(hm:m≤n):Pm n (kas_rev p 0 m):=hp.of (mirror_perm _ _ _ _)
theorem rev_so (hp:Pm n p)(hm:m≤n)(h:DeA lt p m):SoA lt (kas_rev p 0 m) m:=fun i j hij hj=>by
 have e:∀ k,k<m→gA (kas_rev p 0 m) k=gA p (m - 1 - k):=fun k hk=>by
  rw [lE,lE];have:=getElem?_mirror_all (xs:=p) (i:=0) (j:=m) (by rw [hp.size];exact hm) k;unfold kas_rev;rw [this,pO ⟨bE _,hk⟩];congr 2;lia
 rw [e i (by lia),e j hj];exact h _ _ (by lia) (by lia)
theorem tail_ok (O:Ord lt n)(hp:Pm n p)(h1:1≤m)(hm:m≤n)(h:DeA lt p m):Gd lt n (kas_tail3 m n p) (fun r=>Pm n r.2∧1≤r.1∧r.1≤n∧SoA lt r.2 r.1):=by
 unfold kas_tail3;refine Gd.bind ((asc_ok O (rev_ok hp hm) (n - m) m h1 (by lia) (rev_so hp hm h)).mono fun r ⟨a,b,c,_⟩=>?_);exact ⟨rev_ok hp hm,by show 1≤r;lia,b,c⟩
theorem count_ok (O:Ord lt n)(h1:1≤n)(hp:Pm n p):Gd lt n (kas_count n p) (fun r=>Pm n r.2∧1≤r.1∧r.1≤n∧SoA lt r.2 r.1):=by
 unfold kas_count;refine Gd.bind ((asc_ok O hp (n - 1) 1 (az _) (by lia) (fun i j a b=>pP a (by lia))).mono fun r ⟨a,b,c,d⟩=>?_)
 by_cases e:r=n
 ·rw [pO (by rw [e];exact beq_self_eq_true n)]
  exact ⟨hp,a,b,c⟩
 ·rw [pN (by rw [beq_iff_eq];exact e)]
  by_cases e2:r > 1
  ·rw [pO e2]
   refine ⟨hp.lt (by lia),hp.lt (by lia),?_⟩;show Gd lt n (if (lt (gA p 0) (gA p (r - 1)))=true then KasT.ret (r,p) else _) _;rw [pO (c 0 (r - 1) (by lia) (by lia))];exact ⟨hp,a,b,c⟩
  ·rw [pN e2]
   have er:r=1:=by lia
   subst er;have hn:1<n:=by lia
   have dd:=d hn;unfold kas_descPart;refine Gd.bind ((desc_ok O hp (n - (1+1)) (1+1) (by lia) (by lia) (fun i j x y=>by
    have ei:i=0:=by lia
    have ej:j=1:=by lia
    rw [ei,ej];exact dd)).mono fun q ⟨q1,q2,q3,q4,q5⟩=>?_)
   rw [pN (by rw [q2];lia),q1];exact tail_ok O hp (by lia) q4 q5
theorem place_ok (O:Ord lt n){p:Array Nat}(hp:Pm n p){k:Nat}(hk:k<n)(hs:SoA lt p k):∀ (f l r:Nat),l≤r→r≤k→r - l≤f→(∀ i,i<l→lt (gA p i) (gA p k)=true)→(∀ i,r≤i→i<k→lt (gA p k) (gA p i)=true)→Gd lt n (kas_place p k f l r) (fun m=>m≤k∧(∀ i,i<m→lt (gA p i) (gA p k)=true)∧∀ i,m≤i→i<k→lt (gA p k) (gA p i)=true)
 | 0,l,r,h1,h2,h3,a,b=>⟨by lia,a,fun i x y=>b i (by lia) y⟩
 | f+1,l,r,h1,h2,h3,a,b=>by
  show Gd lt n (if l ≥ r then KasT.ret l else KasT.ask (gA p k) (gA p ((l+r) / 2)) fun c=>if c=true then kas_place p k f l ((l+r) / 2) else kas_place p k f ((l+r) / 2+1) r) _
  by_cases e:l ≥ r
  ·rw [pO e]
   exact ⟨by lia,a,fun i x y=>b i (by lia) y⟩
  ·rw [pN e]
   refine ⟨hp.lt hk,hp.lt (by lia),?_⟩;cases c:lt (gA p k) (gA p ((l+r) / 2)) with
   | true =>
    refine place_ok O hp hk hs f l ((l+r) / 2) (by lia) (by lia) (by lia) a fun i x y=>?_
    by_cases ei:i=(l+r) / 2
    ·rw [ei];exact c
    ·exact O.tr _ _ _ c (hs _ _ (by lia) y)
   | false =>
    have h5:=O.tot _ _ (hp.lt hk) (hp.lt (by lia)) (hp.ne (by lia:(l+r) / 2<k) hk).symm c;refine place_ok O hp hk hs f ((l+r) / 2+1) r (by lia) h2 (by lia) (fun i x=>?_) b
    by_cases ei:i=(l+r) / 2
    ·rw [ei];exact h5
    ·exact O.tr _ _ _ (hs i _ (by lia:i<(l+r) / 2) (by lia)) h5
theorem bub_so (O:Ord lt n)(hp:Pm n p){k:Nat}(hk:k<n)(hm:m≤k)(hs:SoA lt p k)(a:∀ i,i<m→lt (gA p i) (gA p k)=true)(b:∀ i,m≤i→i<k→lt (gA p k) (gA p i)=true):SoA lt (bubble p k (k - m)) (k+1):=fun i j hij hj=>by
 have e:∀ x,gA (bubble p k (k - m)) x=if x=m then gA p k else if m<x∧x≤k then gA p (x - 1) else gA p x:=fun x=>by
  have:=getElem?_bubble (xs:=p) (src:=k) (by rw [hp.size];exact hk) (k - m) (by lia) x;have e0:k - (k - m)=m:=by lia
  rw [e0] at this;rw [lE,this]
  by_cases h1:x=m
  ·rw [pO h1,pO h1,lE]
  ·rw [pN h1,pN h1]
   by_cases h2:m<x∧x≤k
   ·rw [pO h2,pO h2,lE]
   ·rw [pN h2,pN h2,lE]
 rw [e i,e j]
 by_cases i1:i=m
 ·rw [pO i1,pN (by lia),pO (by lia)]
  exact b _ (by lia) (by lia)
 ·rw [pN i1]
  by_cases i2:m<i∧i≤k
  ·rw [pO i2,pN (by lia),pO (by lia)]
   exact hs _ _ (by lia) (by lia)
  ·rw [pN i2]
   by_cases j1:j=m
   ·rw [pO j1];exact a _ (by lia)
   ·rw [pN j1]
    by_cases j2:m<j∧j≤k
    ·rw [pO j2];exact hs _ _ (by lia) (by lia)
    ·rw [pN j2];exact hs _ _ hij (by lia)
theorem bin_ok (O:Ord lt n):∀ (f:Nat) (p:Array Nat) (k:Nat),k+f=n→Pm n p→SoA lt p k→Gd lt n (kas_bin f p k) (fun q=>Pm n q∧SoA lt q n)
 | 0,p,k,h1,hp,hs=>by
  have e:k=n:=by lia
  rw [e] at hs;exact ⟨hp,hs⟩
 | f+1,p,k,h1,hp,hs=>by
  show Gd lt n ((kas_place p k k 0 k).bind fun l=>kas_bin f (bubble p k (k - l)) (k+1)) _;refine Gd.bind ((place_ok O hp (by lia) hs k 0 k (bE _) (az _) (by lia) (fun i x=>pP x (by lia)) (fun i x y=>pP x (by lia))).mono fun m ⟨m1,m2,m3⟩=>?_);exact bin_ok O f _ (k+1) (by lia) (hp.of (bubble_perm _ _ _)) (bub_so O hp (by lia) m1 hs m2 m3)
theorem sort_ok (O:Ord lt n)(h1:1≤n):Gd lt n (kas_sort n) (fun q=>Pm n q∧SoA lt q n):=by
 unfold kas_sort;refine Gd.bind ((count_ok O h1 (p:=(aK n).toArray) (by show (aK n).toArray.toList.Perm _;rw [d5])).mono fun r ⟨a,b,c,d⟩=>?_)
 by_cases e:r.1<n
 ·rw [pO e]
  have em:max r.1 1=r.1:=by lia
  rw [em];exact bin_ok O _ _ _ (by lia) a d
 ·rw [pN e]
  have er:r.1=n:=by lia
  rw [er] at d;exact ⟨a,d⟩
end
theorem oh {out:Array aa}{b:ai}{u:Obj}(hb:b≠a)(e:h.get? b=some u):(sortedHeap h a vs out).get? b=some u:=by
 unfold sortedHeap;rw [d6 _ _ _ _ hb];exact ak _ (ak _ (by rw [d6 _ _ _ _ hb];exact e))
theorem sortedHeap_at {out:Array aa}(e:h.get? a=some (bD "list" vs.toArray n)):∃ c,(sortedHeap h a vs out).get? a=some (bD "list" out c):=by
 unfold sortedHeap;exact ⟨_,eY (ak _ (ak _ (eY e fun _=> #[]))) fun _=>out⟩
def preAll (h:bw)(vs:List aa):bw:=((h.push (bD "list" #[] 0)).update h.objs.size (cp (· ++ vs.toArray))).push (bD "list" vs.toArray 0)
theorem preAll_keep {b:ai}{u:Obj}(e:h.get? b=some u):(preAll h vs).get? b=some u:=by
 have hb:=aC e;exact ak _ (by rw [d6 _ _ _ _ (bj hb)];exact ak _ e)
theorem preAll_at:(preAll h vs).get? (h.objs.size+1)=some (bD "list" vs.toArray 0):=by
 have hsz:((h.push (bD "list" #[] 0)).update h.objs.size (cp (· ++ vs.toArray))).objs.size=h.objs.size+1:=by
  rw [bw.size_update,size_push']
 unfold preAll;rw [←hsz];exact aN _ rfl
theorem call_sortedI:CallR X (.builtin "sorted") (fun xs H Q=>∃ (p:ai) (ns:List Int),xs=[.ref p]∧SqL X.K H p (ns.map V.int)∧ns.length<64∧∀ (l:ai) (ns':List Int),H l=none→ns'.Perm ns→ns'.Pairwise (· ≤ ·)→Q (.ref l) (upd H l (.lst (ns'.map V.int)))):=by
 intro aJ s σ H xs us Q I r h;obtain ⟨p,ns,rfl,hq,hn,q⟩:=h;obtain ⟨u,rfl,ru⟩:=vals1 r;cases (show u=aa.ref p from ru);obtain ⟨its,rv,pl,hz⟩:=I.list hq;have hl:its.length=ns.length:=by rw [←rv.length,af]
 refine sorted_ints pl.isList (ints_are rv) (by lia) fun out ns' a1 a2 a3=>?_
 obtain ⟨c,hc⟩:=sortedHeap_at (h:=preAll s.heap its) (vs:=its) (out:=out) preAll_at;refine ⟨.ref (s.heap.objs.size+1),_,I.laid (o:= .lst (ns'.map V.int)) (t':=s.toks) (fun b u e=>oh (bj (gM (aC e))) (preAll_keep e)) (gZ _) ⟨?_,out.toList,c,nW a1,?_⟩,rfl,q _ ns' (I.hok.fresh (gZ _)) a2 a3⟩
 ·rw [af,a2.length_eq];exact aS (by lia:ns.length≤1000) (by decide)
 ·rw [Array.toArray_toList];exact hc
def kc (h:bw)(a:ai)(vs:List aa):bw:=((h.update a (cp fun _=>(#[]:Array aa))).push (bD "tuple" vs.toArray 0)).push (bD "list" #[] 0)
theorem mid_keep {b:ai}{u:Obj}(hb:b≠a)(e:h.get? b=some u):(kc h a vs).get? b=some u :=
 ak _ (ak _ (by rw [d6 _ _ _ _ hb];exact e))
def ltP (k m:Int×Int):Bool:=if (k.1 == m.1)=true then (if (k.2 == m.2)=true then false else decide (k.2<m.2)) else decide (k.1<m.1)
theorem ltP_iff {k m:Int×Int}:ltP k m=true↔(k.1<m.1∨(k.1=m.1∧k.2<m.2)):=by
 unfold ltP
 by_cases h1:k.1=m.1
 ·rw [pO (by rw [beq_iff_eq];exact h1)]
  by_cases h2:k.2=m.2
  ·rw [pO (by rw [beq_iff_eq];exact h2)]
   constructor
   ·intro h;cases h
   ·intro h;lia
  ·rw [pN (by rw [beq_iff_eq];exact h2),decide_eq_true_eq]
   lia
 ·rw [pN (by rw [beq_iff_eq];exact h1),decide_eq_true_eq]
  lia
abbrev kyP (ks:List (Int×Int))(i:Nat):Int×Int:=ks.getD i (0,0)
theorem kyP_at (h:i<ks.length):kyP ks i=ks[i]:=by
 show ks.getD i (0,0)=_;rw [ah,gE h];rfl
theorem ord_of (h:ks.Nodup):Ord (fun i j=>ltP (kyP ks i) (kyP ks j)) ks.length:=by
 refine ⟨fun i j hi hj hne hf=>?_,fun i j k h1 h2=>?_⟩
 ·show ltP (kyP ks j) (kyP ks i)=true
  have hn:kyP ks i≠kyP ks j:=by
   rw [kyP_at hi,kyP_at hj];intro e;exact hne ((jx h).mp e)
  have hf:¬ ltP (kyP ks i) (kyP ks j)=true:=by
   show ¬ ltP (kyP ks i) (kyP ks j)=true;rw [show ltP (kyP ks i) (kyP ks j)=false from hf];decide
  rw [ltP_iff] at hf ⊢;have:¬ ((kyP ks i).1=(kyP ks j).1∧(kyP ks i).2=(kyP ks j).2):=fun z=>hn (Prod.ext z.1 z.2)
  lia
 ·have h1:ltP (kyP ks i) (kyP ks j)=true:=h1
  have h2:ltP (kyP ks j) (kyP ks k)=true:=h2;show ltP (kyP ks i) (kyP ks k)=true;rw [ltP_iff] at h1 h2 ⊢;lia
def PrsAt (h:bw)(vs:List aa)(ks:List (Int×Int)):Prop:=vs.length=ks.length∧∀ (i:Nat) (v:aa) (k:Int×Int),vs[i]? =some v→ks[i]? =some k→∃ a o t u n,v= .ref a∧h.get? a=some o∧o.cls= .type "tuple" ∧o.data= .seq #[.int k.1 t,.int k.2 u] n
theorem prs_tups {h:bw}:∀ {vs:List aa} {ks:List (Int×Int)},PrsAt h vs ks→∃ fs:List aa,KatTups h vs fs∧fs.length=vs.length∧∀ f∈fs,∃ i t,f=aa.int i t
 | [],[],_=>⟨[],trivial,rfl,fun f hf=>pP hf (by simp)⟩
 | [],_::_,p=>pP p.1 (by simp)
 | _::_,[],p=>pP p.1 (by simp)
 | v::vs,k::ks,p=>by
  obtain ⟨fs,t1,t2,t3⟩:=prs_tups (vs:=vs) (ks:=ks) ⟨by have:=p.1;simp only [aY] at this;lia,fun i v' k' e1 e2=>p.2 (i+1) v' k' (by simpa using e1) (by simpa using e2)⟩;obtain ⟨a,o,t,u,n,rfl,q2,q3,q4⟩:=p.2 0 v k rfl rfl;refine ⟨.int k.1 t::fs,KatTups.cons q2 q3 q4 rfl t1,by rw [aY,aY,t2],fun f hf=>?_⟩
  rcases aF.mp hf with rfl | hf
  ·exact ⟨_,_,rfl⟩
  ·exact t3 f hf
theorem prs_kind (p:PrsAt s.heap vs ks)(h1:1≤vs.length){Q:SortKind→ao→Prop}(q:Q (tuples' true) s):aH (aU prog w) A (keyKind' vs.toArray) Q E s:=by
 obtain ⟨fs,t1,t2,t3⟩:=prs_tups p;have e1:((aa.type "int" :aa) == aa.type "int")=true:=by trivial
 have e2:((aa.type "int" :aa) != aa.type "tuple")=true:=by trivial
 refine kat_kind (T:= .type "int") t1 (by lia) (fun v hv=>?_) e1 (by rw [e2];exact q);obtain ⟨i,t,rfl⟩:=t3 v hv;exact Looks.of_pure rfl
theorem prs_ask (p:PrsAt s.heap vs ks)(hi:i<vs.length)(hj:j<vs.length){C:Bool→ao→Prop}(c:C (ltP (kyP ks i) (kyP ks j)) s):kas_ask prog w A (tuples' true) vs i j C s:=by
 have li:=p.1;obtain ⟨a,o,t,u,n,e1,q2,q3,q4⟩:=p.2 i vs[i] ks[i] (gE hi) (gE (by lia));obtain ⟨a',o',t',u',n',e1',q2',q3',q4'⟩:=p.2 j vs[j] ks[j] (gE hj) (gE (by lia));unfold kas_ask;have ei:vs.getD i aa.none= .ref a:=by rw [ah,gE hi];exact e1
 have ej:vs.getD j aa.none= .ref a':=by rw [ah,gE hj];exact e1'
 rw [ei,ej];rw [kyP_at (by lia),kyP_at (by lia)] at c;refine kat_lt q2 q4 q2' q4' ?_;refine kat_cons (wpAny_eqBool_int ?_);unfold ltP at c
 by_cases h1:(ks[i].1 == ks[j].1)=true
 ·rw [pO h1] at c
  rw [h1];refine kat_yes (kat_cons (wpAny_eqBool_int ?_))
  by_cases h2:(ks[i].2 == ks[j].2)=true
  ·rw [pO h2] at c
   rw [h2];exact kat_yes (kat_nil c)
  ·rw [pN h2] at c
   rw [jf.mpr h2];exact kat_no (kat_one _ _ (lt_int (Q:=PySem.W.BoolBack C) c))
 ·rw [pN h1] at c
  rw [jf.mpr h1];exact kat_no (oneLt_int c)
def oR (h:bw)(kS a:ai)(out:List aa):bw:=(h.update kS (cp fun _=>(#[]:Array aa))).update a (cp fun _=>out.toArray)
theorem key_tail {st:SortSt}{out ks:List aa}{e:Nat}{P:PySem.Fin→ao→Prop}(hout:(arrOf st).map (·.2)=i9 out)(hz:out.length<64)(hkz:ks.length<64)(hf:failedOf st=none)
  (hk:s.heap.get? kS=some (bD "list" ks.toArray e)) (ha:s.heap.get? a=some (bD "list" #[] e1)) (hne:kS≠a)
  (h:P (.done (.ret .none)) { s with heap:=oR s.heap kS a out }):aH (aU prog w) A (ksk_tail a false e1 (.ref kS) st) P E s:=by
 have na:(s.heap.update kS (cp fun _=>(#[]:Array aa))).get? a=some (bD "list" #[] e1):=by
  rw [d6 _ _ _ _ (cn hne)];exact ha
 unfold ksk_tail
 try dsimp only
 rw [hout];refine ae (listUpdate_at hk rfl ?_ (by rw [aB,eG];lia) (bE _));refine ae (fm ?_);refine ae (seqEpoch_at na rfl ?_);refine ae (listUpdate_at na rfl ?_ (bE _) (by show (if false=true then _ else out.toArray).size≤_;rw [pN (by decide),aB,eG];lia));rw [hf];simp only [bne_self_eq_false,Bool.false_eq_true,if_false];exact aA h
theorem key_end {ks:List aa}{e:Nat}{κ:SortKind}{lt:Nat→Nat→Bool}{P:PySem.Fin→ao→Prop}(hl:ks.length=vs.length)(h2:2≤vs.length)(h64:vs.length<64)(O:Ord lt vs.length)
  (hk:s.heap.get? kS=some (bD "list" ks.toArray e)) (ha:s.heap.get? a=some (bD "list" #[] e1)) (hne:kS≠a)
  (hkk:∀ Q:SortKind→ao→Prop,Q κ s→aH (aU prog w) A (keyKind' ks.toArray) Q (fun _ _=>False) s)
  (hc:∀ i j C,i<vs.length→j<vs.length→C (lt i j) s→kas_ask prog w A κ ks i j C s)
  (h:∀ p:Array Nat,Pm vs.length p→SoA lt p vs.length→P (.done (.ret .none)) { s with heap:=oR s.heap kS a (p.toList.map fun i=>vs.getD i aa.none) }) :
  aH (aU prog w) A (ksk_end a false vs.toArray e1 (.ref kS) ks.toArray) P E s:=by
 have hn2:¬ vs.toArray.size<2:=by rw [aB];lia
 unfold ksk_end
 try dsimp only
 rw [pN (by decide),pN hn2,pN hn2,pN (by decide)];refine ae (bH (hkk (fun κ' s'=>κ'=κ∧s'=s) ⟨rfl,rfl⟩) (fun κ' s0 z=>?_) fun _ _ x=>x.elim);obtain ⟨z1,z2⟩:=z;subst z1;subst z2;have G:=(sort_ok O (by lia)).wp (cmp:=kas_ask prog w A κ' ks) (s:=s0) (Q:=fun p s'=>s'=s0∧Pm vs.length p∧SoA lt p vs.length) hc (fun p hp=>⟨rfl,hp.1,hp.2⟩);refine ae (bH (kat_run (Q:=fun st' s'=>∃ p:Array Nat,p.size=vs.length∧arrOf st'=p.map (kas_item (ks.toArray.zip vs.toArray))∧failedOf st'=none∧s'=s0∧Pm vs.length p∧SoA lt p vs.length) hl h2 h64 (fun p' st' s' a1 a2 a3 a4=>⟨p',a1,a2,a3,a4.1,a4.2.1,a4.2.2⟩) G) ?_ fun _ _ e=>e);rintro ⟨⟨⟩,st'⟩ s' ⟨p,hp,har,hf,rfl,pm,so⟩
 try dsimp only
 exact key_tail (kat_snds hl har) (by rw [af,bW,hp];exact h64) (by lia) hf hk ha hne (h p pm so)
theorem key_fold {f:aa}{kS:ai}{body:aa→PUnit→Sem (ForInStep PUnit)}(J:List aa→ao→Prop)(vs:List aa)(h64:vs.length<64)
  (hb:∀ x ks e (t:ao),ks.length<64→t.heap.get? kS=some (bD "list" ks.toArray e) →
   aH (aU prog w) A (ir f [x]) (fun k t'=>t'.heap.get? kS=some (bD "list" ks.toArray e)∧∀ h' c,cb kS t'.heap h'→h'.get? kS=some (bD "list" (ks++[k]).toArray c)→J (ks++[k]) { t' with heap:=h' }) (fun _ _=>False) t →
   aH (aU prog w) A (body x ⟨⟩) (fun r t'=>r= .yield ⟨⟩∧∃ k c,t'.heap.get? kS=some (bD "list" (ks++[k]).toArray c)∧J (ks++[k]) t') E t)
  (hc:∀ ks x e (t:ao),vs[ks.length]? =some x→J ks t→t.heap.get? kS=some (bD "list" ks.toArray e) →
   aH (aU prog w) A (ir f [x]) (fun k t'=>t'.heap.get? kS=some (bD "list" ks.toArray e)∧∀ h' c,cb kS t'.heap h'→h'.get? kS=some (bD "list" (ks++[k]).toArray c)→J (ks++[k]) { t' with heap:=h' }) (fun _ _=>False) t) :
  ∀ (r ks:List aa) (e:Nat) (t:ao),vs=vs.take ks.length++r→ks.length+r.length=vs.length→t.heap.get? kS=some (bD "list" ks.toArray e)→J ks t →
   aH (aU prog w) A (forIn r PUnit.unit body) (fun _ t'=>∃ ks e,t'.heap.get? kS=some (bD "list" ks.toArray e)∧ks.length=vs.length∧J ks t') E t
 | [],ks,e,t,_,hl,hk,j=>by
  rw [List.forIn_nil];exact aA ⟨ks,e,hk,by simpa using hl,j⟩
 | x::r,ks,e,t,hv,hl,hk,j=>by
  rw [aY] at hl;rw [List.forIn_cons];have hx:vs[ks.length]? =some x:=by
   rw [hv,br (by rw [bI];lia),bI,show ks.length - min ks.length vs.length=0 by lia];rfl
  refine ae (bH (hb x ks e t (by lia) hk (hc ks x e t hx j hk)) (fun q t' hq=>?_) fun _ _ z=>z);obtain ⟨rfl,k,c,hk',j'⟩:=hq;show aH (aU prog w) A (forIn r PUnit.unit body) _ E t';refine key_fold J vs h64 hb hc r (ks++[k]) c t' ?_ (by rw [av,cu];lia) hk' j';rw [av,cu,bh,hx]
  simpa using hv
theorem key_rest {f:aa}{P:PySem.Fin→ao→Prop}(J:List aa→ao→Prop)(h64:vs.length<64)(hk:s.heap.get? kS=some (bD "list" #[] 0))(j0:J [] s)
  (hc:∀ ks x e (t:ao),vs[ks.length]? =some x→J ks t→t.heap.get? kS=some (bD "list" ks.toArray e) →
   aH (aU prog w) A (ir f [x]) (fun k t'=>t'.heap.get? kS=some (bD "list" ks.toArray e)∧∀ h' c,cb kS t'.heap h'→h'.get? kS=some (bD "list" (ks++[k]).toArray c)→J (ks++[k]) { t' with heap:=h' }) (fun _ _=>False) t)
  (h:∀ ks e (t:ao),ks.length=vs.length→J ks t→t.heap.get? kS=some (bD "list" ks.toArray e)→aH (aU prog w) A (ksk_end a false vs.toArray e1 (.ref kS) ks.toArray) P E t) :
  aH (aU prog w) A (ksk_rest a f false vs.toArray e1 (.ref kS)) P E s:=by
 unfold ksk_rest;refine ae (wpAny_rule ?_)
 first
  | rw [List.forIn_toArray]
  | (rw [←Array.forIn_toList];simp only [d5])
  | rw [←Array.forIn_toList]
 refine ae (bH (key_fold J vs h64 (fun x ks e t hz ht hx=>?_) hc vs [] 0 s (by simp) (by simp) hk j0) (fun _ t hd=>?_) fun _ _ z=>z)
 ·refine ae (iX (bH hx (fun k t' hk=>?_) fun _ _ hF=>hF.elim))
  obtain ⟨k1,k2⟩:=hk;have s1:=ft t'.heap kS (cp (·.push k));have ea:(i9 ks).push k=i9 (ks++[k]):=by simp
  obtain ⟨c2,hc2⟩:∃ c2,(t'.heap.update kS (cp (·.push k))).get? kS=some (bD "list" (i9 (ks++[k])) c2):=⟨_,by rw [←ea];exact eY k1 (·.push k)⟩
  try dsimp only
  refine ae (listUpdate_at k1 rfl ?_ (by rw [aB,eG];lia) (aS (Nat.le_of_eq (Array.size_push ..)) (by rw [aB,eG];lia)));exact aA ⟨rfl,k,c2,hc2,k2 _ c2 s1 hc2⟩
 ·obtain ⟨ks,e,hk',hl,j⟩:=hd
  try dsimp only
  refine ae (listItems_at hk' rfl ?_);exact h ks e t hl j hk'
theorem collect_range {r:ai}{a c:Int}{t u v:Tok}{Q:List aa→ao→Prop}(hh:A.handled=none)(hr:IsRange s.heap r a b c t u v)(hsmall:gB a b c=true)(hn:dB a b c=n)(hlen:n≤2 ^ 24)
  (h:∀ h' tk acc,(∀ b o,s.heap.get? b=some o→h'.get? b=some o)→s.heap.objs.size<h'.objs.size→ItemsOf (fun i v=>∃ t,v= .int (a+i * c) t) acc n→Q acc.toList { s with heap:=h',toks:=tk }) :
  aH (aU prog w) A (collect (.ref r)) Q E s:=by
 unfold collect;refine ae (wpAny_runValue (fR entry_proto_collect' ?_));show aH _ _ (do again (.builtin "list.__iadd__" ⟨[←newList [],.ref r],[]⟩)) _ _ s;refine ae (wpAny_newList (aA ⟨Code.quiet_builtin _ (by trivial),fR entry_list_iadd' ?_⟩));have key:=wpAny_extend_range (prog:=prog) (w:=w) (A:=A) (s:={ s with heap:=s.heap.push (bD "list" #[] 0) }) (R:=fun r s'=>match r with
   | .ok (.ret v)=>aH (aU prog w) A (match v with
    | .ref a=>do
     let o ← load a
     match o.data with
     | .seq xs _=>eQ xs.toList
     | _=>unsupported "internal:collect"
    | _=>unsupported "internal:collect") Q E s'
   | .ok _=>False
   | .error e=>E e s') hh (ak _ hr) hsmall hn hlen s.heap.objs.size (.ref s.heap.objs.size) 0 (aN _ rfl) (fun h' tk acc c' hk hS hacc=>by
  show aH (aU prog w) A (do
    let o ← load s.heap.objs.size
    match o.data with
    | .seq xs _=>eQ xs.toList
    | _=>unsupported "internal:collect") Q E { s with heap:=h',toks:=tk }
  refine ae (wpAny_load hS ?_);exact aA (h h' tk acc (fun b o e=>hk b o (bj (aC e)) (ak _ e)) (aC hS) hacc))
 exact key
def KeyDo (prog:aQ)(w:bq)(B:bG)(f:aa)(vs:List aa)(kS D:ai)(e1:Nat)(Q:ao→Prop)(s1:ao):Prop :=
 ∃ J:List aa→ao→Prop,J [] s1 ∧
  (∀ ks x e (t:ao),vs[ks.length]? =some x→J ks t→t.heap.get? kS=some (bD "list" ks.toArray e) →
   aH (aU prog w) B (ir f [x]) (fun k t'=>t'.heap.get? kS=some (bD "list" ks.toArray e)∧∀ h' c,cb kS t'.heap h'→h'.get? kS=some (bD "list" (ks++[k]).toArray c)→J (ks++[k]) { t' with heap:=h' }) (fun _ _=>False) t) ∧
  ∀ ks (t:ao),ks.length=vs.length→J ks t→t.heap.get? D=some (bD "list" #[] e1)∧∃ κ lt,Ord lt vs.length ∧
   (2≤vs.length→∀ Q:SortKind→ao→Prop,Q κ t→aH (aU prog w) B (keyKind' ks.toArray) Q (fun _ _=>False) t) ∧
   (∀ i j C,i<vs.length→j<vs.length→C (lt i j) t→kas_ask prog w B κ ks i j C t) ∧
   ∀ p:Array Nat,Pm vs.length p→SoA lt p vs.length→Q { t with heap:=oR t.heap kS D (p.toList.map fun i=>vs.getD i aa.none) }
theorem zip_snd:∀ (ks vs:List aa),ks.length=vs.length→(ks.zip vs).map (·.2)=vs
 | [],[],_=>rfl
 | [],_::_,h=>by cases h
 | _::_,[],h=>by cases h
 | _::ks,v::vs,h=>by
  show v::(ks.zip vs).map (·.2)=v::vs;rw [zip_snd ks vs (by simpa using h)]
theorem key_end_few {ks:List aa}{e:Nat}{P:PySem.Fin→ao→Prop}(hl:ks.length=vs.length)(h2:vs.length<2)
  (hk:s.heap.get? kS=some (bD "list" ks.toArray e)) (ha:s.heap.get? a=some (bD "list" #[] e1)) (hne:kS≠a)
  (h:P (.done (.ret .none)) { s with heap:=oR s.heap kS a vs }) :
  aH (aU prog w) A (ksk_end a false vs.toArray e1 (.ref kS) ks.toArray) P E s:=by
 have hn2:vs.toArray.size<2:=by rw [aB];lia
 unfold ksk_end
 try dsimp only
 rw [pN (by decide),pO hn2,pO hn2,pN (by decide)];refine ae (aA ?_);rw [StateT.run_pure];refine ae (aA ?_)
 try dsimp only
 refine key_tail (out:=vs) ?_ (by lia) (by lia) rfl hk ha hne h;show (ks.toArray.zip vs.toArray).map (·.2)=vs.toArray
 apply Array.toList_inj.mp
 rw [Array.toList_map,Array.toList_zip];exact zip_snd ks vs hl
theorem range_getD (vs:List aa):((aK vs.length).map fun i=>vs.getD i aa.none)=vs:=by
 refine List.ext_getElem? fun i=>?_
 rw [ax]
 by_cases hi:i<vs.length
 ·rw [iC hi]
  show some (vs.getD i aa.none)=_;rw [ah,gE hi];rfl
 ·rw [List.getElem?_eq_none (by rw [ba];lia),List.getElem?_eq_none (by lia)];rfl
theorem key_tree {q:ai}{P:PySem.Fin→ao→Prop}(ho:s.heap.get? a=some (bD "list" vs.toArray n))(h64:vs.length<64)
  (h:∀ e1,(kc s.heap a vs).get? a=some (bD "list" #[] e1)→(kc s.heap a vs).get? (s.heap.objs.size+1)=some (bD "list" #[] 0)→KeyDo prog w A (.ref q) vs (s.heap.objs.size+1) a e1 (fun t=>P (.done (.ret .none)) t) { s with heap:=kc s.heap a vs }) :
  aH (aU prog w) A (ksk_tree a (.ref q) false) P E s:=by
 obtain ⟨e1,ho1⟩:∃ e1,(s.heap.update a (cp fun _=>(#[]:Array aa))).get? a=some (bD "list" #[] e1):=⟨_,eY ho fun _=> #[]⟩;have ha:a<s.heap.objs.size:=aC ho;have ho6:(kc s.heap a vs).get? a=some (bD "list" #[] e1):=ak _ (ak _ ho1);have hkS:((s.heap.update a (cp fun _=>(#[]:Array aa))).push (bD "tuple" vs.toArray 0)).objs.size=s.heap.objs.size+1:=by rw [size_push',bw.size_update]
 have hk0:(kc s.heap a vs).get? (s.heap.objs.size+1)=some (bD "list" #[] 0):=by
  unfold kc;rw [←hkS];exact aN _ rfl
 obtain ⟨J,j0,jc,je⟩:=h e1 ho6 hk0;unfold ksk_tree;refine ae (listItems_at ho rfl ?_);refine ae (listUpdate_at ho rfl ?_ (by rw [aB,eG];lia) (bE _));refine ae (seqEpoch_at ho1 rfl ?_);refine ae (wpAny_newTuple ?_ (by show vs.length≤_;rw [eG];lia));refine ae (wpAny_newList ?_ (bE _));refine cf ?_;show aH (aU prog w) A (ksk_rest a (.ref q) false vs.toArray e1 (.ref ((s.heap.update a (cp fun _=>(#[]:Array aa))).push (bD "tuple" vs.toArray 0)).objs.size)) P E { s with heap:=kc s.heap a vs };rw [hkS];refine key_rest J h64 hk0 j0 jc fun ks e t hl j hk=>?_
 obtain ⟨ha',κ,lt,O,hkk,hc,hP⟩:=je ks t hl j
 by_cases h2:vs.length<2
 ·have hh:=hP (aK vs.length).toArray (by show (aK vs.length).toArray.toList.Perm _;rw [d5]) (fun i j x y=>pP y (by lia))
  rw [d5,range_getD] at hh;exact key_end_few hl h2 hk ha' (bZ (gM ha)) hh
 ·exact key_end hl (by lia) h64 O hk ha' (bZ (gM ha)) (hkk (by lia)) hc hP
theorem sorted_keyR {r q:ai}{a c:Int}{t u v:Tok}(hh:A.handled=none)(hr:IsRange s.heap r a b c t u v)(hsmall:gB a b c=true)(hn:dB a b c=n)(h64:n<64)
  (h:∀ (vs:List aa) (h1:bw) (tk:Nat) (D kS:ai) (e1:Nat),vs.length=n→(∀ (i:Nat) x,vs[i]? =some x→∃ t,x= .int (a+i * c) t)→(∀ b o,s.heap.get? b=some o→h1.get? b=some o)→s.heap.objs.size≤D→D<kS→h1.get? D=some (bD "list" #[] e1)→h1.get? kS=some (bD "list" #[] 0) →
   KeyDo prog w A.in1.in1 (.ref q) vs kS D e1 (fun t'=>Q (.ref D) t') { s with heap:=h1,toks:=tk }) :
  aH (aU prog w) A (ir (.builtin "sorted") [.ref r] [(bY "key",.ref q)]) Q E s:=by
 refine call_function_entry_kw kind_sorted plain_sorted entry_sorted (ksk_s1 _ _) ?_;unfold cV.«sorted»;refine ae (m:=checkCount "sorted" 1 1 _) (aA ?_);refine ae (collect_range hh hr hsmall hn (by lia) fun h' tk acc hk hlt hi=>?_);have hl:acc.toList.length=n:=by rw [bW];exact hi.1
 refine ae (wpAny_newList ?_ (by rw [hl,eG];lia));have hoL:(h'.push (bD "list" acc.toList.toArray 0)).get? h'.objs.size=some (bD "list" acc.toList.toArray 0):=aN _ rfl;show aH _ _ _ _ _ { s with heap:=h'.push (bD "list" acc.toList.toArray 0),toks:=tk };refine ae (cf (wpAny_call_entry_kw slot_list_sort ⟨_,hoL,rfl⟩ entry_list_sort ?body (ksk_l1 _ _)))
 case body =>
  show aH (aU prog w) A.in1.in1 (cV.«list.sort» ⟨[.ref h'.objs.size],[(bY "key",.ref q)]⟩) _ _ _;rw [ksk_t1];refine key_tree (s:={ s with heap:=h'.push (bD "list" acc.toList.toArray 0),toks:=tk }) hoL (by lia) fun e1 g1 g2=>?_
  have K:=h acc.toList (kc (h'.push (bD "list" acc.toList.toArray 0)) h'.objs.size acc.toList) tk h'.objs.size ((h'.push (bD "list" acc.toList.toArray 0)).objs.size+1) e1 hl ?_ ?_ (iu hlt) (by rw [size_push'];exact gM (jI _)) g1 g2
  ·obtain ⟨J,j0,jc,je⟩:=K
   refine ⟨J,j0,jc,fun ks t' x1 x2=>?_⟩;obtain ⟨y1,κ,lt,y2,y3,y4,y5⟩:=je ks t' x1 x2;exact ⟨y1,κ,lt,y2,y3,y4,fun p p1 p2=>⟨_,rfl,aA ⟨_,rfl,y5 p p1 p2⟩⟩⟩
  ·intro i x hx
   rw [gC] at hx;exact hi.2 i x hx
  ·exact fun b o e=>mid_keep (bj (Nat.lt_trans (aC e) hlt)) (ak _ (hk b o e))
section
variable {σ:List (Option V)}
theorem Inv.take (I:Inv X aJ σ H s)(hn:H D=none)(hs0:X.s₀.heap.objs.size≤D)(hL:D≠X.env.locals)(hC:∀ x c,X.env.cells.lookup x=some c→c≠D)(hP:∀ p∈X.pn++aJ,p.1≠D)(new:ObjOk X.prog X.w (upd H D o) s.heap D o):Inv X aJ σ (upd H D o) s where
 ok:=I.ok
 os:=I.os
 bare:=I.bare
 base :=
  {keep:=I.base.keep
   slot:=I.base.slot
   free:=fun b ob e nb hx=>by rw [aZ (bj (aL (aC e) hs0))];exact I.base.free b ob e nb hx
   there:=I.base.there
   tups:=fun b xs e=>by have q:=I.base.tups b xs e;rw [aZ (bB q hn)];exact q
   frzs:=fun b o u e=>by have q:=I.base.frzs b o u e;rw [aZ (bB q hn)];exact q
   tbls:=fun b ps e=>by obtain ⟨more,q⟩:=I.base.tbls b ps e;exact ⟨more,by rw [aZ (bB q hn)];exact q⟩ }
 loc:=I.loc
 cell:=I.cell
 free:=by rw [aZ hL.symm];exact I.free
 freeC:=fun x c e=>by rw [aZ (hC x c e)];exact I.freeC x c e
 pin:=fun p hp=>by
  obtain ⟨a,b,c,d,e⟩:=I.pin p hp;exact ⟨a,by rw [aZ (hP p hp)];exact b,c,d,e⟩
 hok:=I.hok.take hn new
 len:=I.len
theorem Inv.unpin {p0:ai×Obj}(I:Inv X (p0::aJ) σ H s):Inv X aJ σ H s:=I.pins_of fun p hp=>I.pin p (ay _ (aD _ hp))
theorem Inv.repin {o o':Obj}(I:Inv X ((kS,o)::aJ) σ H s)(hs0:X.s₀.heap.objs.size≤kS)(hC:∀ x c,X.env.cells.lookup x=some c→c≠kS)(hP:∀ p∈X.pn++aJ,p.1≠kS)(hsb:cb kS s.heap h')(ho':h'.get? kS=some o')(hd:∀ v,o'.data≠ .cell v):Inv X ((kS,o')::aJ) σ H { s with heap:=h' }:=by
 obtain ⟨p1,p2,p3,p4,_⟩:=I.pin (kS,o) (ay _ (aX ..));have I2:=I.unpin.turned (t':=s.toks) (it:=kS) (h':=h') (fun b o hb e=>hsb.extBut b o hb e) p2 p3 (.inr hs0) hC hP;refine I2.pins_of fun p hp=>?_
 rcases aF.mp hp with rfl | hp
 ·exact ⟨ho',p2,p3,p4,hd⟩
 ·exact I2.pin p (ay _ hp)
theorem prs_of {as:List ai}(I:Inv X aJ σ H s)(hl:as.length=ks.length)(h:∀ (i:Nat) a k,as[i]? =some a→ks[i]? =some k→H a=some (.tup [.int k.1,.int k.2])):PrsAt s.heap (as.map aa.ref) ks:=by
 refine ⟨by rw [af,hl],fun i v k e1 e2=>?_⟩;rw [ax] at e1;obtain ⟨a,ea,rfl⟩:=aI.mp e1;obtain ⟨tz,tts,tr,o,ho,hcl,_,nn,hdt⟩:=I.hok a _ (h i a k ea e2);cases tr with
 | cons r1 tr=>cases tr with
  | cons r2 tr =>
   cases tr;obtain ⟨t1,rfl⟩:=r1;obtain ⟨t2,rfl⟩:=r2;exact ⟨a,o,t1,t2,nn,rfl,ho,hcl,hdt⟩
theorem keyDo_of {B:bG}{f:aa}{num:Nat→Int}{key:Nat→Int×Int}{Q:ao→Prop}
  (I:Inv X ((kS,bD "list" #[] 0)::(D,bD "list" #[] e1)::aJ) σ H s) (hl:vs.length=n) (h64:n<64) (hv:∀ (i:Nat) x,vs[i]? =some x→∃ t,x= .int (num i) t)
  (k0:X.s₀.heap.objs.size≤kS) (d0:X.s₀.heap.objs.size≤D) (kC:∀ x c,X.env.cells.lookup x=some c→c≠kS) (dC:∀ x c,X.env.cells.lookup x=some c→c≠D) (kP:∀ p∈X.pn++aJ,p.1≠kS) (dP:∀ p∈X.pn++aJ,p.1≠D) (hne:kS≠D)
  (hnd:((aK n).map key).Nodup)
  (hf:∀ (t:ao) (H':Hp) (pins':List (ai×Obj)) (i:Nat) (tk:Tok),i<n→Inv X pins' σ H' t→Same H H'→aH (aU X.prog X.w) B (ir f [.int (num i) tk]) (fun k t'=>∃ q H'',Inv X pins' σ H'' t'∧Same H' H''∧k= .ref q∧H'' q=some (.tup [.int (key i).1,.int (key i).2])) (fun _ _=>False) t)
  (fin:∀ (t:ao) (H':Hp) (π:List Nat),Same H H'→H' D=none→Inv X aJ σ (upd H' D (.lst (π.map fun i=>V.int (num i)))) t→π.Perm (aK n)→π.Pairwise (fun i j=>ltP (key i) (key j)=true)→Q t) :
  KeyDo X.prog X.w B f vs kS D e1 Q s:=by
 have pK:∀ p∈X.pn++((D,bD "list" #[] e1)::aJ),p.1≠kS:=fun p hp=>by
  rcases aG.mp hp with hp | hp
  ·exact kP p (aE _ hp)
  ·rcases aF.mp hp with rfl | hp
   ·exact cn hne
   ·exact kP p (ay _ hp)
 refine ⟨fun ks t=>∃ e H' as,Inv X ((kS,bD "list" ks.toArray e)::(D,bD "list" #[] e1)::aJ) σ H' t∧Same H H'∧ks=as.map aa.ref∧∀ (i:Nat) a,as[i]? =some a→H' a=some (.tup [.int (key i).1,.int (key i).2]),⟨0,H,[],I,Same.refl H,rfl,fun i a e=>by simp at e⟩,?_,?_⟩
 ·rintro ks x e t hx ⟨e',H',as,I',S',rfl,has⟩ hk
  rw [af] at hx;have hi:as.length<n:=by rw [←hl];exact (ar.mp hx).1
  obtain ⟨tk,rfl⟩:=hv _ x hx;refine bH (hf t H' _ as.length tk hi I' S') (fun k t' hk'=>?_) fun _ _ z=>z
  obtain ⟨q,H'',I'',S'',rfl,hq⟩:=hk';have pk:=(I''.pin _ (ay _ (aX ..))).1;have pk0:=(I'.pin _ (ay _ (aX ..))).1;have pk0:t.heap.get? kS=some (bD "list" (as.map aa.ref).toArray e'):=pk0;rw [hk] at pk0;have ee:e=e':=by cases pk0;rfl
  refine ⟨by rw [ee];exact pk,fun h' c hsb hg=>⟨c,H'',as++[q],I''.repin k0 kC pK hsb hg (fun v z=>by cases z),S'.trans S'',by rw [aM];rfl,fun i a ea=>?_⟩⟩
  by_cases hlt:i<as.length
  ·rw [bS hlt] at ea
   exact S'' _ _ (has i a ea)
  ·rw [br (by lia)] at ea
   have hz:i=as.length:=by
    have:=(ar.mp ea).1;simp only [cu] at this;lia
   subst hz;rw [eJ] at ea;cases ea;exact hq
 ·rintro ks t hks ⟨e',H',as,I',S',rfl,has⟩
  rw [af] at hks;obtain ⟨pd,nD,lD,fD,_⟩:=I'.pin (D,bD "list" #[] e1) (ay _ (aD _ (aX ..)));obtain ⟨pk,nK,lK,fK,_⟩:=I'.pin (kS,bD "list" (as.map aa.ref).toArray e') (ay _ (aX ..));have pd:t.heap.get? D=some (bD "list" #[] e1):=pd;have pk:t.heap.get? kS=some (bD "list" (as.map aa.ref).toArray e'):=pk;have kat:∀ i,i<n→kyP ((aK n).map key) i=key i:=fun i hi=>by
   rw [kyP_at (by rw [af,ba];exact hi),ib,iQ]
  have PR:PrsAt t.heap (as.map aa.ref) ((aK n).map key):=prs_of I' (by rw [af,ba];lia) fun i a k ea ek=>by
   rw [ax] at ek;obtain ⟨j,ej,rfl⟩:=aI.mp ek;have hi:i<n:=by have:=(ar.mp ej).1;rw [ba] at this;exact this
   rw [iC hi] at ej;cases ej;exact has i a ea
  have ln:((aK n).map key).length=n:=by rw [af,ba]
  have O:=ord_of hnd;rw [ln] at O;refine ⟨pd,tuples' true,fun i j=>ltP (kyP ((aK n).map key) i) (kyP ((aK n).map key) j),by rw [hl];exact O,fun h2 Q' q'=>prs_kind (s:=t) PR (by rw [af];lia) q',fun i j C hi hj c=>prs_ask (s:=t) PR (by rw [af];lia) (by rw [af];lia) c,fun p pm so=>?_⟩;rw [hl] at pm so;have s1:=ft t.heap kS (cp fun _=>(#[]:Array aa));obtain ⟨ck,hck⟩:∃ ck,(t.heap.update kS (cp fun _=>(#[]:Array aa))).get? kS=some (bD "list" #[] ck):=⟨_,eY pk fun _=> #[]⟩;have I1:=I'.repin k0 kC pK s1 hck (fun v z=>by cases z);have I2:=I1.unpin;have hD1:(t.heap.update kS (cp fun _=>(#[]:Array aa))).get? D=some (bD "list" #[] e1):=by rw [d6 _ _ _ _ (cn hne)];exact pd
  have s2:=ft (t.heap.update kS (cp fun _=>(#[]:Array aa))) D (cp fun _=>i9 (p.toList.map fun i=>vs.getD i aa.none));obtain ⟨cD,hcD⟩:∃ cD,(oR t.heap kS D (p.toList.map fun i=>vs.getD i aa.none)).get? D=some (bD "list" (i9 (p.toList.map fun i=>vs.getD i aa.none)) cD):=⟨_,eY hD1 fun _=>i9 (p.toList.map fun i=>vs.getD i aa.none)⟩;have I3:=(I2.repin d0 dC dP s2 hcD (fun v z=>by cases z)).unpin;refine fin _ H' p.toList S' nD (I3.take nD d0 lD dC dP ⟨?_,_,cD,?_,hcD⟩) pm ?_
  ·rw [af,pm.length_eq,ba];exact aS (by lia:n≤1000) (by decide)
  ·refine vals_at (by rw [af,af]) fun i x hx=>?_
   rw [ax] at hx;obtain ⟨j,hj,rfl⟩:=aI.mp hx;have hjn:j<n:=bT.mp (pm.mem_iff.mp (aO hj));obtain ⟨tk,ex⟩:=hv j vs[j] (gE (by lia));refine ⟨vs.getD j aa.none,by rw [ax,hj];rfl,?_⟩;rw [ah,gE (by lia)];exact ⟨tk,ex⟩
  ·refine List.pairwise_iff_getElem.mpr fun a b ha hb hab=>?_
   have sz:=Pm.size pm;rw [bW] at ha hb;have:=so a b hab (by lia);have ea:gA p a=p.toList[a]:=by rw [lE,cL ha];simp
   have eb:gA p b=p.toList[b]:=by rw [lE,cL hb];simp
   have la:p.toList[a]<n:=by rw [←ea];exact pm.lt (by lia)
   have lb:p.toList[b]<n:=by rw [←eb];exact pm.lt (by lia)
   have this:ltP (kyP ((aK n).map key) (gA p a)) (kyP ((aK n).map key) (gA p b))=true:=this;rw [ea,eb,kat _ la,kat _ lb] at this;exact this
end
end L2
namespace L2
open PySem PySem.W PySem.Spec PyProof.Rows
def BM (mg:Str→Option aa)(base:bw):Prop:=∃ bm ob,mg "__builtins__" =some (.ref bm)∧bm≠builtinsNs∧bm≠bp∧base.get? bm=some ob∧ob.cls= .type "module" ∧ob.dict=some builtinsNs∧ob.data= .plain
def CdK (q:Str)(H:Hp)(c:ai):Prop:=∃ oc vs t,H c=some (.frz oc (.own 0))∧oc.data= .fields vs∧vs[1]? =some (.str q t)
def LamT (P:ai)(pos:Pos)(q:Str)(H:Hp):Prop :=
 H P=some (.tbl #[])∨∃ c,H P=some (.tbl #[fg pos.line,fg pos.col,.ref c])∧CdK q H c
def Tb (P:ai)(H H':Hp):Prop:=∀ a o,a≠P→H a=some o→H' a=some o
theorem Tb.refl {P:ai}(H:Hp):Tb P H H:=fun _ _ _ e=>e
theorem Tb.trans {P:ai}(a:Tb P H H1)(b:Tb P H1 H2):Tb P H H2:=fun x o n e=>b x o n (a x o n e)
theorem Same.tb {P:ai}(a:Same H H'):Tb P H H':=fun x o _ e=>a x o e
theorem CdK.tb {P:ai}{c:ai}(a:Tb P H H')(hn:c≠P)(k:CdK q H c):CdK q H' c:=let ⟨oc,vs,t,e,r⟩:=k;⟨oc,vs,t,a _ _ hn e,r⟩
theorem LamT.same {P:ai}(a:Same H H')(k:LamT P pos q H):LamT P pos q H':=by
 rcases k with k | ⟨c,k,oc,vs,t,e,r⟩
 ·exact .inl (a _ _ k)
 ·exact .inr ⟨c,a _ _ k,oc,vs,t,a _ _ e,r⟩
def LamF (q:Str)(params:iP)(body:Expr)(scope:gc)(cl:List (Str×ai))(f:ai)(H:Hp):Prop :=
 ∃ pm c ct,H f=some (.frz (kla_obj "<lambda>" q params body scope cl pm c ct) (.own 0))∧CdK q H c
theorem LamF.same (a:Same H H')(k:LamF q params body scope cl f H):LamF q params body scope cl f H' :=
 let ⟨pm,c,ct,e,oc,vs,t,e2,r⟩:=k;⟨pm,c,ct,a _ _ e,oc,vs,t,a _ _ e2,r⟩
section
variable {σ:List (Option V)}
theorem Inv.grown {P:ai}{ps more:Array aa}{tk:Nat}(I:Inv X aJ σ H s)(hP:H P=some (.tbl ps))(hx:bw.ExtBut P s.heap h')(ht:h'.get? P=some (tabObj (ps++more))) :
  Inv X aJ σ (upd H P (.tbl (ps++more))) { s with heap:=h',toks:=tk }:=by
 have neP:∀ b,H b=none→b≠P:=fun b e z=>by rw [z,hP] at e;cases e
 have neO:∀ b o,H b=some o→(∀ ps,o≠ .tbl ps)→b≠P:=fun b o e hn z=>by rw [z,hP] at e;exact hn ps (bC e).symm
 refine I.step (g':=s.gens) (d':=s.drawn) (ch:=[]) (fun _ z=>nomatch z) (fun b o _ _ _ e n=>hx b o (neP b n) e) (fun b o _ _ _ e n=>⟨o.slots,hx b o (neP b n) e⟩) (fun b o _ _ n=>by rw [aZ (neP b n)];exact n)
  (fun b o _ e=>?_) (fun b xs e=>by rw [aZ (neO b _ e fun _ z=>by cases z)];exact e) (fun b o u e=>by rw [aZ (neO b _ e fun _ z=>by cases z)];exact e) (fun b qs e=>?_) (fun m hn=>hn.extBut hx (neP _ I.free)) (fun b u e=>?_) I.bare
 ·by_cases hb:b=P
  ·exact ⟨_,hb ▸ ht⟩
  ·exact ⟨o,hx b o hb e⟩
 ·by_cases hb:b=P
  ·subst hb
   rw [hP] at e;cases e;exact ⟨more,aW⟩
  ·exact ⟨#[],by rw [aZ hb,e];simp⟩
 ·by_cases hb:b=P
  ·subst hb
   rw [aW] at e;cases e;exact ht
  ·rw [aZ hb] at e
   refine (I.hok b u e).stay (fun c v hc q=>hx c v ?_ q) (fun c q=>by rw [aZ (neO c _ q fun _ z=>by cases z)];exact q) fun c xs q=>by rw [aZ (neO c _ q fun _ z=>by cases z)];exact q
   rcases hc with rfl | hc
   ·exact hb
   ·exact neO c _ hc fun _ z=>by cases z
theorem lam_make {c P:ai}(I:Inv X aJ σ H s)(hd:defaultsOf params X.env=([],[]))(nh:X.env.code= .ref c)(C:codeHdIn X.K c P=true)(B:BM X.mg X.base)
  (hfr:∀ y∈scope.names,y.2= .free→X.env.scope.names.lookup y.1=some .cell) (T:LamT P pos (X.env.qual ++ "<lambda>") H)
  (h:∀ f cl H' s',Inv X aJ σ H' s'→Tb P H H'→LamT P pos (X.env.qual ++ "<lambda>") H'→LamF (X.env.qual ++ "<lambda>") params body scope cl f H'→(∀ x c,cl.lookup x=some c→X.env.cells.lookup x=some c)→(∀ y∈scope.names,y.2= .free→cl.lookup y.1=X.env.cells.lookup y.1)→Q (.ref f) s') :
  aH (aU X.prog X.w) X.A (dg (.Lambda params body scope pos) X.env) Q X.xe s:=by
 obtain ⟨cl,hclos,c1,c2⟩:=mq (scope:=scope) (env:=X.env) fun y hy hk=>I.ok.has _ (.inl (hfr y hy hk))
 refine kla_eval hd ?_;have hgs:s.heap.Ns bp X.mg:=I.mod.glob.keeps I.bk;obtain ⟨bm,ob,b1,b2,b3,b4,b5⟩:=B;have CH:CodeHd s.heap c P:=codeHd_of_K I.kIn C;obtain ⟨ps,hP⟩:∃ ps,H P=some (.tbl ps):=by
  rcases T with T | ⟨c',T,_⟩
  ·exact ⟨_,T⟩
  ·exact ⟨_,T⟩
 have hbP:bm≠P:=fun q=>by have z:=(I.bs bm ob b4).2;rw [q,hP] at z;cases z
 have hgP:bp≠P:=fun q=>by
  obtain ⟨o,es,ep,e,_⟩:=I.mod.glob;have z:=(I.bs _ o e).2;rw [q,hP] at z;cases z
 have hBA:s.heap.BuiltinsAt X.mg P:=⟨bm,ob,b1,b2,b3,hbP,I.bk _ _ b4,b5⟩;have fin:∀ (H1:Hp) (h1:bw) (tk:Nat) (c':ai) (ctv:aa),Inv X aJ σ H1 { s with heap:=h1,toks:=tk }→Tb P H H1→LamT P pos (X.env.qual ++ "<lambda>") H1→CdK (X.env.qual ++ "<lambda>") H1 c' →
   Q (.ref h1.objs.size) { s with heap:=h1.push (kla_obj "<lambda>" (X.env.qual ++ "<lambda>") params body scope cl ((X.mg "__name__").getD .none) c' ctv),toks:=tk }:=fun H1 h1 tk c' ctv I1 t1 T1 K1=>by
  have fr:H1 h1.objs.size=none:=I1.hok.fresh (az _);have S:Same H1 (upd H1 h1.objs.size (.frz (kla_obj "<lambda>" (X.env.qual ++ "<lambda>") params body scope cl ((X.mg "__name__").getD .none) c' ctv) (.own 0))):=fun a o e=>by rw [aZ (bB e fr)];exact e
  have I2:=I1.laid (t':=tk) (a:=h1.objs.size) (o:= .frz (kla_obj "<lambda>" (X.env.qual ++ "<lambda>") params body scope cl ((X.mg "__name__").getD .none) c' ctv) (.own 0)) (h':=h1.push (kla_obj "<lambda>" (X.env.qual ++ "<lambda>") params body scope cl ((X.mg "__name__").getD .none) c' ctv)) (fun b u e=>ak _ e) (az _) ⟨aN _ rfl,_,aN _ rfl⟩;obtain ⟨oc,vs,t,e,r⟩:=K1;exact h _ cl _ _ I2 (t1.trans S.tb) (T1.same S) ⟨_,c',ctv,aW,oc,vs,t,S _ _ e,r⟩ c1 c2
 rcases T with T | ⟨c',T,K⟩
 ·rw [T] at hP;cases hP
  have hPh:s.heap.get? P=some (tabObj #[]):=I.hok P _ T;refine kla_makeFunction (mg:=X.mg) hclos I.ok.glob hgs nh CH hPh trivial rfl hgP hBA fun c' ctv h' tk hx hge hlt hrec htb=>?_
  have I1:=I.grown (tk:=tk) T hx htb;obtain ⟨c2',oc,vs,t,e2,hoc,hdd,hv⟩:=hrec;cases e2;have Plt:P<s.heap.objs.size:=aC hPh;have ncP:c'≠P:=bZ (aL Plt hge);have frc:H c'=none:=I.hok.fresh hge;have hn1:(upd H P (.tbl (#[]++ #[fg pos.line,fg pos.col,.ref c']))) c'=none:=by rw [aZ ncP];exact frc
  have old:∀ b o,s.heap.get? b=some o→b≠c':=fun b o e=>bj (aL (aC e) hge)
  have I2:=I1.take (D:=c') (o:= .frz oc (.own 0)) hn1 (aS I.sz hge) (bZ (aL I.lt hge)) (fun x d e=>by obtain ⟨v,o,ho,_⟩:=I.cell x d e;exact old d o ho) (fun p hp=>old _ _ (I.pin p hp).1) ⟨hoc,_,hoc⟩;refine fin _ h' tk c' ctv I2 (fun a o hn e=>?_) (.inr ⟨c',?_,oc,vs,t,aW,hdd,hv⟩) ⟨oc,vs,t,aW,hdd,hv⟩
  ·rw [aZ (bB e frc),aZ hn];exact e
  ·rw [aZ (cn ncP),aW];rfl
 ·rw [T] at hP;cases hP
  have hPh:s.heap.get? P=some (tabObj #[fg pos.line,fg pos.col,.ref c']):=I.hok P _ T;refine kla_makeFunctionHit (cv:= .ref c') (mg:=X.mg) hclos I.ok.glob hgs nh CH hPh trivial (codeAmong_snoc [] trivial rfl) hBA fun ctv h' tk hk hsz=>?_
  exact fin H h' tk c' ctv (I.kept hk) (Tb.refl H) (.inr ⟨c',T,K⟩) K
def cxLam (X:Cx)(q:Str)(scope:gc)(cl:List (Str×ai))(L f:ai)(cd:aa)(N:List Str)(s:ao)(H:Hp):Cx :=
 { X with A:=X.A.in1.in1.deeper (envX q scope L f cd cl),N:=N,s₀:=s,H₀:=H,env:=envX q scope L f cd cl,outer:=X.stack,stack:=envX q scope L f cd cl::X.stack,ex:=[],calm:=true,fn:=fun _=>false,pn:=[],xe:=fun _ _=>False }
theorem nQ {Q:VK}(I:Inv X aJ σ H s)(hc:X.calm=true)(hr:X.A.depth<iG)(F:LamF q params body scope cl f H)(ru:RelV v u)
  (hbind:∀ pm cdv ct,bindArgs (kla_fn "<lambda>" q params body scope cl pm cdv ct) ⟨[u],[]⟩=eQ [(x,u)])
  (hk:scope.kind= .function) (hco:scope.isCoroutine=false) (hgen:scope.isGenerator=false) (iH:∀ y∈scope.names,y.2≠ .cell) (hx:scope.names.lookup x=some .local) (hfx:x ∉ fr)
  (c1:∀ x c,cl.lookup x=some c→X.env.cells.lookup x=some c) (c2:∀ y∈scope.names,y.2= .free→cl.lookup y.1=X.env.cells.lookup y.1)
  (hfr:∀ y∈scope.names,y.2= .free→X.env.scope.names.lookup y.1=some .cell) (hjs:js.map (fun j=>X.N[j]?)=fr.map some) (hfv:∀ y∈fr,scope.names.lookup y=some .free)
  (hb:∀ L cd s' H',PE (cxLam X q scope cl L f cd (x::fr) s' H') body te) (ht:te (some v::dh σ js) H Q) :
  aH (aU X.prog X.w) X.A.in1.in1 (ir (.ref f) [u]) (EP X aJ σ Q) (fun _ _=>False) s:=by
 obtain ⟨pm,cd,ct,e,oc,vs,t,ec,hdc,hvc⟩:=F;have ho:s.heap.get? f=some (kla_obj "<lambda>" q params body scope cl pm cd ct):=(I.hok f _ e).1;have hoc:s.heap.get? cd=some oc:=(I.hok cd _ ec).1;refine iE (kla_callFunE hr ho rfl hco hgen rfl ⟨cd,oc,vs,t,rfl,hoc,hdc,hvc⟩ ?_);rw [hbind];refine aA (wpAny_newFunctionEnv iH (fun y hy=>?_) (fun h₁ hns hsb=>⟨I.nolimit.fresh _ hsb,?_⟩) hk)
 ·rw [aw.mp hy];exact hx
 show hV _ _ (.expr body (envX q scope s.heap.objs.size f (.ref cd) cl)) _ _;have old:∀ b o,s.heap.get? b=some o→h₁.get? b=some o:=fun b o e=>hsb.extBut b o (bj (aC e)) (ak _ e)
 refine kla_codeExpr ?_;have ok':(cxLam X q scope cl s.heap.objs.size f (.ref cd) (x::fr) s H).Ok:=by
  refine ⟨I.ok.mod,hk,rfl,rfl,az _,fun a b c e1 e2=>I.ok.inj a b c (c1 a c e1) (c1 b c e2),fun y hy=>?_,fun _ _ z=>pP z (by intro q;cases q),fun _=>I.ok.hd hc,bG.frames_deeper I.ok.frames,.inr ⟨rfl,rfl⟩,fun b hb=>pP (show b∈([]:List ai) from hb) (by simp),I.bs,aS I.ok.bsz I.sz,fun b o e hb=>pP (show b∈([]:List ai) from hb) (by simp),fun b hb=>pP (show b∈([]:List ai) from hb) (by simp),I.stack,I.stkFree⟩;have hy:scope.names.lookup y=some .cell∨scope.names.lookup y=some .free:=hy
  rcases hy with hy | hy
  ·exact pP rfl (iH _ (cH hy))
  ·have hm:=cH hy
   obtain ⟨c,e⟩:=I.ok.has y (.inl (hfr _ hm rfl));exact ⟨c,(c2 _ hm rfl).trans e⟩
 have lenB:(dh σ js).length=fr.length:=by
  have e:=pT List.length hjs;rw [af,af] at e;unfold dh;rw [af];exact e
 have I1:Inv (cxLam X q scope cl s.heap.objs.size f (.ref cd) (x::fr) s H) [] (some v::dh σ js) H { s with heap:=h₁,toks:=s.toks+1 }:=by
  refine ⟨ok',rfl,I.bare,Un.kept old,⟨_,hns,fun i y v' e1 e2 e3=>?_⟩,fun y c e=>?_,I.hok.fresh (az _),fun y c e=>I.freeC y c (c1 y c e),fun p hp=>pP (show p∈([]:List (ai×Obj)) from hp) (by simp),I.hok.kept old,?_⟩
  ·cases i with
   | zero =>
    have e1:some x=some y:=e1;have e2:some (some v)=some (some v'):=e2;cases e1;cases e2;exact ⟨u,ru,.inl ⟨hx,by show cZ x [(x,u)]=_;rw [dm,beq_self_eq_true]⟩⟩
   | succ i =>
    have e1:fr[i]? =some y:=e1;have e2:(dh σ js)[i]? =some (some v'):=e2;unfold dh at e2;rw [ax] at e2;obtain ⟨j,ej,e2⟩:=aI.mp e2;have hN:X.N[j]? =some y:=by
     have q:=pT (fun l=>l[i]?) hjs;simp only [ax,ej,e1,gn] at q;exact bC q
    have hσ:σ[j]? =some (some v'):=by
     cases z:σ[j]? with
     | none=>rw [z] at e2;cases e2
     | some w=>rw [z] at e2;exact pT some e2
    have hfree:=hfv y (aO e1);have hm:=cH hfree;have hce:X.env.scope.names.lookup y=some .cell:=hfr _ hm rfl;obtain ⟨m,_,hl⟩:=I.loc;obtain ⟨u',ru',look⟩:=hl j y v' hN hσ (.inr (.inl hce));refine ⟨u',ru',.inr ⟨.inr hfree,?_⟩⟩
    rcases look with ⟨k,_⟩ | ⟨_,c,ec,ho⟩
    ·have k:X.env.scope.names.lookup y=some .local:=k
     rw [hce] at k;cases k
    ·obtain ⟨o,ho,hd⟩:=ho
     exact ⟨c,(c2 _ hm rfl).trans ec,o,old c o ho,hd⟩
  ·obtain ⟨v',o,ho,hd⟩:=I.cell y c (c1 y c e)
   exact ⟨v',o,old c o ho,hd⟩
  ·show (some v::dh σ js).length=(x::fr).length
   rw [aY,aY,lenB]
 refine bH (hb _ _ s H [] _ _ H Q I1 ht) (fun w s' hs=>?_) fun _ _ z=>z.elim
 obtain ⟨v',H',J,rv,qv⟩:=hs;exact I.after ⟨v',H',J.os,J.bare,J.base,J.hok,rv,qv⟩
end
def SortQ (P:ai)(lp:Pos)(lq:Str)(js:List Nat)(te:TE)(σ:St)(Q:VK)(v:V)(H1:Hp):Prop:=∃ (r:ai) (n:Nat) (key:Nat→Int×Int),v= .ref r∧H1 r=some (.rng 0 n)∧n<64∧LamT P lp lq H1∧((aK n).map key).Nodup ∧
 (∀ i:Nat,i<n→∀ H2,Tb P H1 H2→te (some (.int i)::dh σ js) H2 fun u H3=>Same H2 H3∧∃ a,u= .ref a∧H3 a=some (.tup [.int (key i).1,.int (key i).2])) ∧
 ∀ (D:ai) (H4:Hp) (π:List Nat),Tb P H1 H4→LamT P lp lq H4→H4 D=none→π.Perm (aK n)→π.Pairwise (fun i j=>ltP (key i) (key j)=true)→Q (.ref D) (upd H4 D (.lst (π.map fun (i:Nat)=>V.int i)))
def tSortL (P:ai)(lp:Pos)(lq:Str)(tr:TE)(js:List Nat)(te:TE):TE:=fun σ H Q=>tr σ H fun v H1=>SortQ P lp lq js te σ Q v H1
def SortQ1 (P:ai)(lp:Pos)(lq:Str)(js:List Nat)(te:TE)(σ:St)(Q:VK):List V→Hp→Prop
 | [v],H1=>SortQ P lp lq js te σ Q v H1
 | _,_=>False
theorem rng_size0:dB 0 (n:Int) 1=n:=by
 unfold dB;rw [pO (by decide)]
 by_cases h0:(0:Int)<n
 ·rw [pO h0,Int.ediv_one];lia
 ·rw [pN h0];lia
theorem rng_small0 (h:n<64):gB 0 (n:Int) 1=true:=by unfold gB;rw [rng_size0];unfold cV.Range.rangeFitsLong;simp;lia
theorem pe_sortL {p kp:Pos}{c P:ai}(hc:X.calm=true)(hrm:X.A.depth<iG)(hg:Gl X "sorted")(hm:X.mg "sorted" =none)(hi:PE X re tr)
  (hd:defaultsOf params X.env=([],[])) (nh:X.env.code= .ref c) (C:codeHdIn X.K c P=true) (B:BM X.mg X.base)
  (hbind:∀ q cl pm cdv ct (u:aa),bindArgs (kla_fn "<lambda>" q params body scope cl pm cdv ct) ⟨[u],[]⟩=eQ [(x,u)])
  (hk:scope.kind= .function) (hco:scope.isCoroutine=false) (hgen:scope.isGenerator=false) (iH:∀ y∈scope.names,y.2≠ .cell) (hx:scope.names.lookup x=some .local) (hfx:x ∉ fr)
  (hfr:∀ y∈scope.names,y.2= .free→X.env.scope.names.lookup y.1=some .cell) (hjs:js.map (fun j=>X.N[j]?)=fr.map some) (hfv:∀ y∈fr,scope.names.lookup y=some .free)
  (hb:∀ cl L f cd s' H',PE (cxLam X (X.env.qual ++ "<lambda>") scope cl L f cd (x::fr) s' H') body te)
  (he:dM pos (bb [re] X.env)=(false,dg re X.env)::dM pos (bb [] X.env):=by rfl)
  (hs:bb [re] X.env=(false,dg re X.env)::bb [] X.env:=by rfl) (hpl:(dM pos (bb [re] X.env)).any (·.1)=false:=by rfl) :
  PE X (.Call (.Name "sorted" p) [re] [⟨some "key",.Lambda params body scope lp,kp⟩] pos) (tSortL P lp (X.env.qual ++ "<lambda>") tr js te):=by
 intro aJ s σ H Q I h;refine dv (lV I hg hm (u:= .builtin "sorted") (by trivial) ?_);refine callWith_kw (kws:=[⟨some "key",.Lambda params body scope lp,kp⟩]) (thn ((aq hi aP hs) pos aJ s σ H (SortQ1 P lp (X.env.qual ++ "<lambda>") js te σ Q) I h) fun us s1 ⟨vs,H1,I1,r1,q0⟩=>?_) he hpl;refine kws_cons ?_;obtain ⟨v,rfl⟩:∃ v,vs=[v]:=by
  cases vs with
  | nil=>exact q0.elim
  | cons v r=>cases r with
   | nil=>exact ⟨v,rfl⟩
   | cons _ _=>exact q0.elim
 have q1:SortQ P lp (X.env.qual ++ "<lambda>") js te σ Q v H1:=q0;obtain ⟨r,n,key,rfl,hr,h64,T,hnd,hkey,hQ⟩:=q1;obtain rfl:us=[.ref r]:=by
  cases r1 with
  | cons ru rs =>
   cases rs;exact pT (fun z=>[z]) ru
 refine lam_make (body:=body) I1 hd nh C B hfr T fun f cl H2 s2 I2 tb T2 F2 c1 c2=>?_
 refine kws_nil ?_;show aH _ _ (ir (.builtin "sorted") [.ref r] [(bY "key",.ref f)]) _ _ _;have rP:r≠P:=fun z=>by
  rcases T with T | ⟨_,T,_⟩ <;> rw [←z,hr] at T <;> cases T
 obtain ⟨t1,t2,t3,e3⟩:=I2.hok r _ (tb r _ rP hr);have hr3:IsRange s2.heap r 0 n 1 t1 t2 t3:=by first | exact e3 | exact ⟨_,e3,rfl,rfl⟩
 refine sorted_keyR (I2.ok.hd hc) hr3 (rng_small0 h64) rng_size0 h64 fun ws h1 tk D kS e1 hl hw hkeep hD hDk gD gK=>?_
 have I3:Inv X aJ σ H2 { s2 with heap:=h1,toks:=tk }:=I2.kept hkeep;have old:∀ b o,s2.heap.get? b=some o→b≠D∧b≠kS:=fun b o e=>⟨bj (aL (aC e) hD),bj (Nat.lt_trans (aL (aC e) hD) hDk)⟩
 have hDs:=aC gD;have hKs:=aC gK;have frD:H2 D=none:=I2.hok.fresh hD;have frK:H2 kS=none:=I2.hok.fresh (iu (bU hD hDk));have cc:∀ y d,X.env.cells.lookup y=some d→d≠D∧d≠kS:=fun y d e=>by obtain ⟨v,o,ho,_⟩:=I2.cell y d e;exact old d o ho
 have pp:∀ z∈X.pn++aJ,z.1≠D∧z.1≠kS:=fun z hz=>old _ _ (I2.pin z hz).1
 have nl:s2.heap.objs.size≤kS:=iu (bU hD hDk);have I4:Inv X ((kS,bD "list" #[] 0)::(D,bD "list" #[] e1)::aJ) σ H2 { s2 with heap:=h1,toks:=tk }:=I3.pins_of fun z hz=>by
  rcases aF.mp hz with rfl | hz
  ·exact ⟨gK,frK,bZ (aL I2.lt nl),I2.nofs nl,fun v z=>by cases z⟩
  ·rcases aF.mp hz with rfl | hz
   ·exact ⟨gD,frD,bZ (aL I2.lt hD),I2.nofs hD,fun v z=>by cases z⟩
   ·exact I3.pin z (ay _ hz)
 refine keyDo_of (num:=fun i=>(i:Int)) (key:=key) I4 hl h64 (fun i x e=>by obtain ⟨t,q⟩:=hw i x e;exact ⟨t,by rw [q];congr 1;lia⟩) (aS I2.sz nl) (aS I2.sz hD) (fun y d e=>(cc y d e).2) (fun y d e=>(cc y d e).1) (fun z hz=>(pp z hz).2) (fun z hz=>(pp z hz).1) (bZ hDk) hnd ?_ ?_
 ·intro t H' pins' i tk hi' I' S'
  refine bH (nQ (v:= .int i) I' hc hrm (F2.same S') ⟨_,rfl⟩ (fun pm cdv ct=>hbind _ _ _ _ _ _) hk hco hgen iH hx hfx c1 c2 hfr hjs hfv (fun L cd s' H'=>hb cl L f cd s' H') (hkey i hi' H' (tb.trans S'.tb))) (fun k t' ⟨v,H'',I'',rv,S'',a,ev,ea⟩=>?_) fun _ _ z=>z
  subst ev;obtain rfl:k= .ref a:=rv;exact ⟨a,H'',I'',S'',rfl,ea⟩
 ·intro t H' π S' hD' I' pm pw
  exact ⟨.ref D,_,I',rfl,hQ D H' π (tb.trans S'.tb) (T2.same S') hD' pm pw⟩
end L2
namespace HN
open PySem L2 PyProof.Rows
def z0:Sn:=⟨0,0,0,0,0⟩
def sAt (sp:List Sn)(i:Nat):Sn:=sp.getD i z0
theorem ju (h:i<sp.length):sp[i]? =some (sAt sp i):=by
 unfold sAt;rw [ah,gE h];rfl
theorem eM (h:i<sp.length):sAt sp i∈sp:=aO (ju h)
def wkey (sp:List Sn)(i:Nat):Int×Int:=((sAt sp i).o - (sAt sp i).l,(i:Int))
def Ordd (sp:List Sn)(π:List Nat):Prop:=π.Perm (aK sp.length)∧π.Pairwise fun i j=>ltP (wkey sp i) (wkey sp j)=true
theorem wkey_nodup (sp:List Sn)(n:Nat):((aK n).map (wkey sp)).Nodup:=by
 rw [cJ,ja];refine List.Pairwise.imp (fun {a b} h e=>h ?_) hW;have:=pT Prod.snd e;exact Int.ofNat.inj this
theorem ltP_asym {x y:Int×Int}(h:ltP x y=true)(k:ltP y x=true):False:=by
 rw [ltP_iff] at h k;lia
theorem perm_eq {α:Type}{R:α→α→Prop}(as:∀ a b,R a b→R b a→a=b):∀ {l k:List α},l.Perm k→l.Pairwise R→k.Pairwise R→l=k
 | [],k,p,_,_=>(List.nil_perm.mp p).symm
 | a::l,k,p,hl,hk=>by
  cases k with
  | nil=>exact pP p.symm (by intro z;have:=List.nil_perm.mp z;cases this)
  | cons b k =>
   have ab:a=b:=by
    have ha:a∈b::k:=p.mem_iff.mp aX;have hb:b∈a::l:=p.mem_iff.mpr aX
    rcases aF.mp ha with e | ha
    ·exact e
    ·rcases aF.mp hb with e | hb
     ·exact e.symm
     ·exact as a b (List.rel_of_pairwise_cons hl hb) (List.rel_of_pairwise_cons hk ha)
   subst ab;rw [perm_eq as p.cons_inv (List.pairwise_cons.mp hl).2 (List.pairwise_cons.mp hk).2]
theorem Ordd.one {ρ:List Nat}(a:Ordd sp π)(b:Ordd sp ρ):π=ρ :=
 perm_eq (fun _ _ h k=>(ltP_asym h k).elim) (a.1.trans b.1.symm) a.2 b.2
theorem Ordd.lt (a:Ordd sp π)(h:i∈π):i<sp.length:=bT.mp (a.1.mem_iff.mp h)
theorem Ordd.len (a:Ordd sp π):π.length=sp.length:=by rw [a.1.length_eq,ba]
def ik (gs:List Int)(x y:Int):List Int:=gs.map fun g=>if g=y then x else g
def d8 (sp:List Sn)(c:List Int×List Nat)(i:Nat):List Int×List Nat :=
 if tm c.1 (sAt sp i).s=tm c.1 (sAt sp i).g then c else (ik c.1 (tm c.1 (sAt sp i).s) (tm c.1 (sAt sp i).g),c.2++[i])
def iI (m:Nat):List Int:=(aK m).map fun (k:Nat)=>(k:Int)
def kd (sp:List Sn)(m:Nat)(π:List Nat):List Int×List Nat:=π.foldl (d8 sp) (iI m,[])
def dI (ps:List (List Int))(x:Int):List Int:=(ps.filter fun p=>decide (x∈p)).headD []
def stepQ (sp:List Sn)(c:List (List Int)×List Nat)(i:Nat):List (List Int)×List Nat :=
 if dI c.1 (sAt sp i).s=dI c.1 (sAt sp i).g then c
 else (c.1.filter (fun p=> !(decide (p=dI c.1 (sAt sp i).s)) && !(decide (p=dI c.1 (sAt sp i).g)))++[dI c.1 (sAt sp i).s++dI c.1 (sAt sp i).g],c.2++[i])
def prt0 (m:Nat):List (List Int):=(aK m).map fun (k:Nat)=>[(k:Int)]
structure Rl (m:Nat)(gs:List Int)(ps:List (List Int)):Prop where
 len:gs.length=m
 cov:∀ x:Int,0≤x→x<m→∃ p∈ps,x∈p
 one:∀ p∈ps,∀ q∈ps,∀ x,x∈p→x∈q→p=q
 eqv:∀ x y:Int,0≤x→x<m→0≤y→y<m→(tm gs x=tm gs y↔∃ p∈ps,x∈p∧y∈p)
theorem Rl.part {ps:List (List Int)}(R:Rl m gs ps){x:Int}(h0:0≤x)(h1:x<m):dI ps x∈ps∧x∈dI ps x:=by
 obtain ⟨p,hp,hx⟩:=R.cov x h0 h1;unfold dI;have hm:p∈ps.filter fun p=>decide (x∈p):=b9.mpr ⟨hp,pQ hx⟩
 cases e:ps.filter fun p=>decide (x∈p) with
 | nil=>rw [e] at hm;cases hm
 | cons q r =>
  have hq:q∈ps.filter fun p=>decide (x∈p):=by rw [e];exact aX
  obtain ⟨a,b⟩:=b9.mp hq;exact ⟨a,pS b⟩
theorem Rl.is {ps:List (List Int)}(R:Rl m gs ps){x y:Int}(h0:0≤x)(h1:x<m)(k0:0≤y)(k1:y<m):tm gs x=tm gs y↔x∈dI ps y:=by
 obtain ⟨p1,p2⟩:=R.part k0 k1;refine (R.eqv x y h0 h1 k0 k1).trans ⟨fun ⟨p,hp,hx,hy⟩=>?_,fun h=>⟨_,p1,h,p2⟩⟩;rw [←R.one p hp _ p1 y hy p2];exact hx
theorem Rl.same {ps:List (List Int)}(R:Rl m gs ps){x y:Int}(h0:0≤x)(h1:x<m)(k0:0≤y)(k1:y<m):tm gs x=tm gs y↔dI ps x=dI ps y:=by
 refine (R.is h0 h1 k0 k1).trans ⟨fun h=>?_,fun h=>?_⟩
 ·exact R.one _ (R.part h0 h1).1 _ (R.part k0 k1).1 x (R.part h0 h1).2 h
 ·rw [←h];exact (R.part h0 h1).2
theorem kz {u v x:Int}(h0:0≤x)(h1:x<gs.length):tm (ik gs u v) x=if tm gs x=v then u else tm gs x:=by
 obtain ⟨j,rfl⟩:=dQ h0;have hj:j<gs.length:=by lia
 unfold tm ik;simp only [bV,ah,ax,gE hj,gn,Option.getD_some]
theorem Rl.join {ps:List (List Int)}(R:Rl m gs ps){a:Int}(a0:0≤a)(a1:a<m)(b0:0≤b)(b1:b<m) :
  Rl m (ik gs (tm gs a) (tm gs b)) (ps.filter (fun p=> !(decide (p=dI ps a)) && !(decide (p=dI ps b)))++[dI ps a++dI ps b]):=by
 obtain ⟨pa,ha⟩:=R.part a0 a1;obtain ⟨pb,hb⟩:=R.part b0 b1;have mem:∀ p,p∈ps.filter (fun p=> !(decide (p=dI ps a)) && !(decide (p=dI ps b)))++[dI ps a++dI ps b]↔(p∈ps∧p≠dI ps a∧p≠dI ps b)∨p=dI ps a++dI ps b:=fun p=>by
  rw [aG,b9,aw];simp only [cS,fE,decide_eq_false_iff_not,ne_eq]
 have uni:∀ p∈ps,p≠dI ps a→p≠dI ps b→∀ x,x∈p→x ∉ dI ps a++dI ps b:=fun p hp n1 n2 x hx hz=>by
  rcases aG.mp hz with hz | hz
  ·exact n1 (R.one p hp _ pa x hx hz)
  ·exact n2 (R.one p hp _ pb x hx hz)
 refine ⟨by unfold ik;rw [af];exact R.len,fun x h0 h1=>?_,fun p hp q hq x hx hy=>?_,fun x y h0 h1 k0 k1=>?_⟩
 ·obtain ⟨p,hp,hx⟩:=R.cov x h0 h1
  by_cases e1:p=dI ps a
  ·exact ⟨_,(mem _).mpr (.inr rfl),aE _ (e1 ▸ hx)⟩
  ·by_cases e2:p=dI ps b
   ·exact ⟨_,(mem _).mpr (.inr rfl),ay _ (e2 ▸ hx)⟩
   ·exact ⟨p,(mem p).mpr (.inl ⟨hp,e1,e2⟩),hx⟩
 ·rcases (mem p).mp hp with ⟨p1,p2,p3⟩ | rfl
  ·rcases (mem q).mp hq with ⟨q1,q2,q3⟩ | rfl
   ·exact R.one p p1 q q1 x hx hy
   ·exact pP hy (uni p p1 p2 p3 x hx)
  ·rcases (mem q).mp hq with ⟨q1,q2,q3⟩ | rfl
   ·exact pP hx (uni q q1 q2 q3 x hy)
   ·rfl
 ·rw [kz h0 (by rw [R.len];exact h1),kz k0 (by rw [R.len];exact k1)]
  have xa:=R.is h0 h1 a0 a1;have xb:=R.is h0 h1 b0 b1;have ya:=R.is k0 k1 a0 a1;have yb:=R.is k0 k1 b0 b1;have xy:=R.eqv x y h0 h1 k0 k1
  constructor
  ·intro h
   by_cases e:tm gs x=tm gs y
   ·obtain ⟨p,hp,hx,hy⟩:=xy.mp e
    by_cases e1:p=dI ps a
    ·exact ⟨_,(mem _).mpr (.inr rfl),aE _ (e1 ▸ hx),aE _ (e1 ▸ hy)⟩
    ·by_cases e2:p=dI ps b
     ·exact ⟨_,(mem _).mpr (.inr rfl),ay _ (e2 ▸ hx),ay _ (e2 ▸ hy)⟩
     ·exact ⟨p,(mem p).mpr (.inl ⟨hp,e1,e2⟩),hx,hy⟩
   ·refine ⟨_,(mem _).mpr (.inr rfl),?_,?_⟩
    ·by_cases e1:tm gs x=tm gs b
     ·exact ay _ (xb.mp e1)
     ·rw [pN e1] at h
      by_cases e2:tm gs y=tm gs b
      ·rw [pO e2] at h;exact aE _ (xa.mp h)
      ·rw [pN e2] at h;exact pP h e
    ·by_cases e1:tm gs y=tm gs b
     ·exact ay _ (yb.mp e1)
     ·rw [pN e1] at h
      by_cases e2:tm gs x=tm gs b
      ·rw [pO e2] at h;exact aE _ (ya.mp h.symm)
      ·rw [pN e2] at h;exact pP h e
  ·rintro ⟨p,hp,hx,hy⟩
   rcases (mem p).mp hp with ⟨p1,p2,p3⟩ | rfl
   ·rw [xy.mpr ⟨p,p1,hx,hy⟩]
   ·have fx:∀ z:Int,(z∈dI ps a→tm gs z=tm gs a)→(z∈dI ps b→tm gs z=tm gs b)→z∈dI ps a++dI ps b→(if tm gs z=tm gs b then tm gs a else tm gs z)=tm gs a:=fun z f1 f2 hz=>by
     by_cases e:tm gs z=tm gs b
     ·rw [pO e]
     ·rw [pN e]
      rcases aG.mp hz with hz | hz
      ·exact f1 hz
      ·exact pP (f2 hz) e
    rw [fx x xa.mpr xb.mpr hx,fx y ya.mpr yb.mpr hy]
theorem lZ {x:Int}(h0:0≤x)(h1:x<m):tm (iI m) x=x:=by
 obtain ⟨j,rfl⟩:=dQ h0;unfold tm iI;rw [bV,ah,ax,iC (by lia)];rfl
theorem Rl.start (m:Nat):Rl m (iI m) (prt0 m):=by
 have mem:∀ p,p∈prt0 m↔∃ k:Nat,k<m∧p=[(k:Int)]:=fun p=>by
  unfold prt0;rw [bt];exact ⟨fun ⟨k,a,b⟩=>⟨k,bT.mp a,b.symm⟩,fun ⟨k,a,b⟩=>⟨k,bT.mpr a,b.symm⟩⟩
 refine ⟨by unfold iI;rw [af,ba],fun x h0 h1=>⟨[x],(mem _).mpr ⟨x.toNat,by lia,by rw [d7 h0]⟩,aw.mpr rfl⟩,fun p hp q hq x hx hy=>?_,fun x y h0 h1 k0 k1=>?_⟩
 ·obtain ⟨k,_,rfl⟩:=(mem p).mp hp
  obtain ⟨j,_,rfl⟩:=(mem q).mp hq;rw [←aw.mp hx,←aw.mp hy]
 ·rw [lZ h0 h1,lZ k0 k1]
  refine ⟨fun e=>⟨[x],(mem _).mpr ⟨x.toNat,by lia,by rw [d7 h0]⟩,aw.mpr rfl,by rw [e];exact aw.mpr rfl⟩,fun ⟨p,hp,hx,hy⟩=>?_⟩;obtain ⟨k,_,rfl⟩:=(mem p).mp hp;rw [aw.mp hx,aw.mp hy]
def j8 (m:Nat)(sp:List Sn):Prop:=∀ x∈sp,0≤x.s∧x.s<m∧0≤x.g∧x.g<m
theorem oO {m:Nat}{sp:List Sn}(E:j8 m sp):∀ (π:List Nat) (gs:List Int) (ps:List (List Int)) (tk:List Nat),(∀ i∈π,i<sp.length)→Rl m gs ps→Rl m (π.foldl (d8 sp) (gs,tk)).1 (π.foldl (stepQ sp) (ps,tk)).1∧(π.foldl (d8 sp) (gs,tk)).2=(π.foldl (stepQ sp) (ps,tk)).2
 | [],gs,ps,tk,_,R=>⟨R,rfl⟩
 | i::π,gs,ps,tk,h,R=>by
  obtain ⟨a0,a1,b0,b1⟩:=E _ (eM (h i aX));have hs:=R.same a0 a1 b0 b1;rw [bP,bP];unfold d8 stepQ
  by_cases e:tm gs (sAt sp i).s=tm gs (sAt sp i).g
  ·rw [pO (show tm (gs,tk).1 _=tm (gs,tk).1 _ from e),pO (show dI (ps,tk).1 _=dI (ps,tk).1 _ from hs.mp e)]
   exact oO E π gs ps tk (fun j hj=>h j (aD _ hj)) R
  ·rw [pN (show ¬ tm (gs,tk).1 _=tm (gs,tk).1 _ from e),pN (show ¬ dI (ps,tk).1 _=dI (ps,tk).1 _ from fun z=>e (hs.mpr z))]
   exact oO E π _ _ _ (fun j hj=>h j (aD _ hj)) (R.join a0 a1 b0 b1)
theorem jQ (sp:List Sn):∀ (π:List Nat) (c:List Int×List Nat),(∀ i∈(π.foldl (d8 sp) c).2,i∈c.2∨i∈π)∧(π.foldl (d8 sp) c).2.length≤c.2.length+π.length
 | [],c=>⟨fun i h=> .inl h,az _⟩
 | j::π,c=>by
  obtain ⟨a,b⟩:=jQ sp π (d8 sp c j);rw [bP];have key:(∀ i∈(d8 sp c j).2,i∈c.2∨i=j)∧(d8 sp c j).2.length≤c.2.length+1:=by
   unfold d8;split
   ·exact ⟨fun i h=> .inl h,by lia⟩
   ·refine ⟨fun i h=>?_,by rw [av];exact az _⟩
    rcases aG.mp h with h | h
    ·exact .inl h
    ·exact .inr (aw.mp h)
  refine ⟨fun i hi=>?_,by rw [aY];lia⟩
  rcases a i hi with h | h
  ·rcases key.1 i h with h | h
   ·exact .inl h
   ·exact .inr (h ▸ aX)
  ·exact .inr (aD _ h)
def IsFor (m:Nat)(sp:List Sn)(ns:List Int):Prop:=∃ π,Ordd sp π∧ns.Perm ((kd sp m π).2.map fun (i:Nat)=>(i:Int))∧ns.Pairwise (· ≤ ·)
theorem IsFor.one {ms:List Int}(a:IsFor m sp ns)(b:IsFor m sp ms):ns=ms:=by
 obtain ⟨π,o1,p1,w1⟩:=a;obtain ⟨ρ,o2,p2,w2⟩:=b;rw [o1.one o2] at p1;exact perm_eq (fun a b h k=>by lia) (p1.trans p2.symm) w1 w2
theorem IsFor.len (a:IsFor m sp ns):ns.length≤sp.length:=by
 obtain ⟨π,o,p,_⟩:=a;rw [p.length_eq,af];have:=(jQ sp π (iI m,[])).2;have h2:=o.len;have h3:((iI m,([]:List Nat)).2).length=0:=rfl;unfold kd;lia
theorem NetT.ends {m:Int}(N:NetT b m sp):j8 m.toNat sp:=fun x hx=>by
 obtain ⟨s0,s1,g0,g1,_⟩:=N.all x hx;lia
theorem Tb.tupK {T:ai}(hT:∃ ps,H T=some (.tbl ps))(e:L2.Tb T H H'):TupK H H':=fun q xs h=>e q _ (by obtain ⟨ps,hT⟩:=hT;exact eV h hT nofun) h
theorem LamT.tbl {T:ai}(h:L2.LamT T lp lq H):∃ ps,H T=some (.tbl ps):=by
 rcases h with h | ⟨c,h,_⟩
 ·exact ⟨_,h⟩
 ·exact ⟨_,h⟩
theorem LamT.upd {T:ai}(h:L2.LamT T lp lq H)(ha:∀ p u,H a=some (.frz p u)→False)(hb:∀ ps,H a=some (.tbl ps)→False):L2.LamT T lp lq (upd H a o):=by
 rcases h with h | ⟨c,h,oc,vs,t,e,r⟩
 ·exact .inl (by rw [aZ (fun z=>hb _ (z ▸ h))];exact h)
 ·exact .inr ⟨c,by rw [aZ (fun z=>hb _ (z ▸ h))];exact h,oc,vs,t,by rw [aZ (fun z=>ha _ _ (z ▸ e))];exact e,r⟩
inductive spSpW (T:ai)(lp:Pos)(lq:Str)(vs:List V)(H:Hp)(Q:VK)(_:XK):Prop
 | mk (v b m sp:_)(_:vs=[v])(_:IsD H v (kN b m sp))(_:sp.length≤40)(_:L2.LamT T lp lq H)(_:∀ D H' π,L2.Tb T H H'→L2.LamT T lp lq H'→H' D=none→Ordd sp π→Q (.ref D) (L2.upd H' D (.lst (π.map fun (i:Nat)=>V.int i))))
inductive kB (T:ai)(lp:Pos)(lq:Str)(vs:List V)(H:Hp)(Q:VK)(_:XK):Prop
 | mk (v b m sp:_)(_:vs=[v])(_:IsD H v (kN b m sp))(_:NetT b m sp)(_:L2.LamT T lp lq H)(_:∀ u H' ns,L2.Tb T H H'→L2.LamT T lp lq H'→H' u=some (.tup (ns.map V.int))→IsFor m.toNat sp ns→Q (.ref u) H')
def Finer (m:Nat)(gs hs:List Int):Prop:=∀ x y:Int,0≤x→x<m→0≤y→y<m→tm gs x=tm gs y→tm hs x=tm hs y
theorem Finer.refl (m:Nat)(gs:List Int):Finer m gs gs:=fun _ _ _ _ _ _ h=>h
theorem ki (gs:List Int)(u v:Int):(ik gs u v).length=gs.length:=by unfold ik;rw [af]
theorem Finer.wide {u v:Int}(F:Finer m gs hs)(l2:hs.length=m):Finer m gs (ik hs u v):=by
 intro x y x0 x1 y0 y1 h;rw [kz x0 (by lia),kz y0 (by lia),F x y x0 x1 y0 y1 h]
theorem join_meets {a:Int}(l1:gs.length=m)(a0:0≤a)(a1:a<m)(b0:0≤b)(b1:b<m):tm (ik gs (tm gs a) (tm gs b)) a=tm (ik gs (tm gs a) (tm gs b)) b:=by
 rw [kz a0 (by lia),kz b0 (by lia),pO rfl]
 by_cases e:tm gs a=tm gs b
 ·rw [pO e]
 ·rw [pN e]
theorem stepG_len {sp:List Sn}:∀ (π:List Nat) (c:List Int×List Nat),(π.foldl (d8 sp) c).1.length=c.1.length
 | [],_=>rfl
 | i::π,c=>by
  rw [bP,stepG_len π];unfold d8;split
  ·rfl
  ·exact ki _ _ _
theorem ie (sp:List Sn)(gs:List Int)(tk:List Nat)(i:Nat):(tm gs (sAt sp i).s=tm gs (sAt sp i).g∧d8 sp (gs,tk) i=(gs,tk))∨(tm gs (sAt sp i).s≠tm gs (sAt sp i).g∧d8 sp (gs,tk) i=(ik gs (tm gs (sAt sp i).s) (tm gs (sAt sp i).g),tk++[i])):=by
 unfold d8
 by_cases e:tm gs (sAt sp i).s=tm gs (sAt sp i).g
 ·exact .inl ⟨e,pO e⟩
 ·exact .inr ⟨e,pN e⟩
theorem mP {m:Nat}{sp:List Sn}:∀ (π:List Nat) (gs hs:List Int) (tk:List Nat),hs.length=m→Finer m gs hs→Finer m gs (π.foldl (d8 sp) (hs,tk)).1
 | [],_,_,_,_,F=>F
 | i::π,gs,hs,tk,l,F=>by
  rw [bP]
  rcases ie sp hs tk i with ⟨_,e⟩ | ⟨_,e⟩ <;> rw [e]
  ·exact mP π gs hs tk l F
  ·exact mP π gs _ _ (by rw [ki];exact l) (F.wide l)
theorem jL {m:Nat}{sp:List Sn}(E:j8 m sp):∀ (π:List Nat) (gs:List Int) (tk:List Nat),gs.length=m→(∀ i∈π,i<sp.length)→∀ i∈π,tm (π.foldl (d8 sp) (gs,tk)).1 (sAt sp i).s=tm (π.foldl (d8 sp) (gs,tk)).1 (sAt sp i).g
 | [],_,_,_,_,i,h=>by cases h
 | j::π,gs,tk,l,hp,i,h=>by
  rw [bP];obtain ⟨a0,a1,b0,b1⟩:=E _ (eM (hp j aX));have hp':∀ i∈π,i<sp.length:=fun k hk=>hp k (aD _ hk)
  rcases ie sp gs tk j with ⟨q,e⟩ | ⟨_,e⟩ <;> rw [e]
  ·rcases aF.mp h with rfl | h
   ·exact mP π gs gs tk l (Finer.refl m gs) _ _ a0 a1 b0 b1 q
   ·exact jL E π gs tk l hp' i h
  ·have l':(ik gs (tm gs (sAt sp j).s) (tm gs (sAt sp j).g)).length=m:=by rw [ki];exact l
   rcases aF.mp h with rfl | h
   ·exact mP π _ _ _ l' (Finer.refl m _) _ _ a0 a1 b0 b1 (join_meets l a0 a1 b0 b1)
   ·exact jL E π _ _ l' hp' i h
theorem nu {x:Int}(h0:0≤x)(h1:x<gs.length):tm gs x∈gs:=by
 obtain ⟨j,rfl⟩:=dQ h0;unfold tm;rw [bV,ah,gE (by lia)];exact bu _
theorem mem_tm {v:Int}(h:v∈gs):∃ x:Int,0≤x∧x<gs.length∧tm gs x=v:=by
 obtain ⟨j,hj,e⟩:=bM h;refine ⟨j,by lia,by lia,?_⟩;unfold tm;rw [bV,ah,gE hj];exact e
def Cnt (m:Nat)(gs:List Int)(k:Nat):Prop:=∃ D:List Int,D.Nodup∧(∀ v,v∈D↔v∈gs)∧D.length+k=m
theorem Cnt.join {k:Nat}(C:Cnt m gs k){u v:Int}(hu:u∈gs)(hv:v∈gs)(n:u≠v):Cnt m (ik gs u v) (k+1):=by
 obtain ⟨D,nd,mem,l⟩:=C;have hvD:=(mem v).mpr hv;refine ⟨D.erase v,nd.erase v,fun z=>?_,by rw [kO hvD];have:=List.length_pos_of_mem hvD;lia⟩;rw [nd.mem_erase_iff,mem];unfold ik;rw [bt]
 constructor
 ·rintro ⟨h1,h2⟩
  exact ⟨z,h2,pN h1⟩
 ·rintro ⟨w,hw,rfl⟩
  by_cases e:w=v
  ·rw [pO e];exact ⟨n,hu⟩
  ·rw [pN e];exact ⟨e,hw⟩
theorem nR {m:Nat}{sp:List Sn}(E:j8 m sp):∀ (π:List Nat) (gs:List Int) (tk:List Nat),gs.length=m→(∀ i∈π,i<sp.length)→Cnt m gs tk.length→Cnt m (π.foldl (d8 sp) (gs,tk)).1 (π.foldl (d8 sp) (gs,tk)).2.length
 | [],_,_,_,_,C=>C
 | j::π,gs,tk,l,hp,C=>by
  rw [bP];obtain ⟨a0,a1,b0,b1⟩:=E _ (eM (hp j aX));have hp':∀ i∈π,i<sp.length:=fun k hk=>hp k (aD _ hk)
  rcases ie sp gs tk j with ⟨_,e⟩ | ⟨n,e⟩ <;> rw [e]
  ·exact nR E π gs tk l hp' C
  ·refine nR E π _ _ (by rw [ki];exact l) hp' ?_
   rw [av];exact C.join (nu a0 (by lia)) (nu b0 (by lia)) n
theorem Cnt.start (m:Nat):Cnt m (iI m) 0:=by
 refine ⟨iI m,?_,fun _=>Iff.rfl,by unfold iI;rw [af,ba];lia⟩;unfold iI;rw [cJ,ja];exact List.Pairwise.imp (fun {a b} h e=>h (Int.ofNat.inj e)) hW
theorem kA:∀ {l k:List Int},l.Nodup→(∀ x∈l,x∈k)→l.length≤k.length
 | [],_,_,_=>bE _
 | a::l,k,nd,h=>by
  have ha:=h a aX;have ih:=kA (l:=l) (k:=k.erase a) (bz.mp nd).2 fun x hx=>by
   have hxk:=h x (aD _ hx);have hne:x≠a:=fun z=>(bz.mp nd).1 (z ▸ hx)
   exact (List.mem_erase_of_ne hne).mpr hxk
  rw [kO ha] at ih;have:=List.length_pos_of_mem ha;rw [aY];lia
theorem g9 (m:Nat):(iI m).length=m:=by unfold iI;rw [af,ba]
theorem og (sp:List Sn):∀ (π:List Nat) (gs:List Int) (tk:List Nat),∃ more,(π.foldl (d8 sp) (gs,tk)).2=tk++more
 | [],gs,tk=>⟨[],(cP tk).symm⟩
 | j::π,gs,tk=>by
  rw [bP]
  rcases ie sp gs tk j with ⟨_,e⟩ | ⟨_,e⟩ <;> rw [e]
  ·exact og sp π gs tk
  ·obtain ⟨more,h⟩:=og sp π (ik gs (tm gs (sAt sp j).s) (tm gs (sAt sp j).g)) (tk++[j])
   exact ⟨j::more,by rw [h,List.append_assoc];rfl⟩
def jg (sp:List Sn)(l:List Nat):Int:=l.foldl (fun c i=>c * ((wkey sp i).1+1)) 1
theorem prodW_snoc (sp:List Sn)(l:List Nat)(i:Nat):jg sp (l++[i])=jg sp l * ((wkey sp i).1+1):=by unfold jg;rw [cx];rfl
theorem fold_mul (sp:List Sn):∀ (l:List Nat) (c:Int),l.foldl (fun c i=>c * ((wkey sp i).1+1)) c=c * jg sp l
 | [],c=>(Int.mul_one c).symm
 | i::l,c=>by
  unfold jg;rw [bP,bP,fold_mul sp l,fold_mul sp l,Int.one_mul,Int.mul_assoc]
theorem fG (sp:List Sn)(l:List Nat)(i:Nat):jg sp (i::l)=((wkey sp i).1+1) * jg sp l:=by
 show l.foldl _ (1 * ((wkey sp i).1+1))=_;rw [fold_mul,Int.one_mul]
theorem prodW_perm (sp:List Sn){k:List Nat}(h:l.Perm k):jg sp l=jg sp k:=by
 induction h with
 | nil=>rfl
 | cons x _ ih=>rw [fG,fG,ih]
 | swap x y l=>rw [fG,fG,fG,fG,←Int.mul_assoc,←Int.mul_assoc,Int.mul_comm ((wkey sp y).1+1)]
 | trans _ _ h1 h2=>exact h1.trans h2
theorem gone_sorted:∀ (π:List Nat) (gs:List Int),∃ more,(π.foldl (d8 sp) (gs,[])).2=more∧more.Sublist π:=by
 have key:∀ (π:List Nat) (gs:List Int) (tk:List Nat),∃ more,(π.foldl (d8 sp) (gs,tk)).2=tk++more∧more.Sublist π:=by
  intro π
  induction π with
  | nil=>intro gs tk;exact ⟨[],(cP tk).symm,List.Sublist.slnil⟩
  | cons j π ih =>
   intro gs tk;rw [bP]
   rcases ie sp gs tk j with ⟨_,e⟩ | ⟨_,e⟩ <;> rw [e]
   ·obtain ⟨more,h1,h2⟩:=ih gs tk
    exact ⟨more,h1,h2.cons j⟩
   ·obtain ⟨more,h1,h2⟩:=ih (ik gs (tm gs (sAt sp j).s) (tm gs (sAt sp j).g)) (tk++[j])
    exact ⟨j::more,by rw [h1,List.append_assoc];rfl,h2.cons_cons j⟩
 intro π gs;obtain ⟨more,h1,h2⟩:=key π gs [];exact ⟨more,by rw [h1,List.nil_append],h2⟩
def lkW (l:List (Int×List Stp))(x:Int):Option (List Stp):=(l.find? fun p=>decide (p.1=x)).map (·.2)
theorem kJ (p:Int×List Stp)(l:List (Int×List Stp))(x:Int):lkW (p::l) x=if p.1=x then some p.2 else lkW l x:=by
 unfold lkW;rw [gw]
 by_cases e:p.1=x
 ·rw [pQ e,pO e];rfl
 ·rw [pR e,pN e]
theorem ma {l:List (Int×List Stp)}{y:Int}(h:lkW l y=none)(x:Int):lkW (l++[(y,ws)]) x=if x=y then some ws else lkW l x:=by
 induction l with
 | nil =>
  show lkW [(y,ws)] x=_;rw [kJ]
  by_cases e:x=y
  ·rw [pO e,pO e.symm]
  ·rw [pN e,pN (fun z=>e z.symm)]
 | cons p l ih =>
  rw [kJ] at h
  by_cases e:p.1=y
  ·rw [pO e] at h;cases h
  ·rw [pN e] at h
   rw [List.cons_append,kJ,kJ,ih h]
   by_cases e1:p.1=x
   ·rw [pO e1,pO e1,pN (fun z=>e (e1.trans z))]
   ·rw [pN e1,pN e1]
def stF (tk:List Nat):List Stp:=tk.map (fun i=>⟨i,1⟩)++tk.map (fun i=>⟨i,-1⟩)
def cX (sp:List Sn)(tk:List Nat)(x:Int):List Stp:=(stF tk).filter fun s=>decide (kR sp s=x)
def gU (sp:List Sn)(x:Int)(c:List (Int×List Stp)×List Int)(s:Stp):List (Int×List Stp)×List Int :=
 if lkW c.1 (eE sp s)=none then (c.1++[(eE sp s,(lkW c.1 x).getD []++[s])],c.2++[eE sp s]) else c
def kY (l:List Int):Int:=l.getLast?.getD 0
def oZ (sp:List Sn)(tk:List Nat)(c:List (Int×List Stp)×List Int):List (Int×List Stp)×List Int :=
 (cX sp tk (kY c.2)).foldl (gU sp (kY c.2)) (c.1,c.2.dropLast)
def itW (sp:List Sn)(tk:List Nat)(be:Int):Nat→List (Int×List Stp)×List Int
 | 0=>([(be,[])],[be])
 | k+1=>oZ sp tk (itW sp tk be k)
def WayR (sp:List Sn)(tk:List Nat)(be en:Int)(p:List Stp):Prop:=∃ k,lkW (itW sp tk be k).1 en=some p∧∀ j,j<k→lkW (itW sp tk be j).1 en=none
structure Pth (sp:List Sn)(tk:List Nat)(be x:Int)(ws:List Stp):Prop where
 inn:∀ s∈ws,s.i∈tk∧s.i<sp.length∧(s.d=1∨s.d= -1)
 alo:Along sp be ws x
 one:(ws.map Stp.i).Nodup
 met:(be::ws.map (eE sp)).Nodup
theorem mem_stF {s:Stp}(h:s∈stF tk):s.i∈tk∧(s.d=1∨s.d= -1):=by
 rcases aG.mp h with h | h
 ·obtain ⟨i,hi,rfl⟩:=bt.mp h;exact ⟨hi,.inl rfl⟩
 ·obtain ⟨i,hi,rfl⟩:=bt.mp h;exact ⟨hi,.inr rfl⟩
structure WI (m:Nat)(sp:List Sn)(tk:List Nat)(be:Int)(c:List (Int×List Stp)×List Int):Prop where
 pth:∀ x ws,lkW c.1 x=some ws→Pth sp tk be x ws∧∀ s∈ws,lkW c.1 (kR sp s)≠none∧lkW c.1 (eE sp s)≠none
 rng:∀ x,lkW c.1 x≠none→0≤x∧x<m
 ahd:∀ x∈c.2,lkW c.1 x≠none
 beg:lkW c.1 be≠none
def Clo (sp:List Sn)(tk:List Nat)(ex:Int→Prop)(c:List (Int×List Stp)×List Int):Prop:=∀ x,lkW c.1 x≠none→x ∉ c.2→¬ ex x→∀ s∈cX sp tk x,lkW c.1 (eE sp s)≠none
def mQ (l:List (Int×List Stp)):Nat:=(aK 16).countP fun x=>(lkW l ((x:Nat):Int)).isNone
theorem count_lt' {α:Type}{P Q:α→Bool}:∀ {l:List α},(∀ x∈l,Q x=true→P x=true)→∀ {a:α},a∈l→P a=true→Q a=false→l.countP Q<l.countP P
 | [],_,_,h,_,_=>pP h (by simp)
 | x::l,hPQ,a,h,hP,hQ=>by
  have le:l.countP Q≤l.countP P:=List.countP_mono_left fun y hy=>hPQ y (aD _ hy)
  rw [List.countP_cons,List.countP_cons]
  rcases aF.mp h with rfl | h
  ·rw [hP,hQ];simp;lia
  ·have ih:=count_lt' (P:=P) (Q:=Q) (l:=l) (fun y hy=>hPQ y (aD _ hy)) h hP hQ
   have:=hPQ x (by simp);cases q:Q x with
   | true=>rw [this q];simp;lia
   | false=>simp;lia
theorem cntW_new {l:List (Int×List Stp)}{y:Int}(h:lkW l y=none)(y0:0≤y)(y1:y<16):mQ (l++[(y,ws)])<mQ l:=by
 unfold mQ;obtain ⟨n,rfl⟩:=dQ y0;refine count_lt' (a:=n) (fun x _ hx=>?_) (bT.mpr (by lia)) ?_ ?_
 ·rw [ma h] at hx
  split at hx
  ·cases hx
  ·exact hx
 ·show (lkW l ((n:Nat):Int)).isNone=true
  rw [h];rfl
 ·show (lkW (l++[(((n:Nat):Int),ws)]) ((n:Nat):Int)).isNone=false
  rw [ma h,pO rfl];rfl
theorem i7 (E:j8 m sp){s:Stp}(hi:s.i<sp.length):0≤eE sp s∧eE sp s<m:=by
 obtain ⟨i,d⟩:=s;have hi:i<sp.length:=hi;rw [ky hi];obtain ⟨a,b,c,e⟩:=E _ (bu hi);unfold too;split
 ·exact ⟨c,e⟩
 ·exact ⟨a,b⟩
theorem visit_ok {x:Int}(E:j8 m sp)(m16:m≤16)(ht:∀ i∈tk,i<sp.length){s:Stp}(I:WI m sp tk be c)(hx:lkW c.1 x≠none)(hs:s∈cX sp tk x)(C:Clo sp tk (· =x) c) :
  WI m sp tk be (gU sp x c s)∧Clo sp tk (· =x) (gU sp x c s)∧lkW (gU sp x c s).1 (eE sp s)≠none∧(∀ y,lkW c.1 y≠none→lkW (gU sp x c s).1 y=lkW c.1 y)∧2 * mQ (gU sp x c s).1+(gU sp x c s).2.length≤2 * mQ c.1+c.2.length∧(gU sp x c s).1.length+mQ (gU sp x c s).1≤c.1.length+mQ c.1:=by
 obtain ⟨hs1,hs2⟩:=b9.mp hs;have hfr:kR sp s=x:=pS hs2;obtain ⟨hst,hsd⟩:=mem_stF hs1;have hsn:=ht _ hst;have tr:=i7 E hsn;unfold gU
 by_cases e:lkW c.1 (eE sp s)=none
 ·rw [pO e]
  obtain ⟨ws,hws⟩:∃ ws,lkW c.1 x=some ws:=Option.ne_none_iff_exists'.mp hx;have eg:(lkW c.1 x).getD []=ws:=by rw [hws];rfl
  rw [eg];have keep:∀ y,lkW c.1 y≠none→lkW (c.1++[(eE sp s,ws++[s])]) y=lkW c.1 y:=fun y hy=>by
   rw [ma e,pN (fun (z:y=eE sp s)=>hy (by rw [z];exact e))]
  have new:lkW (c.1++[(eE sp s,ws++[s])]) (eE sp s)=some (ws++[s]):=by rw [ma e,pO rfl]
  have more:∀ y,lkW c.1 y≠none→lkW (c.1++[(eE sp s,ws++[s])]) y≠none:=fun y hy=>by rw [keep y hy];exact hy
  obtain ⟨P,K⟩:=I.pth x ws hws;have hne:∀ st∈ws,st.i=s.i→False:=fun st hst' e2=>by
   obtain ⟨k1,k2⟩:=K st hst'
   rcases ends_of_span (sp:=sp) (st:=st) (d:=s.d) hsn e2 (P.inn st hst').2.2 hsd with z | z
   ·have z:eE sp st=eE sp s:=z
    rw [z] at k2;exact k2 e
   ·have z:kR sp st=eE sp s:=z
    rw [z] at k1;exact k1 e
  have hnew:Pth sp tk be (eE sp s) (ws++[s]):=by
   refine ⟨fun st hst'=>?_,P.alo.append ⟨hfr,rfl⟩,?_,?_⟩
   ·rcases aG.mp hst' with h | h
    ·exact P.inn st h
    ·rw [aw.mp h];exact ⟨hst,hsn,hsd⟩
   ·rw [aM]
    refine jd.mpr ⟨P.one,by simp,fun a ha b hb e3=>?_⟩;obtain ⟨st,hst',rfl⟩:=bt.mp ha;have hb:b=s.i:=by simpa using hb
    exact hne st hst' (by rw [e3,hb])
   ·rw [aM,←List.cons_append]
    refine jd.mpr ⟨P.met,by simp,fun a ha b hb e3=>?_⟩;have hb:b=eE sp s:=by simpa using hb
    subst hb;subst e3
    rcases aF.mp ha with z | z
    ·rw [z] at e;exact I.beg e
    ·obtain ⟨st,hst',e4⟩:=bt.mp z
     exact (K st hst').2 (by rw [e4];exact e)
  refine ⟨⟨fun y vs hy=>?_,fun y hy=>?_,fun y hy=>?_,more _ I.beg⟩,fun y hy hn ex t ht'=>?_,?_,keep,?_,?_⟩
  ·rw [ma e] at hy
   by_cases ey:y=eE sp s
   ·rw [pO ey] at hy
    cases hy;rw [ey];refine ⟨hnew,fun st hst'=>?_⟩
    rcases aG.mp hst' with h | h
    ·exact ⟨more _ (K st h).1,more _ (K st h).2⟩
    ·rw [aw.mp h,hfr]
     exact ⟨more _ hx,by rw [new];exact fun z=>nomatch z⟩
   ·rw [pN ey] at hy
    obtain ⟨P',K'⟩:=I.pth y vs hy;exact ⟨P',fun st h=>⟨more _ (K' st h).1,more _ (K' st h).2⟩⟩
  ·have hy:lkW (c.1++[(eE sp s,ws++[s])]) y≠none:=hy
   rw [ma e] at hy
   by_cases ey:y=eE sp s
   ·rw [ey];exact tr
   ·rw [pN ey] at hy;exact I.rng y hy
  ·rcases aG.mp hy with h | h
   ·exact more _ (I.ahd y h)
   ·rw [aw.mp h];show lkW (c.1++[(eE sp s,ws++[s])]) (eE sp s)≠none;rw [new];exact fun z=>nomatch z
  ·have hy:lkW (c.1++[(eE sp s,ws++[s])]) y≠none:=hy
   have hn:y ∉ c.2++[eE sp s]:=hn;have ey:y≠eE sp s:=fun z=>hn (ay _ (aw.mpr z))
   rw [ma e,pN ey] at hy;exact more _ (C y hy (fun z=>hn (aE _ z)) ex t ht')
  ·show lkW (c.1++[(eE sp s,ws++[s])]) (eE sp s)≠none
   rw [new];exact fun z=>nomatch z
  ·have:=cntW_new (ws:=ws++[s]) e tr.1 (by lia)
   show 2 * mQ (c.1++[(eE sp s,ws++[s])])+(c.2++[eE sp s]).length≤_;rw [av];have:[eE sp s].length=1:=rfl;lia
  ·have:=cntW_new (ws:=ws++[s]) e tr.1 (by lia)
   show (c.1++[(eE sp s,ws++[s])]).length+mQ (c.1++[(eE sp s,ws++[s])])≤_;rw [av];have:[(eE sp s,ws++[s])].length=1:=rfl;lia
 ·rw [pN e]
  exact ⟨I,C,e,fun _ _=>rfl,az _,az _⟩
theorem nV {m:Nat}{sp:List Sn}{tk:List Nat}{be x:Int}(E:j8 m sp)(m16:m≤16)(ht:∀ i∈tk,i<sp.length):∀ {L:List Stp} {c:List (Int×List Stp)×List Int},WI m sp tk be c→lkW c.1 x≠none→(∀ s∈L,s∈cX sp tk x)→Clo sp tk (· =x) c →
  WI m sp tk be (L.foldl (gU sp x) c)∧Clo sp tk (· =x) (L.foldl (gU sp x) c)∧(∀ s∈L,lkW (L.foldl (gU sp x) c).1 (eE sp s)≠none)∧(∀ y,lkW c.1 y≠none→lkW (L.foldl (gU sp x) c).1 y=lkW c.1 y)∧2 * mQ (L.foldl (gU sp x) c).1+(L.foldl (gU sp x) c).2.length≤2 * mQ c.1+c.2.length∧(L.foldl (gU sp x) c).1.length+mQ (L.foldl (gU sp x) c).1≤c.1.length+mQ c.1
 | [],c,I,_,_,C=>⟨I,C,fun _ h=>(by cases h),fun _ _=>rfl,az _,az _⟩
 | s::L,c,I,hx,hL,C=>by
  obtain ⟨a1,a2,a3,a4,a5,a6⟩:=visit_ok E m16 ht I hx (hL s aX) C;obtain ⟨b1,b2,b3,b4,b5,b6⟩:=nV E m16 ht (L:=L) a1 (by rw [a4 x hx];exact hx) (fun t h=>hL t (aD _ h)) a2;rw [bP];refine ⟨b1,b2,fun t h=>?_,fun y hy=>?_,aS b5 a5,aS b6 a6⟩
  ·rcases aF.mp h with rfl | h
   ·rw [b4 _ a3];exact a3
   ·exact b3 t h
  ·rw [b4 y (by rw [a4 y hy];exact hy),a4 y hy]
theorem turn_ok (E:j8 m sp)(m16:m≤16)(ht:∀ i∈tk,i<sp.length)(I:WI m sp tk be c)(C:Clo sp tk (fun _=>False) c)(hne:c.2≠[]) :
  WI m sp tk be (oZ sp tk c)∧Clo sp tk (fun _=>False) (oZ sp tk c)∧2 * mQ (oZ sp tk c).1+(oZ sp tk c).2.length<2 * mQ c.1+c.2.length∧(oZ sp tk c).1.length+mQ (oZ sp tk c).1≤c.1.length+mQ c.1:=by
 have hl:c.2.getLast? =some (c.2.getLast hne):=List.getLast?_eq_some_getLast hne;have e0:c.2=c.2.dropLast++[kY c.2]:=by
  unfold kY;rw [hl];exact (List.dropLast_concat_getLast hne).symm
 have hmem:kY c.2∈c.2:=by rw [e0];unfold kY;simp
 have hx:=I.ahd _ hmem;have I0:WI m sp tk be (c.1,c.2.dropLast):=⟨I.pth,I.rng,fun y hy=>I.ahd y ((List.dropLast_sublist _).subset hy),I.beg⟩;have C0:Clo sp tk (· =kY c.2) (c.1,c.2.dropLast):=fun y hy hn ex t ht'=>C y hy (fun z=>by
  rw [e0] at z
  rcases aG.mp z with z | z
  ·exact hn z
  ·exact ex (aw.mp z)) (fun z=>z) t ht'
 obtain ⟨b1,b2,b3,b4,b5,b6⟩:=nV E m16 ht (L:=cX sp tk (kY c.2)) I0 hx (fun _ h=>h) C0;refine ⟨b1,fun y hy hn _ t ht'=>?_,?_,b6⟩
 ·by_cases e:y=kY c.2
  ·subst e;exact b3 t ht'
  ·exact b2 y hy hn e t ht'
 ·have l1:c.2.dropLast.length+1=c.2.length:=by
   have:=pT List.length e0;rw [av] at this;exact this.symm
  have b5:2 * mQ (oZ sp tk c).1+(oZ sp tk c).2.length≤2 * mQ c.1+c.2.dropLast.length:=b5;lia
theorem start_ok (b0:0≤be)(b1:be<m):WI m sp tk be ([(be,[])],[be])∧Clo sp tk (fun _=>False) ([(be,[])],[be]):=by
 have lk:∀ x,lkW [(be,[])] x=if be=x then some [] else none:=fun x=>by rw [kJ];rfl
 have kb:∀ x,lkW [(be,([]:List Stp))] x≠none→x=be:=fun x h=>by
  rw [lk] at h
  by_cases e:be=x
  ·exact e.symm
  ·rw [pN e] at h;exact pP rfl h
 have kn:lkW [(be,([]:List Stp))] be≠none:=by rw [lk,pO rfl];exact fun z=>nomatch z
 refine ⟨⟨fun x ws h=>?_,fun x h=>by rw [kb x h];exact ⟨b0,b1⟩,fun x h=>by rw [aw.mp h];exact kn,kn⟩,fun x h hn=>?_⟩
 ·have h:lkW [(be,[])] x=some ws:=h
  rw [lk] at h
  by_cases e:be=x
  ·rw [pO e] at h
   cases h;exact ⟨⟨fun _ h=>(nomatch h),e,jb,bz.mpr ⟨fun h=>(nomatch h),jb⟩⟩,fun _ h=>(nomatch h)⟩
  ·rw [pN e] at h;cases h
 ·exact pP (aw.mpr (kb x h)) hn
def Held (sp:List Sn)(tk:List Nat)(be en:Int):Prop:=∀ S:Int→Prop,(∀ i∈tk,S (sAt sp i).s↔S (sAt sp i).g)→S be→S en
theorem oP (h:i<sp.length):kR sp ⟨i,1⟩=(sAt sp i).s∧eE sp ⟨i,1⟩=(sAt sp i).g∧kR sp ⟨i,-1⟩=(sAt sp i).g∧eE sp ⟨i,-1⟩=(sAt sp i).s:=by
 have e:sAt sp i=sp[i]:=by unfold sAt;rw [ah,gE h];rfl
 rw [mm h,ky h,mm h,ky h,e];unfold frm too;exact ⟨rfl,rfl,rfl,rfl⟩
theorem left_of {en:Int}(ht:∀ i∈tk,i<sp.length)(hh:Held sp tk be en)(I:WI m sp tk be c)(C:Clo sp tk (fun _=>False) c)(hn:lkW c.1 en=none):c.2≠[]:=fun z=>by
 refine hh (fun x=>lkW c.1 x≠none) (fun i hi=>?_) I.beg hn;have hin:=ht i hi;obtain ⟨f1,f2,f3,f4⟩:=oP hin;have m1:(⟨i,1⟩:Stp)∈cX sp tk (sAt sp i).s:=b9.mpr ⟨aE _ (bt.mpr ⟨i,hi,rfl⟩),pQ f1⟩;have m2:(⟨i,-1⟩:Stp)∈cX sp tk (sAt sp i).g:=b9.mpr ⟨ay _ (bt.mpr ⟨i,hi,rfl⟩),pQ f3⟩
 constructor
 ·intro h
  have:=C _ h (by rw [z];exact cR) (fun z=>z) _ m1;rw [f2] at this;exact this
 ·intro h
  have:=C _ h (by rw [z];exact cR) (fun z=>z) _ m2;rw [f4] at this;exact this
theorem held_of {m:Nat}{sp:List Sn}(E:j8 m sp)(S:Int→Prop):∀ (π:List Nat) (gs:List Int) (tk:List Nat),gs.length=m→(∀ i∈π,i<sp.length)→(∀ i∈(π.foldl (d8 sp) (gs,tk)).2,S (sAt sp i).s↔S (sAt sp i).g) →
  (∀ x y:Int,0≤x→x<m→0≤y→y<m→tm gs x=tm gs y→(S x↔S y))→∀ x y:Int,0≤x→x<m→0≤y→y<m→tm (π.foldl (d8 sp) (gs,tk)).1 x=tm (π.foldl (d8 sp) (gs,tk)).1 y→(S x↔S y)
 | [],_,_,_,_,_,h=>h
 | j::π,gs,tk,l,hp,hS,h=>by
  rw [bP] at hS ⊢;obtain ⟨a0,a1,b0,b1⟩:=E _ (eM (hp j aX));have hp':∀ i∈π,i<sp.length:=fun k hk=>hp k (aD _ hk)
  rcases ie sp gs tk j with ⟨_,e⟩ | ⟨_,e⟩ <;> rw [e] at hS ⊢
  ·exact held_of E S π gs tk l hp' hS h
  ·refine held_of E S π _ _ (by rw [ki];exact l) hp' hS fun x y x0 x1 y0 y1 hxy=>?_
   obtain ⟨more,hm⟩:=og sp π (ik gs (tm gs (sAt sp j).s) (tm gs (sAt sp j).g)) (tk++[j]);have hj:=hS j (by rw [hm];simp);rw [kz x0 (by lia),kz y0 (by lia)] at hxy
   by_cases e1:tm gs x=tm gs (sAt sp j).g
   ·have f1:=h x _ x0 x1 b0 b1 e1
    rw [pO e1] at hxy
    by_cases e2:tm gs y=tm gs (sAt sp j).g
    ·exact f1.trans (h y _ y0 y1 b0 b1 e2).symm
    ·rw [pN e2] at hxy
     exact f1.trans (hj.symm.trans (h _ y a0 a1 y0 y1 hxy))
   ·rw [pN e1] at hxy
    by_cases e2:tm gs y=tm gs (sAt sp j).g
    ·rw [pO e2] at hxy
     exact (h x _ x0 x1 a0 a1 hxy).trans (hj.trans (h y _ y0 y1 b0 b1 e2).symm)
    ·rw [pN e2] at hxy
     exact h x y x0 x1 y0 y1 hxy
theorem held_span (E:j8 m sp)(O:Ordd sp π)(pm:l.Perm (kd sp m π).2){k:Nat}(hk:k<sp.length):Held sp l (sAt sp k).g (sAt sp k).s:=by
 intro S hS hg;have hp:∀ i∈π,i<sp.length:=fun i hi=>O.lt hi
 obtain ⟨a0,a1,b0,b1⟩:=E _ (eM hk);refine (held_of E S π (iI m) [] (g9 m) hp (fun i hi=>hS i (pm.mem_iff.mpr hi)) (fun x y x0 x1 y0 y1 h=>?_) _ _ a0 a1 b0 b1 (jL E π (iI m) [] (g9 m) hp k (O.1.mem_iff.mpr (bT.mpr hk)))).mpr hg;rw [lZ x0 x1,lZ y0 y1] at h;rw [h]
theorem WayR.pth {en:Int}(E:j8 m sp)(m16:m≤16)(ht:∀ i∈tk,i<sp.length)(b0:0≤be)(b1:be<m)(hh:Held sp tk be en){p:List Stp}(h:WayR sp tk be en p):Pth sp tk be en p:=by
 obtain ⟨k,h1,h2⟩:=h;have key:∀ j,j≤k→WI m sp tk be (itW sp tk be j)∧Clo sp tk (fun _=>False) (itW sp tk be j):=by
  intro j
  induction j with
  | zero=>intro _;exact start_ok b0 b1
  | succ j ih =>
   intro hj;obtain ⟨I,C⟩:=ih (by lia);obtain ⟨a,b,_⟩:=turn_ok E m16 ht I C (left_of ht hh I C (h2 j (by lia)));exact ⟨a,b⟩
 exact ((key k (az _)).1.pth en p h1).1
theorem Pth.len {en:Int}{p:List Stp}(E:j8 m sp)(b0:0≤be)(b1:be<m)(h:Pth sp tk be en p):p.length+1≤m:=by
 have:=kA h.met (k:=iI m) fun x hx=>by
  have key:∀ x:Int,0≤x→x<m→x∈iI m:=fun x x0 x1=>by
   unfold iI;exact bt.mpr ⟨x.toNat,bT.mpr (by lia),d7 x0⟩
  rcases aF.mp hx with rfl | hx
  ·exact key _ b0 b1
  ·obtain ⟨s,hs,rfl⟩:=bt.mp hx
   have t:=i7 E (h.inn s hs).2.1;exact key _ t.1 t.2
 rw [aY,af,g9] at this;exact this
end HN
namespace L2
open PySem PySem.Spec PyProof.Rows
end L2
namespace HN
open PySem L2 PyProof.Rows
def sg (k:Nat):List Stp→Int
 | []=>0
 | s::ws=>(if s.i=k then s.d else 0)+sg k ws
def alg (y:Nat→Int):List Stp→Int
 | []=>0
 | s::ws=>s.d * y s.i+alg y ws
def mh (b:Int)(ts:List Int)(sp:List Sn)(k:Nat):Int:=match sp[k]? with | some x=>x.l+jq b ts x | none=>0
def InB (y:Nat→Int)(bs:List (Int×Int)):Prop:=∀ k,k<bs.length→(bs.getD k (0,0)).1≤y k∧y k≤(bs.getD k (0,0)).2
theorem lay_in (hb:0<b)(hf:kT b ts sp=true):InB (mh b ts sp) (sp.map fun x=>(x.l,x.o)):=fun k hk=>by
 rw [af] at hk;have e:(sp.map fun x=>(x.l,x.o)).getD k (0,0)=(sp[k].l,sp[k].o):=by
  rw [ah,ax,gE hk];rfl
 have e2:mh b ts sp k=sp[k].l+jq b ts sp[k]:=by
  unfold mh;rw [gE hk]
 rw [e,e2];have h0:0≤jq b ts sp[k]:=by unfold jq;exact gy _ (by lia)
 have h1:¬ (sp[k].o - sp[k].l<jq b ts sp[k]):=by
  unfold kT at hf;rw [fE,gH] at hf;have:=hf sp[k] (bu hk);unfold brk at this
  simpa using this
 exact ⟨by show sp[k].l≤_;lia,by show _≤sp[k].o;lia⟩
theorem inB_one {y:Nat→Int}{bs:List (Int×Int)}{k:Nat}{a:Int}(h:InB y bs)(ha:y k≤a):InB y (o8 bs k a):=fun j hj=>by
 rw [one_len] at hj;have hh:=h j hj;unfold o8;rw [ah]
 by_cases e:k=j
 ·subst e
  rw [dZ hj];exact ⟨hh.1,ha⟩
 ·rw [dN e,←ah]
  exact hh
theorem inB_other {y:Nat→Int}{bs:List (Int×Int)}{k:Nat}{a:Int}(h:InB y bs)(ha:a+1≤y k):InB y (gX bs k a):=fun j hj=>by
 rw [other_len] at hj;have hh:=h j hj;unfold gX;rw [ah]
 by_cases e:k=j
 ·subst e
  rw [dZ hj];exact ⟨ha,hh.2⟩
 ·rw [dN e,←ah]
  exact hh
theorem alg_way {b:Int}{ts:List Int}{sp:List Sn}:∀ (ws:List Stp) (x z:Int),WayIn sp.length ws→Along sp x ws z→∃ Z,alg (mh b ts sp) ws=tm ts z - tm ts x+b * Z
 | [],x,z,_,h=>by
  have h:x=z:=h;subst h;exact ⟨0,by show (0:Int)=_;rw [Int.mul_zero];lia⟩
 | s::ws,x,z,hw,h=>by
  obtain ⟨h1,h2⟩:=h;obtain ⟨Z,hZ⟩:=alg_way (b:=b) (ts:=ts) ws _ z (fun t ht=>hw t (aD _ ht)) h2;obtain ⟨hs,hd⟩:=hw s (by simp);obtain ⟨i,d⟩:=s;have hs:i<sp.length:=hs;have hd:d=1∨d= -1:=hd;have e2:mh b ts sp i=sp[i].l+jq b ts sp[i]:=by
   unfold mh;rw [gE hs]
  have hm:=gJ (tm ts sp[i].g - tm ts sp[i].s - sp[i].l) b;show ∃ Z,d * mh b ts sp i+alg (mh b ts sp) ws=_;rw [hZ,e2];unfold jq;rw [ky hs] at *;rw [mm hs] at h1;unfold frm at h1;unfold too at *;generalize (tm ts sp[i].g - tm ts sp[i].s - sp[i].l) / b=q at hm;generalize (tm ts sp[i].g - tm ts sp[i].s - sp[i].l) % b=r at hm ⊢
  rcases hd with rfl | rfl
  ·rw [pO rfl] at h1 ⊢
   subst h1;exact ⟨Z - q,by rw [Int.mul_sub];lia⟩
  ·rw [pN (by decide)] at h1 ⊢
   subst h1;exact ⟨Z+q,by rw [Int.mul_add b Z q];lia⟩
theorem alg_lo {y:Nat→Int}{bs:List (Int×Int)}(h:InB y bs):∀ (ws:List Stp),WayIn bs.length ws→iK bs ws≤alg y ws∧alg y ws≤jr bs ws
 | [],_=>⟨gp _,gp _⟩
 | s::ws,hw=>by
  obtain ⟨i1,i2⟩:=alg_lo h ws fun t ht=>hw t (aD _ ht)
  obtain ⟨hs,hd⟩:=hw s (by simp);obtain ⟨b1,b2⟩:=h s.i hs;have e:bs.getD s.i (0,0)=bs[s.i]:=by rw [ah,gE hs];rfl
  rw [e] at b1 b2;have e1:iK bs (s::ws)=lowS bs s+iK bs ws:=rfl;have e2:jr bs (s::ws)=lh bs s+jr bs ws:=rfl;have f1:lowS bs s=if s.d=1 then bs[s.i].1 else -bs[s.i].2:=by unfold lowS;rw [gE hs]
  have f2:lh bs s=if s.d=1 then bs[s.i].2 else -bs[s.i].1:=by unfold lh;rw [gE hs]
  rw [e1,e2,f1,f2];show _≤s.d * y s.i+alg y ws∧s.d * y s.i+alg y ws≤_
  rcases hd with d1 | d1
  ·rw [d1,pO rfl,pO rfl];lia
  ·rw [d1,pN (by decide),pN (by decide)];lia
theorem ring_in {bs:List (Int×Int)}(hb:0<b)(hl:bs.length=sp.length)(h:InB (mh b ts sp) bs)(hr:Rg sp ws) :
  ∃ Z,alg (mh b ts sp) ws=b * Z∧upB b (iK bs ws)≤Z∧Z≤jr bs ws / b:=by
 obtain ⟨x,hx⟩:=hr.rnd;obtain ⟨Z,hZ⟩:=alg_way (b:=b) (ts:=ts) ws x x hr.inn hx;obtain ⟨l1,l2⟩:=alg_lo h ws (by rw [hl];exact hr.inn);have e:alg (mh b ts sp) ws=b * Z:=by lia
 rw [e] at l1 l2;refine ⟨Z,e,?_,?_⟩
 ·unfold upB
  have: -Z≤ -iK bs ws / b:=by
   rw [Int.le_ediv_iff_mul_le hb,Int.neg_mul,Int.mul_comm Z b];lia
  lia
 ·rw [Int.le_ediv_iff_mul_le hb,Int.mul_comm Z b];exact l2
theorem Held.more {tk':List Nat}{x y:Int}(h:∀ i∈tk,i∈tk')(k:Held sp tk x y):Held sp tk' x y:=fun S hS=>k S fun i hi=>hS i (h i hi)
theorem Held.trans {x y:Int}(a:Held sp tk x y)(c:Held sp tk y z):Held sp tk x z:=fun S hS h=>c S hS (a S hS h)
theorem Held.symm {x y:Int}(a:Held sp tk x y):Held sp tk y x:=fun S hS h=>gN fun n=>a (fun z=>¬ S z) (fun i hi=>not_congr (hS i hi)) n h
inductive Acy (sp:List Sn):List Nat→Prop where
 | nil:Acy sp []
 | snoc {tk:List Nat} {k:Nat} (h:Acy sp tk) (hk:k<sp.length) (s:∃ S:Int→Prop,(∀ i∈tk,S (sAt sp i).s↔S (sAt sp i).g)∧S (sAt sp k).s∧¬ S (sAt sp k).g):Acy sp (tk++[k])
theorem Acy.pot (h:Acy sp tk)(y:Nat→Int):∃ π:Int→Int,∀ i∈tk,π (sAt sp i).g - π (sAt sp i).s=y i:=by
 induction h with
 | nil=>exact ⟨fun _=>0,fun _ h=>pP h (by simp)⟩
 | snoc h hk s ih =>
  rename_i tk k;obtain ⟨π,hπ⟩:=ih;obtain ⟨S,hS,s1,s2⟩:=s;have dec:∀ x,Decidable (S x):=fun x=>Classical.propDecidable _
  refine ⟨fun x=>if S x then π x else π x+(y k - (π (sAt sp k).g - π (sAt sp k).s)),fun i hi=>?_⟩
  rcases aG.mp hi with hi | hi
  ·have e:=hπ i hi
   have f:=hS i hi;show (if S (sAt sp i).g then _ else _) - (if S (sAt sp i).s then _ else _)=_
   by_cases c:S (sAt sp i).s
   ·rw [pO c,pO (f.mp c)];exact e
   ·rw [pN c,pN (fun z=>c (f.mpr z))];lia
  ·rw [aw.mp hi]
   show (if S (sAt sp k).g then _ else _) - (if S (sAt sp k).s then _ else _)=_;rw [pN s2,pO s1];lia
theorem Acy.nodup (h:Acy sp tk):tk.Nodup∧∀ i∈tk,i<sp.length:=by
 induction h with
 | nil=>exact ⟨jb,fun _ h=>pP h (by simp)⟩
 | snoc h hk s ih =>
  rename_i tk k;obtain ⟨S,hS,s1,s2⟩:=s;refine ⟨jd.mpr ⟨ih.1,by simp,fun a ha c hc e=>?_⟩,fun i hi=>?_⟩
  ·rw [aw.mp hc] at e
   subst e;exact s2 ((hS _ ha).mp s1)
  ·rcases aG.mp hi with hi | hi
   ·exact ih.2 i hi
   ·rw [aw.mp hi];exact hk
structure Pots (sp:List Sn)(tk:List Nat):Prop where
 nodup:tk.Nodup∧∀ i∈tk,i<sp.length
 pot:∀ y:Nat→Int,∃ π:Int→Int,∀ i∈tk,π (sAt sp i).g - π (sAt sp i).s=y i
theorem Acy.pots (h:Acy sp tk):Pots sp tk:=⟨h.nodup,h.pot⟩
theorem Pots.perm (h:Pots sp tk)(p:l.Perm tk):Pots sp l :=
 ⟨⟨p.nodup_iff.mpr h.nodup.1,fun i hi=>h.nodup.2 i (p.mem_iff.mp hi)⟩,fun y=>let ⟨π,k⟩:=h.pot y;⟨π,fun i hi=>k i (p.mem_iff.mp hi)⟩⟩
structure Gd (m:Nat)(sp:List Sn)(gs:List Int)(tk:List Nat):Prop where
 len:gs.length=m
 eq:∀ i∈tk,tm gs (sAt sp i).s=tm gs (sAt sp i).g
 held:∀ x y:Int,0≤x→x<m→0≤y→y<m→tm gs x=tm gs y→Held sp tk x y
 acy:Acy sp tk
 cnt:Cnt m gs tk.length
theorem Gd.start (m:Nat)(sp:List Sn):Gd m sp (iI m) []:=by
 refine ⟨g9 m,fun _ h=>pP h (by simp),fun x y x0 x1 y0 y1 e=>?_,.nil,Cnt.start m⟩;rw [lZ x0 x1,lZ y0 y1] at e;subst e;exact fun S _ h=>h
theorem Gd.step (E:j8 m sp)(g:Gd m sp gs tk)(hi:i<sp.length):Gd m sp (d8 sp (gs,tk) i).1 (d8 sp (gs,tk) i).2:=by
 obtain ⟨s0,s1,g0,g1⟩:=E _ (eM hi);unfold d8
 by_cases e:tm gs (sAt sp i).s=tm gs (sAt sp i).g
 ·rw [pO e];exact g
 ·rw [pN e]
  have l:=g.len;have old:∀ j∈tk,j<sp.length:=g.acy.nodup.2;have jt:∀ x:Int,0≤x→x<m→tm (ik gs (tm gs (sAt sp i).s) (tm gs (sAt sp i).g)) x=if tm gs x=tm gs (sAt sp i).g then tm gs (sAt sp i).s else tm gs x:=fun x x0 x1=>kz x0 (by lia)
  have up:∀ {x y:Int},Held sp tk x y→Held sp (tk++[i]) x y:=fun h=>h.more fun j hj=>aE _ hj
  have ed:Held sp (tk++[i]) (sAt sp i).s (sAt sp i).g:=fun S hS h=>(hS i (ay _ (aw.mpr rfl))).mp h
  refine ⟨by show (ik _ _ _).length=m;rw [ki];exact l,fun j hj=>?_,fun x y x0 x1 y0 y1 h=>?_,.snoc g.acy hi ⟨fun x=>tm gs x=tm gs (sAt sp i).s,fun j hj=>by show tm gs _=_↔tm gs _=_;rw [g.eq j hj],rfl,fun z=>e z.symm⟩,?_⟩
  ·show tm (ik _ _ _) _=tm (ik _ _ _) _
   rcases aG.mp hj with hj | hj
   ·obtain ⟨a0,a1,b0,b1⟩:=E _ (eM (old j hj))
    rw [jt _ a0 a1,jt _ b0 b1,g.eq j hj]
   ·rw [aw.mp hj,jt _ s0 s1,jt _ g0 g1,pO rfl,pN e]
  ·have h:tm (ik _ _ _) x=tm (ik _ _ _) y:=h
   rw [jt x x0 x1,jt y y0 y1] at h;show Held sp (tk++[i]) x y
   by_cases c1:tm gs x=tm gs (sAt sp i).g
   ·by_cases c2:tm gs y=tm gs (sAt sp i).g
    ·exact up (g.held x y x0 x1 y0 y1 (c1.trans c2.symm))
    ·rw [pO c1,pN c2] at h
     exact (up (g.held x _ x0 x1 g0 g1 c1)).trans (ed.symm.trans (up (g.held _ y s0 s1 y0 y1 h)))
   ·by_cases c2:tm gs y=tm gs (sAt sp i).g
    ·rw [pN c1,pO c2] at h
     exact (up (g.held x _ x0 x1 s0 s1 h)).trans (ed.trans (up (g.held _ y g0 g1 y0 y1 c2.symm)))
    ·rw [pN c1,pN c2] at h
     exact up (g.held x y x0 x1 y0 y1 h)
  ·show Cnt m (ik _ _ _) (tk++[i]).length
   rw [av];exact g.cnt.join (nu s0 (by lia)) (nu g0 (by lia)) e
theorem Gd.fold {m:Nat}{sp:List Sn}(E:j8 m sp):∀ (π:List Nat) (gs:List Int) (tk:List Nat),(∀ i∈π,i<sp.length)→Gd m sp gs tk→Gd m sp (π.foldl (d8 sp) (gs,tk)).1 (π.foldl (d8 sp) (gs,tk)).2
 | [],_,_,_,g=>g
 | i::π,gs,tk,h,g=>by
  rw [bP];exact Gd.fold E π _ _ (fun j hj=>h j (aD _ hj)) (g.step E (h i (by simp)))
theorem Gd.few (g:Gd m sp gs tk)(h:0<m):tk.length<m:=by
 obtain ⟨D,_,mem,l⟩:=g.cnt;have:D≠[]:=fun z=>by
  have h0:tm gs 0∈gs:=nu (gp 0) (by rw [g.len];lia);have:=(mem _).mpr h0;rw [z] at this;cases this
 have:=j7.mpr this;lia
structure RK (sp:List Sn)(tk:List Nat)(q:Nat×List Stp):Prop where
 lt:q.1<sp.length
 out:q.1 ∉ tk
 way:∃ p,q.2=⟨q.1,1⟩::p∧Pth sp tk (sAt sp q.1).g (sAt sp q.1).s p
theorem RK.rg {m:Int}{q:Nat×List Stp}(N:NetT b m sp)(h:RK sp tk q)(hl:tk.length≤15):Rg sp q.2:=by
 obtain ⟨p,e,P⟩:=h.way;have hk:=h.lt;have eA:sAt sp q.1=sp[q.1]:=by unfold sAt;rw [ah,gE hk];rfl
 rw [e];refine Bk.ring hk (N.all _ (bu hk)).ne ⟨fun s hs=>(P.inn s hs).2,by rw [←eA];exact P.alo,P.one,fun s hs z=>?_⟩ ?_
 ·have z:s.i=q.1:=by lia
  exact h.out (z ▸ (P.inn s hs).1)
 ·have hn:((p.map Stp.i).map fun n:Nat=>(n:Int)).Nodup:=by
   rw [cJ,ja];exact (cJ.mp P.one).imp fun hh e=>hh (by lia)
  have:=kA (l:=(p.map Stp.i).map fun n:Nat=>(n:Int)) (k:=tk.map fun n:Nat=>(n:Int)) hn fun x hx=>by
   obtain ⟨i,hi,rfl⟩:=bt.mp hx;obtain ⟨s,hs,rfl⟩:=bt.mp hi;exact bt.mpr ⟨_,(P.inn s hs).1,rfl⟩
  rw [af,af,af] at this;lia
structure OB (sp:List Sn)(tk:List Nat)(bs:List (Int×Int)):Prop where
 len:bs.length=sp.length
 out:∀ k,k<sp.length→k ∉ tk→bs.getD k (0,0)=((sAt sp k).l,(sAt sp k).o)
 lo:∀ k,k<sp.length→(sAt sp k).l≤(bs.getD k (0,0)).1∧(bs.getD k (0,0)).1≤(bs.getD k (0,0)).2∧(bs.getD k (0,0)).2≤(sAt sp k).o
theorem ka {bs:List (Int×Int)}{k:Nat}{x:Int×Int}(hj:j<bs.length):(bs.set k x).getD j (0,0)=if k=j then x else bs.getD j (0,0):=by
 rw [ah]
 by_cases e:k=j
 ·subst e
  rw [dZ hj,pO rfl];rfl
 ·rw [dN e,pN e,←ah]
theorem OB.one {bs:List (Int×Int)}{k:Nat}{a:Int}(h:OB sp tk bs)(hk:k∈tk)(hn:k<sp.length)(h1:(bs.getD k (0,0)).1≤a)(h2:a<(bs.getD k (0,0)).2):OB sp tk (o8 bs k a):=by
 have l:=h.len;refine ⟨by rw [one_len];exact l,fun j hj hjn=>?_,fun j hj=>?_⟩
 ·unfold o8
  rw [ka (by lia),pN (fun (z:k=j)=>hjn (z ▸ hk))];exact h.out j hj hjn
 ·unfold o8
  rw [ka (by lia)];have:=h.lo j hj
  by_cases e:k=j
  ·rw [pO e]
   subst e;exact ⟨this.1,h1,by show a≤_;lia⟩
  ·rw [pN e];exact this
theorem OB.other {bs:List (Int×Int)}{k:Nat}{a:Int}(h:OB sp tk bs)(hk:k∈tk)(hn:k<sp.length)(h1:(bs.getD k (0,0)).1≤a)(h2:a<(bs.getD k (0,0)).2):OB sp tk (gX bs k a):=by
 have l:=h.len;refine ⟨by rw [other_len];exact l,fun j hj hjn=>?_,fun j hj=>?_⟩
 ·unfold gX
  rw [ka (by lia),pN (fun (z:k=j)=>hjn (z ▸ hk))];exact h.out j hj hjn
 ·unfold gX
  rw [ka (by lia)];have:=h.lo j hj
  by_cases e:k=j
  ·rw [pO e]
   subst e;exact ⟨by show _≤a+1;lia,by show a+1≤(bs.getD k (0,0)).2;lia,this.2.2⟩
  ·rw [pN e];exact this
theorem OB.first {m:Int}(N:NetT b m sp)(tk:List Nat):OB sp tk (sp.map fun x=>(x.l,x.o)):=by
 have e:∀ k,k<sp.length→(sp.map fun x=>(x.l,x.o)).getD k (0,0)=((sAt sp k).l,(sAt sp k).o):=fun k hk=>by
  rw [ah,ax,ju hk];rfl
 refine ⟨af ..,fun k hk _=>e k hk,fun k hk=>?_⟩;rw [e k hk];have:=N.all _ (eM hk);exact ⟨gp _,this.lo,gp _⟩
structure Fx (b:Int)(tk:List Nat)(rg:List (Nat×List Stp))(bs:List (Int×Int)):Prop where
 fix:∀ k∈tk,(bs.getD k (0,0)).1=(bs.getD k (0,0)).2
 alive:∀ q∈rg,kK b bs q.2=false
structure FF (m:Int)(sp:List Sn)(tk:List Nat)(rg:List (Nat×List Stp)):Prop where
 acy:Pots sp tk
 few:(tk.length:Int)<m
 rk:∀ q∈rg,RK sp tk q
 all:∀ k,k<sp.length→k ∉ tk→∃ r,(k,r)∈rg
 one:(rg.map (·.1)).Nodup
theorem low_fix {bs:List (Int×Int)}{tk:List Nat}(h:∀ k∈tk,k<bs.length∧(bs.getD k (0,0)).1=(bs.getD k (0,0)).2):∀ (p:List Stp),(∀ s∈p,s.i∈tk∧(s.d=1∨s.d= -1))→iK bs p=alg (fun k=>(bs.getD k (0,0)).1) p∧jr bs p=alg (fun k=>(bs.getD k (0,0)).1) p
 | [],_=>⟨rfl,rfl⟩
 | s::p,hp=>by
  obtain ⟨i1,i2⟩:=low_fix h p fun t ht=>hp t (aD _ ht)
  obtain ⟨h1,h2⟩:=hp s (by simp);obtain ⟨h3,h4⟩:=h s.i h1;have e:bs.getD s.i (0,0)=bs[s.i]:=by rw [ah,gE h3];rfl
  have e1:iK bs (s::p)=lowS bs s+iK bs p:=rfl;have e2:jr bs (s::p)=lh bs s+jr bs p:=rfl;have f1:lowS bs s=if s.d=1 then bs[s.i].1 else -bs[s.i].2:=by unfold lowS;rw [gE h3]
  have f2:lh bs s=if s.d=1 then bs[s.i].2 else -bs[s.i].1:=by unfold lh;rw [gE h3]
  rw [e] at h4;rw [e1,e2,f1,f2,i1,i2];show _=s.d * (bs.getD s.i (0,0)).1+_∧_=s.d * (bs.getD s.i (0,0)).1+_;rw [e]
  rcases h2 with d1 | d1
  ·rw [d1,pO rfl,pO rfl];lia
  ·rw [d1,pN (by decide),pN (by decide)];lia
theorem sums_ring {bs:List (Int×Int)}{q:Nat×List Stp}(h:RK sp tk q)(O:OB sp tk bs)(fix:∀ k∈tk,(bs.getD k (0,0)).1=(bs.getD k (0,0)).2) :
  ∃ p,q.2=⟨q.1,1⟩::p∧Pth sp tk (sAt sp q.1).g (sAt sp q.1).s p∧iK bs q.2=(sAt sp q.1).l+alg (fun k=>(bs.getD k (0,0)).1) p∧jr bs q.2=(sAt sp q.1).o+alg (fun k=>(bs.getD k (0,0)).1) p:=by
 obtain ⟨p,e,P⟩:=h.way;have hk:=h.lt;have l:=O.len;obtain ⟨a1,a2⟩:=low_fix (bs:=bs) (tk:=p.map Stp.i) (fun k hk'=>by
  obtain ⟨s,hs,rfl⟩:=bt.mp hk';exact ⟨by rw [l];exact (P.inn s hs).2.1,fix _ (P.inn s hs).1⟩) p fun s hs=>⟨bt.mpr ⟨s,hs,rfl⟩,(P.inn s hs).2.2⟩
 have eb:=O.out q.1 hk h.out;have hb:q.1<bs.length:=by lia
 have e0:bs.getD q.1 (0,0)=bs[q.1]:=by rw [ah,gE hb];rfl
 refine ⟨p,e,P,?_,?_⟩
 ·rw [e,show iK bs (⟨q.1,1⟩::p)=lowS bs ⟨q.1,1⟩+iK bs p from rfl,a1]
  congr 1;unfold lowS;show (match bs[q.1]? with | some p=>if (1:Int)=1 then p.1 else -p.2 | none=>0)=_;rw [gE hb];show (if (1:Int)=1 then bs[q.1].1 else _)=_;rw [pO rfl,←e0,eb]
 ·rw [e,show jr bs (⟨q.1,1⟩::p)=lh bs ⟨q.1,1⟩+jr bs p from rfl,a2]
  congr 1;unfold lh;show (match bs[q.1]? with | some p=>if (1:Int)=1 then p.2 else -p.1 | none=>0)=_;rw [gE hb];show (if (1:Int)=1 then bs[q.1].2 else _)=_;rw [pO rfl,←e0,eb]
theorem beat_one {hi:Int}(hb:0<b)(h:upB b lo≤hi / b)(hw:hi - lo<b):upB b lo=hi / b∧lo≤b * upB b lo∧b * upB b lo≤hi:=by
 have e:=gJ (-lo) b;have r0:=gy (-lo) (by lia:b≠0);have r1:=gr (-lo) hb;have e':=gJ hi b;have r0':=gy hi (by lia:b≠0);have r1':=gr hi hb;unfold upB at h ⊢;generalize -lo / b=u at *;generalize hi / b=v at *;have m1:b * -u= -(b * u):=Int.mul_neg ..;have h2:b * -u≤b * v:=Int.mul_le_mul_of_nonneg_left h (by lia);refine ⟨?_,by lia,by lia⟩
 rcases Int.lt_or_le (-u) v with c | c
 ·have:b * (-u+1)≤b * v:=Int.mul_le_mul_of_nonneg_left (by lia) (by lia)
  rw [Int.mul_add,Int.mul_one] at this;lia
 ·lia
theorem alg_pot {sp:List Sn}{tk:List Nat}{y:Nat→Int}{π:Int→Int}(ht:∀ i∈tk,i<sp.length)(hπ:∀ i∈tk,π (sAt sp i).g - π (sAt sp i).s=y i):∀ (p:List Stp) (u z:Int),(∀ s∈p,s.i∈tk∧(s.d=1∨s.d= -1))→Along sp u p z→alg y p=π z - π u
 | [],u,z,_,a=>by
  have a:u=z:=a;subst a;show (0:Int)=_;lia
 | s::p,u,z,hp,a=>by
  obtain ⟨a1,a2⟩:=a;have ih:=alg_pot ht hπ p _ z (fun t h=>hp t (aD _ h)) a2;obtain ⟨h1,h2⟩:=hp s (by simp);obtain ⟨f1,f2,f3,f4⟩:=oP (ht s.i h1);have e:=hπ s.i h1;obtain ⟨i,d⟩:=s
  dsimp only at e f1 f2 f3 f4
  have h2:d=1∨d= -1:=h2;show d * y i+alg y p=_;rw [ih,←a1]
  rcases h2 with rfl | rfl
  ·rw [f1,f2];show 1 * y i+_=_;lia
  ·rw [f3,f4];show -1 * y i+_=_;lia
theorem rest_in {Y l Z:Int}(h0:l≤Y)(h1:Y<l+b):(Y - b * Z - l) % b=Y - l:=by
 rw [show Y - b * Z - l=(Y - l)+b * (-Z) by rw [Int.mul_neg];lia,kr];exact Int.emod_eq_of_lt (by lia) (by lia)
def FrstL (m:Nat)(sp:List Sn)(l:List Nat):Prop:=IsFor m sp (l.map fun (i:Nat)=>(i:Int))∧∃ π,Ordd sp π∧l.Perm (kd sp m π).2
theorem oJ:∀ {l k:List Nat},l.map (fun (i:Nat)=>(i:Int))=k.map (fun (i:Nat)=>(i:Int))→l=k
 | [],[],_=>rfl
 | [],_::_,h=>by cases h
 | _::_,[],h=>by cases h
 | a::l,b::k,h=>by
  rw [cg,cg] at h;injection h with h1 h2
  have h1:a=b:=by lia
  rw [h1,oJ h2]
theorem FrstL.one {k:List Nat}(a:FrstL m sp l)(b:FrstL m sp k):l=k:=oJ (IsFor.one a.1 b.1)
theorem FrstL.gd (E:j8 m sp)(a:FrstL m sp l):∃ gs tk,Gd m sp gs tk∧l.Perm tk∧∀ i,i<sp.length→tm gs (sAt sp i).s=tm gs (sAt sp i).g:=by
 obtain ⟨_,π,O,pm⟩:=a;refine ⟨(kd sp m π).1,(kd sp m π).2,Gd.fold E π _ _ (fun i hi=>O.lt hi) (Gd.start m sp),pm,fun i hi=>?_⟩;exact jL E π (iI m) [] (g9 _) (fun i hi=>O.lt hi) i (O.1.mem_iff.mpr (bT.mpr hi))
theorem FrstL.pots (E:j8 m sp)(a:FrstL m sp l):Pots sp l:=by
 obtain ⟨gs,tk,g,p,_⟩:=a.gd E;exact g.acy.pots.perm p
theorem FrstL.few (E:j8 m sp)(h:0<m)(a:FrstL m sp l):l.length<m:=by
 obtain ⟨gs,tk,g,p,_⟩:=a.gd E;rw [p.length_eq];exact g.few h
theorem FrstL.held (E:j8 m sp)(a:FrstL m sp l){k:Nat}(hk:k<sp.length):Held sp l (sAt sp k).s (sAt sp k).g:=by
 obtain ⟨gs,tk,g,p,me⟩:=a.gd E;obtain ⟨s0,s1,g0,g1⟩:=E _ (eM hk);exact (g.held _ _ s0 s1 g0 g1 (me k hk)).more fun i hi=>p.mem_iff.mpr hi
def restK (sp:List Sn)(tk:List Nat):List Nat:=(aK sp.length).filter fun k=> !(decide (k∈tk))
structure FR (m:Int)(sp:List Sn)(l:List Nat)(rg:List (Nat×List Stp)):Prop where
 fr:FrstL m.toNat sp l
 rk:∀ q∈rg,RK sp l q
 ks:rg.map (·.1)=restK sp l
theorem FR.ff {m:Int}{rg:List (Nat×List Stp)}(N:NetT b m sp)(a:FR m sp l rg):FF m sp l rg:=by
 have m1:=N.m1;refine ⟨a.fr.pots N.ends,by have:=a.fr.few N.ends (by lia);lia,a.rk,fun k hk hn=>?_,?_⟩
 ·have:k∈rg.map (·.1):=by
   rw [a.ks];exact b9.mpr ⟨bT.mpr hk,by rw [pR hn];rfl⟩
  obtain ⟨q,hq,rfl⟩:=bt.mp this;exact ⟨q.2,hq⟩
 ·rw [a.ks]
  exact hW.filter _
def wayQ (q:Nat×List Stp):Dt:=wayP q.2
def iS (k:Nat)(q:Nat×List Stp):Bool:=decide (k∈q.2.map Stp.i)
theorem Tb.lamT {T:ai}(h:L2.LamT T lp lq H)(e:L2.Tb T H H'):TupK H H':=Tb.tupK (LamT.tbl h) e
inductive spRingsO (T:ai)(lp:Pos)(lq:Str)(vs:List V)(H:Hp)(Q:VK)(_:XK):Prop
 | mk (v:V)(b m:Int)(sp:List Sn)(_:vs=[v])(_:IsD H v (kN b m sp))(_:NetT b m sp)(_:L2.LamT T lp lq H)(_:∀ (L:ai) (rl:List V) (l:List Nat) (rg:List (Nat×List Stp)) (H':Hp),L2.Tb T H H'→L2.LamT T lp lq H'→H L=none→H' L=some (.lst rl)→IsDs H' rl (rg.map wayQ)→FR m sp l rg→Q (.ref L) H')
inductive spOverR (vs:List V)(H:Hp)(Q:VK)(_:XK):Prop
 | mk (u:ai)(k:Nat)(rl:List V)(rg:List (Nat×List Stp))(_:vs=[.ref u,.int (k:Nat)])(_:H u=some (.lst rl))(_:IsDs H rl (rg.map wayQ))(_:rg.length≤40)(_:(∀ q∈rg,q.2.length≤1000))(_:∀ (L:ai) (rl':List V) (H':Hp),Same H H'→H L=none→H' L=some (.lst rl')→IsDs H' rl' ((rg.filter (iS k)).map wayQ)→Q (.ref L) H')
structure CsD (H:Hp)(c:ai)(bs:List (Int×Int))(rs:List (Nat×List Stp)):Prop where
 ex:∃ vb u rl,H c=some (.tup [vb,.ref u])∧IsD H vb (bndP bs)∧H u=some (.lst rl)∧IsDs H rl (rs.map wayQ)
theorem CsD.same {c:ai}{bs:List (Int×Int)}(a:CsD H c bs rs)(e:Same H H'):CsD H' c bs rs:=by
 obtain ⟨vb,u,rl,h1,h2,h3,h4⟩:=a.ex;exact ⟨vb,u,rl,e _ _ h1,h2.same e,e _ _ h3,h4.same e⟩
inductive spMid (vs:List V)(H:Hp)(Q:VK)(_:XK):Prop
 | mk (c:ai)(k:Nat)(bs:List (Int×Int))(rs:List (Nat×List Stp))(_:vs=[.ref c,.int (k:Nat)])(_:CsD H c bs rs)(_:k<bs.length)(_:Q (.int (((bs.getD k (0,0)).1+(bs.getD k (0,0)).2) / 2)) H)
inductive spDeadL (vs:List V)(H:Hp)(Q:VK)(_:XK):Prop
 | mk (v:V)(c:ai)(b m:Int)(sp:List Sn)(bs:List (Int×Int))(rs:List (Nat×List Stp))(_:vs=[v,.ref c])(_:IsD H v (kN b m sp))(_:0<b)(_:b<10 ^ 61)(_:CsD H c bs rs)(_:rs.length≤40)(_:(∀ q∈rs,WayIn bs.length q.2))(_:∀ r H',Same H H'→((r= .non∧∀ q∈rs,kK b bs q.2=false)∨∃ q∈rs,IsD H' r (leafP (.ring q.2))∧kK b bs q.2=true)→Q r H')
inductive Spr (sp:List Sn):List Stp→Prop where
 | nil:Spr sp []
 | snoc {S:List Stp} {s:Stp} (h:Spr sp S) (n:eE sp s≠kR sp s) (o:∀ t∈S,eE sp s≠eE sp t∧eE sp s≠kR sp t):Spr sp (S++[s])
structure SI (m:Nat)(sp:List Sn)(tk:List Nat)(ex:Int→Prop)(R A:List Int)(S:List Stp):Prop where
 rng:∀ r∈R,0≤r∧r<(m:Int)
 nd:R.Nodup
 ahd:∀ a∈A,a∈R
 inn:∀ s∈S,s.i∈tk∧(s.d=1∨s.d= -1)∧kR sp s∈R∧eE sp s∈R
 spr:Spr sp S
 len:S.length≤R.length
 clo:∀ z∈R,z ∉ A→¬ ex z→∀ s∈cX sp tk z,s.i∈S.map Stp.i
 con:∀ π:Int→Int,(∀ s∈S,π (kR sp s)=π (eE sp s))→∀ a c,(a∈A∨ex a)→(c∈A∨ex c)→π a=π c
def exN:Int→Prop:=fun _=>False
section
variable {R A:List Int}
theorem SI.start:SI m sp tk exN [] [] [] :=
 ⟨fun _ h=>(by cases h),jb,fun _ h=>(by cases h),fun _ h=>(by cases h),.nil,az _,fun _ h=>(by cases h),fun _ _ a c h=>(by rcases h with h | h;cases h;cases h)⟩
theorem SI.root {x:Int}(h:SI m sp tk exN R [] S)(hx:x ∉ R)(x0:0≤x)(x1:x<(m:Int)):SI m sp tk exN (R++[x]) [x] S:=by
 refine ⟨fun r hr=>?_,jd.mpr ⟨h.nd,by simp,fun a ha c hc e=>?_⟩,fun a ha=>ay _ ha,fun s hs=>?_,h.spr,by rw [av];exact Nat.le_succ_of_le h.len,fun z hz hn ex=>?_,fun π _ a c ha hc=>?_⟩
 ·rcases aG.mp hr with z | z
  ·exact h.rng r z
  ·rw [aw.mp z];exact ⟨x0,x1⟩
 ·rw [aw.mp hc] at e
  exact hx (e ▸ ha)
 ·obtain ⟨a,b,c,d⟩:=h.inn s hs
  exact ⟨a,b,aE _ c,aE _ d⟩
 ·rcases aG.mp hz with y | y
  ·exact h.clo z y (by simp) ex
  ·exact pP y hn
 ·rcases ha with ha | ha
  ·rcases hc with hc | hc
   ·rw [aw.mp ha,aw.mp hc]
   ·exact hc.elim
  ·exact ha.elim
theorem SI.pop {x:Int}(h:SI m sp tk exN R (A++[x]) S):SI m sp tk (· =x) R A S∧x∈R:=by
 refine ⟨⟨h.rng,h.nd,fun a ha=>h.ahd a (aE _ ha),h.inn,h.spr,h.len,fun z hz hn ex=>?_,fun π hπ a c ha hc=>?_⟩,h.ahd x (by simp)⟩
 ·refine h.clo z hz (fun y=>?_) id
  rcases aG.mp y with y | y
  ·exact hn y
  ·exact ex (aw.mp y)
 ·have up:∀ a:Int,(a∈A∨a=x)→a∈A++[x]∨exN a:=fun a ha=> .inl (ha.elim (fun z=>aE _ z) fun z=>by rw [z];simp)
  exact h.con π hπ a c (up a ha) (up c hc)
theorem mU {x:Int}{s:Stp}(h:s∈cX sp tk x):(s.i∈tk∧(s.d=1∨s.d= -1))∧kR sp s=x :=
 ⟨mem_stF (b9.mp h).1,pS (b9.mp h).2⟩
theorem oa {x:Int}{d:Int}(h:i∈tk)(hd:d=1∨d= -1)(e:kR sp ⟨i,d⟩=x):(⟨i,d⟩:Stp)∈cX sp tk x:=by
 refine b9.mpr ⟨?_,pQ e⟩;unfold stF
 rcases hd with rfl | rfl
 ·exact aE _ (bt.mpr ⟨i,h,rfl⟩)
 ·exact ay _ (bt.mpr ⟨i,h,rfl⟩)
theorem SI.add {x:Int}{s:Stp}(E:j8 m sp)(ht:∀ i∈tk,i<sp.length)(h:SI m sp tk (· =x) R A S)(hx:x∈R)(hs:s∈cX sp tk x)(hn:eE sp s ∉ R):SI m sp tk (· =x) (R++[eE sp s]) (A++[eE sp s]) (S++[s]):=by
 obtain ⟨⟨h1,h2⟩,h3⟩:=mU hs;refine ⟨fun r hr=>?_,jd.mpr ⟨h.nd,by simp,fun a ha c hc e=>?_⟩,fun a ha=>?_,fun t hT=>?_,.snoc h.spr (fun z=>hn (by rw [z,h3];exact hx)) (fun t hT=>⟨fun z=>hn (by rw [z];exact (h.inn t hT).2.2.2),fun z=>hn (by rw [z];exact (h.inn t hT).2.2.1)⟩),by rw [av,av];exact Nat.succ_le_succ h.len,fun z hz hz' ex t hT=>?_,fun π hπ=>?_⟩
 ·rcases aG.mp hr with z | z
  ·exact h.rng r z
  ·rw [aw.mp z];exact i7 E (ht _ h1)
 ·rw [aw.mp hc] at e
  exact hn (e ▸ ha)
 ·rcases aG.mp ha with z | z
  ·exact aE _ (h.ahd a z)
  ·exact ay _ z
 ·rcases aG.mp hT with z | z
  ·obtain ⟨a,b,c,d⟩:=h.inn t z
   exact ⟨a,b,aE _ c,aE _ d⟩
  ·rw [aw.mp z]
   exact ⟨h1,h2,aE _ (h3 ▸ hx),by simp⟩
 ·rw [aM]
  refine aE _ ?_
  rcases aG.mp hz with y | y
  ·exact h.clo z y (fun y'=>hz' (aE _ y')) ex t hT
  ·exact pP (ay _ y) hz'
 ·have old:∀ t∈S,π (kR sp t)=π (eE sp t):=fun t hT=>hπ t (aE _ hT)
  have new:π (eE sp s)=π x:=by rw [←hπ s (by simp),h3]
  have one:∀ a:Int,(a∈A++[eE sp s]∨a=x)→π a=π x:=fun a ha=>by
   rcases ha with ha | ha
   ·rcases aG.mp ha with z | z
    ·exact h.con π old a x (.inl z) (.inr rfl)
    ·rw [aw.mp z,new]
   ·rw [ha]
  exact fun a c ha hc=>(one a ha).trans (one c hc).symm
theorem SI.has {x:Int}{s:Stp}(P:Pots sp tk)(ne:∀ i∈tk,(sAt sp i).s≠(sAt sp i).g)(h:SI m sp tk (· =x) R A S)(hs:s∈cX sp tk x)(hn:eE sp s∈R):s.i∈S.map Stp.i:=by
 obtain ⟨⟨h1,h2⟩,h3⟩:=mU hs;have lt:=P.nodup.2 _ h1;obtain ⟨f1,f2,f3,f4⟩:=oP lt;have hne:=ne _ h1;obtain ⟨i,d⟩:=s;have h2:d=1∨d= -1:=h2;show i∈_;have h1:i∈tk:=h1;have f1:kR sp ⟨i,1⟩=(sAt sp i).s:=f1;have f2:eE sp ⟨i,1⟩=(sAt sp i).g:=f2;have f3:kR sp ⟨i,-1⟩=(sAt sp i).g:=f3;have f4:eE sp ⟨i,-1⟩=(sAt sp i).s:=f4;have hne:(sAt sp i).s≠(sAt sp i).g:=hne
 by_cases c:eE sp ⟨i,d⟩∈A
 ·refine gN fun no=>?_
  obtain ⟨π,hπ⟩:=P.pot fun k=>if k=i then 1 else 0
  have e:=h.con π (fun t hT=>by
   obtain ⟨t1,t2,_⟩:=h.inn t hT;have e:=hπ _ t1;rw [pN (fun z=>no (bt.mpr ⟨t,hT,z⟩))] at e;obtain ⟨g1,g2,g3,g4⟩:=oP (P.nodup.2 _ t1);obtain ⟨j,dj⟩:=t;have t2:dj=1∨dj= -1:=t2
   dsimp only at e g1 g2 g3 g4
   rcases t2 with rfl | rfl
   ·rw [g1,g2];lia
   ·rw [g3,g4];lia) _ x (.inl c) (.inr rfl)
  have y:=hπ i h1;rw [pO rfl] at y;rw [←h3] at e
  rcases h2 with rfl | rfl
  ·rw [f1,f2] at e
   dsimp only at e y
   lia
  ·rw [f3,f4] at e
   dsimp only at e y
   lia
 ·rcases h2 with rfl | rfl
  ·rw [f2] at hn c
   exact h.clo _ hn c (fun z=>hne (by rw [←f1,h3];exact z.symm)) ⟨i,-1⟩ (oa h1 (.inr rfl) f3)
  ·rw [f4] at hn c
   exact h.clo _ hn c (fun z=>hne (by rw [←f3,h3];exact z)) ⟨i,1⟩ (oa h1 (.inl rfl) f1)
theorem SI.done {x:Int}(h:SI m sp tk (· =x) R A S)(a:∀ s∈cX sp tk x,s.i∈S.map Stp.i):SI m sp tk exN R A S:=by
 refine ⟨h.rng,h.nd,h.ahd,h.inn,h.spr,h.len,fun z hz hn _=>?_,fun π hπ a c ha hc=>h.con π hπ a c (.inl (ha.elim id cI)) (.inl (hc.elim id cI))⟩
 by_cases e:z=x
 ·rw [e];exact a
 ·exact h.clo z hz hn e
theorem SI.few (h:SI m sp tk exN R A S):R.length≤m:=by
 have:=kA (k:=(aK m).map fun i:Nat=>(i:Int)) h.nd fun x hx=>by
  obtain ⟨a,b⟩:=h.rng x hx;exact bt.mpr ⟨x.toNat,bT.mpr (by lia),by lia⟩
 rwa [af,ba] at this
theorem SI.fewX {x:Int}(h:SI m sp tk (· =x) R A S):R.length≤m:=by
 have:=kA (k:=(aK m).map fun i:Nat=>(i:Int)) h.nd fun x hx=>by
  obtain ⟨a,b⟩:=h.rng x hx;exact bt.mpr ⟨x.toNat,bT.mpr (by lia),by lia⟩
 rwa [af,ba] at this
end
structure SprOk (m:Nat)(sp:List Sn)(tk:List Nat)(S:List Stp):Prop where
 spr:Spr sp S
 inn:∀ s∈S,s.i∈tk∧(s.d=1∨s.d= -1)
 all:∀ i∈tk,i∈S.map Stp.i
 len:S.length≤m
theorem SI.ok {R:List Int}(E:j8 m sp)(ht:∀ i∈tk,i<sp.length)(h:SI m sp tk exN R [] S)(a:∀ x:Nat,x<m→(x:Int)∈R):SprOk m sp tk S:=by
 refine ⟨h.spr,fun s hs=>⟨(h.inn s hs).1,(h.inn s hs).2.1⟩,fun i hi=>?_,aS h.len h.few⟩;obtain ⟨s0,s1,_,_⟩:=E _ (eM (ht i hi));obtain ⟨f1,_⟩:=oP (ht i hi);have:=a (sAt sp i).s.toNat (by lia);rw [show (((sAt sp i).s.toNat:Nat):Int)=(sAt sp i).s by lia] at this;exact h.clo _ this (by simp) id ⟨i,1⟩ (oa hi (.inl rfl) f1)
def setT (sp:List Sn)(y:Nat→Int)(ts:List Int)(s:Stp):List Int:=ts.set (eE sp s).toNat (tm ts (kR sp s)+s.d * y s.i)
def jP (sp:List Sn)(y:Nat→Int)(m:Nat)(S:List Stp):List Int:=S.foldl (setT sp y) (bF m 0)
theorem lI {sp:List Sn}{y:Nat→Int}{m:Nat}:∀ (S:List Stp) (ts:List Int),(S.foldl (setT sp y) ts).length=ts.length
 | [],_=>rfl
 | s::S,ts=>by
  rw [bP,lI (m:=m) S];exact gu
theorem lR {x v:Int}(x0:0≤x)(x1:x<ts.length)(z0:0≤z):tm (ts.set x.toNat v) z=if z=x then v else tm ts z:=by
 unfold tm;rw [ah,ah]
 by_cases e:z=x
 ·rw [pO e,e,dZ (by lia)];rfl
 ·rw [pN e,dN (by lia)]
theorem mE {s:Stp}(h:s.i<sp.length):too (sAt sp s.i) s.d=eE sp s∧frm (sAt sp s.i) s.d=kR sp s:=by
 have e:sAt sp s.i=sp[s.i]:=by unfold sAt;rw [ah,gE h];rfl
 rw [e];exact ⟨(ky h).symm,(mm h).symm⟩
theorem timesS_ok {y:Nat→Int}(E:j8 m sp)(h:Spr sp S):(∀ s∈S,s.i<sp.length)→∀ s∈S,tm (jP sp y m S) (eE sp s)=tm (jP sp y m S) (kR sp s)+s.d * y s.i:=by
 induction h with
 | nil=>exact fun _ s hs=>by cases hs
 | snoc h n o ih =>
  rename_i S s;intro hl t ht;have hl':∀ t∈S,t.i<sp.length:=fun t h'=>hl t (aE _ h')
  have frm_rng:∀ t:Stp,t.i<sp.length→0≤kR sp t:=fun t h'=>by
   have e:=(mE h').2;obtain ⟨a,b,c,d⟩:=E _ (eM h');rw [←e];unfold frm;split <;> lia
  have e:jP sp y m (S++[s])=setT sp y (jP sp y m S) s:=by unfold jP;rw [cx];rfl
  have hs:s.i<sp.length:=hl s (by simp);obtain ⟨x0,x1⟩:=i7 E hs;have len:(jP sp y m S).length=m:=by unfold jP;rw [lI (m:=m),gF]
  rw [e];unfold setT
  rcases aG.mp ht with z | z
  ·rw [lR x0 (by lia) (i7 E (hl' t z)).1,lR x0 (by lia) (frm_rng t (hl' t z)),pN (fun q=>(o t z).1 q.symm),pN (fun q=>(o t z).2 q.symm)]
   exact ih hl' t z
  ·rw [aw.mp z,lR x0 (by lia) x0,lR x0 (by lia) (frm_rng s hs),pO rfl,pN (fun q=>n q.symm)]
theorem SprOk.pot (E:j8 m sp)(ht:∀ i∈tk,i<sp.length)(h:SprOk m sp tk S)(y:Nat→Int):∀ i∈tk,tm (jP sp y m S) (sAt sp i).g - tm (jP sp y m S) (sAt sp i).s=y i:=fun i hi=>by
 obtain ⟨s,hs,rfl⟩:=bt.mp (h.all i hi);have e:=timesS_ok (y:=y) E h.spr (fun t hT=>ht _ (h.inn t hT).1) s hs;obtain ⟨f1,f2,f3,f4⟩:=oP (ht _ hi);have hd:=(h.inn s hs).2;obtain ⟨i,d⟩:=s
 dsimp only at e f1 f2 f3 f4 hd ⊢
 rcases hd with rfl | rfl
 ·rw [f1,f2] at e;lia
 ·rw [f3,f4] at e;lia
def lowB (bs:List (Int×Int))(k:Nat):Int:=(bs.getD k (0,0)).1
def tabOf (b:Int)(sp:List Sn)(bs:List (Int×Int))(m:Nat)(S:List Stp):List Int:=(jP sp (lowB bs) m S).map (· % b)
abbrev Cse:=List (Int×Int)×List (Nat×List Stp)
def wdB (bs:List (Int×Int))(k:Nat):Nat:=((bs.getD k (0,0)).2 - (bs.getD k (0,0)).1+1).toNat
def prdN:List Nat→Nat
 | []=>1
 | x::l=>x * prdN l
def jC (bs:List (Int×Int))(l:List Nat):Nat:=prdN (l.map (wdB bs))
theorem oy {f g:Nat→Nat}:∀ (l:List Nat),(∀ j∈l,f j=g j)→prdN (l.map f)=prdN (l.map g)
 | [],_=>rfl
 | j::l,h=>by
  show f j * _=g j * _;rw [h j (by simp),oy l fun i hi=>h i (aD _ hi)]
theorem pE {f g h:Nat→Nat}{k:Nat}(e:f k=g k+h k):∀ (l:List Nat),l.Nodup→k∈l→(∀ j∈l,j≠k→f j=g j∧f j=h j)→prdN (l.map f)=prdN (l.map g)+prdN (l.map h)
 | [],_,hk,_=>pP hk (by simp)
 | j::l,nd,hk,hh=>by
  rw [bz] at nd;show f j * _=g j * _+h j * _
  by_cases c:j=k
  ·subst c
   have ne:∀ i∈l,i≠j:=fun i hi z=>nd.1 (z ▸ hi)
   rw [←oy (f:=f) (g:=g) l fun i hi=>(hh i (aD _ hi) (ne i hi)).1,←oy (f:=f) (g:=h) l fun i hi=>(hh i (aD _ hi) (ne i hi)).2,e,Nat.add_mul]
  ·obtain ⟨a1,a2⟩:=hh j (by simp) c
   rw [pE e l nd.2 ((aF.mp hk).resolve_left fun z=>c z.symm) fun i hi=>hh i (aD _ hi),Nat.mul_add,←a1,←a2]
theorem prdN_pos {f:Nat→Nat}:∀ (l:List Nat),(∀ j∈l,0<f j)→0<prdN (l.map f)
 | [],_=>Nat.one_pos
 | j::l,h=>Nat.mul_pos (h j (by simp)) (prdN_pos l fun i hi=>h i (aD _ hi))
theorem kh {bs:List (Int×Int)}(O:OB sp l bs)(hl:∀ k∈l,k<sp.length):0<jC bs l:=prdN_pos l fun j hj=>by
 have:=O.lo j (hl j hj);unfold wdB;lia
theorem ow {bs:List (Int×Int)}{k:Nat}{a:Int}(O:OB sp l bs)(nd:l.Nodup)(hl:∀ k∈l,k<sp.length)(hk:k∈l)(h1:(bs.getD k (0,0)).1≤a)(h2:a<(bs.getD k (0,0)).2):jC bs l=jC (o8 bs k a) l+jC (gX bs k a) l:=by
 have hb:=O.len;have hkl:=hl k hk;refine pE ?_ l nd hk fun j hj hn=>?_
 ·unfold wdB o8 gX
  rw [ka (by lia),ka (by lia),pO rfl,pO rfl];show _=(a - _+1).toNat+(_ - (a+1)+1).toNat;lia
 ·have hjl:=hl j hj
  unfold wdB o8 gX;rw [ka (by lia),ka (by lia),pN (cn hn),pN (cn hn)];exact ⟨rfl,rfl⟩
theorem l7 {sp:List Sn}:∀ (l:List Nat),(∀ k∈l,k<sp.length)→(∀ x∈sp,x.l≤x.o)→((jC (sp.map fun x=>(x.l,x.o)) l:Nat):Int)=jg sp l
 | [],_,_=>rfl
 | k::l,h,p=>by
  have ih:=l7 l (fun j hj=>h j (aD _ hj)) p;rw [fG,←ih];show ((wdB _ k * jC _ l:Nat):Int)=_;have hk:=h k (by simp);have e:(sp.map fun x=>(x.l,x.o)).getD k (0,0)=((sAt sp k).l,(sAt sp k).o):=by rw [ah,ax,ju hk];rfl
  have q:=p _ (eM hk);have e2:((wdB (sp.map fun x=>(x.l,x.o)) k:Nat):Int)=(wkey sp k).1+1:=by
   unfold wdB;rw [e];show (((sAt sp k).o - (sAt sp k).l+1).toNat:Int)=(sAt sp k).o - (sAt sp k).l+1;lia
  rw [←e2];exact Int.natCast_mul _ _
structure CaseOk (b:Int)(sp:List Sn)(l:List Nat)(rg:List (Nat×List Stp))(c:Cse):Prop where
 ob:OB sp l c.1
 sub:∀ q∈c.2,q∈rg
 few:c.2.length≤40
 alive:∀ q∈rg,q ∉ c.2→kK b c.1 q.2=false
theorem low_set {bs:List (Int×Int)}{k:Nat}{x:Int×Int}:∀ (ws:List Stp),k ∉ ws.map Stp.i→iK (bs.set k x) ws=iK bs ws∧jr (bs.set k x) ws=jr bs ws
 | [],_=>⟨rfl,rfl⟩
 | s::ws,h=>by
  obtain ⟨i1,i2⟩:=low_set (x:=x) ws fun z=>h (aD _ z)
  have hs:k≠s.i:=fun z=>h (by rw [z];simp)
  have e:(bs.set k x)[s.i]? =bs[s.i]? := dN hs
  constructor
  ·show lowS _ s+iK _ ws=lowS _ s+iK _ ws
   rw [i1];congr 1;unfold lowS;rw [e]
  ·show lh _ s+jr _ ws=lh _ s+jr _ ws
   rw [i2];congr 1;unfold lh;rw [e]
theorem dead_set {bs:List (Int×Int)}{k:Nat}{x:Int×Int}{q:Nat×List Stp}(h:iS k q=false):kK b (bs.set k x) q.2=kK b bs q.2:=by
 obtain ⟨a1,a2⟩:=low_set (bs:=bs) (x:=x) q.2 (of_decide_eq_false h);unfold kK;rw [a1,a2]
theorem CaseOk.cut {rg:List (Nat×List Stp)}{c:Cse}(C:CaseOk b sp l rg c)(lrg:rg.length≤40)(hl:∀ k∈l,k<sp.length)(al:∀ q∈c.2,kK b c.1 q.2=false){k:Nat}{a:Int}(hk:k∈l)(h1:(c.1.getD k (0,0)).1≤a)(h2:a<(c.1.getD k (0,0)).2) :
  CaseOk b sp l rg (gX c.1 k a,rg.filter (iS k))∧CaseOk b sp l rg (o8 c.1 k a,rg.filter (iS k)):=by
 have sub:∀ q∈rg.filter (iS k),q∈rg:=fun q hq=>(b9.mp hq).1
 have few:(rg.filter (iS k)).length≤40:=aS (dG _ _) lrg;have all:∀ q∈rg,kK b c.1 q.2=false:=fun q hq=>by
  by_cases z:q∈c.2
  ·exact al q z
  ·exact C.alive q hq z
 have out:∀ q∈rg,q ∉ rg.filter (iS k)→iS k q=false:=fun q hq hn=>jf.mpr fun z=>hn (b9.mpr ⟨hq,z⟩)
 exact ⟨⟨C.ob.other hk (hl k hk) h1 h2,sub,few,fun q hq hn=>(dead_set (out q hq hn)).trans (all q hq)⟩,⟨C.ob.one hk (hl k hk) h1 h2,sub,few,fun q hq hn=>(dead_set (out q hq hn)).trans (all q hq)⟩⟩
theorem dead_none {bs:List (Int×Int)}(hb:0<b)(hl:bs.length=sp.length)(h:InB (mh b ts sp) bs)(hr:Rg sp ws):kK b bs ws=false:=by
 obtain ⟨Z,_,z1,z2⟩:=ring_in hb hl h hr;unfold kK;exact pR (by lia)
theorem key_pot {m:Int}{rg:List (Nat×List Stp)}{bs:List (Int×Int)}(N:NetT b m sp)(f:FF m sp tk rg)(O:OB sp tk bs)(x:Fx b tk rg bs){π:Int→Int}(hπ:∀ i∈tk,π (sAt sp i).g - π (sAt sp i).s=(bs.getD i (0,0)).1)
  (eW:∀ k,k<sp.length→jq b ts (sAt sp k)=(π (sAt sp k).g - π (sAt sp k).s - (sAt sp k).l) % b):∀ k,k<sp.length→(bs.getD k (0,0)).1≤mh b ts sp k∧mh b ts sp k≤(bs.getD k (0,0)).2:=fun k hk=>by
 have hb:0<b:=by have:=N.b1;lia
 obtain ⟨ht1,ht2⟩:=f.acy.nodup;have s:=N.all _ (eM hk);have lo:=O.lo k hk;have lay:mh b ts sp k=(sAt sp k).l+jq b ts (sAt sp k):=by unfold mh;rw [ju hk]
 rw [lay];have fin:∀ Y,jq b ts (sAt sp k)=Y - (sAt sp k).l→(bs.getD k (0,0)).1≤Y→Y≤(bs.getD k (0,0)).2→(bs.getD k (0,0)).1≤(sAt sp k).l+jq b ts (sAt sp k)∧(sAt sp k).l+jq b ts (sAt sp k)≤(bs.getD k (0,0)).2:=fun Y e y1 y2=>by lia
 by_cases c:k∈tk
 ·have e:=hπ k c
  have fx:=x.fix k c;refine fin (bs.getD k (0,0)).1 ?_ (gp _) (by lia);rw [eW k hk,show π (sAt sp k).g - π (sAt sp k).s - (sAt sp k).l=(bs.getD k (0,0)).1 - b * 0 - (sAt sp k).l by rw [Int.mul_zero];lia];exact rest_in lo.1 (by have:=s.ob;lia)
 ·obtain ⟨r,hr⟩:=f.all k hk c
  have K:=f.rk _ hr;obtain ⟨p,e,P,e1,e2⟩:=sums_ring K O x.fix;have al:=x.alive _ hr;have al:¬ (upB b (iK bs r) > jr bs r / b):=by unfold kK at al;simpa using al
  obtain ⟨_,z1,z2⟩:=beat_one hb (lo:=iK bs r) (hi:=jr bs r) (by lia) (by
   have e1:iK bs r=_:=e1;have e2:jr bs r=_:=e2;have:=s.ob;rw [e1,e2];show (sAt sp k).o+_ - ((sAt sp k).l+_)<b;lia)
  have ea:=alg_pot ht2 hπ p _ _ (fun s hs=>⟨(P.inn s hs).1,(P.inn s hs).2.2⟩) P.alo;have e1:iK bs r=(sAt sp k).l+alg (fun k=>(bs.getD k (0,0)).1) p:=e1;have e2:jr bs r=(sAt sp k).o+alg (fun k=>(bs.getD k (0,0)).1) p:=e2;have ea:alg (fun k=>(bs.getD k (0,0)).1) p=π (sAt sp k).s - π (sAt sp k).g:=ea;have eo:=O.out k hk c;rw [eo] at fin ⊢;refine fin (b * upB b (iK bs r) - alg (fun k=>(bs.getD k (0,0)).1) p) ?_ (by show (sAt sp k).l≤_;lia) (by show _≤(sAt sp k).o;lia);rw [eW k hk];have hs:=s.ob;have:=rest_in (b:=b) (Y:=b * upB b (iK bs r) - alg (fun k=>(bs.getD k (0,0)).1) p) (l:=(sAt sp k).l) (Z:=upB b (iK bs r)) (by lia) (by lia);rw [←this];congr 1;lia
theorem fits_lay {m:Int}(h:∀ k,k<sp.length→mh b ts sp k≤(sAt sp k).o):kT b ts sp=true:=by
 unfold kT;rw [fE,gH];intro s hs;obtain ⟨k,hk,rfl⟩:=bM hs;have eA:sAt sp k=sp[k]:=by unfold sAt;rw [ah,gE hk];rfl
 have:=h k hk;have lay:mh b ts sp k=(sAt sp k).l+jq b ts (sAt sp k):=by unfold mh;rw [ju hk]
 rw [lay,eA] at this;unfold brk;rw [pR (by lia)];exact aV
structure Kp (H H':Hp):Prop where
 tup:TupK H H'
 lst:∀ q xs,H q=some (.lst xs)→H' q=some (.lst xs)
 frz:∀ q o xs,H q=some (.frz o (.lst xs))→H' q=some (.frz o (.lst xs))
theorem Same.kp (e:Same H H'):Kp H H':=⟨fun _ _ h=>e _ _ h,fun _ _ h=>e _ _ h,fun _ _ _ h=>e _ _ h⟩
theorem Kp.trans (a:Kp H H1)(b:Kp H1 H2):Kp H H2:=⟨fun _ _ h=>b.tup _ _ (a.tup _ _ h),fun _ _ h=>b.lst _ _ (a.lst _ _ h),fun _ _ _ h=>b.frz _ _ _ (a.frz _ _ _ h)⟩
theorem Tb.kp {T:ai}(h:L2.LamT T lp lq H)(e:L2.Tb T H H'):Kp H H':=by
 obtain ⟨ps,hT⟩:=LamT.tbl h;exact ⟨fun q _ h=>e q _ (eV h hT nofun) h,fun q _ h=>e q _ (eV h hT nofun) h,fun q _ _ h=>e q _ (eV h hT nofun) h⟩
theorem Kp.upd {x:ai}{fs:List (Str×V)}(h:H x=some (.ins C dx fs)):Kp H (upd H x o) :=
 ⟨fun q _ hq=>by rw [aZ (eV hq h nofun)];exact hq,fun q _ hq=>by rw [aZ (eV hq h nofun)];exact hq,fun q _ _ hq=>by rw [aZ (eV hq h nofun)];exact hq⟩
theorem LamT.ntb {T U:ai}{lp':Pos}{lq':Str}(h:L2.LamT T lp lq H)(hU:L2.LamT U lp' lq' H)(ne:T≠U)(e:L2.Tb U H H'):L2.LamT T lp lq H':=by
 obtain ⟨ps,hT⟩:=LamT.tbl hU
 rcases h with h | ⟨c,h,oc,vs,t,e1,r⟩
 ·exact .inl (e _ _ ne h)
 ·exact .inr ⟨c,e _ _ ne h,oc,vs,t,e _ _ (eV e1 hT nofun) e1,r⟩
theorem lO {T x:ai}{fs:List (Str×V)}(h:L2.LamT T lp lq H)(hx:H x=some (.ins C dx fs)):L2.LamT T lp lq (L2.upd H x o):=LamT.upd h (fun p u z=>by rw [hx] at z;cases z) (fun ps z=>by rw [hx] at z;cases z)
theorem wayQ_kp {rl:List V}(e:Kp H H')(h:IsDs H rl (rs.map wayQ)):IsDs H' rl (rs.map wayQ):=IsDs.keepP e.tup h (oz rs fun q _=>pl_rows _ _)
theorem CsD.kp {c:ai}{bs:List (Int×Int)}(a:CsD H c bs rs)(e:Kp H H'):CsD H' c bs rs:=by
 obtain ⟨vb,u,rl,h1,h2,h3,h4⟩:=a.ex;exact ⟨vb,u,rl,e.tup _ _ h1,IsD.keepP e.tup h2 (pl_rows _ _),e.lst _ _ h3,wayQ_kp e h4⟩
structure TchD (H:Hp)(tl:ai)(n:Nat)(rg:List (Nat×List Stp)):Prop where
 ex:∃ tv,H tl=some (.lst tv)∧tv.length=n∧∀ k,k<n→∃ u rl,tv[k]? =some (.ref u)∧H u=some (.lst rl)∧IsDs H rl ((rg.filter (iS k)).map wayQ)
theorem TchD.kp {tl:ai}{rg:List (Nat×List Stp)}(a:TchD H tl n rg)(e:Kp H H'):TchD H' tl n rg:=by
 obtain ⟨tv,h1,h2,h3⟩:=a.ex;refine ⟨tv,e.lst _ _ h1,h2,fun k hk=>?_⟩;obtain ⟨u,rl,a1,a2,a3⟩:=h3 k hk;exact ⟨u,rl,a1,e.lst _ _ a2,wayQ_kp e a3⟩
structure CutD (H:Hp)(C x:ai)(sp:List Sn)(l:List Nat)(rg:List (Nat×List Stp)):Prop where
 ex:∃ (dx c0 tl ol:ai) (ord:List Nat),H x=some (.ins C dx [("first_case",.ref c0),("touched",.ref tl),("order",.ref ol)])∧CsD H c0 (sp.map fun z=>(z.l,z.o)) rg∧TchD H tl sp.length rg∧H ol=some (.lst (ord.map fun (i:Nat)=>V.int i))∧ord.Perm l
theorem CutD.same {x:ai}{rg:List (Nat×List Stp)}(a:CutD H C x sp l rg)(e:Same H H'):CutD H' C x sp l rg:=by
 obtain ⟨dx,c0,tl,ol,ord,h1,h2,h3,h4,h5⟩:=a.ex;exact ⟨dx,c0,tl,ol,ord,e _ _ h1,h2.same e,h3.kp (Same.kp e),e _ _ h4,h5⟩
structure CsE (Hb H:Hp)(c:ai)(bs:List (Int×Int))(rs:List (Nat×List Stp)):Prop where
 ex:∃ vb u rl,H c=some (.tup [vb,.ref u])∧IsD H vb (bndP bs)∧Hb u=some (.lst rl)∧IsDs Hb rl (rs.map wayQ)
theorem CsE.dn {Hb:Hp}{c:ai}{bs:List (Int×Int)}(a:CsE Hb H c bs rs)(e:Same Hb H):CsD H c bs rs:=by
 obtain ⟨vb,u,rl,h1,h2,h3,h4⟩:=a.ex;exact ⟨vb,u,rl,h1,h2,e _ _ h3,h4.same e⟩
theorem CsE.keep {Hb:Hp}{c:ai}{bs:List (Int×Int)}(a:CsE Hb H c bs rs)(e:TupK H H'):CsE Hb H' c bs rs:=by
 obtain ⟨vb,u,rl,h1,h2,h3,h4⟩:=a.ex;exact ⟨vb,u,rl,e _ _ h1,IsD.keepP e h2 (pl_rows _ _),h3,h4⟩
inductive spInitC (T0:ai)(p0:Pos)(q0:Str)(T1:ai)(p1:Pos)(q1:Str)(C:ai)(vs:List V)(H:Hp)(Q:VK)(_:XK):Prop
 | mk (x dx:ai)(v:V)(b m:Int)(sp:List Sn)(_:vs=[.ref x,v])(_:H x=some (.ins C dx []))(_:IsD H v (kN b m sp))(_:NetT b m sp)(_:L2.LamT T0 p0 q0 H)(_:L2.LamT T1 p1 q1 H)(_:∀ (l:List Nat) (rg:List (Nat×List Stp)) (H':Hp),(∀ a o,a≠T0→a≠T1→a≠x→H a=some o→H' a=some o)→Kp H H'→L2.LamT T0 p0 q0 H'→L2.LamT T1 p1 q1 H'→FR m sp l rg→CutD H' C x sp l rg→Q .non H')
inductive spSpanC (C:ai)(vs:List V)(H:Hp)(Q:VK)(_:XK):Prop
 | mk (x c:ai)(sp:List Sn)(l:List Nat)(rg rs:List (Nat×List Stp))(bs:List (Int×Int))(_:vs=[.ref x,.ref c])(_:CutD H C x sp l rg)(_:CsD H c bs rs)(_:(∀ k∈l,k<bs.length))(_:l.length≤40)(_:((∀ k∈l,¬ ((bs.getD k (0,0)).1<(bs.getD k (0,0)).2))→Q .non H))(_:∀ k∈l,(bs.getD k (0,0)).1<(bs.getD k (0,0)).2→Q (.int (k:Nat)) H)
inductive spSidesC (C:ai)(vs:List V)(H:Hp)(Q:VK)(_:XK):Prop
 | mk (Hb:Hp)(x c:ai)(k:Nat)(a:Int)(sp:List Sn)(l:List Nat)(rg rs:List (Nat×List Stp))(bs:List (Int×Int))(_:vs=[.ref x,.ref c,.int (k:Nat),.int a])(_:Same Hb H)(_:CutD Hb C x sp l rg)(_:CsD H c bs rs)(_:k<bs.length)(_:bs.length=sp.length)(_:bs.length≤40)(_:∀ (L q1 q2:ai) (H':Hp),Same H H'→H L=none→H' L=some (.lst [.ref q1,.ref q2])→CsE Hb H' q1 (gX bs k a) (rg.filter (iS k))→CsE Hb H' q2 (o8 bs k a) (rg.filter (iS k))→Q (.ref L) H')
theorem ord_perm (h:π.Perm (aK l.length)):(π.map fun i=>l.getD i 0).Perm l:=by
 have e:(aK l.length).map (fun i=>l.getD i 0)=l:=by
  refine List.ext_getElem (by rw [af,ba]) fun i h1 h2=>?_
  rw [ib,iQ,ah,gE h2];rfl
 have:=h.map (fun i=>l.getD i 0)
 rwa [e] at this
theorem tm_mod {x:Int}:tm (ts.map (· % b)) x=tm ts x % b:=by
 unfold tm;rw [ah,ah,ax];cases ts[x.toNat]? with
 | none=>exact (Int.zero_emod b).symm
 | some y=>rfl
def oX (b m:Int)(sp:List Sn)(t:List Int):Prop:=t.length=m.toNat∧(∀ x∈t,0≤x∧x<b)∧kT b t sp=true
theorem tab_ok {m:Int}{rg:List (Nat×List Stp)}{bs:List (Int×Int)}(N:NetT b m sp)(f:FF m sp l rg)(O:OB sp l bs)(x:Fx b l rg bs)(h:SprOk m.toNat sp l S) :
  oX b m sp (tabOf b sp bs m.toNat S)∧∀ k,k<sp.length→(bs.getD k (0,0)).1≤mh b (tabOf b sp bs m.toNat S) sp k∧mh b (tabOf b sp bs m.toNat S) sp k≤(bs.getD k (0,0)).2:=by
 have hb:0<b:=by have:=N.b1;lia
 have ht2:=f.acy.nodup.2;have key:=key_pot N f O x (ts:=tabOf b sp bs m.toNat S) (π:=tm (jP sp (lowB bs) m.toNat S)) (fun i hi=>h.pot N.ends ht2 (lowB bs) i hi) fun k hk=>by
  unfold jq tabOf;rw [tm_mod,tm_mod,rest_two]
 refine ⟨⟨?_,fun y hy=>?_,fits_lay (m:=m) fun k hk=>?_⟩,key⟩
 ·unfold tabOf jP
  rw [af,lI (m:=0),gF]
 ·obtain ⟨z,_,rfl⟩:=bt.mp hy
  exact ⟨gy _ (by lia),gr _ hb⟩
 ·have:=key k hk
  have:=(O.lo k hk).2.2;lia
def psC (l:List Nat):List Cse→Nat
 | []=>0
 | c::cs=>jC c.1 l+psC l cs
theorem oq (l:List Nat):∀ (cs ds:List Cse),psC l (cs++ds)=psC l cs+psC l ds
 | [],ds=>(Nat.zero_add _).symm
 | c::cs,ds=>by
  show _+psC l (cs++ds)=_+psC l cs+psC l ds;rw [oq l cs ds];lia
structure SrcI (b m:Int)(sp:List Sn)(l:List Nat)(rg:List (Nat×List Stp))(cs:List Cse)(Ts:List (List Int)):Prop where
 ok:∀ c∈cs,CaseOk b sp l rg c
 tabs:∀ t∈Ts,oX b m sp t
 hold:∀ T,kT b T sp=true→(∃ t∈Ts,∀ k∈l,mh b t sp k=mh b T sp k)∨∃ c∈cs,InB (mh b T sp) c.1
 cnt:Ts.length+psC l cs≤jC (sp.map fun x=>(x.l,x.o)) l
def szC (l:List Nat):List Cse→Nat
 | []=>0
 | c::cs=>(2 * jC c.1 l - 1)+szC l cs
theorem szC_app (l:List Nat):∀ (cs ds:List Cse),szC l (cs++ds)=szC l cs+szC l ds
 | [],ds=>(Nat.zero_add _).symm
 | c::cs,ds=>by
  show _+szC l (cs++ds)=_+szC l cs+szC l ds;rw [szC_app l cs ds];lia
section
variable {m:Int}{rg:List (Nat×List Stp)}{cs:List Cse}{c:Cse}
theorem szC_len (hl:∀ k∈l,k<sp.length):∀ (cs:List Cse),(∀ c∈cs,CaseOk b sp l rg c)→cs.length≤szC l cs
 | [],_=>az _
 | c::cs,h=>by
  have ih:=szC_len hl cs fun d hd=>h d (aD _ hd)
  have:=kh (h c (by simp)).ob hl;show cs.length+1≤2 * jC c.1 l - 1+szC l cs;lia
theorem SrcI.start (N:NetT b m sp)(hl:rg.length≤40):SrcI b m sp l rg [(sp.map fun x=>(x.l,x.o),rg)] []:=by
 have hb:0<b:=by have:=N.b1;lia
 refine ⟨fun c hc=>?_,fun t h=>pP h (by simp),fun T hT=> .inr ⟨_,aw.mpr rfl,lay_in hb hT⟩,by show 0+(jC (sp.map fun x=>(x.l,x.o)) l+0)≤_;lia⟩;rw [aw.mp hc];exact ⟨OB.first N l,fun q hq=>hq,hl,fun q hq hn=>pP hq hn⟩
theorem SrcI.dead (N:NetT b m sp)(f:FF m sp l rg)(I:SrcI b m sp l rg (cs++[c]) Ts){q:Nat×List Stp}(hq:q∈c.2)(hd:kK b c.1 q.2=true):SrcI b m sp l rg cs Ts:=by
 have hb:0<b:=by have:=N.b1;lia
 have C:=I.ok c (by simp);refine ⟨fun d hd=>I.ok d (aE _ hd),I.tabs,fun T hT=>?_,by have:=I.cnt;rw [oq] at this;lia⟩
 rcases I.hold T hT with h | ⟨d,h1,h2⟩
 ·exact .inl h
 ·rcases aG.mp h1 with z | z
  ·exact .inr ⟨d,z,h2⟩
  ·rw [aw.mp z] at h2
   have:=f.few;have m2:=N.m2;rw [dead_none hb C.ob.len h2 ((f.rk q (C.sub q hq)).rg N (by lia))] at hd;cases hd
theorem CaseOk.all (C:CaseOk b sp l rg c)(al:∀ q∈c.2,kK b c.1 q.2=false):∀ q∈rg,kK b c.1 q.2=false:=fun q hq=>by
 by_cases z:q∈c.2
 ·exact al q z
 ·exact C.alive q hq z
theorem SrcI.leaf (N:NetT b m sp)(f:FF m sp l rg)(h:SprOk m.toNat sp l S)(I:SrcI b m sp l rg (cs++[c]) Ts)(al:∀ q∈c.2,kK b c.1 q.2=false)(fx:∀ k∈l,¬ ((c.1.getD k (0,0)).1<(c.1.getD k (0,0)).2)):SrcI b m sp l rg cs (Ts++[tabOf b sp c.1 m.toNat S]):=by
 have C:=I.ok c (by simp);have ht2:=f.acy.nodup.2;have fix:∀ k∈l,(c.1.getD k (0,0)).1=(c.1.getD k (0,0)).2:=fun k hk=>by
  have:=(C.ob.lo k (ht2 k hk)).2.1;have:=fx k hk;lia
 obtain ⟨t1,t2⟩:=tab_ok N f C.ob ⟨fix,C.all al⟩ h;have pc:=kh C.ob ht2;refine ⟨fun d hd=>I.ok d (aE _ hd),fun t ht=>?_,fun T hT=>?_,by have:=I.cnt;rw [oq] at this;have e:psC l [c]=jC c.1 l+0:=rfl;rw [av];show Ts.length+1+_≤_;lia⟩
 ·rcases aG.mp ht with z | z
  ·exact I.tabs t z
  ·rw [aw.mp z];exact t1
 ·rcases I.hold T hT with ⟨t,h1,h2⟩ | ⟨d,h1,h2⟩
  ·exact .inl ⟨t,aE _ h1,h2⟩
  ·rcases aG.mp h1 with z | z
   ·exact .inr ⟨d,z,h2⟩
   ·rw [aw.mp z] at h2
    refine .inl ⟨_,ay _ (aw.mpr rfl),fun k hk=>?_⟩;have a1:=t2 k (ht2 k hk);have a2:=h2 k (by rw [C.ob.len];exact ht2 k hk);have a3:=fix k hk;lia
theorem SrcI.cut (N:NetT b m sp)(f:FF m sp l rg)(lrg:rg.length≤40)(I:SrcI b m sp l rg (cs++[c]) Ts)(al:∀ q∈c.2,kK b c.1 q.2=false){k:Nat}{a:Int}(hk:k∈l)(h1:(c.1.getD k (0,0)).1≤a)(h2:a<(c.1.getD k (0,0)).2) :
  SrcI b m sp l rg (cs++[(gX c.1 k a,rg.filter (iS k)),(o8 c.1 k a,rg.filter (iS k))]) Ts∧szC l (cs++[(gX c.1 k a,rg.filter (iS k)),(o8 c.1 k a,rg.filter (iS k))])<szC l (cs++[c]):=by
 have C:=I.ok c (by simp);have ht2:=f.acy.nodup.2;obtain ⟨o1,o2⟩:=C.cut lrg ht2 al hk h1 h2;refine ⟨⟨fun d hd=>?_,I.tabs,fun T hT=>?_,?_⟩,?_⟩
 ·rcases aG.mp hd with z | z
  ·exact I.ok d (aE _ z)
  ·rcases aF.mp z with rfl | z
   ·exact o1
   ·rw [aw.mp z];exact o2
 ·rcases I.hold T hT with h | ⟨d,d1,d2⟩
  ·exact .inl h
  ·rcases aG.mp d1 with z | z
   ·exact .inr ⟨d,aE _ z,d2⟩
   ·rw [aw.mp z] at d2
    by_cases e:mh b T sp k≤a
    ·exact .inr ⟨(o8 c.1 k a,rg.filter (iS k)),by simp,inB_one d2 e⟩
    ·exact .inr ⟨(gX c.1 k a,rg.filter (iS k)),by simp,inB_other d2 (by lia)⟩
 ·have h0:=I.cnt
  rw [oq] at h0 ⊢;have e:=ow C.ob f.acy.nodup.1 ht2 hk h1 h2;have e1:psC l [c]=jC c.1 l+0:=rfl;have e2:psC l [(gX c.1 k a,rg.filter (iS k)),(o8 c.1 k a,rg.filter (iS k))]=jC (gX c.1 k a) l+(jC (o8 c.1 k a) l+0):=rfl;lia
 ·rw [szC_app,szC_app]
  show _+((2 * jC (gX c.1 k a) l - 1)+((2 * jC (o8 c.1 k a) l - 1)+0))<_+((2 * jC c.1 l - 1)+0);have p1:=kh o1.ob ht2;have p2:=kh o2.ob ht2;have e:=ow C.ob f.acy.nodup.1 ht2 hk h1 h2;have p1:0<jC (gX c.1 k a) l:=p1;have p2:0<jC (o8 c.1 k a) l:=p2;lia
theorem SrcI.less (f:FF m sp l rg)(I:SrcI b m sp l rg (cs++[c]) Ts):szC l cs<szC l (cs++[c]):=by
 have:=kh (I.ok c (by simp)).ob f.acy.nodup.2;rw [szC_app];show _<_+((2 * jC c.1 l - 1)+0);lia
end
def CsL (Hb Hc:Hp):List V→List Cse→Prop:=jH fun v c=>∃ q,v= .ref q∧CsE Hb Hc q c.1 c.2
theorem CsL.keep {Hb Hd:Hp}(e:TupK Hc Hd){cs:List Cse}(h:CsL Hb Hc zs cs):CsL Hb Hd zs cs:=L2.Paired.mapP h fun _ _ ⟨q,a,b⟩=>⟨q,a,b.keep e⟩
theorem Paired.app {α β:Type}{R:α→β→Prop}:∀ {xs:List α} {ys:List β} {us:List α} {vs:List β},jH R xs ys→jH R us vs→jH R (xs++us) (ys++vs)
 | _,_,_,_,.nil,h=>h
 | _,_,_,_,.cons r t,h=> .cons r (Paired.app t h)
theorem Paired.len {α β:Type}{R:α→β→Prop}:∀ {xs:List α} {ys:List β},jH R xs ys→xs.length=ys.length
 | _,_,.nil=>rfl
 | _,_,.cons _ t=>pT (· + 1) (Paired.len t)
theorem Paired.snoc_of {α β:Type}{R:α→β→Prop}:∀ {ys:List β} {zs:List α} {y:β},jH R zs (ys++[y])→∃ xs x,zs=xs++[x]∧jH R xs ys∧R x y
 | [],_,_,.cons r .nil=>⟨[],_,rfl,.nil,r⟩
 | _::_,_,_,.cons r t=>by
  obtain ⟨xs,x,rfl,a,b⟩:=Paired.snoc_of t;exact ⟨_::xs,x,rfl,.cons r a,b⟩
inductive spTabF (T0:ai)(p0:Pos)(q0:Str)(T1:ai)(p1:Pos)(q1:Str)(vs:List V)(H:Hp)(Q:VK)(_:XK):Prop
 | mk (v:V)(b m:Int)(sp:List Sn)(most:Nat)(_:vs=[v,.int (most:Nat)])(_:IsD H v (kN b m sp))(_:NetT b m sp)(_:most≤4096)(_:(∀ l,FrstL m.toNat sp l→jg sp l≤4096))(_:L2.LamT T0 p0 q0 H)(_:L2.LamT T1 p1 q1 H)(_:∀ (L:ai) (tv:List V) (l:List Nat) (rg:List (Nat×List Stp)) (Ts:List (List Int)) (H':Hp),(∀ a o,a≠T0→a≠T1→H a=some o→H' a=some o)→Kp H H'→L2.LamT T0 p0 q0 H'→L2.LamT T1 p1 q1 H'→H' L=some (.lst tv)→IsDs H' tv (eU id Ts)→FR m sp l rg→(∀ t∈Ts,oX b m sp t)→Ts.length≤most→(Ts.length<most∨most=4096→∀ T,kT b T sp=true→∃ t∈Ts,∀ k∈l,mh b t sp k=mh b T sp k)→Q (.ref L) H')
end HN
namespace L2
open PySem PySem.W PySem.Spec PyProof.Rows
theorem law_callTs {mb:Str→Option aa}{k:Nat}{fa:ai}{Ts:List ai}{sp:Sp}{s₁:ao}
  (KX:K.In s₁.heap) (hns:s₁.heap.Ns bp mg) (hb:s₁.heap.Ns builtinsNs mb) (hbb:∀ x:Str,x ≠ "__name__" →mb x=jG x) (hlim:s₁.heap.NoLimit) (hg:s₁.gens= #[])
  (hbm:BM mg s₁.heap) (hT:∀ T∈Ts,s₁.heap.get? T=some (tabObj #[])) (C:∀ T∈Ts,∃ c,codeHdIn K c T=true) (nt:noTabs K=true)
  (ha:s₁.heap.get? a=some { cls:= .type "list",data:= .seq vs.toArray }) (hi:IntsAre vs ns) (hl:ns.length≤aR) (hr:Room k callerA)
  (F:∀ base:bw,K.In base→base.Ns bp mg→BM mg base→FnOk P w K mg base CX k fa fd [x] sp) (hbind:∀ (s:ao) (u:aa),BindsTo s fd ⟨[u],[]⟩ [(x,u)])
  (hsp:∀ H:Hp,(∀ T∈Ts,H T=some (.tbl #[]))→SqL K H a (ns.map V.int)→sp [.ref a] H (fun v _=>v= .bl true) fun _ _ _=>False)
  (hCX:∀ H e s',CX [] H s₁ (fun _ _ _=>False) e s'→False) :
  hV (aU P w) callerA (.call (.ref fa) ⟨[.ref a],[]⟩) (fun r s'=>r= .ok (.ret (.bool true))∧OldK s₁.heap s'.heap∧s'.os=s₁.os∧AllBare s'.gens) s₁:=by
 have rv:=nW hi;have lenV:=hi.length;have hTK:∀ T∈Ts,K.lookup T=none:=fun T mT=>by
  cases q:K.lookup T with
  | none=>rfl
  | some o =>
   have e:=KX T o q;rw [hT T mT] at e;cases e;have z:=List.all_eq_true.mp nt (T,tabObj #[]) (mem_of_lookupK q);cases z
 have aT:a ∉ Ts:=fun z=>by rw [hT a z] at ha;cases ha
 have isT:∀ T∈Ts,isCodeTable s₁.heap T:=fun T mT=>by obtain ⟨c,C⟩:=C T mT;exact ((codeHd_of_K KX C).tab (hT T mT)).isCodeTable
 have core:∀ H:Hp,SqL K H a (ns.map V.int)→HOk P w H s₁.heap→(∀ T∈Ts,H T=some (.tbl #[]))→(∀ b,H b≠none→b ∉ Ts→b=a∧∃ o xs,H b=some (.frz o (.lst xs)))→(H a≠none→K.lookup a=none) →
   hV (aU P w) callerA (.call (.ref fa) ⟨[.ref a],[]⟩) (fun r s'=>r= .ok (.ret (.bool true))∧OldK s₁.heap s'.heap∧s'.os=s₁.os∧AllBare s'.gens) s₁:=by
  intro H hS hok hHT hA hK;have base_of:∀ {b:ai} {o:Obj},s₁.heap.get? b=some o→H b=none→(hidT s₁.heap H).get? b=some o:=fun e n=>hidT_get e n
  have no2:∀ {b:ai} {o:Obj},s₁.heap.get? b=some o→o≠tabObj #[]→o≠{ cls:= .type "list",data:= .seq vs.toArray }→H b=none:=fun {b o} e d1 d2=>by
   cases q:H b with
   | none=>rfl
   | some u =>
    by_cases hbT:b∈Ts
    ·rw [hT b hbT] at e;cases e;exact pP rfl d1
    ·have e':b=a:=(hA b (by rw [q];simp) hbT).1
     subst e';rw [ha] at e;cases e;exact pP rfl d2
  have nsK:∀ {b:ai} {m:Str→Option aa},s₁.heap.Ns b m→(hidT s₁.heap H).Ns b m:=fun {b m} ⟨o,es,ep,e,d,r⟩=>⟨o,es,ep,base_of e (no2 e (fun z=>by subst z;cases d) (fun z=>by subst z;cases d)),d,r⟩
  have hKb:K.In (hidT s₁.heap H):=fun b o e=>base_of (KX b o e) (by
   cases q:H b with
   | none=>rfl
   | some u =>
    by_cases hbT:b∈Ts
    ·rw [hTK b hbT] at e;cases e
    ·have e':b=a:=(hA b (by rw [q];simp) hbT).1
     subst e';rw [hK (by rw [q];simp)] at e;cases e)
  have hM:Mod K mg (hidT s₁.heap H):=⟨hKb,nsK hns,⟨mb,nsK hb,hbb⟩,let ⟨mc,h1,h2⟩:=hlim;⟨mc,nsK h1,h2⟩⟩;have hBM:BM mg (hidT s₁.heap H):=by
   obtain ⟨bm,ob,b1,b2,b3,b4,b5,b6,b7⟩:=hbm;exact ⟨bm,ob,b1,b2,b3,base_of b4 (no2 b4 (fun z=>by subst z;cases b5) (fun z=>by subst z;cases b7)),b5,b6,b7⟩
  have e0:Env0 P w K mg (hidT s₁.heap H) callerA [] s₁ H:=⟨rfl,hM,fun b o e=>of_hidT e,Nat.le_of_eq (hidT_size _ _),trivial,fun b hb=>pP (show b∈([]:List ai) from hb) (by simp),hok,.of_eq hg⟩;refine jF ((F _ hKb (nsK hns) hBM).run callerA [] s₁ H ⟨[.ref a],[]⟩ [.ref a] [.ref a] _ _ hr e0 (hbind s₁ (.ref a)) (.cons rfl .nil) (hsp H hHT hS)) fun r s' h=>?_
  cases r with
  | error e=>exact (hCX H e s' h).elim
  | ok fl =>
   cases fl with
   | next=>exact cI h
   | brk=>exact cI h
   | cont=>exact cI h
   | ret u =>
    obtain ⟨v,H',os,bare,un,hok',r',q⟩:=h;have q':v= .bl true:=q;subst q';obtain rfl:u=aa.bool true:=r';have tT:∀ T∈Ts,∃ more,s'.heap.get? T=some (tabObj (#[]++more)):=fun T mT=>by
     obtain ⟨more,eT⟩:=un.tbls T _ (hHT T mT);exact ⟨more,hok' T _ eT⟩
    have stay:∀ b o,s₁.heap.get? b=some o→b ∉ Ts→s'.heap.get? b=some o:=fun b o e hbT=>by
     cases q:H b with
     | none=>exact un.keep b o e q (by intro z;exact pP (show b∈([]:List ai) from z) (by simp)) (by simp)
     | some u =>
      obtain ⟨_,ob,xs,z⟩:=hA b (by rw [q];simp) hbT;have z2:=un.frzs b ob _ z;obtain ⟨e1,_⟩:=hok b _ z;obtain ⟨e2,_⟩:=hok' b _ z2;rw [e] at e1;cases e1;exact e2
    refine ⟨rfl,⟨fun b o e=>?_,fun b o e=>?_⟩,os,bare⟩
    ·by_cases hbT:b∈Ts
     ·rw [hT b hbT] at e;cases e
      obtain ⟨more,tb⟩:=tT b hbT;exact .inr (.inl ⟨isT b hbT,rfl,#[],more,rfl,tb⟩)
     ·exact .inl (stay b o e hbT)
    ·by_cases hbT:b∈Ts
     ·obtain ⟨more,tb⟩:=tT b hbT;exact ⟨_,tb⟩
     ·exact ⟨o,stay b o e hbT⟩
 cases hk:K.lookup a with
 | some o =>
  have e:=KX a o hk;rw [ha] at e;cases e;refine core (fun b=>if b∈Ts then some (.tbl #[]) else none) (.inr ⟨_,vs.toArray,_,hk,rfl,rfl,rfl,by rw [aB,lenV];exact hl,by simpa using rv⟩) (fun b u z=>?_) (fun T mT=>pO mT) (fun b z hb=>pP (pN hb) z) fun z=>pP (pN aT) z
  by_cases hb:b∈Ts
  ·have z':=(pO hb).symm.trans z
   cases z';exact hT b hb
  ·have z':=(pN hb).symm.trans z
   cases z'
 | none =>
  refine core (fun b=>if b∈Ts then some (.tbl #[]) else if b=a then some (.frz { cls:= .type "list",data:= .seq vs.toArray } (.lst (ns.map V.int))) else none) (.inl (.inr ⟨{ cls:= .type "list",data:= .seq vs.toArray },(pN aT).trans (pO rfl)⟩)) (fun b u z=>?_) (fun T mT=>pO mT) (fun b z hb=>?_) fun _=>hk
  ·by_cases hb:b∈Ts
   ·have z':=(pO hb).symm.trans z
    cases z';exact hT b hb
   ·have z:=(pN hb).symm.trans z
    by_cases hb:b=a
    ·have z':=(pO hb).symm.trans z
     cases z';subst hb;exact ⟨ha,by rw [af];exact hl,vs,_,rv,ha⟩
    ·have z':=(pN hb).symm.trans z
     cases z'
  ·by_cases hba:b=a
   ·exact ⟨hba,_,_,(pN hb).trans (pO hba)⟩
   ·exact pP ((pN hb).trans (pN hba)) z
theorem walk_ofTs {l:PySem.W.OpenLaw}{k:Nat}{q:aQ}{d:DefRec}{K:Params→au}{CX:bq→CXT}{sp:bq→Sp}{Ts:List ai}
  (hn:l.most=some n) (hn2:n≤aR) (hdf:d.params.defaults=[]) (hr:Room k callerA)
  (hY:∀ (w:bq) (h:bw),YP w h→(K w.params).In h∧∀ T∈Ts,h.get? T=some (tabObj #[])) (C:∀ w:bq,∀ T∈Ts,∃ c,codeHdIn (K w.params) c T=true) (nt:∀ w:bq,noTabs (K w.params)=true)
  (F:∀ (w:bq) (mg:Str→Option aa) (fa:ai) (h:bw),(K w.params).In h→h.Ns bp mg→mg d.name=some (.ref fa) →
   ∃ fd:bf,(∀ (s:ao) (u:aa),BindsTo s fd ⟨[u],[]⟩ [(x,u)]) ∧
    ∀ base:bw,(K w.params).In base→base.Ns bp mg→BM mg base→FnOk l.prog w (K w.params) mg base (CX w) k fa fd [x] (sp w))
  (hsp:∀ (w:bq) (H:Hp) (a:ai) (ns:List Int),ns.length≤n→(∀ T∈Ts,H T=some (.tbl #[]))→SqL (K w.params) H a (ns.map V.int)→sp w [.ref a] H (fun v _=>v= .bl true) fun _ _ _=>False)
  (hCX:∀ (w:bq) (H:Hp) (s:ao) (e:aa) (s':ao),CX w [] H s (fun _ _ _=>False) e s'→False) :
  PySem.W.WalkO q loose XP YP l.row.toRowW d [] (fun f vs=>PySem.call f vs):=by
 refine Att.attach_call hn hdf fun w s₀ s₁ mg mb fa o pm cd doc a vs ns G Y ho hd hcd hmg hobj hints hlen hg=>?_
 obtain ⟨KX,hT⟩:=hY w _ Y;obtain ⟨fd,hb,hF⟩:=F w mg fa _ KX G.T.g hmg;have hbm:BM mg s₁.heap:=by
  obtain ⟨bm,ob,b1,b2,b3,b4,b5,b6⟩:=G.T.bmain;refine ⟨bm,ob,b1,b2,fun q=>?_,b3,b4,b5,b6⟩;obtain ⟨o,es,ep,e,hd,_⟩:=G.T.g;rw [q,e] at b3;cases b3;rw [hd] at b6;cases b6
 exact law_callTs KX G.T.g G.T.b G.T.builtins G.T.nolimit hg hbm hT (C w) (nt w) hobj hints (aS hlen hn2) hr hF hb (fun H hO hS=>hsp w H a ns hlen hO hS) fun H e s'=>hCX w H s₁ e s'
theorem sorted_keyT {r q:ai}{ws:List aa}(hl0:IsTup s.heap r ws.toArray)(h64:ws.length<64)
  (h:∀ (g h1:bw) (D kS:ai) (e1:Nat),(∀ b o,s.heap.get? b=some o→g.get? b=some o)→(∀ b o,g.get? b=some o→h1.get? b=some o)→g.objs.size≤D→D<kS→h1.get? D=some (bD "list" #[] e1)→h1.get? kS=some (bD "list" #[] 0) →
   KeyDo prog w A.in1.in1 (.ref q) ws kS D e1 (fun t'=>Q (.ref D) t') { s with heap:=h1 }) :
  aH (aU prog w) A (ir (.builtin "sorted") [.ref r] [(bY "key",.ref q)]) Q E s:=by
 obtain ⟨ob,ho,hc,n,hd⟩:=hl0;refine call_function_entry_kw kind_sorted plain_sorted entry_sorted (ksk_s1 _ _) ?_;unfold cV.«sorted»;refine ae (m:=checkCount "sorted" 1 1 _) (aA ?_);refine ae (wpAny_collect_seq r (.inr rfl) ho hc hd (fun h' hk=>?_) (by rw [aB,eG];lia));rw [show ws.toArray.toList=ws by simp];refine ae (wpAny_newList ?_ (by rw [eG];lia));have hoL:(h'.push (bD "list" ws.toArray 0)).get? h'.objs.size=some (bD "list" ws.toArray 0):=aN _ rfl;show aH _ _ _ _ _ { s with heap:=h'.push (bD "list" ws.toArray 0) };refine ae (cf (wpAny_call_entry_kw slot_list_sort ⟨_,hoL,rfl⟩ entry_list_sort ?body (ksk_l1 _ _)))
 case body =>
  show aH (aU prog w) A.in1.in1 (cV.«list.sort» ⟨[.ref h'.objs.size],[(bY "key",.ref q)]⟩) _ _ _;rw [ksk_t1];refine key_tree (s:={ s with heap:=h'.push (bD "list" ws.toArray 0) }) hoL (by lia) fun e1 g1 g2=>?_
  have K:=h h' (kc (h'.push (bD "list" ws.toArray 0)) h'.objs.size ws) h'.objs.size ((h'.push (bD "list" ws.toArray 0)).objs.size+1) e1 hk ?_ (az _) (by rw [size_push'];exact gM (jI _)) g1 g2
  ·obtain ⟨J,j0,jc,je⟩:=K
   refine ⟨J,j0,jc,fun ks t' x1 x2=>?_⟩;obtain ⟨y1,κ,lt,y2,y3,y4,y5⟩:=je ks t' x1 x2;exact ⟨y1,κ,lt,y2,y3,y4,fun p p1 p2=>⟨_,rfl,aA ⟨_,rfl,y5 p p1 p2⟩⟩⟩
  ·exact fun b o e=>mid_keep (bj (aC e)) (ak _ e)
theorem its_at:∀ {ns:List Int} {its:List aa} {i:Nat} {x:aa},Vals (ns.map V.int) its→its[i]? =some x→∃ t,x= .int (ns.getD i 0) t
 | [],_,_,_,.nil,e=>by simp at e
 | n::ns,_,0,_,.cons r _,e=>by
  cases e;exact r
 | n::ns,_,i+1,_,.cons _ rs,e=>its_at (ns:=ns) (i:=i) rs e
def SortTQ (P:ai)(lp:Pos)(lq:Str)(js:List Nat)(te:TE)(σ:St)(Q:VK)(v:V)(H1:Hp):Prop:=∃ (r:ai) (ns:List Int) (key:Nat→Int×Int),v= .ref r∧H1 r=some (.tup (ns.map V.int))∧ns.length<64∧LamT P lp lq H1∧((aK ns.length).map key).Nodup ∧
 (∀ i:Nat,i<ns.length→∀ H2,Tb P H1 H2→te (some (.int (ns.getD i 0))::dh σ js) H2 fun u H3=>Same H2 H3∧∃ a,u= .ref a∧H3 a=some (.tup [.int (key i).1,.int (key i).2])) ∧
 ∀ (D:ai) (H4:Hp) (π:List Nat),Tb P H1 H4→LamT P lp lq H4→H4 D=none→π.Perm (aK ns.length)→π.Pairwise (fun i j=>ltP (key i) (key j)=true)→Q (.ref D) (upd H4 D (.lst (π.map fun (i:Nat)=>V.int (ns.getD i 0))))
def tSortT (P:ai)(lp:Pos)(lq:Str)(tr:TE)(js:List Nat)(te:TE):TE:=fun σ H Q=>tr σ H fun v H1=>SortTQ P lp lq js te σ Q v H1
def SortT1 (P:ai)(lp:Pos)(lq:Str)(js:List Nat)(te:TE)(σ:St)(Q:VK):List V→Hp→Prop
 | [v],H1=>SortTQ P lp lq js te σ Q v H1
 | _,_=>False
theorem pe_sortT {p kp:Pos}{c P:ai}(hc:X.calm=true)(hrm:X.A.depth<iG)(hg:Gl X "sorted")(hm:X.mg "sorted" =none)(hi:PE X re tr)
  (hd:defaultsOf params X.env=([],[])) (nh:X.env.code= .ref c) (C:codeHdIn X.K c P=true) (B:BM X.mg X.base)
  (hbind:∀ q cl pm cdv ct (u:aa),bindArgs (kla_fn "<lambda>" q params body scope cl pm cdv ct) ⟨[u],[]⟩=eQ [(x,u)])
  (hk:scope.kind= .function) (hco:scope.isCoroutine=false) (hgen:scope.isGenerator=false) (iH:∀ y∈scope.names,y.2≠ .cell) (hx:scope.names.lookup x=some .local) (hfx:x ∉ fr)
  (hfr:∀ y∈scope.names,y.2= .free→X.env.scope.names.lookup y.1=some .cell) (hjs:js.map (fun j=>X.N[j]?)=fr.map some) (hfv:∀ y∈fr,scope.names.lookup y=some .free)
  (hb:∀ cl L f cd s' H',PE (cxLam X (X.env.qual ++ "<lambda>") scope cl L f cd (x::fr) s' H') body te)
  (he:dM pos (bb [re] X.env)=(false,dg re X.env)::dM pos (bb [] X.env):=by rfl)
  (hs:bb [re] X.env=(false,dg re X.env)::bb [] X.env:=by rfl) (hpl:(dM pos (bb [re] X.env)).any (·.1)=false:=by rfl) :
  PE X (.Call (.Name "sorted" p) [re] [⟨some "key",.Lambda params body scope lp,kp⟩] pos) (tSortT P lp (X.env.qual ++ "<lambda>") tr js te):=by
 intro aJ s σ H Q I h;refine dv (lV I hg hm (u:= .builtin "sorted") (by trivial) ?_);refine callWith_kw (kws:=[⟨some "key",.Lambda params body scope lp,kp⟩]) (thn ((aq hi aP hs) pos aJ s σ H (SortT1 P lp (X.env.qual ++ "<lambda>") js te σ Q) I h) fun us s1 ⟨vs,H1,I1,r1,q0⟩=>?_) he hpl;refine kws_cons ?_;obtain ⟨v,rfl⟩:∃ v,vs=[v]:=by
  cases vs with
  | nil=>exact q0.elim
  | cons v r=>cases r with
   | nil=>exact ⟨v,rfl⟩
   | cons _ _=>exact q0.elim
 have q1:SortTQ P lp (X.env.qual ++ "<lambda>") js te σ Q v H1:=q0;obtain ⟨r,ns,key,rfl,hr,h64,T,hnd,hkey,hQ⟩:=q1;obtain rfl:us=[.ref r]:=by
  cases r1 with
  | cons ru rs =>
   cases rs;exact pT (fun z=>[z]) ru
 refine lam_make (body:=body) I1 hd nh C B hfr T fun f cl H2 s2 I2 tb T2 F2 c1 c2=>?_
 refine kws_nil ?_;show aH _ _ (ir (.builtin "sorted") [.ref r] [(bY "key",.ref f)]) _ _ _;have rP:r≠P:=fun z=>by
  rcases T with T | ⟨_,T,_⟩ <;> rw [←z,hr] at T <;> cases T
 obtain ⟨its,rv,ht,_⟩:=I2.tuple (SqT.of (K:=X.K) (tb r _ rP hr));have lits:its.length=ns.length:=by rw [←rv.length,af]
 refine sorted_keyT ht (by lia) fun g h1 D kS e1 hg hkeep hD hDk gD gK=>?_
 have I2:Inv X aJ σ H2 { s2 with heap:=g }:=I2.kept (t':=s2.toks) hg;have I3:Inv X aJ σ H2 { s2 with heap:=h1 }:=I2.kept (t':=s2.toks) hkeep;have old:∀ b o,g.get? b=some o→b≠D∧b≠kS:=fun b o e=>⟨bj (aL (aC e) hD),bj (Nat.lt_trans (aL (aC e) hD) hDk)⟩
 have hDs:=aC gD;have hKs:=aC gK;have frD:H2 D=none:=I2.hok.fresh hD;have frK:H2 kS=none:=I2.hok.fresh (iu (bU hD hDk));have cc:∀ y d,X.env.cells.lookup y=some d→d≠D∧d≠kS:=fun y d e=>by obtain ⟨v,o,ho,_⟩:=I2.cell y d e;exact old d o ho
 have pp:∀ z∈X.pn++aJ,z.1≠D∧z.1≠kS:=fun z hz=>old _ _ (I2.pin z hz).1
 have nl:g.objs.size≤kS:=iu (bU hD hDk);have I4:Inv X ((kS,bD "list" #[] 0)::(D,bD "list" #[] e1)::aJ) σ H2 { s2 with heap:=h1 }:=I3.pins_of fun z hz=>by
  rcases aF.mp hz with rfl | hz
  ·exact ⟨gK,frK,bZ (aL I2.lt nl),I2.nofs nl,fun v z=>by cases z⟩
  ·rcases aF.mp hz with rfl | hz
   ·exact ⟨gD,frD,bZ (aL I2.lt hD),I2.nofs hD,fun v z=>by cases z⟩
   ·exact I3.pin z (ay _ hz)
 refine keyDo_of (num:=fun i=>ns.getD i 0) (key:=key) I4 lits h64 (fun i x e=>its_at rv e) (aS I2.sz nl) (aS I2.sz hD) (fun y d e=>(cc y d e).2) (fun y d e=>(cc y d e).1) (fun z hz=>(pp z hz).2) (fun z hz=>(pp z hz).1) (bZ hDk) hnd ?_ ?_
 ·intro t H' pins' i tk hi' I' S'
  refine bH (nQ (v:= .int (ns.getD i 0)) I' hc hrm (F2.same S') ⟨_,rfl⟩ (fun pm cdv ct=>hbind _ _ _ _ _ _) hk hco hgen iH hx hfx c1 c2 hfr hjs hfv (fun L cd s' H'=>hb cl L f cd s' H') (hkey i hi' H' (tb.trans S'.tb))) (fun k t' ⟨v,H'',I'',rv,S'',a,ev,ea⟩=>?_) fun _ _ z=>z
  subst ev;obtain rfl:k= .ref a:=rv;exact ⟨a,H'',I'',S'',rfl,ea⟩
 ·intro t H' π S' hD' I' pm pw
  exact ⟨.ref D,_,I',rfl,hQ D H' π (tb.trans S'.tb) (T2.same S') hD' pm pw⟩
end L2
namespace HN
open PySem L2 PyProof.Rows
def TiedBy (sp:List Sn)(L k:Int):Prop:=∃ x∈sp,x.o - x.l≤L∧((x.s=k∧0≤x.g∧x.g<k)∨(x.g=k∧0≤x.s∧x.s<k))
def Narrow (m:Int)(sp:List Sn)(L:Int):Prop:=(∀ x∈sp,x.o - x.l≤L)∨∀ k,1≤k→k<m→TiedBy sp L k
theorem taken_at {sp:List Sn}{i:Nat}:∀ (π:List Nat) (c:List Int×List Nat),i∈(π.foldl (d8 sp) c).2→i∈c.2∨∃ π1 π2,π=π1++i::π2∧tm (π1.foldl (d8 sp) c).1 (sAt sp i).s≠tm (π1.foldl (d8 sp) c).1 (sAt sp i).g
 | [],c,h=> .inl h
 | j::π,c,h=>by
  rw [bP] at h
  rcases taken_at π _ h with h | ⟨π1,π2,rfl,hne⟩
  ·obtain ⟨gs,tk⟩:=c
   rcases ie sp gs tk j with ⟨_,e⟩ | ⟨n,e⟩ <;> rw [e] at h
   ·exact .inl h
   ·rcases aG.mp h with h | h
    ·exact .inl h
    ·rw [aw.mp h]
     exact .inr ⟨[],π,rfl,n⟩
  ·exact .inr ⟨j::π1,π2,rfl,hne⟩
theorem oW {m:Nat}{sp:List Sn}{L:Int}{gs:List Int}(E:j8 m sp)(meets:∀ x∈sp,x.o - x.l≤L→tm gs x.s=tm gs x.g)(ti:∀ k:Int,1≤k→k<m→TiedBy sp L k):∀ (n:Nat) (k:Int),0≤k→k<m→k.toNat≤n→tm gs k=tm gs 0
 | n,k,k0,k1,kn=>by
  by_cases z:k=0
  ·rw [z]
  ·obtain ⟨x,hx,hw,h⟩:=ti k (by lia) k1
   have e:=meets x hx hw
   rcases h with ⟨h1,h2,h3⟩ | ⟨h1,h2,h3⟩
   ·cases n with
    | zero=>lia
    | succ n =>
     rw [h1] at e;rw [e];exact oW E meets ti n x.g h2 (by lia) (by lia)
   ·cases n with
    | zero=>lia
    | succ n =>
     rw [h1] at e;rw [←e];exact oW E meets ti n x.s h2 (by lia) (by lia)
theorem frst_narrow {L:Int}(E:j8 m sp)(N:Narrow (m:Int) sp L)(F:FrstL m sp l):∀ i∈l,i<sp.length∧(wkey sp i).1≤L:=by
 obtain ⟨_,π,O,pm⟩:=F;intro i hi;have hi:=pm.mem_iff.mp hi
 rcases taken_at π (iI m,[]) hi with h | ⟨π1,π2,e,h⟩
 ·cases h
 have hil:i<sp.length:=O.lt (by rw [e];simp);refine ⟨hil,?_⟩
 rcases N with N | N
 ·exact N _ (eM hil)
 ·by_cases w:(wkey sp i).1≤L
  ·exact w
  exfalso;have w:L<(sAt sp i).o - (sAt sp i).l:=by
   have:¬ ((sAt sp i).o - (sAt sp i).l≤L):=w;lia
  have p1:∀ j∈π1,j<sp.length:=fun j hj=>O.lt (by rw [e];simp [hj])
  have meets:∀ x∈sp,x.o - x.l≤L→tm (π1.foldl (d8 sp) (iI m,[])).1 x.s=tm (π1.foldl (d8 sp) (iI m,[])).1 x.g:=by
   intro x hx hw;obtain ⟨j,hj,ej⟩:=bM hx;have ej:sAt sp j=x:=by
    unfold sAt;rw [ah,gE hj];exact ej
   have hjπ:j∈π:=O.1.mem_iff.mpr (bT.mpr hj);have hj1:j∈π1:=by
    rw [e] at hjπ
    rcases aG.mp hjπ with z | z
    ·exact z
    ·exfalso
     rcases aF.mp z with z | z
     ·rw [z] at ej;rw [ej] at w;lia
     ·have pw:=O.2
      rw [e] at pw;have:=(List.pairwise_cons.mp (List.pairwise_append.mp pw).2.1).1 j z;rw [ltP_iff] at this;unfold wkey at this;rw [ej] at this;lia
   have:=jL E π1 (iI m) [] (g9 m) p1 j hj1;rw [ej] at this;exact this
  obtain ⟨a0,a1,b0,b1⟩:=E _ (eM hil);refine h ?_;rw [oW E meets N _ _ a0 a1 (az _),oW E meets N _ _ b0 b1 (az _)]
end HN
namespace L2
open PySem PySem.W PySem.Spec PyProof.Rows
def CGrt (i j:Int):Prop:=i.natAbs<10 ^ 1000∧j.natAbs<10 ^ 1000
theorem nU {x:Int}(h:x.natAbs<10 ^ 1000):cV.Int.intBits x≤2 ^ 20:=by
 unfold cV.Int.intBits;split
 ·exact bE _
 ·rename_i hx
  have h0 : x.natAbs ≠ 0 := fun z => hx (by have e : x = 0 := by lia
                                            rw [e];rfl)
  have h2:=(Nat.log2_lt h0).mpr (Nat.lt_trans h (by trivial:10 ^ 1000<2 ^ 10000));have h3:(10000:Nat)+1≤2 ^ 20:=by decide
  lia
theorem op_mulG:OpR X (fX .Mult) (rI CGrt fun i j=> .int (i * j)):=opI fun _ _ _ _ _ _ _ hc q=>mul_int q (IntMulOk.of_bits (nU hc.1) (nU hc.2))
theorem ip_mulG:PIp X .Mult (fun x y H Q=>∃ i j,x= .int i∧y= .int j∧CGrt i j∧Q (.int (i * j)) H):=by
 intro aJ s σ H x y v u Q I r1 r2 h;obtain ⟨i,j,e1,e2,hc,q⟩:=h;subst e1;subst e2;obtain ⟨t,rfl⟩:=r1;obtain ⟨t',rfl⟩:=r2;exact imul_int ⟨.int _,H,I.tok _,⟨_,rfl⟩,q⟩ (IntMulOk.of_bits (nU hc.1) (nU hc.2))
end L2
namespace L2
open PySem PySem.Spec PyProof.Rows
end L2
namespace HN
open PySem L2 PyProof.Rows
abbrev sCell:cG:=top 53
abbrev sBox:cG:=top 54
abbrev sDraw:cG:=top 55
theorem scCell:cj pze pze (defScope sCell):=by trivial
theorem ok_cell (F:Fun K "_law_cell_at" "_law_cell_at" sCell f fd)(T:Nm mg):FnOk P w K mg base CX0 1 f fd pze (spCell K):=by
 refine F.ok scCell (by contradiction) (fun cdv A outer s H vs Q E hr h=>?_);obtain ⟨a,ns,j,rfl,ha,hj,k⟩:=h;refine ⟨_,nN (jB (dE op_lt (pv 1) (dO dk rfl T.len cO (aq (pv 0) aP)) (eO _)) (dA (cM (eN fc (pv 0) (pv 1) (fun _ _=>rfl)))) fF) (dA (cM bR)),?_⟩;refine ⟨_,rfl,_,rfl,a,_,rfl,.inl ha,_,_,rfl,rfl,_,rfl,?_⟩;refine ite2 (fun h1=>?_) (fun h1=>?_)
 ·have h1:j<((ns.map V.int).length:Int):=pS h1
  obtain ⟨v,e1,e2⟩:=atI_in hj h1;obtain ⟨c,_,rfl⟩:=bt.mp e2;exact ⟨_,rfl,_,rfl,a,_,_,_,rfl,rfl,ha,e1,k c⟩
 ·exact k 0
theorem scBox:cj ["_law_script","_law_k","_law_cell","_law_number","_law_j","_law_mixed"] pze (defScope sBox):=by trivial
theorem ok_box (F:Fun K "_law_box" "_law_box" sBox f fd)(T:Nm mg)(T2:Nt mg)(G1:Fn K mg "_law_cell_at" sCell pze f1 fd1):FnOk P w K mg base CX0 2 f fd pze (spBox K):=by
 have F1:FnOk P w K mg base CX0 1 f1 fd1 pze (spCell K):=ok_cell G1.F T;refine F.ok scBox (by contradiction) (fun cdv A outer s H vs Q E hr h=>?_);obtain ⟨a,ns,j,rfl,ha,hj,k⟩:=h;refine ⟨_,PSl.h (bg ⟨(psZ 2 scBox.nd (pc1 G1 F1 hr (aq (pv 0) (aq (pv 1) aP))))⟩
  (bg ⟨(psZ 3 scBox.nd bR)⟩
  (bg ⟨(iW bO rfl (gW rfl T2.range (aq bR aP)) (pgZ 4 scBox.nd) (PSl.h (bg ⟨(psZ 5 scBox.nd (dU nF (dU nE (dU iA (dU iA (dU nF (dU op_fdiv (pv 2) bR) bR) (dU nE bR (pv 4))) bR) bR) bR))⟩
  (bg ⟨(psZ 5 scBox.nd (dU nF (dU iA (dU iA (dU nE (pv 5) (pv 5)) (dU nE bR (pv 4))) (pv 1)) bR))⟩
  (c9 ⟨(psZ 3 scBox.nd (dU iA (dU nE (pv 3) bR) (dU nF (dU nE (pv 5) bR) bR)))⟩)))))⟩
  (bg ⟨(jB (dE ng (dU nF (pv 2) bR) bR (eO _)) (dA (cM (jT (aq (dU op_fdiv (pv 2) bR) (aq (pv 3) aP))))) fF)⟩
  (c9 ⟨(cM (jT (aq (pv 3) (aq bR aP))))⟩))))),?_⟩
 refine ⟨_,rfl,_,rfl,a,ns,j,rfl,ha,hj,fun c=>?_⟩;refine ⟨60,rfl,by decide,by decide,lG (n:=60) (fun i σ H2=>H2=H∧∃ n vj vm,σ=[some (.ref a),some (.int j),some (.int c),some (.int n),vj,vm]) ⟨rfl,0,none,none,rfl⟩ ?_ ?_⟩
 ·rintro i σ H2 hi ⟨rfl,n,vj,vm,rfl⟩
  refine ⟨_,rfl,_,_,rfl,rfl,⟨by decide,by decide⟩,_,_,rfl,rfl,(by show (0:Int)<2147483647;decide),_,rfl,_,_,rfl,rfl,.inl ⟨by decide,by decide⟩,_,_,rfl,rfl,_,_,rfl,rfl,_,_,rfl,rfl,.inr ⟨by decide,by decide⟩,_,_,rfl,rfl,(by show (0:Int)<2147483647;decide),?_⟩;refine ⟨_,rfl,_,rfl,_,_,rfl,rfl,.inl ?_,_,rfl,_,_,rfl,rfl,.inl ⟨by decide,by decide⟩,_,_,rfl,rfl,_,rfl,_,_,rfl,rfl,_,_,rfl,rfl,(by show (0:Int)<2147483629;decide),?_⟩
  ·have h1:=gy ((c / 2 % 2147483647+7919 * (0+(i:Int))+1) * 48271) (by decide:(2147483647:Int)≠0)
   have h2:=gr ((c / 2 % 2147483647+7919 * (0+(i:Int))+1) * 48271) (by decide:(0:Int)<2147483647);exact ⟨by lia,by lia⟩
  ·refine ⟨_,rfl,_,_,rfl,rfl,.inr ⟨by decide,by decide⟩,_,rfl,_,_,rfl,rfl,.inr ⟨by decide,by decide⟩,_,_,rfl,rfl,(by show (0:Int)<2147483629;decide),_,_,rfl,rfl,?_⟩
   exact ⟨rfl,_,_,_,rfl⟩
 ·rintro σ H2 ⟨rfl,n,vj,vm,rfl⟩
  refine ⟨_,rfl,_,_,rfl,rfl,(by show (0:Int)<2;decide),rfl,_,rfl,?_⟩;refine ite2 (fun _=>?_) (fun _=>?_)
  ·exact ⟨_,rfl,_,_,rfl,rfl,⟨by decide,by decide⟩,_,rfl,oY,fun p hp=>k _ _ p hp⟩
  ·exact ⟨_,rfl,oY,fun p hp=>k _ _ p hp⟩
theorem scDraw:cj ["_law_box_here","_law_most","_law_number"] pzj (defScope sDraw):=by trivial
theorem ok_draw (F:Fun K "_law_draw" "_law_draw" sDraw f fd):FnOk P w K mg base CX0 1 f fd pzj spDraw:=by
 refine F.ok scDraw (by contradiction) (fun cdv A outer s H vs Q E hr h=>?_);obtain ⟨p,x,y,m,rfl,hp,h0,h1,k⟩:=h;refine ⟨_,PSl.h (bg ⟨(ps_cutK (jB (dE ng (eN fc (pv 0) bR (fun _ _=>rfl)) bR (eO _)) (PSl.h (bg ⟨(pB (eN fc (pv 0) bR (fun _ _=>rfl)) (pG (pv 0) bR lJ))⟩
  (c9 ⟨(pB bR (pG (pv 0) bR lJ))⟩))) fF))⟩
  (bg ⟨(psZ 2 scDraw.nd (eN fc (pv 0) bR (fun _ _=>rfl)))⟩
  (bg ⟨(pB (dU op_fdivB (pv 2) (pv 1)) (pG (pv 0) bR lJ))⟩
  (c9 ⟨(cM (dU nF (pv 2) (pv 1)))⟩)))),?_⟩
 refine ⟨fun σ' H'=>σ'=[some (.ref p),some (.int m),none]∧Mb p H H',?_,?_⟩
 rotate_left
 ·refine ⟨_,rfl,p,_,_,_,rfl,rfl,SqL.of hp,bc (j:=0) rfl,rfl,_,rfl,?_⟩
  refine ite2 (fun _=>?_) (fun _=>?_)
  ·refine ⟨_,rfl,p,_,_,_,rfl,rfl,SqL.of hp,bc (j:=1) rfl,_,rfl,p,_,_,0,rfl,rfl,hp,rfl,?_⟩
   refine ⟨_,rfl,p,_,_,1,rfl,rfl,aW,rfl,rfl,fun b o hb e=>by rw [aZ hb,aZ hb];exact e,y,0,?_⟩;rw [aW];rfl
  ·exact ⟨rfl,Mb.refl hp⟩
 rintro σ' H1 ⟨rfl,M1⟩;obtain ⟨x1,y1,hp1⟩:=M1.2;refine ⟨_,rfl,p,_,_,_,rfl,rfl,SqL.of hp1,bc (j:=0) rfl,?_⟩;refine ⟨_,rfl,_,rfl,_,_,rfl,rfl,log_ok h0 h1,_,rfl,p,_,_,0,rfl,rfl,hp1,rfl,?_⟩;refine ⟨_,rfl,_,rfl,_,_,rfl,rfl,h0,k _ _ (gy _ (by lia)) (gr _ h0) ⟨fun b o hb e=>by rw [aZ hb];exact M1.1 b o hb e,x1 / m,y1,?_⟩⟩;rw [aW];rfl
abbrev sWds:cG:=top 58
def NewN (H:Hp)(o:HO)(Q:VK):Prop:=∀ a H',H a=none→Same H H'→H' a=some o→Q (.ref a) H'
theorem NewN.of {Q:VK}(h:NewN H o Q):∀ a,H a=none→Q (.ref a) (upd H a o):=fun a ha=>h a _ ha (Same.put (Same.refl H) ha) aW
theorem pe_lstN (h:PA X es t):PE X (.List es pos) (fun σ H Q=>t σ H fun xs H1=>xs.length≤aR∧NewN H1 (.lst xs) Q):=(jT h.cut).imp fun _ _ _ q=>⟨_,fun _ _ z=>⟨z.1,z.2.of⟩,q⟩
theorem t_setN (hN:X.N.Nodup)(hi:X.N[i]? =some x)(hx:Loc X.env.scope x)(he:PEs X e te)(hs:j4 e (some (.Name x pos')) pos.line X.env=eQ false:=by rfl)(hf:X.fn x=true∨X.env.scope.names.lookup x=some .local:=by first | exact .inl rfl | exact .inr rfl | assumption):PSt X (.Assign [.Name x pos'] e pos) (tAsg te (nj i)):=⟨ps_set hN hi hx he.h hs hf⟩
theorem ex_of {t:TS}{C:TS→Prop}(h:PSl X sts t)(k:C t):∃ t,PSs X sts t∧C t:=⟨t,h.h,k⟩
theorem k6 (h:PAs X es t):PEs X (.List es pos) (fun σ H Q=>t σ H fun xs H1=>xs.length≤aR∧NewN H1 (.lst xs) Q):=⟨pe_lstN h.h⟩
def GdW (ws:List Int):Prop:=1≤ws.length∧ws.length≤4∧∀ w∈ws,0≤w∧w≤10 ^ 20
def WB (p:ai)(H:Hp)(z:V):Prop:=∃ (q:ai) (ws:List Int),z= .ref q∧H q=some (.lst (ws.map V.int))∧q≠p∧GdW ws
theorem WB.same {p:ai}{z:V}(h:WB p H z)(S:Same H H'):WB p H' z:=by
 obtain ⟨q,ws,a,b,c,d⟩:=h;exact ⟨q,ws,a,S _ _ b,c,d⟩
theorem WB.mb {p:ai}{z:V}(h:WB p H z)(M:Mb p H H'):WB p H' z:=by
 obtain ⟨q,ws,a,b,c,d⟩:=h;exact ⟨q,ws,a,M.at b c,c,d⟩
theorem WB.mk {p q:ai}(ws:List Int)(h0:H0 p=some o)(n:H0 q=none)(h:H q=some (.lst (ws.map V.int)))(g:GdW ws):WB p H (.ref q):=⟨q,ws,rfl,h,fun z=>(by rw [z,h0] at n;cases n),g⟩
inductive spWdsB (vs:List V)(H:Hp)(Q:VK)(_:XK):Prop
 | mk (p:ai)(x y:Int)(_:vs=[.ref p])(_:H p=some (.lst [.int x,.int y]))(_:∀ (q:ai) (ws:List Int) (H':Hp),Mb p H H'→H' q=some (.lst (ws.map V.int))→q≠p→GdW ws→Q (.ref q) H')
theorem scWds:cj ["_law_box_here","_law_some","_law_wides_here"] pzq (defScope sWds):=by trivial
set_option maxHeartbeats 600000 in
theorem ok_wdsB (F:Fun K "_law_wides" "_law_wides" sWds f fd)(T2:Nt mg)(G1:Fn K mg "_law_draw" sDraw pzj f1 fd1):FnOk P w K mg base CX0 2 f fd pzq spWdsB:=by
 have F1:FnOk P w K mg base CX0 1 f1 fd1 pzj spDraw:=ok_draw G1.F;refine F.ok scWds (by contradiction) (fun cdv A outer s H vs Q E hr h=>?_);obtain ⟨ph,x0,y0,rfl,hp,k⟩:=h;refine ex_of (bg (t_setN (i:=1) scWds.nd rfl (.inl rfl) (k6 (dH (k6 (dH i4 (dH i4 nr))) (dH (k6 (dH i4 (dH i4 nr))) (dH (k6 (dH i4 (dH i4 (dH i4 nr)))) (dH (k6 (dH i4 (dH i4 nr))) (dH (k6 (dH i4 nr)) (dH (k6 (dH i4 nr)) (dH (k6 (dH i4 (dH i4 (dH i4 nr)))) (dH (k6 (dH i4 (dH i4 (dH i4 (dH i4 nr))))) (dH (k6 (dH i4 (dH i4 (dH i4 nr)))) nr)))))))))))
  (bg ⟨(psZ 2 scWds.nd (eN fc (pv 1) (pc1 G1 F1 hr (aq (pv 0) (aq bR aP))) (fun _ _=>rfl)))⟩
  (bg ⟨(ps_cutK (jB (dE ng (pc1 G1 F1 hr (aq (pv 0) (aq bR aP))) bR (eO _)) (dA (oo (iy:=2) (fr:=pzq) (js:=[0]) scWds.nd rfl (.inl rfl) rfl (gW rfl T2.range (aq (dU iA bR (pc1 G1 F1 hr (aq (pv 0) (aq bR aP)))) aP)) (by trivial) rfl (by trivial) rfl (by exists sWds) (by trivial) rfl (by trivial) (fun _ _ _ _ _=>⟨(pc1 G1 F1 hr (aq (pv 1) (aq (PEs.h (k_ix (r:=rIxL K) fc (k6 (dH i4 (dH (k_op op_pow i4 i4) (dH (k_op op_pow i4 i4) nr)))) ⟨pc1 G1 F1 hr (aq (pv 1) (aq bR aP))⟩ (fun _ _=>rfl))) aP))),ig⟩))) fF))⟩
  (c9 ⟨(cM (pv 2))⟩)))) ?_
 refine ⟨oY,fun q1 H1 n1 S1 h1=>⟨oY,fun q2 H2 n2 S2 h2=>⟨(by show 3≤aR;decide),fun q3 H3 n3 S3 h3=>⟨oY,fun q4 H4 n4 S4 h4=>⟨szZ1,fun q5 H5 n5 S5 h5=>⟨szZ1,fun q6 H6 n6 S6 h6=>⟨(by show 3≤aR;decide),fun q7 H7 n7 S7 h7=>⟨szZ4,fun q8 H8 n8 S8 h8=>⟨(by show 3≤aR;decide),fun q9 H9 n9 S9 h9=>⟨(by show 9≤aR;decide),fun L H10 nL S10 hL=>?_⟩⟩⟩⟩⟩⟩⟩⟩⟩⟩;have p1:=S1 _ _ hp;have p2:=S2 _ _ p1;have p3:=S3 _ _ p2;have p4:=S4 _ _ p3;have p5:=S5 _ _ p4;have p6:=S6 _ _ p5;have p7:=S7 _ _ p6;have p8:=S8 _ _ p7;have p9:=S9 _ _ p8;have p10:=S10 _ _ p9;have gd:∀ {ws:List Int},(1≤ws.length∧ws.length≤4∧∀ w∈ws,0≤w∧w≤5000)→GdW ws:=fun h=>⟨h.1,h.2.1,fun w hw=>⟨(h.2.2 w hw).1,Int.le_trans (h.2.2 w hw).2 (by decide)⟩⟩
 have w1:=WB.mk [63,63] hp n1 h1 (gd (by decide));have w2:=WB.mk [15,255] p1 n2 h2 (gd (by decide));have w3:=WB.mk [7,7,63] p2 n3 h3 (gd (by decide));have w4:=WB.mk [63,64] p3 n4 h4 (gd (by decide));have w5:=WB.mk [4095] p4 n5 h5 (gd (by decide));have w6:=WB.mk [4096] p5 n6 h6 (gd (by decide));have w7:=WB.mk [7,511,0] p6 n7 h7 (gd (by decide));have w8:=WB.mk [15,15,15,0] p7 n8 h8 (gd (by decide));have w9:=WB.mk [15,15,16] p8 n9 h9 (gd (by decide));have T9:=S10;have T8:=S9.trans T9;have T7:=S8.trans T8;have T6:=S7.trans T7;have T5:=S6.trans T6;have T4:=S5.trans T5;have T3:=S4.trans T4;have T2':=S3.trans T3;have T1:=S2.trans T2';have allA:∀ z∈[V.ref q1,.ref q2,.ref q3,.ref q4,.ref q5,.ref q6,.ref q7,.ref q8,.ref q9],WB ph H10 z:=fun z hz=>by
  simp only [aF,cR,or_false] at hz
  rcases hz with rfl | rfl | rfl | rfl | rfl | rfl | rfl | rfl | rfl
  ·exact w1.same T1
  ·exact w2.same T2'
  ·exact w3.same T3
  ·exact w4.same T4
  ·exact w5.same T5
  ·exact w6.same T6
  ·exact w7.same T7
  ·exact w8.same T8
  ·exact w9.same T9
 have SA:Same H H10:=S1.trans T1;have nLp:L≠ph:=fun z=>by rw [z,p9] at nL;cases nL
 clear w1 w2 w3 w4 w5 w6 w7 w8 w9 T9 T8 T7 T6 T5 T4 T3 T2' T1 S1 S2 S3 S4 S5 S6 S7 S8 S9 S10 h1 h2 h3 h4 h5 h6 h7 h8 h9 n1 n2 n3 n4 n5 n6 n7 n8 n9 p1 p2 p3 p4 p5 p6 p7 p8 p9 nL;generalize eA:[V.ref q1,V.ref q2,V.ref q3,V.ref q4,V.ref q5,V.ref q6,V.ref q7,V.ref q8,V.ref q9]=zA at hL allA ⊢;have lA:zA.length=9:=by rw [←eA];rfl
 clear eA;have MA:Mb ph H H10:=⟨fun b o _ e=>SA _ _ e,x0,y0,p10⟩;refine ⟨_,rfl,_,rfl,ph,x0,y0,9,rfl,p10,by decide,by decide,fun r5 H5 a5 c5 M5=>?_⟩;obtain ⟨z5,e5,m5⟩:=atI_in (xs:=zA) (r:=r5) a5 (by lia);obtain ⟨q5,ws5,rfl,h5,n5,g5⟩:=(allA z5 m5).mb M5;refine ⟨L,_,_,_,rfl,rfl,SqL.of (M5.at hL nLp),e5,?_⟩;have MB:=MA.trans M5;obtain ⟨x5,y5,hp5⟩:=M5.2;refine ⟨fun σ' H'=>Mb ph H H'∧∃ (q:ai) (ws:List Int),H' q=some (.lst (ws.map V.int))∧q≠ph∧GdW ws∧σ'=[some (.ref ph),some (.ref L),some (.ref q)],?_,?_⟩
 rotate_left
 ·refine ⟨_,rfl,ph,x5,y5,2,rfl,hp5,by decide,by decide,fun r6 H6 a6 c6 M6=>⟨rfl,_,rfl,?_⟩⟩
  have MC:=MB.trans M6;obtain ⟨x6,y6,hp6⟩:=M6.2;refine ite2 (fun _=>?_) (fun _=>⟨MC,q5,ws5,M6.at h5 n5,n5,g5,rfl⟩);refine ⟨_,rfl,ph,x6,y6,4,rfl,hp6,by decide,by decide,fun r7 H7 a7 c7 M7=>⟨_,_,rfl,rfl,_,rfl,(by show -2 ^ 62≤1+r7;lia),(by show 1+r7<2 ^ 62;lia),?_⟩⟩;have MD:=MC.trans M7;obtain ⟨x7,y7,hp7⟩:=M7.2;refine km (n:=(1+r7).toNat) (fun i zs HA=>Mb ph H7 HA∧∃ ts:List Int,zs=ts.map V.int∧ts.length=i∧∀ x∈ts,0≤x∧x≤10 ^ 20) ⟨Mb.refl hp7,[],rfl,rfl,fun _ h=>pP h (by simp)⟩ (fun i zs HA _ ⟨_,ts,e,hl,_⟩=>by rw [e,af,hl];exact az _) (eK (by lia)) (fun i zs HA hi ⟨NA,ts,eA,lA,allA⟩=>?_) (fun zs HA ⟨NA,ts,eA,lA,allA⟩ tq htq=>?_)
  ·refine gk ?_
   obtain ⟨xA,yA,hpA⟩:=NA.2;refine ⟨_,rfl,⟨_,_,rfl,rfl,⟨by decide,by decide,by decide⟩,_,_,rfl,rfl,⟨by decide,by decide,by decide⟩,(by show 3≤aR;decide),fun l3 HB hl3 S3 e3=>?_⟩⟩;have n3:l3≠ph:=fun z=>by rw [z,hpA] at hl3;cases hl3
   refine ⟨_,rfl,ph,xA,yA,3,rfl,S3 _ _ hpA,by decide,by decide,fun r HC rc0 rc1 M3=>?_⟩;obtain ⟨xC,yC,hpC⟩:=M3.2;obtain ⟨v,ev,mv⟩:=atI_in (xs:=[V.int 6,.int (10 ^ (3:Int).toNat),.int (10 ^ (20:Int).toNat)]) (r:=r) rc0 rc1;obtain ⟨n,rfl,n0,n1⟩:∃ n,v= .int n∧0<n∧n≤10 ^ 20:=by
    simp only [aF,cR,or_false] at mv
    rcases mv with rfl | rfl | rfl
    ·exact ⟨_,rfl,by decide,by decide⟩
    ·exact ⟨_,rfl,by decide,by decide⟩
    ·exact ⟨_,rfl,by decide,by decide⟩
   have big:(10:Int) ^ 20<10 ^ 61:=by decide
   refine ⟨l3,_,_,_,rfl,rfl,SqL.of (M3.at e3 n3),ev,ph,xC,yC,n,rfl,hpC,n0,by lia,fun r4 HD d0 d1 M4=>?_⟩;refine ⟨((NA.then S3).trans M3).trans M4,ts++[r4],by rw [eA,aM];rfl,by rw [av,lA];rfl,fun x hx=>?_⟩
   rcases aG.mp hx with hx | hx
   ·exact allA x hx
   ·rw [aw.mp hx];lia
  ·subst eA
   obtain ⟨xA,yA,hpA⟩:=NA.2;have nt:tq≠ph:=fun z=>by rw [z,hpA] at htq;cases htq
   exact ⟨(MD.trans NA).then ((Same.refl HA).put htq),tq,ts,aW,nt,⟨by lia,by lia,allA⟩,rfl⟩
 ·rintro σ' H' ⟨M,q,ws,hq,nq,g,rfl⟩
  exact ⟨_,rfl,k q ws H' M hq nq g⟩
def pW (xs:List Sn):Int:=xs.foldr (fun x c=>(x.o - x.l+1) * c) 1
def kQ (ws:List Int):Int:=ws.foldl (fun c w=>c * (w+1)) 1
theorem pW_perm {l k:List Sn}(h:l.Perm k):pW l=pW k:=by
 induction h with
 | nil=>rfl
 | cons x _ ih=>show (x.o - x.l+1) * pW _=(x.o - x.l+1) * pW _;rw [ih]
 | swap x y l=>show (y.o - y.l+1) * ((x.o - x.l+1) * pW l)=(x.o - x.l+1) * ((y.o - y.l+1) * pW l);rw [←Int.mul_assoc,←Int.mul_assoc,Int.mul_comm (y.o - y.l+1)]
 | trans _ _ h1 h2=>exact h1.trans h2
theorem prodW_map (sp:List Sn):∀ (l:List Nat),jg sp l=pW (l.map (sAt sp))
 | []=>rfl
 | i::l=>by rw [fG,prodW_map sp l];rfl
theorem sp_rng (sp:List Sn):(aK sp.length).map (sAt sp)=sp:=by
 refine List.ext_getElem (by rw [af,ba]) fun i h1 h2=>?_
 rw [ib,iQ];unfold sAt;rw [ah,gE h2];rfl
theorem prodW_sub {sp:List Sn}:∀ (l k:List Nat),l.Nodup→(∀ i∈l,i∈k)→k.length≤l.length→jg sp l=jg sp k
 | [],k,_,_,h=>by
  have:k=[]:=iV.mp (by simpa using h);rw [this]
 | a::l,k,nd,h,hl=>by
  have ha:=h a aX;have nd':=bz.mp nd;have e:=prodW_sub (sp:=sp) l (k.erase a) nd'.2 (fun x hx=>(List.mem_erase_of_ne (show x≠a from fun z=>nd'.1 (by rw [←z];exact hx))).mpr (h x (aD _ hx))) (by rw [kO ha];rw [aY] at hl;lia);rw [prodW_perm sp (List.perm_cons_erase ha),fG,fG,e]
theorem frst_nodup' (F:FrstL m sp l):l.Nodup:=by
 obtain ⟨_,π,O,pm⟩:=F;refine pm.nodup_iff.mpr ?_;obtain ⟨more,h1,h2⟩:=gone_sorted (sp:=sp) π (iI m);have h1:(kd sp m π).2=more:=h1;rw [h1];exact (O.1.nodup_iff.mpr hW).sublist h2
theorem frst_len {L:Int}(E:j8 m sp)(m0:0<m)(ti:∀ k:Int,1≤k→k<m→TiedBy sp L k)(F:FrstL m sp l):m≤l.length+1:=by
 obtain ⟨_,π,O,pm⟩:=F;have hv:∀ i∈π,i<sp.length:=fun i hi=>O.lt hi
 obtain ⟨D,nd,mem,lD⟩:=nR E π (iI m) [] (g9 _) hv (Cnt.start _);have me:=jL E π (iI m) [] (g9 _) hv;have lg:(π.foldl (d8 sp) (iI m,[])).1.length=m:=(stepG_len _ _).trans (g9 _);have meets:∀ x∈sp,x.o - x.l≤L→tm (π.foldl (d8 sp) (iI m,[])).1 x.s=tm (π.foldl (d8 sp) (iI m,[])).1 x.g:=fun x hx _=>by
  obtain ⟨j,hj,ej⟩:=bM hx;have ej:sAt sp j=x:=by
   unfold sAt;rw [ah,gE hj];exact ej
  have:=me j (O.1.mem_iff.mpr (bT.mpr hj))
  rwa [ej] at this
 have one:D.length≤1:=by
  have:=kA (k:=[tm (π.foldl (d8 sp) (iI m,[])).1 0]) nd fun v hv=>by
   obtain ⟨k,k0,k1,ek⟩:=mem_tm ((mem v).mp hv);rw [←ek,oW E meets ti _ k k0 (by lia) (az _)];simp
  exact this
 have pl:=pm.length_eq;have pl:l.length=(π.foldl (d8 sp) (iI m,[])).2.length:=pl;lia
section
variable {ws:List Int}{k:Nat}{x:Sn}
theorem tm_ap {tt:List Int}{i:Int}(h0:0≤i)(h:i<tt.length):tm (tt++[z]) i=tm tt i:=by
 unfold tm;rw [ah,ah,bS (by lia)]
theorem tm_nw {tt:List Int}{k:Nat}(h:tt.length=k):tm (tt++[z]) k=z:=by
 unfold tm;rw [ah,bV,←h,br (az _),eJ];rfl
end
structure Tre (b:Int)(ws:List Int)(k:Nat)(sp:List Sn):Prop where
 all:∀ x∈sp,SnOk b (ws.length+1:Nat) x
 cnt:sp.length=k
 prd:pW sp=kQ (ws.take k)
 tie:∀ j:Int,1≤j→j<k+1→TiedBy sp (10 ^ 60) j
 tab:∃ tt:List Int,tt.length=k+1∧∀ x∈sp,jq b tt x=0∧x.s≤k∧x.g≤k
section
variable {ws:List Int}{k:Nat}{x:Sn}
theorem Tre.nil:Tre b ws 0 []:=⟨fun _ h=>pP h (by simp),rfl,rfl,fun j a c=>by lia,[0],rfl,fun _ h=>pP h (by simp)⟩
theorem Tre.link (h:Tre b ws k sp)(b1:1≤b)(b2:b≤10 ^ 59)(ok:SnOk b (ws.length+1:Nat) x)(hk:k<ws.length)(w:x.o - x.l=ws[k]){p:Int}(p0:0≤p)(p1:p≤k)(e:(x.s=p∧x.g=k+1)∨(x.g=p∧x.s=k+1)):Tre b ws (k+1) (sp++[x]):=by
 have wx : x.o - x.l ≤ 10 ^ 60 := by have := ok.ob; have : (10 : Int) ^ 59 ≤ 10 ^ 60 := by decide
                                     lia
 refine ⟨fun y hy=>?_,by rw [av,h.cnt];rfl,?_,fun i a c=>?_,?_⟩
 ·rcases aG.mp hy with z | z
  ·exact h.all y z
  ·rw [aw.mp z];exact ok
 ·rw [pW_perm (List.perm_append_comm:(sp++[x]).Perm ([x]++sp))]
  show (x.o - x.l+1) * pW sp=_;rw [h.prd,w,bh,gE hk,Int.mul_comm];unfold kQ;rw [cx];rfl
 ·by_cases z:i=k+1
  ·refine ⟨x,by simp,wx,?_⟩
   rcases e with ⟨e1,e2⟩ | ⟨e1,e2⟩
   ·exact .inr ⟨by lia,by lia,by lia⟩
   ·exact .inl ⟨by lia,by lia,by lia⟩
  ·obtain ⟨y,hy,r⟩:=h.tie i a (by lia)
   exact ⟨y,aE _ hy,r⟩
 ·obtain ⟨tt,lt,ht⟩:=h.tab
  have old:∀ z,∀ y∈sp,jq b (tt++[z]) y=0∧y.s≤(k+1:Nat)∧y.g≤(k+1:Nat):=fun z y hy=>by
   obtain ⟨a,c,d⟩:=ht y hy;have s:=h.all y hy;have:=s.s0;have:=s.g0;refine ⟨?_,by lia,by lia⟩;unfold jq at a ⊢;rw [tm_ap (by lia) (by lia),tm_ap (by lia) (by lia)];exact a
  rcases e with ⟨e1,e2⟩ | ⟨e1,e2⟩
  ·refine ⟨tt++[tm tt p+x.l],by rw [av,lt];rfl,fun y hy=>?_⟩
   rcases aG.mp hy with z | z
   ·exact old _ y z
   ·rw [aw.mp z]
    refine ⟨?_,by lia,by lia⟩;unfold jq;rw [e1,e2,tm_ap (i:=p) (by lia) (by lia),show ((k:Int)+1)=((k+1:Nat):Int) by lia,tm_nw lt,show tm tt p+x.l - tm tt p - x.l=0 by lia];exact Int.zero_emod b
  ·refine ⟨tt++[tm tt p - x.l],by rw [av,lt];rfl,fun y hy=>?_⟩
   rcases aG.mp hy with z | z
   ·exact old _ y z
   ·rw [aw.mp z]
    refine ⟨?_,by lia,by lia⟩;unfold jq;rw [e1,e2,tm_ap (i:=p) (by lia) (by lia),show ((k:Int)+1)=((k+1:Nat):Int) by lia,tm_nw lt,show tm tt p - (tm tt p - x.l) - x.l=0 by lia];exact Int.zero_emod b
theorem Tre.cases (h:Tre b ws ws.length sp)(F:FrstL (ws.length+1) sp l):jg sp l=kQ ws:=by
 have E:j8 (ws.length+1) sp:=fun x hx=>by
  have s:=h.all x hx;exact ⟨s.s0,s.s1,s.g0,s.g1⟩
 have ti:∀ k:Int,1≤k→k<(ws.length+1:Nat)→TiedBy sp (10 ^ 60) k:=fun k a c=>h.tie k a (by lia)
 have ln:=frst_len E (by lia) ti F;have na:=frst_narrow E (.inr ti) F;rw [prodW_sub l (aK sp.length) (frst_nodup' F) (fun i hi=>bT.mpr (na i hi).1) (by rw [ba,h.cnt];lia),prodW_map,sp_rng,h.prd,bo]
theorem Tre.fits (h:Tre b ws k sp):∃ t,kT b t sp=true:=by
 obtain ⟨tt,_,ht⟩:=h.tab;refine ⟨tt,?_⟩;unfold kT;rw [fE,gH];intro x hx;have s:=h.all x hx;have lo:=s.lo;unfold brk;simp only [decide_eq_true_eq];rw [(ht x hx).1];lia
end
end HN
namespace L2
open PySem PySem.Spec PyProof.Rows
def jW:List Int→Int
 | []=>0
 | [a]=>a
 | a::b::l=>if a > jW (b::l) then a else jW (b::l)
theorem great_ok:∀ (l:List Int),l≠[]→jW l∈l∧∀ a∈l,a≤jW l
 | [],h=>pP rfl h
 | [a],_=>⟨by simp [jW],fun x hx=>by rw [aw.mp hx];exact gp _⟩
 | a::b::l,_=>by
  obtain ⟨h1,h2⟩:=great_ok (b::l) (by simp);show (if a > jW (b::l) then a else jW (b::l))∈a::b::l∧∀ x∈a::b::l,x≤(if a > jW (b::l) then a else jW (b::l));split
  ·refine ⟨aX ..,fun x hx=>?_⟩
   rcases aF.mp hx with rfl | hx
   ·exact gp _
   ·have:=h2 x hx;lia
  ·refine ⟨aD _ h1,fun x hx=>?_⟩
   rcases aF.mp hx with rfl | hx
   ·lia
   ·exact h2 x hx
def tBackF (te:TE):TE:=fun σ H Q=>te σ H fun x H1=>∃ a xs,x= .ref a∧H1 a=some (.lst xs)∧∀ l,H1 l=none→Q (.ref l) (upd H1 l (.lst xs.reverse))
theorem pe_backF {p3:Pos}{j}(he:PE X e te):PE X (.Subscript e (.Slice none none (some (.UnaryOp .USub (.Constant (.int 1) j p3) p1)) p2) pos) (tBackF te):=by
 intro aJ s σ H Q I h;refine Subscript_ (thn (he aJ s σ H _ I h) fun v s1 ⟨x,H1,I1,r1,q1⟩=>?_);obtain ⟨a,xs,rfl,hx,q⟩:=q1;refine wpAny_Slice ?_;rw [evalPart_none,evalPart_some];refine aA (aA ?_);refine thn ((pe_un un_neg bR:PE X (.UnaryOp .USub (.Constant (.int 1) j p3) p1) _) aJ s1 σ H1 (fun x H2=>x= .int (-1)∧H2=H1) I1 ⟨_,rfl,rfl,rfl⟩) fun u s2 ⟨x2,H2,I2,r2,e2,e3⟩=>?_
 subst e2 e3;obtain ⟨t,rfl⟩:=r2;cases r1;have I4:Inv X aJ σ H2 { s2 with heap:=s2.heap.push { cls:= .type "slice",data:= .fields #[.none,.none,.int (-1) t] } }:=I2.kept (t':=s2.toks) fun b ob q=>ak _ q
 obtain ⟨its,r,ht,hz⟩:=I4.list (SqL.of (K:=X.K) hx);have hlen:its.length=xs.length:=r.length.symm;refine tail_any (ops:=[.ref a,.ref s2.heap.objs.size]) ht.isList.typeIs slot_list_getitem.lookup (wpAny_getItem_list_slice ht.isList (bw.IsSliceOf.new ..) .none .none (.int (-1) t) (by decide) ?_ (by rw [aB,hlen];exact hz)) (by with_unfolding_all rfl);rw [pick_backL];refine ⟨.ref _,_,I4.laid (t':=s2.toks) (o:= .lst xs.reverse) (fun _ _ z=>ak _ z) (az _) ⟨by rw [List.length_reverse];exact hz,its.reverse,0,vals_back r,aN _ rfl⟩,rfl,q _ I4.fresh⟩
theorem call_max1 (hc:X.calm=true):CallR X (.builtin "max") (fun xs H Q=>∃ (p:ai) (ns:List Int),xs=[.ref p]∧SqL X.K H p (ns.map V.int)∧ns≠[]∧Q (.int (jW ns)) H):=by
 intro aJ s σ H xs us Q I r h;obtain ⟨p,ns,rfl,hq,hne,q⟩:=h;obtain ⟨u,rfl,ru⟩:=vals1 r;cases (show u=aa.ref p from ru);obtain ⟨its,rv,pl,hz⟩:=I.list hq;have hi:=ints_are rv;obtain ⟨ys,hx⟩:=hi.allInts.items;have hl':s.heap.IsList p (intItems ys):=hx ▸ pl.isList;have e1:ns=ys.toList.map (·.1):=by
  rw [←nums_intItems,←hx];exact (show numsOf its.toArray.toList=ns from hi.numsOf).symm
 have hsz:0<ys.size:=by
  have:0<ns.length:=j7.mpr hne;rw [e1,af,bW] at this;exact this
 refine max_intList (I.ok.hd hc) hl' hsz fun v h' tk hv hk=>?_
 obtain ⟨t,rfl⟩:=intItems_at hv;obtain ⟨b1,b2⟩:=argBest_gt (numAt ys) (ys.size - 1);obtain ⟨l1,l2⟩:=great_ok ns hne;have m1:numAt ys (argBest (fun i j=>decide (numAt ys i > numAt ys j)) (ys.size - 1))∈ns:=by
  rw [e1,numAt_eq];exact getD_mem (by rw [af,bW];lia)
 have m2:numAt ys (argBest (fun i j=>decide (numAt ys i > numAt ys j)) (ys.size - 1))=jW ns:=by
  refine Int.le_antisymm (l2 _ m1) ?_;have l3:jW ns∈ys.toList.map (·.1):=by rw [←e1];exact l1
  obtain ⟨j,hj,e⟩:=mem_getD l3;rw [af,bW] at hj;rw [←e,←numAt_eq];exact b2 j (by lia)
 rw [m2];exact ⟨.int (jW ns),H,I.kept (t':=tk) hk,⟨t,rfl⟩,q⟩
end L2
namespace HN
open PySem L2 PyProof.Rows
abbrev sNt6:cG:=top 59
inductive spNt6 (vs:List V)(H:Hp)(Q:VK)(_:XK):Prop
 | mk (p q:ai)(x y:Int)(ws:List Int)(_:vs=[.ref p,.ref q])(_:H p=some (.lst [.int x,.int y]))(_:H q=some (.lst (ws.map V.int)))(_:q≠p)(_:GdW ws)(_:∀ (t:ai) (b:Int) (sp:List Sn) (H':Hp),Mb p H H'→IsD H' (.ref t) (kN b ((ws.length+1:Nat):Int) sp)→NetT b ((ws.length+1:Nat):Int) sp→Tre b ws ws.length sp→Q (.ref t) H')
theorem scNt6:cj ["_law_box_here","_law_wides_here","_law_beat","_law_spans","_law_k","_law_ends","_law_least"] pzw (defScope sNt6):=by trivial
theorem ok_nt6 (F:Fun K "_law_net" "_law_net" sNt6 f fd)(T:Nm mg)(T2:Nt mg)(G1:Fn K mg "_law_draw" sDraw pzj f1 fd1):FnOk P w K mg base CX0 2 f fd pzw spNt6:=by
 have F1:FnOk P w K mg base CX0 1 f1 fd1 pzj spDraw:=ok_draw G1.F;refine F.ok scNt6 (by contradiction) (fun cdv A outer s H vs Q E hr h=>?_);obtain ⟨p,wq,x0,y0,ws,rfl,hp,hq,nq,g,k⟩:=h;refine ⟨_,PSl.h (bg ⟨(psZ 2 scNt6.nd (dU iA (dU iA bR (pc1 G1 F1 hr (aq (pv 0) (aq bR aP)))) (dU nE (dU op_pow bR bR) (pc1 G1 F1 hr (aq (pv 0) (aq bR aP))))))⟩
  (bg ⟨(psZ 2 scNt6.nd (dO (call_max2 rfl) rfl T2.max boot_max (aq (pv 2) (aq (dU iA bR (dO (call_max1 rfl) rfl T2.max boot_max (aq (pv 1) aP))) aP))))⟩
  (bg ⟨(psZ 3 scNt6.nd (pe_lstN aP))⟩
  (bg ⟨(iW bO rfl (gW rfl T2.range (aq (dO dk rfl T.len cO (aq (pv 1) aP)) aP)) (pgZ 4 scNt6.nd) (PSl.h (bg ⟨(psZ 5 scNt6.nd (pe_lstN (aq (dU iA (pv 4) bR) (aq (pc1 G1 F1 hr (aq (pv 0) (aq (dU iA (pv 4) bR) aP))) aP))))⟩
  (bg ⟨(ps_cutK (jB (dE ng (pc1 G1 F1 hr (aq (pv 0) (aq bR aP))) bR (eO _)) (dA (psZ 5 scNt6.nd (pe_backF (pv 5)))) fF))⟩
  (bg ⟨(psZ 6 scNt6.nd (pc1 G1 F1 hr (aq (pv 0) (aq (pv 2) aP))))⟩
  (c9 ⟨(jS (oH bK cB cA iL (pv 3) (aq (fb (aq (eN fc (pv 5) bR (fun _ _=>rfl)) (aq (eN fc (pv 5) bR (fun _ _=>rfl)) (aq (pv 6) (aq (dU iA (pv 6) (eN fc (pv 1) (pv 4) (fun _ _=>rfl))) (aq bR aP)))))) aP)))⟩))))))⟩
  (c9 ⟨(cM (fb (aq (pv 2) (aq (dU iA (dO dk rfl T.len cO (aq (pv 1) aP)) bR) (aq (eR ji rfl T.ttup jj (aq (pv 3) aP)) aP)))))⟩))))),?_⟩
 obtain ⟨g1,g2,g3⟩:=g;refine ⟨_,rfl,p,x0,y0,100,rfl,hp,by decide,by decide,fun r1 H1 a1 c1 M1=>⟨_,_,rfl,rfl,?_⟩⟩;obtain ⟨x1,y1,hp1⟩:=M1.2;refine ⟨_,_,rfl,rfl,⟨by decide,by decide,by decide⟩,_,rfl,p,x1,y1,2,rfl,hp1,by decide,by decide,fun r2 H2 a2 c2 M2=>?_⟩;have M2:=M1.trans M2;obtain ⟨x2,y2,hp2⟩:=M2.2;refine ⟨_,_,rfl,rfl,.inr ⟨by lia,by lia⟩,_,_,rfl,rfl,?_⟩;have e21:(10:Int) ^ (21:Int).toNat=1000000000000000000000:=by decide
 have nw:ws≠[]:=fun z=>by rw [z] at g1;exact pP g1 (by decide)
 obtain ⟨m1,m2⟩:=great_ok ws nw;have gm:=g3 _ m1;refine ⟨_,rfl,_,rfl,wq,ws,rfl,SqL.of (M2.at hq nq),nw,_,_,rfl,rfl,_,_,rfl,?_⟩;obtain ⟨b,eb⟩:∃ b:Int,b=(if 1+jW ws > 5000+r1+10 ^ (21:Int).toNat * r2 then 1+jW ws else 5000+r1+10 ^ (21:Int).toNat * r2):=⟨_,rfl⟩;have hb:1≤b∧b≤10 ^ 22∧∀ w∈ws,w<b:=by
  have e1:(10:Int) ^ 22=10000000000000000000000:=by decide
  have e2:(10:Int) ^ 20=100000000000000000000:=by decide
  rw [eb,e21];split
  ·exact ⟨by lia,by lia,fun w hw=>by have:=m2 w hw;lia⟩
  ·exact ⟨by lia,by lia,fun w hw=>by have:=m2 w hw;lia⟩
 refine ⟨bE _,fun Ls H3 nLs S3 h3=>?_⟩;have M3:=M2.then S3;have nLp:Ls≠p:=fun z=>by rw [z,hp2] at nLs;cases nLs
 have HLs:H Ls=none:=by
  cases e:H Ls with
  | none=>rfl
  | some o=>rw [M2.at e nLp] at nLs;cases nLs
 refine ⟨_,rfl,wq,_,rfl,.inl (SqL.of (M3.at hq nq)),_,rfl,by lia,by rw [af];lia,?_⟩;rw [af,bV];have mt:∀ {Ha Hb:Hp} {x y:Int},Ha p=some (.lst [.int x,.int y])→Mb p Ha Hb→TupK Ha Hb:=fun h M a xs e=>M.1 a _ (eV e h nofun) e
 refine lG (n:=ws.length) (fun i σ H'=>Mb p H H'∧∃ (zs:List V) (sp:List Sn) (v4 v5 v6:Option V),H' Ls=some (.lst zs)∧IsDs H' zs (eU Sn.row sp)∧Tre b ws i sp∧σ=[some (.ref p),some (.ref wq),some (.int b),some (.ref Ls),v4,v5,v6]) ⟨M3,[],[],none,none,none,h3,.nil,Tre.nil,by subst eb;rfl⟩ ?_ ?_
 all_goals clear eb
 ·rintro i σ H4 hi ⟨M4,zs,sp,v4,v5,v6,hL,dz,tr,rfl⟩
  have lz:zs.length=sp.length:=by rw [dz.length];unfold eU;rw [af]
  have c1:sp.length=i:=tr.cnt;obtain ⟨x4,y4,hp4⟩:=M4.2;have e0:(0:Int)+(i:Int)+1=(i:Int)+1:=by lia
  have c61:(100:Int)<10 ^ 61:=by decide
  have c60:(2:Int) * 10 ^ 22<10 ^ 60:=by decide
  have c59:(10:Int) ^ 22≤10 ^ 59:=by decide
  refine ⟨_,rfl,_,_,rfl,rfl,_,rfl,_,rfl,_,_,rfl,rfl,p,x4,y4,_,rfl,hp4,(by show (0:Int)<0+(i:Int)+1;lia),(by show (0:Int)+(i:Int)+1<10 ^ 61;lia),fun r5 H5 a5 c5 M5=>⟨oY,fun le H6 nle S6 h6=>?_⟩⟩;have c5:r5<0+(i:Int)+1:=c5;obtain ⟨x5,y5,hp5⟩:=M5.2;have nlp:le≠p:=fun z=>by rw [z,hp5] at nle;cases nle
  have M6:=M5.then S6;have hp6:=S6 _ _ hp5;refine ⟨fun σ' H'=>Mb p H4 H'∧∃ (e:ai) (es eg:Int),H' e=some (.lst [.int es,.int eg])∧e≠p∧((es=r5∧eg=(i:Int)+1)∨(eg=r5∧es=(i:Int)+1))∧σ'=[some (.ref p),some (.ref wq),some (.int b),some (.ref Ls),some (.int (0+(i:Int))),some (.ref e),v6],?_,?_⟩
  rotate_left
  ·refine ⟨_,rfl,p,x5,y5,2,rfl,hp6,by decide,by decide,fun r7 H7 a7 c7 M7=>⟨rfl,_,rfl,?_⟩⟩
   have h7:=M7.at h6 nlp;have M7:=M6.trans M7;obtain ⟨x7,y7,hp7⟩:=M7.2;refine ite2 (fun _=>?_) (fun _=>⟨M7,le,_,_,h7,nlp,.inr ⟨rfl,e0⟩,rfl⟩);refine ⟨_,rfl,le,_,rfl,h7,fun lr hlr=>⟨M7.then ((Same.refl H7).put hlr),lr,_,_,aW,fun z=>(by rw [z,hp7] at hlr;cases hlr),.inl ⟨rfl,e0⟩,rfl⟩⟩
  ·rintro σ' H7 ⟨M7,e,es,eg,h7,nep,hsg,rfl⟩
   obtain ⟨x7,y7,hp7⟩:=M7.2;have big:(10:Int) ^ 22<10 ^ 61:=by decide
   refine ⟨_,rfl,_,rfl,p,x7,y7,b,rfl,hp7,by lia,by lia,fun r8 H8 a8 c8 M8=>?_⟩;have h8:=M8.at h7 nep;have M8:=M7.trans M8;have hL8:=M8.at hL nLp;have hw8:=(M4.trans M8).at hq nq;refine ⟨_,rfl,.inl ⟨rfl,_,SqL.of hL8⟩,_,rfl,e,_,_,_,rfl,rfl,SqL.of h8,bc (j:=0) rfl,_,rfl,e,_,_,_,rfl,rfl,SqL.of h8,bc (j:=1) rfl,_,rfl,_,rfl,_,rfl,_,rfl,wq,_,_,_,rfl,rfl,SqL.of hw8,(by rw [jn];exact bc (v:=V.int ws[i]) (by rw [ax,gE hi];rfl)),_,_,rfl,rfl,szZ5,fun t H9 S9 h9=>?_⟩;have M9:=M8.then S9;have hL9:=S9 _ _ hL8;obtain ⟨x9,y9,hp9⟩:=M9.2;refine ⟨Ls,zs,.ref t,rfl,rfl,hL9,bU (by lia:zs.length≤4) (by decide),?_⟩;have wi:=hb.2.2 ws[i] (bu hi);have w0:=g3 ws[i] (bu hi);have ok:SnOk b (ws.length+1:Nat) ⟨es,eg,r8,r8+ws[i],0⟩:=⟨by show 0≤es;lia,by show es<_;lia,by show 0≤eg;lia,by show eg<_;lia,by show es≠eg;lia,a8,by show r8≤r8+ws[i];lia,by show r8+ws[i]<r8+b;lia,by show r8+ws[i]<10 ^ 60;lia,by show (0:Int)≤0;lia,by show (0:Int)≤1000000000000;lia⟩;have KB:TupK H4 H9:=mt hp4 M9;have KC:TupK H9 (upd H9 Ls (.lst (zs++[.ref t]))):=i6 hL9;refine ⟨⟨fun a o n e=>?_,x9,y9,by rw [aZ (cn nLp)];exact hp9⟩,zs++[.ref t],sp++[⟨es,eg,r8,r8+ws[i],0⟩],_,_,_,aW,?_,tr.link (by lia) (by lia) ok hi (by show r8+ws[i] - r8=ws[i];lia) a5 (by lia) (by show (es=_∧eg=_)∨(eg=_∧es=_);exact hsg),rfl⟩
   ·rw [aZ (fun z=>by rw [z,HLs] at e;cases e)]
    exact (M4.trans M9).1 a o n e
   ·have r:=eP (KB.trans KC) dz
    unfold eU at r ⊢;rw [aM];exact r.append (.cons (.tup (KC _ _ h9) (IsDs.ints (Sn.row ⟨es,eg,r8,r8+ws[i],0⟩))) .nil)
 ·rintro σ H4 ⟨M4,zs,sp,v4,v5,v6,hL,dz,tr,rfl⟩
  refine ⟨_,rfl,_,rfl,wq,_,rfl,.inl (SqL.of (M4.at hq nq)),_,_,rfl,rfl,_,rfl,Ls,_,rfl,SqL.of hL,fun qB HB SB hB=>⟨(by show 3≤aR;decide),fun tC HC SC hC=>?_⟩⟩;have SBC:=SB.trans SC;rw [af] at hC;have c1:sp.length=ws.length:=tr.cnt;have e1:(10:Int) ^ 22≤10 ^ 59:=by decide
  refine k tC b sp HC (M4.then SBC) ?_ ⟨hb.1,by lia,by lia,by lia,by lia,tr.all⟩ tr;exact .tup hC (.cons (.int b) (.cons (.int _) (.cons (.tup (SC _ _ hB) (dz.same SBC)) .nil)))
abbrev sKp:cG:=top 56
abbrev sAKp:cG:=top 57
inductive spKp (vs:List V)(H:Hp)(Q:VK)(_:XK):Prop
 | mk (v:V)(q u:ai)(b m:Int)(sp:List Sn)(x:Sn)(ts:List Int)(_:vs=[v,.ref q,.ref u])(_:IsD H v (kN b m sp))(_:0<b)(_:H q=some (.tup (x.row.map V.int)))(_:H u=some (.tup (ts.map V.int)))(_:(0≤x.s∧x.s<ts.length))(_:(0≤x.g∧x.g<ts.length))(_:Q (.bl (decide (jq b ts x≤x.o - x.l))) H)
inductive spAKp (vs:List V)(H:Hp)(Q:VK)(_:XK):Prop
 | mk (v:V)(u:ai)(b m:Int)(sp:List Sn)(ts:List Int)(_:vs=[v,.ref u])(_:IsD H v (kN b m sp))(_:NetT b m sp)(_:H u=some (.tup (ts.map V.int)))(_:(ts.length:Int)=m)(_:kT b ts sp=true)(_:∀ H',Same H H'→Q (.bl true) H')
theorem scKp:cj ["_law_net_here","_law_span","_law_table","_law_wait"] pzx (defScope sKp):=by trivial
theorem ok_kp (F:Fun K "_law_kept" "_law_kept" sKp f fd):FnOk P w K mg base CX0 1 f fd pzx spKp:=by
 refine F.ok scKp (by contradiction) (fun cdv A outer s H vs Q E hr h=>?_);obtain ⟨v,q,u,b,m,sp,x,ts,rfl,hv,b0,hq,hu,⟨s0,s1⟩,⟨g0,g1⟩,k⟩:=h;obtain ⟨t,p,ys,rfl,ht,hp,hl,hy⟩:=fH hv;refine ⟨_,PSl.h (bg ⟨(psZ 3 scKp.nd (dU nF (dU op_sub (dU op_sub (eN fu (pv 2) (ixZ (pv 1)) (fun _ _=>rfl)) (eN fu (pv 2) (ixZ (pv 1)) (fun _ _=>rfl))) (ixZ (pv 1))) (ixZ (pv 0))))⟩
  (c9 ⟨(cM (pe_cmpR op_le (pv 3) (dU op_sub (ixZ (pv 1)) (ixZ (pv 1))) (eO _)))⟩)),?_⟩
 refine ⟨_,rfl,_,rfl,q,_,_,_,rfl,rfl,SqT.of hq,bc (j:=1) rfl,u,_,_,_,rfl,rfl,SqT.of hu,nZ g0 g1,?_⟩;refine ⟨_,rfl,_,rfl,q,_,_,_,rfl,rfl,SqT.of hq,bc (j:=0) rfl,u,_,_,_,rfl,rfl,SqT.of hu,nZ s0 s1,_,_,rfl,rfl,?_⟩;refine ⟨_,rfl,q,_,_,_,rfl,rfl,SqT.of hq,bc (j:=2) rfl,_,_,rfl,rfl,?_⟩;refine ⟨_,rfl,t,_,_,_,rfl,rfl,SqT.of ht,bc (j:=0) rfl,_,_,rfl,rfl,b0,?_⟩;refine ⟨_,rfl,_,rfl,q,_,_,_,rfl,rfl,SqT.of hq,bc (j:=3) rfl,_,rfl,q,_,_,_,rfl,rfl,SqT.of hq,bc (j:=2) rfl,_,_,rfl,rfl,_,_,rfl,rfl,k⟩
theorem scAKp:cj pzo pzo (defScope sAKp):=by trivial
theorem ok_akp (F:Fun K "_law_all_kept" "_law_all_kept" sAKp f fd)(G1:Fn K mg "_law_kept" sKp pzx f1 fd1):FnOk P w K mg base CX0 2 f fd pzo spAKp:=by
 have F1:FnOk P w K mg base CX0 1 f1 fd1 pzx spKp:=ok_kp G1.F;refine F.ok scAKp (by contradiction) (fun cdv A outer s H vs Q E hr h=>?_);obtain ⟨v,u,b,m,sp,ts,rfl,hv,N,hu,lt,hf,k⟩:=h;obtain ⟨t,p,ys,rfl,ht,hp,hl,hy⟩:=fH hv;have few:=N.few;refine ⟨_,PSl.h (c9 ⟨(cM (pe_cmpR (op_eqL0 hr.units0) (ij (fr:=pzo) (js:=[0,1]) rfl (oE (ixZ (pv 0))) (by trivial) rfl (by trivial) rfl (by exists sAKp) (by trivial) rfl (by trivial) (fun _ _ _ _ _=>⟨(pv 0),(mZ (pt_not (pt_val (pc1 G1 F1 hr (aq (pv 1) (aq (pv 0) (aq (pv 2) aP)))))))⟩)) (oF aP) (eO _)))⟩),?_⟩;refine ⟨_,rfl,t,_,_,_,rfl,rfl,SqT.of ht,bc (j:=2) rfl,p,rfl,⟨_,SqT.of hp⟩,?_⟩;refine nS (K:=K) (a:=p) (xs:=ys) (fun i zs H2=>H2=H∧zs=[]) ⟨rfl,rfl⟩ (fun i zs H2 hi ⟨e1,e2⟩=>⟨by rw [e1];exact SqT.of hp,by rw [e2];exact bE _⟩) (by rw [hl];exact eK (by lia)) (fun i x zs H2 hx ⟨e1,e2⟩=>?_) (fun zs H2 ⟨e1,e2⟩ D hD=>?_)
 ·subst e1
  have hi:i<sp.length:=by rw [←hl];exact (ar.mp hx).1
  obtain ⟨q,hq,hq2⟩:=hy i sp[i] (gE hi);rw [hx] at hq;cases hq;have s:=N.all _ (bu hi);have b1:=N.b1;have nb:brk b ts sp[i]=false:=by
   unfold kT at hf;rw [fE,gH] at hf;have:=hf _ (bu hi);cases e:brk b ts sp[i] with
   | true=>exact pP e this
   | false=>rfl
  have kk:decide (jq b ts sp[i]≤sp[i].o - sp[i].l)=true:=by
   unfold brk at nb;have:=of_decide_eq_false nb;exact pQ (by lia)
  refine ⟨_,rfl,_,rfl,_,rfl,.ref t,q,u,b,m,sp,sp[i],ts,rfl,hv,by lia,hq2,hu,⟨s.s0,by have:=s.s1;lia⟩,⟨s.g0,by have:=s.g1;lia⟩,?_⟩;rw [kk];refine ⟨_,rfl,?_⟩;exact ⟨rfl,e2⟩
 ·subst e1 e2
  refine ⟨(by show 0≤aR;exact bE _),fun l2 H3 S3 h3=>⟨D,l2,_,rfl,rfl,SqL.of (S3 _ _ aW),SqL.of h3,?_⟩⟩;exact k H3 (((Same.refl H2).put hD).trans S3)
abbrev sWidth:cG:=top 10
theorem scWidth:cj ["net","span","least","most"] pzd (defScope sWidth):=by trivial
theorem ok_width (F:Fun K "width_of" "width_of" sWidth f fd):FnOk P w K mg base CX0 1 f fd pzd spWidth:=by
 refine F.ok scWidth (by contradiction) (fun cdv A outer s H vs Q E hr h=>?_);obtain ⟨v,b,m,sp,i,x,rfl,hv,hx,k⟩:=h;obtain ⟨t,p,ys,rfl,ht,hp,hl,hy⟩:=fH hv;obtain ⟨q,hq,hq2⟩:=hy i x hx;refine ⟨_,PSl.h (bg ⟨(psZ 2 scWidth.nd (ixZ (eN fu (ixZ (pv 0)) (pv 1) (fun _ _=>rfl))))⟩
  (bg ⟨(psZ 3 scWidth.nd (ixZ (eN fu (ixZ (pv 0)) (pv 1) (fun _ _=>rfl))))⟩
  (c9 ⟨(cM (dU op_sub (pv 3) (pv 2)))⟩))),?_⟩
 refine ⟨_,rfl,t,_,_,_,rfl,rfl,SqT.of ht,bc (j:=2) rfl,_,rfl,p,_,_,_,rfl,rfl,SqT.of hp,bc (j:=i) hq,q,_,_,_,rfl,rfl,SqT.of hq2,bc (j:=2) rfl,?_⟩;refine ⟨_,rfl,t,_,_,_,rfl,rfl,SqT.of ht,bc (j:=2) rfl,_,rfl,p,_,_,_,rfl,rfl,SqT.of hp,bc (j:=i) hq,q,_,_,_,rfl,rfl,SqT.of hq2,bc (j:=3) rfl,?_⟩;exact ⟨_,rfl,_,rfl,_,_,rfl,rfl,k⟩
abbrev sSpW:cG:=top 19
abbrev kW:cG:=top 20
def lamPos:List cG→Pos
 | [.Return (some (.Call _ _ [⟨_,.Lambda _ _ _ lp,_⟩] _)) _]=>lp
 | _=>⟨0,0,0,0⟩
abbrev lpW:Pos:=lamPos (fJ sSpW)
abbrev lqW:Str:=(("spans_by_width" :Str) ++ ".<locals>.") ++ "<lambda>"
theorem okC {c:ai}{k:Nat}{sp:Sp}(F:Fun K x qual st f fd)(hc:fd.code= .ref c)(S:cj N ps (defScope st))(len:∀ vs H Q E,sp vs H Q E→vs.length=ps.length)
  (hbody:∀ (A:bG) (outer:List Env) (s:ao) (H:Hp) (vs:List V) (Q:VK) (E:XK),Room k (A.deeper (envOfC qual (defScope st) s.heap.objs.size f (.ref c)))→sp vs H Q E →
   ∃ t,PSs (cxOf CX0 P w K mg base N qual (defScope st) f (.ref c) A outer s H E).nox (fJ st) t∧t { nx:=fun _ H'=>Q .non H',rt:=Q } (L2.start N vs) H):FnOk P w K mg base CX0 (k+1) f fd ps sp:=by
 obtain ⟨oc,od,kV,doc,pm,an,cdv,ct,osl,rfl,lk,hcd⟩:=F.ex;have hc:cdv= .ref c:=hc;subst hc;refine fn_of lk hcd S len fun A outer s H vs Q E hr hsp=>?_
 obtain ⟨t,h,q⟩:=hbody A outer s H vs Q E hr hsp;exact ⟨t,h.nox,q⟩
theorem scSpW:cj pza pza (defScope sSpW):=by trivial
theorem ok_spW {c:ai}(F:Fun K "spans_by_width" "spans_by_width" sSpW f fd)(hcd:fd.code= .ref c)(C:de K c Tb0=true)(B:BM mg base)(T:Nm mg)(T2:Nt mg)(ms:mg "sorted" =none)(G1:Fn K mg "width_of" sWidth pzd f1 fd1) :
  FnOk P w K mg base CX0 5 f fd pza (spSpW Tb0 lpW lqW):=by
 have F1:FnOk P w K mg base CX0 1 f1 fd1 pzd spWidth:=ok_width G1.F;refine okC F hcd scSpW (by contradiction) (fun A outer s H vs Q E hr h=>?_);obtain ⟨v,b,m,sp,rfl,hv,few,hT,k⟩:=h;obtain ⟨t,p,ys,rfl,ht,hp,hl,hy⟩:=fH hv;refine ⟨_,PSl.h (c9 ⟨(cM (pe_sortL (js:=[0]) (fr:=pza) (x := "span") (c:=c) (P:=Tb0) rfl hr.depth rfl ms (eR oU rfl T2.range boot_range (aq (dO dk rfl T.len cO (aq (ixZ (pv 0)) aP)) aP)) rfl rfl C B (fun _ _ _ _ _ _=>rfl) rfl rfl rfl (by trivial) rfl (by decide) (by exists sSpW) rfl (by trivial)
  (fun cl L f' cd s' H'=>pe_tup (aq (pc1 G1 F1 (((hr.in1).in1).deeper _ |>.mono (by decide)) (aq (pv 1) (aq (pv 0) aP))) (aq (pv 0) aP)))))⟩),?_⟩
 refine ⟨_,rfl,t,_,_,_,rfl,rfl,SqT.of ht,bc (j:=2) rfl,p,_,rfl,.inr (SqT.of hp),_,rfl,fun r H1 S1 hr1=>?_⟩;have hv1:IsD H1 (.ref t) (kN b m sp):=hv.same S1;have hT1:=LamT.same S1 hT;refine ⟨r,ys.length,wkey sp,rfl,hr1,by lia,hT1,wkey_nodup sp _,fun i hi H2 tb=>?_,fun D H4 π tb lt hD pm pw=>?_⟩
 ·have hv2:=cw (Tb.tupK (LamT.tbl hT1) tb) hv1
  refine ⟨_,rfl,_,rfl,.ref t,b,m,sp,i,sAt sp i,rfl,hv2,ju (by lia),_,rfl,oY,fun q hq=>⟨fun a o e=>by rw [aZ (bB e hq)];exact e,q,rfl,aW⟩⟩
 ·exact k D H4 π ((Same.tb S1).trans tb) lt hD ⟨by rw [←hl];exact pm,pw⟩
theorem kD:cj ["net","groups","taken","span","one","other"] pza (defScope kW):=by trivial
theorem ok_forest (F:Fun K "forest_of" "forest_of" kW f fd)(T:Nm mg)(T2:Nt mg)(ms:mg "sorted" =none)(G1:Fn K mg "spans_by_width" sSpW pza f1 fd1)(F1:FnOk P w K mg base CX0 5 f1 fd1 pza (spSpW Tb0 lp lq)) :
  FnOk P w K mg base CX0 6 f fd pza (kB Tb0 lp lq):=by
 refine F.ok kD (by contradiction) (fun cdv A outer s H vs Q E hr h=>?_);obtain ⟨v,b,m,sp,rfl,hv,N,hT,k⟩:=h;obtain ⟨t,p,ys,rfl,ht,hp,hl,hy⟩:=fH hv;obtain ⟨mn,rfl⟩:=dQ (show 0≤m by have:=N.m1;lia);have m2:=N.m2;have few:=N.few;have E:=N.ends;rw [bV] at E k;refine ⟨_,PSl.h (bg ⟨(psZ 1 kD.nd (eR (pJ rfl) rfl T2.tlist boot_list (aq (eR oU rfl T2.range boot_range (aq (ixZ (pv 0)) aP)) aP)))⟩
  (bg ⟨(psZ 2 kD.nd (jT aP))⟩
  (bg ⟨(iW bO rfl (fU (pc1 G1 F1 hr (aq (pv 0) aP))) (pgZ 3 kD.nd) (PSl.h (bg ⟨(psZ 4 kD.nd (eN fc (pv 1) (ixZ (eN fu (ixZ (pv 0)) (pv 3) (fun _ _=>rfl))) (fun _ _=>rfl)))⟩
  (bg ⟨(psZ 5 kD.nd (eN fc (pv 1) (ixZ (eN fu (ixZ (pv 0)) (pv 3) (fun _ _=>rfl))) (fun _ _=>rfl)))⟩
  (c9 ⟨(jB (dE op_ne (pv 4) (pv 5) (eO _)) (PSl.h (bg ⟨(jS (oH bK cB cA iL (pv 2) (aq (pv 3) aP)))⟩
  (c9 ⟨(oo (iy:=1) (fr:=["one","other"]) (js:=[4,5]) kD.nd rfl (.inl rfl) rfl (fU (pv 1)) (by trivial) rfl (by trivial) rfl (by exists kW) (by trivial) rfl (by trivial) (fun _ _ _ _ _=>⟨(nP (dE ng (pv 0) (pv 2) (eO _)) (pv 1) (pv 0)),ig⟩))⟩))) fF)⟩)))))⟩
  (c9 ⟨(cM (eR ji rfl T.ttup jj (aq (dO call_sortedI rfl ms boot_sorted (aq (pv 2) aP)) aP)))⟩)))),?_⟩
 refine ⟨_,rfl,t,_,_,_,rfl,rfl,SqT.of ht,bc (j:=1) rfl,(mn:Int),rfl,fun a1 H1 S1 h1=>⟨a1,mn,rfl,h1,by lia,fun Lg hLg=>?_⟩⟩;have S2:Same H (upd H1 Lg (.lst ((aK mn).map fun k=>V.int (k:Nat)))):=S1.trans (Same.put (Same.refl H1) hLg);have hLg2:(upd H1 Lg (.lst ((aK mn).map fun k=>V.int (k:Nat)))) Lg=some (.lst ((iI mn).map V.int)):=by rw [aW];unfold iI;rw [cU];rfl
 generalize upd H1 Lg (.lst ((aK mn).map fun k=>V.int (k:Nat)))=H2 at S2 hLg2 ⊢;refine ⟨bE _,fun Lt hLt=>?_⟩;have S3:Same H (upd H2 Lt (.lst [])):=S2.trans (Same.put (Same.refl H2) hLt);have hgt:Lg≠Lt:=fun z=>by rw [z,hLt] at hLg2;cases hLg2
 have hLt3:(upd H2 Lt (.lst [])) Lt=some (.lst []):=aW;have hLg3:(upd H2 Lt (.lst [])) Lg=some (.lst ((iI mn).map V.int)):=by rw [aZ hgt];exact hLg2
 generalize upd H2 Lt (.lst [])=H3 at S3 hLt3 hLg3 ⊢;have hT3:=LamT.same S3 hT;obtain ⟨ps3,hTb3⟩:=LamT.tbl hT3;refine ⟨_,rfl,.ref t,b,mn,sp,rfl,hv.same S3,few,hT3,fun D H4 π tb4 hT4 hD O=>?_⟩;obtain ⟨ps4,hTb4⟩:=LamT.tbl hT4;have nLg:Lg≠Tb0:=eV hLg3 hTb3 nofun;have nLt:Lt≠Tb0:=eV hLt3 hTb3 nofun;have hLg4:=tb4 _ _ nLg hLg3;have hLt4:=tb4 _ _ nLt hLt3;have nDg:D≠Lg:=fun z=>by rw [z,hLg4] at hD;cases hD
 have nDt:D≠Lt:=fun z=>by rw [z,hLt4] at hD;cases hD
 have S5:Same H4 (upd H4 D (.lst (π.map fun (i:Nat)=>V.int i))):=Same.put (Same.refl H4) hD;have tb5:L2.Tb Tb0 H (upd H4 D (.lst (π.map fun (i:Nat)=>V.int i))):=((Same.tb S3).trans tb4).trans (Same.tb S5);have hT5:=LamT.same S5 hT4;have hD5:(upd H4 D (.lst (π.map fun (i:Nat)=>V.int i))) D=some (.lst (π.map fun (i:Nat)=>V.int i)):=aW;have hLg5:=S5 _ _ hLg4;have hLt5:=S5 _ _ hLt4;generalize upd H4 D (.lst (π.map fun (i:Nat)=>V.int i))=H5 at tb5 hT5 hD5 hLg5 hLt5 ⊢;have hLtN:∀ o,H Lt=some o→False:=fun o e=>by rw [S2 _ _ e] at hLt;cases hLt
 clear hLg4 hLt4 S5 hD hTb4 hT4 tb4 hLg3 hLt3 hT3 hTb3 hLg2 hLt S2 h1 S1 hLg S3;refine ⟨D,rfl,⟨_,SqL.of hD5⟩,?_⟩;have tkE:∀ {H':Hp},L2.Tb Tb0 H H'→TupK H H':=fun e=>Tb.tupK (LamT.tbl hT) e
 refine jE (K:=K) (a:=D) (xs:=π.map fun (i:Nat)=>V.int i) (fun i σ HA=>L2.Tb Tb0 H HA∧L2.LamT Tb0 lp lq HA∧HA D=some (.lst (π.map fun (i:Nat)=>V.int i))∧∃ (La:ai) (v3 v4 v5:Option V),σ=[some (.ref t),some (.ref La),some (.ref Lt),v3,v4,v5]∧La≠Lt∧HA La=some (.lst (((π.take i).foldl (d8 sp) (iI mn,[])).1.map V.int))∧HA Lt=some (.lst (((π.take i).foldl (d8 sp) (iI mn,[])).2.map fun (i:Nat)=>V.int i)))
  ⟨tb5,hT5,hD5,Lg,none,none,none,rfl,hgt,hLg5,hLt5⟩ (fun i σ HA _ ⟨_,_,h,_⟩=>SqL.of h) ?_ ?_
 ·rintro i x σ HA hx ⟨tbA,hTA,hDA,La,v3,v4,v5,rfl,nLa,hLa,hLtA⟩
  rw [ax] at hx;obtain ⟨j,hj,rfl⟩:=aI.mp hx;have hjn:j<sp.length:=O.lt (aO hj);have hvA:=cw (tkE tbA) hv;obtain ⟨t',p',ys',e0,htA,hpA,hlA,hyA⟩:=fH hvA;cases e0;obtain ⟨q,hq,hq2⟩:=hyA j _ (ju hjn);obtain ⟨s0,s1,g0,g1⟩:=E _ (eM hjn);have fold:(π.take (i+1)).foldl (d8 sp) (iI mn,[])=d8 sp ((π.take i).foldl (d8 sp) (iI mn,[])) j:=by
   rw [bh,hj];show (π.take i++[j]).foldl _ _=_;rw [cx];rfl
  rw [fold];obtain ⟨gl,gb⟩:((π.take i).foldl (d8 sp) (iI mn,[])).1.length=mn∧((π.take i).foldl (d8 sp) (iI mn,[])).2.length≤sp.length:=by
   refine ⟨(oO E (π.take i) _ _ [] (fun i hi=>O.lt (jM hi)) (Rl.start mn)).1.len,?_⟩;have:=(jQ sp (π.take i) (iI mn,[])).2;rw [bI] at this;have h2:=O.len;show _≤_;have h3:((iI mn,([]:List Nat)).2).length=0:=rfl;lia
  generalize (π.take i).foldl (d8 sp) (iI mn,[])=c at hLa hLtA gl gb ⊢;obtain ⟨gs,tk⟩:=c;have hLa:HA La=some (.lst (gs.map V.int)):=hLa;have hLtA:HA Lt=some (.lst (tk.map fun (i:Nat)=>V.int i)):=hLtA;have gl:gs.length=mn:=gl;have gb:tk.length≤sp.length:=gb;have es:=nZ (ts:=gs) s0 (by lia);have eg:=nZ (ts:=gs) g0 (by lia);refine ⟨_,rfl,_,rfl,t,_,_,_,rfl,rfl,SqT.of htA,bc (j:=2) rfl,_,rfl,p',_,_,_,rfl,rfl,SqT.of hpA,bc (j:=j) hq,q,_,_,_,rfl,rfl,SqT.of hq2,bc (j:=0) rfl,La,_,_,_,rfl,rfl,SqL.of hLa,es,?_⟩;refine ⟨_,rfl,_,rfl,t,_,_,_,rfl,rfl,SqT.of htA,bc (j:=2) rfl,_,rfl,p',_,_,_,rfl,rfl,SqT.of hpA,bc (j:=j) hq,q,_,_,_,rfl,rfl,SqT.of hq2,bc (j:=1) rfl,La,_,_,_,rfl,rfl,SqL.of hLa,eg,?_⟩;refine ⟨_,rfl,_,rfl,rfl,_,rfl,?_⟩
  by_cases e:tm gs (sAt sp j).s=tm gs (sAt sp j).g
  ·have st:d8 sp (gs,tk) j=(gs,tk):=by unfold d8;exact pO e
   rw [st,e,pQ rfl];exact iteF ⟨tbA,hTA,hDA,La,_,_,_,rfl,nLa,hLa,hLtA⟩
  ·have st:d8 sp (gs,tk) j=(ik gs (tm gs (sAt sp j).s) (tm gs (sAt sp j).g),tk++[j]):=by unfold d8;exact pN e
   rw [st,pR (fun z=>e (V.int.inj z))];refine iteT ?_;obtain ⟨x,hx⟩:∃ x,x=tm gs (sAt sp j).s:=⟨_,rfl⟩;obtain ⟨y,hy⟩:∃ y,y=tm gs (sAt sp j).g:=⟨_,rfl⟩;rw [←hx,←hy] at e ⊢;refine ⟨_,rfl,.inl ⟨rfl,_,SqL.of hLtA⟩,_,rfl,Lt,_,_,rfl,rfl,hLtA,mG (by rw [af];lia),?_⟩;have hLt6:(upd HA Lt (.lst ((tk.map fun (i:Nat)=>V.int i)++[V.int j]))) Lt=some (.lst ((tk++[j]).map fun (i:Nat)=>V.int i)):=by rw [aW,aM];rfl
   have keep:∀ a o,a≠Lt→HA a=some o→(upd HA Lt (.lst ((tk.map fun (i:Nat)=>V.int i)++[V.int j]))) a=some o:=fun a o h e=>by rw [aZ h];exact e
   have nTL:Tb0≠Lt:=fun z=>nLt z.symm
   have tb6:L2.Tb Tb0 H (upd HA Lt (.lst ((tk.map fun (i:Nat)=>V.int i)++[V.int j]))):=fun a o hn e=>keep a o (fun z=>by subst z;exact hLtN _ e) (tbA a o hn e)
   have hT6:L2.LamT Tb0 lp lq (upd HA Lt (.lst ((tk.map fun (i:Nat)=>V.int i)++[V.int j]))):=LamT.upd hTA (fun p u z=>by rw [hLtA] at z;cases z) fun ps z=>by rw [hLtA] at z;cases z
   have hD6:=keep _ _ nDt hDA;have hLa6:=keep _ _ nLa hLa;generalize upd HA Lt (.lst ((tk.map fun (i:Nat)=>V.int i)++[V.int j]))=HB at hLt6 keep tb6 hT6 hD6 hLa6 ⊢;refine ⟨_,rfl,La,rfl,⟨_,SqL.of hLa6⟩,?_⟩;refine gY (K:=K) (a:=La) (xs:=gs.map V.int) (fun i zs HC=>HC=HB∧zs=(ik (gs.take i) x y).map V.int) ⟨rfl,rfl⟩ (fun i zs HC hi ⟨e1,e2⟩=>?_) (by rw [af];exact eK (by lia)) (fun i v zs HC hv ⟨e1,e2⟩=>?_) (fun zs HC ⟨e1,e2⟩ L hL=>?_)
   ·subst e1
    refine ⟨SqL.of hLa6,?_⟩;rw [af] at hi;rw [e2,af];unfold ik;rw [af,bI];lia
   ·subst e1
    rw [ax] at hv;obtain ⟨g,hg,rfl⟩:=aI.mp hv;refine gk ?_;have nx:zs++[V.int (if g=y then x else g)]=(ik (gs.take (i+1)) x y).map V.int:=by
     rw [e2];unfold ik;rw [bh,hg,aM,aM];rfl
    refine ⟨_,rfl,_,rfl,rfl,_,rfl,?_⟩
    by_cases eg:g=y
    ·rw [eg,pQ rfl]
     refine iteT ⟨_,rfl,rfl,?_⟩;rw [←nx,pO eg]
    ·rw [pR (fun z=>eg (V.int.inj z))]
     refine iteF ⟨_,rfl,rfl,?_⟩;rw [←nx,pN eg]
   ·subst e1
    have eL:zs=(ik gs x y).map V.int:=by rw [e2,af,bo]
    subst eL;have S7:Same HC (upd HC L (.lst ((ik gs x y).map V.int))):=Same.put (Same.refl HC) hL;have nLL:L≠Lt:=fun z=>by rw [z,hLt6] at hL;cases hL
    exact ⟨tb6.trans (Same.tb S7),LamT.same S7 hT6,S7 _ _ hD6,L,_,_,_,rfl,nLL,aW,S7 _ _ hLt6⟩
 ·rintro σ HA ⟨tbA,hTA,hDA,La,v3,v4,v5,rfl,nLa,hLa,hLtA⟩
  rw [af,bo] at hLtA;have tl:(π.foldl (d8 sp) (iI mn,[])).2.length≤40:=by
   have:=(jQ sp π (iI mn,[])).2;have h2:=O.len;have h3:((iI mn,([]:List Nat)).2).length=0:=rfl;lia
  have hLtI:HA Lt=some (.lst (((kd sp mn π).2.map fun (i:Nat)=>(i:Int)).map V.int)):=by rw [hLtA,cU];rfl
  refine ⟨_,rfl,Lt,_,rfl,SqL.of hLtI,by rw [af];exact bU tl (by decide),fun L ns hL pm pw=>?_⟩;have S7:Same HA (upd HA L (.lst (ns.map V.int))):=Same.put (Same.refl HA) hL;refine ⟨L,_,rfl,.inl (Rd.of aW),fun u H8 S8 hu=>?_⟩;exact k u H8 ns ((tbA.trans (Same.tb S7)).trans (Same.tb S8)) (LamT.same S8 (LamT.same S7 hTA)) hu ⟨π,O,pm,pw⟩
abbrev sFrom:cG:=top 12
abbrev sTo:cG:=top 13
theorem scFrom:cj ["net","step","span"] pzb (defScope sFrom):=by trivial
theorem ok_from (F:Fun K "leads_from" "leads_from" sFrom f fd):FnOk P w K mg base CX0 1 f fd pzb spFrom:=by
 refine F.ok scFrom (by contradiction) (fun cdv A outer s0 H vs Q E hr h=>?_);obtain ⟨v,q,b,m,sp,s,x,rfl,hv,hq,hx,k⟩:=h;obtain ⟨t,p,ys,rfl,ht,hp,hl,hy⟩:=fH hv;obtain ⟨qx,hqx,hqx2⟩:=hy s.i x hx;refine ⟨_,PSl.h (bg ⟨(psZ 2 scFrom.nd (eN fu (ixZ (pv 0)) (ixZ (pv 1)) (fun _ _=>rfl)))⟩
  (c9 ⟨(cM (nP (dE ng (ixZ (pv 1)) bR (eO _)) (ixZ (pv 2)) (ixZ (pv 2))))⟩)),?_⟩
 refine ⟨_,rfl,t,_,_,_,rfl,rfl,SqT.of ht,bc (j:=2) rfl,_,rfl,q,_,_,_,rfl,rfl,SqT.of hq,bc (j:=0) rfl,p,_,_,_,rfl,rfl,SqT.of hp,bc (j:=s.i) hqx,?_⟩;refine ⟨_,rfl,q,_,_,_,rfl,rfl,SqT.of hq,bc (j:=1) rfl,rfl,_,rfl,?_⟩;refine ite2 (fun h1=>?_) (fun h1=>?_)
 ·have h1:s.d=1:=by have:=pS h1;injection this
  refine ⟨_,rfl,qx,_,_,_,rfl,rfl,SqT.of hqx2,bc (j:=0) rfl,?_⟩;have e:frm x s.d=x.s:=pO h1;rw [←e];exact k
 ·have h1:s.d≠1:=fun z=>h1 (pQ (by rw [z]))
  refine ⟨_,rfl,qx,_,_,_,rfl,rfl,SqT.of hqx2,bc (j:=1) rfl,?_⟩;have e:frm x s.d=x.g:=pN h1;rw [←e];exact k
theorem scTo:cj ["net","step","span"] pzb (defScope sTo):=by trivial
theorem ok_to (F:Fun K "leads_to" "leads_to" sTo f fd):FnOk P w K mg base CX0 1 f fd pzb spTo:=by
 refine F.ok scTo (by contradiction) (fun cdv A outer s0 H vs Q E hr h=>?_);obtain ⟨v,q,b,m,sp,s,x,rfl,hv,hq,hx,k⟩:=h;obtain ⟨t,p,ys,rfl,ht,hp,hl,hy⟩:=fH hv;obtain ⟨qx,hqx,hqx2⟩:=hy s.i x hx;refine ⟨_,PSl.h (bg ⟨(psZ 2 scTo.nd (eN fu (ixZ (pv 0)) (ixZ (pv 1)) (fun _ _=>rfl)))⟩
  (c9 ⟨(cM (nP (dE ng (ixZ (pv 1)) bR (eO _)) (ixZ (pv 2)) (ixZ (pv 2))))⟩)),?_⟩
 refine ⟨_,rfl,t,_,_,_,rfl,rfl,SqT.of ht,bc (j:=2) rfl,_,rfl,q,_,_,_,rfl,rfl,SqT.of hq,bc (j:=0) rfl,p,_,_,_,rfl,rfl,SqT.of hp,bc (j:=s.i) hqx,?_⟩;refine ⟨_,rfl,q,_,_,_,rfl,rfl,SqT.of hq,bc (j:=1) rfl,rfl,_,rfl,?_⟩;refine ite2 (fun h1=>?_) (fun h1=>?_)
 ·have h1:s.d=1:=by have:=pS h1;injection this
  refine ⟨_,rfl,qx,_,_,_,rfl,rfl,SqT.of hqx2,bc (j:=1) rfl,?_⟩;have e:too x s.d=x.g:=pO h1;rw [←e];exact k
 ·have h1:s.d≠1:=fun z=>h1 (pQ (by rw [z]))
  refine ⟨_,rfl,qx,_,_,_,rfl,rfl,SqT.of hqx2,bc (j:=0) rfl,?_⟩;have e:too x s.d=x.s:=pN h1;rw [←e];exact k
abbrev oj:cG:=top 21
abbrev sWayB:cG:=top 22
abbrev sRingBy:cG:=top 23
inductive spSteps (vs:List V)(H:Hp)(Q:VK)(_:XK):Prop
 | mk (v u b m sp tk x:_)(_:vs=[v,.ref u,.int x])(_:IsD H v (kN b m sp))(_:H u=some (.tup (tk.map fun (i:Nat)=>V.int i)))(_:(∀ i∈tk,i<sp.length))(_:tk.length≤40)(_:∀ L H' zs,Same H H'→H L=none→H' L=some (.lst zs)→IsDs H' zs (eU Stp.row (cX sp tk x))→Q (.ref L) H')
inductive spWayBt (vs:List V)(H:Hp)(Q:VK)(_:XK):Prop
 | mk (v u b m sp tk be en:_)(_:vs=[v,.ref u,.int be,.int en])(_:IsD H v (kN b m sp))(_:NetT b m sp)(_:H u=some (.tup (tk.map fun (i:Nat)=>V.int i)))(_:(∀ i∈tk,i<sp.length))(_:tk.length≤40)(_:0≤be)(_:be<m)(_:Held sp tk be en)(_:∀ q H' p,Same H H'→IsD H' q (wayP p)→WayR sp tk be en p→Q q H')
inductive spRingBy (T:ai)(lp:Pos)(lq:Str)(vs:List V)(H:Hp)(Q:VK)(_:XK):Prop
 | mk (v b m sp k:_)(_:vs=[v,.int (k:Nat)])(_:IsD H v (kN b m sp))(_:NetT b m sp)(_:L2.LamT T lp lq H)(_:k<sp.length)(_:∀ q H' (l π:List Nat) p,L2.Tb T H H'→L2.LamT T lp lq H'→IsD H' q (wayP (⟨k,1⟩::p))→IsFor m.toNat sp (l.map fun (i:Nat)=>(i:Int))→Ordd sp π→l.Perm (kd sp m.toNat π).2→WayR sp l (sAt sp k).g (sAt sp k).s p→Q q H')
def DW (H:Hp):List (Key×V)→List (Int×List Stp)→Prop:=jH fun (p:Key×V) (q:Int×List Stp)=>p.1= .inl q.1∧IsD H p.2 (wayP q.2)
theorem DW.none {H:Hp}{x:Int}:∀ {kvs:List (Key×V)} {l:List (Int×List Stp)},DW H kvs l→lkW l x=none→kM kvs (.inl x)=none
 | _,_,.nil,_=>rfl
 | _,_,.cons (b:=q) r t,h=>by
  rw [kJ] at h
  by_cases e:q.1=x
  ·rw [pO e] at h;cases h
  ·rw [pN e] at h
   rw [fT (fun z=>e (Sum.inl.inj (r.1.symm.trans z)))];exact DW.none t h
theorem DW.some {H:Hp}{x:Int}{ws:List Stp}:∀ {kvs:List (Key×V)} {l:List (Int×List Stp)},DW H kvs l→lkW l x=some ws→∃ v,kM kvs (.inl x)=some v∧IsD H v (wayP ws)
 | _,_,.nil,h=>by cases h
 | _,_,.cons (b:=q) r t,h=>by
  rw [kJ] at h
  by_cases e:q.1=x
  ·rw [pO e] at h
   cases h;exact ⟨_,gG (by rw [r.1,e]),r.2⟩
  ·rw [pN e] at h
   rw [fT (fun z=>e (Sum.inl.inj (r.1.symm.trans z)))];exact DW.some t h
theorem pf (e:TupK H H')(h:IsD H v (wayP ws)):IsD H' v (wayP ws):=by
 obtain ⟨p,ys,rfl,hp,_,r⟩:=jR h;exact .tup (e _ _ hp) (eP e r)
theorem DW.keep (e:TupK H H'){kvs:List (Key×V)}{l:List (Int×List Stp)}(h:DW H kvs l):DW H' kvs l:=L2.Paired.mapP h fun _ _ z=>⟨z.1,pf e z.2⟩
theorem DW.len {H:Hp}:∀ {kvs:List (Key×V)} {l:List (Int×List Stp)},DW H kvs l→kvs.length=l.length
 | _,_,.nil=>rfl
 | _,_,.cons _ t=>pT (· + 1) (DW.len t)
theorem DW.snoc {H:Hp}{p:Key×V}{q:Int×List Stp}(h:p.1= .inl q.1∧IsD H p.2 (wayP q.2)):∀ {kvs:List (Key×V)} {l:List (Int×List Stp)},DW H kvs l→DW H (kvs++[p]) (l++[q])
 | _,_,.nil=> .cons h .nil
 | _,_,.cons r t=> .cons r (DW.snoc h t)
structure JW (H Hc:Hp)(Da La:ai)(c:List (Int×List Stp)×List Int):Prop where
 same:Same H Hc
 da:∃ kvs,Hc Da=some (.dK kvs)∧DW Hc kvs c.1
 la:Hc La=some (.lst (c.2.map V.int))
theorem JW.on {Hc':Hp}{La:ai}(j:JW H Hc Da La c)(e:Same Hc Hc'):JW H Hc' Da La c:=by
 obtain ⟨kvs,h1,h2⟩:=j.da;exact ⟨j.same.trans e,⟨kvs,e _ _ h1,h2.keep (Same.tupK e)⟩,e _ _ j.la⟩
theorem JW.upL {La:ai}{td:List Int}(j:JW H Hc Da La c)(hL:H La=none)(n:Da≠La):JW H (upd Hc La (.lst (td.map V.int))) Da La (c.1,td):=by
 obtain ⟨kvs,h1,h2⟩:=j.da;exact ⟨fun a o e=>by rw [aZ (bB e hL)];exact j.same a o e,⟨kvs,by rw [aZ n];exact h1,h2.keep (i6 j.la)⟩,aW⟩
theorem mapI_at {x:V}(h:(l.map fun (i:Nat)=>V.int i)[i]? =some x):∃ j,l[i]? =some j∧x=V.int (j:Nat):=by
 rw [ax] at h;obtain ⟨j,hj,rfl⟩:=aI.mp h;exact ⟨j,hj,rfl⟩
theorem kx {s:Stp}(h:s.i<sp.length):too (sAt sp s.i) s.d=eE sp s∧frm (sAt sp s.i) s.d=kR sp s:=by
 have e:sAt sp s.i=sp[s.i]:=by unfold sAt;rw [ah,gE h];rfl
 rw [e];exact ⟨(ky h).symm,(mm h).symm⟩
theorem last_mem {l:List Int}(h:l.getLast? =some z):z∈l:=by
 obtain ⟨ys,rfl⟩:=List.getLast?_eq_some_iff.mp h;simp
theorem scSteps:cj ["net","spans","happening","steps"] pzl (defScope oj):=by trivial
theorem ok_steps (F:Fun K "steps_from" "steps_from" oj f fd)(G1:Fn K mg "leads_from" sFrom pzb f1 fd1):FnOk P w K mg base CX0 2 f fd pzl spSteps:=by
 have F1:FnOk P w K mg base CX0 1 f1 fd1 pzb spFrom:=ok_from G1.F;refine F.ok scSteps (by contradiction) (fun cdv A outer s H vs Q E hr h=>?_);obtain ⟨v,u,b,m,sp,tk,x,rfl,hv,hu,hlt,few,k⟩:=h;have hr1:=hr;refine ⟨_,PSl.h (bg ⟨(psZ 3 scSteps.nd (dU op_catL (ij (fr:=[]) (js:=[]) rfl (oE (pv 1)) (by trivial) rfl (by trivial) rfl (by exists oj) (by trivial) rfl (by trivial) (fun _ _ _ _ _=>⟨(fb (aq (pv 0) (aq bR aP))),ig⟩)) (ij (fr:=[]) (js:=[]) rfl (oE (pv 1)) (by trivial) rfl (by trivial) rfl (by exists oj) (by trivial) rfl (by trivial) (fun _ _ _ _ _=>⟨(fb (aq (pv 0) (aq (pe_un un_neg bR) aP))),ig⟩))))⟩
  (c9 ⟨(cM (ij (fr:=["happening","net"]) (js:=[2,0]) rfl (fU (pv 3)) (by trivial) rfl (by trivial) rfl (by exists oj) (by trivial) rfl (by trivial) (fun _ _ _ _ _=>⟨(pv 0),(mZ (dE ng (pc1 G1 F1 hr1 (aq (pv 2) (aq (pv 0) aP))) (pv 1) (eO _)))⟩)))⟩)),?_⟩
 have half:∀ (d:Int) (td:TE) (H0:Hp) (Rt:V→Hp→Prop),(∀ σ H1 (R:VK),R (.int d) H1→td σ H1 R)→Same H H0→(∀ L H' zs,Same H0 H'→H' L=some (.lst zs)→IsDs H' zs (eU Stp.row (tk.map fun i=>⟨i,d⟩))→Rt (.ref L) H') →
   CompW [] tNoIf (tTupA (tCons (tVar 0) (tCons td tNil))) [some v,some (.ref u),some (.int x),none] Rt (Itt K u) H0:=fun d td H0 Rt htd S0 fin=>by
  refine nS (K:=K) (a:=u) (xs:=tk.map fun (i:Nat)=>V.int i) (fun i zs HC=>Same H0 HC∧zs.length=i∧IsDs HC zs (eU Stp.row ((tk.take i).map fun i=>⟨i,d⟩))) ⟨Same.refl H0,rfl,.nil⟩ (fun i zs HC hi ⟨e1,e2,_⟩=>⟨SqT.of (e1 _ _ (S0 _ _ hu)),Nat.le_of_eq e2⟩) (by rw [af];exact eK (by lia)) (fun i y zs HC hy ⟨e1,e2,e3⟩=>?_) (fun zs HC ⟨e1,e2,e3⟩ D hD=>?_)
  ·obtain ⟨j,hj,rfl⟩:=mapI_at hy
   refine gk ⟨_,rfl,htd _ _ _ ⟨oY,fun q H2 S2 h2=>⟨e1.trans S2,by rw [av,e2];rfl,?_⟩⟩⟩;rw [bh,hj];show IsDs H2 (zs++[.ref q]) (eU Stp.row ((tk.take i++[j]).map fun i=>⟨i,d⟩));unfold eU at e3 ⊢;rw [aM,aM];exact (e3.same S2).append (.cons (.tup h2 (IsDs.ints (Stp.row ⟨j,d⟩))) .nil)
  ·have S2:=Same.put (Same.refl HC) hD (o:= .lst zs)
   rw [af,bo] at e3;exact fin D _ zs (e1.trans S2) aW (e3.same S2)
 refine ⟨_,rfl,u,rfl,⟨_,SqT.of hu⟩,half 1 _ H _ (fun _ _ _ h=>h) (Same.refl H) fun L1 H1 z1 S1 h1 d1=>?_⟩;refine ⟨_,rfl,u,rfl,⟨_,SqT.of (S1 _ _ hu)⟩,half (-1) _ H1 _ (fun _ _ _ h=>⟨1,rfl,h⟩) S1 fun L2' H2 z2 S2 h2 d2=>?_⟩;have l1:z1.length=tk.length:=by rw [d1.length];unfold eU;rw [af,af]
 have l2:z2.length=tk.length:=by rw [d2.length];unfold eU;rw [af,af]
 refine ⟨L1,L2',_,_,rfl,rfl,S2 _ _ h1,h2,by rw [l1,l2];exact eK (by lia),fun L3 H3 S3 h3=>?_⟩;have d3:IsDs H3 (z1++z2) (eU Stp.row (stF tk)):=by
  unfold stF eU;rw [aM];exact ((d1.same S2).same S3).append (d2.same S3)
 have S03:=S1.trans (S2.trans S3);have hv3:=hv.same S03;refine ⟨_,rfl,L3,rfl,⟨_,SqL.of h3⟩,?_⟩;have ls:(z1++z2).length=(stF tk).length:=by rw [d3.length];unfold eU;rw [af]
 refine gY (K:=K) (a:=L3) (xs:=z1++z2) (fun i zs HC=>HC=H3∧zs.length≤i∧IsDs H3 zs (eU Stp.row (((stF tk).take i).filter fun s=>decide (kR sp s=x)))) ⟨rfl,bE _,.nil⟩ (fun i zs HC hi ⟨e1,e2,_⟩=>⟨by rw [e1];exact SqL.of h3,e2⟩) (by rw [av,l1,l2];exact eK (by lia)) (fun i y zs HC hy ⟨e1,e2,e3⟩=>?_) (fun zs HC ⟨e1,e2,e3⟩ D hD=>?_)
 ·subst e1
  have hi:i<(stF tk).length:=by have:=(ar.mp hy).1;lia
  have hsi:=gE hi;obtain ⟨y',hy',dy⟩:=d3.at (i:=i) (d:= .tup ((Stp.row (stF tk)[i]).map Dt.int)) (by unfold eU;rw [ax,hsi];rfl);rw [hy] at hy';cases hy';obtain ⟨q,qs,rfl,hq,rq⟩:=dy.tup_of;have eq:=rq.ints_of;subst eq;have hin:=hlt _ (mem_stF (bu hi)).1;refine ⟨_,rfl,_,rfl,v,q,b,m,sp,(stF tk)[i],sAt sp (stF tk)[i].i,rfl,hv3,hq,ju hin,_,rfl,rfl,_,rfl,?_⟩;rw [(kx hin).2];have nx:((stF tk).take (i+1)).filter (fun s=>decide (kR sp s=x))=((stF tk).take i).filter (fun s=>decide (kR sp s=x))++(if kR sp (stF tk)[i]=x then [(stF tk)[i]] else []):=by
   rw [bh,hsi,fe];show _++[(stF tk)[i]].filter _=_;rw [e8,List.filter_nil]
   by_cases e:kR sp (stF tk)[i]=x
   ·rw [pO e,pO (pQ e)]
   ·rw [pN e,pN (by rw [pR e];decide)]
  rw [nx]
  by_cases e:kR sp (stF tk)[i]=x
  ·rw [pO e,e,pQ rfl]
   refine iteT ⟨_,rfl,rfl,by rw [av];exact Nat.succ_le_succ e2,?_⟩;unfold eU at e3 ⊢;rw [aM];exact e3.append (.cons dy .nil)
  ·rw [pN e,pR (fun z=>e (V.int.inj z)),cP]
   exact iteF ⟨rfl,Nat.le_succ_of_le e2,e3⟩
 ·subst e1
  have S4:=Same.put (Same.refl HC) hD (o:= .lst zs);rw [ls,bo] at e3;exact k D _ zs (S03.trans S4) (Same.free S03 hD) aW (e3.same S4)
theorem pq:cj ["net","spans","begin","end","ways","ahead","here","step","there"] pzy (defScope sWayB):=by trivial
theorem ok_wayBt (F:Fun K "way_between" "way_between" sWayB f fd)(G1:Fn K mg "steps_from" oj pzl f1 fd1)(F1:FnOk P w K mg base CX0 2 f1 fd1 pzl spSteps)(G2:Fn K mg "leads_to" sTo pzb f2 fd2):FnOk P w K mg base CX0 3 f fd pzy spWayBt:=by
 have F2:FnOk P w K mg base CX0 1 f2 fd2 pzb spTo:=ok_to G2.F;refine F.ok pq (by contradiction) (fun cdv A outer s H vs Q E hr h=>?_);obtain ⟨v,u,b,m,sp,tk,be,en,rfl,hv,N,hu,hlt,few,be0,be1,held,k⟩:=h;have u1:=bU (Nat.add_le_add_left (by decide:1≤64) _) hr.units;have hr1:Room 1 _:=hr.mono (by decide);have E:=N.ends;have m16:m.toNat≤16:=by have:=N.m2;lia
 have b1:be<(m.toNat:Int):=by lia
 refine ⟨_,PSl.h (bg ⟨(psZ 4 pq.nd (pe_disp (pps_cons (pv 2) (fb aP) pps_nil) rfl rfl (by decide) (by decide)))⟩
  (bg ⟨(psZ 5 pq.nd (jT (aq (pv 2) aP)))⟩
  (bg ⟨(ps_while bO (pt_cmp (mJ u1 (pv 3) (pv 4)) rfl) (PSl.h (bg ⟨(psZ 6 pq.nd (pe_bm0 bK PySem.F.slot_list_pop PySem.F.type_list_pop mt_pop (pv 5)))⟩
  (c9 ⟨(iW bO rfl (fU (pc1 G1 F1 hr (aq (pv 0) (aq (pv 1) (aq (pv 6) aP))))) (pgZ 7 pq.nd) (PSl.h (bg ⟨(psZ 8 pq.nd (pc1 G2 F2 hr1 (aq (pv 0) (aq (pv 7) aP))))⟩
  (c9 ⟨(jB (pt_cmp (mJ u1 (pv 8) (pv 4)) rfl) (PSl.h (bg ⟨(ps_dput u1 (pv 4) (pv 8) (dU op_catA (pe_dget u1 (pv 4) (pv 6) (fun _ _=>rfl)) (fb (aq (pv 7) aP))) rfl)⟩
  (c9 ⟨(jS (oH bK cB cA iL (pv 5) (aq (pv 8) aP)))⟩))) fF)⟩))))⟩))))⟩
  (c9 ⟨(cM (pe_dget u1 (pv 4) (pv 3) (fun _ _=>rfl)))⟩)))),?_⟩
 intro Da hDa;refine ⟨_,rfl,bE _,fun q1 H1 S1 h1=>⟨S1 _ _ aW,[(.inl be,.ref q1)],rfl,(by show 1≤15;decide),?_⟩⟩;have S0:Same H (upd H Da (.dK [])):=Same.put (Same.refl H) hDa;have hDa1:H1 Da=some (.dK []):=S1 _ _ aW;have hDa2:(upd H1 Da (.dK (mK [] [(.inl be,.ref q1)]))) Da=some (.dK [(.inl be,.ref q1)]):=aW;have S2:Same H (upd H1 Da (.dK (mK [] [(.inl be,.ref q1)]))):=fun b o e=>by
  rw [aZ (fun z=>by rw [z,hDa] at e;cases e)];exact S1 _ _ (S0 _ _ e)
 have hq1:(upd H1 Da (.dK (mK [] [(.inl be,.ref q1)]))) q1=some (.tup []):=by
  rw [aZ (eV h1 hDa1 nofun)];exact h1
 generalize upd H1 Da (.dK (mK [] [(.inl be,.ref q1)]))=H2 at hDa2 S2 hq1 ⊢;clear hDa1 S0 S1 h1;refine ⟨_,rfl,szZ1,fun La hLa=>?_⟩;have nDL:Da≠La:=fun z=>by rw [z,hLa] at hDa2;cases hDa2
 have S3:Same H2 (upd H2 La (.lst [.int be])):=Same.put (Same.refl H2) hLa;have hLaH:H La=none:=by
  cases z:H La with
  | none=>rfl
  | some o=>rw [S2 _ _ z] at hLa;cases hLa
 have J3:JW H (upd H2 La (.lst [.int be])) Da La (itW sp tk be 0):=⟨S2.trans S3,⟨_,S3 _ _ hDa2,.cons ⟨rfl,.tup (S3 _ _ hq1) .nil⟩ .nil⟩,aW⟩;generalize upd H2 La (.lst [.int be])=H3 at J3 ⊢;clear S3 hLa hDa2 hq1 S2;have c0:(itW sp tk be 0).1.length+mQ (itW sp tk be 0).1≤17:=by
  have:mQ [(be,([]:List Stp))]≤16:=by
   unfold mQ;have:=List.countP_le_length (p:=fun x:Nat=>(lkW [(be,([]:List Stp))] ((x:Nat):Int)).isNone) (l:=aK 16);rw [ba] at this;exact this
  show 1+mQ [(be,([]:List Stp))]≤17;lia
 have c1:2 * mQ (itW sp tk be 0).1+(itW sp tk be 0).2.length≤40:=by
  have e1:(itW sp tk be 0).1.length=1:=rfl;have e2:(itW sp tk be 0).2.length=1:=rfl;lia
 refine ⟨fun n σ HA=>∃ (i:Nat) (v6 v7 v8:Option V),n=2 * mQ (itW sp tk be i).1+(itW sp tk be i).2.length∧n≤40∧σ=[some v,some (.ref u),some (.int be),some (.int en),some (.ref Da),some (.ref La),v6,v7,v8]∧JW H HA Da La (itW sp tk be i)∧WI m.toNat sp tk be (itW sp tk be i)∧Clo sp tk (fun _=>False) (itW sp tk be i)∧(itW sp tk be i).1.length+mQ (itW sp tk be i).1≤17∧∀ j,j<i→lkW (itW sp tk be j).1 en=none,
  ⟨_,0,none,none,none,rfl,c1,rfl,J3,(start_ok be0 b1).1,(start_ok be0 b1).2,c0,fun j hj=>pP hj (Nat.not_lt_zero _)⟩,?_⟩
 rintro n σ HA ⟨i,v6,v7,v8,rfl,n40,rfl,JA,WA,CA,lA,bA⟩;obtain ⟨kvs,hDaA,dwA⟩:=JA.da;refine ⟨_,rfl,_,rfl,Da,_,rfl,DGet.k (k:= .inl en) hDaA,_,rfl,?_⟩;cases hen:lkW (itW sp tk be i).1 en with
 | some p =>
  obtain ⟨vp,hvp,dp⟩:=dwA.some hen;rw [hvp];refine iteF ⟨_,rfl,_,rfl,Da,vp,rfl,?_,k vp HA p JA.same dp ⟨i,hen,bA⟩⟩;have:=DGet.k (k:= .inl en) hDaA;rw [hvp] at this;exact this
 | none =>
  rw [dwA.none hen];refine iteT ⟨_,fun σ' H' z=>z,?_⟩;have hne:=left_of hlt held WA CA hen;obtain ⟨t1,t2,t3,t4⟩:=turn_ok E m16 hlt WA CA hne;have hlast:(itW sp tk be i).2.getLast? =some (kY (itW sp tk be i).2):=by
   unfold kY;rw [List.getLast?_eq_some_getLast hne];rfl
  have hget:((itW sp tk be i).2.map V.int)[((itW sp tk be i).2.map V.int).length - 1]? =some (V.int (kY (itW sp tk be i).2)):=by
   rw [af,ax,←List.getLast?_eq_getElem?,hlast];rfl
  refine ⟨_,rfl,.inl ⟨rfl,_,SqL.of JA.la⟩,La,_,_,rfl,rfl,JA.la,hget,?_⟩;have JB:=JA.upL (td:=(itW sp tk be i).2.dropLast) hLaH nDL;rw [List.map_dropLast] at JB;generalize upd HA La (.lst ((itW sp tk be i).2.map V.int).dropLast)=HB at JB ⊢;have hx:lkW (itW sp tk be i).1 (kY (itW sp tk be i).2)≠none:=WA.ahd _ (last_mem hlast);have W0:WI m.toNat sp tk be ((itW sp tk be i).1,(itW sp tk be i).2.dropLast):=⟨WA.pth,WA.rng,fun y hy=>WA.ahd y ((List.dropLast_sublist _).subset hy),WA.beg⟩;have C0:Clo sp tk (· =kY (itW sp tk be i).2) ((itW sp tk be i).1,(itW sp tk be i).2.dropLast):=fun y hy hn ex t ht'=>CA y hy (fun z=>by
   rw [List.getLast?_eq_some_iff] at hlast;obtain ⟨ys,hys⟩:=hlast;rw [hys,List.dropLast_concat] at hn;rw [hys] at z
   rcases aG.mp z with z | z
   ·exact hn z
   ·exact ex (aw.mp z)) (fun z=>z) t ht'
  have eT:itW sp tk be (i+1)=(cX sp tk (kY (itW sp tk be i).2)).foldl (gU sp (kY (itW sp tk be i).2)) ((itW sp tk be i).1,(itW sp tk be i).2.dropLast):=rfl;have bN:∀ j,j<i+1→lkW (itW sp tk be j).1 en=none:=fun j hj=>by
   rcases iM.mp hj with h | h
   ·exact bA j h
   ·rw [h];exact hen
  rw [show oZ sp tk (itW sp tk be i)=itW sp tk be (i+1) from rfl] at t1 t2 t3 t4;generalize kY (itW sp tk be i).2=x at hx C0 eT ⊢;generalize hc:((itW sp tk be i).1,(itW sp tk be i).2.dropLast)=c at JB W0 C0 eT;have hx:lkW c.1 x≠none:=by rw [←hc];exact hx
  have lc:c.1.length+mQ c.1≤17:=by rw [←hc];exact lA
  have lc2:2 * mQ c.1+c.2.length≤40:=by
   rw [←hc];show 2 * mQ (itW sp tk be i).1+(itW sp tk be i).2.dropLast.length≤40;rw [List.length_dropLast];lia
  refine ⟨_,rfl,_,rfl,_,rfl,v,u,b,m,sp,tk,x,rfl,hv.same JB.same,JB.same _ _ hu,hlt,few,fun L HC zs SC fL hL dz=>⟨L,rfl,⟨_,SqL.of hL⟩,?_⟩⟩;have nLL:L≠La:=fun z=>by rw [z,JB.la] at fL;cases fL
  have JC:=JB.on SC;clear JB hc;have vis:∀ j:Nat,WI m.toNat sp tk be (((cX sp tk x).take j).foldl (gU sp x) c)∧lkW (((cX sp tk x).take j).foldl (gU sp x) c).1 x≠none∧(((cX sp tk x).take j).foldl (gU sp x) c).1.length≤17∧(((cX sp tk x).take j).foldl (gU sp x) c).2.length≤40:=fun j=>by
   obtain ⟨b1,_,_,b4,b5,b6⟩:=nV E m16 hlt (L:=(cX sp tk x).take j) W0 hx (fun t h=>jM h) C0;exact ⟨b1,by rw [b4 x hx];exact hx,by lia,by lia⟩
  have lz:zs.length=(cX sp tk x).length:=by rw [dz.length];unfold eU;rw [af]
  refine jE (K:=K) (a:=L) (xs:=zs) (fun j σ HD=>JW H HD Da La (((cX sp tk x).take j).foldl (gU sp x) c)∧HD L=some (.lst zs)∧IsDs HD zs (eU Stp.row (cX sp tk x))∧∃ w7 w8,σ=[some v,some (.ref u),some (.int be),some (.int en),some (.ref Da),some (.ref La),some (.int x),w7,w8]) ⟨JC,hL,dz,_,_,rfl⟩ (fun j σ HD _ ⟨_,h,_⟩=>SqL.of h) ?_ ?_
  ·rintro j y σ HD hy ⟨JD,hLD,dD,w7,w8,rfl⟩
   have hj:j<(cX sp tk x).length:=by have:=(ar.mp hy).1;lia
   have hsj:=gE hj;obtain ⟨y',hy',dy⟩:=dD.at (i:=j) (d:= .tup ((Stp.row (cX sp tk x)[j]).map Dt.int)) (by unfold eU;rw [ax,hsj];rfl);rw [hy] at hy';cases hy';obtain ⟨q,qs,rfl,hq,rq⟩:=dy.tup_of;have eq:=rq.ints_of;subst eq;have hmem:(cX sp tk x)[j]∈cX sp tk x:=bu hj;have hin:=hlt _ (mem_stF (b9.mp hmem).1).1;have fold:((cX sp tk x).take (j+1)).foldl (gU sp x) c=gU sp x (((cX sp tk x).take j).foldl (gU sp x) c) (cX sp tk x)[j]:=by
    rw [bh,hsj];show ((cX sp tk x).take j++[(cX sp tk x)[j]]).foldl _ _=_;rw [cx];rfl
   rw [fold];obtain ⟨Wj,xj,kj,aj⟩:=vis j;generalize ((cX sp tk x).take j).foldl (gU sp x) c=d at JD Wj xj kj aj;generalize (cX sp tk x)[j]=st at hq hin dy;refine ⟨_,rfl,_,rfl,v,q,b,m,sp,st,sAt sp st.i,rfl,hv.same JD.same,hq,ju hin,?_⟩;rw [(kx hin).1];obtain ⟨kv2,hDaD,dwD⟩:=JD.da;refine ⟨_,rfl,_,rfl,Da,_,rfl,DGet.k (k:= .inl (eE sp st)) hDaD,_,rfl,?_⟩;cases hto:lkW d.1 (eE sp st) with
   | some p0 =>
    obtain ⟨vp,hvp,_⟩:=dwD.some hto;rw [hvp];have ev:gU sp x d st=d:=by unfold gU;exact pN (by rw [hto];exact fun z=>nomatch z)
    rw [ev];exact iteF ⟨JD,hLD,dD,_,_,rfl⟩
   | none =>
    rw [dwD.none hto];refine iteT ?_;obtain ⟨ws,hws⟩:∃ ws,lkW d.1 x=some ws:=Option.ne_none_iff_exists'.mp xj;have ev:gU sp x d st=(d.1++[(eE sp st,ws++[st])],d.2++[eE sp st]):=by
     unfold gU;rw [pO hto,hws];rfl
    rw [ev];obtain ⟨vw,hvw,dw⟩:=dwD.some hws;obtain ⟨pw,yw,rfl,hpw,hlw,rw'⟩:=jR dw;have hget':DGet HD Da (V.int x) (some (.ref pw)):=by
     have:=DGet.k (k:= .inl x) hDaD;rw [hvw] at this;exact this
    have lw:=((Wj.pth x ws hws).1.len E be0 b1);refine ⟨_,rfl,_,rfl,Da,.ref pw,rfl,hget',_,rfl,szZ1,fun q4 H16 S16 h16=>⟨pw,q4,_,_,rfl,rfl,S16 _ _ hpw,h16,?_,fun q5 H17 S17 h17=>?_⟩⟩
    ·rw [hlw];exact aS (by show ws.length+1≤1000;lia) (by decide)
    have ST:=S16.trans S17;have hDa7:=ST _ _ hDaD;have dw7:=dwD.keep (Same.tupK ST);have hLa7:=ST _ _ JD.la;have hL7:=ST _ _ hLD;have dD7:=dD.same ST;have S7:=JD.same.trans ST;have lk:kv2.length≤17:=by rw [dwD.len];exact kj
    refine ⟨_,rfl,_,rfl,Da,_,rfl,DPut.k (k:= .inl (eE sp st)) hDa7 (bU (by lia:kv2.length≤999) (by decide)),?_⟩;have hway:IsD H17 (.ref q5) (wayP (ws++[st])):=by
     refine .tup h17 ?_;rw [aM];exact (rw'.same ST).append (.cons (dy.same ST) .nil)
    rw [putK_new _ (dwD.none hto)];have K8:TupK H17 (upd H17 Da (.dK (kv2++[(.inl (eE sp st),.ref q5)]))):=fun q xs h=>by rw [aZ (eV h hDa7 nofun)];exact h
    have hDa8:(upd H17 Da (.dK (kv2++[(.inl (eE sp st),.ref q5)]))) Da=some (.dK (kv2++[(.inl (eE sp st),.ref q5)])):=aW;have dw8:DW (upd H17 Da (.dK (kv2++[(.inl (eE sp st),.ref q5)]))) (kv2++[(.inl (eE sp st),.ref q5)]) (d.1++[(eE sp st,ws++[st])]):=DW.snoc ⟨rfl,pf K8 hway⟩ (dw7.keep K8);have hLa8:(upd H17 Da (.dK (kv2++[(.inl (eE sp st),.ref q5)]))) La=some (.lst (d.2.map V.int)):=by rw [aZ nDL.symm];exact hLa7
    have nLD:L≠Da:=eV hLD hDaD nofun;have hL8:(upd H17 Da (.dK (kv2++[(.inl (eE sp st),.ref q5)]))) L=some (.lst zs):=by rw [aZ nLD];exact hL7
    have S8:Same H (upd H17 Da (.dK (kv2++[(.inl (eE sp st),.ref q5)]))):=fun a o e=>by rw [aZ (bB e hDa)];exact S7 a o e
    have dD8:IsDs (upd H17 Da (.dK (kv2++[(.inl (eE sp st),.ref q5)]))) zs (eU Stp.row (cX sp tk x)):=eP K8 dD7;generalize upd H17 Da (.dK (kv2++[(.inl (eE sp st),.ref q5)]))=H8 at hDa8 dw8 hLa8 hL8 S8 dD8 ⊢;refine ⟨_,rfl,.inl ⟨rfl,_,SqL.of hLa8⟩,_,rfl,La,_,_,rfl,rfl,hLa8,mG (by rw [af];lia),?_⟩;have J8:JW H H8 Da La (d.1++[(eE sp st,ws++[st])],d.2):=⟨S8,⟨_,hDa8,dw8⟩,hLa8⟩;have J9:=J8.upL (td:=d.2++[eE sp st]) hLaH nDL;rw [aM] at J9;refine ⟨J9,?_,eP (i6 hLa8) dD8,_,_,rfl⟩;rw [aZ nLL];exact hL8
  ·rintro σ HD ⟨JD,hLD,dD,w7,w8,rfl⟩
   rw [lz,bo,←eT] at JD;exact ⟨_,t3,i+1,_,_,_,rfl,by lia,rfl,JD,t1,t2,by lia,bN⟩
theorem IsFor.natsF (a:IsFor m sp ns):∃ (l π:List Nat),ns=l.map (fun (i:Nat)=>(i:Int))∧Ordd sp π∧l.Perm (kd sp m π).2:=by
 obtain ⟨π,o,p,_⟩:=a;have nn:∀ x∈ns,0≤x:=fun x hx=>by
  obtain ⟨i,_,rfl⟩:=bt.mp (p.mem_iff.mp hx);lia
 refine ⟨ns.map Int.toNat,π,?_,o,?_⟩
 ·rw [cU]
  conv=>lhs;rw [←List.map_id ns]
  exact fY fun x hx=>(d7 (nn x hx)).symm
 ·have q:=p.map Int.toNat
  rw [cU] at q;have e:((kd sp m π).2.map (Int.toNat ∘ fun (i:Nat)=>(i:Int)))=(kd sp m π).2:=by
   conv=>rhs;rw [←List.map_id (kd sp m π).2]
   exact fY fun x _=>rfl
  rw [e] at q;exact q
theorem gone_ltF (O:Ordd sp π)(pm:l.Perm (kd sp m π).2):∀ i∈l,i<sp.length:=fun i hi=>by
 rcases (jQ sp π (iI m,[])).1 i (pm.mem_iff.mp hi) with z | z
 ·cases z
 ·exact O.lt z
theorem scRingBy:cj ["net","span","start","goal"] pzd (defScope sRingBy):=by trivial
theorem ok_ringBy (F:Fun K "ring_by" "ring_by" sRingBy f fd)(G1:Fn K mg "way_between" sWayB pzy f1 fd1)(F1:FnOk P w K mg base CX0 3 f1 fd1 pzy spWayBt)
  (G2:Fn K mg "forest_of" kW pza f2 fd2) (F2:FnOk P w K mg base CX0 6 f2 fd2 pza (kB Tb0 lp lq)):FnOk P w K mg base CX0 7 f fd pzd (spRingBy Tb0 lp lq):=by
 refine F.ok scRingBy (by contradiction) (fun cdv A outer s H vs Q E hr h=>?_);obtain ⟨v,b,m,sp,k,rfl,hv,N,hT,hk,fin⟩:=h;obtain ⟨t,p,ys,rfl,ht,hp,hl,hy⟩:=fH hv;obtain ⟨q,hq,hq2⟩:=hy k _ (ju hk);have hr1:Room 3 _:=hr.mono (by decide);have E:=N.ends;have few:=N.few;obtain ⟨a0,a1,b0,b1⟩:=E _ (eM hk);refine ⟨_,PSl.h (bg ⟨(psZ 2 scRingBy.nd (ixZ (eN fu (ixZ (pv 0)) (pv 1) (fun _ _=>rfl))))⟩
  (bg ⟨(psZ 3 scRingBy.nd (ixZ (eN fu (ixZ (pv 0)) (pv 1) (fun _ _=>rfl))))⟩
  (c9 ⟨(cM (dU op_catA (fb (aq (fb (aq (pv 1) (aq bR aP))) aP)) (pc1 G1 F1 hr1 (aq (pv 0) (aq (pc1 G2 F2 hr (aq (pv 0) aP)) (aq (pv 3) (aq (pv 2) aP)))))))⟩))),?_⟩
 refine ⟨_,rfl,t,_,_,_,rfl,rfl,SqT.of ht,bc (j:=2) rfl,_,rfl,p,_,_,_,rfl,rfl,SqT.of hp,bc (j:=k) hq,q,_,_,_,rfl,rfl,SqT.of hq2,bc (j:=0) rfl,?_⟩;refine ⟨_,rfl,t,_,_,_,rfl,rfl,SqT.of ht,bc (j:=2) rfl,_,rfl,p,_,_,_,rfl,rfl,SqT.of hp,bc (j:=k) hq,q,_,_,_,rfl,rfl,SqT.of hq2,bc (j:=1) rfl,?_⟩;refine ⟨_,rfl,oY,fun q1 H1 S1 h1=>⟨szZ1,fun q2 H2 S2 h2=>⟨_,rfl,_,rfl,.ref t,b,m,sp,rfl,hv.same (S1.trans S2),N,LamT.same (S1.trans S2) hT,fun u H3 ns tb3 hT3 hu F0=>?_⟩⟩⟩;have hT2:=LamT.same (S1.trans S2) hT;have K3:=Tb.tupK (LamT.tbl hT2) tb3;obtain ⟨l,π,rfl,O,pm⟩:=F0.natsF;have hlt:=gone_ltF O pm;have lfew:l.length≤40:=by have:=F0.len;rw [af] at this;lia
 rw [cU] at hu;refine ⟨_,rfl,_,rfl,.ref t,u,b,m,sp,l,(sAt sp k).g,(sAt sp k).s,rfl,cw K3 (hv.same (S1.trans S2)),N,hu,hlt,lfew,b0,by have:=N.m1;lia,held_span E O pm hk,fun w4 H4 pth S4 d4 wr=>?_⟩;obtain ⟨pw,yw,rfl,hpw,hlw,rw'⟩:=jR d4;have hP:=WayR.pth E (by have:=N.m2;lia) hlt b0 b1 (held_span E O pm hk) wr;have ln:=hP.len E b0 b1;have h24:=S4 _ _ (K3 _ _ h2);have h14:=S4 _ _ (K3 _ _ (S2 _ _ h1));refine ⟨q2,pw,_,_,rfl,rfl,h24,hpw,?_,fun q5 H5 S5 h5=>?_⟩
 ·rw [hlw];have:=N.m2;exact aS (by show 1+pth.length≤1000;lia) (by decide)
 refine fin _ H5 l π pth ((Same.tb (S1.trans S2)).trans (tb3.trans (Same.tb (S4.trans S5)))) (LamT.same (S4.trans S5) hT3) ?_ F0 O pm wr;exact .tup h5 (.cons (.tup (S5 _ _ h14) (IsDs.ints (Stp.row ⟨k,1⟩))) (rw'.same S5))
abbrev sRingsO:cG:=top 25
theorem inV_intsF (x:Int):∀ p:List Int,inV (.int x) (p.map V.int)=decide (x∈p)
 | []=>by simp [inV]
 | y::p=>by
  have ih:=inV_intsF x p;unfold inV at ih ⊢;rw [cg,jJ,ih]
  by_cases e:y=x
  ·subst e;simp [eqV]
  ·have:eqV (.int y) (.int x)=false:=by simp [eqV,e]
   rw [this];simp [aF,cn e]
theorem inV_nat (x:Nat)(l:List Nat):inV (.int (x:Int)) (l.map fun (i:Nat)=>V.int i)=decide (x∈l):=by
 have e:(l.map fun (i:Nat)=>V.int i)=(l.map fun (i:Nat)=>(i:Int)).map V.int:=by rw [cU];rfl
 rw [e,inV_intsF];refine decide_eq_decide.mpr ⟨fun h=>?_,fun h=>bt.mpr ⟨x,h,rfl⟩⟩;obtain ⟨j,hj,e⟩:=bt.mp h;have:j=x:=by lia
 rw [←this];exact hj
theorem scRingsO:cj ["net","taken"] pza (defScope sRingsO):=by trivial
theorem ok_ringsO (F:Fun K "rings_of" "rings_of" sRingsO f fd)(T:Nm mg)(T2:Nt mg)(G1:Fn K mg "forest_of" kW pza f1 fd1)(F1:FnOk P w K mg base CX0 6 f1 fd1 pza (kB Tb0 lp lq))(G2:Fn K mg "ring_by" sRingBy pzd f2 fd2)(F2:FnOk P w K mg base CX0 7 f2 fd2 pzd (spRingBy Tb0 lp lq)):FnOk P w K mg base CX0 8 f fd pza (spRingsO Tb0 lp lq):=by
 refine F.ok scRingsO (by contradiction) (fun cdv A outer s H vs Q E hr h=>?_);obtain ⟨v,b,m,sp,rfl,hv,N,hT,k⟩:=h;have hr6:Room 6 _:=hr.mono (by decide);have E:=N.ends;have few:=N.few;have m1:=N.m1;refine ⟨_,PSl.h (bg ⟨(psZ 1 scRingsO.nd (pc1 G1 F1 hr6 (aq (pv 0) aP)))⟩
  (c9 ⟨(cM (ij (fr:=["net","taken"]) (js:=[0,1]) rfl (gW rfl T2.range (aq (dO dk rfl T.len cO (aq (ixZ (pv 0)) aP)) aP)) (by trivial) rfl (by trivial) rfl (by exists sRingsO) (by trivial) rfl (by trivial) (fun _ _ _ _ _=>⟨(pc1 G2 F2 hr (aq (pv 1) (aq (pv 0) aP))),(mZ (dE (r:=rIn K true) op_notIn_seq (pv 0) (pv 2) rfl))⟩)))⟩)),?_⟩
 refine ⟨_,rfl,v,b,m,sp,rfl,hv,N,hT,fun u H1 ns tb1 hT1 hu F0=>?_⟩;obtain ⟨l,π,rfl,O,pm⟩:=F0.natsF;have fr:FrstL m.toNat sp l:=⟨F0,π,O,pm⟩;rw [cU] at hu;have hu:H1 u=some (.tup (l.map fun (i:Nat)=>V.int i)):=hu;have hv1:=cw (Tb.lamT hT tb1) hv;obtain ⟨t,p,ys,rfl,ht,hp,hl,hy⟩:=fH hv1;refine ⟨_,rfl,t,_,_,_,rfl,rfl,SqT.of ht,bc (j:=2) rfl,p,_,rfl,.inr (SqT.of hp),_,rfl,by lia,by lia,?_⟩;refine km (n:=((ys.length:Int)).toNat) (fun i zs HC=>L2.Tb Tb0 H1 HC∧L2.LamT Tb0 lp lq HC∧∃ rg:List (Nat×List Stp),zs.length≤i∧IsDs HC zs (rg.map wayQ)∧(∀ q∈rg,RK sp l q)∧rg.map (·.1)=(aK i).filter fun k=> !(decide (k∈l))) ⟨Tb.refl H1,hT1,[],az _,.nil,fun _ h=>pP h (by simp),rfl⟩ (fun i zs HC hi ⟨_,_,_,e2,_⟩=>e2) (eK (by lia)) (fun i zs HC hi ⟨tb,hTC,rg,lz,dz,hrk,hks⟩=>?_) (fun zs HC ⟨tb,hTC,rg,lz,dz,hrk,hks⟩ D hD=>?_)
 ·rw [jn]
  have hin:i<sp.length:=by lia
  have KC:=Tb.lamT hT1 tb;have ef:(aK (i+1)).filter (fun k=> !(decide (k∈l)))=(aK i).filter (fun k=> !(decide (k∈l)))++(if i∈l then [] else [i]):=by
   rw [jY,fe];congr 1;rw [e8,List.filter_nil]
   by_cases c:i∈l
   ·rw [pO c,pQ c];rfl
   ·rw [pN c,pR c];rfl
  refine ⟨_,rfl,_,rfl,u,_,rfl,.inr (SqT.of (KC _ _ hu)),rfl,(by rw [List.all_map];exact List.all_eq_true.mpr fun _ _=>rfl),_,rfl,?_⟩;rw [inV_nat];show if (!(decide (i∈l)))=true then _ else _;rw [ef];refine ite2 (fun hc=>?_) (fun hc=>?_)
  rotate_left
  ·have c:i∈l:=by simpa using hc
   rw [pO c,cP];exact ⟨tb,hTC,rg,by lia,dz,hrk,hks⟩
  have c:i ∉ l:=by simpa using hc
  rw [pN c];refine ⟨_,rfl,_,rfl,.ref t,b,m,sp,i,rfl,cw KC hv1,N,hTC,hin,fun q HD l' π' pw tbD hTD dq F0' O' pm' wr=>?_⟩;have el:l'=l:=FrstL.one (m:=m.toNat) (sp:=sp) ⟨F0',π',O',pm'⟩ fr;subst el;obtain ⟨s0,s1,g0,g1⟩:=E _ (eM hin);have hlt:=(fr.pots E).nodup.2;have Pw:=WayR.pth E (by have:=N.m2;lia) hlt g0 g1 (fr.held E hin).symm wr;have KD:=Tb.lamT hTC tbD;refine ⟨tb.trans tbD,hTD,rg++[(i,⟨i,1⟩::pw)],by rw [av];show zs.length+1≤i+1;lia,?_,fun q' hq'=>?_,by rw [aM,hks];rfl⟩
  ·rw [aM]
   exact (IsDs.keepP KD dz (oz rg fun q _=>pl_rows _ _)).append (.cons dq .nil)
  ·rcases aG.mp hq' with z | z
   ·exact hrk q' z
   ·rw [aw.mp z];exact ⟨hin,c,pw,rfl,Pw⟩
 ·have SD:Same HC (upd HC D (.lst zs)):=Same.put (Same.refl HC) hD
  have hDH:H D=none:=by
   cases z:H D with
   | none=>rfl
   | some o =>
    by_cases e:D=Tb0
    ·subst e
     obtain ⟨ps,hps⟩:=LamT.tbl hTC;rw [hps] at hD;cases hD
    ·have:=tb D o e (tb1 D o e z)
     rw [hD] at this;cases this
  refine k D zs l rg _ (tb1.trans (tb.trans (Same.tb SD))) (LamT.same SD hTC) hDH aW (dz.same SD) ⟨fr,hrk,?_⟩;rw [hks];unfold restK;rw [bV,hl]
abbrev sSpread:cG:=top 26
inductive spSpread (T:ai)(lp:Pos)(lq:Str)(vs:List V)(H:Hp)(Q:VK)(_:XK):Prop
 | mk (v:V)(b m:Int)(sp:List Sn)(_:vs=[v])(_:IsD H v (kN b m sp))(_:NetT b m sp)(_:L2.LamT T lp lq H)(_:∀ (L:ai) (zs:List V) (l:List Nat) (S:List Stp) (H':Hp),L2.Tb T H H'→L2.LamT T lp lq H'→H L=none→H' L=some (.lst zs)→IsDs H' zs (eU Stp.row S)→FrstL m.toNat sp l→SprOk m.toNat sp l S→Q (.ref L) H')
structure JS (H Hc:Hp)(Da Ls:ai)(R:List Int)(S:List Stp)(n:Nat):Prop where
 same:Same H Hc
 da:∃ kvs,Hc Da=some (.dK kvs)∧(∀ x,kM kvs (.inl x)=none↔x ∉ R)∧kvs.length≤R.length+n
 ls:∃ zs,Hc Ls=some (.lst zs)∧IsDs Hc zs (eU Stp.row S)
theorem JS.on {Hc':Hp}{R:List Int}(j:JS H Hc Da Ls R S n)(e:Same Hc Hc'):JS H Hc' Da Ls R S n:=by
 obtain ⟨kvs,h1,h2⟩:=j.da;obtain ⟨zs,h3,h4⟩:=j.ls;exact ⟨j.same.trans e,⟨kvs,e _ _ h1,h2⟩,⟨zs,e _ _ h3,h4.same e⟩⟩
theorem JS.upL {La:ai}{R:List Int}(j:JS H Hc Da Ls R S n)(hL:H La=none)(hc:Hc La=some (.lst xs))(ne:Ls≠La):JS H (upd Hc La (.lst ys)) Da Ls R S n:=by
 obtain ⟨kvs,h1,h2⟩:=j.da;obtain ⟨zs,h3,h4⟩:=j.ls;exact ⟨fun a o e=>by rw [aZ (bB e hL)];exact j.same a o e,⟨kvs,by rw [aZ (eV h1 hc nofun)];exact h1,h2⟩,⟨zs,by rw [aZ ne];exact h3,eP (i6 hc) h4⟩⟩
theorem JS.upS {q:ai}{R:List Int}{s:Stp}(j:JS H Hc Da Ls R S n)(hL:H Ls=none)(hc:Hc Ls=some (.lst zs))(hz:IsDs Hc zs (eU Stp.row S))(hq:IsD Hc (.ref q) (.tup ((Stp.row s).map Dt.int))):JS H (upd Hc Ls (.lst (zs++[.ref q]))) Da Ls R (S++[s]) n:=by
 obtain ⟨kvs,h1,h2⟩:=j.da;have hd:IsDs Hc (zs++[.ref q]) (eU Stp.row (S++[s])):=by
  unfold eU at hz ⊢;rw [aM];exact hz.append (.cons hq .nil)
 exact ⟨fun a o e=>by rw [aZ (bB e hL)];exact j.same a o e,⟨kvs,by rw [aZ (eV h1 hc nofun)];exact h1,h2⟩,⟨_,aW,eP (i6 hc) hd⟩⟩
theorem JS.upD {R:List Int}{kvs:List (Key×V)}{x:Int}{R':List Int}{n':Nat}(j:JS H Hc Da Ls R S n)(hD:H Da=none)(hc:Hc Da=some (.dK kvs))(hk:∀ x,kM kvs (.inl x)=none↔x ∉ R)(hR:∀ z,z∈R'↔z∈R∨z=x)(hl:kvs.length+1≤R'.length+n'):JS H (upd Hc Da (.dK (mI kvs (.inl x) y))) Da Ls R' S n':=by
 obtain ⟨zs,h3,h4⟩:=j.ls;have K:TupK Hc (upd Hc Da (.dK (mI kvs (.inl x) y))):=fun q xs h=>by rw [aZ (eV h hc nofun)];exact h
 refine ⟨fun a o e=>by rw [aZ (bB e hD)];exact j.same a o e,⟨_,aW,fun z=>?_,?_⟩,⟨zs,by rw [aZ (eV h3 hc nofun)];exact h3,eP K h4⟩⟩
 ·rw [valV_put,hR]
  by_cases e:z=x
  ·rw [pO (by rw [e])]
   exact ⟨fun h=>(by cases h),fun h=>pP (Or.inr e) h⟩
  ·rw [pN (fun h=>e (Sum.inl.inj h)),hk]
   exact ⟨fun h h'=>h'.elim h e,fun h h'=>h (.inl h')⟩
 ·exact aS (jV _ _ _) hl
theorem jA:cj ["net","taken","reached","steps","first","ahead","here","step","there"] pza (defScope sSpread):=by trivial
theorem ok_spread (F:Fun K "spread_of" "spread_of" sSpread f fd)(T:Nm mg)(T2:Nt mg)(G1:Fn K mg "forest_of" kW pza f1 fd1)(F1:FnOk P w K mg base CX0 6 f1 fd1 pza (kB Tb0 lp lq))(G2:Fn K mg "steps_from" oj pzl f2 fd2)(F2:FnOk P w K mg base CX0 2 f2 fd2 pzl spSteps)(G3:Fn K mg "leads_to" sTo pzb f3 fd3):FnOk P w K mg base CX0 7 f fd pza (spSpread Tb0 lp lq):=by
 have F3:FnOk P w K mg base CX0 1 f3 fd3 pzb spTo:=ok_to G3.F;refine F.ok jA (by contradiction) (fun cdv A outer s H0 vs Q E hr h=>?_);obtain ⟨v,b,m,sp,rfl,hv,N,hT,k⟩:=h;have hr2:Room 2 _:=hr.mono (by decide);have hr1:Room 1 _:=hr.mono (by decide);have u1:=bU (Nat.add_le_add_left (by decide:1≤64) _) hr.units;have E:=N.ends;have m1:=N.m1;have m2:=N.m2;refine ⟨_,PSl.h (bg ⟨(psZ 1 jA.nd (pc1 G1 F1 hr (aq (pv 0) aP)))⟩
  (bg ⟨(psZ 2 jA.nd pe_dnewK)⟩
  (bg ⟨(psZ 3 jA.nd (jT aP))⟩
  (bg ⟨(iW bO rfl (gW rfl T2.range (aq (ixZ (pv 0)) aP)) (pgZ 4 jA.nd) (PSl.h (bg ⟨(psZ 5 jA.nd (PE.cutV (nP (pt_cmp (mJ u1 (pv 4) (pv 2)) rfl) (jT (aq (pv 4) aP)) (jT aP))))⟩
  (bg ⟨(ps_dput u1 (pv 2) (pv 4) pe_bl rfl)⟩
  (c9 ⟨(ps_while bO (dE op_gt (dO dk rfl T.len cO (aq (pv 5) aP)) bR (eO _)) (PSl.h (bg ⟨(psZ 6 jA.nd (pe_bm0 bK PySem.F.slot_list_pop PySem.F.type_list_pop mt_pop (pv 5)))⟩
  (c9 ⟨(iW bO rfl (fU (pc1 G2 F2 hr2 (aq (pv 0) (aq (pv 1) (aq (pv 6) aP))))) (pgZ 7 jA.nd) (PSl.h (bg ⟨(psZ 8 jA.nd (pc1 G3 F3 hr1 (aq (pv 0) (aq (pv 7) aP))))⟩
  (c9 ⟨(jB (pt_cmp (mJ u1 (pv 8) (pv 2)) rfl) (PSl.h (bg ⟨(ps_dput u1 (pv 2) (pv 8) pe_bl rfl)⟩
  (bg ⟨(jS (oH bK cB cA iL (pv 5) (aq (pv 8) aP)))⟩
  (c9 ⟨(jS (oH bK cB cA iL (pv 3) (aq (pv 7) aP)))⟩)))) fF)⟩))))⟩))))⟩)))))⟩
  (c9 ⟨(cM (pv 3))⟩))))),?_⟩
 refine ⟨_,rfl,v,b,m,sp,rfl,hv,N,hT,fun u H ns tb1 hT1 hu F0=>?_⟩;obtain ⟨l,π,rfl,O,pm⟩:=F0.natsF;have fr:FrstL m.toNat sp l:=⟨F0,π,O,pm⟩;rw [cU] at hu;have hu:H u=some (.tup (l.map fun (i:Nat)=>V.int i)):=hu;have hv1:=cw (Tb.lamT hT tb1) hv;obtain ⟨t,p,ys,rfl,ht,hp,hl,hy⟩:=fH hv1;clear hy hp hl hv;have PT:=fr.pots E;have hlt:=PT.nodup.2;have few:l.length≤40:=by have:=fr.few E (by lia);lia
 have ne:∀ i∈l,(sAt sp i).s≠(sAt sp i).g:=fun i hi=>(N.all _ (eM (hlt i hi))).ne
 intro Da hDa;have hDa1:(upd H Da (.dK [])) Da=some (.dK []):=aW;have S1:Same H (upd H Da (.dK [])):=Same.put (Same.refl H) hDa;generalize upd H Da (.dK [])=H1 at hDa1 S1 ⊢;refine ⟨bE _,fun Ls hLs=>?_⟩;have hLsH:H Ls=none:=Same.free S1 hLs;have S2:Same H1 (upd H1 Ls (.lst [])):=Same.put (Same.refl H1) hLs;have J2:JS H (upd H1 Ls (.lst [])) Da Ls [] [] 0:=⟨S1.trans S2,⟨[],S2 _ _ hDa1,fun x=>⟨fun _ h=>(by cases h),fun _=>rfl⟩,az _⟩,⟨[],aW,.nil⟩⟩;generalize upd H1 Ls (.lst [])=H2 at J2 ⊢;clear S2 hLs S1 hDa1;refine ⟨_,rfl,t,_,_,_,rfl,rfl,SqT.of (J2.same _ _ ht),bc (j:=1) rfl,m,rfl,by lia,by lia,?_⟩;refine lG (n:=m.toNat) (fun i σ HC=>∃ (R:List Int) (S:List Stp) (w4 w5 w6 w7 w8:Option V),σ=[some (.ref t),some (.ref u),some (.ref Da),some (.ref Ls),w4,w5,w6,w7,w8]∧JS H HC Da Ls R S i∧SI m.toNat sp l exN R [] S∧∀ x:Nat,x<i→(x:Int)∈R) ⟨[],[],none,none,none,none,none,rfl,J2,SI.start,fun x hx=>pP hx (Nat.not_lt_zero _)⟩ ?_ ?_
 ·rintro i σ HC hi ⟨R,S,w4,w5,w6,w7,w8,rfl,JC,I0,hall⟩
  rw [jn];have hRm:=I0.few;obtain ⟨kvs,hDaC,hkv,hkl⟩:=JC.da;refine ⟨fun v H'=>∃ La A,v= .ref La∧H La=none∧La≠Ls∧JS H H' Da Ls R S i∧H' La=some (.lst (A.map V.int))∧((i:Int) ∉ R∧A=[(i:Int)]∨(i:Int)∈R∧A=[]),?_,?_⟩
  rotate_left
  ·refine ⟨_,rfl,_,rfl,Da,_,rfl,DGet.k (k:= .inl (i:Int)) hDaC,_,rfl,?_⟩
   have mk:∀ (La:ai) (xs:List V),HC La=none→JS H (upd HC La (.lst xs)) Da Ls R S i∧H La=none∧La≠Ls:=fun La xs hLa=>⟨JC.on (Same.put (Same.refl HC) hLa),Same.free JC.same hLa,fun z=>by
    obtain ⟨zs,hz,_⟩:=JC.ls;rw [z,hz] at hLa;cases hLa⟩
   cases c:kM kvs (.inl (i:Int)) with
   | none =>
    refine iteT ⟨_,rfl,szZ1,fun La hLa=>?_⟩;obtain ⟨a1,a2,a3⟩:=mk La [.int (i:Int)] hLa;exact ⟨La,[(i:Int)],rfl,a2,a3,a1,aW,.inl ⟨(hkv _).mp c,rfl⟩⟩
   | some o =>
    refine iteF ⟨bE _,fun La hLa=>?_⟩;obtain ⟨a1,a2,a3⟩:=mk La [] hLa;exact ⟨La,[],rfl,a2,a3,a1,aW,.inr ⟨gN fun z=>(by rw [(hkv _).mpr z] at c;cases c),rfl⟩⟩
  rintro _ HD ⟨La,A,rfl,hLaH,nLL,JD,hLa,hA⟩;obtain ⟨kvD,hDaD,hkD,hlD⟩:=JD.da;refine ⟨_,rfl,_,rfl,Da,_,rfl,DPut.k (k:= .inl (i:Int)) hDaD (bU (by lia:kvD.length≤999) (by decide)),?_⟩;obtain ⟨R',hR',IR,inR,hall'⟩:∃ R',(∀ z,z∈R'↔z∈R∨z=(i:Int))∧SI m.toNat sp l exN R' A S∧R.length≤R'.length∧(∀ x:Nat,x<i+1→(x:Int)∈R'):=by
   rcases hA with ⟨a1,rfl⟩ | ⟨a1,rfl⟩
   ·refine ⟨R++[(i:Int)],fun z=>by rw [aG,aw],I0.root a1 (by lia) (by lia),by rw [av];lia,fun x hx=>?_⟩
    rcases iM.mp hx with z | z
    ·exact aE _ (hall x z)
    ·rw [z];simp
   ·refine ⟨R,fun z=>⟨.inl,fun h=>h.elim id fun e=>e ▸ a1⟩,I0,az _,fun x hx=>?_⟩
    rcases iM.mp hx with z | z
    ·exact hall x z
    ·rw [z];exact a1
  have JE:=JD.upD (y:= .bl true) (R':=R') (n':=i+1) (x:=(i:Int)) hDa hDaD hkD hR' (by lia);have hLaE:(upd HD Da (.dK (mI kvD (.inl (i:Int)) (.bl true)))) La=some (.lst (A.map V.int)):=by rw [aZ (eV hLa hDaD nofun)];exact hLa
  generalize upd HD Da (.dK (mI kvD (.inl (i:Int)) (.bl true)))=HE at JE hLaE ⊢;have lA:A.length≤1:=by rcases hA with ⟨_,rfl⟩ | ⟨_,rfl⟩ <;> simp
  clear hA hLa JD hDaD hkD hlD inR I0 hall hkv hDaC JC;refine ⟨fun n σ HA=>∃ (R A:List Int) (S:List Stp) (w6 w7 w8:Option V),n=2 * (16 - R.length)+A.length∧n≤40∧σ=[some (.ref t),some (.ref u),some (.ref Da),some (.ref Ls),some (.int (i:Int)),some (.ref La),w6,w7,w8]∧JS H HA Da Ls R S (i+1)∧HA La=some (.lst (A.map V.int))∧SI m.toNat sp l exN R A S∧∀ x:Nat,x<i+1→(x:Int)∈R,⟨_,R',A,S,_,_,_,rfl,by lia,rfl,JE,hLaE,IR,hall'⟩,?_⟩;clear JE hLaE IR hall' hR' hkl;rintro n σ HA ⟨R,A,S,w6,w7,w8,rfl,n40,rfl,JA,hLa,IA,hall⟩;refine ⟨_,rfl,La,_,rfl,.inl (SqL.of hLa),_,_,rfl,rfl,_,rfl,?_⟩
  rcases List.eq_nil_or_concat A with rfl | ⟨A',x,rfl⟩
  ·refine iteC (by rfl) ?_
   exact ⟨R,S,_,_,_,_,_,rfl,JA,IA,hall⟩
  rw [List.concat_eq_append] at hLa n40 IA ⊢;refine iteB (pQ (by rw [af,av];show ((A'.length+1:Nat):Int) > 0;lia)) ?_;refine ⟨_,fun σ' H' z=>z,?_⟩;rw [aM] at hLa;refine ⟨_,rfl,.inl ⟨rfl,_,SqL.of hLa⟩,La,_,.int x,rfl,rfl,hLa,by rw [av,br (by simp)];simp,?_⟩;rw [show (A'.map V.int++[x].map V.int).dropLast=A'.map V.int from List.dropLast_concat];have JB:=JA.upL (ys:=A'.map V.int) hLaH hLa nLL.symm;have hLaB:(upd HA La (.lst (A'.map V.int))) La=some (.lst (A'.map V.int)):=aW;generalize upd HA La (.lst (A'.map V.int))=HB at JB hLaB ⊢;obtain ⟨IB,xR⟩:=IA.pop;have lB:2 * (16 - R.length)+A'.length+1≤40:=by rw [av] at n40;exact n40
  have eB:2 * (16 - R.length)+(A'++[x]).length=2 * (16 - R.length)+A'.length+1:=by rw [av];rfl
  rw [eB];clear JA hLa IA n40 eB;refine ⟨_,rfl,_,rfl,_,rfl,.ref t,u,b,m,sp,l,x,rfl,hv1.same JB.same,JB.same _ _ hu,hlt,few,fun L HC zs SC fL hL dz=>⟨L,rfl,⟨_,SqL.of hL⟩,?_⟩⟩;have nL1:L≠La:=fun z=>by rw [z,hLaB] at fL;cases fL
  have nL2:L≠Ls:=fun z=>by
   obtain ⟨z1,hz1,_⟩:=JB.ls;rw [z,hz1] at fL;cases fL
  have JC:=JB.on SC;have hLaC:=SC _ _ hLaB;clear JB hLaB;have lz:zs.length=(cX sp l x).length:=by rw [dz.length];unfold eU;rw [af]
  refine jE (K:=K) (a:=L) (xs:=zs) (fun j σ HD=>∃ (R2 A2:List Int) (S2:List Stp) (w7 w8:Option V),JS H HD Da Ls R2 S2 (i+1)∧HD La=some (.lst (A2.map V.int))∧SI m.toNat sp l (· =x) R2 A2 S2∧x∈R2∧(∀ x:Nat,x<i+1→(x:Int)∈R2)∧2 * (16 - R2.length)+A2.length≤2 * (16 - R.length)+A'.length∧(∀ s∈(cX sp l x).take j,s.i∈S2.map Stp.i)∧HD L=some (.lst zs)∧IsDs HD zs (eU Stp.row (cX sp l x))∧σ=[some (.ref t),some (.ref u),some (.ref Da),some (.ref Ls),some (.int (i:Int)),some (.ref La),some (.int x),w7,w8]) ⟨R,A',S,_,_,JC,hLaC,IB,xR,hall,az _,fun s hs=>pP hs (by simp),hL,dz,rfl⟩ (fun j σ HD _ q=>by obtain ⟨_,_,_,_,_,_,_,_,_,_,_,_,h,_⟩:=q;exact SqL.of h) ?_ ?_
  ·clear JC hLaC IB xR hall hL dz SC
   rintro j y σ HD hy ⟨R2,A2,S2,w7,w8,JD,hLaD,ID,xD,hallD,mD,hsD,hLD,dD,rfl⟩;have hj:j<(cX sp l x).length:=by have:=(ar.mp hy).1;lia
   have hsj:=gE hj;obtain ⟨y',hy',dy⟩:=dD.at (i:=j) (d:= .tup ((Stp.row (cX sp l x)[j]).map Dt.int)) (by unfold eU;rw [ax,hsj];rfl);rw [hy] at hy';cases hy';obtain ⟨q,qs,rfl,hq,rq⟩:=dy.tup_of;have eq:=rq.ints_of;subst eq;have hmem:(cX sp l x)[j]∈cX sp l x:=bu hj;have hin:=hlt _ (mU hmem).1.1;have more:∀ S3:List Stp,(∀ s∈S2,s∈S3)→(cX sp l x)[j].i∈S3.map Stp.i→∀ s∈(cX sp l x).take (j+1),s.i∈S3.map Stp.i:=fun S3 sub hj3 s hs=>by
    rw [bh,hsj] at hs
    rcases aG.mp hs with z | z
    ·obtain ⟨t',ht',e⟩:=bt.mp (hsD s z)
     exact bt.mpr ⟨t',sub _ ht',e⟩
    ·rw [aw.mp (show s∈[(cX sp l x)[j]] from z)];exact hj3
   generalize (cX sp l x)[j]=st at hq hin dy hmem more;refine ⟨_,rfl,_,rfl,.ref t,q,b,m,sp,st,sAt sp st.i,rfl,hv1.same JD.same,hq,ju hin,?_⟩;rw [(kx hin).1];obtain ⟨kv2,hDaD,hk2,hl2⟩:=JD.da;have hR2:=ID.fewX;refine ⟨_,rfl,_,rfl,Da,_,rfl,DGet.k (k:= .inl (eE sp st)) hDaD,_,rfl,?_⟩;cases hto:kM kv2 (.inl (eE sp st)) with
   | some o =>
    have inR:eE sp st∈R2:=gN fun z=>by rw [(hk2 _).mpr z] at hto;cases hto
    exact iteF ⟨R2,A2,S2,_,_,JD,hLaD,ID,xD,hallD,mD,more S2 (fun _ h=>h) (ID.has PT ne hmem inR),hLD,dD,rfl⟩
   | none =>
    have out:eE sp st ∉ R2:=(hk2 _).mp hto;have I3:=ID.add E hlt xD hmem out;have hR3:=I3.fewX;rw [av] at hR3;have hR3:R2.length+1≤m.toNat:=hR3;refine iteT ⟨_,rfl,_,rfl,Da,_,rfl,DPut.k (k:= .inl (eE sp st)) hDaD (bU (by lia:kv2.length≤999) (by decide)),?_⟩;have J3:=JD.upD (y:= .bl true) (R':=R2++[eE sp st]) (n':=i+1) (x:=eE sp st) hDa hDaD hk2 (fun z=>by rw [aG,aw]) (by rw [av];show _≤R2.length+1+(i+1);lia);have K3:TupK HD (upd HD Da (.dK (mI kv2 (.inl (eE sp st)) (.bl true)))):=fun q xs h=>by rw [aZ (eV h hDaD nofun)];exact h
    have hLa3:(upd HD Da (.dK (mI kv2 (.inl (eE sp st)) (.bl true)))) La=some (.lst (A2.map V.int)):=by rw [aZ (eV hLaD hDaD nofun)];exact hLaD
    have hL3:(upd HD Da (.dK (mI kv2 (.inl (eE sp st)) (.bl true)))) L=some (.lst zs):=by rw [aZ (eV hLD hDaD nofun)];exact hLD
    generalize upd HD Da (.dK (mI kv2 (.inl (eE sp st)) (.bl true)))=H3 at J3 K3 hLa3 hL3 ⊢;have d3:=eP K3 dD;have q3:=K3 _ _ hq;refine ⟨_,rfl,.inl ⟨rfl,_,SqL.of hLa3⟩,_,rfl,La,_,_,rfl,rfl,hLa3,mG (by rw [af];lia),?_⟩;have J4:=J3.upL (ys:=A2.map V.int++[V.int (eE sp st)]) hLaH hLa3 nLL.symm;have K4:TupK H3 (upd H3 La (.lst (A2.map V.int++[V.int (eE sp st)]))):=i6 hLa3;have hLa4:(upd H3 La (.lst (A2.map V.int++[V.int (eE sp st)]))) La=some (.lst (A2.map V.int++[V.int (eE sp st)])):=aW;have hL4:(upd H3 La (.lst (A2.map V.int++[V.int (eE sp st)]))) L=some (.lst zs):=by rw [aZ nL1];exact hL3
    generalize upd H3 La (.lst (A2.map V.int++[V.int (eE sp st)]))=H4 at J4 K4 hLa4 hL4 ⊢;have d4:=eP K4 d3;have q4:=K4 _ _ q3;obtain ⟨z4,hz4,dz4⟩:=J4.ls;have lz4:z4.length=S2.length:=by rw [dz4.length];unfold eU;rw [af]
    have lS:=ID.len;refine ⟨_,rfl,.inl ⟨rfl,_,SqL.of hz4⟩,_,rfl,Ls,_,_,rfl,rfl,hz4,mG (by lia),?_⟩;have J5:=J4.upS (s:=st) hLsH hz4 dz4 (.tup q4 (IsDs.ints (Stp.row st)));refine ⟨R2++[eE sp st],A2++[eE sp st],S2++[st],_,_,J5,?_,I3,aE _ xD,fun x hx=>aE _ (hallD x hx),?_,more _ (fun _ h=>aE _ h) (by rw [aM];exact ay _ (by simp)),?_,eP (i6 hz4) d4,rfl⟩
    ·rw [aZ nLL,hLa4,aM];rfl
    ·rw [av,av]
     show 2 * (16 - (R2.length+1))+(A2.length+1)≤_;lia
    ·rw [aZ nL2];exact hL4
  ·rintro σ HD ⟨R2,A2,S2,w7,w8,JD,hLaD,ID,xD,hallD,mD,hsD,hLD,dD,rfl⟩
   rw [lz,bo] at hsD;exact ⟨_,by lia,R2,A2,S2,_,_,_,rfl,by lia,rfl,JD,hLaD,ID.done hsD,hallD⟩
 ·rintro σ HC ⟨R,S,w4,w5,w6,w7,w8,rfl,JC,I0,hall⟩
  obtain ⟨zs,hz,dz⟩:=JC.ls;have hLs0:H0 Ls=none:=by
   cases z:H0 Ls with
   | none=>rfl
   | some o =>
    by_cases e:Ls=Tb0
    ·subst e
     obtain ⟨ps,hps⟩:=LamT.tbl hT1;rw [hps] at hLsH;cases hLsH
    ·rw [tb1 Ls o e z] at hLsH;cases hLsH
  exact ⟨_,rfl,k Ls zs l S HC (tb1.trans (Same.tb JC.same)) (LamT.same JC.same hT1) hLs0 hz dz fr (I0.ok E hlt hall)⟩
abbrev sRest:cG:=top 28
abbrev sTabBy:cG:=top 37
inductive spTabBy (vs:List V)(H:Hp)(Q:VK)(_:XK):Prop
 | mk (v vb:V)(L:ai)(b m:Int)(sp:List Sn)(bs:List (Int×Int))(zs:List V)(S:List Stp)(_:vs=[v,.ref L,vb])(_:IsD H v (kN b m sp))(_:0<b)(_:0<m)(_:m≤16)(_:j8 m.toNat sp)(_:H L=some (.lst zs))(_:IsDs H zs (eU Stp.row S))(_:S.length≤16)(_:(∀ s∈S,s.i<sp.length∧(s.d=1∨s.d= -1)))(_:IsD H vb (bndP bs))(_:bs.length=sp.length)(_:∀ q H',Same H H'→H' q=some (.tup ((tabOf b sp bs m.toNat S).map V.int))→Q (.ref q) H')
theorem frmS_rng (E:j8 m sp){t:Stp}(h:t.i<sp.length):0≤kR sp t∧kR sp t<m:=by
 obtain ⟨a,b,c,d⟩:=E _ (eM h);rw [←(mE h).2];unfold frm;split <;> lia
theorem ixN_int (h0:0≤z)(h1:z<n):ixN n z=some z.toNat:=by unfold ixN;rw [pO h0,pO h1]
theorem atI_int {xs:List α}{x:α}(h0:0≤z)(h:xs[z.toNat]? =some x):atI xs z=some x:=by
 have:=(ar.mp h).1;unfold atI;rw [ixN_int h0 (by lia)];exact h
theorem map_set {l:List Int}{x:Int}:(l.map V.int).set n (V.int x)=(l.set n x).map V.int:=by rw [List.map_set]
theorem scRest:cj pzg pzg (defScope sRest):=by trivial
theorem ok_rest (F:Fun K "rest_by" "rest_by" sRest f fd):FnOk P w K mg base CX0 1 f fd pzg spRest:=by
 refine F.ok scRest (by contradiction) (fun cdv A outer s H vs Q E hr h=>?_);obtain ⟨b,n,rfl,hb,k⟩:=h;refine ⟨_,PSl.h (c9 ⟨(cM (dU nF (pv 1) (pv 0)))⟩),?_⟩;exact ⟨_,rfl,_,rfl,_,_,rfl,rfl,hb,k⟩
theorem scTabBy:cj ["net","steps","bounds","times","step"] pzz (defScope sTabBy):=by trivial
theorem ok_tabBy (F:Fun K "table_by" "table_by" sTabBy f fd)(T:Nm mg)(G1:Fn K mg "leads_to" sTo pzb f1 fd1)(G2:Fn K mg "leads_from" sFrom pzb f2 fd2)(G3:Fn K mg "rest_by" sRest pzg f3 fd3):FnOk P w K mg base CX0 2 f fd pzz spTabBy:=by
 have F1:FnOk P w K mg base CX0 1 f1 fd1 pzb spTo:=ok_to G1.F;have F2:FnOk P w K mg base CX0 1 f2 fd2 pzb spFrom:=ok_from G2.F;have F3:FnOk P w K mg base CX0 1 f3 fd3 pzg spRest:=ok_rest G3.F;refine F.ok scTabBy (by contradiction) (fun cdv A outer s H vs Q E hr h=>?_);obtain ⟨v,vb,L,b,m,sp,bs,zs,S,rfl,hv,hb,m0,m16,E,hL,dz,lS,hS,hvb,lb,k⟩:=h;have hr1:=hr;obtain ⟨t,p,ys,rfl,ht,hp,hl,hy⟩:=fH hv;obtain ⟨pb,yb,rfl,hpb,hlb,rb⟩:=jR hvb;refine ⟨_,PSl.h (bg ⟨(psZ 3 scTabBy.nd (dU op_rep (oF (aq bR aP)) (ixZ (pv 0))))⟩
  (bg ⟨(iW bO rfl (fU (pv 1)) (pgZ 4 scTabBy.nd) (dA (pB (dU iA (eN fc (pv 3) (pc1 G2 F2 hr1 (aq (pv 0) (aq (pv 4) aP))) (fun _ _=>rfl)) (dU nE (ixZ (pv 4)) (ixZ (eN fu (pv 2) (ixZ (pv 4)) (fun _ _=>rfl))))) (pG (pv 3) (pc1 G1 F1 hr1 (aq (pv 0) (aq (pv 4) aP))) lJ))))⟩
  (c9 ⟨(cM (eR ji rfl T.ttup jj (aq (ij (fr:=pza) (js:=[0]) rfl (fU (pv 3)) (by trivial) rfl (by trivial) rfl (by exists sTabBy) (by trivial) rfl (by trivial) (fun _ _ _ _ _=>⟨(pc1 G3 F3 hr1 (aq (eN (r:=rIxT K) fu (pv 1) bR (fun _ _=>rfl)) (aq (pv 0) aP))),ig⟩)) aP)))⟩))),?_⟩
 refine ⟨szZ1,fun q1 H1 S1 h1=>⟨_,rfl,t,_,_,_,rfl,rfl,SqT.of (S1 _ _ ht),bc (j:=1) rfl,q1,m,_,rfl,rfl,h1,by lia,by lia,?_,fun Lt hLt=>?_⟩⟩
 ·show 1 * m.toNat≤aR
  exact eK (by lia)
 have hLtH:H Lt=none:=Same.free S1 hLt;have S2:Same H (upd H1 Lt (.lst (bF m.toNat [V.int 0]).flatten)):=S1.trans (Same.put (Same.refl H1) hLt);have h2:(upd H1 Lt (.lst (bF m.toNat [V.int 0]).flatten)) Lt=some (.lst ((bF m.toNat (0:Int)).map V.int)):=by
  rw [aW,List.map_replicate,List.flatten_replicate_singleton]
 generalize upd H1 Lt (.lst (bF m.toNat [V.int 0]).flatten)=H2 at S2 h2 ⊢;have lz:zs.length=S.length:=by rw [dz.length];unfold eU;rw [af]
 have len:∀ j,((S.take j).foldl (setT sp (lowB bs)) (bF m.toNat 0)).length=m.toNat:=fun j=>by rw [lI (m:=0),gF]
 refine ⟨_,rfl,L,rfl,⟨_,SqL.of (S2 _ _ hL)⟩,?_⟩;refine jE (K:=K) (a:=L) (xs:=zs) (fun j σ HD=>Same H HD∧HD Lt=some (.lst (((S.take j).foldl (setT sp (lowB bs)) (bF m.toNat 0)).map V.int))∧∃ w4,σ=[some (.ref t),some (.ref L),some (.ref pb),some (.ref Lt),w4]) ⟨S2,h2,none,rfl⟩ (fun j σ HD _ ⟨h,_⟩=>SqL.of (h _ _ hL)) ?_ ?_
 ·rintro j y σ HD hy' ⟨SD,hD,w4,rfl⟩
  have hj:j<S.length:=by have:=(ar.mp hy').1;lia
  have hsj:=gE hj;obtain ⟨y',hy2,dy⟩:=dz.at (i:=j) (d:= .tup ((Stp.row S[j]).map Dt.int)) (by unfold eU;rw [ax,hsj];rfl);rw [hy'] at hy2;cases hy2;obtain ⟨q,qs,rfl,hq,rq⟩:=dy.tup_of;have eq:=rq.ints_of;subst eq;obtain ⟨hin,hd⟩:=hS _ (bu hj);have fold:(S.take (j+1)).foldl (setT sp (lowB bs)) (bF m.toNat 0)=setT sp (lowB bs) ((S.take j).foldl (setT sp (lowB bs)) (bF m.toNat 0)) S[j]:=by
   rw [bh,hsj,cx];rfl
  rw [fold];have lj:=len j;generalize (S.take j).foldl (setT sp (lowB bs)) (bF m.toNat 0)=ts at hD lj ⊢;generalize S[j]=st at hq hin hd;obtain ⟨f0,f1'⟩:=frmS_rng E hin;obtain ⟨t0,t1⟩:=i7 E hin;have hbi:st.i<bs.length:=by lia
  obtain ⟨qb,hqb,hqb2⟩:=l4 rb (gE hbi);have el:lowB bs st.i=bs[st.i].1:=by unfold lowB;rw [ah,gE hbi];rfl
  have hat:∀ z:Int,0≤z→z<m.toNat→(ts.map V.int)[z.toNat]? =some (V.int (tm ts z)):=fun z z0 z1=>by
   rw [ax,gE (by lia:z.toNat<ts.length)];unfold tm;rw [ah,gE (by lia:z.toNat<ts.length)];rfl
  refine ⟨_,rfl,_,rfl,_,rfl,.ref t,q,b,m,sp,st,sAt sp st.i,rfl,hv.same SD,SD _ _ hq,ju hin,?_⟩;rw [(kx hin).2];refine ⟨Lt,_,_,_,rfl,rfl,SqL.of hD,atI_int f0 (hat _ f0 f1'),?_⟩;refine ⟨_,rfl,q,_,_,_,rfl,rfl,SqT.of (SD _ _ hq),bc (j:=1) rfl,_,rfl,_,rfl,q,_,_,_,rfl,rfl,SqT.of (SD _ _ hq),bc (j:=0) rfl,pb,_,_,_,rfl,rfl,SqT.of (SD _ _ hpb),bc (j:=st.i) hqb,qb,_,_,_,rfl,rfl,SqT.of (SD _ _ hqb2),bc (j:=0) rfl,_,_,rfl,rfl,?_,_,_,rfl,rfl,?_⟩
  ·exact .inl (by rcases hd with e | e <;> rw [e] <;> decide)
  refine ⟨_,rfl,_,rfl,_,rfl,.ref t,q,b,m,sp,st,sAt sp st.i,rfl,hv.same SD,SD _ _ hq,ju hin,?_⟩;rw [(kx hin).1];refine ⟨Lt,_,_,_,rfl,rfl,hD,ixN_int t0 (by rw [af];lia),?_⟩;rw [map_set,←el];exact ⟨fun a o e=>by rw [aZ (bB e hLtH)];exact SD _ _ e,aW,_,rfl⟩
 ·rintro σ HD ⟨SD,hD,w4,rfl⟩
  rw [lz,bo] at hD;refine ⟨_,rfl,Lt,rfl,⟨_,SqL.of hD⟩,?_⟩;have lt:(jP sp (lowB bs) m.toNat S).length=m.toNat:=by have:=len S.length;rwa [bo] at this
  refine gY (K:=K) (a:=Lt) (xs:=(jP sp (lowB bs) m.toNat S).map V.int) (fun i zs HC=>HC=HD∧zs=(((jP sp (lowB bs) m.toNat S).take i).map (· % b)).map V.int) ⟨rfl,rfl⟩ (fun i zs HC hi ⟨e1,e2⟩=>⟨by rw [e1];exact SqL.of hD,by rw [e2,af,af,bI];lia⟩) (by rw [af,lt];exact eK (by lia)) (fun i x zs HC hx ⟨e1,e2⟩=>?_) (fun zs HC ⟨e1,e2⟩ D hD2=>?_)
  ·subst e1
   rw [ax] at hx;obtain ⟨z,hz,rfl⟩:=aI.mp hx;refine gk ⟨_,rfl,t,_,_,_,rfl,rfl,SqT.of (SD _ _ ht),bc (j:=0) rfl,_,rfl,b,z,rfl,hb,?_⟩;rw [e2,bh,hz,aM,aM];exact ⟨rfl,rfl⟩
  ·subst e1
   rw [af,bo] at e2;have S3:Same HC (upd HC D (.lst zs)):=Same.put (Same.refl HC) hD2;refine ⟨D,_,rfl,.inl (.inl aW),fun q H4 S4 h4=>?_⟩;exact k q H4 (SD.trans (S3.trans S4)) (by rw [h4,e2];rfl)
def setF (sp:List Sn)(fs:List Int)(s:Stp):List Int:=fs.set (eE sp s).toNat (tm fs (kR sp s))
def fstS (sp:List Sn)(m:Nat)(S:List Stp):List Int:=S.foldl (setF sp) (iI m)
theorem setF_len {sp:List Sn}:∀ (S:List Stp) (fs:List Int),(S.foldl (setF sp) fs).length=fs.length
 | [],_=>rfl
 | s::S,fs=>by
  rw [bP,setF_len S];exact gu
theorem fstS_len:(fstS sp m S).length=m:=by unfold fstS;rw [setF_len,g9]
theorem fstS_snoc {s:Stp}:fstS sp m (S++[s])=setF sp (fstS sp m S) s:=by unfold fstS;rw [cx];rfl
theorem snocRec {P:List α→Prop}(l:List α)(h0:P [])(h1:∀ l a,P l→P (l++[a])):P l:=by
 have:∀ r:List α,P r.reverse:=fun r=>by
  induction r with
  | nil=>exact h0
  | cons a r ih=>rw [List.reverse_cons];exact h1 _ _ ih
 have h:=this l.reverse
 rwa [List.reverse_reverse] at h
theorem frm_rng0 (E:j8 m sp){t:Stp}(h:t.i<sp.length):0≤kR sp t∧kR sp t<m:=by
 have e:=(mE h).2;obtain ⟨a,b,c,d⟩:=E _ (eM h);rw [←e];unfold frm;split <;> lia
theorem fstS_ok (E:j8 m sp)(h:Spr sp S):(∀ s∈S,s.i<sp.length)→∀ s∈S,tm (fstS sp m S) (eE sp s)=tm (fstS sp m S) (kR sp s):=by
 induction h with
 | nil=>exact fun _ s hs=>by cases hs
 | snoc h n o ih =>
  rename_i S s;intro hl t ht;have hl':∀ t∈S,t.i<sp.length:=fun t h'=>hl t (aE _ h')
  have hs:s.i<sp.length:=hl s (by simp);obtain ⟨x0,x1⟩:=i7 E hs;have len:(fstS sp m S).length=m:=fstS_len;rw [fstS_snoc];unfold setF
  rcases aG.mp ht with z | z
  ·rw [lR x0 (by lia) (i7 E (hl' t z)).1,lR x0 (by lia) (frm_rng0 E (hl' t z)).1,pN (fun q=>(o t z).1 q.symm),pN (fun q=>(o t z).2 q.symm)]
   exact ih hl' t z
  ·rw [aw.mp z,lR x0 (by lia) x0,lR x0 (by lia) (frm_rng0 E hs).1,pO rfl,pN (fun q=>n q.symm)]
def Cn (sp:List Sn)(a c:Int):Prop:=∀ π:Int→Prop,(∀ x∈sp,π x.s↔π x.g)→(π a↔π c)
theorem Cn.refl {a:Int}:Cn sp a a:=fun _ _=>Iff.rfl
theorem Cn.symm {a c:Int}(h:Cn sp a c):Cn sp c a:=fun π hp=>(h π hp).symm
theorem Cn.trans {a c d:Int}(h:Cn sp a c)(k:Cn sp c d):Cn sp a d:=fun π hp=>(h π hp).trans (k π hp)
theorem cn_step {s:Stp}(h:s.i<sp.length):Cn sp (kR sp s) (eE sp s):=fun π hp=>by
 obtain ⟨e1,e2⟩:=mE h;rw [←e1,←e2];have:=hp _ (eM h);unfold frm too;split <;> first | exact this | exact this.symm
theorem fstS_cn (E:j8 m sp):∀ (S:List Stp),(∀ s∈S,s.i<sp.length)→∀ x:Int,0≤x→x<m→Cn sp x (tm (fstS sp m S) x):=fun S=>by
 refine snocRec (P:=fun S=>(∀ s∈S,s.i<sp.length)→∀ x:Int,0≤x→x<m→Cn sp x (tm (fstS sp m S) x)) S ?_ ?_
 ·intro _ x x0 x1
  show Cn sp x (tm (iI m) x);rw [lZ x0 x1];exact Cn.refl
 ·intro S s ih hl x x0 x1
  have hs:s.i<sp.length:=hl s (by simp);have ih:=ih fun t h'=>hl t (aE _ h')
  obtain ⟨y0,y1⟩:=i7 E hs;have len:(fstS sp m S).length=m:=fstS_len;rw [fstS_snoc];unfold setF;rw [lR y0 (by lia) x0]
  by_cases e:x=eE sp s
  ·rw [pO e,e]
   obtain ⟨f0,f1⟩:=frm_rng0 E hs;exact (cn_step hs).symm.trans (ih _ f0 f1)
  ·rw [pN e]
   exact ih x x0 x1
structure Lbl (m:Nat)(sp:List Sn)(fs:List Int):Prop where
 len:fs.length=m
 spn:∀ x∈sp,tm fs x.s=tm fs x.g
 con:∀ x:Int,0≤x→x<m→Cn sp x (tm fs x)
theorem Lbl.of (E:j8 m sp)(F:FrstL m sp l)(ok:SprOk m sp l S)(hl:∀ i∈l,i<sp.length):Lbl m sp (fstS sp m S):=by
 have hS:∀ s∈S,s.i<sp.length:=fun s hs=>hl _ (ok.inn s hs).1
 refine ⟨fstS_len,fun x hx=>?_,fstS_cn E S hS⟩;obtain ⟨k,hk,rfl⟩:=bM hx;have ek:sAt sp k=sp[k]:=by unfold sAt;rw [ah,gE hk];rfl
 rw [←ek];have H:=F.held E hk;refine (H (fun z=>tm (fstS sp m S) (sAt sp k).s=tm (fstS sp m S) z) (fun i hi=>?_) rfl);obtain ⟨s,hs,rfl⟩:=bt.mp (ok.all i hi);have e:=fstS_ok E ok.spr hS s hs;obtain ⟨f1,f2,f3,f4⟩:=oP (hl _ hi);have hd:=(ok.inn s hs).2;obtain ⟨i,d⟩:=s
 dsimp only at e f1 f2 f3 f4 hd ⊢
 rcases hd with rfl | rfl
 ·rw [f1,f2] at e;rw [e]
 ·rw [f3,f4] at e;rw [e]
def kU (fs:List Int)(f:Int):List Int:=((aK fs.length).filter fun i=>decide (fs.getD i 0=f)).map fun i:Nat=>(i:Int)
def iJ (fs:List Int):List Int:=fs.foldl (fun a f=>if f∈a then a else a++[f]) []
theorem mO {fs:List Int}{f:Int}:iJ (fs++[f])=if f∈iJ fs then iJ fs else iJ fs++[f]:=by unfold iJ;rw [cx];rfl
theorem kI {f:Int}:∀ (fs:List Int),f∈iJ fs↔f∈fs:=fun fs=>by
 refine snocRec (P:=fun fs=>f∈iJ fs↔f∈fs) fs ?_ ?_
 ·exact Iff.rfl
 ·intro fs g ih
  rw [mO]
  by_cases e:g∈iJ fs
  ·rw [pO e,ih,aG,aw]
   exact ⟨.inl,fun h=>h.elim id fun z=>by rw [←z] at e;exact ih.mp e⟩
  ·rw [pN e,aG,aG,ih]
theorem i3:∀ (fs:List Int),(iJ fs).Nodup:=fun fs=>by
 refine snocRec (P:=fun fs=>(iJ fs).Nodup) fs ?_ ?_
 ·exact jb
 ·intro fs g ih
  rw [mO]
  by_cases e:g∈iJ fs
  ·rw [pO e];exact ih
  ·rw [pN e]
   exact nd_snoc ih e
theorem idxF_snoc {fs:List Int}{f g:Int}:kU (fs++[g]) f=if g=f then kU fs f++[(fs.length:Int)] else kU fs f:=by
 unfold kU;rw [av,cu,jY,fe,aM];have e1:(aK fs.length).filter (fun i=>decide ((fs++[g]).getD i 0=f))=(aK fs.length).filter (fun i=>decide (fs.getD i 0=f)):=by
  refine List.filter_congr fun i hi=>?_
  rw [ah,ah,bS (bT.mp hi)]
 have e2:(fs++[g]).getD fs.length 0=g:=by
  rw [ah,br (az _),eJ];rfl
 rw [e1,e8,List.filter_nil]
 by_cases z:g=f
 ·rw [pO z,pO (by rw [decide_eq_true_eq,e2];exact z)];rfl
 ·rw [pN z,pN (by rw [decide_eq_true_eq,e2];exact z),List.map_nil,cP]
theorem kH {fs:List Int}{f:Int}:z∈kU fs f↔0≤z∧z<fs.length∧tm fs z=f:=by
 unfold kU;rw [bt]
 constructor
 ·rintro ⟨i,hi,rfl⟩
  obtain ⟨a,c⟩:=b9.mp hi;have:=bT.mp a;exact ⟨by lia,by lia,by unfold tm;rw [bV];exact pS c⟩
 ·rintro ⟨a,c,d⟩
  exact ⟨z.toNat,b9.mpr ⟨bT.mpr (by lia),pQ d⟩,by lia⟩
end HN
namespace L2
open PySem PySem.Spec PyProof.Rows
section
variable {kvs:List (Key×V)}{k:Key}{z:V}{r:aa}
theorem d_setdef (I:Inv X aJ σ H s)(e:H a=some (.dK kvs))(ry:RelV (kV k) u)(rz:RelV z r)(hl:kvs.length<aR)
  (h1:∀ v w' s',kM kvs k=some v→Inv X aJ σ H s'→RelV v w'→Q w' s') (h2:∀ s',kM kvs k=none→Inv X aJ σ (upd H a (.dK (mI kvs k z))) s'→Q r s') :
  aH (aU X.prog X.w) A (ir (.builtin "dict.setdefault") [.ref a,u,r]) Q E s:=by
 obtain ⟨zz,hd,vs,rel,dd⟩:=dk_of I.hok e;refine call_meetsIn PySem.F.slot_dict_setdefault dd.typeIs PySem.F.entry_dict_setdefault (PySem.F.args_dict_setdefault_3 _ _ _) (kt_meets_setdefault (gg X.prog X.w) a (kV_is ry) hd r)
  ⟨vs,dd,by rw [←rel.length];exact zz,fun w' hv=>?_,fun hn h' dd' hs=>?_⟩
 ·cases l:kM kvs k with
  | none =>
   have:=RelO.none_of (by rw [←l];exact rel.val k);rw [this] at hv;cases hv
  | some v =>
   obtain ⟨w2,hw,rw'⟩:=RelO.some_of (v:=v) (o:=valueAt vs k) (by rw [←l];exact rel.val k);rw [hw] at hv;cases hv;exact h1 v _ _ l (I.tok _) rw'
 ·have l:kM kvs k=none:=by
   cases l:kM kvs k with
   | none=>rfl
   | some v =>
    obtain ⟨w2,hw,_⟩:=RelO.some_of (v:=v) (o:=valueAt vs k) (by rw [←l];exact rel.val k);rw [hw] at hn;cases hn
  have he:∃ q,h'.get? a=some q:=let ⟨q,_,_,hq,_⟩:=dd';⟨q,hq⟩;exact h2 _ l (d_write I (by rw [e];exact True.intro) hs he (dk_new (aS (jV kvs k z) hl) hd (rel.put k rz) dd'))
end
def tDSetd (td ty tx:TE):TE:=fun σ H Q=>td σ H fun x H1=>∃ a,x= .ref a∧IsDct H1 a∧ty σ H1 fun y H2=>tx σ H2 fun z H3=>∃ kvs k,H3 a=some (.dK kvs)∧y=kV k∧kvs.length<aR ∧
 (∀ v,kM kvs k=some v→Q v H3)∧(kM kvs k=none→Q z (upd H3 a (.dK (mI kvs k z))))
def isVV (r d:ai):HO:= .ext fun h=>h.IsValuesView r d
def tDVals (td:TE):TE:=fun σ H Q=>td σ H fun x H1=>∃ a kvs,x= .ref a∧H1 a=some (.dK kvs)∧∀ p,H1 p=none→Q (.ref p) (upd H1 p (isVV p a))
structure M0 (X:Cx)(o:Expr)(m:Str)(apos:Pos)(cpos:Pos):Prop where
 base:gT o m X.env (dg o X.env)=dg o X.env
 few:((dM cpos (bb [] X.env)).all (fun x=> !x.1) && (backToKw cpos (keywordEach [] X.env)).all (fun x=>x.1.isSome)
  && decide (([]:List Expr).length+([]:List Keyword).length+(if ([]:List Keyword).isEmpty then 0 else 1)<30))=true
 line:(apos.endLine == cpos.line)=true
 trees:dM cpos (bb [] X.env)=[]
theorem Paired.getR {α β:Type}{F:α→β→Prop}:∀ {l:List α} {k:List β},jH F l k→∀ {i:Nat} {x:α},l[i]? =some x→∃ y,k[i]? =some y∧F x y
 | _,_,.nil,_,_,h=>by cases h
 | _,_,.cons r t,0,x,h=>by cases h;exact ⟨_,rfl,r⟩
 | _,_,.cons r t,i+1,x,h=>Paired.getR t (i:=i) h
section
variable {o f:Expr}{cpos:Pos}{td ty tx:TE}
theorem pe_dsetd (ho:PE X o td)(he:PE X e ty)(hf:PE X f tx)(m:M2 X o "setdefault" apos e f cpos):PE X (.Call (.Attribute o "setdefault" apos) [e,f] [] cpos) (tDSetd td ty tx):=by
 intro aJ s σ H Q I h;refine wpAny_Call_method m.base m.few m.line PySem.F.plainAttrs_dict PySem.F.slot_dict_setdefault PySem.F.type_dict_setdefault (thn (ho aJ s σ H _ I h) fun u s1 ⟨x,H1,I1,rx,a,ex,d,q1⟩=>?_);subst ex;obtain rfl:u=aa.ref a:=rx;obtain ⟨t1,t2,_⟩:=isDct_at I1 d;refine ⟨t1,t2,?_⟩;rw [m.trees];refine i5 rfl (Calls.evalArgs_plain (Calls.spliced_cons (thn (he aJ s1 σ H1 _ I1 q1) fun iv s2 ⟨y,H2,I2,ry,q2⟩ =>
  Calls.spliced_cons (thn (hf aJ s2 σ H2 _ I2 q2) fun fv s3 ⟨z,H3,I3,rz,kvs,k,ea,ey,hl,q3,q4⟩=>Calls.spliced_nil ?_))))
 subst ey;exact d_setdef I3 ea ry rz hl (fun v w' s4 l I4 rw'=>⟨v,H3,I4,rw',q3 v l⟩) fun s4 l I4=>⟨z,_,I4,rz,q4 l⟩
theorem pe_dvals (ho:PE X o td)(m:M0 X o "values" apos cpos):PE X (.Call (.Attribute o "values" apos) [] [] cpos) (tDVals td):=by
 intro aJ s σ H Q I h;refine wpAny_Call_method m.base m.few m.line PySem.F.plainAttrs_dict PySem.F.slot_dict_values PySem.F.type_dict_values (thn (ho aJ s σ H _ I h) fun u s1 ⟨x,H1,I1,rx,a,kvs,ex,ea,q1⟩=>?_);subst ex;obtain rfl:u=aa.ref a:=rx;obtain ⟨t1,t2,_⟩:=isDct_at I1 (.inl ⟨kvs,.inl ea⟩);refine ⟨t1,t2,?_⟩;rw [m.trees];obtain ⟨zz,hd,vs,rel,dd⟩:=dk_of I1.hok ea;refine i5 rfl (PySem.evalArgs_none ?_);refine call_meetsIn PySem.F.slot_dict_values dd.typeIs PySem.F.entry_dict_values (PySem.F.args_dict_values_1 _) (meets_dict_values (gg X.prog X.w) a hd) ⟨⟨vs,dd⟩,?_⟩;have hg:(s1.heap.push { cls:= .type "dict_values",data:= .fields #[.ref a] }).get? s1.heap.objs.size=some { cls:= .type "dict_values",data:= .fields #[.ref a] }:=aN _ rfl;refine ⟨.ref s1.heap.objs.size,_,I1.laid (t':=s1.toks) (o:=isVV s1.heap.objs.size a) (fun _ _ z=>ak _ z) (az _) ⟨⟨_,hg,rfl,rfl⟩,⟨_,hg⟩,fun h1 h2 ⟨o,e,r⟩ k=>⟨o,k o e,r⟩⟩,rfl,q1 _ I1.fresh⟩
theorem call_listV (hc:X.calm=true):CallR X (.type "list") (fun xs H Q=>∃ (r d:ai) (kvs:List (Key×V)),xs=[.ref r]∧H r=some (isVV r d)∧H d=some (.dK kvs)∧∀ l,H l=none→Q (.ref l) (upd H l (.lst (kvs.map (·.2))))):=by
 intro aJ s σ H xs us Q I r h;obtain ⟨rv,d,kvs,rfl,hr,hd,q⟩:=h;obtain ⟨u,rfl,ru⟩:=vals1 r;cases (show u=aa.ref rv from ru);obtain ⟨hv,_,_⟩:=I.hok rv _ hr;obtain ⟨zz,lo,vs,rel,dd⟩:=dk_of I.hok hd;obtain ⟨ep,hat⟩:=dd.dictAt;have ll:=rel.length;refine PySem.W.kdl_call (PySem.W.kdl_values (knd:=gg X.prog X.w) (kvs:=vs) (ep:=ep)) (I.ok.hd hc) ⟨hv,hat⟩ (by rw [←ll];exact zz) fun h' tk acc c hk hg hi=>?_
 refine ⟨.ref s.heap.objs.size,_,I.laid (t':=tk) (o:= .lst (kvs.map (·.2))) hk (az _) ⟨?_,acc.toList,c,?_,?_⟩,rfl,q _ I.fresh⟩
 ·rw [af];exact zz
 ·refine vals_at ((af ..).trans (ll.trans (hi.1.symm.trans (bW ..).symm))) fun i x hx=>?_
  rw [ax] at hx;obtain ⟨p,hp,rfl⟩:=aI.mp hx;have hik:i<acc.size:=by rw [hi.1,←ll];exact (ar.mp hp).1
  have e:=cL hik;obtain ⟨k',e2⟩:=hi.2 i _ e;refine ⟨_,by rw [gC];exact e,?_⟩;obtain ⟨q',hq',rq⟩:=Paired.getR rel hp;rw [e2] at hq';cases hq';exact rq.2
 ·rw [Array.toArray_toList];exact hg
end
theorem enumL_step {z i1:ai}{k:Nat}{xs:Array aa}{x:aa}(E0:IsEnum s.heap z i1 k was)(J0:s.heap.IsListIter i1 a k)(T0:s.heap.IsList a xs)(hx:xs[k]? =some x)(hzi:z≠i1)
  (q:∀ g,IsEnumOut g z i1 ((k:Int)+1) x s.heap.objs.size→g.IsListIter i1 a (k+1)→g.get? s.heap.objs.size=some { cls:= .type "tuple",data:= .seq #[.int k s.toks,x] }→g.objs.size=s.heap.objs.size+1 →
   (∀ c o,c≠z→c≠i1→s.heap.get? c=some o→g.get? c=some o)→Q (.ref s.heap.objs.size) { s with heap:=g,toks:=s.toks+1 }) :
  aH (aU prog w) A (cV.«enumerate.__next__» ⟨[.ref z],[]⟩) (fun fin s'=>∃ v,fin= .done (.ret v)∧Q v s') E s:=by
 obtain ⟨h0,gs,dr,tk,os⟩:=s;show aH _ _ (field (.ref z) 2 >>= _) _ _ _;refine ae (bX E0 rfl (x:= .ref i1) rfl ?_);refine ae (wpAny_nextOf_list_item J0 T0 hx fun g1 J1 s1=>?_);have s1:cb i1 h0 g1:=s1;have E1:IsEnum g1 z i1 k was:=(s1.2 z hzi).trans E0;show aH _ _ (field (.ref z) 3 >>= _) _ _ ⟨g1,gs,dr,tk,os⟩;refine ae (bX E1 rfl (x:=fg k) rfl ?_);show aH _ _ (field (.ref z) 4 >>= _) _ _ ⟨g1,gs,dr,tk,os⟩;refine ae (bX E1 rfl (x:= .none) rfl ?_);show aH _ _ (mkInt k >>= _) _ _ ⟨g1,gs,dr,tk,os⟩;refine ae (wpAny_mkInt ?_);show aH _ _ (setField (.ref z) 3 (fg ((k:Int)+1)) >>= _) _ _ ⟨g1,gs,dr,tk+1,os⟩;refine ae (dt E1 (by simp) fun g2 E2 s2=>?_);have s2:cb z g1 g2:=s2;have E2:IsEnum g2 z i1 ((k:Int)+1) was:=E2;show aH _ _ (setField (.ref z) 4 .none >>= _) _ _ ⟨g2,gs,dr,tk+1,os⟩;refine ae (dt E2 (by simp) fun g3 E3 s3=>?_);have s3:cb z g2 g3:=s3;have E3:IsEnum g3 z i1 ((k:Int)+1) was:=E3;show aH _ _ (newTuple [.int k tk,x] >>= _) _ _ ⟨g3,gs,dr,tk+1,os⟩;refine ae (wpAny_newTuple ?_);have E4:IsEnum (g3.push { cls:= .type "tuple",data:= .seq #[.int k tk,x] }) z i1 ((k:Int)+1) was:=ak _ E3;have z3:g3.objs.size=h0.objs.size:=by rw [s3.1,s2.1,s1.1]
 have J4:(g3.push { cls:= .type "tuple",data:= .seq #[.int k tk,x] }).IsListIter i1 a (k+1):=by
  obtain ⟨o,e,r⟩:=(J1.extBut s2.extBut hzi.symm).extBut s3.extBut hzi.symm;exact ⟨o,ak _ e,r⟩
 have T4:(g3.push { cls:= .type "tuple",data:= .seq #[.int k tk,x] }).get? h0.objs.size=some { cls:= .type "tuple",data:= .seq #[.int k tk,x] }:=by rw [←z3];exact aN _ rfl
 have z4:(g3.push { cls:= .type "tuple",data:= .seq #[.int k tk,x] }).objs.size=h0.objs.size+1:=by rw [cQ,z3]
 have k4:∀ c o,c≠z→c≠i1→h0.get? c=some o→(g3.push { cls:= .type "tuple",data:= .seq #[.int k tk,x] }).get? c=some o:=fun c o c1 c2 e=>ak _ (s3.extBut c o c1 (s2.extBut c o c1 (s1.extBut c o c2 e)))
 have zlt:z<h0.objs.size:=aC E0;generalize g3.push { cls:= .type "tuple",data:= .seq #[.int k tk,x] }=g4 at E4 J4 T4 z4 k4;rw [z3];show aH _ _ (eC (.ref z) >>= _) _ _ ⟨g4,gs,dr,tk+1,os⟩;refine ae ?_;unfold eC;refine ae (bX E4 rfl (x:= .none) rfl (aA ?_));simp only [if_true];refine ae (wpAny_rule ?_);refine ae (bX E4 rfl (x:=was) rfl ?_);refine ae (dt E4 (by simp) fun g5 E5 s5=>?_);have s5:cb z g4 g5:=s5;have E5:IsEnum g5 z i1 ((k:Int)+1) x:=E5;show aH _ _ (gf (.ref z) (.ref h0.objs.size) >>= _) _ _ ⟨g5,gs,dr,tk+1,os⟩;refine ae ?_;unfold gf;refine ae (dt E5 (by simp) fun g6 E6 s6=>?_);have s6:cb z g5 g6:=s6;have E6:IsEnumOut g6 z i1 ((k:Int)+1) x h0.objs.size:=E6;refine dt E6 (by simp) fun g7 E7 s7=>?_
 have s7:cb z g6 g7:=s7;have E7:IsEnumOut g7 z i1 ((k:Int)+1) x h0.objs.size:=E7;have up:∀ c o,c≠z→g4.get? c=some o→g7.get? c=some o:=fun c o c1 e=>s7.extBut c o c1 (s6.extBut c o c1 (s5.extBut c o c1 e))
 refine ae (fm (aA ⟨_,rfl,q g7 E7 ?_ (up _ _ (bZ zlt) T4) (by rw [s7.1,s6.1,s5.1,z4]) fun c o c1 c2 e=>up c o c1 (k4 c o c1 c2 e)⟩));obtain ⟨o,e,r⟩:=J4;exact ⟨o,up _ o hzi.symm e,r⟩
theorem enumL_item {z i1:ai}{k:Nat}{xs:Array aa}{x:aa}{Q:Option aa→ao→Prop}(E0:IsEnum s.heap z i1 k was)(J0:s.heap.IsListIter i1 a k)(T0:s.heap.IsList a xs)(hx:xs[k]? =some x)(hzi:z≠i1)
  (q:∀ g,IsEnumOut g z i1 ((k:Int)+1) x s.heap.objs.size→g.IsListIter i1 a (k+1)→g.get? s.heap.objs.size=some { cls:= .type "tuple",data:= .seq #[.int k s.toks,x] }→g.objs.size=s.heap.objs.size+1 →
   (∀ c o,c≠z→c≠i1→s.heap.get? c=some o→g.get? c=some o)→Q (some (.ref s.heap.objs.size)) { s with heap:=g,toks:=s.toks+1 }):aH (aU prog w) A (iR (.ref z)) Q E s:=by
 have ht:s.TypeIs (.ref z) "enumerate" := ⟨_,E0,rfl⟩;unfold iR;refine ae (iX (df (name:=bY "__next__") ht jO (fq jO ht F.entry_enumerate_next ?_ (F.args_enumerate_next_1 _))));exact enumL_step E0 J0 T0 hx hzi fun g e1 e2 e3 e4 e5=>aA (q g e1 e2 e3 e4 e5)
theorem enumL_end {z i1:ai}{k:Nat}{xs:Array aa}{Q:Option aa→ao→Prop}(hh:A.handled=none)(E0:IsEnum s.heap z i1 k was)(J0:s.heap.IsListIter i1 a k)(T0:s.heap.IsList a xs)(hx:xs[k]? =none)
  (q:∀ g,bw.ExtBut i1 s.heap g→Q none { s with heap:=g }):aH (aU prog w) A (iR (.ref z)) Q E s:=by
 have ht:s.TypeIs (.ref z) "enumerate" := ⟨_,E0,rfl⟩;unfold iR;refine ae (iX (df (name:=bY "__next__") ht jO (fq jO ht F.entry_enumerate_next ?_ (F.args_enumerate_next_1 _))));show aH _ _ (field (.ref z) 2 >>= _) _ _ _;refine ae (bX E0 rfl (x:= .ref i1) rfl ?_);refine ae (wpAny_nextOf_list_end hh J0 T0 hx fun g x kp hxx=>?_);obtain ⟨o,e1,e2⟩:=hxx;refine ae (wpAny_isInstance (T := "StopIteration") (b:=true) ⟨o,e1,e2⟩ isSubtype_stop ?_);exact aA (q _ kp)
section
open AutoSeq1 (wpAny_loadPart')
theorem enumL_new (a:ai)(xs:Array aa) :
  Meets (cV.«enumerate.__new__» ⟨[.type "enumerate",.ref a],[]⟩) (fun _ R s=>s.heap.IsList a xs ∧
   R (.ok (.ret (.ref (s.heap.push { cls:= .type "list_iterator",data:= .fields #[.ref a,.int 0 0] }).objs.size)))
    {s with heap:=(s.heap.push { cls:= .type "list_iterator",data:= .fields #[.ref a,.int 0 0] }).push { cls:= .type "enumerate",data:= .fields #[.none,.bool false,.ref s.heap.objs.size,fg 0,.none,.none] } }) :=
 .of_wp fun prog w A R s h=>by
  obtain ⟨hp,g,d,tk,os⟩:=s;obtain ⟨h1,h⟩:=h;have subE:=sub_enumerate;have k1:bw.IsList (ao.heap ⟨hp,g,d,tk,os⟩) a xs:=h1
  wp_walk using eS k1
  refine wpAny_stack_any fun st=>aA ?_
  split
  ·rename_i c _ _ _ _ _
   cases (c == aa.type "enumerate")
   ·wp_walk using eS k1
    exact ⟨_,rfl,h⟩
   ·wp_walk using eS k1
    exact ⟨_,rfl,h⟩
  ·wp_walk using eS k1
   exact ⟨_,rfl,h⟩
theorem call_enumL {xs:Array aa}(h1:s.heap.IsList a xs)
  (q:∀ g,IsEnum g (s.heap.objs.size+1) s.heap.objs.size 0 .none→g.IsListIter s.heap.objs.size a 0→g.objs.size=s.heap.objs.size+2→(∀ c o,s.heap.get? c=some o→g.get? c=some o)→Q (.ref (s.heap.objs.size+1)) { s with heap:=g }) :
  aH (aU prog w) A (ir (.type "enumerate") [.ref a]) Q E s:=by
 refine callType_new F.called_enumerate (by decide) (F.typeCall_enumerate_1 _) (F.newCall_enumerate_1 _) (fun obj=>F.args_object_init_2 obj _) F.entry_enumerate_new (enumL_new a xs) ⟨h1,?_⟩;have e1:(s.heap.push { cls:= .type "list_iterator",data:= .fields #[.ref a,.int 0 0] }).objs.size=s.heap.objs.size+1:=cQ ..;have f2:=aN (s.heap.push { cls:= .type "list_iterator",data:= .fields #[.ref a,.int 0 0] }) (o:={ cls:= .type "enumerate",data:= .fields #[.none,.bool false,.ref s.heap.objs.size,fg 0,.none,.none] }) rfl;show _∧_;rw [e1] at f2 ⊢;exact ⟨⟨_,f2,rfl⟩,q _ f2 ⟨_,ak _ (aN _ rfl),rfl,rfl⟩ (by rw [cQ,e1]) fun c o x=>ak _ (ak _ x)⟩
end
def ItL (a:ai):It :=
 ⟨fun i H=>∃ xs x,H a=some (.lst xs)∧xs[i]? =some x,
  fun i H v H'=>∃ p x,H p=none∧v= .ref p∧H'=upd H p (.tup [.int (i:Nat),x])∧∀ xs,H a=some (.lst xs)→xs[i]? =some x,
  fun i H=>∃ xs,H a=some (.lst xs)∧xs.length≤i⟩
theorem turn_enumL {k0}{z i1:ai}(a:ai)(hzi:z≠i1) :
  Turn P w K (.Tuple es k0 pos) (ItL a) [z,i1] z (fun i h=>(∃ was,IsEnum h z i1 i was)∧h.IsListIter i1 a i) where
 mem:=by simp
 obj:=fun i h st c hc=>by
  obtain ⟨⟨was,e1⟩,⟨o2,e2,_,d2⟩⟩:=st;simp only [aF,cR,or_false] at hc
  rcases hc with rfl | rfl
  ·exact ⟨_,e1,fun v z=>by cases z⟩
  ·exact ⟨_,e2,fun v z=>by rw [d2] at z;cases z⟩
 keep:=fun i h h' st k=>by
  obtain ⟨⟨was,e1⟩,⟨o2,e2,r2⟩⟩:=st;exact ⟨⟨was,k z (by simp) _ e1⟩,⟨o2,k i1 (by simp) _ e2,r2⟩⟩
 item:=by
  intro X hP hw hK hc i aJ s σ H E I hf st hg;subst hP hw hK;obtain ⟨xs,x,ha,hx⟩:=hg;obtain ⟨⟨was,e1⟩,j1⟩:=st;obtain ⟨its,rv,pt,_⟩:=I.list (SqL.of (K:=X.K) ha);obtain ⟨u,hu,ru⟩:=rv.get hx;have nz:∀ e∈[z,i1],H e=none:=fun e he=>(hf e he).1
  have hT:H s.heap.objs.size=none:=I.fresh;refine enumL_item e1 j1 (pt.isList) (x:=u) (by simpa using hu) hzi fun g z1 m1 tp sz kk=>⟨_,rfl,?_⟩
  refine wpAny_letOwnedTupleGo_enum z1 fun g2 z2 s2=>?_
  have s2:cb z g g2:=s2;have k2:∀ e o,e ∉ [z,i1]→s.heap.get? e=some o→g2.get? e=some o:=fun e o hn h=>by
   simp only [aF,cR,or_false,not_or] at hn;exact s2.extBut _ _ hn.1 (kk e o hn.1 hn.2 h)
  have zlt:z<s.heap.objs.size:=aC e1;have tp2:g2.get? s.heap.objs.size=some { cls:= .type "tuple",data:= .seq #[.int i s.toks,u] }:=s2.extBut _ _ (bZ zlt) tp;have trk:∀ e o,H e=some o→e ∉ [z,i1]:=fun e o he hm=>by rw [nz e hm] at he;cases he
  have I':=I.tok (s.toks+1);have J:Inv X aJ σ (upd H s.heap.objs.size (.tup [.int (i:Nat),x])) { s with heap:=g2,toks:=s.toks+1 }:=by
   refine I'.turnAll (ch:=[z,i1]) (fun e he=>hf e he) k2 (fun e o h=>by rw [aZ (bB h hT)];exact h) (fun e o h n=>by rw [aZ (bj (aC h))];exact n) fun e o h=>?_
   by_cases q:e=s.heap.objs.size
   ·subst q
    rw [aW] at h;cases h;exact ⟨by show 2≤aR;decide,[.int i s.toks,u],.cons ⟨_,rfl⟩ (.cons ru .nil),_,tp2,rfl,rfl,_,rfl⟩
   ·rw [aZ q] at h
    refine (I.hok e o h).stay (fun c v hc' q'=>k2 c v (by
     rcases hc' with z' | z'
     ·rw [z'];exact trk e o h
     ·exact trk c _ z') q') (fun c q'=>by rw [aZ (bB q' hT)];exact q') fun c xs q'=>by rw [aZ (bB q' hT)];exact q'
  refine ⟨.ref s.heap.objs.size,_,J,rfl,⟨_,x,hT,rfl,rfl,fun xs' h'=>by rw [ha] at h';cases h';exact hx⟩,⟨⟨u,z2⟩,m1.extBut s2.extBut hzi.symm⟩,fun e he=>?_⟩;obtain ⟨o4,q4,_⟩:=j1;have hlt:e<s.heap.objs.size:=by
   simp only [aF,cR,or_false] at he
   rcases he with rfl | rfl
   ·exact aC e1
   ·exact aC q4
  rw [aZ (bj hlt)];exact nz e he
 done:=by
  intro X hP hw hK hc i aJ s σ H E I hf st hg;subst hP hw hK;obtain ⟨xs,ha,hx⟩:=hg;obtain ⟨⟨was,e1⟩,j1⟩:=st;obtain ⟨its,rv,pt,_⟩:=I.list (SqL.of (K:=X.K) ha);obtain ⟨f0,f1,f2,f3,f4,f5⟩:=hf i1 (by simp);have hl:=rv.length;exact enumL_end (I.ok.hd hc) e1 j1 (pt.isList) (by simp;lia) fun g kp=>⟨rfl,I.turned (t':=s.toks) (fun b o hb e=>kp b o hb e) f0 f1 f3 f4 f5⟩
 self:=fun _ _ _ _ _ st h=>let ⟨⟨_,e1⟩,_⟩:=st;wpAny_pyIter_enum e1 h
def iEnumL (ta:TA):TI:=fun σ H R=>ta σ H fun vs H1=>∃ a xs,vs=[.ref a]∧H1 a=some (.lst xs)∧R (ItL a) H1
theorem pi_enumL {ea:Expr}{ta:TA}{p:Pos}{k0}{pt:Pos}(hg:Gl X "enumerate")(hm:X.mg "enumerate" =none)(ha:PA X [ea] ta)(hs:bb [ea] X.env=[(false,dg ea X.env)]:=by rfl) :
  PI X (.Tuple es k0 pt) (.Call (.Name "enumerate" p) [ea] [] pos) (iEnumL ta):=by
 intro aJ s σ H R I h;refine Call_ (lV I hg hm boot_enumerate (fZ (thn (ha pos aJ s σ H _ I h) fun us s1 ⟨vs,H1,I1,r1,q1⟩=>?_) hs rfl));obtain ⟨a,xs,e,hA,q⟩:=q1;subst e;obtain ⟨u1,rfl,r2⟩:=vals1 r1;cases (show u1=aa.ref a from r2);obtain ⟨its,rv,pt',_⟩:=I1.list (SqL.of (K:=X.K) hA);refine call_enumL (pt'.isList) fun g z1 j1 sz kk=>?_
 refine wpAny_pyIter_enum z1 ⟨s1.heap.objs.size+1,[s1.heap.objs.size+1,s1.heap.objs.size],_,ItL a,H1,rfl,I1.kept (t':=s1.toks) kk,turn_enumL a (by show @Ne Nat _ _;lia),⟨⟨_,z1⟩,j1⟩,fun e he=>?_,q⟩;have hge:s1.heap.objs.size≤e:=by
  simp only [aF,cR,or_false] at he
  rcases he with rfl | rfl <;> (show @LE.le Nat _ _ _;lia)
 exact I1.fpOk hge (I1.hok.fresh hge)
theorem for_enumL {tb:TS}{D:j8}(Pv:Nat→St→Hp→Prop)(h0:Pv 0 σ H)(hl:∀ i σ H,i≤xs.length→Pv i σ H→H a=some (.lst xs))
  (hs:∀ i x p σ H,xs[i]? =some x→Pv i σ H→H p=none→g (.ref p) σ (upd H p (.tup [.int (i:Nat),x])) fun σ2 H2=>tb { D with nx:=Pv (i+1),ct:=Pv (i+1),bk:=D.nx } σ2 H2) (hd:∀ σ H,Pv xs.length σ H→D.nx σ H) :
  ∃ W:Nat→Nat→St→Hp→Prop,(∃ m,W 0 m σ H)∧∀ i m σ H,W i m σ H →
   ((ItL a).stop i H∧D.nx σ H)∨((ItL a).go i H∧∃ N:St→Hp→Prop,(∀ σ' H',N σ' H'→∃ m',m'<m∧W (i+1) m' σ' H')∧∀ x H',(ItL a).yld i H x H'→g x σ H' fun σ2 H2=>tb { D with nx:=N,ct:=N,bk:=D.nx } σ2 H2):=by
 refine ⟨fun i m σ H=>i≤xs.length∧m=xs.length - i∧Pv i σ H,⟨_,bE _,rfl,h0⟩,fun i m σ H ⟨hi,hm,hp⟩=>?_⟩;have qa:=hl i σ H hi hp
 by_cases e:i=xs.length
 ·subst e
  exact .inl ⟨⟨xs,qa,az _⟩,hd σ H hp⟩
 ·have hlt:i<xs.length:=gq hi e
  refine .inr ⟨⟨xs,_,qa,gE hlt⟩,Pv (i+1),fun σ' H' hp'=>⟨xs.length - (i+1),by lia,by lia,rfl,hp'⟩,fun v H3 hy=>?_⟩;obtain ⟨p,x,hn,rfl,rfl,hx⟩:=hy;exact hs i x p σ H (hx xs qa) hp hn
end L2
namespace HN
open PySem L2 PyProof.Rows
abbrev sParts:cG:=top 43
def PtsD (H:Hp)(zs:List V)(fs:List Int):Prop:=∃ As:List ai,zs=As.map V.ref∧As.length=(iJ fs).length∧∀ (i:Nat) (f:Int) (A:ai),(iJ fs)[i]? =some f→As[i]? =some A→H A=some (.lst ((kU fs f).map V.int))
inductive spParts (T:ai)(lp:Pos)(lq:Str)(vs:List V)(H:Hp)(Q:VK)(_:XK):Prop
 | mk (v:V)(b m:Int)(sp:List Sn)(_:vs=[v])(_:IsD H v (kN b m sp))(_:NetT b m sp)(_:L2.LamT T lp lq H)(_:∀ (L:ai) (zs:List V) (fs:List Int) (H':Hp),L2.Tb T H H'→L2.LamT T lp lq H'→H' L=some (.lst zs)→PtsD H' zs fs→Lbl m.toNat sp fs→Q (.ref L) H')
def kvsF (hs:List Int)(As:List ai):List (Key×V):=List.zipWith (fun f A=>(Sum.inl f,V.ref A)) hs As
theorem kvsF_len (h:As.length=hs.length):(kvsF hs As).length=hs.length:=by unfold kvsF;rw [List.length_zipWith,h,Nat.min_self]
theorem kvsF_snd:∀ {hs:List Int} {As:List ai},As.length=hs.length→(kvsF hs As).map (·.2)=As.map V.ref
 | [],[],_=>rfl
 | _::_,[],h=>by cases h
 | [],_::_,h=>by cases h
 | f::hs,A::As,h=>by
  have:=kvsF_snd (hs:=hs) (As:=As) (by simpa using h);show V.ref A::(kvsF hs As).map (·.2)=_;rw [this];rfl
theorem kvsF_snoc:∀ {hs:List Int} {As:List ai} {f:Int} {A:ai},As.length=hs.length→kvsF (hs++[f]) (As++[A])=kvsF hs As++[(.inl f,.ref A)]
 | [],[],_,_,_=>rfl
 | _::_,[],_,_,h=>by cases h
 | [],_::_,_,_,h=>by cases h
 | g::hs,B::As,f,A,h=>by
  have:=kvsF_snoc (hs:=hs) (As:=As) (f:=f) (A:=A) (by simpa using h);show (Sum.inl g,V.ref B)::kvsF (hs++[f]) (As++[A])=_;rw [this];rfl
theorem kvsF_no:∀ {hs:List Int} {As:List ai} {f:Int},f ∉ hs→kM (kvsF hs As) (.inl f)=none
 | [],_,_,_=>rfl
 | _::_,[],_,_=>rfl
 | g::hs,B::As,f,h=>by
  show kM ((Sum.inl g,V.ref B)::kvsF hs As) (.inl f)=none;rw [fT (fun z=>h (by injection z with z;rw [z];simp))];exact kvsF_no fun z=>h (aD _ z)
theorem kvsF_at:∀ {hs:List Int} {As:List ai} {f:Int} {A:ai} {i:Nat},hs.Nodup→hs[i]? =some f→As[i]? =some A→kM (kvsF hs As) (.inl f)=some (.ref A)
 | [],_,_,_,_,_,h,_=>by cases h
 | _::_,[],_,_,_,_,_,h=>by cases h
 | g::hs,B::As,f,A,0,_,h,k=>by
  cases h;cases k;exact gG rfl
 | g::hs,B::As,f,A,i+1,nd,h,k=>by
  have nd:=bz.mp nd;have h:hs[i]? =some f:=h;show kM ((Sum.inl g,V.ref B)::kvsF hs As) (.inl f)=_;rw [fT (fun z=>nd.1 (by injection z with z;rw [z];exact aO h))];exact kvsF_at nd.2 h k
theorem frst_lt (F:FrstL m sp l):∀ i∈l,i<sp.length:=fun i hi=>by
 obtain ⟨_,π,O,pm⟩:=F
 rcases (jQ sp π (iI m,[])).1 i (pm.mem_iff.mp hi) with z | z
 ·cases z
 ·exact O.lt z
theorem nodup_at {A:ai}{k:Nat}(nd:As.Nodup)(h:As[j]? =some A)(g:As[k]? =some A):j=k:=by
 obtain ⟨h1,h2⟩:=ar.mp h;obtain ⟨g1,g2⟩:=ar.mp g;exact (jx nd).mp (h2.trans g2.symm)
theorem idxF_no {fs:List Int}{f:Int}(h:f ∉ fs):kU fs f=[]:=List.eq_nil_iff_forall_not_mem.mpr fun z hz=>by
 obtain ⟨a,c,d⟩:=kH.mp hz;exact h (d ▸ nu a c)
theorem fh {T:ai}(k:L2.LamT T lp lq H)(hT:∀ ps,H T=some (.tbl ps)→H' T=some (.tbl ps))(hf:∀ a o u,H a=some (.frz o u)→H' a=some (.frz o u)):L2.LamT T lp lq H':=by
 rcases k with k | ⟨c,k,oc,vs,t,e,r⟩
 ·exact .inl (hT _ k)
 ·exact .inr ⟨c,hT _ k,oc,vs,t,hf _ _ _ e,r⟩
theorem mV:cj ["net","firsts","step","parts","happening","first"] pza (defScope sParts):=by trivial
theorem ok_parts (F:Fun K "parts_of" "parts_of" sParts f fd)(T:Nm mg)(T2:Nt mg)(G1:Fn K mg "spread_of" sSpread pza f1 fd1)(F1:FnOk P w K mg base CX0 7 f1 fd1 pza (spSpread Tb0 lp lq))(G2:Fn K mg "leads_to" sTo pzb f2 fd2)(G3:Fn K mg "leads_from" sFrom pzb f3 fd3):FnOk P w K mg base CX0 8 f fd pza (spParts Tb0 lp lq):=by
 have F2:FnOk P w K mg base CX0 1 f2 fd2 pzb spTo:=ok_to G2.F;have F3:FnOk P w K mg base CX0 1 f3 fd3 pzb spFrom:=ok_from G3.F;refine F.ok mV (by contradiction) (fun cdv A outer s H vs Q E hr h=>?_);obtain ⟨v,b,m,sp,rfl,hv,N,hT,k⟩:=h;have hr1:Room 1 _:=hr.mono (by decide);obtain ⟨t,p,ys,rfl,ht,hp,hl,hy⟩:=fH hv;refine ⟨_,PSl.h (bg ⟨(psZ 1 mV.nd (eR (pJ rfl) rfl T2.tlist boot_list (aq (eR oU rfl T2.range boot_range (aq (ixZ (pv 0)) aP)) aP)))⟩
  (bg ⟨(iW bO rfl (fU (pc1 G1 F1 hr (aq (pv 0) aP))) (pgZ 2 mV.nd) (dA (pB (eN fc (pv 1) (pc1 G3 F3 hr1 (aq (pv 0) (aq (pv 2) aP))) (fun _ _=>rfl)) (pG (pv 1) (pc1 G2 F2 hr1 (aq (pv 0) (aq (pv 2) aP))) lJ))))⟩
  (bg ⟨(psZ 3 mV.nd pe_dnewK)⟩
  (bg ⟨(iW bO rfl (pi_enumL rfl T2.enum (aq (pv 1) aP)) (pg_tup rfl (lL (pgZ 4 mV.nd) (lL (pgZ 5 mV.nd) pgs_nil))) (dA (jS (oH bK cB cA iL (pe_dsetd (pv 3) (pv 5) (jT aP) ⟨rfl,rfl,rfl,rfl⟩) (aq (pv 4) aP)))))⟩
  (c9 ⟨(cM (eR (call_listV rfl) rfl T2.tlist boot_list (aq (pe_dvals (pv 3) ⟨rfl,rfl,rfl,rfl⟩) aP)))⟩))))),?_⟩
 have m1:=N.m1;have m2:=N.m2;have em:((m.toNat:Nat):Int)=m:=d7 (by lia);refine ⟨_,rfl,t,_,_,_,rfl,rfl,SqT.of ht,bc (j:=1) rfl,m,rfl,fun q0 H0 S0 h0=>?_⟩;refine ⟨q0,m.toNat,rfl,by rw [h0,em],by lia,fun L1 hL1=>?_⟩;have nL1:H L1=none:=S0.free hL1;have S1:Same H (upd H0 L1 (.lst ((aK m.toNat).map fun k=>V.int (k:Nat)))):=S0.put hL1;have h1:(upd H0 L1 (.lst ((aK m.toNat).map fun k=>V.int (k:Nat)))) L1=some (.lst ((iI m.toNat).map V.int)):=by
  rw [aW];unfold iI;rw [cU];rfl
 generalize upd H0 L1 (.lst ((aK m.toNat).map fun k=>V.int (k:Nat)))=H1 at S1 h1 ⊢;refine ⟨_,rfl,.ref t,b,m,sp,rfl,hv.same S1,N,LamT.same S1 hT,fun LS zS l S H2 tb2 hT2 hLS1 hLS dS fr ok=>?_⟩;have lz:zS.length=S.length:=by rw [dS.length];unfold eU;rw [af]
 obtain ⟨ps,eT⟩:=LamT.tbl (LamT.same S1 hT);have nT:∀ {a:ai} {o:HO},H1 a=some o→(∀ ps,o≠ .tbl ps)→a≠Tb0:=fun e n z=>by rw [z,eT] at e;exact n _ (bC e).symm
 have h2:H2 L1=some (.lst ((iI m.toNat).map V.int)):=tb2 _ _ (nT h1 (fun _ z=>by cases z)) h1;have K12:TupK H1 H2:=fun a xs e=>tb2 _ _ (nT e (fun _ z=>by cases z)) e
 have hv2:IsD H2 (.ref t) (kN b m sp):=cw K12 (hv.same S1);have ht2:=K12 _ _ (S1 _ _ ht);have nLS:LS≠L1:=fun z=>by rw [z,h1] at hLS1;cases hLS1
 have E:=N.ends;have hin:∀ s∈S,s.i<sp.length:=fun s hs=>frst_lt fr _ (ok.inn s hs).1
 have len:∀ j,((S.take j).foldl (setF sp) (iI m.toNat)).length=m.toNat:=fun j=>by rw [setF_len,g9]
 refine ⟨LS,rfl,⟨_,SqL.of hLS⟩,?_⟩;refine jE (K:=K) (a:=LS) (xs:=zS) (fun j σ HD=>(∀ a o,a≠L1→H2 a=some o→HD a=some o)∧HD L1=some (.lst (((S.take j).foldl (setF sp) (iI m.toNat)).map V.int))∧∃ w2,σ=[some (.ref t),some (.ref L1),w2,none,none,none]) ⟨fun _ _ _ e=>e,h2,none,rfl⟩ (fun j σ HD _ ⟨h,_⟩=>SqL.of (h _ _ nLS hLS)) ?_ ?_
 ·rintro j y σ HD hy' ⟨KD,hD,w2,rfl⟩
  have hj:j<S.length:=by have:=(ar.mp hy').1;lia
  have hsj:=gE hj;obtain ⟨y',hy2,dy⟩:=dS.at (i:=j) (d:= .tup ((Stp.row S[j]).map Dt.int)) (by unfold eU;rw [ax,hsj];rfl);rw [hy'] at hy2;cases hy2;obtain ⟨q,qs,rfl,hq,rq⟩:=dy.tup_of;have eq:=rq.ints_of;subst eq;have fold:(S.take (j+1)).foldl (setF sp) (iI m.toNat)=setF sp ((S.take j).foldl (setF sp) (iI m.toNat)) S[j]:=by
   rw [bh,hsj,cx];rfl
  rw [fold];have lj:=len j;generalize (S.take j).foldl (setF sp) (iI m.toNat)=ts at hD lj ⊢;have hinj:=hin _ (bu hj);generalize S[j]=st at hq hinj;obtain ⟨f0,f1'⟩:=frmS_rng E hinj;obtain ⟨t0,t1⟩:=i7 E hinj;have hat:∀ z:Int,0≤z→z<m.toNat→(ts.map V.int)[z.toNat]? =some (V.int (tm ts z)):=fun z z0 z1=>by
   rw [ax,gE (by lia:z.toNat<ts.length)];unfold tm;rw [ah,gE (by lia:z.toNat<ts.length)];rfl
  have KT:TupK H2 HD:=fun a xs e=>KD a _ (eV e h2 nofun) e
  have hvD:=cw KT hv2;have hqD:=KT _ _ hq;refine ⟨_,rfl,_,rfl,_,rfl,.ref t,q,b,m,sp,st,sAt sp st.i,rfl,hvD,hqD,ju hinj,?_⟩;rw [(kx hinj).2];refine ⟨L1,_,_,_,rfl,rfl,SqL.of hD,atI_int f0 (hat _ f0 f1'),?_⟩;refine ⟨_,rfl,_,rfl,_,rfl,.ref t,q,b,m,sp,st,sAt sp st.i,rfl,hvD,hqD,ju hinj,?_⟩;rw [(kx hinj).1];refine ⟨L1,_,_,_,rfl,rfl,hD,ixN_int t0 (by rw [af];lia),?_⟩;rw [map_set];exact ⟨fun a o n e=>by rw [aZ n];exact KD _ _ n e,aW,_,rfl⟩
 rintro σ HD ⟨KD,hD,w2,rfl⟩;rw [lz,bo] at hD;have lb:Lbl m.toNat sp (fstS sp m.toNat S):=Lbl.of E fr ok (frst_lt fr);have hD:HD L1=some (.lst ((fstS sp m.toNat S).map V.int)):=hD;have lF:=lb.len;generalize fstS sp m.toNat S=fs at hD lb lF;refine fun Da hDa=>?_
 have nDL:Da≠L1:=fun z=>by rw [z,hD] at hDa;cases hDa
 have S3:Same HD (upd HD Da (.dK [])):=(Same.refl HD).put hDa;have e3:(upd HD Da (.dK [])) Da=some (.dK []):=aW;have h3:=S3 _ _ hD;generalize upd HD Da (.dK [])=H3 at S3 e3 h3 ⊢;refine ⟨_,rfl,L1,_,rfl,h3,?_⟩;refine for_enumL (a:=L1) (xs:=fs.map V.int) (fun i σ HE=>(∀ a o,a≠Da→H3 a=some o→HE a=some o)∧(∃ As:List ai,HE Da=some (.dK (kvsF (iJ (fs.take i)) As))∧As.length=(iJ (fs.take i)).length∧As.Nodup∧(∀ A∈As,H3 A=none)∧∀ (j:Nat) (f:Int) (A:ai),(iJ (fs.take i))[j]? =some f→As[j]? =some A→HE A=some (.lst ((kU (fs.take i) f).map V.int)))∧∃ w4 w5,σ=[some (.ref t),some (.ref L1),w2,some (.ref Da),w4,w5]) ⟨fun _ _ _ e=>e,⟨[],e3,rfl,jb,fun _ h=>(by cases h),fun _ _ _ h=>(by cases h)⟩,none,none,rfl⟩ (fun i σ HE _ ⟨h,_⟩=>h _ _ (cn nDL) h3) ?_ ?_
 ·rintro i x p σ HE hx ⟨KE,⟨As,eDa,lA,ndA,frA,hA⟩,w4,w5,rfl⟩ hp0
  rw [ax] at hx;obtain ⟨f,hf,rfl⟩:=aI.mp hx;have hi:i<fs.length:=(ar.mp hf).1;have li:(fs.take i).length=i:=by rw [bI];lia
  have et:fs.take (i+1)=fs.take i++[f]:=by rw [bh,hf];rfl
  have SE:Same HE (upd HE p (.tup [.int (i:Nat),.int f])):=(Same.refl HE).put hp0;have ep:(upd HE p (.tup [.int (i:Nat),.int f])) p=some (.tup [.int (i:Nat),.int f]):=aW;generalize upd HE p (.tup [.int (i:Nat),.int f])=HF at SE ep ⊢;refine ⟨p,_,rfl,SqT.of ep,rfl,_,_,rfl,_,_,rfl,rfl,?_⟩;refine ⟨_,rfl,Da,rfl,.inl ⟨_,.inl (SE _ _ eDa)⟩,_,rfl,bE _,fun Ln hLn=>?_⟩;have hLE:HE Ln=none:=SE.free hLn;have SG:Same HE (upd HF Ln (.lst [])):=SE.put hLn;have eLn:(upd HF Ln (.lst [])) Ln=some (.lst []):=aW;generalize upd HF Ln (.lst [])=HG at SG eLn ⊢;have few:(iJ (fs.take i)).length≤16:=by
   have:=kA (i3 (fs.take i)) fun z hz=>(kI _).mp hz
   lia
  have nLD:Ln≠Da:=fun z=>by rw [z,eDa] at hLE;cases hLE
  have app:∀ (A:ai) (HI:Hp),(∀ a o,a≠Da→HE a=some o→HI a=some o)→∀ (As':List ai),HI Da=some (.dK (kvsF (iJ (fs.take i++[f])) As'))→As'.length=(iJ (fs.take i++[f])).length→As'.Nodup→(∀ A∈As',H3 A=none)→HI A=some (.lst ((kU (fs.take i) f).map V.int))→A≠Da→H3 A=none→(∃ j:Nat,(iJ (fs.take i++[f]))[j]? =some f∧As'[j]? =some A)→(∀ (j:Nat) (g:Int) (B:ai),(iJ (fs.take i++[f]))[j]? =some g→As'[j]? =some B→B≠A→HI B=some (.lst ((kU (fs.take i) g).map V.int))∧g≠f) →
    (∀ a o,a≠Da→H3 a=some o→(upd HI A (.lst ((kU (fs.take i) f).map V.int++[.int (i:Nat)]))) a=some o)∧(∃ As:List ai,(upd HI A (.lst ((kU (fs.take i) f).map V.int++[.int (i:Nat)]))) Da=some (.dK (kvsF (iJ (fs.take (i+1))) As))∧As.length=(iJ (fs.take (i+1))).length∧As.Nodup∧(∀ A∈As,H3 A=none)∧∀ (j:Nat) (g:Int) (B:ai),(iJ (fs.take (i+1)))[j]? =some g→As[j]? =some B→(upd HI A (.lst ((kU (fs.take i) f).map V.int++[.int (i:Nat)]))) B=some (.lst ((kU (fs.take (i+1)) g).map V.int))):=by
   intro A HI KI As' d1 d2 d3 d4 hAI nAD nA3 ⟨j0,a1,a2⟩ oth;rw [et];refine ⟨fun a o n e=>?_,As',by rw [aZ (cn nAD)];exact d1,d2,d3,d4,fun j g B hg hB=>?_⟩
   ·rw [aZ (fun z=>by rw [z,nA3] at e;cases e)]
    exact KI _ _ n (KE _ _ n e)
   ·by_cases z:B=A
    ·have eg:g=f:=by
      have:j=j0:=by
       have hj:=(ar.mp hB).1;have hj0:=(ar.mp a2).1;rw [z] at hB;exact nodup_at d3 hB a2
      rw [this,a1] at hg;exact (bC hg).symm
     rw [z,aW,eg,idxF_snoc,pO rfl,aM,li];rfl
    ·obtain ⟨o1,o2⟩:=oth j g B hg hB z
     rw [aZ z,idxF_snoc,pN (fun q=>o2 q.symm)];exact o1
  refine ⟨_,.inl f,SG _ _ eDa,rfl,aL (by rw [kvsF_len lA];lia:_<1000) (by decide:1000≤aR),fun v hv=>?_,fun hn=>?_⟩
  ·by_cases mem:f∈iJ (fs.take i)
   ·obtain ⟨j,hj,ej⟩:=bM mem
    have ej:(iJ (fs.take i))[j]? =some f:=by rw [gE hj,ej]
    have hjA:j<As.length:=by lia
    have eA:=gE hjA;rw [kvsF_at (i3 _) ej eA] at hv;cases hv;have hAE:=hA j f _ ej eA;have hAG:=SG _ _ hAE;have nAD:As[j]≠Da:=fun z=>by rw [z,eDa] at hAE;cases hAE
    refine ⟨.inl ⟨rfl,_,SqL.of hAG⟩,_,rfl,As[j],_,_,rfl,rfl,hAG,?_,?_⟩
    ·have:(kU (fs.take i) f).length≤16:=by unfold kU;rw [af];exact aS (dG _ _) (by rw [ba];lia)
     rw [af];exact aL (by lia:_<1000) (by decide:1000≤aR)
    ·have eh:iJ (fs.take i++[f])=iJ (fs.take i):=by rw [mO,pO mem]
     obtain ⟨r1,r2⟩:=app As[j] HG (fun a o _ e=>SG _ _ e) As (by rw [eh];exact SG _ _ eDa) (by rw [eh];exact lA) ndA frA hAG nAD (frA _ (bu hjA)) ⟨j,by rw [eh];exact ej,eA⟩ (fun j' g B hg hB nB=>by
      rw [eh] at hg;refine ⟨SG _ _ (hA j' g B hg hB),fun z=>nB ?_⟩;have:j'=j:=by
       rw [z] at hg;obtain ⟨h1,h2⟩:=ar.mp hg;obtain ⟨g1,g2⟩:=ar.mp ej;exact (jx (i3 _)).mp (h2.trans g2.symm)
      rw [this,eA] at hB;exact (bC hB).symm)
     exact ⟨r1,r2,_,_,rfl⟩
   ·rw [kvsF_no mem] at hv;cases hv
  ·have mem:f ∉ iJ (fs.take i):=fun mem=>by
    obtain ⟨j,hj,ej⟩:=bM mem;have ej:(iJ (fs.take i))[j]? =some f:=by rw [gE hj,ej]
    rw [kvsF_at (i3 _) ej (gE (by lia:j<As.length))] at hn;cases hn
   have eh:iJ (fs.take i++[f])=iJ (fs.take i)++[f]:=by rw [mO,pN mem]
   have ei:kU (fs.take i) f=[]:=idxF_no fun z=>mem ((kI _).mpr z)
   rw [putK_new _ hn,←kvsF_snoc lA,←eh];have hH3:H3 Ln=none:=by
    cases z:H3 Ln with
    | none=>rfl
    | some o=>rw [KE _ _ nLD z] at hLE;cases hLE
   have inA:∀ B∈As,∃ o,HE B=some o:=fun B hB=>by
    obtain ⟨j,hj,ej⟩:=bM hB;exact ⟨_,hA j _ B (gE (by lia:j<(iJ (fs.take i)).length)) (by rw [gE hj,ej])⟩
   have nLA:Ln ∉ As:=fun z=>by
    obtain ⟨o,e⟩:=inA _ z;rw [hLE] at e;cases e
   have eLI:(upd HG Da (.dK (kvsF (iJ (fs.take i++[f])) (As++[Ln])))) Ln=some (.lst ((kU (fs.take i) f).map V.int)):=by rw [aZ nLD,ei];exact eLn
   refine ⟨.inl ⟨rfl,_,SqL.of eLI⟩,_,rfl,Ln,_,_,rfl,rfl,eLI,(by rw [ei];show 0<aR;decide),?_⟩;obtain ⟨r1,r2⟩:=app Ln _ (fun a o n e=>by rw [aZ n];exact SG _ _ e) (As++[Ln]) aW (by rw [eh,av,av,lA];rfl) (nd_snoc ndA nLA) (fun A h=>by
    rcases aG.mp h with h | h
    ·exact frA A h
    ·rw [aw.mp h];exact hH3) eLI nLD hH3 ⟨(iJ (fs.take i)).length,by rw [eh,br (az _),eJ];rfl,by rw [←lA,br (az _),eJ];rfl⟩ (fun j g B hg hB nB=>by
     have hjl:j<As.length:=by
      have:=(ar.mp hB).1;rw [av,cu] at this
      rcases Nat.lt_or_ge j As.length with z | z
      ·exact z
      ·exfalso
       have:j=As.length:=by lia
       rw [this,br (az _),eJ] at hB;exact nB (bC hB).symm
     rw [bS hjl] at hB;rw [eh,bS (by lia)] at hg;have hBE:=hA j g B hg hB;refine ⟨?_,fun z=>mem (by rw [←z];exact aO hg)⟩;rw [aZ (fun z=>by rw [z,eDa] at hBE;cases hBE)];exact SG _ _ hBE)
   exact ⟨r1,r2,_,_,rfl⟩
 rintro σ HE ⟨KE,⟨As,eDa,lA,ndA,frA,hA⟩,w4,w5,rfl⟩;rw [af,bo] at eDa lA hA;refine ⟨_,rfl,Da,_,rfl,eDa,fun r hr=>⟨r,Da,_,rfl,aW,by rw [aZ (bB eDa hr)];exact eDa,fun L hL=>?_⟩⟩;have S4:Same HE (upd (upd HE r (isVV r Da)) L (.lst ((kvsF (iJ fs) As).map (·.2)))):=((Same.refl HE).put hr).put hL;have e4:(upd (upd HE r (isVV r Da)) L (.lst ((kvsF (iJ fs) As).map (·.2)))) L=some (.lst (As.map V.ref)):=by rw [aW,kvsF_snd lA]
 generalize upd (upd HE r (isVV r Da)) L (.lst ((kvsF (iJ fs) As).map (·.2)))=H4 at S4 e4 ⊢;have keep2:∀ a o,a≠L1→H2 a=some o→H4 a=some o:=fun a o n e=>by
  have e3':=S3 _ _ (KD _ _ n e);exact S4 _ _ (KE _ _ (fun z=>by have q:=KD _ _ n e;rw [z,hDa] at q;cases q) e3')
 refine k L _ fs H4 (fun a o n e=>keep2 a o (fun z=>by rw [z,nL1] at e;cases e) (tb2 _ _ n (S1 _ _ e))) (fh hT2 (fun ps e=>keep2 _ _ (fun z=>by rw [z,h2] at e;cases e) e) fun a o u e=>keep2 _ _ (fun z=>by rw [z,h2] at e;cases e) e) e4 ⟨As,rfl,lA,fun i f A h1 h2=>S4 _ _ (hA i f A h1 h2)⟩ lb
abbrev sSum:cG:=top 15
abbrev sBeats:cG:=top 16
theorem scSum:cj ["bounds","way","low","high","step","bound"] pzA (defScope sSum):=by trivial
theorem ok_sum (F:Fun K "sum_of" "sum_of" sSum f fd):FnOk P w K mg base CX0 1 f fd pzA spSum:=by
 refine F.ok scSum (by contradiction) (fun cdv A outer s H vs Q E hr h=>?_);obtain ⟨vb,vw,bs,ws,rfl,hb,hw,hin,k⟩:=h;obtain ⟨pb,yb,rfl,hpb,hlb,rb⟩:=jR hb;obtain ⟨pw,yw,rfl,hpw,hlw,rw'⟩:=jR hw;refine ⟨_,PSl.h (bg ⟨(psZ 2 scSum.nd bR)⟩
  (bg ⟨(psZ 3 scSum.nd bR)⟩
  (bg ⟨(iW bO rfl (oE (pv 1)) (pgZ 4 scSum.nd) (PSl.h (bg ⟨(psZ 5 scSum.nd (eN fu (pv 0) (ixZ (pv 4)) (fun _ _=>rfl)))⟩
  (c9 ⟨(jB (dE ng (ixZ (pv 4)) bR (eO _)) (PSl.h (bg ⟨(ps_aug (i:=2) scSum.nd rfl (.inl rfl) (ixZ (pv 5)) ip_add)⟩
  (c9 ⟨(ps_aug (i:=3) scSum.nd rfl (.inl rfl) (ixZ (pv 5)) ip_add)⟩))) (PSl.h (bg ⟨(ps_aug (i:=2) scSum.nd rfl (.inl rfl) (ixZ (pv 5)) ip_sub)⟩
  (c9 ⟨(ps_aug (i:=3) scSum.nd rfl (.inl rfl) (ixZ (pv 5)) ip_sub)⟩))))⟩))))⟩
  (c9 ⟨(cM (fb (aq (pv 2) (aq (pv 3) aP))))⟩)))),?_⟩
 refine ⟨_,rfl,pw,rfl,⟨_,SqT.of hpw⟩,?_⟩;refine for_tup (K:=K) (xs:=yw) (fun i σ H2=>H2=H∧∃ v4 v5,σ=[some (.ref pb),some (.ref pw),some (.int (iK bs (ws.take i))),some (.int (jr bs (ws.take i))),v4,v5]) ⟨rfl,none,none,rfl⟩ (fun i σ H2 _ ⟨e1,_⟩=>by rw [e1];exact SqT.of hpw) ?_ ?_
 ·rintro i y σ H2 hy ⟨rfl,v4,v5,rfl⟩
  have hi:i<ws.length:=by rw [←hlw];exact (ar.mp hy).1
  obtain ⟨q,hq,hq2⟩:=l4 rw' (gE hi);rw [hy] at hq;cases hq;obtain ⟨i1,d1⟩:=hin ws[i] (bu hi);have hm1:iK bs (ws.take (i+1))=iK bs (ws.take i)+lowS bs ws[i]:=by
   unfold iK;rw [bh,gE hi,aM,List.sum_append];simp
  have hm2:jr bs (ws.take (i+1))=jr bs (ws.take i)+lh bs ws[i]:=by
   unfold jr;rw [bh,gE hi,aM,List.sum_append];simp
  obtain ⟨qb,hqb,hqb2⟩:=l4 rb (gE i1);refine ⟨_,rfl,_,rfl,q,_,_,_,rfl,rfl,SqT.of hq2,bc (j:=0) rfl,pb,_,_,_,rfl,rfl,SqT.of hpb,bc (j:=ws[i].i) hqb,?_⟩;refine ⟨_,rfl,q,_,_,_,rfl,rfl,SqT.of hq2,bc (j:=1) rfl,rfl,_,rfl,?_⟩;refine ite2 (fun h1=>?_) (fun h1=>?_)
  ·have h1:ws[i].d=1:=by have:=pS h1;injection this
   refine ⟨_,rfl,_,rfl,qb,_,_,_,rfl,rfl,SqT.of hqb2,bc (j:=0) rfl,_,_,rfl,rfl,?_⟩;refine ⟨_,rfl,_,rfl,qb,_,_,_,rfl,rfl,SqT.of hqb2,bc (j:=1) rfl,_,_,rfl,rfl,rfl,some (.ref q),some (.ref qb),?_⟩;have l1:lowS bs ws[i]=bs[ws[i].i].1:=by unfold lowS;rw [gE i1];exact pO h1
   have l2:lh bs ws[i]=bs[ws[i].i].2:=by unfold lh;rw [gE i1];exact pO h1
   rw [hm1,hm2,l1,l2];rfl
  ·have h1:ws[i].d≠1:=fun z=>h1 (pQ (by rw [z]))
   refine ⟨_,rfl,_,rfl,qb,_,_,_,rfl,rfl,SqT.of hqb2,bc (j:=1) rfl,_,_,rfl,rfl,?_⟩;refine ⟨_,rfl,_,rfl,qb,_,_,_,rfl,rfl,SqT.of hqb2,bc (j:=0) rfl,_,_,rfl,rfl,rfl,some (.ref q),some (.ref qb),?_⟩;have l1:lowS bs ws[i]= -bs[ws[i].i].2:=by unfold lowS;rw [gE i1];exact pN h1
   have l2:lh bs ws[i]= -bs[ws[i].i].1:=by unfold lh;rw [gE i1];exact pN h1
   rw [hm1,hm2,l1,l2,←Int.sub_eq_add_neg,←Int.sub_eq_add_neg];rfl
 ·rintro σ H2 ⟨rfl,v4,v5,rfl⟩
  rw [hlw,bo];exact ⟨_,rfl,_,rfl,oY,fun p3 H3 S3 h3=>k p3 H3 S3 h3⟩
theorem scBeats:cj ["net","bounds","ring","beat","ends"] pzf (defScope sBeats):=by trivial
theorem ok_beats (F:Fun K "beats_of" "beats_of" sBeats f fd)(G1:Fn K mg "sum_of" sSum pzA f1 fd1):FnOk P w K mg base CX0 2 f fd pzf spBeats:=by
 have F1:FnOk P w K mg base CX0 1 f1 fd1 pzA spSum:=ok_sum G1.F;refine F.ok scBeats (by contradiction) (fun cdv A outer s H vs Q E hr h=>?_);obtain ⟨vn,vb,vw,b,m,sp,bs,ws,rfl,hv,hb0,hb1,hb,hw,hin,k⟩:=h;obtain ⟨t,pn,ys,rfl,ht,_⟩:=fH hv;refine ⟨_,PSl.h (bg ⟨(psZ 3 scBeats.nd (ixZ (pv 0)))⟩
  (bg ⟨(psZ 4 scBeats.nd (pc1 G1 F1 hr (aq (pv 1) (aq (pv 2) aP))))⟩
  (c9 ⟨(cM (fb (aq (pe_un un_neg (dU op_fdivB (pe_un un_neg (ixZ (pv 4))) (pv 3))) (aq (dU op_fdivB (ixZ (pv 4)) (pv 3)) aP))))⟩))),?_⟩
 refine ⟨_,rfl,t,_,_,_,rfl,rfl,SqT.of ht,bc (j:=0) rfl,?_⟩;refine ⟨_,rfl,_,rfl,vb,vw,bs,ws,rfl,hb,hw,hin,fun p1 H1 S1 h1=>?_⟩;refine ⟨_,rfl,p1,_,_,_,rfl,rfl,SqT.of h1,bc (j:=0) rfl,_,rfl,_,rfl,_,_,rfl,rfl,log_ok hb0 hb1,_,rfl,?_⟩;refine ⟨_,rfl,p1,_,_,_,rfl,rfl,SqT.of h1,bc (j:=1) rfl,_,rfl,_,_,rfl,rfl,log_ok hb0 hb1,oY,fun p2 H2 S2 h2=>k p2 H2 (S1.trans S2) h2⟩
abbrev sDead:cG:=top 17
theorem scDead:cj ["net","bounds","ring","beats"] pzf (defScope sDead):=by trivial
theorem ok_dead (F:Fun K "is_dead" "is_dead" sDead f fd)(G1:Fn K mg "beats_of" sBeats pzf f1 fd1)(F1:FnOk P w K mg base CX0 2 f1 fd1 pzf spBeats):FnOk P w K mg base CX0 3 f fd pzf spDead:=by
 refine F.ok scDead (by contradiction) (fun cdv A outer s H vs Q E hr h=>?_);obtain ⟨vn,vb,vw,b,m,sp,bs,ws,rfl,hv,hb0,hb1,hb,hw,hin,k⟩:=h;refine ⟨_,PSl.h (bg ⟨(psZ 3 scDead.nd (pc1 G1 F1 hr (aq (pv 0) (aq (pv 1) (aq (pv 2) aP)))))⟩
  (c9 ⟨(cM (pe_cmpR op_gt (ixZ (pv 3)) (ixZ (pv 3)) (eO _)))⟩)),?_⟩
 refine ⟨_,rfl,_,rfl,_,rfl,vn,vb,vw,b,m,sp,bs,ws,rfl,hv,hb0,hb1,hb,hw,hin,fun p1 H1 S1 h1=>?_⟩;exact ⟨_,rfl,p1,_,_,_,rfl,rfl,SqT.of h1,bc (j:=0) rfl,_,rfl,p1,_,_,_,rfl,rfl,SqT.of h1,bc (j:=1) rfl,_,_,rfl,rfl,k H1 S1⟩
abbrev sOverR:cG:=top 33
abbrev sMid:cG:=top 35
abbrev sDeadL:cG:=top 36
theorem noFree {n:List (Str×cE)}{p:Str×cE→Prop}(h:(n.all fun y=>y.2 != .free)=true):∀ y∈n,y.2= .free→p y:=fun y hy e=>by
 have:=List.all_eq_true.mp h y hy;rw [e] at this;exact pP this (by decide)
theorem pi_tupK {l:Expr}(e:X.K=K)(hl:PE X l tl):PI X tg l (iTup K tl):=e ▸ oE hl
theorem scOverR:cj pzr pzr (defScope sOverR):=by trivial
theorem ok_overR (F:Fun K "rings_over" "rings_over" sOverR f fd):FnOk P w K mg base CX0 1 f fd pzr spOverR:=by
 refine F.ok scOverR (by contradiction) (fun cdv A outer s H vs Q E hr h=>?_);obtain ⟨u,kk,rl,rg,rfl,hu,hrs,few,hlen,k⟩:=h;have lrl:rl.length=rg.length:=by rw [hrs.length,af]
 refine ⟨_,PSl.h (c9 ⟨(cM (ij (fr:=["span"]) (js:=[1]) rfl (fU (pv 0)) (by trivial) rfl (by trivial) rfl (by exists sOverR) (by trivial) rfl (by trivial) (fun _ _ _ _ _=>⟨(pv 0),(mZ (dE (r:=rIn K false) op_in_seq (pv 1) (by exact (ij (fr:=[]) (js:=[]) rfl (pi_tupK (K:=K) rfl (pv 0)) (by trivial) rfl (by trivial) rfl (noFree (by trivial)) (by trivial) rfl (by trivial) (fun _ _ _ _ _=>⟨(eN (r:=rIxT K) fu (pv 0) bR (fun _ _=>rfl)),ig⟩))) rfl))⟩)))⟩),?_⟩;refine ⟨_,rfl,u,rfl,⟨_,SqL.of hu⟩,?_⟩;refine gY (K:=K) (a:=u) (xs:=rl) (fun i zs HC=>Same H HC∧zs.length≤i∧IsDs HC zs (((rg.take i).filter (iS kk)).map wayQ)) ⟨Same.refl H,az _,.nil⟩ (fun i zs HC hi ⟨S,e2,_⟩=>⟨SqL.of (S _ _ hu),e2⟩) (by rw [lrl];exact eK (by lia)) (fun i x zs HC hx ⟨S,e2,e3⟩=>?_) (fun zs HC ⟨S,e2,e3⟩ D hD=>?_)
 ·have hi:i<rg.length:=by have:=(ar.mp hx).1;lia
  obtain ⟨d,ed,dx⟩:=hrs.get hx;rw [ax,gE hi] at ed;cases ed;have dx:IsD H x (wayP rg[i].2):=dx;obtain ⟨px,yx,rfl,hpx,hlx,rx⟩:=jR dx;have et:(rg.take (i+1)).filter (iS kk)=(rg.take i).filter (iS kk)++(if iS kk rg[i]=true then [rg[i]] else []):=by
   rw [bh,gE hi,fe];congr 1;show List.filter _ [rg[i]]=_;rw [e8];rfl
  have ln:=hlen _ (bu hi);refine ⟨_,rfl,_,rfl,px,rfl,⟨_,SqT.of (S _ _ hpx)⟩,?_⟩;refine nS (K:=K) (a:=px) (xs:=yx) (fun j ws HD=>HD=HC∧ws=((rg[i].2.take j).map fun s=>V.int (s.i:Int))) ⟨rfl,rfl⟩ (fun j ws HD hj ⟨e1,e2'⟩=>⟨by rw [e1];exact SqT.of (S _ _ hpx),by rw [e2',af,bI];lia⟩) (by rw [hlx];exact eK ln) (fun j y ws HD hy' ⟨e1,e2'⟩=>?_) (fun ws HD ⟨e1,e2'⟩ D hD=>?_)
  ·subst e1
   have hj:j<rg[i].2.length:=by have:=(ar.mp hy').1;lia
   obtain ⟨q,hq,hq2⟩:=l4 rx (gE hj);rw [hy'] at hq;cases hq;refine gk ?_;refine ⟨_,rfl,q,_,_,_,rfl,rfl,SqT.of (S _ _ hq2),bc (j:=0) rfl,rfl,?_⟩;rw [e2',bh,gE hj,aM];rfl
  ·subst e1
   have S1:Same HD (upd HD D (.lst ws)):=Same.put (Same.refl HD) hD;have hD1:(upd HD D (.lst ws)) D=some (.lst ws):=aW;generalize upd HD D (.lst ws)=HE at S1 hD1 ⊢;rw [hlx,bo] at e2';subst e2';refine ⟨D,_,rfl,.inl (SqL.of hD1),rfl,(by rw [List.all_map];exact List.all_eq_true.mpr fun _ _=>rfl),_,rfl,?_⟩;rw [show (rg[i].2.map fun s=>V.int (s.i:Int))=(rg[i].2.map Stp.i).map (fun (i:Nat)=>V.int i) by rw [cU];rfl,inV_nat,et];show if (decide (kk∈rg[i].2.map Stp.i))=true then _ else _;have eo:iS kk rg[i]=decide (kk∈rg[i].2.map Stp.i):=rfl;rw [eo];refine ite2 (fun c=>?_) (fun c=>?_)
   ·refine ⟨_,rfl,S.trans S1,by rw [av];show zs.length+1≤i+1;lia,?_⟩
    rw [pO c,aM];exact (e3.same S1).append (.cons (dx.same (S.trans S1)) .nil)
   ·refine ⟨S.trans S1,by lia,?_⟩
    rw [pN c,cP];exact e3.same S1
 ·rw [lrl,bo] at e3
  have S1:Same HC (upd HC D (.lst zs)):=Same.put (Same.refl HC) hD;refine k D zs _ (S.trans S1) (Same.free S hD) aW (e3.same S1)
theorem scMid:cj ["case","span","bound"] ["case","span"] (defScope sMid):=by trivial
theorem ok_mid (F:Fun K "middle_of" "middle_of" sMid f fd):FnOk P w K mg base CX0 1 f fd ["case","span"] spMid:=by
 refine F.ok scMid (by contradiction) (fun cdv A outer s H vs Q E hr h=>?_);obtain ⟨c,kk,bs,rs,rfl,hc,hk,k⟩:=h;obtain ⟨vb,u,rl,h1,h2,h3,h4⟩:=hc.ex;obtain ⟨pb,yb,rfl,hpb,hlb,rb⟩:=jR h2;obtain ⟨q,hq,hq2⟩:=l4 rb (gE hk);have e0:bs.getD kk (0,0)=bs[kk]:=by rw [ah,gE hk];rfl
 refine ⟨_,PSl.h (bg ⟨(psZ 2 scMid.nd (eN fu (ixZ (pv 0)) (pv 1) (fun _ _=>rfl)))⟩
  (c9 ⟨(cM (dU op_fdiv (dU iA (ixZ (pv 2)) (ixZ (pv 2))) bR))⟩)),?_⟩
 refine ⟨_,rfl,c,_,_,_,rfl,rfl,SqT.of h1,bc (j:=0) rfl,_,rfl,pb,_,_,_,rfl,rfl,SqT.of hpb,bc (j:=kk) hq,?_⟩;refine ⟨_,rfl,q,_,_,_,rfl,rfl,SqT.of hq2,bc (j:=0) rfl,_,rfl,q,_,_,_,rfl,rfl,SqT.of hq2,bc (j:=1) rfl,_,_,rfl,rfl,_,_,rfl,rfl,⟨by decide,by decide⟩,?_⟩;rw [e0] at k;exact k
theorem scDeadL:cj ["net","case","ring"] pzs (defScope sDeadL):=by trivial
theorem ok_deadL (F:Fun K "dead_leaf" "dead_leaf" sDeadL f fd)(G1:Fn K mg "is_dead" sDead pzf f1 fd1)(F1:FnOk P w K mg base CX0 3 f1 fd1 pzf spDead):FnOk P w K mg base CX0 4 f fd pzs spDeadL:=by
 refine F.ok scDeadL (by contradiction) (fun cdv A outer s H vs Q E hr h=>?_);obtain ⟨v,c,b,m,sp,bs,rs,rfl,hv,b0,b61,hc,few,hin,k⟩:=h;obtain ⟨vb,u,rl,h1,h2,h3,h4⟩:=hc.ex;have hr3:Room 3 _:=hr;have lrl:rl.length=rs.length:=by rw [h4.length,af]
 refine ⟨_,PSl.h (bg ⟨(iW bO rfl (fU (ixZ (pv 1))) (pgZ 2 scDeadL.nd) (dA (jB (pt_val (pc1 G1 F1 hr3 (aq (pv 0) (aq (ixZ (pv 1)) (aq (pv 2) aP))))) (dA (cM (fb (aq nA (aq (pv 2) aP))))) fF)))⟩
  (c9 ⟨(cM pe_non)⟩)),?_⟩
 refine ⟨_,rfl,c,_,_,_,rfl,rfl,SqT.of h1,bc (j:=1) rfl,u,rfl,⟨_,SqL.of h3⟩,?_⟩;refine jE (K:=K) (a:=u) (xs:=rl) (fun i σ H1=>Same H H1∧(∀ q∈rs.take i,kK b bs q.2=false)∧∃ v2,σ=[some v,some (.ref c),v2]) ⟨Same.refl H,fun _ h=>pP h (by simp),none,rfl⟩ (fun i σ H1 _ ⟨S,_⟩=>SqL.of (S _ _ h3)) ?_ ?_
 ·rintro i x σ H1 hx ⟨S1,hal,v2,rfl⟩
  have hi:i<rs.length:=by have:=(ar.mp hx).1;lia
  obtain ⟨d,ed,dx⟩:=h4.get hx;rw [ax,gE hi] at ed;cases ed;have dx:IsD H x (wayP rs[i].2):=dx;refine ⟨_,rfl,_,rfl,c,_,_,_,rfl,rfl,SqT.of (S1 _ _ h1),bc (j:=0) rfl,_,rfl,v,vb,x,b,m,sp,bs,rs[i].2,rfl,hv.same S1,b0,b61,h2.same S1,dx.same S1,hin _ (bu hi),fun H2 S2=>⟨_,rfl,ite2 (fun hc=>?_) (fun hc=>?_)⟩⟩
  ·refine ⟨_,rfl,oY,fun q3 H3 S3 h3'=>?_⟩
   exact k (.ref q3) H3 (S1.trans (S2.trans S3)) (.inr ⟨rs[i],bu hi,.tup h3' (.cons (.str _) (.cons (dx.same (S1.trans (S2.trans S3))) .nil)),hc⟩)
  ·refine ⟨S1.trans S2,fun q hq=>?_,_,rfl⟩
   rw [bh,gE hi] at hq
   rcases aG.mp hq with z | z
   ·exact hal q z
   ·rw [aw.mp z];exact jf.mpr hc
 ·rintro σ H1 ⟨S1,hal,v2,rfl⟩
  rw [lrl,bo] at hal;exact k .non H1 S1 (.inl ⟨rfl,hal⟩)
abbrev sFirst:cG:=top 14
theorem scFirst:cj pza pza (defScope sFirst):=by trivial
theorem ok_first (F:Fun K "first_bounds" "first_bounds" sFirst f fd)(T:Nm mg):FnOk P w K mg base CX0 1 f fd pza spFirst:=by
 refine F.ok scFirst (by contradiction) (fun cdv A outer s H vs Q E hr h=>?_);obtain ⟨v,b,m,sp,rfl,hv,few,k⟩:=h;obtain ⟨t,p,ys,rfl,ht,hp,hl,hy⟩:=fH hv;refine ⟨_,PSl.h (c9 ⟨(cM (eR ji rfl T.ttup jj (aq (ij (fr:=[]) (js:=[]) rfl (oE (ixZ (pv 0))) (by trivial) rfl (by trivial) rfl (by exists sFirst) (by trivial) rfl (by trivial) (fun _ _ _ _ _=>⟨(fb (aq (eN (r:=rIxT K) fu (pv 0) bR (fun _ _=>rfl)) (aq (eN (r:=rIxT K) fu (pv 0) bR (fun _ _=>rfl)) aP))),ig⟩)) aP)))⟩),?_⟩;refine ⟨_,rfl,t,_,_,_,rfl,rfl,SqT.of ht,bc (j:=2) rfl,p,rfl,⟨_,SqT.of hp⟩,?_⟩;refine nS (K:=K) (a:=p) (xs:=ys) (fun i zs H2=>Same H H2∧IsDs H2 zs (((sp.take i).map fun x=>(x.l,x.o)).map fun x=> .tup ((bndR x).map Dt.int))) ⟨Same.refl H,.nil⟩ (fun i zs H2 hi ⟨e1,e2⟩=>?_) (by rw [hl];exact eK few) (fun i x zs H2 hx ⟨e1,e2⟩=>?_) (fun zs H2 ⟨e1,e2⟩ D hD=>?_)
 ·refine ⟨SqT.of (e1 _ _ hp),?_⟩
  rw [e2.length,af,af,bI];lia
 ·have hi:i<sp.length:=by rw [←hl];exact (ar.mp hx).1
  obtain ⟨q,hq,hq2⟩:=hy i sp[i] (gE hi);rw [hx] at hq;cases hq;have hq3:=e1 _ _ hq2;refine gk ?_;refine ⟨_,rfl,q,_,_,_,rfl,rfl,SqT.of hq3,bc (j:=2) rfl,_,rfl,q,_,_,_,rfl,rfl,SqT.of hq3,bc (j:=3) rfl,oY,fun q4 H4 S4 h4=>⟨e1.trans S4,?_⟩⟩;rw [bh,gE hi,aM,aM];exact (e2.same S4).append (.cons (.tup h4 (IsDs.ints [sp[i].l,sp[i].o])) .nil)
 ·refine ⟨D,_,rfl,SqL.of aW,fun p3 H3 S3 h3=>?_⟩
  have S23:=(Same.put (o:= .lst zs) (Same.refl H2) hD).trans S3;refine k (.ref p3) H3 (e1.trans S23) (.tup h3 ?_);rw [hl,bo] at e2;exact e2.same S23
abbrev sWithB:cG:=top 30
theorem cutU {i:Int}(hi:i=(n:Int)):cutV xs none (some i)=xs.take n:=by
 unfold cutV;subst hi;have e:=HT.sIx_nat xs.length xs.length n;rw [e];show (xs.drop 0).take (min n xs.length - 0)=xs.take n;rw [List.drop_zero,Nat.sub_zero]
 by_cases h:n≤xs.length
 ·rw [Nat.min_eq_left h]
 ·rw [Nat.min_eq_right (by lia),bo,List.take_of_length_le (by lia)]
theorem cutF {i:Int}(hi:i=(n:Int)):cutV xs (some i) none=xs.drop n:=by
 unfold cutV;subst hi;have e:=HT.sIx_nat xs.length 0 n;rw [e];show (xs.drop (min n xs.length)).take (xs.length - min n xs.length)=xs.drop n
 by_cases h:n≤xs.length
 ·rw [Nat.min_eq_left h,List.take_of_length_le (by rw [ia];lia)]
 ·rw [Nat.min_eq_right (by lia),List.drop_length,List.drop_of_length_le (by lia),List.take_nil]
theorem scWithB:cj pzt pzt (defScope sWithB):=by trivial
theorem ok_withB (F:Fun K "with_bound" "with_bound" sWithB f fd):FnOk P w K mg base CX0 1 f fd pzt spWithB:=by
 refine F.ok scWithB (by contradiction) (fun cdv A outer s H vs Q E hr h=>?_);obtain ⟨vb,n,lo,hi,bs,rfl,hb,hn,few,k⟩:=h;obtain ⟨pb,yb,rfl,hpb,hlb,rb⟩:=jR hb;refine ⟨_,PSl.h (c9 ⟨(cM (dU op_catA (dU op_catA (pe_slice sl_tupN (pv 0) po_none (po_some (pv 1))) (fb (aq (fb (aq (pv 2) (aq (pv 3) aP))) aP))) (pe_slice sl_tupN (pv 0) (po_some (dU iA (pv 1) bR)) po_none)))⟩),?_⟩;have lyb:yb.length≤40:=by lia
 refine ⟨_,rfl,_,rfl,_,rfl,pb,_,rfl,hpb,fun qB HB SB hB=>⟨_,rfl,_,rfl,oY,fun q1 H1 S1 h1=>⟨szZ1,fun qC HC SC hC=>?_⟩⟩⟩;rw [cutU (n:=n) rfl] at hB;refine ⟨qB,qC,_,_,rfl,rfl,SC _ _ (S1 _ _ hB),hC,?_,fun qD HD SD hD=>?_⟩
 ·rw [bI];exact aS (by show min n yb.length+1≤1000;lia) (by decide)
 refine ⟨_,rfl,_,rfl,_,_,rfl,rfl,_,rfl,pb,_,rfl,SD _ _ (SC _ _ (S1 _ _ (SB _ _ hpb))),fun qE HE SE hE=>?_⟩;rw [cutF (n:=n+1) (by lia)] at hE;refine ⟨qD,qE,_,_,rfl,rfl,SE _ _ hD,hE,?_,fun qF HF SF hF=>?_⟩
 ·rw [av,bI,ia];exact aS (by show min n yb.length+1+(yb.length - (n+1))≤1000;lia) (by decide)
 have S1F:Same H1 HF:=SC.trans (SD.trans (SE.trans SF));have SF':Same H HF:=SB.trans (S1.trans S1F);refine k (.ref qF) HF SF' (.tup hF ?_);have e:bs.set n (lo,hi)=bs.take n++[(lo,hi)]++bs.drop (n+1):=by
  rw [List.set_eq_take_append_cons_drop,pO hn,List.append_assoc];rfl
 rw [e,aM,aM,List.map_take,List.map_drop];exact ((IsDs.takeN n (rb.same SF')).append (.cons (.tup (S1F _ _ h1) (IsDs.ints [lo,hi])) .nil)).append (IsDs.dropN (n+1) (rb.same SF'))
abbrev cCuts:cG:=top 34
abbrev pA:cG:=clsOf cCuts 0
abbrev sSpanC:cG:=clsOf cCuts 1
abbrev sSidesC:cG:=clsOf cCuts 2
def lamPosC:List cG→Pos
 | [_,_,_,_,.Assign _ (.Call _ _ [⟨_,.Lambda _ _ _ lp,_⟩] _) _]=>lp
 | _=>⟨0,0,0,0⟩
abbrev lpC:Pos:=lamPosC (fJ pA)
abbrev lqC:Str:=(("Cuts.__init__" :Str) ++ ".<locals>.") ++ "<lambda>"
theorem lenNC (K:au)(hK:X.K=K:=by rfl):CallR X (.builtin "len") (fun xs H Q=>∃ p ys,xs=[.ref p]∧(SqL K H p ys∨SqT K H p ys)∧Q (.int ys.length) H):=by subst hK;exact dk
structure CutC (K:au)(C:ai):Prop where
 cl:Cls K C
 n1:NoAttr K C "first_case"
 n2:NoAttr K C "touched"
 n3:NoAttr K C "order"
theorem scInitC:cj ["self","net","rings","touched"] ["self","net"] (defScope pA):=by trivial
theorem ok_initC {f4 c:ai}(F:Fun K "__init__" "Cuts.__init__" pA f fd)(hcd:fd.code= .ref c)(CH:de K c T1=true)(B:BM mg base)(ne:T0≠T1)(T:Nm mg)(T2:Nt mg)(ms:mg "sorted" =none)(CC:CutC K C)
  (G1:Fn K mg "rings_of" sRingsO pza f1 fd1) (F1:FnOk P w K mg base CX0 8 f1 fd1 pza (spRingsO T0 p0 q0))
  (G2:Fn K mg "rings_over" sOverR pzr f2 fd2) (G3:Fn K mg "first_bounds" sFirst pza f3 fd3)
  (G4:Fn K mg "forest_of" kW pza f4 fd4) (F4:FnOk P w K mg base CX0 6 f4 fd4 pza (kB T0 p0 q0)):FnOk P w K mg base CX0 9 f fd ["self","net"] (spInitC T0 p0 q0 T1 lpC lqC C):=by
 have F2:FnOk P w K mg base CX0 1 f2 fd2 pzr spOverR:=ok_overR G2.F;have F3:FnOk P w K mg base CX0 1 f3 fd3 pza spFirst:=ok_first G3.F T;refine okC F hcd scInitC (by contradiction) (fun A outer s H vs Q E hr h=>?_);obtain ⟨x,dx,v,b,m,sp,rfl,hx,hv,N,hT0,hT1,k⟩:=h;have hr1:Room 1 _:=hr.mono (by decide);have hr6:Room 6 _:=hr.mono (by decide);have E:=N.ends;have few:=N.few;have m1:=N.m1;have m2:=N.m2;refine ⟨_,PSl.h (bg ⟨(psZ 2 scInitC.nd (pc1 G1 F1 hr (aq (pv 1) aP)))⟩
  (bg ⟨(psZ 3 scInitC.nd (ij (fr:=["rings"]) (js:=[2]) rfl (gW rfl T2.range (aq (dO dk rfl T.len cO (aq (ixZ (pv 1)) aP)) aP)) (by trivial) rfl (by trivial) rfl (by exists pA) (by trivial) rfl (by trivial) (fun _ _ _ _ _=>⟨(pc1 G2 F2 hr1 (aq (pv 1) (aq (pv 0) aP))),ig⟩)))⟩
  (bg ⟨(ps_fld (pv 0) (fb (aq (pc1 G3 F3 hr1 (aq (pv 1) aP)) (aq (pv 2) aP))) rfl)⟩
  (bg ⟨(ps_fld (pv 0) (pv 3) rfl)⟩
  (c9 ⟨(ps_fld (pv 0) (pe_sortT (js:=[3]) (fr:=["touched"]) (x := "span") (c:=c) (P:=T1) rfl hr.depth rfl ms (pc1 G4 F4 hr6 (aq (pv 1) aP)) rfl rfl CH B (fun _ _ _ _ _ _=>rfl) rfl rfl rfl (by trivial) rfl (by decide) (by exists pA) rfl (by trivial)
   (fun cl L f' cd s' H'=>pe_tup (aq (pe_un un_neg (dO (lenNC K) rfl T.len cO (aq (eN (r:=rIxL K) fc (pv 1) (pv 0) (fun _ _=>rfl)) aP))) (aq (pv 0) aP)))) rfl)⟩))))),?_⟩
 refine ⟨_,rfl,v,b,m,sp,rfl,hv,N,hT0,fun L rl l rg H1 tb1 hT01 fL hL dL R=>?_⟩;have fr:=R.fr;have xT0:x≠T0:=by obtain ⟨ps,h⟩:=LamT.tbl hT0;exact eV hx h nofun
 have xT1:x≠T1:=by obtain ⟨ps,h⟩:=LamT.tbl hT1;exact eV hx h nofun
 have K1:Kp H H1:=Tb.kp hT0 tb1;have hT11:=LamT.ntb hT1 hT0 (cn ne) tb1;have hx1:=tb1 x _ xT0 hx;have hv1:=cw K1.tup hv;have tl:l.length≤15:=by have:=fr.few E (by lia);lia
 have lrg:rg.length≤40:=by
  have:rg.length=(restK sp l).length:=by rw [←R.ks,af]
  have h2:(restK sp l).length≤sp.length:=by unfold restK;exact aS (dG _ _) (by rw [ba];exact az _)
  lia
 have lng:∀ q∈rg,q.2.length≤1000:=fun q hq=>by
  have:=((R.rk q hq).rg N tl).few;lia
 have st1:∀ a o,a≠T0→a≠T1→a≠x→H a=some o→H1 a=some o:=fun a o n0 _ _ e=>tb1 a o n0 e
 obtain ⟨t,p,ys,ev,ht,hp,hl,hy⟩:=fH hv1;subst ev;clear hy hv fL tb1;refine ⟨_,rfl,t,_,_,_,rfl,rfl,SqT.of ht,bc (j:=2) rfl,p,_,rfl,.inr (SqT.of hp),_,rfl,by lia,by lia,?_⟩;refine km (n:=((ys.length:Int)).toNat) (fun i zs HC=>Same H1 HC∧zs.length=i∧∀ j,j<i→∃ u ql,zs[j]? =some (.ref u)∧HC u=some (.lst ql)∧IsDs HC ql ((rg.filter (iS j)).map wayQ)) ⟨Same.refl H1,rfl,fun j hj=>pP hj (Nat.not_lt_zero _)⟩ (fun i zs HC hi ⟨_,e2,_⟩=>Nat.le_of_eq e2) (eK (by lia)) (fun i zs HC hi ⟨S,lz,dz⟩=>?_) (fun zs HC ⟨S,lz,dz⟩ D hD=>?_)
 ·rw [jn]
  refine gk ⟨_,rfl,_,rfl,L,i,rl,rg,rfl,S _ _ hL,dL.same S,lrg,lng,fun L' rl' H2 S2 f2 h2 d2=>⟨S.trans S2,by rw [av,lz];rfl,fun j hj=>?_⟩⟩
  rcases iM.mp hj with z | z
  ·obtain ⟨u,ql,a1,a2,a3⟩:=dz j z
   exact ⟨u,ql,by rw [bS (by lia)];exact a1,S2 _ _ a2,a3.same S2⟩
  ·subst z
   exact ⟨L',rl',by rw [br (by lia),lz,eJ];rfl,h2,d2⟩
 have S1:Same H1 (upd HC D (.lst zs)):=S.trans (Same.put (Same.refl HC) hD);have tch:TchD (upd HC D (.lst zs)) D sp.length rg:=by
  refine ⟨zs,aW,by rw [lz];lia,fun j hj=>?_⟩;obtain ⟨u,ql,a1,a2,a3⟩:=dz j (by lia);have S2:Same HC (upd HC D (.lst zs)):=Same.put (Same.refl HC) hD;exact ⟨u,ql,a1,S2 _ _ a2,a3.same S2⟩
 generalize upd HC D (.lst zs)=H2 at S1 tch ⊢;clear dz hD;refine ⟨_,rfl,.ref t,b,m,sp,rfl,hv1.same S1,by lia,fun ub H3 S3 hub=>⟨_,rfl,oY,fun q4 H4 S4 h4=>⟨_,rfl,x,C,dx,_,rfl,S4 _ _ (S3 _ _ (S1 _ _ hx1)),CC.cl,CC.n1,by decide,?_⟩⟩⟩;have S14:Same H1 H4:=S1.trans (S3.trans S4);have cs4:CsD H4 q4 (sp.map fun z=>(z.l,z.o)) rg:=⟨ub,L,rl,h4,hub.same S4,S14 _ _ hL,dL.same S14⟩;have tch4:=tch.kp (Same.kp (S3.trans S4));have hx4:=S14 _ _ hx1;have K4:Kp H4 (upd H4 x (.ins C dx (lQ "first_case" (.ref q4) []))):=Kp.upd hx4;have st5:∀ a o,a≠T0→a≠T1→a≠x→H a=some o→(upd H4 x (.ins C dx (lQ "first_case" (.ref q4) []))) a=some o:=fun a o n0 n1 n2 e=>by rw [aZ n2];exact S14 _ _ (st1 a o n0 n1 n2 e)
 have kp5:Kp H (upd H4 x (.ins C dx (lQ "first_case" (.ref q4) []))):=K1.trans ((Same.kp S14).trans K4);have hx5:(upd H4 x (.ins C dx (lQ "first_case" (.ref q4) []))) x=some (.ins C dx [("first_case",.ref q4)]):=aW;have hT05:=lO (o:= .ins C dx (lQ "first_case" (.ref q4) [])) (LamT.same S14 hT01) hx4;have hT15:=lO (o:= .ins C dx (lQ "first_case" (.ref q4) [])) (LamT.same S14 hT11) hx4;have hv5:=cw K4.tup (hv1.same S14);have cs5:=cs4.kp K4;have tch5:=tch4.kp K4;generalize upd H4 x (.ins C dx (lQ "first_case" (.ref q4) []))=H5 at st5 kp5 hx5 hT05 hT15 hv5 cs5 tch5 ⊢;clear K4 hx4 tch4 cs4 S14 h4 S4 hub S3 tch S1 ht hp st1 hv1 hT11 hT01 hx1 K1 dL hL;refine ⟨_,rfl,_,rfl,x,C,dx,_,rfl,hx5,CC.cl,CC.n2,(by show 1<1000;decide),?_⟩;have K5:Kp H5 (upd H5 x (.ins C dx (lQ "touched" (.ref D) [("first_case",.ref q4)]))):=Kp.upd hx5;have st6:∀ a o,a≠T0→a≠T1→a≠x→H a=some o→(upd H5 x (.ins C dx (lQ "touched" (.ref D) [("first_case",.ref q4)]))) a=some o:=fun a o n0 n1 n2 e=>by rw [aZ n2];exact st5 a o n0 n1 n2 e
 have kp6:=kp5.trans K5;have hx6:(upd H5 x (.ins C dx (lQ "touched" (.ref D) [("first_case",.ref q4)]))) x=some (.ins C dx [("first_case",.ref q4),("touched",.ref D)]):=aW;have hT06:=lO (o:= .ins C dx (lQ "touched" (.ref D) [("first_case",.ref q4)])) hT05 hx5;have hT16:=lO (o:= .ins C dx (lQ "touched" (.ref D) [("first_case",.ref q4)])) hT15 hx5;have hv6:=cw K5.tup hv5;have cs6:=cs5.kp K5;have tch6:=tch5.kp K5;generalize upd H5 x (.ins C dx (lQ "touched" (.ref D) [("first_case",.ref q4)]))=H6 at st6 kp6 hx6 hT06 hT16 hv6 cs6 tch6 ⊢;clear K5 st5 kp5 hx5 hT05 hT15 hv5 cs5 tch5;refine ⟨_,rfl,.ref t,b,m,sp,rfl,hv6,N,hT06,fun u H7 ns tb7 hT07 hu F0=>?_⟩;obtain ⟨l',π0,rfl,O0,pm0⟩:=F0.natsF;have el:l'=l:=FrstL.one (m:=m.toNat) (sp:=sp) ⟨F0,π0,O0,pm0⟩ fr;subst el;have K6:Kp H6 H7:=Tb.kp hT06 tb7;have hT17:=LamT.ntb hT16 hT06 (cn ne) tb7;have hx7:=tb7 x _ xT0 hx6;have st7:∀ a o,a≠T0→a≠T1→a≠x→H a=some o→H7 a=some o:=fun a o n0 n1 n2 e=>tb7 a o n0 (st6 a o n0 n1 n2 e)
 have kp7:=kp6.trans K6;have cs7:=cs6.kp K6;have tch7:=tch6.kp K6;clear K6 st6 kp6 hx6 hT06 hT16 hv6 cs6 tch6 tb7;have hlt:=(fr.pots E).nodup.2;have hnd:=(fr.pots E).nodup.1;have lns:(l'.map fun (i:Nat)=>(i:Int)).length=l'.length:=af ..;have gns:∀ i,i<l'.length→(l'.map fun (i:Nat)=>(i:Int)).getD i 0=((l'.getD i 0:Nat):Int):=fun i hi=>by
  rw [ah,ax,ah,gE hi];rfl
 refine ⟨u,l'.map fun (i:Nat)=>(i:Int),fun i=>(-(((rg.filter (iS (l'.getD i 0))).length:Nat):Int),((l'.getD i 0:Nat):Int)),rfl,hu,by rw [lns];lia,hT17,?_,fun i hi H8 tb8=>?_,fun D2 H8 π tb8 hT18 f8 pm8 _=>?_⟩
 ·refine List.Pairwise.of_map (S:=fun a c:Int=>a≠c) Prod.snd (fun a c h e=>h (by rw [e])) ?_
  rw [cU,lns];have e:(aK l'.length).map (Prod.snd ∘ fun i=>(-(((rg.filter (iS (l'.getD i 0))).length:Nat):Int),((l'.getD i 0:Nat):Int)))=l'.map fun (i:Nat)=>(i:Int):=by
   refine List.ext_getElem (by rw [af,af,ba]) fun i h1 h2=>?_
   rw [af,ba] at h1;rw [ib,iQ,ib];show ((l'.getD i 0:Nat):Int)=_;rw [ah,gE h1];rfl
  rw [e,ja];exact (cJ.mp hnd).imp fun hh e=>hh (by lia)
 ·rw [lns] at hi
  rw [gns i hi];obtain ⟨tv,a1,a2,a3⟩:=tch7.ex;have hk:l'.getD i 0<sp.length:=by
   rw [ah,gE hi];exact hlt _ (bu hi)
  obtain ⟨uu,ql,b1,b2,b3⟩:=a3 _ hk;have K8:Kp H7 H8:=Tb.kp hT17 tb8;have lq:ql.length=(rg.filter (iS (l'.getD i 0))).length:=by rw [b3.length,af]
  refine ⟨_,rfl,_,rfl,D,_,_,_,rfl,rfl,SqL.of (K8.lst _ _ a1),bc b1,uu,_,rfl,.inl (SqL.of (K8.lst _ _ b2)),_,rfl,_,rfl,oY,fun a9 h9=>⟨Same.put (Same.refl H8) h9,a9,rfl,?_⟩⟩;rw [aW,lq]
 ·have K8:Kp H7 H8:=Tb.kp hT17 tb8
  have S9:Same H8 (upd H8 D2 (.lst (π.map fun (i:Nat)=>V.int ((l'.map fun (i:Nat)=>(i:Int)).getD i 0)))):=Same.put (Same.refl H8) f8;have h9:(upd H8 D2 (.lst (π.map fun (i:Nat)=>V.int ((l'.map fun (i:Nat)=>(i:Int)).getD i 0)))) D2=some (.lst ((π.map fun i=>l'.getD i 0).map fun (i:Nat)=>V.int i)):=by
   rw [aW,cU];congr 2;refine fY fun i hi=>?_
   have:=bT.mp (pm8.mem_iff.mp hi);rw [lns] at this;rw [gns i this];rfl
  generalize upd H8 D2 (.lst (π.map fun (i:Nat)=>V.int ((l'.map fun (i:Nat)=>(i:Int)).getD i 0)))=H9 at S9 h9 ⊢;have hx9:=S9 _ _ (tb8 x _ xT1 hx7);refine ⟨_,rfl,x,C,dx,_,rfl,hx9,CC.cl,CC.n3,(by show 2<1000;decide),?_⟩;have K9:Kp H7 H9:=K8.trans (Same.kp S9);have hT08:=LamT.same S9 (LamT.ntb hT07 hT17 ne tb8);have hT19:=LamT.same S9 hT18;have KX:Kp H9 (upd H9 x (.ins C dx (lQ "order" (.ref D2) [("first_case",.ref q4),("touched",.ref D)]))):=Kp.upd hx9;refine k l' rg _ (fun a o n0 n1 n2 e=>?_) (kp7.trans (K9.trans KX)) (lO hT08 hx9) (lO hT19 hx9) R ⟨dx,q4,D,D2,_,aW,(cs7.kp K9).kp KX,(tch7.kp K9).kp KX,KX.lst _ _ h9,ord_perm (by rw [lns] at pm8;exact pm8)⟩;rw [aZ n2];exact S9 _ _ (tb8 a o n1 (st7 a o n0 n1 n2 e))
theorem scSpanC:cj ["self","case","span","bound"] ["self","case"] (defScope sSpanC):=by trivial
theorem ok_spanC (F:Fun K "span_to_cut" "Cuts.span_to_cut" sSpanC f fd)(CC:CutC K C):FnOk P w K mg base CX0 1 f fd ["self","case"] (spSpanC C):=by
 refine F.ok scSpanC (by contradiction) (fun cdv A outer s H vs Q E hr h=>?_);obtain ⟨x,c,sp,l,rg,rs,bs,rfl,hx,hc,hl,few,k1,k2⟩:=h;obtain ⟨dx,c0,tl,ol,ord,h1,h2,h3,h4,h5⟩:=hx.ex;obtain ⟨vb,u,rl,c1,c2,c3,c4⟩:=hc.ex;obtain ⟨pb,yb,rfl,hpb,hlb,rb⟩:=jR c2;refine ⟨_,PSl.h (bg ⟨(iW bO rfl (fU (pe_fld (pv 0) rfl)) (pgZ 2 scSpanC.nd) (PSl.h (bg ⟨(psZ 3 scSpanC.nd (eN fu (ixZ (pv 1)) (pv 2) (fun _ _=>rfl)))⟩
  (c9 ⟨(jB (dE op_lt (ixZ (pv 3)) (ixZ (pv 3)) (eO _)) (dA (cM (pv 2))) fF)⟩))))⟩
  (c9 ⟨(cM pe_non)⟩)),?_⟩
 refine ⟨_,rfl,x,C,dx,_,_,rfl,h1,CC.cl,CC.n3,rfl,ol,rfl,⟨_,SqL.of h4⟩,?_⟩;refine jE (K:=K) (a:=ol) (xs:=ord.map fun (i:Nat)=>V.int i) (fun i σ H1=>H1=H∧(∀ j∈ord.take i,¬ ((bs.getD j (0,0)).1<(bs.getD j (0,0)).2))∧∃ v2 v3,σ=[some (.ref x),some (.ref c),v2,v3]) ⟨rfl,fun _ h=>pP h (by simp),none,none,rfl⟩ (fun i σ H1 _ ⟨e,_⟩=>by rw [e];exact SqL.of h4) ?_ ?_
 ·rintro i y σ H1 hy ⟨rfl,hal,v2,v3,rfl⟩
  obtain ⟨j,hj,rfl⟩:=mapI_at hy;have hm:j∈ord:=aO hj;have hjl:=h5.mem_iff.mp hm;have hjb:=hl j hjl;obtain ⟨q,hq,hq2⟩:=l4 rb (gE hjb);have e0:bs.getD j (0,0)=bs[j]:=by rw [ah,gE hjb];rfl
  refine ⟨_,rfl,c,_,_,_,rfl,rfl,SqT.of c1,bc (j:=0) rfl,_,rfl,pb,_,_,_,rfl,rfl,SqT.of hpb,bc (j:=j) hq,?_⟩;refine ⟨_,rfl,q,_,_,_,rfl,rfl,SqT.of hq2,bc (j:=0) rfl,_,rfl,q,_,_,_,rfl,rfl,SqT.of hq2,bc (j:=1) rfl,_,_,rfl,rfl,_,rfl,?_⟩;show if decide (bs[j].1<bs[j].2)=true then _ else _;refine ite2 (fun hc=>?_) (fun hc=>?_)
  ·exact ⟨_,rfl,k2 j hjl (by rw [e0];exact pS hc)⟩
  ·refine ⟨rfl,fun z hz=>?_,_,_,rfl⟩
   rw [bh,hj] at hz
   rcases aG.mp hz with y | y
   ·exact hal z y
   ·rw [aw.mp (show z∈[j] from y),e0]
    exact fun w=>hc (pQ w)
 ·rintro σ H1 ⟨rfl,hal,v2,v3,rfl⟩
  rw [af,bo] at hal;exact k1 fun j hj=>hal j (h5.mem_iff.mpr hj)
theorem nM:cj ["self","case","span","at","bounds","one","other"] pzB (defScope sSidesC):=by trivial
theorem ok_sidesC (F:Fun K "sides" "Cuts.sides" sSidesC f fd)(CC:CutC K C)(G1:Fn K mg "with_bound" sWithB pzt f1 fd1):FnOk P w K mg base CX0 2 f fd pzB (spSidesC C):=by
 have F1:FnOk P w K mg base CX0 1 f1 fd1 pzt spWithB:=ok_withB G1.F;refine F.ok nM (by contradiction) (fun cdv A outer s H vs Q E hr h=>?_);obtain ⟨Hb,x,c,n,a,sp,l,rg,rs,bs,rfl,Sb,hx,hc,hn,lb,few,k⟩:=h;obtain ⟨dx,c0,tl,ol,ord,h1,h2,h3,h4,h5⟩:=hx.ex;obtain ⟨tv,t1,t2,t3⟩:=h3.ex;obtain ⟨u,ql,b1,b2,b3⟩:=t3 n (by lia);obtain ⟨vb,u0,rl,c1,c2,c3,c4⟩:=hc.ex;obtain ⟨pb,yb,rfl,hpb,hlb,rb⟩:=jR c2;obtain ⟨qn,hqn,hqn2⟩:=l4 rb (gE hn);have e0:bs.getD n (0,0)=bs[n]:=by rw [ah,gE hn];rfl
 have e1:o8 bs n a=bs.set n (bs[n].1,a):=by unfold o8;rw [e0]
 have e2:gX bs n a=bs.set n (a+1,bs[n].2):=by unfold gX;rw [e0]
 refine ⟨_,PSl.h (bg ⟨(psZ 4 nM.nd (ixZ (pv 1)))⟩
  (bg ⟨(psZ 5 nM.nd (pc1 G1 F1 hr (aq (pv 4) (aq (pv 2) (aq (ixZ (eN fu (pv 4) (pv 2) (fun _ _=>rfl))) (aq (pv 3) aP))))))⟩
  (bg ⟨(psZ 6 nM.nd (pc1 G1 F1 hr (aq (pv 4) (aq (pv 2) (aq (dU iA (pv 3) bR) (aq (ixZ (eN fu (pv 4) (pv 2) (fun _ _=>rfl))) aP))))))⟩
  (c9 ⟨(cM (jT (aq (fb (aq (pv 6) (aq (eN fc (pe_fld (pv 0) rfl) (pv 2) (fun _ _=>rfl)) aP))) (aq (fb (aq (pv 5) (aq (eN fc (pe_fld (pv 0) rfl) (pv 2) (fun _ _=>rfl)) aP))) aP))))⟩)))),?_⟩
 refine ⟨_,rfl,c,_,_,_,rfl,rfl,SqT.of c1,bc (j:=0) rfl,?_⟩;refine ⟨_,rfl,_,rfl,_,rfl,_,rfl,pb,_,_,_,rfl,rfl,SqT.of hpb,bc (j:=n) hqn,qn,_,_,_,rfl,rfl,SqT.of hqn2,bc (j:=0) rfl,_,rfl,.ref pb,n,bs[n].1,a,bs,rfl,c2,hn,few,fun u1 H1 S1 hu1=>?_⟩;refine ⟨_,rfl,_,rfl,_,rfl,_,_,rfl,rfl,_,rfl,_,rfl,pb,_,_,_,rfl,rfl,SqT.of (S1 _ _ hpb),bc (j:=n) hqn,qn,_,_,_,rfl,rfl,SqT.of (S1 _ _ hqn2),bc (j:=1) rfl,.ref pb,n,a+1,bs[n].2,bs,rfl,c2.same S1,hn,few,fun u2 H2 S2 hu2=>?_⟩;have S02:=S1.trans S2;have Sb2:=Sb.trans S02;refine ⟨_,rfl,_,rfl,x,C,dx,_,_,rfl,Sb2 _ _ h1,CC.cl,CC.n2,rfl,_,rfl,tl,_,_,_,rfl,rfl,SqL.of (Sb2 _ _ t1),bc b1,oY,fun q3 H3 S3 h3'=>?_⟩;refine ⟨_,rfl,_,rfl,x,C,dx,_,_,rfl,S3 _ _ (Sb2 _ _ h1),CC.cl,CC.n2,rfl,_,rfl,tl,_,_,_,rfl,rfl,SqL.of (S3 _ _ (Sb2 _ _ t1)),bc b1,oY,fun q4 H4 S4 h4'=>?_⟩;refine ⟨oY,fun L hL=>?_⟩;have S5:Same H4 (upd H4 L (.lst [.ref q3,.ref q4])):=Same.put (Same.refl H4) hL;have S25:=S3.trans (S4.trans S5);refine k L q3 q4 _ (S02.trans S25) (Same.free (S02.trans (S3.trans S4)) hL) aW ⟨u2,u,ql,S5 _ _ (S4 _ _ h3'),?_,b2,b3⟩ ⟨u1,u,ql,S5 _ _ h4',?_,b2,b3⟩
 ·rw [e2];exact hu2.same S25
 ·rw [e1];exact (hu1.same S2).same S25
abbrev sTabF:cG:=top 38
theorem CutD.move {x:ai}{rg:List (Nat×List Stp)}(a:CutD H C x sp l rg)(e:Kp H H')(hx:∀ o,H x=some o→H' x=some o):CutD H' C x sp l rg:=by
 obtain ⟨dx,c0,tl,ol,ord,h1,h2,h3,h4,h5⟩:=a.ex;exact ⟨dx,c0,tl,ol,ord,hx _ h1,h2.kp e,h3.kp e,e.lst _ _ h4,h5⟩
structure CutK (P:aQ)(w:bq)(K:au)(mg:Str→Option aa)(base:bw)(T0:ai)(p0:Pos)(q0:Str)(T1:ai)(p1:Pos)(q1:Str)(C fi g1 g2:ai)(di d1 d2:bf):Prop where
 cc:CutC K C
 mke:Mk K C fi
 gl:mg "Cuts" =some (.ref C)
 ini:FnOk P w K mg base CX0 9 fi di ["self","net"] (spInitC T0 p0 q0 T1 p1 q1 C)
 bi:Binds K di ["self","net"] []
 m1:Meth K C "span_to_cut" g1
 f1:FnOk P w K mg base CX0 1 g1 d1 ["self","case"] (spSpanC C)
 b1:Binds K d1 ["self","case"] []
 m2:Meth K C "sides" g2
 f2:FnOk P w K mg base CX0 2 g2 d2 pzB (spSidesC C)
 b2:Binds K d2 pzB []
theorem oi:cj ["net","most","cuts","steps","tables","ahead","case","span"] pzh (defScope sTabF):=by trivial
theorem ok_tabF {f4 f5 fi g1 g2:ai}{fd5 di d1 d2:bf}(F:Fun K "tables_that_fit" "tables_that_fit" sTabF f fd)(T:Nm mg)(ne:T0≠T1)(CK:CutK P w K mg base T0 p0 q0 T1 p1 q1 C fi g1 g2 di d1 d2)
  (G2:Fn K mg "spread_of" sSpread pza f2 fd2) (F2:FnOk P w K mg base CX0 7 f2 fd2 pza (spSpread T0 p0 q0))
  (G3:Fn K mg "dead_leaf" sDeadL pzs f3 fd3) (F3:FnOk P w K mg base CX0 4 f3 fd3 pzs spDeadL)
  (G4:Fn K mg "table_by" sTabBy pzz f4 fd4) (F4:FnOk P w K mg base CX0 2 f4 fd4 pzz spTabBy)
  (G5:Fn K mg "middle_of" sMid ["case","span"] f5 fd5):FnOk P w K mg base CX0 11 f fd pzh (spTabF T0 p0 q0 T1 p1 q1):=by
 have F5:FnOk P w K mg base CX0 1 f5 fd5 ["case","span"] spMid:=ok_mid G5.F;refine F.ok oi (by contradiction) (fun cdv A outer s H vs Q E hr h=>?_);obtain ⟨v,b,m,sp,most,rfl,hv,N,hmost,hcases,hT0,hT1,k⟩:=h;have hr1:Room 1 _:=hr.mono (by decide);have hr2:Room 2 _:=hr.mono (by decide);have hr4:Room 4 _:=hr.mono (by decide);have hr7:Room 7 _:=hr.mono (by decide);have E:=N.ends;have nfew:=N.few;have m1:=N.m1;have m2:=N.m2;have nb1:=N.b1;refine ⟨_,PSl.h (bg ⟨(psZ 2 oi.nd (pe_make CK.mke CK.ini hr rfl CK.gl CK.bi .nil pass0 (aq (pv 0) aP)))⟩
  (bg ⟨(psZ 3 oi.nd (pc1 G2 F2 hr7 (aq (pv 0) aP)))⟩
  (bg ⟨(psZ 4 oi.nd (jT aP))⟩
  (bg ⟨(psZ 5 oi.nd (jT (aq (pe_fld (pv 2) rfl) aP)))⟩
  (bg ⟨(ps_while bO (PW.pt (pw_and (dE op_gt (dO dk rfl T.len cO (aq (pv 5) aP)) bR (eO _)) (pw_and1 (dE op_lt (dO dk rfl T.len cO (aq (pv 4) aP)) (pv 1) (eO _))))) (PSl.h (bg ⟨(psZ 6 oi.nd (pe_bm0 bK PySem.F.slot_list_pop PySem.F.type_list_pop mt_pop (pv 5)))⟩
  (c9 ⟨(jB (dE op_isN (pc1 G3 F3 hr4 (aq (pv 0) (aq (pv 6) aP))) pe_non (eO _)) (PSl.h (bg ⟨(psZ 7 oi.nd (pe_meth (pv 2) CK.cc.cl CK.m1 CK.f1 hr1 CK.b1 .nil pass0 (aq (pv 6) aP)))⟩
  (c9 ⟨(jB (dE op_isN (pv 7) pe_non (eO _)) (dA (jS (oH bK cB cA iL (pv 4) (aq (pc1 G4 F4 hr2 (aq (pv 0) (aq (pv 3) (aq (ixZ (pv 6)) aP)))) aP)))) (dA (jS (oH bK PySem.F.slot_list_extend PySem.F.type_list_extend mt_extend (pv 5) (aq (pe_meth (pv 2) CK.cc.cl CK.m2 CK.f2 hr2 CK.b2 .nil pass0 (aq (pv 6) (aq (pv 7) (aq (pc1 G5 F5 hr1 (aq (pv 6) (aq (pv 7) aP))) aP)))) aP)))))⟩))) fF)⟩))))⟩
  (c9 ⟨(cM (pv 4))⟩)))))),?_⟩
 refine ⟨_,rfl,fun x dx hx hdx nxd=>?_⟩;have S0:Same H (upd (upd H dx (.own x)) x (.ins C dx [])):=by
  have Sa:Same H (upd H dx (.own x)):=Same.put (Same.refl H) hdx;exact Same.put Sa (by rw [aZ (cn nxd)];exact hx)
 have hx0:(upd (upd H dx (.own x)) x (.ins C dx [])) x=some (.ins C dx []):=aW;generalize upd (upd H dx (.own x)) x (.ins C dx [])=H0 at S0 hx0 ⊢;refine ⟨x,dx,v,b,m,sp,rfl,hx0,hv.same S0,N,LamT.same S0 hT0,LamT.same S0 hT1,fun l rg H1 st1 kp1 hT01 hT11 R cd1=>⟨rfl,?_⟩⟩;have f:=R.ff N;have fr:=R.fr;have lrg:rg.length≤40:=by
  have:rg.length=(restK sp l).length:=by rw [←R.ks,af]
  have h2:(restK sp l).length≤sp.length:=by unfold restK;exact aS (dG _ _) (by rw [ba];exact az _)
  lia
 have tl:l.length≤15:=by have:=fr.few E (by lia);lia
 have hlt:=f.acy.nodup.2;have st1':∀ a o,a≠T0→a≠T1→H a=some o→H1 a=some o:=fun a o n0 n1 e=>st1 a o n0 n1 (bB e hx) (S0 _ _ e)
 have kp1':Kp H H1:=(Same.kp S0).trans kp1;have hv1:=cw kp1'.tup hv;refine ⟨_,rfl,v,b,m,sp,rfl,hv1,N,hT01,fun Ls zsS l' S H2 tb2 hT02 fLs hLs dS fr' SO=>?_⟩;have el:l'=l:=FrstL.one fr' fr;subst el;have kp2:Kp H1 H2:=Tb.kp hT01 tb2;have hT12:=LamT.ntb hT11 hT01 (cn ne) tb2;have cd2:CutD H2 C x sp l' rg:=cd1.move kp2 fun o e=>tb2 x o (by
  obtain ⟨_,_,_,_,_,h1,_⟩:=cd1.ex;obtain ⟨ps,h⟩:=LamT.tbl hT01;exact eV h1 h nofun) e
 have st2:∀ a o,a≠T0→a≠T1→H a=some o→H2 a=some o:=fun a o n0 n1 e=>tb2 a o n0 (st1' a o n0 n1 e)
 have kp2':=kp1'.trans kp2;have hv2:=cw kp2.tup hv1;clear kp2 tb2 cd1 hT01 hT11 hv1 kp1' st1' kp1 st1 hv S0 fr' hx0;obtain ⟨dx',c0,tl',ol,ord,h1,h2,h3,h4,h5⟩:=cd2.ex;refine ⟨bE _,fun Lt hLt=>?_⟩;have S3:Same H2 (upd H2 Lt (.lst [])):=Same.put (Same.refl H2) hLt;have hLt3:(upd H2 Lt (.lst [])) Lt=some (.lst []):=aW;generalize upd H2 Lt (.lst [])=H3 at S3 hLt3 ⊢;refine ⟨_,rfl,x,C,dx',_,_,rfl,S3 _ _ h1,CK.cc.cl,CK.cc.n1,rfl,szZ1,fun Ah hAh=>?_⟩;have hAh2:H2 Ah=none:=Same.free S3 hAh;have nLA:Lt≠Ah:=fun z=>by rw [←z,hLt3] at hAh;cases hAh
 have S4:Same H3 (upd H3 Ah (.lst [.ref c0])):=Same.put (Same.refl H3) hAh;have hAh4:(upd H3 Ah (.lst [.ref c0])) Ah=some (.lst [.ref c0]):=aW;generalize upd H3 Ah (.lst [.ref c0])=H4 at S4 hAh4 ⊢;have S24:=S3.trans S4;have cl4:CsL H2 H4 [.ref c0] [(sp.map fun z=>(z.l,z.o),rg)]:=by
  obtain ⟨vb,u,rl,a1,a2,a3,a4⟩:=h2.ex;exact .cons ⟨c0,rfl,vb,u,rl,S24 _ _ a1,a2.same S24,a3,a4⟩ .nil
 have sz0:szC l' [(sp.map fun z=>(z.l,z.o),rg)]≤8191:=by
  have e:=l7 l' hlt fun y hy=>(N.all y hy).lo
  have:=hcases l' fr;show (2 * jC (sp.map fun z=>(z.l,z.o)) l' - 1)+0≤8191;lia
 refine ⟨fun n σ Hc=>∃ (cs:List Cse) (Ts:List (List Int)) (zs tv:List V) (w6 w7:Option V),n=szC l' cs∧n≤8191∧σ=[some v,some (.int (most:Nat)),some (.ref x),some (.ref Ls),some (.ref Lt),some (.ref Ah),w6,w7]∧Same H2 Hc∧Hc Ah=some (.lst zs)∧CsL H2 Hc zs cs∧Hc Lt=some (.lst tv)∧IsDs Hc tv (eU id Ts)∧SrcI b m sp l' rg cs Ts∧Ts.length≤most,⟨_,_,[],_,[],_,_,rfl,sz0,rfl,S24,hAh4,cl4,S4 _ _ hLt3,.nil,SrcI.start N lrg,bE _⟩,?_⟩;clear cl4 hAh4 S4 S24 hLt3 S3 hAh sz0;rintro n σ Hc ⟨cs,Ts,zs,tv,w6,w7,rfl,n8,rfl,Sc,hAc,clc,hLc,dtv,I,hTs⟩;have lzs:zs.length=cs.length:=Paired.len clc;have ltv:tv.length=Ts.length:=by rw [dtv.length];unfold eU;rw [af]
 have lcs:=szC_len hlt cs I.ok;have pF:jC (sp.map fun z=>(z.l,z.o)) l'≤4096:=by
  have e:=l7 l' hlt fun y hy=>(N.all y hy).lo
  have:=hcases l' fr;lia
 have fin:(Ts.length<most∨most=4096→cs=[])→Q (.ref Lt) Hc:=fun he=>k Lt tv l' rg Ts Hc (fun a o n0 n1 e=>Sc _ _ (st2 a o n0 n1 e)) (kp2'.trans (Same.kp Sc)) (LamT.same Sc hT02) (LamT.same Sc hT12) hLc dtv R I.tabs hTs fun lt T hT=>by
  rcases I.hold T hT with h | ⟨c,hc,_⟩
  ·exact h
  ·rw [he lt] at hc;cases hc
 refine ⟨_,rfl,Ah,_,rfl,.inl (SqL.of hAc),_,_,rfl,rfl,_,rfl,?_⟩
 rcases List.eq_nil_or_concat cs with rfl | ⟨cs',c,rfl⟩
 ·have:zs=[]:=iV.mp lzs
  subst this;refine iteC (by rfl) (iteF ⟨_,rfl,fin fun _=>rfl⟩)
 rw [List.concat_eq_append] at *;obtain ⟨zs',y,rfl,clc',q,rfl,ce⟩:=Paired.snoc_of clc;refine iteB (pQ (by rw [av];show ((zs'.length+1:Nat):Int) > 0;lia)) ?_;refine ⟨_,rfl,Lt,_,rfl,.inl (SqL.of hLc),_,rfl,_,_,rfl,rfl,_,rfl,?_⟩
 by_cases hlm:Ts.length<most
 rotate_left
 ·exact iteC (pR (by lia)) ⟨_,rfl,fin fun z=>pP z fun z=>by
   rcases z with z | z
   ·exact hlm z
   ·have h0:=I.cnt
    rw [oq] at h0;have h1:=kh (I.ok c (by simp)).ob hlt;have e1:psC l' [c]=jC c.1 l'+0:=rfl;lia⟩
 refine iteB (pQ (by lia)) ⟨_,fun σ' H' z=>z,?_⟩;refine ⟨_,rfl,.inl ⟨rfl,_,SqL.of hAc⟩,Ah,_,.ref q,rfl,rfl,hAc,by rw [av,br (by simp)];simp,?_⟩;rw [List.dropLast_concat];have K5:TupK Hc (upd Hc Ah (.lst zs')):=i6 hAc;have S5:Same H2 (upd Hc Ah (.lst zs')):=fun a o e=>by rw [aZ (bB e hAh2)];exact Sc _ _ e
 have hA5:(upd Hc Ah (.lst zs')) Ah=some (.lst zs'):=aW;have hL5:(upd Hc Ah (.lst zs')) Lt=some (.lst tv):=by rw [aZ nLA];exact hLc
 have cl5:=CsL.keep K5 (show CsL H2 Hc zs' cs' from clc');have ce5:=ce.keep K5;have dtv5:=eP K5 dtv;generalize upd Hc Ah (.lst zs')=H5 at K5 S5 hA5 hL5 cl5 ce5 dtv5 ⊢;have C:=I.ok c (by simp);have less:=I.less f;have lcs':cs'.length+1≤8191:=by rw [av] at lcs;show cs'.length+[c].length≤8191;lia
 have lz':zs'.length=cs'.length:=Paired.len cl5;clear clc clc' ce hAc hLc dtv K5 lzs fin;refine ⟨_,rfl,_,rfl,v,q,b,m,sp,c.1,c.2,rfl,hv2.same S5,by lia,by have:=N.b2;lia,ce5.dn S5,C.few,fun z hz=>by rw [C.ob.len];exact ((f.rk z (C.sub z hz)).rg N tl).inn,fun r H6 S6 hd=>⟨rfl,_,rfl,?_⟩⟩;have S26:=S5.trans S6;have hA6:=S6 _ _ hA5;have hL6:=S6 _ _ hL5;have ce6:=ce5.keep (Same.tupK S6);have cl6:=CsL.keep (Same.tupK S6) cl5;have dtv6:=dtv5.same S6;clear ce5 cl5 dtv5 hA5 hL5
 rcases hd with ⟨rfl,al⟩ | ⟨z,hz,dz,hdz⟩
 rotate_left
 ·have:r≠ .non:=fun e=>by rw [e] at dz;cases dz
  refine iteC (pR this) ?_;exact ⟨_,less,cs',Ts,zs',tv,_,_,rfl,by lia,rfl,S26,hA6,cl6,hL6,dtv6,I.dead N f hz hdz,hTs⟩
 refine iteB (pQ rfl) ?_;refine ⟨_,rfl,x,dx',_,rfl,S26 _ _ h1,rfl,_,rfl,x,q,sp,l',rg,c.2,c.1,rfl,cd2.same S26,ce6.dn S26,fun j hj=>by rw [C.ob.len];exact hlt j hj,by lia,fun fx=>?_,fun j hj hlj=>?_⟩
 ·refine ⟨_,rfl,rfl,_,rfl,iteB (pQ rfl) ?_⟩
  obtain ⟨vb,u,rl,a1,a2,a3,a4⟩:=ce6.ex;refine ⟨_,rfl,.inl ⟨rfl,_,SqL.of hL6⟩,_,rfl,_,rfl,_,rfl,q,_,_,_,rfl,rfl,SqT.of a1,bc (j:=0) rfl,v,vb,Ls,b,m,sp,c.1,zsS,S,rfl,hv2.same S26,by lia,by lia,m2,E,S26 _ _ hLs,dS.same S26,by have:=SO.len;lia,fun s' hs'=>⟨hlt _ (SO.inn s' hs').1,(SO.inn s' hs').2⟩,a2,C.ob.len,fun qt H7 S7 h7=>?_⟩;refine ⟨Lt,_,_,rfl,rfl,S7 _ _ hL6,bU (m:=4096) (by lia) (by decide),?_⟩;have K8:TupK H7 (upd H7 Lt (.lst (tv++[.ref qt]))):=i6 (S7 _ _ hL6);refine ⟨_,less,cs',Ts++[tabOf b sp c.1 m.toNat S],zs',tv++[.ref qt],_,_,rfl,by lia,rfl,fun a o e=>?_,?_,CsL.keep K8 (CsL.keep (Same.tupK S7) cl6),aW,?_,I.leaf N f SO al fx,by rw [av];exact hlm⟩
  ·rw [aZ (bB e hLt)];exact S7 _ _ (S26 _ _ e)
  ·rw [aZ (cn nLA)];exact S7 _ _ hA6
  ·refine eP K8 ?_
   unfold eU;rw [aM];exact (dtv6.same S7).append (.cons (.tup h7 (IsDs.ints _)) .nil)
 ·refine ⟨_,rfl,rfl,_,rfl,iteC (pR nofun) ?_⟩
  have hjb:j<c.1.length:=by rw [C.ob.len];exact hlt j hj
  refine ⟨_,rfl,.inl ⟨rfl,_,SqL.of hA6⟩,_,rfl,x,dx',_,rfl,S26 _ _ h1,rfl,_,rfl,_,rfl,_,rfl,_,rfl,q,j,c.1,c.2,rfl,ce6.dn S26,hjb,?_⟩;obtain ⟨a,ha⟩:∃ a,a=((c.1.getD j (0,0)).1+(c.1.getD j (0,0)).2) / 2:=⟨_,rfl⟩;rw [←ha];refine ⟨H2,x,q,j,a,sp,l',rg,c.2,c.1,rfl,S26,cd2,ce6.dn S26,hjb,C.ob.len,by rw [C.ob.len];exact nfew,fun L q1 q2 H7 S7 fL hL e1 e2=>?_⟩;have nLA2:L≠Ah:=fun z=>by rw [z,hA6] at fL;cases fL
  refine ⟨Ah,L,_,_,rfl,rfl,S7 _ _ hA6,hL,aS (m:=10000) (by show zs'.length+2≤10000;lia) (by decide),?_⟩;have K8:TupK H7 (upd H7 Ah (.lst (zs'++[.ref q1,.ref q2]))):=i6 (S7 _ _ hA6);obtain ⟨I',less'⟩:=I.cut N f lrg al hj (a:=a) (by lia) (by lia);refine ⟨_,less',_,Ts,_,tv,_,_,rfl,by lia,rfl,fun a o e=>?_,aW,?_,?_,eP K8 (dtv6.same S7),I',hTs⟩
  ·rw [aZ (bB e hAh2)];exact S7 _ _ (S26 _ _ e)
  ·exact Paired.app (CsL.keep K8 (CsL.keep (Same.tupK S7) cl6)) (.cons ⟨q1,rfl,e1.keep K8⟩ (.cons ⟨q2,rfl,e2.keep K8⟩ .nil))
  ·rw [aZ nLA];exact S7 _ _ hL6
abbrev sCases:cG:=top 24
theorem IsFor.nats (a:IsFor m sp ns):∃ (l π:List Nat),ns=l.map (fun (i:Nat)=>(i:Int))∧Ordd sp π∧l.Perm (kd sp m π).2:=by
 obtain ⟨π,o,p,_⟩:=a;have nn:∀ x∈ns,0≤x:=fun x hx=>by
  obtain ⟨i,_,rfl⟩:=bt.mp (p.mem_iff.mp hx);lia
 refine ⟨ns.map Int.toNat,π,?_,o,?_⟩
 ·rw [cU]
  conv=>lhs;rw [←List.map_id ns]
  exact fY fun x hx=>(d7 (nn x hx)).symm
 ·have q:=p.map Int.toNat
  rw [cU] at q;have e:((kd sp m π).2.map (Int.toNat ∘ fun (i:Nat)=>(i:Int)))=(kd sp m π).2:=by
   conv=>rhs;rw [←List.map_id (kd sp m π).2]
   exact fY fun x _=>rfl
  rw [e] at q;exact q
theorem gone_few (E:j8 m sp)(h:∀ i∈π,i<sp.length):(kd sp m π).2.length≤m:=by
 obtain ⟨D,_,_,l⟩:=nR E π (iI m) [] (g9 m) h (Cnt.start m);have l:D.length+(kd sp m π).2.length=m:=l;lia
theorem gone_lt (h:∀ i∈π,i<sp.length):∀ i∈(kd sp m π).2,i<sp.length:=fun i hi=>by
 rcases (jQ sp π (iI m,[])).1 i hi with z | z
 ·cases z
 ·exact h i z
def WOk (sp:List Sn):Prop:=∀ x∈sp,0≤x.o - x.l∧x.o - x.l+1≤10 ^ 61
theorem NetT.wok {m:Int}(N:NetT b m sp)(h:b≤10 ^ 61):WOk sp:=fun x hx=>by
 have s:=N.all x hx;have:=s.lo;have:=s.ob;lia
theorem prodW_abs {sp:List Sn}(w:WOk sp):∀ {l:List Nat},(∀ i∈l,i<sp.length)→(jg sp l).natAbs≤(10 ^ 61) ^ l.length
 | [],_=>by show 1≤(10 ^ 61) ^ 0;decide
 | i::l,h=>by
  rw [fG,Int.natAbs_mul,aY,Nat.pow_succ,Nat.mul_comm ((10 ^ 61) ^ l.length)];refine Nat.mul_le_mul ?_ (prodW_abs w fun j hj=>h j (aD _ hj));have:=w _ (eM (h i aX));show ((sAt sp i).o - (sAt sp i).l+1).natAbs≤_;lia
theorem pow_33 {k:Nat}(h:n≤(10 ^ 61) ^ k)(hk:k≤16):n<10 ^ 1000:=by
 refine bU h ?_;rw [←Nat.pow_mul];exact Nat.pow_lt_pow_right (by decide) (by lia)
inductive spCases (T:ai)(lp:Pos)(lq:Str)(vs:List V)(H:Hp)(Q:VK)(_:XK):Prop
 | mk (v b m sp:_)(_:vs=[v])(_:IsD H v (kN b m sp))(_:NetT b m sp)(_:b≤10 ^ 61)(_:L2.LamT T lp lq H)(_:∀ H' (l:List Nat),L2.Tb T H H'→L2.LamT T lp lq H'→FrstL m.toNat sp l→Q (.int (jg sp l)) H')
theorem scCases:cj ["net","cases","span"] pza (defScope sCases):=by trivial
theorem ok_cases (F:Fun K "cases_of" "cases_of" sCases f fd)(G1:Fn K mg "forest_of" kW pza f1 fd1)(F1:FnOk P w K mg base CX0 6 f1 fd1 pza (kB Tb0 lp lq))(G2:Fn K mg "width_of" sWidth pzd f2 fd2) :
  FnOk P w K mg base CX0 7 f fd pza (spCases Tb0 lp lq):=by
 have F2:FnOk P w K mg base CX0 1 f2 fd2 pzd spWidth:=ok_width G2.F;refine F.ok scCases (by contradiction) (fun cdv A outer s H vs Q E hr h=>?_);obtain ⟨v,b,m,sp,rfl,hv,N,b33,hT,k⟩:=h;have hr1:Room 1 _:=hr.mono (by decide);have E:=N.ends;have m2:=N.m2;have m1:=N.m1;have wk:=N.wok b33;refine ⟨_,PSl.h (bg ⟨(psZ 1 scCases.nd bR)⟩
  (bg ⟨(iW bO rfl (oE (pc1 G1 F1 hr (aq (pv 0) aP))) (pgZ 2 scCases.nd) (dA (ps_aug (i:=1) scCases.nd rfl (.inl rfl) (dU iA (pc1 G2 F2 hr1 (aq (pv 0) (aq (pv 2) aP))) bR) ip_mulG)))⟩
  (c9 ⟨(cM (pv 1))⟩))),?_⟩
 refine ⟨_,rfl,v,b,m,sp,rfl,hv,N,hT,fun u H1 ns tb hT1 hu F0=>?_⟩;obtain ⟨l,π,rfl,O,pm⟩:=F0.nats;have hp:∀ i∈π,i<sp.length:=fun i hi=>O.lt hi
 have hlt:∀ i∈l,i<sp.length:=fun i hi=>gone_lt hp i (pm.mem_iff.mp hi)
 have few:l.length≤16:=by have:=gone_few E hp;rw [pm.length_eq];lia
 have hv1:=cw (Tb.tupK (LamT.tbl hT) tb) hv;rw [cU] at hu;refine ⟨u,rfl,⟨_,SqT.of hu⟩,?_⟩;refine for_tup (K:=K) (a:=u) (xs:=l.map (V.int ∘ fun (i:Nat)=>(i:Int))) (fun i σ HA=>HA=H1∧∃ v2,σ=[some v,some (.int (jg sp (l.take i))),v2]) ⟨rfl,none,rfl⟩ (fun i σ HA _ ⟨e,_⟩=>by rw [e];exact SqT.of hu) ?_ ?_
 ·rintro i x σ HA hx ⟨rfl,v2,rfl⟩
  rw [ax] at hx;obtain ⟨j,hj,rfl⟩:=aI.mp hx;have hjl:=aO hj;have hjn:=hlt j hjl;have w0:=wk _ (eM hjn);refine ⟨_,rfl,_,rfl,_,rfl,v,b,m,sp,j,sAt sp j,rfl,hv1,ju hjn,_,_,rfl,rfl,?_⟩;refine ⟨_,_,rfl,rfl,⟨?_,?_⟩,rfl,some (.int j),?_⟩
  ·exact pow_33 (prodW_abs wk (l:=l.take i) fun k hk=>hlt k (jM hk)) (by rw [bI];lia)
  ·exact pow_33 (k:=1) (by rw [Nat.pow_one];lia) (by decide)
  ·rw [bh,hj]
   show _=[some v,some (.int (jg sp (l.take i++[j]))),_];rw [prodW_snoc];rfl
 ·rintro σ HA ⟨rfl,v2,rfl⟩
  rw [af,bo];exact ⟨_,rfl,k HA l tb hT1 ⟨F0,π,O,pm⟩⟩
abbrev kF:cG:=top 41
abbrev lpT:Pos:=⟨0,0,0,0⟩
abbrev lqT:Str := "t"
inductive mF (T0:ai)(p0:Pos)(q0:Str)(T1:ai)(p1:Pos)(q1:Str)(T2:ai)(vs:List V)(H:Hp)(Q:VK)(_:XK):Prop
 | mk (v:V)(b m:Int)(sp:List Sn)(_:vs=[v])(_:IsD H v (kN b m sp))(_:NetT b m sp)(_:(∀ l,FrstL m.toNat sp l→jg sp l≤4096))(_:(∃ T,kT b T sp=true))(_:L2.LamT T0 p0 q0 H)(_:L2.LamT T1 p1 q1 H)(_:L2.LamT T2 lpT lqT H)(_:∀ (q:ai) (H':Hp),(∀ a o,a≠T0→a≠T1→a≠T2→H a=some o→H' a=some o)→Kp H H'→L2.LamT T0 p0 q0 H'→L2.LamT T1 p1 q1 H'→L2.LamT T2 lpT lqT H'→(∃ (qt:ai) (t:List Int),H' q=some (.tup [.str "table",.ref qt])∧H' qt=some (.tup (t.map V.int))∧oX b m sp t)→Q (.ref q) H')
theorem jv:PS X st (fun _ _ _=>False):=fun _ _ _ _ _ _ h=>h.elim
theorem mH:cj ["net","many","tables"] pza (defScope kF):=by trivial
theorem ok_tabForN {T2:ai}(F:Fun K "table_for" "table_for" kF f fd)(T:Nm mg)(MC:∃ t,mg "MOST_CASES" =some (.int 4096 t))(ne:T0≠T1)(n2:T2≠T0)(n3:T2≠T1)
  (G1:Fn K mg "cases_of" sCases pza f1 fd1) (F1:FnOk P w K mg base CX0 7 f1 fd1 pza (spCases T0 p0 q0))
  (G2:Fn K mg "tables_that_fit" sTabF pzh f2 fd2) (F2:FnOk P w K mg base CX0 11 f2 fd2 pzh (spTabF T0 p0 q0 T1 p1 q1)):FnOk P w K mg base CX0 12 f fd pza (mF T0 p0 q0 T1 p1 q1 T2):=by
 refine F.ok mH (by contradiction) (fun cdv A outer s H vs Q E hr h=>?_);obtain ⟨v,b,m,sp,rfl,hv,N,hc,⟨T',hT'⟩,hT0,hT1,hT2,k⟩:=h;have hr7:Room 7 _:=hr.mono (by decide);refine ⟨_,PSl.h (bg ⟨(psZ 1 mH.nd (pc1 G1 F1 hr7 (aq (pv 0) aP)))⟩
  (bg ⟨(jB (dE op_gt (pv 1) (oG MC) (eO _)) (dA jv) fF)⟩
  (bg ⟨(psZ 2 mH.nd (pc1 G2 F2 hr (aq (pv 0) (aq bR aP))))⟩
  (bg ⟨(jB (dE op_gt (dO dk rfl T.len cO (aq (pv 2) aP)) bR (eO _)) (dA (cM (fb (aq nA (aq (eN fc (pv 2) bR (fun _ _=>rfl)) aP))))) fF)⟩
  (c9 ⟨jv⟩))))),?_⟩
 refine ⟨_,rfl,v,b,m,sp,rfl,hv,N,by have:=N.b2;lia,hT0,fun H1 l tb1 hT01 fr=>?_⟩;have kp1:=Tb.kp hT0 tb1;have hT11:=LamT.ntb hT1 hT0 (cn ne) tb1;have c:=hc l fr;refine ⟨_,rfl,_,_,rfl,rfl,_,rfl,iteC (pR (by lia)) ?_⟩;refine ⟨_,rfl,v,b,m,sp,1,rfl,cw kp1.tup hv,N,by decide,hc,hT01,hT11,fun L tv l' rg Ts H2 st2 kp2 hT02 hT12 hL dL R tabs few hold=>?_⟩;have ltv:tv.length=Ts.length:=by rw [dL.length];unfold eU;rw [af]
 refine ⟨_,rfl,L,_,rfl,.inl (SqL.of hL),_,_,rfl,rfl,_,rfl,?_⟩;cases Ts with
 | nil =>
  obtain ⟨t,ht,_⟩:=hold (by decide) T' hT';cases ht
 | cons t Ts =>
  refine iteB (pQ (by rw [ltv,aY];show ((Ts.length+1:Nat):Int) > 0;lia)) ?_;cases dL with
  | cons d0 ds =>
   rename_i y ys;obtain ⟨qt,qs,rfl,hq,rq⟩:=IsD.tup_of d0;have eq:=rq.ints_of;subst eq;refine ⟨_,rfl,L,_,_,_,rfl,rfl,SqL.of hL,bc (j:=0) rfl,oY,fun q H3 S3 h3=>?_⟩;have st:∀ a o,a≠T0→a≠T1→H a=some o→H3 a=some o:=fun a o e0 e1 e=>S3 _ _ (st2 _ _ e0 e1 (tb1 _ _ e0 e))
   obtain ⟨ps0,et0⟩:=LamT.tbl hT0;obtain ⟨ps1,et1⟩:=LamT.tbl hT1;exact k q H3 (fun a o e0 e1 _ e=>st a o e0 e1 e) (kp1.trans (kp2.trans (Same.kp S3))) (LamT.same S3 hT02) (LamT.same S3 hT12) (fh hT2 (fun ps e=>st _ _ n2 n3 e) fun a o u e=>st _ _ (eV e et0 nofun) (eV e et1 nofun) e) ⟨qt,t,h3,S3 _ _ hq,tabs t (by simp)⟩
end HN
namespace L2
open PySem PySem.Spec PyProof.Rows
theorem ObjOk.seat (x:ObjOk P w H h a o):∃ u,h.get? a=some u:=by
 cases o with
 | lst xs=>obtain ⟨_,_,_,_,e⟩:=x;exact ⟨_,e⟩
 | tup xs=>obtain ⟨_,_,_,u,e,_⟩:=x;exact ⟨u,e⟩
 | dK kvs=>obtain ⟨_,_,_,_,u,_,_,e,_⟩:=x;exact ⟨u,e⟩
 | dT kvs=>obtain ⟨_,_,_,_,u,_,_,e,_⟩:=x;exact ⟨u,e⟩
 | set S n=>obtain ⟨u,_,_,_,e,_⟩:=x;exact ⟨u,e⟩
 | ins C dx fs=>obtain ⟨_,_,_,e,_⟩:=x;exact ⟨_,e⟩
 | own y=>exact x
 | xd fs=>obtain ⟨_,⟨u,_,_,e,_⟩,_⟩:=x;exact ⟨u,e⟩
 | rng lo hi=>obtain ⟨_,_,_,e⟩:=x;exact ⟨_,e⟩
 | frz ob u=>exact ⟨_,x.1⟩
 | tbl ps=>exact ⟨_,(show h.get? a=some _ from x)⟩
 | met f y=>exact ⟨_,(show h.get? a=some _ from x)⟩
 | ext φ=>exact x.2.1
structure mR (B:bw)(l:List Env)(x:ai)(cls:aa)(dct:Option ai)(h:bw):Prop where
 st:B.StaysIn h
 no:B.get? x=none
 fr:h.FunFrames B l
 tr:∃ a0 fl,h.TracedAtW B x cls a0 fl
 dc:∃ o,h.get? x=some o∧o.dict=dct
theorem lU (f:Array aa→Array aa)(o:Obj):(fN f o).dict=o.dict:=by
 obtain ⟨a,b,c,d⟩:=o;cases c <;> rfl
section
variable {l:List Env}{x:ai}{cls:aa}
theorem entry_any {us:Array aa}{top z0:aa}{nx:Bool}{Q:Unit→ao→Prop}(hfr:A.frames=some (env::outer))(fr:s.heap.FunFrames B (env::outer))(hf:env.frame=some L)(e1:s.heap.get? x=some ox)(st:B.StaysIn s.heap)(no:B.get? x=none)
  (ed:ox.data= .fields us) (big:1<us.size) (e0:us[0]? =some z0) (q:∀ g,mR B (env::outer) x ox.cls ox.dict g→s.heap.UpToSlots g→Q () { s with heap:=g }) :
  aH M A (do let a ← frameOf env;let pl ← entryPlaceOf L nx;let b ← EntryCells.newEntry top a .none (fg L) .none pl;setField (.ref x) 1 b) Q E s:=by
 have away:x ∉ (env::outer).filterMap (·.frame):=by
  intro z;obtain ⟨_,o,p,r⟩:=fr.mem z;rw [e1] at p;cases p;exact r us ed
 refine ae (wpAny_frameOf_fun hfr fr hf fun h1 k1=>ae (wpAny_entryPlaceOf fun pl isp=>?_));unfold EntryCells.newEntry newFields;refine ae (cY ?_ (isp.sizeOk5 _ _ _ _ _));have x1:h1.get? x=some ox:=(k1.2.1 x away).trans e1;have st1:B.StaysIn h1:=fun b o p=>(k1.2.1 b fun z=>by rw [(fr.mem z).1] at p;cases p).trans (st b o p)
 generalize hT:({ cls:= .type "traceback",dict:=none,data:= .fields ([top,.ref L,.none,fg L,.none]++(if pl.isEmpty then bF 6 aa.none else pl)).toArray }:Obj)=T;have dT:T.data= .fields ([top,.ref L,.none,fg L,.none]++(if pl.isEmpty then bF 6 aa.none else pl)).toArray:=by rw [←hT]
 have x2:=ak (h:=h1) T x1;have far:h1.objs.size≠x:=bZ (aC x1);have d3:=fj ed (·.setIfInBounds 1 (aa.ref h1.objs.size));have x3:=d9 (fN (·.setIfInBounds 1 (aa.ref h1.objs.size))) x2 (jw d3);have t3:=(cy (h1.push T) (fN (·.setIfInBounds 1 (aa.ref h1.objs.size))) far.symm).trans (aN h1 (by rw [←hT];rfl));have stay:∀ b o,b≠x→h1.get? b=some o→((h1.push T).update x (fN (·.setIfInBounds 1 (aa.ref h1.objs.size)))).get? b=some o:=fun b o n p=>by
  rw [cy _ _ n.symm];exact ak _ p
 have notx:∀ b o,s.heap.get? b=some o→(∀ vs,o.data≠ .fields vs)→b≠x:=fun b o p r z=>by
  rw [z,e1] at p;cases p;exact r us ed
 refine jz x2 ed big (q _ ⟨fun b o p=>stay b o (fun z=>by rw [z,no] at p;cases p) (st1 b o p),no,fr.of_keeps fun b o p r=>?_,⟨z0,fg L,?_⟩,⟨_,x3,lU _ _⟩⟩ fun b o p r=>?_)
 ·obtain ⟨sl,p2⟩:=k1.2.2 b o p
  exact ⟨_,stay b _ (notx b o p r) p2,rfl⟩
 ·exact ⟨_,_,h1.objs.size,T,_,x3,⟨Obj.cls_mapFields _ _,by rw [Array.getElem?_setIfInBounds_ne (by decide)];exact e0⟩,d3,by simp [big],st1.fresh,far,t3,dT,by first | (simp;done) | (rcases isp with rfl | ⟨_,_,_,_,_,_,_,rfl⟩ <;> simp)⟩
 ·obtain ⟨sl,p2⟩:=k1.2.2 b o p
  exact ⟨sl,stay b _ (notx b o p r) p2⟩
theorem note_any {Q:Unit→ao→Prop}(hfr:A.frames=some (env::outer))(hf:env.frame=some L)(a:mR B (env::outer) x cls dct s.heap)
  (q:∀ g,mR B (env::outer) x cls dct g→s.heap.UpToSlots g→Q () { s with heap:=g }):aH M A (noteFrame (.ref x) env) Q E s:=by
 obtain ⟨a0,fl,ht⟩:=a.tr
 by_cases hfl:fl=fg L
 ·subst hfl
  exact wpAny_noteFrame_againW hf ht (q s.heap a (bw.UpToSlots.refl _))
 ·obtain ⟨ox,vx,T,ot,vt,e1,⟨ec,e0⟩,e2,e3,n1,n2,e4,e5,e6⟩:=ht
  subst ec;obtain ⟨ox',e1',ed⟩:=a.dc;rw [e1] at e1';cases e1';subst ed;unfold noteFrame;simp only [hf];refine ae (bX e1 e2 e3 ?_);rw [pO (by simp:(aa.ref T != aa.none)=true)];refine ae (bX e4 e5 e6 ?_);rw [pN (by intro z;exact hfl (eq_of_beq z))];refine ae (jz e4 e5 (dY.mp e6).1 ?_);have away:∀ b,b≠T→(s.heap.update T (fN (·.setIfInBounds 3 aa.none))).get? b=s.heap.get? b:=fun b hb=>cy _ _ hb.symm
  have apart:∀ b o,s.heap.get? b=some o→(∀ vs,o.data≠ .fields vs)→b≠T:=fun b o hb hn z=>by
   rw [z,e4] at hb;cases hb;exact hn vt e5
  refine entry_any (s:={ s with heap:=s.heap.update T (fN (·.setIfInBounds 3 aa.none)) }) hfr (a.fr.of_keeps fun b o hb hn=>⟨o,(away b (apart b o hb hn)).trans hb,rfl⟩) hf ((away x n2.symm).trans e1) (fun b o hb=>(away b fun z=>by rw [z,n1] at hb;cases hb).trans (a.st b o hb)) a.no e2 (dY.mp e3).1 e0 fun g hg u=>?_
  exact q g hg fun b o hb hn=>u b o ((away b (apart b o hb hn)).trans hb) hn
theorem set_any {fr:Option ai}{Q:Unit→ao→Prop}(a:mR B l x cls dct s.heap)(q:∀ g,mR B l x cls dct g→s.heap.UpToSlots g→Q () { s with heap:=g }):aH M A (setFlight (.ref x) fr) Q E s:=by
 obtain ⟨a0,fl,ht⟩:=a.tr;obtain ⟨ox,vx,T,ot,vt,e1,ec,e2,e3,n1,n2,e4,e5,e6⟩:=ht;have s3:3<vt.size:=(dY.mp e6).1;have away:∀ b,b≠T→(s.heap.update T (fN (·.setIfInBounds 3 (fr.elim aa.none fun f=>fg f)))).get? b=s.heap.get? b:=fun b hb=>cy _ _ hb.symm
 have apart:∀ b o,s.heap.get? b=some o→(∀ vs,o.data≠ .fields vs)→b≠T:=fun b o hb hn z=>by
  rw [z,e4] at hb;cases hb;exact hn vt e5
 unfold setFlight;refine ae (bX e1 e2 e3 ?_);rw [pO (by simp:(aa.ref T != aa.none)=true)];refine jz e4 e5 s3 (q _ ⟨fun b o hb=>(away b fun z=>by rw [z,n1] at hb;cases hb).trans (a.st b o hb),a.no,a.fr.of_keeps fun b o hb hn=>⟨o,(away b (apart b o hb hn)).trans hb,rfl⟩,⟨a0,fr.elim aa.none fun f=>fg f,?_⟩,?_⟩ fun b o hb hn=>⟨o.slots,(away b (apart b o hb hn)).trans hb⟩)
 ·exact ⟨ox,vx,T,_,_,(away x n2.symm).trans e1,ec,e2,e3,n1,n2,d9 _ e4 (jw (fj e5 _)),fj e5 _,by simp [s3]⟩
 ·obtain ⟨o,p,r⟩:=a.dc
  exact ⟨o,(away x n2.symm).trans p,r⟩
theorem leave_any {Q:Unit→ao→Prop}(hfr:A.frames=some (env::outer))(hf:env.frame=some L)(a:mR B (env::outer) x cls dct s.heap)(q:∀ g,mR B outer x cls dct g→s.heap.UpToSlots g→Q () { s with heap:=g }) :
  aH M A (leaving env (.ref x)) Q E s:=by
 unfold leaving;refine ae (note_any hfr hf a fun g hg u=>?_);refine set_any (s:={ s with heap:=g }) hg fun g2 a2 u2=>?_
 exact q g2 ⟨a2.st,a2.no,a2.fr.2.2,a2.tr,a2.dc⟩ (u.trans u2)
theorem first_any {us:Array aa}{z0:aa}{Q:Unit→ao→Prop}(hfr:A.frames=some (env::outer))(fr:s.heap.FunFrames B (env::outer))(hf:env.frame=some L)(e1:s.heap.get? x=some ox)(st:B.StaysIn s.heap)(no:B.get? x=none)
  (ed:ox.data= .fields us) (en:us[1]? =some .none) (e0:us[0]? =some z0) (q:∀ g,mR B outer x ox.cls ox.dict g→s.heap.UpToSlots g→Q () { s with heap:=g }):aH M A (leaving env (.ref x)) Q E s:=by
 unfold leaving noteFrame;simp only [hf];refine ae (ae (bX e1 ed en ?_));rw [pN (by decide)];refine entry_any hfr fr hf e1 st no ed (dY.mp en).1 e0 fun g hg u=>?_
 refine set_any (s:={ s with heap:=g }) hg fun g2 a2 u2=>?_
 exact q g2 ⟨a2.st,a2.no,a2.fr.2.2,a2.tr,a2.dc⟩ (u.trans u2)
end
structure Air (P:aQ)(w:bq)(fs ex:List ai)(H0:Hp)(h0 B:bw)(H':Hp)(h:bw):Prop where
 hok:HOk P w H' B
 keep:∀ b o,h0.get? b=some o→H0 b=none→b ∉ fs→b ∉ ex→B.get? b=some o
 there:∀ b o,h0.get? b=some o→b ∉ fs→b ∉ ex→∃ o',B.get? b=some o'
 free:∀ b o,h0.get? b=some o→H0 b=none→b ∉ ex→H' b=none
 tups:∀ b xs,H0 b=some (.tup xs)→H' b=some (.tup xs)
 frzs:∀ b o u,H0 b=some (.frz o u)→H' b=some (.frz o u)
 tbls:∀ b ps,H0 b=some (.tbl ps)→∃ more,H' b=some (.tbl (ps++more))
 slot:∀ b o,h0.get? b=some o→H0 b=none→b∈fs→b ∉ ex→∃ sl,h.get? b=some { o with slots:=sl }
section
variable {fs:List ai}{h0 h2:bw}
theorem Air.un (a:Air P w fs ex H0 h0 B H' h)(st:B.StaysIn h)(frf:∀ b∈fs,H0 b=none):Un fs ex H0 H' h0 h where
 keep:=fun b o e n hb hx=>st b o (a.keep b o e n hb hx)
 slot:=fun b o e n hb hx=>a.slot b o e n hb hx
 free:=fun b o e n hx=>a.free b o e n hx
 there:=fun b o e hx=>by
  by_cases hb:b∈fs
  ·obtain ⟨sl,q⟩:=a.slot b o e (frf b hb) hb hx
   exact ⟨_,q⟩
  ·obtain ⟨o',q⟩:=a.there b o e hb hx
   exact ⟨o',st b o' q⟩
 tups:=a.tups
 frzs:=a.frzs
 tbls:=a.tbls
theorem Air.up {l:List Env}{B':bw}(a:Air P w (frs l) ex H0 h0 B H' h)(fr:h.FunFrames B' l)(u:h.UpToSlots h2):Air P w (frs l) ex H0 h0 B H' h2 :=
 ⟨a.hok,a.keep,a.there,a.free,a.tups,a.frzs,a.tbls,fun b o e n hb hx=>by
  obtain ⟨sl,q⟩:=a.slot b o e n hb hx;obtain ⟨_,o2,q2,hn⟩:=fr.mem hb;rw [q] at q2;cases q2;obtain ⟨sl2,q3⟩:=u b _ q hn;exact ⟨sl2,q3⟩⟩
theorem Air.after {fs' ex':List ai}{h1:bw}(u:Un fs' ex' H0 H1 h0 h1)(a:Air P w fs ex H1 h1 B H' h)(hf:∀ b o,h0.get? b=some o→b ∉ fs'→b ∉ fs)(hi:∀ b o,h0.get? b=some o→b∈fs'→b∈fs)(hx:∀ b o,h0.get? b=some o→b ∉ ex'→b ∉ ex):Air P w fs' ex' H0 h0 B H' h:=by
 refine ⟨a.hok,fun b o e n hb hxx=>?_,fun b o e hb hxx=>?_,fun b o e n hxx=>?_,fun b xs e=>a.tups b xs (u.tups b xs e),fun b o u' e=>a.frzs b o u' (u.frzs b o u' e),fun b ps e=>?_,fun b o e n hb hxx=>?_⟩
 ·exact a.keep b o (u.keep b o e n hb hxx) (u.free b o e n hxx) (hf b o e hb) (hx b o e hxx)
 ·obtain ⟨o',e'⟩:=u.there b o e hxx
  exact a.there b o' e' (hf b o e hb) (hx b o e hxx)
 ·obtain ⟨o',e'⟩:=u.there b o e hxx
  exact a.free b o' e' (u.free b o e n hxx) (hx b o e hxx)
 ·obtain ⟨m1,e1⟩:=u.tbls b ps e
  obtain ⟨m2,e2⟩:=a.tbls b _ e1;exact ⟨m1++m2,by rw [e2,Array.append_assoc]⟩
 ·obtain ⟨sl,e1⟩:=u.slot b o e n hb hxx
  obtain ⟨sl2,e2⟩:=a.slot b _ e1 (u.free b o e n hxx) (hi b o e hb) (hx b o e hxx);exact ⟨sl2,e2⟩
end
def CXE (P:aQ)(w:bq)(ex:List ai):CXT:=fun outer H s E e s'=>∃ (x:ai) (cls:aa) (dct:Option ai) (B:bw) (H':Hp),e= .ref x∧s'.os=s.os∧AllBare s'.gens∧mR B outer x cls dct s'.heap∧Air P w (frs outer) ex H s.heap B H' s'.heap∧E cls dct H'
abbrev CXN (P:aQ)(w:bq):CXT:=CXE P w []
theorem Inv.air1 {x:ai}(I:Inv X aJ σ H s)(nx:H x=none):∃ B:bw,B.StaysIn s.heap∧s.heap.FunFrames B X.stack∧B.get? x=none∧Air X.prog X.w (frs X.stack) [x] H s.heap B H s.heap:=by
 have hb:∀ b o,s.heap.get? b=some o→b ∉ frs X.stack→b≠x→(PySem.W.hideAll s.heap (x::frs X.stack)).get? b=some o:=fun b o e n nb=>PySem.W.hideAll_get _ e (by simp [nb,n])
 refine ⟨PySem.W.hideAll s.heap (x::frs X.stack),fun b o e=>PySem.W.of_hideAll _ e,PySem.W.funFrames_hide I.stack fun env he b hf=>aD _ (List.mem_filterMap.mpr ⟨env,he,hf⟩),PySem.W.hideAll_none _ (aX ..),?_⟩;refine ⟨fun a o e=>(I.hok a o e).stay (fun b u hbu q=>hb b u q (fun hm=>?_) fun z=>?_) (fun _ q=>q) fun _ _ q=>q,fun b o e _ n nx'=>hb b o e n (by simpa using nx'),fun b o e n nx'=>⟨o,hb b o e n (by simpa using nx')⟩,fun _ _ _ n _=>n,fun _ _ e=>e,fun _ _ _ e=>e,fun b ps e=>⟨#[],by simpa using e⟩,fun b o e _ _ _=>⟨o.slots,e⟩⟩
 ·have z:=I.stkFree b hm
  rcases hbu with rfl | hbu
  ·rw [e] at z;cases z
  ·rw [hbu] at z;cases z
 ·subst z
  rcases hbu with rfl | hbu
  ·rw [e] at nx;cases nx
  ·rw [hbu] at nx;cases nx
theorem Air.out (I:Inv X aJ σ H s)(a:Air X.prog X.w (frs X.stack) ex H s.heap B H' h)(hex:X.ex=[])(hst:X.stack=X.env::X.outer)(hfr:X.env.frame=some X.env.locals)(hx:∀ b∈ex,X.s₀.heap.get? b=none) :
  Air X.prog X.w (frs X.outer) [] X.H₀ X.s₀.heap B H' h:=by
 have mem:∀ b,b∈frs X.stack↔b=X.env.locals∨b∈frs X.outer:=fun b=>by
  unfold frs;rw [hst,iD,hfr];simp
 have old:∀ b o,X.s₀.heap.get? b=some o→b≠X.env.locals:=fun b o e z=>by
  have h1:=aC e;have h2:=I.ok.above;rw [z] at h1;exact e7 _ (aL h1 h2)
 have un:Un (frs X.outer) X.ex X.H₀ H X.s₀.heap s.heap:=I.base;rw [hex] at un;exact Air.after un a (fun b o e n z=>((mem b).mp z).elim (old b o e) n) (fun b o e hb=>(mem b).mpr (.inr hb)) fun b o e _ z=>by have q:=hx b z;rw [e] at q;cases q
structure XDef (X:Cx)(E:XK):Prop where
 ex:X.ex=[]
 stk:X.stack=X.env::X.outer
 fr:X.env.frame=some X.env.locals
 any:∀ (aJ:List (ai×Obj)) (σ:St) (H:Hp) (s:ao) (e:aa) (s':ao) (ex:List ai),Inv X aJ σ H s→(∀ b∈ex,X.s₀.heap.objs.size≤b)→CXE X.prog X.w ex X.stack H s E e s'→X.xe e s'
 made:∀ (aJ:List (ai×Obj)) (σ:St) (H:Hp) (s:ao) (x:ai) (ox:Obj) (us:Array aa) (z0:aa),Inv X aJ σ H s→H x=none→X.s₀.heap.get? x=none→s.heap.get? x=some ox→ox.data= .fields us→us[1]? =some .none→us[0]? =some z0→E ox.cls ox.dict H→X.xe (.ref x) s
theorem XDef.pass {E:XK}(D:XDef X E):lH (CXN X.prog X.w) X E:=fun aJ σ H s e s' I h=>D.any aJ σ H s e s' [] I (fun b hb=>pP hb (by simp)) h
theorem xdef_of {cd:aa}{s0:ao}{E:XK} :
  XDef (cxOf (CXN P w) P w K mg base N qual scope f cd A outer s0 H0 E) E:=by
 refine ⟨rfl,rfl,rfl,?_,?_⟩
 ·intro aJ σ H s e s' ex I hx hc
  obtain ⟨x,cls,dct,B,H',rfl,os,bare,al,air,hE⟩:=hc;have out:=Air.out I air rfl rfl rfl fun b hb=>bw.get?_none_of_le (hx b hb)
  refine leave_any (env:=envOfC qual scope s0.heap.objs.size f cd) (outer:=outer) I.ok.frames rfl al fun g ag u=>?_
  refine ⟨x,cls,dct,B,H',rfl,os.trans I.os,bare,ag,Air.up out al.fr.2.2 u,hE⟩
 ·intro aJ σ H s x ox us z0 I nx far e1 ed en e0 hE
  obtain ⟨B,b1,b2,b3,air⟩:=I.air1 nx;have out:=Air.out I air rfl rfl rfl fun b hb=>by rw [aw.mp hb];exact far
  refine first_any (env:=envOfC qual scope s0.heap.objs.size f cd) (outer:=outer) I.ok.frames b2 rfl e1 b1 b3 ed en e0 fun g al u=>?_
  exact ⟨x,ox.cls,ox.dict,B,H,rfl,I.os,I.bare,al,Air.up out b2.2.2 u,hE⟩
theorem Fun.okX {k:Nat}{sp:Sp}(F:Fun K x qual st f fd)(S:cj N ps (defScope st))(len:∀ vs H Q E,sp vs H Q E→vs.length=ps.length)
  (hbody:∀ (cdv:aa) (A:bG) (outer:List Env) (s:ao) (H:Hp) (vs:List V) (Q:VK) (E:XK),Room k (A.deeper (envOfC qual (defScope st) s.heap.objs.size f cdv))→XDef (cxOf (CXN P w) P w K mg base N qual (defScope st) f cdv A outer s H E) E→sp vs H Q E →
   ∃ t,PSs (cxOf (CXN P w) P w K mg base N qual (defScope st) f cdv A outer s H E) (fJ st) t∧t { nx:=fun _ H'=>Q .non H',rt:=Q } (start N vs) H):FnOk P w K mg base (CXN P w) (k+1) f fd ps sp:=by
 obtain ⟨oc,od,kV,doc,pm,an,cdv,ct,osl,rfl,lk,hcd⟩:=F.ex;exact fn_of lk hcd S len fun A outer s H vs Q E hr hsp=>hbody cdv A outer s H vs Q E hr xdef_of hsp
structure Exc (K:au)(mg:Str→Option aa)(x:Str)(C:ai):Prop where
 mg:mg x=some (.ref C)
 ok:PySem.W.excIn K C [.type "ValueError",.type "Exception",.type "BaseException",.type "object"] "ValueError.__new__" =true
theorem own_at (X:K.In h)(hm:mg x=some (.ref C))(q:PySem.W.excIn K C bmB newId=true):OwnCls x C bmB newId mg h:=by
 refine ⟨hm,?_⟩;unfold PySem.W.excIn at q;split at q
 ·rename_i dd cd sl ho
  split at q
  ·rename_i C' bm k0 k1 k2 k3 n k5 h1 h2
   simp only [cS,beq_iff_eq,fE] at q;obtain ⟨⟨⟨⟨⟨rfl,rfl⟩,h3⟩,h4⟩,h5⟩,h6⟩:=q;obtain ⟨nm,bs,mro,ns,qn,hd,sn,sub,ab,col,del⟩:=cd
   dsimp only at h1 h3 h5 h6
   subst h1 h3;have e:sl= #[k0,k1,k2,k3,some (.builtin n),k5]:=by
    obtain ⟨l⟩:=sl;simp only at h2;rw [h2]
   subst e;exact ⟨bm,ns,nm,qn,bs,hd,sn,sub,ab,col,dd,k0,k1,k2,k3,k5,_,X _ _ ho,.of_isNs (PySem.W.isNs_of_in X h5),PySem.W.nsMap_none_of_in X h5 h6,PySem.W.tail_of_in X h4⟩
  ·cases q
 ·cases q
abbrev cxBody (X:Cx)(pn:List (ai×Obj))(W:aa→ao→Prop):Cx:={ X with pn:=pn,xe:=W }
abbrev oT (X:Cx)(pn:List (ai×Obj))(x:ai):Cx:={ X with A:=X.A.mark (some (.ref x)),calm:=false,pn:=pn,xe:=fun _ _=>False }
def PassAt (CX:CXT)(X:Cx)(σ:St)(E:XK):Prop:=∀ (aJ:List (ai×Obj)) (H:Hp) (s:ao) (e:aa) (s':ao),Inv X aJ σ H s→CX X.stack H s E e s'→X.xe e s'
section
variable {pn:List (ai×Obj)}{σ0:St}{E:XK}
theorem pe_callS {k:Nat}{sp:Sp}{p:Pos}(F:FnOk X.prog X.w X.K X.mg X.base CX k f fd ps sp)(hr:Room k X.A)(hg:Gl X x)(hm:X.mg x=some (.ref f))(hk:cW X.K (.ref f)=true)(hb:Binds X.K fd ps ds)(hd:Vals dvs ds)(hx:PassAt CX X σ0 E)
  (ha:PA X (e::es) t) (hdb:(x == ("__debug__" :Str))=false:=by decide) (he:bb (e::es) X.env=(false,dg e X.env)::bb es X.env:=by rfl) (hpl:(dM pos (bb es X.env)).any (·.1)=false:=by rfl) :
  PE X (.Call (.Name x p) (e::es) [] pos) (fun σ H Q=>σ=σ0∧tCall sp dvs E t σ H Q):=by
 intro aJ s σ H Q I ⟨hσ,h⟩;subst hσ;refine dv (md I hg hm ?_ hdb);refine j6 (h₀:=X.base) I.ok.mod.kin hk (thn (ha pos aJ s σ H _ I h) fun us s1 ⟨vs,H1,I1,r,q⟩=>⟨I1.kIn,?_⟩) he hpl;have r2:=r.append hd;have hl:(us++ds).length=ps.length:=by rw [←r2.length];exact F.len _ _ _ _ q
 refine iE (jF (F.run X.A X.stack s1 H1 ⟨us,[]⟩ (us++ds) (vs++dvs) Q E hr I1.env0 (hb s1 us I1.kIn hl) r2 q) fun r s' hq=>?_);cases r with
 | error e=>exact hx aJ H1 s1 e s' I1 hq
 | ok fl =>
  cases fl with
  | ret u=>exact I1.after hq
  | next=>exact cI hq
  | brk=>exact cI hq
  | cont=>exact cI hq
theorem Inv.toBody (I:Inv X aJ σ H s):Inv (cxBody X (X.pn++aJ) W) [] σ H s :=
 ⟨⟨I.ok.mod,I.ok.kind,I.ok.glob,I.ok.blt,I.ok.above,I.ok.inj,I.ok.has,I.ok.cab,I.ok.hd,I.ok.frames,I.ok.stk,I.ok.exf,I.ok.bs,I.ok.bsz,I.ok.noex,I.ok.exfs,I.ok.funs,I.ok.frf⟩,I.os,I.bare,I.base,I.loc,I.cell,I.free,I.freeC,by rw [cP];exact I.pin,I.hok,I.len⟩
theorem Inv.ofBody {more:List (ai×Obj)}(I:Inv (cxBody X (X.pn++aJ) W) more σ H s):Inv X aJ σ H s :=
 ⟨⟨I.ok.mod,I.ok.kind,I.ok.glob,I.ok.blt,I.ok.above,I.ok.inj,I.ok.has,I.ok.cab,I.ok.hd,I.ok.frames,I.ok.stk,I.ok.exf,I.ok.bs,I.ok.bsz,I.ok.noex,I.ok.exfs,I.ok.funs,I.ok.frf⟩,I.os,I.bare,I.base,I.loc,I.cell,I.free,I.freeC,fun p hp=>I.pin p (aE _ hp),I.hok,I.len⟩
theorem Inv.toHand {x:ai}(I:Inv X aJ σ H s):Inv (oT X (X.pn++aJ) x) [] σ H s :=
 ⟨⟨I.ok.mod,I.ok.kind,I.ok.glob,I.ok.blt,I.ok.above,I.ok.inj,I.ok.has,I.ok.cab,(fun z=>nomatch z),I.ok.frames,I.ok.stk,I.ok.exf,I.ok.bs,I.ok.bsz,I.ok.noex,I.ok.exfs,I.ok.funs,I.ok.frf⟩,I.os,I.bare,I.base,I.loc,I.cell,I.free,I.freeC,by rw [cP];exact I.pin,I.hok,I.len⟩
theorem Inv.ofHand {x:ai}{more:List (ai×Obj)}(ok:X.Ok)(I:Inv (oT X (X.pn++aJ) x) more σ H s):Inv X aJ σ H s :=
 ⟨ok,I.os,I.bare,I.base,I.loc,I.cell,I.free,I.freeC,fun p hp=>I.pin p (aE _ hp),I.hok,I.len⟩
theorem SP.mono {Y:Cx}{D:j8}{f:Flow}(k:∀ σ H,Inv Y pins' σ H s→Inv X aJ σ H s)(h:SP Y pins' D f s):SP X aJ D f s:=by
 cases f with
 | next=>obtain ⟨σ,H,I,q⟩:=h;exact ⟨σ,H,k _ _ I,q⟩
 | brk=>obtain ⟨σ,H,I,q⟩:=h;exact ⟨σ,H,k _ _ I,q⟩
 | cont=>obtain ⟨σ,H,I,q⟩:=h;exact ⟨σ,H,k _ _ I,q⟩
 | ret u=>obtain ⟨v,σ,H,I,q⟩:=h;exact ⟨v,σ,H,k _ _ I,q⟩
theorem Inv.landed {x:ai}{cls:aa}(I:Inv X aJ σ H s)(os:s'.os=s.os)(bare:AllBare s'.gens)(al:mR B X.stack x cls dct s'.heap)(air:Air X.prog X.w (frs X.stack) [] H s.heap B H' s'.heap):Inv X aJ σ H' s' :=
 I.call' (ch:=[]) os (air.un al.st fun b hb=>I.stkFree b hb) (fun a o e=>(air.hok a o e).stay (fun b v _ q=>al.st b v q) (fun _ q=>q) fun _ _ q=>q) bare fun b hb=>pP hb (by simp)
end
theorem gone_ok {Q:Unit→ao→Prop}(I:Inv X aJ σ H s)(nd:X.N.Nodup)(at_:X.N[i]? =some x)(lc:X.env.scope.names.lookup x=some .local)
  (next:∀ s',Inv X aJ (σ.set i none) H s'→Q () s'):aH M A (do bindName X.env x .none;unbindBehindTheSuite X.env x pos) Q E s:=by
 obtain ⟨m,nsm,look⟩:=id I.loc;have fk:(X.env.scope.kind == .class || (X.env.scope.kind == .module && X.env.locals != X.env.globals))=false:=by rw [I.ok.kind];rfl
 have il:i<σ.length:=by rw [I.len];exact (ar.mp at_).1
 refine wpAny_nameGoes_keeps lc nsm fk fun g w nsg sb=>next _ ?_
 obtain ⟨oL,_,_,eL,_⟩:=id nsm;have low:∀ b o,X.s₀.heap.get? b=some o→b≠X.env.locals:=fun b o e=>bj (aL (aC e) I.ok.above)
 have far:∀ b o,b≠X.env.locals→s.heap.get? b=some o→g.get? b=some o:=fun b o n e=>(sb.2 b n).trans e
 have un:Un X.fs X.ex X.H₀ H X.s₀.heap g :=
  {keep:=fun b o e n f x'=>far b o (low b o e) (I.base.keep b o e n f x')
   slot:=fun b o e n f x'=>(I.base.slot b o e n f x').imp fun sl q=>far b _ (low b o e) q
   free:=I.base.free
   there:=fun b o e x'=>(I.base.there b o e x').imp fun o' q=>far b o' (low b o e) q
   tups:=I.base.tups
   frzs:=I.base.frzs
   tbls:=I.base.tbls }
 have hk:HOk X.prog X.w H g:=fun a o e=>(I.hok a o e).stay (fun c o' hc q=>far c o' (by
  rintro rfl
  rcases hc with rfl | hc
  ·rw [I.free] at e;cases e
  ·rw [I.free] at hc;cases hc) q) (fun _ q=>q) fun _ _ q=>q
 refine ⟨I.ok,I.os,I.bare,un,⟨_,nsg,fun j y u e1 e2 e3=>?_⟩,fun y c e=>?_,I.free,I.freeC,fun p hp=>?_,hk,by simpa using I.len⟩
 ·by_cases hj:j=i
  ·subst hj
   rw [dZ il] at e2;cases e2
  ·rw [dN (cn hj)] at e2
   obtain ⟨u',r',l'⟩:=look j y u e1 e2 e3;refine ⟨u',r',?_⟩
   rcases l' with ⟨k1,k2⟩ | ⟨k1,c,k2,k3⟩
   ·refine .inl ⟨k1,?_⟩
    have ne:y≠x:=fun z=>hj (nodup_ix nd e1 (z ▸ at_))
    simp [ne,k2]
   ·exact .inr ⟨k1,c,k2,k3.sameBut sb (I.cne y c k2)⟩
 ·obtain ⟨w',z⟩:=I.cell y c e
  exact ⟨w',z.sameBut sb (I.cne y c e)⟩
 ·obtain ⟨e,n,nl,nf,d⟩:=I.pin p hp
  exact ⟨far p.1 p.2 nl e,n,nl,nf,d⟩
def k7 (a C:ai)(d:Option ai):HO:= .ext fun h=>∃ o us,h.get? a=some o∧o.cls= .ref C∧o.dict=d∧o.data= .fields us
theorem Inv.landedAs {x:ai}(I:Inv X aJ σ H s)(os:s'.os=s.os)(bare:AllBare s'.gens)(al:mR B X.stack x (.ref C) dct s'.heap)(air:Air X.prog X.w (frs X.stack) [] H s.heap B H' s'.heap):H' x=none∧Inv X aJ σ (upd H' x (k7 x C dct)) s':=by
 have free:H' x=none:=by
  cases q:H' x with
  | none=>rfl
  | some o =>
   obtain ⟨u,e⟩:=ObjOk.seat (air.hok x o q);rw [al.no] at e;cases e
 obtain ⟨a0,fl,ox,vx,T,ot,vt,e1,⟨ec,_⟩,e2,_⟩:=id al.tr;have edc:ox.dict=dct:=by
  obtain ⟨o,p,r⟩:=al.dc;rw [e1] at p;cases p;exact r
 have new:s.heap.get? x=none:=by
  cases q:s.heap.get? x with
  | none=>rfl
  | some o =>
   by_cases hf:x∈frs X.stack
   ·obtain ⟨_,o2,q2,hn⟩:=al.fr.mem hf
    rw [e1] at q2;cases q2;exact pP e2 (hn vx)
   ·obtain ⟨o',e'⟩:=air.there x o q hf (by simp)
    rw [al.no] at e';cases e'
 have un:=air.un al.st fun b hb=>I.stkFree b hb
 have hok:HOk X.prog X.w H' s'.heap:=fun a o e=>(air.hok a o e).stay (fun b v _ q=>al.st b v q) (fun _ q=>q) fun _ _ q=>q
 refine ⟨free,I.call' (ch:=[]) os { keep:=un.keep,slot:=un.slot,free:=fun b o e n hx=>?_,there:=un.there,tups:=fun b xs e=>?_,frzs:=fun b o u e=>?_,tbls:=fun b ps e=>?_ } (hok.take free ⟨⟨ox,vx,e1,ec,edc,e2⟩,⟨ox,e1⟩,fun h1 h2 ⟨o,us,p1,p2⟩ k=>⟨o,us,k o p1,p2⟩⟩) bare fun b hb=>pP hb (by simp)⟩
 ·rw [aZ (fun z=>by rw [z,new] at e;cases e)]
  exact un.free b o e n hx
 ·have q:=un.tups b xs e
  rw [aZ (bB q free)];exact q
 ·have q:=un.frzs b o u e
  rw [aZ (bB q free)];exact q
 ·obtain ⟨more,q⟩:=un.tbls b ps e
  exact ⟨more,by rw [aZ (bB q free)];exact q⟩
structure Under (K:au)(C D:ai):Prop where
 up:jo K C (.ref D)=some true
theorem match_up {nm' q':Str}{N':ai}{bs' bm':List aa}{hdct':Bool}{sn':List Str}{sub':List aa}{ab':Bool}{col':Option Bool}{dd':Option ai}{j0 j1 j2 j3 j5:Option aa}{newId':String}
  {g:Array GenState} {d:Drawn} {t:Nat} {os:OsState} {e:ai} {oe:Obj} {Q:Bool→ao→Prop} (kin:K.In h) (up:jo K C (.ref D)=some true)
  (hD:h.get? D=some (excClassObj nm' q' D N' bs' bm' hdct' sn' sub' ab' col' dd' j0 j1 j2 j3 j5 newId')) (he:h.get? e=some oe) (hcls:oe.cls= .ref C) (hbase:bm'.contains (.type "BaseException")=true)
  (hq:Q true ⟨h,g,d,t,os⟩):aH M A (excMatches (.ref e) (.ref D)) Q E ⟨h,g,d,t,os⟩:=by
 have b1:(aa.ref D::bm').contains (.type "BaseException")=true:=by rw [List.contains_cons,hbase,Bool.or_true]
 have f:=tc_notTuple;unfold excMatches
 repeat (first | (with_reducible refine fS he ?_;rw [hcls]) | with_reducible refine fS hD ?_ | (with_reducible refine wpAny_isSubtype_exc hD ?_;rw [b1]) | (with_reducible refine PySem.W.Looks.at (PySem.W.looks_mroIn kin up) ?_) | wp_step)
 exact hq
theorem ps_tryAs {n:Str}{iN:Nat}{np hp:Pos}{body suite:List cG}{b₀:cG}{tb:St→XK→TS}{th:TS}(stk:X.stack=X.env::X.outer)(fr:X.env.frame=some X.env.locals)(nd:X.N.Nodup)(at_:X.N[iN]? =some n)(lc:X.env.scope.names.lookup n=some .local)(T:Exc X.K X.mg x D)
  (hb:∀ (pn:List (ai×Obj)) (W:aa→ao→Prop) (σ:St) (E:XK),PassAt (CXN X.prog X.w) (cxBody X pn W) σ E→PSs (cxBody X pn W) body (tb σ E)) (hh:∀ (pn:List (ai×Obj)) (e:ai),PSs (oT X pn e) (b₀::suite) th) (hg:Gl X x:=by rfl) (hd:(x == ("__debug__" :Str))=false:=by decide) :
  PS X (.Try body [.ExceptHandler (some (.Name x np)) (some n) (b₀::suite) hp] [] [] pos) (fun Dn σ H=>tb σ (fun cls dct H'=>∃ C,cls= .ref C∧Under X.K C D∧∀ a,H' a=none→th { Dn with nx:=fun σ' H''=>Dn.nx (σ'.set iN none) H'',bk:=fun σ' H''=>Dn.bk (σ'.set iN none) H'',ct:=fun σ' H''=>Dn.ct (σ'.set iN none) H'' } (σ.set iN (some (.ref a))) (upd H' a (k7 a C dct))) Dn σ H):=by
 intro aJ s σ H Dn I h;refine wpAny_Try_except (bH (hb (X.pn++aJ) (fun e s₁=>aH (aU X.prog X.w) X.A (noteFrame e X.env) (fun _ s₂=>aH (aU X.prog X.w) X.A (setFlight e none) (fun _ s₃=>aH (aU X.prog X.w) X.A (handleBy e X.env [.ExceptHandler (some (.Name x np)) (some n) (b₀::suite) hp]) (SP X aJ Dn) X.xe s₃) X.xe s₂) X.xe s₁) σ _ ?_ [] s σ H Dn I.toBody h) (fun f s1 q=>?_) fun _ _ q=>q)
 ·intro pins' H1 s1 e s2 I1 hc
  obtain ⟨a,cls,dct,B,H2,rfl,os,bare,al,air,C,rfl,U,hth⟩:=hc;have I1:Inv X aJ σ H1 s1:=Inv.ofBody I1;have al:mR B X.stack a (.ref C) dct s2.heap:=al;have air:Air X.prog X.w (frs X.stack) [] H1 s1.heap B H2 s2.heap:=air;have hfr:X.A.frames=some (X.env::X.outer):=by rw [←stk];exact I.ok.frames
  have al':mR B (X.env::X.outer) a (.ref C) dct s2.heap:=by rw [←stk];exact al
  refine note_any hfr fr al' fun g hgd u=>?_
  have hgd:mR B X.stack a (.ref C) dct g:=by rw [stk];exact hgd
  have air1:Air X.prog X.w (frs X.stack) [] H1 s1.heap B H2 g:=Air.up air al.fr u;refine set_any (s:={ s2 with heap:=g }) hgd fun g2 al2 u2=>?_
  have air2:Air X.prog X.w (frs X.stack) [] H1 s1.heap B H2 g2:=Air.up air1 hgd.fr u2;have I2:Inv X aJ σ H2 { s2 with heap:=g2 }:=I1.landed (s':={ s2 with heap:=g2 }) os bare al2 air2;have I2h:Inv (oT X (X.pn++aJ) a) [] σ H2 { s2 with heap:=g2 }:=I2.toHand;refine wpAny_handleBy_cons (codeAny_handlers_test ?_) (by intro q;cases q);refine md (X:=oT X (X.pn++aJ) a) I2h hg T.mg ?_ hd;obtain ⟨tl,N,nm,q,bs,hdct,sn,sub,ab,col,dd,k0,k1,k2,k3,k5,mN,hC,hN,hni,TL⟩:=(own_at I.ok.mod.kin T.mg T.ok).obj;obtain ⟨b0,fl,tr⟩:=id al2.tr;obtain ⟨ob,hob,hobc⟩:=tr.there;refine match_up I2.kIn U.up (I2.bk _ _ hC) hob hobc (TL.hasType rfl) (codeAny_handlers_suite_as ?_);refine set_any (s:={ s2 with heap:=g2 }) al2 fun g3 al3 u3=>?_
  have air3:Air X.prog X.w (frs X.stack) [] H1 s1.heap B H2 g3:=Air.up air2 al2.fr u3;obtain ⟨fre,I3⟩:=I1.landedAs (s':={ s2 with heap:=g3 }) os bare al3 air3;have I3h:Inv (oT X (X.pn++aJ) a) [] σ (upd H2 a (k7 a C dct)) { s2 with heap:=g3 }:=I3.toHand;refine nI (X:=oT X (X.pn++aJ) a) (v:= .ref a) I3h nd at_ (.inl lc) rfl (fun s5 I5=>?_) (.inr lc);refine bH (hh (X.pn++aJ) a [] _ _ _ _ I5 (hth a fre)) (fun f s6 q=>?_) fun _ _ z=>cI z
  cases f with
  | next=>obtain ⟨σ6,H6,I6,q6⟩:=q;exact gone_ok (Inv.ofHand I.ok I6) nd at_ lc fun s7 I7=>⟨_,_,I7,q6⟩
  | brk=>obtain ⟨σ6,H6,I6,q6⟩:=q;exact gone_ok (Inv.ofHand I.ok I6) nd at_ lc fun s7 I7=>⟨_,_,I7,q6⟩
  | cont=>obtain ⟨σ6,H6,I6,q6⟩:=q;exact gone_ok (Inv.ofHand I.ok I6) nd at_ lc fun s7 I7=>⟨_,_,I7,q6⟩
  | ret u=>obtain ⟨v,σ6,H6,I6,r6,q6⟩:=q;exact gone_ok (Inv.ofHand I.ok I6) nd at_ lc fun s7 I7=>⟨v,_,_,I7,r6,q6⟩
 ·have q:SP X aJ Dn f s1:=SP.mono (fun _ _ Ib=>Inv.ofBody Ib) q
  cases f with
  | next=>exact aA q
  | brk=>exact q
  | cont=>exact q
  | ret u=>exact q
end L2
namespace L2
open PySem PySem.Spec PySem.W PyProof.Rows
structure XCls (K:Frag)(C:ai):Prop where
 ga:findIn K (.ref C) "__getattribute__" =some (some (.builtin "BaseException.__getattribute__"))
 gh:findIn K (.ref C) "__getattr__" =some none
 cl:findIn K (.ref C) "__class__" =some (some (.builtin "object.__class__"))
 gt:specialIn K (.builtin "object.__class__") "__get__" =some (some (.builtin "getset_descriptor.__get__"))
 tk:takesIn K (.builtin "object.__class__")=some true
 ob:mroIn K C (.type "object")=some true
 bx:mroIn K C (.type "BaseException")=some true
 dc:hasDictIn K C=true
section
variable {K:Frag}{x:ai}
theorem x_check {nv:aa}{Q:Unit→ao→Prop}(kin:K.In s.heap)(I:InstAt s.heap x ox C od)(T:XCls K C)(q:Q () s):aH (aU prog w) A (checkBuiltinCall "BaseException.__getattribute__" ⟨[.ref x,nv],[]⟩) Q E s:=by
 obtain ⟨hh,g,d,t,os⟩:=s;have k1:builtinKind "BaseException.__getattribute__" =some .slot:=by trivial
 have k2:splitId "BaseException.__getattribute__" =some ("BaseException","__getattribute__"):=by trivial
 have L0:=I.type (M:=aU prog w);have L1:=looks_mroIn (M:=aU prog w) kin T.bx;have LI:Looks (aU prog w) hh (isInstance (.ref x) (.type "BaseException")) true:=L0.andThen L1;have ha:=F.args_bexc_ga (.ref x) nv;simp only [checkBuiltinCall,k1,k2];refine ae (LI.at ?_)
 repeat (any_goals (first | assumption | wp_step))
theorem x_value {v:aa}{tk:Tok}{Q:Fin→ao→Prop}(kin:K.In s.heap)(I:InstAt s.heap x ox C od)(hf:findObj K C od name=some (.value v))(q:Q (.done (.ret v)) s) :
  aH (aU prog w) A (cV.«object.__getattribute__» ⟨[.ref x,.str name tk],[]⟩) Q E s:=by
 obtain ⟨hh,g,d,t,os⟩:=s;have L0:=I.type (M:=aU prog w);have L1:=looks_find (M:=aU prog w) kin I hf;refine ae (aA (ae (aA (ae (L0.at (ae (L1.at ?_)))))));exact aA q
theorem x_bind {gv a:aa}{tk:Tok}{P:aa→ao→Prop}(kin:K.In s.heap)(I:InstAt s.heap x ox C od)(hf:findObj K C od name=some (.bind gv a))(q:aH (aU prog w) A (ir gv [a,.ref x,.ref C]) P E s) :
  aH (aU prog w) A (cV.«object.__getattribute__» ⟨[.ref x,.str name tk],[]⟩) (fun fin s'=>match fin with | .done (.ret v)=>P v s' | _=>False) E s:=by
 obtain ⟨hh,g,d,t,os⟩:=s;have L0:=I.type (M:=aU prog w);have L1:=looks_find (M:=aU prog w) kin I hf;refine ae (aA (ae (aA (ae (L0.at (ae (L1.at ?_)))))));show aH _ _ (jD [a] (ir gv [a,.ref x,.ref C]) >>= ret) _ _ _;exact ae (cf (bH q (fun v s' z=>aA z) fun _ _ z=>z))
theorem x_by {tk:Tok}{fill ex:Bool}(kin:K.In s.heap)(I:InstAt s.heap x ox C od)(T:XCls K C)
  (q:aH (aU prog w) A.in1 (cV.«object.__getattribute__» ⟨[.ref x,.str name tk],[]⟩) (fun fin s'=>match fin with | .done (.ret v)=>aH (aU prog w) A (handedOut v) Q E s' | _=>False) (fun _ _=>False) s) :
  aH (aU prog w) A (getAttrBy (.ref x) (.str name tk) fill ex) Q E s:=by
 obtain ⟨hh,g,d,t,os⟩:=s;have L0:=I.type (M:=aU prog w);have L1:=looks_findIn (M:=aU prog w) kin T.ga;have L2:=looks_findIn (M:=aU prog w) kin T.gh;have f3:=F.excAttr_ValueError.ga.bind (.ref x);have hx0:(ex && onTheHeap (aa.builtin "BaseException.__getattribute__"))=false:=by cases ex <;> rfl
 unfold getAttrBy;refine cf (ae (L0.at (ae (L1.at ?_))));show aH _ _ (getAttrByItsOwn _ _ _ _ _ _) _ _ _;unfold getAttrByItsOwn;refine ae (L2.at ?_);refine ae (iX (cf ?_));unfold callGetattribute;rw [pN (by rw [hx0];decide)];unfold boundAndCalled;rw [f3];refine ae (aA ?_);refine iE (ke F.excAttr_ValueError.ga.plain F.entry_bexc_ga (x_check kin I T ?_));refine bH q (fun fin s' z=>?_) fun _ _ z=>z.elim
 rcases fin with (_ | _ | _ | _) | _ <;> first | exact z | exact z.elim
end
section
variable {K:Frag}{x:ai}
theorem xfind {a g:aa}(hc:(clsIn K C).isSome=true)(ha:findIn K (.ref C) name=some (some a))(hg:specialIn K a "__get__" =some (some g))(ht:takesIn K a=some true):findObj K C od name=some (.bind g a):=by
 obtain ⟨cd,hc⟩:=ku.mp hc;unfold findObj;rw [hc,Option.bind_some,ha,Option.bind_some];simp [hg,ht]
theorem XCls.cls (T:XCls K C):∃ cd,clsIn K C=some cd:=by
 obtain ⟨cd,hc,_⟩:=any_some T.dc;exact ⟨cd,hc⟩
def XAt (x C:ai)(h:bw):Prop:=∃ ox od,InstAt h x ox C od
theorem kitx_exc (T:XCls K C):KitX K (.ref x) (.ref C) (XAt x C) where
 ty:=fun _ _ _ p=>by
  obtain ⟨ox,od,I⟩:=p;exact I.type
 it:=fun _ _ kin _=>by
  obtain ⟨cd,hc⟩:=T.cls;unfold clsIn at hc;split at hc
  ·rename_i ho
   intro A' Q' E' s' k q;unfold isType loadHead;exact ae (wpAny_loadPart (k _ _ (kin _ _ ho)) (aA q))
  ·cases hc
 ne:=fun h tp dd its n sl kin htp=>by
  obtain ⟨cd,hc⟩:=T.cls;refine jf.mpr fun q=>?_
  have e:C=tp:=aa.ref.inj (beq_iff_eq.mp q);subst e;unfold clsIn at hc;split at hc
  ·rename_i ho
   have z:=(kin _ _ ho).symm.trans htp;cases z
  ·cases hc
 ca:=fun {prog w A E Q s} kin p k=>by
  obtain ⟨ox,od,I⟩:=p;obtain ⟨cd,hc⟩:=T.cls;have hf:findObj K C od "__class__" =some (.bind (.builtin "getset_descriptor.__get__") (.builtin "object.__class__")):=xfind (by rw [hc];rfl) T.cl T.gt T.tk;unfold getAttr? getAttrBy?;refine ae (wpAny_mkText (ae (iX ?_)));refine x_by (s:={ s with toks:=s.toks+1 }) kin I T (x_bind (s:={ s with toks:=s.toks+1 }) kin I hf (iE (class_get (s:={ s with toks:=s.toks+1 }) kin I T.ob ?_)));exact handed_on rfl (aA k)
end
def XD (D:ai)(fs:List (Str×V)):HO:= .ext fun h=>∃ mA,h.Ns1 D mA∧(∀ f,RelO (fs.lookup f) (mA f))∧PySem.Within mA (fs.map (·.1))
theorem Inv.xat (I:Inv X aJ σ H s)(e:H a=some (k7 a C d))(hd:∀ D,d=some D→∃ fs,H D=some (XD D fs)):XAt a C s.heap:=by
 obtain ⟨⟨o,us,p1,p2,p3,p4⟩,_,_⟩:=I.hok a _ e;cases d with
 | none=>exact ⟨o,none,p1,p2,by unfold notCls;rw [p4],by rw [p3];trivial⟩
 | some D =>
  obtain ⟨fs,q⟩:=hd D rfl;obtain ⟨⟨mA,⟨od,es,ep,q1,_⟩,_⟩,_⟩:=I.hok D _ q;exact ⟨o,some od,p1,p2,by unfold notCls;rw [p4],by rw [p3];exact q1⟩
theorem call_isx:CallR X (.builtin "isinstance") (fun xs H Q=>∃ a C d b,(∃ D,xs=[.ref a,.ref D]∧kitOne X.K (.ref C) (.ref D)=some b)∧H a=some (k7 a C d)∧(∀ D,d=some D→∃ fs,H D=some (XD D fs))∧XCls X.K C∧Q (.bl b) H):=by
 intro aJ s σ H vs us Q I r h;obtain ⟨a,C,d,b,⟨D,rfl,ek⟩,e,hd,T,q⟩:=h;cases r with
 | cons r1 r =>
 cases r with
 | cons r2 r =>
 cases r;rename_i u1 u2;obtain rfl:u1=aa.ref a:=r1;obtain rfl:u2=aa.ref D:=r2;exact kia_one (kitx_exc T) I.kIn (I.xat e hd) ek nofun fun tk=>⟨.bl b,H,I.tok tk,rfl,q⟩
theorem call_isxB {T0:String}:CallR X (.builtin "isinstance") (fun xs H Q=>∃ a C d b,(xs=[.ref a,.ty T0]∧kitOne X.K (.ref C) (.type T0)=some b)∧H a=some (k7 a C d)∧(∀ D,d=some D→∃ fs,H D=some (XD D fs))∧XCls X.K C∧Q (.bl b) H):=by
 intro aJ s σ H vs us Q I r h;obtain ⟨a,C,d,b,⟨rfl,ek⟩,e,hd,T,q⟩:=h;cases r with
 | cons r1 r =>
 cases r with
 | cons r2 r =>
 cases r;rename_i u1 u2;obtain rfl:u1=aa.ref a:=r1;obtain rfl:u2=aa.type T0:=r2;exact kia_one (kitx_exc T) I.kIn (I.xat e hd) ek nofun fun tk=>⟨.bl b,H,I.tok tk,rfl,q⟩
theorem vals_refs:∀ {ds:List ai} {us:List aa},Vals (ds.map V.ref) us→us=ds.map aa.ref
 | [],_,.nil=>rfl
 | d::ds,_,.cons r t=>by rw [cg,vals_refs t];exact pT (· :: _) r
theorem call_isxT:CallR X (.builtin "isinstance") (fun xs H Q=>∃ a C d b t,∃ ds:List ai,xs=[.ref a,.ref t]∧H t=some (.tup (ds.map V.ref))∧kitAny X.K (.ref C) (ds.map aa.ref)=some b∧H a=some (k7 a C d)∧(∀ D,d=some D→∃ fs,H D=some (XD D fs))∧XCls X.K C∧Q (.bl b) H):=by
 intro aJ s σ H vs us Q I r h;obtain ⟨a,C,d,b,t,ds,rfl,et,ek,e,hd,T,q⟩:=h;cases r with
 | cons r1 r =>
 cases r with
 | cons r2 r =>
 cases r;rename_i u1 u2;obtain rfl:u1=aa.ref a:=r1;obtain rfl:u2=aa.ref t:=r2;obtain ⟨_,its,rv,⟨oc,od,oda,osl⟩,p1,p2,p3,n,p4⟩:=I.hok t _ et;have ei:=vals_refs rv;subst ei
 dsimp only at p2 p3 p4
 subst p2 p3 p4;exact kia_tup (kitx_exc T) I.kIn (I.xat e hd) p1 ek nofun fun tk=>⟨.bl b,H,I.tok tk,rfl,q⟩
theorem pe_xfld {f:Str}(he:PE X e ta)(hb:gT e f X.env (dg e X.env)=dg e X.env) :
  PE X (.Attribute e f pos) (fun σ H Q=>ta σ H fun x H1=>∃ a C D fs v,x= .ref a∧H1 a=some (k7 a C (some D))∧H1 D=some (XD D fs)∧XCls X.K C∧NoAttr X.K C f∧fs.lookup f=some v∧Q v H1):=by
 intro aJ s σ H Q I h;refine attr_of hb (thn (he aJ s σ H _ I h) fun u s1 ⟨x,H1,I1,rx,a,C,D,fs,v,ex,ea,eD,T,n,l,q⟩=>?_);subst ex;obtain rfl:u=aa.ref a:=rx;obtain ⟨⟨o,us,p1,p2,p3,p4⟩,_,_⟩:=I1.hok a _ ea;obtain ⟨⟨mA,ns,rl,_⟩,_⟩:=I1.hok D _ eD;obtain ⟨od,q1,q2⟩:=oK ns;obtain ⟨u,hu,ru⟩:=RelO.some_of (v:=v) (o:=mA f) (by rw [←l];exact rl f);have J:InstAt s1.heap a o C (some od):=⟨p1,p2,by unfold notCls;rw [p4],by rw [p3];exact q1⟩;unfold getAttr;refine ae (wpAny_mkText ?_);refine x_by (s:={ s1 with toks:=s1.toks+1 }) I1.kIn J T (x_value (s:={ s1 with toks:=s1.toks+1 }) (v:=u) I1.kIn J (findObj_own T.dc n rfl (by rw [q2,hu])) ?_);exact handed_on (handed_of ru) ⟨v,H1,I1.tok _,ru,q⟩
def xNew (h:bw)(C:ai)(us:List aa):bw:=(h.push { cls:= .type "tuple",data:= .seq us.toArray }).push { cls:= .ref C,data:= .fields #[.ref h.objs.size,.none,.none,.none,.bool false,.none] }
theorem mz {b:ai}{o:Obj}(e:h.get? b=some o):(xNew h C us).get? b=some o:=ak _ (ak _ e)
theorem xNew_at:(xNew h C us).get? (h.objs.size+1)=some { cls:= .ref C,data:= .fields #[.ref h.objs.size,.none,.none,.none,.bool false,.none] }:=by
 unfold xNew;exact bw.get?_push_at (by rw [cQ]) rfl
section
variable {g:Array GenState}{d:Drawn}{t:Nat}{os:OsState}
variable {nm:Str}{N fI:ai}{bs bm:List aa}{ab:Bool}{k0 k1 k2 k3 k5:Option aa}{B initId:String}
theorem xcall_type {Q:Fin→ao→Prop}(F:ExcBaseFacts B newId initId bmB)(T:OwnTail h bmB bm)(hC:h.get? C=some (excClassObj nm q C N bs bm hdct sn sub ab col dd k0 k1 k2 k3 k5 newId))
  (kl:Looks (aU prog w) h (typeLookup (.ref C) "__init__") (some (.ref fI))) (hf:h.get? fI=some oI) (hc:oI.cls= .type "function") (hlen:us.length≤aR)
  (k:aH (aU prog w) A (ir (.ref fI) (.ref (h.objs.size+1)::us)) (fun r s'=>r= .none∧Q (.done (.ret (.ref (h.objs.size+1)))) s') E ⟨xNew h C us,g,d,t,os⟩) :
  aH (aU prog w) A (cV.«type.__call__» ⟨.ref C::us,[]⟩) Q E ⟨h,g,d,t,os⟩:=by
 repeat (first | with_reducible refine fS hC ?_ | with_reducible refine wpAny_madeBy_exc hC ?_ | wp_step)
 refine codeAny_call_builtin_code (Code.quiet_builtin _ F.quiet) (wpAny_check_new_subT F T hC (codeAny_exc_new_subT F T hC ?_ hlen));show aH _ _ _ _ _ (⟨xNew h C us,g,d,t,os⟩:ao);have c1:(xNew h C us).get? C=_:=mz hC;have x1:=xNew_at (h:=h) (C:=C) (us:=us);have f1:(xNew h C us).get? fI=some oI:=mz hf;have l1:=kl.keeps (h':=xNew h C us) fun b o e=>mz e
 have inn:(aa.ref C::bm).contains (.ref C)=true:=by simp
 generalize xNew h C us=h1 at k c1 x1 f1 l1 ⊢;unfold isInstance
 repeat (first | with_reducible refine fS x1 ?_ | (with_reducible refine wpAny_isSubtype_exc c1 ?_;rw [inn]) | wp_step)
 show aH _ _ (typeLookup (.ref C) _) _ _ _;refine l1.at ?_;refine cf (ae ?_);unfold bindSpecial;refine ae (wpAny_typeOf (T := "function") ⟨_,f1,hc⟩ ?_);rw [pO (by decide)];refine aA (ae (bH k (fun r s' hr=>?_) fun _ _ z=>z));obtain ⟨rfl,hQ⟩:=hr
 wp_walk
 exact hQ
theorem xcall (F:ExcBaseFacts B newId initId bmB)(T:OwnTail h bmB bm)(hC:h.get? C=some (excClassObj nm q C N bs bm hdct sn sub ab col dd k0 k1 k2 k3 k5 newId))
  (kl:Looks (aU prog w) h (typeLookup (.ref C) "__init__") (some (.ref fI))) (hf:h.get? fI=some oI) (hc:oI.cls= .type "function") (hlen:us.length≤aR)
  (k:aH (aU prog w) (A.under (.builtin "type.__call__" ⟨.ref C::us,[]⟩)) (ir (.ref fI) (.ref (h.objs.size+1)::us)) (fun r s'=>r= .none∧Q (.ref (h.objs.size+1)) s') E ⟨xNew h C us,g,d,t,os⟩) :
  aH (aU prog w) A (ir (.ref C) us) Q E ⟨h,g,d,t,os⟩:=by
 have z1:=tc_lookup;have z2:=tc_bind (.ref C);have z3:(⟨h,g,d,t,os⟩:ao).TypeIs (.ref C) "type" := ⟨_,hC,rfl⟩;refine iE (codeAny_of_tree ?_);show aH _ _ (callAny (.ref C) _) _ _ _
 repeat (any_goals (first | assumption | with_reducible refine fS hC ?_ | wp_step))
 refine ⟨rfl,codeAny_call_builtin_at (Code.quiet_builtin _ (by trivial)) entry_typeCall (wpAny_check_type_call_sub hC (xcall_type F T hC kl hf hc hlen ?_))⟩;exact k
end
end L2
namespace L2
open PySem PySem.Spec PySem.W PyProof.Rows Builtin Builtin.ObjectAttr
section
variable {K:Frag}{x P:ai}
theorem x_open {tk:Tok}{v:aa}(kin:K.In s.heap)(J:InstAt s.heap x ox C od)(hm:Looks (aU prog w) s.heap (mroOf (.ref C)) (.ref C:: .ref P::bmVE))(ob:mroIn K C (.type "object")=some true)(na:findIn K (.ref C) name=some none)
  (k:aH (aU prog w) A.in1 (storeInOwnDict (.ref x) (.ref C) (.str name tk) name v false)
   (fun fin s'=>match fin with | .done f=>R (.ok f) s' | .again c'=>c'.quiet=true∧hV (aU prog w) A c' R s') (fun e s'=>R (.error e) s') s) :
  hV (aU prog w) A (.call (.builtin "object.__setattr__") ⟨[.ref x,.str name tk,v],[]⟩) R s:=by
 have SF:=PySem.F.store_ValueError;have LI:Looks (aU prog w) s.heap (isInstance (.ref x) (.type "object")) true:=J.type.andThen (looks_mroIn kin ob);refine ke SF.slot.plain SF.entry (@check_slot (aU prog w) _ _ s "object.__setattr__" "object" "__setattr__" (.ref x) [.str name tk,v] [] _ SF.kind SF.split LI (SF.args (.ref x) (.str name tk) v) ?_);rw [osa_eq,refuse_eq];refine ae (ae (J.type.here (ae (hm.here ?_))));rw [refuseLoop_ref,refuseLoop_ref,SF.passes];exact aA (ae (J.type.here (ae ((looks_findIn kin na).here (ae (aA k))))))
theorem x_set0 {v:aa}{us:Array aa}{Q:Unit→ao→Prop}(kin:K.In s.heap)(T:XCls K C)(hs:findIn K (.ref C) "__setattr__" =some (some (.builtin "object.__setattr__")))(hm:Looks (aU prog w) s.heap (mroOf (.ref C)) (.ref C:: .ref P::bmVE))(na:findIn K (.ref C) name=some none)
  (e1:s.heap.get? x=some ⟨.ref C,none,.fields us,ox.slots⟩)
  (k:∀ h' tk,h'.Ns1 s.heap.objs.size (fun y=>if y=name then some v else none)→h'.get? x=some ⟨.ref C,some s.heap.objs.size,.fields us,ox.slots⟩→(∀ b o,b≠x→s.heap.get? b=some o→h'.get? b=some o)→Q () { s with heap:=h',toks:=tk }) :
  aH (aU prog w) A (setAttr (.ref x) name v) Q E s:=by
 have J:InstAt s.heap x ⟨.ref C,none,.fields us,ox.slots⟩ C none:=⟨e1,rfl,rfl,trivial⟩;refine set_plain kin J hs (x_open (s:={ s with toks:=s.toks+1 }) kin J hm T.ob na ?_);obtain ⟨cd,hc,hd⟩:=any_some T.dc;obtain ⟨hh,g,dr,t,os⟩:=s;refine ae (aA (ae (ae (wpAny_loadPart e1 (ae ((looks_clsIn kin hc).at ?_))))));rw [hd];simp only [Bool.not_true,Bool.false_eq_true,if_false];rw [pN (by simp [typeHasDict])];have x1:(hh.push { cls:= .type "dict",data:= .dict #[] }).get? x=some ⟨.ref C,none,.fields us,ox.slots⟩:=ak _ e1;have xs:x≠hh.objs.size:=bj (aC e1);refine ae (wpAny_alloc' (ae (wpAny_update' x1 (aA ?_))));have d2:((hh.push { cls:= .type "dict",data:= .dict #[] }).update x fun o=>{ cls:=o.cls,dict:=some hh.objs.size,data:=o.data,slots:=o.slots }).get? hh.objs.size=some { cls:= .type "dict",data:= .dict #[] } :=
  (d6 _ _ _ _ xs.symm).trans (bw.get?_push_at rfl rfl)
 have n2:((hh.push { cls:= .type "dict",data:= .dict #[] }).update x fun o=>{ cls:=o.cls,dict:=some hh.objs.size,data:=o.data,slots:=o.slots }).Ns hh.objs.size (fun _=>none):=⟨_,#[],_,d2,rfl,fun e he=>pP he (by simp),fun _=>rfl⟩;show aH _ _ (storeInDict hh.objs.size (.str name t) name v) _ _ _;unfold storeInDict newKeyGuard;refine ae (aA (ae (wpAny_nsSet1 (bw.Ns1.of_empty n2) fun h' n3 same=>?_)));obtain ⟨oD,eD,pD,gD,hD,cD⟩:=n3.count (Within.cons name v Within.nil);refine ae (wpAny_lookBehind gD (by rw [hD];exact pastItsLine_dict (aS cD (by rw [aY,List.length_nil,eG];lia))) ?_);refine aA (k h' _ n3 ?_ fun b o nb e=>?_)
 ·exact (same.2 x xs).trans (d9 _ x1 rfl)
 ·exact (same.2 b (bj (aC e))).trans ((d6 _ _ _ _ nb).trans (ak _ e))
theorem x_set1 {v:aa}{us:Array aa}{ns:List Str}{Q:Unit→ao→Prop}(kin:K.In s.heap)(T:XCls K C)(hs:findIn K (.ref C) "__setattr__" =some (some (.builtin "object.__setattr__")))(hm:Looks (aU prog w) s.heap (mroOf (.ref C)) (.ref C:: .ref P::bmVE))(na:findIn K (.ref C) name=some none)
  (e1:s.heap.get? x=some ⟨.ref C,some D,.fields us,ox.slots⟩) (n1:s.heap.Ns1 D mA) (hw:Within mA ns) (hz:ns.length<1000)
  (k:∀ h' tk,h'.Ns1 D (fun y=>if y=name then some v else mA y)→cb D s.heap h'→Q () { s with heap:=h',toks:=tk }) :
  aH (aU prog w) A (setAttr (.ref x) name v) Q E s:=by
 obtain ⟨oA,q1,_⟩:=oK n1;have J:InstAt s.heap x ⟨.ref C,some D,.fields us,ox.slots⟩ C (some oA):=⟨e1,rfl,rfl,q1⟩;refine set_plain kin J hs (x_open (s:={ s with toks:=s.toks+1 }) kin J hm T.ob na ?_);obtain ⟨cd,hc,hd⟩:=any_some T.dc;obtain ⟨hh,g,dr,t,os⟩:=s;refine ae (aA (ae (ae (wpAny_loadPart e1 (ae ((looks_clsIn kin hc).at ?_))))));rw [hd];refine aA (a:=some D) (ae (aA (ae (wpAny_nsSet1 n1 fun h' n3 same=>?_))));obtain ⟨oD,eD,pD,gD,hD,cD⟩:=n3.count (Within.cons name v hw);refine ae (wpAny_lookBehind gD (by rw [hD];exact pastItsLine_dict (aS cD (by rw [aY,eG];lia))) ?_);exact aA (k h' _ n3 same)
end
end L2
namespace L2
open PySem PySem.Spec PySem.W PyProof.Rows
def XN (x C:ai)(d:Option ai):HO:= .ext fun h=>∃ o us z0,h.get? x=some o∧o.cls= .ref C∧o.dict=d∧o.data= .fields us∧us[0]? =some (.ref z0)∧us[1]? =some .none
theorem XN.stay {x:ai}{o:Obj}{us:Array aa}{z0:ai}(p1:h.get? x=some o)(p2:o.cls= .ref C)(p3:o.dict=d)(p4:o.data= .fields us)(p5:us[0]? =some (.ref z0))(p6:us[1]? =some .none):ObjOk P w H h x (XN x C d) :=
 ⟨⟨o,us,z0,p1,p2,p3,p4,p5,p6⟩,⟨o,p1⟩,fun _ _ ⟨o,us,z0,p,r⟩ k=>⟨o,us,z0,k o p,r⟩⟩
theorem XD.stay {fs:List (Str×V)}(n:h.Ns1 D mA)(r:∀ f,RelO (fs.lookup f) (mA f))(wi:PySem.Within mA (fs.map (·.1))):ObjOk P w H h D (XD D fs) :=
 ⟨⟨mA,n,r,wi⟩,let ⟨o,_,_,e,_⟩:=n;⟨o,e⟩,fun _ _ ⟨mA,⟨o,es,ep,e,c⟩,r⟩ k=>⟨mA,⟨o,es,ep,k o e,c⟩,r⟩⟩
theorem upd_id {x:ai}(e:H x=some o):upd H x o=H:=by
 funext b
 unfold upd;split
 ·rename_i q;rw [q,e]
 ·rfl
structure XMk (K:Frag)(C P f:ai):Prop where
 lk:∃ nm q N bs sn sub ab col dd k0 k1 k2 k3 k5,K.lookup C=some (excClassObj nm q C N bs (.ref P::bmVE) true sn sub ab col dd k0 k1 k2 k3 k5 "ValueError.__new__")
 up:excIn K P bmVE "ValueError.__new__" =true
 init:findIn K (.ref C) "__init__" =some (some (.ref f))
 fn:isFn K (.ref f)=true
 kp:keepIn K (.ref C)=true
 sa:findIn K (.ref C) "__setattr__" =some (some (.builtin "object.__setattr__"))
theorem XMk.tail {K:Frag}{P:ai}(M:XMk K C P f)(kin:K.In h):∃ nm q N bs sn sub ab col dd k0 k1 k2 k3 k5,h.get? C=some (excClassObj nm q C N bs (.ref P::bmVE) true sn sub ab col dd k0 k1 k2 k3 k5 "ValueError.__new__")∧OwnTail h bmVE (.ref P::bmVE):=by
 obtain ⟨nm,q,N,bs,sn,sub,ab,col,dd,k0,k1,k2,k3,k5,e⟩:=M.lk;obtain ⟨tl,N',nm',q',bs',hdct',sn',sub',ab',col',dd',j0,j1,j2,j3,j5,mN,hP,hN,hni,_⟩:=(own_at (mg:=fun _=>some (.ref P)) (x := "") kin rfl M.up).obj;exact ⟨nm,q,N,bs,sn,sub,ab,col,dd,k0,k1,k2,k3,k5,kin _ _ e,.own hP hN hni .base⟩
theorem init_up {x P:ai}{a b:aa}(I:Inv X aJ σ H s)(e:H x=some (XN x C d))(M:XMk X.K C P f)(k:∀ s',Inv X aJ σ H s'→Q .none s') :
  aH (aU X.prog X.w) A (ir (.builtin "ValueError.__init__") [.ref x,a,b]) Q E s:=by
 have F:=PySem.F.excBase_ValueError;obtain ⟨⟨o,us,z0,p1,p2,p3,p4,p5,p6⟩,_,_⟩:=I.hok x _ e;obtain ⟨nm,q,N,bs,sn,sub,ab,col,dd,k0,k1,k2,k3,k5,hC,T⟩:=M.tail I.kIn;obtain ⟨hh,g,dr,t,os⟩:=s;refine iE (ke F.init.plain F.initEntry (wpAny_check_init_subT F T hC p1 p2 ?_));have ob:(hh.push { cls:= .type "tuple",data:= .seq [a,b].toArray }).get? x=some o:=ak _ p1;unfold cV.«BaseException.__init__»
 repeat (first | with_reducible refine bX ob p4 p5 ?_ | with_reducible refine jz ob p4 (dY.mp p5).1 ?_ | wp_step)
 have I1:Inv X aJ σ H ⟨hh.push { cls:= .type "tuple",data:= .seq [a,b].toArray },g,dr,t,os⟩:=I.kept (t':=t) fun b u q=>ak _ q
 have sz:0<us.size:=(dY.mp p5).1;have n1:=d9 (fN (·.setIfInBounds 0 (aa.ref hh.objs.size))) ob (jw (fj p4 _));have I2:=I1.write (x:=x) (e:=x) (o:=XN x C d) (t':=t) (h':=(hh.push { cls:= .type "tuple",data:= .seq [a,b].toArray }).update x (fN (·.setIfInBounds 0 (aa.ref hh.objs.size)))) (by rw [e];exact True.intro) (.inl rfl) (fun b u nb q=>(cy _ _ nb.symm).trans q) ⟨_,n1⟩
  (XN.stay n1 ((Obj.cls_mapFields _ _).trans p2) ((lU _ _).trans p3) (fj p4 _) (z0:=hh.objs.size) (by simp [sz]) (by rw [Array.getElem?_setIfInBounds_ne (by decide)];exact p6))
 rw [upd_id e] at I2;exact k _ I2
structure UpCls (K:Frag)(P:ai):Prop where
 ga:specialIn K (.ref P) "__getattribute__" =some (some (.builtin "type.__getattribute__"))
 rd:readsIn K P (.type "type")=true
 at_:findCls K (.ref P) (.type "type") "__init__" =some (.val (.builtin "ValueError.__init__"))
theorem xlaid (I:Inv X aJ σ H s)(J:Inv X aJ σ H' s')(nD:H' D=none)(hp:s.heap.objs.size≤D)(new:ObjOk X.prog X.w (upd H' D o) s'.heap D o):Inv X aJ σ (upd H' D o) s':=by
 have low:∀ b,b<s.heap.objs.size→b≠D:=fun b hb z=>by rw [z] at hb;exact e7 _ (aL hb hp)
 refine ⟨J.ok,J.os,J.bare,{ keep:=J.base.keep,slot:=J.base.slot,free:=fun b u e n x=>?_,there:=J.base.there,tups:=fun b xs e=>?_,frzs:=fun b u v e=>?_,tbls:=fun b ps e=>?_ },J.loc,J.cell,?_,fun y c e=>?_,fun p m=>?_,J.hok.take nD new,J.len⟩
 ·rw [aZ (low b (aL (aC e) I.sz))];exact J.base.free b u e n x
 ·have q:=J.base.tups b xs e
  rw [aZ (bB q nD)];exact q
 ·have q:=J.base.frzs b u v e
  rw [aZ (bB q nD)];exact q
 ·obtain ⟨more,q⟩:=J.base.tbls b ps e
  exact ⟨more,by rw [aZ (bB q nD)];exact q⟩
 ·rw [aZ (low _ I.lt)];exact J.free
 ·obtain ⟨v,u,q,_⟩:=I.cell y c e
  rw [aZ (low _ (aC q))];exact J.freeC y c e
 ·obtain ⟨a1,a2,a3,a4,a5⟩:=J.pin p m
  refine ⟨a1,?_,a3,a4,a5⟩;rw [aZ (low _ (aC (I.pin p m).1))];exact a2
theorem pe_upInit {P f0:ai}{e1 e2 e3:Expr}{p:Pos}{pl:Sem Bool}(U:UpCls X.K P)(M:XMk X.K C P f0)(hg:Gl X x)(hm:X.mg x=some (.ref P))(ha:PA X [e1,e2,e3] t)
  (hdb:(x == ("__debug__" :Str))=false:=by decide) (hst:bb [e1,e2,e3] X.env=(false,dg e1 X.env)::bb [e2,e3] X.env:=by rfl) (hpl:(dM pos (bb [e2,e3] X.env)).any (·.1)=false:=by rfl)
  (ht:dg (.Call (.Attribute (.Name x p) "__init__" apos) [e1,e2,e3] [] pos) X.env=(do
   let ov ← dg (.Name x p) X.env
   standAt apos.atName
   let (f,first) ← jD [ov] (getMethod ov "__init__" pl)
   callWith pos f first (dM pos (bb [e1,e2,e3] X.env)) (backToKw pos (keywordEach [] X.env))):=by rfl) :
  PE X (.Call (.Attribute (.Name x p) "__init__" apos) [e1,e2,e3] [] pos) (fun σ H Q=>t σ H fun vs H1=>∃ y a b d,vs=[.ref y,a,b]∧H1 y=some (XN y C d)∧Q .non H1):=by
 intro aJ s σ H Q I h;refine methodCall_KW (pl:=pl) (md I hg hm ?_ hdb) ht;refine method_cls I.kIn U.ga (cls_value I.kIn U.rd U.at_ rfl ?_);have I0:Inv X aJ σ H { s with toks:=s.toks+1 }:=I.tok _;refine PyProof.Rows.callWith_builtin1 (thn (ha pos aJ _ σ H _ I0 h) fun us s1 ⟨vs,H1,I1,r,y,a,b,d,ev,ey,q⟩=>?_) hst hpl;subst ev;cases r with
 | cons r1 r =>
 cases r with
 | cons r2 r =>
 cases r with
 | cons r3 r =>
 cases r;obtain rfl:_=aa.ref y:=r1;exact init_up I1 ey M fun s' I'=>⟨.non,H1,I',rfl,q⟩
theorem XMk.mro {K:Frag}{C P f:ai}{h:bw}{M':Model}(M:XMk K C P f)(kin:K.In h):Looks M' h (mroOf (.ref C)) (.ref C:: .ref P::bmVE):=by
 obtain ⟨nm,q,N,bs,sn,sub,ab,col,dd,k0,k1,k2,k3,k5,e⟩:=M.lk;have hc:clsIn K C=some { name:=nm,bases:=bs,mro:= .ref C:: .ref P::bmVE,ns:=N,qualname:=q,hasDict:=true,slotNames:=sn,subclasses:=sub,abstract:=ab,collection:=col,hasDel:=false }:=by
  unfold clsIn;rw [e]
 exact (looks_clsIn kin hc).andThen .now
theorem ps_xset {P f0:ai}{o:Expr}{f:Str}(M:XMk X.K C P f0)(T:XCls X.K C)(na:NoAttr X.K C f)(ha:PE X o ta)(hv:PE X value tv)(hs:j4 value (some (.Attribute o f pos')) pos.line X.env=eQ false:=by rfl) :
  PS X (.Assign [.Attribute o f pos'] value pos) (fun Dn σ H=>tv σ H fun y H1=>ta σ H1 fun x H2=>∃ a,x= .ref a ∧
   ((H2 a=some (XN a C none)∧∀ D,H2 D=none→D≠a→Dn.nx σ (upd (upd H2 a (XN a C (some D))) D (XD D [(f,y)]))) ∨
    (∃ D fs,H2 a=some (XN a C (some D))∧H2 D=some (XD D fs)∧D≠a∧fs.length<1000∧Dn.nx σ (upd H2 D (XD D (lQ f y fs)))))):=by
 intro aJ s σ H Dn I h;refine plainObj_wpAny_Assign_Attribute (thn (hv aJ s σ H _ I h) fun u s1 ⟨y,H1,I1,ry,q⟩=>thn (ha aJ s1 σ H1 _ I1 q) fun ov s2 ⟨x,H2,I2,rx,a,ex,q2⟩=>?_) hs;subst ex;obtain rfl:ov=aa.ref a:=rx
 rcases q2 with ⟨ea,q2⟩ | ⟨D,fs,ea,eD,nD,lf,q2⟩
 ·obtain ⟨⟨⟨oc,odi,oda,osl⟩,us,z0,p1,p2,p3,p4,p5,p6⟩,_,_⟩:=I2.hok a _ ea
  dsimp only at p2 p3 p4
  subst p2 p3 p4;refine x_set0 (ox:=⟨.ref C,none,.fields us,osl⟩) I2.kIn T M.sa (M.mro I2.kIn) na p1 fun h' tk n3 e3 k3=>?_
  have fresh:H2 s2.heap.objs.size=none:=I2.hok.fresh (az _);have ne:s2.heap.objs.size≠a:=bZ (aC p1);have J1:Inv X aJ σ (upd H2 a (XN a C (some s2.heap.objs.size))) { s2 with heap:=h',toks:=tk } :=
   I2.write (x:=a) (e:=a) (by rw [ea];exact True.intro) (.inl rfl) (fun b u nb q=>k3 b u nb q) ⟨_,e3⟩ (XN.stay e3 rfl rfl rfl p5 p6)
  have g1:upd H2 a (XN a C (some s2.heap.objs.size)) s2.heap.objs.size=none:=by rw [aZ ne];exact fresh
  refine ⟨σ,_,?_,q2 _ fresh ne⟩;refine xlaid I2 J1 g1 (az _) (XD.stay n3 (fun g=>?_) fun g hg=>?_)
  ·show RelO (cZ g [(f,y)]) (if g=f then some u else none)
   by_cases z:g=f
   ·subst z;simp [cZ];exact ry
   ·have z':(g == f)=false:=by simpa using z
    rw [pN z];simp [cZ,z'];trivial
  ·by_cases z:g=f
   ·rw [z];simp
   ·exact pP (by rw [pN z]) hg
 ·obtain ⟨⟨⟨oc,odi,oda,osl⟩,us,z0,p1,p2,p3,p4,p5,p6⟩,_,_⟩:=I2.hok a _ ea
  dsimp only at p2 p3 p4
  subst p2 p3 p4;obtain ⟨⟨mA,n1,rl,wi⟩,_,_⟩:=I2.hok D _ eD;refine x_set1 (ox:=⟨.ref C,some D,.fields us,osl⟩) (ns:=fs.map (·.1)) I2.kIn T M.sa (M.mro I2.kIn) na p1 n1 wi (by rw [af];exact lf) fun h' tk n3 same=>?_
  refine ⟨σ,_,I2.write (x:=D) (e:=D) (by rw [eD];exact True.intro) (.inl rfl) (fun b u nb q=>(same.2 b nb).trans q) (let ⟨o,_,_,e,_⟩:=n3;⟨o,e⟩) (XD.stay n3 (fun g=>?_) fun g hg=>?_),q2⟩
  ·show RelO ((lQ f y fs).lookup g) (if g=f then some u else mA g)
   rw [jU]
   by_cases q:g=f
   ·rw [pO q,pO q];exact ry
   ·rw [pN q,pN q];exact rl g
  ·by_cases q:g=f
   ·rw [q];exact (kZ f y fs).1
   ·refine (kZ f y fs).2 g (wi g fun z=>hg ?_)
    show (if g=f then some u else mA g)=none;rw [pN q];exact z
def nk (H:Hp)(x:ai):Hp:=fun b=>if b=x then none else H b
theorem dropH_at {x:ai}:nk H x x=none:=by unfold nk;rw [pO rfl]
theorem lP {x b:ai}(n:b≠x):nk H x b=H b:=by unfold nk;rw [pN n]
theorem dropH_two {x:ai}{u:HO}(n:H x=none)(ne:D≠x):nk (upd (upd H x o) D u) x=upd H D u:=by
 funext b
 unfold nk upd
 by_cases q:b=x
 ·rw [pO q,q,pN (cn ne),n]
 ·rw [pN q,pN q]
theorem Inv.drop {x:ai}(I:Inv X aJ σ H s)(e:H x=some (XN x C d)):Inv X aJ σ (nk H x) s:=by
 have nx:∀ b o,H b=some o→o≠XN x C d→b≠x:=fun b o q n z=>by rw [z,e] at q;exact n (bC q).symm
 refine ⟨I.ok,I.os,I.bare,{ keep:=I.base.keep,slot:=I.base.slot,free:=fun b u q n z=>?_,there:=I.base.there,tups:=fun b xs q=>?_,frzs:=fun b u v q=>?_,tbls:=fun b ps q=>?_ },I.loc,I.cell,?_,fun y c q=>?_,fun p m=>?_,fun b o q=>?_,I.len⟩
 ·have:=I.base.free b u q n z
  unfold nk;split
  ·rfl
  ·exact this
 ·have r:=I.base.tups b xs q
  rw [lP (nx b _ r nofun)];exact r
 ·have r:=I.base.frzs b u v q
  rw [lP (nx b _ r nofun)];exact r
 ·obtain ⟨more,r⟩:=I.base.tbls b ps q
  exact ⟨more,by rw [lP (nx b _ r nofun)];exact r⟩
 ·unfold nk
  split
  ·rfl
  ·exact I.free
 ·have:=I.freeC y c q
  unfold nk;split
  ·rfl
  ·exact this
 ·obtain ⟨a1,a2,a3,a4,a5⟩:=I.pin p m
  refine ⟨a1,?_,a3,a4,a5⟩;unfold nk;split
  ·rfl
  ·exact a2
 ·have nb:b≠x:=fun z=>by rw [z,dropH_at] at q;cases q
  rw [lP nb] at q;exact (I.hok b o q).stay (fun _ _ _ r=>r) (fun c r=>by rw [lP (nx c _ r nofun)];exact r) fun c xs r=>by rw [lP (nx c _ r nofun)];exact r
theorem run_makeX {k:Nat}{P:ai}{sp:Sp}{E:XK}{Q:VK}{vs:List V}(M:XMk X.K C P f)(F:FnOk X.prog X.w X.K X.mg X.base CX k f fd ps sp)(hr:Room (k+1) X.A)(hb:Binds X.K fd ps ds)(hd:Vals dvs ds)
  (hx:lH CX X E) (hz:ps.length≤aR) (I:Inv X aJ σ H s) (r:Vals vs us)
  (h:∀ y,H y=none→X.s₀.heap.objs.size≤y→sp (.ref y::(vs++dvs)) (upd H y (XN y C none)) (fun v H2=>v= .non∧Q (.ref y) H2) E) :
  aH (aU X.prog X.w) X.A (ir (.ref C) us) (EP X aJ σ Q) X.xe s:=by
 have FB:=PySem.F.excBase_ValueError;obtain ⟨nm,q,N,bs,sn,sub,ab,col,dd,k0,k1,k2,k3,k5,hC,T⟩:=M.tail I.kIn;obtain ⟨oI,ho,hc⟩:=aI.mp (beq_iff_eq.mp M.fn);have sz:=I.sz;obtain ⟨hh,g,dr,t,os⟩:=s;have hq:=h (hh.objs.size+1) (I.hok.fresh (gZ _)) (aS sz (gZ _));have I2:Inv X aJ σ (upd H (hh.objs.size+1) (XN (hh.objs.size+1) C none)) ⟨xNew hh C us,g,dr,t,os⟩ :=
  I.laid (a:=hh.objs.size+1) (t':=t) (fun b u q=>mz q) (gZ _) (XN.stay xNew_at rfl rfl rfl (z0:=hh.objs.size) rfl rfl)
 have r2:Vals (V.ref (hh.objs.size+1)::(vs++dvs)) (aa.ref (hh.objs.size+1)::(us++ds)):= .cons rfl (r.append hd);have hl:(aa.ref (hh.objs.size+1)::us++ds).length=ps.length:=by
  have e:=r2.length;rw [F.len _ _ _ _ hq] at e;exact e.symm
 have hlen:us.length≤aR:=by
  rw [List.cons_append,aY,av] at hl;lia
 refine xcall FB T hC (looks_findIn I.kIn M.init) (I.kIn _ _ ho) hc hlen ?_;refine iE (jF (F.run _ X.stack _ _ ⟨aa.ref (hh.objs.size+1)::us,[]⟩ (aa.ref (hh.objs.size+1)::(us++ds)) _ _ E (hr.make C us []) (I2.env0.make C us []) (hb _ (aa.ref (hh.objs.size+1)::us) I2.kIn hl) r2 hq) fun r s' hq'=>?_);cases r with
 | error e=>exact hx aJ σ _ _ e s' I2 hq'
 | ok fl =>
  cases fl with
  | ret u =>
   obtain ⟨v,H',I3,rv,ev,q3⟩:=I2.after hq';subst ev;exact ⟨rv,⟨V.ref (hh.objs.size+1),H',I3,rfl,q3⟩⟩
  | next=>exact cI hq'
  | brk=>exact cI hq'
  | cont=>exact cI hq'
theorem pe_makeX {k:Nat}{P:ai}{sp:Sp}{E:XK}{p:Pos}(M:XMk X.K C P f)(F:FnOk X.prog X.w X.K X.mg X.base CX k f fd ps sp)(hr:Room (k+1) X.A)(hg:Gl X x)(hm:X.mg x=some (.ref C))(hb:Binds X.K fd ps ds)(hd:Vals dvs ds)(hx:lH CX X E)(hz:ps.length≤aR)
  (ha:PA X (e::es) t) (hdb:(x == ("__debug__" :Str))=false:=by decide) (he:bb (e::es) X.env=(false,dg e X.env)::bb es X.env:=by rfl) (hpl:(dM pos (bb es X.env)).any (·.1)=false:=by rfl) :
  PE X (.Call (.Name x p) (e::es) [] pos) (fun σ H Q=>t σ H fun vs H1=>∀ y,H1 y=none→X.s₀.heap.objs.size≤y→sp (.ref y::(vs++dvs)) (upd H1 y (XN y C none)) (fun v H2=>v= .non∧Q (.ref y) H2) E):=by
 intro aJ s σ H Q I h;refine dv (md I hg hm ?_ hdb);refine callWith_K (h₀:=X.base) I.ok.mod.kin M.kp (thn (ha pos aJ s σ H _ I h) fun us s1 ⟨vs,H1,I1,r,q⟩=>⟨I1.kIn,?_⟩) he hpl;exact run_makeX M F hr hb hd hx hz I1 r q
theorem raise_made {nm:Str}{N:ai}{bs bm:List aa}{ab:Bool}{k0 k1 k2 k3 k5:Option aa}{v:Sem aa}{Q:Flow→ao→Prop}(hbase:bm.contains (.type "BaseException")=true)(hh:A.handled=none)
  (h:aH M A v (fun u s1=>∃ e d us z0 sl,u= .ref e∧s1.heap.get? C=some (excClassObj nm q C N bs bm hdct sn sub ab col dd k0 k1 k2 k3 k5 newId)∧s1.heap.get? e=some ⟨.ref C,d,.fields us,sl⟩∧us[0]? =some z0∧us[1]? =some .none∧E (.ref e) s1) E s) :
  aH M A (raiseStmt env (some v) none) Q E s:=by
 have hcB:(aa.ref C::bm).contains (.type "BaseException")=true:=by rw [List.contains_cons,hbase,Bool.or_true]
 unfold raiseStmt;refine ae (bH h (fun u s1 h1=>?_) fun _ _ z=>z);obtain ⟨e,d,us,z0,sl,rfl,hC,he,e0,en,hE⟩:=h1;obtain ⟨hp,g,dr,tk,os⟩:=s1
 repeat (first | with_reducible refine bX he rfl en ?_ | with_reducible refine fS he ?_ | with_reducible refine fS hC ?_ | (with_reducible refine wpAny_isSubtype_exc hC ?_;rw [hcB]) | wp_step)
 exact wpAny_raiseNew_none hh hE
theorem ps_raiseV {E:XK}{P:ai}(D:XDef X E)(hc:X.calm=true)(M:XMk X.K C P f)(he:PE X e te) :
  PS X (.Raise (some e) none pos) (fun _ σ H=>te σ H fun v H1=>∃ y d,v= .ref y∧X.s₀.heap.objs.size≤y∧H1 y=some (XN y C d)∧E (.ref C) d (nk H1 y)):=by
 intro aJ s σ H Dn I h;obtain ⟨nm,q,N,bs,sn,sub,ab,col,dd,k0,k1,k2,k3,k5,hC,T⟩:=M.tail I.ok.mod.kin;rw [arm_exec_Raise];simp only [evalOpt,Option.map];refine ae (wpAny_standAt (raise_made (C:=C) (nm:=nm) (q:=q) (N:=N) (bs:=bs) (bm:= .ref P::bmVE) (hdct:=true) (sn:=sn) (sub:=sub) (ab:=ab) (col:=col) (dd:=dd) (k0:=k0) (k1:=k1) (k2:=k2) (k3:=k3) (k5:=k5) (newId := "ValueError.__new__") (T.hasType rfl) (I.ok.hd hc) ?_));refine ae (bH (he aJ s σ H _ I h) (fun v s3 h3=>ae (wpAny_standAt (aA ?_))) fun _ _ z=>z);obtain ⟨w,H1,I1,rw1,y,d,rfl,far,ey,hE⟩:=h3;obtain rfl:v=aa.ref y:=rw1;obtain ⟨⟨⟨oc,odi,oda,osl⟩,us,z0,p1,p2,p3,p4,p5,p6⟩,_,_⟩:=I1.hok y _ ey
 dsimp only at p2 p3 p4
 subst p2 p3 p4;exact ⟨y,odi,us,_,osl,rfl,I1.bk _ _ hC,p1,p5,p6,D.made aJ σ (nk H1 y) s3 y _ us _ (I1.drop ey) dropH_at (bw.get?_none_of_le far) p1 rfl p6 p5 hE⟩
end L2
namespace HN
open PySem L2 PyProof.Rows
def tgF (a b:Int):List (Str×V):=lQ "most" (.int b) [("many",.int a)]
theorem tgF_many {a:Int}:(tgF a b).lookup ("many" :Str)=some (V.int a):=by unfold tgF;rw [jU];rfl
theorem tgF_most {a:Int}:(tgF a b).lookup ("most" :Str)=some (V.int b):=by unfold tgF;rw [jU];rfl
def XE (C:ai)(a b:Int)(E:XK)(H:Hp):Prop:=∀ D H',Same H H'→H' D=some (XD D (tgF a b))→E (.ref C) (some D) H'
inductive spInitTG (C:ai)(vs:List V)(H:Hp)(Q:VK)(_:XK):Prop
 | mk (x:ai)(a b:Int)(_:vs=[.ref x,.int a,.int b])(_:H x=some (XN x C none))(_:∀ D,H D=none→D≠x→Q .non (upd (upd H x (XN x C (some D))) D (XD D (tgF a b))))
structure TGc (K:au)(mg:Str→Option aa)(C P f:ai):Prop where
 mke:XMk K C P f
 up:UpCls K P
 cl:XCls K C
 na1:NoAttr K C "many"
 na2:NoAttr K C "most"
 mgC:mg "TooGreat" =some (.ref C)
 mgP:mg "HourError" =some (.ref P)
abbrev cTooG:cG:=top 7
abbrev sInitTG:cG:=clsDef cTooG 0
theorem scInitTG:cj pzu pzu (defScope sInitTG):=by trivial
theorem ok_initTG {U:ai}(F:Fun K "__init__" "TooGreat.__init__" sInitTG f fd)(T:TGc K mg C U f):FnOk P w K mg base CX0 1 f fd pzu (spInitTG C):=by
 refine F.ok scInitTG (by contradiction) (fun cdv A outer s H vs Q E hr h=>?_);obtain ⟨x,a,b,rfl,hx,k⟩:=h;refine ⟨_,PSl.h (bg ⟨(jS (pe_upInit T.up T.mke rfl T.mgP (aq (pv 0) (aq (pv 1) (aq (pv 2) aP)))))⟩
  (bg ⟨(ps_xset T.mke T.cl T.na1 (pv 0) (pv 1))⟩
  (c9 ⟨(ps_xset T.mke T.cl T.na2 (pv 0) (pv 2))⟩))),?_⟩
 refine ⟨_,rfl,_,rfl,_,rfl,x,_,_,none,rfl,hx,?_⟩;refine ⟨_,rfl,_,rfl,x,rfl,.inl ⟨hx,fun D nD ne=>?_⟩⟩;refine ⟨_,rfl,_,rfl,x,rfl,.inr ⟨D,_,by rw [aZ (cn ne)];exact aW,aW,ne,by show 1<1000;decide,?_⟩⟩;rw [upd_upd];exact k D nD ne
end HN
namespace L2
open PySem PySem.Spec PyProof.Rows
theorem FnOk.up {k:Nat}{sp:Sp}(F:FnOk P w K mg base CX0 k f fd ps sp):FnOk P w K mg base CX k f fd ps sp :=
 ⟨F.len,fun A outer s H args us vs Q E hr he hb hv hs=>jF (F.run A outer s H args us vs Q E hr he hb hv hs) fun r s' h=>by
  cases r with
  | error e=>exact h.elim
  | ok c=>cases c <;> exact h⟩
theorem FnOk.or {k:Nat}{sp sp':Sp}(F:FnOk P w K mg base CX k f fd ps sp)(G:FnOk P w K mg base CX k f fd ps sp'):FnOk P w K mg base CX k f fd ps (fun vs H Q E=>sp vs H Q E∨sp' vs H Q E) :=
 ⟨fun vs H Q E h=>h.elim (F.len vs H Q E) (G.len vs H Q E),fun A outer s H args us vs Q E hr he hb hv hs=>hs.elim (F.run A outer s H args us vs Q E hr he hb hv) (G.run A outer s H args us vs Q E hr he hb hv)⟩
end L2
namespace HN
open PySem L2 PyProof.Rows
inductive spTooM (C:ai)(T0:ai)(p0:Pos)(q0:Str)(vs:List V)(H:Hp)(_:VK)(E:XK):Prop
 | mk (v:V)(b m mn:Int)(sp:List Sn)(_:vs=[v])(_:IsD H v (kN b m sp))(_:NetT b m sp)(_:(∀ l,FrstL m.toNat sp l→jg sp l=mn))(_:4096<mn)(_:L2.LamT T0 p0 q0 H)(_:∀ H',L2.Tb T0 H H'→L2.LamT T0 p0 q0 H'→XE C mn 4096 E H')
theorem passX {E:XK}:lH CX0 X E:=fun _ _ _ _ _ _ _ h=>h.elim
theorem pcX {E:XK}{k:Nat}{sp:Sp}{p:Pos}(G:Fn X.K X.mg x st ps f fd)(F:FnOk X.prog X.w X.K X.mg X.base (CXN X.prog X.w) k f fd ps sp)(hr:Room k X.A)(hx:lH (CXN X.prog X.w) X E)
  (ha:PA X (e::es) t) (hg:Gl X x:=by rfl) (hdb:(x == ("__debug__" :Str))=false:=by decide) (he:bb (e::es) X.env=(false,dg e X.env)::bb es X.env:=by rfl) (hpl:(dM pos (bb es X.env)).any (·.1)=false:=by rfl) :
  PE X (.Call (.Name x p) (e::es) [] pos) (tCall sp [] E t):=pe_call F hr hg G.mg G.F.kp G.b .nil hx ha hdb he hpl
theorem ok_tooMany {U fi:ai}{fdi:bf}(F:Fun K "table_for" "table_for" kF f fd)(MC:∃ t,mg "MOST_CASES" =some (.int 4096 t))(TG:TGc K mg C U fi)(FI:FnOk P w K mg base CX0 1 fi fdi pzu (spInitTG C))(BI:Binds K fdi pzu [])
  (G1:Fn K mg "cases_of" sCases pza f1 fd1) (F1:FnOk P w K mg base CX0 7 f1 fd1 pza (spCases T0 p0 q0)):FnOk P w K mg base (CXN P w) 12 f fd pza (spTooM C T0 p0 q0):=by
 refine F.okX mH (by contradiction) (fun cdv A outer s H vs Q E hr D h=>?_);obtain ⟨v,b,m,mn,sp,rfl,hv,N,hc,big,hT0,kE⟩:=h;have hr2:Room 2 _:=hr.mono (by decide);have hr7:Room 7 _:=hr.mono (by decide);refine ⟨_,PSl.h (bg ⟨(psZ 1 mH.nd (pc1 G1 F1 hr7 (aq (pv 0) aP)))⟩
  (bg ⟨(jB (dE op_gt (pv 1) (oG MC) (eO _)) (dA (ps_raiseV D rfl TG.mke (pe_makeX (E:=E0) TG.mke FI hr2 rfl TG.mgC BI .nil passX (by decide) (aq (pv 1) (aq (oG MC) aP))))) fF)⟩
  (bg ⟨jv⟩ (bg ⟨jv⟩ (c9 ⟨jv⟩))))),?_⟩
 refine ⟨_,rfl,v,b,m,sp,rfl,hv,N,by have:=N.b2;lia,hT0,fun H1 l tb1 hT01 fr=>?_⟩;rw [hc l fr];refine ⟨_,rfl,_,_,rfl,rfl,_,rfl,iteB (pQ big) ?_⟩;refine ⟨_,rfl,fun y ny far=>⟨y,_,_,rfl,aW,fun d nd ne=>⟨rfl,y,some d,rfl,far,?_,?_⟩⟩⟩
 ·rw [aZ (cn ne)];exact aW
 ·rw [upd_upd,dropH_two ny ne]
  rw [aZ ne] at nd;exact kE H1 tb1 hT01 d _ ((Same.refl H1).put nd) aW
abbrev om:cG:=top 44
abbrev sMvP:cG:=top 45
abbrev sHeldF:cG:=top 46
def shM (b:Int)(ts us:List Int):List Int:=List.zipWith (fun t u=>(t - u) % b) ts us
theorem shM_len {us:List Int}(h:us.length=ts.length):(shM b ts us).length=ts.length:=by unfold shM;rw [List.length_zipWith,h,Nat.min_self]
theorem shM_tm {us:List Int}(h:us.length=ts.length){k:Int}(h0:0≤k)(h1:k<ts.length):tm (shM b ts us) k=(tm ts k - tm us k) % b:=by
 have h2:k.toNat<ts.length:=by lia
 have h3:k.toNat<us.length:=by lia
 unfold tm shM;rw [ah,ah,ah,List.getElem?_zipWith,gE h2,gE h3];rfl
inductive nJ (vs:List V)(H:Hp)(Q:VK)(_:XK):Prop
 | mk (v:V)(u1 u2:ai)(b m:Int)(sp:List Sn)(ts us:List Int)(_:vs=[v,.ref u1,.ref u2])(_:IsD H v (kN b m sp))(_:0<b)(_:H u1=some (.tup (ts.map V.int)))(_:H u2=some (.tup (us.map V.int)))(_:us.length=ts.length)(_:ts.length≤1000)(_:∀ (L:ai) (H':Hp),Same H H'→H L=none→H' L=some (.lst ((shM b ts us).map V.int))→Q (.ref L) H')
def setA (v:Int→Int)(l:List Int)(X:List Int):List Int:=l.foldl (fun X z=>X.set z.toNat (v z)) X
theorem setA_len {v:Int→Int}:∀ (l X:List Int),(setA v l X).length=X.length
 | [],_=>rfl
 | z::l,X=>by
  show (setA v l (X.set z.toNat (v z))).length=_;rw [setA_len l,gu]
theorem setA_tm {v:Int→Int}{k:Int}(k0:0≤k):∀ (l X:List Int),(∀ z∈l,0≤z∧z<X.length)→tm (setA v l X) k=if k∈l then v k else tm X k
 | [],_,_=>by rw [pN (by simp)];rfl
 | z::l,X,h=>by
  obtain ⟨z0,z1⟩:=h z (by simp);show tm (setA v l (X.set z.toNat (v z))) k=_;rw [setA_tm k0 l _ (fun y hy=>by rw [gu];exact h y (aD _ hy)),lR z0 z1 k0]
  by_cases e:k∈l
  ·rw [pO e,pO (aD _ e)]
  ·rw [pN e]
   by_cases q:k=z
   ·rw [pO q,pO (by rw [q];simp),q]
   ·rw [pN q,pN (fun y=>(aF.mp y).elim q e)]
theorem setA_snoc {v:Int→Int}{l X:List Int}:setA v (l++[z]) X=(setA v l X).set z.toNat (v z):=by unfold setA;rw [cx];rfl
inductive spMvP (vs:List V)(H:Hp)(Q:VK)(_:XK):Prop
 | mk (v:V)(p u q:ai)(b m:Int)(sp:List Sn)(zs:List V)(fs ts:List Int)(g:Int→Int)(_:vs=[v,.ref p,.ref u,.ref q])(_:IsD H v (kN b m sp))(_:0<b)(_:H p=some (.lst zs))(_:PtsD H zs fs)(_:H u=some (.tup (ts.map V.int)))(_:fs.length=ts.length)(_:ts.length≤1000)(_:H q=some (.lst (((iJ fs).map g).map V.int)))(_:∀ (r:ai) (H':Hp) (X:List Int),Same H H'→H' r=some (.tup (X.map V.int))→X.length=ts.length→(∀ k:Int,0≤k→k<ts.length→tm X k=(tm ts k+g (tm fs k)) % b)→Q (.ref r) H')
def hdF (fs:List Int)(f:Int):Int:=(kU fs f).headD 0
theorem idxF_hd {fs:List Int}{f:Int}(h:f∈iJ fs):(kU fs f)[0]? =some (hdF fs f)∧0≤hdF fs f∧hdF fs f<fs.length∧tm fs (hdF fs f)=f:=by
 have h:=(kI fs).mp h;obtain ⟨i,hi,e⟩:=bM h;have m0:((i:Nat):Int)∈kU fs f:=kH.mpr ⟨by lia,by lia,by unfold tm;rw [bV,ah,gE hi];exact e⟩;unfold hdF;cases e2:kU fs f with
 | nil=>rw [e2] at m0;cases m0
 | cons a l=>exact ⟨rfl,kH.mp (by rw [e2];exact aX)⟩
inductive spHeldF (vs:List V)(H:Hp)(Q:VK)(_:XK):Prop
 | mk (v:V)(p u1 u2:ai)(b m:Int)(sp:List Sn)(zs:List V)(fs ts us:List Int)(_:vs=[v,.ref p,.ref u1,.ref u2])(_:IsD H v (kN b m sp))(_:0<b)(_:H p=some (.lst zs))(_:PtsD H zs fs)(_:H u1=some (.tup (ts.map V.int)))(_:H u2=some (.tup (us.map V.int)))(_:us.length=ts.length)(_:fs.length=ts.length)(_:ts.length≤1000)(_:∀ (r:ai) (H':Hp) (X:List Int),Same H H'→H' r=some (.tup (X.map V.int))→X.length=ts.length→(∀ k:Int,0≤k→k<ts.length→tm X k=(tm us k+(tm ts (hdF fs (tm fs k)) - tm us (hdF fs (tm fs k))) % b) % b)→Q (.ref r) H')
theorem scShifts:cj pzk pzk (defScope om):=by trivial
theorem ok_shifts (F:Fun K "shifts_between" "shifts_between" om f fd)(T2:Nt mg)(G1:Fn K mg "rest_by" sRest pzg f1 fd1):FnOk P w K mg base CX0 2 f fd pzk nJ:=by
 have F1:FnOk P w K mg base CX0 1 f1 fd1 pzg spRest:=ok_rest G1.F;refine F.ok scShifts (by contradiction) (fun cdv A outer s H vs Q E hr h=>?_);obtain ⟨v,u1,u2,b,m,sp,ts,us,rfl,hv,b0,h1,h2,lu,few,k⟩:=h;obtain ⟨t,p,ys,rfl,ht,hp,hl,hy⟩:=fH hv;refine ⟨_,PSl.h (c9 ⟨(cM (pe_compT (xs:=["time","base"]) (fr:=pza) (js:=[0]) rfl (pi_zip2 rfl T2.zip (aq (pv 1) (aq (pv 2) aP))) (by trivial) rfl (by trivial) (by exists om) rfl (by trivial) (fun _ _ _ _ _=>pg_two rfl (by trivial) rfl rfl) (fun _ _ _ _ _=>⟨(pc1 G1 F1 hr (aq (eN (r:=rIxT K) fu (pv 2) bR (fun _ _=>rfl)) (aq (dU op_sub (pv 0) (pv 1)) aP))),ig⟩)))⟩),?_⟩;refine ⟨_,rfl,_,rfl,⟨false,u1⟩,⟨false,u2⟩,_,_,rfl,h1,h2,?_⟩;refine compT_zip2 (K:=K) (c1:=⟨false,u1⟩) (c2:=⟨false,u2⟩) (xs:=ts.map V.int) (ys:=us.map V.int) (fun i zs H2=>Same H H2∧zs=((shM b ts us).take i).map V.int) ⟨Same.refl H,rfl⟩ (fun i zs H2 hi ⟨S2,e2⟩=>⟨S2 _ _ h1,S2 _ _ h2,?_⟩) (by rw [af,af,lu]) (by rw [af];exact eK few) (fun i x y zs pz H2 hx hx' ⟨S2,e2⟩ hpz=>?_) (fun zs H2 ⟨S2,e2⟩ D hD=>?_)
 ·rw [e2,af,bI];lia
 ·rw [ax] at hx hx'
  obtain ⟨x,ex,rfl⟩:=aI.mp hx;obtain ⟨y,ey,rfl⟩:=aI.mp hx';have S3:Same H (upd H2 pz (.tup [.int x,.int y])):=S2.put hpz;generalize upd H2 pz (.tup [.int x,.int y])=H3 at S3 ⊢;refine gk ?_;refine ⟨_,rfl,t,_,_,_,rfl,rfl,SqT.of (S3 _ _ ht),bc (j:=0) rfl,_,rfl,_,rfl,_,_,rfl,rfl,b,_,rfl,b0,S3,?_⟩;have e3:(shM b ts us)[i]? =some ((x - y) % b):=by unfold shM;rw [List.getElem?_zipWith,ex,ey]
  rw [e2,bh,e3,aM];rfl
 ·rw [af,←shM_len (b:=b) lu,bo] at e2
  rw [e2];exact k D _ (S2.put hD) (S2.free hD) aW
theorem scMvP:cj ["net","parts","table","shifts","times","part","shift","happening"] pzm (defScope sMvP):=by trivial
theorem ok_mvP (F:Fun K "moved_in_parts" "moved_in_parts" sMvP f fd)(T:Nm mg)(T2:Nt mg)(G1:Fn K mg "rest_by" sRest pzg f1 fd1):FnOk P w K mg base CX0 2 f fd pzm spMvP:=by
 have F1:FnOk P w K mg base CX0 1 f1 fd1 pzg spRest:=ok_rest G1.F;refine F.ok scMvP (by contradiction) (fun cdv A outer s H vs Q E hr h=>?_);obtain ⟨v,p,u,q,b,m,sp,zs,fs,ts,g,rfl,hv,b0,hp,hz,hu,lf,few,hq,k⟩:=h;obtain ⟨t,pp,ys,rfl,ht,hpp,hl,hy⟩:=fH hv;obtain ⟨As,rfl,lA,hA⟩:=hz;refine ⟨_,PSl.h (bg ⟨(psZ 4 scMvP.nd (eR call_list_of rfl T2.tlist boot_list (aq (pv 2) aP)))⟩
  (bg ⟨(iW bO rfl (pi_zip2 rfl T2.zip (aq (pv 1) (aq (pv 3) aP))) (pg_tup rfl (lL (pgZ 5 scMvP.nd) (lL (pgZ 6 scMvP.nd) pgs_nil))) (dA (iW bO rfl (fU (pv 5)) (pgZ 7 scMvP.nd) (dA (pB (pc1 G1 F1 hr (aq (ixZ (pv 0)) (aq (dU iA (eN fu (pv 2) (pv 7) (fun _ _=>rfl)) (pv 6)) aP))) (pG (pv 4) (pv 7) lJ))))))⟩
  (c9 ⟨(cM (eR ji rfl T.ttup jj (aq (pv 4) aP)))⟩))),?_⟩
 refine ⟨_,rfl,u,_,rfl,.inr (SqT.of hu),fun L hL=>?_⟩;have S1:Same H (upd H L (.lst (ts.map V.int))):=(Same.refl H).put hL;have h1:(upd H L (.lst (ts.map V.int))) L=some (.lst (ts.map V.int)):=aW;generalize upd H L (.lst (ts.map V.int))=H1 at S1 h1 ⊢;refine ⟨_,rfl,_,rfl,⟨true,p⟩,⟨true,q⟩,_,_,rfl,S1 _ _ hp,S1 _ _ hq,?_⟩;refine for_zip2 (c1:=⟨true,p⟩) (c2:=⟨true,q⟩) (xs:=As.map V.ref) (ys:=((iJ fs).map g).map V.int) (fun j σ H2=>Same H H2∧(∃ X:List Int,H2 L=some (.lst (X.map V.int))∧X.length=ts.length∧∀ k:Int,0≤k→k<ts.length→tm X k=if tm fs k∈(iJ fs).take j then (tm ts k+g (tm fs k)) % b else tm ts k)∧∃ v5 v6 v7,σ=[some (.ref t),some (.ref p),some (.ref u),some (.ref q),some (.ref L),v5,v6,v7]) ⟨S1,⟨ts,h1,rfl,fun k _ _=>by rw [pN (by simp)]⟩,none,none,none,rfl⟩ (fun i σ H2 _ ⟨S2,_⟩=>⟨S2 _ _ hp,S2 _ _ hq⟩) (by rw [af,af,af,lA]) ?_ ?_
 ·rintro j x y pz σ H2 hx hx' ⟨S2,⟨X,hX,lX,eX⟩,v5,v6,v7,rfl⟩ hpz
  rw [ax] at hx;obtain ⟨A,eA,rfl⟩:=aI.mp hx;rw [ax,ax] at hx';obtain ⟨_,e0,rfl⟩:=aI.mp hx';obtain ⟨f,ef,rfl⟩:=aI.mp e0;have S3:Same H (upd H2 pz (.tup [.ref A,.int (g f)])):=S2.put hpz;have h3:(upd H2 pz (.tup [.ref A,.int (g f)])) pz=some (.tup [.ref A,.int (g f)]):=aW;have hX3:(upd H2 pz (.tup [.ref A,.int (g f)])) L=some (.lst (X.map V.int)):=by rw [aZ (bB hX hpz)];exact hX
  generalize upd H2 pz (.tup [.ref A,.int (g f)])=H3 at S3 h3 hX3 ⊢;have hAH:=hA j f A ef eA;have hm:∀ z∈kU fs f,0≤z∧z<X.length:=fun z hz=>by
   obtain ⟨a,c,_⟩:=kH.mp hz;exact ⟨a,by lia⟩
  refine ⟨pz,_,rfl,SqT.of h3,rfl,_,_,rfl,_,_,rfl,rfl,?_⟩;refine ⟨_,rfl,A,rfl,⟨_,SqL.of (S3 _ _ hAH)⟩,?_⟩;refine jE (K:=K) (a:=A) (xs:=(kU fs f).map V.int) (fun i σ HD=>Same H HD∧HD L=some (.lst ((setA (fun z=>(tm ts z+g f) % b) ((kU fs f).take i) X).map V.int))∧∃ w7,σ=[some (.ref t),some (.ref p),some (.ref u),some (.ref q),some (.ref L),some (.ref A),some (.int (g f)),w7]) ⟨S3,hX3,v7,rfl⟩ (fun i σ HD _ ⟨h,_⟩=>SqL.of (h _ _ hAH)) ?_ ?_
  ·rintro i y σ HD hy' ⟨SD,hD,w7,rfl⟩
   rw [ax] at hy';obtain ⟨z,ez,rfl⟩:=aI.mp hy';obtain ⟨z0,z1⟩:=hm z (aO ez);refine ⟨_,rfl,t,_,_,_,rfl,rfl,SqT.of (SD _ _ ht),bc (j:=0) rfl,_,rfl,_,rfl,u,_,_,_,rfl,rfl,SqT.of (SD _ _ hu),nZ z0 (by lia),_,rfl,_,_,rfl,rfl,b,_,rfl,b0,?_⟩;refine ⟨_,rfl,_,rfl,L,_,_,_,rfl,rfl,hD,ixN_int z0 (by rw [af,setA_len];lia),?_⟩;rw [map_set,bh,ez];exact ⟨fun a o e=>by rw [aZ (bB e hL)];exact SD _ _ e,by rw [aW];show _=some (HO.lst ((setA _ (_++[z]) X).map V.int));rw [setA_snoc],_,rfl⟩
  ·rintro σ HD ⟨SD,hD,w7,rfl⟩
   rw [af,bo] at hD;refine ⟨SD,⟨_,hD,by rw [setA_len];exact lX,fun k k0 k1=>?_⟩,_,_,_,rfl⟩;rw [setA_tm k0 _ _ hm,bh,ef,eX k k0 k1]
   by_cases e:tm fs k=f
   ·rw [pO (kH.mpr ⟨k0,by lia,e⟩),pO (by rw [e];simp),e]
   ·rw [pN (fun q=>e (kH.mp q).2.2)]
    by_cases c:tm fs k∈(iJ fs).take j
    ·rw [pO c,pO (aE _ c)]
    ·rw [pN c,pN (fun q=>(aG.mp q).elim c fun r=>e (by simpa using r))]
 ·rintro σ H2 ⟨S2,⟨X,hX,lX,eX⟩,v5,v6,v7,rfl⟩
  refine ⟨_,rfl,L,_,rfl,SqL.of hX,fun r H4 S4 h4=>?_⟩;refine k r H4 X (S2.trans S4) h4 lX fun k k0 k1=>?_
  rw [eX k k0 k1,pO];rw [af,lA,bo];exact (kI fs).mpr (nu k0 (by lia))
theorem scHeldF:cj ["net","parts","table","other","shifts"] pzi (defScope sHeldF):=by trivial
theorem ok_heldF (F:Fun K "held_at_firsts" "held_at_firsts" sHeldF f fd)(G1:Fn K mg "shifts_between" om pzk f1 fd1)(F1:FnOk P w K mg base CX0 2 f1 fd1 pzk nJ)(G2:Fn K mg "moved_in_parts" sMvP pzm f2 fd2)(F2:FnOk P w K mg base CX0 2 f2 fd2 pzm spMvP):FnOk P w K mg base CX0 3 f fd pzi spHeldF:=by
 refine F.ok scHeldF (by contradiction) (fun cdv A outer s H vs Q E hr h=>?_);obtain ⟨v,p,u1,u2,b,m,sp,zs,fs,ts,us,rfl,hv,b0,hp,hz,h1,h2,lu,lf,few,k⟩:=h;refine ⟨_,PSl.h (bg ⟨(psZ 4 scHeldF.nd (pc1 G1 F1 hr (aq (pv 0) (aq (pv 2) (aq (pv 3) aP)))))⟩
  (c9 ⟨(cM (pc1 G2 F2 hr (aq (pv 0) (aq (pv 1) (aq (pv 3) (aq (ij (fr:=["shifts"]) (js:=[4]) rfl (fU (pv 1)) (by trivial) rfl (by trivial) rfl (by exists sHeldF) (by trivial) rfl (by trivial) (fun _ _ _ _ _=>⟨(eN (r:=rIxL K) fc (pv 1) (eN (r:=rIxL K) fc (pv 0) bR (fun _ _=>rfl)) (fun _ _=>rfl)),ig⟩)) aP))))))⟩)),?_⟩
 refine ⟨_,rfl,_,rfl,_,rfl,v,u1,u2,b,m,sp,ts,us,rfl,hv,b0,h1,h2,lu,few,fun L H1 S1 _ e1=>?_⟩;have hz':=hz;obtain ⟨As,rfl,lA,hA⟩:=hz';have fw:As.length≤ts.length:=by
  rw [lA,←lf];exact kA (i3 fs) fun z hz=>(kI _).mp hz
 have hg:∀ f∈iJ fs,tm (shM b ts us) (hdF fs f)=(tm ts (hdF fs f) - tm us (hdF fs f)) % b:=fun f hf=>by
  obtain ⟨_,a,c,_⟩:=idxF_hd hf;exact shM_tm lu a (by lia)
 refine ⟨_,rfl,_,rfl,_,rfl,_,rfl,p,rfl,⟨_,SqL.of (S1 _ _ hp)⟩,?_⟩;refine gY (K:=K) (a:=p) (xs:=As.map V.ref) (fun i zs H2=>H2=H1∧zs=(((iJ fs).take i).map fun f=>tm (shM b ts us) (hdF fs f)).map V.int) ⟨rfl,rfl⟩ (fun i zs H2 hi ⟨e3,e4⟩=>⟨by rw [e3];exact SqL.of (S1 _ _ hp),?_⟩) (by rw [af];exact eK (by lia)) (fun i x zs H2 hx ⟨e3,e4⟩=>?_) (fun zs H2 ⟨e3,e4⟩ D hD=>?_)
 ·rw [e4,af,af,bI];lia
 ·subst e3
  rw [ax] at hx;obtain ⟨A,eA,rfl⟩:=aI.mp hx;have hi:i<(iJ fs).length:=by rw [←lA];exact (ar.mp eA).1
  have ef:=gE hi;obtain ⟨q1,q2,q3,q4⟩:=idxF_hd (bu hi);refine gk ?_;refine ⟨_,rfl,_,rfl,A,_,_,_,rfl,rfl,SqL.of (S1 _ _ (hA i _ A ef eA)),bc (j:=0) (by rw [ax,q1];rfl),L,_,_,_,rfl,rfl,SqL.of e1,nZ q2 (by rw [shM_len lu];lia),rfl,?_⟩;rw [e4,bh,ef,aM,aM];rfl
 ·subst e3
  have S5:=S1.put (o:= .lst zs) hD;have e5:(upd H2 D (.lst zs)) D=some (.lst (((iJ fs).map fun f=>tm (shM b ts us) (hdF fs f)).map V.int)):=by
   rw [aW,e4,af,lA,bo]
  generalize upd H2 D (.lst zs)=H5 at S5 e5 ⊢;refine ⟨v,p,u2,D,b,m,sp,_,fs,us,fun f=>tm (shM b ts us) (hdF fs f),rfl,hv.same S5,b0,S5 _ _ hp,⟨As,rfl,lA,fun i f A h1 h2=>S5 _ _ (hA i f A h1 h2)⟩,S5 _ _ h2,by lia,by lia,e5,fun r H' X S6 h6 lX eX=>?_⟩;refine k r H' X (S5.trans S6) h6 (by lia) fun k k0 k1=>?_
  have e9:=hg _ ((kI fs).mpr (nu k0 (by lia:k<fs.length)));rw [eX k k0 (by lia),←e9]
end HN
namespace L2
open PySem PySem.W PySem.Spec PyProof.Rows
def LamG (P:ai)(q:Str)(H:Hp):Prop:=∃ l:List (Pos×ai),H P=some (.tbl (triples l).toArray)∧∀ e∈l,CdK q H e.2
theorem LamG.tbl {P:ai}(k:LamG P q H):∃ ps,H P=some (.tbl ps):=let ⟨_,e,_⟩:=k;⟨_,e⟩
theorem LamG.nil {P:ai}(e:H P=some (.tbl #[])):LamG P q H:=⟨[],e,fun _ h=>pP h (by simp)⟩
theorem CdK.ne {P c:ai}{ps:Array aa}(k:CdK q H c)(e:H P=some (.tbl ps)):c≠P:=fun z=>by
 obtain ⟨oc,vs,t,e2,_⟩:=k;rw [z,e] at e2;cases e2
theorem LamG.stay {P:ai}(k:LamG P q H)(hT:∀ ps,H P=some (.tbl ps)→H' P=some (.tbl ps))(hf:∀ a o u,H a=some (.frz o u)→H' a=some (.frz o u)):LamG P q H':=by
 obtain ⟨l,e,r⟩:=k;refine ⟨l,hT _ e,fun x hx=>?_⟩;obtain ⟨oc,vs,t,e2,z⟩:=r x hx;exact ⟨oc,vs,t,hf _ _ _ e2,z⟩
theorem LamG.same {P:ai}(a:Same H H')(k:LamG P q H):LamG P q H':=k.stay (fun _ e=>a _ _ e) fun _ _ _ e=>a _ _ e
theorem mS:∀ l:List (Pos×ai),TriplesOk (triples l)
 | []=>trivial
 | (p,c)::r=>mS r
theorem nX {pos:Pos}:∀ {l:List (Pos×ai)} {cv:aa},codeAmong pos (triples l)=some cv→∃ e∈l,cv= .ref e.2
 | [],cv,h=>by cases h
 | (p,c)::r,cv,h=>by
  have h:(if (((p.line:Nat):Int) == ((pos.line:Nat):Int) && ((p.col:Nat):Int) == ((pos.col:Nat):Int))=true then some (aa.ref c) else codeAmong pos (triples r))=some cv:=h;split at h
  ·cases h;exact ⟨(p,c),by simp,rfl⟩
  ·obtain ⟨e,he,z⟩:=nX h
   exact ⟨e,by simp [he],z⟩
section
variable {σ:List (Option V)}
theorem lam_makeG {c P:ai}(I:Inv X aJ σ H s)(hd:defaultsOf params X.env=([],[]))(nh:X.env.code= .ref c)(C:codeHdIn X.K c P=true)(B:BM X.mg X.base)
  (hfr:∀ y∈scope.names,y.2= .free→X.env.scope.names.lookup y.1=some .cell) (T:LamG P (X.env.qual ++ "<lambda>") H)
  (h:∀ f cl H' s',Inv X aJ σ H' s'→Tb P H H'→LamG P (X.env.qual ++ "<lambda>") H'→LamF (X.env.qual ++ "<lambda>") params body scope cl f H'→(∀ x c,cl.lookup x=some c→X.env.cells.lookup x=some c)→(∀ y∈scope.names,y.2= .free→cl.lookup y.1=X.env.cells.lookup y.1)→Q (.ref f) s') :
  aH (aU X.prog X.w) X.A (dg (.Lambda params body scope pos) X.env) Q X.xe s:=by
 obtain ⟨cl,hclos,c1,c2⟩:=mq (scope:=scope) (env:=X.env) fun y hy hk=>I.ok.has _ (.inl (hfr y hy hk))
 refine kla_eval hd ?_;have hgs:s.heap.Ns bp X.mg:=I.mod.glob.keeps I.bk;obtain ⟨bm,ob,b1,b2,b3,b4,b5⟩:=B;have CH:CodeHd s.heap c P:=codeHd_of_K I.kIn C;obtain ⟨l,hP,K⟩:=T;have hbP:bm≠P:=fun q=>by have z:=(I.bs bm ob b4).2;rw [q,hP] at z;cases z
 have hgP:bp≠P:=fun q=>by
  obtain ⟨o,es,ep,e,_⟩:=I.mod.glob;have z:=(I.bs _ o e).2;rw [q,hP] at z;cases z
 have hBA:s.heap.BuiltinsAt X.mg P:=⟨bm,ob,b1,b2,b3,hbP,I.bk _ _ b4,b5⟩;have fin:∀ (H1:Hp) (h1:bw) (tk:Nat) (c':ai) (ctv:aa),Inv X aJ σ H1 { s with heap:=h1,toks:=tk }→Tb P H H1→LamG P (X.env.qual ++ "<lambda>") H1→CdK (X.env.qual ++ "<lambda>") H1 c' →
   Q (.ref h1.objs.size) { s with heap:=h1.push (kla_obj "<lambda>" (X.env.qual ++ "<lambda>") params body scope cl ((X.mg "__name__").getD .none) c' ctv),toks:=tk }:=fun H1 h1 tk c' ctv I1 t1 T1 K1=>by
  have fr:H1 h1.objs.size=none:=I1.hok.fresh (az _);have S:Same H1 (upd H1 h1.objs.size (.frz (kla_obj "<lambda>" (X.env.qual ++ "<lambda>") params body scope cl ((X.mg "__name__").getD .none) c' ctv) (.own 0))):=fun a o e=>by rw [aZ (bB e fr)];exact e
  have I2:=I1.laid (t':=tk) (a:=h1.objs.size) (o:= .frz (kla_obj "<lambda>" (X.env.qual ++ "<lambda>") params body scope cl ((X.mg "__name__").getD .none) c' ctv) (.own 0)) (h':=h1.push (kla_obj "<lambda>" (X.env.qual ++ "<lambda>") params body scope cl ((X.mg "__name__").getD .none) c' ctv)) (fun b u e=>ak _ e) (az _) ⟨aN _ rfl,_,aN _ rfl⟩;obtain ⟨oc,vs,t,e,r⟩:=K1;exact h _ cl _ _ I2 (t1.trans S.tb) (T1.same S) ⟨_,c',ctv,aW,oc,vs,t,S _ _ e,r⟩ c1 c2
 have hPh:s.heap.get? P=some (tabObj (triples l).toArray):=I.hok P _ hP;cases hq:codeAmong pos (triples l) with
 | none =>
  refine kla_makeFunction (mg:=X.mg) hclos I.ok.glob hgs nh CH hPh (by rw [d5];exact mS l) (by rw [d5];exact hq) hgP hBA fun c' ctv h' tk hx hge hlt hrec htb=>?_
  have I1:=I.grown (tk:=tk) hP hx htb;obtain ⟨c2',oc,vs,t,e2,hoc,hdd,hv⟩:=hrec;cases e2;have Plt:P<s.heap.objs.size:=aC hPh;have ncP:c'≠P:=bZ (aL Plt hge);have frc:H c'=none:=I.hok.fresh hge;have hn1:(upd H P (.tbl ((triples l).toArray++ #[fg pos.line,fg pos.col,.ref c']))) c'=none:=by rw [aZ ncP];exact frc
  have old:∀ b o,s.heap.get? b=some o→b≠c':=fun b o e=>bj (aL (aC e) hge)
  have I2:=I1.take (D:=c') (o:= .frz oc (.own 0)) hn1 (aS I.sz hge) (bZ (aL I.lt hge)) (fun x d e=>by obtain ⟨v,o,ho,_⟩:=I.cell x d e;exact old d o ho) (fun p hp=>old _ _ (I.pin p hp).1) ⟨hoc,_,hoc⟩;have tb:Tb P H (upd (upd H P (.tbl ((triples l).toArray++ #[fg pos.line,fg pos.col,.ref c']))) c' (.frz oc (.own 0))):=fun a o hn e=>by
   rw [aZ (bB e frc),aZ hn];exact e
  refine fin _ h' tk c' ctv I2 tb ⟨l++[(pos,c')],?_,fun x hx=>?_⟩ ⟨oc,vs,t,aW,hdd,hv⟩
  ·rw [aZ (cn ncP),aW,triples_append]
   congr 2
   apply Array.toList_inj.mp
   simp
  ·rcases aG.mp hx with hx | hx
   ·exact (K x hx).tb tb ((K x hx).ne hP)
   ·rw [aw.mp hx]
    exact ⟨oc,vs,t,aW,hdd,hv⟩
 | some cv =>
  obtain ⟨e,he,rfl⟩:=nX hq;refine kla_makeFunctionHit (cv:= .ref e.2) (mg:=X.mg) hclos I.ok.glob hgs nh CH hPh (by rw [d5];exact mS l) (by rw [d5];exact hq) hBA fun ctv h' tk hk hsz=>?_
  exact fin H h' tk e.2 ctv (I.kept hk) (Tb.refl H) ⟨l,hP,K⟩ (K e he)
theorem Inv.repinE {o o':Obj}(I:Inv X ((kS,o)::aJ) σ H s)(hs0:X.s₀.heap.objs.size≤kS)(hC:∀ x c,X.env.cells.lookup x=some c→c≠kS)(hP:∀ p∈X.pn++aJ,p.1≠kS)(k:∀ b o,b≠kS→s.heap.get? b=some o→h'.get? b=some o)(ho':h'.get? kS=some o')(hd:∀ v,o'.data≠ .cell v):Inv X ((kS,o')::aJ) σ H { s with heap:=h',toks:=t' }:=by
 obtain ⟨p1,p2,p3,p4,_⟩:=I.pin (kS,o) (ay _ (aX ..));have I2:=I.unpin.turned (t':=t') (it:=kS) (h':=h') k p2 p3 (.inr hs0) hC hP;refine I2.pins_of fun p hp=>?_
 rcases aF.mp hp with rfl | hp
 ·exact ⟨ho',p2,p3,p4,hd⟩
 ·exact I2.pin p (ay _ hp)
theorem Inv.swap {p q:ai×Obj}(I:Inv X (p::q::aJ) σ H s):Inv X (q::p::aJ) σ H s:=I.pins_of fun z hz=>by
 refine I.pin z (ay _ ?_)
 rcases aF.mp hz with rfl | hz
 ·simp
 ·rcases aF.mp hz with rfl | hz
  ·simp
  ·simp [hz]
end
def fA (key:Nat→Int):Nat→Nat:=argBest fun i j=>decide (key i<key j)
theorem best_ok (key:Nat→Int):∀ n,fA key n≤n∧∀ j,j≤n→key (fA key n)≤key j
 | 0=>⟨az 0,fun j hj=>by rw [Nat.le_zero.mp hj];exact gp _⟩
 | n+1=>by
  obtain ⟨h1,h2⟩:=best_ok key n;have e:fA key (n+1)=if decide (key (n+1)<key (fA key n))=true then n+1 else fA key n:=rfl;rw [e]
  by_cases c:key (n+1)<key (fA key n)
  ·rw [pO (pQ c)]
   refine ⟨az _,fun j hj=>?_⟩
   by_cases z:j=n+1
   ·rw [z];exact gp _
   ·have:=h2 j (by lia);lia
  ·rw [pN (by rw [pR c];exact aV)]
   refine ⟨by lia,fun j hj=>?_⟩
   by_cases z:j=n+1
   ·rw [z];lia
   ·exact h2 j (by lia)
section
variable {σ:List (Option V)}
def KeyI (X:Cx)(σ:List (Option V))(H:Hp)(f:aa)(vs:List V)(key:Nat→Int):Prop :=
 ∀ (t:ao) (H':Hp) (pins':List (ai×Obj)) (i:Nat) (v:V) (u:aa),vs[i]? =some v→RelV v u→Inv X pins' σ H' t→Same H H'→aH (aU X.prog X.w) X.A.in1 (ir f [u]) (fun k t'=>∃ H'' tk,Inv X pins' σ H'' t'∧Same H' H''∧k= .int (key i) tk) (fun _ _=>False) t
structure Two (X:Cx)(aJ:List (ai×Obj))(It S:ai):Prop where
 i0:X.s₀.heap.objs.size≤It
 s0:X.s₀.heap.objs.size≤S
 ic:∀ x c,X.env.cells.lookup x=some c→c≠It
 sc:∀ x c,X.env.cells.lookup x=some c→c≠S
 ip:∀ p∈X.pn++aJ,p.1≠It
 sp:∀ p∈X.pn++aJ,p.1≠S
 ne:It≠S
theorem Two.ipS {It S:ai}(T:Two X aJ It S)(o:Obj):∀ p∈X.pn++((S,o)::aJ),p.1≠It:=fun p hp=>by
 rcases aG.mp hp with hp | hp
 ·exact T.ip p (aE _ hp)
 ·rcases aF.mp hp with rfl | hp
  ·exact cn T.ne
  ·exact T.ip p (ay _ hp)
theorem Two.spI {It S:ai}(T:Two X aJ It S)(o:Obj):∀ p∈X.pn++((It,o)::aJ),p.1≠S:=fun p hp=>by
 rcases aG.mp hp with hp | hp
 ·exact T.sp p (aE _ hp)
 ·rcases aF.mp hp with rfl | hp
  ·exact T.ne
  ·exact T.sp p (ay _ hp)
theorem lM {It S:ai}{oS:Obj}{vs:List V}{Q:Option aa→ao→Prop}(hh:A.handled=none)(T:Two X aJ It S)(I:Inv X ((It,oI)::(S,oS)::aJ) σ H s)(hL:H L=some (.lst vs))(hI:oI.cls= .type "list_iterator" ∧oI.data= .fields #[.ref L,.int j 0])
  (hit:∀ v u oI' s',vs[j]? =some v→RelV v u→Inv X ((It,oI')::(S,oS)::aJ) σ H s'→oI'.cls= .type "list_iterator" ∧oI'.data= .fields #[.ref L,.int ((j+1:Nat):Int) 0]→Q (some u) s')
  (hend:∀ s',j=vs.length→Inv X ((S,oS)::aJ) σ H s'→Q none s') (hj:j≤vs.length):aH (aU X.prog X.w) A (iR (.ref It)) Q E s:=by
 obtain ⟨its,rv,⟨o,n,ho,hcl,_,hd⟩,_⟩:=I.list (SqL.of hL);have gI:=(I.pin (It,oI) (ay _ (aX ..))).1;have hLI:L≠It:=fun z=>by have:=(I.pin (It,oI) (ay _ (aX ..))).2.1;rw [←z,hL] at this;cases this
 have st:s.heap.IsListIter It L j∧s.heap.IsList L its.toArray:=⟨⟨oI,gI,hI.1,hI.2⟩,⟨o,ho,hcl,n,hd⟩⟩;have W:=Walks.list (prog:=X.prog) (w:=X.w) (A:=A) hh It L hLI its.toArray;have lz:its.length=vs.length:=rv.length.symm
 by_cases e:j=vs.length
 ·refine W.done s _ _ (by rw [aB,lz,←e];exact st) fun h' tk hk=>hend _ e ?_
  have:=I.unpin.turned (t':=tk) (it:=It) (h':=h') (fun b o hb e=>hk b o (by simp [hb]) e) (I.pin (It,oI) (ay _ (aX ..))).2.1 (I.pin (It,oI) (ay _ (aX ..))).2.2.1 (.inr T.i0) T.ic (T.ipS oS);exact this
 ·refine W.item j s _ _ (by rw [aB];lia) st fun u h' tk hu st' hk=>?_
  obtain ⟨oI',gI',c1,c2⟩:=st'.1;have hu:its[j]? =some u:=by simpa using hu
  have hv:vs[j]? =some (vs[j]'(by lia)):=gE _;refine hit vs[j] u oI' _ hv ?_ (I.repinE T.i0 T.ic (T.ipS oS) (fun b o hb e=>hk b o (by simp [hb]) e) gI' (fun v z=>by rw [c2] at z;cases z)) ⟨c1,c2⟩;obtain ⟨u',hu',ru⟩:=Vals.get rv hv;rw [hu] at hu';cases hu';exact ru
end
theorem jX {id:String}{b:cV}{args:List aa}(hk:builtinKind id=none)(hp:plainId id=true)
  (hb:entryFor table id=some b) (ha:argsOk id ⟨args,kw⟩)
  (hfin:aH (aU prog w) A.in1 (b ⟨args,kw⟩) (fun fin s'=>match fin with
   | .done f=>(match (Except.ok f:Result) with | .ok (.ret v)=>Q v s' | .ok _=>False | .error e=>E e s')
   | .again c'=>c'.quiet=true∧hV (aU prog w) A c' (fun r s'=>match r with | .ok (.ret v)=>Q v s' | .ok _=>False | .error e=>E e s') s') E s):aH (aU prog w) A (ir (.builtin id) args kw) Q E s:=by
 refine iE (ke hp hb ?_);simp only [checkBuiltinCall,hk];cases hsig:Manifest.signature? id with
 | none=>exact aA hfin
 | some sig =>
  have ha':Bind.checkArgs id sig ⟨args,kw⟩=eQ ():=by simpa only [argsOk,hsig] using ha
  simp only [ha'];exact aA hfin
section
variable {σ:List (Option V)}
theorem Inv.pin1 {p:ai×Obj}(I:Inv X (p::aJ) σ H s):s.heap.get? p.1=some p.2:=(I.pin p (ay _ (aX ..))).1
theorem Inv.pin2 {p q:ai×Obj}(I:Inv X (p::q::aJ) σ H s):s.heap.get? q.1=some q.2:=I.unpin.pin1
theorem min_put {It S:ai}{xs:Array aa}{c:Nat}(T:Two X aJ It S)(I:Inv X ((It,oI)::(S,bD "list" xs c)::aJ) σ H s)(ys:Array aa):∃ c',Inv X ((It,oI)::(S,bD "list" ys c')::aJ) σ H { s with heap:=s.heap.update S (cp fun _=>ys) }:=by
 have hS:=I.pin2;obtain ⟨c',hc'⟩:∃ c',(s.heap.update S (cp fun _=>ys)).get? S=some (bD "list" ys c'):=⟨_,eY hS fun _=>ys⟩;exact ⟨c',(I.swap.repinE (t':=s.toks) T.s0 T.sc (T.spI oI) (fun b o hb e=>(cy _ _ (cn hb)).trans e) hc' (fun v z=>by cases z)).swap⟩
theorem min_loop {It S g:ai}{vs:List V}(T:Two X aJ It S)(hh:X.A.handled=none)(hkey:KeyI X σ H (.ref g) vs key)(hL:H L=some (.lst vs))
  (fin:∀ v u H' s',vs[fA key (vs.length - 1)]? =some v→RelV v u→Same H H'→Inv X aJ σ H' s'→R (.ok (.ret u)) s') :
  ∀ (k j:Nat) (s:ao) (H':Hp) (v:V) (vb:aa) (tb:Tok) (c:Nat) (oI:Obj),vs.length - (j+1)=k→j+1≤vs.length→Same H H'→Inv X ((It,oI)::(S,bD "list" #[vb,.int (key (fA key j)) tb] c)::aJ) σ H' s →
   oI.cls= .type "list_iterator" ∧oI.data= .fields #[.ref L,.int ((j+1:Nat):Int) 0]→vs[fA key j]? =some v→RelV v vb→hV (aU X.prog X.w) X.A (.builtin "min.loop" ⟨[.ref It,.ref g,.ref S],[]⟩) R s:=by
 have hname:(iZ "min" ++ iZ ".loop" :String) = "min.loop" := by decide
 intro k
 induction k with
 | zero =>
  intro j s H' v vb tb c oI hk hj S' I hI hv rv;have hin:j+1=vs.length:=by lia
  have hS:=I.pin2;refine fR F.entry_min_loop ?_;rw [fB gi _];show aH _ X.A.in1 (seqItems? (.ref S) >>= _) _ _ s;refine ae (du hS rfl ?_);show aH _ X.A.in1 (iY (iR (.ref It)) _ >>= _) _ _ s;refine ae (dJ (lM (A:=X.A.in1) (j:=j+1) hh T I (S' _ _ hL) hI (fun v2 u2 _ _ z=>pP (ar.mp z).1 (by lia)) (fun s' _ I'=>?_) (by lia)));have hS':=I'.pin1;show aH _ X.A.in1 (updateSeq S (fun _=> #[]) >>= _) _ _ _;refine ae ?_;refine gP hS' rfl (ae (fm (aA ?_)));have I2:=(I'.repinE (t':=s'.toks) T.s0 T.sc T.sp (h':=s'.heap.update S (cp fun _=> #[])) (fun b o hb e=>(cy _ _ (cn hb)).trans e) (eY hS' fun _=> #[]) (fun v z=>by cases z)).unpin;exact fin v vb H' _ (by rw [←hin];exact hv) rv S' I2
 | succ k ih =>
  intro j s H' v vb tb c oI hk hj S' I hI hv rv;have hlt:j+1<vs.length:=by lia
  have hS:=I.pin2;refine fR F.entry_min_loop ?_;rw [fB gi _];show aH _ X.A.in1 (seqItems? (.ref S) >>= _) _ _ s;refine ae (du hS rfl ?_);show aH _ X.A.in1 (iY (iR (.ref It)) _ >>= _) _ _ s;refine ae (dJ (lM (A:=X.A.in1) (j:=j+1) hh T I (S' _ _ hL) hI (fun v2 u2 oI2 s2 hv2 ru2 I2 hI2=>?_) (fun s' z _=>pP z (by lia)) (by lia)));show aH _ X.A.in1 (iY (jD [u2] (ir (.ref g) [u2])) _ >>= _) _ _ _;refine ae (dJ (cf (bH (hkey _ H' _ (j+1) v2 u2 hv2 ru2 I2 S') (fun kv s3 hk3=>?_) fun _ _ z=>z.elim)));obtain ⟨H3,tk,I3,S3,rfl⟩:=hk3;have hS3:=I3.pin2;show aH _ X.A.in1 (iY (jD [u2,.int (key (j+1)) tk] (richCompare .Lt (.int (key (j+1)) tk) (.int (key (fA key j)) tb) >>= _)) _ >>= _) _ _ _;refine ae (dJ (cf (ae (CmpOf.ints_lt (P:=fun i v=>∃ t,v= .int (key i) t) key (fun _ _ z=>z) (j+1) (fA key j) _ _ _ _ _ ⟨tk,rfl⟩ ⟨tb,rfl⟩ ?_))));refine ae (cf (jy ?_));refine ae (fm (aA ?_));have eb:fA key (j+1)=if decide (key (j+1)<key (fA key j))=true then j+1 else fA key j:=rfl;cases hb:decide (key (j+1)<key (fA key j)) with
  | true =>
   rw [hb,pO rfl] at eb;rw [pO hb];refine ae ?_;refine gP hS3 rfl (ae (fm ?_));rw [hname];obtain ⟨c',I4⟩:=min_put T I3 #[u2,.int (key (j+1)) tk];refine aA ⟨gR gi _,ih (j+1) _ H3 v2 u2 tk c' oI2 (by lia) hlt (S'.trans S3) (by rw [eb];exact I4) hI2 (by rw [eb];exact hv2) ru2⟩
  | false =>
   rw [hb,pN aV] at eb;rw [pN (fun z=>aV (hb.symm.trans z))];refine ae (fm ?_);rw [hname];exact aA ⟨gR gi _,ih (j+1) _ H3 v vb tb c oI2 (by lia) hlt (S'.trans S3) (by rw [eb];exact I3) hI2 (by rw [eb];exact hv) rv⟩
theorem min_first {It S g:ai}{vs:List V}(T:Two X aJ It S)(hh:X.A.handled=none)(hkey:KeyI X σ H (.ref g) vs key)(hL:H L=some (.lst vs))(hne:vs≠[])
  (fin:∀ v u H' s',vs[fA key (vs.length - 1)]? =some v→RelV v u→Same H H'→Inv X aJ σ H' s'→R (.ok (.ret u)) s')
  {c:Nat} (I:Inv X ((It,oI)::(S,bD "list" #[] c)::aJ) σ H s) (hI:oI.cls= .type "list_iterator" ∧oI.data= .fields #[.ref L,.int ((0:Nat):Int) 0]):hV (aU X.prog X.w) X.A (.builtin "min.loop" ⟨[.ref It,.ref g,.ref S],[]⟩) R s:=by
 have hname:(iZ "min" ++ iZ ".loop" :String) = "min.loop" := by decide
 have hlt:0<vs.length:=j7.mpr hne;have hS:=I.pin2;refine fR F.entry_min_loop ?_;rw [fB gi _];show aH _ X.A.in1 (seqItems? (.ref S) >>= _) _ _ s;refine ae (du hS rfl ?_);show aH _ X.A.in1 (iY (iR (.ref It)) _ >>= _) _ _ s;refine ae (dJ (lM (A:=X.A.in1) (j:=0) hh T I hL hI (fun v2 u2 oI2 s2 hv2 ru2 I2 hI2=>?_) (fun s' z _=>pP z (by lia)) (by lia)));show aH _ X.A.in1 (iY (jD [u2] (ir (.ref g) [u2])) _ >>= _) _ _ _;refine ae (dJ (cf (bH (hkey _ H _ 0 v2 u2 hv2 ru2 I2 (Same.refl H)) (fun kv s3 hk3=>?_) fun _ _ z=>z.elim)));obtain ⟨H3,tk,I3,S3,rfl⟩:=hk3;have hS3:=I3.pin2;show aH _ X.A.in1 (updateSeq S (fun _=> #[u2,.int (key 0) tk]) >>= _) _ _ _;refine ae ?_;refine gP hS3 rfl ?_;rw [hname];obtain ⟨c',I4⟩:=min_put T I3 #[u2,.int (key 0) tk];exact aA ⟨gR gi _,min_loop T hh hkey hL fin _ 0 _ H3 v2 u2 tk c' oI2 rfl hlt S3 I4 hI2 hv2 ru2⟩
theorem args_minK (a g:aa):argsOk "min" ⟨[a],[(bY "key",g)]⟩:=by unfold argsOk;kernel_rfl
theorem call_minK {g:ai}{vs:List V}(I:Inv X aJ σ H s)(hh:X.A.handled=none)(hkey:KeyI X σ H (.ref g) vs key)(hL:H L=some (.lst vs))(hne:vs≠[])
  (fin:∀ v u H' s',vs[fA key (vs.length - 1)]? =some v→RelV v u→Same H H'→Inv X aJ σ H' s'→Q u s'):aH (aU X.prog X.w) X.A (ir (.builtin "min") [.ref L] [(bY "key",.ref g)]) Q E s:=by
 have hname:(iZ "min" ++ iZ ".loop" :String) = "min.loop" := by decide
 refine jX F.kind_min F.plain_min F.entry_min (args_minK _ _) ?_;show aH _ X.A.in1 (fO "min" ["key","default"] 0 ⟨[],[(bY "key",.ref g)]⟩ >>= _) _ _ s;refine ae (wpAny_of_eq (show fO "min" ["key","default"] 0 ⟨[],[(bY "key",.ref g)]⟩=eQ [some (.ref g),none] from rfl) ?_);refine ae (aA ?_);obtain ⟨its,rv,⟨o,n,ho,hcl,_,hd⟩,_⟩:=I.list (SqL.of hL);refine ae (eS ⟨o,ho,hcl,n,hd⟩ ?_);refine ae (cY ?_);rw [hname];obtain ⟨h1,eh1⟩:∃ h1,h1=s.heap.push { cls:= .type "list_iterator",data:= .fields #[.ref L,.int 0 0] }:=⟨_,rfl⟩;have z1:h1.objs.size=s.heap.objs.size+1:=by rw [eh1];exact cQ ..
 rw [←eh1];obtain ⟨h2,eh2⟩:∃ h2,h2=h1.push { cls:= .type "list",data:= .seq #[] }:=⟨_,rfl⟩;have keep:∀ b o,s.heap.get? b=some o→h2.get? b=some o:=fun b o e=>by rw [eh2];refine ak _ ?_;rw [eh1];exact ak _ e
 have gI:h2.get? s.heap.objs.size=some { cls:= .type "list_iterator",data:= .fields #[.ref L,.int 0 0] }:=by rw [eh2];refine ak _ ?_;rw [eh1];exact aN _ rfl
 have gS:h2.get? h1.objs.size=some (bD "list" #[] 0):=by rw [eh2];exact aN _ rfl
 have I2:=I.kept (t':=s.toks) keep;have lS:s.heap.objs.size≤h1.objs.size:=by lia
 have I3:Inv X ((s.heap.objs.size,{ cls:= .type "list_iterator",data:= .fields #[.ref L,.int 0 0] })::(h1.objs.size,bD "list" #[] 0)::aJ) σ H { s with heap:=h2 }:=I2.pins_of fun z hz=>by
  rcases aF.mp hz with rfl | hz
  ·exact ⟨gI,I.hok.fresh (az _),bZ I.lt,I.nofs (az _),fun v z=>by cases z⟩
  ·rcases aF.mp hz with rfl | hz
   ·exact ⟨gS,I.hok.fresh lS,bZ (aL I.lt lS),I.nofs lS,fun v z=>by cases z⟩
   ·exact I2.pin z (ay _ hz)
 have old:∀ b o,s.heap.get? b=some o→b≠s.heap.objs.size∧b≠h1.objs.size:=fun b o e=>⟨bj (aC e),bj (aL (aC e) lS)⟩
 have T:Two X aJ s.heap.objs.size h1.objs.size:=⟨I.sz,aS I.sz lS,fun y d e=>by obtain ⟨v,o,ho,_⟩:=I.cell y d e;exact (old d o ho).1,fun y d e=>by obtain ⟨v,o,ho,_⟩:=I.cell y d e;exact (old d o ho).2,fun z hz=>(old _ _ (I.pin z hz).1).1,fun z hz=>(old _ _ (I.pin z hz).1).2,bj (by lia:s.heap.objs.size<h1.objs.size)⟩;refine aA ⟨gR gi _,?_⟩;rw [←eh2];exact min_first (R:=fun r s'=>match r with | .ok (.ret v)=>Q v s' | .ok _=>False | .error e=>E e s') T hh hkey hL hne (fun v u H' s' a1 a2 a3 a4=>fin v u H' s' a1 a2 a3 a4) I3 ⟨rfl,rfl⟩
end
def MinQ (P:ai)(lq:Str)(js:List Nat)(te:TE)(σ:St)(Q:VK)(v:V)(H1:Hp):Prop:=∃ (L:ai) (vs:List V) (key:Nat→Int),v= .ref L∧H1 L=some (.lst vs)∧vs≠[]∧LamG P lq H1 ∧
 (∀ i x,vs[i]? =some x→∀ H2,Tb P H1 H2→te (some x::dh σ js) H2 fun u H3=>Same H2 H3∧u= .int (key i)) ∧
 ∀ H4 i x,Tb P H1 H4→LamG P lq H4→vs[i]? =some x→(∀ j,j<vs.length→key i≤key j)→Q x H4
def tMinL (P:ai)(lq:Str)(tr:TE)(js:List Nat)(te:TE):TE:=fun σ H Q=>tr σ H fun v H1=>MinQ P lq js te σ Q v H1
def MinQ1 (P:ai)(lq:Str)(js:List Nat)(te:TE)(σ:St)(Q:VK):List V→Hp→Prop
 | [v],H1=>MinQ P lq js te σ Q v H1
 | _,_=>False
theorem pe_minL {p kp:Pos}{c P:ai}(hc:X.calm=true)(hrm:X.A.depth<iG)(hg:Gl X "min")(hm:X.mg "min" =none)(hi:PE X re tr)
  (hd:defaultsOf params X.env=([],[])) (nh:X.env.code= .ref c) (C:codeHdIn X.K c P=true) (B:BM X.mg X.base)
  (hbind:∀ q cl pm cdv ct (u:aa),bindArgs (kla_fn "<lambda>" q params body scope cl pm cdv ct) ⟨[u],[]⟩=eQ [(x,u)])
  (hk:scope.kind= .function) (hco:scope.isCoroutine=false) (hgen:scope.isGenerator=false) (iH:∀ y∈scope.names,y.2≠ .cell) (hx:scope.names.lookup x=some .local) (hfx:x ∉ fr)
  (hfr:∀ y∈scope.names,y.2= .free→X.env.scope.names.lookup y.1=some .cell) (hjs:js.map (fun j=>X.N[j]?)=fr.map some) (hfv:∀ y∈fr,scope.names.lookup y=some .free)
  (hb:∀ cl L f cd s' H',PE (cxLam X (X.env.qual ++ "<lambda>") scope cl L f cd (x::fr) s' H') body te)
  (he:dM pos (bb [re] X.env)=(false,dg re X.env)::dM pos (bb [] X.env):=by rfl)
  (hs:bb [re] X.env=(false,dg re X.env)::bb [] X.env:=by rfl) (hpl:(dM pos (bb [re] X.env)).any (·.1)=false:=by rfl) :
  PE X (.Call (.Name "min" p) [re] [⟨some "key",.Lambda params body scope lp,kp⟩] pos) (tMinL P (X.env.qual ++ "<lambda>") tr js te):=by
 intro aJ s σ H Q I h;refine dv (lV I hg hm (u:= .builtin "min") (by trivial) ?_);refine callWith_kw (kws:=[⟨some "key",.Lambda params body scope lp,kp⟩]) (thn ((aq hi aP hs) pos aJ s σ H (MinQ1 P (X.env.qual ++ "<lambda>") js te σ Q) I h) fun us s1 ⟨vs,H1,I1,r1,q0⟩=>?_) he hpl;refine kws_cons ?_;obtain ⟨v,rfl⟩:∃ v,vs=[v]:=by
  cases vs with
  | nil=>exact q0.elim
  | cons v r=>cases r with
   | nil=>exact ⟨v,rfl⟩
   | cons _ _=>exact q0.elim
 have q1:MinQ P (X.env.qual ++ "<lambda>") js te σ Q v H1:=q0;obtain ⟨L,vs,key,rfl,hL,hne,T,hkey,hQ⟩:=q1;obtain rfl:us=[.ref L]:=by
  cases r1 with
  | cons ru rs =>
   cases rs;exact pT (fun z=>[z]) ru
 refine lam_makeG (body:=body) I1 hd nh C B hfr T fun f cl H2 s2 I2 tb T2 F2 c1 c2=>?_
 refine kws_nil ?_;show aH _ _ (ir (.builtin "min") [.ref L] [(bY "key",.ref f)]) _ _ _;have LP:L≠P:=fun z=>by
  obtain ⟨ps,e⟩:=T.tbl;rw [←z,hL] at e;cases e
 have KI:KeyI X σ H2 (.ref f) vs key:=fun t H' pins' i v u hv ru I' S'=>by
  refine wpAny_of_in1 (bH (nQ (v:=v) I' hc hrm (F2.same S') ru (fun pm cdv ct=>hbind _ _ _ _ _ _) hk hco hgen iH hx hfx c1 c2 hfr hjs hfv (fun L cd s' H'=>hb cl L f cd s' H') (hkey i v hv H' (tb.trans S'.tb))) (fun k t' ⟨v',H'',I'',rv,S'',ev⟩=>?_) fun _ _ z=>z);subst ev;obtain ⟨tk,rfl⟩:∃ tk,k= .int (key i) tk:=rv;exact ⟨H'',tk,I'',S'',rfl⟩
 refine call_minK I2 (I2.ok.hd hc) KI (tb _ _ LP hL) hne fun v u H' s' hv ru S' I'=>?_
 obtain ⟨b1,b2⟩:=best_ok key (vs.length - 1);exact ⟨v,H',I',ru,hQ H' _ v (tb.trans S'.tb) (T2.same S') hv fun j hj=>b2 j (by lia)⟩
theorem neg_dec {a:Int}:decide (-a< -b)=decide (a > b):=by
 by_cases c:a > b
 ·rw [pQ c,pQ (by lia)]
 ·rw [pR c,pR (by lia)]
section
variable {σ:List (Option V)}
theorem max_loop {It S g:ai}{vs:List V}(T:Two X aJ It S)(hh:X.A.handled=none)(hkey:KeyI X σ H (.ref g) vs key)(hL:H L=some (.lst vs))
  (fin:∀ v u H' s',vs[fA (fun i=> -key i) (vs.length - 1)]? =some v→RelV v u→Same H H'→Inv X aJ σ H' s'→R (.ok (.ret u)) s') :
  ∀ (k j:Nat) (s:ao) (H':Hp) (v:V) (vb:aa) (tb:Tok) (c:Nat) (oI:Obj),vs.length - (j+1)=k→j+1≤vs.length→Same H H'→Inv X ((It,oI)::(S,bD "list" #[vb,.int (key (fA (fun i=> -key i) j)) tb] c)::aJ) σ H' s →
   oI.cls= .type "list_iterator" ∧oI.data= .fields #[.ref L,.int ((j+1:Nat):Int) 0]→vs[fA (fun i=> -key i) j]? =some v→RelV v vb→hV (aU X.prog X.w) X.A (.builtin "max.loop" ⟨[.ref It,.ref g,.ref S],[]⟩) R s:=by
 have hname:(iZ "max" ++ iZ ".loop" :String) = "max.loop" := by decide
 intro k
 induction k with
 | zero =>
  intro j s H' v vb tb c oI hk hj S' I hI hv rv;have hin:j+1=vs.length:=by lia
  have hS:=I.pin2;refine fR F.entry_max_loop ?_;rw [fB gj _];show aH _ X.A.in1 (seqItems? (.ref S) >>= _) _ _ s;refine ae (du hS rfl ?_);show aH _ X.A.in1 (iY (iR (.ref It)) _ >>= _) _ _ s;refine ae (dJ (lM (A:=X.A.in1) (j:=j+1) hh T I (S' _ _ hL) hI (fun v2 u2 _ _ z=>pP (ar.mp z).1 (by lia)) (fun s' _ I'=>?_) (by lia)));have hS':=I'.pin1;show aH _ X.A.in1 (updateSeq S (fun _=> #[]) >>= _) _ _ _;refine ae ?_;refine gP hS' rfl (ae (fm (aA ?_)));have I2:=(I'.repinE (t':=s'.toks) T.s0 T.sc T.sp (h':=s'.heap.update S (cp fun _=> #[])) (fun b o hb e=>(cy _ _ (cn hb)).trans e) (eY hS' fun _=> #[]) (fun v z=>by cases z)).unpin;exact fin v vb H' _ (by rw [←hin];exact hv) rv S' I2
 | succ k ih =>
  intro j s H' v vb tb c oI hk hj S' I hI hv rv;have hlt:j+1<vs.length:=by lia
  have hS:=I.pin2;refine fR F.entry_max_loop ?_;rw [fB gj _];show aH _ X.A.in1 (seqItems? (.ref S) >>= _) _ _ s;refine ae (du hS rfl ?_);show aH _ X.A.in1 (iY (iR (.ref It)) _ >>= _) _ _ s;refine ae (dJ (lM (A:=X.A.in1) (j:=j+1) hh T I (S' _ _ hL) hI (fun v2 u2 oI2 s2 hv2 ru2 I2 hI2=>?_) (fun s' z _=>pP z (by lia)) (by lia)));show aH _ X.A.in1 (iY (jD [u2] (ir (.ref g) [u2])) _ >>= _) _ _ _;refine ae (dJ (cf (bH (hkey _ H' _ (j+1) v2 u2 hv2 ru2 I2 S') (fun kv s3 hk3=>?_) fun _ _ z=>z.elim)));obtain ⟨H3,tk,I3,S3,rfl⟩:=hk3;have hS3:=I3.pin2;show aH _ X.A.in1 (iY (jD [u2,.int (key (j+1)) tk] (richCompare .Gt (.int (key (j+1)) tk) (.int (key (fA (fun i=> -key i) j)) tb) >>= _)) _ >>= _) _ _ _;refine ae (dJ (cf (ae (CmpOf.ints_gt (P:=fun i v=>∃ t,v= .int (key i) t) key (fun _ _ z=>z) (j+1) (fA (fun i=> -key i) j) _ _ _ _ _ ⟨tk,rfl⟩ ⟨tb,rfl⟩ ?_))));refine ae (cf (jy ?_));refine ae (fm (aA ?_));have eb:fA (fun i=> -key i) (j+1)=if decide (key (j+1) > key (fA (fun i=> -key i) j))=true then j+1 else fA (fun i=> -key i) j:=by rw [←neg_dec];rfl
  cases hb:decide (key (j+1) > key (fA (fun i=> -key i) j)) with
  | true =>
   rw [hb,pO rfl] at eb;rw [pO hb];refine ae ?_;refine gP hS3 rfl (ae (fm ?_));rw [hname];obtain ⟨c',I4⟩:=min_put T I3 #[u2,.int (key (j+1)) tk];refine aA ⟨gR gj _,ih (j+1) _ H3 v2 u2 tk c' oI2 (by lia) hlt (S'.trans S3) (by rw [eb];exact I4) hI2 (by rw [eb];exact hv2) ru2⟩
  | false =>
   rw [hb,pN aV] at eb;rw [pN (fun z=>aV (hb.symm.trans z))];refine ae (fm ?_);rw [hname];exact aA ⟨gR gj _,ih (j+1) _ H3 v vb tb c oI2 (by lia) hlt (S'.trans S3) (by rw [eb];exact I3) hI2 (by rw [eb];exact hv) rv⟩
theorem max_first {It S g:ai}{vs:List V}(T:Two X aJ It S)(hh:X.A.handled=none)(hkey:KeyI X σ H (.ref g) vs key)(hL:H L=some (.lst vs))(hne:vs≠[])
  (fin:∀ v u H' s',vs[fA (fun i=> -key i) (vs.length - 1)]? =some v→RelV v u→Same H H'→Inv X aJ σ H' s'→R (.ok (.ret u)) s')
  {c:Nat} (I:Inv X ((It,oI)::(S,bD "list" #[] c)::aJ) σ H s) (hI:oI.cls= .type "list_iterator" ∧oI.data= .fields #[.ref L,.int ((0:Nat):Int) 0]):hV (aU X.prog X.w) X.A (.builtin "max.loop" ⟨[.ref It,.ref g,.ref S],[]⟩) R s:=by
 have hname:(iZ "max" ++ iZ ".loop" :String) = "max.loop" := by decide
 have hlt:0<vs.length:=j7.mpr hne;have hS:=I.pin2;refine fR F.entry_max_loop ?_;rw [fB gj _];show aH _ X.A.in1 (seqItems? (.ref S) >>= _) _ _ s;refine ae (du hS rfl ?_);show aH _ X.A.in1 (iY (iR (.ref It)) _ >>= _) _ _ s;refine ae (dJ (lM (A:=X.A.in1) (j:=0) hh T I hL hI (fun v2 u2 oI2 s2 hv2 ru2 I2 hI2=>?_) (fun s' z _=>pP z (by lia)) (by lia)));show aH _ X.A.in1 (iY (jD [u2] (ir (.ref g) [u2])) _ >>= _) _ _ _;refine ae (dJ (cf (bH (hkey _ H _ 0 v2 u2 hv2 ru2 I2 (Same.refl H)) (fun kv s3 hk3=>?_) fun _ _ z=>z.elim)));obtain ⟨H3,tk,I3,S3,rfl⟩:=hk3;have hS3:=I3.pin2;show aH _ X.A.in1 (updateSeq S (fun _=> #[u2,.int (key 0) tk]) >>= _) _ _ _;refine ae ?_;refine gP hS3 rfl ?_;rw [hname];obtain ⟨c',I4⟩:=min_put T I3 #[u2,.int (key 0) tk];exact aA ⟨gR gj _,max_loop T hh hkey hL fin _ 0 _ H3 v2 u2 tk c' oI2 rfl hlt S3 I4 hI2 hv2 ru2⟩
theorem args_maxK (a g:aa):argsOk "max" ⟨[a],[(bY "key",g)]⟩:=by unfold argsOk;kernel_rfl
theorem call_maxK {g:ai}{vs:List V}(I:Inv X aJ σ H s)(hh:X.A.handled=none)(hkey:KeyI X σ H (.ref g) vs key)(hL:H L=some (.lst vs))(hne:vs≠[])
  (fin:∀ v u H' s',vs[fA (fun i=> -key i) (vs.length - 1)]? =some v→RelV v u→Same H H'→Inv X aJ σ H' s'→Q u s'):aH (aU X.prog X.w) X.A (ir (.builtin "max") [.ref L] [(bY "key",.ref g)]) Q E s:=by
 have hname:(iZ "max" ++ iZ ".loop" :String) = "max.loop" := by decide
 refine jX F.kind_max F.plain_max F.entry_max (args_maxK _ _) ?_;show aH _ X.A.in1 (fO "max" ["key","default"] 0 ⟨[],[(bY "key",.ref g)]⟩ >>= _) _ _ s;refine ae (wpAny_of_eq (show fO "max" ["key","default"] 0 ⟨[],[(bY "key",.ref g)]⟩=eQ [some (.ref g),none] from rfl) ?_);refine ae (aA ?_);obtain ⟨its,rv,⟨o,n,ho,hcl,_,hd⟩,_⟩:=I.list (SqL.of hL);refine ae (eS ⟨o,ho,hcl,n,hd⟩ ?_);refine ae (cY ?_);rw [hname];obtain ⟨h1,eh1⟩:∃ h1,h1=s.heap.push { cls:= .type "list_iterator",data:= .fields #[.ref L,.int 0 0] }:=⟨_,rfl⟩;have z1:h1.objs.size=s.heap.objs.size+1:=by rw [eh1];exact cQ ..
 rw [←eh1];obtain ⟨h2,eh2⟩:∃ h2,h2=h1.push { cls:= .type "list",data:= .seq #[] }:=⟨_,rfl⟩;have keep:∀ b o,s.heap.get? b=some o→h2.get? b=some o:=fun b o e=>by rw [eh2];refine ak _ ?_;rw [eh1];exact ak _ e
 have gI:h2.get? s.heap.objs.size=some { cls:= .type "list_iterator",data:= .fields #[.ref L,.int 0 0] }:=by rw [eh2];refine ak _ ?_;rw [eh1];exact aN _ rfl
 have gS:h2.get? h1.objs.size=some (bD "list" #[] 0):=by rw [eh2];exact aN _ rfl
 have I2:=I.kept (t':=s.toks) keep;have lS:s.heap.objs.size≤h1.objs.size:=by lia
 have I3:Inv X ((s.heap.objs.size,{ cls:= .type "list_iterator",data:= .fields #[.ref L,.int 0 0] })::(h1.objs.size,bD "list" #[] 0)::aJ) σ H { s with heap:=h2 }:=I2.pins_of fun z hz=>by
  rcases aF.mp hz with rfl | hz
  ·exact ⟨gI,I.hok.fresh (az _),bZ I.lt,I.nofs (az _),fun v z=>by cases z⟩
  ·rcases aF.mp hz with rfl | hz
   ·exact ⟨gS,I.hok.fresh lS,bZ (aL I.lt lS),I.nofs lS,fun v z=>by cases z⟩
   ·exact I2.pin z (ay _ hz)
 have old:∀ b o,s.heap.get? b=some o→b≠s.heap.objs.size∧b≠h1.objs.size:=fun b o e=>⟨bj (aC e),bj (aL (aC e) lS)⟩
 have T:Two X aJ s.heap.objs.size h1.objs.size:=⟨I.sz,aS I.sz lS,fun y d e=>by obtain ⟨v,o,ho,_⟩:=I.cell y d e;exact (old d o ho).1,fun y d e=>by obtain ⟨v,o,ho,_⟩:=I.cell y d e;exact (old d o ho).2,fun z hz=>(old _ _ (I.pin z hz).1).1,fun z hz=>(old _ _ (I.pin z hz).1).2,bj (by lia:s.heap.objs.size<h1.objs.size)⟩;refine aA ⟨gR gj _,?_⟩;rw [←eh2];exact max_first (R:=fun r s'=>match r with | .ok (.ret v)=>Q v s' | .ok _=>False | .error e=>E e s') T hh hkey hL hne (fun v u H' s' a1 a2 a3 a4=>fin v u H' s' a1 a2 a3 a4) I3 ⟨rfl,rfl⟩
end
def MaxQ (P:ai)(lq:Str)(js:List Nat)(te:TE)(σ:St)(Q:VK)(v:V)(H1:Hp):Prop:=∃ (L:ai) (vs:List V) (key:Nat→Int),v= .ref L∧H1 L=some (.lst vs)∧vs≠[]∧LamG P lq H1 ∧
 (∀ i x,vs[i]? =some x→∀ H2,Tb P H1 H2→te (some x::dh σ js) H2 fun u H3=>Same H2 H3∧u= .int (key i)) ∧
 ∀ H4 i x,Tb P H1 H4→LamG P lq H4→vs[i]? =some x→(∀ j,j<vs.length→key j≤key i)→Q x H4
def tMaxL (P:ai)(lq:Str)(tr:TE)(js:List Nat)(te:TE):TE:=fun σ H Q=>tr σ H fun v H1=>MaxQ P lq js te σ Q v H1
def MaxQ1 (P:ai)(lq:Str)(js:List Nat)(te:TE)(σ:St)(Q:VK):List V→Hp→Prop
 | [v],H1=>MaxQ P lq js te σ Q v H1
 | _,_=>False
theorem pe_maxL {p kp:Pos}{c P:ai}(hc:X.calm=true)(hrm:X.A.depth<iG)(hg:Gl X "max")(hm:X.mg "max" =none)(hi:PE X re tr)
  (hd:defaultsOf params X.env=([],[])) (nh:X.env.code= .ref c) (C:codeHdIn X.K c P=true) (B:BM X.mg X.base)
  (hbind:∀ q cl pm cdv ct (u:aa),bindArgs (kla_fn "<lambda>" q params body scope cl pm cdv ct) ⟨[u],[]⟩=eQ [(x,u)])
  (hk:scope.kind= .function) (hco:scope.isCoroutine=false) (hgen:scope.isGenerator=false) (iH:∀ y∈scope.names,y.2≠ .cell) (hx:scope.names.lookup x=some .local) (hfx:x ∉ fr)
  (hfr:∀ y∈scope.names,y.2= .free→X.env.scope.names.lookup y.1=some .cell) (hjs:js.map (fun j=>X.N[j]?)=fr.map some) (hfv:∀ y∈fr,scope.names.lookup y=some .free)
  (hb:∀ cl L f cd s' H',PE (cxLam X (X.env.qual ++ "<lambda>") scope cl L f cd (x::fr) s' H') body te)
  (he:dM pos (bb [re] X.env)=(false,dg re X.env)::dM pos (bb [] X.env):=by rfl)
  (hs:bb [re] X.env=(false,dg re X.env)::bb [] X.env:=by rfl) (hpl:(dM pos (bb [re] X.env)).any (·.1)=false:=by rfl) :
  PE X (.Call (.Name "max" p) [re] [⟨some "key",.Lambda params body scope lp,kp⟩] pos) (tMaxL P (X.env.qual ++ "<lambda>") tr js te):=by
 intro aJ s σ H Q I h;refine dv (lV I hg hm (u:= .builtin "max") (by trivial) ?_);refine callWith_kw (kws:=[⟨some "key",.Lambda params body scope lp,kp⟩]) (thn ((aq hi aP hs) pos aJ s σ H (MaxQ1 P (X.env.qual ++ "<lambda>") js te σ Q) I h) fun us s1 ⟨vs,H1,I1,r1,q0⟩=>?_) he hpl;refine kws_cons ?_;obtain ⟨v,rfl⟩:∃ v,vs=[v]:=by
  cases vs with
  | nil=>exact q0.elim
  | cons v r=>cases r with
   | nil=>exact ⟨v,rfl⟩
   | cons _ _=>exact q0.elim
 have q1:MaxQ P (X.env.qual ++ "<lambda>") js te σ Q v H1:=q0;obtain ⟨L,vs,key,rfl,hL,hne,T,hkey,hQ⟩:=q1;obtain rfl:us=[.ref L]:=by
  cases r1 with
  | cons ru rs =>
   cases rs;exact pT (fun z=>[z]) ru
 refine lam_makeG (body:=body) I1 hd nh C B hfr T fun f cl H2 s2 I2 tb T2 F2 c1 c2=>?_
 refine kws_nil ?_;show aH _ _ (ir (.builtin "max") [.ref L] [(bY "key",.ref f)]) _ _ _;have LP:L≠P:=fun z=>by
  obtain ⟨ps,e⟩:=T.tbl;rw [←z,hL] at e;cases e
 have KI:KeyI X σ H2 (.ref f) vs key:=fun t H' pins' i v u hv ru I' S'=>by
  refine wpAny_of_in1 (bH (nQ (v:=v) I' hc hrm (F2.same S') ru (fun pm cdv ct=>hbind _ _ _ _ _ _) hk hco hgen iH hx hfx c1 c2 hfr hjs hfv (fun L cd s' H'=>hb cl L f cd s' H') (hkey i v hv H' (tb.trans S'.tb))) (fun k t' ⟨v',H'',I'',rv,S'',ev⟩=>?_) fun _ _ z=>z);subst ev;obtain ⟨tk,rfl⟩:∃ tk,k= .int (key i) tk:=rv;exact ⟨H'',tk,I'',S'',rfl⟩
 refine call_maxK I2 (I2.ok.hd hc) KI (tb _ _ LP hL) hne fun v u H' s' hv ru S' I'=>?_
 obtain ⟨b1,b2⟩:=best_ok (fun i=> -key i) (vs.length - 1);exact ⟨v,H',I',ru,hQ H' _ v (tb.trans S'.tb) (T2.same S') hv fun j hj=>by have:=b2 j (by lia);lia⟩
end L2
namespace L2
open PySem PySem.Spec PyProof.Rows
inductive rCountI (x:V)(vs:List V)(H:Hp)(Q:VK):Prop
 | mk (l:ai)(zs:List Int)(y:Int)(_:x= .ref l)(_:vs=[.int y])(_:H l=some (.lst (zs.map V.int)))(_:Q (.int (zs.count y:Nat)) H)
theorem mt_countI:MtM X "list.count" rCountI:=by
 intro aJ s σ H x vs v us Q I rx rv h;obtain ⟨l,zs,y,rfl,rfl,hH,q⟩:=h;cases (show v=aa.ref l from rx);obtain ⟨u,rfl,ru⟩:=rv.one;obtain ⟨t,rfl⟩:=ru;obtain ⟨z,its,n,r,hl,e⟩:=I.lstM hH;refine count_list_ints ⟨_,e,rfl,_,rfl⟩ (intsAre_of r) ?_;exact ⟨.int (zs.count y:Nat),H,I.tok _,⟨_,rfl⟩,q⟩
end L2
namespace HN
open PySem L2 PyProof.Rows
abbrev mW:cG:=top 47
abbrev sHeldM:cG:=top 48
abbrev sOthI:cG:=top 49
abbrev lqCm:Str:=(("commonest" :Str) ++ ".<locals>.") ++ "<lambda>"
theorem hfr_in {inner:gc}(hk:env.scope.kind= .function)(hx:env.kindOf x=some .cell)(hn:scope.names.lookup x=some .free)(hi:∀ y∈inner.names,y.2= .free→y.1=x):∀ y∈inner.names,y.2= .free→(relabel scope env).names.lookup y.1=some .cell:=fun y hy hf=>by
 rw [hi y hy hf];exact kX hk hx hn
theorem pi_listK {l:Expr}(e:X.K=K)(hl:PE X l tl):PI X tg l (iList K tl):=e ▸ fU hl
inductive spCommon (T:ai)(vs:List V)(H:Hp)(Q:VK)(_:XK):Prop
 | mk (L:ai)(zs:List Int)(_:vs=[.ref L])(_:H L=some (.lst (zs.map V.int)))(_:zs≠[])(_:L2.LamG T lqCm H)(_:∀ (z:Int) (H':Hp),L2.Tb T H H'→L2.LamG T lqCm H'→z∈zs→(∀ y∈zs,zs.count y≤zs.count z)→Q (.int z) H')
theorem fun_of:∀ (hs gs:List Int),hs.Nodup→gs.length=hs.length→∃ g:Int→Int,hs.map g=gs
 | [],[],_,_=>⟨fun _=>0,rfl⟩
 | [],_::_,_,h=>by cases h
 | _::_,[],_,h=>by cases h
 | h::hs,a::gs,nd,e=>by
  have nd:=bz.mp nd;obtain ⟨g,eg⟩:=fun_of hs gs nd.2 (by simpa using e);refine ⟨fun f=>if f=h then a else g f,?_⟩;rw [cg,pO rfl,←eg];congr 1;refine fY fun f hf=>?_
  rw [pN (fun z=>nd.1 (by rw [←z];exact hf))]
def Cmn (sh:List Int)(l:List Int)(z:Int):Prop:=z∈l.map (tm sh)∧∀ y∈l.map (tm sh),(l.map (tm sh)).count y≤(l.map (tm sh)).count z
inductive spHeldM (T:ai)(vs:List V)(H:Hp)(Q:VK)(_:XK):Prop
 | mk (v:V)(p u1 u2:ai)(b m:Int)(sp:List Sn)(zs:List V)(fs ts us:List Int)(_:vs=[v,.ref p,.ref u1,.ref u2])(_:IsD H v (kN b m sp))(_:0<b)(_:H p=some (.lst zs))(_:PtsD H zs fs)(_:H u1=some (.tup (ts.map V.int)))(_:H u2=some (.tup (us.map V.int)))(_:us.length=ts.length)(_:fs.length=ts.length)(_:ts.length≤1000)(_:L2.LamG T lqCm H)(_:∀ (r:ai) (H':Hp) (X:List Int) (g:Int→Int),L2.Tb T H H'→L2.LamG T lqCm H'→H' r=some (.tup (X.map V.int))→X.length=ts.length→(∀ k:Int,0≤k→k<ts.length→tm X k=(tm us k+g (tm fs k)) % b)→(∀ f∈iJ fs,Cmn (shM b ts us) (kU fs f) (g f))→Q (.ref r) H')
def othM (ts us:List Int):List Int:=((aK ts.length).filter fun k:Nat=> !decide (tm ts k=tm us k)).map fun k:Nat=>(k:Int)
inductive spOthI (vs:List V)(H:Hp)(Q:VK)(_:XK):Prop
 | mk (u1 u2:ai)(ts us:List Int)(_:vs=[.ref u1,.ref u2])(_:H u1=some (.tup (ts.map V.int)))(_:H u2=some (.tup (us.map V.int)))(_:us.length=ts.length)(_:ts.length≤1000)(_:∀ (r:ai) (H':Hp),Same H H'→H' r=some (.tup ((othM ts us).map V.int))→Q (.ref r) H')
theorem scCommon:cj pzn pzn (defScope mW):=by trivial
theorem ok_common {c T:ai}(F:Fun K "commonest" "commonest" mW f fd)(hcd:fd.code= .ref c)(CH:de K c T=true)(B:BM mg base)(T2:Nt mg):FnOk P w K mg base CX0 2 f fd pzn (spCommon T):=by
 refine okC F hcd scCommon (by contradiction) (fun A outer s H vs Q E hr h=>?_);obtain ⟨L,zs,rfl,hL,hne,hT,k⟩:=h;refine ⟨_,PSl.h (c9 ⟨(cM (pe_maxL (js:=[0]) (fr:=pzn) (x := "number") (c:=c) (P:=T) rfl hr.depth rfl T2.max (pv 0) rfl rfl CH B (fun _ _ _ _ _ _=>rfl) rfl rfl rfl (by trivial) rfl (by decide) (by exists mW) rfl (by trivial)
   (fun cl L f' cd s' H'=>(show PE _ _ (tBM K "list" rCountI (tVar 1) (tCons (tVar 0) tNil)) from oH bK PySem.F.slot_list_count PySem.F.type_list_count mt_countI (pv 1) (aq (pv 0) aP)))))⟩),?_⟩
 obtain ⟨ps,et⟩:=hT.tbl;refine ⟨_,rfl,L,zs.map V.int,fun i=>((zs.count (zs.getD i 0):Nat):Int),rfl,hL,fun z=>hne (List.map_eq_nil_iff.mp z),hT,fun i x hx H3 tb=>?_,fun H4 i x tb4 hT4 hx maxi=>?_⟩
 ·rw [ax] at hx
  obtain ⟨z,ez,rfl⟩:=aI.mp hx;have e:zs.getD i 0=z:=by rw [ah,ez];rfl
  have hL3:=tb _ _ (eV hL et nofun) hL;refine ⟨_,rfl,.inl ⟨rfl,_,SqL.of hL3⟩,_,rfl,L,zs,z,rfl,rfl,hL3,Same.refl _,?_⟩;show V.int _=V.int ((zs.count (zs.getD i 0):Nat):Int);rw [e]
 ·rw [ax] at hx
  obtain ⟨z,ez,rfl⟩:=aI.mp hx;refine k z H4 tb4 hT4 (aO ez) fun y hy=>?_
  obtain ⟨j,hj,rfl⟩:=bM hy;have:((zs.count (zs.getD j 0):Nat):Int)≤((zs.count (zs.getD i 0):Nat):Int):=maxi j (by rw [af];exact hj);have e1:zs.getD j 0=zs[j]:=by rw [ah,gE hj];rfl
  have e2:zs.getD i 0=z:=by rw [ah,ez];rfl
  rw [e1,e2] at this;lia
theorem scHeldM:cj ["net","parts","table","other","shifts"] pzi (defScope sHeldM):=by trivial
theorem ok_heldM {T:ai}(F:Fun K "held_at_most" "held_at_most" sHeldM f fd)(G1:Fn K mg "shifts_between" om pzk f1 fd1)(F1:FnOk P w K mg base CX0 2 f1 fd1 pzk nJ)(G2:Fn K mg "moved_in_parts" sMvP pzm f2 fd2)(F2:FnOk P w K mg base CX0 2 f2 fd2 pzm spMvP)(G3:Fn K mg "commonest" mW pzn f3 fd3)(F3:FnOk P w K mg base CX0 2 f3 fd3 pzn (spCommon T)):FnOk P w K mg base CX0 3 f fd pzi (spHeldM T):=by
 refine F.ok scHeldM (by contradiction) (fun cdv A outer s H vs Q E hr h=>?_);obtain ⟨v,p,u1,u2,b,m,sp,zs,fs,ts,us,rfl,hv,b0,hp,hz,h1,h2,lu,lf,few,hT,k⟩:=h;refine ⟨_,PSl.h (bg ⟨(psZ 4 scHeldM.nd (pc1 G1 F1 hr (aq (pv 0) (aq (pv 2) (aq (pv 3) aP)))))⟩
  (c9 ⟨(cM (pc1 G2 F2 hr (aq (pv 0) (aq (pv 1) (aq (pv 3) (aq (ij (fr:=["shifts"]) (js:=[4]) rfl (fU (pv 1)) (by trivial) rfl (by trivial) rfl (by exists sHeldM) (by trivial) rfl (by trivial) (fun _ _ _ _ _=>⟨(pc1 G3 F3 hr (aq (by exact ij (fr:=["shifts"]) (js:=[1]) rfl (pi_listK (K:=K) rfl (pv 0)) (by trivial) rfl (by trivial) rfl (hfr_in (x := "shifts") rfl rfl rfl (by trivial)) (by trivial) rfl (by trivial) (fun _ _ _ _ _=>⟨(eN (r:=rIxL K) fc (pv 1) (pv 0) (fun _ _=>rfl)),ig⟩)) aP)),ig⟩)) aP))))))⟩)),?_⟩
 refine ⟨_,rfl,_,rfl,_,rfl,v,u1,u2,b,m,sp,ts,us,rfl,hv,b0,h1,h2,lu,few,fun L H1 S1 _ e1=>?_⟩;obtain ⟨As,rfl,lA,hA⟩:=hz;have fw:As.length≤ts.length:=by
  rw [lA,←lf];exact kA (i3 fs) fun z hz=>(kI _).mp hz
 have lsh:(shM b ts us).length=ts.length:=shM_len lu;generalize esh:shM b ts us=sh at e1 lsh;have hT1:=hT.same S1;have NE:∀ {Hx:Hp} {a:ai} {o:HO},L2.LamG T lqCm Hx→Hx a=some o→(∀ q,o≠ .tbl q)→a≠T:=fun g e n z=>by
  obtain ⟨ps,et⟩:=g.tbl;rw [z,et] at e;exact n _ (bC e).symm
 refine ⟨_,rfl,_,rfl,_,rfl,_,rfl,p,rfl,⟨_,SqL.of (S1 _ _ hp)⟩,?_⟩;have keepP:∀ {H2:Hp},L2.Tb T H1 H2→H2 p=some (.lst (As.map V.ref)):=fun tb=>tb _ _ (NE hT1 (S1 _ _ hp) (fun _ z=>by cases z)) (S1 _ _ hp)
 refine gY (K:=K) (a:=p) (xs:=As.map V.ref) (fun i zs H2=>L2.Tb T H1 H2∧L2.LamG T lqCm H2∧∃ gs:List Int,zs=gs.map V.int∧gs.length=i∧∀ (j:Nat) (f z:Int),(iJ fs)[j]? =some f→gs[j]? =some z→Cmn sh (kU fs f) z) ⟨fun _ _ _ e=>e,hT1,[],rfl,rfl,fun _ _ _ _ h=>(by cases h)⟩ (fun i zs H2 hi ⟨tb,_,gs,e3,e4,_⟩=>⟨SqL.of (keepP tb),by rw [e3,af];lia⟩) (by rw [af];exact eK (by lia)) (fun i x zs H2 hx ⟨tb,hT2,gs,e3,e4,hg⟩=>?_) (fun zs H2 ⟨tb,hT2,gs,e3,e4,hg⟩ D hD=>?_)
 ·rw [ax] at hx
  obtain ⟨A,eA,rfl⟩:=aI.mp hx;have hi:i<(iJ fs).length:=by rw [←lA];exact (ar.mp eA).1
  have ef:=gE hi;obtain ⟨f0,ef0⟩:∃ f0,f0=(iJ fs)[i]:=⟨_,rfl⟩;have mf:f0∈iJ fs:=by rw [ef0];exact bu hi
  rw [←ef0] at ef;have hA1:=S1 _ _ (hA i _ A ef eA);have hA2:=tb _ _ (NE hT1 hA1 (fun _ z=>by cases z)) hA1;have hL2:=tb _ _ (NE hT1 e1 (fun _ z=>by cases z)) e1;have li:(kU fs f0).length≤ts.length:=by
   unfold kU;rw [af,←lf];exact aS (dG _ _) (by rw [ba];exact az _)
  refine gk ?_;refine ⟨_,rfl,A,rfl,⟨_,SqL.of hA2⟩,?_⟩;refine gY (K:=K) (a:=A) (xs:=(kU fs f0).map V.int) (fun j ys H3=>H3=H2∧ys=(((kU fs f0).take j).map (tm sh)).map V.int) ⟨rfl,rfl⟩ (fun j ys H3 hj ⟨q1,q2⟩=>⟨by rw [q1];exact SqL.of hA2,?_⟩) (by rw [af];exact eK (by lia)) (fun j x ys H3 hx ⟨q1,q2⟩=>?_) (fun ys H3 ⟨q1,q2⟩ D hD=>?_)
  ·rw [q2,af,af,bI];lia
  ·subst q1
   rw [ax] at hx;obtain ⟨z,ez,rfl⟩:=aI.mp hx;obtain ⟨z0,z1,_⟩:=kH.mp (aO ez);refine gk ?_;refine ⟨_,rfl,_,rfl,L,_,_,_,rfl,rfl,SqL.of hL2,nZ z0 (by lia),rfl,?_⟩;rw [q2,bh,ez,aM,aM];rfl
  ·subst q1
   rw [af,bo] at q2;subst q2;obtain ⟨h0,_⟩:=idxF_hd mf;refine ⟨D,(kU fs f0).map (tm sh),rfl,aW,fun z=>?_,hT2.same ((Same.refl H3).put hD),fun z H4 tb4 hT4 hz mx=>?_⟩
   ·rw [List.map_eq_nil_iff.mp z] at h0;cases h0
   refine ⟨fun a o n e=>tb4 _ _ n (by have e:=tb _ _ n e;rw [aZ (bB e hD)];exact e),hT4,gs++[z],by rw [e3,aM];rfl,by rw [av,e4];rfl,fun j f z' ej ez=>?_⟩
   rcases Nat.lt_or_ge j i with c | c
   ·rw [bS (by lia)] at ez
    exact hg j f z' ej ez
   ·have hj:j=i:=by have:=(ar.mp ez).1;rw [av,cu] at this;lia
    subst hj;rw [br (by lia),e4,eJ] at ez;cases ez;rw [ef] at ej;cases ej;exact ⟨hz,mx⟩
 ·rw [af,lA] at e4
  obtain ⟨g,eg⟩:=fun_of (iJ fs) gs (i3 fs) e4;have hm:∀ f∈iJ fs,Cmn sh (kU fs f) (g f):=fun f hf=>by
   obtain ⟨j,hj,rfl⟩:=bM hf;refine hg j _ _ (gE hj) ?_;rw [←eg,ax,gE hj];rfl
  subst e3;rw [←eg];have SD:Same H2 (upd H2 D (.lst (((iJ fs).map g).map V.int))):=(Same.refl H2).put hD;have eD:(upd H2 D (.lst (((iJ fs).map g).map V.int))) D=some (.lst (((iJ fs).map g).map V.int)):=aW;generalize upd H2 D (.lst (((iJ fs).map g).map V.int))=H5 at SD eD ⊢;have tb5:L2.Tb T H H5:=fun a o n e=>SD _ _ (tb _ _ n (S1 _ _ e))
  have kt:∀ {a:ai} {o:HO},H a=some o→(∀ q,o≠ .tbl q)→H5 a=some o:=fun e n=>tb5 _ _ (NE hT e n) e
  refine ⟨v,p,u2,D,b,m,sp,_,fs,us,g,rfl,cw (fun a xs e=>kt e (fun _ z=>by cases z)) hv,b0,kt hp (fun _ z=>by cases z),⟨As,rfl,lA,fun i f A h1 h2=>kt (hA i f A h1 h2) (fun _ z=>by cases z)⟩,kt h2 (fun _ z=>by cases z),by lia,by lia,eD,fun r H' X S6 h6 lX eX=>?_⟩;rw [esh] at k;exact k r H' X g (fun a o n e=>S6 _ _ (tb5 a o n e)) ((hT2.same SD).same S6) h6 (by lia) (fun k k0 k1=>eX k k0 (by lia)) hm
theorem scOthI:cj pzp pzp (defScope sOthI):=by trivial
theorem ok_othI (F:Fun K "others_in" "others_in" sOthI f fd)(T:Nm mg)(T2:Nt mg):FnOk P w K mg base CX0 1 f fd pzp spOthI:=by
 refine F.ok scOthI (by contradiction) (fun cdv A outer s H vs Q E hr h=>?_);obtain ⟨u1,u2,ts,us,rfl,h1,h2,lu,few,k⟩:=h;refine ⟨_,PSl.h (c9 ⟨(cM (eR ji rfl T.ttup jj (aq (ij (fr:=pzp) (js:=[0,1]) rfl (gW rfl T2.range (aq (dO dk rfl T.len cO (aq (pv 0) aP)) aP)) (by trivial) rfl (by trivial) rfl (by exists sOthI) (by trivial) rfl (by trivial) (fun _ _ _ _ _=>⟨(pv 0),(mZ (dE op_ne (eN (r:=rIxT K) fu (pv 1) (pv 0) (fun _ _=>rfl)) (eN (r:=rIxT K) fu (pv 2) (pv 0) (fun _ _=>rfl)) (eO _)))⟩)) aP)))⟩),?_⟩;refine ⟨_,rfl,u1,_,rfl,.inr (SqT.of h1),_,rfl,by lia,by rw [af];lia,?_⟩;rw [af,bV];refine km (n:=ts.length) (fun i zs H2=>H2=H∧zs=(((aK i).filter fun k:Nat=> !decide (tm ts k=tm us k)).map fun k:Nat=>(k:Int)).map V.int) ⟨rfl,rfl⟩ (fun i zs H2 hi ⟨e1,e2⟩=>?_) (eK few) (fun i zs H2 hi ⟨e1,e2⟩=>?_) (fun zs H2 ⟨e1,e2⟩ D hD=>?_)
 ·rw [e2,af,af]
  exact aS (dG _ _) (by rw [ba];exact az _)
 ·subst e1
  refine ⟨_,rfl,_,rfl,u1,_,_,_,rfl,rfl,SqT.of h1,nZ (by lia) (by lia),_,rfl,_,rfl,u2,_,_,_,rfl,rfl,SqT.of h2,nZ (by lia) (by lia),rfl,_,rfl,?_⟩;rw [jn];have ed:(!decide (V.int (tm ts i)=V.int (tm us i)))= !decide (tm ts i=tm us i):=by
   by_cases c:tm ts i=tm us i
   ·rw [c,pQ rfl,pQ rfl]
   ·rw [pR c,pR fun z=>c (by injection z)]
  rw [ed,e2,jY,fe,aM,aM];refine ite2 (fun hc=>?_) (fun hc=>?_)
  ·refine ⟨_,rfl,rfl,?_⟩
   rw [e8,pO hc];rfl
  ·refine ⟨rfl,?_⟩
   rw [e8,pN hc];exact (cP _).symm
 ·subst e1
  refine ⟨D,_,rfl,SqL.of aW,fun p3 H3 S3 h3=>?_⟩;refine k p3 H3 ((Same.put (Same.refl H2) hD).trans S3) ?_;rw [h3,e2];rfl
abbrev sStay:cG:=top 50
structure Mvd (b:Int)(fs us X:List Int)(g:Int→Int):Prop where
 len:X.length=us.length
 tm:∀ k:Int,0≤k→k<us.length→tm X k=(tm us k+g (tm fs k)) % b
theorem Mvd.ok {m:Int}{fs us X:List Int}{g:Int→Int}(M:Mvd b fs us X g)(N:NetT b m sp)(lb:Lbl m.toNat sp fs)(h:oX b m sp us):oX b m sp X:=by
 have b1:=N.b1;have lu:=h.1;refine ⟨M.len.trans lu,fun x hx=>?_,?_⟩
 ·obtain ⟨i,hi,rfl⟩:=bM hx
  have lx:=M.len;have e:=M.tm i (by lia) (by lia);have e2:HN.tm X i=X[i]:=by unfold HN.tm;rw [bV,ah,gE hi];rfl
  rw [←e2,e];exact ⟨gy _ (by lia),gr _ (by lia)⟩
 ·have hf:=h.2.2
  unfold kT at hf ⊢;rw [fE,gH] at hf ⊢;intro x hx;have s:=N.ends x hx;have w:jq b X x=jq b us x:=by
   unfold jq;rw [M.tm x.g s.2.2.1 (by lia),M.tm x.s s.1 (by lia),←lb.spn x hx];have a1:=Int.emod_add_mul_ediv (HN.tm us x.g+g (HN.tm fs x.s)) b;have a2:=Int.emod_add_mul_ediv (HN.tm us x.s+g (HN.tm fs x.s)) b;have:(HN.tm us x.g+g (HN.tm fs x.s)) % b - (HN.tm us x.s+g (HN.tm fs x.s)) % b - x.l=HN.tm us x.g - HN.tm us x.s - x.l+b * ((HN.tm us x.s+g (HN.tm fs x.s)) / b - (HN.tm us x.g+g (HN.tm fs x.s)) / b):=by
    rw [Int.mul_sub];lia
   rw [this,kr]
  have:=hf x hx;unfold brk at this ⊢;rw [w];exact this
abbrev AT:=ai×List Int
def stS (ts:List Int)(p:List Int×List AT)(k:Nat):List Int×List AT:=if 0<(p.2.filter fun y=>decide (tm y.2 k=tm ts k)).length then (p.1++[(k:Int)],p.2.filter fun y=>decide (tm y.2 k=tm ts k)) else p
theorem stS_inv {ts:List Int}:∀ (l:List Nat) (p:List Int×List AT),p.2≠[]→(l.foldl (stS ts) p).2≠[]∧(∀ y∈(l.foldl (stS ts) p).2,y∈p.2)∧(l.foldl (stS ts) p).1.length≤p.1.length+l.length
 | [],p,h=>⟨h,fun _ hy=>hy,az _⟩
 | k::l,p,h=>by
  have n:(stS ts p k).2≠[]∧(∀ y∈(stS ts p k).2,y∈p.2)∧(stS ts p k).1.length≤p.1.length+1:=by
   unfold stS;split
   ·rename_i c
    exact ⟨fun z=>by have z:p.2.filter (fun y=>decide (tm y.2 k=tm ts k))=[]:=z;rw [z] at c;exact pP c (by simp),fun y hy=>(b9.mp hy).1,by rw [av];exact az _⟩
   ·exact ⟨h,fun _ hy=>hy,by lia⟩
  obtain ⟨a,c,d⟩:=stS_inv l (stS ts p k) n.1;rw [bP,aY];exact ⟨a,fun y hy=>n.2.1 y (c y hy),by lia⟩
theorem stS_len {ts:List Int}:∀ (l:List Nat) (p:List Int×List AT),(l.foldl (stS ts) p).2.length≤p.2.length
 | [],_=>az _
 | k::l,p=>by
  rw [bP];refine aS (stS_len l _) ?_;unfold stS;split
  ·exact dG _ _
  ·exact az _
structure StayA (H:Hp)(q:ai)(b m:Int)(sp:List Sn)(ts:List Int)(fs:List Int)(l:List Nat)(rg:List (Nat×List Stp))(Ts:List (List Int))(Ys:List AT)(qs:ai)(y:AT):Prop where
 q:H q=some (.tup [.str "stay",.ref qs,.ref y.1])
 qs:H qs=some (.tup (((aK m.toNat).foldl (stS ts) ([],Ys)).1.map V.int))
 fst:((aK m.toNat).foldl (stS ts) ([],Ys)).2[0]? =some y
 qy:H y.1=some (.tup (y.2.map V.int))
 ok:∀ t∈Ts,oX b m sp t
 len:Ys.length=Ts.length
 mv:∀ (i:Nat) (t:List Int) (z:AT),Ts[i]? =some t→Ys[i]? =some z→Mvd b fs t z.2 (fun f=>(tm ts (hdF fs f) - tm t (hdF fs f)) % b)
 lb:Lbl m.toNat sp fs
 fr:FR m sp l rg
 hold:∀ T,kT b T sp=true→∃ t∈Ts,∀ k∈l,mh b t sp k=mh b T sp k
theorem StayA.tab {q:ai}{m:Int}{fs:List Int}{rg:List (Nat×List Stp)}{Ys:List AT}{qs:ai}{y:AT}(A:StayA H q b m sp ts fs l rg Ts Ys qs y)(N:NetT b m sp):oX b m sp y.2:=by
 have hy:=aO A.fst;have n:Ys≠[]:=fun z=>by
  have e:∀ (l:List Nat) (s:List Int),(l.foldl (stS ts) (s,[])).2=[]:=fun l=>by
   induction l with
   | nil=>intro _;rfl
   | cons k l ih=>intro s;exact ih s
  rw [z,e] at hy;cases hy
 obtain ⟨i,hi,e⟩:=bM ((stS_inv (aK m.toNat) ([],Ys) n).2.1 y hy);have hi:i<Ys.length:=hi;have e:Ys[i]=y:=e;have hj:i<Ts.length:=by have:=A.len;lia
 have M:=A.mv i Ts[i] y (gE hj) (by rw [gE hi,e]);exact M.ok N A.lb (A.ok _ (bu hj))
inductive spStay (T0:ai)(p0:Pos)(q0:Str)(T1:ai)(p1:Pos)(q1:Str)(T2:ai)(vs:List V)(H:Hp)(Q:VK)(_:XK):Prop
 | mk (v:V)(u:ai)(b m:Int)(sp:List Sn)(ts:List Int)(_:vs=[v,.ref u])(_:IsD H v (kN b m sp))(_:NetT b m sp)(_:(∀ l,FrstL m.toNat sp l→jg sp l≤4096))(_:(∃ T,kT b T sp=true))(_:H u=some (.tup (ts.map V.int)))(_:ts.length=m.toNat)(_:L2.LamT T0 p0 q0 H)(_:L2.LamT T1 p1 q1 H)(_:L2.LamT T2 lpT lqT H)(_:∀ (q:ai) (H':Hp),Kp H H'→(∀ a o,a≠T0→a≠T1→a≠T2→H a=some o→H' a=some o)→L2.LamT T0 p0 q0 H'→L2.LamT T1 p1 q1 H'→L2.LamT T2 lpT lqT H'→(∃ fs l rg Ts Ys qs y,StayA H' q b m sp ts fs l rg Ts Ys qs y)→Q (.ref q) H')
theorem lT:cj ["net","table","found","parts","tables","some","happening","holding"] pzc (defScope sStay):=by trivial
theorem ok_stay {f4 T2:ai}(F:Fun K "staying" "staying" sStay f fd)(T:Nm mg)(T2':Nt mg)(MC:∃ t,mg "MOST_CASES" =some (.int 4096 t))(n1:T0≠T1)(n2:T2≠T0)(n3:T2≠T1)
  (G1:Fn K mg "table_for" kF pza f1 fd1) (F1:FnOk P w K mg base CX0 12 f1 fd1 pza (mF T0 p0 q0 T1 p1 q1 T2))
  (G2:Fn K mg "parts_of" sParts pza f2 fd2) (F2:FnOk P w K mg base CX0 8 f2 fd2 pza (spParts T0 p0 q0))
  (G3:Fn K mg "held_at_firsts" sHeldF pzi f3 fd3) (F3:FnOk P w K mg base CX0 3 f3 fd3 pzi spHeldF)
  (G4:Fn K mg "tables_that_fit" sTabF pzh f4 fd4) (F4:FnOk P w K mg base CX0 11 f4 fd4 pzh (spTabF T0 p0 q0 T1 p1 q1)):FnOk P w K mg base CX0 13 f fd pzc (spStay T0 p0 q0 T1 p1 q1 T2):=by
 refine F.ok lT (by contradiction) (fun cdv A outer s H vs Q E hr h=>?_);obtain ⟨v,u,b,m,sp,ts,rfl,hv,N,hc,hft,hu,lt,hT0,hT1,hT2,k⟩:=h;have hr4:Room 3 _:=hr.mono (by decide);have hr9:Room 8 _:=hr.mono (by decide);have hr11:Room 11 _:=hr.mono (by decide);refine ⟨_,PSl.h (bg ⟨(psZ 2 lT.nd (pc1 G1 F1 hr (aq (pv 0) aP)))⟩
  (bg ⟨(jB (dE ng (ixZ (pv 2)) nA (eO _)) (dA (cM (pv 2))) fF)⟩
  (bg ⟨(psZ 3 lT.nd (pc1 G2 F2 hr9 (aq (pv 0) aP)))⟩
  (bg ⟨(oo (iy:=4) (fr:=["net","parts","table"]) (js:=[0,3,1]) lT.nd rfl (.inl rfl) rfl (fU (pc1 G4 F4 hr11 (aq (pv 0) (aq (oG MC) aP)))) (by trivial) rfl (by trivial) rfl (by exists sStay) (by trivial) rfl (by trivial) (fun _ _ _ _ _=>⟨(pc1 G3 F3 hr4 (aq (pv 1) (aq (pv 2) (aq (pv 3) (aq (pv 0) aP))))),ig⟩))⟩
  (bg ⟨(psZ 5 lT.nd (jT aP))⟩
  (bg ⟨(iW bO rfl (gW rfl T2'.range (aq (ixZ (pv 0)) aP)) (pgZ 6 lT.nd) (PSl.h (bg ⟨(oo (iy:=7) (fr:=["happening","table"]) (js:=[6,1]) lT.nd rfl (.inl rfl) rfl (fU (pv 4)) (by trivial) rfl (by trivial) rfl (by exists sStay) (by trivial) rfl (by trivial) (fun _ _ _ _ _=>⟨(pv 0),(mZ (dE ng (eN (r:=rIxT K) fu (pv 0) (pv 1) (fun _ _=>rfl)) (eN (r:=rIxT K) fu (pv 2) (pv 1) (fun _ _=>rfl)) (eO _)))⟩))⟩
  (c9 ⟨(jB (dE op_gt (dO dk rfl T.len cO (aq (pv 7) aP)) bR (eO _)) (PSl.h (bg ⟨(jS (oH bK cB cA iL (pv 5) (aq (pv 6) aP)))⟩
  (c9 ⟨(psZ 4 lT.nd (pv 7))⟩))) fF)⟩))))⟩
  (c9 ⟨(cM (fb (aq nA (aq (eR ji rfl T.ttup jj (aq (pv 5) aP)) (aq (eN fc (pv 4) bR (fun _ _=>rfl)) aP)))))⟩))))))),?_⟩
 obtain ⟨ps0,et0⟩:=LamT.tbl hT0;obtain ⟨ps1,et1⟩:=LamT.tbl hT1;obtain ⟨ps2,et2⟩:=LamT.tbl hT2;have nm1:=N.m1;have nm2:=N.m2;have em:((m.toNat:Nat):Int)=m:=d7 (by lia);refine ⟨_,rfl,v,b,m,sp,rfl,hv,N,hc,hft,hT0,hT1,hT2,fun q H1 st1 kp1 hT01 hT11 hT21 ans=>?_⟩;have hv1:=cw kp1.tup hv;obtain ⟨qt0,t0,hq,hqt,tok0⟩:=ans;refine ⟨_,rfl,q,_,_,_,rfl,rfl,SqT.of hq,bc (j:=0) rfl,rfl,_,rfl,iteC (pR nofun) ?_⟩;refine ⟨_,rfl,v,b,m,sp,rfl,hv1,N,hT01,fun Lp zp fs H2 tb2 hT02 hLp hpt lb=>?_⟩;obtain ⟨qs1,eu1⟩:=LamT.tbl hT01;have fz2:∀ a o u,H1 a=some (.frz o u)→H2 a=some (.frz o u):=fun a o u e=>tb2 _ _ (eV e eu1 nofun) e
 have kp2:Kp H1 H2:=Tb.kp hT01 tb2;have hT12:L2.LamT T1 p1 q1 H2:=fh hT11 (fun ps e=>tb2 _ _ (cn n1) e) fz2;have hT22:L2.LamT T2 lpT lqT H2:=fh hT21 (fun ps e=>tb2 _ _ n2 e) fz2;have hv2:=cw kp2.tup hv1;obtain ⟨qs2,eu2⟩:=LamT.tbl hT02;obtain ⟨qs3,eu3⟩:=LamT.tbl hT12;refine ⟨_,rfl,v,b,m,sp,4096,rfl,hv2,N,by decide,hc,hT02,hT12,fun L tv l rg Ts H3 st3 kp3 hT03 hT13 hL dL R tabs few hold=>?_⟩;have fz3:∀ a o u,H2 a=some (.frz o u)→H3 a=some (.frz o u):=fun a o u e=>st3 _ _ (eV e eu2 nofun) (eV e eu3 nofun) e
 have hT23:L2.LamT T2 lpT lqT H3:=fh hT22 (fun ps e=>st3 _ _ n2 n3 e) fz3;have hv3:=cw kp3.tup hv2;have holdA:=hold (.inr rfl);have ltv:tv.length=Ts.length:=by rw [dL.length];unfold eU;rw [af]
 have hu3:H3 u=some (.tup (ts.map V.int)):=kp3.tup _ _ (kp2.tup _ _ (kp1.tup _ _ hu));have kp03:Kp H H3:=kp1.trans (kp2.trans kp3);have st03:∀ a o,a≠T0→a≠T1→a≠T2→H a=some o→H3 a=some o:=fun a o e0 e1 e2 e=>st3 _ _ e0 e1 (tb2 _ _ e0 (st1 _ _ e0 e1 e2 e))
 have hLp3:=kp3.lst _ _ hLp;have hpt3:PtsD H3 zp fs:=by
  obtain ⟨As,e,lA,hA⟩:=hpt;exact ⟨As,e,lA,fun i f A h1 h2=>kp3.lst _ _ (hA i f A h1 h2)⟩
 have getT:∀ (i:Nat) x,tv[i]? =some x→∃ qx t,x= .ref qx∧H3 qx=some (.tup (t.map V.int))∧Ts[i]? =some t:=fun i x hx=>by
  have hi:i<Ts.length:=by rw [←ltv];exact (ar.mp hx).1
  obtain ⟨d,ed,dx⟩:=dL.get hx;unfold eU at ed;rw [ax,gE hi] at ed;cases ed;obtain ⟨qx,xs,rfl,hqx,rx⟩:=dx.tup_of;have:=rx.ints_of;subst this;exact ⟨qx,Ts[i],rfl,hqx,gE hi⟩
 refine ⟨L,rfl,⟨_,SqL.of hL⟩,?_⟩;have lfs:fs.length=ts.length:=by rw [lb.len,lt]
 have lTs:∀ t∈Ts,t.length=ts.length:=fun t ht=>by rw [(tabs t ht).1,lt]
 refine gY (K:=K) (a:=L) (xs:=tv) (fun i zs H4=>Same H3 H4∧∃ Ys:List AT,zs=Ys.map (fun y=>V.ref y.1)∧Ys.length=i∧(∀ y∈Ys,H4 y.1=some (.tup (y.2.map V.int)))∧∀ (j:Nat) (t:List Int) (z:AT),Ts[j]? =some t→Ys[j]? =some z→Mvd b fs t z.2 (fun f=>(tm ts (hdF fs f) - tm t (hdF fs f)) % b)) ⟨Same.refl H3,[],rfl,rfl,fun _ h=>(by cases h),fun _ _ _ _ h=>(by cases h)⟩ (fun i zs H4 hi ⟨S4,Ys,e1,e2,_⟩=>⟨SqL.of (S4 _ _ hL),by rw [e1,af];lia⟩) (by rw [ltv];exact aS few (by decide)) (fun i x zs H4 hx ⟨S4,Ys,e1,e2,hY,mY⟩=>?_) (fun zs H4 ⟨S4,Ys,e1,e2,hY,mY⟩ Lt hLt=>?_)
 ·obtain ⟨qx,t,rfl,hqx,et⟩:=getT i x hx
  refine gk ?_;refine ⟨_,rfl,_,rfl,_,rfl,_,rfl,v,Lp,u,qx,b,m,sp,zp,fs,ts,t,rfl,hv3.same S4,by have:=N.b1;lia,S4 _ _ hLp3,?_,S4 _ _ hu3,S4 _ _ hqx,lTs t (aO et),lfs,by lia,fun r H5 X S5 h5 lX eX=>?_⟩
  ·obtain ⟨As,e,lA,hA⟩:=hpt3
   exact ⟨As,e,lA,fun i f A h1 h2=>S4 _ _ (hA i f A h1 h2)⟩
  refine ⟨S4.trans S5,Ys++[(r,X)],by rw [e1,aM];rfl,by rw [av,e2];rfl,fun y hy=>?_,fun j t' z ej ez=>?_⟩
  ·rcases aG.mp hy with hy | hy
   ·exact S5 _ _ (hY y hy)
   ·rw [aw.mp hy];exact h5
  ·rcases Nat.lt_or_ge j i with c | c
   ·rw [bS (by lia)] at ez
    exact mY j t' z ej ez
   ·have hj:j=i:=by have:=(ar.mp ez).1;rw [av,cu] at this;lia
    subst hj;rw [br (by lia),e2,eJ] at ez;cases ez;rw [et] at ej;cases ej;have lt':=lTs t (aO et);exact ⟨by rw [lX,lt'],fun k k0 k1=>eX k k0 (by lia)⟩
 subst e1;have lY:Ys.length=Ts.length:=e2.trans ltv;have S5:Same H3 (upd H4 Lt (.lst (Ys.map fun y=>V.ref y.1))):=S4.put hLt;have h5:(upd H4 Lt (.lst (Ys.map fun y=>V.ref y.1))) Lt=some (.lst (Ys.map fun y=>V.ref y.1)):=aW;have hY5:∀ y∈Ys,(upd H4 Lt (.lst (Ys.map fun y=>V.ref y.1))) y.1=some (.tup (y.2.map V.int)):=fun y hy=>by rw [aZ (bB (hY y hy) hLt)];exact hY y hy
 generalize upd H4 Lt (.lst (Ys.map fun y=>V.ref y.1))=H5 at S5 h5 hY5 ⊢;have nY:Ys≠[]:=fun z=>by
  obtain ⟨t,ht,_⟩:=holdA t0 tok0.2.2;rw [z] at lY;rw [iV.mp lY.symm] at ht;cases ht
 have len:∀ y∈Ys,y.2.length=ts.length:=fun y hy=>by
  obtain ⟨i,hi,rfl⟩:=bM hy;have hj:i<Ts.length:=by lia
  rw [(mY i Ts[i] Ys[i] (gE hj) (gE hi)).len];exact lTs _ (bu hj)
 obtain ⟨t,p,ys,rfl,ht,hp,hl,hy⟩:=fH hv3;refine ⟨bE _,fun Ls hLs=>?_⟩;have S6:Same H5 (upd H5 Ls (.lst [])):=(Same.refl H5).put hLs;have h6:(upd H5 Ls (.lst [])) Ls=some (.lst []):=aW;generalize upd H5 Ls (.lst [])=H6 at S6 h6 ⊢;refine ⟨_,rfl,t,_,_,_,rfl,rfl,SqT.of (S6 _ _ (S5 _ _ ht)),bc (j:=1) rfl,m,rfl,by lia,by lia,?_⟩;refine lG (n:=m.toNat) (fun i σ HD=>Same H5 HD∧HD Ls=some (.lst ((((aK i).foldl (stS ts) ([],Ys)).1).map V.int))∧∃ (La:ai) (w6 w7:Option V),La≠Ls∧HD La=some (.lst ((((aK i).foldl (stS ts) ([],Ys)).2).map fun y=>V.ref y.1))∧σ=[some (.ref t),some (.ref u),some (.ref q),some (.ref Lp),some (.ref La),some (.ref Ls),w6,w7]) ⟨S6,h6,Lt,none,none,bB h5 hLs,S6 _ _ h5,rfl⟩ ?_ ?_
 ·rintro i σ HD hi ⟨SD,hD,La,w6,w7,nL,hLa,rfl⟩
  rw [jY,cx];obtain ⟨nz,sub,sz⟩:=stS_inv (ts:=ts) (aK i) ([],Ys) nY;generalize epr:(aK i).foldl (stS ts) ([],Ys)=pr at hD hLa nz sub sz ⊢;obtain ⟨S0,lf⟩:=pr;have sub:∀ y∈lf,y∈Ys:=sub;have sz:S0.length≤0+i:=by rw [ba] at sz;exact sz
  have hD:HD Ls=some (.lst (S0.map V.int)):=hD;have hLa:HD La=some (.lst (lf.map fun y=>V.ref y.1)):=hLa;have e0:(0:Int)+(i:Int)=i:=jn _;have sml:lf.length≤4096:=by have:=stS_len (ts:=ts) (aK i) ([],Ys);rw [epr] at this;have this:lf.length≤Ys.length:=this;lia
  have hi':(i:Int)<ts.length:=by lia
  refine ⟨_,rfl,La,rfl,⟨_,SqL.of hLa⟩,?_⟩;refine gY (K:=K) (a:=La) (xs:=lf.map fun y=>V.ref y.1) (fun j zs H7=>H7=HD∧zs=((lf.take j).filter fun y=>decide (tm y.2 i=tm ts i)).map fun y=>V.ref y.1) ⟨rfl,rfl⟩ (fun j zs H7 hj ⟨e1,e2⟩=>⟨by rw [e1];exact SqL.of hLa,?_⟩) (by rw [af];exact aS sml (by decide)) (fun j x zs H7 hx ⟨e1,e2⟩=>?_) (fun zs H7 ⟨e1,e2⟩ Lh hLh=>?_)
  ·rw [e2,af]
   exact aS (dG _ _) (by rw [bI];lia)
  ·subst e1
   rw [ax] at hx;obtain ⟨y,ey,rfl⟩:=aI.mp hx;have my:=sub y (aO ey);have ly:=len y my;refine ⟨_,rfl,_,rfl,y.1,_,_,_,rfl,rfl,SqT.of (SD _ _ (hY5 y my)),nZ (by lia) (by lia),_,rfl,_,rfl,u,_,_,_,rfl,rfl,SqT.of (SD _ _ (S5 _ _ hu3)),nZ (by lia) (by lia),rfl,_,rfl,?_⟩;rw [e0];have ed:decide (V.int (tm y.2 i)=V.int (tm ts i))=decide (tm y.2 i=tm ts i):=by
    by_cases c:tm y.2 i=tm ts i
    ·rw [c,pQ rfl,pQ rfl]
    ·rw [pR c,pR fun z=>c (by injection z)]
   rw [ed,e2,bh,ey];refine ite2 (fun hc=>?_) (fun hc=>?_)
   ·refine ⟨_,rfl,rfl,?_⟩
    rw [fe,aM];show _=_++(List.filter _ [y]).map _;rw [e8,pO hc];rfl
   ·refine ⟨rfl,?_⟩
    rw [fe,aM];show _=_++(List.filter _ [y]).map _;rw [e8,pN (by first | exact hc | (rw [hc];exact aV))];exact (cP _).symm
  ·subst e1
   rw [af,bo] at e2;subst e2;generalize eF:(lf.filter fun y=>decide (tm y.2 i=tm ts i))=fl;have S7:Same H7 (upd H7 Lh (.lst (fl.map fun y=>V.ref y.1))):=(Same.refl H7).put hLh;have h7:(upd H7 Lh (.lst (fl.map fun y=>V.ref y.1))) Lh=some (.lst (fl.map fun y=>V.ref y.1)):=aW;have nH:Lh≠Ls:=fun z=>by rw [z,hD] at hLh;cases hLh
   generalize upd H7 Lh (.lst (fl.map fun y=>V.ref y.1))=H8 at S7 h7 ⊢;have hD8:=S7 _ _ hD;have keep:∀ {a:ai} {o:HO} {x:HO},H5 a=some o→(upd H8 Ls x) a=some o:=fun e=>by
    rw [aZ (bB e hLs)];exact S7 _ _ (SD _ _ e)
   refine ⟨_,rfl,Lh,_,rfl,.inl (SqL.of h7),_,_,rfl,rfl,_,rfl,?_⟩;have es:stS ts (S0,lf) i=if 0<fl.length then (S0++[(i:Int)],fl) else (S0,lf):=by
    unfold stS;show (if 0<(lf.filter fun y=>decide (tm y.2 i=tm ts i)).length then _ else _)=_;rw [eF]
   show if decide (_)=true then _ else _;rw [bP,List.foldl_nil,es,af];refine ite2 (fun hc=>?_) (fun hc=>?_)
   ·have hc':0<fl.length:=by have:=pS hc;lia
    rw [pO hc'];refine ⟨_,rfl,.inl ⟨rfl,_,SqL.of hD8⟩,_,rfl,Ls,_,_,rfl,rfl,hD8,by rw [af];exact bU (by lia:_≤16) (by decide),?_⟩;refine ⟨_,rfl,fun a o e=>keep e,?_,Lh,_,_,nH,by rw [aZ nH];exact h7,rfl⟩;rw [aW,e0,aM];rfl
   ·have hc':¬ (0<fl.length):=fun z=>hc (pQ (by lia))
    rw [pN hc'];exact ⟨fun a o e=>S7 _ _ (SD _ _ e),hD8,La,_,_,nL,S7 _ _ hLa,rfl⟩
 ·rintro σ HD ⟨SD,hD,La,w6,w7,nL,hLa,rfl⟩
  obtain ⟨nz,sub,sz⟩:=stS_inv (ts:=ts) (aK m.toNat) ([],Ys) nY;obtain ⟨y,ey⟩:∃ y,((aK m.toNat).foldl (stS ts) ([],Ys)).2[0]? =some y:=by
   cases e:((aK m.toNat).foldl (stS ts) ([],Ys)).2 with
   | nil=>exact pP e nz
   | cons a l=>exact ⟨a,rfl⟩
  refine ⟨_,rfl,Ls,_,rfl,SqL.of hD,fun qs H9 S9 h9=>?_⟩;refine ⟨_,rfl,La,_,_,_,rfl,rfl,SqL.of (S9 _ _ hLa),bc (j:=0) (by rw [ax,ey];rfl),(by show 3≤aR;decide),fun qr HA SA hA=>?_⟩;have S3A:Same H3 HA:=fun a o e=>SA _ _ (S9 _ _ (SD _ _ (S5 _ _ e)))
  refine k qr HA (kp03.trans (Same.kp S3A)) (fun a o e0 e1 e2 e=>S3A _ _ (st03 a o e0 e1 e2 e)) (LamT.same S3A hT03) (LamT.same S3A hT13) (LamT.same S3A hT23) ⟨fs,l,rg,Ts,Ys,qs,y,?_⟩;exact ⟨hA,SA _ _ h9,ey,SA _ _ (S9 _ _ (SD _ _ (hY5 y (sub y (aO ey))))),tabs,lY,mY,lb,R,holdA⟩
abbrev sFew:cG:=top 51
abbrev lqFw:Str:=(("fewest_moved" :Str) ++ ".<locals>.") ++ "<lambda>"
theorem lenK (K:au)(hK:X.K=K:=by rfl):CallR X (.builtin "len") (fun xs H Q=>∃ p ys,xs=[.ref p]∧(SqL K H p ys∨SqT K H p ys)∧Q (.int ys.length) H):=by subst hK;exact dk
structure FewA (H:Hp)(q:ai)(b m:Int)(sp:List Sn)(ts:List Int)(fs:List Int)(l:List Nat)(rg:List (Nat×List Stp))(Ts:List (List Int))(Ys:List AT)(qs:ai)(y:AT):Prop where
 q:H q=some (.tup [.str "moved",.ref qs,.ref y.1])
 qs:H qs=some (.tup ((othM ts y.2).map V.int))
 mem:y∈Ys
 qy:H y.1=some (.tup (y.2.map V.int))
 least:∀ z∈Ys,(othM ts y.2).length≤(othM ts z.2).length
 ok:∀ t∈Ts,oX b m sp t
 len:Ys.length=Ts.length
 mv:∀ (i:Nat) (t:List Int) (z:AT),Ts[i]? =some t→Ys[i]? =some z→∃ g,Mvd b fs t z.2 g∧∀ f∈iJ fs,Cmn (shM b ts t) (kU fs f) (g f)
 lb:Lbl m.toNat sp fs
 fr:FR m sp l rg
 hold:∀ T,kT b T sp=true→∃ t∈Ts,∀ k∈l,mh b t sp k=mh b T sp k
theorem FewA.tab {q:ai}{m:Int}{fs:List Int}{rg:List (Nat×List Stp)}{Ys:List AT}{qs:ai}{y:AT}(A:FewA H q b m sp ts fs l rg Ts Ys qs y)(N:NetT b m sp):oX b m sp y.2:=by
 obtain ⟨i,hi,e⟩:=bM A.mem;have hj:i<Ts.length:=by have:=A.len;lia
 obtain ⟨g,M,_⟩:=A.mv i Ts[i] y (gE hj) (by rw [gE hi,e]);exact M.ok N A.lb (A.ok _ (bu hj))
inductive spFew (T0:ai)(p0:Pos)(q0:Str)(T1:ai)(p1:Pos)(q1:Str)(T2 T4 T5:ai)(vs:List V)(H:Hp)(Q:VK)(_:XK):Prop
 | mk (v:V)(u:ai)(b m:Int)(sp:List Sn)(ts:List Int)(_:vs=[v,.ref u])(_:IsD H v (kN b m sp))(_:NetT b m sp)(_:(∀ l,FrstL m.toNat sp l→jg sp l≤4096))(_:(∃ T,kT b T sp=true))(_:H u=some (.tup (ts.map V.int)))(_:ts.length=m.toNat)(_:L2.LamT T0 p0 q0 H)(_:L2.LamT T1 p1 q1 H)(_:L2.LamT T2 lpT lqT H)(_:L2.LamG T4 lqCm H)(_:L2.LamG T5 lqFw H)(_:∀ (q:ai) (H':Hp),Kp H H'→(∀ a o,a≠T0→a≠T1→a≠T2→a≠T4→a≠T5→H a=some o→H' a=some o)→L2.LamT T0 p0 q0 H'→L2.LamT T1 p1 q1 H'→L2.LamT T2 lpT lqT H'→L2.LamG T4 lqCm H'→L2.LamG T5 lqFw H'→(∃ fs l rg Ts Ys qs y,FewA H' q b m sp ts fs l rg Ts Ys qs y)→Q (.ref q) H')
theorem scFew:cj ["net","table","found","parts","tables","nearest"] pzc (defScope sFew):=by trivial
theorem ok_few {f4 f5 c T2 T4 T5:ai}{fd5:bf}(F:Fun K "fewest_moved" "fewest_moved" sFew f fd)(hcd:fd.code= .ref c)(CH:de K c T5=true)(B:BM mg base)(T:Nm mg)(MC:∃ t,mg "MOST_CASES" =some (.int 4096 t))(n1:T0≠T1)(n2:T2≠T0)(n3:T2≠T1)(a0:T4≠T0)(a1:T4≠T1)(a2:T4≠T2)(b0:T5≠T0)(b1:T5≠T1)(b2:T5≠T2)(b4:T5≠T4)
  (G1:Fn K mg "table_for" kF pza f1 fd1) (F1:FnOk P w K mg base CX0 12 f1 fd1 pza (mF T0 p0 q0 T1 p1 q1 T2))
  (G2:Fn K mg "parts_of" sParts pza f2 fd2) (F2:FnOk P w K mg base CX0 8 f2 fd2 pza (spParts T0 p0 q0))
  (G3:Fn K mg "held_at_most" sHeldM pzi f3 fd3) (F3:FnOk P w K mg base CX0 3 f3 fd3 pzi (spHeldM T4))
  (G4:Fn K mg "tables_that_fit" sTabF pzh f4 fd4) (F4:FnOk P w K mg base CX0 11 f4 fd4 pzh (spTabF T0 p0 q0 T1 p1 q1))
  (G5:Fn K mg "others_in" sOthI pzp f5 fd5) (F5:FnOk P w K mg base CX0 1 f5 fd5 pzp spOthI):FnOk P w K mg base CX0 13 f fd pzc (spFew T0 p0 q0 T1 p1 q1 T2 T4 T5):=by
 refine okC F hcd scFew (by contradiction) (fun A outer s H vs Q E hr h=>?_);obtain ⟨v,u,b,m,sp,ts,rfl,hv,N,hc,hft,hu,lt,hT0,hT1,hT2,hT4,hT5,k⟩:=h;have hr1:Room 1 _:=hr.mono (by decide);have hr4:Room 3 _:=hr.mono (by decide);have hr9:Room 8 _:=hr.mono (by decide);have hr11:Room 11 _:=hr.mono (by decide);refine ⟨_,PSl.h (bg ⟨(psZ 2 scFew.nd (pc1 G1 F1 hr (aq (pv 0) aP)))⟩
  (bg ⟨(jB (dE ng (ixZ (pv 2)) nA (eO _)) (dA (cM (pv 2))) fF)⟩
  (bg ⟨(psZ 3 scFew.nd (pc1 G2 F2 hr9 (aq (pv 0) aP)))⟩
  (bg ⟨(oo (iy:=4) (fr:=["net","parts","table"]) (js:=[0,3,1]) scFew.nd rfl (.inl rfl) rfl (fU (pc1 G4 F4 hr11 (aq (pv 0) (aq (oG MC) aP)))) (by trivial) rfl (by trivial) rfl (by exists sFew) (by trivial) rfl (by trivial) (fun _ _ _ _ _=>⟨(pc1 G3 F3 hr4 (aq (pv 1) (aq (pv 2) (aq (pv 3) (aq (pv 0) aP))))),ig⟩))⟩
  (bg ⟨(psZ 5 scFew.nd (pe_minL (js:=[1]) (fr:=["table"]) (x := "other") (c:=c) (P:=T5) rfl hr.depth rfl T.min (pv 4) rfl rfl CH B (fun _ _ _ _ _ _=>rfl) rfl rfl rfl (by trivial) rfl (by decide) (by exists sFew) rfl (by trivial)
   (fun cl L f' cd s' H'=>dO (lenK K) rfl T.len cO (aq (pc1 G5 F5 (((hr.in1).in1).deeper _ |>.mono (by decide)) (aq (pv 1) (aq (pv 0) aP))) aP))))⟩
  (c9 ⟨(cM (fb (aq nA (aq (pc1 G5 F5 hr1 (aq (pv 1) (aq (pv 5) aP))) (aq (pv 5) aP)))))⟩)))))),?_⟩
 obtain ⟨ps0,et0⟩:=LamT.tbl hT0;obtain ⟨ps1,et1⟩:=LamT.tbl hT1;obtain ⟨ps2,et2⟩:=LamT.tbl hT2;have nm1:=N.m1;have nm2:=N.m2;have em:((m.toNat:Nat):Int)=m:=d7 (by lia);refine ⟨_,rfl,v,b,m,sp,rfl,hv,N,hc,hft,hT0,hT1,hT2,fun q H1 st1 kp1 hT01 hT11 hT21 ans=>?_⟩;have hv1:=cw kp1.tup hv;have fz1:∀ a o u,H a=some (.frz o u)→H1 a=some (.frz o u):=fun a o u e=>st1 _ _ (eV e et0 nofun) (eV e et1 nofun) (eV e et2 nofun) e
 have hT41:L2.LamG T4 lqCm H1:=hT4.stay (fun ps e=>st1 _ _ a0 a1 a2 e) fz1;have hT51:L2.LamG T5 lqFw H1:=hT5.stay (fun ps e=>st1 _ _ b0 b1 b2 e) fz1;obtain ⟨qt0,t0,hq,hqt,tok0⟩:=ans;refine ⟨_,rfl,q,_,_,_,rfl,rfl,SqT.of hq,bc (j:=0) rfl,rfl,_,rfl,iteC (pR nofun) ?_⟩;refine ⟨_,rfl,v,b,m,sp,rfl,hv1,N,hT01,fun Lp zp fs H2 tb2 hT02 hLp hpt lb=>?_⟩;obtain ⟨qs1,eu1⟩:=LamT.tbl hT01;have fz2:∀ a o u,H1 a=some (.frz o u)→H2 a=some (.frz o u):=fun a o u e=>tb2 _ _ (eV e eu1 nofun) e
 have kp2:Kp H1 H2:=Tb.kp hT01 tb2;have hT12:L2.LamT T1 p1 q1 H2:=fh hT11 (fun ps e=>tb2 _ _ (cn n1) e) fz2;have hT22:L2.LamT T2 lpT lqT H2:=fh hT21 (fun ps e=>tb2 _ _ n2 e) fz2;have hT42:L2.LamG T4 lqCm H2:=hT41.stay (fun ps e=>tb2 _ _ a0 e) fz2;have hT52:L2.LamG T5 lqFw H2:=hT51.stay (fun ps e=>tb2 _ _ b0 e) fz2;have hv2:=cw kp2.tup hv1;obtain ⟨qs2,eu2⟩:=LamT.tbl hT02;obtain ⟨qs3,eu3⟩:=LamT.tbl hT12;refine ⟨_,rfl,v,b,m,sp,4096,rfl,hv2,N,by decide,hc,hT02,hT12,fun L tv l rg Ts H3 st3 kp3 hT03 hT13 hL dL R tabs few hold=>?_⟩;have fz3:∀ a o u,H2 a=some (.frz o u)→H3 a=some (.frz o u):=fun a o u e=>st3 _ _ (eV e eu2 nofun) (eV e eu3 nofun) e
 have hT23:L2.LamT T2 lpT lqT H3:=fh hT22 (fun ps e=>st3 _ _ n2 n3 e) fz3;have hT43:L2.LamG T4 lqCm H3:=hT42.stay (fun ps e=>st3 _ _ a0 a1 e) fz3;have hT53:L2.LamG T5 lqFw H3:=hT52.stay (fun ps e=>st3 _ _ b0 b1 e) fz3;have hv3:=cw kp3.tup hv2;have holdA:=hold (.inr rfl);have ltv:tv.length=Ts.length:=by rw [dL.length];unfold eU;rw [af]
 have hu3:H3 u=some (.tup (ts.map V.int)):=kp3.tup _ _ (kp2.tup _ _ (kp1.tup _ _ hu));have kp03:Kp H H3:=kp1.trans (kp2.trans kp3);have st03:∀ a o,a≠T0→a≠T1→a≠T2→H a=some o→H3 a=some o:=fun a o e0 e1 e2 e=>st3 _ _ e0 e1 (tb2 _ _ e0 (st1 _ _ e0 e1 e2 e))
 have hLp3:=kp3.lst _ _ hLp;have hpt3:PtsD H3 zp fs:=by
  obtain ⟨As,e,lA,hA⟩:=hpt;exact ⟨As,e,lA,fun i f A h1 h2=>kp3.lst _ _ (hA i f A h1 h2)⟩
 have getT:∀ (i:Nat) x,tv[i]? =some x→∃ qx t,x= .ref qx∧H3 qx=some (.tup (t.map V.int))∧Ts[i]? =some t:=fun i x hx=>by
  have hi:i<Ts.length:=by rw [←ltv];exact (ar.mp hx).1
  obtain ⟨d,ed,dx⟩:=dL.get hx;unfold eU at ed;rw [ax,gE hi] at ed;cases ed;obtain ⟨qx,xs,rfl,hqx,rx⟩:=dx.tup_of;have:=rx.ints_of;subst this;exact ⟨qx,Ts[i],rfl,hqx,gE hi⟩
 refine ⟨L,rfl,⟨_,SqL.of hL⟩,?_⟩;have lfs:fs.length=ts.length:=by rw [lb.len,lt]
 have lTs:∀ t∈Ts,t.length=ts.length:=fun t ht=>by rw [(tabs t ht).1,lt]
 have NE:∀ {Hx:Hp} {Tx a:ai} {lq:Str} {o:HO},L2.LamG Tx lq Hx→Hx a=some o→(∀ q,o≠ .tbl q)→a≠Tx:=fun g e n z=>by
  obtain ⟨ps,et⟩:=g.tbl;rw [z,et] at e;exact n _ (bC e).symm
 have kt:∀ {H4:Hp} {a:ai} {o:HO},L2.Tb T4 H3 H4→H3 a=some o→(∀ q,o≠ .tbl q)→H4 a=some o:=fun tb e n=>tb _ _ (NE hT43 e n) e
 refine gY (K:=K) (a:=L) (xs:=tv) (fun i zs H4=>L2.Tb T4 H3 H4∧L2.LamG T4 lqCm H4∧∃ Ys:List AT,zs=Ys.map (fun y=>V.ref y.1)∧Ys.length=i∧(∀ y∈Ys,H4 y.1=some (.tup (y.2.map V.int)))∧∀ (j:Nat) (t:List Int) (z:AT),Ts[j]? =some t→Ys[j]? =some z→∃ g,Mvd b fs t z.2 g∧∀ f∈iJ fs,Cmn (shM b ts t) (kU fs f) (g f)) ⟨fun _ _ _ e=>e,hT43,[],rfl,rfl,fun _ h=>(by cases h),fun _ _ _ _ h=>(by cases h)⟩ (fun i zs H4 hi ⟨tb4,_,Ys,e1,e2,_⟩=>⟨SqL.of (kt tb4 hL (fun _ z=>by cases z)),by rw [e1,af];lia⟩) (by rw [ltv];exact aS few (by decide)) (fun i x zs H4 hx ⟨tb4,hT44,Ys,e1,e2,hY,mY⟩=>?_) (fun zs H4 ⟨tb4,hT44,Ys,e1,e2,hY,mY⟩ Lt hLt=>?_)
 ·obtain ⟨qx,t,rfl,hqx,et⟩:=getT i x hx
  have lt':=lTs t (aO et);refine gk ?_;refine ⟨_,rfl,_,rfl,_,rfl,_,rfl,v,Lp,u,qx,b,m,sp,zp,fs,ts,t,rfl,cw (fun a xs e=>kt tb4 e (fun _ z=>by cases z)) hv3,by have:=N.b1;lia,kt tb4 hLp3 (fun _ z=>by cases z),?_,kt tb4 hu3 (fun _ z=>by cases z),kt tb4 hqx (fun _ z=>by cases z),lt',lfs,by lia,hT44,fun r H5 X g tb5 hT45 h5 lX eX cm=>?_⟩
  ·obtain ⟨As,e,lA,hA⟩:=hpt3
   exact ⟨As,e,lA,fun i f A h1 h2=>kt tb4 (hA i f A h1 h2) (fun _ z=>by cases z)⟩
  refine ⟨fun a o n e=>tb5 _ _ n (tb4 _ _ n e),hT45,Ys++[(r,X)],by rw [e1,aM];rfl,by rw [av,e2];rfl,fun y hy=>?_,fun j t' z ej ez=>?_⟩
  ·rcases aG.mp hy with hy | hy
   ·exact tb5 _ _ (NE hT44 (hY y hy) (fun _ z=>by cases z)) (hY y hy)
   ·rw [aw.mp hy];exact h5
  ·rcases Nat.lt_or_ge j i with c | c
   ·rw [bS (by lia)] at ez
    exact mY j t' z ej ez
   ·have hj:j=i:=by have:=(ar.mp ez).1;rw [av,cu] at this;lia
    subst hj;rw [br (by lia),e2,eJ] at ez;cases ez;rw [et] at ej;cases ej;exact ⟨g,⟨by rw [lX,lt'],fun k k0 k1=>eX k k0 (by lia)⟩,cm⟩
 subst e1;have lY:Ys.length=Ts.length:=e2.trans ltv;have S5:Same H4 (upd H4 Lt (.lst (Ys.map fun y=>V.ref y.1))):=(Same.refl H4).put hLt;have h5:(upd H4 Lt (.lst (Ys.map fun y=>V.ref y.1))) Lt=some (.lst (Ys.map fun y=>V.ref y.1)):=aW;generalize upd H4 Lt (.lst (Ys.map fun y=>V.ref y.1))=H5 at S5 h5 ⊢;have tb35:L2.Tb T4 H3 H5:=fun a o n e=>S5 _ _ (tb4 _ _ n e)
 have fz5:∀ a o u,H3 a=some (.frz o u)→H5 a=some (.frz o u):=fun a o u e=>kt tb35 e (fun _ z=>by cases z)
 have hT05:L2.LamT T0 p0 q0 H5:=fh hT03 (fun ps e=>tb35 _ _ (cn a0) e) fz5;have hT15:L2.LamT T1 p1 q1 H5:=fh hT13 (fun ps e=>tb35 _ _ (cn a1) e) fz5;have hT25:L2.LamT T2 lpT lqT H5:=fh hT23 (fun ps e=>tb35 _ _ (cn a2) e) fz5;have hT45:L2.LamG T4 lqCm H5:=hT44.same S5;have hT55:L2.LamG T5 lqFw H5:=hT53.stay (fun ps e=>tb35 _ _ b4 e) fz5;have nY:Ys≠[]:=fun z=>by
  obtain ⟨t,ht,_⟩:=holdA t0 tok0.2.2;rw [z] at lY;rw [iV.mp lY.symm] at ht;cases ht
 have len:∀ y∈Ys,y.2.length=ts.length:=fun y hy=>by
  obtain ⟨i,hi,rfl⟩:=bM hy;have hj:i<Ts.length:=by lia
  obtain ⟨g,M,_⟩:=mY i Ts[i] Ys[i] (gE hj) (gE hi);rw [M.len];exact lTs _ (bu hj)
 have hu5:=kt tb35 hu3 (fun _ z=>by cases z);have hY5:∀ y∈Ys,H5 y.1=some (.tup (y.2.map V.int)):=fun y hy=>S5 _ _ (hY y hy)
 have kf:∀ {H6:Hp} {a:ai} {o:HO},L2.Tb T5 H5 H6→H5 a=some o→(∀ q,o≠ .tbl q)→H6 a=some o:=fun tb e n=>tb _ _ (NE hT55 e n) e
 refine ⟨_,rfl,Lt,_,fun i=>(((othM ts ((Ys.getD i (0,[])).2)).length:Nat):Int),rfl,h5,fun z=>nY (List.map_eq_nil_iff.mp z),hT55,fun i x hx H6 tb6=>?_,fun H6 i x tb6 hT56 hx mini=>?_⟩
 ·rw [ax] at hx
  obtain ⟨y,ey,rfl⟩:=aI.mp hx;have my:=aO ey;have e:Ys.getD i (0,[])=y:=by rw [ah,ey];rfl
  refine ⟨_,rfl,_,rfl,u,y.1,ts,y.2,rfl,kf tb6 hu5 (fun _ z=>by cases z),kf tb6 (hY5 y my) (fun _ z=>by cases z),len y my,by lia,fun r H7 S7 h7=>⟨r,_,rfl,.inr (SqT.of h7),S7,?_⟩⟩;show V.int _=V.int (((othM ts ((Ys.getD i (0,[])).2)).length:Nat):Int);rw [e,af]
 ·rw [ax] at hx
  obtain ⟨y,ey,rfl⟩:=aI.mp hx;have my:=aO ey;have e:Ys.getD i (0,[])=y:=by rw [ah,ey];rfl
  have least:∀ z∈Ys,(othM ts y.2).length≤(othM ts z.2).length:=fun z hz=>by
   obtain ⟨j,hj,rfl⟩:=bM hz;have:=mini j (by rw [af];exact hj);have this:(((othM ts ((Ys.getD i (0,[])).2)).length:Nat):Int)≤(((othM ts ((Ys.getD j (0,[])).2)).length:Nat):Int):=this;have e2:Ys.getD j (0,[])=Ys[j]:=by rw [ah,gE hj];rfl
   rw [e,e2] at this;lia
  have hy6:=kf tb6 (hY5 y my) (fun _ z=>by cases z);refine ⟨_,rfl,_,rfl,u,y.1,ts,y.2,rfl,kf tb6 hu5 (fun _ z=>by cases z),hy6,len y my,by lia,fun qs H7 S7 h7=>?_⟩;refine ⟨_,rfl,(by show 3≤aR;decide),fun qr HA SA hA=>?_⟩;have S6A:Same H6 HA:=S7.trans SA;have fz6:∀ a o u,H5 a=some (.frz o u)→H6 a=some (.frz o u):=fun a o u e=>kf tb6 e (fun _ z=>by cases z)
  have kp35:Kp H3 H5:=⟨fun a xs e=>kt tb35 e (fun _ z=>by cases z),fun a xs e=>kt tb35 e (fun _ z=>by cases z),fun a _ xs e=>kt tb35 e (fun _ z=>by cases z)⟩;have kp56:Kp H5 H6:=⟨fun a xs e=>kf tb6 e (fun _ z=>by cases z),fun a xs e=>kf tb6 e (fun _ z=>by cases z),fun a _ xs e=>kf tb6 e (fun _ z=>by cases z)⟩;refine k qr HA (kp03.trans (kp35.trans (kp56.trans (Same.kp S6A)))) (fun a o e0 e1 e2 e4 e5 e=>S6A _ _ (tb6 _ _ e5 (tb35 _ _ e4 (st03 a o e0 e1 e2 e)))) (LamT.same S6A (fh hT05 (fun ps e=>tb6 _ _ (cn b0) e) fz6)) (LamT.same S6A (fh hT15 (fun ps e=>tb6 _ _ (cn b1) e) fz6)) (LamT.same S6A (fh hT25 (fun ps e=>tb6 _ _ (cn b2) e) fz6)) ((hT45.stay (fun ps e=>tb6 _ _ (cn b4) e) fz6).same S6A) (hT56.same S6A) ⟨fs,l,rg,Ts,Ys,qs,y,?_⟩;exact ⟨hA,SA _ _ h7,my,S6A _ _ hy6,least,tabs,lY,mY,lb,R,holdA⟩
abbrev sTld:cG:=top 60
structure TGt (K:au)(mg:Str→Option aa)(C c1 c2 c3 c4 c5 c6:ai):Prop where
 m1:mg "NoOrder" =some (.ref c1)
 m2:mg "NoPlan" =some (.ref c2)
 m3:mg "NoText" =some (.ref c3)
 m4:mg "NoWay" =some (.ref c4)
 m5:mg "OtherBeats" =some (.ref c5)
 m6:mg "TooWide" =some (.ref c6)
 mv:mg "ValueError" =none
 k1:PySem.W.kitAny K (.ref C) [.ref c1,.ref c2,.ref c3]=some false
 k2:PySem.W.kitAny K (.ref C) [.ref c4,.ref c5,.ref c6]=some false
 kv:eZ K (.ref C) (.type "ValueError")=some true
theorem boot_VE:jG "ValueError" =some (.type "ValueError"):=by trivial
theorem kit_self:eZ K (.ref C) (.ref C)=some true:=by unfold eZ;simp
theorem isxK (K:au)(hK:X.K=K:=by rfl):CallR X (.builtin "isinstance") (fun xs H Q=>∃ a C d b,(∃ D,xs=[.ref a,.ref D]∧eZ K (.ref C) (.ref D)=some b)∧H a=some (k7 a C d)∧(∀ D,d=some D→∃ fs,H D=some (XD D fs))∧XCls K C∧Q (.bl b) H):=by subst hK;exact call_isx
theorem isxBK (K:au)(T0:String)(hK:X.K=K:=by rfl):CallR X (.builtin "isinstance") (fun xs H Q=>∃ a C d b,(xs=[.ref a,.ty T0]∧eZ K (.ref C) (.type T0)=some b)∧H a=some (k7 a C d)∧(∀ D,d=some D→∃ fs,H D=some (XD D fs))∧XCls K C∧Q (.bl b) H):=by subst hK;exact call_isxB
theorem isxTK (K:au)(hK:X.K=K:=by rfl):CallR X (.builtin "isinstance") (fun xs H Q=>∃ a C d b t,∃ ds:List ai,xs=[.ref a,.ref t]∧H t=some (.tup (ds.map V.ref))∧PySem.W.kitAny K (.ref C) (ds.map aa.ref)=some b∧H a=some (k7 a C d)∧(∀ D,d=some D→∃ fs,H D=some (XD D fs))∧XCls K C∧Q (.bl b) H):=by subst hK;exact call_isxT
theorem xfldK (K:au){f:Str}(he:PE X e ta)(hb:gT e f X.env (dg e X.env)=dg e X.env:=by rfl)(hK:X.K=K:=by rfl) :
  PE X (.Attribute e f pos) (fun σ H Q=>ta σ H fun x H1=>∃ a C D fs v,x= .ref a∧H1 a=some (k7 a C (some D))∧H1 D=some (XD D fs)∧XCls K C∧NoAttr K C f∧fs.lookup f=some v∧Q v H1):=by subst hK;exact pe_xfld he hb
theorem toK6 (K:au){ex:Expr}{Ty:String}(h:PE X ex (tBM X.K Ty r to t))(hK:X.K=K:=by rfl):PE X ex (tBM K Ty r to t):=by subst hK;exact h
inductive spTooC (C:ai)(T0:ai)(p0:Pos)(q0:Str)(vs:List V)(H:Hp)(_:VK)(E:XK):Prop
 | mk (v u:V)(b m mn:Int)(sp:List Sn)(_:vs=[v,u])(_:IsD H v (kN b m sp))(_:NetT b m sp)(_:(∀ l,FrstL m.toNat sp l→jg sp l=mn))(_:4096<mn)(_:L2.LamT T0 p0 q0 H)(_:∀ H',L2.Tb T0 H H'→L2.LamT T0 p0 q0 H'→XE C mn 4096 E H')
theorem ok_stayM (F:Fun K "staying" "staying" sStay f fd)(G1:Fn K mg "table_for" kF pza f1 fd1)(F1:FnOk P w K mg base (CXN P w) 12 f1 fd1 pza (spTooM C T0 p0 q0)):FnOk P w K mg base (CXN P w) 13 f fd pzc (spTooC C T0 p0 q0):=by
 refine F.okX lT (by contradiction) (fun cdv A outer s H vs Q E hr D h=>?_);obtain ⟨v,u,b,m,mn,sp,rfl,h1,h2,h3,h4,h5,h6⟩:=h;exact ⟨_,PSl.h (bg ⟨(psZ 2 lT.nd (pcX G1 F1 hr D.pass (aq (pv 0) aP)))⟩ (bg ⟨jv⟩ (bg ⟨jv⟩ (bg ⟨jv⟩ (bg ⟨jv⟩ (bg ⟨jv⟩ (c9 ⟨jv⟩))))))),_,rfl,v,b,m,mn,sp,rfl,h1,h2,h3,h4,h5,h6⟩
theorem ok_fewM (F:Fun K "fewest_moved" "fewest_moved" sFew f fd)(G1:Fn K mg "table_for" kF pza f1 fd1)(F1:FnOk P w K mg base (CXN P w) 12 f1 fd1 pza (spTooM C T0 p0 q0)):FnOk P w K mg base (CXN P w) 13 f fd pzc (spTooC C T0 p0 q0):=by
 refine F.okX scFew (by contradiction) (fun cdv A outer s H vs Q E hr D h=>?_);obtain ⟨v,u,b,m,mn,sp,rfl,h1,h2,h3,h4,h5,h6⟩:=h;exact ⟨_,PSl.h (bg ⟨(psZ 2 scFew.nd (pcX G1 F1 hr D.pass (aq (pv 0) aP)))⟩ (bg ⟨jv⟩ (bg ⟨jv⟩ (bg ⟨jv⟩ (bg ⟨jv⟩ (c9 ⟨jv⟩)))))),_,rfl,v,b,m,mn,sp,rfl,h1,h2,h3,h4,h5,h6⟩
inductive spTld6 (T0:ai)(p0:Pos)(q0:Str)(T1:ai)(p1:Pos)(q1:Str)(T2 T4 T5:ai)(vs:List V)(H:Hp)(Q:VK)(_:XK):Prop
 | mk (wy:Int)(v:V)(u:ai)(b m mn:Int)(sp:List Sn)(ts:List Int)(_:vs=[.int wy,v,.ref u])(_:IsD H v (kN b m sp))(_:NetT b m sp)(_:(∀ l,FrstL m.toNat sp l→jg sp l=mn))(_:(∃ T,kT b T sp=true))(_:H u=some (.tup (ts.map V.int)))(_:ts.length=m.toNat)(_:L2.LamT T0 p0 q0 H)(_:L2.LamT T1 p1 q1 H)(_:L2.LamT T2 lpT lqT H)(_:L2.LamG T4 lqCm H)(_:L2.LamG T5 lqFw H)(_:∀ (r:ai) (H':Hp),Kp H H'→L2.LamT T0 p0 q0 H'→L2.LamT T1 p1 q1 H'→L2.LamT T2 lpT lqT H'→L2.LamG T4 lqCm H'→L2.LamG T5 lqFw H'→((4096<mn∧H' r=some (.lst [.bl true,.bl false,.bl false,.int mn,.int 4096,.bl true]))∨(mn≤4096∧∃ (qs qy:ai) (X:List Int),H' r=some (.tup [.str (if wy=0 then "moved" else "stay"),.ref qs,.ref qy])∧H' qy=some (.tup (X.map V.int))∧oX b m sp X))→Q (.ref r) H')
theorem scTld:cj ["_law_way","_law_net_here","_law_table","_law_told_here","e"] pzv (defScope sTld):=by trivial
theorem ok_tld6 {U fi c1 c2 c3 c4 c5 c6 TT T4 T5:ai}(F:Fun K "_law_told" "_law_told" sTld f fd)(T:Nm mg)(TG:TGc K mg C U fi)(TO:TGt K mg C c1 c2 c3 c4 c5 c6)(TU:Exc K mg "HourError" U)(UN:Under K C U)(n1:T1≠T0)(n2:TT≠T0)(n4:T4≠T0)(n5:T5≠T0)(n41:T4≠T1)(n42:T4≠TT)(n51:T5≠T1)(n52:T5≠TT)
  (G1:Fn K mg "fewest_moved" sFew pzc f1 fd1) (F1:FnOk P w K mg base (CXN P w) 13 f1 fd1 pzc (fun vs H Q E=>spTooC C T0 p0 q0 vs H Q E∨spFew T0 p0 q0 T1 p1 q1 TT T4 T5 vs H Q E))
  (G2:Fn K mg "staying" sStay pzc f2 fd2) (F2:FnOk P w K mg base (CXN P w) 13 f2 fd2 pzc (fun vs H Q E=>spTooC C T0 p0 q0 vs H Q E∨spStay T0 p0 q0 T1 p1 q1 TT vs H Q E)):FnOk P w K mg base CX0 14 f fd pzv (spTld6 T0 p0 q0 T1 p1 q1 TT T4 T5):=by
 refine F.ok scTld (by contradiction) (fun cdv A outer s H vs Q E hr h=>?_);obtain ⟨wy,v,u,b,m,mn,sp,ts,rfl,hv,N,hc,⟨tf,hf⟩,hu,lt,hT0,hT1,hT2,hT4,hT5,k⟩:=h;refine ⟨_,nN (psZ 3 scTld.nd (oF aP))
  (nN (ps_tryAs (iN:=4) rfl rfl scTld.nd rfl rfl TU (fun pn W σ0 E hp=>(dA (jB (dE ng (pv 0) bR (eO _)) (dA (psZ 3 scTld.nd (pe_callS F1 hr rfl G1.mg G1.F.kp G1.b .nil hp (aq (pv 1) (aq (pv 2) aP))))) (dA (psZ 3 scTld.nd (pe_callS F2 hr rfl G2.mg G2.F.kp G2.b .nil hp (aq (pv 1) (aq (pv 2) aP))))))))
   (fun pn e=>(PSl.h (bg ⟨(psZ 3 scTld.nd (jT (aq (dO (isxK K) (by rfl) (by exact T.isin) i8 (aq (pv 4) (aq (kG (v:= .ref C) (by rfl) (by exact TG.mgC) rfl) aP))) (aq (dO (isxTK K) rfl T.isin i8 (aq (pv 4) (aq (fb (aq (kG (v:= .ref c1) rfl TO.m1 rfl) (aq (kG (v:= .ref c2) rfl TO.m2 rfl) (aq (kG (v:= .ref c3) rfl TO.m3 rfl) aP)))) aP))) aP))))⟩
    (bg ⟨(jS (toK6 K (oH bK cB cA iL (pv 3) (aq (dO (isxTK K) (by rfl) (by exact T.isin) i8 (aq (pv 4) (aq (fb (aq (kG (v:= .ref c4) (by rfl) (by exact TO.m4) rfl) (aq (kG (v:= .ref c5) (by rfl) (by exact TO.m5) rfl) (aq (kG (v:= .ref c6) (by rfl) (by exact TO.m6) rfl) aP)))) aP))) aP))))⟩
    (c9 ⟨(jB (pt_val (dO (isxK K) (by rfl) (by exact T.isin) i8 (aq (pv 4) (aq (kG (v:= .ref C) (by rfl) (by exact TG.mgC) rfl) aP)))) (dA (psZ 3 scTld.nd (dU op_catL (pv 3) (oF (aq (xfldK K (pv 4)) (aq (xfldK K (pv 4)) (aq (dO (isxBK K "ValueError") (by rfl) (by exact T.isin) i8 (aq (pv 4) (aq (pe_bltn (v:= .ty "ValueError") (by rfl) (by exact TO.mv) boot_VE rfl) aP))) aP))))))) fF)⟩))))))
  (dA (cM (pv 3)))),?_⟩
 refine ⟨bE _,fun l0 H0 S0 h0=>?_⟩;have hv0:=hv.same S0;have hu0:=S0 _ _ hu;have t0:=LamT.same S0 hT0;have t1:=LamT.same S0 hT1;have t2:=LamT.same S0 hT2;have t4:=hT4.same S0;have t5:=hT5.same S0
 rcases Int.lt_or_le 4096 mn with big | small
 ·refine ⟨_,rfl,rfl,_,rfl,?_⟩
  refine ite2 (fun _=>?_) (fun _=>?_)
  all_goals
   refine ⟨rfl,_,rfl,_,rfl,.inl ⟨v,.ref u,b,m,mn,sp,rfl,hv0,N,hc,big,t0,fun H1 tb t10 D H3 S3 eD=>?_⟩⟩;have kp1:=Tb.kp t0 tb;have t11:=LamT.ntb t1 t0 n1 tb;have t12:=LamT.ntb t2 t0 n2 tb;obtain ⟨ps0,et0⟩:=LamT.tbl t0;have fz:∀ a o u,H0 a=some (.frz o u)→H1 a=some (.frz o u):=fun a o u e=>tb _ _ (eV e et0 nofun) e
   have t14:L2.LamG T4 lqCm H1:=t4.stay (fun ps e=>tb _ _ n4 e) fz;have t15:L2.LamG T5 lqFw H1:=t5.stay (fun ps e=>tb _ _ n5 e) fz;refine ⟨C,rfl,UN,fun a na=>?_⟩;have SA:Same H3 (upd H3 a (k7 a C (some D))):=Same.put (Same.refl H3) na;have eA:(upd H3 a (k7 a C (some D))) a=some (k7 a C (some D)):=aW;have eDA:=SA _ _ eD;have S1A:Same H1 (upd H3 a (k7 a C (some D))):=S3.trans SA;generalize upd H3 a (k7 a C (some D))=HA at SA eA eDA S1A ⊢;have hd:∀ {H':Hp},H' D=some (XD D (tgF mn 4096))→∀ D',some D=some D'→∃ fs,H' D'=some (XD D' fs):=fun S D' e=>by cases e;exact ⟨_,S⟩
   refine ⟨_,rfl,a,C,some D,true,⟨C,rfl,kit_self⟩,eA,hd eDA,TG.cl,?_⟩;refine ⟨_,rfl,(by show 3≤aR;decide),fun tp H4 S4 h4=>⟨a,C,some D,false,tp,[c1,c2,c3],rfl,h4,TO.k1,S4 _ _ eA,hd (S4 _ _ eDA),TG.cl,oY,fun l5 n5'=>?_⟩⟩;have S5:Same HA (upd H4 l5 (.lst [.bl true,.bl false])):=S4.put n5';have h5:(upd H4 l5 (.lst [.bl true,.bl false])) l5=some (.lst [.bl true,.bl false]):=aW;have nl5:HA l5=none:=S4.free n5';generalize upd H4 l5 (.lst [.bl true,.bl false])=H5 at S5 h5 ⊢;refine ⟨_,rfl,.inl ⟨rfl,_,SqL.of h5⟩,_,rfl,(by show 3≤aR;decide),fun tq H6 S6 h6=>⟨a,C,some D,false,tq,[c4,c5,c6],rfl,h6,TO.k2,S6 _ _ (S5 _ _ eA),hd (S6 _ _ (S5 _ _ eDA)),TG.cl,l5,_,_,rfl,rfl,S6 _ _ h5,(by show 2<aR;decide),?_⟩⟩;have S7:Same HA (upd H6 l5 (.lst ([.bl true,.bl false]++[.bl false]))):=fun q o e=>by rw [aZ (bB e nl5)];exact S6 _ _ (S5 _ _ e)
   have h7:(upd H6 l5 (.lst ([.bl true,.bl false]++[.bl false]))) l5=some (.lst [.bl true,.bl false,.bl false]):=aW;generalize upd H6 l5 (.lst ([.bl true,.bl false]++[.bl false]))=H7 at S7 h7 ⊢;refine ⟨_,rfl,a,C,some D,true,⟨C,rfl,kit_self⟩,S7 _ _ eA,hd (S7 _ _ eDA),TG.cl,_,rfl,ite2 (fun _=>?_) (fun z=>pP rfl z)⟩;refine ⟨_,rfl,_,rfl,a,C,D,_,_,rfl,S7 _ _ eA,S7 _ _ eDA,TG.cl,TG.na1,tgF_many,_,rfl,a,C,D,_,_,rfl,S7 _ _ eA,S7 _ _ eDA,TG.cl,TG.na2,tgF_most,_,rfl,a,C,some D,true,⟨rfl,TO.kv⟩,S7 _ _ eA,hd (S7 _ _ eDA),TG.cl,(by show 3≤aR;decide),fun l8 H8 S8 h8=>?_⟩;refine ⟨l5,l8,_,_,rfl,rfl,S8 _ _ h7,h8,(by show 6≤aR;decide),fun l9 H9 S9 h9=>?_⟩;have S19:Same H1 H9:=S1A.trans (S7.trans (S8.trans S9));exact ⟨_,rfl,k l9 H9 ((Same.kp S0).trans (kp1.trans (Same.kp S19))) (LamT.same S19 t10) (LamT.same S19 t11) (LamT.same S19 t12) (t14.same S19) (t15.same S19) (.inl ⟨big,h9⟩)⟩
 ·have hs:∀ l,FrstL m.toNat sp l→jg sp l≤4096:=fun l F=>by rw [hc l F];exact small
  refine ⟨_,rfl,rfl,_,rfl,?_⟩;refine ite2 (fun hw=>?_) (fun hw=>?_)
  ·have hw:wy=0:=by
    have:=pS hw;injection this
   refine ⟨rfl,_,rfl,_,rfl,.inr ⟨v,u,b,m,sp,ts,rfl,hv0,N,hs,⟨tf,hf⟩,hu0,lt,t0,t1,t2,t4,t5,fun q3 H3 kp st a0 a1 a2 a4 a5 ans=>?_⟩⟩;obtain ⟨fs,l,rg,Ts,Ys,qs,y,fa⟩:=ans;refine ⟨_,rfl,k q3 H3 ((Same.kp S0).trans kp) a0 a1 a2 a4 a5 (.inr ⟨small,qs,y.1,y.2,?_,fa.qy,fa.tab N⟩)⟩;rw [pO hw];exact fa.q
  ·have hw:¬ wy=0:=fun z=>hw (pQ (by rw [z]))
   refine ⟨rfl,_,rfl,_,rfl,.inr ⟨v,u,b,m,sp,ts,rfl,hv0,N,hs,⟨tf,hf⟩,hu0,lt,t0,t1,t2,fun q3 H3 kp st a0 a1 a2 ans=>?_⟩⟩;obtain ⟨fs,l,rg,Ts,Ys,qs,y,fa⟩:=ans;obtain ⟨ps0,et0⟩:=LamT.tbl t0;obtain ⟨ps1,et1⟩:=LamT.tbl t1;obtain ⟨ps2,et2⟩:=LamT.tbl t2;have fz:∀ a o u,H0 a=some (.frz o u)→H3 a=some (.frz o u):=fun a o u e=>st _ _ (eV e et0 nofun) (eV e et1 nofun) (eV e et2 nofun) e
   refine ⟨_,rfl,k q3 H3 ((Same.kp S0).trans kp) a0 a1 a2 (t4.stay (fun ps e=>st _ _ n4 n41 n42 e) fz) (t5.stay (fun ps e=>st _ _ n5 n51 n52 e) fz) (.inr ⟨small,qs,y.1,y.2,?_,fa.qy,fa.tab N⟩)⟩;rw [pN hw];exact fa.q
end HN
variable {Ys:List HN.AT}
namespace L2
open PySem PySem.Spec PyProof.Rows
theorem op_neLD (hu:X.A.units+64<cLine):OpR X (fQ .NotEq) (fun x y H Q=>∃ (a b:ai) (xs ys:List V) (ds es:List Dt),(x= .ref a∧y= .ref b)∧(H a=some (.lst xs)∧H b=some (.lst ys))∧IsDs H xs ds∧IsDs H ys es∧ds.length=es.length∧pls ds=true∧pls es=true∧deps ds<60∧Q (.bl (!(eqDs ds es))) H):=by
 intro aJ s σ H x y v u Q I rx ry h;obtain ⟨a,b,xs,ys,ds,es,⟨rfl,rfl⟩,⟨ha,hb⟩,r,r',le,pd,pe,hd,q⟩:=h;cases (show v=aa.ref a from rx);cases (show u=aa.ref b from ry);obtain ⟨its,rv,p,_⟩:=I.list (SqL.of (K:=X.K) ha);obtain ⟨its2,rv2,p2,_⟩:=I.list (SqL.of (K:=X.K) hb);have p:s.heap.IsList a its.toArray:=p.isList;have p2:s.heap.IsList b its2.toArray:=p2.isList;have l1:its.length=ds.length:=by rw [←rv.length,r.length]
 have l2:its2.length=es.length:=by rw [←rv2.length,r'.length]
 have key:=SeqAt.RcNeAt.lists (A:=X.A) (e:=fun j=>eqD (ds.getD j .non) (es.getD j .non)) p p2 (by rw [aB,aB];lia) (by lia) (fun j h1 h2=>by
  have h1':j<its.length:=by simpa using h1
  have h2':j<its2.length:=by simpa using h2
  obtain ⟨x',ex,dx⟩:=r.at (i:=j) (d:=ds[j]'(by lia)) (gE (by lia));obtain ⟨y',ey,dy⟩:=r'.at (i:=j) (d:=es[j]'(by lia)) (gE (by lia));obtain ⟨u',eu,ru⟩:=rv.get ex;obtain ⟨v',ev,rw'⟩:=rv2.get ey;have eu':its[j]=u':=by rw [gE h1'] at eu;exact bC eu
  have ev':its2[j]=v':=by rw [gE h2'] at ev;exact bC ev
  have g1:ds.getD j .non=ds[j]'(by lia):=by rw [ah,gE (by lia)];rfl
  have g2:es.getD j .non=es[j]'(by lia):=by rw [ah,gE (by lia)];rfl
  show SeqAt.EqAt X.A.in1 s (its.toArray[j]) (its2.toArray[j]) (eqD (ds.getD j .non) (es.getD j .non));rw [jN,jN,eu',ev',g1,g2];exact eqAt_D 60 (aS (deps_get (gE (by lia))) (by lia)) (by show X.A.units+1+60<cLine;lia) I dx dy ru rw' (oB pd (gE (by lia))) (oB pe (gE (by lia))))
 refine key X.prog X.w _ _ (eI I q ?_);rw [eqDs_all,aB,l1,←le,Nat.min_self,beq_self_eq_true,Bool.and_true]
end L2
namespace HN
open PySem L2 PyProof.Rows
abbrev sLaw:cG:=top 61
inductive spLawTs (Ts:List ai)(K:au)(vs:List V)(H:Hp)(Q:VK)(_:XK):Prop
 | mk (a:ai)(ns:List Int)(_:vs=[.ref a])(_:SqL K H a (ns.map V.int))(_:(∀ T∈Ts,H T=some (.tbl #[])))(_:∀ H',Q (.bl true) H')
theorem manyW_le:∀ (ws:List Int),(∀ w∈ws,0≤w∧w≤10 ^ 20)→1≤kQ ws∧kQ ws≤(10 ^ 21) ^ ws.length:=fun ws=>by
 refine snocRec (P:=fun ws=>(∀ w∈ws,0≤w∧w≤10 ^ 20)→1≤kQ ws∧kQ ws≤(10 ^ 21) ^ ws.length) ws ?_ ?_
 ·intro _;exact ⟨by decide,by decide⟩
 ·intro l a ih h
  obtain ⟨h1,h2⟩:=ih fun w hw=>h w (aE _ hw)
  have ha:=h a (by simp);have e:kQ (l++[a])=kQ l * (a+1):=by unfold kQ;rw [cx];rfl
  have c:(10:Int) ^ 20+1≤10 ^ 21:=by decide
  rw [e,av,cu,Int.pow_succ]
  constructor
  ·have:1 * 1≤kQ l * (a+1):=Int.mul_le_mul h1 (by lia) (by decide) (by lia)
   lia
  ·exact Int.mul_le_mul h2 (by lia) (by lia) (by lia)
theorem o6:cj ["_law_script","_law_box_here","_law_wides_here","_law_net_here","_law_table","_law_many","_law_wide","_law_way","_law_told_here"] ["_law_script"] (defScope sLaw):=by trivial
theorem ok_law {f4 f5 f6 TT T4 T5:ai}{fd5 fd6:bf}(F:Fun K "law" "law" sLaw f fd)(T:Nm mg)(T2:Nt mg)
  (G1:Fn K mg "_law_box" sBox pze f1 fd1) (F1:FnOk P w K mg base CX0 2 f1 fd1 pze (spBox K))
  (G2:Fn K mg "_law_wides" sWds pzq f2 fd2) (F2:FnOk P w K mg base CX0 2 f2 fd2 pzq spWdsB)
  (G3:Fn K mg "_law_net" sNt6 pzw f3 fd3) (F3:FnOk P w K mg base CX0 2 f3 fd3 pzw spNt6)
  (G4:Fn K mg "_law_draw" sDraw pzj f4 fd4)
  (G5:Fn K mg "_law_told" sTld pzv f5 fd5) (F5:FnOk P w K mg base CX0 14 f5 fd5 pzv (spTld6 T0 p0 q0 T1 p1 q1 TT T4 T5))
  (G6:Fn K mg "_law_all_kept" sAKp pzo f6 fd6) (F6:FnOk P w K mg base CX0 2 f6 fd6 pzo spAKp):FnOk P w K mg base CX0 15 f fd ["_law_script"] (spLawTs [T0,T1,TT,T4,T5] K):=by
 have F4:FnOk P w K mg base CX0 1 f4 fd4 pzj spDraw:=ok_draw G4.F;refine F.ok o6 (by contradiction) (fun cdv A outer s H vs Q E hr h=>?_);obtain ⟨a,ns,rfl,ha,hT,k⟩:=h;have hr1:Room 1 _:=hr.mono (by decide);have hr2:Room 2 _:=hr.mono (by decide);refine ⟨_,PSl.h (bg ⟨(psZ 1 o6.nd (pc1 G1 F1 hr2 (aq (pv 0) (aq bR aP))))⟩
  (bg ⟨(psZ 2 o6.nd (pc1 G2 F2 hr2 (aq (pv 1) aP)))⟩
  (bg ⟨(psZ 3 o6.nd (pc1 G3 F3 hr2 (aq (pv 1) (aq (pv 2) aP))))⟩
  (bg ⟨(psZ 4 o6.nd (eR ji rfl T.ttup jj (aq (ij (fr:=["_law_box_here","_law_net_here"]) (js:=[1,3]) rfl (gW rfl T2.range (aq (ixZ (pv 3)) aP)) (by trivial) rfl (by trivial) rfl (by exists sLaw) (by trivial) rfl (by trivial) (fun _ _ _ _ _=>⟨(pc1 G4 F4 hr1 (aq (pv 1) (aq (eN (r:=rIxT K) fu (pv 2) bR (fun _ _=>rfl)) aP))),ig⟩)) aP)))⟩
  (bg ⟨(psZ 5 o6.nd bR)⟩
  (bg ⟨(iW bO rfl (fU (pv 2)) (pgZ 6 o6.nd) (dA (psZ 5 o6.nd (dU op_mulG (pv 5) (dU iA (pv 6) bR)))))⟩
  (bg ⟨(iW bO rfl (gW rfl T2.range (aq bR aP)) (pgZ 7 o6.nd) (PSl.h (bg ⟨(psZ 8 o6.nd (pc1 G5 F5 hr (aq (pv 7) (aq (pv 3) (aq (pv 4) aP)))))⟩
  (c9 ⟨(jB (dE op_gt (pv 5) bR (eO _)) (dA (jB (dE (op_neLD hr.units) (pv 8) (PEs.h (k_lst (dH ⟨pe_bl⟩ (dH ⟨pe_bl⟩ (dH ⟨pe_bl⟩ (dH ⟨pv 5⟩ (dH i4 (dH ⟨pe_bl⟩ nr)))))))) (eO _)) (dA (cM pe_bl)) fF)) (dA (jB (PW.pt (pw_or (pt_not (pt_val (pe_isTup T (pv 8)))) (pw_or (dE op_ne (ixZ (pv 8)) (PEs.h (k_ix fc (k_lst (dH ⟨nA⟩ (dH ⟨nA⟩ nr))) ⟨pv 7⟩ (fun _ _=>rfl))) (eO _)) (pw_or1 (pt_not (pt_val (pc1 G6 F6 hr2 (aq (pv 3) (aq (ixZ (pv 8)) aP))))))))) (dA (cM pe_bl)) fF)))⟩))))⟩
  (c9 ⟨(cM pe_bl)⟩)))))))),?_⟩
 refine ⟨_,rfl,a,ns,0,rfl,ha,by decide,fun x0 y0 p hp0=>?_⟩;have S0:Same H (upd H p (.lst [.int x0,.int y0])):=(Same.refl H).put hp0;have h0:(upd H p (.lst [.int x0,.int y0])) p=some (.lst [.int x0,.int y0]):=aW;generalize upd H p (.lst [.int x0,.int y0])=H0 at S0 h0 ⊢;refine ⟨_,rfl,p,x0,y0,rfl,h0,fun wq ws H1 M1 h1 nw g=>?_⟩;obtain ⟨x1,y1,hp1⟩:=M1.2;refine ⟨_,rfl,_,rfl,p,wq,x1,y1,ws,rfl,hp1,h1,nw,g,fun t b sp H2 M2 hv N tr=>?_⟩;obtain ⟨x2,y2,hp2⟩:=M2.2;obtain ⟨m,em⟩:∃ m:Int,m=((ws.length+1:Nat):Int):=⟨_,rfl⟩;rw [←em] at hv N;obtain ⟨g1,g2,g3⟩:=g;have hv':=hv;obtain ⟨t',pp,ys,et,ht,hpp,hl,hy⟩:=fH hv';cases et;have nb:=N.b1;have nb2:=N.b2;refine ⟨_,rfl,t,_,_,_,rfl,rfl,SqT.of ht,bc (j:=1) rfl,m,rfl,by lia,by lia,?_⟩;have mt:∀ {Ha Hb:Hp} {x y:Int},Ha p=some (.lst [.int x,.int y])→Mb p Ha Hb→TupK Ha Hb:=fun h M a xs e=>M.1 a _ (eV e h nofun) e
 have c59:(10:Int) ^ 59<10 ^ 61:=by decide
 refine km (n:=m.toNat) (fun i zs HA=>Mb p H2 HA∧∃ ts:List Int,zs=ts.map V.int∧ts.length=i) ⟨Mb.refl hp2,[],rfl,rfl⟩ (fun i zs HA _ ⟨_,ts,e,hl⟩=>by rw [e,af,hl];exact az _) (eK (by lia)) (fun i zs HA hi ⟨NA,ts,eA,lA⟩=>?_) (fun zs HA ⟨NA,ts,eA,lA⟩ tq htq=>?_)
 ·refine gk ?_
  obtain ⟨xA,yA,hpA⟩:=NA.2;refine ⟨_,rfl,_,rfl,t,_,_,_,rfl,rfl,SqT.of (mt hp2 NA _ _ ht),bc (j:=0) rfl,p,xA,yA,b,rfl,hpA,by lia,by lia,fun r HB rb0 rb1 MB=>⟨NA.trans MB,ts++[r],by rw [eA,aM];rfl,by rw [av,lA];rfl⟩⟩
 subst eA;obtain ⟨xA,yA,hpA⟩:=NA.2;have S3':Same HA (upd HA tq (.lst (ts.map V.int))):=(Same.refl HA).put htq;refine ⟨tq,_,rfl,SqL.of aW,fun u H3 S3 h3=>?_⟩;have M3:Mb p H2 H3:=NA.then (S3'.trans S3);have hv3:=cw (mt hp2 M3) hv;have h1':=M3.at (M2.at h1 nw) nw;refine ⟨_,rfl,wq,rfl,⟨_,SqL.of h1'⟩,?_⟩;refine jE (K:=K) (a:=wq) (xs:=ws.map V.int) (fun j σ HD=>HD=H3∧∃ w6,σ=[some (.ref a),some (.ref p),some (.ref wq),some (.ref t),some (.ref u),some (.int (kQ (ws.take j))),w6,none,none]) ⟨rfl,none,rfl⟩ (fun j σ HD _ ⟨h,_⟩=>by rw [h];exact SqL.of h1') ?_ ?_
 ·rintro j y σ HD hy' ⟨rfl,w6,rfl⟩
  rw [ax] at hy';obtain ⟨z,ez,rfl⟩:=aI.mp hy';have gz:=g3 z (aO ez);obtain ⟨b1,b2⟩:=manyW_le (ws.take j) fun w hw=>g3 w (jM hw)
  have lj:(ws.take j).length≤4:=by rw [bI];lia
  have b3:kQ (ws.take j)≤10 ^ 84:=by
   have q4:((10:Int) ^ 21) ^ 4≤10 ^ 84:=by decide
   have q3:((10:Int) ^ 21) ^ 3≤10 ^ 84:=by decide
   have q2:((10:Int) ^ 21) ^ 2≤10 ^ 84:=by decide
   have q1:((10:Int) ^ 21) ^ 1≤10 ^ 84:=by decide
   have q0:((10:Int) ^ 21) ^ 0≤10 ^ 84:=by decide
   have hl:(ws.take j).length=0∨(ws.take j).length=1∨(ws.take j).length=2∨(ws.take j).length=3∨(ws.take j).length=4:=by lia
   rcases hl with e | e | e | e | e
   ·rw [e] at b2;exact Int.le_trans b2 q0
   ·rw [e] at b2;exact Int.le_trans b2 q1
   ·rw [e] at b2;exact Int.le_trans b2 q2
   ·rw [e] at b2;exact Int.le_trans b2 q3
   ·rw [e] at b2;exact Int.le_trans b2 q4
  have big1:∀ n:Int,0≤n→n≤10 ^ 84→n.natAbs<10 ^ 1000:=fun n n0 n1=>by
   have h1:(n.natAbs:Int)=n:=by lia
   have h2:((10 ^ 84:Nat):Int)=(10:Int) ^ 84:=by decide
   have h3:n.natAbs≤10 ^ 84:=by lia
   exact bU h3 (by trivial)
  have c20:(10:Int) ^ 20+1≤10 ^ 84:=by decide
  refine ⟨_,rfl,_,rfl,_,_,rfl,rfl,_,_,rfl,rfl,⟨big1 _ (by lia) b3,big1 (z+1) (by lia) (by lia)⟩,rfl,some (.int z),?_⟩;rw [bh,ez];unfold kQ;rw [cx];rfl
 rintro σ HD ⟨rfl,w6,rfl⟩;rw [af,bo];have tbk:∀ Tx∈[T0,T1,TT,T4,T5],HD Tx=some (.tbl #[]):=fun Tx hx=>by
  have e0:=S0 _ _ (hT Tx hx);have np:Tx≠p:=eV e0 h0 nofun;exact M3.at (M2.at (M1.at e0 np) np) np
 have T0':L2.LamT T0 p0 q0 HD:= .inl (tbk T0 (by simp));have T1':L2.LamT T1 p1 q1 HD:= .inl (tbk T1 (by simp));have T2'':L2.LamT TT lpT lqT HD:= .inl (tbk TT (by simp));have T4':L2.LamG T4 lqCm HD:=LamG.nil (tbk T4 (by simp));have T5':L2.LamG T5 lqFw HD:=LamG.nil (tbk T5 (by simp));refine ⟨2,rfl,by decide,by decide,?_⟩;refine lG (n:=2) (fun i σ H'=>IsD H' (.ref t) (kN b m sp)∧H' u=some (.tup (ts.map V.int))∧L2.LamT T0 p0 q0 H'∧L2.LamT T1 p1 q1 H'∧L2.LamT TT lpT lqT H'∧L2.LamG T4 lqCm H'∧L2.LamG T5 lqFw H'∧∃ v7 v8,σ=[some (.ref a),some (.ref p),some (.ref wq),some (.ref t),some (.ref u),some (.int (kQ ws)),w6,v7,v8]) ⟨hv3,h3,T0',T1',T2'',T4',T5',none,none,rfl⟩ ?_ ?_
 ·rintro i σ H4 hi ⟨hv4,hu4,t40,t41,t42,t44,t45,v7,v8,rfl⟩
  refine ⟨_,rfl,_,rfl,_,rfl,0+(i:Int),.ref t,u,b,m,kQ ws,sp,ts,rfl,hv4,N,(fun l F=>tr.cases (by rw [show ws.length+1=m.toNat by lia];exact F)),tr.fits,hu4,lA,t40,t41,t42,t44,t45,fun r H5 kp5 t50 t51 t52 t54 t55 ans=>?_⟩;have hv5:=cw kp5.tup hv4;have hu5:=kp5.tup _ _ hu4
  rcases ans with ⟨big,hr5⟩ | ⟨small,qs,qy,X,hr5,hqy,tok⟩
  ·refine ⟨_,rfl,_,_,rfl,rfl,_,rfl,iteB (pQ big) ?_⟩
   refine ⟨_,rfl,_,rfl,(by show 6≤aR;decide),fun L5 H6 S6 h6=>?_⟩;refine ⟨r,L5,_,_,[.bl true,.bl false,.bl false,.int (kQ ws),.int 4096,.bl true],[.bl true,.bl false,.bl false,.int (kQ ws),.int 4096,.bl true],⟨rfl,rfl⟩,⟨S6 _ _ hr5,h6⟩,.cons (.bl _) (.cons (.bl _) (.cons (.bl _) (.cons (.int _) (.cons (.int _) (.cons (.bl _) .nil))))),.cons (.bl _) (.cons (.bl _) (.cons (.bl _) (.cons (.int _) (.cons (.int _) (.cons (.bl _) .nil))))),rfl,(by simp [pls,pl]),(by simp [pls,pl]),(by simp [deps,dep]),?_⟩;refine ⟨_,rfl,iteC (by rw [oQ _ (by simp [pls,pl])];rfl) ?_⟩;exact ⟨hv5.same S6,S6 _ _ hu5,LamT.same S6 t50,LamT.same S6 t51,LamT.same S6 t52,t54.same S6,t55.same S6,_,_,rfl⟩
  ·refine ⟨_,rfl,_,_,rfl,rfl,_,rfl,iteC (pR (by lia)) ?_⟩
   obtain ⟨wd,ewd,hr5⟩:∃ wd:Str,[V.str "moved",V.str "stay"][i]? =some (.str wd)∧H5 r=some (.tup [.str wd,.ref qs,.ref qy]):=by
    have hi2:i=0∨i=1:=by lia
    rcases hi2 with rfl | rfl
    ·exact ⟨_,rfl,hr5⟩
    ·exact ⟨_,rfl,hr5⟩
   refine ⟨_,rfl,.ref r,"tuple",rfl,(by unfold tyn;dsimp only;rw [hr5]),_,rfl,iteC rfl ?_⟩;refine ⟨_,rfl,r,_,_,_,rfl,rfl,SqT.of hr5,bc (j:=0) rfl,oY,fun l6 H6 S6 h6=>⟨_,rfl,l6,_,_,_,rfl,rfl,SqL.of h6,(by rw [jn];exact bc ewd),rfl,_,rfl,iteC (by rw [pQ rfl];rfl) ?_⟩⟩;refine ⟨_,rfl,_,rfl,r,_,_,_,rfl,rfl,SqT.of (S6 _ _ hr5),bc (j:=2) rfl,.ref t,qy,b,m,sp,X,rfl,hv5.same S6,N,S6 _ _ hqy,by have:=tok.1;lia,tok.2.2,fun H7 S7=>?_⟩;have S57:=S6.trans S7;exact ⟨_,rfl,hv5.same S57,S57 _ _ hu5,LamT.same S57 t50,LamT.same S57 t51,LamT.same S57 t52,t54.same S57,t55.same S57,_,_,rfl⟩
 rintro σ H4 ⟨_,_,_,_,_,_,_,v7,v8,rfl⟩;exact k H4
theorem o9 {P:List aa→Prop}(h:∀ x0,P [x0]):∀ us:List aa,us.length=1→P us:=by
 intro us hl;obtain _ | ⟨x0,us⟩:=us <;> try (cases hl;done)
 obtain _ | ⟨y,us⟩:=us
 ·exact h x0
 ·exact pP hl (by simp only [aY];lia)
theorem ko {P:List aa→Prop}(h:∀ x0 x1,P [x0,x1]):∀ us:List aa,us.length=2→P us:=by
 intro us hl;obtain _ | ⟨x0,us⟩:=us <;> try (cases hl;done)
 obtain _ | ⟨x1,us⟩:=us <;> try (cases hl;done)
 obtain _ | ⟨y,us⟩:=us
 ·exact h x0 x1
 ·exact pP hl (by simp only [aY];lia)
theorem args3 {P:List aa→Prop}(h:∀ x0 x1 x2,P [x0,x1,x2]):∀ us:List aa,us.length=3→P us:=by
 intro us hl;obtain _ | ⟨x0,us⟩:=us <;> try (cases hl;done)
 obtain _ | ⟨x1,us⟩:=us <;> try (cases hl;done)
 obtain _ | ⟨x2,us⟩:=us <;> try (cases hl;done)
 obtain _ | ⟨y,us⟩:=us
 ·exact h x0 x1 x2
 ·exact pP hl (by simp only [aY];lia)
theorem args4 {P:List aa→Prop}(h:∀ x0 x1 x2 x3,P [x0,x1,x2,x3]):∀ us:List aa,us.length=4→P us:=by
 intro us hl;obtain _ | ⟨x0,us⟩:=us <;> try (cases hl;done)
 obtain _ | ⟨x1,us⟩:=us <;> try (cases hl;done)
 obtain _ | ⟨x2,us⟩:=us <;> try (cases hl;done)
 obtain _ | ⟨x3,us⟩:=us <;> try (cases hl;done)
 obtain _ | ⟨y,us⟩:=us
 ·exact h x0 x1 x2 x3
 ·exact pP hl (by simp only [aY];lia)
theorem Df.fn (a:Df K x st f)(X:K.In h)(G:h.Ns bp mg)
  (hb:∀ (kV dc pm:aa) (an:Option ai) (cd ct:aa) (us:List aa),us.length=ps.length→bindArgs (cK x x (iq st) (fJ st) (defScope st) .none kV dc pm an cd ct) ⟨us,[]⟩=eQ (ps.zip us)):∃ fd,Fn K mg x st ps f fd:=by
 obtain ⟨n,oc,od,an,sl,kV,dc,pm,cd,ct,l,c,k⟩:=a;have F:=lW (st:=st) l c k;exact ⟨_,F,cz X G n,F.binds hb⟩
theorem all_mk {l:PySem.W.OpenLaw}{fa:ai}(X:K.In h)(G:h.Ns bp mg)(hfa:mg "law" =some (.ref fa))(Fc:Facts K)
  : ∃ fd:bf,(∀ (s:ao) (v:aa),BindsTo s fd ⟨[v],[]⟩ [("_law_script",v)])∧∀ base:bw,K.In base→base.Ns bp mg→BM mg base→FnOk l.prog w K mg base CX0 15 fa fd ["_law_script"] (spLawTs [174,250,316,347,369] K):=by
 refine Fc _ ?_;intro f1 f2 f3 f4 f5 f6 f7 f8 f9 f10 f11 f12 f13 f14 f15 f16 f17 f18 f19 f20 f21 f22 f23 f24 f25 f26 f27 f28 f29 f30 f31 f32 f33 f34 f35 f36 f37 f38 f39 f40 f41 t1 xC xi xs xt odI anI odS anS odT anT slI slS slT ocI kVI dcI pmI ctI ocS kVS dcS pmS cdS ctS ocT kVT dcT pmT cdT ctT xc xj rN rnm rq rbs rsub rsn rab rcol rdd odJ anJ rk0 rk1 rk2 rk3 rk5 slJ ocJ kVJ dcJ pmJ cdJ ctJ x1 xa xb xd xe xf xg a1 a2 a3 a4 a5 a6 a7 a8 a9 a10 a11 a12 a13 a14 a15 a16 a17 a18 a19 a20 a21 a22 a23 a24 a25 a26 a27 a28 a29 a30 a31 a32 a33 a34 a35 a36 a37 a38 a39 a40 a41 y1 z1 z2 z3 z4 z5 z6 z7 z8 z9 z10 z11 z12 z13 z14 z15 z16 z17 w1 w2 w3 w4 w5 w6 w7 w8 w9 w10 w11 w12 w13 w14 w15 w16 w17 w18 w19 w20 w21 w22 w23 w24 w25 w26 w27 w28 w29 w30 w31 w32 w33 w34 w35 w36 w37 w38 w39 w40 w41 w42 w43 w44 w45 w46 w47 w48 w49 w50 w51 w52 w53 w54 w55 w56 w57 w58 w59 wc0 wh0 wh1 wc2 wh2 wc3 wh3 wc4 wh4;have e:=hfa.symm.trans (cz X G a41.n);cases e;obtain ⟨fd1,G1⟩:=a1.fn X G (ps:=pzd) fun _ _ _ _ _ _=>ko fun _ _=>rfl
 obtain ⟨fd2,G2⟩:=a2.fn X G (ps:=pzb) fun _ _ _ _ _ _=>ko fun _ _=>rfl
 obtain ⟨fd3,G3⟩:=a3.fn X G (ps:=pzb) fun _ _ _ _ _ _=>ko fun _ _=>rfl
 obtain ⟨fd4,G4⟩:=a4.fn X G (ps:=pza) fun _ _ _ _ _ _=>o9 fun _=>rfl
 obtain ⟨fd5,G5⟩:=a5.fn X G (ps:=pzA) fun _ _ _ _ _ _=>ko fun _ _=>rfl
 obtain ⟨fd6,G6⟩:=a6.fn X G (ps:=pzf) fun _ _ _ _ _ _=>args3 fun _ _ _=>rfl
 obtain ⟨fd7,G7⟩:=a7.fn X G (ps:=pzf) fun _ _ _ _ _ _=>args3 fun _ _ _=>rfl
 obtain ⟨_,oc,od,an,sl,kV,dc,pm,cd,ct,l8,c8,k8⟩:=id a8;obtain ⟨_,_,_,_,_,_,_,_,z⟩:=wc0;have z:=l8.symm.trans z;have wc0:cd=aa.ref 178:=by injection z with z;injection z with _ _ z _;injection z with z;injection z
 have F8:=lW (st:=sSpW) l8 c8 k8;have b8:=F8.binds (ps:=pza) fun _ _ _ _ _ _=>o9 fun _=>rfl
 have G8:Fn K mg "spans_by_width" sSpW pza f8 _:=⟨F8,cz X G a8.n,b8⟩;obtain ⟨fd9,G9⟩:=a9.fn X G (ps:=pza) fun _ _ _ _ _ _=>o9 fun _=>rfl
 obtain ⟨fd10,G10⟩:=a10.fn X G (ps:=pzl) fun _ _ _ _ _ _=>args3 fun _ _ _=>rfl
 obtain ⟨fd11,G11⟩:=a11.fn X G (ps:=pzy) fun _ _ _ _ _ _=>args4 fun _ _ _ _=>rfl
 obtain ⟨fd12,G12⟩:=a12.fn X G (ps:=pzd) fun _ _ _ _ _ _=>ko fun _ _=>rfl
 obtain ⟨fd13,G13⟩:=a13.fn X G (ps:=pza) fun _ _ _ _ _ _=>o9 fun _=>rfl
 obtain ⟨fd14,G14⟩:=a14.fn X G (ps:=pza) fun _ _ _ _ _ _=>o9 fun _=>rfl
 obtain ⟨fd15,G15⟩:=a15.fn X G (ps:=pza) fun _ _ _ _ _ _=>o9 fun _=>rfl
 obtain ⟨fd16,G16⟩:=a16.fn X G (ps:=pzg) fun _ _ _ _ _ _=>ko fun _ _=>rfl
 obtain ⟨fd17,G17⟩:=a17.fn X G (ps:=pzt) fun _ _ _ _ _ _=>args4 fun _ _ _ _=>rfl
 obtain ⟨fd18,G18⟩:=a18.fn X G (ps:=pzr) fun _ _ _ _ _ _=>ko fun _ _=>rfl
 obtain ⟨fd19,G19⟩:=a19.fn X G (ps:=["case","span"]) fun _ _ _ _ _ _=>ko fun _ _=>rfl
 obtain ⟨fd20,G20⟩:=a20.fn X G (ps:=pzs) fun _ _ _ _ _ _=>ko fun _ _=>rfl
 obtain ⟨fd21,G21⟩:=a21.fn X G (ps:=pzz) fun _ _ _ _ _ _=>args3 fun _ _ _=>rfl
 obtain ⟨fd22,G22⟩:=a22.fn X G (ps:=pzh) fun _ _ _ _ _ _=>ko fun _ _=>rfl
 obtain ⟨_,oc,od,an,sl,kV,dc,pm,cd,ct,l23,c23,k23⟩:=id a23;obtain ⟨_,_,_,_,_,_,_,_,z⟩:=wc2;have z:=l23.symm.trans z;have wc2:cd=aa.ref 320:=by injection z with z;injection z with _ _ z _;injection z with z;injection z
 have F23:=lW (st:=kF) l23 c23 k23;have b23:=F23.binds (ps:=pza) fun _ _ _ _ _ _=>o9 fun _=>rfl
 have G23:Fn K mg "table_for" kF pza f23 _:=⟨F23,cz X G a23.n,b23⟩;obtain ⟨fd24,G24⟩:=a24.fn X G (ps:=pza) fun _ _ _ _ _ _=>o9 fun _=>rfl
 obtain ⟨fd25,G25⟩:=a25.fn X G (ps:=pzk) fun _ _ _ _ _ _=>args3 fun _ _ _=>rfl
 obtain ⟨fd26,G26⟩:=a26.fn X G (ps:=pzm) fun _ _ _ _ _ _=>args4 fun _ _ _ _=>rfl
 obtain ⟨fd27,G27⟩:=a27.fn X G (ps:=pzi) fun _ _ _ _ _ _=>args4 fun _ _ _ _=>rfl
 obtain ⟨_,oc,od,an,sl,kV,dc,pm,cd,ct,l28,c28,k28⟩:=id a28;obtain ⟨_,_,_,_,_,_,_,_,z⟩:=wc3;have z:=l28.symm.trans z;have wc3:cd=aa.ref 351:=by injection z with z;injection z with _ _ z _;injection z with z;injection z
 have F28:=lW (st:=mW) l28 c28 k28;have b28:=F28.binds (ps:=pzn) fun _ _ _ _ _ _=>o9 fun _=>rfl
 have G28:Fn K mg "commonest" mW pzn f28 _:=⟨F28,cz X G a28.n,b28⟩;obtain ⟨fd29,G29⟩:=a29.fn X G (ps:=pzi) fun _ _ _ _ _ _=>args4 fun _ _ _ _=>rfl
 obtain ⟨fd30,G30⟩:=a30.fn X G (ps:=pzp) fun _ _ _ _ _ _=>ko fun _ _=>rfl
 obtain ⟨fd31,G31⟩:=a31.fn X G (ps:=pzc) fun _ _ _ _ _ _=>ko fun _ _=>rfl
 obtain ⟨_,oc,od,an,sl,kV,dc,pm,cd,ct,l32,c32,k32⟩:=id a32;obtain ⟨_,_,_,_,_,_,_,_,z⟩:=wc4;have z:=l32.symm.trans z;have wc4:cd=aa.ref 371:=by injection z with z;injection z with _ _ z _;injection z with z;injection z
 have F32:=lW (st:=sFew) l32 c32 k32;have b32:=F32.binds (ps:=pzc) fun _ _ _ _ _ _=>ko fun _ _=>rfl
 have G32:Fn K mg "fewest_moved" sFew pzc f32 _:=⟨F32,cz X G a32.n,b32⟩;obtain ⟨fd33,G33⟩:=a33.fn X G (ps:=pze) fun _ _ _ _ _ _=>ko fun _ _=>rfl
 obtain ⟨fd34,G34⟩:=a34.fn X G (ps:=pze) fun _ _ _ _ _ _=>ko fun _ _=>rfl
 obtain ⟨fd35,G35⟩:=a35.fn X G (ps:=pzj) fun _ _ _ _ _ _=>ko fun _ _=>rfl
 obtain ⟨fd36,G36⟩:=a36.fn X G (ps:=pzx) fun _ _ _ _ _ _=>args3 fun _ _ _=>rfl
 obtain ⟨fd37,G37⟩:=a37.fn X G (ps:=pzo) fun _ _ _ _ _ _=>ko fun _ _=>rfl
 obtain ⟨fd38,G38⟩:=a38.fn X G (ps:=pzq) fun _ _ _ _ _ _=>o9 fun _=>rfl
 obtain ⟨fd39,G39⟩:=a39.fn X G (ps:=pzw) fun _ _ _ _ _ _=>ko fun _ _=>rfl
 obtain ⟨fd40,G40⟩:=a40.fn X G (ps:=pzv) fun _ _ _ _ _ _=>args3 fun _ _ _=>rfl
 obtain ⟨_,oc,od,an,sl,kV,dc,pm,cd,ct,l41,c41,k41⟩:=a41;have F41:=lW (st:=sLaw) l41 c41 k41;have m1:=bQ X G z1;have m2:=bQ X G z2;have m3:=bQ X G z3;have m4:=bQ X G z4;have m5:=bQ X G z5;have m6:=bQ X G z6;have m7:=bQ X G z7;have m8:=bQ X G z8;have m9:=bQ X G z9;have m10:=bQ X G z10;have m11:=bQ X G z11;have m12:=bQ X G z12;have m13:=bQ X G z13;have m14:=bQ X G z14;have m15:=bQ X G z15;have m16:=bQ X G z16;have m17:=bQ X G z17;have i1:=cz X G y1;refine ⟨cK "law" "law" (iq sLaw) (fJ sLaw) (defScope sLaw) .none kV dc pm an cd ct,fun s v=> .of_eq rfl,fun base _ _ hB=>?_⟩;have T:Nm mg:=⟨m1,m2,m3,m4,m5,m6,m7⟩;have T2:Nt mg:=⟨m8,m9,m10,m11,m12,m13⟩;have T3:N3 mg:=⟨m14⟩;have SW:FnOk l.prog w K mg base CX0 5 f8 _ pza (spSpW 174 lpW lqW):=ok_spW F8 wc0 wh0 hB T T2 m15 G1;have FO:FnOk l.prog w K mg base CX0 6 f9 _ pza (kB 174 lpW lqW):=ok_forest G9.F T T2 m15 G8 SW;have ST:FnOk l.prog w K mg base CX0 2 f10 _ pzl spSteps:=ok_steps G10.F G2;have RB:FnOk l.prog w K mg base CX0 7 f12 _ pzd (spRingBy 174 lpW lqW):=ok_ringBy G12.F G11 (ok_wayBt G11.F G10 ST G3) G9 FO;have RO:FnOk l.prog w K mg base CX0 8 f14 _ pza (spRingsO 174 lpW lqW):=ok_ringsO G14.F T T2 G9 FO G12 RB;have CC:CutC K xC:=⟨⟨w2,w3,w4,w5⟩,w6,w7,w8⟩;have CI:=lW (st:=pA) w13 w14 w15;have CS:=lW (st:=sSpanC) w19 w20 w18;have CT:=lW (st:=sSidesC) w24 w25 w23;have CK:CutK l.prog w K mg base 174 lpW lqW 250 lpC lqC xC xi xs xt _ _ _:=⟨CC,⟨w9,w10,w11,w12⟩,cz X G w1,ok_initC CI rfl wh1 hB (by decide) T T2 m15 CC G14 RO G18 G4 G9 FO,CI.binds (ps:=["self","net"]) fun _ _ _ _ _ _=>ko fun _ _=>rfl,⟨w16,w17,w18⟩,ok_spanC CS CC,CS.binds (ps:=["self","case"]) fun _ _ _ _ _ _=>ko fun _ _=>rfl,⟨w21,w22,w23⟩,ok_sidesC CT CC G17,CT.binds (ps:=pzB) fun _ _ _ _ _ _=>args4 fun _ _ _ _=>rfl⟩;have BO:FnOk l.prog w K mg base CX0 2 f6 _ pzf spBeats:=ok_beats G6.F G5;have DL:FnOk l.prog w K mg base CX0 4 f20 _ pzs spDeadL:=ok_deadL G20.F G7 (ok_dead G7.F G6 BO);have TF:FnOk l.prog w K mg base CX0 11 f22 _ pzh (spTabF 174 lpW lqW 250 lpC lqC):=ok_tabF G22.F T (by decide) CK G15 (ok_spread G15.F T T2 G9 FO G10 ST G3) G20 DL G21 (ok_tabBy G21.F T G3 G2 G16) G19;have TN:FnOk l.prog w K mg base CX0 12 f23 _ pza (mF 174 lpW lqW 250 lpC lqC 316):=ok_tabForN F23 T ⟨_,i1⟩ (by decide) (by decide) (by decide) G13 (ok_cases G13.F G9 FO G1) G22 TF;have FI:=lW (st:=sInitTG) w32 w33 w34;have BI:=FI.binds (ps:=pzu) fun _ _ _ _ _ _=>args3 fun _ _ _=>rfl
 have TG:TGc K mg xc x1 xj:=⟨⟨⟨_,_,_,_,_,_,_,_,_,_,_,_,_,_,w28⟩,w59,w27,w29,w30,w31⟩,⟨w35,w36,w37⟩,⟨w38,w39,w40,w41,w42,w43,w44,w45⟩,w46,w47,cz X G w26,cz X G w58⟩;have TO:TGt K mg xc xa xb xd xe xf xg:=⟨cz X G w49,cz X G w50,cz X G w51,cz X G w52,cz X G w53,cz X G w54,m17,w55,w56,w57⟩;have IG:=ok_initTG (P:=l.prog) (w:=w) (base:=base) FI TG;have TM:FnOk l.prog w K mg base (CXN l.prog w) 12 f23 _ pza (spTooM xc 174 lpW lqW):=ok_tooMany F23 ⟨_,i1⟩ TG IG BI G13 (ok_cases G13.F G9 FO G1);have SB:FnOk l.prog w K mg base CX0 2 f25 _ pzk nJ:=ok_shifts G25.F T2 G16;have MP:FnOk l.prog w K mg base CX0 2 f26 _ pzm spMvP:=ok_mvP G26.F T T2 G16;have PA:FnOk l.prog w K mg base CX0 8 f24 _ pza (spParts 174 lpW lqW):=ok_parts G24.F T T2 G15 (ok_spread G15.F T T2 G9 FO G10 ST G3) G3 G2;have SY:FnOk l.prog w K mg base CX0 13 f31 _ pzc (spStay 174 lpW lqW 250 lpC lqC 316):=ok_stay G31.F T T2 ⟨_,i1⟩ (by decide) (by decide) (by decide) G23 TN G24 PA G27 (ok_heldF G27.F G25 SB G26 MP) G22 TF;have FW:FnOk l.prog w K mg base CX0 13 f32 _ pzc (spFew 174 lpW lqW 250 lpC lqC 316 347 369):=ok_few F32 wc4 wh4 hB T ⟨_,i1⟩ (by decide) (by decide) (by decide) (by decide) (by decide) (by decide) (by decide) (by decide) (by decide) (by decide) G23 TN G24 PA G29 (ok_heldM G29.F G25 SB G26 MP G28 (ok_common F28 wc3 wh3 hB T2)) G22 TF G30 (ok_othI G30.F T T2);have TL:FnOk l.prog w K mg base CX0 14 f40 _ pzv (spTld6 174 lpW lqW 250 lpC lqC 316 347 369):=ok_tld6 G40.F T TG TO ⟨cz X G w58,w59⟩ ⟨w48⟩ (by decide) (by decide) (by decide) (by decide) (by decide) (by decide) (by decide) (by decide) G32 ((ok_fewM F32 G23 TM).or FW.up) G31 ((ok_stayM G31.F G23 TM).or SY.up);exact ok_law F41 T T2 G34 (ok_box G34.F T T2 G33) G38 (ok_wdsB G38.F T2 G35) G39 (ok_nt6 G39.F T T2 G35) G35 G40 TL G37 (ok_akp G37.F G36)
theorem walk {l:PySem.W.OpenLaw}{q:aQ}{d:DefRec}{K:Params→au}(hn:l.most=some 63)(hdf:d.params.defaults=[])
  (hY:∀ (w:bq) (h:bw),YP w h→(K w.params).In h∧∀ T∈([174,250,316,347,369]:List ai),h.get? T=some (PySem.W.tabObj #[])) (hC:∀ w:bq,∀ T∈([174,250,316,347,369]:List ai),∃ c,de (K w.params) c T=true) (hN:∀ w:bq,PySem.W.noTabs (K w.params)=true)
  (F:∀ (w:bq) (mg:Str→Option aa) (fa:ai) (h:bw),(K w.params).In h→h.Ns bp mg→mg d.name=some (.ref fa) →
   ∃ fd:bf,(∀ (s:ao) (u:aa),BindsTo s fd ⟨[u],[]⟩ [("_law_script",u)])∧∀ base:bw,(K w.params).In base→base.Ns bp mg→BM mg base→FnOk l.prog w (K w.params) mg base CX0 15 fa fd ["_law_script"] (spLawTs [174,250,316,347,369] (K w.params))) :
  PySem.W.WalkO q loose XP YP l.row.toRowW d [] (fun f vs=>PySem.call f vs) :=
 L2.walk_ofTs (n:=63) (k:=15) (x := "_law_script") (Ts:=[174,250,316,347,369]) (CX:=fun _=>CX0) (sp:=fun w=>spLawTs [174,250,316,347,369] (K w.params)) hn (by decide) hdf ⟨rfl,by decide,by decide⟩ hY hC hN F (fun _ _ a ns hl hT hS=>⟨a,ns,rfl,hS,hT,fun _=>rfl⟩) fun _ _ _ _ _ z=>z
end HN
set_option maxHeartbeats 0 in
theorem PySem.Challenge.cw_hourtable_k66_too_many_cases_to_change_holds : PySem.Challenge.rw_hourtable_k66_too_many_cases_to_change.Holds := by
 refine HN.head0 ?_;intro q loose XP YP d K hdf hd h0 h1 h2 Fc;exact HN.walk (l:=dX) rfl hdf h0 h1 h2 fun w mg fa h KX G hmg=>HN.all_mk KX G (by rw [hd] at hmg;exact hmg) (Fc w)
