import PyProof.Rows.All
import KE.KIsAll
import OpenK.KMore
import KE.LcSums
import KE.KBools
import KE.KxBytes
import Lean
import PyProof.EqAt
import PyProof.EqKinds
import PyProof.TupleCall
import KE.KEqSeq
import PyProof.NeKinds
import PyProof.FitsBits
import PyProof.Rows.SumAny
import PyProof.Rows.SetFrom
import PyProof.SetRoads
import PyProof.ListRange
import KE.KSortTup
import KE.KSortKey
import KE.KLam
import KE.KNestM
import PyProof.Rows.MinMaxN
import KE.KRevIter
import PyProof.MaxThree
import PyProof.AutoSeq1
import PyProof.FactsAll.list_3
import PyProof.MinMaxWalk
import PyProof.WalkInts
import PyProof.Rows.CallKwBuiltin
import PyProof.Defs
import Wide.FinOn
import Wide.All
import PySem.Challenge.RW_hourtable_k90_whole_any_net
set_option Elab.async false
set_option linter.all false
set_option maxRecDepth 100000
set_option bootstrap.genMatcherCode false
open List renaming length_map → aa, getD_eq_getElem?_getD → ai, getElem?_eq_some_iff → ak, length_append → av, mem_singleton → aw, getElem?_map → ax, mem_cons_of_mem → ay, mem_append_right → aA, map_append → aB, mem_cons → aG, size_toArray → aJ, mem_append_left → aM, mem_append → aN, range → aQ, take_length → aX, length_cons → aZ, mem_map → bc, take_add_one → bf, mem_of_getElem? → bj, length_range → br, getElem_mem → bt, mem_cons_self → bw, nodup_cons → bJ, foldl_cons → bK, length_take → bL, nodup_iff_pairwise_ne → bM, mem_range → bO, replicate → bS, mem_filter → bW, getElem?_append_right → cf, map_cons → cw, not_mem_nil → cQ, lookup_cons → dI, filter_cons → dJ, foldl_append → dO, getElem?_set_ne → dX, append_nil → dZ, map_map → d7, getElem?_set_self → d8, length_filter_le → eO, lookup → eX, length_drop → eY, pairwise_map → fh, toList_toArray → fm, length_reverse → fq, length_set → ft, map_congr_left → fV, filter_append → gg, getElem?_append_left → gB, sum_append → gG, reverse_cons → gJ, dropLast_concat → gL, getElem?_range → gX, getElem_map → gZ, getElem_range → hV, find?_cons → ia, length_singleton → iw, length_replicate → ix, nodup_range → iN, replicate_succ → i3, getElem_of_mem → i4, length_eq_zero_iff → jg, toArray → jr, take_of_length_le → ju, nodup_append → jv, any_eq_false → jw, ext_getElem → jT, any_cons → j5, filterMap_cons → kr, pairwise_cons → kD, length_pos_iff → nQ, set_eq_take_append_cons_drop → oH
open PySem renaming Value → ae, wpAny_bind → ah, Addr → ao, Shared → au, wpAny_pure → aL, wpAny → aW, Program → aY, sizeLine → bp, FuncData → bq, model → bx, starEach → bD, World → bE, boot_len → bI, Heap → bP, mainGlobals → bU, Around → bZ, Str → b9, wpAny_mono → cx, mem_of_lookup → cE, NameKind → cP, Stmt → cU, wpAny_newObj_type → dh, wpAny_field → dm, wpAny_holding → dQ, wpAny_callSpecial?_slot → d5, eval → eP, wpAny_Call_Name_kw → e8, lookup_relabel_local → fg, compareOp → fB, Arguments → fE, Scope → fH, wpAny_seqItems → fT, wpAny_truthy_bool → fW, Builtin → fX, sizeLine_eq → gn, wpAny_call_entry → gu, backTo → gF, Spec → gN, foldedSetIterable → gU, binaryOp → gW, wpAny_passesOwn → iF, getItem → ja, codeAny → jq, wpAny_setField_rec → jz, sysModules → jC, wpAny_tryCatch → jU, recursionLimit → jY, Paired → j3, wpAny_letGo → ky, sliceBounds → kz, codeAny_builtin → kK
open PySem.W renaming Frag → aq, mg_none_of → cp, findIn → cR, nsIn → cY, fnOf → dY, kia_one → eM, codeHdIn → eQ, keepIn → fb, emptyDict → fc, instObj → gp, codeIn → iB, mg_of → iV, plainGet → jL, callWith_K → kq
open PySem.Heap renaming get?_push_of_some → ar, lt_size → aO, get?_push_size → bg, SameBut → d9, size_push → gh, get?_update_ne → gY, get?_update_other → jx
open Nat renaming le_refl → aE, lt_of_lt_of_le → aS, le_trans → bh, zero_le → bG, ne_of_lt → bQ, lt_of_le_of_lt → bV, ne_of_gt → dv, lt_irrefl → gf, lt_of_le_of_ne → gm, mul_assoc → gP, lt_succ_of_lt → iD, le_of_lt → iW, lt_succ_iff_lt_or_eq → jb, mul_comm → jM, lt_trans → jN, lt_succ_self → j4
open Bool renaming false_ne_true → aR, and_eq_true → dM, eq_false_iff → iC, not_eq_true' → jy
open PySem.PassesOwn renaming never → bz
open PySem.F renaming plainAttrs_list → bB, type_list_append → cz, slot_list_append → cA, type_list_pop → fZ, slot_list_pop → gc, plain_min_loop → g6, slot_tuple_iterator_next → iX, args_tuple_add_2 → kL, entry_tuple_add → k9
open Option renaming map_eq_some_iff → bF, map_some → gv
open PyProof.Rows renaming slot_tuple_getitem → bR, seqObj → bT, callWith_type1 → eN, get?_update_seq → gQ, boot_tuple → jJ, slicePart_none → jW, entry_tuple_getitem → kN, args_tuple_getitem → lI
open Array renaming length_toList → cq, getElem?_eq_getElem → eh, getElem?_toList → jQ
open Int renaming emod_lt_of_pos → cB, toNat_natCast → cL, eq_ofNat_of_zero_le → cM, emod_nonneg → cS, toNat_of_nonneg → eE, le_refl → eI, zero_mul → fO, mul_le_mul_of_nonneg_left → fQ, mul_ediv_add_emod → gq, zero_add → gO, mul_zero → hX, lt_or_le → jO
open Option.some renaming inj → cG
open Ne renaming symm → cN
open PySem.Builtin.Slice renaming slicePlaces → cT, sliceApplied → eR, sliceFields → j6, sliceAdjust → j7
open PySem.Obj renaming mapSeq → cV
open PySem.Str renaming ofString → df
open False renaming elim → dg
open PySem.Builtin.SmallTypes renaming nextOf → dt, ownedTupleIsFree → kM
open PySem.Builtin.Tuple renaming tupleExact → dA, tupleItemsOf → g9
open PySem.Builtin.Range renaming rangeSize → eG, small → iu
open Classical renaming byContradiction → fj
open Pure renaming pure → fM
open PySem.Challenge renaming rw_hourtable_k90_whole_any_net → fY
open PySem.Heap.SameBut renaming update → gz
open PySem.Builtin.List renaming listTooLong → iE
open PySem.Builtin.Int renaming intBits → jP
noncomputable section
abbrev rG:=@if_neg
abbrev rJ:=@if_pos
abbrev rL:=@absurd
abbrev rM:=@decide_eq_true
abbrev rN:=@decide_eq_false
abbrev rO:=@of_decide_eq_true
abbrev rQ:=@congrArg
set_option maxHeartbeats 4000000
theorem gE {α:Type}{l:List α}{i:Nat}(h:i<l.length):l[i]? =some l[i]:=List.getElem?_eq_getElem h
variable {A:bZ}{B:Prop}{C Da Ls T0 T1 Tb0 a dx f f1 f2 f3 f4 kS sl:ao}{E Q:ae→au→Prop}{K:aq}{M:PySem.Model}{N fr loose ps:List PySem.Str}{P prog:aY}{R:PySem.Result→au→Prop}{T:String}{Ts ch fp:List ao}{XP:(PySem.Str→Option ae)→bP→Prop}{YP:bE→bP→Prop}{aP pins':List (ao×PySem.Obj)}{b be d lo z:Int}{base h h':bP}{body e ea elt iter re tg value:PySem.Expr}{cl:List (PySem.Str×ao)}{d':PySem.Drawn}{e1 i j m n t':Nat}{env:PySem.Env}{es ifs:List PySem.Expr}{fd fd1 fd2 fd3 fd4 fd5:bq}{fz:ao→Option PySem.Obj}{g':Array PySem.GenState}{gs ns ts:List Int}{hi:Option Int}{items:Array ae}{its old us vs:List ae}{js l tk π:List Nat}{key:Nat→Int}{keys:List (Option PySem.Expr)}{ks:List (Int×Int)}{kw:List (PySem.Str×ae)}{lp p0 p1 p2 pos pos' tpos:PySem.Pos}{lq name q q0 q1 qual x:PySem.Str}{mA mg:PySem.Str→Option ae}{oI:PySem.Obj}{op:PySem.CmpOp}{osl:Array (Option ae)}{outer:List PySem.Env}{p:Array Nat}{params:fE}{s s':au}{scope:fH}{st:cU}{u:ae}{w:bE}{α:Type}
namespace L2
open PySem PySem.Spec PyProof.Rows
def jn (s:cU):fE:=match s with
 | .FunctionDef _ a _ _ _ _ _ _ _ _=>a
 | _=>{ posonlyargs:=[],args:=[],vararg:=none,kwonlyargs:=[],kw_defaults:=[],kwarg:=none,defaults:=[] }
def fR (s:cU):List cU:=match s with
 | .FunctionDef _ _ b _ _ _ _ _ _ _=>b
 | _=>[]
def defScope (s:cU):fH:=match s with
 | .FunctionDef _ _ _ _ _ _ sc _ _ _=>sc
 | _=>{ kind:= .function,names:=[],isGenerator:=false,isCoroutine:=false }
end L2
namespace HN
open PySem L2 PyProof.Rows
def top (i:Nat):cU:=PySem.Challenge.pw_hourtable_k90_whole_any_net.main.body.getD i (.Pass ⟨0,0,0,0⟩)
def clsOf (s:cU)(i:Nat):cU:=match s with
 | .ClassDef _ _ _ body _ _ _ _ _ _ _=>body.getD i (.Pass ⟨0,0,0,0⟩)
 | s=>s
structure Df (K:aq)(x:Str)(st:cU)(f:ao):Prop where
 n:cY K bU x=some (some (.ref f))
 l:∃ (oc:ae) (od an:Option ao) (sl:Array (Option ae)) (kV dc pm cd ct:ae),K.lookup f=some ⟨oc,od,.func (dY x x (jn st) (fR st) (defScope st) .none kV dc pm an cd ct),sl⟩∧iB K cd x=true∧fb K (.ref f)=true
def Facts (K:aq):Prop:=∀ C:Prop,(∀ {f1 f2 f3 f4 f5 f6 f7 f8 f9 f10 f11 f12 f13 f14 f15 f16 f17 f18 f19 f20 f21 f22 f23 f24 f25 f26 f27 f28 f29 f30 f31 f32 f33 f34 f35 f36 f37 f38 f39 f40 f41 f42 f43 f44 f45 f46 f47 f48 f49 f50 f51 f52 f53 f54 f55 f56 f57:ao} {t1:Tok} {xC xi xs xt:ao} {odI anI odS anS odT anT:Option ao} {slI slS slT:Array (Option ae)} {ocI kVI dcI pmI ctI ocS kVS dcS pmS cdS ctS ocT kVT dcT pmT cdT ctT:ae},(Df K "width_of" (top 4) f1) →
 (Df K "leads_from" (top 6) f2) →
 (Df K "leads_to" (top 7) f3) →
 (Df K "first_bounds" (top 8) f4) →
 (Df K "sum_of" (top 9) f5) →
 (Df K "beats_of" (top 10) f6) →
 (Df K "is_dead" (top 11) f7) →
 (Df K "spans_by_width" (top 14) f8) →
 (Df K "forest_of" (top 15) f9) →
 (Df K "steps_from" (top 16) f10) →
 (Df K "way_between" (top 17) f11) →
 (Df K "ring_by" (top 18) f12) →
 (Df K "cases_of" (top 19) f13) →
 (Df K "rings_of" (top 20) f14) →
 (Df K "spread_of" (top 21) f15) →
 (Df K "rest_by" (top 23) f16) →
 (Df K "with_bound" (top 28) f17) →
 (Df K "rings_over" (top 33) f18) →
 (Df K "middle_of" (top 35) f19) →
 (Df K "dead_leaf" (top 36) f20) →
 (Df K "table_by" (top 37) f21) →
 (Df K "tables_that_fit" (top 38) f22) →
 (Df K "tree_from" (top 39) f23) →
 (Df K "tree_by" (top 40) f24) →
 (Df K "table_for" (top 41) f25) →
 (Df K "is_sure" (top 12) f26) →
 (Df K "wait_in" (top 24) f27) →
 (Df K "waits_of" (top 25) f28) →
 (Df K "wait_of" (top 26) f29) →
 (Df K "own_prices" (top 29) f30) →
 (Df K "worth_of" (top 30) f31) →
 (Df K "price_leaf" (top 43) f32) →
 (Df K "leaf_by" (top 44) f33) →
 (Df K "best_for" (top 45) f34) →
 (Df K "_law_cell_at" (top 47) f35) →
 (Df K "_law_mixed" (top 48) f36) →
 (Df K "_law_pot" (top 49) f37) →
 (Df K "_law_take" (top 50) f38) →
 (Df K "_law_span" (top 51) f39) →
 (Df K "_law_tied" (top 52) f40) →
 (Df K "_law_more" (top 53) f41) →
 (Df K "_law_net" (top 54) f42) →
 (Df K "_law_waits" (top 55) f43) →
 (Df K "_law_fits" (top 56) f44) →
 (Df K "_law_is_table" (top 58) f45) →
 (Df K "_law_wait" (top 57) f46) →
 (Df K "_law_is_whole" (top 59) f47) →
 (Df K "_law_led" (top 60) f48) →
 (Df K "_law_beats" (top 61) f49) →
 (Df K "_law_worth" (top 62) f50) →
 (Df K "_law_leaf" (top 63) f51) →
 (Df K "_law_walked" (top 64) f52) →
 (Df K "_law_shown" (top 65) f53) →
 (Df K "_law_bent" (top 66) f54) →
 (Df K "_law_none" (top 67) f55) →
 (Df K "_law_best" (top 68) f56) →
 (Df K "law" (top 69) f57) →
 (cY K bU "MOST_CASES" =some (some (.int 4096 t1))) →
 (cY K bU "isinstance" =some none) →
 (cY K bU "int" =some none) →
 (cY K bU "bool" =some none) →
 (cY K bU "tuple" =some none) →
 (cY K bU "len" =some none) →
 (cY K bU "min" =some none) →
 (cY K bU "all" =some none) →
 (cY K bU "range" =some none) →
 (cY K bU "enumerate" =some none) →
 (cY K bU "zip" =some none) →
 (cY K bU "sum" =some none) →
 (cY K bU "list" =some none) →
 (cY K bU "max" =some none) →
 (cY K bU "set" =some none) →
 (cY K bU "sorted" =some none) →
 (cY K bU "reversed" =some none) →
 (cY K bU "Cuts" =some (some (.ref xC))) →
 (jL K xC Str.empty=true) →
 (PySem.W.hasDictIn K xC=true) →
 (PySem.W.plainOver K xC=true) →
 (cR K (.ref xC) "__setattr__" =some (some (.builtin "object.__setattr__"))) →
 (cR K (.ref xC) "first_case" =some none) →
 (cR K (.ref xC) "touched" =some none) →
 (cR K (.ref xC) "order" =some none) →
 (PySem.W.makesIn K xC=true) →
 (cR K (.ref xC) "__init__" =some (some (.ref xi))) →
 (PySem.W.isFn K (.ref xi)=true) →
 (fb K (.ref xC)=true) →
 (K.lookup xi=some ⟨ocI,odI,.func (dY "__init__" "Cuts.__init__" (jn (clsOf (top 34) 0)) (fR (clsOf (top 34) 0)) (defScope (clsOf (top 34) 0)) .none kVI dcI pmI anI (.ref 209) ctI),slI⟩) →
 (iB K (.ref 209) "Cuts.__init__" =true) →
 (fb K (.ref xi)=true) →
 (cR K (.ref xC) "span_to_cut" =some (some (.ref xs))) →
 (PySem.W.isFn K (.ref xs)=true) →
 (fb K (.ref xs)=true) →
 (K.lookup xs=some ⟨ocS,odS,.func (dY "span_to_cut" "Cuts.span_to_cut" (jn (clsOf (top 34) 1)) (fR (clsOf (top 34) 1)) (defScope (clsOf (top 34) 1)) .none kVS dcS pmS anS cdS ctS),slS⟩) →
 (iB K cdS "Cuts.span_to_cut" =true) →
 (cR K (.ref xC) "sides" =some (some (.ref xt))) →
 (PySem.W.isFn K (.ref xt)=true) →
 (fb K (.ref xt)=true) →
 (K.lookup xt=some ⟨ocT,odT,.func (dY "sides" "Cuts.sides" (jn (clsOf (top 34) 2)) (fR (clsOf (top 34) 2)) (defScope (clsOf (top 34) 2)) .none kVT dcT pmT anT cdT ctT),slT⟩) →
 (iB K cdT "Cuts.sides" =true) →
 (∃ (oc:ae) (od an:Option ao) (sl:Array (Option ae)) (kV dc pm ct:ae),K.lookup f8=some ⟨oc,od,.func (dY "spans_by_width" "spans_by_width" (jn (top 14)) (fR (top 14)) (defScope (top 14)) .none kV dc pm an (.ref 106) ct),sl⟩) →
 (eQ K 106 102=true) →
 (eQ K 209 207=true) →
 (∃ (oc:ae) (od an:Option ao) (sl:Array (Option ae)) (kV dc pm ct:ae),K.lookup f25=some ⟨oc,od,.func (dY "table_for" "table_for" (jn (top 41)) (fR (top 41)) (defScope (top 41)) .none kV dc pm an (.ref 277) ct),sl⟩) →
 (eQ K 277 273=true) →
 (∃ (oc:ae) (od an:Option ao) (sl:Array (Option ae)) (kV dc pm ct:ae),K.lookup f34=some ⟨oc,od,.func (dY "best_for" "best_for" (jn (top 45)) (fR (top 45)) (defScope (top 45)) .none kV dc pm an (.ref 296) ct),sl⟩) →
 (eQ K 296 292=true)→C)→C
def Wp:Prop:=∀ {q:aY} {loose:List Str} {XP:(Str→Option ae)→bP→Prop} {YP:bE→bP→Prop} {d:DefRec} {K:Params→aq},d.params.defaults=[]→d.name = "law" →(∀ (w:bE) (h:bP),YP w h→(K w.params).In h∧∀ T∈([102,207,273,292]:List ao),h.get? T=some (PySem.W.tabObj #[]))→(∀ w:bE,∀ T∈([102,207,273,292]:List ao),∃ c,eQ (K w.params) c T=true)→(∀ w:bE,PySem.W.noTabs (K w.params)=true)→(∀ w:bE,Facts (K w.params))→PySem.W.WalkO q loose XP YP (fY).row.toRowW d [] (fun f vs=>PySem.call f vs)
end HN
section
open PySem PySem.W PyProof.Rows
def HN.seenOf:aY:={ PySem.Challenge.pw_hourtable_k90_whole_any_net with main:={ PySem.Challenge.pw_hourtable_k90_whole_any_net.main with body:=[1,2,4,6,7,8,9,10,11,12,14,15,16,17,18,19,20,21,23,24,25,26,28,29,30,32,33,34,35,36,37,38,39,40,41,43,44,45,47,48,49,50,51,52,53,54,55,56,57,58,59,60,61,62,63,64,65,66,67,68,69].map HN.top } }
def HN.isSeen (s:au):Bool:=xlAt HN.seenOf [] s && recOk (RowW.records (OpenRow.toRowW (OpenLaw.row fY))) s
local macro_rules
 | `(tactic| o_head $H:term) => `(tactic| (refine holds_open (q := HN.seenOf) (loose := []) (XP := XL HN.seenOf []) (Xt := HN.isSeen) (Yf := Hook.obs $H) (Ya := Hook.val $H) (YP := Hook.says $H) (N := 5290) ?_ (Hook.of $H) (Hook.keeps $H) (fun s e => xl_of s (Bool.and_eq_true_iff.mp e).1) XL.keeps (by rfl) (by rfl) (by rfl) (fun s e => recFacts_of (Bool.and_eq_true_iff.mp e).2) ?_ ?_ ?_ ?_ ?_ ?_))
theorem HN.left_two {σ β:Type}{e:Option σ}{f:σ→α}{g:σ→β}{a:α}{b:β}(h1:e.map f=some a)(h2:e.map g=some b):e.map (fun s=>(f s,g s))=some (a,b):=by
 cases e with
 | none=>cases h1
 | some s=>injection h1 with h1;injection h2 with h2;show some (f s,g s)=_;rw [h1,h2]
theorem HN.left_pr {σ β:Type}{e:Option σ}{f:σ→α×β}{a:α×β}(h1:e.map (fun s=>(f s).1)=some a.1)(h2:e.map (fun s=>(f s).2)=some a.2):e.map f=some a:=by
 cases e with
 | none=>cases h1
 | some s=>injection h1 with h1;injection h2 with h2;exact rQ some (Prod.ext h1 h2)
set_option maxHeartbeats 0 in
theorem HN.left1 (w:bE):(openEnds treeTable PySem.Challenge.rw_hourtable_k90_whole_any_net.row.prog w 5290).map (fun s=>(openSeen HN.seenOf [] (importedModules PySem.Challenge.rw_hourtable_k90_whole_any_net.row.prog.main.body) HN.isSeen true s).1)=some (openGood HN.seenOf []).1:=by
 kernel_rfl
set_option maxHeartbeats 0 in
theorem HN.left2 (w:bE):(openEnds treeTable PySem.Challenge.rw_hourtable_k90_whole_any_net.row.prog w 5290).map (fun s=>(openSeen HN.seenOf [] (importedModules PySem.Challenge.rw_hourtable_k90_whole_any_net.row.prog.main.body) HN.isSeen true s).2)=some (openGood HN.seenOf []).2:=by
 kernel_rfl
set_option maxRecDepth 100000 in
set_option maxHeartbeats 0 in
theorem HN.head0 (W:HN.Wp):PySem.Challenge.rw_hourtable_k90_whole_any_net.Holds:=by
 w_on;refine holds_law (by decide +kernel) fun said=>?_;k_head
 ·exact fun w=>HN.left_two (HN.left_pr (HN.left1 w) (HN.left2 w)) (by kernel_rfl)
 ·rfl
 ·assumption
 ·decide +kernel
 ·exact ⟨rfl,rfl,rfl,rfl,rfl,by decide +kernel⟩
 ·w_witness2
 k_fill
 refine W rfl rfl (fun w h Y=>⟨PySem.W.km_in_of Y,fun T hT=>PySem.W.km_tabs_of Y T (by revert hT;revert T;decide)⟩) (fun w T hT=>by
  simp only [aG,cQ,or_false] at hT
  rcases hT with rfl | rfl | rfl | rfl
  ·exact ⟨106,by kernel_rfl⟩
  ·exact ⟨209,by kernel_rfl⟩
  ·exact ⟨277,by kernel_rfl⟩
  ·exact ⟨296,by kernel_rfl⟩
  ) (fun w=>by kernel_rfl) ?F
 case F =>
  intro w C k;refine' k ?_ ?_ ?_ ?_ ?_ ?_ ?_ ?_ ?_ ?_ ?_ ?_ ?_ ?_ ?_ ?_ ?_ ?_ ?_ ?_ ?_ ?_ ?_ ?_ ?_ ?_ ?_ ?_ ?_ ?_ ?_ ?_ ?_ ?_ ?_ ?_ ?_ ?_ ?_ ?_ ?_ ?_ ?_ ?_ ?_ ?_ ?_ ?_ ?_ ?_ ?_ ?_ ?_ ?_ ?_ ?_ ?_ ?y1 ?z1 ?z2 ?z3 ?z4 ?z5 ?z6 ?z7 ?z8 ?z9 ?z10 ?z11 ?z12 ?z13 ?z14 ?z15 ?z16 ?w1 ?w2 ?w3 ?w4 ?w5 ?w6 ?w7 ?w8 ?w9 ?w10 ?w11 ?w12 ?w13 ?w14 ?w15 ?w16 ?w17 ?w18 ?w19 ?w20 ?w21 ?w22 ?w23 ?w24 ?w25 ?wc0 ?wh0 ?wh1 ?wc2 ?wh2 ?wc3 ?wh3
  all_goals first | exact ⟨by k_is,_,_,_,_,_,_,_,_,_,by k_is,by k_is,by k_is⟩ | skip
  (case y1=>k_is);(case z1=>k_is);(case z2=>k_is);(case z3=>k_is);(case z4=>k_is);(case z5=>k_is);(case z6=>k_is);(case z7=>k_is);(case z8=>k_is);(case z9=>k_is);(case z10=>k_is);(case z11=>k_is);(case z12=>k_is);(case z13=>k_is);(case z14=>k_is);(case z15=>k_is);(case z16=>k_is)
  (case w1=>k_is)
  (case w2=>k_is)
  (case w3=>k_is)
  (case w4=>k_is)
  (case w5=>k_is)
  (case w6=>k_is)
  (case w7=>k_is)
  (case w8=>k_is)
  (case w9=>k_is)
  (case w10=>k_is)
  (case w11=>k_is)
  (case w12=>k_is)
  (case w13=>k_is)
  (case w14=>k_is)
  (case w15=>k_is)
  (case w16=>k_is)
  (case w17=>k_is)
  (case w18=>k_is)
  (case w19=>k_is)
  (case w20=>k_is)
  (case w21=>k_is)
  (case w22=>k_is)
  (case w23=>k_is)
  (case w24=>k_is)
  (case w25=>k_is)
  (case wc0=>exact ⟨_,_,_,_,_,_,_,_,by k_is⟩)
  (case wh0=>kernel_rfl)
  (case wh1=>kernel_rfl)
  (case wc2=>exact ⟨_,_,_,_,_,_,_,_,by k_is⟩)
  (case wh2=>kernel_rfl)
  (case wc3=>exact ⟨_,_,_,_,_,_,_,_,by k_is⟩)
  (case wh3=>kernel_rfl)
end
namespace L2
open PySem PySem.Spec PyProof.Rows
abbrev Key:=Sum Int Str
def keyIs:Key→ae→Bool
 | .inl k,v=>ae.isInt k v
 | .inr x,v=>ae.isStrOf x v
def keyH (w:bE):Key→Int
 | .inl k=>hashInt k
 | .inr x=>hashStr w x
theorem gT:∀ {k:Key} {v:ae},keyIs k v=true→(∃ i t,k=Sum.inl i∧v=ae.int i t)∨(∃ x t,k=Sum.inr x∧v=ae.str x t)
 | .inl i,v,h=>by
  obtain ⟨t,e⟩:=ae.isInt_shape (k:=i) (v:=v) h;exact .inl ⟨i,t,rfl,e⟩
 | .inr x,v,h=>by
  obtain ⟨t,e⟩:=ae.isStrOf_shape (x:=x) (v:=v) h;exact .inr ⟨x,t,rfl,e⟩
theorem keyIs_int (i:Int)(t:Tok):keyIs (.inl i) (.int i t)=true:=by simp [keyIs,ae.isInt]
theorem keyIs_str (x:Str)(t:Tok):keyIs (.inr x) (.str x t)=true:=by simp [keyIs,ae.isStrOf]
theorem key_ll (a b:Int):decide ((Sum.inl a:Key)=Sum.inl b)=(a == b):=by
 by_cases e:a=b
 ·subst e;simp
 ·have h:¬ (Sum.inl a:Key)=Sum.inl b:=fun q=>e (Sum.inl.inj q)
  rw [rN h];exact (beq_eq_false_iff_ne.mpr e).symm
theorem key_rr (a b:Str):decide ((Sum.inr a:Key)=Sum.inr b)=decide (a=b):=by
 by_cases e:a=b
 ·subst e;simp
 ·have h:¬ (Sum.inr a:Key)=Sum.inr b:=fun q=>e (Sum.inr.inj q)
  rw [rN h,rN e]
theorem key_lr (a:Int)(b:Str):decide ((Sum.inl a:Key)=Sum.inr b)=false:=rN (fun q=>nomatch q)
theorem key_rl (a:Str)(b:Int):decide ((Sum.inr a:Key)=Sum.inl b)=false:=rN (fun q=>nomatch q)
def iS (prog:aY)(w:bE):PySem.KeyKind prog w Key where
 is:=keyIs
 hash:=keyH w
 inj:=fun v a b ha hb=>by
  rcases gT ha with ⟨i,t,rfl,rfl⟩ | ⟨x,t,rfl,rfl⟩
  ·rcases gT hb with ⟨j,u,rfl,e⟩ | ⟨y,u,rfl,e⟩
   ·injection e with e1 _;rw [e1]
   ·exact nomatch e
  ·rcases gT hb with ⟨j,u,rfl,e⟩ | ⟨y,u,rfl,e⟩
   ·exact nomatch e
   ·injection e with e1 _;rw [e1]
 byValue:=fun k v h=>by
  rcases gT h with ⟨i,t,rfl,rfl⟩ | ⟨x,t,rfl,rfl⟩ <;> rfl
 pyHash:=fun hv h=>by
  rcases gT hv with ⟨i,t,rfl,rfl⟩ | ⟨x,t,rfl,rfl⟩
  ·exact wpAny_pyHash_int h
  ·exact wpAny_pyHash_str h
 eqBool:=fun hu hv h=>by
  rcases gT hu with ⟨i,t,rfl,rfl⟩ | ⟨x,t,rfl,rfl⟩
  ·rcases gT hv with ⟨j,u,rfl,rfl⟩ | ⟨y,u,rfl,rfl⟩
   ·rw [key_ll] at h;exact wpAny_eqBool_int h
   ·rw [key_lr] at h;exact SeqAt.EqAt.int_str i t y u _ _ _ _ h
  ·rcases gT hv with ⟨j,u,rfl,rfl⟩ | ⟨y,u,rfl,rfl⟩
   ·rw [key_rl] at h;exact SeqAt.EqAt.str_int x t j u _ _ _ _ h
   ·rw [key_rr] at h;exact wpAny_eqBool_str h
 «strs» := fun k x t v h=>by
  rcases gT h with ⟨i,u,rfl,e⟩ | ⟨y,u,rfl,e⟩
  ·exact nomatch e
  ·injection e with e1 _
   subst e1;cases v <;> rfl
theorem mixKind_int (prog:aY)(w:bE)(i:Int)(t:Tok):(iS prog w).is (.inl i) (.int i t)=true:=keyIs_int i t
theorem mixKind_str (prog:aY)(w:bE)(x:Str)(t:Tok):(iS prog w).is (.inr x) (.str x t)=true:=keyIs_str x t
inductive V where
 | non | bl (b:Bool) | int (i:Int) | str (x:Str) | byt (b:Array UInt8) | flt (b:UInt64) | ref (a:ao) | ty (n:String)
 deriving DecidableEq
def RelV:V→ae→Prop
 | .non,u=>u=ae.none
 | .bl b,u=>u=ae.bool b
 | .int i,u=>∃ t,u=ae.int i t
 | .str x,u=>∃ t,u=ae.str x t
 | .byt b,u=>∃ t,u=ae.bytes b t
 | .flt b,u=>∃ t,u=ae.float b t
 | .ref a,u=>u=ae.ref a
 | .ty n,u=>u=ae.type n
abbrev Vals:List V→List ae→Prop:=j3 RelV
theorem Vals.length {xs:List V}(r:Vals xs us):xs.length=us.length:=Paired.length r
theorem Vals.get:∀ {xs:List V} {us:List ae} {i:Nat} {x:V},Vals xs us→xs[i]? =some x→∃ u,us[i]? =some u∧RelV x u
 | _,_,_,_,.nil,e=>by simp at e
 | _,_,0,_,.cons r _,e=>by simp at e;subst e;exact ⟨_,rfl,r⟩
 | _,_,i+1,x,.cons _ t,e=>by
  obtain ⟨u,h1,h2⟩:=Vals.get (i:=i) (x:=x) t (by simpa using e);exact ⟨u,by simpa using h1,h2⟩
theorem Vals.set {x:V}{u:ae}(r:RelV x u):∀ {xs:List V} {us:List ae} (i:Nat),Vals xs us→Vals (xs.set i x) (us.set i u)
 | _,_,_,.nil=> .nil
 | _,_,0,.cons _ t=> .cons r t
 | _,_,i+1,.cons q t=> .cons q (Vals.set r i t)
theorem Vals.append:∀ {xs ys:List V} {us ws:List ae},Vals xs us→Vals ys ws→Vals (xs++ys) (us++ws)
 | _,_,_,_,.nil,s=>s
 | _,_,_,_,.cons r t,s=> .cons r (Vals.append t s)
theorem Vals.take:∀ {xs:List V} {us:List ae} (n:Nat),Vals xs us→Vals (xs.take n) (us.take n)
 | _,_,0,_=> .nil
 | _,_,_+1,.nil=> .nil
 | _,_,n+1,.cons r t=> .cons r (Vals.take n t)
theorem Vals.drop:∀ {xs:List V} {us:List ae} (n:Nat),Vals xs us→Vals (xs.drop n) (us.drop n)
 | _,_,0,r=>r
 | _,_,_+1,.nil=> .nil
 | _,_,n+1,.cons _ t=>Vals.drop n t
def RelO:Option V→Option ae→Prop
 | some v,some u=>RelV v u
 | none,none=>True
 | _,_=>False
def KV {κ:Type}:List (κ×V)→List (κ×ae)→Prop:=j3 fun (p:κ×V) (q:κ×ae)=>p.1=q.1∧RelV p.2 q.2
def kV:Key→V
 | .inl i=> .int i
 | .inr x=> .str x
inductive HO where
 | lst (xs:List V)
 | tup (xs:List V)
 | dK (kvs:List (Key×V)) | dT (kvs:List (List Key×V))
 | set (S:Int→Bool) (n:Nat)
 | ins (C dx:ao) (fs:List (Str×V))
 | own (x:ao)
 | xd (fs:List (Str×V))
 | met (f x:ao)
 | rng (lo hi:Int)
 | frz (o:Obj) (u:HO)
 | tbl (ps:Array ae)
 | ext (φ:bP→Prop)
abbrev Hp:=ao→Option HO
def upd (H:Hp)(a:ao)(o:HO):Hp:=fun b=>if b=a then some o else H b
theorem aV {H:Hp}{o:HO}:upd H a o a=some o:=by unfold upd;rw [rJ rfl]
theorem bC {H:Hp}{b:ao}{o:HO}(h:b≠a):upd H a o b=H b:=by unfold upd;rw [rG h]
theorem eV {H:Hp}{b:ao}{o u:HO}(h:H a=some o)(h':H b=some u)(d:o≠u):a≠b:=by
 intro e;subst e;rw [h] at h';exact d (cG h')
theorem bH {H:Hp}{b:ao}{o:HO}(h:H a=some o)(h':H b=none):a≠b:=by
 intro e;subst e;rw [h] at h';cases h'
def IsTupN (h:bP)(a:ao)(items:Array ae):Prop:=∃ o,h.get? a=some o∧o.cls= .type "tuple" ∧o.dict=none∧∃ n,o.data= .seq items n
theorem IsTupN.tup {h:bP}{a:ao}{items:Array ae}(p:IsTupN h a items):IsTup h a items:=let ⟨o,e,c,_,n,d⟩:=p;⟨o,e,c,n,d⟩
theorem IsTupN.lt (p:IsTupN h a items):a<h.objs.size:=p.tup.lt
theorem IsTupN.new (h:bP)(items:Array ae):IsTupN (h.push { cls:= .type "tuple",data:= .seq items }) h.objs.size items:=⟨_,bg _ rfl,rfl,rfl,_,rfl⟩
section
variable (P:aY) (w:bE)
def ObjOk (H:Hp)(h:bP)(a:ao):HO→Prop
 | .lst xs=>xs.length≤bp∧∃ (its:List ae) (n:Nat),Vals xs its∧h.get? a=some { cls:= .type "list",data:= .seq its.toArray n }
 | .tup xs=>xs.length≤bp∧∃ its:List ae,Vals xs its∧IsTupN h a its.toArray
 | .dK kvs=>kvs.length≤bp∧(a == jC)=false∧∃ vs,KV kvs vs∧h.DictOf (iS P w) a vs
 | .dT kvs=>kvs.length≤bp∧(a == jC)=false∧∃ xs:List (List Key×ao×ae),
   j3 (fun (p:List Key×V) (q:List Key×ao×ae)=>p.1=q.1∧H q.2.1=some (.tup (p.1.map kV))∧RelV p.2 q.2.2) kvs xs ∧
   ∃ o es ep,h.get? a=some o∧o.ExactDict∧o.data= .dict es ep∧es.toList=xs.map (entryOfKey (tupleKind (iS P w)))∧(xs.map (·.1)).Nodup
 | .set S n=>h.SetOf (intKind P w) a S n
 | .ins C dx fs=>H dx=some (.own a)∧fs.length≤1000∧dx≠a∧h.get? a=some (gp C dx) ∧
   ∃ mA,h.Ns1 dx mA∧(∀ f,RelO (fs.lookup f) (mA f))∧PySem.Within mA (fs.map (·.1))
 | .own _=>∃ o,h.get? a=some o
 | .xd fs=>∃ mA,h.Ns1 a mA∧∀ f,RelO (fs.lookup f) (mA f)
 | .rng lo hi=>∃ t u v,h.get? a=some { cls:= .type "range",data:= .fields #[.int lo t,.int hi u,.int 1 v] }
 | .frz o u=>h.get? a=some o∧ObjOk H h a u
 | .tbl ps=>h.get? a=some { cls:= .none,data:= .fields ps }
 | .met f x=>h.get? a=some (PySem.W.methodObj (.ref f) (.ref x))
 | .ext φ=>φ h∧(∃ o,h.get? a=some o)∧∀ h1 h2:bP,φ h1→(∀ o,h1.get? a=some o→h2.get? a=some o)→φ h2
def HOk (H:Hp)(h:bP):Prop:=∀ a o,H a=some o→ObjOk P w H h a o
end
section
variable {H H':Hp}{o:HO}
theorem ObjOk.lt (x:ObjOk P w H h a o):a<h.objs.size:=by
 cases o with
 | lst xs=>obtain ⟨_,_,_,_,e⟩:=x;exact aO e
 | tup xs=>obtain ⟨_,_,_,p⟩:=x;exact p.lt
 | dK kvs=>obtain ⟨_,_,_,_,o,_,_,e,_⟩:=x;exact aO e
 | dT kvs=>obtain ⟨_,_,_,_,o,_,_,e,_⟩:=x;exact aO e
 | set S n=>obtain ⟨o,_,_,_,e,_⟩:=x;exact aO e
 | ins C dx fs=>obtain ⟨_,_,_,e,_⟩:=x;exact aO e
 | own y=>obtain ⟨_,e⟩:=x;exact aO e
 | xd fs=>obtain ⟨_,⟨_,_,_,e,_⟩,_⟩:=x;exact aO e
 | rng lo hi=>obtain ⟨_,_,_,e⟩:=x;exact aO e
 | frz ob u=>obtain ⟨e,_⟩:=x;exact aO e
 | tbl ps=>exact aO (show h.get? a=some _ from x)
 | met f y=>exact aO (show h.get? a=some _ from x)
 | ext φ=>obtain ⟨_,⟨_,e⟩,_⟩:=x;exact aO e
theorem Paired.mapP {α β:Type}{F G:α→β→Prop}:∀ {l₁:List α} {l₂:List β},j3 F l₁ l₂→(∀ a b,F a b→G a b)→j3 G l₁ l₂
 | _,_,.nil,_=> .nil
 | _,_,.cons r t,f=> .cons (f _ _ r) (Paired.mapP t f)
theorem ObjOk.stay (x:ObjOk P w H h a o)(k:∀ b u,(b=a∨H b=some (.own a))→h.get? b=some u→h'.get? b=some u)
  (ho:∀ b,H b=some (.own a)→H' b=some (.own a)) (ht:∀ b xs,H b=some (.tup xs)→H' b=some (.tup xs)):ObjOk P w H' h' a o:=by
 induction o with
 | lst xs=>obtain ⟨z,its,n,r,e⟩:=x;exact ⟨z,its,n,r,k _ _ (.inl rfl) e⟩
 | tup xs=>obtain ⟨z,its,r,ob,e,c⟩:=x;exact ⟨z,its,r,ob,k _ _ (.inl rfl) e,c⟩
 | dK kvs=>obtain ⟨z,y,vs,r,ob,es,ep,e,c⟩:=x;exact ⟨z,y,vs,r,ob,es,ep,k _ _ (.inl rfl) e,c⟩
 | dT kvs =>
  obtain ⟨z,y,xs,r,ob,es,ep,e,c⟩:=x;exact ⟨z,y,xs,Paired.mapP r fun p q z=>⟨z.1,ht _ _ z.2.1,z.2.2⟩,ob,es,ep,k _ _ (.inl rfl) e,c⟩
 | set S n=>obtain ⟨ob,es,ep,t,e,c⟩:=x;exact ⟨ob,es,ep,t,k _ _ (.inl rfl) e,c⟩
 | ins C dx fs =>
  obtain ⟨d,z,ne,e,mA,⟨od,es,ep,e2,c⟩,r⟩:=x;exact ⟨ho _ d,z,ne,k _ _ (.inl rfl) e,mA,⟨od,es,ep,k _ _ (.inr d) e2,c⟩,r⟩
 | own y=>obtain ⟨ob,e⟩:=x;exact ⟨ob,k _ _ (.inl rfl) e⟩
 | xd fs=>obtain ⟨mA,⟨od,es,ep,e,c⟩,r⟩:=x;exact ⟨mA,⟨od,es,ep,k _ _ (.inl rfl) e,c⟩,r⟩
 | rng lo hi=>obtain ⟨t,u,v,e⟩:=x;exact ⟨t,u,v,k _ _ (.inl rfl) e⟩
 | frz ob u ih=>obtain ⟨e,q⟩:=x;exact ⟨k _ _ (.inl rfl) e,ih q⟩
 | tbl ps =>
  have e:h.get? a=some { cls:= .none,data:= .fields ps }:=x;show h'.get? a=some { cls:= .none,data:= .fields ps };exact k a _ (.inl rfl) e
 | met f y =>
  have e:h.get? a=some (PySem.W.methodObj (.ref f) (.ref y)):=x;show h'.get? a=some (PySem.W.methodObj (.ref f) (.ref y));exact k a _ (.inl rfl) e
 | ext φ=>obtain ⟨p,⟨o,e⟩,st⟩:=x;exact ⟨st _ _ p fun o q=>k _ _ (.inl rfl) q,⟨o,k _ _ (.inl rfl) e⟩,st⟩
theorem HOk.lt (x:HOk P w H h)(e:H a=some o):a<h.objs.size:=(x a o e).lt
theorem HOk.fresh (x:HOk P w H h)(e:h.objs.size≤a):H a=none:=by
 cases q:H a with
 | none=>rfl
 | some u=>exact rL (aS (x.lt q) e) (gf _)
theorem HOk.kept (x:HOk P w H h)(k:∀ b u,h.get? b=some u→h'.get? b=some u):HOk P w H h':=fun a o e =>
 (x a o e).stay (fun b u _ q=>k b u q) (fun _ q=>q) fun _ _ q=>q
theorem HOk.laid (x:HOk P w H h)(k:∀ b u,h.get? b=some u→h'.get? b=some u)(hp:h.objs.size≤a)(new:ObjOk P w (upd H a o) h' a o):HOk P w (upd H a o) h':=fun b u e=>by
 have hn:=x.fresh hp
 by_cases hb:b=a
 ·subst hb;rw [aV] at e;cases e;exact new
 ·rw [bC hb] at e
  exact (x b u e).stay (fun c v _ q=>k c v q) (fun c q=>by rw [bC (bH q hn)];exact q) fun c xs q=>by rw [bC (bH q hn)];exact q
end
def Rd (H:Hp)(a:ao)(u:HO):Prop:=H a=some u∨∃ o,H a=some (.frz o u)
theorem Rd.of {H:Hp}{u:HO}(h:H a=some u):Rd H a u:= .inl h
theorem Rd.ok {H:Hp}{u:HO}(r:Rd H a u)(x:HOk P w H h):ObjOk P w H h a u:=by
 rcases r with r | ⟨o,r⟩
 ·exact x a u r
 ·obtain ⟨_,q⟩:=x a _ r
  exact q
def Mut:Option HO→Prop
 | some (.lst _)=>True
 | some (.dK _)=>True
 | some (.dT _)=>True
 | some (.set _ _)=>True
 | some (.ins _ _ _)=>True
 | some (.ext _)=>True
 | _=>False
section
variable {H:Hp}{x e:ao}{o':HO}
theorem HOk.write (ok:HOk P w H h)(mu:Mut (H x))(he:e=x∨H e=some (.own x))(k:∀ b u,b≠e→h.get? b=some u→h'.get? b=some u)(heo:∃ u,h'.get? e=some u)
  (new:ObjOk P w (upd H x o') h' x o'):HOk P w (upd H x o') h':=fun b u q=>by
 have nown:∀ c y,H c=some (.own y)→c≠x:=fun c y r z=>by subst z;rw [r] at mu;exact mu
 have ntup:∀ c xs,H c=some (.tup xs)→c≠x:=fun c xs r z=>by subst z;rw [r] at mu;exact mu
 by_cases hb:b=x
 ·subst hb;rw [aV] at q;cases q;exact new
 ·rw [bC hb] at q
  by_cases hbe:b=e
  ·have q':H b=some (.own x):=by
    rcases he with z | z
    ·exact rL (hbe.trans z) hb
    ·rw [hbe];exact z
   rw [q] at q';cases q';obtain ⟨v,hv⟩:=heo;exact ⟨v,by rw [hbe];exact hv⟩
  ·refine (ok b u q).stay (fun c v hc r=>k c v ?_ r) (fun c r=>by rw [bC (nown c b r)];exact r) fun c xs r=>by rw [bC (ntup c xs r)];exact r
   rcases hc with rfl | hc
   ·exact hbe
   ·rintro rfl
    rcases he with z | z
    ·exact nown c b hc z
    ·rw [hc] at z;cases z;exact hb rfl
end
structure Un (fs ex:List ao)(H H':Hp)(h h':bP):Prop where
 keep:∀ b o,h.get? b=some o→H b=none→b ∉ fs→b ∉ ex→h'.get? b=some o
 slot:∀ b o,h.get? b=some o→H b=none→b∈fs→b ∉ ex→∃ sl,h'.get? b=some { o with slots:=sl }
 free:∀ b o,h.get? b=some o→H b=none→b ∉ ex→H' b=none
 there:∀ b o,h.get? b=some o→b ∉ ex→∃ o',h'.get? b=some o'
 tups:∀ b xs,H b=some (.tup xs)→H' b=some (.tup xs)
 frzs:∀ b o u,H b=some (.frz o u)→H' b=some (.frz o u)
 tbls:∀ b ps,H b=some (.tbl ps)→∃ more,H' b=some (.tbl (ps++more))
section
variable {fs fs' ex ex':List ao}{H H1 H2:Hp}{h1 h2:bP}{x e:ao}{o:HO}
theorem Un.any (u:Un fs ex H H1 h h1){b:ao}{ob:Obj}(q:h.get? b=some ob)(n:H b=none)(hx:b ∉ ex):∃ sl,h1.get? b=some { ob with slots:=sl }:=by
 by_cases hb:b∈fs
 ·exact u.slot b ob q n hb hx
 ·exact ⟨ob.slots,u.keep b ob q n hb hx⟩
theorem Un.kept (k:∀ b u,h.get? b=some u→h'.get? b=some u):Un fs ex H H h h' :=
 ⟨fun b ob q _ _ _=>k b ob q,fun b ob q _ _ _=>⟨ob.slots,k b ob q⟩,fun _ _ _ n _=>n,fun b ob q _=>⟨ob,k b ob q⟩,fun _ _ q=>q,fun _ _ _ q=>q,fun _ ps q=>⟨#[],by rw [q];simp⟩⟩
theorem Un.refl:Un fs ex H H h h:=Un.kept fun _ _ q=>q
theorem Un.laid (k:∀ b u,h.get? b=some u→h'.get? b=some u)(hp:h.objs.size≤a)(hn:H a=none):Un fs ex H (upd H a o) h h' where
 keep:=fun b u q _ _ _=>k b u q
 slot:=fun b u q _ _ _=>⟨u.slots,k b u q⟩
 free:=fun b u q n _=>by rw [bC (bQ (aS (aO q) hp))];exact n
 there:=fun b u q _=>⟨u,k b u q⟩
 tups:=fun b xs q=>by rw [bC (bH q hn)];exact q
 frzs:=fun b u xs q=>by rw [bC (bH q hn)];exact q
 tbls:=fun b ps q=>⟨#[],by rw [bC (bH q hn),q];simp⟩
theorem Un.write (mu:Mut (H x))(he:e=x∨H e=some (.own x))(k:∀ b u,b≠e→h.get? b=some u→h'.get? b=some u)(heo:∃ u,h'.get? e=some u):Un fs ex H (upd H x o) h h':=by
 have hx:∀ b,H b=none→b≠x:=fun b n z=>by subst z;rw [n] at mu;exact mu
 have hb:∀ b,H b=none→b≠e:=fun b n z=>by
  subst z
  rcases he with r | r
  ·exact hx b n r
  ·rw [n] at r;cases r
 have hm:∀ b u,H b=some u→¬ Mut (some u)→b≠x:=fun b u q nm z=>by subst z;rw [q] at mu;exact nm mu
 refine ⟨fun b u q n _ _=>k b u (hb b n) q,fun b u q n _ _=>⟨u.slots,k b u (hb b n) q⟩,fun b u q n _=>by rw [bC (hx b n)];exact n,fun b u q _=>?_,
  fun b xs q=>by rw [bC (hm b _ q fun z=>z)];exact q,fun b u xs q=>by rw [bC (hm b _ q fun z=>z)];exact q,fun b ps q=>⟨#[],by rw [bC (hm b _ q fun z=>z),q];simp⟩⟩
 by_cases hbe:b=e
 ·subst hbe;exact heo
 ·exact ⟨u,k b u hbe q⟩
end
def trk (h:bP)(H:Hp):List ao:=(aQ h.objs.size).filter fun a=>(H a).isSome
def hidT (h:bP)(H:Hp):bP:=PySem.W.hideAll h (trk h H)
theorem hidT_size (h:bP)(H:Hp):(hidT h H).objs.size=h.objs.size:=PySem.W.hideAll_size _ _
theorem hidT_get {H:Hp}{b:ao}{o:Obj}(e:h.get? b=some o)(n:H b=none):(hidT h H).get? b=some o :=
 PySem.W.hideAll_get _ e fun hm=>by
  have q:(H b).isSome=true:=(bW.mp hm).2;rw [n] at q;simp at q
theorem of_hidT {H:Hp}{b:ao}{o:Obj}(e:(hidT h H).get? b=some o):h.get? b=some o∧H b=none:=by
 have e':h.get? b=some o:=PySem.W.of_hideAll (trk h H) e;refine ⟨e',?_⟩;cases q:H b with
 | none=>rfl
 | some x =>
  have hm:b∈trk h H:=bW.mpr ⟨bO.mpr (aO e'),by simp [q]⟩;have z:(hidT h H).get? b=none:=PySem.W.hideAll_none (trk h H) hm;rw [z] at e;cases e
structure Mod (K:aq)(mg:Str→Option ae)(base:bP):Prop where
 kin:K.In base
 glob:base.Ns bU mg
 blt:∃ mb,base.Ns builtinsNs mb∧∀ x:Str,x ≠ "__name__" →mb x=bootBuiltins x
 nolimit:base.NoLimit
structure Cx where
 prog:aY
 w:bE
 K:aq
 mg:Str→Option ae
 base:bP
 A:bZ
 N:List Str
 s₀:au
 H₀:Hp
 env:Env
 outer:List Env
 stack:List Env
 ex:List ao
 fn:Str→Bool
 calm:Bool
 pn:List (ao×Obj)
 xe:ae→au→Prop
def frs (l:List Env):List ao:=l.filterMap (·.frame)
abbrev Cx.fs (X:Cx):List ao:=frs X.outer
def Vis (sc:fH)(x:Str):Prop:=sc.names.lookup x=some .local∨sc.names.lookup x=some .cell∨sc.names.lookup x=some .free
def Loc (sc:fH)(x:Str):Prop:=sc.names.lookup x=some .local∨sc.names.lookup x=some .cell
def Look (env:Env)(h:bP)(m:Str→Option ae)(x:Str)(u:ae):Prop :=
 (env.kindOf x=some .local∧m x=some u)∨((env.kindOf x=some .cell∨env.kindOf x=some .free)∧∃ c,env.cells.lookup x=some c∧h.IsCell c (some u))
structure Cx.Ok (X:Cx):Prop where
 mod:Mod X.K X.mg X.base
 kind:X.env.scope.kind= .function
 glob:X.env.globals=bU
 blt:X.env.builtins=builtinsNs
 above:X.s₀.heap.objs.size≤X.env.locals
 inj:∀ x y c,X.env.cells.lookup x=some c→X.env.cells.lookup y=some c→x=y
 has:∀ x,(X.env.kindOf x=some .cell∨X.env.kindOf x=some .free)→∃ c,X.env.cells.lookup x=some c
 cab:∀ x c,X.fn x=true→X.env.cells.lookup x=some c→X.s₀.heap.objs.size≤c
 hd:X.calm=true→X.A.handled=none
 frames:X.A.frames=some X.stack
 stk:X.stack=X.outer∨(X.stack=X.env::X.outer∧X.env.frame=some X.env.locals)
 exf:∀ b∈X.ex,b≠X.env.locals∧∀ x c,X.env.cells.lookup x=some c→c≠b
 bs:∀ b o,X.base.get? b=some o→X.s₀.heap.get? b=some o∧X.H₀ b=none
 bsz:X.base.objs.size≤X.s₀.heap.objs.size
 noex:∀ b o,X.base.get? b=some o→b ∉ X.ex
 exfs:∀ b∈X.ex,b ∉ X.fs
 funs:X.s₀.heap.FunFrames X.base X.outer
 frf:∀ b∈X.fs,X.H₀ b=none
structure Inv (X:Cx)(aP:List (ao×Obj))(σ:List (Option V))(H:Hp)(s:au):Prop where
 ok:X.Ok
 os:s.os=X.s₀.os
 bare:AllBare s.gens
 base:Un X.fs X.ex X.H₀ H X.s₀.heap s.heap
 loc:∃ m,s.heap.Ns X.env.locals m∧∀ (i:Nat) (x:Str) (v:V),X.N[i]? =some x→σ[i]? =some (some v)→Vis X.env.scope x→∃ u,RelV v u∧Look X.env s.heap m x u
 cell:∀ x c,X.env.cells.lookup x=some c→∃ v,s.heap.IsCell c v
 free:H X.env.locals=none
 freeC:∀ x c,X.env.cells.lookup x=some c→H c=none
 pin:∀ p∈X.pn++aP,s.heap.get? p.1=some p.2∧H p.1=none∧p.1≠X.env.locals∧p.1 ∉ X.fs∧∀ v,p.2.data≠ .cell v
 hok:HOk X.prog X.w H s.heap
 len:σ.length=X.N.length
section
variable {X:Cx}{σ:List (Option V)}{H H':Hp}
theorem Cx.Ok.nofr (ok:X.Ok){b:ao}{o:Obj}(e:X.base.get? b=some o):b ∉ X.fs:=fun hb=>by
 have:=(ok.funs.mem hb).1;rw [e] at this;cases this
theorem Inv.bs (I:Inv X aP σ H s):∀ b o,X.base.get? b=some o→s.heap.get? b=some o∧H b=none:=fun b o e =>
 ⟨I.base.keep b o (I.ok.bs b o e).1 (I.ok.bs b o e).2 (I.ok.nofr e) (I.ok.noex b o e),I.base.free b o (I.ok.bs b o e).1 (I.ok.bs b o e).2 (I.ok.noex b o e)⟩
theorem Inv.bk (I:Inv X aP σ H s):∀ b o,X.base.get? b=some o→s.heap.get? b=some o:=fun b o e=>(I.bs b o e).1
theorem Inv.mod (I:Inv X aP σ H s):Mod X.K X.mg X.base:=I.ok.mod
theorem Inv.kIn (I:Inv X aP σ H s):X.K.In s.heap:=I.ok.mod.kin.keeps I.bk
theorem Inv.nolimit (I:Inv X aP σ H s):s.heap.NoLimit:=I.ok.mod.nolimit.keeps I.bk
theorem Inv.lt (I:Inv X aP σ H s):X.env.locals<s.heap.objs.size:=let ⟨_,hn,_⟩:=I.loc;hn.lt
theorem Inv.sz (I:Inv X aP σ H s):X.s₀.heap.objs.size≤s.heap.objs.size:=bh I.ok.above (iW I.lt)
theorem Inv.nofs (I:Inv X aP σ H s)(h:s.heap.objs.size≤a):a ∉ X.fs:=fun hb=>by
 obtain ⟨_,o,ho,_⟩:=I.ok.funs.mem hb;exact rL (aS (aO ho) (bh I.sz h)) (gf _)
theorem Inv.cne (I:Inv X aP σ H s):∀ x c,X.env.cells.lookup x=some c→c≠X.env.locals:=fun x c e z=>by
 obtain ⟨v,o,ho,hd⟩:=I.cell x c e;obtain ⟨m,⟨o',es,ep,ho',hd',_⟩,_⟩:=I.loc;rw [z,ho'] at ho;cases ho;rw [hd'] at hd;cases hd
theorem Inv.funs (I:Inv X aP σ H s):s.heap.FunFrames X.base X.outer:=by
 have all:∀ (l:List Env),(∀ b∈frs l,b∈X.fs)→X.s₀.heap.FunFrames X.base l→s.heap.FunFrames X.base l:=by
  intro l
  induction l with
  | nil=>intro _ _;trivial
  | cons env r ih =>
   intro hs hl;obtain ⟨hk,⟨L,o,hf,hn,ho,hd⟩,hr⟩:=hl;have hL:L∈X.fs:=hs L (by unfold frs;rw [kr,hf];exact bw);obtain ⟨sl,e⟩:=I.base.slot L o ho (I.ok.frf L hL) hL fun z=>I.ok.exfs L z hL
   exact ⟨hk,⟨L,_,hf,hn,e,hd⟩,ih (fun b hb=>hs b (by unfold frs;rw [kr,hf];exact ay _ hb)) hr⟩
 exact all X.outer (fun _ hb=>hb) I.ok.funs
theorem Inv.stack (I:Inv X aP σ H s):s.heap.FunFrames X.base X.stack:=by
 rcases I.ok.stk with e | ⟨e,hf⟩
 ·rw [e];exact I.funs
 ·rw [e]
  obtain ⟨m,hn,_⟩:=I.loc;refine .cons (by rw [I.ok.kind];decide) hf hn ?_ I.funs;exact bP.get?_none_of_le (bh I.ok.bsz I.ok.above)
theorem Inv.stkSub (I:Inv X aP σ H s):∀ b∈frs X.stack,b∈X.env.locals::X.fs:=fun b hb=>by
 rcases I.ok.stk with e | ⟨e,hf⟩
 ·rw [e] at hb;exact ay _ hb
 ·rw [e] at hb
  unfold frs at hb;rw [kr,hf] at hb;exact hb
theorem Inv.stkFree (I:Inv X aP σ H s):∀ b∈frs X.stack,H b=none:=fun b hb=>by
 rcases aG.mp (I.stkSub b hb) with e | hb
 ·rw [e];exact I.free
 ·obtain ⟨_,o,ho,_⟩:=I.ok.funs.mem hb
  exact I.base.free b o ho (I.ok.frf b hb) fun z=>I.ok.exfs b z hb
theorem Inv.step (I:Inv X aP σ H s)
  (hch:∀ b∈ch,(b∈X.ex∨X.s₀.heap.objs.size≤b)∧b≠X.env.locals∧(∀ x c,X.env.cells.lookup x=some c→c≠b)∧∀ p∈X.pn++aP,p.1≠b)
  (keep:∀ b o,b≠X.env.locals→b ∉ X.fs→b ∉ ch→s.heap.get? b=some o→H b=none→h'.get? b=some o)
  (slot:∀ b o,b≠X.env.locals→b∈X.fs→b ∉ ch→s.heap.get? b=some o→H b=none→∃ sl,h'.get? b=some { o with slots:=sl }) (free:∀ b o,b ∉ ch→s.heap.get? b=some o→H b=none→H' b=none)
  (there:∀ b o,b ∉ ch→s.heap.get? b=some o→∃ o',h'.get? b=some o')
  (tups:∀ b xs,H b=some (.tup xs)→H' b=some (.tup xs)) (frzs:∀ b o u,H b=some (.frz o u)→H' b=some (.frz o u)) (tbls:∀ b ps,H b=some (.tbl ps)→∃ more,H' b=some (.tbl (ps++more)))
  (ns:∀ m,s.heap.Ns X.env.locals m→h'.Ns X.env.locals m) (hok:HOk X.prog X.w H' h') (hg:AllBare g') :
  Inv X aP σ H' { s with heap:=h',gens:=g',drawn:=d',toks:=t' }:=by
 have neL:∀ b o,X.s₀.heap.get? b=some o→b≠X.env.locals:=fun b o e=>bQ (aS (aO e) I.ok.above)
 have neC:∀ b o,X.s₀.heap.get? b=some o→b ∉ X.ex→b ∉ ch:=fun b o e hx hb=>by
  rcases (hch b hb).1 with z | z
  ·exact hx z
  ·exact rL (aS (aO e) z) (gf _)
 have cellK:∀ x c,X.env.cells.lookup x=some c→∀ v,s.heap.IsCell c v→h'.IsCell c v:=fun x c e v ⟨o,ho,hd⟩=>by
  have nch:c ∉ ch:=fun z=>(hch c z).2.2.1 x c e rfl
  by_cases hc:c∈X.fs
  ·obtain ⟨sl,q⟩:=slot c o (I.cne x c e) hc nch ho (I.freeC x c e)
   exact ⟨_,q,hd⟩
  ·exact ⟨o,keep c o (I.cne x c e) hc nch ho (I.freeC x c e),hd⟩
 refine ⟨I.ok,I.os,hg,⟨fun b o e n hb hx=>?_,fun b o e n hb hx=>?_,fun b o e n hx=>?_,fun b o e hx=>?_,fun b xs e=>tups b xs (I.base.tups b xs e),fun b o xs e=>frzs b o xs (I.base.frzs b o xs e),fun b ps e=>?_⟩,?_,fun x c e=>?_,?_,fun x c e=>?_,fun p hp=>?_,hok,I.len⟩
 ·exact keep b o (neL b o e) hb (neC b o e hx) (I.base.keep b o e n hb hx) (I.base.free b o e n hx)
 ·obtain ⟨sl,e1⟩:=I.base.slot b o e n hb hx
  obtain ⟨sl',e2⟩:=slot b _ (neL b o e) hb (neC b o e hx) e1 (I.base.free b o e n hx);exact ⟨sl',e2⟩
 ·obtain ⟨o',e1⟩:=I.base.there b o e hx
  exact free b o' (neC b o e hx) e1 (I.base.free b o e n hx)
 ·obtain ⟨o',e1⟩:=I.base.there b o e hx
  exact there b o' (neC b o e hx) e1
 ·obtain ⟨m1,e1⟩:=I.base.tbls b ps e
  obtain ⟨m2,e2⟩:=tbls b _ e1;exact ⟨m1++m2,by rw [e2,Array.append_assoc]⟩
 ·obtain ⟨m,hn,hl⟩:=I.loc
  refine ⟨m,ns m hn,fun i x v e1 e2 e3=>?_⟩;obtain ⟨u,r,l⟩:=hl i x v e1 e2 e3;refine ⟨u,r,?_⟩
  rcases l with l | ⟨k,c,e,z⟩
  ·exact .inl l
  ·exact .inr ⟨k,c,e,cellK x c e _ z⟩
 ·obtain ⟨v,z⟩:=I.cell x c e
  exact ⟨v,cellK x c e v z⟩
 ·obtain ⟨m,⟨o,_,_,ho,_⟩,_⟩:=I.loc
  exact free _ o (fun z=>(hch _ z).2.1 rfl) ho I.free
 ·obtain ⟨v,o,ho,hd⟩:=I.cell x c e
  exact free c o (fun z=>(hch c z).2.2.1 x c e rfl) ho (I.freeC x c e)
 ·obtain ⟨e,n,ne,nf,d⟩:=I.pin p hp
  have nch:p.1 ∉ ch:=fun z=>(hch p.1 z).2.2.2 p hp rfl
  exact ⟨keep p.1 p.2 ne nf nch e n,free p.1 p.2 nch e n,ne,nf,d⟩
theorem Inv.un (I:Inv X aP σ H s)(u:Un X.fs [] H H' s.heap h')(hok:HOk X.prog X.w H' h'):Inv X aP σ H' { s with heap:=h',toks:=t' }:=by
 obtain ⟨m,⟨o,es,ep,ho,r⟩,_⟩:=id I.loc;obtain ⟨sl,hL⟩:=u.any ho I.free (by simp);exact I.step (g':=s.gens) (d':=s.drawn) (ch:=[]) (fun _ z=>nomatch z) (fun b o _ hb _ e n=>u.keep b o e n hb (by simp)) (fun b o _ hb _ e n=>u.slot b o e n hb (by simp)) (fun b o _ e n=>u.free b o e n (by simp)) (fun b o _ e=>u.there b o e (by simp)) u.tups u.frzs u.tbls (fun m' hm=>by
  obtain ⟨o',es',ep',ho',r'⟩:=hm;rw [ho] at ho';cases ho';exact ⟨_,es',ep',hL,r'⟩) hok I.bare
theorem Inv.call (I:Inv X aP σ H s)(u:Un (frs X.stack) ch H H' s.heap h')(hok:HOk X.prog X.w H' h')(hg:AllBare g')
  (hch:∀ b∈ch,(b∈X.ex∨X.s₀.heap.objs.size≤b)∧b≠X.env.locals∧(∀ x c,X.env.cells.lookup x=some c→c≠b)∧∀ p∈X.pn++aP,p.1≠b) :
  Inv X aP σ H' { s with heap:=h',gens:=g',drawn:=d',toks:=t' }:=by
 obtain ⟨m,⟨o,es,ep,ho,r⟩,_⟩:=id I.loc;obtain ⟨sl,hL⟩:=u.any ho I.free fun z=>(hch _ z).2.1 rfl
 exact I.step (ch:=ch) hch (fun b o hL hb hc e n=>u.keep b o e n (fun z=>(aG.mp (I.stkSub b z)).elim hL hb) hc) (fun b o _ _ hc e n=>u.any e n hc) (fun b o hc e n=>u.free b o e n hc) (fun b o hc e=>u.there b o e hc) u.tups u.frzs u.tbls (fun m' hm=>by
  obtain ⟨o',es',ep',ho',r'⟩:=hm;rw [ho] at ho';cases ho';exact ⟨_,es',ep',hL,r'⟩) hok hg
theorem Inv.turned {it:ao}(I:Inv X aP σ H s)(k:∀ b o,b≠it→s.heap.get? b=some o→h'.get? b=some o)(hn:H it=none)(hL:it≠X.env.locals)
  (h1:it∈X.ex∨X.s₀.heap.objs.size≤it) (h2:∀ x c,X.env.cells.lookup x=some c→c≠it) (h3:∀ p∈X.pn++aP,p.1≠it):Inv X aP σ H { s with heap:=h',toks:=t' }:=by
 have nit:∀ b u,H b=some u→b≠it:=fun b u e z=>by rw [z,hn] at e;cases e
 refine I.step (g':=s.gens) (d':=s.drawn) (ch:=[it]) (fun b hb=>?_) (fun b o _ _ hc e _=>k b o (fun z=>hc (by simp [z])) e) (fun b o _ _ hc e _=>⟨o.slots,k b o (fun z=>hc (by simp [z])) e⟩) (fun _ _ _ _ n=>n)
  (fun b o hc e=>⟨o,k b o (fun z=>hc (by simp [z])) e⟩) (fun _ _ e=>e) (fun _ _ _ e=>e) (fun b ps e=>⟨#[],by rw [e];simp⟩) (fun m hm=>?_) (fun b u e=>?_) I.bare
 ·have e:b=it:=by simpa using hb
  subst e;exact ⟨h1,hL,h2,h3⟩
 ·obtain ⟨o,es,ep,ho,r⟩:=hm
  exact ⟨o,es,ep,k _ o (cN hL) ho,r⟩
 ·refine (I.hok b u e).stay (fun c v hc q=>k c v ?_ q) (fun _ q=>q) fun _ _ q=>q
  rcases hc with z | z
  ·rw [z];exact nit b u e
  ·exact nit c _ z
theorem Inv.tok (I:Inv X aP σ H s)(t:Nat):Inv X aP σ H { s with toks:=t }:=I.un (h':=s.heap) (t':=t) Un.refl I.hok
theorem Inv.kept (I:Inv X aP σ H s)(k:∀ b u,s.heap.get? b=some u→h'.get? b=some u):Inv X aP σ H { s with heap:=h',toks:=t' }:=I.un (Un.kept k) (I.hok.kept k)
theorem Inv.laid {o:HO}(I:Inv X aP σ H s)(k:∀ b u,s.heap.get? b=some u→h'.get? b=some u)(hp:s.heap.objs.size≤a)(new:ObjOk X.prog X.w (upd H a o) h' a o) :
  Inv X aP σ (upd H a o) { s with heap:=h',toks:=t' }:=I.un (Un.laid k hp (I.hok.fresh hp)) (I.hok.laid k hp new)
theorem Inv.write {x e:ao}{o:HO}(I:Inv X aP σ H s)(mu:Mut (H x))(he:e=x∨H e=some (.own x))(k:∀ b u,b≠e→s.heap.get? b=some u→h'.get? b=some u)(heo:∃ u,h'.get? e=some u)
  (new:ObjOk X.prog X.w (upd H x o) h' x o):Inv X aP σ (upd H x o) { s with heap:=h',toks:=t' }:=I.un (Un.write mu he k heo) (I.hok.write mu he k heo new)
theorem Inv.pins_of (I:Inv X aP σ H s)(h:∀ p∈pins',s.heap.get? p.1=some p.2∧H p.1=none∧p.1≠X.env.locals∧p.1 ∉ X.fs∧∀ v,p.2.data≠ .cell v):Inv X pins' σ H s :=
 ⟨I.ok,I.os,I.bare,I.base,I.loc,I.cell,I.free,I.freeC,fun p hp=>(aN.mp hp).elim (fun z=>I.pin p (aM _ z)) (h p),I.hok,I.len⟩
theorem nodup_ix (hN:N.Nodup)(a:N[i]? =some x)(b:N[j]? =some x):i=j:=by
 obtain ⟨h1,e1⟩:=ak.mp a;obtain ⟨h2,e2⟩:=ak.mp b;exact (List.getElem_inj hN).mp (e1.trans e2.symm)
theorem store_ok2 {v:V}{Q:Unit→au→Prop}(I:Inv X aP σ H s)(hN:X.N.Nodup)(hi:X.N[i]? =some x)(hx:Loc X.env.scope x)(r:RelV v u)
  (h:∀ s',Inv X aP (σ.set i (some v)) H s'→(∃ a,d9 a s.heap s'.heap∧(a=X.env.locals∨X.env.cells.lookup x=some a))→Q () s') (hf:X.fn x=true∨X.env.scope.names.lookup x=some .local:=by first | exact .inl rfl | exact .inr rfl | assumption):aW M A (storeName X.env x u) Q E s:=by
 obtain ⟨m,hn,hl⟩:=id I.loc;have hcls:(X.env.scope.kind == .class || (X.env.scope.kind == .module && X.env.locals != X.env.globals))=false:=by rw [I.ok.kind];rfl
 have hiσ:i<σ.length:=by rw [I.len];exact (ak.mp hi).1
 have cne:=I.cne;have tracked:∀ {a:ao} {h':bP},(∃ o,s.heap.get? a=some o∧H a=none)→d9 a s.heap h'→HOk X.prog X.w H h':=fun {a h'} ha hs b ob e=>by
  obtain ⟨_,_,hfree⟩:=ha;refine (I.hok b ob e).stay (fun c w' hc q=>(hs.2 c ?_).trans q) (fun _ q=>q) fun _ _ q=>q
  rintro rfl
  rcases hc with rfl | hc
  ·rw [hfree] at e;cases e
  ·rw [hfree] at hc;cases hc
 rcases hx with hk | hk
 ·refine wpAny_storeName_local hk hn (fun h' hn' hs=>?_) hcls
  obtain ⟨oL,_,_,hoL,_⟩:=id hn;refine h _ ⟨I.ok,I.os,I.bare,⟨fun b o e n hb hx=>?_,fun b o e n hb hx=>?_,I.base.free,fun b o e hx=>?_,I.base.tups,I.base.frzs,I.base.tbls⟩,⟨_,hn',fun j y v' e1 e2 e3=>?_⟩,fun y c e=>?_,I.free,I.freeC,fun p hp=>?_,tracked ⟨oL,hoL,I.free⟩ hs,by simpa using I.len⟩ ⟨_,hs,.inl rfl⟩
  ·exact (hs.2 b (bQ (aS (aO e) I.ok.above))).trans (I.base.keep b o e n hb hx)
  ·obtain ⟨sl,e1⟩:=I.base.slot b o e n hb hx
   exact ⟨sl,(hs.2 b (bQ (aS (aO e) I.ok.above))).trans e1⟩
  ·obtain ⟨o',e1⟩:=I.base.there b o e hx
   exact ⟨o',(hs.2 b (bQ (aS (aO e) I.ok.above))).trans e1⟩
  ·by_cases hj:j=i
   ·subst hj
    rw [hi] at e1;cases e1;rw [d8 hiσ] at e2;cases e2;exact ⟨u,r,.inl ⟨hk,by simp⟩⟩
   ·rw [dX (cN hj)] at e2
    obtain ⟨u',r',q⟩:=hl j y v' e1 e2 e3;refine ⟨u',r',?_⟩
    rcases q with ⟨k,e⟩ | ⟨k,c,e,z⟩
    ·refine .inl ⟨k,?_⟩
     have:y≠x:=fun e=>hj (nodup_ix hN e1 (e ▸ hi))
     simp [this,e]
    ·exact .inr ⟨k,c,e,z.sameBut hs (cne y c e)⟩
  ·obtain ⟨w',z⟩:=I.cell y c e
   exact ⟨w',z.sameBut hs (cne y c e)⟩
  ·obtain ⟨e,n,ne,nf,d⟩:=I.pin p hp
   exact ⟨(hs.2 p.1 ne).trans e,n,ne,nf,d⟩
 ·have hfn:X.fn x=true:=by
   rcases hf with z | z
   ·exact z
   ·rw [z] at hk;cases hk
  obtain ⟨c,hc⟩:=I.ok.has x (.inl hk);obtain ⟨w',z⟩:=I.cell x c hc;refine wpAny_storeName_cell I.ok.kind hk hc z (fun h' hc' hs=>?_);obtain ⟨oc,hoc,hocd⟩:=id z;refine h { s with heap:=h' } ⟨I.ok,I.os,I.bare,⟨fun b o e n hb hx=>?_,fun b o e n hb hx=>?_,I.base.free,fun b o e hx=>?_,I.base.tups,I.base.frzs,I.base.tbls⟩,⟨m,hn.sameBut hs (cN (cne x c hc)),fun j y v' e1 e2 e3=>?_⟩,fun y c' e=>?_,I.free,I.freeC,fun p hp=>?_,tracked ⟨oc,hoc,I.freeC x c hc⟩ hs,by simpa using I.len⟩ ⟨c,hs,.inr hc⟩
  ·exact (hs.2 b (bQ (aS (aO e) (I.ok.cab x c hfn hc)))).trans (I.base.keep b o e n hb hx)
  ·obtain ⟨sl,e1⟩:=I.base.slot b o e n hb hx
   exact ⟨sl,(hs.2 b (bQ (aS (aO e) (I.ok.cab x c hfn hc)))).trans e1⟩
  ·obtain ⟨o',e1⟩:=I.base.there b o e hx
   exact ⟨o',(hs.2 b (bQ (aS (aO e) (I.ok.cab x c hfn hc)))).trans e1⟩
  ·by_cases hj:j=i
   ·subst hj
    rw [hi] at e1;cases e1;rw [d8 hiσ] at e2;cases e2;exact ⟨u,r,.inr ⟨.inl hk,c,hc,hc'⟩⟩
   ·rw [dX (cN hj)] at e2
    obtain ⟨u',r',q⟩:=hl j y v' e1 e2 e3;refine ⟨u',r',?_⟩
    rcases q with q | ⟨k,c',e,z'⟩
    ·exact .inl q
    ·refine .inr ⟨k,c',e,z'.sameBut hs ?_⟩
     rintro rfl;exact hj (nodup_ix hN e1 (I.ok.inj _ _ _ e hc ▸ hi))
  ·by_cases hcc:c'=c
   ·subst hcc;exact ⟨_,hc'⟩
   ·obtain ⟨w2,z2⟩:=I.cell y c' e
    exact ⟨w2,z2.sameBut hs hcc⟩
  ·obtain ⟨e,n,ne,nf,d⟩:=I.pin p hp
   refine ⟨(hs.2 p.1 ?_).trans e,n,ne,nf,d⟩;intro q;rw [q,hoc] at e;have q':oc=p.2:=cG e;exact d w' (by rw [←q'];exact hocd)
theorem store_ok {v:V}{Q:Unit→au→Prop}(I:Inv X aP σ H s)(hN:X.N.Nodup)(hi:X.N[i]? =some x)(hx:Loc X.env.scope x)(r:RelV v u)
  (h:∀ s',Inv X aP (σ.set i (some v)) H s'→Q () s') (hf:X.fn x=true∨X.env.scope.names.lookup x=some .local:=by first | exact .inl rfl | exact .inr rfl | assumption):aW M A (storeName X.env x u) Q E s :=
 store_ok2 I hN hi hx r (fun s' I' _=>h s' I') hf
theorem Inv.call' (I:Inv X aP σ H s)(ho:s'.os=s.os)(u:Un (frs X.stack) ch H H' s.heap s'.heap)(hok:HOk X.prog X.w H' s'.heap)(hg:AllBare s'.gens)
  (hch:∀ b∈ch,(b∈X.ex∨X.s₀.heap.objs.size≤b)∧b≠X.env.locals∧(∀ x c,X.env.cells.lookup x=some c→c≠b)∧∀ p∈X.pn++aP,p.1≠b):Inv X aP σ H' s':=by
 obtain ⟨h',g',d',t',o'⟩:=s';have e:o'=s.os:=ho;subst e;exact I.call (g':=g') (t':=t') (d':=d') u hok hg hch
end
abbrev XK:=ae→Option ao→Hp→Prop
abbrev St:=List (Option V)
abbrev VK:=V→Hp→Prop
abbrev TE:=St→Hp→VK→Prop
abbrev TT:=St→Hp→(Bool→Hp→Prop)→Prop
abbrev TA:=St→Hp→(List V→Hp→Prop)→Prop
end L2
variable {H H' H1 H2 Hc:L2.Hp}{Hf:L2.Hp→Prop}{X:L2.Cx}{kvs:List (List L2.Key×L2.V)}{o:L2.HO}{r r':L2.V→Option Int→Option Int→L2.Hp→L2.VK→Prop}{t:L2.TA}{ta te tl:L2.TE}{tget:L2.V→L2.V→L2.Hp→L2.VK→Prop}{trs:List (L2.TE×L2.TE)}{tt:L2.TT}{v y:L2.V}{xs ys zs:List L2.V}{σ:L2.St}
namespace L2
open PySem PySem.Spec PyProof.Rows
structure lh where
 nx:St→Hp→Prop
 rt:VK
 bk:St→Hp→Prop:=fun _ _=>False
 ct:St→Hp→Prop:=fun _ _=>False
abbrev TS:=lh→St→Hp→Prop
def EP (X:Cx)(aP:List (ao×Obj))(σ:St)(Q:VK)(u:ae)(s':au):Prop:=∃ v H',Inv X aP σ H' s'∧RelV v u∧Q v H'
def TP (X:Cx)(aP:List (ao×Obj))(σ:St)(Q:Bool→Hp→Prop)(b:Bool)(s':au):Prop:=∃ H',Inv X aP σ H' s'∧Q b H'
def AP (X:Cx)(aP:List (ao×Obj))(σ:St)(Q:List V→Hp→Prop)(us:List ae)(s':au):Prop:=∃ vs H',Inv X aP σ H' s'∧Vals vs us∧Q vs H'
def SP (X:Cx)(aP:List (ao×Obj))(D:lh)(f:Flow)(s':au):Prop :=
 match f with
 | .next=>∃ σ' H',Inv X aP σ' H' s'∧D.nx σ' H'
 | .brk=>∃ σ' H',Inv X aP σ' H' s'∧D.bk σ' H'
 | .cont=>∃ σ' H',Inv X aP σ' H' s'∧D.ct σ' H'
 | .ret u=>∃ v σ' H',Inv X aP σ' H' s'∧RelV v u∧D.rt v H'
def PE (X:Cx)(e:Expr)(t:TE):Prop :=
 ∀ (aP:List (ao×Obj)) (s:au) (σ:St) (H:Hp) (Q:VK),Inv X aP σ H s→t σ H Q→aW (bx X.prog X.w) X.A (eP e X.env) (EP X aP σ Q) X.xe s
def PT (X:Cx)(e:Expr)(t:TT):Prop :=
 ∀ (aP:List (ao×Obj)) (s:au) (σ:St) (H:Hp) (Q:Bool→Hp→Prop),Inv X aP σ H s→t σ H Q→aW (bx X.prog X.w) X.A (isTrue e X.env (eP e X.env)) (TP X aP σ Q) X.xe s
def PW (X:Cx)(e:Expr)(t:TT):Prop :=
 ∀ (whole:Sem ae) (aP:List (ao×Obj)) (s:au) (σ:St) (H:Hp) (Q:Bool→Hp→Prop),Inv X aP σ H s→t σ H Q→aW (bx X.prog X.w) X.A (isTrue e X.env whole) (TP X aP σ Q) X.xe s
theorem PW.pt {t:TT}(h:PW X e t):PT X e t:=h _
def PA (X:Cx)(es:List Expr)(t:TA):Prop :=
 ∀ (pos:Pos) (aP:List (ao×Obj)) (s:au) (σ:St) (H:Hp) (Q:List V→Hp→Prop),Inv X aP σ H s→t σ H Q→aW (bx X.prog X.w) X.A (spliced (gF pos (bD es X.env))) (AP X aP σ Q) X.xe s
def PS (X:Cx)(st:cU)(t:TS):Prop :=
 ∀ (aP:List (ao×Obj)) (s:au) (σ:St) (H:Hp) (D:lh),Inv X aP σ H s→t D σ H→aW (bx X.prog X.w) X.A (exec st X.env) (SP X aP D) X.xe s
def PSs (X:Cx)(st:List cU)(t:TS):Prop :=
 ∀ (aP:List (ao×Obj)) (s:au) (σ:St) (H:Hp) (D:lh),Inv X aP σ H s→t D σ H→aW (bx X.prog X.w) X.A (execs st X.env) (SP X aP D) X.xe s
theorem thn {t:Sem α}{Q Q':α→au→Prop}(h:aW M A t Q E s)(hQ:∀ a s,Q a s→Q' a s):aW M A t Q' E s:=cx h hQ fun _ _ x=>x
section
inductive HasV (o:Option (Option V))(k:V→Prop):Prop
 | mk (v:V)(h:o=some (some v))(q:k v):HasV o k
inductive IsBl (x:V)(k:Bool→Prop):Prop
 | mk (c:Bool)(h:x= .bl c)(q:k c):IsBl x k
def tVar (i:Nat):TE:=fun σ H Q=>HasV σ[i]? fun v=>Q v H
def tC (v:V):TE:=fun _ H Q=>Q v H
theorem pe_var (hN:X.N[i]? =some x)(hv:Vis X.env.scope x)(hd:(x == ("__debug__" :Str))=false:=by decide)(hcd:(x == ("__classdict__" :Str))=false:=by decide):PE X (.Name x pos) (tVar i):=by
 intro aP s σ H Q I h;obtain ⟨v,e,h⟩:=h;obtain ⟨m,hn,hl⟩:=I.loc;obtain ⟨u,r,l⟩:=hl i x v hN e hv;have fin:EP X aP σ Q u s:=⟨v,H,I,r,h⟩
 rcases l with ⟨hk,hm⟩ | ⟨hk,c,hc,iU⟩
 ·exact wpAny_Name (wpAny_loadName_local I.ok.kind hk hn hm fin) hd
 ·rcases hk with hk | hk
  ·exact wpAny_Name (wpAny_loadName_cell I.ok.kind hk hc iU fin) hd
  ·exact wpAny_Name (wpAny_loadName_free I.ok.kind hk hc iU fin hcd) hd
theorem bo {i j pos}:PE X (.Constant (.int i) j pos) (tC (.int i)):=fun _ _ _ H _ I h=>wpAny_Constant_int ⟨.int i,H,I.tok _,⟨_,rfl⟩,h⟩
theorem k4 {b j pos}:PE X (.Constant (.bool b) j pos) (tC (.bl b)):=fun _ _ _ H _ I h=>Constant_bool ⟨.bl b,H,I,rfl,h⟩
theorem iJ {j pos}:PE X (.Constant .none j pos) (tC .non):=fun _ _ _ H _ I h=>Constant_none ⟨.non,H,I,rfl,h⟩
theorem kf {x j pos}:PE X (.Constant (.str x) j pos) (tC (.str x)):=fun _ _ _ H _ I h=>Calls.Constant_str ⟨.str x,H,I.tok _,⟨_,rfl⟩,h⟩
def Gl (X:Cx)(x:Str):Prop:=X.env.kindOf x=some .globalImplicit
theorem ld_glob (I:Inv X aP σ H s)(hg:Gl X x)(hm:X.mg x=some u)(h:Q u s)
  (hd:(x == ("__debug__" :Str))=false:=by decide):aW (bx X.prog X.w) X.A (eP (.Name x pos) X.env) Q E s :=
 Calls.Name_function_global I.ok.kind hg (Calls.loadGlobal_global (by rw [I.ok.glob];exact I.mod.glob.keeps I.bk) hm h) hd
theorem lU (I:Inv X aP σ H s)(hg:Gl X x)(hm:X.mg x=none)(hv:bootBuiltins x=some u)(h:Q u s)
  (hn:x ≠ "__name__" := by decide) (hd:(x == ("__debug__" :Str))=false:=by decide):aW (bx X.prog X.w) X.A (eP (.Name x pos) X.env) Q E s:=by
 obtain ⟨mb,h1,h2⟩:=I.mod.blt;exact Calls.Name_function_global I.ok.kind hg (Calls.loadGlobal_builtin (by rw [I.ok.glob];exact I.mod.glob.keeps I.bk) hm (by rw [I.ok.blt];exact h1.keeps I.bk) ((h2 x hn).trans hv) h) hd
theorem pe_glob (hg:Gl X x)(hm:X.mg x=some u)(r:RelV v u)(hd:(x == ("__debug__" :Str))=false:=by decide):PE X (.Name x pos) (tC v) :=
 fun _ _ _ H _ I h=>ld_glob I hg hm ⟨v,H,I,r,h⟩ hd
theorem pe_bltn (hg:Gl X x)(hm:X.mg x=none)(hv:bootBuiltins x=some u)(r:RelV v u)(hn:x ≠ "__name__" := by decide)(hd:(x == ("__debug__" :Str))=false:=by decide):PE X (.Name x pos) (tC v) :=
 fun _ _ _ H _ I h=>lU I hg hm hv ⟨v,H,I,r,h⟩ hn hd
variable {a b:Expr}{tb:TE}
def PC (X:Cx)(op:CmpOp)(a b:Expr)(t:TE):Prop :=
 ∀ (aP:List (ao×Obj)) (s:au) (σ:St) (H:Hp) (Q:VK),Inv X aP σ H s→t σ H Q →
  aW (bx X.prog X.w) X.A (eP a X.env) (fun v s₁=>aW (bx X.prog X.w) X.A (eP b X.env) (fun u s₂=>aW (bx X.prog X.w) X.A (fB op v u) (EP X aP σ Q) X.xe s₂) X.xe s₁) X.xe s
def tB (t:TE):TT:=fun σ H Q=>t σ H fun x H1=>IsBl x fun c=>Q c H1
theorem pt_cmp {t:TE}(h:PC X op a b t)(h1:behindInMarks op b=false:=by first | exact nobehind _ (by decide) (by decide) | rfl):PT X (.Compare a [op] [b] pos) (tB t):=by
 intro aP s σ H Q I hw;refine wpAny_isTrue_Compare1 (thn (h aP s σ H _ I hw) fun v s1 h1=>thn h1 fun u s2 h2=>thn h2 fun c s3 ⟨x,H1,I1,r1,q1⟩=>?_) h1;obtain ⟨d,rfl,q⟩:=q1;cases r1;exact fW ⟨H1,I1,q⟩
theorem gj {t:TE}(h:PE X e t)(he:∀ whole,isTrue e X.env whole=(do let v ← whole;standAt e.pos;holding [v] (truthy v)):=by intro _;rfl):PT X e (tB t):=by
 intro aP s σ H Q I hw;refine isTrue_plain (thn (h aP s σ H _ I hw) fun v s1 ⟨x,H1,I1,r1,q1⟩=>?_) (he _);obtain ⟨d,rfl,q⟩:=q1;cases r1;exact fW ⟨H1,I1,q⟩
variable {tA tB':TT} {rest:List Expr}
def tAnd (t u:TT):TT:=fun σ H Q=>t σ H fun c H1=>if c=true then u σ H1 Q else Q false H1
def tOr (t u:TT):TT:=fun σ H Q=>t σ H fun c H1=>if c=true then Q true H1 else u σ H1 Q
def tNot (t:TT):TT:=fun σ H Q=>t σ H fun c H1=>Q (!c) H1
theorem pw_and1 (ha:PT X a tA):PW X (.BoolOp .And [a] pos) tA:=by
 intro wh aP s σ H Q I h;refine isTrue_and (thn (ha aP s σ H Q I h) fun c s1 e=>?_);cases c with
 | true=>exact isTrue_and_nil e
 | false=>exact e
theorem jD (ha:PT X a tA):PW X (.BoolOp .Or [a] pos) tA:=by
 intro wh aP s σ H Q I h;refine isTrue_or (thn (ha aP s σ H Q I h) fun c s1 e=>?_);cases c with
 | false=>exact isTrue_or_nil e
 | true=>exact e
theorem pw_and (ha:PT X a tA)(hb:PW X (.BoolOp .And (b::rest) pos) tB'):PW X (.BoolOp .And (a::b::rest) pos) (tAnd tA tB'):=by
 intro wh aP s σ H Q I h;refine isTrue_and (thn (ha aP s σ H _ I h) fun c s1 ⟨H1,I1,q1⟩=>?_);cases c with
 | true=>exact hb wh aP s1 σ H1 Q I1 q1
 | false=>exact ⟨H1,I1,q1⟩
theorem jd (ha:PT X a tA)(hb:PW X (.BoolOp .Or (b::rest) pos) tB'):PW X (.BoolOp .Or (a::b::rest) pos) (tOr tA tB'):=by
 intro wh aP s σ H Q I h;refine isTrue_or (thn (ha aP s σ H _ I h) fun c s1 ⟨H1,I1,q1⟩=>?_);cases c with
 | true=>exact ⟨H1,I1,q1⟩
 | false=>exact hb wh aP s1 σ H1 Q I1 q1
theorem gM (ha:PT X a tA):PT X (.UnaryOp .Not a pos) (tNot tA):=by
 intro aP s σ H Q I h;exact isTrue_not (ha aP s σ H (fun c H1=>Q (!c) H1) I h)
def tAndV (ta tb:TE):TE:=fun σ H Q=>ta σ H fun x H1=>IsBl x fun c=>if c=true then tb σ H1 Q else Q (.bl false) H1
def tNotV (ta:TE):TE:=fun σ H Q=>ta σ H fun x H1=>IsBl x fun c=>Q (.bl (!c)) H1
theorem pe_one {op}{t:TE}(h:PE X a t):PE X (.BoolOp op [a] pos) t:=fun aP s σ H Q I hw=>BoolOp_one (h aP s σ H Q I hw)
theorem p5 (ha:PE X a ta)(hb:PE X (.BoolOp .And (b::rest) pos) tb):PE X (.BoolOp .And (a::b::rest) pos) (tAndV ta tb):=by
 intro aP s σ H Q I h;refine BoolOp_and (thn (ha aP s σ H _ I h) fun v s1 ⟨x,H1,I1,r1,q1⟩=>?_);obtain ⟨c,rfl,q1⟩:=q1;cases r1;refine fW ?_;cases c with
 | true=>exact hb aP s1 σ H1 Q I1 q1
 | false=>exact ⟨.bl false,H1,I1,rfl,q1⟩
theorem pe_not (ha:PE X a ta):PE X (.UnaryOp .Not a pos) (tNotV ta):=by
 intro aP s σ H Q I h;refine UnaryOp_ (thn (ha aP s σ H _ I h) fun v s1 ⟨x,H1,I1,r1,q1⟩=>?_);obtain ⟨c,rfl,q1⟩:=q1;cases r1;exact not_of (fW ⟨.bl (!c),H1,I1,rfl,q1⟩)
def tIf (t:TT)(ta tb:TE):TE:=fun σ H Q=>t σ H fun c H1=>if c=true then ta σ H1 Q else tb σ H1 Q
theorem l5 {c:Expr}(hc:PT X c tA)(ha:PE X a ta)(hb:PE X b tb):PE X (.IfExp c a b pos) (tIf tA ta tb):=by
 intro aP s σ H Q I h;refine wpAny_IfExp (thn (hc aP s σ H _ I h) fun d s1 ⟨H1,I1,q1⟩=>?_);cases d with
 | true=>exact ha aP s1 σ H1 Q I1 q1
 | false=>exact hb aP s1 σ H1 Q I1 q1
end
def SqL (K:aq)(H:Hp)(a:ao)(xs:List V):Prop :=
 Rd H a (.lst xs) ∨
  ∃ (o:Obj) (its:Array ae) (n:Nat),K.lookup a=some o∧o.cls= .type "list" ∧o.dict=none∧o.data= .seq its n∧its.size≤bp∧Vals xs its.toList
def SqT (K:aq)(H:Hp)(a:ao)(xs:List V):Prop :=
 Rd H a (.tup xs) ∨
  ∃ (o:Obj) (its:Array ae) (n:Nat),K.lookup a=some o∧o.cls= .type "tuple" ∧o.data= .seq its n∧its.size≤bp∧Vals xs its.toList
def absV:ae→Option V
 | .none=>some .non
 | .bool b=>some (.bl b)
 | .int i _=>some (.int i)
 | .str x _=>some (.str x)
 | .bytes b _=>some (.byt b)
 | .float b _=>some (.flt b)
 | .ref a=>some (.ref a)
 | .type n=>some (.ty n)
 | _=>none
theorem RelV.abs {x:V}(r:RelV x u):absV u=some x:=by
 cases x with
 | non=>cases r;rfl
 | bl _=>cases r;rfl
 | int _=>obtain ⟨t,rfl⟩:=r;rfl
 | str _=>obtain ⟨t,rfl⟩:=r;rfl
 | byt _=>obtain ⟨t,rfl⟩:=r;rfl
 | flt _=>obtain ⟨t,rfl⟩:=r;rfl
 | ref _=>cases r;rfl
 | ty _=>cases r;rfl
theorem RelV.inj {x:V}(r:RelV x u)(q:RelV y u):x=y:=cG (r.abs.symm.trans q.abs)
theorem Vals.inj:∀ {xs ys:List V} {us:List ae},Vals xs us→Vals ys us→xs=ys
 | _,_,_,.nil,.nil=>rfl
 | _,_,_,.cons r t,.cons r' t'=>by rw [r.inj r',Vals.inj t t']
theorem SqL.of (h:H a=some (.lst xs)):SqL K H a xs:= .inl (.inl h)
theorem SqT.of (h:H a=some (.tup xs)):SqT K H a xs:= .inl (.inl h)
theorem Inv.list (I:Inv X aP σ H s)(h:SqL X.K H a xs):∃ its:List ae,Vals xs its∧PlainL s.heap a its.toArray∧xs.length≤bp:=by
 rcases h with h | ⟨o,its,n,hk,hc,hd,hs,hz,r⟩
 ·obtain ⟨z,its,n,r,e⟩:=h.ok I.hok
  exact ⟨its,r,⟨_,n,e,rfl,rfl,rfl⟩,z⟩
 ·refine ⟨its.toList,r,⟨o,n,I.kIn a o hk,hc,hd,by simpa using hs⟩,?_⟩
  have e:=r.length;simp only [cq] at e;lia
theorem Inv.tuple (I:Inv X aP σ H s)(h:SqT X.K H a xs):∃ its:List ae,Vals xs its∧IsTup s.heap a its.toArray∧xs.length≤bp:=by
 rcases h with h | ⟨o,its,n,hk,hc,hs,hz,r⟩
 ·obtain ⟨z,its,r,p⟩:=h.ok I.hok
  exact ⟨its,r,p.tup,z⟩
 ·refine ⟨its.toList,r,⟨o,I.kIn a o hk,hc,n,by simpa using hs⟩,?_⟩
  have e:=r.length;simp only [cq] at e;lia
theorem Inv.list_inj (I:Inv X aP σ H s)(h:SqL X.K H a xs)(h':SqL X.K H a ys):xs=ys:=by
 obtain ⟨its,r,⟨o,n,e,_,_,d⟩,_⟩:=I.list h;obtain ⟨its',r',⟨o',n',e',_,_,d'⟩,_⟩:=I.list h';rw [e] at e';cases e';rw [d] at d';injection d' with d1 _
 have:its=its':=by simpa using rQ Array.toList d1
 subst this;exact r.inj r'
theorem Inv.tuple_inj (I:Inv X aP σ H s)(h:SqT X.K H a xs)(h':SqT X.K H a ys):xs=ys:=by
 obtain ⟨its,r,⟨o,e,_,n,d⟩,_⟩:=I.tuple h;obtain ⟨its',r',⟨o',e',_,n',d'⟩,_⟩:=I.tuple h';rw [e] at e';cases e';rw [d] at d';injection d' with d1 _
 have:its=its':=by simpa using rQ Array.toList d1
 subst this;exact r.inj r'
abbrev Cx.wish (X:Cx)(E:ae→au→Prop):Cx:={ X with xe:=E }
abbrev Cx.nox (X:Cx):Cx:=X.wish fun _ _=>False
theorem Cx.Ok.wish (ok:X.Ok)(E:ae→au→Prop):(X.wish E).Ok :=
 ⟨ok.mod,ok.kind,ok.glob,ok.blt,ok.above,ok.inj,ok.has,ok.cab,ok.hd,ok.frames,ok.stk,ok.exf,ok.bs,ok.bsz,ok.noex,ok.exfs,ok.funs,ok.frf⟩
theorem Cx.Ok.unwish (ok:(X.wish E).Ok):X.Ok :=
 ⟨ok.mod,ok.kind,ok.glob,ok.blt,ok.above,ok.inj,ok.has,ok.cab,ok.hd,ok.frames,ok.stk,ok.exf,ok.bs,ok.bsz,ok.noex,ok.exfs,ok.funs,ok.frf⟩
theorem Inv.wish (I:Inv X aP σ H s)(E:ae→au→Prop):Inv (X.wish E) aP σ H s:=⟨I.ok.wish E,I.os,I.bare,I.base,I.loc,I.cell,I.free,I.freeC,I.pin,I.hok,I.len⟩
theorem Inv.unwish (I:Inv (X.wish E) aP σ H s):Inv X aP σ H s:=⟨I.ok.unwish,I.os,I.bare,I.base,I.loc,I.cell,I.free,I.freeC,I.pin,I.hok,I.len⟩
theorem SP.unwish {D:lh}{f:Flow}(h:SP (X.wish E) aP D f s'):SP X aP D f s':=by
 cases f with
 | next=>obtain ⟨σ',H',I,q⟩:=h;exact ⟨σ',H',I.unwish,q⟩
 | brk=>obtain ⟨σ',H',I,q⟩:=h;exact ⟨σ',H',I.unwish,q⟩
 | cont=>obtain ⟨σ',H',I,q⟩:=h;exact ⟨σ',H',I.unwish,q⟩
 | ret u=>obtain ⟨v,σ',H',I,r,q⟩:=h;exact ⟨v,σ',H',I.unwish,r,q⟩
theorem PSs.nox {st:List cU}{t:TS}(h:PSs X.nox st t):PSs X st t:=fun aP s σ H D I hw =>
 cx (h aP s σ H D (I.wish _) hw) (fun _ _ q=>q.unwish) fun _ _ z=>dg z
section
variable {rest:List cU}{t u:TS}
def tNext:TS:=fun D σ H=>D.nx σ H
def tSeq (t u:TS):TS:=fun D σ H=>t { D with nx:=u D } σ H
theorem cX:PSs X [] tNext:=fun _ _ σ H _ I h=>wpAny_execs_nil ⟨σ,H,I,h⟩
theorem oX (h1:PS X st t)(h2:PSs X rest u):PSs X (st::rest) (tSeq t u):=by
 intro aP s σ H D I h;refine wpAny_execs_cons (thn (h1 aP s σ H { D with nx:=u D } I h) fun f s1 q=>?_);cases f with
 | next =>
  obtain ⟨σ',H',I',q⟩:=q;exact h2 aP s1 σ' H' D I' q
 | ret v=>exact q
 | brk=>exact q
 | cont=>exact q
theorem cj (h1:PS X st t):PSs X [st] t:=by
 intro aP s σ H D I h;refine wpAny_execs_cons (thn (h1 aP s σ H D I h) fun f s1 q=>?_);cases f with
 | next=>exact wpAny_execs_nil q
 | ret v=>exact q
 | brk=>exact q
 | cont=>exact q
theorem Inv.quiet (I:Inv X aP σ H s):interactive X.env=false:=by simp [interactive,I.ok.kind]
def tDrop (te:TE):TS:=fun D σ H=>te σ H fun _ H1=>D.nx σ H1
theorem i6 (he:PE X e te)(hs:swapsWith e none pos.line X.env=fM false:=by rfl):PS X (.Expr e pos) (tDrop te):=by
 intro aP s σ H D I h;exact wpAny_Expr_any (thn (he aP s σ H _ I h) fun v s1 ⟨x,H1,I1,r1,q1⟩=>⟨σ,H1,I1,q1⟩) I.quiet hs
def tRet (te:TE):TS:=fun D σ H=>te σ H D.rt
theorem bY (he:PE X e te):PS X (.Return (some e) pos) (tRet te):=by
 intro aP s σ H D I h;exact wpAny_Return_some (thn (he aP s σ H _ I h) fun v s1 ⟨x,H1,I1,r1,q1⟩=>⟨x,σ,H1,I1,r1,q1⟩)
def tIfS (c:TT)(t u:TS):TS:=fun D σ H=>c σ H fun b H1=>if b=true then t D σ H1 else u D σ H1
theorem fU {c:Expr}{a b:List cU}{tc:TT}(hc:PT X c tc)(ha:PSs X a t)(hb:PSs X b u):PS X (.If c a b pos) (tIfS tc t u):=by
 intro aP s σ H D I h;refine wpAny_If (thn (hc aP s σ H _ I h) fun d s1 ⟨H1,I1,q1⟩=>?_);cases d with
 | true=>exact ha aP s1 σ H1 D I1 q1
 | false=>exact hb aP s1 σ H1 D I1 q1
end
abbrev TG:=V→St→Hp→(St→Hp→Prop)→Prop
abbrev TGs:=List V→St→Hp→(St→Hp→Prop)→Prop
def PG (X:Cx)(target:Expr)(t:TG):Prop :=
 ∀ (aP:List (ao×Obj)) (s:au) (σ:St) (H:Hp) (v:V) (u:ae) (Q:St→Hp→Prop),Inv X aP σ H s→RelV v u→t v σ H Q →
  aW (bx X.prog X.w) X.A (assign target X.env u) (fun _ s'=>∃ σ' H',Inv X aP σ' H' s'∧Q σ' H') X.xe s
def PGs (X:Cx)(ts:List Expr)(t:TGs):Prop :=
 ∀ (aP:List (ao×Obj)) (s:au) (σ:St) (H:Hp) (vs:List V) (us:List ae) (Q:St→Hp→Prop),Inv X aP σ H s→Vals vs us→t vs σ H Q →
  aW (bx X.prog X.w) X.A (assignInOrder ((assignEach ts X.env).map (·.2)) us) (fun _ s'=>∃ σ' H',Inv X aP σ' H' s'∧Q σ' H') X.xe s
abbrev TSet:=V→V→V→Hp→(Hp→Prop)→Prop
def PSet (X:Cx)(t:TSet):Prop :=
 ∀ (aP:List (ao×Obj)) (s:au) (σ:St) (H:Hp) (o i v:V) (ov iv u:ae) (Q:Hp→Prop),Inv X aP σ H s→RelV o ov→RelV i iv→RelV v u→t o i v H Q →
  aW (bx X.prog X.w) X.A (setItem ov iv u) (fun _ s'=>∃ H',Inv X aP σ H' s'∧Q H') X.xe s
abbrev TIp:=V→V→Hp→VK→Prop
def PIp (X:Cx)(op:Operator)(t:TIp):Prop :=
 ∀ (aP:List (ao×Obj)) (s:au) (σ:St) (H:Hp) (x y:V) (v u:ae) (Q:VK),Inv X aP σ H s→RelV x v→RelV y u→t x y H Q →
  aW (bx X.prog X.w) X.A (inplaceOp op v u) (EP X aP σ Q) X.xe s
def oF (i:Nat):TG:=fun v σ H Q=>Q (σ.set i (some v)) H
theorem oi (hN:X.N.Nodup)(hi:X.N[i]? =some x)(hx:Loc X.env.scope x)(hf:X.fn x=true∨X.env.scope.names.lookup x=some .local:=by first | exact .inl rfl | exact .inr rfl | assumption):PG X (.Name x pos) (oF i):=by
 intro aP s σ H v u Q I r h;exact wpAny_assign_Name (store_ok I hN hi hx r (fun s' I'=>⟨_,H,I',h⟩) hf)
def gNil:TGs:=fun vs σ H Q=>vs=[]∧Q σ H
def gCons (t:TG)(u:TGs):TGs:=fun vs σ H Q=>∃ v r,vs=v::r∧t v σ H fun σ' H'=>u r σ' H' Q
theorem ke:PGs X [] gNil:=by
 intro aP s σ H vs us Q I r h;obtain ⟨e,h⟩:=h;subst e;cases r;exact assignInOrder_nil ⟨σ,H,I,h⟩
theorem eZ {t:TG}{u:TGs}(h1:PG X e t)(h2:PGs X es u)
  (hs:(assignEach (e::es) X.env).map (·.2)=assign e X.env::(assignEach es X.env).map (·.2):=by rfl):PGs X (e::es) (gCons t u):=by
 intro aP s σ H vs us Q I r h;obtain ⟨v,vr,e1,h⟩:=h;subst e1;cases r with
 | cons r rr =>
  rw [hs];refine assignInOrder_cons (thn (h1 aP s σ H _ _ _ I r h) fun _ s1 ⟨σ1,H1,I1,q1⟩=>?_);exact h2 aP s1 σ1 H1 _ _ Q I1 rr q1
def gTup (K:aq)(n:Nat)(t:TGs):TG:=fun v σ H Q=>∃ a xs,v= .ref a∧SqT K H a xs∧xs.length=n∧t xs σ H Q
theorem lQ {k:Nat}{t:TGs}(hc:X.calm=true)(h:PGs X es t)
  (hn:(assignEach es X.env).length=n:=by rfl) (hst:(assignEach es X.env).findIdx? (·.1)=none:=by rfl):PG X (.Tuple es k pos) (gTup X.K n t):=by
 intro aP s σ H v u Q I r hw;obtain ⟨a,xs,e1,hq,hl,hw⟩:=hw;subst e1;cases r;obtain ⟨its,rv,ht,hz⟩:=I.tuple hq;refine assign_Tuple_tuple (I.ok.hd hc) ht (by simp [hn,←hl,rv.length]) hst fun h' hx=>?_
 have I1:Inv X aP σ H { s with heap:=h' }:=I.kept (t':=s.toks) fun b o e=>hx b o (bQ (aO e)) e
 exact h aP _ σ H xs _ Q I1 (by simpa using rv) hw
def gSub (to ti:TE)(t:TSet):TG:=fun v σ H Q=>to σ H fun o H1=>ti σ H1 fun i H2=>t o i v H2 fun H3=>Q σ H3
theorem pg_sub {o i:Expr}{to ti:TE}{t:TSet}(ho:PE X o to)(hi:PE X i ti)(hs:PSet X t)
  (ha:∀ v,assign (.Subscript o i pos) X.env v=(do
   let ov ← holding [v] (eP o X.env)
   let iv ← holding [v,ov] (eP i X.env)
   standAt pos
   holding [v,ov,iv] (setItem ov iv v)
   release [v,ov,iv] []):=by intro _;rfl):PG X (.Subscript o i pos) (gSub to ti t):=by
 intro aP s σ H v u Q I r h;rw [ha];refine ah (dQ (thn (ho aP s σ H _ I h) fun ov s1 ⟨x,H1,I1,r1,q1⟩=>?_));refine ah (dQ (thn (hi aP s1 σ H1 _ I1 q1) fun iv s2 ⟨y,H2,I2,r2,q2⟩=>?_));refine ah (wpAny_standAt (ah (dQ (thn (hs aP s2 σ H2 x y v ov iv u _ I2 r1 r2 r q2) fun _ s3 ⟨H3,I3,q3⟩=>?_))));exact wpAny_release ⟨σ,H3,I3,q3⟩
def tAsg (te:TE)(g:TG):TS:=fun D σ H=>te σ H fun x H1=>g x σ H1 D.nx
theorem mY {g:TG}(he:PE X e te)(hg:PG X tg g)(hs:swapsWithSole [tg] e pos.line X.env=fM false:=by rfl)(hw:swappedStores [tg] e X.env=fM none:=by rfl)
  (h1:(assignEach [tg] X.env).map (·.2)=[assign tg X.env]:=by rfl):PS X (.Assign [tg] e pos) (tAsg te g):=by
 intro aP s σ H D I h;refine wpAny_Assign_stores (thn (he aP s σ H _ I h) fun v s1 ⟨x,H1,I1,r1,q1⟩=>?_) hs hw;rw [h1];exact thn (hg aP s1 σ H1 x v _ I1 r1 q1) fun _ s2 q=>q
theorem ps_set (hN:X.N.Nodup)(hi:X.N[i]? =some x)(hx:Loc X.env.scope x)(he:PE X e te)(hs:swapsWith e (some (.Name x pos')) pos.line X.env=fM false:=by rfl)(hf:X.fn x=true∨X.env.scope.names.lookup x=some .local:=by first | exact .inl rfl | exact .inr rfl | assumption) :
  PS X (.Assign [.Name x pos'] e pos) (tAsg te (oF i)):=by
 intro aP s σ H D I h;refine wpAny_Assign_Name (thn (he aP s σ H _ I h) fun v s1 ⟨y,H1,I1,r1,q1⟩=>?_) hs;exact store_ok I1 hN hi hx r1 (fun s2 I2=>⟨_,H1,I2,q1⟩) hf
def tAug (i:Nat)(te:TE)(ti:TIp):TS:=fun D σ H=>∃ x,σ[i]? =some (some x)∧te σ H fun y H1=>ti x y H1 fun z H2=>D.nx (σ.set i (some z)) H2
theorem pV {op:Operator}{ti:TIp}(hN:X.N.Nodup)(hi:X.N[i]? =some x)(hx:Loc X.env.scope x)(he:PE X e te)(ho:PIp X op ti)(hf:X.fn x=true∨X.env.scope.names.lookup x=some .local:=by first | exact .inl rfl | exact .inr rfl | assumption) :
  PS X (.AugAssign (.Name x pos') op e pos) (tAug i te ti):=by
 intro aP s σ H D I h;obtain ⟨v,e1,h⟩:=h;obtain ⟨m,hn,hl⟩:=I.loc;have vis:Vis X.env.scope x:=by rcases hx with k | k;exact .inl k;exact .inr (.inl k)
 obtain ⟨u,r,l⟩:=hl i x v hi e1 vis;refine wpAny_AugAssign_Name ?_;have go:aW (bx X.prog X.w) X.A (eP e X.env) (fun w s₂=>aW (bx X.prog X.w) X.A (inplaceOp op u w) (fun r s₃=>aW (bx X.prog X.w) X.A (storeName X.env x r) (fun _=>SP X aP D .next) X.xe s₃) X.xe s₂) X.xe s:=by
  refine thn (he aP s σ H _ I h) fun w s1 ⟨y,H1,I1,r1,q1⟩=>?_
  refine thn (ho aP s1 σ H1 v y u w _ I1 r r1 q1) fun z s2 ⟨zv,H2,I2,r2,q2⟩=>?_
  exact store_ok I2 hN hi hx r2 (fun s3 I3=>⟨_,H2,I3,q2⟩) hf
 rcases l with ⟨hk,hm⟩ | ⟨hk,c,hc,iU⟩
 ·exact wpAny_loadName_local I.ok.kind hk hn hm go
 ·rcases hk with hk | hk
  ·exact wpAny_loadName_cell I.ok.kind hk hc iU go
  ·rcases hx with k | k
   ·have:X.env.scope.names.lookup x=some .free:=hk
    rw [k] at this;cases this
   ·have:X.env.scope.names.lookup x=some .free:=hk
    rw [k] at this;cases this
def tAugS (to ti te:TE)(tget:V→V→Hp→VK→Prop)(tip:TIp)(tset:TSet):TS:=fun D σ H=>to σ H fun o H1=>ti σ H1 fun i H2=>tget o i H2 fun x H3=>te σ H3 fun y H4=>tip x y H4 fun z H5=>tset o i z H5 fun H6=>D.nx σ H6
def PGet (X:Cx)(t:V→V→Hp→VK→Prop):Prop :=
 ∀ (aP:List (ao×Obj)) (s:au) (σ:St) (H:Hp) (o i:V) (ov iv:ae) (Q:VK),Inv X aP σ H s→RelV o ov→RelV i iv→t o i H Q →
  aW (bx X.prog X.w) X.A (ja ov iv) (EP X aP σ Q) X.xe s
theorem ps_augS {o i:Expr}{to ti:TE}{tip:TIp}{tset:TSet}{op:Operator}(ho:PE X o to)(hi:PE X i ti)(hg:PGet X tget)(he:PE X e te)(hp:PIp X op tip)(hs:PSet X tset)
  (ha:∀ ov iv new,augStore i ov iv new=(do holding [new,ov,iv] (setItem ov iv new);release [new,ov,iv] [];fM .next):=by intros;rfl):PS X (.AugAssign (.Subscript o i tpos) op e pos) (tAugS to ti te tget tip tset):=by
 intro aP s σ H D I h;refine wpAny_AugAssign_SubscriptAny (thn (ho aP s σ H _ I h) fun ov s1 ⟨x1,H1,I1,r1,q1⟩=>?_) ha;refine thn (hi aP s1 σ H1 _ I1 q1) fun iv s2 ⟨x2,H2,I2,r2,q2⟩=>?_
 refine thn (hg aP s2 σ H2 x1 x2 ov iv _ I2 r1 r2 q2) fun old s3 ⟨x3,H3,I3,r3,q3⟩=>?_
 refine thn (he aP s3 σ H3 _ I3 q3) fun v s4 ⟨x4,H4,I4,r4,q4⟩=>?_
 refine thn (hp aP s4 σ H4 x3 x4 old v _ I4 r3 r4 q4) fun new s5 ⟨x5,H5,I5,r5,q5⟩=>?_
 exact thn (hs aP s5 σ H5 x1 x2 x5 ov iv new _ I5 r1 r2 r5 q5) fun _ s6 ⟨H6,I6,q6⟩=>⟨σ,H6,I6,q6⟩
def ipI (f:Int→Int→Int):TIp:=fun x y H Q=>∃ i j,x= .int i∧y= .int j∧Q (.int (f i j)) H
theorem ip_add:PIp X .Add (ipI fun i j=>i+j):=by
 intro aP s σ H x y v u Q I r1 r2 h;obtain ⟨i,j,e1,e2,q⟩:=h;subst e1;subst e2;obtain ⟨t,rfl⟩:=r1;obtain ⟨t',rfl⟩:=r2;exact iadd_int ⟨.int _,H,I.tok _,⟨_,rfl⟩,q⟩
theorem ip_sub:PIp X .Sub (ipI fun i j=>i - j):=by
 intro aP s σ H x y v u Q I r1 r2 h;obtain ⟨i,j,e1,e2,q⟩:=h;subst e1;subst e2;obtain ⟨t,rfl⟩:=r1;obtain ⟨t',rfl⟩:=r2;exact isub_int ⟨.int _,H,I.tok _,⟨_,rfl⟩,q⟩
def tWhile (c:TT)(tb:TS):TS:=fun D σ H=>∃ W:Nat→St→Hp→Prop,(∃ m,W m σ H)∧∀ m σ H,W m σ H →
 c σ H fun b H1=>if b=true then ∃ N:St→Hp→Prop,(∀ σ' H',N σ' H'→∃ m',m'<m∧W m' σ' H')∧tb { D with nx:=N,ct:=N,bk:=D.nx } σ H1 else D.nx σ H1
theorem oY {c:Expr}{body:List cU}{tc:TT}{tb:TS}(hp:PassesOwn (bx X.prog X.w) X.A X.env X.xe)(hc:PT X c tc)(hb:PSs X body tb):PS X (.While c body [] pos) (tWhile tc tb):=by
 intro aP s σ H D I h;obtain ⟨W,⟨m0,w0⟩,turn⟩:=h;refine wpAny_While (codeAny_whileLoop (fun n s'=>∃ σ' H',Inv X aP σ' H' s'∧W n σ' H') ?_ m0 ⟨σ,H,I,w0⟩);rintro n s1 ⟨σ1,H1,I1,w1⟩;refine iF hp (thn (hc aP s1 σ1 H1 _ I1 (turn n σ1 H1 w1)) fun b s2 ⟨H2,I2,q2⟩=>?_);cases b with
 | true =>
  obtain ⟨N,hN,q2⟩:=q2;rw [rJ rfl];refine iF hp (thn (hb aP s2 σ1 H2 _ I2 q2) fun f s3 q3=>?_);cases f with
  | next =>
   obtain ⟨σ3,H3,I3,n3⟩:=q3;obtain ⟨m',hm,w3⟩:=hN σ3 H3 n3;exact ⟨m',hm,σ3,H3,I3,w3⟩
  | cont =>
   obtain ⟨σ3,H3,I3,n3⟩:=q3;obtain ⟨m',hm,w3⟩:=hN σ3 H3 n3;exact ⟨m',hm,σ3,H3,I3,w3⟩
  | brk=>exact q3
  | ret v=>exact q3
 | false =>
  rw [rG aR];exact wpAny_execs_nil ⟨σ1,H2,I2,q2⟩
structure It where
 go:Nat→Hp→Prop
 yld:Nat→Hp→V→Hp→Prop
 stop:Nat→Hp→Prop
def FpOk (X:Cx)(aP:List (ao×Obj))(H:Hp)(b:ao):Prop :=
 H b=none∧b≠X.env.locals∧b ∉ X.fs∧(b∈X.ex∨X.s₀.heap.objs.size≤b)∧(∀ x c,X.env.cells.lookup x=some c→c≠b)∧∀ p∈X.pn++aP,p.1≠b
theorem Inv.fpOk {b:ao}(I:Inv X aP σ H s)(hb:s.heap.objs.size≤b)(hn:H' b=none):FpOk X aP H' b:=by
 refine ⟨hn,dv (aS I.lt hb),I.nofs hb,.inr (bh I.sz hb),fun x c e z=>?_,fun p hp z=>?_⟩
 ·obtain ⟨v,q⟩:=I.cell x c e
  exact rL (aS q.lt (by rw [z];exact hb)) (gf _)
 ·exact rL (aS (aO (I.pin p hp).1) (by rw [z];exact hb)) (gf _)
structure Turn (P:aY)(w:bE)(K:aq)(tg:Expr)(J:It)(fp:List ao)(it:ao)(tn:Nat→bP→Prop):Prop where
 mem:it∈fp
 obj:∀ i h,tn i h→∀ b∈fp,∃ o,h.get? b=some o∧∀ v,o.data≠ .cell v
 keep:∀ i h h',tn i h→(∀ b∈fp,∀ o,h.get? b=some o→h'.get? b=some o)→tn i h'
 item:∀ (X:Cx),X.prog=P→X.w=w→X.K=K→X.calm=true→∀ (i:Nat) (aP:List (ao×Obj)) (s:au) (σ:St) (H:Hp) (E:ae→au→Prop),Inv X aP σ H s→(∀ b∈fp,FpOk X aP H b)→tn i s.heap→J.go i H →
  aW (bx P w) X.A (pyNext (.ref it)) (fun r s1=>∃ u,r=some u ∧
   aW (bx P w) X.A (letOwnedTupleGo tg (.ref it) u) (fun _ s2=>∃ x H',Inv X aP σ H' s2∧RelV x u∧J.yld i H x H'∧tn (i+1) s2.heap∧∀ b∈fp,H' b=none) E s1) E s
 done:∀ (X:Cx),X.prog=P→X.w=w→X.K=K→X.calm=true→∀ (i:Nat) (aP:List (ao×Obj)) (s:au) (σ:St) (H:Hp) (E:ae→au→Prop),Inv X aP σ H s→(∀ b∈fp,FpOk X aP H b)→tn i s.heap→J.stop i H →
  aW (bx P w) X.A (pyNext (.ref it)) (fun r s1=>r=none∧Inv X aP σ H s1) E s
 self:∀ (A:bZ) (i:Nat) (s:au) (Q:ae→au→Prop) (E:ae→au→Prop),tn i s.heap→Q (.ref it) s→aW (bx P w) A (pyIter (.ref it)) Q E s
abbrev TI:=St→Hp→(It→Hp→Prop)→Prop
def PIE (X:Cx)(aP:List (ao×Obj))(σ:St)(tg:Expr)(R:It→Hp→Prop)(itv:ae)(s2:au):Prop :=
 ∃ (it:ao) (fp:List ao) (tn:Nat→bP→Prop) (J:It) (H':Hp),itv= .ref it∧Inv X aP σ H' s2∧Turn X.prog X.w X.K tg J fp it tn∧tn 0 s2.heap∧(∀ b∈fp,FpOk X aP H' b)∧R J H'
def PI (X:Cx)(tg iter:Expr)(wi:TI):Prop :=
 ∀ (aP:List (ao×Obj)) (s:au) (σ:St) (H:Hp) (R:It→Hp→Prop),Inv X aP σ H s→wi σ H R →
  aW (bx X.prog X.w) X.A (eP iter X.env) (fun v s1=>aW (bx X.prog X.w) X.A (pyIter v) (PIE X aP σ tg R) X.xe s1) X.xe s
theorem go_of {it:ao}{o:Obj}{n:String}{vs:Array ae}{Q:Unit→au→Prop}(ho:s.heap.get? it=some o)(hc:o.cls= .type n)(hd:o.data= .fields vs)
  (hn:["enumerate","zip","dict_itemiterator","dict_reverseitemiterator","odict_iterator","itertools.zip_longest","itertools.pairwise"].contains n=false) (hQ:Q () s):aW M A (letOwnedTupleGo tg (.ref it) u) Q E s:=by
 unfold letOwnedTupleGo;cases tg <;> first
  | exact aL hQ
  | (cases u <;> first
    | exact aL hQ
    | (refine ah (wpAny_load ho ?_)
       rw [hc,hd];show aW M A (if (["enumerate","zip","dict_itemiterator","dict_reverseitemiterator","odict_iterator","itertools.zip_longest","itertools.pairwise"].contains n && vs[0]? == some (rawInt _))=true then _ else _) Q E s;rw [rG (by intro h;rw [hn,Bool.false_and] at h;cases h)];exact aL hQ))
def Itl (K:aq)(a:ao):It :=
 ⟨fun i H=>∃ xs x,SqL K H a xs∧xs[i]? =some x,fun i H x H'=>H'=H∧∀ xs,SqL K H a xs→xs[i]? =some x,fun i H=>∃ xs,SqL K H a xs∧xs.length≤i⟩
def Itt (K:aq)(a:ao):It :=
 ⟨fun i H=>∃ xs x,SqT K H a xs∧xs[i]? =some x,fun i H x H'=>H'=H∧∀ xs,SqT K H a xs→xs[i]? =some x,fun i H=>∃ xs,SqT K H a xs∧xs.length≤i⟩
def Itr (lo:Int)(n:Nat):It:=⟨fun i _=>i<n,fun i H x H'=>H'=H∧x= .int (lo+i),fun i _=>n≤i⟩
theorem turn_list (a it:ao):Turn P w K tg (Itl K a) [it] it (fun i h=>h.IsListIter it a i) where
 mem:=by simp
 obj:=fun i h st b hb=>by
  have e:b=it:=by simpa using hb
  subst e;obtain ⟨o,e,c,d⟩:=st;exact ⟨o,e,fun v z=>by rw [d] at z;cases z⟩
 keep:=fun i h h' st k=>st.at fun o e=>k it (by simp) o e
 item:=by
  intro X hP hw hK hc i aP s σ H E I hf st hg;subst hP hw hK;obtain ⟨xs,x,hq,hx⟩:=hg;obtain ⟨its,rv,p,hz⟩:=I.list hq;obtain ⟨u,hu,ru⟩:=rv.get hx;obtain ⟨f0,f1,f2,f3,f4,f5⟩:=hf it (by simp);refine wpAny_pyNext_list_item st p.isList (x:=u) (by simpa using hu) fun h' st' sb=>?_
  have I1:Inv X aP σ H { s with heap:=h' }:=I.turned (t':=s.toks) (fun b o hb e=>(sb.2 b hb).trans e) f0 f1 f3 f4 f5;obtain ⟨o,e,c,d⟩:=id st';exact ⟨u,rfl,go_of (s:={ s with heap:=h' }) e c d (by decide) ⟨x,H,I1,ru,⟨rfl,fun ys hy=>by rw [I.list_inj hy hq];exact hx⟩,st',fun b hb=>(hf b hb).1⟩⟩
 done:=by
  intro X hP hw hK hc i aP s σ H E I hf st hg;subst hP hw hK;obtain ⟨xs,hq,hx⟩:=hg;obtain ⟨its,rv,p,hz⟩:=I.list hq;obtain ⟨f0,f1,f2,f3,f4,f5⟩:=hf it (by simp);have hl:=rv.length;exact wpAny_pyNext_list_end (I.ok.hd hc) st p.isList (by simp;lia) fun h' eb=>⟨rfl,I.turned (t':=s.toks) (fun b o hb e=>eb b o hb e) f0 f1 f3 f4 f5⟩
 self:=fun _ _ _ _ _ st h=>wpAny_pyIter_listiter st h
theorem turn_tuple (a it:ao):Turn P w K tg (Itt K a) [it] it (fun i h=>h.IsTupleIter it a i) where
 mem:=by simp
 obj:=fun i h st b hb=>by
  have e:b=it:=by simpa using hb
  subst e;obtain ⟨o,e,c,d⟩:=st;exact ⟨o,e,fun v z=>by rw [d] at z;cases z⟩
 keep:=fun i h h' st k=>st.at fun o e=>k it (by simp) o e
 item:=by
  intro X hP hw hK hc i aP s σ H E I hf st hg;subst hP hw hK;obtain ⟨xs,x,hq,hx⟩:=hg;obtain ⟨its,rv,p,hz⟩:=I.tuple hq;obtain ⟨u,hu,ru⟩:=rv.get hx;obtain ⟨f0,f1,f2,f3,f4,f5⟩:=hf it (by simp);refine wpAny_pyNext_tuple_item st (show s.heap.IsTuple a its.toArray from p) (x:=u) (by simpa using hu) fun h' st' sb=>?_
  have I1:Inv X aP σ H { s with heap:=h' }:=I.turned (t':=s.toks) (fun b o hb e=>(sb.2 b hb).trans e) f0 f1 f3 f4 f5;obtain ⟨o,e,c,d⟩:=id st';exact ⟨u,rfl,go_of (s:={ s with heap:=h' }) e c d (by decide) ⟨x,H,I1,ru,⟨rfl,fun ys hy=>by rw [I.tuple_inj hy hq];exact hx⟩,st',fun b hb=>(hf b hb).1⟩⟩
 done:=by
  intro X hP hw hK hc i aP s σ H E I hf st hg;subst hP hw hK;obtain ⟨xs,hq,hx⟩:=hg;obtain ⟨its,rv,p,hz⟩:=I.tuple hq;obtain ⟨f0,f1,f2,f3,f4,f5⟩:=hf it (by simp);have hl:=rv.length;exact wpAny_pyNext_tuple_end (I.ok.hd hc) st (show s.heap.IsTuple a its.toArray from p) (by simp;lia) fun h' eb=>⟨rfl,I.turned (t':=s.toks) (fun b o hb e=>eb b o hb e) f0 f1 f3 f4 f5⟩
 self:=fun _ _ _ _ _ st h=>wpAny_pyIter_tupleiter st h
theorem turn_range (it:ao)(lo:Int)(n:Nat):Turn P w K tg (Itr lo n) [it] it (fun i h=>IsRangeIter h it (lo+(i:Nat) * 1) ((n:Int) - (i:Nat)) 1) where
 mem:=by simp
 obj:=fun i h st b hb=>by
  have e:b=it:=by simpa using hb
  subst e;exact ⟨_,st,fun v z=>by
   have z':Data.fields _=Data.cell v:=z;cases z'⟩
 keep:=fun i h h' st k=>k it (by simp) _ st
 item:=by
  intro X hP hw hK hc i aP s σ H E I hf st hg;subst hP hw hK;obtain ⟨f0,f1,f2,f3,f4,f5⟩:=hf it (by simp);have W:=Walks.range (prog:=X.prog) (w:=X.w) (I.ok.hd hc) it lo 1 n;refine W.item i s _ _ hg st fun v h' tk hv st' kk=>?_
  obtain ⟨t,rfl⟩:=hv;have I1:Inv X aP σ H { s with heap:=h',toks:=tk }:=I.turned (fun b o hb e=>kk b o (by simpa using hb) e) f0 f1 f3 f4 f5;refine ⟨_,rfl,go_of (s:={ s with heap:=h',toks:=tk }) (n := "range_iterator") st' rfl rfl (by decide) ⟨.int (lo+i),H,I1,⟨t,?_⟩,⟨rfl,rfl⟩,st',fun b hb=>(hf b hb).1⟩⟩;rw [Int.mul_one]
 done:=by
  intro X hP hw hK hc i aP s σ H E I hf st hg;subst hP hw hK;obtain ⟨f0,f1,f2,f3,f4,f5⟩:=hf it (by simp);exact wpAny_pyNext_range_end (I.ok.hd hc) st (by have:n≤i:=hg;lia) fun h' eb=>⟨rfl,I.turned (t':=s.toks) (fun b o hb e=>eb b o hb e) f0 f1 f3 f4 f5⟩
 self:=fun _ _ _ _ _ st h=>wpAny_pyIter_rangeiter st h
def iList (K:aq)(tl:TE):TI:=fun σ H R=>tl σ H fun x H1=>∃ a,x= .ref a∧(∃ xs,SqL K H1 a xs)∧R (Itl K a) H1
def iTup (K:aq)(tl:TE):TI:=fun σ H R=>tl σ H fun x H1=>∃ a,x= .ref a∧(∃ xs,SqT K H1 a xs)∧R (Itt K a) H1
theorem i8 {l:Expr}(hl:PE X l tl):PI X tg l (iList X.K tl):=by
 intro aP s σ H R I h;refine thn (hl aP s σ H _ I h) fun v s1 ⟨x,H1,I1,r1,q1⟩=>?_
 obtain ⟨a,e,⟨xs,hq⟩,q⟩:=q1;subst e;cases r1;obtain ⟨its,rv,p,hz⟩:=I1.list hq;refine wpAny_pyIter_list p.isList ?_;refine ⟨s1.heap.objs.size,[s1.heap.objs.size],_,_,H1,rfl,I1.kept (t':=s1.toks) fun b o e=>ar _ e,turn_list a _,⟨_,bg _ rfl,rfl,rfl⟩,fun b hb=>?_,q⟩;have e:b=s1.heap.objs.size:=by simpa using hb
 subst e;exact I1.fpOk (aE _) (I1.hok.fresh (aE _))
theorem iY {l:Expr}(hl:PE X l tl):PI X tg l (iTup X.K tl):=by
 intro aP s σ H R I h;refine thn (hl aP s σ H _ I h) fun v s1 ⟨x,H1,I1,r1,q1⟩=>?_
 obtain ⟨a,e,⟨xs,hq⟩,q⟩:=q1;subst e;cases r1;obtain ⟨its,rv,p,hz⟩:=I1.tuple hq;refine wpAny_pyIter_tuple (show s1.heap.IsTuple a its.toArray from p) ?_;refine ⟨s1.heap.objs.size,[s1.heap.objs.size],_,_,H1,rfl,I1.kept (t':=s1.toks) fun b o e=>ar _ e,turn_tuple a _,⟨_,bg _ rfl,rfl,rfl⟩,fun b hb=>?_,q⟩;have e:b=s1.heap.objs.size:=by simpa using hb
 subst e;exact I1.fpOk (aE _) (I1.hok.fresh (aE _))
theorem range_it {R:It→Hp→Prop}{hi:Int}{t u v:Tok}{tk:Nat}(I:Inv X aP σ H s)(h1: -(2 ^ 62)≤lo)(h2:lo<2 ^ 62)(h3: -(2 ^ 62)≤hi)(h4:hi<2 ^ 62)
  (q:R (Itr lo (hi - lo).toNat) H):aW (bx X.prog X.w) X.A (pyIter (.ref s.heap.objs.size)) (PIE X aP σ tg R) E { s with heap:=s.heap.push { cls:= .type "range",data:= .fields #[.int lo t,.int hi u,.int 1 v] },toks:=tk }:=by
 refine wpAny_pyIter_range (IsRange.new ..) (small_one h1 h2 h3 h4) ?_;have I1:Inv X aP σ H { s with heap:=s.heap.push { cls:= .type "range",data:= .fields #[.int lo t,.int hi u,.int 1 v] },toks:=tk }:=I.kept fun b o e=>ar _ e
 refine ⟨(s.heap.push { cls:= .type "range",data:= .fields #[.int lo t,.int hi u,.int 1 v] }).objs.size,[(s.heap.push { cls:= .type "range",data:= .fields #[.int lo t,.int hi u,.int 1 v] }).objs.size],_,_,H,rfl,
  I1.kept (t':=tk) fun b o e=>ar _ e,turn_range _ lo (hi - lo).toNat,?_,fun b hb=>?_,q⟩
 ·have e1:lo+((0:Nat):Int) * 1=lo:=by simp
  have e2:(((hi - lo).toNat:Nat):Int) - ((0:Nat):Int)=eG lo hi 1:=by rw [rangeSize_one];split <;> lia
  show IsRangeIter _ _ (lo+((0:Nat):Int) * 1) ((((hi - lo).toNat:Nat):Int) - ((0:Nat):Int)) 1;rw [e1,e2];exact bg _ rfl
 ·have e:b=(s.heap.push { cls:= .type "range",data:= .fields #[.int lo t,.int hi u,.int 1 v] }).objs.size:=by simpa using hb
  subst e;exact I1.fpOk (aE _) (I1.hok.fresh (aE _))
def iRng1 (ta:TA):TI:=fun σ H R=>ta σ H fun vs H1=>∃ j:Int,vs=[.int j]∧ -(2 ^ 62)≤j∧j<2 ^ 62∧R (Itr 0 j.toNat) H1
def iRng2 (ta:TA):TI:=fun σ H R=>ta σ H fun vs H1=>∃ i j:Int,vs=[.int i,.int j]∧(-(2 ^ 62)≤i∧i<2 ^ 62∧ -(2 ^ 62)≤j∧j<2 ^ 62)∧R (Itr i (j - i).toNat) H1
theorem iI {a:Expr}{ta:TA}{p:Pos}(hg:Gl X "range")(hm:X.mg "range" =none)(ha:PA X [a] ta)(hs:bD [a] X.env=[(false,eP a X.env)]:=by rfl):PI X tg (.Call (.Name "range" p) [a] [] pos) (iRng1 ta):=by
 intro aP s σ H R I h;refine Call_ (lU I hg hm boot_range (eN (thn (ha pos aP s σ H _ I h) fun us s1 ⟨vs,H1,I1,r1,q1⟩=>?_) hs rfl));obtain ⟨j,e,q1,q2,q⟩:=q1;subst e;cases r1 with
 | cons r rr =>
  cases rr;obtain ⟨t,rfl⟩:=r;exact call_range_1 (range_it I1 (by lia) (by lia) q1 q2 (by simpa using q))
theorem pi_range2 {a b:Expr}{ta:TA}{p:Pos}(hg:Gl X "range")(hm:X.mg "range" =none)(ha:PA X [a,b] ta)(hs:bD [a,b] X.env=[(false,eP a X.env),(false,eP b X.env)]:=by rfl)(hs2:bD [b] X.env=[(false,eP b X.env)]:=by rfl) :
  PI X tg (.Call (.Name "range" p) [a,b] [] pos) (iRng2 ta):=by
 intro aP s σ H R I h;refine Call_ (lU I hg hm boot_range (eN (thn (ha pos aP s σ H _ I h) fun us s1 ⟨vs,H1,I1,r1,q1⟩=>?_) (by rw [hs,hs2]) (by rw [hs2];rfl)));obtain ⟨i,j,e,⟨q1,q2,q3,q4⟩,q⟩:=q1;subst e;cases r1 with
 | cons r rr =>
  cases rr with
  | cons r' rr =>
   cases rr;obtain ⟨t,rfl⟩:=r;obtain ⟨t',rfl⟩:=r';exact call_range_2 (range_it I1 q1 q2 q3 q4 q)
def tFor (wi:TI)(g:TG)(tb:TS):TS:=fun D σ H=>wi σ H fun J H1=>∃ W:Nat→Nat→St→Hp→Prop,(∃ m,W 0 m σ H1)∧∀ i m σ H,W i m σ H →
 (J.stop i H∧D.nx σ H)∨(J.go i H∧∃ N:St→Hp→Prop,(∀ σ' H',N σ' H'→∃ m',m'<m∧W (i+1) m' σ' H')∧∀ x H',J.yld i H x H'→g x σ H' fun σ2 H2=>tb { D with nx:=N,ct:=N,bk:=D.nx } σ2 H2)
def pinsAt (fp:List ao)(h:bP):List (ao×Obj):=fp.filterMap fun b=>(h.get? b).map fun o=>(b,o)
theorem l7 {b:ao}{o:Obj}(hb:b∈fp)(e:h.get? b=some o):(b,o)∈pinsAt fp h:=List.mem_filterMap.mpr ⟨b,hb,by rw [e];rfl⟩
theorem of_pinsAt {p:ao×Obj}(hp:p∈pinsAt fp h):p.1∈fp∧h.get? p.1=some p.2:=by
 obtain ⟨b,hb,e⟩:=List.mem_filterMap.mp hp;cases q:h.get? b with
 | none=>rw [q] at e;cases e
 | some o =>
  rw [q] at e;have e':(b,o)=p:=cG e;subst e';exact ⟨hb,q⟩
theorem Inv.pinned (I:Inv X aP σ H s)(hf:∀ b∈fp,FpOk X aP H b)(ho:∀ b∈fp,∃ o,s.heap.get? b=some o∧∀ v,o.data≠ .cell v):Inv X (aP++pinsAt fp s.heap) σ H s :=
 I.pins_of fun p hp=>(aN.mp hp).elim (fun z=>I.pin p (aA _ z)) fun z=>by
  obtain ⟨hb,e⟩:=of_pinsAt z;obtain ⟨f0,f1,f2,_⟩:=hf p.1 hb;obtain ⟨o,e',d⟩:=ho p.1 hb;rw [e] at e';cases e';exact ⟨e,f0,f1,f2,d⟩
theorem Inv.unpinned {pl:List (ao×Obj)}(I:Inv X (aP++pl) σ H s):Inv X aP σ H s:=I.pins_of fun p hp=>I.pin p (aA _ (aM _ hp))
theorem gk {body:List cU}{wi:TI}{g:TG}{tb:TS}(hp:PassesOwn (bx X.prog X.w) X.A X.env X.xe)(hc:X.calm=true)(hi:PI X tg iter wi)(hg:PG X tg g)(hb:PSs X body tb)
  (hs:∀ x,gU iter X.env x=fM x:=by intro _;rfl):PS X (.For tg iter body [] pos) (tFor wi g tb):=by
 intro aP s σ H D I h;refine wpAny_For (thn (hi aP s σ H _ I h) fun v s1 h1=>thn h1 fun itv s2 h2=>?_) hs;obtain ⟨it,fp,tn,J,H2,e,I2,T,st2,f2,W,⟨m0,w0⟩,turn⟩:=h2;subst e;have stat:∀ {H':Hp},(∀ b∈fp,H' b=none)→∀ b∈fp,FpOk X aP H' b:=fun hn b hb=>⟨hn b hb,(f2 b hb).2⟩
 refine codeAny_forLoop_any (fun n s'=>∃ i σ' H',Inv X aP σ' H' s'∧tn i s'.heap∧(∀ b∈fp,H' b=none)∧W i n σ' H') ?_ m0 ⟨0,σ,H2,I2,st2,fun b hb=>(f2 b hb).1,w0⟩;rintro n s3 ⟨i,σ3,H3,I3,st3,fr3,w3⟩
 rcases turn i n σ3 H3 w3 with ⟨stop,qn⟩ | ⟨go,N,hN,step⟩
 ·refine iF hp (thn (T.done X rfl rfl rfl hc i aP s3 σ3 H3 X.xe I3 (stat fr3) st3 stop) fun r s4 ⟨hr,I4⟩=>?_)
  subst hr;exact wpAny_execs_nil ⟨σ3,H3,I4,qn⟩
 ·refine iF hp (thn (T.item X rfl rfl rfl hc i aP s3 σ3 H3 X.xe I3 (stat fr3) st3 go) fun r s4 ⟨u,hr,h4⟩=>?_)
  subst hr;refine iF hp (thn h4 fun _ s5 ⟨x,H5,I5,r5,y5,st5,fr5⟩=>?_);have I5':=I5.pinned (stat fr5) (T.obj _ _ st5);refine iF hp (thn (hg _ s5 σ3 H5 x u _ I5' r5 (step x H5 y5)) fun _ s6 ⟨σ6,H6,I6,q6⟩=>?_);refine iF hp (thn (hb _ s6 σ6 H6 _ I6 q6) fun f s7 q7=>?_);have again:∀ {σ7:St} {H7:Hp},Inv X (aP++pinsAt fp s5.heap) σ7 H7 s7→N σ7 H7→∃ m,m<n∧∃ i σ' H',Inv X aP σ' H' s7∧tn i s7.heap∧(∀ b∈fp,H' b=none)∧W i m σ' H':=fun {σ7 H7} I7 n7=>by
   obtain ⟨m',hm,w7⟩:=hN σ7 H7 n7;refine ⟨m',hm,i+1,σ7,H7,I7.unpinned,T.keep _ _ _ st5 fun b hb o e=>(I7.pin (b,o) (aA _ (aA _ (l7 hb e)))).1,fun b hb=>?_,w7⟩;obtain ⟨o,e,d⟩:=T.obj _ _ st5 b hb;exact (I7.pin (b,o) (aA _ (aA _ (l7 hb e)))).2.1
  cases f with
  | next=>obtain ⟨σ7,H7,I7,n7⟩:=q7;exact again I7 n7
  | cont=>obtain ⟨σ7,H7,I7,n7⟩:=q7;exact again I7 n7
  | brk=>obtain ⟨σ7,H7,I7,q7⟩:=q7;exact ⟨σ7,H7,I7.unpinned,q7⟩
  | ret v=>obtain ⟨x7,σ7,H7,I7,r7,q7⟩:=q7;exact ⟨x7,σ7,H7,I7.unpinned,r7,q7⟩
theorem k7 {g:TG}{tb:TS}{D:lh}(Pv:Nat→St→Hp→Prop)(h0:Pv 0 σ H)(hl:∀ i σ H,i≤xs.length→Pv i σ H→SqL K H a xs)
  (hs:∀ i x σ H,xs[i]? =some x→Pv i σ H→g x σ H fun σ2 H2=>tb { D with nx:=Pv (i+1),ct:=Pv (i+1),bk:=D.nx } σ2 H2) (hd:∀ σ H,Pv xs.length σ H→D.nx σ H) :
  ∃ W:Nat→Nat→St→Hp→Prop,(∃ m,W 0 m σ H)∧∀ i m σ H,W i m σ H →
   ((Itl K a).stop i H∧D.nx σ H)∨((Itl K a).go i H∧∃ N:St→Hp→Prop,(∀ σ' H',N σ' H'→∃ m',m'<m∧W (i+1) m' σ' H')∧∀ x H',(Itl K a).yld i H x H'→g x σ H' fun σ2 H2=>tb { D with nx:=N,ct:=N,bk:=D.nx } σ2 H2):=by
 refine ⟨fun i m σ H=>m=xs.length - i∧i≤xs.length∧Pv i σ H,⟨xs.length,by simp,bG _,h0⟩,?_⟩;rintro i m σ H ⟨rfl,hi,p⟩;have q:=hl i σ H hi p
 by_cases hlt:i<xs.length
 ·refine .inr ⟨⟨xs,xs[i],q,by simp [hlt]⟩,Pv (i+1),fun σ' H' p'=>⟨xs.length - (i+1),by lia,rfl,hlt,p'⟩,fun x H' y=>?_⟩
  obtain ⟨e,y⟩:=y;subst e;exact hs i x σ _ (y xs q) p
 ·have e:i=xs.length:=by lia
  subst e;exact .inl ⟨⟨xs,q,aE _⟩,hd σ H p⟩
theorem ki {g:TG}{tb:TS}{D:lh}(Pv:Nat→St→Hp→Prop)(h0:Pv 0 σ H)(hl:∀ i σ H,i≤xs.length→Pv i σ H→SqT K H a xs)
  (hs:∀ i x σ H,xs[i]? =some x→Pv i σ H→g x σ H fun σ2 H2=>tb { D with nx:=Pv (i+1),ct:=Pv (i+1),bk:=D.nx } σ2 H2) (hd:∀ σ H,Pv xs.length σ H→D.nx σ H) :
  ∃ W:Nat→Nat→St→Hp→Prop,(∃ m,W 0 m σ H)∧∀ i m σ H,W i m σ H →
   ((Itt K a).stop i H∧D.nx σ H)∨((Itt K a).go i H∧∃ N:St→Hp→Prop,(∀ σ' H',N σ' H'→∃ m',m'<m∧W (i+1) m' σ' H')∧∀ x H',(Itt K a).yld i H x H'→g x σ H' fun σ2 H2=>tb { D with nx:=N,ct:=N,bk:=D.nx } σ2 H2):=by
 refine ⟨fun i m σ H=>m=xs.length - i∧i≤xs.length∧Pv i σ H,⟨xs.length,by simp,bG _,h0⟩,?_⟩;rintro i m σ H ⟨rfl,hi,p⟩;have q:=hl i σ H hi p
 by_cases hlt:i<xs.length
 ·refine .inr ⟨⟨xs,xs[i],q,by simp [hlt]⟩,Pv (i+1),fun σ' H' p'=>⟨xs.length - (i+1),by lia,rfl,hlt,p'⟩,fun x H' y=>?_⟩
  obtain ⟨e,y⟩:=y;subst e;exact hs i x σ _ (y xs q) p
 ·have e:i=xs.length:=by lia
  subst e;exact .inl ⟨⟨xs,q,aE _⟩,hd σ H p⟩
theorem jF {g:TG}{tb:TS}{D:lh}(Pv:Nat→St→Hp→Prop)(h0:Pv 0 σ H)
  (hs:∀ i σ H,i<n→Pv i σ H→g (.int (lo+i)) σ H fun σ2 H2=>tb { D with nx:=Pv (i+1),ct:=Pv (i+1),bk:=D.nx } σ2 H2) (hd:∀ σ H,Pv n σ H→D.nx σ H) :
  ∃ W:Nat→Nat→St→Hp→Prop,(∃ m,W 0 m σ H)∧∀ i m σ H,W i m σ H →
   ((Itr lo n).stop i H∧D.nx σ H)∨((Itr lo n).go i H∧∃ N:St→Hp→Prop,(∀ σ' H',N σ' H'→∃ m',m'<m∧W (i+1) m' σ' H')∧∀ x H',(Itr lo n).yld i H x H'→g x σ H' fun σ2 H2=>tb { D with nx:=N,ct:=N,bk:=D.nx } σ2 H2):=by
 refine ⟨fun i m σ H=>m=n - i∧i≤n∧Pv i σ H,⟨n,by simp,bG _,h0⟩,?_⟩;rintro i m σ H ⟨rfl,hi,p⟩
 by_cases hlt:i<n
 ·refine .inr ⟨hlt,Pv (i+1),fun σ' H' p'=>⟨n - (i+1),by lia,rfl,hlt,p'⟩,fun x H' y=>?_⟩
  obtain ⟨e,y⟩:=y;subst e y;exact hs i σ _ hlt p
 ·have e:i=n:=by lia
  subst e;exact .inl ⟨aE _,hd σ H p⟩
abbrev R2:=V→V→Hp→VK→Prop
def OpR (X:Cx)(f:ae→ae→Sem ae)(r:R2):Prop :=
 ∀ (aP:List (ao×Obj)) (s:au) (σ:St) (H:Hp) (x y:V) (v u:ae) (Q:VK),Inv X aP σ H s→RelV x v→RelV y u→r x y H Q →
  aW (bx X.prog X.w) X.A (f v u) (EP X aP σ Q) X.xe s
def UnR (X:Cx)(f:ae→Sem ae)(r:V→Hp→VK→Prop):Prop :=
 ∀ (aP:List (ao×Obj)) (s:au) (σ:St) (H:Hp) (x:V) (v:ae) (Q:VK),Inv X aP σ H s→RelV x v→r x H Q →
  aW (bx X.prog X.w) X.A (f v) (EP X aP σ Q) X.xe s
def CallR (X:Cx)(f:ae)(r:List V→Hp→VK→Prop):Prop :=
 ∀ (aP:List (ao×Obj)) (s:au) (σ:St) (H:Hp) (xs:List V) (us:List ae) (Q:VK),Inv X aP σ H s→Vals xs us→r xs H Q →
  aW (bx X.prog X.w) X.A (call f us) (EP X aP σ Q) X.xe s
def tOp (r:R2)(ta tb:TE):TE:=fun σ H Q=>ta σ H fun x H1=>tb σ H1 fun y H2=>r x y H2 Q
def tUn (r:V→Hp→VK→Prop)(ta:TE):TE:=fun σ H Q=>ta σ H fun x H1=>r x H1 Q
inductive rI (C:Int→Int→Prop)(g:Int→Int→V)(x:V)(y:V)(H:Hp)(Q:VK):Prop
 | mk (i j:_)(_:x= .int i)(_:y= .int j)(_:C i j)(_:Q (g i j) H)
inductive rI0 (g:Int→Int→V)(x:V)(y:V)(H:Hp)(Q:VK):Prop
 | mk (i j:_)(_:x= .int i)(_:y= .int j)(_:Q (g i j) H)
inductive rU (g:Int→V)(x:V)(H:Hp)(Q:VK):Prop
 | mk (i:_)(_:x= .int i)(_:Q (g i) H)
section
variable {a b c:Expr}{tb tc:TE}
theorem binT (ha:PE X a ta)(hb:PE X b tb){R:V→V→Hp→Prop}(I:Inv X aP σ H s)
  (h:ta σ H fun x H1=>tb σ H1 fun y H2=>R x y H2) {f:ae→ae→Sem ae}
  (hf:∀ v u s2 x y H2,Inv X aP σ H2 s2→RelV x v→RelV y u→R x y H2→aW (bx X.prog X.w) X.A (f v u) Q X.xe s2) :
  aW (bx X.prog X.w) X.A (eP a X.env) (fun v s₁=>aW (bx X.prog X.w) X.A (eP b X.env) (fun u s₂=>aW (bx X.prog X.w) X.A (f v u) Q X.xe s₂) X.xe s₁) X.xe s:=by
 refine thn (ha aP s σ H _ I h) fun v s1 ⟨x,H1,I1,r1,q1⟩=>?_
 refine thn (hb aP s1 σ H1 _ I1 q1) fun u s2 ⟨y,H2,I2,r2,q2⟩=>?_
 exact hf v u s2 x y H2 I2 r1 r2 q2
theorem cg {op:Operator}{r:R2}(ho:OpR X (gW op) r)(ha:PE X a ta)(hb:PE X b tb):PE X (.BinOp a op b pos) (tOp r ta tb):=by
 intro aP s σ H Q I h;exact wpAny_BinOp (binT ha hb I h fun v u s2 x y H2 I2 rx ry q=>ho aP s2 σ H2 x y v u Q I2 rx ry q)
theorem pe_un {op:UnaryOp}{r:V→Hp→VK→Prop}(ho:UnR X (unaryOp op) r)(ha:PE X a ta):PE X (.UnaryOp op a pos) (tUn r ta):=by
 intro aP s σ H Q I h;exact UnaryOp_ (thn (ha aP s σ H _ I h) fun v s1 ⟨x,H1,I1,r1,q1⟩=>ho aP s1 σ H1 x v Q I1 r1 q1)
theorem opI {f:ae→ae→Sem ae}{C:Int→Int→Prop}{g:Int→Int→Int}
  (rule:∀ (i j:Int) (t u:Tok) (s:au) (Q:ae→au→Prop) (E:ae→au→Prop),C i j→Q (.int (g i j) s.toks) { s with toks:=s.toks+1 }→aW (bx X.prog X.w) X.A (f (.int i t) (.int j u)) Q E s) :
  OpR X f (rI C fun i j=> .int (g i j)):=by
 intro aP s σ H x y v u Q I rx ry h;obtain ⟨i,j,rfl,rfl,hc,q⟩:=h;obtain ⟨t,rfl⟩:=rx;obtain ⟨t',rfl⟩:=ry;exact rule i j t t' s _ _ hc ⟨.int (g i j),H,I.tok _,⟨_,rfl⟩,q⟩
theorem opI0 {f:ae→ae→Sem ae}{g:Int→Int→Int}
  (rule:∀ (i j:Int) (t u:Tok) (s:au) (Q:ae→au→Prop) (E:ae→au→Prop),Q (.int (g i j) s.toks) { s with toks:=s.toks+1 }→aW (bx X.prog X.w) X.A (f (.int i t) (.int j u)) Q E s) :
  OpR X f (rI0 fun i j=> .int (g i j)):=by
 intro aP s σ H x y v u Q I rx ry h;obtain ⟨i,j,rfl,rfl,q⟩:=h;obtain ⟨t,rfl⟩:=rx;obtain ⟨t',rfl⟩:=ry;exact rule i j t t' s _ _ ⟨.int (g i j),H,I.tok _,⟨_,rfl⟩,q⟩
theorem opB0 {f:ae→ae→Sem ae}{g:Int→Int→Bool}
  (rule:∀ (i j:Int) (t u:Tok) (s:au) (Q:ae→au→Prop) (E:ae→au→Prop),Q (.bool (g i j)) s→aW (bx X.prog X.w) X.A (f (.int i t) (.int j u)) Q E s) :
  OpR X f (rI0 fun i j=> .bl (g i j)):=by
 intro aP s σ H x y v u Q I rx ry h;obtain ⟨i,j,rfl,rfl,q⟩:=h;obtain ⟨t,rfl⟩:=rx;obtain ⟨t',rfl⟩:=ry;exact rule i j t t' s _ _ ⟨.bl (g i j),H,I,rfl,q⟩
def CDiv (i j:Int):Prop:=0<j∧j<1073741824
def CPow (i j:Int):Prop:=0≤j∧j≤1000000∧i.natAbs<2 ^ 64
def CMul (i j:Int):Prop:=(-(2 ^ 64)<i∧i<2 ^ 64)∨(-(2 ^ 64)<j∧j<2 ^ 64)
theorem CMul.ok {i j:Int}(h:CMul i j):IntMulOk i j:=by
 rcases h with ⟨h1,h2⟩ | ⟨h1,h2⟩
 ·exact .of_left (intBits_le_64 h1 h2)
 ·exact .of_right (intBits_le_64 h1 h2)
theorem fu:OpR X (gW .Add) (rI0 fun i j=> .int (i+j)):=opI0 fun _ _ _ _ _ _ _ q=>add_int q
theorem jj:OpR X (gW .Sub) (rI0 fun i j=> .int (i - j)):=opI0 fun _ _ _ _ _ _ _ q=>sub_int q
theorem ij:OpR X (gW .Mult) (rI CMul fun i j=> .int (i * j)):=opI fun _ _ _ _ _ _ _ hc q=>mul_int q hc.ok
theorem op_fdiv:OpR X (gW .FloorDiv) (rI CDiv fun i j=> .int (i / j)):=opI fun i j _ _ _ _ _ hc q=>by
 have h1:(0:Int)<j:=hc.1;have h2:j<1073741824:=hc.2;exact floordiv_int (by lia) (by rw [Int.fdiv_eq_ediv_of_nonneg i (by lia)];exact q) (.inl (PyProof.noPylong_small (by lia)))
theorem iZ:OpR X (gW .Mod) (rI (fun _ j=>0<j) fun i j=> .int (i % j)):=opI fun i j _ _ _ _ _ hc q=>by
 have h1:(0:Int)<j:=hc;exact mod_int' (by lia) (by rw [Int.fmod_eq_emod_of_nonneg i (by lia)];exact q)
theorem op_pow:OpR X (gW .Pow) (rI CPow fun i j=> .int (i ^ j.toNat)):=opI fun _ _ _ _ _ _ _ hc q=>pow_int_small hc.1 hc.2.1 hc.2.2 q
theorem unI {f:ae→Sem ae}{g:Int→Int}
  (rule:∀ (i:Int) (t:Tok) (s:au) (Q:ae→au→Prop) (E:ae→au→Prop),Q (.int (g i) s.toks) { s with toks:=s.toks+1 }→aW (bx X.prog X.w) X.A (f (.int i t)) Q E s) :
  UnR X f (rU fun i=> .int (g i)):=by
 intro aP s σ H x v Q I rx h;obtain ⟨i,rfl,q⟩:=h;obtain ⟨t,rfl⟩:=rx;exact rule i t s _ _ ⟨.int (g i),H,I.tok _,⟨_,rfl⟩,q⟩
theorem o9:UnR X (unaryOp .USub) (rU fun i=> .int (-i)):=unI fun _ _ _ _ _ q=>neg_int q
end
def scal:V→V→Bool
 | .non,.non=>true | .non,.int _=>true | .int _,.non=>true | .non,.bl _=>true | .bl _,.non=>true | .non,.str _=>true | .str _,.non=>true
 | .int _,.int _=>true | .bl _,.bl _=>true | .str _,.str _=>true | .byt _,.byt _=>true
 | .int _,.str _=>true | .str _,.int _=>true | .bl _,.str _=>true | .str _,.bl _=>true
 | _,_=>false
def rEq:R2:=fun x y H Q=>scal x y=true∧Q (.bl (decide (x=y))) H
def rNe:R2:=fun x y H Q=>scal x y=true∧Q (.bl (!decide (x=y))) H
theorem dec_int {i j:Int}:decide (V.int i=V.int j)=(i == j):=by
 rw [Bool.eq_iff_iff];simp
theorem dec_bl {i j:Bool}:decide (V.bl i=V.bl j)=(i == j):=by
 rw [Bool.eq_iff_iff];simp
theorem dec_str {i j:Str}:decide (V.str i=V.str j)=(i == j):=by
 rw [Bool.eq_iff_iff];simp
theorem dec_byt {i j:Array UInt8}:decide (V.byt i=V.byt j)=(i.toList == j.toList):=by
 rw [Bool.eq_iff_iff];cases i;cases j;simp
section
variable {a b c:Expr}{tb tc:TE}
theorem fv {Q:VK}{k k':Bool}(I:Inv X aP σ H s)(q:Q (.bl k) H)(e:k=k'):EP X aP σ Q (.bool k') s:=by
 subst e;exact ⟨.bl k,H,I,rfl,q⟩
theorem lT:OpR X (fB .Eq) rEq:=by
 intro aP s σ H x y v u Q I rx ry h;obtain ⟨hs,q⟩:=h;cases x with
 | non =>
  cases rx;cases y with
  | non=>cases ry;exact PySem.EqNone.eq_none_none (fv I q (by simp))
  | bl j=>cases ry;exact PySem.EqNone.eq_none_bool (fv I q (by simp))
  | int j=>obtain ⟨t',rfl⟩:=ry;exact PySem.EqNone.eq_none_int (fv I q (by simp))
  | str j=>obtain ⟨t',rfl⟩:=ry;exact PySem.EqNone.eq_none_str (fv I q (by simp))
  | _=>exact rL (show false=true from hs) aR
 | bl i =>
  cases rx;cases y with
  | non=>cases ry;exact PySem.EqNone.eq_bool_none (fv I q (by simp))
  | bl j=>cases ry;exact eq_bool (fv I q dec_bl)
  | str j=>obtain ⟨t',rfl⟩:=ry;exact PySem.EqMixed.eq_bool_str (fv I q (by simp))
  | _=>exact rL (show false=true from hs) aR
 | int i =>
  obtain ⟨t,rfl⟩:=rx;cases y with
  | non=>cases ry;exact PySem.EqNone.eq_int_none (fv I q (by simp))
  | int j=>obtain ⟨t',rfl⟩:=ry;exact eq_int (fv I q dec_int)
  | str j=>obtain ⟨t',rfl⟩:=ry;exact PySem.EqMixed.eq_int_str (fv I q (by simp))
  | _=>exact rL (show false=true from hs) aR
 | str i =>
  obtain ⟨t,rfl⟩:=rx;cases y with
  | non=>cases ry;exact PySem.EqNone.eq_str_none (fv I q (by simp))
  | bl j=>cases ry;exact PySem.EqMixed.eq_str_bool (fv I q (by simp))
  | int j=>obtain ⟨t',rfl⟩:=ry;exact PySem.EqMixed.eq_str_int (fv I q (by simp))
  | str j=>obtain ⟨t',rfl⟩:=ry;exact eq_str (fv I q dec_str)
  | _=>exact rL (show false=true from hs) aR
 | byt i =>
  obtain ⟨t,rfl⟩:=rx;cases y with
  | byt j=>obtain ⟨t',rfl⟩:=ry;exact PySem.W.eq_bytes (fv I q dec_byt)
  | _=>exact rL (show false=true from hs) aR
 | _=>cases y <;> exact rL (show false=true from hs) aR
theorem ly:OpR X (fB .NotEq) rNe:=by
 intro aP s σ H x y v u Q I rx ry h;obtain ⟨hs,q⟩:=h;cases x with
 | non =>
  cases rx;cases y with
  | non=>cases ry;exact PySem.EqNone.ne_none_none (fv I q (by simp))
  | bl j=>cases ry;exact PySem.EqNone.ne_none_bool (fv I q (by simp))
  | int j=>obtain ⟨t',rfl⟩:=ry;exact PySem.EqNone.ne_none_int (fv I q (by simp))
  | str j=>obtain ⟨t',rfl⟩:=ry;exact PySem.EqNone.ne_none_str (fv I q (by simp))
  | _=>exact rL (show false=true from hs) aR
 | bl i =>
  cases rx;cases y with
  | non=>cases ry;exact PySem.EqNone.ne_bool_none (fv I q (by simp))
  | bl j=>cases ry;exact ne_bool (fv I q (rQ not dec_bl))
  | str j=>obtain ⟨t',rfl⟩:=ry;exact PySem.EqMixed.ne_bool_str (fv I q (by simp))
  | _=>exact rL (show false=true from hs) aR
 | int i =>
  obtain ⟨t,rfl⟩:=rx;cases y with
  | non=>cases ry;exact PySem.EqNone.ne_int_none (fv I q (by simp))
  | int j=>obtain ⟨t',rfl⟩:=ry;exact ne_int (fv I q (rQ not dec_int))
  | str j=>obtain ⟨t',rfl⟩:=ry;exact PySem.EqMixed.ne_int_str (fv I q (by simp))
  | _=>exact rL (show false=true from hs) aR
 | str i =>
  obtain ⟨t,rfl⟩:=rx;cases y with
  | non=>cases ry;exact PySem.EqNone.ne_str_none (fv I q (by simp))
  | bl j=>cases ry;exact PySem.EqMixed.ne_str_bool (fv I q (by simp))
  | int j=>obtain ⟨t',rfl⟩:=ry;exact PySem.EqMixed.ne_str_int (fv I q (by simp))
  | str j=>obtain ⟨t',rfl⟩:=ry;exact ne_str (fv I q (rQ not dec_str))
  | _=>exact rL (show false=true from hs) aR
 | byt i =>
  obtain ⟨t,rfl⟩:=rx;cases y with
  | byt j=>obtain ⟨t',rfl⟩:=ry;exact PySem.W.ne_bytes (fv I q (rQ not dec_byt))
  | _=>exact rL (show false=true from hs) aR
 | _=>cases y <;> exact rL (show false=true from hs) aR
theorem oj:OpR X (fB .Lt) (rI0 fun i j=> .bl (decide (i<j))):=opB0 fun _ _ _ _ _ _ _ q=>lt_int q
theorem op_le:OpR X (fB .LtE) (rI0 fun i j=> .bl (decide (i≤j))):=opB0 fun _ _ _ _ _ _ _ q=>le_int q
theorem p7:OpR X (fB .Gt) (rI0 fun i j=> .bl (decide (j<i))):=opB0 fun _ _ _ _ _ _ _ q=>gt_int q
theorem op_ge:OpR X (fB .GtE) (rI0 fun i j=> .bl (decide (j≤i))):=opB0 fun _ _ _ _ _ _ _ q=>ge_int q
theorem op_isN:OpR X (fB .Is) (fun x y H Q=>y= .non∧Q (.bl (decide (x= .non))) H):=by
 intro aP s σ H x y v u Q I rx ry h;obtain ⟨rfl,q⟩:=h;cases ry;refine is_none_gen (fv I q ?_);cases x <;> first
  | (cases rx;rfl)
  | (obtain ⟨t,rfl⟩:=rx;rfl)
theorem op_notN:OpR X (fB .IsNot) (fun x y H Q=>y= .non∧Q (.bl (!decide (x= .non))) H):=by
 intro aP s σ H x y v u Q I rx ry h;obtain ⟨rfl,q⟩:=h;cases ry;refine isnot_none_gen (fv I q ?_);cases x <;> first
  | (cases rx;rfl)
  | (obtain ⟨t,rfl⟩:=rx;rfl)
theorem cJ (b:Expr)(h:op≠ .In:=by decide)(h2:op≠ .NotIn:=by decide):behindInMarks op b=false:=by
 have e1:(op == CmpOp.In)=false:=by cases op <;> first | rfl | exact rL rfl h
 have e2:(op == CmpOp.NotIn)=false:=by cases op <;> first | rfl | exact rL rfl h2
 cases b <;> simp [behindInMarks,e1,e2]
theorem iR {r:R2}(ho:OpR X (fB op) r)(ha:PE X a ta)(hb:PE X b tb)(hm:behindInMarks op b=false):PE X (.Compare a [op] [b] pos) (tOp r ta tb):=by
 intro aP s σ H Q I h;exact wpAny_Compare1 (binT ha hb I h fun v u s2 x y H2 I2 rx ry q=>ho aP s2 σ H2 x y v u Q I2 rx ry q) hm
def tTest (t:TE):TT:=fun σ H Q=>t σ H fun x H'=>IsBl x fun k=>Q k H'
theorem cu {r:R2}(ho:OpR X (fB op) r)(ha:PE X a ta)(hb:PE X b tb)(hm:behindInMarks op b=false):PT X (.Compare a [op] [b] pos) (tTest (tOp r ta tb)):=by
 intro aP s σ H Q I h;refine wpAny_isTrue_Compare1 (thn (ha aP s σ H _ I h) fun v s1 ⟨x,H1,I1,r1,q1⟩=>thn (hb aP s1 σ H1 _ I1 q1) fun u s2 ⟨y,H2,I2,r2,q2⟩ =>
  thn (ho aP s2 σ H2 x y v u _ I2 r1 r2 q2) fun c s3 ⟨z,H3,I3,r3,k,e,q3⟩=>?_) hm
 subst e;cases r3;exact fW ⟨H3,I3,q3⟩
def tChain (r r':R2)(ta tb tc:TE):TE:=fun σ H Q=>ta σ H fun x H1=>tb σ H1 fun y H2=>r x y H2 fun z H3=>∃ k,z= .bl k ∧
 (if k=true then tc σ H3 fun w' H4=>r' y w' H4 Q else Q (.bl false) H3)
theorem oV {op':CmpOp}{r r':R2}(ho:OpR X (fB op) r)(ho':OpR X (fB op') r')(ha:PE X a ta)(hb:PE X b tb)(hc:PE X c tc)
  (hm:lastMarks [op,op'] [b,c]=false:=by with_unfolding_all rfl):PT X (.Compare a [op,op'] [b,c] pos) (tTest (tChain r r' ta tb tc)):=by
 intro aP s σ H Q I h;refine isTrue_chain (thn (ha aP s σ H _ I h) fun v s1 ⟨x,H1,I1,r1,q1⟩=>test_link (thn (hb aP s1 σ H1 _ I1 q1) fun u s2 ⟨y,H2,I2,r2,q2⟩ =>
  thn (ho aP s2 σ H2 x y v u _ I2 r1 r2 q2) fun d s3 ⟨z,H3,I3,r3,k,e,q3⟩=>?_)) hm
 subst e;cases r3;refine fW ?_;cases k with
 | false =>
  obtain ⟨k',e',q'⟩:=q3;cases e';exact ite_ff ⟨H3,I3,q'⟩
 | true =>
  refine ite_tt (test_last (thn (hc aP s3 σ H3 _ I3 q3) fun w' s4 ⟨z',H4,I4,r4,q4⟩=>thn (ho' aP s4 σ H4 y z' u w' _ I4 r2 r4 q4) fun d' s5 ⟨z2,H5,I5,r5,k2,e2,q5⟩=>?_));subst e2;cases r5;exact fW ⟨H5,I5,q5⟩
theorem line63:(bp:Nat)<2 ^ 63:=by rw [gn];decide
theorem nR {x:V}(r:Vals [x] us):∃ u,us=[u]∧RelV x u:=by
 cases r with
 | cons r1 r2=>cases r2;exact ⟨_,rfl,r1⟩
theorem vals2 {x:V}(r:Vals [x,y] us):∃ u w',us=[u,w']∧RelV x u∧RelV y w':=by
 cases r with
 | cons r1 r2 =>
  cases r2 with
  | cons r3 r4=>cases r4;exact ⟨_,_,rfl,r1,r3⟩
theorem qH (hc:X.calm=true):CallR X (.builtin "min") (fun xs H Q=>∃ i j,xs=[.int i,.int j]∧Q (.int (if j<i then j else i)) H):=by
 intro aP s σ H xs us Q I r h;obtain ⟨i,j,rfl,q⟩:=h;obtain ⟨u,w',rfl,⟨t,rfl⟩,⟨t',rfl⟩⟩:=vals2 r;refine min_two_ints (I.ok.hd hc) fun h' tk k=>⟨_,H,I.kept k,?_,q⟩
 by_cases hj:j<i
 ·rw [rJ hj,rJ hj];exact ⟨_,rfl⟩
 ·rw [rG hj,rG hj];exact ⟨_,rfl⟩
theorem qI:CallR X (.type "int") (fun xs H Q=>(∃ i,xs=[.int i]∧Q (.int i) H)∨∃ k,xs=[.bl k]∧Q (.int (if k then 1 else 0)) H):=by
 intro aP s σ H xs us Q I r h
 rcases h with ⟨i,rfl,q⟩ | ⟨k,rfl,q⟩
 ·obtain ⟨u,rfl,t,rfl⟩:=nR r
  exact call_int_int ⟨.int i,H,I,⟨_,rfl⟩,q⟩
 ·obtain ⟨u,rfl,r1⟩:=nR r
  cases r1;exact call_int_bool ⟨.int (if k then 1 else 0),H,I.tok _,⟨_,rfl⟩,q⟩
end
structure ObjM (h:bP)(x dx C:ao)(mA:Str→Option ae):Prop where
 obj:h.get? x=some (gp C dx)
 ns:h.Ns1 dx mA
 ne:dx≠x
theorem lookIn_ns (n:h.Ns1 dx mA):∃ od,h.get? dx=some od∧∀ name,PySem.W.lookIn name od=some (mA name):=by
 obtain ⟨o,es,ep,ho,hd,hk,_,hm⟩:=n;refine ⟨o,ho,fun name=>?_⟩;have e:=hm name;unfold nsFind findBy at e;rw [←Array.find?_toList] at e;unfold PySem.W.lookIn;rw [hd]
 dsimp only
 split
 ·rename_i y q
  rw [q] at e;exact rQ some e
 ·rename_i q
  rw [q] at e;have a:es.toList.any (·.refKey)=false:=by
   rw [jw];intro y hy;obtain ⟨z,t,hkey⟩:=hk y (Array.mem_toList_iff.mp hy);simp [DictEntry.refKey,hkey]
  have a':¬ es.toList.any (·.refKey)=true:=by rw [a];exact aR
  rw [rG a'];exact rQ some e
theorem ObjM.look {x:ao}(I:ObjM h x dx C mA):∃ od,PySem.W.InstAt h x (gp C dx) C (some od)∧∀ name,PySem.W.lookIn name od=some (mA name) :=
 let ⟨od,ho,hl⟩:=lookIn_ns I.ns
 ⟨od,⟨I.obj,rfl,rfl,ho⟩,hl⟩
section
variable {x:ao}{v:ae}
theorem get_map {expr:Bool}(X:K.In s.heap)(I:ObjM s.heap x dx C mA)(hg:jL K C name=true)(hh:PySem.W.hasDictIn K C=true)
  (ha:cR K (.ref C) name=some none) (hv:mA name=some v) (hv':PySem.W.handedIn v=true) (h:Q v { s with toks:=s.toks+1 }) :
  aW (bx prog w) A (getAttr (.ref x) name expr) Q E s:=by
 obtain ⟨od,J,hl⟩:=I.look;exact PySem.W.get_value X J (PySem.W.plainGet_of hg).1 (PySem.W.findObj_own hh ha rfl (by rw [hl,hv])) hv' h
theorem get_meth {pl:Sem Bool}{Q:ae×List ae→au→Prop}(X:K.In s.heap)(I:ObjM s.heap x dx C mA)(hg:jL K C name=true)
  (hf:cR K (.ref C) name=some (some (.ref f))) (ht:PySem.W.isFn K (.ref f)=true) (hv:mA name=none) (h:Q (.ref f,[.ref x]) s) :
  aW (bx prog w) A (getMethod (.ref x) name pl) Q E s:=by
 obtain ⟨od,J,hl⟩:=I.look;exact PySem.W.method_fn X J (PySem.W.plainGet_of hg).1 (PySem.W.plainGet_of hg).2 hf (beq_iff_eq.mp ht) (by show (PySem.W.lookIn name od).map (·.isSome)=some false;rw [hl,hv];rfl) h
theorem set_map {ns:List Str}{Q:Unit→au→Prop}(X:K.In s.heap)(I:ObjM s.heap x dx C mA)
  (hs:cR K (.ref C) "__setattr__" =some (some (.builtin "object.__setattr__"))) (hp:PySem.W.plainOver K C=true) (ht:PySem.W.takerIn K C name=some none) (hh:PySem.W.hasDictIn K C=true)
  (hw:PySem.Within mA ns) (hsz:ns.length≤bp)
  (h:∀ h',ObjM h' x dx C (fun y=>if y=name then some v else mA y)→d9 dx s.heap h'→Q () { s with heap:=h',toks:=s.toks+2 }) :
  aW (bx prog w) A (setAttr (.ref x) name v) Q E s:=by
 obtain ⟨od,J,hl⟩:=I.look;refine PySem.W.set_plain X J hs (PySem.W.osa_open (s:={ s with toks:=s.toks+1 }) (r:=none) X J hp ht fun b=>?_);obtain ⟨cd,hc,hd'⟩:=PySem.W.any_some hh;have hx:s.heap.get? x=some ⟨.ref C,some dx,.plain,#[]⟩:=I.obj;refine ah (aL (ah (ah (wpAny_loadPart hx (ah (PySem.W.Looks.here (s:={ s with toks:=s.toks+1 }) (PySem.W.looks_clsIn X hc) ?_))))));rw [hd'];refine aL (a:=some dx) (ah (aL (ah ?_)));refine wpAny_nsSet1 (s:={ s with toks:=s.toks+1 }) I.ns fun h' hn2 hs2=>?_
 obtain ⟨oD,esD,epD,hoD,hdD,hcD⟩:=hn2.count (PySem.Within.cons name v hw);refine ah (wpAny_lookBehind hoD (by rw [hdD];exact pastItsLine_dict (bh hcD (by rw [aZ];lia))) ?_);exact aL (h _ ⟨(hs2.2 _ (cN I.ne)).trans I.obj,hn2,I.ne⟩ hs2)
theorem make_map (X:K.In s.heap)(hm:PySem.W.makesIn K C=true)
  (hi:cR K (.ref C) "__init__" =some (some (.ref f))) (hf:PySem.W.typeIn K (.ref f)=some (.type "function"))
  (h:jq (bx prog w) (A.under (.builtin "type.__call__" ⟨.ref C::vs,kw⟩)) (.call (.ref f) ⟨.ref (s.heap.objs.size+1)::vs,kw⟩) (PySem.W.InitBack (s.heap.objs.size+1) R)
   {s with heap:=(s.heap.push fc).push (gp C s.heap.objs.size) }) :
  jq (bx prog w) A (.call (.ref C) ⟨vs,kw⟩) R s:=by
 obtain ⟨hh,g,d,t,os⟩:=s;exact PySem.W.make_core (PySem.W.makes_of X hm) (PySem.W.looks_findIn X hi) (fun self=>PySem.W.bind_fn X self hf) (.inl rfl) h
end
def mO (f:Str)(v:V):List (Str×V)→List (Str×V)
 | []=>[(f,v)]
 | (g,x)::r=>if g=f then (g,v)::r else (g,x)::mO f v r
theorem qe (f g:Str)(v:V):∀ fs:List (Str×V),(mO f v fs).lookup g=if g=f then some v else fs.lookup g
 | []=>by
  show eX g [(f,v)]=_
  by_cases h:g=f
  ·have hb:(g == f)=true:=beq_iff_eq.mpr h
   simp only [eX,hb,rJ h]
  ·have hb:(g == f)=false:=beq_eq_false_iff_ne.mpr h
   simp only [eX,hb,rG h]
 | (k,x)::r=>by
  have ih:=qe f g v r;rw [show mO f v ((k,x)::r)=(if k=f then (k,v)::r else (k,x)::mO f v r) from rfl]
  by_cases hk:k=f
  ·rw [rJ hk]
   by_cases h:g=k
   ·have hb:(g == k)=true:=beq_iff_eq.mpr h
    simp only [eX,hb,rJ (h.trans hk)]
   ·have hb:(g == k)=false:=beq_eq_false_iff_ne.mpr h
    simp only [eX,hb,rG (fun e:g=f=>h (e.trans hk.symm))]
  ·rw [rG hk]
   by_cases h:g=k
   ·have hb:(g == k)=true:=beq_iff_eq.mpr h
    simp only [eX,hb,rG (fun e:g=f=>hk (h.symm.trans e))]
   ·have hb:(g == k)=false:=beq_eq_false_iff_ne.mpr h
    simp only [eX,hb];exact ih
theorem qh (f:Str)(v:V):∀ fs:List (Str×V),f∈(mO f v fs).map (·.1)∧∀ g,g∈fs.map (·.1)→g∈(mO f v fs).map (·.1)
 | []=>⟨by simp [mO],fun g h=>by simp at h⟩
 | (k,x)::r=>by
  obtain ⟨i1,i2⟩:=qh f v r;rw [show mO f v ((k,x)::r)=(if k=f then (k,v)::r else (k,x)::mO f v r) from rfl]
  by_cases hk:k=f
  ·rw [rJ hk]
   subst hk;exact ⟨by simp,fun g h=>by simpa using h⟩
  ·rw [rG hk]
   refine ⟨?_,fun g h=>?_⟩
   ·rw [cw]
    exact ay _ i1
   ·rw [cw] at h ⊢
    rcases aG.mp h with e | e
    ·exact aG.mpr (.inl e)
    ·exact ay _ (i2 g e)
theorem qf (f:Str)(v:V):∀ fs:List (Str×V),(mO f v fs).length≤fs.length+1
 | []=>by simp [mO]
 | (k,x)::r=>by
  have ih:=qf f v r;rw [show mO f v ((k,x)::r)=(if k=f then (k,v)::r else (k,x)::mO f v r) from rfl]
  by_cases hk:k=f
  ·rw [rJ hk,aZ,aZ];lia
  ·rw [rG hk,aZ,aZ];lia
theorem RelO.some_of {o:Option ae}(r:RelO (some v) o):∃ u,o=some u∧RelV v u:=by
 cases o with
 | none=>exact (show False from r).elim
 | some u=>exact ⟨u,rfl,r⟩
theorem RelO.none_of {o:Option ae}(r:RelO none o):o=none:=by
 cases o with
 | none=>rfl
 | some u=>exact (show False from r).elim
theorem handed_of (r:RelV v u):PySem.W.handedIn u=true:=by
 cases v with
 | non=>cases (show u=ae.none from r);rfl
 | bl b=>cases (show u=ae.bool b from r);rfl
 | int i=>obtain ⟨t,e⟩:=(show ∃ t,u=ae.int i t from r);cases e;rfl
 | str x=>obtain ⟨t,e⟩:=(show ∃ t,u=ae.str x t from r);cases e;rfl
 | byt b=>obtain ⟨t,e⟩:=(show ∃ t,u=ae.bytes b t from r);cases e;rfl
 | flt b=>obtain ⟨t,e⟩:=(show ∃ t,u=ae.float b t from r);cases e;rfl
 | ref a=>cases (show u=ae.ref a from r);rfl
 | ty n=>cases (show u=ae.type n from r);rfl
section
variable {fs fs':List (Str×V)}
theorem ins_get (hok:HOk P w H h)(e:H a=some (.ins C dx fs)):∃ mA,ObjM h a dx C mA∧(∀ f,RelO (fs.lookup f) (mA f))∧PySem.Within mA (fs.map (·.1))∧fs.length≤1000∧H dx=some (.own a):=by
 obtain ⟨d,z,ne,ob,mA,n,r,q⟩:=(show ObjOk P w H h a (.ins C dx fs) from hok a _ e);exact ⟨mA,⟨ob,n,ne⟩,r,q,z,d⟩
end
structure Cls (K:aq)(C:ao):Prop where
 pg:jL K C Str.empty=true
 hd:PySem.W.hasDictIn K C=true
 po:PySem.W.plainOver K C=true
 sa:cR K (.ref C) "__setattr__" =some (some (.builtin "object.__setattr__"))
theorem Cls.get (c:Cls K C)(f:Str):jL K C f=true:=c.pg
def NoAttr (K:aq)(C:ao)(f:Str):Prop:=cR K (.ref C) f=some none
theorem NoAttr.taker {f:Str}(n:NoAttr K C f):PySem.W.takerIn K C f=some none:=by
 unfold PySem.W.takerIn;rw [show cR K (.ref C) f=some none from n];rfl
structure Meth (K:aq)(C:ao)(m:Str)(f:ao):Prop where
 at_:cR K (.ref C) m=some (some (.ref f))
 fn:PySem.W.isFn K (.ref f)=true
 kp:fb K (.ref f)=true
section
variable {fs:List (Str×V)}{f:Str}
theorem getattr_ok {b:Bool}(I:Inv X aP σ H s)(e:H a=some (.ins C dx fs))(c:Cls X.K C)(n:NoAttr X.K C f)(l:fs.lookup f=some v)
  (h:∀ u s',Inv X aP σ H s'→RelV v u→Q u s'):aW (bx X.prog X.w) A (getAttr (.ref a) f b) Q E s:=by
 obtain ⟨mA,O,r,_,_,_⟩:=ins_get I.hok e;obtain ⟨u,hu,ru⟩:=RelO.some_of (v:=v) (o:=mA f) (by rw [←l];exact r f);exact get_map I.kIn O (c.get f) c.hd n hu (handed_of ru) (h u _ (I.tok _) ru)
theorem getmeth_ok {m:Str}{g:ao}{pl:Sem Bool}{Q:ae×List ae→au→Prop}(I:Inv X aP σ H s)(e:H a=some (.ins C dx fs))(c:Cls X.K C)(k:Meth X.K C m g)(l:fs.lookup m=none)
  (h:Q (.ref g,[.ref a]) s):aW (bx X.prog X.w) A (getMethod (.ref a) m pl) Q E s:=by
 obtain ⟨mA,O,r,_,_,_⟩:=ins_get I.hok e;have hn:mA m=none:=RelO.none_of (by rw [←l];exact r m);exact get_meth I.kIn O (c.get m) k.at_ k.fn hn h
theorem setattr_ok {Q:Unit→au→Prop}(I:Inv X aP σ H s)(e:H a=some (.ins C dx fs))(c:Cls X.K C)(n:NoAttr X.K C f)(hl:fs.length<1000)(ry:RelV y u)
  (h:∀ s',Inv X aP σ (upd H a (.ins C dx (mO f y fs))) s'→Q () s'):aW (bx X.prog X.w) A (setAttr (.ref a) f u) Q E s:=by
 obtain ⟨mA,O,r,wi,_,ho⟩:=ins_get I.hok e;have hz:(fs.map (·.1)).length≤bp:=by rw [aa,gn];lia
 refine set_map I.kIn O c.sa c.po n.taker c.hd wi hz fun h' O' sb=>h _ ?_
 have hd:∃ o,h'.get? dx=some o:=let ⟨o,_,_,e',_⟩:=O'.ns;⟨o,e'⟩;refine I.write (x:=a) (e:=dx) (by rw [e];exact True.intro) (.inr ho) (fun b q hb z=>(sb.2 b hb).trans z) hd ?_;refine ⟨by rw [bC O.ne];exact ho,?_,O.ne,O'.obj,_,O'.ns,fun g=>?_,fun g hg=>?_⟩
 ·have:=qf f y fs;lia
 ·show RelO ((mO f y fs).lookup g) (if g=f then some u else mA g)
  rw [qe]
  by_cases q:g=f
  ·rw [rJ q,rJ q];exact ry
  ·rw [rG q,rG q];exact r g
 ·by_cases q:g=f
  ·rw [q];exact (qh f y fs).1
  ·refine (qh f y fs).2 g (wi g fun z=>hg ?_)
   show (if g=f then some u else mA g)=none;rw [rG q];exact z
theorem Inv.made (I:Inv X aP σ H s):Inv X aP σ (upd (upd H s.heap.objs.size (.own (s.heap.objs.size+1))) (s.heap.objs.size+1) (.ins C s.heap.objs.size []))
  {s with heap:=(s.heap.push fc).push (gp C s.heap.objs.size) }:=by
 have e1:(s.heap.push fc).get? s.heap.objs.size=some fc:=bg s.heap rfl;have e2:((s.heap.push fc).push (gp C s.heap.objs.size)).get? (s.heap.objs.size+1)=some (gp C s.heap.objs.size):=by
  have:=bg (s.heap.push fc) (o:=gp C s.heap.objs.size) rfl
  rwa [gh] at this
 have e3:(s.heap.push fc).Ns s.heap.objs.size (fun _=>none):=⟨fc,#[],_,e1,rfl,(fun e he=>rL he (by simp)),fun _=>rfl⟩;have I1:=I.laid (a:=s.heap.objs.size) (o:= .own (s.heap.objs.size+1)) (h':=s.heap.push fc) (t':=s.toks) (fun b u q=>ar _ q) (aE _) ⟨_,e1⟩;refine I1.laid (a:=s.heap.objs.size+1) (o:= .ins C s.heap.objs.size []) (t':=s.toks) (fun b u q=>ar _ q) (Nat.le_of_eq (gh _ _)) ?_;have ne:s.heap.objs.size≠s.heap.objs.size+1:=bQ (j4 _);refine ⟨by rw [bC ne,aV],bG _,ne,e2,fun _=>none,(bP.Ns1.of_empty e3).at fun o q=>ar _ q,fun _=>True.intro,fun y hy=>rL rfl hy⟩
theorem attr_of {f:Str}(hb:attributeBase e f env (eP e env)=eP e env)
  (h:aW (bx prog w) A (eP e env) (fun o s₁=>aW (bx prog w) A (getAttr o f true) Q E s₁) E s):aW (bx prog w) A (eP (.Attribute e f pos) env) Q E s :=
 Attribute_any_ h (by rw [arm_eval_Attribute,hb])
end
def tFld (K:aq)(ta:TE)(f:Str):TE:=fun σ H Q=>ta σ H fun x H1=>∃ a C dx fs v,x= .ref a∧H1 a=some (.ins C dx fs)∧Cls K C∧NoAttr K C f∧fs.lookup f=some v∧Q v H1
def sFld (K:aq)(ta tv:TE)(f:Str):TS:=fun D σ H=>tv σ H fun y H1=>ta σ H1 fun x H2=>∃ a C dx fs,x= .ref a∧H2 a=some (.ins C dx fs)∧Cls K C∧NoAttr K C f∧fs.length<1000 ∧
 D.nx σ (upd H2 a (.ins C dx (mO f y fs)))
section
variable {o:Expr}{f:Str}{tv:TE}
theorem pe_fld (he:PE X e ta)(hb:attributeBase e f X.env (eP e X.env)=eP e X.env):PE X (.Attribute e f pos) (tFld X.K ta f):=by
 intro aP s σ H Q I h;refine attr_of hb (thn (he aP s σ H _ I h) fun u s1 ⟨x,H1,I1,rx,a,C,dx,fs,v,ex,ea,c,n,l,q⟩=>?_);subst ex;obtain rfl:u=ae.ref a:=rx;exact getattr_ok I1 ea c n l fun u' s2 I2 ru=>⟨v,H1,I2,ru,q⟩
theorem ps_fld (ha:PE X o ta)(hv:PE X value tv)(hs:swapsWith value (some (.Attribute o f pos')) pos.line X.env=fM false):PS X (.Assign [.Attribute o f pos'] value pos) (sFld X.K ta tv f):=by
 intro aP s σ H D I h;refine plainObj_wpAny_Assign_Attribute (thn (hv aP s σ H _ I h) fun u s1 ⟨y,H1,I1,ry,q⟩=>thn (ha aP s1 σ H1 _ I1 q) fun ov s2 ⟨x,H2,I2,rx,a,C,dx,fs,ex,ea,c,n,l,q2⟩=>?_) hs;subst ex;obtain rfl:ov=ae.ref a:=rx;exact setattr_ok I2 ea c n l ry fun s3 I3=>⟨σ,_,I3,q2⟩
end
section
variable {c:ae}{b:Bool}
inductive TyOf (K:aq)(H:Hp):V→ae→Prop where
 | non:TyOf K H .non (.type "NoneType")
 | bl (x:Bool):TyOf K H (.bl x) (.type "bool")
 | int (i:Int):TyOf K H (.int i) (.type "int")
 | str (x:Str):TyOf K H (.str x) (.type "str")
 | flt (x:UInt64):TyOf K H (.flt x) (.type "float")
 | lst {a:ao} {xs:List V} (e:H a=some (.lst xs)):TyOf K H (.ref a) (.type "list")
 | frz {a:ao} {o:Obj} {xs:List V} (e:H a=some (.frz o (.lst xs))):TyOf K H (.ref a) (.type "list")
 | tup {a:ao} {xs:List V} (e:H a=some (.tup xs)):TyOf K H (.ref a) (.type "tuple")
 | dK {a:ao} {kvs:List (Key×V)} (e:H a=some (.dK kvs)):TyOf K H (.ref a) (.type "dict")
 | dT {a:ao} {kvs:List (List Key×V)} (e:H a=some (.dT kvs)):TyOf K H (.ref a) (.type "dict")
 | ins {a C dx:ao} {fs:List (Str×V)} (e:H a=some (.ins C dx fs)) (cl:Cls K C) (ha:cR K (.ref C) "__class__" =some (some (.builtin "object.__class__")))
   (hn:PySem.W.specialIn K (.builtin "object.__class__") "__get__" =some (some (.builtin "getset_descriptor.__get__"))) (htk:PySem.W.takesIn K (.builtin "object.__class__")=some true)
   (hm:PySem.W.mroIn K C (.type "object")=some true):TyOf K H (.ref a) (.ref C)
theorem isinst_ok {x:V}{t:ae}(I:Inv X aP σ H s)(rx:RelV x u)(ty:TyOf X.K H x t)(e:PySem.W.kitOne X.K t c=some b)(h:∀ tk,Q (.bool b) { s with toks:=tk }) :
  aW (bx X.prog X.w) A (call (.builtin "isinstance") [u,c]) Q E s:=by
 cases ty with
 | non=>cases (show u=ae.none from rx);exact eM PySem.W.kitx_none I.kIn True.intro e (fun z=>nomatch z) h
 | bl y=>cases (show u=ae.bool y from rx);exact eM PySem.W.kitx_bool I.kIn True.intro e (fun z=>nomatch z) h
 | int i=>obtain ⟨t,q⟩:=(show ∃ t,u=ae.int i t from rx);cases q;exact eM PySem.W.kitx_int I.kIn True.intro e (fun z=>nomatch z) h
 | str y=>obtain ⟨t,q⟩:=(show ∃ t,u=ae.str y t from rx);cases q;exact eM PySem.W.kitx_str I.kIn True.intro e (fun z=>nomatch z) h
 | flt y=>obtain ⟨t,q⟩:=(show ∃ t,u=ae.float y t from rx);cases q;exact eM PySem.W.kitx_float I.kIn True.intro e (fun z=>nomatch z) h
 | @lst a xs ea =>
  cases (show u=ae.ref a from rx);obtain ⟨_,_,n,_,h1⟩:=(show ObjOk X.prog X.w H s.heap a (.lst xs) from I.hok a _ ea);exact eM PySem.W.kitx_list I.kIn ⟨_,h1,rfl⟩ e (fun z=>nomatch z) h
 | @frz a ob xs ea =>
  cases (show u=ae.ref a from rx);obtain ⟨_,_,_,n,_,h1⟩:=(show ObjOk X.prog X.w H s.heap a (.frz ob (.lst xs)) from I.hok a _ ea);exact eM PySem.W.kitx_list I.kIn ⟨_,h1,rfl⟩ e (fun z=>nomatch z) h
 | @tup a xs ea =>
  cases (show u=ae.ref a from rx);obtain ⟨_,_,_,p⟩:=(show ObjOk X.prog X.w H s.heap a (.tup xs) from I.hok a _ ea);obtain ⟨o,h1,h2,_⟩:=p;exact eM PySem.W.kitx_tuple I.kIn ⟨o,h1,h2⟩ e (fun z=>nomatch z) h
 | @dK a kvs ea =>
  cases (show u=ae.ref a from rx);obtain ⟨_,_,vs,_,p⟩:=(show ObjOk X.prog X.w H s.heap a (.dK kvs) from I.hok a _ ea);obtain ⟨o,es,ep,h1,h2,_⟩:=p;exact eM PySem.W.kitx_dict I.kIn ⟨o,h1,h2.1⟩ e (fun z=>nomatch z) h
 | @dT a kvs ea =>
  cases (show u=ae.ref a from rx);obtain ⟨_,_,xs,_,o,es,ep,h1,h2,_⟩:=(show ObjOk X.prog X.w H s.heap a (.dT kvs) from I.hok a _ ea);exact eM PySem.W.kitx_dict I.kIn ⟨o,h1,h2.1⟩ e (fun z=>nomatch z) h
 | @ins a C dx fs ea cl ha hn htk hm =>
  cases (show u=ae.ref a from rx);obtain ⟨mA,O,_⟩:=ins_get I.hok ea;obtain ⟨od,J,_⟩:=O.look;exact eM (PySem.W.kitx_own (cl.get _) cl.hd ha hn htk hm) I.kIn J e (fun z=>nomatch z) h
end
structure Room (k:Nat)(A:bZ):Prop where
 hd:A.handled=none
 dp:A.depth+3 * k+5<jY
 un:A.units+16 * k+200<cLine
theorem Room.mono {k:Nat}(r:Room k A)(h:j≤k):Room j A:=⟨r.hd,by have:=r.dp;lia,by have:=r.un;lia⟩
theorem Room.deeper {k:Nat}(r:Room (k+1) A)(env:Env):Room k (A.deeper env) :=
 ⟨r.hd,by have:=r.dp;show A.depth+1+3 * k+5<_;lia,by have:=r.un;show A.units+3+16 * k+200<_;lia⟩
theorem Room.in1 {k:Nat}(r:Room (k+1) A):Room k A.in1 :=
 ⟨r.hd,by have:=r.dp;show A.depth+3 * k+5<_;lia,by have:=r.un;show A.units+1+16 * k+200<_;lia⟩
theorem make_depth:(A.under (.builtin "type.__call__" ⟨.ref C::us,kw⟩)).depth=A.depth+1:=by
 first | rfl | simp [bZ.under,Code.weight,Code.isCreation,Code.isGuard,Code.isCaller,Code.frames,Code.isFrame,guardIds]
theorem make_units:(A.under (.builtin "type.__call__" ⟨.ref C::us,kw⟩)).units=A.units+1:=by
 first | rfl | simp [bZ.under,Code.cUnits,Code.frames,Code.isFrame]
theorem Room.make {k:Nat}(r:Room (k+1) A)(C:ao)(us:List ae)(kw:List (Str×ae)):Room k (A.under (.builtin "type.__call__" ⟨.ref C::us,kw⟩)) :=
 ⟨r.hd,by have:=r.dp;rw [make_depth];lia,by have:=r.un;rw [make_units];lia⟩
theorem Room.depth {k:Nat}(r:Room k A):A.depth<jY:=by have:=r.dp;lia
theorem Room.units {k:Nat}(r:Room k A):A.units+64<cLine:=by have:=r.un;lia
theorem Room.units0 {k:Nat}(r:Room k A):A.units<cLine:=by have:=r.un;lia
def tNil:TA:=fun _ H Q=>Q [] H
def pf (ta:TE)(tr:TA):TA:=fun σ H Q=>ta σ H fun x H1=>tr σ H1 fun xs H2=>Q (x::xs) H2
theorem aC:PA X [] tNil:=fun _ _ _ _ H Q I h=>Calls.spliced_nil ⟨[],H,I,.nil,h⟩
theorem ag (ha:PE X e te)(hr:PA X es t)(hs:bD (e::es) X.env=(false,eP e X.env)::bD es X.env:=by rfl):PA X (e::es) (pf te t):=by
 intro pos aP s σ H Q I h;rw [hs];show aW _ _ (spliced ((false,eP e X.env)::gF pos (bD es X.env))) _ _ s;refine Calls.spliced_cons (thn (ha aP s σ H _ I h) fun u s1 ⟨x,H1,I1,r1,q1⟩=>?_);exact thn (hr pos aP s1 σ H1 _ I1 q1) fun us s2 ⟨xs,H2,I2,r2,q2⟩=>⟨x::xs,H2,I2,.cons r1 r2,q2⟩
def tTup (t:TA):TE:=fun σ H Q=>t σ H fun xs H1=>xs.length≤bp∧∀ p,H1 p=none→Q (.ref p) (upd H1 p (.tup xs))
def tLst (t:TA):TE:=fun σ H Q=>t σ H fun xs H1=>xs.length≤bp∧∀ p,H1 p=none→Q (.ref p) (upd H1 p (.lst xs))
theorem pe_tup {x1}(h:PA X es t):PE X (.Tuple es x1 pos) (tTup t):=by
 intro aP s σ H Q I hq;refine wpAny_Tuple_spliced (thn (h pos aP s σ H _ I hq) fun us s1 ⟨xs,H1,I1,r,z,q⟩=>⟨by rw [←r.length];exact z,?_⟩);have hf:H1 s1.heap.objs.size=none:=I1.hok.fresh (aE _);refine ⟨.ref s1.heap.objs.size,upd H1 s1.heap.objs.size (.tup xs),I1.laid (t':=s1.toks) (fun b u e=>ar _ e) (aE _) ?_,rfl,q _ hf⟩;exact ⟨z,us,r,⟨_,bg _ rfl,rfl,rfl,_,rfl⟩⟩
theorem i9 (h:PA X es t):PE X (.List es pos) (tLst t):=by
 intro aP s σ H Q I hq;refine wpAny_List_spliced (thn (h pos aP s σ H _ I hq) fun us s1 ⟨xs,H1,I1,r,z,q⟩=>⟨by rw [←r.length];exact z,?_⟩);have hf:H1 s1.heap.objs.size=none:=I1.hok.fresh (aE _);refine ⟨.ref s1.heap.objs.size,upd H1 s1.heap.objs.size (.lst xs),I1.laid (t':=s1.toks) (fun b u e=>ar _ e) (aE _) ?_,rfl,q _ hf⟩;exact ⟨z,us,0,r,bg _ rfl⟩
abbrev Sp:=List V→Hp→VK→XK→Prop
abbrev CXT:=List Env→Hp→au→XK→ae→au→Prop
structure Env0 (P:aY)(w:bE)(K:aq)(mg:Str→Option ae)(base:bP)(A:bZ)(outer:List Env)(s:au)(H:Hp):Prop where
 frames:A.frames=some outer
 mod:Mod K mg base
 bs:∀ b o,base.get? b=some o→s.heap.get? b=some o∧H b=none
 bsz:base.objs.size≤s.heap.objs.size
 funs:s.heap.FunFrames base outer
 frf:∀ b∈frs outer,H b=none
 hok:HOk P w H s.heap
 bare:AllBare s.gens
def CE (outer:List Env)(P:aY)(w:bE)(H:Hp)(s:au)(Q:VK)(u:ae)(s':au):Prop :=
 ∃ v H',s'.os=s.os∧AllBare s'.gens∧Un (frs outer) [] H H' s.heap s'.heap∧HOk P w H' s'.heap∧RelV v u∧Q v H'
def CR (CX:CXT)(outer:List Env)(P:aY)(w:bE)(H:Hp)(s:au)(Q:VK)(E:XK)(r:Result)(s':au):Prop :=
 match r with
 | .ok (.ret u)=>CE outer P w H s Q u s'
 | .ok _=>False
 | .error e=>CX outer H s E e s'
structure cW (P:aY)(w:bE)(K:aq)(mg:Str→Option ae)(base:bP)(CX:CXT)(k:Nat)(f:ao)(fd:bq)(ps:List Str)(sp:Sp):Prop where
 len:∀ vs H Q E,sp vs H Q E→vs.length=ps.length
 run:∀ (A:bZ) (outer:List Env) (s:au) (H:Hp) (args:Args) (us:List ae) (vs:List V) (Q:VK) (E:XK),Room k A→Env0 P w K mg base A outer s H→BindsTo s fd args (ps.zip us)→Vals vs us→sp vs H Q E →
  jq (bx P w) A (.call (.ref f) args) (CR CX outer P w H s Q E) s
theorem Env0.make (e:Env0 P w K mg base A outer s H)(C:ao)(us:List ae)(kw:List (Str×ae)) :
  Env0 P w K mg base (A.under (.builtin "type.__call__" ⟨.ref C::us,kw⟩)) outer s H:=⟨by first | exact e.frames | (simpa [bZ.under,Code.envs,Code.isFrame,pushEnvs] using e.frames),e.mod,e.bs,e.bsz,e.funs,e.frf,e.hok,e.bare⟩
theorem Inv.env0 (I:Inv X aP σ H s):Env0 X.prog X.w X.K X.mg X.base X.A X.stack s H :=
 ⟨I.ok.frames,I.ok.mod,I.bs,bh I.ok.bsz I.sz,I.stack,I.stkFree,I.hok,I.bare⟩
theorem Inv.after {Q:VK}(I:Inv X aP σ H s)(h:CE X.stack X.prog X.w H s Q u s'):EP X aP σ Q u s':=by
 obtain ⟨v,H',os,bare,un,hok,r,q⟩:=h;obtain ⟨hh,g,d,t,os'⟩:=s';obtain rfl:os'=s.os:=os;exact ⟨v,H',I.call (h':=hh) (g':=g) (d':=d) (t':=t) (ch:=[]) un hok bare (fun b z=>rL z (by simp)),r,q⟩
def tCall (sp:Sp)(dvs:List V)(E:XK)(t:TA):TE:=fun σ H Q=>t σ H fun vs H1=>sp (vs++dvs) H1 Q E
def tMeth (C:ao)(m:Str)(sp:Sp)(dvs:List V)(E:XK)(ta:TE)(t:TA):TE:=fun σ H Q=>ta σ H fun x H1=>∃ a dx fs,x= .ref a∧H1 a=some (.ins C dx fs)∧fs.lookup m=none ∧
 t σ H1 fun vs H2=>sp (x::(vs++dvs)) H2 Q E
def tMake (C:ao)(sp:Sp)(dvs:List V)(E:XK)(t:TA):TE:=fun σ H Q=>t σ H fun vs H1=>∀ x dx,H1 x=none→H1 dx=none→dx≠x →
 sp (.ref x::(vs++dvs)) (upd (upd H1 dx (.own x)) x (.ins C dx [])) (fun v H2=>v= .non∧Q (.ref x) H2) E
def Binds (K:aq)(fd:bq)(ps:List Str)(ds:List ae):Prop :=
 ∀ (s:au) (us:List ae),K.In s.heap→(us++ds).length=ps.length→BindsTo s fd ⟨us,[]⟩ (ps.zip (us++ds))
theorem Binds.all (h:∀ us:List ae,us.length=ps.length→bindArgs fd ⟨us,[]⟩=fM (ps.zip us)):Binds K fd ps []:=fun s us _ hl=>by
 rw [dZ] at hl ⊢;exact .of_eq (h us hl)
def rA (CX:CXT)(X:Cx)(E:XK):Prop:=∀ (aP:List (ao×Obj)) (σ:St) (H:Hp) (s:au) (e:ae) (s':au),Inv X aP σ H s→CX X.stack H s E e s'→X.xe e s'
section
variable {CX:CXT}{k:Nat}{sp:Sp}{dvs:List V}{ds:List ae}{E:XK}{m:Str}{p apos:Pos}{o:Expr}
theorem run_fn {Q:VK}{vs:List V}(F:cW X.prog X.w X.K X.mg X.base CX k f fd ps sp)(hr:Room k X.A)(hb:Binds X.K fd ps ds)(hd:Vals dvs ds)(hx:rA CX X E)
  (I:Inv X aP σ H s) (r:Vals vs us) (h:sp (vs++dvs) H Q E):aW (bx X.prog X.w) X.A (call (.ref f) us) (EP X aP σ Q) X.xe s:=by
 have r2:Vals (vs++dvs) (us++ds):=r.append hd;have hl:(us++ds).length=ps.length:=by rw [←r2.length];exact F.len _ _ _ _ h
 refine wpAny_call (codeAny_mono (F.run X.A X.stack s H ⟨us,[]⟩ (us++ds) (vs++dvs) Q E hr I.env0 (hb s us I.kIn hl) r2 h) fun r s' hq=>?_);cases r with
 | error e=>exact hx aP σ H s e s' I hq
 | ok fl =>
  cases fl with
  | ret u=>exact I.after hq
  | next=>exact dg hq
  | brk=>exact dg hq
  | cont=>exact dg hq
theorem pe_call (F:cW X.prog X.w X.K X.mg X.base CX k f fd ps sp)(hr:Room k X.A)(hg:Gl X x)(hm:X.mg x=some (.ref f))(hk:fb X.K (.ref f)=true)(hb:Binds X.K fd ps ds)(hd:Vals dvs ds)(hx:rA CX X E)
  (ha:PA X (e::es) t) (hdb:(x == ("__debug__" :Str))=false:=by decide) (he:bD (e::es) X.env=(false,eP e X.env)::bD es X.env:=by rfl) (hpl:(gF pos (bD es X.env)).any (·.1)=false:=by rfl) :
  PE X (.Call (.Name x p) (e::es) [] pos) (tCall sp dvs E t):=by
 intro aP s σ H Q I h;refine e8 (ld_glob I hg hm ?_ hdb);refine kq (h₀:=X.base) I.ok.mod.kin hk (thn (ha pos aP s σ H _ I h) fun us s1 ⟨vs,H1,I1,r,q⟩=>⟨I1.kIn,?_⟩) he hpl;exact run_fn F hr hb hd hx I1 r q
theorem pe_meth {pl:Sem Bool}(he:PE X o ta)(c:Cls X.K C)(hm:Meth X.K C m f)(F:cW X.prog X.w X.K X.mg X.base CX k f fd ps sp)(hr:Room k X.A)(hb:Binds X.K fd ps ds)(hd:Vals dvs ds)(hx:rA CX X E)(ha:PA X (e::es) t)
  (hst:bD (e::es) X.env=(false,eP e X.env)::bD es X.env:=by rfl) (hpl:(gF pos (bD es X.env)).any (·.1)=false:=by rfl)
  (ht:eP (.Call (.Attribute o m apos) (e::es) [] pos) X.env=(do
   let ov ← eP o X.env
   standAt apos.atName
   let (f,first) ← holding [ov] (getMethod ov m pl)
   callWith pos f first (gF pos (bD (e::es) X.env)) (backToKw pos (keywordEach [] X.env))):=by rfl) :
  PE X (.Call (.Attribute o m apos) (e::es) [] pos) (tMeth C m sp dvs E ta t):=by
 intro aP s σ H Q I h;refine PySem.W.methodCall_KW (pl:=pl) (thn (he aP s σ H _ I h) fun u s1 ⟨x,H1,I1,rx,a,dx,fs,ex,ea,l,q⟩=>?_) ht;subst ex;obtain rfl:u=ae.ref a:=rx;refine getmeth_ok I1 ea c hm l ?_;refine kq (first:=[.ref a]) (h₀:=X.base) I.ok.mod.kin hm.kp (thn (ha pos aP s1 σ H1 _ I1 q) fun us s2 ⟨vs,H2,I2,r,q2⟩=>⟨I2.kIn,?_⟩) hst hpl;exact run_fn (us:= .ref a::us) (vs:= .ref a::vs) F hr hb hd hx I2 (.cons rfl r) q2
structure Mk (K:aq)(C f:ao):Prop where
 makes:PySem.W.makesIn K C=true
 init:cR K (.ref C) "__init__" =some (some (.ref f))
 fn:PySem.W.isFn K (.ref f)=true
 kp:fb K (.ref C)=true
theorem run_make {Q:VK}{vs:List V}(M:Mk X.K C f)(F:cW X.prog X.w X.K X.mg X.base CX k f fd ps sp)(hr:Room (k+1) X.A)(hb:Binds X.K fd ps ds)(hd:Vals dvs ds)
  (hx:rA CX X E) (I:Inv X aP σ H s) (r:Vals vs us)
  (h:∀ x dx,H x=none→H dx=none→dx≠x→sp (.ref x::(vs++dvs)) (upd (upd H dx (.own x)) x (.ins C dx [])) (fun v H2=>v= .non∧Q (.ref x) H2) E) :
  aW (bx X.prog X.w) X.A (call (.ref C) us) (EP X aP σ Q) X.xe s:=by
 have hq:=h (s.heap.objs.size+1) s.heap.objs.size (I.hok.fresh (Nat.le_succ _)) (I.hok.fresh (aE _)) (bQ (j4 _));have I2:=Inv.made (C:=C) I;have r2:Vals (V.ref (s.heap.objs.size+1)::(vs++dvs)) (ae.ref (s.heap.objs.size+1)::(us++ds)):= .cons rfl (r.append hd);have hl:(ae.ref (s.heap.objs.size+1)::us++ds).length=ps.length:=by
  have e:=r2.length;rw [F.len _ _ _ _ hq] at e;exact e.symm
 refine wpAny_call (make_map (f:=f) I.kIn M.makes M.init (beq_iff_eq.mp M.fn) (codeAny_mono (F.run _ X.stack _ _ ⟨ae.ref (s.heap.objs.size+1)::us,[]⟩ (ae.ref (s.heap.objs.size+1)::(us++ds)) _ _ E (hr.make C us [])
  (I2.env0.make C us []) (hb _ (ae.ref (s.heap.objs.size+1)::us) I2.kIn hl) r2 hq) fun r s' hq'=>?_))
 cases r with
 | error e=>exact hx aP σ _ _ e s' I2 hq'
 | ok fl =>
  cases fl with
  | ret u =>
   obtain ⟨v,H',I3,rv,ev,q3⟩:=I2.after hq';subst ev;exact ⟨rv,⟨V.ref (s.heap.objs.size+1),H',I3,rfl,q3⟩⟩
  | next=>exact dg hq'
  | brk=>exact dg hq'
  | cont=>exact dg hq'
theorem pe_make (M:Mk X.K C f)(F:cW X.prog X.w X.K X.mg X.base CX k f fd ps sp)(hr:Room (k+1) X.A)(hg:Gl X x)(hm:X.mg x=some (.ref C))(hb:Binds X.K fd ps ds)(hd:Vals dvs ds)(hx:rA CX X E)
  (ha:PA X (e::es) t) (hdb:(x == ("__debug__" :Str))=false:=by decide) (he:bD (e::es) X.env=(false,eP e X.env)::bD es X.env:=by rfl) (hpl:(gF pos (bD es X.env)).any (·.1)=false:=by rfl) :
  PE X (.Call (.Name x p) (e::es) [] pos) (tMake C sp dvs E t):=by
 intro aP s σ H Q I h;refine e8 (ld_glob I hg hm ?_ hdb);refine kq (h₀:=X.base) I.ok.mod.kin M.kp (thn (ha pos aP s σ H _ I h) fun us s1 ⟨vs,H1,I1,r,q⟩=>⟨I1.kIn,?_⟩) he hpl;exact run_make M F hr hb hd hx I1 r q
end
structure cb (N P:List Str)(sc:fH):Prop where
 kind:sc.kind= .function
 co:sc.isCoroutine=false
 gen:sc.isGenerator=false
 nd:N.Nodup
 pre:N.take P.length=P
 par:∀ x∈P,sc.names.lookup x=some .local∨sc.names.lookup x=some .cell
 nofree:∀ y∈sc.names,y.2≠ .free
theorem bindL_out {kindOf:Str→Option cP}{x:Str}:∀ {binds:List (Str×ae)} {m:Str→Option ae},(∀ v,(x,v) ∉ binds)→bindL kindOf binds m x=m x
 | [],_,_=>rfl
 | (n,v)::r,m,h=>by
  unfold bindL;rw [bindL_out fun w hw=>h w (ay _ hw)];split
  ·have:x≠n:=by rintro rfl;exact h v bw
   simp [this]
  ·rfl
theorem bindC_out {kindOf:Str→Option cP}{x:Str}:∀ {binds:List (Str×ae)} {m:Str→Option ae},(∀ v,(x,v) ∉ binds)→bindC kindOf binds m x=m x
 | [],_,_=>rfl
 | (n,v)::r,m,h=>by
  unfold bindC;rw [bindC_out fun w hw=>h w (ay _ hw)];split
  ·rfl
  ·have:x≠n:=by rintro rfl;exact h v bw
   simp [this]
theorem bindL_get {kindOf:Str→Option cP}{x:Str}{v:ae}:∀ {P:List Str} {vs:List ae} {i:Nat} {m:Str→Option ae},P.Nodup→P[i]? =some x→vs[i]? =some v→kindOf x=some .local →
  bindL kindOf (P.zip vs) m x=some v
 | [],_,_,_,_,h,_,_=>by simp at h
 | _::_,[],_,_,_,_,h,_=>by simp at h
 | p::P,w::vs,0,m,nd,h1,h2,hk=>by
  simp at h1 h2;subst h1;subst h2;show bindL kindOf ((p,w)::P.zip vs) m p=_;unfold bindL;rw [bindL_out fun v hv=>(bJ.mp nd).1 (List.of_mem_zip hv).1,rJ hk];simp
 | p::P,w::vs,i+1,m,nd,h1,h2,hk=>by
  show bindL kindOf ((p,w)::P.zip vs) m x=_;unfold bindL;exact bindL_get (i:=i) (bJ.mp nd).2 (by simpa using h1) (by simpa using h2) hk
theorem bindC_get {kindOf:Str→Option cP}{x:Str}{v:ae}:∀ {P:List Str} {vs:List ae} {i:Nat} {m:Str→Option ae},P.Nodup→P[i]? =some x→vs[i]? =some v→kindOf x≠some .local →
  bindC kindOf (P.zip vs) m x=some v
 | [],_,_,_,_,h,_,_=>by simp at h
 | _::_,[],_,_,_,_,h,_=>by simp at h
 | p::P,w::vs,0,m,nd,h1,h2,hk=>by
  simp at h1 h2;subst h1;subst h2;show bindC kindOf ((p,w)::P.zip vs) m p=_;unfold bindC;rw [bindC_out fun v hv=>(bJ.mp nd).1 (List.of_mem_zip hv).1,rG hk];simp
 | p::P,w::vs,i+1,m,nd,h1,h2,hk=>by
  show bindC kindOf ((p,w)::P.zip vs) m x=_;unfold bindC;exact bindC_get (i:=i) (bJ.mp nd).2 (by simpa using h1) (by simpa using h2) hk
def start (N:List Str)(vs:List V):St:=vs.map some++bS (N.length - vs.length) none
def cxOf (CX:CXT)(P:aY)(w:bE)(K:aq)(mg:Str→Option ae)(base:bP)(N:List Str)(qual:Str)(scope:fH)(f:ao)(cd:ae)(A:bZ)(outer:List Env)(s:au)(H:Hp)(E:XK):Cx where
 prog:=P
 w:=w
 K:=K
 mg:=mg
 base:=base
 A:=A.deeper (envOfC qual scope s.heap.objs.size f cd)
 N:=N
 s₀:=s
 H₀:=H
 env:=envOfC qual scope s.heap.objs.size f cd
 outer:=outer
 stack:=envOfC qual scope s.heap.objs.size f cd::outer
 ex:=[]
 calm:=true
 fn:=fun _=>true
 pn:=[]
 xe:=fun e s'=>aW (bx P w) (A.deeper (envOfC qual scope s.heap.objs.size f cd)) (leaving (envOfC qual scope s.heap.objs.size f cd) e) (fun _ s''=>CX outer H s E e s'') (fun e' s''=>CX outer H s E e' s'') s'
theorem cell_has {sc:fH}(h:sc.names.lookup x=some .cell):∃ c,(cellsFrom n sc.names []).lookup x=some c:=by
 have q:=PySem.W.cellsFrom_some sc.names n [] (.inl h);exact Option.isSome_iff_exists.mp q
theorem inv_start {CX:CXT}{cd:ae}{s1:au}{E:XK}{vs:List V}
  (S:cb N ps scope) (hd:A.handled=none) (e0:Env0 P w K mg base A outer s H) (hl:vs.length=ps.length) (r:Vals vs us)
  (x:InCallC s s.heap.objs.size (bindL (envOfC qual scope s.heap.objs.size f cd).kindOf (ps.zip us) fun _=>none) (cellsFrom (s.heap.objs.size+1) scope.names []) (bindC (envOfC qual scope s.heap.objs.size f cd).kindOf (ps.zip us) fun _=>none) s1) :
  Inv (cxOf CX P w K mg base N qual scope f cd A outer s H E) [] (start N vs) H s1:=by
 have hpl:ps.length≤N.length:=by have:=rQ List.length S.pre;rw [bL] at this;lia
 obtain ⟨h1,tk,rfl,hk⟩:=x.done;have noA:∀ b:ao,b ∉ (cxOf CX P w K mg base N qual scope f cd A outer s H E).ex:=fun b z=>rL (show b∈([]:List ao) from z) (by simp)
 refine ⟨⟨e0.mod,S.kind,rfl,rfl,aE _,fun y z c h1 h2=>?_,fun y hy=>?_,fun y c _ h=>?_,fun _=>hd,bZ.frames_deeper e0.frames,.inr ⟨rfl,rfl⟩,fun b z=>rL z (noA b),e0.bs,e0.bsz,fun b _ _=>noA b,fun b z=>rL z (noA b),e0.funs,e0.frf⟩,
  rfl,e0.bare,Un.kept hk,⟨_,x.toInCall.ns,fun i y v h1 h2 h3=>?_⟩,fun y c h=>⟨_,x.cell y c h⟩,e0.hok.fresh (aE _),fun y c h=>?_,fun p hp=>rL (show p∈([]:List (ao×Obj)) from hp) (by simp),e0.hok.kept hk,?_⟩
 ·exact name_of_addr x.apart (cE h1) (cE h2)
 ·have hy:scope.names.lookup y=some .cell∨scope.names.lookup y=some .free:=hy
  rcases hy with hy | hy
  ·exact cell_has hy
  ·exact rL rfl (S.nofree _ (cE hy))
 ·exact iW (x.above y c (cE h))
 ·have hi:i<vs.length:=by
   unfold start at h2
   by_cases hi:i<vs.length
   ·exact hi
   ·rw [cf (by simpa using hi)] at h2
    rw [List.getElem?_replicate] at h2;split at h2 <;> cases h2
  have ha:vs[i]? =some v:=by
   unfold start at h2;rw [gB (by simpa using hi),ax] at h2;cases e:vs[i]? with
   | none=>rw [e] at h2;cases h2
   | some a=>rw [e] at h2;cases h2;rfl
  obtain ⟨u,hu,rv⟩:=r.get ha;have hp:ps[i]? =some y:=by
   rw [←S.pre,List.getElem?_take_of_lt (by lia)];exact h1
  have ndP:ps.Nodup:=by rw [←S.pre];exact S.nd.sublist (List.take_sublist _ _)
  refine ⟨u,rv,?_⟩
  rcases S.par y (bj hp) with k | k
  ·exact .inl ⟨k,bindL_get ndP hp hu k⟩
  ·obtain ⟨c,e⟩:=cell_has (n:=s.heap.objs.size+1) k
   refine .inr ⟨.inl k,c,e,?_⟩;have q:=x.cell y c e;rw [bindC_get ndP hp hu (by show scope.names.lookup y≠_;rw [k];decide)] at q;exact q
 ·exact e0.hok.fresh (iW (x.above y c (cE h)))
 ·unfold start
  show _=N.length;rw [av,aa,ix];lia
theorem fn_of {CX:CXT}{k:Nat}{body:List cU}{dV kV doc pm cdv ct oc:ae}{an od:Option ao}
  {sp:Sp} (lk:K.lookup f=some ⟨oc,od,.func (dY name qual params body scope dV kV doc pm an cdv ct),osl⟩) (hcd:iB K cdv qual=true) (S:cb N ps scope)
  (len:∀ vs H Q E,sp vs H Q E→vs.length=ps.length)
  (hbody:∀ (A:bZ) (outer:List Env) (s:au) (H:Hp) (vs:List V) (Q:VK) (E:XK),Room k (A.deeper (envOfC qual scope s.heap.objs.size f cdv))→sp vs H Q E →
   ∃ t,PSs (cxOf CX P w K mg base N qual scope f cdv A outer s H E) body t∧t { nx:=fun _ H'=>Q .non H',rt:=Q } (start N vs) H) :
  cW P w K mg base CX (k+1) f (dY name qual params body scope dV kV doc pm an cdv ct) ps sp:=by
 refine ⟨len,fun A outer s H args us vs Q E hr e0 hb r hsp=>?_⟩;have hl:=len _ _ _ _ hsp;have KX:K.In s.heap:=e0.mod.kin.keeps fun b o e=>(e0.bs b o e).1
 have lim:s.heap.NoLimit:=e0.mod.nolimit.keeps fun b o e=>(e0.bs b o e).1
 have mx:∀ y∈ps.zip us,scope.names.lookup y.1=some .local∨(scope.names.lookup y.1=some .cell∧((cellsFrom (s.heap.objs.size+1) scope.names []).lookup y.1).isSome=true):=fun ⟨n,v⟩ hy=>by
  rcases S.par n (List.of_mem_zip hy).1 with q | q
  ·exact .inl q
  ·exact .inr ⟨q,PySem.W.cellsFrom_some _ _ _ (.inl q)⟩
 refine codeAny_call_function hr.depth (KX _ _ lk) rfl S.co S.gen rfl (PySem.W.codeRec_of KX hcd) (hb _ _ _ _ ?_);refine wpAny_newFunctionEnv_cells S.kind mx fun env he s1 x=>?_
 subst he;refine ⟨lim.keeps x.toInCall.keep,codeAny_func ?_⟩;obtain ⟨t,ht,hq⟩:=hbody A outer s H vs Q E (hr.deeper _) hsp;have I:Inv (cxOf CX P w K mg base N qual scope f cdv A outer s H E) [] (start N vs) H s1:=inv_start S hr.hd e0 hl r x;refine cx (ht [] s1 (start N vs) H _ I hq) (fun fl s' hs=>?_) fun e s' hs=>hs
 have fin:∀ {σ':St} {H':Hp} {v:V} {u:ae},Inv (cxOf CX P w K mg base N qual scope f cdv A outer s H E) [] σ' H' s'→RelV v u→Q v H'→CE outer P w H s Q u s' :=
  fun {σ' H' v u} J rv q=>⟨v,H',J.os,J.bare,J.base,J.hok,rv,q⟩
 cases fl with
 | ret u =>
  obtain ⟨v,σ',H',J,rv,q⟩:=hs;exact fin J rv q
 | next =>
  obtain ⟨σ',H',J,q⟩:=hs;exact fin (v:=V.non) (u:=ae.none) J rfl q
 | brk =>
  obtain ⟨_,_,_,q⟩:=hs;exact dg q
 | cont =>
  obtain ⟨_,_,_,q⟩:=hs;exact dg q
section
variable {p:Pos}{id:String}{r:List V→Hp→VK→Prop}
def tCB (r:List V→Hp→VK→Prop)(t:TA):TE:=fun σ H Q=>t σ H fun vs H1=>r vs H1 Q
theorem cy (hc:CallR X (.builtin id) r)(hg:Gl X x)(hm:X.mg x=none)(hv:bootBuiltins x=some (.builtin id))(ha:PA X (e::es) t)(hn:x ≠ "__name__" := by decide)(hdb:(x == ("__debug__" :Str))=false:=by decide)
  (he:bD (e::es) X.env=(false,eP e X.env)::bD es X.env:=by rfl) (hpl:(gF pos (bD es X.env)).any (·.1)=false:=by rfl):PE X (.Call (.Name x p) (e::es) [] pos) (tCB r t):=by
 intro aP s σ H Q I h;refine e8 (lU I hg hm hv ?_ hn hdb);exact PyProof.Rows.callWith_builtin1 (thn (ha pos aP s σ H _ I h) fun us s1 ⟨vs,H1,I1,r1,q1⟩=>hc aP s1 σ H1 vs us Q I1 r1 q1) he hpl
theorem fP (hc:CallR X (.type T) r)(hg:Gl X x)(hm:X.mg x=none)(hv:bootBuiltins x=some (.type T))(ha:PA X (e::es) t)(hn:x ≠ "__name__" := by decide)(hdb:(x == ("__debug__" :Str))=false:=by decide)
  (he:bD (e::es) X.env=(false,eP e X.env)::bD es X.env:=by rfl) (hpl:(gF pos (bD es X.env)).any (·.1)=false:=by rfl):PE X (.Call (.Name x p) (e::es) [] pos) (tCB r t):=by
 intro aP s σ H Q I h;refine e8 (lU I hg hm hv ?_ hn hdb);exact eN (thn (ha pos aP s σ H _ I h) fun us s1 ⟨vs,H1,I1,r1,q1⟩=>hc aP s1 σ H1 vs us Q I1 r1 q1) he hpl
end
end L2
variable {CW:L2.St→L2.VK→L2.It→L2.Hp→Prop}{CX:L2.CXT}{g:L2.TG}{wi:L2.TI}
namespace HT
open PySem PyProof.Rows
theorem cat_tup {t b:ao}{ws:List ae}(ht:IsTup s.heap t vs.toArray)(hb:IsTup s.heap b ws.toArray)(hv:vs≠[])
  (h1:ws=[]→Q (.ref t) s) (h2:ws≠[]→Q (.ref s.heap.objs.size) { s with heap:=s.heap.push { cls:= .type "tuple",data:= .seq (vs++ws).toArray } })
  (hsz:vs.length+ws.length≤bp):aW (bx prog w) A (gW .Add (.ref t) (.ref b)) Q E s:=by
 obtain ⟨⟨cls,dd,data,sl⟩,ho,hc,n,hd⟩:=id ht;obtain ⟨⟨cls2,dd2,data2,sl2⟩,ho2,hc2,n2,hd2⟩:=id hb;simp only at hc hd hc2 hd2;subst hc hd hc2 hd2;have e:vs.toArray++ws.toArray=(vs++ws).toArray:=by simp
 by_cases hw:ws=[]
 ·exact concat_meets ⟨_,ho,rfl⟩ ⟨_,ho2,rfl⟩ noFill_tuple_add seq_tuple_add PySem.F.slot_tuple_add k9 (kL _ _)
   (tuple_addW1 t b vs.toArray ws.toArray n n2 dd dd2 sl sl2 (by simpa using hv) (by simp [hw])) ⟨ho,ho2,h1 hw⟩
 ·refine concat_meets ⟨_,ho,rfl⟩ ⟨_,ho2,rfl⟩ noFill_tuple_add seq_tuple_add PySem.F.slot_tuple_add k9 (kL _ _)
   (tuple_addW2 t b vs.toArray ws.toArray n n2 dd dd2 sl sl2 (by simpa using hv) (by simpa using hw) (by rw [aJ,aJ];exact hsz)) ⟨ho,ho2,?_⟩
  rw [e];exact h2 hw
def sIx (n d:Nat):Option Int→Nat
 | none=>d
 | some v=>if v<0 then (v+(n:Int)).toNat else min v.toNat n
theorem sIx_nat (n d k:Nat):sIx n d (some (k:Int))=min k n:=by
 show (if (k:Int)<0 then ((k:Int)+(n:Int)).toNat else min (k:Int).toNat n)=min k n;rw [rG (by lia),cL]
theorem sIx_le (n d:Nat)(hd:d≤n)(o:Option Int):sIx n d o≤n:=by
 cases o with
 | none=>exact hd
 | some v =>
  show (if v<0 then (v+(n:Int)).toNat else min v.toNat n)≤n
  by_cases hv:v<0
  ·rw [rJ hv];lia
  ·rw [rG hv];exact Nat.min_le_right _ _
theorem clip_eq (v:Int)(n d:Nat):(if v<0 then max (v+(n:Int)) 0 else min v (n:Int))=((sIx n d (some v):Nat):Int):=by
 show (if v<0 then max (v+(n:Int)) 0 else min v (n:Int))=(((if v<0 then (v+(n:Int)).toNat else min v.toNat n):Nat):Int)
 by_cases hv:v<0
 ·simp only [rJ hv];lia
 ·simp only [rG hv];lia
theorem adjust_gen (lo hi:Option Int)(n:Nat):j7 lo hi 1 (n:Int)=(((sIx n 0 lo:Nat):Int),((sIx n n hi:Nat):Int)):=by
 have h1:¬ ((1:Int)<0):=by lia
 unfold j7;simp only [h1,if_false];refine Prod.ext ?_ ?_
 ·cases lo with
  | none=>rfl
  | some v=>exact clip_eq v n 0
 ·cases hi with
  | none=>rfl
  | some v=>exact clip_eq v n n
theorem places_gen (i j:Nat):cT (i:Int) (j:Int) 1=j - i:=by
 unfold cT;have h1:(1:Int) > 0:=by lia
 simp only [h1,if_true,Int.ediv_one];split <;> lia
theorem qW {v:ae}{o:Option Int}{Q:Option Int→au→Prop}(p:IsPart v o)(h:Q o s):aW (bx prog w) A (fX.Slice.slicePartIndex v) Q E s:=by
 cases p with
 | none=>exact jW h
 | int i t=>exact slicePart_int h
theorem sliceApplied_gen {vl vu:ae}{lo:Option Int}{Q:Int×Int×Nat→au→Prop}(hs:s.heap.IsSliceOf sl vl vu .none)(pl:IsPart vl lo)(pu:IsPart vu hi)
  (h:Q (((sIx n 0 lo:Nat):Int),1,sIx n n hi - sIx n 0 lo) s):aW (bx prog w) A (eR (.ref sl) (fM (n:Int))) Q E s:=by
 obtain ⟨os,hos,hcs,hds⟩:=id hs;unfold eR j6;refine ah (ah (dm hos hds (x:=vl) rfl (ah (dm hos hds (x:=vu) rfl (ah (dm hos hds (x:= .none) rfl (aL ?_)))))));refine ah (jW ?_);show aW _ _ (if ((1:Int) == 0)=true then _ else _) _ _ s;rw [rG (by decide)];refine ah (qW pl (ah (qW pu (ah (aL ?_)))));show aW _ _ (match j7 lo hi 1 (n:Int) with | (lo,hi)=>fM (lo,(1:Int),cT lo hi 1)) _ _ s;rw [adjust_gen lo hi n];show aW _ _ (fM (((sIx n 0 lo:Nat):Int),(1:Int),cT ((sIx n 0 lo:Nat):Int) ((sIx n n hi:Nat):Int) 1)) _ _ s;rw [places_gen];exact aL h
theorem pick_gen (xs:Array ae)(i k:Nat):((aQ k).filterMap fun (m:Nat)=>xs[((i:Int)+(m:Int) * 1).toNat]?).toArray=((xs.toList.drop i).take k).toArray:=by
 have e:(fun (m:Nat)=>xs[((i:Int)+(m:Int) * 1).toNat]?)=fun m=>xs[i+m]? := by
  funext m
  have:((i:Int)+(m:Int) * 1).toNat=i+m:=by lia
  rw [this]
 rw [e];have:=pick_run xs i k;rw [List.filterMap_map] at this;have e2:((fun x=>xs[x]?) ∘ fun x=>i+x)=fun m=>xs[i+m]? := rfl
 rw [e2] at this;rw [this]
theorem getItem_tuple_cut {t:ao}{vl vu:ae}{lo:Option Int}(ht:IsTup s.heap t items)(hs:s.heap.IsSliceOf sl vl vu .none)(pl:IsPart vl lo)(pu:IsPart vu hi)
  (hw:¬ (sIx items.size 0 lo=0∧sIx items.size items.size hi=items.size))
  (h:Q (.ref s.heap.objs.size) { s with heap:=s.heap.push { cls:= .type "tuple",data:= .seq ((items.toList.drop (sIx items.size 0 lo)).take (sIx items.size items.size hi - sIx items.size 0 lo)).toArray } })
  (hsz:items.size≤bp):aW (bx prog w) A (ja (.ref t) (.ref sl)) Q E s:=by
 have htake:sizeOk (.seq ((items.toList.drop (sIx items.size 0 lo)).take (sIx items.size items.size hi - sIx items.size 0 lo)).toArray):=by
  show ((items.toList.drop (sIx items.size 0 lo)).take (sIx items.size items.size hi - sIx items.size 0 lo)).toArray.size≤bp;rw [aJ,bL,eY,cq];lia
 have hj:sIx items.size items.size hi≤items.size:=sIx_le _ _ (aE _) hi;obtain ⟨os,hos,hcs,hds⟩:=id hs;have hTs:s.TypeIs (.ref sl) "slice" := ⟨os,hos,hcs⟩;unfold ja
 try with_reducible refine dQ ?_
 first | refine ah (aL ?_) | skip
 refine ah (wpAny_sequenceKey ht.typeIs (by decide) ?_);refine ah (d5 (name:=df "__getitem__") ht.typeIs bR
  (gu bR ht.typeIs kN ?_ (lI _ _)))
 show aW _ _ (g9 (.ref t) >>= _) _ _ s;refine ah (tupleItemsOf_ ht ?_);refine ah (wpAny_typeOf hTs ?_);rw [rJ (by decide)];refine ah (sliceApplied_gen hs pl pu ?_);have hno:¬ ((((sIx items.size 0 lo:Nat):Int) == 0 && (1:Int) == 1 && (sIx items.size items.size hi - sIx items.size 0 lo) == items.size)=true):=by
  intro q;rw [dM,dM] at q;have q1:((sIx items.size 0 lo:Nat):Int)=0:=eq_of_beq q.1.1;have q2:sIx items.size items.size hi - sIx items.size 0 lo=items.size:=eq_of_beq q.2;exact hw ⟨by lia,by lia⟩
 show aW _ _ (if (((sIx items.size 0 lo:Nat):Int) == 0 && (1:Int) == 1 && (sIx items.size items.size hi - sIx items.size 0 lo) == items.size)=true then _ else _) _ _ s;rw [rG hno,pick_gen]
 first
  | exact ah (m:=dA _) (dh (aL ⟨_,rfl,aL h⟩) htake)
  | exact ah (m:=dA _) (dh (ah (aL (aL ⟨_,rfl,aL h⟩))) htake)
  | exact ah (ah (m:=dA _) (dh (aL (aL ⟨_,rfl,aL h⟩)) htake))
  | exact ah (ah (m:=dA _) (dh (aL ⟨_,rfl,aL h⟩) htake))
end HT
namespace L2
open PySem PySem.Spec PyProof.Rows
abbrev TO:=St→Hp→(Option Int→Hp→Prop)→Prop
def PO (X:Cx)(e:Option Expr)(t:TO):Prop :=
 ∀ (aP:List (ao×Obj)) (s:au) (σ:St) (H:Hp) (Q:Option Int→Hp→Prop),Inv X aP σ H s→t σ H Q →
  aW (bx X.prog X.w) X.A (evalPart e X.env) (fun u s'=>∃ o H',Inv X aP σ H' s'∧IsPart u o∧Q o H') X.xe s
def tNoPart:TO:=fun _ H Q=>Q none H
def tPart (t:TE):TO:=fun σ H Q=>t σ H fun x H1=>∃ i,x= .int i∧Q (some i) H1
section
variable {lo hi:Option Expr}{tl th:TO}
theorem pZ:PO X none tNoPart:=by
 intro aP s σ H Q I h;rw [evalPart_none];exact aL ⟨none,H,I,.none,h⟩
theorem pY (h:PE X e te):PO X (some e) (tPart te):=by
 intro aP s σ H Q I hw;rw [evalPart_some];refine thn (h aP s σ H _ I hw) fun u s1 ⟨x,H1,I1,r1,q1⟩=>?_
 obtain ⟨i,rfl,q⟩:=q1;obtain ⟨t,rfl⟩:=r1;exact ⟨some i,H1,I1,.int i t,q⟩
def SlR (X:Cx)(r:V→Option Int→Option Int→Hp→VK→Prop):Prop :=
 ∀ (aP:List (ao×Obj)) (s:au) (σ:St) (H:Hp) (x:V) (v vl vu:ae) (lo hi:Option Int) (sl:ao) (Q:VK),Inv X aP σ H s→RelV x v→s.heap.IsSliceOf sl vl vu .none→IsPart vl lo→IsPart vu hi→r x lo hi H Q →
  ∃ T id,typeLookup (.type T) "__getitem__" =fM (some (.builtin id))∧s.TypeIs v T∧aW (bx X.prog X.w) X.A (ja v (.ref sl)) (EP X aP σ Q) X.xe s
def tSl (r:V→Option Int→Option Int→Hp→VK→Prop)(te:TE)(tl th:TO):TE:=fun σ H Q=>te σ H fun x H1=>tl σ H1 fun l H2=>th σ H2 fun u H3=>r x l u H3 Q
theorem nc (hr:SlR X r)(he:PE X e te)(hl:PO X lo tl)(hu:PO X hi th):PE X (.Subscript e (.Slice lo hi none p2) pos) (tSl r te tl th):=by
 intro aP s σ H Q I h;refine Subscript_ (thn (he aP s σ H _ I h) fun v s1 ⟨x,H1,I1,r1,q1⟩=>?_);refine wpAny_Slice (thn (hl aP s1 σ H1 _ I1 q1) fun vl s2 ⟨l,H2,I2,pl,q2⟩=>thn (hu aP s2 σ H2 _ I2 q2) fun vu s3 ⟨u,H3,I3,pu,q3⟩=>?_);rw [evalPart_none];refine aL ?_;have I4:Inv X aP σ H3 { s3 with heap:=s3.heap.push { cls:= .type "slice",data:= .fields #[vl,vu,.none] } }:=I3.kept (t':=s3.toks) fun b ob q=>ar _ q
 obtain ⟨T,id,hT,ht,hg⟩:=hr aP { s3 with heap:=s3.heap.push { cls:= .type "slice",data:= .fields #[vl,vu,.none] } } σ H3 x v vl vu l u s3.heap.objs.size Q I4 r1 (bP.IsSliceOf.new ..) pl pu q3;show aW (bx X.prog X.w) X.A (subscriptTail e (.Slice lo hi none p2) v (.ref s3.heap.objs.size)) (EP X aP σ Q) X.xe { s3 with heap:=s3.heap.push { cls:= .type "slice",data:= .fields #[vl,vu,.none] } };exact tail_any (ops:=[.ref s3.heap.objs.size,v]) ht hT hg (by with_unfolding_all rfl)
def cutV (xs:List V)(lo hi:Option Int):List V:=(xs.drop (HT.sIx xs.length 0 lo)).take (HT.sIx xs.length xs.length hi - HT.sIx xs.length 0 lo)
theorem qG (xs:List V)(lo hi:Option Int):(cutV xs lo hi).length≤xs.length:=by
 unfold cutV;rw [bL,eY];lia
def rSlT (K:aq):V→Option Int→Option Int→Hp→VK→Prop:=fun x lo hi H Q=>∃ a xs,x= .ref a∧SqT K H a xs ∧
 ¬ (HT.sIx xs.length 0 lo=0∧HT.sIx xs.length xs.length hi=xs.length)∧∀ p,H p=none→Q (.ref p) (upd H p (.tup (cutV xs lo hi)))
theorem sl_tup:SlR X (rSlT X.K):=by
 intro aP s σ H x v vl vu lo hi sl Q I rx hs pl pu h;obtain ⟨a,xs,rfl,hx,hw,q⟩:=h;cases rx;obtain ⟨its,r,ht,hz⟩:=I.tuple hx;have hlen:its.toArray.size=xs.length:=by rw [aJ];exact r.length.symm
 refine ⟨"tuple",_,bR.lookup,ht.typeIs,?_⟩;refine HT.getItem_tuple_cut ht hs pl pu (by rw [hlen];exact hw) ?_ (by rw [hlen];exact hz);rw [hlen];refine ⟨.ref s.heap.objs.size,_,I.laid (t':=s.toks) (o:= .tup (cutV xs lo hi)) (fun b ob q=>ar _ q) (aE _) ?_,rfl,q _ (I.hok.fresh (aE _))⟩;exact ⟨bh (qG xs lo hi) hz,_,(r.drop (HT.sIx xs.length 0 lo)).take (HT.sIx xs.length xs.length hi - HT.sIx xs.length 0 lo),IsTupN.new _ _⟩
inductive rCatT (K:aq)(x:V)(y:V)(H:Hp)(Q:VK):Prop
 | mk (a b xs ys:_)(_:x= .ref a)(_:y= .ref b)(_:SqT K H a xs)(_:SqT K H b ys)(_:xs≠[])(_:xs.length+ys.length≤bp)(_:(ys=[]→Q (.ref a) H))(_:(ys≠[]→∀ p,H p=none→Q (.ref p) (upd H p (.tup (xs++ys)))))
theorem Vals.nil_iff (r:Vals xs us):us=[]↔xs=[]:=by
 cases r with
 | nil=>simp
 | cons _ _=>simp
theorem op_catT:OpR X (gW .Add) (rCatT X.K):=by
 intro aP s σ H x y v u Q I rx ry h;obtain ⟨a,b,xs,ys,rfl,rfl,ha,hb,hx,hz,q1,q2⟩:=h;cases rx;cases ry;obtain ⟨its,r1,p1,_⟩:=I.tuple ha;obtain ⟨its2,r2,p2,_⟩:=I.tuple hb;refine HT.cat_tup p1 p2 (fun z=>hx (r1.nil_iff.mp z)) (fun z=>⟨.ref a,H,I,rfl,q1 (r2.nil_iff.mp z)⟩) (fun z=>?_) (by rw [←r1.length,←r2.length];exact hz);refine ⟨.ref s.heap.objs.size,_,I.laid (t':=s.toks) (o:= .tup (xs++ys)) (fun b ob q=>ar _ q) (aE _) ?_,rfl,q2 (fun w=>z (r2.nil_iff.mpr w)) _ (I.hok.fresh (aE _))⟩;exact ⟨by rw [av];exact hz,_,r1.append r2,IsTupN.new _ _⟩
end
def ixN (n:Nat)(i:Int):Option Nat:=if 0≤i then (if i<n then some i.toNat else none) else if -(n:Int)≤i then some (i+n).toNat else none
def atI {α:Type}(xs:List α)(i:Int):Option α:=(ixN xs.length i).bind fun j=>xs[j]?
theorem ixN_seq {i:Int}(h:ixN n i=some j):seqIndex? i n=some j∧j<n∧ -(n:Int)≤i∧i<n:=by
 unfold ixN at h
 by_cases h0:0≤i
 ·rw [rJ h0] at h
  by_cases h1:i<n
  ·rw [rJ h1] at h
   have e:i.toNat=j:=cG h;exact ⟨by rw [seqIndex_of h0 h1,e],by lia,by lia,h1⟩
  ·rw [rG h1] at h;cases h
 ·rw [rG h0] at h
  by_cases h1: -(n:Int)≤i
  ·rw [rJ h1] at h
   have e:(i+n).toNat=j:=cG h;exact ⟨by rw [seqIndex_neg (by lia) h1,e],by lia,h1,by lia⟩
  ·rw [rG h1] at h;cases h
theorem atI_get {xs:List α}{i:Int}{v:α}(h:atI xs i=some v):∃ j,seqIndex? i xs.length=some j∧xs[j]? =some v∧j<xs.length∧ -(xs.length:Int)≤i∧i<xs.length:=by
 unfold atI at h;cases e:ixN xs.length i with
 | none=>rw [e] at h;cases h
 | some j =>
  rw [e] at h;obtain ⟨h1,h2,h3,h4⟩:=ixN_seq e;exact ⟨j,h1,h,h2,h3,h4⟩
theorem az {xs:List α}{v:α}(h:xs[j]? =some v):atI xs (j:Int)=some v:=by
 have hj:j<xs.length:=(ak.mp h).1;have e:ixN xs.length (j:Int)=some j:=by
  unfold ixN;rw [rJ (by lia),rJ (by lia)];simp
 unfold atI;rw [e];exact h
def PlainIx (b:Expr):Prop:=∀ o i,subscripted b false o i=operate [o,i] (ja o i)
def IxR (X:Cx)(r:R2):Prop :=
 ∀ (value slice:Expr) (aP:List (ao×Obj)) (s:au) (σ:St) (H:Hp) (x y:V) (v u:ae) (Q:VK),Inv X aP σ H s→RelV x v→RelV y u→r x y H Q →
  subscripted slice false v u=operate [v,u] (ja v u)→aW (bx X.prog X.w) X.A (subscriptTail value slice v u) (EP X aP σ Q) X.xe s
def MtR (X:Cx)(id:String)(r:V→List V→Hp→VK→Prop):Prop :=
 ∀ (aP:List (ao×Obj)) (s:au) (σ:St) (H:Hp) (x:V) (xs:List V) (v:ae) (us:List ae) (Q:VK),Inv X aP σ H s→RelV x v→Vals xs us→r x xs H Q →
  aW (bx X.prog X.w) X.A (call (.builtin id) (v::us)) (EP X aP σ Q) X.xe s
section
variable {a b:Expr}{tb:TE}
theorem dG {r:R2}(hr:IxR X r)(ha:PE X a ta)(hb:PE X b tb)(hs:PlainIx b):PE X (.Subscript a b pos) (tOp r ta tb):=by
 intro aP s σ H Q I h;exact Subscript_ (binT ha hb I h fun v u s2 x y H2 I2 rx ry q=>hr a b aP s2 σ H2 x y v u Q I2 rx ry q (hs _ _))
inductive rIxL (K:aq)(x:V)(y:V)(H:Hp)(Q:VK):Prop
 | mk (p xs i v:_)(_:x= .ref p)(_:y= .int i)(_:SqL K H p xs)(_:atI xs i=some v)(_:Q v H)
inductive ow (K:aq)(x:V)(y:V)(H:Hp)(Q:VK):Prop
 | mk (p xs i v:_)(_:x= .ref p)(_:y= .int i)(_:SqT K H p xs)(_:atI xs i=some v)(_:Q v H)
theorem eD:IxR X (rIxL X.K):=by
 intro value slice aP s σ H x y v u Q I rx ry h hs;obtain ⟨p,xs,i,z,rfl,rfl,hq,he,q⟩:=h;cases rx;obtain ⟨t,rfl⟩:=ry;obtain ⟨its,r,pl,hz⟩:=I.list hq;obtain ⟨j,h1,h2,h3,h4,h5⟩:=atI_get he;obtain ⟨w,ew,rw'⟩:=r.get h2;have hl:=r.length;have hn:=line63;have fin:EP X aP σ Q w s:=⟨z,H,I,rw',q⟩
 by_cases h0:0≤i
 ·have hj:i.toNat=j:=by
   rw [seqIndex_of h0 h5] at h1;exact cG h1
  exact item_listR pl.isList h0 (by lia) (by rw [hj];simpa using ew) fin hs
 ·have hj:(i+(its.toArray.size:Int)).toNat=j:=by
   rw [seqIndex_neg (by lia) h4] at h1;rw [aJ,←hl];exact cG h1
  exact subscriptTail_builtinR (x:=w) pl.isList.typeIs slot_list_getitem.lookup
   (wpAny_getItem_list_neg (Q:=fun r s'=>r=w∧EP X aP σ Q r s') pl.isList (by lia) (by rw [aJ] <;> lia) (by lia) (by rw [hj];simpa using ew) ⟨rfl,fin⟩) hs
theorem dN:IxR X (ow X.K):=by
 intro value slice aP s σ H x y v u Q I rx ry h hs;obtain ⟨p,xs,i,z,rfl,rfl,hq,he,q⟩:=h;cases rx;obtain ⟨t,rfl⟩:=ry;obtain ⟨its,r,pl,hz⟩:=I.tuple hq;obtain ⟨j,h1,h2,h3,h4,h5⟩:=atI_get he;obtain ⟨w,ew,rw'⟩:=r.get h2;have hl:=r.length;have hn:=line63;have fin:EP X aP σ Q w s:=⟨z,H,I,rw',q⟩;exact subscriptTail_builtinR (x:=w) pl.typeIs slot_tuple_getitem.lookup
  (getItem_tuple (j:=j) (Q:=fun r s'=>r=w∧EP X aP σ Q r s') pl (by lia) (by lia) (by rw [aJ,←hl];exact h1) (by simpa using ew) ⟨rfl,fin⟩) hs
theorem mapSeq_set (its:List ae)(n j:Nat)(u:ae):cV (·.setIfInBounds j u) { cls:= .type "list",data:= .seq its.toArray n }={ cls:= .type "list",data:= .seq (its.set j u).toArray n }:=by
 simp [cV]
theorem Inv.lst {aP:List (ao×Obj)}{σ:St}{H:Hp}{s:au}{p:ao}{xs:List V}(I:Inv X aP σ H s)(h:H p=some (.lst xs)) :
  ∃ (its:List ae) (n:Nat),Vals xs its∧s.heap.get? p=some { cls:= .type "list",data:= .seq its.toArray n }∧xs.length≤bp:=by
 obtain ⟨z,its,n,r,e⟩:=I.hok p _ h;exact ⟨its,n,r,e,z⟩
theorem Inv.lstUpd {p:ao}{its':List ae}{n':Nat}{f:Obj→Obj}(I:Inv X aP σ H s)(h:H p=some (.lst xs))
  (ho:s.heap.get? p=some { cls:= .type "list",data:= .seq its.toArray n }) (hf:f { cls:= .type "list",data:= .seq its.toArray n }={ cls:= .type "list",data:= .seq its'.toArray n' }) (r:Vals ys its') (hz:ys.length≤bp) (t:Nat) :
  Inv X aP σ (upd H p (.lst ys)) { s with heap:=s.heap.update p f,toks:=t }:=by
 have e:(s.heap.update p f).get? p=some { cls:= .type "list",data:= .seq its'.toArray n' }:=by
  rw [bP.get?_update_self f ho (by rw [hf] <;> rfl),hf]
 refine I.write (x:=p) (e:=p) (by rw [h];trivial) (.inl rfl) (fun b u hb q=>(jx _ _ (cN hb)).trans q) ⟨_,e⟩ ?_;exact ⟨hz,its',n',r,e⟩
def rSetL:V→V→V→Hp→(Hp→Prop)→Prop:=fun o i v H Q=>∃ p xs k j,o= .ref p∧i= .int k∧H p=some (.lst xs)∧ixN xs.length k=some j∧Q (upd H p (.lst (xs.set j v)))
theorem mX:PSet X rSetL:=by
 intro aP s σ H o i v ov iv u Q I ro ri rv h;obtain ⟨p,xs,k,j,rfl,rfl,hp,hj,q⟩:=h;cases ro;obtain ⟨t,rfl⟩:=ri;obtain ⟨its,n,r,ho,hz⟩:=I.lst hp;obtain ⟨h1,h2,h3,h4⟩:=ixN_seq hj;have hl:=r.length;have hn:=line63;have I':Inv X aP σ (upd H p (.lst (xs.set j v))) { s with heap:=s.heap.update p (cV (·.setIfInBounds j u)) } :=
  I.lstUpd hp ho (mapSeq_set its n j u) (r.set rv j) (by rw [ft];exact hz) s.toks
 by_cases h0:0≤k
 ·have hk:k.toNat=j:=by
   rw [seqIndex_of h0 h4] at h1;exact cG h1
  exact PySem.W.ki_setAt ho h0 (by lia) (by rw [aJ,←hl];exact h4) (by rw [hk];exact ⟨_,I',q⟩)
 ·have hk:(k+(its.toArray.size:Int)).toNat=j:=by
   rw [seqIndex_neg (by lia) h3] at h1;rw [aJ,←hl];exact cG h1
  exact PySem.W.ki_setBack ho (by lia) (by rw [aJ,←hl];exact h3) (by lia) (by rw [hk];exact ⟨_,I',q⟩)
theorem slice_bounds (lo hi:Option Int)(n:Nat):(kz lo hi none n).1=((HT.sIx n 0 lo:Nat):Int)∧(kz lo hi none n).2.1=((HT.sIx n n hi:Nat):Int)∧(kz lo hi none n).2.2=1:=by
 refine ⟨?_,?_,rfl⟩
 ·cases lo with
  | none=>simp [kz,HT.sIx]
  | some i =>
   simp only [kz,HT.sIx,Option.getD_none,show (1:Int) > 0 by decide,if_true]
   by_cases h:i<0
   ·simp only [h,if_true] <;> lia
   ·simp only [h,if_false] <;> lia
 ·cases hi with
  | none=>simp [kz,HT.sIx]
  | some i =>
   simp only [kz,HT.sIx,Option.getD_none,show (1:Int) > 0 by decide,if_true]
   by_cases h:i<0
   ·simp only [h,if_true] <;> lia
   ·simp only [h,if_false] <;> lia
theorem slicePick_cut (its:List ae)(lo hi:Option Int):slicePick its.toArray lo hi none=((its.drop (HT.sIx its.length 0 lo)).take (HT.sIx its.length its.length hi - HT.sIx its.length 0 lo)).toArray:=by
 obtain ⟨h1,h2,h3⟩:=slice_bounds lo hi its.toArray.size;unfold slicePick;rw [h1,h2,h3];simp only [sliceRange_one,pick_run,aJ] <;> rfl
def rSlL (K:aq):V→Option Int→Option Int→Hp→VK→Prop:=fun x lo hi H Q=>∃ a xs,x= .ref a∧SqL K H a xs∧∀ p,H p=none→Q (.ref p) (upd H p (.lst (cutV xs lo hi)))
theorem sl_list:SlR X (rSlL X.K):=by
 intro aP s σ H x v vl vu lo hi sl Q I rx hs pl pu h;obtain ⟨a,xs,rfl,hx,q⟩:=h;cases rx;obtain ⟨its,r,ht,hz⟩:=I.list hx;have hlen:=r.length;refine ⟨"list",_,slot_list_getitem.lookup,ht.isList.typeIs,?_⟩;refine wpAny_getItem_list_slice ht.isList hs pl pu .none (by simp) ?_ (by rw [aJ] <;> lia);rw [slicePick_cut,←hlen];refine ⟨.ref s.heap.objs.size,_,I.laid (t':=s.toks) (o:= .lst (cutV xs lo hi)) (fun b ob q=>ar _ q) (aE _) ?_,rfl,q _ (I.hok.fresh (aE _))⟩;exact ⟨bh (qG xs lo hi) hz,_,0,(r.drop (HT.sIx xs.length 0 lo)).take (HT.sIx xs.length xs.length hi - HT.sIx xs.length 0 lo),bg _ rfl⟩
def flatV:V→Bool
 | .non=>true
 | .bl _=>true
 | .int _=>true
 | .str _=>true
 | _=>false
def eqV:V→V→Bool
 | .non,.non=>true
 | .bl a,.bl b=>a == b
 | .bl a,.int b=>(if a then 1 else 0) == b
 | .int a,.bl b=>a == (if b then 1 else 0)
 | .int a,.int b=>a == b
 | .str a,.str b=>a == b
 | _,_=>false
theorem eqAt_V {x:V}{v:ae}(ry:RelV y u)(rx:RelV x v)(fy:flatV y=true)(fx:flatV x=true):SeqAt.EqAt A s u v (eqV y x):=by
 cases y with
 | non =>
  cases ry;cases x with
  | non=>cases rx;exact SeqAt.EqAt.same _
  | bl b=>cases rx;exact SeqAt.EqAt.none_bool b
  | int b=>obtain ⟨t,rfl⟩:=rx;exact SeqAt.EqAt.none_int b t
  | str b=>obtain ⟨t,rfl⟩:=rx;exact SeqAt.EqAt.none_str b t
  | _=>exact rL (show false=true from fx) aR
 | bl a =>
  cases ry;cases x with
  | non=>cases rx;exact SeqAt.EqAt.bool_none a
  | bl b=>cases rx;exact SeqAt.EqAt.bool_bool a b
  | int b=>obtain ⟨t,rfl⟩:=rx;exact SeqAt.EqAt.bool_int a b t
  | str b=>obtain ⟨t,rfl⟩:=rx;exact SeqAt.EqAt.bool_str a b t
  | _=>exact rL (show false=true from fx) aR
 | int a =>
  obtain ⟨t',rfl⟩:=ry;cases x with
  | non=>cases rx;exact SeqAt.EqAt.int_none a t'
  | bl b=>cases rx;exact SeqAt.EqAt.int_bool a t' b
  | int b=>obtain ⟨t,rfl⟩:=rx;exact SeqAt.EqAt.int_int a t' b t
  | str b=>obtain ⟨t,rfl⟩:=rx;exact SeqAt.EqAt.int_str a t' b t
  | _=>exact rL (show false=true from fx) aR
 | str a =>
  obtain ⟨t',rfl⟩:=ry;cases x with
  | non=>cases rx;exact SeqAt.EqAt.str_none a t'
  | bl b=>cases rx;exact SeqAt.EqAt.str_bool a t' b
  | int b=>obtain ⟨t,rfl⟩:=rx;exact SeqAt.EqAt.str_int a t' b t
  | str b=>obtain ⟨t,rfl⟩:=rx;exact SeqAt.EqAt.str_str a t' b t
  | _=>exact rL (show false=true from fx) aR
 | _=>exact rL (show false=true from fy) aR
def eqU (x:V)(u:ae):Bool:=match u with
 | .none=>eqV .non x
 | .bool b=>eqV (.bl b) x
 | .int i _=>eqV (.int i) x
 | .str z _=>eqV (.str z) x
 | _=>false
theorem eqU_of {x:V}(r:RelV y u)(f:flatV y=true):eqU x u=eqV y x:=by
 cases y with
 | non=>cases r;rfl
 | bl b=>cases r;rfl
 | int i=>obtain ⟨t,rfl⟩:=r;rfl
 | str z=>obtain ⟨t,rfl⟩:=r;rfl
 | _=>exact rL (show false=true from f) aR
theorem qK {x:V}:∀ {xs:List V} {us:List ae},Vals xs us→xs.all flatV=true→us.any (eqU x)=xs.any fun y=>eqV y x
 | _,_,.nil,_=>rfl
 | y::xs,u::us,.cons r t,f=>by
  rw [List.all_cons,dM] at f;rw [j5,j5,eqU_of r f.1,qK t f.2]
theorem nu {A:bZ}{s:au}{x:V}{v:ae}(rx:RelV x v)(fx:flatV x=true):∀ {xs:List V} {us:List ae},Vals xs us→xs.all flatV=true→∀ u∈us,SeqAt.EqAt A s u v (eqU x u)
 | _,_,.nil,_=>fun u hu=>by cases hu
 | y::xs,u::us,.cons r t,f=>fun u' hu=>by
  rw [List.all_cons,dM] at f
  rcases aG.mp hu with rfl | hu
  ·rw [eqU_of r f.1];exact eqAt_V r rx f.1 fx
  ·exact nu rx fx t f.2 u' hu
def inV (x:V)(xs:List V):Bool:=xs.any fun y=>eqV y x
inductive rIn (K:aq)(neg:Bool)(x:V)(y:V)(H:Hp)(Q:VK):Prop
 | mk (p xs:_)(_:y= .ref p)(_:(SqL K H p xs∨SqT K H p xs))(_:flatV x=true)(_:xs.all flatV=true)(_:Q (.bl (if neg then !inV x xs else inV x xs)) H)
theorem op_in_seq:OpR X (fB .In) (rIn X.K false):=by
 intro aP s σ H x y v u Q I rx ry h;obtain ⟨p,xs,rfl,hq,fx,fs,q⟩:=h;cases ry
 rcases hq with hq | hq
 ·obtain ⟨its,r,pl,hz⟩:=I.list hq
  refine SeqAt.in_listAt (eqU x) pl.isList (fun w hw=>nu rx fx r fs w (by simpa using hw)) ⟨.bl _,H,I,rfl,?_⟩;rw [show its.toArray.any (eqU x)=its.any (eqU x) by simp,qK r fs];exact q
 ·obtain ⟨its,r,pl,hz⟩:=I.tuple hq
  refine SeqAt.in_tupleAt (eqU x) pl (fun w hw=>nu rx fx r fs w (by simpa using hw)) ⟨.bl _,H,I,rfl,?_⟩;rw [show its.toArray.any (eqU x)=its.any (eqU x) by simp,qK r fs];exact q
theorem oy:OpR X (fB .NotIn) (rIn X.K true):=by
 intro aP s σ H x y v u Q I rx ry h;obtain ⟨p,xs,rfl,hq,fx,fs,q⟩:=h;cases ry
 rcases hq with hq | hq
 ·obtain ⟨its,r,pl,hz⟩:=I.list hq
  refine SeqAt.notIn_listAt (eqU x) pl.isList (fun w hw=>nu rx fx r fs w (by simpa using hw)) ⟨.bl _,H,I,rfl,?_⟩;rw [show its.toArray.any (eqU x)=its.any (eqU x) by simp,qK r fs];exact q
 ·obtain ⟨its,r,pl,hz⟩:=I.tuple hq
  refine SeqAt.notIn_tupleAt (eqU x) pl (fun w hw=>nu rx fx r fs w (by simpa using hw)) ⟨.bl _,H,I,rfl,?_⟩;rw [show its.toArray.any (eqU x)=its.any (eqU x) by simp,qK r fs];exact q
theorem bX:CallR X (.builtin "len") (fun xs H Q=>∃ p ys,xs=[.ref p]∧(SqL X.K H p ys∨SqT X.K H p ys)∧Q (.int ys.length) H):=by
 intro aP s σ H xs us Q I r h;obtain ⟨p,ys,rfl,hq,q⟩:=h;obtain ⟨u,rfl,rx⟩:=nR r;cases rx;have hn:=line63
 rcases hq with hq | hq
 ·obtain ⟨its,r',pl,hz⟩:=I.list hq
  have hlen:=r'.length;exact Calls.call_len_list pl.isList (by simp only [aJ] <;> lia) ⟨.int ys.length,H,I.tok _,⟨s.toks+1,by rw [aJ,hlen]⟩,q⟩
 ·obtain ⟨its,r',pl,hz⟩:=I.tuple hq
  have hlen:=r'.length;exact len_tuple pl (by simp only [aJ] <;> lia) ⟨.int ys.length,H,I.tok _,⟨s.toks+1,by rw [aJ,hlen]⟩,q⟩
theorem call_list_of:CallR X (.type "list") (fun xs H Q=>∃ p ys,xs=[.ref p]∧(SqL X.K H p ys∨SqT X.K H p ys)∧∀ l,H l=none→Q (.ref l) (upd H l (.lst ys))):=by
 intro aP s σ H xs us Q I r h;obtain ⟨p,ys,rfl,hq,q⟩:=h;obtain ⟨u,rfl,rx⟩:=nR r;cases rx;have fin:∀ (its:List ae),Vals ys its→ys.length≤bp→∀ (h':bP) (c':Nat),(∀ b o',s.heap.get? b=some o'→h'.get? b=some o') →
   h'.get? s.heap.objs.size=some { cls:= .type "list",dict:=none,data:= .seq its.toArray c',slots:= #[] }→EP X aP σ Q (.ref s.heap.objs.size) { s with heap:=h' }:=fun its r' hz h' c' kp e =>
  ⟨.ref s.heap.objs.size,_,I.laid (t':=s.toks) kp (aE _) (show ObjOk X.prog X.w _ h' _ (.lst ys) from ⟨hz,its,c',r',e⟩),rfl,q _ (I.hok.fresh (aE _))⟩
 rcases hq with hq | hq
 ·obtain ⟨its,r',pl,hz⟩:=I.list hq
  have hlen:=r'.length;obtain ⟨o,ho,hc,n,hd⟩:=pl.isList;exact call_list_seq p (.inl rfl) ho hc hd (fun h' c' kp e=>fin its r' hz h' c' kp e) (by simp only [aJ] <;> lia)
 ·obtain ⟨its,r',pl,hz⟩:=I.tuple hq
  have hlen:=r'.length;obtain ⟨o,ho,hc,n,hd⟩:=pl;exact call_list_seq p (.inr rfl) ho hc hd (fun h' c' kp e=>fin its r' hz h' c' kp e) (by simp only [aJ] <;> lia)
theorem call_tuple_of:CallR X (.type "tuple") (fun xs H Q=>∃ p ys,xs=[.ref p]∧((SqL X.K H p ys∧∀ l,H l=none→Q (.ref l) (upd H l (.tup ys)))∨(SqT X.K H p ys∧Q (.ref p) H))):=by
 intro aP s σ H xs us Q I r h;obtain ⟨p,ys,rfl,h⟩:=h;obtain ⟨u,rfl,rx⟩:=nR r;cases rx
 rcases h with ⟨hq,q⟩ | ⟨hq,q⟩
 ·obtain ⟨its,r',pl,hz⟩:=I.list hq
  have hlen:=r'.length;refine call_tuple_list pl.isList (fun h' kp=>?_) (by simp only [aJ] <;> lia);have I1:Inv X aP σ H { s with heap:=h' }:=I.kept (t':=s.toks) kp;have I2:Inv X aP σ (upd H h'.objs.size (.tup ys)) { s with heap:=h'.push { cls:= .type "tuple",data:= .seq its.toArray } } :=
   I1.laid (t':=s.toks) (fun b o e=>ar _ e) (aE _) (show ObjOk X.prog X.w _ _ _ (.tup ys) from ⟨hz,its,r',IsTupN.new _ _⟩)
  exact ⟨.ref h'.objs.size,_,I2,rfl,q _ (I1.hok.fresh (aE _))⟩
 ·obtain ⟨its,r',pl,hz⟩:=I.tuple hq
  exact call_tuple_same pl ⟨.ref p,H,I,rfl,q⟩
def tyV (K:aq)(T:String)(x:V)(H:Hp):Prop:=match x with
 | .str _=>T = "str"
 | .int _=>T = "int"
 | .ref p=>(T = "list" ∧∃ xs,SqL K H p xs)∨(T = "tuple" ∧∃ o,K.lookup p=some o∧o.cls= .type "tuple" ∧o.dict=none) ∨
   (T = "dict" ∧((∃ kvs,H p=some (.dK kvs))∨∃ kvs,H p=some (.dT kvs)))∨(T = "set" ∧∃ S n,H p=some (.set S n))
 | _=>False
theorem tyV_is {x:V}{v:ae}(I:Inv X aP σ H s)(r:RelV x v)(ty:tyV X.K T x H) :
  s.TypeIs v T∧∀ a,v= .ref a→∃ ob,s.heap.get? a=some ob∧ob.dict=none:=by
 cases x with
 | str z =>
  obtain ⟨t,rfl⟩:=r;cases (show T = "str" from ty);exact ⟨typeIs_str s z t,fun _ e=>nomatch e⟩
 | int i =>
  obtain ⟨t,rfl⟩:=r;cases (show T = "int" from ty);exact ⟨typeIs_int s i t,fun _ e=>nomatch e⟩
 | ref p =>
  cases r
  rcases ty with ⟨rfl,xs,hq⟩ | ⟨rfl,o,hk,hc,hd⟩ | ⟨rfl,hk⟩ | ⟨rfl,S,n,hk⟩
  ·obtain ⟨its,_,pl,_⟩:=I.list hq
   refine ⟨pl.isList.typeIs,fun a e=>?_⟩;cases e;obtain ⟨o,n,e,c,hd,_⟩:=pl;exact ⟨o,e,hd⟩
  ·refine ⟨⟨o,I.kIn p o hk,hc⟩,fun a e=>?_⟩
   cases e;exact ⟨o,I.kIn _ o hk,hd⟩
  ·have z:∃ o,s.heap.get? p=some o∧o.ExactDict:=by
    rcases hk with ⟨kvs,hk⟩ | ⟨kvs,hk⟩
    ·obtain ⟨_,_,_,_,o,_,_,e,ex,_⟩:=I.hok p _ hk
     exact ⟨o,e,ex⟩
    ·obtain ⟨_,_,_,_,o,_,_,e,ex,_⟩:=I.hok p _ hk
     exact ⟨o,e,ex⟩
   obtain ⟨o,e,ex⟩:=z;refine ⟨⟨o,e,ex.1⟩,fun a e2=>?_⟩;cases e2;exact ⟨o,e,ex.2.1⟩
  ·obtain ⟨o,_,_,_,e,ex,_⟩:=I.hok p _ hk
   refine ⟨⟨o,e,ex.1⟩,fun a e2=>?_⟩;cases e2;exact ⟨o,e,ex.2.1⟩
 | _=>exact dg ty
def tBM0 (K:aq)(T:String)(r:V→List V→Hp→VK→Prop)(to:TE):TE:=fun σ H Q=>to σ H fun x H1=>tyV K T x H1∧r x [] H1 Q
def tBM (K:aq)(T:String)(r:V→List V→Hp→VK→Prop)(to:TE)(t:TA):TE:=fun σ H Q=>to σ H fun x H1=>tyV K T x H1∧t σ H1 fun xs H2=>r x xs H2 Q
variable {o:Expr}{to:TE}{apos cpos:Pos}{id:String}{r:V→List V→Hp→VK→Prop}
theorem ra (pa:PlainAttrs T)(slot:Slot T name id)(hty:typeOf (.builtin id)=fM (.type "method_descriptor"))(hm:MtR X id r)(ho:PE X o to)
  (hbase:attributeBase o name X.env (eP o X.env)=eP o X.env:=by rfl) (hline:(apos.endLine == cpos.line)=true:=by rfl):PE X (.Call (.Attribute o name apos) [] [] cpos) (tBM0 X.K T r to):=by
 intro aP s σ H Q I h;refine wpAny_Call_method0_late hbase hline (thn (ho aP s σ H _ I h) fun v s1 ⟨x,H1,I1,r1,ty,q1⟩=>?_);obtain ⟨h1,h2⟩:=tyV_is I1 r1 ty;exact ⟨T,id,pa,slot,hty,h1,h2,Calls.callWith_builtin rfl (PySem.evalArgs_none (hm aP s1 σ H1 x [] v [] Q I1 r1 .nil q1))⟩
theorem ng (pa:PlainAttrs T)(slot:Slot T name id)(hty:typeOf (.builtin id)=fM (.type "method_descriptor"))(hm:MtR X id r)(ho:PE X o to)(ha:PA X (e::es) t)
  (hbase:attributeBase o name X.env (eP o X.env)=eP o X.env:=by rfl)
  (hfew:((gF cpos (bD (e::es) X.env)).all (fun x=> !x.1) && (backToKw cpos (keywordEach [] X.env)).all (fun x=>x.1.isSome)
   && decide ((e::es).length+([]:List Keyword).length+(if ([]:List Keyword).isEmpty then 0 else 1)<30))=true:=by rfl)
  (hline:(apos.endLine == cpos.line)=true:=by rfl) (hs:bD (e::es) X.env=(false,eP e X.env)::bD es X.env:=by rfl) (hplain:(gF cpos (bD es X.env)).any (·.1)=false:=by rfl) :
  PE X (.Call (.Attribute o name apos) (e::es) [] cpos) (tBM X.K T r to t):=by
 intro aP s σ H Q I h;refine wpAny_Call_method_late hbase hfew hline rfl (thn (ho aP s σ H _ I h) fun v s1 ⟨x,H1,I1,r1,ty,q1⟩=>?_);obtain ⟨h1,h2⟩:=tyV_is I1 r1 ty;refine ⟨T,id,pa,slot,hty,h1,h2,?_⟩;have hA:=ha cpos aP s1 σ H1 _ I1 q1;rw [hs] at hA ⊢;refine Calls.callWith_builtin (by show (false || (gF cpos (bD es X.env)).any (·.1))=false;rw [hplain] <;> rfl) (Calls.evalArgs_plain ?_);exact thn hA fun us s2 ⟨vs,H2,I2,r2,q2⟩=>hm aP s2 σ H2 x vs v us Q I2 r1 r2 q2
end
def MtM (X:Cx)(id:String)(r:V→List V→Hp→VK→Prop):Prop :=
 ∀ (aP:List (ao×Obj)) (s:au) (σ:St) (H:Hp) (x:V) (xs:List V) (v:ae) (us:List ae) (Q:VK),Inv X aP σ H s→RelV x v→Vals xs us→r x xs H Q →
  aW (bx X.prog X.w) X.A (call (.builtin id) (v::us)) (EP X aP σ Q) X.xe s
theorem Vals.one:∀ {x:V} {us:List ae},Vals [x] us→∃ u,us=[u]∧RelV x u
 | _,_,.cons r .nil=>⟨_,rfl,r⟩
theorem Vals.zero:∀ {us:List ae},Vals [] us→us=[]
 | _,.nil=>rfl
theorem Vals.dropLast (h:Vals xs us):Vals xs.dropLast us.dropLast:=by
 induction h with
 | nil=>exact .nil
 | cons r t ih =>
  cases t with
  | nil=>exact .nil
  | cons q t'=>exact .cons r ih
theorem Vals.rep {xs:List V}{us:List ae}(h:Vals xs us):∀ k:Nat,Vals (bS k xs).flatten (bS k us).flatten
 | 0=> .nil
 | k+1=>by
  rw [i3,i3,List.flatten_cons,List.flatten_cons];exact Vals.append h (Vals.rep h k)
theorem erase_last (l:List α):l.eraseIdx (l.length - 1)=l.dropLast:=by
 induction l with
 | nil=>rfl
 | cons a r ih =>
  cases r with
  | nil=>rfl
  | cons b r =>
   have e:(a::b::r).length - 1=((b::r).length - 1)+1:=by
    have h1:(a::b::r).length=r.length+2:=rfl;have h2:(b::r).length=r.length+1:=rfl;lia
   rw [e,List.eraseIdx_cons_succ,ih]
   all_goals rfl
theorem foldl_rep (its:List ae):∀ (k:Nat) (acc:List ae),
  List.foldl (fun x1 x2=>x1++x2) acc.toArray (bS k its.toArray)=(acc++(bS k its).flatten).toArray
 | 0,acc=>by simp
 | k+1,acc=>by
  have e:acc.toArray++its.toArray=(acc++its).toArray:=by simp
  have e2:(acc++its)++(bS k its).flatten=acc++(bS (k+1) its).flatten:=by
   rw [i3,List.flatten_cons,List.append_assoc]
  rw [←e2,←foldl_rep its k (acc++its),←e,i3,bK]
section
variable {l b:ao}
theorem Inv.lset {its':List ae}{f:Array ae→Array ae}(I:Inv X aP σ H s)(hH:H l=some (.lst xs))
  (e:s.heap.get? l=some { cls:= .type "list",data:= .seq its.toArray n }) (hf:f its.toArray=its'.toArray) (hv:Vals ys its') (hz:ys.length≤bp) :
  Inv X aP σ (upd H l (.lst ys)) { s with heap:=s.heap.update l (cV f),toks:=t' }:=by
 have q:=PySem.IsL.update e f;rw [hf] at q;refine I.write (x:=l) (e:=l) (by rw [hH];exact trivial) (.inl rfl) (fun b' u hb hu=>(jx s.heap (cV f) (cN hb)).trans hu) ⟨_,q⟩ ?_;exact ⟨hz,its',_,hv,q⟩
theorem Inv.lnew (I:Inv X aP σ H s)(hv:Vals ys its)(hz:ys.length≤bp) :
  Inv X aP σ (upd H s.heap.objs.size (.lst ys)) { s with heap:=s.heap.push { cls:= .type "list",data:= .seq its.toArray },toks:=t' } :=
 I.laid (fun _ _ q=>ar _ q) (aE _) ⟨hz,its,0,hv,bg _ rfl⟩
theorem Inv.fresh (I:Inv X aP σ H s):H s.heap.objs.size=none:=I.hok.fresh (aE _)
theorem Inv.lstM (I:Inv X aP σ H s)(hH:H l=some (.lst xs)):xs.length≤bp∧∃ (its:List ae) (n:Nat),Vals xs its∧xs.length=its.length∧s.heap.get? l=some { cls:= .type "list",data:= .seq its.toArray n }:=by
 obtain ⟨z,its,n,r,e⟩:=I.hok l _ hH;exact ⟨z,its,n,r,r.length,e⟩
theorem notLongL (h:n≤bp):iE n=false:=by
 unfold iE;exact rN (by lia)
end
inductive rAppend (x:V)(vs:List V)(H:Hp)(Q:VK):Prop
 | mk (l xs y:_)(_:x= .ref l)(_:vs=[y])(_:H l=some (.lst xs))(_:xs.length<bp)(_:Q .non (upd H l (.lst (xs++[y]))))
theorem ik:MtM X "list.append" rAppend:=by
 intro aP s σ H x vs v us Q I rx rv h;obtain ⟨l,xs,y,rfl,rfl,hH,hz,q⟩:=h;cases rx;obtain ⟨u,rfl,ru⟩:=rv.one;obtain ⟨z,its,n,r,hl,e⟩:=I.lstM hH;refine call_meets F.slot_list_append ⟨_,e,rfl⟩ F.entry_list_append (F.args_list_append_2 _ _) (PySem.list_append l its.toArray n u (by rw [aJ];lia)) ⟨e,?_⟩;refine ⟨.non,_,I.lset (its':=its++[u]) hH e (by simp) (r.append (.cons ru .nil)) ?_,rfl,q⟩;rw [av,iw];lia
inductive rExtend (x:V)(vs:List V)(H:Hp)(Q:VK):Prop
 | mk (l b xs zs:_)(_:x= .ref l)(_:vs=[.ref b])(_:H l=some (.lst xs))(_:H b=some (.lst zs))(_:xs.length+zs.length≤bp)(_:Q .non (upd H l (.lst (xs++zs))))
theorem mt_extend:MtM X "list.extend" rExtend:=by
 intro aP s σ H x vs v us Q I rx rv h;obtain ⟨l,b,xs,zs,rfl,rfl,hH,hB,hz,q⟩:=h;cases rx;obtain ⟨u,rfl,ru⟩:=rv.one;cases ru;obtain ⟨z,its,n,r,hl,e⟩:=I.lstM hH;obtain ⟨z2,its2,n2,r2,hl2,e2⟩:=I.lstM hB;have hsz:its.toArray.size+its2.toArray.size≤bp:=by rw [aJ,aJ];lia
 have hlong:¬ (!its.toArray.isEmpty && iE (its.toArray.size+its2.toArray.size))=true:=by
  rw [notLongL hsz,Bool.and_false];exact aR
 refine call_meets F.slot_list_extend ⟨_,e,rfl⟩ F.entry_list_extend (F.args_list_extend_2 _ _)
  (AutoSeq1.list_extend_list_list_0 l its.toArray n b its2.toArray n2 hlong (by rw [aJ];lia) (by lia)) ⟨e,e2,?_⟩
 refine ⟨.non,_,I.lset (its':=its++its2) hH e (by simp) (r.append r2) ?_,rfl,q⟩;rw [av];lia
inductive rPop (x:V)(vs:List V)(H:Hp)(Q:VK):Prop
 | mk (l xs y:_)(_:x= .ref l)(_:vs=[])(_:H l=some (.lst xs))(_:xs[xs.length - 1]? =some y)(_:Q y (upd H l (.lst xs.dropLast)))
theorem rf:MtM X "list.pop" rPop:=by
 intro aP s σ H x vs v us Q I rx rv h;obtain ⟨l,xs,y,rfl,rfl,hH,hy,q⟩:=h;cases rx;have hus:=rv.zero;subst hus;obtain ⟨z,its,n,r,hl,e⟩:=I.lstM hH;obtain ⟨u,hu,ru⟩:=r.get hy;have hy':its.toArray[its.toArray.size - 1]? =some u:=by
  show its.toArray[its.length - 1]? =some u;rw [←jQ,←hl];exact hu
 refine call_meets F.slot_list_pop ⟨_,e,rfl⟩ F.entry_list_pop (F.args_list_pop_1 _) (MeetsSeq.list_pop_last l its.toArray n u hy' (by rw [aJ];lia)) ⟨e,?_⟩;refine ⟨y,_,I.lset (its':=its.dropLast) hH e ?_ r.dropLast ?_,ru,q⟩
 ·show its.toArray.eraseIdxIfInBounds (its.toArray.size - 1)=its.dropLast.toArray
  rw [aJ,List.eraseIdxIfInBounds_toArray,erase_last]
 ·rw [List.length_dropLast]
  lia
inductive rCat (x:V)(y:V)(H:Hp)(Q:VK):Prop
 | mk (l b xs zs:_)(_:x= .ref l)(_:y= .ref b)(_:H l=some (.lst xs))(_:H b=some (.lst zs))(_:xs.length+zs.length≤bp)(_:∀ p,H p=none→Q (.ref p) (upd H p (.lst (xs++zs))))
theorem op_cat:OpR X (gW .Add) rCat:=by
 intro aP s σ H x y v u Q I rx ry h;obtain ⟨l,b,xs,zs,rfl,rfl,hH,hB,hz,q⟩:=h;cases rx;cases ry;obtain ⟨z,its,n,r,hl,e⟩:=I.lstM hH;obtain ⟨z2,its2,n2,r2,hl2,e2⟩:=I.lstM hB;refine PySem.P.add_list e e2 ?_ (by rw [aJ,aJ];lia);have ea:its.toArray++its2.toArray=(its++its2).toArray:=by simp
 rw [ea];exact ⟨.ref _,_,I.lnew (t':=s.toks) (r.append r2) (by rw [av];lia),rfl,q _ I.fresh⟩
inductive rRep (x:V)(y:V)(H:Hp)(Q:VK):Prop
 | mk (l k xs:_)(_:x= .ref l)(_:y= .int k)(_:H l=some (.lst xs))(_: -(2 ^ 63)≤k)(_:k<2 ^ 63)(_:xs.length * k.toNat≤bp)(_:∀ p,H p=none→Q (.ref p) (upd H p (.lst (bS k.toNat xs).flatten)))
theorem len_rep (xs:List α)(k:Nat):(bS k xs).flatten.length=k * xs.length:=by
 induction k with
 | zero=>simp
 | succ k ih=>rw [i3,List.flatten_cons,av,ih,Nat.succ_mul,Nat.add_comm]
theorem op_rep:OpR X (gW .Mult) rRep:=by
 intro aP s σ H x y v u Q I rx ry h;obtain ⟨l,k,xs,rfl,rfl,hH,h1,h2,hz,q⟩:=h;cases rx;obtain ⟨t,rfl⟩:=ry;obtain ⟨z,its,n,r,hl,e⟩:=I.lstM hH;have hlen:its.toArray.size * k.toNat≤bp:=by rw [aJ,←hl];exact hz
 have hcap:¬ its.toArray.size * k.toNat > (2 ^ 63 - 1) / 8:=by
  have:(bp:Nat)≤(2 ^ 63 - 1) / 8:=by decide
  lia
 have hfit:¬ (!Builtin.List.listFitsIndex k)=true:=by
  rw [fitsIndex_both h1 h2];exact aR
 have hlong:¬ iE (its.toArray.size * k.toNat)=true:=by
  rw [notLongL hlen];exact aR
 have hnew:List.foldl (fun x1 x2=>x1++x2) #[] (bS (if its.toArray.isEmpty=true then 0 else k.toNat) its.toArray)=(bS k.toNat its).flatten.toArray:=by
  have f0:∀ m:Nat,List.foldl (fun x1 x2=>x1++x2) #[] (bS m its.toArray)=(bS m its).flatten.toArray:=fun m=>by
   have:=foldl_rep its m [];rw [List.nil_append] at this;exact this
  rw [f0];cases its with
  | nil=>simp
  | cons a r'=>rw [rG (by simp)]
 refine wpAny_binaryOp_repeat_ref (T := "list") (U := "int") (by decide) ⟨_,e,rfl⟩ (fun s'=>typeIs_int s' k t) noFill_list_mul F.fills_int_mul F.slot_int_rmul repeat_list F.slot_int_index.lookup
  (call_meets F.slot_int_rmul (typeIs_int s k t) F.entry_int_rmul (F.args_int_rmul_2 _ _) (int___rmul___int_list k t l its.toArray n)
   ⟨e,rfl,⟨_,e,rfl⟩,call_meets F.slot_list_mul ⟨_,e,rfl⟩ F.entry_list_mul (F.args_list_mul_2 _ _) (AutoListH.list___mul___list_int_3 l its.toArray n k t hfit hcap hlong) ⟨e,?_⟩⟩)
 rw [hnew];exact ⟨.ref _,_,I.lnew (t':=s.toks) (r.rep k.toNat) (by rw [len_rep,jM];exact hz),rfl,q _ I.fresh⟩
end L2
namespace Att
open PySem PySem.W PySem.Calls PyProof.Rows
theorem qi {P:Params}:∀ (ns:List Int) (vs:List ae),WellAll P h vs (ns.map WData.int)→IntsAre vs ns:=by
 intro ns
 induction ns with
 | nil =>
  intro vs w;rw [List.map_nil] at w;cases w;exact .nil
 | cons n ns ih =>
  intro vs w;rw [cw] at w;cases w with
  | cons a b =>
   cases a;exact .cons _ _ (ih _ b)
theorem script_of {l:OpenLaw}(hn:l.most=some n){P:Params}{args:List WData}{vals:List ae}
  (hpre:l.row.toRowW.claim.pre args=true) (hwl:WellAll P h vals args) :
  ∃ a vs ns,vals=[ae.ref a]∧args=[WData.list (ns.map WData.int)]∧h.get? a=some { cls:= .type "list",data:= .seq vs.toArray }∧IntsAre vs ns∧ns.length≤n:=by
 have hsh:WShape.hasAll [] args [.list .int]=true:=(pre_splitW hpre).1;have hc:l.pre.holds [] { args:=args }=true:=(pre_splitW hpre).2;obtain ⟨d,r,rfl,h1,h2⟩:=hasAllW_cons hsh;obtain rfl:=hasAllW_nil h2;obtain ⟨xs,rfl,h3⟩:=hasW_list h1;obtain ⟨ns,rfl⟩:=items_int h3;have hlen:ns.length≤n:=by
  unfold OpenLaw.pre at hc;have h4:(WTm.not (.lt (.lit (.int (n:Int))) (.len (.arg 0)))).holds [] { args:=[.list (ns.map .int)] }=true:=by
   have h4:=(holds_andW hc).1;rw [hn] at h4;exact h4
  have h5:=condW_of h4 (w_not (w_lt w_lit (w_len_list (w_arg rfl))));rw [aa] at h5;refine Nat.le_of_not_lt fun q=>?_
  have q':(n:Int)<((ns.length:Nat):Int):=by lia
  first
   | (rw [rM q'] at h5;exact rL h5 (by decide))
   | (simp at h5;lia)
 cases hwl with
 | cons w1 w2 =>
  cases w2;cases w1 with
  | list ho hall=>exact ⟨_,_,ns,rfl,rfl,ho,qi ns _ hall,hlen⟩
theorem post_true (l:OpenLaw)(args:List WData):l.row.toRowW.claim.post args (.bool true) args=true :=
 postW_of (r:=l.row.toRowW) (X:=(true == true))
  (show WShape.has [] (.bool true) .bool=true by first | rfl | decide | simp [WShape.has,WShape.arms,WShape.armsAll])
  (show (WTm.eq .res (.lit (.bool true))).value [] { args:=args,res:=some (.bool true),after:=args }=some (.bool (true == true)) from w_eq_bool (w_res rfl) w_lit) rfl
theorem attach_call {l:OpenLaw}{q:aY}{d:DefRec}
  (hn:l.most=some n) (hdf:d.params.defaults=[])
  (call:∀ (w:bE) (s₀ s₁:au) (mg mb:Str→Option ae) (fa:ao) (o:Obj) (pm cd doc:ae) (a:ao) (vs:List ae) (ns:List Int),
   Ground q loose [] XP w s₀ mg mb s₁.heap→YP w s₁.heap →
   s₁.heap.get? fa=some o→o.data= .func (docDef d.name d.params d.body d.scope pm cd doc)→s₁.heap.CodeRec cd d.name→mg d.name=some (.ref fa) →
   s₁.heap.get? a=some { cls:= .type "list",data:= .seq vs.toArray }→IntsAre vs ns→ns.length≤n→s₁.gens= #[] →
   jq (bx l.prog w) callerA (.call (.ref fa) ⟨[.ref a],[]⟩) (fun r s'=>r= .ok (.ret (.bool true))∧OldK s₁.heap s'.heap∧s'.os=s₁.os∧AllBare s'.gens) s₁) :
  WalkO q loose XP YP l.row.toRowW d [] (fun f vs=>PySem.call f vs):=by
 intro w s₀ s₁ mg mb G Y fa o pm cd doc dV kV ho hd hcd hD hmg hg args vals as hpre hlay hrd hwl hlo;obtain rfl:dV= .none:=Dflts.none hD hdf;obtain rfl:kV= .none:=Dflts.noKw hD;obtain ⟨a,vs,ns,rfl,rfl,hobj,hints,hlen⟩:=script_of hn hpre hwl;refine enter_call (codeAny_mono (call w s₀ s₁ mg mb fa o pm cd doc a vs ns G Y ho (fd_plain hd) hcd hmg hobj hints hlen hg) fun r s' hq=>?_);obtain ⟨rfl,h2,h3,h4⟩:=hq;exact ⟨.inl ⟨.bool true,.bool true,[],rfl,fun _=>rfl,.bool true,post_true l _,fun _=>⟨List.Pairwise.nil,fun _ hm=>(nomatch hm)⟩⟩,h2,h3,h4⟩
end Att
namespace L2
open PySem PySem.Spec PyProof.Rows
theorem o8:∀ {vs:List ae} {ns:List Int},IntsAre vs ns→Vals (ns.map V.int) vs
 | _,_,.nil=> .nil
 | _,_,.cons n t h=> .cons ⟨t,rfl⟩ (o8 h)
abbrev CX0:CXT:=fun _ _ _ _ _ _=>False
abbrev E0:XK:=fun _ _ _=>False
theorem pass0:rA CX0 X E0:=fun _ _ _ _ _ _ _ h=>h.elim
structure Fun (K:aq)(x qual:Str)(st:cU)(f:ao)(fd:bq):Prop where
 ex:∃ (oc:ae) (od:Option ao) (kV doc pm:ae) (an:Option ao) (cdv ct:ae) (osl:Array (Option ae)),
  fd=dY x qual (jn st) (fR st) (defScope st) .none kV doc pm an cdv ct∧K.lookup f=some ⟨oc,od,.func fd,osl⟩∧iB K cdv qual=true
 kp:fb K (.ref f)=true
theorem Fun.ok {k:Nat}{sp:Sp}(F:Fun K x qual st f fd)(S:cb N ps (defScope st))(len:∀ vs H Q E,sp vs H Q E→vs.length=ps.length)
  (hbody:∀ (cdv:ae) (A:bZ) (outer:List Env) (s:au) (H:Hp) (vs:List V) (Q:VK) (E:XK),Room k (A.deeper (envOfC qual (defScope st) s.heap.objs.size f cdv))→sp vs H Q E →
   ∃ t,PSs (cxOf CX0 P w K mg base N qual (defScope st) f cdv A outer s H E).nox (fR st) t∧t { nx:=fun _ H'=>Q .non H',rt:=Q } (start N vs) H):cW P w K mg base CX0 (k+1) f fd ps sp:=by
 obtain ⟨oc,od,kV,doc,pm,an,cdv,ct,osl,rfl,lk,hcd⟩:=F.ex;refine fn_of lk hcd S len fun A outer s H vs Q E hr hsp=>?_
 obtain ⟨t,h,q⟩:=hbody cdv A outer s H vs Q E hr hsp;exact ⟨t,h.nox,q⟩
theorem Fun.binds (F:Fun K x qual st f fd)
  (h:∀ (kV doc pm:ae) (an:Option ao) (cdv ct:ae) (us:List ae),us.length=ps.length→bindArgs (dY x qual (jn st) (fR st) (defScope st) .none kV doc pm an cdv ct) ⟨us,[]⟩=fM (ps.zip us)):Binds K fd ps []:=by
 obtain ⟨oc,od,kV,doc,pm,an,cdv,ct,osl,rfl,lk,hcd⟩:=F.ex;exact .all (h kV doc pm an cdv ct)
theorem oz {oc:ae}{od an:Option ao}{kV doc pm cdv ct:ae}(l:K.lookup f=some ⟨oc,od,.func (dY x qual (jn st) (fR st) (defScope st) .none kV doc pm an cdv ct),osl⟩)
  (c:iB K cdv qual=true) (k:fb K (.ref f)=true):Fun K x qual st f (dY x qual (jn st) (fR st) (defScope st) .none kV doc pm an cdv ct):=⟨⟨oc,od,kV,doc,pm,an,cdv,ct,osl,rfl,l,c⟩,k⟩
theorem mW (h:n≤1000):n<bp:=bV h (by decide)
theorem pv (i:Nat)(hN:X.N[i]? =some x:=by rfl)(hv:Vis X.env.scope x:=by first | exact Or.inl rfl | exact Or.inr (Or.inl rfl) | exact Or.inr (Or.inr rfl))(hd:(x == ("__debug__" :Str))=false:=by decide)
  (hcd:(x == ("__classdict__" :Str))=false:=by decide):PE X (.Name x pos) (tVar i):=pe_var hN hv hd hcd
theorem iteF {A:Prop}(h:B):if false=true then A else B:=by
 rw [rG aR];exact h
theorem iteT {A:Prop}(h:A):if true=true then A else B:=by
 rw [rJ rfl];exact h
theorem ite2 {c A:Prop}[Decidable c](h1:c→A)(h2:¬ c→B):if c then A else B:=by
 by_cases h:c
 ·rw [rJ h]
  exact h1 h
 ·rw [rG h]
  exact h2 h
def Same (H H':Hp):Prop:=∀ b o,H b=some o→H' b=some o
theorem Same.refl (H:Hp):Same H H:=fun _ _ h=>h
theorem Same.trans (a:Same H H1)(b:Same H1 H2):Same H H2:=fun c o h=>b c o (a c o h)
theorem Same.free (e:Same H H'){l:ao}(h:H' l=Option.none):H l=Option.none:=by
 cases q:H l with
 | none=>rfl
 | some o =>
  rw [e l o q] at h;cases h
theorem Same.seq (e:Same H H')(h:SqL K H a xs):SqL K H' a xs:=by
 rcases h with (h | ⟨o,h⟩) | h
 ·exact .inl (.inl (e _ _ h))
 ·exact .inl (.inr ⟨o,e _ _ h⟩)
 ·exact .inr h
theorem nj:OpR X (gW .FloorDiv) (rI (fun _ j=>0<j∧j.natAbs.log2<9000) fun i j=> .int (i / j)):=opI fun i j _ _ _ _ _ hc q=>by
 have e:i.fdiv j=i / j:=Int.fdiv_eq_ediv_of_nonneg i (Int.le_of_lt hc.1);refine floordiv_int (by have:=hc.1;lia) ?_ (.inl (PyProof.noPylong_of_log2 hc.2));rw [e];exact q
theorem op_eqL0 (hu:X.A.units<cLine):OpR X (fB .Eq) (fun x y H Q=>∃ a b xs,x= .ref a∧y= .ref b∧SqL X.K H a xs∧SqL X.K H b []∧Q (.bl xs.isEmpty) H):=by
 intro aP s σ H x y v u Q I rx ry h;obtain ⟨a,b,xs,rfl,rfl,ha,hb,q⟩:=h;cases (show v=ae.ref a from rx);cases (show u=ae.ref b from ry);obtain ⟨its,r1,p1,_⟩:=I.list ha;obtain ⟨its2,r2,p2,_⟩:=I.list hb;cases r2;cases r1 with
 | nil=>exact SeqAt.eq_listAt (e:=fun _=>true) p1.isList p2.isList rfl hu (fun j h1 _=>rL h1 (by simp)) (fv I q (by simp))
 | cons _ _=>exact SeqAt.eq_list_lengthsAt p1.isList p2.isList (by simp) hu (fv I q (by simp))
def tyn (H:Hp):V→Option String
 | .non=>some "NoneType"
 | .bl _=>some "bool"
 | .int _=>some "int"
 | .str _=>some "str"
 | .ref a=>match H a with
  | some (.lst _)=>some "list"
  | some (.tup _)=>some "tuple"
  | some (.dK _)=>some "dict"
  | _=>none
 | _=>none
theorem TyOf.byName (h:tyn H v=some T):TyOf K H v (.type T):=by
 cases v with
 | non=>cases h;exact .non
 | bl b=>cases h;exact .bl b
 | int i=>cases h;exact .int i
 | str x=>cases h;exact .str x
 | ref a =>
  simp only [tyn] at h;cases e:H a with
  | none=>rw [e] at h;cases h
  | some o =>
   rw [e] at h;cases o <;> first | (cases h;first | exact .lst e | exact .tup e | exact .dK e) | cases h
 | _=>cases h
theorem kit_tuple (K:aq)(h:T∈["NoneType","bool","int","str","list","tuple","dict"]):PySem.W.kitOne K (.type T) (.type "tuple")=some (T == "tuple"):=by
 simp only [aG,cQ,or_false] at h
 rcases h with rfl | rfl | rfl | rfl | rfl | rfl | rfl <;> kernel_rfl
theorem kit_int (K:aq)(h:T∈["NoneType","bool","int","str","list","tuple","dict"]):PySem.W.kitOne K (.type T) (.type "int")=some (T == "int" || T == "bool"):=by
 simp only [aG,cQ,or_false] at h
 rcases h with rfl | rfl | rfl | rfl | rfl | rfl | rfl <;> kernel_rfl
theorem kit_bool (K:aq)(h:T∈["NoneType","bool","int","str","list","tuple","dict"]):PySem.W.kitOne K (.type T) (.type "bool")=some (T == "bool"):=by
 simp only [aG,cQ,or_false] at h
 rcases h with rfl | rfl | rfl | rfl | rfl | rfl | rfl <;> kernel_rfl
theorem tyn_mem (h:tyn H v=some T):T∈["NoneType","bool","int","str","list","tuple","dict"]:=by
 cases v with
 | non=>cases h;simp
 | bl b=>cases h;simp
 | int i=>cases h;simp
 | str x=>cases h;simp
 | ref a =>
  simp only [tyn] at h;cases e:H a with
  | none=>rw [e] at h;cases h
  | some o =>
   rw [e] at h;cases o <;> first | (cases h;simp;done) | cases h
 | _=>cases h
theorem mI:CallR X (.builtin "isinstance") (fun xs H Q=>∃ x n t b,xs=[x,.ty n]∧TyOf X.K H x t∧PySem.W.kitOne X.K t (.type n)=some b∧Q (.bl b) H):=by
 intro aP s σ H xs us Q I r h;obtain ⟨x,n,t,b,rfl,ty,e,q⟩:=h;obtain ⟨u,w',rfl,ru,rw'⟩:=vals2 r;cases (show w'=ae.type n from rw');exact isinst_ok I ru ty e fun tk=>⟨.bl b,H,I.tok tk,rfl,q⟩
theorem call_isTup:CallR X (.builtin "isinstance") (fun xs H Q=>∃ x T,xs=[x,.ty "tuple"]∧tyn H x=some T∧Q (.bl (T == "tuple")) H) :=
 fun aP s σ H xs us Q I r ⟨x,T,e,hT,q⟩=>mI aP s σ H xs us Q I r ⟨x,_,_,_,e,.byName hT,kit_tuple _ (tyn_mem hT),q⟩
theorem call_isInt:CallR X (.builtin "isinstance") (fun xs H Q=>∃ x T,xs=[x,.ty "int"]∧tyn H x=some T∧Q (.bl (T == "int" || T == "bool")) H) :=
 fun aP s σ H xs us Q I r ⟨x,T,e,hT,q⟩=>mI aP s σ H xs us Q I r ⟨x,_,_,_,e,.byName hT,kit_int _ (tyn_mem hT),q⟩
theorem call_isBool:CallR X (.builtin "isinstance") (fun xs H Q=>∃ x T,xs=[x,.ty "bool"]∧tyn H x=some T∧Q (.bl (T == "bool")) H) :=
 fun aP s σ H xs us Q I r ⟨x,T,e,hT,q⟩=>mI aP s σ H xs us Q I r ⟨x,_,_,_,e,.byName hT,kit_bool _ (tyn_mem hT),q⟩
inductive rCatA (K:aq)(x:V)(y:V)(H:Hp)(Q:VK):Prop
 | mk (a b xs ys:_)(_:x= .ref a)(_:y= .ref b)(_:H a=some (.tup xs))(_:H b=some (.tup ys))(_:xs.length+ys.length≤bp)(_:∀ p H',Same H H'→H' p=some (.tup (xs++ys))→Q (.ref p) H')
theorem p8:OpR X (gW .Add) (rCatA X.K):=by
 intro aP s σ H x y v u Q I rx ry h;obtain ⟨a,b,xs,ys,rfl,rfl,ha,hb,hz,q⟩:=h;cases xs with
 | cons x xs =>
  refine op_catT aP s σ H (.ref a) (.ref b) v u Q I rx ry ⟨a,b,_,ys,rfl,rfl,SqT.of ha,SqT.of hb,(by simp),hz,fun e=>?_,fun _ p hp=>?_⟩
  ·subst e
   exact q a H (Same.refl H) (by rw [dZ];exact ha)
  ·exact q p _ (fun c o e=>by rw [bC (bH e hp)];exact e) aV
 | nil =>
  cases (show v=ae.ref a from rx);cases (show u=ae.ref b from ry);obtain ⟨its,r1,p1,_⟩:=I.tuple (SqT.of (K:=X.K) ha);obtain ⟨its2,r2,p2,_⟩:=I.tuple (SqT.of (K:=X.K) hb);cases r1;obtain ⟨⟨c1,d1,t1,l1⟩,o1,k1,n1,g1⟩:=id p1;obtain ⟨⟨c2,d2,t2,l2⟩,o2,k2,n2,g2⟩:=id p2;simp only at k1 g1 k2 g2;subst k1 g1 k2 g2;exact concat_meets ⟨_,o1,rfl⟩ ⟨_,o2,rfl⟩ noFill_tuple_add seq_tuple_add PySem.F.slot_tuple_add k9 (kL _ _)
   (tuple_addW0 a b _ its2.toArray n1 n2 d1 d2 l1 l2 (by simp)) ⟨o1,o2,⟨.ref b,H,I,rfl,q b H (Same.refl H) hb⟩⟩
def gR (X:Cx)(scope:fH)(cl:List (Str×ao))(C:ao)(N:List Str)(s:au)(H:Hp)(ex:List ao):Cx :=
 { X with N:=N,s₀:=s,H₀:=H,env:=compEnvC scope cl C X.env,outer:=X.stack,ex:=ex,fn:=fun _=>false,pn:=[],xe:=fun _ _=>False }
theorem mG (hf:∀ y∈scope.names,y.2= .free→∃ c,env.cells.lookup y.1=some c) :
  ∃ cl,closureFor scope env=fM cl∧(∀ x c,cl.lookup x=some c→env.cells.lookup x=some c)∧∀ y∈scope.names,y.2= .free→cl.lookup y.1=env.cells.lookup y.1:=by
 have aux:∀ (names:List (Str×cP)) (acc:List (Str×ao)),(∀ y∈names,y.2= .free→∃ c,env.cells.lookup y.1=some c)→(∀ x c,acc.lookup x=some c→env.cells.lookup x=some c) →
   ∃ cl,(forIn names acc fun x r=>match x with
     | (name,kind)=>if (kind == cP.free)=true then (cellOf env name >>= fun c=>fM (ForInStep.yield ((name,c)::r))) else fM (ForInStep.yield r):Sem (List (Str×ao)))=fM cl ∧
    (∀ x c,cl.lookup x=some c→env.cells.lookup x=some c)∧(∀ x c,acc.lookup x=some c→cl.lookup x=some c)∧∀ y∈names,y.2= .free→cl.lookup y.1=env.cells.lookup y.1:=by
  intro names
  induction names with
  | nil=>intro acc _ ha;exact ⟨acc,rfl,ha,fun _ _ e=>e,fun y hy=>rL hy (by simp)⟩
  | cons z r ih =>
   intro acc hn ha;obtain ⟨n,k⟩:=z;have hr:∀ y∈r,y.2= .free→∃ c,env.cells.lookup y.1=some c:=fun y hy=>hn y (ay _ hy)
   by_cases hk:k= .free
   ·subst hk
    obtain ⟨c,hc⟩:=hn (n,.free) bw rfl;have hc:env.cells.lookup n=some c:=hc;have ha':∀ x d,((n,c)::acc).lookup x=some d→env.cells.lookup x=some d:=fun x d e=>by
     rw [dI] at e;cases hx:x == n with
     | true =>
      rw [hx] at e;have e':c=d:=cG e;have ex:x=n:=eq_of_beq hx;rw [ex,←e'];exact hc
     | false=>rw [hx] at e;exact ha x d e
    obtain ⟨cl,e1,e2,e3,e4⟩:=ih ((n,c)::acc) hr ha';have iU:cellOf env n=fM c:=by unfold cellOf;rw [hc]
    refine ⟨cl,?_,e2,fun x d e=>?_,fun y hy hy2=>?_⟩
    ·rw [List.forIn_cons]
     show ((if (cP.free == cP.free)=true then (cellOf env n >>= fun c=>fM (ForInStep.yield ((n,c)::acc))) else fM (ForInStep.yield acc)) >>= _)=_;rw [rJ (by decide:(cP.free == cP.free)=true),iU];exact e1
    ·have h1:((n,c)::acc).lookup x=some (if x == n then c else d):=by
      rw [dI];cases hx:x == n with
      | true=>rfl
      | false=>exact e
     have h2:=e3 x _ h1;have h3:=e2 x _ h2;have h4:=ha x d e;rw [h3] at h4;rw [h2];exact h4
    ·rcases aG.mp hy with rfl | hy3
     ·have h1:((n,c)::acc).lookup n=some c:=by rw [dI,beq_self_eq_true]
      show cl.lookup n=_;rw [e3 n c h1,hc]
     ·exact e4 y hy3 hy2
   ·have hb:(k == cP.free)=false:=by simpa using hk
    obtain ⟨cl,e1,e2,e3,e4⟩:=ih acc hr ha;refine ⟨cl,?_,e2,e3,fun y hy hy2=>?_⟩
    ·rw [List.forIn_cons]
     show ((if (k == cP.free)=true then (cellOf env n >>= fun c=>fM (ForInStep.yield ((n,c)::acc))) else fM (ForInStep.yield acc)) >>= _)=_;rw [hb];exact e1
    ·rcases aG.mp hy with rfl | hy3
     ·exact rL hy2 hk
     ·exact e4 y hy3 hy2
 obtain ⟨cl,e1,e2,_,e4⟩:=aux scope.names [] hf fun x c e=>by cases e
 refine ⟨cl,Eq.trans ?_ e1,e2,e4⟩;unfold closureFor
 first
  | rfl
  | (simp only [bind_pure];done)
  | (simp only [bind_pure];rfl)
  | (simp only [bind_pure]
     congr 1
     funext x r
     obtain ⟨n,k⟩:=x;cases (k == cP.free) <;> rfl)
theorem oa {env:Env}:∀ {names:List (Str×cP)} {x:Str} {k':cP},
  (names.map fun (n,k)=>if (k == cP.free && env.scope.kind == .function && env.kindOf n == some .cell) then (n,cP.cell) else (n,k)).lookup x=some k' →
  names.lookup x=some k'∨(names.lookup x=some .free∧k'= .cell)
 | [],_,_,h=>by simp at h
 | (n,k)::r,x,k',h=>by
  have ih:= @oa env r x k';rw [cw] at h;show eX x ((n,k)::r)=_∨(eX x ((n,k)::r)=_∧_);rw [dI]
  by_cases hq:(k == cP.free && env.scope.kind == .function && env.kindOf n == some .cell)=true
  ·have g:eX x ((if (k == cP.free && env.scope.kind == .function && env.kindOf n == some .cell)=true then (n,cP.cell) else (n,k))::_)=_:=h
   rw [rJ hq,dI] at g;have hk:k= .free:=by
    rw [dM,dM] at hq;exact eq_of_beq hq.1.1
   cases hx:x == n with
   | true=>rw [hx] at g;rw [hk];exact .inr ⟨rfl,(cG g).symm⟩
   | false=>rw [hx] at g;exact ih g
  ·have g:eX x ((if (k == cP.free && env.scope.kind == .function && env.kindOf n == some .cell)=true then (n,cP.cell) else (n,k))::_)=_:=h
   rw [rG hq,dI] at g;cases hx:x == n with
   | true=>rw [hx] at g;exact .inl g
   | false=>rw [hx] at g;exact ih g
theorem oq {env:Env}(hk:env.scope.kind= .function){x:Str}(hx:env.kindOf x=some .cell):∀ {names:List (Str×cP)},names.lookup x=some .free →
  (names.map fun (n,k)=>if (k == cP.free && env.scope.kind == .function && env.kindOf n == some .cell) then (n,cP.cell) else (n,k)).lookup x=some .cell
 | [],h=>by simp at h
 | (n,k)::r,h=>by
  have ih:= @oq env hk x hx r;show eX x ((if (k == cP.free && env.scope.kind == .function && env.kindOf n == some .cell)=true then (n,cP.cell) else (n,k))::_)=some cP.cell;rw [dI] at h;cases hxn:x == n with
  | true =>
   rw [hxn] at h;have ek:k= .free:=cG h;have en:x=n:=eq_of_beq hxn;subst ek en;rw [rJ (by rw [hk,hx];rfl),dI,beq_self_eq_true]
  | false =>
   rw [hxn] at h
   by_cases hq:(k == cP.free && env.scope.kind == .function && env.kindOf n == some .cell)=true
   ·rw [rJ hq,dI,hxn];exact ih h
   ·rw [rG hq,dI,hxn];exact ih h
def PTs (X:Cx)(ifs:List Expr)(t:TT):Prop :=
 ∀ (aP:List (ao×Obj)) (s:au) (σ:St) (H:Hp) (Q:Bool→Hp→Prop),Inv X aP σ H s→t σ H Q →
  aW (bx X.prog X.w) X.A (forIn ifs true fun c r=>if r=true then do let ok ← isTrue c X.env (eP c X.env);fM (ForInStep.yield ok) else fM (ForInStep.yield r)) (TP X aP σ Q) X.xe s
def tNoIf:TT:=fun _ H Q=>Q true H
theorem gH {A B:Hp→Prop}(h:A H):tNoIf σ H fun b H4=>if b=true then A H4 else B H4:=by
 show if true=true then A H else B H;rw [rJ rfl];exact h
theorem ie:PTs X [] tNoIf:=fun _ _ _ H _ I h=>wpAny_tests_nil ⟨H,I,h⟩
theorem pS {c:Expr}{t:TT}(h:PT X c t):PTs X [c] t:=fun aP s σ H Q I q=>wpAny_tests_one (h aP s σ H Q I q)
theorem HOk.take (x:HOk P w H h)(hn:H a=none)(new:ObjOk P w (upd H a o) h a o):HOk P w (upd H a o) h:=fun b u e=>by
 by_cases hb:b=a
 ·subst hb;rw [aV] at e;cases e;exact new
 ·rw [bC hb] at e
  exact (x b u e).stay (fun _ _ _ q=>q) (fun c q=>by rw [bC (bH q hn)];exact q) fun c xs q=>by rw [bC (bH q hn)];exact q
def dH (σ:St)(js:List Nat):St:=js.map fun j=>(σ[j]?).getD none
def CompW (js:List Nat)(tt:TT)(te:TE)(σ:St)(Q:VK)(J:It)(H1:Hp):Prop:=∃ W:Nat→Nat→List V→Hp→Prop,(∃ m,W 0 m [] H1)∧∀ i m ys H2,W i m ys H2 →
 (J.stop i H2∧∀ D,H2 D=none→Q (.ref D) (upd H2 D (.lst ys))) ∨
 (J.go i H2∧ys.length<bp∧∃ N:List V→Hp→Prop,(∀ ys' H',N ys' H'→∃ m',m'<m∧W (i+1) m' ys' H')∧∀ x H3,J.yld i H2 x H3→tt (some x::dH σ js) H3 fun b H4 =>
  if b=true then te (some x::dH σ js) H4 fun y H5=>N (ys++[y]) H5 else N ys H4)
def tComp (wi:TI)(js:List Nat)(tt:TT)(te:TE):TE:=fun σ H Q=>wi σ H fun J H1=>CompW js tt te σ Q J H1
abbrev lobj (us:List ae)(n:Nat):Obj:={ cls:= .type "list",data:= .seq us.toArray n }
abbrev rB (prog:aY)(w:bE)(A:bZ)(env:Env)(R:Result→au→Prop):ae→au→Prop:=notedBy (bx prog w) A env fun x t=>R (.error x) t
theorem loop_any {it acc:ae}(J:Nat→au→Prop)
  (step:∀ k t,J k t→aW (bx prog w) A (pyNext it) (fun r t1=>match r with
   | none=>R (.ok .next) t1
   | some v=>aW (bx prog w) A (letOwnedTupleGo tg it v) (fun _ t2=>aW (bx prog w) A (assign tg env v) (fun _ t3 =>
     aW (bx prog w) A (forIn ifs true fun c b=>if b=true then do let z ← isTrue c env (eP c env);fM (ForInStep.yield z) else fM (ForInStep.yield b)) (fun z t4 =>
      if z=true then aW (bx prog w) A (eP elt env) (fun y t5=>aW (bx prog w) A (call (.builtin "list.append") [acc,y]) (fun _ t6=>∃ m,m<k∧J m t6) (rB prog w A env R) t5) (rB prog w A env R) t4
      else ∃ m,m<k∧J m t4) (rB prog w A env R) t3) (rB prog w A env R) t2) (rB prog w A env R) t1) (rB prog w A env R) t)
  (k:Nat) (h:J k s):jq (bx prog w) A (.compLoop (.ListComp elt [⟨tg,iter,ifs,0⟩] scope pos) 0 it acc env) R s:=by
 refine codeAny_loop rfl J (fun k t hJ=>?_) k h;show aW _ A ((compTurn (.ListComp elt [⟨tg,iter,ifs,0⟩] scope pos) 0 it acc env).onRaise (fun y=>do noteFrame y env;theTreesLotGoes y)) _ _ t;refine wpAny_noted ?_;rw [compTurn_list];refine ah (wpAny_standAt (ah (cx (step k t hJ) (fun r t1 q1=>?_) fun _ _ f=>f)));cases r with
 | none=>exact aL q1
 | some v =>
  refine ah (cx q1 (fun _ t2 q2=>?_) fun _ _ f=>f);refine ah (cx q2 (fun _ t3 q3=>?_) fun _ _ f=>f);refine ah (cx q3 (fun z t4 q4=>?_) fun _ _ f=>f);cases z with
  | false=>exact aL ⟨rfl,q4⟩
  | true=>exact ah (ah (cx q4 (fun y t5 q5=>ah (cx q5 (fun _ t6 q6=>aL (aL ⟨rfl,q6⟩)) fun _ _ f=>f)) fun _ _ f=>f))
def rE (n:Nat)(g:TG)(js:List Nat)(tt:TT)(te:TE)(σ:St)(Q:VK)(J:It)(H1:Hp):Prop:=∃ W:Nat→Nat→List V→Hp→Prop,(∃ m,W 0 m [] H1)∧∀ i m ys H2,W i m ys H2 →
 (J.stop i H2∧∀ D,H2 D=none→Q (.ref D) (upd H2 D (.lst ys))) ∨
 (J.go i H2∧ys.length<bp∧∃ N:List V→Hp→Prop,(∀ ys' H',N ys' H'→∃ m',m'<m∧W (i+1) m' ys' H')∧∀ x H3,J.yld i H2 x H3→∀ v0:St,v0.length=n→g x (v0++dH σ js) H3 fun σ4 H4 =>
  (∃ v1:St,v1.length=n∧σ4=v1++dH σ js)∧tt σ4 H4 fun b H5=>if b=true then te σ4 H5 fun y H6=>N (ys++[y]) H6 else N ys H5)
def tCompT (wi:TI)(n:Nat)(g:TG)(js:List Nat)(tt:TT)(te:TE):TE:=fun σ H Q=>wi σ H fun J H1=>rE n g js tt te σ Q J H1
theorem comp_core {Q:VK}{use:Option (ae→Sem Unit)}{R:ae→au→Prop}{xs:List Str}
  (hc:X.calm=true) (hi:PI X tg iter wi)
  (iU:∀ y∈scope.names,y.2≠ .cell) (mx:scope.kind= .function) (lW:∀ y∈scope.names,y.2= .local→scope.names.lookup y.1=some .local)
  (hfr:∀ y∈scope.names,y.2= .free→X.env.scope.names.lookup y.1=some .cell) (hjs:js.map (fun j=>X.N[j]?)=fr.map some) (hfv:∀ y∈fr,scope.names.lookup y=some .free)
  (hg:∀ cl C s' H' ex,PG (gR X scope cl C (xs++fr) s' H' ex) tg g)
  (hb:∀ cl C s' H' ex,PE (gR X scope cl C (xs++fr) s' H' ex) elt te∧PTs (gR X scope cl C (xs++fr) s' H' ex) ifs tt)
  (hCW:∀ σ Q J H1,CW σ Q J H1→rE xs.length g js tt te σ Q J H1) (I:Inv X aP σ H s) (h:wi σ H fun J H1=>CW σ Q J H1)
  (fin:∀ (s4:au) (H5:Hp) (D C:ao) (mC:Str→Option ae),s4.heap.Ns C mC→Inv X aP σ H5 s4→H5 C=none→C≠X.env.locals→C ∉ X.fs→(∀ p∈X.pn++aP,p.1≠C)→(∀ y c,X.env.cells.lookup y=some c→c≠C)→X.s₀.heap.objs.size≤C→Q (.ref D) H5→compPost (bx X.prog X.w) X.A X.xe use R (.ref D) C (.ok .next) s4)
  (hs:∀ z,gU iter X.env z=fM z:=by intro _;rfl) :
  aW (bx X.prog X.w) X.A (comprehension (.ListComp elt [⟨tg,iter,ifs,0⟩] scope pos) scope X.env pos' (newList []) false (eP iter X.env) use) R X.xe s:=by
 have hXk:X.env.scope.kind= .function:=I.ok.kind;obtain ⟨cl,hclos,c1,c2⟩:=mG (scope:=scope) (env:=X.env) fun y hy hk=>I.ok.has _ (.inl (hfr y hy hk))
 refine wpAny_comprehension_free rfl hs hclos mx lW (thn (hi aP s σ H _ I h) fun xv s1 h1=>thn h1 fun itv s2 h2=>?_);obtain ⟨it,fp,tn,J,H2,rfl,I2,T,st2,f2,hcw⟩:=h2;obtain ⟨W,⟨m0,w0⟩,turn⟩:=hCW _ _ _ _ hcw;refine dh (wpAny_newFunctionEnv iU (by intro y hy;simp at hy) (fun hA nsA sbA=>?_) mx)
 dsimp only at nsA sbA ⊢
 generalize hG:s2.heap.push { cls:= .type "list",dict:=none,data:= .seq ([]:List ae).toArray }=G at nsA sbA ⊢;have hC:G.objs.size=s2.heap.objs.size+1:=by rw [←hG,gh]
 have hDC:s2.heap.objs.size≠G.objs.size:=by rw [hC];exact bQ (j4 _)
 have small:∀ b o,s2.heap.get? b=some o→b≠G.objs.size∧b≠s2.heap.objs.size:=fun b o e=>⟨by rw [hC];exact bQ (iD (aO e)),bQ (aO e)⟩
 have old:∀ b o,s2.heap.get? b=some o→hA.get? b=some o:=fun b o e=>sbA.extBut b o (small b o e).1 (ar _ (hG ▸ ar _ e))
 have hDA:hA.get? s2.heap.objs.size=some (lobj [] 0):=sbA.extBut _ _ hDC (ar _ (hG ▸ bg _ rfl));have fpo:∀ b∈fp,∃ o,s2.heap.get? b=some o:=fun b hb=>let ⟨o,e,_⟩:=T.obj _ _ st2 b hb;⟨o,e⟩
 have celo:∀ y c,cl.lookup y=some c→∃ o,s2.heap.get? c=some o:=fun y c e=>let ⟨_,o,ho,_⟩:=I2.cell y c (c1 y c e);⟨o,ho⟩
 have ok':(gR X scope cl G.objs.size (xs++fr) s2 H2 fp).Ok:=by
  refine ⟨I2.ok.mod,mx,I2.ok.glob,I2.ok.blt,?_,fun a b c e1 e2=>I2.ok.inj a b c (c1 a c e1) (c1 b c e2),fun y hy=>?_,fun _ _ z=>rL z (by intro q;cases q),I2.ok.hd,I2.ok.frames,.inl rfl,fun b hb=>?_,I2.bs,bh I2.ok.bsz I2.sz,fun b o e hb=>?_,fun b hb hz=>?_,I2.stack,I2.stkFree⟩
  ·show s2.heap.objs.size≤G.objs.size
   rw [hC];exact Nat.le_succ _
  ·have hy:(relabel scope X.env).names.lookup y=some .cell∨(relabel scope X.env).names.lookup y=some .free:=hy
   have key:scope.names.lookup y=some .free:=by
    rcases hy with hy | hy
    ·rcases oa hy with q | ⟨q,_⟩
     ·exact rL rfl (iU _ (cE q))
     ·exact q
    ·rcases oa hy with q | ⟨q,_⟩
     ·exact q
     ·exact q
   have hm:=cE key;obtain ⟨c,e⟩:=I.ok.has y (.inl (hfr _ hm rfl));exact ⟨c,(c2 _ hm rfl).trans e⟩
  ·obtain ⟨o,e⟩:=fpo b hb
   exact ⟨(small b o e).1,fun y c q=>(f2 b hb).2.2.2.2.1 y c (c1 y c q)⟩
  ·obtain ⟨_,_,_,f3,_⟩:=f2 b hb
   rcases f3 with f3 | f3
   ·exact I2.ok.noex b o e f3
   ·exact rL (aS (aO e) (bh I2.ok.bsz f3)) (gf _)
  ·obtain ⟨_,n1,n2,_⟩:=f2 b hb
   exact (aG.mp (I2.stkSub b hz)).elim n1 n2
 have nofs:s2.heap.objs.size ∉ frs X.stack:=fun hz=>by
  obtain ⟨_,o,ho,_⟩:=I2.stack.mem hz;exact gf _ (aO ho)
 have lenB:(dH σ js).length=fr.length:=by
  have e:=rQ List.length hjs;rw [aa,aa] at e;unfold dH;rw [aa];exact e
 have start':∀ t,Inv (gR X scope cl G.objs.size (xs++fr) s2 H2 fp) [(s2.heap.objs.size,lobj [] 0)] ((xs.map fun _=>none)++dH σ js) H2 { s2 with heap:=hA,toks:=t }:=fun t=>by
  refine ⟨ok',rfl,I2.bare,Un.kept old,⟨_,nsA,fun i y v e1 e2 e3=>?_⟩,fun y c e=>?_,I2.hok.fresh (by rw [hC];exact Nat.le_succ _),fun y c e=>I2.freeC y c (c1 y c e),fun p hp=>?_,I2.hok.kept old,?_⟩
  ·by_cases hix:i<xs.length
   ·rw [gB (by rw [aa];exact hix),ax,gE hix] at e2
    cases e2
   ·obtain ⟨i,rfl⟩:∃ j,i=xs.length+j:=⟨i - xs.length,by lia⟩
    have e1:(xs++fr)[xs.length+i]? =some y:=e1;have e1:fr[i]? =some y:=by rw [cf (by lia),show xs.length+i - xs.length=i by lia] at e1;exact e1
    have e2:(dH σ js)[i]? =some (some v):=by rw [cf (by rw [aa];lia),aa,show xs.length+i - xs.length=i by lia] at e2;exact e2
    unfold dH at e2;rw [ax] at e2;obtain ⟨j,ej,e2⟩:=bF.mp e2;have hN:X.N[j]? =some y:=by
     have q:=rQ (fun l=>l[i]?) hjs;simp only [ax,ej,e1,gv] at q;exact cG q
    have hσ:σ[j]? =some (some v):=by
     cases z:σ[j]? with
     | none=>rw [z] at e2;cases e2
     | some w=>rw [z] at e2;exact rQ some e2
    have hfree:=hfv y (bj e1);have hm:=cE hfree;have hce:X.env.scope.names.lookup y=some .cell:=hfr _ hm rfl;obtain ⟨m,_,hl⟩:=I2.loc;obtain ⟨u,ru,look⟩:=hl j y v hN hσ (.inr (.inl hce));refine ⟨u,ru,.inr ⟨.inl (oq hXk hce hfree),?_⟩⟩
    rcases look with ⟨k,_⟩ | ⟨_,c,ec,ho⟩
    ·have k:X.env.scope.names.lookup y=some .local:=k
     rw [hce] at k;cases k
    ·obtain ⟨o,ho,hd⟩:=ho
     exact ⟨c,(c2 _ hm rfl).trans ec,o,old c o ho,hd⟩
  ·obtain ⟨v,o,ho,hd⟩:=I2.cell y c (c1 y c e)
   exact ⟨v,o,old c o ho,hd⟩
  ·have hp:p∈[(s2.heap.objs.size,lobj [] 0)]:=hp
   have e:=aw.mp hp;subst e;exact ⟨hDA,I2.hok.fresh (aE _),hDC,nofs,fun v z=>by cases z⟩
  ·show ((xs.map fun _=>none)++dH σ js).length=(xs++fr).length
   rw [av,av,aa,lenB]
 have fok:∀ {us:List ae} {n:Nat} {H':Hp},(∀ b∈fp,H' b=none)→∀ b∈fp,FpOk (gR X scope cl G.objs.size (xs++fr) s2 H2 fp) [(s2.heap.objs.size,lobj us n)] H' b:=fun {us n H'} hn b hb=>by
  obtain ⟨o,e⟩:=fpo b hb;refine ⟨hn b hb,(small b o e).1,fun hz=>(aG.mp (I2.stkSub b hz)).elim (f2 b hb).2.1 (f2 b hb).2.2.1,.inl hb,fun y c q=>(f2 b hb).2.2.2.2.1 y c (c1 y c q),fun p hp=>?_⟩;have hp:p∈[(s2.heap.objs.size,lobj us n)]:=hp;have ep:=aw.mp hp;subst ep;exact fun z=>(small b o e).2 z.symm
 have loop:∀ sB:au,(∃ t,sB={ s2 with heap:=hA,toks:=t }) →
   jq (bx X.prog X.w) X.A (.compLoop (.ListComp elt [⟨tg,iter,ifs,0⟩] scope pos) 0 (.ref it) (.ref s2.heap.objs.size) (compEnvC scope cl G.objs.size X.env))
    (compPost (bx X.prog X.w) X.A X.xe use R (.ref s2.heap.objs.size) G.objs.size) sB:=by
  rintro sB ⟨t,rfl⟩;refine loop_any (fun k s'=>∃ i ys us n v0 H',v0.length=xs.length∧Inv (gR X scope cl G.objs.size (xs++fr) s2 H2 fp) [(s2.heap.objs.size,lobj us n)] (v0++dH σ js) H' s'∧Vals ys us∧ys.length≤bp∧tn i s'.heap∧(∀ b∈fp,H' b=none)∧W i k ys H') ?_ m0
   ⟨0,[],[],0,xs.map fun _=>none,H2,aa ..,start' t,.nil,bG _,T.keep _ _ _ st2 fun b hb o e=>old b o e,fun b hb=>(f2 b hb).1,w0⟩
  rintro k s3 ⟨i,ys,us,n,v0,H3,hv0,I3,rv,hlen,st3,fr3,w3⟩
  rcases turn i k ys H3 w3 with ⟨stop,qn⟩ | ⟨go,hlt,N',hN',step⟩
  ·refine thn (T.done (gR X scope cl G.objs.size (xs++fr) s2 H2 fp) rfl rfl rfl hc i _ s3 _ H3 _ I3 (fok fr3) st3 stop) fun r s4 ⟨hr,I4⟩=>?_
   subst hr;obtain ⟨mC,hnC,_⟩:=id I4.loc;obtain ⟨pD,nD,_,_,_⟩:=I4.pin (s2.heap.objs.size,lobj us n) (by show _∈[]++[_];simp);have pD:s4.heap.get? s2.heap.objs.size=some (lobj us n):=pD;have nD:H3 s2.heap.objs.size=none:=nD;have nC:H3 G.objs.size=none:=I4.free;have D2:∀ b o,s2.heap.get? b=some o→b≠s2.heap.objs.size:=fun b o e=>(small b o e).2
   have base4:Un (frs X.stack) fp H2 H3 s2.heap s4.heap:=I4.base;have u4:Un (frs X.stack) fp H2 (upd H3 s2.heap.objs.size (.lst ys)) s2.heap s4.heap :=
    {keep:=base4.keep
     slot:=base4.slot
     free:=fun b o e nb hx'=>by rw [bC (D2 b o e)];exact base4.free b o e nb hx'
     there:=base4.there
     tups:=fun b xs e=>by have q:=base4.tups b xs e;rw [bC (bH q nD)];exact q
     frzs:=fun b o u e=>by have q:=base4.frzs b o u e;rw [bC (bH q nD)];exact q
     tbls:=fun b ps e=>by obtain ⟨more,q⟩:=base4.tbls b ps e;exact ⟨more,by rw [bC (bH q nD)];exact q⟩ }
   have I5:Inv X aP σ (upd H3 s2.heap.objs.size (.lst ys)) s4:=I2.call' (s':=s4) (ch:=fp) I4.os u4 (I4.hok.take nD ⟨hlen,us,n,rv,pD⟩) I4.bare fun b hb=>by
    obtain ⟨_,g1,_,g3,g4,g5⟩:=f2 b hb;exact ⟨g3,g1,g4,g5⟩
   have locC:G.objs.size≠X.env.locals:=fun z=>by
    obtain ⟨_,⟨o,_,_,ho,_⟩,_⟩:=id I2.loc;exact (small _ o ho).1 z.symm
   have fsC:G.objs.size ∉ X.fs:=fun hz=>by
    obtain ⟨_,o,ho,_⟩:=I2.ok.funs.mem hz;have:=aS (aO ho) I2.sz;rw [hC] at this;exact gf _ (Nat.lt_of_succ_lt this)
   have pinX:∀ p∈X.pn++aP,p.1≠G.objs.size:=fun p hp=>(small _ _ (I2.pin p hp).1).1
   have nCu:(upd H3 s2.heap.objs.size (.lst ys)) G.objs.size=none:=by rw [bC (cN hDC)];exact nC
   refine fin s4 _ _ _ mC hnC I5 nCu locC fsC pinX (fun y c q z=>?_) (bh I2.sz (by rw [hC];exact Nat.le_succ _)) (qn _ nD);obtain ⟨v,o,ho,_⟩:=I2.cell y c q;exact (small c o ho).1 z
  ·refine thn (T.item (gR X scope cl G.objs.size (xs++fr) s2 H2 fp) rfl rfl rfl hc i _ s3 _ H3 _ I3 (fok fr3) st3 go) fun r s4 ⟨u,hr,h4⟩=>?_
   subst hr;refine thn h4 fun _ s5 ⟨v,H5,I5,r5,y5,st5,fr5⟩=>?_
   have I5':=I5.pinned (fok fr5) (T.obj _ _ st5);refine cx (hg cl G.objs.size s2 H2 fp _ s5 _ H5 v u _ I5' r5 (step v H5 y5 v0 hv0)) (fun _ s6 ⟨σ6,H6,I6,⟨w1,hw1,e6⟩,q6⟩=>?_) fun _ _ f=>f.elim
   subst e6;refine cx ((hb cl G.objs.size s2 H2 fp).2 _ s6 _ H6 _ I6 q6) (fun b s7 ⟨H7,I7,q7⟩=>?_) fun _ _ f=>f.elim
   have back:∀ {s8:au} {H8:Hp},Inv (gR X scope cl G.objs.size (xs++fr) s2 H2 fp) ([(s2.heap.objs.size,lobj us n)]++pinsAt fp s5.heap) (w1++dH σ js) H8 s8→tn (i+1) s8.heap∧∀ b∈fp,H8 b=none:=fun {s8 H8} I8=>by
    refine ⟨T.keep _ _ _ st5 fun b hb o e=>(I8.pin (b,o) (aA _ (aA _ (l7 hb e)))).1,fun b hb=>?_⟩;obtain ⟨o,e,_⟩:=T.obj _ _ st5 b hb;exact (I8.pin (b,o) (aA _ (aA _ (l7 hb e)))).2.1
   cases b with
   | false =>
    obtain ⟨m',hm,w7⟩:=hN' _ _ q7;obtain ⟨t7,n7⟩:=back I7;exact ⟨m',hm,i+1,ys,us,n,w1,H7,hw1,I7.unpinned,rv,hlen,t7,n7,w7⟩
   | true =>
    refine cx ((hb cl G.objs.size s2 H2 fp).1 _ s7 _ H7 _ I7 q7) (fun y' s8 ⟨y,H8,I8,r8,q8⟩=>?_) fun _ _ f=>f.elim
    obtain ⟨m',hm,w8⟩:=hN' _ _ q8;obtain ⟨t8,n8⟩:=back I8;have I8':=I8.unpinned;obtain ⟨pD,nD,_,_,_⟩:=I8'.pin (s2.heap.objs.size,lobj us n) (by show _∈[]++[_];simp);have pD:s8.heap.get? s2.heap.objs.size=some (lobj us n):=pD;have nD:H8 s2.heap.objs.size=none:=nD;refine append_at pD (fun h9 hs9 e9=>?_) (by rw [aJ,←rv.length];exact hlen);have e9:h9.get? s2.heap.objs.size=some (lobj (us++[y']) (n+1)):=by rw [e9];simp [lobj]
    have J0:Inv (gR X scope cl G.objs.size (xs++fr) s2 H2 fp) [] (w1++dH σ js) H8 s8:=I8'.pins_of fun p hp=>rL hp (by simp)
    have J9:Inv (gR X scope cl G.objs.size (xs++fr) s2 H2 fp) [] (w1++dH σ js) H8 { s8 with heap:=h9,toks:=s8.toks } :=
     J0.turned (it:=s2.heap.objs.size) (fun b o hb' e=>hs9.extBut b o hb' e) nD hDC (.inr (aE _)) (fun y0 c q z=>by
      obtain ⟨o,e⟩:=celo y0 c q;exact (small c o e).2 z) fun p hp=>rL (show p∈([]:List (ao×Obj)) from hp) (by simp)
    refine ⟨m',hm,i+1,ys++[y],us++[y'],n+1,w1,H8,hw1,J9.pins_of fun p hp=>?_,rv.append (.cons r8 .nil),(by rw [av,iw];exact hlt),T.keep _ _ _ t8 fun b hb' o e=>hs9.extBut b o (by
     obtain ⟨o',e'⟩:=fpo b hb';exact (small b o' e').2) e,n8,w8⟩
    have ep:=aw.mp hp;subst ep;exact ⟨e9,nD,hDC,nofs,fun v z=>by cases z⟩
 exact codeAny_compStart_list (loop _ ⟨_,rfl⟩) (T.self _ 0 _ _ _ (T.keep _ _ _ st2 fun b hb o e=>old b o e) (loop _ ⟨_,rfl⟩))
theorem pe_compC {xs:List Str}
  (hc:X.calm=true) (hi:PI X tg iter wi)
  (iU:∀ y∈scope.names,y.2≠ .cell) (mx:scope.kind= .function) (lW:∀ y∈scope.names,y.2= .local→scope.names.lookup y.1=some .local)
  (hfr:∀ y∈scope.names,y.2= .free→X.env.scope.names.lookup y.1=some .cell) (hjs:js.map (fun j=>X.N[j]?)=fr.map some) (hfv:∀ y∈fr,scope.names.lookup y=some .free)
  (hg:∀ cl C s' H' ex,PG (gR X scope cl C (xs++fr) s' H' ex) tg g)
  (hb:∀ cl C s' H' ex,PE (gR X scope cl C (xs++fr) s' H' ex) elt te∧PTs (gR X scope cl C (xs++fr) s' H' ex) ifs tt)
  (hCW:∀ σ Q J H1,CW σ Q J H1→rE xs.length g js tt te σ Q J H1) (hs:∀ z,gU iter X.env z=fM z:=by intro _;rfl) :
  PE X (.ListComp elt [⟨tg,iter,ifs,0⟩] scope pos) (fun σ H Q=>wi σ H fun J H1=>CW σ Q J H1):=by
 intro aP s σ H Q I h;rw [eval_ListComp];exact comp_core (use:=none) (R:=EP X aP σ Q) hc hi iU mx lW hfr hjs hfv hg hb hCW I h (fun s4 H5 D C mC n I5 nC lC fC pC cC sC q=>⟨mC,n,fun h' hsb=>⟨.ref D,H5,I5.turned (t':=s4.toks) (it:=C) (fun b o hb' e=>hsb.extBut b o hb' e) nC lC (.inr sC) cC pC,rfl,q⟩⟩) hs
theorem compW_T {Q:VK}{J:It}(h:CompW js tt te σ Q J H1):rE 1 (oF 0) js tt te σ Q J H1:=by
 obtain ⟨W,w0,turn⟩:=h;refine ⟨W,w0,fun i m ys H2 hw=>?_⟩
 rcases turn i m ys H2 hw with h | ⟨h1,h2,N,h3,h4⟩
 ·exact .inl h
 ·refine .inr ⟨h1,h2,N,h3,fun x H3 hy v0 hv=>?_⟩
  obtain ⟨w,rfl⟩:∃ w,v0=[w]:=by
   obtain _ | ⟨w,v0⟩:=v0
   ·cases hv
   ·obtain _ | ⟨z,v0⟩:=v0
    ·exact ⟨w,rfl⟩
    ·cases hv
  exact ⟨⟨[some x],rfl,rfl⟩,h4 x H3 hy⟩
theorem iQ {px:Pos}
  (hc:X.calm=true) (hi:PI X (.Name x px) iter wi)
  (iU:∀ y∈scope.names,y.2≠ .cell) (mx:scope.kind= .function) (lW:∀ y∈scope.names,y.2= .local→scope.names.lookup y.1=some .local) (hx:scope.names.lookup x=some .local)
  (hfr:∀ y∈scope.names,y.2= .free→X.env.scope.names.lookup y.1=some .cell) (hnd:(x::fr).Nodup) (hjs:js.map (fun j=>X.N[j]?)=fr.map some) (hfv:∀ y∈fr,scope.names.lookup y=some .free)
  (hb:∀ cl C s' H' ex,PE (gR X scope cl C (x::fr) s' H' ex) elt te∧PTs (gR X scope cl C (x::fr) s' H' ex) ifs tt)
  (hs:∀ z,gU iter X.env z=fM z:=by intro _;rfl) :
  PE X (.ListComp elt [⟨.Name x px,iter,ifs,0⟩] scope pos) (tComp wi js tt te) :=
 pe_compC (xs:=[x]) (g:=oF 0) hc hi iU mx lW hfr hjs hfv (fun _ _ _ _ _=>oi hnd rfl (.inl (fg hx)) (.inr (fg hx))) hb (fun _ _ _ _ h=>compW_T h) hs
theorem kx {Q:VK}(Pv:Nat→List V→Hp→Prop)(h0:Pv 0 [] H)(hl:∀ i ys H,i≤xs.length→Pv i ys H→SqT K H a xs∧ys.length≤i)(hz:xs.length≤bp)
  (hs:∀ i x ys H,xs[i]? =some x→Pv i ys H→tt (some x::dH σ js) H fun b H4=>if b=true then te (some x::dH σ js) H4 fun y H5=>Pv (i+1) (ys++[y]) H5 else Pv (i+1) ys H4)
  (hd:∀ ys H,Pv xs.length ys H→∀ D,H D=none→Q (.ref D) (upd H D (.lst ys))):CompW js tt te σ Q (Itt K a) H:=by
 refine ⟨fun i m ys H=>i≤xs.length∧m=xs.length - i∧Pv i ys H,⟨_,bG _,rfl,h0⟩,fun i m ys H2 ⟨hi,hm,hp⟩=>?_⟩;obtain ⟨hq,hy⟩:=hl i ys H2 hi hp
 by_cases e:i=xs.length
 ·subst e
  exact .inl ⟨⟨xs,hq,aE _⟩,hd ys H2 hp⟩
 ·have hlt:i<xs.length:=gm hi e
  refine .inr ⟨⟨xs,_,hq,gE hlt⟩,by lia,Pv (i+1),fun ys' H' hp'=>⟨xs.length - (i+1),by lia,by lia,rfl,hp'⟩,fun x H3 hy3=>?_⟩;obtain ⟨e3,hx⟩:=hy3;subst e3;exact hs i x ys H3 (hx xs hq) hp
theorem nextT_item {j t:ao}{its}{v:ae}(jt:s.heap.IsTupleIter j t i)(tt:s.heap.IsTuple t its)(hv:its[i]? =some v)
  (q:∀ g,g.IsTupleIter j t (i+1)→d9 j s.heap g→Q v { s with heap:=g }):aW (bx prog w) A (dt (.ref j)) Q E s:=by
 obtain ⟨ob,e1,e2,e3⟩:=id jt;obtain ⟨ot,g1,_,k,g2⟩:=tt;unfold dt;refine ah (d5 (name:=df "__next__") jt.typeIs iX (gu iX jt.typeIs F.entry_tuple_iterator_next ?_ (F.args_tuple_iterator_next_1 _)));show aW _ _ (field (.ref j) 0 >>= _) _ _ s;refine ah (dm e1 e3 (x:= .ref t) rfl ?_);show aW _ _ (ite ((ae.ref t == ae.none)=true) _ _) _ _ s;rw [rG (fun z:(ae.ref t == ae.none)=true=>aR z)];show aW _ _ (field (.ref j) 1 >>= _) _ _ s;refine ah (dm e1 e3 (x:= .int i 0) rfl ?_);show aW _ _ (seqItems? (.ref t) >>= _) _ _ s;refine ah (fT g1 g2 ?_);simp only [cL,hv];refine ah (wpAny_setField e1 e3 (by simp) (aL ⟨v,rfl,aL (q _ ?_ (gz ..))⟩));exact ⟨_,bP.get?_update_self _ e1 (Obj.isFreed_of_fields (Obj.data_mapFields e3 _)),(Obj.cls_mapFields ..).trans e2,by rw [Obj.data_mapFields e3];simp [rawInt]⟩
theorem nextT_end {j t:ao}{its}(hh:A.handled=none)(jt:s.heap.IsTupleIter j t i)(tt:s.heap.IsTuple t its)(hv:its[i]? =none)
  (q:∀ g x,bP.ExtBut j s.heap g→(∃ o,g.get? x=some o∧o.cls= .type "StopIteration")→E (.ref x) { s with heap:=g }):aW (bx prog w) A (dt (.ref j)) Q E s:=by
 obtain ⟨ob,e1,e2,e3⟩:=id jt;obtain ⟨ot,g1,_,k,g2⟩:=tt;unfold dt;refine ah (d5 (name:=df "__next__") jt.typeIs iX (gu iX jt.typeIs F.entry_tuple_iterator_next ?_ (F.args_tuple_iterator_next_1 _)));show aW _ _ (field (.ref j) 0 >>= _) _ _ s;refine ah (dm e1 e3 (x:= .ref t) rfl ?_);show aW _ _ (ite ((ae.ref t == ae.none)=true) _ _) _ _ s;rw [rG (fun z:(ae.ref t == ae.none)=true=>aR z)];show aW _ _ (field (.ref j) 1 >>= _) _ _ s;refine ah (dm e1 e3 (x:= .int i 0) rfl ?_);show aW _ _ (seqItems? (.ref t) >>= _) _ _ s;refine ah (fT g1 g2 ?_);simp only [cL,hv];refine ah (wpAny_rule (ah (wpAny_setField e1 e3 (by simp) ?_)));show aW _ _ (newExc (.type "StopIteration") [] >>= _) _ _ _;refine ah ?_;simp only [newExc,newTuple];refine ah (dh ?_ (by size_fits));refine ah (m:=firstArgMember _ _) (wpAny_of_eq (a:=ae.none) (by first | rfl | (unfold firstArgMember;rfl)) ?_);refine dh ?_ (by size_fits);simp only [raiseNew];refine ah (wpAny_handled ?_)
 first | rw [show A.in1.handled=none from hh] | rw [hh]
 exact ah (aL (wpAny_throw (q _ _ (((gz ..).extBut.push _).push _) ⟨_,bg _ rfl,rfl⟩)))
theorem Inv.turnAll {g:bP}(I:Inv X aP σ H s)(hf:∀ b∈ch,FpOk X aP H b)
  (k:∀ b o,b ∉ ch→s.heap.get? b=some o→g.get? b=some o) (hH:∀ b u,H b=some u→H' b=some u) (hN:∀ b o,s.heap.get? b=some o→H b=none→H' b=none) (hok:HOk X.prog X.w H' g):Inv X aP σ H' { s with heap:=g }:=by
 refine I.step (g':=s.gens) (d':=s.drawn) (t':=s.toks) (ch:=ch) (fun b hb=>?_) (fun b o _ _ hc e _=>k b o hc e) (fun b o _ _ hc e _=>⟨o.slots,k b o hc e⟩) (fun b o _ e n=>hN b o e n)
  (fun b o hc e=>⟨o,k b o hc e⟩) (fun b xs e=>hH b _ e) (fun b o u e=>hH b _ e) (fun b ps e=>⟨#[],by rw [hH b _ e];simp⟩) (fun m hm=>?_) hok I.bare
 ·obtain ⟨_,f1,_,f3,f4,f5⟩:=hf b hb
  exact ⟨f3,f1,f4,f5⟩
 ·obtain ⟨o,es,ep,ho,r⟩:=hm
  exact ⟨o,es,ep,k _ o (fun hb=>(hf _ hb).2.1 rfl) ho,r⟩
theorem Same.put (e:Same H H1){p:ao}(h:H1 p=none):Same H (upd H1 p o):=fun b u q=>by rw [bC (bH (e b u q) h)];exact e b u q
theorem Inv.big (I:Inv X aP σ H s):jC<s.heap.objs.size:=by
 have h:bU<s.heap.objs.size:=(I.mod.glob.keeps I.bk).lt;exact jN (by decide) h
theorem dk_empty (h:bP)(hb:jC<h.objs.size):ObjOk P w H (h.push { cls:= .type "dict",data:= .dict #[] }) h.objs.size (.dK []) :=
 ⟨bG _,beq_eq_false_iff_ne.mpr (cN (bQ hb)),[],.nil,bP.DictOf.new h⟩
def tDNewK:TE:=fun _ H Q=>∀ p,H p=none→Q (.ref p) (upd H p (.dK []))
theorem pe_dnewK:PE X (.Dict [] [] pos) tDNewK:=fun aP s σ H Q I h =>
 wpAny_Dict_empty ⟨.ref s.heap.objs.size,_,I.laid (a:=s.heap.objs.size) (o:= .dK []) (t':=s.toks) (fun _ _ q=>ar _ q) (aE _) (dk_empty s.heap I.big),rfl,h _ (I.hok.fresh (aE _))⟩
theorem PE.imp {t t':TE}(h:PE X e t)(i:∀ σ H Q,t' σ H Q→t σ H Q):PE X e t':=fun aP s σ H Q I q=>h aP s σ H Q I (i σ H Q q)
theorem OpR.imp {f:ae→ae→Sem ae}{r r':R2}(h:OpR X f r)(i:∀ x y H Q,r' x y H Q→r x y H Q):OpR X f r':=fun aP s σ H x y v u Q I rx ry q=>h aP s σ H x y v u Q I rx ry (i x y H Q q)
theorem CallR.imp {f:ae}{r r':List V→Hp→VK→Prop}(h:CallR X f r)(i:∀ xs H Q,r' xs H Q→r xs H Q):CallR X f r':=fun aP s σ H xs us Q I rv q=>h aP s σ H xs us Q I rv (i xs H Q q)
theorem SlR.imp (h:SlR X r)(i:∀ x lo hi H Q,r' x lo hi H Q→r x lo hi H Q):SlR X r':=fun aP s σ H x v vl vu lo hi sl Q I rx hs pl pu q=>h aP s σ H x v vl vu lo hi sl Q I rx hs pl pu (i x lo hi H Q q)
def tACut (t:TA):TA:=fun σ H R=>∃ R':List V→Hp→Prop,(∀ xs H,R' xs H→R xs H)∧t σ H R'
theorem PA.cut (h:PA X es t):PA X es (tACut t):=fun pos aP s σ H Q I ⟨R',i,q⟩ =>
 thn (h pos aP s σ H R' I q) fun us s' ⟨vs,H',I',rv,q'⟩=>⟨vs,H',I',rv,i _ _ q'⟩
def New (H:Hp)(o:HO)(Q:VK):Prop:=∀ p H',Same H H'→H' p=some o→Q (.ref p) H'
theorem New.of {Q:VK}(h:New H o Q):∀ p,H p=none→Q (.ref p) (upd H p o):=fun p hp=>h p _ (Same.put (Same.refl H) hp) aV
def tTupA (t:TA):TE:=fun σ H Q=>t σ H fun xs H1=>xs.length≤bp∧New H1 (.tup xs) Q
def tLstA (t:TA):TE:=fun σ H Q=>t σ H fun xs H1=>xs.length≤bp∧New H1 (.lst xs) Q
theorem eC {x1}(h:PA X es t):PE X (.Tuple es x1 pos) (tTupA t):=(pe_tup h.cut).imp fun _ _ _ q=>⟨_,fun _ _ z=>⟨z.1,z.2.of⟩,q⟩
theorem lR (h:PA X es t):PE X (.List es pos) (tLstA t):=(i9 h.cut).imp fun _ _ _ q=>⟨_,fun _ _ z=>⟨z.1,z.2.of⟩,q⟩
theorem mr:OpR X (gW .Add) (fun x y H Q=>∃ l b xs zs,x= .ref l∧y= .ref b∧H l=some (.lst xs)∧H b=some (.lst zs)∧xs.length+zs.length≤bp∧New H (.lst (xs++zs)) Q) :=
 op_cat.imp fun _ _ _ _ ⟨l,b,xs,zs,e1,e2,e3,e4,e5,q⟩=>⟨l,b,xs,zs,e1,e2,e3,e4,e5,q.of⟩
inductive Dt where
 | non | bl (b:Bool) | int (i:Int) | str (x:Str) | tup (ds:List Dt) | oth (T:String)
mutual
inductive IsD (H:Hp):V→Dt→Prop where
 | non:IsD H .non .non
 | bl (b:Bool):IsD H (.bl b) (.bl b)
 | int (i:Int):IsD H (.int i) (.int i)
 | str (x:Str):IsD H (.str x) (.str x)
 | tup {a:ao} {xs:List V} {ds:List Dt} (h:H a=some (.tup xs)) (r:IsDs H xs ds):IsD H (.ref a) (.tup ds)
 | lst {a:ao} {xs:List V} (h:H a=some (.lst xs)):IsD H (.ref a) (.oth "list")
 | dct {a:ao} {kvs:List (Key×V)} (h:H a=some (.dK kvs)):IsD H (.ref a) (.oth "dict")
inductive IsDs (H:Hp):List V→List Dt→Prop where
 | nil:IsDs H [] []
 | cons {x:V} {d:Dt} {xs:List V} {ds:List Dt} (h:IsD H x d) (r:IsDs H xs ds):IsDs H (x::xs) (d::ds)
end
mutual
theorem IsD.same {H H':Hp}(e:Same H H'):∀ {v:V} {d:Dt},IsD H v d→IsD H' v d
 | _,_,.non=> .non
 | _,_,.bl b=> .bl b
 | _,_,.int i=> .int i
 | _,_,.str x=> .str x
 | _,_,.tup h r=> .tup (e _ _ h) (IsDs.same e r)
 | _,_,.lst h=> .lst (e _ _ h)
 | _,_,.dct h=> .dct (e _ _ h)
theorem IsDs.same {H H':Hp}(e:Same H H'):∀ {vs:List V} {ds:List Dt},IsDs H vs ds→IsDs H' vs ds
 | _,_,.nil=> .nil
 | _,_,.cons h r=> .cons (IsD.same e h) (IsDs.same e r)
end
mutual
theorem IsD.inj {H:Hp}:∀ {v:V} {d e:Dt},IsD H v d→IsD H v e→d=e
 | _,_,_,.non,.non=>rfl
 | _,_,_,.bl _,.bl _=>rfl
 | _,_,_,.int _,.int _=>rfl
 | _,_,_,.str _,.str _=>rfl
 | _,_,_,.tup h r,q=>by
  cases q with
  | tup h' r'=>rw [h] at h';cases h';rw [IsDs.inj r r']
  | lst h'=>rw [h] at h';cases h'
  | dct h'=>rw [h] at h';cases h'
 | _,_,_,.lst h,q=>by
  cases q with
  | tup h' r'=>rw [h] at h';cases h'
  | lst h'=>rfl
  | dct h'=>rw [h] at h';cases h'
 | _,_,_,.dct h,q=>by
  cases q with
  | tup h' r'=>rw [h] at h';cases h'
  | lst h'=>rw [h] at h';cases h'
  | dct h'=>rfl
theorem IsDs.inj {H:Hp}:∀ {vs:List V} {ds es:List Dt},IsDs H vs ds→IsDs H vs es→ds=es
 | _,_,_,.nil,.nil=>rfl
 | _,_,_,.cons h r,.cons h' r'=>by rw [IsD.inj h h',IsDs.inj r r']
end
theorem IsDs.length:∀ {xs:List V} {ds:List Dt},IsDs H xs ds→xs.length=ds.length
 | _,_,.nil=>rfl
 | _,_,.cons _ r=>by rw [aZ,aZ,IsDs.length r]
theorem IsDs.get:∀ {xs:List V} {ds:List Dt} {i:Nat} {x:V},IsDs H xs ds→xs[i]? =some x→∃ d,ds[i]? =some d∧IsD H x d
 | _,_,_,_,.nil,e=>by simp at e
 | _,_,0,_,.cons h _,e=>by simp at e;subst e;exact ⟨_,rfl,h⟩
 | _,_,i+1,x,.cons _ r,e=>by
  obtain ⟨d,h1,h2⟩:=IsDs.get (i:=i) (x:=x) r (by simpa using e);exact ⟨d,by simpa using h1,h2⟩
theorem IsDs.at:∀ {xs:List V} {ds:List Dt} {i:Nat} {d:Dt},IsDs H xs ds→ds[i]? =some d→∃ x,xs[i]? =some x∧IsD H x d
 | _,_,_,_,.nil,e=>by simp at e
 | _,_,0,_,.cons h _,e=>by simp at e;subst e;exact ⟨_,rfl,h⟩
 | _,_,i+1,d,.cons _ r,e=>by
  obtain ⟨x,h1,h2⟩:=IsDs.at (i:=i) (d:=d) r (by simpa using e);exact ⟨x,by simpa using h1,h2⟩
theorem IsDs.append:∀ {xs ys:List V} {ds es:List Dt},IsDs H xs ds→IsDs H ys es→IsDs H (xs++ys) (ds++es)
 | _,_,_,_,.nil,s=>s
 | _,_,_,_,.cons h r,s=> .cons h (IsDs.append r s)
theorem IsDs.ints:∀ (ns:List Int),IsDs H (ns.map V.int) (ns.map Dt.int)
 | []=> .nil
 | n::r=> .cons (.int n) (IsDs.ints r)
theorem IsDs.ints_of:∀ {xs:List V} {ns:List Int},IsDs H xs (ns.map Dt.int)→xs=ns.map V.int
 | _,[],.nil=>rfl
 | _,n::r,.cons h q=>by cases h;rw [IsDs.ints_of q];rfl
theorem IsD.tup_of {ds:List Dt}(h:IsD H v (.tup ds)):∃ a xs,v= .ref a∧H a=some (.tup xs)∧IsDs H xs ds:=by
 cases h with
 | tup h r=>exact ⟨_,_,rfl,h,r⟩
def Dt.ty:Dt→String
 | .non => "NoneType" | .bl _ => "bool" | .int _ => "int" | .str _ => "str" | .tup _ => "tuple" | .oth T=>T
theorem IsD.tyn {d:Dt}(h:IsD H v d):tyn H v=some d.ty:=by
 cases h with
 | tup h r=>simp only [L2.tyn];rw [h];rfl
 | lst h=>simp only [L2.tyn];rw [h];rfl
 | dct h=>simp only [L2.tyn];rw [h];rfl
 | _=>rfl
mutual
def eqD:Dt→Dt→Bool
 | .non,.non=>true
 | .bl a,.bl b=>a == b
 | .bl a,.int b=>(if a then 1 else 0) == b
 | .int a,.bl b=>a == (if b then 1 else 0)
 | .int a,.int b=>a == b
 | .str a,.str b=>a == b
 | .tup xs,.tup ys=>eqDs xs ys
 | _,_=>false
def eqDs:List Dt→List Dt→Bool
 | [],[]=>true
 | x::xs,y::ys=>eqD x y && eqDs xs ys
 | _,_=>false
end
mutual
def pl:Dt→Bool
 | .oth _=>false
 | .tup ds=>pls ds
 | _=>true
def pls:List Dt→Bool
 | []=>true
 | d::ds=>pl d && pls ds
end
mutual
def dep:Dt→Nat
 | .tup ds=>deps ds+1
 | _=>0
def deps:List Dt→Nat
 | []=>0
 | d::ds=>max (dep d) (deps ds)
end
mutual
theorem eqD_refl:∀ d:Dt,pl d=true→eqD d d=true
 | .non,_=>by unfold eqD;rfl
 | .bl b,_=>by unfold eqD;exact beq_self_eq_true b
 | .int i,_=>by unfold eqD;exact beq_self_eq_true i
 | .str x,_=>by unfold eqD;exact beq_self_eq_true x
 | .tup ds,h=>by
  unfold eqD;unfold pl at h;exact eqDs_refl ds h
 | .oth T,h=>by unfold pl at h;cases h
theorem eqDs_refl:∀ ds:List Dt,pls ds=true→eqDs ds ds=true
 | [],_=>by unfold eqDs;rfl
 | d::ds,h=>by
  unfold eqDs;unfold pls at h;rw [dM] at h;rw [eqD_refl d h.1,eqDs_refl ds h.2];rfl
end
end L2
namespace L2
open PySem PySem.Spec PyProof.Rows
theorem jI:CallR X (.type "tuple") (fun xs H Q=>∃ p ys,xs=[.ref p]∧SqL X.K H p ys∧New H (.tup ys) Q) :=
 call_tuple_of.imp fun _ _ _ ⟨p,ys,e,h,q⟩=>⟨p,ys,e,.inl ⟨h,q.of⟩⟩
theorem sl_listA:SlR X (fun x lo hi H Q=>∃ a xs,x= .ref a∧SqL X.K H a xs∧New H (.lst (cutV xs lo hi)) Q) :=
 sl_list.imp fun _ _ _ _ _ ⟨a,xs,e,h,q⟩=>⟨a,xs,e,h,q.of⟩
theorem kl {Q:VK}(Pv:Nat→List V→Hp→Prop)(h0:Pv 0 [] H)(hl:∀ i ys H,i≤xs.length→Pv i ys H→SqL K H a xs∧ys.length≤i)(hz:xs.length≤bp)
  (hs:∀ i x ys H,xs[i]? =some x→Pv i ys H→tt (some x::dH σ js) H fun b H4=>if b=true then te (some x::dH σ js) H4 fun y H5=>Pv (i+1) (ys++[y]) H5 else Pv (i+1) ys H4)
  (hd:∀ ys H,Pv xs.length ys H→∀ D,H D=none→Q (.ref D) (upd H D (.lst ys))):CompW js tt te σ Q (Itl K a) H:=by
 refine ⟨fun i m ys H=>i≤xs.length∧m=xs.length - i∧Pv i ys H,⟨_,bG _,rfl,h0⟩,fun i m ys H2 ⟨hi,hm,hp⟩=>?_⟩;obtain ⟨hq,hy⟩:=hl i ys H2 hi hp
 by_cases e:i=xs.length
 ·subst e
  exact .inl ⟨⟨xs,hq,aE _⟩,hd ys H2 hp⟩
 ·have hlt:i<xs.length:=gm hi e
  refine .inr ⟨⟨xs,_,hq,gE hlt⟩,by lia,Pv (i+1),fun ys' H' hp'=>⟨xs.length - (i+1),by lia,by lia,rfl,hp'⟩,fun x H3 hy3=>?_⟩;obtain ⟨e3,hx⟩:=hy3;subst e3;exact hs i x ys H3 (hx xs hq) hp
theorem md {Q:VK}(Pv:Nat→List V→Hp→Prop)(h0:Pv 0 [] H)(hl:∀ i ys H,i≤n→Pv i ys H→ys.length≤i)(hz:n≤bp)
  (hs:∀ (i:Nat) ys H,i<n→Pv i ys H→tt (some (.int (lo+i))::dH σ js) H fun b H4=>if b=true then te (some (.int (lo+i))::dH σ js) H4 fun y H5=>Pv (i+1) (ys++[y]) H5 else Pv (i+1) ys H4)
  (hd:∀ ys H,Pv n ys H→∀ D,H D=none→Q (.ref D) (upd H D (.lst ys))):CompW js tt te σ Q (Itr lo n) H:=by
 refine ⟨fun i m ys H=>i≤n∧m=n - i∧Pv i ys H,⟨_,bG _,rfl,h0⟩,fun i m ys H2 ⟨hi,hm,hp⟩=>?_⟩;have hy:=hl i ys H2 hi hp
 by_cases e:i=n
 ·subst e
  exact .inl ⟨aE _,hd ys H2 hp⟩
 ·have hlt:i<n:=gm hi e
  refine .inr ⟨hlt,by lia,Pv (i+1),fun ys' H' hp'=>⟨n - (i+1),by lia,by lia,rfl,hp'⟩,fun x H3 hy3=>?_⟩;obtain ⟨e3,hx⟩:=hy3;subst e3 hx;exact hs i ys H3 hlt hp
theorem ps_setCC {iy:Nat}{y0:Str}{py spos:Pos}{xs:List Str}
  (hN0:X.N.Nodup) (hi0:X.N[iy]? =some y0) (hx0:Loc X.env.scope y0) (hc:X.calm=true) (hi:PI X tg iter wi)
  (iU:∀ y∈scope.names,y.2≠ .cell) (mx:scope.kind= .function) (lW:∀ y∈scope.names,y.2= .local→scope.names.lookup y.1=some .local)
  (hfr:∀ y∈scope.names,y.2= .free→X.env.scope.names.lookup y.1=some .cell) (hjs:js.map (fun j=>X.N[j]?)=fr.map some) (hfv:∀ y∈fr,scope.names.lookup y=some .free)
  (hg:∀ cl C s' H' ex,PG (gR X scope cl C (xs++fr) s' H' ex) tg g)
  (hb:∀ cl C s' H' ex,PE (gR X scope cl C (xs++fr) s' H' ex) elt te∧PTs (gR X scope cl C (xs++fr) s' H' ex) ifs tt)
  (hCW:∀ σ Q J H1,CW σ Q J H1→rE xs.length g js tt te σ Q J H1) (hs:∀ z,gU iter X.env z=fM z:=by intro _;rfl) (hsw:swapsWith (.ListComp elt [⟨tg,iter,ifs,0⟩] scope pos) (some (.Name y0 py)) spos.line X.env=fM true:=by rfl)
  (hf0:X.fn y0=true∨X.env.scope.names.lookup y0=some .local:=by first | exact .inl rfl | exact .inr rfl | assumption) :
  PS X (.Assign [.Name y0 py] (.ListComp elt [⟨tg,iter,ifs,0⟩] scope pos) spos) (tAsg (fun σ H Q=>wi σ H fun J H1=>CW σ Q J H1) (oF iy)):=by
 intro aP s σ H Dn I h;rw [exec_Assign_Name_used _ _ _ _ hsw];refine ah (wpAny_standAt (ah ?_));show aW _ X.A (do let _ ← comprehension (.ListComp elt [⟨tg,iter,ifs,0⟩] scope pos) scope X.env _ (newList []) false (eP iter X.env) (some (assign (.Name y0 py) X.env))) _ _ s;refine ah (cx (comp_core (use:=some (assign (.Name y0 py) X.env)) (R:=fun _ s'=>SP X aP Dn .next s') hc hi iU mx lW hfr hjs hfv hg hb hCW I h (fun s4 H5 D C mC hnC I5 nC locC fsC pinX cC sC q=>?_) hs) (fun _ s' hq=>aL (aL hq)) fun _ _ e=>e);obtain ⟨oC,esC,epC,hoC,rC⟩:=id hnC;have I6:Inv X ((C,oC)::aP) σ H5 s4:=I5.pins_of fun p hp=>by
  rcases aG.mp hp with rfl | hp
  ·refine ⟨hoC,nC,locC,fsC,fun v z=>?_⟩
   rw [rC.1] at z;cases z
  ·exact I5.pin p (aA _ hp)
 have hPG0:PG X (.Name y0 py) (oF iy):=oi hN0 hi0 hx0 hf0;refine thn (hPG0 _ s4 σ _ (.ref D) (.ref D) (fun σ' H'=>Dn.nx σ' H'∧H' C=none) I6 rfl ⟨q,nC⟩) fun _ s6 ⟨σ6,H6,I7,q7,n7⟩=>?_
 have o7:=(I7.pin (C,oC) (aA _ (bw ..))).1;refine ⟨mC,⟨oC,esC,epC,o7,rC⟩,fun h' hsb=>⟨σ6,H6,?_,q7⟩⟩;have I8:Inv X aP σ6 H6 s6:=I7.pins_of fun p hp=>I7.pin p (aA _ (ay _ hp))
 exact I8.turned (t':=s6.toks) (it:=C) (fun b o hb' e=>hsb.extBut b o hb' e) n7 locC (.inr sC) cC pinX
theorem pU {iy:Nat}{y0:Str}{py spos:Pos}{px:Pos}
  (hN0:X.N.Nodup) (hi0:X.N[iy]? =some y0) (hx0:Loc X.env.scope y0) (hc:X.calm=true) (hi:PI X (.Name x px) iter wi)
  (iU:∀ y∈scope.names,y.2≠ .cell) (mx:scope.kind= .function) (lW:∀ y∈scope.names,y.2= .local→scope.names.lookup y.1=some .local) (hx:scope.names.lookup x=some .local)
  (hfr:∀ y∈scope.names,y.2= .free→X.env.scope.names.lookup y.1=some .cell) (hnd:(x::fr).Nodup) (hjs:js.map (fun j=>X.N[j]?)=fr.map some) (hfv:∀ y∈fr,scope.names.lookup y=some .free)
  (hb:∀ cl C s' H' ex,PE (gR X scope cl C (x::fr) s' H' ex) elt te∧PTs (gR X scope cl C (x::fr) s' H' ex) ifs tt)
  (hs:∀ z,gU iter X.env z=fM z:=by intro _;rfl) (hsw:swapsWith (.ListComp elt [⟨.Name x px,iter,ifs,0⟩] scope pos) (some (.Name y0 py)) spos.line X.env=fM true:=by rfl)
  (hf0:X.fn y0=true∨X.env.scope.names.lookup y0=some .local:=by first | exact .inl rfl | exact .inr rfl | assumption) :
  PS X (.Assign [.Name y0 py] (.ListComp elt [⟨.Name x px,iter,ifs,0⟩] scope pos) spos) (tAsg (tComp wi js tt te) (oF iy)) :=
 ps_setCC (xs:=[x]) (g:=oF 0) hN0 hi0 hx0 hc hi iU mx lW hfr hjs hfv (fun _ _ _ _ _=>oi hnd rfl (.inl (fg hx)) (.inr (fg hx))) hb (fun _ _ _ _ h=>compW_T h) hs hsw hf0
def notStar:Expr→Bool
 | .Starred _ _=>false
 | _=>true
theorem starEach_not (h:notStar e=true):bD (e::es) env=(false,eP e env)::bD es env:=by
 cases e <;> first | rfl | cases h
theorem pa_k (ha:PE X e te)(hr:PA X es t)(h:notStar e=true:=by rfl):PA X (e::es) (pf te t):=ag ha hr (starEach_not h)
structure PEs (X:Cx)(e:Expr)(t:TE):Prop where
 h:PE X e t
structure PAs (X:Cx)(es:List Expr)(t:TA):Prop where
 h:PA X es t
structure PSt (X:Cx)(st:cU)(t:TS):Prop where
 h:PS X st t
theorem lP {t:TS}(h:PS X st t):PS X st (fun D σ H=>∃ N:St→Hp→Prop,(∀ σ' H',N σ' H'→D.nx σ' H')∧t { D with nx:=N } σ H):=by
 intro aP s σ H D I ⟨N,hN,ht⟩;refine thn (h aP s σ H { D with nx:=N } I ht) fun f s' q=>?_
 cases f with
 | next=>obtain ⟨σ',H',I',n'⟩:=q;exact ⟨σ',H',I',hN _ _ n'⟩
 | brk=>exact q
 | cont=>exact q
 | ret u=>exact q
structure PSl (X:Cx)(sts:List cU)(t:TS):Prop where
 h:PSs X sts t
section
variable {a b:Expr}{tb:TE}
theorem kB {i j}:PEs X (.Constant (.int i) j pos) (tC (.int i)):=⟨bo⟩
theorem k_op {op:Operator}{r:R2}(ho:OpR X (gW op) r)(ha:PEs X a ta)(hb:PEs X b tb):PEs X (.BinOp a op b pos) (tOp r ta tb):=⟨cg ho ha.h hb.h⟩
theorem k_ix {r:R2}(hr:IxR X r)(ha:PEs X a ta)(hb:PEs X b tb)(hs:PlainIx b):PEs X (.Subscript a b pos) (tOp r ta tb):=⟨dG hr ha.h hb.h hs⟩
theorem k_lst (h:PAs X es t):PEs X (.List es pos) (tLstA t):=⟨lR h.h⟩
theorem a_nil:PAs X [] tNil:=⟨aC⟩
theorem fS (ha:PEs X e te)(hr:PAs X es t)(h:notStar e=true:=by rfl):PAs X (e::es) (pf te t):=⟨pa_k ha.h hr.h h⟩
theorem aU {sts:List cU}{t u:TS}(a:PSt X st t)(b:PSl X sts u):PSl X (st::sts) (tSeq t u):=⟨oX a.h b.h⟩
theorem cZ {t:TS}(a:PSt X st t):PSl X [st] t:=⟨cj a.h⟩
end
def CBig (i j:Int):Prop:=i.natAbs<10 ^ 400∧j.natAbs<10 ^ 400
theorem bits_of {x:Int}(h:x.natAbs<10 ^ 400):jP x≤2 ^ 20:=by
 unfold jP;split
 ·exact bG _
 ·rename_i hx
  have h0 : x.natAbs ≠ 0 := fun z => hx (by have : x = 0 := by lia
                                            rw [this];rfl)
  have h1:x.natAbs<2 ^ 4000:=jN h (by decide +kernel);have h2:=(Nat.log2_lt h0).mpr h1;have h3:(4000:Nat)+1≤2 ^ 20:=by decide
  lia
theorem op_mulB:OpR X (gW .Mult) (rI CBig fun i j=> .int (i * j)):=opI fun _ _ _ _ _ _ _ hc q=>mul_int q (IntMulOk.of_bits (bits_of hc.1) (bits_of hc.2))
theorem ny:∀ {ns:List Int} {us:List ae},Vals (ns.map V.int) us→IntsAre us ns
 | [],_,.nil=> .nil
 | _::_,_,.cons ⟨_,e⟩ r=>by cases e;exact .cons _ _ (ny r)
theorem pe_compT {xs:List Str}
  (hc:X.calm=true) (hi:PI X tg iter wi)
  (iU:∀ y∈scope.names,y.2≠ .cell) (mx:scope.kind= .function) (lW:∀ y∈scope.names,y.2= .local→scope.names.lookup y.1=some .local)
  (hfr:∀ y∈scope.names,y.2= .free→X.env.scope.names.lookup y.1=some .cell) (hjs:js.map (fun j=>X.N[j]?)=fr.map some) (hfv:∀ y∈fr,scope.names.lookup y=some .free)
  (hg:∀ cl C s' H' ex,PG (gR X scope cl C (xs++fr) s' H' ex) tg g)
  (hb:∀ cl C s' H' ex,PE (gR X scope cl C (xs++fr) s' H' ex) elt te∧PTs (gR X scope cl C (xs++fr) s' H' ex) ifs tt)
  (hs:∀ z,gU iter X.env z=fM z:=by intro _;rfl) :
  PE X (.ListComp elt [⟨tg,iter,ifs,0⟩] scope pos) (tCompT wi xs.length g js tt te) :=
 pe_compC hc hi iU mx lW hfr hjs hfv hg hb (fun _ _ _ _ h=>h) hs
abbrev gPair (K:aq):TG:=gTup K 2 (gCons (oF 0) (gCons (oF 1) gNil))
theorem pg_two {ex:List ao}{y:Str}{k:Nat}{pt:Pos}(hc:X.calm=true)(hnd:(x::y::fr).Nodup)(hx:scope.names.lookup x=some .local)(hy:scope.names.lookup y=some .local) :
  PG (gR X scope cl C ([x,y]++fr) s H ex) (.Tuple [.Name x p1,.Name y p2] k pt) (gPair X.K) :=
 lQ hc (eZ (oi (i:=0) hnd rfl (.inl (fg hx)) (.inr (fg hx))) (eZ (oi (i:=1) hnd rfl (.inl (fg hy)) (.inr (fg hy))) ke))
theorem places_back (n:Nat):cT ((n:Int) - 1) (-1) (-1)=n:=by
 unfold cT;rw [rG (by decide)]
 by_cases h:(n:Int) - 1 > -1
 ·rw [rJ h,show -(-1:Int)=1 from rfl,Int.ediv_one];lia
 ·rw [rG h];lia
theorem fm_some {α β:Type}{f:α→Option β}{g:α→β}:∀ (l:List α),(∀ x∈l,f x=some (g x))→l.filterMap f=l.map g
 | [],_=>rfl
 | x::l,h=>by rw [kr,h x (by simp),cw,fm_some l fun y hy=>h y (ay _ hy)]
theorem pick_back (xs:Array ae):((aQ xs.size).filterMap fun (k:Nat)=>xs[((xs.size:Int) - 1+(k:Int) * (-1)).toNat]?)=xs.toList.reverse:=by
 have e:∀ k∈aQ xs.size,(fun (k:Nat)=>xs[((xs.size:Int) - 1+(k:Int) * (-1)).toNat]?) k=some ((fun k=>xs.toList.getD (xs.size - 1 - k) .none) k):=fun k hk=>by
  have hk:=bO.mp hk;have:((xs.size:Int) - 1+(k:Int) * (-1)).toNat=xs.size - 1 - k:=by lia
  show xs[((xs.size:Int) - 1+(k:Int) * (-1)).toNat]? =some (xs.toList.getD (xs.size - 1 - k) .none);rw [this,ai,jQ,eh (by lia)];rfl
 rw [fm_some _ e];refine jT (by simp) fun i h1 h2=>?_
 have hi:i<xs.size:=by simpa using h1
 rw [gZ,hV,List.getElem_reverse,ai,gE (by rw [cq];lia)];simp
theorem applied_back {t:Tok}{Q:Int×Int×Nat→au→Prop}(hs:s.heap.IsSliceOf sl .none .none (.int (-1) t))(h:Q ((n:Int) - 1,-1,n) s):aW (bx prog w) A (eR (.ref sl) (fM (n:Int))) Q E s:=by
 obtain ⟨os,hos,hcs,hds⟩:=id hs;unfold eR j6;refine ah (ah (dm hos hds (x:= .none) rfl (ah (dm hos hds (x:= .none) rfl (ah (dm hos hds (x:= .int (-1) t) rfl (aL ?_)))))));refine ah (slicePart_int ?_);show aW _ _ (if ((-1:Int) == 0)=true then _ else _) _ _ s;rw [rG (by decide)];refine ah (jW (ah (jW (ah (aL ?_)))));show aW _ _ (fM ((n:Int) - 1,(-1:Int),cT ((n:Int) - 1) (-1) (-1))) _ _ s;rw [places_back];exact aL h
theorem getItem_back {t:ao}{u:Tok}(ht:IsTup s.heap t items)(hs:s.heap.IsSliceOf sl .none .none (.int (-1) u))
  (h:Q (.ref s.heap.objs.size) { s with heap:=s.heap.push { cls:= .type "tuple",data:= .seq items.toList.reverse.toArray } })
  (hsz:items.size≤bp):aW (bx prog w) A (ja (.ref t) (.ref sl)) Q E s:=by
 have hz:sizeOk (.seq items.toList.reverse.toArray):=by
  show items.toList.reverse.toArray.size≤bp;rw [aJ,fq,cq];exact hsz
 obtain ⟨os,hos,hcs,hds⟩:=id hs;have hTs:s.TypeIs (.ref sl) "slice" := ⟨os,hos,hcs⟩;unfold ja
 try with_reducible refine dQ ?_
 first | refine ah (aL ?_) | skip
 refine ah (wpAny_sequenceKey ht.typeIs (by decide) ?_);refine ah (d5 (name:=df "__getitem__") ht.typeIs bR
  (gu bR ht.typeIs kN ?_ (lI _ _)))
 show aW _ _ (g9 (.ref t) >>= _) _ _ s;refine ah (tupleItemsOf_ ht ?_);refine ah (wpAny_typeOf hTs ?_);rw [rJ (by decide)];refine ah (applied_back (n:=items.size) hs ?_);have hno:¬ ((((items.size:Int) - 1) == 0 && (-1:Int) == 1 && items.size == items.size)=true):=by
  intro q;rw [dM,dM] at q;exact rL q.1.2 (by decide)
 show aW _ _ (if (((items.size:Int) - 1) == 0 && (-1:Int) == 1 && items.size == items.size)=true then _ else _) _ _ s;rw [rG hno,pick_back]
 first
  | exact ah (m:=dA _) (dh (aL ⟨_,rfl,aL h⟩) hz)
  | exact ah (m:=dA _) (dh (ah (aL (aL ⟨_,rfl,aL h⟩))) hz)
  | exact ah (ah (m:=dA _) (dh (aL (aL ⟨_,rfl,aL h⟩)) hz))
  | exact ah (ah (m:=dA _) (dh (aL ⟨_,rfl,aL h⟩) hz))
theorem getItem_all {t:ao}{vl vu:ae}{lo:Option Int}(ht:IsTup s.heap t items)(hs:s.heap.IsSliceOf sl vl vu .none)(pl:IsPart vl lo)(pu:IsPart vu hi)
  (hw:HT.sIx items.size 0 lo=0∧HT.sIx items.size items.size hi=items.size) (h:Q (.ref t) s):aW (bx prog w) A (ja (.ref t) (.ref sl)) Q E s:=by
 obtain ⟨os,hos,hcs,hds⟩:=id hs;have hTs:s.TypeIs (.ref sl) "slice" := ⟨os,hos,hcs⟩;unfold ja
 try with_reducible refine dQ ?_
 first | refine ah (aL ?_) | skip
 refine ah (wpAny_sequenceKey ht.typeIs (by decide) ?_);refine ah (d5 (name:=df "__getitem__") ht.typeIs bR
  (gu bR ht.typeIs kN ?_ (lI _ _)))
 show aW _ _ (g9 (.ref t) >>= _) _ _ s;refine ah (tupleItemsOf_ ht ?_);refine ah (wpAny_typeOf hTs ?_);rw [rJ (by decide)];refine ah (HT.sliceApplied_gen hs pl pu ?_);show aW _ _ (if (((HT.sIx items.size 0 lo:Nat):Int) == 0 && (1:Int) == 1 && (HT.sIx items.size items.size hi - HT.sIx items.size 0 lo) == items.size)=true then _ else _) _ _ s;rw [hw.1,hw.2,Nat.sub_zero,rJ (by simp)];unfold fX.Tuple.tupleIsExact;refine ah (ah (wpAny_typeOf ht.typeIs (aL ?_)));rw [rJ (by decide)];exact ah (wpAny_rule (aL ⟨_,rfl,aL h⟩))
theorem sl_tupN:SlR X (fun x lo hi H Q=>∃ a xs,x= .ref a∧H a=some (.tup xs)∧New H (.tup (cutV xs lo hi)) Q):=by
 intro aP s σ H x v vl vu lo hi sl Q I rx hs pl pu h;obtain ⟨a,xs,rfl,hx,q⟩:=h
 by_cases hw:HT.sIx xs.length 0 lo=0∧HT.sIx xs.length xs.length hi=xs.length
 ·cases rx
  obtain ⟨its,r,ht,hz⟩:=I.tuple (SqT.of (K:=X.K) hx);have hlen:its.toArray.size=xs.length:=by rw [aJ];exact r.length.symm
  refine ⟨"tuple",_,bR.lookup,ht.typeIs,?_⟩;refine getItem_all ht hs pl pu (by rw [hlen];exact hw) ⟨.ref a,H,I,rfl,q a H (Same.refl H) ?_⟩;have e:cutV xs lo hi=xs:=by unfold cutV;rw [hw.1,hw.2,List.drop_zero,Nat.sub_zero,aX]
  rw [e];exact hx
 ·exact sl_tup aP s σ H _ v vl vu lo hi sl Q I rx hs pl pu ⟨a,xs,rfl,SqT.of hx,hw,q.of⟩
theorem vals_back:∀ {xs:List V} {us:List ae},Vals xs us→Vals xs.reverse us.reverse
 | _,_,.nil=> .nil
 | _::_,_::_,.cons r t=>by rw [gJ,gJ];exact (vals_back t).append (.cons r .nil)
theorem call_sum (hc:X.calm=true):CallR X (.builtin "sum") (fun xs H Q=>∃ (p:ao) (ns:List Int),xs=[.ref p]∧SqL X.K H p (ns.map V.int)∧Q (.int ns.sum) H):=by
 intro aP s σ H xs us Q I r h;obtain ⟨p,ns,rfl,hq,q⟩:=h;obtain ⟨u,rfl,ru⟩:=nR r;cases (show u=ae.ref p from ru);obtain ⟨its,rv,pl,hz⟩:=I.list hq;have hi:=ny rv;obtain ⟨ys,hx⟩:=hi.allInts.items;have hl':s.heap.IsList p (intItems ys):=hx ▸ pl.isList;refine sum_intListG (I.ok.hd hc) hl' fun h' tk t' hk=>?_
 have e1:ns=ys.toList.map (·.1):=by
  rw [←nums_intItems,←hx];exact (show numsOf its.toArray.toList=ns from hi.numsOf).symm
 have e2:preSum (numAt ys) ys.size=ns.sum:=by
  rw [preSum_eq,ju (by simp),e1]
 rw [e2];exact ⟨.int ns.sum,H,I.kept (t':=tk) hk,⟨t',rfl⟩,q⟩
theorem op_neL0 (hu:X.A.units<cLine):OpR X (fB .NotEq) (fun x y H Q=>∃ a b xs,x= .ref a∧y= .ref b∧SqL X.K H a xs∧SqL X.K H b []∧Q (.bl (!xs.isEmpty)) H):=by
 intro aP s σ H x y v u Q I rx ry h;obtain ⟨a,b,xs,rfl,rfl,ha,hb,q⟩:=h;cases (show v=ae.ref a from rx);cases (show u=ae.ref b from ry);obtain ⟨its,r1,p1,_⟩:=I.list ha;obtain ⟨its2,r2,p2,_⟩:=I.list hb;cases r2;cases r1 with
 | nil =>
  refine SeqAt.RcNeAt.lists (A:=X.A) (e:=fun _=>true) p1.isList p2.isList rfl hu (fun j h1 _=>rL h1 (by simp)) X.prog X.w _ _ (fv I q (by simp))
 | cons _ _=>exact SeqAt.RcNeAt.lists_lengths (A:=X.A) p1.isList p2.isList (by simp) hu X.prog X.w _ _ (fv I q (by simp))
def metL (ns:List Int):List Int:=firstMet (fun i=>ns.getD i 0) ns.length
theorem call_setL (hc:X.calm=true):CallR X (.type "set") (fun xs H Q=>∃ (p:ao) (ns:List Int),xs=[.ref p]∧SqL X.K H p (ns.map V.int)∧ns.length≤1000∧New H (.set (fun k=>(metL ns).any (· == k)) (metL ns).length) Q):=by
 intro aP s σ H xs us Q I r h;obtain ⟨p,ns,rfl,hq,hn,q⟩:=h;obtain ⟨u,rfl,ru⟩:=nR r;cases (show u=ae.ref p from ru);obtain ⟨its,rv,pl,hz⟩:=I.list hq;have hl:its.length=ns.length:=by rw [←rv.length,aa]
 refine call_set_list (ns:=ns) (I.ok.hd hc) pl.isList (ny rv) (by rw [aJ,hl];show ns.length+1<4096;lia) fun h' tk hs hk=>?_
 have hl2:its.toArray.size=ns.length:=by rw [aJ,hl]
 rw [hl2] at hs;exact ⟨.ref s.heap.objs.size,_,I.laid (t':=tk) (o:= .set (fun k=>(metL ns).any (· == k)) (metL ns).length) (fun b u e=>hk b u (aO e) e) (aE _) hs,rfl,q.of _ I.fresh⟩
theorem call_lenS:CallR X (.builtin "len") (fun xs H Q=>∃ (a:ao) (S:Int→Bool) (n:Nat),xs=[.ref a]∧H a=some (.set S n)∧Q (.int n) H):=by
 intro aP s σ H xs us Q I r h;obtain ⟨a,S,n,rfl,ha,q⟩:=h;obtain ⟨u,rfl,ru⟩:=nR r;cases (show u=ae.ref a from ru);obtain ⟨o,es,ep,t,e1,e2,e3,_,_,e4,e5,e6⟩:=I.hok a _ ha;have e4:es.size<4096:=e4;refine call_len_set e1 e2 e3 e5 (by lia) ?_;subst e6;exact ⟨.int es.size,H,I.tok _,⟨_,rfl⟩,q⟩
theorem vals_at:∀ {xs:List V} {us:List ae},xs.length=us.length→(∀ (i:Nat) (x:V),xs[i]? =some x→∃ u,us[i]? =some u∧RelV x u)→Vals xs us
 | [],[],_,_=> .nil
 | [],_::_,h,_=>by cases h
 | _::_,[],h,_=>by cases h
 | x::xs,u::us,h,k=>by
  obtain ⟨u',e,r⟩:=k 0 x rfl;cases e;exact .cons r (vals_at (by simpa using h) fun i y hy=>k (i+1) y hy)
theorem call_rng1:CallR X (.type "range") (fun xs H Q=>∃ j:Int,xs=[.int j]∧New H (.rng 0 j) Q):=by
 intro aP s σ H xs us Q I r h;obtain ⟨j,rfl,q⟩:=h;obtain ⟨u,rfl,ru⟩:=nR r;obtain ⟨t,rfl⟩:=(show ∃ t,u=ae.int j t from ru);refine call_range_1 ?_;exact ⟨.ref s.heap.objs.size,_,I.laid (t':=s.toks+1+1) (o:= .rng 0 j) (fun _ _ z=>ar _ z) (aE _) ⟨_,_,_,bg _ rfl⟩,rfl,q.of _ I.fresh⟩
theorem call_listR (hc:X.calm=true):CallR X (.type "list") (fun xs H Q=>∃ (a:ao) (n:Nat),xs=[.ref a]∧H a=some (.rng 0 (n:Int))∧n≤1000∧∀ l,H l=none→Q (.ref l) (upd H l (.lst ((aQ n).map fun k=>V.int (k:Nat))))):=by
 intro aP s σ H xs us Q I r h;obtain ⟨a,n,rfl,ha,hn,q⟩:=h;obtain ⟨u,rfl,ru⟩:=nR r;cases (show u=ae.ref a from ru);obtain ⟨t,u,v,hr⟩:=I.hok a _ ha;have hs:eG 0 (n:Int) 1=n:=by
  unfold eG;rw [rJ (by decide)]
  by_cases h0:(0:Int)<n
  ·rw [rJ h0,Int.ediv_one];lia
  ·rw [rG h0];lia
 refine call_list_range (n:=n) (I.ok.hd hc) hr (by unfold iu;rw [hs];unfold fX.Range.rangeFitsLong;simp;lia) hs (by lia) fun h' tk acc c hk hg hi=>?_
 refine ⟨.ref s.heap.objs.size,_,I.laid (t':=tk) (o:= .lst ((aQ n).map fun k=>V.int (k:Nat))) hk (aE _) ⟨?_,acc.toList,c,?_,?_⟩,rfl,q _ I.fresh⟩
 ·rw [aa,br];exact bh hn (by decide)
 ·refine vals_at (by rw [aa,br,cq,hi.1]) fun i x hx=>?_
  rw [ax] at hx;obtain ⟨k,hk2,rfl⟩:=bF.mp hx;have hik:i<n:=by have:=(ak.mp hk2).1;rw [br] at this;exact this
  rw [gX hik] at hk2;cases hk2;have hi2:i<acc.size:=by rw [hi.1];exact hik
  have e:=eh hi2;obtain ⟨t2,e2⟩:=hi.2 i _ e;refine ⟨_,by rw [jQ];exact e,⟨t2,?_⟩⟩;rw [e2];congr 1;lia
 ·rw [Array.toArray_toList];exact hg
theorem applied_on {t:Tok}{Q:Int×Int×Nat→au→Prop}(hs:s.heap.IsSliceOf sl .none .none (.int 1 t))(h:Q (0,1,n) s):aW (bx prog w) A (eR (.ref sl) (fM (n:Int))) Q E s:=by
 obtain ⟨os,hos,hcs,hds⟩:=id hs;unfold eR j6;refine ah (ah (dm hos hds (x:= .none) rfl (ah (dm hos hds (x:= .none) rfl (ah (dm hos hds (x:= .int 1 t) rfl (aL ?_)))))));refine ah (slicePart_int ?_);show aW _ _ (if ((1:Int) == 0)=true then _ else _) _ _ s;rw [rG (by decide)];refine ah (jW (ah (jW (ah (aL ?_)))));show aW _ _ (fM ((0:Int),(1:Int),cT 0 (n:Int) 1)) _ _ s;have e:=HT.places_gen 0 n;rw [Nat.sub_zero] at e;rw [show cT 0 (n:Int) 1=n from e];exact aL h
theorem getItem_on {t:ao}{u:Tok}(ht:IsTup s.heap t items)(hs:s.heap.IsSliceOf sl .none .none (.int 1 u))(h:Q (.ref t) s):aW (bx prog w) A (ja (.ref t) (.ref sl)) Q E s:=by
 obtain ⟨os,hos,hcs,hds⟩:=id hs;have hTs:s.TypeIs (.ref sl) "slice" := ⟨os,hos,hcs⟩;unfold ja
 try with_reducible refine dQ ?_
 first | refine ah (aL ?_) | skip
 refine ah (wpAny_sequenceKey ht.typeIs (by decide) ?_);refine ah (d5 (name:=df "__getitem__") ht.typeIs bR
  (gu bR ht.typeIs kN ?_ (lI _ _)))
 show aW _ _ (g9 (.ref t) >>= _) _ _ s;refine ah (tupleItemsOf_ ht ?_);refine ah (wpAny_typeOf hTs ?_);rw [rJ (by decide)];refine ah (applied_on (n:=items.size) hs ?_);show aW _ _ (if ((0:Int) == 0 && (1:Int) == 1 && items.size == items.size)=true then _ else _) _ _ s;rw [rJ (by simp)];unfold fX.Tuple.tupleIsExact;refine ah (ah (wpAny_typeOf ht.typeIs (aL ?_)));rw [rJ (by decide)];exact ah (wpAny_rule (aL ⟨_,rfl,aL h⟩))
def tTurn (te ts:TE):TE:=fun σ H Q=>te σ H fun x H1=>ts σ H1 fun y H2=>∃ a xs d,x= .ref a∧y= .int d∧(d=1∨d= -1)∧H2 a=some (.tup xs)∧New H2 (.tup (if d=1 then xs else xs.reverse)) Q
theorem pe_turn {es:Expr}{ts:TE}(he:PE X e te)(hs:PE X es ts):PE X (.Subscript e (.Slice none none (some es) p2) pos) (tTurn te ts):=by
 intro aP s σ H Q I h;refine Subscript_ (thn (he aP s σ H _ I h) fun v s1 ⟨x,H1,I1,r1,q1⟩=>?_);refine wpAny_Slice ?_;rw [evalPart_none,evalPart_some];refine aL (aL ?_);refine thn (hs aP s1 σ H1 _ I1 q1) fun u s2 ⟨y,H2,I2,r2,q2⟩=>?_
 obtain ⟨a,xs,d,rfl,rfl,hd,hx,q⟩:=q2;obtain ⟨t,rfl⟩:=r2;cases r1;have I4:Inv X aP σ H2 { s2 with heap:=s2.heap.push { cls:= .type "slice",data:= .fields #[.none,.none,.int d t] } }:=I2.kept (t':=s2.toks) fun b ob q=>ar _ q
 obtain ⟨its,r,ht,hz⟩:=I4.tuple (SqT.of (K:=X.K) hx);have hlen:its.toArray.size=xs.length:=by rw [aJ];exact r.length.symm
 rcases hd with rfl | rfl
 ·refine tail_any (ops:=[.ref a,.ref s2.heap.objs.size]) ht.typeIs bR.lookup (getItem_on ht (bP.IsSliceOf.new ..) ?_) (by with_unfolding_all rfl)
  exact ⟨.ref a,H2,I4,rfl,q a H2 (Same.refl H2) (by rw [rJ rfl];exact hx)⟩
 ·refine tail_any (ops:=[.ref a,.ref s2.heap.objs.size]) ht.typeIs bR.lookup (getItem_back ht (bP.IsSliceOf.new ..) ?_ (by rw [hlen];exact hz)) (by with_unfolding_all rfl)
  rw [rG (by decide)] at q;refine ⟨.ref _,_,I4.laid (t':=s2.toks) (o:= .tup xs.reverse) (fun _ _ z=>ar _ z) (aE _) ⟨by rw [fq];exact hz,its.reverse,vals_back r,IsTupN.new _ _⟩,rfl,q.of _ I4.fresh⟩
theorem k_lstF (h:PAs X es t):PEs X (.List es pos) (tLst t):=⟨i9 h.h⟩
section
variable {κ:Type} [DecidableEq κ]
def nS (kvs:List (κ×V))(k:κ):Option V:=(kvs.find? fun kv=>decide (kv.1=k)).map (·.2)
def og (kvs:List (κ×V))(k:κ)(v:V):List (κ×V) :=
 if (kvs.any fun kv=>decide (kv.1=k))=true then kvs.map (fun kv=>if kv.1=k then (kv.1,v) else kv) else kvs++[(k,v)]
theorem iL {p:κ×V}{r:List (κ×V)}{k:κ}(e:p.1=k):nS (p::r) k=some p.2:=by simp [nS,ia,e]
theorem iA {p:κ×V}{r:List (κ×V)}{k:κ}(e:¬ p.1=k):nS (p::r) k=nS r k:=by simp [nS,ia,e]
theorem mP (k:κ):∀ kvs:List (κ×V),(kvs.any fun kv=>decide (kv.1=k))=(nS kvs k).isSome
 | []=>rfl
 | p::r=>by
  rw [j5]
  by_cases e:p.1=k
  ·simp only [iL e,rM e,Bool.true_or,Option.isSome_some]
  ·rw [iA e,rN e,Bool.false_or];exact mP k r
theorem valV_map (k j:κ)(y:V):∀ kvs:List (κ×V),nS (kvs.map fun kv=>if kv.1=k then (kv.1,y) else kv) j=(nS kvs j).map fun x=>if j=k then y else x
 | []=>rfl
 | p::r=>by
  have ih:=valV_map k j y r;rw [cw]
  by_cases h:p.1=k
  ·rw [rJ h]
   by_cases e:p.1=j
   ·rw [iL (p:=(p.1,y)) e,iL e,gv,rJ (e.symm.trans h)]
   ·rw [iA (p:=(p.1,y)) e,iA e,ih]
  ·rw [rG h]
   by_cases e:p.1=j
   ·rw [iL (p:=p) e,iL e,gv,rG (fun z=>h (e.trans z))]
   ·rw [iA (p:=p) e,iA e,ih]
theorem valV_snoc (k j:κ)(y:V):∀ kvs:List (κ×V),nS kvs k=none→nS (kvs++[(k,y)]) j=if j=k then some y else nS kvs j
 | [],_=>by
  by_cases e:k=j
  ·rw [rJ e.symm];exact iL (p:=(k,y)) e
  ·rw [rG (fun z=>e z.symm)];exact iA (p:=(k,y)) e
 | p::r,hn=>by
  rw [List.cons_append];have hk:¬ p.1=k:=fun z=>by rw [iL z] at hn;cases hn
  rw [iA hk] at hn;have ih:=valV_snoc k j y r hn
  by_cases e:p.1=j
  ·rw [iL e,iL e,rG (fun z=>hk (e.trans z))]
  ·rw [iA e,iA e,ih]
theorem valV_put (kvs:List (κ×V))(k j:κ)(y:V):nS (og kvs k y) j=if j=k then some y else nS kvs j:=by
 unfold og
 by_cases a:(kvs.any fun kv=>decide (kv.1=k))=true
 ·rw [rJ a,valV_map]
  rw [mP] at a
  by_cases e:j=k
  ·obtain ⟨x,hx⟩:=Option.isSome_iff_exists.mp a
   rw [rJ e,e,hx,gv,rJ rfl]
  ·rw [rG e]
   cases nS kvs j with
   | none=>rfl
   | some x=>rw [gv,rG e]
 ·rw [rG a]
  refine valV_snoc k j y kvs ?_;rw [mP] at a;cases q:nS kvs k with
  | none=>rfl
  | some x=>rw [q] at a;exact (a rfl).elim
theorem k6 (kvs:List (κ×V))(k:κ)(v:V):(og kvs k v).length≤kvs.length+1:=by
 unfold og;split
 ·rw [aa];lia
 ·rw [av,aZ,List.length_nil];lia
theorem putK_new {kvs:List (κ×V)}{k:κ}(v:V)(h:nS kvs k=none):og kvs k v=kvs++[(k,v)]:=by
 unfold og;rw [mP,h];exact rG (by decide)
theorem RelO.isSome_eq {o:Option V}{u:Option ae}(r:RelO o u):o.isSome=u.isSome:=by
 cases o with
 | none=>cases u with
  | none=>rfl
  | some _=>exact (show False from r).elim
 | some _=>cases u with
  | none=>exact (show False from r).elim
  | some _=>rfl
theorem KV.val {kvs:List (κ×V)}{vs:List (κ×ae)}(r:KV kvs vs)(k:κ):RelO (nS kvs k) (valueAt vs k):=by
 unfold KV at r
 induction r with
 | nil=>exact True.intro
 | @cons p q ps qs h t ih =>
  obtain ⟨h1,h2⟩:=h
  by_cases e:p.1=k
  ·have e':q.1=k:=h1.symm.trans e
   have b:valueAt (q::qs) k=some q.2:=by simp [valueAt,ia,e']
   rw [iL e,b];exact h2
  ·have e':¬ q.1=k:=fun z=>e (h1.trans z)
   have b:valueAt (q::qs) k=valueAt qs k:=by simp [valueAt,ia,e']
   rw [iA e,b];exact ih
theorem KV.any {kvs:List (κ×V)}{vs:List (κ×ae)}(r:KV kvs vs)(k:κ):(kvs.any fun kv=>decide (kv.1=k))=vs.any fun kv=>decide (kv.1=k):=by
 unfold KV at r
 induction r with
 | nil=>rfl
 | cons h t ih=>rw [j5,j5,ih,h.1]
theorem KV.repl {kvs:List (κ×V)}{vs:List (κ×ae)}(r:KV kvs vs)(k:κ)(ry:RelV y u) :
  KV (kvs.map fun kv=>if kv.1=k then (kv.1,y) else kv) (vs.map fun kv=>if kv.1=k then (kv.1,u) else kv):=by
 unfold KV at r ⊢
 induction r with
 | nil=>exact .nil
 | @cons p q ps qs h t ih =>
  rw [cw,cw];refine .cons ?_ ih;obtain ⟨h1,h2⟩:=h
  by_cases e:p.1=k
  ·rw [rJ e,rJ (h1.symm.trans e)];exact ⟨h1,ry⟩
  ·rw [rG e,rG (fun z=>e (h1.trans z))];exact ⟨h1,h2⟩
theorem KV.put {kvs:List (κ×V)}{vs:List (κ×ae)}(r:KV kvs vs)(k:κ)(ry:RelV y u):KV (og kvs k y) (stored vs k u):=by
 unfold og stored;rw [r.any k]
 by_cases e:(vs.any fun kv=>decide (kv.1=k))=true
 ·rw [rJ e,rJ e];exact r.repl k ry
 ·rw [rG e,rG e];exact Paired.snoc r ⟨rfl,ry⟩
theorem KV.length {kvs:List (κ×V)}{vs:List (κ×ae)}(r:KV kvs vs):kvs.length=vs.length:=Paired.length r
end
theorem kV_is {k:Key}(r:RelV (kV k) u):(iS P w).is k u=true:=by
 cases k with
 | inl i=>obtain ⟨t,e⟩:=(show ∃ t,u=ae.int i t from r);subst e;exact mixKind_int P w i t
 | inr x=>obtain ⟨t,e⟩:=(show ∃ t,u=ae.str x t from r);subst e;exact mixKind_str P w x t
theorem items_are {P:aY}{w:bE}:∀ {ks:List Key} {us:List ae},Vals (ks.map kV) us→ItemsAre (iS P w) ks us
 | [],_,r=>by rw [List.map_nil] at r;cases r;exact .nil
 | k::ks,_,r=>by
  rw [cw] at r;cases r with
  | cons h t=>exact .cons (kV_is h) (items_are t)
abbrev KT (H:Hp):List (List Key×V)→List (List Key×ao×ae)→Prop:=j3 fun p q=>p.1=q.1∧H q.2.1=some (.tup (p.1.map kV))∧RelV p.2 q.2.2
theorem KT.val {xs:List (List Key×ao×ae)}(r:KT H kvs xs)(k:List Key):RelO (nS kvs k) ((atKey xs k).map (·.2)):=by
 induction r with
 | nil=>exact True.intro
 | @cons p q ps qs h t ih =>
  obtain ⟨h1,_,h2⟩:=h
  by_cases e:p.1=k
  ·have e':q.1=k:=h1.symm.trans e
   have b:atKey (q::qs) k=some q.2:=by simp [atKey,ia,e']
   rw [iL e,b];exact h2
  ·have e':¬ q.1=k:=fun z=>e (h1.trans z)
   have b:atKey (q::qs) k=atKey qs k:=by simp [atKey,ia,e']
   rw [iA e,b];exact ih
theorem KT.repl {xs:List (List Key×ao×ae)}(r:KT H kvs xs)(k:List Key)(ry:RelV y u) :
  KT H (kvs.map fun kv=>if kv.1=k then (kv.1,y) else kv) (xs.map (putAt k u)):=by
 induction r with
 | nil=>exact .nil
 | @cons p q ps qs h t ih =>
  rw [cw,cw];refine .cons ?_ ih;obtain ⟨h1,h2,h3⟩:=h;unfold putAt
  by_cases e:p.1=k
  ·rw [rJ e,rJ (h1.symm.trans e)];exact ⟨h1,h2,ry⟩
  ·rw [rG e,rG (fun z=>e (h1.trans z))];exact ⟨h1,h2,h3⟩
theorem KT.put {xs:List (List Key×ao×ae)}(r:KT H kvs xs)(k:List Key){b:ao}(hb:H b=some (.tup (k.map kV)))(ry:RelV y u) :
  KT H (og kvs k y) (storedH xs k b u):=by
 have e:(kvs.any fun kv=>decide (kv.1=k))=(atKey xs k).isSome:=by
  rw [mP,(r.val k).isSome_eq,Option.isSome_map]
 unfold og storedH;rw [e]
 by_cases q:(atKey xs k).isSome=true
 ·rw [rJ q,rJ q];exact r.repl k ry
 ·rw [rG q,rG q];exact Paired.snoc r ⟨rfl,hb,ry⟩
theorem KT.keeps {xs:List (List Key×ao×ae)}(r:KT H kvs xs)(ht:∀ b ys,H b=some (.tup ys)→H' b=some (.tup ys)):KT H' kvs xs :=
 Paired.mapP r fun _ _ z=>⟨z.1,ht _ _ z.2.1,z.2.2⟩
theorem rd_of {u:HO}(ok:HOk P w H h)(e:Rd H a u):ObjOk P w H h a u:=e.ok ok
theorem dk_rd {kvs:List (Key×V)}(ok:HOk P w H h)(e:Rd H a (.dK kvs)):kvs.length≤bp∧(a == jC)=false∧∃ vs,KV kvs vs∧h.DictOf (iS P w) a vs :=
 show ObjOk P w H h a (.dK kvs) from rd_of ok e
theorem dk_of {kvs:List (Key×V)}(ok:HOk P w H h)(e:H a=some (.dK kvs)):kvs.length≤bp∧(a == jC)=false∧∃ vs,KV kvs vs∧h.DictOf (iS P w) a vs:=dk_rd ok (.inl e)
theorem key_of {ks:List Key}(ok:HOk P w H h)(e:H a=some (.tup (ks.map kV))):(tupleKind (iS P w)).is h ks a:=by
 obtain ⟨_,its,r,o,h1,h2,_,n,h3⟩:=(show ObjOk P w H h a (.tup (ks.map kV)) from ok a _ e);exact ⟨o,its.toArray,n,h1,h2,h3,by simpa using items_are r⟩
theorem dt_rd (ok:HOk P w H h)(e:Rd H a (.dT kvs)):kvs.length≤bp∧(a == jC)=false ∧
  ∃ xs,KT H kvs xs∧h.DictOfH (tupleKind (iS P w)) a xs:=by
 obtain ⟨z,y,xs,r,o,es,ep,h1,h2,h3,h4,h5⟩:=(show ObjOk P w H h a (.dT kvs) from rd_of ok e);refine ⟨z,y,xs,r,o,es,ep,h1,h2,h3,h4,fun x hx=>?_,h5⟩;have all:∀ {l:List (List Key×V)} {m:List (List Key×ao×ae)},KT H l m→∀ x∈m,(tupleKind (iS P w)).is h x.1 x.2.1:=by
  intro l m q
  induction q with
  | nil=>intro x hx;exact nomatch hx
  | @cons p q ps qs hq t ih =>
   intro x hx
   rcases aG.mp hx with e | hx
   ·subst e
    exact key_of ok (by rw [←hq.1];exact hq.2.1)
   ·exact ih x hx
 exact all r x hx
theorem dt_of (ok:HOk P w H h)(e:H a=some (.dT kvs)):kvs.length≤bp∧(a == jC)=false ∧
  ∃ xs,KT H kvs xs∧h.DictOfH (tupleKind (iS P w)) a xs:=dt_rd ok (.inl e)
def DGet (H:Hp)(a:ao)(y:V)(r:Option V):Prop :=
 (∃ kvs k,Rd H a (.dK kvs)∧y=kV k∧r=nS kvs k)∨∃ kvs k b,Rd H a (.dT kvs)∧y= .ref b∧H b=some (.tup (k.map kV))∧r=nS kvs k
def DPut (H:Hp)(a:ao)(y v:V)(H':Hp):Prop :=
 (∃ kvs k,H a=some (.dK kvs)∧y=kV k∧kvs.length<bp∧H'=upd H a (.dK (og kvs k v))) ∨
 ∃ kvs k b,H a=some (.dT kvs)∧y= .ref b∧H b=some (.tup (k.map kV))∧kvs.length<bp∧H'=upd H a (.dT (og kvs k v))
theorem DGet.k {H:Hp}{a:ao}{kvs:List (Key×V)}{k:Key}(e:H a=some (.dK kvs)):DGet H a (kV k) (nS kvs k):= .inl ⟨kvs,k,.inl e,rfl,rfl⟩
theorem DPut.k {H:Hp}{a:ao}{kvs:List (Key×V)}{k:Key}{v:V}(e:H a=some (.dK kvs))(hl:kvs.length<bp):DPut H a (kV k) v (upd H a (.dK (og kvs k v))):= .inl ⟨kvs,k,e,rfl,hl,rfl⟩
section
variable {r:ae}{o:Option V}
theorem d_getItem (hu:A.units+1<cLine)(I:Inv X aP σ H s)(g:DGet H a y (some v))(ry:RelV y u)(h:∀ w' s',Inv X aP σ H s'→RelV v w'→Q w' s') :
  aW (bx X.prog X.w) A (ja (.ref a) u) Q E s:=by
 rcases g with ⟨kvs,k,e,ey,l⟩ | ⟨kvs,k,b,e,ey,eb,l⟩
 ·subst ey
  obtain ⟨z,hd,vs,rel,dd⟩:=dk_rd I.hok e;obtain ⟨w',hw,rw'⟩:=RelO.some_of (v:=v) (o:=valueAt vs k) (by rw [l];exact rel.val k);exact wpAny_getItem_of (kV_is ry) dd.mapOf hw (h w' _ (I.tok _) rw')
 ·subst ey
  cases (show u=ae.ref b from ry);obtain ⟨z,hd,xs,rel,dd⟩:=dt_rd I.hok e;obtain ⟨w',hw,rw'⟩:=RelO.some_of (v:=v) (o:=(atKey xs k).map (·.2)) (by rw [l];exact rel.val k);obtain ⟨p,hp,hp2⟩:=bF.mp hw;refine wpAny_getItem_heap (tupleKind_room_in1 hu) (key_of I.hok eb) dd hp ?_;rw [hp2];exact h w' _ (I.tok _) rw'
theorem d_notIn (hu:A.units+1<cLine)(I:Inv X aP σ H s)(g:DGet H a y o)(ry:RelV y u)(h:∀ s',Inv X aP σ H s'→Q (.bool (!o.isSome)) s') :
  aW (bx X.prog X.w) A (fB .NotIn u (.ref a)) Q E s:=by
 rcases g with ⟨kvs,k,e,ey,l⟩ | ⟨kvs,k,b,e,ey,eb,l⟩
 ·subst ey
  obtain ⟨z,hd,vs,rel,dd⟩:=dk_rd I.hok e;refine wpAny_notIn_of (kV_is ry) hd dd.mapOf ?_;rw [←(rel.val k).isSome_eq,←l];exact h _ (I.tok _)
 ·subst ey
  cases (show u=ae.ref b from ry);obtain ⟨z,hd,xs,rel,dd⟩:=dt_rd I.hok e;refine wpAny_notIn_heap (tupleKind_room_in1 hu) (key_of I.hok eb) hd dd ?_;have q:=(rel.val k).isSome_eq;rw [Option.isSome_map] at q;rw [←q,←l];exact h _ (I.tok _)
theorem d_write {ob:HO}(I:Inv X aP σ H s)(mu:Mut (H a))(hs:d9 a s.heap h')(he:∃ q,h'.get? a=some q)(new:ObjOk X.prog X.w (upd H a ob) h' a ob) :
  Inv X aP σ (upd H a ob) { s with heap:=h',toks:=t' } :=
 I.write (x:=a) (e:=a) mu (.inl rfl) (fun b q hb z=>(hs.2 b hb).trans z) he new
theorem dk_new {kvs:List (Key×V)}{vs:List (Key×ae)}(z:kvs.length≤bp)(hd:(a == jC)=false)(rel:KV kvs vs)(dd:h'.DictOf (iS P w) a vs) :
  ObjOk P w H' h' a (.dK kvs):=⟨z,hd,vs,rel,dd⟩
theorem d_setItem {Q:Unit→au→Prop}(hu:A.units+1<cLine)(I:Inv X aP σ H s)(g:DPut H a y v H')(ry:RelV y u)(rv:RelV v r)(h:∀ s',Inv X aP σ H' s'→Q () s') :
  aW (bx X.prog X.w) A (setItem (.ref a) u r) Q E s:=by
 rcases g with ⟨kvs,k,e,ey,l,eH⟩ | ⟨kvs,k,b,e,ey,eb,l,eH⟩
 ·subst ey eH
  obtain ⟨z,hd,vs,rel,dd⟩:=dk_of I.hok e;have hz:vs.length≤bp:=by rw [←rel.length];exact z
  have hl:(og kvs k v).length≤bp:=by have:=k6 kvs k v;lia
  refine wpAny_setItem_pairs (hsz:=hz) (kV_is ry) dd fun h' dd' hs=>h _ ?_
  have he:∃ q,h'.get? a=some q:=let ⟨q,_,_,hq,_⟩:=dd';⟨q,hq⟩;exact d_write I (by rw [e];exact True.intro) hs he (dk_new hl hd (rel.put k rv) dd')
 ·subst ey eH
  cases (show u=ae.ref b from ry);obtain ⟨z,hd,xs,rel,dd⟩:=dt_of I.hok e;have hz:xs.length≤bp:=by rw [←Paired.length rel];exact z
  have hl:(og kvs k v).length≤bp:=by have:=k6 kvs k v;lia
  refine wpAny_setItem_heap (hsz:=hz) (tupleKind_room_in1 hu) (key_of I.hok eb) dd fun h' dd' hs=>h _ ?_
  obtain ⟨q,es,ep,hq,h2,h3,h4,_,h5⟩:=dd';refine d_write I (by rw [e];exact True.intro) hs ⟨q,hq⟩ ⟨hl,hd,_,(rel.put k eb rv).keeps fun c ys ec=>?_,q,es,ep,hq,h2,h3,h4,h5⟩;rw [bC (eV ec e (fun z=>nomatch z))];exact ec
end
def NoSl (i:Expr):Prop:=∀ ov iv,subscripted i false ov iv=operate [ov,iv] (ja ov iv)
theorem subD_of {slice:Expr}{id:String}
  (hl:typeLookup (.type T) "__getitem__" =fM (some (.builtin id))) (hs:NoSl slice)
  (h:aW (bx prog w) A (eP value env) (fun o s₁=>aW (bx prog w) A (eP slice env) (fun i s₂=>s₂.TypeIs o T∧aW (bx prog w) A (ja o i) Q E s₂) E s₁) E s) :
  aW (bx prog w) A (eP (.Subscript value slice pos) env) Q E s:=by
 refine Subscript_ (cx h (fun o s₁ h₁=>cx h₁ (fun i s₂ h₂=>?_) fun _ _ x=>x) fun _ _ x=>x);obtain ⟨hT,h₂⟩:=h₂;unfold subscriptTail;refine ah ?_;rw [getitemInPython_of_ne hT.not_modules];refine ah (wpAny_specialOf hT hl ?_);have fin:aW (bx prog w) A (subscripted slice false o i) (fun r s₃=>aW (bx prog w) A (letTemporaryGo value o r >>= fun _=>fM r) Q E s₃) E s₂:=by
  rw [hs o i];exact wpAny_operating (cx h₂ (fun r s₃ h₃=>ah (wpAny_letTemporaryGo (aL h₃))) fun _ _ x=>x)
 first
  | exact aL (ah fin)
  | exact ah (aL (ah fin))
  | exact ah fin
theorem dict_typeIs {o:Option V}(I:Inv X aP σ H s)(g:DGet H a y o):s.TypeIs (.ref a) "dict" := by
 rcases g with ⟨kvs,k,e,_,_⟩ | ⟨kvs,k,b,e,_,_,_⟩
 ·obtain ⟨_,_,vs,_,dd⟩:=dk_rd I.hok e
  exact dd.typeIs
 ·obtain ⟨_,_,xs,_,dd⟩:=dt_rd I.hok e
  exact dd.typeIs
def tDGet (td ty:TE):TE:=fun σ H Q=>td σ H fun x H1=>ty σ H1 fun y H2=>∃ a v,x= .ref a∧DGet H2 a y (some v)∧Q v H2
def tDNotIn (ty td:TE):TE:=fun σ H Q=>ty σ H fun y H1=>td σ H1 fun x H2=>∃ a o,x= .ref a∧DGet H2 a y o∧Q (.bl (!o.isSome)) H2
def sDPut (td ty tv:TE):TS:=fun D σ H=>tv σ H fun v H1=>td σ H1 fun x H2=>ty σ H2 fun y H3=>∃ a H4,x= .ref a∧DPut H3 a y v H4∧D.nx σ H4
section
variable {o i:Expr}{td ty tv:TE}
theorem pe_dget (hu:X.A.units+1<cLine)(ho:PE X o td)(hi:PE X i ty)(hs:NoSl i):PE X (.Subscript o i pos) (tDGet td ty):=by
 intro aP s σ H Q I h;refine subD_of PySem.F.slot_dict_getitem.lookup hs (thn (ho aP s σ H _ I h) fun u s1 ⟨x,H1,I1,rx,q1⟩=>thn (hi aP s1 σ H1 _ I1 q1) fun iv s2 ⟨y,H2,I2,ry,a,v,ex,g,q2⟩=>?_);subst ex;obtain rfl:u=ae.ref a:=rx;exact ⟨dict_typeIs I2 g,d_getItem hu I2 g ry fun w' s3 I3 rw'=>⟨v,H2,I3,rw',q2⟩⟩
theorem nh (hu:X.A.units+1<cLine)(hi:PE X i ty)(ho:PE X o td):PC X .NotIn i o (tDNotIn ty td):=by
 intro aP s σ H Q I h;refine thn (hi aP s σ H _ I h) fun iv s1 ⟨y,H1,I1,ry,q1⟩=>thn (ho aP s1 σ H1 _ I1 q1) fun u s2 ⟨x,H2,I2,rx,a,ov,ex,g,q2⟩=>?_
 subst ex;obtain rfl:u=ae.ref a:=rx;exact d_notIn hu I2 g ry fun s3 I3=>⟨.bl (!ov.isSome),H2,I3,rfl,q2⟩
theorem ps_dput (hu:X.A.units+1<cLine)(ho:PE X o td)(hi:PE X i ty)(hv:PE X value tv)(hs:swapsWith value (some (.Subscript o i pos')) pos.line X.env=fM false) :
  PS X (.Assign [.Subscript o i pos'] value pos) (sDPut td ty tv):=by
 intro aP s σ H D I h;refine wpAny_Assign_Subscript (thn (hv aP s σ H _ I h) fun r s1 ⟨v,H1,I1,rv,q1⟩=>thn (ho aP s1 σ H1 _ I1 q1) fun u s2 ⟨x,H2,I2,rx,q2⟩=>thn (hi aP s2 σ H2 _ I2 q2) fun iv s3 ⟨y,H3,I3,ry,a,H4,ex,g,q3⟩=>?_) hs;subst ex;obtain rfl:u=ae.ref a:=rx;exact d_setItem hu I3 g ry rv fun s4 I4=>⟨σ,H4,I4,q3⟩
end
def tPairs:List (TE×TE)→St→Hp→(List (V×V)→Hp→Prop)→Prop
 | [],_,H,Q=>Q [] H
 | (tk,tv)::r,σ,H,Q=>tk σ H fun x H1=>tv σ H1 fun y H2=>tPairs r σ H2 fun ps H3=>Q ((x,y)::ps) H3
abbrev VV:List (V×V)→List (ae×ae)→Prop:=j3 fun p q=>RelV p.1 q.1∧RelV p.2 q.2
def PPs (X:Cx)(pos:Pos)(keys:List (Option Expr))(values:List Expr)(trs:List (TE×TE)):Prop :=
 ∀ (aP:List (ao×Obj)) (s:au) (σ:St) (H:Hp) (Q:List (V×V)→Hp→Prop),Inv X aP σ H s→tPairs trs σ H Q →
  aW (bx X.prog X.w) X.A (evalPairs (pairTrees keys values X.env pos)) (fun vs s'=>∃ ps H',Inv X aP σ H' s'∧VV ps vs∧Q ps H') X.xe s
theorem pps_nil:PPs X pos [] [] []:=fun aP s σ H Q I h=>pairTrees_nil_walk ⟨[],H,I,.nil,h⟩
theorem pps_cons {k v:Expr}{ks:List (Option Expr)}{vs:List Expr}{tk tv:TE}(hk:PE X k tk)(hv:PE X v tv)(hr:PPs X pos ks vs trs) :
  PPs X pos (some k::ks) (v::vs) ((tk,tv)::trs):=fun aP s σ H Q I h =>
 pairTrees_cons_walk (thn (hk aP s σ H _ I h) fun u s1 ⟨x,H1,I1,rx,q1⟩=>thn (hv aP s1 σ H1 _ I1 q1) fun w2 s2 ⟨y,H2,I2,ry,q2⟩ =>
  thn (hr aP s2 σ H2 _ I2 q2) fun ws s3 ⟨ps,H3,I3,rel,q3⟩=>⟨(x,y)::ps,H3,I3,.cons ⟨rx,ry⟩ rel,q3⟩)
def nq (kvs more:List (Key×V)):List (Key×V):=more.foldl (fun acc kv=>og acc kv.1 kv.2) kvs
theorem KV.merge:∀ {more:List (Key×V)} {rs:List (Key×ae)} {kvs:List (Key×V)} {vs:List (Key×ae)},KV more rs→KV kvs vs→KV (nq kvs more) (merged vs rs):=by
 intro more rs kvs vs r;unfold KV at r
 induction r generalizing kvs vs with
 | nil=>intro q;exact q
 | @cons p q ps qs h t ih =>
  intro r0;have e:KV (og kvs p.1 p.2) (stored vs q.1 q.2):=by
   have:=r0.put p.1 h.2;rw [←h.1];exact this
  exact ih e
theorem nv:∀ (more kvs:List (Key×V)),(nq kvs more).length≤kvs.length+more.length
 | [],kvs=>by show kvs.length≤kvs.length+0;lia
 | p::r,kvs=>by
  have h1:=nv r (og kvs p.1 p.2);have h2:=k6 kvs p.1 p.2;show (nq (og kvs p.1 p.2) r).length≤_;rw [aZ];lia
theorem rn {P:aY}{w:bE}:∀ {kvs:List (Key×V)} {ws:List (ae×ae)},VV (kvs.map fun kv=>(kV kv.1,kv.2)) ws→∃ rs,Carries (iS P w) ws rs∧KV kvs rs
 | [],_,r=>by rw [List.map_nil] at r;cases r;exact ⟨[],True.intro,.nil⟩
 | p::kvs,_,r=>by
  rw [cw] at r;cases r with
  | @cons a b as bs h t =>
   obtain ⟨rs,c,q⟩:=rn (P:=P) (w:=w) t;obtain ⟨b1,b2⟩:=b;exact ⟨(p.1,b2)::rs,⟨kV_is h.1,rfl,c⟩,.cons ⟨rfl,h.2⟩ q⟩
def tDisp (trs:List (TE×TE)):TE:=fun σ H Q=>∀ p,H p=none→tPairs trs σ (upd H p (.dK [])) fun ps H2=>H2 p=some (.dK [])∧∃ kvs:List (Key×V),ps=kvs.map (fun kv=>(kV kv.1,kv.2))∧kvs.length≤15∧Q (.ref p) (upd H2 p (.dK (nq [] kvs)))
theorem pe_disp {values:List Expr}(h:PPs X pos keys values trs)(hall:keys.all (·.isSome)=true)(hl:keys.length=values.length)(h0:keys≠[])
  (h15:keys.length≤15):PE X (.Dict keys values pos) (tDisp trs):=by
 intro aP s σ H Q I q;have hn:=I.hok.fresh (aE s.heap.objs.size);have I1:=I.laid (a:=s.heap.objs.size) (o:= .dK []) (h':=s.heap.push { cls:= .type "dict",data:= .dict #[] }) (t':=s.toks) (fun _ _ q=>ar _ q) (aE _) (dk_empty s.heap I.big);refine wpAny_Dict_walk (knd:=iS X.prog X.w) hall hl h0 h15 (thn (h aP _ σ _ _ I1 (q _ hn)) fun ws s2 ⟨ps,H2,I2,rel,e,kvs,ep,lk,q2⟩=>?_);subst ep;obtain ⟨rs,c,rk⟩:=rn (P:=X.prog) (w:=X.w) rel;obtain ⟨z,hd,vs0,r0,dd⟩:=dk_of I2.hok e;cases r0;refine ⟨rs,c,dd,fun h' dd' hs=>⟨.ref s.heap.objs.size,_,?_,rfl,q2⟩⟩;have hz:(nq [] kvs).length≤bp:=by
  have h1:=nv kvs [];rw [List.length_nil] at h1;rw [gn];lia
 have he:∃ q,h'.get? s.heap.objs.size=some q:=let ⟨q,_,_,hq,_⟩:=dd';⟨q,hq⟩;exact d_write I2 (by rw [e];exact True.intro) hs he (dk_new hz hd (rk.merge .nil) dd')
end L2
namespace Att
open PySem PySem.W PySem.Calls PyProof.Rows
end Att
namespace L2
open PySem PySem.Spec PyProof.Rows
theorem oJ {α β:Type}{f:α→β→Sem (ForInStep β)}{Q:β→au→Prop}:∀ (l:List α) (I:Nat→β→au→Prop) (b:β) (s:au),I 0 b s →
  (∀ i a b s,l[i]? =some a→I i b s→aW M A (f a b) (fun r s'=>∃ b',r= .yield b'∧I (i+1) b' s') E s)→(∀ b s,I l.length b s→Q b s)→aW M A (forIn l b f) Q E s
 | [],_,b,s,h0,_,hd=>by
  rw [List.forIn_nil];exact aL (hd b s h0)
 | a::l,I,b,s,h0,hs,hd=>by
  rw [List.forIn_cons];refine ah (cx (hs 0 a b s rfl h0) (fun r s' ⟨b',e,h'⟩=>?_) fun _ _ f=>f);subst e;exact oJ l (fun i=>I (i+1)) b' s' h' (fun i a b s ha hi=>hs (i+1) a b s ha hi) fun b s h=>hd b s h
structure Sq where
 l:Bool
 a:ao
def SqAt (h:bP)(c:Sq)(xs:Array ae):Prop:=match c.l with | true=>h.IsList c.a xs | false=>h.IsTuple c.a xs
def ItAt (h:bP)(c:Sq)(i:ao)(k:Nat):Prop:=match c.l with | true=>h.IsListIter i c.a k | false=>h.IsTupleIter i c.a k
abbrev mM (h:bP)(T:ao)(vs:List ae):Prop:=h.get? T=some { cls:= .type "tuple",data:= .seq vs.toArray }
theorem SqAt.ext {g:bP}{c:Sq}{xs:Array ae}(x:SqAt h c xs)(e:∀ o,h.get? c.a=some o→g.get? c.a=some o):SqAt g c xs:=by
 obtain ⟨l,a⟩:=c;cases l with
 | true=>obtain ⟨o,ho,r⟩:=(show h.IsList a xs from x);exact ⟨o,e o ho,r⟩
 | false=>obtain ⟨o,ho,r⟩:=(show h.IsTuple a xs from x);exact ⟨o,e o ho,r⟩
theorem ItAt.ext {g:bP}{c:Sq}{i:ao}{k:Nat}(x:ItAt h c i k)(e:∀ o,h.get? i=some o→g.get? i=some o):ItAt g c i k:=by
 obtain ⟨l,a⟩:=c;cases l with
 | true=>obtain ⟨o,ho,r⟩:=(show h.IsListIter i a k from x);exact ⟨o,e o ho,r⟩
 | false=>obtain ⟨o,ho,r⟩:=(show h.IsTupleIter i a k from x);exact ⟨o,e o ho,r⟩
theorem ItAt.obj {c:Sq}{i:ao}{k:Nat}(x:ItAt h c i k):∃ o,h.get? i=some o∧∀ v,o.data≠ .cell v:=by
 obtain ⟨l,a⟩:=c;cases l with
 | true=>obtain ⟨o,ho,_,d⟩:=(show h.IsListIter i a k from x);exact ⟨o,ho,fun v z=>by rw [d] at z;cases z⟩
 | false=>obtain ⟨o,ho,_,d⟩:=(show h.IsTupleIter i a k from x);exact ⟨o,ho,fun v z=>by rw [d] at z;cases z⟩
theorem rd {c:Sq}{i:ao}{k:Nat}{xs:Array ae}{v:ae}(jt:ItAt s.heap c i k)(tt:SqAt s.heap c xs)(hv:xs[k]? =some v)
  (q:∀ g,ItAt g c i (k+1)→d9 i s.heap g→Q v { s with heap:=g }):aW (bx prog w) A (dt (.ref i)) Q E s:=by
 obtain ⟨l,a⟩:=c;cases l with
 | true=>exact wpAny_nextOf_list_item (show s.heap.IsListIter i a k from jt) (show s.heap.IsList a xs from tt) hv fun g h1 h2=>q g h1 h2
 | false=>exact nextT_item (show s.heap.IsTupleIter i a k from jt) (show s.heap.IsTuple a xs from tt) hv fun g h1 h2=>q g h1 h2
theorem nextS_end {c:Sq}{i:ao}{k:Nat}{xs:Array ae}(hh:A.handled=none)(jt:ItAt s.heap c i k)(tt:SqAt s.heap c xs)(hv:xs[k]? =none)
  (q:∀ g x,bP.ExtBut i s.heap g→(∃ o,g.get? x=some o∧o.cls= .type "StopIteration")→E (.ref x) { s with heap:=g }):aW (bx prog w) A (dt (.ref i)) Q E s:=by
 obtain ⟨l,a⟩:=c;cases l with
 | true=>exact wpAny_nextOf_list_end hh (show s.heap.IsListIter i a k from jt) (show s.heap.IsList a xs from tt) hv fun g x h1 h2=>q g x h1 h2
 | false=>exact nextT_end hh (show s.heap.IsTupleIter i a k from jt) (show s.heap.IsTuple a xs from tt) hv fun g x h1 h2=>q g x h1 h2
theorem iterS {c:Sq}{xs:Array ae}(tt:SqAt s.heap c xs)
  (q:∀ g,ItAt g c s.heap.objs.size 0→g.objs.size=s.heap.objs.size+1→(∀ b o,s.heap.get? b=some o→g.get? b=some o)→Q (.ref s.heap.objs.size) { s with heap:=g }):aW (bx prog w) A (pyIter (.ref c.a)) Q E s:=by
 obtain ⟨l,a⟩:=c;cases l with
 | true=>exact wpAny_pyIter_list (show s.heap.IsList a xs from tt) (q _ ⟨_,bg _ rfl,rfl,rfl⟩ (gh ..) fun b o e=>ar _ e)
 | false=>exact wpAny_pyIter_tuple (show s.heap.IsTuple a xs from tt) (q _ ⟨_,bg _ rfl,rfl,rfl⟩ (gh ..) fun b o e=>ar _ e)
theorem updRow {T:ao}{x:ae}{k:Nat}{Q:Unit→au→Prop}(hT:mM s.heap T vs)(hz:vs.length≤100)
  (h:∀ g,mM g T (vs.set k x)→d9 T s.heap g→Q () { s with heap:=g }):aW (bx prog w) A (updateSeq T (·.setIfInBounds k x)) Q E s:=by
 refine wpAny_updateSeq hT rfl (h _ ?_ (gz ..)) (by rw [aJ];exact bh hz (by decide)) (by rw [Array.size_setIfInBounds,aJ];exact bh hz (by decide));show bP.get? _ T=_;rw [bP.get?_update_self _ hT rfl];simp [cV]
structure ZIn (h g:bP)(z TI TO:ao)(cs:List Sq)(is:List ao)(k j:Nat)(vs old:List ae):Prop where
 sz:g.objs.size=h.objs.size
 zip:IsZip g z TI TO .ellipsis
 row:mM g TO (vs.take j++old.drop j)
 its:∀ (n:Nat) c i,cs[n]? =some c→is[n]? =some i→ItAt g c i (if n<j then k+1 else k)
 ext:∀ e o,e≠z→e≠TO→e ∉ is→h.get? e=some o→g.get? e=some o
structure ZOk (h:bP)(z TI TO:ao)(cs:List Sq)(is:List ao)(k:Nat)(old:List ae):Prop where
 len:is.length=cs.length
 few:cs.length≤8
 pos:0<cs.length
 nod:(z::TI::TO::is).Nodup
 zip:IsZip h z TI TO .none
 ti:mM h TI (is.map ae.ref)
 to:mM h TO old
 lo:old.length=cs.length
 its:∀ (n:Nat) c i,cs[n]? =some c→is[n]? =some i→ItAt h c i k
 off:∀ c∈cs,c.a≠z∧c.a≠TO∧c.a ∉ is
theorem nod_ne {is:List ao}{i:ao}{e:ao}(hn:is.Nodup)(h1:is[j]? =some i)(h2:is[n]? =some e)(h:n≠j):e≠i:=fun z=>by
 subst z;have a:=(ak.mp h1);have b:=(ak.mp h2);obtain ⟨ha,ea⟩:=a;obtain ⟨hb,eb⟩:=b;exact h ((List.getElem_inj hn).mp (eb.trans ea.symm))
theorem ZIn.step {g:bP}{z TI TO:ao}{cs:List Sq}{is:List ao}{k:Nat}{i:ao}{c:Sq}(D:ZOk h z TI TO cs is k old)(Z:ZIn h g z TI TO cs is k j vs old)(hi:is[j]? =some i)(hc:cs[j]? =some c){g2 g3:bP}{v:ae}(hv:vs[j]? =some v)(lv:vs.length=cs.length)
  (n2:ItAt g2 c i (k+1)) (s2:d9 i g g2) (r3:mM g3 TO ((vs.take j++old.drop j).set j v)) (s3:d9 TO g2 g3):ZIn h g3 z TI TO cs is k (j+1) vs old:=by
 have nod:=D.nod;rw [bJ,bJ,bJ] at nod;obtain ⟨nz,nT,nO,ni⟩:=nod;have mi:i∈is:=bj hi;have iz:z≠i:=fun q=>nz (by rw [q];simp [mi])
 have iO:TO≠i:=fun q=>nO (by rw [q];exact mi)
 have zO:z≠TO:=fun q=>nz (by rw [q];simp)
 have jl:j<cs.length:=(ak.mp hc).1;refine ⟨by rw [s3.1,s2.1,Z.sz],s3.extBut _ _ zO (s2.extBut _ _ iz Z.zip),?_,fun n c' i' hc' hi'=>?_,fun e o e1 e2 e3 q=>s3.extBut _ _ e2 (s2.extBut _ _ (fun y=>e3 (by rw [y];exact mi)) (Z.ext e o e1 e2 e3 q))⟩
 ·have lo:=D.lo
  have e:(vs.take j++old.drop j).set j v=vs.take (j+1)++old.drop (j+1):=by
   have l1:(vs.take j).length=j:=by rw [bL];lia
   rw [List.set_append,rG (by lia),l1,Nat.sub_self,List.drop_eq_getElem_cons (by lia:j<old.length),List.set_cons_zero,bf,hv];simp
  rw [←e];exact r3
 ·have mi':i'∈is:=bj hi'
  have iO':i'≠TO:=fun q=>nO (by rw [←q];exact mi')
  by_cases e:n=j
  ·subst e
   rw [hi] at hi';rw [hc] at hc';cases hi';cases hc';rw [rJ (by lia)];exact n2.ext fun o q=>s3.extBut _ _ iO' q
  ·have q:=Z.its n c' i' hc' hi'
   have e2:(if n<j+1 then k+1 else k)=(if n<j then k+1 else k):=by
    by_cases y:n<j
    ·rw [rJ y,rJ (by lia)]
    ·rw [rG y,rG (by lia)]
   rw [e2];exact q.ext fun o r=>s3.extBut _ _ iO' (s2.extBut _ _ (nod_ne ni hi hi' e) r)
theorem zipS_go {z TI TO:ao}{cs:List Sq}{is:List ao}{k:Nat}{Q:Option ae→au→Prop}(D:ZOk s.heap z TI TO cs is k old)
  (hv:∀ (n:Nat) c,cs[n]? =some c→∃ xs v,SqAt s.heap c xs∧xs[k]? =some v∧vs[n]? =some v) (lv:vs.length=cs.length)
  (q:∀ g,IsZip g z TI TO (rawInt s.heap.objs.size)→mM g TO vs→(∀ (n:Nat) c i,cs[n]? =some c→is[n]? =some i→ItAt g c i (k+1))→mM g s.heap.objs.size vs→g.objs.size=s.heap.objs.size+1 →
   (∀ e o,e≠z→e≠TO→e ∉ is→s.heap.get? e=some o→g.get? e=some o)→Q (some (.ref s.heap.objs.size)) { s with heap:=g }):aW (bx prog w) A (pyNext (.ref z)) Q E s:=by
 have hT:s.TypeIs (.ref z) "zip" := ⟨_,D.zip,rfl⟩;have nod:=D.nod;rw [bJ,bJ,bJ] at nod;obtain ⟨nz,nT,nO,ni⟩:=nod;have zO:z≠TO:=fun q=>nz (by rw [q];simp)
 have few:=D.few;have len:=D.len;unfold pyNext;refine ah (wpAny_attempt (d5 (name:=df "__next__") hT F.slot_zip_next (gu F.slot_zip_next hT F.entry_zip_next ?_ (F.args_zip_next_1 _))));show aW _ _ (field (.ref z) 2 >>= _) _ _ s;refine ah (dm D.zip rfl (x:= .bool false) (by rfl) ?_);show aW _ _ (field (.ref z) 3 >>= _) _ _ s;refine ah (dm D.zip rfl (x:= .ref TI) (by rfl) ?_);refine ah (fT D.ti rfl ?_)
 dsimp only
 rw [rG (by intro y;rw [Array.isEmpty_iff_size_eq_zero,aJ,aa,len] at y;have:=D.pos;lia)];refine ah ?_;unfold kM;refine ah (dm D.zip rfl (x:= .none) (by rfl) (aL ?_));simp only [if_true];refine ah (wpAny_rule ?_);refine ah (dm D.zip rfl (x:= .ref TO) (by rfl) ?_);refine ah (jz D.zip (by simp) fun g1 z1 s1=>?_);have z1:IsZip g1 z TI TO .ellipsis:=z1;refine ah ?_;refine oJ _ (fun j b s'=>b=_∧∃ g,s'={ s with heap:=g }∧ZIn s.heap g z TI TO cs is k j vs old) _ _ ⟨rfl,g1,rfl,?_⟩ ?_ ?_
 ·refine ⟨s1.1,z1,s1.extBut _ _ zO.symm D.to,fun n c i hc hi=>?_,fun e o e1 _ _ h=>s1.extBut _ _ e1 h⟩
  rw [rG (by lia)];exact (D.its n c i hc hi).ext fun o h=>s1.extBut _ _ (fun y=>nz (by rw [←y];simp [bj hi])) h
 ·rintro j a b s' ha ⟨rfl,g,rfl,Z⟩
  rw [List.getElem?_zipIdx] at ha;obtain ⟨x,hx,rfl⟩:=bF.mp ha;have hx:(is.map ae.ref)[j]? =some x:=by simpa using hx
  rw [ax] at hx;obtain ⟨i,hi,rfl⟩:=bF.mp hx;have jl:j<cs.length:=by rw [←len];exact (ak.mp hi).1
  have hc:cs[j]? =some cs[j]:=gE jl;obtain ⟨xs,v,hq,hxv,hvv⟩:=hv j _ hc;obtain ⟨o1,o2,o3⟩:=D.off _ (bt jl);have it:=Z.its j _ i hc hi;rw [rG (by lia)] at it
  dsimp only
  refine ah (wpAny_onRaise ?_);show aW _ _ (dt (.ref i) >>= _) _ _ _;refine ah (rd it (hq.ext fun o h=>Z.ext _ o o1 o2 o3 h) hxv fun g2 n2 s2=>aL ?_);have iO:TO≠i:=fun q=>nO (by rw [q];exact bj hi)
  have r2:mM g2 TO (vs.take j++old.drop j):=s2.extBut _ _ iO Z.row;refine ah (fT r2 rfl ?_);refine ah (updRow (x:=v) (k:=0+j) r2 (by rw [av,bL,eY];have:=D.lo;lia) fun g3 r3 s3=>?_);rw [Nat.zero_add] at r3;refine ah (ky (aL ⟨_,rfl,rfl,g3,rfl,Z.step D hi hc hvv lv n2 s2 r3 s3⟩))
 ·rintro b s' ⟨rfl,g5,rfl,Z⟩
  have ll:((is.map ae.ref).toArray.toList.zipIdx).length=cs.length:=by simp [len]
  rw [ll] at Z;have z5:=Z.zip;have o5:mM g5 TO vs:=by
   have:=Z.row;rw [←lv,aX,lv,←D.lo,List.drop_length,dZ] at this;exact this
  have m5:∀ (n:Nat) c i,cs[n]? =some c→is[n]? =some i→ItAt g5 c i (k+1):=fun n c i hc hi=>by
   have:=Z.its n c i hc hi;rw [rJ (ak.mp hc).1] at this;exact this
  dsimp only
  refine ah (fT o5 rfl ?_);refine ah (wpAny_newTuple ?_);have zlt:z<g5.objs.size:=aO z5;have sz:=Z.sz;refine ah ?_;unfold fX.SmallTypes.ownedTupleHandOut;have z6:IsZip (g5.push { cls:= .type "tuple",data:= .seq vs.toArray }) z TI TO .ellipsis:=ar _ z5;refine ah (jz z6 (by simp) fun g7 z7 s7=>?_);have z7:IsZip g7 z TI TO (rawInt g5.objs.size):=z7;refine jz z7 (by simp) fun g8 z8 s8=>?_
  have z8:IsZip g8 z TI TO (rawInt g5.objs.size):=z8;have up:∀ e o,e≠z→g5.get? e=some o→g8.get? e=some o:=fun e o c1 h=>s8.extBut _ _ c1 (s7.extBut _ _ c1 (ar _ h))
  have t8:mM g8 g5.objs.size vs:=s8.extBut _ _ (dv zlt) (s7.extBut _ _ (dv zlt) (bg _ rfl));have sz8:g8.objs.size=g5.objs.size+1:=by rw [s8.1,s7.1,gh]
  rw [sz] at z8 t8 sz8;refine aL ⟨_,rfl,?_⟩;refine aL ?_;show Q (some (.ref g5.objs.size)) _;rw [sz];refine q g8 z8 (up _ _ zO.symm o5) (fun n c i hc hi=>(m5 n c i hc hi).ext fun o h=>up _ o (fun y=>nz (by rw [←y];simp [bj hi])) h) t8 sz8 fun e o c1 c2 c3 h=>up e o c1 (Z.ext e o c1 c2 c3 h)
theorem zipS_stop {z TI TO:ao}{cs:List Sq}{is:List ao}{k:Nat}{cm:Sq}{Q:Option ae→au→Prop}(hh:A.handled=none)(D:ZOk s.heap z TI TO cs is k old)
  (hv:∀ (n:Nat) c,cs[n]? =some c→n<m→∃ xs v,SqAt s.heap c xs∧xs[k]? =some v∧vs[n]? =some v) (lv:vs.length=cs.length) (hm:cs[m]? =some cm) {xm:Array ae} (hxm:SqAt s.heap cm xm) (hem:xm[k]? =none)
  (q:∀ g,(∀ e o,e≠z→e≠TO→e ∉ is→s.heap.get? e=some o→g.get? e=some o)→Q none { s with heap:=g }):aW (bx prog w) A (pyNext (.ref z)) Q E s:=by
 have hT:s.TypeIs (.ref z) "zip" := ⟨_,D.zip,rfl⟩;have nod:=D.nod;rw [bJ,bJ,bJ] at nod;obtain ⟨nz,nT,nO,ni⟩:=nod;have zO:z≠TO:=fun q=>nz (by rw [q];simp)
 have few:=D.few;have len:=D.len;have fin:∀ g x,(∀ e o,e≠z→e≠TO→e ∉ is→s.heap.get? e=some o→g.get? e=some o)→(∃ o,g.get? x=some o∧o.cls= .type "StopIteration") →
   aW (bx prog w) A (do if ← isInstance (.ref x) (.type "StopIteration") then fM none else throw (.ref x)) Q E { s with heap:=g }:=fun g x k ⟨o,ho,hc⟩=>by
  refine ah (wpAny_isInstance (T := "StopIteration") (b:=true) ⟨o,ho,hc⟩ isSubtype_stop ?_);exact aL (q g k)
 have ml:m<cs.length:=(ak.mp hm).1;unfold pyNext;refine ah (wpAny_attempt (d5 (name:=df "__next__") hT F.slot_zip_next (gu F.slot_zip_next hT F.entry_zip_next ?_ (F.args_zip_next_1 _))));show aW _ _ (field (.ref z) 2 >>= _) _ _ s;refine ah (dm D.zip rfl (x:= .bool false) (by rfl) ?_);show aW _ _ (field (.ref z) 3 >>= _) _ _ s;refine ah (dm D.zip rfl (x:= .ref TI) (by rfl) ?_);refine ah (fT D.ti rfl ?_)
 dsimp only
 rw [rG (by intro y;rw [Array.isEmpty_iff_size_eq_zero,aJ,aa,len] at y;have:=D.pos;lia)];refine ah ?_;unfold kM;refine ah (dm D.zip rfl (x:= .none) (by rfl) (aL ?_));simp only [if_true];refine ah (wpAny_rule ?_);refine ah (dm D.zip rfl (x:= .ref TO) (by rfl) ?_);refine ah (jz D.zip (by simp) fun g1 z1 s1=>?_);have z1:IsZip g1 z TI TO .ellipsis:=z1;refine ah ?_;refine oJ _ (fun j b s'=>b=_∧j≤m∧∃ g,s'={ s with heap:=g }∧ZIn s.heap g z TI TO cs is k j vs old) _ _ ⟨rfl,bG _,g1,rfl,?_⟩ ?_ ?_
 ·refine ⟨s1.1,z1,s1.extBut _ _ zO.symm D.to,fun n c i hc hi=>?_,fun e o e1 _ _ h=>s1.extBut _ _ e1 h⟩
  rw [rG (by lia)];exact (D.its n c i hc hi).ext fun o h=>s1.extBut _ _ (fun y=>nz (by rw [←y];simp [bj hi])) h
 ·rintro j a b s' ha ⟨rfl,jm,g,rfl,Z⟩
  rw [List.getElem?_zipIdx] at ha;obtain ⟨x,hx,rfl⟩:=bF.mp ha;have hx:(is.map ae.ref)[j]? =some x:=by simpa using hx
  rw [ax] at hx;obtain ⟨i,hi,rfl⟩:=bF.mp hx;have jl:j<cs.length:=by rw [←len];exact (ak.mp hi).1
  have hc:cs[j]? =some cs[j]:=gE jl;obtain ⟨o1,o2,o3⟩:=D.off _ (bt jl);have it:=Z.its j _ i hc hi;rw [rG (by lia)] at it;have iO:TO≠i:=fun q=>nO (by rw [q];exact bj hi)
  have iz:z≠i:=fun q=>nz (by rw [q];simp [bj hi])
  dsimp only
  refine ah (wpAny_onRaise ?_);show aW _ _ (dt (.ref i) >>= _) _ _ _
  by_cases e:j=m
  ·subst e
   rw [hc] at hm;cases hm;refine ah (nextS_end hh it (hxm.ext fun o h=>Z.ext _ o o1 o2 o3 h) hem fun g2 x s2 hx2=>?_);obtain ⟨oe,e1,e2⟩:=hx2;have z2:IsZip g2 z TI TO .ellipsis:=s2 _ _ iz Z.zip;have xz:x≠z:=fun r=>by subst r;rw [z2] at e1;cases e1;simp at e2
   exact jz z2 (by simp) fun g3 _ s3=>fin g3 x (fun e o c1 c2 c3 h=>s3.extBut _ _ c1 (s2 _ _ (fun y=>c3 (by rw [y];exact bj hi)) (Z.ext e o c1 c2 c3 h))) ⟨oe,s3.extBut _ _ xz e1,e2⟩
  ·obtain ⟨xs,v,hq,hxv,hvv⟩:=hv j _ hc (by lia)
   refine ah (rd it (hq.ext fun o h=>Z.ext _ o o1 o2 o3 h) hxv fun g2 n2 s2=>aL ?_);have r2:mM g2 TO (vs.take j++old.drop j):=s2.extBut _ _ iO Z.row;refine ah (fT r2 rfl ?_);refine ah (updRow (x:=v) (k:=0+j) r2 (by rw [av,bL,eY];have:=D.lo;lia) fun g3 r3 s3=>?_);rw [Nat.zero_add] at r3;refine ah (ky (aL ⟨_,rfl,rfl,by lia,g3,rfl,Z.step D hi hc hvv lv n2 s2 r3 s3⟩))
 ·rintro b s' ⟨rfl,jm,g5,rfl,Z⟩
  have ll:((is.map ae.ref).toArray.toList.zipIdx).length=cs.length:=by simp [len]
  rw [ll] at jm;lia
theorem mH {α:Type}{P:Nat→α→Prop}:∀ (k:Nat),(∀ n,n<k→∃ u,P n u)→∃ us:List α,us.length=k∧∀ (n:Nat) u,us[n]? =some u→P n u
 | 0,_=>⟨[],rfl,fun n u h=>by simp at h⟩
 | k+1,h=>by
  obtain ⟨us,hl,hu⟩:=mH k fun n hn=>h n (by lia)
  obtain ⟨u,pu⟩:=h k (by lia);refine ⟨us++[u],by rw [av,hl];rfl,fun n v hv=>?_⟩
  by_cases e:n<us.length
  ·rw [gB e] at hv
   exact hu n v hv
  ·rw [cf (by lia)] at hv
   have hn:n=us.length:=by
    have:=(ak.mp hv).1;simp at this;lia
   subst hn;rw [Nat.sub_self] at hv;cases hv;rw [hl];exact pu
theorem vals_of:∀ {vs:List V} {us:List ae},vs.length=us.length→(∀ (n:Nat) v u,vs[n]? =some v→us[n]? =some u→RelV v u)→Vals vs us
 | [],[],_,_=> .nil
 | v::vs,u::us,hl,h=> .cons (h 0 v u rfl rfl) (vals_of (by simpa using hl) fun n v' u' a b=>h (n+1) v' u' a b)
 | [],_::_,hl,_=>by simp at hl
 | _::_,[],hl,_=>by simp at hl
def HSq (H:Hp)(c:Sq)(xs:List V):Prop:=match c.l with | true=>H c.a=some (.lst xs) | false=>H c.a=some (.tup xs)
theorem HSq.inj {c:Sq}(a:HSq H c xs)(b:HSq H c ys):xs=ys:=by
 obtain ⟨l,q⟩:=c;cases l with
 | true=>have a:H q=some (.lst xs):=a;have b:H q=some (.lst ys):=b;rw [a] at b;cases b;rfl
 | false=>have a:H q=some (.tup xs):=a;have b:H q=some (.tup ys):=b;rw [a] at b;cases b;rfl
theorem HSq.has {c:Sq}(a:HSq H c xs):∃ o,H c.a=some o:=by
 obtain ⟨l,q⟩:=c;cases l with
 | true=>exact ⟨_,a⟩
 | false=>exact ⟨_,a⟩
theorem HSq.at {c:Sq}(I:Inv X aP σ H s)(h:HSq H c xs):∃ its,Vals xs its∧SqAt s.heap c its.toArray:=by
 obtain ⟨l,q⟩:=c;cases l with
 | true =>
  obtain ⟨its,r,p,_⟩:=I.list (SqL.of (K:=X.K) (show H q=some (.lst xs) from h));exact ⟨its,r,p.isList⟩
 | false =>
  obtain ⟨its,r,p,_⟩:=I.tuple (SqT.of (K:=X.K) (show H q=some (.tup xs) from h));exact ⟨its,r,p⟩
def Itq (cs:List Sq):It :=
 ⟨fun i H=>∃ vs:List V,vs.length=cs.length∧∀ (n:Nat) c,cs[n]? =some c→∃ xs x,HSq H c xs∧xs[i]? =some x∧vs[n]? =some x,
  fun i H v H'=>∃ p vs,H p=none∧v= .ref p∧H'=upd H p (.tup vs)∧vs.length=cs.length∧∀ (n:Nat) c x xs,cs[n]? =some c→HSq H c xs→vs[n]? =some x→xs[i]? =some x,
  fun i H=>∃ m cm xm,cs[m]? =some cm∧HSq H cm xm∧xm.length≤i∧∀ (n:Nat) c,cs[n]? =some c→n<m→∃ xs x,HSq H c xs∧xs[i]? =some x⟩
theorem turn_zipS {k0}{z TI TO:ao}{cs:List Sq}{is:List ao} :
  Turn P w K (.Tuple es k0 pos) (Itq cs) (z::TI::TO::is) z (fun i h=>∃ old,ZOk h z TI TO cs is i old) where
 mem:=by simp
 obj:=fun i h st c hc=>by
  obtain ⟨old,D⟩:=st;simp only [aG] at hc
  rcases hc with rfl | rfl | rfl | hc
  ·exact ⟨_,D.zip,fun v z=>by cases z⟩
  ·exact ⟨_,D.ti,fun v z=>by cases z⟩
  ·exact ⟨_,D.to,fun v z=>by cases z⟩
  ·obtain ⟨n,hn⟩:=List.getElem?_of_mem hc
   have hl:n<cs.length:=by rw [←D.len];exact (ak.mp hn).1
   exact (D.its n _ c (gE hl) hn).obj
 keep:=fun i h h' st k=>by
  obtain ⟨old,D⟩:=st;exact ⟨old,D.len,D.few,D.pos,D.nod,k z (by simp) _ D.zip,k TI (by simp) _ D.ti,k TO (by simp) _ D.to,D.lo,fun n c i hc hi=>(D.its n c i hc hi).ext fun o e=>k i (by simp [bj hi]) o e,D.off⟩
 item:=by
  intro X hP hw hK hc i aP s σ H E I hf st hg;subst hP hw hK;obtain ⟨old,D⟩:=st;obtain ⟨vs,lv,hv⟩:=hg;have nz:∀ e∈z::TI::TO::is,H e=none:=fun e he=>(hf e he).1
  have hT:H s.heap.objs.size=none:=I.fresh;have ex:∀ n,n<cs.length→∃ u:ae,(∀ c,cs[n]? =some c→∃ xs,SqAt s.heap c xs∧xs[i]? =some u)∧∀ v,vs[n]? =some v→RelV v u:=fun n hn=>by
   obtain ⟨xs,x,h1,h2,h3⟩:=hv n _ (gE hn);obtain ⟨its,r,p⟩:=h1.at I;obtain ⟨u,hu,ru⟩:=r.get h2;refine ⟨u,fun c hc=>?_,fun v hv'=>?_⟩
   ·rw [gE hn] at hc
    cases hc;exact ⟨_,p,by simpa using hu⟩
   ·rw [h3] at hv'
    cases hv';exact ru
  obtain ⟨us,lu,hu⟩:=mH cs.length ex;have hrel:Vals vs us:=vals_of (by lia) fun n v u a b=>(hu n u b).2 v a
  refine zipS_go D (vs:=us) (fun n c hc=>?_) lu fun g z1 to1 m1 tp sz kk=>⟨_,rfl,?_⟩
  ·have hn:n<us.length:=by rw [lu];exact (ak.mp hc).1
   obtain ⟨xs,a,b⟩:=(hu n _ (gE hn)).1 c hc;exact ⟨xs,us[n],a,b,gE hn⟩
  refine wpAny_letOwnedTupleGo_zip z1 fun g2 z2 s2=>?_
  have s2:d9 z g g2:=s2;have k2:∀ e o,e ∉ z::TO::is→s.heap.get? e=some o→g2.get? e=some o:=fun e o hn h=>by
   simp only [aG,not_or] at hn;exact s2.extBut _ _ hn.1 (kk e o hn.1 hn.2.1 hn.2.2 h)
  have zlt:z<s.heap.objs.size:=aO D.zip;have tp2:mM g2 s.heap.objs.size us:=s2.extBut _ _ (dv zlt) tp;have sub:∀ e∈z::TO::is,e∈z::TI::TO::is:=fun e he=>by
   simp only [aG] at he ⊢
   rcases he with rfl | rfl | he <;> simp [*]
  have trk:∀ e o,H e=some o→e ∉ z::TO::is:=fun e o he hm=>by rw [nz e (sub e hm)] at he;cases he
  have J:Inv X aP σ (upd H s.heap.objs.size (.tup vs)) { s with heap:=g2 }:=by
   refine I.turnAll (ch:=z::TO::is) (fun e he=>hf e (sub e he)) k2 (fun e o h=>by rw [bC (bH h hT)];exact h) (fun e o h n=>by rw [bC (bQ (aO h))];exact n) fun e o h=>?_
   by_cases q:e=s.heap.objs.size
   ·subst q
    rw [aV] at h;cases h;exact ⟨by rw [lv];exact bh D.few (by decide),us,hrel,_,tp2,rfl,rfl,_,rfl⟩
   ·rw [bC q] at h
    refine (I.hok e o h).stay (fun c v hc' q'=>k2 c v (by
     rcases hc' with z' | z'
     ·rw [z'];exact trk e o h
     ·exact trk c _ z') q') (fun c q'=>by rw [bC (bH q' hT)];exact q') fun c xs q'=>by rw [bC (bH q' hT)];exact q'
  have nod:=D.nod;rw [bJ,bJ,bJ] at nod;obtain ⟨nz',nT,nO,ni⟩:=nod;refine ⟨.ref s.heap.objs.size,_,J,rfl,⟨_,vs,hT,rfl,rfl,lv,fun n c x xs hc hq hx=>?_⟩,⟨us,D.len,D.few,D.pos,D.nod,z2,?_,s2.extBut _ _ (fun y=>nz' (by rw [←y];simp)) to1,lu,fun n c j hc hj=>?_,D.off⟩,fun e he=>?_⟩
  ·obtain ⟨ys,y,h1,h2,h3⟩:=hv n c hc
   rw [h1.inj hq] at h2;rw [h3] at hx;cases hx;exact h2
  ·refine k2 _ _ (fun y=>?_) D.ti
   rcases aG.mp y with y | y
   ·exact nz' (by rw [←y];simp)
   ·exact nT y
  ·exact (m1 n c j hc hj).ext fun o e=>s2.extBut _ _ (fun y=>nz' (by rw [←y];simp [bj hj])) e
  ·have hlt:e<s.heap.objs.size:=by
    simp only [aG] at he
    rcases he with rfl | rfl | rfl | he
    ·exact aO D.zip
    ·exact aO D.ti
    ·exact aO D.to
    ·obtain ⟨n,hn⟩:=List.getElem?_of_mem he
     have hl:n<cs.length:=by rw [←D.len];exact (ak.mp hn).1
     obtain ⟨o,ho,_⟩:=(D.its n _ e (gE hl) hn).obj;exact aO ho
   rw [bC (bQ hlt)];exact nz e he
 done:=by
  intro X hP hw hK hc i aP s σ H E I hf st hg;subst hP hw hK;obtain ⟨old,D⟩:=st;obtain ⟨m,cm,xm,hm,hxm,hi,hv⟩:=hg;have nz:∀ e∈z::TI::TO::is,H e=none:=fun e he=>(hf e he).1
  have ex:∀ n,n<cs.length→∃ u:ae,∀ c,cs[n]? =some c→n<m→∃ xs,SqAt s.heap c xs∧xs[i]? =some u:=fun n hn=>by
   by_cases e:n<m
   ·obtain ⟨xs,x,h1,h2⟩:=hv n _ (gE hn) e
    obtain ⟨its,r,p⟩:=h1.at I;obtain ⟨u,hu,ru⟩:=r.get h2;refine ⟨u,fun c hc _=>?_⟩;rw [gE hn] at hc;cases hc;exact ⟨_,p,by simpa using hu⟩
   ·exact ⟨.none,fun c _ z=>rL z e⟩
  obtain ⟨us,lu,hu⟩:=mH cs.length ex;obtain ⟨its,r,p⟩:=hxm.at I;have hl:=r.length;refine zipS_stop (I.ok.hd hc) D (vs:=us) (m:=m) (fun n c hc hn=>?_) lu hm p (by simp;lia) fun g kk=>⟨rfl,?_⟩
  ·have hn':n<us.length:=by rw [lu];exact (ak.mp hc).1
   obtain ⟨xs,a,b⟩:=hu n _ (gE hn') c hc hn;exact ⟨xs,us[n],a,b,gE hn'⟩
  have sub:∀ e∈z::TO::is,e∈z::TI::TO::is:=fun e he=>by
   simp only [aG] at he ⊢
   rcases he with rfl | rfl | he <;> simp [*]
  have k2:∀ e o,e ∉ z::TO::is→s.heap.get? e=some o→g.get? e=some o:=fun e o hn h=>by
   simp only [aG,not_or] at hn;exact kk e o hn.1 hn.2.1 hn.2.2 h
  have trk:∀ e o,H e=some o→e ∉ z::TO::is:=fun e o he hm=>by rw [nz e (sub e hm)] at he;cases he
  refine I.turnAll (ch:=z::TO::is) (fun e he=>hf e (sub e he)) k2 (fun _ _ h=>h) (fun _ _ _ n=>n) fun e o h=>?_
  exact (I.hok e o h).stay (fun c v hc' q'=>k2 c v (by
   rcases hc' with z' | z'
   ·rw [z'];exact trk e o h
   ·exact trk c _ z') q') (fun _ q'=>q') fun _ _ q'=>q'
 self:=fun _ _ _ _ _ st h=>let ⟨_,D⟩:=st;wpAny_pyIter_zip D.zip h
structure ZNew (h g:bP)(cs:List Sq):Prop where
 zip:IsZip g (h.objs.size+cs.length+2) (h.objs.size+cs.length) (h.objs.size+cs.length+1) .none
 ti:mM g (h.objs.size+cs.length) (((aQ cs.length).map fun j=>h.objs.size+j).map ae.ref)
 to:mM g (h.objs.size+cs.length+1) (bS cs.length .none)
 its:∀ (n:Nat) c,cs[n]? =some c→ItAt g c (h.objs.size+n) 0
 ext:∀ b o,h.get? b=some o→g.get? b=some o
theorem newClass_zip (vs:List ae):fX.SmallTypes.newClass "zip" ⟨.type "zip" :: vs,[]⟩=fM (.type "zip",vs):=by
 unfold fX.SmallTypes.newClass;simp only [isType,sub_zip,pure_bind,Bool.not_true,Bool.false_eq_true,if_false]
theorem zipS_new (cs:List Sq)(few:cs.length≤8) :
  Meets (fX.«zip.__new__» ⟨.type "zip" :: cs.map fun c=>ae.ref c.a,[]⟩) (fun _ R s=>(∀ c∈cs,∃ xs,SqAt s.heap c xs)∧∀ g,ZNew s.heap g cs→R (.ok (.ret (.ref (s.heap.objs.size+cs.length+2)))) { s with heap:=g }) :=
 .of_wp fun prog w A R s h=>by
  obtain ⟨h1,h⟩:=h;unfold fX.«zip.__new__»;refine ah (wpAny_of_eq (newClass_zip _) ?_);show aW _ _ (fX.SmallTypes.iterAll (cs.map fun c=>ae.ref c.a) >>= _) _ _ _;refine ah ?_;unfold fX.SmallTypes.iterAll;refine ah (oJ _ (fun j its s'=>∃ g,s'={ s with heap:=g }∧g.objs.size=s.heap.objs.size+j∧its=((aQ j).map fun i=>ae.ref (s.heap.objs.size+i)).toArray∧(∀ (n:Nat) c,n<j→cs[n]? =some c→ItAt g c (s.heap.objs.size+n) 0)∧∀ b o,s.heap.get? b=some o→g.get? b=some o) _ _ ⟨s.heap,rfl,rfl,rfl,fun n c hn=>rL hn (by lia),fun _ _ e=>e⟩ ?_ ?_)
  ·rintro j a its s' ha ⟨g,rfl,sz,rfl,hit,ext⟩
   rw [ax] at ha;obtain ⟨c,hc,rfl⟩:=bF.mp ha;obtain ⟨xs,hx⟩:=h1 c (bj hc);refine ah (dQ (iterS (c:=c) (xs:=xs) (hx.ext fun o e=>ext _ o e) fun g2 i2 z2 e2=>?_));refine aL ⟨_,rfl,g2,rfl,?_,?_,fun n c' hn hc'=>?_,fun b o e=>e2 b o (ext b o e)⟩
   ·show g2.objs.size=_
    rw [z2];show g.objs.size+1=_;rw [sz];lia
   ·show Array.push _ (ae.ref g.objs.size)=_
    rw [sz,List.range_succ,aB];simp
   ·by_cases e:n=j
    ·subst e
     rw [hc] at hc';cases hc';have i2:ItAt g2 c g.objs.size 0:=i2;rw [sz] at i2;exact i2
    ·exact (hit n c' (by lia) hc').ext fun o q=>e2 _ o q
  ·rintro its s' ⟨g,rfl,sz,rfl,hit,ext⟩
   have ll:(cs.map fun c=>ae.ref c.a).length=cs.length:=aa ..;rw [ll] at sz hit ⊢;refine aL ?_
   dsimp only
   have n8:((aQ cs.length).map fun i=>ae.ref (s.heap.objs.size+i)).length≤bp:=by
    rw [aa,br];exact bh few (by decide)
   refine ah (wpAny_newTuple ?_ (by simpa using n8));refine ah (wpAny_newTuple ?_ (by simpa using n8));refine ah ?_;unfold fX.SmallTypes.newRecord;refine dh (aL ⟨_,rfl,?_⟩) (by show 5≤bp+2;decide);have e1:(g.push { cls:= .type "tuple",data:= .seq ((aQ cs.length).map fun i=>ae.ref (s.heap.objs.size+i)).toArray }).objs.size=s.heap.objs.size+cs.length+1:=by rw [gh,sz]
   have e2:((g.push { cls:= .type "tuple",data:= .seq ((aQ cs.length).map fun i=>ae.ref (s.heap.objs.size+i)).toArray }).push { cls:= .type "tuple",data:= .seq ((((aQ cs.length).map fun i=>ae.ref (s.heap.objs.size+i)).toArray.toList.map fun _=>ae.none)).toArray }).objs.size=s.heap.objs.size+cs.length+2:=by rw [gh,e1]
   have key:=h (((g.push { cls:= .type "tuple",data:= .seq ((aQ cs.length).map fun i=>ae.ref (s.heap.objs.size+i)).toArray }).push { cls:= .type "tuple",data:= .seq ((((aQ cs.length).map fun i=>ae.ref (s.heap.objs.size+i)).toArray.toList.map fun _=>ae.none)).toArray }).push { cls:= .type "zip",data:= .fields #[.none,.bool false,.bool false,.ref (s.heap.objs.size+cs.length),.ref (s.heap.objs.size+cs.length+1)] })
    ⟨by rw [←e2];exact bg _ rfl,?_,?_,fun n c hc=>(hit n c (ak.mp hc).1 hc).ext fun o q=>ar _ (ar _ (ar _ q)),fun b o q=>ar _ (ar _ (ar _ (ext b o q)))⟩
   ·rw [←e2] at key
    have e1':(s.heap.objs.size+cs.length:Nat)=g.objs.size:=sz.symm;rw [←e1,e1'] at key;exact key
   ·have em:(((aQ cs.length).map fun j=>s.heap.objs.size+j).map ae.ref)=((aQ cs.length).map fun i=>ae.ref (s.heap.objs.size+i)):=by rw [d7];rfl
    show bP.get? _ _=_;rw [em,←sz];exact ar _ (ar _ (bg _ rfl))
   ·rw [←e1]
    have er:(((aQ cs.length).map fun i=>ae.ref (s.heap.objs.size+i)).toArray.toList.map fun _=>ae.none)=bS cs.length ae.none:=by
     rw [List.eq_replicate_iff];exact ⟨by simp,fun x hx=>by obtain ⟨_,_,rfl⟩:=bc.mp hx;rfl⟩
    rw [er];exact ar _ (bg _ rfl)
theorem zip_args3 (a b c d:ae):argsOk "object.__init__" ⟨[a,b,c,d],[]⟩:=by
 unfold argsOk;rw [signature?_of (id := "object.__init__") (n:=['_','_','t','i','n','i','_','_']) (o:=['t','c','e','j','b','o']) (by kernel_rfl) F.owner_object]
 kernel_rfl
theorem zip_type3 (a b c:ae):checkTypeCall "zip" ⟨[a,b,c],[]⟩=fM ():=by kernel_rfl
theorem zip_new3 (a b c:ae):checkBuiltinCall "zip.__new__" ⟨[.type "zip",a,b,c],[]⟩=fM ():=by kernel_rfl
theorem zip_walk {s1:au}{k0}{pt:Pos}{R:It→Hp→Prop}{cs:List Sq}(I1:Inv X aP σ H1 s1)(few:cs.length≤8)(pos:0<cs.length)(hq:∀ c∈cs,∃ xs,HSq H1 c xs)(q:R (Itq cs) H1){g:bP}(Z:ZNew s1.heap g cs) :
  aW (bx X.prog X.w) X.A (pyIter (.ref (s1.heap.objs.size+cs.length+2))) (PIE X aP σ (.Tuple es k0 pt) R) E { s1 with heap:=g }:=by
 have small:∀ c∈cs,c.a<s1.heap.objs.size:=fun c hc=>by
  obtain ⟨xs,hx⟩:=hq c hc;obtain ⟨o,ho⟩:=hx.has;exact Nat.lt_of_not_le fun hge=>by rw [I1.hok.fresh hge] at ho;cases ho
 refine wpAny_pyIter_zip Z.zip ⟨_,(s1.heap.objs.size+cs.length+2)::(s1.heap.objs.size+cs.length)::(s1.heap.objs.size+cs.length+1)::((aQ cs.length).map fun j=>s1.heap.objs.size+j),_,Itq cs,H1,rfl,I1.kept (t':=s1.toks) Z.ext,turn_zipS,⟨_,?_,few,pos,?_,Z.zip,Z.ti,Z.to,by rw [ix],fun n c i hc hi=>?_,fun c hc=>?_⟩,fun e he=>?_,q⟩
 ·rw [aa,br]
 ·have nd:((aQ cs.length).map fun j=>s1.heap.objs.size+j).Nodup:=by
   rw [bM,fh];exact (bM.mp iN).imp fun h e=>h (by lia)
  have out:∀ x,s1.heap.objs.size+cs.length≤x→x ∉ ((aQ cs.length).map fun j=>s1.heap.objs.size+j):=fun x hx hm=>by
   obtain ⟨j,hj,rfl⟩:=bc.mp hm;have:=bO.mp hj;lia
  rw [bJ,bJ,bJ];refine ⟨fun h=>?_,fun h=>?_,fun h=>out _ (by show @LE.le Nat _ _ _;lia) h,nd⟩
  ·rcases aG.mp h with h | h
   ·have h: @Eq Nat _ _:=h
    lia
   ·rcases aG.mp h with h | h
    ·have h: @Eq Nat _ _:=h
     lia
    ·exact out _ (by show @LE.le Nat _ _ _;lia) h
  ·rcases aG.mp h with h | h
   ·have h: @Eq Nat _ _:=h
    lia
   ·exact out _ (by show @LE.le Nat _ _ _;lia) h
 ·rw [ax,gX (ak.mp hc).1] at hi
  cases hi;exact Z.its n c hc
 ·have:=small c hc
  have this: @LT.lt Nat _ c.a s1.heap.objs.size:=this;refine ⟨by show @Ne Nat _ _;lia,by show @Ne Nat _ _;lia,fun hm=>?_⟩;obtain ⟨j,hj,e⟩:=bc.mp hm;have e: @Eq Nat _ _:=e;lia
 ·have hge:s1.heap.objs.size≤e:=by
   simp only [aG] at he
   rcases he with rfl | rfl | rfl | he
   ·show @LE.le Nat _ _ _;lia
   ·show @LE.le Nat _ _ _;lia
   ·show @LE.le Nat _ _ _;lia
   ·obtain ⟨j,hj,rfl⟩:=bc.mp he
    show @LE.le Nat _ _ _;lia
  exact I1.fpOk hge (I1.hok.fresh hge)
def iZip2 (ta:TA):TI:=fun σ H R=>ta σ H fun vs H1=>∃ c1 c2 xs ys,vs=[.ref c1.a,.ref c2.a]∧HSq H1 c1 xs∧HSq H1 c2 ys∧R (Itq [c1,c2]) H1
theorem pi_zip2 {eb:Expr}{ta:TA}{p:Pos}{k0}{pt:Pos}(hg:Gl X "zip")(hm:X.mg "zip" =none)(ha:PA X [ea,eb] ta)(hs:bD [ea,eb] X.env=[(false,eP ea X.env),(false,eP eb X.env)]:=by rfl)(hs2:bD [eb] X.env=[(false,eP eb X.env)]:=by rfl) :
  PI X (.Tuple es k0 pt) (.Call (.Name "zip" p) [ea,eb] [] pos) (iZip2 ta):=by
 intro aP s σ H R I h;refine Call_ (lU I hg hm boot_zip (eN (thn (ha pos aP s σ H _ I h) fun us s1 ⟨vs,H1,I1,r1,q1⟩=>?_) (by rw [hs,hs2]) (by rw [hs2];rfl)));obtain ⟨c1,c2,xs,ys,e,h1,h2,q⟩:=q1;subst e;obtain ⟨u1,u2,rfl,r2,r3⟩:=vals2 r1;cases (show u1=ae.ref c1.a from r2);cases (show u2=ae.ref c2.a from r3);obtain ⟨_,_,p1⟩:=h1.at I1;obtain ⟨_,_,p2⟩:=h2.at I1;refine callType_new F.called_zip (by decide) (F.typeCall_zip_2 _ _) (F.newCall_zip_2 _ _) (fun obj=>F.args_object_init_3 obj _ _) F.entry_zip_new (zipS_new [c1,c2] (by show 2≤8;decide)) ⟨fun c hc=>?_,fun g Z=>⟨⟨_,Z.zip,rfl⟩,?_⟩⟩
 ·simp only [aG,cQ,or_false] at hc
  rcases hc with rfl | rfl
  ·exact ⟨_,p1⟩
  ·exact ⟨_,p2⟩
 ·refine zip_walk (cs:=[c1,c2]) I1 (by show 2≤8;decide) (by show 0<2;decide) (fun c hc=>?_) q Z
  simp only [aG,cQ,or_false] at hc
  rcases hc with rfl | rfl
  ·exact ⟨_,h1⟩
  ·exact ⟨_,h2⟩
theorem valsThree {x z:V}(h:Vals [x,y,z] us):∃ u1 u2 u3,us=[u1,u2,u3]∧RelV x u1∧RelV y u2∧RelV z u3:=by
 cases h with
 | cons h1 r1=>cases r1 with
  | cons h2 r2=>cases r2 with
   | cons h3 r3=>cases r3;exact ⟨_,_,_,rfl,h1,h2,h3⟩
def iZip3 (ta:TA):TI:=fun σ H R=>ta σ H fun vs H1=>∃ c1 c2 c3 xs ys zs,vs=[.ref c1.a,.ref c2.a,.ref c3.a]∧HSq H1 c1 xs∧HSq H1 c2 ys∧HSq H1 c3 zs∧R (Itq [c1,c2,c3]) H1
theorem pi_zip3 {eb ec:Expr}{ta:TA}{p:Pos}{k0}{pt:Pos}(hg:Gl X "zip")(hm:X.mg "zip" =none)(ha:PA X [ea,eb,ec] ta)(hs:bD [ea,eb,ec] X.env=[(false,eP ea X.env),(false,eP eb X.env),(false,eP ec X.env)]:=by rfl)(hs2:bD [eb,ec] X.env=[(false,eP eb X.env),(false,eP ec X.env)]:=by rfl) :
  PI X (.Tuple es k0 pt) (.Call (.Name "zip" p) [ea,eb,ec] [] pos) (iZip3 ta):=by
 intro aP s σ H R I h;refine Call_ (lU I hg hm boot_zip (eN (thn (ha pos aP s σ H _ I h) fun us s1 ⟨vs,H1,I1,r1,q1⟩=>?_) (by rw [hs,hs2]) (by rw [hs2];rfl)));obtain ⟨c1,c2,c3,xs,ys,zs,e,h1,h2,h3,q⟩:=q1;subst e;obtain ⟨u1,u2,u3,rfl,r2,r3,r4⟩:=valsThree r1;cases (show u1=ae.ref c1.a from r2);cases (show u2=ae.ref c2.a from r3);cases (show u3=ae.ref c3.a from r4);obtain ⟨_,_,p1⟩:=h1.at I1;obtain ⟨_,_,p2⟩:=h2.at I1;obtain ⟨_,_,p3⟩:=h3.at I1;refine callType_new F.called_zip (by decide) (zip_type3 _ _ _) (zip_new3 _ _ _) (fun obj=>zip_args3 obj _ _ _) F.entry_zip_new (zipS_new [c1,c2,c3] (by show 3≤8;decide)) ⟨fun c hc=>?_,fun g Z=>⟨⟨_,Z.zip,rfl⟩,?_⟩⟩
 ·simp only [aG,cQ,or_false] at hc
  rcases hc with rfl | rfl | rfl
  ·exact ⟨_,p1⟩
  ·exact ⟨_,p2⟩
  ·exact ⟨_,p3⟩
 ·refine zip_walk (cs:=[c1,c2,c3]) I1 (by show 3≤8;decide) (by show 0<3;decide) (fun c hc=>?_) q Z
  simp only [aG,cQ,or_false] at hc
  rcases hc with rfl | rfl | rfl
  ·exact ⟨_,h1⟩
  ·exact ⟨_,h2⟩
  ·exact ⟨_,h3⟩
theorem for_zip2 {c1 c2:Sq}{tb:TS}{D:lh}(Pv:Nat→St→Hp→Prop)(h0:Pv 0 σ H)(hl:∀ i σ H,i≤xs.length→Pv i σ H→HSq H c1 xs∧HSq H c2 ys)(hxy:xs.length=ys.length)
  (hs:∀ i x y p σ H,xs[i]? =some x→ys[i]? =some y→Pv i σ H→H p=none→g (.ref p) σ (upd H p (.tup [x,y])) fun σ2 H2=>tb { D with nx:=Pv (i+1),ct:=Pv (i+1),bk:=D.nx } σ2 H2) (hd:∀ σ H,Pv xs.length σ H→D.nx σ H) :
  ∃ W:Nat→Nat→St→Hp→Prop,(∃ m,W 0 m σ H)∧∀ i m σ H,W i m σ H →
   ((Itq [c1,c2]).stop i H∧D.nx σ H)∨((Itq [c1,c2]).go i H∧∃ N:St→Hp→Prop,(∀ σ' H',N σ' H'→∃ m',m'<m∧W (i+1) m' σ' H')∧∀ x H',(Itq [c1,c2]).yld i H x H'→g x σ H' fun σ2 H2=>tb { D with nx:=N,ct:=N,bk:=D.nx } σ2 H2):=by
 refine ⟨fun i m σ H=>i≤xs.length∧m=xs.length - i∧Pv i σ H,⟨_,bG _,rfl,h0⟩,fun i m σ H ⟨hi,hm,hp⟩=>?_⟩;obtain ⟨qa,qb⟩:=hl i σ H hi hp
 by_cases e:i=xs.length
 ·subst e
  exact .inl ⟨⟨0,c1,xs,rfl,qa,aE _,fun n c _ hn=>rL hn (by lia)⟩,hd σ H hp⟩
 ·have hlt:i<xs.length:=gm hi e
  have hlt2:i<ys.length:=by lia
  refine .inr ⟨⟨[xs[i],ys[i]],rfl,fun n c hc=>?_⟩,Pv (i+1),fun σ' H' hp'=>⟨xs.length - (i+1),by lia,by lia,rfl,hp'⟩,fun v H3 hy=>?_⟩
  ·match n,hc with
   | 0,hc=>cases hc;exact ⟨xs,xs[i],qa,gE hlt,rfl⟩
   | 1,hc=>cases hc;exact ⟨ys,ys[i],qb,gE hlt2,rfl⟩
   | n+2,hc=>simp at hc
  ·obtain ⟨p,vs,hn,rfl,rfl,lv,hx⟩:=hy
   match vs,lv,hx with
   | [x,y],_,hx=>exact hs i x y p σ H (hx 0 c1 x xs rfl qa rfl) (hx 1 c2 y ys rfl qb rfl) hp hn
theorem for_zip3 {c1 c2 c3:Sq}{tb:TS}{D:lh}(Pv:Nat→St→Hp→Prop)(h0:Pv 0 σ H)(hl:∀ i σ H,i≤xs.length→Pv i σ H→HSq H c1 xs∧HSq H c2 ys∧HSq H c3 zs)(hxy:xs.length=ys.length)(hxz:xs.length=zs.length)
  (hs:∀ i x y z p σ H,xs[i]? =some x→ys[i]? =some y→zs[i]? =some z→Pv i σ H→H p=none→g (.ref p) σ (upd H p (.tup [x,y,z])) fun σ2 H2=>tb { D with nx:=Pv (i+1),ct:=Pv (i+1),bk:=D.nx } σ2 H2) (hd:∀ σ H,Pv xs.length σ H→D.nx σ H) :
  ∃ W:Nat→Nat→St→Hp→Prop,(∃ m,W 0 m σ H)∧∀ i m σ H,W i m σ H →
   ((Itq [c1,c2,c3]).stop i H∧D.nx σ H)∨((Itq [c1,c2,c3]).go i H∧∃ N:St→Hp→Prop,(∀ σ' H',N σ' H'→∃ m',m'<m∧W (i+1) m' σ' H')∧∀ x H',(Itq [c1,c2,c3]).yld i H x H'→g x σ H' fun σ2 H2=>tb { D with nx:=N,ct:=N,bk:=D.nx } σ2 H2):=by
 refine ⟨fun i m σ H=>i≤xs.length∧m=xs.length - i∧Pv i σ H,⟨_,bG _,rfl,h0⟩,fun i m σ H ⟨hi,hm,hp⟩=>?_⟩;obtain ⟨qa,qb,qc⟩:=hl i σ H hi hp
 by_cases e:i=xs.length
 ·subst e
  exact .inl ⟨⟨0,c1,xs,rfl,qa,aE _,fun n c _ hn=>rL hn (by lia)⟩,hd σ H hp⟩
 ·have hlt:i<xs.length:=gm hi e
  have hlt2:i<ys.length:=by lia
  have hlt3:i<zs.length:=by lia
  refine .inr ⟨⟨[xs[i],ys[i],zs[i]],rfl,fun n c hc=>?_⟩,Pv (i+1),fun σ' H' hp'=>⟨xs.length - (i+1),by lia,by lia,rfl,hp'⟩,fun v H3 hy=>?_⟩
  ·match n,hc with
   | 0,hc=>cases hc;exact ⟨xs,xs[i],qa,gE hlt,rfl⟩
   | 1,hc=>cases hc;exact ⟨ys,ys[i],qb,gE hlt2,rfl⟩
   | 2,hc=>cases hc;exact ⟨zs,zs[i],qc,gE hlt3,rfl⟩
   | n+3,hc=>simp at hc
  ·obtain ⟨p,vs,hn,rfl,rfl,lv,hx⟩:=hy
   match vs,lv,hx with
   | [x,y,z],_,hx=>exact hs i x y z p σ H (hx 0 c1 x xs rfl qa rfl) (hx 1 c2 y ys rfl qb rfl) (hx 2 c3 z zs rfl qc rfl) hp hn
theorem PE.cutV {t:TE}(h:PE X e t):PE X e (fun σ H Q=>∃ N:VK,(∀ v H',N v H'→Q v H')∧t σ H N):=fun aP s σ H Q I ⟨N,i,q⟩ =>
 thn (h aP s σ H N I q) fun u s' ⟨v,H',I',rv,q'⟩=>⟨v,H',I',rv,i _ _ q'⟩
theorem rm {c1 c2:Sq}{Q:VK}(Pv:Nat→List V→Hp→Prop)(h0:Pv 0 [] H)(hl:∀ i zs H,i≤xs.length→Pv i zs H→HSq H c1 xs∧HSq H c2 ys∧zs.length≤i)(hxy:xs.length=ys.length)(hz:xs.length≤bp)
  (hs:∀ i x y zs p H,xs[i]? =some x→ys[i]? =some y→Pv i zs H→H p=none→tt (some x::some y::dH σ js) (upd H p (.tup [x,y])) fun b H4=>if b=true then te (some x::some y::dH σ js) H4 fun y H5=>Pv (i+1) (zs++[y]) H5 else Pv (i+1) zs H4)
  (hd:∀ zs H,Pv xs.length zs H→∀ D,H D=none→Q (.ref D) (upd H D (.lst zs))):rE 2 (gPair K) js tt te σ Q (Itq [c1,c2]) H:=by
 refine ⟨fun i m zs H=>i≤xs.length∧m=xs.length - i∧Pv i zs H,⟨_,bG _,rfl,h0⟩,fun i m zs H2 ⟨hi,hm,hp⟩=>?_⟩;obtain ⟨qa,qb,hy⟩:=hl i zs H2 hi hp
 by_cases e:i=xs.length
 ·subst e
  exact .inl ⟨⟨0,c1,xs,rfl,qa,aE _,fun n c _ hn=>rL hn (by lia)⟩,hd zs H2 hp⟩
 ·have hlt:i<xs.length:=gm hi e
  have hlt2:i<ys.length:=by lia
  refine .inr ⟨⟨[xs[i],ys[i]],rfl,fun n c hc=>?_⟩,by lia,Pv (i+1),fun ys' H' hp'=>⟨xs.length - (i+1),by lia,by lia,rfl,hp'⟩,fun v H3 hy3 v0 hv0=>?_⟩
  ·match n,hc with
   | 0,hc=>cases hc;exact ⟨xs,xs[i],qa,gE hlt,rfl⟩
   | 1,hc=>cases hc;exact ⟨ys,ys[i],qb,gE hlt2,rfl⟩
   | n+2,hc=>simp at hc
  ·obtain ⟨p,vs,hn,rfl,rfl,lv,hx⟩:=hy3
   match vs,lv,hx,v0,hv0 with
   | [x,y],_,hx,[v1,v2],_=>exact ⟨p,_,rfl,SqT.of aV,rfl,_,_,rfl,_,_,rfl,rfl,⟨[some x,some y],rfl,rfl⟩,hs i x y zs p H2 (hx 0 c1 x xs rfl qa rfl) (hx 1 c2 y ys rfl qb rfl) hp hn⟩
end L2
variable {cs:List L2.Sq}
local macro_rules
 | `(tactic|exists $s:term) => `(tactic|(show ∀ y:b9×PySem.NameKind,y∈_→y.2=PySem.NameKind.free→eX y.1 (L2.defScope $s).names=some PySem.NameKind.cell;decide +kernel))
local macro_rules
 | `(tactic|trivial) => `(tactic|first|decide +kernel|exact ⟨rfl,rfl,rfl,by decide +kernel,rfl,by decide +kernel,by decide +kernel⟩|exact True.intro)
local macro_rules
 | `(tactic|contradiction) => `(tactic|(intro _ _ _ _ h;first | (cases h;subst_vars;rfl) | ((repeat (obtain ⟨_,h⟩:=h));subst_vars;rfl)))
namespace L2
open PySem PyProof.Rows
theorem ixZ {a:Expr}{p q:Pos}{i:Int}{j}(h:PE X a ta):PE X (.Subscript a (.Constant (.int i) j p) q) (tOp (ow X.K) ta (tC (.int i))):=dG dN h bo (fun _ _=>rfl)
theorem szZ1:1≤bp:=by decide
theorem mN:2≤bp:=by decide
theorem szZ4:4≤bp:=by decide
theorem szZ5:5≤bp:=by decide
theorem psZ (i:Nat)(hN:X.N.Nodup)(he:PE X e te)(hi:X.N[i]? =some x:=by rfl)(hx:Loc X.env.scope x:=by first|exact .inl rfl|exact .inr rfl)(hs:swapsWith e (some (.Name x pos')) pos.line X.env=fM false:=by rfl)(hf:X.fn x=true∨X.env.scope.names.lookup x=some .local:=by first|exact .inl rfl|exact .inr rfl|assumption):PS X (.Assign [.Name x pos'] e pos) (tAsg te (oF i)):=ps_set hN hi hx he hs hf
theorem pgZ (i:Nat)(hN:X.N.Nodup)(hi:X.N[i]? =some x:=by rfl)(hx:Loc X.env.scope x:=by first|exact .inl rfl|exact .inr rfl)(hf:X.fn x=true∨X.env.scope.names.lookup x=some .local:=by first|exact .inl rfl|exact .inr rfl|assumption):PG X (.Name x pos) (oF i):=oi hN hi hx hf
end L2
namespace L2
abbrev pza:List b9:=["net"]
abbrev pzb:List b9:=["_law_net_here","_law_table"]
abbrev pzc:List b9:=["net","bounds","ring"]
abbrev pzd:List b9:=["_law_net_here","_law_told"]
abbrev pze:List b9:=["net","step"]
abbrev pzf:List b9:=["net","table"]
abbrev pzg:List b9:=["net","span"]
abbrev pzh:List b9:=["_law_script","_law_k"]
abbrev pzi:List b9:=["_law_told"]
abbrev pzj:List b9:=["_law_pot_here","_law_most"]
abbrev pzk:List b9:=["net","case"]
abbrev pzl:List b9:=["beat","number"]
abbrev pzm:List b9:=["_law_net_here","_law_tree"]
abbrev pzn:List b9:=["net","spans","happening"]
abbrev pzo:List b9:=["net","most"]
abbrev pzp:List b9:=["net","leaf_in"]
abbrev pzq:List b9:=["_law_pot_here","_law_times","_law_beat","_law_ends","_law_width","_law_kept"]
abbrev pzr:List b9:=["case","span"]
abbrev pzs:List b9:=["_law_net_here","_law_bounds","_law_ring"]
abbrev pzt:List b9:=["_law_script","_law_most","_law_extras","_law_spoils"]
abbrev pzu:List b9:=["rings","span"]
abbrev pzv:List b9:=["bounds","span","low","high"]
abbrev pzw:List b9:=["net","rings","wait","case"]
abbrev pzx:List b9:=["_law_net_here","_law_bounds","_law_tree","_law_deep"]
abbrev pzy:List b9:=["_law_net_here","_law_bounds","_law_tree"]
abbrev pzz:List b9:=["_law_cell","_law_k"]
abbrev pzA:List b9:=["_law_pot_here","_law_times","_law_beat","_law_k","_law_lim","_law_spoils"]
abbrev pzB:List b9:=["_law_pot_here","_law_times","_law_beat","_law_most","_law_spoils"]
abbrev pzC:List b9:=["bounds","way"]
abbrev pzD:List b9:=["net","bounds","leaf"]
abbrev pzE:List b9:=["net","spans","begin","end"]
abbrev pzF:List b9:=["self","case","span","at"]
abbrev pzG:List b9:=["net","steps","bounds"]
abbrev pzH:List b9:=["net","rings","bounds"]
abbrev pzI:List b9:=["net","table","span"]
abbrev pzJ:List b9:=["_law_net_here","_law_ring"]
abbrev pzK:List b9:=["_law_net_here","_law_bounds","_law_rows"]
abbrev pzL:List b9:=["_law_net_here","_law_table","_law_cell"]
end L2
namespace HN
open PySem L2 PyProof.Rows
theorem om {b:Bool}{A:Prop}(h:b=true)(x:A):if b=true then A else B:=by rw [rJ h];exact x
theorem iq {b:Bool}{A:Prop}(h:b=false)(x:B):if b=true then A else B:=by rw [rG (by rw [h];exact aR)];exact x
structure Nm (mg:Str→Option ae):Prop where
 isin:mg "isinstance" =none
 tint:mg "int" =none
 tbool:mg "bool" =none
 ttup:mg "tuple" =none
 len:mg "len" =none
 min:mg "min" =none
 all:mg "all" =none
structure Fn (K:aq)(mg:Str→Option ae)(x:Str)(st:cU)(ps:List Str)(f:ao)(fd:bq):Prop where
 F:Fun K x x st f fd
 mg:mg x=some (.ref f)
 b:Binds K fd ps []
theorem pc1 {k:Nat}{sp:Sp}{p:Pos}(G:Fn X.K X.mg x st ps f fd)(F:cW X.prog X.w X.K X.mg X.base CX0 k f fd ps sp)(hr:Room k X.A)
  (ha:PA X (e::es) t) (hg:Gl X x:=by rfl) (hdb:(x == ("__debug__" :Str))=false:=by decide) (he:bD (e::es) X.env=(false,eP e X.env)::bD es X.env:=by rfl) (hpl:(gF pos (bD es X.env)).any (·.1)=false:=by rfl) :
  PE X (.Call (.Name x p) (e::es) [] pos) (tCall sp [] E0 t):=pe_call F hr hg G.mg G.F.kp G.b .nil pass0 ha hdb he hpl
theorem pe_gint {i:Int}(hm:∃ t,X.mg x=some (.int i t))(hg:Gl X x:=by rfl)(hd:(x == ("__debug__" :Str))=false:=by decide):PE X (.Name x pos) (tC (.int i)) :=
 let ⟨t,e⟩:=hm;pe_glob (v:= .int i) (u:= .int i t) hg e ⟨t,rfl⟩ hd
theorem jZ {p:Pos}(N:Nm X.mg)(he:PE X e te)(hg:Gl X "isinstance" := by rfl)(hg2:Gl X "tuple" := by rfl)
  (hs1:bD [e,.Name "tuple" p2] X.env=(false,eP e X.env)::bD [.Name "tuple" p2] X.env:=by rfl) (hpl:(gF pos (bD [.Name "tuple" p2] X.env)).any (·.1)=false:=by rfl) :
  PE X (.Call (.Name "isinstance" p) [e,.Name "tuple" p2] [] pos) (tCB (fun xs H Q=>∃ x T,xs=[x,.ty "tuple"]∧tyn H x=some T∧Q (.bl (T == "tuple")) H) (pf te (pf (tC (.ty "tuple")) tNil))) :=
 cy call_isTup hg N.isin boot_isinstance (ag he (ag (pe_bltn hg2 N.ttup jJ rfl) aC) hs1) (he:=hs1) (hpl:=hpl)
theorem pe_isInt {p:Pos}(N:Nm X.mg)(he:PE X e te)(hg:Gl X "isinstance" := by rfl)(hg2:Gl X "int" := by rfl)
  (hs1:bD [e,.Name "int" p2] X.env=(false,eP e X.env)::bD [.Name "int" p2] X.env:=by rfl) (hpl:(gF pos (bD [.Name "int" p2] X.env)).any (·.1)=false:=by rfl) :
  PE X (.Call (.Name "isinstance" p) [e,.Name "int" p2] [] pos) (tCB (fun xs H Q=>∃ x T,xs=[x,.ty "int"]∧tyn H x=some T∧Q (.bl (T == "int" || T == "bool")) H) (pf te (pf (tC (.ty "int")) tNil))) :=
 cy call_isInt hg N.isin boot_isinstance (ag he (ag (pe_bltn hg2 N.tint boot_int rfl) aC) hs1) (he:=hs1) (hpl:=hpl)
theorem pe_isBool {p:Pos}(N:Nm X.mg)(he:PE X e te)(hg:Gl X "isinstance" := by rfl)(hg2:Gl X "bool" := by rfl)
  (hs1:bD [e,.Name "bool" p2] X.env=(false,eP e X.env)::bD [.Name "bool" p2] X.env:=by rfl) (hpl:(gF pos (bD [.Name "bool" p2] X.env)).any (·.1)=false:=by rfl) :
  PE X (.Call (.Name "isinstance" p) [e,.Name "bool" p2] [] pos) (tCB (fun xs H Q=>∃ x T,xs=[x,.ty "bool"]∧tyn H x=some T∧Q (.bl (T == "bool")) H) (pf te (pf (tC (.ty "bool")) tNil))) :=
 cy call_isBool hg N.isin boot_isinstance (ag he (ag (pe_bltn hg2 N.tbool boot_bool rfl) aC) hs1) (he:=hs1) (hpl:=hpl)
structure Sn where
 s:Int
 g:Int
 l:Int
 o:Int
 w:Int
abbrev Sn.row (x:Sn):List Int:=[x.s,x.g,x.l,x.o,x.w]
abbrev kg (b m:Int)(sp:List Sn):Dt:= .tup [.int b,.int m,.tup (sp.map fun x=> .tup (x.row.map Dt.int))]
theorem fe {m:Int}{sp:List Sn}(h:IsD H v (kg b m sp)):∃ t p ys,v= .ref t∧H t=some (.tup [.int b,.int m,.ref p])∧H p=some (.tup ys)∧ys.length=sp.length∧∀ (i:Nat) (x:Sn),sp[i]? =some x→∃ q,ys[i]? =some (.ref q)∧H q=some (.tup [.int x.s,.int x.g,.int x.l,.int x.o,.int x.w]):=by
 obtain ⟨t,xs,rfl,ht,rx⟩:=h.tup_of;cases rx with
 | cons h0 r0 =>
  cases r0 with
  | cons h1 r1 =>
   cases r1 with
   | cons h2 r2 =>
    cases r2;cases h0;cases h1;obtain ⟨p,ys,rfl,hp,ry⟩:=h2.tup_of;refine ⟨t,p,ys,rfl,ht,hp,by rw [ry.length,aa],fun i x hx=>?_⟩;obtain ⟨y,hy,dy⟩:=ry.at (i:=i) (d:= .tup (x.row.map Dt.int)) (by rw [ax,hx];rfl);obtain ⟨q,zs,rfl,hq,rz⟩:=dy.tup_of;have ez:=rz.ints_of;subst ez;exact ⟨q,hy,hq⟩
def tm (ts:List Int)(i:Int):Int:=ts.getD i.toNat 0
theorem tm_at {i:Int}(h0:0≤i)(h1:i<ts.length):atI (ts.map V.int) i=some (.int (tm ts i)):=by
 obtain ⟨j,rfl⟩:=cM h0;refine az ?_;rw [ax,gE (by lia)];unfold tm;rw [cL,ai,gE (by lia)];rfl
structure Rdy (b:Int)(ts:List Int)(sp:List Sn):Prop where
 b1:0<b
 few:sp.length≤1000
 ends:∀ x∈sp,0≤x.s∧x.s<ts.length∧0≤x.g∧x.g<ts.length
def gi (b:Int)(ts:List Int)(x:Sn):Int:=(tm ts x.g - tm ts x.s - x.l) % b
def jB (b:Int)(ts:List Int)(sp:List Sn):List Int:=sp.map (gi b ts)
def brk (b:Int)(ts:List Int)(x:Sn):Bool:=decide (x.o - x.l<gi b ts x)
def jG (b:Int)(ts:List Int)(sp:List Sn):Bool:= !(sp.any (brk b ts))
def fJ (b:Int)(ts:List Int)(sp:List Sn):Int:=(sp.map fun x=>x.w * gi b ts x).sum
theorem dW (h:n≤1000):n≤bp:=bh h (by decide)
structure Nt (mg:Str→Option ae):Prop where
 range:mg "range" =none
 enum:mg "enumerate" =none
 zip:mg "zip" =none
 sum:mg "sum" =none
 tlist:mg "list" =none
 max:mg "max" =none
structure SnOk (b m:Int)(x:Sn):Prop where
 s0:0≤x.s
 s1:x.s<m
 g0:0≤x.g
 g1:x.g<m
 ne:x.s≠x.g
 l0:0≤x.l
 lo:x.l≤x.o
 ob:x.o<x.l+b
 o60:x.o<10 ^ 60
 w0:0≤x.w
 w1:x.w≤1000000000000
structure NetT (b m:Int)(sp:List Sn):Prop where
 b1:1≤b
 b2:b≤10 ^ 59
 m1:1≤m
 m2:m≤16
 few:sp.length≤40
 all:∀ x∈sp,SnOk b m x
theorem NetT.rdy {m:Int}{sp:List Sn}(h:NetT b m sp)(ht:(ts.length:Int)=m):Rdy b ts sp :=
 ⟨by have:=h.b1;lia,by have:=h.few;lia,fun x hx=>by have:=h.all x hx;exact ⟨this.s0,by have:=this.s1;lia,this.g0,by have:=this.g1;lia⟩⟩
theorem NetT.ws {m:Int}{sp:List Sn}(h:NetT b m sp):∀ x∈sp,0≤x.w∧x.w≤1000000000000:=fun x hx=>⟨(h.all x hx).w0,(h.all x hx).w1⟩
theorem rest_two (x y l b:Int):(x % b - y % b - l) % b=(x - y - l) % b:=by
 have hx:=gq x b;have hy:=gq y b;have e:x - y - l=(x % b - y % b - l)+b * (x / b - y / b):=by rw [Int.mul_sub];lia
 rw [e,Int.add_mul_emod_self_left]
inductive spRest (vs:List V)(H:Hp)(Q:VK)(_:XK):Prop
 | mk (b n:_)(_:vs=[.int b,.int n])(_:0<b)(_:Q (.int (n % b)) H)
inductive spWidth (vs:List V)(H:Hp)(Q:VK)(_:XK):Prop
 | mk (v b m sp i x:_)(_:vs=[v,.int (i:Nat)])(_:IsD H v (kg b m sp))(_:sp[i]? =some x)(_:Q (.int (x.o - x.l)) H)
inductive spWaitIn (vs:List V)(H:Hp)(Q:VK)(_:XK):Prop
 | mk (v u b m sp ts i x:_)(_:vs=[v,.ref u,.int (i:Nat)])(_:IsD H v (kg b m sp))(_:H u=some (.tup (ts.map V.int)))(_:Rdy b ts sp)(_:sp[i]? =some x)(_:Q (.int (gi b ts x)) H)
inductive spWaits (vs:List V)(H:Hp)(Q:VK)(_:XK):Prop
 | mk (v u b m sp ts:_)(_:vs=[v,.ref u])(_:IsD H v (kg b m sp))(_:H u=some (.tup (ts.map V.int)))(_:Rdy b ts sp)(_:∀ p H',Same H H'→H' p=some (.tup ((jB b ts sp).map V.int))→Q (.ref p) H')
inductive spFits (vs:List V)(H:Hp)(Q:VK)(_:XK):Prop
 | mk (v u b m sp ts:_)(_:vs=[v,.ref u])(_:IsD H v (kg b m sp))(_:H u=some (.tup (ts.map V.int)))(_:Rdy b ts sp)(_:∀ H',Same H H'→Q (.bl (jG b ts sp)) H')
inductive kT (vs:List V)(H:Hp)(Q:VK)(_:XK):Prop
 | mk (v u b m sp ts:_)(_:vs=[v,.ref u])(_:IsD H v (kg b m sp))(_:H u=some (.tup (ts.map V.int)))(_:Rdy b ts sp)(_:(∀ x∈sp,0≤x.w∧x.w≤1000000000000))(_:∀ H',Same H H'→Q (.int (fJ b ts sp)) H')
inductive spCell (K:aq)(vs:List V)(H:Hp)(Q:VK)(_:XK):Prop
 | mk (a:ao)(ns:List Int)(k:Int)(_:vs=[.ref a,.int k])(_:SqL K H a (ns.map V.int))(_:0≤k)(_:∀ c:Int,Q (.int c) H)
theorem rp {xs:List α}{r:Int}(h0:0≤r)(h1:r<xs.length):∃ v,atI xs r=some v∧v∈xs:=by
 obtain ⟨j,rfl⟩:=cM h0;have hj:j<xs.length:=by lia
 exact ⟨xs[j],az (gE hj),bt hj⟩
theorem log_ok {m:Int}(h0:0<m)(h:m<10 ^ 61):0<m∧m.natAbs.log2<9000:=by
 refine ⟨h0,?_⟩;have h1:m.natAbs<2 ^ 300:=by
  have:(10:Nat) ^ 61<2 ^ 300:=by trivial
  have h2:m.natAbs<10 ^ 61:=by lia
  exact jN h2 this
 have h3:m.natAbs≠0:=by lia
 have:=(Nat.log2_lt h3).mpr h1;lia
theorem goal_ok {s t m:Int}(h0:0≤s)(h1:s<m)(h2:0≤t)(h3:t<m - 1):0≤(s+1+t) % m∧(s+1+t) % m<m∧s≠(s+1+t) % m:=by
 have hm:0<m:=by lia
 have a:=cS (s+1+t) (by lia:m≠0);have b:=cB (s+1+t) hm;refine ⟨a,b,?_⟩
 by_cases q:s+1+t<m
 ·rw [Int.emod_eq_of_lt (by lia) q];lia
 ·have e:(s+1+t) % m=(s+1+t - m) % m:=(Int.sub_emod_right _ _).symm
  rw [e,Int.emod_eq_of_lt (by lia) (by lia)];lia
abbrev rowsP {α:Type}(f:α→List Int)(xs:List α):Dt:= .tup (xs.map fun x=> .tup ((f x).map Dt.int))
theorem iG {f:α→List Int}{xs:List α}(r:IsDs H ys (xs.map fun x=> .tup ((f x).map Dt.int))){x:α}(hx:xs[i]? =some x):∃ q,ys[i]? =some (.ref q)∧H q=some (.tup ((f x).map V.int)):=by
 obtain ⟨y,hy,dy⟩:=r.at (i:=i) (d:= .tup ((f x).map Dt.int)) (by rw [ax,hx];rfl);obtain ⟨q,zs,rfl,hq,rz⟩:=dy.tup_of;have ez:=rz.ints_of;subst ez;exact ⟨q,hy,hq⟩
theorem ib {f:α→List Int}{xs:List α}(h:IsD H v (rowsP f xs)):∃ p ys,v= .ref p∧H p=some (.tup ys)∧ys.length=xs.length∧IsDs H ys (xs.map fun x=> .tup ((f x).map Dt.int)):=by
 obtain ⟨p,ys,rfl,hp,ry⟩:=h.tup_of;exact ⟨p,ys,rfl,hp,by rw [ry.length,aa],ry⟩
structure Stp where
 i:Nat
 d:Int
abbrev Stp.row (s:Stp):List Int:=[(s.i:Int),s.d]
abbrev mf (ws:List Stp):Dt:=rowsP Stp.row ws
abbrev bndR (p:Int×Int):List Int:=[p.1,p.2]
abbrev bndP (bs:List (Int×Int)):Dt:=rowsP bndR bs
def frm (x:Sn)(d:Int):Int:=if d=1 then x.s else x.g
def too (x:Sn)(d:Int):Int:=if d=1 then x.g else x.s
def qM (n:Nat)(ws:List Stp):Prop:=∀ s∈ws,s.i<n∧(s.d=1∨s.d= -1)
def lH (sp:List Sn)(s:Stp):Int:=match sp[s.i]? with | some x=>frm x s.d | none=>0
def fF (sp:List Sn)(s:Stp):Int:=match sp[s.i]? with | some x=>too x s.d | none=>0
def oE (bs:List (Int×Int))(s:Stp):Int:=match bs[s.i]? with | some p=>if s.d=1 then p.1 else -p.2 | none=>0
def ko (bs:List (Int×Int))(s:Stp):Int:=match bs[s.i]? with | some p=>if s.d=1 then p.2 else -p.1 | none=>0
def eU (bs:List (Int×Int))(ws:List Stp):Int:=(ws.map (oE bs)).sum
def gC (bs:List (Int×Int))(ws:List Stp):Int:=(ws.map (ko bs)).sum
theorem atI_last {xs:List α}{x:α}(h:xs[xs.length - 1]? =some x):atI xs (-1)=some x:=by
 have hl:xs.length - 1<xs.length:=(ak.mp h).1;unfold atI ixN;rw [rG (by decide),rJ (by lia)];show xs[(-1+(xs.length:Int)).toNat]? =some x;rw [show (-1+(xs.length:Int)).toNat=xs.length - 1 by lia];exact h
inductive spFrom (vs:List V)(H:Hp)(Q:VK)(_:XK):Prop
 | mk (v:V)(q:ao)(b m:Int)(sp:List Sn)(s:Stp)(x:Sn)(_:vs=[v,.ref q])(_:IsD H v (kg b m sp))(_:H q=some (.tup (s.row.map V.int)))(_:sp[s.i]? =some x)(_:Q (.int (frm x s.d)) H)
inductive spTo (vs:List V)(H:Hp)(Q:VK)(_:XK):Prop
 | mk (v:V)(q:ao)(b m:Int)(sp:List Sn)(s:Stp)(x:Sn)(_:vs=[v,.ref q])(_:IsD H v (kg b m sp))(_:H q=some (.tup (s.row.map V.int)))(_:sp[s.i]? =some x)(_:Q (.int (too x s.d)) H)
inductive spFirst (vs:List V)(H:Hp)(Q:VK)(_:XK):Prop
 | mk (v:V)(b m:Int)(sp:List Sn)(_:vs=[v])(_:IsD H v (kg b m sp))(_:sp.length≤1000)(_:∀ u H',Same H H'→IsD H' u (bndP (sp.map fun x=>(x.l,x.o)))→Q u H')
inductive spSum (vs:List V)(H:Hp)(Q:VK)(_:XK):Prop
 | mk (vb vw:V)(bs:List (Int×Int))(ws:List Stp)(_:vs=[vb,vw])(_:IsD H vb (bndP bs))(_:IsD H vw (mf ws))(_:qM bs.length ws)(_:∀ p H',Same H H'→H' p=some (.tup [.int (eU bs ws),.int (gC bs ws)])→Q (.ref p) H')
inductive mU (vs:List V)(H:Hp)(Q:VK)(_:XK):Prop
 | mk (i:_)(_:vs=[.int i])(_:Q (.bl true) H)
abbrev eJ {α:Type}(f:α→List Int)(xs:List α):List Dt:=xs.map fun x=> .tup ((f x).map Dt.int)
structure N3 (mg:Str→Option ae):Prop where
 tset:mg "set" =none
def oB (ss:List Stp):List Int:=ss.map fun s=>(s.i:Int)
theorem numsS_take {ss:List Stp}(h:i<ss.length):oB (ss.take (i+1))=oB (ss.take i)++[(ss[i].i:Int)]:=by
 unfold oB;rw [bf,gE h,aB];rfl
def TupK (H H':Hp):Prop:=∀ q xs,H q=some (.tup xs)→H' q=some (.tup xs)
theorem TupK.trans (a:TupK H H1)(b:TupK H1 H2):TupK H H2:=fun q xs h=>b q xs (a q xs h)
theorem Same.tupK (e:Same H H'):TupK H H':=fun _ _ h=>e _ _ h
theorem fI {p:ao}(hp:H p=some (.lst xs)):TupK H (upd H p o):=fun q ys h=>by rw [bC (eV h hp nofun)];exact h
theorem fG {α:Type}{f:α→List Int}{H H':Hp}(e:TupK H H'):∀ {xs:List α} {zs:List V},IsDs H zs (eJ f xs)→IsDs H' zs (eJ f xs)
 | [],_,h=>by cases h;exact .nil
 | x::xs,zs,h=>by
  unfold eJ at h ⊢;rw [cw] at h ⊢;cases h with
  | cons h1 h2 =>
   obtain ⟨q,ws,rfl,hq,rw'⟩:=h1.tup_of;have e2:=rw'.ints_of;subst e2;exact .cons (.tup (e q _ hq) (IsDs.ints _)) (fG e h2)
def BsU (bs:List (Int×Int)):Prop:=∀ q∈bs,0≤q.1∧q.1≤q.2∧q.2<10 ^ 60
def upB (b s:Int):Int:= -(-s / b)
inductive pE (vs:List V)(H:Hp)(Q:VK)(_:XK):Prop
 | mk (vn vb vw:V)(b m:Int)(sp:List Sn)(bs:List (Int×Int))(ws:List Stp)(_:vs=[vn,vb,vw])(_:IsD H vn (kg b m sp))(_:0<b)(_:b<10 ^ 61)(_:IsD H vb (bndP bs))(_:IsD H vw (mf ws))(_:qM bs.length ws)(_:∀ p H',Same H H'→H' p=some (.tup [.int (upB b (eU bs ws)),.int (gC bs ws / b)])→Q (.ref p) H')
inductive Lf where
 | ring (ws:List Stp)
 | price (rows:List (Int×List Stp))
abbrev rowD (r:Int×List Stp):Dt:= .tup [.int r.1,mf r.2]
def leafP:Lf→Dt
 | .ring ws=> .tup [.str "ring",mf ws]
 | .price rows=> .tup [.str "price",.tup (rows.map rowD)]
def jH (b:Int)(bs:List (Int×Int))(ws:List Stp):Bool:=decide (upB b (eU bs ws) > gC bs ws / b)
def sureB (b:Int)(bs:List (Int×Int))(ws:List Stp):Bool:=decide (upB b (eU bs ws)=gC bs ws / b)
inductive spDead (vs:List V)(H:Hp)(Q:VK)(_:XK):Prop
 | mk (vn vb vw:V)(b m:Int)(sp:List Sn)(bs:List (Int×Int))(ws:List Stp)(_:vs=[vn,vb,vw])(_:IsD H vn (kg b m sp))(_:0<b)(_:b<10 ^ 61)(_:IsD H vb (bndP bs))(_:IsD H vw (mf ws))(_:qM bs.length ws)(_:∀ H',Same H H'→Q (.bl (jH b bs ws)) H')
inductive spSure (vs:List V)(H:Hp)(Q:VK)(_:XK):Prop
 | mk (vn vb vw:V)(b m:Int)(sp:List Sn)(bs:List (Int×Int))(ws:List Stp)(_:vs=[vn,vb,vw])(_:IsD H vn (kg b m sp))(_:0<b)(_:b<10 ^ 61)(_:IsD H vb (bndP bs))(_:IsD H vw (mf ws))(_:qM bs.length ws)(_:∀ H',Same H H'→Q (.bl (sureB b bs ws)) H')
theorem IsDs.takeN {H:Hp}:∀ {xs:List V} {ds:List Dt} (n:Nat),IsDs H xs ds→IsDs H (xs.take n) (ds.take n)
 | _,_,0,_=> .nil
 | _,_,_+1,.nil=> .nil
 | _,_,n+1,.cons h r=> .cons h (IsDs.takeN n r)
theorem IsDs.dropN {H:Hp}:∀ {xs:List V} {ds:List Dt} (n:Nat),IsDs H xs ds→IsDs H (xs.drop n) (ds.drop n)
 | _,_,0,h=>h
 | _,_,_+1,.nil=> .nil
 | _,_,n+1,.cons _ r=>IsDs.dropN n r
def Along (sp:List Sn):Int→List Stp→Int→Prop
 | x,[],y=>x=y
 | x,s::ws,y=>lH sp s=x∧Along sp (fF sp s) ws y
theorem Along.append {sp:List Sn}:∀ {us:List Stp} {x y z:Int} {vs:List Stp},Along sp x us y→Along sp y vs z→Along sp x (us++vs) z
 | [],_,_,_,_,h,k=>by cases h;exact k
 | _::us,_,_,_,_,h,k=>⟨h.1,Along.append (us:=us) h.2 k⟩
theorem mE {sp:List Sn}(h:j<sp.length):lH sp ⟨j,d⟩=frm sp[j] d:=by
 unfold lH;show (match sp[j]? with | some x=>frm x d | none=>0)=_;rw [gE h]
theorem kO {sp:List Sn}(h:j<sp.length):fF sp ⟨j,d⟩=too sp[j] d:=by
 unfold fF;show (match sp[j]? with | some x=>too x d | none=>0)=_;rw [gE h]
theorem ends_of_span {sp:List Sn}{st:Stp}(h:j<sp.length)(e:st.i=j)(hs:st.d=1∨st.d= -1)(hd:d=1∨d= -1):fF sp st=fF sp ⟨j,d⟩∨lH sp st=fF sp ⟨j,d⟩:=by
 obtain ⟨i,dd⟩:=st;have e:i=j:=e;subst e;have hs:dd=1∨dd= -1:=hs;rw [kO h,kO h,mE h];unfold too frm
 rcases hs with rfl | rfl <;> rcases hd with rfl | rfl <;> simp
structure Bk (sp:List Sn)(be ou:Int)(x:Int)(ws:List Stp):Prop where
 inn:qM sp.length ws
 alo:Along sp be ws x
 one:(ws.map Stp.i).Nodup
 out:∀ s∈ws,(s.i:Int)≠ou
structure Rg (sp:List Sn)(ws:List Stp):Prop where
 inn:qM sp.length ws
 two:2≤ws.length
 few:ws.length≤17
 one:(ws.map Stp.i).Nodup
 rnd:∃ x,Along sp x ws x
theorem Bk.ring {sp:List Sn}{k:Nat}{ws:List Stp}(hk:k<sp.length)(hne:sp[k].s≠sp[k].g)(h:Bk sp sp[k].g (k:Nat) sp[k].s ws)(hl:ws.length≤16):Rg sp (⟨k,1⟩::ws):=by
 refine ⟨fun s hs=>?_,?_,by rw [aZ];lia,?_,sp[k].s,?_,?_⟩
 ·rcases aG.mp hs with rfl | hs
  ·exact ⟨hk,.inl rfl⟩
  ·exact h.inn s hs
 ·cases ws with
  | nil=>exact rL h.alo.symm hne
  | cons a r=>rw [aZ,aZ];lia
 ·rw [cw,bJ]
  refine ⟨fun z=>?_,h.one⟩;obtain ⟨st,hst,e⟩:=bc.mp z;exact h.out st hst (by rw [e])
 ·rw [mE hk];rfl
 ·rw [kO hk];exact h.alo
inductive spWithB (vs:List V)(H:Hp)(Q:VK)(_:XK):Prop
 | mk (vb:V)(k:Nat)(lo hi:Int)(bs:List (Int×Int))(_:vs=[vb,.int (k:Nat),.int lo,.int hi])(_:IsD H vb (bndP bs))(_:k<bs.length)(_:bs.length≤40)(_:∀ u H',Same H H'→IsD H' u (bndP (bs.set k (lo,hi)))→Q u H')
inductive Tq where
 | leaf (d:Dt)
 | cut (k:Nat) (a:Int) (x y:Tq)
def jk:Tq→Dt
 | .leaf d=>d
 | .cut k a x y=> .tup [.str "cut",.int (k:Nat),.int a,jk x,jk y]
def lG (bs:List (Int×Int))(k:Nat)(a:Int):List (Int×Int):=bs.set k ((bs.getD k (0,0)).1,a)
def fk (bs:List (Int×Int))(k:Nat)(a:Int):List (Int×Int):=bs.set k (a+1,(bs.getD k (0,0)).2)
theorem one_len (bs:List (Int×Int))(k:Nat)(a:Int):(lG bs k a).length=bs.length:=by unfold lG;rw [ft]
theorem p6 (bs:List (Int×Int))(k:Nat)(a:Int):(fk bs k a).length=bs.length:=by unfold fk;rw [ft]
theorem getD_all (ns:List Int):((aQ ns.length).map fun i=>ns.getD i 0)=ns:=by
 refine jT (by rw [aa,br]) fun i h1 h2=>?_
 rw [gZ,hV,ai,gE h2];rfl
theorem met_eq (ns:List Int):metL ns=ns.foldl step_dedup []:=by
 unfold metL firstMet;rw [getD_all]
theorem fold_new:∀ (ns acc:List Int),ns.Nodup→(∀ x∈ns,x ∉ acc)→ns.foldl step_dedup acc=acc++ns
 | [],acc,_,_=>by simp
 | x::ns,acc,hn,h=>by
  obtain ⟨h1,h2⟩:=bJ.mp hn;have e:step_dedup acc x=acc++[x]:=by
   unfold step_dedup;have:¬ (acc.any (· == x))=true:=by
    intro z;obtain ⟨y,hy,e⟩:=List.any_eq_true.mp z;have e:y=x:=by simpa using e
    exact h x (by simp) (e ▸ hy)
   rw [rG this]
  rw [bK,e,fold_new ns (acc++[x]) h2 fun y hy z=>?_]
  ·simp
  ·rcases aN.mp z with z | z
   ·exact h y (ay _ hy) z
   ·rw [aw.mp z] at hy;exact h1 hy
theorem met_nodup (h:ns.Nodup):(metL ns).length=ns.length:=by
 rw [met_eq,fold_new ns [] h (fun _ _ z=>rL z (by simp)),List.nil_append]
end HN
variable {S:List HN.Stp}{c:List (Int×List HN.Stp)×List Int}{rg' rs:List (Nat×List HN.Stp)}{rows:List (Int×List HN.Stp)}{sp:List HN.Sn}
namespace L2
open PySem PyProof.Rows HN
mutual
theorem IsD.keepP {H H':Hp}(e:TupK H H'):∀ {v:V} {d:Dt},IsD H v d→pl d=true→IsD H' v d
 | _,_,.non,_=> .non
 | _,_,.bl b,_=> .bl b
 | _,_,.int i,_=> .int i
 | _,_,.str x,_=> .str x
 | _,_,.tup h r,p=> .tup (e _ _ h) (IsDs.keepP e r (by unfold pl at p;exact p))
 | _,_,.lst h,p=>by unfold pl at p;cases p
 | _,_,.dct h,p=>by unfold pl at p;cases p
theorem IsDs.keepP {H H':Hp}(e:TupK H H'):∀ {xs:List V} {ds:List Dt},IsDs H xs ds→pls ds=true→IsDs H' xs ds
 | _,_,.nil,_=> .nil
 | _,_,.cons h r,p=>by
  unfold pls at p;rw [dM] at p;exact .cons (IsD.keepP e h p.1) (IsDs.keepP e r p.2)
end
end L2
namespace HN
open PySem L2 PyProof.Rows
theorem k3 {α:Type}{f:α→Dt}:∀ (xs:List α),(∀ x∈xs,pl (f x)=true)→pls (xs.map f)=true
 | [],_=>by show pls []=true;unfold pls;rfl
 | x::xs,h=>by
  show pls (f x::xs.map f)=true;unfold pls;rw [h x (by simp),k3 xs fun y hy=>h y (ay _ hy)];rfl
theorem pl_ints (ns:List Int):pl (.tup (ns.map Dt.int))=true:=by
 unfold pl;exact k3 ns fun x _=>by unfold pl;rfl
theorem mq (f:α→List Int)(xs:List α):pl (rowsP f xs)=true:=by
 unfold rowsP;unfold pl;exact k3 xs fun x _=>pl_ints (f x)
def RowOk (b:Int)(sp:List Sn)(bs:List (Int×Int))(r:Int×List Stp):Prop:=Rg sp r.2∧sureB b bs r.2=true∧ -1000000000000≤r.1∧r.1≤1000000000000
def LfOk (b:Int)(sp:List Sn)(bs:List (Int×Int)):Lf→Prop
 | .ring ws=>Rg sp ws∧jH b bs ws=true
 | .price rows=>rows.length≤40∧∀ r∈rows,RowOk b sp bs r
theorem cO {m:Int}(e:TupK H H')(h:IsD H v (kg b m sp)):IsD H' v (kg b m sp):=by
 obtain ⟨t,xs,rfl,ht,rx⟩:=h.tup_of;cases rx with
 | cons h0 r0 =>
  cases r0 with
  | cons h1 r1 =>
   cases r1 with
   | cons h2 r2 =>
    cases r2;cases h0;cases h1;obtain ⟨p,ys,rfl,hp,ry⟩:=h2.tup_of;exact .tup (e _ _ ht) (.cons (.int _) (.cons (.int _) (.cons (.tup (e _ _ hp) (fG (f:=Sn.row) (xs:=sp) e ry)) .nil)))
inductive spWaitsN (vs:List V)(H:Hp)(Q:VK)(_:XK):Prop
 | mk (v:V)(u:ao)(b m:Int)(sp:List Sn)(ts:List Int)(_:vs=[v,.ref u])(_:IsD H v (kg b m sp))(_:H u=some (.tup (ts.map V.int)))(_:Rdy b ts sp)(_:∀ p H',Same H H'→H' p=some (.lst ((jB b ts sp).map V.int))→Q (.ref p) H')
def sideS (k:Int)(x:Sn):Sn:=⟨x.s+k,x.g+k,x.l,x.o,x.w⟩
theorem Rdy.side {k:Int}{t1 t2:List Int}{sp1 sp2:List Sn}(hk:(t1.length:Int)=k)(R1:Rdy b t1 sp1)(R2:Rdy b t2 sp2)(few:sp1.length+sp2.length≤1000):Rdy b (t1++t2) (sp1++sp2.map (sideS k)) :=
 ⟨R1.b1,by rw [av,aa];exact few,fun x hx=>by
  rw [av]
  rcases aN.mp hx with hx | hx
  ·obtain ⟨s0,s1,g0,g1⟩:=R1.ends x hx
   exact ⟨s0,by lia,g0,by lia⟩
  ·obtain ⟨y,hy,rfl⟩:=bc.mp hx
   obtain ⟨s0,s1,g0,g1⟩:=R2.ends y hy;show 0≤y.s+k∧y.s+k<((t1.length+t2.length:Nat):Int)∧0≤y.g+k∧y.g+k<((t1.length+t2.length:Nat):Int);lia⟩
structure Sides (b m1 m2:Int)(sp1 sp2:List Sn):Prop where
 N1:NetT b m1 sp1
 N2:NetT b m2 sp2
 m:m1+m2≤16
 few:sp1.length+sp2.length≤40
def TabsL (H:Hp)(b m:Int)(us:List V):Prop:=∀ u∈us,∃ (q:ao) (ts:List Int),u= .ref q∧H q=some (.tup (ts.map V.int))∧(ts.length:Int)=m
theorem TabsL.same {m:Int}{us:List V}(h:TabsL H b m us)(e:Same H H'):TabsL H' b m us:=fun u hu=>let ⟨q,ts,a,c,d⟩:=h u hu;⟨q,ts,a,e _ _ c,d⟩
def strS (n:Int)(x:Sn):Sn:=⟨x.s,x.g,x.l * n,x.o * n,x.w⟩
def strT (n:Int)(ts:List Int):List Int:=ts.map fun t=>t * n
theorem strT_len (n:Int)(ts:List Int):(strT n ts).length=ts.length:=by unfold strT;rw [aa]
theorem Rdy.str {n:Int}(R:Rdy b ts sp)(hn:0<n):Rdy (b * n) (strT n ts) (sp.map (strS n)) :=
 ⟨Int.mul_pos R.b1 hn,by rw [aa];exact R.few,fun x hx=>by
  obtain ⟨y,hy,rfl⟩:=bc.mp hx;rw [strT_len];exact R.ends y hy⟩
end HN
namespace L2
open PySem PySem.W PyProof.Rows
def Gd {α:Type}(lt:Nat→Nat→Bool)(n:Nat):KasT α→(α→Prop)→Prop
 | .ret a,P=>P a
 | .ask i j k,P=>i<n∧j<n∧Gd lt n (k (lt i j)) P
theorem Gd.mono {α:Type}{lt:Nat→Nat→Bool}{n:Nat}{P R:α→Prop}(h:∀ a,P a→R a):∀ {t:KasT α},Gd lt n t P→Gd lt n t R
 | .ret a,g=>h a g
 | .ask _ _ _,g=>⟨g.1,g.2.1,Gd.mono h g.2.2⟩
theorem Gd.bind {α β:Type}{lt:Nat→Nat→Bool}{n:Nat}{f:α→KasT β}{P:β→Prop}:∀ {t:KasT α},Gd lt n t (fun a=>Gd lt n (f a) P)→Gd lt n (t.bind f) P
 | .ret _,g=>g
 | .ask _ _ _,g=>⟨g.1,g.2.1,Gd.bind g.2.2⟩
theorem Gd.wp {α:Type}{lt:Nat→Nat→Bool}{n:Nat}{P:α→Prop}{cmp:Nat→Nat→(Bool→au→Prop)→au→Prop}{Q:α→au→Prop}{s:au}(hc:∀ i j C,i<n→j<n→C (lt i j) s→cmp i j C s)(hq:∀ a,P a→Q a s):∀ {t:KasT α},Gd lt n t P→t.kasWp cmp Q s
 | .ret a,g=>hq a g
 | .ask i j k,g=>hc i j _ g.1 g.2.1 (Gd.wp hc hq g.2.2)
structure Ord (lt:Nat→Nat→Bool)(n:Nat):Prop where
 tot:∀ i j,i<n→j<n→i≠j→lt i j=false→lt j i=true
 tr:∀ i j k,lt i j=true→lt j k=true→lt i k=true
abbrev gA (p:Array Nat)(i:Nat):Nat:=p.getD i 0
abbrev Pm (n:Nat)(p:Array Nat):Prop:=p.toList.Perm (aQ n)
theorem lX:gA p i=p[i]?.getD 0:=by
 show p.getD i 0=_;rw [Array.getD_eq_getD_getElem?]
theorem Pm.size (h:Pm n p):p.size=n:=by
 have:=h.length_eq;rw [br,cq] at this;exact this
theorem Pm.lt (h:Pm n p)(hi:i<n):gA p i<n:=by
 have hs:i<p.size:=by rw [h.size];exact hi
 have e:gA p i=p[i]:=by rw [lX,eh hs];rfl
 rw [e];have:p[i]∈p.toList:=by simp
 exact bO.mp (h.mem_iff.mp this)
theorem Pm.ne (h:Pm n p)(hij:i<j)(hj:j<n):gA p i≠gA p j:=by
 have hd:p.toList.Nodup:=h.nodup_iff.mpr iN;have si:i<p.toList.length:=by rw [cq,h.size];lia
 have sj:j<p.toList.length:=by rw [cq,h.size];lia
 have ei:gA p i=p.toList[i]:=by rw [lX,eh (by rw [h.size];lia)];simp
 have ej:gA p j=p.toList[j]:=by rw [lX,eh (by rw [h.size];lia)];simp
 rw [ei,ej];exact List.pairwise_iff_getElem.mp (bM.mp hd) i j si sj hij
theorem Pm.of {q:Array Nat}(h:Pm n p)(e:q.Perm p):Pm n q:=(Array.perm_iff_toList_perm.mp e).trans h
def SoA (lt:Nat→Nat→Bool)(p:Array Nat)(m:Nat):Prop:=∀ i j,i<j→j<m→lt (gA p i) (gA p j)=true
def DeA (lt:Nat→Nat→Bool)(p:Array Nat)(m:Nat):Prop:=∀ i j,i<j→j<m→lt (gA p j) (gA p i)=true
section
variable {lt:Nat→Nat→Bool}
theorem SoA.more (O:Ord lt n)(h:SoA lt p m)(h1:lt (gA p (m - 1)) (gA p m)=true):SoA lt p (m+1):=fun i j hij hj=>by
 by_cases e:j<m
 ·exact h i j hij e
 ·have ej:j=m:=by lia
  rw [ej]
  by_cases ei:i=m - 1
  ·rw [ei];exact h1
  ·exact O.tr _ _ _ (h i (m - 1) (by lia) (by lia)) h1
theorem DeA.more (O:Ord lt n)(h:DeA lt p m)(h1:lt (gA p m) (gA p (m - 1))=true):DeA lt p (m+1):=fun i j hij hj=>by
 by_cases e:j<m
 ·exact h i j hij e
 ·have ej:j=m:=by lia
  rw [ej]
  by_cases ei:i=m - 1
  ·rw [ei];exact h1
  ·exact O.tr _ _ _ h1 (h i (m - 1) (by lia) (by lia))
theorem asc_ok (O:Ord lt n){p:Array Nat}(hp:Pm n p):∀ (f m:Nat),1≤m→m+f=n→SoA lt p m→Gd lt n (kas_asc p f m) (fun r=>m≤r∧r≤n∧SoA lt p r∧(r<n→lt (gA p r) (gA p (r - 1))=true))
 | 0,m,_,h1,hs=>⟨aE _,by lia,hs,fun z=>rL z (by lia)⟩
 | f+1,m,h0,h1,hs=>by
  refine ⟨hp.lt (by lia),hp.lt (by lia),?_⟩;cases c:lt (gA p m) (gA p (m - 1)) with
  | true =>
   exact ⟨aE _,by lia,hs,fun _=>c⟩
  | false =>
   have h2:=O.tot _ _ (hp.lt (by lia)) (hp.lt (by lia)) (hp.ne (by lia:m - 1<m) (by lia)).symm c;refine (asc_ok O hp f (m+1) (by lia) (by lia) (hs.more O h2)).mono fun r ⟨a,b,cc,d⟩=>⟨by lia,b,cc,d⟩
theorem desc_ok (O:Ord lt n){p:Array Nat}(hp:Pm n p):∀ (f m:Nat),1≤m→m+f=n→DeA lt p m→Gd lt n (kas_desc f p m 0) (fun r=>r.1=p∧r.2.2=0∧m≤r.2.1∧r.2.1≤n∧DeA lt p r.2.1)
 | 0,m,_,h1,hs=>⟨rfl,rfl,aE _,by show m≤n;lia,hs⟩
 | f+1,m,h0,h1,hs=>by
  refine ⟨hp.lt (by lia),hp.lt (by lia),?_⟩;cases c:lt (gA p m) (gA p (m - 1)) with
  | true =>
   refine (desc_ok O hp f (m+1) (by lia) (by lia) (hs.more O c)).mono fun r ⟨a,b,cc,d,e⟩=>⟨a,b,by lia,d,e⟩
  | false =>
   have h2:=O.tot _ _ (hp.lt (by lia)) (hp.lt (by lia)) (hp.ne (by lia:m - 1<m) (by lia)).symm c;refine ⟨hp.lt (by lia),hp.lt (by lia),?_⟩;show Gd lt n (if (lt (gA p (m - 1)) (gA p m))=true then KasT.ret (p,m,0) else kas_desc f p (m+1) (0+1)) _;rw [rJ h2];exact ⟨rfl,rfl,aE _,by show m≤n;lia,hs⟩
theorem rev_ok (hp:Pm n p)(hm:m≤n):Pm n (kas_rev p 0 m):=hp.of (mirror_perm _ _ _ _)
theorem rev_so (hp:Pm n p)(hm:m≤n)(h:DeA lt p m):SoA lt (kas_rev p 0 m) m:=fun i j hij hj=>by
 have e:∀ k,k<m→gA (kas_rev p 0 m) k=gA p (m - 1 - k):=fun k hk=>by
  rw [lX,lX];have:=getElem?_mirror_all (xs:=p) (i:=0) (j:=m) (by rw [hp.size];exact hm) k;unfold kas_rev;rw [this,rJ ⟨bG _,hk⟩];congr 2;lia
 rw [e i (by lia),e j hj];exact h _ _ (by lia) (by lia)
theorem tail_ok (O:Ord lt n)(hp:Pm n p)(h1:1≤m)(hm:m≤n)(h:DeA lt p m):Gd lt n (kas_tail3 m n p) (fun r=>Pm n r.2∧1≤r.1∧r.1≤n∧SoA lt r.2 r.1):=by
 unfold kas_tail3;refine Gd.bind ((asc_ok O (rev_ok hp hm) (n - m) m h1 (by lia) (rev_so hp hm h)).mono fun r ⟨a,b,c,_⟩=>?_);exact ⟨rev_ok hp hm,by show 1≤r;lia,b,c⟩
theorem count_ok (O:Ord lt n)(h1:1≤n)(hp:Pm n p):Gd lt n (kas_count n p) (fun r=>Pm n r.2∧1≤r.1∧r.1≤n∧SoA lt r.2 r.1):=by
 unfold kas_count;refine Gd.bind ((asc_ok O hp (n - 1) 1 (aE _) (by lia) (fun i j a b=>rL a (by lia))).mono fun r ⟨a,b,c,d⟩=>?_)
 by_cases e:r=n
 ·rw [rJ (by rw [e];exact beq_self_eq_true n)]
  exact ⟨hp,a,b,c⟩
 ·rw [rG (by rw [beq_iff_eq];exact e)]
  by_cases e2:r > 1
  ·rw [rJ e2]
   refine ⟨hp.lt (by lia),hp.lt (by lia),?_⟩;show Gd lt n (if (lt (gA p 0) (gA p (r - 1)))=true then KasT.ret (r,p) else _) _;rw [rJ (c 0 (r - 1) (by lia) (by lia))];exact ⟨hp,a,b,c⟩
  ·rw [rG e2]
   have er:r=1:=by lia
   subst er;have hn:1<n:=by lia
   have dd:=d hn;unfold kas_descPart;refine Gd.bind ((desc_ok O hp (n - (1+1)) (1+1) (by lia) (by lia) (fun i j x y=>by
    have ei:i=0:=by lia
    have ej:j=1:=by lia
    rw [ei,ej];exact dd)).mono fun q ⟨q1,q2,q3,q4,q5⟩=>?_)
   rw [rG (by rw [q2];lia),q1];exact tail_ok O hp (by lia) q4 q5
theorem place_ok (O:Ord lt n){p:Array Nat}(hp:Pm n p){k:Nat}(hk:k<n)(hs:SoA lt p k):∀ (f l r:Nat),l≤r→r≤k→r - l≤f→(∀ i,i<l→lt (gA p i) (gA p k)=true)→(∀ i,r≤i→i<k→lt (gA p k) (gA p i)=true)→Gd lt n (kas_place p k f l r) (fun m=>m≤k∧(∀ i,i<m→lt (gA p i) (gA p k)=true)∧∀ i,m≤i→i<k→lt (gA p k) (gA p i)=true)
 | 0,l,r,h1,h2,h3,a,b=>⟨by lia,a,fun i x y=>b i (by lia) y⟩
 | f+1,l,r,h1,h2,h3,a,b=>by
  show Gd lt n (if l ≥ r then KasT.ret l else KasT.ask (gA p k) (gA p ((l+r) / 2)) fun c=>if c=true then kas_place p k f l ((l+r) / 2) else kas_place p k f ((l+r) / 2+1) r) _
  by_cases e:l ≥ r
  ·rw [rJ e]
   exact ⟨by lia,a,fun i x y=>b i (by lia) y⟩
  ·rw [rG e]
   refine ⟨hp.lt hk,hp.lt (by lia),?_⟩;cases c:lt (gA p k) (gA p ((l+r) / 2)) with
   | true =>
    refine place_ok O hp hk hs f l ((l+r) / 2) (by lia) (by lia) (by lia) a fun i x y=>?_
    by_cases ei:i=(l+r) / 2
    ·rw [ei];exact c
    ·exact O.tr _ _ _ c (hs _ _ (by lia) y)
   | false =>
    have h5:=O.tot _ _ (hp.lt hk) (hp.lt (by lia)) (hp.ne (by lia:(l+r) / 2<k) hk).symm c;refine place_ok O hp hk hs f ((l+r) / 2+1) r (by lia) h2 (by lia) (fun i x=>?_) b
    by_cases ei:i=(l+r) / 2
    ·rw [ei];exact h5
    ·exact O.tr _ _ _ (hs i _ (by lia:i<(l+r) / 2) (by lia)) h5
theorem bub_so (O:Ord lt n)(hp:Pm n p){k:Nat}(hk:k<n)(hm:m≤k)(hs:SoA lt p k)(a:∀ i,i<m→lt (gA p i) (gA p k)=true)(b:∀ i,m≤i→i<k→lt (gA p k) (gA p i)=true):SoA lt (bubble p k (k - m)) (k+1):=fun i j hij hj=>by
 have e:∀ x,gA (bubble p k (k - m)) x=if x=m then gA p k else if m<x∧x≤k then gA p (x - 1) else gA p x:=fun x=>by
  have:=getElem?_bubble (xs:=p) (src:=k) (by rw [hp.size];exact hk) (k - m) (by lia) x;have e0:k - (k - m)=m:=by lia
  rw [e0] at this;rw [lX,this]
  by_cases h1:x=m
  ·rw [rJ h1,rJ h1,lX]
  ·rw [rG h1,rG h1]
   by_cases h2:m<x∧x≤k
   ·rw [rJ h2,rJ h2,lX]
   ·rw [rG h2,rG h2,lX]
 rw [e i,e j]
 by_cases i1:i=m
 ·rw [rJ i1,rG (by lia),rJ (by lia)]
  exact b _ (by lia) (by lia)
 ·rw [rG i1]
  by_cases i2:m<i∧i≤k
  ·rw [rJ i2,rG (by lia),rJ (by lia)]
   exact hs _ _ (by lia) (by lia)
  ·rw [rG i2]
   by_cases j1:j=m
   ·rw [rJ j1];exact a _ (by lia)
   ·rw [rG j1]
    by_cases j2:m<j∧j≤k
    ·rw [rJ j2];exact hs _ _ (by lia) (by lia)
    ·rw [rG j2];exact hs _ _ hij (by lia)
theorem bin_ok (O:Ord lt n):∀ (f:Nat) (p:Array Nat) (k:Nat),k+f=n→Pm n p→SoA lt p k→Gd lt n (kas_bin f p k) (fun q=>Pm n q∧SoA lt q n)
 | 0,p,k,h1,hp,hs=>by
  have e:k=n:=by lia
  rw [e] at hs;exact ⟨hp,hs⟩
 | f+1,p,k,h1,hp,hs=>by
  show Gd lt n ((kas_place p k k 0 k).bind fun l=>kas_bin f (bubble p k (k - l)) (k+1)) _;refine Gd.bind ((place_ok O hp (by lia) hs k 0 k (bG _) (aE _) (by lia) (fun i x=>rL x (by lia)) (fun i x y=>rL x (by lia))).mono fun m ⟨m1,m2,m3⟩=>?_);exact bin_ok O f _ (k+1) (by lia) (hp.of (bubble_perm _ _ _)) (bub_so O hp (by lia) m1 hs m2 m3)
theorem sort_ok (O:Ord lt n)(h1:1≤n):Gd lt n (kas_sort n) (fun q=>Pm n q∧SoA lt q n):=by
 unfold kas_sort;refine Gd.bind ((count_ok O h1 (p:=(aQ n).toArray) (by show (aQ n).toArray.toList.Perm _;rw [fm])).mono fun r ⟨a,b,c,d⟩=>?_)
 by_cases e:r.1<n
 ·rw [rJ e]
  have em:max r.1 1=r.1:=by lia
  rw [em];exact bin_ok O _ _ _ (by lia) a d
 ·rw [rG e]
  have er:r.1=n:=by lia
  rw [er] at d;exact ⟨a,d⟩
end
theorem pG {out:Array ae}{b:ao}{u:Obj}(hb:b≠a)(e:h.get? b=some u):(sortedHeap h a vs out).get? b=some u:=by
 unfold sortedHeap;rw [gY _ _ _ _ hb];exact ar _ (ar _ (by rw [gY _ _ _ _ hb];exact e))
theorem sortedHeap_at {out:Array ae}(e:h.get? a=some (bT "list" vs.toArray n)):∃ c,(sortedHeap h a vs out).get? a=some (bT "list" out c):=by
 unfold sortedHeap;exact ⟨_,gQ (ar _ (ar _ (gQ e fun _=> #[]))) fun _=>out⟩
def preAll (h:bP)(vs:List ae):bP:=((h.push (bT "list" #[] 0)).update h.objs.size (cV (· ++ vs.toArray))).push (bT "list" vs.toArray 0)
theorem preAll_keep {b:ao}{u:Obj}(e:h.get? b=some u):(preAll h vs).get? b=some u:=by
 have hb:=aO e;exact ar _ (by rw [gY _ _ _ _ (bQ hb)];exact ar _ e)
theorem preAll_at:(preAll h vs).get? (h.objs.size+1)=some (bT "list" vs.toArray 0):=by
 have hsz:((h.push (bT "list" #[] 0)).update h.objs.size (cV (· ++ vs.toArray))).objs.size=h.objs.size+1:=by
  rw [bP.size_update,size_push']
 unfold preAll;rw [←hsz];exact bg _ rfl
theorem call_sortedI:CallR X (.builtin "sorted") (fun xs H Q=>∃ (p:ao) (ns:List Int),xs=[.ref p]∧SqL X.K H p (ns.map V.int)∧ns.length<64∧∀ (l:ao) (ns':List Int),H l=none→ns'.Perm ns→ns'.Pairwise (· ≤ ·)→Q (.ref l) (upd H l (.lst (ns'.map V.int)))):=by
 intro aP s σ H xs us Q I r h;obtain ⟨p,ns,rfl,hq,hn,q⟩:=h;obtain ⟨u,rfl,ru⟩:=nR r;cases (show u=ae.ref p from ru);obtain ⟨its,rv,pl,hz⟩:=I.list hq;have hl:its.length=ns.length:=by rw [←rv.length,aa]
 refine sorted_ints pl.isList (ny rv) (by lia) fun out ns' a1 a2 a3=>?_
 obtain ⟨c,hc⟩:=sortedHeap_at (h:=preAll s.heap its) (vs:=its) (out:=out) preAll_at;refine ⟨.ref (s.heap.objs.size+1),_,I.laid (o:= .lst (ns'.map V.int)) (t':=s.toks) (fun b u e=>pG (bQ (iD (aO e))) (preAll_keep e)) (Nat.le_succ _) ⟨?_,out.toList,c,o8 a1,?_⟩,rfl,q _ ns' (I.hok.fresh (Nat.le_succ _)) a2 a3⟩
 ·rw [aa,a2.length_eq];exact bh (by lia:ns.length≤1000) (by decide)
 ·rw [Array.toArray_toList];exact hc
def kA (h:bP)(a:ao)(vs:List ae):bP:=((h.update a (cV fun _=>(#[]:Array ae))).push (bT "tuple" vs.toArray 0)).push (bT "list" #[] 0)
theorem mid_keep {b:ao}{u:Obj}(hb:b≠a)(e:h.get? b=some u):(kA h a vs).get? b=some u :=
 ar _ (ar _ (by rw [gY _ _ _ _ hb];exact e))
def ltP (k m:Int×Int):Bool:=if (k.1 == m.1)=true then (if (k.2 == m.2)=true then false else decide (k.2<m.2)) else decide (k.1<m.1)
theorem qd {k m:Int×Int}:ltP k m=true↔(k.1<m.1∨(k.1=m.1∧k.2<m.2)):=by
 unfold ltP
 by_cases h1:k.1=m.1
 ·rw [rJ (by rw [beq_iff_eq];exact h1)]
  by_cases h2:k.2=m.2
  ·rw [rJ (by rw [beq_iff_eq];exact h2)]
   constructor
   ·intro h;cases h
   ·intro h;lia
  ·rw [rG (by rw [beq_iff_eq];exact h2),decide_eq_true_eq]
   lia
 ·rw [rG (by rw [beq_iff_eq];exact h1),decide_eq_true_eq]
  lia
abbrev kyP (ks:List (Int×Int))(i:Nat):Int×Int:=ks.getD i (0,0)
theorem kyP_at (h:i<ks.length):kyP ks i=ks[i]:=by
 show ks.getD i (0,0)=_;rw [ai,gE h];rfl
theorem ord_of (h:ks.Nodup):Ord (fun i j=>ltP (kyP ks i) (kyP ks j)) ks.length:=by
 refine ⟨fun i j hi hj hne hf=>?_,fun i j k h1 h2=>?_⟩
 ·show ltP (kyP ks j) (kyP ks i)=true
  have hn:kyP ks i≠kyP ks j:=by
   rw [kyP_at hi,kyP_at hj];intro e;exact hne ((List.getElem_inj h).mp e)
  have hf:¬ ltP (kyP ks i) (kyP ks j)=true:=by
   show ¬ ltP (kyP ks i) (kyP ks j)=true;rw [show ltP (kyP ks i) (kyP ks j)=false from hf];decide
  rw [qd] at hf ⊢;have:¬ ((kyP ks i).1=(kyP ks j).1∧(kyP ks i).2=(kyP ks j).2):=fun z=>hn (Prod.ext z.1 z.2)
  lia
 ·have h1:ltP (kyP ks i) (kyP ks j)=true:=h1
  have h2:ltP (kyP ks j) (kyP ks k)=true:=h2;show ltP (kyP ks i) (kyP ks k)=true;rw [qd] at h1 h2 ⊢;lia
def PrsAt (h:bP)(vs:List ae)(ks:List (Int×Int)):Prop:=vs.length=ks.length∧∀ (i:Nat) (v:ae) (k:Int×Int),vs[i]? =some v→ks[i]? =some k→∃ a o t u n,v= .ref a∧h.get? a=some o∧o.cls= .type "tuple" ∧o.data= .seq #[.int k.1 t,.int k.2 u] n
theorem prs_tups {h:bP}:∀ {vs:List ae} {ks:List (Int×Int)},PrsAt h vs ks→∃ fs:List ae,KatTups h vs fs∧fs.length=vs.length∧∀ f∈fs,∃ i t,f=ae.int i t
 | [],[],_=>⟨[],trivial,rfl,fun f hf=>rL hf (by simp)⟩
 | [],_::_,p=>rL p.1 (by simp)
 | _::_,[],p=>rL p.1 (by simp)
 | v::vs,k::ks,p=>by
  obtain ⟨fs,t1,t2,t3⟩:=prs_tups (vs:=vs) (ks:=ks) ⟨by have:=p.1;simp only [aZ] at this;lia,fun i v' k' e1 e2=>p.2 (i+1) v' k' (by simpa using e1) (by simpa using e2)⟩;obtain ⟨a,o,t,u,n,rfl,q2,q3,q4⟩:=p.2 0 v k rfl rfl;refine ⟨.int k.1 t::fs,KatTups.cons q2 q3 q4 rfl t1,by rw [aZ,aZ,t2],fun f hf=>?_⟩
  rcases aG.mp hf with rfl | hf
  ·exact ⟨_,_,rfl⟩
  ·exact t3 f hf
theorem prs_kind (p:PrsAt s.heap vs ks)(h1:1≤vs.length){Q:SortKind→au→Prop}(q:Q (tuples' true) s):aW (bx prog w) A (keyKind' vs.toArray) Q E s:=by
 obtain ⟨fs,t1,t2,t3⟩:=prs_tups p;have e1:((ae.type "int" :ae) == ae.type "int")=true:=by trivial
 have e2:((ae.type "int" :ae) != ae.type "tuple")=true:=by trivial
 refine kat_kind (T:= .type "int") t1 (by lia) (fun v hv=>?_) e1 (by rw [e2];exact q);obtain ⟨i,t,rfl⟩:=t3 v hv;exact Looks.of_pure rfl
theorem prs_ask (p:PrsAt s.heap vs ks)(hi:i<vs.length)(hj:j<vs.length){C:Bool→au→Prop}(c:C (ltP (kyP ks i) (kyP ks j)) s):kas_ask prog w A (tuples' true) vs i j C s:=by
 have li:=p.1;obtain ⟨a,o,t,u,n,e1,q2,q3,q4⟩:=p.2 i vs[i] ks[i] (gE hi) (gE (by lia));obtain ⟨a',o',t',u',n',e1',q2',q3',q4'⟩:=p.2 j vs[j] ks[j] (gE hj) (gE (by lia));unfold kas_ask;have ei:vs.getD i ae.none= .ref a:=by rw [ai,gE hi];exact e1
 have ej:vs.getD j ae.none= .ref a':=by rw [ai,gE hj];exact e1'
 rw [ei,ej];rw [kyP_at (by lia),kyP_at (by lia)] at c;refine kat_lt q2 q4 q2' q4' ?_;refine kat_cons (wpAny_eqBool_int ?_);unfold ltP at c
 by_cases h1:(ks[i].1 == ks[j].1)=true
 ·rw [rJ h1] at c
  rw [h1];refine kat_yes (kat_cons (wpAny_eqBool_int ?_))
  by_cases h2:(ks[i].2 == ks[j].2)=true
  ·rw [rJ h2] at c
   rw [h2];exact kat_yes (kat_nil c)
  ·rw [rG h2] at c
   rw [iC.mpr h2];exact kat_no (kat_one _ _ (lt_int (Q:=PySem.W.BoolBack C) c))
 ·rw [rG h1] at c
  rw [iC.mpr h1];exact kat_no (oneLt_int c)
def qw (h:bP)(kS a:ao)(out:List ae):bP:=(h.update kS (cV fun _=>(#[]:Array ae))).update a (cV fun _=>out.toArray)
theorem key_tail {st:SortSt}{out ks:List ae}{e:Nat}{P:PySem.Fin→au→Prop}(hout:(arrOf st).map (·.2)=jr out)(hz:out.length<64)(hkz:ks.length<64)(hf:failedOf st=none)
  (hk:s.heap.get? kS=some (bT "list" ks.toArray e)) (ha:s.heap.get? a=some (bT "list" #[] e1)) (hne:kS≠a)
  (h:P (.done (.ret .none)) { s with heap:=qw s.heap kS a out }):aW (bx prog w) A (ksk_tail a false e1 (.ref kS) st) P E s:=by
 have na:(s.heap.update kS (cV fun _=>(#[]:Array ae))).get? a=some (bT "list" #[] e1):=by
  rw [gY _ _ _ _ (cN hne)];exact ha
 unfold ksk_tail
 try dsimp only
 rw [hout];refine ah (listUpdate_at hk rfl ?_ (by rw [aJ,gn];lia) (bG _));refine ah (ky ?_);refine ah (seqEpoch_at na rfl ?_);refine ah (listUpdate_at na rfl ?_ (bG _) (by show (if false=true then _ else out.toArray).size≤_;rw [rG (by decide),aJ,gn];lia));rw [hf];simp only [bne_self_eq_false,Bool.false_eq_true,if_false];exact aL h
theorem key_end {ks:List ae}{e:Nat}{κ:SortKind}{lt:Nat→Nat→Bool}{P:PySem.Fin→au→Prop}(hl:ks.length=vs.length)(h2:2≤vs.length)(h64:vs.length<64)(O:Ord lt vs.length)
  (hk:s.heap.get? kS=some (bT "list" ks.toArray e)) (ha:s.heap.get? a=some (bT "list" #[] e1)) (hne:kS≠a)
  (hkk:∀ Q:SortKind→au→Prop,Q κ s→aW (bx prog w) A (keyKind' ks.toArray) Q (fun _ _=>False) s)
  (hc:∀ i j C,i<vs.length→j<vs.length→C (lt i j) s→kas_ask prog w A κ ks i j C s)
  (h:∀ p:Array Nat,Pm vs.length p→SoA lt p vs.length→P (.done (.ret .none)) { s with heap:=qw s.heap kS a (p.toList.map fun i=>vs.getD i ae.none) }) :
  aW (bx prog w) A (ksk_end a false vs.toArray e1 (.ref kS) ks.toArray) P E s:=by
 have hn2:¬ vs.toArray.size<2:=by rw [aJ];lia
 unfold ksk_end
 try dsimp only
 rw [rG (by decide),rG hn2,rG hn2,rG (by decide)];refine ah (cx (hkk (fun κ' s'=>κ'=κ∧s'=s) ⟨rfl,rfl⟩) (fun κ' s0 z=>?_) fun _ _ x=>x.elim);obtain ⟨z1,z2⟩:=z;subst z1;subst z2;have G:=(sort_ok O (by lia)).wp (cmp:=kas_ask prog w A κ' ks) (s:=s0) (Q:=fun p s'=>s'=s0∧Pm vs.length p∧SoA lt p vs.length) hc (fun p hp=>⟨rfl,hp.1,hp.2⟩);refine ah (cx (kat_run (Q:=fun st' s'=>∃ p:Array Nat,p.size=vs.length∧arrOf st'=p.map (kas_item (ks.toArray.zip vs.toArray))∧failedOf st'=none∧s'=s0∧Pm vs.length p∧SoA lt p vs.length) hl h2 h64 (fun p' st' s' a1 a2 a3 a4=>⟨p',a1,a2,a3,a4.1,a4.2.1,a4.2.2⟩) G) ?_ fun _ _ e=>e);rintro ⟨⟨⟩,st'⟩ s' ⟨p,hp,har,hf,rfl,pm,so⟩
 try dsimp only
 exact key_tail (kat_snds hl har) (by rw [aa,cq,hp];exact h64) (by lia) hf hk ha hne (h p pm so)
theorem key_fold {f:ae}{kS:ao}{body:ae→PUnit→Sem (ForInStep PUnit)}(J:List ae→au→Prop)(vs:List ae)(h64:vs.length<64)
  (hb:∀ x ks e (t:au),ks.length<64→t.heap.get? kS=some (bT "list" ks.toArray e) →
   aW (bx prog w) A (call f [x]) (fun k t'=>t'.heap.get? kS=some (bT "list" ks.toArray e)∧∀ h' c,d9 kS t'.heap h'→h'.get? kS=some (bT "list" (ks++[k]).toArray c)→J (ks++[k]) { t' with heap:=h' }) (fun _ _=>False) t →
   aW (bx prog w) A (body x ⟨⟩) (fun r t'=>r= .yield ⟨⟩∧∃ k c,t'.heap.get? kS=some (bT "list" (ks++[k]).toArray c)∧J (ks++[k]) t') E t)
  (hc:∀ ks x e (t:au),vs[ks.length]? =some x→J ks t→t.heap.get? kS=some (bT "list" ks.toArray e) →
   aW (bx prog w) A (call f [x]) (fun k t'=>t'.heap.get? kS=some (bT "list" ks.toArray e)∧∀ h' c,d9 kS t'.heap h'→h'.get? kS=some (bT "list" (ks++[k]).toArray c)→J (ks++[k]) { t' with heap:=h' }) (fun _ _=>False) t) :
  ∀ (r ks:List ae) (e:Nat) (t:au),vs=vs.take ks.length++r→ks.length+r.length=vs.length→t.heap.get? kS=some (bT "list" ks.toArray e)→J ks t →
   aW (bx prog w) A (forIn r PUnit.unit body) (fun _ t'=>∃ ks e,t'.heap.get? kS=some (bT "list" ks.toArray e)∧ks.length=vs.length∧J ks t') E t
 | [],ks,e,t,_,hl,hk,j=>by
  rw [List.forIn_nil];exact aL ⟨ks,e,hk,by simpa using hl,j⟩
 | x::r,ks,e,t,hv,hl,hk,j=>by
  rw [aZ] at hl;rw [List.forIn_cons];have hx:vs[ks.length]? =some x:=by
   rw [hv,cf (by rw [bL];lia),bL,show ks.length - min ks.length vs.length=0 by lia];rfl
  refine ah (cx (hb x ks e t (by lia) hk (hc ks x e t hx j hk)) (fun q t' hq=>?_) fun _ _ z=>z);obtain ⟨rfl,k,c,hk',j'⟩:=hq;show aW (bx prog w) A (forIn r PUnit.unit body) _ E t';refine key_fold J vs h64 hb hc r (ks++[k]) c t' ?_ (by rw [av,iw];lia) hk' j';rw [av,iw,bf,hx]
  simpa using hv
theorem key_rest {f:ae}{P:PySem.Fin→au→Prop}(J:List ae→au→Prop)(h64:vs.length<64)(hk:s.heap.get? kS=some (bT "list" #[] 0))(j0:J [] s)
  (hc:∀ ks x e (t:au),vs[ks.length]? =some x→J ks t→t.heap.get? kS=some (bT "list" ks.toArray e) →
   aW (bx prog w) A (call f [x]) (fun k t'=>t'.heap.get? kS=some (bT "list" ks.toArray e)∧∀ h' c,d9 kS t'.heap h'→h'.get? kS=some (bT "list" (ks++[k]).toArray c)→J (ks++[k]) { t' with heap:=h' }) (fun _ _=>False) t)
  (h:∀ ks e (t:au),ks.length=vs.length→J ks t→t.heap.get? kS=some (bT "list" ks.toArray e)→aW (bx prog w) A (ksk_end a false vs.toArray e1 (.ref kS) ks.toArray) P E t) :
  aW (bx prog w) A (ksk_rest a f false vs.toArray e1 (.ref kS)) P E s:=by
 unfold ksk_rest;refine ah (wpAny_rule ?_)
 first
  | rw [List.forIn_toArray]
  | (rw [←Array.forIn_toList];simp only [fm])
  | rw [←Array.forIn_toList]
 refine ah (cx (key_fold J vs h64 (fun x ks e t hz ht hx=>?_) hc vs [] 0 s (by simp) (by simp) hk j0) (fun _ t hd=>?_) fun _ _ z=>z)
 ·refine ah (wpAny_attempt (cx hx (fun k t' hk=>?_) fun _ _ hF=>hF.elim))
  obtain ⟨k1,k2⟩:=hk;have s1:=gz t'.heap kS (cV (·.push k));have ea:(jr ks).push k=jr (ks++[k]):=by simp
  obtain ⟨c2,hc2⟩:∃ c2,(t'.heap.update kS (cV (·.push k))).get? kS=some (bT "list" (jr (ks++[k])) c2):=⟨_,by rw [←ea];exact gQ k1 (·.push k)⟩
  try dsimp only
  refine ah (listUpdate_at k1 rfl ?_ (by rw [aJ,gn];lia) (bh (Nat.le_of_eq (Array.size_push ..)) (by rw [aJ,gn];lia)));exact aL ⟨rfl,k,c2,hc2,k2 _ c2 s1 hc2⟩
 ·obtain ⟨ks,e,hk',hl,j⟩:=hd
  try dsimp only
  refine ah (listItems_at hk' rfl ?_);exact h ks e t hl j hk'
theorem collect_range {r:ao}{a c:Int}{t u v:Tok}{Q:List ae→au→Prop}(hh:A.handled=none)(hr:IsRange s.heap r a b c t u v)(hsmall:iu a b c=true)(hn:eG a b c=n)(hlen:n≤2 ^ 24)
  (h:∀ h' tk acc,(∀ b o,s.heap.get? b=some o→h'.get? b=some o)→s.heap.objs.size<h'.objs.size→ItemsOf (fun i v=>∃ t,v= .int (a+i * c) t) acc n→Q acc.toList { s with heap:=h',toks:=tk }) :
  aW (bx prog w) A (collect (.ref r)) Q E s:=by
 unfold collect;refine ah (wpAny_runValue (kK entry_proto_collect' ?_));show aW _ _ (do again (.builtin "list.__iadd__" ⟨[←newList [],.ref r],[]⟩)) _ _ s;refine ah (wpAny_newList (aL ⟨Code.quiet_builtin _ (by trivial),kK entry_list_iadd' ?_⟩));have key:=wpAny_extend_range (prog:=prog) (w:=w) (A:=A) (s:={ s with heap:=s.heap.push (bT "list" #[] 0) }) (R:=fun r s'=>match r with
   | .ok (.ret v)=>aW (bx prog w) A (match v with
    | .ref a=>do
     let o ← load a
     match o.data with
     | .seq xs _=>fM xs.toList
     | _=>unsupported "internal:collect"
    | _=>unsupported "internal:collect") Q E s'
   | .ok _=>False
   | .error e=>E e s') hh (ar _ hr) hsmall hn hlen s.heap.objs.size (.ref s.heap.objs.size) 0 (bg _ rfl) (fun h' tk acc c' hk hS hacc=>by
  show aW (bx prog w) A (do
    let o ← load s.heap.objs.size
    match o.data with
    | .seq xs _=>fM xs.toList
    | _=>unsupported "internal:collect") Q E { s with heap:=h',toks:=tk }
  refine ah (wpAny_load hS ?_);exact aL (h h' tk acc (fun b o e=>hk b o (bQ (aO e)) (ar _ e)) (aO hS) hacc))
 exact key
def KeyDo (prog:aY)(w:bE)(B:bZ)(f:ae)(vs:List ae)(kS D:ao)(e1:Nat)(Q:au→Prop)(s1:au):Prop :=
 ∃ J:List ae→au→Prop,J [] s1 ∧
  (∀ ks x e (t:au),vs[ks.length]? =some x→J ks t→t.heap.get? kS=some (bT "list" ks.toArray e) →
   aW (bx prog w) B (call f [x]) (fun k t'=>t'.heap.get? kS=some (bT "list" ks.toArray e)∧∀ h' c,d9 kS t'.heap h'→h'.get? kS=some (bT "list" (ks++[k]).toArray c)→J (ks++[k]) { t' with heap:=h' }) (fun _ _=>False) t) ∧
  ∀ ks (t:au),ks.length=vs.length→J ks t→t.heap.get? D=some (bT "list" #[] e1)∧∃ κ lt,Ord lt vs.length ∧
   (2≤vs.length→∀ Q:SortKind→au→Prop,Q κ t→aW (bx prog w) B (keyKind' ks.toArray) Q (fun _ _=>False) t) ∧
   (∀ i j C,i<vs.length→j<vs.length→C (lt i j) t→kas_ask prog w B κ ks i j C t) ∧
   ∀ p:Array Nat,Pm vs.length p→SoA lt p vs.length→Q { t with heap:=qw t.heap kS D (p.toList.map fun i=>vs.getD i ae.none) }
theorem zip_snd:∀ (ks vs:List ae),ks.length=vs.length→(ks.zip vs).map (·.2)=vs
 | [],[],_=>rfl
 | [],_::_,h=>by cases h
 | _::_,[],h=>by cases h
 | _::ks,v::vs,h=>by
  show v::(ks.zip vs).map (·.2)=v::vs;rw [zip_snd ks vs (by simpa using h)]
theorem key_end_few {ks:List ae}{e:Nat}{P:PySem.Fin→au→Prop}(hl:ks.length=vs.length)(h2:vs.length<2)
  (hk:s.heap.get? kS=some (bT "list" ks.toArray e)) (ha:s.heap.get? a=some (bT "list" #[] e1)) (hne:kS≠a)
  (h:P (.done (.ret .none)) { s with heap:=qw s.heap kS a vs }) :
  aW (bx prog w) A (ksk_end a false vs.toArray e1 (.ref kS) ks.toArray) P E s:=by
 have hn2:vs.toArray.size<2:=by rw [aJ];lia
 unfold ksk_end
 try dsimp only
 rw [rG (by decide),rJ hn2,rJ hn2,rG (by decide)];refine ah (aL ?_);rw [StateT.run_pure];refine ah (aL ?_)
 try dsimp only
 refine key_tail (out:=vs) ?_ (by lia) (by lia) rfl hk ha hne h;show (ks.toArray.zip vs.toArray).map (·.2)=vs.toArray
 apply Array.toList_inj.mp
 rw [Array.toList_map,Array.toList_zip];exact zip_snd ks vs hl
theorem range_getD (vs:List ae):((aQ vs.length).map fun i=>vs.getD i ae.none)=vs:=by
 refine List.ext_getElem? fun i=>?_
 rw [ax]
 by_cases hi:i<vs.length
 ·rw [gX hi]
  show some (vs.getD i ae.none)=_;rw [ai,gE hi];rfl
 ·rw [List.getElem?_eq_none (by rw [br];lia),List.getElem?_eq_none (by lia)];rfl
theorem key_tree {q:ao}{P:PySem.Fin→au→Prop}(ho:s.heap.get? a=some (bT "list" vs.toArray n))(h64:vs.length<64)
  (h:∀ e1,(kA s.heap a vs).get? a=some (bT "list" #[] e1)→(kA s.heap a vs).get? (s.heap.objs.size+1)=some (bT "list" #[] 0)→KeyDo prog w A (.ref q) vs (s.heap.objs.size+1) a e1 (fun t=>P (.done (.ret .none)) t) { s with heap:=kA s.heap a vs }) :
  aW (bx prog w) A (ksk_tree a (.ref q) false) P E s:=by
 obtain ⟨e1,ho1⟩:∃ e1,(s.heap.update a (cV fun _=>(#[]:Array ae))).get? a=some (bT "list" #[] e1):=⟨_,gQ ho fun _=> #[]⟩;have ha:a<s.heap.objs.size:=aO ho;have ho6:(kA s.heap a vs).get? a=some (bT "list" #[] e1):=ar _ (ar _ ho1);have hkS:((s.heap.update a (cV fun _=>(#[]:Array ae))).push (bT "tuple" vs.toArray 0)).objs.size=s.heap.objs.size+1:=by rw [size_push',bP.size_update]
 have hk0:(kA s.heap a vs).get? (s.heap.objs.size+1)=some (bT "list" #[] 0):=by
  unfold kA;rw [←hkS];exact bg _ rfl
 obtain ⟨J,j0,jc,je⟩:=h e1 ho6 hk0;unfold ksk_tree;refine ah (listItems_at ho rfl ?_);refine ah (listUpdate_at ho rfl ?_ (by rw [aJ,gn];lia) (bG _));refine ah (seqEpoch_at ho1 rfl ?_);refine ah (wpAny_newTuple ?_ (by show vs.length≤_;rw [gn];lia));refine ah (wpAny_newList ?_ (bG _));refine dQ ?_;show aW (bx prog w) A (ksk_rest a (.ref q) false vs.toArray e1 (.ref ((s.heap.update a (cV fun _=>(#[]:Array ae))).push (bT "tuple" vs.toArray 0)).objs.size)) P E { s with heap:=kA s.heap a vs };rw [hkS];refine key_rest J h64 hk0 j0 jc fun ks e t hl j hk=>?_
 obtain ⟨ha',κ,lt,O,hkk,hc,hP⟩:=je ks t hl j
 by_cases h2:vs.length<2
 ·have hh:=hP (aQ vs.length).toArray (by show (aQ vs.length).toArray.toList.Perm _;rw [fm]) (fun i j x y=>rL y (by lia))
  rw [fm,range_getD] at hh;exact key_end_few hl h2 hk ha' (dv (iD ha)) hh
 ·exact key_end hl (by lia) h64 O hk ha' (dv (iD ha)) (hkk (by lia)) hc hP
theorem sorted_keyR {r q:ao}{a c:Int}{t u v:Tok}(hh:A.handled=none)(hr:IsRange s.heap r a b c t u v)(hsmall:iu a b c=true)(hn:eG a b c=n)(h64:n<64)
  (h:∀ (vs:List ae) (h1:bP) (tk:Nat) (D kS:ao) (e1:Nat),vs.length=n→(∀ (i:Nat) x,vs[i]? =some x→∃ t,x= .int (a+i * c) t)→(∀ b o,s.heap.get? b=some o→h1.get? b=some o)→s.heap.objs.size≤D→D<kS→h1.get? D=some (bT "list" #[] e1)→h1.get? kS=some (bT "list" #[] 0) →
   KeyDo prog w A.in1.in1 (.ref q) vs kS D e1 (fun t'=>Q (.ref D) t') { s with heap:=h1,toks:=tk }) :
  aW (bx prog w) A (call (.builtin "sorted") [.ref r] [(df "key",.ref q)]) Q E s:=by
 refine call_function_entry_kw kind_sorted plain_sorted entry_sorted (ksk_s1 _ _) ?_;unfold fX.«sorted»;refine ah (m:=checkCount "sorted" 1 1 _) (aL ?_);refine ah (collect_range hh hr hsmall hn (by lia) fun h' tk acc hk hlt hi=>?_);have hl:acc.toList.length=n:=by rw [cq];exact hi.1
 refine ah (wpAny_newList ?_ (by rw [hl,gn];lia));have hoL:(h'.push (bT "list" acc.toList.toArray 0)).get? h'.objs.size=some (bT "list" acc.toList.toArray 0):=bg _ rfl;show aW _ _ _ _ _ { s with heap:=h'.push (bT "list" acc.toList.toArray 0),toks:=tk };refine ah (dQ (wpAny_call_entry_kw slot_list_sort ⟨_,hoL,rfl⟩ entry_list_sort ?body (ksk_l1 _ _)))
 case body =>
  show aW (bx prog w) A.in1.in1 (fX.«list.sort» ⟨[.ref h'.objs.size],[(df "key",.ref q)]⟩) _ _ _;rw [ksk_t1];refine key_tree (s:={ s with heap:=h'.push (bT "list" acc.toList.toArray 0),toks:=tk }) hoL (by lia) fun e1 g1 g2=>?_
  have K:=h acc.toList (kA (h'.push (bT "list" acc.toList.toArray 0)) h'.objs.size acc.toList) tk h'.objs.size ((h'.push (bT "list" acc.toList.toArray 0)).objs.size+1) e1 hl ?_ ?_ (iW hlt) (by rw [size_push'];exact iD (j4 _)) g1 g2
  ·obtain ⟨J,j0,jc,je⟩:=K
   refine ⟨J,j0,jc,fun ks t' x1 x2=>?_⟩;obtain ⟨y1,κ,lt,y2,y3,y4,y5⟩:=je ks t' x1 x2;exact ⟨y1,κ,lt,y2,y3,y4,fun p p1 p2=>⟨_,rfl,aL ⟨_,rfl,y5 p p1 p2⟩⟩⟩
  ·intro i x hx
   rw [jQ] at hx;exact hi.2 i x hx
  ·exact fun b o e=>mid_keep (bQ (jN (aO e) hlt)) (ar _ (hk b o e))
section
variable {σ:List (Option V)}
theorem Inv.take {D:ao}(I:Inv X aP σ H s)(hn:H D=none)(hs0:X.s₀.heap.objs.size≤D)(hL:D≠X.env.locals)(hC:∀ x c,X.env.cells.lookup x=some c→c≠D)(hP:∀ p∈X.pn++aP,p.1≠D)(new:ObjOk X.prog X.w (upd H D o) s.heap D o):Inv X aP σ (upd H D o) s where
 ok:=I.ok
 os:=I.os
 bare:=I.bare
 base :=
  {keep:=I.base.keep
   slot:=I.base.slot
   free:=fun b ob e nb hx=>by rw [bC (bQ (aS (aO e) hs0))];exact I.base.free b ob e nb hx
   there:=I.base.there
   tups:=fun b xs e=>by have q:=I.base.tups b xs e;rw [bC (bH q hn)];exact q
   frzs:=fun b o u e=>by have q:=I.base.frzs b o u e;rw [bC (bH q hn)];exact q
   tbls:=fun b ps e=>by obtain ⟨more,q⟩:=I.base.tbls b ps e;exact ⟨more,by rw [bC (bH q hn)];exact q⟩ }
 loc:=I.loc
 cell:=I.cell
 free:=by rw [bC hL.symm];exact I.free
 freeC:=fun x c e=>by rw [bC (hC x c e)];exact I.freeC x c e
 pin:=fun p hp=>by
  obtain ⟨a,b,c,d,e⟩:=I.pin p hp;exact ⟨a,by rw [bC (hP p hp)];exact b,c,d,e⟩
 hok:=I.hok.take hn new
 len:=I.len
theorem Inv.unpin {p0:ao×Obj}(I:Inv X (p0::aP) σ H s):Inv X aP σ H s:=I.pins_of fun p hp=>I.pin p (aA _ (ay _ hp))
theorem Inv.repin {o o':Obj}(I:Inv X ((kS,o)::aP) σ H s)(hs0:X.s₀.heap.objs.size≤kS)(hC:∀ x c,X.env.cells.lookup x=some c→c≠kS)(hP:∀ p∈X.pn++aP,p.1≠kS)(hsb:d9 kS s.heap h')(ho':h'.get? kS=some o')(hd:∀ v,o'.data≠ .cell v):Inv X ((kS,o')::aP) σ H { s with heap:=h' }:=by
 obtain ⟨p1,p2,p3,p4,_⟩:=I.pin (kS,o) (aA _ (bw ..));have I2:=I.unpin.turned (t':=s.toks) (it:=kS) (h':=h') (fun b o hb e=>hsb.extBut b o hb e) p2 p3 (.inr hs0) hC hP;refine I2.pins_of fun p hp=>?_
 rcases aG.mp hp with rfl | hp
 ·exact ⟨ho',p2,p3,p4,hd⟩
 ·exact I2.pin p (aA _ hp)
theorem prs_of {as:List ao}(I:Inv X aP σ H s)(hl:as.length=ks.length)(h:∀ (i:Nat) a k,as[i]? =some a→ks[i]? =some k→H a=some (.tup [.int k.1,.int k.2])):PrsAt s.heap (as.map ae.ref) ks:=by
 refine ⟨by rw [aa,hl],fun i v k e1 e2=>?_⟩;rw [ax] at e1;obtain ⟨a,ea,rfl⟩:=bF.mp e1;obtain ⟨tz,tts,tr,o,ho,hcl,_,nn,hdt⟩:=I.hok a _ (h i a k ea e2);cases tr with
 | cons r1 tr=>cases tr with
  | cons r2 tr =>
   cases tr;obtain ⟨t1,rfl⟩:=r1;obtain ⟨t2,rfl⟩:=r2;exact ⟨a,o,t1,t2,nn,rfl,ho,hcl,hdt⟩
theorem keyDo_of {B:bZ}{f:ae}{num:Nat→Int}{key:Nat→Int×Int}{D:ao}{Q:au→Prop}
  (I:Inv X ((kS,bT "list" #[] 0)::(D,bT "list" #[] e1)::aP) σ H s) (hl:vs.length=n) (h64:n<64) (hv:∀ (i:Nat) x,vs[i]? =some x→∃ t,x= .int (num i) t)
  (k0:X.s₀.heap.objs.size≤kS) (d0:X.s₀.heap.objs.size≤D) (kC:∀ x c,X.env.cells.lookup x=some c→c≠kS) (dC:∀ x c,X.env.cells.lookup x=some c→c≠D) (kP:∀ p∈X.pn++aP,p.1≠kS) (dP:∀ p∈X.pn++aP,p.1≠D) (hne:kS≠D)
  (hnd:((aQ n).map key).Nodup)
  (hf:∀ (t:au) (H':Hp) (pins':List (ao×Obj)) (i:Nat) (tk:Tok),i<n→Inv X pins' σ H' t→Same H H'→aW (bx X.prog X.w) B (call f [.int (num i) tk]) (fun k t'=>∃ q H'',Inv X pins' σ H'' t'∧Same H' H''∧k= .ref q∧H'' q=some (.tup [.int (key i).1,.int (key i).2])) (fun _ _=>False) t)
  (fin:∀ (t:au) (H':Hp) (π:List Nat),Same H H'→H' D=none→Inv X aP σ (upd H' D (.lst (π.map fun i=>V.int (num i)))) t→π.Perm (aQ n)→π.Pairwise (fun i j=>ltP (key i) (key j)=true)→Q t) :
  KeyDo X.prog X.w B f vs kS D e1 Q s:=by
 have pK:∀ p∈X.pn++((D,bT "list" #[] e1)::aP),p.1≠kS:=fun p hp=>by
  rcases aN.mp hp with hp | hp
  ·exact kP p (aM _ hp)
  ·rcases aG.mp hp with rfl | hp
   ·exact cN hne
   ·exact kP p (aA _ hp)
 refine ⟨fun ks t=>∃ e H' as,Inv X ((kS,bT "list" ks.toArray e)::(D,bT "list" #[] e1)::aP) σ H' t∧Same H H'∧ks=as.map ae.ref∧∀ (i:Nat) a,as[i]? =some a→H' a=some (.tup [.int (key i).1,.int (key i).2]),⟨0,H,[],I,Same.refl H,rfl,fun i a e=>by simp at e⟩,?_,?_⟩
 ·rintro ks x e t hx ⟨e',H',as,I',S',rfl,has⟩ hk
  rw [aa] at hx;have hi:as.length<n:=by rw [←hl];exact (ak.mp hx).1
  obtain ⟨tk,rfl⟩:=hv _ x hx;refine cx (hf t H' _ as.length tk hi I' S') (fun k t' hk'=>?_) fun _ _ z=>z
  obtain ⟨q,H'',I'',S'',rfl,hq⟩:=hk';have pk:=(I''.pin _ (aA _ (bw ..))).1;have pk0:=(I'.pin _ (aA _ (bw ..))).1;have pk0:t.heap.get? kS=some (bT "list" (as.map ae.ref).toArray e'):=pk0;rw [hk] at pk0;have ee:e=e':=by cases pk0;rfl
  refine ⟨by rw [ee];exact pk,fun h' c hsb hg=>⟨c,H'',as++[q],I''.repin k0 kC pK hsb hg (fun v z=>by cases z),S'.trans S'',by rw [aB];rfl,fun i a ea=>?_⟩⟩
  by_cases hlt:i<as.length
  ·rw [gB hlt] at ea
   exact S'' _ _ (has i a ea)
  ·rw [cf (by lia)] at ea
   have hz:i=as.length:=by
    have:=(ak.mp ea).1;simp only [iw] at this;lia
   subst hz;rw [Nat.sub_self] at ea;cases ea;exact hq
 ·rintro ks t hks ⟨e',H',as,I',S',rfl,has⟩
  rw [aa] at hks;obtain ⟨pd,nD,lD,fD,_⟩:=I'.pin (D,bT "list" #[] e1) (aA _ (ay _ (bw ..)));obtain ⟨pk,nK,lK,fK,_⟩:=I'.pin (kS,bT "list" (as.map ae.ref).toArray e') (aA _ (bw ..));have pd:t.heap.get? D=some (bT "list" #[] e1):=pd;have pk:t.heap.get? kS=some (bT "list" (as.map ae.ref).toArray e'):=pk;have kat:∀ i,i<n→kyP ((aQ n).map key) i=key i:=fun i hi=>by
   rw [kyP_at (by rw [aa,br];exact hi),gZ,hV]
  have PR:PrsAt t.heap (as.map ae.ref) ((aQ n).map key):=prs_of I' (by rw [aa,br];lia) fun i a k ea ek=>by
   rw [ax] at ek;obtain ⟨j,ej,rfl⟩:=bF.mp ek;have hi:i<n:=by have:=(ak.mp ej).1;rw [br] at this;exact this
   rw [gX hi] at ej;cases ej;exact has i a ea
  have ln:((aQ n).map key).length=n:=by rw [aa,br]
  have O:=ord_of hnd;rw [ln] at O;refine ⟨pd,tuples' true,fun i j=>ltP (kyP ((aQ n).map key) i) (kyP ((aQ n).map key) j),by rw [hl];exact O,fun h2 Q' q'=>prs_kind (s:=t) PR (by rw [aa];lia) q',fun i j C hi hj c=>prs_ask (s:=t) PR (by rw [aa];lia) (by rw [aa];lia) c,fun p pm so=>?_⟩;rw [hl] at pm so;have s1:=gz t.heap kS (cV fun _=>(#[]:Array ae));obtain ⟨ck,hck⟩:∃ ck,(t.heap.update kS (cV fun _=>(#[]:Array ae))).get? kS=some (bT "list" #[] ck):=⟨_,gQ pk fun _=> #[]⟩;have I1:=I'.repin k0 kC pK s1 hck (fun v z=>by cases z);have I2:=I1.unpin;have hD1:(t.heap.update kS (cV fun _=>(#[]:Array ae))).get? D=some (bT "list" #[] e1):=by rw [gY _ _ _ _ (cN hne)];exact pd
  have s2:=gz (t.heap.update kS (cV fun _=>(#[]:Array ae))) D (cV fun _=>jr (p.toList.map fun i=>vs.getD i ae.none));obtain ⟨cD,hcD⟩:∃ cD,(qw t.heap kS D (p.toList.map fun i=>vs.getD i ae.none)).get? D=some (bT "list" (jr (p.toList.map fun i=>vs.getD i ae.none)) cD):=⟨_,gQ hD1 fun _=>jr (p.toList.map fun i=>vs.getD i ae.none)⟩;have I3:=(I2.repin d0 dC dP s2 hcD (fun v z=>by cases z)).unpin;refine fin _ H' p.toList S' nD (I3.take nD d0 lD dC dP ⟨?_,_,cD,?_,hcD⟩) pm ?_
  ·rw [aa,pm.length_eq,br];exact bh (by lia:n≤1000) (by decide)
  ·refine vals_at (by rw [aa,aa]) fun i x hx=>?_
   rw [ax] at hx;obtain ⟨j,hj,rfl⟩:=bF.mp hx;have hjn:j<n:=bO.mp (pm.mem_iff.mp (bj hj));obtain ⟨tk,ex⟩:=hv j vs[j] (gE (by lia));refine ⟨vs.getD j ae.none,by rw [ax,hj];rfl,?_⟩;rw [ai,gE (by lia)];exact ⟨tk,ex⟩
  ·refine List.pairwise_iff_getElem.mpr fun a b ha hb hab=>?_
   have sz:=Pm.size pm;rw [cq] at ha hb;have:=so a b hab (by lia);have ea:gA p a=p.toList[a]:=by rw [lX,eh ha];simp
   have eb:gA p b=p.toList[b]:=by rw [lX,eh hb];simp
   have la:p.toList[a]<n:=by rw [←ea];exact pm.lt (by lia)
   have lb:p.toList[b]<n:=by rw [←eb];exact pm.lt (by lia)
   have this:ltP (kyP ((aQ n).map key) (gA p a)) (kyP ((aQ n).map key) (gA p b))=true:=this;rw [ea,eb,kat _ la,kat _ lb] at this;exact this
end
end L2
namespace L2
open PySem PySem.W PySem.Spec PyProof.Rows
def BM (mg:Str→Option ae)(base:bP):Prop:=∃ bm ob,mg "__builtins__" =some (.ref bm)∧bm≠builtinsNs∧bm≠bU∧base.get? bm=some ob∧ob.cls= .type "module" ∧ob.dict=some builtinsNs∧ob.data= .plain
def CdK (q:Str)(H:Hp)(c:ao):Prop:=∃ oc vs t,H c=some (.frz oc (.own 0))∧oc.data= .fields vs∧vs[1]? =some (.str q t)
def LamT (P:ao)(pos:Pos)(q:Str)(H:Hp):Prop :=
 H P=some (.tbl #[])∨∃ c,H P=some (.tbl #[rawInt pos.line,rawInt pos.col,.ref c])∧CdK q H c
def Tb (P:ao)(H H':Hp):Prop:=∀ a o,a≠P→H a=some o→H' a=some o
theorem Tb.refl {P:ao}(H:Hp):Tb P H H:=fun _ _ _ e=>e
theorem Tb.trans {P:ao}(a:Tb P H H1)(b:Tb P H1 H2):Tb P H H2:=fun x o n e=>b x o n (a x o n e)
theorem Same.tb {P:ao}(a:Same H H'):Tb P H H':=fun x o _ e=>a x o e
theorem CdK.tb {P:ao}{c:ao}(a:Tb P H H')(hn:c≠P)(k:CdK q H c):CdK q H' c:=let ⟨oc,vs,t,e,r⟩:=k;⟨oc,vs,t,a _ _ hn e,r⟩
theorem LamT.same {P:ao}(a:Same H H')(k:LamT P pos q H):LamT P pos q H':=by
 rcases k with k | ⟨c,k,oc,vs,t,e,r⟩
 ·exact .inl (a _ _ k)
 ·exact .inr ⟨c,a _ _ k,oc,vs,t,a _ _ e,r⟩
def LamF (q:Str)(params:fE)(body:Expr)(scope:fH)(cl:List (Str×ao))(f:ao)(H:Hp):Prop :=
 ∃ pm c ct,H f=some (.frz (kla_obj "<lambda>" q params body scope cl pm c ct) (.own 0))∧CdK q H c
theorem LamF.same (a:Same H H')(k:LamF q params body scope cl f H):LamF q params body scope cl f H' :=
 let ⟨pm,c,ct,e,oc,vs,t,e2,r⟩:=k;⟨pm,c,ct,a _ _ e,oc,vs,t,a _ _ e2,r⟩
section
variable {σ:List (Option V)}
theorem Inv.grown {P:ao}{ps more:Array ae}{tk:Nat}(I:Inv X aP σ H s)(hP:H P=some (.tbl ps))(hx:bP.ExtBut P s.heap h')(ht:h'.get? P=some (tabObj (ps++more))) :
  Inv X aP σ (upd H P (.tbl (ps++more))) { s with heap:=h',toks:=tk }:=by
 have neP:∀ b,H b=none→b≠P:=fun b e z=>by rw [z,hP] at e;cases e
 have neO:∀ b o,H b=some o→(∀ ps,o≠ .tbl ps)→b≠P:=fun b o e hn z=>by rw [z,hP] at e;exact hn ps (cG e).symm
 refine I.step (g':=s.gens) (d':=s.drawn) (ch:=[]) (fun _ z=>nomatch z) (fun b o _ _ _ e n=>hx b o (neP b n) e) (fun b o _ _ _ e n=>⟨o.slots,hx b o (neP b n) e⟩) (fun b o _ _ n=>by rw [bC (neP b n)];exact n)
  (fun b o _ e=>?_) (fun b xs e=>by rw [bC (neO b _ e fun _ z=>by cases z)];exact e) (fun b o u e=>by rw [bC (neO b _ e fun _ z=>by cases z)];exact e) (fun b qs e=>?_) (fun m hn=>hn.extBut hx (neP _ I.free)) (fun b u e=>?_) I.bare
 ·by_cases hb:b=P
  ·exact ⟨_,hb ▸ ht⟩
  ·exact ⟨o,hx b o hb e⟩
 ·by_cases hb:b=P
  ·subst hb
   rw [hP] at e;cases e;exact ⟨more,aV⟩
  ·exact ⟨#[],by rw [bC hb,e];simp⟩
 ·by_cases hb:b=P
  ·subst hb
   rw [aV] at e;cases e;exact ht
  ·rw [bC hb] at e
   refine (I.hok b u e).stay (fun c v hc q=>hx c v ?_ q) (fun c q=>by rw [bC (neO c _ q fun _ z=>by cases z)];exact q) fun c xs q=>by rw [bC (neO c _ q fun _ z=>by cases z)];exact q
   rcases hc with rfl | hc
   ·exact hb
   ·exact neO c _ hc fun _ z=>by cases z
theorem lam_make {c P:ao}(I:Inv X aP σ H s)(hd:defaultsOf params X.env=([],[]))(my:X.env.code= .ref c)(C:codeHdIn X.K c P=true)(B:BM X.mg X.base)
  (hfr:∀ y∈scope.names,y.2= .free→X.env.scope.names.lookup y.1=some .cell) (T:LamT P pos (X.env.qual ++ "<lambda>") H)
  (h:∀ f cl H' s',Inv X aP σ H' s'→Tb P H H'→LamT P pos (X.env.qual ++ "<lambda>") H'→LamF (X.env.qual ++ "<lambda>") params body scope cl f H'→(∀ x c,cl.lookup x=some c→X.env.cells.lookup x=some c)→(∀ y∈scope.names,y.2= .free→cl.lookup y.1=X.env.cells.lookup y.1)→Q (.ref f) s') :
  aW (bx X.prog X.w) X.A (eP (.Lambda params body scope pos) X.env) Q X.xe s:=by
 obtain ⟨cl,hclos,c1,c2⟩:=mG (scope:=scope) (env:=X.env) fun y hy hk=>I.ok.has _ (.inl (hfr y hy hk))
 refine kla_eval hd ?_;have hgs:s.heap.Ns bU X.mg:=I.mod.glob.keeps I.bk;obtain ⟨bm,ob,b1,b2,b3,b4,b5⟩:=B;have CH:CodeHd s.heap c P:=codeHd_of_K I.kIn C;obtain ⟨ps,hP⟩:∃ ps,H P=some (.tbl ps):=by
  rcases T with T | ⟨c',T,_⟩
  ·exact ⟨_,T⟩
  ·exact ⟨_,T⟩
 have hbP:bm≠P:=fun q=>by have z:=(I.bs bm ob b4).2;rw [q,hP] at z;cases z
 have hgP:bU≠P:=fun q=>by
  obtain ⟨o,es,ep,e,_⟩:=I.mod.glob;have z:=(I.bs _ o e).2;rw [q,hP] at z;cases z
 have hBA:s.heap.BuiltinsAt X.mg P:=⟨bm,ob,b1,b2,b3,hbP,I.bk _ _ b4,b5⟩;have fin:∀ (H1:Hp) (h1:bP) (tk:Nat) (c':ao) (ctv:ae),Inv X aP σ H1 { s with heap:=h1,toks:=tk }→Tb P H H1→LamT P pos (X.env.qual ++ "<lambda>") H1→CdK (X.env.qual ++ "<lambda>") H1 c' →
   Q (.ref h1.objs.size) { s with heap:=h1.push (kla_obj "<lambda>" (X.env.qual ++ "<lambda>") params body scope cl ((X.mg "__name__").getD .none) c' ctv),toks:=tk }:=fun H1 h1 tk c' ctv I1 t1 T1 K1=>by
  have fr:H1 h1.objs.size=none:=I1.hok.fresh (aE _);have S:Same H1 (upd H1 h1.objs.size (.frz (kla_obj "<lambda>" (X.env.qual ++ "<lambda>") params body scope cl ((X.mg "__name__").getD .none) c' ctv) (.own 0))):=fun a o e=>by rw [bC (bH e fr)];exact e
  have I2:=I1.laid (t':=tk) (a:=h1.objs.size) (o:= .frz (kla_obj "<lambda>" (X.env.qual ++ "<lambda>") params body scope cl ((X.mg "__name__").getD .none) c' ctv) (.own 0)) (h':=h1.push (kla_obj "<lambda>" (X.env.qual ++ "<lambda>") params body scope cl ((X.mg "__name__").getD .none) c' ctv)) (fun b u e=>ar _ e) (aE _) ⟨bg _ rfl,_,bg _ rfl⟩;obtain ⟨oc,vs,t,e,r⟩:=K1;exact h _ cl _ _ I2 (t1.trans S.tb) (T1.same S) ⟨_,c',ctv,aV,oc,vs,t,S _ _ e,r⟩ c1 c2
 rcases T with T | ⟨c',T,K⟩
 ·rw [T] at hP;cases hP
  have hPh:s.heap.get? P=some (tabObj #[]):=I.hok P _ T;refine kla_makeFunction (mg:=X.mg) hclos I.ok.glob hgs my CH hPh trivial rfl hgP hBA fun c' ctv h' tk hx hge hlt hrec htb=>?_
  have I1:=I.grown (tk:=tk) T hx htb;obtain ⟨c2',oc,vs,t,e2,hoc,hdd,hv⟩:=hrec;cases e2;have Plt:P<s.heap.objs.size:=aO hPh;have ncP:c'≠P:=dv (aS Plt hge);have frc:H c'=none:=I.hok.fresh hge;have hn1:(upd H P (.tbl (#[]++ #[rawInt pos.line,rawInt pos.col,.ref c']))) c'=none:=by rw [bC ncP];exact frc
  have old:∀ b o,s.heap.get? b=some o→b≠c':=fun b o e=>bQ (aS (aO e) hge)
  have I2:=I1.take (D:=c') (o:= .frz oc (.own 0)) hn1 (bh I.sz hge) (dv (aS I.lt hge)) (fun x d e=>by obtain ⟨v,o,ho,_⟩:=I.cell x d e;exact old d o ho) (fun p hp=>old _ _ (I.pin p hp).1) ⟨hoc,_,hoc⟩;refine fin _ h' tk c' ctv I2 (fun a o hn e=>?_) (.inr ⟨c',?_,oc,vs,t,aV,hdd,hv⟩) ⟨oc,vs,t,aV,hdd,hv⟩
  ·rw [bC (bH e frc),bC hn];exact e
  ·rw [bC (cN ncP),aV];rfl
 ·rw [T] at hP;cases hP
  have hPh:s.heap.get? P=some (tabObj #[rawInt pos.line,rawInt pos.col,.ref c']):=I.hok P _ T;refine kla_makeFunctionHit (cv:= .ref c') (mg:=X.mg) hclos I.ok.glob hgs my CH hPh trivial (codeAmong_snoc [] trivial rfl) hBA fun ctv h' tk hk hsz=>?_
  exact fin H h' tk c' ctv (I.kept hk) (Tb.refl H) (.inr ⟨c',T,K⟩) K
def cxLam (X:Cx)(q:Str)(scope:fH)(cl:List (Str×ao))(L f:ao)(cd:ae)(N:List Str)(s:au)(H:Hp):Cx :=
 { X with A:=X.A.in1.in1.deeper (envX q scope L f cd cl),N:=N,s₀:=s,H₀:=H,env:=envX q scope L f cd cl,outer:=X.stack,stack:=envX q scope L f cd cl::X.stack,ex:=[],calm:=true,fn:=fun _=>false,pn:=[],xe:=fun _ _=>False }
theorem lam_call {Q:VK}(I:Inv X aP σ H s)(hc:X.calm=true)(hr:X.A.depth<jY)(F:LamF q params body scope cl f H)(ru:RelV v u)
  (hbind:∀ pm cdv ct,bindArgs (kla_fn "<lambda>" q params body scope cl pm cdv ct) ⟨[u],[]⟩=fM [(x,u)])
  (hk:scope.kind= .function) (hco:scope.isCoroutine=false) (hgen:scope.isGenerator=false) (iU:∀ y∈scope.names,y.2≠ .cell) (hx:scope.names.lookup x=some .local) (hfx:x ∉ fr)
  (c1:∀ x c,cl.lookup x=some c→X.env.cells.lookup x=some c) (c2:∀ y∈scope.names,y.2= .free→cl.lookup y.1=X.env.cells.lookup y.1)
  (hfr:∀ y∈scope.names,y.2= .free→X.env.scope.names.lookup y.1=some .cell) (hjs:js.map (fun j=>X.N[j]?)=fr.map some) (hfv:∀ y∈fr,scope.names.lookup y=some .free)
  (hb:∀ L cd s' H',PE (cxLam X q scope cl L f cd (x::fr) s' H') body te) (ht:te (some v::dH σ js) H Q) :
  aW (bx X.prog X.w) X.A.in1.in1 (call (.ref f) [u]) (EP X aP σ Q) (fun _ _=>False) s:=by
 obtain ⟨pm,cd,ct,e,oc,vs,t,ec,hdc,hvc⟩:=F;have ho:s.heap.get? f=some (kla_obj "<lambda>" q params body scope cl pm cd ct):=(I.hok f _ e).1;have hoc:s.heap.get? cd=some oc:=(I.hok cd _ ec).1;refine wpAny_call (kla_callFunE hr ho rfl hco hgen rfl ⟨cd,oc,vs,t,rfl,hoc,hdc,hvc⟩ ?_);rw [hbind];refine aL (wpAny_newFunctionEnv iU (fun y hy=>?_) (fun h₁ hns hsb=>⟨I.nolimit.fresh _ hsb,?_⟩) hk)
 ·rw [aw.mp hy];exact hx
 show jq _ _ (.expr body (envX q scope s.heap.objs.size f (.ref cd) cl)) _ _;have old:∀ b o,s.heap.get? b=some o→h₁.get? b=some o:=fun b o e=>hsb.extBut b o (bQ (aO e)) (ar _ e)
 refine kla_codeExpr ?_;have ok':(cxLam X q scope cl s.heap.objs.size f (.ref cd) (x::fr) s H).Ok:=by
  refine ⟨I.ok.mod,hk,rfl,rfl,aE _,fun a b c e1 e2=>I.ok.inj a b c (c1 a c e1) (c1 b c e2),fun y hy=>?_,fun _ _ z=>rL z (by intro q;cases q),fun _=>I.ok.hd hc,bZ.frames_deeper I.ok.frames,.inr ⟨rfl,rfl⟩,fun b hb=>rL (show b∈([]:List ao) from hb) (by simp),I.bs,bh I.ok.bsz I.sz,fun b o e hb=>rL (show b∈([]:List ao) from hb) (by simp),fun b hb=>rL (show b∈([]:List ao) from hb) (by simp),I.stack,I.stkFree⟩;have hy:scope.names.lookup y=some .cell∨scope.names.lookup y=some .free:=hy
  rcases hy with hy | hy
  ·exact rL rfl (iU _ (cE hy))
  ·have hm:=cE hy
   obtain ⟨c,e⟩:=I.ok.has y (.inl (hfr _ hm rfl));exact ⟨c,(c2 _ hm rfl).trans e⟩
 have lenB:(dH σ js).length=fr.length:=by
  have e:=rQ List.length hjs;rw [aa,aa] at e;unfold dH;rw [aa];exact e
 have I1:Inv (cxLam X q scope cl s.heap.objs.size f (.ref cd) (x::fr) s H) [] (some v::dH σ js) H { s with heap:=h₁,toks:=s.toks+1 }:=by
  refine ⟨ok',rfl,I.bare,Un.kept old,⟨_,hns,fun i y v' e1 e2 e3=>?_⟩,fun y c e=>?_,I.hok.fresh (aE _),fun y c e=>I.freeC y c (c1 y c e),fun p hp=>rL (show p∈([]:List (ao×Obj)) from hp) (by simp),I.hok.kept old,?_⟩
  ·cases i with
   | zero =>
    have e1:some x=some y:=e1;have e2:some (some v)=some (some v'):=e2;cases e1;cases e2;exact ⟨u,ru,.inl ⟨hx,by show eX x [(x,u)]=_;rw [dI,beq_self_eq_true]⟩⟩
   | succ i =>
    have e1:fr[i]? =some y:=e1;have e2:(dH σ js)[i]? =some (some v'):=e2;unfold dH at e2;rw [ax] at e2;obtain ⟨j,ej,e2⟩:=bF.mp e2;have hN:X.N[j]? =some y:=by
     have q:=rQ (fun l=>l[i]?) hjs;simp only [ax,ej,e1,gv] at q;exact cG q
    have hσ:σ[j]? =some (some v'):=by
     cases z:σ[j]? with
     | none=>rw [z] at e2;cases e2
     | some w=>rw [z] at e2;exact rQ some e2
    have hfree:=hfv y (bj e1);have hm:=cE hfree;have hce:X.env.scope.names.lookup y=some .cell:=hfr _ hm rfl;obtain ⟨m,_,hl⟩:=I.loc;obtain ⟨u',ru',look⟩:=hl j y v' hN hσ (.inr (.inl hce));refine ⟨u',ru',.inr ⟨.inr hfree,?_⟩⟩
    rcases look with ⟨k,_⟩ | ⟨_,c,ec,ho⟩
    ·have k:X.env.scope.names.lookup y=some .local:=k
     rw [hce] at k;cases k
    ·obtain ⟨o,ho,hd⟩:=ho
     exact ⟨c,(c2 _ hm rfl).trans ec,o,old c o ho,hd⟩
  ·obtain ⟨v',o,ho,hd⟩:=I.cell y c (c1 y c e)
   exact ⟨v',o,old c o ho,hd⟩
  ·show (some v::dH σ js).length=(x::fr).length
   rw [aZ,aZ,lenB]
 refine cx (hb _ _ s H [] _ _ H Q I1 ht) (fun w s' hs=>?_) fun _ _ z=>z.elim
 obtain ⟨v',H',J,rv,qv⟩:=hs;exact I.after ⟨v',H',J.os,J.bare,J.base,J.hok,rv,qv⟩
end
def SortQ (P:ao)(lp:Pos)(lq:Str)(js:List Nat)(te:TE)(σ:St)(Q:VK)(v:V)(H1:Hp):Prop:=∃ (r:ao) (n:Nat) (key:Nat→Int×Int),v= .ref r∧H1 r=some (.rng 0 n)∧n<64∧LamT P lp lq H1∧((aQ n).map key).Nodup ∧
 (∀ i:Nat,i<n→∀ H2,Tb P H1 H2→te (some (.int i)::dH σ js) H2 fun u H3=>Same H2 H3∧∃ a,u= .ref a∧H3 a=some (.tup [.int (key i).1,.int (key i).2])) ∧
 ∀ (D:ao) (H4:Hp) (π:List Nat),Tb P H1 H4→LamT P lp lq H4→H4 D=none→π.Perm (aQ n)→π.Pairwise (fun i j=>ltP (key i) (key j)=true)→Q (.ref D) (upd H4 D (.lst (π.map fun (i:Nat)=>V.int i)))
def tSortL (P:ao)(lp:Pos)(lq:Str)(tr:TE)(js:List Nat)(te:TE):TE:=fun σ H Q=>tr σ H fun v H1=>SortQ P lp lq js te σ Q v H1
def SortQ1 (P:ao)(lp:Pos)(lq:Str)(js:List Nat)(te:TE)(σ:St)(Q:VK):List V→Hp→Prop
 | [v],H1=>SortQ P lp lq js te σ Q v H1
 | _,_=>False
theorem rng_size0:eG 0 (n:Int) 1=n:=by
 unfold eG;rw [rJ (by decide)]
 by_cases h0:(0:Int)<n
 ·rw [rJ h0,Int.ediv_one];lia
 ·rw [rG h0];lia
theorem rng_small0 (h:n<64):iu 0 (n:Int) 1=true:=by unfold iu;rw [rng_size0];unfold fX.Range.rangeFitsLong;simp;lia
theorem pe_sortL {tr:TE}{p kp:Pos}{c P:ao}(hc:X.calm=true)(hrm:X.A.depth<jY)(hg:Gl X "sorted")(hm:X.mg "sorted" =none)(hi:PE X re tr)
  (hd:defaultsOf params X.env=([],[])) (my:X.env.code= .ref c) (C:codeHdIn X.K c P=true) (B:BM X.mg X.base)
  (hbind:∀ q cl pm cdv ct (u:ae),bindArgs (kla_fn "<lambda>" q params body scope cl pm cdv ct) ⟨[u],[]⟩=fM [(x,u)])
  (hk:scope.kind= .function) (hco:scope.isCoroutine=false) (hgen:scope.isGenerator=false) (iU:∀ y∈scope.names,y.2≠ .cell) (hx:scope.names.lookup x=some .local) (hfx:x ∉ fr)
  (hfr:∀ y∈scope.names,y.2= .free→X.env.scope.names.lookup y.1=some .cell) (hjs:js.map (fun j=>X.N[j]?)=fr.map some) (hfv:∀ y∈fr,scope.names.lookup y=some .free)
  (hb:∀ cl L f cd s' H',PE (cxLam X (X.env.qual ++ "<lambda>") scope cl L f cd (x::fr) s' H') body te)
  (he:gF pos (bD [re] X.env)=(false,eP re X.env)::gF pos (bD [] X.env):=by rfl)
  (hs:bD [re] X.env=(false,eP re X.env)::bD [] X.env:=by rfl) (hpl:(gF pos (bD [re] X.env)).any (·.1)=false:=by rfl) :
  PE X (.Call (.Name "sorted" p) [re] [⟨some "key",.Lambda params body scope lp,kp⟩] pos) (tSortL P lp (X.env.qual ++ "<lambda>") tr js te):=by
 intro aP s σ H Q I h;refine e8 (lU I hg hm (u:= .builtin "sorted") (by trivial) ?_);refine callWith_kw (kws:=[⟨some "key",.Lambda params body scope lp,kp⟩]) (thn ((ag hi aC hs) pos aP s σ H (SortQ1 P lp (X.env.qual ++ "<lambda>") js te σ Q) I h) fun us s1 ⟨vs,H1,I1,r1,q0⟩=>?_) he hpl;refine kws_cons ?_;obtain ⟨v,rfl⟩:∃ v,vs=[v]:=by
  cases vs with
  | nil=>exact q0.elim
  | cons v r=>cases r with
   | nil=>exact ⟨v,rfl⟩
   | cons _ _=>exact q0.elim
 have q1:SortQ P lp (X.env.qual ++ "<lambda>") js te σ Q v H1:=q0;obtain ⟨r,n,key,rfl,hr,h64,T,hnd,hkey,hQ⟩:=q1;obtain rfl:us=[.ref r]:=by
  cases r1 with
  | cons ru rs =>
   cases rs;exact rQ (fun z=>[z]) ru
 refine lam_make (body:=body) I1 hd my C B hfr T fun f cl H2 s2 I2 tb T2 F2 c1 c2=>?_
 refine kws_nil ?_;show aW _ _ (call (.builtin "sorted") [.ref r] [(df "key",.ref f)]) _ _ _;have rP:r≠P:=fun z=>by
  rcases T with T | ⟨_,T,_⟩ <;> rw [←z,hr] at T <;> cases T
 obtain ⟨t1,t2,t3,e3⟩:=I2.hok r _ (tb r _ rP hr);have hr3:IsRange s2.heap r 0 n 1 t1 t2 t3:=by first | exact e3 | exact ⟨_,e3,rfl,rfl⟩
 refine sorted_keyR (I2.ok.hd hc) hr3 (rng_small0 h64) rng_size0 h64 fun ws h1 tk D kS e1 hl hw hkeep hD hDk gD gK=>?_
 have I3:Inv X aP σ H2 { s2 with heap:=h1,toks:=tk }:=I2.kept hkeep;have old:∀ b o,s2.heap.get? b=some o→b≠D∧b≠kS:=fun b o e=>⟨bQ (aS (aO e) hD),bQ (jN (aS (aO e) hD) hDk)⟩
 have hDs:=aO gD;have hKs:=aO gK;have frD:H2 D=none:=I2.hok.fresh hD;have frK:H2 kS=none:=I2.hok.fresh (iW (bV hD hDk));have cc:∀ y d,X.env.cells.lookup y=some d→d≠D∧d≠kS:=fun y d e=>by obtain ⟨v,o,ho,_⟩:=I2.cell y d e;exact old d o ho
 have pp:∀ z∈X.pn++aP,z.1≠D∧z.1≠kS:=fun z hz=>old _ _ (I2.pin z hz).1
 have nl:s2.heap.objs.size≤kS:=iW (bV hD hDk);have I4:Inv X ((kS,bT "list" #[] 0)::(D,bT "list" #[] e1)::aP) σ H2 { s2 with heap:=h1,toks:=tk }:=I3.pins_of fun z hz=>by
  rcases aG.mp hz with rfl | hz
  ·exact ⟨gK,frK,dv (aS I2.lt nl),I2.nofs nl,fun v z=>by cases z⟩
  ·rcases aG.mp hz with rfl | hz
   ·exact ⟨gD,frD,dv (aS I2.lt hD),I2.nofs hD,fun v z=>by cases z⟩
   ·exact I3.pin z (aA _ hz)
 refine keyDo_of (num:=fun i=>(i:Int)) (key:=key) I4 hl h64 (fun i x e=>by obtain ⟨t,q⟩:=hw i x e;exact ⟨t,by rw [q];congr 1;lia⟩) (bh I2.sz nl) (bh I2.sz hD) (fun y d e=>(cc y d e).2) (fun y d e=>(cc y d e).1) (fun z hz=>(pp z hz).2) (fun z hz=>(pp z hz).1) (dv hDk) hnd ?_ ?_
 ·intro t H' pins' i tk hi' I' S'
  refine cx (lam_call (v:= .int i) I' hc hrm (F2.same S') ⟨_,rfl⟩ (fun pm cdv ct=>hbind _ _ _ _ _ _) hk hco hgen iU hx hfx c1 c2 hfr hjs hfv (fun L cd s' H'=>hb cl L f cd s' H') (hkey i hi' H' (tb.trans S'.tb))) (fun k t' ⟨v,H'',I'',rv,S'',a,ev,ea⟩=>?_) fun _ _ z=>z
  subst ev;obtain rfl:k= .ref a:=rv;exact ⟨a,H'',I'',S'',rfl,ea⟩
 ·intro t H' π S' hD' I' pm pw
  exact ⟨.ref D,_,I',rfl,hQ D H' π (tb.trans S'.tb) (T2.same S') hD' pm pw⟩
end L2
namespace HN
open PySem L2 PyProof.Rows
def z0:Sn:=⟨0,0,0,0,0⟩
def sAt (sp:List Sn)(i:Nat):Sn:=sp.getD i z0
theorem ji (h:i<sp.length):sp[i]? =some (sAt sp i):=by
 unfold sAt;rw [ai,gE h];rfl
theorem eu (h:i<sp.length):sAt sp i∈sp:=bj (ji h)
def nP (sp:List Sn)(i:Nat):Int×Int:=((sAt sp i).o - (sAt sp i).l,(i:Int))
def Ordd (sp:List Sn)(π:List Nat):Prop:=π.Perm (aQ sp.length)∧π.Pairwise fun i j=>ltP (nP sp i) (nP sp j)=true
theorem wkey_nodup (sp:List Sn)(n:Nat):((aQ n).map (nP sp)).Nodup:=by
 rw [bM,fh];refine List.Pairwise.imp (fun {a b} h e=>h ?_) iN;have:=rQ Prod.snd e;exact Int.ofNat.inj this
theorem ltP_asym {x y:Int×Int}(h:ltP x y=true)(k:ltP y x=true):False:=by
 rw [qd] at h k;lia
theorem perm_eq {α:Type}{R:α→α→Prop}(as:∀ a b,R a b→R b a→a=b):∀ {l k:List α},l.Perm k→l.Pairwise R→k.Pairwise R→l=k
 | [],k,p,_,_=>(List.nil_perm.mp p).symm
 | a::l,k,p,hl,hk=>by
  cases k with
  | nil=>exact rL p.symm (by intro z;have:=List.nil_perm.mp z;cases this)
  | cons b k =>
   have ab:a=b:=by
    have ha:a∈b::k:=p.mem_iff.mp bw;have hb:b∈a::l:=p.mem_iff.mpr bw
    rcases aG.mp ha with e | ha
    ·exact e
    ·rcases aG.mp hb with e | hb
     ·exact e.symm
     ·exact as a b (List.rel_of_pairwise_cons hl hb) (List.rel_of_pairwise_cons hk ha)
   subst ab;rw [perm_eq as p.cons_inv (kD.mp hl).2 (kD.mp hk).2]
theorem Ordd.one {ρ:List Nat}(a:Ordd sp π)(b:Ordd sp ρ):π=ρ :=
 perm_eq (fun _ _ h k=>(ltP_asym h k).elim) (a.1.trans b.1.symm) a.2 b.2
theorem Ordd.lt (a:Ordd sp π)(h:i∈π):i<sp.length:=bO.mp (a.1.mem_iff.mp h)
theorem Ordd.len (a:Ordd sp π):π.length=sp.length:=by rw [a.1.length_eq,br]
def iT (gs:List Int)(x y:Int):List Int:=gs.map fun g=>if g=y then x else g
def fA (sp:List Sn)(c:List Int×List Nat)(i:Nat):List Int×List Nat :=
 if tm c.1 (sAt sp i).s=tm c.1 (sAt sp i).g then c else (iT c.1 (tm c.1 (sAt sp i).s) (tm c.1 (sAt sp i).g),c.2++[i])
def jS (m:Nat):List Int:=(aQ m).map fun (k:Nat)=>(k:Int)
def kh (sp:List Sn)(m:Nat)(π:List Nat):List Int×List Nat:=π.foldl (fA sp) (jS m,[])
def eS (ps:List (List Int))(x:Int):List Int:=(ps.filter fun p=>decide (x∈p)).headD []
def stepQ (sp:List Sn)(c:List (List Int)×List Nat)(i:Nat):List (List Int)×List Nat :=
 if eS c.1 (sAt sp i).s=eS c.1 (sAt sp i).g then c
 else (c.1.filter (fun p=> !(decide (p=eS c.1 (sAt sp i).s)) && !(decide (p=eS c.1 (sAt sp i).g)))++[eS c.1 (sAt sp i).s++eS c.1 (sAt sp i).g],c.2++[i])
def prt0 (m:Nat):List (List Int):=(aQ m).map fun (k:Nat)=>[(k:Int)]
structure Rl (m:Nat)(gs:List Int)(ps:List (List Int)):Prop where
 len:gs.length=m
 cov:∀ x:Int,0≤x→x<m→∃ p∈ps,x∈p
 one:∀ p∈ps,∀ q∈ps,∀ x,x∈p→x∈q→p=q
 eqv:∀ x y:Int,0≤x→x<m→0≤y→y<m→(tm gs x=tm gs y↔∃ p∈ps,x∈p∧y∈p)
theorem Rl.part {ps:List (List Int)}(R:Rl m gs ps){x:Int}(h0:0≤x)(h1:x<m):eS ps x∈ps∧x∈eS ps x:=by
 obtain ⟨p,hp,hx⟩:=R.cov x h0 h1;unfold eS;have hm:p∈ps.filter fun p=>decide (x∈p):=bW.mpr ⟨hp,rM hx⟩
 cases e:ps.filter fun p=>decide (x∈p) with
 | nil=>rw [e] at hm;cases hm
 | cons q r =>
  have hq:q∈ps.filter fun p=>decide (x∈p):=by rw [e];exact bw
  obtain ⟨a,b⟩:=bW.mp hq;exact ⟨a,rO b⟩
theorem Rl.is {ps:List (List Int)}(R:Rl m gs ps){x y:Int}(h0:0≤x)(h1:x<m)(k0:0≤y)(k1:y<m):tm gs x=tm gs y↔x∈eS ps y:=by
 obtain ⟨p1,p2⟩:=R.part k0 k1;refine (R.eqv x y h0 h1 k0 k1).trans ⟨fun ⟨p,hp,hx,hy⟩=>?_,fun h=>⟨_,p1,h,p2⟩⟩;rw [←R.one p hp _ p1 y hy p2];exact hx
theorem Rl.same {ps:List (List Int)}(R:Rl m gs ps){x y:Int}(h0:0≤x)(h1:x<m)(k0:0≤y)(k1:y<m):tm gs x=tm gs y↔eS ps x=eS ps y:=by
 refine (R.is h0 h1 k0 k1).trans ⟨fun h=>?_,fun h=>?_⟩
 ·exact R.one _ (R.part h0 h1).1 _ (R.part k0 k1).1 x (R.part h0 h1).2 h
 ·rw [←h];exact (R.part h0 h1).2
theorem kQ {u v x:Int}(h0:0≤x)(h1:x<gs.length):tm (iT gs u v) x=if tm gs x=v then u else tm gs x:=by
 obtain ⟨j,rfl⟩:=cM h0;have hj:j<gs.length:=by lia
 unfold tm iT;simp only [cL,ai,ax,gE hj,gv,Option.getD_some]
theorem Rl.join {ps:List (List Int)}(R:Rl m gs ps){a:Int}(a0:0≤a)(a1:a<m)(b0:0≤b)(b1:b<m) :
  Rl m (iT gs (tm gs a) (tm gs b)) (ps.filter (fun p=> !(decide (p=eS ps a)) && !(decide (p=eS ps b)))++[eS ps a++eS ps b]):=by
 obtain ⟨pa,ha⟩:=R.part a0 a1;obtain ⟨pb,hb⟩:=R.part b0 b1;have mem:∀ p,p∈ps.filter (fun p=> !(decide (p=eS ps a)) && !(decide (p=eS ps b)))++[eS ps a++eS ps b]↔(p∈ps∧p≠eS ps a∧p≠eS ps b)∨p=eS ps a++eS ps b:=fun p=>by
  rw [aN,bW,aw];simp only [dM,jy,decide_eq_false_iff_not,ne_eq]
 have uni:∀ p∈ps,p≠eS ps a→p≠eS ps b→∀ x,x∈p→x ∉ eS ps a++eS ps b:=fun p hp n1 n2 x hx hz=>by
  rcases aN.mp hz with hz | hz
  ·exact n1 (R.one p hp _ pa x hx hz)
  ·exact n2 (R.one p hp _ pb x hx hz)
 refine ⟨by unfold iT;rw [aa];exact R.len,fun x h0 h1=>?_,fun p hp q hq x hx hy=>?_,fun x y h0 h1 k0 k1=>?_⟩
 ·obtain ⟨p,hp,hx⟩:=R.cov x h0 h1
  by_cases e1:p=eS ps a
  ·exact ⟨_,(mem _).mpr (.inr rfl),aM _ (e1 ▸ hx)⟩
  ·by_cases e2:p=eS ps b
   ·exact ⟨_,(mem _).mpr (.inr rfl),aA _ (e2 ▸ hx)⟩
   ·exact ⟨p,(mem p).mpr (.inl ⟨hp,e1,e2⟩),hx⟩
 ·rcases (mem p).mp hp with ⟨p1,p2,p3⟩ | rfl
  ·rcases (mem q).mp hq with ⟨q1,q2,q3⟩ | rfl
   ·exact R.one p p1 q q1 x hx hy
   ·exact rL hy (uni p p1 p2 p3 x hx)
  ·rcases (mem q).mp hq with ⟨q1,q2,q3⟩ | rfl
   ·exact rL hx (uni q q1 q2 q3 x hy)
   ·rfl
 ·rw [kQ h0 (by rw [R.len];exact h1),kQ k0 (by rw [R.len];exact k1)]
  have xa:=R.is h0 h1 a0 a1;have xb:=R.is h0 h1 b0 b1;have ya:=R.is k0 k1 a0 a1;have yb:=R.is k0 k1 b0 b1;have xy:=R.eqv x y h0 h1 k0 k1
  constructor
  ·intro h
   by_cases e:tm gs x=tm gs y
   ·obtain ⟨p,hp,hx,hy⟩:=xy.mp e
    by_cases e1:p=eS ps a
    ·exact ⟨_,(mem _).mpr (.inr rfl),aM _ (e1 ▸ hx),aM _ (e1 ▸ hy)⟩
    ·by_cases e2:p=eS ps b
     ·exact ⟨_,(mem _).mpr (.inr rfl),aA _ (e2 ▸ hx),aA _ (e2 ▸ hy)⟩
     ·exact ⟨p,(mem p).mpr (.inl ⟨hp,e1,e2⟩),hx,hy⟩
   ·refine ⟨_,(mem _).mpr (.inr rfl),?_,?_⟩
    ·by_cases e1:tm gs x=tm gs b
     ·exact aA _ (xb.mp e1)
     ·rw [rG e1] at h
      by_cases e2:tm gs y=tm gs b
      ·rw [rJ e2] at h;exact aM _ (xa.mp h)
      ·rw [rG e2] at h;exact rL h e
    ·by_cases e1:tm gs y=tm gs b
     ·exact aA _ (yb.mp e1)
     ·rw [rG e1] at h
      by_cases e2:tm gs x=tm gs b
      ·rw [rJ e2] at h;exact aM _ (ya.mp h.symm)
      ·rw [rG e2] at h;exact rL h e
  ·rintro ⟨p,hp,hx,hy⟩
   rcases (mem p).mp hp with ⟨p1,p2,p3⟩ | rfl
   ·rw [xy.mpr ⟨p,p1,hx,hy⟩]
   ·have fx:∀ z:Int,(z∈eS ps a→tm gs z=tm gs a)→(z∈eS ps b→tm gs z=tm gs b)→z∈eS ps a++eS ps b→(if tm gs z=tm gs b then tm gs a else tm gs z)=tm gs a:=fun z f1 f2 hz=>by
     by_cases e:tm gs z=tm gs b
     ·rw [rJ e]
     ·rw [rG e]
      rcases aN.mp hz with hz | hz
      ·exact f1 hz
      ·exact rL (f2 hz) e
    rw [fx x xa.mpr xb.mpr hx,fx y ya.mpr yb.mpr hy]
theorem nV {x:Int}(h0:0≤x)(h1:x<m):tm (jS m) x=x:=by
 obtain ⟨j,rfl⟩:=cM h0;unfold tm jS;rw [cL,ai,ax,gX (by lia)];rfl
theorem Rl.start (m:Nat):Rl m (jS m) (prt0 m):=by
 have mem:∀ p,p∈prt0 m↔∃ k:Nat,k<m∧p=[(k:Int)]:=fun p=>by
  unfold prt0;rw [bc];exact ⟨fun ⟨k,a,b⟩=>⟨k,bO.mp a,b.symm⟩,fun ⟨k,a,b⟩=>⟨k,bO.mpr a,b.symm⟩⟩
 refine ⟨by unfold jS;rw [aa,br],fun x h0 h1=>⟨[x],(mem _).mpr ⟨x.toNat,by lia,by rw [eE h0]⟩,aw.mpr rfl⟩,fun p hp q hq x hx hy=>?_,fun x y h0 h1 k0 k1=>?_⟩
 ·obtain ⟨k,_,rfl⟩:=(mem p).mp hp
  obtain ⟨j,_,rfl⟩:=(mem q).mp hq;rw [←aw.mp hx,←aw.mp hy]
 ·rw [nV h0 h1,nV k0 k1]
  refine ⟨fun e=>⟨[x],(mem _).mpr ⟨x.toNat,by lia,by rw [eE h0]⟩,aw.mpr rfl,by rw [e];exact aw.mpr rfl⟩,fun ⟨p,hp,hx,hy⟩=>?_⟩;obtain ⟨k,_,rfl⟩:=(mem p).mp hp;rw [aw.mp hx,aw.mp hy]
def lh (m:Nat)(sp:List Sn):Prop:=∀ x∈sp,0≤x.s∧x.s<m∧0≤x.g∧x.g<m
theorem qq {m:Nat}{sp:List Sn}(E:lh m sp):∀ (π:List Nat) (gs:List Int) (ps:List (List Int)) (tk:List Nat),(∀ i∈π,i<sp.length)→Rl m gs ps→Rl m (π.foldl (fA sp) (gs,tk)).1 (π.foldl (stepQ sp) (ps,tk)).1∧(π.foldl (fA sp) (gs,tk)).2=(π.foldl (stepQ sp) (ps,tk)).2
 | [],gs,ps,tk,_,R=>⟨R,rfl⟩
 | i::π,gs,ps,tk,h,R=>by
  obtain ⟨a0,a1,b0,b1⟩:=E _ (eu (h i bw));have hs:=R.same a0 a1 b0 b1;rw [bK,bK];unfold fA stepQ
  by_cases e:tm gs (sAt sp i).s=tm gs (sAt sp i).g
  ·rw [rJ (show tm (gs,tk).1 _=tm (gs,tk).1 _ from e),rJ (show eS (ps,tk).1 _=eS (ps,tk).1 _ from hs.mp e)]
   exact qq E π gs ps tk (fun j hj=>h j (ay _ hj)) R
  ·rw [rG (show ¬ tm (gs,tk).1 _=tm (gs,tk).1 _ from e),rG (show ¬ eS (ps,tk).1 _=eS (ps,tk).1 _ from fun z=>e (hs.mpr z))]
   exact qq E π _ _ _ (fun j hj=>h j (ay _ hj)) (R.join a0 a1 b0 b1)
theorem kd (sp:List Sn):∀ (π:List Nat) (c:List Int×List Nat),(∀ i∈(π.foldl (fA sp) c).2,i∈c.2∨i∈π)∧(π.foldl (fA sp) c).2.length≤c.2.length+π.length
 | [],c=>⟨fun i h=> .inl h,aE _⟩
 | j::π,c=>by
  obtain ⟨a,b⟩:=kd sp π (fA sp c j);rw [bK];have key:(∀ i∈(fA sp c j).2,i∈c.2∨i=j)∧(fA sp c j).2.length≤c.2.length+1:=by
   unfold fA;split
   ·exact ⟨fun i h=> .inl h,by lia⟩
   ·refine ⟨fun i h=>?_,by rw [av];exact aE _⟩
    rcases aN.mp h with h | h
    ·exact .inl h
    ·exact .inr (aw.mp h)
  refine ⟨fun i hi=>?_,by rw [aZ];lia⟩
  rcases a i hi with h | h
  ·rcases key.1 i h with h | h
   ·exact .inl h
   ·exact .inr (h ▸ bw)
  ·exact .inr (ay _ h)
def IsFor (m:Nat)(sp:List Sn)(ns:List Int):Prop:=∃ π,Ordd sp π∧ns.Perm ((kh sp m π).2.map fun (i:Nat)=>(i:Int))∧ns.Pairwise (· ≤ ·)
theorem IsFor.one {ms:List Int}(a:IsFor m sp ns)(b:IsFor m sp ms):ns=ms:=by
 obtain ⟨π,o1,p1,w1⟩:=a;obtain ⟨ρ,o2,p2,w2⟩:=b;rw [o1.one o2] at p1;exact perm_eq (fun a b h k=>by lia) (p1.trans p2.symm) w1 w2
theorem IsFor.len (a:IsFor m sp ns):ns.length≤sp.length:=by
 obtain ⟨π,o,p,_⟩:=a;rw [p.length_eq,aa];have:=(kd sp π (jS m,[])).2;have h2:=o.len;have h3:((jS m,([]:List Nat)).2).length=0:=rfl;unfold kh;lia
theorem NetT.ends {m:Int}(N:NetT b m sp):lh m.toNat sp:=fun x hx=>by
 obtain ⟨s0,s1,g0,g1,_⟩:=N.all x hx;lia
theorem Tb.tupK {T:ao}(hT:∃ ps,H T=some (.tbl ps))(e:L2.Tb T H H'):TupK H H':=fun q xs h=>e q _ (by obtain ⟨ps,hT⟩:=hT;exact eV h hT nofun) h
theorem LamT.tbl {T:ao}(h:L2.LamT T lp lq H):∃ ps,H T=some (.tbl ps):=by
 rcases h with h | ⟨c,h,_⟩
 ·exact ⟨_,h⟩
 ·exact ⟨_,h⟩
theorem LamT.upd {T:ao}(h:L2.LamT T lp lq H)(ha:∀ p u,H a=some (.frz p u)→False)(hb:∀ ps,H a=some (.tbl ps)→False):L2.LamT T lp lq (upd H a o):=by
 rcases h with h | ⟨c,h,oc,vs,t,e,r⟩
 ·exact .inl (by rw [bC (fun z=>hb _ (z ▸ h))];exact h)
 ·exact .inr ⟨c,by rw [bC (fun z=>hb _ (z ▸ h))];exact h,oc,vs,t,by rw [bC (fun z=>ha _ _ (z ▸ e))];exact e,r⟩
inductive spSpW (T:ao)(lp:Pos)(lq:Str)(vs:List V)(H:Hp)(Q:VK)(_:XK):Prop
 | mk (v b m sp:_)(_:vs=[v])(_:IsD H v (kg b m sp))(_:sp.length≤40)(_:L2.LamT T lp lq H)(_:∀ D H' π,L2.Tb T H H'→L2.LamT T lp lq H'→H' D=none→Ordd sp π→Q (.ref D) (L2.upd H' D (.lst (π.map fun (i:Nat)=>V.int i))))
inductive kU (T:ao)(lp:Pos)(lq:Str)(vs:List V)(H:Hp)(Q:VK)(_:XK):Prop
 | mk (v b m sp:_)(_:vs=[v])(_:IsD H v (kg b m sp))(_:NetT b m sp)(_:L2.LamT T lp lq H)(_:∀ u H' ns,L2.Tb T H H'→L2.LamT T lp lq H'→H' u=some (.tup (ns.map V.int))→IsFor m.toNat sp ns→Q (.ref u) H')
def Finer (m:Nat)(gs hs:List Int):Prop:=∀ x y:Int,0≤x→x<m→0≤y→y<m→tm gs x=tm gs y→tm hs x=tm hs y
theorem Finer.refl (m:Nat)(gs:List Int):Finer m gs gs:=fun _ _ _ _ _ _ h=>h
theorem kJ (gs:List Int)(u v:Int):(iT gs u v).length=gs.length:=by unfold iT;rw [aa]
theorem Finer.wide {hs:List Int}{u v:Int}(F:Finer m gs hs)(l2:hs.length=m):Finer m gs (iT hs u v):=by
 intro x y x0 x1 y0 y1 h;rw [kQ x0 (by lia),kQ y0 (by lia),F x y x0 x1 y0 y1 h]
theorem join_meets {a:Int}(l1:gs.length=m)(a0:0≤a)(a1:a<m)(b0:0≤b)(b1:b<m):tm (iT gs (tm gs a) (tm gs b)) a=tm (iT gs (tm gs a) (tm gs b)) b:=by
 rw [kQ a0 (by lia),kQ b0 (by lia),rJ rfl]
 by_cases e:tm gs a=tm gs b
 ·rw [rJ e]
 ·rw [rG e]
theorem stepG_len {sp:List Sn}:∀ (π:List Nat) (c:List Int×List Nat),(π.foldl (fA sp) c).1.length=c.1.length
 | [],_=>rfl
 | i::π,c=>by
  rw [bK,stepG_len π];unfold fA;split
  ·rfl
  ·exact kJ _ _ _
theorem iP (sp:List Sn)(gs:List Int)(tk:List Nat)(i:Nat):(tm gs (sAt sp i).s=tm gs (sAt sp i).g∧fA sp (gs,tk) i=(gs,tk))∨(tm gs (sAt sp i).s≠tm gs (sAt sp i).g∧fA sp (gs,tk) i=(iT gs (tm gs (sAt sp i).s) (tm gs (sAt sp i).g),tk++[i])):=by
 unfold fA
 by_cases e:tm gs (sAt sp i).s=tm gs (sAt sp i).g
 ·exact .inl ⟨e,rJ e⟩
 ·exact .inr ⟨e,rG e⟩
theorem nI {m:Nat}{sp:List Sn}:∀ (π:List Nat) (gs hs:List Int) (tk:List Nat),hs.length=m→Finer m gs hs→Finer m gs (π.foldl (fA sp) (hs,tk)).1
 | [],_,_,_,_,F=>F
 | i::π,gs,hs,tk,l,F=>by
  rw [bK]
  rcases iP sp hs tk i with ⟨_,e⟩ | ⟨_,e⟩ <;> rw [e]
  ·exact nI π gs hs tk l F
  ·exact nI π gs _ _ (by rw [kJ];exact l) (F.wide l)
theorem j8 {m:Nat}{sp:List Sn}(E:lh m sp):∀ (π:List Nat) (gs:List Int) (tk:List Nat),gs.length=m→(∀ i∈π,i<sp.length)→∀ i∈π,tm (π.foldl (fA sp) (gs,tk)).1 (sAt sp i).s=tm (π.foldl (fA sp) (gs,tk)).1 (sAt sp i).g
 | [],_,_,_,_,i,h=>by cases h
 | j::π,gs,tk,l,hp,i,h=>by
  rw [bK];obtain ⟨a0,a1,b0,b1⟩:=E _ (eu (hp j bw));have hp':∀ i∈π,i<sp.length:=fun k hk=>hp k (ay _ hk)
  rcases iP sp gs tk j with ⟨q,e⟩ | ⟨_,e⟩ <;> rw [e]
  ·rcases aG.mp h with rfl | h
   ·exact nI π gs gs tk l (Finer.refl m gs) _ _ a0 a1 b0 b1 q
   ·exact j8 E π gs tk l hp' i h
  ·have l':(iT gs (tm gs (sAt sp j).s) (tm gs (sAt sp j).g)).length=m:=by rw [kJ];exact l
   rcases aG.mp h with rfl | h
   ·exact nI π _ _ _ l' (Finer.refl m _) _ _ a0 a1 b0 b1 (join_meets l a0 a1 b0 b1)
   ·exact j8 E π _ _ l' hp' i h
theorem tm_mem {x:Int}(h0:0≤x)(h1:x<gs.length):tm gs x∈gs:=by
 obtain ⟨j,rfl⟩:=cM h0;unfold tm;rw [cL,ai,gE (by lia)];exact bt _
theorem mem_tm {v:Int}(h:v∈gs):∃ x:Int,0≤x∧x<gs.length∧tm gs x=v:=by
 obtain ⟨j,hj,e⟩:=i4 h;refine ⟨j,by lia,by lia,?_⟩;unfold tm;rw [cL,ai,gE hj];exact e
def Cnt (m:Nat)(gs:List Int)(k:Nat):Prop:=∃ D:List Int,D.Nodup∧(∀ v,v∈D↔v∈gs)∧D.length+k=m
theorem Cnt.join {k:Nat}(C:Cnt m gs k){u v:Int}(hu:u∈gs)(hv:v∈gs)(n:u≠v):Cnt m (iT gs u v) (k+1):=by
 obtain ⟨D,nd,mem,l⟩:=C;have hvD:=(mem v).mpr hv;refine ⟨D.erase v,nd.erase v,fun z=>?_,by rw [List.length_erase_of_mem hvD];have:=List.length_pos_of_mem hvD;lia⟩;rw [nd.mem_erase_iff,mem];unfold iT;rw [bc]
 constructor
 ·rintro ⟨h1,h2⟩
  exact ⟨z,h2,rG h1⟩
 ·rintro ⟨w,hw,rfl⟩
  by_cases e:w=v
  ·rw [rJ e];exact ⟨n,hu⟩
  ·rw [rG e];exact ⟨e,hw⟩
theorem o4 {m:Nat}{sp:List Sn}(E:lh m sp):∀ (π:List Nat) (gs:List Int) (tk:List Nat),gs.length=m→(∀ i∈π,i<sp.length)→Cnt m gs tk.length→Cnt m (π.foldl (fA sp) (gs,tk)).1 (π.foldl (fA sp) (gs,tk)).2.length
 | [],_,_,_,_,C=>C
 | j::π,gs,tk,l,hp,C=>by
  rw [bK];obtain ⟨a0,a1,b0,b1⟩:=E _ (eu (hp j bw));have hp':∀ i∈π,i<sp.length:=fun k hk=>hp k (ay _ hk)
  rcases iP sp gs tk j with ⟨_,e⟩ | ⟨n,e⟩ <;> rw [e]
  ·exact o4 E π gs tk l hp' C
  ·refine o4 E π _ _ (by rw [kJ];exact l) hp' ?_
   rw [av];exact C.join (tm_mem a0 (by lia)) (tm_mem b0 (by lia)) n
theorem Cnt.start (m:Nat):Cnt m (jS m) 0:=by
 refine ⟨jS m,?_,fun _=>Iff.rfl,by unfold jS;rw [aa,br];lia⟩;unfold jS;rw [bM,fh];exact List.Pairwise.imp (fun {a b} h e=>h (Int.ofNat.inj e)) iN
theorem kR:∀ {l k:List Int},l.Nodup→(∀ x∈l,x∈k)→l.length≤k.length
 | [],_,_,_=>bG _
 | a::l,k,nd,h=>by
  have ha:=h a bw;have ih:=kR (l:=l) (k:=k.erase a) (bJ.mp nd).2 fun x hx=>by
   have hxk:=h x (ay _ hx);have hne:x≠a:=fun z=>(bJ.mp nd).1 (z ▸ hx)
   exact (List.mem_erase_of_ne hne).mpr hxk
  rw [List.length_erase_of_mem ha] at ih;have:=List.length_pos_of_mem ha;rw [aZ];lia
theorem jo (m:Nat):(jS m).length=m:=by unfold jS;rw [aa,br]
def upTo (sp:List Sn)(W:Int)(l:List Nat):List Nat:=l.filter fun i=>decide ((nP sp i).1≤W)
theorem mS (sp:List Sn):∀ (π:List Nat) (gs:List Int) (tk:List Nat),∃ more,(π.foldl (fA sp) (gs,tk)).2=tk++more
 | [],gs,tk=>⟨[],(dZ tk).symm⟩
 | j::π,gs,tk=>by
  rw [bK]
  rcases iP sp gs tk j with ⟨_,e⟩ | ⟨_,e⟩ <;> rw [e]
  ·exact mS sp π gs tk
  ·obtain ⟨more,h⟩:=mS sp π (iT gs (tm gs (sAt sp j).s) (tm gs (sAt sp j).g)) (tk++[j])
   exact ⟨j::more,by rw [h,List.append_assoc];rfl⟩
theorem split_at {sp:List Sn}(W:Int):∀ {π:List Nat},π.Pairwise (fun i j=>ltP (nP sp i) (nP sp j)=true)→∃ suf,π=upTo sp W π++suf
 | [],_=>⟨[],rfl⟩
 | i::π,h=>by
  obtain ⟨h1,h2⟩:=kD.mp h
  by_cases hw:(nP sp i).1≤W
  ·obtain ⟨suf,e⟩:=split_at W h2
   refine ⟨suf,?_⟩;have e1:upTo sp W (i::π)=i::upTo sp W π:=by unfold upTo;rw [dJ,rJ (rM hw)]
   rw [e1,List.cons_append,←e]
  ·refine ⟨i::π,?_⟩
   have e1:upTo sp W (i::π)=[]:=by
    unfold upTo;refine List.filter_eq_nil_iff.mpr fun j hj=>?_
    rw [decide_eq_true_eq]
    rcases aG.mp hj with rfl | hj
    ·exact hw
    ·have:=qd.mp (h1 j hj)
     lia
   rw [e1];rfl
def jE (sp:List Sn)(l:List Nat):Int:=l.foldl (fun c i=>c * ((nP sp i).1+1)) 1
theorem prodW_snoc (sp:List Sn)(l:List Nat)(i:Nat):jE sp (l++[i])=jE sp l * ((nP sp i).1+1):=by unfold jE;rw [dO];rfl
theorem fold_mul (sp:List Sn):∀ (l:List Nat) (c:Int),l.foldl (fun c i=>c * ((nP sp i).1+1)) c=c * jE sp l
 | [],c=>(Int.mul_one c).symm
 | i::l,c=>by
  unfold jE;rw [bK,bK,fold_mul sp l,fold_mul sp l,Int.one_mul,Int.mul_assoc]
theorem l4 (sp:List Sn)(l:List Nat)(i:Nat):jE sp (i::l)=((nP sp i).1+1) * jE sp l:=by
 show l.foldl _ (1 * ((nP sp i).1+1))=_;rw [fold_mul,Int.one_mul]
theorem gone_sorted:∀ (π:List Nat) (gs:List Int),∃ more,(π.foldl (fA sp) (gs,[])).2=more∧more.Sublist π:=by
 have key:∀ (π:List Nat) (gs:List Int) (tk:List Nat),∃ more,(π.foldl (fA sp) (gs,tk)).2=tk++more∧more.Sublist π:=by
  intro π
  induction π with
  | nil=>intro gs tk;exact ⟨[],(dZ tk).symm,List.Sublist.slnil⟩
  | cons j π ih =>
   intro gs tk;rw [bK]
   rcases iP sp gs tk j with ⟨_,e⟩ | ⟨_,e⟩ <;> rw [e]
   ·obtain ⟨more,h1,h2⟩:=ih gs tk
    exact ⟨more,h1,h2.cons j⟩
   ·obtain ⟨more,h1,h2⟩:=ih (iT gs (tm gs (sAt sp j).s) (tm gs (sAt sp j).g)) (tk++[j])
    exact ⟨j::more,by rw [h1,List.append_assoc];rfl,h2.cons_cons j⟩
 intro π gs;obtain ⟨more,h1,h2⟩:=key π gs [];exact ⟨more,by rw [h1,List.nil_append],h2⟩
def lkW (l:List (Int×List Stp))(x:Int):Option (List Stp):=(l.find? fun p=>decide (p.1=x)).map (·.2)
theorem k5 (p:Int×List Stp)(l:List (Int×List Stp))(x:Int):lkW (p::l) x=if p.1=x then some p.2 else lkW l x:=by
 unfold lkW;rw [ia]
 by_cases e:p.1=x
 ·rw [rM e,rJ e];rfl
 ·rw [rN e,rG e]
theorem mw {l:List (Int×List Stp)}{y:Int}{ws:List Stp}(h:lkW l y=none)(x:Int):lkW (l++[(y,ws)]) x=if x=y then some ws else lkW l x:=by
 induction l with
 | nil =>
  show lkW [(y,ws)] x=_;rw [k5]
  by_cases e:x=y
  ·rw [rJ e,rJ e.symm]
  ·rw [rG e,rG (fun z=>e z.symm)]
 | cons p l ih =>
  rw [k5] at h
  by_cases e:p.1=y
  ·rw [rJ e] at h;cases h
  ·rw [rG e] at h
   rw [List.cons_append,k5,k5,ih h]
   by_cases e1:p.1=x
   ·rw [rJ e1,rJ e1,rG (fun z=>e (e1.trans z))]
   ·rw [rG e1,rG e1]
def stF (tk:List Nat):List Stp:=tk.map (fun i=>⟨i,1⟩)++tk.map (fun i=>⟨i,-1⟩)
def dU (sp:List Sn)(tk:List Nat)(x:Int):List Stp:=(stF tk).filter fun s=>decide (lH sp s=x)
def iH (sp:List Sn)(x:Int)(c:List (Int×List Stp)×List Int)(s:Stp):List (Int×List Stp)×List Int :=
 if lkW c.1 (fF sp s)=none then (c.1++[(fF sp s,(lkW c.1 x).getD []++[s])],c.2++[fF sp s]) else c
def lV (l:List Int):Int:=l.getLast?.getD 0
def qO (sp:List Sn)(tk:List Nat)(c:List (Int×List Stp)×List Int):List (Int×List Stp)×List Int :=
 (dU sp tk (lV c.2)).foldl (iH sp (lV c.2)) (c.1,c.2.dropLast)
def itW (sp:List Sn)(tk:List Nat)(be:Int):Nat→List (Int×List Stp)×List Int
 | 0=>([(be,[])],[be])
 | k+1=>qO sp tk (itW sp tk be k)
def WayR (sp:List Sn)(tk:List Nat)(be en:Int)(p:List Stp):Prop:=∃ k,lkW (itW sp tk be k).1 en=some p∧∀ j,j<k→lkW (itW sp tk be j).1 en=none
structure Pth (sp:List Sn)(tk:List Nat)(be x:Int)(ws:List Stp):Prop where
 inn:∀ s∈ws,s.i∈tk∧s.i<sp.length∧(s.d=1∨s.d= -1)
 alo:Along sp be ws x
 one:(ws.map Stp.i).Nodup
 met:(be::ws.map (fF sp)).Nodup
theorem mem_stF {s:Stp}(h:s∈stF tk):s.i∈tk∧(s.d=1∨s.d= -1):=by
 rcases aN.mp h with h | h
 ·obtain ⟨i,hi,rfl⟩:=bc.mp h;exact ⟨hi,.inl rfl⟩
 ·obtain ⟨i,hi,rfl⟩:=bc.mp h;exact ⟨hi,.inr rfl⟩
structure WI (m:Nat)(sp:List Sn)(tk:List Nat)(be:Int)(c:List (Int×List Stp)×List Int):Prop where
 pth:∀ x ws,lkW c.1 x=some ws→Pth sp tk be x ws∧∀ s∈ws,lkW c.1 (lH sp s)≠none∧lkW c.1 (fF sp s)≠none
 rng:∀ x,lkW c.1 x≠none→0≤x∧x<m
 ahd:∀ x∈c.2,lkW c.1 x≠none
 beg:lkW c.1 be≠none
def Clo (sp:List Sn)(tk:List Nat)(ex:Int→Prop)(c:List (Int×List Stp)×List Int):Prop:=∀ x,lkW c.1 x≠none→x ∉ c.2→¬ ex x→∀ s∈dU sp tk x,lkW c.1 (fF sp s)≠none
def nN (l:List (Int×List Stp)):Nat:=(aQ 16).countP fun x=>(lkW l ((x:Nat):Int)).isNone
theorem count_lt' {α:Type}{P Q:α→Bool}:∀ {l:List α},(∀ x∈l,Q x=true→P x=true)→∀ {a:α},a∈l→P a=true→Q a=false→l.countP Q<l.countP P
 | [],_,_,h,_,_=>rL h (by simp)
 | x::l,hPQ,a,h,hP,hQ=>by
  have le:l.countP Q≤l.countP P:=List.countP_mono_left fun y hy=>hPQ y (ay _ hy)
  rw [List.countP_cons,List.countP_cons]
  rcases aG.mp h with rfl | h
  ·rw [hP,hQ];simp;lia
  ·have ih:=count_lt' (P:=P) (Q:=Q) (l:=l) (fun y hy=>hPQ y (ay _ hy)) h hP hQ
   have:=hPQ x (by simp);cases q:Q x with
   | true=>rw [this q];simp;lia
   | false=>simp;lia
theorem cntW_new {l:List (Int×List Stp)}{y:Int}{ws:List Stp}(h:lkW l y=none)(y0:0≤y)(y1:y<16):nN (l++[(y,ws)])<nN l:=by
 unfold nN;obtain ⟨n,rfl⟩:=cM y0;refine count_lt' (a:=n) (fun x _ hx=>?_) (bO.mpr (by lia)) ?_ ?_
 ·rw [mw h] at hx
  split at hx
  ·cases hx
  ·exact hx
 ·show (lkW l ((n:Nat):Int)).isNone=true
  rw [h];rfl
 ·show (lkW (l++[(((n:Nat):Int),ws)]) ((n:Nat):Int)).isNone=false
  rw [mw h,rJ rfl];rfl
theorem lY (E:lh m sp){s:Stp}(hi:s.i<sp.length):0≤fF sp s∧fF sp s<m:=by
 obtain ⟨i,d⟩:=s;have hi:i<sp.length:=hi;rw [kO hi];obtain ⟨a,b,c,e⟩:=E _ (bt hi);unfold too;split
 ·exact ⟨c,e⟩
 ·exact ⟨a,b⟩
theorem visit_ok {x:Int}(E:lh m sp)(m16:m≤16)(ht:∀ i∈tk,i<sp.length){s:Stp}(I:WI m sp tk be c)(hx:lkW c.1 x≠none)(hs:s∈dU sp tk x)(C:Clo sp tk (· =x) c) :
  WI m sp tk be (iH sp x c s)∧Clo sp tk (· =x) (iH sp x c s)∧lkW (iH sp x c s).1 (fF sp s)≠none∧(∀ y,lkW c.1 y≠none→lkW (iH sp x c s).1 y=lkW c.1 y)∧2 * nN (iH sp x c s).1+(iH sp x c s).2.length≤2 * nN c.1+c.2.length∧(iH sp x c s).1.length+nN (iH sp x c s).1≤c.1.length+nN c.1:=by
 obtain ⟨hs1,hs2⟩:=bW.mp hs;have hfr:lH sp s=x:=rO hs2;obtain ⟨hst,hsd⟩:=mem_stF hs1;have hsn:=ht _ hst;have tr:=lY E hsn;unfold iH
 by_cases e:lkW c.1 (fF sp s)=none
 ·rw [rJ e]
  obtain ⟨ws,hws⟩:∃ ws,lkW c.1 x=some ws:=Option.ne_none_iff_exists'.mp hx;have eg:(lkW c.1 x).getD []=ws:=by rw [hws];rfl
  rw [eg];have keep:∀ y,lkW c.1 y≠none→lkW (c.1++[(fF sp s,ws++[s])]) y=lkW c.1 y:=fun y hy=>by
   rw [mw e,rG (fun (z:y=fF sp s)=>hy (by rw [z];exact e))]
  have new:lkW (c.1++[(fF sp s,ws++[s])]) (fF sp s)=some (ws++[s]):=by rw [mw e,rJ rfl]
  have more:∀ y,lkW c.1 y≠none→lkW (c.1++[(fF sp s,ws++[s])]) y≠none:=fun y hy=>by rw [keep y hy];exact hy
  obtain ⟨P,K⟩:=I.pth x ws hws;have hne:∀ st∈ws,st.i=s.i→False:=fun st hst' e2=>by
   obtain ⟨k1,k2⟩:=K st hst'
   rcases ends_of_span (sp:=sp) (st:=st) (d:=s.d) hsn e2 (P.inn st hst').2.2 hsd with z | z
   ·have z:fF sp st=fF sp s:=z
    rw [z] at k2;exact k2 e
   ·have z:lH sp st=fF sp s:=z
    rw [z] at k1;exact k1 e
  have hnew:Pth sp tk be (fF sp s) (ws++[s]):=by
   refine ⟨fun st hst'=>?_,P.alo.append ⟨hfr,rfl⟩,?_,?_⟩
   ·rcases aN.mp hst' with h | h
    ·exact P.inn st h
    ·rw [aw.mp h];exact ⟨hst,hsn,hsd⟩
   ·rw [aB]
    refine jv.mpr ⟨P.one,by simp,fun a ha b hb e3=>?_⟩;obtain ⟨st,hst',rfl⟩:=bc.mp ha;have hb:b=s.i:=by simpa using hb
    exact hne st hst' (by rw [e3,hb])
   ·rw [aB,←List.cons_append]
    refine jv.mpr ⟨P.met,by simp,fun a ha b hb e3=>?_⟩;have hb:b=fF sp s:=by simpa using hb
    subst hb;subst e3
    rcases aG.mp ha with z | z
    ·rw [z] at e;exact I.beg e
    ·obtain ⟨st,hst',e4⟩:=bc.mp z
     exact (K st hst').2 (by rw [e4];exact e)
  refine ⟨⟨fun y vs hy=>?_,fun y hy=>?_,fun y hy=>?_,more _ I.beg⟩,fun y hy hn ex t ht'=>?_,?_,keep,?_,?_⟩
  ·rw [mw e] at hy
   by_cases ey:y=fF sp s
   ·rw [rJ ey] at hy
    cases hy;rw [ey];refine ⟨hnew,fun st hst'=>?_⟩
    rcases aN.mp hst' with h | h
    ·exact ⟨more _ (K st h).1,more _ (K st h).2⟩
    ·rw [aw.mp h,hfr]
     exact ⟨more _ hx,by rw [new];exact fun z=>nomatch z⟩
   ·rw [rG ey] at hy
    obtain ⟨P',K'⟩:=I.pth y vs hy;exact ⟨P',fun st h=>⟨more _ (K' st h).1,more _ (K' st h).2⟩⟩
  ·have hy:lkW (c.1++[(fF sp s,ws++[s])]) y≠none:=hy
   rw [mw e] at hy
   by_cases ey:y=fF sp s
   ·rw [ey];exact tr
   ·rw [rG ey] at hy;exact I.rng y hy
  ·rcases aN.mp hy with h | h
   ·exact more _ (I.ahd y h)
   ·rw [aw.mp h];show lkW (c.1++[(fF sp s,ws++[s])]) (fF sp s)≠none;rw [new];exact fun z=>nomatch z
  ·have hy:lkW (c.1++[(fF sp s,ws++[s])]) y≠none:=hy
   have hn:y ∉ c.2++[fF sp s]:=hn;have ey:y≠fF sp s:=fun z=>hn (aA _ (aw.mpr z))
   rw [mw e,rG ey] at hy;exact more _ (C y hy (fun z=>hn (aM _ z)) ex t ht')
  ·show lkW (c.1++[(fF sp s,ws++[s])]) (fF sp s)≠none
   rw [new];exact fun z=>nomatch z
  ·have:=cntW_new (ws:=ws++[s]) e tr.1 (by lia)
   show 2 * nN (c.1++[(fF sp s,ws++[s])])+(c.2++[fF sp s]).length≤_;rw [av];have:[fF sp s].length=1:=rfl;lia
  ·have:=cntW_new (ws:=ws++[s]) e tr.1 (by lia)
   show (c.1++[(fF sp s,ws++[s])]).length+nN (c.1++[(fF sp s,ws++[s])])≤_;rw [av];have:[(fF sp s,ws++[s])].length=1:=rfl;lia
 ·rw [rG e]
  exact ⟨I,C,e,fun _ _=>rfl,aE _,aE _⟩
theorem o6 {m:Nat}{sp:List Sn}{tk:List Nat}{be x:Int}(E:lh m sp)(m16:m≤16)(ht:∀ i∈tk,i<sp.length):∀ {L:List Stp} {c:List (Int×List Stp)×List Int},WI m sp tk be c→lkW c.1 x≠none→(∀ s∈L,s∈dU sp tk x)→Clo sp tk (· =x) c →
  WI m sp tk be (L.foldl (iH sp x) c)∧Clo sp tk (· =x) (L.foldl (iH sp x) c)∧(∀ s∈L,lkW (L.foldl (iH sp x) c).1 (fF sp s)≠none)∧(∀ y,lkW c.1 y≠none→lkW (L.foldl (iH sp x) c).1 y=lkW c.1 y)∧2 * nN (L.foldl (iH sp x) c).1+(L.foldl (iH sp x) c).2.length≤2 * nN c.1+c.2.length∧(L.foldl (iH sp x) c).1.length+nN (L.foldl (iH sp x) c).1≤c.1.length+nN c.1
 | [],c,I,_,_,C=>⟨I,C,fun _ h=>(by cases h),fun _ _=>rfl,aE _,aE _⟩
 | s::L,c,I,hx,hL,C=>by
  obtain ⟨a1,a2,a3,a4,a5,a6⟩:=visit_ok E m16 ht I hx (hL s bw) C;obtain ⟨b1,b2,b3,b4,b5,b6⟩:=o6 E m16 ht (L:=L) a1 (by rw [a4 x hx];exact hx) (fun t h=>hL t (ay _ h)) a2;rw [bK];refine ⟨b1,b2,fun t h=>?_,fun y hy=>?_,bh b5 a5,bh b6 a6⟩
  ·rcases aG.mp h with rfl | h
   ·rw [b4 _ a3];exact a3
   ·exact b3 t h
  ·rw [b4 y (by rw [a4 y hy];exact hy),a4 y hy]
theorem turn_ok (E:lh m sp)(m16:m≤16)(ht:∀ i∈tk,i<sp.length)(I:WI m sp tk be c)(C:Clo sp tk (fun _=>False) c)(hne:c.2≠[]) :
  WI m sp tk be (qO sp tk c)∧Clo sp tk (fun _=>False) (qO sp tk c)∧2 * nN (qO sp tk c).1+(qO sp tk c).2.length<2 * nN c.1+c.2.length∧(qO sp tk c).1.length+nN (qO sp tk c).1≤c.1.length+nN c.1:=by
 have hl:c.2.getLast? =some (c.2.getLast hne):=List.getLast?_eq_some_getLast hne;have e0:c.2=c.2.dropLast++[lV c.2]:=by
  unfold lV;rw [hl];exact (List.dropLast_concat_getLast hne).symm
 have hmem:lV c.2∈c.2:=by rw [e0];unfold lV;simp
 have hx:=I.ahd _ hmem;have I0:WI m sp tk be (c.1,c.2.dropLast):=⟨I.pth,I.rng,fun y hy=>I.ahd y ((List.dropLast_sublist _).subset hy),I.beg⟩;have C0:Clo sp tk (· =lV c.2) (c.1,c.2.dropLast):=fun y hy hn ex t ht'=>C y hy (fun z=>by
  rw [e0] at z
  rcases aN.mp z with z | z
  ·exact hn z
  ·exact ex (aw.mp z)) (fun z=>z) t ht'
 obtain ⟨b1,b2,b3,b4,b5,b6⟩:=o6 E m16 ht (L:=dU sp tk (lV c.2)) I0 hx (fun _ h=>h) C0;refine ⟨b1,fun y hy hn _ t ht'=>?_,?_,b6⟩
 ·by_cases e:y=lV c.2
  ·subst e;exact b3 t ht'
  ·exact b2 y hy hn e t ht'
 ·have l1:c.2.dropLast.length+1=c.2.length:=by
   have:=rQ List.length e0;rw [av] at this;exact this.symm
  have b5:2 * nN (qO sp tk c).1+(qO sp tk c).2.length≤2 * nN c.1+c.2.dropLast.length:=b5;lia
theorem start_ok (b0:0≤be)(b1:be<m):WI m sp tk be ([(be,[])],[be])∧Clo sp tk (fun _=>False) ([(be,[])],[be]):=by
 have lk:∀ x,lkW [(be,[])] x=if be=x then some [] else none:=fun x=>by rw [k5];rfl
 have kb:∀ x,lkW [(be,([]:List Stp))] x≠none→x=be:=fun x h=>by
  rw [lk] at h
  by_cases e:be=x
  ·exact e.symm
  ·rw [rG e] at h;exact rL rfl h
 have kn:lkW [(be,([]:List Stp))] be≠none:=by rw [lk,rJ rfl];exact fun z=>nomatch z
 refine ⟨⟨fun x ws h=>?_,fun x h=>by rw [kb x h];exact ⟨b0,b1⟩,fun x h=>by rw [aw.mp h];exact kn,kn⟩,fun x h hn=>?_⟩
 ·have h:lkW [(be,[])] x=some ws:=h
  rw [lk] at h
  by_cases e:be=x
  ·rw [rJ e] at h
   cases h;exact ⟨⟨fun _ h=>(nomatch h),e,List.nodup_nil,bJ.mpr ⟨fun h=>(nomatch h),List.nodup_nil⟩⟩,fun _ h=>(nomatch h)⟩
  ·rw [rG e] at h;cases h
 ·exact rL (aw.mpr (kb x h)) hn
def Held (sp:List Sn)(tk:List Nat)(be en:Int):Prop:=∀ S:Int→Prop,(∀ i∈tk,S (sAt sp i).s↔S (sAt sp i).g)→S be→S en
theorem rh (h:i<sp.length):lH sp ⟨i,1⟩=(sAt sp i).s∧fF sp ⟨i,1⟩=(sAt sp i).g∧lH sp ⟨i,-1⟩=(sAt sp i).g∧fF sp ⟨i,-1⟩=(sAt sp i).s:=by
 have e:sAt sp i=sp[i]:=by unfold sAt;rw [ai,gE h];rfl
 rw [mE h,kO h,mE h,kO h,e];unfold frm too;exact ⟨rfl,rfl,rfl,rfl⟩
theorem left_of {en:Int}(ht:∀ i∈tk,i<sp.length)(hh:Held sp tk be en)(I:WI m sp tk be c)(C:Clo sp tk (fun _=>False) c)(hn:lkW c.1 en=none):c.2≠[]:=fun z=>by
 refine hh (fun x=>lkW c.1 x≠none) (fun i hi=>?_) I.beg hn;have hin:=ht i hi;obtain ⟨f1,f2,f3,f4⟩:=rh hin;have m1:(⟨i,1⟩:Stp)∈dU sp tk (sAt sp i).s:=bW.mpr ⟨aM _ (bc.mpr ⟨i,hi,rfl⟩),rM f1⟩;have m2:(⟨i,-1⟩:Stp)∈dU sp tk (sAt sp i).g:=bW.mpr ⟨aA _ (bc.mpr ⟨i,hi,rfl⟩),rM f3⟩
 constructor
 ·intro h
  have:=C _ h (by rw [z];exact cQ) (fun z=>z) _ m1;rw [f2] at this;exact this
 ·intro h
  have:=C _ h (by rw [z];exact cQ) (fun z=>z) _ m2;rw [f4] at this;exact this
theorem held_of {m:Nat}{sp:List Sn}(E:lh m sp)(S:Int→Prop):∀ (π:List Nat) (gs:List Int) (tk:List Nat),gs.length=m→(∀ i∈π,i<sp.length)→(∀ i∈(π.foldl (fA sp) (gs,tk)).2,S (sAt sp i).s↔S (sAt sp i).g) →
  (∀ x y:Int,0≤x→x<m→0≤y→y<m→tm gs x=tm gs y→(S x↔S y))→∀ x y:Int,0≤x→x<m→0≤y→y<m→tm (π.foldl (fA sp) (gs,tk)).1 x=tm (π.foldl (fA sp) (gs,tk)).1 y→(S x↔S y)
 | [],_,_,_,_,_,h=>h
 | j::π,gs,tk,l,hp,hS,h=>by
  rw [bK] at hS ⊢;obtain ⟨a0,a1,b0,b1⟩:=E _ (eu (hp j bw));have hp':∀ i∈π,i<sp.length:=fun k hk=>hp k (ay _ hk)
  rcases iP sp gs tk j with ⟨_,e⟩ | ⟨_,e⟩ <;> rw [e] at hS ⊢
  ·exact held_of E S π gs tk l hp' hS h
  ·refine held_of E S π _ _ (by rw [kJ];exact l) hp' hS fun x y x0 x1 y0 y1 hxy=>?_
   obtain ⟨more,hm⟩:=mS sp π (iT gs (tm gs (sAt sp j).s) (tm gs (sAt sp j).g)) (tk++[j]);have hj:=hS j (by rw [hm];simp);rw [kQ x0 (by lia),kQ y0 (by lia)] at hxy
   by_cases e1:tm gs x=tm gs (sAt sp j).g
   ·have f1:=h x _ x0 x1 b0 b1 e1
    rw [rJ e1] at hxy
    by_cases e2:tm gs y=tm gs (sAt sp j).g
    ·exact f1.trans (h y _ y0 y1 b0 b1 e2).symm
    ·rw [rG e2] at hxy
     exact f1.trans (hj.symm.trans (h _ y a0 a1 y0 y1 hxy))
   ·rw [rG e1] at hxy
    by_cases e2:tm gs y=tm gs (sAt sp j).g
    ·rw [rJ e2] at hxy
     exact (h x _ x0 x1 a0 a1 hxy).trans (hj.trans (h y _ y0 y1 b0 b1 e2).symm)
    ·rw [rG e2] at hxy
     exact h x y x0 x1 y0 y1 hxy
theorem held_span (E:lh m sp)(O:Ordd sp π)(pm:l.Perm (kh sp m π).2){k:Nat}(hk:k<sp.length):Held sp l (sAt sp k).g (sAt sp k).s:=by
 intro S hS hg;have hp:∀ i∈π,i<sp.length:=fun i hi=>O.lt hi
 obtain ⟨a0,a1,b0,b1⟩:=E _ (eu hk);refine (held_of E S π (jS m) [] (jo m) hp (fun i hi=>hS i (pm.mem_iff.mpr hi)) (fun x y x0 x1 y0 y1 h=>?_) _ _ a0 a1 b0 b1 (j8 E π (jS m) [] (jo m) hp k (O.1.mem_iff.mpr (bO.mpr hk)))).mpr hg;rw [nV x0 x1,nV y0 y1] at h;rw [h]
theorem WayR.pth {en:Int}(E:lh m sp)(m16:m≤16)(ht:∀ i∈tk,i<sp.length)(b0:0≤be)(b1:be<m)(hh:Held sp tk be en){p:List Stp}(h:WayR sp tk be en p):Pth sp tk be en p:=by
 obtain ⟨k,h1,h2⟩:=h;have key:∀ j,j≤k→WI m sp tk be (itW sp tk be j)∧Clo sp tk (fun _=>False) (itW sp tk be j):=by
  intro j
  induction j with
  | zero=>intro _;exact start_ok b0 b1
  | succ j ih =>
   intro hj;obtain ⟨I,C⟩:=ih (by lia);obtain ⟨a,b,_⟩:=turn_ok E m16 ht I C (left_of ht hh I C (h2 j (by lia)));exact ⟨a,b⟩
 exact ((key k (aE _)).1.pth en p h1).1
theorem Pth.len {en:Int}{p:List Stp}(E:lh m sp)(b0:0≤be)(b1:be<m)(h:Pth sp tk be en p):p.length+1≤m:=by
 have:=kR h.met (k:=jS m) fun x hx=>by
  have key:∀ x:Int,0≤x→x<m→x∈jS m:=fun x x0 x1=>by
   unfold jS;exact bc.mpr ⟨x.toNat,bO.mpr (by lia),eE x0⟩
  rcases aG.mp hx with rfl | hx
  ·exact key _ b0 b1
  ·obtain ⟨s,hs,rfl⟩:=bc.mp hx
   have t:=lY E (h.inn s hs).2.1;exact key _ t.1 t.2
 rw [aZ,aa,jo] at this;exact this
def jV (pr:Int)(ps:List Int)(s:Stp):List Int:=ps.set s.i (ps.getD s.i 0 - pr * s.d)
def rowP (ps:List Int)(r:Int×List Stp):List Int:=r.2.foldl (jV r.1) ps
def ownM (sp:List Sn)(rows:List (Int×List Stp)):List Int:=rows.foldl rowP (sp.map Sn.w)
theorem kG {pr:Int}:∀ (ws:List Stp) (ps:List Int),(ws.foldl (jV pr) ps).length=ps.length
 | [],_=>rfl
 | s::ws,ps=>by
  rw [bK,kG ws];unfold jV;rw [ft]
theorem oU:∀ (rows:List (Int×List Stp)) (ps:List Int),(rows.foldl rowP ps).length=ps.length
 | [],_=>rfl
 | r::rows,ps=>by
  rw [bK,oU rows];exact kG r.2 ps
theorem own_len (sp:List Sn)(rows:List (Int×List Stp)):(ownM sp rows).length=sp.length:=by
 unfold ownM;rw [oU,aa]
def hasS (k:Nat)(d:Int)(ws:List Stp):Bool:=ws.any fun s=>decide (s.i=k) && decide (s.d=d)
def ownV (k:Nat)(acc pr:Int)(ws:List Stp):Int:=if hasS k (-1) ws=true then (if hasS k 1 ws=true then acc - pr else acc)+pr else (if hasS k 1 ws=true then acc - pr else acc)
def ownS (k:Nat)(acc:Int)(r:Int×List Stp):Int:=ownV k acc r.1 r.2
theorem hasS_no {k:Nat}{d:Int}:∀ {ws:List Stp},k ∉ ws.map Stp.i→hasS k d ws=false
 | [],_=>rfl
 | s::ws,h=>by
  show (decide (s.i=k) && decide (s.d=d) || hasS k d ws)=false;rw [hasS_no (ws:=ws) fun z=>h (by rw [cw];exact ay _ z),rN (fun z=>h (by rw [cw,z];simp))];rfl
theorem steps_at {k:Nat}{pr:Int}:∀ (ws:List Stp) (ps:List Int),k<ps.length→(∀ s∈ws,s.d=1∨s.d= -1)→(ws.map Stp.i).Nodup→(ws.foldl (jV pr) ps).getD k 0=ownV k (ps.getD k 0) pr ws
 | [],_,_,_,_=>rfl
 | s::ws,ps,hk,hd,hn=>by
  rw [cw,bJ] at hn;rw [bK,steps_at ws _ (by unfold jV;rw [ft];exact hk) (fun t ht=>hd t (ay _ ht)) hn.2]
  by_cases e:s.i=k
  ·have h0:∀ d,hasS k d ws=false:=fun d=>hasS_no (by rw [←e];exact hn.1)
   have h1:∀ d,hasS k d (s::ws)=decide (s.d=d):=fun d=>by
    show (decide (s.i=k) && decide (s.d=d) || hasS k d ws)=_;rw [h0,rM e];simp
   have h2:(jV pr ps s).getD k 0=ps.getD k 0 - pr * s.d:=by
    unfold jV;rw [e,ai,d8 hk];rfl
   unfold ownV;rw [h0,h0,h1,h1,h2]
   rcases hd s (by simp) with d1 | d1
   ·rw [d1];simp
   ·rw [d1];simp
  ·have h1:∀ d,hasS k d (s::ws)=hasS k d ws:=fun d=>by
    show (decide (s.i=k) && decide (s.d=d) || hasS k d ws)=_;rw [rN e];simp
   have h2:(jV pr ps s).getD k 0=ps.getD k 0:=by
    unfold jV;rw [ai,dX e,←ai]
   unfold ownV;rw [h1,h1,h2]
structure RwOk (n:Nat)(r:Int×List Stp):Prop where
 inn:qM n r.2
 one:(r.2.map Stp.i).Nodup
 few:r.2.length≤17
 lo: -1000000000000≤r.1
 hi:r.1≤1000000000000
theorem pQ {k n:Nat}:∀ (rows:List (Int×List Stp)) (ps:List Int),k<ps.length→(∀ r∈rows,RwOk n r)→(rows.foldl rowP ps).getD k 0=rows.foldl (ownS k) (ps.getD k 0)
 | [],_,_,_=>rfl
 | r::rows,ps,hk,h=>by
  have hr:=h r (by simp);rw [bK,bK,pQ rows _ (by show k<(r.2.foldl (jV r.1) ps).length;rw [kG];exact hk) fun t ht=>h t (ay _ ht)];congr 1;exact steps_at r.2 ps hk (fun s hs=>(hr.inn s hs).2) hr.one
theorem ownS_abs {k n:Nat}:∀ (rows:List (Int×List Stp)) (a:Int) (m:Nat),a.natAbs≤m→(∀ r∈rows,RwOk n r)→(rows.foldl (ownS k) a).natAbs≤m+rows.length * 2000000000000
 | [],_,_,ha,_=>by simpa using ha
 | r::rows,a,m,ha,h=>by
  have hr:=h r (by simp);have h1:=hr.lo;have h2:=hr.hi;rw [bK];have step:(ownS k a r).natAbs≤m+2000000000000:=by
   show (ownV k a r.1 r.2).natAbs≤_;unfold ownV;split <;> split <;> lia
  have:=ownS_abs (k:=k) (n:=n) rows (ownS k a r) (m+2000000000000) step fun t ht=>h t (ay _ ht)
  rw [aZ];lia
def wOf (sp:List Sn)(k:Nat):Int:=match sp[k]? with | some x=>x.w | none=>0
def lOf (sp:List Sn)(k:Nat):Int:=match sp[k]? with | some x=>x.l | none=>0
def owK (sp:List Sn)(rows:List (Int×List Stp))(k:Nat):Int:=rows.foldl (ownS k) (wOf sp k)
theorem own_at {k:Nat}(hk:k<sp.length)(h:∀ r∈rows,RwOk n r):(ownM sp rows).getD k 0=owK sp rows k:=by
 unfold ownM owK;rw [pQ rows _ (by rw [aa];exact hk) h];congr 1;unfold wOf;rw [ai,ax,gE hk];rfl
theorem owK_abs {k:Nat}(hw:∀ x∈sp,0≤x.w∧x.w≤1000000000000)(h:∀ r∈rows,RwOk n r)(hl:rows.length≤41): -18446744073709551616<owK sp rows k∧owK sp rows k<18446744073709551616:=by
 have:=ownS_abs (k:=k) rows (wOf sp k) 1000000000000 (by
  unfold wOf;cases q:sp[k]? with
  | none=>exact bG _
  | some x =>
   have:=hw x (bj q);show x.w.natAbs≤_;lia) h
 unfold owK;lia
def oA (sp:List Sn)(bs:List (Int×Int))(rows:List (Int×List Stp))(k:Nat):Int:=owK sp rows k * (if owK sp rows k<0 then (bs.getD k (0,0)).2 else (bs.getD k (0,0)).1) - wOf sp k * lOf sp k
def kI (b:Int)(bs:List (Int×Int))(rows:List (Int×List Stp)):Int:=(rows.map fun r=>r.1 * upB b (eU bs r.2) * b).sum
def jA (b:Int)(sp:List Sn)(bs:List (Int×Int))(rows:List (Int×List Stp)):Int:=kI b bs rows+((aQ sp.length).map (oA sp bs rows)).sum
theorem div_absW {x:Int}(hb:0<b):(x / b).natAbs≤x.natAbs:=by
 have e:=gq x b;have r0:=cS x (by lia:b≠0);have r1:=cB x hb;generalize x / b=q at e;generalize x % b=r at e r0 r1
 rcases jO q 0 with hq | hq
 ·have:b * (q+1)≤1 * (q+1):=Int.mul_le_mul_of_nonpos_right (by lia) (by lia)
  rw [Int.mul_add] at this;lia
 ·have:1 * q≤b * q:=Int.mul_le_mul_of_nonneg_right (by lia) hq
  lia
theorem qV {bs:List (Int×Int)}:∀ {ws:List Stp},BsU bs→(eU bs ws).natAbs≤ws.length * 10 ^ 60
 | [],_=>bG _
 | s::ws,h=>by
  have ih:=qV (ws:=ws) h;have k:(oE bs s).natAbs≤10 ^ 60:=by
   unfold oE;cases q:bs[s.i]? with
   | none=>exact bG _
   | some p =>
    obtain ⟨a,b,c⟩:=h p (bj q);have c:p.2<10 ^ 60:=c;show (if s.d=1 then p.1 else -p.2).natAbs≤_;split <;> lia
  have e:eU bs (s::ws)=oE bs s+eU bs ws:=rfl;rw [e,aZ,Nat.add_mul];lia
theorem up_abs {bs:List (Int×Int)}{ws:List Stp}(hb:0<b)(h:BsU bs)(hl:ws.length≤17):(upB b (eU bs ws)).natAbs≤17 * 10 ^ 60:=by
 unfold upB;rw [Int.natAbs_neg];have h1:=div_absW (x:= -eU bs ws) hb;rw [Int.natAbs_neg] at h1;have h2:=qV (ws:=ws) h;have h3:ws.length * 10 ^ 60≤17 * 10 ^ 60:=Nat.mul_le_mul_right _ hl;lia
inductive spOwn (vs:List V)(H:Hp)(Q:VK)(_:XK):Prop
 | mk (v:V)(pr:ao)(b m:Int)(sp:List Sn)(rows:List (Int×List Stp))(_:vs=[v,.ref pr])(_:IsD H v (kg b m sp))(_:sp.length≤40)(_:IsD H (.ref pr) (.tup (rows.map rowD)))(_:(∀ r∈rows,RwOk sp.length r))(_:∀ L H',Same H H'→H' L=some (.lst ((ownM sp rows).map V.int))→Q (.ref L) H')
structure WoArgs (H:Hp)(v vb vl:V)(b m:Int)(sp:List Sn)(bs:List (Int×Int))(rows:List (Int×List Stp)):Prop where
 net:IsD H v (kg b m sp)
 bnd:IsD H vb (bndP bs)
 leaf:IsD H vl (leafP (.price rows))
 b0:0<b
 b61:b<10 ^ 61
 lb:bs.length=sp.length
 few:sp.length≤40
 bu:BsU bs
 ws:∀ x∈sp,0≤x.w∧x.w≤1000000000000
 rw':∀ r∈rows,RwOk sp.length r
 lr:rows.length≤41
inductive spWorth (vs:List V)(H:Hp)(Q:VK)(_:XK):Prop
 | mk (v vb vl:V)(b m:Int)(sp:List Sn)(bs:List (Int×Int))(rows:List (Int×List Stp))(_:vs=[v,vb,vl])(_:WoArgs H v vb vl b m sp bs rows)(_:∀ H',Same H H'→Q (.int (jA b sp bs rows)) H')
end HN
namespace L2
open PySem PySem.Spec PyProof.Rows
def ku:List Int→Int
 | []=>0
 | [a]=>a
 | a::b::l=>if a<ku (b::l) then a else ku (b::l)
theorem least_ok:∀ (l:List Int),l≠[]→ku l∈l∧∀ a∈l,ku l≤a
 | [],h=>rL rfl h
 | [a],_=>⟨by simp [ku],fun x hx=>by rw [aw.mp hx];exact eI _⟩
 | a::b::l,_=>by
  obtain ⟨h1,h2⟩:=least_ok (b::l) (by simp);show (if a<ku (b::l) then a else ku (b::l))∈a::b::l∧∀ x∈a::b::l,(if a<ku (b::l) then a else ku (b::l))≤x;split
  ·refine ⟨bw ..,fun x hx=>?_⟩
   rcases aG.mp hx with rfl | hx
   ·exact eI _
   ·have:=h2 x hx;lia
  ·refine ⟨ay _ h1,fun x hx=>?_⟩
   rcases aG.mp hx with rfl | hx
   ·lia
   ·exact h2 x hx
theorem call_min1 (hc:X.calm=true):CallR X (.builtin "min") (fun xs H Q=>∃ (p:ao) (ns:List Int),xs=[.ref p]∧SqL X.K H p (ns.map V.int)∧ns≠[]∧Q (.int (ku ns)) H):=by
 intro aP s σ H xs us Q I r h;obtain ⟨p,ns,rfl,hq,hne,q⟩:=h;obtain ⟨u,rfl,ru⟩:=nR r;cases (show u=ae.ref p from ru);obtain ⟨its,rv,pl,hz⟩:=I.list hq;have hi:=ny rv;obtain ⟨ys,hx⟩:=hi.allInts.items;have hl':s.heap.IsList p (intItems ys):=hx ▸ pl.isList;have e1:ns=ys.toList.map (·.1):=by
  rw [←nums_intItems,←hx];exact (show numsOf its.toArray.toList=ns from hi.numsOf).symm
 have hsz:0<ys.size:=by
  have:0<ns.length:=nQ.mpr hne;rw [e1,aa,cq] at this;exact this
 refine min_intList (I.ok.hd hc) hl' hsz fun v h' tk hv hk=>?_
 obtain ⟨t,rfl⟩:=intItems_at hv;obtain ⟨b1,b2⟩:=argBest_lt (numAt ys) (ys.size - 1);obtain ⟨l1,l2⟩:=least_ok ns hne;have m1:numAt ys (argBest (fun i j=>decide (numAt ys i<numAt ys j)) (ys.size - 1))∈ns:=by
  rw [e1,numAt_eq];exact getD_mem (by rw [aa,cq];lia)
 have m2:numAt ys (argBest (fun i j=>decide (numAt ys i<numAt ys j)) (ys.size - 1))=ku ns:=by
  refine Int.le_antisymm ?_ (l2 _ m1);have l3:ku ns∈ys.toList.map (·.1):=by rw [←e1];exact l1
  obtain ⟨j,hj,e⟩:=mem_getD l3;rw [aa,cq] at hj;rw [←e,←numAt_eq];exact b2 j (by lia)
 rw [m2];exact ⟨.int (ku ns),H,I.kept (t':=tk) hk,⟨t,rfl⟩,q⟩
end L2
namespace HN
open PySem L2 PyProof.Rows
def lJ (f:Nat→Int):Nat→Int
 | 0=>0
 | n+1=>lJ f n+f n
theorem kE (f:Nat→Int):∀ n,((aQ n).map f).sum=lJ f n
 | 0=>rfl
 | n+1=>by
  rw [List.range_succ,aB,gG,kE f n];show lJ f n+(f n+0)=lJ f n+f n;lia
theorem mR (f g:Nat→Int):∀ n,lJ (fun k=>f k+g k) n=lJ f n+lJ g n
 | 0=>rfl
 | n+1=>by
  show lJ (fun k=>f k+g k) n+(f n+g n)=(lJ f n+f n)+(lJ g n+g n);rw [mR f g n];lia
theorem oM (c:Int)(f:Nat→Int):∀ n,lJ (fun k=>c * f k) n=c * lJ f n
 | 0=>(hX c).symm
 | n+1=>by
  show lJ (fun k=>c * f k) n+c * f n=c * (lJ f n+f n);rw [oM c f n,Int.mul_add]
theorem sumN_le {f g:Nat→Int}:∀ n,(∀ k,k<n→f k≤g k)→lJ f n≤lJ g n
 | 0,_=>eI _
 | n+1,h=>by
  have h1:=sumN_le n fun k hk=>h k (by lia)
  have h2:=h n (by lia);show lJ f n+f n≤lJ g n+g n;lia
theorem ka {f g:Nat→Int}:∀ n,(∀ k,k<n→f k=g k)→lJ f n=lJ g n
 | 0,_=>rfl
 | n+1,h=>by
  show lJ f n+f n=lJ g n+g n;rw [ka n fun k hk=>h k (by lia),h n (by lia)]
theorem sumN_none {i:Nat}{c:Int}{y:Nat→Int}:∀ n,n≤i→lJ (fun k=>(if i=k then c else 0) * y k) n=0
 | 0,_=>rfl
 | n+1,h=>by
  show lJ (fun k=>(if i=k then c else 0) * y k) n+(if i=n then c else 0) * y n=0;rw [sumN_none n (by lia),rG (by lia),fO];rfl
theorem sumN_one {i:Nat}{c:Int}{y:Nat→Int}:∀ n,i<n→lJ (fun k=>(if i=k then c else 0) * y k) n=c * y i
 | 0,h=>rL h (by lia)
 | n+1,h=>by
  show lJ (fun k=>(if i=k then c else 0) * y k) n+(if i=n then c else 0) * y n=c * y i
  by_cases e:i=n
  ·subst e
   rw [sumN_none i (aE _),rJ rfl,gO]
  ·rw [sumN_one n (by lia),rG e,fO,Int.add_zero]
theorem sumN_list {α:Type}(f:α→Int)(xs:List α):∀ n,n≤xs.length→((xs.take n).map f).sum=lJ (fun k=>match xs[k]? with | some x=>f x | none=>0) n
 | 0,_=>rfl
 | n+1,h=>by
  rw [bf,gE (by lia),aB,gG,sumN_list f xs n (by lia)];show _+(f xs[n]+0)=lJ _ n+(match xs[n]? with | some x=>f x | none=>0);rw [gE (by lia)];show _+(f xs[n]+0)=_+f xs[n];lia
def sg (k:Nat):List Stp→Int
 | []=>0
 | s::ws=>(if s.i=k then s.d else 0)+sg k ws
def alg (y:Nat→Int):List Stp→Int
 | []=>0
 | s::ws=>s.d * y s.i+alg y ws
theorem fold_sg {k:Nat}{pr:Int}:∀ (ws:List Stp) (ps:List Int),k<ps.length→(ws.foldl (jV pr) ps).getD k 0=ps.getD k 0 - pr * sg k ws
 | [],ps,_=>by show ps.getD k 0=ps.getD k 0 - pr * 0;rw [hX,Int.sub_zero]
 | s::ws,ps,hk=>by
  rw [bK,fold_sg ws _ (by unfold jV;rw [ft];exact hk)];show _=ps.getD k 0 - pr * ((if s.i=k then s.d else 0)+sg k ws);rw [Int.mul_add]
  by_cases e:s.i=k
  ·have h2:(jV pr ps s).getD k 0=ps.getD k 0 - pr * s.d:=by
    unfold jV;rw [e,ai,d8 hk];rfl
   rw [h2,rJ e];lia
  ·have h2:(jV pr ps s).getD k 0=ps.getD k 0:=by
    unfold jV;rw [ai,dX e,←ai]
   rw [h2,rG e,hX];lia
def sgR (k:Nat):List (Int×List Stp)→Int
 | []=>0
 | r::rows=>r.1 * sg k r.2+sgR k rows
theorem rows_sg {k:Nat}:∀ (rows:List (Int×List Stp)) (ps:List Int),k<ps.length→(rows.foldl rowP ps).getD k 0=ps.getD k 0 - sgR k rows
 | [],ps,_=>by show ps.getD k 0=ps.getD k 0 - 0;rw [Int.sub_zero]
 | r::rows,ps,hk=>by
  rw [bK,rows_sg rows _ (by show k<(r.2.foldl (jV r.1) ps).length;rw [kG];exact hk)];show (r.2.foldl (jV r.1) ps).getD k 0 - sgR k rows=ps.getD k 0 - (r.1 * sg k r.2+sgR k rows);rw [fold_sg r.2 ps hk];lia
theorem owK_sg {k:Nat}(hk:k<sp.length)(h:∀ r∈rows,RwOk n r):owK sp rows k=wOf sp k - sgR k rows:=by
 rw [←own_at hk h];unfold ownM;rw [rows_sg rows _ (by rw [aa];exact hk)];congr 1;unfold wOf;rw [ai,ax,gE hk];rfl
theorem sum_sg {y:Nat→Int}{n:Nat}:∀ (ws:List Stp),(∀ s∈ws,s.i<n)→lJ (fun k=>sg k ws * y k) n=alg y ws
 | [],_=>by
  show lJ (fun k=>0 * y k) n=0;rw [ka (g:=fun _=>0 * 0) n fun k _=>by rw [fO,fO],oM 0 (fun _=>0) n,fO]
 | s::ws,h=>by
  show lJ (fun k=>((if s.i=k then s.d else 0)+sg k ws) * y k) n=s.d * y s.i+alg y ws;rw [ka (g:=fun k=>(if s.i=k then s.d else 0) * y k+sg k ws * y k) n fun k _=>Int.add_mul ..,mR,sumN_one n (h s (by simp)),sum_sg ws fun t ht=>h t (ay _ ht)]
def algR (y:Nat→Int):List (Int×List Stp)→Int
 | []=>0
 | r::rows=>r.1 * alg y r.2+algR y rows
theorem sum_sgR {y:Nat→Int}{n:Nat}:∀ (rows:List (Int×List Stp)),(∀ r∈rows,∀ s∈r.2,s.i<n)→lJ (fun k=>sgR k rows * y k) n=algR y rows
 | [],_=>by
  show lJ (fun k=>0 * y k) n=0;rw [ka (g:=fun _=>0 * 0) n fun k _=>by rw [fO,fO],oM 0 (fun _=>0) n,fO]
 | r::rows,h=>by
  show lJ (fun k=>(r.1 * sg k r.2+sgR k rows) * y k) n=r.1 * alg y r.2+algR y rows;rw [ka (g:=fun k=>r.1 * (sg k r.2 * y k)+sgR k rows * y k) n fun k _=>by rw [Int.add_mul,Int.mul_assoc],mR,oM,sum_sg r.2 (h r (by simp)),sum_sgR rows fun t ht=>h t (ay _ ht)]
def il (b:Int)(ts:List Int)(sp:List Sn)(k:Nat):Int:=match sp[k]? with | some x=>x.l+gi b ts x | none=>0
def InB (y:Nat→Int)(bs:List (Int×Int)):Prop:=∀ k,k<bs.length→(bs.getD k (0,0)).1≤y k∧y k≤(bs.getD k (0,0)).2
theorem lay_in (hb:0<b)(hf:jG b ts sp=true):InB (il b ts sp) (sp.map fun x=>(x.l,x.o)):=fun k hk=>by
 rw [aa] at hk;have e:(sp.map fun x=>(x.l,x.o)).getD k (0,0)=(sp[k].l,sp[k].o):=by
  rw [ai,ax,gE hk];rfl
 have e2:il b ts sp k=sp[k].l+gi b ts sp[k]:=by
  unfold il;rw [gE hk]
 rw [e,e2];have h0:0≤gi b ts sp[k]:=by unfold gi;exact cS _ (by lia)
 have h1:¬ (sp[k].o - sp[k].l<gi b ts sp[k]):=by
  unfold jG at hf;rw [jy,jw] at hf;have:=hf sp[k] (bt hk);unfold brk at this
  simpa using this
 exact ⟨by show sp[k].l≤_;lia,by show _≤sp[k].o;lia⟩
theorem inB_one {y:Nat→Int}{bs:List (Int×Int)}{k:Nat}{a:Int}(h:InB y bs)(ha:y k≤a):InB y (lG bs k a):=fun j hj=>by
 rw [one_len] at hj;have hh:=h j hj;unfold lG;rw [ai]
 by_cases e:k=j
 ·subst e
  rw [d8 hj];exact ⟨hh.1,ha⟩
 ·rw [dX e,←ai]
  exact hh
theorem inB_other {y:Nat→Int}{bs:List (Int×Int)}{k:Nat}{a:Int}(h:InB y bs)(ha:a+1≤y k):InB y (fk bs k a):=fun j hj=>by
 rw [p6] at hj;have hh:=h j hj;unfold fk;rw [ai]
 by_cases e:k=j
 ·subst e
  rw [d8 hj];exact ⟨ha,hh.2⟩
 ·rw [dX e,←ai]
  exact hh
theorem alg_way {b:Int}{ts:List Int}{sp:List Sn}:∀ (ws:List Stp) (x z:Int),qM sp.length ws→Along sp x ws z→∃ Z,alg (il b ts sp) ws=tm ts z - tm ts x+b * Z
 | [],x,z,_,h=>by
  have h:x=z:=h;subst h;exact ⟨0,by show (0:Int)=_;rw [hX];lia⟩
 | s::ws,x,z,hw,h=>by
  obtain ⟨h1,h2⟩:=h;obtain ⟨Z,hZ⟩:=alg_way (b:=b) (ts:=ts) ws _ z (fun t ht=>hw t (ay _ ht)) h2;obtain ⟨hs,hd⟩:=hw s (by simp);obtain ⟨i,d⟩:=s;have hs:i<sp.length:=hs;have hd:d=1∨d= -1:=hd;have e2:il b ts sp i=sp[i].l+gi b ts sp[i]:=by
   unfold il;rw [gE hs]
  have hm:=gq (tm ts sp[i].g - tm ts sp[i].s - sp[i].l) b;show ∃ Z,d * il b ts sp i+alg (il b ts sp) ws=_;rw [hZ,e2];unfold gi;rw [kO hs] at *;rw [mE hs] at h1;unfold frm at h1;unfold too at *;generalize (tm ts sp[i].g - tm ts sp[i].s - sp[i].l) / b=q at hm;generalize (tm ts sp[i].g - tm ts sp[i].s - sp[i].l) % b=r at hm ⊢
  rcases hd with rfl | rfl
  ·rw [rJ rfl] at h1 ⊢
   subst h1;exact ⟨Z - q,by rw [Int.mul_sub];lia⟩
  ·rw [rG (by decide)] at h1 ⊢
   subst h1;exact ⟨Z+q,by rw [Int.mul_add b Z q];lia⟩
theorem alg_lo {y:Nat→Int}{bs:List (Int×Int)}(h:InB y bs):∀ (ws:List Stp),qM bs.length ws→eU bs ws≤alg y ws∧alg y ws≤gC bs ws
 | [],_=>⟨eI _,eI _⟩
 | s::ws,hw=>by
  obtain ⟨i1,i2⟩:=alg_lo h ws fun t ht=>hw t (ay _ ht)
  obtain ⟨hs,hd⟩:=hw s (by simp);obtain ⟨b1,b2⟩:=h s.i hs;have e:bs.getD s.i (0,0)=bs[s.i]:=by rw [ai,gE hs];rfl
  rw [e] at b1 b2;have e1:eU bs (s::ws)=oE bs s+eU bs ws:=rfl;have e2:gC bs (s::ws)=ko bs s+gC bs ws:=rfl;have f1:oE bs s=if s.d=1 then bs[s.i].1 else -bs[s.i].2:=by unfold oE;rw [gE hs]
  have f2:ko bs s=if s.d=1 then bs[s.i].2 else -bs[s.i].1:=by unfold ko;rw [gE hs]
  rw [e1,e2,f1,f2];show _≤s.d * y s.i+alg y ws∧s.d * y s.i+alg y ws≤_
  rcases hd with d1 | d1
  ·rw [d1,rJ rfl,rJ rfl];lia
  ·rw [d1,rG (by decide),rG (by decide)];lia
theorem ring_in {bs:List (Int×Int)}{ws:List Stp}(hb:0<b)(hl:bs.length=sp.length)(h:InB (il b ts sp) bs)(hr:Rg sp ws) :
  ∃ Z,alg (il b ts sp) ws=b * Z∧upB b (eU bs ws)≤Z∧Z≤gC bs ws / b:=by
 obtain ⟨x,hx⟩:=hr.rnd;obtain ⟨Z,hZ⟩:=alg_way (b:=b) (ts:=ts) ws x x hr.inn hx;obtain ⟨l1,l2⟩:=alg_lo h ws (by rw [hl];exact hr.inn);have e:alg (il b ts sp) ws=b * Z:=by lia
 rw [e] at l1 l2;refine ⟨Z,e,?_,?_⟩
 ·unfold upB
  have: -Z≤ -eU bs ws / b:=by
   rw [Int.le_ediv_iff_mul_le hb,Int.neg_mul,Int.mul_comm Z b];lia
  lia
 ·rw [Int.le_ediv_iff_mul_le hb,Int.mul_comm Z b];exact l2
theorem oK:fJ b ts sp=lJ (fun k=>wOf sp k * il b ts sp k - wOf sp k * lOf sp k) sp.length:=by
 unfold fJ;have:=sumN_list (fun x:Sn=>x.w * gi b ts x) sp sp.length (aE _);rw [aX] at this;rw [this];refine ka _ fun k hk=>?_
 unfold wOf il lOf;rw [gE hk];show sp[k].w * gi b ts sp[k]=sp[k].w * (sp[k].l+gi b ts sp[k]) - sp[k].w * sp[k].l;rw [Int.mul_add];lia
theorem rows_in {b:Int}{ts:List Int}{sp:List Sn}{bs:List (Int×Int)}(hb:0<b)(hl:bs.length=sp.length)(h:InB (il b ts sp) bs):∀ (rows:List (Int×List Stp)),(∀ r∈rows,RowOk b sp bs r)→algR (il b ts sp) rows=kI b bs rows
 | [],_=>rfl
 | r::rows,hr=>by
  obtain ⟨h1,h2,_⟩:=hr r (by simp);obtain ⟨Z,e,z1,z2⟩:=ring_in hb hl h h1;have h2:=rO h2;have ez:Z=upB b (eU bs r.2):=by lia
  have ih:=rows_in hb hl h rows fun t ht=>hr t (ay _ ht)
  have e3:kI b bs (r::rows)=r.1 * upB b (eU bs r.2) * b+kI b bs rows:=rfl;show r.1 * alg (il b ts sp) r.2+algR (il b ts sp) rows=_;rw [e3,ih,e,ez,Int.mul_comm b,Int.mul_assoc]
theorem weak {bs:List (Int×Int)}(hb:0<b)(hl:bs.length=sp.length)(h:InB (il b ts sp) bs)(hr:∀ r∈rows,RowOk b sp bs r):jA b sp bs rows≤fJ b ts sp:=by
 have rw1:∀ r∈rows,RwOk sp.length r:=fun r hh=>by
  have q:=hr r hh;exact ⟨q.1.inn,q.1.one,q.1.few,q.2.2.1,q.2.2.2⟩
 have e1:=rows_in hb hl h rows hr;have e2:=sum_sgR (y:=il b ts sp) (n:=sp.length) rows fun r hh s hs=>((rw1 r hh).inn s hs).1
 unfold jA;rw [kE,←e1,←e2,oK,←mR];refine sumN_le _ fun k hk=>?_
 unfold oA;have eo:=owK_sg hk rw1;obtain ⟨h1,h2⟩:=h k (by lia);have key:owK sp rows k * (if owK sp rows k<0 then (bs.getD k (0,0)).2 else (bs.getD k (0,0)).1)≤owK sp rows k * il b ts sp k:=by
  split
  ·rename_i hn
   exact Int.mul_le_mul_of_nonpos_left (Int.le_of_lt hn) h2
  ·rename_i hn
   exact fQ h1 (by lia)
 have ex:owK sp rows k * il b ts sp k=wOf sp k * il b ts sp k - sgR k rows * il b ts sp k:=by rw [eo,Int.sub_mul]
 lia
def longer (b:Nat)(tt:List (List Int)):List (List Int):=tt.flatMap fun t=>(aQ b).map fun c:Nat=>t++[(0:Int)+(c:Nat)]
def allT (b:Nat):Nat→List (List Int)
 | 0=>[[]]
 | n+1=>longer b (allT b n)
theorem Held.more {tk':List Nat}{x y:Int}(h:∀ i∈tk,i∈tk')(k:Held sp tk x y):Held sp tk' x y:=fun S hS=>k S fun i hi=>hS i (h i hi)
theorem Held.trans {x y:Int}(a:Held sp tk x y)(c:Held sp tk y z):Held sp tk x z:=fun S hS h=>c S hS (a S hS h)
theorem Held.symm {x y:Int}(a:Held sp tk x y):Held sp tk y x:=fun S hS h=>fj fun n=>a (fun z=>¬ S z) (fun i hi=>not_congr (hS i hi)) n h
inductive Acy (sp:List Sn):List Nat→Prop where
 | nil:Acy sp []
 | snoc {tk:List Nat} {k:Nat} (h:Acy sp tk) (hk:k<sp.length) (s:∃ S:Int→Prop,(∀ i∈tk,S (sAt sp i).s↔S (sAt sp i).g)∧S (sAt sp k).s∧¬ S (sAt sp k).g):Acy sp (tk++[k])
theorem Acy.pot (h:Acy sp tk)(y:Nat→Int):∃ π:Int→Int,∀ i∈tk,π (sAt sp i).g - π (sAt sp i).s=y i:=by
 induction h with
 | nil=>exact ⟨fun _=>0,fun _ h=>rL h (by simp)⟩
 | snoc h hk s ih =>
  rename_i tk k;obtain ⟨π,hπ⟩:=ih;obtain ⟨S,hS,s1,s2⟩:=s;have dec:∀ x,Decidable (S x):=fun x=>Classical.propDecidable _
  refine ⟨fun x=>if S x then π x else π x+(y k - (π (sAt sp k).g - π (sAt sp k).s)),fun i hi=>?_⟩
  rcases aN.mp hi with hi | hi
  ·have e:=hπ i hi
   have f:=hS i hi;show (if S (sAt sp i).g then _ else _) - (if S (sAt sp i).s then _ else _)=_
   by_cases c:S (sAt sp i).s
   ·rw [rJ c,rJ (f.mp c)];exact e
   ·rw [rG c,rG (fun z=>c (f.mpr z))];lia
  ·rw [aw.mp hi]
   show (if S (sAt sp k).g then _ else _) - (if S (sAt sp k).s then _ else _)=_;rw [rG s2,rJ s1];lia
theorem Acy.nodup (h:Acy sp tk):tk.Nodup∧∀ i∈tk,i<sp.length:=by
 induction h with
 | nil=>exact ⟨List.nodup_nil,fun _ h=>rL h (by simp)⟩
 | snoc h hk s ih =>
  rename_i tk k;obtain ⟨S,hS,s1,s2⟩:=s;refine ⟨jv.mpr ⟨ih.1,by simp,fun a ha c hc e=>?_⟩,fun i hi=>?_⟩
  ·rw [aw.mp hc] at e
   subst e;exact s2 ((hS _ ha).mp s1)
  ·rcases aN.mp hi with hi | hi
   ·exact ih.2 i hi
   ·rw [aw.mp hi];exact hk
structure Pots (sp:List Sn)(tk:List Nat):Prop where
 nodup:tk.Nodup∧∀ i∈tk,i<sp.length
 pot:∀ y:Nat→Int,∃ π:Int→Int,∀ i∈tk,π (sAt sp i).g - π (sAt sp i).s=y i
theorem Acy.pots (h:Acy sp tk):Pots sp tk:=⟨h.nodup,h.pot⟩
theorem Pots.perm (h:Pots sp tk)(p:l.Perm tk):Pots sp l :=
 ⟨⟨p.nodup_iff.mpr h.nodup.1,fun i hi=>h.nodup.2 i (p.mem_iff.mp hi)⟩,fun y=>let ⟨π,k⟩:=h.pot y;⟨π,fun i hi=>k i (p.mem_iff.mp hi)⟩⟩
structure Gd (m:Nat)(sp:List Sn)(gs:List Int)(tk:List Nat):Prop where
 len:gs.length=m
 eq:∀ i∈tk,tm gs (sAt sp i).s=tm gs (sAt sp i).g
 held:∀ x y:Int,0≤x→x<m→0≤y→y<m→tm gs x=tm gs y→Held sp tk x y
 acy:Acy sp tk
 cnt:Cnt m gs tk.length
theorem Gd.start (m:Nat)(sp:List Sn):Gd m sp (jS m) []:=by
 refine ⟨jo m,fun _ h=>rL h (by simp),fun x y x0 x1 y0 y1 e=>?_,.nil,Cnt.start m⟩;rw [nV x0 x1,nV y0 y1] at e;subst e;exact fun S _ h=>h
theorem Gd.step (E:lh m sp)(g:Gd m sp gs tk)(hi:i<sp.length):Gd m sp (fA sp (gs,tk) i).1 (fA sp (gs,tk) i).2:=by
 obtain ⟨s0,s1,g0,g1⟩:=E _ (eu hi);unfold fA
 by_cases e:tm gs (sAt sp i).s=tm gs (sAt sp i).g
 ·rw [rJ e];exact g
 ·rw [rG e]
  have l:=g.len;have old:∀ j∈tk,j<sp.length:=g.acy.nodup.2;have jt:∀ x:Int,0≤x→x<m→tm (iT gs (tm gs (sAt sp i).s) (tm gs (sAt sp i).g)) x=if tm gs x=tm gs (sAt sp i).g then tm gs (sAt sp i).s else tm gs x:=fun x x0 x1=>kQ x0 (by lia)
  have up:∀ {x y:Int},Held sp tk x y→Held sp (tk++[i]) x y:=fun h=>h.more fun j hj=>aM _ hj
  have ed:Held sp (tk++[i]) (sAt sp i).s (sAt sp i).g:=fun S hS h=>(hS i (aA _ (aw.mpr rfl))).mp h
  refine ⟨by show (iT _ _ _).length=m;rw [kJ];exact l,fun j hj=>?_,fun x y x0 x1 y0 y1 h=>?_,.snoc g.acy hi ⟨fun x=>tm gs x=tm gs (sAt sp i).s,fun j hj=>by show tm gs _=_↔tm gs _=_;rw [g.eq j hj],rfl,fun z=>e z.symm⟩,?_⟩
  ·show tm (iT _ _ _) _=tm (iT _ _ _) _
   rcases aN.mp hj with hj | hj
   ·obtain ⟨a0,a1,b0,b1⟩:=E _ (eu (old j hj))
    rw [jt _ a0 a1,jt _ b0 b1,g.eq j hj]
   ·rw [aw.mp hj,jt _ s0 s1,jt _ g0 g1,rJ rfl,rG e]
  ·have h:tm (iT _ _ _) x=tm (iT _ _ _) y:=h
   rw [jt x x0 x1,jt y y0 y1] at h;show Held sp (tk++[i]) x y
   by_cases c1:tm gs x=tm gs (sAt sp i).g
   ·by_cases c2:tm gs y=tm gs (sAt sp i).g
    ·exact up (g.held x y x0 x1 y0 y1 (c1.trans c2.symm))
    ·rw [rJ c1,rG c2] at h
     exact (up (g.held x _ x0 x1 g0 g1 c1)).trans (ed.symm.trans (up (g.held _ y s0 s1 y0 y1 h)))
   ·by_cases c2:tm gs y=tm gs (sAt sp i).g
    ·rw [rG c1,rJ c2] at h
     exact (up (g.held x _ x0 x1 s0 s1 h)).trans (ed.trans (up (g.held _ y g0 g1 y0 y1 c2.symm)))
    ·rw [rG c1,rG c2] at h
     exact up (g.held x y x0 x1 y0 y1 h)
  ·show Cnt m (iT _ _ _) (tk++[i]).length
   rw [av];exact g.cnt.join (tm_mem s0 (by lia)) (tm_mem g0 (by lia)) e
theorem Gd.fold {m:Nat}{sp:List Sn}(E:lh m sp):∀ (π:List Nat) (gs:List Int) (tk:List Nat),(∀ i∈π,i<sp.length)→Gd m sp gs tk→Gd m sp (π.foldl (fA sp) (gs,tk)).1 (π.foldl (fA sp) (gs,tk)).2
 | [],_,_,_,g=>g
 | i::π,gs,tk,h,g=>by
  rw [bK];exact Gd.fold E π _ _ (fun j hj=>h j (ay _ hj)) (g.step E (h i (by simp)))
theorem Gd.few (g:Gd m sp gs tk)(h:0<m):tk.length<m:=by
 obtain ⟨D,_,mem,l⟩:=g.cnt;have:D≠[]:=fun z=>by
  have h0:tm gs 0∈gs:=tm_mem (eI 0) (by rw [g.len];lia);have:=(mem _).mpr h0;rw [z] at this;cases this
 have:=nQ.mpr this;lia
structure RK (sp:List Sn)(tk:List Nat)(q:Nat×List Stp):Prop where
 lt:q.1<sp.length
 out:q.1 ∉ tk
 way:∃ p,q.2=⟨q.1,1⟩::p∧Pth sp tk (sAt sp q.1).g (sAt sp q.1).s p
theorem RK.rg {m:Int}{q:Nat×List Stp}(N:NetT b m sp)(h:RK sp tk q)(hl:tk.length≤15):Rg sp q.2:=by
 obtain ⟨p,e,P⟩:=h.way;have hk:=h.lt;have eA:sAt sp q.1=sp[q.1]:=by unfold sAt;rw [ai,gE hk];rfl
 rw [e];refine Bk.ring hk (N.all _ (bt hk)).ne ⟨fun s hs=>(P.inn s hs).2,by rw [←eA];exact P.alo,P.one,fun s hs z=>?_⟩ ?_
 ·have z:s.i=q.1:=by lia
  exact h.out (z ▸ (P.inn s hs).1)
 ·have hn:((p.map Stp.i).map fun n:Nat=>(n:Int)).Nodup:=by
   rw [bM,fh];exact (bM.mp P.one).imp fun hh e=>hh (by lia)
  have:=kR (l:=(p.map Stp.i).map fun n:Nat=>(n:Int)) (k:=tk.map fun n:Nat=>(n:Int)) hn fun x hx=>by
   obtain ⟨i,hi,rfl⟩:=bc.mp hx;obtain ⟨s,hs,rfl⟩:=bc.mp hi;exact bc.mpr ⟨_,(P.inn s hs).1,rfl⟩
  rw [aa,aa,aa] at this;lia
structure OB (sp:List Sn)(tk:List Nat)(bs:List (Int×Int)):Prop where
 len:bs.length=sp.length
 out:∀ k,k<sp.length→k ∉ tk→bs.getD k (0,0)=((sAt sp k).l,(sAt sp k).o)
 lo:∀ k,k<sp.length→(sAt sp k).l≤(bs.getD k (0,0)).1∧(bs.getD k (0,0)).1≤(bs.getD k (0,0)).2∧(bs.getD k (0,0)).2≤(sAt sp k).o
theorem iM {bs:List (Int×Int)}{k:Nat}{x:Int×Int}(hj:j<bs.length):(bs.set k x).getD j (0,0)=if k=j then x else bs.getD j (0,0):=by
 rw [ai]
 by_cases e:k=j
 ·subst e
  rw [d8 hj,rJ rfl];rfl
 ·rw [dX e,rG e,←ai]
theorem OB.one {bs:List (Int×Int)}{k:Nat}{a:Int}(h:OB sp tk bs)(hk:k∈tk)(hn:k<sp.length)(h1:(bs.getD k (0,0)).1≤a)(h2:a<(bs.getD k (0,0)).2):OB sp tk (lG bs k a):=by
 have l:=h.len;refine ⟨by rw [one_len];exact l,fun j hj hjn=>?_,fun j hj=>?_⟩
 ·unfold lG
  rw [iM (by lia),rG (fun (z:k=j)=>hjn (z ▸ hk))];exact h.out j hj hjn
 ·unfold lG
  rw [iM (by lia)];have:=h.lo j hj
  by_cases e:k=j
  ·rw [rJ e]
   subst e;exact ⟨this.1,h1,by show a≤_;lia⟩
  ·rw [rG e];exact this
theorem OB.other {bs:List (Int×Int)}{k:Nat}{a:Int}(h:OB sp tk bs)(hk:k∈tk)(hn:k<sp.length)(h1:(bs.getD k (0,0)).1≤a)(h2:a<(bs.getD k (0,0)).2):OB sp tk (fk bs k a):=by
 have l:=h.len;refine ⟨by rw [p6];exact l,fun j hj hjn=>?_,fun j hj=>?_⟩
 ·unfold fk
  rw [iM (by lia),rG (fun (z:k=j)=>hjn (z ▸ hk))];exact h.out j hj hjn
 ·unfold fk
  rw [iM (by lia)];have:=h.lo j hj
  by_cases e:k=j
  ·rw [rJ e]
   subst e;exact ⟨by show _≤a+1;lia,by show a+1≤(bs.getD k (0,0)).2;lia,this.2.2⟩
  ·rw [rG e];exact this
theorem OB.first {m:Int}(N:NetT b m sp)(tk:List Nat):OB sp tk (sp.map fun x=>(x.l,x.o)):=by
 have e:∀ k,k<sp.length→(sp.map fun x=>(x.l,x.o)).getD k (0,0)=((sAt sp k).l,(sAt sp k).o):=fun k hk=>by
  rw [ai,ax,ji hk];rfl
 refine ⟨aa ..,fun k hk _=>e k hk,fun k hk=>?_⟩;rw [e k hk];have:=N.all _ (eu hk);exact ⟨eI _,this.lo,eI _⟩
def kY (sp:List Sn)(rg:List (Nat×List Stp)):List (Int×List Stp):=rg.map fun q=>((sAt sp q.1).w,q.2)
structure Fx (b:Int)(tk:List Nat)(rg:List (Nat×List Stp))(bs:List (Int×Int)):Prop where
 fix:∀ k∈tk,(bs.getD k (0,0)).1=(bs.getD k (0,0)).2
 alive:∀ q∈rg,jH b bs q.2=false
structure FF (m:Int)(sp:List Sn)(tk:List Nat)(rg:List (Nat×List Stp)):Prop where
 acy:Pots sp tk
 few:(tk.length:Int)<m
 rk:∀ q∈rg,RK sp tk q
 all:∀ k,k<sp.length→k ∉ tk→∃ r,(k,r)∈rg
 one:(rg.map (·.1)).Nodup
theorem low_fix {bs:List (Int×Int)}{tk:List Nat}(h:∀ k∈tk,k<bs.length∧(bs.getD k (0,0)).1=(bs.getD k (0,0)).2):∀ (p:List Stp),(∀ s∈p,s.i∈tk∧(s.d=1∨s.d= -1))→eU bs p=alg (fun k=>(bs.getD k (0,0)).1) p∧gC bs p=alg (fun k=>(bs.getD k (0,0)).1) p
 | [],_=>⟨rfl,rfl⟩
 | s::p,hp=>by
  obtain ⟨i1,i2⟩:=low_fix h p fun t ht=>hp t (ay _ ht)
  obtain ⟨h1,h2⟩:=hp s (by simp);obtain ⟨h3,h4⟩:=h s.i h1;have e:bs.getD s.i (0,0)=bs[s.i]:=by rw [ai,gE h3];rfl
  have e1:eU bs (s::p)=oE bs s+eU bs p:=rfl;have e2:gC bs (s::p)=ko bs s+gC bs p:=rfl;have f1:oE bs s=if s.d=1 then bs[s.i].1 else -bs[s.i].2:=by unfold oE;rw [gE h3]
  have f2:ko bs s=if s.d=1 then bs[s.i].2 else -bs[s.i].1:=by unfold ko;rw [gE h3]
  rw [e] at h4;rw [e1,e2,f1,f2,i1,i2];show _=s.d * (bs.getD s.i (0,0)).1+_∧_=s.d * (bs.getD s.i (0,0)).1+_;rw [e]
  rcases h2 with d1 | d1
  ·rw [d1,rJ rfl,rJ rfl];lia
  ·rw [d1,rG (by decide),rG (by decide)];lia
theorem pj {bs:List (Int×Int)}{q:Nat×List Stp}(h:RK sp tk q)(O:OB sp tk bs)(fix:∀ k∈tk,(bs.getD k (0,0)).1=(bs.getD k (0,0)).2) :
  ∃ p,q.2=⟨q.1,1⟩::p∧Pth sp tk (sAt sp q.1).g (sAt sp q.1).s p∧eU bs q.2=(sAt sp q.1).l+alg (fun k=>(bs.getD k (0,0)).1) p∧gC bs q.2=(sAt sp q.1).o+alg (fun k=>(bs.getD k (0,0)).1) p:=by
 obtain ⟨p,e,P⟩:=h.way;have hk:=h.lt;have l:=O.len;obtain ⟨a1,a2⟩:=low_fix (bs:=bs) (tk:=p.map Stp.i) (fun k hk'=>by
  obtain ⟨s,hs,rfl⟩:=bc.mp hk';exact ⟨by rw [l];exact (P.inn s hs).2.1,fix _ (P.inn s hs).1⟩) p fun s hs=>⟨bc.mpr ⟨s,hs,rfl⟩,(P.inn s hs).2.2⟩
 have eb:=O.out q.1 hk h.out;have hb:q.1<bs.length:=by lia
 have e0:bs.getD q.1 (0,0)=bs[q.1]:=by rw [ai,gE hb];rfl
 refine ⟨p,e,P,?_,?_⟩
 ·rw [e,show eU bs (⟨q.1,1⟩::p)=oE bs ⟨q.1,1⟩+eU bs p from rfl,a1]
  congr 1;unfold oE;show (match bs[q.1]? with | some p=>if (1:Int)=1 then p.1 else -p.2 | none=>0)=_;rw [gE hb];show (if (1:Int)=1 then bs[q.1].1 else _)=_;rw [rJ rfl,←e0,eb]
 ·rw [e,show gC bs (⟨q.1,1⟩::p)=ko bs ⟨q.1,1⟩+gC bs p from rfl,a2]
  congr 1;unfold ko;show (match bs[q.1]? with | some p=>if (1:Int)=1 then p.2 else -p.1 | none=>0)=_;rw [gE hb];show (if (1:Int)=1 then bs[q.1].2 else _)=_;rw [rJ rfl,←e0,eb]
theorem beat_one {hi:Int}(hb:0<b)(h:upB b lo≤hi / b)(hw:hi - lo<b):upB b lo=hi / b∧lo≤b * upB b lo∧b * upB b lo≤hi:=by
 have e:=gq (-lo) b;have r0:=cS (-lo) (by lia:b≠0);have r1:=cB (-lo) hb;have e':=gq hi b;have r0':=cS hi (by lia:b≠0);have r1':=cB hi hb;unfold upB at h ⊢;generalize -lo / b=u at *;generalize hi / b=v at *;have m1:b * -u= -(b * u):=Int.mul_neg ..;have h2:b * -u≤b * v:=fQ h (by lia);refine ⟨?_,by lia,by lia⟩
 rcases jO (-u) v with c | c
 ·have:b * (-u+1)≤b * v:=fQ (by lia) (by lia)
  rw [Int.mul_add,Int.mul_one] at this;lia
 ·lia
theorem fx_sure {m:Int}{rg:List (Nat×List Stp)}{bs:List (Int×Int)}(N:NetT b m sp)(f:FF m sp tk rg)(O:OB sp tk bs)(x:Fx b tk rg bs):LfOk b sp bs (.price (kY sp rg)):=by
 have m2:=N.m2;have fw:=f.few;have tl:tk.length≤15:=by lia
 refine ⟨?_,fun r hr=>?_⟩
 ·show (rg.map _).length≤40
  rw [aa];have hn:((rg.map (·.1)).map fun n:Nat=>(n:Int)).Nodup:=by
   rw [bM,fh];exact (bM.mp f.one).imp fun hh e=>hh (by lia)
  have:=kR (l:=(rg.map (·.1)).map fun n:Nat=>(n:Int)) (k:=(aQ sp.length).map fun n:Nat=>(n:Int)) hn fun z hz=>by
   obtain ⟨i,hi,rfl⟩:=bc.mp hz;obtain ⟨q,hq,rfl⟩:=bc.mp hi;exact bc.mpr ⟨_,bO.mpr (f.rk q hq).lt,rfl⟩
  rw [aa,aa,aa,br] at this;have:=N.few;lia
 ·obtain ⟨q,hq,rfl⟩:=bc.mp hr
  have K:=f.rk q hq;have sn:=N.all _ (eu K.lt);refine ⟨K.rg N tl,?_,by have:=sn.w0;show -1000000000000≤(sAt sp q.1).w;lia,sn.w1⟩;obtain ⟨p,e,P,e1,e2⟩:=pj K O x.fix;have al:=x.alive q hq;have al:¬ (upB b (eU bs q.2) > gC bs q.2 / b):=by
   unfold jH at al
   simpa using al
  show decide (upB b (eU bs q.2)=gC bs q.2 / b)=true;refine rM (beat_one (by have:=N.b1;lia) (by lia) ?_).1;have:=sn.ob;rw [e1,e2];lia
theorem alg_pot {sp:List Sn}{tk:List Nat}{y:Nat→Int}{π:Int→Int}(ht:∀ i∈tk,i<sp.length)(hπ:∀ i∈tk,π (sAt sp i).g - π (sAt sp i).s=y i):∀ (p:List Stp) (u z:Int),(∀ s∈p,s.i∈tk∧(s.d=1∨s.d= -1))→Along sp u p z→alg y p=π z - π u
 | [],u,z,_,a=>by
  have a:u=z:=a;subst a;show (0:Int)=_;lia
 | s::p,u,z,hp,a=>by
  obtain ⟨a1,a2⟩:=a;have ih:=alg_pot ht hπ p _ z (fun t h=>hp t (ay _ h)) a2;obtain ⟨h1,h2⟩:=hp s (by simp);obtain ⟨f1,f2,f3,f4⟩:=rh (ht s.i h1);have e:=hπ s.i h1;obtain ⟨i,d⟩:=s
  dsimp only at e f1 f2 f3 f4
  have h2:d=1∨d= -1:=h2;show d * y i+alg y p=_;rw [ih,←a1]
  rcases h2 with rfl | rfl
  ·rw [f1,f2];show 1 * y i+_=_;lia
  ·rw [f3,f4];show -1 * y i+_=_;lia
def potT (b:Int)(π:Int→Int)(m:Nat):List Int:=(aQ m).map fun x:Nat=>(π (x:Nat) - π 0) % b
theorem potT_at {π:Int→Int}{x:Int}(h0:0≤x)(h1:x<m):tm (potT b π m) x=(π x - π 0) % b:=by
 obtain ⟨n,rfl⟩:=cM h0;unfold tm potT;rw [cL,ai,ax,gX (by lia)];rfl
theorem wait_pot {π:Int→Int}{x:Sn}(s0:0≤x.s)(s1:x.s<m)(g0:0≤x.g)(g1:x.g<m):gi b (potT b π m) x=(π x.g - π x.s - x.l) % b:=by
 unfold gi;rw [potT_at s0 s1,potT_at g0 g1,rest_two];congr 1;lia
theorem rest_in {Y l Z:Int}(h0:l≤Y)(h1:Y<l+b):(Y - b * Z - l) % b=Y - l:=by
 rw [show Y - b * Z - l=(Y - l)+b * (-Z) by rw [Int.mul_neg];lia,Int.add_mul_emod_self_left];exact Int.emod_eq_of_lt (by lia) (by lia)
theorem sg_no {k:Nat}:∀ (p:List Stp),(∀ s∈p,s.i≠k)→sg k p=0
 | [],_=>rfl
 | s::p,h=>by
  show (if s.i=k then s.d else 0)+sg k p=0;rw [rG (h s (by simp)),sg_no p fun t ht=>h t (ay _ ht)];rfl
theorem sgR_no {sp:List Sn}{tk:List Nat}{k:Nat}(hk:k ∉ tk):∀ (rg:List (Nat×List Stp)),(∀ q∈rg,RK sp tk q)→k ∉ rg.map (·.1)→sgR k (kY sp rg)=0
 | [],_,_=>rfl
 | q::rg,h,hn=>by
  have ih:=sgR_no hk rg (fun t ht=>h t (ay _ ht)) fun z=>hn (ay _ z)
  show (sAt sp q.1).w * sg k q.2+sgR k (kY sp rg)=0;obtain ⟨p,e,P⟩:=(h q (by simp)).way;rw [ih,e,sg_no _ fun s hs=>?_,hX];rfl
  rcases aG.mp hs with rfl | hs
  ·exact fun z=>hn (by show k∈q.1::_;rw [show k=q.1 from z.symm];simp)
  ·exact fun z=>hk (z ▸ (P.inn s hs).1)
theorem sgR_own {sp:List Sn}{tk:List Nat}{k:Nat}(hk:k ∉ tk):∀ (rg:List (Nat×List Stp)),(∀ q∈rg,RK sp tk q)→(rg.map (·.1)).Nodup→k∈rg.map (·.1)→sgR k (kY sp rg)=(sAt sp k).w
 | [],_,_,h=>rL h (by simp)
 | q::rg,h,hn,hm=>by
  rw [cw,bJ] at hn;show (sAt sp q.1).w * sg k q.2+sgR k (kY sp rg)=_;obtain ⟨p,e,P⟩:=(h q (by simp)).way;have hp:∀ s∈p,s.i≠k:=fun s hs z=>hk (z ▸ (P.inn s hs).1)
  have e2:sg k q.2=if q.1=k then 1 else 0:=by
   rw [e];show (if q.1=k then (1:Int) else 0)+sg k p=_;rw [sg_no p hp,Int.add_zero]
  rw [e2]
  by_cases c:q.1=k
  ·rw [rJ c,c,Int.mul_one,sgR_no hk rg (fun t ht=>h t (ay _ ht)) (c ▸ hn.1),Int.add_zero]
  ·rw [rG c,hX,gO]
   exact sgR_own hk rg (fun t ht=>h t (ay _ ht)) hn.2 ((aG.mp hm).resolve_left fun z=>c z.symm)
theorem mem_allT {b:Nat}:∀ (n:Nat) (ts:List Int),ts.length=n→(∀ x∈ts,0≤x∧x<(b:Int))→ts∈allT b n
 | 0,ts,h,_=>by rw [jg.mp h];exact aw.mpr rfl
 | n+1,ts,h,hx=>by
  have hne:ts≠[]:=fun z=>by rw [z] at h;cases h
  have e:=List.dropLast_concat_getLast hne;have hd:ts.dropLast∈allT b n:=mem_allT n _ (by rw [List.length_dropLast];lia) fun x h'=>hx x ((List.dropLast_sublist _).subset h')
  obtain ⟨l0,l1⟩:=hx _ (List.getLast_mem hne);obtain ⟨c,hc⟩:=cM l0;refine List.mem_flatMap.mpr ⟨ts.dropLast,hd,bc.mpr ⟨c,bO.mpr (by lia),?_⟩⟩;rw [gO];show ts.dropLast++[((c:Nat):Int)]=ts;rw [show ((c:Nat):Int)=ts.getLast hne from hc.symm];exact e
theorem tight {m:Int}{rg:List (Nat×List Stp)}{bs:List (Int×Int)}(N:NetT b m sp)(f:FF m sp tk rg)(O:OB sp tk bs)(x:Fx b tk rg bs) :
  ∃ ts∈allT b.toNat m.toNat,ts.getD 0 0=0∧jG b ts sp=true∧fJ b ts sp=jA b sp bs (kY sp rg):=by
 have hb:0<b:=by have:=N.b1;lia
 have m1:=N.m1;obtain ⟨ht1,ht2⟩:=f.acy.nodup;obtain ⟨π,hπ⟩:=f.acy.pot fun k=>(bs.getD k (0,0)).1
 have eW:∀ k,k<sp.length→gi b (potT b π m.toNat) (sAt sp k)=(π (sAt sp k).g - π (sAt sp k).s - (sAt sp k).l) % b:=fun k hk=>by
  have s:=N.all _ (eu hk);exact wait_pot s.s0 (by have:=s.s1;lia) s.g0 (by have:=s.g1;lia)
 have key:∀ k,k<sp.length→∃ Y,gi b (potT b π m.toNat) (sAt sp k)=Y - (sAt sp k).l∧(bs.getD k (0,0)).1≤Y∧Y≤(bs.getD k (0,0)).2:=fun k hk=>by
  have s:=N.all _ (eu hk);have lo:=O.lo k hk
  by_cases c:k∈tk
  ·have e:=hπ k c
   have fx:=x.fix k c;refine ⟨(bs.getD k (0,0)).1,?_,eI _,by lia⟩;rw [eW k hk,show π (sAt sp k).g - π (sAt sp k).s - (sAt sp k).l=(bs.getD k (0,0)).1 - b * 0 - (sAt sp k).l by rw [hX];lia];exact rest_in lo.1 (by have:=s.ob;lia)
  ·obtain ⟨r,hr⟩:=f.all k hk c
   have K:=f.rk _ hr;obtain ⟨p,e,P,e1,e2⟩:=pj K O x.fix;have al:=x.alive _ hr;have al:¬ (upB b (eU bs r) > gC bs r / b):=by unfold jH at al;simpa using al
   obtain ⟨_,z1,z2⟩:=beat_one hb (lo:=eU bs r) (hi:=gC bs r) (by lia) (by
    have e1:eU bs r=_:=e1;have e2:gC bs r=_:=e2;have:=s.ob;rw [e1,e2];show (sAt sp k).o+_ - ((sAt sp k).l+_)<b;lia)
   have ea:=alg_pot ht2 hπ p _ _ (fun s hs=>⟨(P.inn s hs).1,(P.inn s hs).2.2⟩) P.alo;have e1:eU bs r=(sAt sp k).l+alg (fun k=>(bs.getD k (0,0)).1) p:=e1;have e2:gC bs r=(sAt sp k).o+alg (fun k=>(bs.getD k (0,0)).1) p:=e2;have ea:alg (fun k=>(bs.getD k (0,0)).1) p=π (sAt sp k).s - π (sAt sp k).g:=ea;have eo:=O.out k hk c;rw [eo];refine ⟨b * upB b (eU bs r) - alg (fun k=>(bs.getD k (0,0)).1) p,?_,by show (sAt sp k).l≤_;lia,by show _≤(sAt sp k).o;lia⟩;rw [eW k hk];have hs:=s.ob;have:=rest_in (b:=b) (Y:=b * upB b (eU bs r) - alg (fun k=>(bs.getD k (0,0)).1) p) (l:=(sAt sp k).l) (Z:=upB b (eU bs r)) (by lia) (by lia);rw [←this];congr 1;lia
 have lay:∀ k,k<sp.length→il b (potT b π m.toNat) sp k=(sAt sp k).l+gi b (potT b π m.toNat) (sAt sp k):=fun k hk=>by
  unfold il;rw [ji hk]
 have hin:InB (il b (potT b π m.toNat) sp) bs:=fun k hk=>by
  have hk:k<sp.length:=by rw [←O.len];exact hk
  obtain ⟨Y,e,y1,y2⟩:=key k hk;rw [lay k hk,e]
  constructor <;> lia
 refine ⟨potT b π m.toNat,mem_allT _ _ (by unfold potT;rw [aa,br]) (fun z hz=>?_),?_,?_,?_⟩
 ·obtain ⟨i,_,rfl⟩:=bc.mp hz
  have h0:=cS (π (i:Nat) - π 0) (by lia:b≠0);have h1:=cB (π (i:Nat) - π 0) hb;exact ⟨h0,by lia⟩
 ·have:=potT_at (b:=b) (π:=π) (m:=m.toNat) (x:=0) (eI 0) (by lia)
  rw [Int.sub_self,Int.zero_emod] at this;exact this
 ·unfold jG
  rw [jy,jw];intro s hs;obtain ⟨k,hk,rfl⟩:=i4 hs;have eA:sAt sp k=sp[k]:=by unfold sAt;rw [ai,gE hk];rfl
  obtain ⟨Y,e,y1,y2⟩:=key k hk;have:=(O.lo k hk).2.2;rw [eA] at e this;unfold brk;rw [rN (by lia)];exact aR
 ·have rok:∀ r∈kY sp rg,RowOk b sp bs r:=(fx_sure N f O x).2
  have rw1:∀ r∈kY sp rg,RwOk sp.length r:=fun r hh=>by
   have q:=rok r hh;exact ⟨q.1.inn,q.1.one,q.1.few,q.2.2.1,q.2.2.2⟩
  have e1:=rows_in hb O.len hin _ rok;have e2:=sum_sgR (y:=il b (potT b π m.toNat) sp) (n:=sp.length) (kY sp rg) fun r hh s hs=>((rw1 r hh).inn s hs).1
  unfold jA;rw [kE,←e1,←e2,oK,←mR];refine ka _ fun k hk=>?_
  unfold oA;have eo:=owK_sg hk rw1;have hl:=hin k (by rw [O.len];exact hk);have ew:wOf sp k=(sAt sp k).w:=by unfold wOf;rw [ji hk]
  have keyo:owK sp (kY sp rg) k * (if owK sp (kY sp rg) k<0 then (bs.getD k (0,0)).2 else (bs.getD k (0,0)).1)=owK sp (kY sp rg) k * il b (potT b π m.toNat) sp k:=by
   by_cases c:k∈tk
   ·have fx:=x.fix k c
    have e:il b (potT b π m.toNat) sp k=(bs.getD k (0,0)).1:=by lia
    rw [e];split
    ·rw [←fx]
    ·rfl
   ·have z:owK sp (kY sp rg) k=0:=by
     obtain ⟨r,hr⟩:=f.all k hk c;rw [eo,ew,sgR_own c rg f.rk f.one (bc.mpr ⟨_,hr,rfl⟩),Int.sub_self]
    rw [z,fO,fO]
  have ex:owK sp (kY sp rg) k * il b (potT b π m.toNat) sp k=wOf sp k * il b (potT b π m.toNat) sp k - sgR k (kY sp rg) * il b (potT b π m.toNat) sp k:=by rw [eo,Int.sub_mul]
  lia
def FrstL (m:Nat)(sp:List Sn)(l:List Nat):Prop:=IsFor m sp (l.map fun (i:Nat)=>(i:Int))∧∃ π,Ordd sp π∧l.Perm (kh sp m π).2
theorem p9:∀ {l k:List Nat},l.map (fun (i:Nat)=>(i:Int))=k.map (fun (i:Nat)=>(i:Int))→l=k
 | [],[],_=>rfl
 | [],_::_,h=>by cases h
 | _::_,[],h=>by cases h
 | a::l,b::k,h=>by
  rw [cw,cw] at h;injection h with h1 h2
  have h1:a=b:=by lia
  rw [h1,p9 h2]
theorem FrstL.one {k:List Nat}(a:FrstL m sp l)(b:FrstL m sp k):l=k:=p9 (IsFor.one a.1 b.1)
theorem FrstL.gd (E:lh m sp)(a:FrstL m sp l):∃ gs tk,Gd m sp gs tk∧l.Perm tk∧∀ i,i<sp.length→tm gs (sAt sp i).s=tm gs (sAt sp i).g:=by
 obtain ⟨_,π,O,pm⟩:=a;refine ⟨(kh sp m π).1,(kh sp m π).2,Gd.fold E π _ _ (fun i hi=>O.lt hi) (Gd.start m sp),pm,fun i hi=>?_⟩;exact j8 E π (jS m) [] (jo _) (fun i hi=>O.lt hi) i (O.1.mem_iff.mpr (bO.mpr hi))
theorem FrstL.pots (E:lh m sp)(a:FrstL m sp l):Pots sp l:=by
 obtain ⟨gs,tk,g,p,_⟩:=a.gd E;exact g.acy.pots.perm p
theorem FrstL.few (E:lh m sp)(h:0<m)(a:FrstL m sp l):l.length<m:=by
 obtain ⟨gs,tk,g,p,_⟩:=a.gd E;rw [p.length_eq];exact g.few h
theorem FrstL.held (E:lh m sp)(a:FrstL m sp l){k:Nat}(hk:k<sp.length):Held sp l (sAt sp k).s (sAt sp k).g:=by
 obtain ⟨gs,tk,g,p,me⟩:=a.gd E;obtain ⟨s0,s1,g0,g1⟩:=E _ (eu hk);exact (g.held _ _ s0 s1 g0 g1 (me k hk)).more fun i hi=>p.mem_iff.mpr hi
def pR (sp:List Sn)(tk:List Nat):List Nat:=(aQ sp.length).filter fun k=> !(decide (k∈tk))
structure FR (m:Int)(sp:List Sn)(l:List Nat)(rg:List (Nat×List Stp)):Prop where
 fr:FrstL m.toNat sp l
 rk:∀ q∈rg,RK sp l q
 ks:rg.map (·.1)=pR sp l
theorem FR.ff {m:Int}{rg:List (Nat×List Stp)}(N:NetT b m sp)(a:FR m sp l rg):FF m sp l rg:=by
 have m1:=N.m1;refine ⟨a.fr.pots N.ends,by have:=a.fr.few N.ends (by lia);lia,a.rk,fun k hk hn=>?_,?_⟩
 ·have:k∈rg.map (·.1):=by
   rw [a.ks];exact bW.mpr ⟨bO.mpr hk,by rw [rN hn];rfl⟩
  obtain ⟨q,hq,rfl⟩:=bc.mp this;exact ⟨q.2,hq⟩
 ·rw [a.ks]
  exact iN.filter _
def wayQ (q:Nat×List Stp):Dt:=mf q.2
def iK (k:Nat)(q:Nat×List Stp):Bool:=decide (k∈q.2.map Stp.i)
theorem Tb.lamT {T:ao}(h:L2.LamT T lp lq H)(e:L2.Tb T H H'):TupK H H':=Tb.tupK (LamT.tbl h) e
inductive oP (T:ao)(lp:Pos)(lq:Str)(vs:List V)(H:Hp)(Q:VK)(_:XK):Prop
 | mk (v:V)(b m:Int)(sp:List Sn)(_:vs=[v])(_:IsD H v (kg b m sp))(_:NetT b m sp)(_:L2.LamT T lp lq H)(_:∀ (L:ao) (rl:List V) (l:List Nat) (rg:List (Nat×List Stp)) (H':Hp),L2.Tb T H H'→L2.LamT T lp lq H'→H L=none→H' L=some (.lst rl)→IsDs H' rl (rg.map wayQ)→FR m sp l rg→Q (.ref L) H')
inductive spOverR (vs:List V)(H:Hp)(Q:VK)(_:XK):Prop
 | mk (u:ao)(k:Nat)(rl:List V)(rg:List (Nat×List Stp))(_:vs=[.ref u,.int (k:Nat)])(_:H u=some (.lst rl))(_:IsDs H rl (rg.map wayQ))(_:rg.length≤40)(_:(∀ q∈rg,q.2.length≤1000))(_:∀ (L:ao) (rl':List V) (H':Hp),Same H H'→H L=none→H' L=some (.lst rl')→IsDs H' rl' ((rg.filter (iK k)).map wayQ)→Q (.ref L) H')
structure CsD (H:Hp)(c:ao)(bs:List (Int×Int))(rs:List (Nat×List Stp)):Prop where
 ex:∃ vb u rl,H c=some (.tup [vb,.ref u])∧IsD H vb (bndP bs)∧H u=some (.lst rl)∧IsDs H rl (rs.map wayQ)
theorem CsD.same {c:ao}{bs:List (Int×Int)}(a:CsD H c bs rs)(e:Same H H'):CsD H' c bs rs:=by
 obtain ⟨vb,u,rl,h1,h2,h3,h4⟩:=a.ex;exact ⟨vb,u,rl,e _ _ h1,h2.same e,e _ _ h3,h4.same e⟩
inductive spMid (vs:List V)(H:Hp)(Q:VK)(_:XK):Prop
 | mk (c:ao)(k:Nat)(bs:List (Int×Int))(rs:List (Nat×List Stp))(_:vs=[.ref c,.int (k:Nat)])(_:CsD H c bs rs)(_:k<bs.length)(_:Q (.int (((bs.getD k (0,0)).1+(bs.getD k (0,0)).2) / 2)) H)
inductive pB (vs:List V)(H:Hp)(Q:VK)(_:XK):Prop
 | mk (v:V)(c:ao)(b m:Int)(sp:List Sn)(bs:List (Int×Int))(rs:List (Nat×List Stp))(_:vs=[v,.ref c])(_:IsD H v (kg b m sp))(_:0<b)(_:b<10 ^ 61)(_:CsD H c bs rs)(_:rs.length≤40)(_:(∀ q∈rs,qM bs.length q.2))(_:∀ r H',Same H H'→((r= .non∧∀ q∈rs,jH b bs q.2=false)∨∃ q∈rs,IsD H' r (leafP (.ring q.2))∧jH b bs q.2=true)→Q r H')
inductive Spr (sp:List Sn):List Stp→Prop where
 | nil:Spr sp []
 | snoc {S:List Stp} {s:Stp} (h:Spr sp S) (n:fF sp s≠lH sp s) (o:∀ t∈S,fF sp s≠fF sp t∧fF sp s≠lH sp t):Spr sp (S++[s])
structure SI (m:Nat)(sp:List Sn)(tk:List Nat)(ex:Int→Prop)(R A:List Int)(S:List Stp):Prop where
 rng:∀ r∈R,0≤r∧r<(m:Int)
 nd:R.Nodup
 ahd:∀ a∈A,a∈R
 inn:∀ s∈S,s.i∈tk∧(s.d=1∨s.d= -1)∧lH sp s∈R∧fF sp s∈R
 spr:Spr sp S
 len:S.length≤R.length
 clo:∀ z∈R,z ∉ A→¬ ex z→∀ s∈dU sp tk z,s.i∈S.map Stp.i
 con:∀ π:Int→Int,(∀ s∈S,π (lH sp s)=π (fF sp s))→∀ a c,(a∈A∨ex a)→(c∈A∨ex c)→π a=π c
def exN:Int→Prop:=fun _=>False
section
variable {R A:List Int}
theorem SI.start:SI m sp tk exN [] [] [] :=
 ⟨fun _ h=>(by cases h),List.nodup_nil,fun _ h=>(by cases h),fun _ h=>(by cases h),.nil,aE _,fun _ h=>(by cases h),fun _ _ a c h=>(by rcases h with h | h;cases h;cases h)⟩
theorem SI.root {x:Int}(h:SI m sp tk exN R [] S)(hx:x ∉ R)(x0:0≤x)(x1:x<(m:Int)):SI m sp tk exN (R++[x]) [x] S:=by
 refine ⟨fun r hr=>?_,jv.mpr ⟨h.nd,by simp,fun a ha c hc e=>?_⟩,fun a ha=>aA _ ha,fun s hs=>?_,h.spr,by rw [av];exact Nat.le_succ_of_le h.len,fun z hz hn ex=>?_,fun π _ a c ha hc=>?_⟩
 ·rcases aN.mp hr with z | z
  ·exact h.rng r z
  ·rw [aw.mp z];exact ⟨x0,x1⟩
 ·rw [aw.mp hc] at e
  exact hx (e ▸ ha)
 ·obtain ⟨a,b,c,d⟩:=h.inn s hs
  exact ⟨a,b,aM _ c,aM _ d⟩
 ·rcases aN.mp hz with y | y
  ·exact h.clo z y (by simp) ex
  ·exact rL y hn
 ·rcases ha with ha | ha
  ·rcases hc with hc | hc
   ·rw [aw.mp ha,aw.mp hc]
   ·exact hc.elim
  ·exact ha.elim
theorem SI.pop {x:Int}(h:SI m sp tk exN R (A++[x]) S):SI m sp tk (· =x) R A S∧x∈R:=by
 refine ⟨⟨h.rng,h.nd,fun a ha=>h.ahd a (aM _ ha),h.inn,h.spr,h.len,fun z hz hn ex=>?_,fun π hπ a c ha hc=>?_⟩,h.ahd x (by simp)⟩
 ·refine h.clo z hz (fun y=>?_) id
  rcases aN.mp y with y | y
  ·exact hn y
  ·exact ex (aw.mp y)
 ·have up:∀ a:Int,(a∈A∨a=x)→a∈A++[x]∨exN a:=fun a ha=> .inl (ha.elim (fun z=>aM _ z) fun z=>by rw [z];simp)
  exact h.con π hπ a c (up a ha) (up c hc)
theorem nW {x:Int}{s:Stp}(h:s∈dU sp tk x):(s.i∈tk∧(s.d=1∨s.d= -1))∧lH sp s=x :=
 ⟨mem_stF (bW.mp h).1,rO (bW.mp h).2⟩
theorem pA {x:Int}(h:i∈tk)(hd:d=1∨d= -1)(e:lH sp ⟨i,d⟩=x):(⟨i,d⟩:Stp)∈dU sp tk x:=by
 refine bW.mpr ⟨?_,rM e⟩;unfold stF
 rcases hd with rfl | rfl
 ·exact aM _ (bc.mpr ⟨i,h,rfl⟩)
 ·exact aA _ (bc.mpr ⟨i,h,rfl⟩)
theorem SI.add {x:Int}{s:Stp}(E:lh m sp)(ht:∀ i∈tk,i<sp.length)(h:SI m sp tk (· =x) R A S)(hx:x∈R)(hs:s∈dU sp tk x)(hn:fF sp s ∉ R):SI m sp tk (· =x) (R++[fF sp s]) (A++[fF sp s]) (S++[s]):=by
 obtain ⟨⟨h1,h2⟩,h3⟩:=nW hs;refine ⟨fun r hr=>?_,jv.mpr ⟨h.nd,by simp,fun a ha c hc e=>?_⟩,fun a ha=>?_,fun t hT=>?_,.snoc h.spr (fun z=>hn (by rw [z,h3];exact hx)) (fun t hT=>⟨fun z=>hn (by rw [z];exact (h.inn t hT).2.2.2),fun z=>hn (by rw [z];exact (h.inn t hT).2.2.1)⟩),by rw [av,av];exact Nat.succ_le_succ h.len,fun z hz hz' ex t hT=>?_,fun π hπ=>?_⟩
 ·rcases aN.mp hr with z | z
  ·exact h.rng r z
  ·rw [aw.mp z];exact lY E (ht _ h1)
 ·rw [aw.mp hc] at e
  exact hn (e ▸ ha)
 ·rcases aN.mp ha with z | z
  ·exact aM _ (h.ahd a z)
  ·exact aA _ z
 ·rcases aN.mp hT with z | z
  ·obtain ⟨a,b,c,d⟩:=h.inn t z
   exact ⟨a,b,aM _ c,aM _ d⟩
  ·rw [aw.mp z]
   exact ⟨h1,h2,aM _ (h3 ▸ hx),by simp⟩
 ·rw [aB]
  refine aM _ ?_
  rcases aN.mp hz with y | y
  ·exact h.clo z y (fun y'=>hz' (aM _ y')) ex t hT
  ·exact rL (aA _ y) hz'
 ·have old:∀ t∈S,π (lH sp t)=π (fF sp t):=fun t hT=>hπ t (aM _ hT)
  have new:π (fF sp s)=π x:=by rw [←hπ s (by simp),h3]
  have one:∀ a:Int,(a∈A++[fF sp s]∨a=x)→π a=π x:=fun a ha=>by
   rcases ha with ha | ha
   ·rcases aN.mp ha with z | z
    ·exact h.con π old a x (.inl z) (.inr rfl)
    ·rw [aw.mp z,new]
   ·rw [ha]
  exact fun a c ha hc=>(one a ha).trans (one c hc).symm
theorem SI.has {x:Int}{s:Stp}(P:Pots sp tk)(ne:∀ i∈tk,(sAt sp i).s≠(sAt sp i).g)(h:SI m sp tk (· =x) R A S)(hs:s∈dU sp tk x)(hn:fF sp s∈R):s.i∈S.map Stp.i:=by
 obtain ⟨⟨h1,h2⟩,h3⟩:=nW hs;have lt:=P.nodup.2 _ h1;obtain ⟨f1,f2,f3,f4⟩:=rh lt;have hne:=ne _ h1;obtain ⟨i,d⟩:=s;have h2:d=1∨d= -1:=h2;show i∈_;have h1:i∈tk:=h1;have f1:lH sp ⟨i,1⟩=(sAt sp i).s:=f1;have f2:fF sp ⟨i,1⟩=(sAt sp i).g:=f2;have f3:lH sp ⟨i,-1⟩=(sAt sp i).g:=f3;have f4:fF sp ⟨i,-1⟩=(sAt sp i).s:=f4;have hne:(sAt sp i).s≠(sAt sp i).g:=hne
 by_cases c:fF sp ⟨i,d⟩∈A
 ·refine fj fun no=>?_
  obtain ⟨π,hπ⟩:=P.pot fun k=>if k=i then 1 else 0
  have e:=h.con π (fun t hT=>by
   obtain ⟨t1,t2,_⟩:=h.inn t hT;have e:=hπ _ t1;rw [rG (fun z=>no (bc.mpr ⟨t,hT,z⟩))] at e;obtain ⟨g1,g2,g3,g4⟩:=rh (P.nodup.2 _ t1);obtain ⟨j,dj⟩:=t;have t2:dj=1∨dj= -1:=t2
   dsimp only at e g1 g2 g3 g4
   rcases t2 with rfl | rfl
   ·rw [g1,g2];lia
   ·rw [g3,g4];lia) _ x (.inl c) (.inr rfl)
  have y:=hπ i h1;rw [rJ rfl] at y;rw [←h3] at e
  rcases h2 with rfl | rfl
  ·rw [f1,f2] at e
   dsimp only at e y
   lia
  ·rw [f3,f4] at e
   dsimp only at e y
   lia
 ·rcases h2 with rfl | rfl
  ·rw [f2] at hn c
   exact h.clo _ hn c (fun z=>hne (by rw [←f1,h3];exact z.symm)) ⟨i,-1⟩ (pA h1 (.inr rfl) f3)
  ·rw [f4] at hn c
   exact h.clo _ hn c (fun z=>hne (by rw [←f3,h3];exact z)) ⟨i,1⟩ (pA h1 (.inl rfl) f1)
theorem SI.done {x:Int}(h:SI m sp tk (· =x) R A S)(a:∀ s∈dU sp tk x,s.i∈S.map Stp.i):SI m sp tk exN R A S:=by
 refine ⟨h.rng,h.nd,h.ahd,h.inn,h.spr,h.len,fun z hz hn _=>?_,fun π hπ a c ha hc=>h.con π hπ a c (.inl (ha.elim id dg)) (.inl (hc.elim id dg))⟩
 by_cases e:z=x
 ·rw [e];exact a
 ·exact h.clo z hz hn e
theorem SI.few (h:SI m sp tk exN R A S):R.length≤m:=by
 have:=kR (k:=(aQ m).map fun i:Nat=>(i:Int)) h.nd fun x hx=>by
  obtain ⟨a,b⟩:=h.rng x hx;exact bc.mpr ⟨x.toNat,bO.mpr (by lia),by lia⟩
 rwa [aa,br] at this
theorem SI.fewX {x:Int}(h:SI m sp tk (· =x) R A S):R.length≤m:=by
 have:=kR (k:=(aQ m).map fun i:Nat=>(i:Int)) h.nd fun x hx=>by
  obtain ⟨a,b⟩:=h.rng x hx;exact bc.mpr ⟨x.toNat,bO.mpr (by lia),by lia⟩
 rwa [aa,br] at this
end
structure SprOk (m:Nat)(sp:List Sn)(tk:List Nat)(S:List Stp):Prop where
 spr:Spr sp S
 inn:∀ s∈S,s.i∈tk∧(s.d=1∨s.d= -1)
 all:∀ i∈tk,i∈S.map Stp.i
 len:S.length≤m
theorem SI.ok {R:List Int}(E:lh m sp)(ht:∀ i∈tk,i<sp.length)(h:SI m sp tk exN R [] S)(a:∀ x:Nat,x<m→(x:Int)∈R):SprOk m sp tk S:=by
 refine ⟨h.spr,fun s hs=>⟨(h.inn s hs).1,(h.inn s hs).2.1⟩,fun i hi=>?_,bh h.len h.few⟩;obtain ⟨s0,s1,_,_⟩:=E _ (eu (ht i hi));obtain ⟨f1,_⟩:=rh (ht i hi);have:=a (sAt sp i).s.toNat (by lia);rw [show (((sAt sp i).s.toNat:Nat):Int)=(sAt sp i).s by lia] at this;exact h.clo _ this (by simp) id ⟨i,1⟩ (pA hi (.inl rfl) f1)
def setT (sp:List Sn)(y:Nat→Int)(ts:List Int)(s:Stp):List Int:=ts.set (fF sp s).toNat (tm ts (lH sp s)+s.d * y s.i)
def j9 (sp:List Sn)(y:Nat→Int)(m:Nat)(S:List Stp):List Int:=S.foldl (setT sp y) (bS m 0)
theorem lZ {sp:List Sn}{y:Nat→Int}{m:Nat}:∀ (S:List Stp) (ts:List Int),(S.foldl (setT sp y) ts).length=ts.length
 | [],_=>rfl
 | s::S,ts=>by
  rw [bK,lZ (m:=m) S];exact ft
theorem tm_set {x v:Int}(x0:0≤x)(x1:x<ts.length)(z0:0≤z):tm (ts.set x.toNat v) z=if z=x then v else tm ts z:=by
 unfold tm;rw [ai,ai]
 by_cases e:z=x
 ·rw [rJ e,e,d8 (by lia)];rfl
 ·rw [rG e,dX (by lia)]
theorem tooS_sAt0 {s:Stp}(h:s.i<sp.length):too (sAt sp s.i) s.d=fF sp s∧frm (sAt sp s.i) s.d=lH sp s:=by
 have e:sAt sp s.i=sp[s.i]:=by unfold sAt;rw [ai,gE h];rfl
 rw [e];exact ⟨(kO h).symm,(mE h).symm⟩
theorem timesS_ok {y:Nat→Int}(E:lh m sp)(h:Spr sp S):(∀ s∈S,s.i<sp.length)→∀ s∈S,tm (j9 sp y m S) (fF sp s)=tm (j9 sp y m S) (lH sp s)+s.d * y s.i:=by
 induction h with
 | nil=>exact fun _ s hs=>by cases hs
 | snoc h n o ih =>
  rename_i S s;intro hl t ht;have hl':∀ t∈S,t.i<sp.length:=fun t h'=>hl t (aM _ h')
  have frm_rng:∀ t:Stp,t.i<sp.length→0≤lH sp t:=fun t h'=>by
   have e:=(tooS_sAt0 h').2;obtain ⟨a,b,c,d⟩:=E _ (eu h');rw [←e];unfold frm;split <;> lia
  have e:j9 sp y m (S++[s])=setT sp y (j9 sp y m S) s:=by unfold j9;rw [dO];rfl
  have hs:s.i<sp.length:=hl s (by simp);obtain ⟨x0,x1⟩:=lY E hs;have len:(j9 sp y m S).length=m:=by unfold j9;rw [lZ (m:=m),ix]
  rw [e];unfold setT
  rcases aN.mp ht with z | z
  ·rw [tm_set x0 (by lia) (lY E (hl' t z)).1,tm_set x0 (by lia) (frm_rng t (hl' t z)),rG (fun q=>(o t z).1 q.symm),rG (fun q=>(o t z).2 q.symm)]
   exact ih hl' t z
  ·rw [aw.mp z,tm_set x0 (by lia) x0,tm_set x0 (by lia) (frm_rng s hs),rJ rfl,rG (fun q=>n q.symm)]
theorem SprOk.pot (E:lh m sp)(ht:∀ i∈tk,i<sp.length)(h:SprOk m sp tk S)(y:Nat→Int):∀ i∈tk,tm (j9 sp y m S) (sAt sp i).g - tm (j9 sp y m S) (sAt sp i).s=y i:=fun i hi=>by
 obtain ⟨s,hs,rfl⟩:=bc.mp (h.all i hi);have e:=timesS_ok (y:=y) E h.spr (fun t hT=>ht _ (h.inn t hT).1) s hs;obtain ⟨f1,f2,f3,f4⟩:=rh (ht _ hi);have hd:=(h.inn s hs).2;obtain ⟨i,d⟩:=s
 dsimp only at e f1 f2 f3 f4 hd ⊢
 rcases hd with rfl | rfl
 ·rw [f1,f2] at e;lia
 ·rw [f3,f4] at e;lia
def lowB (bs:List (Int×Int))(k:Nat):Int:=(bs.getD k (0,0)).1
def tabOf (b:Int)(sp:List Sn)(bs:List (Int×Int))(m:Nat)(S:List Stp):List Int:=(j9 sp (lowB bs) m S).map (· % b)
abbrev Cse:=List (Int×Int)×List (Nat×List Stp)
def wdB (bs:List (Int×Int))(k:Nat):Nat:=((bs.getD k (0,0)).2 - (bs.getD k (0,0)).1+1).toNat
def prdN:List Nat→Nat
 | []=>1
 | x::l=>x * prdN l
def fN (bs:List (Int×Int))(l:List Nat):Nat:=prdN (l.map (wdB bs))
theorem mZ {f g:Nat→Nat}:∀ (l:List Nat),(∀ j∈l,f j=g j)→prdN (l.map f)=prdN (l.map g)
 | [],_=>rfl
 | j::l,h=>by
  show f j * _=g j * _;rw [h j (by simp),mZ l fun i hi=>h i (ay _ hi)]
theorem q9 {f g h:Nat→Nat}{k:Nat}(e:f k=g k+h k):∀ (l:List Nat),l.Nodup→k∈l→(∀ j∈l,j≠k→f j=g j∧f j=h j)→prdN (l.map f)=prdN (l.map g)+prdN (l.map h)
 | [],_,hk,_=>rL hk (by simp)
 | j::l,nd,hk,hh=>by
  rw [bJ] at nd;show f j * _=g j * _+h j * _
  by_cases c:j=k
  ·subst c
   have ne:∀ i∈l,i≠j:=fun i hi z=>nd.1 (z ▸ hi)
   rw [←mZ (f:=f) (g:=g) l fun i hi=>(hh i (ay _ hi) (ne i hi)).1,←mZ (f:=f) (g:=h) l fun i hi=>(hh i (ay _ hi) (ne i hi)).2,e,Nat.add_mul]
  ·obtain ⟨a1,a2⟩:=hh j (by simp) c
   rw [q9 e l nd.2 ((aG.mp hk).resolve_left fun z=>c z.symm) fun i hi=>hh i (ay _ hi),Nat.mul_add,←a1,←a2]
theorem prdN_pos {f:Nat→Nat}:∀ (l:List Nat),(∀ j∈l,0<f j)→0<prdN (l.map f)
 | [],_=>Nat.one_pos
 | j::l,h=>Nat.mul_pos (h j (by simp)) (prdN_pos l fun i hi=>h i (ay _ hi))
theorem i7 {bs:List (Int×Int)}(O:OB sp l bs)(hl:∀ k∈l,k<sp.length):0<fN bs l:=prdN_pos l fun j hj=>by
 have:=O.lo j (hl j hj);unfold wdB;lia
theorem mm {bs:List (Int×Int)}{k:Nat}{a:Int}(O:OB sp l bs)(nd:l.Nodup)(hl:∀ k∈l,k<sp.length)(hk:k∈l)(h1:(bs.getD k (0,0)).1≤a)(h2:a<(bs.getD k (0,0)).2):fN bs l=fN (lG bs k a) l+fN (fk bs k a) l:=by
 have hb:=O.len;have hkl:=hl k hk;refine q9 ?_ l nd hk fun j hj hn=>?_
 ·unfold wdB lG fk
  rw [iM (by lia),iM (by lia),rJ rfl,rJ rfl];show _=(a - _+1).toNat+(_ - (a+1)+1).toNat;lia
 ·have hjl:=hl j hj
  unfold wdB lG fk;rw [iM (by lia),iM (by lia),rG (cN hn),rG (cN hn)];exact ⟨rfl,rfl⟩
theorem kZ {sp:List Sn}:∀ (l:List Nat),(∀ k∈l,k<sp.length)→(∀ x∈sp,x.l≤x.o)→((fN (sp.map fun x=>(x.l,x.o)) l:Nat):Int)=jE sp l
 | [],_,_=>rfl
 | k::l,h,p=>by
  have ih:=kZ l (fun j hj=>h j (ay _ hj)) p;rw [l4,←ih];show ((wdB _ k * fN _ l:Nat):Int)=_;have hk:=h k (by simp);have e:(sp.map fun x=>(x.l,x.o)).getD k (0,0)=((sAt sp k).l,(sAt sp k).o):=by rw [ai,ax,ji hk];rfl
  have q:=p _ (eu hk);have e2:((wdB (sp.map fun x=>(x.l,x.o)) k:Nat):Int)=(nP sp k).1+1:=by
   unfold wdB;rw [e];show (((sAt sp k).o - (sAt sp k).l+1).toNat:Int)=(sAt sp k).o - (sAt sp k).l+1;lia
  rw [←e2];exact Int.natCast_mul _ _
structure CaseOk (b:Int)(sp:List Sn)(l:List Nat)(rg:List (Nat×List Stp))(c:Cse):Prop where
 ob:OB sp l c.1
 sub:∀ q∈c.2,q∈rg
 few:c.2.length≤40
 alive:∀ q∈rg,q ∉ c.2→jH b c.1 q.2=false
theorem low_set {bs:List (Int×Int)}{k:Nat}{x:Int×Int}:∀ (ws:List Stp),k ∉ ws.map Stp.i→eU (bs.set k x) ws=eU bs ws∧gC (bs.set k x) ws=gC bs ws
 | [],_=>⟨rfl,rfl⟩
 | s::ws,h=>by
  obtain ⟨i1,i2⟩:=low_set (x:=x) ws fun z=>h (ay _ z)
  have hs:k≠s.i:=fun z=>h (by rw [z];simp)
  have e:(bs.set k x)[s.i]? =bs[s.i]? := dX hs
  constructor
  ·show oE _ s+eU _ ws=oE _ s+eU _ ws
   rw [i1];congr 1;unfold oE;rw [e]
  ·show ko _ s+gC _ ws=ko _ s+gC _ ws
   rw [i2];congr 1;unfold ko;rw [e]
theorem dead_set {bs:List (Int×Int)}{k:Nat}{x:Int×Int}{q:Nat×List Stp}(h:iK k q=false):jH b (bs.set k x) q.2=jH b bs q.2:=by
 obtain ⟨a1,a2⟩:=low_set (bs:=bs) (x:=x) q.2 (of_decide_eq_false h);unfold jH;rw [a1,a2]
theorem CaseOk.cut {rg:List (Nat×List Stp)}{c:Cse}(C:CaseOk b sp l rg c)(lrg:rg.length≤40)(hl:∀ k∈l,k<sp.length)(al:∀ q∈c.2,jH b c.1 q.2=false){k:Nat}{a:Int}(hk:k∈l)(h1:(c.1.getD k (0,0)).1≤a)(h2:a<(c.1.getD k (0,0)).2) :
  CaseOk b sp l rg (fk c.1 k a,rg.filter (iK k))∧CaseOk b sp l rg (lG c.1 k a,rg.filter (iK k)):=by
 have sub:∀ q∈rg.filter (iK k),q∈rg:=fun q hq=>(bW.mp hq).1
 have few:(rg.filter (iK k)).length≤40:=bh (eO _ _) lrg;have all:∀ q∈rg,jH b c.1 q.2=false:=fun q hq=>by
  by_cases z:q∈c.2
  ·exact al q z
  ·exact C.alive q hq z
 have out:∀ q∈rg,q ∉ rg.filter (iK k)→iK k q=false:=fun q hq hn=>iC.mpr fun z=>hn (bW.mpr ⟨hq,z⟩)
 exact ⟨⟨C.ob.other hk (hl k hk) h1 h2,sub,few,fun q hq hn=>(dead_set (out q hq hn)).trans (all q hq)⟩,⟨C.ob.one hk (hl k hk) h1 h2,sub,few,fun q hq hn=>(dead_set (out q hq hn)).trans (all q hq)⟩⟩
theorem qy {bs:List (Int×Int)}{ws:List Stp}(hb:0<b)(hl:bs.length=sp.length)(h:InB (il b ts sp) bs)(hr:Rg sp ws):jH b bs ws=false:=by
 obtain ⟨Z,_,z1,z2⟩:=ring_in hb hl h hr;unfold jH;exact rN (by lia)
theorem key_pot {m:Int}{rg:List (Nat×List Stp)}{bs:List (Int×Int)}(N:NetT b m sp)(f:FF m sp tk rg)(O:OB sp tk bs)(x:Fx b tk rg bs){π:Int→Int}(hπ:∀ i∈tk,π (sAt sp i).g - π (sAt sp i).s=(bs.getD i (0,0)).1)
  (eW:∀ k,k<sp.length→gi b ts (sAt sp k)=(π (sAt sp k).g - π (sAt sp k).s - (sAt sp k).l) % b):∀ k,k<sp.length→(bs.getD k (0,0)).1≤il b ts sp k∧il b ts sp k≤(bs.getD k (0,0)).2:=fun k hk=>by
 have hb:0<b:=by have:=N.b1;lia
 obtain ⟨ht1,ht2⟩:=f.acy.nodup;have s:=N.all _ (eu hk);have lo:=O.lo k hk;have lay:il b ts sp k=(sAt sp k).l+gi b ts (sAt sp k):=by unfold il;rw [ji hk]
 rw [lay];have fin:∀ Y,gi b ts (sAt sp k)=Y - (sAt sp k).l→(bs.getD k (0,0)).1≤Y→Y≤(bs.getD k (0,0)).2→(bs.getD k (0,0)).1≤(sAt sp k).l+gi b ts (sAt sp k)∧(sAt sp k).l+gi b ts (sAt sp k)≤(bs.getD k (0,0)).2:=fun Y e y1 y2=>by lia
 by_cases c:k∈tk
 ·have e:=hπ k c
  have fx:=x.fix k c;refine fin (bs.getD k (0,0)).1 ?_ (eI _) (by lia);rw [eW k hk,show π (sAt sp k).g - π (sAt sp k).s - (sAt sp k).l=(bs.getD k (0,0)).1 - b * 0 - (sAt sp k).l by rw [hX];lia];exact rest_in lo.1 (by have:=s.ob;lia)
 ·obtain ⟨r,hr⟩:=f.all k hk c
  have K:=f.rk _ hr;obtain ⟨p,e,P,e1,e2⟩:=pj K O x.fix;have al:=x.alive _ hr;have al:¬ (upB b (eU bs r) > gC bs r / b):=by unfold jH at al;simpa using al
  obtain ⟨_,z1,z2⟩:=beat_one hb (lo:=eU bs r) (hi:=gC bs r) (by lia) (by
   have e1:eU bs r=_:=e1;have e2:gC bs r=_:=e2;have:=s.ob;rw [e1,e2];show (sAt sp k).o+_ - ((sAt sp k).l+_)<b;lia)
  have ea:=alg_pot ht2 hπ p _ _ (fun s hs=>⟨(P.inn s hs).1,(P.inn s hs).2.2⟩) P.alo;have e1:eU bs r=(sAt sp k).l+alg (fun k=>(bs.getD k (0,0)).1) p:=e1;have e2:gC bs r=(sAt sp k).o+alg (fun k=>(bs.getD k (0,0)).1) p:=e2;have ea:alg (fun k=>(bs.getD k (0,0)).1) p=π (sAt sp k).s - π (sAt sp k).g:=ea;have eo:=O.out k hk c;rw [eo] at fin ⊢;refine fin (b * upB b (eU bs r) - alg (fun k=>(bs.getD k (0,0)).1) p) ?_ (by show (sAt sp k).l≤_;lia) (by show _≤(sAt sp k).o;lia);rw [eW k hk];have hs:=s.ob;have:=rest_in (b:=b) (Y:=b * upB b (eU bs r) - alg (fun k=>(bs.getD k (0,0)).1) p) (l:=(sAt sp k).l) (Z:=upB b (eU bs r)) (by lia) (by lia);rw [←this];congr 1;lia
theorem fits_lay {m:Int}(h:∀ k,k<sp.length→il b ts sp k≤(sAt sp k).o):jG b ts sp=true:=by
 unfold jG;rw [jy,jw];intro s hs;obtain ⟨k,hk,rfl⟩:=i4 hs;have eA:sAt sp k=sp[k]:=by unfold sAt;rw [ai,gE hk];rfl
 have:=h k hk;have lay:il b ts sp k=(sAt sp k).l+gi b ts (sAt sp k):=by unfold il;rw [ji hk]
 rw [lay,eA] at this;unfold brk;rw [rN (by lia)];exact aR
structure Kp (H H':Hp):Prop where
 tup:TupK H H'
 lst:∀ q xs,H q=some (.lst xs)→H' q=some (.lst xs)
 frz:∀ q o xs,H q=some (.frz o (.lst xs))→H' q=some (.frz o (.lst xs))
theorem Same.kp (e:Same H H'):Kp H H':=⟨fun _ _ h=>e _ _ h,fun _ _ h=>e _ _ h,fun _ _ _ h=>e _ _ h⟩
theorem Kp.seq (e:Kp H H')(h:SqL K H a xs):SqL K H' a xs:=by
 rcases h with (h | ⟨o,h⟩) | h
 ·exact .inl (.inl (e.lst _ _ h))
 ·exact .inl (.inr ⟨o,e.frz _ _ _ h⟩)
 ·exact .inr h
theorem Kp.trans (a:Kp H H1)(b:Kp H1 H2):Kp H H2:=⟨fun _ _ h=>b.tup _ _ (a.tup _ _ h),fun _ _ h=>b.lst _ _ (a.lst _ _ h),fun _ _ _ h=>b.frz _ _ _ (a.frz _ _ _ h)⟩
theorem Tb.kp {T:ao}(h:L2.LamT T lp lq H)(e:L2.Tb T H H'):Kp H H':=by
 obtain ⟨ps,hT⟩:=LamT.tbl h;exact ⟨fun q _ h=>e q _ (eV h hT nofun) h,fun q _ h=>e q _ (eV h hT nofun) h,fun q _ _ h=>e q _ (eV h hT nofun) h⟩
theorem Kp.upd {x:ao}{fs:List (Str×V)}(h:H x=some (.ins C dx fs)):Kp H (upd H x o) :=
 ⟨fun q _ hq=>by rw [bC (eV hq h nofun)];exact hq,fun q _ hq=>by rw [bC (eV hq h nofun)];exact hq,fun q _ _ hq=>by rw [bC (eV hq h nofun)];exact hq⟩
theorem LamT.ntb {T U:ao}{lp':Pos}{lq':Str}(h:L2.LamT T lp lq H)(hU:L2.LamT U lp' lq' H)(ne:T≠U)(e:L2.Tb U H H'):L2.LamT T lp lq H':=by
 obtain ⟨ps,hT⟩:=LamT.tbl hU
 rcases h with h | ⟨c,h,oc,vs,t,e1,r⟩
 ·exact .inl (e _ _ ne h)
 ·exact .inr ⟨c,e _ _ ne h,oc,vs,t,e _ _ (eV e1 hT nofun) e1,r⟩
theorem ma {T x:ao}{fs:List (Str×V)}(h:L2.LamT T lp lq H)(hx:H x=some (.ins C dx fs)):L2.LamT T lp lq (L2.upd H x o):=LamT.upd h (fun p u z=>by rw [hx] at z;cases z) (fun ps z=>by rw [hx] at z;cases z)
theorem wayQ_kp {rl:List V}(e:Kp H H')(h:IsDs H rl (rs.map wayQ)):IsDs H' rl (rs.map wayQ):=IsDs.keepP e.tup h (k3 rs fun q _=>mq _ _)
theorem CsD.kp {c:ao}{bs:List (Int×Int)}(a:CsD H c bs rs)(e:Kp H H'):CsD H' c bs rs:=by
 obtain ⟨vb,u,rl,h1,h2,h3,h4⟩:=a.ex;exact ⟨vb,u,rl,e.tup _ _ h1,IsD.keepP e.tup h2 (mq _ _),e.lst _ _ h3,wayQ_kp e h4⟩
structure TchD (H:Hp)(tl:ao)(n:Nat)(rg:List (Nat×List Stp)):Prop where
 ex:∃ tv,H tl=some (.lst tv)∧tv.length=n∧∀ k,k<n→∃ u rl,tv[k]? =some (.ref u)∧H u=some (.lst rl)∧IsDs H rl ((rg.filter (iK k)).map wayQ)
theorem TchD.kp {tl:ao}{rg:List (Nat×List Stp)}(a:TchD H tl n rg)(e:Kp H H'):TchD H' tl n rg:=by
 obtain ⟨tv,h1,h2,h3⟩:=a.ex;refine ⟨tv,e.lst _ _ h1,h2,fun k hk=>?_⟩;obtain ⟨u,rl,a1,a2,a3⟩:=h3 k hk;exact ⟨u,rl,a1,e.lst _ _ a2,wayQ_kp e a3⟩
structure CutD (H:Hp)(C x:ao)(sp:List Sn)(l:List Nat)(rg:List (Nat×List Stp)):Prop where
 ex:∃ (dx c0 tl ol:ao) (ord:List Nat),H x=some (.ins C dx [("first_case",.ref c0),("touched",.ref tl),("order",.ref ol)])∧CsD H c0 (sp.map fun z=>(z.l,z.o)) rg∧TchD H tl sp.length rg∧H ol=some (.lst (ord.map fun (i:Nat)=>V.int i))∧ord.Perm l
theorem CutD.same {x:ao}{rg:List (Nat×List Stp)}(a:CutD H C x sp l rg)(e:Same H H'):CutD H' C x sp l rg:=by
 obtain ⟨dx,c0,tl,ol,ord,h1,h2,h3,h4,h5⟩:=a.ex;exact ⟨dx,c0,tl,ol,ord,e _ _ h1,h2.same e,h3.kp (Same.kp e),e _ _ h4,h5⟩
structure CsE (Hb H:Hp)(c:ao)(bs:List (Int×Int))(rs:List (Nat×List Stp)):Prop where
 ex:∃ vb u rl,H c=some (.tup [vb,.ref u])∧IsD H vb (bndP bs)∧Hb u=some (.lst rl)∧IsDs Hb rl (rs.map wayQ)
theorem CsE.dn {Hb:Hp}{c:ao}{bs:List (Int×Int)}(a:CsE Hb H c bs rs)(e:Same Hb H):CsD H c bs rs:=by
 obtain ⟨vb,u,rl,h1,h2,h3,h4⟩:=a.ex;exact ⟨vb,u,rl,h1,h2,e _ _ h3,h4.same e⟩
theorem CsE.keep {Hb:Hp}{c:ao}{bs:List (Int×Int)}(a:CsE Hb H c bs rs)(e:TupK H H'):CsE Hb H' c bs rs:=by
 obtain ⟨vb,u,rl,h1,h2,h3,h4⟩:=a.ex;exact ⟨vb,u,rl,e _ _ h1,IsD.keepP e h2 (mq _ _),h3,h4⟩
inductive spInitC (T0:ao)(p0:Pos)(q0:Str)(T1:ao)(p1:Pos)(q1:Str)(C:ao)(vs:List V)(H:Hp)(Q:VK)(_:XK):Prop
 | mk (x dx:ao)(v:V)(b m:Int)(sp:List Sn)(_:vs=[.ref x,v])(_:H x=some (.ins C dx []))(_:IsD H v (kg b m sp))(_:NetT b m sp)(_:L2.LamT T0 p0 q0 H)(_:L2.LamT T1 p1 q1 H)(_:∀ (l:List Nat) (rg:List (Nat×List Stp)) (H':Hp),(∀ a o,a≠T0→a≠T1→a≠x→H a=some o→H' a=some o)→Kp H H'→L2.LamT T0 p0 q0 H'→L2.LamT T1 p1 q1 H'→FR m sp l rg→CutD H' C x sp l rg→Q .non H')
inductive spSpanC (C:ao)(vs:List V)(H:Hp)(Q:VK)(_:XK):Prop
 | mk (x c:ao)(sp:List Sn)(l:List Nat)(rg rs:List (Nat×List Stp))(bs:List (Int×Int))(_:vs=[.ref x,.ref c])(_:CutD H C x sp l rg)(_:CsD H c bs rs)(_:(∀ k∈l,k<bs.length))(_:l.length≤40)(_:((∀ k∈l,¬ ((bs.getD k (0,0)).1<(bs.getD k (0,0)).2))→Q .non H))(_:∀ k∈l,(bs.getD k (0,0)).1<(bs.getD k (0,0)).2→Q (.int (k:Nat)) H)
inductive spSidesC (C:ao)(vs:List V)(H:Hp)(Q:VK)(_:XK):Prop
 | mk (Hb:Hp)(x c:ao)(k:Nat)(a:Int)(sp:List Sn)(l:List Nat)(rg rs:List (Nat×List Stp))(bs:List (Int×Int))(_:vs=[.ref x,.ref c,.int (k:Nat),.int a])(_:Same Hb H)(_:CutD Hb C x sp l rg)(_:CsD H c bs rs)(_:k<bs.length)(_:bs.length=sp.length)(_:bs.length≤40)(_:∀ (L q1 q2:ao) (H':Hp),Same H H'→H L=none→H' L=some (.lst [.ref q1,.ref q2])→CsE Hb H' q1 (fk bs k a) (rg.filter (iK k))→CsE Hb H' q2 (lG bs k a) (rg.filter (iK k))→Q (.ref L) H')
theorem ord_perm (h:π.Perm (aQ l.length)):(π.map fun i=>l.getD i 0).Perm l:=by
 have e:(aQ l.length).map (fun i=>l.getD i 0)=l:=by
  refine jT (by rw [aa,br]) fun i h1 h2=>?_
  rw [gZ,hV,ai,gE h2];rfl
 have:=h.map (fun i=>l.getD i 0)
 rwa [e] at this
theorem tm_mod {x:Int}:tm (ts.map (· % b)) x=tm ts x % b:=by
 unfold tm;rw [ai,ai,ax];cases ts[x.toNat]? with
 | none=>exact (Int.zero_emod b).symm
 | some y=>rfl
def TabOk (b m:Int)(sp:List Sn)(t:List Int):Prop:=t.length=m.toNat∧(∀ x∈t,0≤x∧x<b)∧jG b t sp=true
theorem tab_ok {m:Int}{rg:List (Nat×List Stp)}{bs:List (Int×Int)}(N:NetT b m sp)(f:FF m sp l rg)(O:OB sp l bs)(x:Fx b l rg bs)(h:SprOk m.toNat sp l S) :
  TabOk b m sp (tabOf b sp bs m.toNat S)∧∀ k,k<sp.length→(bs.getD k (0,0)).1≤il b (tabOf b sp bs m.toNat S) sp k∧il b (tabOf b sp bs m.toNat S) sp k≤(bs.getD k (0,0)).2:=by
 have hb:0<b:=by have:=N.b1;lia
 have ht2:=f.acy.nodup.2;have key:=key_pot N f O x (ts:=tabOf b sp bs m.toNat S) (π:=tm (j9 sp (lowB bs) m.toNat S)) (fun i hi=>h.pot N.ends ht2 (lowB bs) i hi) fun k hk=>by
  unfold gi tabOf;rw [tm_mod,tm_mod,rest_two]
 refine ⟨⟨?_,fun y hy=>?_,fits_lay (m:=m) fun k hk=>?_⟩,key⟩
 ·unfold tabOf j9
  rw [aa,lZ (m:=0),ix]
 ·obtain ⟨z,_,rfl⟩:=bc.mp hy
  exact ⟨cS _ (by lia),cB _ hb⟩
 ·have:=key k hk
  have:=(O.lo k hk).2.2;lia
def psC (l:List Nat):List Cse→Nat
 | []=>0
 | c::cs=>fN c.1 l+psC l cs
theorem pW (l:List Nat):∀ (cs ds:List Cse),psC l (cs++ds)=psC l cs+psC l ds
 | [],ds=>(Nat.zero_add _).symm
 | c::cs,ds=>by
  show _+psC l (cs++ds)=_+psC l cs+psC l ds;rw [pW l cs ds];lia
structure SrcI (b m:Int)(sp:List Sn)(l:List Nat)(rg:List (Nat×List Stp))(cs:List Cse)(Ts:List (List Int)):Prop where
 ok:∀ c∈cs,CaseOk b sp l rg c
 tabs:∀ t∈Ts,TabOk b m sp t
 hold:∀ T,jG b T sp=true→(∃ t∈Ts,∀ k∈l,il b t sp k=il b T sp k)∨∃ c∈cs,InB (il b T sp) c.1
 cnt:Ts.length+psC l cs≤fN (sp.map fun x=>(x.l,x.o)) l
def szC (l:List Nat):List Cse→Nat
 | []=>0
 | c::cs=>(2 * fN c.1 l - 1)+szC l cs
theorem mh (l:List Nat):∀ (cs ds:List Cse),szC l (cs++ds)=szC l cs+szC l ds
 | [],ds=>(Nat.zero_add _).symm
 | c::cs,ds=>by
  show _+szC l (cs++ds)=_+szC l cs+szC l ds;rw [mh l cs ds];lia
section
variable {m:Int}{rg:List (Nat×List Stp)}{cs:List Cse}{Ts:List (List Int)}{c:Cse}
theorem szC_len (hl:∀ k∈l,k<sp.length):∀ (cs:List Cse),(∀ c∈cs,CaseOk b sp l rg c)→cs.length≤szC l cs
 | [],_=>aE _
 | c::cs,h=>by
  have ih:=szC_len hl cs fun d hd=>h d (ay _ hd)
  have:=i7 (h c (by simp)).ob hl;show cs.length+1≤2 * fN c.1 l - 1+szC l cs;lia
theorem SrcI.start (N:NetT b m sp)(hl:rg.length≤40):SrcI b m sp l rg [(sp.map fun x=>(x.l,x.o),rg)] []:=by
 have hb:0<b:=by have:=N.b1;lia
 refine ⟨fun c hc=>?_,fun t h=>rL h (by simp),fun T hT=> .inr ⟨_,aw.mpr rfl,lay_in hb hT⟩,by show 0+(fN (sp.map fun x=>(x.l,x.o)) l+0)≤_;lia⟩;rw [aw.mp hc];exact ⟨OB.first N l,fun q hq=>hq,hl,fun q hq hn=>rL hq hn⟩
theorem SrcI.dead (N:NetT b m sp)(f:FF m sp l rg)(I:SrcI b m sp l rg (cs++[c]) Ts){q:Nat×List Stp}(hq:q∈c.2)(hd:jH b c.1 q.2=true):SrcI b m sp l rg cs Ts:=by
 have hb:0<b:=by have:=N.b1;lia
 have C:=I.ok c (by simp);refine ⟨fun d hd=>I.ok d (aM _ hd),I.tabs,fun T hT=>?_,by have:=I.cnt;rw [pW] at this;lia⟩
 rcases I.hold T hT with h | ⟨d,h1,h2⟩
 ·exact .inl h
 ·rcases aN.mp h1 with z | z
  ·exact .inr ⟨d,z,h2⟩
  ·rw [aw.mp z] at h2
   have:=f.few;have m2:=N.m2;rw [qy hb C.ob.len h2 ((f.rk q (C.sub q hq)).rg N (by lia))] at hd;cases hd
theorem CaseOk.all (C:CaseOk b sp l rg c)(al:∀ q∈c.2,jH b c.1 q.2=false):∀ q∈rg,jH b c.1 q.2=false:=fun q hq=>by
 by_cases z:q∈c.2
 ·exact al q z
 ·exact C.alive q hq z
theorem SrcI.leaf (N:NetT b m sp)(f:FF m sp l rg)(h:SprOk m.toNat sp l S)(I:SrcI b m sp l rg (cs++[c]) Ts)(al:∀ q∈c.2,jH b c.1 q.2=false)(fx:∀ k∈l,¬ ((c.1.getD k (0,0)).1<(c.1.getD k (0,0)).2)):SrcI b m sp l rg cs (Ts++[tabOf b sp c.1 m.toNat S]):=by
 have C:=I.ok c (by simp);have ht2:=f.acy.nodup.2;have fix:∀ k∈l,(c.1.getD k (0,0)).1=(c.1.getD k (0,0)).2:=fun k hk=>by
  have:=(C.ob.lo k (ht2 k hk)).2.1;have:=fx k hk;lia
 obtain ⟨t1,t2⟩:=tab_ok N f C.ob ⟨fix,C.all al⟩ h;have pc:=i7 C.ob ht2;refine ⟨fun d hd=>I.ok d (aM _ hd),fun t ht=>?_,fun T hT=>?_,by have:=I.cnt;rw [pW] at this;have e:psC l [c]=fN c.1 l+0:=rfl;rw [av];show Ts.length+1+_≤_;lia⟩
 ·rcases aN.mp ht with z | z
  ·exact I.tabs t z
  ·rw [aw.mp z];exact t1
 ·rcases I.hold T hT with ⟨t,h1,h2⟩ | ⟨d,h1,h2⟩
  ·exact .inl ⟨t,aM _ h1,h2⟩
  ·rcases aN.mp h1 with z | z
   ·exact .inr ⟨d,z,h2⟩
   ·rw [aw.mp z] at h2
    refine .inl ⟨_,aA _ (aw.mpr rfl),fun k hk=>?_⟩;have a1:=t2 k (ht2 k hk);have a2:=h2 k (by rw [C.ob.len];exact ht2 k hk);have a3:=fix k hk;lia
theorem SrcI.cut (N:NetT b m sp)(f:FF m sp l rg)(lrg:rg.length≤40)(I:SrcI b m sp l rg (cs++[c]) Ts)(al:∀ q∈c.2,jH b c.1 q.2=false){k:Nat}{a:Int}(hk:k∈l)(h1:(c.1.getD k (0,0)).1≤a)(h2:a<(c.1.getD k (0,0)).2) :
  SrcI b m sp l rg (cs++[(fk c.1 k a,rg.filter (iK k)),(lG c.1 k a,rg.filter (iK k))]) Ts∧szC l (cs++[(fk c.1 k a,rg.filter (iK k)),(lG c.1 k a,rg.filter (iK k))])<szC l (cs++[c]):=by
 have C:=I.ok c (by simp);have ht2:=f.acy.nodup.2;obtain ⟨o1,o2⟩:=C.cut lrg ht2 al hk h1 h2;refine ⟨⟨fun d hd=>?_,I.tabs,fun T hT=>?_,?_⟩,?_⟩
 ·rcases aN.mp hd with z | z
  ·exact I.ok d (aM _ z)
  ·rcases aG.mp z with rfl | z
   ·exact o1
   ·rw [aw.mp z];exact o2
 ·rcases I.hold T hT with h | ⟨d,d1,d2⟩
  ·exact .inl h
  ·rcases aN.mp d1 with z | z
   ·exact .inr ⟨d,aM _ z,d2⟩
   ·rw [aw.mp z] at d2
    by_cases e:il b T sp k≤a
    ·exact .inr ⟨(lG c.1 k a,rg.filter (iK k)),by simp,inB_one d2 e⟩
    ·exact .inr ⟨(fk c.1 k a,rg.filter (iK k)),by simp,inB_other d2 (by lia)⟩
 ·have h0:=I.cnt
  rw [pW] at h0 ⊢;have e:=mm C.ob f.acy.nodup.1 ht2 hk h1 h2;have e1:psC l [c]=fN c.1 l+0:=rfl;have e2:psC l [(fk c.1 k a,rg.filter (iK k)),(lG c.1 k a,rg.filter (iK k))]=fN (fk c.1 k a) l+(fN (lG c.1 k a) l+0):=rfl;lia
 ·rw [mh,mh]
  show _+((2 * fN (fk c.1 k a) l - 1)+((2 * fN (lG c.1 k a) l - 1)+0))<_+((2 * fN c.1 l - 1)+0);have p1:=i7 o1.ob ht2;have p2:=i7 o2.ob ht2;have e:=mm C.ob f.acy.nodup.1 ht2 hk h1 h2;have p1:0<fN (fk c.1 k a) l:=p1;have p2:0<fN (lG c.1 k a) l:=p2;lia
theorem SrcI.less (f:FF m sp l rg)(I:SrcI b m sp l rg (cs++[c]) Ts):szC l cs<szC l (cs++[c]):=by
 have:=i7 (I.ok c (by simp)).ob f.acy.nodup.2;rw [mh];show _<_+((2 * fN c.1 l - 1)+0);lia
end
def CsL (Hb Hc:Hp):List V→List Cse→Prop:=j3 fun v c=>∃ q,v= .ref q∧CsE Hb Hc q c.1 c.2
theorem CsL.keep {Hb Hd:Hp}(e:TupK Hc Hd){cs:List Cse}(h:CsL Hb Hc zs cs):CsL Hb Hd zs cs:=L2.Paired.mapP h fun _ _ ⟨q,a,b⟩=>⟨q,a,b.keep e⟩
theorem Paired.app {α β:Type}{R:α→β→Prop}:∀ {xs:List α} {ys:List β} {us:List α} {vs:List β},j3 R xs ys→j3 R us vs→j3 R (xs++us) (ys++vs)
 | _,_,_,_,.nil,h=>h
 | _,_,_,_,.cons r t,h=> .cons r (Paired.app t h)
theorem Paired.len {α β:Type}{R:α→β→Prop}:∀ {xs:List α} {ys:List β},j3 R xs ys→xs.length=ys.length
 | _,_,.nil=>rfl
 | _,_,.cons _ t=>rQ (· + 1) (Paired.len t)
theorem Paired.snoc_of {α β:Type}{R:α→β→Prop}:∀ {ys:List β} {zs:List α} {y:β},j3 R zs (ys++[y])→∃ xs x,zs=xs++[x]∧j3 R xs ys∧R x y
 | [],_,_,.cons r .nil=>⟨[],_,rfl,.nil,r⟩
 | _::_,_,_,.cons r t=>by
  obtain ⟨xs,x,rfl,a,b⟩:=Paired.snoc_of t;exact ⟨_::xs,x,rfl,.cons r a,b⟩
inductive spTabF (T0:ao)(p0:Pos)(q0:Str)(T1:ao)(p1:Pos)(q1:Str)(vs:List V)(H:Hp)(Q:VK)(_:XK):Prop
 | mk (v:V)(b m:Int)(sp:List Sn)(most:Nat)(_:vs=[v,.int (most:Nat)])(_:IsD H v (kg b m sp))(_:NetT b m sp)(_:most≤4096)(_:(∀ l,FrstL m.toNat sp l→jE sp l≤4096))(_:L2.LamT T0 p0 q0 H)(_:L2.LamT T1 p1 q1 H)(_:∀ (L:ao) (tv:List V) (l:List Nat) (rg:List (Nat×List Stp)) (Ts:List (List Int)) (H':Hp),(∀ a o,a≠T0→a≠T1→H a=some o→H' a=some o)→Kp H H'→L2.LamT T0 p0 q0 H'→L2.LamT T1 p1 q1 H'→H' L=some (.lst tv)→IsDs H' tv (eJ id Ts)→FR m sp l rg→(∀ t∈Ts,TabOk b m sp t)→Ts.length≤most→(Ts.length<most∨most=4096→∀ T,jG b T sp=true→∃ t∈Ts,∀ k∈l,il b t sp k=il b T sp k)→Q (.ref L) H')
inductive Mrk where
 | leaf (d:Dt)
 | cut (k:Nat) (a:Int)
def mrkD:Mrk→Dt
 | .leaf d=>d
 | .cut k a=> .tup [.str "cut",.int (k:Nat),.int a]
def pre:Tq→List Mrk
 | .leaf d=>[.leaf d]
 | .cut k a x y=> .cut k a::(pre x++pre y)
def stpT:Option (List Tq)→Mrk→Option (List Tq)
 | some s,.leaf d=>some (.leaf d::s)
 | some (x::y::s),.cut k a=>some (.cut k a x y::s)
 | _,_=>none
theorem stp_none:∀ (l:List Mrk),l.foldl stpT none=none
 | []=>rfl
 | .leaf _::l=>stp_none l
 | .cut _ _::l=>stp_none l
theorem stp_pre:∀ (t:Tq) (s:List Tq),(pre t).reverse.foldl stpT (some s)=some (t::s)
 | .leaf d,s=>rfl
 | .cut k a x y,s=>by
  show (Mrk.cut k a::(pre x++pre y)).reverse.foldl stpT (some s)=_;rw [gJ,List.reverse_append,dO,dO,stp_pre y,stp_pre x];rfl
theorem stp_at {l:List Mrk}{r:List Tq}(h:l.foldl stpT (some [])=some r){m:Mrk}{s:List Tq}(hm:l[i]? =some m)(hs:(l.take i).foldl stpT (some [])=some s):∃ s',stpT (some s) m=some s'∧(l.take (i+1)).foldl stpT (some [])=some s':=by
 have hi:=(ak.mp hm).1;have e:(l.take (i+1)).foldl stpT (some [])=stpT (some s) m:=by
  rw [bf,hm,dO,hs];rfl
 cases q:stpT (some s) m with
 | some s'=>exact ⟨s',rfl,by rw [e,q]⟩
 | none =>
  exfalso;rw [←List.take_append_drop (i+1) l,dO,e,q,stp_none] at h;cases h
def mL (d:Dt):Prop:=pl d=true∧∃ w x,d= .tup [.str w,x]∧w ≠ "cut"
theorem pl_cut {k:Nat}{a:Int}{x y:Tq}(hx:pl (jk x)=true)(hy:pl (jk y)=true):pl (jk (.cut k a x y))=true:=by
 show pl (.tup [.str "cut",.int (k:Nat),.int a,jk x,jk y])=true;simp [pl,pls,hx,hy]
theorem IsDs.snocD {H:Hp}:∀ {ds:List Dt} {zs:List V} {d:Dt},IsDs H zs (ds++[d])→∃ zs' z,zs=zs'++[z]∧IsDs H zs' ds∧IsD H z d
 | [],_,_,.cons h .nil=>⟨[],_,rfl,.nil,h⟩
 | _::_,_,_,.cons h t=>by
  obtain ⟨zs',z,rfl,a,b⟩:=IsDs.snocD t;exact ⟨_::zs',z,rfl,.cons h a,b⟩
def qS (R:List (Int×Int)→Dt→Prop):Tq→List (Int×Int)→Nat→Prop
 | .leaf d,bs,_=>R bs d
 | .cut _ _ _ _,_,0=>False
 | .cut k a x y,bs,n+1=>k<bs.length∧(bs.getD k (0,0)).1≤a∧a<(bs.getD k (0,0)).2∧qS R x (lG bs k a) n∧qS R y (fk bs k a) n
def GoodC (R:List (Int×Int)→Dt→Prop)(l:List Nat)(c:Cse)(t:Tq):Prop:=∀ n,2 ^ n * fN c.1 l≤3 ^ n→qS R t c.1 n
theorem oh {f g:Nat→Nat}{k:Nat}:∀ (l:List Nat),l.Nodup→k∈l→(∀ j∈l,j≠k→f j=g j)→prdN (l.map g) * f k=prdN (l.map f) * g k
 | [],_,hk,_=>rL hk (by simp)
 | j::l,nd,hk,hh=>by
  rw [bJ] at nd;show g j * _ * f k=f j * _ * g k
  by_cases c:j=k
  ·subst c
   have ne:∀ i∈l,i≠j:=fun i hi z=>nd.1 (z ▸ hi)
   rw [←mZ (f:=f) (g:=g) l fun i hi=>hh i (ay _ hi) (ne i hi),jM (g j),jM (f j),gP,gP,jM (g j)]
  ·rw [hh j (by simp) c,gP,gP,oh l nd.2 ((aG.mp hk).resolve_left fun z=>c z.symm) fun i hi=>hh i (ay _ hi)]
theorem scale_le {F G f g:Nat}(e:G * f=F * g)(h:3 * g≤2 * f)(hf:0<f):3 * G≤2 * F:=by
 have h1:3 * G * f≤2 * F * f:=by
  rw [gP,e,jM F g,←gP,gP 2 F f,jM F f,←gP];exact Nat.mul_le_mul_right F h
 exact Nat.le_of_mul_le_mul_right h1 hf
theorem prodC_mid {bs:List (Int×Int)}{k:Nat}{a:Int}(O:OB sp l bs)(nd:l.Nodup)(hl:∀ k∈l,k<sp.length)(hk:k∈l)(h:(bs.getD k (0,0)).1<(bs.getD k (0,0)).2)(ha:a=((bs.getD k (0,0)).1+(bs.getD k (0,0)).2) / 2) :
  3 * fN (lG bs k a) l≤2 * fN bs l∧3 * fN (fk bs k a) l≤2 * fN bs l:=by
 have hb:=O.len;have hkl:=hl k hk;have wk1:wdB (lG bs k a) k=(a - (bs.getD k (0,0)).1+1).toNat:=by unfold wdB lG;rw [iM (by lia),rJ rfl]
 have wk2:wdB (fk bs k a) k=((bs.getD k (0,0)).2 - (a+1)+1).toNat:=by unfold wdB fk;rw [iM (by lia),rJ rfl]
 have w0:wdB bs k=((bs.getD k (0,0)).2 - (bs.getD k (0,0)).1+1).toNat:=rfl
 constructor
 ·refine scale_le (oh (f:=wdB bs) (g:=wdB (lG bs k a)) (k:=k) l nd hk fun j hj hn=>?_) (by rw [wk1,w0];lia) (by rw [w0];lia)
  have hjl:=hl j hj;unfold wdB lG;rw [iM (by lia),rG (cN hn)]
 ·refine scale_le (oh (f:=wdB bs) (g:=wdB (fk bs k a)) (k:=k) l nd hk fun j hj hn=>?_) (by rw [wk2,w0];lia) (by rw [w0];lia)
  have hjl:=hl j hj;unfold wdB fk;rw [iM (by lia),rG (cN hn)]
section
variable {R:List (Int×Int)→Dt→Prop}{c c0:Cse}{k:Nat}{a:Int}{x y:Tq}{ms:List Mrk}{cr:List Cse}{d:Dt}{rs':List (Nat×List Stp)}
theorem GoodC.leaf (h:R c.1 d):GoodC R l c (.leaf d):=fun n _=>by
 cases n <;> exact h
theorem GoodC.cut (hk:k<c.1.length)(h1:(c.1.getD k (0,0)).1≤a)(h2:a<(c.1.getD k (0,0)).2)(p2:2≤fN c.1 l)(m1:3 * fN (lG c.1 k a) l≤2 * fN c.1 l)(m2:3 * fN (fk c.1 k a) l≤2 * fN c.1 l)
  (gx:GoodC R l (lG c.1 k a,rs) x) (gy:GoodC R l (fk c.1 k a,rs') y):GoodC R l c (.cut k a x y):=fun n hn=>by
 cases n with
 | zero=>simp at hn;lia
 | succ n =>
  have key:∀ p,3 * p≤2 * fN c.1 l→2 ^ n * p≤3 ^ n:=fun p hp=>by
   have h3:2 ^ n * (3 * p)≤2 ^ n * (2 * fN c.1 l):=Nat.mul_le_mul_left _ hp;rw [Nat.pow_succ,Nat.pow_succ,gP] at hn;rw [Nat.mul_left_comm] at h3;lia
  exact ⟨hk,h1,h2,gx n (key _ m1),gy n (key _ m2)⟩
def Wn (R:List (Int×Int)→Dt→Prop)(l:List Nat)(c0:Cse)(ms:List Mrk)(cr:List Cse):Prop:=∀ F:List Tq,j3 (GoodC R l) cr F→∃ t,ms++F.flatMap pre=pre t∧GoodC R l c0 t
theorem Wn.start:Wn R l c0 [] [c0]:=fun F h=>by
 cases h with
 | cons g r=>cases r;exact ⟨_,by simp,g⟩
theorem Wn.leaf (h:Wn R l c0 ms (c::cr))(r:R c.1 d):Wn R l c0 (ms++[.leaf d]) cr:=fun F hF=>by
 obtain ⟨t,e,g⟩:=h (.leaf d::F) (.cons (GoodC.leaf r) hF);exact ⟨t,by rw [←e];simp [pre],g⟩
theorem Wn.cut (h:Wn R l c0 ms (c::cr))(hk:k<c.1.length)(h1:(c.1.getD k (0,0)).1≤a)(h2:a<(c.1.getD k (0,0)).2)(p2:2≤fN c.1 l)(m1:3 * fN (lG c.1 k a) l≤2 * fN c.1 l)(m2:3 * fN (fk c.1 k a) l≤2 * fN c.1 l):Wn R l c0 (ms++[.cut k a]) ((lG c.1 k a,rs)::(fk c.1 k a,rs')::cr):=fun F hF=>by
 cases hF with
 | cons gx r =>
  cases r with
  | cons gy r =>
   rename_i x y F;obtain ⟨t,e,g⟩:=h (.cut k a x y::F) (.cons (GoodC.cut hk h1 h2 p2 m1 m2 gx gy) r);exact ⟨t,by rw [←e];simp [pre],g⟩
theorem Wn.fin (h:Wn R l c0 ms []):∃ t,ms=pre t∧GoodC R l c0 t:=by
 obtain ⟨t,e,g⟩:=h [] .nil;exact ⟨t,by rw [←e];simp,g⟩
end
inductive spTreeF (vs:List V)(H:Hp)(Q:VK)(_:XK):Prop
 | mk (L:ao)(ys:List V)(ms:List Mrk)(t:Tq)(_:vs=[.ref L])(_:H L=some (.lst ys))(_:IsDs H ys (ms.map mrkD))(_:ms=pre t)(_:(∀ d,Mrk.leaf d∈ms→mL d))(_:ms.length≤10000)(_:∀ u H',Same H H'→IsD H' u (jk t)→Q u H')
end HN
namespace L2
open PySem PySem.W PySem.Spec PyProof.Rows
theorem law_callTs {mb:Str→Option ae}{k:Nat}{fa:ao}{sp:Sp}{s₁:au}
  (KX:K.In s₁.heap) (hns:s₁.heap.Ns bU mg) (hb:s₁.heap.Ns builtinsNs mb) (hbb:∀ x:Str,x ≠ "__name__" →mb x=bootBuiltins x) (hlim:s₁.heap.NoLimit) (hg:s₁.gens= #[])
  (hbm:BM mg s₁.heap) (hT:∀ T∈Ts,s₁.heap.get? T=some (tabObj #[])) (C:∀ T∈Ts,∃ c,codeHdIn K c T=true) (nt:noTabs K=true)
  (ha:s₁.heap.get? a=some { cls:= .type "list",data:= .seq vs.toArray }) (hi:IntsAre vs ns) (hl:ns.length≤bp) (hr:Room k callerA)
  (F:∀ base:bP,K.In base→base.Ns bU mg→BM mg base→cW P w K mg base CX k fa fd [x] sp) (hbind:∀ (s:au) (u:ae),BindsTo s fd ⟨[u],[]⟩ [(x,u)])
  (hsp:∀ H:Hp,(∀ T∈Ts,H T=some (.tbl #[]))→SqL K H a (ns.map V.int)→sp [.ref a] H (fun v _=>v= .bl true) fun _ _ _=>False)
  (hCX:∀ H e s',CX [] H s₁ (fun _ _ _=>False) e s'→False) :
  jq (bx P w) callerA (.call (.ref fa) ⟨[.ref a],[]⟩) (fun r s'=>r= .ok (.ret (.bool true))∧OldK s₁.heap s'.heap∧s'.os=s₁.os∧AllBare s'.gens) s₁:=by
 have rv:=o8 hi;have lenV:=hi.length;have hTK:∀ T∈Ts,K.lookup T=none:=fun T mT=>by
  cases q:K.lookup T with
  | none=>rfl
  | some o =>
   have e:=KX T o q;rw [hT T mT] at e;cases e;have z:=List.all_eq_true.mp nt (T,tabObj #[]) (mem_of_lookupK q);cases z
 have aT:a ∉ Ts:=fun z=>by rw [hT a z] at ha;cases ha
 have isT:∀ T∈Ts,isCodeTable s₁.heap T:=fun T mT=>by obtain ⟨c,C⟩:=C T mT;exact ((codeHd_of_K KX C).tab (hT T mT)).isCodeTable
 have core:∀ H:Hp,SqL K H a (ns.map V.int)→HOk P w H s₁.heap→(∀ T∈Ts,H T=some (.tbl #[]))→(∀ b,H b≠none→b ∉ Ts→b=a∧∃ o xs,H b=some (.frz o (.lst xs)))→(H a≠none→K.lookup a=none) →
   jq (bx P w) callerA (.call (.ref fa) ⟨[.ref a],[]⟩) (fun r s'=>r= .ok (.ret (.bool true))∧OldK s₁.heap s'.heap∧s'.os=s₁.os∧AllBare s'.gens) s₁:=by
  intro H hS hok hHT hA hK;have base_of:∀ {b:ao} {o:Obj},s₁.heap.get? b=some o→H b=none→(hidT s₁.heap H).get? b=some o:=fun e n=>hidT_get e n
  have no2:∀ {b:ao} {o:Obj},s₁.heap.get? b=some o→o≠tabObj #[]→o≠{ cls:= .type "list",data:= .seq vs.toArray }→H b=none:=fun {b o} e d1 d2=>by
   cases q:H b with
   | none=>rfl
   | some u =>
    by_cases hbT:b∈Ts
    ·rw [hT b hbT] at e;cases e;exact rL rfl d1
    ·have e':b=a:=(hA b (by rw [q];simp) hbT).1
     subst e';rw [ha] at e;cases e;exact rL rfl d2
  have nsK:∀ {b:ao} {m:Str→Option ae},s₁.heap.Ns b m→(hidT s₁.heap H).Ns b m:=fun {b m} ⟨o,es,ep,e,d,r⟩=>⟨o,es,ep,base_of e (no2 e (fun z=>by subst z;cases d) (fun z=>by subst z;cases d)),d,r⟩
  have hKb:K.In (hidT s₁.heap H):=fun b o e=>base_of (KX b o e) (by
   cases q:H b with
   | none=>rfl
   | some u =>
    by_cases hbT:b∈Ts
    ·rw [hTK b hbT] at e;cases e
    ·have e':b=a:=(hA b (by rw [q];simp) hbT).1
     subst e';rw [hK (by rw [q];simp)] at e;cases e)
  have hM:Mod K mg (hidT s₁.heap H):=⟨hKb,nsK hns,⟨mb,nsK hb,hbb⟩,let ⟨mc,h1,h2⟩:=hlim;⟨mc,nsK h1,h2⟩⟩;have hBM:BM mg (hidT s₁.heap H):=by
   obtain ⟨bm,ob,b1,b2,b3,b4,b5,b6,b7⟩:=hbm;exact ⟨bm,ob,b1,b2,b3,base_of b4 (no2 b4 (fun z=>by subst z;cases b5) (fun z=>by subst z;cases b7)),b5,b6,b7⟩
  have e0:Env0 P w K mg (hidT s₁.heap H) callerA [] s₁ H:=⟨rfl,hM,fun b o e=>of_hidT e,Nat.le_of_eq (hidT_size _ _),trivial,fun b hb=>rL (show b∈([]:List ao) from hb) (by simp),hok,.of_eq hg⟩;refine codeAny_mono ((F _ hKb (nsK hns) hBM).run callerA [] s₁ H ⟨[.ref a],[]⟩ [.ref a] [.ref a] _ _ hr e0 (hbind s₁ (.ref a)) (.cons rfl .nil) (hsp H hHT hS)) fun r s' h=>?_
  cases r with
  | error e=>exact (hCX H e s' h).elim
  | ok fl =>
   cases fl with
   | next=>exact dg h
   | brk=>exact dg h
   | cont=>exact dg h
   | ret u =>
    obtain ⟨v,H',os,bare,un,hok',r',q⟩:=h;have q':v= .bl true:=q;subst q';obtain rfl:u=ae.bool true:=r';have tT:∀ T∈Ts,∃ more,s'.heap.get? T=some (tabObj (#[]++more)):=fun T mT=>by
     obtain ⟨more,eT⟩:=un.tbls T _ (hHT T mT);exact ⟨more,hok' T _ eT⟩
    have stay:∀ b o,s₁.heap.get? b=some o→b ∉ Ts→s'.heap.get? b=some o:=fun b o e hbT=>by
     cases q:H b with
     | none=>exact un.keep b o e q (by intro z;exact rL (show b∈([]:List ao) from z) (by simp)) (by simp)
     | some u =>
      obtain ⟨_,ob,xs,z⟩:=hA b (by rw [q];simp) hbT;have z2:=un.frzs b ob _ z;obtain ⟨e1,_⟩:=hok b _ z;obtain ⟨e2,_⟩:=hok' b _ z2;rw [e] at e1;cases e1;exact e2
    refine ⟨rfl,⟨fun b o e=>?_,fun b o e=>?_⟩,os,bare⟩
    ·by_cases hbT:b∈Ts
     ·rw [hT b hbT] at e;cases e
      obtain ⟨more,tb⟩:=tT b hbT;exact .inr (.inl ⟨isT b hbT,rfl,#[],more,rfl,tb⟩)
     ·exact .inl (stay b o e hbT)
    ·by_cases hbT:b∈Ts
     ·obtain ⟨more,tb⟩:=tT b hbT;exact ⟨_,tb⟩
     ·exact ⟨o,stay b o e hbT⟩
 cases hk:K.lookup a with
 | some o =>
  have e:=KX a o hk;rw [ha] at e;cases e;refine core (fun b=>if b∈Ts then some (.tbl #[]) else none) (.inr ⟨_,vs.toArray,_,hk,rfl,rfl,rfl,by rw [aJ,lenV];exact hl,by simpa using rv⟩) (fun b u z=>?_) (fun T mT=>rJ mT) (fun b z hb=>rL (rG hb) z) fun z=>rL (rG aT) z
  by_cases hb:b∈Ts
  ·have z':=(rJ hb).symm.trans z
   cases z';exact hT b hb
  ·have z':=(rG hb).symm.trans z
   cases z'
 | none =>
  refine core (fun b=>if b∈Ts then some (.tbl #[]) else if b=a then some (.frz { cls:= .type "list",data:= .seq vs.toArray } (.lst (ns.map V.int))) else none) (.inl (.inr ⟨{ cls:= .type "list",data:= .seq vs.toArray },(rG aT).trans (rJ rfl)⟩)) (fun b u z=>?_) (fun T mT=>rJ mT) (fun b z hb=>?_) fun _=>hk
  ·by_cases hb:b∈Ts
   ·have z':=(rJ hb).symm.trans z
    cases z';exact hT b hb
   ·have z:=(rG hb).symm.trans z
    by_cases hb:b=a
    ·have z':=(rJ hb).symm.trans z
     cases z';subst hb;exact ⟨ha,by rw [aa];exact hl,vs,_,rv,ha⟩
    ·have z':=(rG hb).symm.trans z
     cases z'
  ·by_cases hba:b=a
   ·exact ⟨hba,_,_,(rG hb).trans (rJ hba)⟩
   ·exact rL ((rG hb).trans (rG hba)) z
theorem walk_ofTs {l:PySem.W.OpenLaw}{k:Nat}{q:aY}{d:DefRec}{K:Params→aq}{CX:bE→CXT}{sp:bE→Sp}
  (hn:l.most=some n) (hn2:n≤bp) (hdf:d.params.defaults=[]) (hr:Room k callerA)
  (hY:∀ (w:bE) (h:bP),YP w h→(K w.params).In h∧∀ T∈Ts,h.get? T=some (tabObj #[])) (C:∀ w:bE,∀ T∈Ts,∃ c,codeHdIn (K w.params) c T=true) (nt:∀ w:bE,noTabs (K w.params)=true)
  (F:∀ (w:bE) (mg:Str→Option ae) (fa:ao) (h:bP),(K w.params).In h→h.Ns bU mg→mg d.name=some (.ref fa) →
   ∃ fd:bq,(∀ (s:au) (u:ae),BindsTo s fd ⟨[u],[]⟩ [(x,u)]) ∧
    ∀ base:bP,(K w.params).In base→base.Ns bU mg→BM mg base→cW l.prog w (K w.params) mg base (CX w) k fa fd [x] (sp w))
  (hsp:∀ (w:bE) (H:Hp) (a:ao) (ns:List Int),ns.length≤n→(∀ T∈Ts,H T=some (.tbl #[]))→SqL (K w.params) H a (ns.map V.int)→sp w [.ref a] H (fun v _=>v= .bl true) fun _ _ _=>False)
  (hCX:∀ (w:bE) (H:Hp) (s:au) (e:ae) (s':au),CX w [] H s (fun _ _ _=>False) e s'→False) :
  PySem.W.WalkO q loose XP YP l.row.toRowW d [] (fun f vs=>PySem.call f vs):=by
 refine Att.attach_call hn hdf fun w s₀ s₁ mg mb fa o pm cd doc a vs ns G Y ho hd hcd hmg hobj hints hlen hg=>?_
 obtain ⟨KX,hT⟩:=hY w _ Y;obtain ⟨fd,hb,hF⟩:=F w mg fa _ KX G.T.g hmg;have hbm:BM mg s₁.heap:=by
  obtain ⟨bm,ob,b1,b2,b3,b4,b5,b6⟩:=G.T.bmain;refine ⟨bm,ob,b1,b2,fun q=>?_,b3,b4,b5,b6⟩;obtain ⟨o,es,ep,e,hd,_⟩:=G.T.g;rw [q,e] at b3;cases b3;rw [hd] at b6;cases b6
 exact law_callTs KX G.T.g G.T.b G.T.builtins G.T.nolimit hg hbm hT (C w) (nt w) hobj hints (bh hlen hn2) hr hF hb (fun H hO hS=>hsp w H a ns hlen hO hS) fun H e s'=>hCX w H s₁ e s'
theorem sorted_keyT {r q:ao}{ws:List ae}(hl0:IsTup s.heap r ws.toArray)(h64:ws.length<64)
  (h:∀ (g h1:bP) (D kS:ao) (e1:Nat),(∀ b o,s.heap.get? b=some o→g.get? b=some o)→(∀ b o,g.get? b=some o→h1.get? b=some o)→g.objs.size≤D→D<kS→h1.get? D=some (bT "list" #[] e1)→h1.get? kS=some (bT "list" #[] 0) →
   KeyDo prog w A.in1.in1 (.ref q) ws kS D e1 (fun t'=>Q (.ref D) t') { s with heap:=h1 }) :
  aW (bx prog w) A (call (.builtin "sorted") [.ref r] [(df "key",.ref q)]) Q E s:=by
 obtain ⟨ob,ho,hc,n,hd⟩:=hl0;refine call_function_entry_kw kind_sorted plain_sorted entry_sorted (ksk_s1 _ _) ?_;unfold fX.«sorted»;refine ah (m:=checkCount "sorted" 1 1 _) (aL ?_);refine ah (wpAny_collect_seq r (.inr rfl) ho hc hd (fun h' hk=>?_) (by rw [aJ,gn];lia));rw [show ws.toArray.toList=ws by simp];refine ah (wpAny_newList ?_ (by rw [gn];lia));have hoL:(h'.push (bT "list" ws.toArray 0)).get? h'.objs.size=some (bT "list" ws.toArray 0):=bg _ rfl;show aW _ _ _ _ _ { s with heap:=h'.push (bT "list" ws.toArray 0) };refine ah (dQ (wpAny_call_entry_kw slot_list_sort ⟨_,hoL,rfl⟩ entry_list_sort ?body (ksk_l1 _ _)))
 case body =>
  show aW (bx prog w) A.in1.in1 (fX.«list.sort» ⟨[.ref h'.objs.size],[(df "key",.ref q)]⟩) _ _ _;rw [ksk_t1];refine key_tree (s:={ s with heap:=h'.push (bT "list" ws.toArray 0) }) hoL (by lia) fun e1 g1 g2=>?_
  have K:=h h' (kA (h'.push (bT "list" ws.toArray 0)) h'.objs.size ws) h'.objs.size ((h'.push (bT "list" ws.toArray 0)).objs.size+1) e1 hk ?_ (aE _) (by rw [size_push'];exact iD (j4 _)) g1 g2
  ·obtain ⟨J,j0,jc,je⟩:=K
   refine ⟨J,j0,jc,fun ks t' x1 x2=>?_⟩;obtain ⟨y1,κ,lt,y2,y3,y4,y5⟩:=je ks t' x1 x2;exact ⟨y1,κ,lt,y2,y3,y4,fun p p1 p2=>⟨_,rfl,aL ⟨_,rfl,y5 p p1 p2⟩⟩⟩
  ·exact fun b o e=>mid_keep (bQ (aO e)) (ar _ e)
theorem its_at:∀ {ns:List Int} {its:List ae} {i:Nat} {x:ae},Vals (ns.map V.int) its→its[i]? =some x→∃ t,x= .int (ns.getD i 0) t
 | [],_,_,_,.nil,e=>by simp at e
 | n::ns,_,0,_,.cons r _,e=>by
  cases e;exact r
 | n::ns,_,i+1,_,.cons _ rs,e=>its_at (ns:=ns) (i:=i) rs e
def SortTQ (P:ao)(lp:Pos)(lq:Str)(js:List Nat)(te:TE)(σ:St)(Q:VK)(v:V)(H1:Hp):Prop:=∃ (r:ao) (ns:List Int) (key:Nat→Int×Int),v= .ref r∧H1 r=some (.tup (ns.map V.int))∧ns.length<64∧LamT P lp lq H1∧((aQ ns.length).map key).Nodup ∧
 (∀ i:Nat,i<ns.length→∀ H2,Tb P H1 H2→te (some (.int (ns.getD i 0))::dH σ js) H2 fun u H3=>Same H2 H3∧∃ a,u= .ref a∧H3 a=some (.tup [.int (key i).1,.int (key i).2])) ∧
 ∀ (D:ao) (H4:Hp) (π:List Nat),Tb P H1 H4→LamT P lp lq H4→H4 D=none→π.Perm (aQ ns.length)→π.Pairwise (fun i j=>ltP (key i) (key j)=true)→Q (.ref D) (upd H4 D (.lst (π.map fun (i:Nat)=>V.int (ns.getD i 0))))
def tSortT (P:ao)(lp:Pos)(lq:Str)(tr:TE)(js:List Nat)(te:TE):TE:=fun σ H Q=>tr σ H fun v H1=>SortTQ P lp lq js te σ Q v H1
def SortT1 (P:ao)(lp:Pos)(lq:Str)(js:List Nat)(te:TE)(σ:St)(Q:VK):List V→Hp→Prop
 | [v],H1=>SortTQ P lp lq js te σ Q v H1
 | _,_=>False
theorem pe_sortT {tr:TE}{p kp:Pos}{c P:ao}(hc:X.calm=true)(hrm:X.A.depth<jY)(hg:Gl X "sorted")(hm:X.mg "sorted" =none)(hi:PE X re tr)
  (hd:defaultsOf params X.env=([],[])) (my:X.env.code= .ref c) (C:codeHdIn X.K c P=true) (B:BM X.mg X.base)
  (hbind:∀ q cl pm cdv ct (u:ae),bindArgs (kla_fn "<lambda>" q params body scope cl pm cdv ct) ⟨[u],[]⟩=fM [(x,u)])
  (hk:scope.kind= .function) (hco:scope.isCoroutine=false) (hgen:scope.isGenerator=false) (iU:∀ y∈scope.names,y.2≠ .cell) (hx:scope.names.lookup x=some .local) (hfx:x ∉ fr)
  (hfr:∀ y∈scope.names,y.2= .free→X.env.scope.names.lookup y.1=some .cell) (hjs:js.map (fun j=>X.N[j]?)=fr.map some) (hfv:∀ y∈fr,scope.names.lookup y=some .free)
  (hb:∀ cl L f cd s' H',PE (cxLam X (X.env.qual ++ "<lambda>") scope cl L f cd (x::fr) s' H') body te)
  (he:gF pos (bD [re] X.env)=(false,eP re X.env)::gF pos (bD [] X.env):=by rfl)
  (hs:bD [re] X.env=(false,eP re X.env)::bD [] X.env:=by rfl) (hpl:(gF pos (bD [re] X.env)).any (·.1)=false:=by rfl) :
  PE X (.Call (.Name "sorted" p) [re] [⟨some "key",.Lambda params body scope lp,kp⟩] pos) (tSortT P lp (X.env.qual ++ "<lambda>") tr js te):=by
 intro aP s σ H Q I h;refine e8 (lU I hg hm (u:= .builtin "sorted") (by trivial) ?_);refine callWith_kw (kws:=[⟨some "key",.Lambda params body scope lp,kp⟩]) (thn ((ag hi aC hs) pos aP s σ H (SortT1 P lp (X.env.qual ++ "<lambda>") js te σ Q) I h) fun us s1 ⟨vs,H1,I1,r1,q0⟩=>?_) he hpl;refine kws_cons ?_;obtain ⟨v,rfl⟩:∃ v,vs=[v]:=by
  cases vs with
  | nil=>exact q0.elim
  | cons v r=>cases r with
   | nil=>exact ⟨v,rfl⟩
   | cons _ _=>exact q0.elim
 have q1:SortTQ P lp (X.env.qual ++ "<lambda>") js te σ Q v H1:=q0;obtain ⟨r,ns,key,rfl,hr,h64,T,hnd,hkey,hQ⟩:=q1;obtain rfl:us=[.ref r]:=by
  cases r1 with
  | cons ru rs =>
   cases rs;exact rQ (fun z=>[z]) ru
 refine lam_make (body:=body) I1 hd my C B hfr T fun f cl H2 s2 I2 tb T2 F2 c1 c2=>?_
 refine kws_nil ?_;show aW _ _ (call (.builtin "sorted") [.ref r] [(df "key",.ref f)]) _ _ _;have rP:r≠P:=fun z=>by
  rcases T with T | ⟨_,T,_⟩ <;> rw [←z,hr] at T <;> cases T
 obtain ⟨its,rv,ht,_⟩:=I2.tuple (SqT.of (K:=X.K) (tb r _ rP hr));have lits:its.length=ns.length:=by rw [←rv.length,aa]
 refine sorted_keyT ht (by lia) fun g h1 D kS e1 hg hkeep hD hDk gD gK=>?_
 have I2:Inv X aP σ H2 { s2 with heap:=g }:=I2.kept (t':=s2.toks) hg;have I3:Inv X aP σ H2 { s2 with heap:=h1 }:=I2.kept (t':=s2.toks) hkeep;have old:∀ b o,g.get? b=some o→b≠D∧b≠kS:=fun b o e=>⟨bQ (aS (aO e) hD),bQ (jN (aS (aO e) hD) hDk)⟩
 have hDs:=aO gD;have hKs:=aO gK;have frD:H2 D=none:=I2.hok.fresh hD;have frK:H2 kS=none:=I2.hok.fresh (iW (bV hD hDk));have cc:∀ y d,X.env.cells.lookup y=some d→d≠D∧d≠kS:=fun y d e=>by obtain ⟨v,o,ho,_⟩:=I2.cell y d e;exact old d o ho
 have pp:∀ z∈X.pn++aP,z.1≠D∧z.1≠kS:=fun z hz=>old _ _ (I2.pin z hz).1
 have nl:g.objs.size≤kS:=iW (bV hD hDk);have I4:Inv X ((kS,bT "list" #[] 0)::(D,bT "list" #[] e1)::aP) σ H2 { s2 with heap:=h1 }:=I3.pins_of fun z hz=>by
  rcases aG.mp hz with rfl | hz
  ·exact ⟨gK,frK,dv (aS I2.lt nl),I2.nofs nl,fun v z=>by cases z⟩
  ·rcases aG.mp hz with rfl | hz
   ·exact ⟨gD,frD,dv (aS I2.lt hD),I2.nofs hD,fun v z=>by cases z⟩
   ·exact I3.pin z (aA _ hz)
 refine keyDo_of (num:=fun i=>ns.getD i 0) (key:=key) I4 lits h64 (fun i x e=>its_at rv e) (bh I2.sz nl) (bh I2.sz hD) (fun y d e=>(cc y d e).2) (fun y d e=>(cc y d e).1) (fun z hz=>(pp z hz).2) (fun z hz=>(pp z hz).1) (dv hDk) hnd ?_ ?_
 ·intro t H' pins' i tk hi' I' S'
  refine cx (lam_call (v:= .int (ns.getD i 0)) I' hc hrm (F2.same S') ⟨_,rfl⟩ (fun pm cdv ct=>hbind _ _ _ _ _ _) hk hco hgen iU hx hfx c1 c2 hfr hjs hfv (fun L cd s' H'=>hb cl L f cd s' H') (hkey i hi' H' (tb.trans S'.tb))) (fun k t' ⟨v,H'',I'',rv,S'',a,ev,ea⟩=>?_) fun _ _ z=>z
  subst ev;obtain rfl:k= .ref a:=rv;exact ⟨a,H'',I'',S'',rfl,ea⟩
 ·intro t H' π S' hD' I' pm pw
  exact ⟨.ref D,_,I',rfl,hQ D H' π (tb.trans S'.tb) (T2.same S') hD' pm pw⟩
def ptF (H:Hp)(fz:ao→Option Obj):Hp:=fun b=>match fz b with | some o=>some (.frz o (.own 0)) | none=>H b
def ctF (H:Hp)(fz:ao→Option Obj):Hp:=fun b=>match fz b with | some _=>none | none=>H b
def Fz (fz:ao→Option Obj)(H:Hp):Prop:=∀ b o,fz b=some o→H b=some (.frz o (.own 0))
section
variable {b:ao}{o:Obj}{fs:List ao}
theorem pT (e:fz b=some o):ptF H fz b=some (.frz o (.own 0)):=by unfold ptF;rw [e]
theorem ig (e:fz b=none):ptF H fz b=H b:=by unfold ptF;rw [e]
theorem rj (e:fz b=some o):ctF H fz b=none:=by unfold ctF;rw [e]
theorem ir (e:fz b=none):ctF H fz b=H b:=by unfold ctF;rw [e]
theorem Fz.out (F:Fz fz H){u:HO}(e:H b=some u)(n:∀ o,u≠ .frz o (.own 0)):fz b=none:=by
 cases q:fz b with
 | none=>rfl
 | some o=>rw [F b o q] at e;cases e;exact rL rfl (n o)
theorem Fz.cut (F:Fz fz H){u:HO}(e:H b=some u)(n:∀ o,u≠ .frz o (.own 0)):ctF H fz b=some u:=by rw [ir (F.out e n)];exact e
theorem HOk.cut (hok:HOk P w H h)(F:Fz fz H):HOk P w (ctF H fz) h:=fun a o e=>by
 cases q:fz a with
 | some o'=>rw [rj q] at e;cases e
 | none =>
  rw [ir q] at e;exact (hok a o e).stay (fun _ _ _ e=>e) (fun b e'=>F.cut e' (fun _ z=>by cases z)) fun b xs e'=>F.cut e' (fun _ z=>by cases z)
theorem HOk.ptF (hok:HOk P w H h)(N:∀ b o,fz b=some o→H b=none)(G:∀ b o,fz b=some o→h.get? b=some o):HOk P w (ptF H fz) h:=fun a o e=>by
 cases q:fz a with
 | some o' =>
  rw [pT q] at e;cases e;exact ⟨G a o' q,_,G a o' q⟩
 | none =>
  rw [ig q] at e;have out:∀ b u,H b=some u→fz b=none:=fun b u e'=>by
   cases q':fz b with
   | none=>rfl
   | some o'=>rw [N b o' q'] at e';cases e'
  exact (hok a o e).stay (fun _ _ _ e=>e) (fun b e'=>by rw [ig (out b _ e')];exact e') fun b xs e'=>by rw [ig (out b _ e')];exact e'
theorem Un.thaw (u:Un fs [] (ptF H fz) H' h h')(N:∀ b o,fz b=some o→H b=none)(hok:HOk P w H' h')(G:∀ b o,fz b=some o→h.get? b=some o):Un fs [] H (ctF H' fz) h h':=by
 have F:Fz fz H':=fun b o e=>u.frzs b o _ (pT e)
 have out:∀ b u,H b=some u→fz b=none:=fun b u e'=>by
  cases q':fz b with
  | none=>rfl
  | some o'=>rw [N b o' q'] at e';cases e'
 have same:∀ b o ob,fz b=some o→h.get? b=some ob→h'.get? b=some ob:=fun b o ob q e=>by
  have e1:=G b o q;rw [e] at e1;cases e1;exact (hok b _ (F b _ q)).1
 refine ⟨fun b o e n hf hx=>?_,fun b o e n hf hx=>?_,fun b o e n hx=>?_,u.there,fun b xs e=>?_,fun b o x e=>?_,fun b ps e=>?_⟩
 ·cases q:fz b with
  | some o'=>exact same b o' o q e
  | none=>exact u.keep b o e (by rw [ig q];exact n) hf hx
 ·cases q:fz b with
  | some o'=>exact ⟨o.slots,same b o' o q e⟩
  | none=>exact u.slot b o e (by rw [ig q];exact n) hf hx
 ·cases q:fz b with
  | some o'=>exact rj q
  | none=>rw [ir q];exact u.free b o e (by rw [ig q];exact n) hx
 ·have q:=out b _ e
  rw [ir q];exact u.tups b xs (by rw [ig q];exact e)
 ·have q:=out b _ e
  rw [ir q];exact u.frzs b o x (by rw [ig q];exact e)
 ·have q:=out b _ e
  rw [ir q];exact u.tbls b ps (by rw [ig q];exact e)
theorem Un.froze (u:Un fs [] (ctF H fz) H' h h')(F:Fz fz H):Un fs [] H (ptF H' fz) h h':=by
 have out:∀ b,H b=none→fz b=none:=fun b n=>by
  cases q:fz b with
  | none=>rfl
  | some o=>rw [F b o q] at n;cases n
 refine ⟨fun b o e n hf hx=>u.keep b o e (by rw [ir (out b n)];exact n) hf hx,fun b o e n hf hx=>u.slot b o e (by rw [ir (out b n)];exact n) hf hx,fun b o e n hx=>?_,u.there,fun b xs e=>?_,fun b o x e=>?_,fun b ps e=>?_⟩
 ·rw [ig (out b n)];exact u.free b o e (by rw [ir (out b n)];exact n) hx
 ·have q:=F.out e (fun _ z=>by cases z)
  rw [ig q];exact u.tups b xs (by rw [ir q];exact e)
 ·cases q:fz b with
  | some o'=>rw [F b o' q] at e;cases e;exact pT q
  | none=>rw [ig q];exact u.frzs b o x (by rw [ir q];exact e)
 ·have q:=F.out e (fun _ z=>by cases z)
  rw [ig q];exact u.tbls b ps (by rw [ir q];exact e)
end
structure Clo (cl:List (Str×ao))(fz:ao→Option Obj)(fr:List Str)(ws:List V):Prop where
 all:∀ x c,cl.lookup x=some c→∃ o,fz c=some o
 cell:∀ c o,fz c=some o→∃ v,o.data= .cell v
 inj:∀ a b c,cl.lookup a=some c→cl.lookup b=some c→a=b
 val:∀ (i:Nat) y v,fr[i]? =some y→ws[i]? =some v→∃ c o u,cl.lookup y=some c∧fz c=some o∧o.data= .cell (some u)∧RelV v u
 len:ws.length=fr.length
structure LmOk (P:aY)(w:bE)(K:aq)(mg:Str→Option ae)(base:bP)(k:Nat)(f:ao)(Hf:Hp→Prop)(sp:Sp):Prop where
 isFn:∀ H h,Hf H→HOk P w H h→FnAt f h
 run:∀ (A:bZ) (outer:List Env) (s:au) (H:Hp) (u:ae) (v:V) (Q:VK),Room k A→Env0 P w K mg base A outer s H→Hf H→RelV v u→sp [v] H Q E0→jq (bx P w) A (.call (.ref f) ⟨[u],[]⟩) (CR CX0 outer P w H s Q E0) s
def cxLm (P:aY)(w:bE)(K:aq)(mg:Str→Option ae)(base:bP)(q:Str)(scope:fH)(cl:List (Str×ao))(L f:ao)(cd:ae)(N:List Str)(A:bZ)(outer:List Env)(s:au)(H:Hp):Cx :=
 { prog:=P,w:=w,K:=K,mg:=mg,base:=base,A:=A.deeper (envX q scope L f cd cl),N:=N,s₀:=s,H₀:=H,env:=envX q scope L f cd cl,outer:=outer,stack:=envX q scope L f cd cl::outer,ex:=[],calm:=true,fn:=fun _=>false,pn:=[],xe:=fun _ _=>False }
theorem lam_run {k:Nat}{ws:List V}{sp:Sp}
  (hbind:∀ u pm cdv ct,bindArgs (kla_fn "<lambda>" q params body scope cl pm cdv ct) ⟨[u],[]⟩=fM [(x,u)])
  (hk:scope.kind= .function) (hco:scope.isCoroutine=false) (hgen:scope.isGenerator=false) (iU:∀ y∈scope.names,y.2≠ .cell) (hx:scope.names.lookup x=some .local) (hfx:x ∉ fr)
  (C:Clo cl fz fr ws) (hcl:∀ y∈scope.names,y.2= .free→∃ c,cl.lookup y.1=some c) (hfv:∀ y∈fr,scope.names.lookup y=some .free)
  (hb:∀ L cd A outer s' H',Room k (A.deeper (envX q scope L f cd cl))→PE (cxLm P w K mg base q scope cl L f cd (x::fr) A outer s' H') body te)
  (ht:∀ v H Q,LamF q params body scope cl f H→Fz fz H→sp [v] H Q E0→te (some v::ws.map some) (ctF H fz) (fun y H'=>(∀ b o,fz b=some o→H' b=none)→Q y (ptF H' fz))) :
  LmOk P w K mg base (k+1) f (fun H=>LamF q params body scope cl f H∧Fz fz H) sp:=by
 refine ⟨fun H h ⟨⟨pm,cd,ct,e,_⟩,_⟩ hok=>⟨_,_,_,_,(hok f _ e).1⟩,fun A outer s H u v Q hr e0 ⟨F,Z⟩ ru hsp=>?_⟩;have ht:=ht v H Q F Z hsp;obtain ⟨pm,cd,ct,e,oc,vs,t,ec,hdc,hvc⟩:=F;have ho:s.heap.get? f=some (kla_obj "<lambda>" q params body scope cl pm cd ct):=(e0.hok f _ e).1;have hoc:s.heap.get? cd=some oc:=(e0.hok cd _ ec).1;refine kla_callFunE (by have:=hr.dp;lia) ho rfl hco hgen rfl ⟨cd,oc,vs,t,rfl,hoc,hdc,hvc⟩ ?_;rw [hbind];refine aL (wpAny_newFunctionEnv iU (fun y hy=>?_) (fun h₁ hns hsb=>⟨?nl,?_⟩) hk)
 ·rw [aw.mp hy];exact hx
 case nl=>exact (e0.mod.nolimit.keeps (fun b o e=>(e0.bs b o e).1)).fresh _ hsb
 show jq _ _ (.expr body (envX q scope s.heap.objs.size f (.ref cd) cl)) _ _;have old:∀ b o,s.heap.get? b=some o→h₁.get? b=some o:=fun b o e=>hsb.extBut b o (bQ (aO e)) (ar _ e)
 refine kla_codeExpr ?_;have hokc:=HOk.cut e0.hok Z;have cutN:∀ b,H b=none→ctF H fz b=none:=fun b n=>by
  cases z:fz b with
  | some o=>exact rj z
  | none=>rw [ir z];exact n
 have ok':(cxLm P w K mg base q scope cl s.heap.objs.size f (.ref cd) (x::fr) A outer s (ctF H fz)).Ok:=by
  refine ⟨e0.mod,hk,rfl,rfl,aE _,C.inj,fun y hy=>?_,fun _ _ z=>rL z (by intro q;cases q),fun _=>hr.hd,bZ.frames_deeper e0.frames,.inr ⟨rfl,rfl⟩,fun b hb=>rL (show b∈([]:List ao) from hb) (by simp),fun b o e=>⟨(e0.bs b o e).1,cutN b (e0.bs b o e).2⟩,e0.bsz,fun b o e hb=>rL (show b∈([]:List ao) from hb) (by simp),fun b hb=>rL (show b∈([]:List ao) from hb) (by simp),e0.funs,fun b hb=>cutN b (e0.frf b hb)⟩;have hy:scope.names.lookup y=some .cell∨scope.names.lookup y=some .free:=hy
  rcases hy with hy | hy
  ·exact rL rfl (iU _ (cE hy))
  ·exact hcl _ (cE hy) rfl
 have cellAt:∀ c o,fz c=some o→h₁.get? c=some o:=fun c o z=>old _ _ (e0.hok c _ (Z c o z)).1
 have I1:Inv (cxLm P w K mg base q scope cl s.heap.objs.size f (.ref cd) (x::fr) A outer s (ctF H fz)) [] (some v::ws.map some) (ctF H fz) { s with heap:=h₁,toks:=s.toks+1 }:=by
  refine ⟨ok',rfl,e0.bare,Un.kept old,⟨_,hns,fun i y v' e1 e2 e3=>?_⟩,fun y c e=>?_,hokc.fresh (aE _),fun y c e=>?_,fun p hp=>rL (show p∈([]:List (ao×Obj)) from hp) (by simp),hokc.kept old,?_⟩
  ·cases i with
   | zero =>
    have e1:some x=some y:=e1;have e2:some (some v)=some (some v'):=e2;cases e1;cases e2;exact ⟨u,ru,.inl ⟨hx,by show eX x [(x,u)]=_;rw [dI,beq_self_eq_true]⟩⟩
   | succ i =>
    have e1:fr[i]? =some y:=e1;have e2:(ws.map some)[i]? =some (some v'):=e2;rw [ax] at e2;obtain ⟨v2,e2,e4⟩:=bF.mp e2;cases e4;obtain ⟨c,o,u',z1,z2,z3,z4⟩:=C.val i y v' e1 e2;exact ⟨u',z4,.inr ⟨.inr (hfv y (bj e1)),c,z1,o,cellAt c o z2,z3⟩⟩
  ·obtain ⟨o,z⟩:=C.all y c e
   obtain ⟨v',hv'⟩:=C.cell c o z;exact ⟨v',o,cellAt c o z,hv'⟩
  ·obtain ⟨o,z⟩:=C.all y c e
   exact rj z
  ·show (some v::ws.map some).length=(x::fr).length
   rw [aZ,aZ,aa,C.len]
 refine cx (hb _ _ A outer s (ctF H fz) (hr.deeper _) [] _ _ (ctF H fz) _ I1 ht) (fun y s' hs=>?_) fun _ _ z=>z.elim
 obtain ⟨v',H',J,rv,qv⟩:=hs;have JB:Un (frs outer) [] (ctF H fz) H' s.heap s'.heap:=J.base;have heapAt:∀ b o,fz b=some o→s'.heap.get? b=some o:=fun b o z=>JB.keep b o (e0.hok b _ (Z b o z)).1 (rj z) (fun hb=>by have:=e0.frf b hb;rw [Z b o z] at this;cases this) (by simp)
 have freeAt:∀ b o,fz b=some o→H' b=none:=fun b o z=>JB.free b o (e0.hok b _ (Z b o z)).1 (rj z) (by simp)
 exact ⟨v',ptF H' fz,J.os,J.bare,Un.froze JB Z,HOk.ptF J.hok freeAt heapAt,rv,qv freeAt⟩
def tLam (i:Nat)(f:ao)(Hf:Hp→Prop)(sp:Sp)(t:TE):TE:=fun σ H Q=>σ[i]? =some (some (.ref f))∧Hf H∧t σ H fun v H1=>Hf H1∧sp [v] H1 Q E0
theorem pe_callV {k:Nat}{p:Pos}{t:TE}{sp:Sp}(L:LmOk X.prog X.w X.K X.mg X.base k f Hf sp)(hr:Room k X.A)(ha:PE X e t)(hN:X.N[i]? =some x:=by rfl)(hv:Vis X.env.scope x:=by first | exact Or.inl rfl | exact Or.inr (.inl rfl) | exact Or.inr (.inr rfl))
  (hd:(x == ("__debug__" :Str))=false:=by decide) (hcd:(x == ("__classdict__" :Str))=false:=by decide) (he:bD [e] X.env=[(false,eP e X.env)]:=by rfl):PE X (.Call (.Name x p) [e] [] pos) (tLam i f Hf sp t):=by
 intro aP s σ H Q I ⟨h1,h2,h3⟩;refine e8 (thn (pe_var hN hv hd hcd aP s σ H (fun v H1=>v= .ref f∧H1=H) I ⟨_,h1,rfl,rfl⟩) fun u s1 ⟨v,H1,I1,r1,e1,e2⟩=>?_);subst e1;subst e2;cases r1;refine callWith_F (L.isFn _ _ h2 I1.hok) (thn ((ag ha aC he) pos aP s1 σ H1 (fun vs H2=>match vs with | [v]=>Hf H2∧sp [v] H2 Q E0 | _=>False) I1 h3) fun us s2 ⟨vs,H2,I2,r2,q2⟩=>?_) he rfl
 ·obtain _ | ⟨v,_ | ⟨v',vs⟩⟩:=vs
  ·exact q2.elim
  rotate_left
  ·exact q2.elim
  obtain ⟨h4,h5⟩:=q2;obtain ⟨u,rfl,ru⟩:=r2.one;refine ⟨L.isFn _ _ h4 I2.hok,wpAny_call (codeAny_mono (L.run X.A X.stack s2 H2 u v Q hr I2.env0 h4 ru h5) fun r s' hq=>?_)⟩;cases r with
  | error e=>exact dg hq
  | ok fl =>
   cases fl with
   | ret u=>exact I2.after hq
   | next=>exact dg hq
   | brk=>exact dg hq
   | cont=>exact dg hq
def LamE (env:Env)(scope:fH)(cl:List (Str×ao)):Prop:=(∀ x c,cl.lookup x=some c→env.cells.lookup x=some c)∧∀ y∈scope.names,y.2= .free→cl.lookup y.1=env.cells.lookup y.1
def tLamb (env:Env)(T:ao)(lp:Pos)(params:fE)(body:Expr)(scope:fH):TE:=fun _ H Q=>LamT T lp (env.qual ++ "<lambda>") H∧∀ g cl H',Tb T H H'→LamT T lp (env.qual ++ "<lambda>") H'→LamF (env.qual ++ "<lambda>") params body scope cl g H'→LamE env scope cl→Q (.ref g) H'
def tCallZ (env:Env)(scope:fH)(fr:List Str)(js:List Nat)(sp:Sp)(t:TA):TE:=fun σ H Q=>t σ H fun vs H1=>∃ cl ws,LamE env scope cl∧dH σ js=ws.map some∧∀ fz,Clo cl fz fr ws→(∀ b o,fz b=some o→H1 b=none)→sp vs (ptF H1 fz) (fun y H'=>Fz fz H'→Q y (ctF H' fz)) E0
open Classical in
def oo (cl:List (Str×ao))(h:bP):ao→Option Obj:=fun b=>if ∃ x,cl.lookup x=some b then h.get? b else none
section
variable {σ:List (Option V)}
theorem pe_lam {c T:ao}(hd:defaultsOf params X.env=([],[]))(my:X.env.code= .ref c)(C:codeHdIn X.K c T=true)(B:BM X.mg X.base)
  (hfr:∀ y∈scope.names,y.2= .free→X.env.scope.names.lookup y.1=some .cell):PE X (.Lambda params body scope pos) (tLamb X.env T pos params body scope):=fun _ _ _ _ _ I ⟨L,h⟩ =>
 lam_make I hd my C B hfr L fun f cl H' _ I' t1 T1 F c1 c2=>⟨.ref f,H',I',rfl,h f cl H' t1 T1 F ⟨c1,c2⟩⟩
theorem nL {b:ao}{o:Obj}(e:oo cl h b=some o):(∃ x,cl.lookup x=some b)∧h.get? b=some o:=by
 unfold oo at e;split at e
 ·rename_i z;exact ⟨z,e⟩
 ·cases e
theorem frzOf_of {b:ao}{o:Obj}(z:cl.lookup x=some b)(e:h.get? b=some o):oo cl h b=some o:=by
 unfold oo;rw [rJ ⟨x,z⟩];exact e
theorem Inv.clo {ws:List V}(I:Inv X aP σ H s)(E:LamE X.env scope cl)(hws:dH σ js=ws.map some)(hjs:js.map (fun j=>X.N[j]?)=fr.map some)(hfv:∀ y∈fr,scope.names.lookup y=some .free)
  (hfr:∀ y∈scope.names,y.2= .free→X.env.scope.names.lookup y.1=some .cell):Clo cl (oo cl s.heap) fr ws:=by
 have lens:ws.length=fr.length:=by
  have e:=rQ List.length hws;have e2:=rQ List.length hjs;unfold dH at e;rw [aa,aa] at e e2;lia
 refine ⟨fun x c e=>?_,fun c o e=>?_,fun a b c e1 e2=>I.ok.inj a b c (E.1 a c e1) (E.1 b c e2),fun i y v e1 e2=>?_,lens⟩
 ·obtain ⟨v,o,ho,_⟩:=I.cell x c (E.1 x c e)
  exact ⟨o,frzOf_of e ho⟩
 ·obtain ⟨⟨x,hx⟩,ho⟩:=nL e
  obtain ⟨v,o',ho',hd⟩:=I.cell x c (E.1 x c hx);rw [ho] at ho';cases ho';exact ⟨v,hd⟩
 ·have e3:(dH σ js)[i]? =some (some v):=by rw [hws,ax,e2];rfl
  unfold dH at e3;rw [ax] at e3;obtain ⟨j,ej,e3⟩:=bF.mp e3;have hN:X.N[j]? =some y:=by
   have q:=rQ (fun l=>l[i]?) hjs;simp only [ax,ej,e1,gv] at q;exact cG q
  have hσ:σ[j]? =some (some v):=by
   cases z:σ[j]? with
   | none=>rw [z] at e3;cases e3
   | some w=>rw [z] at e3;exact rQ some e3
  have hm:=cE (hfv y (bj e1));have hce:X.env.scope.names.lookup y=some .cell:=hfr _ hm rfl;obtain ⟨m,_,hl⟩:=I.loc;obtain ⟨u',ru',look⟩:=hl j y v hN hσ (.inr (.inl hce))
  rcases look with ⟨k,_⟩ | ⟨_,c,ec,o,ho,hd⟩
  ·have k:X.env.scope.names.lookup y=some .local:=k
   rw [hce] at k;cases k
  ·have ecl:cl.lookup y=some c:=(E.2 _ hm rfl).trans ec
   exact ⟨c,o,u',ecl,frzOf_of ecl ho,hd,ru'⟩
theorem pe_callZ {p:Pos}{k:Nat}{sp:Sp}(F:cW X.prog X.w X.K X.mg X.base CX0 k f fd ps sp)(hr:Room k X.A)(hfn:∀ x,X.fn x=true)(hg:Gl X x)(hm:X.mg x=some (.ref f))(hk:fb X.K (.ref f)=true)(hb:Binds X.K fd ps [])
  (hjs:js.map (fun j=>X.N[j]?)=fr.map some) (hfv:∀ y∈fr,scope.names.lookup y=some .free) (hfr:∀ y∈scope.names,y.2= .free→X.env.scope.names.lookup y.1=some .cell)
  (ha:PA X (e::es) t) (hdb:(x == ("__debug__" :Str))=false:=by decide) (he:bD (e::es) X.env=(false,eP e X.env)::bD es X.env:=by rfl) (hpl:(gF pos (bD es X.env)).any (·.1)=false:=by rfl) :
  PE X (.Call (.Name x p) (e::es) [] pos) (tCallZ X.env scope fr js sp t):=by
 intro aP s σ H Q I h;refine e8 (ld_glob I hg hm ?_ hdb);refine kq (h₀:=X.base) I.ok.mod.kin hk (thn (ha pos aP s σ H _ I h) fun us s1 ⟨vs,H1,I1,r,q⟩=>⟨I1.kIn,?_⟩) he hpl;obtain ⟨cl,ws,LE,hws,q⟩:=q;have C:=I1.clo LE hws hjs hfv hfr;have N:∀ b o,oo cl s1.heap b=some o→H1 b=none:=fun b o e=>by
  obtain ⟨⟨x,hx⟩,_⟩:=nL e;exact I1.freeC x b (LE.1 x b hx)
 have G:∀ b o,oo cl s1.heap b=some o→s1.heap.get? b=some o:=fun b o e=>(nL e).2
 have up:∀ b o,oo cl s1.heap b=some o→X.s₀.heap.objs.size≤b:=fun b o e=>by
  obtain ⟨⟨x,hx⟩,_⟩:=nL e;exact I1.ok.cab x b (hfn x) (LE.1 x b hx)
 have q:=q _ C N;have hl:us.length=ps.length:=by rw [←r.length];exact F.len _ _ _ _ q
 have e0:Env0 X.prog X.w X.K X.mg X.base X.A X.stack s1 (ptF H1 (oo cl s1.heap)):=by
  have e:=I1.env0;refine ⟨e.frames,e.mod,fun b o eb=>⟨(e.bs b o eb).1,?_⟩,e.bsz,e.funs,fun b hb=>?_,HOk.ptF e.hok N G,e.bare⟩
  ·cases z:oo cl s1.heap b with
   | none=>rw [ig z];exact (e.bs b o eb).2
   | some o' =>
    have h1:=up b o' z;have h2:=aO eb;have h3:=I1.ok.bsz;exact rL (aS h2 (bh h3 h1)) (gf _)
  ·cases z:oo cl s1.heap b with
   | none=>rw [ig z];exact e.frf b hb
   | some o' =>
    exfalso
    rcases aG.mp (I1.stkSub b hb) with el | hb'
    ·obtain ⟨v,hv⟩:=C.cell b o' z
     obtain ⟨m,⟨o2,es2,ep2,ho2,hd2,_⟩,_⟩:=I1.loc;have e1:=G b o' z;rw [el,ho2] at e1;cases e1;rw [hd2] at hv;cases hv
    ·obtain ⟨_,o2,ho2,_⟩:=I1.ok.funs.mem hb'
     have h1:=up b o' z;have h2:=aO ho2;exact rL (aS h2 h1) (gf _)
 refine wpAny_call (codeAny_mono (F.run X.A X.stack s1 _ ⟨us,[]⟩ us vs _ E0 hr e0 (by have:=hb s1 us I1.kIn (by rw [dZ];exact hl);rw [dZ] at this;exact this) r q) fun r' s' hq=>?_);cases r' with
 | error e=>exact dg hq
 | ok fl =>
  cases fl with
  | ret u =>
   obtain ⟨v,H',os,bare,un,hok,rv,qv⟩:=hq;have Z:Fz (oo cl s1.heap) H':=fun b o e=>un.frzs b o _ (pT e)
   exact I1.after ⟨v,ctF H' (oo cl s1.heap),os,bare,Un.thaw un N hok G,HOk.cut hok Z,rv,qv Z⟩
  | next=>exact dg hq
  | brk=>exact dg hq
  | cont=>exact dg hq
end
end L2
namespace HN
open PySem L2 PyProof.Rows
def TiedBy (sp:List Sn)(L k:Int):Prop:=∃ x∈sp,x.o - x.l≤L∧((x.s=k∧0≤x.g∧x.g<k)∨(x.g=k∧0≤x.s∧x.s<k))
def Narrow (m:Int)(sp:List Sn)(L:Int):Prop:=(∀ x∈sp,x.o - x.l≤L)∨∀ k,1≤k→k<m→TiedBy sp L k
theorem taken_at {sp:List Sn}{i:Nat}:∀ (π:List Nat) (c:List Int×List Nat),i∈(π.foldl (fA sp) c).2→i∈c.2∨∃ π1 π2,π=π1++i::π2∧tm (π1.foldl (fA sp) c).1 (sAt sp i).s≠tm (π1.foldl (fA sp) c).1 (sAt sp i).g
 | [],c,h=> .inl h
 | j::π,c,h=>by
  rw [bK] at h
  rcases taken_at π _ h with h | ⟨π1,π2,rfl,hne⟩
  ·obtain ⟨gs,tk⟩:=c
   rcases iP sp gs tk j with ⟨_,e⟩ | ⟨n,e⟩ <;> rw [e] at h
   ·exact .inl h
   ·rcases aN.mp h with h | h
    ·exact .inl h
    ·rw [aw.mp h]
     exact .inr ⟨[],π,rfl,n⟩
  ·exact .inr ⟨j::π1,π2,rfl,hne⟩
theorem all_met {m:Nat}{sp:List Sn}{L:Int}{gs:List Int}(E:lh m sp)(meets:∀ x∈sp,x.o - x.l≤L→tm gs x.s=tm gs x.g)(ti:∀ k:Int,1≤k→k<m→TiedBy sp L k):∀ (n:Nat) (k:Int),0≤k→k<m→k.toNat≤n→tm gs k=tm gs 0
 | n,k,k0,k1,kn=>by
  by_cases z:k=0
  ·rw [z]
  ·obtain ⟨x,hx,hw,h⟩:=ti k (by lia) k1
   have e:=meets x hx hw
   rcases h with ⟨h1,h2,h3⟩ | ⟨h1,h2,h3⟩
   ·cases n with
    | zero=>lia
    | succ n =>
     rw [h1] at e;rw [e];exact all_met E meets ti n x.g h2 (by lia) (by lia)
   ·cases n with
    | zero=>lia
    | succ n =>
     rw [h1] at e;rw [←e];exact all_met E meets ti n x.s h2 (by lia) (by lia)
theorem qu {L:Int}(E:lh m sp)(N:Narrow (m:Int) sp L)(F:FrstL m sp l):∀ i∈l,i<sp.length∧(nP sp i).1≤L:=by
 obtain ⟨_,π,O,pm⟩:=F;intro i hi;have hi:=pm.mem_iff.mp hi
 rcases taken_at π (jS m,[]) hi with h | ⟨π1,π2,e,h⟩
 ·cases h
 have hil:i<sp.length:=O.lt (by rw [e];simp);refine ⟨hil,?_⟩
 rcases N with N | N
 ·exact N _ (eu hil)
 ·by_cases w:(nP sp i).1≤L
  ·exact w
  exfalso;have w:L<(sAt sp i).o - (sAt sp i).l:=by
   have:¬ ((sAt sp i).o - (sAt sp i).l≤L):=w;lia
  have p1:∀ j∈π1,j<sp.length:=fun j hj=>O.lt (by rw [e];simp [hj])
  have meets:∀ x∈sp,x.o - x.l≤L→tm (π1.foldl (fA sp) (jS m,[])).1 x.s=tm (π1.foldl (fA sp) (jS m,[])).1 x.g:=by
   intro x hx hw;obtain ⟨j,hj,ej⟩:=i4 hx;have ej:sAt sp j=x:=by
    unfold sAt;rw [ai,gE hj];exact ej
   have hjπ:j∈π:=O.1.mem_iff.mpr (bO.mpr hj);have hj1:j∈π1:=by
    rw [e] at hjπ
    rcases aN.mp hjπ with z | z
    ·exact z
    ·exfalso
     rcases aG.mp z with z | z
     ·rw [z] at ej;rw [ej] at w;lia
     ·have pw:=O.2
      rw [e] at pw;have:=(kD.mp (List.pairwise_append.mp pw).2.1).1 j z;rw [qd] at this;unfold nP at this;rw [ej] at this;lia
   have:=j8 E π1 (jS m) [] (jo m) p1 j hj1;rw [ej] at this;exact this
  obtain ⟨a0,a1,b0,b1⟩:=E _ (eu hil);refine h ?_;rw [all_met E meets N _ _ a0 a1 (aE _),all_met E meets N _ _ b0 b1 (aE _)]
theorem prodW_lim {sp:List Sn}{L:Int}:∀ (l:List Nat),(∀ i∈l,0≤(nP sp i).1∧(nP sp i).1≤L)→1≤jE sp l∧jE sp l≤(L+1) ^ l.length
 | [],_=>⟨(eI 1:(1:Int)≤1),by show (1:Int)≤(L+1) ^ 0;rw [Int.pow_zero];exact eI 1⟩
 | i::l,h=>by
  obtain ⟨a,b⟩:=h i (by simp);obtain ⟨c,d⟩:=prodW_lim l fun j hj=>h j (ay _ hj)
  rw [l4,aZ,Int.pow_succ,Int.mul_comm ((L+1) ^ l.length)];refine ⟨?_,Int.mul_le_mul (by lia) d (by lia) (by lia)⟩;have:1 * 1≤((nP sp i).1+1) * jE sp l:=Int.mul_le_mul (by lia) c (by decide) (by lia);lia
def limOf (m:Int):Int:=([1,1,40,7,4,3,2,2,2]:List Int).getD m.toNat 0
theorem limOf_pow {k:Nat}(h0:1≤m)(h1:m≤8)(hk:k<m):limOf m ^ k≤4096 :=
 (by trivial:∀ m∈aQ 9,∀ k∈aQ m,limOf (m:Nat) ^ k≤4096) m (bO.mpr (by lia)) k (bO.mpr hk)
theorem few_cases {m:Int}(N:NetT b m sp)(m8:m≤8)(na:Narrow m sp (limOf m - 1)):∀ l,FrstL m.toNat sp l→jE sp l≤4096:=by
 intro l F;have m1:=N.m1;have em:((m.toNat:Nat):Int)=m:=eE (by lia);have E:=N.ends;have nar:=qu E (by rw [em];exact na) F;have few:=F.few E (by lia);have:=(prodW_lim (sp:=sp) (L:=limOf m - 1) l fun i hi=>by
  obtain ⟨a,c⟩:=nar i hi;refine ⟨?_,c⟩;have:=(N.all _ (eu a)).lo;show 0≤(sAt sp i).o - (sAt sp i).l;lia).2
 rw [show limOf m - 1+1=limOf m by lia] at this;have p:=limOf_pow (m:=m.toNat) (k:=l.length) (by lia) (by lia) few;rw [em] at p;lia
theorem kept_wait {j r l wd:Int}{x:Sn}(hb:1≤b)(w0:0≤wd)(w1:wd<b)(e:l=(tm ts x.g - tm ts x.s - r % (wd+1)) % b+b * j)(el:x.l=l):gi b ts x≤wd:=by
 have r0:=cS r (by lia:wd+1≠0);have r1:=cB r (by lia:0<wd+1);unfold gi;rw [el,e];generalize r % (wd+1)=q at r0 r1 ⊢;have:(tm ts x.g - tm ts x.s - ((tm ts x.g - tm ts x.s - q) % b+b * j)) % b=q:=by
  rw [show tm ts x.g - tm ts x.s - ((tm ts x.g - tm ts x.s - q) % b+b * j)=(tm ts x.g - tm ts x.s - (tm ts x.g - tm ts x.s - q) % b) - b * j by lia,Int.sub_mul_emod_self_left];rw [Int.sub_emod,Int.emod_emod,←Int.sub_emod,show tm ts x.g - tm ts x.s - (tm ts x.g - tm ts x.s - q)=q by lia,Int.emod_eq_of_lt r0 (by lia)]
 lia
end HN
namespace L2
open PySem PySem.W PySem.Spec PyProof.Rows
def CGrt (i j:Int):Prop:=i.natAbs<10 ^ 1000∧j.natAbs<10 ^ 1000
theorem bits_grt {x:Int}(h:x.natAbs<10 ^ 1000):jP x≤2 ^ 20:=by
 unfold jP;split
 ·exact bG _
 ·rename_i hx
  have h0 : x.natAbs ≠ 0 := fun z => hx (by have e : x = 0 := by lia
                                            rw [e];rfl)
  have h2:=(Nat.log2_lt h0).mpr (jN h (by trivial:10 ^ 1000<2 ^ 10000));have h3:(10000:Nat)+1≤2 ^ 20:=by decide
  lia
theorem ip_mulG:PIp X .Mult (fun x y H Q=>∃ i j,x= .int i∧y= .int j∧CGrt i j∧Q (.int (i * j)) H):=by
 intro aP s σ H x y v u Q I r1 r2 h;obtain ⟨i,j,e1,e2,hc,q⟩:=h;subst e1;subst e2;obtain ⟨t,rfl⟩:=r1;obtain ⟨t',rfl⟩:=r2;exact imul_int ⟨.int _,H,I.tok _,⟨_,rfl⟩,q⟩ (IntMulOk.of_bits (bits_grt hc.1) (bits_grt hc.2))
end L2
namespace L2
open PySem PySem.Spec PyProof.Rows
def Itvl (K:aq)(a:ao)(n:Nat):It :=
 ⟨fun i H=>∃ xs x,SqL K H a xs∧xs.length=n∧xs.reverse[i]? =some x,fun i H x H'=>H'=H∧∀ xs,SqL K H a xs→xs.reverse[i]? =some x,fun i _=>i=n⟩
theorem turn_revL (a it:ao)(n:Nat):Turn P w K tg (Itvl K a n) [it] it (fun i h=>h.IsRevIter it a ((n:Int) - 1 - (i:Nat))) where
 mem:=by simp
 obj:=fun i h st b hb=>by
  have e:b=it:=by simpa using hb
  subst e;obtain ⟨o,e,c,d⟩:=st;exact ⟨o,e,fun v z=>by rw [d] at z;cases z⟩
 keep:=fun i h h' st k=>st.at fun o e=>k it (by simp) o e
 item:=by
  intro X hP hw hK hc i aP s σ H E I hf st hg;subst hP hw hK;obtain ⟨xs,x,hq,hn,hx⟩:=hg;obtain ⟨its,rv,p,hz⟩:=I.list hq;have hi:i<xs.length:=by
   have:=(ak.mp hx).1;rw [fq] at this;exact this
  have hx2:=hx;rw [List.getElem?_reverse hi] at hx2;obtain ⟨u,hu,ru⟩:=rv.get hx2;obtain ⟨f0,f1,f2,f3,f4,f5⟩:=hf it (by simp);have e:(n:Int) - 1 - (i:Nat)=((xs.length - 1 - i:Nat):Int):=by lia
  rw [e] at st;refine wpAny_pyNext_rev_item st p.isList (x:=u) (by simpa using hu) fun h' st' sb=>?_
  have I1:Inv X aP σ H { s with heap:=h' }:=I.turned (t':=s.toks) (fun b o hb e=>(sb.2 b hb).trans e) f0 f1 f3 f4 f5;obtain ⟨o,e2,c,d⟩:=id st';have e3:((xs.length - 1 - i:Nat):Int) - 1=(n:Int) - 1 - ((i+1:Nat):Int):=by lia
  rw [e3] at st';exact ⟨u,rfl,go_of (s:={ s with heap:=h' }) e2 c d (by decide) ⟨x,H,I1,ru,⟨rfl,fun ys hy=>by rw [I.list_inj hy hq];exact hx⟩,st',fun b hb=>(hf b hb).1⟩⟩
 done:=by
  intro X hP hw hK hc i aP s σ H E I hf st hg;subst hP hw hK;obtain ⟨f0,f1,f2,f3,f4,f5⟩:=hf it (by simp);have hg:i=n:=hg;have e:(n:Int) - 1 - (i:Nat)= -1:=by lia
  rw [e] at st;exact wpAny_pyNext_rev_end (I.ok.hd hc) st fun h' eb=>⟨rfl,I.turned (t':=s.toks) (fun b o hb e=>eb b o hb e) f0 f1 f3 f4 f5⟩
 self:=fun _ _ _ _ _ st h=>wpAny_pyIter_revIter st h
def iRevL (K:aq)(ta:TA):TI:=fun σ H R=>ta σ H fun vs H1=>∃ a xs,vs=[.ref a]∧SqL K H1 a xs∧R (Itvl K a xs.length) H1
theorem pi_revL {ta:TA}{p:Pos}(hg:Gl X "reversed")(hm:X.mg "reversed" =none)(ha:PA X [ea] ta)(hs:bD [ea] X.env=[(false,eP ea X.env)]:=by rfl) :
  PI X tg (.Call (.Name "reversed" p) [ea] [] pos) (iRevL X.K ta):=by
 intro aP s σ H R I h;refine Call_ (lU I hg hm boot_reversed (eN (thn (ha pos aP s σ H _ I h) fun us s1 z=>?_) hs rfl));obtain ⟨vs,H1,I1,r1,q1⟩:=z;obtain ⟨a,xs,e,hA,q⟩:=q1;subst e;obtain ⟨u1,rfl,r2⟩:=nR r1;cases (show u1=ae.ref a from r2);obtain ⟨its,rv,pt',hz⟩:=I1.list hA;have hl:=rv.length;refine call_reversed_list pt'.isList ?_;have z1:(s1.heap.push (revObj a ((its.toArray.size:Int) - 1))).IsRevIter s1.heap.objs.size a ((xs.length:Int) - 1 - ((0:Nat):Int)):=by
  refine ⟨_,bg _ rfl,rfl,?_⟩;rw [aJ,←hl,show (xs.length:Int) - 1 - ((0:Nat):Int)=(xs.length:Int) - 1 by lia];rfl
 refine wpAny_pyIter_revIter (s:={ s1 with heap:=s1.heap.push (revObj a ((its.toArray.size:Int) - 1)) }) z1 ⟨s1.heap.objs.size,[s1.heap.objs.size],_,Itvl X.K a xs.length,H1,rfl,I1.kept (t':=s1.toks) fun c o e=>ar _ e,turn_revL a _ _,z1,fun b hb=>?_,q⟩;have e:b=s1.heap.objs.size:=by simpa using hb
 subst e;exact I1.fpOk (aE _) (I1.hok.fresh (aE _))
theorem for_revL {tb:TS}{D:lh}(Pv:Nat→St→Hp→Prop)(h0:Pv 0 σ H)(hl:∀ i σ H,i≤xs.length→Pv i σ H→SqL K H a xs)
  (hs:∀ i x σ H,xs.reverse[i]? =some x→Pv i σ H→g x σ H fun σ2 H2=>tb { D with nx:=Pv (i+1),ct:=Pv (i+1),bk:=D.nx } σ2 H2) (hd:∀ σ H,Pv xs.length σ H→D.nx σ H) :
  ∃ W:Nat→Nat→St→Hp→Prop,(∃ m,W 0 m σ H)∧∀ i m σ H,W i m σ H →
   ((Itvl K a xs.length).stop i H∧D.nx σ H)∨((Itvl K a xs.length).go i H∧∃ N:St→Hp→Prop,(∀ σ' H',N σ' H'→∃ m',m'<m∧W (i+1) m' σ' H')∧∀ x H',(Itvl K a xs.length).yld i H x H'→g x σ H' fun σ2 H2=>tb { D with nx:=N,ct:=N,bk:=D.nx } σ2 H2):=by
 refine ⟨fun i m σ H=>m=xs.length - i∧i≤xs.length∧Pv i σ H,⟨xs.length,by simp,bG _,h0⟩,?_⟩;rintro i m σ H ⟨rfl,hi,p⟩;have q:=hl i σ H hi p
 by_cases e:i=xs.length
 ·subst e
  exact .inl ⟨rfl,hd σ H p⟩
 ·have hlt:i<xs.length:=gm hi e
  refine .inr ⟨⟨xs,_,q,rfl,gE (by rw [fq];exact hlt)⟩,Pv (i+1),fun σ' H' p'=>⟨xs.length - (i+1),by lia,rfl,by lia,p'⟩,fun x H' hy=>?_⟩;obtain ⟨rfl,hx⟩:=hy;exact hs i x σ _ (hx xs q) p
theorem thou_le (h:n≤1001):n≤bp:=bh h (by decide)
def min3 (a b c:Int):Int:=if b<a then (if c<b then c else b) else (if c<a then c else a)
theorem min3_le (a b c:Int):min3 a b c≤a∧min3 a b c≤b∧min3 a b c≤c:=by
 unfold min3;split <;> split <;> lia
theorem min3_ge {a c:Int}(h1:z≤a)(h2:z≤b)(h3:z≤c):z≤min3 a b c:=by
 unfold min3;split <;> split <;> lia
theorem call_min3 (hc:X.calm=true):CallR X (.builtin "min") (fun xs H Q=>∃ a b c,xs=[.int a,.int b,.int c]∧Q (.int (min3 a b c)) H):=by
 intro aP s σ H xs us Q I r h;obtain ⟨a,b,c,rfl,q⟩:=h;cases r with
 | cons r1 r =>
  obtain ⟨u,w',rfl,⟨t2,rfl⟩,⟨t3,rfl⟩⟩:=vals2 r;obtain ⟨t1,rfl⟩:=r1;refine min_three_ints (I.ok.hd hc) fun h' tk k=>⟨_,H,I.kept k,?_,q⟩
  unfold min3
  by_cases h1:b<a
  ·rw [rJ h1,rJ h1]
   by_cases h2:c<b
   ·rw [rJ h2,rJ h2];exact ⟨_,rfl⟩
   ·rw [rG h2,rG h2];exact ⟨_,rfl⟩
  ·rw [rG h1,rG h1]
   by_cases h2:c<a
   ·rw [rJ h2,rJ h2];exact ⟨_,rfl⟩
   ·rw [rG h2,rG h2];exact ⟨_,rfl⟩
inductive rInsert (x:V)(vs:List V)(H:Hp)(Q:VK):Prop
 | mk (l xs k y:_)(_:x= .ref l)(_:vs=[.int k,y])(_:H l=some (.lst xs))(_:xs.length≤1000)(_:0≤k)(_:k≤xs.length)(_:Q .non (upd H l (.lst (xs.take k.toNat++y::xs.drop k.toNat))))
theorem mt_insert:MtM X "list.insert" rInsert:=by
 intro aP s σ H x vs v us Q I rx rv h;obtain ⟨l,xs,k,y,rfl,rfl,hH,hz,k0,k1,q⟩:=h;cases rx;obtain ⟨u,w',rfl,⟨t,rfl⟩,ru⟩:=vals2 rv;obtain ⟨z,its,n,r,hl,e⟩:=I.lstM hH;have hlen:its.length=xs.length:=r.length.symm;have hs:its.toArray.size≤bp:=by rw [aJ];exact thou_le (by lia)
 have hf:fX.List.listFitsIndex k=true:=by
  unfold fX.List.listFitsIndex;simp only [dM,decide_eq_true_eq]
  constructor <;> lia
 refine call_meets PySem.F.slot_list_insert ⟨_,e,rfl⟩ PySem.F.entry_list_insert (PySem.F.args_list_insert_3 _ _ _) (PySem.AutoSeq1.list_insert_list_int_val_1 l its.toArray n k t w' (by rw [hf];decide) hs) ⟨e,?_⟩;refine ⟨.non,_,I.lset (its':=its.take k.toNat++w'::its.drop k.toNat) hH e ?_ ((r.take _).append (.cons ru (r.drop _))) ?_,rfl,q⟩
 ·show (its.toArray.extract 0 (if k<0 then (k+(its.toArray.size:Int)).toNat else min k.toNat its.toArray.size)).push w'++its.toArray.extract (if k<0 then (k+(its.toArray.size:Int)).toNat else min k.toNat its.toArray.size)=(its.take k.toNat++w'::its.drop k.toNat).toArray
  rw [rG (by lia),aJ,Nat.min_eq_left (by lia)]
  apply Array.toList_inj.mp
  have ht:(its.drop k.toNat).take (its.length - k.toNat)=its.drop k.toNat:=ju (by rw [eY];lia);simp [ht]
 ·rw [av,aZ,bL,eY]
  exact thou_le (by lia)
end L2
namespace HN
open PySem L2 PyProof.Rows
def Mv (p:ao)(H H':Hp):Prop:=(∀ b o,b≠p→H b=some o→H' b=some o)∧∃ n,H' p=some (.lst [.int n])
theorem Mv.trans {p:ao}(a:Mv p H H1)(b:Mv p H1 H2):Mv p H H2:=⟨fun c o hc e=>b.1 c o hc (a.1 c o hc e),b.2⟩
theorem Mv.new {p q:ao}(a:Mv p H H1)(hq:H1 q=none):Mv p H (upd H1 q o):=by
 obtain ⟨n,hn⟩:=a.2;exact ⟨fun c u hc e=>by rw [bC (bH (a.1 c u hc e) hq)];exact a.1 c u hc e,n,by rw [bC (bH hn hq)];exact hn⟩
theorem Mv.at {p q:ao}(a:Mv p H H1)(h:H q=some o)(hne:q≠p):H1 q=some o:=a.1 q o hne h
theorem Mv.then {p:ao}(a:Mv p H H1)(S:Same H1 H2):Mv p H H2:=⟨fun c o hc e=>S _ _ (a.1 c o hc e),by obtain ⟨n,hn⟩:=a.2;exact ⟨n,S _ _ hn⟩⟩
theorem Mv.of {p:ao}{n:Int}(S:Same H H1)(h:H1 p=some (.lst [.int n])):Mv p H H1:=⟨fun c o _ e=>S _ _ e,n,h⟩
theorem Mv.ne {p q:ao}(a:Mv p H H1)(hq:H1 q=none):q≠p:=fun z=>by obtain ⟨n,hn⟩:=a.2;rw [z,hn] at hq;cases hq
theorem Same.mv {p:ao}(e:Same H H1)(hp:H p=none)(m:Mv p H1 H2):Same H H2:=fun b o q=>m.1 b o (fun z=>by rw [z,hp] at q;cases q) (e b o q)
theorem Mv.tupK {p:ao}{n:Int}(h:H p=some (.lst [.int n]))(a:Mv p H H1):TupK H H1:=fun q xs e=>a.1 q _ (eV e h nofun) e
inductive spTake (vs:List V)(H:Hp)(Q:VK)(_:XK):Prop
 | mk (p n m:_)(_:vs=[.ref p,.int m])(_:H p=some (.lst [.int n]))(_:0<m)(_:m<10 ^ 61)(_:∀ r H',0≤r→r<m→Mv p H H'→Q (.int r) H')
inductive spMix (vs:List V)(H:Hp)(Q:VK)(_:XK):Prop
 | mk (c k:_)(_:vs=[.int c,.int k])(_:0≤k)(_:k≤1000)(_:∀ n,Q (.int n) H)
inductive spPotT (K:aq)(vs:List V)(H:Hp)(Q:VK)(_:XK):Prop
 | mk (a:ao)(ns:List Int)(k:Int)(_:vs=[.ref a,.int k])(_:SqL K H a (ns.map V.int))(_:0≤k)(_:k≤100)(_:∀ n p,H p=none→Q (.ref p) (upd H p (.lst [.int n])))
abbrev sCell:cU:=top 47
abbrev sMix:cU:=top 48
abbrev sPotT:cU:=top 49
abbrev sTake:cU:=top 50
theorem scCell:cb pzh pzh (defScope sCell):=by trivial
theorem ok_cell (F:Fun K "_law_cell_at" "_law_cell_at" sCell f fd)(T:Nm mg):cW P w K mg base CX0 1 f fd pzh (spCell K):=by
 refine F.ok scCell (by contradiction) (fun cdv A outer s H vs Q E hr h=>?_);obtain ⟨a,ns,j,rfl,ha,hj,k⟩:=h;refine ⟨_,oX (fU (cu oj (pv 1) (cy bX rfl T.len bI (ag (pv 0) aC)) (cJ _)) (cj (bY (dG eD (pv 0) (pv 1) (fun _ _=>rfl)))) cX) (cj (bY bo)),?_⟩;refine ⟨_,rfl,_,rfl,a,_,rfl,.inl ha,_,_,rfl,rfl,_,rfl,?_⟩;refine ite2 (fun h1=>?_) (fun h1=>?_)
 ·have h1:j<((ns.map V.int).length:Int):=rO h1
  obtain ⟨v,e1,e2⟩:=rp hj h1;obtain ⟨c,_,rfl⟩:=bc.mp e2;exact ⟨_,rfl,_,rfl,a,_,_,_,rfl,rfl,ha,e1,k c⟩
 ·exact k 0
theorem scTake:cb ["_law_pot_here","_law_most","_law_number"] pzj (defScope sTake):=by trivial
theorem ok_take (F:Fun K "_law_take" "_law_take" sTake f fd):cW P w K mg base CX0 1 f fd pzj spTake:=by
 refine F.ok scTake (by contradiction) (fun cdv A outer s H vs Q E hr h=>?_);obtain ⟨p,n,m,rfl,hp,h0,h1,k⟩:=h;refine ⟨_,oX (psZ 2 scTake.nd (cg iZ (dG eD (pv 0) bo (fun _ _=>rfl)) (pv 1)))
  (oX (mY (cg nj (dG eD (pv 0) bo (fun _ _=>rfl)) (pv 1)) (pg_sub (pv 0) bo mX)) (cj (bY (pv 2)))),?_⟩
 refine ⟨_,rfl,p,_,_,_,rfl,rfl,SqL.of hp,az (j:=0) rfl,_,rfl,_,_,rfl,rfl,h0,?_⟩;refine ⟨_,rfl,p,_,_,_,rfl,rfl,SqL.of hp,az (j:=0) rfl,_,rfl,_,_,rfl,rfl,log_ok h0 h1,?_⟩;refine ⟨_,rfl,p,_,_,0,rfl,rfl,hp,rfl,?_⟩;refine ⟨_,rfl,k _ _ (cS _ (by lia)) (cB _ h0) ⟨fun b o hb e=>by rw [bC hb];exact e,n / m,aV⟩⟩
theorem scMix:cb ["_law_cell","_law_k","_law_number"] pzz (defScope sMix):=by trivial
theorem ok_mix (F:Fun K "_law_mixed" "_law_mixed" sMix f fd):cW P w K mg base CX0 1 f fd pzz spMix:=by
 refine F.ok scMix (by contradiction) (fun cdv A outer s H vs Q E hr h=>?_);obtain ⟨c,j,rfl,j0,j1,k⟩:=h;refine ⟨_,PSl.h (aU ⟨(psZ 2 scMix.nd (cg iZ (cg ij (cg fu (cg fu (cg iZ (pv 0) bo) (cg ij bo (pv 1))) bo) bo) bo))⟩
  (aU ⟨(psZ 2 scMix.nd (cg iZ (cg fu (cg fu (cg ij (pv 2) (pv 2)) (cg ij bo (pv 1))) bo) bo))⟩
  (cZ ⟨(bY (cg iZ (cg ij (pv 2) bo) bo))⟩))),?_⟩
 refine ⟨_,rfl,_,_,rfl,rfl,(by show (0:Int)<2147483629;decide),_,rfl,_,_,rfl,rfl,.inl ⟨by decide,by decide⟩,_,_,rfl,rfl,_,_,rfl,rfl,_,_,rfl,rfl,.inr ⟨by decide,by decide⟩,_,_,rfl,rfl,(by show (0:Int)<2147483647;decide),?_⟩;refine ⟨_,rfl,_,rfl,_,_,rfl,rfl,.inl ?_,_,rfl,_,_,rfl,rfl,.inl ⟨by decide,by decide⟩,_,_,rfl,rfl,_,_,rfl,rfl,_,_,rfl,rfl,(by show (0:Int)<2147483587;decide),?_⟩
 ·have h1:=cS ((c % 2147483629+7919 * j+1) * 48271) (by decide:(2147483647:Int)≠0)
  have h2:=cB ((c % 2147483629+7919 * j+1) * 48271) (by decide:(0:Int)<2147483647);exact ⟨by lia,by lia⟩
 ·exact ⟨_,rfl,_,_,rfl,rfl,.inr ⟨by decide,by decide⟩,_,_,rfl,rfl,(by show (0:Int)<2147483629;decide),k _⟩
theorem scPotT:cb ["_law_script","_law_k","_law_cell","_law_number","_law_j"] pzh (defScope sPotT):=by trivial
theorem ok_potT (F:Fun K "_law_pot" "_law_pot" sPotT f fd)(T:Nm mg)(T2:Nt mg)(G1:Fn K mg "_law_cell_at" sCell pzh f1 fd1)(G2:Fn K mg "_law_mixed" sMix pzz f2 fd2):cW P w K mg base CX0 2 f fd pzh (spPotT K):=by
 have F1:cW P w K mg base CX0 1 f1 fd1 pzh (spCell K):=ok_cell G1.F T;have F2:cW P w K mg base CX0 1 f2 fd2 pzz spMix:=ok_mix G2.F;refine F.ok scPotT (by contradiction) (fun cdv A outer s H vs Q E hr h=>?_);obtain ⟨a,ns,j,rfl,ha,j0,j1,k⟩:=h;refine ⟨_,PSl.h (aU ⟨(psZ 2 scPotT.nd (pc1 G1 F1 hr (ag (pv 0) (ag (pv 1) aC))))⟩
  (aU ⟨(fU (cu lT (cg iZ (pc1 G1 F1 hr (ag (pv 0) (ag bo aC))) bo) bo (cJ _)) (cj (bY (i9 (ag (pv 2) aC)))) cX)⟩
  (aU ⟨(psZ 3 scPotT.nd bo)⟩
  (aU ⟨(gk bz rfl (iI rfl T2.range (ag bo aC)) (pgZ 4 scPotT.nd) (cj (psZ 3 scPotT.nd (cg fu (cg ij (pv 3) bo) (pc1 G2 F2 hr (ag (pv 2) (ag (cg fu (pv 1) (cg ij bo (pv 4))) aC)))))))⟩
  (cZ ⟨(bY (i9 (ag (pv 3) aC)))⟩))))),?_⟩
 refine ⟨_,rfl,_,rfl,a,ns,j,rfl,ha,j0,fun c=>?_⟩;refine ⟨_,rfl,a,ns,0,rfl,ha,by decide,fun c0=>⟨_,_,rfl,rfl,(by show (0:Int)<2;decide),rfl,_,rfl,?_⟩⟩;refine ite2 (fun _=>?_) (fun _=>?_)
 ·exact ⟨_,rfl,szZ1,fun p hp=>k _ p hp⟩
 ·refine ⟨9,rfl,by decide,by decide,jF (n:=9) (fun i σ H2=>H2=H∧∃ n vj,σ=[some (.ref a),some (.int j),some (.int c),some (.int n),vj]) ⟨rfl,0,none,rfl⟩ ?_ ?_⟩
  ·rintro i σ H2 hi ⟨rfl,n,vj,rfl⟩
   refine ⟨_,rfl,_,_,rfl,rfl,.inr ⟨by decide,by decide⟩,_,rfl,_,rfl,_,rfl,_,_,rfl,rfl,.inl ⟨by decide,by decide⟩,_,_,rfl,rfl,c,_,rfl,by lia,by lia,fun n2=>⟨_,_,rfl,rfl,?_⟩⟩;exact ⟨rfl,_,_,rfl⟩
  ·rintro σ H2 ⟨rfl,n,vj,rfl⟩
   exact ⟨_,rfl,szZ1,fun p hp=>k _ p hp⟩
inductive spSpanH (vs:List V)(H:Hp)(Q:VK)(_:XK):Prop
 | mk (p tq e:ao)(n b s g wd:Int)(ts:List Int)(kb:Bool)(_:vs=[.ref p,.ref tq,.int b,.ref e,.int wd,.bl kb])(_:H p=some (.lst [.int n]))(_:H tq=some (.lst (ts.map V.int)))(_:tq≠p)(_:H e=some (.tup [.int s,.int g]))(_:1≤b)(_:b≤10 ^ 40)(_:ts.length≤16)(_:0≤s)(_:s<ts.length)(_:0≤g)(_:g<ts.length)(_:s≠g)(_:0≤wd)(_:wd<b)(_:∀ (t:ao) (x:Sn) (H':Hp),H t=none→Mv p H H'→H' t=some (.tup [.int x.s,.int x.g,.int x.l,.int x.o,.int x.w])→SnOk b ts.length x→x.o - x.l=wd→(kb=true→gi b ts x≤x.o - x.l)→x.s=s→x.g=g→Q (.ref t) H')
abbrev sSpanH:cU:=top 51
theorem mj:cb ["_law_pot_here","_law_times","_law_beat","_law_ends","_law_width","_law_kept","_law_start","_law_goal","_law_least","_law_weight"] pzq (defScope sSpanH):=by trivial
theorem ok_spanH (F:Fun K "_law_span" "_law_span" sSpanH f fd)(G1:Fn K mg "_law_take" sTake pzj f1 fd1):cW P w K mg base CX0 2 f fd pzq spSpanH:=by
 have F1:cW P w K mg base CX0 1 f1 fd1 pzj spTake:=ok_take G1.F;refine F.ok mj (by contradiction) (fun cdv A outer st0 H vs Q E hr h=>?_);obtain ⟨p,tq,e,n,b,s,g,wd,ts,kb,rfl,hp,htq,ntp,he,b1,b2,few,s0,s1,g0,g1,sg,w0,w1,k⟩:=h;refine ⟨_,PSl.h (aU ⟨(mY (pv 3) (lQ rfl (eZ (pgZ 6 mj.nd) (eZ (pgZ 7 mj.nd) ke))))⟩
  (aU ⟨(psZ 8 mj.nd (pc1 G1 F1 hr (ag (pv 0) (ag (pv 2) aC))))⟩
  (aU ⟨(lP (fU (gj (pv 5)) (cj (psZ 8 mj.nd (cg iZ (cg jj (cg jj (dG eD (pv 1) (pv 7) (fun _ _=>rfl)) (dG eD (pv 1) (pv 6) (fun _ _=>rfl))) (cg iZ (pv 8) (cg fu (pv 4) bo))) (pv 2)))) cX))⟩
  (aU ⟨(psZ 8 mj.nd (cg fu (pv 8) (cg ij (pv 2) (PEs.h (k_ix eD (k_lstF (fS kB (fS kB (fS kB (fS ⟨pc1 G1 F1 hr (ag (pv 0) (ag (cg op_pow bo bo) aC))⟩ a_nil))))) ⟨pc1 G1 F1 hr (ag (pv 0) (ag bo aC))⟩ (fun _ _=>rfl))))))⟩
  (aU ⟨(psZ 9 mj.nd (PEs.h (k_lstF (fS kB (fS kB (fS ⟨pc1 G1 F1 hr (ag (pv 0) (ag bo aC))⟩ (fS ⟨pc1 G1 F1 hr (ag (pv 0) (ag (cg fu (cg op_pow bo bo) bo) aC))⟩ a_nil)))))))⟩
  (cZ ⟨(bY (pe_tup (ag (pv 6) (ag (pv 7) (ag (pv 8) (ag (cg fu (pv 8) (pv 4)) (ag (dG eD (pv 9) (pc1 G1 F1 hr (ag (pv 0) (ag bo aC))) (fun _ _=>rfl)) aC)))))))⟩)))))),?_⟩
 refine ⟨_,rfl,e,_,rfl,SqT.of he,rfl,_,_,rfl,_,_,rfl,rfl,?_⟩;refine ⟨_,rfl,_,rfl,p,n,b,rfl,hp,by lia,by lia,fun r1 H1 a1 c1 M1=>?_⟩;have ht1:=M1.at htq ntp;refine ⟨fun σ' H'=>Mv p H H'∧∃ l,0≤l∧l<b∧(kb=true→∃ r,l=(tm ts g - tm ts s - r % (wd+1)) % b)∧σ'=[some (.ref p),some (.ref tq),some (.int b),some (.ref e),some (.int wd),some (.bl kb),some (.int s),some (.int g),some (.int l),none],?_,?_⟩
 rotate_left
 ·refine ⟨_,rfl,_,rfl,?_⟩
  refine ite2 (fun _=>?_) (fun hk=>⟨M1,r1,a1,c1,fun z=>rL z hk,rfl⟩);refine ⟨_,rfl,_,rfl,tq,_,_,_,rfl,rfl,SqL.of ht1,tm_at g0 g1,_,rfl,_,rfl,tq,_,_,_,rfl,rfl,SqL.of ht1,tm_at s0 s1,_,_,rfl,rfl,_,rfl,_,rfl,_,_,rfl,rfl,_,_,rfl,rfl,(by show (0:Int)<wd+1;lia),_,_,rfl,rfl,_,rfl,_,_,rfl,rfl,(by show (0:Int)<b;lia),?_⟩;exact ⟨M1,_,cS _ (by lia),cB _ (by lia),fun _=>⟨r1,rfl⟩,rfl⟩
 rintro σ' HC ⟨MC,l,l0,l1,hkl,rfl⟩;obtain ⟨nC,hpC⟩:=MC.2;refine ⟨_,rfl,_,rfl,_,rfl,_,_,rfl,rfl,⟨by decide,by decide,by decide⟩,p,_,_,rfl,hpC,by decide,by decide,fun rD HD aD cD MD=>⟨szZ4,fun qE hqE=>?_⟩⟩;have MD:=MC.trans MD;have cD:rD<10 ^ 9:=cD;have nqE:=MD.ne hqE;have ME:=MD.new (o:= .lst [.int 0,.int 0,.int 1,.int rD]) hqE;have hE:(upd HD qE (.lst [.int 0,.int 0,.int 1,.int rD])) qE=some (.lst [.int 0,.int 0,.int 1,.int rD]):=aV;obtain ⟨nE,hpE⟩:=ME.2;refine ⟨_,rfl,p,_,4,rfl,hpE,by decide,by decide,fun rF HF aF cF MF=>?_⟩;have hF:=MF.at hE nqE;have MF:=ME.trans MF;clear ME hE hpE;obtain ⟨vF,eF,mF⟩:=rp (xs:=[V.int 0,V.int 0,V.int 1,V.int rD]) aF cF;obtain ⟨j,rfl,j0,j1⟩:∃ i,vF=V.int i∧0≤i∧i≤10 ^ 9:=by
  simp only [aG,cQ,or_false] at mF
  rcases mF with rfl | rfl | rfl | rfl
  ·exact ⟨_,rfl,by decide,by decide⟩
  ·exact ⟨_,rfl,by decide,by decide⟩
  ·exact ⟨_,rfl,by decide,by decide⟩
  ·exact ⟨_,rfl,by lia,by lia⟩
 refine ⟨qE,_,_,_,rfl,rfl,SqL.of hF,eF,_,_,rfl,rfl,.inr ⟨by lia,by lia⟩,_,_,rfl,rfl,?_⟩;have bn0:0≤b * j:=Int.mul_nonneg (by lia) j0;have bn1:b * j≤10 ^ 40 * 10 ^ 9:=Int.mul_le_mul b2 j1 j0 (by decide);obtain ⟨nF,hpF⟩:=MF.2;refine ⟨_,rfl,p,_,10,rfl,hpF,by decide,by decide,fun rH HH aH cH MH=>?_⟩;have MH:=MF.trans MH;obtain ⟨nH,hpH⟩:=MH.2;refine ⟨_,rfl,_,_,rfl,rfl,⟨by decide,by decide,by decide⟩,_,_,rfl,rfl,p,_,_,rfl,hpH,by decide,by decide,fun rI HI aI cI MI=>⟨szZ4,fun qJ hqJ=>?_⟩⟩;have MI:=MH.trans MI;have cI:rI<10 ^ 12+1:=cI;have nqJ:=MI.ne hqJ;have MJ:=MI.new (o:= .lst [.int 0,.int 1,.int rH,.int rI]) hqJ;have hJ:(upd HI qJ (.lst [.int 0,.int 1,.int rH,.int rI])) qJ=some (.lst [.int 0,.int 1,.int rH,.int rI]):=aV;obtain ⟨nJ,hpJ⟩:=MJ.2;refine ⟨_,rfl,_,rfl,_,rfl,_,rfl,_,rfl,_,_,rfl,rfl,_,rfl,_,rfl,p,_,4,rfl,hpJ,by decide,by decide,fun rK HK aK cK MK=>?_⟩;have hK:=MK.at hJ nqJ;have MK:=MJ.trans MK;clear MJ hJ hpJ;obtain ⟨vK,eK,mK⟩:=rp (xs:=[V.int 0,V.int 1,V.int rH,V.int rI]) aK cK;obtain ⟨wt,rfl,t0,t1⟩:∃ i,vK=V.int i∧0≤i∧i≤1000000000000:=by
  simp only [aG,cQ,or_false] at mK
  rcases mK with rfl | rfl | rfl | rfl
  ·exact ⟨_,rfl,by decide,by decide⟩
  ·exact ⟨_,rfl,by decide,by decide⟩
  ·exact ⟨_,rfl,by lia,by lia⟩
  ·exact ⟨_,rfl,by lia,by lia⟩
 refine ⟨qJ,_,_,_,rfl,rfl,SqL.of hK,eK,szZ5,fun t ht=>?_⟩;have ntp:=MK.ne ht;have htH:H t=none:=by
  cases z:H t with
  | none=>rfl
  | some o=>rw [MK.1 t o ntp z] at ht;cases ht
 refine k t ⟨s,g,l+b * j,l+b * j+wd,wt⟩ _ htH (MK.new ht) aV ⟨s0,s1,g0,g1,sg,by show 0≤l+b * j;lia,by show l+b * j≤l+b * j+wd;lia,by show l+b * j+wd<l+b * j+b;lia,by show l+b * j+wd<10 ^ 60;lia,t0,t1⟩ (by show l+b * j+wd - (l+b * j)=wd;lia) (fun z=>?_) rfl rfl;obtain ⟨r,hr'⟩:=hkl z;show gi b ts _≤l+b * j+wd - (l+b * j);rw [show l+b * j+wd - (l+b * j)=wd by lia];exact kept_wait (r:=r) (j:=j) b1 w0 w1 (by rw [hr']) rfl
inductive spTied (vs:List V)(H:Hp)(Q:VK)(_:XK):Prop
 | mk (p tq:ao)(n b j lim so:Int)(ts:List Int)(_:vs=[.ref p,.ref tq,.int b,.int j,.int lim,.int so])(_:H p=some (.lst [.int n]))(_:H tq=some (.lst (ts.map V.int)))(_:tq≠p)(_:1≤b)(_:b≤10 ^ 40)(_:ts.length≤16)(_:1≤j)(_:j<ts.length)(_:1≤lim)(_:lim≤1000)(_:∀ (t:ao) (x:Sn) (H':Hp),H t=none→t≠p→Mv p H H'→H' t=some (.tup [.int x.s,.int x.g,.int x.l,.int x.o,.int x.w])→SnOk b ts.length x→x.o - x.l≤lim - 1→(decide (so≤0)=true→gi b ts x≤x.o - x.l)→((x.s=j∧0≤x.g∧x.g<j)∨(x.g=j∧0≤x.s∧x.s<j))→Q (.ref t) H')
inductive spMore (vs:List V)(H:Hp)(Q:VK)(_:XK):Prop
 | mk (p tq:ao)(n b mo so:Int)(ts:List Int)(_:vs=[.ref p,.ref tq,.int b,.int mo,.int so])(_:H p=some (.lst [.int n]))(_:H tq=some (.lst (ts.map V.int)))(_:tq≠p)(_:1≤b)(_:b≤10 ^ 40)(_:ts.length≤16)(_:2≤ts.length)(_:0≤mo)(_:∀ (t:ao) (x:Sn) (H':Hp),H t=none→t≠p→Mv p H H'→H' t=some (.tup [.int x.s,.int x.g,.int x.l,.int x.o,.int x.w])→SnOk b ts.length x→x.o - x.l≤mo→(decide (so≤0)=true→gi b ts x≤x.o - x.l)→Q (.ref t) H')
theorem Mv.none {p t:ao}{H H1:Hp}(M:Mv p H H1)(ht:H1 t=none):H t=none∧t≠p:=by
 have ntp:=M.ne ht;refine ⟨?_,ntp⟩;cases z:H t with
 | none=>rfl
 | some o=>rw [M.1 t o ntp z] at ht;cases ht
abbrev sTied:cU:=top 52
abbrev sMore:cU:=top 53
theorem scTied:cb ["_law_pot_here","_law_times","_law_beat","_law_k","_law_lim","_law_spoils","_law_width","_law_other","_law_ends"] pzA (defScope sTied):=by trivial
theorem ok_tied (F:Fun K "_law_tied" "_law_tied" sTied f fd)(T:Nm mg)(G1:Fn K mg "_law_take" sTake pzj f1 fd1)(G2:Fn K mg "_law_span" sSpanH pzq f2 fd2):cW P w K mg base CX0 3 f fd pzA spTied:=by
 have F1:cW P w K mg base CX0 1 f1 fd1 pzj spTake:=ok_take G1.F;have F2:cW P w K mg base CX0 2 f2 fd2 pzq spSpanH:=ok_spanH G2.F G1;refine F.ok scTied (by contradiction) (fun cdv A outer st0 H vs Q E hr h=>?_);obtain ⟨p,tq,n,b,j,lim,so,ts,rfl,hp,htq,ntp,b1,b2,few,j1,j2,m1,m2,k⟩:=h;have hr1:Room 1 _:=hr.mono (by decide);refine ⟨_,PSl.h (aU ⟨(psZ 6 scTied.nd (cy (qH rfl) rfl T.min boot_min (ag (pc1 G1 F1 hr1 (ag (pv 0) (ag (pv 4) aC))) (ag (cg jj (pv 2) bo) aC))))⟩
  (aU ⟨(psZ 7 scTied.nd (pc1 G1 F1 hr1 (ag (pv 0) (ag (pv 3) aC))))⟩
  (aU ⟨(psZ 8 scTied.nd (PEs.h (k_ix eD (k_lstF (fS ⟨eC (ag (pv 7) (ag (pv 3) aC))⟩ (fS ⟨eC (ag (pv 3) (ag (pv 7) aC))⟩ a_nil))) ⟨pc1 G1 F1 hr1 (ag (pv 0) (ag bo aC))⟩ (fun _ _=>rfl))))⟩
  (cZ ⟨(bY (pc1 G2 F2 hr (ag (pv 0) (ag (pv 1) (ag (pv 2) (ag (pv 8) (ag (pv 6) (ag (iR op_ge (pc1 G1 F1 hr1 (ag (pv 0) (ag bo aC))) (pv 5) (cJ _)) aC))))))))⟩)))),?_⟩
 refine ⟨_,rfl,_,rfl,p,n,lim,rfl,hp,by lia,by lia,fun r1 H1 a1 c1 M1=>⟨_,rfl,_,_,rfl,rfl,_,_,rfl,?_⟩⟩;obtain ⟨n1,hp1⟩:=M1.2;obtain ⟨wd,hwd,wd0,wd1,wd2⟩:∃ wd,wd=(if b - 1<r1 then b - 1 else r1)∧0≤wd∧wd<b∧wd≤lim - 1:=⟨_,rfl,by split <;> lia,by split <;> lia,by split <;> lia⟩;rw [←hwd];clear hwd;refine ⟨_,rfl,_,rfl,p,n1,j,rfl,hp1,by lia,by lia,fun r2 H2 a2 c2 M2=>?_⟩;have M2:=M1.trans M2;refine ⟨_,rfl,_,rfl,mN,fun t1 H3 S3 h3=>?_⟩;refine ⟨_,rfl,_,rfl,mN,fun t2 H4 S4 h4=>⟨mN,fun q hq=>?_⟩⟩;have M4:=M2.then (S3.trans S4);have h3:=S4 _ _ h3;have nqp:=M4.ne hq;have S5:Same H4 (upd H4 q (.lst [.ref t1,.ref t2])):=Same.put (Same.refl H4) hq;have h5:(upd H4 q (.lst [.ref t1,.ref t2])) q=some (.lst [.ref t1,.ref t2]):=aV;generalize upd H4 q (.lst [.ref t1,.ref t2])=H5 at S5 h5 ⊢;have M5:=M4.then S5;obtain ⟨n5,hp5⟩:=M5.2;refine ⟨_,rfl,p,n5,2,rfl,hp5,by decide,by decide,fun r6 H6 a6 c6 M6=>?_⟩;have h6:=M6.at h5 nqp;have h36:=Mv.tupK hp5 M6 _ _ (S5 _ _ h3);have h46:=Mv.tupK hp5 M6 _ _ (S5 _ _ h4);have M6:=M5.trans M6;have fin:∀ (e:ao) (s g:Int),H6 e=some (.tup [.int s,.int g])→0≤s→s<ts.length→0≤g→g<ts.length→s≠g→((s=j∧0≤g∧g<j)∨(g=j∧0≤s∧s<j))→∀ (r7:Int) (H7:Hp),Mv p H6 H7→0≤r7→∀ E',spSpanH [.ref p,.ref tq,.int b,.ref e,.int wd,.bl (decide (r7 ≥ so))] H7 Q E':=by
  intro e s g he s0 s1 g0 g1 sg sj r7 H7 M7 r70 _;obtain ⟨n6,hp6⟩:=M6.2;have he7:=Mv.tupK hp6 M7 _ _ he;have M7:=M6.trans M7;obtain ⟨n7,hp7⟩:=M7.2;refine ⟨p,tq,e,n7,b,s,g,wd,ts,_,rfl,hp7,M7.at htq ntp,ntp,he7,b1,b2,few,s0,s1,g0,g1,sg,wd0,wd1,fun t x H8 ht M8 h8 ok ew kw es eg=>?_⟩;obtain ⟨y1,y2⟩:=M7.none ht;refine k t x H8 y1 y2 (M7.trans M8) h8 ok (by lia) (fun z=>kw (rM (by have:=rO z;lia))) ?_;rw [es,eg];exact sj
 have c6:r6<2:=c6;have r6e:r6=0∨r6=1:=by lia
 obtain ⟨n6,hp6⟩:=M6.2
 rcases r6e with rfl | rfl
 ·refine ⟨q,_,_,_,rfl,rfl,SqL.of h6,az (j:=0) rfl,?_⟩
  refine ⟨_,rfl,_,rfl,_,rfl,_,rfl,_,rfl,_,rfl,p,n6,16,rfl,hp6,by decide,by decide,fun r7 H7 a7 c7 M7=>⟨_,rfl,_,_,rfl,rfl,?_⟩⟩;exact fin t1 r2 j h36 a2 (by lia) (by lia) j2 (by lia) (.inr ⟨rfl,a2,c2⟩) r7 H7 M7 a7 E0
 ·refine ⟨q,_,_,_,rfl,rfl,SqL.of h6,az (j:=1) rfl,?_⟩
  refine ⟨_,rfl,_,rfl,_,rfl,_,rfl,_,rfl,_,rfl,p,n6,16,rfl,hp6,by decide,by decide,fun r7 H7 a7 c7 M7=>⟨_,rfl,_,_,rfl,rfl,?_⟩⟩;exact fin t2 j r2 h46 (by lia) j2 a2 (by lia) (by lia) (.inl ⟨rfl,a2,c2⟩) r7 H7 M7 a7 E0
theorem qY:cb ["_law_pot_here","_law_times","_law_beat","_law_most","_law_spoils","_law_many","_law_start","_law_goal","_law_width"] pzB (defScope sMore):=by trivial
theorem ok_more (F:Fun K "_law_more" "_law_more" sMore f fd)(T:Nm mg)(G1:Fn K mg "_law_take" sTake pzj f1 fd1)(G2:Fn K mg "_law_span" sSpanH pzq f2 fd2):cW P w K mg base CX0 3 f fd pzB spMore:=by
 have F1:cW P w K mg base CX0 1 f1 fd1 pzj spTake:=ok_take G1.F;have F2:cW P w K mg base CX0 2 f2 fd2 pzq spSpanH:=ok_spanH G2.F G1;refine F.ok qY (by contradiction) (fun cdv A outer st0 H vs Q E hr h=>?_);obtain ⟨p,tq,n,b,mo,so,ts,rfl,hp,htq,ntp,b1,b2,few,m2,mo0,k⟩:=h;have hr1:Room 1 _:=hr.mono (by decide);refine ⟨_,PSl.h (aU ⟨(psZ 5 qY.nd (cy bX rfl T.len bI (ag (pv 1) aC)))⟩
  (aU ⟨(psZ 6 qY.nd (pc1 G1 F1 hr1 (ag (pv 0) (ag (pv 5) aC))))⟩
  (aU ⟨(psZ 7 qY.nd (cg iZ (cg fu (cg fu (pv 6) bo) (pc1 G1 F1 hr1 (ag (pv 0) (ag (cg jj (pv 5) bo) aC)))) (pv 5)))⟩
  (aU ⟨(psZ 8 qY.nd (PEs.h (k_ix eD (k_lstF (fS kB (fS ⟨pc1 G1 F1 hr1 (ag (pv 0) (ag bo aC))⟩ (fS ⟨pc1 G1 F1 hr1 (ag (pv 0) (ag (pv 2) aC))⟩ (fS (k_op jj ⟨pv 2⟩ kB) (fS ⟨pc1 G1 F1 hr1 (ag (pv 0) (ag bo aC))⟩ a_nil)))))) ⟨pc1 G1 F1 hr1 (ag (pv 0) (ag bo aC))⟩ (fun _ _=>rfl))))⟩
  (aU ⟨(psZ 8 qY.nd (cy (call_min3 rfl) rfl T.min boot_min (ag (pv 8) (ag (pv 3) (ag (cg jj (pv 2) bo) aC)))))⟩
  (cZ ⟨(bY (pc1 G2 F2 hr (ag (pv 0) (ag (pv 1) (ag (pv 2) (ag (eC (ag (pv 6) (ag (pv 7) aC))) (ag (pv 8) (ag (iR op_ge (pc1 G1 F1 hr1 (ag (pv 0) (ag bo aC))) (pv 4) (cJ _)) aC))))))))⟩)))))),?_⟩
 refine ⟨_,rfl,tq,_,rfl,.inl (SqL.of htq),?_⟩;rw [aa];obtain ⟨m,em⟩:∃ m:Int,m=(ts.length:Int):=⟨_,rfl⟩;rw [←em];refine ⟨_,rfl,_,rfl,p,n,m,rfl,hp,by lia,by lia,fun r1 H1 a1 c1 M1=>?_⟩;obtain ⟨n1,hp1⟩:=M1.2;refine ⟨_,rfl,_,_,rfl,rfl,_,rfl,_,rfl,_,_,rfl,rfl,p,n1,_,rfl,hp1,by lia,by lia,fun r2 H2 a2 c2 M2=>?_⟩;have M2:=M1.trans M2;obtain ⟨n2,hp2⟩:=M2.2;refine ⟨_,_,rfl,rfl,_,rfl,_,_,rfl,rfl,(by show (0:Int)<m;lia),?_⟩;obtain ⟨g0,g1,g2⟩:=goal_ok a1 c1 a2 c2;generalize hg:(r1+1+r2) % m=g at g0 g1 g2 ⊢;refine ⟨_,rfl,p,n2,4,rfl,hp2,by decide,by decide,fun r3 H3 a3 c3 M3=>?_⟩;have M3:=M2.trans M3;obtain ⟨n3,hp3⟩:=M3.2;refine ⟨_,rfl,_,rfl,p,n3,b,rfl,hp3,by lia,by lia,fun r4 H4 a4 c4 M4=>?_⟩;have M4:=M3.trans M4;obtain ⟨n4,hp4⟩:=M4.2;refine ⟨_,rfl,_,_,rfl,rfl,_,rfl,p,n4,2,rfl,hp4,by decide,by decide,fun r5 H5 a5 c5 M5=>⟨szZ5,fun q hq=>?_⟩⟩;have M5:=M4.trans M5;have nqp:=M5.ne hq;have S6:Same H5 (upd H5 q (.lst [.int 0,.int r3,.int r4,.int (b - 1),.int r5])):=Same.put (Same.refl H5) hq;have h6:(upd H5 q (.lst [.int 0,.int r3,.int r4,.int (b - 1),.int r5])) q=some (.lst [.int 0,.int r3,.int r4,.int (b - 1),.int r5]):=aV;generalize upd H5 q (.lst [.int 0,.int r3,.int r4,.int (b - 1),.int r5])=H6 at S6 h6 ⊢;have M6:=M5.then S6;obtain ⟨n6,hp6⟩:=M6.2;refine ⟨_,rfl,p,n6,5,rfl,hp6,by decide,by decide,fun r7 H7 a7 c7 M7=>?_⟩;have h7:=M7.at h6 nqp;have M7:=M6.trans M7;obtain ⟨v7,e7,m7⟩:=rp (xs:=[V.int 0,V.int r3,V.int r4,V.int (b - 1),V.int r5]) a7 c7;obtain ⟨w0,rfl,w00⟩:∃ i,v7=V.int i∧0≤i:=by
  simp only [aG,cQ,or_false] at m7
  rcases m7 with rfl | rfl | rfl | rfl | rfl
  ·exact ⟨_,rfl,by decide⟩
  ·exact ⟨_,rfl,a3⟩
  ·exact ⟨_,rfl,a4⟩
  ·exact ⟨_,rfl,by lia⟩
  ·exact ⟨_,rfl,a5⟩
 refine ⟨q,_,_,_,rfl,rfl,SqL.of h7,e7,?_⟩;refine ⟨_,rfl,_,rfl,_,rfl,_,_,rfl,rfl,_,_,_,rfl,?_⟩;have wl:=min3_le w0 mo (b - 1);have wg:=min3_ge (z:=0) w00 mo0 (by lia:(0:Int)≤b - 1);generalize min3 w0 mo (b - 1)=wd at wl wg ⊢;obtain ⟨n7,hp7⟩:=M7.2;refine ⟨_,rfl,_,rfl,_,rfl,_,rfl,_,rfl,mN,fun e H8 S8 h8=>?_⟩;have M8:=M7.then S8;obtain ⟨n8,hp8⟩:=M8.2;refine ⟨_,rfl,_,rfl,p,n8,16,rfl,hp8,by decide,by decide,fun r9 H9 a9 c9 M9=>⟨_,rfl,_,_,rfl,rfl,?_⟩⟩;have h9:H9 e=some (.tup [.int r1,.int g]):=Mv.tupK hp8 M9 _ _ h8;have M9:=M8.trans M9;obtain ⟨n9,hp9⟩:=M9.2;refine ⟨p,tq,e,n9,b,r1,g,wd,ts,_,rfl,hp9,M9.at htq ntp,ntp,h9,b1,b2,few,a1,by lia,g0,by lia,g2,wg,by lia,fun t x HA ht MA hA ok ew kw es eg=>?_⟩;obtain ⟨y1,y2⟩:=M9.none ht;exact k t x HA y1 y2 (M9.trans MA) hA ok (by lia) (fun z=>kw (rM (by have:=rO z;lia)))
def qN (sp:List Sn)(i:Nat):Bool:=decide (1≤(nP sp i).1)
def wideS (x:Sn):Bool:=decide (1≤x.o - x.l)
theorem pX {sp:List Sn}:∀ (l:List Nat),(∀ i∈l,0≤(nP sp i).1∧(nP sp i).1≤1)→1≤jE sp l∧jE sp l≤2 ^ (l.filter (qN sp)).length
 | [],_=>⟨(eI 1:(1:Int)≤1),(by show (1:Int)≤2 ^ 0;decide)⟩
 | i::l,h=>by
  obtain ⟨a,b⟩:=h i (by simp);obtain ⟨c,d⟩:=pX l fun j hj=>h j (ay _ hj)
  rw [l4,dJ];have e:(nP sp i).1=0∨(nP sp i).1=1:=by lia
  rcases e with e | e
  ·rw [rG (show ¬ (qN sp i=true) by unfold qN;rw [e];decide),e]
   lia
  ·rw [rJ (show qN sp i=true by unfold qN;rw [e];decide),e,aZ,Int.pow_succ]
   lia
theorem qU (h:n≤7):(2:Int) ^ n≤4096:=(by decide:∀ n∈aQ 8,(2:Int) ^ n≤4096) n (bO.mpr (by lia))
theorem sp_range (sp:List Sn):(aQ sp.length).map (sAt sp)=sp:=by
 refine jT (by rw [aa,br]) fun i h1 h2=>?_
 rw [gZ,hV];unfold sAt;rw [ai,gE h2];rfl
theorem wide_len (sp:List Sn):((aQ sp.length).filter (qN sp)).length=(sp.filter wideS).length:=by
 conv=>rhs;rw [←sp_range sp]
 rw [List.filter_map,aa];rfl
theorem nodup_int (h:l.Nodup):(l.map fun n:Nat=>(n:Int)).Nodup:=by
 rw [bM,fh];exact (bM.mp h).imp fun hh e=>hh (by lia)
theorem nat_sub {k:List Nat}(h:l.Nodup)(s:∀ i∈l,i∈k):l.length≤k.length:=by
 have:=kR (nodup_int h) (k:=k.map fun n:Nat=>(n:Int)) fun z hz=>by
  obtain ⟨i,hi,rfl⟩:=bc.mp hz;exact bc.mpr ⟨i,s i hi,rfl⟩
 rwa [aa,aa] at this
section
variable {m:Int}
theorem frst_nodup (F:FrstL m.toNat sp l):l.Nodup:=by
 obtain ⟨_,π,O,pm⟩:=F;refine pm.nodup_iff.mpr ?_;obtain ⟨more,h1,h2⟩:=gone_sorted (sp:=sp) π (jS m.toNat);have h1:(kh sp m.toNat π).2=more:=h1;rw [h1];exact (O.1.nodup_iff.mpr iN).sublist h2
theorem frst_w (N:NetT b m sp)(F:FrstL m.toNat sp l)(h:Narrow m sp 1):∀ i∈l,i<sp.length∧0≤(nP sp i).1∧(nP sp i).1≤1:=fun i hi=>by
 have m1:=N.m1;obtain ⟨a,c⟩:=qu N.ends (by rw [eE (by lia)];exact h) F i hi;refine ⟨a,?_,c⟩;have:=(N.all _ (eu a)).lo;show 0≤(sAt sp i).o - (sAt sp i).l;lia
theorem few_cnt (N:NetT b m sp)(h:Narrow m sp 1)(c:(sp.filter wideS).length≤7)(F:FrstL m.toNat sp l):jE sp l≤4096:=by
 have w:=frst_w N F h;refine Int.le_trans (pX l fun i hi=>(w i hi).2).2 (qU ?_);rw [←wide_len] at c;exact bh (nat_sub ((frst_nodup F).filter _) fun i hi=>bW.mpr ⟨bO.mpr (w i (bW.mp hi).1).1,(bW.mp hi).2⟩) c
theorem few_tied (N:NetT b m sp)(h:Narrow m sp 1)(m8:8<m)(t:∀ k,8≤k→k<m→TiedBy sp 0 k)(F:FrstL m.toNat sp l):jE sp l≤4096:=by
 have w:=frst_w N F h;have em:((m.toNat:Nat):Int)=m:=eE (by lia);refine Int.le_trans (pX l fun i hi=>(w i hi).2).2 (qU ?_);have fw:=F.few N.ends (by lia);obtain ⟨_,π,O,pm⟩:=F;obtain ⟨suf,es⟩:=split_at 0 O.2;have hv:∀ i∈upTo sp 0 π,i<sp.length:=fun i hi=>O.lt (bW.mp hi).1
 have C:=o4 N.ends (upTo sp 0 π) (jS m.toNat) [] (jo _) hv (Cnt.start _);have me:=j8 N.ends (upTo sp 0 π) (jS m.toNat) [] (jo _) hv;have lg:((upTo sp 0 π).foldl (fA sp) (jS m.toNat,[])).1.length=m.toNat:=(stepG_len _ _).trans (jo _);have e:kh sp m.toNat π=suf.foldl (fA sp) ((upTo sp 0 π).foldl (fA sp) (jS m.toNat,[])):=by
  unfold kh
  conv=>lhs;rw [es,dO]
 have all0:∀ i∈((upTo sp 0 π).foldl (fA sp) (jS m.toNat,[])).2,(nP sp i).1≤0:=fun i hi=>by
  rcases (kd sp (upTo sp 0 π) (jS m.toNat,[])).1 i hi with z | z
  ·cases z
  ·exact rO (bW.mp z).2
 generalize (upTo sp 0 π).foldl (fA sp) (jS m.toNat,[])=c at C me lg e all0;obtain ⟨gs,tk⟩:=c;obtain ⟨more,hm⟩:=mS sp suf gs tk;rw [←e] at hm;obtain ⟨D,nd,mem,lD⟩:=C;have near:∀ (n:Nat) (k:Int),0≤k→k<m→k.toNat≤n→∃ j:Int,0≤j∧j<8∧tm gs k=tm gs j:=fun n=>by
  induction n with
  | zero=>intro k k0 _ kn;exact ⟨k,k0,by lia,rfl⟩
  | succ n ih =>
   intro k k0 k1 kn
   rcases jO k 8 with z | z
   ·exact ⟨k,k0,z,rfl⟩
   obtain ⟨x,hx,hw,hh⟩:=t k z k1;obtain ⟨i,hi,ei⟩:=i4 hx;have ei:sAt sp i=x:=by
    unfold sAt;rw [ai,gE hi];exact ei
   have hiπ:i∈upTo sp 0 π:=bW.mpr ⟨O.1.mem_iff.mpr (bO.mpr hi),rM (by show (sAt sp i).o - (sAt sp i).l≤0;rw [ei];exact hw)⟩;have e2:=me i hiπ;rw [ei] at e2;have e2:tm gs x.s=tm gs x.g:=e2
   rcases hh with ⟨h1,h2,h3⟩ | ⟨h1,h2,h3⟩
   ·obtain ⟨j,j0,j1,ej⟩:=ih x.g h2 (by lia) (by lia)
    exact ⟨j,j0,j1,by rw [←h1,e2];exact ej⟩
   ·obtain ⟨j,j0,j1,ej⟩:=ih x.s h2 (by lia) (by lia)
    exact ⟨j,j0,j1,by rw [←h1,←e2];exact ej⟩
 have D8:D.length≤8:=by
  have:=kR (k:=(aQ 8).map fun i:Nat=>tm gs (i:Int)) nd fun v hv=>by
   obtain ⟨k,k0,k1,ek⟩:=mem_tm ((mem v).mp hv);have k1:k<m:=by rw [←em];lia
   obtain ⟨j,j0,j1,ej⟩:=near _ k k0 k1 (aE _);exact bc.mpr ⟨j.toNat,bO.mpr (by lia),by rw [eE j0,←ej,ek]⟩
  rwa [aa,br] at this
 have lD:D.length+tk.length=m.toNat:=lD;have pl:=pm.length_eq;rw [hm,av] at pl;have:=(pm.filter (qN sp)).length_eq;rw [hm,gg,av] at this;have z:tk.filter (qN sp)=[]:=List.filter_eq_nil_iff.mpr fun i hi=>by
  have:=all0 i hi;unfold qN;rw [decide_eq_true_eq];lia
 rw [z,List.length_nil,Nat.zero_add] at this;have:=eO (qN sp) more;lia
end
def qP (m k:Int):Int:=if m≤8 then limOf m - 1 else if k<8 then 1 else 0
def extB (m:Int):Int:=if m≤8 then limOf m - 1 else 0
structure HidB (b m:Int)(tied:Bool)(n:Int)(sp:List Sn):Prop where
 all:∀ x∈sp,SnOk b m x
 nar:tied=false→∀ x∈sp,x.o - x.l≤qP m 1
 cnt:tied=false→8<m→((sp.filter wideS).length:Int)≤if n≤8 then n - 1 else 7
 tie:tied=true→∀ k,1≤k→k<n→TiedBy sp (qP m k) k
section
variable {m n:Int}{tied:Bool}{x:Sn}
theorem limB_le {k:Int}(m8:m≤16)(m1:1≤m):qP m k≤qP m 1∧extB m≤qP m 1:=by
 unfold qP extB
 constructor <;> (split <;> (try split) <;> lia)
theorem HidB.nil:HidB b m tied 1 []:=⟨fun _ h=>rL h (by simp),fun _ _ h=>rL h (by simp),fun _ _=>by simp,fun _ k h1 h2=>by lia⟩
theorem HidB.put (h:HidB b m tied n sp)(m1:1≤m)(m2:m≤16)(ok:SnOk b m x)(na:tied=false→x.o - x.l≤extB m)(j:Nat):HidB b m tied n (sp.take j++x::sp.drop j):=by
 have pm:(sp.take j++x::sp.drop j).Perm (x::sp):=by
  have:=List.perm_middle (l₁:=sp.take j) (l₂:=sp.drop j) (a:=x)
  rwa [List.take_append_drop] at this
 refine ⟨fun y hy=>?_,fun t y hy=>?_,fun t m8=>?_,fun t k k1 k2=>?_⟩
 ·rcases aG.mp (pm.mem_iff.mp hy) with rfl | z
  ·exact ok
  ·exact h.all y z
 ·rcases aG.mp (pm.mem_iff.mp hy) with rfl | z
  ·exact Int.le_trans (na t) (limB_le (k:=1) m2 m1).2
  ·exact h.nar t y z
 ·rw [(pm.filter wideS).length_eq,dJ,rG]
  ·exact h.cnt t m8
  ·have:=na t
   unfold extB at this;rw [rG (by lia)] at this;unfold wideS;rw [decide_eq_true_eq];lia
 ·obtain ⟨y,hy,r⟩:=h.tie t k k1 k2
  exact ⟨y,pm.mem_iff.mpr (ay _ hy),r⟩
theorem HidB.more (h:HidB b m tied n sp)(m1:1≤m)(m2:m≤16)(n1:1≤n)(ok:SnOk b m x)(na:x.o - x.l≤qP m n)(e:(x.s=n∧0≤x.g∧x.g<n)∨(x.g=n∧0≤x.s∧x.s<n)):HidB b m tied (n+1) (sp++[x]):=by
 refine ⟨fun y hy=>?_,fun t y hy=>?_,fun t m8=>?_,fun t k k1 k2=>?_⟩
 ·rcases aN.mp hy with z | z
  ·exact h.all y z
  ·rw [aw.mp z];exact ok
 ·rcases aN.mp hy with z | z
  ·exact h.nar t y z
  ·rw [aw.mp z];exact Int.le_trans na (limB_le m2 m1).1
 ·have c:=h.cnt t m8
  rw [gg,av];unfold qP at na;rw [rG (by lia)] at na
  by_cases w:wideS x=true
  ·rw [dJ,rJ w]
   have w:=rO w;have:n<8:=by
    rcases jO n 8 with z | z
    ·exact z
    ·rw [rG (by lia)] at na;lia
   rw [rJ (by lia)] at c;rw [rJ (by lia)];show ((_+1:Nat):Int)≤_;lia
  ·rw [dJ,rG w]
   have:((sp.filter wideS).length:Int)≤if n+1≤8 then n+1 - 1 else 7:=by
    revert c;split <;> split <;> lia
   exact this
 ·by_cases z:k=n
  ·exact ⟨x,by simp,by rw [z];exact na,by rw [z];exact e⟩
  ·obtain ⟨y,hy,r⟩:=h.tie t k k1 (by lia)
   exact ⟨y,aM _ hy,r⟩
theorem HidB.skip (h:HidB b m false n sp)(n1:1≤n):HidB b m false (n+1) sp:=⟨h.all,h.nar,fun t m8=>by
 have c:=h.cnt t m8;revert c;split <;> split <;> lia,fun t=>by cases t⟩
theorem HidB.few (h:HidB b m tied m sp)(N:NetT b m sp)(F:FrstL m.toNat sp l):jE sp l≤4096:=by
 have m1:=N.m1;have m2:=N.m2
 rcases jO 8 m with m8 | m8
 ·cases tied with
  | false =>
   refine few_cnt N (.inl fun x hx=>?_) ?_ F
   ·have:=h.nar rfl x hx
    unfold qP at this;rw [rG (by lia),rJ (by decide)] at this;exact this
   ·have:=h.cnt rfl m8
    rw [rG (by lia)] at this;lia
  | true =>
   have tt:=h.tie rfl;refine few_tied N (.inr fun k k1 k2=>?_) m8 (fun k k8 k2=>?_) F
   ·obtain ⟨x,hx,w,r⟩:=tt k k1 k2
    unfold qP at w;rw [rG (by lia)] at w;refine ⟨x,hx,?_,r⟩;revert w;split <;> lia
   ·obtain ⟨x,hx,w,r⟩:=tt k (by lia) k2
    unfold qP at w;rw [rG (by lia),rG (by lia)] at w;exact ⟨x,hx,w,r⟩
 ·refine few_cases N m8 ?_ l F
  have e:∀ k,qP m k=limOf m - 1:=fun k=>by unfold qP;rw [rJ m8]
  cases tied with
  | false=>exact .inl fun x hx=>by have:=h.nar rfl x hx;rwa [e] at this
  | true=>exact .inr fun k k1 k2=>by have:=h.tie rfl k k1 k2;rwa [e] at this
end
inductive spNetH (K:aq)(vs:List V)(H:Hp)(Q:VK)(_:XK):Prop
 | mk (a:ao)(ns:List Int)(mo ex so:Int)(_:vs=[.ref a,.int mo,.int ex,.int so])(_:SqL K H a (ns.map V.int))(_:1≤mo)(_:mo≤16)(_:0≤ex)(_:ex≤25)(_:∀ (q u:ao) (v:V) (b m:Int) (sp:List Sn) (ts:List Int) (H':Hp),Same H H'→H' q=some (.tup [v,.ref u])→IsD H' v (kg b m sp)→NetT b m sp→b≤10 ^ 40→H' u=some (.tup (ts.map V.int))→(ts.length:Int)=m→(∀ l,FrstL m.toNat sp l→jE sp l≤4096)→Q (.ref q) H')
theorem lim_at {m:Int}(h0:1≤m)(h1:m≤16):atI ([V.int 1,V.int 1,V.int 40,V.int 7,V.int 4,V.int 3,V.int 2,V.int 2,V.int 2]++(bS 8 [V.int 1]).flatten) m=some (V.int (extB m+1)):=by
 obtain ⟨n,rfl⟩:=cM (by lia:0≤m);have h:=(by trivial:∀ n∈aQ 17,n=0∨([V.int 1,V.int 1,V.int 40,V.int 7,V.int 4,V.int 3,V.int 2,V.int 2,V.int 2]++(bS 8 [V.int 1]).flatten)[n]? =some (V.int (extB (n:Nat)+1))) n (bO.mpr (by lia))
 rcases h with h | h
 ·lia
 ·exact az h
theorem ext_ok {m:Int}(h0:1≤m)(h1:m≤16):0≤extB m∧extB m≤39:=by
 obtain ⟨n,rfl⟩:=cM (by lia:0≤m);exact (by trivial:∀ n∈aQ 17,n=0∨0≤extB (n:Nat)∧extB (n:Nat)≤39) n (bO.mpr (by lia)) |>.resolve_left (by lia)
theorem oZ {m k:Int}:qP m k+1=if m > 8∧k<8 then 2 else extB m+1:=by
 unfold qP extB;split <;> split <;> (try split) <;> lia
abbrev sNetH:cU:=top 54
theorem jh:cb ["_law_script","_law_most","_law_extras","_law_spoils","_law_head","_law_many","_law_way","_law_beat","_law_apart","_law_count","_law_pot_here","_law_times","_law_lim","_law_spans","_law_k","_law_most_of","_law_j","_law_place"] pzt (defScope sNetH):=by trivial
theorem ok_netH (F:Fun K "_law_net" "_law_net" sNetH f fd)(T:Nm mg)(T2:Nt mg)(G1:Fn K mg "_law_take" sTake pzj f1 fd1)(G2:Fn K mg "_law_pot" sPotT pzh f2 fd2)(F2:cW P w K mg base CX0 2 f2 fd2 pzh (spPotT K))
  (G3:Fn K mg "_law_tied" sTied pzA f3 fd3) (F3:cW P w K mg base CX0 3 f3 fd3 pzA spTied)
  (G4:Fn K mg "_law_more" sMore pzB f4 fd4) (F4:cW P w K mg base CX0 3 f4 fd4 pzB spMore):cW P w K mg base CX0 4 f fd pzt (spNetH K):=by
 have F1:cW P w K mg base CX0 1 f1 fd1 pzj spTake:=ok_take G1.F;refine F.ok jh (by contradiction) (fun cdv A outer st0 H vs Q E hr h=>?_);obtain ⟨a,ns,mo,ex,so,rfl,ha,mo1,mo2,ex1,ex2,k⟩:=h;have hr1:Room 1 _:=hr.mono (by decide);have hr2:Room 2 _:=hr.mono (by decide);refine ⟨_,PSl.h (aU ⟨(psZ 4 jh.nd (pc1 G2 F2 hr2 (ag (pv 0) (ag bo aC))))⟩
  (aU ⟨(psZ 5 jh.nd (cg fu bo (pc1 G1 F1 hr1 (ag (pv 4) (ag (pv 1) aC)))))⟩
  (aU ⟨(psZ 6 jh.nd (pc1 G1 F1 hr1 (ag (pv 4) (ag bo aC))))⟩
  (aU ⟨(psZ 7 jh.nd (PEs.h (k_ix eD (k_lst (fS (k_op fu kB ⟨pc1 G1 F1 hr1 (ag (pv 4) (ag bo aC))⟩) (fS (k_op fu kB ⟨pc1 G1 F1 hr1 (ag (pv 4) (ag bo aC))⟩) (fS kB (fS kB a_nil))))) ⟨pv 6⟩ (fun _ _=>rfl))))⟩
  (aU ⟨(lP (fU (cu lT (pv 6) bo (cJ _)) (cj (psZ 7 jh.nd (cg fu bo (pc1 G1 F1 hr1 (ag (pv 4) (ag (cg op_pow bo bo) aC)))))) cX))⟩
  (aU ⟨(psZ 8 jh.nd (pc1 G1 F1 hr1 (ag (pv 4) (ag bo aC))))⟩
  (aU ⟨(psZ 9 jh.nd (pc1 G1 F1 hr1 (ag (pv 4) (ag (cg fu (pv 2) bo) aC))))⟩
  (aU ⟨(psZ 10 jh.nd (pc1 G2 F2 hr2 (ag (pv 0) (ag bo aC))))⟩
  (aU ⟨(pU (iy:=11) (fr:=["_law_pot_here","_law_beat"]) (js:=[10,7]) jh.nd rfl (.inl rfl) rfl (iI rfl T2.range (ag (pv 5) aC)) (by trivial) rfl (by trivial) rfl (by exists sNetH) (by trivial) rfl (by trivial) (fun _ _ _ _ _=>⟨(pc1 G1 F1 hr1 (ag (pv 1) (ag (pv 2) aC))),ie⟩))⟩
  (aU ⟨(psZ 12 jh.nd (dG eD (cg mr (PEs.h (k_lst (fS kB (fS kB (fS kB (fS kB (fS kB (fS kB (fS kB (fS kB (fS kB a_nil))))))))))) (cg op_rep (lR (ag bo aC)) bo)) (pv 5) (fun _ _=>rfl)))⟩
  (aU ⟨(lP (psZ 13 jh.nd (i9 aC)))⟩
  (aU ⟨(gk bz rfl (pi_range2 rfl T2.range (ag bo (ag (pv 5) aC))) (pgZ 14 jh.nd) (cj (fU (PW.pt (jd (cu ly (pv 8) bo (cJ _)) (jD (cu lT (cg iZ (pv 14) bo) bo (cJ _))))) (PSl.h (aU ⟨(lP (psZ 15 jh.nd (PEs.h (k_ix eD (k_lst (fS ⟨pv 12⟩ (fS kB a_nil))) ⟨fP qI rfl T.tint boot_int (ag (p5 (iR p7 (pv 5) bo (cJ _)) (pe_one (iR oj (pv 14) bo (cJ _)))) aC)⟩ (fun _ _=>rfl)))))⟩
  (cZ ⟨(i6 (ng bB cA cz ik (pv 13) (ag (pc1 G3 F3 hr (ag (pc1 G2 F2 hr2 (ag (pv 0) (ag (cg fu bo (pv 14)) aC))) (ag (pv 11) (ag (pv 7) (ag (pv 14) (ag (pv 15) (ag (pv 3) aC))))))) aC)))⟩))) cX)))⟩
  (aU ⟨(lP (fU (cu ly (pv 8) bo (cJ _)) (cj (psZ 12 jh.nd (pv 7))) cX))⟩
  (aU ⟨(lP (fU (cu p7 (pv 5) bo (cJ _)) (cj (gk bz rfl (iI rfl T2.range (ag (pv 9) aC)) (pgZ 16 jh.nd) (PSl.h (aU ⟨(psZ 10 jh.nd (pc1 G2 F2 hr2 (ag (pv 0) (ag (cg fu bo (pv 16)) aC))))⟩
  (aU ⟨(psZ 17 jh.nd (pc1 G1 F1 hr1 (ag (pv 10) (ag (cg fu (cy bX rfl T.len bI (ag (pv 13) aC)) bo) aC))))⟩
  (cZ ⟨(i6 (ng bB PySem.F.slot_list_insert PySem.F.type_list_insert mt_insert (pv 13) (ag (pv 17) (ag (pc1 G4 F4 hr (ag (pv 10) (ag (pv 11) (ag (pv 7) (ag (cg jj (pv 12) bo) (ag (pv 3) aC)))))) aC))))⟩)))))) cX))⟩
  (cZ ⟨(bY (eC (ag (eC (ag (pv 7) (ag (pv 5) (ag (fP jI rfl T.ttup jJ (ag (pv 13) aC)) aC)))) (ag (fP jI rfl T.ttup jJ (ag (pv 11) aC)) aC))))⟩))))))))))))))),?_⟩
 refine ⟨_,rfl,a,ns,1,rfl,ha,by decide,by decide,fun n0 ph hph=>?_⟩;have S0:Same H (upd H ph (.lst [.int n0])):=Same.put (Same.refl H) hph;have h0:(upd H ph (.lst [.int n0])) ph=some (.lst [.int n0]):=aV;generalize upd H ph (.lst [.int n0])=H0 at S0 h0 ⊢;refine ⟨_,rfl,_,rfl,ph,n0,mo,rfl,h0,by lia,by lia,fun r1 H1 a1 c1 M1=>⟨_,_,rfl,rfl,?_⟩⟩;obtain ⟨n1,hp1⟩:=M1.2;refine ⟨_,rfl,ph,n1,4,rfl,hp1,by decide,by decide,fun wy H2 w0 w1 M2=>?_⟩;have M2:=M1.trans M2;obtain ⟨n2,hp2⟩:=M2.2;refine ⟨_,rfl,ph,n2,12,rfl,hp2,by decide,by decide,fun r3 H3 a3 c3 M3=>⟨_,_,rfl,rfl,?_⟩⟩;have M3:=M2.trans M3;obtain ⟨n3,hp3⟩:=M3.2;refine ⟨_,rfl,ph,n3,59,rfl,hp3,by decide,by decide,fun r4 H4 a4 c4 M4=>⟨_,_,rfl,rfl,szZ4,fun q5 H5 S5 h5=>?_⟩⟩;have M5:=(M3.trans M4).then S5;obtain ⟨v5,e5,m5⟩:=rp (xs:=[V.int (1+r3),V.int (2+r4),V.int 60,V.int 60]) w0 w1;obtain ⟨b0,rfl,b01,b02⟩:∃ i,v5=V.int i∧1≤i∧i≤10 ^ 40:=by
  simp only [aG,cQ,or_false] at m5
  rcases m5 with rfl | rfl | rfl | rfl
  ·exact ⟨_,rfl,by lia,by lia⟩
  ·exact ⟨_,rfl,by lia,by lia⟩
  ·exact ⟨_,rfl,by decide,by decide⟩
  ·exact ⟨_,rfl,by decide,by decide⟩
 refine ⟨_,rfl,q5,_,_,_,rfl,rfl,SqL.of h5,e5,?_⟩;refine ⟨fun σ' H'=>Mv ph H0 H'∧∃ b,1≤b∧b≤10 ^ 40∧σ'=[some (.ref a),some (.int mo),some (.int ex),some (.int so),some (.ref ph),some (.int (1+r1)),some (.int wy),some (.int b),none,none,none,none,none,none,none,none,none,none],?_,?_⟩
 rotate_left
 ·refine ⟨_,rfl,rfl,_,rfl,?_⟩
  refine ite2 (fun _=>?_) (fun _=>⟨M5,b0,b01,b02,rfl⟩);obtain ⟨n5,hp5⟩:=M5.2;refine ⟨_,rfl,_,_,rfl,rfl,⟨by decide,by decide,by decide⟩,ph,n5,_,rfl,hp5,by decide,by decide,fun r6 H6 a6 c6 M6=>⟨_,_,rfl,rfl,?_⟩⟩;have c6:r6<10 ^ 40:=c6;exact ⟨M5.trans M6,1+r6,by lia,by lia,rfl⟩
 clear M5 M4 M3 M2 M1 hp1 hp2 hp3 S5 h5 e5 m5 b01 b02 h0 a3 c3 a4 c4;rintro σ' H6 ⟨M6,b,b1,b2,rfl⟩;obtain ⟨m,em⟩:∃ m,m=1+r1:=⟨_,rfl⟩;have m1:1≤m:=by lia
 have m2:m≤mo:=by lia
 rw [←em];clear em;obtain ⟨n6,hp6⟩:=M6.2;refine ⟨_,rfl,ph,n6,8,rfl,hp6,by decide,by decide,fun ap H7 a7 c7 M7=>?_⟩;have M7:=M6.trans M7;obtain ⟨n7,hp7⟩:=M7.2;refine ⟨_,rfl,_,rfl,_,_,rfl,rfl,ph,n7,_,rfl,hp7,by lia,by lia,fun cn H8 a8 c8 M8=>?_⟩;have M8:=M7.trans M8;have S8:Same H H8:=Same.mv S0 hph M8;clear M6 M7 hp6 hp7;refine ⟨_,rfl,a,ns,2,rfl,S8.seq ha,by decide,by decide,fun n9 pp hpp=>?_⟩;have hppH:=S8.free hpp;have S9:Same H (upd H8 pp (.lst [.int n9])):=Same.put S8 hpp;have h9:(upd H8 pp (.lst [.int n9])) pp=some (.lst [.int n9]):=aV;generalize upd H8 pp (.lst [.int n9])=H9 at S9 h9 ⊢;refine ⟨_,rfl,m,rfl,by lia,by lia,?_⟩;refine md (n:=m.toNat) (fun i zs HA=>Mv pp H9 HA∧∃ ts:List Int,zs=ts.map V.int∧ts.length=i∧∀ x∈ts,0≤x∧x<b) ⟨Mv.of (Same.refl H9) h9,[],rfl,rfl,fun _ h=>rL h (by simp)⟩ (fun i zs HA _ ⟨_,ts,e,hl,_⟩=>by rw [e,aa,hl];exact aE _) (dW (by lia)) (fun i zs HA hi ⟨MA,ts,eA,lA,allA⟩=>?_) (fun zs HA ⟨MA,ts,eA,lA,allA⟩ tq htq=>?_)
 ·refine gH ?_
  obtain ⟨nA,hpA⟩:=MA.2;refine ⟨_,rfl,_,rfl,pp,nA,b,rfl,hpA,by lia,by lia,fun r HB rb0 rb1 MB=>⟨MA.trans MB,ts++[r],by rw [eA,aB];rfl,by rw [av,lA];rfl,fun x hx=>?_⟩⟩
  rcases aN.mp hx with hx | hx
  ·exact allA x hx
  ·rw [aw.mp hx];exact ⟨rb0,rb1⟩
 subst eA;have SA:Same H HA:=Same.mv S9 hppH MA;have htqH:=SA.free htq;have SB:Same H (upd HA tq (.lst (ts.map V.int))):=Same.put SA htq;have hB:(upd HA tq (.lst (ts.map V.int))) tq=some (.lst (ts.map V.int)):=aV;generalize upd HA tq (.lst (ts.map V.int))=HB at SB hB ⊢;have lt:(ts.length:Int)=m:=by lia
 clear SA MA S9 h9 htq;obtain ⟨l1,l2⟩:=ext_ok m1 (by lia:m≤16);refine ⟨(by show 9≤bp;decide),fun qA HA SA hA=>⟨szZ1,fun qA1 HA1 SA1 hA1=>⟨qA1,8,_,rfl,rfl,hA1,by decide,by decide,(by show 1 * 8≤bp;decide),fun qA2 hqA2=>?_⟩⟩⟩;have SA2:Same HA (upd HA1 qA2 (.lst (bS 8 [V.int 1]).flatten)):=SA1.put hqA2;refine ⟨qA,qA2,_,_,rfl,rfl,SA2 _ _ hA,aV,(by show 17≤bp;decide),fun qC HC SC hC=>⟨_,rfl,qC,_,_,_,rfl,rfl,SqL.of hC,lim_at m1 (by lia),?_⟩⟩;have SC:=SA.trans (SA2.trans SC);have SC':=SB.trans SC;have htC:=SC _ _ hB;refine ⟨fun σ' H'=>Same H H'∧H' tq=some (.lst (ts.map V.int))∧∃ Ls,Ls≠tq∧H Ls=none∧H' Ls=some (.lst [])∧σ'=[some (.ref a),some (.int mo),some (.int ex),some (.int so),some (.ref ph),some (.int m),some (.int wy),some (.int b),some (.int ap),some (.int cn),some (.ref pp),some (.ref tq),some (.int (extB m+1)),some (.ref Ls),none,none,none,none],?_,?_⟩
 rotate_left
 ·refine ⟨bG _,fun Ls hLs=>?_⟩
  exact ⟨SC'.put hLs,by rw [bC (bH htC hLs)];exact htC,Ls,cN (bH htC hLs),SC'.free hLs,aV,rfl⟩
 clear SC' htC SC hC hB SB;rintro σ' HD ⟨SD,htD,Ls,nLt,hLsH,hLsD,rfl⟩;obtain ⟨tie,etie⟩:∃ tie:Bool,tie= !decide (V.int ap=V.int 3):=⟨_,rfl⟩;refine ⟨_,rfl,1,m,rfl,⟨by decide,by decide,by lia,by lia⟩,?_⟩;refine jF (lo:=1) (n:=(m - 1).toNat) (fun i σ H'=>Same H H'∧H' tq=some (.lst (ts.map V.int))∧∃ (vk v15:Option V) (zs:List V) (sp:List Sn),σ=[some (.ref a),some (.int mo),some (.int ex),some (.int so),some (.ref ph),some (.int m),some (.int wy),some (.int b),some (.int ap),some (.int cn),some (.ref pp),some (.ref tq),some (.int (extB m+1)),some (.ref Ls),vk,v15,none,none]∧H' Ls=some (.lst zs)∧IsDs H' zs (eJ Sn.row sp)∧sp.length≤i∧HidB b m tie (1+i) sp) ⟨SD,htD,none,none,[],[],rfl,hLsD,.nil,aE _,HidB.nil⟩ ?_ ?_
 ·rintro i σ HE hi ⟨SE,htE,vk,v15,zs,sp,rfl,hLsE,dE,lE,hidE⟩
  have lz:zs.length=sp.length:=by rw [dE.length];unfold eJ;rw [aa]
  have add:∀ HE:Hp,Same H HE→HE tq=some (.lst (ts.map V.int))→HE Ls=some (.lst zs)→IsDs HE zs (eJ Sn.row sp)→∀ (E':XK) (n p:_),HE p=none→spTied [.ref p,.ref tq,.int b,.int (1+(i:Int)),.int (qP m (1+i)+1),.int so] (upd HE p (.lst [.int n])) (fun y H'=>rAppend (.ref Ls) [y] H' fun _ H''=>(Same H H''∧H'' tq=some (.lst (ts.map V.int))∧∃ (vk v15:Option V) (zs:List V) (sp:List Sn),[some (.ref a),some (.int mo),some (.int ex),some (.int so),some (.ref ph),some (.int m),some (.int wy),some (.int b),some (.int ap),some (.int cn),some (.ref pp),some (.ref tq),some (.int (extB m+1)),some (.ref Ls),some (.int (1+(i:Int))),some (.int (qP m (1+i)+1)),none,none]=[some (.ref a),some (.int mo),some (.int ex),some (.int so),some (.ref ph),some (.int m),some (.int wy),some (.int b),some (.int ap),some (.int cn),some (.ref pp),some (.ref tq),some (.int (extB m+1)),some (.ref Ls),vk,v15,none,none]∧H'' Ls=some (.lst zs)∧IsDs H'' zs (eJ Sn.row sp)∧sp.length≤i+1∧HidB b m tie (1+(i+1:Nat)) sp)) E':=by
   intro HE SE htE hLsE dE E' n p hp;have lb:1≤qP m (1+i)+1∧qP m (1+i)+1≤1000:=by rw [oZ];split <;> lia
   have npt:=bH htE hp;have npL:=bH hLsE hp;refine ⟨p,tq,n,b,1+(i:Int),qP m (1+i)+1,so,ts,rfl,aV,by rw [bC npt];exact htE,npt,b1,b2,by lia,by lia,by lia,lb.1,lb.2,fun t x HF htF ntp MF hF okF wF kF eF=>?_⟩;have K1:TupK HE (upd HE p (.lst [.int n])):=fun q xs e=>by rw [bC (bH e hp)];exact e
   have K2:TupK HE HF:=K1.trans (Mv.tupK (n:=n) aV MF);have SF:Same H HF:=Same.mv (SE.put hp) (SE.free hp) MF;have htF':HF tq=some (.lst (ts.map V.int)):=MF.at (by rw [bC npt];exact htE) npt;have hLF:HF Ls=some (.lst zs):=MF.at (by rw [bC npL];exact hLsE) npL;refine ⟨Ls,zs,_,rfl,rfl,hLF,(aS (by lia:zs.length<1000) (by decide:1000≤bp)),?_⟩;have KC:TupK HF (upd HF Ls (.lst (zs++[.ref t]))):=fI hLF;refine ⟨fun q o e=>?_,by rw [bC (cN nLt)];exact htF',_,_,zs++[.ref t],sp++[x],rfl,aV,?_,by rw [av];show sp.length+1≤i+1;lia,?_⟩
   ·rw [bC (fun z=>by rw [z,hLsH] at e;cases e)]
    exact SF q o e
   ·unfold eJ
    rw [aB];exact (fG (K2.trans KC) dE).append (.cons (.tup (KC _ _ hF) (IsDs.ints x.row)) .nil)
   ·have:=hidE.more (x:=x) m1 (by lia) (by lia) (by rw [←lt];exact okF) (by lia) eF
    rw [show (1:Int)+((i+1:Nat):Int)=1+(i:Int)+1 by lia];exact this
  refine ⟨_,rfl,rfl,_,rfl,?_⟩;refine ite2 (fun h1=>?_) (fun h1=>⟨_,rfl,_,_,rfl,rfl,(by show (0:Int)<2;decide),rfl,_,rfl,ite2 (fun h2=>?_) (fun h2=>?skip)⟩)
  case skip =>
   have tf:tie=false:=by rw [etie];exact iC.mpr h1
   refine ⟨SE,htE,_,_,zs,sp,rfl,hLsE,dE,by lia,?_⟩;rw [tf] at hidE ⊢;rw [show (1:Int)+((i+1:Nat):Int)=1+(i:Int)+1 by lia];exact hidE.skip (by lia)
  all_goals
   refine ⟨fun σ' H'=>Same HE H'∧σ'=[some (.ref a),some (.int mo),some (.int ex),some (.int so),some (.ref ph),some (.int m),some (.int wy),some (.int b),some (.int ap),some (.int cn),some (.ref pp),some (.ref tq),some (.int (extB m+1)),some (.ref Ls),some (.int (1+(i:Int))),some (.int (qP m (1+i)+1)),none,none],?_,?_⟩
   rotate_left
   ·refine ⟨_,rfl,mN,fun qL HL SL hL=>?_⟩
    refine ⟨_,rfl,_,_,rfl,rfl,_,rfl,ite2 (fun c1=>?_) (fun c1=>?_)⟩
    ·refine ⟨_,rfl,_,_,rfl,rfl,.inr ⟨_,rfl,?_⟩⟩
     by_cases c2:1+(i:Int)<8
     ·refine ⟨qL,_,_,_,rfl,rfl,SqL.of hL,by rw [rM c2];exact az (j:=1) rfl,SL,?_⟩
      rw [oZ,rJ ⟨rO c1,c2⟩];rfl
     ·refine ⟨qL,_,_,_,rfl,rfl,SqL.of hL,by rw [rN c2];exact az (j:=0) rfl,SL,?_⟩
      rw [oZ,rG (fun z=>c2 z.2)];rfl
    ·refine .inr ⟨_,rfl,qL,_,_,_,rfl,rfl,SqL.of hL,az (j:=0) rfl,SL,?_⟩
     rw [oZ,rG (fun z=>c1 (rM z.1))];rfl
   rintro σ' HL ⟨SL,rfl⟩;have SE:=SE.trans SL;have htE:=SL _ _ htE;have hLsE:=SL _ _ hLsE;have dE:=dE.same SL;refine ⟨_,rfl,.inl ⟨rfl,_,SqL.of hLsE⟩,_,rfl,_,rfl,_,_,rfl,rfl,a,ns,_,rfl,SE.seq ha,by lia,by lia,fun n p hp=>⟨_,rfl,_,rfl,_,rfl,_,rfl,_,rfl,?_⟩⟩;exact add HL SE htE hLsE dE E0 n p hp
 rintro σ HE ⟨SE,htE,vk,v15,zs,sp,rfl,hLsE,dE,lE,hidE⟩;rw [show (1:Int)+((m - 1).toNat:Nat)=m by lia] at hidE;have lE15:(sp.length:Int)≤15:=by lia
 clear lE;refine ⟨fun σ' H'=>H'=HE∧∃ lim2,1≤lim2∧(tie=false→lim2=extB m+1)∧σ'=[some (.ref a),some (.int mo),some (.int ex),some (.int so),some (.ref ph),some (.int m),some (.int wy),some (.int b),some (.int ap),some (.int cn),some (.ref pp),some (.ref tq),some (.int lim2),some (.ref Ls),vk,v15,none,none],?_,?_⟩
 rotate_left
 ·refine ⟨_,rfl,rfl,_,rfl,?_⟩
  refine ite2 (fun h1=>?_) (fun h1=>⟨rfl,extB m+1,by lia,fun _=>rfl,rfl⟩);exact ⟨_,rfl,rfl,b,b1,(fun z=>by rw [etie,h1] at z;cases z),rfl⟩
 rintro σ' _ ⟨rfl,lim2,lim21,elim,rfl⟩;refine ⟨fun σ' H'=>Same H H'∧H' tq=some (.lst (ts.map V.int))∧∃ (v10 vj vp:Option V) (zs:List V) (sp:List Sn),σ'=[some (.ref a),some (.int mo),some (.int ex),some (.int so),some (.ref ph),some (.int m),some (.int wy),some (.int b),some (.int ap),some (.int cn),v10,some (.ref tq),some (.int lim2),some (.ref Ls),vk,v15,vj,vp]∧H' Ls=some (.lst zs)∧IsDs H' zs (eJ Sn.row sp)∧sp.length≤40∧HidB b m tie m sp,?_,?_⟩
 rotate_left
 ·refine ⟨_,rfl,_,_,rfl,rfl,_,rfl,?_⟩
  refine ite2 (fun hm=>?_) (fun _=>⟨SE,htE,_,_,_,zs,sp,rfl,hLsE,dE,by lia,hidE⟩);have hm:m > 1:=rO hm;refine ⟨_,rfl,cn,rfl,by lia,by lia,?_⟩;refine jF (n:=cn.toNat) (fun i σ H'=>Same H H'∧H' tq=some (.lst (ts.map V.int))∧∃ (v10 vj vp:Option V) (zs:List V) (sp:List Sn),σ=[some (.ref a),some (.int mo),some (.int ex),some (.int so),some (.ref ph),some (.int m),some (.int wy),some (.int b),some (.int ap),some (.int cn),v10,some (.ref tq),some (.int lim2),some (.ref Ls),vk,v15,vj,vp]∧H' Ls=some (.lst zs)∧IsDs H' zs (eJ Sn.row sp)∧(sp.length:Int)≤15+i∧HidB b m tie m sp) ⟨SE,htE,_,_,_,zs,sp,rfl,hLsE,dE,by lia,hidE⟩ ?_ ?_
  ·clear hidE dE hLsE htE SE lE15 zs sp
   rintro i σ HE hi ⟨SE,htE,v10,vj,vp,zs,sp,rfl,hLsE,dE,lE,hidE⟩;have lz:zs.length=sp.length:=by rw [dE.length];unfold eJ;rw [aa]
   refine ⟨_,rfl,_,rfl,_,_,rfl,rfl,a,ns,_,rfl,SE.seq ha,by lia,by lia,fun n p hp=>?_⟩;have npt:=bH htE hp;have npL:=bH hLsE hp;have S1:Same HE (upd HE p (.lst [.int n])):=Same.put (Same.refl HE) hp;have hp1:(upd HE p (.lst [.int n])) p=some (.lst [.int n]):=aV;generalize upd HE p (.lst [.int n])=HF at S1 hp1 ⊢;refine ⟨_,rfl,_,rfl,Ls,_,rfl,.inl (SqL.of (S1 _ _ hLsE)),_,_,rfl,rfl,p,n,_,rfl,hp1,by lia,by lia,fun pl HG pl0 pl1 MG=>?_⟩;have MG:Mv p HF HG:=MG;have SG:Same H HG:=Same.mv (SE.trans S1) (SE.free hp) MG;have htG:=MG.at (S1 _ _ htE) npt;have hLG:=MG.at (S1 _ _ hLsE) npL;have KG:TupK HE HG:=fun q xs e=>Mv.tupK hp1 MG _ _ (S1 _ _ e)
   obtain ⟨nG,hpG⟩:=MG.2;refine ⟨_,rfl,.inl ⟨rfl,_,SqL.of hLG⟩,_,rfl,_,rfl,_,rfl,_,rfl,_,rfl,_,_,rfl,rfl,_,rfl,p,tq,nG,b,_,so,ts,rfl,hpG,htG,npt,b1,b2,by lia,by lia,(by show 0≤lim2 - 1;lia),fun t x HH htH ntp MH hH okH wH kH=>?_⟩;have SH:Same H HH:=Same.mv SG (SE.free hp) MH;have htH':=MH.at htG npt;have hLH:=MH.at hLG npL;have KH:TupK HE HH:=KG.trans (Mv.tupK hpG MH);refine ⟨Ls,zs,pl,.ref t,rfl,rfl,hLH,by lia,pl0,by lia,?_⟩;have KC:TupK HH (upd HH Ls (.lst (zs.take pl.toNat++ .ref t::zs.drop pl.toNat))):=fI hLH;refine ⟨fun q o e=>?_,by rw [bC (cN nLt)];exact htH',_,_,_,zs.take pl.toNat++ .ref t::zs.drop pl.toNat,sp.take pl.toNat++x::sp.drop pl.toNat,rfl,aV,?_,?_,?_⟩
   ·rw [bC (fun z=>by rw [z,hLsH] at e;cases e)]
    exact SH q o e
   ·have r:=fG (KH.trans KC) dE
    unfold eJ at r ⊢;rw [aB,cw,List.map_take,List.map_drop];exact (IsDs.takeN _ r).append (.cons (.tup (KC _ _ hH) (IsDs.ints x.row)) (IsDs.dropN _ r))
   ·rw [av,aZ,bL,eY]
    lia
   ·exact hidE.put m1 (by lia) (by rw [←lt];exact okH) (fun z=>by have:=elim z;lia) _
  ·rintro σ HF ⟨SF,htF,v10,vj,vp,zs,sp,rfl,hLF,dF,lF,hidF⟩
   exact ⟨SF,htF,v10,vj,vp,zs,sp,rfl,hLF,dF,by lia,hidF⟩
 clear hidE dE hLsE htE SE lE15 zs sp;rintro σ' HE ⟨SE,htE,v10,vj,vp,zs,sp,rfl,hLsE,dE,lE,hidE⟩;refine ⟨_,rfl,_,rfl,_,rfl,Ls,_,rfl,SqL.of hLsE,fun qB HB SB hB=>⟨(by show 3≤bp;decide),fun tC HC SC hC=>⟨_,rfl,tq,_,rfl,SqL.of (SC _ _ (SB _ _ htE)),fun qD HD SD hD=>⟨mN,fun tF HF SF hF=>?_⟩⟩⟩⟩;have SBF:=SB.trans (SC.trans (SD.trans SF));have N:NetT b m sp:=⟨b1,by lia,m1,by lia,lE,hidE.all⟩;refine k tF qD (.ref tC) b m sp ts HF (SE.trans SBF) hF (.tup (SF _ _ (SD _ _ hC)) (.cons (.int b) (.cons (.int _) (.cons (.tup (SF _ _ (SD _ _ (SC _ _ hB))) (dE.same SBF)) .nil)))) N b2 (SF _ _ hD) lt fun l F=>hidE.few N F
abbrev pL:cU:=top 55
abbrev sFitsN:cU:=top 56
abbrev sIsTab:cU:=top 58
inductive spIsT (vs:List V)(H:Hp)(Q:VK)(_:XK):Prop
 | mk (v:V)(u:ao)(b m:Int)(sp:List Sn)(ts:List Int)(_:vs=[v,.ref u])(_:IsD H v (kg b m sp))(_:H u=some (.tup (ts.map V.int)))(_:(ts.length:Int)=m)(_:(∀ x∈ts,0≤x∧x<b))(_:Q (.bl true) H)
theorem scWaitsN:cb pzb pzb (defScope pL):=by trivial
theorem ok_waitsN (F:Fun K "_law_waits" "_law_waits" pL f fd):cW P w K mg base CX0 1 f fd pzb spWaitsN:=by
 refine F.ok scWaitsN (by contradiction) (fun cdv A outer s H vs Q E hr h=>?_);obtain ⟨v,u,b,m,sp,ts,rfl,hv,hu,R,k⟩:=h;obtain ⟨t,p,ys,rfl,ht,hp,hl,hy⟩:=fe hv;have few:=R.few;refine ⟨_,PSl.h (cZ ⟨(bY (iQ (fr:=pzb) (js:=[0,1]) rfl (iY (ixZ (pv 0))) (by trivial) rfl (by trivial) rfl (by exists pL) (by trivial) rfl (by trivial) (fun _ _ _ _ _=>⟨(cg iZ (cg jj (cg jj (dG (r:=ow K) dN (pv 2) (dG (r:=ow K) dN (pv 0) bo (fun _ _=>rfl)) (fun _ _=>rfl)) (dG (r:=ow K) dN (pv 2) (dG (r:=ow K) dN (pv 0) bo (fun _ _=>rfl)) (fun _ _=>rfl))) (dG (r:=ow K) dN (pv 0) bo (fun _ _=>rfl))) (dG (r:=ow K) dN (pv 1) bo (fun _ _=>rfl))),ie⟩)))⟩),?_⟩;refine ⟨_,rfl,t,_,_,_,rfl,rfl,SqT.of ht,az (j:=2) rfl,p,rfl,⟨_,SqT.of hp⟩,?_⟩;refine kx (K:=K) (a:=p) (xs:=ys) (fun i zs H2=>H2=H∧zs=(jB b ts (sp.take i)).map V.int) ⟨rfl,rfl⟩ (fun i zs H2 hi ⟨e1,e2⟩=>?_) (by rw [hl];exact dW few) (fun i x zs H2 hx ⟨e1,e2⟩=>?_) (fun zs H2 ⟨e1,e2⟩ D hD=>?_)
 ·subst e1
  refine ⟨SqT.of hp,?_⟩;rw [e2];unfold jB;rw [aa,aa,bL];lia
 ·subst e1
  have hi:i<sp.length:=by rw [←hl];exact (ak.mp hx).1
  obtain ⟨q,hq,hq2⟩:=hy i sp[i] (gE hi);rw [hx] at hq;cases hq;obtain ⟨s0,s1,g0,g1⟩:=R.ends sp[i] (bt hi);refine gH ?_;refine ⟨_,rfl,_,rfl,q,_,_,_,rfl,rfl,SqT.of hq2,az (j:=1) rfl,u,_,_,_,rfl,rfl,SqT.of hu,tm_at g0 g1,_,rfl,_,rfl,q,_,_,_,rfl,rfl,SqT.of hq2,az (j:=0) rfl,u,_,_,_,rfl,rfl,SqT.of hu,tm_at s0 s1,_,_,rfl,rfl,_,rfl,q,_,_,_,rfl,rfl,SqT.of hq2,az (j:=2) rfl,_,_,rfl,rfl,_,rfl,t,_,_,_,rfl,rfl,SqT.of ht,az (j:=0) rfl,_,_,rfl,rfl,R.b1,rfl,?_⟩;rw [e2,bf,gE hi];unfold jB;rw [aB,aB];rfl
 ·subst e1
  rw [hl,aX] at e2;rw [e2];exact k D _ (Same.put (Same.refl H2) hD) aV
theorem scFitsN:cb ["_law_net_here","_law_table","_law_span_here","_law_wait_here"] pzb (defScope sFitsN):=by trivial
theorem ok_fitsN (F:Fun K "_law_fits" "_law_fits" sFitsN f fd)(T2:Nt mg)(G1:Fn K mg "_law_waits" pL pzb f1 fd1):cW P w K mg base CX0 2 f fd pzb spFits:=by
 have F1:cW P w K mg base CX0 1 f1 fd1 pzb spWaitsN:=ok_waitsN G1.F;refine F.ok scFitsN (by contradiction) (fun cdv A outer s H vs Q E hr h=>?_);obtain ⟨v,u,b,m,sp,ts,rfl,hv,hu,R,k⟩:=h;obtain ⟨t,p,ys,rfl,ht,hp,hl,hy⟩:=fe hv;refine ⟨_,PSl.h (aU ⟨(gk bz rfl (pi_zip2 rfl T2.zip (ag (ixZ (pv 0)) (ag (pc1 G1 F1 hr (ag (pv 0) (ag (pv 1) aC))) aC))) (lQ rfl (eZ (pgZ 2 scFitsN.nd) (eZ (pgZ 3 scFitsN.nd) ke))) (cj (fU (cu p7 (pv 3) (cg jj (ixZ (pv 2)) (ixZ (pv 2))) (cJ _)) (cj (bY k4)) cX)))⟩
  (cZ ⟨(bY k4)⟩)),?_⟩
 refine ⟨_,rfl,t,_,_,_,rfl,rfl,SqT.of ht,az (j:=2) rfl,?_⟩;refine ⟨_,rfl,_,rfl,.ref t,u,b,m,sp,ts,rfl,hv,hu,R,fun L H1 S1 h1=>?_⟩;refine ⟨⟨false,p⟩,⟨true,L⟩,_,_,rfl,S1 _ _ hp,h1,?_⟩;refine for_zip2 (c1:=⟨false,p⟩) (c2:=⟨true,L⟩) (xs:=ys) (ys:=(jB b ts sp).map V.int) (fun i σ H2=>Same H1 H2∧(∀ x∈sp.take i,brk b ts x=false)∧∃ v2 v3,σ=[some (.ref t),some (.ref u),v2,v3]) ⟨Same.refl H1,fun _ h=>rL h (by simp),none,none,rfl⟩ (fun i σ H2 _ ⟨S2,_⟩=>⟨S2 _ _ (S1 _ _ hp),S2 _ _ h1⟩) (by unfold jB;rw [aa,aa,hl]) ?_ ?_
 ·rintro i x y pz σ H2 hx hx' ⟨S2,hno,v2,v3,rfl⟩ hpz
  have hi:i<sp.length:=by rw [←hl];exact (ak.mp hx).1
  obtain ⟨q,hq,hq2⟩:=hy i sp[i] (gE hi);rw [hx] at hq;cases hq;unfold jB at hx';rw [ax,ax,gE hi] at hx';cases hx';have S3:Same H1 (upd H2 pz (.tup [.ref q,.int (gi b ts sp[i])])):=S2.put hpz;have h3:(upd H2 pz (.tup [.ref q,.int (gi b ts sp[i])])) pz=some (.tup [.ref q,.int (gi b ts sp[i])]):=aV;generalize upd H2 pz (.tup [.ref q,.int (gi b ts sp[i])])=H3 at S3 h3 ⊢;have hq3:=S3 _ _ (S1 _ _ hq2);refine ⟨pz,_,rfl,SqT.of h3,rfl,_,_,rfl,_,_,rfl,rfl,?_⟩;refine ⟨_,rfl,_,rfl,q,_,_,_,rfl,rfl,SqT.of hq3,az (j:=3) rfl,_,rfl,q,_,_,_,rfl,rfl,SqT.of hq3,az (j:=2) rfl,_,_,rfl,rfl,_,_,rfl,rfl,_,rfl,?_⟩;refine ite2 (fun hc=>?_) (fun hc=>?_)
  ·have e:jG b ts sp=false:=by
    unfold jG;rw [List.any_eq_true.mpr ⟨sp[i],bt hi,hc⟩];rfl
   have kk:=k H3 (S1.trans S3);rw [e] at kk;exact kk
  ·refine ⟨S3,fun x hx=>?_,_,_,rfl⟩
   rw [bf,gE hi] at hx
   rcases aN.mp hx with hx | hx
   ·exact hno x hx
   ·rw [aw.mp hx]
    exact iC.mpr hc
 ·rintro σ H2 ⟨S2,hno,v2,v3,rfl⟩
  have e:jG b ts sp=true:=by
   unfold jG;rw [jy,jw];intro x hx;have:=hno x (by rw [hl,aX];exact hx);rw [this];exact aR
  have kk:=k H2 (S1.trans S2);rw [e] at kk;exact kk
theorem scIsTab:cb ["_law_net_here","_law_told","_law_time"] pzd (defScope sIsTab):=by trivial
theorem ok_isT (F:Fun K "_law_is_table" "_law_is_table" sIsTab f fd)(T:Nm mg):cW P w K mg base CX0 1 f fd pzd spIsT:=by
 refine F.ok scIsTab (by contradiction) (fun cdv A outer s H vs Q E hr h=>?_);obtain ⟨v,u,b,m,sp,ts,rfl,hv,hu,hl,all,k⟩:=h;obtain ⟨t,p,ys,rfl,ht,hp,_,hy⟩:=fe hv;refine ⟨_,PSl.h (aU ⟨(fU (PW.pt (jd (gM (gj (jZ T (pv 1)))) (jD (cu ly (cy bX rfl T.len bI (ag (pv 1) aC)) (ixZ (pv 0)) (cJ _))))) (cj (bY k4)) cX)⟩
  (aU ⟨(gk bz rfl (iY (pv 1)) (pgZ 2 scIsTab.nd) (cj (fU (PW.pt (jd (gM (gj (pe_isInt T (pv 2)))) (jd (gj (pe_isBool T (pv 2))) (jD (gM (oV op_le oj bo (pv 2) (ixZ (pv 0)))))))) (cj (bY k4)) cX)))⟩
  (cZ ⟨(bY k4)⟩))),?_⟩
 refine ⟨_,rfl,_,_,rfl,(IsD.tup hu (IsDs.ints ts)).tyn,_,rfl,iq rfl ?_⟩;refine ⟨_,rfl,u,_,rfl,.inr (SqT.of hu),_,rfl,t,_,_,_,rfl,rfl,SqT.of ht,az (j:=1) rfl,rfl,_,rfl,iq ?_ ?_⟩
 ·rw [aa,hl,rM rfl];rfl
 refine ⟨_,rfl,u,rfl,⟨_,SqT.of hu⟩,?_⟩;refine ki (K:=K) (xs:=ts.map V.int) (fun i σ H2=>H2=H∧∃ v2,σ=[some (.ref t),some (.ref u),v2]) ⟨rfl,none,rfl⟩ (fun i σ H2 _ ⟨e,_⟩=>by rw [e];exact SqT.of hu) ?_ ?_
 ·rintro i x σ H2 hx ⟨rfl,v2,rfl⟩
  obtain ⟨y,hy',rfl⟩:=bc.mp (bj hx);obtain ⟨y0,y1⟩:=all y hy';refine ⟨_,rfl,_,_,rfl,(IsD.int y).tyn,_,rfl,iq rfl ?_⟩;refine ⟨_,rfl,_,_,rfl,(IsD.int y).tyn,_,rfl,iq rfl ?_⟩;refine ⟨_,rfl,_,_,rfl,rfl,_,rfl,om (rM y0) ?_⟩;refine ⟨_,rfl,t,_,_,_,rfl,rfl,SqT.of ht,az (j:=0) rfl,_,_,rfl,rfl,_,rfl,iq (by rw [rM y1];rfl) ?_⟩;exact ⟨rfl,_,rfl⟩
 ·rintro σ H2 ⟨rfl,v2,rfl⟩
  exact k
abbrev sWaitN:cU:=top 57
theorem scWaitN:cb pzb pzb (defScope sWaitN):=by trivial
theorem ok_waitN (F:Fun K "_law_wait" "_law_wait" sWaitN f fd)(T2:Nt mg)(G1:Fn K mg "_law_waits" pL pzb f1 fd1):cW P w K mg base CX0 2 f fd pzb kT:=by
 have F1:cW P w K mg base CX0 1 f1 fd1 pzb spWaitsN:=ok_waitsN G1.F;refine F.ok scWaitN (by contradiction) (fun cdv A outer s H vs Q E hr h=>?_);obtain ⟨v,u,b,m,sp,ts,rfl,hv,hu,R,hw,k⟩:=h;obtain ⟨t,p,ys,rfl,ht,hp,hl,hy⟩:=fe hv;have few:=R.few;refine ⟨_,PSl.h (cZ ⟨(bY (cy (call_sum rfl) rfl T2.sum boot_sum (ag (pe_compT (xs:=["_law_span_here","_law_wait_here"]) (fr:=[]) (js:=[]) rfl (pi_zip2 rfl T2.zip (ag (ixZ (pv 0)) (ag (pc1 G1 F1 hr (ag (pv 0) (ag (pv 1) aC))) aC))) (by trivial) rfl (by trivial) (by exists sWaitN) rfl (by trivial) (fun _ _ _ _ _=>pg_two rfl (by trivial) rfl rfl) (fun _ _ _ _ _=>⟨(cg ij (dG (r:=ow K) dN (pv 0) bo (fun _ _=>rfl)) (pv 1)),ie⟩)) aC)))⟩),?_⟩;refine ⟨_,rfl,t,_,_,_,rfl,rfl,SqT.of ht,az (j:=2) rfl,?_⟩;refine ⟨_,rfl,_,rfl,.ref t,u,b,m,sp,ts,rfl,hv,hu,R,fun L H1 S1 h1=>?_⟩;refine ⟨⟨false,p⟩,⟨true,L⟩,_,_,rfl,S1 _ _ hp,h1,?_⟩;refine rm (K:=K) (c1:=⟨false,p⟩) (c2:=⟨true,L⟩) (xs:=ys) (ys:=(jB b ts sp).map V.int) (fun i zs H2=>Same H1 H2∧zs=((sp.take i).map fun x=>x.w * gi b ts x).map V.int) ⟨Same.refl H1,rfl⟩ (fun i zs H2 hi ⟨S2,e2⟩=>⟨S2 _ _ (S1 _ _ hp),S2 _ _ h1,?_⟩) (by unfold jB;rw [aa,aa,hl]) (by rw [hl];exact dW few) (fun i x y zs pz H2 hx hx' ⟨S2,e2⟩ hpz=>?_) (fun zs H2 ⟨S2,e2⟩ D hD=>?_)
 ·rw [e2,aa,aa,bL];lia
 ·have hi:i<sp.length:=by rw [←hl];exact (ak.mp hx).1
  obtain ⟨q,hq,hq2⟩:=hy i sp[i] (gE hi);rw [hx] at hq;cases hq;unfold jB at hx';rw [ax,ax,gE hi] at hx';cases hx';have S3:Same H1 (upd H2 pz (.tup [.ref q,.int (gi b ts sp[i])])):=S2.put hpz;generalize upd H2 pz (.tup [.ref q,.int (gi b ts sp[i])])=H3 at S3 ⊢;have hq3:=S3 _ _ (S1 _ _ hq2);obtain ⟨w0,w1⟩:=hw sp[i] (bt hi);refine gH ?_;refine ⟨_,rfl,q,_,_,_,rfl,rfl,SqT.of hq3,az (j:=4) rfl,_,rfl,_,_,rfl,rfl,.inl ⟨by lia,by lia⟩,S3,?_⟩;rw [e2,bf,gE hi,aB,aB];rfl
 ·refine ⟨D,_,rfl,SqL.of (by rw [e2];exact aV),?_⟩
  have e3:((sp.take ys.length).map fun x=>x.w * gi b ts x).sum=fJ b ts sp:=by
   unfold fJ;rw [hl,aX]
  rw [e3];exact k _ (S1.trans (S2.put hD))
abbrev sSum:cU:=top 9
abbrev sBeats:cU:=top 10
theorem scSum:cb ["bounds","way","low","high","step","bound"] pzC (defScope sSum):=by trivial
theorem ok_sum (F:Fun K "sum_of" "sum_of" sSum f fd):cW P w K mg base CX0 1 f fd pzC spSum:=by
 refine F.ok scSum (by contradiction) (fun cdv A outer s H vs Q E hr h=>?_);obtain ⟨vb,vw,bs,ws,rfl,hb,hw,hin,k⟩:=h;obtain ⟨pb,yb,rfl,hpb,hlb,rb⟩:=ib hb;obtain ⟨pw,yw,rfl,hpw,hlw,rw'⟩:=ib hw;refine ⟨_,PSl.h (aU ⟨(psZ 2 scSum.nd bo)⟩
  (aU ⟨(psZ 3 scSum.nd bo)⟩
  (aU ⟨(gk bz rfl (iY (pv 1)) (pgZ 4 scSum.nd) (PSl.h (aU ⟨(psZ 5 scSum.nd (dG dN (pv 0) (ixZ (pv 4)) (fun _ _=>rfl)))⟩
  (cZ ⟨(fU (cu lT (ixZ (pv 4)) bo (cJ _)) (PSl.h (aU ⟨(pV (i:=2) scSum.nd rfl (.inl rfl) (ixZ (pv 5)) ip_add)⟩
  (cZ ⟨(pV (i:=3) scSum.nd rfl (.inl rfl) (ixZ (pv 5)) ip_add)⟩))) (PSl.h (aU ⟨(pV (i:=2) scSum.nd rfl (.inl rfl) (ixZ (pv 5)) ip_sub)⟩
  (cZ ⟨(pV (i:=3) scSum.nd rfl (.inl rfl) (ixZ (pv 5)) ip_sub)⟩))))⟩))))⟩
  (cZ ⟨(bY (eC (ag (pv 2) (ag (pv 3) aC))))⟩)))),?_⟩
 refine ⟨_,rfl,pw,rfl,⟨_,SqT.of hpw⟩,?_⟩;refine ki (K:=K) (xs:=yw) (fun i σ H2=>H2=H∧∃ v4 v5,σ=[some (.ref pb),some (.ref pw),some (.int (eU bs (ws.take i))),some (.int (gC bs (ws.take i))),v4,v5]) ⟨rfl,none,none,rfl⟩ (fun i σ H2 _ ⟨e1,_⟩=>by rw [e1];exact SqT.of hpw) ?_ ?_
 ·rintro i y σ H2 hy ⟨rfl,v4,v5,rfl⟩
  have hi:i<ws.length:=by rw [←hlw];exact (ak.mp hy).1
  obtain ⟨q,hq,hq2⟩:=iG rw' (gE hi);rw [hy] at hq;cases hq;obtain ⟨i1,d1⟩:=hin ws[i] (bt hi);have hm1:eU bs (ws.take (i+1))=eU bs (ws.take i)+oE bs ws[i]:=by
   unfold eU;rw [bf,gE hi,aB,gG];simp
  have hm2:gC bs (ws.take (i+1))=gC bs (ws.take i)+ko bs ws[i]:=by
   unfold gC;rw [bf,gE hi,aB,gG];simp
  obtain ⟨qb,hqb,hqb2⟩:=iG rb (gE i1);refine ⟨_,rfl,_,rfl,q,_,_,_,rfl,rfl,SqT.of hq2,az (j:=0) rfl,pb,_,_,_,rfl,rfl,SqT.of hpb,az (j:=ws[i].i) hqb,?_⟩;refine ⟨_,rfl,q,_,_,_,rfl,rfl,SqT.of hq2,az (j:=1) rfl,rfl,_,rfl,?_⟩;refine ite2 (fun h1=>?_) (fun h1=>?_)
  ·have h1:ws[i].d=1:=by have:=rO h1;injection this
   refine ⟨_,rfl,_,rfl,qb,_,_,_,rfl,rfl,SqT.of hqb2,az (j:=0) rfl,_,_,rfl,rfl,?_⟩;refine ⟨_,rfl,_,rfl,qb,_,_,_,rfl,rfl,SqT.of hqb2,az (j:=1) rfl,_,_,rfl,rfl,rfl,some (.ref q),some (.ref qb),?_⟩;have l1:oE bs ws[i]=bs[ws[i].i].1:=by unfold oE;rw [gE i1];exact rJ h1
   have l2:ko bs ws[i]=bs[ws[i].i].2:=by unfold ko;rw [gE i1];exact rJ h1
   rw [hm1,hm2,l1,l2];rfl
  ·have h1:ws[i].d≠1:=fun z=>h1 (rM (by rw [z]))
   refine ⟨_,rfl,_,rfl,qb,_,_,_,rfl,rfl,SqT.of hqb2,az (j:=1) rfl,_,_,rfl,rfl,?_⟩;refine ⟨_,rfl,_,rfl,qb,_,_,_,rfl,rfl,SqT.of hqb2,az (j:=0) rfl,_,_,rfl,rfl,rfl,some (.ref q),some (.ref qb),?_⟩;have l1:oE bs ws[i]= -bs[ws[i].i].2:=by unfold oE;rw [gE i1];exact rG h1
   have l2:ko bs ws[i]= -bs[ws[i].i].1:=by unfold ko;rw [gE i1];exact rG h1
   rw [hm1,hm2,l1,l2,←Int.sub_eq_add_neg,←Int.sub_eq_add_neg];rfl
 ·rintro σ H2 ⟨rfl,v4,v5,rfl⟩
  rw [hlw,aX];exact ⟨_,rfl,_,rfl,mN,fun p3 H3 S3 h3=>k p3 H3 S3 h3⟩
theorem scBeats:cb ["net","bounds","ring","beat","ends"] pzc (defScope sBeats):=by trivial
theorem ok_beats (F:Fun K "beats_of" "beats_of" sBeats f fd)(G1:Fn K mg "sum_of" sSum pzC f1 fd1):cW P w K mg base CX0 2 f fd pzc pE:=by
 have F1:cW P w K mg base CX0 1 f1 fd1 pzC spSum:=ok_sum G1.F;refine F.ok scBeats (by contradiction) (fun cdv A outer s H vs Q E hr h=>?_);obtain ⟨vn,vb,vw,b,m,sp,bs,ws,rfl,hv,hb0,hb1,hb,hw,hin,k⟩:=h;obtain ⟨t,pn,ys,rfl,ht,_⟩:=fe hv;refine ⟨_,PSl.h (aU ⟨(psZ 3 scBeats.nd (ixZ (pv 0)))⟩
  (aU ⟨(psZ 4 scBeats.nd (pc1 G1 F1 hr (ag (pv 1) (ag (pv 2) aC))))⟩
  (cZ ⟨(bY (eC (ag (pe_un o9 (cg nj (pe_un o9 (ixZ (pv 4))) (pv 3))) (ag (cg nj (ixZ (pv 4)) (pv 3)) aC))))⟩))),?_⟩
 refine ⟨_,rfl,t,_,_,_,rfl,rfl,SqT.of ht,az (j:=0) rfl,?_⟩;refine ⟨_,rfl,_,rfl,vb,vw,bs,ws,rfl,hb,hw,hin,fun p1 H1 S1 h1=>?_⟩;refine ⟨_,rfl,p1,_,_,_,rfl,rfl,SqT.of h1,az (j:=0) rfl,_,rfl,_,rfl,_,_,rfl,rfl,log_ok hb0 hb1,_,rfl,?_⟩;refine ⟨_,rfl,p1,_,_,_,rfl,rfl,SqT.of h1,az (j:=1) rfl,_,rfl,_,_,rfl,rfl,log_ok hb0 hb1,mN,fun p2 H2 S2 h2=>k p2 H2 (S1.trans S2) h2⟩
abbrev sSure:cU:=top 12
theorem scSure:cb ["net","bounds","ring","beats"] pzc (defScope sSure):=by trivial
theorem ok_sure (F:Fun K "is_sure" "is_sure" sSure f fd)(G1:Fn K mg "beats_of" sBeats pzc f1 fd1)(F1:cW P w K mg base CX0 2 f1 fd1 pzc pE):cW P w K mg base CX0 3 f fd pzc spSure:=by
 refine F.ok scSure (by contradiction) (fun cdv A outer s H vs Q E hr h=>?_);obtain ⟨vn,vb,vw,b,m,sp,bs,ws,rfl,hv,hb0,hb1,hb,hw,hin,k⟩:=h;refine ⟨_,PSl.h (aU ⟨(psZ 3 scSure.nd (pc1 G1 F1 hr (ag (pv 0) (ag (pv 1) (ag (pv 2) aC)))))⟩
  (cZ ⟨(bY (iR lT (ixZ (pv 3)) (ixZ (pv 3)) (cJ _)))⟩)),?_⟩
 refine ⟨_,rfl,_,rfl,_,rfl,vn,vb,vw,b,m,sp,bs,ws,rfl,hv,hb0,hb1,hb,hw,hin,fun p1 H1 S1 h1=>?_⟩;refine ⟨_,rfl,p1,_,_,_,rfl,rfl,SqT.of h1,az (j:=0) rfl,_,rfl,p1,_,_,_,rfl,rfl,SqT.of h1,az (j:=1) rfl,rfl,?_⟩;have e:decide (V.int (upB b (eU bs ws))=V.int (gC bs ws / b))=sureB b bs ws:=decide_eq_decide.mpr ⟨fun z=>by injection z,fun z=>by rw [z]⟩;have k1:=k H1 S1;rw [←e] at k1;exact k1
abbrev sOwn:cU:=top 29
abbrev sWorth:cU:=top 30
def rGetL:V→V→Hp→VK→Prop:=fun o i H Q=>∃ p xs k y,o= .ref p∧i= .int ((k:Nat):Int)∧H p=some (.lst xs)∧xs[k]? =some y∧Q y H
theorem get_listP:PGet X rGetL:=by
 intro aP s σ H o i ov iv Q I ro ri h;obtain ⟨p,xs,k,y,rfl,rfl,hp,hy,q⟩:=h;cases (show ov=ae.ref p from ro);obtain ⟨t,rfl⟩:=ri;obtain ⟨its,r,pl,hz⟩:=I.list (SqL.of (K:=X.K) hp);obtain ⟨u,hu,ru⟩:=r.get hy;have hl:=r.length;have hk:k<xs.length:=(ak.mp hy).1;have l63:=line63;exact wpAny_getItem_list pl.isList (by lia) (by lia) (by simpa using hu) ⟨y,H,I,ru,q⟩
theorem row_of {r:Int×List Stp}(h:IsD H v (rowD r)):∃ q vw,v= .ref q∧H q=some (.tup [.int r.1,vw])∧IsD H vw (mf r.2):=by
 obtain ⟨q,xs,rfl,hq,rx⟩:=IsD.tup_of (show IsD H v (.tup [.int r.1,mf r.2]) from h);cases rx with
 | cons g1 gr=>cases gr with
  | cons g2 gr =>
   cases gr;cases g1;exact ⟨q,_,rfl,hq,g2⟩
theorem price_of (h:IsD H v (leafP (.price rows))):∃ p pr ys,v= .ref p∧H p=some (.tup [.str "price",.ref pr])∧H pr=some (.tup ys)∧IsDs H ys (rows.map rowD):=by
 obtain ⟨p,xs,rfl,hp,rx⟩:=IsD.tup_of (show IsD H v (.tup [.str "price",.tup (rows.map rowD)]) from h);cases rx with
 | cons g1 gr=>cases gr with
  | cons g2 gr =>
   cases gr;cases g1;obtain ⟨pr,ys,rfl,hpr,ry⟩:=g2.tup_of;exact ⟨p,pr,ys,rfl,hp,hpr,ry⟩
theorem nM {β:Type}(f:β→α→β)(b:β){xs:List α}(h:i<xs.length):(xs.take (i+1)).foldl f b=f ((xs.take i).foldl f b) xs[i]:=by
 rw [bf,gE h,dO];rfl
theorem sum_take (f:α→Int){xs:List α}(h:i<xs.length):((xs.take (i+1)).map f).sum=((xs.take i).map f).sum+f xs[i]:=by
 rw [bf,gE h,aB,gG];simp
theorem pq (f:Nat→Int)(i:Nat):((aQ (i+1)).map f).sum=((aQ i).map f).sum+f i:=by
 rw [List.range_succ,aB,gG];simp
theorem scOwn:cb ["net","rows","prices","row","step"] ["net","rows"] (defScope sOwn):=by trivial
theorem ok_own (F:Fun K "own_prices" "own_prices" sOwn f fd):cW P w K mg base CX0 1 f fd ["net","rows"] spOwn:=by
 refine F.ok scOwn (by contradiction) (fun cdv A outer s H vs Q E hr h=>?_);obtain ⟨v,pr,b,m,sp,rows,rfl,hv,few,hrr,hok,k⟩:=h;obtain ⟨t,pn,ys,rfl,ht,hpn,hl,hy⟩:=fe hv;obtain ⟨pr',yr,e0,hpr,ry⟩:=hrr.tup_of;cases e0;have lr:yr.length=rows.length:=by rw [ry.length,aa]
 refine ⟨_,PSl.h (aU ⟨(pU (iy:=2) (fr:=[]) (js:=[]) scOwn.nd rfl (.inl rfl) rfl (iY (ixZ (pv 0))) (by trivial) rfl (by trivial) rfl (by exists sOwn) (by trivial) rfl (by trivial) (fun _ _ _ _ _=>⟨(dG (r:=ow K) dN (pv 0) bo (fun _ _=>rfl)),ie⟩))⟩
  (aU ⟨(gk bz rfl (iY (pv 1)) (pgZ 3 scOwn.nd) (cj (gk bz rfl (iY (ixZ (pv 3))) (pgZ 4 scOwn.nd) (cj (ps_augS (pv 2) (ixZ (pv 4)) get_listP (cg ij (ixZ (pv 3)) (ixZ (pv 4))) ip_sub mX)))))⟩
  (cZ ⟨(bY (pv 2))⟩))),?_⟩
 refine ⟨_,rfl,t,_,_,_,rfl,rfl,SqT.of ht,az (j:=2) rfl,pn,rfl,⟨_,SqT.of hpn⟩,?_⟩;refine kx (K:=K) (a:=pn) (xs:=ys) (fun i zs H2=>H2=H∧zs=((sp.take i).map Sn.w).map V.int) ⟨rfl,rfl⟩ (fun i zs H2 hi ⟨e1,e2⟩=>?_) (by rw [hl];exact dW (by lia)) (fun i x zs H2 hx ⟨e1,e2⟩=>?_) (fun zs H2 ⟨e1,e2⟩ D hD=>?_)
 ·subst e1
  refine ⟨SqT.of hpn,?_⟩;rw [e2,aa,aa,bL];lia
 ·subst e1
  have hi:i<sp.length:=by rw [←hl];exact (ak.mp hx).1
  obtain ⟨q,hq,hq2⟩:=hy i sp[i] (gE hi);rw [hx] at hq;cases hq;refine gH ⟨_,rfl,q,_,_,_,rfl,rfl,SqT.of hq2,az (j:=4) rfl,rfl,?_⟩;rw [e2,bf,gE hi,aB,aB];rfl
 subst e1;rw [hl,aX] at e2;subst e2;have S1:Same H2 (upd H2 D (.lst ((sp.map Sn.w).map V.int))):=Same.put (Same.refl H2) hD;have hD1:(upd H2 D (.lst ((sp.map Sn.w).map V.int))) D=some (.lst ((sp.map Sn.w).map V.int)):=aV;generalize upd H2 D (.lst ((sp.map Sn.w).map V.int))=H1 at S1 hD1 ⊢;refine ⟨_,rfl,pr,rfl,⟨_,SqT.of (S1 _ _ hpr)⟩,?_⟩;refine ki (K:=K) (xs:=yr) (fun i σ H3=>Same H2 H3∧(∃ v3 v4,σ=[some (.ref t),some (.ref pr),some (.ref D),v3,v4])∧H3 D=some (.lst (((rows.take i).foldl rowP (sp.map Sn.w)).map V.int))) ⟨S1,⟨none,none,rfl⟩,hD1⟩ (fun i σ H3 _ ⟨S3,_⟩=>SqT.of (S3 _ _ hpr)) ?_ ?_
 ·rintro i y σ H3 hy3 ⟨S3,⟨v3,v4,rfl⟩,hD3⟩
  have hi:i<rows.length:=by rw [←lr];exact (ak.mp hy3).1
  obtain ⟨d,hd,dy⟩:=ry.get hy3;rw [ax,gE hi] at hd;cases hd;obtain ⟨q,vw,rfl,hq,hw⟩:=row_of dy;obtain ⟨pw,yw,rfl,hpw,hlw,rw'⟩:=ib hw;have ok:=hok rows[i] (bt hi);obtain ⟨ps,hps⟩:∃ ps,ps=(rows.take i).foldl rowP (sp.map Sn.w):=⟨_,rfl⟩;have lps:ps.length=sp.length:=by rw [hps,oU,aa]
  rw [←hps] at hD3;refine ⟨_,rfl,q,_,_,_,rfl,rfl,SqT.of (S3 _ _ hq),az (j:=1) rfl,pw,rfl,⟨_,SqT.of (S3 _ _ hpw)⟩,?_⟩;refine ki (K:=K) (xs:=yw) (fun j σ H4=>Same H2 H4∧(∃ v4,σ=[some (.ref t),some (.ref pr),some (.ref D),some (.ref q),v4])∧H4 D=some (.lst (((rows[i].2.take j).foldl (jV rows[i].1) ps).map V.int))) ⟨S3,⟨_,rfl⟩,hD3⟩ (fun j σ H4 _ ⟨S4,_⟩=>SqT.of (S4 _ _ hpw)) ?_ ?_
  ·rintro j z σ H4 hz ⟨S4,⟨v4,rfl⟩,hD4⟩
   have hj:j<rows[i].2.length:=by rw [←hlw];exact (ak.mp hz).1
   obtain ⟨q2,e2,h2⟩:=iG rw' (gE hj);rw [hz] at e2;cases e2;obtain ⟨i1,d1⟩:=ok.inn rows[i].2[j] (bt hj);obtain ⟨qs,hqs⟩:∃ qs,qs=(rows[i].2.take j).foldl (jV rows[i].1) ps:=⟨_,rfl⟩;have lqs:qs.length=sp.length:=by rw [hqs,kG,lps]
   rw [←hqs] at hD4;have hgs:qs[rows[i].2[j].i]? =some (qs.getD rows[i].2[j].i 0):=by rw [ai,gE (by lia)];rfl
   refine ⟨_,rfl,_,rfl,q2,_,_,_,rfl,rfl,SqT.of (S4 _ _ h2),az (j:=0) rfl,D,_,rows[i].2[j].i,_,rfl,rfl,hD4,by rw [ax,hgs];rfl,_,rfl,q,_,_,_,rfl,rfl,SqT.of (S4 _ _ hq),az (j:=0) rfl,_,rfl,q2,_,_,_,rfl,rfl,SqT.of (S4 _ _ h2),az (j:=1) rfl,_,_,rfl,rfl,.inr ?_,_,_,rfl,rfl,D,_,_,rows[i].2[j].i,rfl,rfl,hD4,(by simp [ixN,lqs,i1]),?_⟩
   ·rcases d1 with d1 | d1 <;> rw [d1] <;> exact ⟨by decide,by decide⟩
   refine ⟨fun bb o e=>?_,⟨_,rfl⟩,?_⟩
   ·rw [bC (fun z=>by rw [z,hD] at e;cases e)]
    exact S4 _ _ e
   ·rw [aV,nM _ _ hj,←hqs]
    congr 2;unfold jV;rw [List.map_set]
  ·rintro σ H4 ⟨S4,⟨v4,rfl⟩,hD4⟩
   refine ⟨S4,⟨_,_,rfl⟩,?_⟩;rw [nM _ _ hi,←hps,hD4,hlw,aX];rfl
 ·rintro σ H3 ⟨S3,⟨v3,v4,rfl⟩,hD3⟩
  refine ⟨_,rfl,k D H3 S3 ?_⟩;rw [hD3,lr,aX];rfl
theorem lL:cb ["net","bounds","leaf","worth","row","price","bound","span"] pzD (defScope sWorth):=by trivial
theorem ok_worth (F:Fun K "worth_of" "worth_of" sWorth f fd)(T:Nm mg)(T2:Nt mg)(G1:Fn K mg "beats_of" sBeats pzc f1 fd1)(F1:cW P w K mg base CX0 2 f1 fd1 pzc pE)(G2:Fn K mg "own_prices" sOwn ["net","rows"] f2 fd2):cW P w K mg base CX0 3 f fd pzD spWorth:=by
 have F2:cW P w K mg base CX0 1 f2 fd2 ["net","rows"] spOwn:=ok_own G2.F;refine F.ok lL (by contradiction) (fun cdv A outer s H vs Q E hr h=>?_);obtain ⟨v,vb,vl,b,m,sp,bs,rows,rfl,W,k⟩:=h;have hr1:Room 1 _:=hr.mono (by decide);obtain ⟨hv,hb,hl0,b0,b61,lb,few,bu,hws,hok,lr41⟩:=W;obtain ⟨t,pn,ys,rfl,ht,hpn,hl,hy⟩:=fe hv;obtain ⟨p,pr,yr,rfl,hp,hpr,ry⟩:=price_of hl0;obtain ⟨pb,yb,rfl,hpb,hlb,rb⟩:=ib hb;have lr:yr.length=rows.length:=by rw [ry.length,aa]
 refine ⟨_,PSl.h (aU ⟨(psZ 3 lL.nd bo)⟩
  (aU ⟨(gk bz rfl (iY (ixZ (pv 2))) (pgZ 4 lL.nd) (cj (pV (i:=3) lL.nd rfl (.inl rfl) (cg op_mulB (cg ij (ixZ (pv 4)) (ixZ (pc1 G1 F1 hr (ag (pv 0) (ag (pv 1) (ag (ixZ (pv 4)) aC)))))) (ixZ (pv 0))) ip_add)))⟩
  (aU ⟨(gk bz rfl (pi_zip3 rfl T2.zip (ag (pc1 G2 F2 hr1 (ag (pv 0) (ag (ixZ (pv 2)) aC))) (ag (pv 1) (ag (ixZ (pv 0)) aC)))) (lQ rfl (eZ (pgZ 5 lL.nd) (eZ (pgZ 6 lL.nd) (eZ (pgZ 7 lL.nd) ke)))) (cj (pV (i:=3) lL.nd rfl (.inl rfl) (cg jj (cg ij (pv 5) (l5 (cu oj (pv 5) bo (cJ _)) (ixZ (pv 6)) (ixZ (pv 6)))) (cg ij (ixZ (pv 7)) (ixZ (pv 7)))) ip_add)))⟩
  (cZ ⟨(bY (pv 3))⟩)))),?_⟩
 refine ⟨_,rfl,p,_,_,_,rfl,rfl,SqT.of hp,az (j:=1) rfl,pr,rfl,⟨_,SqT.of hpr⟩,?_⟩;refine ki (K:=K) (xs:=yr) (fun i σ H3=>Same H H3∧∃ v4 v5 v6 v7,σ=[some (.ref t),some (.ref pb),some (.ref p),some (.int (kI b bs (rows.take i))),v4,v5,v6,v7]) ⟨Same.refl H,none,none,none,none,rfl⟩ (fun i σ H3 _ ⟨S3,_⟩=>SqT.of (S3 _ _ hpr)) ?_ ?_
 ·rintro i y σ H3 hy3 ⟨S3,v4,v5,v6,v7,rfl⟩
  have hi:i<rows.length:=by rw [←lr];exact (ak.mp hy3).1
  obtain ⟨d,hd,dy⟩:=ry.get hy3;rw [ax,gE hi] at hd;cases hd;obtain ⟨q,vw,rfl,hq,hw⟩:=row_of dy;have ok:=hok rows[i] (bt hi);have u1:=up_abs (b:=b) (bs:=bs) (ws:=rows[i].2) b0 bu ok.few;have p1:=ok.lo;have p2:=ok.hi;refine ⟨_,rfl,_,rfl,q,_,_,_,rfl,rfl,SqT.of (S3 _ _ hq),az (j:=0) rfl,_,rfl,_,rfl,_,rfl,q,_,_,_,rfl,rfl,SqT.of (S3 _ _ hq),az (j:=1) rfl,.ref t,.ref pb,vw,b,m,sp,bs,rows[i].2,rfl,hv.same S3,b0,b61,hb.same S3,hw.same S3,by rw [lb];exact ok.inn,fun q5 H5 S5 h5=>?_⟩;refine ⟨q5,_,_,_,rfl,rfl,SqT.of h5,az (j:=0) rfl,_,_,rfl,rfl,.inl ⟨by show -(2 ^ 64)<rows[i].1;lia,by show rows[i].1<2 ^ 64;lia⟩,_,rfl,t,_,_,_,rfl,rfl,SqT.of (S5 _ _ (S3 _ _ ht)),az (j:=0) rfl,_,_,rfl,rfl,⟨?_,?_⟩,_,_,rfl,rfl,S3.trans S5,some (.ref q),v5,v6,v7,?_⟩
  ·rw [Int.natAbs_mul]
   have h1:rows[i].1.natAbs≤10 ^ 12:=by lia
   exact bV (Nat.mul_le_mul h1 u1) (by trivial)
  ·exact bV (by lia:b.natAbs≤10 ^ 61) (by trivial)
  ·unfold kI
   rw [sum_take _ hi];rfl
 rintro σ H3 ⟨S3,v4,v5,v6,v7,rfl⟩;rw [lr,aX];have hrr:IsD H3 (.ref pr) (.tup (rows.map rowD)):= .tup (S3 _ _ hpr) (ry.same S3);refine ⟨_,rfl,_,rfl,p,_,_,_,rfl,rfl,SqT.of (S3 _ _ hp),az (j:=1) rfl,.ref t,pr,b,m,sp,rows,rfl,hv.same S3,few,hrr,hok,fun L H4 S4 hL=>?_⟩;have S04:=S3.trans S4;refine ⟨_,rfl,_,rfl,t,_,_,_,rfl,rfl,SqT.of (S04 _ _ ht),az (j:=2) rfl,⟨true,L⟩,⟨false,pb⟩,⟨false,pn⟩,_,_,_,rfl,hL,S04 _ _ hpb,S04 _ _ hpn,?_⟩;have lo:=own_len sp rows;refine for_zip3 (c1:=⟨true,L⟩) (c2:=⟨false,pb⟩) (c3:=⟨false,pn⟩) (xs:=(ownM sp rows).map V.int) (ys:=yb) (zs:=ys) (fun i σ H5=>Same H4 H5∧∃ v4 v5 v6 v7,σ=[some (.ref t),some (.ref pb),some (.ref p),some (.int (kI b bs rows+((aQ i).map (oA sp bs rows)).sum)),v4,v5,v6,v7]) ⟨Same.refl H4,v4,v5,v6,v7,by simp⟩ (fun i σ H5 _ ⟨S5,_⟩=>⟨S5 _ _ hL,S5 _ _ (S04 _ _ hpb),S5 _ _ (S04 _ _ hpn)⟩) (by rw [aa];lia) (by rw [aa];lia) ?_ ?_
 ·rintro i x y z pz σ H5 hx hy5 hz ⟨S5,v4,v5,v6,v7,rfl⟩ hpz
  have hi:i<sp.length:=by rw [←hl];exact (ak.mp hz).1
  have hib:i<bs.length:=by lia
  rw [ax,gE (by lia)] at hx;cases hx;obtain ⟨qb,e1,h1⟩:=iG rb (gE hib);rw [hy5] at e1;cases e1;obtain ⟨qz,e2,h2⟩:=hy i sp[i] (gE hi);rw [hz] at e2;cases e2;have eo:(ownM sp rows)[i]=owK sp rows i:=by
   rw [←own_at hi hok,ai,gE (by lia)];rfl
  rw [eo];have S6:Same H4 (upd H5 pz (.tup [.int (owK sp rows i),.ref qb,.ref qz])):=S5.put hpz;have h6:(upd H5 pz (.tup [.int (owK sp rows i),.ref qb,.ref qz])) pz=some (.tup [.int (owK sp rows i),.ref qb,.ref qz]):=aV;generalize upd H5 pz (.tup [.int (owK sp rows i),.ref qb,.ref qz])=H6 at S6 h6 ⊢;have S06:=S04.trans S6;have ob:=owK_abs (k:=i) hws hok lr41;have wx:=hws sp[i] (bt hi);have ew:wOf sp i=sp[i].w:=by unfold wOf;rw [gE hi]
  have el:lOf sp i=sp[i].l:=by unfold lOf;rw [gE hi]
  have eb:bs.getD i (0,0)=bs[i]:=by rw [ai,gE hib];rfl
  have et:oA sp bs rows i=owK sp rows i * (if owK sp rows i<0 then bs[i].2 else bs[i].1) - sp[i].w * sp[i].l:=by unfold oA;rw [ew,el,eb]
  refine ⟨pz,_,rfl,SqT.of h6,rfl,_,_,rfl,_,_,rfl,_,_,rfl,rfl,?_⟩;refine ⟨_,rfl,_,rfl,_,rfl,_,_,rfl,rfl,_,rfl,?_⟩
  by_cases hneg:owK sp rows i<0
  ·refine om (rM hneg) ?_
   refine ⟨_,rfl,qb,_,_,_,rfl,rfl,SqT.of (S06 _ _ h1),az (j:=1) rfl,_,_,rfl,rfl,.inl ⟨by show -(2 ^ 64)<owK sp rows i;lia,by show owK sp rows i<2 ^ 64;lia⟩,_,rfl,qz,_,_,_,rfl,rfl,SqT.of (S06 _ _ h2),az (j:=4) rfl,_,rfl,qz,_,_,_,rfl,rfl,SqT.of (S06 _ _ h2),az (j:=2) rfl,_,_,rfl,rfl,.inl ⟨by show -(2 ^ 64)<sp[i].w;lia,by show sp[i].w<2 ^ 64;lia⟩,_,_,rfl,rfl,_,_,rfl,rfl,S6,v4,some (.int (owK sp rows i)),some (.ref qb),some (.ref qz),?_⟩;rw [pq,et,rJ hneg,←Int.add_assoc];rfl
  ·refine iq (rN hneg) ?_
   refine ⟨_,rfl,qb,_,_,_,rfl,rfl,SqT.of (S06 _ _ h1),az (j:=0) rfl,_,_,rfl,rfl,.inl ⟨by show -(2 ^ 64)<owK sp rows i;lia,by show owK sp rows i<2 ^ 64;lia⟩,_,rfl,qz,_,_,_,rfl,rfl,SqT.of (S06 _ _ h2),az (j:=4) rfl,_,rfl,qz,_,_,_,rfl,rfl,SqT.of (S06 _ _ h2),az (j:=2) rfl,_,_,rfl,rfl,.inl ⟨by show -(2 ^ 64)<sp[i].w;lia,by show sp[i].w<2 ^ 64;lia⟩,_,_,rfl,rfl,_,_,rfl,rfl,S6,v4,some (.int (owK sp rows i)),some (.ref qb),some (.ref qz),?_⟩;rw [pq,et,rG hneg,←Int.add_assoc];rfl
 ·rintro σ H5 ⟨S5,v4,v5,v6,v7,rfl⟩
  refine ⟨_,rfl,?_⟩;have k1:=k H5 (S04.trans S5);unfold jA at k1;rw [aa,lo];exact k1
abbrev sDead:cU:=top 11
theorem scDead:cb ["net","bounds","ring","beats"] pzc (defScope sDead):=by trivial
theorem ok_dead (F:Fun K "is_dead" "is_dead" sDead f fd)(G1:Fn K mg "beats_of" sBeats pzc f1 fd1)(F1:cW P w K mg base CX0 2 f1 fd1 pzc pE):cW P w K mg base CX0 3 f fd pzc spDead:=by
 refine F.ok scDead (by contradiction) (fun cdv A outer s H vs Q E hr h=>?_);obtain ⟨vn,vb,vw,b,m,sp,bs,ws,rfl,hv,hb0,hb1,hb,hw,hin,k⟩:=h;refine ⟨_,PSl.h (aU ⟨(psZ 3 scDead.nd (pc1 G1 F1 hr (ag (pv 0) (ag (pv 1) (ag (pv 2) aC)))))⟩
  (cZ ⟨(bY (iR p7 (ixZ (pv 3)) (ixZ (pv 3)) (cJ _)))⟩)),?_⟩
 refine ⟨_,rfl,_,rfl,_,rfl,vn,vb,vw,b,m,sp,bs,ws,rfl,hv,hb0,hb1,hb,hw,hin,fun p1 H1 S1 h1=>?_⟩;exact ⟨_,rfl,p1,_,_,_,rfl,rfl,SqT.of h1,az (j:=0) rfl,_,rfl,p1,_,_,_,rfl,rfl,SqT.of h1,az (j:=1) rfl,_,_,rfl,rfl,k H1 S1⟩
abbrev sWidth:cU:=top 4
theorem scWidth:cb ["net","span","least","most"] pzg (defScope sWidth):=by trivial
theorem ok_width (F:Fun K "width_of" "width_of" sWidth f fd):cW P w K mg base CX0 1 f fd pzg spWidth:=by
 refine F.ok scWidth (by contradiction) (fun cdv A outer s H vs Q E hr h=>?_);obtain ⟨v,b,m,sp,i,x,rfl,hv,hx,k⟩:=h;obtain ⟨t,p,ys,rfl,ht,hp,hl,hy⟩:=fe hv;obtain ⟨q,hq,hq2⟩:=hy i x hx;refine ⟨_,PSl.h (aU ⟨(psZ 2 scWidth.nd (ixZ (dG dN (ixZ (pv 0)) (pv 1) (fun _ _=>rfl))))⟩
  (aU ⟨(psZ 3 scWidth.nd (ixZ (dG dN (ixZ (pv 0)) (pv 1) (fun _ _=>rfl))))⟩
  (cZ ⟨(bY (cg jj (pv 3) (pv 2)))⟩))),?_⟩
 refine ⟨_,rfl,t,_,_,_,rfl,rfl,SqT.of ht,az (j:=2) rfl,_,rfl,p,_,_,_,rfl,rfl,SqT.of hp,az (j:=i) hq,q,_,_,_,rfl,rfl,SqT.of hq2,az (j:=2) rfl,?_⟩;refine ⟨_,rfl,t,_,_,_,rfl,rfl,SqT.of ht,az (j:=2) rfl,_,rfl,p,_,_,_,rfl,rfl,SqT.of hp,az (j:=i) hq,q,_,_,_,rfl,rfl,SqT.of hq2,az (j:=3) rfl,?_⟩;exact ⟨_,rfl,_,rfl,_,_,rfl,rfl,k⟩
abbrev sSpW:cU:=top 14
abbrev lN:cU:=top 15
def lamPos:List cU→Pos
 | [.Return (some (.Call _ _ [⟨_,.Lambda _ _ _ lp,_⟩] _)) _]=>lp
 | _=>⟨0,0,0,0⟩
abbrev lpW:Pos:=lamPos (fR sSpW)
abbrev lqW:Str:=(("spans_by_width" :Str) ++ ".<locals>.") ++ "<lambda>"
theorem okC {c:ao}{k:Nat}{sp:Sp}(F:Fun K x qual st f fd)(hc:fd.code= .ref c)(S:cb N ps (defScope st))(len:∀ vs H Q E,sp vs H Q E→vs.length=ps.length)
  (hbody:∀ (A:bZ) (outer:List Env) (s:au) (H:Hp) (vs:List V) (Q:VK) (E:XK),Room k (A.deeper (envOfC qual (defScope st) s.heap.objs.size f (.ref c)))→sp vs H Q E →
   ∃ t,PSs (cxOf CX0 P w K mg base N qual (defScope st) f (.ref c) A outer s H E).nox (fR st) t∧t { nx:=fun _ H'=>Q .non H',rt:=Q } (L2.start N vs) H):cW P w K mg base CX0 (k+1) f fd ps sp:=by
 obtain ⟨oc,od,kV,doc,pm,an,cdv,ct,osl,rfl,lk,hcd⟩:=F.ex;have hc:cdv= .ref c:=hc;subst hc;refine fn_of lk hcd S len fun A outer s H vs Q E hr hsp=>?_
 obtain ⟨t,h,q⟩:=hbody A outer s H vs Q E hr hsp;exact ⟨t,h.nox,q⟩
theorem scSpW:cb pza pza (defScope sSpW):=by trivial
theorem ok_spW {c:ao}(F:Fun K "spans_by_width" "spans_by_width" sSpW f fd)(hcd:fd.code= .ref c)(C:eQ K c Tb0=true)(B:BM mg base)(T:Nm mg)(T2:Nt mg)(ms:mg "sorted" =none)(G1:Fn K mg "width_of" sWidth pzg f1 fd1) :
  cW P w K mg base CX0 5 f fd pza (spSpW Tb0 lpW lqW):=by
 have F1:cW P w K mg base CX0 1 f1 fd1 pzg spWidth:=ok_width G1.F;refine okC F hcd scSpW (by contradiction) (fun A outer s H vs Q E hr h=>?_);obtain ⟨v,b,m,sp,rfl,hv,few,hT,k⟩:=h;obtain ⟨t,p,ys,rfl,ht,hp,hl,hy⟩:=fe hv;refine ⟨_,PSl.h (cZ ⟨(bY (pe_sortL (js:=[0]) (fr:=pza) (x := "span") (c:=c) (P:=Tb0) rfl hr.depth rfl ms (fP call_rng1 rfl T2.range boot_range (ag (cy bX rfl T.len bI (ag (ixZ (pv 0)) aC)) aC)) rfl rfl C B (fun _ _ _ _ _ _=>rfl) rfl rfl rfl (by trivial) rfl (by decide) (by exists sSpW) rfl (by trivial)
  (fun cl L f' cd s' H'=>pe_tup (ag (pc1 G1 F1 (((hr.in1).in1).deeper _ |>.mono (by decide)) (ag (pv 1) (ag (pv 0) aC))) (ag (pv 0) aC)))))⟩),?_⟩
 refine ⟨_,rfl,t,_,_,_,rfl,rfl,SqT.of ht,az (j:=2) rfl,p,_,rfl,.inr (SqT.of hp),_,rfl,fun r H1 S1 hr1=>?_⟩;have hv1:IsD H1 (.ref t) (kg b m sp):=hv.same S1;have hT1:=LamT.same S1 hT;refine ⟨r,ys.length,nP sp,rfl,hr1,by lia,hT1,wkey_nodup sp _,fun i hi H2 tb=>?_,fun D H4 π tb lt hD pm pw=>?_⟩
 ·have hv2:=cO (Tb.tupK (LamT.tbl hT1) tb) hv1
  refine ⟨_,rfl,_,rfl,.ref t,b,m,sp,i,sAt sp i,rfl,hv2,ji (by lia),_,rfl,mN,fun q hq=>⟨fun a o e=>by rw [bC (bH e hq)];exact e,q,rfl,aV⟩⟩
 ·exact k D H4 π ((Same.tb S1).trans tb) lt hD ⟨by rw [←hl];exact pm,pw⟩
theorem kX:cb ["net","groups","taken","span","one","other"] pza (defScope lN):=by trivial
theorem ok_forest (F:Fun K "forest_of" "forest_of" lN f fd)(T:Nm mg)(T2:Nt mg)(ms:mg "sorted" =none)(G1:Fn K mg "spans_by_width" sSpW pza f1 fd1)(F1:cW P w K mg base CX0 5 f1 fd1 pza (spSpW Tb0 lp lq)) :
  cW P w K mg base CX0 6 f fd pza (kU Tb0 lp lq):=by
 refine F.ok kX (by contradiction) (fun cdv A outer s H vs Q E hr h=>?_);obtain ⟨v,b,m,sp,rfl,hv,N,hT,k⟩:=h;obtain ⟨t,p,ys,rfl,ht,hp,hl,hy⟩:=fe hv;obtain ⟨mn,rfl⟩:=cM (show 0≤m by have:=N.m1;lia);have m2:=N.m2;have few:=N.few;have E:=N.ends;rw [cL] at E k;refine ⟨_,PSl.h (aU ⟨(psZ 1 kX.nd (fP (call_listR rfl) rfl T2.tlist boot_list (ag (fP call_rng1 rfl T2.range boot_range (ag (ixZ (pv 0)) aC)) aC)))⟩
  (aU ⟨(psZ 2 kX.nd (i9 aC))⟩
  (aU ⟨(gk bz rfl (i8 (pc1 G1 F1 hr (ag (pv 0) aC))) (pgZ 3 kX.nd) (PSl.h (aU ⟨(psZ 4 kX.nd (dG eD (pv 1) (ixZ (dG dN (ixZ (pv 0)) (pv 3) (fun _ _=>rfl))) (fun _ _=>rfl)))⟩
  (aU ⟨(psZ 5 kX.nd (dG eD (pv 1) (ixZ (dG dN (ixZ (pv 0)) (pv 3) (fun _ _=>rfl))) (fun _ _=>rfl)))⟩
  (cZ ⟨(fU (cu ly (pv 4) (pv 5) (cJ _)) (PSl.h (aU ⟨(i6 (ng bB cA cz ik (pv 2) (ag (pv 3) aC)))⟩
  (cZ ⟨(pU (iy:=1) (fr:=["one","other"]) (js:=[4,5]) kX.nd rfl (.inl rfl) rfl (i8 (pv 1)) (by trivial) rfl (by trivial) rfl (by exists lN) (by trivial) rfl (by trivial) (fun _ _ _ _ _=>⟨(l5 (cu lT (pv 0) (pv 2) (cJ _)) (pv 1) (pv 0)),ie⟩))⟩))) cX)⟩)))))⟩
  (cZ ⟨(bY (fP jI rfl T.ttup jJ (ag (cy call_sortedI rfl ms boot_sorted (ag (pv 2) aC)) aC)))⟩)))),?_⟩
 refine ⟨_,rfl,t,_,_,_,rfl,rfl,SqT.of ht,az (j:=1) rfl,(mn:Int),rfl,fun a1 H1 S1 h1=>⟨a1,mn,rfl,h1,by lia,fun Lg hLg=>?_⟩⟩;have S2:Same H (upd H1 Lg (.lst ((aQ mn).map fun k=>V.int (k:Nat)))):=S1.trans (Same.put (Same.refl H1) hLg);have hLg2:(upd H1 Lg (.lst ((aQ mn).map fun k=>V.int (k:Nat)))) Lg=some (.lst ((jS mn).map V.int)):=by rw [aV];unfold jS;rw [d7];rfl
 generalize upd H1 Lg (.lst ((aQ mn).map fun k=>V.int (k:Nat)))=H2 at S2 hLg2 ⊢;refine ⟨bG _,fun Lt hLt=>?_⟩;have S3:Same H (upd H2 Lt (.lst [])):=S2.trans (Same.put (Same.refl H2) hLt);have hgt:Lg≠Lt:=fun z=>by rw [z,hLt] at hLg2;cases hLg2
 have hLt3:(upd H2 Lt (.lst [])) Lt=some (.lst []):=aV;have hLg3:(upd H2 Lt (.lst [])) Lg=some (.lst ((jS mn).map V.int)):=by rw [bC hgt];exact hLg2
 generalize upd H2 Lt (.lst [])=H3 at S3 hLt3 hLg3 ⊢;have hT3:=LamT.same S3 hT;obtain ⟨ps3,hTb3⟩:=LamT.tbl hT3;refine ⟨_,rfl,.ref t,b,mn,sp,rfl,hv.same S3,few,hT3,fun D H4 π tb4 hT4 hD O=>?_⟩;obtain ⟨ps4,hTb4⟩:=LamT.tbl hT4;have nLg:Lg≠Tb0:=eV hLg3 hTb3 nofun;have nLt:Lt≠Tb0:=eV hLt3 hTb3 nofun;have hLg4:=tb4 _ _ nLg hLg3;have hLt4:=tb4 _ _ nLt hLt3;have nDg:D≠Lg:=fun z=>by rw [z,hLg4] at hD;cases hD
 have nDt:D≠Lt:=fun z=>by rw [z,hLt4] at hD;cases hD
 have S5:Same H4 (upd H4 D (.lst (π.map fun (i:Nat)=>V.int i))):=Same.put (Same.refl H4) hD;have tb5:L2.Tb Tb0 H (upd H4 D (.lst (π.map fun (i:Nat)=>V.int i))):=((Same.tb S3).trans tb4).trans (Same.tb S5);have hT5:=LamT.same S5 hT4;have hD5:(upd H4 D (.lst (π.map fun (i:Nat)=>V.int i))) D=some (.lst (π.map fun (i:Nat)=>V.int i)):=aV;have hLg5:=S5 _ _ hLg4;have hLt5:=S5 _ _ hLt4;generalize upd H4 D (.lst (π.map fun (i:Nat)=>V.int i))=H5 at tb5 hT5 hD5 hLg5 hLt5 ⊢;have hLtN:∀ o,H Lt=some o→False:=fun o e=>by rw [S2 _ _ e] at hLt;cases hLt
 clear hLg4 hLt4 S5 hD hTb4 hT4 tb4 hLg3 hLt3 hT3 hTb3 hLg2 hLt S2 h1 S1 hLg S3;refine ⟨D,rfl,⟨_,SqL.of hD5⟩,?_⟩;have tkE:∀ {H':Hp},L2.Tb Tb0 H H'→TupK H H':=fun e=>Tb.tupK (LamT.tbl hT) e
 refine k7 (K:=K) (a:=D) (xs:=π.map fun (i:Nat)=>V.int i) (fun i σ HA=>L2.Tb Tb0 H HA∧L2.LamT Tb0 lp lq HA∧HA D=some (.lst (π.map fun (i:Nat)=>V.int i))∧∃ (La:ao) (v3 v4 v5:Option V),σ=[some (.ref t),some (.ref La),some (.ref Lt),v3,v4,v5]∧La≠Lt∧HA La=some (.lst (((π.take i).foldl (fA sp) (jS mn,[])).1.map V.int))∧HA Lt=some (.lst (((π.take i).foldl (fA sp) (jS mn,[])).2.map fun (i:Nat)=>V.int i)))
  ⟨tb5,hT5,hD5,Lg,none,none,none,rfl,hgt,hLg5,hLt5⟩ (fun i σ HA _ ⟨_,_,h,_⟩=>SqL.of h) ?_ ?_
 ·rintro i x σ HA hx ⟨tbA,hTA,hDA,La,v3,v4,v5,rfl,nLa,hLa,hLtA⟩
  rw [ax] at hx;obtain ⟨j,hj,rfl⟩:=bF.mp hx;have hjn:j<sp.length:=O.lt (bj hj);have hvA:=cO (tkE tbA) hv;obtain ⟨t',p',ys',e0,htA,hpA,hlA,hyA⟩:=fe hvA;cases e0;obtain ⟨q,hq,hq2⟩:=hyA j _ (ji hjn);obtain ⟨s0,s1,g0,g1⟩:=E _ (eu hjn);have fold:(π.take (i+1)).foldl (fA sp) (jS mn,[])=fA sp ((π.take i).foldl (fA sp) (jS mn,[])) j:=by
   rw [bf,hj];show (π.take i++[j]).foldl _ _=_;rw [dO];rfl
  rw [fold];obtain ⟨gl,gb⟩:((π.take i).foldl (fA sp) (jS mn,[])).1.length=mn∧((π.take i).foldl (fA sp) (jS mn,[])).2.length≤sp.length:=by
   refine ⟨(qq E (π.take i) _ _ [] (fun i hi=>O.lt (List.mem_of_mem_take hi)) (Rl.start mn)).1.len,?_⟩;have:=(kd sp (π.take i) (jS mn,[])).2;rw [bL] at this;have h2:=O.len;show _≤_;have h3:((jS mn,([]:List Nat)).2).length=0:=rfl;lia
  generalize (π.take i).foldl (fA sp) (jS mn,[])=c at hLa hLtA gl gb ⊢;obtain ⟨gs,tk⟩:=c;have hLa:HA La=some (.lst (gs.map V.int)):=hLa;have hLtA:HA Lt=some (.lst (tk.map fun (i:Nat)=>V.int i)):=hLtA;have gl:gs.length=mn:=gl;have gb:tk.length≤sp.length:=gb;have es:=tm_at (ts:=gs) s0 (by lia);have eg:=tm_at (ts:=gs) g0 (by lia);refine ⟨_,rfl,_,rfl,t,_,_,_,rfl,rfl,SqT.of htA,az (j:=2) rfl,_,rfl,p',_,_,_,rfl,rfl,SqT.of hpA,az (j:=j) hq,q,_,_,_,rfl,rfl,SqT.of hq2,az (j:=0) rfl,La,_,_,_,rfl,rfl,SqL.of hLa,es,?_⟩;refine ⟨_,rfl,_,rfl,t,_,_,_,rfl,rfl,SqT.of htA,az (j:=2) rfl,_,rfl,p',_,_,_,rfl,rfl,SqT.of hpA,az (j:=j) hq,q,_,_,_,rfl,rfl,SqT.of hq2,az (j:=1) rfl,La,_,_,_,rfl,rfl,SqL.of hLa,eg,?_⟩;refine ⟨_,rfl,_,rfl,rfl,_,rfl,?_⟩
  by_cases e:tm gs (sAt sp j).s=tm gs (sAt sp j).g
  ·have st:fA sp (gs,tk) j=(gs,tk):=by unfold fA;exact rJ e
   rw [st,e,rM rfl];exact iteF ⟨tbA,hTA,hDA,La,_,_,_,rfl,nLa,hLa,hLtA⟩
  ·have st:fA sp (gs,tk) j=(iT gs (tm gs (sAt sp j).s) (tm gs (sAt sp j).g),tk++[j]):=by unfold fA;exact rG e
   rw [st,rN (fun z=>e (V.int.inj z))];refine iteT ?_;obtain ⟨x,hx⟩:∃ x,x=tm gs (sAt sp j).s:=⟨_,rfl⟩;obtain ⟨y,hy⟩:∃ y,y=tm gs (sAt sp j).g:=⟨_,rfl⟩;rw [←hx,←hy] at e ⊢;refine ⟨_,rfl,.inl ⟨rfl,_,SqL.of hLtA⟩,_,rfl,Lt,_,_,rfl,rfl,hLtA,mW (by rw [aa];lia),?_⟩;have hLt6:(upd HA Lt (.lst ((tk.map fun (i:Nat)=>V.int i)++[V.int j]))) Lt=some (.lst ((tk++[j]).map fun (i:Nat)=>V.int i)):=by rw [aV,aB];rfl
   have keep:∀ a o,a≠Lt→HA a=some o→(upd HA Lt (.lst ((tk.map fun (i:Nat)=>V.int i)++[V.int j]))) a=some o:=fun a o h e=>by rw [bC h];exact e
   have nTL:Tb0≠Lt:=fun z=>nLt z.symm
   have tb6:L2.Tb Tb0 H (upd HA Lt (.lst ((tk.map fun (i:Nat)=>V.int i)++[V.int j]))):=fun a o hn e=>keep a o (fun z=>by subst z;exact hLtN _ e) (tbA a o hn e)
   have hT6:L2.LamT Tb0 lp lq (upd HA Lt (.lst ((tk.map fun (i:Nat)=>V.int i)++[V.int j]))):=LamT.upd hTA (fun p u z=>by rw [hLtA] at z;cases z) fun ps z=>by rw [hLtA] at z;cases z
   have hD6:=keep _ _ nDt hDA;have hLa6:=keep _ _ nLa hLa;generalize upd HA Lt (.lst ((tk.map fun (i:Nat)=>V.int i)++[V.int j]))=HB at hLt6 keep tb6 hT6 hD6 hLa6 ⊢;refine ⟨_,rfl,La,rfl,⟨_,SqL.of hLa6⟩,?_⟩;refine kl (K:=K) (a:=La) (xs:=gs.map V.int) (fun i zs HC=>HC=HB∧zs=(iT (gs.take i) x y).map V.int) ⟨rfl,rfl⟩ (fun i zs HC hi ⟨e1,e2⟩=>?_) (by rw [aa];exact dW (by lia)) (fun i v zs HC hv ⟨e1,e2⟩=>?_) (fun zs HC ⟨e1,e2⟩ L hL=>?_)
   ·subst e1
    refine ⟨SqL.of hLa6,?_⟩;rw [aa] at hi;rw [e2,aa];unfold iT;rw [aa,bL];lia
   ·subst e1
    rw [ax] at hv;obtain ⟨g,hg,rfl⟩:=bF.mp hv;refine gH ?_;have nx:zs++[V.int (if g=y then x else g)]=(iT (gs.take (i+1)) x y).map V.int:=by
     rw [e2];unfold iT;rw [bf,hg,aB,aB];rfl
    refine ⟨_,rfl,_,rfl,rfl,_,rfl,?_⟩
    by_cases eg:g=y
    ·rw [eg,rM rfl]
     refine iteT ⟨_,rfl,rfl,?_⟩;rw [←nx,rJ eg]
    ·rw [rN (fun z=>eg (V.int.inj z))]
     refine iteF ⟨_,rfl,rfl,?_⟩;rw [←nx,rG eg]
   ·subst e1
    have eL:zs=(iT gs x y).map V.int:=by rw [e2,aa,aX]
    subst eL;have S7:Same HC (upd HC L (.lst ((iT gs x y).map V.int))):=Same.put (Same.refl HC) hL;have nLL:L≠Lt:=fun z=>by rw [z,hLt6] at hL;cases hL
    exact ⟨tb6.trans (Same.tb S7),LamT.same S7 hT6,S7 _ _ hD6,L,_,_,_,rfl,nLL,aV,S7 _ _ hLt6⟩
 ·rintro σ HA ⟨tbA,hTA,hDA,La,v3,v4,v5,rfl,nLa,hLa,hLtA⟩
  rw [aa,aX] at hLtA;have tl:(π.foldl (fA sp) (jS mn,[])).2.length≤40:=by
   have:=(kd sp π (jS mn,[])).2;have h2:=O.len;have h3:((jS mn,([]:List Nat)).2).length=0:=rfl;lia
  have hLtI:HA Lt=some (.lst (((kh sp mn π).2.map fun (i:Nat)=>(i:Int)).map V.int)):=by rw [hLtA,d7];rfl
  refine ⟨_,rfl,Lt,_,rfl,SqL.of hLtI,by rw [aa];exact bV tl (by decide),fun L ns hL pm pw=>?_⟩;have S7:Same HA (upd HA L (.lst (ns.map V.int))):=Same.put (Same.refl HA) hL;refine ⟨L,_,rfl,.inl (Rd.of aV),fun u H8 S8 hu=>?_⟩;exact k u H8 ns ((tbA.trans (Same.tb S7)).trans (Same.tb S8)) (LamT.same S8 (LamT.same S7 hTA)) hu ⟨π,O,pm,pw⟩
abbrev sFrom:cU:=top 6
abbrev sTo:cU:=top 7
theorem scFrom:cb ["net","step","span"] pze (defScope sFrom):=by trivial
theorem ok_from (F:Fun K "leads_from" "leads_from" sFrom f fd):cW P w K mg base CX0 1 f fd pze spFrom:=by
 refine F.ok scFrom (by contradiction) (fun cdv A outer s0 H vs Q E hr h=>?_);obtain ⟨v,q,b,m,sp,s,x,rfl,hv,hq,hx,k⟩:=h;obtain ⟨t,p,ys,rfl,ht,hp,hl,hy⟩:=fe hv;obtain ⟨qx,hqx,hqx2⟩:=hy s.i x hx;refine ⟨_,PSl.h (aU ⟨(psZ 2 scFrom.nd (dG dN (ixZ (pv 0)) (ixZ (pv 1)) (fun _ _=>rfl)))⟩
  (cZ ⟨(bY (l5 (cu lT (ixZ (pv 1)) bo (cJ _)) (ixZ (pv 2)) (ixZ (pv 2))))⟩)),?_⟩
 refine ⟨_,rfl,t,_,_,_,rfl,rfl,SqT.of ht,az (j:=2) rfl,_,rfl,q,_,_,_,rfl,rfl,SqT.of hq,az (j:=0) rfl,p,_,_,_,rfl,rfl,SqT.of hp,az (j:=s.i) hqx,?_⟩;refine ⟨_,rfl,q,_,_,_,rfl,rfl,SqT.of hq,az (j:=1) rfl,rfl,_,rfl,?_⟩;refine ite2 (fun h1=>?_) (fun h1=>?_)
 ·have h1:s.d=1:=by have:=rO h1;injection this
  refine ⟨_,rfl,qx,_,_,_,rfl,rfl,SqT.of hqx2,az (j:=0) rfl,?_⟩;have e:frm x s.d=x.s:=rJ h1;rw [←e];exact k
 ·have h1:s.d≠1:=fun z=>h1 (rM (by rw [z]))
  refine ⟨_,rfl,qx,_,_,_,rfl,rfl,SqT.of hqx2,az (j:=1) rfl,?_⟩;have e:frm x s.d=x.g:=rG h1;rw [←e];exact k
theorem scTo:cb ["net","step","span"] pze (defScope sTo):=by trivial
theorem ok_to (F:Fun K "leads_to" "leads_to" sTo f fd):cW P w K mg base CX0 1 f fd pze spTo:=by
 refine F.ok scTo (by contradiction) (fun cdv A outer s0 H vs Q E hr h=>?_);obtain ⟨v,q,b,m,sp,s,x,rfl,hv,hq,hx,k⟩:=h;obtain ⟨t,p,ys,rfl,ht,hp,hl,hy⟩:=fe hv;obtain ⟨qx,hqx,hqx2⟩:=hy s.i x hx;refine ⟨_,PSl.h (aU ⟨(psZ 2 scTo.nd (dG dN (ixZ (pv 0)) (ixZ (pv 1)) (fun _ _=>rfl)))⟩
  (cZ ⟨(bY (l5 (cu lT (ixZ (pv 1)) bo (cJ _)) (ixZ (pv 2)) (ixZ (pv 2))))⟩)),?_⟩
 refine ⟨_,rfl,t,_,_,_,rfl,rfl,SqT.of ht,az (j:=2) rfl,_,rfl,q,_,_,_,rfl,rfl,SqT.of hq,az (j:=0) rfl,p,_,_,_,rfl,rfl,SqT.of hp,az (j:=s.i) hqx,?_⟩;refine ⟨_,rfl,q,_,_,_,rfl,rfl,SqT.of hq,az (j:=1) rfl,rfl,_,rfl,?_⟩;refine ite2 (fun h1=>?_) (fun h1=>?_)
 ·have h1:s.d=1:=by have:=rO h1;injection this
  refine ⟨_,rfl,qx,_,_,_,rfl,rfl,SqT.of hqx2,az (j:=1) rfl,?_⟩;have e:too x s.d=x.g:=rJ h1;rw [←e];exact k
 ·have h1:s.d≠1:=fun z=>h1 (rM (by rw [z]))
  refine ⟨_,rfl,qx,_,_,_,rfl,rfl,SqT.of hqx2,az (j:=0) rfl,?_⟩;have e:too x s.d=x.s:=rG h1;rw [←e];exact k
abbrev pM:cU:=top 16
abbrev sWayB:cU:=top 17
abbrev sRingBy:cU:=top 18
inductive spSteps (vs:List V)(H:Hp)(Q:VK)(_:XK):Prop
 | mk (v u b m sp tk x:_)(_:vs=[v,.ref u,.int x])(_:IsD H v (kg b m sp))(_:H u=some (.tup (tk.map fun (i:Nat)=>V.int i)))(_:(∀ i∈tk,i<sp.length))(_:tk.length≤40)(_:∀ L H' zs,Same H H'→H L=none→H' L=some (.lst zs)→IsDs H' zs (eJ Stp.row (dU sp tk x))→Q (.ref L) H')
inductive spWayBt (vs:List V)(H:Hp)(Q:VK)(_:XK):Prop
 | mk (v u b m sp tk be en:_)(_:vs=[v,.ref u,.int be,.int en])(_:IsD H v (kg b m sp))(_:NetT b m sp)(_:H u=some (.tup (tk.map fun (i:Nat)=>V.int i)))(_:(∀ i∈tk,i<sp.length))(_:tk.length≤40)(_:0≤be)(_:be<m)(_:Held sp tk be en)(_:∀ q H' p,Same H H'→IsD H' q (mf p)→WayR sp tk be en p→Q q H')
inductive spRingBy (T:ao)(lp:Pos)(lq:Str)(vs:List V)(H:Hp)(Q:VK)(_:XK):Prop
 | mk (v b m sp k:_)(_:vs=[v,.int (k:Nat)])(_:IsD H v (kg b m sp))(_:NetT b m sp)(_:L2.LamT T lp lq H)(_:k<sp.length)(_:∀ q H' (l π:List Nat) p,L2.Tb T H H'→L2.LamT T lp lq H'→IsD H' q (mf (⟨k,1⟩::p))→IsFor m.toNat sp (l.map fun (i:Nat)=>(i:Int))→Ordd sp π→l.Perm (kh sp m.toNat π).2→WayR sp l (sAt sp k).g (sAt sp k).s p→Q q H')
def DW (H:Hp):List (Key×V)→List (Int×List Stp)→Prop:=j3 fun (p:Key×V) (q:Int×List Stp)=>p.1= .inl q.1∧IsD H p.2 (mf q.2)
theorem DW.none {H:Hp}{x:Int}:∀ {kvs:List (Key×V)} {l:List (Int×List Stp)},DW H kvs l→lkW l x=none→nS kvs (.inl x)=none
 | _,_,.nil,_=>rfl
 | _,_,.cons (b:=q) r t,h=>by
  rw [k5] at h
  by_cases e:q.1=x
  ·rw [rJ e] at h;cases h
  ·rw [rG e] at h
   rw [iA (fun z=>e (Sum.inl.inj (r.1.symm.trans z)))];exact DW.none t h
theorem DW.some {H:Hp}{x:Int}{ws:List Stp}:∀ {kvs:List (Key×V)} {l:List (Int×List Stp)},DW H kvs l→lkW l x=some ws→∃ v,nS kvs (.inl x)=some v∧IsD H v (mf ws)
 | _,_,.nil,h=>by cases h
 | _,_,.cons (b:=q) r t,h=>by
  rw [k5] at h
  by_cases e:q.1=x
  ·rw [rJ e] at h
   cases h;exact ⟨_,iL (by rw [r.1,e]),r.2⟩
  ·rw [rG e] at h
   rw [iA (fun z=>e (Sum.inl.inj (r.1.symm.trans z)))];exact DW.some t h
theorem qT {ws:List Stp}(e:TupK H H')(h:IsD H v (mf ws)):IsD H' v (mf ws):=by
 obtain ⟨p,ys,rfl,hp,_,r⟩:=ib h;exact .tup (e _ _ hp) (fG e r)
theorem DW.keep (e:TupK H H'){kvs:List (Key×V)}{l:List (Int×List Stp)}(h:DW H kvs l):DW H' kvs l:=L2.Paired.mapP h fun _ _ z=>⟨z.1,qT e z.2⟩
theorem DW.len {H:Hp}:∀ {kvs:List (Key×V)} {l:List (Int×List Stp)},DW H kvs l→kvs.length=l.length
 | _,_,.nil=>rfl
 | _,_,.cons _ t=>rQ (· + 1) (DW.len t)
theorem DW.snoc {H:Hp}{p:Key×V}{q:Int×List Stp}(h:p.1= .inl q.1∧IsD H p.2 (mf q.2)):∀ {kvs:List (Key×V)} {l:List (Int×List Stp)},DW H kvs l→DW H (kvs++[p]) (l++[q])
 | _,_,.nil=> .cons h .nil
 | _,_,.cons r t=> .cons r (DW.snoc h t)
structure JW (H Hc:Hp)(Da La:ao)(c:List (Int×List Stp)×List Int):Prop where
 same:Same H Hc
 da:∃ kvs,Hc Da=some (.dK kvs)∧DW Hc kvs c.1
 la:Hc La=some (.lst (c.2.map V.int))
theorem JW.on {Hc':Hp}{La:ao}(j:JW H Hc Da La c)(e:Same Hc Hc'):JW H Hc' Da La c:=by
 obtain ⟨kvs,h1,h2⟩:=j.da;exact ⟨j.same.trans e,⟨kvs,e _ _ h1,h2.keep (Same.tupK e)⟩,e _ _ j.la⟩
theorem JW.upL {La:ao}{td:List Int}(j:JW H Hc Da La c)(hL:H La=none)(n:Da≠La):JW H (upd Hc La (.lst (td.map V.int))) Da La (c.1,td):=by
 obtain ⟨kvs,h1,h2⟩:=j.da;exact ⟨fun a o e=>by rw [bC (bH e hL)];exact j.same a o e,⟨kvs,by rw [bC n];exact h1,h2.keep (fI j.la)⟩,aV⟩
theorem mapI_at {x:V}(h:(l.map fun (i:Nat)=>V.int i)[i]? =some x):∃ j,l[i]? =some j∧x=V.int (j:Nat):=by
 rw [ax] at h;obtain ⟨j,hj,rfl⟩:=bF.mp h;exact ⟨j,hj,rfl⟩
theorem mQ {s:Stp}(h:s.i<sp.length):too (sAt sp s.i) s.d=fF sp s∧frm (sAt sp s.i) s.d=lH sp s:=by
 have e:sAt sp s.i=sp[s.i]:=by unfold sAt;rw [ai,gE h];rfl
 rw [e];exact ⟨(kO h).symm,(mE h).symm⟩
theorem last_mem {l:List Int}(h:l.getLast? =some z):z∈l:=by
 obtain ⟨ys,rfl⟩:=List.getLast?_eq_some_iff.mp h;simp
theorem scSteps:cb ["net","spans","happening","steps"] pzn (defScope pM):=by trivial
theorem ok_steps (F:Fun K "steps_from" "steps_from" pM f fd)(G1:Fn K mg "leads_from" sFrom pze f1 fd1):cW P w K mg base CX0 2 f fd pzn spSteps:=by
 have F1:cW P w K mg base CX0 1 f1 fd1 pze spFrom:=ok_from G1.F;refine F.ok scSteps (by contradiction) (fun cdv A outer s H vs Q E hr h=>?_);obtain ⟨v,u,b,m,sp,tk,x,rfl,hv,hu,hlt,few,k⟩:=h;have hr1:=hr;refine ⟨_,PSl.h (aU ⟨(psZ 3 scSteps.nd (cg mr (iQ (fr:=[]) (js:=[]) rfl (iY (pv 1)) (by trivial) rfl (by trivial) rfl (by exists pM) (by trivial) rfl (by trivial) (fun _ _ _ _ _=>⟨(eC (ag (pv 0) (ag bo aC))),ie⟩)) (iQ (fr:=[]) (js:=[]) rfl (iY (pv 1)) (by trivial) rfl (by trivial) rfl (by exists pM) (by trivial) rfl (by trivial) (fun _ _ _ _ _=>⟨(eC (ag (pv 0) (ag (pe_un o9 bo) aC))),ie⟩))))⟩
  (cZ ⟨(bY (iQ (fr:=["happening","net"]) (js:=[2,0]) rfl (i8 (pv 3)) (by trivial) rfl (by trivial) rfl (by exists pM) (by trivial) rfl (by trivial) (fun _ _ _ _ _=>⟨(pv 0),(pS (cu lT (pc1 G1 F1 hr1 (ag (pv 2) (ag (pv 0) aC))) (pv 1) (cJ _)))⟩)))⟩)),?_⟩
 have half:∀ (d:Int) (td:TE) (H0:Hp) (Rt:V→Hp→Prop),(∀ σ H1 (R:VK),R (.int d) H1→td σ H1 R)→Same H H0→(∀ L H' zs,Same H0 H'→H' L=some (.lst zs)→IsDs H' zs (eJ Stp.row (tk.map fun i=>⟨i,d⟩))→Rt (.ref L) H') →
   CompW [] tNoIf (tTupA (pf (tVar 0) (pf td tNil))) [some v,some (.ref u),some (.int x),none] Rt (Itt K u) H0:=fun d td H0 Rt htd S0 fin=>by
  refine kx (K:=K) (a:=u) (xs:=tk.map fun (i:Nat)=>V.int i) (fun i zs HC=>Same H0 HC∧zs.length=i∧IsDs HC zs (eJ Stp.row ((tk.take i).map fun i=>⟨i,d⟩))) ⟨Same.refl H0,rfl,.nil⟩ (fun i zs HC hi ⟨e1,e2,_⟩=>⟨SqT.of (e1 _ _ (S0 _ _ hu)),Nat.le_of_eq e2⟩) (by rw [aa];exact dW (by lia)) (fun i y zs HC hy ⟨e1,e2,e3⟩=>?_) (fun zs HC ⟨e1,e2,e3⟩ D hD=>?_)
  ·obtain ⟨j,hj,rfl⟩:=mapI_at hy
   refine gH ⟨_,rfl,htd _ _ _ ⟨mN,fun q H2 S2 h2=>⟨e1.trans S2,by rw [av,e2];rfl,?_⟩⟩⟩;rw [bf,hj];show IsDs H2 (zs++[.ref q]) (eJ Stp.row ((tk.take i++[j]).map fun i=>⟨i,d⟩));unfold eJ at e3 ⊢;rw [aB,aB];exact (e3.same S2).append (.cons (.tup h2 (IsDs.ints (Stp.row ⟨j,d⟩))) .nil)
  ·have S2:=Same.put (Same.refl HC) hD (o:= .lst zs)
   rw [aa,aX] at e3;exact fin D _ zs (e1.trans S2) aV (e3.same S2)
 refine ⟨_,rfl,u,rfl,⟨_,SqT.of hu⟩,half 1 _ H _ (fun _ _ _ h=>h) (Same.refl H) fun L1 H1 z1 S1 h1 d1=>?_⟩;refine ⟨_,rfl,u,rfl,⟨_,SqT.of (S1 _ _ hu)⟩,half (-1) _ H1 _ (fun _ _ _ h=>⟨1,rfl,h⟩) S1 fun L2' H2 z2 S2 h2 d2=>?_⟩;have l1:z1.length=tk.length:=by rw [d1.length];unfold eJ;rw [aa,aa]
 have l2:z2.length=tk.length:=by rw [d2.length];unfold eJ;rw [aa,aa]
 refine ⟨L1,L2',_,_,rfl,rfl,S2 _ _ h1,h2,by rw [l1,l2];exact dW (by lia),fun L3 H3 S3 h3=>?_⟩;have d3:IsDs H3 (z1++z2) (eJ Stp.row (stF tk)):=by
  unfold stF eJ;rw [aB];exact ((d1.same S2).same S3).append (d2.same S3)
 have S03:=S1.trans (S2.trans S3);have hv3:=hv.same S03;refine ⟨_,rfl,L3,rfl,⟨_,SqL.of h3⟩,?_⟩;have ls:(z1++z2).length=(stF tk).length:=by rw [d3.length];unfold eJ;rw [aa]
 refine kl (K:=K) (a:=L3) (xs:=z1++z2) (fun i zs HC=>HC=H3∧zs.length≤i∧IsDs H3 zs (eJ Stp.row (((stF tk).take i).filter fun s=>decide (lH sp s=x)))) ⟨rfl,bG _,.nil⟩ (fun i zs HC hi ⟨e1,e2,_⟩=>⟨by rw [e1];exact SqL.of h3,e2⟩) (by rw [av,l1,l2];exact dW (by lia)) (fun i y zs HC hy ⟨e1,e2,e3⟩=>?_) (fun zs HC ⟨e1,e2,e3⟩ D hD=>?_)
 ·subst e1
  have hi:i<(stF tk).length:=by have:=(ak.mp hy).1;lia
  have hsi:=gE hi;obtain ⟨y',hy',dy⟩:=d3.at (i:=i) (d:= .tup ((Stp.row (stF tk)[i]).map Dt.int)) (by unfold eJ;rw [ax,hsi];rfl);rw [hy] at hy';cases hy';obtain ⟨q,qs,rfl,hq,rq⟩:=dy.tup_of;have eq:=rq.ints_of;subst eq;have hin:=hlt _ (mem_stF (bt hi)).1;refine ⟨_,rfl,_,rfl,v,q,b,m,sp,(stF tk)[i],sAt sp (stF tk)[i].i,rfl,hv3,hq,ji hin,_,rfl,rfl,_,rfl,?_⟩;rw [(mQ hin).2];have nx:((stF tk).take (i+1)).filter (fun s=>decide (lH sp s=x))=((stF tk).take i).filter (fun s=>decide (lH sp s=x))++(if lH sp (stF tk)[i]=x then [(stF tk)[i]] else []):=by
   rw [bf,hsi,gg];show _++[(stF tk)[i]].filter _=_;rw [dJ,List.filter_nil]
   by_cases e:lH sp (stF tk)[i]=x
   ·rw [rJ e,rJ (rM e)]
   ·rw [rG e,rG (by rw [rN e];decide)]
  rw [nx]
  by_cases e:lH sp (stF tk)[i]=x
  ·rw [rJ e,e,rM rfl]
   refine iteT ⟨_,rfl,rfl,by rw [av];exact Nat.succ_le_succ e2,?_⟩;unfold eJ at e3 ⊢;rw [aB];exact e3.append (.cons dy .nil)
  ·rw [rG e,rN (fun z=>e (V.int.inj z)),dZ]
   exact iteF ⟨rfl,Nat.le_succ_of_le e2,e3⟩
 ·subst e1
  have S4:=Same.put (Same.refl HC) hD (o:= .lst zs);rw [ls,aX] at e3;exact k D _ zs (S03.trans S4) (Same.free S03 hD) aV (e3.same S4)
theorem qX:cb ["net","spans","begin","end","ways","ahead","here","step","there"] pzE (defScope sWayB):=by trivial
theorem ok_wayBt (F:Fun K "way_between" "way_between" sWayB f fd)(G1:Fn K mg "steps_from" pM pzn f1 fd1)(F1:cW P w K mg base CX0 2 f1 fd1 pzn spSteps)(G2:Fn K mg "leads_to" sTo pze f2 fd2):cW P w K mg base CX0 3 f fd pzE spWayBt:=by
 have F2:cW P w K mg base CX0 1 f2 fd2 pze spTo:=ok_to G2.F;refine F.ok qX (by contradiction) (fun cdv A outer s H vs Q E hr h=>?_);obtain ⟨v,u,b,m,sp,tk,be,en,rfl,hv,N,hu,hlt,few,be0,be1,held,k⟩:=h;have u1:=bV (Nat.add_le_add_left (by decide:1≤64) _) hr.units;have hr1:Room 1 _:=hr.mono (by decide);have E:=N.ends;have m16:m.toNat≤16:=by have:=N.m2;lia
 have b1:be<(m.toNat:Int):=by lia
 refine ⟨_,PSl.h (aU ⟨(psZ 4 qX.nd (pe_disp (pps_cons (pv 2) (eC aC) pps_nil) rfl rfl (by decide) (by decide)))⟩
  (aU ⟨(psZ 5 qX.nd (i9 (ag (pv 2) aC)))⟩
  (aU ⟨(oY bz (pt_cmp (nh u1 (pv 3) (pv 4)) rfl) (PSl.h (aU ⟨(psZ 6 qX.nd (ra bB gc fZ rf (pv 5)))⟩
  (cZ ⟨(gk bz rfl (i8 (pc1 G1 F1 hr (ag (pv 0) (ag (pv 1) (ag (pv 6) aC))))) (pgZ 7 qX.nd) (PSl.h (aU ⟨(psZ 8 qX.nd (pc1 G2 F2 hr1 (ag (pv 0) (ag (pv 7) aC))))⟩
  (cZ ⟨(fU (pt_cmp (nh u1 (pv 8) (pv 4)) rfl) (PSl.h (aU ⟨(ps_dput u1 (pv 4) (pv 8) (cg p8 (pe_dget u1 (pv 4) (pv 6) (fun _ _=>rfl)) (eC (ag (pv 7) aC))) rfl)⟩
  (cZ ⟨(i6 (ng bB cA cz ik (pv 5) (ag (pv 8) aC)))⟩))) cX)⟩))))⟩))))⟩
  (cZ ⟨(bY (pe_dget u1 (pv 4) (pv 3) (fun _ _=>rfl)))⟩)))),?_⟩
 intro Da hDa;refine ⟨_,rfl,bG _,fun q1 H1 S1 h1=>⟨S1 _ _ aV,[(.inl be,.ref q1)],rfl,(by show 1≤15;decide),?_⟩⟩;have S0:Same H (upd H Da (.dK [])):=Same.put (Same.refl H) hDa;have hDa1:H1 Da=some (.dK []):=S1 _ _ aV;have hDa2:(upd H1 Da (.dK (nq [] [(.inl be,.ref q1)]))) Da=some (.dK [(.inl be,.ref q1)]):=aV;have S2:Same H (upd H1 Da (.dK (nq [] [(.inl be,.ref q1)]))):=fun b o e=>by
  rw [bC (fun z=>by rw [z,hDa] at e;cases e)];exact S1 _ _ (S0 _ _ e)
 have hq1:(upd H1 Da (.dK (nq [] [(.inl be,.ref q1)]))) q1=some (.tup []):=by
  rw [bC (eV h1 hDa1 nofun)];exact h1
 generalize upd H1 Da (.dK (nq [] [(.inl be,.ref q1)]))=H2 at hDa2 S2 hq1 ⊢;clear hDa1 S0 S1 h1;refine ⟨_,rfl,szZ1,fun La hLa=>?_⟩;have nDL:Da≠La:=fun z=>by rw [z,hLa] at hDa2;cases hDa2
 have S3:Same H2 (upd H2 La (.lst [.int be])):=Same.put (Same.refl H2) hLa;have hLaH:H La=none:=by
  cases z:H La with
  | none=>rfl
  | some o=>rw [S2 _ _ z] at hLa;cases hLa
 have J3:JW H (upd H2 La (.lst [.int be])) Da La (itW sp tk be 0):=⟨S2.trans S3,⟨_,S3 _ _ hDa2,.cons ⟨rfl,.tup (S3 _ _ hq1) .nil⟩ .nil⟩,aV⟩;generalize upd H2 La (.lst [.int be])=H3 at J3 ⊢;clear S3 hLa hDa2 hq1 S2;have c0:(itW sp tk be 0).1.length+nN (itW sp tk be 0).1≤17:=by
  have:nN [(be,([]:List Stp))]≤16:=by
   unfold nN;have:=List.countP_le_length (p:=fun x:Nat=>(lkW [(be,([]:List Stp))] ((x:Nat):Int)).isNone) (l:=aQ 16);rw [br] at this;exact this
  show 1+nN [(be,([]:List Stp))]≤17;lia
 have c1:2 * nN (itW sp tk be 0).1+(itW sp tk be 0).2.length≤40:=by
  have e1:(itW sp tk be 0).1.length=1:=rfl;have e2:(itW sp tk be 0).2.length=1:=rfl;lia
 refine ⟨fun n σ HA=>∃ (i:Nat) (v6 v7 v8:Option V),n=2 * nN (itW sp tk be i).1+(itW sp tk be i).2.length∧n≤40∧σ=[some v,some (.ref u),some (.int be),some (.int en),some (.ref Da),some (.ref La),v6,v7,v8]∧JW H HA Da La (itW sp tk be i)∧WI m.toNat sp tk be (itW sp tk be i)∧Clo sp tk (fun _=>False) (itW sp tk be i)∧(itW sp tk be i).1.length+nN (itW sp tk be i).1≤17∧∀ j,j<i→lkW (itW sp tk be j).1 en=none,
  ⟨_,0,none,none,none,rfl,c1,rfl,J3,(start_ok be0 b1).1,(start_ok be0 b1).2,c0,fun j hj=>rL hj (Nat.not_lt_zero _)⟩,?_⟩
 rintro n σ HA ⟨i,v6,v7,v8,rfl,n40,rfl,JA,WA,CA,lA,bA⟩;obtain ⟨kvs,hDaA,dwA⟩:=JA.da;refine ⟨_,rfl,_,rfl,Da,_,rfl,DGet.k (k:= .inl en) hDaA,_,rfl,?_⟩;cases hen:lkW (itW sp tk be i).1 en with
 | some p =>
  obtain ⟨vp,hvp,dp⟩:=dwA.some hen;rw [hvp];refine iteF ⟨_,rfl,_,rfl,Da,vp,rfl,?_,k vp HA p JA.same dp ⟨i,hen,bA⟩⟩;have:=DGet.k (k:= .inl en) hDaA;rw [hvp] at this;exact this
 | none =>
  rw [dwA.none hen];refine iteT ⟨_,fun σ' H' z=>z,?_⟩;have hne:=left_of hlt held WA CA hen;obtain ⟨t1,t2,t3,t4⟩:=turn_ok E m16 hlt WA CA hne;have hlast:(itW sp tk be i).2.getLast? =some (lV (itW sp tk be i).2):=by
   unfold lV;rw [List.getLast?_eq_some_getLast hne];rfl
  have hget:((itW sp tk be i).2.map V.int)[((itW sp tk be i).2.map V.int).length - 1]? =some (V.int (lV (itW sp tk be i).2)):=by
   rw [aa,ax,←List.getLast?_eq_getElem?,hlast];rfl
  refine ⟨_,rfl,.inl ⟨rfl,_,SqL.of JA.la⟩,La,_,_,rfl,rfl,JA.la,hget,?_⟩;have JB:=JA.upL (td:=(itW sp tk be i).2.dropLast) hLaH nDL;rw [List.map_dropLast] at JB;generalize upd HA La (.lst ((itW sp tk be i).2.map V.int).dropLast)=HB at JB ⊢;have hx:lkW (itW sp tk be i).1 (lV (itW sp tk be i).2)≠none:=WA.ahd _ (last_mem hlast);have W0:WI m.toNat sp tk be ((itW sp tk be i).1,(itW sp tk be i).2.dropLast):=⟨WA.pth,WA.rng,fun y hy=>WA.ahd y ((List.dropLast_sublist _).subset hy),WA.beg⟩;have C0:Clo sp tk (· =lV (itW sp tk be i).2) ((itW sp tk be i).1,(itW sp tk be i).2.dropLast):=fun y hy hn ex t ht'=>CA y hy (fun z=>by
   rw [List.getLast?_eq_some_iff] at hlast;obtain ⟨ys,hys⟩:=hlast;rw [hys,gL] at hn;rw [hys] at z
   rcases aN.mp z with z | z
   ·exact hn z
   ·exact ex (aw.mp z)) (fun z=>z) t ht'
  have eT:itW sp tk be (i+1)=(dU sp tk (lV (itW sp tk be i).2)).foldl (iH sp (lV (itW sp tk be i).2)) ((itW sp tk be i).1,(itW sp tk be i).2.dropLast):=rfl;have bN:∀ j,j<i+1→lkW (itW sp tk be j).1 en=none:=fun j hj=>by
   rcases jb.mp hj with h | h
   ·exact bA j h
   ·rw [h];exact hen
  rw [show qO sp tk (itW sp tk be i)=itW sp tk be (i+1) from rfl] at t1 t2 t3 t4;generalize lV (itW sp tk be i).2=x at hx C0 eT ⊢;generalize hc:((itW sp tk be i).1,(itW sp tk be i).2.dropLast)=c at JB W0 C0 eT;have hx:lkW c.1 x≠none:=by rw [←hc];exact hx
  have lc:c.1.length+nN c.1≤17:=by rw [←hc];exact lA
  have lc2:2 * nN c.1+c.2.length≤40:=by
   rw [←hc];show 2 * nN (itW sp tk be i).1+(itW sp tk be i).2.dropLast.length≤40;rw [List.length_dropLast];lia
  refine ⟨_,rfl,_,rfl,_,rfl,v,u,b,m,sp,tk,x,rfl,hv.same JB.same,JB.same _ _ hu,hlt,few,fun L HC zs SC fL hL dz=>⟨L,rfl,⟨_,SqL.of hL⟩,?_⟩⟩;have nLL:L≠La:=fun z=>by rw [z,JB.la] at fL;cases fL
  have JC:=JB.on SC;clear JB hc;have vis:∀ j:Nat,WI m.toNat sp tk be (((dU sp tk x).take j).foldl (iH sp x) c)∧lkW (((dU sp tk x).take j).foldl (iH sp x) c).1 x≠none∧(((dU sp tk x).take j).foldl (iH sp x) c).1.length≤17∧(((dU sp tk x).take j).foldl (iH sp x) c).2.length≤40:=fun j=>by
   obtain ⟨b1,_,_,b4,b5,b6⟩:=o6 E m16 hlt (L:=(dU sp tk x).take j) W0 hx (fun t h=>List.mem_of_mem_take h) C0;exact ⟨b1,by rw [b4 x hx];exact hx,by lia,by lia⟩
  have lz:zs.length=(dU sp tk x).length:=by rw [dz.length];unfold eJ;rw [aa]
  refine k7 (K:=K) (a:=L) (xs:=zs) (fun j σ HD=>JW H HD Da La (((dU sp tk x).take j).foldl (iH sp x) c)∧HD L=some (.lst zs)∧IsDs HD zs (eJ Stp.row (dU sp tk x))∧∃ w7 w8,σ=[some v,some (.ref u),some (.int be),some (.int en),some (.ref Da),some (.ref La),some (.int x),w7,w8]) ⟨JC,hL,dz,_,_,rfl⟩ (fun j σ HD _ ⟨_,h,_⟩=>SqL.of h) ?_ ?_
  ·rintro j y σ HD hy ⟨JD,hLD,dD,w7,w8,rfl⟩
   have hj:j<(dU sp tk x).length:=by have:=(ak.mp hy).1;lia
   have hsj:=gE hj;obtain ⟨y',hy',dy⟩:=dD.at (i:=j) (d:= .tup ((Stp.row (dU sp tk x)[j]).map Dt.int)) (by unfold eJ;rw [ax,hsj];rfl);rw [hy] at hy';cases hy';obtain ⟨q,qs,rfl,hq,rq⟩:=dy.tup_of;have eq:=rq.ints_of;subst eq;have hmem:(dU sp tk x)[j]∈dU sp tk x:=bt hj;have hin:=hlt _ (mem_stF (bW.mp hmem).1).1;have fold:((dU sp tk x).take (j+1)).foldl (iH sp x) c=iH sp x (((dU sp tk x).take j).foldl (iH sp x) c) (dU sp tk x)[j]:=by
    rw [bf,hsj];show ((dU sp tk x).take j++[(dU sp tk x)[j]]).foldl _ _=_;rw [dO];rfl
   rw [fold];obtain ⟨Wj,xj,kj,aj⟩:=vis j;generalize ((dU sp tk x).take j).foldl (iH sp x) c=d at JD Wj xj kj aj;generalize (dU sp tk x)[j]=st at hq hin dy;refine ⟨_,rfl,_,rfl,v,q,b,m,sp,st,sAt sp st.i,rfl,hv.same JD.same,hq,ji hin,?_⟩;rw [(mQ hin).1];obtain ⟨kv2,hDaD,dwD⟩:=JD.da;refine ⟨_,rfl,_,rfl,Da,_,rfl,DGet.k (k:= .inl (fF sp st)) hDaD,_,rfl,?_⟩;cases hto:lkW d.1 (fF sp st) with
   | some p0 =>
    obtain ⟨vp,hvp,_⟩:=dwD.some hto;rw [hvp];have ev:iH sp x d st=d:=by unfold iH;exact rG (by rw [hto];exact fun z=>nomatch z)
    rw [ev];exact iteF ⟨JD,hLD,dD,_,_,rfl⟩
   | none =>
    rw [dwD.none hto];refine iteT ?_;obtain ⟨ws,hws⟩:∃ ws,lkW d.1 x=some ws:=Option.ne_none_iff_exists'.mp xj;have ev:iH sp x d st=(d.1++[(fF sp st,ws++[st])],d.2++[fF sp st]):=by
     unfold iH;rw [rJ hto,hws];rfl
    rw [ev];obtain ⟨vw,hvw,dw⟩:=dwD.some hws;obtain ⟨pw,yw,rfl,hpw,hlw,rw'⟩:=ib dw;have hget':DGet HD Da (V.int x) (some (.ref pw)):=by
     have:=DGet.k (k:= .inl x) hDaD;rw [hvw] at this;exact this
    have lw:=((Wj.pth x ws hws).1.len E be0 b1);refine ⟨_,rfl,_,rfl,Da,.ref pw,rfl,hget',_,rfl,szZ1,fun q4 H16 S16 h16=>⟨pw,q4,_,_,rfl,rfl,S16 _ _ hpw,h16,?_,fun q5 H17 S17 h17=>?_⟩⟩
    ·rw [hlw];exact bh (by show ws.length+1≤1000;lia) (by decide)
    have ST:=S16.trans S17;have hDa7:=ST _ _ hDaD;have dw7:=dwD.keep (Same.tupK ST);have hLa7:=ST _ _ JD.la;have hL7:=ST _ _ hLD;have dD7:=dD.same ST;have S7:=JD.same.trans ST;have lk:kv2.length≤17:=by rw [dwD.len];exact kj
    refine ⟨_,rfl,_,rfl,Da,_,rfl,DPut.k (k:= .inl (fF sp st)) hDa7 (bV (by lia:kv2.length≤999) (by decide)),?_⟩;have hway:IsD H17 (.ref q5) (mf (ws++[st])):=by
     refine .tup h17 ?_;rw [aB];exact (rw'.same ST).append (.cons (dy.same ST) .nil)
    rw [putK_new _ (dwD.none hto)];have K8:TupK H17 (upd H17 Da (.dK (kv2++[(.inl (fF sp st),.ref q5)]))):=fun q xs h=>by rw [bC (eV h hDa7 nofun)];exact h
    have hDa8:(upd H17 Da (.dK (kv2++[(.inl (fF sp st),.ref q5)]))) Da=some (.dK (kv2++[(.inl (fF sp st),.ref q5)])):=aV;have dw8:DW (upd H17 Da (.dK (kv2++[(.inl (fF sp st),.ref q5)]))) (kv2++[(.inl (fF sp st),.ref q5)]) (d.1++[(fF sp st,ws++[st])]):=DW.snoc ⟨rfl,qT K8 hway⟩ (dw7.keep K8);have hLa8:(upd H17 Da (.dK (kv2++[(.inl (fF sp st),.ref q5)]))) La=some (.lst (d.2.map V.int)):=by rw [bC nDL.symm];exact hLa7
    have nLD:L≠Da:=eV hLD hDaD nofun;have hL8:(upd H17 Da (.dK (kv2++[(.inl (fF sp st),.ref q5)]))) L=some (.lst zs):=by rw [bC nLD];exact hL7
    have S8:Same H (upd H17 Da (.dK (kv2++[(.inl (fF sp st),.ref q5)]))):=fun a o e=>by rw [bC (bH e hDa)];exact S7 a o e
    have dD8:IsDs (upd H17 Da (.dK (kv2++[(.inl (fF sp st),.ref q5)]))) zs (eJ Stp.row (dU sp tk x)):=fG K8 dD7;generalize upd H17 Da (.dK (kv2++[(.inl (fF sp st),.ref q5)]))=H8 at hDa8 dw8 hLa8 hL8 S8 dD8 ⊢;refine ⟨_,rfl,.inl ⟨rfl,_,SqL.of hLa8⟩,_,rfl,La,_,_,rfl,rfl,hLa8,mW (by rw [aa];lia),?_⟩;have J8:JW H H8 Da La (d.1++[(fF sp st,ws++[st])],d.2):=⟨S8,⟨_,hDa8,dw8⟩,hLa8⟩;have J9:=J8.upL (td:=d.2++[fF sp st]) hLaH nDL;rw [aB] at J9;refine ⟨J9,?_,fG (fI hLa8) dD8,_,_,rfl⟩;rw [bC nLL];exact hL8
  ·rintro σ HD ⟨JD,hLD,dD,w7,w8,rfl⟩
   rw [lz,aX,←eT] at JD;exact ⟨_,t3,i+1,_,_,_,rfl,by lia,rfl,JD,t1,t2,by lia,bN⟩
theorem IsFor.natsF (a:IsFor m sp ns):∃ (l π:List Nat),ns=l.map (fun (i:Nat)=>(i:Int))∧Ordd sp π∧l.Perm (kh sp m π).2:=by
 obtain ⟨π,o,p,_⟩:=a;have nn:∀ x∈ns,0≤x:=fun x hx=>by
  obtain ⟨i,_,rfl⟩:=bc.mp (p.mem_iff.mp hx);lia
 refine ⟨ns.map Int.toNat,π,?_,o,?_⟩
 ·rw [d7]
  conv=>lhs;rw [←List.map_id ns]
  exact fV fun x hx=>(eE (nn x hx)).symm
 ·have q:=p.map Int.toNat
  rw [d7] at q;have e:((kh sp m π).2.map (Int.toNat ∘ fun (i:Nat)=>(i:Int)))=(kh sp m π).2:=by
   conv=>rhs;rw [←List.map_id (kh sp m π).2]
   exact fV fun x _=>rfl
  rw [e] at q;exact q
theorem gone_ltF (O:Ordd sp π)(pm:l.Perm (kh sp m π).2):∀ i∈l,i<sp.length:=fun i hi=>by
 rcases (kd sp π (jS m,[])).1 i (pm.mem_iff.mp hi) with z | z
 ·cases z
 ·exact O.lt z
theorem scRingBy:cb ["net","span","start","goal"] pzg (defScope sRingBy):=by trivial
theorem ok_ringBy (F:Fun K "ring_by" "ring_by" sRingBy f fd)(G1:Fn K mg "way_between" sWayB pzE f1 fd1)(F1:cW P w K mg base CX0 3 f1 fd1 pzE spWayBt)
  (G2:Fn K mg "forest_of" lN pza f2 fd2) (F2:cW P w K mg base CX0 6 f2 fd2 pza (kU Tb0 lp lq)):cW P w K mg base CX0 7 f fd pzg (spRingBy Tb0 lp lq):=by
 refine F.ok scRingBy (by contradiction) (fun cdv A outer s H vs Q E hr h=>?_);obtain ⟨v,b,m,sp,k,rfl,hv,N,hT,hk,fin⟩:=h;obtain ⟨t,p,ys,rfl,ht,hp,hl,hy⟩:=fe hv;obtain ⟨q,hq,hq2⟩:=hy k _ (ji hk);have hr1:Room 3 _:=hr.mono (by decide);have E:=N.ends;have few:=N.few;obtain ⟨a0,a1,b0,b1⟩:=E _ (eu hk);refine ⟨_,PSl.h (aU ⟨(psZ 2 scRingBy.nd (ixZ (dG dN (ixZ (pv 0)) (pv 1) (fun _ _=>rfl))))⟩
  (aU ⟨(psZ 3 scRingBy.nd (ixZ (dG dN (ixZ (pv 0)) (pv 1) (fun _ _=>rfl))))⟩
  (cZ ⟨(bY (cg p8 (eC (ag (eC (ag (pv 1) (ag bo aC))) aC)) (pc1 G1 F1 hr1 (ag (pv 0) (ag (pc1 G2 F2 hr (ag (pv 0) aC)) (ag (pv 3) (ag (pv 2) aC)))))))⟩))),?_⟩
 refine ⟨_,rfl,t,_,_,_,rfl,rfl,SqT.of ht,az (j:=2) rfl,_,rfl,p,_,_,_,rfl,rfl,SqT.of hp,az (j:=k) hq,q,_,_,_,rfl,rfl,SqT.of hq2,az (j:=0) rfl,?_⟩;refine ⟨_,rfl,t,_,_,_,rfl,rfl,SqT.of ht,az (j:=2) rfl,_,rfl,p,_,_,_,rfl,rfl,SqT.of hp,az (j:=k) hq,q,_,_,_,rfl,rfl,SqT.of hq2,az (j:=1) rfl,?_⟩;refine ⟨_,rfl,mN,fun q1 H1 S1 h1=>⟨szZ1,fun q2 H2 S2 h2=>⟨_,rfl,_,rfl,.ref t,b,m,sp,rfl,hv.same (S1.trans S2),N,LamT.same (S1.trans S2) hT,fun u H3 ns tb3 hT3 hu F0=>?_⟩⟩⟩;have hT2:=LamT.same (S1.trans S2) hT;have K3:=Tb.tupK (LamT.tbl hT2) tb3;obtain ⟨l,π,rfl,O,pm⟩:=F0.natsF;have hlt:=gone_ltF O pm;have lfew:l.length≤40:=by have:=F0.len;rw [aa] at this;lia
 rw [d7] at hu;refine ⟨_,rfl,_,rfl,.ref t,u,b,m,sp,l,(sAt sp k).g,(sAt sp k).s,rfl,cO K3 (hv.same (S1.trans S2)),N,hu,hlt,lfew,b0,by have:=N.m1;lia,held_span E O pm hk,fun w4 H4 pth S4 d4 wr=>?_⟩;obtain ⟨pw,yw,rfl,hpw,hlw,rw'⟩:=ib d4;have hP:=WayR.pth E (by have:=N.m2;lia) hlt b0 b1 (held_span E O pm hk) wr;have ln:=hP.len E b0 b1;have h24:=S4 _ _ (K3 _ _ h2);have h14:=S4 _ _ (K3 _ _ (S2 _ _ h1));refine ⟨q2,pw,_,_,rfl,rfl,h24,hpw,?_,fun q5 H5 S5 h5=>?_⟩
 ·rw [hlw];have:=N.m2;exact bh (by show 1+pth.length≤1000;lia) (by decide)
 refine fin _ H5 l π pth ((Same.tb (S1.trans S2)).trans (tb3.trans (Same.tb (S4.trans S5)))) (LamT.same (S4.trans S5) hT3) ?_ F0 O pm wr;exact .tup h5 (.cons (.tup (S5 _ _ h14) (IsDs.ints (Stp.row ⟨k,1⟩))) (rw'.same S5))
abbrev pO:cU:=top 20
theorem inV_intsF (x:Int):∀ p:List Int,inV (.int x) (p.map V.int)=decide (x∈p)
 | []=>by simp [inV]
 | y::p=>by
  have ih:=inV_intsF x p;unfold inV at ih ⊢;rw [cw,j5,ih]
  by_cases e:y=x
  ·subst e;simp [eqV]
  ·have:eqV (.int y) (.int x)=false:=by simp [eqV,e]
   rw [this];simp [aG,cN e]
theorem inV_nat (x:Nat)(l:List Nat):inV (.int (x:Int)) (l.map fun (i:Nat)=>V.int i)=decide (x∈l):=by
 have e:(l.map fun (i:Nat)=>V.int i)=(l.map fun (i:Nat)=>(i:Int)).map V.int:=by rw [d7];rfl
 rw [e,inV_intsF];refine decide_eq_decide.mpr ⟨fun h=>?_,fun h=>bc.mpr ⟨x,h,rfl⟩⟩;obtain ⟨j,hj,e⟩:=bc.mp h;have:j=x:=by lia
 rw [←this];exact hj
theorem scRingsO:cb ["net","taken"] pza (defScope pO):=by trivial
theorem ok_ringsO (F:Fun K "rings_of" "rings_of" pO f fd)(T:Nm mg)(T2:Nt mg)(G1:Fn K mg "forest_of" lN pza f1 fd1)(F1:cW P w K mg base CX0 6 f1 fd1 pza (kU Tb0 lp lq))(G2:Fn K mg "ring_by" sRingBy pzg f2 fd2)(F2:cW P w K mg base CX0 7 f2 fd2 pzg (spRingBy Tb0 lp lq)):cW P w K mg base CX0 8 f fd pza (oP Tb0 lp lq):=by
 refine F.ok scRingsO (by contradiction) (fun cdv A outer s H vs Q E hr h=>?_);obtain ⟨v,b,m,sp,rfl,hv,N,hT,k⟩:=h;have hr6:Room 6 _:=hr.mono (by decide);have E:=N.ends;have few:=N.few;have m1:=N.m1;refine ⟨_,PSl.h (aU ⟨(psZ 1 scRingsO.nd (pc1 G1 F1 hr6 (ag (pv 0) aC)))⟩
  (cZ ⟨(bY (iQ (fr:=["net","taken"]) (js:=[0,1]) rfl (iI rfl T2.range (ag (cy bX rfl T.len bI (ag (ixZ (pv 0)) aC)) aC)) (by trivial) rfl (by trivial) rfl (by exists pO) (by trivial) rfl (by trivial) (fun _ _ _ _ _=>⟨(pc1 G2 F2 hr (ag (pv 1) (ag (pv 0) aC))),(pS (cu (r:=rIn K true) oy (pv 0) (pv 2) rfl))⟩)))⟩)),?_⟩
 refine ⟨_,rfl,v,b,m,sp,rfl,hv,N,hT,fun u H1 ns tb1 hT1 hu F0=>?_⟩;obtain ⟨l,π,rfl,O,pm⟩:=F0.natsF;have fr:FrstL m.toNat sp l:=⟨F0,π,O,pm⟩;rw [d7] at hu;have hu:H1 u=some (.tup (l.map fun (i:Nat)=>V.int i)):=hu;have hv1:=cO (Tb.lamT hT tb1) hv;obtain ⟨t,p,ys,rfl,ht,hp,hl,hy⟩:=fe hv1;refine ⟨_,rfl,t,_,_,_,rfl,rfl,SqT.of ht,az (j:=2) rfl,p,_,rfl,.inr (SqT.of hp),_,rfl,by lia,by lia,?_⟩;refine md (n:=((ys.length:Int)).toNat) (fun i zs HC=>L2.Tb Tb0 H1 HC∧L2.LamT Tb0 lp lq HC∧∃ rg:List (Nat×List Stp),zs.length≤i∧IsDs HC zs (rg.map wayQ)∧(∀ q∈rg,RK sp l q)∧rg.map (·.1)=(aQ i).filter fun k=> !(decide (k∈l))) ⟨Tb.refl H1,hT1,[],aE _,.nil,fun _ h=>rL h (by simp),rfl⟩ (fun i zs HC hi ⟨_,_,_,e2,_⟩=>e2) (dW (by lia)) (fun i zs HC hi ⟨tb,hTC,rg,lz,dz,hrk,hks⟩=>?_) (fun zs HC ⟨tb,hTC,rg,lz,dz,hrk,hks⟩ D hD=>?_)
 ·rw [gO]
  have hin:i<sp.length:=by lia
  have KC:=Tb.lamT hT1 tb;have ef:(aQ (i+1)).filter (fun k=> !(decide (k∈l)))=(aQ i).filter (fun k=> !(decide (k∈l)))++(if i∈l then [] else [i]):=by
   rw [List.range_succ,gg];congr 1;rw [dJ,List.filter_nil]
   by_cases c:i∈l
   ·rw [rJ c,rM c];rfl
   ·rw [rG c,rN c];rfl
  refine ⟨_,rfl,_,rfl,u,_,rfl,.inr (SqT.of (KC _ _ hu)),rfl,(by rw [List.all_map];exact List.all_eq_true.mpr fun _ _=>rfl),_,rfl,?_⟩;rw [inV_nat];show if (!(decide (i∈l)))=true then _ else _;rw [ef];refine ite2 (fun hc=>?_) (fun hc=>?_)
  rotate_left
  ·have c:i∈l:=by simpa using hc
   rw [rJ c,dZ];exact ⟨tb,hTC,rg,by lia,dz,hrk,hks⟩
  have c:i ∉ l:=by simpa using hc
  rw [rG c];refine ⟨_,rfl,_,rfl,.ref t,b,m,sp,i,rfl,cO KC hv1,N,hTC,hin,fun q HD l' π' pw tbD hTD dq F0' O' pm' wr=>?_⟩;have el:l'=l:=FrstL.one (m:=m.toNat) (sp:=sp) ⟨F0',π',O',pm'⟩ fr;subst el;obtain ⟨s0,s1,g0,g1⟩:=E _ (eu hin);have hlt:=(fr.pots E).nodup.2;have Pw:=WayR.pth E (by have:=N.m2;lia) hlt g0 g1 (fr.held E hin).symm wr;have KD:=Tb.lamT hTC tbD;refine ⟨tb.trans tbD,hTD,rg++[(i,⟨i,1⟩::pw)],by rw [av];show zs.length+1≤i+1;lia,?_,fun q' hq'=>?_,by rw [aB,hks];rfl⟩
  ·rw [aB]
   exact (IsDs.keepP KD dz (k3 rg fun q _=>mq _ _)).append (.cons dq .nil)
  ·rcases aN.mp hq' with z | z
   ·exact hrk q' z
   ·rw [aw.mp z];exact ⟨hin,c,pw,rfl,Pw⟩
 ·have SD:Same HC (upd HC D (.lst zs)):=Same.put (Same.refl HC) hD
  have hDH:H D=none:=by
   cases z:H D with
   | none=>rfl
   | some o =>
    by_cases e:D=Tb0
    ·subst e
     obtain ⟨ps,hps⟩:=LamT.tbl hTC;rw [hps] at hD;cases hD
    ·have:=tb D o e (tb1 D o e z)
     rw [hD] at this;cases this
  refine k D zs l rg _ (tb1.trans (tb.trans (Same.tb SD))) (LamT.same SD hTC) hDH aV (dz.same SD) ⟨fr,hrk,?_⟩;rw [hks];unfold pR;rw [cL,hl]
abbrev sOverR:cU:=top 33
abbrev sMid:cU:=top 35
abbrev sDeadL:cU:=top 36
theorem noFree {n:List (Str×cP)}{p:Str×cP→Prop}(h:(n.all fun y=>y.2 != .free)=true):∀ y∈n,y.2= .free→p y:=fun y hy e=>by
 have:=List.all_eq_true.mp h y hy;rw [e] at this;exact rL this (by decide)
theorem pi_tupK {l:Expr}(e:X.K=K)(hl:PE X l tl):PI X tg l (iTup K tl):=e ▸ iY hl
theorem scOverR:cb pzu pzu (defScope sOverR):=by trivial
theorem ok_overR (F:Fun K "rings_over" "rings_over" sOverR f fd):cW P w K mg base CX0 1 f fd pzu spOverR:=by
 refine F.ok scOverR (by contradiction) (fun cdv A outer s H vs Q E hr h=>?_);obtain ⟨u,kk,rl,rg,rfl,hu,hrs,few,hlen,k⟩:=h;have lrl:rl.length=rg.length:=by rw [hrs.length,aa]
 refine ⟨_,PSl.h (cZ ⟨(bY (iQ (fr:=["span"]) (js:=[1]) rfl (i8 (pv 0)) (by trivial) rfl (by trivial) rfl (by exists sOverR) (by trivial) rfl (by trivial) (fun _ _ _ _ _=>⟨(pv 0),(pS (cu (r:=rIn K false) op_in_seq (pv 1) (by exact (iQ (fr:=[]) (js:=[]) rfl (pi_tupK (K:=K) rfl (pv 0)) (by trivial) rfl (by trivial) rfl (noFree (by trivial)) (by trivial) rfl (by trivial) (fun _ _ _ _ _=>⟨(dG (r:=ow K) dN (pv 0) bo (fun _ _=>rfl)),ie⟩))) rfl))⟩)))⟩),?_⟩;refine ⟨_,rfl,u,rfl,⟨_,SqL.of hu⟩,?_⟩;refine kl (K:=K) (a:=u) (xs:=rl) (fun i zs HC=>Same H HC∧zs.length≤i∧IsDs HC zs (((rg.take i).filter (iK kk)).map wayQ)) ⟨Same.refl H,aE _,.nil⟩ (fun i zs HC hi ⟨S,e2,_⟩=>⟨SqL.of (S _ _ hu),e2⟩) (by rw [lrl];exact dW (by lia)) (fun i x zs HC hx ⟨S,e2,e3⟩=>?_) (fun zs HC ⟨S,e2,e3⟩ D hD=>?_)
 ·have hi:i<rg.length:=by have:=(ak.mp hx).1;lia
  obtain ⟨d,ed,dx⟩:=hrs.get hx;rw [ax,gE hi] at ed;cases ed;have dx:IsD H x (mf rg[i].2):=dx;obtain ⟨px,yx,rfl,hpx,hlx,rx⟩:=ib dx;have et:(rg.take (i+1)).filter (iK kk)=(rg.take i).filter (iK kk)++(if iK kk rg[i]=true then [rg[i]] else []):=by
   rw [bf,gE hi,gg];congr 1;show List.filter _ [rg[i]]=_;rw [dJ];rfl
  have ln:=hlen _ (bt hi);refine ⟨_,rfl,_,rfl,px,rfl,⟨_,SqT.of (S _ _ hpx)⟩,?_⟩;refine kx (K:=K) (a:=px) (xs:=yx) (fun j ws HD=>HD=HC∧ws=((rg[i].2.take j).map fun s=>V.int (s.i:Int))) ⟨rfl,rfl⟩ (fun j ws HD hj ⟨e1,e2'⟩=>⟨by rw [e1];exact SqT.of (S _ _ hpx),by rw [e2',aa,bL];lia⟩) (by rw [hlx];exact dW ln) (fun j y ws HD hy' ⟨e1,e2'⟩=>?_) (fun ws HD ⟨e1,e2'⟩ D hD=>?_)
  ·subst e1
   have hj:j<rg[i].2.length:=by have:=(ak.mp hy').1;lia
   obtain ⟨q,hq,hq2⟩:=iG rx (gE hj);rw [hy'] at hq;cases hq;refine gH ?_;refine ⟨_,rfl,q,_,_,_,rfl,rfl,SqT.of (S _ _ hq2),az (j:=0) rfl,rfl,?_⟩;rw [e2',bf,gE hj,aB];rfl
  ·subst e1
   have S1:Same HD (upd HD D (.lst ws)):=Same.put (Same.refl HD) hD;have hD1:(upd HD D (.lst ws)) D=some (.lst ws):=aV;generalize upd HD D (.lst ws)=HE at S1 hD1 ⊢;rw [hlx,aX] at e2';subst e2';refine ⟨D,_,rfl,.inl (SqL.of hD1),rfl,(by rw [List.all_map];exact List.all_eq_true.mpr fun _ _=>rfl),_,rfl,?_⟩;rw [show (rg[i].2.map fun s=>V.int (s.i:Int))=(rg[i].2.map Stp.i).map (fun (i:Nat)=>V.int i) by rw [d7];rfl,inV_nat,et];show if (decide (kk∈rg[i].2.map Stp.i))=true then _ else _;have eo:iK kk rg[i]=decide (kk∈rg[i].2.map Stp.i):=rfl;rw [eo];refine ite2 (fun c=>?_) (fun c=>?_)
   ·refine ⟨_,rfl,S.trans S1,by rw [av];show zs.length+1≤i+1;lia,?_⟩
    rw [rJ c,aB];exact (e3.same S1).append (.cons (dx.same (S.trans S1)) .nil)
   ·refine ⟨S.trans S1,by lia,?_⟩
    rw [rG c,dZ];exact e3.same S1
 ·rw [lrl,aX] at e3
  have S1:Same HC (upd HC D (.lst zs)):=Same.put (Same.refl HC) hD;refine k D zs _ (S.trans S1) (Same.free S hD) aV (e3.same S1)
theorem scMid:cb ["case","span","bound"] pzr (defScope sMid):=by trivial
theorem ok_mid (F:Fun K "middle_of" "middle_of" sMid f fd):cW P w K mg base CX0 1 f fd pzr spMid:=by
 refine F.ok scMid (by contradiction) (fun cdv A outer s H vs Q E hr h=>?_);obtain ⟨c,kk,bs,rs,rfl,hc,hk,k⟩:=h;obtain ⟨vb,u,rl,h1,h2,h3,h4⟩:=hc.ex;obtain ⟨pb,yb,rfl,hpb,hlb,rb⟩:=ib h2;obtain ⟨q,hq,hq2⟩:=iG rb (gE hk);have e0:bs.getD kk (0,0)=bs[kk]:=by rw [ai,gE hk];rfl
 refine ⟨_,PSl.h (aU ⟨(psZ 2 scMid.nd (dG dN (ixZ (pv 0)) (pv 1) (fun _ _=>rfl)))⟩
  (cZ ⟨(bY (cg op_fdiv (cg fu (ixZ (pv 2)) (ixZ (pv 2))) bo))⟩)),?_⟩
 refine ⟨_,rfl,c,_,_,_,rfl,rfl,SqT.of h1,az (j:=0) rfl,_,rfl,pb,_,_,_,rfl,rfl,SqT.of hpb,az (j:=kk) hq,?_⟩;refine ⟨_,rfl,q,_,_,_,rfl,rfl,SqT.of hq2,az (j:=0) rfl,_,rfl,q,_,_,_,rfl,rfl,SqT.of hq2,az (j:=1) rfl,_,_,rfl,rfl,_,_,rfl,rfl,⟨by decide,by decide⟩,?_⟩;rw [e0] at k;exact k
theorem scDeadL:cb ["net","case","ring"] pzk (defScope sDeadL):=by trivial
theorem ok_deadL (F:Fun K "dead_leaf" "dead_leaf" sDeadL f fd)(G1:Fn K mg "is_dead" sDead pzc f1 fd1)(F1:cW P w K mg base CX0 3 f1 fd1 pzc spDead):cW P w K mg base CX0 4 f fd pzk pB:=by
 refine F.ok scDeadL (by contradiction) (fun cdv A outer s H vs Q E hr h=>?_);obtain ⟨v,c,b,m,sp,bs,rs,rfl,hv,b0,b61,hc,few,hin,k⟩:=h;obtain ⟨vb,u,rl,h1,h2,h3,h4⟩:=hc.ex;have hr3:Room 3 _:=hr;have lrl:rl.length=rs.length:=by rw [h4.length,aa]
 refine ⟨_,PSl.h (aU ⟨(gk bz rfl (i8 (ixZ (pv 1))) (pgZ 2 scDeadL.nd) (cj (fU (gj (pc1 G1 F1 hr3 (ag (pv 0) (ag (ixZ (pv 1)) (ag (pv 2) aC))))) (cj (bY (eC (ag kf (ag (pv 2) aC))))) cX)))⟩
  (cZ ⟨(bY iJ)⟩)),?_⟩
 refine ⟨_,rfl,c,_,_,_,rfl,rfl,SqT.of h1,az (j:=1) rfl,u,rfl,⟨_,SqL.of h3⟩,?_⟩;refine k7 (K:=K) (a:=u) (xs:=rl) (fun i σ H1=>Same H H1∧(∀ q∈rs.take i,jH b bs q.2=false)∧∃ v2,σ=[some v,some (.ref c),v2]) ⟨Same.refl H,fun _ h=>rL h (by simp),none,rfl⟩ (fun i σ H1 _ ⟨S,_⟩=>SqL.of (S _ _ h3)) ?_ ?_
 ·rintro i x σ H1 hx ⟨S1,hal,v2,rfl⟩
  have hi:i<rs.length:=by have:=(ak.mp hx).1;lia
  obtain ⟨d,ed,dx⟩:=h4.get hx;rw [ax,gE hi] at ed;cases ed;have dx:IsD H x (mf rs[i].2):=dx;refine ⟨_,rfl,_,rfl,c,_,_,_,rfl,rfl,SqT.of (S1 _ _ h1),az (j:=0) rfl,_,rfl,v,vb,x,b,m,sp,bs,rs[i].2,rfl,hv.same S1,b0,b61,h2.same S1,dx.same S1,hin _ (bt hi),fun H2 S2=>⟨_,rfl,ite2 (fun hc=>?_) (fun hc=>?_)⟩⟩
  ·refine ⟨_,rfl,mN,fun q3 H3 S3 h3'=>?_⟩
   exact k (.ref q3) H3 (S1.trans (S2.trans S3)) (.inr ⟨rs[i],bt hi,.tup h3' (.cons (.str _) (.cons (dx.same (S1.trans (S2.trans S3))) .nil)),hc⟩)
  ·refine ⟨S1.trans S2,fun q hq=>?_,_,rfl⟩
   rw [bf,gE hi] at hq
   rcases aN.mp hq with z | z
   ·exact hal q z
   ·rw [aw.mp z];exact iC.mpr hc
 ·rintro σ H1 ⟨S1,hal,v2,rfl⟩
  rw [lrl,aX] at hal;exact k .non H1 S1 (.inl ⟨rfl,hal⟩)
def ftS (sp:List Sn)(s:Stp):List Int:=[lH sp s,fF sp s]
theorem along_get {sp:List Sn}:∀ {ws:List Stp} {x y:Int},Along sp x ws y→(∀ (h:0<ws.length),lH sp ws[0]=x)∧(∀ (h:0<ws.length),fF sp (ws[ws.length - 1]'(by omega))=y)∧∀ i (h:i+1<ws.length),fF sp ws[i]=lH sp ws[i+1]
 | [],_,_,_=>⟨fun h=>rL h (by simp),fun h=>rL h (by simp),fun i h=>rL h (by simp)⟩
 | [s],x,y,⟨a,b⟩=>⟨fun _=>a,fun _=>b,fun i h=>rL h (by simp)⟩
 | s::s'::ws,x,y,⟨a,b⟩=>by
  obtain ⟨f,l,n⟩:=along_get (ws:=s'::ws) b;refine ⟨fun _=>a,fun _=>?_,fun i h=>?_⟩
  ·have:=l (by simp)
   simpa using this
  ·cases i with
   | zero=>exact (f (by simp)).symm
   | succ i=>exact n i (by simpa using h)
theorem ft_of {s:Stp}(h:s.i<sp.length)(d:s.d=1∨s.d= -1):(if s.d=1 then [V.int sp[s.i].s,V.int sp[s.i].g] else [V.int sp[s.i].s,V.int sp[s.i].g].reverse)=(ftS sp s).map V.int:=by
 unfold ftS lH fF;rw [gE h]
 rcases d with e | e
 ·rw [rJ e];show _=[V.int (frm _ _),V.int (too _ _)];unfold frm too;rw [rJ e,rJ e]
 ·rw [rG (by lia)];show _=[V.int (frm _ _),V.int (too _ _)];unfold frm too;rw [rG (by lia),rG (by lia)];rfl
inductive spLed (vs:List V)(H:Hp)(Q:VK)(_:XK):Prop
 | mk (v r:V)(b m:Int)(sp:List Sn)(ws:List Stp)(_:vs=[v,r])(_:IsD H v (kg b m sp))(_:sp.length≤40)(_:IsD H r (mf ws))(_:Rg sp ws)(_:∀ H',Same H H'→Q (.bl true) H')
def qR (b:Int)(sp:List Sn)(bs:List (Int×Int))(d:Dt):Prop:=∃ p:List Stp,d=leafP (.ring p)∧Rg sp p∧jH b bs p=true
theorem l9 (p:List Stp):mL (leafP (.ring p)):=⟨by show (true && (pl (mf p) && true))=true;rw [show pl (mf p)=true from mq _ _];rfl,"ring",mf p,rfl,by decide⟩
theorem rdead_leafW (bs:List (Int×Int))(d:Dt)(h:qR b sp bs d):mL d:=by
 obtain ⟨p,rfl,_⟩:=h;exact l9 p
def StayT (T0 T1:ao)(H H':Hp):Prop:=∀ a o,a≠T0→a≠T1→H a=some o→H' a=some o
theorem StayT.trans (a:StayT T0 T1 H H1)(b:StayT T0 T1 H1 H2):StayT T0 T1 H H2:=fun x o n0 n1 e=>b x o n0 n1 (a x o n0 n1 e)
theorem Same.stayT (a:Same H H'):StayT T0 T1 H H':=fun x o _ _ e=>a x o e
inductive oQ (v:V)(b m:Int)(sp:List Sn)(R:List (Int×Int)→Dt→Prop)(vs:List V)(H:Hp)(Q:VK)(_:XK):Prop
 | mk (l:List Nat)(rg:List (Nat×List Stp))(q:ao)(c:Cse)(_:vs=[.ref q])(_:FR m sp l rg)(_:CsD H q c.1 c.2)(_:CaseOk b sp l rg c)(_:IsD H v (kg b m sp))(_:∀ r H',Same H H'→((∃ d,IsD H' r d∧mL d∧R c.1 d)∨(r= .non∧(∀ z∈c.2,jH b c.1 z.2=false)∧∃ k∈l,(c.1.getD k (0,0)).1<(c.1.getD k (0,0)).2))→Q r H')
inductive oN (P:aY)(w:bE)(K:aq)(mg:Str→Option ae)(base:bP)(T0:ao)(p0:Pos)(q0:Str)(T1:ao)(p1:Pos)(q1:Str)(vs:List V)(H:Hp)(Q:VK)(_:XK):Prop
 | mk (v:V)(g:ao)(b m:Int)(sp:List Sn)(R:List (Int×Int)→Dt→Prop)(_:vs=[v,.ref g])(_:IsD H v (kg b m sp))(_:NetT b m sp)(_:(∀ l,FrstL m.toNat sp l→jE sp l≤4096))(_:L2.LamT T0 p0 q0 H)(_:L2.LamT T1 p1 q1 H)(_:LmOk P w K mg base 6 g (StayT T0 T1 H) (oQ v b m sp R))(_:∀ (u:V) (t:Tq) (H':Hp),StayT T0 T1 H H'→Kp H H'→L2.LamT T0 p0 q0 H'→L2.LamT T1 p1 q1 H'→IsD H' u (jk t)→pl (jk t)=true→qS R t (sp.map fun z=>(z.l,z.o)) 21→Q u H')
section
variable {m:Int}{rg:List (Nat×List Stp)}{cs:List Cse}{c:Cse}
theorem sz_cut (f:FF m sp l rg)(lrg:rg.length≤40)(C:CaseOk b sp l rg c)(al:∀ q∈c.2,jH b c.1 q.2=false){k:Nat}{a:Int}(hk:k∈l)(h1:(c.1.getD k (0,0)).1≤a)(h2:a<(c.1.getD k (0,0)).2)(hc:∀ d∈cs,CaseOk b sp l rg d) :
  (∀ d∈cs++[(fk c.1 k a,rg.filter (iK k)),(lG c.1 k a,rg.filter (iK k))],CaseOk b sp l rg d)∧szC l (cs++[(fk c.1 k a,rg.filter (iK k)),(lG c.1 k a,rg.filter (iK k))])<szC l (cs++[c])∧2≤fN c.1 l:=by
 have ht2:=f.acy.nodup.2;obtain ⟨o1,o2⟩:=C.cut lrg ht2 al hk h1 h2;have p1:0<fN (fk c.1 k a) l:=i7 o1.ob ht2;have p2:0<fN (lG c.1 k a) l:=i7 o2.ob ht2;have e:=mm C.ob f.acy.nodup.1 ht2 hk h1 h2;refine ⟨fun d hd=>?_,?_,by lia⟩
 ·rcases aN.mp hd with z | z
  ·exact hc d z
  ·rcases aG.mp z with rfl | z
   ·exact o1
   ·rw [aw.mp z];exact o2
 ·rw [mh,mh]
  show _+((2 * fN (fk c.1 k a) l - 1)+((2 * fN (lG c.1 k a) l - 1)+0))<_+((2 * fN c.1 l - 1)+0);lia
theorem sz_less (f:FF m sp l rg)(C:CaseOk b sp l rg c):szC l cs<szC l (cs++[c]):=by
 have:=i7 C.ob f.acy.nodup.2;rw [mh];show _<_+((2 * fN c.1 l - 1)+0);lia
end
theorem pls_appT:∀ (xs ys:List Dt),pls (xs++ys)=(pls xs && pls ys)
 | [],ys=>by show pls ys=(true && pls ys);rw [Bool.true_and]
 | x::xs,ys=>by
  show (pl x && pls (xs++ys))=((pl x && pls xs) && pls ys);rw [pls_appT xs ys,Bool.and_assoc]
theorem LmOk.mono {k:Nat}{sp:Sp}(L:LmOk P w K mg base j f Hf sp)(h:j≤k):LmOk P w K mg base k f Hf sp:=⟨L.isFn,fun A outer s H u v Q hr=>L.run A outer s H u v Q (hr.mono h)⟩
theorem pl_pre:∀ (t:Tq),(∀ d,Mrk.leaf d∈pre t→mL d)→pl (jk t)=true
 | .leaf d,h=>(h d (by simp [pre])).1
 | .cut k a x y,h=>pl_cut (pl_pre x fun d hd=>h d (by simp [pre,hd])) (pl_pre y fun d hd=>h d (by simp [pre,hd]))
end HN
namespace L2
open PySem PySem.W PySem.Spec PyProof.Rows
def LamG (P:ao)(q:Str)(H:Hp):Prop:=∃ l:List (Pos×ao),H P=some (.tbl (triples l).toArray)∧∀ e∈l,CdK q H e.2
theorem LamG.tbl {P:ao}(k:LamG P q H):∃ ps,H P=some (.tbl ps):=let ⟨_,e,_⟩:=k;⟨_,e⟩
theorem LamG.nil {P:ao}(e:H P=some (.tbl #[])):LamG P q H:=⟨[],e,fun _ h=>rL h (by simp)⟩
theorem CdK.ne {P c:ao}{ps:Array ae}(k:CdK q H c)(e:H P=some (.tbl ps)):c≠P:=fun z=>by
 obtain ⟨oc,vs,t,e2,_⟩:=k;rw [z,e] at e2;cases e2
theorem LamG.stay {P:ao}(k:LamG P q H)(hT:∀ ps,H P=some (.tbl ps)→H' P=some (.tbl ps))(hf:∀ a o u,H a=some (.frz o u)→H' a=some (.frz o u)):LamG P q H':=by
 obtain ⟨l,e,r⟩:=k;refine ⟨l,hT _ e,fun x hx=>?_⟩;obtain ⟨oc,vs,t,e2,z⟩:=r x hx;exact ⟨oc,vs,t,hf _ _ _ e2,z⟩
theorem LamG.same {P:ao}(a:Same H H')(k:LamG P q H):LamG P q H':=k.stay (fun _ e=>a _ _ e) fun _ _ _ e=>a _ _ e
theorem nU:∀ l:List (Pos×ao),TriplesOk (triples l)
 | []=>trivial
 | (p,c)::r=>nU r
theorem pe {pos:Pos}:∀ {l:List (Pos×ao)} {cv:ae},codeAmong pos (triples l)=some cv→∃ e∈l,cv= .ref e.2
 | [],cv,h=>by cases h
 | (p,c)::r,cv,h=>by
  have h:(if (((p.line:Nat):Int) == ((pos.line:Nat):Int) && ((p.col:Nat):Int) == ((pos.col:Nat):Int))=true then some (ae.ref c) else codeAmong pos (triples r))=some cv:=h;split at h
  ·cases h;exact ⟨(p,c),by simp,rfl⟩
  ·obtain ⟨e,he,z⟩:=pe h
   exact ⟨e,by simp [he],z⟩
section
variable {σ:List (Option V)}
theorem lam_makeG {c P:ao}(I:Inv X aP σ H s)(hd:defaultsOf params X.env=([],[]))(my:X.env.code= .ref c)(C:codeHdIn X.K c P=true)(B:BM X.mg X.base)
  (hfr:∀ y∈scope.names,y.2= .free→X.env.scope.names.lookup y.1=some .cell) (T:LamG P (X.env.qual ++ "<lambda>") H)
  (h:∀ f cl H' s',Inv X aP σ H' s'→Tb P H H'→LamG P (X.env.qual ++ "<lambda>") H'→LamF (X.env.qual ++ "<lambda>") params body scope cl f H'→(∀ x c,cl.lookup x=some c→X.env.cells.lookup x=some c)→(∀ y∈scope.names,y.2= .free→cl.lookup y.1=X.env.cells.lookup y.1)→Q (.ref f) s') :
  aW (bx X.prog X.w) X.A (eP (.Lambda params body scope pos) X.env) Q X.xe s:=by
 obtain ⟨cl,hclos,c1,c2⟩:=mG (scope:=scope) (env:=X.env) fun y hy hk=>I.ok.has _ (.inl (hfr y hy hk))
 refine kla_eval hd ?_;have hgs:s.heap.Ns bU X.mg:=I.mod.glob.keeps I.bk;obtain ⟨bm,ob,b1,b2,b3,b4,b5⟩:=B;have CH:CodeHd s.heap c P:=codeHd_of_K I.kIn C;obtain ⟨l,hP,K⟩:=T;have hbP:bm≠P:=fun q=>by have z:=(I.bs bm ob b4).2;rw [q,hP] at z;cases z
 have hgP:bU≠P:=fun q=>by
  obtain ⟨o,es,ep,e,_⟩:=I.mod.glob;have z:=(I.bs _ o e).2;rw [q,hP] at z;cases z
 have hBA:s.heap.BuiltinsAt X.mg P:=⟨bm,ob,b1,b2,b3,hbP,I.bk _ _ b4,b5⟩;have fin:∀ (H1:Hp) (h1:bP) (tk:Nat) (c':ao) (ctv:ae),Inv X aP σ H1 { s with heap:=h1,toks:=tk }→Tb P H H1→LamG P (X.env.qual ++ "<lambda>") H1→CdK (X.env.qual ++ "<lambda>") H1 c' →
   Q (.ref h1.objs.size) { s with heap:=h1.push (kla_obj "<lambda>" (X.env.qual ++ "<lambda>") params body scope cl ((X.mg "__name__").getD .none) c' ctv),toks:=tk }:=fun H1 h1 tk c' ctv I1 t1 T1 K1=>by
  have fr:H1 h1.objs.size=none:=I1.hok.fresh (aE _);have S:Same H1 (upd H1 h1.objs.size (.frz (kla_obj "<lambda>" (X.env.qual ++ "<lambda>") params body scope cl ((X.mg "__name__").getD .none) c' ctv) (.own 0))):=fun a o e=>by rw [bC (bH e fr)];exact e
  have I2:=I1.laid (t':=tk) (a:=h1.objs.size) (o:= .frz (kla_obj "<lambda>" (X.env.qual ++ "<lambda>") params body scope cl ((X.mg "__name__").getD .none) c' ctv) (.own 0)) (h':=h1.push (kla_obj "<lambda>" (X.env.qual ++ "<lambda>") params body scope cl ((X.mg "__name__").getD .none) c' ctv)) (fun b u e=>ar _ e) (aE _) ⟨bg _ rfl,_,bg _ rfl⟩;obtain ⟨oc,vs,t,e,r⟩:=K1;exact h _ cl _ _ I2 (t1.trans S.tb) (T1.same S) ⟨_,c',ctv,aV,oc,vs,t,S _ _ e,r⟩ c1 c2
 have hPh:s.heap.get? P=some (tabObj (triples l).toArray):=I.hok P _ hP;cases hq:codeAmong pos (triples l) with
 | none =>
  refine kla_makeFunction (mg:=X.mg) hclos I.ok.glob hgs my CH hPh (by rw [fm];exact nU l) (by rw [fm];exact hq) hgP hBA fun c' ctv h' tk hx hge hlt hrec htb=>?_
  have I1:=I.grown (tk:=tk) hP hx htb;obtain ⟨c2',oc,vs,t,e2,hoc,hdd,hv⟩:=hrec;cases e2;have Plt:P<s.heap.objs.size:=aO hPh;have ncP:c'≠P:=dv (aS Plt hge);have frc:H c'=none:=I.hok.fresh hge;have hn1:(upd H P (.tbl ((triples l).toArray++ #[rawInt pos.line,rawInt pos.col,.ref c']))) c'=none:=by rw [bC ncP];exact frc
  have old:∀ b o,s.heap.get? b=some o→b≠c':=fun b o e=>bQ (aS (aO e) hge)
  have I2:=I1.take (D:=c') (o:= .frz oc (.own 0)) hn1 (bh I.sz hge) (dv (aS I.lt hge)) (fun x d e=>by obtain ⟨v,o,ho,_⟩:=I.cell x d e;exact old d o ho) (fun p hp=>old _ _ (I.pin p hp).1) ⟨hoc,_,hoc⟩;have tb:Tb P H (upd (upd H P (.tbl ((triples l).toArray++ #[rawInt pos.line,rawInt pos.col,.ref c']))) c' (.frz oc (.own 0))):=fun a o hn e=>by
   rw [bC (bH e frc),bC hn];exact e
  refine fin _ h' tk c' ctv I2 tb ⟨l++[(pos,c')],?_,fun x hx=>?_⟩ ⟨oc,vs,t,aV,hdd,hv⟩
  ·rw [bC (cN ncP),aV,triples_append]
   congr 2
   apply Array.toList_inj.mp
   simp
  ·rcases aN.mp hx with hx | hx
   ·exact (K x hx).tb tb ((K x hx).ne hP)
   ·rw [aw.mp hx]
    exact ⟨oc,vs,t,aV,hdd,hv⟩
 | some cv =>
  obtain ⟨e,he,rfl⟩:=pe hq;refine kla_makeFunctionHit (cv:= .ref e.2) (mg:=X.mg) hclos I.ok.glob hgs my CH hPh (by rw [fm];exact nU l) (by rw [fm];exact hq) hBA fun ctv h' tk hk hsz=>?_
  exact fin H h' tk e.2 ctv (I.kept hk) (Tb.refl H) ⟨l,hP,K⟩ (K e he)
def tLambG (env:Env)(T:ao)(params:fE)(body:Expr)(scope:fH):TE:=fun _ H Q=>LamG T (env.qual ++ "<lambda>") H∧∀ g cl H',Tb T H H'→LamG T (env.qual ++ "<lambda>") H'→LamF (env.qual ++ "<lambda>") params body scope cl g H'→LamE env scope cl→Q (.ref g) H'
theorem pe_lamG {c T:ao}(hd:defaultsOf params X.env=([],[]))(my:X.env.code= .ref c)(C:codeHdIn X.K c T=true)(B:BM X.mg X.base)
  (hfr:∀ y∈scope.names,y.2= .free→X.env.scope.names.lookup y.1=some .cell):PE X (.Lambda params body scope pos) (tLambG X.env T params body scope):=fun _ _ _ _ _ I ⟨L,h⟩ =>
 lam_makeG I hd my C B hfr L fun f cl H' _ I' t1 T1 F c1 c2=>⟨.ref f,H',I',rfl,h f cl H' t1 T1 F ⟨c1,c2⟩⟩
theorem Inv.repinE {o o':Obj}(I:Inv X ((kS,o)::aP) σ H s)(hs0:X.s₀.heap.objs.size≤kS)(hC:∀ x c,X.env.cells.lookup x=some c→c≠kS)(hP:∀ p∈X.pn++aP,p.1≠kS)(k:∀ b o,b≠kS→s.heap.get? b=some o→h'.get? b=some o)(ho':h'.get? kS=some o')(hd:∀ v,o'.data≠ .cell v):Inv X ((kS,o')::aP) σ H { s with heap:=h',toks:=t' }:=by
 obtain ⟨p1,p2,p3,p4,_⟩:=I.pin (kS,o) (aA _ (bw ..));have I2:=I.unpin.turned (t':=t') (it:=kS) (h':=h') k p2 p3 (.inr hs0) hC hP;refine I2.pins_of fun p hp=>?_
 rcases aG.mp hp with rfl | hp
 ·exact ⟨ho',p2,p3,p4,hd⟩
 ·exact I2.pin p (aA _ hp)
theorem Inv.swap {p q:ao×Obj}(I:Inv X (p::q::aP) σ H s):Inv X (q::p::aP) σ H s:=I.pins_of fun z hz=>by
 refine I.pin z (aA _ ?_)
 rcases aG.mp hz with rfl | hz
 ·simp
 ·rcases aG.mp hz with rfl | hz
  ·simp
  ·simp [hz]
end
def jK (key:Nat→Int):Nat→Nat:=argBest fun i j=>decide (key i<key j)
theorem best_ok (key:Nat→Int):∀ n,jK key n≤n∧∀ j,j≤n→key (jK key n)≤key j
 | 0=>⟨aE 0,fun j hj=>by rw [Nat.le_zero.mp hj];exact eI _⟩
 | n+1=>by
  obtain ⟨h1,h2⟩:=best_ok key n;have e:jK key (n+1)=if decide (key (n+1)<key (jK key n))=true then n+1 else jK key n:=rfl;rw [e]
  by_cases c:key (n+1)<key (jK key n)
  ·rw [rJ (rM c)]
   refine ⟨aE _,fun j hj=>?_⟩
   by_cases z:j=n+1
   ·rw [z];exact eI _
   ·have:=h2 j (by lia);lia
  ·rw [rG (by rw [rN c];exact aR)]
   refine ⟨by lia,fun j hj=>?_⟩
   by_cases z:j=n+1
   ·rw [z];lia
   ·exact h2 j (by lia)
section
variable {σ:List (Option V)}
def KeyI (X:Cx)(σ:List (Option V))(H:Hp)(f:ae)(vs:List V)(key:Nat→Int):Prop :=
 ∀ (t:au) (H':Hp) (pins':List (ao×Obj)) (i:Nat) (v:V) (u:ae),vs[i]? =some v→RelV v u→Inv X pins' σ H' t→Same H H'→aW (bx X.prog X.w) X.A.in1 (call f [u]) (fun k t'=>∃ H'' tk,Inv X pins' σ H'' t'∧Same H' H''∧k= .int (key i) tk) (fun _ _=>False) t
structure Two (X:Cx)(aP:List (ao×Obj))(It S:ao):Prop where
 i0:X.s₀.heap.objs.size≤It
 s0:X.s₀.heap.objs.size≤S
 ic:∀ x c,X.env.cells.lookup x=some c→c≠It
 sc:∀ x c,X.env.cells.lookup x=some c→c≠S
 ip:∀ p∈X.pn++aP,p.1≠It
 sp:∀ p∈X.pn++aP,p.1≠S
 ne:It≠S
theorem Two.ipS {It S:ao}(T:Two X aP It S)(o:Obj):∀ p∈X.pn++((S,o)::aP),p.1≠It:=fun p hp=>by
 rcases aN.mp hp with hp | hp
 ·exact T.ip p (aM _ hp)
 ·rcases aG.mp hp with rfl | hp
  ·exact cN T.ne
  ·exact T.ip p (aA _ hp)
theorem Two.spI {It S:ao}(T:Two X aP It S)(o:Obj):∀ p∈X.pn++((It,o)::aP),p.1≠S:=fun p hp=>by
 rcases aN.mp hp with hp | hp
 ·exact T.sp p (aM _ hp)
 ·rcases aG.mp hp with rfl | hp
  ·exact T.ne
  ·exact T.sp p (aA _ hp)
theorem min_next {It S L:ao}{oS:Obj}{vs:List V}{Q:Option ae→au→Prop}(hh:A.handled=none)(T:Two X aP It S)(I:Inv X ((It,oI)::(S,oS)::aP) σ H s)(hL:H L=some (.lst vs))(hI:oI.cls= .type "list_iterator" ∧oI.data= .fields #[.ref L,.int j 0])
  (hit:∀ v u oI' s',vs[j]? =some v→RelV v u→Inv X ((It,oI')::(S,oS)::aP) σ H s'→oI'.cls= .type "list_iterator" ∧oI'.data= .fields #[.ref L,.int ((j+1:Nat):Int) 0]→Q (some u) s')
  (hend:∀ s',j=vs.length→Inv X ((S,oS)::aP) σ H s'→Q none s') (hj:j≤vs.length):aW (bx X.prog X.w) A (pyNext (.ref It)) Q E s:=by
 obtain ⟨its,rv,⟨o,n,ho,hcl,_,hd⟩,_⟩:=I.list (SqL.of hL);have gI:=(I.pin (It,oI) (aA _ (bw ..))).1;have hLI:L≠It:=fun z=>by have:=(I.pin (It,oI) (aA _ (bw ..))).2.1;rw [←z,hL] at this;cases this
 have st:s.heap.IsListIter It L j∧s.heap.IsList L its.toArray:=⟨⟨oI,gI,hI.1,hI.2⟩,⟨o,ho,hcl,n,hd⟩⟩;have W:=Walks.list (prog:=X.prog) (w:=X.w) (A:=A) hh It L hLI its.toArray;have lz:its.length=vs.length:=rv.length.symm
 by_cases e:j=vs.length
 ·refine W.done s _ _ (by rw [aJ,lz,←e];exact st) fun h' tk hk=>hend _ e ?_
  have:=I.unpin.turned (t':=tk) (it:=It) (h':=h') (fun b o hb e=>hk b o (by simp [hb]) e) (I.pin (It,oI) (aA _ (bw ..))).2.1 (I.pin (It,oI) (aA _ (bw ..))).2.2.1 (.inr T.i0) T.ic (T.ipS oS);exact this
 ·refine W.item j s _ _ (by rw [aJ];lia) st fun u h' tk hu st' hk=>?_
  obtain ⟨oI',gI',c1,c2⟩:=st'.1;have hu:its[j]? =some u:=by simpa using hu
  have hv:vs[j]? =some (vs[j]'(by lia)):=gE _;refine hit vs[j] u oI' _ hv ?_ (I.repinE T.i0 T.ic (T.ipS oS) (fun b o hb e=>hk b o (by simp [hb]) e) gI' (fun v z=>by rw [c2] at z;cases z)) ⟨c1,c2⟩;obtain ⟨u',hu',ru⟩:=Vals.get rv hv;rw [hu] at hu';cases hu';exact ru
end
theorem mJ {id:String}{b:fX}{args:List ae}(hk:builtinKind id=none)(hp:plainId id=true)
  (hb:entryFor table id=some b) (ha:argsOk id ⟨args,kw⟩)
  (hfin:aW (bx prog w) A.in1 (b ⟨args,kw⟩) (fun fin s'=>match fin with
   | .done f=>(match (Except.ok f:Result) with | .ok (.ret v)=>Q v s' | .ok _=>False | .error e=>E e s')
   | .again c'=>c'.quiet=true∧jq (bx prog w) A c' (fun r s'=>match r with | .ok (.ret v)=>Q v s' | .ok _=>False | .error e=>E e s') s') E s):aW (bx prog w) A (call (.builtin id) args kw) Q E s:=by
 refine wpAny_call (codeAny_call_builtin hp hb ?_);simp only [checkBuiltinCall,hk];cases hsig:Manifest.signature? id with
 | none=>exact aL hfin
 | some sig =>
  have ha':Bind.checkArgs id sig ⟨args,kw⟩=fM ():=by simpa only [argsOk,hsig] using ha
  simp only [ha'];exact aL hfin
section
variable {σ:List (Option V)}
theorem Inv.pin1 {p:ao×Obj}(I:Inv X (p::aP) σ H s):s.heap.get? p.1=some p.2:=(I.pin p (aA _ (bw ..))).1
theorem Inv.pin2 {p q:ao×Obj}(I:Inv X (p::q::aP) σ H s):s.heap.get? q.1=some q.2:=I.unpin.pin1
theorem min_put {It S:ao}{xs:Array ae}{c:Nat}(T:Two X aP It S)(I:Inv X ((It,oI)::(S,bT "list" xs c)::aP) σ H s)(ys:Array ae):∃ c',Inv X ((It,oI)::(S,bT "list" ys c')::aP) σ H { s with heap:=s.heap.update S (cV fun _=>ys) }:=by
 have hS:=I.pin2;obtain ⟨c',hc'⟩:∃ c',(s.heap.update S (cV fun _=>ys)).get? S=some (bT "list" ys c'):=⟨_,gQ hS fun _=>ys⟩;exact ⟨c',(I.swap.repinE (t':=s.toks) T.s0 T.sc (T.spI oI) (fun b o hb e=>(jx _ _ (cN hb)).trans e) hc' (fun v z=>by cases z)).swap⟩
theorem min_loop {It S L g:ao}{vs:List V}(T:Two X aP It S)(hh:X.A.handled=none)(hkey:KeyI X σ H (.ref g) vs key)(hL:H L=some (.lst vs))
  (fin:∀ v u H' s',vs[jK key (vs.length - 1)]? =some v→RelV v u→Same H H'→Inv X aP σ H' s'→R (.ok (.ret u)) s') :
  ∀ (k j:Nat) (s:au) (H':Hp) (v:V) (vb:ae) (tb:Tok) (c:Nat) (oI:Obj),vs.length - (j+1)=k→j+1≤vs.length→Same H H'→Inv X ((It,oI)::(S,bT "list" #[vb,.int (key (jK key j)) tb] c)::aP) σ H' s →
   oI.cls= .type "list_iterator" ∧oI.data= .fields #[.ref L,.int ((j+1:Nat):Int) 0]→vs[jK key j]? =some v→RelV v vb→jq (bx X.prog X.w) X.A (.builtin "min.loop" ⟨[.ref It,.ref g,.ref S],[]⟩) R s:=by
 have hname:(toString "min" ++ toString ".loop" :String) = "min.loop" := by decide
 intro k
 induction k with
 | zero =>
  intro j s H' v vb tb c oI hk hj S' I hI hv rv;have hin:j+1=vs.length:=by lia
  have hS:=I.pin2;refine kK F.entry_min_loop ?_;rw [bZ.under_plainId g6 _];show aW _ X.A.in1 (seqItems? (.ref S) >>= _) _ _ s;refine ah (fT hS rfl ?_);show aW _ X.A.in1 (tryCatch (pyNext (.ref It)) _ >>= _) _ _ s;refine ah (jU (min_next (A:=X.A.in1) (j:=j+1) hh T I (S' _ _ hL) hI (fun v2 u2 _ _ z=>rL (ak.mp z).1 (by lia)) (fun s' _ I'=>?_) (by lia)));have hS':=I'.pin1;show aW _ X.A.in1 (updateSeq S (fun _=> #[]) >>= _) _ _ _;refine ah ?_;refine wpAny_updateSeq hS' rfl (ah (ky (aL ?_)));have I2:=(I'.repinE (t':=s'.toks) T.s0 T.sc T.sp (h':=s'.heap.update S (cV fun _=> #[])) (fun b o hb e=>(jx _ _ (cN hb)).trans e) (gQ hS' fun _=> #[]) (fun v z=>by cases z)).unpin;exact fin v vb H' _ (by rw [←hin];exact hv) rv S' I2
 | succ k ih =>
  intro j s H' v vb tb c oI hk hj S' I hI hv rv;have hlt:j+1<vs.length:=by lia
  have hS:=I.pin2;refine kK F.entry_min_loop ?_;rw [bZ.under_plainId g6 _];show aW _ X.A.in1 (seqItems? (.ref S) >>= _) _ _ s;refine ah (fT hS rfl ?_);show aW _ X.A.in1 (tryCatch (pyNext (.ref It)) _ >>= _) _ _ s;refine ah (jU (min_next (A:=X.A.in1) (j:=j+1) hh T I (S' _ _ hL) hI (fun v2 u2 oI2 s2 hv2 ru2 I2 hI2=>?_) (fun s' z _=>rL z (by lia)) (by lia)));show aW _ X.A.in1 (tryCatch (holding [u2] (call (.ref g) [u2])) _ >>= _) _ _ _;refine ah (jU (dQ (cx (hkey _ H' _ (j+1) v2 u2 hv2 ru2 I2 S') (fun kv s3 hk3=>?_) fun _ _ z=>z.elim)));obtain ⟨H3,tk,I3,S3,rfl⟩:=hk3;have hS3:=I3.pin2;show aW _ X.A.in1 (tryCatch (holding [u2,.int (key (j+1)) tk] (richCompare .Lt (.int (key (j+1)) tk) (.int (key (jK key j)) tb) >>= _)) _ >>= _) _ _ _;refine ah (jU (dQ (ah (CmpOf.ints_lt (P:=fun i v=>∃ t,v= .int (key i) t) key (fun _ _ z=>z) (j+1) (jK key j) _ _ _ _ _ ⟨tk,rfl⟩ ⟨tb,rfl⟩ ?_))));refine ah (dQ (fW ?_));refine ah (ky (aL ?_));have eb:jK key (j+1)=if decide (key (j+1)<key (jK key j))=true then j+1 else jK key j:=rfl;cases hb:decide (key (j+1)<key (jK key j)) with
  | true =>
   rw [hb,rJ rfl] at eb;rw [rJ hb];refine ah ?_;refine wpAny_updateSeq hS3 rfl (ah (ky ?_));rw [hname];obtain ⟨c',I4⟩:=min_put T I3 #[u2,.int (key (j+1)) tk];refine aL ⟨plainId_quiet g6 _,ih (j+1) _ H3 v2 u2 tk c' oI2 (by lia) hlt (S'.trans S3) (by rw [eb];exact I4) hI2 (by rw [eb];exact hv2) ru2⟩
  | false =>
   rw [hb,rG aR] at eb;rw [rG (fun z=>aR (hb.symm.trans z))];refine ah (ky ?_);rw [hname];exact aL ⟨plainId_quiet g6 _,ih (j+1) _ H3 v vb tb c oI2 (by lia) hlt (S'.trans S3) (by rw [eb];exact I3) hI2 (by rw [eb];exact hv) rv⟩
theorem min_first {It S L g:ao}{vs:List V}(T:Two X aP It S)(hh:X.A.handled=none)(hkey:KeyI X σ H (.ref g) vs key)(hL:H L=some (.lst vs))(hne:vs≠[])
  (fin:∀ v u H' s',vs[jK key (vs.length - 1)]? =some v→RelV v u→Same H H'→Inv X aP σ H' s'→R (.ok (.ret u)) s')
  {c:Nat} (I:Inv X ((It,oI)::(S,bT "list" #[] c)::aP) σ H s) (hI:oI.cls= .type "list_iterator" ∧oI.data= .fields #[.ref L,.int ((0:Nat):Int) 0]):jq (bx X.prog X.w) X.A (.builtin "min.loop" ⟨[.ref It,.ref g,.ref S],[]⟩) R s:=by
 have hname:(toString "min" ++ toString ".loop" :String) = "min.loop" := by decide
 have hlt:0<vs.length:=nQ.mpr hne;have hS:=I.pin2;refine kK F.entry_min_loop ?_;rw [bZ.under_plainId g6 _];show aW _ X.A.in1 (seqItems? (.ref S) >>= _) _ _ s;refine ah (fT hS rfl ?_);show aW _ X.A.in1 (tryCatch (pyNext (.ref It)) _ >>= _) _ _ s;refine ah (jU (min_next (A:=X.A.in1) (j:=0) hh T I hL hI (fun v2 u2 oI2 s2 hv2 ru2 I2 hI2=>?_) (fun s' z _=>rL z (by lia)) (by lia)));show aW _ X.A.in1 (tryCatch (holding [u2] (call (.ref g) [u2])) _ >>= _) _ _ _;refine ah (jU (dQ (cx (hkey _ H _ 0 v2 u2 hv2 ru2 I2 (Same.refl H)) (fun kv s3 hk3=>?_) fun _ _ z=>z.elim)));obtain ⟨H3,tk,I3,S3,rfl⟩:=hk3;have hS3:=I3.pin2;show aW _ X.A.in1 (updateSeq S (fun _=> #[u2,.int (key 0) tk]) >>= _) _ _ _;refine ah ?_;refine wpAny_updateSeq hS3 rfl ?_;rw [hname];obtain ⟨c',I4⟩:=min_put T I3 #[u2,.int (key 0) tk];exact aL ⟨plainId_quiet g6 _,min_loop T hh hkey hL fin _ 0 _ H3 v2 u2 tk c' oI2 rfl hlt S3 I4 hI2 hv2 ru2⟩
theorem args_minK (a g:ae):argsOk "min" ⟨[a],[(df "key",g)]⟩:=by unfold argsOk;kernel_rfl
theorem call_minK {L g:ao}{vs:List V}(I:Inv X aP σ H s)(hh:X.A.handled=none)(hkey:KeyI X σ H (.ref g) vs key)(hL:H L=some (.lst vs))(hne:vs≠[])
  (fin:∀ v u H' s',vs[jK key (vs.length - 1)]? =some v→RelV v u→Same H H'→Inv X aP σ H' s'→Q u s'):aW (bx X.prog X.w) X.A (call (.builtin "min") [.ref L] [(df "key",.ref g)]) Q E s:=by
 have hname:(toString "min" ++ toString ".loop" :String) = "min.loop" := by decide
 refine mJ F.kind_min F.plain_min F.entry_min (args_minK _ _) ?_;show aW _ X.A.in1 (fX.Builtins.bindParams "min" ["key","default"] 0 ⟨[],[(df "key",.ref g)]⟩ >>= _) _ _ s;refine ah (wpAny_of_eq (show fX.Builtins.bindParams "min" ["key","default"] 0 ⟨[],[(df "key",.ref g)]⟩=fM [some (.ref g),none] from rfl) ?_);refine ah (aL ?_);obtain ⟨its,rv,⟨o,n,ho,hcl,_,hd⟩,_⟩:=I.list (SqL.of hL);refine ah (wpAny_pyIter_list ⟨o,ho,hcl,n,hd⟩ ?_);refine ah (dh ?_);rw [hname];obtain ⟨h1,eh1⟩:∃ h1,h1=s.heap.push { cls:= .type "list_iterator",data:= .fields #[.ref L,.int 0 0] }:=⟨_,rfl⟩;have z1:h1.objs.size=s.heap.objs.size+1:=by rw [eh1];exact gh ..
 rw [←eh1];obtain ⟨h2,eh2⟩:∃ h2,h2=h1.push { cls:= .type "list",data:= .seq #[] }:=⟨_,rfl⟩;have keep:∀ b o,s.heap.get? b=some o→h2.get? b=some o:=fun b o e=>by rw [eh2];refine ar _ ?_;rw [eh1];exact ar _ e
 have gI:h2.get? s.heap.objs.size=some { cls:= .type "list_iterator",data:= .fields #[.ref L,.int 0 0] }:=by rw [eh2];refine ar _ ?_;rw [eh1];exact bg _ rfl
 have gS:h2.get? h1.objs.size=some (bT "list" #[] 0):=by rw [eh2];exact bg _ rfl
 have I2:=I.kept (t':=s.toks) keep;have lS:s.heap.objs.size≤h1.objs.size:=by lia
 have I3:Inv X ((s.heap.objs.size,{ cls:= .type "list_iterator",data:= .fields #[.ref L,.int 0 0] })::(h1.objs.size,bT "list" #[] 0)::aP) σ H { s with heap:=h2 }:=I2.pins_of fun z hz=>by
  rcases aG.mp hz with rfl | hz
  ·exact ⟨gI,I.hok.fresh (aE _),dv I.lt,I.nofs (aE _),fun v z=>by cases z⟩
  ·rcases aG.mp hz with rfl | hz
   ·exact ⟨gS,I.hok.fresh lS,dv (aS I.lt lS),I.nofs lS,fun v z=>by cases z⟩
   ·exact I2.pin z (aA _ hz)
 have old:∀ b o,s.heap.get? b=some o→b≠s.heap.objs.size∧b≠h1.objs.size:=fun b o e=>⟨bQ (aO e),bQ (aS (aO e) lS)⟩
 have T:Two X aP s.heap.objs.size h1.objs.size:=⟨I.sz,bh I.sz lS,fun y d e=>by obtain ⟨v,o,ho,_⟩:=I.cell y d e;exact (old d o ho).1,fun y d e=>by obtain ⟨v,o,ho,_⟩:=I.cell y d e;exact (old d o ho).2,fun z hz=>(old _ _ (I.pin z hz).1).1,fun z hz=>(old _ _ (I.pin z hz).1).2,bQ (by lia:s.heap.objs.size<h1.objs.size)⟩;refine aL ⟨plainId_quiet g6 _,?_⟩;rw [←eh2];exact min_first (R:=fun r s'=>match r with | .ok (.ret v)=>Q v s' | .ok _=>False | .error e=>E e s') T hh hkey hL hne (fun v u H' s' a1 a2 a3 a4=>fin v u H' s' a1 a2 a3 a4) I3 ⟨rfl,rfl⟩
end
def MinQ (P:ao)(lq:Str)(js:List Nat)(te:TE)(σ:St)(Q:VK)(v:V)(H1:Hp):Prop:=∃ (L:ao) (vs:List V) (key:Nat→Int),v= .ref L∧H1 L=some (.lst vs)∧vs≠[]∧LamG P lq H1 ∧
 (∀ i x,vs[i]? =some x→∀ H2,Tb P H1 H2→te (some x::dH σ js) H2 fun u H3=>Same H2 H3∧u= .int (key i)) ∧
 ∀ H4 i x,Tb P H1 H4→LamG P lq H4→vs[i]? =some x→(∀ j,j<vs.length→key i≤key j)→Q x H4
def tMinL (P:ao)(lq:Str)(tr:TE)(js:List Nat)(te:TE):TE:=fun σ H Q=>tr σ H fun v H1=>MinQ P lq js te σ Q v H1
def MinQ1 (P:ao)(lq:Str)(js:List Nat)(te:TE)(σ:St)(Q:VK):List V→Hp→Prop
 | [v],H1=>MinQ P lq js te σ Q v H1
 | _,_=>False
theorem pe_minL {tr:TE}{p kp:Pos}{c P:ao}(hc:X.calm=true)(hrm:X.A.depth<jY)(hg:Gl X "min")(hm:X.mg "min" =none)(hi:PE X re tr)
  (hd:defaultsOf params X.env=([],[])) (my:X.env.code= .ref c) (C:codeHdIn X.K c P=true) (B:BM X.mg X.base)
  (hbind:∀ q cl pm cdv ct (u:ae),bindArgs (kla_fn "<lambda>" q params body scope cl pm cdv ct) ⟨[u],[]⟩=fM [(x,u)])
  (hk:scope.kind= .function) (hco:scope.isCoroutine=false) (hgen:scope.isGenerator=false) (iU:∀ y∈scope.names,y.2≠ .cell) (hx:scope.names.lookup x=some .local) (hfx:x ∉ fr)
  (hfr:∀ y∈scope.names,y.2= .free→X.env.scope.names.lookup y.1=some .cell) (hjs:js.map (fun j=>X.N[j]?)=fr.map some) (hfv:∀ y∈fr,scope.names.lookup y=some .free)
  (hb:∀ cl L f cd s' H',PE (cxLam X (X.env.qual ++ "<lambda>") scope cl L f cd (x::fr) s' H') body te)
  (he:gF pos (bD [re] X.env)=(false,eP re X.env)::gF pos (bD [] X.env):=by rfl)
  (hs:bD [re] X.env=(false,eP re X.env)::bD [] X.env:=by rfl) (hpl:(gF pos (bD [re] X.env)).any (·.1)=false:=by rfl) :
  PE X (.Call (.Name "min" p) [re] [⟨some "key",.Lambda params body scope lp,kp⟩] pos) (tMinL P (X.env.qual ++ "<lambda>") tr js te):=by
 intro aP s σ H Q I h;refine e8 (lU I hg hm (u:= .builtin "min") (by trivial) ?_);refine callWith_kw (kws:=[⟨some "key",.Lambda params body scope lp,kp⟩]) (thn ((ag hi aC hs) pos aP s σ H (MinQ1 P (X.env.qual ++ "<lambda>") js te σ Q) I h) fun us s1 ⟨vs,H1,I1,r1,q0⟩=>?_) he hpl;refine kws_cons ?_;obtain ⟨v,rfl⟩:∃ v,vs=[v]:=by
  cases vs with
  | nil=>exact q0.elim
  | cons v r=>cases r with
   | nil=>exact ⟨v,rfl⟩
   | cons _ _=>exact q0.elim
 have q1:MinQ P (X.env.qual ++ "<lambda>") js te σ Q v H1:=q0;obtain ⟨L,vs,key,rfl,hL,hne,T,hkey,hQ⟩:=q1;obtain rfl:us=[.ref L]:=by
  cases r1 with
  | cons ru rs =>
   cases rs;exact rQ (fun z=>[z]) ru
 refine lam_makeG (body:=body) I1 hd my C B hfr T fun f cl H2 s2 I2 tb T2 F2 c1 c2=>?_
 refine kws_nil ?_;show aW _ _ (call (.builtin "min") [.ref L] [(df "key",.ref f)]) _ _ _;have LP:L≠P:=fun z=>by
  obtain ⟨ps,e⟩:=T.tbl;rw [←z,hL] at e;cases e
 have KI:KeyI X σ H2 (.ref f) vs key:=fun t H' pins' i v u hv ru I' S'=>by
  refine wpAny_of_in1 (cx (lam_call (v:=v) I' hc hrm (F2.same S') ru (fun pm cdv ct=>hbind _ _ _ _ _ _) hk hco hgen iU hx hfx c1 c2 hfr hjs hfv (fun L cd s' H'=>hb cl L f cd s' H') (hkey i v hv H' (tb.trans S'.tb))) (fun k t' ⟨v',H'',I'',rv,S'',ev⟩=>?_) fun _ _ z=>z);subst ev;obtain ⟨tk,rfl⟩:∃ tk,k= .int (key i) tk:=rv;exact ⟨H'',tk,I'',S'',rfl⟩
 refine call_minK I2 (I2.ok.hd hc) KI (tb _ _ LP hL) hne fun v u H' s' hv ru S' I'=>?_
 obtain ⟨b1,b2⟩:=best_ok key (vs.length - 1);exact ⟨v,H',I',ru,hQ H' _ v (tb.trans S'.tb) (T2.same S') hv fun j hj=>b2 j (by lia)⟩
end L2
namespace HN
open PySem L2 PyProof.Rows
def posR (r:Int×List Stp):Bool:=decide (r.1 > 0)
def km (b:Int)(sp:List Sn)(bs:List (Int×Int))(rg:List (Nat×List Stp)):List (Int×List Stp):=kY sp (rg.filter fun q=>sureB b bs q.2)
def ox (b:Int)(sp:List Sn)(bs:List (Int×Int))(rg:List (Nat×List Stp)):List (Int×List Stp):=(km b sp bs rg).filter posR
theorem rowsW_pos {b:Int}{bs:List (Int×Int)}:∀ (rows:List (Int×List Stp)),(∀ r∈rows,0≤r.1)→kI b bs (rows.filter posR)=kI b bs rows
 | [],_=>rfl
 | r::rows,h=>by
  have ih:=rowsW_pos (b:=b) (bs:=bs) rows fun t ht=>h t (ay _ ht)
  have e:kI b bs (r::rows)=r.1 * upB b (eU bs r.2) * b+kI b bs rows:=rfl;rw [dJ,e]
  by_cases c:r.1 > 0
  ·rw [rJ (show posR r=true from rM c)]
   show r.1 * upB b (eU bs r.2) * b+kI b bs (rows.filter posR)=_;rw [ih]
  ·rw [rG (show ¬ (posR r=true) by unfold posR;rw [rN c];exact aR),ih]
   have:=h r (by simp);rw [show r.1=0 by lia,fO,fO,gO]
theorem own_pos {k:Nat}:∀ (rows:List (Int×List Stp)) (a:Int),(∀ r∈rows,0≤r.1)→(rows.filter posR).foldl (ownS k) a=rows.foldl (ownS k) a
 | [],_,_=>rfl
 | r::rows,a,h=>by
  have ih:=fun a=>own_pos (k:=k) rows a fun t ht=>h t (ay _ ht)
  rw [dJ,bK]
  by_cases c:r.1 > 0
  ·rw [rJ (show posR r=true from rM c),bK];exact ih _
  ·rw [rG (show ¬ (posR r=true) by unfold posR;rw [rN c];exact aR),ih]
   have:=h r (by simp);have e:ownS k a r=a:=by
    show ownV k a r.1 r.2=a;unfold ownV;split <;> split <;> lia
   rw [e]
theorem worth_pos {bs:List (Int×Int)}(rows:List (Int×List Stp))(h:∀ r∈rows,0≤r.1):jA b sp bs (rows.filter posR)=jA b sp bs rows:=by
 unfold jA;rw [rowsW_pos rows h];congr 2;refine fV fun k _=>?_
 have e:owK sp (rows.filter posR) k=owK sp rows k:=own_pos rows _ h;unfold oA;rw [e]
def RBest (b:Int)(sp:List Sn)(w:Int)(bs:List (Int×Int))(d:Dt):Prop:=qR b sp bs d∨∃ rows:List (Int×List Stp),d=leafP (.price rows)∧(∀ r∈rows,RowOk b sp bs r)∧rows.length≤40∧w≤jA b sp bs rows
section
variable {m:Int}{rg:List (Nat×List Stp)}{bs:List (Int×Int)}
theorem rg_few (N:NetT b m sp)(f:FF m sp l rg):rg.length≤40:=by
 have hn:((rg.map (·.1)).map fun n:Nat=>(n:Int)).Nodup:=by
  rw [bM,fh];exact (bM.mp f.one).imp fun hh e=>hh (by lia)
 have:=kR (l:=(rg.map (·.1)).map fun n:Nat=>(n:Int)) (k:=(aQ sp.length).map fun n:Nat=>(n:Int)) hn fun z hz=>by
  obtain ⟨i,hi,rfl⟩:=bc.mp hz;obtain ⟨q,hq,rfl⟩:=bc.mp hi;exact bc.mpr ⟨_,bO.mpr (f.rk q hq).lt,rfl⟩
 rw [aa,aa,aa,br] at this;have:=N.few;lia
theorem sureR_w (N:NetT b m sp)(f:FF m sp l rg):∀ r∈km b sp bs rg,0≤r.1:=fun r hr=>by
 obtain ⟨q,hq,rfl⟩:=bc.mp hr;exact (N.all _ (eu (f.rk q (bW.mp hq).1).lt)).w0
theorem price_ok (N:NetT b m sp)(f:FF m sp l rg):(∀ r∈ox b sp bs rg,RowOk b sp bs r)∧(ox b sp bs rg).length≤40:=by
 have m2:=N.m2;have fw:=f.few;refine ⟨fun r hr=>?_,?_⟩
 ·obtain ⟨q,hq,rfl⟩:=bc.mp (bW.mp hr).1
  obtain ⟨h1,h2⟩:=bW.mp hq;have K:=f.rk q h1;have sn:=N.all _ (eu K.lt);exact ⟨K.rg N (by lia),h2,by have:=sn.w0;show -1000000000000≤(sAt sp q.1).w;lia,sn.w1⟩
 ·refine bh (eO _ _) ?_
  unfold km kY;rw [aa];exact bh (eO _ _) (rg_few N f)
theorem price_tight (N:NetT b m sp)(f:FF m sp l rg)(O:OB sp l bs)(x:Fx b l rg bs):∃ ts,jG b ts sp=true∧fJ b ts sp=jA b sp bs (ox b sp bs rg):=by
 obtain ⟨ts,_,_,h1,h2⟩:=tight N f O x;have fs:=fx_sure N f O x;have e:rg.filter (fun q=>sureB b bs q.2)=rg:=List.filter_eq_self.mpr fun q hq=>(fs.2 _ (bc.mpr ⟨q,hq,rfl⟩)).2.1
 refine ⟨ts,h1,h2.trans ?_⟩;unfold ox;rw [worth_pos _ (sureR_w N f)];unfold km;rw [e]
theorem tight_in (N:NetT b m sp)(f:FF m sp l rg)(O:OB sp l bs)(x:Fx b l rg bs):∃ ts,jG b ts sp=true∧InB (il b ts sp) bs:=by
 obtain ⟨π,hπ⟩:=f.acy.pot fun k=>(bs.getD k (0,0)).1
 have m1:=N.m1;have key:=key_pot N f O x (ts:=potT b π m.toNat) (π:=π) hπ fun k hk=>by
  have s:=N.all _ (eu hk);exact wait_pot s.s0 (by have:=s.s1;lia) s.g0 (by have:=s.g1;lia)
 refine ⟨potT b π m.toNat,fits_lay (m:=m) fun k hk=>?_,fun k hk=>key k (by rw [←O.len];exact hk)⟩;have:=key k hk;have:=(O.lo k hk).2.2;lia
theorem fx_other (N:NetT b m sp)(f:FF m sp l rg)(f':FF m sp l rg')(O:OB sp l bs)(x:Fx b l rg' bs):Fx b l rg bs:=by
 obtain ⟨ts,_,hin⟩:=tight_in N f' O x;have m2:=N.m2;have fw:=f.few;exact ⟨x.fix,fun q hq=>qy (by have:=N.b1;lia) O.len hin ((f.rk q hq).rg N (by lia))⟩
theorem qg (rows:List (Int×List Stp)):mL (leafP (.price rows)):=by
 refine ⟨?_,"price",.tup (rows.map rowD),rfl,by decide⟩;show (true && (pl (.tup (rows.map rowD)) && true))=true;rw [show pl (.tup (rows.map rowD))=true from k3 rows fun r _=>by show (true && (pl (mf r.2) && true))=true;rw [show pl (mf r.2)=true from mq _ _];rfl];rfl
end
abbrev sFirst:cU:=top 8
theorem scFirst:cb pza pza (defScope sFirst):=by trivial
theorem ok_first (F:Fun K "first_bounds" "first_bounds" sFirst f fd)(T:Nm mg):cW P w K mg base CX0 1 f fd pza spFirst:=by
 refine F.ok scFirst (by contradiction) (fun cdv A outer s H vs Q E hr h=>?_);obtain ⟨v,b,m,sp,rfl,hv,few,k⟩:=h;obtain ⟨t,p,ys,rfl,ht,hp,hl,hy⟩:=fe hv;refine ⟨_,PSl.h (cZ ⟨(bY (fP jI rfl T.ttup jJ (ag (iQ (fr:=[]) (js:=[]) rfl (iY (ixZ (pv 0))) (by trivial) rfl (by trivial) rfl (by exists sFirst) (by trivial) rfl (by trivial) (fun _ _ _ _ _=>⟨(eC (ag (dG (r:=ow K) dN (pv 0) bo (fun _ _=>rfl)) (ag (dG (r:=ow K) dN (pv 0) bo (fun _ _=>rfl)) aC))),ie⟩)) aC)))⟩),?_⟩;refine ⟨_,rfl,t,_,_,_,rfl,rfl,SqT.of ht,az (j:=2) rfl,p,rfl,⟨_,SqT.of hp⟩,?_⟩;refine kx (K:=K) (a:=p) (xs:=ys) (fun i zs H2=>Same H H2∧IsDs H2 zs (((sp.take i).map fun x=>(x.l,x.o)).map fun x=> .tup ((bndR x).map Dt.int))) ⟨Same.refl H,.nil⟩ (fun i zs H2 hi ⟨e1,e2⟩=>?_) (by rw [hl];exact dW few) (fun i x zs H2 hx ⟨e1,e2⟩=>?_) (fun zs H2 ⟨e1,e2⟩ D hD=>?_)
 ·refine ⟨SqT.of (e1 _ _ hp),?_⟩
  rw [e2.length,aa,aa,bL];lia
 ·have hi:i<sp.length:=by rw [←hl];exact (ak.mp hx).1
  obtain ⟨q,hq,hq2⟩:=hy i sp[i] (gE hi);rw [hx] at hq;cases hq;have hq3:=e1 _ _ hq2;refine gH ?_;refine ⟨_,rfl,q,_,_,_,rfl,rfl,SqT.of hq3,az (j:=2) rfl,_,rfl,q,_,_,_,rfl,rfl,SqT.of hq3,az (j:=3) rfl,mN,fun q4 H4 S4 h4=>⟨e1.trans S4,?_⟩⟩;rw [bf,gE hi,aB,aB];exact (e2.same S4).append (.cons (.tup h4 (IsDs.ints [sp[i].l,sp[i].o])) .nil)
 ·refine ⟨D,_,rfl,SqL.of aV,fun p3 H3 S3 h3=>?_⟩
  have S23:=(Same.put (o:= .lst zs) (Same.refl H2) hD).trans S3;refine k (.ref p3) H3 (e1.trans S23) (.tup h3 ?_);rw [hl,aX] at e2;exact e2.same S23
abbrev sWithB:cU:=top 28
theorem cutU {i:Int}(hi:i=(n:Int)):cutV xs none (some i)=xs.take n:=by
 unfold cutV;subst hi;have e:=HT.sIx_nat xs.length xs.length n;rw [e];show (xs.drop 0).take (min n xs.length - 0)=xs.take n;rw [List.drop_zero,Nat.sub_zero]
 by_cases h:n≤xs.length
 ·rw [Nat.min_eq_left h]
 ·rw [Nat.min_eq_right (by lia),aX,ju (by lia)]
theorem cutF {i:Int}(hi:i=(n:Int)):cutV xs (some i) none=xs.drop n:=by
 unfold cutV;subst hi;have e:=HT.sIx_nat xs.length 0 n;rw [e];show (xs.drop (min n xs.length)).take (xs.length - min n xs.length)=xs.drop n
 by_cases h:n≤xs.length
 ·rw [Nat.min_eq_left h,ju (by rw [eY];lia)]
 ·rw [Nat.min_eq_right (by lia),List.drop_length,List.drop_of_length_le (by lia),List.take_nil]
theorem scWithB:cb pzv pzv (defScope sWithB):=by trivial
theorem ok_withB (F:Fun K "with_bound" "with_bound" sWithB f fd):cW P w K mg base CX0 1 f fd pzv spWithB:=by
 refine F.ok scWithB (by contradiction) (fun cdv A outer s H vs Q E hr h=>?_);obtain ⟨vb,n,lo,hi,bs,rfl,hb,hn,few,k⟩:=h;obtain ⟨pb,yb,rfl,hpb,hlb,rb⟩:=ib hb;refine ⟨_,PSl.h (cZ ⟨(bY (cg p8 (cg p8 (nc sl_tupN (pv 0) pZ (pY (pv 1))) (eC (ag (eC (ag (pv 2) (ag (pv 3) aC))) aC))) (nc sl_tupN (pv 0) (pY (cg fu (pv 1) bo)) pZ)))⟩),?_⟩;have lyb:yb.length≤40:=by lia
 refine ⟨_,rfl,_,rfl,_,rfl,pb,_,rfl,hpb,fun qB HB SB hB=>⟨_,rfl,_,rfl,mN,fun q1 H1 S1 h1=>⟨szZ1,fun qC HC SC hC=>?_⟩⟩⟩;rw [cutU (n:=n) rfl] at hB;refine ⟨qB,qC,_,_,rfl,rfl,SC _ _ (S1 _ _ hB),hC,?_,fun qD HD SD hD=>?_⟩
 ·rw [bL];exact bh (by show min n yb.length+1≤1000;lia) (by decide)
 refine ⟨_,rfl,_,rfl,_,_,rfl,rfl,_,rfl,pb,_,rfl,SD _ _ (SC _ _ (S1 _ _ (SB _ _ hpb))),fun qE HE SE hE=>?_⟩;rw [cutF (n:=n+1) (by lia)] at hE;refine ⟨qD,qE,_,_,rfl,rfl,SE _ _ hD,hE,?_,fun qF HF SF hF=>?_⟩
 ·rw [av,bL,eY];exact bh (by show min n yb.length+1+(yb.length - (n+1))≤1000;lia) (by decide)
 have S1F:Same H1 HF:=SC.trans (SD.trans (SE.trans SF));have SF':Same H HF:=SB.trans (S1.trans S1F);refine k (.ref qF) HF SF' (.tup hF ?_);have e:bs.set n (lo,hi)=bs.take n++[(lo,hi)]++bs.drop (n+1):=by
  rw [oH,rJ hn,List.append_assoc];rfl
 rw [e,aB,aB,List.map_take,List.map_drop];exact ((IsDs.takeN n (rb.same SF')).append (.cons (.tup (S1F _ _ h1) (IsDs.ints [lo,hi])) .nil)).append (IsDs.dropN (n+1) (rb.same SF'))
abbrev cCuts:cU:=top 34
abbrev qZ:cU:=clsOf cCuts 0
abbrev sSpanC:cU:=clsOf cCuts 1
abbrev sSidesC:cU:=clsOf cCuts 2
def lamPosC:List cU→Pos
 | [_,_,_,_,.Assign _ (.Call _ _ [⟨_,.Lambda _ _ _ lp,_⟩] _) _]=>lp
 | _=>⟨0,0,0,0⟩
abbrev lpC:Pos:=lamPosC (fR qZ)
abbrev lqC:Str:=(("Cuts.__init__" :Str) ++ ".<locals>.") ++ "<lambda>"
theorem lenNC (K:aq)(hK:X.K=K:=by rfl):CallR X (.builtin "len") (fun xs H Q=>∃ p ys,xs=[.ref p]∧(SqL K H p ys∨SqT K H p ys)∧Q (.int ys.length) H):=by subst hK;exact bX
structure CutC (K:aq)(C:ao):Prop where
 cl:Cls K C
 n1:NoAttr K C "first_case"
 n2:NoAttr K C "touched"
 n3:NoAttr K C "order"
theorem scInitC:cb ["self","net","rings","touched"] ["self","net"] (defScope qZ):=by trivial
theorem ok_initC {c:ao}(F:Fun K "__init__" "Cuts.__init__" qZ f fd)(hcd:fd.code= .ref c)(CH:eQ K c T1=true)(B:BM mg base)(ne:T0≠T1)(T:Nm mg)(T2:Nt mg)(ms:mg "sorted" =none)(CC:CutC K C)
  (G1:Fn K mg "rings_of" pO pza f1 fd1) (F1:cW P w K mg base CX0 8 f1 fd1 pza (oP T0 p0 q0))
  (G2:Fn K mg "rings_over" sOverR pzu f2 fd2) (G3:Fn K mg "first_bounds" sFirst pza f3 fd3)
  (G4:Fn K mg "forest_of" lN pza f4 fd4) (F4:cW P w K mg base CX0 6 f4 fd4 pza (kU T0 p0 q0)):cW P w K mg base CX0 9 f fd ["self","net"] (spInitC T0 p0 q0 T1 lpC lqC C):=by
 have F2:cW P w K mg base CX0 1 f2 fd2 pzu spOverR:=ok_overR G2.F;have F3:cW P w K mg base CX0 1 f3 fd3 pza spFirst:=ok_first G3.F T;refine okC F hcd scInitC (by contradiction) (fun A outer s H vs Q E hr h=>?_);obtain ⟨x,dx,v,b,m,sp,rfl,hx,hv,N,hT0,hT1,k⟩:=h;have hr1:Room 1 _:=hr.mono (by decide);have hr6:Room 6 _:=hr.mono (by decide);have E:=N.ends;have few:=N.few;have m1:=N.m1;have m2:=N.m2;refine ⟨_,PSl.h (aU ⟨(psZ 2 scInitC.nd (pc1 G1 F1 hr (ag (pv 1) aC)))⟩
  (aU ⟨(psZ 3 scInitC.nd (iQ (fr:=["rings"]) (js:=[2]) rfl (iI rfl T2.range (ag (cy bX rfl T.len bI (ag (ixZ (pv 1)) aC)) aC)) (by trivial) rfl (by trivial) rfl (by exists qZ) (by trivial) rfl (by trivial) (fun _ _ _ _ _=>⟨(pc1 G2 F2 hr1 (ag (pv 1) (ag (pv 0) aC))),ie⟩)))⟩
  (aU ⟨(ps_fld (pv 0) (eC (ag (pc1 G3 F3 hr1 (ag (pv 1) aC)) (ag (pv 2) aC))) rfl)⟩
  (aU ⟨(ps_fld (pv 0) (pv 3) rfl)⟩
  (cZ ⟨(ps_fld (pv 0) (pe_sortT (js:=[3]) (fr:=["touched"]) (x := "span") (c:=c) (P:=T1) rfl hr.depth rfl ms (pc1 G4 F4 hr6 (ag (pv 1) aC)) rfl rfl CH B (fun _ _ _ _ _ _=>rfl) rfl rfl rfl (by trivial) rfl (by decide) (by exists qZ) rfl (by trivial)
   (fun cl L f' cd s' H'=>pe_tup (ag (pe_un o9 (cy (lenNC K) rfl T.len bI (ag (dG (r:=rIxL K) eD (pv 1) (pv 0) (fun _ _=>rfl)) aC))) (ag (pv 0) aC)))) rfl)⟩))))),?_⟩
 refine ⟨_,rfl,v,b,m,sp,rfl,hv,N,hT0,fun L rl l rg H1 tb1 hT01 fL hL dL R=>?_⟩;have fr:=R.fr;have xT0:x≠T0:=by obtain ⟨ps,h⟩:=LamT.tbl hT0;exact eV hx h nofun
 have xT1:x≠T1:=by obtain ⟨ps,h⟩:=LamT.tbl hT1;exact eV hx h nofun
 have K1:Kp H H1:=Tb.kp hT0 tb1;have hT11:=LamT.ntb hT1 hT0 (cN ne) tb1;have hx1:=tb1 x _ xT0 hx;have hv1:=cO K1.tup hv;have tl:l.length≤15:=by have:=fr.few E (by lia);lia
 have lrg:rg.length≤40:=by
  have:rg.length=(pR sp l).length:=by rw [←R.ks,aa]
  have h2:(pR sp l).length≤sp.length:=by unfold pR;exact bh (eO _ _) (by rw [br];exact aE _)
  lia
 have lng:∀ q∈rg,q.2.length≤1000:=fun q hq=>by
  have:=((R.rk q hq).rg N tl).few;lia
 have st1:∀ a o,a≠T0→a≠T1→a≠x→H a=some o→H1 a=some o:=fun a o n0 _ _ e=>tb1 a o n0 e
 obtain ⟨t,p,ys,ev,ht,hp,hl,hy⟩:=fe hv1;subst ev;clear hy hv fL tb1;refine ⟨_,rfl,t,_,_,_,rfl,rfl,SqT.of ht,az (j:=2) rfl,p,_,rfl,.inr (SqT.of hp),_,rfl,by lia,by lia,?_⟩;refine md (n:=((ys.length:Int)).toNat) (fun i zs HC=>Same H1 HC∧zs.length=i∧∀ j,j<i→∃ u ql,zs[j]? =some (.ref u)∧HC u=some (.lst ql)∧IsDs HC ql ((rg.filter (iK j)).map wayQ)) ⟨Same.refl H1,rfl,fun j hj=>rL hj (Nat.not_lt_zero _)⟩ (fun i zs HC hi ⟨_,e2,_⟩=>Nat.le_of_eq e2) (dW (by lia)) (fun i zs HC hi ⟨S,lz,dz⟩=>?_) (fun zs HC ⟨S,lz,dz⟩ D hD=>?_)
 ·rw [gO]
  refine gH ⟨_,rfl,_,rfl,L,i,rl,rg,rfl,S _ _ hL,dL.same S,lrg,lng,fun L' rl' H2 S2 f2 h2 d2=>⟨S.trans S2,by rw [av,lz];rfl,fun j hj=>?_⟩⟩
  rcases jb.mp hj with z | z
  ·obtain ⟨u,ql,a1,a2,a3⟩:=dz j z
   exact ⟨u,ql,by rw [gB (by lia)];exact a1,S2 _ _ a2,a3.same S2⟩
  ·subst z
   exact ⟨L',rl',by rw [cf (by lia),lz,Nat.sub_self];rfl,h2,d2⟩
 have S1:Same H1 (upd HC D (.lst zs)):=S.trans (Same.put (Same.refl HC) hD);have tch:TchD (upd HC D (.lst zs)) D sp.length rg:=by
  refine ⟨zs,aV,by rw [lz];lia,fun j hj=>?_⟩;obtain ⟨u,ql,a1,a2,a3⟩:=dz j (by lia);have S2:Same HC (upd HC D (.lst zs)):=Same.put (Same.refl HC) hD;exact ⟨u,ql,a1,S2 _ _ a2,a3.same S2⟩
 generalize upd HC D (.lst zs)=H2 at S1 tch ⊢;clear dz hD;refine ⟨_,rfl,.ref t,b,m,sp,rfl,hv1.same S1,by lia,fun ub H3 S3 hub=>⟨_,rfl,mN,fun q4 H4 S4 h4=>⟨_,rfl,x,C,dx,_,rfl,S4 _ _ (S3 _ _ (S1 _ _ hx1)),CC.cl,CC.n1,by decide,?_⟩⟩⟩;have S14:Same H1 H4:=S1.trans (S3.trans S4);have cs4:CsD H4 q4 (sp.map fun z=>(z.l,z.o)) rg:=⟨ub,L,rl,h4,hub.same S4,S14 _ _ hL,dL.same S14⟩;have tch4:=tch.kp (Same.kp (S3.trans S4));have hx4:=S14 _ _ hx1;have K4:Kp H4 (upd H4 x (.ins C dx (mO "first_case" (.ref q4) []))):=Kp.upd hx4;have st5:∀ a o,a≠T0→a≠T1→a≠x→H a=some o→(upd H4 x (.ins C dx (mO "first_case" (.ref q4) []))) a=some o:=fun a o n0 n1 n2 e=>by rw [bC n2];exact S14 _ _ (st1 a o n0 n1 n2 e)
 have kp5:Kp H (upd H4 x (.ins C dx (mO "first_case" (.ref q4) []))):=K1.trans ((Same.kp S14).trans K4);have hx5:(upd H4 x (.ins C dx (mO "first_case" (.ref q4) []))) x=some (.ins C dx [("first_case",.ref q4)]):=aV;have hT05:=ma (o:= .ins C dx (mO "first_case" (.ref q4) [])) (LamT.same S14 hT01) hx4;have hT15:=ma (o:= .ins C dx (mO "first_case" (.ref q4) [])) (LamT.same S14 hT11) hx4;have hv5:=cO K4.tup (hv1.same S14);have cs5:=cs4.kp K4;have tch5:=tch4.kp K4;generalize upd H4 x (.ins C dx (mO "first_case" (.ref q4) []))=H5 at st5 kp5 hx5 hT05 hT15 hv5 cs5 tch5 ⊢;clear K4 hx4 tch4 cs4 S14 h4 S4 hub S3 tch S1 ht hp st1 hv1 hT11 hT01 hx1 K1 dL hL;refine ⟨_,rfl,_,rfl,x,C,dx,_,rfl,hx5,CC.cl,CC.n2,(by show 1<1000;decide),?_⟩;have K5:Kp H5 (upd H5 x (.ins C dx (mO "touched" (.ref D) [("first_case",.ref q4)]))):=Kp.upd hx5;have st6:∀ a o,a≠T0→a≠T1→a≠x→H a=some o→(upd H5 x (.ins C dx (mO "touched" (.ref D) [("first_case",.ref q4)]))) a=some o:=fun a o n0 n1 n2 e=>by rw [bC n2];exact st5 a o n0 n1 n2 e
 have kp6:=kp5.trans K5;have hx6:(upd H5 x (.ins C dx (mO "touched" (.ref D) [("first_case",.ref q4)]))) x=some (.ins C dx [("first_case",.ref q4),("touched",.ref D)]):=aV;have hT06:=ma (o:= .ins C dx (mO "touched" (.ref D) [("first_case",.ref q4)])) hT05 hx5;have hT16:=ma (o:= .ins C dx (mO "touched" (.ref D) [("first_case",.ref q4)])) hT15 hx5;have hv6:=cO K5.tup hv5;have cs6:=cs5.kp K5;have tch6:=tch5.kp K5;generalize upd H5 x (.ins C dx (mO "touched" (.ref D) [("first_case",.ref q4)]))=H6 at st6 kp6 hx6 hT06 hT16 hv6 cs6 tch6 ⊢;clear K5 st5 kp5 hx5 hT05 hT15 hv5 cs5 tch5;refine ⟨_,rfl,.ref t,b,m,sp,rfl,hv6,N,hT06,fun u H7 ns tb7 hT07 hu F0=>?_⟩;obtain ⟨l',π0,rfl,O0,pm0⟩:=F0.natsF;have el:l'=l:=FrstL.one (m:=m.toNat) (sp:=sp) ⟨F0,π0,O0,pm0⟩ fr;subst el;have K6:Kp H6 H7:=Tb.kp hT06 tb7;have hT17:=LamT.ntb hT16 hT06 (cN ne) tb7;have hx7:=tb7 x _ xT0 hx6;have st7:∀ a o,a≠T0→a≠T1→a≠x→H a=some o→H7 a=some o:=fun a o n0 n1 n2 e=>tb7 a o n0 (st6 a o n0 n1 n2 e)
 have kp7:=kp6.trans K6;have cs7:=cs6.kp K6;have tch7:=tch6.kp K6;clear K6 st6 kp6 hx6 hT06 hT16 hv6 cs6 tch6 tb7;have hlt:=(fr.pots E).nodup.2;have hnd:=(fr.pots E).nodup.1;have lns:(l'.map fun (i:Nat)=>(i:Int)).length=l'.length:=aa ..;have gns:∀ i,i<l'.length→(l'.map fun (i:Nat)=>(i:Int)).getD i 0=((l'.getD i 0:Nat):Int):=fun i hi=>by
  rw [ai,ax,ai,gE hi];rfl
 refine ⟨u,l'.map fun (i:Nat)=>(i:Int),fun i=>(-(((rg.filter (iK (l'.getD i 0))).length:Nat):Int),((l'.getD i 0:Nat):Int)),rfl,hu,by rw [lns];lia,hT17,?_,fun i hi H8 tb8=>?_,fun D2 H8 π tb8 hT18 f8 pm8 _=>?_⟩
 ·refine List.Pairwise.of_map (S:=fun a c:Int=>a≠c) Prod.snd (fun a c h e=>h (by rw [e])) ?_
  rw [d7,lns];have e:(aQ l'.length).map (Prod.snd ∘ fun i=>(-(((rg.filter (iK (l'.getD i 0))).length:Nat):Int),((l'.getD i 0:Nat):Int)))=l'.map fun (i:Nat)=>(i:Int):=by
   refine jT (by rw [aa,aa,br]) fun i h1 h2=>?_
   rw [aa,br] at h1;rw [gZ,hV,gZ];show ((l'.getD i 0:Nat):Int)=_;rw [ai,gE h1];rfl
  rw [e,fh];exact (bM.mp hnd).imp fun hh e=>hh (by lia)
 ·rw [lns] at hi
  rw [gns i hi];obtain ⟨tv,a1,a2,a3⟩:=tch7.ex;have hk:l'.getD i 0<sp.length:=by
   rw [ai,gE hi];exact hlt _ (bt hi)
  obtain ⟨uu,ql,b1,b2,b3⟩:=a3 _ hk;have K8:Kp H7 H8:=Tb.kp hT17 tb8;have lq:ql.length=(rg.filter (iK (l'.getD i 0))).length:=by rw [b3.length,aa]
  refine ⟨_,rfl,_,rfl,D,_,_,_,rfl,rfl,SqL.of (K8.lst _ _ a1),az b1,uu,_,rfl,.inl (SqL.of (K8.lst _ _ b2)),_,rfl,_,rfl,mN,fun a9 h9=>⟨Same.put (Same.refl H8) h9,a9,rfl,?_⟩⟩;rw [aV,lq]
 ·have K8:Kp H7 H8:=Tb.kp hT17 tb8
  have S9:Same H8 (upd H8 D2 (.lst (π.map fun (i:Nat)=>V.int ((l'.map fun (i:Nat)=>(i:Int)).getD i 0)))):=Same.put (Same.refl H8) f8;have h9:(upd H8 D2 (.lst (π.map fun (i:Nat)=>V.int ((l'.map fun (i:Nat)=>(i:Int)).getD i 0)))) D2=some (.lst ((π.map fun i=>l'.getD i 0).map fun (i:Nat)=>V.int i)):=by
   rw [aV,d7];congr 2;refine fV fun i hi=>?_
   have:=bO.mp (pm8.mem_iff.mp hi);rw [lns] at this;rw [gns i this];rfl
  generalize upd H8 D2 (.lst (π.map fun (i:Nat)=>V.int ((l'.map fun (i:Nat)=>(i:Int)).getD i 0)))=H9 at S9 h9 ⊢;have hx9:=S9 _ _ (tb8 x _ xT1 hx7);refine ⟨_,rfl,x,C,dx,_,rfl,hx9,CC.cl,CC.n3,(by show 2<1000;decide),?_⟩;have K9:Kp H7 H9:=K8.trans (Same.kp S9);have hT08:=LamT.same S9 (LamT.ntb hT07 hT17 ne tb8);have hT19:=LamT.same S9 hT18;have KX:Kp H9 (upd H9 x (.ins C dx (mO "order" (.ref D2) [("first_case",.ref q4),("touched",.ref D)]))):=Kp.upd hx9;refine k l' rg _ (fun a o n0 n1 n2 e=>?_) (kp7.trans (K9.trans KX)) (ma hT08 hx9) (ma hT19 hx9) R ⟨dx,q4,D,D2,_,aV,(cs7.kp K9).kp KX,(tch7.kp K9).kp KX,KX.lst _ _ h9,ord_perm (by rw [lns] at pm8;exact pm8)⟩;rw [bC n2];exact S9 _ _ (tb8 a o n1 (st7 a o n0 n1 n2 e))
theorem scSpanC:cb ["self","case","span","bound"] ["self","case"] (defScope sSpanC):=by trivial
theorem ok_spanC (F:Fun K "span_to_cut" "Cuts.span_to_cut" sSpanC f fd)(CC:CutC K C):cW P w K mg base CX0 1 f fd ["self","case"] (spSpanC C):=by
 refine F.ok scSpanC (by contradiction) (fun cdv A outer s H vs Q E hr h=>?_);obtain ⟨x,c,sp,l,rg,rs,bs,rfl,hx,hc,hl,few,k1,k2⟩:=h;obtain ⟨dx,c0,tl,ol,ord,h1,h2,h3,h4,h5⟩:=hx.ex;obtain ⟨vb,u,rl,c1,c2,c3,c4⟩:=hc.ex;obtain ⟨pb,yb,rfl,hpb,hlb,rb⟩:=ib c2;refine ⟨_,PSl.h (aU ⟨(gk bz rfl (i8 (pe_fld (pv 0) rfl)) (pgZ 2 scSpanC.nd) (PSl.h (aU ⟨(psZ 3 scSpanC.nd (dG dN (ixZ (pv 1)) (pv 2) (fun _ _=>rfl)))⟩
  (cZ ⟨(fU (cu oj (ixZ (pv 3)) (ixZ (pv 3)) (cJ _)) (cj (bY (pv 2))) cX)⟩))))⟩
  (cZ ⟨(bY iJ)⟩)),?_⟩
 refine ⟨_,rfl,x,C,dx,_,_,rfl,h1,CC.cl,CC.n3,rfl,ol,rfl,⟨_,SqL.of h4⟩,?_⟩;refine k7 (K:=K) (a:=ol) (xs:=ord.map fun (i:Nat)=>V.int i) (fun i σ H1=>H1=H∧(∀ j∈ord.take i,¬ ((bs.getD j (0,0)).1<(bs.getD j (0,0)).2))∧∃ v2 v3,σ=[some (.ref x),some (.ref c),v2,v3]) ⟨rfl,fun _ h=>rL h (by simp),none,none,rfl⟩ (fun i σ H1 _ ⟨e,_⟩=>by rw [e];exact SqL.of h4) ?_ ?_
 ·rintro i y σ H1 hy ⟨rfl,hal,v2,v3,rfl⟩
  obtain ⟨j,hj,rfl⟩:=mapI_at hy;have hm:j∈ord:=bj hj;have hjl:=h5.mem_iff.mp hm;have hjb:=hl j hjl;obtain ⟨q,hq,hq2⟩:=iG rb (gE hjb);have e0:bs.getD j (0,0)=bs[j]:=by rw [ai,gE hjb];rfl
  refine ⟨_,rfl,c,_,_,_,rfl,rfl,SqT.of c1,az (j:=0) rfl,_,rfl,pb,_,_,_,rfl,rfl,SqT.of hpb,az (j:=j) hq,?_⟩;refine ⟨_,rfl,q,_,_,_,rfl,rfl,SqT.of hq2,az (j:=0) rfl,_,rfl,q,_,_,_,rfl,rfl,SqT.of hq2,az (j:=1) rfl,_,_,rfl,rfl,_,rfl,?_⟩;show if decide (bs[j].1<bs[j].2)=true then _ else _;refine ite2 (fun hc=>?_) (fun hc=>?_)
  ·exact ⟨_,rfl,k2 j hjl (by rw [e0];exact rO hc)⟩
  ·refine ⟨rfl,fun z hz=>?_,_,_,rfl⟩
   rw [bf,hj] at hz
   rcases aN.mp hz with y | y
   ·exact hal z y
   ·rw [aw.mp (show z∈[j] from y),e0]
    exact fun w=>hc (rM w)
 ·rintro σ H1 ⟨rfl,hal,v2,v3,rfl⟩
  rw [aa,aX] at hal;exact k1 fun j hj=>hal j (h5.mem_iff.mpr hj)
theorem oT:cb ["self","case","span","at","bounds","one","other"] pzF (defScope sSidesC):=by trivial
theorem ok_sidesC (F:Fun K "sides" "Cuts.sides" sSidesC f fd)(CC:CutC K C)(G1:Fn K mg "with_bound" sWithB pzv f1 fd1):cW P w K mg base CX0 2 f fd pzF (spSidesC C):=by
 have F1:cW P w K mg base CX0 1 f1 fd1 pzv spWithB:=ok_withB G1.F;refine F.ok oT (by contradiction) (fun cdv A outer s H vs Q E hr h=>?_);obtain ⟨Hb,x,c,n,a,sp,l,rg,rs,bs,rfl,Sb,hx,hc,hn,lb,few,k⟩:=h;obtain ⟨dx,c0,tl,ol,ord,h1,h2,h3,h4,h5⟩:=hx.ex;obtain ⟨tv,t1,t2,t3⟩:=h3.ex;obtain ⟨u,ql,b1,b2,b3⟩:=t3 n (by lia);obtain ⟨vb,u0,rl,c1,c2,c3,c4⟩:=hc.ex;obtain ⟨pb,yb,rfl,hpb,hlb,rb⟩:=ib c2;obtain ⟨qn,hqn,hqn2⟩:=iG rb (gE hn);have e0:bs.getD n (0,0)=bs[n]:=by rw [ai,gE hn];rfl
 have e1:lG bs n a=bs.set n (bs[n].1,a):=by unfold lG;rw [e0]
 have e2:fk bs n a=bs.set n (a+1,bs[n].2):=by unfold fk;rw [e0]
 refine ⟨_,PSl.h (aU ⟨(psZ 4 oT.nd (ixZ (pv 1)))⟩
  (aU ⟨(psZ 5 oT.nd (pc1 G1 F1 hr (ag (pv 4) (ag (pv 2) (ag (ixZ (dG dN (pv 4) (pv 2) (fun _ _=>rfl))) (ag (pv 3) aC))))))⟩
  (aU ⟨(psZ 6 oT.nd (pc1 G1 F1 hr (ag (pv 4) (ag (pv 2) (ag (cg fu (pv 3) bo) (ag (ixZ (dG dN (pv 4) (pv 2) (fun _ _=>rfl))) aC))))))⟩
  (cZ ⟨(bY (i9 (ag (eC (ag (pv 6) (ag (dG eD (pe_fld (pv 0) rfl) (pv 2) (fun _ _=>rfl)) aC))) (ag (eC (ag (pv 5) (ag (dG eD (pe_fld (pv 0) rfl) (pv 2) (fun _ _=>rfl)) aC))) aC))))⟩)))),?_⟩
 refine ⟨_,rfl,c,_,_,_,rfl,rfl,SqT.of c1,az (j:=0) rfl,?_⟩;refine ⟨_,rfl,_,rfl,_,rfl,_,rfl,pb,_,_,_,rfl,rfl,SqT.of hpb,az (j:=n) hqn,qn,_,_,_,rfl,rfl,SqT.of hqn2,az (j:=0) rfl,_,rfl,.ref pb,n,bs[n].1,a,bs,rfl,c2,hn,few,fun u1 H1 S1 hu1=>?_⟩;refine ⟨_,rfl,_,rfl,_,rfl,_,_,rfl,rfl,_,rfl,_,rfl,pb,_,_,_,rfl,rfl,SqT.of (S1 _ _ hpb),az (j:=n) hqn,qn,_,_,_,rfl,rfl,SqT.of (S1 _ _ hqn2),az (j:=1) rfl,.ref pb,n,a+1,bs[n].2,bs,rfl,c2.same S1,hn,few,fun u2 H2 S2 hu2=>?_⟩;have S02:=S1.trans S2;have Sb2:=Sb.trans S02;refine ⟨_,rfl,_,rfl,x,C,dx,_,_,rfl,Sb2 _ _ h1,CC.cl,CC.n2,rfl,_,rfl,tl,_,_,_,rfl,rfl,SqL.of (Sb2 _ _ t1),az b1,mN,fun q3 H3 S3 h3'=>?_⟩;refine ⟨_,rfl,_,rfl,x,C,dx,_,_,rfl,S3 _ _ (Sb2 _ _ h1),CC.cl,CC.n2,rfl,_,rfl,tl,_,_,_,rfl,rfl,SqL.of (S3 _ _ (Sb2 _ _ t1)),az b1,mN,fun q4 H4 S4 h4'=>?_⟩;refine ⟨mN,fun L hL=>?_⟩;have S5:Same H4 (upd H4 L (.lst [.ref q3,.ref q4])):=Same.put (Same.refl H4) hL;have S25:=S3.trans (S4.trans S5);refine k L q3 q4 _ (S02.trans S25) (Same.free (S02.trans (S3.trans S4)) hL) aV ⟨u2,u,ql,S5 _ _ (S4 _ _ h3'),?_,b2,b3⟩ ⟨u1,u,ql,S5 _ _ h4',?_,b2,b3⟩
 ·rw [e2];exact hu2.same S25
 ·rw [e1];exact (hu1.same S2).same S25
abbrev sSpread:cU:=top 21
inductive spSpread (T:ao)(lp:Pos)(lq:Str)(vs:List V)(H:Hp)(Q:VK)(_:XK):Prop
 | mk (v:V)(b m:Int)(sp:List Sn)(_:vs=[v])(_:IsD H v (kg b m sp))(_:NetT b m sp)(_:L2.LamT T lp lq H)(_:∀ (L:ao) (zs:List V) (l:List Nat) (S:List Stp) (H':Hp),L2.Tb T H H'→L2.LamT T lp lq H'→H L=none→H' L=some (.lst zs)→IsDs H' zs (eJ Stp.row S)→FrstL m.toNat sp l→SprOk m.toNat sp l S→Q (.ref L) H')
structure JS (H Hc:Hp)(Da Ls:ao)(R:List Int)(S:List Stp)(n:Nat):Prop where
 same:Same H Hc
 da:∃ kvs,Hc Da=some (.dK kvs)∧(∀ x,nS kvs (.inl x)=none↔x ∉ R)∧kvs.length≤R.length+n
 ls:∃ zs,Hc Ls=some (.lst zs)∧IsDs Hc zs (eJ Stp.row S)
theorem JS.on {Hc':Hp}{R:List Int}(j:JS H Hc Da Ls R S n)(e:Same Hc Hc'):JS H Hc' Da Ls R S n:=by
 obtain ⟨kvs,h1,h2⟩:=j.da;obtain ⟨zs,h3,h4⟩:=j.ls;exact ⟨j.same.trans e,⟨kvs,e _ _ h1,h2⟩,⟨zs,e _ _ h3,h4.same e⟩⟩
theorem JS.upL {La:ao}{R:List Int}(j:JS H Hc Da Ls R S n)(hL:H La=none)(hc:Hc La=some (.lst xs))(ne:Ls≠La):JS H (upd Hc La (.lst ys)) Da Ls R S n:=by
 obtain ⟨kvs,h1,h2⟩:=j.da;obtain ⟨zs,h3,h4⟩:=j.ls;exact ⟨fun a o e=>by rw [bC (bH e hL)];exact j.same a o e,⟨kvs,by rw [bC (eV h1 hc nofun)];exact h1,h2⟩,⟨zs,by rw [bC ne];exact h3,fG (fI hc) h4⟩⟩
theorem JS.upS {q:ao}{R:List Int}{s:Stp}(j:JS H Hc Da Ls R S n)(hL:H Ls=none)(hc:Hc Ls=some (.lst zs))(hz:IsDs Hc zs (eJ Stp.row S))(hq:IsD Hc (.ref q) (.tup ((Stp.row s).map Dt.int))):JS H (upd Hc Ls (.lst (zs++[.ref q]))) Da Ls R (S++[s]) n:=by
 obtain ⟨kvs,h1,h2⟩:=j.da;have hd:IsDs Hc (zs++[.ref q]) (eJ Stp.row (S++[s])):=by
  unfold eJ at hz ⊢;rw [aB];exact hz.append (.cons hq .nil)
 exact ⟨fun a o e=>by rw [bC (bH e hL)];exact j.same a o e,⟨kvs,by rw [bC (eV h1 hc nofun)];exact h1,h2⟩,⟨_,aV,fG (fI hc) hd⟩⟩
theorem JS.upD {R:List Int}{kvs:List (Key×V)}{x:Int}{R':List Int}{n':Nat}(j:JS H Hc Da Ls R S n)(hD:H Da=none)(hc:Hc Da=some (.dK kvs))(hk:∀ x,nS kvs (.inl x)=none↔x ∉ R)(hR:∀ z,z∈R'↔z∈R∨z=x)(hl:kvs.length+1≤R'.length+n'):JS H (upd Hc Da (.dK (og kvs (.inl x) y))) Da Ls R' S n':=by
 obtain ⟨zs,h3,h4⟩:=j.ls;have K:TupK Hc (upd Hc Da (.dK (og kvs (.inl x) y))):=fun q xs h=>by rw [bC (eV h hc nofun)];exact h
 refine ⟨fun a o e=>by rw [bC (bH e hD)];exact j.same a o e,⟨_,aV,fun z=>?_,?_⟩,⟨zs,by rw [bC (eV h3 hc nofun)];exact h3,fG K h4⟩⟩
 ·rw [valV_put,hR]
  by_cases e:z=x
  ·rw [rJ (by rw [e])]
   exact ⟨fun h=>(by cases h),fun h=>rL (Or.inr e) h⟩
  ·rw [rG (fun h=>e (Sum.inl.inj h)),hk]
   exact ⟨fun h h'=>h'.elim h e,fun h h'=>h (.inl h')⟩
 ·exact bh (k6 _ _ _) hl
theorem jX:cb ["net","taken","reached","steps","first","ahead","here","step","there"] pza (defScope sSpread):=by trivial
theorem ok_spread (F:Fun K "spread_of" "spread_of" sSpread f fd)(T:Nm mg)(T2:Nt mg)(G1:Fn K mg "forest_of" lN pza f1 fd1)(F1:cW P w K mg base CX0 6 f1 fd1 pza (kU Tb0 lp lq))(G2:Fn K mg "steps_from" pM pzn f2 fd2)(F2:cW P w K mg base CX0 2 f2 fd2 pzn spSteps)(G3:Fn K mg "leads_to" sTo pze f3 fd3):cW P w K mg base CX0 7 f fd pza (spSpread Tb0 lp lq):=by
 have F3:cW P w K mg base CX0 1 f3 fd3 pze spTo:=ok_to G3.F;refine F.ok jX (by contradiction) (fun cdv A outer s H0 vs Q E hr h=>?_);obtain ⟨v,b,m,sp,rfl,hv,N,hT,k⟩:=h;have hr2:Room 2 _:=hr.mono (by decide);have hr1:Room 1 _:=hr.mono (by decide);have u1:=bV (Nat.add_le_add_left (by decide:1≤64) _) hr.units;have E:=N.ends;have m1:=N.m1;have m2:=N.m2;refine ⟨_,PSl.h (aU ⟨(psZ 1 jX.nd (pc1 G1 F1 hr (ag (pv 0) aC)))⟩
  (aU ⟨(psZ 2 jX.nd pe_dnewK)⟩
  (aU ⟨(psZ 3 jX.nd (i9 aC))⟩
  (aU ⟨(gk bz rfl (iI rfl T2.range (ag (ixZ (pv 0)) aC)) (pgZ 4 jX.nd) (PSl.h (aU ⟨(psZ 5 jX.nd (PE.cutV (l5 (pt_cmp (nh u1 (pv 4) (pv 2)) rfl) (i9 (ag (pv 4) aC)) (i9 aC))))⟩
  (aU ⟨(ps_dput u1 (pv 2) (pv 4) k4 rfl)⟩
  (cZ ⟨(oY bz (cu p7 (cy bX rfl T.len bI (ag (pv 5) aC)) bo (cJ _)) (PSl.h (aU ⟨(psZ 6 jX.nd (ra bB gc fZ rf (pv 5)))⟩
  (cZ ⟨(gk bz rfl (i8 (pc1 G2 F2 hr2 (ag (pv 0) (ag (pv 1) (ag (pv 6) aC))))) (pgZ 7 jX.nd) (PSl.h (aU ⟨(psZ 8 jX.nd (pc1 G3 F3 hr1 (ag (pv 0) (ag (pv 7) aC))))⟩
  (cZ ⟨(fU (pt_cmp (nh u1 (pv 8) (pv 2)) rfl) (PSl.h (aU ⟨(ps_dput u1 (pv 2) (pv 8) k4 rfl)⟩
  (aU ⟨(i6 (ng bB cA cz ik (pv 5) (ag (pv 8) aC)))⟩
  (cZ ⟨(i6 (ng bB cA cz ik (pv 3) (ag (pv 7) aC)))⟩)))) cX)⟩))))⟩))))⟩)))))⟩
  (cZ ⟨(bY (pv 3))⟩))))),?_⟩
 refine ⟨_,rfl,v,b,m,sp,rfl,hv,N,hT,fun u H ns tb1 hT1 hu F0=>?_⟩;obtain ⟨l,π,rfl,O,pm⟩:=F0.natsF;have fr:FrstL m.toNat sp l:=⟨F0,π,O,pm⟩;rw [d7] at hu;have hu:H u=some (.tup (l.map fun (i:Nat)=>V.int i)):=hu;have hv1:=cO (Tb.lamT hT tb1) hv;obtain ⟨t,p,ys,rfl,ht,hp,hl,hy⟩:=fe hv1;clear hy hp hl hv;have PT:=fr.pots E;have hlt:=PT.nodup.2;have few:l.length≤40:=by have:=fr.few E (by lia);lia
 have ne:∀ i∈l,(sAt sp i).s≠(sAt sp i).g:=fun i hi=>(N.all _ (eu (hlt i hi))).ne
 intro Da hDa;have hDa1:(upd H Da (.dK [])) Da=some (.dK []):=aV;have S1:Same H (upd H Da (.dK [])):=Same.put (Same.refl H) hDa;generalize upd H Da (.dK [])=H1 at hDa1 S1 ⊢;refine ⟨bG _,fun Ls hLs=>?_⟩;have hLsH:H Ls=none:=Same.free S1 hLs;have S2:Same H1 (upd H1 Ls (.lst [])):=Same.put (Same.refl H1) hLs;have J2:JS H (upd H1 Ls (.lst [])) Da Ls [] [] 0:=⟨S1.trans S2,⟨[],S2 _ _ hDa1,fun x=>⟨fun _ h=>(by cases h),fun _=>rfl⟩,aE _⟩,⟨[],aV,.nil⟩⟩;generalize upd H1 Ls (.lst [])=H2 at J2 ⊢;clear S2 hLs S1 hDa1;refine ⟨_,rfl,t,_,_,_,rfl,rfl,SqT.of (J2.same _ _ ht),az (j:=1) rfl,m,rfl,by lia,by lia,?_⟩;refine jF (n:=m.toNat) (fun i σ HC=>∃ (R:List Int) (S:List Stp) (w4 w5 w6 w7 w8:Option V),σ=[some (.ref t),some (.ref u),some (.ref Da),some (.ref Ls),w4,w5,w6,w7,w8]∧JS H HC Da Ls R S i∧SI m.toNat sp l exN R [] S∧∀ x:Nat,x<i→(x:Int)∈R) ⟨[],[],none,none,none,none,none,rfl,J2,SI.start,fun x hx=>rL hx (Nat.not_lt_zero _)⟩ ?_ ?_
 ·rintro i σ HC hi ⟨R,S,w4,w5,w6,w7,w8,rfl,JC,I0,hall⟩
  rw [gO];have hRm:=I0.few;obtain ⟨kvs,hDaC,hkv,hkl⟩:=JC.da;refine ⟨fun v H'=>∃ La A,v= .ref La∧H La=none∧La≠Ls∧JS H H' Da Ls R S i∧H' La=some (.lst (A.map V.int))∧((i:Int) ∉ R∧A=[(i:Int)]∨(i:Int)∈R∧A=[]),?_,?_⟩
  rotate_left
  ·refine ⟨_,rfl,_,rfl,Da,_,rfl,DGet.k (k:= .inl (i:Int)) hDaC,_,rfl,?_⟩
   have mk:∀ (La:ao) (xs:List V),HC La=none→JS H (upd HC La (.lst xs)) Da Ls R S i∧H La=none∧La≠Ls:=fun La xs hLa=>⟨JC.on (Same.put (Same.refl HC) hLa),Same.free JC.same hLa,fun z=>by
    obtain ⟨zs,hz,_⟩:=JC.ls;rw [z,hz] at hLa;cases hLa⟩
   cases c:nS kvs (.inl (i:Int)) with
   | none =>
    refine iteT ⟨_,rfl,szZ1,fun La hLa=>?_⟩;obtain ⟨a1,a2,a3⟩:=mk La [.int (i:Int)] hLa;exact ⟨La,[(i:Int)],rfl,a2,a3,a1,aV,.inl ⟨(hkv _).mp c,rfl⟩⟩
   | some o =>
    refine iteF ⟨bG _,fun La hLa=>?_⟩;obtain ⟨a1,a2,a3⟩:=mk La [] hLa;exact ⟨La,[],rfl,a2,a3,a1,aV,.inr ⟨fj fun z=>(by rw [(hkv _).mpr z] at c;cases c),rfl⟩⟩
  rintro _ HD ⟨La,A,rfl,hLaH,nLL,JD,hLa,hA⟩;obtain ⟨kvD,hDaD,hkD,hlD⟩:=JD.da;refine ⟨_,rfl,_,rfl,Da,_,rfl,DPut.k (k:= .inl (i:Int)) hDaD (bV (by lia:kvD.length≤999) (by decide)),?_⟩;obtain ⟨R',hR',IR,inR,hall'⟩:∃ R',(∀ z,z∈R'↔z∈R∨z=(i:Int))∧SI m.toNat sp l exN R' A S∧R.length≤R'.length∧(∀ x:Nat,x<i+1→(x:Int)∈R'):=by
   rcases hA with ⟨a1,rfl⟩ | ⟨a1,rfl⟩
   ·refine ⟨R++[(i:Int)],fun z=>by rw [aN,aw],I0.root a1 (by lia) (by lia),by rw [av];lia,fun x hx=>?_⟩
    rcases jb.mp hx with z | z
    ·exact aM _ (hall x z)
    ·rw [z];simp
   ·refine ⟨R,fun z=>⟨.inl,fun h=>h.elim id fun e=>e ▸ a1⟩,I0,aE _,fun x hx=>?_⟩
    rcases jb.mp hx with z | z
    ·exact hall x z
    ·rw [z];exact a1
  have JE:=JD.upD (y:= .bl true) (R':=R') (n':=i+1) (x:=(i:Int)) hDa hDaD hkD hR' (by lia);have hLaE:(upd HD Da (.dK (og kvD (.inl (i:Int)) (.bl true)))) La=some (.lst (A.map V.int)):=by rw [bC (eV hLa hDaD nofun)];exact hLa
  generalize upd HD Da (.dK (og kvD (.inl (i:Int)) (.bl true)))=HE at JE hLaE ⊢;have lA:A.length≤1:=by rcases hA with ⟨_,rfl⟩ | ⟨_,rfl⟩ <;> simp
  clear hA hLa JD hDaD hkD hlD inR I0 hall hkv hDaC JC;refine ⟨fun n σ HA=>∃ (R A:List Int) (S:List Stp) (w6 w7 w8:Option V),n=2 * (16 - R.length)+A.length∧n≤40∧σ=[some (.ref t),some (.ref u),some (.ref Da),some (.ref Ls),some (.int (i:Int)),some (.ref La),w6,w7,w8]∧JS H HA Da Ls R S (i+1)∧HA La=some (.lst (A.map V.int))∧SI m.toNat sp l exN R A S∧∀ x:Nat,x<i+1→(x:Int)∈R,⟨_,R',A,S,_,_,_,rfl,by lia,rfl,JE,hLaE,IR,hall'⟩,?_⟩;clear JE hLaE IR hall' hR' hkl;rintro n σ HA ⟨R,A,S,w6,w7,w8,rfl,n40,rfl,JA,hLa,IA,hall⟩;refine ⟨_,rfl,La,_,rfl,.inl (SqL.of hLa),_,_,rfl,rfl,_,rfl,?_⟩
  rcases List.eq_nil_or_concat A with rfl | ⟨A',x,rfl⟩
  ·refine iq (by rfl) ?_
   exact ⟨R,S,_,_,_,_,_,rfl,JA,IA,hall⟩
  rw [List.concat_eq_append] at hLa n40 IA ⊢;refine om (rM (by rw [aa,av];show ((A'.length+1:Nat):Int) > 0;lia)) ?_;refine ⟨_,fun σ' H' z=>z,?_⟩;rw [aB] at hLa;refine ⟨_,rfl,.inl ⟨rfl,_,SqL.of hLa⟩,La,_,.int x,rfl,rfl,hLa,by rw [av,cf (by simp)];simp,?_⟩;rw [show (A'.map V.int++[x].map V.int).dropLast=A'.map V.int from gL];have JB:=JA.upL (ys:=A'.map V.int) hLaH hLa nLL.symm;have hLaB:(upd HA La (.lst (A'.map V.int))) La=some (.lst (A'.map V.int)):=aV;generalize upd HA La (.lst (A'.map V.int))=HB at JB hLaB ⊢;obtain ⟨IB,xR⟩:=IA.pop;have lB:2 * (16 - R.length)+A'.length+1≤40:=by rw [av] at n40;exact n40
  have eB:2 * (16 - R.length)+(A'++[x]).length=2 * (16 - R.length)+A'.length+1:=by rw [av];rfl
  rw [eB];clear JA hLa IA n40 eB;refine ⟨_,rfl,_,rfl,_,rfl,.ref t,u,b,m,sp,l,x,rfl,hv1.same JB.same,JB.same _ _ hu,hlt,few,fun L HC zs SC fL hL dz=>⟨L,rfl,⟨_,SqL.of hL⟩,?_⟩⟩;have nL1:L≠La:=fun z=>by rw [z,hLaB] at fL;cases fL
  have nL2:L≠Ls:=fun z=>by
   obtain ⟨z1,hz1,_⟩:=JB.ls;rw [z,hz1] at fL;cases fL
  have JC:=JB.on SC;have hLaC:=SC _ _ hLaB;clear JB hLaB;have lz:zs.length=(dU sp l x).length:=by rw [dz.length];unfold eJ;rw [aa]
  refine k7 (K:=K) (a:=L) (xs:=zs) (fun j σ HD=>∃ (R2 A2:List Int) (S2:List Stp) (w7 w8:Option V),JS H HD Da Ls R2 S2 (i+1)∧HD La=some (.lst (A2.map V.int))∧SI m.toNat sp l (· =x) R2 A2 S2∧x∈R2∧(∀ x:Nat,x<i+1→(x:Int)∈R2)∧2 * (16 - R2.length)+A2.length≤2 * (16 - R.length)+A'.length∧(∀ s∈(dU sp l x).take j,s.i∈S2.map Stp.i)∧HD L=some (.lst zs)∧IsDs HD zs (eJ Stp.row (dU sp l x))∧σ=[some (.ref t),some (.ref u),some (.ref Da),some (.ref Ls),some (.int (i:Int)),some (.ref La),some (.int x),w7,w8]) ⟨R,A',S,_,_,JC,hLaC,IB,xR,hall,aE _,fun s hs=>rL hs (by simp),hL,dz,rfl⟩ (fun j σ HD _ q=>by obtain ⟨_,_,_,_,_,_,_,_,_,_,_,_,h,_⟩:=q;exact SqL.of h) ?_ ?_
  ·clear JC hLaC IB xR hall hL dz SC
   rintro j y σ HD hy ⟨R2,A2,S2,w7,w8,JD,hLaD,ID,xD,hallD,mD,hsD,hLD,dD,rfl⟩;have hj:j<(dU sp l x).length:=by have:=(ak.mp hy).1;lia
   have hsj:=gE hj;obtain ⟨y',hy',dy⟩:=dD.at (i:=j) (d:= .tup ((Stp.row (dU sp l x)[j]).map Dt.int)) (by unfold eJ;rw [ax,hsj];rfl);rw [hy] at hy';cases hy';obtain ⟨q,qs,rfl,hq,rq⟩:=dy.tup_of;have eq:=rq.ints_of;subst eq;have hmem:(dU sp l x)[j]∈dU sp l x:=bt hj;have hin:=hlt _ (nW hmem).1.1;have more:∀ S3:List Stp,(∀ s∈S2,s∈S3)→(dU sp l x)[j].i∈S3.map Stp.i→∀ s∈(dU sp l x).take (j+1),s.i∈S3.map Stp.i:=fun S3 sub hj3 s hs=>by
    rw [bf,hsj] at hs
    rcases aN.mp hs with z | z
    ·obtain ⟨t',ht',e⟩:=bc.mp (hsD s z)
     exact bc.mpr ⟨t',sub _ ht',e⟩
    ·rw [aw.mp (show s∈[(dU sp l x)[j]] from z)];exact hj3
   generalize (dU sp l x)[j]=st at hq hin dy hmem more;refine ⟨_,rfl,_,rfl,.ref t,q,b,m,sp,st,sAt sp st.i,rfl,hv1.same JD.same,hq,ji hin,?_⟩;rw [(mQ hin).1];obtain ⟨kv2,hDaD,hk2,hl2⟩:=JD.da;have hR2:=ID.fewX;refine ⟨_,rfl,_,rfl,Da,_,rfl,DGet.k (k:= .inl (fF sp st)) hDaD,_,rfl,?_⟩;cases hto:nS kv2 (.inl (fF sp st)) with
   | some o =>
    have inR:fF sp st∈R2:=fj fun z=>by rw [(hk2 _).mpr z] at hto;cases hto
    exact iteF ⟨R2,A2,S2,_,_,JD,hLaD,ID,xD,hallD,mD,more S2 (fun _ h=>h) (ID.has PT ne hmem inR),hLD,dD,rfl⟩
   | none =>
    have out:fF sp st ∉ R2:=(hk2 _).mp hto;have I3:=ID.add E hlt xD hmem out;have hR3:=I3.fewX;rw [av] at hR3;have hR3:R2.length+1≤m.toNat:=hR3;refine iteT ⟨_,rfl,_,rfl,Da,_,rfl,DPut.k (k:= .inl (fF sp st)) hDaD (bV (by lia:kv2.length≤999) (by decide)),?_⟩;have J3:=JD.upD (y:= .bl true) (R':=R2++[fF sp st]) (n':=i+1) (x:=fF sp st) hDa hDaD hk2 (fun z=>by rw [aN,aw]) (by rw [av];show _≤R2.length+1+(i+1);lia);have K3:TupK HD (upd HD Da (.dK (og kv2 (.inl (fF sp st)) (.bl true)))):=fun q xs h=>by rw [bC (eV h hDaD nofun)];exact h
    have hLa3:(upd HD Da (.dK (og kv2 (.inl (fF sp st)) (.bl true)))) La=some (.lst (A2.map V.int)):=by rw [bC (eV hLaD hDaD nofun)];exact hLaD
    have hL3:(upd HD Da (.dK (og kv2 (.inl (fF sp st)) (.bl true)))) L=some (.lst zs):=by rw [bC (eV hLD hDaD nofun)];exact hLD
    generalize upd HD Da (.dK (og kv2 (.inl (fF sp st)) (.bl true)))=H3 at J3 K3 hLa3 hL3 ⊢;have d3:=fG K3 dD;have q3:=K3 _ _ hq;refine ⟨_,rfl,.inl ⟨rfl,_,SqL.of hLa3⟩,_,rfl,La,_,_,rfl,rfl,hLa3,mW (by rw [aa];lia),?_⟩;have J4:=J3.upL (ys:=A2.map V.int++[V.int (fF sp st)]) hLaH hLa3 nLL.symm;have K4:TupK H3 (upd H3 La (.lst (A2.map V.int++[V.int (fF sp st)]))):=fI hLa3;have hLa4:(upd H3 La (.lst (A2.map V.int++[V.int (fF sp st)]))) La=some (.lst (A2.map V.int++[V.int (fF sp st)])):=aV;have hL4:(upd H3 La (.lst (A2.map V.int++[V.int (fF sp st)]))) L=some (.lst zs):=by rw [bC nL1];exact hL3
    generalize upd H3 La (.lst (A2.map V.int++[V.int (fF sp st)]))=H4 at J4 K4 hLa4 hL4 ⊢;have d4:=fG K4 d3;have q4:=K4 _ _ q3;obtain ⟨z4,hz4,dz4⟩:=J4.ls;have lz4:z4.length=S2.length:=by rw [dz4.length];unfold eJ;rw [aa]
    have lS:=ID.len;refine ⟨_,rfl,.inl ⟨rfl,_,SqL.of hz4⟩,_,rfl,Ls,_,_,rfl,rfl,hz4,mW (by lia),?_⟩;have J5:=J4.upS (s:=st) hLsH hz4 dz4 (.tup q4 (IsDs.ints (Stp.row st)));refine ⟨R2++[fF sp st],A2++[fF sp st],S2++[st],_,_,J5,?_,I3,aM _ xD,fun x hx=>aM _ (hallD x hx),?_,more _ (fun _ h=>aM _ h) (by rw [aB];exact aA _ (by simp)),?_,fG (fI hz4) d4,rfl⟩
    ·rw [bC nLL,hLa4,aB];rfl
    ·rw [av,av]
     show 2 * (16 - (R2.length+1))+(A2.length+1)≤_;lia
    ·rw [bC nL2];exact hL4
  ·rintro σ HD ⟨R2,A2,S2,w7,w8,JD,hLaD,ID,xD,hallD,mD,hsD,hLD,dD,rfl⟩
   rw [lz,aX] at hsD;exact ⟨_,by lia,R2,A2,S2,_,_,_,rfl,by lia,rfl,JD,hLaD,ID.done hsD,hallD⟩
 ·rintro σ HC ⟨R,S,w4,w5,w6,w7,w8,rfl,JC,I0,hall⟩
  obtain ⟨zs,hz,dz⟩:=JC.ls;have hLs0:H0 Ls=none:=by
   cases z:H0 Ls with
   | none=>rfl
   | some o =>
    by_cases e:Ls=Tb0
    ·subst e
     obtain ⟨ps,hps⟩:=LamT.tbl hT1;rw [hps] at hLsH;cases hLsH
    ·rw [tb1 Ls o e z] at hLsH;cases hLsH
  exact ⟨_,rfl,k Ls zs l S HC (tb1.trans (Same.tb JC.same)) (LamT.same JC.same hT1) hLs0 hz dz fr (I0.ok E hlt hall)⟩
abbrev sRest:cU:=top 23
abbrev sTabBy:cU:=top 37
inductive spTabBy (vs:List V)(H:Hp)(Q:VK)(_:XK):Prop
 | mk (v vb:V)(L:ao)(b m:Int)(sp:List Sn)(bs:List (Int×Int))(zs:List V)(S:List Stp)(_:vs=[v,.ref L,vb])(_:IsD H v (kg b m sp))(_:0<b)(_:0<m)(_:m≤16)(_:lh m.toNat sp)(_:H L=some (.lst zs))(_:IsDs H zs (eJ Stp.row S))(_:S.length≤16)(_:(∀ s∈S,s.i<sp.length∧(s.d=1∨s.d= -1)))(_:IsD H vb (bndP bs))(_:bs.length=sp.length)(_:∀ q H',Same H H'→H' q=some (.tup ((tabOf b sp bs m.toNat S).map V.int))→Q (.ref q) H')
theorem frmS_rng (E:lh m sp){t:Stp}(h:t.i<sp.length):0≤lH sp t∧lH sp t<m:=by
 obtain ⟨a,b,c,d⟩:=E _ (eu h);rw [←(tooS_sAt0 h).2];unfold frm;split <;> lia
theorem ixN_int (h0:0≤z)(h1:z<n):ixN n z=some z.toNat:=by unfold ixN;rw [rJ h0,rJ h1]
theorem atI_int {xs:List α}{x:α}(h0:0≤z)(h:xs[z.toNat]? =some x):atI xs z=some x:=by
 have:=(ak.mp h).1;unfold atI;rw [ixN_int h0 (by lia)];exact h
theorem map_set {l:List Int}{x:Int}:(l.map V.int).set n (V.int x)=(l.set n x).map V.int:=by rw [List.map_set]
theorem scRest:cb pzl pzl (defScope sRest):=by trivial
theorem ok_rest (F:Fun K "rest_by" "rest_by" sRest f fd):cW P w K mg base CX0 1 f fd pzl spRest:=by
 refine F.ok scRest (by contradiction) (fun cdv A outer s H vs Q E hr h=>?_);obtain ⟨b,n,rfl,hb,k⟩:=h;refine ⟨_,PSl.h (cZ ⟨(bY (cg iZ (pv 1) (pv 0)))⟩),?_⟩;exact ⟨_,rfl,_,rfl,_,_,rfl,rfl,hb,k⟩
theorem scTabBy:cb ["net","steps","bounds","times","step"] pzG (defScope sTabBy):=by trivial
theorem ok_tabBy (F:Fun K "table_by" "table_by" sTabBy f fd)(T:Nm mg)(G1:Fn K mg "leads_to" sTo pze f1 fd1)(G2:Fn K mg "leads_from" sFrom pze f2 fd2)(G3:Fn K mg "rest_by" sRest pzl f3 fd3):cW P w K mg base CX0 2 f fd pzG spTabBy:=by
 have F1:cW P w K mg base CX0 1 f1 fd1 pze spTo:=ok_to G1.F;have F2:cW P w K mg base CX0 1 f2 fd2 pze spFrom:=ok_from G2.F;have F3:cW P w K mg base CX0 1 f3 fd3 pzl spRest:=ok_rest G3.F;refine F.ok scTabBy (by contradiction) (fun cdv A outer s H vs Q E hr h=>?_);obtain ⟨v,vb,L,b,m,sp,bs,zs,S,rfl,hv,hb,m0,m16,E,hL,dz,lS,hS,hvb,lb,k⟩:=h;have hr1:=hr;obtain ⟨t,p,ys,rfl,ht,hp,hl,hy⟩:=fe hv;obtain ⟨pb,yb,rfl,hpb,hlb,rb⟩:=ib hvb;refine ⟨_,PSl.h (aU ⟨(psZ 3 scTabBy.nd (cg op_rep (lR (ag bo aC)) (ixZ (pv 0))))⟩
  (aU ⟨(gk bz rfl (i8 (pv 1)) (pgZ 4 scTabBy.nd) (cj (mY (cg fu (dG eD (pv 3) (pc1 G2 F2 hr1 (ag (pv 0) (ag (pv 4) aC))) (fun _ _=>rfl)) (cg ij (ixZ (pv 4)) (ixZ (dG dN (pv 2) (ixZ (pv 4)) (fun _ _=>rfl))))) (pg_sub (pv 3) (pc1 G1 F1 hr1 (ag (pv 0) (ag (pv 4) aC))) mX))))⟩
  (cZ ⟨(bY (fP jI rfl T.ttup jJ (ag (iQ (fr:=pza) (js:=[0]) rfl (i8 (pv 3)) (by trivial) rfl (by trivial) rfl (by exists sTabBy) (by trivial) rfl (by trivial) (fun _ _ _ _ _=>⟨(pc1 G3 F3 hr1 (ag (dG (r:=ow K) dN (pv 1) bo (fun _ _=>rfl)) (ag (pv 0) aC))),ie⟩)) aC)))⟩))),?_⟩
 refine ⟨szZ1,fun q1 H1 S1 h1=>⟨_,rfl,t,_,_,_,rfl,rfl,SqT.of (S1 _ _ ht),az (j:=1) rfl,q1,m,_,rfl,rfl,h1,by lia,by lia,?_,fun Lt hLt=>?_⟩⟩
 ·show 1 * m.toNat≤bp
  exact dW (by lia)
 have hLtH:H Lt=none:=Same.free S1 hLt;have S2:Same H (upd H1 Lt (.lst (bS m.toNat [V.int 0]).flatten)):=S1.trans (Same.put (Same.refl H1) hLt);have h2:(upd H1 Lt (.lst (bS m.toNat [V.int 0]).flatten)) Lt=some (.lst ((bS m.toNat (0:Int)).map V.int)):=by
  rw [aV,List.map_replicate,List.flatten_replicate_singleton]
 generalize upd H1 Lt (.lst (bS m.toNat [V.int 0]).flatten)=H2 at S2 h2 ⊢;have lz:zs.length=S.length:=by rw [dz.length];unfold eJ;rw [aa]
 have len:∀ j,((S.take j).foldl (setT sp (lowB bs)) (bS m.toNat 0)).length=m.toNat:=fun j=>by rw [lZ (m:=0),ix]
 refine ⟨_,rfl,L,rfl,⟨_,SqL.of (S2 _ _ hL)⟩,?_⟩;refine k7 (K:=K) (a:=L) (xs:=zs) (fun j σ HD=>Same H HD∧HD Lt=some (.lst (((S.take j).foldl (setT sp (lowB bs)) (bS m.toNat 0)).map V.int))∧∃ w4,σ=[some (.ref t),some (.ref L),some (.ref pb),some (.ref Lt),w4]) ⟨S2,h2,none,rfl⟩ (fun j σ HD _ ⟨h,_⟩=>SqL.of (h _ _ hL)) ?_ ?_
 ·rintro j y σ HD hy' ⟨SD,hD,w4,rfl⟩
  have hj:j<S.length:=by have:=(ak.mp hy').1;lia
  have hsj:=gE hj;obtain ⟨y',hy2,dy⟩:=dz.at (i:=j) (d:= .tup ((Stp.row S[j]).map Dt.int)) (by unfold eJ;rw [ax,hsj];rfl);rw [hy'] at hy2;cases hy2;obtain ⟨q,qs,rfl,hq,rq⟩:=dy.tup_of;have eq:=rq.ints_of;subst eq;obtain ⟨hin,hd⟩:=hS _ (bt hj);have fold:(S.take (j+1)).foldl (setT sp (lowB bs)) (bS m.toNat 0)=setT sp (lowB bs) ((S.take j).foldl (setT sp (lowB bs)) (bS m.toNat 0)) S[j]:=by
   rw [bf,hsj,dO];rfl
  rw [fold];have lj:=len j;generalize (S.take j).foldl (setT sp (lowB bs)) (bS m.toNat 0)=ts at hD lj ⊢;generalize S[j]=st at hq hin hd;obtain ⟨f0,f1'⟩:=frmS_rng E hin;obtain ⟨t0,t1⟩:=lY E hin;have hbi:st.i<bs.length:=by lia
  obtain ⟨qb,hqb,hqb2⟩:=iG rb (gE hbi);have el:lowB bs st.i=bs[st.i].1:=by unfold lowB;rw [ai,gE hbi];rfl
  have hat:∀ z:Int,0≤z→z<m.toNat→(ts.map V.int)[z.toNat]? =some (V.int (tm ts z)):=fun z z0 z1=>by
   rw [ax,gE (by lia:z.toNat<ts.length)];unfold tm;rw [ai,gE (by lia:z.toNat<ts.length)];rfl
  refine ⟨_,rfl,_,rfl,_,rfl,.ref t,q,b,m,sp,st,sAt sp st.i,rfl,hv.same SD,SD _ _ hq,ji hin,?_⟩;rw [(mQ hin).2];refine ⟨Lt,_,_,_,rfl,rfl,SqL.of hD,atI_int f0 (hat _ f0 f1'),?_⟩;refine ⟨_,rfl,q,_,_,_,rfl,rfl,SqT.of (SD _ _ hq),az (j:=1) rfl,_,rfl,_,rfl,q,_,_,_,rfl,rfl,SqT.of (SD _ _ hq),az (j:=0) rfl,pb,_,_,_,rfl,rfl,SqT.of (SD _ _ hpb),az (j:=st.i) hqb,qb,_,_,_,rfl,rfl,SqT.of (SD _ _ hqb2),az (j:=0) rfl,_,_,rfl,rfl,?_,_,_,rfl,rfl,?_⟩
  ·exact .inl (by rcases hd with e | e <;> rw [e] <;> decide)
  refine ⟨_,rfl,_,rfl,_,rfl,.ref t,q,b,m,sp,st,sAt sp st.i,rfl,hv.same SD,SD _ _ hq,ji hin,?_⟩;rw [(mQ hin).1];refine ⟨Lt,_,_,_,rfl,rfl,hD,ixN_int t0 (by rw [aa];lia),?_⟩;rw [map_set,←el];exact ⟨fun a o e=>by rw [bC (bH e hLtH)];exact SD _ _ e,aV,_,rfl⟩
 ·rintro σ HD ⟨SD,hD,w4,rfl⟩
  rw [lz,aX] at hD;refine ⟨_,rfl,Lt,rfl,⟨_,SqL.of hD⟩,?_⟩;have lt:(j9 sp (lowB bs) m.toNat S).length=m.toNat:=by have:=len S.length;rwa [aX] at this
  refine kl (K:=K) (a:=Lt) (xs:=(j9 sp (lowB bs) m.toNat S).map V.int) (fun i zs HC=>HC=HD∧zs=(((j9 sp (lowB bs) m.toNat S).take i).map (· % b)).map V.int) ⟨rfl,rfl⟩ (fun i zs HC hi ⟨e1,e2⟩=>⟨by rw [e1];exact SqL.of hD,by rw [e2,aa,aa,bL];lia⟩) (by rw [aa,lt];exact dW (by lia)) (fun i x zs HC hx ⟨e1,e2⟩=>?_) (fun zs HC ⟨e1,e2⟩ D hD2=>?_)
  ·subst e1
   rw [ax] at hx;obtain ⟨z,hz,rfl⟩:=bF.mp hx;refine gH ⟨_,rfl,t,_,_,_,rfl,rfl,SqT.of (SD _ _ ht),az (j:=0) rfl,_,rfl,b,z,rfl,hb,?_⟩;rw [e2,bf,hz,aB,aB];exact ⟨rfl,rfl⟩
  ·subst e1
   rw [aa,aX] at e2;have S3:Same HC (upd HC D (.lst zs)):=Same.put (Same.refl HC) hD2;refine ⟨D,_,rfl,.inl (.inl aV),fun q H4 S4 h4=>?_⟩;exact k q H4 (SD.trans (S3.trans S4)) (by rw [h4,e2];rfl)
abbrev sTabF:cU:=top 38
theorem CutD.move {x:ao}{rg:List (Nat×List Stp)}(a:CutD H C x sp l rg)(e:Kp H H')(hx:∀ o,H x=some o→H' x=some o):CutD H' C x sp l rg:=by
 obtain ⟨dx,c0,tl,ol,ord,h1,h2,h3,h4,h5⟩:=a.ex;exact ⟨dx,c0,tl,ol,ord,hx _ h1,h2.kp e,h3.kp e,e.lst _ _ h4,h5⟩
structure CutK (P:aY)(w:bE)(K:aq)(mg:Str→Option ae)(base:bP)(T0:ao)(p0:Pos)(q0:Str)(T1:ao)(p1:Pos)(q1:Str)(C fi g1 g2:ao)(di d1 d2:bq):Prop where
 cc:CutC K C
 mke:Mk K C fi
 gl:mg "Cuts" =some (.ref C)
 ini:cW P w K mg base CX0 9 fi di ["self","net"] (spInitC T0 p0 q0 T1 p1 q1 C)
 bi:Binds K di ["self","net"] []
 m1:Meth K C "span_to_cut" g1
 f1:cW P w K mg base CX0 1 g1 d1 ["self","case"] (spSpanC C)
 b1:Binds K d1 ["self","case"] []
 m2:Meth K C "sides" g2
 f2:cW P w K mg base CX0 2 g2 d2 pzF (spSidesC C)
 b2:Binds K d2 pzF []
theorem pI:cb ["net","most","cuts","steps","tables","ahead","case","span"] pzo (defScope sTabF):=by trivial
theorem ok_tabF {f5 fi g1 g2:ao}{di d1 d2:bq}(F:Fun K "tables_that_fit" "tables_that_fit" sTabF f fd)(T:Nm mg)(ne:T0≠T1)(CK:CutK P w K mg base T0 p0 q0 T1 p1 q1 C fi g1 g2 di d1 d2)
  (G2:Fn K mg "spread_of" sSpread pza f2 fd2) (F2:cW P w K mg base CX0 7 f2 fd2 pza (spSpread T0 p0 q0))
  (G3:Fn K mg "dead_leaf" sDeadL pzk f3 fd3) (F3:cW P w K mg base CX0 4 f3 fd3 pzk pB)
  (G4:Fn K mg "table_by" sTabBy pzG f4 fd4) (F4:cW P w K mg base CX0 2 f4 fd4 pzG spTabBy)
  (G5:Fn K mg "middle_of" sMid pzr f5 fd5):cW P w K mg base CX0 11 f fd pzo (spTabF T0 p0 q0 T1 p1 q1):=by
 have F5:cW P w K mg base CX0 1 f5 fd5 pzr spMid:=ok_mid G5.F;refine F.ok pI (by contradiction) (fun cdv A outer s H vs Q E hr h=>?_);obtain ⟨v,b,m,sp,most,rfl,hv,N,hmost,hcases,hT0,hT1,k⟩:=h;have hr1:Room 1 _:=hr.mono (by decide);have hr2:Room 2 _:=hr.mono (by decide);have hr4:Room 4 _:=hr.mono (by decide);have hr7:Room 7 _:=hr.mono (by decide);have E:=N.ends;have nfew:=N.few;have m1:=N.m1;have m2:=N.m2;have nb1:=N.b1;refine ⟨_,PSl.h (aU ⟨(psZ 2 pI.nd (pe_make CK.mke CK.ini hr rfl CK.gl CK.bi .nil pass0 (ag (pv 0) aC)))⟩
  (aU ⟨(psZ 3 pI.nd (pc1 G2 F2 hr7 (ag (pv 0) aC)))⟩
  (aU ⟨(psZ 4 pI.nd (i9 aC))⟩
  (aU ⟨(psZ 5 pI.nd (i9 (ag (pe_fld (pv 2) rfl) aC)))⟩
  (aU ⟨(oY bz (PW.pt (pw_and (cu p7 (cy bX rfl T.len bI (ag (pv 5) aC)) bo (cJ _)) (pw_and1 (cu oj (cy bX rfl T.len bI (ag (pv 4) aC)) (pv 1) (cJ _))))) (PSl.h (aU ⟨(psZ 6 pI.nd (ra bB gc fZ rf (pv 5)))⟩
  (cZ ⟨(fU (cu op_isN (pc1 G3 F3 hr4 (ag (pv 0) (ag (pv 6) aC))) iJ (cJ _)) (PSl.h (aU ⟨(psZ 7 pI.nd (pe_meth (pv 2) CK.cc.cl CK.m1 CK.f1 hr1 CK.b1 .nil pass0 (ag (pv 6) aC)))⟩
  (cZ ⟨(fU (cu op_isN (pv 7) iJ (cJ _)) (cj (i6 (ng bB cA cz ik (pv 4) (ag (pc1 G4 F4 hr2 (ag (pv 0) (ag (pv 3) (ag (ixZ (pv 6)) aC)))) aC)))) (cj (i6 (ng bB PySem.F.slot_list_extend PySem.F.type_list_extend mt_extend (pv 5) (ag (pe_meth (pv 2) CK.cc.cl CK.m2 CK.f2 hr2 CK.b2 .nil pass0 (ag (pv 6) (ag (pv 7) (ag (pc1 G5 F5 hr1 (ag (pv 6) (ag (pv 7) aC))) aC)))) aC)))))⟩))) cX)⟩))))⟩
  (cZ ⟨(bY (pv 4))⟩)))))),?_⟩
 refine ⟨_,rfl,fun x dx hx hdx nxd=>?_⟩;have S0:Same H (upd (upd H dx (.own x)) x (.ins C dx [])):=by
  have Sa:Same H (upd H dx (.own x)):=Same.put (Same.refl H) hdx;exact Same.put Sa (by rw [bC (cN nxd)];exact hx)
 have hx0:(upd (upd H dx (.own x)) x (.ins C dx [])) x=some (.ins C dx []):=aV;generalize upd (upd H dx (.own x)) x (.ins C dx [])=H0 at S0 hx0 ⊢;refine ⟨x,dx,v,b,m,sp,rfl,hx0,hv.same S0,N,LamT.same S0 hT0,LamT.same S0 hT1,fun l rg H1 st1 kp1 hT01 hT11 R cd1=>⟨rfl,?_⟩⟩;have f:=R.ff N;have fr:=R.fr;have lrg:rg.length≤40:=by
  have:rg.length=(pR sp l).length:=by rw [←R.ks,aa]
  have h2:(pR sp l).length≤sp.length:=by unfold pR;exact bh (eO _ _) (by rw [br];exact aE _)
  lia
 have tl:l.length≤15:=by have:=fr.few E (by lia);lia
 have hlt:=f.acy.nodup.2;have st1':∀ a o,a≠T0→a≠T1→H a=some o→H1 a=some o:=fun a o n0 n1 e=>st1 a o n0 n1 (bH e hx) (S0 _ _ e)
 have kp1':Kp H H1:=(Same.kp S0).trans kp1;have hv1:=cO kp1'.tup hv;refine ⟨_,rfl,v,b,m,sp,rfl,hv1,N,hT01,fun Ls zsS l' S H2 tb2 hT02 fLs hLs dS fr' SO=>?_⟩;have el:l'=l:=FrstL.one fr' fr;subst el;have kp2:Kp H1 H2:=Tb.kp hT01 tb2;have hT12:=LamT.ntb hT11 hT01 (cN ne) tb2;have cd2:CutD H2 C x sp l' rg:=cd1.move kp2 fun o e=>tb2 x o (by
  obtain ⟨_,_,_,_,_,h1,_⟩:=cd1.ex;obtain ⟨ps,h⟩:=LamT.tbl hT01;exact eV h1 h nofun) e
 have st2:∀ a o,a≠T0→a≠T1→H a=some o→H2 a=some o:=fun a o n0 n1 e=>tb2 a o n0 (st1' a o n0 n1 e)
 have kp2':=kp1'.trans kp2;have hv2:=cO kp2.tup hv1;clear kp2 tb2 cd1 hT01 hT11 hv1 kp1' st1' kp1 st1 hv S0 fr' hx0;obtain ⟨dx',c0,tl',ol,ord,h1,h2,h3,h4,h5⟩:=cd2.ex;refine ⟨bG _,fun Lt hLt=>?_⟩;have S3:Same H2 (upd H2 Lt (.lst [])):=Same.put (Same.refl H2) hLt;have hLt3:(upd H2 Lt (.lst [])) Lt=some (.lst []):=aV;generalize upd H2 Lt (.lst [])=H3 at S3 hLt3 ⊢;refine ⟨_,rfl,x,C,dx',_,_,rfl,S3 _ _ h1,CK.cc.cl,CK.cc.n1,rfl,szZ1,fun Ah hAh=>?_⟩;have hAh2:H2 Ah=none:=Same.free S3 hAh;have nLA:Lt≠Ah:=fun z=>by rw [←z,hLt3] at hAh;cases hAh
 have S4:Same H3 (upd H3 Ah (.lst [.ref c0])):=Same.put (Same.refl H3) hAh;have hAh4:(upd H3 Ah (.lst [.ref c0])) Ah=some (.lst [.ref c0]):=aV;generalize upd H3 Ah (.lst [.ref c0])=H4 at S4 hAh4 ⊢;have S24:=S3.trans S4;have cl4:CsL H2 H4 [.ref c0] [(sp.map fun z=>(z.l,z.o),rg)]:=by
  obtain ⟨vb,u,rl,a1,a2,a3,a4⟩:=h2.ex;exact .cons ⟨c0,rfl,vb,u,rl,S24 _ _ a1,a2.same S24,a3,a4⟩ .nil
 have sz0:szC l' [(sp.map fun z=>(z.l,z.o),rg)]≤8191:=by
  have e:=kZ l' hlt fun y hy=>(N.all y hy).lo
  have:=hcases l' fr;show (2 * fN (sp.map fun z=>(z.l,z.o)) l' - 1)+0≤8191;lia
 refine ⟨fun n σ Hc=>∃ (cs:List Cse) (Ts:List (List Int)) (zs tv:List V) (w6 w7:Option V),n=szC l' cs∧n≤8191∧σ=[some v,some (.int (most:Nat)),some (.ref x),some (.ref Ls),some (.ref Lt),some (.ref Ah),w6,w7]∧Same H2 Hc∧Hc Ah=some (.lst zs)∧CsL H2 Hc zs cs∧Hc Lt=some (.lst tv)∧IsDs Hc tv (eJ id Ts)∧SrcI b m sp l' rg cs Ts∧Ts.length≤most,⟨_,_,[],_,[],_,_,rfl,sz0,rfl,S24,hAh4,cl4,S4 _ _ hLt3,.nil,SrcI.start N lrg,bG _⟩,?_⟩;clear cl4 hAh4 S4 S24 hLt3 S3 hAh sz0;rintro n σ Hc ⟨cs,Ts,zs,tv,w6,w7,rfl,n8,rfl,Sc,hAc,clc,hLc,dtv,I,hTs⟩;have lzs:zs.length=cs.length:=Paired.len clc;have ltv:tv.length=Ts.length:=by rw [dtv.length];unfold eJ;rw [aa]
 have lcs:=szC_len hlt cs I.ok;have pF:fN (sp.map fun z=>(z.l,z.o)) l'≤4096:=by
  have e:=kZ l' hlt fun y hy=>(N.all y hy).lo
  have:=hcases l' fr;lia
 have fin:(Ts.length<most∨most=4096→cs=[])→Q (.ref Lt) Hc:=fun he=>k Lt tv l' rg Ts Hc (fun a o n0 n1 e=>Sc _ _ (st2 a o n0 n1 e)) (kp2'.trans (Same.kp Sc)) (LamT.same Sc hT02) (LamT.same Sc hT12) hLc dtv R I.tabs hTs fun lt T hT=>by
  rcases I.hold T hT with h | ⟨c,hc,_⟩
  ·exact h
  ·rw [he lt] at hc;cases hc
 refine ⟨_,rfl,Ah,_,rfl,.inl (SqL.of hAc),_,_,rfl,rfl,_,rfl,?_⟩
 rcases List.eq_nil_or_concat cs with rfl | ⟨cs',c,rfl⟩
 ·have:zs=[]:=jg.mp lzs
  subst this;refine iq (by rfl) (iteF ⟨_,rfl,fin fun _=>rfl⟩)
 rw [List.concat_eq_append] at *;obtain ⟨zs',y,rfl,clc',q,rfl,ce⟩:=Paired.snoc_of clc;refine om (rM (by rw [av];show ((zs'.length+1:Nat):Int) > 0;lia)) ?_;refine ⟨_,rfl,Lt,_,rfl,.inl (SqL.of hLc),_,rfl,_,_,rfl,rfl,_,rfl,?_⟩
 by_cases hlm:Ts.length<most
 rotate_left
 ·exact iq (rN (by lia)) ⟨_,rfl,fin fun z=>rL z fun z=>by
   rcases z with z | z
   ·exact hlm z
   ·have h0:=I.cnt
    rw [pW] at h0;have h1:=i7 (I.ok c (by simp)).ob hlt;have e1:psC l' [c]=fN c.1 l'+0:=rfl;lia⟩
 refine om (rM (by lia)) ⟨_,fun σ' H' z=>z,?_⟩;refine ⟨_,rfl,.inl ⟨rfl,_,SqL.of hAc⟩,Ah,_,.ref q,rfl,rfl,hAc,by rw [av,cf (by simp)];simp,?_⟩;rw [gL];have K5:TupK Hc (upd Hc Ah (.lst zs')):=fI hAc;have S5:Same H2 (upd Hc Ah (.lst zs')):=fun a o e=>by rw [bC (bH e hAh2)];exact Sc _ _ e
 have hA5:(upd Hc Ah (.lst zs')) Ah=some (.lst zs'):=aV;have hL5:(upd Hc Ah (.lst zs')) Lt=some (.lst tv):=by rw [bC nLA];exact hLc
 have cl5:=CsL.keep K5 (show CsL H2 Hc zs' cs' from clc');have ce5:=ce.keep K5;have dtv5:=fG K5 dtv;generalize upd Hc Ah (.lst zs')=H5 at K5 S5 hA5 hL5 cl5 ce5 dtv5 ⊢;have C:=I.ok c (by simp);have less:=I.less f;have lcs':cs'.length+1≤8191:=by rw [av] at lcs;show cs'.length+[c].length≤8191;lia
 have lz':zs'.length=cs'.length:=Paired.len cl5;clear clc clc' ce hAc hLc dtv K5 lzs fin;refine ⟨_,rfl,_,rfl,v,q,b,m,sp,c.1,c.2,rfl,hv2.same S5,by lia,by have:=N.b2;lia,ce5.dn S5,C.few,fun z hz=>by rw [C.ob.len];exact ((f.rk z (C.sub z hz)).rg N tl).inn,fun r H6 S6 hd=>⟨rfl,_,rfl,?_⟩⟩;have S26:=S5.trans S6;have hA6:=S6 _ _ hA5;have hL6:=S6 _ _ hL5;have ce6:=ce5.keep (Same.tupK S6);have cl6:=CsL.keep (Same.tupK S6) cl5;have dtv6:=dtv5.same S6;clear ce5 cl5 dtv5 hA5 hL5
 rcases hd with ⟨rfl,al⟩ | ⟨z,hz,dz,hdz⟩
 rotate_left
 ·have:r≠ .non:=fun e=>by rw [e] at dz;cases dz
  refine iq (rN this) ?_;exact ⟨_,less,cs',Ts,zs',tv,_,_,rfl,by lia,rfl,S26,hA6,cl6,hL6,dtv6,I.dead N f hz hdz,hTs⟩
 refine om (rM rfl) ?_;refine ⟨_,rfl,x,dx',_,rfl,S26 _ _ h1,rfl,_,rfl,x,q,sp,l',rg,c.2,c.1,rfl,cd2.same S26,ce6.dn S26,fun j hj=>by rw [C.ob.len];exact hlt j hj,by lia,fun fx=>?_,fun j hj hlj=>?_⟩
 ·refine ⟨_,rfl,rfl,_,rfl,om (rM rfl) ?_⟩
  obtain ⟨vb,u,rl,a1,a2,a3,a4⟩:=ce6.ex;refine ⟨_,rfl,.inl ⟨rfl,_,SqL.of hL6⟩,_,rfl,_,rfl,_,rfl,q,_,_,_,rfl,rfl,SqT.of a1,az (j:=0) rfl,v,vb,Ls,b,m,sp,c.1,zsS,S,rfl,hv2.same S26,by lia,by lia,m2,E,S26 _ _ hLs,dS.same S26,by have:=SO.len;lia,fun s' hs'=>⟨hlt _ (SO.inn s' hs').1,(SO.inn s' hs').2⟩,a2,C.ob.len,fun qt H7 S7 h7=>?_⟩;refine ⟨Lt,_,_,rfl,rfl,S7 _ _ hL6,bV (m:=4096) (by lia) (by decide),?_⟩;have K8:TupK H7 (upd H7 Lt (.lst (tv++[.ref qt]))):=fI (S7 _ _ hL6);refine ⟨_,less,cs',Ts++[tabOf b sp c.1 m.toNat S],zs',tv++[.ref qt],_,_,rfl,by lia,rfl,fun a o e=>?_,?_,CsL.keep K8 (CsL.keep (Same.tupK S7) cl6),aV,?_,I.leaf N f SO al fx,by rw [av];exact hlm⟩
  ·rw [bC (bH e hLt)];exact S7 _ _ (S26 _ _ e)
  ·rw [bC (cN nLA)];exact S7 _ _ hA6
  ·refine fG K8 ?_
   unfold eJ;rw [aB];exact (dtv6.same S7).append (.cons (.tup h7 (IsDs.ints _)) .nil)
 ·refine ⟨_,rfl,rfl,_,rfl,iq (rN nofun) ?_⟩
  have hjb:j<c.1.length:=by rw [C.ob.len];exact hlt j hj
  refine ⟨_,rfl,.inl ⟨rfl,_,SqL.of hA6⟩,_,rfl,x,dx',_,rfl,S26 _ _ h1,rfl,_,rfl,_,rfl,_,rfl,_,rfl,q,j,c.1,c.2,rfl,ce6.dn S26,hjb,?_⟩;obtain ⟨a,ha⟩:∃ a,a=((c.1.getD j (0,0)).1+(c.1.getD j (0,0)).2) / 2:=⟨_,rfl⟩;rw [←ha];refine ⟨H2,x,q,j,a,sp,l',rg,c.2,c.1,rfl,S26,cd2,ce6.dn S26,hjb,C.ob.len,by rw [C.ob.len];exact nfew,fun L q1 q2 H7 S7 fL hL e1 e2=>?_⟩;have nLA2:L≠Ah:=fun z=>by rw [z,hA6] at fL;cases fL
  refine ⟨Ah,L,_,_,rfl,rfl,S7 _ _ hA6,hL,bh (m:=10000) (by show zs'.length+2≤10000;lia) (by decide),?_⟩;have K8:TupK H7 (upd H7 Ah (.lst (zs'++[.ref q1,.ref q2]))):=fI (S7 _ _ hA6);obtain ⟨I',less'⟩:=I.cut N f lrg al hj (a:=a) (by lia) (by lia);refine ⟨_,less',_,Ts,_,tv,_,_,rfl,by lia,rfl,fun a o e=>?_,aV,?_,?_,fG K8 (dtv6.same S7),I',hTs⟩
  ·rw [bC (bH e hAh2)];exact S7 _ _ (S26 _ _ e)
  ·exact Paired.app (CsL.keep K8 (CsL.keep (Same.tupK S7) cl6)) (.cons ⟨q1,rfl,e1.keep K8⟩ (.cons ⟨q2,rfl,e2.keep K8⟩ .nil))
  ·rw [bC nLA];exact S7 _ _ hL6
abbrev sTreeF:cU:=top 39
theorem pH:cb ["marks","trees","mark","one","other"] ["marks"] (defScope sTreeF):=by trivial
theorem ok_treeF (F:Fun K "tree_from" "tree_from" sTreeF f fd)(RV:mg "reversed" =none):cW P w K mg base CX0 1 f fd ["marks"] spTreeF:=by
 refine F.ok pH (by contradiction) (fun cdv A outer s H vs Q E hr h=>?_);obtain ⟨L,ys,ms,t,rfl,hL,dys,ems,hlw,few,k⟩:=h;refine ⟨_,PSl.h (aU ⟨(psZ 1 pH.nd (i9 aC))⟩
  (aU ⟨(gk bz rfl (pi_revL rfl RV (ag (pv 0) aC)) (pgZ 2 pH.nd) (cj (fU (cu lT (ixZ (pv 2)) kf (cJ _)) (PSl.h (aU ⟨(psZ 3 pH.nd (ra bB gc fZ rf (pv 1)))⟩
  (aU ⟨(psZ 4 pH.nd (ra bB gc fZ rf (pv 1)))⟩
  (cZ ⟨(i6 (ng bB cA cz ik (pv 1) (ag (cg p8 (pv 2) (eC (ag (pv 3) (ag (pv 4) aC)))) aC)))⟩)))) (cj (i6 (ng bB cA cz ik (pv 1) (ag (pv 2) aC)))))))⟩
  (cZ ⟨(bY (dG eD (pv 1) bo (fun _ _=>rfl)))⟩))),?_⟩
 refine ⟨bG _,fun Lt hLt=>?_⟩;have nLL:L≠Lt:=bH hL hLt;have S1:Same H (upd H Lt (.lst [])):=Same.put (Same.refl H) hLt;have h1:(upd H Lt (.lst [])) Lt=some (.lst []):=aV;generalize upd H Lt (.lst [])=H1 at S1 h1 ⊢;have lys:ys.length=ms.length:=by rw [dys.length,aa]
 have tot:ms.reverse.foldl stpT (some [])=some [t]:=by rw [ems];exact stp_pre t []
 refine ⟨_,rfl,L,ys,rfl,SqL.of (S1 _ _ hL),?_⟩;refine for_revL (K:=K) (a:=L) (xs:=ys) (fun i σ H2=>Same H H2∧∃ (zs:List V) (st:List Tq) (v2 v3 v4:Option V),σ=[some (.ref L),some (.ref Lt),v2,v3,v4]∧H2 Lt=some (.lst zs)∧(ms.reverse.take i).foldl stpT (some [])=some st∧IsDs H2 zs (st.reverse.map jk)∧st.length≤i∧∀ t∈st,pl (jk t)=true) ⟨S1,[],[],none,none,none,rfl,h1,rfl,.nil,aE _,fun _ h=>rL h (by simp)⟩ (fun i σ H2 _ ⟨S2,_⟩=>SqL.of (S2 _ _ hL)) ?_ ?_
 ·rintro i x σ H2 hx ⟨S2,zs,st,v2,v3,v4,rfl,hz,hst,dz,lst,pls'⟩
  have hi:i<ys.length:=by have:=(ak.mp hx).1;rwa [fq] at this
  have hm:ms.reverse[i]? =some (ms.reverse[i]'(by rw [fq];lia)):=gE _;obtain ⟨mk,hmk⟩:∃ mk,ms.reverse[i]? =some mk:=⟨_,hm⟩;clear hm;have dx:IsD H2 x (mrkD mk):=by
   have hj:ys.length - 1 - i<ys.length:=by lia
   rw [List.getElem?_reverse (by lia)] at hx;rw [List.getElem?_reverse (by lia)] at hmk;obtain ⟨y,hy,dy⟩:=(dys.same S2).at (i:=ys.length - 1 - i) (d:=mrkD mk) (by rw [ax,lys,hmk];rfl);rw [hx] at hy;cases hy;exact dy
  obtain ⟨st',est,est2⟩:=stp_at tot hmk hst;have lzs:zs.length≤10000:=by
   have:=dz.length;rw [aa,fq] at this;lia
  cases mk with
  | leaf d =>
   have e:st'= .leaf d::st:=by
    have:some (Tq.leaf d::st)=some st':=est;cases this;rfl
   subst e;obtain ⟨pd,w1,x1,ed,nw⟩:=hlw d (List.mem_reverse.mp (bj hmk));have dx:IsD H2 x d:=dx;rw [ed] at dx;obtain ⟨q,xs,rfl,hq,rq⟩:=IsD.tup_of dx;cases rq with
   | cons d0 rq =>
    cases d0;refine ⟨_,rfl,q,_,_,_,rfl,rfl,SqT.of hq,az (j:=0) rfl,rfl,_,rfl,iq (rN (fun z=>nw (by injection z))) ?_⟩;refine ⟨_,rfl,.inl ⟨rfl,_,SqL.of hz⟩,_,rfl,Lt,zs,_,rfl,rfl,hz,(bV lzs (by decide)),?_⟩;have KC:TupK H2 (upd H2 Lt (.lst (zs++[.ref q]))):=fI hz;refine ⟨fun a o e=>by rw [bC (bH e hLt)];exact S2 _ _ e,zs++[.ref q],_,_,_,_,rfl,aV,est2,?_,by rw [aZ];lia,fun t ht=>?_⟩
    ·rw [gJ,aB]
     refine (IsDs.keepP KC dz (k3 _ fun t ht=>pls' t (List.mem_reverse.mp ht))).append (.cons ?_ .nil);rw [←ed] at dx;exact IsD.keepP KC dx pd
    ·rcases aG.mp ht with rfl | ht
     ·exact pd
     ·exact pls' t ht
  | cut kc ac =>
   obtain ⟨x1,y1,s1,rfl,e⟩:∃ x1 y1 s1,st=x1::y1::s1∧st'= .cut kc ac x1 y1::s1:=by
    rcases st with _ | ⟨x1,_ | ⟨y1,s1⟩⟩
    ·cases est
    ·cases est
    ·refine ⟨x1,y1,s1,rfl,?_⟩
     have:some (Tq.cut kc ac x1 y1::s1)=some st':=est;cases this;rfl
   subst e;have dx:IsD H2 x (.tup [.str "cut",.int (kc:Nat),.int ac]):=dx;obtain ⟨q,xs,rfl,hq,rq⟩:=IsD.tup_of dx;obtain rfl:xs=[.str "cut",.int (kc:Nat),.int ac]:=by
    cases rq with
    | cons d0 rq =>
     cases d0;cases rq with
     | cons d1 rq =>
      cases d1;cases rq with
      | cons d2 rq=>cases d2;cases rq;rfl
   rw [gJ,gJ,aB,aB] at dz;obtain ⟨zs1,vx,rfl,dz1,dvx⟩:=IsDs.snocD dz;obtain ⟨zs2,vy,rfl,dz2,dvy⟩:=IsDs.snocD dz1;have px:=pls' x1 (by simp);have py:=pls' y1 (by simp);refine ⟨_,rfl,q,_,_,_,rfl,rfl,SqT.of hq,az (j:=0) rfl,rfl,_,rfl,om (rM rfl) ?_⟩;refine ⟨_,rfl,.inl ⟨rfl,_,SqL.of hz⟩,Lt,_,vx,rfl,rfl,hz,by rw [av,cf (by simp)];simp,?_⟩;rw [gL];have K3:TupK H2 (upd H2 Lt (.lst (zs2++[vy]))):=fI hz;have S3:Same H (upd H2 Lt (.lst (zs2++[vy]))):=fun a o e=>by rw [bC (bH e hLt)];exact S2 _ _ e
   have h3:(upd H2 Lt (.lst (zs2++[vy]))) Lt=some (.lst (zs2++[vy])):=aV;generalize upd H2 Lt (.lst (zs2++[vy]))=H3 at K3 S3 h3 ⊢;refine ⟨_,rfl,.inl ⟨rfl,_,SqL.of h3⟩,Lt,_,vy,rfl,rfl,h3,by rw [av,cf (by simp)];simp,?_⟩;rw [gL];have K4:TupK H2 (upd H3 Lt (.lst zs2)):=K3.trans (fI h3);have S4:Same H (upd H3 Lt (.lst zs2)):=fun a o e=>by rw [bC (bH e hLt)];exact S3 _ _ e
   have h4:(upd H3 Lt (.lst zs2)) Lt=some (.lst zs2):=aV;generalize upd H3 Lt (.lst zs2)=H4 at K4 S4 h4 ⊢;refine ⟨_,rfl,.inl ⟨rfl,_,SqL.of h4⟩,_,rfl,_,rfl,_,rfl,mN,fun q5 H5 S5 h5=>?_⟩;refine ⟨q,q5,_,_,rfl,rfl,S5 _ _ (K4 _ _ hq),h5,szZ5,fun q6 H6 S6 h6=>?_⟩;have S46:=S5.trans S6;refine ⟨Lt,zs2,_,rfl,rfl,S46 _ _ h4,(bV (by rw [av,av] at lzs;lia:zs2.length≤10000) (by decide)),?_⟩;have K26:TupK H2 H6:=fun a xs e=>S46 _ _ (K4 _ _ e)
   have KC:TupK H6 (upd H6 Lt (.lst (zs2++[.ref q6]))):=fI (S46 _ _ h4);have K2C:=K26.trans KC;refine ⟨fun a o e=>by rw [bC (bH e hLt)];exact S46 _ _ (S4 _ _ e),zs2++[.ref q6],_,_,_,_,rfl,aV,est2,?_,by simp only [aZ] at lst ⊢;lia,fun t ht=>?_⟩
   ·rw [gJ,aB]
    refine (IsDs.keepP K2C dz2 (k3 _ fun t ht=>pls' t (by simp [List.mem_reverse.mp ht]))).append (.cons ?_ .nil);exact .tup (KC _ _ h6) (.cons (.str _) (.cons (.int _) (.cons (.int _) (.cons (IsD.keepP K2C dvx px) (.cons (IsD.keepP K2C dvy py) .nil)))))
   ·rcases aG.mp ht with rfl | ht
    ·exact pl_cut px py
    ·exact pls' t (by simp [ht])
 ·rintro σ H2 ⟨S2,zs,st,v2,v3,v4,rfl,hz,hst,dz,lst,pls'⟩
  rw [lys,←fq,aX,tot] at hst;cases hst;cases dz with
  | cons d0 dn =>
   cases dn;exact ⟨_,rfl,Lt,_,_,_,rfl,rfl,SqL.of hz,az (j:=0) rfl,k _ H2 S2 d0⟩
abbrev sTreeB:cU:=top 40
theorem kW:cb ["net","leaf_in","cuts","marks","ahead","case","mark","span","at"] pzp (defScope sTreeB):=by trivial
theorem ok_treeBy {f5 f6 fi g1 g2:ao}{fd6 di d1 d2:bq}(F:Fun K "tree_by" "tree_by" sTreeB f fd)(T:Nm mg)(CK:CutK P w K mg base T0 p0 q0 T1 p1 q1 C fi g1 g2 di d1 d2)
  (G5:Fn K mg "middle_of" sMid pzr f5 fd5) (G6:Fn K mg "tree_from" sTreeF ["marks"] f6 fd6) (F6:cW P w K mg base CX0 1 f6 fd6 ["marks"] spTreeF):cW P w K mg base CX0 11 f fd pzp (oN P w K mg base T0 p0 q0 T1 p1 q1):=by
 have F5:cW P w K mg base CX0 1 f5 fd5 pzr spMid:=ok_mid G5.F;refine F.ok kW (by contradiction) (fun cdv A outer s H vs Q E hr h=>?_);obtain ⟨v,g,b,m,sp,R,rfl,hv,N,hcases,hT0,hT1,LM,k⟩:=h;have hr1:Room 1 _:=hr.mono (by decide);have hr2:Room 2 _:=hr.mono (by decide);have hr6:Room 6 _:=hr.mono (by decide);have E:=N.ends;have nfew:=N.few;have m1:=N.m1;have m2:=N.m2;have nb1:=N.b1;refine ⟨_,PSl.h (aU ⟨(psZ 2 kW.nd (pe_make CK.mke CK.ini hr rfl CK.gl CK.bi .nil pass0 (ag (pv 0) aC)))⟩
  (aU ⟨(psZ 3 kW.nd (i9 aC))⟩
  (aU ⟨(psZ 4 kW.nd (i9 (ag (pe_fld (pv 2) rfl) aC)))⟩
  (aU ⟨(oY bz (cu p7 (cy bX rfl T.len bI (ag (pv 4) aC)) bo (cJ _)) (PSl.h (aU ⟨(psZ 5 kW.nd (ra bB gc fZ rf (pv 4)))⟩
  (aU ⟨(psZ 6 kW.nd (pe_callV (i:=1) LM hr6 (pv 5)))⟩
  (aU ⟨(lP (fU (cu op_isN (pv 6) iJ (cJ _)) (PSl.h (aU ⟨(psZ 7 kW.nd (pe_meth (pv 2) CK.cc.cl CK.m1 CK.f1 hr1 CK.b1 .nil pass0 (ag (pv 5) aC)))⟩
  (aU ⟨(psZ 8 kW.nd (pc1 G5 F5 hr1 (ag (pv 5) (ag (pv 7) aC))))⟩
  (aU ⟨(psZ 6 kW.nd (eC (ag kf (ag (pv 7) (ag (pv 8) aC)))))⟩
  (cZ ⟨(i6 (ng bB PySem.F.slot_list_extend PySem.F.type_list_extend mt_extend (pv 4) (ag (pe_meth (pv 2) CK.cc.cl CK.m2 CK.f2 hr2 CK.b2 .nil pass0 (ag (pv 5) (ag (pv 7) (ag (pv 8) aC)))) aC)))⟩))))) cX))⟩
  (cZ ⟨(i6 (ng bB cA cz ik (pv 3) (ag (pv 6) aC)))⟩))))))⟩
  (cZ ⟨(bY (pc1 G6 F6 hr1 (ag (pv 3) aC)))⟩))))),?_⟩
 refine ⟨_,rfl,fun x dx hx hdx nxd=>?_⟩;have S0:Same H (upd (upd H dx (.own x)) x (.ins C dx [])):=by
  have Sa:Same H (upd H dx (.own x)):=Same.put (Same.refl H) hdx;exact Same.put Sa (by rw [bC (cN nxd)];exact hx)
 have hx0:(upd (upd H dx (.own x)) x (.ins C dx [])) x=some (.ins C dx []):=aV;generalize upd (upd H dx (.own x)) x (.ins C dx [])=H0 at S0 hx0 ⊢;refine ⟨x,dx,v,b,m,sp,rfl,hx0,hv.same S0,N,LamT.same S0 hT0,LamT.same S0 hT1,fun l rg H2 st1 kp1 hT02 hT12 RR cd2=>⟨rfl,?_⟩⟩;have f:=RR.ff N;have fr:=RR.fr;have lrg:rg.length≤40:=by
  have:rg.length=(pR sp l).length:=by rw [←RR.ks,aa]
  have h2:(pR sp l).length≤sp.length:=by unfold pR;exact bh (eO _ _) (by rw [br];exact aE _)
  lia
 have tl:l.length≤15:=by have:=fr.few E (by lia);lia
 have hlt:=f.acy.nodup.2;have st2:StayT T0 T1 H H2:=fun a o n0 n1 e=>st1 a o n0 n1 (bH e hx) (S0 _ _ e)
 have kp2':Kp H H2:=(Same.kp S0).trans kp1;have hv2:=cO kp2'.tup hv;clear st1 kp1 S0 hx0 hv;obtain ⟨dx',c0,tl',ol,ord,h1,h2,h3,h4,h5⟩:=cd2.ex;refine ⟨bG _,fun Lt hLt=>?_⟩;have S3:Same H2 (upd H2 Lt (.lst [])):=Same.put (Same.refl H2) hLt;have hLt3:(upd H2 Lt (.lst [])) Lt=some (.lst []):=aV;generalize upd H2 Lt (.lst [])=H3 at S3 hLt3 ⊢;refine ⟨_,rfl,x,C,dx',_,_,rfl,S3 _ _ h1,CK.cc.cl,CK.cc.n1,rfl,szZ1,fun Ah hAh=>?_⟩;have hAh2:H2 Ah=none:=Same.free S3 hAh;have nLA:Lt≠Ah:=fun z=>by rw [←z,hLt3] at hAh;cases hAh
 have S4:Same H3 (upd H3 Ah (.lst [.ref c0])):=Same.put (Same.refl H3) hAh;have hAh4:(upd H3 Ah (.lst [.ref c0])) Ah=some (.lst [.ref c0]):=aV;generalize upd H3 Ah (.lst [.ref c0])=H4 at S4 hAh4 ⊢;have S24:=S3.trans S4;have cl4:CsL H2 H4 [.ref c0] [(sp.map fun z=>(z.l,z.o),rg)]:=by
  obtain ⟨vb,u,rl,a1,a2,a3,a4⟩:=h2.ex;exact .cons ⟨c0,rfl,vb,u,rl,S24 _ _ a1,a2.same S24,a3,a4⟩ .nil
 have pr0:fN (sp.map fun z=>(z.l,z.o)) l≤4096:=by
  have e:=kZ l hlt fun y hy=>(N.all y hy).lo
  have:=hcases l fr;lia
 have sz0:szC l [(sp.map fun z=>(z.l,z.o),rg)]+0≤8191:=by
  show (2 * fN (sp.map fun z=>(z.l,z.o)) l - 1)+0+0≤8191;lia
 have ok0:∀ c∈[(sp.map (fun z=>(z.l,z.o)),rg)],CaseOk b sp l rg c:=(SrcI.start (b:=b) (l:=l) N lrg).ok;refine ⟨fun n σ Hc=>∃ (cs:List Cse) (ms:List Mrk) (zs mv:List V) (w5 w6 w7 w8:Option V),n=szC l cs∧n+ms.length≤8191∧σ=[some v,some (.ref g),some (.ref x),some (.ref Lt),some (.ref Ah),w5,w6,w7,w8]∧Same H2 Hc∧Hc Ah=some (.lst zs)∧CsL H2 Hc zs cs∧Hc Lt=some (.lst mv)∧IsDs Hc mv (ms.map mrkD)∧(∀ c∈cs,CaseOk b sp l rg c)∧Wn R l (sp.map (fun z=>(z.l,z.o)),rg) ms cs.reverse∧(∀ d,Mrk.leaf d∈ms→mL d)∧pls (ms.map mrkD)=true,⟨_,_,[],_,[],_,_,_,_,rfl,sz0,rfl,S24,hAh4,cl4,S4 _ _ hLt3,.nil,ok0,Wn.start,fun _ h=>rL h (by simp),rfl⟩,?_⟩;clear cl4 hAh4 S4 S24 hLt3 S3 hAh sz0 ok0;rintro n σ Hc ⟨cs,ms,zs,mv,w5,w6,w7,w8,rfl,n8,rfl,Sc,hAc,clc,hLc,dmv,ok,W,lw,pm⟩;have lzs:zs.length=cs.length:=Paired.len clc;have lmv:mv.length=ms.length:=by rw [dmv.length,aa]
 have lcs:=szC_len hlt cs ok;refine ⟨_,rfl,Ah,_,rfl,.inl (SqL.of hAc),_,_,rfl,rfl,_,rfl,?_⟩
 rcases List.eq_nil_or_concat cs with rfl | ⟨cs',c,rfl⟩
 ·have:zs=[]:=jg.mp lzs
  subst this;obtain ⟨t,et,gt⟩:=Wn.fin W;refine iq (by rfl) ⟨_,rfl,Lt,mv,ms,t,rfl,hLc,dmv,et,lw,by lia,fun u H9 S9 h9=>?_⟩;have S29:=Sc.trans S9;refine k u t H9 (st2.trans (Same.stayT S29)) (kp2'.trans (Same.kp S29)) (LamT.same S29 hT02) (LamT.same S29 hT12) h9 (pl_pre t (by rw [←et];exact lw)) (gt 21 ?_);have:2 ^ 21 * fN (sp.map fun z=>(z.l,z.o)) l≤2 ^ 21 * 4096:=Nat.mul_le_mul_left _ pr0;exact bh this (by decide)
 rw [List.concat_eq_append] at *;obtain ⟨zs',y,rfl,clc',q,rfl,ce⟩:=Paired.snoc_of clc;refine om (rM (by rw [av];show ((zs'.length+1:Nat):Int) > 0;lia)) ⟨_,fun σ' H' z=>z,?_⟩;refine ⟨_,rfl,.inl ⟨rfl,_,SqL.of hAc⟩,Ah,_,.ref q,rfl,rfl,hAc,by rw [av,cf (by simp)];simp,?_⟩;rw [gL];have K5:TupK Hc (upd Hc Ah (.lst zs')):=fI hAc;have S5:Same H2 (upd Hc Ah (.lst zs')):=fun a o e=>by rw [bC (bH e hAh2)];exact Sc _ _ e
 have hA5:(upd Hc Ah (.lst zs')) Ah=some (.lst zs'):=aV;have hL5:(upd Hc Ah (.lst zs')) Lt=some (.lst mv):=by rw [bC nLA];exact hLc
 have cl5:=CsL.keep K5 (show CsL H2 Hc zs' cs' from clc');have ce5:=ce.keep K5;have dmv5:=IsDs.keepP K5 dmv pm;generalize upd Hc Ah (.lst zs')=H5 at K5 S5 hA5 hL5 cl5 ce5 dmv5 ⊢;have C':=ok c (by simp);have less:=sz_less (cs:=cs') f C';rw [List.reverse_append] at W;have W:Wn R l (sp.map (fun z=>(z.l,z.o)),rg) ms (c::cs'.reverse):=W;have ok':∀ d∈cs',CaseOk b sp l rg d:=fun d hd=>ok d (aM _ hd)
 have lcs':cs'.length+1≤8191:=by rw [av] at lcs;show cs'.length+[c].length≤8191;lia
 have lz':zs'.length=cs'.length:=Paired.len cl5;have stH5:StayT T0 T1 H H5:=st2.trans (Same.stayT S5);clear clc clc' ce hAc hLc dmv K5 lzs ok;refine ⟨rfl,stH5,_,rfl,stH5,l,rg,q,c,rfl,RR,ce5.dn S5,C',hv2.same S5,fun r H6 S6 hd=>?_⟩;have S26:=S5.trans S6;have hA6:=S6 _ _ hA5;have hL6:=S6 _ _ hL5;have ce6:=ce5.keep (Same.tupK S6);have cl6:=CsL.keep (Same.tupK S6) cl5;have dmv6:=dmv5.same S6;clear ce5 cl5 dmv5 hA5 hL5 stH5;refine ⟨fun σ' H'=>∃ (cs2:List Cse) (mk:Mrk) (zs2:List V) (v6:V) (w7 w8:Option V),szC l cs2<szC l (cs'++[c])∧σ'=[some v,some (.ref g),some (.ref x),some (.ref Lt),some (.ref Ah),some (.ref q),some v6,w7,w8]∧Same H2 H'∧H' Ah=some (.lst zs2)∧CsL H2 H' zs2 cs2∧H' Lt=some (.lst mv)∧IsDs H' mv (ms.map mrkD)∧IsD H' v6 (mrkD mk)∧(∀ c∈cs2,CaseOk b sp l rg c)∧Wn R l (sp.map (fun z=>(z.l,z.o)),rg) (ms++[mk]) cs2.reverse∧(∀ d,mk= .leaf d→mL d)∧pl (mrkD mk)=true,?_,?_⟩
 ·rintro σ' H7 ⟨cs2,mk,zs2,v6,w7,w8,less2,rfl,S7,hA7,cl7,hL7,dm7,d6,ok2,W2,lw2,pm2⟩
  refine ⟨_,rfl,.inl ⟨rfl,_,SqL.of hL7⟩,_,rfl,Lt,mv,_,rfl,rfl,hL7,(bV (by lia:mv.length≤10000) (by decide)),?_⟩;have K8:TupK H7 (upd H7 Lt (.lst (mv++[v6]))):=fI hL7;refine ⟨_,less2,cs2,ms++[mk],zs2,mv++[v6],_,_,_,_,rfl,by rw [av];show _+(ms.length+1)≤8191;lia,rfl,fun a o e=>by rw [bC (bH e hLt)];exact S7 _ _ e,by rw [bC (cN nLA)];exact hA7,CsL.keep K8 cl7,aV,?_,ok2,W2,fun d hd=>?_,?_⟩
  ·rw [aB]
   exact (IsDs.keepP K8 dm7 pm).append (.cons (IsD.keepP K8 d6 pm2) .nil)
  ·rcases aN.mp hd with z | z
   ·exact lw d z
   ·exact lw2 d (aw.mp z).symm
  ·rw [aB,pls_appT,pm,Bool.true_and]
   show (pl (mrkD mk) && true)=true;rw [pm2];rfl
 refine ⟨_,rfl,rfl,_,rfl,?_⟩
 rcases hd with ⟨d,dr,dw,dR⟩ | ⟨rfl,al,k0,hk0,hlk0⟩
 ·have nr:r≠ .non:=fun e=>by
   obtain ⟨_,w',x',ed,_⟩:=dw;rw [e,ed] at dr;cases dr
  refine iq (rN nr) ?_;exact ⟨cs',.leaf d,zs',r,_,_,less,rfl,S26,hA6,cl6,hL6,dmv6,dr,ok',W.leaf dR,(fun d' e=>by cases e;exact dw),dw.1⟩
 refine om (rM rfl) ?_;refine ⟨_,rfl,x,dx',_,rfl,S26 _ _ h1,rfl,_,rfl,x,q,sp,l,rg,c.2,c.1,rfl,cd2.same S26,ce6.dn S26,fun j hj=>by rw [C'.ob.len];exact hlt j hj,by lia,fun fx=>rL hlk0 (fx k0 hk0),fun j hj hlj=>?_⟩;have hjb:j<c.1.length:=by rw [C'.ob.len];exact hlt j hj
 refine ⟨_,rfl,_,rfl,q,j,c.1,c.2,rfl,ce6.dn S26,hjb,?_⟩;obtain ⟨a,ha⟩:∃ a,a=((c.1.getD j (0,0)).1+(c.1.getD j (0,0)).2) / 2:=⟨_,rfl⟩;rw [←ha];refine ⟨_,rfl,_,rfl,(by show 3≤bp;decide),fun qm H7 S7 hm7=>?_⟩;have S27:=S26.trans S7;refine ⟨_,rfl,.inl ⟨rfl,_,SqL.of (S7 _ _ hA6)⟩,_,rfl,x,dx',_,rfl,S27 _ _ h1,rfl,_,rfl,_,rfl,_,rfl,H2,x,q,j,a,sp,l,rg,c.2,c.1,rfl,S27,cd2,(ce6.keep (Same.tupK S7)).dn S27,hjb,C'.ob.len,by rw [C'.ob.len];exact nfew,fun L q1 q2 H8 S8 fL hL e1 e2=>?_⟩;have nLA2:L≠Ah:=fun z=>by rw [z,S7 _ _ hA6] at fL;cases fL
 have hA8:=S8 _ _ (S7 _ _ hA6);refine ⟨Ah,L,_,_,rfl,rfl,hA8,hL,bh (m:=10000) (by show zs'.length+2≤10000;lia) (by decide),?_⟩;have K9:TupK H8 (upd H8 Ah (.lst (zs'++[.ref q1,.ref q2]))):=fI hA8;have K68:TupK H6 H8:=fun a xs e=>S8 _ _ (S7 _ _ e)
 obtain ⟨okn,lessn,p2⟩:=sz_cut f lrg C' al hj (a:=a) (by lia) (by lia) ok';obtain ⟨mid1,mid2⟩:=prodC_mid C'.ob f.acy.nodup.1 hlt hj hlj ha;refine ⟨_,.cut j a,_,.ref qm,_,_,lessn,rfl,fun a o e=>?_,aV,?_,?_,?_,?_,okn,?_,(fun d e=>by cases e),rfl⟩
 ·rw [bC (bH e hAh2)];exact S8 _ _ (S27 _ _ e)
 ·exact Paired.app (CsL.keep K9 (CsL.keep K68 cl6)) (.cons ⟨q1,rfl,e1.keep K9⟩ (.cons ⟨q2,rfl,e2.keep K9⟩ .nil))
 ·rw [bC nLA];exact S8 _ _ (S7 _ _ hL6)
 ·exact IsDs.keepP K9 (IsDs.keepP K68 dmv6 pm) pm
 ·exact .tup (K9 _ _ (S8 _ _ hm7)) (.cons (.str _) (.cons (.int _) (.cons (.int _) .nil)))
 ·rw [List.reverse_append]
  exact W.cut hjb (by lia) (by lia) p2 mid1 mid2
abbrev sCases:cU:=top 19
theorem IsFor.nats (a:IsFor m sp ns):∃ (l π:List Nat),ns=l.map (fun (i:Nat)=>(i:Int))∧Ordd sp π∧l.Perm (kh sp m π).2:=by
 obtain ⟨π,o,p,_⟩:=a;have nn:∀ x∈ns,0≤x:=fun x hx=>by
  obtain ⟨i,_,rfl⟩:=bc.mp (p.mem_iff.mp hx);lia
 refine ⟨ns.map Int.toNat,π,?_,o,?_⟩
 ·rw [d7]
  conv=>lhs;rw [←List.map_id ns]
  exact fV fun x hx=>(eE (nn x hx)).symm
 ·have q:=p.map Int.toNat
  rw [d7] at q;have e:((kh sp m π).2.map (Int.toNat ∘ fun (i:Nat)=>(i:Int)))=(kh sp m π).2:=by
   conv=>rhs;rw [←List.map_id (kh sp m π).2]
   exact fV fun x _=>rfl
  rw [e] at q;exact q
theorem gone_few (E:lh m sp)(h:∀ i∈π,i<sp.length):(kh sp m π).2.length≤m:=by
 obtain ⟨D,_,_,l⟩:=o4 E π (jS m) [] (jo m) h (Cnt.start m);have l:D.length+(kh sp m π).2.length=m:=l;lia
theorem gone_lt (h:∀ i∈π,i<sp.length):∀ i∈(kh sp m π).2,i<sp.length:=fun i hi=>by
 rcases (kd sp π (jS m,[])).1 i hi with z | z
 ·cases z
 ·exact h i z
def WOk (sp:List Sn):Prop:=∀ x∈sp,0≤x.o - x.l∧x.o - x.l+1≤10 ^ 61
theorem NetT.wok {m:Int}(N:NetT b m sp)(h:b≤10 ^ 61):WOk sp:=fun x hx=>by
 have s:=N.all x hx;have:=s.lo;have:=s.ob;lia
theorem prodW_abs {sp:List Sn}(w:WOk sp):∀ {l:List Nat},(∀ i∈l,i<sp.length)→(jE sp l).natAbs≤(10 ^ 61) ^ l.length
 | [],_=>by show 1≤(10 ^ 61) ^ 0;decide
 | i::l,h=>by
  rw [l4,Int.natAbs_mul,aZ,Nat.pow_succ,jM ((10 ^ 61) ^ l.length)];refine Nat.mul_le_mul ?_ (prodW_abs w fun j hj=>h j (ay _ hj));have:=w _ (eu (h i bw));show ((sAt sp i).o - (sAt sp i).l+1).natAbs≤_;lia
theorem pow_33 {k:Nat}(h:n≤(10 ^ 61) ^ k)(hk:k≤16):n<10 ^ 1000:=by
 refine bV h ?_;rw [←Nat.pow_mul];exact Nat.pow_lt_pow_right (by decide) (by lia)
inductive spCases (T:ao)(lp:Pos)(lq:Str)(vs:List V)(H:Hp)(Q:VK)(_:XK):Prop
 | mk (v b m sp:_)(_:vs=[v])(_:IsD H v (kg b m sp))(_:NetT b m sp)(_:b≤10 ^ 61)(_:L2.LamT T lp lq H)(_:∀ H' (l:List Nat),L2.Tb T H H'→L2.LamT T lp lq H'→FrstL m.toNat sp l→Q (.int (jE sp l)) H')
theorem scCases:cb ["net","cases","span"] pza (defScope sCases):=by trivial
theorem ok_cases (F:Fun K "cases_of" "cases_of" sCases f fd)(G1:Fn K mg "forest_of" lN pza f1 fd1)(F1:cW P w K mg base CX0 6 f1 fd1 pza (kU Tb0 lp lq))(G2:Fn K mg "width_of" sWidth pzg f2 fd2) :
  cW P w K mg base CX0 7 f fd pza (spCases Tb0 lp lq):=by
 have F2:cW P w K mg base CX0 1 f2 fd2 pzg spWidth:=ok_width G2.F;refine F.ok scCases (by contradiction) (fun cdv A outer s H vs Q E hr h=>?_);obtain ⟨v,b,m,sp,rfl,hv,N,b33,hT,k⟩:=h;have hr1:Room 1 _:=hr.mono (by decide);have E:=N.ends;have m2:=N.m2;have m1:=N.m1;have wk:=N.wok b33;refine ⟨_,PSl.h (aU ⟨(psZ 1 scCases.nd bo)⟩
  (aU ⟨(gk bz rfl (iY (pc1 G1 F1 hr (ag (pv 0) aC))) (pgZ 2 scCases.nd) (cj (pV (i:=1) scCases.nd rfl (.inl rfl) (cg fu (pc1 G2 F2 hr1 (ag (pv 0) (ag (pv 2) aC))) bo) ip_mulG)))⟩
  (cZ ⟨(bY (pv 1))⟩))),?_⟩
 refine ⟨_,rfl,v,b,m,sp,rfl,hv,N,hT,fun u H1 ns tb hT1 hu F0=>?_⟩;obtain ⟨l,π,rfl,O,pm⟩:=F0.nats;have hp:∀ i∈π,i<sp.length:=fun i hi=>O.lt hi
 have hlt:∀ i∈l,i<sp.length:=fun i hi=>gone_lt hp i (pm.mem_iff.mp hi)
 have few:l.length≤16:=by have:=gone_few E hp;rw [pm.length_eq];lia
 have hv1:=cO (Tb.tupK (LamT.tbl hT) tb) hv;rw [d7] at hu;refine ⟨u,rfl,⟨_,SqT.of hu⟩,?_⟩;refine ki (K:=K) (a:=u) (xs:=l.map (V.int ∘ fun (i:Nat)=>(i:Int))) (fun i σ HA=>HA=H1∧∃ v2,σ=[some v,some (.int (jE sp (l.take i))),v2]) ⟨rfl,none,rfl⟩ (fun i σ HA _ ⟨e,_⟩=>by rw [e];exact SqT.of hu) ?_ ?_
 ·rintro i x σ HA hx ⟨rfl,v2,rfl⟩
  rw [ax] at hx;obtain ⟨j,hj,rfl⟩:=bF.mp hx;have hjl:=bj hj;have hjn:=hlt j hjl;have w0:=wk _ (eu hjn);refine ⟨_,rfl,_,rfl,_,rfl,v,b,m,sp,j,sAt sp j,rfl,hv1,ji hjn,_,_,rfl,rfl,?_⟩;refine ⟨_,_,rfl,rfl,⟨?_,?_⟩,rfl,some (.int j),?_⟩
  ·exact pow_33 (prodW_abs wk (l:=l.take i) fun k hk=>hlt k (List.mem_of_mem_take hk)) (by rw [bL];lia)
  ·exact pow_33 (k:=1) (by rw [Nat.pow_one];lia) (by decide)
  ·rw [bf,hj]
   show _=[some v,some (.int (jE sp (l.take i++[j]))),_];rw [prodW_snoc];rfl
 ·rintro σ HA ⟨rfl,v2,rfl⟩
  rw [aa,aX];exact ⟨_,rfl,k HA l tb hT1 ⟨F0,π,O,pm⟩⟩
abbrev jR:cU:=top 41
def lamE5:List cU→Expr
 | [_,_,_,_,.Return (some (.Tuple [_,.Call _ [_,e] _ _] _ _)) _]=>e
 | _=> .Constant .none 0 ⟨0,0,0,0⟩
def lamP5:Expr→Pos
 | .Lambda _ _ _ p=>p
 | _=>⟨0,0,0,0⟩
def lamS5:Expr→fH
 | .Lambda _ _ s _=>s
 | _=>{ kind:= .function,names:=[],isGenerator:=false,isCoroutine:=false }
def lamA5:Expr→fE
 | .Lambda a _ _ _=>a
 | _=>{ posonlyargs:=[],args:=[],vararg:=none,kwonlyargs:=[],kw_defaults:=[],kwarg:=none,defaults:=[] }
def lamB5:Expr→Expr
 | .Lambda _ e _ _=>e
 | e=>e
abbrev laT:fE:=lamA5 (lamE5 (fR jR))
abbrev lbT:Expr:=lamB5 (lamE5 (fR jR))
abbrev lpT:Pos:=lamP5 (lamE5 (fR jR))
abbrev lsT:fH:=lamS5 (lamE5 (fR jR))
abbrev lqT:Str:=(("table_for" :Str) ++ ".<locals>.") ++ "<lambda>"
theorem oW (N:∀ b o,fz b=some o→H b=none):Same H (ptF H fz):=fun a o e=>by
 cases q:fz a with
 | none=>rw [ig q];exact e
 | some o'=>rw [N a o' q] at e;cases e
theorem ctF_kp (F:Fz fz H):Kp H (ctF H fz):=⟨fun q xs e=>F.cut e (fun _ z=>by cases z),fun q xs e=>F.cut e (fun _ z=>by cases z),fun q _ xs e=>F.cut e (fun _ z=>by cases z)⟩
theorem ptF_back (F:Fz fz H)(S:Same (ctF H fz) H'):Same H (ptF H' fz):=fun a o e=>by
 cases q:fz a with
 | some o'=>rw [F a o' q] at e;cases e;exact pT q
 | none=>rw [ig q];exact S a o (by rw [ir q];exact e)
theorem LamT.cutF {T:ao}(F:Fz fz H)(cl:∀ c o,fz c=some o→∃ v,o.data= .cell v)(h:L2.LamT T lp lq H):L2.LamT T lp lq (ctF H fz):=by
 rcases h with h | ⟨c,h,oc,vs,t,e,hd,r⟩
 ·exact .inl (F.cut h (fun _ z=>by cases z))
 ·refine .inr ⟨c,F.cut h (fun _ z=>by cases z),oc,vs,t,?_,hd,r⟩
  cases q:fz c with
  | none=>rw [ir q];exact e
  | some o' =>
   obtain ⟨v,hv⟩:=cl c o' q;rw [F c o' q] at e;cases e;rw [hd] at hv;cases hv
theorem LmOk.imp {k:Nat}{Hg:Hp→Prop}{sp:Sp}(L:LmOk P w K mg base k f Hf sp)(h:∀ H,Hg H→Hf H):LmOk P w K mg base k f Hg sp:=⟨fun H hh g=>L.isFn H hh (h H g),fun A outer s H u v Q hr e0 g=>L.run A outer s H u v Q hr e0 (h H g)⟩
inductive mV (T0:ao)(p0:Pos)(q0:Str)(T1:ao)(p1:Pos)(q1:Str)(T2:ao)(vs:List V)(H:Hp)(Q:VK)(_:XK):Prop
 | mk (v:V)(b m:Int)(sp:List Sn)(_:vs=[v])(_:IsD H v (kg b m sp))(_:NetT b m sp)(_:(∀ l,FrstL m.toNat sp l→jE sp l≤4096))(_:L2.LamT T0 p0 q0 H)(_:L2.LamT T1 p1 q1 H)(_:L2.LamT T2 lpT lqT H)(_:∀ (q:ao) (H':Hp),(∀ a o,a≠T0→a≠T1→a≠T2→H a=some o→H' a=some o)→Kp H H'→L2.LamT T0 p0 q0 H'→L2.LamT T1 p1 q1 H'→L2.LamT T2 lpT lqT H'→((∃ (qt:ao) (t:List Int),H' q=some (.tup [.str "table",.ref qt])∧H' qt=some (.tup (t.map V.int))∧TabOk b m sp t)∨∃ (u:V) (t:Tq),H' q=some (.tup [.str "none",u])∧IsD H' u (jk t)∧pl (jk t)=true∧(∀ T,¬ jG b T sp=true)∧qS (qR b sp) t (sp.map fun z=>(z.l,z.o)) 21)→Q (.ref q) H')
theorem ps_out:PS X st (fun _ _ _=>False):=fun _ _ _ _ _ _ h=>h.elim
theorem scTabFor:cb ["net","many","tables"] pza (defScope jR):=by trivial
theorem ok_tabForN {c T2:ao}(F:Fun K "table_for" "table_for" jR f fd)(hcd:fd.code= .ref c)(CH:eQ K c T2=true)(B:BM mg base)(T:Nm mg)(MC:∃ t,mg "MOST_CASES" =some (.int 4096 t))(ne:T0≠T1)(n2:T2≠T0)(n3:T2≠T1)
  (G1:Fn K mg "cases_of" sCases pza f1 fd1) (F1:cW P w K mg base CX0 7 f1 fd1 pza (spCases T0 p0 q0))
  (G2:Fn K mg "tables_that_fit" sTabF pzo f2 fd2) (F2:cW P w K mg base CX0 11 f2 fd2 pzo (spTabF T0 p0 q0 T1 p1 q1))
  (G3:Fn K mg "tree_by" sTreeB pzp f3 fd3) (F3:cW P w K mg base CX0 11 f3 fd3 pzp (oN P w K mg base T0 p0 q0 T1 p1 q1))
  (G4:Fn K mg "dead_leaf" sDeadL pzk f4 fd4) (F4:cW P w K mg base CX0 4 f4 fd4 pzk pB):cW P w K mg base CX0 12 f fd pza (mV T0 p0 q0 T1 p1 q1 T2):=by
 refine okC F hcd scTabFor (by contradiction) (fun A outer s H vs Q E hr h=>?_);obtain ⟨v,b,m,sp,rfl,hv,N,hc,hT0,hT1,hT2,k⟩:=h;have hr7:Room 7 _:=hr.mono (by decide);refine ⟨_,PSl.h (aU ⟨(psZ 1 scTabFor.nd (pc1 G1 F1 hr7 (ag (pv 0) aC)))⟩
  (aU ⟨(fU (cu p7 (pv 1) (pe_gint MC) (cJ _)) (cj ps_out) cX)⟩
  (aU ⟨(psZ 2 scTabFor.nd (pc1 G2 F2 hr (ag (pv 0) (ag bo aC))))⟩
  (aU ⟨(fU (cu p7 (cy bX rfl T.len bI (ag (pv 2) aC)) bo (cJ _)) (cj (bY (eC (ag kf (ag (dG eD (pv 2) bo (fun _ _=>rfl)) aC))))) cX)⟩
  (cZ ⟨(bY (eC (ag kf (ag (pe_callZ (scope:=lsT) (fr:=pza) (js:=[0]) F3 hr (fun _=>rfl) rfl G3.mg G3.F.kp G3.b rfl (by trivial) (by exists jR) (ag (pv 0) (ag (pe_lam (T:=T2) rfl rfl CH B (by exists jR)) aC))) aC))))⟩))))),?_⟩
 refine ⟨_,rfl,v,b,m,sp,rfl,hv,N,by have:=N.b2;lia,hT0,fun H1 l tb1 hT01 fr=>?_⟩;have kp1:=Tb.kp hT0 tb1;have hT11:=LamT.ntb hT1 hT0 (cN ne) tb1;have hT21:=LamT.ntb hT2 hT0 n2 tb1;have cl:=hc l fr;refine ⟨_,rfl,_,_,rfl,rfl,_,rfl,iq (rN (by lia)) ?_⟩;refine ⟨_,rfl,v,b,m,sp,1,rfl,cO kp1.tup hv,N,by decide,hc,hT01,hT11,fun L tv l' rg Ts H2 st2 kp2 hT02 hT12 hL dL R tabs few hold=>?_⟩;have hT22:L2.LamT T2 lpT lqT H2:=by
  obtain ⟨ps0,e0⟩:=LamT.tbl hT01;obtain ⟨ps1,e1⟩:=LamT.tbl hT11
  rcases hT21 with h | ⟨c',h,oc,vs,t,e,r⟩
  ·exact .inl (st2 _ _ n2 n3 h)
  ·exact .inr ⟨c',st2 _ _ n2 n3 h,oc,vs,t,st2 _ _ (eV e e0 nofun) (eV e e1 nofun) e,r⟩
 have ltv:tv.length=Ts.length:=by rw [dL.length];unfold eJ;rw [aa]
 refine ⟨_,rfl,L,_,rfl,.inl (SqL.of hL),_,_,rfl,rfl,_,rfl,?_⟩;cases Ts with
 | cons t Ts =>
  refine om (rM (by rw [ltv,aZ];show ((Ts.length+1:Nat):Int) > 0;lia)) ?_;cases dL with
  | cons d0 ds =>
   rename_i y ys;obtain ⟨qt,qs,rfl,hq,rq⟩:=IsD.tup_of d0;have eq:=rq.ints_of;subst eq;refine ⟨_,rfl,L,_,_,_,rfl,rfl,SqL.of hL,az (j:=0) rfl,mN,fun q H3 S3 h3=>?_⟩;exact k q H3 (fun a o n0 n1 _ e=>S3 _ _ (st2 a o n0 n1 (tb1 a o n0 e))) (kp1.trans (kp2.trans (Same.kp S3))) (LamT.same S3 hT02) (LamT.same S3 hT12) (LamT.same S3 hT22) (.inl ⟨qt,t,h3,S3 _ _ hq,tabs t (by simp)⟩)
 | nil =>
  refine iq (rN (by rw [ltv];decide)) ?_;have nof:∀ T',¬ jG b T' sp=true:=fun T' hT'=>by
   obtain ⟨t,ht,_⟩:=hold (.inl (by decide)) T' hT';cases ht
  have hv2:=cO kp2.tup (cO kp1.tup hv);refine ⟨_,rfl,hT22,fun g cl' H3 tb3 hT23 LF LE=>⟨cl',[v],LE,rfl,fun fz C0 N0=>?_⟩⟩;have kp3:=Tb.kp hT22 tb3;have hT03:=LamT.ntb hT02 hT22 (cN n2) tb3;have hT13:=LamT.ntb hT12 hT22 (cN n3) tb3;have SP:=oW N0;have hT04:=LamT.same SP hT03;have hT14:=LamT.same SP hT13;have LF:LamF lqT laT lbT lsT cl' g H3:=LF;have LF4:=LF.same SP;have hv4:=(cO kp3.tup hv2).same SP;have m2:=N.m2;have m1:=N.m1;have LM:LmOk P w K mg base 6 g (StayT T0 T1 (ptF H3 fz)) (oQ v b m sp (qR b sp)):=by
   refine LmOk.mono (j:=5) (LmOk.imp (lam_run (k:=4) (q:=lqT) (params:=laT) (body:=lbT) (scope:=lsT) (cl:=cl') (fz:=fz) (x := "case") (fr:=pza) (ws:=[v]) (fun _ _ _ _=>rfl) rfl rfl rfl (by trivial) rfl (by decide) C0 (fun y hy hf=>?_) (by trivial) (fun L' cd A' outer' s' H' hr'=>pc1 G4 F4 hr' (ag (pv 1) (ag (pv 0) aC))) (fun v' Hx Qx _ Zx hsp=>?_)) fun Hx st=>?_) (by decide)
   ·have e:y.1 = "net" := (by trivial:∀ y:Str×cP,y∈lsT.names→y.2=cP.free→y.1 = "net") y hy hf
    obtain ⟨cc,_,_,ec,_⟩:=C0.val 0 "net" v rfl rfl;exact ⟨cc,by rw [e];exact ec⟩
   ·obtain ⟨l2,rg2,q2,c2,e2,R2,cd2,ok2,hvx,kk⟩:=hsp
    cases e2;have KX:=ctF_kp Zx;have f2:=R2.ff N;have tl:l2.length≤15:=by have:=R2.fr.few N.ends (by lia);lia
    refine ⟨_,rfl,_,rfl,v,q2,b,m,sp,c2.1,c2.2,rfl,cO KX.tup hvx,by have:=N.b1;lia,by have:=N.b2;lia,cd2.kp KX,ok2.few,fun z hz=>by rw [ok2.ob.len];exact ((f2.rk z (ok2.sub z hz)).rg N tl).inn,fun r H' S' hd fr'=>?_⟩;refine kk r _ (ptF_back Zx S') ?_
    rcases hd with ⟨rfl,al⟩ | ⟨z,hz,dz,hdz⟩
    ·refine .inr ⟨rfl,al,fj fun nz=>?_⟩
     have ht2:=f2.acy.nodup.2;have fix:∀ j∈l2,(c2.1.getD j (0,0)).1=(c2.1.getD j (0,0)).2:=fun j hj=>by
      have h1:=(ok2.ob.lo j (ht2 j hj)).2.1;have h2:¬ ((c2.1.getD j (0,0)).1<(c2.1.getD j (0,0)).2):=fun z=>nz ⟨j,hj,z⟩
      lia
     obtain ⟨ts,_,_,hf,_⟩:=tight N f2 ok2.ob ⟨fix,ok2.all al⟩;exact nof ts hf
    ·exact .inl ⟨_,IsD.keepP (Same.tupK (oW fr')) dz (l9 z.2).1,l9 z.2,z.2,rfl,(f2.rk z (ok2.sub z hz)).rg N tl,hdz⟩
   ·obtain ⟨ps0,e0⟩:=LamT.tbl hT04
    obtain ⟨ps1,e1⟩:=LamT.tbl hT14;have fz':∀ a o u,ptF H3 fz a=some (.frz o u)→Hx a=some (.frz o u):=fun a o u e=>st a _ (eV e e0 nofun) (eV e e1 nofun) e
    obtain ⟨pm,cd,ct,e,oc,vs,t,ec,r⟩:=LF4;exact ⟨⟨pm,cd,ct,fz' _ _ _ e,oc,vs,t,fz' _ _ _ ec,r⟩,fun a o z=>fz' _ _ _ (pT z)⟩
  refine ⟨v,g,b,m,sp,qR b sp,rfl,hv4,N,hc,hT04,hT14,LM,fun u t H5 st5 kp5 hT05 hT15 du plu gd Z5=>?_⟩;have KC:=ctF_kp Z5;have hT25:L2.LamT T2 lpT lqT H5:=by
   obtain ⟨ps0,e0⟩:=LamT.tbl hT04;obtain ⟨ps1,e1⟩:=LamT.tbl hT14
   rcases LamT.same SP hT23 with h | ⟨c',h,oc,vs,t,e,r⟩
   ·exact .inl (st5 _ _ n2 n3 h)
   ·exact .inr ⟨c',st5 _ _ n2 n3 h,oc,vs,t,st5 _ _ (eV e e0 nofun) (eV e e1 nofun) e,r⟩
  refine ⟨mN,fun q H6 S6 h6=>?_⟩;have kpa:Kp H H6:=kp1.trans (kp2.trans (kp3.trans ((Same.kp SP).trans (kp5.trans (KC.trans (Same.kp S6))))));have sta:∀ a o,a≠T0→a≠T1→a≠T2→H a=some o→H6 a=some o:=fun a o n0 n1 n2' e=>by
   have e3:=tb3 a o n2' (st2 a o n0 n1 (tb1 a o n0 e));have e5:=st5 a o n0 n1 (SP _ _ e3);refine S6 _ _ ?_;have fo:fz a=none:=by
    cases z:fz a with
    | none=>rfl
    | some o'=>rw [N0 a o' z] at e3;cases e3
   rw [ir fo];exact e5
  exact k q H6 sta kpa (LamT.same S6 (LamT.cutF Z5 C0.cell hT05)) (LamT.same S6 (LamT.cutF Z5 C0.cell hT15)) (LamT.same S6 (LamT.cutF Z5 C0.cell hT25)) (.inr ⟨u,t,h6,(IsD.keepP KC.tup du plu).same S6,plu,nof,gd⟩)
abbrev pP:cU:=top 43
abbrev sLeafBy:cU:=top 44
inductive spPriceL (vs:List V)(H:Hp)(Q:VK)(_:XK):Prop
 | mk (v vb:V)(u:ao)(b m:Int)(sp:List Sn)(l:List Nat)(rg:List (Nat×List Stp))(bs:List (Int×Int))(rl:List V)(_:vs=[v,.ref u,vb])(_:IsD H v (kg b m sp))(_:NetT b m sp)(_:FF m sp l rg)(_:H u=some (.lst rl))(_:IsDs H rl (rg.map wayQ))(_:IsD H vb (bndP bs))(_:bs.length=sp.length)(_:∀ r H',Same H H'→IsD H' r (leafP (.price (ox b sp bs rg)))→Q r H')
inductive spLeafBy (vs:List V)(H:Hp)(Q:VK)(_:XK):Prop
 | mk (v:V)(u q:ao)(w:Int)(b m:Int)(sp:List Sn)(l:List Nat)(rg rg':List (Nat×List Stp))(c:Cse)(rl:List V)(_:vs=[v,.ref u,.int w,.ref q])(_:IsD H v (kg b m sp))(_:NetT b m sp)(_:FR m sp l rg)(_:FR m sp l rg')(_:H u=some (.lst rl))(_:IsDs H rl (rg.map wayQ))(_:CsD H q c.1 c.2)(_:CaseOk b sp l rg' c)(_:∀ r H',Same H H'→((∃ d,IsD H' r d∧mL d∧RBest b sp w c.1 d)∨(r= .non∧(∀ z∈c.2,jH b c.1 z.2=false)∧jA b sp c.1 (ox b sp c.1 rg)<w))→Q r H')
theorem sureR_next {bs:List (Int×Int)}{rg:List (Nat×List Stp)}(hi:i<rg.length):km b sp bs (rg.take (i+1))=km b sp bs (rg.take i)++(if sureB b bs rg[i].2=true then [((sAt sp rg[i].1).w,rg[i].2)] else []):=by
 unfold km kY;rw [bf,gE hi,gg,aB];congr 1;show ([rg[i]].filter _).map _=_;rw [dJ,List.filter_nil]
 by_cases e:sureB b bs rg[i].2=true
 ·rw [rJ e,rJ e];rfl
 ·rw [rG e,rG e];rfl
theorem ob_bu {m:Int}{bs:List (Int×Int)}(N:NetT b m sp)(O:OB sp l bs):BsU bs:=fun q hq=>by
 obtain ⟨k,hk,rfl⟩:=List.mem_iff_getElem.mp hq;have hk':k<sp.length:=by rw [←O.len];exact hk
 have h:=O.lo k hk';have e:bs.getD k (0,0)=bs[k]:=by rw [ai,gE hk];rfl
 rw [e] at h;have s:=N.all _ (eu hk');have:=s.l0;have:=s.o60;exact ⟨by lia,h.2.1,by lia⟩
theorem scPriceL:cb ["net","rings","bounds","rows"] pzH (defScope pP):=by trivial
theorem ok_priceL (F:Fun K "price_leaf" "price_leaf" pP f fd)(T:Nm mg)(G1:Fn K mg "is_sure" sSure pzc f1 fd1)(F1:cW P w K mg base CX0 3 f1 fd1 pzc spSure):cW P w K mg base CX0 4 f fd pzH spPriceL:=by
 refine F.ok scPriceL (by contradiction) (fun cdv A outer s H vs Q E hr h=>?_);obtain ⟨v,vb,u,b,m,sp,l,rg,bs,rl,rfl,hv,N,ff,hu,dl,hb,lb,k⟩:=h;obtain ⟨t,p,ys,rfl,ht,hp,hl,hy⟩:=fe hv;have b1:=N.b1;have m2:=N.m2;have fw:=ff.few;have lrl:rl.length=rg.length:=by rw [dl.length,aa]
 have few:=rg_few N ff;refine ⟨_,PSl.h (aU ⟨(pU (iy:=3) (fr:=["net","bounds"]) (js:=[0,2]) scPriceL.nd rfl (.inl rfl) rfl (i8 (pv 1)) (by trivial) rfl (by trivial) rfl (by exists pP) (by trivial) rfl (by trivial) (fun _ _ _ _ _=>⟨(eC (ag (dG (r:=ow K) dN (dG (r:=ow K) dN (dG (r:=ow K) dN (pv 1) bo (fun _ _=>rfl)) (dG (r:=ow K) dN (dG (r:=ow K) dN (pv 0) bo (fun _ _=>rfl)) bo (fun _ _=>rfl)) (fun _ _=>rfl)) bo (fun _ _=>rfl)) (ag (pv 0) aC))),(pS (gj (pc1 G1 F1 hr (ag (pv 1) (ag (pv 2) (ag (pv 0) aC))))))⟩))⟩
  (cZ ⟨(bY (eC (ag kf (ag (fP jI rfl T.ttup jJ (ag (iQ (fr:=[]) (js:=[]) rfl (i8 (pv 3)) (by trivial) rfl (by trivial) rfl (by exists pP) (by trivial) rfl (by trivial) (fun _ _ _ _ _=>⟨(pv 0),(pS (cu p7 (dG (r:=ow K) dN (pv 0) bo (fun _ _=>rfl)) bo (cJ _)))⟩)) aC)) aC))))⟩)),?_⟩
 refine ⟨_,rfl,u,rfl,⟨_,SqL.of hu⟩,?_⟩;refine kl (K:=K) (a:=u) (xs:=rl) (fun i zs HC=>Same H HC∧zs.length≤i∧IsDs HC zs ((km b sp bs (rg.take i)).map rowD)) ⟨Same.refl H,bG _,.nil⟩ (fun i zs HC hi ⟨e1,e2,_⟩=>⟨SqL.of (e1 _ _ hu),e2⟩) (by rw [lrl];exact dW (by lia)) (fun i x zs HC hx ⟨SC,lz,dz⟩=>?_) (fun zs HC ⟨SC,lz,dz⟩ D hD=>?_)
 ·have hi:i<rg.length:=by rw [←lrl];exact (ak.mp hx).1
  obtain ⟨d,ed,dx⟩:=dl.get hx;rw [ax,gE hi] at ed;cases ed;have dx:IsD H x (mf rg[i].2):=dx;have K1:=ff.rk _ (bt hi);have rgi:=K1.rg N (by lia);obtain ⟨pp,ep,_⟩:=K1.way;have dx0:=dx;obtain ⟨pw,yw,rfl,hpw,hlw,rw'⟩:=ib dx;obtain ⟨q0,hq0,hq0'⟩:=iG rw' (show rg[i].2[0]? =some ⟨rg[i].1,1⟩ by rw [ep];rfl);obtain ⟨qs,hqs,hqs'⟩:=hy rg[i].1 (sAt sp rg[i].1) (ji K1.lt);refine ⟨_,rfl,_,rfl,_,rfl,.ref t,vb,.ref pw,b,m,sp,bs,rg[i].2,rfl,hv.same SC,by lia,by have:=N.b2;lia,hb.same SC,dx0.same SC,by rw [lb];exact rgi.inn,fun H4 S4=>⟨_,rfl,?_⟩⟩;have S04:=SC.trans S4;rw [sureR_next hi];cases hs:sureB b bs rg[i].2 with
  | true =>
   rw [rJ rfl];refine iteT ⟨_,rfl,t,_,_,_,rfl,rfl,SqT.of (S04 _ _ ht),az (j:=2) rfl,_,rfl,pw,_,_,_,rfl,rfl,SqT.of (S04 _ _ hpw),az (j:=0) hq0,q0,_,_,_,rfl,rfl,SqT.of (S04 _ _ hq0'),az (j:=0) rfl,p,_,_,_,rfl,rfl,SqT.of (S04 _ _ hp),az (j:=rg[i].1) hqs,qs,_,_,_,rfl,rfl,SqT.of (S04 _ _ hqs'),az (j:=4) rfl,_,rfl,mN,fun q5 H5 S5 h5=>⟨S04.trans S5,by rw [av];exact Nat.succ_le_succ lz,?_⟩⟩;rw [aB];exact ((dz.same S4).same S5).append (.cons (.tup h5 (.cons (.int _) (.cons (dx0.same (S04.trans S5)) .nil))) .nil)
  | false =>
   rw [rG aR,dZ];exact iteF ⟨S04,by lia,dz.same S4⟩
 ·have S3:Same H (upd HC D (.lst zs)):=SC.put hD
  have hD3:(upd HC D (.lst zs)) D=some (.lst zs):=aV;have dz3:=dz.same (Same.put (o:= .lst zs) (Same.refl HC) hD);generalize upd HC D (.lst zs)=H3 at S3 hD3 dz3 ⊢;rw [lrl,aX] at dz3;have lzs:zs.length=(km b sp bs rg).length:=by rw [dz3.length,aa]
  have ls:(km b sp bs rg).length≤40:=by
   unfold km kY;rw [aa];exact bh (eO _ _) few
  refine ⟨_,rfl,D,rfl,⟨_,SqL.of hD3⟩,?_⟩;refine kl (K:=K) (a:=D) (xs:=zs) (fun i ws HC=>HC=H3∧ws.length≤i∧IsDs H3 ws ((((km b sp bs rg).take i).filter posR).map rowD)) ⟨rfl,bG _,.nil⟩ (fun i ws HC hi ⟨e1,e2,_⟩=>⟨by rw [e1];exact SqL.of hD3,e2⟩) (by rw [lzs];exact dW (by lia)) (fun i x ws HC hx ⟨e1,lw,dw⟩=>?_) (fun ws HC ⟨e1,lw,dw⟩ D2 hD2=>?_)
  ·subst e1
   have hi:i<(km b sp bs rg).length:=by rw [←lzs];exact (ak.mp hx).1
   obtain ⟨d,ed,dx⟩:=dz3.get hx;rw [ax,gE hi] at ed;cases ed;have dx0:=dx;obtain ⟨q,xs,rfl,hq,rx⟩:=IsD.tup_of (show IsD HC x (.tup [.int (km b sp bs rg)[i].1,mf (km b sp bs rg)[i].2]) from dx);obtain ⟨y2,rfl⟩:∃ y2,xs=[.int (km b sp bs rg)[i].1,y2]:=by
    cases rx with
    | cons a rx=>cases a;cases rx with
     | cons _ rx=>cases rx;exact ⟨_,rfl⟩
   refine ⟨_,rfl,q,_,_,_,rfl,rfl,SqT.of hq,az (j:=0) rfl,_,_,rfl,rfl,_,rfl,?_⟩;have nx:((km b sp bs rg).take (i+1)).filter posR=((km b sp bs rg).take i).filter posR++(if decide ((km b sp bs rg)[i].1 > 0)=true then [(km b sp bs rg)[i]] else []):=by
    rw [bf,gE hi,gg];show _++[(km b sp bs rg)[i]].filter _=_;rw [dJ,List.filter_nil];rfl
   rw [nx];cases hc:decide ((km b sp bs rg)[i].1 > 0) with
   | true =>
    rw [rJ rfl];refine iteT ⟨_,rfl,rfl,by rw [av];exact Nat.succ_le_succ lw,?_⟩;rw [aB];exact dw.append (.cons dx0 .nil)
   | false =>
    rw [rG aR,dZ];exact iteF ⟨rfl,by lia,dw⟩
  ·subst e1
   refine ⟨D2,_,rfl,SqL.of aV,fun p3 H4 S4 h4=>⟨mN,fun q5 H5 S5 h5=>?_⟩⟩;have S35:=(Same.put (o:= .lst ws) (Same.refl HC) hD2).trans (S4.trans S5);rw [lzs,aX] at dw;exact k (.ref q5) H5 (S3.trans S35) (.tup h5 (.cons (.str _) (.cons (.tup (S5 _ _ h4) (dw.same S35)) .nil)))
theorem scLeafBy:cb ["net","rings","wait","case","dead","leaf"] pzw (defScope sLeafBy):=by trivial
theorem ok_leafBy (F:Fun K "leaf_by" "leaf_by" sLeafBy f fd)(G1:Fn K mg "dead_leaf" sDeadL pzk f1 fd1)(F1:cW P w K mg base CX0 4 f1 fd1 pzk pB)
  (G2:Fn K mg "price_leaf" pP pzH f2 fd2) (F2:cW P w K mg base CX0 4 f2 fd2 pzH spPriceL)
  (G3:Fn K mg "worth_of" sWorth pzD f3 fd3) (F3:cW P w K mg base CX0 3 f3 fd3 pzD spWorth):cW P w K mg base CX0 5 f fd pzw spLeafBy:=by
 refine F.ok scLeafBy (by contradiction) (fun cdv A outer s H vs Q E hr h=>?_);obtain ⟨v,u,q,w0,b,m,sp,l,rg,rg',c,rl,rfl,hv,N,R,R',hu,dl,cd,ok,k⟩:=h;have hr3:Room 3 _:=hr.mono (by decide);have ff:=R.ff N;have ff':=R'.ff N;have b1:=N.b1;have m2:=N.m2;have fw:=ff.few;refine ⟨_,PSl.h (aU ⟨(psZ 4 scLeafBy.nd (pc1 G1 F1 hr (ag (pv 0) (ag (pv 3) aC))))⟩
  (aU ⟨(fU (cu op_notN (pv 4) iJ (cJ _)) (cj (bY (pv 4))) cX)⟩
  (aU ⟨(psZ 5 scLeafBy.nd (pc1 G2 F2 hr (ag (pv 0) (ag (pv 1) (ag (ixZ (pv 3)) aC)))))⟩
  (cZ ⟨(bY (l5 (cu op_ge (pc1 G3 F3 hr3 (ag (pv 0) (ag (ixZ (pv 3)) (ag (pv 5) aC)))) (pv 2) (cJ _)) (pv 5) iJ))⟩)))),?_⟩
 refine ⟨_,rfl,_,rfl,v,q,b,m,sp,c.1,c.2,rfl,hv,by lia,by have:=N.b2;lia,cd,ok.few,fun z hz=>by rw [ok.ob.len];exact ((ff'.rk z (ok.sub z hz)).rg N (by lia)).inn,fun r H1 S1 hd=>?_⟩
 rcases hd with ⟨rfl,al⟩ | ⟨z,hz,dz,hdz⟩
 rotate_left
 ·have nn:r≠ .non:=fun e=>by rw [e] at dz;cases dz
  refine ⟨_,rfl,rfl,_,rfl,om (by rw [rN nn];rfl) ?_⟩;exact ⟨_,rfl,k r H1 S1 (.inl ⟨_,dz,l9 z.2,.inl ⟨z.2,rfl,(ff'.rk z (ok.sub z hz)).rg N (by lia),hdz⟩⟩)⟩
 refine ⟨_,rfl,rfl,_,rfl,iq (by rw [rM rfl];rfl) ?_⟩;obtain ⟨vb,u',rl',a1,a2,a3,a4⟩:=(cd.same S1).ex;refine ⟨_,rfl,_,rfl,_,rfl,q,_,_,_,rfl,rfl,SqT.of a1,az (j:=0) rfl,v,vb,u,b,m,sp,l,rg,c.1,rl,rfl,hv.same S1,N,ff,S1 _ _ hu,dl.same S1,a2,ok.ob.len,fun r2 H2 S2 d2=>?_⟩;obtain ⟨pok,pfew⟩:=price_ok (bs:=c.1) N ff;refine ⟨_,rfl,_,rfl,q,_,_,_,rfl,rfl,SqT.of (S2 _ _ a1),az (j:=0) rfl,_,rfl,v,vb,r2,b,m,sp,c.1,ox b sp c.1 rg,rfl,⟨(hv.same S1).same S2,a2.same S2,d2,by lia,by have:=N.b2;lia,ok.ob.len,N.few,ob_bu N ok.ob,N.ws,fun r hr=>⟨(pok r hr).1.inn,(pok r hr).1.one,(pok r hr).1.few,(pok r hr).2.2.1,(pok r hr).2.2.2⟩,by lia⟩,fun H3 S3=>?_⟩;refine ⟨_,rfl,_,_,rfl,rfl,_,rfl,?_⟩;have S03:=S1.trans (S2.trans S3)
 by_cases e:jA b sp c.1 (ox b sp c.1 rg) ≥ w0
 ·exact om (rM e) ⟨_,rfl,k r2 H3 S03 (.inl ⟨_,d2.same S3,qg _,.inr ⟨_,rfl,pok,pfew,e⟩⟩)⟩
 ·exact iq (rN e) (k .non H3 S03 (.inr ⟨rfl,al,by lia⟩))
abbrev sWaitOf:cU:=top 26
abbrev sWaitIn:cU:=top 24
abbrev sWaits:cU:=top 25
theorem oR:cb ["net","table","span","start","goal","least"] pzI (defScope sWaitIn):=by trivial
theorem ok_waitIn (F:Fun K "wait_in" "wait_in" sWaitIn f fd)(G1:Fn K mg "rest_by" sRest pzl f1 fd1):cW P w K mg base CX0 2 f fd pzI spWaitIn:=by
 have F1:cW P w K mg base CX0 1 f1 fd1 pzl spRest:=ok_rest G1.F;refine F.ok oR (by contradiction) (fun cdv A outer s H vs Q E hr h=>?_);obtain ⟨v,u,b,m,sp,ts,i,x,rfl,hv,hu,R,hx,k⟩:=h;obtain ⟨t,p,ys,rfl,ht,hp,hl,hy⟩:=fe hv;obtain ⟨q,hq,hq2⟩:=hy i x hx;obtain ⟨s0,s1,g0,g1⟩:=R.ends x (bj hx);refine ⟨_,PSl.h (aU ⟨(psZ 3 oR.nd (ixZ (dG dN (ixZ (pv 0)) (pv 2) (fun _ _=>rfl))))⟩
  (aU ⟨(psZ 4 oR.nd (ixZ (dG dN (ixZ (pv 0)) (pv 2) (fun _ _=>rfl))))⟩
  (aU ⟨(psZ 5 oR.nd (ixZ (dG dN (ixZ (pv 0)) (pv 2) (fun _ _=>rfl))))⟩
  (cZ ⟨(bY (pc1 G1 F1 hr (ag (ixZ (pv 0)) (ag (cg jj (cg jj (dG dN (pv 1) (pv 4) (fun _ _=>rfl)) (dG dN (pv 1) (pv 3) (fun _ _=>rfl))) (pv 5)) aC))))⟩)))),?_⟩
 refine ⟨_,rfl,t,_,_,_,rfl,rfl,SqT.of ht,az (j:=2) rfl,_,rfl,p,_,_,_,rfl,rfl,SqT.of hp,az (j:=i) hq,q,_,_,_,rfl,rfl,SqT.of hq2,az (j:=0) rfl,?_⟩;refine ⟨_,rfl,t,_,_,_,rfl,rfl,SqT.of ht,az (j:=2) rfl,_,rfl,p,_,_,_,rfl,rfl,SqT.of hp,az (j:=i) hq,q,_,_,_,rfl,rfl,SqT.of hq2,az (j:=1) rfl,?_⟩;refine ⟨_,rfl,t,_,_,_,rfl,rfl,SqT.of ht,az (j:=2) rfl,_,rfl,p,_,_,_,rfl,rfl,SqT.of hp,az (j:=i) hq,q,_,_,_,rfl,rfl,SqT.of hq2,az (j:=2) rfl,?_⟩;refine ⟨_,rfl,t,_,_,_,rfl,rfl,SqT.of ht,az (j:=0) rfl,?_⟩;refine ⟨_,rfl,_,rfl,u,_,_,_,rfl,rfl,SqT.of hu,tm_at g0 g1,_,rfl,_,rfl,u,_,_,_,rfl,rfl,SqT.of hu,tm_at s0 s1,_,_,rfl,rfl,_,rfl,_,_,rfl,rfl,?_⟩;exact ⟨b,_,rfl,R.b1,k⟩
theorem scWaits:cb pzf pzf (defScope sWaits):=by trivial
theorem ok_waits (F:Fun K "waits_of" "waits_of" sWaits f fd)(T:Nm mg)(T2:Nt mg)(G1:Fn K mg "rest_by" sRest pzl f1 fd1)(G2:Fn K mg "wait_in" sWaitIn pzI f2 fd2):cW P w K mg base CX0 3 f fd pzf spWaits:=by
 have F2:cW P w K mg base CX0 2 f2 fd2 pzI spWaitIn:=ok_waitIn G2.F G1;refine F.ok scWaits (by contradiction) (fun cdv A outer s H vs Q E hr h=>?_);obtain ⟨v,u,b,m,sp,ts,rfl,hv,hu,R,k⟩:=h;obtain ⟨t,p,ys,rfl,ht,hp,hl,hy⟩:=fe hv;refine ⟨_,PSl.h (cZ ⟨(bY (fP jI rfl T.ttup jJ (ag (iQ (fr:=pzf) (js:=[0,1]) rfl (iI rfl T2.range (ag (cy bX rfl T.len bI (ag (ixZ (pv 0)) aC)) aC)) (by trivial) rfl (by trivial) rfl (by exists sWaits) (by trivial) rfl (by trivial) (fun _ _ _ _ _=>⟨(pc1 G2 F2 hr (ag (pv 1) (ag (pv 2) (ag (pv 0) aC)))),ie⟩)) aC)))⟩),?_⟩;have few:=R.few;refine ⟨_,rfl,t,_,_,_,rfl,rfl,SqT.of ht,az (j:=2) rfl,p,_,rfl,.inr (SqT.of hp),_,rfl,by lia,by lia,?_⟩;refine md (n:=((ys.length:Int)).toNat) (fun i zs H2=>H2=H∧zs=(jB b ts (sp.take i)).map V.int) ⟨rfl,rfl⟩ (fun i zs H2 hi ⟨e1,e2⟩=>?_) (by rw [cL,hl];exact dW few) (fun i zs H2 hi ⟨e1,e2⟩=>?_) (fun zs H2 ⟨e1,e2⟩ D hD=>?_)
 ·rw [e2,aa];unfold jB;rw [aa,bL];lia
 ·subst e1
  rw [cL,hl] at hi;refine gH ?_;refine ⟨_,rfl,_,rfl,_,rfl,.ref t,u,b,m,sp,ts,i,sp[i],?_,hv,hu,R,gE hi,rfl,?_⟩
  ·rw [gO];rfl
  ·rw [e2];unfold jB
   rw [bf,gE hi,aB,aB];rfl
 ·subst e1
  refine ⟨D,_,rfl,SqL.of aV,fun p3 H3 S3 h3=>?_⟩;refine k p3 H3 ((Same.put (Same.refl H2) hD).trans S3) ?_;rw [h3,e2,cL,hl,aX]
theorem scWaitOf:cb pzf pzf (defScope sWaitOf):=by trivial
theorem ok_waitOf (F:Fun K "wait_of" "wait_of" sWaitOf f fd)(T:Nm mg)(T2:Nt mg)(G1:Fn K mg "waits_of" sWaits pzf f1 fd1)(F1:cW P w K mg base CX0 3 f1 fd1 pzf spWaits):cW P w K mg base CX0 4 f fd pzf kT:=by
 refine F.ok scWaitOf (by contradiction) (fun cdv A outer s H vs Q E hr h=>?_);obtain ⟨v,u,b,m,sp,ts,rfl,hv,hu,R,hw,k⟩:=h;obtain ⟨t,p,ys,e0,ht,hp,hl,hy⟩:=fe hv;subst e0;refine ⟨_,PSl.h (cZ ⟨(bY (cy (call_sum rfl) rfl T2.sum boot_sum (ag (pe_compT (xs:=["span","wait"]) (fr:=[]) (js:=[]) rfl (pi_zip2 rfl T2.zip (ag (ixZ (pv 0)) (ag (pc1 G1 F1 hr (ag (pv 0) (ag (pv 1) aC))) aC))) (by trivial) rfl (by trivial) (by exists sWaitOf) rfl (by trivial) (fun _ _ _ _ _=>pg_two rfl (by trivial) rfl rfl) (fun _ _ _ _ _=>⟨(cg ij (dG (r:=ow K) dN (pv 0) bo (fun _ _=>rfl)) (pv 1)),ie⟩)) aC)))⟩),?_⟩;have few:=R.few;refine ⟨_,rfl,t,_,_,_,rfl,rfl,SqT.of ht,az (j:=2) rfl,_,rfl,_,rfl,_,u,b,m,sp,ts,rfl,hv,hu,R,fun p1 H1 S1 h1=>?_⟩;refine ⟨⟨false,p⟩,⟨false,p1⟩,_,_,rfl,S1 _ _ hp,h1,?_⟩;refine rm (K:=K) (c1:=⟨false,p⟩) (c2:=⟨false,p1⟩) (xs:=ys) (ys:=(jB b ts sp).map V.int) (fun i zs H2=>Same H1 H2∧zs=((sp.take i).map fun x=>x.w * gi b ts x).map V.int) ⟨Same.refl H1,rfl⟩ (fun i zs H2 hi ⟨S2,e2⟩=>⟨S2 _ _ (S1 _ _ hp),S2 _ _ h1,?_⟩) (by unfold jB;rw [aa,aa,hl]) (by rw [hl];exact dW few) (fun i x y zs pz H2 hx hx' ⟨S2,e2⟩ hpz=>?_) (fun zs H2 ⟨S2,e2⟩ D hD=>?_)
 ·rw [e2,aa,aa,bL];lia
 ·have hi:i<sp.length:=by rw [←hl];exact (ak.mp hx).1
  obtain ⟨q,hq,hq2⟩:=hy i sp[i] (gE hi);rw [hx] at hq;cases hq;unfold jB at hx';rw [ax,ax,gE hi] at hx';cases hx';have S3:Same H1 (upd H2 pz (.tup [.ref q,.int (gi b ts sp[i])])):=S2.put hpz;generalize upd H2 pz (.tup [.ref q,.int (gi b ts sp[i])])=H3 at S3 ⊢;have hq3:=S3 _ _ (S1 _ _ hq2);obtain ⟨w0,w1⟩:=hw sp[i] (bt hi);refine gH ?_;refine ⟨_,rfl,q,_,_,_,rfl,rfl,SqT.of hq3,az (j:=4) rfl,_,rfl,_,_,rfl,rfl,.inl ⟨by lia,by lia⟩,S3,?_⟩;rw [e2,bf,gE hi,aB,aB];rfl
 ·refine ⟨D,_,rfl,SqL.of (by rw [e2];exact aV),?_⟩
  have e3:((sp.take ys.length).map fun x=>x.w * gi b ts x).sum=fJ b ts sp:=by
   unfold fJ;rw [hl,aX]
  rw [e3];exact k _ (S1.trans (S2.put hD))
abbrev lO:cU:=top 45
def lamE6:List cU→Expr
 | [_,_,_,_,_,.Return (some (.Tuple [_,_,_,.Call _ [_,e] _ _] _ _)) _]=>e
 | _=> .Constant .none 0 ⟨0,0,0,0⟩
abbrev laB:fE:=lamA5 (lamE6 (fR lO))
abbrev lbB:Expr:=lamB5 (lamE6 (fR lO))
abbrev lsB:fH:=lamS5 (lamE6 (fR lO))
abbrev lqB:Str:=(("best_for" :Str) ++ ".<locals>.") ++ "<lambda>"
theorem LmOk.imp2 {k:Nat}{Hg:Hp→Prop}{sp sp':Sp}(L:LmOk P w K mg base k f Hf sp')(h:∀ H,Hg H→Hf H)(h2:∀ v H Q,Hg H→sp [v] H Q E0→sp' [v] H Q E0):LmOk P w K mg base k f Hg sp:=⟨fun H hh g=>L.isFn H hh (h H g),fun A outer s H u v Q hr e0 g ru hsp=>L.run A outer s H u v Q hr e0 (h H g) ru (h2 v H Q g hsp)⟩
theorem LamT.stayF {T:ao}(k:L2.LamT T lp lq H)(hT:∀ ps,H T=some (.tbl ps)→H' T=some (.tbl ps))(hf:∀ a o u,H a=some (.frz o u)→H' a=some (.frz o u)):L2.LamT T lp lq H':=by
 rcases k with k | ⟨c,k,oc,vs,t,e,r⟩
 ·exact .inl (hT _ k)
 ·exact .inr ⟨c,hT _ k,oc,vs,t,hf _ _ _ e,r⟩
theorem LamG.cutF {T:ao}(F:Fz fz H)(cl:∀ c o,fz c=some o→∃ v,o.data= .cell v)(h:L2.LamG T lq H):L2.LamG T lq (ctF H fz):=by
 obtain ⟨l,e,r⟩:=h;refine ⟨l,F.cut e (fun _ z=>by cases z),fun x hx=>?_⟩;obtain ⟨oc,vs,t,e2,hd,z⟩:=r x hx;refine ⟨oc,vs,t,?_,hd,z⟩;cases q:fz x.2 with
 | none=>rw [ir q];exact e2
 | some o' =>
  obtain ⟨v,hv⟩:=cl _ o' q;rw [F _ o' q] at e2;cases e2;rw [hd] at hv;cases hv
theorem lay_all {m:Int}{rg:List (Nat×List Stp)}{t T:List Int}(N:NetT b m sp)(f:FF m sp l rg)(h1:jG b t sp=true)(h2:jG b T sp=true)(e:∀ k∈l,il b t sp k=il b T sp k):∀ k,k<sp.length→il b t sp k=il b T sp k:=fun k hk=>by
 by_cases c:k∈l
 ·exact e k c
 have hb:0<b:=by have:=N.b1;lia
 have m2:=N.m2;have fw:=f.few;obtain ⟨r,hr⟩:=f.all k hk c;have R:=f.rk _ hr;have rgk:=R.rg N (by lia);obtain ⟨p,ep,P⟩:=R.way;have ep:r=⟨k,1⟩::p:=ep;obtain ⟨x0,al⟩:=rgk.rnd;obtain ⟨Z1,a1⟩:=alg_way (b:=b) (ts:=t) (sp:=sp) r x0 x0 rgk.inn al;obtain ⟨Z2,a2⟩:=alg_way (b:=b) (ts:=T) (sp:=sp) r x0 x0 rgk.inn al;have same:∀ (q:List Stp),(∀ s∈q,s.i∈l)→alg (il b t sp) q=alg (il b T sp) q:=fun q=>by
  induction q with
  | nil=>intro _;rfl
  | cons s q ih =>
   intro hs;show s.d * il b t sp s.i+alg _ q=s.d * il b T sp s.i+alg _ q;rw [ih fun z hz=>hs z (ay _ hz),e s.i (hs s (by simp))]
 have sp':=same p fun s hs=>(P.inn s hs).1
 rw [ep] at a1 a2;have a1:1 * il b t sp k+alg (il b t sp) p=tm t x0 - tm t x0+b * Z1:=a1;have a2:1 * il b T sp k+alg (il b T sp) p=tm T x0 - tm T x0+b * Z2:=a2;have i1:=lay_in hb h1 k (by rw [aa];exact hk);have i2:=lay_in hb h2 k (by rw [aa];exact hk);have s:=N.all _ (eu hk);have eb:(sp.map fun x=>(x.l,x.o)).getD k (0,0)=((sAt sp k).l,(sAt sp k).o):=by
  rw [ai,ax,ji hk];rfl
 rw [eb] at i1 i2;have i1:(sAt sp k).l≤il b t sp k∧il b t sp k≤(sAt sp k).o:=i1;have i2:(sAt sp k).l≤il b T sp k∧il b T sp k≤(sAt sp k).o:=i2;have ob:=s.ob;have d:il b t sp k - il b T sp k=b * (Z1 - Z2):=by rw [Int.mul_sub];lia
 rcases jO 0 (Z1 - Z2) with z | z
 ·have:b * 1≤b * (Z1 - Z2):=fQ (by lia) (by lia)
  lia
 ·rcases jO (Z1 - Z2) 0 with z' | z'
  ·have:b * (Z1 - Z2)≤b * (-1):=fQ (by lia) (by lia)
   lia
  ·have:Z1 - Z2=0:=by lia
   rw [this,hX] at d;lia
theorem wait_same {t T:List Int}(e:∀ k,k<sp.length→il b t sp k=il b T sp k):fJ b t sp=fJ b T sp:=by
 rw [oK,oK,←kE,←kE];congr 1;refine fV fun k hk=>?_
 rw [e k (bO.mp hk)]
structure BestA (H:Hp)(q:ao)(b m:Int)(sp:List Sn)(qt:ao)(ts:List Int)(u:V)(t:Tq):Prop where
 q:H q=some (.tup [.str "best",.ref qt,.int (fJ b ts sp),u])
 qt:H qt=some (.tup (ts.map V.int))
 tab:TabOk b m sp ts
 least:∀ T,jG b T sp=true→fJ b ts sp≤fJ b T sp
 tree:IsD H u (jk t)
 pl:pl (jk t)=true
 good:qS (RBest b sp (fJ b ts sp)) t (sp.map fun z=>(z.l,z.o)) 21
structure NoneA (H:Hp)(q:ao)(b:Int)(sp:List Sn)(u:V)(t:Tq):Prop where
 q:H q=some (.tup [.str "none",u])
 tree:IsD H u (jk t)
 pl:pl (jk t)=true
 no:∀ T,¬ jG b T sp=true
 good:qS (qR b sp) t (sp.map fun z=>(z.l,z.o)) 21
inductive spBest (T0:ao)(p0:Pos)(q0:Str)(T1:ao)(p1:Pos)(q1:Str)(T2 T3:ao)(vs:List V)(H:Hp)(Q:VK)(_:XK):Prop
 | mk (v:V)(b m:Int)(sp:List Sn)(_:vs=[v])(_:IsD H v (kg b m sp))(_:NetT b m sp)(_:(∀ l,FrstL m.toNat sp l→jE sp l≤4096))(_:L2.LamT T0 p0 q0 H)(_:L2.LamT T1 p1 q1 H)(_:L2.LamT T2 lpT lqT H)(_:L2.LamG T3 lqB H)(_:∀ (q:ao) (H':Hp),Kp H H'→L2.LamT T0 p0 q0 H'→L2.LamT T1 p1 q1 H'→L2.LamT T2 lpT lqT H'→L2.LamG T3 lqB H'→((∃ u t,NoneA H' q b sp u t)∨∃ qt ts u t,BestA H' q b m sp qt ts u t)→Q (.ref q) H')
theorem pJ:cb ["net","found","table","wait","rings"] pza (defScope lO):=by trivial
theorem ok_best {f5 f6 c T2 T3:ao}{fd6:bq}(F:Fun K "best_for" "best_for" lO f fd)(hcd:fd.code= .ref c)(CH:eQ K c T3=true)(B:BM mg base)(T:Nm mg)(MC:∃ t,mg "MOST_CASES" =some (.int 4096 t))(ne:T0≠T1)(n2:T2≠T0)(n3:T2≠T1)(m0:T3≠T0)(m1:T3≠T1)(m2:T3≠T2)
  (G1:Fn K mg "table_for" jR pza f1 fd1) (F1:cW P w K mg base CX0 12 f1 fd1 pza (mV T0 p0 q0 T1 p1 q1 T2))
  (G2:Fn K mg "tables_that_fit" sTabF pzo f2 fd2) (F2:cW P w K mg base CX0 11 f2 fd2 pzo (spTabF T0 p0 q0 T1 p1 q1))
  (G3:Fn K mg "tree_by" sTreeB pzp f3 fd3) (F3:cW P w K mg base CX0 11 f3 fd3 pzp (oN P w K mg base T0 p0 q0 T1 p1 q1))
  (G4:Fn K mg "leaf_by" sLeafBy pzw f4 fd4) (F4:cW P w K mg base CX0 5 f4 fd4 pzw spLeafBy)
  (G5:Fn K mg "wait_of" sWaitOf pzf f5 fd5) (F5:cW P w K mg base CX0 4 f5 fd5 pzf kT)
  (G6:Fn K mg "rings_of" pO pza f6 fd6) (F6:cW P w K mg base CX0 8 f6 fd6 pza (oP T0 p0 q0)):cW P w K mg base CX0 13 f fd pza (spBest T0 p0 q0 T1 p1 q1 T2 T3):=by
 refine okC F hcd pJ (by contradiction) (fun A outer s H vs Q E hr h=>?_);obtain ⟨v,b,m,sp,rfl,hv,N,hc,hT0,hT1,hT2,hT3,k⟩:=h;have hr4:Room 4 _:=hr.mono (by decide);have hr8:Room 8 _:=hr.mono (by decide);have hr11:Room 11 _:=hr.mono (by decide);refine ⟨_,PSl.h (aU ⟨(psZ 1 pJ.nd (pc1 G1 F1 hr (ag (pv 0) aC)))⟩
  (aU ⟨(fU (cu lT (ixZ (pv 1)) kf (cJ _)) (cj (bY (pv 1))) cX)⟩
  (aU ⟨(psZ 2 pJ.nd (pe_minL (js:=[0]) (fr:=pza) (x := "other") (c:=c) (P:=T3) rfl hr.depth rfl T.min (pc1 G2 F2 hr11 (ag (pv 0) (ag (pe_gint MC) aC))) rfl rfl CH B (fun _ _ _ _ _ _=>rfl) rfl rfl rfl (by trivial) rfl (by decide) (by exists lO) rfl (by trivial)
   (fun cl L f' cd s' H'=>pc1 G5 F5 (((hr.in1).in1).deeper _ |>.mono (by decide)) (ag (pv 1) (ag (pv 0) aC)))))⟩
  (aU ⟨(psZ 3 pJ.nd (pc1 G5 F5 hr4 (ag (pv 0) (ag (pv 2) aC))))⟩
  (aU ⟨(psZ 4 pJ.nd (pc1 G6 F6 hr8 (ag (pv 0) aC)))⟩
  (cZ ⟨(bY (eC (ag kf (ag (pv 2) (ag (pv 3) (ag (pe_callZ (scope:=lsB) (fr:=["net","rings","wait"]) (js:=[0,4,3]) F3 hr11 (fun _=>rfl) rfl G3.mg G3.F.kp G3.b rfl (by trivial) (by exists lO) (ag (pv 0) (ag (pe_lamG (T:=T3) rfl rfl CH B (by exists lO)) aC))) aC))))))⟩)))))),?_⟩
 obtain ⟨ps0,et0⟩:=LamT.tbl hT0;obtain ⟨ps1,et1⟩:=LamT.tbl hT1;obtain ⟨ps2,et2⟩:=LamT.tbl hT2;refine ⟨_,rfl,v,b,m,sp,rfl,hv,N,hc,hT0,hT1,hT2,fun q H1 st1 kp1 hT01 hT11 hT21 ans=>?_⟩;have hT31:L2.LamG T3 lqB H1:=hT3.stay (fun ps e=>st1 _ _ m0 m1 m2 e) fun a o u e=>st1 _ _ (eV e et0 nofun) (eV e et1 nofun) (eV e et2 nofun) e
 have hv1:=cO kp1.tup hv
 rcases ans with ⟨qt0,t0,hq,hqt,tok0⟩ | ⟨u,t,hq,du,plu,nof,gd⟩
 rotate_left
 ·refine ⟨_,rfl,q,_,_,_,rfl,rfl,SqT.of hq,az (j:=0) rfl,rfl,_,rfl,om (rM rfl) ?_⟩
  exact ⟨_,rfl,k q H1 kp1 hT01 hT11 hT21 hT31 (.inl ⟨u,t,hq,du,plu,nof,gd⟩)⟩
 refine ⟨_,rfl,q,_,_,_,rfl,rfl,SqT.of hq,az (j:=0) rfl,rfl,_,rfl,iq (rN nofun) ?_⟩;obtain ⟨qs0,eu0⟩:=LamT.tbl hT01;obtain ⟨qs1,eu1⟩:=LamT.tbl hT11;refine ⟨_,rfl,v,b,m,sp,4096,rfl,hv1,N,by decide,hc,hT01,hT11,fun L tv l rg Ts H2 st2 kp2 hT02 hT12 hL dL R tabs few hold=>?_⟩;have fz2:∀ a o u,H1 a=some (.frz o u)→H2 a=some (.frz o u):=fun a o u e=>st2 _ _ (eV e eu0 nofun) (eV e eu1 nofun) e
 have hT22:L2.LamT T2 lpT lqT H2:=LamT.stayF hT21 (fun ps e=>st2 _ _ n2 n3 e) fz2;have hT32:L2.LamG T3 lqB H2:=hT31.stay (fun ps e=>st2 _ _ m0 m1 e) fz2;have hv2:=cO kp2.tup hv1;have ff:=R.ff N;have holdA:=hold (.inr rfl);have ltv:tv.length=Ts.length:=by rw [dL.length];unfold eJ;rw [aa]
 have hne:tv≠[]:=fun z=>by
  obtain ⟨t,ht,_⟩:=holdA t0 tok0.2.2;rw [z] at ltv;rw [jg.mp ltv.symm] at ht;cases ht
 have nm1:=N.m1;have rdyT:∀ t∈Ts,Rdy b t sp:=fun t ht=>N.rdy (by have:=(tabs t ht).1;lia)
 have getT:∀ (i:Nat) x,tv[i]? =some x→∃ qx,x= .ref qx∧H2 qx=some (.tup ((Ts.getD i []).map V.int))∧Ts.getD i []∈Ts:=fun i x hx=>by
  have hi:i<Ts.length:=by rw [←ltv];exact (ak.mp hx).1
  obtain ⟨d,ed,dx⟩:=dL.get hx;unfold eJ at ed;rw [ax,gE hi] at ed;cases ed;obtain ⟨qx,xs,rfl,hqx,rx⟩:=dx.tup_of;have:=rx.ints_of;subst this;have e:Ts.getD i []=Ts[i]:=by rw [ai,gE hi];rfl
  rw [e];exact ⟨qx,rfl,hqx,bt hi⟩
 obtain ⟨qs3,eu3⟩:=hT32.tbl;refine ⟨L,tv,fun i=>fJ b (Ts.getD i []) sp,rfl,hL,hne,hT32,fun i x hx H3 tb=>?_,fun H4 i x tb4 hT34 hx mini=>?_⟩
 ·obtain ⟨qx,rfl,hqx,memx⟩:=getT i x hx
  have nqx:qx≠T3:=eV hqx eu3 nofun;refine ⟨_,rfl,_,rfl,v,qx,b,m,sp,_,rfl,cO (fun a xs e=>tb _ _ (eV e eu3 nofun) e) hv2,tb _ _ nqx hqx,rdyT _ memx,N.ws,fun H' S'=>⟨S',rfl⟩⟩
 obtain ⟨qx,rfl,hqx,memx⟩:=getT i x hx;obtain ⟨ts,ets⟩:∃ ts,ts=Ts.getD i []:=⟨_,rfl⟩;have mini:∀ j,j<tv.length→fJ b (Ts.getD i []) sp≤fJ b (Ts.getD j []) sp:=mini;rw [←ets] at hqx memx mini;have tok:=tabs ts memx;have kp4:Kp H2 H4:=⟨fun a xs e=>tb4 _ _ (eV e eu3 nofun) e,fun a xs e=>tb4 _ _ (eV e eu3 nofun) e,fun a _ xs e=>tb4 _ _ (eV e eu3 nofun) e⟩;have least:∀ T',jG b T' sp=true→fJ b ts sp≤fJ b T' sp:=fun T' hT'=>by
  obtain ⟨t',ht',el⟩:=holdA T' hT';rw [←wait_same (lay_all N ff (tabs t' ht').2.2 hT' el)];obtain ⟨j,hj,rfl⟩:=List.mem_iff_getElem.mp ht';have:=mini j (by lia);have e:Ts.getD j []=Ts[j]:=by rw [ai,gE hj];rfl
  rw [e] at this;exact this
 have fz4:∀ a o u,H2 a=some (.frz o u)→H4 a=some (.frz o u):=fun a o u e=>tb4 _ _ (eV e eu3 nofun) e
 have hT04:L2.LamT T0 p0 q0 H4:=LamT.stayF hT02 (fun ps e=>tb4 _ _ (cN m0) e) fz4;have hT14:L2.LamT T1 p1 q1 H4:=LamT.stayF hT12 (fun ps e=>tb4 _ _ (cN m1) e) fz4;have hT24:L2.LamT T2 lpT lqT H4:=LamT.stayF hT22 (fun ps e=>tb4 _ _ (cN m2) e) fz4;have hv4:=cO kp4.tup hv2;have hqx4:=kp4.tup _ _ hqx;refine ⟨_,rfl,_,rfl,v,qx,b,m,sp,ts,rfl,hv4,hqx4,rdyT ts memx,N.ws,fun H5 S5=>?_⟩;obtain ⟨w0,ew0⟩:∃ w0,w0=fJ b ts sp:=⟨_,rfl⟩;rw [←ew0];refine ⟨_,rfl,v,b,m,sp,rfl,hv4.same S5,N,LamT.same S5 hT04,fun u6 rl l6 rg6 H6 tb6 hT06 fr6 hu6 dl6 R6=>?_⟩;have hT05:=LamT.same S5 hT04;obtain ⟨qs5,eu5⟩:=LamT.tbl hT05;have kp6:Kp H5 H6:=Tb.kp hT05 tb6;have fz6:∀ a o u,H5 a=some (.frz o u)→H6 a=some (.frz o u):=fun a o u e=>tb6 _ _ (eV e eu5 nofun) e
 have hT16:L2.LamT T1 p1 q1 H6:=LamT.stayF (LamT.same S5 hT14) (fun ps e=>tb6 _ _ (cN ne) e) fz6;have hT26:L2.LamT T2 lpT lqT H6:=LamT.stayF (LamT.same S5 hT24) (fun ps e=>tb6 _ _ n2 e) fz6;have hT36:L2.LamG T3 lqB H6:=(hT34.same S5).stay (fun ps e=>tb6 _ _ m0 e) fz6;have hv6:=cO kp6.tup (hv4.same S5);have hqx6:=kp6.tup _ _ (S5 _ _ hqx4);refine ⟨_,rfl,_,rfl,_,rfl,hT36,fun g cl' H7 tb7 hT37 LF LE=>⟨cl',[v,.ref u6,.int w0],LE,rfl,fun fz C0 N0=>?_⟩⟩;obtain ⟨qs6,eu6⟩:=hT36.tbl;have fz7:∀ a o u,H6 a=some (.frz o u)→H7 a=some (.frz o u):=fun a o u e=>tb7 _ _ (eV e eu6 nofun) e
 have kp7:Kp H6 H7:=⟨fun a xs e=>tb7 _ _ (eV e eu6 nofun) e,fun a xs e=>tb7 _ _ (eV e eu6 nofun) e,fun a _ xs e=>tb7 _ _ (eV e eu6 nofun) e⟩;have SP:=oW N0;have hT08:L2.LamT T0 p0 q0 (ptF H7 fz):=LamT.same SP (LamT.stayF hT06 (fun ps e=>tb7 _ _ (cN m0) e) fz7);have hT18:L2.LamT T1 p1 q1 (ptF H7 fz):=LamT.same SP (LamT.stayF hT16 (fun ps e=>tb7 _ _ (cN m1) e) fz7);have hT28:L2.LamT T2 lpT lqT (ptF H7 fz):=LamT.same SP (LamT.stayF hT26 (fun ps e=>tb7 _ _ (cN m2) e) fz7);have hT38:L2.LamG T3 lqB (ptF H7 fz):=hT37.same SP;have LF:LamF lqB laB lbB lsB cl' g H7:=LF;have LF8:=LF.same SP;have hv8:=(cO kp7.tup hv6).same SP;have hu8:ptF H7 fz u6=some (.lst rl):=SP _ _ (kp7.lst _ _ hu6);have dl8:IsDs (ptF H7 fz) rl (rg6.map wayQ):=(wayQ_kp kp7 dl6).same SP;obtain ⟨qs8,eu8⟩:=LamT.tbl hT08;obtain ⟨qt8,ev8⟩:=LamT.tbl hT18;have nm2:=N.m2;have LM:LmOk P w K mg base 6 g (StayT T0 T1 (ptF H7 fz)) (oQ v b m sp (RBest b sp w0)):=by
  refine LmOk.imp2 (sp':=fun vs Hx Qx E=>(Hx u6=some (.lst rl)∧IsDs Hx rl (rg6.map wayQ))∧oQ v b m sp (RBest b sp w0) vs Hx Qx E) (lam_run (k:=5) (q:=lqB) (params:=laB) (body:=lbB) (scope:=lsB) (cl:=cl') (fz:=fz) (x := "case") (fr:=["net","rings","wait"]) (ws:=[v,.ref u6,.int w0]) (fun _ _ _ _=>rfl) rfl rfl rfl (by trivial) rfl (by decide) C0 (fun y hy hf=>?_) (by trivial) (fun L' cd A' outer' s' H' hr'=>pc1 G4 F4 hr' (ag (pv 1) (ag (pv 2) (ag (pv 3) (ag (pv 0) aC))))) (fun v' Hx Qx _ Zx hsp=>?_)) (fun Hx st=>?_) fun v' Hx Qx st hsp=>⟨⟨?_,?_⟩,hsp⟩
  ·have e:y.1 = "net" ∨y.1 = "rings" ∨y.1 = "wait" := (by trivial:∀ y:Str×cP,y∈lsB.names→y.2=cP.free→y.1 = "net" ∨y.1 = "rings" ∨y.1 = "wait") y hy hf
   rcases e with e | e | e
   ·obtain ⟨cc,_,_,ec,_⟩:=C0.val 0 "net" v rfl rfl
    exact ⟨cc,by rw [e];exact ec⟩
   ·obtain ⟨cc,_,_,ec,_⟩:=C0.val 1 "rings" (.ref u6) rfl rfl
    exact ⟨cc,by rw [e];exact ec⟩
   ·obtain ⟨cc,_,_,ec,_⟩:=C0.val 2 "wait" (.int w0) rfl rfl
    exact ⟨cc,by rw [e];exact ec⟩
  ·obtain ⟨⟨hux,dlx⟩,l2,rg2,q2,c2,e2,R2,cd2,ok2,hvx,kk⟩:=hsp
   cases e2;have KX:=ctF_kp Zx;have el:l2=l6:=FrstL.one R2.fr R6.fr;subst el;have f6:=R6.ff N;have f2:=R2.ff N;refine ⟨_,rfl,_,rfl,_,rfl,_,rfl,v,u6,q2,w0,b,m,sp,l2,rg6,rg2,c2,rl,rfl,cO KX.tup hvx,N,R6,R2,KX.lst _ _ hux,wayQ_kp KX dlx,cd2.kp KX,ok2,fun r H' S' ans fr'=>?_⟩;refine kk r _ (ptF_back Zx S') ?_
   rcases ans with ⟨d,dd,dw,rb⟩ | ⟨rfl,al,lt⟩
   ·exact .inl ⟨d,IsD.keepP (Same.tupK (oW fr')) dd dw.1,dw,rb⟩
   ·refine .inr ⟨rfl,al,fj fun nz=>?_⟩
    have ht2:=f2.acy.nodup.2;have fix:∀ j∈l2,(c2.1.getD j (0,0)).1=(c2.1.getD j (0,0)).2:=fun j hj=>by
     have h1:=(ok2.ob.lo j (ht2 j hj)).2.1;have h2:¬ ((c2.1.getD j (0,0)).1<(c2.1.getD j (0,0)).2):=fun z=>nz ⟨j,hj,z⟩
     lia
    obtain ⟨ts',hf',hw'⟩:=price_tight N f6 ok2.ob (fx_other N f6 f2 ok2.ob ⟨fix,ok2.all al⟩);have:=least ts' hf';lia
  ·have fz':∀ a o u,ptF H7 fz a=some (.frz o u)→Hx a=some (.frz o u):=fun a o u e=>st a _ (eV e eu8 nofun) (eV e ev8 nofun) e
   obtain ⟨pm,cd,ct,e,oc,vs,t,ec,r⟩:=LF8;exact ⟨⟨pm,cd,ct,fz' _ _ _ e,oc,vs,t,fz' _ _ _ ec,r⟩,fun a o z=>fz' _ _ _ (pT z)⟩
  ·exact st _ _ (eV hu8 eu8 nofun) (eV hu8 ev8 nofun) hu8
  ·exact IsDs.keepP (fun a xs e=>st _ _ (eV e eu8 nofun) (eV e ev8 nofun) e) dl8 (k3 rg6 fun q _=>mq _ _)
 refine ⟨v,g,b,m,sp,RBest b sp w0,rfl,hv8,N,hc,hT08,hT18,LM,fun u t H9 st9 kp9 hT09 hT19 du plu gd Z9=>?_⟩;have KC:=ctF_kp Z9;have fz9:∀ a o u,ptF H7 fz a=some (.frz o u)→H9 a=some (.frz o u):=fun a o u e=>st9 _ _ (eV e eu8 nofun) (eV e ev8 nofun) e
 have hT29:L2.LamT T2 lpT lqT H9:=LamT.stayF hT28 (fun ps e=>st9 _ _ n2 n3 e) fz9;have hT39:L2.LamG T3 lqB H9:=hT38.stay (fun ps e=>st9 _ _ m0 m1 e) fz9;refine ⟨szZ4,fun qa HA SA hA=>?_⟩;have kpA:Kp H HA:=kp1.trans (kp2.trans (kp4.trans ((Same.kp S5).trans (kp6.trans (kp7.trans ((Same.kp SP).trans (kp9.trans (KC.trans (Same.kp SA)))))))));have hqxA:HA qx=some (.tup (ts.map V.int)):=SA _ _ (KC.tup _ _ (kp9.tup _ _ (SP _ _ (kp7.tup _ _ hqx6))));refine k qa HA kpA (LamT.same SA (LamT.cutF Z9 C0.cell hT09)) (LamT.same SA (LamT.cutF Z9 C0.cell hT19)) (LamT.same SA (LamT.cutF Z9 C0.cell hT29)) ((LamG.cutF Z9 C0.cell hT39).same SA) (.inr ⟨qx,ts,u,t,?_,hqxA,tok,least,(IsD.keepP KC.tup du plu).same SA,plu,?_⟩)
 ·rw [←ew0];exact hA
 ·rw [←ew0];exact gd
def prI (p:Int×Int):List Int:=[p.1,p.2]
theorem pl_preH:∀ (t:Tq),(∀ d,Mrk.leaf d∈pre t→mL d)→pl (jk t)=true
 | .leaf d,h=>(h d (by simp [pre])).1
 | .cut k a x y,h=>pl_cut (pl_preH x fun d hd=>h d (by simp [pre,hd])) (pl_preH y fun d hd=>h d (by simp [pre,hd]))
def GoodW (R:List (Int×Int)→Dt→List Int→Prop):Tq→List (Int×Int)→Nat→List Int→Prop
 | .leaf d,bs,_,ws=>R bs d ws
 | .cut _ _ _ _,_,0,_=>False
 | .cut k a x y,bs,n+1,ws=>k<bs.length∧(bs.getD k (0,0)).1≤a∧a<(bs.getD k (0,0)).2∧∃ w1 w2,ws=w1++w2∧GoodW R x (lG bs k a) n w1∧GoodW R y (fk bs k a) n w2
def lx (b:Int)(sp:List Sn)(bs:List (Int×Int))(d:Dt)(ws:List Int):Prop:=(qR b sp bs d∧ws=[])∨∃ rows:List (Int×List Stp),d=leafP (.price rows)∧(∀ r∈rows,RowOk b sp bs r)∧rows.length≤40∧ws=[jA b sp bs rows]
theorem nB {b:Int}{sp:List Sn}:∀ (t:Tq) (bs:List (Int×Int)) (n:Nat) (ws:List Int),GoodW (lx b sp) t bs n ws→ws.length≤2 ^ n
 | .leaf d,bs,n,ws,g=>by
  have g:lx b sp bs d ws:=by cases n <;> exact g
  have h1:1≤2 ^ n:=Nat.one_le_two_pow
  rcases g with ⟨_,rfl⟩ | ⟨rows,_,_,_,rfl⟩
  ·exact bG _
  ·exact h1
 | .cut _ _ _ _,_,0,_,g=>g.elim
 | .cut k a x y,bs,n+1,ws,g=>by
  obtain ⟨_,_,_,w1,w2,rfl,g1,g2⟩:=g;have h1:=nB x _ n w1 g1;have h2:=nB y _ n w2 g2;rw [av,Nat.pow_succ];lia
theorem qj {b:Int}{sp:List Sn}:∀ (t:Tq) (bs:List (Int×Int)) (n:Nat),qS (qR b sp) t bs n→GoodW (lx b sp) t bs n []
 | .leaf d,bs,n,g=>by
  have g:qR b sp bs d:=by cases n <;> exact g
  cases n <;> exact .inl ⟨g,rfl⟩
 | .cut _ _ _ _,_,0,g=>g.elim
 | .cut k a x y,bs,n+1,g=>by
  obtain ⟨h1,h2,h3,g1,g2⟩:=g;exact ⟨h1,h2,h3,[],[],rfl,qj x _ n g1,qj y _ n g2⟩
theorem qo {b w:Int}{sp:List Sn}(hb:0<b):∀ (t:Tq) (bs:List (Int×Int)) (n:Nat),qS (RBest b sp w) t bs n→bs.length=sp.length→∃ ws,GoodW (lx b sp) t bs n ws∧(∀ x∈ws,w≤x)∧∀ ts,InB (il b ts sp) bs→∃ x∈ws,x≤fJ b ts sp
 | .leaf d,bs,n,g,hl=>by
  have g:RBest b sp w bs d:=by cases n <;> exact g
  have mk:∀ ws,lx b sp bs d ws→GoodW (lx b sp) (.leaf d) bs n ws:=fun ws h=>by cases n <;> exact h
  rcases g with g | ⟨rows,rfl,h1,h2,h3⟩
  ·refine ⟨[],mk _ (.inl ⟨g,rfl⟩),fun x hx=>rL hx (by simp),fun ts hin=>?_⟩
   obtain ⟨p,rfl,rg,dd⟩:=g;rw [qy hb hl hin rg] at dd;cases dd
  ·refine ⟨[jA b sp bs rows],mk _ (.inr ⟨rows,rfl,h1,h2,rfl⟩),fun x hx=>by rw [aw.mp hx];exact h3,fun ts hin=>⟨_,aw.mpr rfl,weak hb hl hin h1⟩⟩
 | .cut _ _ _ _,_,0,g,_=>g.elim
 | .cut k a x y,bs,n+1,g,hl=>by
  obtain ⟨h1,h2,h3,g1,g2⟩:=g;obtain ⟨w1,a1,a2,a3⟩:=qo hb x _ n g1 (by rw [one_len];exact hl);obtain ⟨w2,b1,b2,b3⟩:=qo hb y _ n g2 (by rw [p6];exact hl);refine ⟨w1++w2,⟨h1,h2,h3,w1,w2,rfl,a1,b1⟩,fun z hz=>?_,fun ts hin=>?_⟩
  ·rcases aN.mp hz with hz | hz
   ·exact a2 z hz
   ·exact b2 z hz
  ·by_cases e:il b ts sp k≤a
   ·obtain ⟨z,hz,hle⟩:=a3 ts (inB_one hin e)
    exact ⟨z,aM _ hz,hle⟩
   ·obtain ⟨z,hz,hle⟩:=b3 ts (inB_other hin (by lia))
    exact ⟨z,aA _ hz,hle⟩
theorem mB {b:Int}{sp:List Sn}:∀ (t:Tq) (bs:List (Int×Int)) (n:Nat) (ws:List Int),GoodW (lx b sp) t bs n ws→∀ d,Mrk.leaf d∈pre t→mL d
 | .leaf d,bs,n,ws,g,d',h=>by
  have e:d'=d:=by
   have h:Mrk.leaf d'∈[Mrk.leaf d]:=h;injection aw.mp h
  subst e;have g:lx b sp bs d' ws:=by cases n <;> exact g
  rcases g with ⟨g,_⟩ | ⟨rows,rfl,_⟩
  ·exact rdead_leafW bs d' g
  ·exact qg rows
 | .cut k a x y,bs,0,ws,g,d',h=>g.elim
 | .cut k a x y,bs,n+1,ws,g,d',h=>by
  obtain ⟨_,_,_,w1,w2,_,g1,g2⟩:=g;have h:Mrk.leaf d'∈Mrk.cut k a::(pre x++pre y):=h
  rcases aG.mp h with h | h
  ·cases h
  rcases aN.mp h with h | h
  ·exact mB x _ n w1 g1 d' h
  ·exact mB y _ n w2 g2 d' h
inductive spLeafG (vs:List V)(H:Hp)(Q:VK)(_:XK):Prop
 | mk (v u:V)(B:ao)(bv:List V)(b m:Int)(sp:List Sn)(bs:List (Int×Int))(d:Dt)(ws:List Int)(_:vs=[v,.ref B,u])(_:IsD H v (kg b m sp))(_:NetT b m sp)(_:H B=some (.lst bv))(_:IsDs H bv (eJ prI bs))(_:bs.length=sp.length)(_:BsU bs)(_:IsD H u d)(_:mL d)(_:lx b sp bs d ws)(_:∀ (L:ao) (H':Hp),Same H H'→H' L=some (.lst (ws.map V.int))→Q (.ref L) H')
def spWalkG:Nat→Sp
 | 0=>fun _ _ _ _=>False
 | dd+1=>fun vs H Q _=>∃ (v u:V) (B:ao) (bv:List V) (b m:Int) (sp:List Sn) (bs:List (Int×Int)) (t:Tq) (de:Int) (ws:List Int),vs=[v,.ref B,u,.int de]∧IsD H v (kg b m sp)∧NetT b m sp∧H B=some (.lst bv)∧IsDs H bv (eJ prI bs)∧bs.length=sp.length∧BsU bs∧IsD H u (jk t)∧(∀ d,Mrk.leaf d∈pre t→mL d)∧GoodW (lx b sp) t bs dd ws∧dd≤22∧0≤de∧de+dd≤100 ∧
  ∀ (L:ao) (H':Hp),Same H H'→H' L=some (.lst (ws.map V.int))→Q (.ref L) H'
inductive oO (vs:List V)(H:Hp)(Q:VK)(_:XK):Prop
 | mk (v u:V)(b m:Int)(sp:List Sn)(t:Tq)(ws:List Int)(_:vs=[v,u])(_:IsD H v (kg b m sp))(_:NetT b m sp)(_:IsD H u (jk t))(_:GoodW (lx b sp) t (sp.map fun z=>(z.l,z.o)) 21 ws)(_:∀ (L:ao) (H':Hp),Same H H'→H' L=some (.lst (ws.map V.int))→Q (.ref L) H')
theorem bsu_set {bs:List (Int×Int)}{k:Nat}{p:Int×Int}(h:BsU bs)(hp:0≤p.1∧p.1≤p.2∧p.2<10 ^ 60):BsU (bs.set k p):=fun q hq=>by
 rcases List.mem_or_eq_of_mem_set hq with hq | rfl
 ·exact h q hq
 ·exact hp
structure WoH (H:Hp)(v:V)(B:ao)(bv:List V)(vr:V)(b m:Int)(sp:List Sn)(bs:List (Int×Int))(rows:List (Int×List Stp)):Prop where
 net:IsD H v (kg b m sp)
 hB:H B=some (.lst bv)
 bnd:IsDs H bv (eJ prI bs)
 rwd:IsD H vr (.tup (rows.map rowD))
 b0:0<b
 b61:b<10 ^ 61
 lb:bs.length=sp.length
 few:sp.length≤40
 bu:BsU bs
 ws:∀ x∈sp,0≤x.w∧x.w≤1000000000000
 rw':∀ r∈rows,RwOk sp.length r
 lr:rows.length≤41
inductive spWorthH (vs:List V)(H:Hp)(Q:VK)(_:XK):Prop
 | mk (v vr:V)(B:ao)(bv:List V)(b m:Int)(sp:List Sn)(bs:List (Int×Int))(rows:List (Int×List Stp))(_:vs=[v,.ref B,vr])(_:WoH H v B bv vr b m sp bs rows)(_:∀ H',Same H H'→Q (.int (jA b sp bs rows)) H')
abbrev nZ:cU:=top 59
abbrev sLeafH:cU:=top 63
abbrev sWalkH:cU:=top 64
theorem scWholeH:cb pzi pzi (defScope nZ):=by trivial
theorem nk (F:Fun K "_law_is_whole" "_law_is_whole" nZ f fd)(T:Nm mg):cW P w K mg base CX0 1 f fd pzi mU:=by
 refine F.ok scWholeH (by contradiction) (fun cdv A outer s H vs Q E hr h=>?_);obtain ⟨i,rfl,k⟩:=h;refine ⟨_,PSl.h (cZ ⟨(bY (p5 (pe_isInt T (pv 0)) (pe_one (pe_not (pe_isBool T (pv 0))))))⟩),?_⟩;exact ⟨_,rfl,_,_,rfl,(IsD.int i).tyn,_,rfl,iteT ⟨_,rfl,_,_,rfl,(IsD.int i).tyn,_,rfl,k⟩⟩
theorem lM:cb ["_law_net_here","_law_bounds","_law_tree","_law_deep","_law_low","_law_high","_law_ahead","_law_behind","_law_one","_law_other"] pzx (defScope sWalkH):=by trivial
theorem ok_walkG {f1 f2 f3:ao}{fd1 fd2 fd3:bq}(T:Nm mg)
  (G1:Fn K mg "_law_leaf" sLeafH pzy f1 fd1) (F1:cW P w K mg base CX0 3 f1 fd1 pzy spLeafG)
  (G2:Fn K mg "_law_is_whole" nZ pzi f2 fd2) (G3:Fn K mg "_law_walked" sWalkH pzx f3 fd3) :
  ∀ dd,cW P w K mg base CX0 (3+dd) f3 fd3 pzx (spWalkG dd)
 | 0=>G3.F.ok lM (fun vs H Q E h=>h.elim) (fun cdv A outer s H vs Q E hr h=>h.elim)
 | dd+1=>by
  have F2:cW P w K mg base CX0 1 f2 fd2 pzi mU:=nk G2.F T;have F3:=ok_walkG T G1 F1 G2 G3 dd;refine G3.F.ok (k:=3+dd) lM (by contradiction) (fun cdv A outer s H vs Q E hr h=>?_);obtain ⟨v,u,B,bv,b,m,sp,bs,t,de,ws,rfl,hv,N,hB,dB,lb,bu,du,lw,gt,d22,de0,de1,k⟩:=h;have hr1:Room 1 _:=hr.mono (by lia);have hr3:Room 3 _:=hr.mono (by lia);refine ⟨_,PSl.h (aU ⟨(fU (PW.pt (jd (gM (gj (jZ T (pv 2)))) (jd (cu oj (cy bX rfl T.len bI (ag (pv 2) aC)) bo (cJ _)) (jD (cu p7 (pv 3) bo (cJ _)))))) (cj (bY iJ)) cX)⟩
  (aU ⟨(fU (cu ly (ixZ (pv 2)) kf (cJ _)) (cj (bY (pc1 G1 F1 hr3 (ag (pv 0) (ag (pv 1) (ag (pv 2) aC)))))) cX)⟩
  (aU ⟨(fU (PW.pt (jd (cu ly (cy bX rfl T.len bI (ag (pv 2) aC)) bo (cJ _)) (jd (gM (gj (pc1 G2 F2 hr1 (ag (ixZ (pv 2)) aC)))) (jD (gM (gj (pc1 G2 F2 hr1 (ag (ixZ (pv 2)) aC)))))))) (cj (bY iJ)) cX)⟩
  (aU ⟨(fU (gM (oV op_le oj bo (ixZ (pv 2)) (cy bX rfl T.len bI (ag (pv 1) aC)))) (cj (bY iJ)) cX)⟩
  (aU ⟨(mY (dG eD (pv 1) (ixZ (pv 2)) (fun _ _=>rfl)) (lQ rfl (eZ (pgZ 4 lM.nd) (eZ (pgZ 5 lM.nd) ke))))⟩
  (aU ⟨(fU (gM (oV op_le oj (pv 4) (ixZ (pv 2)) (pv 5))) (cj (bY iJ)) cX)⟩
  (aU ⟨(psZ 6 lM.nd (nc sl_listA (pv 1) pZ (pY (ixZ (pv 2)))))⟩
  (aU ⟨(psZ 7 lM.nd (nc sl_listA (pv 1) (pY (cg fu (ixZ (pv 2)) bo)) pZ))⟩
  (aU ⟨(psZ 8 lM.nd (pc1 G3 F3 hr (ag (pv 0) (ag (cg mr (cg mr (pv 6) (lR (ag (eC (ag (pv 4) (ag (ixZ (pv 2)) aC))) aC))) (pv 7)) (ag (ixZ (pv 2)) (ag (cg fu (pv 3) bo) aC))))))⟩
  (aU ⟨(psZ 9 lM.nd (pc1 G3 F3 hr (ag (pv 0) (ag (cg mr (cg mr (pv 6) (lR (ag (eC (ag (cg fu (ixZ (pv 2)) bo) (ag (pv 5) aC))) aC))) (pv 7)) (ag (ixZ (pv 2)) (ag (cg fu (pv 3) bo) aC))))))⟩
  (aU ⟨(fU (PW.pt (jd (cu op_isN (pv 8) iJ (cJ _)) (jD (cu op_isN (pv 9) iJ (cJ _))))) (cj (bY iJ)) cX)⟩
  (cZ ⟨(bY (cg mr (pv 8) (pv 9)))⟩)))))))))))),?_⟩
  have lbv:bv.length=bs.length:=by rw [dB.length];unfold eJ;rw [aa]
  have nfew:=N.few;cases t with
  | leaf d =>
   have gd:lx b sp bs d ws:=by cases dd <;> exact gt
   have lwd:=lw d (by simp [pre]);obtain ⟨_,w1,x1,ed,nw⟩:=id lwd;have du:IsD H u d:=du;have du0:=du;rw [ed] at du0;obtain ⟨q,xs,rfl,hq,rq⟩:=IsD.tup_of du0;obtain ⟨y1,y2,rfl⟩:∃ y1 y2,xs=[y1,y2]:=by
    cases rq with
    | cons a rq=>cases rq with
     | cons b rq=>cases rq;exact ⟨_,_,rfl⟩
   have e1:y1= .str w1:=by
    cases rq with
    | cons a rq=>cases a;rfl
   subst e1;refine ⟨_,rfl,_,_,rfl,du0.tyn,_,rfl,iq rfl ?_⟩;refine ⟨_,rfl,q,_,rfl,.inr (SqT.of hq),_,_,rfl,rfl,_,rfl,iq (rN (by show ¬ ((2:Nat):Int)<2;lia)) ?_⟩;refine ⟨_,rfl,_,_,rfl,rfl,_,rfl,iq (rN (by lia)) ?_⟩;refine ⟨_,rfl,q,_,_,_,rfl,rfl,SqT.of hq,az (j:=0) rfl,rfl,_,rfl,om (by rw [rN (fun z=>nw (by injection z))];rfl) ?_⟩;exact ⟨_,rfl,_,rfl,_,rfl,v,.ref q,B,bv,b,m,sp,bs,d,ws,rfl,hv,N,hB,dB,lb,bu,du,lwd,gd,k⟩
  | cut kc ac x y =>
   cases dd with
   | zero=>exact gt.elim
   | succ n =>
   obtain ⟨hk,h1,h2,wa,wb,rfl,gx,gy⟩:=gt;have lwa:=nB x _ n wa gx;have lwb:=nB y _ n wb gy;have p21:2 ^ n≤2 ^ 21:=Nat.pow_le_pow_right (by decide) (by lia);have buk:=bu (bs.getD kc (0,0)) (by rw [ai,gE hk];exact bt hk);have lwx:∀ d,Mrk.leaf d∈pre x→mL d:=fun d hd=>lw d (by simp [pre,hd])
   have lwy:∀ d,Mrk.leaf d∈pre y→mL d:=fun d hd=>lw d (by simp [pre,hd])
   have px:=pl_preH x lwx;have py:=pl_preH y lwy;have du:IsD H u (.tup [.str "cut",.int (kc:Nat),.int ac,jk x,jk y]):=du;obtain ⟨q,xs,rfl,hq,rq⟩:=IsD.tup_of du;obtain ⟨vx,vy,rfl,dx,dy⟩:∃ vx vy,xs=[.str "cut",.int (kc:Nat),.int ac,vx,vy]∧IsD H vx (jk x)∧IsD H vy (jk y):=by
    cases rq with
    | cons a rq=>cases a;cases rq with
     | cons a rq=>cases a;cases rq with
      | cons a rq=>cases a;cases rq with
       | cons dx rq=>cases rq with
        | cons dy rq=>cases rq;exact ⟨_,_,rfl,dx,dy⟩
   have eb:bs.getD kc (0,0)=bs[kc]:=by rw [ai,gE hk];rfl
   obtain ⟨vk,hvk,dk⟩:=dB.at (i:=kc) (d:= .tup ((prI bs[kc]).map Dt.int)) (by unfold eJ;rw [ax,gE hk];rfl);obtain ⟨qk,ks,rfl,hqk,rk⟩:=IsD.tup_of dk;obtain rfl:ks=(prI bs[kc]).map V.int:=rk.ints_of;refine ⟨_,rfl,_,_,rfl,du.tyn,_,rfl,iq rfl ?_⟩;refine ⟨_,rfl,q,_,rfl,.inr (SqT.of hq),_,_,rfl,rfl,_,rfl,iq (rN (by show ¬ ((5:Nat):Int)<2;lia)) ?_⟩;refine ⟨_,rfl,_,_,rfl,rfl,_,rfl,iq (rN (by lia)) ?_⟩;refine ⟨_,rfl,q,_,_,_,rfl,rfl,SqT.of hq,az (j:=0) rfl,rfl,_,rfl,iq rfl ?_⟩;refine ⟨_,rfl,q,_,rfl,.inr (SqT.of hq),rfl,_,rfl,iq rfl ?_⟩;refine ⟨_,rfl,q,_,_,_,rfl,rfl,SqT.of hq,az (j:=1) rfl,_,rfl,_,rfl,iq rfl ?_⟩;refine ⟨_,rfl,q,_,_,_,rfl,rfl,SqT.of hq,az (j:=2) rfl,_,rfl,_,rfl,iq rfl ?_⟩;refine ⟨_,rfl,q,_,_,_,rfl,rfl,SqT.of hq,az (j:=1) rfl,_,_,rfl,rfl,_,rfl,om (rM (by lia)) ?_⟩;refine ⟨_,rfl,B,_,rfl,.inl (SqL.of hB),_,_,rfl,rfl,_,rfl,iq (by rw [rM (show ((kc:Nat):Int)<(bv.length:Int) by lia)];rfl) ?_⟩;refine ⟨_,rfl,_,rfl,q,_,_,_,rfl,rfl,SqT.of hq,az (j:=1) rfl,B,_,_,_,rfl,rfl,SqL.of hB,az (j:=kc) hvk,qk,_,rfl,SqT.of hqk,rfl,_,_,rfl,_,_,rfl,rfl,?_⟩;rw [eb] at h1 h2;refine ⟨_,rfl,_,rfl,q,_,_,_,rfl,rfl,SqT.of hq,az (j:=2) rfl,_,_,rfl,rfl,_,rfl,om (rM h1) ?_⟩;refine ⟨_,rfl,_,_,rfl,rfl,_,rfl,iq (by rw [rM (show ac<bs[kc].2 from h2)];rfl) ?_⟩;refine ⟨_,rfl,_,rfl,q,_,_,_,rfl,rfl,SqT.of hq,az (j:=1) rfl,_,rfl,B,_,rfl,SqL.of hB,fun A1 H1 S1 hA1=>?_⟩;rw [cutU rfl] at hA1;refine ⟨_,rfl,_,rfl,q,_,_,_,rfl,rfl,SqT.of (S1 _ _ hq),az (j:=1) rfl,_,_,rfl,rfl,_,rfl,B,_,rfl,SqL.of (S1 _ _ hB),fun A2 H2 S2 hA2=>?_⟩;rw [cutF (n:=kc+1) (by lia)] at hA2;have S02:=S1.trans S2;have hA1:=S2 _ _ hA1;clear S1 S2;have half:∀ (p:Int×Int) (Hc:Hp) (C:ao) (qp:ao),Same H Hc→Hc qp=some (.tup ((prI p).map V.int))→IsDs Hc (bv.take kc++[.ref qp]++bv.drop (kc+1)) (eJ prI (bs.set kc p)):=by
    intro p Hc C qp Sc hqp;have e:bs.set kc p=bs.take kc++[p]++bs.drop (kc+1):=by rw [oH,rJ hk];simp
    rw [e];have d:=dB.same Sc;unfold eJ at d ⊢;rw [aB,aB,List.map_take,List.map_drop];exact ((IsDs.takeN kc d).append (.cons (.tup hqp (IsDs.ints (prI p))) .nil)).append (IsDs.dropN (kc+1) d)
   have lt1:(bv.take kc).length≤40:=by rw [bL];lia
   have lt2:(bv.drop (kc+1)).length≤40:=by rw [eY];lia
   refine ⟨_,rfl,_,rfl,_,rfl,_,rfl,q,_,_,_,rfl,rfl,SqT.of (S02 _ _ hq),az (j:=2) rfl,mN,fun qp H3 S3 hqp=>⟨szZ1,fun L1 H4 S4 hL1=>?_⟩⟩;refine ⟨A1,L1,_,_,rfl,rfl,S4 _ _ (S3 _ _ hA1),hL1,dW (by show (bv.take kc).length+1≤1000;lia),fun C1 H5 S5 hC1=>?_⟩;have S25:=S3.trans (S4.trans S5);refine ⟨_,rfl,C1,A2,_,_,rfl,rfl,hC1,S25 _ _ hA2,dW (by rw [av];show (bv.take kc).length+1+(bv.drop (kc+1)).length≤1000;lia),fun C2 H6 S6 hC2=>?_⟩;have S06:=S02.trans (S25.trans S6);refine ⟨_,rfl,q,_,_,_,rfl,rfl,SqT.of (S06 _ _ hq),az (j:=3) rfl,_,rfl,_,_,rfl,rfl,?_⟩;refine ⟨v,vx,C2,_,b,m,sp,bs.set kc (bs[kc].1,ac),x,de+1,wa,rfl,hv.same S06,N,hC2,half _ _ C2 qp S06 (S6 _ _ (S5 _ _ (S4 _ _ hqp))),by rw [ft];exact lb,bsu_set bu ⟨by rw [eb] at buk;exact buk.1,h1,by rw [eb] at buk;have:=buk.2.2;show ac<_;lia⟩,dx.same S06,lwx,by unfold lG at gx;rw [eb] at gx;exact gx,by lia,by lia,by lia,fun La H7 S7 hLa=>?_⟩;have S07:=S06.trans S7;have S27:=(S25.trans S6).trans S7;clear S25 S3 S4 S5 hC1 hL1 hqp hC2;refine ⟨_,rfl,_,rfl,_,rfl,q,_,_,_,rfl,rfl,SqT.of (S07 _ _ hq),az (j:=2) rfl,_,_,rfl,rfl,_,rfl,mN,fun qp H3 S3 hqp=>⟨szZ1,fun L1 H4 S4 hL1=>?_⟩⟩;refine ⟨A1,L1,_,_,rfl,rfl,S4 _ _ (S3 _ _ (S27 _ _ hA1)),hL1,dW (by show (bv.take kc).length+1≤1000;lia),fun C1 H5 S5 hC1=>?_⟩;have S25:=S3.trans (S4.trans S5);refine ⟨_,rfl,C1,A2,_,_,rfl,rfl,hC1,S25 _ _ (S27 _ _ hA2),dW (by rw [av];show (bv.take kc).length+1+(bv.drop (kc+1)).length≤1000;lia),fun C3 H8 S8 hC3=>?_⟩;have S78:=S25.trans S8;have S08:=S07.trans S78;refine ⟨_,rfl,q,_,_,_,rfl,rfl,SqT.of (S08 _ _ hq),az (j:=4) rfl,_,rfl,_,_,rfl,rfl,?_⟩;refine ⟨v,vy,C3,_,b,m,sp,bs.set kc (ac+1,bs[kc].2),y,de+1,wb,rfl,hv.same S08,N,hC3,half _ _ C3 qp S08 (S8 _ _ (S5 _ _ (S4 _ _ hqp))),by rw [ft];exact lb,bsu_set bu ⟨by rw [eb] at buk;have:=buk.1;show 0≤ac+1;lia,by show ac+1≤bs[kc].2;lia,by rw [eb] at buk;exact buk.2.2⟩,dy.same S08,lwy,by unfold fk at gy;rw [eb] at gy;exact gy,by lia,by lia,by lia,fun Lb H9 S9 hLb=>?_⟩;refine ⟨_,rfl,rfl,_,rfl,iq (rN nofun) ?_⟩;refine ⟨_,rfl,rfl,_,rfl,iq (rN nofun) ?_⟩;have szL:(wa.map V.int).length+(wb.map V.int).length≤bp:=by
    rw [aa,aa];have e:2 ^ 21+2 ^ 21=(2 ^ 22:Nat):=by decide
    exact bh (m:=2 ^ 22) (by lia) (by decide)
   refine ⟨_,rfl,_,rfl,La,Lb,_,_,rfl,rfl,S9 _ _ (S78 _ _ hLa),hLb,szL,fun Lc HA SA hLc=>?_⟩;exact k Lc HA (S08.trans (S9.trans SA)) (by rw [aB];exact hLc)
abbrev sBeatsH:cU:=top 61
abbrev pN:cU:=top 65
inductive spBeatsH (vs:List V)(H:Hp)(Q:VK)(_:XK):Prop
 | mk (v r:V)(B:ao)(bv:List V)(b m:Int)(sp:List Sn)(bs:List (Int×Int))(ws:List Stp)(_:vs=[v,.ref B,r])(_:IsD H v (kg b m sp))(_:0<b)(_:b<10 ^ 61)(_:H B=some (.lst bv))(_:IsDs H bv (eJ prI bs))(_:IsD H r (mf ws))(_:qM bs.length ws)(_:∀ (q:ao) (H':Hp),Same H H'→H' q=some (.tup [.int (upB b (eU bs ws)),.int (gC bs ws / b)])→Q (.ref q) H')
theorem kt:cb ["_law_net_here","_law_bounds","_law_ring","_law_low","_law_high","_law_span_here","_law_way","_law_pair"] pzs (defScope sBeatsH):=by trivial
theorem ok_beatsH (F:Fun K "_law_beats" "_law_beats" sBeatsH f fd):cW P w K mg base CX0 1 f fd pzs spBeatsH:=by
 refine F.ok kt (by contradiction) (fun cdv A outer s H vs Q E hr h=>?_);obtain ⟨v,r,B,bv,b,m,sp,bs,ws,rfl,hv,b0,b1,hB,dB,hw,hin,k⟩:=h;obtain ⟨t,p,ys,rfl,ht,hp,hl,hy⟩:=fe hv;obtain ⟨pw,yw,rfl,hpw,hlw,rw'⟩:=ib hw;refine ⟨_,PSl.h (aU ⟨(psZ 3 kt.nd bo)⟩
  (aU ⟨(psZ 4 kt.nd bo)⟩
  (aU ⟨(gk bz rfl (iY (pv 2)) (lQ rfl (eZ (pgZ 5 kt.nd) (eZ (pgZ 6 kt.nd) ke))) (PSl.h (aU ⟨(psZ 7 kt.nd (pe_turn (dG eD (pv 1) (pv 5) (fun _ _=>rfl)) (pv 6)))⟩
  (aU ⟨(psZ 3 kt.nd (cg fu (pv 3) (cg ij (pv 6) (ixZ (pv 7)))))⟩
  (cZ ⟨(psZ 4 kt.nd (cg fu (pv 4) (cg ij (pv 6) (ixZ (pv 7)))))⟩)))))⟩
  (cZ ⟨(bY (eC (ag (pe_un o9 (cg nj (pe_un o9 (pv 3)) (ixZ (pv 0)))) (ag (cg nj (pv 4) (ixZ (pv 0))) aC))))⟩)))),?_⟩
 refine ⟨_,rfl,pw,rfl,⟨_,SqT.of hpw⟩,?_⟩;refine ki (K:=K) (xs:=yw) (fun i σ H2=>Same H H2∧∃ v5 v6 v7,σ=[some (.ref t),some (.ref B),some (.ref pw),some (.int (eU bs (ws.take i))),some (.int (gC bs (ws.take i))),v5,v6,v7]) ⟨Same.refl H,none,none,none,rfl⟩ (fun i σ H2 _ ⟨e1,_⟩=>SqT.of (e1 _ _ hpw)) ?_ ?_
 ·rintro i y σ H2 hy2 ⟨S2,v5,v6,v7,rfl⟩
  have hi:i<ws.length:=by rw [←hlw];exact (ak.mp hy2).1
  obtain ⟨q,hq,hq2⟩:=iG rw' (gE hi);rw [hy2] at hq;cases hq;obtain ⟨i1,d1⟩:=hin ws[i] (bt hi);have hm1:eU bs (ws.take (i+1))=eU bs (ws.take i)+oE bs ws[i]:=by
   unfold eU;rw [bf,gE hi,aB,gG];simp
  have hm2:gC bs (ws.take (i+1))=gC bs (ws.take i)+ko bs ws[i]:=by
   unfold gC;rw [bf,gE hi,aB,gG];simp
  obtain ⟨vb,hvb,db⟩:=dB.at (i:=ws[i].i) (d:= .tup ((prI bs[ws[i].i]).map Dt.int)) (by unfold eJ;rw [ax,gE i1];rfl);obtain ⟨qb,kb,rfl,hqb,rkb⟩:=IsD.tup_of db;obtain rfl:kb=(prI bs[ws[i].i]).map V.int:=rkb.ints_of;refine ⟨q,_,rfl,SqT.of (S2 _ _ hq2),rfl,_,_,rfl,_,_,rfl,rfl,?_⟩;refine ⟨_,rfl,_,rfl,B,_,_,_,rfl,rfl,SqL.of (S2 _ _ hB),az (j:=ws[i].i) hvb,?_⟩;refine ⟨_,rfl,qb,_,ws[i].d,rfl,rfl,d1,S2 _ _ hqb,fun q3 H3 S3 h3=>?_⟩;generalize hW:ws[i]=W at *
  rcases d1 with d1 | d1
  ·rw [rJ d1] at h3
   refine ⟨_,rfl,_,rfl,_,rfl,q3,_,_,_,rfl,rfl,SqT.of h3,az (j:=0) rfl,_,_,rfl,rfl,.inl (by rw [d1];exact ⟨by decide,by decide⟩),_,_,rfl,rfl,?_⟩;refine ⟨_,rfl,_,rfl,_,rfl,q3,_,_,_,rfl,rfl,SqT.of h3,az (j:=1) rfl,_,_,rfl,rfl,.inl (by rw [d1];exact ⟨by decide,by decide⟩),_,_,rfl,rfl,S2.trans S3,some (.int (W.i:Nat)),some (.int W.d),some (.ref q3),?_⟩;have l1:oE bs W=W.d * bs[W.i].1:=by unfold oE;rw [gE i1];show (if W.d=1 then _ else _)=_;rw [rJ d1,d1,Int.one_mul]
   have l2:ko bs W=W.d * bs[W.i].2:=by unfold ko;rw [gE i1];show (if W.d=1 then _ else _)=_;rw [rJ d1,d1,Int.one_mul]
   rw [hm1,hm2,l1,l2];rfl
  ·have d2:W.d≠1:=by lia
   rw [rG d2] at h3;refine ⟨_,rfl,_,rfl,_,rfl,q3,_,_,_,rfl,rfl,SqT.of h3,az (j:=0) rfl,_,_,rfl,rfl,.inl (by rw [d1];exact ⟨by decide,by decide⟩),_,_,rfl,rfl,?_⟩;refine ⟨_,rfl,_,rfl,_,rfl,q3,_,_,_,rfl,rfl,SqT.of h3,az (j:=1) rfl,_,_,rfl,rfl,.inl (by rw [d1];exact ⟨by decide,by decide⟩),_,_,rfl,rfl,S2.trans S3,some (.int (W.i:Nat)),some (.int W.d),some (.ref q3),?_⟩;have l1:oE bs W=W.d * bs[W.i].2:=by unfold oE;rw [gE i1];show (if W.d=1 then _ else _)=_;rw [rG d2,d1];lia
   have l2:ko bs W=W.d * bs[W.i].1:=by unfold ko;rw [gE i1];show (if W.d=1 then _ else _)=_;rw [rG d2,d1];lia
   rw [hm1,hm2,l1,l2];rfl
 ·rintro σ H2 ⟨S2,v5,v6,v7,rfl⟩
  rw [hlw,aX];refine ⟨_,rfl,_,rfl,_,rfl,t,_,_,_,rfl,rfl,SqT.of (S2 _ _ ht),az (j:=0) rfl,_,_,rfl,rfl,log_ok b0 b1,_,rfl,_,rfl,_,rfl,t,_,_,_,rfl,rfl,SqT.of (S2 _ _ ht),az (j:=0) rfl,_,_,rfl,rfl,log_ok b0 b1,mN,fun q H3 S3 h3=>?_⟩;exact k q H3 (S2.trans S3) h3
theorem scShownH:cb pzm pzm (defScope pN):=by trivial
theorem ok_shownG (F:Fun K "_law_shown" "_law_shown" pN f fd)(G1:Fn K mg "_law_walked" sWalkH pzx f1 fd1)(F1:cW P w K mg base CX0 25 f1 fd1 pzx (spWalkG 22)):cW P w K mg base CX0 26 f fd pzm oO:=by
 refine F.ok scShownH (by contradiction) (fun cdv A outer s H vs Q E hr h=>?_);obtain ⟨v,u,b,m,sp,tr,ws,rfl,hv,N,du,gt,k⟩:=h;obtain ⟨t,p,ys,rfl,ht,hp,hl,hy⟩:=fe hv;have few:=N.few;refine ⟨_,PSl.h (cZ ⟨(bY (pc1 G1 F1 hr (ag (pv 0) (ag (iQ (fr:=[]) (js:=[]) rfl (iY (ixZ (pv 0))) (by trivial) rfl (by trivial) rfl (by exists pN) (by trivial) rfl (by trivial) (fun _ _ _ _ _=>⟨(eC (ag (dG (r:=ow K) dN (pv 0) bo (fun _ _=>rfl)) (ag (dG (r:=ow K) dN (pv 0) bo (fun _ _=>rfl)) aC))),ie⟩)) (ag (pv 1) (ag bo aC))))))⟩),?_⟩;refine ⟨_,rfl,_,rfl,t,_,_,_,rfl,rfl,SqT.of ht,az (j:=2) rfl,p,rfl,⟨_,SqT.of hp⟩,?_⟩;refine kx (K:=K) (a:=p) (xs:=ys) (fun i zs H2=>Same H H2∧zs.length=i∧IsDs H2 zs (eJ prI ((sp.take i).map fun z=>(z.l,z.o)))) ⟨Same.refl H,rfl,.nil⟩ (fun i zs H2 hi ⟨e1,e2,_⟩=>⟨SqT.of (e1 _ _ hp),by lia⟩) (by rw [hl];exact dW (by lia)) (fun i x zs H2 hx ⟨S2,e2,d2⟩=>?_) (fun zs H2 ⟨S2,e2,d2⟩ D hD=>?_)
 ·have hi:i<sp.length:=by rw [←hl];exact (ak.mp hx).1
  obtain ⟨q,hq,hq2⟩:=hy i sp[i] (gE hi);rw [hx] at hq;cases hq;refine gH ?_;refine ⟨_,rfl,q,_,_,_,rfl,rfl,SqT.of (S2 _ _ hq2),az (j:=2) rfl,_,rfl,q,_,_,_,rfl,rfl,SqT.of (S2 _ _ hq2),az (j:=3) rfl,mN,fun q3 H3 S3 h3=>⟨S2.trans S3,by rw [av,e2];rfl,?_⟩⟩;rw [bf,gE hi,aB];unfold eJ at d2 ⊢;rw [aB];exact (d2.same S3).append (.cons (.tup h3 (IsDs.ints [sp[i].l,sp[i].o])) .nil)
 ·rw [hl,aX] at d2
  have S3:Same H2 (upd H2 D (.lst zs)):=Same.put (Same.refl H2) hD;have h3:(upd H2 D (.lst zs)) D=some (.lst zs):=aV;generalize upd H2 D (.lst zs)=H3 at S3 h3 ⊢;have S03:=S2.trans S3;exact ⟨_,rfl,.ref t,u,D,zs,b,m,sp,_,tr,0,ws,rfl,hv.same S03,N,h3,d2.same S3,by rw [aa],ob_bu N (OB.first N []),du.same S03,mB tr _ _ ws gt,gt,by decide,by decide,by decide,fun L H' S' h'=>k L H' (S03.trans S') h'⟩
abbrev sLed:cU:=top 60
theorem scLed:cb ["_law_net_here","_law_ring","_law_spots","_law_step","_law_ends","_law_k"] pzJ (defScope sLed):=by trivial
theorem ok_led (F:Fun K "_law_led" "_law_led" sLed f fd)(T:Nm mg)(T2:Nt mg)(T3:N3 mg)(G1:Fn K mg "_law_is_whole" nZ pzi f1 fd1):cW P w K mg base CX0 2 f fd pzJ spLed:=by
 have F1:cW P w K mg base CX0 1 f1 fd1 pzi mU:=nk G1.F T;refine F.ok scLed (by contradiction) (fun cdv A outer s H vs Q E hr h=>?_);obtain ⟨v,r,b,m,sp,ws,rfl,hv,sfew,hw,rg,k⟩:=h;obtain ⟨t,p,ys,rfl,ht,hp,hl,hy⟩:=fe hv;have dw:=hw;obtain ⟨pw,yw,rfl,hpw,hlw,rw'⟩:=ib hw;have two:=rg.two;have few:=rg.few;have hin:=rg.inn;refine ⟨_,PSl.h (aU ⟨(fU (PW.pt (jd (gM (gj (jZ T (pv 1)))) (jD (cu oj (cy bX rfl T.len bI (ag (pv 1) aC)) bo (cJ _))))) (cj (bY k4)) cX)⟩
  (aU ⟨(psZ 2 scLed.nd (i9 aC))⟩
  (aU ⟨(gk bz rfl (iY (pv 1)) (pgZ 3 scLed.nd) (PSl.h (aU ⟨(fU (PW.pt (jd (gM (gj (jZ T (pv 3)))) (jD (cu ly (cy bX rfl T.len bI (ag (pv 3) aC)) bo (cJ _))))) (cj (bY k4)) cX)⟩
  (aU ⟨(fU (PW.pt (jd (gM (gj (pc1 G1 F1 hr (ag (ixZ (pv 3)) aC)))) (jd (gM (gj (pc1 G1 F1 hr (ag (ixZ (pv 3)) aC)))) (jD (cu oy (ixZ (pv 3)) (eC (ag bo (ag (pe_un o9 bo) aC))) rfl))))) (cj (bY k4)) cX)⟩
  (aU ⟨(fU (gM (oV op_le oj bo (ixZ (pv 3)) (cy bX rfl T.len bI (ag (ixZ (pv 0)) aC)))) (cj (bY k4)) cX)⟩
  (aU ⟨(psZ 4 scLed.nd (nc sl_tupN (dG dN (ixZ (pv 0)) (ixZ (pv 3)) (fun _ _=>rfl)) pZ (pY bo)))⟩
  (cZ ⟨(i6 (ng bB cA cz ik (pv 2) (ag (pe_turn (pv 4) (ixZ (pv 3))) aC)))⟩)))))))⟩
  (aU ⟨(gk bz rfl (iI rfl T2.range (ag (cy bX rfl T.len bI (ag (pv 2) aC)) aC)) (pgZ 5 scLed.nd) (cj (fU (cu ly (ixZ (dG eD (pv 2) (cg jj (pv 5) bo) (fun _ _=>rfl))) (ixZ (dG eD (pv 2) (pv 5) (fun _ _=>rfl))) (cJ _)) (cj (bY k4)) cX)))⟩
  (cZ ⟨(bY (iR lT (cy call_lenS rfl T.len bI (ag (fP (call_setL rfl) rfl T3.tset boot_set (ag (iQ (fr:=[]) (js:=[]) rfl (iY (pv 1)) (by trivial) rfl (by trivial) rfl (by exists sLed) (by trivial) rfl (by trivial) (fun _ _ _ _ _=>⟨(dG (r:=ow K) dN (pv 0) bo (fun _ _=>rfl)),ie⟩)) aC)) aC)) (cy bX rfl T.len bI (ag (pv 1) aC)) (cJ _)))⟩))))),?_⟩
 refine ⟨_,rfl,_,_,rfl,dw.tyn,_,rfl,iq rfl ?_⟩;refine ⟨_,rfl,pw,_,rfl,.inr (SqT.of hpw),_,_,rfl,rfl,_,rfl,iq (rN (by rw [hlw];omega)) ?_⟩;refine ⟨bG _,fun Ls hLs=>?_⟩;have S1:Same H (upd H Ls (.lst [])):=Same.put (Same.refl H) hLs;have h1:(upd H Ls (.lst [])) Ls=some (.lst []):=aV;generalize upd H Ls (.lst [])=H1 at S1 h1 ⊢;refine ⟨_,rfl,pw,rfl,⟨_,SqT.of (S1 _ _ hpw)⟩,?_⟩;refine ki (K:=K) (xs:=yw) (fun i σ H2=>Same H H2∧∃ (zs:List V) (v3 v4:Option V),σ=[some (.ref t),some (.ref pw),some (.ref Ls),v3,v4,none]∧H2 Ls=some (.lst zs)∧IsDs H2 zs (eJ (ftS sp) (ws.take i))∧zs.length=i) ⟨S1,[],none,none,rfl,h1,.nil,rfl⟩ (fun i σ H2 _ ⟨e1,_⟩=>SqT.of (e1 _ _ hpw)) ?_ ?_
 ·rintro i y σ H2 hy2 ⟨S2,zs,v3,v4,rfl,hz,dz,lz⟩
  have hi:i<ws.length:=by rw [←hlw];exact (ak.mp hy2).1
  obtain ⟨q,hq,hq2⟩:=iG rw' (gE hi);rw [hy2] at hq;cases hq;obtain ⟨i1,d1⟩:=hin ws[i] (bt hi);have hq2':H2 q=some (.tup [.int (ws[i].i:Nat),.int ws[i].d]):=S2 _ _ hq2;obtain ⟨qs,hqs,hqs2⟩:=hy ws[i].i sp[ws[i].i] (gE i1);refine ⟨_,rfl,_,_,rfl,(IsD.tup hq2' (.cons (.int _) (.cons (.int _) .nil))).tyn,_,rfl,iq rfl ?_⟩;refine ⟨_,rfl,q,_,rfl,.inr (SqT.of hq2'),rfl,_,rfl,iq rfl ?_⟩;refine ⟨_,rfl,q,_,_,_,rfl,rfl,SqT.of hq2',az (j:=0) rfl,_,rfl,_,rfl,iq rfl ?_⟩;refine ⟨_,rfl,q,_,_,_,rfl,rfl,SqT.of hq2',az (j:=1) rfl,_,rfl,_,rfl,iq rfl ?_⟩;refine ⟨_,rfl,q,_,_,_,rfl,rfl,SqT.of hq2',az (j:=1) rfl,_,rfl,mN,fun q3 H3 S3 h3=>?_⟩;refine ⟨q3,_,rfl,.inr (SqT.of h3),rfl,rfl,_,rfl,iq ?_ ?_⟩
  ·rcases d1 with e | e <;> rw [e] <;> decide
  have S03:=S2.trans S3;have hq3:=S3 _ _ hq2';refine ⟨_,rfl,q,_,_,_,rfl,rfl,SqT.of hq3,az (j:=0) rfl,_,_,rfl,rfl,_,rfl,om (rM (by omega)) ?_⟩;refine ⟨_,rfl,t,_,_,_,rfl,rfl,SqT.of (S03 _ _ ht),az (j:=2) rfl,p,_,rfl,.inr (SqT.of (S03 _ _ hp)),_,_,rfl,rfl,_,rfl,iq (by rw [hl,rM (show ((ws[i].i:Nat):Int)<(sp.length:Int) by omega)];rfl) ?_⟩;refine ⟨_,rfl,t,_,_,_,rfl,rfl,SqT.of (S03 _ _ ht),az (j:=2) rfl,_,rfl,q,_,_,_,rfl,rfl,SqT.of hq3,az (j:=0) rfl,p,_,_,_,rfl,rfl,SqT.of (S03 _ _ hp),az (j:=ws[i].i) hqs,_,rfl,qs,_,rfl,S03 _ _ hqs2,fun q4 H4 S4 h4=>?_⟩;rw [cutU (i:=2) (n:=2) (by omega)] at h4;have h4:H4 q4=some (.tup [.int sp[ws[i].i].s,.int sp[ws[i].i].g]):=h4;have hz4:=S4 _ _ (S3 _ _ hz);have hq4:=S4 _ _ hq3;refine ⟨_,rfl,.inl ⟨rfl,_,SqL.of hz4⟩,_,rfl,_,rfl,q,_,_,_,rfl,rfl,SqT.of hq4,az (j:=1) rfl,q4,_,ws[i].d,rfl,rfl,d1,h4,fun q5 H5 S5 h5=>?_⟩;rw [ft_of i1 d1] at h5;have hz5:=S5 _ _ hz4;refine ⟨Ls,zs,_,rfl,rfl,hz5,(aS (by omega:zs.length<1000) (by decide:1000≤bp)),?_⟩;have S35:=S3.trans (S4.trans S5);have KC:TupK H5 (upd H5 Ls (.lst (zs++[.ref q5]))):=fI hz5;refine ⟨fun a o e=>by rw [bC (bH e hLs)];exact S35 _ _ (S2 _ _ e),zs++[.ref q5],_,_,rfl,aV,?_,by rw [av,lz];rfl⟩;rw [bf,gE hi];unfold eJ at dz ⊢;rw [aB];exact (fG KC (dz.same S35)).append (.cons (.tup (KC _ _ h5) (IsDs.ints (ftS sp ws[i]))) .nil)
 rintro σ H2 ⟨S2,zs,v3,v4,rfl,hz,dz,lz⟩;rw [hlw,aX] at dz;have lz:zs.length=ws.length:=by rw [lz,hlw]
 obtain ⟨x0,al⟩:=rg.rnd;obtain ⟨af,al',an⟩:=along_get al;refine ⟨_,rfl,Ls,_,rfl,.inl (SqL.of hz),_,rfl,by omega,by omega,?_⟩;refine jF (n:=((zs.length:Nat):Int).toNat) (fun i σ H3=>H3=H2∧∃ v5,σ=[some (.ref t),some (.ref pw),some (.ref Ls),v3,v4,v5]) ⟨rfl,none,rfl⟩ ?_ ?_
 ·rintro i σ H3 hi ⟨rfl,v5,rfl⟩
  have hi:i<ws.length:=by omega
  obtain ⟨qb,hqb,hqb2⟩:=iG dz (gE hi);obtain ⟨j,hj,hat,hmt⟩:∃ j,∃ hj:j<ws.length,atI zs (0+(i:Int) - 1)=zs[j]? ∧fF sp ws[j]=lH sp ws[i]:=by
   cases i with
   | zero =>
    refine ⟨ws.length - 1,by omega,?_,?_⟩
    ·have e:zs[zs.length - 1]? =some (zs[zs.length - 1]'(by omega)):=gE _
     rw [show (0:Int)+((0:Nat):Int) - 1= -1 by omega,atI_last e,←e,lz]
    ·rw [al' (by omega),af (by omega)]
   | succ i =>
    refine ⟨i,by omega,?_,an i hi⟩;have e:zs[i]? =some (zs[i]'(by omega)):=gE _;rw [show (0:Int)+((i+1:Nat):Int) - 1=(i:Int) by omega,e];exact az e
  obtain ⟨qa,hqa,hqa2⟩:=iG dz (gE hj);rw [hqa] at hat;refine ⟨_,rfl,_,rfl,_,_,rfl,rfl,Ls,_,_,_,rfl,rfl,SqL.of hz,hat,qa,_,_,_,rfl,rfl,SqT.of hqa2,az (j:=1) rfl,_,rfl,_,rfl,Ls,_,_,_,rfl,rfl,SqL.of hz,by rw [gO];exact az hqb,qb,_,_,_,rfl,rfl,SqT.of hqb2,az (j:=0) rfl,rfl,_,rfl,iq ?_ ?_⟩
  ·rw [rM (by rw [hmt])];rfl
  exact ⟨rfl,_,rfl⟩
 rintro σ H3 ⟨rfl,v5,rfl⟩;refine ⟨_,rfl,pw,rfl,⟨_,SqT.of (S2 _ _ hpw)⟩,?_⟩;refine kx (K:=K) (a:=pw) (xs:=yw) (fun i zs H4=>H4=H3∧zs=(oB (ws.take i)).map V.int) ⟨rfl,rfl⟩ (fun i zs H4 hi ⟨e1,e2⟩=>?_) (by rw [hlw];exact dW (by omega)) (fun i x zs H4 hx ⟨e1,e2⟩=>?_) (fun zs H4 ⟨e1,e2⟩ D hD=>?_)
 ·subst e1
  refine ⟨SqT.of (S2 _ _ hpw),?_⟩;rw [e2,aa];unfold oB;rw [aa,bL];omega
 ·subst e1
  have hi:i<ws.length:=by rw [←hlw];exact (ak.mp hx).1
  obtain ⟨q1,f1,g1⟩:=iG rw' (gE hi);rw [hx] at f1;cases f1;refine gH ?_;refine ⟨_,rfl,q1,_,_,_,rfl,rfl,SqT.of (S2 _ _ g1),az (j:=0) rfl,rfl,?_⟩;rw [e2,numsS_take hi,aB];rfl
 subst e1;have e3:zs=(oB ws).map V.int:=by rw [e2,hlw,aX]
 subst e3;refine ⟨D,oB ws,rfl,SqL.of aV,by unfold oB;rw [aa];omega,fun p4 H5 S5 h5=>?_⟩;have S15:Same H4 H5:=(Same.put (Same.refl H4) hD).trans S5;have SH5:=S2.trans S15;refine ⟨p4,_,_,rfl,h5,?_⟩;refine ⟨_,rfl,pw,_,rfl,.inr (SqT.of (SH5 _ _ hpw)),rfl,?_⟩;have nd:(oB ws).Nodup:=by
  have:=rg.one;unfold oB;rw [bM,fh] at this ⊢;exact this.imp fun h e=>h (by omega)
 have e:(metL (oB ws)).length=yw.length:=by rw [met_nodup nd,hlw];unfold oB;rw [aa]
 rw [rM (by rw [e])];exact k H5 SH5
abbrev sWorthH:cU:=top 62
theorem i5:cb ["_law_net_here","_law_bounds","_law_rows","_law_prices","_law_total","_law_price","_law_ring","_law_span_here","_law_way","_law_k"] pzK (defScope sWorthH):=by trivial
theorem ok_worthH (F:Fun K "_law_worth" "_law_worth" sWorthH f fd)(T:Nm mg)(T2:Nt mg)(G1:Fn K mg "_law_beats" sBeatsH pzs f1 fd1):cW P w K mg base CX0 2 f fd pzK spWorthH:=by
 have F1:cW P w K mg base CX0 1 f1 fd1 pzs spBeatsH:=ok_beatsH G1.F;refine F.ok i5 (by contradiction) (fun cdv A outer s H vs Q E hr h=>?_);obtain ⟨v,vr,B,bv,b,m,sp,bs,rows,rfl,W,k⟩:=h;obtain ⟨hv,hB,dB,hrr,b0,b61,lb,few,bu,hws,hok,lr41⟩:=W;obtain ⟨t,pn,ys,rfl,ht,hpn,hl,hy⟩:=fe hv;obtain ⟨pr,yr,rfl,hpr,ry⟩:=IsD.tup_of hrr;have lr:yr.length=rows.length:=by rw [ry.length,aa]
 have lbv:bv.length=bs.length:=by rw [dB.length];unfold eJ;rw [aa]
 refine ⟨_,PSl.h (aU ⟨(pU (iy:=3) (fr:=[]) (js:=[]) i5.nd rfl (.inl rfl) rfl (iY (ixZ (pv 0))) (by trivial) rfl (by trivial) rfl (by exists sWorthH) (by trivial) rfl (by trivial) (fun _ _ _ _ _=>⟨(dG (r:=ow K) dN (pv 0) bo (fun _ _=>rfl)),ie⟩))⟩
  (aU ⟨(psZ 4 i5.nd bo)⟩
  (aU ⟨(gk bz rfl (iY (pv 2)) (lQ rfl (eZ (pgZ 5 i5.nd) (eZ (pgZ 6 i5.nd) ke))) (PSl.h (aU ⟨(psZ 4 i5.nd (cg fu (pv 4) (cg op_mulB (cg ij (pv 5) (ixZ (pc1 G1 F1 hr (ag (pv 0) (ag (pv 1) (ag (pv 6) aC)))))) (ixZ (pv 0)))))⟩
  (cZ ⟨(gk bz rfl (iY (pv 6)) (lQ rfl (eZ (pgZ 7 i5.nd) (eZ (pgZ 8 i5.nd) ke))) (cj (mY (cg jj (dG eD (pv 3) (pv 7) (fun _ _=>rfl)) (cg ij (pv 8) (pv 5))) (pg_sub (pv 3) (pv 7) mX))))⟩))))⟩
  (aU ⟨(gk bz rfl (iI rfl T2.range (ag (cy bX rfl T.len bI (ag (pv 3) aC)) aC)) (pgZ 9 i5.nd) (PSl.h (aU ⟨(psZ 4 i5.nd (cg fu (pv 4) (cg ij (dG eD (pv 3) (pv 9) (fun _ _=>rfl)) (dG dN (dG eD (pv 1) (pv 9) (fun _ _=>rfl)) (fP qI rfl T.tint boot_int (ag (iR oj (dG eD (pv 3) (pv 9) (fun _ _=>rfl)) bo (cJ _)) aC)) (fun _ _=>rfl)))))⟩
  (cZ ⟨(psZ 4 i5.nd (cg jj (pv 4) (cg ij (ixZ (dG dN (ixZ (pv 0)) (pv 9) (fun _ _=>rfl))) (ixZ (dG dN (ixZ (pv 0)) (pv 9) (fun _ _=>rfl))))))⟩))))⟩
  (cZ ⟨(bY (pv 4))⟩))))),?_⟩
 refine ⟨_,rfl,t,_,_,_,rfl,rfl,SqT.of ht,az (j:=2) rfl,pn,rfl,⟨_,SqT.of hpn⟩,?_⟩;refine kx (K:=K) (a:=pn) (xs:=ys) (fun i zs H2=>H2=H∧zs=((sp.take i).map Sn.w).map V.int) ⟨rfl,rfl⟩ (fun i zs H2 hi ⟨e1,e2⟩=>?_) (by rw [hl];exact dW (by lia)) (fun i x zs H2 hx ⟨e1,e2⟩=>?_) (fun zs H2 ⟨e1,e2⟩ D hD=>?_)
 ·subst e1
  refine ⟨SqT.of hpn,?_⟩;rw [e2,aa,aa,bL];lia
 ·subst e1
  have hi:i<sp.length:=by rw [←hl];exact (ak.mp hx).1
  obtain ⟨q,hq,hq2⟩:=hy i sp[i] (gE hi);rw [hx] at hq;cases hq;refine gH ⟨_,rfl,q,_,_,_,rfl,rfl,SqT.of hq2,az (j:=4) rfl,rfl,?_⟩;rw [e2,bf,gE hi,aB,aB];rfl
 subst e1;rw [hl,aX] at e2;subst e2;have S1:Same H2 (upd H2 D (.lst ((sp.map Sn.w).map V.int))):=Same.put (Same.refl H2) hD;have hD1:(upd H2 D (.lst ((sp.map Sn.w).map V.int))) D=some (.lst ((sp.map Sn.w).map V.int)):=aV;generalize upd H2 D (.lst ((sp.map Sn.w).map V.int))=H1 at S1 hD1 ⊢;refine ⟨_,rfl,pr,rfl,⟨_,SqT.of (S1 _ _ hpr)⟩,?_⟩;refine ki (K:=K) (xs:=yr) (fun i σ H3=>Same H2 H3∧(∃ v5 v6 v7 v8 v9,σ=[some (.ref t),some (.ref B),some (.ref pr),some (.ref D),some (.int (kI b bs (rows.take i))),v5,v6,v7,v8,v9])∧H3 D=some (.lst (((rows.take i).foldl rowP (sp.map Sn.w)).map V.int))) ⟨S1,⟨none,none,none,none,none,rfl⟩,hD1⟩ (fun i σ H3 _ ⟨S3,_⟩=>SqT.of (S3 _ _ hpr)) ?_ ?_
 ·rintro i y σ H3 hy3 ⟨S3,⟨v5,v6,v7,v8,v9,rfl⟩,hD3⟩
  have hi:i<rows.length:=by rw [←lr];exact (ak.mp hy3).1
  obtain ⟨d,hd,dy⟩:=ry.get hy3;rw [ax,gE hi] at hd;cases hd;obtain ⟨q,vw,rfl,hq,hw⟩:=row_of dy;have hw0:=hw;obtain ⟨pw,yw,rfl,hpw,hlw,rw'⟩:=ib hw;have ok:=hok rows[i] (bt hi);have u1:=up_abs (b:=b) (bs:=bs) (ws:=rows[i].2) b0 bu ok.few;have p1:=ok.lo;have p2:=ok.hi;obtain ⟨ps,hps⟩:∃ ps,ps=(rows.take i).foldl rowP (sp.map Sn.w):=⟨_,rfl⟩;have lps:ps.length=sp.length:=by rw [hps,oU,aa]
  rw [←hps] at hD3;refine ⟨q,_,rfl,SqT.of (S3 _ _ hq),rfl,_,_,rfl,_,_,rfl,rfl,?_⟩;refine ⟨_,rfl,_,rfl,_,rfl,_,rfl,_,rfl,.ref t,.ref pw,B,bv,b,m,sp,bs,rows[i].2,rfl,hv.same S3,b0,b61,S3 _ _ hB,dB.same S3,hw0.same S3,by rw [lb];exact ok.inn,fun q5 H5 S5 h5=>?_⟩;refine ⟨q5,_,_,_,rfl,rfl,SqT.of h5,az (j:=0) rfl,_,_,rfl,rfl,.inl ⟨by show -(2 ^ 64)<rows[i].1;lia,by show rows[i].1<2 ^ 64;lia⟩,_,rfl,t,_,_,_,rfl,rfl,SqT.of (S5 _ _ (S3 _ _ ht)),az (j:=0) rfl,_,_,rfl,rfl,⟨?_,?_⟩,_,_,rfl,rfl,?_⟩
  ·rw [Int.natAbs_mul]
   have h1:rows[i].1.natAbs≤10 ^ 12:=by lia
   exact bV (Nat.mul_le_mul h1 u1) (by trivial)
  ·exact bV (by lia:b.natAbs≤10 ^ 61) (by trivial)
  have S35:=S3.trans S5;refine ⟨_,rfl,pw,rfl,⟨_,SqT.of (S35 _ _ hpw)⟩,?_⟩;refine ki (K:=K) (xs:=yw) (fun j σ H4=>Same H2 H4∧(∃ v7 v8,σ=[some (.ref t),some (.ref B),some (.ref pr),some (.ref D),some (.int (kI b bs (rows.take (i+1)))),some (.int rows[i].1),some (.ref pw),v7,v8,v9])∧H4 D=some (.lst (((rows[i].2.take j).foldl (jV rows[i].1) ps).map V.int))) ⟨S35,⟨v7,v8,?_⟩,S5 _ _ hD3⟩ (fun j σ H4 _ ⟨S4,_⟩=>SqT.of (S4 _ _ hpw)) ?_ ?_
  ·have e:kI b bs (rows.take (i+1))=kI b bs (rows.take i)+rows[i].1 * upB b (eU bs rows[i].2) * b:=by
    unfold kI;rw [sum_take _ hi]
   rw [e];rfl
  ·rintro j z σ H4 hz ⟨S4,⟨v7,v8,rfl⟩,hD4⟩
   have hj:j<rows[i].2.length:=by rw [←hlw];exact (ak.mp hz).1
   obtain ⟨q2,e2,h2⟩:=iG rw' (gE hj);rw [hz] at e2;cases e2;obtain ⟨i1,d1⟩:=ok.inn rows[i].2[j] (bt hj);obtain ⟨qs,hqs⟩:∃ qs,qs=(rows[i].2.take j).foldl (jV rows[i].1) ps:=⟨_,rfl⟩;have lqs:qs.length=sp.length:=by rw [hqs,kG,lps]
   rw [←hqs] at hD4;have hgs:qs[rows[i].2[j].i]? =some (qs.getD rows[i].2[j].i 0):=by rw [ai,gE (by lia)];rfl
   refine ⟨q2,_,rfl,SqT.of (S4 _ _ h2),rfl,_,_,rfl,_,_,rfl,rfl,?_⟩;refine ⟨_,rfl,_,rfl,D,_,_,_,rfl,rfl,SqL.of hD4,az (j:=rows[i].2[j].i) (by rw [ax,hgs];rfl),_,rfl,_,rfl,_,_,rfl,rfl,.inl ?_,_,_,rfl,rfl,?_⟩
   ·rcases d1 with d1 | d1 <;> rw [d1] <;> exact ⟨by decide,by decide⟩
   refine ⟨_,rfl,_,rfl,D,_,_,rows[i].2[j].i,rfl,rfl,hD4,(by simp [ixN,lqs,i1]),?_⟩;refine ⟨fun bb o e=>?_,⟨_,_,rfl⟩,?_⟩
   ·rw [bC (fun z=>by rw [z,hD] at e;cases e)]
    exact S4 _ _ e
   ·rw [aV,nM _ _ hj,←hqs]
    congr 2;unfold jV;rw [List.map_set,Int.mul_comm rows[i].1]
  ·rintro σ H4 ⟨S4,⟨v7,v8,rfl⟩,hD4⟩
   refine ⟨S4,⟨_,_,_,_,_,rfl⟩,?_⟩;rw [nM _ _ hi,←hps,hD4,hlw,aX];rfl
 rintro σ H3 ⟨S3,⟨v5,v6,v7,v8,v9,rfl⟩,hD3⟩;rw [lr,aX] at hD3;rw [lr,aX];have hD3:H3 D=some (.lst ((ownM sp rows).map V.int)):=hD3;have lo:=own_len sp rows;refine ⟨_,rfl,D,_,rfl,.inl (SqL.of hD3),_,rfl,by lia,by rw [aa,lo];lia,?_⟩;refine jF (n:=(((ownM sp rows).map V.int).length:Int).toNat) (fun i σ H5=>H5=H3∧∃ v9,σ=[some (.ref t),some (.ref B),some (.ref pr),some (.ref D),some (.int (kI b bs rows+((aQ i).map (oA sp bs rows)).sum)),v5,v6,v7,v8,v9]) ⟨rfl,v9,by simp⟩ ?_ ?_
 ·rintro i σ H5 hi0 ⟨rfl,v9,rfl⟩
  have hi:i<sp.length:=by rw [aa,lo] at hi0;lia
  have hib:i<bs.length:=by lia
  have eo:(ownM sp rows)[i]'(by lia)=owK sp rows i:=by
   rw [←own_at hi hok,ai,gE (by lia)];rfl
  have hoi:((ownM sp rows).map V.int)[i]? =some (V.int (owK sp rows i)):=by rw [ax,gE (by lia),eo];rfl
  obtain ⟨vk,hvk,dk⟩:=dB.at (i:=i) (d:= .tup ((prI bs[i]).map Dt.int)) (by unfold eJ;rw [ax,gE hib];rfl);obtain ⟨qb,kb,rfl,h1,rk⟩:=IsD.tup_of dk;obtain rfl:kb=(prI bs[i]).map V.int:=rk.ints_of;obtain ⟨qz,e2,h2⟩:=hy i sp[i] (gE hi);have ob:=owK_abs (k:=i) hws hok lr41;have wx:=hws sp[i] (bt hi);have ew:wOf sp i=sp[i].w:=by unfold wOf;rw [gE hi]
  have el:lOf sp i=sp[i].l:=by unfold lOf;rw [gE hi]
  have eb:bs.getD i (0,0)=bs[i]:=by rw [ai,gE hib];rfl
  have et:oA sp bs rows i=owK sp rows i * (if owK sp rows i<0 then bs[i].2 else bs[i].1) - sp[i].w * sp[i].l:=by unfold oA;rw [ew,el,eb]
  have ei:(0:Int)+(i:Nat)=(i:Nat):=gO _;have at9:atI ((ownM sp rows).map V.int) (0+(i:Nat))=some (V.int (owK sp rows i)):=by rw [ei];exact az hoi
  have atb:atI bv (0+(i:Nat))=some (.ref qb):=by rw [ei];exact az hvk
  have atn:atI ys (0+(i:Nat))=some (.ref qz):=by rw [ei];exact az e2
  have atp:atI ((prI bs[i]).map V.int) (if decide (owK sp rows i<0)=true then 1 else 0)=some (V.int (if owK sp rows i<0 then bs[i].2 else bs[i].1)):=by
   by_cases hneg:owK sp rows i<0
   ·rw [rM hneg,rJ rfl,rJ hneg];exact az (j:=1) rfl
   ·rw [rN hneg,rG aR,rG hneg];exact az (j:=0) rfl
  refine ⟨_,rfl,_,rfl,_,rfl,D,_,_,_,rfl,rfl,SqL.of hD3,at9,_,rfl,_,rfl,B,_,_,_,rfl,rfl,SqL.of (S3 _ _ hB),atb,_,rfl,_,rfl,D,_,_,_,rfl,rfl,SqL.of hD3,at9,_,_,rfl,rfl,.inr ⟨_,rfl,qb,_,_,_,rfl,rfl,SqT.of (S3 _ _ h1),atp,_,_,rfl,rfl,.inl ⟨by show -(2 ^ 64)<owK sp rows i;lia,by show owK sp rows i<2 ^ 64;lia⟩,_,_,rfl,rfl,?_⟩⟩;refine ⟨_,rfl,_,rfl,t,_,_,_,rfl,rfl,SqT.of (S3 _ _ ht),az (j:=2) rfl,_,rfl,pn,_,_,_,rfl,rfl,SqT.of (S3 _ _ hpn),atn,qz,_,_,_,rfl,rfl,SqT.of (S3 _ _ h2),az (j:=4) rfl,_,rfl,t,_,_,_,rfl,rfl,SqT.of (S3 _ _ ht),az (j:=2) rfl,_,rfl,pn,_,_,_,rfl,rfl,SqT.of (S3 _ _ hpn),atn,qz,_,_,_,rfl,rfl,SqT.of (S3 _ _ h2),az (j:=2) rfl,_,_,rfl,rfl,.inl ⟨by show -(2 ^ 64)<sp[i].w;lia,by show sp[i].w<2 ^ 64;lia⟩,_,_,rfl,rfl,?_⟩;refine ⟨rfl,some (.int (0+(i:Nat))),?_⟩;have e:kI b bs rows+((aQ (i+1)).map (oA sp bs rows)).sum=kI b bs rows+((aQ i).map (oA sp bs rows)).sum+owK sp rows i * (if owK sp rows i<0 then bs[i].2 else bs[i].1) - sp[i].w * sp[i].l:=by
   rw [pq,et];lia
  rw [e];rfl
 ·rintro σ H5 ⟨rfl,v9,rfl⟩
  refine ⟨_,rfl,?_⟩;have k1:=k H5 S3;unfold jA at k1;rw [aa,lo,cL];exact k1
theorem nX:cb ["_law_net_here","_law_bounds","_law_tree","_law_first","_law_last","_law_row"] pzy (defScope sLeafH):=by trivial
theorem ok_leafG (F:Fun K "_law_leaf" "_law_leaf" sLeafH f fd)(T:Nm mg)(G1:Fn K mg "_law_led" sLed pzJ f1 fd1)(F1:cW P w K mg base CX0 2 f1 fd1 pzJ spLed)(G2:Fn K mg "_law_beats" sBeatsH pzs f2 fd2)
  (G3:Fn K mg "_law_is_whole" nZ pzi f3 fd3) (G4:Fn K mg "_law_worth" sWorthH pzK f4 fd4) (F4:cW P w K mg base CX0 2 f4 fd4 pzK spWorthH):cW P w K mg base CX0 3 f fd pzy spLeafG:=by
 have F2:cW P w K mg base CX0 1 f2 fd2 pzs spBeatsH:=ok_beatsH G2.F;have F3:cW P w K mg base CX0 1 f3 fd3 pzi mU:=nk G3.F T;refine F.ok nX (by contradiction) (fun cdv A outer s H vs Q E hr h=>?_);obtain ⟨v,u,B,bv,b,m,sp,bs,d,ws,rfl,hv,N,hB,dB,lb,bu,du,_,rw0,k⟩:=h;have hr1:Room 1 _:=hr.mono (by decide);have hr2:Room 2 _:=hr;refine ⟨_,PSl.h (aU ⟨(fU (cu lT (ixZ (pv 2)) kf (cJ _)) (PSl.h (aU ⟨(fU (PW.pt (jd (cu ly (cy bX rfl T.len bI (ag (pv 2) aC)) bo (cJ _)) (jD (gM (gj (pc1 G1 F1 hr2 (ag (pv 0) (ag (ixZ (pv 2)) aC)))))))) (cj (bY iJ)) cX)⟩
  (aU ⟨(mY (pc1 G2 F2 hr1 (ag (pv 0) (ag (pv 1) (ag (ixZ (pv 2)) aC)))) (lQ rfl (eZ (pgZ 3 nX.nd) (eZ (pgZ 4 nX.nd) ke))))⟩
  (cZ ⟨(bY (PEs.h (k_ix eD (k_lst (fS (k_lst a_nil) (fS ⟨iJ⟩ a_nil))) ⟨fP qI rfl T.tint boot_int (ag (iR op_le (pv 3) (pv 4) (cJ _)) aC)⟩ (fun _ _=>rfl))))⟩)))) cX)⟩
  (aU ⟨(fU (PW.pt (jd (cu ly (ixZ (pv 2)) kf (cJ _)) (jd (cu ly (cy bX rfl T.len bI (ag (pv 2) aC)) bo (cJ _)) (jD (gM (gj (jZ T (ixZ (pv 2))))))))) (cj (bY iJ)) cX)⟩
  (aU ⟨(gk bz rfl (iY (ixZ (pv 2))) (pgZ 5 nX.nd) (PSl.h (aU ⟨(fU (PW.pt (jd (gM (gj (jZ T (pv 5)))) (jd (cu ly (cy bX rfl T.len bI (ag (pv 5) aC)) bo (cJ _)) (jD (gM (gj (pc1 G3 F3 hr1 (ag (ixZ (pv 5)) aC)))))))) (cj (bY iJ)) cX)⟩
  (aU ⟨(fU (gM (gj (pc1 G1 F1 hr2 (ag (pv 0) (ag (ixZ (pv 5)) aC))))) (cj (bY iJ)) cX)⟩
  (aU ⟨(mY (pc1 G2 F2 hr1 (ag (pv 0) (ag (pv 1) (ag (ixZ (pv 5)) aC)))) (lQ rfl (eZ (pgZ 3 nX.nd) (eZ (pgZ 4 nX.nd) ke))))⟩
  (cZ ⟨(fU (cu ly (pv 3) (pv 4) (cJ _)) (cj (bY iJ)) cX)⟩))))))⟩
  (cZ ⟨(bY (lR (ag (pc1 G4 F4 hr2 (ag (pv 0) (ag (pv 1) (ag (ixZ (pv 2)) aC)))) aC)))⟩)))),?_⟩
 rcases rw0 with ⟨⟨p,rfl,rg,dead⟩,rfl⟩ | ⟨rows,rfl,hok,few,rfl⟩
 ·have du:IsD H u (.tup [.str "ring",mf p]):=du
  obtain ⟨q,xs,rfl,hq,rq⟩:=IsD.tup_of du;obtain ⟨vr,rfl,dr⟩:∃ vr,xs=[.str "ring",vr]∧IsD H vr (mf p):=by
   cases rq with
   | cons a rq=>cases a;cases rq with
    | cons dr rq=>cases rq;exact ⟨_,rfl,dr⟩
  refine ⟨_,rfl,q,_,_,_,rfl,rfl,SqT.of hq,az (j:=0) rfl,rfl,_,rfl,om (rM rfl) ?_⟩;refine ⟨_,rfl,q,_,rfl,.inr (SqT.of hq),rfl,_,rfl,iq rfl ?_⟩;refine ⟨_,rfl,_,rfl,q,_,_,_,rfl,rfl,SqT.of hq,az (j:=1) rfl,v,vr,b,m,sp,p,rfl,hv,N.few,dr,rg,fun H1 S1=>⟨_,rfl,iq rfl ?_⟩⟩;refine ⟨_,rfl,_,rfl,_,rfl,q,_,_,_,rfl,rfl,SqT.of (S1 _ _ hq),az (j:=1) rfl,v,vr,B,bv,b,m,sp,bs,p,rfl,hv.same S1,by have:=N.b1;lia,by have:=N.b2;lia,S1 _ _ hB,dB.same S1,dr.same S1,by rw [lb];exact rg.inn,fun q2 H2 S2 h2=>⟨q2,_,rfl,SqT.of h2,rfl,_,_,rfl,_,_,rfl,rfl,?_⟩⟩;refine ⟨bG _,fun L0 H3 S3 h3=>⟨mN,fun L1 H4 S4 h4=>?_⟩⟩;have hd:¬ (upB b (eU bs p)≤gC bs p / b):=by
   have:=rO (show decide (upB b (eU bs p) > gC bs p / b)=true from dead);lia
  refine ⟨_,rfl,_,rfl,_,_,rfl,rfl,.inr ⟨_,rfl,?_⟩⟩;rw [rN hd];exact ⟨L1,_,_,_,rfl,rfl,SqL.of h4,az (j:=0) rfl,k L0 H4 (S1.trans (S2.trans (S3.trans S4))) (S4 _ _ h3)⟩
 ·obtain ⟨q,pr,yr,rfl,hq,hpr,ry⟩:=price_of du
  have lr:yr.length=rows.length:=by rw [ry.length,aa]
  have drr:IsD H (.ref pr) (.tup (rows.map rowD)):= .tup hpr ry;refine ⟨_,rfl,q,_,_,_,rfl,rfl,SqT.of hq,az (j:=0) rfl,rfl,_,rfl,iq (rN nofun) ?_⟩;refine ⟨_,rfl,q,_,_,_,rfl,rfl,SqT.of hq,az (j:=0) rfl,rfl,_,rfl,iq rfl ?_⟩;refine ⟨_,rfl,q,_,rfl,.inr (SqT.of hq),rfl,_,rfl,iq rfl ?_⟩;refine ⟨_,rfl,q,_,_,_,rfl,rfl,SqT.of hq,az (j:=1) rfl,_,_,rfl,drr.tyn,_,rfl,iq rfl ?_⟩;refine ⟨_,rfl,q,_,_,_,rfl,rfl,SqT.of hq,az (j:=1) rfl,pr,rfl,⟨_,SqT.of hpr⟩,?_⟩;refine ki (K:=K) (xs:=yr) (fun i σ H3=>Same H H3∧∃ v3 v4 v5,σ=[some v,some (.ref B),some (.ref q),v3,v4,v5]) ⟨Same.refl H,none,none,none,rfl⟩ (fun i σ H3 _ ⟨S3,_⟩=>SqT.of (S3 _ _ hpr)) ?_ ?_
  ·rintro i y σ H3 hy3 ⟨S3,v3,v4,v5,rfl⟩
   have hi:i<rows.length:=by rw [←lr];exact (ak.mp hy3).1
   obtain ⟨d,hd,dy⟩:=ry.get hy3;rw [ax,gE hi] at hd;cases hd;have dy0:IsD H y (.tup [.int rows[i].1,mf rows[i].2]):=dy;obtain ⟨qr,vw,rfl,hqr,hw⟩:=row_of dy;obtain ⟨rgi,su,_,_⟩:=hok rows[i] (bt hi);refine ⟨_,rfl,_,_,rfl,(dy0.same S3).tyn,_,rfl,iq rfl ?_⟩;refine ⟨_,rfl,qr,_,rfl,.inr (SqT.of (S3 _ _ hqr)),rfl,_,rfl,iq rfl ?_⟩;refine ⟨_,rfl,qr,_,_,_,rfl,rfl,SqT.of (S3 _ _ hqr),az (j:=0) rfl,_,rfl,_,rfl,iq rfl ?_⟩;refine ⟨_,rfl,_,rfl,qr,_,_,_,rfl,rfl,SqT.of (S3 _ _ hqr),az (j:=1) rfl,v,vw,b,m,sp,rows[i].2,rfl,hv.same S3,N.few,hw.same S3,rgi,fun H4 S4=>⟨_,rfl,iq rfl ?_⟩⟩;have S34:=S3.trans S4;refine ⟨_,rfl,_,rfl,_,rfl,qr,_,_,_,rfl,rfl,SqT.of (S34 _ _ hqr),az (j:=1) rfl,v,vw,B,bv,b,m,sp,bs,rows[i].2,rfl,hv.same S34,by have:=N.b1;lia,by have:=N.b2;lia,S34 _ _ hB,dB.same S34,hw.same S34,by rw [lb];exact rgi.inn,fun q2 H5 S5 h5=>⟨q2,_,rfl,SqT.of h5,rfl,_,_,rfl,_,_,rfl,rfl,?_⟩⟩;have su:=rO (show decide (upB b (eU bs rows[i].2)=gC bs rows[i].2 / b)=true from su);refine ⟨_,rfl,_,rfl,rfl,_,rfl,iq (by rw [rM (show V.int (upB b (eU bs rows[i].2))=V.int (gC bs rows[i].2 / b) by rw [su])];rfl) ?_⟩;exact ⟨S34.trans S5,_,_,_,rfl⟩
  ·rintro σ H3 ⟨S3,v3,v4,v5,rfl⟩
   refine ⟨_,rfl,_,rfl,_,rfl,q,_,_,_,rfl,rfl,SqT.of (S3 _ _ hq),az (j:=1) rfl,v,.ref pr,B,bv,b,m,sp,bs,rows,rfl,⟨hv.same S3,S3 _ _ hB,dB.same S3,drr.same S3,by have:=N.b1;lia,by have:=N.b2;lia,lb,N.few,bu,N.ws,fun r hr=>⟨(hok r hr).1.inn,(hok r hr).1.one,(hok r hr).1.few,(hok r hr).2.2.1,(hok r hr).2.2.2⟩,by lia⟩,fun H4 S4=>?_⟩;exact ⟨szZ1,fun L H5 S5 h5=>k L H5 (S3.trans (S4.trans S5)) h5⟩
abbrev sBentH:cU:=top 66
inductive spBentH (vs:List V)(H:Hp)(Q:VK)(_:XK):Prop
 | mk (v:V)(u:ao)(b m c:Int)(sp:List Sn)(ts:List Int)(_:vs=[v,.ref u,.int c])(_:IsD H v (kg b m sp))(_:0<b)(_:H u=some (.tup (ts.map V.int)))(_:(ts.length:Int)=m)(_:1≤m)(_:m≤16)(_:∀ (q:ao) (t:List Int) (H':Hp),Same H H'→H' q=some (.tup (t.map V.int))→(t.length:Int)=m→Q (.ref q) H')
theorem nY:cb ["_law_net_here","_law_table","_law_cell","_law_rest","_law_times","_law_k","_law_spot"] pzL (defScope sBentH):=by trivial
theorem ok_bentH (F:Fun K "_law_bent" "_law_bent" sBentH f fd)(T:Nm mg)(T2:Nt mg):cW P w K mg base CX0 1 f fd pzL spBentH:=by
 refine F.ok nY (by contradiction) (fun cdv A outer s H vs Q E hr h=>?_);obtain ⟨v,u,b,m,c,sp,ts,rfl,hv,hb,hu,lt,m1,m2,k⟩:=h;obtain ⟨t,p,ys,rfl,ht,hp,hl,hy⟩:=fe hv;refine ⟨_,PSl.h (aU ⟨(psZ 3 nY.nd (cg iZ (cg ij (cg iZ (pv 2) bo) bo) bo))⟩
  (aU ⟨(psZ 4 nY.nd (fP call_list_of rfl T2.tlist boot_list (ag (pv 1) aC)))⟩
  (aU ⟨(gk bz rfl (iI rfl T2.range (ag (cg fu bo (cg iZ (pv 3) bo)) aC)) (pgZ 5 nY.nd) (PSl.h (aU ⟨(psZ 6 nY.nd (cg iZ (cg op_fdiv (pv 3) bo) (ixZ (pv 0))))⟩
  (aU ⟨(mY (cg jj (cg fu (dG eD (pv 4) (pv 6) (fun _ _=>rfl)) (cg iZ (cg op_fdiv (pv 3) bo) bo)) bo) (pg_sub (pv 4) (pv 6) mX))⟩
  (cZ ⟨(psZ 3 nY.nd (cg iZ (cg ij (pv 3) bo) bo))⟩)))))⟩
  (cZ ⟨(bY (fP jI rfl T.ttup jJ (ag (iQ (fr:=["_law_rest","_law_net_here"]) (js:=[3,0]) rfl (i8 (pv 4)) (by trivial) rfl (by trivial) rfl (by exists sBentH) (by trivial) rfl (by trivial) (fun _ _ _ _ _=>⟨(cg iZ (cg fu (pv 0) (pv 1)) (dG (r:=ow K) dN (pv 2) bo (fun _ _=>rfl))),ie⟩)) aC)))⟩)))),?_⟩
 refine ⟨_,rfl,_,_,rfl,rfl,(by show (0:Int)<2147483647;decide),_,_,rfl,rfl,.inr ⟨by decide,by decide⟩,_,_,rfl,rfl,(by show (0:Int)<2147483629;decide),_,rfl,u,_,rfl,.inr (SqT.of hu),fun L hL=>?_⟩;obtain ⟨r,er,r0,r1⟩:∃ r:Int,r=c % 2147483647 * 48271 % 2147483629∧0≤r∧r<2147483647:=⟨_,rfl,cS _ (by decide),by have:=cB (c % 2147483647 * 48271) (show (0:Int)<2147483629 by decide);lia⟩;have S1:Same H (upd H L (.lst (ts.map V.int))):=(Same.refl H).put hL;have h1:(upd H L (.lst (ts.map V.int))) L=some (.lst (ts.map V.int)):=aV;generalize upd H L (.lst (ts.map V.int))=H1 at S1 h1 ⊢;have q0:=cS r (show (2:Int)≠0 by decide);have q1:=cB r (show (0:Int)<2 by decide);refine ⟨_,rfl,_,_,rfl,rfl,(by show (0:Int)<2;decide),_,_,rfl,rfl,_,rfl,?_⟩;have e2:c % 2147483647 * 48271 % 2147483629 % 2=r % 2:=by rw [er]
 show -2 ^ 62≤1+c % 2147483647 * 48271 % 2147483629 % 2∧1+c % 2147483647 * 48271 % 2147483629 % 2<2 ^ 62∧_;rw [e2];refine ⟨by lia,by lia,?_⟩;refine jF (n:=(1+r % 2).toNat) (fun i σ H'=>Same H H'∧∃ (r':Int) (t':List Int) (v5 v6:Option V),0≤r'∧r'<2147483647∧(t'.length:Int)=m∧H' L=some (.lst (t'.map V.int))∧σ=[some (.ref t),some (.ref u),some (.int c),some (.int r'),some (.ref L),v5,v6]) ⟨S1,r,ts,none,none,r0,r1,lt,h1,by rw [er];rfl⟩ ?_ ?_
 ·rintro i σ H2 hi ⟨S2,r',t',v5,v6,r'0,r'1,lt',h2,rfl⟩
  have ht2:=S2 _ _ ht;refine ⟨_,rfl,_,_,rfl,rfl,⟨by decide,by decide⟩,_,rfl,t,_,_,_,rfl,rfl,SqT.of ht2,az (j:=1) rfl,_,_,rfl,rfl,(by show 0<m;lia),?_⟩;have z0:=cS (r' / 2) (show m≠0 by lia);have z1:=cB (r' / 2) (show 0<m by lia);refine ⟨_,rfl,_,rfl,L,_,_,_,rfl,rfl,SqL.of h2,tm_at z0 (by lia),_,rfl,_,_,rfl,rfl,⟨by decide,by decide⟩,_,_,rfl,rfl,(by show (0:Int)<9;decide),_,_,rfl,rfl,_,_,rfl,rfl,?_⟩;refine ⟨_,rfl,_,rfl,L,_,_,(r' / 2 % m).toNat,rfl,rfl,h2,ixN_int z0 (by rw [aa];lia),?_⟩;refine ⟨_,rfl,_,_,rfl,rfl,.inr ⟨by decide,by decide⟩,_,_,rfl,rfl,(by show (0:Int)<2147483647;decide),?_⟩;refine ⟨fun q o e=>?_,_,t'.set (r' / 2 % m).toNat (tm t' (r' / 2 % m)+r' / 16 % 9 - 4),_,_,cS _ (by decide),cB _ (by decide),by rw [ft];exact lt',by rw [aV,←map_set],rfl⟩;rw [bC (fun zz=>by rw [zz,hL] at e;cases e)];exact S2 q o e
 rintro σ H2 ⟨S2,r',t',v5,v6,r'0,r'1,lt',h2,rfl⟩;have ht2:=S2 _ _ ht;refine ⟨_,rfl,L,rfl,⟨_,SqL.of h2⟩,?_⟩;refine kl (K:=K) (a:=L) (xs:=t'.map V.int) (fun i zs HD=>HD=H2∧∃ t3:List Int,zs=t3.map V.int∧t3.length=i) ⟨rfl,[],rfl,rfl⟩ (fun i zs HD hi ⟨e1,t3,e2,e3⟩=>?_) (by rw [aa];exact dW (by lia)) (fun i x zs HD hx ⟨e1,t3,e2,e3⟩=>?_) (fun zs HD ⟨e1,t3,e2,e3⟩ D hD=>?_)
 ·subst e1
  exact ⟨SqL.of h2,by rw [e2,aa,e3];exact aE _⟩
 ·subst e1
  rw [ax] at hx;obtain ⟨n,en,rfl⟩:=bF.mp hx;refine gH ?_;refine ⟨_,rfl,_,rfl,_,_,rfl,rfl,_,rfl,t,_,_,_,rfl,rfl,SqT.of ht2,az (j:=0) rfl,_,_,rfl,rfl,(by show 0<b;lia),rfl,t3++[(n+r') % b],by rw [e2,aB];rfl,by rw [av,e3];rfl⟩
 ·subst e1
  refine ⟨D,_,rfl,SqL.of aV,fun p H3 S3 h3=>?_⟩;refine k p t3 H3 (S2.trans ((Same.put (Same.refl _) hD).trans S3)) (by rw [h3,e2]) ?_;rw [aa] at e3;lia
abbrev sNoneH:cU:=top 67
abbrev sBestH:cU:=top 68
abbrev sLaw:cU:=top 69
inductive spLawTs (Ts:List ao)(K:aq)(vs:List V)(H:Hp)(Q:VK)(_:XK):Prop
 | mk (a:ao)(ns:List Int)(_:vs=[.ref a])(_:SqL K H a (ns.map V.int))(_:(∀ T∈Ts,H T=some (.tbl #[])))(_:∀ H',Q (.bl true) H')
inductive spNoneH (vs:List V)(H:Hp)(Q:VK)(_:XK):Prop
 | mk (v:V)(q:ao)(b m:Int)(sp:List Sn)(_:vs=[v,.ref q])(_:IsD H v (kg b m sp))(_:NetT b m sp)(_:((∃ u t,H q=some (.tup [.str "none",u])∧IsD H u (jk t)∧qS (qR b sp) t (sp.map fun z=>(z.l,z.o)) 21∧∀ H',Same H H'→Q (.bl true) H')∨∃ qt,H q=some (.tup [.str "table",.ref qt])∧Q (.bl false) H))
inductive spBestH (vs:List V)(H:Hp)(Q:VK)(_:XK):Prop
 | mk (v:V)(q:ao)(b m:Int)(sp:List Sn)(qt:ao)(ts:List Int)(u:V)(t:Tq)(_:vs=[v,.ref q])(_:IsD H v (kg b m sp))(_:NetT b m sp)(_:BestA H q b m sp qt ts u t)(_:∀ H',Same H H'→Q (.bl true) H')
def TabR (H:Hp)(m:Int)(z:V):Prop:=∃ (q:ao) (t:List Int),z= .ref q∧H q=some (.tup (t.map V.int))∧(t.length:Int)=m
theorem TabR.keep {m:Int}{z:V}(h:TabR H m z)(k:TupK H H'):TabR H' m z:=by
 obtain ⟨q,t,e,h1,h2⟩:=h;exact ⟨q,t,e,k _ _ h1,h2⟩
theorem scNoneH:cb pzd pzd (defScope sNoneH):=by trivial
theorem ok_noneH (F:Fun K "_law_none" "_law_none" sNoneH f fd)(T:Nm mg)(G1:Fn K mg "_law_shown" pN pzm f1 fd1)(F1:cW P w K mg base CX0 26 f1 fd1 pzm oO):cW P w K mg base CX0 27 f fd pzd spNoneH:=by
 refine F.ok scNoneH (by contradiction) (fun cdv A outer s H vs Q E hr h=>?_);obtain ⟨v,q,b,m,sp,rfl,hv,N,h⟩:=h;refine ⟨_,PSl.h (cZ ⟨(bY (p5 (jZ T (pv 1)) (p5 (iR lT (cy bX rfl T.len bI (ag (pv 1) aC)) bo (cJ _)) (p5 (iR lT (ixZ (pv 1)) kf (cJ _)) (pe_one (iR (op_eqL0 hr.units0) (pc1 G1 F1 hr (ag (pv 0) (ag (ixZ (pv 1)) aC))) (lR aC) (cJ _)))))))⟩),?_⟩
 rcases h with ⟨u,t,hq,hu,gd,k⟩ | ⟨qt,hq,k⟩
 ·have ty:tyn H (.ref q)=some "tuple" := by simp only [tyn];rw [hq]
  refine ⟨_,rfl,_,_,rfl,ty,_,rfl,om rfl ?_⟩;refine ⟨_,rfl,q,_,rfl,.inr (SqT.of hq),rfl,_,rfl,om rfl ?_⟩;refine ⟨_,rfl,q,_,_,_,rfl,rfl,SqT.of hq,az (j:=0) rfl,rfl,_,rfl,om rfl ?_⟩;refine ⟨_,rfl,_,rfl,q,_,_,_,rfl,rfl,SqT.of hq,az (j:=1) rfl,v,u,b,m,sp,t,[],rfl,hv,N,hu,qj t _ _ gd,fun L H1 S1 h1=>?_⟩;refine ⟨bG _,fun L2 H2 S2 h2=>?_⟩;exact ⟨L,L2,[],rfl,rfl,SqL.of (S2 _ _ h1),SqL.of h2,k H2 (S1.trans S2)⟩
 ·have ty:tyn H (.ref q)=some "tuple" := by simp only [tyn];rw [hq]
  refine ⟨_,rfl,_,_,rfl,ty,_,rfl,om rfl ?_⟩;refine ⟨_,rfl,q,_,rfl,.inr (SqT.of hq),rfl,_,rfl,om rfl ?_⟩;exact ⟨_,rfl,q,_,_,_,rfl,rfl,SqT.of hq,az (j:=0) rfl,rfl,_,rfl,iq rfl k⟩
theorem scBestH:cb ["_law_net_here","_law_told","_law_worths"] pzd (defScope sBestH):=by trivial
theorem ok_bestH {f5 f6 f7:ao}{fd6 fd7:bq}(F:Fun K "_law_best" "_law_best" sBestH f fd)(T:Nm mg)
  (G3:Fn K mg "_law_is_table" sIsTab pzd f3 fd3) (F3:cW P w K mg base CX0 1 f3 fd3 pzd spIsT)
  (G4:Fn K mg "_law_fits" sFitsN pzb f4 fd4) (F4:cW P w K mg base CX0 2 f4 fd4 pzb spFits)
  (G5:Fn K mg "_law_is_whole" nZ pzi f5 fd5) (F5:cW P w K mg base CX0 1 f5 fd5 pzi mU)
  (G6:Fn K mg "_law_wait" sWaitN pzb f6 fd6) (F6:cW P w K mg base CX0 2 f6 fd6 pzb kT)
  (G7:Fn K mg "_law_shown" pN pzm f7 fd7) (F7:cW P w K mg base CX0 26 f7 fd7 pzm oO):cW P w K mg base CX0 27 f fd pzd spBestH:=by
 refine F.ok scBestH (by contradiction) (fun cdv A outer s H3 vs Q E hr h=>?_);obtain ⟨v,q3,b,m,sp,qt,ts,u3,t,rfl,hv3,N,ba,k⟩:=h;have hr1:Room 1 _:=hr.mono (by decide);have hr2:Room 2 _:=hr.mono (by decide);refine ⟨_,PSl.h (aU ⟨(fU (PW.pt (jd (gM (gj (jZ T (pv 1)))) (jd (cu ly (cy bX rfl T.len bI (ag (pv 1) aC)) bo (cJ _)) (jd (cu ly (ixZ (pv 1)) kf (cJ _)) (jD (gM (gj (pc1 G3 F3 hr1 (ag (pv 0) (ag (ixZ (pv 1)) aC)))))))))) (cj (bY k4)) cX)⟩
  (aU ⟨(fU (PW.pt (jd (gM (gj (pc1 G4 F4 hr2 (ag (pv 0) (ag (ixZ (pv 1)) aC))))) (jd (gM (gj (pc1 G5 F5 hr1 (ag (ixZ (pv 1)) aC)))) (jD (cu ly (ixZ (pv 1)) (pc1 G6 F6 hr2 (ag (pv 0) (ag (ixZ (pv 1)) aC))) (cJ _)))))) (cj (bY k4)) cX)⟩
  (aU ⟨(psZ 2 scBestH.nd (pc1 G7 F7 hr (ag (pv 0) (ag (ixZ (pv 1)) aC))))⟩
  (cZ ⟨(bY (p5 (iR op_notN (pv 2) iJ (cJ _)) (p5 (iR (op_neL0 hr.units0) (pv 2) (lR aC) (cJ _)) (pe_one (iR lT (cy (call_min1 rfl) rfl T.min boot_min (ag (pv 2) aC)) (ixZ (pv 1)) (cJ _))))))⟩)))),?_⟩
 have b1:=N.b1;have m1:=N.m1;obtain ⟨tl,tin,tfit⟩:=ba.tab;have tl:(ts.length:Int)=m:=by lia
 have hq3:=ba.q;have hqt3:=ba.qt;obtain ⟨ws,gw,ge,ex⟩:=qo (by lia:0<b) t _ 21 ba.good (aa ..);obtain ⟨x0,hx0,lx0⟩:=ex ts (lay_in (by lia) tfit);have ne:ws≠[]:=fun z=>by rw [z] at hx0;cases hx0
 have elst:ku ws=fJ b ts sp:=by
  obtain ⟨l1,l2⟩:=least_ok ws ne;have:=l2 _ hx0;have:=ge _ l1;lia
 have ty:tyn H3 (.ref q3)=some "tuple" := by simp only [tyn];rw [hq3]
 refine ⟨_,rfl,_,_,rfl,ty,_,rfl,iq rfl ?_⟩;refine ⟨_,rfl,q3,_,rfl,.inr (SqT.of hq3),rfl,_,rfl,iq rfl ?_⟩;refine ⟨_,rfl,q3,_,_,_,rfl,rfl,SqT.of hq3,az (j:=0) rfl,rfl,_,rfl,iq rfl ?_⟩;refine ⟨_,rfl,_,rfl,q3,_,_,_,rfl,rfl,SqT.of hq3,az (j:=1) rfl,v,qt,b,m,sp,ts,rfl,hv3,hqt3,tl,tin,_,rfl,iq rfl ?_⟩;refine ⟨_,rfl,_,rfl,q3,_,_,_,rfl,rfl,SqT.of hq3,az (j:=1) rfl,v,qt,b,m,sp,ts,rfl,hv3,hqt3,N.rdy tl,fun H4 S4=>⟨_,rfl,iq (by rw [tfit];rfl) ?_⟩⟩;refine ⟨_,rfl,q3,_,_,_,rfl,rfl,SqT.of (S4 _ _ hq3),az (j:=2) rfl,_,rfl,_,rfl,iq rfl ?_⟩;refine ⟨_,rfl,q3,_,_,_,rfl,rfl,SqT.of (S4 _ _ hq3),az (j:=2) rfl,_,rfl,_,rfl,q3,_,_,_,rfl,rfl,SqT.of (S4 _ _ hq3),az (j:=1) rfl,v,qt,b,m,sp,ts,rfl,hv3.same S4,S4 _ _ hqt3,N.rdy tl,N.ws,fun H5 S5=>⟨rfl,_,rfl,iq (by rw [rM rfl];rfl) ?_⟩⟩;have S36:=S4.trans S5;refine ⟨_,rfl,_,rfl,q3,_,_,_,rfl,rfl,SqT.of (S36 _ _ hq3),az (j:=3) rfl,v,u3,b,m,sp,t,ws,rfl,hv3.same S36,N,ba.tree.same S36,gw,fun L H7 S7 h7=>?_⟩;have hq7:=S7 _ _ (S36 _ _ hq3);refine ⟨_,rfl,rfl,_,rfl,om (by rw [rN nofun];rfl) ?_⟩;refine ⟨_,rfl,bG _,fun L8 H8 S8 h8=>?_⟩;refine ⟨L,L8,_,rfl,rfl,SqL.of (S8 _ _ h7),SqL.of h8,_,rfl,om (by cases ws with | nil=>exact rL rfl ne | cons _ _=>rfl) ?_⟩;refine ⟨_,rfl,L,ws,rfl,SqL.of (S8 _ _ h7),ne,_,rfl,q3,_,_,_,rfl,rfl,SqT.of (S8 _ _ hq7),az (j:=2) rfl,rfl,?_⟩;rw [rM (by rw [elst])];exact k H8 (S36.trans (S7.trans S8))
theorem scLaw:cb ["_law_script","_law_net_here","_law_times","_law_found","_law_told","_law_tables","_law_k","_law_table"] ["_law_script"] (defScope sLaw):=by trivial
theorem ok_law {f5 f6 f7 f8 f9 TT T3:ao}{fd6 fd7 fd8 fd9:bq}(F:Fun K "law" "law" sLaw f fd)(T:Nm mg)(T2:Nt mg)(m0:T3≠T0)(m1:T3≠T1)(m2:T3≠TT)
  (G1:Fn K mg "_law_net" sNetH pzt f1 fd1) (F1:cW P w K mg base CX0 4 f1 fd1 pzt (spNetH K))
  (G2:Fn K mg "table_for" jR pza f2 fd2) (F2:cW P w K mg base CX0 12 f2 fd2 pza (mV T0 p0 q0 T1 p1 q1 TT))
  (G3:Fn K mg "best_for" lO pza f3 fd3) (F3:cW P w K mg base CX0 13 f3 fd3 pza (spBest T0 p0 q0 T1 p1 q1 TT T3))
  (G4:Fn K mg "_law_none" sNoneH pzd f4 fd4) (F4:cW P w K mg base CX0 27 f4 fd4 pzd spNoneH)
  (G5:Fn K mg "_law_is_table" sIsTab pzd f5 fd5) (F5:cW P w K mg base CX0 1 f5 fd5 pzd spIsT)
  (G6:Fn K mg "_law_fits" sFitsN pzb f6 fd6) (F6:cW P w K mg base CX0 2 f6 fd6 pzb spFits)
  (G7:Fn K mg "_law_best" sBestH pzd f7 fd7) (F7:cW P w K mg base CX0 27 f7 fd7 pzd spBestH)
  (G8:Fn K mg "_law_bent" sBentH pzL f8 fd8) (F8:cW P w K mg base CX0 1 f8 fd8 pzL spBentH)
  (G9:Fn K mg "_law_wait" sWaitN pzb f9 fd9) (F9:cW P w K mg base CX0 2 f9 fd9 pzb kT):cW P w K mg base CX0 28 f fd ["_law_script"] (spLawTs [T0,T1,TT,T3] K):=by
 refine F.ok scLaw (by contradiction) (fun cdv A outer s H vs Q E hr h=>?_);obtain ⟨a,ns,rfl,ha,hT,k⟩:=h;have hr1:Room 1 _:=hr.mono (by decide);have hr2:Room 2 _:=hr.mono (by decide);have hr4:Room 4 _:=hr.mono (by decide);have hr12:Room 12 _:=hr.mono (by decide);have hr13:Room 13 _:=hr.mono (by decide);refine ⟨_,PSl.h (aU ⟨(mY (pc1 G1 F1 hr4 (ag (pv 0) (ag bo (ag bo (ag bo aC))))) (lQ rfl (eZ (pgZ 1 scLaw.nd) (eZ (pgZ 2 scLaw.nd) ke))))⟩
  (aU ⟨(psZ 3 scLaw.nd (pc1 G2 F2 hr12 (ag (pv 1) aC)))⟩
  (aU ⟨(psZ 4 scLaw.nd (pc1 G3 F3 hr13 (ag (pv 1) aC)))⟩
  (aU ⟨(psZ 5 scLaw.nd (i9 (ag (pv 2) aC)))⟩
  (aU ⟨(lP (fU (gj (pc1 G4 F4 hr (ag (pv 1) (ag (pv 3) aC)))) (cj (fU (gM (gj (pc1 G4 F4 hr (ag (pv 1) (ag (pv 4) aC))))) (cj (bY k4)) cX)) (PSl.h (aU ⟨(fU (PW.pt (jd (gM (gj (jZ T (pv 3)))) (jd (cu ly (cy bX rfl T.len bI (ag (pv 3) aC)) bo (cJ _)) (jd (cu ly (ixZ (pv 3)) kf (cJ _)) (jD (gM (gj (pc1 G5 F5 hr1 (ag (pv 1) (ag (ixZ (pv 3)) aC)))))))))) (cj (bY k4)) cX)⟩
  (aU ⟨(fU (PW.pt (jd (gM (gj (pc1 G6 F6 hr2 (ag (pv 1) (ag (ixZ (pv 3)) aC))))) (jD (gM (gj (pc1 G7 F7 hr (ag (pv 1) (ag (pv 4) aC)))))))) (cj (bY k4)) cX)⟩
  (cZ ⟨(psZ 5 scLaw.nd (i9 (ag (pv 2) (ag (ixZ (pv 3)) (ag (ixZ (pv 4)) aC)))))⟩))))))⟩
  (aU ⟨(gk bz rfl (pi_range2 rfl T2.range (ag bo (ag (cy (qH rfl) rfl T.min boot_min (ag (cy bX rfl T.len bI (ag (pv 0) aC)) (ag bo aC))) aC))) (pgZ 6 scLaw.nd) (cj (i6 (ng bB cA cz ik (pv 5) (ag (pc1 G8 F8 hr1 (ag (pv 1) (ag (dG eD (pv 5) (cg iZ (pv 6) (cy (qH rfl) rfl T.min boot_min (ag (cy bX rfl T.len bI (ag (pv 5) aC)) (ag bo aC)))) (fun _ _=>rfl)) (ag (dG eD (pv 0) (pv 6) (fun _ _=>rfl)) aC)))) aC)))))⟩
  (aU ⟨(gk bz rfl (i8 (pv 5)) (pgZ 7 scLaw.nd) (cj (fU (PW.pt (pw_and (gj (pc1 G6 F6 hr2 (ag (pv 1) (ag (pv 7) aC)))) (pw_and1 (PW.pt (jd (cu lT (ixZ (pv 4)) kf (cJ _)) (jD (cu oj (pc1 G9 F9 hr2 (ag (pv 1) (ag (pv 7) aC))) (ixZ (pv 4)) (cJ _)))))))) (cj (bY k4)) cX)))⟩
  (cZ ⟨(bY k4)⟩)))))))),?_⟩
 refine ⟨_,rfl,a,ns,16,25,3,rfl,ha,by decide,by decide,by decide,by decide,fun q u v b m sp ts0 H1 S1 hq hv N b2 hu lt cas=>?_⟩;refine ⟨q,_,rfl,SqT.of hq,rfl,_,_,rfl,_,_,rfl,rfl,?_⟩;have b1:=N.b1;have nm1:=N.m1;have nm2:=N.m2;have hT0:L2.LamT T0 p0 q0 H1:=LamT.same S1 (.inl (hT T0 (by simp)));have hT1:L2.LamT T1 p1 q1 H1:=LamT.same S1 (.inl (hT T1 (by simp)));have hT2:L2.LamT TT lpT lqT H1:=LamT.same S1 (.inl (hT TT (by simp)));have hT3:L2.LamG T3 lqB H1:=(LamG.nil (hT T3 (by simp))).same S1;refine ⟨_,rfl,v,b,m,sp,rfl,hv,N,cas,hT0,hT1,hT2,fun q3 H3 st3 kp3 c0 c1 c2 ans3=>?_⟩;obtain ⟨ps0,et0⟩:=LamT.tbl hT0;obtain ⟨ps1,et1⟩:=LamT.tbl hT1;obtain ⟨ps2,et2⟩:=LamT.tbl hT2;have c3:L2.LamG T3 lqB H3:=hT3.stay (fun ps e=>st3 _ _ m0 m1 m2 e) fun a o u e=>st3 _ _ (eV e et0 nofun) (eV e et1 nofun) (eV e et2 nofun) e
 have hv3:=cO kp3.tup hv;refine ⟨_,rfl,v,b,m,sp,rfl,hv3,N,cas,c0,c1,c2,c3,fun q4 H4 kp4 _ _ _ _ ans4=>?_⟩;have hv4:=cO kp4.tup hv3;have hu4:=kp4.tup _ _ (kp3.tup _ _ hu);have ha4:=kp4.seq (kp3.seq (S1.seq ha));refine ⟨_,rfl,szZ1,fun L hL=>?_⟩;have S5:Same H4 (upd H4 L (.lst [.ref u])):=(Same.refl H4).put hL;have h5:(upd H4 L (.lst [.ref u])) L=some (.lst [.ref u]):=aV;generalize upd H4 L (.lst [.ref u])=H5 at S5 h5 ⊢;have tu:∀ {H':Hp},Same H4 H'→TabR H' m (.ref u):=fun S=>⟨u,ts0,rfl,S _ _ hu4,lt⟩
 have told:((∀ T,¬ jG b T sp=true)∧∃ z,H4 q4=some (.tup (.str "none" :: z)))∨∃ x z wt,(∀ T,jG b T sp=true→wt≤fJ b T sp)∧H4 q4=some (.tup (.str "best" :: x:: .int wt::z)):=by
  rcases ans4 with ⟨_,_,an⟩ | ⟨_,_,_,_,ba⟩
  ·exact .inl ⟨an.no,_,an.q⟩
  ·exact .inr ⟨_,_,_,ba.least,ba.q⟩
 refine ⟨fun σ' H'=>Same H4 H'∧∃ L zs,H4 L=none∧H' L=some (.lst zs)∧1≤zs.length∧zs.length≤3∧(∀ z∈zs,TabR H' m z)∧σ'=[some (.ref a),some v,some (.ref u),some (.ref q3),some (.ref q4),some (.ref L),none,none],?_,?_⟩
 rotate_left
 ·refine ⟨_,rfl,_,rfl,v,q3,b,m,sp,rfl,hv4.same S5,N,?_⟩
  rcases ans3 with ⟨qt,t3,hq3,hqt,tok⟩ | ⟨u3,t3,hq3,du,plu,nof,gd⟩
  ·have hq5:=S5 _ _ (kp4.tup _ _ hq3)
   have hqt5:=S5 _ _ (kp4.tup _ _ hqt);obtain ⟨tl,tin,tfit⟩:=tok;have tl:(t3.length:Int)=m:=by lia
   rcases ans4 with ⟨_,_,an⟩ | ⟨qb,tb,ub,tr,ba⟩
   ·exact rL tfit (an.no t3)
   refine .inr ⟨qt,hq5,_,rfl,iq rfl ?_⟩;have ty:tyn H5 (.ref q3)=some "tuple" := by simp only [tyn];rw [hq5]
   refine ⟨_,rfl,_,_,rfl,ty,_,rfl,iq rfl ?_⟩;refine ⟨_,rfl,q3,_,rfl,.inr (SqT.of hq5),rfl,_,rfl,iq rfl ?_⟩;refine ⟨_,rfl,q3,_,_,_,rfl,rfl,SqT.of hq5,az (j:=0) rfl,rfl,_,rfl,iq rfl ?_⟩;refine ⟨_,rfl,_,rfl,q3,_,_,_,rfl,rfl,SqT.of hq5,az (j:=1) rfl,v,qt,b,m,sp,t3,rfl,hv4.same S5,hqt5,tl,tin,_,rfl,iq rfl ?_⟩;refine ⟨_,rfl,_,rfl,q3,_,_,_,rfl,rfl,SqT.of hq5,az (j:=1) rfl,v,qt,b,m,sp,t3,rfl,hv4.same S5,hqt5,N.rdy tl,fun H6 S6=>⟨_,rfl,iq (by rw [tfit];rfl) ?_⟩⟩;have S46:=S5.trans S6;refine ⟨_,rfl,_,rfl,v,q4,b,m,sp,qb,tb,ub,tr,rfl,hv4.same S46,N,⟨S46 _ _ ba.q,S46 _ _ ba.qt,ba.tab,ba.least,ba.tree.same S46,ba.pl,ba.good⟩,fun H7 S7=>⟨_,rfl,iq rfl ?_⟩⟩;have S47:=S46.trans S7;have S57:=S6.trans S7;refine ⟨_,rfl,_,rfl,q3,_,_,_,rfl,rfl,SqT.of (S57 _ _ hq5),az (j:=1) rfl,_,rfl,q4,_,_,_,rfl,rfl,SqT.of (S47 _ _ ba.q),az (j:=1) rfl,(by show 3≤bp;decide),fun L8 hL8=>?_⟩;refine ⟨S47.put hL8,L8,_,S47.free hL8,aV,(by show 1≤3;decide),aE 3,fun z hz=>?_,rfl⟩;have S8:Same H4 (upd H7 L8 (.lst [.ref u,.ref qt,.ref qb])):=S47.put hL8;simp only [aG,cQ,or_false] at hz
   rcases hz with rfl | rfl | rfl
   ·exact tu S8
   ·exact ⟨qt,t3,rfl,S8 _ _ (kp4.tup _ _ hqt),tl⟩
   ·exact ⟨qb,tb,rfl,S8 _ _ ba.qt,by have:=ba.tab.1;lia⟩
  ·have hq5:=S5 _ _ (kp4.tup _ _ hq3)
   rcases ans4 with ⟨u4,t4,an⟩ | ⟨qb,tb,ub,tr,ba⟩
   rotate_left
   ·exact rL ba.tab.2.2 (nof tb)
   refine .inl ⟨u3,t3,hq5,(IsD.keepP kp4.tup du plu).same S5,gd,fun H6 S6=>⟨_,rfl,om rfl ?_⟩⟩;have S46:=S5.trans S6;refine ⟨_,rfl,_,rfl,v,q4,b,m,sp,rfl,hv4.same S46,N,.inl ⟨u4,t4,S46 _ _ an.q,an.tree.same S46,an.good,fun H7 S7=>⟨_,rfl,iq rfl ?_⟩⟩⟩;refine ⟨S46.trans S7,L,_,hL,(S6.trans S7) _ _ h5,(by show 1≤1;decide),(by show 1≤3;decide),fun z hz=>?_,rfl⟩;rw [aw.mp hz];exact tu (S46.trans S7)
 clear h5 S5 hL ans3 ans4 hv3 hv;rintro σ' H6 ⟨S6,L,zs,hL,h6,z1,z3,tz,rfl⟩;refine ⟨_,rfl,a,_,rfl,.inl (S6.seq ha4),_,_,rfl,5,_,rfl,?_⟩;obtain ⟨hi,ehi,hi0,hi1,hi2⟩:∃ hi:Int,hi=(if (63:Int)<((ns.map V.int).length:Int) then (63:Int) else ((ns.map V.int).length:Int))∧0≤hi∧hi≤63∧hi≤ns.length:=⟨_,rfl,by split <;> lia,by split <;> lia,by rw [aa];split <;> lia⟩;rw [←ehi];refine ⟨⟨by decide,by decide,by lia,by lia⟩,?_⟩;refine jF (lo:=5) (n:=(hi - 5).toNat) (fun i σ H'=>Same H4 H'∧∃ zs v6,H' L=some (.lst zs)∧1≤zs.length∧zs.length≤3+i∧(∀ z∈zs,TabR H' m z)∧σ=[some (.ref a),some v,some (.ref u),some (.ref q3),some (.ref q4),some (.ref L),v6,none]) ⟨S6,zs,none,h6,z1,z3,tz,rfl⟩ ?_ ?_
 ·clear h6 z1 z3 tz S6
  rintro i σ H7 hii ⟨S7,zs,v6,h7,z1,z3,tz,rfl⟩;refine ⟨_,rfl,.inl ⟨rfl,_,SqL.of h7⟩,_,rfl,_,rfl,_,rfl,_,rfl,L,_,rfl,.inl (SqL.of h7),_,_,rfl,?_⟩;obtain ⟨mn,emn,mn1,mn2⟩:∃ mn:Int,mn=(if (3:Int)<(zs.length:Int) then (3:Int) else (zs.length:Int))∧1≤mn∧mn≤zs.length:=⟨_,rfl,by split <;> lia,by split <;> lia⟩;rw [←emn];refine ⟨_,_,rfl,rfl,(by show 0<mn;lia),?_⟩;obtain ⟨j,ej,j0,j1⟩:∃ j:Int,j=(5+(i:Int)) % mn∧0≤j∧j<mn:=⟨_,rfl,cS _ (by lia),cB _ (by lia)⟩;obtain ⟨z,ez,mz⟩:=rp (xs:=zs) j0 (by lia);obtain ⟨qz,t7,rfl,hz7,lz7⟩:=tz z mz;refine ⟨L,_,_,_,rfl,rfl,SqL.of h7,by rw [ej] at ez;exact ez,?_⟩;have li:5+i<ns.length:=by lia
  refine ⟨_,rfl,_,rfl,a,_,_,_,rfl,rfl,S7.seq ha4,atI_int (x:=V.int ns[5+i]) (by lia) (by rw [show ((5:Int)+(i:Int)).toNat=5+i by lia,ax,gE li];rfl),?_⟩;refine ⟨v,qz,b,m,_,sp,t7,rfl,hv4.same S7,by lia,hz7,lz7,nm1,nm2,fun q8 t8 H8 S8 h8 l8=>?_⟩;refine ⟨L,zs,_,rfl,rfl,S8 _ _ h7,(aS (by lia:zs.length<1000) (by decide:1000≤bp)),?_⟩;have KC:TupK H8 (upd H8 L (.lst (zs++[.ref q8]))):=fI (S8 _ _ h7);refine ⟨fun q o e=>?_,zs++[.ref q8],_,aV,by rw [av];lia,by rw [av];show zs.length+1≤3+(i+1);lia,fun z hz=>?_,rfl⟩
  ·rw [bC (fun zz=>by rw [zz,hL] at e;cases e)]
   exact S8 _ _ (S7 _ _ e)
  ·rcases aN.mp hz with hz | hz
   ·exact ((tz z hz).keep fun q xs e=>S8 _ _ e).keep KC
   ·rw [aw.mp hz]
    exact ⟨q8,t8,rfl,KC _ _ h8,l8⟩
 clear h6 z1 z3 tz S6;rintro σ H7 ⟨S7,zs,v6,h7,z1,z3,tz,rfl⟩;refine ⟨_,rfl,L,rfl,⟨_,SqL.of h7⟩,?_⟩;refine k7 (K:=K) (a:=L) (xs:=zs) (fun i σ H'=>Same H7 H'∧∃ v7,σ=[some (.ref a),some v,some (.ref u),some (.ref q3),some (.ref q4),some (.ref L),v6,v7]) ⟨Same.refl H7,none,rfl⟩ (fun i σ H' _ ⟨S,_⟩=>SqL.of (S _ _ h7)) ?_ ?_
 ·rintro i y σ H8 hy ⟨S8,v7,rfl⟩
  obtain ⟨qz,t8,rfl,hz8,lz8⟩:=tz y (bj hy);have S48:=S7.trans S8;have hz8:=S8 _ _ hz8;refine ⟨_,rfl,_,rfl,v,qz,b,m,sp,t8,rfl,hv4.same S48,hz8,N.rdy lz8,fun H9 S9=>⟨_,rfl,ite2 (fun fz=>?_) (fun _=>⟨S8.trans S9,_,rfl⟩)⟩⟩;have fz:jG b t8 sp=true:=fz;have S49:=S48.trans S9
  rcases told with ⟨no,_⟩ | ⟨x,z,wt,le,hq4⟩
  ·exact rL fz (no t8)
  refine ⟨_,rfl,q4,_,_,_,rfl,rfl,SqT.of (S49 _ _ hq4),az (j:=0) rfl,rfl,_,rfl,iq rfl ?_⟩;refine ⟨_,rfl,_,rfl,v,qz,b,m,sp,t8,rfl,hv4.same S49,S9 _ _ hz8,N.rdy lz8,N.ws,fun HA SA=>⟨_,rfl,q4,_,_,_,rfl,rfl,SqT.of (SA _ _ (S49 _ _ hq4)),az (j:=2) rfl,_,_,rfl,rfl,_,rfl,iq (rN (by have:=le t8 fz;lia)) ?_⟩⟩;exact ⟨S8.trans (S9.trans SA),_,rfl⟩
 rintro σ H8 ⟨S8,v7,rfl⟩;exact k H8
theorem qQ {P:List ae→Prop}(h:∀ x0,P [x0]):∀ us:List ae,us.length=1→P us:=by
 intro us hl;obtain _ | ⟨x0,us⟩:=us <;> try (cases hl;done)
 obtain _ | ⟨y,us⟩:=us
 ·exact h x0
 ·exact rL hl (by simp only [aZ];lia)
theorem jf {P:List ae→Prop}(h:∀ x0 x1,P [x0,x1]):∀ us:List ae,us.length=2→P us:=by
 intro us hl;obtain _ | ⟨x0,us⟩:=us <;> try (cases hl;done)
 obtain _ | ⟨x1,us⟩:=us <;> try (cases hl;done)
 obtain _ | ⟨y,us⟩:=us
 ·exact h x0 x1
 ·exact rL hl (by simp only [aZ];lia)
theorem oG {P:List ae→Prop}(h:∀ x0 x1 x2,P [x0,x1,x2]):∀ us:List ae,us.length=3→P us:=by
 intro us hl;obtain _ | ⟨x0,us⟩:=us <;> try (cases hl;done)
 obtain _ | ⟨x1,us⟩:=us <;> try (cases hl;done)
 obtain _ | ⟨x2,us⟩:=us <;> try (cases hl;done)
 obtain _ | ⟨y,us⟩:=us
 ·exact h x0 x1 x2
 ·exact rL hl (by simp only [aZ];lia)
theorem args4 {P:List ae→Prop}(h:∀ x0 x1 x2 x3,P [x0,x1,x2,x3]):∀ us:List ae,us.length=4→P us:=by
 intro us hl;obtain _ | ⟨x0,us⟩:=us <;> try (cases hl;done)
 obtain _ | ⟨x1,us⟩:=us <;> try (cases hl;done)
 obtain _ | ⟨x2,us⟩:=us <;> try (cases hl;done)
 obtain _ | ⟨x3,us⟩:=us <;> try (cases hl;done)
 obtain _ | ⟨y,us⟩:=us
 ·exact h x0 x1 x2 x3
 ·exact rL hl (by simp only [aZ];lia)
theorem args5 {P:List ae→Prop}(h:∀ x0 x1 x2 x3 x4,P [x0,x1,x2,x3,x4]):∀ us:List ae,us.length=5→P us:=by
 intro us hl;obtain _ | ⟨x0,us⟩:=us <;> try (cases hl;done)
 obtain _ | ⟨x1,us⟩:=us <;> try (cases hl;done)
 obtain _ | ⟨x2,us⟩:=us <;> try (cases hl;done)
 obtain _ | ⟨x3,us⟩:=us <;> try (cases hl;done)
 obtain _ | ⟨x4,us⟩:=us <;> try (cases hl;done)
 obtain _ | ⟨y,us⟩:=us
 ·exact h x0 x1 x2 x3 x4
 ·exact rL hl (by simp only [aZ];lia)
theorem args6 {P:List ae→Prop}(h:∀ x0 x1 x2 x3 x4 x5,P [x0,x1,x2,x3,x4,x5]):∀ us:List ae,us.length=6→P us:=by
 intro us hl;obtain _ | ⟨x0,us⟩:=us <;> try (cases hl;done)
 obtain _ | ⟨x1,us⟩:=us <;> try (cases hl;done)
 obtain _ | ⟨x2,us⟩:=us <;> try (cases hl;done)
 obtain _ | ⟨x3,us⟩:=us <;> try (cases hl;done)
 obtain _ | ⟨x4,us⟩:=us <;> try (cases hl;done)
 obtain _ | ⟨x5,us⟩:=us <;> try (cases hl;done)
 obtain _ | ⟨y,us⟩:=us
 ·exact h x0 x1 x2 x3 x4 x5
 ·exact rL hl (by simp only [aZ];lia)
theorem Df.fn (a:Df K x st f)(X:K.In h)(G:h.Ns bU mg)
  (hb:∀ (kV dc pm:ae) (an:Option ao) (cd ct:ae) (us:List ae),us.length=ps.length→bindArgs (dY x x (jn st) (fR st) (defScope st) .none kV dc pm an cd ct) ⟨us,[]⟩=fM (ps.zip us)):∃ fd,Fn K mg x st ps f fd:=by
 obtain ⟨n,oc,od,an,sl,kV,dc,pm,cd,ct,l,c,k⟩:=a;have F:=oz (st:=st) l c k;exact ⟨_,F,iV X G n,F.binds hb⟩
theorem all_mk {l:PySem.W.OpenLaw}{fa:ao}(X:K.In h)(G:h.Ns bU mg)(hfa:mg "law" =some (.ref fa))(Fc:Facts K)
  : ∃ fd:bq,(∀ (s:au) (v:ae),BindsTo s fd ⟨[v],[]⟩ [("_law_script",v)])∧∀ base:bP,K.In base→base.Ns bU mg→BM mg base→cW l.prog w K mg base CX0 28 fa fd ["_law_script"] (spLawTs [102,207,273,292] K):=by
 refine Fc _ ?_;intro f1 f2 f3 f4 f5 f6 f7 f8 f9 f10 f11 f12 f13 f14 f15 f16 f17 f18 f19 f20 f21 f22 f23 f24 f25 f26 f27 f28 f29 f30 f31 f32 f33 f34 f35 f36 f37 f38 f39 f40 f41 f42 f43 f44 f45 f46 f47 f48 f49 f50 f51 f52 f53 f54 f55 f56 f57 t1 xC xi xs xt odI anI odS anS odT anT slI slS slT ocI kVI dcI pmI ctI ocS kVS dcS pmS cdS ctS ocT kVT dcT pmT cdT ctT a1 a2 a3 a4 a5 a6 a7 a8 a9 a10 a11 a12 a13 a14 a15 a16 a17 a18 a19 a20 a21 a22 a23 a24 a25 a26 a27 a28 a29 a30 a31 a32 a33 a34 a35 a36 a37 a38 a39 a40 a41 a42 a43 a44 a45 a46 a47 a48 a49 a50 a51 a52 a53 a54 a55 a56 a57 y1 z1 z2 z3 z4 z5 z6 z7 z8 z9 z10 z11 z12 z13 z14 z15 z16 w1 w2 w3 w4 w5 w6 w7 w8 w9 w10 w11 w12 w13 w14 w15 w16 w17 w18 w19 w20 w21 w22 w23 w24 w25 wc0 wh0 wh1 wc2 wh2 wc3 wh3;have e:=hfa.symm.trans (iV X G a57.n);cases e;obtain ⟨fd1,G1⟩:=a1.fn X G (ps:=pzg) fun _ _ _ _ _ _=>jf fun _ _=>rfl
 obtain ⟨fd2,G2⟩:=a2.fn X G (ps:=pze) fun _ _ _ _ _ _=>jf fun _ _=>rfl
 obtain ⟨fd3,G3⟩:=a3.fn X G (ps:=pze) fun _ _ _ _ _ _=>jf fun _ _=>rfl
 obtain ⟨fd4,G4⟩:=a4.fn X G (ps:=pza) fun _ _ _ _ _ _=>qQ fun _=>rfl
 obtain ⟨fd5,G5⟩:=a5.fn X G (ps:=pzC) fun _ _ _ _ _ _=>jf fun _ _=>rfl
 obtain ⟨fd6,G6⟩:=a6.fn X G (ps:=pzc) fun _ _ _ _ _ _=>oG fun _ _ _=>rfl
 obtain ⟨fd7,G7⟩:=a7.fn X G (ps:=pzc) fun _ _ _ _ _ _=>oG fun _ _ _=>rfl
 obtain ⟨_,oc,od,an,sl,kV,dc,pm,cd,ct,l8,c8,k8⟩:=id a8;obtain ⟨_,_,_,_,_,_,_,_,z⟩:=wc0;have z:=l8.symm.trans z;have wc0:cd=ae.ref 106:=by injection z with z;injection z with _ _ z _;injection z with z;injection z
 have F8:=oz (st:=sSpW) l8 c8 k8;have b8:=F8.binds (ps:=pza) fun _ _ _ _ _ _=>qQ fun _=>rfl
 have G8:Fn K mg "spans_by_width" sSpW pza f8 _:=⟨F8,iV X G a8.n,b8⟩;obtain ⟨fd9,G9⟩:=a9.fn X G (ps:=pza) fun _ _ _ _ _ _=>qQ fun _=>rfl
 obtain ⟨fd10,G10⟩:=a10.fn X G (ps:=pzn) fun _ _ _ _ _ _=>oG fun _ _ _=>rfl
 obtain ⟨fd11,G11⟩:=a11.fn X G (ps:=pzE) fun _ _ _ _ _ _=>args4 fun _ _ _ _=>rfl
 obtain ⟨fd12,G12⟩:=a12.fn X G (ps:=pzg) fun _ _ _ _ _ _=>jf fun _ _=>rfl
 obtain ⟨fd13,G13⟩:=a13.fn X G (ps:=pza) fun _ _ _ _ _ _=>qQ fun _=>rfl
 obtain ⟨fd14,G14⟩:=a14.fn X G (ps:=pza) fun _ _ _ _ _ _=>qQ fun _=>rfl
 obtain ⟨fd15,G15⟩:=a15.fn X G (ps:=pza) fun _ _ _ _ _ _=>qQ fun _=>rfl
 obtain ⟨fd16,G16⟩:=a16.fn X G (ps:=pzl) fun _ _ _ _ _ _=>jf fun _ _=>rfl
 obtain ⟨fd17,G17⟩:=a17.fn X G (ps:=pzv) fun _ _ _ _ _ _=>args4 fun _ _ _ _=>rfl
 obtain ⟨fd18,G18⟩:=a18.fn X G (ps:=pzu) fun _ _ _ _ _ _=>jf fun _ _=>rfl
 obtain ⟨fd19,G19⟩:=a19.fn X G (ps:=pzr) fun _ _ _ _ _ _=>jf fun _ _=>rfl
 obtain ⟨fd20,G20⟩:=a20.fn X G (ps:=pzk) fun _ _ _ _ _ _=>jf fun _ _=>rfl
 obtain ⟨fd21,G21⟩:=a21.fn X G (ps:=pzG) fun _ _ _ _ _ _=>oG fun _ _ _=>rfl
 obtain ⟨fd22,G22⟩:=a22.fn X G (ps:=pzo) fun _ _ _ _ _ _=>jf fun _ _=>rfl
 obtain ⟨fd23,G23⟩:=a23.fn X G (ps:=["marks"]) fun _ _ _ _ _ _=>qQ fun _=>rfl
 obtain ⟨fd24,G24⟩:=a24.fn X G (ps:=pzp) fun _ _ _ _ _ _=>jf fun _ _=>rfl
 obtain ⟨_,oc,od,an,sl,kV,dc,pm,cd,ct,l25,c25,k25⟩:=id a25;obtain ⟨_,_,_,_,_,_,_,_,z⟩:=wc2;have z:=l25.symm.trans z;have wc2:cd=ae.ref 277:=by injection z with z;injection z with _ _ z _;injection z with z;injection z
 have F25:=oz (st:=jR) l25 c25 k25;have b25:=F25.binds (ps:=pza) fun _ _ _ _ _ _=>qQ fun _=>rfl
 have G25:Fn K mg "table_for" jR pza f25 _:=⟨F25,iV X G a25.n,b25⟩;obtain ⟨fd26,G26⟩:=a26.fn X G (ps:=pzc) fun _ _ _ _ _ _=>oG fun _ _ _=>rfl
 obtain ⟨fd27,G27⟩:=a27.fn X G (ps:=pzI) fun _ _ _ _ _ _=>oG fun _ _ _=>rfl
 obtain ⟨fd28,G28⟩:=a28.fn X G (ps:=pzf) fun _ _ _ _ _ _=>jf fun _ _=>rfl
 obtain ⟨fd29,G29⟩:=a29.fn X G (ps:=pzf) fun _ _ _ _ _ _=>jf fun _ _=>rfl
 obtain ⟨fd30,G30⟩:=a30.fn X G (ps:=["net","rows"]) fun _ _ _ _ _ _=>jf fun _ _=>rfl
 obtain ⟨fd31,G31⟩:=a31.fn X G (ps:=pzD) fun _ _ _ _ _ _=>oG fun _ _ _=>rfl
 obtain ⟨fd32,G32⟩:=a32.fn X G (ps:=pzH) fun _ _ _ _ _ _=>oG fun _ _ _=>rfl
 obtain ⟨fd33,G33⟩:=a33.fn X G (ps:=pzw) fun _ _ _ _ _ _=>args4 fun _ _ _ _=>rfl
 obtain ⟨_,oc,od,an,sl,kV,dc,pm,cd,ct,l34,c34,k34⟩:=id a34;obtain ⟨_,_,_,_,_,_,_,_,z⟩:=wc3;have z:=l34.symm.trans z;have wc3:cd=ae.ref 296:=by injection z with z;injection z with _ _ z _;injection z with z;injection z
 have F34:=oz (st:=lO) l34 c34 k34;have b34:=F34.binds (ps:=pza) fun _ _ _ _ _ _=>qQ fun _=>rfl
 have G34:Fn K mg "best_for" lO pza f34 _:=⟨F34,iV X G a34.n,b34⟩;obtain ⟨fd35,G35⟩:=a35.fn X G (ps:=pzh) fun _ _ _ _ _ _=>jf fun _ _=>rfl
 obtain ⟨fd36,G36⟩:=a36.fn X G (ps:=pzz) fun _ _ _ _ _ _=>jf fun _ _=>rfl
 obtain ⟨fd37,G37⟩:=a37.fn X G (ps:=pzh) fun _ _ _ _ _ _=>jf fun _ _=>rfl
 obtain ⟨fd38,G38⟩:=a38.fn X G (ps:=pzj) fun _ _ _ _ _ _=>jf fun _ _=>rfl
 obtain ⟨fd39,G39⟩:=a39.fn X G (ps:=pzq) fun _ _ _ _ _ _=>args6 fun _ _ _ _ _ _=>rfl
 obtain ⟨fd40,G40⟩:=a40.fn X G (ps:=pzA) fun _ _ _ _ _ _=>args6 fun _ _ _ _ _ _=>rfl
 obtain ⟨fd41,G41⟩:=a41.fn X G (ps:=pzB) fun _ _ _ _ _ _=>args5 fun _ _ _ _ _=>rfl
 obtain ⟨fd42,G42⟩:=a42.fn X G (ps:=pzt) fun _ _ _ _ _ _=>args4 fun _ _ _ _=>rfl
 obtain ⟨fd43,G43⟩:=a43.fn X G (ps:=pzb) fun _ _ _ _ _ _=>jf fun _ _=>rfl
 obtain ⟨fd44,G44⟩:=a44.fn X G (ps:=pzb) fun _ _ _ _ _ _=>jf fun _ _=>rfl
 obtain ⟨fd45,G45⟩:=a45.fn X G (ps:=pzd) fun _ _ _ _ _ _=>jf fun _ _=>rfl
 obtain ⟨fd46,G46⟩:=a46.fn X G (ps:=pzb) fun _ _ _ _ _ _=>jf fun _ _=>rfl
 obtain ⟨fd47,G47⟩:=a47.fn X G (ps:=pzi) fun _ _ _ _ _ _=>qQ fun _=>rfl
 obtain ⟨fd48,G48⟩:=a48.fn X G (ps:=pzJ) fun _ _ _ _ _ _=>jf fun _ _=>rfl
 obtain ⟨fd49,G49⟩:=a49.fn X G (ps:=pzs) fun _ _ _ _ _ _=>oG fun _ _ _=>rfl
 obtain ⟨fd50,G50⟩:=a50.fn X G (ps:=pzK) fun _ _ _ _ _ _=>oG fun _ _ _=>rfl
 obtain ⟨fd51,G51⟩:=a51.fn X G (ps:=pzy) fun _ _ _ _ _ _=>oG fun _ _ _=>rfl
 obtain ⟨fd52,G52⟩:=a52.fn X G (ps:=pzx) fun _ _ _ _ _ _=>args4 fun _ _ _ _=>rfl
 obtain ⟨fd53,G53⟩:=a53.fn X G (ps:=pzm) fun _ _ _ _ _ _=>jf fun _ _=>rfl
 obtain ⟨fd54,G54⟩:=a54.fn X G (ps:=pzL) fun _ _ _ _ _ _=>oG fun _ _ _=>rfl
 obtain ⟨fd55,G55⟩:=a55.fn X G (ps:=pzd) fun _ _ _ _ _ _=>jf fun _ _=>rfl
 obtain ⟨fd56,G56⟩:=a56.fn X G (ps:=pzd) fun _ _ _ _ _ _=>jf fun _ _=>rfl
 obtain ⟨_,oc,od,an,sl,kV,dc,pm,cd,ct,l57,c57,k57⟩:=a57;have F57:=oz (st:=sLaw) l57 c57 k57;have m1:=cp X G z1;have m2:=cp X G z2;have m3:=cp X G z3;have m4:=cp X G z4;have m5:=cp X G z5;have m6:=cp X G z6;have m7:=cp X G z7;have m8:=cp X G z8;have m9:=cp X G z9;have m10:=cp X G z10;have m11:=cp X G z11;have m12:=cp X G z12;have m13:=cp X G z13;have m14:=cp X G z14;have m15:=cp X G z15;have m16:=cp X G z16;have i1:=iV X G y1;refine ⟨dY "law" "law" (jn sLaw) (fR sLaw) (defScope sLaw) .none kV dc pm an cd ct,fun s v=> .of_eq rfl,fun base _ _ hB=>?_⟩;have T:Nm mg:=⟨m1,m2,m3,m4,m5,m6,m7⟩;have T2:Nt mg:=⟨m8,m9,m10,m11,m12,m13⟩;have T3:N3 mg:=⟨m14⟩;have SW:cW l.prog w K mg base CX0 5 f8 _ pza (spSpW 102 lpW lqW):=ok_spW F8 wc0 wh0 hB T T2 m15 G1;have FO:cW l.prog w K mg base CX0 6 f9 _ pza (kU 102 lpW lqW):=ok_forest G9.F T T2 m15 G8 SW;have ST:cW l.prog w K mg base CX0 2 f10 _ pzn spSteps:=ok_steps G10.F G2;have RB:cW l.prog w K mg base CX0 7 f12 _ pzg (spRingBy 102 lpW lqW):=ok_ringBy G12.F G11 (ok_wayBt G11.F G10 ST G3) G9 FO;have RO:cW l.prog w K mg base CX0 8 f14 _ pza (oP 102 lpW lqW):=ok_ringsO G14.F T T2 G9 FO G12 RB;have CC:CutC K xC:=⟨⟨w2,w3,w4,w5⟩,w6,w7,w8⟩;have CI:=oz (st:=qZ) w13 w14 w15;have CS:=oz (st:=sSpanC) w19 w20 w18;have CT:=oz (st:=sSidesC) w24 w25 w23;have CK:CutK l.prog w K mg base 102 lpW lqW 207 lpC lqC xC xi xs xt _ _ _:=⟨CC,⟨w9,w10,w11,w12⟩,iV X G w1,ok_initC CI rfl wh1 hB (by decide) T T2 m15 CC G14 RO G18 G4 G9 FO,CI.binds (ps:=["self","net"]) fun _ _ _ _ _ _=>jf fun _ _=>rfl,⟨w16,w17,w18⟩,ok_spanC CS CC,CS.binds (ps:=["self","case"]) fun _ _ _ _ _ _=>jf fun _ _=>rfl,⟨w21,w22,w23⟩,ok_sidesC CT CC G17,CT.binds (ps:=pzF) fun _ _ _ _ _ _=>args4 fun _ _ _ _=>rfl⟩;have BO:cW l.prog w K mg base CX0 2 f6 _ pzc pE:=ok_beats G6.F G5;have DL:cW l.prog w K mg base CX0 4 f20 _ pzk pB:=ok_deadL G20.F G7 (ok_dead G7.F G6 BO);have TF:cW l.prog w K mg base CX0 11 f22 _ pzo (spTabF 102 lpW lqW 207 lpC lqC):=ok_tabF G22.F T (by decide) CK G15 (ok_spread G15.F T T2 G9 FO G10 ST G3) G20 DL G21 (ok_tabBy G21.F T G3 G2 G16) G19;have TY:cW l.prog w K mg base CX0 11 f24 _ pzp (oN l.prog w K mg base 102 lpW lqW 207 lpC lqC):=ok_treeBy G24.F T CK G19 G23 (ok_treeF G23.F m16);have TN:cW l.prog w K mg base CX0 12 f25 _ pza (mV 102 lpW lqW 207 lpC lqC 273):=ok_tabForN F25 wc2 wh2 hB T ⟨_,i1⟩ (by decide) (by decide) (by decide) G13 (ok_cases G13.F G9 FO G1) G22 TF G24 TY G20 DL;have WO:cW l.prog w K mg base CX0 4 f29 _ pzf kT:=ok_waitOf G29.F T T2 G28 (ok_waits G28.F T T2 G16 G27);have LB:cW l.prog w K mg base CX0 5 f33 _ pzw spLeafBy:=ok_leafBy G33.F G20 DL G32 (ok_priceL G32.F T G26 (ok_sure G26.F G6 BO)) G31 (ok_worth G31.F T T2 G6 BO G30);have BF:cW l.prog w K mg base CX0 13 f34 _ pza (spBest 102 lpW lqW 207 lpC lqC 273 292):=ok_best F34 wc3 wh3 hB T ⟨_,i1⟩ (by decide) (by decide) (by decide) (by decide) (by decide) (by decide) G25 TN G22 TF G24 TY G33 LB G29 WO G14 RO;have PO:cW l.prog w K mg base CX0 2 f37 _ pzh (spPotT K):=ok_potT G37.F T T2 G35 G36;have NH:cW l.prog w K mg base CX0 4 f42 _ pzt (spNetH K):=ok_netH G42.F T T2 G38 G37 PO G40 (ok_tied G40.F T G38 G39) G41 (ok_more G41.F T G38 G39);have LF:cW l.prog w K mg base CX0 3 f51 _ pzy spLeafG:=ok_leafG G51.F T G48 (ok_led G48.F T T2 T3 G47) G49 G47 G50 (ok_worthH G50.F T T2 G49);have SN:cW l.prog w K mg base CX0 26 f53 _ pzm oO:=ok_shownG G53.F G52 (ok_walkG T G51 LF G47 G52 22);have IT:cW l.prog w K mg base CX0 1 f45 _ pzd spIsT:=ok_isT G45.F T;have FT:cW l.prog w K mg base CX0 2 f44 _ pzb spFits:=ok_fitsN G44.F T2 G43;have WN:cW l.prog w K mg base CX0 2 f46 _ pzb kT:=ok_waitN G46.F T2 G43;exact ok_law F57 T T2 (by decide) (by decide) (by decide) G42 NH G25 TN G34 BF G55 (ok_noneH G55.F T G53 SN) G45 IT G44 FT G56 (ok_bestH G56.F T G45 IT G44 FT G47 (nk G47.F T) G46 WN G53 SN) G54 (ok_bentH G54.F T T2) G46 WN
theorem walk {l:PySem.W.OpenLaw}{q:aY}{d:DefRec}{K:Params→aq}(hn:l.most=some 63)(hdf:d.params.defaults=[])
  (hY:∀ (w:bE) (h:bP),YP w h→(K w.params).In h∧∀ T∈([102,207,273,292]:List ao),h.get? T=some (PySem.W.tabObj #[])) (hC:∀ w:bE,∀ T∈([102,207,273,292]:List ao),∃ c,eQ (K w.params) c T=true) (hN:∀ w:bE,PySem.W.noTabs (K w.params)=true)
  (F:∀ (w:bE) (mg:Str→Option ae) (fa:ao) (h:bP),(K w.params).In h→h.Ns bU mg→mg d.name=some (.ref fa) →
   ∃ fd:bq,(∀ (s:au) (u:ae),BindsTo s fd ⟨[u],[]⟩ [("_law_script",u)])∧∀ base:bP,(K w.params).In base→base.Ns bU mg→BM mg base→cW l.prog w (K w.params) mg base CX0 28 fa fd ["_law_script"] (spLawTs [102,207,273,292] (K w.params))) :
  PySem.W.WalkO q loose XP YP l.row.toRowW d [] (fun f vs=>PySem.call f vs) :=
 L2.walk_ofTs (n:=63) (k:=28) (x := "_law_script") (Ts:=[102,207,273,292]) (CX:=fun _=>CX0) (sp:=fun w=>spLawTs [102,207,273,292] (K w.params)) hn (by decide) hdf ⟨rfl,by decide,by decide⟩ hY hC hN F (fun _ _ a ns hl hT hS=>⟨a,ns,rfl,hS,hT,fun _=>rfl⟩) fun _ _ _ _ _ z=>z
end HN
set_option maxHeartbeats 0 in
theorem PySem.Challenge.cw_hourtable_k90_whole_any_net_holds : PySem.Challenge.rw_hourtable_k90_whole_any_net.Holds := by
 refine HN.head0 ?_;intro q loose XP YP d K hdf hd h0 h1 h2 Fc;exact HN.walk (l:=fY) rfl hdf h0 h1 h2 fun w mg fa h KX G hmg=>HN.all_mk KX G (by rw [hd] at hmg;exact hmg) (Fc w)
