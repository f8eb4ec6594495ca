import PyProof.Rows.All
import KE.KIsAll
import OpenK.KMore
import KE.LcSums
import KE.KBools
import KE.KxBytes
import Lean
import PyProof.EqAt
import PyProof.EqKinds
import PyProof.TupleCall
import KE.KEqSeq
import PyProof.NeKinds
import PyProof.FitsBits
import PyProof.Rows.SumAny
import PyProof.Rows.SetFrom
import PyProof.SetRoads
import PyProof.ListRange
import KE.KSortTup
import KE.KSortKey
import KE.KLam
import KE.KNestM
import PyProof.Rows.MinMaxN
import KE.KRevIter
import PyProof.MaxThree
import PyProof.AutoSeq1
import PyProof.FactsAll.list_3
import PyProof.MinMaxWalk
import PyProof.WalkInts
import PyProof.Rows.CallKwBuiltin
import PyProof.Defs
import Wide.FinOn
import Wide.All
import PySem.Challenge.RW_hourtable_k51_no_least_wait
set_option Elab.async false
set_option linter.all false
set_option maxRecDepth 100000
set_option bootstrap.genMatcherCode false
open List renaming length_map → aa, getD_eq_getElem?_getD → ai, getElem?_eq_some_iff → aq, length_append → av, mem_cons_of_mem → aw, mem_singleton → ax, map_append → ay, getElem?_map → az, mem_append_right → aA, size_toArray → aE, mem_cons → aG, mem_append_left → aM, mem_append → aN, range → aQ, length_cons → aX, take_length → bc, mem_map → bh, take_add_one → bj, mem_of_getElem? → bt, length_range → bx, mem_cons_self → bB, length_take → bG, getElem_mem → bH, nodup_cons → bJ, foldl_cons → bQ, mem_range → bT, replicate → bU, nodup_iff_pairwise_ne → bV, getElem?_append_right → bZ, map_cons → cj, mem_filter → cA, not_mem_nil → cX, lookup_cons → dU, length_drop → dW, map_map → dY, getElem?_set_ne → eu, getElem?_set_self → eI, foldl_append → eN, append_nil → eU, lookup → e8, pairwise_map → fk, toList_toArray → fq, length_reverse → ft, length_filter_le → fB, length_set → fT, map_congr_left → fV, getElem?_append_left → gw, sum_append → gB, reverse_cons → gC, dropLast_concat → gF, any_eq_false → gG, getElem?_range → gX, filter_cons → gZ, find?_cons → ig, length_singleton → iu, length_replicate → iw, nodup_append → iB, nodup_range → iN, getElem_map → iP, replicate_succ → iZ, getElem_range → jb, filter_append → jd, length_eq_zero_iff → jg, toArray → jq, take_of_length_le → jr, eraseIdx_eq_take_drop_succ → jI, take_append_drop → jK, map_take → jV, map_drop → jW, any_cons → jX, mem_of_mem_take → j3, filterMap_cons → kh, set_eq_take_append_cons_drop → oJ
open PySem renaming Value → ag, wpAny_bind → ah, Addr → ao, Shared → au, wpAny_pure → aL, wpAny → aW, Program → aY, sizeLine → bq, FuncData → bw, model → bz, starEach → bD, World → bE, Heap → bK, boot_len → bP, mainGlobals → bS, Around → bW, Str → cb, wpAny_mono → cy, mem_of_lookup → cz, NameKind → cN, Stmt → cV, wpAny_newObj_type → dh, wpAny_field → dm, wpAny_holding → dZ, wpAny_callSpecial?_slot → eD, eval → eV, wpAny_Call_Name_kw → fc, lookup_relabel_local → fj, Arguments → fE, Scope → fI, compareOp → fQ, wpAny_seqItems → fU, wpAny_truthy_bool → fX, Builtin → fY, sizeLine_eq → gk, wpAny_call_entry → gp, backTo → gz, Spec → gL, foldedSetIterable → gU, binaryOp → gW, wpAny_passesOwn → iF, getItem → i8, codeAny → jo, wpAny_setField_rec → jw, sysModules → jy, wpAny_tryCatch → jN, recursionLimit → jQ, Paired → jS, wpAny_letGo → km, sliceBounds → kq, codeAny_builtin → kL
open PySem.W renaming Frag → ak, mg_none_of → cw, findIn → cP, nsIn → cW, fnOf → eC, kia_one → eR, codeHdIn → eX, keepIn → fe, emptyDict → fg, instObj → gm, codeIn → iA, mg_of → iU, less → i3, plainGet → jE, callWith_K → kg
open PySem.Heap renaming get?_push_of_some → ar, lt_size → aO, get?_push_size → aZ, SameBut → eJ, size_push → gj, get?_update_ne → gY, get?_update_other → ju
open Nat renaming le_refl → aC, lt_of_lt_of_le → aR, le_trans → bo, zero_le → bF, ne_of_lt → bM, lt_of_le_of_lt → bY, ne_of_gt → dA, lt_irrefl → gg, mul_assoc → gN, lt_of_le_of_ne → ib, lt_succ_of_lt → iD, le_of_lt → iW, lt_succ_iff_lt_or_eq → ja, mul_comm → jF, lt_trans → jG, succ_le_succ → jT, lt_succ_self → jU, le_succ → j9
open Bool renaming false_ne_true → aV, and_eq_true → dX, not_eq_true' → gH, eq_false_iff → jv
open PySem.F renaming plainAttrs_list → bp, type_list_append → cq, slot_list_append → cu, type_list_pop → fu, slot_list_pop → fv, plain_min_loop → hX, slot_list_insert → iV, slot_tuple_iterator_next → iX, type_list_insert → kM, args_tuple_add_2 → kN, entry_tuple_add → ly
open Option renaming map_eq_some_iff → bI, map_some → gu
open PySem.PassesOwn renaming never → bL
open PyProof.Rows renaming slot_tuple_getitem → bO, seqObj → bR, callWith_type1 → eS, get?_update_seq → gO, boot_tuple → i5, slicePart_none → jO, entry_tuple_getitem → kR, args_tuple_getitem → lJ
open Ne renaming symm → bX
open Option.some renaming inj → cE
open Int renaming eq_ofNat_of_zero_le → cJ, emod_lt_of_pos → cL, toNat_natCast → cQ, emod_nonneg → cR, mul_le_mul_of_nonneg_left → eP, zero_mul → fO, zero_add → gc, le_refl → gh, mul_ediv_add_emod → gn, toNat_of_nonneg → g6, mul_zero → ie, mul_add → ji, emod_eq_of_lt → jH, add_mul_emod_self_left → kO
open PySem.Builtin.Slice renaming slicePlaces → cS, sliceApplied → eY, sliceFields → jY, sliceAdjust → jZ
open PySem.Obj renaming mapSeq → cT
open Array renaming length_toList → cU, getElem?_eq_getElem → eM, getElem?_toList → ir
open PySem.Str renaming ofString → cZ
open False renaming elim → df
open PySem.Builtin.SmallTypes renaming nextOf → dt, ownedTupleIsFree → kQ
open PySem.Builtin.Tuple renaming tupleExact → dM, tupleItemsOf → ia
open PySem.Builtin.Range renaming rangeSize → eO, small → iq
open Classical renaming byContradiction → fm
open Pure renaming pure → fP
open PySem.Challenge renaming rw_hourtable_k51_no_least_wait → fZ
open PySem.Heap.SameBut renaming update → gv
open PySem.Builtin.List renaming listTooLong → iE
open PySem.Builtin.Int renaming intBits → jJ
noncomputable section
abbrev qZ:=@if_neg
abbrev q9:=@if_pos
abbrev rd:=@absurd
abbrev rf:=@decide_eq_true
abbrev rh:=@decide_eq_false
abbrev rj:=@of_decide_eq_true
abbrev rm:=@congrArg
set_option maxHeartbeats 4000000
theorem gE {α:Type}{l:List α}{i:Nat}(h:i<l.length):l[i]? =some l[i]:=List.getElem?_eq_getElem h
variable {A:bW}{B:Prop}{C Da Ls T0 T1 Tb0 a dx f f1 f2 f3 f4 kS sl:ao}{E Q:ag→au→Prop}{K:ak}{M:PySem.Model}{N fr loose ps:List PySem.Str}{P prog:aY}{R:PySem.Result→au→Prop}{T:String}{Ts ch fp:List ao}{XP:(PySem.Str→Option ag)→bK→Prop}{YP:bE→bK→Prop}{aP pins':List (ao×PySem.Obj)}{b be d lo z:Int}{base h h':bK}{body e ea elt iter re tg value:PySem.Expr}{cl:List (PySem.Str×ao)}{d':PySem.Drawn}{e1 i j m n t':Nat}{env:PySem.Env}{es ifs:List PySem.Expr}{fd fd1 fd2 fd3 fd4:bw}{fz:ao→Option PySem.Obj}{g':Array PySem.GenState}{gs hs ns ts:List Int}{hi:Option Int}{items:Array ag}{its old us vs:List ag}{js l tk π:List Nat}{key:Nat→Int}{keys:List (Option PySem.Expr)}{ks:List (Int×Int)}{kw:List (PySem.Str×ag)}{lp p0 p1 p2 pos pos' tpos:PySem.Pos}{lq name q q0 q1 qual x:PySem.Str}{mA mg:PySem.Str→Option ag}{oI:PySem.Obj}{op:PySem.CmpOp}{osl:Array (Option ag)}{outer:List PySem.Env}{p:Array Nat}{params:fE}{s s':au}{scope:fI}{st:cV}{u:ag}{w:bE}{α:Type}
namespace L2
open PySem PySem.Spec PyProof.Rows
def jn (s:cV):fE:=match s with
 | .FunctionDef _ a _ _ _ _ _ _ _ _=>a
 | _=>{ posonlyargs:=[],args:=[],vararg:=none,kwonlyargs:=[],kw_defaults:=[],kwarg:=none,defaults:=[] }
def fS (s:cV):List cV:=match s with
 | .FunctionDef _ _ b _ _ _ _ _ _ _=>b
 | _=>[]
def defScope (s:cV):fI:=match s with
 | .FunctionDef _ _ _ _ _ _ sc _ _ _=>sc
 | _=>{ kind:= .function,names:=[],isGenerator:=false,isCoroutine:=false }
end L2
namespace HN
open PySem L2 PyProof.Rows
def top (i:Nat):cV:=PySem.Challenge.pw_hourtable_k51_no_least_wait.main.body.getD i (.Pass ⟨0,0,0,0⟩)
def clsOf (s:cV)(i:Nat):cV:=match s with
 | .ClassDef _ _ _ body _ _ _ _ _ _ _=>body.getD i (.Pass ⟨0,0,0,0⟩)
 | s=>s
structure Df (K:ak)(x:Str)(st:cV)(f:ao):Prop where
 n:cW K bS x=some (some (.ref f))
 l:∃ (oc:ag) (od an:Option ao) (sl:Array (Option ag)) (kV dc pm cd ct:ag),K.lookup f=some ⟨oc,od,.func (eC x x (jn st) (fS st) (defScope st) .none kV dc pm an cd ct),sl⟩∧iA K cd x=true∧fe K (.ref f)=true
def Facts (K:ak):Prop:=∀ C:Prop,(∀ {f1 f2 f3 f4 f5 f6 f7 f8 f9 f10 f11 f12 f13 f14 f15 f16 f17 f18 f19 f20 f21 f22 f23 f24 f25 f26 f27 f28 f29 f30 f31 f32 f33 f34 f35 f36 f37 f38 f39 f40 f41 f42 f43 f44 f45 f46 f47 f48 f49 f50 f51 f52 f53:ao} {t1:Tok} {xC xi xs xt:ao} {odI anI odS anS odT anT:Option ao} {slI slS slT:Array (Option ag)} {ocI kVI dcI pmI ctI ocS kVS dcS pmS cdS ctS ocT kVT dcT pmT cdT ctT:ag},(Df K "width_of" (top 4) f1) →
 (Df K "leads_from" (top 6) f2) →
 (Df K "leads_to" (top 7) f3) →
 (Df K "first_bounds" (top 8) f4) →
 (Df K "sum_of" (top 9) f5) →
 (Df K "beats_of" (top 10) f6) →
 (Df K "is_dead" (top 11) f7) →
 (Df K "spans_by_width" (top 14) f8) →
 (Df K "forest_of" (top 15) f9) →
 (Df K "steps_from" (top 16) f10) →
 (Df K "way_between" (top 17) f11) →
 (Df K "ring_by" (top 18) f12) →
 (Df K "cases_of" (top 19) f13) →
 (Df K "rings_of" (top 20) f14) →
 (Df K "spread_of" (top 21) f15) →
 (Df K "rest_by" (top 23) f16) →
 (Df K "with_bound" (top 28) f17) →
 (Df K "rings_over" (top 33) f18) →
 (Df K "middle_of" (top 35) f19) →
 (Df K "dead_leaf" (top 36) f20) →
 (Df K "table_by" (top 37) f21) →
 (Df K "tables_that_fit" (top 38) f22) →
 (Df K "tree_from" (top 39) f23) →
 (Df K "tree_by" (top 40) f24) →
 (Df K "table_for" (top 41) f25) →
 (Df K "is_sure" (top 12) f26) →
 (Df K "wait_in" (top 24) f27) →
 (Df K "waits_of" (top 25) f28) →
 (Df K "wait_of" (top 26) f29) →
 (Df K "own_prices" (top 29) f30) →
 (Df K "worth_of" (top 30) f31) →
 (Df K "price_leaf" (top 43) f32) →
 (Df K "leaf_by" (top 44) f33) →
 (Df K "best_for" (top 45) f34) →
 (Df K "_law_cell_at" (top 47) f35) →
 (Df K "_law_mixed" (top 48) f36) →
 (Df K "_law_pot" (top 49) f37) →
 (Df K "_law_take" (top 50) f38) →
 (Df K "_law_span" (top 51) f39) →
 (Df K "_law_tied" (top 52) f40) →
 (Df K "_law_more" (top 53) f41) →
 (Df K "_law_net" (top 54) f42) →
 (Df K "_law_waits" (top 55) f43) →
 (Df K "_law_wait" (top 57) f44) →
 (Df K "_law_is_whole" (top 59) f45) →
 (Df K "_law_led" (top 60) f46) →
 (Df K "_law_beats" (top 61) f47) →
 (Df K "_law_leaf" (top 63) f48) →
 (Df K "_law_walked" (top 64) f49) →
 (Df K "_law_shown" (top 65) f50) →
 (Df K "_law_ring_spans" (top 66) f51) →
 (Df K "_law_dead" (top 67) f52) →
 (Df K "law" (top 68) f53) →
 (cW K bS "MOST_CASES" =some (some (.int 4096 t1))) →
 (cW K bS "isinstance" =some none) →
 (cW K bS "int" =some none) →
 (cW K bS "bool" =some none) →
 (cW K bS "tuple" =some none) →
 (cW K bS "len" =some none) →
 (cW K bS "min" =some none) →
 (cW K bS "all" =some none) →
 (cW K bS "range" =some none) →
 (cW K bS "enumerate" =some none) →
 (cW K bS "zip" =some none) →
 (cW K bS "sum" =some none) →
 (cW K bS "list" =some none) →
 (cW K bS "max" =some none) →
 (cW K bS "set" =some none) →
 (cW K bS "sorted" =some none) →
 (cW K bS "reversed" =some none) →
 (cW K bS "Cuts" =some (some (.ref xC))) →
 (jE K xC Str.empty=true) →
 (PySem.W.hasDictIn K xC=true) →
 (PySem.W.plainOver K xC=true) →
 (cP K (.ref xC) "__setattr__" =some (some (.builtin "object.__setattr__"))) →
 (cP K (.ref xC) "first_case" =some none) →
 (cP K (.ref xC) "touched" =some none) →
 (cP K (.ref xC) "order" =some none) →
 (PySem.W.makesIn K xC=true) →
 (cP K (.ref xC) "__init__" =some (some (.ref xi))) →
 (PySem.W.isFn K (.ref xi)=true) →
 (fe K (.ref xC)=true) →
 (K.lookup xi=some ⟨ocI,odI,.func (eC "__init__" "Cuts.__init__" (jn (clsOf (top 34) 0)) (fS (clsOf (top 34) 0)) (defScope (clsOf (top 34) 0)) .none kVI dcI pmI anI (.ref 209) ctI),slI⟩) →
 (iA K (.ref 209) "Cuts.__init__" =true) →
 (fe K (.ref xi)=true) →
 (cP K (.ref xC) "span_to_cut" =some (some (.ref xs))) →
 (PySem.W.isFn K (.ref xs)=true) →
 (fe K (.ref xs)=true) →
 (K.lookup xs=some ⟨ocS,odS,.func (eC "span_to_cut" "Cuts.span_to_cut" (jn (clsOf (top 34) 1)) (fS (clsOf (top 34) 1)) (defScope (clsOf (top 34) 1)) .none kVS dcS pmS anS cdS ctS),slS⟩) →
 (iA K cdS "Cuts.span_to_cut" =true) →
 (cP K (.ref xC) "sides" =some (some (.ref xt))) →
 (PySem.W.isFn K (.ref xt)=true) →
 (fe K (.ref xt)=true) →
 (K.lookup xt=some ⟨ocT,odT,.func (eC "sides" "Cuts.sides" (jn (clsOf (top 34) 2)) (fS (clsOf (top 34) 2)) (defScope (clsOf (top 34) 2)) .none kVT dcT pmT anT cdT ctT),slT⟩) →
 (iA K cdT "Cuts.sides" =true) →
 (∃ (oc:ag) (od an:Option ao) (sl:Array (Option ag)) (kV dc pm ct:ag),K.lookup f8=some ⟨oc,od,.func (eC "spans_by_width" "spans_by_width" (jn (top 14)) (fS (top 14)) (defScope (top 14)) .none kV dc pm an (.ref 106) ct),sl⟩) →
 (eX K 106 102=true) →
 (eX K 209 207=true) →
 (∃ (oc:ag) (od an:Option ao) (sl:Array (Option ag)) (kV dc pm ct:ag),K.lookup f25=some ⟨oc,od,.func (eC "table_for" "table_for" (jn (top 41)) (fS (top 41)) (defScope (top 41)) .none kV dc pm an (.ref 277) ct),sl⟩) →
 (eX K 277 273=true) →
 (∃ (oc:ag) (od an:Option ao) (sl:Array (Option ag)) (kV dc pm ct:ag),K.lookup f34=some ⟨oc,od,.func (eC "best_for" "best_for" (jn (top 45)) (fS (top 45)) (defScope (top 45)) .none kV dc pm an (.ref 296) ct),sl⟩) →
 (eX K 296 292=true)→C)→C
def Wp:Prop:=∀ {q:aY} {loose:List Str} {XP:(Str→Option ag)→bK→Prop} {YP:bE→bK→Prop} {d:DefRec} {K:Params→ak},d.params.defaults=[]→d.name = "law" →(∀ (w:bE) (h:bK),YP w h→(K w.params).In h∧∀ T∈([102,207,273,292]:List ao),h.get? T=some (PySem.W.tabObj #[]))→(∀ w:bE,∀ T∈([102,207,273,292]:List ao),∃ c,eX (K w.params) c T=true)→(∀ w:bE,PySem.W.noTabs (K w.params)=true)→(∀ w:bE,Facts (K w.params))→PySem.W.WalkO q loose XP YP (fZ).row.toRowW d [] (fun f vs=>PySem.call f vs)
end HN
section
open PySem PySem.W PyProof.Rows
def HN.seenOf:aY:={ PySem.Challenge.pw_hourtable_k51_no_least_wait with main:={ PySem.Challenge.pw_hourtable_k51_no_least_wait.main with body:=[1,2,4,6,7,8,9,10,11,12,14,15,16,17,18,19,20,21,23,24,25,26,28,29,30,32,33,34,35,36,37,38,39,40,41,43,44,45,47,48,49,50,51,52,53,54,55,56,57,58,59,60,61,62,63,64,65,66,67,68].map HN.top } }
def HN.isSeen (s:au):Bool:=xlAt HN.seenOf [] s && recOk (RowW.records (OpenRow.toRowW (OpenLaw.row fZ))) s
local macro_rules
 | `(tactic| o_head $H:term) => `(tactic| (refine holds_open (q := HN.seenOf) (loose := []) (XP := XL HN.seenOf []) (Xt := HN.isSeen) (Yf := Hook.obs $H) (Ya := Hook.val $H) (YP := Hook.says $H) (N := 5248) ?_ (Hook.of $H) (Hook.keeps $H) (fun s e => xl_of s (Bool.and_eq_true_iff.mp e).1) XL.keeps (by rfl) (by rfl) (by rfl) (fun s e => recFacts_of (Bool.and_eq_true_iff.mp e).2) ?_ ?_ ?_ ?_ ?_ ?_))
theorem HN.left_two {σ β:Type}{e:Option σ}{f:σ→α}{g:σ→β}{a:α}{b:β}(h1:e.map f=some a)(h2:e.map g=some b):e.map (fun s=>(f s,g s))=some (a,b):=by
 cases e with
 | none=>cases h1
 | some s=>injection h1 with h1;injection h2 with h2;show some (f s,g s)=_;rw [h1,h2]
theorem HN.left_pr {σ β:Type}{e:Option σ}{f:σ→α×β}{a:α×β}(h1:e.map (fun s=>(f s).1)=some a.1)(h2:e.map (fun s=>(f s).2)=some a.2):e.map f=some a:=by
 cases e with
 | none=>cases h1
 | some s=>injection h1 with h1;injection h2 with h2;exact rm some (Prod.ext h1 h2)
set_option maxHeartbeats 0 in
theorem HN.left1 (w:bE):(openEnds treeTable PySem.Challenge.rw_hourtable_k51_no_least_wait.row.prog w 5248).map (fun s=>(openSeen HN.seenOf [] (importedModules PySem.Challenge.rw_hourtable_k51_no_least_wait.row.prog.main.body) HN.isSeen true s).1)=some (openGood HN.seenOf []).1:=by
 kernel_rfl
set_option maxHeartbeats 0 in
theorem HN.left2 (w:bE):(openEnds treeTable PySem.Challenge.rw_hourtable_k51_no_least_wait.row.prog w 5248).map (fun s=>(openSeen HN.seenOf [] (importedModules PySem.Challenge.rw_hourtable_k51_no_least_wait.row.prog.main.body) HN.isSeen true s).2)=some (openGood HN.seenOf []).2:=by
 kernel_rfl
set_option maxRecDepth 100000 in
set_option maxHeartbeats 0 in
theorem HN.head0 (W:HN.Wp):PySem.Challenge.rw_hourtable_k51_no_least_wait.Holds:=by
 w_on;refine holds_law (by decide +kernel) fun said=>?_;k_head
 ·exact fun w=>HN.left_two (HN.left_pr (HN.left1 w) (HN.left2 w)) (by kernel_rfl)
 ·rfl
 ·assumption
 ·decide +kernel
 ·exact ⟨rfl,rfl,rfl,rfl,rfl,by decide +kernel⟩
 ·w_witness2
 k_fill
 refine W rfl rfl (fun w h Y=>⟨PySem.W.km_in_of Y,fun T hT=>PySem.W.km_tabs_of Y T (by revert hT;revert T;decide)⟩) (fun w T hT=>by
  simp only [aG,cX,or_false] at hT
  rcases hT with rfl | rfl | rfl | rfl
  ·exact ⟨106,by kernel_rfl⟩
  ·exact ⟨209,by kernel_rfl⟩
  ·exact ⟨277,by kernel_rfl⟩
  ·exact ⟨296,by kernel_rfl⟩
  ) (fun w=>by kernel_rfl) ?F
 case F =>
  intro w C k;refine' k ?_ ?_ ?_ ?_ ?_ ?_ ?_ ?_ ?_ ?_ ?_ ?_ ?_ ?_ ?_ ?_ ?_ ?_ ?_ ?_ ?_ ?_ ?_ ?_ ?_ ?_ ?_ ?_ ?_ ?_ ?_ ?_ ?_ ?_ ?_ ?_ ?_ ?_ ?_ ?_ ?_ ?_ ?_ ?_ ?_ ?_ ?_ ?_ ?_ ?_ ?_ ?_ ?_ ?y1 ?z1 ?z2 ?z3 ?z4 ?z5 ?z6 ?z7 ?z8 ?z9 ?z10 ?z11 ?z12 ?z13 ?z14 ?z15 ?z16 ?w1 ?w2 ?w3 ?w4 ?w5 ?w6 ?w7 ?w8 ?w9 ?w10 ?w11 ?w12 ?w13 ?w14 ?w15 ?w16 ?w17 ?w18 ?w19 ?w20 ?w21 ?w22 ?w23 ?w24 ?w25 ?wc0 ?wh0 ?wh1 ?wc2 ?wh2 ?wc3 ?wh3
  all_goals first | exact ⟨by k_is,_,_,_,_,_,_,_,_,_,by k_is,by k_is,by k_is⟩ | skip
  (case y1=>k_is);(case z1=>k_is);(case z2=>k_is);(case z3=>k_is);(case z4=>k_is);(case z5=>k_is);(case z6=>k_is);(case z7=>k_is);(case z8=>k_is);(case z9=>k_is);(case z10=>k_is);(case z11=>k_is);(case z12=>k_is);(case z13=>k_is);(case z14=>k_is);(case z15=>k_is);(case z16=>k_is)
  (case w1=>k_is)
  (case w2=>k_is)
  (case w3=>k_is)
  (case w4=>k_is)
  (case w5=>k_is)
  (case w6=>k_is)
  (case w7=>k_is)
  (case w8=>k_is)
  (case w9=>k_is)
  (case w10=>k_is)
  (case w11=>k_is)
  (case w12=>k_is)
  (case w13=>k_is)
  (case w14=>k_is)
  (case w15=>k_is)
  (case w16=>k_is)
  (case w17=>k_is)
  (case w18=>k_is)
  (case w19=>k_is)
  (case w20=>k_is)
  (case w21=>k_is)
  (case w22=>k_is)
  (case w23=>k_is)
  (case w24=>k_is)
  (case w25=>k_is)
  (case wc0=>exact ⟨_,_,_,_,_,_,_,_,by k_is⟩)
  (case wh0=>kernel_rfl)
  (case wh1=>kernel_rfl)
  (case wc2=>exact ⟨_,_,_,_,_,_,_,_,by k_is⟩)
  (case wh2=>kernel_rfl)
  (case wc3=>exact ⟨_,_,_,_,_,_,_,_,by k_is⟩)
  (case wh3=>kernel_rfl)
end
namespace L2
open PySem PySem.Spec PyProof.Rows
abbrev Key:=Sum Int Str
def keyIs:Key→ag→Bool
 | .inl k,v=>ag.isInt k v
 | .inr x,v=>ag.isStrOf x v
def keyH (w:bE):Key→Int
 | .inl k=>hashInt k
 | .inr x=>hashStr w x
theorem gT:∀ {k:Key} {v:ag},keyIs k v=true→(∃ i t,k=Sum.inl i∧v=ag.int i t)∨(∃ x t,k=Sum.inr x∧v=ag.str x t)
 | .inl i,v,h=>by
  obtain ⟨t,e⟩:=ag.isInt_shape (k:=i) (v:=v) h;exact .inl ⟨i,t,rfl,e⟩
 | .inr x,v,h=>by
  obtain ⟨t,e⟩:=ag.isStrOf_shape (x:=x) (v:=v) h;exact .inr ⟨x,t,rfl,e⟩
theorem keyIs_int (i:Int)(t:Tok):keyIs (.inl i) (.int i t)=true:=by simp [keyIs,ag.isInt]
theorem keyIs_str (x:Str)(t:Tok):keyIs (.inr x) (.str x t)=true:=by simp [keyIs,ag.isStrOf]
theorem key_ll (a b:Int):decide ((Sum.inl a:Key)=Sum.inl b)=(a == b):=by
 by_cases e:a=b
 ·subst e;simp
 ·have h:¬ (Sum.inl a:Key)=Sum.inl b:=fun q=>e (Sum.inl.inj q)
  rw [rh h];exact (beq_eq_false_iff_ne.mpr e).symm
theorem key_rr (a b:Str):decide ((Sum.inr a:Key)=Sum.inr b)=decide (a=b):=by
 by_cases e:a=b
 ·subst e;simp
 ·have h:¬ (Sum.inr a:Key)=Sum.inr b:=fun q=>e (Sum.inr.inj q)
  rw [rh h,rh e]
theorem key_lr (a:Int)(b:Str):decide ((Sum.inl a:Key)=Sum.inr b)=false:=rh (fun q=>nomatch q)
theorem key_rl (a:Str)(b:Int):decide ((Sum.inr a:Key)=Sum.inl b)=false:=rh (fun q=>nomatch q)
def iR (prog:aY)(w:bE):PySem.KeyKind prog w Key where
 is:=keyIs
 hash:=keyH w
 inj:=fun v a b ha hb=>by
  rcases gT ha with ⟨i,t,rfl,rfl⟩ | ⟨x,t,rfl,rfl⟩
  ·rcases gT hb with ⟨j,u,rfl,e⟩ | ⟨y,u,rfl,e⟩
   ·injection e with e1 _;rw [e1]
   ·exact nomatch e
  ·rcases gT hb with ⟨j,u,rfl,e⟩ | ⟨y,u,rfl,e⟩
   ·exact nomatch e
   ·injection e with e1 _;rw [e1]
 byValue:=fun k v h=>by
  rcases gT h with ⟨i,t,rfl,rfl⟩ | ⟨x,t,rfl,rfl⟩ <;> rfl
 pyHash:=fun hv h=>by
  rcases gT hv with ⟨i,t,rfl,rfl⟩ | ⟨x,t,rfl,rfl⟩
  ·exact wpAny_pyHash_int h
  ·exact wpAny_pyHash_str h
 eqBool:=fun hu hv h=>by
  rcases gT hu with ⟨i,t,rfl,rfl⟩ | ⟨x,t,rfl,rfl⟩
  ·rcases gT hv with ⟨j,u,rfl,rfl⟩ | ⟨y,u,rfl,rfl⟩
   ·rw [key_ll] at h;exact wpAny_eqBool_int h
   ·rw [key_lr] at h;exact SeqAt.EqAt.int_str i t y u _ _ _ _ h
  ·rcases gT hv with ⟨j,u,rfl,rfl⟩ | ⟨y,u,rfl,rfl⟩
   ·rw [key_rl] at h;exact SeqAt.EqAt.str_int x t j u _ _ _ _ h
   ·rw [key_rr] at h;exact wpAny_eqBool_str h
 «strs» := fun k x t v h=>by
  rcases gT h with ⟨i,u,rfl,e⟩ | ⟨y,u,rfl,e⟩
  ·exact nomatch e
  ·injection e with e1 _
   subst e1;cases v <;> rfl
theorem mixKind_int (prog:aY)(w:bE)(i:Int)(t:Tok):(iR prog w).is (.inl i) (.int i t)=true:=keyIs_int i t
theorem mixKind_str (prog:aY)(w:bE)(x:Str)(t:Tok):(iR prog w).is (.inr x) (.str x t)=true:=keyIs_str x t
inductive V where
 | non | bl (b:Bool) | int (i:Int) | str (x:Str) | byt (b:Array UInt8) | flt (b:UInt64) | ref (a:ao) | ty (n:String)
 deriving DecidableEq
def RelV:V→ag→Prop
 | .non,u=>u=ag.none
 | .bl b,u=>u=ag.bool b
 | .int i,u=>∃ t,u=ag.int i t
 | .str x,u=>∃ t,u=ag.str x t
 | .byt b,u=>∃ t,u=ag.bytes b t
 | .flt b,u=>∃ t,u=ag.float b t
 | .ref a,u=>u=ag.ref a
 | .ty n,u=>u=ag.type n
abbrev Vals:List V→List ag→Prop:=jS RelV
theorem Vals.length {xs:List V}(r:Vals xs us):xs.length=us.length:=Paired.length r
theorem Vals.get:∀ {xs:List V} {us:List ag} {i:Nat} {x:V},Vals xs us→xs[i]? =some x→∃ u,us[i]? =some u∧RelV x u
 | _,_,_,_,.nil,e=>by simp at e
 | _,_,0,_,.cons r _,e=>by simp at e;subst e;exact ⟨_,rfl,r⟩
 | _,_,i+1,x,.cons _ t,e=>by
  obtain ⟨u,h1,h2⟩:=Vals.get (i:=i) (x:=x) t (by simpa using e);exact ⟨u,by simpa using h1,h2⟩
theorem Vals.set {x:V}{u:ag}(r:RelV x u):∀ {xs:List V} {us:List ag} (i:Nat),Vals xs us→Vals (xs.set i x) (us.set i u)
 | _,_,_,.nil=> .nil
 | _,_,0,.cons _ t=> .cons r t
 | _,_,i+1,.cons q t=> .cons q (Vals.set r i t)
theorem Vals.append:∀ {xs ys:List V} {us ws:List ag},Vals xs us→Vals ys ws→Vals (xs++ys) (us++ws)
 | _,_,_,_,.nil,s=>s
 | _,_,_,_,.cons r t,s=> .cons r (Vals.append t s)
theorem Vals.take:∀ {xs:List V} {us:List ag} (n:Nat),Vals xs us→Vals (xs.take n) (us.take n)
 | _,_,0,_=> .nil
 | _,_,_+1,.nil=> .nil
 | _,_,n+1,.cons r t=> .cons r (Vals.take n t)
theorem Vals.drop:∀ {xs:List V} {us:List ag} (n:Nat),Vals xs us→Vals (xs.drop n) (us.drop n)
 | _,_,0,r=>r
 | _,_,_+1,.nil=> .nil
 | _,_,n+1,.cons _ t=>Vals.drop n t
def RelO:Option V→Option ag→Prop
 | some v,some u=>RelV v u
 | none,none=>True
 | _,_=>False
def KV {κ:Type}:List (κ×V)→List (κ×ag)→Prop:=jS fun (p:κ×V) (q:κ×ag)=>p.1=q.1∧RelV p.2 q.2
def kV:Key→V
 | .inl i=> .int i
 | .inr x=> .str x
inductive HO where
 | lst (xs:List V)
 | tup (xs:List V)
 | dK (kvs:List (Key×V)) | dT (kvs:List (List Key×V))
 | set (S:Int→Bool) (n:Nat)
 | ins (C dx:ao) (fs:List (Str×V))
 | own (x:ao)
 | xd (fs:List (Str×V))
 | met (f x:ao)
 | rng (lo hi:Int)
 | frz (o:Obj) (u:HO)
 | tbl (ps:Array ag)
 | ext (φ:bK→Prop)
abbrev Hp:=ao→Option HO
def upd (H:Hp)(a:ao)(o:HO):Hp:=fun b=>if b=a then some o else H b
theorem aS {H:Hp}{o:HO}:upd H a o a=some o:=by unfold upd;rw [q9 rfl]
theorem br {H:Hp}{b:ao}{o:HO}(h:b≠a):upd H a o b=H b:=by unfold upd;rw [qZ h]
theorem fH {H:Hp}{b:ao}{o u:HO}(h:H a=some o)(h':H b=some u)(d:o≠u):a≠b:=by
 intro e;subst e;rw [h] at h';exact d (cE h')
theorem bf {H:Hp}{b:ao}{o:HO}(h:H a=some o)(h':H b=none):a≠b:=by
 intro e;subst e;rw [h] at h';cases h'
def IsTupN (h:bK)(a:ao)(items:Array ag):Prop:=∃ o,h.get? a=some o∧o.cls= .type "tuple" ∧o.dict=none∧∃ n,o.data= .seq items n
theorem IsTupN.tup {h:bK}{a:ao}{items:Array ag}(p:IsTupN h a items):IsTup h a items:=let ⟨o,e,c,_,n,d⟩:=p;⟨o,e,c,n,d⟩
theorem IsTupN.lt (p:IsTupN h a items):a<h.objs.size:=p.tup.lt
theorem IsTupN.new (h:bK)(items:Array ag):IsTupN (h.push { cls:= .type "tuple",data:= .seq items }) h.objs.size items:=⟨_,aZ _ rfl,rfl,rfl,_,rfl⟩
section
variable (P:aY) (w:bE)
def ObjOk (H:Hp)(h:bK)(a:ao):HO→Prop
 | .lst xs=>xs.length≤bq∧∃ (its:List ag) (n:Nat),Vals xs its∧h.get? a=some { cls:= .type "list",data:= .seq its.toArray n }
 | .tup xs=>xs.length≤bq∧∃ its:List ag,Vals xs its∧IsTupN h a its.toArray
 | .dK kvs=>kvs.length≤bq∧(a == jy)=false∧∃ vs,KV kvs vs∧h.DictOf (iR P w) a vs
 | .dT kvs=>kvs.length≤bq∧(a == jy)=false∧∃ xs:List (List Key×ao×ag),
   jS (fun (p:List Key×V) (q:List Key×ao×ag)=>p.1=q.1∧H q.2.1=some (.tup (p.1.map kV))∧RelV p.2 q.2.2) kvs xs ∧
   ∃ o es ep,h.get? a=some o∧o.ExactDict∧o.data= .dict es ep∧es.toList=xs.map (entryOfKey (tupleKind (iR P w)))∧(xs.map (·.1)).Nodup
 | .set S n=>h.SetOf (intKind P w) a S n
 | .ins C dx fs=>H dx=some (.own a)∧fs.length≤1000∧dx≠a∧h.get? a=some (gm C dx) ∧
   ∃ mA,h.Ns1 dx mA∧(∀ f,RelO (fs.lookup f) (mA f))∧PySem.Within mA (fs.map (·.1))
 | .own _=>∃ o,h.get? a=some o
 | .xd fs=>∃ mA,h.Ns1 a mA∧∀ f,RelO (fs.lookup f) (mA f)
 | .rng lo hi=>∃ t u v,h.get? a=some { cls:= .type "range",data:= .fields #[.int lo t,.int hi u,.int 1 v] }
 | .frz o u=>h.get? a=some o∧ObjOk H h a u
 | .tbl ps=>h.get? a=some { cls:= .none,data:= .fields ps }
 | .met f x=>h.get? a=some (PySem.W.methodObj (.ref f) (.ref x))
 | .ext φ=>φ h∧(∃ o,h.get? a=some o)∧∀ h1 h2:bK,φ h1→(∀ o,h1.get? a=some o→h2.get? a=some o)→φ h2
def HOk (H:Hp)(h:bK):Prop:=∀ a o,H a=some o→ObjOk P w H h a o
end
section
variable {H H':Hp}{o:HO}
theorem ObjOk.lt (x:ObjOk P w H h a o):a<h.objs.size:=by
 cases o with
 | lst xs=>obtain ⟨_,_,_,_,e⟩:=x;exact aO e
 | tup xs=>obtain ⟨_,_,_,p⟩:=x;exact p.lt
 | dK kvs=>obtain ⟨_,_,_,_,o,_,_,e,_⟩:=x;exact aO e
 | dT kvs=>obtain ⟨_,_,_,_,o,_,_,e,_⟩:=x;exact aO e
 | set S n=>obtain ⟨o,_,_,_,e,_⟩:=x;exact aO e
 | ins C dx fs=>obtain ⟨_,_,_,e,_⟩:=x;exact aO e
 | own y=>obtain ⟨_,e⟩:=x;exact aO e
 | xd fs=>obtain ⟨_,⟨_,_,_,e,_⟩,_⟩:=x;exact aO e
 | rng lo hi=>obtain ⟨_,_,_,e⟩:=x;exact aO e
 | frz ob u=>obtain ⟨e,_⟩:=x;exact aO e
 | tbl ps=>exact aO (show h.get? a=some _ from x)
 | met f y=>exact aO (show h.get? a=some _ from x)
 | ext φ=>obtain ⟨_,⟨_,e⟩,_⟩:=x;exact aO e
theorem Paired.mapP {α β:Type}{F G:α→β→Prop}:∀ {l₁:List α} {l₂:List β},jS F l₁ l₂→(∀ a b,F a b→G a b)→jS G l₁ l₂
 | _,_,.nil,_=> .nil
 | _,_,.cons r t,f=> .cons (f _ _ r) (Paired.mapP t f)
theorem ObjOk.stay (x:ObjOk P w H h a o)(k:∀ b u,(b=a∨H b=some (.own a))→h.get? b=some u→h'.get? b=some u)
  (ho:∀ b,H b=some (.own a)→H' b=some (.own a)) (ht:∀ b xs,H b=some (.tup xs)→H' b=some (.tup xs)):ObjOk P w H' h' a o:=by
 induction o with
 | lst xs=>obtain ⟨z,its,n,r,e⟩:=x;exact ⟨z,its,n,r,k _ _ (.inl rfl) e⟩
 | tup xs=>obtain ⟨z,its,r,ob,e,c⟩:=x;exact ⟨z,its,r,ob,k _ _ (.inl rfl) e,c⟩
 | dK kvs=>obtain ⟨z,y,vs,r,ob,es,ep,e,c⟩:=x;exact ⟨z,y,vs,r,ob,es,ep,k _ _ (.inl rfl) e,c⟩
 | dT kvs =>
  obtain ⟨z,y,xs,r,ob,es,ep,e,c⟩:=x;exact ⟨z,y,xs,Paired.mapP r fun p q z=>⟨z.1,ht _ _ z.2.1,z.2.2⟩,ob,es,ep,k _ _ (.inl rfl) e,c⟩
 | set S n=>obtain ⟨ob,es,ep,t,e,c⟩:=x;exact ⟨ob,es,ep,t,k _ _ (.inl rfl) e,c⟩
 | ins C dx fs =>
  obtain ⟨d,z,ne,e,mA,⟨od,es,ep,e2,c⟩,r⟩:=x;exact ⟨ho _ d,z,ne,k _ _ (.inl rfl) e,mA,⟨od,es,ep,k _ _ (.inr d) e2,c⟩,r⟩
 | own y=>obtain ⟨ob,e⟩:=x;exact ⟨ob,k _ _ (.inl rfl) e⟩
 | xd fs=>obtain ⟨mA,⟨od,es,ep,e,c⟩,r⟩:=x;exact ⟨mA,⟨od,es,ep,k _ _ (.inl rfl) e,c⟩,r⟩
 | rng lo hi=>obtain ⟨t,u,v,e⟩:=x;exact ⟨t,u,v,k _ _ (.inl rfl) e⟩
 | frz ob u ih=>obtain ⟨e,q⟩:=x;exact ⟨k _ _ (.inl rfl) e,ih q⟩
 | tbl ps =>
  have e:h.get? a=some { cls:= .none,data:= .fields ps }:=x;show h'.get? a=some { cls:= .none,data:= .fields ps };exact k a _ (.inl rfl) e
 | met f y =>
  have e:h.get? a=some (PySem.W.methodObj (.ref f) (.ref y)):=x;show h'.get? a=some (PySem.W.methodObj (.ref f) (.ref y));exact k a _ (.inl rfl) e
 | ext φ=>obtain ⟨p,⟨o,e⟩,st⟩:=x;exact ⟨st _ _ p fun o q=>k _ _ (.inl rfl) q,⟨o,k _ _ (.inl rfl) e⟩,st⟩
theorem HOk.lt (x:HOk P w H h)(e:H a=some o):a<h.objs.size:=(x a o e).lt
theorem HOk.fresh (x:HOk P w H h)(e:h.objs.size≤a):H a=none:=by
 cases q:H a with
 | none=>rfl
 | some u=>exact rd (aR (x.lt q) e) (gg _)
theorem HOk.kept (x:HOk P w H h)(k:∀ b u,h.get? b=some u→h'.get? b=some u):HOk P w H h':=fun a o e =>
 (x a o e).stay (fun b u _ q=>k b u q) (fun _ q=>q) fun _ _ q=>q
theorem HOk.laid (x:HOk P w H h)(k:∀ b u,h.get? b=some u→h'.get? b=some u)(hp:h.objs.size≤a)(new:ObjOk P w (upd H a o) h' a o):HOk P w (upd H a o) h':=fun b u e=>by
 have hn:=x.fresh hp
 by_cases hb:b=a
 ·subst hb;rw [aS] at e;cases e;exact new
 ·rw [br hb] at e
  exact (x b u e).stay (fun c v _ q=>k c v q) (fun c q=>by rw [br (bf q hn)];exact q) fun c xs q=>by rw [br (bf q hn)];exact q
end
def Rd (H:Hp)(a:ao)(u:HO):Prop:=H a=some u∨∃ o,H a=some (.frz o u)
theorem Rd.of {H:Hp}{u:HO}(h:H a=some u):Rd H a u:= .inl h
theorem Rd.ok {H:Hp}{u:HO}(r:Rd H a u)(x:HOk P w H h):ObjOk P w H h a u:=by
 rcases r with r | ⟨o,r⟩
 ·exact x a u r
 ·obtain ⟨_,q⟩:=x a _ r
  exact q
def Mut:Option HO→Prop
 | some (.lst _)=>True
 | some (.dK _)=>True
 | some (.dT _)=>True
 | some (.set _ _)=>True
 | some (.ins _ _ _)=>True
 | some (.ext _)=>True
 | _=>False
section
variable {H:Hp}{x e:ao}{o':HO}
theorem HOk.write (ok:HOk P w H h)(mu:Mut (H x))(he:e=x∨H e=some (.own x))(k:∀ b u,b≠e→h.get? b=some u→h'.get? b=some u)(heo:∃ u,h'.get? e=some u)
  (new:ObjOk P w (upd H x o') h' x o'):HOk P w (upd H x o') h':=fun b u q=>by
 have nown:∀ c y,H c=some (.own y)→c≠x:=fun c y r z=>by subst z;rw [r] at mu;exact mu
 have ntup:∀ c xs,H c=some (.tup xs)→c≠x:=fun c xs r z=>by subst z;rw [r] at mu;exact mu
 by_cases hb:b=x
 ·subst hb;rw [aS] at q;cases q;exact new
 ·rw [br hb] at q
  by_cases hbe:b=e
  ·have q':H b=some (.own x):=by
    rcases he with z | z
    ·exact rd (hbe.trans z) hb
    ·rw [hbe];exact z
   rw [q] at q';cases q';obtain ⟨v,hv⟩:=heo;exact ⟨v,by rw [hbe];exact hv⟩
  ·refine (ok b u q).stay (fun c v hc r=>k c v ?_ r) (fun c r=>by rw [br (nown c b r)];exact r) fun c xs r=>by rw [br (ntup c xs r)];exact r
   rcases hc with rfl | hc
   ·exact hbe
   ·rintro rfl
    rcases he with z | z
    ·exact nown c b hc z
    ·rw [hc] at z;cases z;exact hb rfl
end
structure Un (fs ex:List ao)(H H':Hp)(h h':bK):Prop where
 keep:∀ b o,h.get? b=some o→H b=none→b ∉ fs→b ∉ ex→h'.get? b=some o
 slot:∀ b o,h.get? b=some o→H b=none→b∈fs→b ∉ ex→∃ sl,h'.get? b=some { o with slots:=sl }
 free:∀ b o,h.get? b=some o→H b=none→b ∉ ex→H' b=none
 there:∀ b o,h.get? b=some o→b ∉ ex→∃ o',h'.get? b=some o'
 tups:∀ b xs,H b=some (.tup xs)→H' b=some (.tup xs)
 frzs:∀ b o u,H b=some (.frz o u)→H' b=some (.frz o u)
 tbls:∀ b ps,H b=some (.tbl ps)→∃ more,H' b=some (.tbl (ps++more))
section
variable {fs fs' ex ex':List ao}{H H1 H2:Hp}{h1 h2:bK}{x e:ao}{o:HO}
theorem Un.any (u:Un fs ex H H1 h h1){b:ao}{ob:Obj}(q:h.get? b=some ob)(n:H b=none)(hx:b ∉ ex):∃ sl,h1.get? b=some { ob with slots:=sl }:=by
 by_cases hb:b∈fs
 ·exact u.slot b ob q n hb hx
 ·exact ⟨ob.slots,u.keep b ob q n hb hx⟩
theorem Un.kept (k:∀ b u,h.get? b=some u→h'.get? b=some u):Un fs ex H H h h' :=
 ⟨fun b ob q _ _ _=>k b ob q,fun b ob q _ _ _=>⟨ob.slots,k b ob q⟩,fun _ _ _ n _=>n,fun b ob q _=>⟨ob,k b ob q⟩,fun _ _ q=>q,fun _ _ _ q=>q,fun _ ps q=>⟨#[],by rw [q];simp⟩⟩
theorem Un.refl:Un fs ex H H h h:=Un.kept fun _ _ q=>q
theorem Un.laid (k:∀ b u,h.get? b=some u→h'.get? b=some u)(hp:h.objs.size≤a)(hn:H a=none):Un fs ex H (upd H a o) h h' where
 keep:=fun b u q _ _ _=>k b u q
 slot:=fun b u q _ _ _=>⟨u.slots,k b u q⟩
 free:=fun b u q n _=>by rw [br (bM (aR (aO q) hp))];exact n
 there:=fun b u q _=>⟨u,k b u q⟩
 tups:=fun b xs q=>by rw [br (bf q hn)];exact q
 frzs:=fun b u xs q=>by rw [br (bf q hn)];exact q
 tbls:=fun b ps q=>⟨#[],by rw [br (bf q hn),q];simp⟩
theorem Un.write (mu:Mut (H x))(he:e=x∨H e=some (.own x))(k:∀ b u,b≠e→h.get? b=some u→h'.get? b=some u)(heo:∃ u,h'.get? e=some u):Un fs ex H (upd H x o) h h':=by
 have hx:∀ b,H b=none→b≠x:=fun b n z=>by subst z;rw [n] at mu;exact mu
 have hb:∀ b,H b=none→b≠e:=fun b n z=>by
  subst z
  rcases he with r | r
  ·exact hx b n r
  ·rw [n] at r;cases r
 have hm:∀ b u,H b=some u→¬ Mut (some u)→b≠x:=fun b u q nm z=>by subst z;rw [q] at mu;exact nm mu
 refine ⟨fun b u q n _ _=>k b u (hb b n) q,fun b u q n _ _=>⟨u.slots,k b u (hb b n) q⟩,fun b u q n _=>by rw [br (hx b n)];exact n,fun b u q _=>?_,
  fun b xs q=>by rw [br (hm b _ q fun z=>z)];exact q,fun b u xs q=>by rw [br (hm b _ q fun z=>z)];exact q,fun b ps q=>⟨#[],by rw [br (hm b _ q fun z=>z),q];simp⟩⟩
 by_cases hbe:b=e
 ·subst hbe;exact heo
 ·exact ⟨u,k b u hbe q⟩
end
def trk (h:bK)(H:Hp):List ao:=(aQ h.objs.size).filter fun a=>(H a).isSome
def hidT (h:bK)(H:Hp):bK:=PySem.W.hideAll h (trk h H)
theorem hidT_size (h:bK)(H:Hp):(hidT h H).objs.size=h.objs.size:=PySem.W.hideAll_size _ _
theorem hidT_get {H:Hp}{b:ao}{o:Obj}(e:h.get? b=some o)(n:H b=none):(hidT h H).get? b=some o :=
 PySem.W.hideAll_get _ e fun hm=>by
  have q:(H b).isSome=true:=(cA.mp hm).2;rw [n] at q;simp at q
theorem of_hidT {H:Hp}{b:ao}{o:Obj}(e:(hidT h H).get? b=some o):h.get? b=some o∧H b=none:=by
 have e':h.get? b=some o:=PySem.W.of_hideAll (trk h H) e;refine ⟨e',?_⟩;cases q:H b with
 | none=>rfl
 | some x =>
  have hm:b∈trk h H:=cA.mpr ⟨bT.mpr (aO e'),by simp [q]⟩;have z:(hidT h H).get? b=none:=PySem.W.hideAll_none (trk h H) hm;rw [z] at e;cases e
structure Mod (K:ak)(mg:Str→Option ag)(base:bK):Prop where
 kin:K.In base
 glob:base.Ns bS mg
 blt:∃ mb,base.Ns builtinsNs mb∧∀ x:Str,x ≠ "__name__" →mb x=bootBuiltins x
 nolimit:base.NoLimit
structure Cx where
 prog:aY
 w:bE
 K:ak
 mg:Str→Option ag
 base:bK
 A:bW
 N:List Str
 s₀:au
 H₀:Hp
 env:Env
 outer:List Env
 stack:List Env
 ex:List ao
 fn:Str→Bool
 calm:Bool
 pn:List (ao×Obj)
 xe:ag→au→Prop
def frs (l:List Env):List ao:=l.filterMap (·.frame)
abbrev Cx.fs (X:Cx):List ao:=frs X.outer
def Vis (sc:fI)(x:Str):Prop:=sc.names.lookup x=some .local∨sc.names.lookup x=some .cell∨sc.names.lookup x=some .free
def Loc (sc:fI)(x:Str):Prop:=sc.names.lookup x=some .local∨sc.names.lookup x=some .cell
def Look (env:Env)(h:bK)(m:Str→Option ag)(x:Str)(u:ag):Prop :=
 (env.kindOf x=some .local∧m x=some u)∨((env.kindOf x=some .cell∨env.kindOf x=some .free)∧∃ c,env.cells.lookup x=some c∧h.IsCell c (some u))
structure Cx.Ok (X:Cx):Prop where
 mod:Mod X.K X.mg X.base
 kind:X.env.scope.kind= .function
 glob:X.env.globals=bS
 blt:X.env.builtins=builtinsNs
 above:X.s₀.heap.objs.size≤X.env.locals
 inj:∀ x y c,X.env.cells.lookup x=some c→X.env.cells.lookup y=some c→x=y
 has:∀ x,(X.env.kindOf x=some .cell∨X.env.kindOf x=some .free)→∃ c,X.env.cells.lookup x=some c
 cab:∀ x c,X.fn x=true→X.env.cells.lookup x=some c→X.s₀.heap.objs.size≤c
 hd:X.calm=true→X.A.handled=none
 frames:X.A.frames=some X.stack
 stk:X.stack=X.outer∨(X.stack=X.env::X.outer∧X.env.frame=some X.env.locals)
 exf:∀ b∈X.ex,b≠X.env.locals∧∀ x c,X.env.cells.lookup x=some c→c≠b
 bs:∀ b o,X.base.get? b=some o→X.s₀.heap.get? b=some o∧X.H₀ b=none
 bsz:X.base.objs.size≤X.s₀.heap.objs.size
 noex:∀ b o,X.base.get? b=some o→b ∉ X.ex
 exfs:∀ b∈X.ex,b ∉ X.fs
 funs:X.s₀.heap.FunFrames X.base X.outer
 frf:∀ b∈X.fs,X.H₀ b=none
structure Inv (X:Cx)(aP:List (ao×Obj))(σ:List (Option V))(H:Hp)(s:au):Prop where
 ok:X.Ok
 os:s.os=X.s₀.os
 bare:AllBare s.gens
 base:Un X.fs X.ex X.H₀ H X.s₀.heap s.heap
 loc:∃ m,s.heap.Ns X.env.locals m∧∀ (i:Nat) (x:Str) (v:V),X.N[i]? =some x→σ[i]? =some (some v)→Vis X.env.scope x→∃ u,RelV v u∧Look X.env s.heap m x u
 cell:∀ x c,X.env.cells.lookup x=some c→∃ v,s.heap.IsCell c v
 free:H X.env.locals=none
 freeC:∀ x c,X.env.cells.lookup x=some c→H c=none
 pin:∀ p∈X.pn++aP,s.heap.get? p.1=some p.2∧H p.1=none∧p.1≠X.env.locals∧p.1 ∉ X.fs∧∀ v,p.2.data≠ .cell v
 hok:HOk X.prog X.w H s.heap
 len:σ.length=X.N.length
section
variable {X:Cx}{σ:List (Option V)}{H H':Hp}
theorem Cx.Ok.nofr (ok:X.Ok){b:ao}{o:Obj}(e:X.base.get? b=some o):b ∉ X.fs:=fun hb=>by
 have:=(ok.funs.mem hb).1;rw [e] at this;cases this
theorem Inv.bs (I:Inv X aP σ H s):∀ b o,X.base.get? b=some o→s.heap.get? b=some o∧H b=none:=fun b o e =>
 ⟨I.base.keep b o (I.ok.bs b o e).1 (I.ok.bs b o e).2 (I.ok.nofr e) (I.ok.noex b o e),I.base.free b o (I.ok.bs b o e).1 (I.ok.bs b o e).2 (I.ok.noex b o e)⟩
theorem Inv.bk (I:Inv X aP σ H s):∀ b o,X.base.get? b=some o→s.heap.get? b=some o:=fun b o e=>(I.bs b o e).1
theorem Inv.mod (I:Inv X aP σ H s):Mod X.K X.mg X.base:=I.ok.mod
theorem Inv.kIn (I:Inv X aP σ H s):X.K.In s.heap:=I.ok.mod.kin.keeps I.bk
theorem Inv.nolimit (I:Inv X aP σ H s):s.heap.NoLimit:=I.ok.mod.nolimit.keeps I.bk
theorem Inv.lt (I:Inv X aP σ H s):X.env.locals<s.heap.objs.size:=let ⟨_,hn,_⟩:=I.loc;hn.lt
theorem Inv.sz (I:Inv X aP σ H s):X.s₀.heap.objs.size≤s.heap.objs.size:=bo I.ok.above (iW I.lt)
theorem Inv.nofs (I:Inv X aP σ H s)(h:s.heap.objs.size≤a):a ∉ X.fs:=fun hb=>by
 obtain ⟨_,o,ho,_⟩:=I.ok.funs.mem hb;exact rd (aR (aO ho) (bo I.sz h)) (gg _)
theorem Inv.cne (I:Inv X aP σ H s):∀ x c,X.env.cells.lookup x=some c→c≠X.env.locals:=fun x c e z=>by
 obtain ⟨v,o,ho,hd⟩:=I.cell x c e;obtain ⟨m,⟨o',es,ep,ho',hd',_⟩,_⟩:=I.loc;rw [z,ho'] at ho;cases ho;rw [hd'] at hd;cases hd
theorem Inv.funs (I:Inv X aP σ H s):s.heap.FunFrames X.base X.outer:=by
 have all:∀ (l:List Env),(∀ b∈frs l,b∈X.fs)→X.s₀.heap.FunFrames X.base l→s.heap.FunFrames X.base l:=by
  intro l
  induction l with
  | nil=>intro _ _;trivial
  | cons env r ih =>
   intro hs hl;obtain ⟨hk,⟨L,o,hf,hn,ho,hd⟩,hr⟩:=hl;have hL:L∈X.fs:=hs L (by unfold frs;rw [kh,hf];exact bB);obtain ⟨sl,e⟩:=I.base.slot L o ho (I.ok.frf L hL) hL fun z=>I.ok.exfs L z hL
   exact ⟨hk,⟨L,_,hf,hn,e,hd⟩,ih (fun b hb=>hs b (by unfold frs;rw [kh,hf];exact aw _ hb)) hr⟩
 exact all X.outer (fun _ hb=>hb) I.ok.funs
theorem Inv.stack (I:Inv X aP σ H s):s.heap.FunFrames X.base X.stack:=by
 rcases I.ok.stk with e | ⟨e,hf⟩
 ·rw [e];exact I.funs
 ·rw [e]
  obtain ⟨m,hn,_⟩:=I.loc;refine .cons (by rw [I.ok.kind];decide) hf hn ?_ I.funs;exact bK.get?_none_of_le (bo I.ok.bsz I.ok.above)
theorem Inv.stkSub (I:Inv X aP σ H s):∀ b∈frs X.stack,b∈X.env.locals::X.fs:=fun b hb=>by
 rcases I.ok.stk with e | ⟨e,hf⟩
 ·rw [e] at hb;exact aw _ hb
 ·rw [e] at hb
  unfold frs at hb;rw [kh,hf] at hb;exact hb
theorem Inv.stkFree (I:Inv X aP σ H s):∀ b∈frs X.stack,H b=none:=fun b hb=>by
 rcases aG.mp (I.stkSub b hb) with e | hb
 ·rw [e];exact I.free
 ·obtain ⟨_,o,ho,_⟩:=I.ok.funs.mem hb
  exact I.base.free b o ho (I.ok.frf b hb) fun z=>I.ok.exfs b z hb
theorem Inv.step (I:Inv X aP σ H s)
  (hch:∀ b∈ch,(b∈X.ex∨X.s₀.heap.objs.size≤b)∧b≠X.env.locals∧(∀ x c,X.env.cells.lookup x=some c→c≠b)∧∀ p∈X.pn++aP,p.1≠b)
  (keep:∀ b o,b≠X.env.locals→b ∉ X.fs→b ∉ ch→s.heap.get? b=some o→H b=none→h'.get? b=some o)
  (slot:∀ b o,b≠X.env.locals→b∈X.fs→b ∉ ch→s.heap.get? b=some o→H b=none→∃ sl,h'.get? b=some { o with slots:=sl }) (free:∀ b o,b ∉ ch→s.heap.get? b=some o→H b=none→H' b=none)
  (there:∀ b o,b ∉ ch→s.heap.get? b=some o→∃ o',h'.get? b=some o')
  (tups:∀ b xs,H b=some (.tup xs)→H' b=some (.tup xs)) (frzs:∀ b o u,H b=some (.frz o u)→H' b=some (.frz o u)) (tbls:∀ b ps,H b=some (.tbl ps)→∃ more,H' b=some (.tbl (ps++more)))
  (ns:∀ m,s.heap.Ns X.env.locals m→h'.Ns X.env.locals m) (hok:HOk X.prog X.w H' h') (hg:AllBare g') :
  Inv X aP σ H' { s with heap:=h',gens:=g',drawn:=d',toks:=t' }:=by
 have neL:∀ b o,X.s₀.heap.get? b=some o→b≠X.env.locals:=fun b o e=>bM (aR (aO e) I.ok.above)
 have neC:∀ b o,X.s₀.heap.get? b=some o→b ∉ X.ex→b ∉ ch:=fun b o e hx hb=>by
  rcases (hch b hb).1 with z | z
  ·exact hx z
  ·exact rd (aR (aO e) z) (gg _)
 have cellK:∀ x c,X.env.cells.lookup x=some c→∀ v,s.heap.IsCell c v→h'.IsCell c v:=fun x c e v ⟨o,ho,hd⟩=>by
  have nch:c ∉ ch:=fun z=>(hch c z).2.2.1 x c e rfl
  by_cases hc:c∈X.fs
  ·obtain ⟨sl,q⟩:=slot c o (I.cne x c e) hc nch ho (I.freeC x c e)
   exact ⟨_,q,hd⟩
  ·exact ⟨o,keep c o (I.cne x c e) hc nch ho (I.freeC x c e),hd⟩
 refine ⟨I.ok,I.os,hg,⟨fun b o e n hb hx=>?_,fun b o e n hb hx=>?_,fun b o e n hx=>?_,fun b o e hx=>?_,fun b xs e=>tups b xs (I.base.tups b xs e),fun b o xs e=>frzs b o xs (I.base.frzs b o xs e),fun b ps e=>?_⟩,?_,fun x c e=>?_,?_,fun x c e=>?_,fun p hp=>?_,hok,I.len⟩
 ·exact keep b o (neL b o e) hb (neC b o e hx) (I.base.keep b o e n hb hx) (I.base.free b o e n hx)
 ·obtain ⟨sl,e1⟩:=I.base.slot b o e n hb hx
  obtain ⟨sl',e2⟩:=slot b _ (neL b o e) hb (neC b o e hx) e1 (I.base.free b o e n hx);exact ⟨sl',e2⟩
 ·obtain ⟨o',e1⟩:=I.base.there b o e hx
  exact free b o' (neC b o e hx) e1 (I.base.free b o e n hx)
 ·obtain ⟨o',e1⟩:=I.base.there b o e hx
  exact there b o' (neC b o e hx) e1
 ·obtain ⟨m1,e1⟩:=I.base.tbls b ps e
  obtain ⟨m2,e2⟩:=tbls b _ e1;exact ⟨m1++m2,by rw [e2,Array.append_assoc]⟩
 ·obtain ⟨m,hn,hl⟩:=I.loc
  refine ⟨m,ns m hn,fun i x v e1 e2 e3=>?_⟩;obtain ⟨u,r,l⟩:=hl i x v e1 e2 e3;refine ⟨u,r,?_⟩
  rcases l with l | ⟨k,c,e,z⟩
  ·exact .inl l
  ·exact .inr ⟨k,c,e,cellK x c e _ z⟩
 ·obtain ⟨v,z⟩:=I.cell x c e
  exact ⟨v,cellK x c e v z⟩
 ·obtain ⟨m,⟨o,_,_,ho,_⟩,_⟩:=I.loc
  exact free _ o (fun z=>(hch _ z).2.1 rfl) ho I.free
 ·obtain ⟨v,o,ho,hd⟩:=I.cell x c e
  exact free c o (fun z=>(hch c z).2.2.1 x c e rfl) ho (I.freeC x c e)
 ·obtain ⟨e,n,ne,nf,d⟩:=I.pin p hp
  have nch:p.1 ∉ ch:=fun z=>(hch p.1 z).2.2.2 p hp rfl
  exact ⟨keep p.1 p.2 ne nf nch e n,free p.1 p.2 nch e n,ne,nf,d⟩
theorem Inv.un (I:Inv X aP σ H s)(u:Un X.fs [] H H' s.heap h')(hok:HOk X.prog X.w H' h'):Inv X aP σ H' { s with heap:=h',toks:=t' }:=by
 obtain ⟨m,⟨o,es,ep,ho,r⟩,_⟩:=id I.loc;obtain ⟨sl,hL⟩:=u.any ho I.free (by simp);exact I.step (g':=s.gens) (d':=s.drawn) (ch:=[]) (fun _ z=>nomatch z) (fun b o _ hb _ e n=>u.keep b o e n hb (by simp)) (fun b o _ hb _ e n=>u.slot b o e n hb (by simp)) (fun b o _ e n=>u.free b o e n (by simp)) (fun b o _ e=>u.there b o e (by simp)) u.tups u.frzs u.tbls (fun m' hm=>by
  obtain ⟨o',es',ep',ho',r'⟩:=hm;rw [ho] at ho';cases ho';exact ⟨_,es',ep',hL,r'⟩) hok I.bare
theorem Inv.call (I:Inv X aP σ H s)(u:Un (frs X.stack) ch H H' s.heap h')(hok:HOk X.prog X.w H' h')(hg:AllBare g')
  (hch:∀ b∈ch,(b∈X.ex∨X.s₀.heap.objs.size≤b)∧b≠X.env.locals∧(∀ x c,X.env.cells.lookup x=some c→c≠b)∧∀ p∈X.pn++aP,p.1≠b) :
  Inv X aP σ H' { s with heap:=h',gens:=g',drawn:=d',toks:=t' }:=by
 obtain ⟨m,⟨o,es,ep,ho,r⟩,_⟩:=id I.loc;obtain ⟨sl,hL⟩:=u.any ho I.free fun z=>(hch _ z).2.1 rfl
 exact I.step (ch:=ch) hch (fun b o hL hb hc e n=>u.keep b o e n (fun z=>(aG.mp (I.stkSub b z)).elim hL hb) hc) (fun b o _ _ hc e n=>u.any e n hc) (fun b o hc e n=>u.free b o e n hc) (fun b o hc e=>u.there b o e hc) u.tups u.frzs u.tbls (fun m' hm=>by
  obtain ⟨o',es',ep',ho',r'⟩:=hm;rw [ho] at ho';cases ho';exact ⟨_,es',ep',hL,r'⟩) hok hg
theorem Inv.turned {it:ao}(I:Inv X aP σ H s)(k:∀ b o,b≠it→s.heap.get? b=some o→h'.get? b=some o)(hn:H it=none)(hL:it≠X.env.locals)
  (h1:it∈X.ex∨X.s₀.heap.objs.size≤it) (h2:∀ x c,X.env.cells.lookup x=some c→c≠it) (h3:∀ p∈X.pn++aP,p.1≠it):Inv X aP σ H { s with heap:=h',toks:=t' }:=by
 have nit:∀ b u,H b=some u→b≠it:=fun b u e z=>by rw [z,hn] at e;cases e
 refine I.step (g':=s.gens) (d':=s.drawn) (ch:=[it]) (fun b hb=>?_) (fun b o _ _ hc e _=>k b o (fun z=>hc (by simp [z])) e) (fun b o _ _ hc e _=>⟨o.slots,k b o (fun z=>hc (by simp [z])) e⟩) (fun _ _ _ _ n=>n)
  (fun b o hc e=>⟨o,k b o (fun z=>hc (by simp [z])) e⟩) (fun _ _ e=>e) (fun _ _ _ e=>e) (fun b ps e=>⟨#[],by rw [e];simp⟩) (fun m hm=>?_) (fun b u e=>?_) I.bare
 ·have e:b=it:=by simpa using hb
  subst e;exact ⟨h1,hL,h2,h3⟩
 ·obtain ⟨o,es,ep,ho,r⟩:=hm
  exact ⟨o,es,ep,k _ o (bX hL) ho,r⟩
 ·refine (I.hok b u e).stay (fun c v hc q=>k c v ?_ q) (fun _ q=>q) fun _ _ q=>q
  rcases hc with z | z
  ·rw [z];exact nit b u e
  ·exact nit c _ z
theorem Inv.tok (I:Inv X aP σ H s)(t:Nat):Inv X aP σ H { s with toks:=t }:=I.un (h':=s.heap) (t':=t) Un.refl I.hok
theorem Inv.kept (I:Inv X aP σ H s)(k:∀ b u,s.heap.get? b=some u→h'.get? b=some u):Inv X aP σ H { s with heap:=h',toks:=t' }:=I.un (Un.kept k) (I.hok.kept k)
theorem Inv.laid {o:HO}(I:Inv X aP σ H s)(k:∀ b u,s.heap.get? b=some u→h'.get? b=some u)(hp:s.heap.objs.size≤a)(new:ObjOk X.prog X.w (upd H a o) h' a o) :
  Inv X aP σ (upd H a o) { s with heap:=h',toks:=t' }:=I.un (Un.laid k hp (I.hok.fresh hp)) (I.hok.laid k hp new)
theorem Inv.write {x e:ao}{o:HO}(I:Inv X aP σ H s)(mu:Mut (H x))(he:e=x∨H e=some (.own x))(k:∀ b u,b≠e→s.heap.get? b=some u→h'.get? b=some u)(heo:∃ u,h'.get? e=some u)
  (new:ObjOk X.prog X.w (upd H x o) h' x o):Inv X aP σ (upd H x o) { s with heap:=h',toks:=t' }:=I.un (Un.write mu he k heo) (I.hok.write mu he k heo new)
theorem Inv.pins_of (I:Inv X aP σ H s)(h:∀ p∈pins',s.heap.get? p.1=some p.2∧H p.1=none∧p.1≠X.env.locals∧p.1 ∉ X.fs∧∀ v,p.2.data≠ .cell v):Inv X pins' σ H s :=
 ⟨I.ok,I.os,I.bare,I.base,I.loc,I.cell,I.free,I.freeC,fun p hp=>(aN.mp hp).elim (fun z=>I.pin p (aM _ z)) (h p),I.hok,I.len⟩
theorem nodup_ix (hN:N.Nodup)(a:N[i]? =some x)(b:N[j]? =some x):i=j:=by
 obtain ⟨h1,e1⟩:=aq.mp a;obtain ⟨h2,e2⟩:=aq.mp b;exact (List.getElem_inj hN).mp (e1.trans e2.symm)
theorem store_ok2 {v:V}{Q:Unit→au→Prop}(I:Inv X aP σ H s)(hN:X.N.Nodup)(hi:X.N[i]? =some x)(hx:Loc X.env.scope x)(r:RelV v u)
  (h:∀ s',Inv X aP (σ.set i (some v)) H s'→(∃ a,eJ a s.heap s'.heap∧(a=X.env.locals∨X.env.cells.lookup x=some a))→Q () s') (hf:X.fn x=true∨X.env.scope.names.lookup x=some .local:=by first | exact .inl rfl | exact .inr rfl | assumption):aW M A (storeName X.env x u) Q E s:=by
 obtain ⟨m,hn,hl⟩:=id I.loc;have hcls:(X.env.scope.kind == .class || (X.env.scope.kind == .module && X.env.locals != X.env.globals))=false:=by rw [I.ok.kind];rfl
 have hiσ:i<σ.length:=by rw [I.len];exact (aq.mp hi).1
 have cne:=I.cne;have tracked:∀ {a:ao} {h':bK},(∃ o,s.heap.get? a=some o∧H a=none)→eJ a s.heap h'→HOk X.prog X.w H h':=fun {a h'} ha hs b ob e=>by
  obtain ⟨_,_,hfree⟩:=ha;refine (I.hok b ob e).stay (fun c w' hc q=>(hs.2 c ?_).trans q) (fun _ q=>q) fun _ _ q=>q
  rintro rfl
  rcases hc with rfl | hc
  ·rw [hfree] at e;cases e
  ·rw [hfree] at hc;cases hc
 rcases hx with hk | hk
 ·refine wpAny_storeName_local hk hn (fun h' hn' hs=>?_) hcls
  obtain ⟨oL,_,_,hoL,_⟩:=id hn;refine h _ ⟨I.ok,I.os,I.bare,⟨fun b o e n hb hx=>?_,fun b o e n hb hx=>?_,I.base.free,fun b o e hx=>?_,I.base.tups,I.base.frzs,I.base.tbls⟩,⟨_,hn',fun j y v' e1 e2 e3=>?_⟩,fun y c e=>?_,I.free,I.freeC,fun p hp=>?_,tracked ⟨oL,hoL,I.free⟩ hs,by simpa using I.len⟩ ⟨_,hs,.inl rfl⟩
  ·exact (hs.2 b (bM (aR (aO e) I.ok.above))).trans (I.base.keep b o e n hb hx)
  ·obtain ⟨sl,e1⟩:=I.base.slot b o e n hb hx
   exact ⟨sl,(hs.2 b (bM (aR (aO e) I.ok.above))).trans e1⟩
  ·obtain ⟨o',e1⟩:=I.base.there b o e hx
   exact ⟨o',(hs.2 b (bM (aR (aO e) I.ok.above))).trans e1⟩
  ·by_cases hj:j=i
   ·subst hj
    rw [hi] at e1;cases e1;rw [eI hiσ] at e2;cases e2;exact ⟨u,r,.inl ⟨hk,by simp⟩⟩
   ·rw [eu (bX hj)] at e2
    obtain ⟨u',r',q⟩:=hl j y v' e1 e2 e3;refine ⟨u',r',?_⟩
    rcases q with ⟨k,e⟩ | ⟨k,c,e,z⟩
    ·refine .inl ⟨k,?_⟩
     have:y≠x:=fun e=>hj (nodup_ix hN e1 (e ▸ hi))
     simp [this,e]
    ·exact .inr ⟨k,c,e,z.sameBut hs (cne y c e)⟩
  ·obtain ⟨w',z⟩:=I.cell y c e
   exact ⟨w',z.sameBut hs (cne y c e)⟩
  ·obtain ⟨e,n,ne,nf,d⟩:=I.pin p hp
   exact ⟨(hs.2 p.1 ne).trans e,n,ne,nf,d⟩
 ·have hfn:X.fn x=true:=by
   rcases hf with z | z
   ·exact z
   ·rw [z] at hk;cases hk
  obtain ⟨c,hc⟩:=I.ok.has x (.inl hk);obtain ⟨w',z⟩:=I.cell x c hc;refine wpAny_storeName_cell I.ok.kind hk hc z (fun h' hc' hs=>?_);obtain ⟨oc,hoc,hocd⟩:=id z;refine h { s with heap:=h' } ⟨I.ok,I.os,I.bare,⟨fun b o e n hb hx=>?_,fun b o e n hb hx=>?_,I.base.free,fun b o e hx=>?_,I.base.tups,I.base.frzs,I.base.tbls⟩,⟨m,hn.sameBut hs (bX (cne x c hc)),fun j y v' e1 e2 e3=>?_⟩,fun y c' e=>?_,I.free,I.freeC,fun p hp=>?_,tracked ⟨oc,hoc,I.freeC x c hc⟩ hs,by simpa using I.len⟩ ⟨c,hs,.inr hc⟩
  ·exact (hs.2 b (bM (aR (aO e) (I.ok.cab x c hfn hc)))).trans (I.base.keep b o e n hb hx)
  ·obtain ⟨sl,e1⟩:=I.base.slot b o e n hb hx
   exact ⟨sl,(hs.2 b (bM (aR (aO e) (I.ok.cab x c hfn hc)))).trans e1⟩
  ·obtain ⟨o',e1⟩:=I.base.there b o e hx
   exact ⟨o',(hs.2 b (bM (aR (aO e) (I.ok.cab x c hfn hc)))).trans e1⟩
  ·by_cases hj:j=i
   ·subst hj
    rw [hi] at e1;cases e1;rw [eI hiσ] at e2;cases e2;exact ⟨u,r,.inr ⟨.inl hk,c,hc,hc'⟩⟩
   ·rw [eu (bX hj)] at e2
    obtain ⟨u',r',q⟩:=hl j y v' e1 e2 e3;refine ⟨u',r',?_⟩
    rcases q with q | ⟨k,c',e,z'⟩
    ·exact .inl q
    ·refine .inr ⟨k,c',e,z'.sameBut hs ?_⟩
     rintro rfl;exact hj (nodup_ix hN e1 (I.ok.inj _ _ _ e hc ▸ hi))
  ·by_cases hcc:c'=c
   ·subst hcc;exact ⟨_,hc'⟩
   ·obtain ⟨w2,z2⟩:=I.cell y c' e
    exact ⟨w2,z2.sameBut hs hcc⟩
  ·obtain ⟨e,n,ne,nf,d⟩:=I.pin p hp
   refine ⟨(hs.2 p.1 ?_).trans e,n,ne,nf,d⟩;intro q;rw [q,hoc] at e;have q':oc=p.2:=cE e;exact d w' (by rw [←q'];exact hocd)
theorem store_ok {v:V}{Q:Unit→au→Prop}(I:Inv X aP σ H s)(hN:X.N.Nodup)(hi:X.N[i]? =some x)(hx:Loc X.env.scope x)(r:RelV v u)
  (h:∀ s',Inv X aP (σ.set i (some v)) H s'→Q () s') (hf:X.fn x=true∨X.env.scope.names.lookup x=some .local:=by first | exact .inl rfl | exact .inr rfl | assumption):aW M A (storeName X.env x u) Q E s :=
 store_ok2 I hN hi hx r (fun s' I' _=>h s' I') hf
theorem Inv.call' (I:Inv X aP σ H s)(ho:s'.os=s.os)(u:Un (frs X.stack) ch H H' s.heap s'.heap)(hok:HOk X.prog X.w H' s'.heap)(hg:AllBare s'.gens)
  (hch:∀ b∈ch,(b∈X.ex∨X.s₀.heap.objs.size≤b)∧b≠X.env.locals∧(∀ x c,X.env.cells.lookup x=some c→c≠b)∧∀ p∈X.pn++aP,p.1≠b):Inv X aP σ H' s':=by
 obtain ⟨h',g',d',t',o'⟩:=s';have e:o'=s.os:=ho;subst e;exact I.call (g':=g') (t':=t') (d':=d') u hok hg hch
end
abbrev XK:=ag→Option ao→Hp→Prop
abbrev St:=List (Option V)
abbrev VK:=V→Hp→Prop
abbrev TE:=St→Hp→VK→Prop
abbrev TT:=St→Hp→(Bool→Hp→Prop)→Prop
abbrev TA:=St→Hp→(List V→Hp→Prop)→Prop
end L2
variable {H H' H1 H2 Hc:L2.Hp}{Hf:L2.Hp→Prop}{X:L2.Cx}{kvs:List (List L2.Key×L2.V)}{o:L2.HO}{r r':L2.V→Option Int→Option Int→L2.Hp→L2.VK→Prop}{t:L2.TA}{ta te tl to:L2.TE}{tget:L2.V→L2.V→L2.Hp→L2.VK→Prop}{trs:List (L2.TE×L2.TE)}{tt:L2.TT}{v y:L2.V}{xs ys zs:List L2.V}{σ:L2.St}
namespace L2
open PySem PySem.Spec PyProof.Rows
structure Ends where
 nx:St→Hp→Prop
 rt:VK
 bk:St→Hp→Prop:=fun _ _=>False
 ct:St→Hp→Prop:=fun _ _=>False
abbrev TS:=Ends→St→Hp→Prop
def EP (X:Cx)(aP:List (ao×Obj))(σ:St)(Q:VK)(u:ag)(s':au):Prop:=∃ v H',Inv X aP σ H' s'∧RelV v u∧Q v H'
def TP (X:Cx)(aP:List (ao×Obj))(σ:St)(Q:Bool→Hp→Prop)(b:Bool)(s':au):Prop:=∃ H',Inv X aP σ H' s'∧Q b H'
def AP (X:Cx)(aP:List (ao×Obj))(σ:St)(Q:List V→Hp→Prop)(us:List ag)(s':au):Prop:=∃ vs H',Inv X aP σ H' s'∧Vals vs us∧Q vs H'
def SP (X:Cx)(aP:List (ao×Obj))(D:Ends)(f:Flow)(s':au):Prop :=
 match f with
 | .next=>∃ σ' H',Inv X aP σ' H' s'∧D.nx σ' H'
 | .brk=>∃ σ' H',Inv X aP σ' H' s'∧D.bk σ' H'
 | .cont=>∃ σ' H',Inv X aP σ' H' s'∧D.ct σ' H'
 | .ret u=>∃ v σ' H',Inv X aP σ' H' s'∧RelV v u∧D.rt v H'
def PE (X:Cx)(e:Expr)(t:TE):Prop :=
 ∀ (aP:List (ao×Obj)) (s:au) (σ:St) (H:Hp) (Q:VK),Inv X aP σ H s→t σ H Q→aW (bz X.prog X.w) X.A (eV e X.env) (EP X aP σ Q) X.xe s
def PT (X:Cx)(e:Expr)(t:TT):Prop :=
 ∀ (aP:List (ao×Obj)) (s:au) (σ:St) (H:Hp) (Q:Bool→Hp→Prop),Inv X aP σ H s→t σ H Q→aW (bz X.prog X.w) X.A (isTrue e X.env (eV e X.env)) (TP X aP σ Q) X.xe s
def PW (X:Cx)(e:Expr)(t:TT):Prop :=
 ∀ (whole:Sem ag) (aP:List (ao×Obj)) (s:au) (σ:St) (H:Hp) (Q:Bool→Hp→Prop),Inv X aP σ H s→t σ H Q→aW (bz X.prog X.w) X.A (isTrue e X.env whole) (TP X aP σ Q) X.xe s
theorem PW.pt {t:TT}(h:PW X e t):PT X e t:=h _
def PA (X:Cx)(es:List Expr)(t:TA):Prop :=
 ∀ (pos:Pos) (aP:List (ao×Obj)) (s:au) (σ:St) (H:Hp) (Q:List V→Hp→Prop),Inv X aP σ H s→t σ H Q→aW (bz X.prog X.w) X.A (spliced (gz pos (bD es X.env))) (AP X aP σ Q) X.xe s
def PS (X:Cx)(st:cV)(t:TS):Prop :=
 ∀ (aP:List (ao×Obj)) (s:au) (σ:St) (H:Hp) (D:Ends),Inv X aP σ H s→t D σ H→aW (bz X.prog X.w) X.A (exec st X.env) (SP X aP D) X.xe s
def PSs (X:Cx)(st:List cV)(t:TS):Prop :=
 ∀ (aP:List (ao×Obj)) (s:au) (σ:St) (H:Hp) (D:Ends),Inv X aP σ H s→t D σ H→aW (bz X.prog X.w) X.A (execs st X.env) (SP X aP D) X.xe s
theorem thn {t:Sem α}{Q Q':α→au→Prop}(h:aW M A t Q E s)(hQ:∀ a s,Q a s→Q' a s):aW M A t Q' E s:=cy h hQ fun _ _ x=>x
section
inductive HasV (o:Option (Option V))(k:V→Prop):Prop
 | mk (v:V)(h:o=some (some v))(q:k v):HasV o k
inductive IsBl (x:V)(k:Bool→Prop):Prop
 | mk (c:Bool)(h:x= .bl c)(q:k c):IsBl x k
def tVar (i:Nat):TE:=fun σ H Q=>HasV σ[i]? fun v=>Q v H
def tC (v:V):TE:=fun _ H Q=>Q v H
theorem pe_var (hN:X.N[i]? =some x)(hv:Vis X.env.scope x)(hd:(x == ("__debug__" :Str))=false:=by decide)(hcd:(x == ("__classdict__" :Str))=false:=by decide):PE X (.Name x pos) (tVar i):=by
 intro aP s σ H Q I h;obtain ⟨v,e,h⟩:=h;obtain ⟨m,hn,hl⟩:=I.loc;obtain ⟨u,r,l⟩:=hl i x v hN e hv;have fin:EP X aP σ Q u s:=⟨v,H,I,r,h⟩
 rcases l with ⟨hk,hm⟩ | ⟨hk,c,hc,iT⟩
 ·exact wpAny_Name (wpAny_loadName_local I.ok.kind hk hn hm fin) hd
 ·rcases hk with hk | hk
  ·exact wpAny_Name (wpAny_loadName_cell I.ok.kind hk hc iT fin) hd
  ·exact wpAny_Name (wpAny_loadName_free I.ok.kind hk hc iT fin hcd) hd
theorem bg {i j pos}:PE X (.Constant (.int i) j pos) (tC (.int i)):=fun _ _ _ H _ I h=>wpAny_Constant_int ⟨.int i,H,I.tok _,⟨_,rfl⟩,h⟩
theorem pe_bl {b j pos}:PE X (.Constant (.bool b) j pos) (tC (.bl b)):=fun _ _ _ H _ I h=>Constant_bool ⟨.bl b,H,I,rfl,h⟩
theorem jL {j pos}:PE X (.Constant .none j pos) (tC .non):=fun _ _ _ H _ I h=>Constant_none ⟨.non,H,I,rfl,h⟩
theorem kA {x j pos}:PE X (.Constant (.str x) j pos) (tC (.str x)):=fun _ _ _ H _ I h=>Calls.Constant_str ⟨.str x,H,I.tok _,⟨_,rfl⟩,h⟩
def Gl (X:Cx)(x:Str):Prop:=X.env.kindOf x=some .globalImplicit
theorem ld_glob (I:Inv X aP σ H s)(hg:Gl X x)(hm:X.mg x=some u)(h:Q u s)
  (hd:(x == ("__debug__" :Str))=false:=by decide):aW (bz X.prog X.w) X.A (eV (.Name x pos) X.env) Q E s :=
 Calls.Name_function_global I.ok.kind hg (Calls.loadGlobal_global (by rw [I.ok.glob];exact I.mod.glob.keeps I.bk) hm h) hd
theorem lV (I:Inv X aP σ H s)(hg:Gl X x)(hm:X.mg x=none)(hv:bootBuiltins x=some u)(h:Q u s)
  (hn:x ≠ "__name__" := by decide) (hd:(x == ("__debug__" :Str))=false:=by decide):aW (bz X.prog X.w) X.A (eV (.Name x pos) X.env) Q E s:=by
 obtain ⟨mb,h1,h2⟩:=I.mod.blt;exact Calls.Name_function_global I.ok.kind hg (Calls.loadGlobal_builtin (by rw [I.ok.glob];exact I.mod.glob.keeps I.bk) hm (by rw [I.ok.blt];exact h1.keeps I.bk) ((h2 x hn).trans hv) h) hd
theorem pe_glob (hg:Gl X x)(hm:X.mg x=some u)(r:RelV v u)(hd:(x == ("__debug__" :Str))=false:=by decide):PE X (.Name x pos) (tC v) :=
 fun _ _ _ H _ I h=>ld_glob I hg hm ⟨v,H,I,r,h⟩ hd
theorem pe_bltn (hg:Gl X x)(hm:X.mg x=none)(hv:bootBuiltins x=some u)(r:RelV v u)(hn:x ≠ "__name__" := by decide)(hd:(x == ("__debug__" :Str))=false:=by decide):PE X (.Name x pos) (tC v) :=
 fun _ _ _ H _ I h=>lV I hg hm hv ⟨v,H,I,r,h⟩ hn hd
variable {a b:Expr}{tb:TE}
def PC (X:Cx)(op:CmpOp)(a b:Expr)(t:TE):Prop :=
 ∀ (aP:List (ao×Obj)) (s:au) (σ:St) (H:Hp) (Q:VK),Inv X aP σ H s→t σ H Q →
  aW (bz X.prog X.w) X.A (eV a X.env) (fun v s₁=>aW (bz X.prog X.w) X.A (eV b X.env) (fun u s₂=>aW (bz X.prog X.w) X.A (fQ op v u) (EP X aP σ Q) X.xe s₂) X.xe s₁) X.xe s
def tB (t:TE):TT:=fun σ H Q=>t σ H fun x H1=>IsBl x fun c=>Q c H1
theorem pt_cmp {t:TE}(h:PC X op a b t)(h1:behindInMarks op b=false:=by first | exact nobehind _ (by decide) (by decide) | rfl):PT X (.Compare a [op] [b] pos) (tB t):=by
 intro aP s σ H Q I hw;refine wpAny_isTrue_Compare1 (thn (h aP s σ H _ I hw) fun v s1 h1=>thn h1 fun u s2 h2=>thn h2 fun c s3 ⟨x,H1,I1,r1,q1⟩=>?_) h1;obtain ⟨d,rfl,q⟩:=q1;cases r1;exact fX ⟨H1,I1,q⟩
theorem kx {t:TE}(h:PE X e t)(he:∀ whole,isTrue e X.env whole=(do let v ← whole;standAt e.pos;holding [v] (truthy v)):=by intro _;rfl):PT X e (tB t):=by
 intro aP s σ H Q I hw;refine isTrue_plain (thn (h aP s σ H _ I hw) fun v s1 ⟨x,H1,I1,r1,q1⟩=>?_) (he _);obtain ⟨d,rfl,q⟩:=q1;cases r1;exact fX ⟨H1,I1,q⟩
variable {tA tB':TT} {rest:List Expr}
def tAnd (t u:TT):TT:=fun σ H Q=>t σ H fun c H1=>if c=true then u σ H1 Q else Q false H1
def tOr (t u:TT):TT:=fun σ H Q=>t σ H fun c H1=>if c=true then Q true H1 else u σ H1 Q
def tNot (t:TT):TT:=fun σ H Q=>t σ H fun c H1=>Q (!c) H1
theorem pw_and1 (ha:PT X a tA):PW X (.BoolOp .And [a] pos) tA:=by
 intro wh aP s σ H Q I h;refine isTrue_and (thn (ha aP s σ H Q I h) fun c s1 e=>?_);cases c with
 | true=>exact isTrue_and_nil e
 | false=>exact e
theorem lT (ha:PT X a tA):PW X (.BoolOp .Or [a] pos) tA:=by
 intro wh aP s σ H Q I h;refine isTrue_or (thn (ha aP s σ H Q I h) fun c s1 e=>?_);cases c with
 | false=>exact isTrue_or_nil e
 | true=>exact e
theorem pw_and (ha:PT X a tA)(hb:PW X (.BoolOp .And (b::rest) pos) tB'):PW X (.BoolOp .And (a::b::rest) pos) (tAnd tA tB'):=by
 intro wh aP s σ H Q I h;refine isTrue_and (thn (ha aP s σ H _ I h) fun c s1 ⟨H1,I1,q1⟩=>?_);cases c with
 | true=>exact hb wh aP s1 σ H1 Q I1 q1
 | false=>exact ⟨H1,I1,q1⟩
theorem mj (ha:PT X a tA)(hb:PW X (.BoolOp .Or (b::rest) pos) tB'):PW X (.BoolOp .Or (a::b::rest) pos) (tOr tA tB'):=by
 intro wh aP s σ H Q I h;refine isTrue_or (thn (ha aP s σ H _ I h) fun c s1 ⟨H1,I1,q1⟩=>?_);cases c with
 | true=>exact ⟨H1,I1,q1⟩
 | false=>exact hb wh aP s1 σ H1 Q I1 q1
theorem ky (ha:PT X a tA):PT X (.UnaryOp .Not a pos) (tNot tA):=by
 intro aP s σ H Q I h;exact isTrue_not (ha aP s σ H (fun c H1=>Q (!c) H1) I h)
def tAndV (ta tb:TE):TE:=fun σ H Q=>ta σ H fun x H1=>IsBl x fun c=>if c=true then tb σ H1 Q else Q (.bl false) H1
def tNotV (ta:TE):TE:=fun σ H Q=>ta σ H fun x H1=>IsBl x fun c=>Q (.bl (!c)) H1
theorem pe_one {op}{t:TE}(h:PE X a t):PE X (.BoolOp op [a] pos) t:=fun aP s σ H Q I hw=>BoolOp_one (h aP s σ H Q I hw)
theorem pe_and (ha:PE X a ta)(hb:PE X (.BoolOp .And (b::rest) pos) tb):PE X (.BoolOp .And (a::b::rest) pos) (tAndV ta tb):=by
 intro aP s σ H Q I h;refine BoolOp_and (thn (ha aP s σ H _ I h) fun v s1 ⟨x,H1,I1,r1,q1⟩=>?_);obtain ⟨c,rfl,q1⟩:=q1;cases r1;refine fX ?_;cases c with
 | true=>exact hb aP s1 σ H1 Q I1 q1
 | false=>exact ⟨.bl false,H1,I1,rfl,q1⟩
theorem pe_not (ha:PE X a ta):PE X (.UnaryOp .Not a pos) (tNotV ta):=by
 intro aP s σ H Q I h;refine UnaryOp_ (thn (ha aP s σ H _ I h) fun v s1 ⟨x,H1,I1,r1,q1⟩=>?_);obtain ⟨c,rfl,q1⟩:=q1;cases r1;exact not_of (fX ⟨.bl (!c),H1,I1,rfl,q1⟩)
def tIf (t:TT)(ta tb:TE):TE:=fun σ H Q=>t σ H fun c H1=>if c=true then ta σ H1 Q else tb σ H1 Q
theorem ma {c:Expr}(hc:PT X c tA)(ha:PE X a ta)(hb:PE X b tb):PE X (.IfExp c a b pos) (tIf tA ta tb):=by
 intro aP s σ H Q I h;refine wpAny_IfExp (thn (hc aP s σ H _ I h) fun d s1 ⟨H1,I1,q1⟩=>?_);cases d with
 | true=>exact ha aP s1 σ H1 Q I1 q1
 | false=>exact hb aP s1 σ H1 Q I1 q1
end
def SqL (K:ak)(H:Hp)(a:ao)(xs:List V):Prop :=
 Rd H a (.lst xs) ∨
  ∃ (o:Obj) (its:Array ag) (n:Nat),K.lookup a=some o∧o.cls= .type "list" ∧o.dict=none∧o.data= .seq its n∧its.size≤bq∧Vals xs its.toList
def SqT (K:ak)(H:Hp)(a:ao)(xs:List V):Prop :=
 Rd H a (.tup xs) ∨
  ∃ (o:Obj) (its:Array ag) (n:Nat),K.lookup a=some o∧o.cls= .type "tuple" ∧o.data= .seq its n∧its.size≤bq∧Vals xs its.toList
def absV:ag→Option V
 | .none=>some .non
 | .bool b=>some (.bl b)
 | .int i _=>some (.int i)
 | .str x _=>some (.str x)
 | .bytes b _=>some (.byt b)
 | .float b _=>some (.flt b)
 | .ref a=>some (.ref a)
 | .type n=>some (.ty n)
 | _=>none
theorem RelV.abs {x:V}(r:RelV x u):absV u=some x:=by
 cases x with
 | non=>cases r;rfl
 | bl _=>cases r;rfl
 | int _=>obtain ⟨t,rfl⟩:=r;rfl
 | str _=>obtain ⟨t,rfl⟩:=r;rfl
 | byt _=>obtain ⟨t,rfl⟩:=r;rfl
 | flt _=>obtain ⟨t,rfl⟩:=r;rfl
 | ref _=>cases r;rfl
 | ty _=>cases r;rfl
theorem RelV.inj {x:V}(r:RelV x u)(q:RelV y u):x=y:=cE (r.abs.symm.trans q.abs)
theorem Vals.inj:∀ {xs ys:List V} {us:List ag},Vals xs us→Vals ys us→xs=ys
 | _,_,_,.nil,.nil=>rfl
 | _,_,_,.cons r t,.cons r' t'=>by rw [r.inj r',Vals.inj t t']
theorem SqL.of (h:H a=some (.lst xs)):SqL K H a xs:= .inl (.inl h)
theorem SqT.of (h:H a=some (.tup xs)):SqT K H a xs:= .inl (.inl h)
theorem Inv.list (I:Inv X aP σ H s)(h:SqL X.K H a xs):∃ its:List ag,Vals xs its∧PlainL s.heap a its.toArray∧xs.length≤bq:=by
 rcases h with h | ⟨o,its,n,hk,hc,hd,hs,hz,r⟩
 ·obtain ⟨z,its,n,r,e⟩:=h.ok I.hok
  exact ⟨its,r,⟨_,n,e,rfl,rfl,rfl⟩,z⟩
 ·refine ⟨its.toList,r,⟨o,n,I.kIn a o hk,hc,hd,by simpa using hs⟩,?_⟩
  have e:=r.length;simp only [cU] at e;lia
theorem Inv.tuple (I:Inv X aP σ H s)(h:SqT X.K H a xs):∃ its:List ag,Vals xs its∧IsTup s.heap a its.toArray∧xs.length≤bq:=by
 rcases h with h | ⟨o,its,n,hk,hc,hs,hz,r⟩
 ·obtain ⟨z,its,r,p⟩:=h.ok I.hok
  exact ⟨its,r,p.tup,z⟩
 ·refine ⟨its.toList,r,⟨o,I.kIn a o hk,hc,n,by simpa using hs⟩,?_⟩
  have e:=r.length;simp only [cU] at e;lia
theorem Inv.list_inj (I:Inv X aP σ H s)(h:SqL X.K H a xs)(h':SqL X.K H a ys):xs=ys:=by
 obtain ⟨its,r,⟨o,n,e,_,_,d⟩,_⟩:=I.list h;obtain ⟨its',r',⟨o',n',e',_,_,d'⟩,_⟩:=I.list h';rw [e] at e';cases e';rw [d] at d';injection d' with d1 _
 have:its=its':=by simpa using rm Array.toList d1
 subst this;exact r.inj r'
theorem Inv.tuple_inj (I:Inv X aP σ H s)(h:SqT X.K H a xs)(h':SqT X.K H a ys):xs=ys:=by
 obtain ⟨its,r,⟨o,e,_,n,d⟩,_⟩:=I.tuple h;obtain ⟨its',r',⟨o',e',_,n',d'⟩,_⟩:=I.tuple h';rw [e] at e';cases e';rw [d] at d';injection d' with d1 _
 have:its=its':=by simpa using rm Array.toList d1
 subst this;exact r.inj r'
abbrev Cx.wish (X:Cx)(E:ag→au→Prop):Cx:={ X with xe:=E }
abbrev Cx.nox (X:Cx):Cx:=X.wish fun _ _=>False
theorem Cx.Ok.wish (ok:X.Ok)(E:ag→au→Prop):(X.wish E).Ok :=
 ⟨ok.mod,ok.kind,ok.glob,ok.blt,ok.above,ok.inj,ok.has,ok.cab,ok.hd,ok.frames,ok.stk,ok.exf,ok.bs,ok.bsz,ok.noex,ok.exfs,ok.funs,ok.frf⟩
theorem Cx.Ok.unwish (ok:(X.wish E).Ok):X.Ok :=
 ⟨ok.mod,ok.kind,ok.glob,ok.blt,ok.above,ok.inj,ok.has,ok.cab,ok.hd,ok.frames,ok.stk,ok.exf,ok.bs,ok.bsz,ok.noex,ok.exfs,ok.funs,ok.frf⟩
theorem Inv.wish (I:Inv X aP σ H s)(E:ag→au→Prop):Inv (X.wish E) aP σ H s:=⟨I.ok.wish E,I.os,I.bare,I.base,I.loc,I.cell,I.free,I.freeC,I.pin,I.hok,I.len⟩
theorem Inv.unwish (I:Inv (X.wish E) aP σ H s):Inv X aP σ H s:=⟨I.ok.unwish,I.os,I.bare,I.base,I.loc,I.cell,I.free,I.freeC,I.pin,I.hok,I.len⟩
theorem SP.unwish {D:Ends}{f:Flow}(h:SP (X.wish E) aP D f s'):SP X aP D f s':=by
 cases f with
 | next=>obtain ⟨σ',H',I,q⟩:=h;exact ⟨σ',H',I.unwish,q⟩
 | brk=>obtain ⟨σ',H',I,q⟩:=h;exact ⟨σ',H',I.unwish,q⟩
 | cont=>obtain ⟨σ',H',I,q⟩:=h;exact ⟨σ',H',I.unwish,q⟩
 | ret u=>obtain ⟨v,σ',H',I,r,q⟩:=h;exact ⟨v,σ',H',I.unwish,r,q⟩
theorem PSs.nox {st:List cV}{t:TS}(h:PSs X.nox st t):PSs X st t:=fun aP s σ H D I hw =>
 cy (h aP s σ H D (I.wish _) hw) (fun _ _ q=>q.unwish) fun _ _ z=>df z
section
variable {rest:List cV}{t u:TS}
def tNext:TS:=fun D σ H=>D.nx σ H
def tSeq (t u:TS):TS:=fun D σ H=>t { D with nx:=u D } σ H
theorem d7:PSs X [] tNext:=fun _ _ σ H _ I h=>wpAny_execs_nil ⟨σ,H,I,h⟩
theorem oW (h1:PS X st t)(h2:PSs X rest u):PSs X (st::rest) (tSeq t u):=by
 intro aP s σ H D I h;refine wpAny_execs_cons (thn (h1 aP s σ H { D with nx:=u D } I h) fun f s1 q=>?_);cases f with
 | next =>
  obtain ⟨σ',H',I',q⟩:=q;exact h2 aP s1 σ' H' D I' q
 | ret v=>exact q
 | brk=>exact q
 | cont=>exact q
theorem cO (h1:PS X st t):PSs X [st] t:=by
 intro aP s σ H D I h;refine wpAny_execs_cons (thn (h1 aP s σ H D I h) fun f s1 q=>?_);cases f with
 | next=>exact wpAny_execs_nil q
 | ret v=>exact q
 | brk=>exact q
 | cont=>exact q
theorem Inv.quiet (I:Inv X aP σ H s):interactive X.env=false:=by simp [interactive,I.ok.kind]
def tDrop (te:TE):TS:=fun D σ H=>te σ H fun _ H1=>D.nx σ H1
theorem ik (he:PE X e te)(hs:swapsWith e none pos.line X.env=fP false:=by rfl):PS X (.Expr e pos) (tDrop te):=by
 intro aP s σ H D I h;exact wpAny_Expr_any (thn (he aP s σ H _ I h) fun v s1 ⟨x,H1,I1,r1,q1⟩=>⟨σ,H1,I1,q1⟩) I.quiet hs
def tRet (te:TE):TS:=fun D σ H=>te σ H D.rt
theorem cx (he:PE X e te):PS X (.Return (some e) pos) (tRet te):=by
 intro aP s σ H D I h;exact wpAny_Return_some (thn (he aP s σ H _ I h) fun v s1 ⟨x,H1,I1,r1,q1⟩=>⟨x,σ,H1,I1,r1,q1⟩)
def tIfS (c:TT)(t u:TS):TS:=fun D σ H=>c σ H fun b H1=>if b=true then t D σ H1 else u D σ H1
theorem gR {c:Expr}{a b:List cV}{tc:TT}(hc:PT X c tc)(ha:PSs X a t)(hb:PSs X b u):PS X (.If c a b pos) (tIfS tc t u):=by
 intro aP s σ H D I h;refine wpAny_If (thn (hc aP s σ H _ I h) fun d s1 ⟨H1,I1,q1⟩=>?_);cases d with
 | true=>exact ha aP s1 σ H1 D I1 q1
 | false=>exact hb aP s1 σ H1 D I1 q1
end
abbrev TG:=V→St→Hp→(St→Hp→Prop)→Prop
abbrev TGs:=List V→St→Hp→(St→Hp→Prop)→Prop
def PG (X:Cx)(target:Expr)(t:TG):Prop :=
 ∀ (aP:List (ao×Obj)) (s:au) (σ:St) (H:Hp) (v:V) (u:ag) (Q:St→Hp→Prop),Inv X aP σ H s→RelV v u→t v σ H Q →
  aW (bz X.prog X.w) X.A (assign target X.env u) (fun _ s'=>∃ σ' H',Inv X aP σ' H' s'∧Q σ' H') X.xe s
def PGs (X:Cx)(ts:List Expr)(t:TGs):Prop :=
 ∀ (aP:List (ao×Obj)) (s:au) (σ:St) (H:Hp) (vs:List V) (us:List ag) (Q:St→Hp→Prop),Inv X aP σ H s→Vals vs us→t vs σ H Q →
  aW (bz X.prog X.w) X.A (assignInOrder ((assignEach ts X.env).map (·.2)) us) (fun _ s'=>∃ σ' H',Inv X aP σ' H' s'∧Q σ' H') X.xe s
abbrev TSet:=V→V→V→Hp→(Hp→Prop)→Prop
def PSet (X:Cx)(t:TSet):Prop :=
 ∀ (aP:List (ao×Obj)) (s:au) (σ:St) (H:Hp) (o i v:V) (ov iv u:ag) (Q:Hp→Prop),Inv X aP σ H s→RelV o ov→RelV i iv→RelV v u→t o i v H Q →
  aW (bz X.prog X.w) X.A (setItem ov iv u) (fun _ s'=>∃ H',Inv X aP σ H' s'∧Q H') X.xe s
abbrev TIp:=V→V→Hp→VK→Prop
def PIp (X:Cx)(op:Operator)(t:TIp):Prop :=
 ∀ (aP:List (ao×Obj)) (s:au) (σ:St) (H:Hp) (x y:V) (v u:ag) (Q:VK),Inv X aP σ H s→RelV x v→RelV y u→t x y H Q →
  aW (bz X.prog X.w) X.A (inplaceOp op v u) (EP X aP σ Q) X.xe s
def oH (i:Nat):TG:=fun v σ H Q=>Q (σ.set i (some v)) H
theorem cY (hN:X.N.Nodup)(hi:X.N[i]? =some x)(hx:Loc X.env.scope x)(hf:X.fn x=true∨X.env.scope.names.lookup x=some .local:=by first | exact .inl rfl | exact .inr rfl | assumption):PG X (.Name x pos) (oH i):=by
 intro aP s σ H v u Q I r h;exact wpAny_assign_Name (store_ok I hN hi hx r (fun s' I'=>⟨_,H,I',h⟩) hf)
def gNil:TGs:=fun vs σ H Q=>vs=[]∧Q σ H
def gCons (t:TG)(u:TGs):TGs:=fun vs σ H Q=>∃ v r,vs=v::r∧t v σ H fun σ' H'=>u r σ' H' Q
theorem k5:PGs X [] gNil:=by
 intro aP s σ H vs us Q I r h;obtain ⟨e,h⟩:=h;subst e;cases r;exact assignInOrder_nil ⟨σ,H,I,h⟩
theorem fJ {t:TG}{u:TGs}(h1:PG X e t)(h2:PGs X es u)
  (hs:(assignEach (e::es) X.env).map (·.2)=assign e X.env::(assignEach es X.env).map (·.2):=by rfl):PGs X (e::es) (gCons t u):=by
 intro aP s σ H vs us Q I r h;obtain ⟨v,vr,e1,h⟩:=h;subst e1;cases r with
 | cons r rr =>
  rw [hs];refine assignInOrder_cons (thn (h1 aP s σ H _ _ _ I r h) fun _ s1 ⟨σ1,H1,I1,q1⟩=>?_);exact h2 aP s1 σ1 H1 _ _ Q I1 rr q1
def gTup (K:ak)(n:Nat)(t:TGs):TG:=fun v σ H Q=>∃ a xs,v= .ref a∧SqT K H a xs∧xs.length=n∧t xs σ H Q
theorem ng {k:Nat}{t:TGs}(hc:X.calm=true)(h:PGs X es t)
  (hn:(assignEach es X.env).length=n:=by rfl) (hst:(assignEach es X.env).findIdx? (·.1)=none:=by rfl):PG X (.Tuple es k pos) (gTup X.K n t):=by
 intro aP s σ H v u Q I r hw;obtain ⟨a,xs,e1,hq,hl,hw⟩:=hw;subst e1;cases r;obtain ⟨its,rv,ht,hz⟩:=I.tuple hq;refine assign_Tuple_tuple (I.ok.hd hc) ht (by simp [hn,←hl,rv.length]) hst fun h' hx=>?_
 have I1:Inv X aP σ H { s with heap:=h' }:=I.kept (t':=s.toks) fun b o e=>hx b o (bM (aO e)) e
 exact h aP _ σ H xs _ Q I1 (by simpa using rv) hw
def gSub (to ti:TE)(t:TSet):TG:=fun v σ H Q=>to σ H fun o H1=>ti σ H1 fun i H2=>t o i v H2 fun H3=>Q σ H3
theorem pg_sub {o i:Expr}{ti:TE}{t:TSet}(ho:PE X o to)(hi:PE X i ti)(hs:PSet X t)
  (ha:∀ v,assign (.Subscript o i pos) X.env v=(do
   let ov ← holding [v] (eV o X.env)
   let iv ← holding [v,ov] (eV i X.env)
   standAt pos
   holding [v,ov,iv] (setItem ov iv v)
   release [v,ov,iv] []):=by intro _;rfl):PG X (.Subscript o i pos) (gSub to ti t):=by
 intro aP s σ H v u Q I r h;rw [ha];refine ah (dZ (thn (ho aP s σ H _ I h) fun ov s1 ⟨x,H1,I1,r1,q1⟩=>?_));refine ah (dZ (thn (hi aP s1 σ H1 _ I1 q1) fun iv s2 ⟨y,H2,I2,r2,q2⟩=>?_));refine ah (wpAny_standAt (ah (dZ (thn (hs aP s2 σ H2 x y v ov iv u _ I2 r1 r2 r q2) fun _ s3 ⟨H3,I3,q3⟩=>?_))));exact wpAny_release ⟨σ,H3,I3,q3⟩
def tAsg (te:TE)(g:TG):TS:=fun D σ H=>te σ H fun x H1=>g x σ H1 D.nx
theorem om {g:TG}(he:PE X e te)(hg:PG X tg g)(hs:swapsWithSole [tg] e pos.line X.env=fP false:=by rfl)(hw:swappedStores [tg] e X.env=fP none:=by rfl)
  (h1:(assignEach [tg] X.env).map (·.2)=[assign tg X.env]:=by rfl):PS X (.Assign [tg] e pos) (tAsg te g):=by
 intro aP s σ H D I h;refine wpAny_Assign_stores (thn (he aP s σ H _ I h) fun v s1 ⟨x,H1,I1,r1,q1⟩=>?_) hs hw;rw [h1];exact thn (hg aP s1 σ H1 x v _ I1 r1 q1) fun _ s2 q=>q
theorem bC (hN:X.N.Nodup)(hi:X.N[i]? =some x)(hx:Loc X.env.scope x)(he:PE X e te)(hs:swapsWith e (some (.Name x pos')) pos.line X.env=fP false:=by rfl)(hf:X.fn x=true∨X.env.scope.names.lookup x=some .local:=by first | exact .inl rfl | exact .inr rfl | assumption) :
  PS X (.Assign [.Name x pos'] e pos) (tAsg te (oH i)):=by
 intro aP s σ H D I h;refine wpAny_Assign_Name (thn (he aP s σ H _ I h) fun v s1 ⟨y,H1,I1,r1,q1⟩=>?_) hs;exact store_ok I1 hN hi hx r1 (fun s2 I2=>⟨_,H1,I2,q1⟩) hf
def tAug (i:Nat)(te:TE)(ti:TIp):TS:=fun D σ H=>∃ x,σ[i]? =some (some x)∧te σ H fun y H1=>ti x y H1 fun z H2=>D.nx (σ.set i (some z)) H2
theorem pT {op:Operator}{ti:TIp}(hN:X.N.Nodup)(hi:X.N[i]? =some x)(hx:Loc X.env.scope x)(he:PE X e te)(ho:PIp X op ti)(hf:X.fn x=true∨X.env.scope.names.lookup x=some .local:=by first | exact .inl rfl | exact .inr rfl | assumption) :
  PS X (.AugAssign (.Name x pos') op e pos) (tAug i te ti):=by
 intro aP s σ H D I h;obtain ⟨v,e1,h⟩:=h;obtain ⟨m,hn,hl⟩:=I.loc;have vis:Vis X.env.scope x:=by rcases hx with k | k;exact .inl k;exact .inr (.inl k)
 obtain ⟨u,r,l⟩:=hl i x v hi e1 vis;refine wpAny_AugAssign_Name ?_;have go:aW (bz X.prog X.w) X.A (eV e X.env) (fun w s₂=>aW (bz X.prog X.w) X.A (inplaceOp op u w) (fun r s₃=>aW (bz X.prog X.w) X.A (storeName X.env x r) (fun _=>SP X aP D .next) X.xe s₃) X.xe s₂) X.xe s:=by
  refine thn (he aP s σ H _ I h) fun w s1 ⟨y,H1,I1,r1,q1⟩=>?_
  refine thn (ho aP s1 σ H1 v y u w _ I1 r r1 q1) fun z s2 ⟨zv,H2,I2,r2,q2⟩=>?_
  exact store_ok I2 hN hi hx r2 (fun s3 I3=>⟨_,H2,I3,q2⟩) hf
 rcases l with ⟨hk,hm⟩ | ⟨hk,c,hc,iT⟩
 ·exact wpAny_loadName_local I.ok.kind hk hn hm go
 ·rcases hk with hk | hk
  ·exact wpAny_loadName_cell I.ok.kind hk hc iT go
  ·rcases hx with k | k
   ·have:X.env.scope.names.lookup x=some .free:=hk
    rw [k] at this;cases this
   ·have:X.env.scope.names.lookup x=some .free:=hk
    rw [k] at this;cases this
def tAugS (to ti te:TE)(tget:V→V→Hp→VK→Prop)(tip:TIp)(tset:TSet):TS:=fun D σ H=>to σ H fun o H1=>ti σ H1 fun i H2=>tget o i H2 fun x H3=>te σ H3 fun y H4=>tip x y H4 fun z H5=>tset o i z H5 fun H6=>D.nx σ H6
def PGet (X:Cx)(t:V→V→Hp→VK→Prop):Prop :=
 ∀ (aP:List (ao×Obj)) (s:au) (σ:St) (H:Hp) (o i:V) (ov iv:ag) (Q:VK),Inv X aP σ H s→RelV o ov→RelV i iv→t o i H Q →
  aW (bz X.prog X.w) X.A (i8 ov iv) (EP X aP σ Q) X.xe s
theorem ps_augS {o i:Expr}{ti:TE}{tip:TIp}{tset:TSet}{op:Operator}(ho:PE X o to)(hi:PE X i ti)(hg:PGet X tget)(he:PE X e te)(hp:PIp X op tip)(hs:PSet X tset)
  (ha:∀ ov iv new,augStore i ov iv new=(do holding [new,ov,iv] (setItem ov iv new);release [new,ov,iv] [];fP .next):=by intros;rfl):PS X (.AugAssign (.Subscript o i tpos) op e pos) (tAugS to ti te tget tip tset):=by
 intro aP s σ H D I h;refine wpAny_AugAssign_SubscriptAny (thn (ho aP s σ H _ I h) fun ov s1 ⟨x1,H1,I1,r1,q1⟩=>?_) ha;refine thn (hi aP s1 σ H1 _ I1 q1) fun iv s2 ⟨x2,H2,I2,r2,q2⟩=>?_
 refine thn (hg aP s2 σ H2 x1 x2 ov iv _ I2 r1 r2 q2) fun old s3 ⟨x3,H3,I3,r3,q3⟩=>?_
 refine thn (he aP s3 σ H3 _ I3 q3) fun v s4 ⟨x4,H4,I4,r4,q4⟩=>?_
 refine thn (hp aP s4 σ H4 x3 x4 old v _ I4 r3 r4 q4) fun new s5 ⟨x5,H5,I5,r5,q5⟩=>?_
 exact thn (hs aP s5 σ H5 x1 x2 x5 ov iv new _ I5 r1 r2 r5 q5) fun _ s6 ⟨H6,I6,q6⟩=>⟨σ,H6,I6,q6⟩
def ipI (f:Int→Int→Int):TIp:=fun x y H Q=>∃ i j,x= .int i∧y= .int j∧Q (.int (f i j)) H
theorem ip_add:PIp X .Add (ipI fun i j=>i+j):=by
 intro aP s σ H x y v u Q I r1 r2 h;obtain ⟨i,j,e1,e2,q⟩:=h;subst e1;subst e2;obtain ⟨t,rfl⟩:=r1;obtain ⟨t',rfl⟩:=r2;exact iadd_int ⟨.int _,H,I.tok _,⟨_,rfl⟩,q⟩
theorem ip_sub:PIp X .Sub (ipI fun i j=>i - j):=by
 intro aP s σ H x y v u Q I r1 r2 h;obtain ⟨i,j,e1,e2,q⟩:=h;subst e1;subst e2;obtain ⟨t,rfl⟩:=r1;obtain ⟨t',rfl⟩:=r2;exact isub_int ⟨.int _,H,I.tok _,⟨_,rfl⟩,q⟩
def tWhile (c:TT)(tb:TS):TS:=fun D σ H=>∃ W:Nat→St→Hp→Prop,(∃ m,W m σ H)∧∀ m σ H,W m σ H →
 c σ H fun b H1=>if b=true then ∃ N:St→Hp→Prop,(∀ σ' H',N σ' H'→∃ m',m'<m∧W m' σ' H')∧tb { D with nx:=N,ct:=N,bk:=D.nx } σ H1 else D.nx σ H1
theorem oX {c:Expr}{body:List cV}{tc:TT}{tb:TS}(hp:PassesOwn (bz X.prog X.w) X.A X.env X.xe)(hc:PT X c tc)(hb:PSs X body tb):PS X (.While c body [] pos) (tWhile tc tb):=by
 intro aP s σ H D I h;obtain ⟨W,⟨m0,w0⟩,turn⟩:=h;refine wpAny_While (codeAny_whileLoop (fun n s'=>∃ σ' H',Inv X aP σ' H' s'∧W n σ' H') ?_ m0 ⟨σ,H,I,w0⟩);rintro n s1 ⟨σ1,H1,I1,w1⟩;refine iF hp (thn (hc aP s1 σ1 H1 _ I1 (turn n σ1 H1 w1)) fun b s2 ⟨H2,I2,q2⟩=>?_);cases b with
 | true =>
  obtain ⟨N,hN,q2⟩:=q2;rw [q9 rfl];refine iF hp (thn (hb aP s2 σ1 H2 _ I2 q2) fun f s3 q3=>?_);cases f with
  | next =>
   obtain ⟨σ3,H3,I3,n3⟩:=q3;obtain ⟨m',hm,w3⟩:=hN σ3 H3 n3;exact ⟨m',hm,σ3,H3,I3,w3⟩
  | cont =>
   obtain ⟨σ3,H3,I3,n3⟩:=q3;obtain ⟨m',hm,w3⟩:=hN σ3 H3 n3;exact ⟨m',hm,σ3,H3,I3,w3⟩
  | brk=>exact q3
  | ret v=>exact q3
 | false =>
  rw [qZ aV];exact wpAny_execs_nil ⟨σ1,H2,I2,q2⟩
structure It where
 go:Nat→Hp→Prop
 yld:Nat→Hp→V→Hp→Prop
 stop:Nat→Hp→Prop
def FpOk (X:Cx)(aP:List (ao×Obj))(H:Hp)(b:ao):Prop :=
 H b=none∧b≠X.env.locals∧b ∉ X.fs∧(b∈X.ex∨X.s₀.heap.objs.size≤b)∧(∀ x c,X.env.cells.lookup x=some c→c≠b)∧∀ p∈X.pn++aP,p.1≠b
theorem Inv.fpOk {b:ao}(I:Inv X aP σ H s)(hb:s.heap.objs.size≤b)(hn:H' b=none):FpOk X aP H' b:=by
 refine ⟨hn,dA (aR I.lt hb),I.nofs hb,.inr (bo I.sz hb),fun x c e z=>?_,fun p hp z=>?_⟩
 ·obtain ⟨v,q⟩:=I.cell x c e
  exact rd (aR q.lt (by rw [z];exact hb)) (gg _)
 ·exact rd (aR (aO (I.pin p hp).1) (by rw [z];exact hb)) (gg _)
structure Turn (P:aY)(w:bE)(K:ak)(tg:Expr)(J:It)(fp:List ao)(it:ao)(tn:Nat→bK→Prop):Prop where
 mem:it∈fp
 obj:∀ i h,tn i h→∀ b∈fp,∃ o,h.get? b=some o∧∀ v,o.data≠ .cell v
 keep:∀ i h h',tn i h→(∀ b∈fp,∀ o,h.get? b=some o→h'.get? b=some o)→tn i h'
 item:∀ (X:Cx),X.prog=P→X.w=w→X.K=K→X.calm=true→∀ (i:Nat) (aP:List (ao×Obj)) (s:au) (σ:St) (H:Hp) (E:ag→au→Prop),Inv X aP σ H s→(∀ b∈fp,FpOk X aP H b)→tn i s.heap→J.go i H →
  aW (bz P w) X.A (pyNext (.ref it)) (fun r s1=>∃ u,r=some u ∧
   aW (bz P w) X.A (letOwnedTupleGo tg (.ref it) u) (fun _ s2=>∃ x H',Inv X aP σ H' s2∧RelV x u∧J.yld i H x H'∧tn (i+1) s2.heap∧∀ b∈fp,H' b=none) E s1) E s
 done:∀ (X:Cx),X.prog=P→X.w=w→X.K=K→X.calm=true→∀ (i:Nat) (aP:List (ao×Obj)) (s:au) (σ:St) (H:Hp) (E:ag→au→Prop),Inv X aP σ H s→(∀ b∈fp,FpOk X aP H b)→tn i s.heap→J.stop i H →
  aW (bz P w) X.A (pyNext (.ref it)) (fun r s1=>r=none∧Inv X aP σ H s1) E s
 self:∀ (A:bW) (i:Nat) (s:au) (Q:ag→au→Prop) (E:ag→au→Prop),tn i s.heap→Q (.ref it) s→aW (bz P w) A (pyIter (.ref it)) Q E s
abbrev TI:=St→Hp→(It→Hp→Prop)→Prop
def PIE (X:Cx)(aP:List (ao×Obj))(σ:St)(tg:Expr)(R:It→Hp→Prop)(itv:ag)(s2:au):Prop :=
 ∃ (it:ao) (fp:List ao) (tn:Nat→bK→Prop) (J:It) (H':Hp),itv= .ref it∧Inv X aP σ H' s2∧Turn X.prog X.w X.K tg J fp it tn∧tn 0 s2.heap∧(∀ b∈fp,FpOk X aP H' b)∧R J H'
def PI (X:Cx)(tg iter:Expr)(wi:TI):Prop :=
 ∀ (aP:List (ao×Obj)) (s:au) (σ:St) (H:Hp) (R:It→Hp→Prop),Inv X aP σ H s→wi σ H R →
  aW (bz X.prog X.w) X.A (eV iter X.env) (fun v s1=>aW (bz X.prog X.w) X.A (pyIter v) (PIE X aP σ tg R) X.xe s1) X.xe s
theorem go_of {it:ao}{o:Obj}{n:String}{vs:Array ag}{Q:Unit→au→Prop}(ho:s.heap.get? it=some o)(hc:o.cls= .type n)(hd:o.data= .fields vs)
  (hn:["enumerate","zip","dict_itemiterator","dict_reverseitemiterator","odict_iterator","itertools.zip_longest","itertools.pairwise"].contains n=false) (hQ:Q () s):aW M A (letOwnedTupleGo tg (.ref it) u) Q E s:=by
 unfold letOwnedTupleGo;cases tg <;> first
  | exact aL hQ
  | (cases u <;> first
    | exact aL hQ
    | (refine ah (wpAny_load ho ?_)
       rw [hc,hd];show aW M A (if (["enumerate","zip","dict_itemiterator","dict_reverseitemiterator","odict_iterator","itertools.zip_longest","itertools.pairwise"].contains n && vs[0]? == some (rawInt _))=true then _ else _) Q E s;rw [qZ (by intro h;rw [hn,Bool.false_and] at h;cases h)];exact aL hQ))
def Itl (K:ak)(a:ao):It :=
 ⟨fun i H=>∃ xs x,SqL K H a xs∧xs[i]? =some x,fun i H x H'=>H'=H∧∀ xs,SqL K H a xs→xs[i]? =some x,fun i H=>∃ xs,SqL K H a xs∧xs.length≤i⟩
def Itt (K:ak)(a:ao):It :=
 ⟨fun i H=>∃ xs x,SqT K H a xs∧xs[i]? =some x,fun i H x H'=>H'=H∧∀ xs,SqT K H a xs→xs[i]? =some x,fun i H=>∃ xs,SqT K H a xs∧xs.length≤i⟩
def Itr (lo:Int)(n:Nat):It:=⟨fun i _=>i<n,fun i H x H'=>H'=H∧x= .int (lo+i),fun i _=>n≤i⟩
theorem turn_list (a it:ao):Turn P w K tg (Itl K a) [it] it (fun i h=>h.IsListIter it a i) where
 mem:=by simp
 obj:=fun i h st b hb=>by
  have e:b=it:=by simpa using hb
  subst e;obtain ⟨o,e,c,d⟩:=st;exact ⟨o,e,fun v z=>by rw [d] at z;cases z⟩
 keep:=fun i h h' st k=>st.at fun o e=>k it (by simp) o e
 item:=by
  intro X hP hw hK hc i aP s σ H E I hf st hg;subst hP hw hK;obtain ⟨xs,x,hq,hx⟩:=hg;obtain ⟨its,rv,p,hz⟩:=I.list hq;obtain ⟨u,hu,ru⟩:=rv.get hx;obtain ⟨f0,f1,f2,f3,f4,f5⟩:=hf it (by simp);refine wpAny_pyNext_list_item st p.isList (x:=u) (by simpa using hu) fun h' st' sb=>?_
  have I1:Inv X aP σ H { s with heap:=h' }:=I.turned (t':=s.toks) (fun b o hb e=>(sb.2 b hb).trans e) f0 f1 f3 f4 f5;obtain ⟨o,e,c,d⟩:=id st';exact ⟨u,rfl,go_of (s:={ s with heap:=h' }) e c d (by decide) ⟨x,H,I1,ru,⟨rfl,fun ys hy=>by rw [I.list_inj hy hq];exact hx⟩,st',fun b hb=>(hf b hb).1⟩⟩
 done:=by
  intro X hP hw hK hc i aP s σ H E I hf st hg;subst hP hw hK;obtain ⟨xs,hq,hx⟩:=hg;obtain ⟨its,rv,p,hz⟩:=I.list hq;obtain ⟨f0,f1,f2,f3,f4,f5⟩:=hf it (by simp);have hl:=rv.length;exact wpAny_pyNext_list_end (I.ok.hd hc) st p.isList (by simp;lia) fun h' eb=>⟨rfl,I.turned (t':=s.toks) (fun b o hb e=>eb b o hb e) f0 f1 f3 f4 f5⟩
 self:=fun _ _ _ _ _ st h=>wpAny_pyIter_listiter st h
theorem turn_tuple (a it:ao):Turn P w K tg (Itt K a) [it] it (fun i h=>h.IsTupleIter it a i) where
 mem:=by simp
 obj:=fun i h st b hb=>by
  have e:b=it:=by simpa using hb
  subst e;obtain ⟨o,e,c,d⟩:=st;exact ⟨o,e,fun v z=>by rw [d] at z;cases z⟩
 keep:=fun i h h' st k=>st.at fun o e=>k it (by simp) o e
 item:=by
  intro X hP hw hK hc i aP s σ H E I hf st hg;subst hP hw hK;obtain ⟨xs,x,hq,hx⟩:=hg;obtain ⟨its,rv,p,hz⟩:=I.tuple hq;obtain ⟨u,hu,ru⟩:=rv.get hx;obtain ⟨f0,f1,f2,f3,f4,f5⟩:=hf it (by simp);refine wpAny_pyNext_tuple_item st (show s.heap.IsTuple a its.toArray from p) (x:=u) (by simpa using hu) fun h' st' sb=>?_
  have I1:Inv X aP σ H { s with heap:=h' }:=I.turned (t':=s.toks) (fun b o hb e=>(sb.2 b hb).trans e) f0 f1 f3 f4 f5;obtain ⟨o,e,c,d⟩:=id st';exact ⟨u,rfl,go_of (s:={ s with heap:=h' }) e c d (by decide) ⟨x,H,I1,ru,⟨rfl,fun ys hy=>by rw [I.tuple_inj hy hq];exact hx⟩,st',fun b hb=>(hf b hb).1⟩⟩
 done:=by
  intro X hP hw hK hc i aP s σ H E I hf st hg;subst hP hw hK;obtain ⟨xs,hq,hx⟩:=hg;obtain ⟨its,rv,p,hz⟩:=I.tuple hq;obtain ⟨f0,f1,f2,f3,f4,f5⟩:=hf it (by simp);have hl:=rv.length;exact wpAny_pyNext_tuple_end (I.ok.hd hc) st (show s.heap.IsTuple a its.toArray from p) (by simp;lia) fun h' eb=>⟨rfl,I.turned (t':=s.toks) (fun b o hb e=>eb b o hb e) f0 f1 f3 f4 f5⟩
 self:=fun _ _ _ _ _ st h=>wpAny_pyIter_tupleiter st h
theorem turn_range (it:ao)(lo:Int)(n:Nat):Turn P w K tg (Itr lo n) [it] it (fun i h=>IsRangeIter h it (lo+(i:Nat) * 1) ((n:Int) - (i:Nat)) 1) where
 mem:=by simp
 obj:=fun i h st b hb=>by
  have e:b=it:=by simpa using hb
  subst e;exact ⟨_,st,fun v z=>by
   have z':Data.fields _=Data.cell v:=z;cases z'⟩
 keep:=fun i h h' st k=>k it (by simp) _ st
 item:=by
  intro X hP hw hK hc i aP s σ H E I hf st hg;subst hP hw hK;obtain ⟨f0,f1,f2,f3,f4,f5⟩:=hf it (by simp);have W:=Walks.range (prog:=X.prog) (w:=X.w) (I.ok.hd hc) it lo 1 n;refine W.item i s _ _ hg st fun v h' tk hv st' kk=>?_
  obtain ⟨t,rfl⟩:=hv;have I1:Inv X aP σ H { s with heap:=h',toks:=tk }:=I.turned (fun b o hb e=>kk b o (by simpa using hb) e) f0 f1 f3 f4 f5;refine ⟨_,rfl,go_of (s:={ s with heap:=h',toks:=tk }) (n := "range_iterator") st' rfl rfl (by decide) ⟨.int (lo+i),H,I1,⟨t,?_⟩,⟨rfl,rfl⟩,st',fun b hb=>(hf b hb).1⟩⟩;rw [Int.mul_one]
 done:=by
  intro X hP hw hK hc i aP s σ H E I hf st hg;subst hP hw hK;obtain ⟨f0,f1,f2,f3,f4,f5⟩:=hf it (by simp);exact wpAny_pyNext_range_end (I.ok.hd hc) st (by have:n≤i:=hg;lia) fun h' eb=>⟨rfl,I.turned (t':=s.toks) (fun b o hb e=>eb b o hb e) f0 f1 f3 f4 f5⟩
 self:=fun _ _ _ _ _ st h=>wpAny_pyIter_rangeiter st h
def iList (K:ak)(tl:TE):TI:=fun σ H R=>tl σ H fun x H1=>∃ a,x= .ref a∧(∃ xs,SqL K H1 a xs)∧R (Itl K a) H1
def iTup (K:ak)(tl:TE):TI:=fun σ H R=>tl σ H fun x H1=>∃ a,x= .ref a∧(∃ xs,SqT K H1 a xs)∧R (Itt K a) H1
theorem jk {l:Expr}(hl:PE X l tl):PI X tg l (iList X.K tl):=by
 intro aP s σ H R I h;refine thn (hl aP s σ H _ I h) fun v s1 ⟨x,H1,I1,r1,q1⟩=>?_
 obtain ⟨a,e,⟨xs,hq⟩,q⟩:=q1;subst e;cases r1;obtain ⟨its,rv,p,hz⟩:=I1.list hq;refine wpAny_pyIter_list p.isList ?_;refine ⟨s1.heap.objs.size,[s1.heap.objs.size],_,_,H1,rfl,I1.kept (t':=s1.toks) fun b o e=>ar _ e,turn_list a _,⟨_,aZ _ rfl,rfl,rfl⟩,fun b hb=>?_,q⟩;have e:b=s1.heap.objs.size:=by simpa using hb
 subst e;exact I1.fpOk (aC _) (I1.hok.fresh (aC _))
theorem j8 {l:Expr}(hl:PE X l tl):PI X tg l (iTup X.K tl):=by
 intro aP s σ H R I h;refine thn (hl aP s σ H _ I h) fun v s1 ⟨x,H1,I1,r1,q1⟩=>?_
 obtain ⟨a,e,⟨xs,hq⟩,q⟩:=q1;subst e;cases r1;obtain ⟨its,rv,p,hz⟩:=I1.tuple hq;refine wpAny_pyIter_tuple (show s1.heap.IsTuple a its.toArray from p) ?_;refine ⟨s1.heap.objs.size,[s1.heap.objs.size],_,_,H1,rfl,I1.kept (t':=s1.toks) fun b o e=>ar _ e,turn_tuple a _,⟨_,aZ _ rfl,rfl,rfl⟩,fun b hb=>?_,q⟩;have e:b=s1.heap.objs.size:=by simpa using hb
 subst e;exact I1.fpOk (aC _) (I1.hok.fresh (aC _))
theorem range_it {R:It→Hp→Prop}{hi:Int}{t u v:Tok}{tk:Nat}(I:Inv X aP σ H s)(h1: -(2 ^ 62)≤lo)(h2:lo<2 ^ 62)(h3: -(2 ^ 62)≤hi)(h4:hi<2 ^ 62)
  (q:R (Itr lo (hi - lo).toNat) H):aW (bz X.prog X.w) X.A (pyIter (.ref s.heap.objs.size)) (PIE X aP σ tg R) E { s with heap:=s.heap.push { cls:= .type "range",data:= .fields #[.int lo t,.int hi u,.int 1 v] },toks:=tk }:=by
 refine wpAny_pyIter_range (IsRange.new ..) (small_one h1 h2 h3 h4) ?_;have I1:Inv X aP σ H { s with heap:=s.heap.push { cls:= .type "range",data:= .fields #[.int lo t,.int hi u,.int 1 v] },toks:=tk }:=I.kept fun b o e=>ar _ e
 refine ⟨(s.heap.push { cls:= .type "range",data:= .fields #[.int lo t,.int hi u,.int 1 v] }).objs.size,[(s.heap.push { cls:= .type "range",data:= .fields #[.int lo t,.int hi u,.int 1 v] }).objs.size],_,_,H,rfl,
  I1.kept (t':=tk) fun b o e=>ar _ e,turn_range _ lo (hi - lo).toNat,?_,fun b hb=>?_,q⟩
 ·have e1:lo+((0:Nat):Int) * 1=lo:=by simp
  have e2:(((hi - lo).toNat:Nat):Int) - ((0:Nat):Int)=eO lo hi 1:=by rw [rangeSize_one];split <;> lia
  show IsRangeIter _ _ (lo+((0:Nat):Int) * 1) ((((hi - lo).toNat:Nat):Int) - ((0:Nat):Int)) 1;rw [e1,e2];exact aZ _ rfl
 ·have e:b=(s.heap.push { cls:= .type "range",data:= .fields #[.int lo t,.int hi u,.int 1 v] }).objs.size:=by simpa using hb
  subst e;exact I1.fpOk (aC _) (I1.hok.fresh (aC _))
def iRng1 (ta:TA):TI:=fun σ H R=>ta σ H fun vs H1=>∃ j:Int,vs=[.int j]∧ -(2 ^ 62)≤j∧j<2 ^ 62∧R (Itr 0 j.toNat) H1
def iRng2 (ta:TA):TI:=fun σ H R=>ta σ H fun vs H1=>∃ i j:Int,vs=[.int i,.int j]∧(-(2 ^ 62)≤i∧i<2 ^ 62∧ -(2 ^ 62)≤j∧j<2 ^ 62)∧R (Itr i (j - i).toNat) H1
theorem iJ {a:Expr}{ta:TA}{p:Pos}(hg:Gl X "range")(hm:X.mg "range" =none)(ha:PA X [a] ta)(hs:bD [a] X.env=[(false,eV a X.env)]:=by rfl):PI X tg (.Call (.Name "range" p) [a] [] pos) (iRng1 ta):=by
 intro aP s σ H R I h;refine Call_ (lV I hg hm boot_range (eS (thn (ha pos aP s σ H _ I h) fun us s1 ⟨vs,H1,I1,r1,q1⟩=>?_) hs rfl));obtain ⟨j,e,q1,q2,q⟩:=q1;subst e;cases r1 with
 | cons r rr =>
  cases rr;obtain ⟨t,rfl⟩:=r;exact call_range_1 (range_it I1 (by lia) (by lia) q1 q2 (by simpa using q))
theorem pi_range2 {a b:Expr}{ta:TA}{p:Pos}(hg:Gl X "range")(hm:X.mg "range" =none)(ha:PA X [a,b] ta)(hs:bD [a,b] X.env=[(false,eV a X.env),(false,eV b X.env)]:=by rfl)(hs2:bD [b] X.env=[(false,eV b X.env)]:=by rfl) :
  PI X tg (.Call (.Name "range" p) [a,b] [] pos) (iRng2 ta):=by
 intro aP s σ H R I h;refine Call_ (lV I hg hm boot_range (eS (thn (ha pos aP s σ H _ I h) fun us s1 ⟨vs,H1,I1,r1,q1⟩=>?_) (by rw [hs,hs2]) (by rw [hs2];rfl)));obtain ⟨i,j,e,⟨q1,q2,q3,q4⟩,q⟩:=q1;subst e;cases r1 with
 | cons r rr =>
  cases rr with
  | cons r' rr =>
   cases rr;obtain ⟨t,rfl⟩:=r;obtain ⟨t',rfl⟩:=r';exact call_range_2 (range_it I1 q1 q2 q3 q4 q)
def tFor (wi:TI)(g:TG)(tb:TS):TS:=fun D σ H=>wi σ H fun J H1=>∃ W:Nat→Nat→St→Hp→Prop,(∃ m,W 0 m σ H1)∧∀ i m σ H,W i m σ H →
 (J.stop i H∧D.nx σ H)∨(J.go i H∧∃ N:St→Hp→Prop,(∀ σ' H',N σ' H'→∃ m',m'<m∧W (i+1) m' σ' H')∧∀ x H',J.yld i H x H'→g x σ H' fun σ2 H2=>tb { D with nx:=N,ct:=N,bk:=D.nx } σ2 H2)
def pinsAt (fp:List ao)(h:bK):List (ao×Obj):=fp.filterMap fun b=>(h.get? b).map fun o=>(b,o)
theorem md {b:ao}{o:Obj}(hb:b∈fp)(e:h.get? b=some o):(b,o)∈pinsAt fp h:=List.mem_filterMap.mpr ⟨b,hb,by rw [e];rfl⟩
theorem of_pinsAt {p:ao×Obj}(hp:p∈pinsAt fp h):p.1∈fp∧h.get? p.1=some p.2:=by
 obtain ⟨b,hb,e⟩:=List.mem_filterMap.mp hp;cases q:h.get? b with
 | none=>rw [q] at e;cases e
 | some o =>
  rw [q] at e;have e':(b,o)=p:=cE e;subst e';exact ⟨hb,q⟩
theorem Inv.pinned (I:Inv X aP σ H s)(hf:∀ b∈fp,FpOk X aP H b)(ho:∀ b∈fp,∃ o,s.heap.get? b=some o∧∀ v,o.data≠ .cell v):Inv X (aP++pinsAt fp s.heap) σ H s :=
 I.pins_of fun p hp=>(aN.mp hp).elim (fun z=>I.pin p (aA _ z)) fun z=>by
  obtain ⟨hb,e⟩:=of_pinsAt z;obtain ⟨f0,f1,f2,_⟩:=hf p.1 hb;obtain ⟨o,e',d⟩:=ho p.1 hb;rw [e] at e';cases e';exact ⟨e,f0,f1,f2,d⟩
theorem Inv.unpinned {pl:List (ao×Obj)}(I:Inv X (aP++pl) σ H s):Inv X aP σ H s:=I.pins_of fun p hp=>I.pin p (aA _ (aM _ hp))
theorem iC {body:List cV}{wi:TI}{g:TG}{tb:TS}(hp:PassesOwn (bz X.prog X.w) X.A X.env X.xe)(hc:X.calm=true)(hi:PI X tg iter wi)(hg:PG X tg g)(hb:PSs X body tb)
  (hs:∀ x,gU iter X.env x=fP x:=by intro _;rfl):PS X (.For tg iter body [] pos) (tFor wi g tb):=by
 intro aP s σ H D I h;refine wpAny_For (thn (hi aP s σ H _ I h) fun v s1 h1=>thn h1 fun itv s2 h2=>?_) hs;obtain ⟨it,fp,tn,J,H2,e,I2,T,st2,f2,W,⟨m0,w0⟩,turn⟩:=h2;subst e;have stat:∀ {H':Hp},(∀ b∈fp,H' b=none)→∀ b∈fp,FpOk X aP H' b:=fun hn b hb=>⟨hn b hb,(f2 b hb).2⟩
 refine codeAny_forLoop_any (fun n s'=>∃ i σ' H',Inv X aP σ' H' s'∧tn i s'.heap∧(∀ b∈fp,H' b=none)∧W i n σ' H') ?_ m0 ⟨0,σ,H2,I2,st2,fun b hb=>(f2 b hb).1,w0⟩;rintro n s3 ⟨i,σ3,H3,I3,st3,fr3,w3⟩
 rcases turn i n σ3 H3 w3 with ⟨stop,qn⟩ | ⟨go,N,hN,step⟩
 ·refine iF hp (thn (T.done X rfl rfl rfl hc i aP s3 σ3 H3 X.xe I3 (stat fr3) st3 stop) fun r s4 ⟨hr,I4⟩=>?_)
  subst hr;exact wpAny_execs_nil ⟨σ3,H3,I4,qn⟩
 ·refine iF hp (thn (T.item X rfl rfl rfl hc i aP s3 σ3 H3 X.xe I3 (stat fr3) st3 go) fun r s4 ⟨u,hr,h4⟩=>?_)
  subst hr;refine iF hp (thn h4 fun _ s5 ⟨x,H5,I5,r5,y5,st5,fr5⟩=>?_);have I5':=I5.pinned (stat fr5) (T.obj _ _ st5);refine iF hp (thn (hg _ s5 σ3 H5 x u _ I5' r5 (step x H5 y5)) fun _ s6 ⟨σ6,H6,I6,q6⟩=>?_);refine iF hp (thn (hb _ s6 σ6 H6 _ I6 q6) fun f s7 q7=>?_);have again:∀ {σ7:St} {H7:Hp},Inv X (aP++pinsAt fp s5.heap) σ7 H7 s7→N σ7 H7→∃ m,m<n∧∃ i σ' H',Inv X aP σ' H' s7∧tn i s7.heap∧(∀ b∈fp,H' b=none)∧W i m σ' H':=fun {σ7 H7} I7 n7=>by
   obtain ⟨m',hm,w7⟩:=hN σ7 H7 n7;refine ⟨m',hm,i+1,σ7,H7,I7.unpinned,T.keep _ _ _ st5 fun b hb o e=>(I7.pin (b,o) (aA _ (aA _ (md hb e)))).1,fun b hb=>?_,w7⟩;obtain ⟨o,e,d⟩:=T.obj _ _ st5 b hb;exact (I7.pin (b,o) (aA _ (aA _ (md hb e)))).2.1
  cases f with
  | next=>obtain ⟨σ7,H7,I7,n7⟩:=q7;exact again I7 n7
  | cont=>obtain ⟨σ7,H7,I7,n7⟩:=q7;exact again I7 n7
  | brk=>obtain ⟨σ7,H7,I7,q7⟩:=q7;exact ⟨σ7,H7,I7.unpinned,q7⟩
  | ret v=>obtain ⟨x7,σ7,H7,I7,r7,q7⟩:=q7;exact ⟨x7,σ7,H7,I7.unpinned,r7,q7⟩
theorem lh {g:TG}{tb:TS}{D:Ends}(Pv:Nat→St→Hp→Prop)(h0:Pv 0 σ H)(hl:∀ i σ H,i≤xs.length→Pv i σ H→SqL K H a xs)
  (hs:∀ i x σ H,xs[i]? =some x→Pv i σ H→g x σ H fun σ2 H2=>tb { D with nx:=Pv (i+1),ct:=Pv (i+1),bk:=D.nx } σ2 H2) (hd:∀ σ H,Pv xs.length σ H→D.nx σ H) :
  ∃ W:Nat→Nat→St→Hp→Prop,(∃ m,W 0 m σ H)∧∀ i m σ H,W i m σ H →
   ((Itl K a).stop i H∧D.nx σ H)∨((Itl K a).go i H∧∃ N:St→Hp→Prop,(∀ σ' H',N σ' H'→∃ m',m'<m∧W (i+1) m' σ' H')∧∀ x H',(Itl K a).yld i H x H'→g x σ H' fun σ2 H2=>tb { D with nx:=N,ct:=N,bk:=D.nx } σ2 H2):=by
 refine ⟨fun i m σ H=>m=xs.length - i∧i≤xs.length∧Pv i σ H,⟨xs.length,by simp,bF _,h0⟩,?_⟩;rintro i m σ H ⟨rfl,hi,p⟩;have q:=hl i σ H hi p
 by_cases hlt:i<xs.length
 ·refine .inr ⟨⟨xs,xs[i],q,by simp [hlt]⟩,Pv (i+1),fun σ' H' p'=>⟨xs.length - (i+1),by lia,rfl,hlt,p'⟩,fun x H' y=>?_⟩
  obtain ⟨e,y⟩:=y;subst e;exact hs i x σ _ (y xs q) p
 ·have e:i=xs.length:=by lia
  subst e;exact .inl ⟨⟨xs,q,aC _⟩,hd σ H p⟩
theorem mM {g:TG}{tb:TS}{D:Ends}(Pv:Nat→St→Hp→Prop)(h0:Pv 0 σ H)(hl:∀ i σ H,i≤xs.length→Pv i σ H→SqT K H a xs)
  (hs:∀ i x σ H,xs[i]? =some x→Pv i σ H→g x σ H fun σ2 H2=>tb { D with nx:=Pv (i+1),ct:=Pv (i+1),bk:=D.nx } σ2 H2) (hd:∀ σ H,Pv xs.length σ H→D.nx σ H) :
  ∃ W:Nat→Nat→St→Hp→Prop,(∃ m,W 0 m σ H)∧∀ i m σ H,W i m σ H →
   ((Itt K a).stop i H∧D.nx σ H)∨((Itt K a).go i H∧∃ N:St→Hp→Prop,(∀ σ' H',N σ' H'→∃ m',m'<m∧W (i+1) m' σ' H')∧∀ x H',(Itt K a).yld i H x H'→g x σ H' fun σ2 H2=>tb { D with nx:=N,ct:=N,bk:=D.nx } σ2 H2):=by
 refine ⟨fun i m σ H=>m=xs.length - i∧i≤xs.length∧Pv i σ H,⟨xs.length,by simp,bF _,h0⟩,?_⟩;rintro i m σ H ⟨rfl,hi,p⟩;have q:=hl i σ H hi p
 by_cases hlt:i<xs.length
 ·refine .inr ⟨⟨xs,xs[i],q,by simp [hlt]⟩,Pv (i+1),fun σ' H' p'=>⟨xs.length - (i+1),by lia,rfl,hlt,p'⟩,fun x H' y=>?_⟩
  obtain ⟨e,y⟩:=y;subst e;exact hs i x σ _ (y xs q) p
 ·have e:i=xs.length:=by lia
  subst e;exact .inl ⟨⟨xs,q,aC _⟩,hd σ H p⟩
theorem kI {g:TG}{tb:TS}{D:Ends}(Pv:Nat→St→Hp→Prop)(h0:Pv 0 σ H)
  (hs:∀ i σ H,i<n→Pv i σ H→g (.int (lo+i)) σ H fun σ2 H2=>tb { D with nx:=Pv (i+1),ct:=Pv (i+1),bk:=D.nx } σ2 H2) (hd:∀ σ H,Pv n σ H→D.nx σ H) :
  ∃ W:Nat→Nat→St→Hp→Prop,(∃ m,W 0 m σ H)∧∀ i m σ H,W i m σ H →
   ((Itr lo n).stop i H∧D.nx σ H)∨((Itr lo n).go i H∧∃ N:St→Hp→Prop,(∀ σ' H',N σ' H'→∃ m',m'<m∧W (i+1) m' σ' H')∧∀ x H',(Itr lo n).yld i H x H'→g x σ H' fun σ2 H2=>tb { D with nx:=N,ct:=N,bk:=D.nx } σ2 H2):=by
 refine ⟨fun i m σ H=>m=n - i∧i≤n∧Pv i σ H,⟨n,by simp,bF _,h0⟩,?_⟩;rintro i m σ H ⟨rfl,hi,p⟩
 by_cases hlt:i<n
 ·refine .inr ⟨hlt,Pv (i+1),fun σ' H' p'=>⟨n - (i+1),by lia,rfl,hlt,p'⟩,fun x H' y=>?_⟩
  obtain ⟨e,y⟩:=y;subst e y;exact hs i σ _ hlt p
 ·have e:i=n:=by lia
  subst e;exact .inl ⟨aC _,hd σ H p⟩
abbrev R2:=V→V→Hp→VK→Prop
def OpR (X:Cx)(f:ag→ag→Sem ag)(r:R2):Prop :=
 ∀ (aP:List (ao×Obj)) (s:au) (σ:St) (H:Hp) (x y:V) (v u:ag) (Q:VK),Inv X aP σ H s→RelV x v→RelV y u→r x y H Q →
  aW (bz X.prog X.w) X.A (f v u) (EP X aP σ Q) X.xe s
def UnR (X:Cx)(f:ag→Sem ag)(r:V→Hp→VK→Prop):Prop :=
 ∀ (aP:List (ao×Obj)) (s:au) (σ:St) (H:Hp) (x:V) (v:ag) (Q:VK),Inv X aP σ H s→RelV x v→r x H Q →
  aW (bz X.prog X.w) X.A (f v) (EP X aP σ Q) X.xe s
def CallR (X:Cx)(f:ag)(r:List V→Hp→VK→Prop):Prop :=
 ∀ (aP:List (ao×Obj)) (s:au) (σ:St) (H:Hp) (xs:List V) (us:List ag) (Q:VK),Inv X aP σ H s→Vals xs us→r xs H Q →
  aW (bz X.prog X.w) X.A (call f us) (EP X aP σ Q) X.xe s
def tOp (r:R2)(ta tb:TE):TE:=fun σ H Q=>ta σ H fun x H1=>tb σ H1 fun y H2=>r x y H2 Q
def tUn (r:V→Hp→VK→Prop)(ta:TE):TE:=fun σ H Q=>ta σ H fun x H1=>r x H1 Q
inductive rI (C:Int→Int→Prop)(g:Int→Int→V)(x:V)(y:V)(H:Hp)(Q:VK):Prop
 | mk (i j:_)(_:x= .int i)(_:y= .int j)(_:C i j)(_:Q (g i j) H)
inductive rI0 (g:Int→Int→V)(x:V)(y:V)(H:Hp)(Q:VK):Prop
 | mk (i j:_)(_:x= .int i)(_:y= .int j)(_:Q (g i j) H)
inductive rU (g:Int→V)(x:V)(H:Hp)(Q:VK):Prop
 | mk (i:_)(_:x= .int i)(_:Q (g i) H)
section
variable {a b c:Expr}{tb tc:TE}
theorem binT (ha:PE X a ta)(hb:PE X b tb){R:V→V→Hp→Prop}(I:Inv X aP σ H s)
  (h:ta σ H fun x H1=>tb σ H1 fun y H2=>R x y H2) {f:ag→ag→Sem ag}
  (hf:∀ v u s2 x y H2,Inv X aP σ H2 s2→RelV x v→RelV y u→R x y H2→aW (bz X.prog X.w) X.A (f v u) Q X.xe s2) :
  aW (bz X.prog X.w) X.A (eV a X.env) (fun v s₁=>aW (bz X.prog X.w) X.A (eV b X.env) (fun u s₂=>aW (bz X.prog X.w) X.A (f v u) Q X.xe s₂) X.xe s₁) X.xe s:=by
 refine thn (ha aP s σ H _ I h) fun v s1 ⟨x,H1,I1,r1,q1⟩=>?_
 refine thn (hb aP s1 σ H1 _ I1 q1) fun u s2 ⟨y,H2,I2,r2,q2⟩=>?_
 exact hf v u s2 x y H2 I2 r1 r2 q2
theorem b9 {op:Operator}{r:R2}(ho:OpR X (gW op) r)(ha:PE X a ta)(hb:PE X b tb):PE X (.BinOp a op b pos) (tOp r ta tb):=by
 intro aP s σ H Q I h;exact wpAny_BinOp (binT ha hb I h fun v u s2 x y H2 I2 rx ry q=>ho aP s2 σ H2 x y v u Q I2 rx ry q)
theorem oB {op:UnaryOp}{r:V→Hp→VK→Prop}(ho:UnR X (unaryOp op) r)(ha:PE X a ta):PE X (.UnaryOp op a pos) (tUn r ta):=by
 intro aP s σ H Q I h;exact UnaryOp_ (thn (ha aP s σ H _ I h) fun v s1 ⟨x,H1,I1,r1,q1⟩=>ho aP s1 σ H1 x v Q I1 r1 q1)
theorem opI {f:ag→ag→Sem ag}{C:Int→Int→Prop}{g:Int→Int→Int}
  (rule:∀ (i j:Int) (t u:Tok) (s:au) (Q:ag→au→Prop) (E:ag→au→Prop),C i j→Q (.int (g i j) s.toks) { s with toks:=s.toks+1 }→aW (bz X.prog X.w) X.A (f (.int i t) (.int j u)) Q E s) :
  OpR X f (rI C fun i j=> .int (g i j)):=by
 intro aP s σ H x y v u Q I rx ry h;obtain ⟨i,j,rfl,rfl,hc,q⟩:=h;obtain ⟨t,rfl⟩:=rx;obtain ⟨t',rfl⟩:=ry;exact rule i j t t' s _ _ hc ⟨.int (g i j),H,I.tok _,⟨_,rfl⟩,q⟩
theorem opI0 {f:ag→ag→Sem ag}{g:Int→Int→Int}
  (rule:∀ (i j:Int) (t u:Tok) (s:au) (Q:ag→au→Prop) (E:ag→au→Prop),Q (.int (g i j) s.toks) { s with toks:=s.toks+1 }→aW (bz X.prog X.w) X.A (f (.int i t) (.int j u)) Q E s) :
  OpR X f (rI0 fun i j=> .int (g i j)):=by
 intro aP s σ H x y v u Q I rx ry h;obtain ⟨i,j,rfl,rfl,q⟩:=h;obtain ⟨t,rfl⟩:=rx;obtain ⟨t',rfl⟩:=ry;exact rule i j t t' s _ _ ⟨.int (g i j),H,I.tok _,⟨_,rfl⟩,q⟩
theorem opB0 {f:ag→ag→Sem ag}{g:Int→Int→Bool}
  (rule:∀ (i j:Int) (t u:Tok) (s:au) (Q:ag→au→Prop) (E:ag→au→Prop),Q (.bool (g i j)) s→aW (bz X.prog X.w) X.A (f (.int i t) (.int j u)) Q E s) :
  OpR X f (rI0 fun i j=> .bl (g i j)):=by
 intro aP s σ H x y v u Q I rx ry h;obtain ⟨i,j,rfl,rfl,q⟩:=h;obtain ⟨t,rfl⟩:=rx;obtain ⟨t',rfl⟩:=ry;exact rule i j t t' s _ _ ⟨.bl (g i j),H,I,rfl,q⟩
def CDiv (i j:Int):Prop:=0<j∧j<1073741824
def CPow (i j:Int):Prop:=0≤j∧j≤1000000∧i.natAbs<2 ^ 64
def CMul (i j:Int):Prop:=(-(2 ^ 64)<i∧i<2 ^ 64)∨(-(2 ^ 64)<j∧j<2 ^ 64)
theorem CMul.ok {i j:Int}(h:CMul i j):IntMulOk i j:=by
 rcases h with ⟨h1,h2⟩ | ⟨h1,h2⟩
 ·exact .of_left (intBits_le_64 h1 h2)
 ·exact .of_right (intBits_le_64 h1 h2)
theorem eh:OpR X (gW .Add) (rI0 fun i j=> .int (i+j)):=opI0 fun _ _ _ _ _ _ _ q=>add_int q
theorem gJ:OpR X (gW .Sub) (rI0 fun i j=> .int (i - j)):=opI0 fun _ _ _ _ _ _ _ q=>sub_int q
theorem jA:OpR X (gW .Mult) (rI CMul fun i j=> .int (i * j)):=opI fun _ _ _ _ _ _ _ hc q=>mul_int q hc.ok
theorem op_fdiv:OpR X (gW .FloorDiv) (rI CDiv fun i j=> .int (i / j)):=opI fun i j _ _ _ _ _ hc q=>by
 have h1:(0:Int)<j:=hc.1;have h2:j<1073741824:=hc.2;exact floordiv_int (by lia) (by rw [Int.fdiv_eq_ediv_of_nonneg i (by lia)];exact q) (.inl (PyProof.noPylong_small (by lia)))
theorem jM:OpR X (gW .Mod) (rI (fun _ j=>0<j) fun i j=> .int (i % j)):=opI fun i j _ _ _ _ _ hc q=>by
 have h1:(0:Int)<j:=hc;exact mod_int' (by lia) (by rw [Int.fmod_eq_emod_of_nonneg i (by lia)];exact q)
theorem op_pow:OpR X (gW .Pow) (rI CPow fun i j=> .int (i ^ j.toNat)):=opI fun _ _ _ _ _ _ _ hc q=>pow_int_small hc.1 hc.2.1 hc.2.2 q
theorem unI {f:ag→Sem ag}{g:Int→Int}
  (rule:∀ (i:Int) (t:Tok) (s:au) (Q:ag→au→Prop) (E:ag→au→Prop),Q (.int (g i) s.toks) { s with toks:=s.toks+1 }→aW (bz X.prog X.w) X.A (f (.int i t)) Q E s) :
  UnR X f (rU fun i=> .int (g i)):=by
 intro aP s σ H x v Q I rx h;obtain ⟨i,rfl,q⟩:=h;obtain ⟨t,rfl⟩:=rx;exact rule i t s _ _ ⟨.int (g i),H,I.tok _,⟨_,rfl⟩,q⟩
theorem lG:UnR X (unaryOp .USub) (rU fun i=> .int (-i)):=unI fun _ _ _ _ _ q=>neg_int q
end
def scal:V→V→Bool
 | .non,.non=>true | .non,.int _=>true | .int _,.non=>true | .non,.bl _=>true | .bl _,.non=>true | .non,.str _=>true | .str _,.non=>true
 | .int _,.int _=>true | .bl _,.bl _=>true | .str _,.str _=>true | .byt _,.byt _=>true
 | .int _,.str _=>true | .str _,.int _=>true | .bl _,.str _=>true | .str _,.bl _=>true
 | _,_=>false
def rEq:R2:=fun x y H Q=>scal x y=true∧Q (.bl (decide (x=y))) H
def rNe:R2:=fun x y H Q=>scal x y=true∧Q (.bl (!decide (x=y))) H
theorem dec_int {i j:Int}:decide (V.int i=V.int j)=(i == j):=by
 rw [Bool.eq_iff_iff];simp
theorem dec_bl {i j:Bool}:decide (V.bl i=V.bl j)=(i == j):=by
 rw [Bool.eq_iff_iff];simp
theorem dec_str {i j:Str}:decide (V.str i=V.str j)=(i == j):=by
 rw [Bool.eq_iff_iff];simp
theorem dec_byt {i j:Array UInt8}:decide (V.byt i=V.byt j)=(i.toList == j.toList):=by
 rw [Bool.eq_iff_iff];cases i;cases j;simp
section
variable {a b c:Expr}{tb tc:TE}
theorem fM {Q:VK}{k k':Bool}(I:Inv X aP σ H s)(q:Q (.bl k) H)(e:k=k'):EP X aP σ Q (.bool k') s:=by
 subst e;exact ⟨.bl k,H,I,rfl,q⟩
theorem mm:OpR X (fQ .Eq) rEq:=by
 intro aP s σ H x y v u Q I rx ry h;obtain ⟨hs,q⟩:=h;cases x with
 | non =>
  cases rx;cases y with
  | non=>cases ry;exact PySem.EqNone.eq_none_none (fM I q (by simp))
  | bl j=>cases ry;exact PySem.EqNone.eq_none_bool (fM I q (by simp))
  | int j=>obtain ⟨t',rfl⟩:=ry;exact PySem.EqNone.eq_none_int (fM I q (by simp))
  | str j=>obtain ⟨t',rfl⟩:=ry;exact PySem.EqNone.eq_none_str (fM I q (by simp))
  | _=>exact rd (show false=true from hs) aV
 | bl i =>
  cases rx;cases y with
  | non=>cases ry;exact PySem.EqNone.eq_bool_none (fM I q (by simp))
  | bl j=>cases ry;exact eq_bool (fM I q dec_bl)
  | str j=>obtain ⟨t',rfl⟩:=ry;exact PySem.EqMixed.eq_bool_str (fM I q (by simp))
  | _=>exact rd (show false=true from hs) aV
 | int i =>
  obtain ⟨t,rfl⟩:=rx;cases y with
  | non=>cases ry;exact PySem.EqNone.eq_int_none (fM I q (by simp))
  | int j=>obtain ⟨t',rfl⟩:=ry;exact eq_int (fM I q dec_int)
  | str j=>obtain ⟨t',rfl⟩:=ry;exact PySem.EqMixed.eq_int_str (fM I q (by simp))
  | _=>exact rd (show false=true from hs) aV
 | str i =>
  obtain ⟨t,rfl⟩:=rx;cases y with
  | non=>cases ry;exact PySem.EqNone.eq_str_none (fM I q (by simp))
  | bl j=>cases ry;exact PySem.EqMixed.eq_str_bool (fM I q (by simp))
  | int j=>obtain ⟨t',rfl⟩:=ry;exact PySem.EqMixed.eq_str_int (fM I q (by simp))
  | str j=>obtain ⟨t',rfl⟩:=ry;exact eq_str (fM I q dec_str)
  | _=>exact rd (show false=true from hs) aV
 | byt i =>
  obtain ⟨t,rfl⟩:=rx;cases y with
  | byt j=>obtain ⟨t',rfl⟩:=ry;exact PySem.W.eq_bytes (fM I q dec_byt)
  | _=>exact rd (show false=true from hs) aV
 | _=>cases y <;> exact rd (show false=true from hs) aV
theorem oE:OpR X (fQ .NotEq) rNe:=by
 intro aP s σ H x y v u Q I rx ry h;obtain ⟨hs,q⟩:=h;cases x with
 | non =>
  cases rx;cases y with
  | non=>cases ry;exact PySem.EqNone.ne_none_none (fM I q (by simp))
  | bl j=>cases ry;exact PySem.EqNone.ne_none_bool (fM I q (by simp))
  | int j=>obtain ⟨t',rfl⟩:=ry;exact PySem.EqNone.ne_none_int (fM I q (by simp))
  | str j=>obtain ⟨t',rfl⟩:=ry;exact PySem.EqNone.ne_none_str (fM I q (by simp))
  | _=>exact rd (show false=true from hs) aV
 | bl i =>
  cases rx;cases y with
  | non=>cases ry;exact PySem.EqNone.ne_bool_none (fM I q (by simp))
  | bl j=>cases ry;exact ne_bool (fM I q (rm not dec_bl))
  | str j=>obtain ⟨t',rfl⟩:=ry;exact PySem.EqMixed.ne_bool_str (fM I q (by simp))
  | _=>exact rd (show false=true from hs) aV
 | int i =>
  obtain ⟨t,rfl⟩:=rx;cases y with
  | non=>cases ry;exact PySem.EqNone.ne_int_none (fM I q (by simp))
  | int j=>obtain ⟨t',rfl⟩:=ry;exact ne_int (fM I q (rm not dec_int))
  | str j=>obtain ⟨t',rfl⟩:=ry;exact PySem.EqMixed.ne_int_str (fM I q (by simp))
  | _=>exact rd (show false=true from hs) aV
 | str i =>
  obtain ⟨t,rfl⟩:=rx;cases y with
  | non=>cases ry;exact PySem.EqNone.ne_str_none (fM I q (by simp))
  | bl j=>cases ry;exact PySem.EqMixed.ne_str_bool (fM I q (by simp))
  | int j=>obtain ⟨t',rfl⟩:=ry;exact PySem.EqMixed.ne_str_int (fM I q (by simp))
  | str j=>obtain ⟨t',rfl⟩:=ry;exact ne_str (fM I q (rm not dec_str))
  | _=>exact rd (show false=true from hs) aV
 | byt i =>
  obtain ⟨t,rfl⟩:=rx;cases y with
  | byt j=>obtain ⟨t',rfl⟩:=ry;exact PySem.W.ne_bytes (fM I q (rm not dec_byt))
  | _=>exact rd (show false=true from hs) aV
 | _=>cases y <;> exact rd (show false=true from hs) aV
theorem pW:OpR X (fQ .Lt) (rI0 fun i j=> .bl (decide (i<j))):=opB0 fun _ _ _ _ _ _ _ q=>lt_int q
theorem op_le:OpR X (fQ .LtE) (rI0 fun i j=> .bl (decide (i≤j))):=opB0 fun _ _ _ _ _ _ _ q=>le_int q
theorem op_gt:OpR X (fQ .Gt) (rI0 fun i j=> .bl (decide (j<i))):=opB0 fun _ _ _ _ _ _ _ q=>gt_int q
theorem op_ge:OpR X (fQ .GtE) (rI0 fun i j=> .bl (decide (j≤i))):=opB0 fun _ _ _ _ _ _ _ q=>ge_int q
theorem op_isN:OpR X (fQ .Is) (fun x y H Q=>y= .non∧Q (.bl (decide (x= .non))) H):=by
 intro aP s σ H x y v u Q I rx ry h;obtain ⟨rfl,q⟩:=h;cases ry;refine is_none_gen (fM I q ?_);cases x <;> first
  | (cases rx;rfl)
  | (obtain ⟨t,rfl⟩:=rx;rfl)
theorem op_notN:OpR X (fQ .IsNot) (fun x y H Q=>y= .non∧Q (.bl (!decide (x= .non))) H):=by
 intro aP s σ H x y v u Q I rx ry h;obtain ⟨rfl,q⟩:=h;cases ry;refine isnot_none_gen (fM I q ?_);cases x <;> first
  | (cases rx;rfl)
  | (obtain ⟨t,rfl⟩:=rx;rfl)
theorem dg (b:Expr)(h:op≠ .In:=by decide)(h2:op≠ .NotIn:=by decide):behindInMarks op b=false:=by
 have e1:(op == CmpOp.In)=false:=by cases op <;> first | rfl | exact rd rfl h
 have e2:(op == CmpOp.NotIn)=false:=by cases op <;> first | rfl | exact rd rfl h2
 cases b <;> simp [behindInMarks,e1,e2]
theorem lU {r:R2}(ho:OpR X (fQ op) r)(ha:PE X a ta)(hb:PE X b tb)(hm:behindInMarks op b=false):PE X (.Compare a [op] [b] pos) (tOp r ta tb):=by
 intro aP s σ H Q I h;exact wpAny_Compare1 (binT ha hb I h fun v u s2 x y H2 I2 rx ry q=>ho aP s2 σ H2 x y v u Q I2 rx ry q) hm
def tTest (t:TE):TT:=fun σ H Q=>t σ H fun x H'=>IsBl x fun k=>Q k H'
theorem cG {r:R2}(ho:OpR X (fQ op) r)(ha:PE X a ta)(hb:PE X b tb)(hm:behindInMarks op b=false):PT X (.Compare a [op] [b] pos) (tTest (tOp r ta tb)):=by
 intro aP s σ H Q I h;refine wpAny_isTrue_Compare1 (thn (ha aP s σ H _ I h) fun v s1 ⟨x,H1,I1,r1,q1⟩=>thn (hb aP s1 σ H1 _ I1 q1) fun u s2 ⟨y,H2,I2,r2,q2⟩ =>
  thn (ho aP s2 σ H2 x y v u _ I2 r1 r2 q2) fun c s3 ⟨z,H3,I3,r3,k,e,q3⟩=>?_) hm
 subst e;cases r3;exact fX ⟨H3,I3,q3⟩
def tChain (r r':R2)(ta tb tc:TE):TE:=fun σ H Q=>ta σ H fun x H1=>tb σ H1 fun y H2=>r x y H2 fun z H3=>∃ k,z= .bl k ∧
 (if k=true then tc σ H3 fun w' H4=>r' y w' H4 Q else Q (.bl false) H3)
theorem pt_chain {op':CmpOp}{r r':R2}(ho:OpR X (fQ op) r)(ho':OpR X (fQ op') r')(ha:PE X a ta)(hb:PE X b tb)(hc:PE X c tc)
  (hm:lastMarks [op,op'] [b,c]=false:=by with_unfolding_all rfl):PT X (.Compare a [op,op'] [b,c] pos) (tTest (tChain r r' ta tb tc)):=by
 intro aP s σ H Q I h;refine isTrue_chain (thn (ha aP s σ H _ I h) fun v s1 ⟨x,H1,I1,r1,q1⟩=>test_link (thn (hb aP s1 σ H1 _ I1 q1) fun u s2 ⟨y,H2,I2,r2,q2⟩ =>
  thn (ho aP s2 σ H2 x y v u _ I2 r1 r2 q2) fun d s3 ⟨z,H3,I3,r3,k,e,q3⟩=>?_)) hm
 subst e;cases r3;refine fX ?_;cases k with
 | false =>
  obtain ⟨k',e',q'⟩:=q3;cases e';exact ite_ff ⟨H3,I3,q'⟩
 | true =>
  refine ite_tt (test_last (thn (hc aP s3 σ H3 _ I3 q3) fun w' s4 ⟨z',H4,I4,r4,q4⟩=>thn (ho' aP s4 σ H4 y z' u w' _ I4 r2 r4 q4) fun d' s5 ⟨z2,H5,I5,r5,k2,e2,q5⟩=>?_));subst e2;cases r5;exact fX ⟨H5,I5,q5⟩
theorem line63:(bq:Nat)<2 ^ 63:=by rw [gk];decide
theorem oz {x:V}(r:Vals [x] us):∃ u,us=[u]∧RelV x u:=by
 cases r with
 | cons r1 r2=>cases r2;exact ⟨_,rfl,r1⟩
theorem vals2 {x:V}(r:Vals [x,y] us):∃ u w',us=[u,w']∧RelV x u∧RelV y w':=by
 cases r with
 | cons r1 r2 =>
  cases r2 with
  | cons r3 r4=>cases r4;exact ⟨_,_,rfl,r1,r3⟩
theorem nP (hc:X.calm=true):CallR X (.builtin "min") (fun xs H Q=>∃ i j,xs=[.int i,.int j]∧Q (.int (if j<i then j else i)) H):=by
 intro aP s σ H xs us Q I r h;obtain ⟨i,j,rfl,q⟩:=h;obtain ⟨u,w',rfl,⟨t,rfl⟩,⟨t',rfl⟩⟩:=vals2 r;refine min_two_ints (I.ok.hd hc) fun h' tk k=>⟨_,H,I.kept k,?_,q⟩
 by_cases hj:j<i
 ·rw [q9 hj,q9 hj];exact ⟨_,rfl⟩
 ·rw [qZ hj,qZ hj];exact ⟨_,rfl⟩
theorem call_int1:CallR X (.type "int") (fun xs H Q=>(∃ i,xs=[.int i]∧Q (.int i) H)∨∃ k,xs=[.bl k]∧Q (.int (if k then 1 else 0)) H):=by
 intro aP s σ H xs us Q I r h
 rcases h with ⟨i,rfl,q⟩ | ⟨k,rfl,q⟩
 ·obtain ⟨u,rfl,t,rfl⟩:=oz r
  exact call_int_int ⟨.int i,H,I,⟨_,rfl⟩,q⟩
 ·obtain ⟨u,rfl,r1⟩:=oz r
  cases r1;exact call_int_bool ⟨.int (if k then 1 else 0),H,I.tok _,⟨_,rfl⟩,q⟩
end
structure ObjM (h:bK)(x dx C:ao)(mA:Str→Option ag):Prop where
 obj:h.get? x=some (gm C dx)
 ns:h.Ns1 dx mA
 ne:dx≠x
theorem lookIn_ns (n:h.Ns1 dx mA):∃ od,h.get? dx=some od∧∀ name,PySem.W.lookIn name od=some (mA name):=by
 obtain ⟨o,es,ep,ho,hd,hk,_,hm⟩:=n;refine ⟨o,ho,fun name=>?_⟩;have e:=hm name;unfold nsFind findBy at e;rw [←Array.find?_toList] at e;unfold PySem.W.lookIn;rw [hd]
 dsimp only
 split
 ·rename_i y q
  rw [q] at e;exact rm some e
 ·rename_i q
  rw [q] at e;have a:es.toList.any (·.refKey)=false:=by
   rw [gG];intro y hy;obtain ⟨z,t,hkey⟩:=hk y (Array.mem_toList_iff.mp hy);simp [DictEntry.refKey,hkey]
  have a':¬ es.toList.any (·.refKey)=true:=by rw [a];exact aV
  rw [qZ a'];exact rm some e
theorem ObjM.look {x:ao}(I:ObjM h x dx C mA):∃ od,PySem.W.InstAt h x (gm C dx) C (some od)∧∀ name,PySem.W.lookIn name od=some (mA name) :=
 let ⟨od,ho,hl⟩:=lookIn_ns I.ns
 ⟨od,⟨I.obj,rfl,rfl,ho⟩,hl⟩
section
variable {x:ao}{v:ag}
theorem get_map {expr:Bool}(X:K.In s.heap)(I:ObjM s.heap x dx C mA)(hg:jE K C name=true)(hh:PySem.W.hasDictIn K C=true)
  (ha:cP K (.ref C) name=some none) (hv:mA name=some v) (hv':PySem.W.handedIn v=true) (h:Q v { s with toks:=s.toks+1 }) :
  aW (bz prog w) A (getAttr (.ref x) name expr) Q E s:=by
 obtain ⟨od,J,hl⟩:=I.look;exact PySem.W.get_value X J (PySem.W.plainGet_of hg).1 (PySem.W.findObj_own hh ha rfl (by rw [hl,hv])) hv' h
theorem get_meth {pl:Sem Bool}{Q:ag×List ag→au→Prop}(X:K.In s.heap)(I:ObjM s.heap x dx C mA)(hg:jE K C name=true)
  (hf:cP K (.ref C) name=some (some (.ref f))) (ht:PySem.W.isFn K (.ref f)=true) (hv:mA name=none) (h:Q (.ref f,[.ref x]) s) :
  aW (bz prog w) A (getMethod (.ref x) name pl) Q E s:=by
 obtain ⟨od,J,hl⟩:=I.look;exact PySem.W.method_fn X J (PySem.W.plainGet_of hg).1 (PySem.W.plainGet_of hg).2 hf (beq_iff_eq.mp ht) (by show (PySem.W.lookIn name od).map (·.isSome)=some false;rw [hl,hv];rfl) h
theorem set_map {ns:List Str}{Q:Unit→au→Prop}(X:K.In s.heap)(I:ObjM s.heap x dx C mA)
  (hs:cP K (.ref C) "__setattr__" =some (some (.builtin "object.__setattr__"))) (hp:PySem.W.plainOver K C=true) (ht:PySem.W.takerIn K C name=some none) (hh:PySem.W.hasDictIn K C=true)
  (hw:PySem.Within mA ns) (hsz:ns.length≤bq)
  (h:∀ h',ObjM h' x dx C (fun y=>if y=name then some v else mA y)→eJ dx s.heap h'→Q () { s with heap:=h',toks:=s.toks+2 }) :
  aW (bz prog w) A (setAttr (.ref x) name v) Q E s:=by
 obtain ⟨od,J,hl⟩:=I.look;refine PySem.W.set_plain X J hs (PySem.W.osa_open (s:={ s with toks:=s.toks+1 }) (r:=none) X J hp ht fun b=>?_);obtain ⟨cd,hc,hd'⟩:=PySem.W.any_some hh;have hx:s.heap.get? x=some ⟨.ref C,some dx,.plain,#[]⟩:=I.obj;refine ah (aL (ah (ah (wpAny_loadPart hx (ah (PySem.W.Looks.here (s:={ s with toks:=s.toks+1 }) (PySem.W.looks_clsIn X hc) ?_))))));rw [hd'];refine aL (a:=some dx) (ah (aL (ah ?_)));refine wpAny_nsSet1 (s:={ s with toks:=s.toks+1 }) I.ns fun h' hn2 hs2=>?_
 obtain ⟨oD,esD,epD,hoD,hdD,hcD⟩:=hn2.count (PySem.Within.cons name v hw);refine ah (wpAny_lookBehind hoD (by rw [hdD];exact pastItsLine_dict (bo hcD (by rw [aX];lia))) ?_);exact aL (h _ ⟨(hs2.2 _ (bX I.ne)).trans I.obj,hn2,I.ne⟩ hs2)
theorem make_map (X:K.In s.heap)(hm:PySem.W.makesIn K C=true)
  (hi:cP K (.ref C) "__init__" =some (some (.ref f))) (hf:PySem.W.typeIn K (.ref f)=some (.type "function"))
  (h:jo (bz prog w) (A.under (.builtin "type.__call__" ⟨.ref C::vs,kw⟩)) (.call (.ref f) ⟨.ref (s.heap.objs.size+1)::vs,kw⟩) (PySem.W.InitBack (s.heap.objs.size+1) R)
   {s with heap:=(s.heap.push fg).push (gm C s.heap.objs.size) }) :
  jo (bz prog w) A (.call (.ref C) ⟨vs,kw⟩) R s:=by
 obtain ⟨hh,g,d,t,os⟩:=s;exact PySem.W.make_core (PySem.W.makes_of X hm) (PySem.W.looks_findIn X hi) (fun self=>PySem.W.bind_fn X self hf) (.inl rfl) h
end
def mV (f:Str)(v:V):List (Str×V)→List (Str×V)
 | []=>[(f,v)]
 | (g,x)::r=>if g=f then (g,v)::r else (g,x)::mV f v r
theorem p6 (f g:Str)(v:V):∀ fs:List (Str×V),(mV f v fs).lookup g=if g=f then some v else fs.lookup g
 | []=>by
  show e8 g [(f,v)]=_
  by_cases h:g=f
  ·have hb:(g == f)=true:=beq_iff_eq.mpr h
   simp only [e8,hb,q9 h]
  ·have hb:(g == f)=false:=beq_eq_false_iff_ne.mpr h
   simp only [e8,hb,qZ h]
 | (k,x)::r=>by
  have ih:=p6 f g v r;rw [show mV f v ((k,x)::r)=(if k=f then (k,v)::r else (k,x)::mV f v r) from rfl]
  by_cases hk:k=f
  ·rw [q9 hk]
   by_cases h:g=k
   ·have hb:(g == k)=true:=beq_iff_eq.mpr h
    simp only [e8,hb,q9 (h.trans hk)]
   ·have hb:(g == k)=false:=beq_eq_false_iff_ne.mpr h
    simp only [e8,hb,qZ (fun e:g=f=>h (e.trans hk.symm))]
  ·rw [qZ hk]
   by_cases h:g=k
   ·have hb:(g == k)=true:=beq_iff_eq.mpr h
    simp only [e8,hb,qZ (fun e:g=f=>hk (h.symm.trans e))]
   ·have hb:(g == k)=false:=beq_eq_false_iff_ne.mpr h
    simp only [e8,hb];exact ih
theorem p8 (f:Str)(v:V):∀ fs:List (Str×V),f∈(mV f v fs).map (·.1)∧∀ g,g∈fs.map (·.1)→g∈(mV f v fs).map (·.1)
 | []=>⟨by simp [mV],fun g h=>by simp at h⟩
 | (k,x)::r=>by
  obtain ⟨i1,i2⟩:=p8 f v r;rw [show mV f v ((k,x)::r)=(if k=f then (k,v)::r else (k,x)::mV f v r) from rfl]
  by_cases hk:k=f
  ·rw [q9 hk]
   subst hk;exact ⟨by simp,fun g h=>by simpa using h⟩
  ·rw [qZ hk]
   refine ⟨?_,fun g h=>?_⟩
   ·rw [cj]
    exact aw _ i1
   ·rw [cj] at h ⊢
    rcases aG.mp h with e | e
    ·exact aG.mpr (.inl e)
    ·exact aw _ (i2 g e)
theorem p7 (f:Str)(v:V):∀ fs:List (Str×V),(mV f v fs).length≤fs.length+1
 | []=>by simp [mV]
 | (k,x)::r=>by
  have ih:=p7 f v r;rw [show mV f v ((k,x)::r)=(if k=f then (k,v)::r else (k,x)::mV f v r) from rfl]
  by_cases hk:k=f
  ·rw [q9 hk,aX,aX];lia
  ·rw [qZ hk,aX,aX];lia
theorem RelO.some_of {o:Option ag}(r:RelO (some v) o):∃ u,o=some u∧RelV v u:=by
 cases o with
 | none=>exact (show False from r).elim
 | some u=>exact ⟨u,rfl,r⟩
theorem RelO.none_of {o:Option ag}(r:RelO none o):o=none:=by
 cases o with
 | none=>rfl
 | some u=>exact (show False from r).elim
theorem handed_of (r:RelV v u):PySem.W.handedIn u=true:=by
 cases v with
 | non=>cases (show u=ag.none from r);rfl
 | bl b=>cases (show u=ag.bool b from r);rfl
 | int i=>obtain ⟨t,e⟩:=(show ∃ t,u=ag.int i t from r);cases e;rfl
 | str x=>obtain ⟨t,e⟩:=(show ∃ t,u=ag.str x t from r);cases e;rfl
 | byt b=>obtain ⟨t,e⟩:=(show ∃ t,u=ag.bytes b t from r);cases e;rfl
 | flt b=>obtain ⟨t,e⟩:=(show ∃ t,u=ag.float b t from r);cases e;rfl
 | ref a=>cases (show u=ag.ref a from r);rfl
 | ty n=>cases (show u=ag.type n from r);rfl
section
variable {fs fs':List (Str×V)}
theorem ins_get (hok:HOk P w H h)(e:H a=some (.ins C dx fs)):∃ mA,ObjM h a dx C mA∧(∀ f,RelO (fs.lookup f) (mA f))∧PySem.Within mA (fs.map (·.1))∧fs.length≤1000∧H dx=some (.own a):=by
 obtain ⟨d,z,ne,ob,mA,n,r,q⟩:=(show ObjOk P w H h a (.ins C dx fs) from hok a _ e);exact ⟨mA,⟨ob,n,ne⟩,r,q,z,d⟩
end
structure Cls (K:ak)(C:ao):Prop where
 pg:jE K C Str.empty=true
 hd:PySem.W.hasDictIn K C=true
 po:PySem.W.plainOver K C=true
 sa:cP K (.ref C) "__setattr__" =some (some (.builtin "object.__setattr__"))
theorem Cls.get (c:Cls K C)(f:Str):jE K C f=true:=c.pg
def NoAttr (K:ak)(C:ao)(f:Str):Prop:=cP K (.ref C) f=some none
theorem NoAttr.taker {f:Str}(n:NoAttr K C f):PySem.W.takerIn K C f=some none:=by
 unfold PySem.W.takerIn;rw [show cP K (.ref C) f=some none from n];rfl
structure Meth (K:ak)(C:ao)(m:Str)(f:ao):Prop where
 at_:cP K (.ref C) m=some (some (.ref f))
 fn:PySem.W.isFn K (.ref f)=true
 kp:fe K (.ref f)=true
section
variable {fs:List (Str×V)}{f:Str}
theorem getattr_ok {b:Bool}(I:Inv X aP σ H s)(e:H a=some (.ins C dx fs))(c:Cls X.K C)(n:NoAttr X.K C f)(l:fs.lookup f=some v)
  (h:∀ u s',Inv X aP σ H s'→RelV v u→Q u s'):aW (bz X.prog X.w) A (getAttr (.ref a) f b) Q E s:=by
 obtain ⟨mA,O,r,_,_,_⟩:=ins_get I.hok e;obtain ⟨u,hu,ru⟩:=RelO.some_of (v:=v) (o:=mA f) (by rw [←l];exact r f);exact get_map I.kIn O (c.get f) c.hd n hu (handed_of ru) (h u _ (I.tok _) ru)
theorem getmeth_ok {m:Str}{g:ao}{pl:Sem Bool}{Q:ag×List ag→au→Prop}(I:Inv X aP σ H s)(e:H a=some (.ins C dx fs))(c:Cls X.K C)(k:Meth X.K C m g)(l:fs.lookup m=none)
  (h:Q (.ref g,[.ref a]) s):aW (bz X.prog X.w) A (getMethod (.ref a) m pl) Q E s:=by
 obtain ⟨mA,O,r,_,_,_⟩:=ins_get I.hok e;have hn:mA m=none:=RelO.none_of (by rw [←l];exact r m);exact get_meth I.kIn O (c.get m) k.at_ k.fn hn h
theorem setattr_ok {Q:Unit→au→Prop}(I:Inv X aP σ H s)(e:H a=some (.ins C dx fs))(c:Cls X.K C)(n:NoAttr X.K C f)(hl:fs.length<1000)(ry:RelV y u)
  (h:∀ s',Inv X aP σ (upd H a (.ins C dx (mV f y fs))) s'→Q () s'):aW (bz X.prog X.w) A (setAttr (.ref a) f u) Q E s:=by
 obtain ⟨mA,O,r,wi,_,ho⟩:=ins_get I.hok e;have hz:(fs.map (·.1)).length≤bq:=by rw [aa,gk];lia
 refine set_map I.kIn O c.sa c.po n.taker c.hd wi hz fun h' O' sb=>h _ ?_
 have hd:∃ o,h'.get? dx=some o:=let ⟨o,_,_,e',_⟩:=O'.ns;⟨o,e'⟩;refine I.write (x:=a) (e:=dx) (by rw [e];exact True.intro) (.inr ho) (fun b q hb z=>(sb.2 b hb).trans z) hd ?_;refine ⟨by rw [br O.ne];exact ho,?_,O.ne,O'.obj,_,O'.ns,fun g=>?_,fun g hg=>?_⟩
 ·have:=p7 f y fs;lia
 ·show RelO ((mV f y fs).lookup g) (if g=f then some u else mA g)
  rw [p6]
  by_cases q:g=f
  ·rw [q9 q,q9 q];exact ry
  ·rw [qZ q,qZ q];exact r g
 ·by_cases q:g=f
  ·rw [q];exact (p8 f y fs).1
  ·refine (p8 f y fs).2 g (wi g fun z=>hg ?_)
   show (if g=f then some u else mA g)=none;rw [qZ q];exact z
theorem Inv.made (I:Inv X aP σ H s):Inv X aP σ (upd (upd H s.heap.objs.size (.own (s.heap.objs.size+1))) (s.heap.objs.size+1) (.ins C s.heap.objs.size []))
  {s with heap:=(s.heap.push fg).push (gm C s.heap.objs.size) }:=by
 have e1:(s.heap.push fg).get? s.heap.objs.size=some fg:=aZ s.heap rfl;have e2:((s.heap.push fg).push (gm C s.heap.objs.size)).get? (s.heap.objs.size+1)=some (gm C s.heap.objs.size):=by
  have:=aZ (s.heap.push fg) (o:=gm C s.heap.objs.size) rfl
  rwa [gj] at this
 have e3:(s.heap.push fg).Ns s.heap.objs.size (fun _=>none):=⟨fg,#[],_,e1,rfl,(fun e he=>rd he (by simp)),fun _=>rfl⟩;have I1:=I.laid (a:=s.heap.objs.size) (o:= .own (s.heap.objs.size+1)) (h':=s.heap.push fg) (t':=s.toks) (fun b u q=>ar _ q) (aC _) ⟨_,e1⟩;refine I1.laid (a:=s.heap.objs.size+1) (o:= .ins C s.heap.objs.size []) (t':=s.toks) (fun b u q=>ar _ q) (Nat.le_of_eq (gj _ _)) ?_;have ne:s.heap.objs.size≠s.heap.objs.size+1:=bM (jU _);refine ⟨by rw [br ne,aS],bF _,ne,e2,fun _=>none,(bK.Ns1.of_empty e3).at fun o q=>ar _ q,fun _=>True.intro,fun y hy=>rd rfl hy⟩
theorem attr_of {f:Str}(hb:attributeBase e f env (eV e env)=eV e env)
  (h:aW (bz prog w) A (eV e env) (fun o s₁=>aW (bz prog w) A (getAttr o f true) Q E s₁) E s):aW (bz prog w) A (eV (.Attribute e f pos) env) Q E s :=
 Attribute_any_ h (by rw [arm_eval_Attribute,hb])
end
def tFld (K:ak)(ta:TE)(f:Str):TE:=fun σ H Q=>ta σ H fun x H1=>∃ a C dx fs v,x= .ref a∧H1 a=some (.ins C dx fs)∧Cls K C∧NoAttr K C f∧fs.lookup f=some v∧Q v H1
def sFld (K:ak)(ta tv:TE)(f:Str):TS:=fun D σ H=>tv σ H fun y H1=>ta σ H1 fun x H2=>∃ a C dx fs,x= .ref a∧H2 a=some (.ins C dx fs)∧Cls K C∧NoAttr K C f∧fs.length<1000 ∧
 D.nx σ (upd H2 a (.ins C dx (mV f y fs)))
section
variable {o:Expr}{f:Str}{tv:TE}
theorem pe_fld (he:PE X e ta)(hb:attributeBase e f X.env (eV e X.env)=eV e X.env):PE X (.Attribute e f pos) (tFld X.K ta f):=by
 intro aP s σ H Q I h;refine attr_of hb (thn (he aP s σ H _ I h) fun u s1 ⟨x,H1,I1,rx,a,C,dx,fs,v,ex,ea,c,n,l,q⟩=>?_);subst ex;obtain rfl:u=ag.ref a:=rx;exact getattr_ok I1 ea c n l fun u' s2 I2 ru=>⟨v,H1,I2,ru,q⟩
theorem ps_fld (ha:PE X o ta)(hv:PE X value tv)(hs:swapsWith value (some (.Attribute o f pos')) pos.line X.env=fP false):PS X (.Assign [.Attribute o f pos'] value pos) (sFld X.K ta tv f):=by
 intro aP s σ H D I h;refine plainObj_wpAny_Assign_Attribute (thn (hv aP s σ H _ I h) fun u s1 ⟨y,H1,I1,ry,q⟩=>thn (ha aP s1 σ H1 _ I1 q) fun ov s2 ⟨x,H2,I2,rx,a,C,dx,fs,ex,ea,c,n,l,q2⟩=>?_) hs;subst ex;obtain rfl:ov=ag.ref a:=rx;exact setattr_ok I2 ea c n l ry fun s3 I3=>⟨σ,_,I3,q2⟩
end
section
variable {c:ag}{b:Bool}
inductive TyOf (K:ak)(H:Hp):V→ag→Prop where
 | non:TyOf K H .non (.type "NoneType")
 | bl (x:Bool):TyOf K H (.bl x) (.type "bool")
 | int (i:Int):TyOf K H (.int i) (.type "int")
 | str (x:Str):TyOf K H (.str x) (.type "str")
 | flt (x:UInt64):TyOf K H (.flt x) (.type "float")
 | lst {a:ao} {xs:List V} (e:H a=some (.lst xs)):TyOf K H (.ref a) (.type "list")
 | frz {a:ao} {o:Obj} {xs:List V} (e:H a=some (.frz o (.lst xs))):TyOf K H (.ref a) (.type "list")
 | tup {a:ao} {xs:List V} (e:H a=some (.tup xs)):TyOf K H (.ref a) (.type "tuple")
 | dK {a:ao} {kvs:List (Key×V)} (e:H a=some (.dK kvs)):TyOf K H (.ref a) (.type "dict")
 | dT {a:ao} {kvs:List (List Key×V)} (e:H a=some (.dT kvs)):TyOf K H (.ref a) (.type "dict")
 | ins {a C dx:ao} {fs:List (Str×V)} (e:H a=some (.ins C dx fs)) (cl:Cls K C) (ha:cP K (.ref C) "__class__" =some (some (.builtin "object.__class__")))
   (hn:PySem.W.specialIn K (.builtin "object.__class__") "__get__" =some (some (.builtin "getset_descriptor.__get__"))) (htk:PySem.W.takesIn K (.builtin "object.__class__")=some true)
   (hm:PySem.W.mroIn K C (.type "object")=some true):TyOf K H (.ref a) (.ref C)
theorem isinst_ok {x:V}{t:ag}(I:Inv X aP σ H s)(rx:RelV x u)(ty:TyOf X.K H x t)(e:PySem.W.kitOne X.K t c=some b)(h:∀ tk,Q (.bool b) { s with toks:=tk }) :
  aW (bz X.prog X.w) A (call (.builtin "isinstance") [u,c]) Q E s:=by
 cases ty with
 | non=>cases (show u=ag.none from rx);exact eR PySem.W.kitx_none I.kIn True.intro e (fun z=>nomatch z) h
 | bl y=>cases (show u=ag.bool y from rx);exact eR PySem.W.kitx_bool I.kIn True.intro e (fun z=>nomatch z) h
 | int i=>obtain ⟨t,q⟩:=(show ∃ t,u=ag.int i t from rx);cases q;exact eR PySem.W.kitx_int I.kIn True.intro e (fun z=>nomatch z) h
 | str y=>obtain ⟨t,q⟩:=(show ∃ t,u=ag.str y t from rx);cases q;exact eR PySem.W.kitx_str I.kIn True.intro e (fun z=>nomatch z) h
 | flt y=>obtain ⟨t,q⟩:=(show ∃ t,u=ag.float y t from rx);cases q;exact eR PySem.W.kitx_float I.kIn True.intro e (fun z=>nomatch z) h
 | @lst a xs ea =>
  cases (show u=ag.ref a from rx);obtain ⟨_,_,n,_,h1⟩:=(show ObjOk X.prog X.w H s.heap a (.lst xs) from I.hok a _ ea);exact eR PySem.W.kitx_list I.kIn ⟨_,h1,rfl⟩ e (fun z=>nomatch z) h
 | @frz a ob xs ea =>
  cases (show u=ag.ref a from rx);obtain ⟨_,_,_,n,_,h1⟩:=(show ObjOk X.prog X.w H s.heap a (.frz ob (.lst xs)) from I.hok a _ ea);exact eR PySem.W.kitx_list I.kIn ⟨_,h1,rfl⟩ e (fun z=>nomatch z) h
 | @tup a xs ea =>
  cases (show u=ag.ref a from rx);obtain ⟨_,_,_,p⟩:=(show ObjOk X.prog X.w H s.heap a (.tup xs) from I.hok a _ ea);obtain ⟨o,h1,h2,_⟩:=p;exact eR PySem.W.kitx_tuple I.kIn ⟨o,h1,h2⟩ e (fun z=>nomatch z) h
 | @dK a kvs ea =>
  cases (show u=ag.ref a from rx);obtain ⟨_,_,vs,_,p⟩:=(show ObjOk X.prog X.w H s.heap a (.dK kvs) from I.hok a _ ea);obtain ⟨o,es,ep,h1,h2,_⟩:=p;exact eR PySem.W.kitx_dict I.kIn ⟨o,h1,h2.1⟩ e (fun z=>nomatch z) h
 | @dT a kvs ea =>
  cases (show u=ag.ref a from rx);obtain ⟨_,_,xs,_,o,es,ep,h1,h2,_⟩:=(show ObjOk X.prog X.w H s.heap a (.dT kvs) from I.hok a _ ea);exact eR PySem.W.kitx_dict I.kIn ⟨o,h1,h2.1⟩ e (fun z=>nomatch z) h
 | @ins a C dx fs ea cl ha hn htk hm =>
  cases (show u=ag.ref a from rx);obtain ⟨mA,O,_⟩:=ins_get I.hok ea;obtain ⟨od,J,_⟩:=O.look;exact eR (PySem.W.kitx_own (cl.get _) cl.hd ha hn htk hm) I.kIn J e (fun z=>nomatch z) h
end
structure Room (k:Nat)(A:bW):Prop where
 hd:A.handled=none
 dp:A.depth+3 * k+5<jQ
 un:A.units+16 * k+200<cLine
theorem Room.mono {k:Nat}(r:Room k A)(h:j≤k):Room j A:=⟨r.hd,by have:=r.dp;lia,by have:=r.un;lia⟩
theorem Room.deeper {k:Nat}(r:Room (k+1) A)(env:Env):Room k (A.deeper env) :=
 ⟨r.hd,by have:=r.dp;show A.depth+1+3 * k+5<_;lia,by have:=r.un;show A.units+3+16 * k+200<_;lia⟩
theorem Room.in1 {k:Nat}(r:Room (k+1) A):Room k A.in1 :=
 ⟨r.hd,by have:=r.dp;show A.depth+3 * k+5<_;lia,by have:=r.un;show A.units+1+16 * k+200<_;lia⟩
theorem make_depth:(A.under (.builtin "type.__call__" ⟨.ref C::us,kw⟩)).depth=A.depth+1:=by
 first | rfl | simp [bW.under,Code.weight,Code.isCreation,Code.isGuard,Code.isCaller,Code.frames,Code.isFrame,guardIds]
theorem make_units:(A.under (.builtin "type.__call__" ⟨.ref C::us,kw⟩)).units=A.units+1:=by
 first | rfl | simp [bW.under,Code.cUnits,Code.frames,Code.isFrame]
theorem Room.make {k:Nat}(r:Room (k+1) A)(C:ao)(us:List ag)(kw:List (Str×ag)):Room k (A.under (.builtin "type.__call__" ⟨.ref C::us,kw⟩)) :=
 ⟨r.hd,by have:=r.dp;rw [make_depth];lia,by have:=r.un;rw [make_units];lia⟩
theorem Room.depth {k:Nat}(r:Room k A):A.depth<jQ:=by have:=r.dp;lia
theorem Room.units {k:Nat}(r:Room k A):A.units+64<cLine:=by have:=r.un;lia
theorem Room.units0 {k:Nat}(r:Room k A):A.units<cLine:=by have:=r.un;lia
def tNil:TA:=fun _ H Q=>Q [] H
def o8 (ta:TE)(tr:TA):TA:=fun σ H Q=>ta σ H fun x H1=>tr σ H1 fun xs H2=>Q (x::xs) H2
theorem aB:PA X [] tNil:=fun _ _ _ _ H Q I h=>Calls.spliced_nil ⟨[],H,I,.nil,h⟩
theorem ae (ha:PE X e te)(hr:PA X es t)(hs:bD (e::es) X.env=(false,eV e X.env)::bD es X.env:=by rfl):PA X (e::es) (o8 te t):=by
 intro pos aP s σ H Q I h;rw [hs];show aW _ _ (spliced ((false,eV e X.env)::gz pos (bD es X.env))) _ _ s;refine Calls.spliced_cons (thn (ha aP s σ H _ I h) fun u s1 ⟨x,H1,I1,r1,q1⟩=>?_);exact thn (hr pos aP s1 σ H1 _ I1 q1) fun us s2 ⟨xs,H2,I2,r2,q2⟩=>⟨x::xs,H2,I2,.cons r1 r2,q2⟩
def tTup (t:TA):TE:=fun σ H Q=>t σ H fun xs H1=>xs.length≤bq∧∀ p,H1 p=none→Q (.ref p) (upd H1 p (.tup xs))
def tLst (t:TA):TE:=fun σ H Q=>t σ H fun xs H1=>xs.length≤bq∧∀ p,H1 p=none→Q (.ref p) (upd H1 p (.lst xs))
theorem oq {x1}(h:PA X es t):PE X (.Tuple es x1 pos) (tTup t):=by
 intro aP s σ H Q I hq;refine wpAny_Tuple_spliced (thn (h pos aP s σ H _ I hq) fun us s1 ⟨xs,H1,I1,r,z,q⟩=>⟨by rw [←r.length];exact z,?_⟩);have hf:H1 s1.heap.objs.size=none:=I1.hok.fresh (aC _);refine ⟨.ref s1.heap.objs.size,upd H1 s1.heap.objs.size (.tup xs),I1.laid (t':=s1.toks) (fun b u e=>ar _ e) (aC _) ?_,rfl,q _ hf⟩;exact ⟨z,us,r,⟨_,aZ _ rfl,rfl,rfl,_,rfl⟩⟩
theorem iY (h:PA X es t):PE X (.List es pos) (tLst t):=by
 intro aP s σ H Q I hq;refine wpAny_List_spliced (thn (h pos aP s σ H _ I hq) fun us s1 ⟨xs,H1,I1,r,z,q⟩=>⟨by rw [←r.length];exact z,?_⟩);have hf:H1 s1.heap.objs.size=none:=I1.hok.fresh (aC _);refine ⟨.ref s1.heap.objs.size,upd H1 s1.heap.objs.size (.lst xs),I1.laid (t':=s1.toks) (fun b u e=>ar _ e) (aC _) ?_,rfl,q _ hf⟩;exact ⟨z,us,0,r,aZ _ rfl⟩
abbrev Sp:=List V→Hp→VK→XK→Prop
abbrev CXT:=List Env→Hp→au→XK→ag→au→Prop
structure Env0 (P:aY)(w:bE)(K:ak)(mg:Str→Option ag)(base:bK)(A:bW)(outer:List Env)(s:au)(H:Hp):Prop where
 frames:A.frames=some outer
 mod:Mod K mg base
 bs:∀ b o,base.get? b=some o→s.heap.get? b=some o∧H b=none
 bsz:base.objs.size≤s.heap.objs.size
 funs:s.heap.FunFrames base outer
 frf:∀ b∈frs outer,H b=none
 hok:HOk P w H s.heap
 bare:AllBare s.gens
def CE (outer:List Env)(P:aY)(w:bE)(H:Hp)(s:au)(Q:VK)(u:ag)(s':au):Prop :=
 ∃ v H',s'.os=s.os∧AllBare s'.gens∧Un (frs outer) [] H H' s.heap s'.heap∧HOk P w H' s'.heap∧RelV v u∧Q v H'
def CR (CX:CXT)(outer:List Env)(P:aY)(w:bE)(H:Hp)(s:au)(Q:VK)(E:XK)(r:Result)(s':au):Prop :=
 match r with
 | .ok (.ret u)=>CE outer P w H s Q u s'
 | .ok _=>False
 | .error e=>CX outer H s E e s'
structure dv (P:aY)(w:bE)(K:ak)(mg:Str→Option ag)(base:bK)(CX:CXT)(k:Nat)(f:ao)(fd:bw)(ps:List Str)(sp:Sp):Prop where
 len:∀ vs H Q E,sp vs H Q E→vs.length=ps.length
 run:∀ (A:bW) (outer:List Env) (s:au) (H:Hp) (args:Args) (us:List ag) (vs:List V) (Q:VK) (E:XK),Room k A→Env0 P w K mg base A outer s H→BindsTo s fd args (ps.zip us)→Vals vs us→sp vs H Q E →
  jo (bz P w) A (.call (.ref f) args) (CR CX outer P w H s Q E) s
theorem Env0.make (e:Env0 P w K mg base A outer s H)(C:ao)(us:List ag)(kw:List (Str×ag)) :
  Env0 P w K mg base (A.under (.builtin "type.__call__" ⟨.ref C::us,kw⟩)) outer s H:=⟨by first | exact e.frames | (simpa [bW.under,Code.envs,Code.isFrame,pushEnvs] using e.frames),e.mod,e.bs,e.bsz,e.funs,e.frf,e.hok,e.bare⟩
theorem Inv.env0 (I:Inv X aP σ H s):Env0 X.prog X.w X.K X.mg X.base X.A X.stack s H :=
 ⟨I.ok.frames,I.ok.mod,I.bs,bo I.ok.bsz I.sz,I.stack,I.stkFree,I.hok,I.bare⟩
theorem Inv.after {Q:VK}(I:Inv X aP σ H s)(h:CE X.stack X.prog X.w H s Q u s'):EP X aP σ Q u s':=by
 obtain ⟨v,H',os,bare,un,hok,r,q⟩:=h;obtain ⟨hh,g,d,t,os'⟩:=s';obtain rfl:os'=s.os:=os;exact ⟨v,H',I.call (h':=hh) (g':=g) (d':=d) (t':=t) (ch:=[]) un hok bare (fun b z=>rd z (by simp)),r,q⟩
def tCall (sp:Sp)(dvs:List V)(E:XK)(t:TA):TE:=fun σ H Q=>t σ H fun vs H1=>sp (vs++dvs) H1 Q E
def tMeth (C:ao)(m:Str)(sp:Sp)(dvs:List V)(E:XK)(ta:TE)(t:TA):TE:=fun σ H Q=>ta σ H fun x H1=>∃ a dx fs,x= .ref a∧H1 a=some (.ins C dx fs)∧fs.lookup m=none ∧
 t σ H1 fun vs H2=>sp (x::(vs++dvs)) H2 Q E
def tMake (C:ao)(sp:Sp)(dvs:List V)(E:XK)(t:TA):TE:=fun σ H Q=>t σ H fun vs H1=>∀ x dx,H1 x=none→H1 dx=none→dx≠x →
 sp (.ref x::(vs++dvs)) (upd (upd H1 dx (.own x)) x (.ins C dx [])) (fun v H2=>v= .non∧Q (.ref x) H2) E
def Binds (K:ak)(fd:bw)(ps:List Str)(ds:List ag):Prop :=
 ∀ (s:au) (us:List ag),K.In s.heap→(us++ds).length=ps.length→BindsTo s fd ⟨us,[]⟩ (ps.zip (us++ds))
theorem Binds.all (h:∀ us:List ag,us.length=ps.length→bindArgs fd ⟨us,[]⟩=fP (ps.zip us)):Binds K fd ps []:=fun s us _ hl=>by
 rw [eU] at hl ⊢;exact .of_eq (h us hl)
def qW (CX:CXT)(X:Cx)(E:XK):Prop:=∀ (aP:List (ao×Obj)) (σ:St) (H:Hp) (s:au) (e:ag) (s':au),Inv X aP σ H s→CX X.stack H s E e s'→X.xe e s'
section
variable {CX:CXT}{k:Nat}{sp:Sp}{dvs:List V}{ds:List ag}{E:XK}{m:Str}{p apos:Pos}{o:Expr}
theorem run_fn {Q:VK}{vs:List V}(F:dv X.prog X.w X.K X.mg X.base CX k f fd ps sp)(hr:Room k X.A)(hb:Binds X.K fd ps ds)(hd:Vals dvs ds)(hx:qW CX X E)
  (I:Inv X aP σ H s) (r:Vals vs us) (h:sp (vs++dvs) H Q E):aW (bz X.prog X.w) X.A (call (.ref f) us) (EP X aP σ Q) X.xe s:=by
 have r2:Vals (vs++dvs) (us++ds):=r.append hd;have hl:(us++ds).length=ps.length:=by rw [←r2.length];exact F.len _ _ _ _ h
 refine wpAny_call (codeAny_mono (F.run X.A X.stack s H ⟨us,[]⟩ (us++ds) (vs++dvs) Q E hr I.env0 (hb s us I.kIn hl) r2 h) fun r s' hq=>?_);cases r with
 | error e=>exact hx aP σ H s e s' I hq
 | ok fl =>
  cases fl with
  | ret u=>exact I.after hq
  | next=>exact df hq
  | brk=>exact df hq
  | cont=>exact df hq
theorem pe_call (F:dv X.prog X.w X.K X.mg X.base CX k f fd ps sp)(hr:Room k X.A)(hg:Gl X x)(hm:X.mg x=some (.ref f))(hk:fe X.K (.ref f)=true)(hb:Binds X.K fd ps ds)(hd:Vals dvs ds)(hx:qW CX X E)
  (ha:PA X (e::es) t) (hdb:(x == ("__debug__" :Str))=false:=by decide) (he:bD (e::es) X.env=(false,eV e X.env)::bD es X.env:=by rfl) (hpl:(gz pos (bD es X.env)).any (·.1)=false:=by rfl) :
  PE X (.Call (.Name x p) (e::es) [] pos) (tCall sp dvs E t):=by
 intro aP s σ H Q I h;refine fc (ld_glob I hg hm ?_ hdb);refine kg (h₀:=X.base) I.ok.mod.kin hk (thn (ha pos aP s σ H _ I h) fun us s1 ⟨vs,H1,I1,r,q⟩=>⟨I1.kIn,?_⟩) he hpl;exact run_fn F hr hb hd hx I1 r q
theorem pe_meth {pl:Sem Bool}(he:PE X o ta)(c:Cls X.K C)(hm:Meth X.K C m f)(F:dv X.prog X.w X.K X.mg X.base CX k f fd ps sp)(hr:Room k X.A)(hb:Binds X.K fd ps ds)(hd:Vals dvs ds)(hx:qW CX X E)(ha:PA X (e::es) t)
  (hst:bD (e::es) X.env=(false,eV e X.env)::bD es X.env:=by rfl) (hpl:(gz pos (bD es X.env)).any (·.1)=false:=by rfl)
  (ht:eV (.Call (.Attribute o m apos) (e::es) [] pos) X.env=(do
   let ov ← eV o X.env
   standAt apos.atName
   let (f,first) ← holding [ov] (getMethod ov m pl)
   callWith pos f first (gz pos (bD (e::es) X.env)) (backToKw pos (keywordEach [] X.env))):=by rfl) :
  PE X (.Call (.Attribute o m apos) (e::es) [] pos) (tMeth C m sp dvs E ta t):=by
 intro aP s σ H Q I h;refine PySem.W.methodCall_KW (pl:=pl) (thn (he aP s σ H _ I h) fun u s1 ⟨x,H1,I1,rx,a,dx,fs,ex,ea,l,q⟩=>?_) ht;subst ex;obtain rfl:u=ag.ref a:=rx;refine getmeth_ok I1 ea c hm l ?_;refine kg (first:=[.ref a]) (h₀:=X.base) I.ok.mod.kin hm.kp (thn (ha pos aP s1 σ H1 _ I1 q) fun us s2 ⟨vs,H2,I2,r,q2⟩=>⟨I2.kIn,?_⟩) hst hpl;exact run_fn (us:= .ref a::us) (vs:= .ref a::vs) F hr hb hd hx I2 (.cons rfl r) q2
structure Mk (K:ak)(C f:ao):Prop where
 makes:PySem.W.makesIn K C=true
 init:cP K (.ref C) "__init__" =some (some (.ref f))
 fn:PySem.W.isFn K (.ref f)=true
 kp:fe K (.ref C)=true
theorem run_make {Q:VK}{vs:List V}(M:Mk X.K C f)(F:dv X.prog X.w X.K X.mg X.base CX k f fd ps sp)(hr:Room (k+1) X.A)(hb:Binds X.K fd ps ds)(hd:Vals dvs ds)
  (hx:qW CX X E) (I:Inv X aP σ H s) (r:Vals vs us)
  (h:∀ x dx,H x=none→H dx=none→dx≠x→sp (.ref x::(vs++dvs)) (upd (upd H dx (.own x)) x (.ins C dx [])) (fun v H2=>v= .non∧Q (.ref x) H2) E) :
  aW (bz X.prog X.w) X.A (call (.ref C) us) (EP X aP σ Q) X.xe s:=by
 have hq:=h (s.heap.objs.size+1) s.heap.objs.size (I.hok.fresh (j9 _)) (I.hok.fresh (aC _)) (bM (jU _));have I2:=Inv.made (C:=C) I;have r2:Vals (V.ref (s.heap.objs.size+1)::(vs++dvs)) (ag.ref (s.heap.objs.size+1)::(us++ds)):= .cons rfl (r.append hd);have hl:(ag.ref (s.heap.objs.size+1)::us++ds).length=ps.length:=by
  have e:=r2.length;rw [F.len _ _ _ _ hq] at e;exact e.symm
 refine wpAny_call (make_map (f:=f) I.kIn M.makes M.init (beq_iff_eq.mp M.fn) (codeAny_mono (F.run _ X.stack _ _ ⟨ag.ref (s.heap.objs.size+1)::us,[]⟩ (ag.ref (s.heap.objs.size+1)::(us++ds)) _ _ E (hr.make C us [])
  (I2.env0.make C us []) (hb _ (ag.ref (s.heap.objs.size+1)::us) I2.kIn hl) r2 hq) fun r s' hq'=>?_))
 cases r with
 | error e=>exact hx aP σ _ _ e s' I2 hq'
 | ok fl =>
  cases fl with
  | ret u =>
   obtain ⟨v,H',I3,rv,ev,q3⟩:=I2.after hq';subst ev;exact ⟨rv,⟨V.ref (s.heap.objs.size+1),H',I3,rfl,q3⟩⟩
  | next=>exact df hq'
  | brk=>exact df hq'
  | cont=>exact df hq'
theorem pe_make (M:Mk X.K C f)(F:dv X.prog X.w X.K X.mg X.base CX k f fd ps sp)(hr:Room (k+1) X.A)(hg:Gl X x)(hm:X.mg x=some (.ref C))(hb:Binds X.K fd ps ds)(hd:Vals dvs ds)(hx:qW CX X E)
  (ha:PA X (e::es) t) (hdb:(x == ("__debug__" :Str))=false:=by decide) (he:bD (e::es) X.env=(false,eV e X.env)::bD es X.env:=by rfl) (hpl:(gz pos (bD es X.env)).any (·.1)=false:=by rfl) :
  PE X (.Call (.Name x p) (e::es) [] pos) (tMake C sp dvs E t):=by
 intro aP s σ H Q I h;refine fc (ld_glob I hg hm ?_ hdb);refine kg (h₀:=X.base) I.ok.mod.kin M.kp (thn (ha pos aP s σ H _ I h) fun us s1 ⟨vs,H1,I1,r,q⟩=>⟨I1.kIn,?_⟩) he hpl;exact run_make M F hr hb hd hx I1 r q
end
structure cp (N P:List Str)(sc:fI):Prop where
 kind:sc.kind= .function
 co:sc.isCoroutine=false
 gen:sc.isGenerator=false
 nd:N.Nodup
 pre:N.take P.length=P
 par:∀ x∈P,sc.names.lookup x=some .local∨sc.names.lookup x=some .cell
 nofree:∀ y∈sc.names,y.2≠ .free
theorem bindL_out {kindOf:Str→Option cN}{x:Str}:∀ {binds:List (Str×ag)} {m:Str→Option ag},(∀ v,(x,v) ∉ binds)→bindL kindOf binds m x=m x
 | [],_,_=>rfl
 | (n,v)::r,m,h=>by
  unfold bindL;rw [bindL_out fun w hw=>h w (aw _ hw)];split
  ·have:x≠n:=by rintro rfl;exact h v bB
   simp [this]
  ·rfl
theorem bindC_out {kindOf:Str→Option cN}{x:Str}:∀ {binds:List (Str×ag)} {m:Str→Option ag},(∀ v,(x,v) ∉ binds)→bindC kindOf binds m x=m x
 | [],_,_=>rfl
 | (n,v)::r,m,h=>by
  unfold bindC;rw [bindC_out fun w hw=>h w (aw _ hw)];split
  ·rfl
  ·have:x≠n:=by rintro rfl;exact h v bB
   simp [this]
theorem bindL_get {kindOf:Str→Option cN}{x:Str}{v:ag}:∀ {P:List Str} {vs:List ag} {i:Nat} {m:Str→Option ag},P.Nodup→P[i]? =some x→vs[i]? =some v→kindOf x=some .local →
  bindL kindOf (P.zip vs) m x=some v
 | [],_,_,_,_,h,_,_=>by simp at h
 | _::_,[],_,_,_,_,h,_=>by simp at h
 | p::P,w::vs,0,m,nd,h1,h2,hk=>by
  simp at h1 h2;subst h1;subst h2;show bindL kindOf ((p,w)::P.zip vs) m p=_;unfold bindL;rw [bindL_out fun v hv=>(bJ.mp nd).1 (List.of_mem_zip hv).1,q9 hk];simp
 | p::P,w::vs,i+1,m,nd,h1,h2,hk=>by
  show bindL kindOf ((p,w)::P.zip vs) m x=_;unfold bindL;exact bindL_get (i:=i) (bJ.mp nd).2 (by simpa using h1) (by simpa using h2) hk
theorem bindC_get {kindOf:Str→Option cN}{x:Str}{v:ag}:∀ {P:List Str} {vs:List ag} {i:Nat} {m:Str→Option ag},P.Nodup→P[i]? =some x→vs[i]? =some v→kindOf x≠some .local →
  bindC kindOf (P.zip vs) m x=some v
 | [],_,_,_,_,h,_,_=>by simp at h
 | _::_,[],_,_,_,_,h,_=>by simp at h
 | p::P,w::vs,0,m,nd,h1,h2,hk=>by
  simp at h1 h2;subst h1;subst h2;show bindC kindOf ((p,w)::P.zip vs) m p=_;unfold bindC;rw [bindC_out fun v hv=>(bJ.mp nd).1 (List.of_mem_zip hv).1,qZ hk];simp
 | p::P,w::vs,i+1,m,nd,h1,h2,hk=>by
  show bindC kindOf ((p,w)::P.zip vs) m x=_;unfold bindC;exact bindC_get (i:=i) (bJ.mp nd).2 (by simpa using h1) (by simpa using h2) hk
def start (N:List Str)(vs:List V):St:=vs.map some++bU (N.length - vs.length) none
def cxOf (CX:CXT)(P:aY)(w:bE)(K:ak)(mg:Str→Option ag)(base:bK)(N:List Str)(qual:Str)(scope:fI)(f:ao)(cd:ag)(A:bW)(outer:List Env)(s:au)(H:Hp)(E:XK):Cx where
 prog:=P
 w:=w
 K:=K
 mg:=mg
 base:=base
 A:=A.deeper (envOfC qual scope s.heap.objs.size f cd)
 N:=N
 s₀:=s
 H₀:=H
 env:=envOfC qual scope s.heap.objs.size f cd
 outer:=outer
 stack:=envOfC qual scope s.heap.objs.size f cd::outer
 ex:=[]
 calm:=true
 fn:=fun _=>true
 pn:=[]
 xe:=fun e s'=>aW (bz P w) (A.deeper (envOfC qual scope s.heap.objs.size f cd)) (leaving (envOfC qual scope s.heap.objs.size f cd) e) (fun _ s''=>CX outer H s E e s'') (fun e' s''=>CX outer H s E e' s'') s'
theorem cell_has {sc:fI}(h:sc.names.lookup x=some .cell):∃ c,(cellsFrom n sc.names []).lookup x=some c:=by
 have q:=PySem.W.cellsFrom_some sc.names n [] (.inl h);exact Option.isSome_iff_exists.mp q
theorem inv_start {CX:CXT}{cd:ag}{s1:au}{E:XK}{vs:List V}
  (S:cp N ps scope) (hd:A.handled=none) (e0:Env0 P w K mg base A outer s H) (hl:vs.length=ps.length) (r:Vals vs us)
  (x:InCallC s s.heap.objs.size (bindL (envOfC qual scope s.heap.objs.size f cd).kindOf (ps.zip us) fun _=>none) (cellsFrom (s.heap.objs.size+1) scope.names []) (bindC (envOfC qual scope s.heap.objs.size f cd).kindOf (ps.zip us) fun _=>none) s1) :
  Inv (cxOf CX P w K mg base N qual scope f cd A outer s H E) [] (start N vs) H s1:=by
 have hpl:ps.length≤N.length:=by have:=rm List.length S.pre;rw [bG] at this;lia
 obtain ⟨h1,tk,rfl,hk⟩:=x.done;have noA:∀ b:ao,b ∉ (cxOf CX P w K mg base N qual scope f cd A outer s H E).ex:=fun b z=>rd (show b∈([]:List ao) from z) (by simp)
 refine ⟨⟨e0.mod,S.kind,rfl,rfl,aC _,fun y z c h1 h2=>?_,fun y hy=>?_,fun y c _ h=>?_,fun _=>hd,bW.frames_deeper e0.frames,.inr ⟨rfl,rfl⟩,fun b z=>rd z (noA b),e0.bs,e0.bsz,fun b _ _=>noA b,fun b z=>rd z (noA b),e0.funs,e0.frf⟩,
  rfl,e0.bare,Un.kept hk,⟨_,x.toInCall.ns,fun i y v h1 h2 h3=>?_⟩,fun y c h=>⟨_,x.cell y c h⟩,e0.hok.fresh (aC _),fun y c h=>?_,fun p hp=>rd (show p∈([]:List (ao×Obj)) from hp) (by simp),e0.hok.kept hk,?_⟩
 ·exact name_of_addr x.apart (cz h1) (cz h2)
 ·have hy:scope.names.lookup y=some .cell∨scope.names.lookup y=some .free:=hy
  rcases hy with hy | hy
  ·exact cell_has hy
  ·exact rd rfl (S.nofree _ (cz hy))
 ·exact iW (x.above y c (cz h))
 ·have hi:i<vs.length:=by
   unfold start at h2
   by_cases hi:i<vs.length
   ·exact hi
   ·rw [bZ (by simpa using hi)] at h2
    rw [List.getElem?_replicate] at h2;split at h2 <;> cases h2
  have ha:vs[i]? =some v:=by
   unfold start at h2;rw [gw (by simpa using hi),az] at h2;cases e:vs[i]? with
   | none=>rw [e] at h2;cases h2
   | some a=>rw [e] at h2;cases h2;rfl
  obtain ⟨u,hu,rv⟩:=r.get ha;have hp:ps[i]? =some y:=by
   rw [←S.pre,List.getElem?_take_of_lt (by lia)];exact h1
  have ndP:ps.Nodup:=by rw [←S.pre];exact S.nd.sublist (List.take_sublist _ _)
  refine ⟨u,rv,?_⟩
  rcases S.par y (bt hp) with k | k
  ·exact .inl ⟨k,bindL_get ndP hp hu k⟩
  ·obtain ⟨c,e⟩:=cell_has (n:=s.heap.objs.size+1) k
   refine .inr ⟨.inl k,c,e,?_⟩;have q:=x.cell y c e;rw [bindC_get ndP hp hu (by show scope.names.lookup y≠_;rw [k];decide)] at q;exact q
 ·exact e0.hok.fresh (iW (x.above y c (cz h)))
 ·unfold start
  show _=N.length;rw [av,aa,iw];lia
theorem fn_of {CX:CXT}{k:Nat}{body:List cV}{dV kV doc pm cdv ct oc:ag}{an od:Option ao}
  {sp:Sp} (lk:K.lookup f=some ⟨oc,od,.func (eC name qual params body scope dV kV doc pm an cdv ct),osl⟩) (hcd:iA K cdv qual=true) (S:cp N ps scope)
  (len:∀ vs H Q E,sp vs H Q E→vs.length=ps.length)
  (hbody:∀ (A:bW) (outer:List Env) (s:au) (H:Hp) (vs:List V) (Q:VK) (E:XK),Room k (A.deeper (envOfC qual scope s.heap.objs.size f cdv))→sp vs H Q E →
   ∃ t,PSs (cxOf CX P w K mg base N qual scope f cdv A outer s H E) body t∧t { nx:=fun _ H'=>Q .non H',rt:=Q } (start N vs) H) :
  dv P w K mg base CX (k+1) f (eC name qual params body scope dV kV doc pm an cdv ct) ps sp:=by
 refine ⟨len,fun A outer s H args us vs Q E hr e0 hb r hsp=>?_⟩;have hl:=len _ _ _ _ hsp;have KX:K.In s.heap:=e0.mod.kin.keeps fun b o e=>(e0.bs b o e).1
 have lim:s.heap.NoLimit:=e0.mod.nolimit.keeps fun b o e=>(e0.bs b o e).1
 have mH:∀ y∈ps.zip us,scope.names.lookup y.1=some .local∨(scope.names.lookup y.1=some .cell∧((cellsFrom (s.heap.objs.size+1) scope.names []).lookup y.1).isSome=true):=fun ⟨n,v⟩ hy=>by
  rcases S.par n (List.of_mem_zip hy).1 with q | q
  ·exact .inl q
  ·exact .inr ⟨q,PySem.W.cellsFrom_some _ _ _ (.inl q)⟩
 refine codeAny_call_function hr.depth (KX _ _ lk) rfl S.co S.gen rfl (PySem.W.codeRec_of KX hcd) (hb _ _ _ _ ?_);refine wpAny_newFunctionEnv_cells S.kind mH fun env he s1 x=>?_
 subst he;refine ⟨lim.keeps x.toInCall.keep,codeAny_func ?_⟩;obtain ⟨t,ht,hq⟩:=hbody A outer s H vs Q E (hr.deeper _) hsp;have I:Inv (cxOf CX P w K mg base N qual scope f cdv A outer s H E) [] (start N vs) H s1:=inv_start S hr.hd e0 hl r x;refine cy (ht [] s1 (start N vs) H _ I hq) (fun fl s' hs=>?_) fun e s' hs=>hs
 have fin:∀ {σ':St} {H':Hp} {v:V} {u:ag},Inv (cxOf CX P w K mg base N qual scope f cdv A outer s H E) [] σ' H' s'→RelV v u→Q v H'→CE outer P w H s Q u s' :=
  fun {σ' H' v u} J rv q=>⟨v,H',J.os,J.bare,J.base,J.hok,rv,q⟩
 cases fl with
 | ret u =>
  obtain ⟨v,σ',H',J,rv,q⟩:=hs;exact fin J rv q
 | next =>
  obtain ⟨σ',H',J,q⟩:=hs;exact fin (v:=V.non) (u:=ag.none) J rfl q
 | brk =>
  obtain ⟨_,_,_,q⟩:=hs;exact df q
 | cont =>
  obtain ⟨_,_,_,q⟩:=hs;exact df q
section
variable {p:Pos}{id:String}{r:List V→Hp→VK→Prop}
def tCB (r:List V→Hp→VK→Prop)(t:TA):TE:=fun σ H Q=>t σ H fun vs H1=>r vs H1 Q
theorem cM (hc:CallR X (.builtin id) r)(hg:Gl X x)(hm:X.mg x=none)(hv:bootBuiltins x=some (.builtin id))(ha:PA X (e::es) t)(hn:x ≠ "__name__" := by decide)(hdb:(x == ("__debug__" :Str))=false:=by decide)
  (he:bD (e::es) X.env=(false,eV e X.env)::bD es X.env:=by rfl) (hpl:(gz pos (bD es X.env)).any (·.1)=false:=by rfl):PE X (.Call (.Name x p) (e::es) [] pos) (tCB r t):=by
 intro aP s σ H Q I h;refine fc (lV I hg hm hv ?_ hn hdb);exact PyProof.Rows.callWith_builtin1 (thn (ha pos aP s σ H _ I h) fun us s1 ⟨vs,H1,I1,r1,q1⟩=>hc aP s1 σ H1 vs us Q I1 r1 q1) he hpl
theorem fG (hc:CallR X (.type T) r)(hg:Gl X x)(hm:X.mg x=none)(hv:bootBuiltins x=some (.type T))(ha:PA X (e::es) t)(hn:x ≠ "__name__" := by decide)(hdb:(x == ("__debug__" :Str))=false:=by decide)
  (he:bD (e::es) X.env=(false,eV e X.env)::bD es X.env:=by rfl) (hpl:(gz pos (bD es X.env)).any (·.1)=false:=by rfl):PE X (.Call (.Name x p) (e::es) [] pos) (tCB r t):=by
 intro aP s σ H Q I h;refine fc (lV I hg hm hv ?_ hn hdb);exact eS (thn (ha pos aP s σ H _ I h) fun us s1 ⟨vs,H1,I1,r1,q1⟩=>hc aP s1 σ H1 vs us Q I1 r1 q1) he hpl
end
end L2
variable {CW:L2.St→L2.VK→L2.It→L2.Hp→Prop}{CX:L2.CXT}{g:L2.TG}{wi:L2.TI}
namespace HT
open PySem PyProof.Rows
theorem cat_tup {t b:ao}{ws:List ag}(ht:IsTup s.heap t vs.toArray)(hb:IsTup s.heap b ws.toArray)(hv:vs≠[])
  (h1:ws=[]→Q (.ref t) s) (h2:ws≠[]→Q (.ref s.heap.objs.size) { s with heap:=s.heap.push { cls:= .type "tuple",data:= .seq (vs++ws).toArray } })
  (hsz:vs.length+ws.length≤bq):aW (bz prog w) A (gW .Add (.ref t) (.ref b)) Q E s:=by
 obtain ⟨⟨cls,dd,data,sl⟩,ho,hc,n,hd⟩:=id ht;obtain ⟨⟨cls2,dd2,data2,sl2⟩,ho2,hc2,n2,hd2⟩:=id hb;simp only at hc hd hc2 hd2;subst hc hd hc2 hd2;have e:vs.toArray++ws.toArray=(vs++ws).toArray:=by simp
 by_cases hw:ws=[]
 ·exact concat_meets ⟨_,ho,rfl⟩ ⟨_,ho2,rfl⟩ noFill_tuple_add seq_tuple_add PySem.F.slot_tuple_add ly (kN _ _)
   (tuple_addW1 t b vs.toArray ws.toArray n n2 dd dd2 sl sl2 (by simpa using hv) (by simp [hw])) ⟨ho,ho2,h1 hw⟩
 ·refine concat_meets ⟨_,ho,rfl⟩ ⟨_,ho2,rfl⟩ noFill_tuple_add seq_tuple_add PySem.F.slot_tuple_add ly (kN _ _)
   (tuple_addW2 t b vs.toArray ws.toArray n n2 dd dd2 sl sl2 (by simpa using hv) (by simpa using hw) (by rw [aE,aE];exact hsz)) ⟨ho,ho2,?_⟩
  rw [e];exact h2 hw
def sIx (n d:Nat):Option Int→Nat
 | none=>d
 | some v=>if v<0 then (v+(n:Int)).toNat else min v.toNat n
theorem sIx_nat (n d k:Nat):sIx n d (some (k:Int))=min k n:=by
 show (if (k:Int)<0 then ((k:Int)+(n:Int)).toNat else min (k:Int).toNat n)=min k n;rw [qZ (by lia),cQ]
theorem sIx_le (n d:Nat)(hd:d≤n)(o:Option Int):sIx n d o≤n:=by
 cases o with
 | none=>exact hd
 | some v =>
  show (if v<0 then (v+(n:Int)).toNat else min v.toNat n)≤n
  by_cases hv:v<0
  ·rw [q9 hv];lia
  ·rw [qZ hv];exact Nat.min_le_right _ _
theorem clip_eq (v:Int)(n d:Nat):(if v<0 then max (v+(n:Int)) 0 else min v (n:Int))=((sIx n d (some v):Nat):Int):=by
 show (if v<0 then max (v+(n:Int)) 0 else min v (n:Int))=(((if v<0 then (v+(n:Int)).toNat else min v.toNat n):Nat):Int)
 by_cases hv:v<0
 ·simp only [q9 hv];lia
 ·simp only [qZ hv];lia
theorem adjust_gen (lo hi:Option Int)(n:Nat):jZ lo hi 1 (n:Int)=(((sIx n 0 lo:Nat):Int),((sIx n n hi:Nat):Int)):=by
 have h1:¬ ((1:Int)<0):=by lia
 unfold jZ;simp only [h1,if_false];refine Prod.ext ?_ ?_
 ·cases lo with
  | none=>rfl
  | some v=>exact clip_eq v n 0
 ·cases hi with
  | none=>rfl
  | some v=>exact clip_eq v n n
theorem places_gen (i j:Nat):cS (i:Int) (j:Int) 1=j - i:=by
 unfold cS;have h1:(1:Int) > 0:=by lia
 simp only [h1,if_true,Int.ediv_one];split <;> lia
theorem qH {v:ag}{o:Option Int}{Q:Option Int→au→Prop}(p:IsPart v o)(h:Q o s):aW (bz prog w) A (fY.Slice.slicePartIndex v) Q E s:=by
 cases p with
 | none=>exact jO h
 | int i t=>exact slicePart_int h
theorem sliceApplied_gen {vl vu:ag}{lo:Option Int}{Q:Int×Int×Nat→au→Prop}(hs:s.heap.IsSliceOf sl vl vu .none)(pl:IsPart vl lo)(pu:IsPart vu hi)
  (h:Q (((sIx n 0 lo:Nat):Int),1,sIx n n hi - sIx n 0 lo) s):aW (bz prog w) A (eY (.ref sl) (fP (n:Int))) Q E s:=by
 obtain ⟨os,hos,hcs,hds⟩:=id hs;unfold eY jY;refine ah (ah (dm hos hds (x:=vl) rfl (ah (dm hos hds (x:=vu) rfl (ah (dm hos hds (x:= .none) rfl (aL ?_)))))));refine ah (jO ?_);show aW _ _ (if ((1:Int) == 0)=true then _ else _) _ _ s;rw [qZ (by decide)];refine ah (qH pl (ah (qH pu (ah (aL ?_)))));show aW _ _ (match jZ lo hi 1 (n:Int) with | (lo,hi)=>fP (lo,(1:Int),cS lo hi 1)) _ _ s;rw [adjust_gen lo hi n];show aW _ _ (fP (((sIx n 0 lo:Nat):Int),(1:Int),cS ((sIx n 0 lo:Nat):Int) ((sIx n n hi:Nat):Int) 1)) _ _ s;rw [places_gen];exact aL h
theorem pick_gen (xs:Array ag)(i k:Nat):((aQ k).filterMap fun (m:Nat)=>xs[((i:Int)+(m:Int) * 1).toNat]?).toArray=((xs.toList.drop i).take k).toArray:=by
 have e:(fun (m:Nat)=>xs[((i:Int)+(m:Int) * 1).toNat]?)=fun m=>xs[i+m]? := by
  funext m
  have:((i:Int)+(m:Int) * 1).toNat=i+m:=by lia
  rw [this]
 rw [e];have:=pick_run xs i k;rw [List.filterMap_map] at this;have e2:((fun x=>xs[x]?) ∘ fun x=>i+x)=fun m=>xs[i+m]? := rfl
 rw [e2] at this;rw [this]
theorem getItem_tuple_cut {t:ao}{vl vu:ag}{lo:Option Int}(ht:IsTup s.heap t items)(hs:s.heap.IsSliceOf sl vl vu .none)(pl:IsPart vl lo)(pu:IsPart vu hi)
  (hw:¬ (sIx items.size 0 lo=0∧sIx items.size items.size hi=items.size))
  (h:Q (.ref s.heap.objs.size) { s with heap:=s.heap.push { cls:= .type "tuple",data:= .seq ((items.toList.drop (sIx items.size 0 lo)).take (sIx items.size items.size hi - sIx items.size 0 lo)).toArray } })
  (hsz:items.size≤bq):aW (bz prog w) A (i8 (.ref t) (.ref sl)) Q E s:=by
 have htake:sizeOk (.seq ((items.toList.drop (sIx items.size 0 lo)).take (sIx items.size items.size hi - sIx items.size 0 lo)).toArray):=by
  show ((items.toList.drop (sIx items.size 0 lo)).take (sIx items.size items.size hi - sIx items.size 0 lo)).toArray.size≤bq;rw [aE,bG,dW,cU];lia
 have hj:sIx items.size items.size hi≤items.size:=sIx_le _ _ (aC _) hi;obtain ⟨os,hos,hcs,hds⟩:=id hs;have hTs:s.TypeIs (.ref sl) "slice" := ⟨os,hos,hcs⟩;unfold i8
 try with_reducible refine dZ ?_
 first | refine ah (aL ?_) | skip
 refine ah (wpAny_sequenceKey ht.typeIs (by decide) ?_);refine ah (eD (name:=cZ "__getitem__") ht.typeIs bO
  (gp bO ht.typeIs kR ?_ (lJ _ _)))
 show aW _ _ (ia (.ref t) >>= _) _ _ s;refine ah (tupleItemsOf_ ht ?_);refine ah (wpAny_typeOf hTs ?_);rw [q9 (by decide)];refine ah (sliceApplied_gen hs pl pu ?_);have hno:¬ ((((sIx items.size 0 lo:Nat):Int) == 0 && (1:Int) == 1 && (sIx items.size items.size hi - sIx items.size 0 lo) == items.size)=true):=by
  intro q;rw [dX,dX] at q;have q1:((sIx items.size 0 lo:Nat):Int)=0:=eq_of_beq q.1.1;have q2:sIx items.size items.size hi - sIx items.size 0 lo=items.size:=eq_of_beq q.2;exact hw ⟨by lia,by lia⟩
 show aW _ _ (if (((sIx items.size 0 lo:Nat):Int) == 0 && (1:Int) == 1 && (sIx items.size items.size hi - sIx items.size 0 lo) == items.size)=true then _ else _) _ _ s;rw [qZ hno,pick_gen]
 first
  | exact ah (m:=dM _) (dh (aL ⟨_,rfl,aL h⟩) htake)
  | exact ah (m:=dM _) (dh (ah (aL (aL ⟨_,rfl,aL h⟩))) htake)
  | exact ah (ah (m:=dM _) (dh (aL (aL ⟨_,rfl,aL h⟩)) htake))
  | exact ah (ah (m:=dM _) (dh (aL ⟨_,rfl,aL h⟩) htake))
end HT
namespace L2
open PySem PySem.Spec PyProof.Rows
abbrev TO:=St→Hp→(Option Int→Hp→Prop)→Prop
def PO (X:Cx)(e:Option Expr)(t:TO):Prop :=
 ∀ (aP:List (ao×Obj)) (s:au) (σ:St) (H:Hp) (Q:Option Int→Hp→Prop),Inv X aP σ H s→t σ H Q →
  aW (bz X.prog X.w) X.A (evalPart e X.env) (fun u s'=>∃ o H',Inv X aP σ H' s'∧IsPart u o∧Q o H') X.xe s
def tNoPart:TO:=fun _ H Q=>Q none H
def tPart (t:TE):TO:=fun σ H Q=>t σ H fun x H1=>∃ i,x= .int i∧Q (some i) H1
section
variable {lo hi:Option Expr}{tl th:TO}
theorem oa:PO X none tNoPart:=by
 intro aP s σ H Q I h;rw [evalPart_none];exact aL ⟨none,H,I,.none,h⟩
theorem nZ (h:PE X e te):PO X (some e) (tPart te):=by
 intro aP s σ H Q I hw;rw [evalPart_some];refine thn (h aP s σ H _ I hw) fun u s1 ⟨x,H1,I1,r1,q1⟩=>?_
 obtain ⟨i,rfl,q⟩:=q1;obtain ⟨t,rfl⟩:=r1;exact ⟨some i,H1,I1,.int i t,q⟩
def SlR (X:Cx)(r:V→Option Int→Option Int→Hp→VK→Prop):Prop :=
 ∀ (aP:List (ao×Obj)) (s:au) (σ:St) (H:Hp) (x:V) (v vl vu:ag) (lo hi:Option Int) (sl:ao) (Q:VK),Inv X aP σ H s→RelV x v→s.heap.IsSliceOf sl vl vu .none→IsPart vl lo→IsPart vu hi→r x lo hi H Q →
  ∃ T id,typeLookup (.type T) "__getitem__" =fP (some (.builtin id))∧s.TypeIs v T∧aW (bz X.prog X.w) X.A (i8 v (.ref sl)) (EP X aP σ Q) X.xe s
def tSl (r:V→Option Int→Option Int→Hp→VK→Prop)(te:TE)(tl th:TO):TE:=fun σ H Q=>te σ H fun x H1=>tl σ H1 fun l H2=>th σ H2 fun u H3=>r x l u H3 Q
theorem l9 (hr:SlR X r)(he:PE X e te)(hl:PO X lo tl)(hu:PO X hi th):PE X (.Subscript e (.Slice lo hi none p2) pos) (tSl r te tl th):=by
 intro aP s σ H Q I h;refine Subscript_ (thn (he aP s σ H _ I h) fun v s1 ⟨x,H1,I1,r1,q1⟩=>?_);refine wpAny_Slice (thn (hl aP s1 σ H1 _ I1 q1) fun vl s2 ⟨l,H2,I2,pl,q2⟩=>thn (hu aP s2 σ H2 _ I2 q2) fun vu s3 ⟨u,H3,I3,pu,q3⟩=>?_);rw [evalPart_none];refine aL ?_;have I4:Inv X aP σ H3 { s3 with heap:=s3.heap.push { cls:= .type "slice",data:= .fields #[vl,vu,.none] } }:=I3.kept (t':=s3.toks) fun b ob q=>ar _ q
 obtain ⟨T,id,hT,ht,hg⟩:=hr aP { s3 with heap:=s3.heap.push { cls:= .type "slice",data:= .fields #[vl,vu,.none] } } σ H3 x v vl vu l u s3.heap.objs.size Q I4 r1 (bK.IsSliceOf.new ..) pl pu q3;show aW (bz X.prog X.w) X.A (subscriptTail e (.Slice lo hi none p2) v (.ref s3.heap.objs.size)) (EP X aP σ Q) X.xe { s3 with heap:=s3.heap.push { cls:= .type "slice",data:= .fields #[vl,vu,.none] } };exact tail_any (ops:=[.ref s3.heap.objs.size,v]) ht hT hg (by with_unfolding_all rfl)
def cutV (xs:List V)(lo hi:Option Int):List V:=(xs.drop (HT.sIx xs.length 0 lo)).take (HT.sIx xs.length xs.length hi - HT.sIx xs.length 0 lo)
theorem qg (xs:List V)(lo hi:Option Int):(cutV xs lo hi).length≤xs.length:=by
 unfold cutV;rw [bG,dW];lia
def rSlT (K:ak):V→Option Int→Option Int→Hp→VK→Prop:=fun x lo hi H Q=>∃ a xs,x= .ref a∧SqT K H a xs ∧
 ¬ (HT.sIx xs.length 0 lo=0∧HT.sIx xs.length xs.length hi=xs.length)∧∀ p,H p=none→Q (.ref p) (upd H p (.tup (cutV xs lo hi)))
theorem sl_tup:SlR X (rSlT X.K):=by
 intro aP s σ H x v vl vu lo hi sl Q I rx hs pl pu h;obtain ⟨a,xs,rfl,hx,hw,q⟩:=h;cases rx;obtain ⟨its,r,ht,hz⟩:=I.tuple hx;have hlen:its.toArray.size=xs.length:=by rw [aE];exact r.length.symm
 refine ⟨"tuple",_,bO.lookup,ht.typeIs,?_⟩;refine HT.getItem_tuple_cut ht hs pl pu (by rw [hlen];exact hw) ?_ (by rw [hlen];exact hz);rw [hlen];refine ⟨.ref s.heap.objs.size,_,I.laid (t':=s.toks) (o:= .tup (cutV xs lo hi)) (fun b ob q=>ar _ q) (aC _) ?_,rfl,q _ (I.hok.fresh (aC _))⟩;exact ⟨bo (qg xs lo hi) hz,_,(r.drop (HT.sIx xs.length 0 lo)).take (HT.sIx xs.length xs.length hi - HT.sIx xs.length 0 lo),IsTupN.new _ _⟩
inductive rCatT (K:ak)(x:V)(y:V)(H:Hp)(Q:VK):Prop
 | mk (a b xs ys:_)(_:x= .ref a)(_:y= .ref b)(_:SqT K H a xs)(_:SqT K H b ys)(_:xs≠[])(_:xs.length+ys.length≤bq)(_:(ys=[]→Q (.ref a) H))(_:(ys≠[]→∀ p,H p=none→Q (.ref p) (upd H p (.tup (xs++ys)))))
theorem Vals.nil_iff (r:Vals xs us):us=[]↔xs=[]:=by
 cases r with
 | nil=>simp
 | cons _ _=>simp
theorem op_catT:OpR X (gW .Add) (rCatT X.K):=by
 intro aP s σ H x y v u Q I rx ry h;obtain ⟨a,b,xs,ys,rfl,rfl,ha,hb,hx,hz,q1,q2⟩:=h;cases rx;cases ry;obtain ⟨its,r1,p1,_⟩:=I.tuple ha;obtain ⟨its2,r2,p2,_⟩:=I.tuple hb;refine HT.cat_tup p1 p2 (fun z=>hx (r1.nil_iff.mp z)) (fun z=>⟨.ref a,H,I,rfl,q1 (r2.nil_iff.mp z)⟩) (fun z=>?_) (by rw [←r1.length,←r2.length];exact hz);refine ⟨.ref s.heap.objs.size,_,I.laid (t':=s.toks) (o:= .tup (xs++ys)) (fun b ob q=>ar _ q) (aC _) ?_,rfl,q2 (fun w=>z (r2.nil_iff.mpr w)) _ (I.hok.fresh (aC _))⟩;exact ⟨by rw [av];exact hz,_,r1.append r2,IsTupN.new _ _⟩
end
def ixN (n:Nat)(i:Int):Option Nat:=if 0≤i then (if i<n then some i.toNat else none) else if -(n:Int)≤i then some (i+n).toNat else none
def atI {α:Type}(xs:List α)(i:Int):Option α:=(ixN xs.length i).bind fun j=>xs[j]?
theorem ixN_seq {i:Int}(h:ixN n i=some j):seqIndex? i n=some j∧j<n∧ -(n:Int)≤i∧i<n:=by
 unfold ixN at h
 by_cases h0:0≤i
 ·rw [q9 h0] at h
  by_cases h1:i<n
  ·rw [q9 h1] at h
   have e:i.toNat=j:=cE h;exact ⟨by rw [seqIndex_of h0 h1,e],by lia,by lia,h1⟩
  ·rw [qZ h1] at h;cases h
 ·rw [qZ h0] at h
  by_cases h1: -(n:Int)≤i
  ·rw [q9 h1] at h
   have e:(i+n).toNat=j:=cE h;exact ⟨by rw [seqIndex_neg (by lia) h1,e],by lia,h1,by lia⟩
  ·rw [qZ h1] at h;cases h
theorem atI_get {xs:List α}{i:Int}{v:α}(h:atI xs i=some v):∃ j,seqIndex? i xs.length=some j∧xs[j]? =some v∧j<xs.length∧ -(xs.length:Int)≤i∧i<xs.length:=by
 unfold atI at h;cases e:ixN xs.length i with
 | none=>rw [e] at h;cases h
 | some j =>
  rw [e] at h;obtain ⟨h1,h2,h3,h4⟩:=ixN_seq e;exact ⟨j,h1,h,h2,h3,h4⟩
theorem aJ {xs:List α}{v:α}(h:xs[j]? =some v):atI xs (j:Int)=some v:=by
 have hj:j<xs.length:=(aq.mp h).1;have e:ixN xs.length (j:Int)=some j:=by
  unfold ixN;rw [q9 (by lia),q9 (by lia)];simp
 unfold atI;rw [e];exact h
theorem atI_last (xs:List α)(v:α):atI (xs++[v]) (-1)=some v:=by
 have hl:(xs++[v]).length=xs.length+1:=by simp
 have e:ixN (xs++[v]).length (-1)=some xs.length:=by
  unfold ixN;rw [hl,qZ (by decide),q9 (by lia)];congr 1;lia
 unfold atI;rw [e];show (xs++[v])[xs.length]? =some v;simp
def PlainIx (b:Expr):Prop:=∀ o i,subscripted b false o i=operate [o,i] (i8 o i)
def IxR (X:Cx)(r:R2):Prop :=
 ∀ (value slice:Expr) (aP:List (ao×Obj)) (s:au) (σ:St) (H:Hp) (x y:V) (v u:ag) (Q:VK),Inv X aP σ H s→RelV x v→RelV y u→r x y H Q →
  subscripted slice false v u=operate [v,u] (i8 v u)→aW (bz X.prog X.w) X.A (subscriptTail value slice v u) (EP X aP σ Q) X.xe s
def MtR (X:Cx)(id:String)(r:V→List V→Hp→VK→Prop):Prop :=
 ∀ (aP:List (ao×Obj)) (s:au) (σ:St) (H:Hp) (x:V) (xs:List V) (v:ag) (us:List ag) (Q:VK),Inv X aP σ H s→RelV x v→Vals xs us→r x xs H Q →
  aW (bz X.prog X.w) X.A (call (.builtin id) (v::us)) (EP X aP σ Q) X.xe s
section
variable {a b:Expr}{tb:TE}
theorem dN {r:R2}(hr:IxR X r)(ha:PE X a ta)(hb:PE X b tb)(hs:PlainIx b):PE X (.Subscript a b pos) (tOp r ta tb):=by
 intro aP s σ H Q I h;exact Subscript_ (binT ha hb I h fun v u s2 x y H2 I2 rx ry q=>hr a b aP s2 σ H2 x y v u Q I2 rx ry q (hs _ _))
inductive rIxL (K:ak)(x:V)(y:V)(H:Hp)(Q:VK):Prop
 | mk (p xs i v:_)(_:x= .ref p)(_:y= .int i)(_:SqL K H p xs)(_:atI xs i=some v)(_:Q v H)
inductive oU (K:ak)(x:V)(y:V)(H:Hp)(Q:VK):Prop
 | mk (p xs i v:_)(_:x= .ref p)(_:y= .int i)(_:SqT K H p xs)(_:atI xs i=some v)(_:Q v H)
theorem eE:IxR X (rIxL X.K):=by
 intro value slice aP s σ H x y v u Q I rx ry h hs;obtain ⟨p,xs,i,z,rfl,rfl,hq,he,q⟩:=h;cases rx;obtain ⟨t,rfl⟩:=ry;obtain ⟨its,r,pl,hz⟩:=I.list hq;obtain ⟨j,h1,h2,h3,h4,h5⟩:=atI_get he;obtain ⟨w,ew,rw'⟩:=r.get h2;have hl:=r.length;have hn:=line63;have fin:EP X aP σ Q w s:=⟨z,H,I,rw',q⟩
 by_cases h0:0≤i
 ·have hj:i.toNat=j:=by
   rw [seqIndex_of h0 h5] at h1;exact cE h1
  exact item_listR pl.isList h0 (by lia) (by rw [hj];simpa using ew) fin hs
 ·have hj:(i+(its.toArray.size:Int)).toNat=j:=by
   rw [seqIndex_neg (by lia) h4] at h1;rw [aE,←hl];exact cE h1
  exact subscriptTail_builtinR (x:=w) pl.isList.typeIs slot_list_getitem.lookup
   (wpAny_getItem_list_neg (Q:=fun r s'=>r=w∧EP X aP σ Q r s') pl.isList (by lia) (by rw [aE] <;> lia) (by lia) (by rw [hj];simpa using ew) ⟨rfl,fin⟩) hs
theorem dQ:IxR X (oU X.K):=by
 intro value slice aP s σ H x y v u Q I rx ry h hs;obtain ⟨p,xs,i,z,rfl,rfl,hq,he,q⟩:=h;cases rx;obtain ⟨t,rfl⟩:=ry;obtain ⟨its,r,pl,hz⟩:=I.tuple hq;obtain ⟨j,h1,h2,h3,h4,h5⟩:=atI_get he;obtain ⟨w,ew,rw'⟩:=r.get h2;have hl:=r.length;have hn:=line63;have fin:EP X aP σ Q w s:=⟨z,H,I,rw',q⟩;exact subscriptTail_builtinR (x:=w) pl.typeIs slot_tuple_getitem.lookup
  (getItem_tuple (j:=j) (Q:=fun r s'=>r=w∧EP X aP σ Q r s') pl (by lia) (by lia) (by rw [aE,←hl];exact h1) (by simpa using ew) ⟨rfl,fin⟩) hs
theorem mapSeq_set (its:List ag)(n j:Nat)(u:ag):cT (·.setIfInBounds j u) { cls:= .type "list",data:= .seq its.toArray n }={ cls:= .type "list",data:= .seq (its.set j u).toArray n }:=by
 simp [cT]
theorem Inv.lst {aP:List (ao×Obj)}{σ:St}{H:Hp}{s:au}{p:ao}{xs:List V}(I:Inv X aP σ H s)(h:H p=some (.lst xs)) :
  ∃ (its:List ag) (n:Nat),Vals xs its∧s.heap.get? p=some { cls:= .type "list",data:= .seq its.toArray n }∧xs.length≤bq:=by
 obtain ⟨z,its,n,r,e⟩:=I.hok p _ h;exact ⟨its,n,r,e,z⟩
theorem Inv.lstUpd {p:ao}{its':List ag}{n':Nat}{f:Obj→Obj}(I:Inv X aP σ H s)(h:H p=some (.lst xs))
  (ho:s.heap.get? p=some { cls:= .type "list",data:= .seq its.toArray n }) (hf:f { cls:= .type "list",data:= .seq its.toArray n }={ cls:= .type "list",data:= .seq its'.toArray n' }) (r:Vals ys its') (hz:ys.length≤bq) (t:Nat) :
  Inv X aP σ (upd H p (.lst ys)) { s with heap:=s.heap.update p f,toks:=t }:=by
 have e:(s.heap.update p f).get? p=some { cls:= .type "list",data:= .seq its'.toArray n' }:=by
  rw [bK.get?_update_self f ho (by rw [hf] <;> rfl),hf]
 refine I.write (x:=p) (e:=p) (by rw [h];trivial) (.inl rfl) (fun b u hb q=>(ju _ _ (bX hb)).trans q) ⟨_,e⟩ ?_;exact ⟨hz,its',n',r,e⟩
def rSetL:V→V→V→Hp→(Hp→Prop)→Prop:=fun o i v H Q=>∃ p xs k j,o= .ref p∧i= .int k∧H p=some (.lst xs)∧ixN xs.length k=some j∧Q (upd H p (.lst (xs.set j v)))
theorem set_list:PSet X rSetL:=by
 intro aP s σ H o i v ov iv u Q I ro ri rv h;obtain ⟨p,xs,k,j,rfl,rfl,hp,hj,q⟩:=h;cases ro;obtain ⟨t,rfl⟩:=ri;obtain ⟨its,n,r,ho,hz⟩:=I.lst hp;obtain ⟨h1,h2,h3,h4⟩:=ixN_seq hj;have hl:=r.length;have hn:=line63;have I':Inv X aP σ (upd H p (.lst (xs.set j v))) { s with heap:=s.heap.update p (cT (·.setIfInBounds j u)) } :=
  I.lstUpd hp ho (mapSeq_set its n j u) (r.set rv j) (by rw [fT];exact hz) s.toks
 by_cases h0:0≤k
 ·have hk:k.toNat=j:=by
   rw [seqIndex_of h0 h4] at h1;exact cE h1
  exact PySem.W.ki_setAt ho h0 (by lia) (by rw [aE,←hl];exact h4) (by rw [hk];exact ⟨_,I',q⟩)
 ·have hk:(k+(its.toArray.size:Int)).toNat=j:=by
   rw [seqIndex_neg (by lia) h3] at h1;rw [aE,←hl];exact cE h1
  exact PySem.W.ki_setBack ho (by lia) (by rw [aE,←hl];exact h3) (by lia) (by rw [hk];exact ⟨_,I',q⟩)
theorem slice_bounds (lo hi:Option Int)(n:Nat):(kq lo hi none n).1=((HT.sIx n 0 lo:Nat):Int)∧(kq lo hi none n).2.1=((HT.sIx n n hi:Nat):Int)∧(kq lo hi none n).2.2=1:=by
 refine ⟨?_,?_,rfl⟩
 ·cases lo with
  | none=>simp [kq,HT.sIx]
  | some i =>
   simp only [kq,HT.sIx,Option.getD_none,show (1:Int) > 0 by decide,if_true]
   by_cases h:i<0
   ·simp only [h,if_true] <;> lia
   ·simp only [h,if_false] <;> lia
 ·cases hi with
  | none=>simp [kq,HT.sIx]
  | some i =>
   simp only [kq,HT.sIx,Option.getD_none,show (1:Int) > 0 by decide,if_true]
   by_cases h:i<0
   ·simp only [h,if_true] <;> lia
   ·simp only [h,if_false] <;> lia
theorem slicePick_cut (its:List ag)(lo hi:Option Int):slicePick its.toArray lo hi none=((its.drop (HT.sIx its.length 0 lo)).take (HT.sIx its.length its.length hi - HT.sIx its.length 0 lo)).toArray:=by
 obtain ⟨h1,h2,h3⟩:=slice_bounds lo hi its.toArray.size;unfold slicePick;rw [h1,h2,h3];simp only [sliceRange_one,pick_run,aE] <;> rfl
def rSlL (K:ak):V→Option Int→Option Int→Hp→VK→Prop:=fun x lo hi H Q=>∃ a xs,x= .ref a∧SqL K H a xs∧∀ p,H p=none→Q (.ref p) (upd H p (.lst (cutV xs lo hi)))
theorem sl_list:SlR X (rSlL X.K):=by
 intro aP s σ H x v vl vu lo hi sl Q I rx hs pl pu h;obtain ⟨a,xs,rfl,hx,q⟩:=h;cases rx;obtain ⟨its,r,ht,hz⟩:=I.list hx;have hlen:=r.length;refine ⟨"list",_,slot_list_getitem.lookup,ht.isList.typeIs,?_⟩;refine wpAny_getItem_list_slice ht.isList hs pl pu .none (by simp) ?_ (by rw [aE] <;> lia);rw [slicePick_cut,←hlen];refine ⟨.ref s.heap.objs.size,_,I.laid (t':=s.toks) (o:= .lst (cutV xs lo hi)) (fun b ob q=>ar _ q) (aC _) ?_,rfl,q _ (I.hok.fresh (aC _))⟩;exact ⟨bo (qg xs lo hi) hz,_,0,(r.drop (HT.sIx xs.length 0 lo)).take (HT.sIx xs.length xs.length hi - HT.sIx xs.length 0 lo),aZ _ rfl⟩
def flatV:V→Bool
 | .non=>true
 | .bl _=>true
 | .int _=>true
 | .str _=>true
 | _=>false
def eqV:V→V→Bool
 | .non,.non=>true
 | .bl a,.bl b=>a == b
 | .bl a,.int b=>(if a then 1 else 0) == b
 | .int a,.bl b=>a == (if b then 1 else 0)
 | .int a,.int b=>a == b
 | .str a,.str b=>a == b
 | _,_=>false
theorem eqAt_V {x:V}{v:ag}(ry:RelV y u)(rx:RelV x v)(fy:flatV y=true)(fx:flatV x=true):SeqAt.EqAt A s u v (eqV y x):=by
 cases y with
 | non =>
  cases ry;cases x with
  | non=>cases rx;exact SeqAt.EqAt.same _
  | bl b=>cases rx;exact SeqAt.EqAt.none_bool b
  | int b=>obtain ⟨t,rfl⟩:=rx;exact SeqAt.EqAt.none_int b t
  | str b=>obtain ⟨t,rfl⟩:=rx;exact SeqAt.EqAt.none_str b t
  | _=>exact rd (show false=true from fx) aV
 | bl a =>
  cases ry;cases x with
  | non=>cases rx;exact SeqAt.EqAt.bool_none a
  | bl b=>cases rx;exact SeqAt.EqAt.bool_bool a b
  | int b=>obtain ⟨t,rfl⟩:=rx;exact SeqAt.EqAt.bool_int a b t
  | str b=>obtain ⟨t,rfl⟩:=rx;exact SeqAt.EqAt.bool_str a b t
  | _=>exact rd (show false=true from fx) aV
 | int a =>
  obtain ⟨t',rfl⟩:=ry;cases x with
  | non=>cases rx;exact SeqAt.EqAt.int_none a t'
  | bl b=>cases rx;exact SeqAt.EqAt.int_bool a t' b
  | int b=>obtain ⟨t,rfl⟩:=rx;exact SeqAt.EqAt.int_int a t' b t
  | str b=>obtain ⟨t,rfl⟩:=rx;exact SeqAt.EqAt.int_str a t' b t
  | _=>exact rd (show false=true from fx) aV
 | str a =>
  obtain ⟨t',rfl⟩:=ry;cases x with
  | non=>cases rx;exact SeqAt.EqAt.str_none a t'
  | bl b=>cases rx;exact SeqAt.EqAt.str_bool a t' b
  | int b=>obtain ⟨t,rfl⟩:=rx;exact SeqAt.EqAt.str_int a t' b t
  | str b=>obtain ⟨t,rfl⟩:=rx;exact SeqAt.EqAt.str_str a t' b t
  | _=>exact rd (show false=true from fx) aV
 | _=>exact rd (show false=true from fy) aV
def eqU (x:V)(u:ag):Bool:=match u with
 | .none=>eqV .non x
 | .bool b=>eqV (.bl b) x
 | .int i _=>eqV (.int i) x
 | .str z _=>eqV (.str z) x
 | _=>false
theorem eqU_of {x:V}(r:RelV y u)(f:flatV y=true):eqU x u=eqV y x:=by
 cases y with
 | non=>cases r;rfl
 | bl b=>cases r;rfl
 | int i=>obtain ⟨t,rfl⟩:=r;rfl
 | str z=>obtain ⟨t,rfl⟩:=r;rfl
 | _=>exact rd (show false=true from f) aV
theorem qj {x:V}:∀ {xs:List V} {us:List ag},Vals xs us→xs.all flatV=true→us.any (eqU x)=xs.any fun y=>eqV y x
 | _,_,.nil,_=>rfl
 | y::xs,u::us,.cons r t,f=>by
  rw [List.all_cons,dX] at f;rw [jX,jX,eqU_of r f.1,qj t f.2]
theorem nv {A:bW}{s:au}{x:V}{v:ag}(rx:RelV x v)(fx:flatV x=true):∀ {xs:List V} {us:List ag},Vals xs us→xs.all flatV=true→∀ u∈us,SeqAt.EqAt A s u v (eqU x u)
 | _,_,.nil,_=>fun u hu=>by cases hu
 | y::xs,u::us,.cons r t,f=>fun u' hu=>by
  rw [List.all_cons,dX] at f
  rcases aG.mp hu with rfl | hu
  ·rw [eqU_of r f.1];exact eqAt_V r rx f.1 fx
  ·exact nv rx fx t f.2 u' hu
def inV (x:V)(xs:List V):Bool:=xs.any fun y=>eqV y x
inductive rIn (K:ak)(neg:Bool)(x:V)(y:V)(H:Hp)(Q:VK):Prop
 | mk (p xs:_)(_:y= .ref p)(_:(SqL K H p xs∨SqT K H p xs))(_:flatV x=true)(_:xs.all flatV=true)(_:Q (.bl (if neg then !inV x xs else inV x xs)) H)
theorem op_in_seq:OpR X (fQ .In) (rIn X.K false):=by
 intro aP s σ H x y v u Q I rx ry h;obtain ⟨p,xs,rfl,hq,fx,fs,q⟩:=h;cases ry
 rcases hq with hq | hq
 ·obtain ⟨its,r,pl,hz⟩:=I.list hq
  refine SeqAt.in_listAt (eqU x) pl.isList (fun w hw=>nv rx fx r fs w (by simpa using hw)) ⟨.bl _,H,I,rfl,?_⟩;rw [show its.toArray.any (eqU x)=its.any (eqU x) by simp,qj r fs];exact q
 ·obtain ⟨its,r,pl,hz⟩:=I.tuple hq
  refine SeqAt.in_tupleAt (eqU x) pl (fun w hw=>nv rx fx r fs w (by simpa using hw)) ⟨.bl _,H,I,rfl,?_⟩;rw [show its.toArray.any (eqU x)=its.any (eqU x) by simp,qj r fs];exact q
theorem ow:OpR X (fQ .NotIn) (rIn X.K true):=by
 intro aP s σ H x y v u Q I rx ry h;obtain ⟨p,xs,rfl,hq,fx,fs,q⟩:=h;cases ry
 rcases hq with hq | hq
 ·obtain ⟨its,r,pl,hz⟩:=I.list hq
  refine SeqAt.notIn_listAt (eqU x) pl.isList (fun w hw=>nv rx fx r fs w (by simpa using hw)) ⟨.bl _,H,I,rfl,?_⟩;rw [show its.toArray.any (eqU x)=its.any (eqU x) by simp,qj r fs];exact q
 ·obtain ⟨its,r,pl,hz⟩:=I.tuple hq
  refine SeqAt.notIn_tupleAt (eqU x) pl (fun w hw=>nv rx fx r fs w (by simpa using hw)) ⟨.bl _,H,I,rfl,?_⟩;rw [show its.toArray.any (eqU x)=its.any (eqU x) by simp,qj r fs];exact q
theorem cg:CallR X (.builtin "len") (fun xs H Q=>∃ p ys,xs=[.ref p]∧(SqL X.K H p ys∨SqT X.K H p ys)∧Q (.int ys.length) H):=by
 intro aP s σ H xs us Q I r h;obtain ⟨p,ys,rfl,hq,q⟩:=h;obtain ⟨u,rfl,rx⟩:=oz r;cases rx;have hn:=line63
 rcases hq with hq | hq
 ·obtain ⟨its,r',pl,hz⟩:=I.list hq
  have hlen:=r'.length;exact Calls.call_len_list pl.isList (by simp only [aE] <;> lia) ⟨.int ys.length,H,I.tok _,⟨s.toks+1,by rw [aE,hlen]⟩,q⟩
 ·obtain ⟨its,r',pl,hz⟩:=I.tuple hq
  have hlen:=r'.length;exact len_tuple pl (by simp only [aE] <;> lia) ⟨.int ys.length,H,I.tok _,⟨s.toks+1,by rw [aE,hlen]⟩,q⟩
theorem call_list_of:CallR X (.type "list") (fun xs H Q=>∃ p ys,xs=[.ref p]∧(SqL X.K H p ys∨SqT X.K H p ys)∧∀ l,H l=none→Q (.ref l) (upd H l (.lst ys))):=by
 intro aP s σ H xs us Q I r h;obtain ⟨p,ys,rfl,hq,q⟩:=h;obtain ⟨u,rfl,rx⟩:=oz r;cases rx;have fin:∀ (its:List ag),Vals ys its→ys.length≤bq→∀ (h':bK) (c':Nat),(∀ b o',s.heap.get? b=some o'→h'.get? b=some o') →
   h'.get? s.heap.objs.size=some { cls:= .type "list",dict:=none,data:= .seq its.toArray c',slots:= #[] }→EP X aP σ Q (.ref s.heap.objs.size) { s with heap:=h' }:=fun its r' hz h' c' kp e =>
  ⟨.ref s.heap.objs.size,_,I.laid (t':=s.toks) kp (aC _) (show ObjOk X.prog X.w _ h' _ (.lst ys) from ⟨hz,its,c',r',e⟩),rfl,q _ (I.hok.fresh (aC _))⟩
 rcases hq with hq | hq
 ·obtain ⟨its,r',pl,hz⟩:=I.list hq
  have hlen:=r'.length;obtain ⟨o,ho,hc,n,hd⟩:=pl.isList;exact call_list_seq p (.inl rfl) ho hc hd (fun h' c' kp e=>fin its r' hz h' c' kp e) (by simp only [aE] <;> lia)
 ·obtain ⟨its,r',pl,hz⟩:=I.tuple hq
  have hlen:=r'.length;obtain ⟨o,ho,hc,n,hd⟩:=pl;exact call_list_seq p (.inr rfl) ho hc hd (fun h' c' kp e=>fin its r' hz h' c' kp e) (by simp only [aE] <;> lia)
theorem call_tuple_of:CallR X (.type "tuple") (fun xs H Q=>∃ p ys,xs=[.ref p]∧((SqL X.K H p ys∧∀ l,H l=none→Q (.ref l) (upd H l (.tup ys)))∨(SqT X.K H p ys∧Q (.ref p) H))):=by
 intro aP s σ H xs us Q I r h;obtain ⟨p,ys,rfl,h⟩:=h;obtain ⟨u,rfl,rx⟩:=oz r;cases rx
 rcases h with ⟨hq,q⟩ | ⟨hq,q⟩
 ·obtain ⟨its,r',pl,hz⟩:=I.list hq
  have hlen:=r'.length;refine call_tuple_list pl.isList (fun h' kp=>?_) (by simp only [aE] <;> lia);have I1:Inv X aP σ H { s with heap:=h' }:=I.kept (t':=s.toks) kp;have I2:Inv X aP σ (upd H h'.objs.size (.tup ys)) { s with heap:=h'.push { cls:= .type "tuple",data:= .seq its.toArray } } :=
   I1.laid (t':=s.toks) (fun b o e=>ar _ e) (aC _) (show ObjOk X.prog X.w _ _ _ (.tup ys) from ⟨hz,its,r',IsTupN.new _ _⟩)
  exact ⟨.ref h'.objs.size,_,I2,rfl,q _ (I1.hok.fresh (aC _))⟩
 ·obtain ⟨its,r',pl,hz⟩:=I.tuple hq
  exact call_tuple_same pl ⟨.ref p,H,I,rfl,q⟩
def tyV (K:ak)(T:String)(x:V)(H:Hp):Prop:=match x with
 | .str _=>T = "str"
 | .int _=>T = "int"
 | .ref p=>(T = "list" ∧∃ xs,SqL K H p xs)∨(T = "tuple" ∧∃ o,K.lookup p=some o∧o.cls= .type "tuple" ∧o.dict=none) ∨
   (T = "dict" ∧((∃ kvs,H p=some (.dK kvs))∨∃ kvs,H p=some (.dT kvs)))∨(T = "set" ∧∃ S n,H p=some (.set S n))
 | _=>False
theorem tyV_is {x:V}{v:ag}(I:Inv X aP σ H s)(r:RelV x v)(ty:tyV X.K T x H) :
  s.TypeIs v T∧∀ a,v= .ref a→∃ ob,s.heap.get? a=some ob∧ob.dict=none:=by
 cases x with
 | str z =>
  obtain ⟨t,rfl⟩:=r;cases (show T = "str" from ty);exact ⟨typeIs_str s z t,fun _ e=>nomatch e⟩
 | int i =>
  obtain ⟨t,rfl⟩:=r;cases (show T = "int" from ty);exact ⟨typeIs_int s i t,fun _ e=>nomatch e⟩
 | ref p =>
  cases r
  rcases ty with ⟨rfl,xs,hq⟩ | ⟨rfl,o,hk,hc,hd⟩ | ⟨rfl,hk⟩ | ⟨rfl,S,n,hk⟩
  ·obtain ⟨its,_,pl,_⟩:=I.list hq
   refine ⟨pl.isList.typeIs,fun a e=>?_⟩;cases e;obtain ⟨o,n,e,c,hd,_⟩:=pl;exact ⟨o,e,hd⟩
  ·refine ⟨⟨o,I.kIn p o hk,hc⟩,fun a e=>?_⟩
   cases e;exact ⟨o,I.kIn _ o hk,hd⟩
  ·have z:∃ o,s.heap.get? p=some o∧o.ExactDict:=by
    rcases hk with ⟨kvs,hk⟩ | ⟨kvs,hk⟩
    ·obtain ⟨_,_,_,_,o,_,_,e,ex,_⟩:=I.hok p _ hk
     exact ⟨o,e,ex⟩
    ·obtain ⟨_,_,_,_,o,_,_,e,ex,_⟩:=I.hok p _ hk
     exact ⟨o,e,ex⟩
   obtain ⟨o,e,ex⟩:=z;refine ⟨⟨o,e,ex.1⟩,fun a e2=>?_⟩;cases e2;exact ⟨o,e,ex.2.1⟩
  ·obtain ⟨o,_,_,_,e,ex,_⟩:=I.hok p _ hk
   refine ⟨⟨o,e,ex.1⟩,fun a e2=>?_⟩;cases e2;exact ⟨o,e,ex.2.1⟩
 | _=>exact df ty
def tBM0 (K:ak)(T:String)(r:V→List V→Hp→VK→Prop)(to:TE):TE:=fun σ H Q=>to σ H fun x H1=>tyV K T x H1∧r x [] H1 Q
def tBM (K:ak)(T:String)(r:V→List V→Hp→VK→Prop)(to:TE)(t:TA):TE:=fun σ H Q=>to σ H fun x H1=>tyV K T x H1∧t σ H1 fun xs H2=>r x xs H2 Q
variable {o:Expr}{apos cpos:Pos}{id:String}{r:V→List V→Hp→VK→Prop}
theorem qO (pa:PlainAttrs T)(slot:Slot T name id)(hty:typeOf (.builtin id)=fP (.type "method_descriptor"))(hm:MtR X id r)(ho:PE X o to)
  (hbase:attributeBase o name X.env (eV o X.env)=eV o X.env:=by rfl) (hline:(apos.endLine == cpos.line)=true:=by rfl):PE X (.Call (.Attribute o name apos) [] [] cpos) (tBM0 X.K T r to):=by
 intro aP s σ H Q I h;refine wpAny_Call_method0_late hbase hline (thn (ho aP s σ H _ I h) fun v s1 ⟨x,H1,I1,r1,ty,q1⟩=>?_);obtain ⟨h1,h2⟩:=tyV_is I1 r1 ty;exact ⟨T,id,pa,slot,hty,h1,h2,Calls.callWith_builtin rfl (PySem.evalArgs_none (hm aP s1 σ H1 x [] v [] Q I1 r1 .nil q1))⟩
theorem lH (pa:PlainAttrs T)(slot:Slot T name id)(hty:typeOf (.builtin id)=fP (.type "method_descriptor"))(hm:MtR X id r)(ho:PE X o to)(ha:PA X (e::es) t)
  (hbase:attributeBase o name X.env (eV o X.env)=eV o X.env:=by rfl)
  (hfew:((gz cpos (bD (e::es) X.env)).all (fun x=> !x.1) && (backToKw cpos (keywordEach [] X.env)).all (fun x=>x.1.isSome)
   && decide ((e::es).length+([]:List Keyword).length+(if ([]:List Keyword).isEmpty then 0 else 1)<30))=true:=by rfl)
  (hline:(apos.endLine == cpos.line)=true:=by rfl) (hs:bD (e::es) X.env=(false,eV e X.env)::bD es X.env:=by rfl) (hplain:(gz cpos (bD es X.env)).any (·.1)=false:=by rfl) :
  PE X (.Call (.Attribute o name apos) (e::es) [] cpos) (tBM X.K T r to t):=by
 intro aP s σ H Q I h;refine wpAny_Call_method_late hbase hfew hline rfl (thn (ho aP s σ H _ I h) fun v s1 ⟨x,H1,I1,r1,ty,q1⟩=>?_);obtain ⟨h1,h2⟩:=tyV_is I1 r1 ty;refine ⟨T,id,pa,slot,hty,h1,h2,?_⟩;have hA:=ha cpos aP s1 σ H1 _ I1 q1;rw [hs] at hA ⊢;refine Calls.callWith_builtin (by show (false || (gz cpos (bD es X.env)).any (·.1))=false;rw [hplain] <;> rfl) (Calls.evalArgs_plain ?_);exact thn hA fun us s2 ⟨vs,H2,I2,r2,q2⟩=>hm aP s2 σ H2 x vs v us Q I2 r1 r2 q2
end
def MtM (X:Cx)(id:String)(r:V→List V→Hp→VK→Prop):Prop :=
 ∀ (aP:List (ao×Obj)) (s:au) (σ:St) (H:Hp) (x:V) (xs:List V) (v:ag) (us:List ag) (Q:VK),Inv X aP σ H s→RelV x v→Vals xs us→r x xs H Q →
  aW (bz X.prog X.w) X.A (call (.builtin id) (v::us)) (EP X aP σ Q) X.xe s
theorem Vals.one:∀ {x:V} {us:List ag},Vals [x] us→∃ u,us=[u]∧RelV x u
 | _,_,.cons r .nil=>⟨_,rfl,r⟩
theorem Vals.zero:∀ {us:List ag},Vals [] us→us=[]
 | _,.nil=>rfl
theorem Vals.dropLast (h:Vals xs us):Vals xs.dropLast us.dropLast:=by
 induction h with
 | nil=>exact .nil
 | cons r t ih =>
  cases t with
  | nil=>exact .nil
  | cons q t'=>exact .cons r ih
theorem Vals.eraseIdx:∀ {xs:List V} {us:List ag} (i:Nat),Vals xs us→Vals (xs.eraseIdx i) (us.eraseIdx i)
 | _,_,_,.nil=> .nil
 | _,_,0,.cons _ t=>t
 | _,_,i+1,.cons r t=> .cons r (Vals.eraseIdx i t)
theorem Vals.rep {xs:List V}{us:List ag}(h:Vals xs us):∀ k:Nat,Vals (bU k xs).flatten (bU k us).flatten
 | 0=> .nil
 | k+1=>by
  rw [iZ,iZ,List.flatten_cons,List.flatten_cons];exact Vals.append h (Vals.rep h k)
theorem erase_last (l:List α):l.eraseIdx (l.length - 1)=l.dropLast:=by
 induction l with
 | nil=>rfl
 | cons a r ih =>
  cases r with
  | nil=>rfl
  | cons b r =>
   have e:(a::b::r).length - 1=((b::r).length - 1)+1:=by
    have h1:(a::b::r).length=r.length+2:=rfl;have h2:(b::r).length=r.length+1:=rfl;lia
   rw [e,List.eraseIdx_cons_succ,ih]
   all_goals rfl
theorem len_erase {α:Type}:∀ (l:List α) (i:Nat),(l.eraseIdx i).length≤l.length
 | [],_=>aC _
 | _::_,0=>j9 _
 | _::r,i+1=>jT (len_erase r i)
theorem foldl_rep (its:List ag):∀ (k:Nat) (acc:List ag),
  List.foldl (fun x1 x2=>x1++x2) acc.toArray (bU k its.toArray)=(acc++(bU k its).flatten).toArray
 | 0,acc=>by simp
 | k+1,acc=>by
  have e:acc.toArray++its.toArray=(acc++its).toArray:=by simp
  have e2:(acc++its)++(bU k its).flatten=acc++(bU (k+1) its).flatten:=by
   rw [iZ,List.flatten_cons,List.append_assoc]
  rw [←e2,←foldl_rep its k (acc++its),←e,iZ,bQ]
section
variable {l b:ao}
theorem Inv.lset {its':List ag}{f:Array ag→Array ag}(I:Inv X aP σ H s)(hH:H l=some (.lst xs))
  (e:s.heap.get? l=some { cls:= .type "list",data:= .seq its.toArray n }) (hf:f its.toArray=its'.toArray) (hv:Vals ys its') (hz:ys.length≤bq) :
  Inv X aP σ (upd H l (.lst ys)) { s with heap:=s.heap.update l (cT f),toks:=t' }:=by
 have q:=PySem.IsL.update e f;rw [hf] at q;refine I.write (x:=l) (e:=l) (by rw [hH];exact trivial) (.inl rfl) (fun b' u hb hu=>(ju s.heap (cT f) (bX hb)).trans hu) ⟨_,q⟩ ?_;exact ⟨hz,its',_,hv,q⟩
theorem Inv.lnew (I:Inv X aP σ H s)(hv:Vals ys its)(hz:ys.length≤bq) :
  Inv X aP σ (upd H s.heap.objs.size (.lst ys)) { s with heap:=s.heap.push { cls:= .type "list",data:= .seq its.toArray },toks:=t' } :=
 I.laid (fun _ _ q=>ar _ q) (aC _) ⟨hz,its,0,hv,aZ _ rfl⟩
theorem Inv.fresh (I:Inv X aP σ H s):H s.heap.objs.size=none:=I.hok.fresh (aC _)
theorem Inv.lstM (I:Inv X aP σ H s)(hH:H l=some (.lst xs)):xs.length≤bq∧∃ (its:List ag) (n:Nat),Vals xs its∧xs.length=its.length∧s.heap.get? l=some { cls:= .type "list",data:= .seq its.toArray n }:=by
 obtain ⟨z,its,n,r,e⟩:=I.hok l _ hH;exact ⟨z,its,n,r,r.length,e⟩
theorem notLongL (h:n≤bq):iE n=false:=by
 unfold iE;exact rh (by lia)
end
inductive rAppend (x:V)(vs:List V)(H:Hp)(Q:VK):Prop
 | mk (l xs y:_)(_:x= .ref l)(_:vs=[y])(_:H l=some (.lst xs))(_:xs.length<bq)(_:Q .non (upd H l (.lst (xs++[y]))))
theorem g9:MtM X "list.append" rAppend:=by
 intro aP s σ H x vs v us Q I rx rv h;obtain ⟨l,xs,y,rfl,rfl,hH,hz,q⟩:=h;cases rx;obtain ⟨u,rfl,ru⟩:=rv.one;obtain ⟨z,its,n,r,hl,e⟩:=I.lstM hH;refine call_meets F.slot_list_append ⟨_,e,rfl⟩ F.entry_list_append (F.args_list_append_2 _ _) (PySem.list_append l its.toArray n u (by rw [aE];lia)) ⟨e,?_⟩;refine ⟨.non,_,I.lset (its':=its++[u]) hH e (by simp) (r.append (.cons ru .nil)) ?_,rfl,q⟩;rw [av,iu];lia
inductive rExtend (x:V)(vs:List V)(H:Hp)(Q:VK):Prop
 | mk (l b xs zs:_)(_:x= .ref l)(_:vs=[.ref b])(_:H l=some (.lst xs))(_:H b=some (.lst zs))(_:xs.length+zs.length≤bq)(_:Q .non (upd H l (.lst (xs++zs))))
theorem mt_extend:MtM X "list.extend" rExtend:=by
 intro aP s σ H x vs v us Q I rx rv h;obtain ⟨l,b,xs,zs,rfl,rfl,hH,hB,hz,q⟩:=h;cases rx;obtain ⟨u,rfl,ru⟩:=rv.one;cases ru;obtain ⟨z,its,n,r,hl,e⟩:=I.lstM hH;obtain ⟨z2,its2,n2,r2,hl2,e2⟩:=I.lstM hB;have hsz:its.toArray.size+its2.toArray.size≤bq:=by rw [aE,aE];lia
 have hlong:¬ (!its.toArray.isEmpty && iE (its.toArray.size+its2.toArray.size))=true:=by
  rw [notLongL hsz,Bool.and_false];exact aV
 refine call_meets F.slot_list_extend ⟨_,e,rfl⟩ F.entry_list_extend (F.args_list_extend_2 _ _)
  (AutoSeq1.list_extend_list_list_0 l its.toArray n b its2.toArray n2 hlong (by rw [aE];lia) (by lia)) ⟨e,e2,?_⟩
 refine ⟨.non,_,I.lset (its':=its++its2) hH e (by simp) (r.append r2) ?_,rfl,q⟩;rw [av];lia
inductive rPop (x:V)(vs:List V)(H:Hp)(Q:VK):Prop
 | mk (l xs y:_)(_:x= .ref l)(_:vs=[])(_:H l=some (.lst xs))(_:xs[xs.length - 1]? =some y)(_:Q y (upd H l (.lst xs.dropLast)))
theorem qQ:MtM X "list.pop" rPop:=by
 intro aP s σ H x vs v us Q I rx rv h;obtain ⟨l,xs,y,rfl,rfl,hH,hy,q⟩:=h;cases rx;have hus:=rv.zero;subst hus;obtain ⟨z,its,n,r,hl,e⟩:=I.lstM hH;obtain ⟨u,hu,ru⟩:=r.get hy;have hy':its.toArray[its.toArray.size - 1]? =some u:=by
  show its.toArray[its.length - 1]? =some u;rw [←ir,←hl];exact hu
 refine call_meets F.slot_list_pop ⟨_,e,rfl⟩ F.entry_list_pop (F.args_list_pop_1 _) (MeetsSeq.list_pop_last l its.toArray n u hy' (by rw [aE];lia)) ⟨e,?_⟩;refine ⟨y,_,I.lset (its':=its.dropLast) hH e ?_ r.dropLast ?_,ru,q⟩
 ·show its.toArray.eraseIdxIfInBounds (its.toArray.size - 1)=its.dropLast.toArray
  rw [aE,List.eraseIdxIfInBounds_toArray,erase_last]
 ·rw [List.length_dropLast]
  lia
inductive rPopAt (x:V)(vs:List V)(H:Hp)(Q:VK):Prop
 | mk (l xs i k y:_)(_:x= .ref l)(_:vs=[.int i])(_:H l=some (.lst xs))(_: -(2 ^ 63)≤i)(_:i<2 ^ 63)(_:seqIndex? i xs.length=some k)(_:xs[k]? =some y)(_:Q y (upd H l (.lst (xs.eraseIdx k))))
theorem mt_popAt:MtM X "list.pop" rPopAt:=by
 intro aP s σ H x vs v us Q I rx rv h;obtain ⟨l,xs,i,k,y,rfl,rfl,hH,h1,h2,hk,hy,q⟩:=h;cases rx;obtain ⟨u,rfl,ru⟩:=rv.one;obtain ⟨t,rfl⟩:=ru;obtain ⟨z,its,n,r,hl,e⟩:=I.lstM hH;obtain ⟨w,hw,rw'⟩:=r.get hy;refine call_meets F.slot_list_pop ⟨_,e,rfl⟩ F.entry_list_pop (F.args_list_pop_2 _ _)
  (MeetsSeq.list_pop_at l its.toArray n i t k w (fitsIndex_both h1 h2) (by rw [aE,←hl];exact hk) (by rw [←ir];exact hw) (by rw [aE];lia)) ⟨e,?_⟩
 refine ⟨y,_,I.lset (its':=its.eraseIdx k) hH e ?_ (r.eraseIdx k) ?_,rw',q⟩
 ·show its.toArray.eraseIdxIfInBounds k=(its.eraseIdx k).toArray
  rw [List.eraseIdxIfInBounds_toArray]
 ·have:=len_erase xs k
  lia
inductive rCat (x:V)(y:V)(H:Hp)(Q:VK):Prop
 | mk (l b xs zs:_)(_:x= .ref l)(_:y= .ref b)(_:H l=some (.lst xs))(_:H b=some (.lst zs))(_:xs.length+zs.length≤bq)(_:∀ p,H p=none→Q (.ref p) (upd H p (.lst (xs++zs))))
theorem op_cat:OpR X (gW .Add) rCat:=by
 intro aP s σ H x y v u Q I rx ry h;obtain ⟨l,b,xs,zs,rfl,rfl,hH,hB,hz,q⟩:=h;cases rx;cases ry;obtain ⟨z,its,n,r,hl,e⟩:=I.lstM hH;obtain ⟨z2,its2,n2,r2,hl2,e2⟩:=I.lstM hB;refine PySem.P.add_list e e2 ?_ (by rw [aE,aE];lia);have ea:its.toArray++its2.toArray=(its++its2).toArray:=by simp
 rw [ea];exact ⟨.ref _,_,I.lnew (t':=s.toks) (r.append r2) (by rw [av];lia),rfl,q _ I.fresh⟩
inductive rRep (x:V)(y:V)(H:Hp)(Q:VK):Prop
 | mk (l k xs:_)(_:x= .ref l)(_:y= .int k)(_:H l=some (.lst xs))(_: -(2 ^ 63)≤k)(_:k<2 ^ 63)(_:xs.length * k.toNat≤bq)(_:∀ p,H p=none→Q (.ref p) (upd H p (.lst (bU k.toNat xs).flatten)))
theorem len_rep (xs:List α)(k:Nat):(bU k xs).flatten.length=k * xs.length:=by
 induction k with
 | zero=>simp
 | succ k ih=>rw [iZ,List.flatten_cons,av,ih,Nat.succ_mul,Nat.add_comm]
theorem op_rep:OpR X (gW .Mult) rRep:=by
 intro aP s σ H x y v u Q I rx ry h;obtain ⟨l,k,xs,rfl,rfl,hH,h1,h2,hz,q⟩:=h;cases rx;obtain ⟨t,rfl⟩:=ry;obtain ⟨z,its,n,r,hl,e⟩:=I.lstM hH;have hlen:its.toArray.size * k.toNat≤bq:=by rw [aE,←hl];exact hz
 have hcap:¬ its.toArray.size * k.toNat > (2 ^ 63 - 1) / 8:=by
  have:(bq:Nat)≤(2 ^ 63 - 1) / 8:=by decide
  lia
 have hfit:¬ (!Builtin.List.listFitsIndex k)=true:=by
  rw [fitsIndex_both h1 h2];exact aV
 have hlong:¬ iE (its.toArray.size * k.toNat)=true:=by
  rw [notLongL hlen];exact aV
 have hnew:List.foldl (fun x1 x2=>x1++x2) #[] (bU (if its.toArray.isEmpty=true then 0 else k.toNat) its.toArray)=(bU k.toNat its).flatten.toArray:=by
  have f0:∀ m:Nat,List.foldl (fun x1 x2=>x1++x2) #[] (bU m its.toArray)=(bU m its).flatten.toArray:=fun m=>by
   have:=foldl_rep its m [];rw [List.nil_append] at this;exact this
  rw [f0];cases its with
  | nil=>simp
  | cons a r'=>rw [qZ (by simp)]
 refine wpAny_binaryOp_repeat_ref (T := "list") (U := "int") (by decide) ⟨_,e,rfl⟩ (fun s'=>typeIs_int s' k t) noFill_list_mul F.fills_int_mul F.slot_int_rmul repeat_list F.slot_int_index.lookup
  (call_meets F.slot_int_rmul (typeIs_int s k t) F.entry_int_rmul (F.args_int_rmul_2 _ _) (int___rmul___int_list k t l its.toArray n)
   ⟨e,rfl,⟨_,e,rfl⟩,call_meets F.slot_list_mul ⟨_,e,rfl⟩ F.entry_list_mul (F.args_list_mul_2 _ _) (AutoListH.list___mul___list_int_3 l its.toArray n k t hfit hcap hlong) ⟨e,?_⟩⟩)
 rw [hnew];exact ⟨.ref _,_,I.lnew (t':=s.toks) (r.rep k.toNat) (by rw [len_rep,jF];exact hz),rfl,q _ I.fresh⟩
end L2
namespace Att
open PySem PySem.W PySem.Calls PyProof.Rows
theorem p9 {P:Params}:∀ (ns:List Int) (vs:List ag),WellAll P h vs (ns.map WData.int)→IntsAre vs ns:=by
 intro ns
 induction ns with
 | nil =>
  intro vs w;rw [List.map_nil] at w;cases w;exact .nil
 | cons n ns ih =>
  intro vs w;rw [cj] at w;cases w with
  | cons a b =>
   cases a;exact .cons _ _ (ih _ b)
theorem script_of {l:OpenLaw}(hn:l.most=some n){P:Params}{args:List WData}{vals:List ag}
  (hpre:l.row.toRowW.claim.pre args=true) (hwl:WellAll P h vals args) :
  ∃ a vs ns,vals=[ag.ref a]∧args=[WData.list (ns.map WData.int)]∧h.get? a=some { cls:= .type "list",data:= .seq vs.toArray }∧IntsAre vs ns∧ns.length≤n:=by
 have hsh:WShape.hasAll [] args [.list .int]=true:=(pre_splitW hpre).1;have hc:l.pre.holds [] { args:=args }=true:=(pre_splitW hpre).2;obtain ⟨d,r,rfl,h1,h2⟩:=hasAllW_cons hsh;obtain rfl:=hasAllW_nil h2;obtain ⟨xs,rfl,h3⟩:=hasW_list h1;obtain ⟨ns,rfl⟩:=items_int h3;have hlen:ns.length≤n:=by
  unfold OpenLaw.pre at hc;have h4:(WTm.not (.lt (.lit (.int (n:Int))) (.len (.arg 0)))).holds [] { args:=[.list (ns.map .int)] }=true:=by
   have h4:=(holds_andW hc).1;rw [hn] at h4;exact h4
  have h5:=condW_of h4 (w_not (w_lt w_lit (w_len_list (w_arg rfl))));rw [aa] at h5;refine Nat.le_of_not_lt fun q=>?_
  have q':(n:Int)<((ns.length:Nat):Int):=by lia
  first
   | (rw [rf q'] at h5;exact rd h5 (by decide))
   | (simp at h5;lia)
 cases hwl with
 | cons w1 w2 =>
  cases w2;cases w1 with
  | list ho hall=>exact ⟨_,_,ns,rfl,rfl,ho,p9 ns _ hall,hlen⟩
theorem post_true (l:OpenLaw)(args:List WData):l.row.toRowW.claim.post args (.bool true) args=true :=
 postW_of (r:=l.row.toRowW) (X:=(true == true))
  (show WShape.has [] (.bool true) .bool=true by first | rfl | decide | simp [WShape.has,WShape.arms,WShape.armsAll])
  (show (WTm.eq .res (.lit (.bool true))).value [] { args:=args,res:=some (.bool true),after:=args }=some (.bool (true == true)) from w_eq_bool (w_res rfl) w_lit) rfl
theorem attach_call {l:OpenLaw}{q:aY}{d:DefRec}
  (hn:l.most=some n) (hdf:d.params.defaults=[])
  (call:∀ (w:bE) (s₀ s₁:au) (mg mb:Str→Option ag) (fa:ao) (o:Obj) (pm cd doc:ag) (a:ao) (vs:List ag) (ns:List Int),
   Ground q loose [] XP w s₀ mg mb s₁.heap→YP w s₁.heap →
   s₁.heap.get? fa=some o→o.data= .func (docDef d.name d.params d.body d.scope pm cd doc)→s₁.heap.CodeRec cd d.name→mg d.name=some (.ref fa) →
   s₁.heap.get? a=some { cls:= .type "list",data:= .seq vs.toArray }→IntsAre vs ns→ns.length≤n→s₁.gens= #[] →
   jo (bz l.prog w) callerA (.call (.ref fa) ⟨[.ref a],[]⟩) (fun r s'=>r= .ok (.ret (.bool true))∧OldK s₁.heap s'.heap∧s'.os=s₁.os∧AllBare s'.gens) s₁) :
  WalkO q loose XP YP l.row.toRowW d [] (fun f vs=>PySem.call f vs):=by
 intro w s₀ s₁ mg mb G Y fa o pm cd doc dV kV ho hd hcd hD hmg hg args vals as hpre hlay hrd hwl hlo;obtain rfl:dV= .none:=Dflts.none hD hdf;obtain rfl:kV= .none:=Dflts.noKw hD;obtain ⟨a,vs,ns,rfl,rfl,hobj,hints,hlen⟩:=script_of hn hpre hwl;refine enter_call (codeAny_mono (call w s₀ s₁ mg mb fa o pm cd doc a vs ns G Y ho (fd_plain hd) hcd hmg hobj hints hlen hg) fun r s' hq=>?_);obtain ⟨rfl,h2,h3,h4⟩:=hq;exact ⟨.inl ⟨.bool true,.bool true,[],rfl,fun _=>rfl,.bool true,post_true l _,fun _=>⟨List.Pairwise.nil,fun _ hm=>(nomatch hm)⟩⟩,h2,h3,h4⟩
end Att
namespace L2
open PySem PySem.Spec PyProof.Rows
theorem o4:∀ {vs:List ag} {ns:List Int},IntsAre vs ns→Vals (ns.map V.int) vs
 | _,_,.nil=> .nil
 | _,_,.cons n t h=> .cons ⟨t,rfl⟩ (o4 h)
abbrev CX0:CXT:=fun _ _ _ _ _ _=>False
abbrev E0:XK:=fun _ _ _=>False
theorem pass0:qW CX0 X E0:=fun _ _ _ _ _ _ _ h=>h.elim
structure Fun (K:ak)(x qual:Str)(st:cV)(f:ao)(fd:bw):Prop where
 ex:∃ (oc:ag) (od:Option ao) (kV doc pm:ag) (an:Option ao) (cdv ct:ag) (osl:Array (Option ag)),
  fd=eC x qual (jn st) (fS st) (defScope st) .none kV doc pm an cdv ct∧K.lookup f=some ⟨oc,od,.func fd,osl⟩∧iA K cdv qual=true
 kp:fe K (.ref f)=true
theorem Fun.ok {k:Nat}{sp:Sp}(F:Fun K x qual st f fd)(S:cp N ps (defScope st))(len:∀ vs H Q E,sp vs H Q E→vs.length=ps.length)
  (hbody:∀ (cdv:ag) (A:bW) (outer:List Env) (s:au) (H:Hp) (vs:List V) (Q:VK) (E:XK),Room k (A.deeper (envOfC qual (defScope st) s.heap.objs.size f cdv))→sp vs H Q E →
   ∃ t,PSs (cxOf CX0 P w K mg base N qual (defScope st) f cdv A outer s H E).nox (fS st) t∧t { nx:=fun _ H'=>Q .non H',rt:=Q } (start N vs) H):dv P w K mg base CX0 (k+1) f fd ps sp:=by
 obtain ⟨oc,od,kV,doc,pm,an,cdv,ct,osl,rfl,lk,hcd⟩:=F.ex;refine fn_of lk hcd S len fun A outer s H vs Q E hr hsp=>?_
 obtain ⟨t,h,q⟩:=hbody cdv A outer s H vs Q E hr hsp;exact ⟨t,h.nox,q⟩
theorem Fun.binds (F:Fun K x qual st f fd)
  (h:∀ (kV doc pm:ag) (an:Option ao) (cdv ct:ag) (us:List ag),us.length=ps.length→bindArgs (eC x qual (jn st) (fS st) (defScope st) .none kV doc pm an cdv ct) ⟨us,[]⟩=fP (ps.zip us)):Binds K fd ps []:=by
 obtain ⟨oc,od,kV,doc,pm,an,cdv,ct,osl,rfl,lk,hcd⟩:=F.ex;exact .all (h kV doc pm an cdv ct)
theorem ox {oc:ag}{od an:Option ao}{kV doc pm cdv ct:ag}(l:K.lookup f=some ⟨oc,od,.func (eC x qual (jn st) (fS st) (defScope st) .none kV doc pm an cdv ct),osl⟩)
  (c:iA K cdv qual=true) (k:fe K (.ref f)=true):Fun K x qual st f (eC x qual (jn st) (fS st) (defScope st) .none kV doc pm an cdv ct):=⟨⟨oc,od,kV,doc,pm,an,cdv,ct,osl,rfl,l,c⟩,k⟩
theorem mZ (h:n≤1000):n<bq:=bY h (by decide)
theorem pv (i:Nat)(hN:X.N[i]? =some x:=by rfl)(hv:Vis X.env.scope x:=by first | exact Or.inl rfl | exact Or.inr (Or.inl rfl) | exact Or.inr (Or.inr rfl))(hd:(x == ("__debug__" :Str))=false:=by decide)
  (hcd:(x == ("__classdict__" :Str))=false:=by decide):PE X (.Name x pos) (tVar i):=pe_var hN hv hd hcd
theorem iteF {A:Prop}(h:B):if false=true then A else B:=by
 rw [qZ aV];exact h
theorem iteT {A:Prop}(h:A):if true=true then A else B:=by
 rw [q9 rfl];exact h
theorem ite2 {c A:Prop}[Decidable c](h1:c→A)(h2:¬ c→B):if c then A else B:=by
 by_cases h:c
 ·rw [q9 h]
  exact h1 h
 ·rw [qZ h]
  exact h2 h
def Same (H H':Hp):Prop:=∀ b o,H b=some o→H' b=some o
theorem Same.refl (H:Hp):Same H H:=fun _ _ h=>h
theorem Same.trans (a:Same H H1)(b:Same H1 H2):Same H H2:=fun c o h=>b c o (a c o h)
theorem Same.free (e:Same H H'){l:ao}(h:H' l=Option.none):H l=Option.none:=by
 cases q:H l with
 | none=>rfl
 | some o =>
  rw [e l o q] at h;cases h
theorem Same.seq (e:Same H H')(h:SqL K H a xs):SqL K H' a xs:=by
 rcases h with (h | ⟨o,h⟩) | h
 ·exact .inl (.inl (e _ _ h))
 ·exact .inl (.inr ⟨o,e _ _ h⟩)
 ·exact .inr h
theorem nk:OpR X (gW .FloorDiv) (rI (fun _ j=>0<j∧j.natAbs.log2<9000) fun i j=> .int (i / j)):=opI fun i j _ _ _ _ _ hc q=>by
 have e:i.fdiv j=i / j:=Int.fdiv_eq_ediv_of_nonneg i (Int.le_of_lt hc.1);refine floordiv_int (by have:=hc.1;lia) ?_ (.inl (PyProof.noPylong_of_log2 hc.2));rw [e];exact q
theorem op_eqL0 (hu:X.A.units<cLine):OpR X (fQ .Eq) (fun x y H Q=>∃ a b xs,x= .ref a∧y= .ref b∧SqL X.K H a xs∧SqL X.K H b []∧Q (.bl xs.isEmpty) H):=by
 intro aP s σ H x y v u Q I rx ry h;obtain ⟨a,b,xs,rfl,rfl,ha,hb,q⟩:=h;cases (show v=ag.ref a from rx);cases (show u=ag.ref b from ry);obtain ⟨its,r1,p1,_⟩:=I.list ha;obtain ⟨its2,r2,p2,_⟩:=I.list hb;cases r2;cases r1 with
 | nil=>exact SeqAt.eq_listAt (e:=fun _=>true) p1.isList p2.isList rfl hu (fun j h1 _=>rd h1 (by simp)) (fM I q (by simp))
 | cons _ _=>exact SeqAt.eq_list_lengthsAt p1.isList p2.isList (by simp) hu (fM I q (by simp))
def tyn (H:Hp):V→Option String
 | .non=>some "NoneType"
 | .bl _=>some "bool"
 | .int _=>some "int"
 | .str _=>some "str"
 | .ref a=>match H a with
  | some (.lst _)=>some "list"
  | some (.tup _)=>some "tuple"
  | some (.dK _)=>some "dict"
  | _=>none
 | _=>none
theorem TyOf.byName (h:tyn H v=some T):TyOf K H v (.type T):=by
 cases v with
 | non=>cases h;exact .non
 | bl b=>cases h;exact .bl b
 | int i=>cases h;exact .int i
 | str x=>cases h;exact .str x
 | ref a =>
  simp only [tyn] at h;cases e:H a with
  | none=>rw [e] at h;cases h
  | some o =>
   rw [e] at h;cases o <;> first | (cases h;first | exact .lst e | exact .tup e | exact .dK e) | cases h
 | _=>cases h
theorem kit_tuple (K:ak)(h:T∈["NoneType","bool","int","str","list","tuple","dict"]):PySem.W.kitOne K (.type T) (.type "tuple")=some (T == "tuple"):=by
 simp only [aG,cX,or_false] at h
 rcases h with rfl | rfl | rfl | rfl | rfl | rfl | rfl <;> kernel_rfl
theorem kit_int (K:ak)(h:T∈["NoneType","bool","int","str","list","tuple","dict"]):PySem.W.kitOne K (.type T) (.type "int")=some (T == "int" || T == "bool"):=by
 simp only [aG,cX,or_false] at h
 rcases h with rfl | rfl | rfl | rfl | rfl | rfl | rfl <;> kernel_rfl
theorem kit_bool (K:ak)(h:T∈["NoneType","bool","int","str","list","tuple","dict"]):PySem.W.kitOne K (.type T) (.type "bool")=some (T == "bool"):=by
 simp only [aG,cX,or_false] at h
 rcases h with rfl | rfl | rfl | rfl | rfl | rfl | rfl <;> kernel_rfl
theorem tyn_mem (h:tyn H v=some T):T∈["NoneType","bool","int","str","list","tuple","dict"]:=by
 cases v with
 | non=>cases h;simp
 | bl b=>cases h;simp
 | int i=>cases h;simp
 | str x=>cases h;simp
 | ref a =>
  simp only [tyn] at h;cases e:H a with
  | none=>rw [e] at h;cases h
  | some o =>
   rw [e] at h;cases o <;> first | (cases h;simp;done) | cases h
 | _=>cases h
theorem mP:CallR X (.builtin "isinstance") (fun xs H Q=>∃ x n t b,xs=[x,.ty n]∧TyOf X.K H x t∧PySem.W.kitOne X.K t (.type n)=some b∧Q (.bl b) H):=by
 intro aP s σ H xs us Q I r h;obtain ⟨x,n,t,b,rfl,ty,e,q⟩:=h;obtain ⟨u,w',rfl,ru,rw'⟩:=vals2 r;cases (show w'=ag.type n from rw');exact isinst_ok I ru ty e fun tk=>⟨.bl b,H,I.tok tk,rfl,q⟩
theorem call_isTup:CallR X (.builtin "isinstance") (fun xs H Q=>∃ x T,xs=[x,.ty "tuple"]∧tyn H x=some T∧Q (.bl (T == "tuple")) H) :=
 fun aP s σ H xs us Q I r ⟨x,T,e,hT,q⟩=>mP aP s σ H xs us Q I r ⟨x,_,_,_,e,.byName hT,kit_tuple _ (tyn_mem hT),q⟩
theorem call_isInt:CallR X (.builtin "isinstance") (fun xs H Q=>∃ x T,xs=[x,.ty "int"]∧tyn H x=some T∧Q (.bl (T == "int" || T == "bool")) H) :=
 fun aP s σ H xs us Q I r ⟨x,T,e,hT,q⟩=>mP aP s σ H xs us Q I r ⟨x,_,_,_,e,.byName hT,kit_int _ (tyn_mem hT),q⟩
theorem call_isBool:CallR X (.builtin "isinstance") (fun xs H Q=>∃ x T,xs=[x,.ty "bool"]∧tyn H x=some T∧Q (.bl (T == "bool")) H) :=
 fun aP s σ H xs us Q I r ⟨x,T,e,hT,q⟩=>mP aP s σ H xs us Q I r ⟨x,_,_,_,e,.byName hT,kit_bool _ (tyn_mem hT),q⟩
inductive rCatA (K:ak)(x:V)(y:V)(H:Hp)(Q:VK):Prop
 | mk (a b xs ys:_)(_:x= .ref a)(_:y= .ref b)(_:H a=some (.tup xs))(_:H b=some (.tup ys))(_:xs.length+ys.length≤bq)(_:∀ p H',Same H H'→H' p=some (.tup (xs++ys))→Q (.ref p) H')
theorem pX:OpR X (gW .Add) (rCatA X.K):=by
 intro aP s σ H x y v u Q I rx ry h;obtain ⟨a,b,xs,ys,rfl,rfl,ha,hb,hz,q⟩:=h;cases xs with
 | cons x xs =>
  refine op_catT aP s σ H (.ref a) (.ref b) v u Q I rx ry ⟨a,b,_,ys,rfl,rfl,SqT.of ha,SqT.of hb,(by simp),hz,fun e=>?_,fun _ p hp=>?_⟩
  ·subst e
   exact q a H (Same.refl H) (by rw [eU];exact ha)
  ·exact q p _ (fun c o e=>by rw [br (bf e hp)];exact e) aS
 | nil =>
  cases (show v=ag.ref a from rx);cases (show u=ag.ref b from ry);obtain ⟨its,r1,p1,_⟩:=I.tuple (SqT.of (K:=X.K) ha);obtain ⟨its2,r2,p2,_⟩:=I.tuple (SqT.of (K:=X.K) hb);cases r1;obtain ⟨⟨c1,d1,t1,l1⟩,o1,k1,n1,g1⟩:=id p1;obtain ⟨⟨c2,d2,t2,l2⟩,o2,k2,n2,g2⟩:=id p2;simp only at k1 g1 k2 g2;subst k1 g1 k2 g2;exact concat_meets ⟨_,o1,rfl⟩ ⟨_,o2,rfl⟩ noFill_tuple_add seq_tuple_add PySem.F.slot_tuple_add ly (kN _ _)
   (tuple_addW0 a b _ its2.toArray n1 n2 d1 d2 l1 l2 (by simp)) ⟨o1,o2,⟨.ref b,H,I,rfl,q b H (Same.refl H) hb⟩⟩
def gP (X:Cx)(scope:fI)(cl:List (Str×ao))(C:ao)(N:List Str)(s:au)(H:Hp)(ex:List ao):Cx :=
 { X with N:=N,s₀:=s,H₀:=H,env:=compEnvC scope cl C X.env,outer:=X.stack,ex:=ex,fn:=fun _=>false,pn:=[],xe:=fun _ _=>False }
theorem mN (hf:∀ y∈scope.names,y.2= .free→∃ c,env.cells.lookup y.1=some c) :
  ∃ cl,closureFor scope env=fP cl∧(∀ x c,cl.lookup x=some c→env.cells.lookup x=some c)∧∀ y∈scope.names,y.2= .free→cl.lookup y.1=env.cells.lookup y.1:=by
 have aux:∀ (names:List (Str×cN)) (acc:List (Str×ao)),(∀ y∈names,y.2= .free→∃ c,env.cells.lookup y.1=some c)→(∀ x c,acc.lookup x=some c→env.cells.lookup x=some c) →
   ∃ cl,(forIn names acc fun x r=>match x with
     | (name,kind)=>if (kind == cN.free)=true then (cellOf env name >>= fun c=>fP (ForInStep.yield ((name,c)::r))) else fP (ForInStep.yield r):Sem (List (Str×ao)))=fP cl ∧
    (∀ x c,cl.lookup x=some c→env.cells.lookup x=some c)∧(∀ x c,acc.lookup x=some c→cl.lookup x=some c)∧∀ y∈names,y.2= .free→cl.lookup y.1=env.cells.lookup y.1:=by
  intro names
  induction names with
  | nil=>intro acc _ ha;exact ⟨acc,rfl,ha,fun _ _ e=>e,fun y hy=>rd hy (by simp)⟩
  | cons z r ih =>
   intro acc hn ha;obtain ⟨n,k⟩:=z;have hr:∀ y∈r,y.2= .free→∃ c,env.cells.lookup y.1=some c:=fun y hy=>hn y (aw _ hy)
   by_cases hk:k= .free
   ·subst hk
    obtain ⟨c,hc⟩:=hn (n,.free) bB rfl;have hc:env.cells.lookup n=some c:=hc;have ha':∀ x d,((n,c)::acc).lookup x=some d→env.cells.lookup x=some d:=fun x d e=>by
     rw [dU] at e;cases hx:x == n with
     | true =>
      rw [hx] at e;have e':c=d:=cE e;have ex:x=n:=eq_of_beq hx;rw [ex,←e'];exact hc
     | false=>rw [hx] at e;exact ha x d e
    obtain ⟨cl,e1,e2,e3,e4⟩:=ih ((n,c)::acc) hr ha';have iT:cellOf env n=fP c:=by unfold cellOf;rw [hc]
    refine ⟨cl,?_,e2,fun x d e=>?_,fun y hy hy2=>?_⟩
    ·rw [List.forIn_cons]
     show ((if (cN.free == cN.free)=true then (cellOf env n >>= fun c=>fP (ForInStep.yield ((n,c)::acc))) else fP (ForInStep.yield acc)) >>= _)=_;rw [q9 (by decide:(cN.free == cN.free)=true),iT];exact e1
    ·have h1:((n,c)::acc).lookup x=some (if x == n then c else d):=by
      rw [dU];cases hx:x == n with
      | true=>rfl
      | false=>exact e
     have h2:=e3 x _ h1;have h3:=e2 x _ h2;have h4:=ha x d e;rw [h3] at h4;rw [h2];exact h4
    ·rcases aG.mp hy with rfl | hy3
     ·have h1:((n,c)::acc).lookup n=some c:=by rw [dU,beq_self_eq_true]
      show cl.lookup n=_;rw [e3 n c h1,hc]
     ·exact e4 y hy3 hy2
   ·have hb:(k == cN.free)=false:=by simpa using hk
    obtain ⟨cl,e1,e2,e3,e4⟩:=ih acc hr ha;refine ⟨cl,?_,e2,e3,fun y hy hy2=>?_⟩
    ·rw [List.forIn_cons]
     show ((if (k == cN.free)=true then (cellOf env n >>= fun c=>fP (ForInStep.yield ((n,c)::acc))) else fP (ForInStep.yield acc)) >>= _)=_;rw [hb];exact e1
    ·rcases aG.mp hy with rfl | hy3
     ·exact rd hy2 hk
     ·exact e4 y hy3 hy2
 obtain ⟨cl,e1,e2,_,e4⟩:=aux scope.names [] hf fun x c e=>by cases e
 refine ⟨cl,Eq.trans ?_ e1,e2,e4⟩;unfold closureFor
 first
  | rfl
  | (simp only [bind_pure];done)
  | (simp only [bind_pure];rfl)
  | (simp only [bind_pure]
     congr 1
     funext x r
     obtain ⟨n,k⟩:=x;cases (k == cN.free) <;> rfl)
theorem nV {env:Env}:∀ {names:List (Str×cN)} {x:Str} {k':cN},
  (names.map fun (n,k)=>if (k == cN.free && env.scope.kind == .function && env.kindOf n == some .cell) then (n,cN.cell) else (n,k)).lookup x=some k' →
  names.lookup x=some k'∨(names.lookup x=some .free∧k'= .cell)
 | [],_,_,h=>by simp at h
 | (n,k)::r,x,k',h=>by
  have ih:= @nV env r x k';rw [cj] at h;show e8 x ((n,k)::r)=_∨(e8 x ((n,k)::r)=_∧_);rw [dU]
  by_cases hq:(k == cN.free && env.scope.kind == .function && env.kindOf n == some .cell)=true
  ·have g:e8 x ((if (k == cN.free && env.scope.kind == .function && env.kindOf n == some .cell)=true then (n,cN.cell) else (n,k))::_)=_:=h
   rw [q9 hq,dU] at g;have hk:k= .free:=by
    rw [dX,dX] at hq;exact eq_of_beq hq.1.1
   cases hx:x == n with
   | true=>rw [hx] at g;rw [hk];exact .inr ⟨rfl,(cE g).symm⟩
   | false=>rw [hx] at g;exact ih g
  ·have g:e8 x ((if (k == cN.free && env.scope.kind == .function && env.kindOf n == some .cell)=true then (n,cN.cell) else (n,k))::_)=_:=h
   rw [qZ hq,dU] at g;cases hx:x == n with
   | true=>rw [hx] at g;exact .inl g
   | false=>rw [hx] at g;exact ih g
theorem oj {env:Env}(hk:env.scope.kind= .function){x:Str}(hx:env.kindOf x=some .cell):∀ {names:List (Str×cN)},names.lookup x=some .free →
  (names.map fun (n,k)=>if (k == cN.free && env.scope.kind == .function && env.kindOf n == some .cell) then (n,cN.cell) else (n,k)).lookup x=some .cell
 | [],h=>by simp at h
 | (n,k)::r,h=>by
  have ih:= @oj env hk x hx r;show e8 x ((if (k == cN.free && env.scope.kind == .function && env.kindOf n == some .cell)=true then (n,cN.cell) else (n,k))::_)=some cN.cell;rw [dU] at h;cases hxn:x == n with
  | true =>
   rw [hxn] at h;have ek:k= .free:=cE h;have en:x=n:=eq_of_beq hxn;subst ek en;rw [q9 (by rw [hk,hx];rfl),dU,beq_self_eq_true]
  | false =>
   rw [hxn] at h
   by_cases hq:(k == cN.free && env.scope.kind == .function && env.kindOf n == some .cell)=true
   ·rw [q9 hq,dU,hxn];exact ih h
   ·rw [qZ hq,dU,hxn];exact ih h
def PTs (X:Cx)(ifs:List Expr)(t:TT):Prop :=
 ∀ (aP:List (ao×Obj)) (s:au) (σ:St) (H:Hp) (Q:Bool→Hp→Prop),Inv X aP σ H s→t σ H Q →
  aW (bz X.prog X.w) X.A (forIn ifs true fun c r=>if r=true then do let ok ← isTrue c X.env (eV c X.env);fP (ForInStep.yield ok) else fP (ForInStep.yield r)) (TP X aP σ Q) X.xe s
def tNoIf:TT:=fun _ H Q=>Q true H
theorem gQ {A B:Hp→Prop}(h:A H):tNoIf σ H fun b H4=>if b=true then A H4 else B H4:=by
 show if true=true then A H else B H;rw [q9 rfl];exact h
theorem iH:PTs X [] tNoIf:=fun _ _ _ H _ I h=>wpAny_tests_nil ⟨H,I,h⟩
theorem pQ {c:Expr}{t:TT}(h:PT X c t):PTs X [c] t:=fun aP s σ H Q I q=>wpAny_tests_one (h aP s σ H Q I q)
theorem HOk.take (x:HOk P w H h)(hn:H a=none)(new:ObjOk P w (upd H a o) h a o):HOk P w (upd H a o) h:=fun b u e=>by
 by_cases hb:b=a
 ·subst hb;rw [aS] at e;cases e;exact new
 ·rw [br hb] at e
  exact (x b u e).stay (fun _ _ _ q=>q) (fun c q=>by rw [br (bf q hn)];exact q) fun c xs q=>by rw [br (bf q hn)];exact q
def dO (σ:St)(js:List Nat):St:=js.map fun j=>(σ[j]?).getD none
def CompW (js:List Nat)(tt:TT)(te:TE)(σ:St)(Q:VK)(J:It)(H1:Hp):Prop:=∃ W:Nat→Nat→List V→Hp→Prop,(∃ m,W 0 m [] H1)∧∀ i m ys H2,W i m ys H2 →
 (J.stop i H2∧∀ D,H2 D=none→Q (.ref D) (upd H2 D (.lst ys))) ∨
 (J.go i H2∧ys.length<bq∧∃ N:List V→Hp→Prop,(∀ ys' H',N ys' H'→∃ m',m'<m∧W (i+1) m' ys' H')∧∀ x H3,J.yld i H2 x H3→tt (some x::dO σ js) H3 fun b H4 =>
  if b=true then te (some x::dO σ js) H4 fun y H5=>N (ys++[y]) H5 else N ys H4)
def tComp (wi:TI)(js:List Nat)(tt:TT)(te:TE):TE:=fun σ H Q=>wi σ H fun J H1=>CompW js tt te σ Q J H1
abbrev lobj (us:List ag)(n:Nat):Obj:={ cls:= .type "list",data:= .seq us.toArray n }
abbrev qX (prog:aY)(w:bE)(A:bW)(env:Env)(R:Result→au→Prop):ag→au→Prop:=notedBy (bz prog w) A env fun x t=>R (.error x) t
theorem loop_any {it acc:ag}(J:Nat→au→Prop)
  (step:∀ k t,J k t→aW (bz prog w) A (pyNext it) (fun r t1=>match r with
   | none=>R (.ok .next) t1
   | some v=>aW (bz prog w) A (letOwnedTupleGo tg it v) (fun _ t2=>aW (bz prog w) A (assign tg env v) (fun _ t3 =>
     aW (bz prog w) A (forIn ifs true fun c b=>if b=true then do let z ← isTrue c env (eV c env);fP (ForInStep.yield z) else fP (ForInStep.yield b)) (fun z t4 =>
      if z=true then aW (bz prog w) A (eV elt env) (fun y t5=>aW (bz prog w) A (call (.builtin "list.append") [acc,y]) (fun _ t6=>∃ m,m<k∧J m t6) (qX prog w A env R) t5) (qX prog w A env R) t4
      else ∃ m,m<k∧J m t4) (qX prog w A env R) t3) (qX prog w A env R) t2) (qX prog w A env R) t1) (qX prog w A env R) t)
  (k:Nat) (h:J k s):jo (bz prog w) A (.compLoop (.ListComp elt [⟨tg,iter,ifs,0⟩] scope pos) 0 it acc env) R s:=by
 refine codeAny_loop rfl J (fun k t hJ=>?_) k h;show aW _ A ((compTurn (.ListComp elt [⟨tg,iter,ifs,0⟩] scope pos) 0 it acc env).onRaise (fun y=>do noteFrame y env;theTreesLotGoes y)) _ _ t;refine wpAny_noted ?_;rw [compTurn_list];refine ah (wpAny_standAt (ah (cy (step k t hJ) (fun r t1 q1=>?_) fun _ _ f=>f)));cases r with
 | none=>exact aL q1
 | some v =>
  refine ah (cy q1 (fun _ t2 q2=>?_) fun _ _ f=>f);refine ah (cy q2 (fun _ t3 q3=>?_) fun _ _ f=>f);refine ah (cy q3 (fun z t4 q4=>?_) fun _ _ f=>f);cases z with
  | false=>exact aL ⟨rfl,q4⟩
  | true=>exact ah (ah (cy q4 (fun y t5 q5=>ah (cy q5 (fun _ t6 q6=>aL (aL ⟨rfl,q6⟩)) fun _ _ f=>f)) fun _ _ f=>f))
def qY (n:Nat)(g:TG)(js:List Nat)(tt:TT)(te:TE)(σ:St)(Q:VK)(J:It)(H1:Hp):Prop:=∃ W:Nat→Nat→List V→Hp→Prop,(∃ m,W 0 m [] H1)∧∀ i m ys H2,W i m ys H2 →
 (J.stop i H2∧∀ D,H2 D=none→Q (.ref D) (upd H2 D (.lst ys))) ∨
 (J.go i H2∧ys.length<bq∧∃ N:List V→Hp→Prop,(∀ ys' H',N ys' H'→∃ m',m'<m∧W (i+1) m' ys' H')∧∀ x H3,J.yld i H2 x H3→∀ v0:St,v0.length=n→g x (v0++dO σ js) H3 fun σ4 H4 =>
  (∃ v1:St,v1.length=n∧σ4=v1++dO σ js)∧tt σ4 H4 fun b H5=>if b=true then te σ4 H5 fun y H6=>N (ys++[y]) H6 else N ys H5)
def tCompT (wi:TI)(n:Nat)(g:TG)(js:List Nat)(tt:TT)(te:TE):TE:=fun σ H Q=>wi σ H fun J H1=>qY n g js tt te σ Q J H1
theorem comp_core {Q:VK}{use:Option (ag→Sem Unit)}{R:ag→au→Prop}{xs:List Str}
  (hc:X.calm=true) (hi:PI X tg iter wi)
  (iT:∀ y∈scope.names,y.2≠ .cell) (mH:scope.kind= .function) (lY:∀ y∈scope.names,y.2= .local→scope.names.lookup y.1=some .local)
  (hfr:∀ y∈scope.names,y.2= .free→X.env.scope.names.lookup y.1=some .cell) (hjs:js.map (fun j=>X.N[j]?)=fr.map some) (hfv:∀ y∈fr,scope.names.lookup y=some .free)
  (hg:∀ cl C s' H' ex,PG (gP X scope cl C (xs++fr) s' H' ex) tg g)
  (hb:∀ cl C s' H' ex,PE (gP X scope cl C (xs++fr) s' H' ex) elt te∧PTs (gP X scope cl C (xs++fr) s' H' ex) ifs tt)
  (hCW:∀ σ Q J H1,CW σ Q J H1→qY xs.length g js tt te σ Q J H1) (I:Inv X aP σ H s) (h:wi σ H fun J H1=>CW σ Q J H1)
  (fin:∀ (s4:au) (H5:Hp) (D C:ao) (mC:Str→Option ag),s4.heap.Ns C mC→Inv X aP σ H5 s4→H5 C=none→C≠X.env.locals→C ∉ X.fs→(∀ p∈X.pn++aP,p.1≠C)→(∀ y c,X.env.cells.lookup y=some c→c≠C)→X.s₀.heap.objs.size≤C→Q (.ref D) H5→compPost (bz X.prog X.w) X.A X.xe use R (.ref D) C (.ok .next) s4)
  (hs:∀ z,gU iter X.env z=fP z:=by intro _;rfl) :
  aW (bz X.prog X.w) X.A (comprehension (.ListComp elt [⟨tg,iter,ifs,0⟩] scope pos) scope X.env pos' (newList []) false (eV iter X.env) use) R X.xe s:=by
 have hXk:X.env.scope.kind= .function:=I.ok.kind;obtain ⟨cl,hclos,c1,c2⟩:=mN (scope:=scope) (env:=X.env) fun y hy hk=>I.ok.has _ (.inl (hfr y hy hk))
 refine wpAny_comprehension_free rfl hs hclos mH lY (thn (hi aP s σ H _ I h) fun xv s1 h1=>thn h1 fun itv s2 h2=>?_);obtain ⟨it,fp,tn,J,H2,rfl,I2,T,st2,f2,hcw⟩:=h2;obtain ⟨W,⟨m0,w0⟩,turn⟩:=hCW _ _ _ _ hcw;refine dh (wpAny_newFunctionEnv iT (by intro y hy;simp at hy) (fun hA nsA sbA=>?_) mH)
 dsimp only at nsA sbA ⊢
 generalize hG:s2.heap.push { cls:= .type "list",dict:=none,data:= .seq ([]:List ag).toArray }=G at nsA sbA ⊢;have hC:G.objs.size=s2.heap.objs.size+1:=by rw [←hG,gj]
 have hDC:s2.heap.objs.size≠G.objs.size:=by rw [hC];exact bM (jU _)
 have small:∀ b o,s2.heap.get? b=some o→b≠G.objs.size∧b≠s2.heap.objs.size:=fun b o e=>⟨by rw [hC];exact bM (iD (aO e)),bM (aO e)⟩
 have old:∀ b o,s2.heap.get? b=some o→hA.get? b=some o:=fun b o e=>sbA.extBut b o (small b o e).1 (ar _ (hG ▸ ar _ e))
 have hDA:hA.get? s2.heap.objs.size=some (lobj [] 0):=sbA.extBut _ _ hDC (ar _ (hG ▸ aZ _ rfl));have fpo:∀ b∈fp,∃ o,s2.heap.get? b=some o:=fun b hb=>let ⟨o,e,_⟩:=T.obj _ _ st2 b hb;⟨o,e⟩
 have celo:∀ y c,cl.lookup y=some c→∃ o,s2.heap.get? c=some o:=fun y c e=>let ⟨_,o,ho,_⟩:=I2.cell y c (c1 y c e);⟨o,ho⟩
 have ok':(gP X scope cl G.objs.size (xs++fr) s2 H2 fp).Ok:=by
  refine ⟨I2.ok.mod,mH,I2.ok.glob,I2.ok.blt,?_,fun a b c e1 e2=>I2.ok.inj a b c (c1 a c e1) (c1 b c e2),fun y hy=>?_,fun _ _ z=>rd z (by intro q;cases q),I2.ok.hd,I2.ok.frames,.inl rfl,fun b hb=>?_,I2.bs,bo I2.ok.bsz I2.sz,fun b o e hb=>?_,fun b hb hz=>?_,I2.stack,I2.stkFree⟩
  ·show s2.heap.objs.size≤G.objs.size
   rw [hC];exact j9 _
  ·have hy:(relabel scope X.env).names.lookup y=some .cell∨(relabel scope X.env).names.lookup y=some .free:=hy
   have key:scope.names.lookup y=some .free:=by
    rcases hy with hy | hy
    ·rcases nV hy with q | ⟨q,_⟩
     ·exact rd rfl (iT _ (cz q))
     ·exact q
    ·rcases nV hy with q | ⟨q,_⟩
     ·exact q
     ·exact q
   have hm:=cz key;obtain ⟨c,e⟩:=I.ok.has y (.inl (hfr _ hm rfl));exact ⟨c,(c2 _ hm rfl).trans e⟩
  ·obtain ⟨o,e⟩:=fpo b hb
   exact ⟨(small b o e).1,fun y c q=>(f2 b hb).2.2.2.2.1 y c (c1 y c q)⟩
  ·obtain ⟨_,_,_,f3,_⟩:=f2 b hb
   rcases f3 with f3 | f3
   ·exact I2.ok.noex b o e f3
   ·exact rd (aR (aO e) (bo I2.ok.bsz f3)) (gg _)
  ·obtain ⟨_,n1,n2,_⟩:=f2 b hb
   exact (aG.mp (I2.stkSub b hz)).elim n1 n2
 have nofs:s2.heap.objs.size ∉ frs X.stack:=fun hz=>by
  obtain ⟨_,o,ho,_⟩:=I2.stack.mem hz;exact gg _ (aO ho)
 have lenB:(dO σ js).length=fr.length:=by
  have e:=rm List.length hjs;rw [aa,aa] at e;unfold dO;rw [aa];exact e
 have start':∀ t,Inv (gP X scope cl G.objs.size (xs++fr) s2 H2 fp) [(s2.heap.objs.size,lobj [] 0)] ((xs.map fun _=>none)++dO σ js) H2 { s2 with heap:=hA,toks:=t }:=fun t=>by
  refine ⟨ok',rfl,I2.bare,Un.kept old,⟨_,nsA,fun i y v e1 e2 e3=>?_⟩,fun y c e=>?_,I2.hok.fresh (by rw [hC];exact j9 _),fun y c e=>I2.freeC y c (c1 y c e),fun p hp=>?_,I2.hok.kept old,?_⟩
  ·by_cases hix:i<xs.length
   ·rw [gw (by rw [aa];exact hix),az,gE hix] at e2
    cases e2
   ·obtain ⟨i,rfl⟩:∃ j,i=xs.length+j:=⟨i - xs.length,by lia⟩
    have e1:(xs++fr)[xs.length+i]? =some y:=e1;have e1:fr[i]? =some y:=by rw [bZ (by lia),show xs.length+i - xs.length=i by lia] at e1;exact e1
    have e2:(dO σ js)[i]? =some (some v):=by rw [bZ (by rw [aa];lia),aa,show xs.length+i - xs.length=i by lia] at e2;exact e2
    unfold dO at e2;rw [az] at e2;obtain ⟨j,ej,e2⟩:=bI.mp e2;have hN:X.N[j]? =some y:=by
     have q:=rm (fun l=>l[i]?) hjs;simp only [az,ej,e1,gu] at q;exact cE q
    have hσ:σ[j]? =some (some v):=by
     cases z:σ[j]? with
     | none=>rw [z] at e2;cases e2
     | some w=>rw [z] at e2;exact rm some e2
    have hfree:=hfv y (bt e1);have hm:=cz hfree;have hce:X.env.scope.names.lookup y=some .cell:=hfr _ hm rfl;obtain ⟨m,_,hl⟩:=I2.loc;obtain ⟨u,ru,look⟩:=hl j y v hN hσ (.inr (.inl hce));refine ⟨u,ru,.inr ⟨.inl (oj hXk hce hfree),?_⟩⟩
    rcases look with ⟨k,_⟩ | ⟨_,c,ec,ho⟩
    ·have k:X.env.scope.names.lookup y=some .local:=k
     rw [hce] at k;cases k
    ·obtain ⟨o,ho,hd⟩:=ho
     exact ⟨c,(c2 _ hm rfl).trans ec,o,old c o ho,hd⟩
  ·obtain ⟨v,o,ho,hd⟩:=I2.cell y c (c1 y c e)
   exact ⟨v,o,old c o ho,hd⟩
  ·have hp:p∈[(s2.heap.objs.size,lobj [] 0)]:=hp
   have e:=ax.mp hp;subst e;exact ⟨hDA,I2.hok.fresh (aC _),hDC,nofs,fun v z=>by cases z⟩
  ·show ((xs.map fun _=>none)++dO σ js).length=(xs++fr).length
   rw [av,av,aa,lenB]
 have fok:∀ {us:List ag} {n:Nat} {H':Hp},(∀ b∈fp,H' b=none)→∀ b∈fp,FpOk (gP X scope cl G.objs.size (xs++fr) s2 H2 fp) [(s2.heap.objs.size,lobj us n)] H' b:=fun {us n H'} hn b hb=>by
  obtain ⟨o,e⟩:=fpo b hb;refine ⟨hn b hb,(small b o e).1,fun hz=>(aG.mp (I2.stkSub b hz)).elim (f2 b hb).2.1 (f2 b hb).2.2.1,.inl hb,fun y c q=>(f2 b hb).2.2.2.2.1 y c (c1 y c q),fun p hp=>?_⟩;have hp:p∈[(s2.heap.objs.size,lobj us n)]:=hp;have ep:=ax.mp hp;subst ep;exact fun z=>(small b o e).2 z.symm
 have loop:∀ sB:au,(∃ t,sB={ s2 with heap:=hA,toks:=t }) →
   jo (bz X.prog X.w) X.A (.compLoop (.ListComp elt [⟨tg,iter,ifs,0⟩] scope pos) 0 (.ref it) (.ref s2.heap.objs.size) (compEnvC scope cl G.objs.size X.env))
    (compPost (bz X.prog X.w) X.A X.xe use R (.ref s2.heap.objs.size) G.objs.size) sB:=by
  rintro sB ⟨t,rfl⟩;refine loop_any (fun k s'=>∃ i ys us n v0 H',v0.length=xs.length∧Inv (gP X scope cl G.objs.size (xs++fr) s2 H2 fp) [(s2.heap.objs.size,lobj us n)] (v0++dO σ js) H' s'∧Vals ys us∧ys.length≤bq∧tn i s'.heap∧(∀ b∈fp,H' b=none)∧W i k ys H') ?_ m0
   ⟨0,[],[],0,xs.map fun _=>none,H2,aa ..,start' t,.nil,bF _,T.keep _ _ _ st2 fun b hb o e=>old b o e,fun b hb=>(f2 b hb).1,w0⟩
  rintro k s3 ⟨i,ys,us,n,v0,H3,hv0,I3,rv,hlen,st3,fr3,w3⟩
  rcases turn i k ys H3 w3 with ⟨stop,qn⟩ | ⟨go,hlt,N',hN',step⟩
  ·refine thn (T.done (gP X scope cl G.objs.size (xs++fr) s2 H2 fp) rfl rfl rfl hc i _ s3 _ H3 _ I3 (fok fr3) st3 stop) fun r s4 ⟨hr,I4⟩=>?_
   subst hr;obtain ⟨mC,hnC,_⟩:=id I4.loc;obtain ⟨pD,nD,_,_,_⟩:=I4.pin (s2.heap.objs.size,lobj us n) (by show _∈[]++[_];simp);have pD:s4.heap.get? s2.heap.objs.size=some (lobj us n):=pD;have nD:H3 s2.heap.objs.size=none:=nD;have nC:H3 G.objs.size=none:=I4.free;have D2:∀ b o,s2.heap.get? b=some o→b≠s2.heap.objs.size:=fun b o e=>(small b o e).2
   have base4:Un (frs X.stack) fp H2 H3 s2.heap s4.heap:=I4.base;have u4:Un (frs X.stack) fp H2 (upd H3 s2.heap.objs.size (.lst ys)) s2.heap s4.heap :=
    {keep:=base4.keep
     slot:=base4.slot
     free:=fun b o e nb hx'=>by rw [br (D2 b o e)];exact base4.free b o e nb hx'
     there:=base4.there
     tups:=fun b xs e=>by have q:=base4.tups b xs e;rw [br (bf q nD)];exact q
     frzs:=fun b o u e=>by have q:=base4.frzs b o u e;rw [br (bf q nD)];exact q
     tbls:=fun b ps e=>by obtain ⟨more,q⟩:=base4.tbls b ps e;exact ⟨more,by rw [br (bf q nD)];exact q⟩ }
   have I5:Inv X aP σ (upd H3 s2.heap.objs.size (.lst ys)) s4:=I2.call' (s':=s4) (ch:=fp) I4.os u4 (I4.hok.take nD ⟨hlen,us,n,rv,pD⟩) I4.bare fun b hb=>by
    obtain ⟨_,g1,_,g3,g4,g5⟩:=f2 b hb;exact ⟨g3,g1,g4,g5⟩
   have locC:G.objs.size≠X.env.locals:=fun z=>by
    obtain ⟨_,⟨o,_,_,ho,_⟩,_⟩:=id I2.loc;exact (small _ o ho).1 z.symm
   have fsC:G.objs.size ∉ X.fs:=fun hz=>by
    obtain ⟨_,o,ho,_⟩:=I2.ok.funs.mem hz;have:=aR (aO ho) I2.sz;rw [hC] at this;exact gg _ (Nat.lt_of_succ_lt this)
   have pinX:∀ p∈X.pn++aP,p.1≠G.objs.size:=fun p hp=>(small _ _ (I2.pin p hp).1).1
   have nCu:(upd H3 s2.heap.objs.size (.lst ys)) G.objs.size=none:=by rw [br (bX hDC)];exact nC
   refine fin s4 _ _ _ mC hnC I5 nCu locC fsC pinX (fun y c q z=>?_) (bo I2.sz (by rw [hC];exact j9 _)) (qn _ nD);obtain ⟨v,o,ho,_⟩:=I2.cell y c q;exact (small c o ho).1 z
  ·refine thn (T.item (gP X scope cl G.objs.size (xs++fr) s2 H2 fp) rfl rfl rfl hc i _ s3 _ H3 _ I3 (fok fr3) st3 go) fun r s4 ⟨u,hr,h4⟩=>?_
   subst hr;refine thn h4 fun _ s5 ⟨v,H5,I5,r5,y5,st5,fr5⟩=>?_
   have I5':=I5.pinned (fok fr5) (T.obj _ _ st5);refine cy (hg cl G.objs.size s2 H2 fp _ s5 _ H5 v u _ I5' r5 (step v H5 y5 v0 hv0)) (fun _ s6 ⟨σ6,H6,I6,⟨w1,hw1,e6⟩,q6⟩=>?_) fun _ _ f=>f.elim
   subst e6;refine cy ((hb cl G.objs.size s2 H2 fp).2 _ s6 _ H6 _ I6 q6) (fun b s7 ⟨H7,I7,q7⟩=>?_) fun _ _ f=>f.elim
   have back:∀ {s8:au} {H8:Hp},Inv (gP X scope cl G.objs.size (xs++fr) s2 H2 fp) ([(s2.heap.objs.size,lobj us n)]++pinsAt fp s5.heap) (w1++dO σ js) H8 s8→tn (i+1) s8.heap∧∀ b∈fp,H8 b=none:=fun {s8 H8} I8=>by
    refine ⟨T.keep _ _ _ st5 fun b hb o e=>(I8.pin (b,o) (aA _ (aA _ (md hb e)))).1,fun b hb=>?_⟩;obtain ⟨o,e,_⟩:=T.obj _ _ st5 b hb;exact (I8.pin (b,o) (aA _ (aA _ (md hb e)))).2.1
   cases b with
   | false =>
    obtain ⟨m',hm,w7⟩:=hN' _ _ q7;obtain ⟨t7,n7⟩:=back I7;exact ⟨m',hm,i+1,ys,us,n,w1,H7,hw1,I7.unpinned,rv,hlen,t7,n7,w7⟩
   | true =>
    refine cy ((hb cl G.objs.size s2 H2 fp).1 _ s7 _ H7 _ I7 q7) (fun y' s8 ⟨y,H8,I8,r8,q8⟩=>?_) fun _ _ f=>f.elim
    obtain ⟨m',hm,w8⟩:=hN' _ _ q8;obtain ⟨t8,n8⟩:=back I8;have I8':=I8.unpinned;obtain ⟨pD,nD,_,_,_⟩:=I8'.pin (s2.heap.objs.size,lobj us n) (by show _∈[]++[_];simp);have pD:s8.heap.get? s2.heap.objs.size=some (lobj us n):=pD;have nD:H8 s2.heap.objs.size=none:=nD;refine append_at pD (fun h9 hs9 e9=>?_) (by rw [aE,←rv.length];exact hlen);have e9:h9.get? s2.heap.objs.size=some (lobj (us++[y']) (n+1)):=by rw [e9];simp [lobj]
    have J0:Inv (gP X scope cl G.objs.size (xs++fr) s2 H2 fp) [] (w1++dO σ js) H8 s8:=I8'.pins_of fun p hp=>rd hp (by simp)
    have J9:Inv (gP X scope cl G.objs.size (xs++fr) s2 H2 fp) [] (w1++dO σ js) H8 { s8 with heap:=h9,toks:=s8.toks } :=
     J0.turned (it:=s2.heap.objs.size) (fun b o hb' e=>hs9.extBut b o hb' e) nD hDC (.inr (aC _)) (fun y0 c q z=>by
      obtain ⟨o,e⟩:=celo y0 c q;exact (small c o e).2 z) fun p hp=>rd (show p∈([]:List (ao×Obj)) from hp) (by simp)
    refine ⟨m',hm,i+1,ys++[y],us++[y'],n+1,w1,H8,hw1,J9.pins_of fun p hp=>?_,rv.append (.cons r8 .nil),(by rw [av,iu];exact hlt),T.keep _ _ _ t8 fun b hb' o e=>hs9.extBut b o (by
     obtain ⟨o',e'⟩:=fpo b hb';exact (small b o' e').2) e,n8,w8⟩
    have ep:=ax.mp hp;subst ep;exact ⟨e9,nD,hDC,nofs,fun v z=>by cases z⟩
 exact codeAny_compStart_list (loop _ ⟨_,rfl⟩) (T.self _ 0 _ _ _ (T.keep _ _ _ st2 fun b hb o e=>old b o e) (loop _ ⟨_,rfl⟩))
theorem pe_compC {xs:List Str}
  (hc:X.calm=true) (hi:PI X tg iter wi)
  (iT:∀ y∈scope.names,y.2≠ .cell) (mH:scope.kind= .function) (lY:∀ y∈scope.names,y.2= .local→scope.names.lookup y.1=some .local)
  (hfr:∀ y∈scope.names,y.2= .free→X.env.scope.names.lookup y.1=some .cell) (hjs:js.map (fun j=>X.N[j]?)=fr.map some) (hfv:∀ y∈fr,scope.names.lookup y=some .free)
  (hg:∀ cl C s' H' ex,PG (gP X scope cl C (xs++fr) s' H' ex) tg g)
  (hb:∀ cl C s' H' ex,PE (gP X scope cl C (xs++fr) s' H' ex) elt te∧PTs (gP X scope cl C (xs++fr) s' H' ex) ifs tt)
  (hCW:∀ σ Q J H1,CW σ Q J H1→qY xs.length g js tt te σ Q J H1) (hs:∀ z,gU iter X.env z=fP z:=by intro _;rfl) :
  PE X (.ListComp elt [⟨tg,iter,ifs,0⟩] scope pos) (fun σ H Q=>wi σ H fun J H1=>CW σ Q J H1):=by
 intro aP s σ H Q I h;rw [eval_ListComp];exact comp_core (use:=none) (R:=EP X aP σ Q) hc hi iT mH lY hfr hjs hfv hg hb hCW I h (fun s4 H5 D C mC n I5 nC lC fC pC cC sC q=>⟨mC,n,fun h' hsb=>⟨.ref D,H5,I5.turned (t':=s4.toks) (it:=C) (fun b o hb' e=>hsb.extBut b o hb' e) nC lC (.inr sC) cC pC,rfl,q⟩⟩) hs
theorem compW_T {Q:VK}{J:It}(h:CompW js tt te σ Q J H1):qY 1 (oH 0) js tt te σ Q J H1:=by
 obtain ⟨W,w0,turn⟩:=h;refine ⟨W,w0,fun i m ys H2 hw=>?_⟩
 rcases turn i m ys H2 hw with h | ⟨h1,h2,N,h3,h4⟩
 ·exact .inl h
 ·refine .inr ⟨h1,h2,N,h3,fun x H3 hy v0 hv=>?_⟩
  obtain ⟨w,rfl⟩:∃ w,v0=[w]:=by
   obtain _ | ⟨w,v0⟩:=v0
   ·cases hv
   ·obtain _ | ⟨z,v0⟩:=v0
    ·exact ⟨w,rfl⟩
    ·cases hv
  exact ⟨⟨[some x],rfl,rfl⟩,h4 x H3 hy⟩
theorem i7 {px:Pos}
  (hc:X.calm=true) (hi:PI X (.Name x px) iter wi)
  (iT:∀ y∈scope.names,y.2≠ .cell) (mH:scope.kind= .function) (lY:∀ y∈scope.names,y.2= .local→scope.names.lookup y.1=some .local) (hx:scope.names.lookup x=some .local)
  (hfr:∀ y∈scope.names,y.2= .free→X.env.scope.names.lookup y.1=some .cell) (hnd:(x::fr).Nodup) (hjs:js.map (fun j=>X.N[j]?)=fr.map some) (hfv:∀ y∈fr,scope.names.lookup y=some .free)
  (hb:∀ cl C s' H' ex,PE (gP X scope cl C (x::fr) s' H' ex) elt te∧PTs (gP X scope cl C (x::fr) s' H' ex) ifs tt)
  (hs:∀ z,gU iter X.env z=fP z:=by intro _;rfl) :
  PE X (.ListComp elt [⟨.Name x px,iter,ifs,0⟩] scope pos) (tComp wi js tt te) :=
 pe_compC (xs:=[x]) (g:=oH 0) hc hi iT mH lY hfr hjs hfv (fun _ _ _ _ _=>cY hnd rfl (.inl (fj hx)) (.inr (fj hx))) hb (fun _ _ _ _ h=>compW_T h) hs
theorem lx {Q:VK}(Pv:Nat→List V→Hp→Prop)(h0:Pv 0 [] H)(hl:∀ i ys H,i≤xs.length→Pv i ys H→SqT K H a xs∧ys.length≤i)(hz:xs.length≤bq)
  (hs:∀ i x ys H,xs[i]? =some x→Pv i ys H→tt (some x::dO σ js) H fun b H4=>if b=true then te (some x::dO σ js) H4 fun y H5=>Pv (i+1) (ys++[y]) H5 else Pv (i+1) ys H4)
  (hd:∀ ys H,Pv xs.length ys H→∀ D,H D=none→Q (.ref D) (upd H D (.lst ys))):CompW js tt te σ Q (Itt K a) H:=by
 refine ⟨fun i m ys H=>i≤xs.length∧m=xs.length - i∧Pv i ys H,⟨_,bF _,rfl,h0⟩,fun i m ys H2 ⟨hi,hm,hp⟩=>?_⟩;obtain ⟨hq,hy⟩:=hl i ys H2 hi hp
 by_cases e:i=xs.length
 ·subst e
  exact .inl ⟨⟨xs,hq,aC _⟩,hd ys H2 hp⟩
 ·have hlt:i<xs.length:=ib hi e
  refine .inr ⟨⟨xs,_,hq,gE hlt⟩,by lia,Pv (i+1),fun ys' H' hp'=>⟨xs.length - (i+1),by lia,by lia,rfl,hp'⟩,fun x H3 hy3=>?_⟩;obtain ⟨e3,hx⟩:=hy3;subst e3;exact hs i x ys H3 (hx xs hq) hp
theorem nextT_item {j t:ao}{its}{v:ag}(jt:s.heap.IsTupleIter j t i)(tt:s.heap.IsTuple t its)(hv:its[i]? =some v)
  (q:∀ g,g.IsTupleIter j t (i+1)→eJ j s.heap g→Q v { s with heap:=g }):aW (bz prog w) A (dt (.ref j)) Q E s:=by
 obtain ⟨ob,e1,e2,e3⟩:=id jt;obtain ⟨ot,g1,_,k,g2⟩:=tt;unfold dt;refine ah (eD (name:=cZ "__next__") jt.typeIs iX (gp iX jt.typeIs F.entry_tuple_iterator_next ?_ (F.args_tuple_iterator_next_1 _)));show aW _ _ (field (.ref j) 0 >>= _) _ _ s;refine ah (dm e1 e3 (x:= .ref t) rfl ?_);show aW _ _ (ite ((ag.ref t == ag.none)=true) _ _) _ _ s;rw [qZ (fun z:(ag.ref t == ag.none)=true=>aV z)];show aW _ _ (field (.ref j) 1 >>= _) _ _ s;refine ah (dm e1 e3 (x:= .int i 0) rfl ?_);show aW _ _ (seqItems? (.ref t) >>= _) _ _ s;refine ah (fU g1 g2 ?_);simp only [cQ,hv];refine ah (wpAny_setField e1 e3 (by simp) (aL ⟨v,rfl,aL (q _ ?_ (gv ..))⟩));exact ⟨_,bK.get?_update_self _ e1 (Obj.isFreed_of_fields (Obj.data_mapFields e3 _)),(Obj.cls_mapFields ..).trans e2,by rw [Obj.data_mapFields e3];simp [rawInt]⟩
theorem nextT_end {j t:ao}{its}(hh:A.handled=none)(jt:s.heap.IsTupleIter j t i)(tt:s.heap.IsTuple t its)(hv:its[i]? =none)
  (q:∀ g x,bK.ExtBut j s.heap g→(∃ o,g.get? x=some o∧o.cls= .type "StopIteration")→E (.ref x) { s with heap:=g }):aW (bz prog w) A (dt (.ref j)) Q E s:=by
 obtain ⟨ob,e1,e2,e3⟩:=id jt;obtain ⟨ot,g1,_,k,g2⟩:=tt;unfold dt;refine ah (eD (name:=cZ "__next__") jt.typeIs iX (gp iX jt.typeIs F.entry_tuple_iterator_next ?_ (F.args_tuple_iterator_next_1 _)));show aW _ _ (field (.ref j) 0 >>= _) _ _ s;refine ah (dm e1 e3 (x:= .ref t) rfl ?_);show aW _ _ (ite ((ag.ref t == ag.none)=true) _ _) _ _ s;rw [qZ (fun z:(ag.ref t == ag.none)=true=>aV z)];show aW _ _ (field (.ref j) 1 >>= _) _ _ s;refine ah (dm e1 e3 (x:= .int i 0) rfl ?_);show aW _ _ (seqItems? (.ref t) >>= _) _ _ s;refine ah (fU g1 g2 ?_);simp only [cQ,hv];refine ah (wpAny_rule (ah (wpAny_setField e1 e3 (by simp) ?_)));show aW _ _ (newExc (.type "StopIteration") [] >>= _) _ _ _;refine ah ?_;simp only [newExc,newTuple];refine ah (dh ?_ (by size_fits));refine ah (m:=firstArgMember _ _) (wpAny_of_eq (a:=ag.none) (by first | rfl | (unfold firstArgMember;rfl)) ?_);refine dh ?_ (by size_fits);simp only [raiseNew];refine ah (wpAny_handled ?_)
 first | rw [show A.in1.handled=none from hh] | rw [hh]
 exact ah (aL (wpAny_throw (q _ _ (((gv ..).extBut.push _).push _) ⟨_,aZ _ rfl,rfl⟩)))
theorem Inv.turnAll {g:bK}(I:Inv X aP σ H s)(hf:∀ b∈ch,FpOk X aP H b)
  (k:∀ b o,b ∉ ch→s.heap.get? b=some o→g.get? b=some o) (hH:∀ b u,H b=some u→H' b=some u) (hN:∀ b o,s.heap.get? b=some o→H b=none→H' b=none) (hok:HOk X.prog X.w H' g):Inv X aP σ H' { s with heap:=g }:=by
 refine I.step (g':=s.gens) (d':=s.drawn) (t':=s.toks) (ch:=ch) (fun b hb=>?_) (fun b o _ _ hc e _=>k b o hc e) (fun b o _ _ hc e _=>⟨o.slots,k b o hc e⟩) (fun b o _ e n=>hN b o e n)
  (fun b o hc e=>⟨o,k b o hc e⟩) (fun b xs e=>hH b _ e) (fun b o u e=>hH b _ e) (fun b ps e=>⟨#[],by rw [hH b _ e];simp⟩) (fun m hm=>?_) hok I.bare
 ·obtain ⟨_,f1,_,f3,f4,f5⟩:=hf b hb
  exact ⟨f3,f1,f4,f5⟩
 ·obtain ⟨o,es,ep,ho,r⟩:=hm
  exact ⟨o,es,ep,k _ o (fun hb=>(hf _ hb).2.1 rfl) ho,r⟩
theorem Same.put (e:Same H H1){p:ao}(h:H1 p=none):Same H (upd H1 p o):=fun b u q=>by rw [br (bf (e b u q) h)];exact e b u q
theorem Inv.big (I:Inv X aP σ H s):jy<s.heap.objs.size:=by
 have h:bS<s.heap.objs.size:=(I.mod.glob.keeps I.bk).lt;exact jG (by decide) h
theorem dk_empty (h:bK)(hb:jy<h.objs.size):ObjOk P w H (h.push { cls:= .type "dict",data:= .dict #[] }) h.objs.size (.dK []) :=
 ⟨bF _,beq_eq_false_iff_ne.mpr (bX (bM hb)),[],.nil,bK.DictOf.new h⟩
def tDNewK:TE:=fun _ H Q=>∀ p,H p=none→Q (.ref p) (upd H p (.dK []))
theorem pe_dnewK:PE X (.Dict [] [] pos) tDNewK:=fun aP s σ H Q I h =>
 wpAny_Dict_empty ⟨.ref s.heap.objs.size,_,I.laid (a:=s.heap.objs.size) (o:= .dK []) (t':=s.toks) (fun _ _ q=>ar _ q) (aC _) (dk_empty s.heap I.big),rfl,h _ (I.hok.fresh (aC _))⟩
theorem PE.imp {t t':TE}(h:PE X e t)(i:∀ σ H Q,t' σ H Q→t σ H Q):PE X e t':=fun aP s σ H Q I q=>h aP s σ H Q I (i σ H Q q)
theorem OpR.imp {f:ag→ag→Sem ag}{r r':R2}(h:OpR X f r)(i:∀ x y H Q,r' x y H Q→r x y H Q):OpR X f r':=fun aP s σ H x y v u Q I rx ry q=>h aP s σ H x y v u Q I rx ry (i x y H Q q)
theorem CallR.imp {f:ag}{r r':List V→Hp→VK→Prop}(h:CallR X f r)(i:∀ xs H Q,r' xs H Q→r xs H Q):CallR X f r':=fun aP s σ H xs us Q I rv q=>h aP s σ H xs us Q I rv (i xs H Q q)
theorem SlR.imp (h:SlR X r)(i:∀ x lo hi H Q,r' x lo hi H Q→r x lo hi H Q):SlR X r':=fun aP s σ H x v vl vu lo hi sl Q I rx hs pl pu q=>h aP s σ H x v vl vu lo hi sl Q I rx hs pl pu (i x lo hi H Q q)
def tACut (t:TA):TA:=fun σ H R=>∃ R':List V→Hp→Prop,(∀ xs H,R' xs H→R xs H)∧t σ H R'
theorem PA.cut (h:PA X es t):PA X es (tACut t):=fun pos aP s σ H Q I ⟨R',i,q⟩ =>
 thn (h pos aP s σ H R' I q) fun us s' ⟨vs,H',I',rv,q'⟩=>⟨vs,H',I',rv,i _ _ q'⟩
def New (H:Hp)(o:HO)(Q:VK):Prop:=∀ p H',Same H H'→H' p=some o→Q (.ref p) H'
theorem New.of {Q:VK}(h:New H o Q):∀ p,H p=none→Q (.ref p) (upd H p o):=fun p hp=>h p _ (Same.put (Same.refl H) hp) aS
def tTupA (t:TA):TE:=fun σ H Q=>t σ H fun xs H1=>xs.length≤bq∧New H1 (.tup xs) Q
def tLstA (t:TA):TE:=fun σ H Q=>t σ H fun xs H1=>xs.length≤bq∧New H1 (.lst xs) Q
theorem d8 {x1}(h:PA X es t):PE X (.Tuple es x1 pos) (tTupA t):=(oq h.cut).imp fun _ _ _ q=>⟨_,fun _ _ z=>⟨z.1,z.2.of⟩,q⟩
theorem pV (h:PA X es t):PE X (.List es pos) (tLstA t):=(iY h.cut).imp fun _ _ _ q=>⟨_,fun _ _ z=>⟨z.1,z.2.of⟩,q⟩
theorem og:OpR X (gW .Add) (fun x y H Q=>∃ l b xs zs,x= .ref l∧y= .ref b∧H l=some (.lst xs)∧H b=some (.lst zs)∧xs.length+zs.length≤bq∧New H (.lst (xs++zs)) Q) :=
 op_cat.imp fun _ _ _ _ ⟨l,b,xs,zs,e1,e2,e3,e4,e5,q⟩=>⟨l,b,xs,zs,e1,e2,e3,e4,e5,q.of⟩
inductive Dt where
 | non | bl (b:Bool) | int (i:Int) | str (x:Str) | tup (ds:List Dt) | oth (T:String)
mutual
inductive IsD (H:Hp):V→Dt→Prop where
 | non:IsD H .non .non
 | bl (b:Bool):IsD H (.bl b) (.bl b)
 | int (i:Int):IsD H (.int i) (.int i)
 | str (x:Str):IsD H (.str x) (.str x)
 | tup {a:ao} {xs:List V} {ds:List Dt} (h:H a=some (.tup xs)) (r:IsDs H xs ds):IsD H (.ref a) (.tup ds)
 | lst {a:ao} {xs:List V} (h:H a=some (.lst xs)):IsD H (.ref a) (.oth "list")
 | dct {a:ao} {kvs:List (Key×V)} (h:H a=some (.dK kvs)):IsD H (.ref a) (.oth "dict")
inductive IsDs (H:Hp):List V→List Dt→Prop where
 | nil:IsDs H [] []
 | cons {x:V} {d:Dt} {xs:List V} {ds:List Dt} (h:IsD H x d) (r:IsDs H xs ds):IsDs H (x::xs) (d::ds)
end
mutual
theorem IsD.same {H H':Hp}(e:Same H H'):∀ {v:V} {d:Dt},IsD H v d→IsD H' v d
 | _,_,.non=> .non
 | _,_,.bl b=> .bl b
 | _,_,.int i=> .int i
 | _,_,.str x=> .str x
 | _,_,.tup h r=> .tup (e _ _ h) (IsDs.same e r)
 | _,_,.lst h=> .lst (e _ _ h)
 | _,_,.dct h=> .dct (e _ _ h)
theorem IsDs.same {H H':Hp}(e:Same H H'):∀ {vs:List V} {ds:List Dt},IsDs H vs ds→IsDs H' vs ds
 | _,_,.nil=> .nil
 | _,_,.cons h r=> .cons (IsD.same e h) (IsDs.same e r)
end
mutual
theorem IsD.inj {H:Hp}:∀ {v:V} {d e:Dt},IsD H v d→IsD H v e→d=e
 | _,_,_,.non,.non=>rfl
 | _,_,_,.bl _,.bl _=>rfl
 | _,_,_,.int _,.int _=>rfl
 | _,_,_,.str _,.str _=>rfl
 | _,_,_,.tup h r,q=>by
  cases q with
  | tup h' r'=>rw [h] at h';cases h';rw [IsDs.inj r r']
  | lst h'=>rw [h] at h';cases h'
  | dct h'=>rw [h] at h';cases h'
 | _,_,_,.lst h,q=>by
  cases q with
  | tup h' r'=>rw [h] at h';cases h'
  | lst h'=>rfl
  | dct h'=>rw [h] at h';cases h'
 | _,_,_,.dct h,q=>by
  cases q with
  | tup h' r'=>rw [h] at h';cases h'
  | lst h'=>rw [h] at h';cases h'
  | dct h'=>rfl
theorem IsDs.inj {H:Hp}:∀ {vs:List V} {ds es:List Dt},IsDs H vs ds→IsDs H vs es→ds=es
 | _,_,_,.nil,.nil=>rfl
 | _,_,_,.cons h r,.cons h' r'=>by rw [IsD.inj h h',IsDs.inj r r']
end
theorem IsDs.length:∀ {xs:List V} {ds:List Dt},IsDs H xs ds→xs.length=ds.length
 | _,_,.nil=>rfl
 | _,_,.cons _ r=>by rw [aX,aX,IsDs.length r]
theorem IsDs.get:∀ {xs:List V} {ds:List Dt} {i:Nat} {x:V},IsDs H xs ds→xs[i]? =some x→∃ d,ds[i]? =some d∧IsD H x d
 | _,_,_,_,.nil,e=>by simp at e
 | _,_,0,_,.cons h _,e=>by simp at e;subst e;exact ⟨_,rfl,h⟩
 | _,_,i+1,x,.cons _ r,e=>by
  obtain ⟨d,h1,h2⟩:=IsDs.get (i:=i) (x:=x) r (by simpa using e);exact ⟨d,by simpa using h1,h2⟩
theorem IsDs.at:∀ {xs:List V} {ds:List Dt} {i:Nat} {d:Dt},IsDs H xs ds→ds[i]? =some d→∃ x,xs[i]? =some x∧IsD H x d
 | _,_,_,_,.nil,e=>by simp at e
 | _,_,0,_,.cons h _,e=>by simp at e;subst e;exact ⟨_,rfl,h⟩
 | _,_,i+1,d,.cons _ r,e=>by
  obtain ⟨x,h1,h2⟩:=IsDs.at (i:=i) (d:=d) r (by simpa using e);exact ⟨x,by simpa using h1,h2⟩
theorem IsDs.append:∀ {xs ys:List V} {ds es:List Dt},IsDs H xs ds→IsDs H ys es→IsDs H (xs++ys) (ds++es)
 | _,_,_,_,.nil,s=>s
 | _,_,_,_,.cons h r,s=> .cons h (IsDs.append r s)
theorem IsDs.take:∀ {xs:List V} {ds:List Dt} (n:Nat),IsDs H xs ds→IsDs H (xs.take n) (ds.take n)
 | _,_,0,_=> .nil
 | _,_,_+1,.nil=> .nil
 | _,_,n+1,.cons h r=> .cons h (IsDs.take n r)
theorem IsDs.drop:∀ {xs:List V} {ds:List Dt} (n:Nat),IsDs H xs ds→IsDs H (xs.drop n) (ds.drop n)
 | _,_,0,r=>r
 | _,_,_+1,.nil=> .nil
 | _,_,n+1,.cons _ r=>IsDs.drop n r
theorem IsDs.one {x:V}{d:Dt}(h:IsD H x d):IsDs H [x] [d]:= .cons h .nil
theorem IsDs.ints:∀ (ns:List Int),IsDs H (ns.map V.int) (ns.map Dt.int)
 | []=> .nil
 | n::r=> .cons (.int n) (IsDs.ints r)
theorem IsDs.ints_of:∀ {xs:List V} {ns:List Int},IsDs H xs (ns.map Dt.int)→xs=ns.map V.int
 | _,[],.nil=>rfl
 | _,n::r,.cons h q=>by cases h;rw [IsDs.ints_of q];rfl
theorem IsD.tup_of {ds:List Dt}(h:IsD H v (.tup ds)):∃ a xs,v= .ref a∧H a=some (.tup xs)∧IsDs H xs ds:=by
 cases h with
 | tup h r=>exact ⟨_,_,rfl,h,r⟩
def Dt.ty:Dt→String
 | .non => "NoneType" | .bl _ => "bool" | .int _ => "int" | .str _ => "str" | .tup _ => "tuple" | .oth T=>T
theorem IsD.tyn {d:Dt}(h:IsD H v d):tyn H v=some d.ty:=by
 cases h with
 | tup h r=>simp only [L2.tyn];rw [h];rfl
 | lst h=>simp only [L2.tyn];rw [h];rfl
 | dct h=>simp only [L2.tyn];rw [h];rfl
 | _=>rfl
mutual
def eqD:Dt→Dt→Bool
 | .non,.non=>true
 | .bl a,.bl b=>a == b
 | .bl a,.int b=>(if a then 1 else 0) == b
 | .int a,.bl b=>a == (if b then 1 else 0)
 | .int a,.int b=>a == b
 | .str a,.str b=>a == b
 | .tup xs,.tup ys=>eqDs xs ys
 | _,_=>false
def eqDs:List Dt→List Dt→Bool
 | [],[]=>true
 | x::xs,y::ys=>eqD x y && eqDs xs ys
 | _,_=>false
end
mutual
def pl:Dt→Bool
 | .oth _=>false
 | .tup ds=>pls ds
 | _=>true
def pls:List Dt→Bool
 | []=>true
 | d::ds=>pl d && pls ds
end
mutual
def dep:Dt→Nat
 | .tup ds=>deps ds+1
 | _=>0
def deps:List Dt→Nat
 | []=>0
 | d::ds=>max (dep d) (deps ds)
end
mutual
theorem eqD_refl:∀ d:Dt,pl d=true→eqD d d=true
 | .non,_=>by unfold eqD;rfl
 | .bl b,_=>by unfold eqD;exact beq_self_eq_true b
 | .int i,_=>by unfold eqD;exact beq_self_eq_true i
 | .str x,_=>by unfold eqD;exact beq_self_eq_true x
 | .tup ds,h=>by
  unfold eqD;unfold pl at h;exact eqDs_refl ds h
 | .oth T,h=>by unfold pl at h;cases h
theorem eqDs_refl:∀ ds:List Dt,pls ds=true→eqDs ds ds=true
 | [],_=>by unfold eqDs;rfl
 | d::ds,h=>by
  unfold eqDs;unfold pls at h;rw [dX] at h;rw [eqD_refl d h.1,eqDs_refl ds h.2];rfl
end
end L2
namespace L2
open PySem PySem.Spec PyProof.Rows
theorem i9:CallR X (.type "tuple") (fun xs H Q=>∃ p ys,xs=[.ref p]∧SqL X.K H p ys∧New H (.tup ys) Q) :=
 call_tuple_of.imp fun _ _ _ ⟨p,ys,e,h,q⟩=>⟨p,ys,e,.inl ⟨h,q.of⟩⟩
theorem sl_listA:SlR X (fun x lo hi H Q=>∃ a xs,x= .ref a∧SqL X.K H a xs∧New H (.lst (cutV xs lo hi)) Q) :=
 sl_list.imp fun _ _ _ _ _ ⟨a,xs,e,h,q⟩=>⟨a,xs,e,h,q.of⟩
theorem kK {Q:VK}(Pv:Nat→List V→Hp→Prop)(h0:Pv 0 [] H)(hl:∀ i ys H,i≤xs.length→Pv i ys H→SqL K H a xs∧ys.length≤i)(hz:xs.length≤bq)
  (hs:∀ i x ys H,xs[i]? =some x→Pv i ys H→tt (some x::dO σ js) H fun b H4=>if b=true then te (some x::dO σ js) H4 fun y H5=>Pv (i+1) (ys++[y]) H5 else Pv (i+1) ys H4)
  (hd:∀ ys H,Pv xs.length ys H→∀ D,H D=none→Q (.ref D) (upd H D (.lst ys))):CompW js tt te σ Q (Itl K a) H:=by
 refine ⟨fun i m ys H=>i≤xs.length∧m=xs.length - i∧Pv i ys H,⟨_,bF _,rfl,h0⟩,fun i m ys H2 ⟨hi,hm,hp⟩=>?_⟩;obtain ⟨hq,hy⟩:=hl i ys H2 hi hp
 by_cases e:i=xs.length
 ·subst e
  exact .inl ⟨⟨xs,hq,aC _⟩,hd ys H2 hp⟩
 ·have hlt:i<xs.length:=ib hi e
  refine .inr ⟨⟨xs,_,hq,gE hlt⟩,by lia,Pv (i+1),fun ys' H' hp'=>⟨xs.length - (i+1),by lia,by lia,rfl,hp'⟩,fun x H3 hy3=>?_⟩;obtain ⟨e3,hx⟩:=hy3;subst e3;exact hs i x ys H3 (hx xs hq) hp
theorem kJ {Q:VK}(Pv:Nat→List V→Hp→Prop)(h0:Pv 0 [] H)(hl:∀ i ys H,i≤n→Pv i ys H→ys.length≤i)(hz:n≤bq)
  (hs:∀ (i:Nat) ys H,i<n→Pv i ys H→tt (some (.int (lo+i))::dO σ js) H fun b H4=>if b=true then te (some (.int (lo+i))::dO σ js) H4 fun y H5=>Pv (i+1) (ys++[y]) H5 else Pv (i+1) ys H4)
  (hd:∀ ys H,Pv n ys H→∀ D,H D=none→Q (.ref D) (upd H D (.lst ys))):CompW js tt te σ Q (Itr lo n) H:=by
 refine ⟨fun i m ys H=>i≤n∧m=n - i∧Pv i ys H,⟨_,bF _,rfl,h0⟩,fun i m ys H2 ⟨hi,hm,hp⟩=>?_⟩;have hy:=hl i ys H2 hi hp
 by_cases e:i=n
 ·subst e
  exact .inl ⟨aC _,hd ys H2 hp⟩
 ·have hlt:i<n:=ib hi e
  refine .inr ⟨hlt,by lia,Pv (i+1),fun ys' H' hp'=>⟨n - (i+1),by lia,by lia,rfl,hp'⟩,fun x H3 hy3=>?_⟩;obtain ⟨e3,hx⟩:=hy3;subst e3 hx;exact hs i ys H3 hlt hp
theorem ps_setCC {iy:Nat}{y0:Str}{py spos:Pos}{xs:List Str}
  (hN0:X.N.Nodup) (hi0:X.N[iy]? =some y0) (hx0:Loc X.env.scope y0) (hc:X.calm=true) (hi:PI X tg iter wi)
  (iT:∀ y∈scope.names,y.2≠ .cell) (mH:scope.kind= .function) (lY:∀ y∈scope.names,y.2= .local→scope.names.lookup y.1=some .local)
  (hfr:∀ y∈scope.names,y.2= .free→X.env.scope.names.lookup y.1=some .cell) (hjs:js.map (fun j=>X.N[j]?)=fr.map some) (hfv:∀ y∈fr,scope.names.lookup y=some .free)
  (hg:∀ cl C s' H' ex,PG (gP X scope cl C (xs++fr) s' H' ex) tg g)
  (hb:∀ cl C s' H' ex,PE (gP X scope cl C (xs++fr) s' H' ex) elt te∧PTs (gP X scope cl C (xs++fr) s' H' ex) ifs tt)
  (hCW:∀ σ Q J H1,CW σ Q J H1→qY xs.length g js tt te σ Q J H1) (hs:∀ z,gU iter X.env z=fP z:=by intro _;rfl) (hsw:swapsWith (.ListComp elt [⟨tg,iter,ifs,0⟩] scope pos) (some (.Name y0 py)) spos.line X.env=fP true:=by rfl)
  (hf0:X.fn y0=true∨X.env.scope.names.lookup y0=some .local:=by first | exact .inl rfl | exact .inr rfl | assumption) :
  PS X (.Assign [.Name y0 py] (.ListComp elt [⟨tg,iter,ifs,0⟩] scope pos) spos) (tAsg (fun σ H Q=>wi σ H fun J H1=>CW σ Q J H1) (oH iy)):=by
 intro aP s σ H Dn I h;rw [exec_Assign_Name_used _ _ _ _ hsw];refine ah (wpAny_standAt (ah ?_));show aW _ X.A (do let _ ← comprehension (.ListComp elt [⟨tg,iter,ifs,0⟩] scope pos) scope X.env _ (newList []) false (eV iter X.env) (some (assign (.Name y0 py) X.env))) _ _ s;refine ah (cy (comp_core (use:=some (assign (.Name y0 py) X.env)) (R:=fun _ s'=>SP X aP Dn .next s') hc hi iT mH lY hfr hjs hfv hg hb hCW I h (fun s4 H5 D C mC hnC I5 nC locC fsC pinX cC sC q=>?_) hs) (fun _ s' hq=>aL (aL hq)) fun _ _ e=>e);obtain ⟨oC,esC,epC,hoC,rC⟩:=id hnC;have I6:Inv X ((C,oC)::aP) σ H5 s4:=I5.pins_of fun p hp=>by
  rcases aG.mp hp with rfl | hp
  ·refine ⟨hoC,nC,locC,fsC,fun v z=>?_⟩
   rw [rC.1] at z;cases z
  ·exact I5.pin p (aA _ hp)
 have hPG0:PG X (.Name y0 py) (oH iy):=cY hN0 hi0 hx0 hf0;refine thn (hPG0 _ s4 σ _ (.ref D) (.ref D) (fun σ' H'=>Dn.nx σ' H'∧H' C=none) I6 rfl ⟨q,nC⟩) fun _ s6 ⟨σ6,H6,I7,q7,n7⟩=>?_
 have o7:=(I7.pin (C,oC) (aA _ (bB ..))).1;refine ⟨mC,⟨oC,esC,epC,o7,rC⟩,fun h' hsb=>⟨σ6,H6,?_,q7⟩⟩;have I8:Inv X aP σ6 H6 s6:=I7.pins_of fun p hp=>I7.pin p (aA _ (aw _ hp))
 exact I8.turned (t':=s6.toks) (it:=C) (fun b o hb' e=>hsb.extBut b o hb' e) n7 locC (.inr sC) cC pinX
theorem pS {iy:Nat}{y0:Str}{py spos:Pos}{px:Pos}
  (hN0:X.N.Nodup) (hi0:X.N[iy]? =some y0) (hx0:Loc X.env.scope y0) (hc:X.calm=true) (hi:PI X (.Name x px) iter wi)
  (iT:∀ y∈scope.names,y.2≠ .cell) (mH:scope.kind= .function) (lY:∀ y∈scope.names,y.2= .local→scope.names.lookup y.1=some .local) (hx:scope.names.lookup x=some .local)
  (hfr:∀ y∈scope.names,y.2= .free→X.env.scope.names.lookup y.1=some .cell) (hnd:(x::fr).Nodup) (hjs:js.map (fun j=>X.N[j]?)=fr.map some) (hfv:∀ y∈fr,scope.names.lookup y=some .free)
  (hb:∀ cl C s' H' ex,PE (gP X scope cl C (x::fr) s' H' ex) elt te∧PTs (gP X scope cl C (x::fr) s' H' ex) ifs tt)
  (hs:∀ z,gU iter X.env z=fP z:=by intro _;rfl) (hsw:swapsWith (.ListComp elt [⟨.Name x px,iter,ifs,0⟩] scope pos) (some (.Name y0 py)) spos.line X.env=fP true:=by rfl)
  (hf0:X.fn y0=true∨X.env.scope.names.lookup y0=some .local:=by first | exact .inl rfl | exact .inr rfl | assumption) :
  PS X (.Assign [.Name y0 py] (.ListComp elt [⟨.Name x px,iter,ifs,0⟩] scope pos) spos) (tAsg (tComp wi js tt te) (oH iy)) :=
 ps_setCC (xs:=[x]) (g:=oH 0) hN0 hi0 hx0 hc hi iT mH lY hfr hjs hfv (fun _ _ _ _ _=>cY hnd rfl (.inl (fj hx)) (.inr (fj hx))) hb (fun _ _ _ _ h=>compW_T h) hs hsw hf0
def notStar:Expr→Bool
 | .Starred _ _=>false
 | _=>true
theorem starEach_not (h:notStar e=true):bD (e::es) env=(false,eV e env)::bD es env:=by
 cases e <;> first | rfl | cases h
theorem pa_k (ha:PE X e te)(hr:PA X es t)(h:notStar e=true:=by rfl):PA X (e::es) (o8 te t):=ae ha hr (starEach_not h)
structure PEs (X:Cx)(e:Expr)(t:TE):Prop where
 h:PE X e t
structure PAs (X:Cx)(es:List Expr)(t:TA):Prop where
 h:PA X es t
structure PSt (X:Cx)(st:cV)(t:TS):Prop where
 h:PS X st t
theorem mz {t:TS}(h:PS X st t):PS X st (fun D σ H=>∃ N:St→Hp→Prop,(∀ σ' H',N σ' H'→D.nx σ' H')∧t { D with nx:=N } σ H):=by
 intro aP s σ H D I ⟨N,hN,ht⟩;refine thn (h aP s σ H { D with nx:=N } I ht) fun f s' q=>?_
 cases f with
 | next=>obtain ⟨σ',H',I',n'⟩:=q;exact ⟨σ',H',I',hN _ _ n'⟩
 | brk=>exact q
 | cont=>exact q
 | ret u=>exact q
structure PSl (X:Cx)(sts:List cV)(t:TS):Prop where
 h:PSs X sts t
section
variable {a b:Expr}{tb:TE}
theorem kD {i j}:PEs X (.Constant (.int i) j pos) (tC (.int i)):=⟨bg⟩
theorem k_op {op:Operator}{r:R2}(ho:OpR X (gW op) r)(ha:PEs X a ta)(hb:PEs X b tb):PEs X (.BinOp a op b pos) (tOp r ta tb):=⟨b9 ho ha.h hb.h⟩
theorem k_ix {r:R2}(hr:IxR X r)(ha:PEs X a ta)(hb:PEs X b tb)(hs:PlainIx b):PEs X (.Subscript a b pos) (tOp r ta tb):=⟨dN hr ha.h hb.h hs⟩
theorem k_lst (h:PAs X es t):PEs X (.List es pos) (tLstA t):=⟨pV h.h⟩
theorem a_nil:PAs X [] tNil:=⟨aB⟩
theorem gf (ha:PEs X e te)(hr:PAs X es t)(h:notStar e=true:=by rfl):PAs X (e::es) (o8 te t):=⟨pa_k ha.h hr.h h⟩
theorem aU {sts:List cV}{t u:TS}(a:PSt X st t)(b:PSl X sts u):PSl X (st::sts) (tSeq t u):=⟨oW a.h b.h⟩
theorem dH {t:TS}(a:PSt X st t):PSl X [st] t:=⟨cO a.h⟩
end
def CBig (i j:Int):Prop:=i.natAbs<10 ^ 400∧j.natAbs<10 ^ 400
theorem bits_of {x:Int}(h:x.natAbs<10 ^ 400):jJ x≤2 ^ 20:=by
 unfold jJ;split
 ·exact bF _
 ·rename_i hx
  have h0 : x.natAbs ≠ 0 := fun z => hx (by have : x = 0 := by lia
                                            rw [this];rfl)
  have h1:x.natAbs<2 ^ 4000:=jG h (by decide +kernel);have h2:=(Nat.log2_lt h0).mpr h1;have h3:(4000:Nat)+1≤2 ^ 20:=by decide
  lia
theorem op_mulB:OpR X (gW .Mult) (rI CBig fun i j=> .int (i * j)):=opI fun _ _ _ _ _ _ _ hc q=>mul_int q (IntMulOk.of_bits (bits_of hc.1) (bits_of hc.2))
theorem oY:∀ {ns:List Int} {us:List ag},Vals (ns.map V.int) us→IntsAre us ns
 | [],_,.nil=> .nil
 | _::_,_,.cons ⟨_,e⟩ r=>by cases e;exact .cons _ _ (oY r)
theorem pe_compT {xs:List Str}
  (hc:X.calm=true) (hi:PI X tg iter wi)
  (iT:∀ y∈scope.names,y.2≠ .cell) (mH:scope.kind= .function) (lY:∀ y∈scope.names,y.2= .local→scope.names.lookup y.1=some .local)
  (hfr:∀ y∈scope.names,y.2= .free→X.env.scope.names.lookup y.1=some .cell) (hjs:js.map (fun j=>X.N[j]?)=fr.map some) (hfv:∀ y∈fr,scope.names.lookup y=some .free)
  (hg:∀ cl C s' H' ex,PG (gP X scope cl C (xs++fr) s' H' ex) tg g)
  (hb:∀ cl C s' H' ex,PE (gP X scope cl C (xs++fr) s' H' ex) elt te∧PTs (gP X scope cl C (xs++fr) s' H' ex) ifs tt)
  (hs:∀ z,gU iter X.env z=fP z:=by intro _;rfl) :
  PE X (.ListComp elt [⟨tg,iter,ifs,0⟩] scope pos) (tCompT wi xs.length g js tt te) :=
 pe_compC hc hi iT mH lY hfr hjs hfv hg hb (fun _ _ _ _ h=>h) hs
abbrev gPair (K:ak):TG:=gTup K 2 (gCons (oH 0) (gCons (oH 1) gNil))
theorem pg_two {ex:List ao}{y:Str}{k:Nat}{pt:Pos}(hc:X.calm=true)(hnd:(x::y::fr).Nodup)(hx:scope.names.lookup x=some .local)(hy:scope.names.lookup y=some .local) :
  PG (gP X scope cl C ([x,y]++fr) s H ex) (.Tuple [.Name x p1,.Name y p2] k pt) (gPair X.K) :=
 ng hc (fJ (cY (i:=0) hnd rfl (.inl (fj hx)) (.inr (fj hx))) (fJ (cY (i:=1) hnd rfl (.inl (fj hy)) (.inr (fj hy))) k5))
theorem places_back (n:Nat):cS ((n:Int) - 1) (-1) (-1)=n:=by
 unfold cS;rw [qZ (by decide)]
 by_cases h:(n:Int) - 1 > -1
 ·rw [q9 h,show -(-1:Int)=1 from rfl,Int.ediv_one];lia
 ·rw [qZ h];lia
theorem fm_some {α β:Type}{f:α→Option β}{g:α→β}:∀ (l:List α),(∀ x∈l,f x=some (g x))→l.filterMap f=l.map g
 | [],_=>rfl
 | x::l,h=>by rw [kh,h x (by simp),cj,fm_some l fun y hy=>h y (aw _ hy)]
theorem pick_back (xs:Array ag):((aQ xs.size).filterMap fun (k:Nat)=>xs[((xs.size:Int) - 1+(k:Int) * (-1)).toNat]?)=xs.toList.reverse:=by
 have e:∀ k∈aQ xs.size,(fun (k:Nat)=>xs[((xs.size:Int) - 1+(k:Int) * (-1)).toNat]?) k=some ((fun k=>xs.toList.getD (xs.size - 1 - k) .none) k):=fun k hk=>by
  have hk:=bT.mp hk;have:((xs.size:Int) - 1+(k:Int) * (-1)).toNat=xs.size - 1 - k:=by lia
  show xs[((xs.size:Int) - 1+(k:Int) * (-1)).toNat]? =some (xs.toList.getD (xs.size - 1 - k) .none);rw [this,ai,ir,eM (by lia)];rfl
 rw [fm_some _ e];refine List.ext_getElem (by simp) fun i h1 h2=>?_
 have hi:i<xs.size:=by simpa using h1
 rw [iP,jb,List.getElem_reverse,ai,gE (by rw [cU];lia)];simp
theorem applied_back {t:Tok}{Q:Int×Int×Nat→au→Prop}(hs:s.heap.IsSliceOf sl .none .none (.int (-1) t))(h:Q ((n:Int) - 1,-1,n) s):aW (bz prog w) A (eY (.ref sl) (fP (n:Int))) Q E s:=by
 obtain ⟨os,hos,hcs,hds⟩:=id hs;unfold eY jY;refine ah (ah (dm hos hds (x:= .none) rfl (ah (dm hos hds (x:= .none) rfl (ah (dm hos hds (x:= .int (-1) t) rfl (aL ?_)))))));refine ah (slicePart_int ?_);show aW _ _ (if ((-1:Int) == 0)=true then _ else _) _ _ s;rw [qZ (by decide)];refine ah (jO (ah (jO (ah (aL ?_)))));show aW _ _ (fP ((n:Int) - 1,(-1:Int),cS ((n:Int) - 1) (-1) (-1))) _ _ s;rw [places_back];exact aL h
theorem getItem_back {t:ao}{u:Tok}(ht:IsTup s.heap t items)(hs:s.heap.IsSliceOf sl .none .none (.int (-1) u))
  (h:Q (.ref s.heap.objs.size) { s with heap:=s.heap.push { cls:= .type "tuple",data:= .seq items.toList.reverse.toArray } })
  (hsz:items.size≤bq):aW (bz prog w) A (i8 (.ref t) (.ref sl)) Q E s:=by
 have hz:sizeOk (.seq items.toList.reverse.toArray):=by
  show items.toList.reverse.toArray.size≤bq;rw [aE,ft,cU];exact hsz
 obtain ⟨os,hos,hcs,hds⟩:=id hs;have hTs:s.TypeIs (.ref sl) "slice" := ⟨os,hos,hcs⟩;unfold i8
 try with_reducible refine dZ ?_
 first | refine ah (aL ?_) | skip
 refine ah (wpAny_sequenceKey ht.typeIs (by decide) ?_);refine ah (eD (name:=cZ "__getitem__") ht.typeIs bO
  (gp bO ht.typeIs kR ?_ (lJ _ _)))
 show aW _ _ (ia (.ref t) >>= _) _ _ s;refine ah (tupleItemsOf_ ht ?_);refine ah (wpAny_typeOf hTs ?_);rw [q9 (by decide)];refine ah (applied_back (n:=items.size) hs ?_);have hno:¬ ((((items.size:Int) - 1) == 0 && (-1:Int) == 1 && items.size == items.size)=true):=by
  intro q;rw [dX,dX] at q;exact rd q.1.2 (by decide)
 show aW _ _ (if (((items.size:Int) - 1) == 0 && (-1:Int) == 1 && items.size == items.size)=true then _ else _) _ _ s;rw [qZ hno,pick_back]
 first
  | exact ah (m:=dM _) (dh (aL ⟨_,rfl,aL h⟩) hz)
  | exact ah (m:=dM _) (dh (ah (aL (aL ⟨_,rfl,aL h⟩))) hz)
  | exact ah (ah (m:=dM _) (dh (aL (aL ⟨_,rfl,aL h⟩)) hz))
  | exact ah (ah (m:=dM _) (dh (aL ⟨_,rfl,aL h⟩) hz))
theorem getItem_all {t:ao}{vl vu:ag}{lo:Option Int}(ht:IsTup s.heap t items)(hs:s.heap.IsSliceOf sl vl vu .none)(pl:IsPart vl lo)(pu:IsPart vu hi)
  (hw:HT.sIx items.size 0 lo=0∧HT.sIx items.size items.size hi=items.size) (h:Q (.ref t) s):aW (bz prog w) A (i8 (.ref t) (.ref sl)) Q E s:=by
 obtain ⟨os,hos,hcs,hds⟩:=id hs;have hTs:s.TypeIs (.ref sl) "slice" := ⟨os,hos,hcs⟩;unfold i8
 try with_reducible refine dZ ?_
 first | refine ah (aL ?_) | skip
 refine ah (wpAny_sequenceKey ht.typeIs (by decide) ?_);refine ah (eD (name:=cZ "__getitem__") ht.typeIs bO
  (gp bO ht.typeIs kR ?_ (lJ _ _)))
 show aW _ _ (ia (.ref t) >>= _) _ _ s;refine ah (tupleItemsOf_ ht ?_);refine ah (wpAny_typeOf hTs ?_);rw [q9 (by decide)];refine ah (HT.sliceApplied_gen hs pl pu ?_);show aW _ _ (if (((HT.sIx items.size 0 lo:Nat):Int) == 0 && (1:Int) == 1 && (HT.sIx items.size items.size hi - HT.sIx items.size 0 lo) == items.size)=true then _ else _) _ _ s;rw [hw.1,hw.2,Nat.sub_zero,q9 (by simp)];unfold fY.Tuple.tupleIsExact;refine ah (ah (wpAny_typeOf ht.typeIs (aL ?_)));rw [q9 (by decide)];exact ah (wpAny_rule (aL ⟨_,rfl,aL h⟩))
theorem sl_tupN:SlR X (fun x lo hi H Q=>∃ a xs,x= .ref a∧H a=some (.tup xs)∧New H (.tup (cutV xs lo hi)) Q):=by
 intro aP s σ H x v vl vu lo hi sl Q I rx hs pl pu h;obtain ⟨a,xs,rfl,hx,q⟩:=h
 by_cases hw:HT.sIx xs.length 0 lo=0∧HT.sIx xs.length xs.length hi=xs.length
 ·cases rx
  obtain ⟨its,r,ht,hz⟩:=I.tuple (SqT.of (K:=X.K) hx);have hlen:its.toArray.size=xs.length:=by rw [aE];exact r.length.symm
  refine ⟨"tuple",_,bO.lookup,ht.typeIs,?_⟩;refine getItem_all ht hs pl pu (by rw [hlen];exact hw) ⟨.ref a,H,I,rfl,q a H (Same.refl H) ?_⟩;have e:cutV xs lo hi=xs:=by unfold cutV;rw [hw.1,hw.2,List.drop_zero,Nat.sub_zero,bc]
  rw [e];exact hx
 ·exact sl_tup aP s σ H _ v vl vu lo hi sl Q I rx hs pl pu ⟨a,xs,rfl,SqT.of hx,hw,q.of⟩
theorem vals_back:∀ {xs:List V} {us:List ag},Vals xs us→Vals xs.reverse us.reverse
 | _,_,.nil=> .nil
 | _::_,_::_,.cons r t=>by rw [gC,gC];exact (vals_back t).append (.cons r .nil)
theorem call_sum (hc:X.calm=true):CallR X (.builtin "sum") (fun xs H Q=>∃ (p:ao) (ns:List Int),xs=[.ref p]∧SqL X.K H p (ns.map V.int)∧Q (.int ns.sum) H):=by
 intro aP s σ H xs us Q I r h;obtain ⟨p,ns,rfl,hq,q⟩:=h;obtain ⟨u,rfl,ru⟩:=oz r;cases (show u=ag.ref p from ru);obtain ⟨its,rv,pl,hz⟩:=I.list hq;have hi:=oY rv;obtain ⟨ys,hx⟩:=hi.allInts.items;have hl':s.heap.IsList p (intItems ys):=hx ▸ pl.isList;refine sum_intListG (I.ok.hd hc) hl' fun h' tk t' hk=>?_
 have e1:ns=ys.toList.map (·.1):=by
  rw [←nums_intItems,←hx];exact (show numsOf its.toArray.toList=ns from hi.numsOf).symm
 have e2:preSum (numAt ys) ys.size=ns.sum:=by
  rw [preSum_eq,jr (by simp),e1]
 rw [e2];exact ⟨.int ns.sum,H,I.kept (t':=tk) hk,⟨t',rfl⟩,q⟩
def metL (ns:List Int):List Int:=firstMet (fun i=>ns.getD i 0) ns.length
theorem call_setL (hc:X.calm=true):CallR X (.type "set") (fun xs H Q=>∃ (p:ao) (ns:List Int),xs=[.ref p]∧SqL X.K H p (ns.map V.int)∧ns.length≤1000∧New H (.set (fun k=>(metL ns).any (· == k)) (metL ns).length) Q):=by
 intro aP s σ H xs us Q I r h;obtain ⟨p,ns,rfl,hq,hn,q⟩:=h;obtain ⟨u,rfl,ru⟩:=oz r;cases (show u=ag.ref p from ru);obtain ⟨its,rv,pl,hz⟩:=I.list hq;have hl:its.length=ns.length:=by rw [←rv.length,aa]
 refine call_set_list (ns:=ns) (I.ok.hd hc) pl.isList (oY rv) (by rw [aE,hl];show ns.length+1<4096;lia) fun h' tk hs hk=>?_
 have hl2:its.toArray.size=ns.length:=by rw [aE,hl]
 rw [hl2] at hs;exact ⟨.ref s.heap.objs.size,_,I.laid (t':=tk) (o:= .set (fun k=>(metL ns).any (· == k)) (metL ns).length) (fun b u e=>hk b u (aO e) e) (aC _) hs,rfl,q.of _ I.fresh⟩
theorem call_lenS:CallR X (.builtin "len") (fun xs H Q=>∃ (a:ao) (S:Int→Bool) (n:Nat),xs=[.ref a]∧H a=some (.set S n)∧Q (.int n) H):=by
 intro aP s σ H xs us Q I r h;obtain ⟨a,S,n,rfl,ha,q⟩:=h;obtain ⟨u,rfl,ru⟩:=oz r;cases (show u=ag.ref a from ru);obtain ⟨o,es,ep,t,e1,e2,e3,_,_,e4,e5,e6⟩:=I.hok a _ ha;have e4:es.size<4096:=e4;refine call_len_set e1 e2 e3 e5 (by lia) ?_;subst e6;exact ⟨.int es.size,H,I.tok _,⟨_,rfl⟩,q⟩
theorem vals_at:∀ {xs:List V} {us:List ag},xs.length=us.length→(∀ (i:Nat) (x:V),xs[i]? =some x→∃ u,us[i]? =some u∧RelV x u)→Vals xs us
 | [],[],_,_=> .nil
 | [],_::_,h,_=>by cases h
 | _::_,[],h,_=>by cases h
 | x::xs,u::us,h,k=>by
  obtain ⟨u',e,r⟩:=k 0 x rfl;cases e;exact .cons r (vals_at (by simpa using h) fun i y hy=>k (i+1) y hy)
theorem qh:CallR X (.type "range") (fun xs H Q=>∃ j:Int,xs=[.int j]∧New H (.rng 0 j) Q):=by
 intro aP s σ H xs us Q I r h;obtain ⟨j,rfl,q⟩:=h;obtain ⟨u,rfl,ru⟩:=oz r;obtain ⟨t,rfl⟩:=(show ∃ t,u=ag.int j t from ru);refine call_range_1 ?_;exact ⟨.ref s.heap.objs.size,_,I.laid (t':=s.toks+1+1) (o:= .rng 0 j) (fun _ _ z=>ar _ z) (aC _) ⟨_,_,_,aZ _ rfl⟩,rfl,q.of _ I.fresh⟩
theorem qV (hc:X.calm=true):CallR X (.type "list") (fun xs H Q=>∃ (a:ao) (n:Nat),xs=[.ref a]∧H a=some (.rng 0 (n:Int))∧n≤1000∧∀ l,H l=none→Q (.ref l) (upd H l (.lst ((aQ n).map fun k=>V.int (k:Nat))))):=by
 intro aP s σ H xs us Q I r h;obtain ⟨a,n,rfl,ha,hn,q⟩:=h;obtain ⟨u,rfl,ru⟩:=oz r;cases (show u=ag.ref a from ru);obtain ⟨t,u,v,hr⟩:=I.hok a _ ha;have hs:eO 0 (n:Int) 1=n:=by
  unfold eO;rw [q9 (by decide)]
  by_cases h0:(0:Int)<n
  ·rw [q9 h0,Int.ediv_one];lia
  ·rw [qZ h0];lia
 refine call_list_range (n:=n) (I.ok.hd hc) hr (by unfold iq;rw [hs];unfold fY.Range.rangeFitsLong;simp;lia) hs (by lia) fun h' tk acc c hk hg hi=>?_
 refine ⟨.ref s.heap.objs.size,_,I.laid (t':=tk) (o:= .lst ((aQ n).map fun k=>V.int (k:Nat))) hk (aC _) ⟨?_,acc.toList,c,?_,?_⟩,rfl,q _ I.fresh⟩
 ·rw [aa,bx];exact bo hn (by decide)
 ·refine vals_at (by rw [aa,bx,cU,hi.1]) fun i x hx=>?_
  rw [az] at hx;obtain ⟨k,hk2,rfl⟩:=bI.mp hx;have hik:i<n:=by have:=(aq.mp hk2).1;rw [bx] at this;exact this
  rw [gX hik] at hk2;cases hk2;have hi2:i<acc.size:=by rw [hi.1];exact hik
  have e:=eM hi2;obtain ⟨t2,e2⟩:=hi.2 i _ e;refine ⟨_,by rw [ir];exact e,⟨t2,?_⟩⟩;rw [e2];congr 1;lia
 ·rw [Array.toArray_toList];exact hg
theorem applied_on {t:Tok}{Q:Int×Int×Nat→au→Prop}(hs:s.heap.IsSliceOf sl .none .none (.int 1 t))(h:Q (0,1,n) s):aW (bz prog w) A (eY (.ref sl) (fP (n:Int))) Q E s:=by
 obtain ⟨os,hos,hcs,hds⟩:=id hs;unfold eY jY;refine ah (ah (dm hos hds (x:= .none) rfl (ah (dm hos hds (x:= .none) rfl (ah (dm hos hds (x:= .int 1 t) rfl (aL ?_)))))));refine ah (slicePart_int ?_);show aW _ _ (if ((1:Int) == 0)=true then _ else _) _ _ s;rw [qZ (by decide)];refine ah (jO (ah (jO (ah (aL ?_)))));show aW _ _ (fP ((0:Int),(1:Int),cS 0 (n:Int) 1)) _ _ s;have e:=HT.places_gen 0 n;rw [Nat.sub_zero] at e;rw [show cS 0 (n:Int) 1=n from e];exact aL h
theorem getItem_on {t:ao}{u:Tok}(ht:IsTup s.heap t items)(hs:s.heap.IsSliceOf sl .none .none (.int 1 u))(h:Q (.ref t) s):aW (bz prog w) A (i8 (.ref t) (.ref sl)) Q E s:=by
 obtain ⟨os,hos,hcs,hds⟩:=id hs;have hTs:s.TypeIs (.ref sl) "slice" := ⟨os,hos,hcs⟩;unfold i8
 try with_reducible refine dZ ?_
 first | refine ah (aL ?_) | skip
 refine ah (wpAny_sequenceKey ht.typeIs (by decide) ?_);refine ah (eD (name:=cZ "__getitem__") ht.typeIs bO
  (gp bO ht.typeIs kR ?_ (lJ _ _)))
 show aW _ _ (ia (.ref t) >>= _) _ _ s;refine ah (tupleItemsOf_ ht ?_);refine ah (wpAny_typeOf hTs ?_);rw [q9 (by decide)];refine ah (applied_on (n:=items.size) hs ?_);show aW _ _ (if ((0:Int) == 0 && (1:Int) == 1 && items.size == items.size)=true then _ else _) _ _ s;rw [q9 (by simp)];unfold fY.Tuple.tupleIsExact;refine ah (ah (wpAny_typeOf ht.typeIs (aL ?_)));rw [q9 (by decide)];exact ah (wpAny_rule (aL ⟨_,rfl,aL h⟩))
def tTurn (te ts:TE):TE:=fun σ H Q=>te σ H fun x H1=>ts σ H1 fun y H2=>∃ a xs d,x= .ref a∧y= .int d∧(d=1∨d= -1)∧H2 a=some (.tup xs)∧New H2 (.tup (if d=1 then xs else xs.reverse)) Q
theorem pe_turn {es:Expr}{ts:TE}(he:PE X e te)(hs:PE X es ts):PE X (.Subscript e (.Slice none none (some es) p2) pos) (tTurn te ts):=by
 intro aP s σ H Q I h;refine Subscript_ (thn (he aP s σ H _ I h) fun v s1 ⟨x,H1,I1,r1,q1⟩=>?_);refine wpAny_Slice ?_;rw [evalPart_none,evalPart_some];refine aL (aL ?_);refine thn (hs aP s1 σ H1 _ I1 q1) fun u s2 ⟨y,H2,I2,r2,q2⟩=>?_
 obtain ⟨a,xs,d,rfl,rfl,hd,hx,q⟩:=q2;obtain ⟨t,rfl⟩:=r2;cases r1;have I4:Inv X aP σ H2 { s2 with heap:=s2.heap.push { cls:= .type "slice",data:= .fields #[.none,.none,.int d t] } }:=I2.kept (t':=s2.toks) fun b ob q=>ar _ q
 obtain ⟨its,r,ht,hz⟩:=I4.tuple (SqT.of (K:=X.K) hx);have hlen:its.toArray.size=xs.length:=by rw [aE];exact r.length.symm
 rcases hd with rfl | rfl
 ·refine tail_any (ops:=[.ref a,.ref s2.heap.objs.size]) ht.typeIs bO.lookup (getItem_on ht (bK.IsSliceOf.new ..) ?_) (by with_unfolding_all rfl)
  exact ⟨.ref a,H2,I4,rfl,q a H2 (Same.refl H2) (by rw [q9 rfl];exact hx)⟩
 ·refine tail_any (ops:=[.ref a,.ref s2.heap.objs.size]) ht.typeIs bO.lookup (getItem_back ht (bK.IsSliceOf.new ..) ?_ (by rw [hlen];exact hz)) (by with_unfolding_all rfl)
  rw [qZ (by decide)] at q;refine ⟨.ref _,_,I4.laid (t':=s2.toks) (o:= .tup xs.reverse) (fun _ _ z=>ar _ z) (aC _) ⟨by rw [ft];exact hz,its.reverse,vals_back r,IsTupN.new _ _⟩,rfl,q.of _ I4.fresh⟩
theorem k_lstF (h:PAs X es t):PEs X (.List es pos) (tLst t):=⟨iY h.h⟩
section
variable {κ:Type} [DecidableEq κ]
def nQ (kvs:List (κ×V))(k:κ):Option V:=(kvs.find? fun kv=>decide (kv.1=k)).map (·.2)
def nW (kvs:List (κ×V))(k:κ)(v:V):List (κ×V) :=
 if (kvs.any fun kv=>decide (kv.1=k))=true then kvs.map (fun kv=>if kv.1=k then (kv.1,v) else kv) else kvs++[(k,v)]
theorem iL {p:κ×V}{r:List (κ×V)}{k:κ}(e:p.1=k):nQ (p::r) k=some p.2:=by simp [nQ,ig,e]
theorem ix {p:κ×V}{r:List (κ×V)}{k:κ}(e:¬ p.1=k):nQ (p::r) k=nQ r k:=by simp [nQ,ig,e]
theorem mW (k:κ):∀ kvs:List (κ×V),(kvs.any fun kv=>decide (kv.1=k))=(nQ kvs k).isSome
 | []=>rfl
 | p::r=>by
  rw [jX]
  by_cases e:p.1=k
  ·simp only [iL e,rf e,Bool.true_or,Option.isSome_some]
  ·rw [ix e,rh e,Bool.false_or];exact mW k r
theorem valV_map (k j:κ)(y:V):∀ kvs:List (κ×V),nQ (kvs.map fun kv=>if kv.1=k then (kv.1,y) else kv) j=(nQ kvs j).map fun x=>if j=k then y else x
 | []=>rfl
 | p::r=>by
  have ih:=valV_map k j y r;rw [cj]
  by_cases h:p.1=k
  ·rw [q9 h]
   by_cases e:p.1=j
   ·rw [iL (p:=(p.1,y)) e,iL e,gu,q9 (e.symm.trans h)]
   ·rw [ix (p:=(p.1,y)) e,ix e,ih]
  ·rw [qZ h]
   by_cases e:p.1=j
   ·rw [iL (p:=p) e,iL e,gu,qZ (fun z=>h (e.trans z))]
   ·rw [ix (p:=p) e,ix e,ih]
theorem valV_snoc (k j:κ)(y:V):∀ kvs:List (κ×V),nQ kvs k=none→nQ (kvs++[(k,y)]) j=if j=k then some y else nQ kvs j
 | [],_=>by
  by_cases e:k=j
  ·rw [q9 e.symm];exact iL (p:=(k,y)) e
  ·rw [qZ (fun z=>e z.symm)];exact ix (p:=(k,y)) e
 | p::r,hn=>by
  rw [List.cons_append];have hk:¬ p.1=k:=fun z=>by rw [iL z] at hn;cases hn
  rw [ix hk] at hn;have ih:=valV_snoc k j y r hn
  by_cases e:p.1=j
  ·rw [iL e,iL e,qZ (fun z=>hk (e.trans z))]
  ·rw [ix e,ix e,ih]
theorem valV_put (kvs:List (κ×V))(k j:κ)(y:V):nQ (nW kvs k y) j=if j=k then some y else nQ kvs j:=by
 unfold nW
 by_cases a:(kvs.any fun kv=>decide (kv.1=k))=true
 ·rw [q9 a,valV_map]
  rw [mW] at a
  by_cases e:j=k
  ·obtain ⟨x,hx⟩:=Option.isSome_iff_exists.mp a
   rw [q9 e,e,hx,gu,q9 rfl]
  ·rw [qZ e]
   cases nQ kvs j with
   | none=>rfl
   | some x=>rw [gu,qZ e]
 ·rw [qZ a]
  refine valV_snoc k j y kvs ?_;rw [mW] at a;cases q:nQ kvs k with
  | none=>rfl
  | some x=>rw [q] at a;exact (a rfl).elim
theorem k9 (kvs:List (κ×V))(k:κ)(v:V):(nW kvs k v).length≤kvs.length+1:=by
 unfold nW;split
 ·rw [aa];lia
 ·rw [av,aX,List.length_nil];lia
theorem putK_new {kvs:List (κ×V)}{k:κ}(v:V)(h:nQ kvs k=none):nW kvs k v=kvs++[(k,v)]:=by
 unfold nW;rw [mW,h];exact qZ (by decide)
theorem RelO.isSome_eq {o:Option V}{u:Option ag}(r:RelO o u):o.isSome=u.isSome:=by
 cases o with
 | none=>cases u with
  | none=>rfl
  | some _=>exact (show False from r).elim
 | some _=>cases u with
  | none=>exact (show False from r).elim
  | some _=>rfl
theorem KV.val {kvs:List (κ×V)}{vs:List (κ×ag)}(r:KV kvs vs)(k:κ):RelO (nQ kvs k) (valueAt vs k):=by
 unfold KV at r
 induction r with
 | nil=>exact True.intro
 | @cons p q ps qs h t ih =>
  obtain ⟨h1,h2⟩:=h
  by_cases e:p.1=k
  ·have e':q.1=k:=h1.symm.trans e
   have b:valueAt (q::qs) k=some q.2:=by simp [valueAt,ig,e']
   rw [iL e,b];exact h2
  ·have e':¬ q.1=k:=fun z=>e (h1.trans z)
   have b:valueAt (q::qs) k=valueAt qs k:=by simp [valueAt,ig,e']
   rw [ix e,b];exact ih
theorem KV.any {kvs:List (κ×V)}{vs:List (κ×ag)}(r:KV kvs vs)(k:κ):(kvs.any fun kv=>decide (kv.1=k))=vs.any fun kv=>decide (kv.1=k):=by
 unfold KV at r
 induction r with
 | nil=>rfl
 | cons h t ih=>rw [jX,jX,ih,h.1]
theorem KV.repl {kvs:List (κ×V)}{vs:List (κ×ag)}(r:KV kvs vs)(k:κ)(ry:RelV y u) :
  KV (kvs.map fun kv=>if kv.1=k then (kv.1,y) else kv) (vs.map fun kv=>if kv.1=k then (kv.1,u) else kv):=by
 unfold KV at r ⊢
 induction r with
 | nil=>exact .nil
 | @cons p q ps qs h t ih =>
  rw [cj,cj];refine .cons ?_ ih;obtain ⟨h1,h2⟩:=h
  by_cases e:p.1=k
  ·rw [q9 e,q9 (h1.symm.trans e)];exact ⟨h1,ry⟩
  ·rw [qZ e,qZ (fun z=>e (h1.trans z))];exact ⟨h1,h2⟩
theorem KV.put {kvs:List (κ×V)}{vs:List (κ×ag)}(r:KV kvs vs)(k:κ)(ry:RelV y u):KV (nW kvs k y) (stored vs k u):=by
 unfold nW stored;rw [r.any k]
 by_cases e:(vs.any fun kv=>decide (kv.1=k))=true
 ·rw [q9 e,q9 e];exact r.repl k ry
 ·rw [qZ e,qZ e];exact Paired.snoc r ⟨rfl,ry⟩
theorem KV.length {kvs:List (κ×V)}{vs:List (κ×ag)}(r:KV kvs vs):kvs.length=vs.length:=Paired.length r
end
theorem kV_is {k:Key}(r:RelV (kV k) u):(iR P w).is k u=true:=by
 cases k with
 | inl i=>obtain ⟨t,e⟩:=(show ∃ t,u=ag.int i t from r);subst e;exact mixKind_int P w i t
 | inr x=>obtain ⟨t,e⟩:=(show ∃ t,u=ag.str x t from r);subst e;exact mixKind_str P w x t
theorem items_are {P:aY}{w:bE}:∀ {ks:List Key} {us:List ag},Vals (ks.map kV) us→ItemsAre (iR P w) ks us
 | [],_,r=>by rw [List.map_nil] at r;cases r;exact .nil
 | k::ks,_,r=>by
  rw [cj] at r;cases r with
  | cons h t=>exact .cons (kV_is h) (items_are t)
abbrev KT (H:Hp):List (List Key×V)→List (List Key×ao×ag)→Prop:=jS fun p q=>p.1=q.1∧H q.2.1=some (.tup (p.1.map kV))∧RelV p.2 q.2.2
theorem KT.val {xs:List (List Key×ao×ag)}(r:KT H kvs xs)(k:List Key):RelO (nQ kvs k) ((atKey xs k).map (·.2)):=by
 induction r with
 | nil=>exact True.intro
 | @cons p q ps qs h t ih =>
  obtain ⟨h1,_,h2⟩:=h
  by_cases e:p.1=k
  ·have e':q.1=k:=h1.symm.trans e
   have b:atKey (q::qs) k=some q.2:=by simp [atKey,ig,e']
   rw [iL e,b];exact h2
  ·have e':¬ q.1=k:=fun z=>e (h1.trans z)
   have b:atKey (q::qs) k=atKey qs k:=by simp [atKey,ig,e']
   rw [ix e,b];exact ih
theorem KT.repl {xs:List (List Key×ao×ag)}(r:KT H kvs xs)(k:List Key)(ry:RelV y u) :
  KT H (kvs.map fun kv=>if kv.1=k then (kv.1,y) else kv) (xs.map (putAt k u)):=by
 induction r with
 | nil=>exact .nil
 | @cons p q ps qs h t ih =>
  rw [cj,cj];refine .cons ?_ ih;obtain ⟨h1,h2,h3⟩:=h;unfold putAt
  by_cases e:p.1=k
  ·rw [q9 e,q9 (h1.symm.trans e)];exact ⟨h1,h2,ry⟩
  ·rw [qZ e,qZ (fun z=>e (h1.trans z))];exact ⟨h1,h2,h3⟩
theorem KT.put {xs:List (List Key×ao×ag)}(r:KT H kvs xs)(k:List Key){b:ao}(hb:H b=some (.tup (k.map kV)))(ry:RelV y u) :
  KT H (nW kvs k y) (storedH xs k b u):=by
 have e:(kvs.any fun kv=>decide (kv.1=k))=(atKey xs k).isSome:=by
  rw [mW,(r.val k).isSome_eq,Option.isSome_map]
 unfold nW storedH;rw [e]
 by_cases q:(atKey xs k).isSome=true
 ·rw [q9 q,q9 q];exact r.repl k ry
 ·rw [qZ q,qZ q];exact Paired.snoc r ⟨rfl,hb,ry⟩
theorem KT.keeps {xs:List (List Key×ao×ag)}(r:KT H kvs xs)(ht:∀ b ys,H b=some (.tup ys)→H' b=some (.tup ys)):KT H' kvs xs :=
 Paired.mapP r fun _ _ z=>⟨z.1,ht _ _ z.2.1,z.2.2⟩
theorem rd_of {u:HO}(ok:HOk P w H h)(e:Rd H a u):ObjOk P w H h a u:=e.ok ok
theorem dk_rd {kvs:List (Key×V)}(ok:HOk P w H h)(e:Rd H a (.dK kvs)):kvs.length≤bq∧(a == jy)=false∧∃ vs,KV kvs vs∧h.DictOf (iR P w) a vs :=
 show ObjOk P w H h a (.dK kvs) from rd_of ok e
theorem dk_of {kvs:List (Key×V)}(ok:HOk P w H h)(e:H a=some (.dK kvs)):kvs.length≤bq∧(a == jy)=false∧∃ vs,KV kvs vs∧h.DictOf (iR P w) a vs:=dk_rd ok (.inl e)
theorem key_of {ks:List Key}(ok:HOk P w H h)(e:H a=some (.tup (ks.map kV))):(tupleKind (iR P w)).is h ks a:=by
 obtain ⟨_,its,r,o,h1,h2,_,n,h3⟩:=(show ObjOk P w H h a (.tup (ks.map kV)) from ok a _ e);exact ⟨o,its.toArray,n,h1,h2,h3,by simpa using items_are r⟩
theorem dt_rd (ok:HOk P w H h)(e:Rd H a (.dT kvs)):kvs.length≤bq∧(a == jy)=false ∧
  ∃ xs,KT H kvs xs∧h.DictOfH (tupleKind (iR P w)) a xs:=by
 obtain ⟨z,y,xs,r,o,es,ep,h1,h2,h3,h4,h5⟩:=(show ObjOk P w H h a (.dT kvs) from rd_of ok e);refine ⟨z,y,xs,r,o,es,ep,h1,h2,h3,h4,fun x hx=>?_,h5⟩;have all:∀ {l:List (List Key×V)} {m:List (List Key×ao×ag)},KT H l m→∀ x∈m,(tupleKind (iR P w)).is h x.1 x.2.1:=by
  intro l m q
  induction q with
  | nil=>intro x hx;exact nomatch hx
  | @cons p q ps qs hq t ih =>
   intro x hx
   rcases aG.mp hx with e | hx
   ·subst e
    exact key_of ok (by rw [←hq.1];exact hq.2.1)
   ·exact ih x hx
 exact all r x hx
theorem dt_of (ok:HOk P w H h)(e:H a=some (.dT kvs)):kvs.length≤bq∧(a == jy)=false ∧
  ∃ xs,KT H kvs xs∧h.DictOfH (tupleKind (iR P w)) a xs:=dt_rd ok (.inl e)
def DGet (H:Hp)(a:ao)(y:V)(r:Option V):Prop :=
 (∃ kvs k,Rd H a (.dK kvs)∧y=kV k∧r=nQ kvs k)∨∃ kvs k b,Rd H a (.dT kvs)∧y= .ref b∧H b=some (.tup (k.map kV))∧r=nQ kvs k
def DPut (H:Hp)(a:ao)(y v:V)(H':Hp):Prop :=
 (∃ kvs k,H a=some (.dK kvs)∧y=kV k∧kvs.length<bq∧H'=upd H a (.dK (nW kvs k v))) ∨
 ∃ kvs k b,H a=some (.dT kvs)∧y= .ref b∧H b=some (.tup (k.map kV))∧kvs.length<bq∧H'=upd H a (.dT (nW kvs k v))
theorem DGet.k {H:Hp}{a:ao}{kvs:List (Key×V)}{k:Key}(e:H a=some (.dK kvs)):DGet H a (kV k) (nQ kvs k):= .inl ⟨kvs,k,.inl e,rfl,rfl⟩
theorem DPut.k {H:Hp}{a:ao}{kvs:List (Key×V)}{k:Key}{v:V}(e:H a=some (.dK kvs))(hl:kvs.length<bq):DPut H a (kV k) v (upd H a (.dK (nW kvs k v))):= .inl ⟨kvs,k,e,rfl,hl,rfl⟩
section
variable {r:ag}{o:Option V}
theorem d_getItem (hu:A.units+1<cLine)(I:Inv X aP σ H s)(g:DGet H a y (some v))(ry:RelV y u)(h:∀ w' s',Inv X aP σ H s'→RelV v w'→Q w' s') :
  aW (bz X.prog X.w) A (i8 (.ref a) u) Q E s:=by
 rcases g with ⟨kvs,k,e,ey,l⟩ | ⟨kvs,k,b,e,ey,eb,l⟩
 ·subst ey
  obtain ⟨z,hd,vs,rel,dd⟩:=dk_rd I.hok e;obtain ⟨w',hw,rw'⟩:=RelO.some_of (v:=v) (o:=valueAt vs k) (by rw [l];exact rel.val k);exact wpAny_getItem_of (kV_is ry) dd.mapOf hw (h w' _ (I.tok _) rw')
 ·subst ey
  cases (show u=ag.ref b from ry);obtain ⟨z,hd,xs,rel,dd⟩:=dt_rd I.hok e;obtain ⟨w',hw,rw'⟩:=RelO.some_of (v:=v) (o:=(atKey xs k).map (·.2)) (by rw [l];exact rel.val k);obtain ⟨p,hp,hp2⟩:=bI.mp hw;refine wpAny_getItem_heap (tupleKind_room_in1 hu) (key_of I.hok eb) dd hp ?_;rw [hp2];exact h w' _ (I.tok _) rw'
theorem d_notIn (hu:A.units+1<cLine)(I:Inv X aP σ H s)(g:DGet H a y o)(ry:RelV y u)(h:∀ s',Inv X aP σ H s'→Q (.bool (!o.isSome)) s') :
  aW (bz X.prog X.w) A (fQ .NotIn u (.ref a)) Q E s:=by
 rcases g with ⟨kvs,k,e,ey,l⟩ | ⟨kvs,k,b,e,ey,eb,l⟩
 ·subst ey
  obtain ⟨z,hd,vs,rel,dd⟩:=dk_rd I.hok e;refine wpAny_notIn_of (kV_is ry) hd dd.mapOf ?_;rw [←(rel.val k).isSome_eq,←l];exact h _ (I.tok _)
 ·subst ey
  cases (show u=ag.ref b from ry);obtain ⟨z,hd,xs,rel,dd⟩:=dt_rd I.hok e;refine wpAny_notIn_heap (tupleKind_room_in1 hu) (key_of I.hok eb) hd dd ?_;have q:=(rel.val k).isSome_eq;rw [Option.isSome_map] at q;rw [←q,←l];exact h _ (I.tok _)
theorem d_write {ob:HO}(I:Inv X aP σ H s)(mu:Mut (H a))(hs:eJ a s.heap h')(he:∃ q,h'.get? a=some q)(new:ObjOk X.prog X.w (upd H a ob) h' a ob) :
  Inv X aP σ (upd H a ob) { s with heap:=h',toks:=t' } :=
 I.write (x:=a) (e:=a) mu (.inl rfl) (fun b q hb z=>(hs.2 b hb).trans z) he new
theorem dk_new {kvs:List (Key×V)}{vs:List (Key×ag)}(z:kvs.length≤bq)(hd:(a == jy)=false)(rel:KV kvs vs)(dd:h'.DictOf (iR P w) a vs) :
  ObjOk P w H' h' a (.dK kvs):=⟨z,hd,vs,rel,dd⟩
theorem d_setItem {Q:Unit→au→Prop}(hu:A.units+1<cLine)(I:Inv X aP σ H s)(g:DPut H a y v H')(ry:RelV y u)(rv:RelV v r)(h:∀ s',Inv X aP σ H' s'→Q () s') :
  aW (bz X.prog X.w) A (setItem (.ref a) u r) Q E s:=by
 rcases g with ⟨kvs,k,e,ey,l,eH⟩ | ⟨kvs,k,b,e,ey,eb,l,eH⟩
 ·subst ey eH
  obtain ⟨z,hd,vs,rel,dd⟩:=dk_of I.hok e;have hz:vs.length≤bq:=by rw [←rel.length];exact z
  have hl:(nW kvs k v).length≤bq:=by have:=k9 kvs k v;lia
  refine wpAny_setItem_pairs (hsz:=hz) (kV_is ry) dd fun h' dd' hs=>h _ ?_
  have he:∃ q,h'.get? a=some q:=let ⟨q,_,_,hq,_⟩:=dd';⟨q,hq⟩;exact d_write I (by rw [e];exact True.intro) hs he (dk_new hl hd (rel.put k rv) dd')
 ·subst ey eH
  cases (show u=ag.ref b from ry);obtain ⟨z,hd,xs,rel,dd⟩:=dt_of I.hok e;have hz:xs.length≤bq:=by rw [←Paired.length rel];exact z
  have hl:(nW kvs k v).length≤bq:=by have:=k9 kvs k v;lia
  refine wpAny_setItem_heap (hsz:=hz) (tupleKind_room_in1 hu) (key_of I.hok eb) dd fun h' dd' hs=>h _ ?_
  obtain ⟨q,es,ep,hq,h2,h3,h4,_,h5⟩:=dd';refine d_write I (by rw [e];exact True.intro) hs ⟨q,hq⟩ ⟨hl,hd,_,(rel.put k eb rv).keeps fun c ys ec=>?_,q,es,ep,hq,h2,h3,h4,h5⟩;rw [br (fH ec e (fun z=>nomatch z))];exact ec
end
def NoSl (i:Expr):Prop:=∀ ov iv,subscripted i false ov iv=operate [ov,iv] (i8 ov iv)
theorem subD_of {slice:Expr}{id:String}
  (hl:typeLookup (.type T) "__getitem__" =fP (some (.builtin id))) (hs:NoSl slice)
  (h:aW (bz prog w) A (eV value env) (fun o s₁=>aW (bz prog w) A (eV slice env) (fun i s₂=>s₂.TypeIs o T∧aW (bz prog w) A (i8 o i) Q E s₂) E s₁) E s) :
  aW (bz prog w) A (eV (.Subscript value slice pos) env) Q E s:=by
 refine Subscript_ (cy h (fun o s₁ h₁=>cy h₁ (fun i s₂ h₂=>?_) fun _ _ x=>x) fun _ _ x=>x);obtain ⟨hT,h₂⟩:=h₂;unfold subscriptTail;refine ah ?_;rw [getitemInPython_of_ne hT.not_modules];refine ah (wpAny_specialOf hT hl ?_);have fin:aW (bz prog w) A (subscripted slice false o i) (fun r s₃=>aW (bz prog w) A (letTemporaryGo value o r >>= fun _=>fP r) Q E s₃) E s₂:=by
  rw [hs o i];exact wpAny_operating (cy h₂ (fun r s₃ h₃=>ah (wpAny_letTemporaryGo (aL h₃))) fun _ _ x=>x)
 first
  | exact aL (ah fin)
  | exact ah (aL (ah fin))
  | exact ah fin
theorem dict_typeIs {o:Option V}(I:Inv X aP σ H s)(g:DGet H a y o):s.TypeIs (.ref a) "dict" := by
 rcases g with ⟨kvs,k,e,_,_⟩ | ⟨kvs,k,b,e,_,_,_⟩
 ·obtain ⟨_,_,vs,_,dd⟩:=dk_rd I.hok e
  exact dd.typeIs
 ·obtain ⟨_,_,xs,_,dd⟩:=dt_rd I.hok e
  exact dd.typeIs
def tDGet (td ty:TE):TE:=fun σ H Q=>td σ H fun x H1=>ty σ H1 fun y H2=>∃ a v,x= .ref a∧DGet H2 a y (some v)∧Q v H2
def tDNotIn (ty td:TE):TE:=fun σ H Q=>ty σ H fun y H1=>td σ H1 fun x H2=>∃ a o,x= .ref a∧DGet H2 a y o∧Q (.bl (!o.isSome)) H2
def sDPut (td ty tv:TE):TS:=fun D σ H=>tv σ H fun v H1=>td σ H1 fun x H2=>ty σ H2 fun y H3=>∃ a H4,x= .ref a∧DPut H3 a y v H4∧D.nx σ H4
section
variable {o i:Expr}{td ty tv:TE}
theorem pe_dget (hu:X.A.units+1<cLine)(ho:PE X o td)(hi:PE X i ty)(hs:NoSl i):PE X (.Subscript o i pos) (tDGet td ty):=by
 intro aP s σ H Q I h;refine subD_of PySem.F.slot_dict_getitem.lookup hs (thn (ho aP s σ H _ I h) fun u s1 ⟨x,H1,I1,rx,q1⟩=>thn (hi aP s1 σ H1 _ I1 q1) fun iv s2 ⟨y,H2,I2,ry,a,v,ex,g,q2⟩=>?_);subst ex;obtain rfl:u=ag.ref a:=rx;exact ⟨dict_typeIs I2 g,d_getItem hu I2 g ry fun w' s3 I3 rw'=>⟨v,H2,I3,rw',q2⟩⟩
theorem nj (hu:X.A.units+1<cLine)(hi:PE X i ty)(ho:PE X o td):PC X .NotIn i o (tDNotIn ty td):=by
 intro aP s σ H Q I h;refine thn (hi aP s σ H _ I h) fun iv s1 ⟨y,H1,I1,ry,q1⟩=>thn (ho aP s1 σ H1 _ I1 q1) fun u s2 ⟨x,H2,I2,rx,a,ov,ex,g,q2⟩=>?_
 subst ex;obtain rfl:u=ag.ref a:=rx;exact d_notIn hu I2 g ry fun s3 I3=>⟨.bl (!ov.isSome),H2,I3,rfl,q2⟩
theorem ps_dput (hu:X.A.units+1<cLine)(ho:PE X o td)(hi:PE X i ty)(hv:PE X value tv)(hs:swapsWith value (some (.Subscript o i pos')) pos.line X.env=fP false) :
  PS X (.Assign [.Subscript o i pos'] value pos) (sDPut td ty tv):=by
 intro aP s σ H D I h;refine wpAny_Assign_Subscript (thn (hv aP s σ H _ I h) fun r s1 ⟨v,H1,I1,rv,q1⟩=>thn (ho aP s1 σ H1 _ I1 q1) fun u s2 ⟨x,H2,I2,rx,q2⟩=>thn (hi aP s2 σ H2 _ I2 q2) fun iv s3 ⟨y,H3,I3,ry,a,H4,ex,g,q3⟩=>?_) hs;subst ex;obtain rfl:u=ag.ref a:=rx;exact d_setItem hu I3 g ry rv fun s4 I4=>⟨σ,H4,I4,q3⟩
end
def tPairs:List (TE×TE)→St→Hp→(List (V×V)→Hp→Prop)→Prop
 | [],_,H,Q=>Q [] H
 | (tk,tv)::r,σ,H,Q=>tk σ H fun x H1=>tv σ H1 fun y H2=>tPairs r σ H2 fun ps H3=>Q ((x,y)::ps) H3
abbrev VV:List (V×V)→List (ag×ag)→Prop:=jS fun p q=>RelV p.1 q.1∧RelV p.2 q.2
def PPs (X:Cx)(pos:Pos)(keys:List (Option Expr))(values:List Expr)(trs:List (TE×TE)):Prop :=
 ∀ (aP:List (ao×Obj)) (s:au) (σ:St) (H:Hp) (Q:List (V×V)→Hp→Prop),Inv X aP σ H s→tPairs trs σ H Q →
  aW (bz X.prog X.w) X.A (evalPairs (pairTrees keys values X.env pos)) (fun vs s'=>∃ ps H',Inv X aP σ H' s'∧VV ps vs∧Q ps H') X.xe s
theorem pps_nil:PPs X pos [] [] []:=fun aP s σ H Q I h=>pairTrees_nil_walk ⟨[],H,I,.nil,h⟩
theorem pps_cons {k v:Expr}{ks:List (Option Expr)}{vs:List Expr}{tk tv:TE}(hk:PE X k tk)(hv:PE X v tv)(hr:PPs X pos ks vs trs) :
  PPs X pos (some k::ks) (v::vs) ((tk,tv)::trs):=fun aP s σ H Q I h =>
 pairTrees_cons_walk (thn (hk aP s σ H _ I h) fun u s1 ⟨x,H1,I1,rx,q1⟩=>thn (hv aP s1 σ H1 _ I1 q1) fun w2 s2 ⟨y,H2,I2,ry,q2⟩ =>
  thn (hr aP s2 σ H2 _ I2 q2) fun ws s3 ⟨ps,H3,I3,rel,q3⟩=>⟨(x,y)::ps,H3,I3,.cons ⟨rx,ry⟩ rel,q3⟩)
def nu (kvs more:List (Key×V)):List (Key×V):=more.foldl (fun acc kv=>nW acc kv.1 kv.2) kvs
theorem KV.merge:∀ {more:List (Key×V)} {rs:List (Key×ag)} {kvs:List (Key×V)} {vs:List (Key×ag)},KV more rs→KV kvs vs→KV (nu kvs more) (merged vs rs):=by
 intro more rs kvs vs r;unfold KV at r
 induction r generalizing kvs vs with
 | nil=>intro q;exact q
 | @cons p q ps qs h t ih =>
  intro r0;have e:KV (nW kvs p.1 p.2) (stored vs q.1 q.2):=by
   have:=r0.put p.1 h.2;rw [←h.1];exact this
  exact ih e
theorem ny:∀ (more kvs:List (Key×V)),(nu kvs more).length≤kvs.length+more.length
 | [],kvs=>by show kvs.length≤kvs.length+0;lia
 | p::r,kvs=>by
  have h1:=ny r (nW kvs p.1 p.2);have h2:=k9 kvs p.1 p.2;show (nu (nW kvs p.1 p.2) r).length≤_;rw [aX];lia
theorem qU {P:aY}{w:bE}:∀ {kvs:List (Key×V)} {ws:List (ag×ag)},VV (kvs.map fun kv=>(kV kv.1,kv.2)) ws→∃ rs,Carries (iR P w) ws rs∧KV kvs rs
 | [],_,r=>by rw [List.map_nil] at r;cases r;exact ⟨[],True.intro,.nil⟩
 | p::kvs,_,r=>by
  rw [cj] at r;cases r with
  | @cons a b as bs h t =>
   obtain ⟨rs,c,q⟩:=qU (P:=P) (w:=w) t;obtain ⟨b1,b2⟩:=b;exact ⟨(p.1,b2)::rs,⟨kV_is h.1,rfl,c⟩,.cons ⟨rfl,h.2⟩ q⟩
def tDisp (trs:List (TE×TE)):TE:=fun σ H Q=>∀ p,H p=none→tPairs trs σ (upd H p (.dK [])) fun ps H2=>H2 p=some (.dK [])∧∃ kvs:List (Key×V),ps=kvs.map (fun kv=>(kV kv.1,kv.2))∧kvs.length≤15∧Q (.ref p) (upd H2 p (.dK (nu [] kvs)))
theorem pe_disp {values:List Expr}(h:PPs X pos keys values trs)(hall:keys.all (·.isSome)=true)(hl:keys.length=values.length)(h0:keys≠[])
  (h15:keys.length≤15):PE X (.Dict keys values pos) (tDisp trs):=by
 intro aP s σ H Q I q;have hn:=I.hok.fresh (aC s.heap.objs.size);have I1:=I.laid (a:=s.heap.objs.size) (o:= .dK []) (h':=s.heap.push { cls:= .type "dict",data:= .dict #[] }) (t':=s.toks) (fun _ _ q=>ar _ q) (aC _) (dk_empty s.heap I.big);refine wpAny_Dict_walk (knd:=iR X.prog X.w) hall hl h0 h15 (thn (h aP _ σ _ _ I1 (q _ hn)) fun ws s2 ⟨ps,H2,I2,rel,e,kvs,ep,lk,q2⟩=>?_);subst ep;obtain ⟨rs,c,rk⟩:=qU (P:=X.prog) (w:=X.w) rel;obtain ⟨z,hd,vs0,r0,dd⟩:=dk_of I2.hok e;cases r0;refine ⟨rs,c,dd,fun h' dd' hs=>⟨.ref s.heap.objs.size,_,?_,rfl,q2⟩⟩;have hz:(nu [] kvs).length≤bq:=by
  have h1:=ny kvs [];rw [List.length_nil] at h1;rw [gk];lia
 have he:∃ q,h'.get? s.heap.objs.size=some q:=let ⟨q,_,_,hq,_⟩:=dd';⟨q,hq⟩;exact d_write I2 (by rw [e];exact True.intro) hs he (dk_new hz hd (rk.merge .nil) dd')
end L2
namespace Att
open PySem PySem.W PySem.Calls PyProof.Rows
end Att
namespace L2
open PySem PySem.Spec PyProof.Rows
theorem oK {α β:Type}{f:α→β→Sem (ForInStep β)}{Q:β→au→Prop}:∀ (l:List α) (I:Nat→β→au→Prop) (b:β) (s:au),I 0 b s →
  (∀ i a b s,l[i]? =some a→I i b s→aW M A (f a b) (fun r s'=>∃ b',r= .yield b'∧I (i+1) b' s') E s)→(∀ b s,I l.length b s→Q b s)→aW M A (forIn l b f) Q E s
 | [],_,b,s,h0,_,hd=>by
  rw [List.forIn_nil];exact aL (hd b s h0)
 | a::l,I,b,s,h0,hs,hd=>by
  rw [List.forIn_cons];refine ah (cy (hs 0 a b s rfl h0) (fun r s' ⟨b',e,h'⟩=>?_) fun _ _ f=>f);subst e;exact oK l (fun i=>I (i+1)) b' s' h' (fun i a b s ha hi=>hs (i+1) a b s ha hi) fun b s h=>hd b s h
structure Sq where
 l:Bool
 a:ao
def SqAt (h:bK)(c:Sq)(xs:Array ag):Prop:=match c.l with | true=>h.IsList c.a xs | false=>h.IsTuple c.a xs
def ItAt (h:bK)(c:Sq)(i:ao)(k:Nat):Prop:=match c.l with | true=>h.IsListIter i c.a k | false=>h.IsTupleIter i c.a k
abbrev mR (h:bK)(T:ao)(vs:List ag):Prop:=h.get? T=some { cls:= .type "tuple",data:= .seq vs.toArray }
theorem SqAt.ext {g:bK}{c:Sq}{xs:Array ag}(x:SqAt h c xs)(e:∀ o,h.get? c.a=some o→g.get? c.a=some o):SqAt g c xs:=by
 obtain ⟨l,a⟩:=c;cases l with
 | true=>obtain ⟨o,ho,r⟩:=(show h.IsList a xs from x);exact ⟨o,e o ho,r⟩
 | false=>obtain ⟨o,ho,r⟩:=(show h.IsTuple a xs from x);exact ⟨o,e o ho,r⟩
theorem ItAt.ext {g:bK}{c:Sq}{i:ao}{k:Nat}(x:ItAt h c i k)(e:∀ o,h.get? i=some o→g.get? i=some o):ItAt g c i k:=by
 obtain ⟨l,a⟩:=c;cases l with
 | true=>obtain ⟨o,ho,r⟩:=(show h.IsListIter i a k from x);exact ⟨o,e o ho,r⟩
 | false=>obtain ⟨o,ho,r⟩:=(show h.IsTupleIter i a k from x);exact ⟨o,e o ho,r⟩
theorem ItAt.obj {c:Sq}{i:ao}{k:Nat}(x:ItAt h c i k):∃ o,h.get? i=some o∧∀ v,o.data≠ .cell v:=by
 obtain ⟨l,a⟩:=c;cases l with
 | true=>obtain ⟨o,ho,_,d⟩:=(show h.IsListIter i a k from x);exact ⟨o,ho,fun v z=>by rw [d] at z;cases z⟩
 | false=>obtain ⟨o,ho,_,d⟩:=(show h.IsTupleIter i a k from x);exact ⟨o,ho,fun v z=>by rw [d] at z;cases z⟩
theorem qP {c:Sq}{i:ao}{k:Nat}{xs:Array ag}{v:ag}(jt:ItAt s.heap c i k)(tt:SqAt s.heap c xs)(hv:xs[k]? =some v)
  (q:∀ g,ItAt g c i (k+1)→eJ i s.heap g→Q v { s with heap:=g }):aW (bz prog w) A (dt (.ref i)) Q E s:=by
 obtain ⟨l,a⟩:=c;cases l with
 | true=>exact wpAny_nextOf_list_item (show s.heap.IsListIter i a k from jt) (show s.heap.IsList a xs from tt) hv fun g h1 h2=>q g h1 h2
 | false=>exact nextT_item (show s.heap.IsTupleIter i a k from jt) (show s.heap.IsTuple a xs from tt) hv fun g h1 h2=>q g h1 h2
theorem nextS_end {c:Sq}{i:ao}{k:Nat}{xs:Array ag}(hh:A.handled=none)(jt:ItAt s.heap c i k)(tt:SqAt s.heap c xs)(hv:xs[k]? =none)
  (q:∀ g x,bK.ExtBut i s.heap g→(∃ o,g.get? x=some o∧o.cls= .type "StopIteration")→E (.ref x) { s with heap:=g }):aW (bz prog w) A (dt (.ref i)) Q E s:=by
 obtain ⟨l,a⟩:=c;cases l with
 | true=>exact wpAny_nextOf_list_end hh (show s.heap.IsListIter i a k from jt) (show s.heap.IsList a xs from tt) hv fun g x h1 h2=>q g x h1 h2
 | false=>exact nextT_end hh (show s.heap.IsTupleIter i a k from jt) (show s.heap.IsTuple a xs from tt) hv fun g x h1 h2=>q g x h1 h2
theorem iterS {c:Sq}{xs:Array ag}(tt:SqAt s.heap c xs)
  (q:∀ g,ItAt g c s.heap.objs.size 0→g.objs.size=s.heap.objs.size+1→(∀ b o,s.heap.get? b=some o→g.get? b=some o)→Q (.ref s.heap.objs.size) { s with heap:=g }):aW (bz prog w) A (pyIter (.ref c.a)) Q E s:=by
 obtain ⟨l,a⟩:=c;cases l with
 | true=>exact wpAny_pyIter_list (show s.heap.IsList a xs from tt) (q _ ⟨_,aZ _ rfl,rfl,rfl⟩ (gj ..) fun b o e=>ar _ e)
 | false=>exact wpAny_pyIter_tuple (show s.heap.IsTuple a xs from tt) (q _ ⟨_,aZ _ rfl,rfl,rfl⟩ (gj ..) fun b o e=>ar _ e)
theorem updRow {T:ao}{x:ag}{k:Nat}{Q:Unit→au→Prop}(hT:mR s.heap T vs)(hz:vs.length≤100)
  (h:∀ g,mR g T (vs.set k x)→eJ T s.heap g→Q () { s with heap:=g }):aW (bz prog w) A (updateSeq T (·.setIfInBounds k x)) Q E s:=by
 refine wpAny_updateSeq hT rfl (h _ ?_ (gv ..)) (by rw [aE];exact bo hz (by decide)) (by rw [Array.size_setIfInBounds,aE];exact bo hz (by decide));show bK.get? _ T=_;rw [bK.get?_update_self _ hT rfl];simp [cT]
structure ZIn (h g:bK)(z TI TO:ao)(cs:List Sq)(is:List ao)(k j:Nat)(vs old:List ag):Prop where
 sz:g.objs.size=h.objs.size
 zip:IsZip g z TI TO .ellipsis
 row:mR g TO (vs.take j++old.drop j)
 its:∀ (n:Nat) c i,cs[n]? =some c→is[n]? =some i→ItAt g c i (if n<j then k+1 else k)
 ext:∀ e o,e≠z→e≠TO→e ∉ is→h.get? e=some o→g.get? e=some o
structure ZOk (h:bK)(z TI TO:ao)(cs:List Sq)(is:List ao)(k:Nat)(old:List ag):Prop where
 len:is.length=cs.length
 few:cs.length≤8
 pos:0<cs.length
 nod:(z::TI::TO::is).Nodup
 zip:IsZip h z TI TO .none
 ti:mR h TI (is.map ag.ref)
 to:mR h TO old
 lo:old.length=cs.length
 its:∀ (n:Nat) c i,cs[n]? =some c→is[n]? =some i→ItAt h c i k
 off:∀ c∈cs,c.a≠z∧c.a≠TO∧c.a ∉ is
theorem nod_ne {is:List ao}{i:ao}{e:ao}(hn:is.Nodup)(h1:is[j]? =some i)(h2:is[n]? =some e)(h:n≠j):e≠i:=fun z=>by
 subst z;have a:=(aq.mp h1);have b:=(aq.mp h2);obtain ⟨ha,ea⟩:=a;obtain ⟨hb,eb⟩:=b;exact h ((List.getElem_inj hn).mp (eb.trans ea.symm))
theorem ZIn.step {g:bK}{z TI TO:ao}{cs:List Sq}{is:List ao}{k:Nat}{i:ao}{c:Sq}(D:ZOk h z TI TO cs is k old)(Z:ZIn h g z TI TO cs is k j vs old)(hi:is[j]? =some i)(hc:cs[j]? =some c){g2 g3:bK}{v:ag}(hv:vs[j]? =some v)(lv:vs.length=cs.length)
  (n2:ItAt g2 c i (k+1)) (s2:eJ i g g2) (r3:mR g3 TO ((vs.take j++old.drop j).set j v)) (s3:eJ TO g2 g3):ZIn h g3 z TI TO cs is k (j+1) vs old:=by
 have nod:=D.nod;rw [bJ,bJ,bJ] at nod;obtain ⟨nz,nT,nO,ni⟩:=nod;have mi:i∈is:=bt hi;have iz:z≠i:=fun q=>nz (by rw [q];simp [mi])
 have iO:TO≠i:=fun q=>nO (by rw [q];exact mi)
 have zO:z≠TO:=fun q=>nz (by rw [q];simp)
 have jl:j<cs.length:=(aq.mp hc).1;refine ⟨by rw [s3.1,s2.1,Z.sz],s3.extBut _ _ zO (s2.extBut _ _ iz Z.zip),?_,fun n c' i' hc' hi'=>?_,fun e o e1 e2 e3 q=>s3.extBut _ _ e2 (s2.extBut _ _ (fun y=>e3 (by rw [y];exact mi)) (Z.ext e o e1 e2 e3 q))⟩
 ·have lo:=D.lo
  have e:(vs.take j++old.drop j).set j v=vs.take (j+1)++old.drop (j+1):=by
   have l1:(vs.take j).length=j:=by rw [bG];lia
   rw [List.set_append,qZ (by lia),l1,Nat.sub_self,List.drop_eq_getElem_cons (by lia:j<old.length),List.set_cons_zero,bj,hv];simp
  rw [←e];exact r3
 ·have mi':i'∈is:=bt hi'
  have iO':i'≠TO:=fun q=>nO (by rw [←q];exact mi')
  by_cases e:n=j
  ·subst e
   rw [hi] at hi';rw [hc] at hc';cases hi';cases hc';rw [q9 (by lia)];exact n2.ext fun o q=>s3.extBut _ _ iO' q
  ·have q:=Z.its n c' i' hc' hi'
   have e2:(if n<j+1 then k+1 else k)=(if n<j then k+1 else k):=by
    by_cases y:n<j
    ·rw [q9 y,q9 (by lia)]
    ·rw [qZ y,qZ (by lia)]
   rw [e2];exact q.ext fun o r=>s3.extBut _ _ iO' (s2.extBut _ _ (nod_ne ni hi hi' e) r)
theorem zipS_go {z TI TO:ao}{cs:List Sq}{is:List ao}{k:Nat}{Q:Option ag→au→Prop}(D:ZOk s.heap z TI TO cs is k old)
  (hv:∀ (n:Nat) c,cs[n]? =some c→∃ xs v,SqAt s.heap c xs∧xs[k]? =some v∧vs[n]? =some v) (lv:vs.length=cs.length)
  (q:∀ g,IsZip g z TI TO (rawInt s.heap.objs.size)→mR g TO vs→(∀ (n:Nat) c i,cs[n]? =some c→is[n]? =some i→ItAt g c i (k+1))→mR g s.heap.objs.size vs→g.objs.size=s.heap.objs.size+1 →
   (∀ e o,e≠z→e≠TO→e ∉ is→s.heap.get? e=some o→g.get? e=some o)→Q (some (.ref s.heap.objs.size)) { s with heap:=g }):aW (bz prog w) A (pyNext (.ref z)) Q E s:=by
 have hT:s.TypeIs (.ref z) "zip" := ⟨_,D.zip,rfl⟩;have nod:=D.nod;rw [bJ,bJ,bJ] at nod;obtain ⟨nz,nT,nO,ni⟩:=nod;have zO:z≠TO:=fun q=>nz (by rw [q];simp)
 have few:=D.few;have len:=D.len;unfold pyNext;refine ah (wpAny_attempt (eD (name:=cZ "__next__") hT F.slot_zip_next (gp F.slot_zip_next hT F.entry_zip_next ?_ (F.args_zip_next_1 _))));show aW _ _ (field (.ref z) 2 >>= _) _ _ s;refine ah (dm D.zip rfl (x:= .bool false) (by rfl) ?_);show aW _ _ (field (.ref z) 3 >>= _) _ _ s;refine ah (dm D.zip rfl (x:= .ref TI) (by rfl) ?_);refine ah (fU D.ti rfl ?_)
 dsimp only
 rw [qZ (by intro y;rw [Array.isEmpty_iff_size_eq_zero,aE,aa,len] at y;have:=D.pos;lia)];refine ah ?_;unfold kQ;refine ah (dm D.zip rfl (x:= .none) (by rfl) (aL ?_));simp only [if_true];refine ah (wpAny_rule ?_);refine ah (dm D.zip rfl (x:= .ref TO) (by rfl) ?_);refine ah (jw D.zip (by simp) fun g1 z1 s1=>?_);have z1:IsZip g1 z TI TO .ellipsis:=z1;refine ah ?_;refine oK _ (fun j b s'=>b=_∧∃ g,s'={ s with heap:=g }∧ZIn s.heap g z TI TO cs is k j vs old) _ _ ⟨rfl,g1,rfl,?_⟩ ?_ ?_
 ·refine ⟨s1.1,z1,s1.extBut _ _ zO.symm D.to,fun n c i hc hi=>?_,fun e o e1 _ _ h=>s1.extBut _ _ e1 h⟩
  rw [qZ (by lia)];exact (D.its n c i hc hi).ext fun o h=>s1.extBut _ _ (fun y=>nz (by rw [←y];simp [bt hi])) h
 ·rintro j a b s' ha ⟨rfl,g,rfl,Z⟩
  rw [List.getElem?_zipIdx] at ha;obtain ⟨x,hx,rfl⟩:=bI.mp ha;have hx:(is.map ag.ref)[j]? =some x:=by simpa using hx
  rw [az] at hx;obtain ⟨i,hi,rfl⟩:=bI.mp hx;have jl:j<cs.length:=by rw [←len];exact (aq.mp hi).1
  have hc:cs[j]? =some cs[j]:=gE jl;obtain ⟨xs,v,hq,hxv,hvv⟩:=hv j _ hc;obtain ⟨o1,o2,o3⟩:=D.off _ (bH jl);have it:=Z.its j _ i hc hi;rw [qZ (by lia)] at it
  dsimp only
  refine ah (wpAny_onRaise ?_);show aW _ _ (dt (.ref i) >>= _) _ _ _;refine ah (qP it (hq.ext fun o h=>Z.ext _ o o1 o2 o3 h) hxv fun g2 n2 s2=>aL ?_);have iO:TO≠i:=fun q=>nO (by rw [q];exact bt hi)
  have r2:mR g2 TO (vs.take j++old.drop j):=s2.extBut _ _ iO Z.row;refine ah (fU r2 rfl ?_);refine ah (updRow (x:=v) (k:=0+j) r2 (by rw [av,bG,dW];have:=D.lo;lia) fun g3 r3 s3=>?_);rw [Nat.zero_add] at r3;refine ah (km (aL ⟨_,rfl,rfl,g3,rfl,Z.step D hi hc hvv lv n2 s2 r3 s3⟩))
 ·rintro b s' ⟨rfl,g5,rfl,Z⟩
  have ll:((is.map ag.ref).toArray.toList.zipIdx).length=cs.length:=by simp [len]
  rw [ll] at Z;have z5:=Z.zip;have o5:mR g5 TO vs:=by
   have:=Z.row;rw [←lv,bc,lv,←D.lo,List.drop_length,eU] at this;exact this
  have m5:∀ (n:Nat) c i,cs[n]? =some c→is[n]? =some i→ItAt g5 c i (k+1):=fun n c i hc hi=>by
   have:=Z.its n c i hc hi;rw [q9 (aq.mp hc).1] at this;exact this
  dsimp only
  refine ah (fU o5 rfl ?_);refine ah (wpAny_newTuple ?_);have zlt:z<g5.objs.size:=aO z5;have sz:=Z.sz;refine ah ?_;unfold fY.SmallTypes.ownedTupleHandOut;have z6:IsZip (g5.push { cls:= .type "tuple",data:= .seq vs.toArray }) z TI TO .ellipsis:=ar _ z5;refine ah (jw z6 (by simp) fun g7 z7 s7=>?_);have z7:IsZip g7 z TI TO (rawInt g5.objs.size):=z7;refine jw z7 (by simp) fun g8 z8 s8=>?_
  have z8:IsZip g8 z TI TO (rawInt g5.objs.size):=z8;have up:∀ e o,e≠z→g5.get? e=some o→g8.get? e=some o:=fun e o c1 h=>s8.extBut _ _ c1 (s7.extBut _ _ c1 (ar _ h))
  have t8:mR g8 g5.objs.size vs:=s8.extBut _ _ (dA zlt) (s7.extBut _ _ (dA zlt) (aZ _ rfl));have sz8:g8.objs.size=g5.objs.size+1:=by rw [s8.1,s7.1,gj]
  rw [sz] at z8 t8 sz8;refine aL ⟨_,rfl,?_⟩;refine aL ?_;show Q (some (.ref g5.objs.size)) _;rw [sz];refine q g8 z8 (up _ _ zO.symm o5) (fun n c i hc hi=>(m5 n c i hc hi).ext fun o h=>up _ o (fun y=>nz (by rw [←y];simp [bt hi])) h) t8 sz8 fun e o c1 c2 c3 h=>up e o c1 (Z.ext e o c1 c2 c3 h)
theorem zipS_stop {z TI TO:ao}{cs:List Sq}{is:List ao}{k:Nat}{cm:Sq}{Q:Option ag→au→Prop}(hh:A.handled=none)(D:ZOk s.heap z TI TO cs is k old)
  (hv:∀ (n:Nat) c,cs[n]? =some c→n<m→∃ xs v,SqAt s.heap c xs∧xs[k]? =some v∧vs[n]? =some v) (lv:vs.length=cs.length) (hm:cs[m]? =some cm) {xm:Array ag} (hxm:SqAt s.heap cm xm) (hem:xm[k]? =none)
  (q:∀ g,(∀ e o,e≠z→e≠TO→e ∉ is→s.heap.get? e=some o→g.get? e=some o)→Q none { s with heap:=g }):aW (bz prog w) A (pyNext (.ref z)) Q E s:=by
 have hT:s.TypeIs (.ref z) "zip" := ⟨_,D.zip,rfl⟩;have nod:=D.nod;rw [bJ,bJ,bJ] at nod;obtain ⟨nz,nT,nO,ni⟩:=nod;have zO:z≠TO:=fun q=>nz (by rw [q];simp)
 have few:=D.few;have len:=D.len;have fin:∀ g x,(∀ e o,e≠z→e≠TO→e ∉ is→s.heap.get? e=some o→g.get? e=some o)→(∃ o,g.get? x=some o∧o.cls= .type "StopIteration") →
   aW (bz prog w) A (do if ← isInstance (.ref x) (.type "StopIteration") then fP none else throw (.ref x)) Q E { s with heap:=g }:=fun g x k ⟨o,ho,hc⟩=>by
  refine ah (wpAny_isInstance (T := "StopIteration") (b:=true) ⟨o,ho,hc⟩ isSubtype_stop ?_);exact aL (q g k)
 have ml:m<cs.length:=(aq.mp hm).1;unfold pyNext;refine ah (wpAny_attempt (eD (name:=cZ "__next__") hT F.slot_zip_next (gp F.slot_zip_next hT F.entry_zip_next ?_ (F.args_zip_next_1 _))));show aW _ _ (field (.ref z) 2 >>= _) _ _ s;refine ah (dm D.zip rfl (x:= .bool false) (by rfl) ?_);show aW _ _ (field (.ref z) 3 >>= _) _ _ s;refine ah (dm D.zip rfl (x:= .ref TI) (by rfl) ?_);refine ah (fU D.ti rfl ?_)
 dsimp only
 rw [qZ (by intro y;rw [Array.isEmpty_iff_size_eq_zero,aE,aa,len] at y;have:=D.pos;lia)];refine ah ?_;unfold kQ;refine ah (dm D.zip rfl (x:= .none) (by rfl) (aL ?_));simp only [if_true];refine ah (wpAny_rule ?_);refine ah (dm D.zip rfl (x:= .ref TO) (by rfl) ?_);refine ah (jw D.zip (by simp) fun g1 z1 s1=>?_);have z1:IsZip g1 z TI TO .ellipsis:=z1;refine ah ?_;refine oK _ (fun j b s'=>b=_∧j≤m∧∃ g,s'={ s with heap:=g }∧ZIn s.heap g z TI TO cs is k j vs old) _ _ ⟨rfl,bF _,g1,rfl,?_⟩ ?_ ?_
 ·refine ⟨s1.1,z1,s1.extBut _ _ zO.symm D.to,fun n c i hc hi=>?_,fun e o e1 _ _ h=>s1.extBut _ _ e1 h⟩
  rw [qZ (by lia)];exact (D.its n c i hc hi).ext fun o h=>s1.extBut _ _ (fun y=>nz (by rw [←y];simp [bt hi])) h
 ·rintro j a b s' ha ⟨rfl,jm,g,rfl,Z⟩
  rw [List.getElem?_zipIdx] at ha;obtain ⟨x,hx,rfl⟩:=bI.mp ha;have hx:(is.map ag.ref)[j]? =some x:=by simpa using hx
  rw [az] at hx;obtain ⟨i,hi,rfl⟩:=bI.mp hx;have jl:j<cs.length:=by rw [←len];exact (aq.mp hi).1
  have hc:cs[j]? =some cs[j]:=gE jl;obtain ⟨o1,o2,o3⟩:=D.off _ (bH jl);have it:=Z.its j _ i hc hi;rw [qZ (by lia)] at it;have iO:TO≠i:=fun q=>nO (by rw [q];exact bt hi)
  have iz:z≠i:=fun q=>nz (by rw [q];simp [bt hi])
  dsimp only
  refine ah (wpAny_onRaise ?_);show aW _ _ (dt (.ref i) >>= _) _ _ _
  by_cases e:j=m
  ·subst e
   rw [hc] at hm;cases hm;refine ah (nextS_end hh it (hxm.ext fun o h=>Z.ext _ o o1 o2 o3 h) hem fun g2 x s2 hx2=>?_);obtain ⟨oe,e1,e2⟩:=hx2;have z2:IsZip g2 z TI TO .ellipsis:=s2 _ _ iz Z.zip;have xz:x≠z:=fun r=>by subst r;rw [z2] at e1;cases e1;simp at e2
   exact jw z2 (by simp) fun g3 _ s3=>fin g3 x (fun e o c1 c2 c3 h=>s3.extBut _ _ c1 (s2 _ _ (fun y=>c3 (by rw [y];exact bt hi)) (Z.ext e o c1 c2 c3 h))) ⟨oe,s3.extBut _ _ xz e1,e2⟩
  ·obtain ⟨xs,v,hq,hxv,hvv⟩:=hv j _ hc (by lia)
   refine ah (qP it (hq.ext fun o h=>Z.ext _ o o1 o2 o3 h) hxv fun g2 n2 s2=>aL ?_);have r2:mR g2 TO (vs.take j++old.drop j):=s2.extBut _ _ iO Z.row;refine ah (fU r2 rfl ?_);refine ah (updRow (x:=v) (k:=0+j) r2 (by rw [av,bG,dW];have:=D.lo;lia) fun g3 r3 s3=>?_);rw [Nat.zero_add] at r3;refine ah (km (aL ⟨_,rfl,rfl,by lia,g3,rfl,Z.step D hi hc hvv lv n2 s2 r3 s3⟩))
 ·rintro b s' ⟨rfl,jm,g5,rfl,Z⟩
  have ll:((is.map ag.ref).toArray.toList.zipIdx).length=cs.length:=by simp [len]
  rw [ll] at jm;lia
theorem mO {α:Type}{P:Nat→α→Prop}:∀ (k:Nat),(∀ n,n<k→∃ u,P n u)→∃ us:List α,us.length=k∧∀ (n:Nat) u,us[n]? =some u→P n u
 | 0,_=>⟨[],rfl,fun n u h=>by simp at h⟩
 | k+1,h=>by
  obtain ⟨us,hl,hu⟩:=mO k fun n hn=>h n (by lia)
  obtain ⟨u,pu⟩:=h k (by lia);refine ⟨us++[u],by rw [av,hl];rfl,fun n v hv=>?_⟩
  by_cases e:n<us.length
  ·rw [gw e] at hv
   exact hu n v hv
  ·rw [bZ (by lia)] at hv
   have hn:n=us.length:=by
    have:=(aq.mp hv).1;simp at this;lia
   subst hn;rw [Nat.sub_self] at hv;cases hv;rw [hl];exact pu
theorem vals_of:∀ {vs:List V} {us:List ag},vs.length=us.length→(∀ (n:Nat) v u,vs[n]? =some v→us[n]? =some u→RelV v u)→Vals vs us
 | [],[],_,_=> .nil
 | v::vs,u::us,hl,h=> .cons (h 0 v u rfl rfl) (vals_of (by simpa using hl) fun n v' u' a b=>h (n+1) v' u' a b)
 | [],_::_,hl,_=>by simp at hl
 | _::_,[],hl,_=>by simp at hl
def HSq (H:Hp)(c:Sq)(xs:List V):Prop:=match c.l with | true=>H c.a=some (.lst xs) | false=>H c.a=some (.tup xs)
theorem HSq.inj {c:Sq}(a:HSq H c xs)(b:HSq H c ys):xs=ys:=by
 obtain ⟨l,q⟩:=c;cases l with
 | true=>have a:H q=some (.lst xs):=a;have b:H q=some (.lst ys):=b;rw [a] at b;cases b;rfl
 | false=>have a:H q=some (.tup xs):=a;have b:H q=some (.tup ys):=b;rw [a] at b;cases b;rfl
theorem HSq.has {c:Sq}(a:HSq H c xs):∃ o,H c.a=some o:=by
 obtain ⟨l,q⟩:=c;cases l with
 | true=>exact ⟨_,a⟩
 | false=>exact ⟨_,a⟩
theorem HSq.at {c:Sq}(I:Inv X aP σ H s)(h:HSq H c xs):∃ its,Vals xs its∧SqAt s.heap c its.toArray:=by
 obtain ⟨l,q⟩:=c;cases l with
 | true =>
  obtain ⟨its,r,p,_⟩:=I.list (SqL.of (K:=X.K) (show H q=some (.lst xs) from h));exact ⟨its,r,p.isList⟩
 | false =>
  obtain ⟨its,r,p,_⟩:=I.tuple (SqT.of (K:=X.K) (show H q=some (.tup xs) from h));exact ⟨its,r,p⟩
def Itq (cs:List Sq):It :=
 ⟨fun i H=>∃ vs:List V,vs.length=cs.length∧∀ (n:Nat) c,cs[n]? =some c→∃ xs x,HSq H c xs∧xs[i]? =some x∧vs[n]? =some x,
  fun i H v H'=>∃ p vs,H p=none∧v= .ref p∧H'=upd H p (.tup vs)∧vs.length=cs.length∧∀ (n:Nat) c x xs,cs[n]? =some c→HSq H c xs→vs[n]? =some x→xs[i]? =some x,
  fun i H=>∃ m cm xm,cs[m]? =some cm∧HSq H cm xm∧xm.length≤i∧∀ (n:Nat) c,cs[n]? =some c→n<m→∃ xs x,HSq H c xs∧xs[i]? =some x⟩
theorem turn_zipS {k0}{z TI TO:ao}{cs:List Sq}{is:List ao} :
  Turn P w K (.Tuple es k0 pos) (Itq cs) (z::TI::TO::is) z (fun i h=>∃ old,ZOk h z TI TO cs is i old) where
 mem:=by simp
 obj:=fun i h st c hc=>by
  obtain ⟨old,D⟩:=st;simp only [aG] at hc
  rcases hc with rfl | rfl | rfl | hc
  ·exact ⟨_,D.zip,fun v z=>by cases z⟩
  ·exact ⟨_,D.ti,fun v z=>by cases z⟩
  ·exact ⟨_,D.to,fun v z=>by cases z⟩
  ·obtain ⟨n,hn⟩:=List.getElem?_of_mem hc
   have hl:n<cs.length:=by rw [←D.len];exact (aq.mp hn).1
   exact (D.its n _ c (gE hl) hn).obj
 keep:=fun i h h' st k=>by
  obtain ⟨old,D⟩:=st;exact ⟨old,D.len,D.few,D.pos,D.nod,k z (by simp) _ D.zip,k TI (by simp) _ D.ti,k TO (by simp) _ D.to,D.lo,fun n c i hc hi=>(D.its n c i hc hi).ext fun o e=>k i (by simp [bt hi]) o e,D.off⟩
 item:=by
  intro X hP hw hK hc i aP s σ H E I hf st hg;subst hP hw hK;obtain ⟨old,D⟩:=st;obtain ⟨vs,lv,hv⟩:=hg;have nz:∀ e∈z::TI::TO::is,H e=none:=fun e he=>(hf e he).1
  have hT:H s.heap.objs.size=none:=I.fresh;have ex:∀ n,n<cs.length→∃ u:ag,(∀ c,cs[n]? =some c→∃ xs,SqAt s.heap c xs∧xs[i]? =some u)∧∀ v,vs[n]? =some v→RelV v u:=fun n hn=>by
   obtain ⟨xs,x,h1,h2,h3⟩:=hv n _ (gE hn);obtain ⟨its,r,p⟩:=h1.at I;obtain ⟨u,hu,ru⟩:=r.get h2;refine ⟨u,fun c hc=>?_,fun v hv'=>?_⟩
   ·rw [gE hn] at hc
    cases hc;exact ⟨_,p,by simpa using hu⟩
   ·rw [h3] at hv'
    cases hv';exact ru
  obtain ⟨us,lu,hu⟩:=mO cs.length ex;have hrel:Vals vs us:=vals_of (by lia) fun n v u a b=>(hu n u b).2 v a
  refine zipS_go D (vs:=us) (fun n c hc=>?_) lu fun g z1 to1 m1 tp sz kk=>⟨_,rfl,?_⟩
  ·have hn:n<us.length:=by rw [lu];exact (aq.mp hc).1
   obtain ⟨xs,a,b⟩:=(hu n _ (gE hn)).1 c hc;exact ⟨xs,us[n],a,b,gE hn⟩
  refine wpAny_letOwnedTupleGo_zip z1 fun g2 z2 s2=>?_
  have s2:eJ z g g2:=s2;have k2:∀ e o,e ∉ z::TO::is→s.heap.get? e=some o→g2.get? e=some o:=fun e o hn h=>by
   simp only [aG,not_or] at hn;exact s2.extBut _ _ hn.1 (kk e o hn.1 hn.2.1 hn.2.2 h)
  have zlt:z<s.heap.objs.size:=aO D.zip;have tp2:mR g2 s.heap.objs.size us:=s2.extBut _ _ (dA zlt) tp;have sub:∀ e∈z::TO::is,e∈z::TI::TO::is:=fun e he=>by
   simp only [aG] at he ⊢
   rcases he with rfl | rfl | he <;> simp [*]
  have trk:∀ e o,H e=some o→e ∉ z::TO::is:=fun e o he hm=>by rw [nz e (sub e hm)] at he;cases he
  have J:Inv X aP σ (upd H s.heap.objs.size (.tup vs)) { s with heap:=g2 }:=by
   refine I.turnAll (ch:=z::TO::is) (fun e he=>hf e (sub e he)) k2 (fun e o h=>by rw [br (bf h hT)];exact h) (fun e o h n=>by rw [br (bM (aO h))];exact n) fun e o h=>?_
   by_cases q:e=s.heap.objs.size
   ·subst q
    rw [aS] at h;cases h;exact ⟨by rw [lv];exact bo D.few (by decide),us,hrel,_,tp2,rfl,rfl,_,rfl⟩
   ·rw [br q] at h
    refine (I.hok e o h).stay (fun c v hc' q'=>k2 c v (by
     rcases hc' with z' | z'
     ·rw [z'];exact trk e o h
     ·exact trk c _ z') q') (fun c q'=>by rw [br (bf q' hT)];exact q') fun c xs q'=>by rw [br (bf q' hT)];exact q'
  have nod:=D.nod;rw [bJ,bJ,bJ] at nod;obtain ⟨nz',nT,nO,ni⟩:=nod;refine ⟨.ref s.heap.objs.size,_,J,rfl,⟨_,vs,hT,rfl,rfl,lv,fun n c x xs hc hq hx=>?_⟩,⟨us,D.len,D.few,D.pos,D.nod,z2,?_,s2.extBut _ _ (fun y=>nz' (by rw [←y];simp)) to1,lu,fun n c j hc hj=>?_,D.off⟩,fun e he=>?_⟩
  ·obtain ⟨ys,y,h1,h2,h3⟩:=hv n c hc
   rw [h1.inj hq] at h2;rw [h3] at hx;cases hx;exact h2
  ·refine k2 _ _ (fun y=>?_) D.ti
   rcases aG.mp y with y | y
   ·exact nz' (by rw [←y];simp)
   ·exact nT y
  ·exact (m1 n c j hc hj).ext fun o e=>s2.extBut _ _ (fun y=>nz' (by rw [←y];simp [bt hj])) e
  ·have hlt:e<s.heap.objs.size:=by
    simp only [aG] at he
    rcases he with rfl | rfl | rfl | he
    ·exact aO D.zip
    ·exact aO D.ti
    ·exact aO D.to
    ·obtain ⟨n,hn⟩:=List.getElem?_of_mem he
     have hl:n<cs.length:=by rw [←D.len];exact (aq.mp hn).1
     obtain ⟨o,ho,_⟩:=(D.its n _ e (gE hl) hn).obj;exact aO ho
   rw [br (bM hlt)];exact nz e he
 done:=by
  intro X hP hw hK hc i aP s σ H E I hf st hg;subst hP hw hK;obtain ⟨old,D⟩:=st;obtain ⟨m,cm,xm,hm,hxm,hi,hv⟩:=hg;have nz:∀ e∈z::TI::TO::is,H e=none:=fun e he=>(hf e he).1
  have ex:∀ n,n<cs.length→∃ u:ag,∀ c,cs[n]? =some c→n<m→∃ xs,SqAt s.heap c xs∧xs[i]? =some u:=fun n hn=>by
   by_cases e:n<m
   ·obtain ⟨xs,x,h1,h2⟩:=hv n _ (gE hn) e
    obtain ⟨its,r,p⟩:=h1.at I;obtain ⟨u,hu,ru⟩:=r.get h2;refine ⟨u,fun c hc _=>?_⟩;rw [gE hn] at hc;cases hc;exact ⟨_,p,by simpa using hu⟩
   ·exact ⟨.none,fun c _ z=>rd z e⟩
  obtain ⟨us,lu,hu⟩:=mO cs.length ex;obtain ⟨its,r,p⟩:=hxm.at I;have hl:=r.length;refine zipS_stop (I.ok.hd hc) D (vs:=us) (m:=m) (fun n c hc hn=>?_) lu hm p (by simp;lia) fun g kk=>⟨rfl,?_⟩
  ·have hn':n<us.length:=by rw [lu];exact (aq.mp hc).1
   obtain ⟨xs,a,b⟩:=hu n _ (gE hn') c hc hn;exact ⟨xs,us[n],a,b,gE hn'⟩
  have sub:∀ e∈z::TO::is,e∈z::TI::TO::is:=fun e he=>by
   simp only [aG] at he ⊢
   rcases he with rfl | rfl | he <;> simp [*]
  have k2:∀ e o,e ∉ z::TO::is→s.heap.get? e=some o→g.get? e=some o:=fun e o hn h=>by
   simp only [aG,not_or] at hn;exact kk e o hn.1 hn.2.1 hn.2.2 h
  have trk:∀ e o,H e=some o→e ∉ z::TO::is:=fun e o he hm=>by rw [nz e (sub e hm)] at he;cases he
  refine I.turnAll (ch:=z::TO::is) (fun e he=>hf e (sub e he)) k2 (fun _ _ h=>h) (fun _ _ _ n=>n) fun e o h=>?_
  exact (I.hok e o h).stay (fun c v hc' q'=>k2 c v (by
   rcases hc' with z' | z'
   ·rw [z'];exact trk e o h
   ·exact trk c _ z') q') (fun _ q'=>q') fun _ _ q'=>q'
 self:=fun _ _ _ _ _ st h=>let ⟨_,D⟩:=st;wpAny_pyIter_zip D.zip h
structure ZNew (h g:bK)(cs:List Sq):Prop where
 zip:IsZip g (h.objs.size+cs.length+2) (h.objs.size+cs.length) (h.objs.size+cs.length+1) .none
 ti:mR g (h.objs.size+cs.length) (((aQ cs.length).map fun j=>h.objs.size+j).map ag.ref)
 to:mR g (h.objs.size+cs.length+1) (bU cs.length .none)
 its:∀ (n:Nat) c,cs[n]? =some c→ItAt g c (h.objs.size+n) 0
 ext:∀ b o,h.get? b=some o→g.get? b=some o
theorem newClass_zip (vs:List ag):fY.SmallTypes.newClass "zip" ⟨.type "zip" :: vs,[]⟩=fP (.type "zip",vs):=by
 unfold fY.SmallTypes.newClass;simp only [isType,sub_zip,pure_bind,Bool.not_true,Bool.false_eq_true,if_false]
theorem zipS_new (cs:List Sq)(few:cs.length≤8) :
  Meets (fY.«zip.__new__» ⟨.type "zip" :: cs.map fun c=>ag.ref c.a,[]⟩) (fun _ R s=>(∀ c∈cs,∃ xs,SqAt s.heap c xs)∧∀ g,ZNew s.heap g cs→R (.ok (.ret (.ref (s.heap.objs.size+cs.length+2)))) { s with heap:=g }) :=
 .of_wp fun prog w A R s h=>by
  obtain ⟨h1,h⟩:=h;unfold fY.«zip.__new__»;refine ah (wpAny_of_eq (newClass_zip _) ?_);show aW _ _ (fY.SmallTypes.iterAll (cs.map fun c=>ag.ref c.a) >>= _) _ _ _;refine ah ?_;unfold fY.SmallTypes.iterAll;refine ah (oK _ (fun j its s'=>∃ g,s'={ s with heap:=g }∧g.objs.size=s.heap.objs.size+j∧its=((aQ j).map fun i=>ag.ref (s.heap.objs.size+i)).toArray∧(∀ (n:Nat) c,n<j→cs[n]? =some c→ItAt g c (s.heap.objs.size+n) 0)∧∀ b o,s.heap.get? b=some o→g.get? b=some o) _ _ ⟨s.heap,rfl,rfl,rfl,fun n c hn=>rd hn (by lia),fun _ _ e=>e⟩ ?_ ?_)
  ·rintro j a its s' ha ⟨g,rfl,sz,rfl,hit,ext⟩
   rw [az] at ha;obtain ⟨c,hc,rfl⟩:=bI.mp ha;obtain ⟨xs,hx⟩:=h1 c (bt hc);refine ah (dZ (iterS (c:=c) (xs:=xs) (hx.ext fun o e=>ext _ o e) fun g2 i2 z2 e2=>?_));refine aL ⟨_,rfl,g2,rfl,?_,?_,fun n c' hn hc'=>?_,fun b o e=>e2 b o (ext b o e)⟩
   ·show g2.objs.size=_
    rw [z2];show g.objs.size+1=_;rw [sz];lia
   ·show Array.push _ (ag.ref g.objs.size)=_
    rw [sz,List.range_succ,ay];simp
   ·by_cases e:n=j
    ·subst e
     rw [hc] at hc';cases hc';have i2:ItAt g2 c g.objs.size 0:=i2;rw [sz] at i2;exact i2
    ·exact (hit n c' (by lia) hc').ext fun o q=>e2 _ o q
  ·rintro its s' ⟨g,rfl,sz,rfl,hit,ext⟩
   have ll:(cs.map fun c=>ag.ref c.a).length=cs.length:=aa ..;rw [ll] at sz hit ⊢;refine aL ?_
   dsimp only
   have n8:((aQ cs.length).map fun i=>ag.ref (s.heap.objs.size+i)).length≤bq:=by
    rw [aa,bx];exact bo few (by decide)
   refine ah (wpAny_newTuple ?_ (by simpa using n8));refine ah (wpAny_newTuple ?_ (by simpa using n8));refine ah ?_;unfold fY.SmallTypes.newRecord;refine dh (aL ⟨_,rfl,?_⟩) (by show 5≤bq+2;decide);have e1:(g.push { cls:= .type "tuple",data:= .seq ((aQ cs.length).map fun i=>ag.ref (s.heap.objs.size+i)).toArray }).objs.size=s.heap.objs.size+cs.length+1:=by rw [gj,sz]
   have e2:((g.push { cls:= .type "tuple",data:= .seq ((aQ cs.length).map fun i=>ag.ref (s.heap.objs.size+i)).toArray }).push { cls:= .type "tuple",data:= .seq ((((aQ cs.length).map fun i=>ag.ref (s.heap.objs.size+i)).toArray.toList.map fun _=>ag.none)).toArray }).objs.size=s.heap.objs.size+cs.length+2:=by rw [gj,e1]
   have key:=h (((g.push { cls:= .type "tuple",data:= .seq ((aQ cs.length).map fun i=>ag.ref (s.heap.objs.size+i)).toArray }).push { cls:= .type "tuple",data:= .seq ((((aQ cs.length).map fun i=>ag.ref (s.heap.objs.size+i)).toArray.toList.map fun _=>ag.none)).toArray }).push { cls:= .type "zip",data:= .fields #[.none,.bool false,.bool false,.ref (s.heap.objs.size+cs.length),.ref (s.heap.objs.size+cs.length+1)] })
    ⟨by rw [←e2];exact aZ _ rfl,?_,?_,fun n c hc=>(hit n c (aq.mp hc).1 hc).ext fun o q=>ar _ (ar _ (ar _ q)),fun b o q=>ar _ (ar _ (ar _ (ext b o q)))⟩
   ·rw [←e2] at key
    have e1':(s.heap.objs.size+cs.length:Nat)=g.objs.size:=sz.symm;rw [←e1,e1'] at key;exact key
   ·have em:(((aQ cs.length).map fun j=>s.heap.objs.size+j).map ag.ref)=((aQ cs.length).map fun i=>ag.ref (s.heap.objs.size+i)):=by rw [dY];rfl
    show bK.get? _ _=_;rw [em,←sz];exact ar _ (ar _ (aZ _ rfl))
   ·rw [←e1]
    have er:(((aQ cs.length).map fun i=>ag.ref (s.heap.objs.size+i)).toArray.toList.map fun _=>ag.none)=bU cs.length ag.none:=by
     rw [List.eq_replicate_iff];exact ⟨by simp,fun x hx=>by obtain ⟨_,_,rfl⟩:=bh.mp hx;rfl⟩
    rw [er];exact ar _ (aZ _ rfl)
theorem zip_args3 (a b c d:ag):argsOk "object.__init__" ⟨[a,b,c,d],[]⟩:=by
 unfold argsOk;rw [signature?_of (id := "object.__init__") (n:=['_','_','t','i','n','i','_','_']) (o:=['t','c','e','j','b','o']) (by kernel_rfl) F.owner_object]
 kernel_rfl
theorem zip_type3 (a b c:ag):checkTypeCall "zip" ⟨[a,b,c],[]⟩=fP ():=by kernel_rfl
theorem zip_new3 (a b c:ag):checkBuiltinCall "zip.__new__" ⟨[.type "zip",a,b,c],[]⟩=fP ():=by kernel_rfl
theorem zip_walk {s1:au}{k0}{pt:Pos}{R:It→Hp→Prop}{cs:List Sq}(I1:Inv X aP σ H1 s1)(few:cs.length≤8)(pos:0<cs.length)(hq:∀ c∈cs,∃ xs,HSq H1 c xs)(q:R (Itq cs) H1){g:bK}(Z:ZNew s1.heap g cs) :
  aW (bz X.prog X.w) X.A (pyIter (.ref (s1.heap.objs.size+cs.length+2))) (PIE X aP σ (.Tuple es k0 pt) R) E { s1 with heap:=g }:=by
 have small:∀ c∈cs,c.a<s1.heap.objs.size:=fun c hc=>by
  obtain ⟨xs,hx⟩:=hq c hc;obtain ⟨o,ho⟩:=hx.has;exact Nat.lt_of_not_le fun hge=>by rw [I1.hok.fresh hge] at ho;cases ho
 refine wpAny_pyIter_zip Z.zip ⟨_,(s1.heap.objs.size+cs.length+2)::(s1.heap.objs.size+cs.length)::(s1.heap.objs.size+cs.length+1)::((aQ cs.length).map fun j=>s1.heap.objs.size+j),_,Itq cs,H1,rfl,I1.kept (t':=s1.toks) Z.ext,turn_zipS,⟨_,?_,few,pos,?_,Z.zip,Z.ti,Z.to,by rw [iw],fun n c i hc hi=>?_,fun c hc=>?_⟩,fun e he=>?_,q⟩
 ·rw [aa,bx]
 ·have nd:((aQ cs.length).map fun j=>s1.heap.objs.size+j).Nodup:=by
   rw [bV,fk];exact (bV.mp iN).imp fun h e=>h (by lia)
  have out:∀ x,s1.heap.objs.size+cs.length≤x→x ∉ ((aQ cs.length).map fun j=>s1.heap.objs.size+j):=fun x hx hm=>by
   obtain ⟨j,hj,rfl⟩:=bh.mp hm;have:=bT.mp hj;lia
  rw [bJ,bJ,bJ];refine ⟨fun h=>?_,fun h=>?_,fun h=>out _ (by show @LE.le Nat _ _ _;lia) h,nd⟩
  ·rcases aG.mp h with h | h
   ·have h: @Eq Nat _ _:=h
    lia
   ·rcases aG.mp h with h | h
    ·have h: @Eq Nat _ _:=h
     lia
    ·exact out _ (by show @LE.le Nat _ _ _;lia) h
  ·rcases aG.mp h with h | h
   ·have h: @Eq Nat _ _:=h
    lia
   ·exact out _ (by show @LE.le Nat _ _ _;lia) h
 ·rw [az,gX (aq.mp hc).1] at hi
  cases hi;exact Z.its n c hc
 ·have:=small c hc
  have this: @LT.lt Nat _ c.a s1.heap.objs.size:=this;refine ⟨by show @Ne Nat _ _;lia,by show @Ne Nat _ _;lia,fun hm=>?_⟩;obtain ⟨j,hj,e⟩:=bh.mp hm;have e: @Eq Nat _ _:=e;lia
 ·have hge:s1.heap.objs.size≤e:=by
   simp only [aG] at he
   rcases he with rfl | rfl | rfl | he
   ·show @LE.le Nat _ _ _;lia
   ·show @LE.le Nat _ _ _;lia
   ·show @LE.le Nat _ _ _;lia
   ·obtain ⟨j,hj,rfl⟩:=bh.mp he
    show @LE.le Nat _ _ _;lia
  exact I1.fpOk hge (I1.hok.fresh hge)
def iZip2 (ta:TA):TI:=fun σ H R=>ta σ H fun vs H1=>∃ c1 c2 xs ys,vs=[.ref c1.a,.ref c2.a]∧HSq H1 c1 xs∧HSq H1 c2 ys∧R (Itq [c1,c2]) H1
theorem pi_zip2 {eb:Expr}{ta:TA}{p:Pos}{k0}{pt:Pos}(hg:Gl X "zip")(hm:X.mg "zip" =none)(ha:PA X [ea,eb] ta)(hs:bD [ea,eb] X.env=[(false,eV ea X.env),(false,eV eb X.env)]:=by rfl)(hs2:bD [eb] X.env=[(false,eV eb X.env)]:=by rfl) :
  PI X (.Tuple es k0 pt) (.Call (.Name "zip" p) [ea,eb] [] pos) (iZip2 ta):=by
 intro aP s σ H R I h;refine Call_ (lV I hg hm boot_zip (eS (thn (ha pos aP s σ H _ I h) fun us s1 ⟨vs,H1,I1,r1,q1⟩=>?_) (by rw [hs,hs2]) (by rw [hs2];rfl)));obtain ⟨c1,c2,xs,ys,e,h1,h2,q⟩:=q1;subst e;obtain ⟨u1,u2,rfl,r2,r3⟩:=vals2 r1;cases (show u1=ag.ref c1.a from r2);cases (show u2=ag.ref c2.a from r3);obtain ⟨_,_,p1⟩:=h1.at I1;obtain ⟨_,_,p2⟩:=h2.at I1;refine callType_new F.called_zip (by decide) (F.typeCall_zip_2 _ _) (F.newCall_zip_2 _ _) (fun obj=>F.args_object_init_3 obj _ _) F.entry_zip_new (zipS_new [c1,c2] (by show 2≤8;decide)) ⟨fun c hc=>?_,fun g Z=>⟨⟨_,Z.zip,rfl⟩,?_⟩⟩
 ·simp only [aG,cX,or_false] at hc
  rcases hc with rfl | rfl
  ·exact ⟨_,p1⟩
  ·exact ⟨_,p2⟩
 ·refine zip_walk (cs:=[c1,c2]) I1 (by show 2≤8;decide) (by show 0<2;decide) (fun c hc=>?_) q Z
  simp only [aG,cX,or_false] at hc
  rcases hc with rfl | rfl
  ·exact ⟨_,h1⟩
  ·exact ⟨_,h2⟩
theorem valsThree {x z:V}(h:Vals [x,y,z] us):∃ u1 u2 u3,us=[u1,u2,u3]∧RelV x u1∧RelV y u2∧RelV z u3:=by
 cases h with
 | cons h1 r1=>cases r1 with
  | cons h2 r2=>cases r2 with
   | cons h3 r3=>cases r3;exact ⟨_,_,_,rfl,h1,h2,h3⟩
def iZip3 (ta:TA):TI:=fun σ H R=>ta σ H fun vs H1=>∃ c1 c2 c3 xs ys zs,vs=[.ref c1.a,.ref c2.a,.ref c3.a]∧HSq H1 c1 xs∧HSq H1 c2 ys∧HSq H1 c3 zs∧R (Itq [c1,c2,c3]) H1
theorem pi_zip3 {eb ec:Expr}{ta:TA}{p:Pos}{k0}{pt:Pos}(hg:Gl X "zip")(hm:X.mg "zip" =none)(ha:PA X [ea,eb,ec] ta)(hs:bD [ea,eb,ec] X.env=[(false,eV ea X.env),(false,eV eb X.env),(false,eV ec X.env)]:=by rfl)(hs2:bD [eb,ec] X.env=[(false,eV eb X.env),(false,eV ec X.env)]:=by rfl) :
  PI X (.Tuple es k0 pt) (.Call (.Name "zip" p) [ea,eb,ec] [] pos) (iZip3 ta):=by
 intro aP s σ H R I h;refine Call_ (lV I hg hm boot_zip (eS (thn (ha pos aP s σ H _ I h) fun us s1 ⟨vs,H1,I1,r1,q1⟩=>?_) (by rw [hs,hs2]) (by rw [hs2];rfl)));obtain ⟨c1,c2,c3,xs,ys,zs,e,h1,h2,h3,q⟩:=q1;subst e;obtain ⟨u1,u2,u3,rfl,r2,r3,r4⟩:=valsThree r1;cases (show u1=ag.ref c1.a from r2);cases (show u2=ag.ref c2.a from r3);cases (show u3=ag.ref c3.a from r4);obtain ⟨_,_,p1⟩:=h1.at I1;obtain ⟨_,_,p2⟩:=h2.at I1;obtain ⟨_,_,p3⟩:=h3.at I1;refine callType_new F.called_zip (by decide) (zip_type3 _ _ _) (zip_new3 _ _ _) (fun obj=>zip_args3 obj _ _ _) F.entry_zip_new (zipS_new [c1,c2,c3] (by show 3≤8;decide)) ⟨fun c hc=>?_,fun g Z=>⟨⟨_,Z.zip,rfl⟩,?_⟩⟩
 ·simp only [aG,cX,or_false] at hc
  rcases hc with rfl | rfl | rfl
  ·exact ⟨_,p1⟩
  ·exact ⟨_,p2⟩
  ·exact ⟨_,p3⟩
 ·refine zip_walk (cs:=[c1,c2,c3]) I1 (by show 3≤8;decide) (by show 0<3;decide) (fun c hc=>?_) q Z
  simp only [aG,cX,or_false] at hc
  rcases hc with rfl | rfl | rfl
  ·exact ⟨_,h1⟩
  ·exact ⟨_,h2⟩
  ·exact ⟨_,h3⟩
theorem for_zip3 {c1 c2 c3:Sq}{tb:TS}{D:Ends}(Pv:Nat→St→Hp→Prop)(h0:Pv 0 σ H)(hl:∀ i σ H,i≤xs.length→Pv i σ H→HSq H c1 xs∧HSq H c2 ys∧HSq H c3 zs)(hxy:xs.length=ys.length)(hxz:xs.length=zs.length)
  (hs:∀ i x y z p σ H,xs[i]? =some x→ys[i]? =some y→zs[i]? =some z→Pv i σ H→H p=none→g (.ref p) σ (upd H p (.tup [x,y,z])) fun σ2 H2=>tb { D with nx:=Pv (i+1),ct:=Pv (i+1),bk:=D.nx } σ2 H2) (hd:∀ σ H,Pv xs.length σ H→D.nx σ H) :
  ∃ W:Nat→Nat→St→Hp→Prop,(∃ m,W 0 m σ H)∧∀ i m σ H,W i m σ H →
   ((Itq [c1,c2,c3]).stop i H∧D.nx σ H)∨((Itq [c1,c2,c3]).go i H∧∃ N:St→Hp→Prop,(∀ σ' H',N σ' H'→∃ m',m'<m∧W (i+1) m' σ' H')∧∀ x H',(Itq [c1,c2,c3]).yld i H x H'→g x σ H' fun σ2 H2=>tb { D with nx:=N,ct:=N,bk:=D.nx } σ2 H2):=by
 refine ⟨fun i m σ H=>i≤xs.length∧m=xs.length - i∧Pv i σ H,⟨_,bF _,rfl,h0⟩,fun i m σ H ⟨hi,hm,hp⟩=>?_⟩;obtain ⟨qa,qb,qc⟩:=hl i σ H hi hp
 by_cases e:i=xs.length
 ·subst e
  exact .inl ⟨⟨0,c1,xs,rfl,qa,aC _,fun n c _ hn=>rd hn (by lia)⟩,hd σ H hp⟩
 ·have hlt:i<xs.length:=ib hi e
  have hlt2:i<ys.length:=by lia
  have hlt3:i<zs.length:=by lia
  refine .inr ⟨⟨[xs[i],ys[i],zs[i]],rfl,fun n c hc=>?_⟩,Pv (i+1),fun σ' H' hp'=>⟨xs.length - (i+1),by lia,by lia,rfl,hp'⟩,fun v H3 hy=>?_⟩
  ·match n,hc with
   | 0,hc=>cases hc;exact ⟨xs,xs[i],qa,gE hlt,rfl⟩
   | 1,hc=>cases hc;exact ⟨ys,ys[i],qb,gE hlt2,rfl⟩
   | 2,hc=>cases hc;exact ⟨zs,zs[i],qc,gE hlt3,rfl⟩
   | n+3,hc=>simp at hc
  ·obtain ⟨p,vs,hn,rfl,rfl,lv,hx⟩:=hy
   match vs,lv,hx with
   | [x,y,z],_,hx=>exact hs i x y z p σ H (hx 0 c1 x xs rfl qa rfl) (hx 1 c2 y ys rfl qb rfl) (hx 2 c3 z zs rfl qc rfl) hp hn
theorem PE.cutV {t:TE}(h:PE X e t):PE X e (fun σ H Q=>∃ N:VK,(∀ v H',N v H'→Q v H')∧t σ H N):=fun aP s σ H Q I ⟨N,i,q⟩ =>
 thn (h aP s σ H N I q) fun u s' ⟨v,H',I',rv,q'⟩=>⟨v,H',I',rv,i _ _ q'⟩
theorem qT {c1 c2:Sq}{Q:VK}(Pv:Nat→List V→Hp→Prop)(h0:Pv 0 [] H)(hl:∀ i zs H,i≤xs.length→Pv i zs H→HSq H c1 xs∧HSq H c2 ys∧zs.length≤i)(hxy:xs.length=ys.length)(hz:xs.length≤bq)
  (hs:∀ i x y zs p H,xs[i]? =some x→ys[i]? =some y→Pv i zs H→H p=none→tt (some x::some y::dO σ js) (upd H p (.tup [x,y])) fun b H4=>if b=true then te (some x::some y::dO σ js) H4 fun y H5=>Pv (i+1) (zs++[y]) H5 else Pv (i+1) zs H4)
  (hd:∀ zs H,Pv xs.length zs H→∀ D,H D=none→Q (.ref D) (upd H D (.lst zs))):qY 2 (gPair K) js tt te σ Q (Itq [c1,c2]) H:=by
 refine ⟨fun i m zs H=>i≤xs.length∧m=xs.length - i∧Pv i zs H,⟨_,bF _,rfl,h0⟩,fun i m zs H2 ⟨hi,hm,hp⟩=>?_⟩;obtain ⟨qa,qb,hy⟩:=hl i zs H2 hi hp
 by_cases e:i=xs.length
 ·subst e
  exact .inl ⟨⟨0,c1,xs,rfl,qa,aC _,fun n c _ hn=>rd hn (by lia)⟩,hd zs H2 hp⟩
 ·have hlt:i<xs.length:=ib hi e
  have hlt2:i<ys.length:=by lia
  refine .inr ⟨⟨[xs[i],ys[i]],rfl,fun n c hc=>?_⟩,by lia,Pv (i+1),fun ys' H' hp'=>⟨xs.length - (i+1),by lia,by lia,rfl,hp'⟩,fun v H3 hy3 v0 hv0=>?_⟩
  ·match n,hc with
   | 0,hc=>cases hc;exact ⟨xs,xs[i],qa,gE hlt,rfl⟩
   | 1,hc=>cases hc;exact ⟨ys,ys[i],qb,gE hlt2,rfl⟩
   | n+2,hc=>simp at hc
  ·obtain ⟨p,vs,hn,rfl,rfl,lv,hx⟩:=hy3
   match vs,lv,hx,v0,hv0 with
   | [x,y],_,hx,[v1,v2],_=>exact ⟨p,_,rfl,SqT.of aS,rfl,_,_,rfl,_,_,rfl,rfl,⟨[some x,some y],rfl,rfl⟩,hs i x y zs p H2 (hx 0 c1 x xs rfl qa rfl) (hx 1 c2 y ys rfl qb rfl) hp hn⟩
end L2
variable {cs:List L2.Sq}
local macro_rules
 | `(tactic|exists $s:term) => `(tactic|(show ∀ y:cb×PySem.NameKind,y∈_→y.2=PySem.NameKind.free→e8 y.1 (L2.defScope $s).names=some PySem.NameKind.cell;decide +kernel))
local macro_rules
 | `(tactic|trivial) => `(tactic|first|decide +kernel|exact ⟨rfl,rfl,rfl,by decide +kernel,rfl,by decide +kernel,by decide +kernel⟩|exact True.intro)
local macro_rules
 | `(tactic|contradiction) => `(tactic|(intro _ _ _ _ h;first | (cases h;subst_vars;rfl) | ((repeat (obtain ⟨_,h⟩:=h));subst_vars;rfl)))
namespace L2
open PySem PyProof.Rows
theorem ixZ {a:Expr}{p q:Pos}{i:Int}{j}(h:PE X a ta):PE X (.Subscript a (.Constant (.int i) j p) q) (tOp (oU X.K) ta (tC (.int i))):=dN dQ h bg (fun _ _=>rfl)
theorem szZ1:1≤bq:=by decide
theorem mU:2≤bq:=by decide
theorem szZ4:4≤bq:=by decide
theorem szZ5:5≤bq:=by decide
end L2
namespace L2
abbrev pza:List cb:=["net"]
abbrev pzb:List cb:=["net","bounds","ring"]
abbrev pzc:List cb:=["net","step"]
abbrev pzd:List cb:=["_law_pot_here","_law_most"]
abbrev pze:List cb:=["_law_script","_law_k"]
abbrev pzf:List cb:=["net","table"]
abbrev pzg:List cb:=["_law_net_here","_law_table"]
abbrev pzh:List cb:=["net","span"]
abbrev pzi:List cb:=["net","case"]
abbrev pzj:List cb:=["beat","number"]
abbrev pzk:List cb:=["net","spans","happening"]
abbrev pzl:List cb:=["net","most"]
abbrev pzm:List cb:=["net","leaf_in"]
abbrev pzn:List cb:=["_law_told"]
abbrev pzo:List cb:=["_law_pot_here","_law_times","_law_beat","_law_ends","_law_width","_law_kept"]
abbrev pzp:List cb:=["case","span"]
abbrev pzq:List cb:=["_law_net_here","_law_tree"]
abbrev pzr:List cb:=["_law_script","_law_most","_law_extras","_law_spoils"]
abbrev pzs:List cb:=["rings","span"]
abbrev pzt:List cb:=["bounds","span","low","high"]
abbrev pzu:List cb:=["net","rings","wait","case"]
abbrev pzv:List cb:=["_law_net_here","_law_bounds","_law_tree","_law_deep"]
abbrev pzw:List cb:=["_law_net_here","_law_bounds","_law_tree"]
abbrev pzx:List cb:=["_law_cell","_law_k"]
abbrev pzy:List cb:=["_law_pot_here","_law_times","_law_beat","_law_k","_law_lim","_law_spoils"]
abbrev pzz:List cb:=["_law_pot_here","_law_times","_law_beat","_law_most","_law_spoils"]
abbrev pzA:List cb:=["_law_pot_here","_law_times","_law_beat","_law_hops"]
abbrev pzB:List cb:=["_law_script","_law_net_here","_law_times"]
abbrev pzC:List cb:=["bounds","way"]
abbrev pzD:List cb:=["net","bounds","leaf"]
abbrev pzE:List cb:=["net","spans","begin","end"]
abbrev pzF:List cb:=["self","case","span","at"]
abbrev pzG:List cb:=["net","steps","bounds"]
abbrev pzH:List cb:=["net","rings","bounds"]
abbrev pzI:List cb:=["net","table","span"]
abbrev pzJ:List cb:=["_law_net_here","_law_bounds","_law_ring"]
abbrev pzK:List cb:=["_law_net_here","_law_ring"]
end L2
namespace HN
open PySem L2 PyProof.Rows
theorem iteB {b:Bool}{A:Prop}(h:b=true)(x:A):if b=true then A else B:=by rw [q9 h];exact x
theorem ke {b:Bool}{A:Prop}(h:b=false)(x:B):if b=true then A else B:=by rw [qZ (by rw [h];exact aV)];exact x
structure Nm (mg:Str→Option ag):Prop where
 isin:mg "isinstance" =none
 tint:mg "int" =none
 tbool:mg "bool" =none
 ttup:mg "tuple" =none
 len:mg "len" =none
 min:mg "min" =none
 all:mg "all" =none
structure Fn (K:ak)(mg:Str→Option ag)(x:Str)(st:cV)(ps:List Str)(f:ao)(fd:bw):Prop where
 F:Fun K x x st f fd
 mg:mg x=some (.ref f)
 b:Binds K fd ps []
theorem pc1 {k:Nat}{sp:Sp}{p:Pos}(G:Fn X.K X.mg x st ps f fd)(F:dv X.prog X.w X.K X.mg X.base CX0 k f fd ps sp)(hr:Room k X.A)
  (ha:PA X (e::es) t) (hg:Gl X x:=by rfl) (hdb:(x == ("__debug__" :Str))=false:=by decide) (he:bD (e::es) X.env=(false,eV e X.env)::bD es X.env:=by rfl) (hpl:(gz pos (bD es X.env)).any (·.1)=false:=by rfl) :
  PE X (.Call (.Name x p) (e::es) [] pos) (tCall sp [] E0 t):=pe_call F hr hg G.mg G.F.kp G.b .nil pass0 ha hdb he hpl
theorem pe_gint {i:Int}(hm:∃ t,X.mg x=some (.int i t))(hg:Gl X x:=by rfl)(hd:(x == ("__debug__" :Str))=false:=by decide):PE X (.Name x pos) (tC (.int i)) :=
 let ⟨t,e⟩:=hm;pe_glob (v:= .int i) (u:= .int i t) hg e ⟨t,rfl⟩ hd
theorem nh {p:Pos}(N:Nm X.mg)(he:PE X e te)(hg:Gl X "isinstance" := by rfl)(hg2:Gl X "tuple" := by rfl)
  (hs1:bD [e,.Name "tuple" p2] X.env=(false,eV e X.env)::bD [.Name "tuple" p2] X.env:=by rfl) (hpl:(gz pos (bD [.Name "tuple" p2] X.env)).any (·.1)=false:=by rfl) :
  PE X (.Call (.Name "isinstance" p) [e,.Name "tuple" p2] [] pos) (tCB (fun xs H Q=>∃ x T,xs=[x,.ty "tuple"]∧tyn H x=some T∧Q (.bl (T == "tuple")) H) (o8 te (o8 (tC (.ty "tuple")) tNil))) :=
 cM call_isTup hg N.isin boot_isinstance (ae he (ae (pe_bltn hg2 N.ttup i5 rfl) aB) hs1) (he:=hs1) (hpl:=hpl)
theorem pe_isInt {p:Pos}(N:Nm X.mg)(he:PE X e te)(hg:Gl X "isinstance" := by rfl)(hg2:Gl X "int" := by rfl)
  (hs1:bD [e,.Name "int" p2] X.env=(false,eV e X.env)::bD [.Name "int" p2] X.env:=by rfl) (hpl:(gz pos (bD [.Name "int" p2] X.env)).any (·.1)=false:=by rfl) :
  PE X (.Call (.Name "isinstance" p) [e,.Name "int" p2] [] pos) (tCB (fun xs H Q=>∃ x T,xs=[x,.ty "int"]∧tyn H x=some T∧Q (.bl (T == "int" || T == "bool")) H) (o8 te (o8 (tC (.ty "int")) tNil))) :=
 cM call_isInt hg N.isin boot_isinstance (ae he (ae (pe_bltn hg2 N.tint boot_int rfl) aB) hs1) (he:=hs1) (hpl:=hpl)
theorem pe_isBool {p:Pos}(N:Nm X.mg)(he:PE X e te)(hg:Gl X "isinstance" := by rfl)(hg2:Gl X "bool" := by rfl)
  (hs1:bD [e,.Name "bool" p2] X.env=(false,eV e X.env)::bD [.Name "bool" p2] X.env:=by rfl) (hpl:(gz pos (bD [.Name "bool" p2] X.env)).any (·.1)=false:=by rfl) :
  PE X (.Call (.Name "isinstance" p) [e,.Name "bool" p2] [] pos) (tCB (fun xs H Q=>∃ x T,xs=[x,.ty "bool"]∧tyn H x=some T∧Q (.bl (T == "bool")) H) (o8 te (o8 (tC (.ty "bool")) tNil))) :=
 cM call_isBool hg N.isin boot_isinstance (ae he (ae (pe_bltn hg2 N.tbool boot_bool rfl) aB) hs1) (he:=hs1) (hpl:=hpl)
structure Sn where
 s:Int
 g:Int
 l:Int
 o:Int
 w:Int
abbrev Sn.row (x:Sn):List Int:=[x.s,x.g,x.l,x.o,x.w]
abbrev ka (b m:Int)(sp:List Sn):Dt:= .tup [.int b,.int m,.tup (sp.map fun x=> .tup (x.row.map Dt.int))]
theorem fR {m:Int}{sp:List Sn}(h:IsD H v (ka b m sp)):∃ t p ys,v= .ref t∧H t=some (.tup [.int b,.int m,.ref p])∧H p=some (.tup ys)∧ys.length=sp.length∧∀ (i:Nat) (x:Sn),sp[i]? =some x→∃ q,ys[i]? =some (.ref q)∧H q=some (.tup [.int x.s,.int x.g,.int x.l,.int x.o,.int x.w]):=by
 obtain ⟨t,xs,rfl,ht,rx⟩:=h.tup_of;cases rx with
 | cons h0 r0 =>
  cases r0 with
  | cons h1 r1 =>
   cases r1 with
   | cons h2 r2 =>
    cases r2;cases h0;cases h1;obtain ⟨p,ys,rfl,hp,ry⟩:=h2.tup_of;refine ⟨t,p,ys,rfl,ht,hp,by rw [ry.length,aa],fun i x hx=>?_⟩;obtain ⟨y,hy,dy⟩:=ry.at (i:=i) (d:= .tup (x.row.map Dt.int)) (by rw [az,hx];rfl);obtain ⟨q,zs,rfl,hq,rz⟩:=dy.tup_of;have ez:=rz.ints_of;subst ez;exact ⟨q,hy,hq⟩
def tm (ts:List Int)(i:Int):Int:=ts.getD i.toNat 0
theorem mq {i:Int}(h0:0≤i)(h1:i<ts.length):atI (ts.map V.int) i=some (.int (tm ts i)):=by
 obtain ⟨j,rfl⟩:=cJ h0;refine aJ ?_;rw [az,gE (by lia)];unfold tm;rw [cQ,ai,gE (by lia)];rfl
structure Rdy (b:Int)(ts:List Int)(sp:List Sn):Prop where
 b1:0<b
 few:sp.length≤1000
 ends:∀ x∈sp,0≤x.s∧x.s<ts.length∧0≤x.g∧x.g<ts.length
def fW (b:Int)(ts:List Int)(x:Sn):Int:=(tm ts x.g - tm ts x.s - x.l) % b
def ki (b:Int)(ts:List Int)(sp:List Sn):List Int:=sp.map (fW b ts)
def brk (b:Int)(ts:List Int)(x:Sn):Bool:=decide (x.o - x.l<fW b ts x)
def jB (b:Int)(ts:List Int)(sp:List Sn):Bool:= !(sp.any (brk b ts))
def gq (b:Int)(ts:List Int)(sp:List Sn):Int:=(sp.map fun x=>x.w * fW b ts x).sum
theorem eG (h:n≤1000):n≤bq:=bo h (by decide)
structure Nt (mg:Str→Option ag):Prop where
 range:mg "range" =none
 enum:mg "enumerate" =none
 zip:mg "zip" =none
 sum:mg "sum" =none
 tlist:mg "list" =none
 max:mg "max" =none
structure SnOk (b m:Int)(x:Sn):Prop where
 s0:0≤x.s
 s1:x.s<m
 g0:0≤x.g
 g1:x.g<m
 ne:x.s≠x.g
 l0:0≤x.l
 lo:x.l≤x.o
 ob:x.o<x.l+b
 o60:x.o<10 ^ 60
 w0:0≤x.w
 w1:x.w≤1000000000000
structure NetT (b m:Int)(sp:List Sn):Prop where
 b1:1≤b
 b2:b≤10 ^ 59
 m1:1≤m
 m2:m≤16
 few:sp.length≤40
 all:∀ x∈sp,SnOk b m x
theorem NetT.rdy {m:Int}{sp:List Sn}(h:NetT b m sp)(ht:(ts.length:Int)=m):Rdy b ts sp :=
 ⟨by have:=h.b1;lia,by have:=h.few;lia,fun x hx=>by have:=h.all x hx;exact ⟨this.s0,by have:=this.s1;lia,this.g0,by have:=this.g1;lia⟩⟩
theorem NetT.ws {m:Int}{sp:List Sn}(h:NetT b m sp):∀ x∈sp,0≤x.w∧x.w≤1000000000000:=fun x hx=>⟨(h.all x hx).w0,(h.all x hx).w1⟩
theorem rest_two (x y l b:Int):(x % b - y % b - l) % b=(x - y - l) % b:=by
 have hx:=gn x b;have hy:=gn y b;have e:x - y - l=(x % b - y % b - l)+b * (x / b - y / b):=by rw [Int.mul_sub];lia
 rw [e,kO]
inductive spRest (vs:List V)(H:Hp)(Q:VK)(_:XK):Prop
 | mk (b n:_)(_:vs=[.int b,.int n])(_:0<b)(_:Q (.int (n % b)) H)
inductive spWidth (vs:List V)(H:Hp)(Q:VK)(_:XK):Prop
 | mk (v b m sp i x:_)(_:vs=[v,.int (i:Nat)])(_:IsD H v (ka b m sp))(_:sp[i]? =some x)(_:Q (.int (x.o - x.l)) H)
inductive spWaitIn (vs:List V)(H:Hp)(Q:VK)(_:XK):Prop
 | mk (v u b m sp ts i x:_)(_:vs=[v,.ref u,.int (i:Nat)])(_:IsD H v (ka b m sp))(_:H u=some (.tup (ts.map V.int)))(_:Rdy b ts sp)(_:sp[i]? =some x)(_:Q (.int (fW b ts x)) H)
inductive spWaits (vs:List V)(H:Hp)(Q:VK)(_:XK):Prop
 | mk (v u b m sp ts:_)(_:vs=[v,.ref u])(_:IsD H v (ka b m sp))(_:H u=some (.tup (ts.map V.int)))(_:Rdy b ts sp)(_:∀ p H',Same H H'→H' p=some (.tup ((ki b ts sp).map V.int))→Q (.ref p) H')
inductive mY (vs:List V)(H:Hp)(Q:VK)(_:XK):Prop
 | mk (v u b m sp ts:_)(_:vs=[v,.ref u])(_:IsD H v (ka b m sp))(_:H u=some (.tup (ts.map V.int)))(_:Rdy b ts sp)(_:(∀ x∈sp,0≤x.w∧x.w≤1000000000000))(_:∀ H',Same H H'→Q (.int (gq b ts sp)) H')
inductive spCell (K:ak)(vs:List V)(H:Hp)(Q:VK)(_:XK):Prop
 | mk (a:ao)(ns:List Int)(k:Int)(_:vs=[.ref a,.int k])(_:SqL K H a (ns.map V.int))(_:0≤k)(_:∀ c:Int,Q (.int c) H)
theorem atI_in {xs:List α}{r:Int}(h0:0≤r)(h1:r<xs.length):∃ v,atI xs r=some v∧v∈xs:=by
 obtain ⟨j,rfl⟩:=cJ h0;have hj:j<xs.length:=by lia
 exact ⟨xs[j],aJ (gE hj),bH hj⟩
theorem log_ok {m:Int}(h0:0<m)(h:m<10 ^ 61):0<m∧m.natAbs.log2<9000:=by
 refine ⟨h0,?_⟩;have h1:m.natAbs<2 ^ 300:=by
  have:(10:Nat) ^ 61<2 ^ 300:=by trivial
  have h2:m.natAbs<10 ^ 61:=by lia
  exact jG h2 this
 have h3:m.natAbs≠0:=by lia
 have:=(Nat.log2_lt h3).mpr h1;lia
theorem goal_ok {s t m:Int}(h0:0≤s)(h1:s<m)(h2:0≤t)(h3:t<m - 1):0≤(s+1+t) % m∧(s+1+t) % m<m∧s≠(s+1+t) % m:=by
 have hm:0<m:=by lia
 have a:=cR (s+1+t) (by lia:m≠0);have b:=cL (s+1+t) hm;refine ⟨a,b,?_⟩
 by_cases q:s+1+t<m
 ·rw [jH (by lia) q];lia
 ·have e:(s+1+t) % m=(s+1+t - m) % m:=(Int.sub_emod_right _ _).symm
  rw [e,jH (by lia) (by lia)];lia
abbrev rowsP {α:Type}(f:α→List Int)(xs:List α):Dt:= .tup (xs.map fun x=> .tup ((f x).map Dt.int))
theorem iQ {f:α→List Int}{xs:List α}(r:IsDs H ys (xs.map fun x=> .tup ((f x).map Dt.int))){x:α}(hx:xs[i]? =some x):∃ q,ys[i]? =some (.ref q)∧H q=some (.tup ((f x).map V.int)):=by
 obtain ⟨y,hy,dy⟩:=r.at (i:=i) (d:= .tup ((f x).map Dt.int)) (by rw [az,hx];rfl);obtain ⟨q,zs,rfl,hq,rz⟩:=dy.tup_of;have ez:=rz.ints_of;subst ez;exact ⟨q,hy,hq⟩
theorem iG {f:α→List Int}{xs:List α}(h:IsD H v (rowsP f xs)):∃ p ys,v= .ref p∧H p=some (.tup ys)∧ys.length=xs.length∧IsDs H ys (xs.map fun x=> .tup ((f x).map Dt.int)):=by
 obtain ⟨p,ys,rfl,hp,ry⟩:=h.tup_of;exact ⟨p,ys,rfl,hp,by rw [ry.length,aa],ry⟩
structure Stp where
 i:Nat
 d:Int
abbrev Stp.row (s:Stp):List Int:=[(s.i:Int),s.d]
abbrev mS (ws:List Stp):Dt:=rowsP Stp.row ws
abbrev bndR (p:Int×Int):List Int:=[p.1,p.2]
abbrev bndP (bs:List (Int×Int)):Dt:=rowsP bndR bs
def frm (x:Sn)(d:Int):Int:=if d=1 then x.s else x.g
def too (x:Sn)(d:Int):Int:=if d=1 then x.g else x.s
def qo (n:Nat)(ws:List Stp):Prop:=∀ s∈ws,s.i<n∧(s.d=1∨s.d= -1)
def lI (sp:List Sn)(s:Stp):Int:=match sp[s.i]? with | some x=>frm x s.d | none=>0
def fF (sp:List Sn)(s:Stp):Int:=match sp[s.i]? with | some x=>too x s.d | none=>0
def oG (bs:List (Int×Int))(s:Stp):Int:=match bs[s.i]? with | some p=>if s.d=1 then p.1 else -p.2 | none=>0
def kf (bs:List (Int×Int))(s:Stp):Int:=match bs[s.i]? with | some p=>if s.d=1 then p.2 else -p.1 | none=>0
def fh (bs:List (Int×Int))(ws:List Stp):Int:=(ws.map (oG bs)).sum
def gM (bs:List (Int×Int))(ws:List Stp):Int:=(ws.map (kf bs)).sum
theorem atI_last {xs:List α}{x:α}(h:xs[xs.length - 1]? =some x):atI xs (-1)=some x:=by
 have hl:xs.length - 1<xs.length:=(aq.mp h).1;unfold atI ixN;rw [qZ (by decide),q9 (by lia)];show xs[(-1+(xs.length:Int)).toNat]? =some x;rw [show (-1+(xs.length:Int)).toNat=xs.length - 1 by lia];exact h
inductive spFrom (vs:List V)(H:Hp)(Q:VK)(_:XK):Prop
 | mk (v:V)(q:ao)(b m:Int)(sp:List Sn)(s:Stp)(x:Sn)(_:vs=[v,.ref q])(_:IsD H v (ka b m sp))(_:H q=some (.tup (s.row.map V.int)))(_:sp[s.i]? =some x)(_:Q (.int (frm x s.d)) H)
inductive spTo (vs:List V)(H:Hp)(Q:VK)(_:XK):Prop
 | mk (v:V)(q:ao)(b m:Int)(sp:List Sn)(s:Stp)(x:Sn)(_:vs=[v,.ref q])(_:IsD H v (ka b m sp))(_:H q=some (.tup (s.row.map V.int)))(_:sp[s.i]? =some x)(_:Q (.int (too x s.d)) H)
inductive spFirst (vs:List V)(H:Hp)(Q:VK)(_:XK):Prop
 | mk (v:V)(b m:Int)(sp:List Sn)(_:vs=[v])(_:IsD H v (ka b m sp))(_:sp.length≤1000)(_:∀ u H',Same H H'→IsD H' u (bndP (sp.map fun x=>(x.l,x.o)))→Q u H')
inductive spSum (vs:List V)(H:Hp)(Q:VK)(_:XK):Prop
 | mk (vb vw:V)(bs:List (Int×Int))(ws:List Stp)(_:vs=[vb,vw])(_:IsD H vb (bndP bs))(_:IsD H vw (mS ws))(_:qo bs.length ws)(_:∀ p H',Same H H'→H' p=some (.tup [.int (fh bs ws),.int (gM bs ws)])→Q (.ref p) H')
inductive spWholeL (vs:List V)(H:Hp)(Q:VK)(_:XK):Prop
 | mk (i:_)(_:vs=[.int i])(_:Q (.bl true) H)
abbrev dI {α:Type}(f:α→List Int)(xs:List α):List Dt:=xs.map fun x=> .tup ((f x).map Dt.int)
structure N3 (mg:Str→Option ag):Prop where
 tset:mg "set" =none
def oF (ss:List Stp):List Int:=ss.map fun s=>(s.i:Int)
theorem numsS_take {ss:List Stp}(h:i<ss.length):oF (ss.take (i+1))=oF (ss.take i)++[(ss[i].i:Int)]:=by
 unfold oF;rw [bj,gE h,ay];rfl
def TupK (H H':Hp):Prop:=∀ q xs,H q=some (.tup xs)→H' q=some (.tup xs)
theorem TupK.trans (a:TupK H H1)(b:TupK H1 H2):TupK H H2:=fun q xs h=>b q xs (a q xs h)
theorem Same.tupK (e:Same H H'):TupK H H':=fun _ _ h=>e _ _ h
theorem fb {p:ao}(hp:H p=some (.lst xs)):TupK H (upd H p o):=fun q ys h=>by rw [br (fH h hp nofun)];exact h
theorem cf {α:Type}{f:α→List Int}{H H':Hp}(e:TupK H H'):∀ {xs:List α} {zs:List V},IsDs H zs (dI f xs)→IsDs H' zs (dI f xs)
 | [],_,h=>by cases h;exact .nil
 | x::xs,zs,h=>by
  unfold dI at h ⊢;rw [cj] at h ⊢;cases h with
  | cons h1 h2 =>
   obtain ⟨q,ws,rfl,hq,rw'⟩:=h1.tup_of;have e2:=rw'.ints_of;subst e2;exact .cons (.tup (e q _ hq) (IsDs.ints _)) (cf e h2)
def BsU (bs:List (Int×Int)):Prop:=∀ q∈bs,0≤q.1∧q.1≤q.2∧q.2<10 ^ 60
def upB (b s:Int):Int:= -(-s / b)
inductive pE (vs:List V)(H:Hp)(Q:VK)(_:XK):Prop
 | mk (vn vb vw:V)(b m:Int)(sp:List Sn)(bs:List (Int×Int))(ws:List Stp)(_:vs=[vn,vb,vw])(_:IsD H vn (ka b m sp))(_:0<b)(_:b<10 ^ 61)(_:IsD H vb (bndP bs))(_:IsD H vw (mS ws))(_:qo bs.length ws)(_:∀ p H',Same H H'→H' p=some (.tup [.int (upB b (fh bs ws)),.int (gM bs ws / b)])→Q (.ref p) H')
inductive Lf where
 | ring (ws:List Stp)
 | price (rows:List (Int×List Stp))
abbrev rowD (r:Int×List Stp):Dt:= .tup [.int r.1,mS r.2]
def leafP:Lf→Dt
 | .ring ws=> .tup [.str "ring",mS ws]
 | .price rows=> .tup [.str "price",.tup (rows.map rowD)]
def jC (b:Int)(bs:List (Int×Int))(ws:List Stp):Bool:=decide (upB b (fh bs ws) > gM bs ws / b)
def sureB (b:Int)(bs:List (Int×Int))(ws:List Stp):Bool:=decide (upB b (fh bs ws)=gM bs ws / b)
inductive spDead (vs:List V)(H:Hp)(Q:VK)(_:XK):Prop
 | mk (vn vb vw:V)(b m:Int)(sp:List Sn)(bs:List (Int×Int))(ws:List Stp)(_:vs=[vn,vb,vw])(_:IsD H vn (ka b m sp))(_:0<b)(_:b<10 ^ 61)(_:IsD H vb (bndP bs))(_:IsD H vw (mS ws))(_:qo bs.length ws)(_:∀ H',Same H H'→Q (.bl (jC b bs ws)) H')
inductive spSure (vs:List V)(H:Hp)(Q:VK)(_:XK):Prop
 | mk (vn vb vw:V)(b m:Int)(sp:List Sn)(bs:List (Int×Int))(ws:List Stp)(_:vs=[vn,vb,vw])(_:IsD H vn (ka b m sp))(_:0<b)(_:b<10 ^ 61)(_:IsD H vb (bndP bs))(_:IsD H vw (mS ws))(_:qo bs.length ws)(_:∀ H',Same H H'→Q (.bl (sureB b bs ws)) H')
theorem IsDs.takeN {H:Hp}:∀ {xs:List V} {ds:List Dt} (n:Nat),IsDs H xs ds→IsDs H (xs.take n) (ds.take n)
 | _,_,0,_=> .nil
 | _,_,_+1,.nil=> .nil
 | _,_,n+1,.cons h r=> .cons h (IsDs.takeN n r)
theorem IsDs.dropN {H:Hp}:∀ {xs:List V} {ds:List Dt} (n:Nat),IsDs H xs ds→IsDs H (xs.drop n) (ds.drop n)
 | _,_,0,h=>h
 | _,_,_+1,.nil=> .nil
 | _,_,n+1,.cons _ r=>IsDs.dropN n r
def Along (sp:List Sn):Int→List Stp→Int→Prop
 | x,[],y=>x=y
 | x,s::ws,y=>lI sp s=x∧Along sp (fF sp s) ws y
theorem Along.append {sp:List Sn}:∀ {us:List Stp} {x y z:Int} {vs:List Stp},Along sp x us y→Along sp y vs z→Along sp x (us++vs) z
 | [],_,_,_,_,h,k=>by cases h;exact k
 | _::us,_,_,_,_,h,k=>⟨h.1,Along.append (us:=us) h.2 k⟩
theorem mL {sp:List Sn}(h:j<sp.length):lI sp ⟨j,d⟩=frm sp[j] d:=by
 unfold lI;show (match sp[j]? with | some x=>frm x d | none=>0)=_;rw [gE h]
theorem kT {sp:List Sn}(h:j<sp.length):fF sp ⟨j,d⟩=too sp[j] d:=by
 unfold fF;show (match sp[j]? with | some x=>too x d | none=>0)=_;rw [gE h]
theorem ends_of_span {sp:List Sn}{st:Stp}(h:j<sp.length)(e:st.i=j)(hs:st.d=1∨st.d= -1)(hd:d=1∨d= -1):fF sp st=fF sp ⟨j,d⟩∨lI sp st=fF sp ⟨j,d⟩:=by
 obtain ⟨i,dd⟩:=st;have e:i=j:=e;subst e;have hs:dd=1∨dd= -1:=hs;rw [kT h,kT h,mL h];unfold too frm
 rcases hs with rfl | rfl <;> rcases hd with rfl | rfl <;> simp
structure Bk (sp:List Sn)(be ou:Int)(x:Int)(ws:List Stp):Prop where
 inn:qo sp.length ws
 alo:Along sp be ws x
 one:(ws.map Stp.i).Nodup
 out:∀ s∈ws,(s.i:Int)≠ou
structure Rg (sp:List Sn)(ws:List Stp):Prop where
 inn:qo sp.length ws
 two:2≤ws.length
 few:ws.length≤17
 one:(ws.map Stp.i).Nodup
 rnd:∃ x,Along sp x ws x
theorem Bk.ring {sp:List Sn}{k:Nat}{ws:List Stp}(hk:k<sp.length)(hne:sp[k].s≠sp[k].g)(h:Bk sp sp[k].g (k:Nat) sp[k].s ws)(hl:ws.length≤16):Rg sp (⟨k,1⟩::ws):=by
 refine ⟨fun s hs=>?_,?_,by rw [aX];lia,?_,sp[k].s,?_,?_⟩
 ·rcases aG.mp hs with rfl | hs
  ·exact ⟨hk,.inl rfl⟩
  ·exact h.inn s hs
 ·cases ws with
  | nil=>exact rd h.alo.symm hne
  | cons a r=>rw [aX,aX];lia
 ·rw [cj,bJ]
  refine ⟨fun z=>?_,h.one⟩;obtain ⟨st,hst,e⟩:=bh.mp z;exact h.out st hst (by rw [e])
 ·rw [mL hk];rfl
 ·rw [kT hk];exact h.alo
inductive spWithB (vs:List V)(H:Hp)(Q:VK)(_:XK):Prop
 | mk (vb:V)(k:Nat)(lo hi:Int)(bs:List (Int×Int))(_:vs=[vb,.int (k:Nat),.int lo,.int hi])(_:IsD H vb (bndP bs))(_:k<bs.length)(_:bs.length≤40)(_:∀ u H',Same H H'→IsD H' u (bndP (bs.set k (lo,hi)))→Q u H')
inductive Tq where
 | leaf (d:Dt)
 | cut (k:Nat) (a:Int) (x y:Tq)
def jx:Tq→Dt
 | .leaf d=>d
 | .cut k a x y=> .tup [.str "cut",.int (k:Nat),.int a,jx x,jx y]
def lL (bs:List (Int×Int))(k:Nat)(a:Int):List (Int×Int):=bs.set k ((bs.getD k (0,0)).1,a)
def fA (bs:List (Int×Int))(k:Nat)(a:Int):List (Int×Int):=bs.set k (a+1,(bs.getD k (0,0)).2)
theorem one_len (bs:List (Int×Int))(k:Nat)(a:Int):(lL bs k a).length=bs.length:=by unfold lL;rw [fT]
theorem other_len (bs:List (Int×Int))(k:Nat)(a:Int):(fA bs k a).length=bs.length:=by unfold fA;rw [fT]
theorem getD_all (ns:List Int):((aQ ns.length).map fun i=>ns.getD i 0)=ns:=by
 refine List.ext_getElem (by rw [aa,bx]) fun i h1 h2=>?_
 rw [iP,jb,ai,gE h2];rfl
theorem met_eq (ns:List Int):metL ns=ns.foldl step_dedup []:=by
 unfold metL firstMet;rw [getD_all]
theorem fold_new:∀ (ns acc:List Int),ns.Nodup→(∀ x∈ns,x ∉ acc)→ns.foldl step_dedup acc=acc++ns
 | [],acc,_,_=>by simp
 | x::ns,acc,hn,h=>by
  obtain ⟨h1,h2⟩:=bJ.mp hn;have e:step_dedup acc x=acc++[x]:=by
   unfold step_dedup;have:¬ (acc.any (· == x))=true:=by
    intro z;obtain ⟨y,hy,e⟩:=List.any_eq_true.mp z;have e:y=x:=by simpa using e
    exact h x (by simp) (e ▸ hy)
   rw [qZ this]
  rw [bQ,e,fold_new ns (acc++[x]) h2 fun y hy z=>?_]
  ·simp
  ·rcases aN.mp z with z | z
   ·exact h y (aw _ hy) z
   ·rw [ax.mp z] at hy;exact h1 hy
theorem met_nodup (h:ns.Nodup):(metL ns).length=ns.length:=by
 rw [met_eq,fold_new ns [] h (fun _ _ z=>rd z (by simp)),List.nil_append]
end HN
variable {S:List HN.Stp}{c:List (Int×List HN.Stp)×List Int}{rg' rs:List (Nat×List HN.Stp)}{rows:List (Int×List HN.Stp)}{sp sx:List HN.Sn}
namespace L2
open PySem PyProof.Rows HN
mutual
theorem IsD.keepP {H H':Hp}(e:TupK H H'):∀ {v:V} {d:Dt},IsD H v d→pl d=true→IsD H' v d
 | _,_,.non,_=> .non
 | _,_,.bl b,_=> .bl b
 | _,_,.int i,_=> .int i
 | _,_,.str x,_=> .str x
 | _,_,.tup h r,p=> .tup (e _ _ h) (IsDs.keepP e r (by unfold pl at p;exact p))
 | _,_,.lst h,p=>by unfold pl at p;cases p
 | _,_,.dct h,p=>by unfold pl at p;cases p
theorem IsDs.keepP {H H':Hp}(e:TupK H H'):∀ {xs:List V} {ds:List Dt},IsDs H xs ds→pls ds=true→IsDs H' xs ds
 | _,_,.nil,_=> .nil
 | _,_,.cons h r,p=>by
  unfold pls at p;rw [dX] at p;exact .cons (IsD.keepP e h p.1) (IsDs.keepP e r p.2)
end
end L2
namespace HN
open PySem L2 PyProof.Rows
theorem k4 {α:Type}{f:α→Dt}:∀ (xs:List α),(∀ x∈xs,pl (f x)=true)→pls (xs.map f)=true
 | [],_=>by show pls []=true;unfold pls;rfl
 | x::xs,h=>by
  show pls (f x::xs.map f)=true;unfold pls;rw [h x (by simp),k4 xs fun y hy=>h y (aw _ hy)];rfl
theorem pl_ints (ns:List Int):pl (.tup (ns.map Dt.int))=true:=by
 unfold pl;exact k4 ns fun x _=>by unfold pl;rfl
theorem mE (f:α→List Int)(xs:List α):pl (rowsP f xs)=true:=by
 unfold rowsP;unfold pl;exact k4 xs fun x _=>pl_ints (f x)
def RowOk (b:Int)(sp:List Sn)(bs:List (Int×Int))(r:Int×List Stp):Prop:=Rg sp r.2∧sureB b bs r.2=true∧ -1000000000000≤r.1∧r.1≤1000000000000
def LfOk (b:Int)(sp:List Sn)(bs:List (Int×Int)):Lf→Prop
 | .ring ws=>Rg sp ws∧jC b bs ws=true
 | .price rows=>rows.length≤40∧∀ r∈rows,RowOk b sp bs r
theorem cB {m:Int}(e:TupK H H')(h:IsD H v (ka b m sp)):IsD H' v (ka b m sp):=by
 obtain ⟨t,xs,rfl,ht,rx⟩:=h.tup_of;cases rx with
 | cons h0 r0 =>
  cases r0 with
  | cons h1 r1 =>
   cases r1 with
   | cons h2 r2 =>
    cases r2;cases h0;cases h1;obtain ⟨p,ys,rfl,hp,ry⟩:=h2.tup_of;exact .tup (e _ _ ht) (.cons (.int _) (.cons (.int _) (.cons (.tup (e _ _ hp) (cf (f:=Sn.row) (xs:=sp) e ry)) .nil)))
inductive spWaitsN (vs:List V)(H:Hp)(Q:VK)(_:XK):Prop
 | mk (v:V)(u:ao)(b m:Int)(sp:List Sn)(ts:List Int)(_:vs=[v,.ref u])(_:IsD H v (ka b m sp))(_:H u=some (.tup (ts.map V.int)))(_:Rdy b ts sp)(_:∀ p H',Same H H'→H' p=some (.lst ((ki b ts sp).map V.int))→Q (.ref p) H')
def sideS (k:Int)(x:Sn):Sn:=⟨x.s+k,x.g+k,x.l,x.o,x.w⟩
theorem Rdy.side {k:Int}{t1 t2:List Int}{sp1 sp2:List Sn}(hk:(t1.length:Int)=k)(R1:Rdy b t1 sp1)(R2:Rdy b t2 sp2)(few:sp1.length+sp2.length≤1000):Rdy b (t1++t2) (sp1++sp2.map (sideS k)) :=
 ⟨R1.b1,by rw [av,aa];exact few,fun x hx=>by
  rw [av]
  rcases aN.mp hx with hx | hx
  ·obtain ⟨s0,s1,g0,g1⟩:=R1.ends x hx
   exact ⟨s0,by lia,g0,by lia⟩
  ·obtain ⟨y,hy,rfl⟩:=bh.mp hx
   obtain ⟨s0,s1,g0,g1⟩:=R2.ends y hy;show 0≤y.s+k∧y.s+k<((t1.length+t2.length:Nat):Int)∧0≤y.g+k∧y.g+k<((t1.length+t2.length:Nat):Int);lia⟩
structure Sides (b m1 m2:Int)(sp1 sp2:List Sn):Prop where
 N1:NetT b m1 sp1
 N2:NetT b m2 sp2
 m:m1+m2≤16
 few:sp1.length+sp2.length≤40
def TabsL (H:Hp)(b m:Int)(us:List V):Prop:=∀ u∈us,∃ (q:ao) (ts:List Int),u= .ref q∧H q=some (.tup (ts.map V.int))∧(ts.length:Int)=m
theorem TabsL.same {m:Int}{us:List V}(h:TabsL H b m us)(e:Same H H'):TabsL H' b m us:=fun u hu=>let ⟨q,ts,a,c,d⟩:=h u hu;⟨q,ts,a,e _ _ c,d⟩
theorem netP_rows {m:Int}(h:IsD H v (ka b m sp)):∃ t p ys,v= .ref t∧H t=some (.tup [.int b,.int m,.ref p])∧H p=some (.tup ys)∧IsDs H ys (dI Sn.row sp):=by
 obtain ⟨t,xs,rfl,ht,rx⟩:=h.tup_of;cases rx with
 | cons h0 r0 =>
  cases r0 with
  | cons h1 r1 =>
   cases r1 with
   | cons h2 r2 =>
    cases r2;cases h0;cases h1;obtain ⟨p,ys,rfl,hp,ry⟩:=h2.tup_of;exact ⟨t,p,ys,rfl,ht,hp,ry⟩
def strS (n:Int)(x:Sn):Sn:=⟨x.s,x.g,x.l * n,x.o * n,x.w⟩
def strT (n:Int)(ts:List Int):List Int:=ts.map fun t=>t * n
theorem strT_len (n:Int)(ts:List Int):(strT n ts).length=ts.length:=by unfold strT;rw [aa]
theorem Rdy.str {n:Int}(R:Rdy b ts sp)(hn:0<n):Rdy (b * n) (strT n ts) (sp.map (strS n)) :=
 ⟨Int.mul_pos R.b1 hn,by rw [aa];exact R.few,fun x hx=>by
  obtain ⟨y,hy,rfl⟩:=bh.mp hx;rw [strT_len];exact R.ends y hy⟩
end HN
namespace L2
open PySem PySem.W PyProof.Rows
def Gd {α:Type}(lt:Nat→Nat→Bool)(n:Nat):KasT α→(α→Prop)→Prop
 | .ret a,P=>P a
 | .ask i j k,P=>i<n∧j<n∧Gd lt n (k (lt i j)) P
theorem Gd.mono {α:Type}{lt:Nat→Nat→Bool}{n:Nat}{P R:α→Prop}(h:∀ a,P a→R a):∀ {t:KasT α},Gd lt n t P→Gd lt n t R
 | .ret a,g=>h a g
 | .ask _ _ _,g=>⟨g.1,g.2.1,Gd.mono h g.2.2⟩
theorem Gd.bind {α β:Type}{lt:Nat→Nat→Bool}{n:Nat}{f:α→KasT β}{P:β→Prop}:∀ {t:KasT α},Gd lt n t (fun a=>Gd lt n (f a) P)→Gd lt n (t.bind f) P
 | .ret _,g=>g
 | .ask _ _ _,g=>⟨g.1,g.2.1,Gd.bind g.2.2⟩
theorem Gd.wp {α:Type}{lt:Nat→Nat→Bool}{n:Nat}{P:α→Prop}{cmp:Nat→Nat→(Bool→au→Prop)→au→Prop}{Q:α→au→Prop}{s:au}(hc:∀ i j C,i<n→j<n→C (lt i j) s→cmp i j C s)(hq:∀ a,P a→Q a s):∀ {t:KasT α},Gd lt n t P→t.kasWp cmp Q s
 | .ret a,g=>hq a g
 | .ask i j k,g=>hc i j _ g.1 g.2.1 (Gd.wp hc hq g.2.2)
structure Ord (lt:Nat→Nat→Bool)(n:Nat):Prop where
 tot:∀ i j,i<n→j<n→i≠j→lt i j=false→lt j i=true
 tr:∀ i j k,lt i j=true→lt j k=true→lt i k=true
abbrev gA (p:Array Nat)(i:Nat):Nat:=p.getD i 0
abbrev Pm (n:Nat)(p:Array Nat):Prop:=p.toList.Perm (aQ n)
theorem lZ:gA p i=p[i]?.getD 0:=by
 show p.getD i 0=_;rw [Array.getD_eq_getD_getElem?]
theorem Pm.size (h:Pm n p):p.size=n:=by
 have:=h.length_eq;rw [bx,cU] at this;exact this
theorem Pm.lt (h:Pm n p)(hi:i<n):gA p i<n:=by
 have hs:i<p.size:=by rw [h.size];exact hi
 have e:gA p i=p[i]:=by rw [lZ,eM hs];rfl
 rw [e];have:p[i]∈p.toList:=by simp
 exact bT.mp (h.mem_iff.mp this)
theorem Pm.ne (h:Pm n p)(hij:i<j)(hj:j<n):gA p i≠gA p j:=by
 have hd:p.toList.Nodup:=h.nodup_iff.mpr iN;have si:i<p.toList.length:=by rw [cU,h.size];lia
 have sj:j<p.toList.length:=by rw [cU,h.size];lia
 have ei:gA p i=p.toList[i]:=by rw [lZ,eM (by rw [h.size];lia)];simp
 have ej:gA p j=p.toList[j]:=by rw [lZ,eM (by rw [h.size];lia)];simp
 rw [ei,ej];exact List.pairwise_iff_getElem.mp (bV.mp hd) i j si sj hij
theorem Pm.of {q:Array Nat}(h:Pm n p)(e:q.Perm p):Pm n q:=(Array.perm_iff_toList_perm.mp e).trans h
def SoA (lt:Nat→Nat→Bool)(p:Array Nat)(m:Nat):Prop:=∀ i j,i<j→j<m→lt (gA p i) (gA p j)=true
def DeA (lt:Nat→Nat→Bool)(p:Array Nat)(m:Nat):Prop:=∀ i j,i<j→j<m→lt (gA p j) (gA p i)=true
section
variable {lt:Nat→Nat→Bool}
theorem SoA.more (O:Ord lt n)(h:SoA lt p m)(h1:lt (gA p (m - 1)) (gA p m)=true):SoA lt p (m+1):=fun i j hij hj=>by
 by_cases e:j<m
 ·exact h i j hij e
 ·have ej:j=m:=by lia
  rw [ej]
  by_cases ei:i=m - 1
  ·rw [ei];exact h1
  ·exact O.tr _ _ _ (h i (m - 1) (by lia) (by lia)) h1
theorem DeA.more (O:Ord lt n)(h:DeA lt p m)(h1:lt (gA p m) (gA p (m - 1))=true):DeA lt p (m+1):=fun i j hij hj=>by
 by_cases e:j<m
 ·exact h i j hij e
 ·have ej:j=m:=by lia
  rw [ej]
  by_cases ei:i=m - 1
  ·rw [ei];exact h1
  ·exact O.tr _ _ _ h1 (h i (m - 1) (by lia) (by lia))
theorem asc_ok (O:Ord lt n){p:Array Nat}(hp:Pm n p):∀ (f m:Nat),1≤m→m+f=n→SoA lt p m→Gd lt n (kas_asc p f m) (fun r=>m≤r∧r≤n∧SoA lt p r∧(r<n→lt (gA p r) (gA p (r - 1))=true))
 | 0,m,_,h1,hs=>⟨aC _,by lia,hs,fun z=>rd z (by lia)⟩
 | f+1,m,h0,h1,hs=>by
  refine ⟨hp.lt (by lia),hp.lt (by lia),?_⟩;cases c:lt (gA p m) (gA p (m - 1)) with
  | true =>
   exact ⟨aC _,by lia,hs,fun _=>c⟩
  | false =>
   have h2:=O.tot _ _ (hp.lt (by lia)) (hp.lt (by lia)) (hp.ne (by lia:m - 1<m) (by lia)).symm c;refine (asc_ok O hp f (m+1) (by lia) (by lia) (hs.more O h2)).mono fun r ⟨a,b,cc,d⟩=>⟨by lia,b,cc,d⟩
theorem desc_ok (O:Ord lt n){p:Array Nat}(hp:Pm n p):∀ (f m:Nat),1≤m→m+f=n→DeA lt p m→Gd lt n (kas_desc f p m 0) (fun r=>r.1=p∧r.2.2=0∧m≤r.2.1∧r.2.1≤n∧DeA lt p r.2.1)
 | 0,m,_,h1,hs=>⟨rfl,rfl,aC _,by show m≤n;lia,hs⟩
 | f+1,m,h0,h1,hs=>by
  refine ⟨hp.lt (by lia),hp.lt (by lia),?_⟩;cases c:lt (gA p m) (gA p (m - 1)) with
  | true =>
   refine (desc_ok O hp f (m+1) (by lia) (by lia) (hs.more O c)).mono fun r ⟨a,b,cc,d,e⟩=>⟨a,b,by lia,d,e⟩
  | false =>
   have h2:=O.tot _ _ (hp.lt (by lia)) (hp.lt (by lia)) (hp.ne (by lia:m - 1<m) (by lia)).symm c;refine ⟨hp.lt (by lia),hp.lt (by lia),?_⟩;show Gd lt n (if (lt (gA p (m - 1)) (gA p m))=true then KasT.ret (p,m,0) else kas_desc f p (m+1) (0+1)) _;rw [q9 h2];exact ⟨rfl,rfl,aC _,by show m≤n;lia,hs⟩
theorem rev_ok (hp:Pm n p)(hm:m≤n):Pm n (kas_rev p 0 m):=hp.of (mirror_perm _ _ _ _)
theorem rev_so (hp:Pm n p)(hm:m≤n)(h:DeA lt p m):SoA lt (kas_rev p 0 m) m:=fun i j hij hj=>by
 have e:∀ k,k<m→gA (kas_rev p 0 m) k=gA p (m - 1 - k):=fun k hk=>by
  rw [lZ,lZ];have:=getElem?_mirror_all (xs:=p) (i:=0) (j:=m) (by rw [hp.size];exact hm) k;unfold kas_rev;rw [this,q9 ⟨bF _,hk⟩];congr 2;lia
 rw [e i (by lia),e j hj];exact h _ _ (by lia) (by lia)
theorem tail_ok (O:Ord lt n)(hp:Pm n p)(h1:1≤m)(hm:m≤n)(h:DeA lt p m):Gd lt n (kas_tail3 m n p) (fun r=>Pm n r.2∧1≤r.1∧r.1≤n∧SoA lt r.2 r.1):=by
 unfold kas_tail3;refine Gd.bind ((asc_ok O (rev_ok hp hm) (n - m) m h1 (by lia) (rev_so hp hm h)).mono fun r ⟨a,b,c,_⟩=>?_);exact ⟨rev_ok hp hm,by show 1≤r;lia,b,c⟩
theorem count_ok (O:Ord lt n)(h1:1≤n)(hp:Pm n p):Gd lt n (kas_count n p) (fun r=>Pm n r.2∧1≤r.1∧r.1≤n∧SoA lt r.2 r.1):=by
 unfold kas_count;refine Gd.bind ((asc_ok O hp (n - 1) 1 (aC _) (by lia) (fun i j a b=>rd a (by lia))).mono fun r ⟨a,b,c,d⟩=>?_)
 by_cases e:r=n
 ·rw [q9 (by rw [e];exact beq_self_eq_true n)]
  exact ⟨hp,a,b,c⟩
 ·rw [qZ (by rw [beq_iff_eq];exact e)]
  by_cases e2:r > 1
  ·rw [q9 e2]
   refine ⟨hp.lt (by lia),hp.lt (by lia),?_⟩;show Gd lt n (if (lt (gA p 0) (gA p (r - 1)))=true then KasT.ret (r,p) else _) _;rw [q9 (c 0 (r - 1) (by lia) (by lia))];exact ⟨hp,a,b,c⟩
  ·rw [qZ e2]
   have er:r=1:=by lia
   subst er;have hn:1<n:=by lia
   have dd:=d hn;unfold kas_descPart;refine Gd.bind ((desc_ok O hp (n - (1+1)) (1+1) (by lia) (by lia) (fun i j x y=>by
    have ei:i=0:=by lia
    have ej:j=1:=by lia
    rw [ei,ej];exact dd)).mono fun q ⟨q1,q2,q3,q4,q5⟩=>?_)
   rw [qZ (by rw [q2];lia),q1];exact tail_ok O hp (by lia) q4 q5
theorem place_ok (O:Ord lt n){p:Array Nat}(hp:Pm n p){k:Nat}(hk:k<n)(hs:SoA lt p k):∀ (f l r:Nat),l≤r→r≤k→r - l≤f→(∀ i,i<l→lt (gA p i) (gA p k)=true)→(∀ i,r≤i→i<k→lt (gA p k) (gA p i)=true)→Gd lt n (kas_place p k f l r) (fun m=>m≤k∧(∀ i,i<m→lt (gA p i) (gA p k)=true)∧∀ i,m≤i→i<k→lt (gA p k) (gA p i)=true)
 | 0,l,r,h1,h2,h3,a,b=>⟨by lia,a,fun i x y=>b i (by lia) y⟩
 | f+1,l,r,h1,h2,h3,a,b=>by
  show Gd lt n (if l ≥ r then KasT.ret l else KasT.ask (gA p k) (gA p ((l+r) / 2)) fun c=>if c=true then kas_place p k f l ((l+r) / 2) else kas_place p k f ((l+r) / 2+1) r) _
  by_cases e:l ≥ r
  ·rw [q9 e]
   exact ⟨by lia,a,fun i x y=>b i (by lia) y⟩
  ·rw [qZ e]
   refine ⟨hp.lt hk,hp.lt (by lia),?_⟩;cases c:lt (gA p k) (gA p ((l+r) / 2)) with
   | true =>
    refine place_ok O hp hk hs f l ((l+r) / 2) (by lia) (by lia) (by lia) a fun i x y=>?_
    by_cases ei:i=(l+r) / 2
    ·rw [ei];exact c
    ·exact O.tr _ _ _ c (hs _ _ (by lia) y)
   | false =>
    have h5:=O.tot _ _ (hp.lt hk) (hp.lt (by lia)) (hp.ne (by lia:(l+r) / 2<k) hk).symm c;refine place_ok O hp hk hs f ((l+r) / 2+1) r (by lia) h2 (by lia) (fun i x=>?_) b
    by_cases ei:i=(l+r) / 2
    ·rw [ei];exact h5
    ·exact O.tr _ _ _ (hs i _ (by lia:i<(l+r) / 2) (by lia)) h5
theorem bub_so (O:Ord lt n)(hp:Pm n p){k:Nat}(hk:k<n)(hm:m≤k)(hs:SoA lt p k)(a:∀ i,i<m→lt (gA p i) (gA p k)=true)(b:∀ i,m≤i→i<k→lt (gA p k) (gA p i)=true):SoA lt (bubble p k (k - m)) (k+1):=fun i j hij hj=>by
 have e:∀ x,gA (bubble p k (k - m)) x=if x=m then gA p k else if m<x∧x≤k then gA p (x - 1) else gA p x:=fun x=>by
  have:=getElem?_bubble (xs:=p) (src:=k) (by rw [hp.size];exact hk) (k - m) (by lia) x;have e0:k - (k - m)=m:=by lia
  rw [e0] at this;rw [lZ,this]
  by_cases h1:x=m
  ·rw [q9 h1,q9 h1,lZ]
  ·rw [qZ h1,qZ h1]
   by_cases h2:m<x∧x≤k
   ·rw [q9 h2,q9 h2,lZ]
   ·rw [qZ h2,qZ h2,lZ]
 rw [e i,e j]
 by_cases i1:i=m
 ·rw [q9 i1,qZ (by lia),q9 (by lia)]
  exact b _ (by lia) (by lia)
 ·rw [qZ i1]
  by_cases i2:m<i∧i≤k
  ·rw [q9 i2,qZ (by lia),q9 (by lia)]
   exact hs _ _ (by lia) (by lia)
  ·rw [qZ i2]
   by_cases j1:j=m
   ·rw [q9 j1];exact a _ (by lia)
   ·rw [qZ j1]
    by_cases j2:m<j∧j≤k
    ·rw [q9 j2];exact hs _ _ (by lia) (by lia)
    ·rw [qZ j2];exact hs _ _ hij (by lia)
theorem bin_ok (O:Ord lt n):∀ (f:Nat) (p:Array Nat) (k:Nat),k+f=n→Pm n p→SoA lt p k→Gd lt n (kas_bin f p k) (fun q=>Pm n q∧SoA lt q n)
 | 0,p,k,h1,hp,hs=>by
  have e:k=n:=by lia
  rw [e] at hs;exact ⟨hp,hs⟩
 | f+1,p,k,h1,hp,hs=>by
  show Gd lt n ((kas_place p k k 0 k).bind fun l=>kas_bin f (bubble p k (k - l)) (k+1)) _;refine Gd.bind ((place_ok O hp (by lia) hs k 0 k (bF _) (aC _) (by lia) (fun i x=>rd x (by lia)) (fun i x y=>rd x (by lia))).mono fun m ⟨m1,m2,m3⟩=>?_);exact bin_ok O f _ (k+1) (by lia) (hp.of (bubble_perm _ _ _)) (bub_so O hp (by lia) m1 hs m2 m3)
theorem sort_ok (O:Ord lt n)(h1:1≤n):Gd lt n (kas_sort n) (fun q=>Pm n q∧SoA lt q n):=by
 unfold kas_sort;refine Gd.bind ((count_ok O h1 (p:=(aQ n).toArray) (by show (aQ n).toArray.toList.Perm _;rw [fq])).mono fun r ⟨a,b,c,d⟩=>?_)
 by_cases e:r.1<n
 ·rw [q9 e]
  have em:max r.1 1=r.1:=by lia
  rw [em];exact bin_ok O _ _ _ (by lia) a d
 ·rw [qZ e]
  have er:r.1=n:=by lia
  rw [er] at d;exact ⟨a,d⟩
end
theorem pG {out:Array ag}{b:ao}{u:Obj}(hb:b≠a)(e:h.get? b=some u):(sortedHeap h a vs out).get? b=some u:=by
 unfold sortedHeap;rw [gY _ _ _ _ hb];exact ar _ (ar _ (by rw [gY _ _ _ _ hb];exact e))
theorem sortedHeap_at {out:Array ag}(e:h.get? a=some (bR "list" vs.toArray n)):∃ c,(sortedHeap h a vs out).get? a=some (bR "list" out c):=by
 unfold sortedHeap;exact ⟨_,gO (ar _ (ar _ (gO e fun _=> #[]))) fun _=>out⟩
def preAll (h:bK)(vs:List ag):bK:=((h.push (bR "list" #[] 0)).update h.objs.size (cT (· ++ vs.toArray))).push (bR "list" vs.toArray 0)
theorem preAll_keep {b:ao}{u:Obj}(e:h.get? b=some u):(preAll h vs).get? b=some u:=by
 have hb:=aO e;exact ar _ (by rw [gY _ _ _ _ (bM hb)];exact ar _ e)
theorem preAll_at:(preAll h vs).get? (h.objs.size+1)=some (bR "list" vs.toArray 0):=by
 have hsz:((h.push (bR "list" #[] 0)).update h.objs.size (cT (· ++ vs.toArray))).objs.size=h.objs.size+1:=by
  rw [bK.size_update,size_push']
 unfold preAll;rw [←hsz];exact aZ _ rfl
theorem call_sortedI:CallR X (.builtin "sorted") (fun xs H Q=>∃ (p:ao) (ns:List Int),xs=[.ref p]∧SqL X.K H p (ns.map V.int)∧ns.length<64∧∀ (l:ao) (ns':List Int),H l=none→ns'.Perm ns→ns'.Pairwise (· ≤ ·)→Q (.ref l) (upd H l (.lst (ns'.map V.int)))):=by
 intro aP s σ H xs us Q I r h;obtain ⟨p,ns,rfl,hq,hn,q⟩:=h;obtain ⟨u,rfl,ru⟩:=oz r;cases (show u=ag.ref p from ru);obtain ⟨its,rv,pl,hz⟩:=I.list hq;have hl:its.length=ns.length:=by rw [←rv.length,aa]
 refine sorted_ints pl.isList (oY rv) (by lia) fun out ns' a1 a2 a3=>?_
 obtain ⟨c,hc⟩:=sortedHeap_at (h:=preAll s.heap its) (vs:=its) (out:=out) preAll_at;refine ⟨.ref (s.heap.objs.size+1),_,I.laid (o:= .lst (ns'.map V.int)) (t':=s.toks) (fun b u e=>pG (bM (iD (aO e))) (preAll_keep e)) (j9 _) ⟨?_,out.toList,c,o4 a1,?_⟩,rfl,q _ ns' (I.hok.fresh (j9 _)) a2 a3⟩
 ·rw [aa,a2.length_eq];exact bo (by lia:ns.length≤1000) (by decide)
 ·rw [Array.toArray_toList];exact hc
def kr (h:bK)(a:ao)(vs:List ag):bK:=((h.update a (cT fun _=>(#[]:Array ag))).push (bR "tuple" vs.toArray 0)).push (bR "list" #[] 0)
theorem mid_keep {b:ao}{u:Obj}(hb:b≠a)(e:h.get? b=some u):(kr h a vs).get? b=some u :=
 ar _ (ar _ (by rw [gY _ _ _ _ hb];exact e))
def ltP (k m:Int×Int):Bool:=if (k.1 == m.1)=true then (if (k.2 == m.2)=true then false else decide (k.2<m.2)) else decide (k.1<m.1)
theorem ltP_iff {k m:Int×Int}:ltP k m=true↔(k.1<m.1∨(k.1=m.1∧k.2<m.2)):=by
 unfold ltP
 by_cases h1:k.1=m.1
 ·rw [q9 (by rw [beq_iff_eq];exact h1)]
  by_cases h2:k.2=m.2
  ·rw [q9 (by rw [beq_iff_eq];exact h2)]
   constructor
   ·intro h;cases h
   ·intro h;lia
  ·rw [qZ (by rw [beq_iff_eq];exact h2),decide_eq_true_eq]
   lia
 ·rw [qZ (by rw [beq_iff_eq];exact h1),decide_eq_true_eq]
  lia
abbrev kyP (ks:List (Int×Int))(i:Nat):Int×Int:=ks.getD i (0,0)
theorem kyP_at (h:i<ks.length):kyP ks i=ks[i]:=by
 show ks.getD i (0,0)=_;rw [ai,gE h];rfl
theorem ord_of (h:ks.Nodup):Ord (fun i j=>ltP (kyP ks i) (kyP ks j)) ks.length:=by
 refine ⟨fun i j hi hj hne hf=>?_,fun i j k h1 h2=>?_⟩
 ·show ltP (kyP ks j) (kyP ks i)=true
  have hn:kyP ks i≠kyP ks j:=by
   rw [kyP_at hi,kyP_at hj];intro e;exact hne ((List.getElem_inj h).mp e)
  have hf:¬ ltP (kyP ks i) (kyP ks j)=true:=by
   show ¬ ltP (kyP ks i) (kyP ks j)=true;rw [show ltP (kyP ks i) (kyP ks j)=false from hf];decide
  rw [ltP_iff] at hf ⊢;have:¬ ((kyP ks i).1=(kyP ks j).1∧(kyP ks i).2=(kyP ks j).2):=fun z=>hn (Prod.ext z.1 z.2)
  lia
 ·have h1:ltP (kyP ks i) (kyP ks j)=true:=h1
  have h2:ltP (kyP ks j) (kyP ks k)=true:=h2;show ltP (kyP ks i) (kyP ks k)=true;rw [ltP_iff] at h1 h2 ⊢;lia
def PrsAt (h:bK)(vs:List ag)(ks:List (Int×Int)):Prop:=vs.length=ks.length∧∀ (i:Nat) (v:ag) (k:Int×Int),vs[i]? =some v→ks[i]? =some k→∃ a o t u n,v= .ref a∧h.get? a=some o∧o.cls= .type "tuple" ∧o.data= .seq #[.int k.1 t,.int k.2 u] n
theorem prs_tups {h:bK}:∀ {vs:List ag} {ks:List (Int×Int)},PrsAt h vs ks→∃ fs:List ag,KatTups h vs fs∧fs.length=vs.length∧∀ f∈fs,∃ i t,f=ag.int i t
 | [],[],_=>⟨[],trivial,rfl,fun f hf=>rd hf (by simp)⟩
 | [],_::_,p=>rd p.1 (by simp)
 | _::_,[],p=>rd p.1 (by simp)
 | v::vs,k::ks,p=>by
  obtain ⟨fs,t1,t2,t3⟩:=prs_tups (vs:=vs) (ks:=ks) ⟨by have:=p.1;simp only [aX] at this;lia,fun i v' k' e1 e2=>p.2 (i+1) v' k' (by simpa using e1) (by simpa using e2)⟩;obtain ⟨a,o,t,u,n,rfl,q2,q3,q4⟩:=p.2 0 v k rfl rfl;refine ⟨.int k.1 t::fs,KatTups.cons q2 q3 q4 rfl t1,by rw [aX,aX,t2],fun f hf=>?_⟩
  rcases aG.mp hf with rfl | hf
  ·exact ⟨_,_,rfl⟩
  ·exact t3 f hf
theorem prs_kind (p:PrsAt s.heap vs ks)(h1:1≤vs.length){Q:SortKind→au→Prop}(q:Q (tuples' true) s):aW (bz prog w) A (keyKind' vs.toArray) Q E s:=by
 obtain ⟨fs,t1,t2,t3⟩:=prs_tups p;have e1:((ag.type "int" :ag) == ag.type "int")=true:=by trivial
 have e2:((ag.type "int" :ag) != ag.type "tuple")=true:=by trivial
 refine kat_kind (T:= .type "int") t1 (by lia) (fun v hv=>?_) e1 (by rw [e2];exact q);obtain ⟨i,t,rfl⟩:=t3 v hv;exact Looks.of_pure rfl
theorem prs_ask (p:PrsAt s.heap vs ks)(hi:i<vs.length)(hj:j<vs.length){C:Bool→au→Prop}(c:C (ltP (kyP ks i) (kyP ks j)) s):kas_ask prog w A (tuples' true) vs i j C s:=by
 have li:=p.1;obtain ⟨a,o,t,u,n,e1,q2,q3,q4⟩:=p.2 i vs[i] ks[i] (gE hi) (gE (by lia));obtain ⟨a',o',t',u',n',e1',q2',q3',q4'⟩:=p.2 j vs[j] ks[j] (gE hj) (gE (by lia));unfold kas_ask;have ei:vs.getD i ag.none= .ref a:=by rw [ai,gE hi];exact e1
 have ej:vs.getD j ag.none= .ref a':=by rw [ai,gE hj];exact e1'
 rw [ei,ej];rw [kyP_at (by lia),kyP_at (by lia)] at c;refine kat_lt q2 q4 q2' q4' ?_;refine kat_cons (wpAny_eqBool_int ?_);unfold ltP at c
 by_cases h1:(ks[i].1 == ks[j].1)=true
 ·rw [q9 h1] at c
  rw [h1];refine kat_yes (kat_cons (wpAny_eqBool_int ?_))
  by_cases h2:(ks[i].2 == ks[j].2)=true
  ·rw [q9 h2] at c
   rw [h2];exact kat_yes (kat_nil c)
  ·rw [qZ h2] at c
   rw [jv.mpr h2];exact kat_no (kat_one _ _ (lt_int (Q:=PySem.W.BoolBack C) c))
 ·rw [qZ h1] at c
  rw [jv.mpr h1];exact kat_no (oneLt_int c)
def qf (h:bK)(kS a:ao)(out:List ag):bK:=(h.update kS (cT fun _=>(#[]:Array ag))).update a (cT fun _=>out.toArray)
theorem key_tail {st:SortSt}{out ks:List ag}{e:Nat}{P:PySem.Fin→au→Prop}(hout:(arrOf st).map (·.2)=jq out)(hz:out.length<64)(hkz:ks.length<64)(hf:failedOf st=none)
  (hk:s.heap.get? kS=some (bR "list" ks.toArray e)) (ha:s.heap.get? a=some (bR "list" #[] e1)) (hne:kS≠a)
  (h:P (.done (.ret .none)) { s with heap:=qf s.heap kS a out }):aW (bz prog w) A (ksk_tail a false e1 (.ref kS) st) P E s:=by
 have na:(s.heap.update kS (cT fun _=>(#[]:Array ag))).get? a=some (bR "list" #[] e1):=by
  rw [gY _ _ _ _ (bX hne)];exact ha
 unfold ksk_tail
 try dsimp only
 rw [hout];refine ah (listUpdate_at hk rfl ?_ (by rw [aE,gk];lia) (bF _));refine ah (km ?_);refine ah (seqEpoch_at na rfl ?_);refine ah (listUpdate_at na rfl ?_ (bF _) (by show (if false=true then _ else out.toArray).size≤_;rw [qZ (by decide),aE,gk];lia));rw [hf];simp only [bne_self_eq_false,Bool.false_eq_true,if_false];exact aL h
theorem key_end {ks:List ag}{e:Nat}{κ:SortKind}{lt:Nat→Nat→Bool}{P:PySem.Fin→au→Prop}(hl:ks.length=vs.length)(h2:2≤vs.length)(h64:vs.length<64)(O:Ord lt vs.length)
  (hk:s.heap.get? kS=some (bR "list" ks.toArray e)) (ha:s.heap.get? a=some (bR "list" #[] e1)) (hne:kS≠a)
  (hkk:∀ Q:SortKind→au→Prop,Q κ s→aW (bz prog w) A (keyKind' ks.toArray) Q (fun _ _=>False) s)
  (hc:∀ i j C,i<vs.length→j<vs.length→C (lt i j) s→kas_ask prog w A κ ks i j C s)
  (h:∀ p:Array Nat,Pm vs.length p→SoA lt p vs.length→P (.done (.ret .none)) { s with heap:=qf s.heap kS a (p.toList.map fun i=>vs.getD i ag.none) }) :
  aW (bz prog w) A (ksk_end a false vs.toArray e1 (.ref kS) ks.toArray) P E s:=by
 have hn2:¬ vs.toArray.size<2:=by rw [aE];lia
 unfold ksk_end
 try dsimp only
 rw [qZ (by decide),qZ hn2,qZ hn2,qZ (by decide)];refine ah (cy (hkk (fun κ' s'=>κ'=κ∧s'=s) ⟨rfl,rfl⟩) (fun κ' s0 z=>?_) fun _ _ x=>x.elim);obtain ⟨z1,z2⟩:=z;subst z1;subst z2;have G:=(sort_ok O (by lia)).wp (cmp:=kas_ask prog w A κ' ks) (s:=s0) (Q:=fun p s'=>s'=s0∧Pm vs.length p∧SoA lt p vs.length) hc (fun p hp=>⟨rfl,hp.1,hp.2⟩);refine ah (cy (kat_run (Q:=fun st' s'=>∃ p:Array Nat,p.size=vs.length∧arrOf st'=p.map (kas_item (ks.toArray.zip vs.toArray))∧failedOf st'=none∧s'=s0∧Pm vs.length p∧SoA lt p vs.length) hl h2 h64 (fun p' st' s' a1 a2 a3 a4=>⟨p',a1,a2,a3,a4.1,a4.2.1,a4.2.2⟩) G) ?_ fun _ _ e=>e);rintro ⟨⟨⟩,st'⟩ s' ⟨p,hp,har,hf,rfl,pm,so⟩
 try dsimp only
 exact key_tail (kat_snds hl har) (by rw [aa,cU,hp];exact h64) (by lia) hf hk ha hne (h p pm so)
theorem key_fold {f:ag}{kS:ao}{body:ag→PUnit→Sem (ForInStep PUnit)}(J:List ag→au→Prop)(vs:List ag)(h64:vs.length<64)
  (hb:∀ x ks e (t:au),ks.length<64→t.heap.get? kS=some (bR "list" ks.toArray e) →
   aW (bz prog w) A (call f [x]) (fun k t'=>t'.heap.get? kS=some (bR "list" ks.toArray e)∧∀ h' c,eJ kS t'.heap h'→h'.get? kS=some (bR "list" (ks++[k]).toArray c)→J (ks++[k]) { t' with heap:=h' }) (fun _ _=>False) t →
   aW (bz prog w) A (body x ⟨⟩) (fun r t'=>r= .yield ⟨⟩∧∃ k c,t'.heap.get? kS=some (bR "list" (ks++[k]).toArray c)∧J (ks++[k]) t') E t)
  (hc:∀ ks x e (t:au),vs[ks.length]? =some x→J ks t→t.heap.get? kS=some (bR "list" ks.toArray e) →
   aW (bz prog w) A (call f [x]) (fun k t'=>t'.heap.get? kS=some (bR "list" ks.toArray e)∧∀ h' c,eJ kS t'.heap h'→h'.get? kS=some (bR "list" (ks++[k]).toArray c)→J (ks++[k]) { t' with heap:=h' }) (fun _ _=>False) t) :
  ∀ (r ks:List ag) (e:Nat) (t:au),vs=vs.take ks.length++r→ks.length+r.length=vs.length→t.heap.get? kS=some (bR "list" ks.toArray e)→J ks t →
   aW (bz prog w) A (forIn r PUnit.unit body) (fun _ t'=>∃ ks e,t'.heap.get? kS=some (bR "list" ks.toArray e)∧ks.length=vs.length∧J ks t') E t
 | [],ks,e,t,_,hl,hk,j=>by
  rw [List.forIn_nil];exact aL ⟨ks,e,hk,by simpa using hl,j⟩
 | x::r,ks,e,t,hv,hl,hk,j=>by
  rw [aX] at hl;rw [List.forIn_cons];have hx:vs[ks.length]? =some x:=by
   rw [hv,bZ (by rw [bG];lia),bG,show ks.length - min ks.length vs.length=0 by lia];rfl
  refine ah (cy (hb x ks e t (by lia) hk (hc ks x e t hx j hk)) (fun q t' hq=>?_) fun _ _ z=>z);obtain ⟨rfl,k,c,hk',j'⟩:=hq;show aW (bz prog w) A (forIn r PUnit.unit body) _ E t';refine key_fold J vs h64 hb hc r (ks++[k]) c t' ?_ (by rw [av,iu];lia) hk' j';rw [av,iu,bj,hx]
  simpa using hv
theorem key_rest {f:ag}{P:PySem.Fin→au→Prop}(J:List ag→au→Prop)(h64:vs.length<64)(hk:s.heap.get? kS=some (bR "list" #[] 0))(j0:J [] s)
  (hc:∀ ks x e (t:au),vs[ks.length]? =some x→J ks t→t.heap.get? kS=some (bR "list" ks.toArray e) →
   aW (bz prog w) A (call f [x]) (fun k t'=>t'.heap.get? kS=some (bR "list" ks.toArray e)∧∀ h' c,eJ kS t'.heap h'→h'.get? kS=some (bR "list" (ks++[k]).toArray c)→J (ks++[k]) { t' with heap:=h' }) (fun _ _=>False) t)
  (h:∀ ks e (t:au),ks.length=vs.length→J ks t→t.heap.get? kS=some (bR "list" ks.toArray e)→aW (bz prog w) A (ksk_end a false vs.toArray e1 (.ref kS) ks.toArray) P E t) :
  aW (bz prog w) A (ksk_rest a f false vs.toArray e1 (.ref kS)) P E s:=by
 unfold ksk_rest;refine ah (wpAny_rule ?_)
 first
  | rw [List.forIn_toArray]
  | (rw [←Array.forIn_toList];simp only [fq])
  | rw [←Array.forIn_toList]
 refine ah (cy (key_fold J vs h64 (fun x ks e t hz ht hx=>?_) hc vs [] 0 s (by simp) (by simp) hk j0) (fun _ t hd=>?_) fun _ _ z=>z)
 ·refine ah (wpAny_attempt (cy hx (fun k t' hk=>?_) fun _ _ hF=>hF.elim))
  obtain ⟨k1,k2⟩:=hk;have s1:=gv t'.heap kS (cT (·.push k));have ea:(jq ks).push k=jq (ks++[k]):=by simp
  obtain ⟨c2,hc2⟩:∃ c2,(t'.heap.update kS (cT (·.push k))).get? kS=some (bR "list" (jq (ks++[k])) c2):=⟨_,by rw [←ea];exact gO k1 (·.push k)⟩
  try dsimp only
  refine ah (listUpdate_at k1 rfl ?_ (by rw [aE,gk];lia) (bo (Nat.le_of_eq (Array.size_push ..)) (by rw [aE,gk];lia)));exact aL ⟨rfl,k,c2,hc2,k2 _ c2 s1 hc2⟩
 ·obtain ⟨ks,e,hk',hl,j⟩:=hd
  try dsimp only
  refine ah (listItems_at hk' rfl ?_);exact h ks e t hl j hk'
theorem collect_range {r:ao}{a c:Int}{t u v:Tok}{Q:List ag→au→Prop}(hh:A.handled=none)(hr:IsRange s.heap r a b c t u v)(hsmall:iq a b c=true)(hn:eO a b c=n)(hlen:n≤2 ^ 24)
  (h:∀ h' tk acc,(∀ b o,s.heap.get? b=some o→h'.get? b=some o)→s.heap.objs.size<h'.objs.size→ItemsOf (fun i v=>∃ t,v= .int (a+i * c) t) acc n→Q acc.toList { s with heap:=h',toks:=tk }) :
  aW (bz prog w) A (collect (.ref r)) Q E s:=by
 unfold collect;refine ah (wpAny_runValue (kL entry_proto_collect' ?_));show aW _ _ (do again (.builtin "list.__iadd__" ⟨[←newList [],.ref r],[]⟩)) _ _ s;refine ah (wpAny_newList (aL ⟨Code.quiet_builtin _ (by trivial),kL entry_list_iadd' ?_⟩));have key:=wpAny_extend_range (prog:=prog) (w:=w) (A:=A) (s:={ s with heap:=s.heap.push (bR "list" #[] 0) }) (R:=fun r s'=>match r with
   | .ok (.ret v)=>aW (bz prog w) A (match v with
    | .ref a=>do
     let o ← load a
     match o.data with
     | .seq xs _=>fP xs.toList
     | _=>unsupported "internal:collect"
    | _=>unsupported "internal:collect") Q E s'
   | .ok _=>False
   | .error e=>E e s') hh (ar _ hr) hsmall hn hlen s.heap.objs.size (.ref s.heap.objs.size) 0 (aZ _ rfl) (fun h' tk acc c' hk hS hacc=>by
  show aW (bz prog w) A (do
    let o ← load s.heap.objs.size
    match o.data with
    | .seq xs _=>fP xs.toList
    | _=>unsupported "internal:collect") Q E { s with heap:=h',toks:=tk }
  refine ah (wpAny_load hS ?_);exact aL (h h' tk acc (fun b o e=>hk b o (bM (aO e)) (ar _ e)) (aO hS) hacc))
 exact key
def KeyDo (prog:aY)(w:bE)(B:bW)(f:ag)(vs:List ag)(kS D:ao)(e1:Nat)(Q:au→Prop)(s1:au):Prop :=
 ∃ J:List ag→au→Prop,J [] s1 ∧
  (∀ ks x e (t:au),vs[ks.length]? =some x→J ks t→t.heap.get? kS=some (bR "list" ks.toArray e) →
   aW (bz prog w) B (call f [x]) (fun k t'=>t'.heap.get? kS=some (bR "list" ks.toArray e)∧∀ h' c,eJ kS t'.heap h'→h'.get? kS=some (bR "list" (ks++[k]).toArray c)→J (ks++[k]) { t' with heap:=h' }) (fun _ _=>False) t) ∧
  ∀ ks (t:au),ks.length=vs.length→J ks t→t.heap.get? D=some (bR "list" #[] e1)∧∃ κ lt,Ord lt vs.length ∧
   (2≤vs.length→∀ Q:SortKind→au→Prop,Q κ t→aW (bz prog w) B (keyKind' ks.toArray) Q (fun _ _=>False) t) ∧
   (∀ i j C,i<vs.length→j<vs.length→C (lt i j) t→kas_ask prog w B κ ks i j C t) ∧
   ∀ p:Array Nat,Pm vs.length p→SoA lt p vs.length→Q { t with heap:=qf t.heap kS D (p.toList.map fun i=>vs.getD i ag.none) }
theorem zip_snd:∀ (ks vs:List ag),ks.length=vs.length→(ks.zip vs).map (·.2)=vs
 | [],[],_=>rfl
 | [],_::_,h=>by cases h
 | _::_,[],h=>by cases h
 | _::ks,v::vs,h=>by
  show v::(ks.zip vs).map (·.2)=v::vs;rw [zip_snd ks vs (by simpa using h)]
theorem key_end_few {ks:List ag}{e:Nat}{P:PySem.Fin→au→Prop}(hl:ks.length=vs.length)(h2:vs.length<2)
  (hk:s.heap.get? kS=some (bR "list" ks.toArray e)) (ha:s.heap.get? a=some (bR "list" #[] e1)) (hne:kS≠a)
  (h:P (.done (.ret .none)) { s with heap:=qf s.heap kS a vs }) :
  aW (bz prog w) A (ksk_end a false vs.toArray e1 (.ref kS) ks.toArray) P E s:=by
 have hn2:vs.toArray.size<2:=by rw [aE];lia
 unfold ksk_end
 try dsimp only
 rw [qZ (by decide),q9 hn2,q9 hn2,qZ (by decide)];refine ah (aL ?_);rw [StateT.run_pure];refine ah (aL ?_)
 try dsimp only
 refine key_tail (out:=vs) ?_ (by lia) (by lia) rfl hk ha hne h;show (ks.toArray.zip vs.toArray).map (·.2)=vs.toArray
 apply Array.toList_inj.mp
 rw [Array.toList_map,Array.toList_zip];exact zip_snd ks vs hl
theorem range_getD (vs:List ag):((aQ vs.length).map fun i=>vs.getD i ag.none)=vs:=by
 refine List.ext_getElem? fun i=>?_
 rw [az]
 by_cases hi:i<vs.length
 ·rw [gX hi]
  show some (vs.getD i ag.none)=_;rw [ai,gE hi];rfl
 ·rw [List.getElem?_eq_none (by rw [bx];lia),List.getElem?_eq_none (by lia)];rfl
theorem key_tree {q:ao}{P:PySem.Fin→au→Prop}(ho:s.heap.get? a=some (bR "list" vs.toArray n))(h64:vs.length<64)
  (h:∀ e1,(kr s.heap a vs).get? a=some (bR "list" #[] e1)→(kr s.heap a vs).get? (s.heap.objs.size+1)=some (bR "list" #[] 0)→KeyDo prog w A (.ref q) vs (s.heap.objs.size+1) a e1 (fun t=>P (.done (.ret .none)) t) { s with heap:=kr s.heap a vs }) :
  aW (bz prog w) A (ksk_tree a (.ref q) false) P E s:=by
 obtain ⟨e1,ho1⟩:∃ e1,(s.heap.update a (cT fun _=>(#[]:Array ag))).get? a=some (bR "list" #[] e1):=⟨_,gO ho fun _=> #[]⟩;have ha:a<s.heap.objs.size:=aO ho;have ho6:(kr s.heap a vs).get? a=some (bR "list" #[] e1):=ar _ (ar _ ho1);have hkS:((s.heap.update a (cT fun _=>(#[]:Array ag))).push (bR "tuple" vs.toArray 0)).objs.size=s.heap.objs.size+1:=by rw [size_push',bK.size_update]
 have hk0:(kr s.heap a vs).get? (s.heap.objs.size+1)=some (bR "list" #[] 0):=by
  unfold kr;rw [←hkS];exact aZ _ rfl
 obtain ⟨J,j0,jc,je⟩:=h e1 ho6 hk0;unfold ksk_tree;refine ah (listItems_at ho rfl ?_);refine ah (listUpdate_at ho rfl ?_ (by rw [aE,gk];lia) (bF _));refine ah (seqEpoch_at ho1 rfl ?_);refine ah (wpAny_newTuple ?_ (by show vs.length≤_;rw [gk];lia));refine ah (wpAny_newList ?_ (bF _));refine dZ ?_;show aW (bz prog w) A (ksk_rest a (.ref q) false vs.toArray e1 (.ref ((s.heap.update a (cT fun _=>(#[]:Array ag))).push (bR "tuple" vs.toArray 0)).objs.size)) P E { s with heap:=kr s.heap a vs };rw [hkS];refine key_rest J h64 hk0 j0 jc fun ks e t hl j hk=>?_
 obtain ⟨ha',κ,lt,O,hkk,hc,hP⟩:=je ks t hl j
 by_cases h2:vs.length<2
 ·have hh:=hP (aQ vs.length).toArray (by show (aQ vs.length).toArray.toList.Perm _;rw [fq]) (fun i j x y=>rd y (by lia))
  rw [fq,range_getD] at hh;exact key_end_few hl h2 hk ha' (dA (iD ha)) hh
 ·exact key_end hl (by lia) h64 O hk ha' (dA (iD ha)) (hkk (by lia)) hc hP
theorem sorted_keyR {r q:ao}{a c:Int}{t u v:Tok}(hh:A.handled=none)(hr:IsRange s.heap r a b c t u v)(hsmall:iq a b c=true)(hn:eO a b c=n)(h64:n<64)
  (h:∀ (vs:List ag) (h1:bK) (tk:Nat) (D kS:ao) (e1:Nat),vs.length=n→(∀ (i:Nat) x,vs[i]? =some x→∃ t,x= .int (a+i * c) t)→(∀ b o,s.heap.get? b=some o→h1.get? b=some o)→s.heap.objs.size≤D→D<kS→h1.get? D=some (bR "list" #[] e1)→h1.get? kS=some (bR "list" #[] 0) →
   KeyDo prog w A.in1.in1 (.ref q) vs kS D e1 (fun t'=>Q (.ref D) t') { s with heap:=h1,toks:=tk }) :
  aW (bz prog w) A (call (.builtin "sorted") [.ref r] [(cZ "key",.ref q)]) Q E s:=by
 refine call_function_entry_kw kind_sorted plain_sorted entry_sorted (ksk_s1 _ _) ?_;unfold fY.«sorted»;refine ah (m:=checkCount "sorted" 1 1 _) (aL ?_);refine ah (collect_range hh hr hsmall hn (by lia) fun h' tk acc hk hlt hi=>?_);have hl:acc.toList.length=n:=by rw [cU];exact hi.1
 refine ah (wpAny_newList ?_ (by rw [hl,gk];lia));have hoL:(h'.push (bR "list" acc.toList.toArray 0)).get? h'.objs.size=some (bR "list" acc.toList.toArray 0):=aZ _ rfl;show aW _ _ _ _ _ { s with heap:=h'.push (bR "list" acc.toList.toArray 0),toks:=tk };refine ah (dZ (wpAny_call_entry_kw slot_list_sort ⟨_,hoL,rfl⟩ entry_list_sort ?body (ksk_l1 _ _)))
 case body =>
  show aW (bz prog w) A.in1.in1 (fY.«list.sort» ⟨[.ref h'.objs.size],[(cZ "key",.ref q)]⟩) _ _ _;rw [ksk_t1];refine key_tree (s:={ s with heap:=h'.push (bR "list" acc.toList.toArray 0),toks:=tk }) hoL (by lia) fun e1 g1 g2=>?_
  have K:=h acc.toList (kr (h'.push (bR "list" acc.toList.toArray 0)) h'.objs.size acc.toList) tk h'.objs.size ((h'.push (bR "list" acc.toList.toArray 0)).objs.size+1) e1 hl ?_ ?_ (iW hlt) (by rw [size_push'];exact iD (jU _)) g1 g2
  ·obtain ⟨J,j0,jc,je⟩:=K
   refine ⟨J,j0,jc,fun ks t' x1 x2=>?_⟩;obtain ⟨y1,κ,lt,y2,y3,y4,y5⟩:=je ks t' x1 x2;exact ⟨y1,κ,lt,y2,y3,y4,fun p p1 p2=>⟨_,rfl,aL ⟨_,rfl,y5 p p1 p2⟩⟩⟩
  ·intro i x hx
   rw [ir] at hx;exact hi.2 i x hx
  ·exact fun b o e=>mid_keep (bM (jG (aO e) hlt)) (ar _ (hk b o e))
section
variable {σ:List (Option V)}
theorem Inv.take {D:ao}(I:Inv X aP σ H s)(hn:H D=none)(hs0:X.s₀.heap.objs.size≤D)(hL:D≠X.env.locals)(hC:∀ x c,X.env.cells.lookup x=some c→c≠D)(hP:∀ p∈X.pn++aP,p.1≠D)(new:ObjOk X.prog X.w (upd H D o) s.heap D o):Inv X aP σ (upd H D o) s where
 ok:=I.ok
 os:=I.os
 bare:=I.bare
 base :=
  {keep:=I.base.keep
   slot:=I.base.slot
   free:=fun b ob e nb hx=>by rw [br (bM (aR (aO e) hs0))];exact I.base.free b ob e nb hx
   there:=I.base.there
   tups:=fun b xs e=>by have q:=I.base.tups b xs e;rw [br (bf q hn)];exact q
   frzs:=fun b o u e=>by have q:=I.base.frzs b o u e;rw [br (bf q hn)];exact q
   tbls:=fun b ps e=>by obtain ⟨more,q⟩:=I.base.tbls b ps e;exact ⟨more,by rw [br (bf q hn)];exact q⟩ }
 loc:=I.loc
 cell:=I.cell
 free:=by rw [br hL.symm];exact I.free
 freeC:=fun x c e=>by rw [br (hC x c e)];exact I.freeC x c e
 pin:=fun p hp=>by
  obtain ⟨a,b,c,d,e⟩:=I.pin p hp;exact ⟨a,by rw [br (hP p hp)];exact b,c,d,e⟩
 hok:=I.hok.take hn new
 len:=I.len
theorem Inv.unpin {p0:ao×Obj}(I:Inv X (p0::aP) σ H s):Inv X aP σ H s:=I.pins_of fun p hp=>I.pin p (aA _ (aw _ hp))
theorem Inv.repin {o o':Obj}(I:Inv X ((kS,o)::aP) σ H s)(hs0:X.s₀.heap.objs.size≤kS)(hC:∀ x c,X.env.cells.lookup x=some c→c≠kS)(hP:∀ p∈X.pn++aP,p.1≠kS)(hsb:eJ kS s.heap h')(ho':h'.get? kS=some o')(hd:∀ v,o'.data≠ .cell v):Inv X ((kS,o')::aP) σ H { s with heap:=h' }:=by
 obtain ⟨p1,p2,p3,p4,_⟩:=I.pin (kS,o) (aA _ (bB ..));have I2:=I.unpin.turned (t':=s.toks) (it:=kS) (h':=h') (fun b o hb e=>hsb.extBut b o hb e) p2 p3 (.inr hs0) hC hP;refine I2.pins_of fun p hp=>?_
 rcases aG.mp hp with rfl | hp
 ·exact ⟨ho',p2,p3,p4,hd⟩
 ·exact I2.pin p (aA _ hp)
theorem prs_of {as:List ao}(I:Inv X aP σ H s)(hl:as.length=ks.length)(h:∀ (i:Nat) a k,as[i]? =some a→ks[i]? =some k→H a=some (.tup [.int k.1,.int k.2])):PrsAt s.heap (as.map ag.ref) ks:=by
 refine ⟨by rw [aa,hl],fun i v k e1 e2=>?_⟩;rw [az] at e1;obtain ⟨a,ea,rfl⟩:=bI.mp e1;obtain ⟨tz,tts,tr,o,ho,hcl,_,nn,hdt⟩:=I.hok a _ (h i a k ea e2);cases tr with
 | cons r1 tr=>cases tr with
  | cons r2 tr =>
   cases tr;obtain ⟨t1,rfl⟩:=r1;obtain ⟨t2,rfl⟩:=r2;exact ⟨a,o,t1,t2,nn,rfl,ho,hcl,hdt⟩
theorem keyDo_of {B:bW}{f:ag}{num:Nat→Int}{key:Nat→Int×Int}{D:ao}{Q:au→Prop}
  (I:Inv X ((kS,bR "list" #[] 0)::(D,bR "list" #[] e1)::aP) σ H s) (hl:vs.length=n) (h64:n<64) (hv:∀ (i:Nat) x,vs[i]? =some x→∃ t,x= .int (num i) t)
  (k0:X.s₀.heap.objs.size≤kS) (d0:X.s₀.heap.objs.size≤D) (kC:∀ x c,X.env.cells.lookup x=some c→c≠kS) (dC:∀ x c,X.env.cells.lookup x=some c→c≠D) (kP:∀ p∈X.pn++aP,p.1≠kS) (dP:∀ p∈X.pn++aP,p.1≠D) (hne:kS≠D)
  (hnd:((aQ n).map key).Nodup)
  (hf:∀ (t:au) (H':Hp) (pins':List (ao×Obj)) (i:Nat) (tk:Tok),i<n→Inv X pins' σ H' t→Same H H'→aW (bz X.prog X.w) B (call f [.int (num i) tk]) (fun k t'=>∃ q H'',Inv X pins' σ H'' t'∧Same H' H''∧k= .ref q∧H'' q=some (.tup [.int (key i).1,.int (key i).2])) (fun _ _=>False) t)
  (fin:∀ (t:au) (H':Hp) (π:List Nat),Same H H'→H' D=none→Inv X aP σ (upd H' D (.lst (π.map fun i=>V.int (num i)))) t→π.Perm (aQ n)→π.Pairwise (fun i j=>ltP (key i) (key j)=true)→Q t) :
  KeyDo X.prog X.w B f vs kS D e1 Q s:=by
 have pK:∀ p∈X.pn++((D,bR "list" #[] e1)::aP),p.1≠kS:=fun p hp=>by
  rcases aN.mp hp with hp | hp
  ·exact kP p (aM _ hp)
  ·rcases aG.mp hp with rfl | hp
   ·exact bX hne
   ·exact kP p (aA _ hp)
 refine ⟨fun ks t=>∃ e H' as,Inv X ((kS,bR "list" ks.toArray e)::(D,bR "list" #[] e1)::aP) σ H' t∧Same H H'∧ks=as.map ag.ref∧∀ (i:Nat) a,as[i]? =some a→H' a=some (.tup [.int (key i).1,.int (key i).2]),⟨0,H,[],I,Same.refl H,rfl,fun i a e=>by simp at e⟩,?_,?_⟩
 ·rintro ks x e t hx ⟨e',H',as,I',S',rfl,has⟩ hk
  rw [aa] at hx;have hi:as.length<n:=by rw [←hl];exact (aq.mp hx).1
  obtain ⟨tk,rfl⟩:=hv _ x hx;refine cy (hf t H' _ as.length tk hi I' S') (fun k t' hk'=>?_) fun _ _ z=>z
  obtain ⟨q,H'',I'',S'',rfl,hq⟩:=hk';have pk:=(I''.pin _ (aA _ (bB ..))).1;have pk0:=(I'.pin _ (aA _ (bB ..))).1;have pk0:t.heap.get? kS=some (bR "list" (as.map ag.ref).toArray e'):=pk0;rw [hk] at pk0;have ee:e=e':=by cases pk0;rfl
  refine ⟨by rw [ee];exact pk,fun h' c hsb hg=>⟨c,H'',as++[q],I''.repin k0 kC pK hsb hg (fun v z=>by cases z),S'.trans S'',by rw [ay];rfl,fun i a ea=>?_⟩⟩
  by_cases hlt:i<as.length
  ·rw [gw hlt] at ea
   exact S'' _ _ (has i a ea)
  ·rw [bZ (by lia)] at ea
   have hz:i=as.length:=by
    have:=(aq.mp ea).1;simp only [iu] at this;lia
   subst hz;rw [Nat.sub_self] at ea;cases ea;exact hq
 ·rintro ks t hks ⟨e',H',as,I',S',rfl,has⟩
  rw [aa] at hks;obtain ⟨pd,nD,lD,fD,_⟩:=I'.pin (D,bR "list" #[] e1) (aA _ (aw _ (bB ..)));obtain ⟨pk,nK,lK,fK,_⟩:=I'.pin (kS,bR "list" (as.map ag.ref).toArray e') (aA _ (bB ..));have pd:t.heap.get? D=some (bR "list" #[] e1):=pd;have pk:t.heap.get? kS=some (bR "list" (as.map ag.ref).toArray e'):=pk;have kat:∀ i,i<n→kyP ((aQ n).map key) i=key i:=fun i hi=>by
   rw [kyP_at (by rw [aa,bx];exact hi),iP,jb]
  have PR:PrsAt t.heap (as.map ag.ref) ((aQ n).map key):=prs_of I' (by rw [aa,bx];lia) fun i a k ea ek=>by
   rw [az] at ek;obtain ⟨j,ej,rfl⟩:=bI.mp ek;have hi:i<n:=by have:=(aq.mp ej).1;rw [bx] at this;exact this
   rw [gX hi] at ej;cases ej;exact has i a ea
  have ln:((aQ n).map key).length=n:=by rw [aa,bx]
  have O:=ord_of hnd;rw [ln] at O;refine ⟨pd,tuples' true,fun i j=>ltP (kyP ((aQ n).map key) i) (kyP ((aQ n).map key) j),by rw [hl];exact O,fun h2 Q' q'=>prs_kind (s:=t) PR (by rw [aa];lia) q',fun i j C hi hj c=>prs_ask (s:=t) PR (by rw [aa];lia) (by rw [aa];lia) c,fun p pm so=>?_⟩;rw [hl] at pm so;have s1:=gv t.heap kS (cT fun _=>(#[]:Array ag));obtain ⟨ck,hck⟩:∃ ck,(t.heap.update kS (cT fun _=>(#[]:Array ag))).get? kS=some (bR "list" #[] ck):=⟨_,gO pk fun _=> #[]⟩;have I1:=I'.repin k0 kC pK s1 hck (fun v z=>by cases z);have I2:=I1.unpin;have hD1:(t.heap.update kS (cT fun _=>(#[]:Array ag))).get? D=some (bR "list" #[] e1):=by rw [gY _ _ _ _ (bX hne)];exact pd
  have s2:=gv (t.heap.update kS (cT fun _=>(#[]:Array ag))) D (cT fun _=>jq (p.toList.map fun i=>vs.getD i ag.none));obtain ⟨cD,hcD⟩:∃ cD,(qf t.heap kS D (p.toList.map fun i=>vs.getD i ag.none)).get? D=some (bR "list" (jq (p.toList.map fun i=>vs.getD i ag.none)) cD):=⟨_,gO hD1 fun _=>jq (p.toList.map fun i=>vs.getD i ag.none)⟩;have I3:=(I2.repin d0 dC dP s2 hcD (fun v z=>by cases z)).unpin;refine fin _ H' p.toList S' nD (I3.take nD d0 lD dC dP ⟨?_,_,cD,?_,hcD⟩) pm ?_
  ·rw [aa,pm.length_eq,bx];exact bo (by lia:n≤1000) (by decide)
  ·refine vals_at (by rw [aa,aa]) fun i x hx=>?_
   rw [az] at hx;obtain ⟨j,hj,rfl⟩:=bI.mp hx;have hjn:j<n:=bT.mp (pm.mem_iff.mp (bt hj));obtain ⟨tk,ex⟩:=hv j vs[j] (gE (by lia));refine ⟨vs.getD j ag.none,by rw [az,hj];rfl,?_⟩;rw [ai,gE (by lia)];exact ⟨tk,ex⟩
  ·refine List.pairwise_iff_getElem.mpr fun a b ha hb hab=>?_
   have sz:=Pm.size pm;rw [cU] at ha hb;have:=so a b hab (by lia);have ea:gA p a=p.toList[a]:=by rw [lZ,eM ha];simp
   have eb:gA p b=p.toList[b]:=by rw [lZ,eM hb];simp
   have la:p.toList[a]<n:=by rw [←ea];exact pm.lt (by lia)
   have lb:p.toList[b]<n:=by rw [←eb];exact pm.lt (by lia)
   have this:ltP (kyP ((aQ n).map key) (gA p a)) (kyP ((aQ n).map key) (gA p b))=true:=this;rw [ea,eb,kat _ la,kat _ lb] at this;exact this
end
end L2
namespace L2
open PySem PySem.W PySem.Spec PyProof.Rows
def BM (mg:Str→Option ag)(base:bK):Prop:=∃ bm ob,mg "__builtins__" =some (.ref bm)∧bm≠builtinsNs∧bm≠bS∧base.get? bm=some ob∧ob.cls= .type "module" ∧ob.dict=some builtinsNs∧ob.data= .plain
def CdK (q:Str)(H:Hp)(c:ao):Prop:=∃ oc vs t,H c=some (.frz oc (.own 0))∧oc.data= .fields vs∧vs[1]? =some (.str q t)
def LamT (P:ao)(pos:Pos)(q:Str)(H:Hp):Prop :=
 H P=some (.tbl #[])∨∃ c,H P=some (.tbl #[rawInt pos.line,rawInt pos.col,.ref c])∧CdK q H c
def Tb (P:ao)(H H':Hp):Prop:=∀ a o,a≠P→H a=some o→H' a=some o
theorem Tb.refl {P:ao}(H:Hp):Tb P H H:=fun _ _ _ e=>e
theorem Tb.trans {P:ao}(a:Tb P H H1)(b:Tb P H1 H2):Tb P H H2:=fun x o n e=>b x o n (a x o n e)
theorem Same.tb {P:ao}(a:Same H H'):Tb P H H':=fun x o _ e=>a x o e
theorem CdK.tb {P:ao}{c:ao}(a:Tb P H H')(hn:c≠P)(k:CdK q H c):CdK q H' c:=let ⟨oc,vs,t,e,r⟩:=k;⟨oc,vs,t,a _ _ hn e,r⟩
theorem LamT.same {P:ao}(a:Same H H')(k:LamT P pos q H):LamT P pos q H':=by
 rcases k with k | ⟨c,k,oc,vs,t,e,r⟩
 ·exact .inl (a _ _ k)
 ·exact .inr ⟨c,a _ _ k,oc,vs,t,a _ _ e,r⟩
def LamF (q:Str)(params:fE)(body:Expr)(scope:fI)(cl:List (Str×ao))(f:ao)(H:Hp):Prop :=
 ∃ pm c ct,H f=some (.frz (kla_obj "<lambda>" q params body scope cl pm c ct) (.own 0))∧CdK q H c
theorem LamF.same (a:Same H H')(k:LamF q params body scope cl f H):LamF q params body scope cl f H' :=
 let ⟨pm,c,ct,e,oc,vs,t,e2,r⟩:=k;⟨pm,c,ct,a _ _ e,oc,vs,t,a _ _ e2,r⟩
section
variable {σ:List (Option V)}
theorem Inv.grown {P:ao}{ps more:Array ag}{tk:Nat}(I:Inv X aP σ H s)(hP:H P=some (.tbl ps))(hx:bK.ExtBut P s.heap h')(ht:h'.get? P=some (tabObj (ps++more))) :
  Inv X aP σ (upd H P (.tbl (ps++more))) { s with heap:=h',toks:=tk }:=by
 have neP:∀ b,H b=none→b≠P:=fun b e z=>by rw [z,hP] at e;cases e
 have neO:∀ b o,H b=some o→(∀ ps,o≠ .tbl ps)→b≠P:=fun b o e hn z=>by rw [z,hP] at e;exact hn ps (cE e).symm
 refine I.step (g':=s.gens) (d':=s.drawn) (ch:=[]) (fun _ z=>nomatch z) (fun b o _ _ _ e n=>hx b o (neP b n) e) (fun b o _ _ _ e n=>⟨o.slots,hx b o (neP b n) e⟩) (fun b o _ _ n=>by rw [br (neP b n)];exact n)
  (fun b o _ e=>?_) (fun b xs e=>by rw [br (neO b _ e fun _ z=>by cases z)];exact e) (fun b o u e=>by rw [br (neO b _ e fun _ z=>by cases z)];exact e) (fun b qs e=>?_) (fun m hn=>hn.extBut hx (neP _ I.free)) (fun b u e=>?_) I.bare
 ·by_cases hb:b=P
  ·exact ⟨_,hb ▸ ht⟩
  ·exact ⟨o,hx b o hb e⟩
 ·by_cases hb:b=P
  ·subst hb
   rw [hP] at e;cases e;exact ⟨more,aS⟩
  ·exact ⟨#[],by rw [br hb,e];simp⟩
 ·by_cases hb:b=P
  ·subst hb
   rw [aS] at e;cases e;exact ht
  ·rw [br hb] at e
   refine (I.hok b u e).stay (fun c v hc q=>hx c v ?_ q) (fun c q=>by rw [br (neO c _ q fun _ z=>by cases z)];exact q) fun c xs q=>by rw [br (neO c _ q fun _ z=>by cases z)];exact q
   rcases hc with rfl | hc
   ·exact hb
   ·exact neO c _ hc fun _ z=>by cases z
theorem lam_make {c P:ao}(I:Inv X aP σ H s)(hd:defaultsOf params X.env=([],[]))(mI:X.env.code= .ref c)(C:codeHdIn X.K c P=true)(B:BM X.mg X.base)
  (hfr:∀ y∈scope.names,y.2= .free→X.env.scope.names.lookup y.1=some .cell) (T:LamT P pos (X.env.qual ++ "<lambda>") H)
  (h:∀ f cl H' s',Inv X aP σ H' s'→Tb P H H'→LamT P pos (X.env.qual ++ "<lambda>") H'→LamF (X.env.qual ++ "<lambda>") params body scope cl f H'→(∀ x c,cl.lookup x=some c→X.env.cells.lookup x=some c)→(∀ y∈scope.names,y.2= .free→cl.lookup y.1=X.env.cells.lookup y.1)→Q (.ref f) s') :
  aW (bz X.prog X.w) X.A (eV (.Lambda params body scope pos) X.env) Q X.xe s:=by
 obtain ⟨cl,hclos,c1,c2⟩:=mN (scope:=scope) (env:=X.env) fun y hy hk=>I.ok.has _ (.inl (hfr y hy hk))
 refine kla_eval hd ?_;have hgs:s.heap.Ns bS X.mg:=I.mod.glob.keeps I.bk;obtain ⟨bm,ob,b1,b2,b3,b4,b5⟩:=B;have CH:CodeHd s.heap c P:=codeHd_of_K I.kIn C;obtain ⟨ps,hP⟩:∃ ps,H P=some (.tbl ps):=by
  rcases T with T | ⟨c',T,_⟩
  ·exact ⟨_,T⟩
  ·exact ⟨_,T⟩
 have hbP:bm≠P:=fun q=>by have z:=(I.bs bm ob b4).2;rw [q,hP] at z;cases z
 have hgP:bS≠P:=fun q=>by
  obtain ⟨o,es,ep,e,_⟩:=I.mod.glob;have z:=(I.bs _ o e).2;rw [q,hP] at z;cases z
 have hBA:s.heap.BuiltinsAt X.mg P:=⟨bm,ob,b1,b2,b3,hbP,I.bk _ _ b4,b5⟩;have fin:∀ (H1:Hp) (h1:bK) (tk:Nat) (c':ao) (ctv:ag),Inv X aP σ H1 { s with heap:=h1,toks:=tk }→Tb P H H1→LamT P pos (X.env.qual ++ "<lambda>") H1→CdK (X.env.qual ++ "<lambda>") H1 c' →
   Q (.ref h1.objs.size) { s with heap:=h1.push (kla_obj "<lambda>" (X.env.qual ++ "<lambda>") params body scope cl ((X.mg "__name__").getD .none) c' ctv),toks:=tk }:=fun H1 h1 tk c' ctv I1 t1 T1 K1=>by
  have fr:H1 h1.objs.size=none:=I1.hok.fresh (aC _);have S:Same H1 (upd H1 h1.objs.size (.frz (kla_obj "<lambda>" (X.env.qual ++ "<lambda>") params body scope cl ((X.mg "__name__").getD .none) c' ctv) (.own 0))):=fun a o e=>by rw [br (bf e fr)];exact e
  have I2:=I1.laid (t':=tk) (a:=h1.objs.size) (o:= .frz (kla_obj "<lambda>" (X.env.qual ++ "<lambda>") params body scope cl ((X.mg "__name__").getD .none) c' ctv) (.own 0)) (h':=h1.push (kla_obj "<lambda>" (X.env.qual ++ "<lambda>") params body scope cl ((X.mg "__name__").getD .none) c' ctv)) (fun b u e=>ar _ e) (aC _) ⟨aZ _ rfl,_,aZ _ rfl⟩;obtain ⟨oc,vs,t,e,r⟩:=K1;exact h _ cl _ _ I2 (t1.trans S.tb) (T1.same S) ⟨_,c',ctv,aS,oc,vs,t,S _ _ e,r⟩ c1 c2
 rcases T with T | ⟨c',T,K⟩
 ·rw [T] at hP;cases hP
  have hPh:s.heap.get? P=some (tabObj #[]):=I.hok P _ T;refine kla_makeFunction (mg:=X.mg) hclos I.ok.glob hgs mI CH hPh trivial rfl hgP hBA fun c' ctv h' tk hx hge hlt hrec htb=>?_
  have I1:=I.grown (tk:=tk) T hx htb;obtain ⟨c2',oc,vs,t,e2,hoc,hdd,hv⟩:=hrec;cases e2;have Plt:P<s.heap.objs.size:=aO hPh;have ncP:c'≠P:=dA (aR Plt hge);have frc:H c'=none:=I.hok.fresh hge;have hn1:(upd H P (.tbl (#[]++ #[rawInt pos.line,rawInt pos.col,.ref c']))) c'=none:=by rw [br ncP];exact frc
  have old:∀ b o,s.heap.get? b=some o→b≠c':=fun b o e=>bM (aR (aO e) hge)
  have I2:=I1.take (D:=c') (o:= .frz oc (.own 0)) hn1 (bo I.sz hge) (dA (aR I.lt hge)) (fun x d e=>by obtain ⟨v,o,ho,_⟩:=I.cell x d e;exact old d o ho) (fun p hp=>old _ _ (I.pin p hp).1) ⟨hoc,_,hoc⟩;refine fin _ h' tk c' ctv I2 (fun a o hn e=>?_) (.inr ⟨c',?_,oc,vs,t,aS,hdd,hv⟩) ⟨oc,vs,t,aS,hdd,hv⟩
  ·rw [br (bf e frc),br hn];exact e
  ·rw [br (bX ncP),aS];rfl
 ·rw [T] at hP;cases hP
  have hPh:s.heap.get? P=some (tabObj #[rawInt pos.line,rawInt pos.col,.ref c']):=I.hok P _ T;refine kla_makeFunctionHit (cv:= .ref c') (mg:=X.mg) hclos I.ok.glob hgs mI CH hPh trivial (codeAmong_snoc [] trivial rfl) hBA fun ctv h' tk hk hsz=>?_
  exact fin H h' tk c' ctv (I.kept hk) (Tb.refl H) (.inr ⟨c',T,K⟩) K
def cxLam (X:Cx)(q:Str)(scope:fI)(cl:List (Str×ao))(L f:ao)(cd:ag)(N:List Str)(s:au)(H:Hp):Cx :=
 { X with A:=X.A.in1.in1.deeper (envX q scope L f cd cl),N:=N,s₀:=s,H₀:=H,env:=envX q scope L f cd cl,outer:=X.stack,stack:=envX q scope L f cd cl::X.stack,ex:=[],calm:=true,fn:=fun _=>false,pn:=[],xe:=fun _ _=>False }
theorem lam_call {Q:VK}(I:Inv X aP σ H s)(hc:X.calm=true)(hr:X.A.depth<jQ)(F:LamF q params body scope cl f H)(ru:RelV v u)
  (hbind:∀ pm cdv ct,bindArgs (kla_fn "<lambda>" q params body scope cl pm cdv ct) ⟨[u],[]⟩=fP [(x,u)])
  (hk:scope.kind= .function) (hco:scope.isCoroutine=false) (hgen:scope.isGenerator=false) (iT:∀ y∈scope.names,y.2≠ .cell) (hx:scope.names.lookup x=some .local) (hfx:x ∉ fr)
  (c1:∀ x c,cl.lookup x=some c→X.env.cells.lookup x=some c) (c2:∀ y∈scope.names,y.2= .free→cl.lookup y.1=X.env.cells.lookup y.1)
  (hfr:∀ y∈scope.names,y.2= .free→X.env.scope.names.lookup y.1=some .cell) (hjs:js.map (fun j=>X.N[j]?)=fr.map some) (hfv:∀ y∈fr,scope.names.lookup y=some .free)
  (hb:∀ L cd s' H',PE (cxLam X q scope cl L f cd (x::fr) s' H') body te) (ht:te (some v::dO σ js) H Q) :
  aW (bz X.prog X.w) X.A.in1.in1 (call (.ref f) [u]) (EP X aP σ Q) (fun _ _=>False) s:=by
 obtain ⟨pm,cd,ct,e,oc,vs,t,ec,hdc,hvc⟩:=F;have ho:s.heap.get? f=some (kla_obj "<lambda>" q params body scope cl pm cd ct):=(I.hok f _ e).1;have hoc:s.heap.get? cd=some oc:=(I.hok cd _ ec).1;refine wpAny_call (kla_callFunE hr ho rfl hco hgen rfl ⟨cd,oc,vs,t,rfl,hoc,hdc,hvc⟩ ?_);rw [hbind];refine aL (wpAny_newFunctionEnv iT (fun y hy=>?_) (fun h₁ hns hsb=>⟨I.nolimit.fresh _ hsb,?_⟩) hk)
 ·rw [ax.mp hy];exact hx
 show jo _ _ (.expr body (envX q scope s.heap.objs.size f (.ref cd) cl)) _ _;have old:∀ b o,s.heap.get? b=some o→h₁.get? b=some o:=fun b o e=>hsb.extBut b o (bM (aO e)) (ar _ e)
 refine kla_codeExpr ?_;have ok':(cxLam X q scope cl s.heap.objs.size f (.ref cd) (x::fr) s H).Ok:=by
  refine ⟨I.ok.mod,hk,rfl,rfl,aC _,fun a b c e1 e2=>I.ok.inj a b c (c1 a c e1) (c1 b c e2),fun y hy=>?_,fun _ _ z=>rd z (by intro q;cases q),fun _=>I.ok.hd hc,bW.frames_deeper I.ok.frames,.inr ⟨rfl,rfl⟩,fun b hb=>rd (show b∈([]:List ao) from hb) (by simp),I.bs,bo I.ok.bsz I.sz,fun b o e hb=>rd (show b∈([]:List ao) from hb) (by simp),fun b hb=>rd (show b∈([]:List ao) from hb) (by simp),I.stack,I.stkFree⟩;have hy:scope.names.lookup y=some .cell∨scope.names.lookup y=some .free:=hy
  rcases hy with hy | hy
  ·exact rd rfl (iT _ (cz hy))
  ·have hm:=cz hy
   obtain ⟨c,e⟩:=I.ok.has y (.inl (hfr _ hm rfl));exact ⟨c,(c2 _ hm rfl).trans e⟩
 have lenB:(dO σ js).length=fr.length:=by
  have e:=rm List.length hjs;rw [aa,aa] at e;unfold dO;rw [aa];exact e
 have I1:Inv (cxLam X q scope cl s.heap.objs.size f (.ref cd) (x::fr) s H) [] (some v::dO σ js) H { s with heap:=h₁,toks:=s.toks+1 }:=by
  refine ⟨ok',rfl,I.bare,Un.kept old,⟨_,hns,fun i y v' e1 e2 e3=>?_⟩,fun y c e=>?_,I.hok.fresh (aC _),fun y c e=>I.freeC y c (c1 y c e),fun p hp=>rd (show p∈([]:List (ao×Obj)) from hp) (by simp),I.hok.kept old,?_⟩
  ·cases i with
   | zero =>
    have e1:some x=some y:=e1;have e2:some (some v)=some (some v'):=e2;cases e1;cases e2;exact ⟨u,ru,.inl ⟨hx,by show e8 x [(x,u)]=_;rw [dU,beq_self_eq_true]⟩⟩
   | succ i =>
    have e1:fr[i]? =some y:=e1;have e2:(dO σ js)[i]? =some (some v'):=e2;unfold dO at e2;rw [az] at e2;obtain ⟨j,ej,e2⟩:=bI.mp e2;have hN:X.N[j]? =some y:=by
     have q:=rm (fun l=>l[i]?) hjs;simp only [az,ej,e1,gu] at q;exact cE q
    have hσ:σ[j]? =some (some v'):=by
     cases z:σ[j]? with
     | none=>rw [z] at e2;cases e2
     | some w=>rw [z] at e2;exact rm some e2
    have hfree:=hfv y (bt e1);have hm:=cz hfree;have hce:X.env.scope.names.lookup y=some .cell:=hfr _ hm rfl;obtain ⟨m,_,hl⟩:=I.loc;obtain ⟨u',ru',look⟩:=hl j y v' hN hσ (.inr (.inl hce));refine ⟨u',ru',.inr ⟨.inr hfree,?_⟩⟩
    rcases look with ⟨k,_⟩ | ⟨_,c,ec,ho⟩
    ·have k:X.env.scope.names.lookup y=some .local:=k
     rw [hce] at k;cases k
    ·obtain ⟨o,ho,hd⟩:=ho
     exact ⟨c,(c2 _ hm rfl).trans ec,o,old c o ho,hd⟩
  ·obtain ⟨v',o,ho,hd⟩:=I.cell y c (c1 y c e)
   exact ⟨v',o,old c o ho,hd⟩
  ·show (some v::dO σ js).length=(x::fr).length
   rw [aX,aX,lenB]
 refine cy (hb _ _ s H [] _ _ H Q I1 ht) (fun w s' hs=>?_) fun _ _ z=>z.elim
 obtain ⟨v',H',J,rv,qv⟩:=hs;exact I.after ⟨v',H',J.os,J.bare,J.base,J.hok,rv,qv⟩
end
def SortQ (P:ao)(lp:Pos)(lq:Str)(js:List Nat)(te:TE)(σ:St)(Q:VK)(v:V)(H1:Hp):Prop:=∃ (r:ao) (n:Nat) (key:Nat→Int×Int),v= .ref r∧H1 r=some (.rng 0 n)∧n<64∧LamT P lp lq H1∧((aQ n).map key).Nodup ∧
 (∀ i:Nat,i<n→∀ H2,Tb P H1 H2→te (some (.int i)::dO σ js) H2 fun u H3=>Same H2 H3∧∃ a,u= .ref a∧H3 a=some (.tup [.int (key i).1,.int (key i).2])) ∧
 ∀ (D:ao) (H4:Hp) (π:List Nat),Tb P H1 H4→LamT P lp lq H4→H4 D=none→π.Perm (aQ n)→π.Pairwise (fun i j=>ltP (key i) (key j)=true)→Q (.ref D) (upd H4 D (.lst (π.map fun (i:Nat)=>V.int i)))
def tSortL (P:ao)(lp:Pos)(lq:Str)(tr:TE)(js:List Nat)(te:TE):TE:=fun σ H Q=>tr σ H fun v H1=>SortQ P lp lq js te σ Q v H1
def SortQ1 (P:ao)(lp:Pos)(lq:Str)(js:List Nat)(te:TE)(σ:St)(Q:VK):List V→Hp→Prop
 | [v],H1=>SortQ P lp lq js te σ Q v H1
 | _,_=>False
theorem rng_size0:eO 0 (n:Int) 1=n:=by
 unfold eO;rw [q9 (by decide)]
 by_cases h0:(0:Int)<n
 ·rw [q9 h0,Int.ediv_one];lia
 ·rw [qZ h0];lia
theorem rng_small0 (h:n<64):iq 0 (n:Int) 1=true:=by unfold iq;rw [rng_size0];unfold fY.Range.rangeFitsLong;simp;lia
theorem pe_sortL {tr:TE}{p kp:Pos}{c P:ao}(hc:X.calm=true)(hrm:X.A.depth<jQ)(hg:Gl X "sorted")(hm:X.mg "sorted" =none)(hi:PE X re tr)
  (hd:defaultsOf params X.env=([],[])) (mI:X.env.code= .ref c) (C:codeHdIn X.K c P=true) (B:BM X.mg X.base)
  (hbind:∀ q cl pm cdv ct (u:ag),bindArgs (kla_fn "<lambda>" q params body scope cl pm cdv ct) ⟨[u],[]⟩=fP [(x,u)])
  (hk:scope.kind= .function) (hco:scope.isCoroutine=false) (hgen:scope.isGenerator=false) (iT:∀ y∈scope.names,y.2≠ .cell) (hx:scope.names.lookup x=some .local) (hfx:x ∉ fr)
  (hfr:∀ y∈scope.names,y.2= .free→X.env.scope.names.lookup y.1=some .cell) (hjs:js.map (fun j=>X.N[j]?)=fr.map some) (hfv:∀ y∈fr,scope.names.lookup y=some .free)
  (hb:∀ cl L f cd s' H',PE (cxLam X (X.env.qual ++ "<lambda>") scope cl L f cd (x::fr) s' H') body te)
  (he:gz pos (bD [re] X.env)=(false,eV re X.env)::gz pos (bD [] X.env):=by rfl)
  (hs:bD [re] X.env=(false,eV re X.env)::bD [] X.env:=by rfl) (hpl:(gz pos (bD [re] X.env)).any (·.1)=false:=by rfl) :
  PE X (.Call (.Name "sorted" p) [re] [⟨some "key",.Lambda params body scope lp,kp⟩] pos) (tSortL P lp (X.env.qual ++ "<lambda>") tr js te):=by
 intro aP s σ H Q I h;refine fc (lV I hg hm (u:= .builtin "sorted") (by trivial) ?_);refine callWith_kw (kws:=[⟨some "key",.Lambda params body scope lp,kp⟩]) (thn ((ae hi aB hs) pos aP s σ H (SortQ1 P lp (X.env.qual ++ "<lambda>") js te σ Q) I h) fun us s1 ⟨vs,H1,I1,r1,q0⟩=>?_) he hpl;refine kws_cons ?_;obtain ⟨v,rfl⟩:∃ v,vs=[v]:=by
  cases vs with
  | nil=>exact q0.elim
  | cons v r=>cases r with
   | nil=>exact ⟨v,rfl⟩
   | cons _ _=>exact q0.elim
 have q1:SortQ P lp (X.env.qual ++ "<lambda>") js te σ Q v H1:=q0;obtain ⟨r,n,key,rfl,hr,h64,T,hnd,hkey,hQ⟩:=q1;obtain rfl:us=[.ref r]:=by
  cases r1 with
  | cons ru rs =>
   cases rs;exact rm (fun z=>[z]) ru
 refine lam_make (body:=body) I1 hd mI C B hfr T fun f cl H2 s2 I2 tb T2 F2 c1 c2=>?_
 refine kws_nil ?_;show aW _ _ (call (.builtin "sorted") [.ref r] [(cZ "key",.ref f)]) _ _ _;have rP:r≠P:=fun z=>by
  rcases T with T | ⟨_,T,_⟩ <;> rw [←z,hr] at T <;> cases T
 obtain ⟨t1,t2,t3,e3⟩:=I2.hok r _ (tb r _ rP hr);have hr3:IsRange s2.heap r 0 n 1 t1 t2 t3:=by first | exact e3 | exact ⟨_,e3,rfl,rfl⟩
 refine sorted_keyR (I2.ok.hd hc) hr3 (rng_small0 h64) rng_size0 h64 fun ws h1 tk D kS e1 hl hw hkeep hD hDk gD gK=>?_
 have I3:Inv X aP σ H2 { s2 with heap:=h1,toks:=tk }:=I2.kept hkeep;have old:∀ b o,s2.heap.get? b=some o→b≠D∧b≠kS:=fun b o e=>⟨bM (aR (aO e) hD),bM (jG (aR (aO e) hD) hDk)⟩
 have hDs:=aO gD;have hKs:=aO gK;have frD:H2 D=none:=I2.hok.fresh hD;have frK:H2 kS=none:=I2.hok.fresh (iW (bY hD hDk));have cc:∀ y d,X.env.cells.lookup y=some d→d≠D∧d≠kS:=fun y d e=>by obtain ⟨v,o,ho,_⟩:=I2.cell y d e;exact old d o ho
 have pp:∀ z∈X.pn++aP,z.1≠D∧z.1≠kS:=fun z hz=>old _ _ (I2.pin z hz).1
 have nl:s2.heap.objs.size≤kS:=iW (bY hD hDk);have I4:Inv X ((kS,bR "list" #[] 0)::(D,bR "list" #[] e1)::aP) σ H2 { s2 with heap:=h1,toks:=tk }:=I3.pins_of fun z hz=>by
  rcases aG.mp hz with rfl | hz
  ·exact ⟨gK,frK,dA (aR I2.lt nl),I2.nofs nl,fun v z=>by cases z⟩
  ·rcases aG.mp hz with rfl | hz
   ·exact ⟨gD,frD,dA (aR I2.lt hD),I2.nofs hD,fun v z=>by cases z⟩
   ·exact I3.pin z (aA _ hz)
 refine keyDo_of (num:=fun i=>(i:Int)) (key:=key) I4 hl h64 (fun i x e=>by obtain ⟨t,q⟩:=hw i x e;exact ⟨t,by rw [q];congr 1;lia⟩) (bo I2.sz nl) (bo I2.sz hD) (fun y d e=>(cc y d e).2) (fun y d e=>(cc y d e).1) (fun z hz=>(pp z hz).2) (fun z hz=>(pp z hz).1) (dA hDk) hnd ?_ ?_
 ·intro t H' pins' i tk hi' I' S'
  refine cy (lam_call (v:= .int i) I' hc hrm (F2.same S') ⟨_,rfl⟩ (fun pm cdv ct=>hbind _ _ _ _ _ _) hk hco hgen iT hx hfx c1 c2 hfr hjs hfv (fun L cd s' H'=>hb cl L f cd s' H') (hkey i hi' H' (tb.trans S'.tb))) (fun k t' ⟨v,H'',I'',rv,S'',a,ev,ea⟩=>?_) fun _ _ z=>z
  subst ev;obtain rfl:k= .ref a:=rv;exact ⟨a,H'',I'',S'',rfl,ea⟩
 ·intro t H' π S' hD' I' pm pw
  exact ⟨.ref D,_,I',rfl,hQ D H' π (tb.trans S'.tb) (T2.same S') hD' pm pw⟩
end L2
namespace HN
open PySem L2 PyProof.Rows
def z0:Sn:=⟨0,0,0,0,0⟩
def sAt (sp:List Sn)(i:Nat):Sn:=sp.getD i z0
theorem jh (h:i<sp.length):sp[i]? =some (sAt sp i):=by
 unfold sAt;rw [ai,gE h];rfl
theorem eQ (h:i<sp.length):sAt sp i∈sp:=bt (jh h)
def wkey (sp:List Sn)(i:Nat):Int×Int:=((sAt sp i).o - (sAt sp i).l,(i:Int))
def Ordd (sp:List Sn)(π:List Nat):Prop:=π.Perm (aQ sp.length)∧π.Pairwise fun i j=>ltP (wkey sp i) (wkey sp j)=true
theorem wkey_nodup (sp:List Sn)(n:Nat):((aQ n).map (wkey sp)).Nodup:=by
 rw [bV,fk];refine List.Pairwise.imp (fun {a b} h e=>h ?_) iN;have:=rm Prod.snd e;exact Int.ofNat.inj this
theorem ltP_asym {x y:Int×Int}(h:ltP x y=true)(k:ltP y x=true):False:=by
 rw [ltP_iff] at h k;lia
theorem perm_eq {α:Type}{R:α→α→Prop}(as:∀ a b,R a b→R b a→a=b):∀ {l k:List α},l.Perm k→l.Pairwise R→k.Pairwise R→l=k
 | [],k,p,_,_=>(List.nil_perm.mp p).symm
 | a::l,k,p,hl,hk=>by
  cases k with
  | nil=>exact rd p.symm (by intro z;have:=List.nil_perm.mp z;cases this)
  | cons b k =>
   have ab:a=b:=by
    have ha:a∈b::k:=p.mem_iff.mp bB;have hb:b∈a::l:=p.mem_iff.mpr bB
    rcases aG.mp ha with e | ha
    ·exact e
    ·rcases aG.mp hb with e | hb
     ·exact e.symm
     ·exact as a b (List.rel_of_pairwise_cons hl hb) (List.rel_of_pairwise_cons hk ha)
   subst ab;rw [perm_eq as p.cons_inv (List.pairwise_cons.mp hl).2 (List.pairwise_cons.mp hk).2]
theorem Ordd.one {ρ:List Nat}(a:Ordd sp π)(b:Ordd sp ρ):π=ρ :=
 perm_eq (fun _ _ h k=>(ltP_asym h k).elim) (a.1.trans b.1.symm) a.2 b.2
theorem Ordd.lt (a:Ordd sp π)(h:i∈π):i<sp.length:=bT.mp (a.1.mem_iff.mp h)
theorem Ordd.len (a:Ordd sp π):π.length=sp.length:=by rw [a.1.length_eq,bx]
def i4 (gs:List Int)(x y:Int):List Int:=gs.map fun g=>if g=y then x else g
def gi (sp:List Sn)(c:List Int×List Nat)(i:Nat):List Int×List Nat :=
 if tm c.1 (sAt sp i).s=tm c.1 (sAt sp i).g then c else (i4 c.1 (tm c.1 (sAt sp i).s) (tm c.1 (sAt sp i).g),c.2++[i])
def kt (m:Nat):List Int:=(aQ m).map fun (k:Nat)=>(k:Int)
def kG (sp:List Sn)(m:Nat)(π:List Nat):List Int×List Nat:=π.foldl (gi sp) (kt m,[])
def eZ (ps:List (List Int))(x:Int):List Int:=(ps.filter fun p=>decide (x∈p)).headD []
def stepQ (sp:List Sn)(c:List (List Int)×List Nat)(i:Nat):List (List Int)×List Nat :=
 if eZ c.1 (sAt sp i).s=eZ c.1 (sAt sp i).g then c
 else (c.1.filter (fun p=> !(decide (p=eZ c.1 (sAt sp i).s)) && !(decide (p=eZ c.1 (sAt sp i).g)))++[eZ c.1 (sAt sp i).s++eZ c.1 (sAt sp i).g],c.2++[i])
def prt0 (m:Nat):List (List Int):=(aQ m).map fun (k:Nat)=>[(k:Int)]
structure Rl (m:Nat)(gs:List Int)(ps:List (List Int)):Prop where
 len:gs.length=m
 cov:∀ x:Int,0≤x→x<m→∃ p∈ps,x∈p
 one:∀ p∈ps,∀ q∈ps,∀ x,x∈p→x∈q→p=q
 eqv:∀ x y:Int,0≤x→x<m→0≤y→y<m→(tm gs x=tm gs y↔∃ p∈ps,x∈p∧y∈p)
theorem Rl.part {ps:List (List Int)}(R:Rl m gs ps){x:Int}(h0:0≤x)(h1:x<m):eZ ps x∈ps∧x∈eZ ps x:=by
 obtain ⟨p,hp,hx⟩:=R.cov x h0 h1;unfold eZ;have hm:p∈ps.filter fun p=>decide (x∈p):=cA.mpr ⟨hp,rf hx⟩
 cases e:ps.filter fun p=>decide (x∈p) with
 | nil=>rw [e] at hm;cases hm
 | cons q r =>
  have hq:q∈ps.filter fun p=>decide (x∈p):=by rw [e];exact bB
  obtain ⟨a,b⟩:=cA.mp hq;exact ⟨a,rj b⟩
theorem Rl.is {ps:List (List Int)}(R:Rl m gs ps){x y:Int}(h0:0≤x)(h1:x<m)(k0:0≤y)(k1:y<m):tm gs x=tm gs y↔x∈eZ ps y:=by
 obtain ⟨p1,p2⟩:=R.part k0 k1;refine (R.eqv x y h0 h1 k0 k1).trans ⟨fun ⟨p,hp,hx,hy⟩=>?_,fun h=>⟨_,p1,h,p2⟩⟩;rw [←R.one p hp _ p1 y hy p2];exact hx
theorem Rl.same {ps:List (List Int)}(R:Rl m gs ps){x y:Int}(h0:0≤x)(h1:x<m)(k0:0≤y)(k1:y<m):tm gs x=tm gs y↔eZ ps x=eZ ps y:=by
 refine (R.is h0 h1 k0 k1).trans ⟨fun h=>?_,fun h=>?_⟩
 ·exact R.one _ (R.part h0 h1).1 _ (R.part k0 k1).1 x (R.part h0 h1).2 h
 ·rw [←h];exact (R.part h0 h1).2
theorem kU {u v x:Int}(h0:0≤x)(h1:x<gs.length):tm (i4 gs u v) x=if tm gs x=v then u else tm gs x:=by
 obtain ⟨j,rfl⟩:=cJ h0;have hj:j<gs.length:=by lia
 unfold tm i4;simp only [cQ,ai,az,gE hj,gu,Option.getD_some]
theorem Rl.join {ps:List (List Int)}(R:Rl m gs ps){a:Int}(a0:0≤a)(a1:a<m)(b0:0≤b)(b1:b<m) :
  Rl m (i4 gs (tm gs a) (tm gs b)) (ps.filter (fun p=> !(decide (p=eZ ps a)) && !(decide (p=eZ ps b)))++[eZ ps a++eZ ps b]):=by
 obtain ⟨pa,ha⟩:=R.part a0 a1;obtain ⟨pb,hb⟩:=R.part b0 b1;have mem:∀ p,p∈ps.filter (fun p=> !(decide (p=eZ ps a)) && !(decide (p=eZ ps b)))++[eZ ps a++eZ ps b]↔(p∈ps∧p≠eZ ps a∧p≠eZ ps b)∨p=eZ ps a++eZ ps b:=fun p=>by
  rw [aN,cA,ax];simp only [dX,gH,decide_eq_false_iff_not,ne_eq]
 have uni:∀ p∈ps,p≠eZ ps a→p≠eZ ps b→∀ x,x∈p→x ∉ eZ ps a++eZ ps b:=fun p hp n1 n2 x hx hz=>by
  rcases aN.mp hz with hz | hz
  ·exact n1 (R.one p hp _ pa x hx hz)
  ·exact n2 (R.one p hp _ pb x hx hz)
 refine ⟨by unfold i4;rw [aa];exact R.len,fun x h0 h1=>?_,fun p hp q hq x hx hy=>?_,fun x y h0 h1 k0 k1=>?_⟩
 ·obtain ⟨p,hp,hx⟩:=R.cov x h0 h1
  by_cases e1:p=eZ ps a
  ·exact ⟨_,(mem _).mpr (.inr rfl),aM _ (e1 ▸ hx)⟩
  ·by_cases e2:p=eZ ps b
   ·exact ⟨_,(mem _).mpr (.inr rfl),aA _ (e2 ▸ hx)⟩
   ·exact ⟨p,(mem p).mpr (.inl ⟨hp,e1,e2⟩),hx⟩
 ·rcases (mem p).mp hp with ⟨p1,p2,p3⟩ | rfl
  ·rcases (mem q).mp hq with ⟨q1,q2,q3⟩ | rfl
   ·exact R.one p p1 q q1 x hx hy
   ·exact rd hy (uni p p1 p2 p3 x hx)
  ·rcases (mem q).mp hq with ⟨q1,q2,q3⟩ | rfl
   ·exact rd hx (uni q q1 q2 q3 x hy)
   ·rfl
 ·rw [kU h0 (by rw [R.len];exact h1),kU k0 (by rw [R.len];exact k1)]
  have xa:=R.is h0 h1 a0 a1;have xb:=R.is h0 h1 b0 b1;have ya:=R.is k0 k1 a0 a1;have yb:=R.is k0 k1 b0 b1;have xy:=R.eqv x y h0 h1 k0 k1
  constructor
  ·intro h
   by_cases e:tm gs x=tm gs y
   ·obtain ⟨p,hp,hx,hy⟩:=xy.mp e
    by_cases e1:p=eZ ps a
    ·exact ⟨_,(mem _).mpr (.inr rfl),aM _ (e1 ▸ hx),aM _ (e1 ▸ hy)⟩
    ·by_cases e2:p=eZ ps b
     ·exact ⟨_,(mem _).mpr (.inr rfl),aA _ (e2 ▸ hx),aA _ (e2 ▸ hy)⟩
     ·exact ⟨p,(mem p).mpr (.inl ⟨hp,e1,e2⟩),hx,hy⟩
   ·refine ⟨_,(mem _).mpr (.inr rfl),?_,?_⟩
    ·by_cases e1:tm gs x=tm gs b
     ·exact aA _ (xb.mp e1)
     ·rw [qZ e1] at h
      by_cases e2:tm gs y=tm gs b
      ·rw [q9 e2] at h;exact aM _ (xa.mp h)
      ·rw [qZ e2] at h;exact rd h e
    ·by_cases e1:tm gs y=tm gs b
     ·exact aA _ (yb.mp e1)
     ·rw [qZ e1] at h
      by_cases e2:tm gs x=tm gs b
      ·rw [q9 e2] at h;exact aM _ (ya.mp h.symm)
      ·rw [qZ e2] at h;exact rd h e
  ·rintro ⟨p,hp,hx,hy⟩
   rcases (mem p).mp hp with ⟨p1,p2,p3⟩ | rfl
   ·rw [xy.mpr ⟨p,p1,hx,hy⟩]
   ·have fx:∀ z:Int,(z∈eZ ps a→tm gs z=tm gs a)→(z∈eZ ps b→tm gs z=tm gs b)→z∈eZ ps a++eZ ps b→(if tm gs z=tm gs b then tm gs a else tm gs z)=tm gs a:=fun z f1 f2 hz=>by
     by_cases e:tm gs z=tm gs b
     ·rw [q9 e]
     ·rw [qZ e]
      rcases aN.mp hz with hz | hz
      ·exact f1 hz
      ·exact rd (f2 hz) e
    rw [fx x xa.mpr xb.mpr hx,fx y ya.mpr yb.mpr hy]
theorem nS {x:Int}(h0:0≤x)(h1:x<m):tm (kt m) x=x:=by
 obtain ⟨j,rfl⟩:=cJ h0;unfold tm kt;rw [cQ,ai,az,gX (by lia)];rfl
theorem Rl.start (m:Nat):Rl m (kt m) (prt0 m):=by
 have mem:∀ p,p∈prt0 m↔∃ k:Nat,k<m∧p=[(k:Int)]:=fun p=>by
  unfold prt0;rw [bh];exact ⟨fun ⟨k,a,b⟩=>⟨k,bT.mp a,b.symm⟩,fun ⟨k,a,b⟩=>⟨k,bT.mpr a,b.symm⟩⟩
 refine ⟨by unfold kt;rw [aa,bx],fun x h0 h1=>⟨[x],(mem _).mpr ⟨x.toNat,by lia,by rw [g6 h0]⟩,ax.mpr rfl⟩,fun p hp q hq x hx hy=>?_,fun x y h0 h1 k0 k1=>?_⟩
 ·obtain ⟨k,_,rfl⟩:=(mem p).mp hp
  obtain ⟨j,_,rfl⟩:=(mem q).mp hq;rw [←ax.mp hx,←ax.mp hy]
 ·rw [nS h0 h1,nS k0 k1]
  refine ⟨fun e=>⟨[x],(mem _).mpr ⟨x.toNat,by lia,by rw [g6 h0]⟩,ax.mpr rfl,by rw [e];exact ax.mpr rfl⟩,fun ⟨p,hp,hx,hy⟩=>?_⟩;obtain ⟨k,_,rfl⟩:=(mem p).mp hp;rw [ax.mp hx,ax.mp hy]
def Ends (m:Nat)(sp:List Sn):Prop:=∀ x∈sp,0≤x.s∧x.s<m∧0≤x.g∧x.g<m
theorem qd {m:Nat}{sp:List Sn}(E:Ends m sp):∀ (π:List Nat) (gs:List Int) (ps:List (List Int)) (tk:List Nat),(∀ i∈π,i<sp.length)→Rl m gs ps→Rl m (π.foldl (gi sp) (gs,tk)).1 (π.foldl (stepQ sp) (ps,tk)).1∧(π.foldl (gi sp) (gs,tk)).2=(π.foldl (stepQ sp) (ps,tk)).2
 | [],gs,ps,tk,_,R=>⟨R,rfl⟩
 | i::π,gs,ps,tk,h,R=>by
  obtain ⟨a0,a1,b0,b1⟩:=E _ (eQ (h i bB));have hs:=R.same a0 a1 b0 b1;rw [bQ,bQ];unfold gi stepQ
  by_cases e:tm gs (sAt sp i).s=tm gs (sAt sp i).g
  ·rw [q9 (show tm (gs,tk).1 _=tm (gs,tk).1 _ from e),q9 (show eZ (ps,tk).1 _=eZ (ps,tk).1 _ from hs.mp e)]
   exact qd E π gs ps tk (fun j hj=>h j (aw _ hj)) R
  ·rw [qZ (show ¬ tm (gs,tk).1 _=tm (gs,tk).1 _ from e),qZ (show ¬ eZ (ps,tk).1 _=eZ (ps,tk).1 _ from fun z=>e (hs.mpr z))]
   exact qd E π _ _ _ (fun j hj=>h j (aw _ hj)) (R.join a0 a1 b0 b1)
theorem ku (sp:List Sn):∀ (π:List Nat) (c:List Int×List Nat),(∀ i∈(π.foldl (gi sp) c).2,i∈c.2∨i∈π)∧(π.foldl (gi sp) c).2.length≤c.2.length+π.length
 | [],c=>⟨fun i h=> .inl h,aC _⟩
 | j::π,c=>by
  obtain ⟨a,b⟩:=ku sp π (gi sp c j);rw [bQ];have key:(∀ i∈(gi sp c j).2,i∈c.2∨i=j)∧(gi sp c j).2.length≤c.2.length+1:=by
   unfold gi;split
   ·exact ⟨fun i h=> .inl h,by lia⟩
   ·refine ⟨fun i h=>?_,by rw [av];exact aC _⟩
    rcases aN.mp h with h | h
    ·exact .inl h
    ·exact .inr (ax.mp h)
  refine ⟨fun i hi=>?_,by rw [aX];lia⟩
  rcases a i hi with h | h
  ·rcases key.1 i h with h | h
   ·exact .inl h
   ·exact .inr (h ▸ bB)
  ·exact .inr (aw _ h)
def IsFor (m:Nat)(sp:List Sn)(ns:List Int):Prop:=∃ π,Ordd sp π∧ns.Perm ((kG sp m π).2.map fun (i:Nat)=>(i:Int))∧ns.Pairwise (· ≤ ·)
theorem IsFor.one {ms:List Int}(a:IsFor m sp ns)(b:IsFor m sp ms):ns=ms:=by
 obtain ⟨π,o1,p1,w1⟩:=a;obtain ⟨ρ,o2,p2,w2⟩:=b;rw [o1.one o2] at p1;exact perm_eq (fun a b h k=>by lia) (p1.trans p2.symm) w1 w2
theorem IsFor.len (a:IsFor m sp ns):ns.length≤sp.length:=by
 obtain ⟨π,o,p,_⟩:=a;rw [p.length_eq,aa];have:=(ku sp π (kt m,[])).2;have h2:=o.len;have h3:((kt m,([]:List Nat)).2).length=0:=rfl;unfold kG;lia
theorem NetT.ends {m:Int}(N:NetT b m sp):Ends m.toNat sp:=fun x hx=>by
 obtain ⟨s0,s1,g0,g1,_⟩:=N.all x hx;lia
theorem Tb.tupK {T:ao}(hT:∃ ps,H T=some (.tbl ps))(e:L2.Tb T H H'):TupK H H':=fun q xs h=>e q _ (by obtain ⟨ps,hT⟩:=hT;exact fH h hT nofun) h
theorem LamT.tbl {T:ao}(h:L2.LamT T lp lq H):∃ ps,H T=some (.tbl ps):=by
 rcases h with h | ⟨c,h,_⟩
 ·exact ⟨_,h⟩
 ·exact ⟨_,h⟩
theorem LamT.upd {T:ao}(h:L2.LamT T lp lq H)(ha:∀ p u,H a=some (.frz p u)→False)(hb:∀ ps,H a=some (.tbl ps)→False):L2.LamT T lp lq (upd H a o):=by
 rcases h with h | ⟨c,h,oc,vs,t,e,r⟩
 ·exact .inl (by rw [br (fun z=>hb _ (z ▸ h))];exact h)
 ·exact .inr ⟨c,by rw [br (fun z=>hb _ (z ▸ h))];exact h,oc,vs,t,by rw [br (fun z=>ha _ _ (z ▸ e))];exact e,r⟩
inductive spSpW (T:ao)(lp:Pos)(lq:Str)(vs:List V)(H:Hp)(Q:VK)(_:XK):Prop
 | mk (v b m sp:_)(_:vs=[v])(_:IsD H v (ka b m sp))(_:sp.length≤40)(_:L2.LamT T lp lq H)(_:∀ D H' π,L2.Tb T H H'→L2.LamT T lp lq H'→H' D=none→Ordd sp π→Q (.ref D) (L2.upd H' D (.lst (π.map fun (i:Nat)=>V.int i))))
inductive kW (T:ao)(lp:Pos)(lq:Str)(vs:List V)(H:Hp)(Q:VK)(_:XK):Prop
 | mk (v b m sp:_)(_:vs=[v])(_:IsD H v (ka b m sp))(_:NetT b m sp)(_:L2.LamT T lp lq H)(_:∀ u H' ns,L2.Tb T H H'→L2.LamT T lp lq H'→H' u=some (.tup (ns.map V.int))→IsFor m.toNat sp ns→Q (.ref u) H')
def Finer (m:Nat)(gs hs:List Int):Prop:=∀ x y:Int,0≤x→x<m→0≤y→y<m→tm gs x=tm gs y→tm hs x=tm hs y
theorem Finer.refl (m:Nat)(gs:List Int):Finer m gs gs:=fun _ _ _ _ _ _ h=>h
theorem lX (gs:List Int)(u v:Int):(i4 gs u v).length=gs.length:=by unfold i4;rw [aa]
theorem Finer.wide {u v:Int}(F:Finer m gs hs)(l2:hs.length=m):Finer m gs (i4 hs u v):=by
 intro x y x0 x1 y0 y1 h;rw [kU x0 (by lia),kU y0 (by lia),F x y x0 x1 y0 y1 h]
theorem join_meets {a:Int}(l1:gs.length=m)(a0:0≤a)(a1:a<m)(b0:0≤b)(b1:b<m):tm (i4 gs (tm gs a) (tm gs b)) a=tm (i4 gs (tm gs a) (tm gs b)) b:=by
 rw [kU a0 (by lia),kU b0 (by lia),q9 rfl]
 by_cases e:tm gs a=tm gs b
 ·rw [q9 e]
 ·rw [qZ e]
theorem jj (sp:List Sn)(gs:List Int)(tk:List Nat)(i:Nat):(tm gs (sAt sp i).s=tm gs (sAt sp i).g∧gi sp (gs,tk) i=(gs,tk))∨(tm gs (sAt sp i).s≠tm gs (sAt sp i).g∧gi sp (gs,tk) i=(i4 gs (tm gs (sAt sp i).s) (tm gs (sAt sp i).g),tk++[i])):=by
 unfold gi
 by_cases e:tm gs (sAt sp i).s=tm gs (sAt sp i).g
 ·exact .inl ⟨e,q9 e⟩
 ·exact .inr ⟨e,qZ e⟩
theorem nL {m:Nat}{sp:List Sn}:∀ (π:List Nat) (gs hs:List Int) (tk:List Nat),hs.length=m→Finer m gs hs→Finer m gs (π.foldl (gi sp) (hs,tk)).1
 | [],_,_,_,_,F=>F
 | i::π,gs,hs,tk,l,F=>by
  rw [bQ]
  rcases jj sp hs tk i with ⟨_,e⟩ | ⟨_,e⟩ <;> rw [e]
  ·exact nL π gs hs tk l F
  ·exact nL π gs _ _ (by rw [lX];exact l) (F.wide l)
theorem kE {m:Nat}{sp:List Sn}(E:Ends m sp):∀ (π:List Nat) (gs:List Int) (tk:List Nat),gs.length=m→(∀ i∈π,i<sp.length)→∀ i∈π,tm (π.foldl (gi sp) (gs,tk)).1 (sAt sp i).s=tm (π.foldl (gi sp) (gs,tk)).1 (sAt sp i).g
 | [],_,_,_,_,i,h=>by cases h
 | j::π,gs,tk,l,hp,i,h=>by
  rw [bQ];obtain ⟨a0,a1,b0,b1⟩:=E _ (eQ (hp j bB));have hp':∀ i∈π,i<sp.length:=fun k hk=>hp k (aw _ hk)
  rcases jj sp gs tk j with ⟨q,e⟩ | ⟨_,e⟩ <;> rw [e]
  ·rcases aG.mp h with rfl | h
   ·exact nL π gs gs tk l (Finer.refl m gs) _ _ a0 a1 b0 b1 q
   ·exact kE E π gs tk l hp' i h
  ·have l':(i4 gs (tm gs (sAt sp j).s) (tm gs (sAt sp j).g)).length=m:=by rw [lX];exact l
   rcases aG.mp h with rfl | h
   ·exact nL π _ _ _ l' (Finer.refl m _) _ _ a0 a1 b0 b1 (join_meets l a0 a1 b0 b1)
   ·exact kE E π _ _ l' hp' i h
theorem qA {x:Int}(h0:0≤x)(h1:x<gs.length):tm gs x∈gs:=by
 obtain ⟨j,rfl⟩:=cJ h0;unfold tm;rw [cQ,ai,gE (by lia)];exact bH _
def Cnt (m:Nat)(gs:List Int)(k:Nat):Prop:=∃ D:List Int,D.Nodup∧(∀ v,v∈D↔v∈gs)∧D.length+k=m
theorem Cnt.join {k:Nat}(C:Cnt m gs k){u v:Int}(hu:u∈gs)(hv:v∈gs)(n:u≠v):Cnt m (i4 gs u v) (k+1):=by
 obtain ⟨D,nd,mem,l⟩:=C;have hvD:=(mem v).mpr hv;refine ⟨D.erase v,nd.erase v,fun z=>?_,by rw [List.length_erase_of_mem hvD];have:=List.length_pos_of_mem hvD;lia⟩;rw [nd.mem_erase_iff,mem];unfold i4;rw [bh]
 constructor
 ·rintro ⟨h1,h2⟩
  exact ⟨z,h2,qZ h1⟩
 ·rintro ⟨w,hw,rfl⟩
  by_cases e:w=v
  ·rw [q9 e];exact ⟨n,hu⟩
  ·rw [qZ e];exact ⟨e,hw⟩
theorem gone_cnt {m:Nat}{sp:List Sn}(E:Ends m sp):∀ (π:List Nat) (gs:List Int) (tk:List Nat),gs.length=m→(∀ i∈π,i<sp.length)→Cnt m gs tk.length→Cnt m (π.foldl (gi sp) (gs,tk)).1 (π.foldl (gi sp) (gs,tk)).2.length
 | [],_,_,_,_,C=>C
 | j::π,gs,tk,l,hp,C=>by
  rw [bQ];obtain ⟨a0,a1,b0,b1⟩:=E _ (eQ (hp j bB));have hp':∀ i∈π,i<sp.length:=fun k hk=>hp k (aw _ hk)
  rcases jj sp gs tk j with ⟨_,e⟩ | ⟨n,e⟩ <;> rw [e]
  ·exact gone_cnt E π gs tk l hp' C
  ·refine gone_cnt E π _ _ (by rw [lX];exact l) hp' ?_
   rw [av];exact C.join (qA a0 (by lia)) (qA b0 (by lia)) n
theorem Cnt.start (m:Nat):Cnt m (kt m) 0:=by
 refine ⟨kt m,?_,fun _=>Iff.rfl,by unfold kt;rw [aa,bx];lia⟩;unfold kt;rw [bV,fk];exact List.Pairwise.imp (fun {a b} h e=>h (Int.ofNat.inj e)) iN
theorem mx:∀ {l k:List Int},l.Nodup→(∀ x∈l,x∈k)→l.length≤k.length
 | [],_,_,_=>bF _
 | a::l,k,nd,h=>by
  have ha:=h a bB;have ih:=mx (l:=l) (k:=k.erase a) (bJ.mp nd).2 fun x hx=>by
   have hxk:=h x (aw _ hx);have hne:x≠a:=fun z=>(bJ.mp nd).1 (z ▸ hx)
   exact (List.mem_erase_of_ne hne).mpr hxk
  rw [List.length_erase_of_mem ha] at ih;have:=List.length_pos_of_mem ha;rw [aX];lia
theorem lg (m:Nat):(kt m).length=m:=by unfold kt;rw [aa,bx]
theorem pf (sp:List Sn):∀ (π:List Nat) (gs:List Int) (tk:List Nat),∃ more,(π.foldl (gi sp) (gs,tk)).2=tk++more
 | [],gs,tk=>⟨[],(eU tk).symm⟩
 | j::π,gs,tk=>by
  rw [bQ]
  rcases jj sp gs tk j with ⟨_,e⟩ | ⟨_,e⟩ <;> rw [e]
  ·exact pf sp π gs tk
  ·obtain ⟨more,h⟩:=pf sp π (i4 gs (tm gs (sAt sp j).s) (tm gs (sAt sp j).g)) (tk++[j])
   exact ⟨j::more,by rw [h,List.append_assoc];rfl⟩
def kz (sp:List Sn)(l:List Nat):Int:=l.foldl (fun c i=>c * ((wkey sp i).1+1)) 1
theorem prodW_snoc (sp:List Sn)(l:List Nat)(i:Nat):kz sp (l++[i])=kz sp l * ((wkey sp i).1+1):=by unfold kz;rw [eN];rfl
theorem fold_mul (sp:List Sn):∀ (l:List Nat) (c:Int),l.foldl (fun c i=>c * ((wkey sp i).1+1)) c=c * kz sp l
 | [],c=>(Int.mul_one c).symm
 | i::l,c=>by
  unfold kz;rw [bQ,bQ,fold_mul sp l,fold_mul sp l,Int.one_mul,Int.mul_assoc]
theorem nX (sp:List Sn)(l:List Nat)(i:Nat):kz sp (i::l)=((wkey sp i).1+1) * kz sp l:=by
 show l.foldl _ (1 * ((wkey sp i).1+1))=_;rw [fold_mul,Int.one_mul]
def lkW (l:List (Int×List Stp))(x:Int):Option (List Stp):=(l.find? fun p=>decide (p.1=x)).map (·.2)
theorem k7 (p:Int×List Stp)(l:List (Int×List Stp))(x:Int):lkW (p::l) x=if p.1=x then some p.2 else lkW l x:=by
 unfold lkW;rw [ig]
 by_cases e:p.1=x
 ·rw [rf e,q9 e];rfl
 ·rw [rh e,qZ e]
theorem mG {l:List (Int×List Stp)}{y:Int}{ws:List Stp}(h:lkW l y=none)(x:Int):lkW (l++[(y,ws)]) x=if x=y then some ws else lkW l x:=by
 induction l with
 | nil =>
  show lkW [(y,ws)] x=_;rw [k7]
  by_cases e:x=y
  ·rw [q9 e,q9 e.symm]
  ·rw [qZ e,qZ (fun z=>e z.symm)]
 | cons p l ih =>
  rw [k7] at h
  by_cases e:p.1=y
  ·rw [q9 e] at h;cases h
  ·rw [qZ e] at h
   rw [List.cons_append,k7,k7,ih h]
   by_cases e1:p.1=x
   ·rw [q9 e1,q9 e1,qZ (fun z=>e (e1.trans z))]
   ·rw [qZ e1,qZ e1]
def stF (tk:List Nat):List Stp:=tk.map (fun i=>⟨i,1⟩)++tk.map (fun i=>⟨i,-1⟩)
def d9 (sp:List Sn)(tk:List Nat)(x:Int):List Stp:=(stF tk).filter fun s=>decide (lI sp s=x)
def iI (sp:List Sn)(x:Int)(c:List (Int×List Stp)×List Int)(s:Stp):List (Int×List Stp)×List Int :=
 if lkW c.1 (fF sp s)=none then (c.1++[(fF sp s,(lkW c.1 x).getD []++[s])],c.2++[fF sp s]) else c
def lW (l:List Int):Int:=l.getLast?.getD 0
def qq (sp:List Sn)(tk:List Nat)(c:List (Int×List Stp)×List Int):List (Int×List Stp)×List Int :=
 (d9 sp tk (lW c.2)).foldl (iI sp (lW c.2)) (c.1,c.2.dropLast)
def itW (sp:List Sn)(tk:List Nat)(be:Int):Nat→List (Int×List Stp)×List Int
 | 0=>([(be,[])],[be])
 | k+1=>qq sp tk (itW sp tk be k)
def WayR (sp:List Sn)(tk:List Nat)(be en:Int)(p:List Stp):Prop:=∃ k,lkW (itW sp tk be k).1 en=some p∧∀ j,j<k→lkW (itW sp tk be j).1 en=none
structure Pth (sp:List Sn)(tk:List Nat)(be x:Int)(ws:List Stp):Prop where
 inn:∀ s∈ws,s.i∈tk∧s.i<sp.length∧(s.d=1∨s.d= -1)
 alo:Along sp be ws x
 one:(ws.map Stp.i).Nodup
 met:(be::ws.map (fF sp)).Nodup
theorem mem_stF {s:Stp}(h:s∈stF tk):s.i∈tk∧(s.d=1∨s.d= -1):=by
 rcases aN.mp h with h | h
 ·obtain ⟨i,hi,rfl⟩:=bh.mp h;exact ⟨hi,.inl rfl⟩
 ·obtain ⟨i,hi,rfl⟩:=bh.mp h;exact ⟨hi,.inr rfl⟩
structure WI (m:Nat)(sp:List Sn)(tk:List Nat)(be:Int)(c:List (Int×List Stp)×List Int):Prop where
 pth:∀ x ws,lkW c.1 x=some ws→Pth sp tk be x ws∧∀ s∈ws,lkW c.1 (lI sp s)≠none∧lkW c.1 (fF sp s)≠none
 rng:∀ x,lkW c.1 x≠none→0≤x∧x<m
 ahd:∀ x∈c.2,lkW c.1 x≠none
 beg:lkW c.1 be≠none
def Clo (sp:List Sn)(tk:List Nat)(ex:Int→Prop)(c:List (Int×List Stp)×List Int):Prop:=∀ x,lkW c.1 x≠none→x ∉ c.2→¬ ex x→∀ s∈d9 sp tk x,lkW c.1 (fF sp s)≠none
def nN (l:List (Int×List Stp)):Nat:=(aQ 16).countP fun x=>(lkW l ((x:Nat):Int)).isNone
theorem count_lt' {α:Type}{P Q:α→Bool}:∀ {l:List α},(∀ x∈l,Q x=true→P x=true)→∀ {a:α},a∈l→P a=true→Q a=false→l.countP Q<l.countP P
 | [],_,_,h,_,_=>rd h (by simp)
 | x::l,hPQ,a,h,hP,hQ=>by
  have le:l.countP Q≤l.countP P:=List.countP_mono_left fun y hy=>hPQ y (aw _ hy)
  rw [List.countP_cons,List.countP_cons]
  rcases aG.mp h with rfl | h
  ·rw [hP,hQ];simp;lia
  ·have ih:=count_lt' (P:=P) (Q:=Q) (l:=l) (fun y hy=>hPQ y (aw _ hy)) h hP hQ
   have:=hPQ x (by simp);cases q:Q x with
   | true=>rw [this q];simp;lia
   | false=>simp;lia
theorem cntW_new {l:List (Int×List Stp)}{y:Int}{ws:List Stp}(h:lkW l y=none)(y0:0≤y)(y1:y<16):nN (l++[(y,ws)])<nN l:=by
 unfold nN;obtain ⟨n,rfl⟩:=cJ y0;refine count_lt' (a:=n) (fun x _ hx=>?_) (bT.mpr (by lia)) ?_ ?_
 ·rw [mG h] at hx
  split at hx
  ·cases hx
  ·exact hx
 ·show (lkW l ((n:Nat):Int)).isNone=true
  rw [h];rfl
 ·show (lkW (l++[(((n:Nat):Int),ws)]) ((n:Nat):Int)).isNone=false
  rw [mG h,q9 rfl];rfl
theorem l4 (E:Ends m sp){s:Stp}(hi:s.i<sp.length):0≤fF sp s∧fF sp s<m:=by
 obtain ⟨i,d⟩:=s;have hi:i<sp.length:=hi;rw [kT hi];obtain ⟨a,b,c,e⟩:=E _ (bH hi);unfold too;split
 ·exact ⟨c,e⟩
 ·exact ⟨a,b⟩
theorem visit_ok {x:Int}(E:Ends m sp)(m16:m≤16)(ht:∀ i∈tk,i<sp.length){s:Stp}(I:WI m sp tk be c)(hx:lkW c.1 x≠none)(hs:s∈d9 sp tk x)(C:Clo sp tk (· =x) c) :
  WI m sp tk be (iI sp x c s)∧Clo sp tk (· =x) (iI sp x c s)∧lkW (iI sp x c s).1 (fF sp s)≠none∧(∀ y,lkW c.1 y≠none→lkW (iI sp x c s).1 y=lkW c.1 y)∧2 * nN (iI sp x c s).1+(iI sp x c s).2.length≤2 * nN c.1+c.2.length∧(iI sp x c s).1.length+nN (iI sp x c s).1≤c.1.length+nN c.1:=by
 obtain ⟨hs1,hs2⟩:=cA.mp hs;have hfr:lI sp s=x:=rj hs2;obtain ⟨hst,hsd⟩:=mem_stF hs1;have hsn:=ht _ hst;have tr:=l4 E hsn;unfold iI
 by_cases e:lkW c.1 (fF sp s)=none
 ·rw [q9 e]
  obtain ⟨ws,hws⟩:∃ ws,lkW c.1 x=some ws:=Option.ne_none_iff_exists'.mp hx;have eg:(lkW c.1 x).getD []=ws:=by rw [hws];rfl
  rw [eg];have keep:∀ y,lkW c.1 y≠none→lkW (c.1++[(fF sp s,ws++[s])]) y=lkW c.1 y:=fun y hy=>by
   rw [mG e,qZ (fun (z:y=fF sp s)=>hy (by rw [z];exact e))]
  have new:lkW (c.1++[(fF sp s,ws++[s])]) (fF sp s)=some (ws++[s]):=by rw [mG e,q9 rfl]
  have more:∀ y,lkW c.1 y≠none→lkW (c.1++[(fF sp s,ws++[s])]) y≠none:=fun y hy=>by rw [keep y hy];exact hy
  obtain ⟨P,K⟩:=I.pth x ws hws;have hne:∀ st∈ws,st.i=s.i→False:=fun st hst' e2=>by
   obtain ⟨k1,k2⟩:=K st hst'
   rcases ends_of_span (sp:=sp) (st:=st) (d:=s.d) hsn e2 (P.inn st hst').2.2 hsd with z | z
   ·have z:fF sp st=fF sp s:=z
    rw [z] at k2;exact k2 e
   ·have z:lI sp st=fF sp s:=z
    rw [z] at k1;exact k1 e
  have hnew:Pth sp tk be (fF sp s) (ws++[s]):=by
   refine ⟨fun st hst'=>?_,P.alo.append ⟨hfr,rfl⟩,?_,?_⟩
   ·rcases aN.mp hst' with h | h
    ·exact P.inn st h
    ·rw [ax.mp h];exact ⟨hst,hsn,hsd⟩
   ·rw [ay]
    refine iB.mpr ⟨P.one,by simp,fun a ha b hb e3=>?_⟩;obtain ⟨st,hst',rfl⟩:=bh.mp ha;have hb:b=s.i:=by simpa using hb
    exact hne st hst' (by rw [e3,hb])
   ·rw [ay,←List.cons_append]
    refine iB.mpr ⟨P.met,by simp,fun a ha b hb e3=>?_⟩;have hb:b=fF sp s:=by simpa using hb
    subst hb;subst e3
    rcases aG.mp ha with z | z
    ·rw [z] at e;exact I.beg e
    ·obtain ⟨st,hst',e4⟩:=bh.mp z
     exact (K st hst').2 (by rw [e4];exact e)
  refine ⟨⟨fun y vs hy=>?_,fun y hy=>?_,fun y hy=>?_,more _ I.beg⟩,fun y hy hn ex t ht'=>?_,?_,keep,?_,?_⟩
  ·rw [mG e] at hy
   by_cases ey:y=fF sp s
   ·rw [q9 ey] at hy
    cases hy;rw [ey];refine ⟨hnew,fun st hst'=>?_⟩
    rcases aN.mp hst' with h | h
    ·exact ⟨more _ (K st h).1,more _ (K st h).2⟩
    ·rw [ax.mp h,hfr]
     exact ⟨more _ hx,by rw [new];exact fun z=>nomatch z⟩
   ·rw [qZ ey] at hy
    obtain ⟨P',K'⟩:=I.pth y vs hy;exact ⟨P',fun st h=>⟨more _ (K' st h).1,more _ (K' st h).2⟩⟩
  ·have hy:lkW (c.1++[(fF sp s,ws++[s])]) y≠none:=hy
   rw [mG e] at hy
   by_cases ey:y=fF sp s
   ·rw [ey];exact tr
   ·rw [qZ ey] at hy;exact I.rng y hy
  ·rcases aN.mp hy with h | h
   ·exact more _ (I.ahd y h)
   ·rw [ax.mp h];show lkW (c.1++[(fF sp s,ws++[s])]) (fF sp s)≠none;rw [new];exact fun z=>nomatch z
  ·have hy:lkW (c.1++[(fF sp s,ws++[s])]) y≠none:=hy
   have hn:y ∉ c.2++[fF sp s]:=hn;have ey:y≠fF sp s:=fun z=>hn (aA _ (ax.mpr z))
   rw [mG e,qZ ey] at hy;exact more _ (C y hy (fun z=>hn (aM _ z)) ex t ht')
  ·show lkW (c.1++[(fF sp s,ws++[s])]) (fF sp s)≠none
   rw [new];exact fun z=>nomatch z
  ·have:=cntW_new (ws:=ws++[s]) e tr.1 (by lia)
   show 2 * nN (c.1++[(fF sp s,ws++[s])])+(c.2++[fF sp s]).length≤_;rw [av];have:[fF sp s].length=1:=rfl;lia
  ·have:=cntW_new (ws:=ws++[s]) e tr.1 (by lia)
   show (c.1++[(fF sp s,ws++[s])]).length+nN (c.1++[(fF sp s,ws++[s])])≤_;rw [av];have:[(fF sp s,ws++[s])].length=1:=rfl;lia
 ·rw [qZ e]
  exact ⟨I,C,e,fun _ _=>rfl,aC _,aC _⟩
theorem oZ {m:Nat}{sp:List Sn}{tk:List Nat}{be x:Int}(E:Ends m sp)(m16:m≤16)(ht:∀ i∈tk,i<sp.length):∀ {L:List Stp} {c:List (Int×List Stp)×List Int},WI m sp tk be c→lkW c.1 x≠none→(∀ s∈L,s∈d9 sp tk x)→Clo sp tk (· =x) c →
  WI m sp tk be (L.foldl (iI sp x) c)∧Clo sp tk (· =x) (L.foldl (iI sp x) c)∧(∀ s∈L,lkW (L.foldl (iI sp x) c).1 (fF sp s)≠none)∧(∀ y,lkW c.1 y≠none→lkW (L.foldl (iI sp x) c).1 y=lkW c.1 y)∧2 * nN (L.foldl (iI sp x) c).1+(L.foldl (iI sp x) c).2.length≤2 * nN c.1+c.2.length∧(L.foldl (iI sp x) c).1.length+nN (L.foldl (iI sp x) c).1≤c.1.length+nN c.1
 | [],c,I,_,_,C=>⟨I,C,fun _ h=>(by cases h),fun _ _=>rfl,aC _,aC _⟩
 | s::L,c,I,hx,hL,C=>by
  obtain ⟨a1,a2,a3,a4,a5,a6⟩:=visit_ok E m16 ht I hx (hL s bB) C;obtain ⟨b1,b2,b3,b4,b5,b6⟩:=oZ E m16 ht (L:=L) a1 (by rw [a4 x hx];exact hx) (fun t h=>hL t (aw _ h)) a2;rw [bQ];refine ⟨b1,b2,fun t h=>?_,fun y hy=>?_,bo b5 a5,bo b6 a6⟩
  ·rcases aG.mp h with rfl | h
   ·rw [b4 _ a3];exact a3
   ·exact b3 t h
  ·rw [b4 y (by rw [a4 y hy];exact hy),a4 y hy]
theorem turn_ok (E:Ends m sp)(m16:m≤16)(ht:∀ i∈tk,i<sp.length)(I:WI m sp tk be c)(C:Clo sp tk (fun _=>False) c)(hne:c.2≠[]) :
  WI m sp tk be (qq sp tk c)∧Clo sp tk (fun _=>False) (qq sp tk c)∧2 * nN (qq sp tk c).1+(qq sp tk c).2.length<2 * nN c.1+c.2.length∧(qq sp tk c).1.length+nN (qq sp tk c).1≤c.1.length+nN c.1:=by
 have hl:c.2.getLast? =some (c.2.getLast hne):=List.getLast?_eq_some_getLast hne;have e0:c.2=c.2.dropLast++[lW c.2]:=by
  unfold lW;rw [hl];exact (List.dropLast_concat_getLast hne).symm
 have hmem:lW c.2∈c.2:=by rw [e0];unfold lW;simp
 have hx:=I.ahd _ hmem;have I0:WI m sp tk be (c.1,c.2.dropLast):=⟨I.pth,I.rng,fun y hy=>I.ahd y ((List.dropLast_sublist _).subset hy),I.beg⟩;have C0:Clo sp tk (· =lW c.2) (c.1,c.2.dropLast):=fun y hy hn ex t ht'=>C y hy (fun z=>by
  rw [e0] at z
  rcases aN.mp z with z | z
  ·exact hn z
  ·exact ex (ax.mp z)) (fun z=>z) t ht'
 obtain ⟨b1,b2,b3,b4,b5,b6⟩:=oZ E m16 ht (L:=d9 sp tk (lW c.2)) I0 hx (fun _ h=>h) C0;refine ⟨b1,fun y hy hn _ t ht'=>?_,?_,b6⟩
 ·by_cases e:y=lW c.2
  ·subst e;exact b3 t ht'
  ·exact b2 y hy hn e t ht'
 ·have l1:c.2.dropLast.length+1=c.2.length:=by
   have:=rm List.length e0;rw [av] at this;exact this.symm
  have b5:2 * nN (qq sp tk c).1+(qq sp tk c).2.length≤2 * nN c.1+c.2.dropLast.length:=b5;lia
theorem start_ok (b0:0≤be)(b1:be<m):WI m sp tk be ([(be,[])],[be])∧Clo sp tk (fun _=>False) ([(be,[])],[be]):=by
 have lk:∀ x,lkW [(be,[])] x=if be=x then some [] else none:=fun x=>by rw [k7];rfl
 have kb:∀ x,lkW [(be,([]:List Stp))] x≠none→x=be:=fun x h=>by
  rw [lk] at h
  by_cases e:be=x
  ·exact e.symm
  ·rw [qZ e] at h;exact rd rfl h
 have kn:lkW [(be,([]:List Stp))] be≠none:=by rw [lk,q9 rfl];exact fun z=>nomatch z
 refine ⟨⟨fun x ws h=>?_,fun x h=>by rw [kb x h];exact ⟨b0,b1⟩,fun x h=>by rw [ax.mp h];exact kn,kn⟩,fun x h hn=>?_⟩
 ·have h:lkW [(be,[])] x=some ws:=h
  rw [lk] at h
  by_cases e:be=x
  ·rw [q9 e] at h
   cases h;exact ⟨⟨fun _ h=>(nomatch h),e,List.nodup_nil,bJ.mpr ⟨fun h=>(nomatch h),List.nodup_nil⟩⟩,fun _ h=>(nomatch h)⟩
  ·rw [qZ e] at h;cases h
 ·exact rd (ax.mpr (kb x h)) hn
def Held (sp:List Sn)(tk:List Nat)(be en:Int):Prop:=∀ S:Int→Prop,(∀ i∈tk,S (sAt sp i).s↔S (sAt sp i).g)→S be→S en
theorem qR (h:i<sp.length):lI sp ⟨i,1⟩=(sAt sp i).s∧fF sp ⟨i,1⟩=(sAt sp i).g∧lI sp ⟨i,-1⟩=(sAt sp i).g∧fF sp ⟨i,-1⟩=(sAt sp i).s:=by
 have e:sAt sp i=sp[i]:=by unfold sAt;rw [ai,gE h];rfl
 rw [mL h,kT h,mL h,kT h,e];unfold frm too;exact ⟨rfl,rfl,rfl,rfl⟩
theorem left_of {en:Int}(ht:∀ i∈tk,i<sp.length)(hh:Held sp tk be en)(I:WI m sp tk be c)(C:Clo sp tk (fun _=>False) c)(hn:lkW c.1 en=none):c.2≠[]:=fun z=>by
 refine hh (fun x=>lkW c.1 x≠none) (fun i hi=>?_) I.beg hn;have hin:=ht i hi;obtain ⟨f1,f2,f3,f4⟩:=qR hin;have m1:(⟨i,1⟩:Stp)∈d9 sp tk (sAt sp i).s:=cA.mpr ⟨aM _ (bh.mpr ⟨i,hi,rfl⟩),rf f1⟩;have m2:(⟨i,-1⟩:Stp)∈d9 sp tk (sAt sp i).g:=cA.mpr ⟨aA _ (bh.mpr ⟨i,hi,rfl⟩),rf f3⟩
 constructor
 ·intro h
  have:=C _ h (by rw [z];exact cX) (fun z=>z) _ m1;rw [f2] at this;exact this
 ·intro h
  have:=C _ h (by rw [z];exact cX) (fun z=>z) _ m2;rw [f4] at this;exact this
theorem held_of {m:Nat}{sp:List Sn}(E:Ends m sp)(S:Int→Prop):∀ (π:List Nat) (gs:List Int) (tk:List Nat),gs.length=m→(∀ i∈π,i<sp.length)→(∀ i∈(π.foldl (gi sp) (gs,tk)).2,S (sAt sp i).s↔S (sAt sp i).g) →
  (∀ x y:Int,0≤x→x<m→0≤y→y<m→tm gs x=tm gs y→(S x↔S y))→∀ x y:Int,0≤x→x<m→0≤y→y<m→tm (π.foldl (gi sp) (gs,tk)).1 x=tm (π.foldl (gi sp) (gs,tk)).1 y→(S x↔S y)
 | [],_,_,_,_,_,h=>h
 | j::π,gs,tk,l,hp,hS,h=>by
  rw [bQ] at hS ⊢;obtain ⟨a0,a1,b0,b1⟩:=E _ (eQ (hp j bB));have hp':∀ i∈π,i<sp.length:=fun k hk=>hp k (aw _ hk)
  rcases jj sp gs tk j with ⟨_,e⟩ | ⟨_,e⟩ <;> rw [e] at hS ⊢
  ·exact held_of E S π gs tk l hp' hS h
  ·refine held_of E S π _ _ (by rw [lX];exact l) hp' hS fun x y x0 x1 y0 y1 hxy=>?_
   obtain ⟨more,hm⟩:=pf sp π (i4 gs (tm gs (sAt sp j).s) (tm gs (sAt sp j).g)) (tk++[j]);have hj:=hS j (by rw [hm];simp);rw [kU x0 (by lia),kU y0 (by lia)] at hxy
   by_cases e1:tm gs x=tm gs (sAt sp j).g
   ·have f1:=h x _ x0 x1 b0 b1 e1
    rw [q9 e1] at hxy
    by_cases e2:tm gs y=tm gs (sAt sp j).g
    ·exact f1.trans (h y _ y0 y1 b0 b1 e2).symm
    ·rw [qZ e2] at hxy
     exact f1.trans (hj.symm.trans (h _ y a0 a1 y0 y1 hxy))
   ·rw [qZ e1] at hxy
    by_cases e2:tm gs y=tm gs (sAt sp j).g
    ·rw [q9 e2] at hxy
     exact (h x _ x0 x1 a0 a1 hxy).trans (hj.trans (h y _ y0 y1 b0 b1 e2).symm)
    ·rw [qZ e2] at hxy
     exact h x y x0 x1 y0 y1 hxy
theorem held_span (E:Ends m sp)(O:Ordd sp π)(pm:l.Perm (kG sp m π).2){k:Nat}(hk:k<sp.length):Held sp l (sAt sp k).g (sAt sp k).s:=by
 intro S hS hg;have hp:∀ i∈π,i<sp.length:=fun i hi=>O.lt hi
 obtain ⟨a0,a1,b0,b1⟩:=E _ (eQ hk);refine (held_of E S π (kt m) [] (lg m) hp (fun i hi=>hS i (pm.mem_iff.mpr hi)) (fun x y x0 x1 y0 y1 h=>?_) _ _ a0 a1 b0 b1 (kE E π (kt m) [] (lg m) hp k (O.1.mem_iff.mpr (bT.mpr hk)))).mpr hg;rw [nS x0 x1,nS y0 y1] at h;rw [h]
theorem WayR.pth {en:Int}(E:Ends m sp)(m16:m≤16)(ht:∀ i∈tk,i<sp.length)(b0:0≤be)(b1:be<m)(hh:Held sp tk be en){p:List Stp}(h:WayR sp tk be en p):Pth sp tk be en p:=by
 obtain ⟨k,h1,h2⟩:=h;have key:∀ j,j≤k→WI m sp tk be (itW sp tk be j)∧Clo sp tk (fun _=>False) (itW sp tk be j):=by
  intro j
  induction j with
  | zero=>intro _;exact start_ok b0 b1
  | succ j ih =>
   intro hj;obtain ⟨I,C⟩:=ih (by lia);obtain ⟨a,b,_⟩:=turn_ok E m16 ht I C (left_of ht hh I C (h2 j (by lia)));exact ⟨a,b⟩
 exact ((key k (aC _)).1.pth en p h1).1
theorem Pth.len {en:Int}{p:List Stp}(E:Ends m sp)(b0:0≤be)(b1:be<m)(h:Pth sp tk be en p):p.length+1≤m:=by
 have:=mx h.met (k:=kt m) fun x hx=>by
  have key:∀ x:Int,0≤x→x<m→x∈kt m:=fun x x0 x1=>by
   unfold kt;exact bh.mpr ⟨x.toNat,bT.mpr (by lia),g6 x0⟩
  rcases aG.mp hx with rfl | hx
  ·exact key _ b0 b1
  ·obtain ⟨s,hs,rfl⟩:=bh.mp hx
   have t:=l4 E (h.inn s hs).2.1;exact key _ t.1 t.2
 rw [aX,aa,lg] at this;exact this
def ko (pr:Int)(ps:List Int)(s:Stp):List Int:=ps.set s.i (ps.getD s.i 0 - pr * s.d)
def rowP (ps:List Int)(r:Int×List Stp):List Int:=r.2.foldl (ko r.1) ps
def ownM (sp:List Sn)(rows:List (Int×List Stp)):List Int:=rows.foldl rowP (sp.map Sn.w)
theorem lN {pr:Int}:∀ (ws:List Stp) (ps:List Int),(ws.foldl (ko pr) ps).length=ps.length
 | [],_=>rfl
 | s::ws,ps=>by
  rw [bQ,lN ws];unfold ko;rw [fT]
theorem rows_len:∀ (rows:List (Int×List Stp)) (ps:List Int),(rows.foldl rowP ps).length=ps.length
 | [],_=>rfl
 | r::rows,ps=>by
  rw [bQ,rows_len rows];exact lN r.2 ps
theorem own_len (sp:List Sn)(rows:List (Int×List Stp)):(ownM sp rows).length=sp.length:=by
 unfold ownM;rw [rows_len,aa]
def hasS (k:Nat)(d:Int)(ws:List Stp):Bool:=ws.any fun s=>decide (s.i=k) && decide (s.d=d)
def ownV (k:Nat)(acc pr:Int)(ws:List Stp):Int:=if hasS k (-1) ws=true then (if hasS k 1 ws=true then acc - pr else acc)+pr else (if hasS k 1 ws=true then acc - pr else acc)
def ownS (k:Nat)(acc:Int)(r:Int×List Stp):Int:=ownV k acc r.1 r.2
theorem hasS_no {k:Nat}{d:Int}:∀ {ws:List Stp},k ∉ ws.map Stp.i→hasS k d ws=false
 | [],_=>rfl
 | s::ws,h=>by
  show (decide (s.i=k) && decide (s.d=d) || hasS k d ws)=false;rw [hasS_no (ws:=ws) fun z=>h (by rw [cj];exact aw _ z),rh (fun z=>h (by rw [cj,z];simp))];rfl
theorem steps_at {k:Nat}{pr:Int}:∀ (ws:List Stp) (ps:List Int),k<ps.length→(∀ s∈ws,s.d=1∨s.d= -1)→(ws.map Stp.i).Nodup→(ws.foldl (ko pr) ps).getD k 0=ownV k (ps.getD k 0) pr ws
 | [],_,_,_,_=>rfl
 | s::ws,ps,hk,hd,hn=>by
  rw [cj,bJ] at hn;rw [bQ,steps_at ws _ (by unfold ko;rw [fT];exact hk) (fun t ht=>hd t (aw _ ht)) hn.2]
  by_cases e:s.i=k
  ·have h0:∀ d,hasS k d ws=false:=fun d=>hasS_no (by rw [←e];exact hn.1)
   have h1:∀ d,hasS k d (s::ws)=decide (s.d=d):=fun d=>by
    show (decide (s.i=k) && decide (s.d=d) || hasS k d ws)=_;rw [h0,rf e];simp
   have h2:(ko pr ps s).getD k 0=ps.getD k 0 - pr * s.d:=by
    unfold ko;rw [e,ai,eI hk];rfl
   unfold ownV;rw [h0,h0,h1,h1,h2]
   rcases hd s (by simp) with d1 | d1
   ·rw [d1];simp
   ·rw [d1];simp
  ·have h1:∀ d,hasS k d (s::ws)=hasS k d ws:=fun d=>by
    show (decide (s.i=k) && decide (s.d=d) || hasS k d ws)=_;rw [rh e];simp
   have h2:(ko pr ps s).getD k 0=ps.getD k 0:=by
    unfold ko;rw [ai,eu e,←ai]
   unfold ownV;rw [h1,h1,h2]
structure RwOk (n:Nat)(r:Int×List Stp):Prop where
 inn:qo n r.2
 one:(r.2.map Stp.i).Nodup
 few:r.2.length≤17
 lo: -1000000000000≤r.1
 hi:r.1≤1000000000000
theorem pO {k n:Nat}:∀ (rows:List (Int×List Stp)) (ps:List Int),k<ps.length→(∀ r∈rows,RwOk n r)→(rows.foldl rowP ps).getD k 0=rows.foldl (ownS k) (ps.getD k 0)
 | [],_,_,_=>rfl
 | r::rows,ps,hk,h=>by
  have hr:=h r (by simp);rw [bQ,bQ,pO rows _ (by show k<(r.2.foldl (ko r.1) ps).length;rw [lN];exact hk) fun t ht=>h t (aw _ ht)];congr 1;exact steps_at r.2 ps hk (fun s hs=>(hr.inn s hs).2) hr.one
theorem ownS_abs {k n:Nat}:∀ (rows:List (Int×List Stp)) (a:Int) (m:Nat),a.natAbs≤m→(∀ r∈rows,RwOk n r)→(rows.foldl (ownS k) a).natAbs≤m+rows.length * 2000000000000
 | [],_,_,ha,_=>by simpa using ha
 | r::rows,a,m,ha,h=>by
  have hr:=h r (by simp);have h1:=hr.lo;have h2:=hr.hi;rw [bQ];have step:(ownS k a r).natAbs≤m+2000000000000:=by
   show (ownV k a r.1 r.2).natAbs≤_;unfold ownV;split <;> split <;> lia
  have:=ownS_abs (k:=k) (n:=n) rows (ownS k a r) (m+2000000000000) step fun t ht=>h t (aw _ ht)
  rw [aX];lia
def wOf (sp:List Sn)(k:Nat):Int:=match sp[k]? with | some x=>x.w | none=>0
def lOf (sp:List Sn)(k:Nat):Int:=match sp[k]? with | some x=>x.l | none=>0
def owK (sp:List Sn)(rows:List (Int×List Stp))(k:Nat):Int:=rows.foldl (ownS k) (wOf sp k)
theorem own_at {k:Nat}(hk:k<sp.length)(h:∀ r∈rows,RwOk n r):(ownM sp rows).getD k 0=owK sp rows k:=by
 unfold ownM owK;rw [pO rows _ (by rw [aa];exact hk) h];congr 1;unfold wOf;rw [ai,az,gE hk];rfl
theorem owK_abs {k:Nat}(hw:∀ x∈sp,0≤x.w∧x.w≤1000000000000)(h:∀ r∈rows,RwOk n r)(hl:rows.length≤41): -18446744073709551616<owK sp rows k∧owK sp rows k<18446744073709551616:=by
 have:=ownS_abs (k:=k) rows (wOf sp k) 1000000000000 (by
  unfold wOf;cases q:sp[k]? with
  | none=>exact bF _
  | some x =>
   have:=hw x (bt q);show x.w.natAbs≤_;lia) h
 unfold owK;lia
def termW (sp:List Sn)(bs:List (Int×Int))(rows:List (Int×List Stp))(k:Nat):Int:=owK sp rows k * (if owK sp rows k<0 then (bs.getD k (0,0)).2 else (bs.getD k (0,0)).1) - wOf sp k * lOf sp k
def oA (b:Int)(bs:List (Int×Int))(rows:List (Int×List Stp)):Int:=(rows.map fun r=>r.1 * upB b (fh bs r.2) * b).sum
def lM (b:Int)(sp:List Sn)(bs:List (Int×Int))(rows:List (Int×List Stp)):Int:=oA b bs rows+((aQ sp.length).map (termW sp bs rows)).sum
theorem div_absW {x:Int}(hb:0<b):(x / b).natAbs≤x.natAbs:=by
 have e:=gn x b;have r0:=cR x (by lia:b≠0);have r1:=cL x hb;generalize x / b=q at e;generalize x % b=r at e r0 r1
 rcases Int.lt_or_le q 0 with hq | hq
 ·have:b * (q+1)≤1 * (q+1):=Int.mul_le_mul_of_nonpos_right (by lia) (by lia)
  rw [ji] at this;lia
 ·have:1 * q≤b * q:=Int.mul_le_mul_of_nonneg_right (by lia) hq
  lia
theorem qG {bs:List (Int×Int)}:∀ {ws:List Stp},BsU bs→(fh bs ws).natAbs≤ws.length * 10 ^ 60
 | [],_=>bF _
 | s::ws,h=>by
  have ih:=qG (ws:=ws) h;have k:(oG bs s).natAbs≤10 ^ 60:=by
   unfold oG;cases q:bs[s.i]? with
   | none=>exact bF _
   | some p =>
    obtain ⟨a,b,c⟩:=h p (bt q);have c:p.2<10 ^ 60:=c;show (if s.d=1 then p.1 else -p.2).natAbs≤_;split <;> lia
  have e:fh bs (s::ws)=oG bs s+fh bs ws:=rfl;rw [e,aX,Nat.add_mul];lia
theorem up_abs {bs:List (Int×Int)}{ws:List Stp}(hb:0<b)(h:BsU bs)(hl:ws.length≤17):(upB b (fh bs ws)).natAbs≤17 * 10 ^ 60:=by
 unfold upB;rw [Int.natAbs_neg];have h1:=div_absW (x:= -fh bs ws) hb;rw [Int.natAbs_neg] at h1;have h2:=qG (ws:=ws) h;have h3:ws.length * 10 ^ 60≤17 * 10 ^ 60:=Nat.mul_le_mul_right _ hl;lia
inductive spOwn (vs:List V)(H:Hp)(Q:VK)(_:XK):Prop
 | mk (v:V)(pr:ao)(b m:Int)(sp:List Sn)(rows:List (Int×List Stp))(_:vs=[v,.ref pr])(_:IsD H v (ka b m sp))(_:sp.length≤40)(_:IsD H (.ref pr) (.tup (rows.map rowD)))(_:(∀ r∈rows,RwOk sp.length r))(_:∀ L H',Same H H'→H' L=some (.lst ((ownM sp rows).map V.int))→Q (.ref L) H')
structure WoArgs (H:Hp)(v vb vl:V)(b m:Int)(sp:List Sn)(bs:List (Int×Int))(rows:List (Int×List Stp)):Prop where
 net:IsD H v (ka b m sp)
 bnd:IsD H vb (bndP bs)
 leaf:IsD H vl (leafP (.price rows))
 b0:0<b
 b61:b<10 ^ 61
 lb:bs.length=sp.length
 few:sp.length≤40
 bu:BsU bs
 ws:∀ x∈sp,0≤x.w∧x.w≤1000000000000
 rw':∀ r∈rows,RwOk sp.length r
 lr:rows.length≤41
inductive spWorth (vs:List V)(H:Hp)(Q:VK)(_:XK):Prop
 | mk (v vb vl:V)(b m:Int)(sp:List Sn)(bs:List (Int×Int))(rows:List (Int×List Stp))(_:vs=[v,vb,vl])(_:WoArgs H v vb vl b m sp bs rows)(_:∀ H',Same H H'→Q (.int (lM b sp bs rows)) H')
end HN
namespace L2
open PySem PySem.Spec PyProof.Rows
end L2
namespace HN
open PySem L2 PyProof.Rows
def mw (f:Nat→Int):Nat→Int
 | 0=>0
 | n+1=>mw f n+f n
theorem l7 (f:Nat→Int):∀ n,((aQ n).map f).sum=mw f n
 | 0=>rfl
 | n+1=>by
  rw [List.range_succ,ay,gB,l7 f n];show mw f n+(f n+0)=mw f n+f n;lia
theorem oN (f g:Nat→Int):∀ n,mw (fun k=>f k+g k) n=mw f n+mw g n
 | 0=>rfl
 | n+1=>by
  show mw (fun k=>f k+g k) n+(f n+g n)=(mw f n+f n)+(mw g n+g n);rw [oN f g n];lia
theorem oM (c:Int)(f:Nat→Int):∀ n,mw (fun k=>c * f k) n=c * mw f n
 | 0=>(ie c).symm
 | n+1=>by
  show mw (fun k=>c * f k) n+c * f n=c * (mw f n+f n);rw [oM c f n,ji]
theorem j5 {f g:Nat→Int}:∀ n,(∀ k,k<n→f k=g k)→mw f n=mw g n
 | 0,_=>rfl
 | n+1,h=>by
  show mw f n+f n=mw g n+g n;rw [j5 n fun k hk=>h k (by lia),h n (by lia)]
theorem sumN_none {i:Nat}{c:Int}{y:Nat→Int}:∀ n,n≤i→mw (fun k=>(if i=k then c else 0) * y k) n=0
 | 0,_=>rfl
 | n+1,h=>by
  show mw (fun k=>(if i=k then c else 0) * y k) n+(if i=n then c else 0) * y n=0;rw [sumN_none n (by lia),qZ (by lia),fO];rfl
theorem sumN_one {i:Nat}{c:Int}{y:Nat→Int}:∀ n,i<n→mw (fun k=>(if i=k then c else 0) * y k) n=c * y i
 | 0,h=>rd h (by lia)
 | n+1,h=>by
  show mw (fun k=>(if i=k then c else 0) * y k) n+(if i=n then c else 0) * y n=c * y i
  by_cases e:i=n
  ·subst e
   rw [sumN_none i (aC _),q9 rfl,gc]
  ·rw [sumN_one n (by lia),qZ e,fO,Int.add_zero]
theorem sumN_list {α:Type}(f:α→Int)(xs:List α):∀ n,n≤xs.length→((xs.take n).map f).sum=mw (fun k=>match xs[k]? with | some x=>f x | none=>0) n
 | 0,_=>rfl
 | n+1,h=>by
  rw [bj,gE (by lia),ay,gB,sumN_list f xs n (by lia)];show _+(f xs[n]+0)=mw _ n+(match xs[n]? with | some x=>f x | none=>0);rw [gE (by lia)];show _+(f xs[n]+0)=_+f xs[n];lia
def sg (k:Nat):List Stp→Int
 | []=>0
 | s::ws=>(if s.i=k then s.d else 0)+sg k ws
def alg (y:Nat→Int):List Stp→Int
 | []=>0
 | s::ws=>s.d * y s.i+alg y ws
theorem fold_sg {k:Nat}{pr:Int}:∀ (ws:List Stp) (ps:List Int),k<ps.length→(ws.foldl (ko pr) ps).getD k 0=ps.getD k 0 - pr * sg k ws
 | [],ps,_=>by show ps.getD k 0=ps.getD k 0 - pr * 0;rw [ie,Int.sub_zero]
 | s::ws,ps,hk=>by
  rw [bQ,fold_sg ws _ (by unfold ko;rw [fT];exact hk)];show _=ps.getD k 0 - pr * ((if s.i=k then s.d else 0)+sg k ws);rw [ji]
  by_cases e:s.i=k
  ·have h2:(ko pr ps s).getD k 0=ps.getD k 0 - pr * s.d:=by
    unfold ko;rw [e,ai,eI hk];rfl
   rw [h2,q9 e];lia
  ·have h2:(ko pr ps s).getD k 0=ps.getD k 0:=by
    unfold ko;rw [ai,eu e,←ai]
   rw [h2,qZ e,ie];lia
def sgR (k:Nat):List (Int×List Stp)→Int
 | []=>0
 | r::rows=>r.1 * sg k r.2+sgR k rows
theorem rows_sg {k:Nat}:∀ (rows:List (Int×List Stp)) (ps:List Int),k<ps.length→(rows.foldl rowP ps).getD k 0=ps.getD k 0 - sgR k rows
 | [],ps,_=>by show ps.getD k 0=ps.getD k 0 - 0;rw [Int.sub_zero]
 | r::rows,ps,hk=>by
  rw [bQ,rows_sg rows _ (by show k<(r.2.foldl (ko r.1) ps).length;rw [lN];exact hk)];show (r.2.foldl (ko r.1) ps).getD k 0 - sgR k rows=ps.getD k 0 - (r.1 * sg k r.2+sgR k rows);rw [fold_sg r.2 ps hk];lia
theorem owK_sg {k:Nat}(hk:k<sp.length)(h:∀ r∈rows,RwOk n r):owK sp rows k=wOf sp k - sgR k rows:=by
 rw [←own_at hk h];unfold ownM;rw [rows_sg rows _ (by rw [aa];exact hk)];congr 1;unfold wOf;rw [ai,az,gE hk];rfl
theorem sum_sg {y:Nat→Int}{n:Nat}:∀ (ws:List Stp),(∀ s∈ws,s.i<n)→mw (fun k=>sg k ws * y k) n=alg y ws
 | [],_=>by
  show mw (fun k=>0 * y k) n=0;rw [j5 (g:=fun _=>0 * 0) n fun k _=>by rw [fO,fO],oM 0 (fun _=>0) n,fO]
 | s::ws,h=>by
  show mw (fun k=>((if s.i=k then s.d else 0)+sg k ws) * y k) n=s.d * y s.i+alg y ws;rw [j5 (g:=fun k=>(if s.i=k then s.d else 0) * y k+sg k ws * y k) n fun k _=>Int.add_mul ..,oN,sumN_one n (h s (by simp)),sum_sg ws fun t ht=>h t (aw _ ht)]
def algR (y:Nat→Int):List (Int×List Stp)→Int
 | []=>0
 | r::rows=>r.1 * alg y r.2+algR y rows
theorem sum_sgR {y:Nat→Int}{n:Nat}:∀ (rows:List (Int×List Stp)),(∀ r∈rows,∀ s∈r.2,s.i<n)→mw (fun k=>sgR k rows * y k) n=algR y rows
 | [],_=>by
  show mw (fun k=>0 * y k) n=0;rw [j5 (g:=fun _=>0 * 0) n fun k _=>by rw [fO,fO],oM 0 (fun _=>0) n,fO]
 | r::rows,h=>by
  show mw (fun k=>(r.1 * sg k r.2+sgR k rows) * y k) n=r.1 * alg y r.2+algR y rows;rw [j5 (g:=fun k=>r.1 * (sg k r.2 * y k)+sgR k rows * y k) n fun k _=>by rw [Int.add_mul,Int.mul_assoc],oN,oM,sum_sg r.2 (h r (by simp)),sum_sgR rows fun t ht=>h t (aw _ ht)]
def iS (b:Int)(ts:List Int)(sp:List Sn)(k:Nat):Int:=match sp[k]? with | some x=>x.l+fW b ts x | none=>0
def InB (y:Nat→Int)(bs:List (Int×Int)):Prop:=∀ k,k<bs.length→(bs.getD k (0,0)).1≤y k∧y k≤(bs.getD k (0,0)).2
theorem lay_in (hb:0<b)(hf:jB b ts sp=true):InB (iS b ts sp) (sp.map fun x=>(x.l,x.o)):=fun k hk=>by
 rw [aa] at hk;have e:(sp.map fun x=>(x.l,x.o)).getD k (0,0)=(sp[k].l,sp[k].o):=by
  rw [ai,az,gE hk];rfl
 have e2:iS b ts sp k=sp[k].l+fW b ts sp[k]:=by
  unfold iS;rw [gE hk]
 rw [e,e2];have h0:0≤fW b ts sp[k]:=by unfold fW;exact cR _ (by lia)
 have h1:¬ (sp[k].o - sp[k].l<fW b ts sp[k]):=by
  unfold jB at hf;rw [gH,gG] at hf;have:=hf sp[k] (bH hk);unfold brk at this
  simpa using this
 exact ⟨by show sp[k].l≤_;lia,by show _≤sp[k].o;lia⟩
theorem inB_one {y:Nat→Int}{bs:List (Int×Int)}{k:Nat}{a:Int}(h:InB y bs)(ha:y k≤a):InB y (lL bs k a):=fun j hj=>by
 rw [one_len] at hj;have hh:=h j hj;unfold lL;rw [ai]
 by_cases e:k=j
 ·subst e
  rw [eI hj];exact ⟨hh.1,ha⟩
 ·rw [eu e,←ai]
  exact hh
theorem inB_other {y:Nat→Int}{bs:List (Int×Int)}{k:Nat}{a:Int}(h:InB y bs)(ha:a+1≤y k):InB y (fA bs k a):=fun j hj=>by
 rw [other_len] at hj;have hh:=h j hj;unfold fA;rw [ai]
 by_cases e:k=j
 ·subst e
  rw [eI hj];exact ⟨ha,hh.2⟩
 ·rw [eu e,←ai]
  exact hh
theorem alg_way {b:Int}{ts:List Int}{sp:List Sn}:∀ (ws:List Stp) (x z:Int),qo sp.length ws→Along sp x ws z→∃ Z,alg (iS b ts sp) ws=tm ts z - tm ts x+b * Z
 | [],x,z,_,h=>by
  have h:x=z:=h;subst h;exact ⟨0,by show (0:Int)=_;rw [ie];lia⟩
 | s::ws,x,z,hw,h=>by
  obtain ⟨h1,h2⟩:=h;obtain ⟨Z,hZ⟩:=alg_way (b:=b) (ts:=ts) ws _ z (fun t ht=>hw t (aw _ ht)) h2;obtain ⟨hs,hd⟩:=hw s (by simp);obtain ⟨i,d⟩:=s;have hs:i<sp.length:=hs;have hd:d=1∨d= -1:=hd;have e2:iS b ts sp i=sp[i].l+fW b ts sp[i]:=by
   unfold iS;rw [gE hs]
  have hm:=gn (tm ts sp[i].g - tm ts sp[i].s - sp[i].l) b;show ∃ Z,d * iS b ts sp i+alg (iS b ts sp) ws=_;rw [hZ,e2];unfold fW;rw [kT hs] at *;rw [mL hs] at h1;unfold frm at h1;unfold too at *;generalize (tm ts sp[i].g - tm ts sp[i].s - sp[i].l) / b=q at hm;generalize (tm ts sp[i].g - tm ts sp[i].s - sp[i].l) % b=r at hm ⊢
  rcases hd with rfl | rfl
  ·rw [q9 rfl] at h1 ⊢
   subst h1;exact ⟨Z - q,by rw [Int.mul_sub];lia⟩
  ·rw [qZ (by decide)] at h1 ⊢
   subst h1;exact ⟨Z+q,by rw [ji b Z q];lia⟩
theorem alg_lo {y:Nat→Int}{bs:List (Int×Int)}(h:InB y bs):∀ (ws:List Stp),qo bs.length ws→fh bs ws≤alg y ws∧alg y ws≤gM bs ws
 | [],_=>⟨gh _,gh _⟩
 | s::ws,hw=>by
  obtain ⟨i1,i2⟩:=alg_lo h ws fun t ht=>hw t (aw _ ht)
  obtain ⟨hs,hd⟩:=hw s (by simp);obtain ⟨b1,b2⟩:=h s.i hs;have e:bs.getD s.i (0,0)=bs[s.i]:=by rw [ai,gE hs];rfl
  rw [e] at b1 b2;have e1:fh bs (s::ws)=oG bs s+fh bs ws:=rfl;have e2:gM bs (s::ws)=kf bs s+gM bs ws:=rfl;have f1:oG bs s=if s.d=1 then bs[s.i].1 else -bs[s.i].2:=by unfold oG;rw [gE hs]
  have f2:kf bs s=if s.d=1 then bs[s.i].2 else -bs[s.i].1:=by unfold kf;rw [gE hs]
  rw [e1,e2,f1,f2];show _≤s.d * y s.i+alg y ws∧s.d * y s.i+alg y ws≤_
  rcases hd with d1 | d1
  ·rw [d1,q9 rfl,q9 rfl];lia
  ·rw [d1,qZ (by decide),qZ (by decide)];lia
theorem ring_in {bs:List (Int×Int)}{ws:List Stp}(hb:0<b)(hl:bs.length=sp.length)(h:InB (iS b ts sp) bs)(hr:Rg sp ws) :
  ∃ Z,alg (iS b ts sp) ws=b * Z∧upB b (fh bs ws)≤Z∧Z≤gM bs ws / b:=by
 obtain ⟨x,hx⟩:=hr.rnd;obtain ⟨Z,hZ⟩:=alg_way (b:=b) (ts:=ts) ws x x hr.inn hx;obtain ⟨l1,l2⟩:=alg_lo h ws (by rw [hl];exact hr.inn);have e:alg (iS b ts sp) ws=b * Z:=by lia
 rw [e] at l1 l2;refine ⟨Z,e,?_,?_⟩
 ·unfold upB
  have: -Z≤ -fh bs ws / b:=by
   rw [Int.le_ediv_iff_mul_le hb,Int.neg_mul,Int.mul_comm Z b];lia
  lia
 ·rw [Int.le_ediv_iff_mul_le hb,Int.mul_comm Z b];exact l2
theorem wait_sum:gq b ts sp=mw (fun k=>wOf sp k * iS b ts sp k - wOf sp k * lOf sp k) sp.length:=by
 unfold gq;have:=sumN_list (fun x:Sn=>x.w * fW b ts x) sp sp.length (aC _);rw [bc] at this;rw [this];refine j5 _ fun k hk=>?_
 unfold wOf iS lOf;rw [gE hk];show sp[k].w * fW b ts sp[k]=sp[k].w * (sp[k].l+fW b ts sp[k]) - sp[k].w * sp[k].l;rw [ji];lia
theorem rows_in {b:Int}{ts:List Int}{sp:List Sn}{bs:List (Int×Int)}(hb:0<b)(hl:bs.length=sp.length)(h:InB (iS b ts sp) bs):∀ (rows:List (Int×List Stp)),(∀ r∈rows,RowOk b sp bs r)→algR (iS b ts sp) rows=oA b bs rows
 | [],_=>rfl
 | r::rows,hr=>by
  obtain ⟨h1,h2,_⟩:=hr r (by simp);obtain ⟨Z,e,z1,z2⟩:=ring_in hb hl h h1;have h2:=rj h2;have ez:Z=upB b (fh bs r.2):=by lia
  have ih:=rows_in hb hl h rows fun t ht=>hr t (aw _ ht)
  have e3:oA b bs (r::rows)=r.1 * upB b (fh bs r.2) * b+oA b bs rows:=rfl;show r.1 * alg (iS b ts sp) r.2+algR (iS b ts sp) rows=_;rw [e3,ih,e,ez,Int.mul_comm b,Int.mul_assoc]
def longer (b:Nat)(tt:List (List Int)):List (List Int):=tt.flatMap fun t=>(aQ b).map fun c:Nat=>t++[(0:Int)+(c:Nat)]
def allT (b:Nat):Nat→List (List Int)
 | 0=>[[]]
 | n+1=>longer b (allT b n)
theorem Held.more {tk':List Nat}{x y:Int}(h:∀ i∈tk,i∈tk')(k:Held sp tk x y):Held sp tk' x y:=fun S hS=>k S fun i hi=>hS i (h i hi)
theorem Held.trans {x y:Int}(a:Held sp tk x y)(c:Held sp tk y z):Held sp tk x z:=fun S hS h=>c S hS (a S hS h)
theorem Held.symm {x y:Int}(a:Held sp tk x y):Held sp tk y x:=fun S hS h=>fm fun n=>a (fun z=>¬ S z) (fun i hi=>not_congr (hS i hi)) n h
inductive Acy (sp:List Sn):List Nat→Prop where
 | nil:Acy sp []
 | snoc {tk:List Nat} {k:Nat} (h:Acy sp tk) (hk:k<sp.length) (s:∃ S:Int→Prop,(∀ i∈tk,S (sAt sp i).s↔S (sAt sp i).g)∧S (sAt sp k).s∧¬ S (sAt sp k).g):Acy sp (tk++[k])
theorem Acy.pot (h:Acy sp tk)(y:Nat→Int):∃ π:Int→Int,∀ i∈tk,π (sAt sp i).g - π (sAt sp i).s=y i:=by
 induction h with
 | nil=>exact ⟨fun _=>0,fun _ h=>rd h (by simp)⟩
 | snoc h hk s ih =>
  rename_i tk k;obtain ⟨π,hπ⟩:=ih;obtain ⟨S,hS,s1,s2⟩:=s;have dec:∀ x,Decidable (S x):=fun x=>Classical.propDecidable _
  refine ⟨fun x=>if S x then π x else π x+(y k - (π (sAt sp k).g - π (sAt sp k).s)),fun i hi=>?_⟩
  rcases aN.mp hi with hi | hi
  ·have e:=hπ i hi
   have f:=hS i hi;show (if S (sAt sp i).g then _ else _) - (if S (sAt sp i).s then _ else _)=_
   by_cases c:S (sAt sp i).s
   ·rw [q9 c,q9 (f.mp c)];exact e
   ·rw [qZ c,qZ (fun z=>c (f.mpr z))];lia
  ·rw [ax.mp hi]
   show (if S (sAt sp k).g then _ else _) - (if S (sAt sp k).s then _ else _)=_;rw [qZ s2,q9 s1];lia
theorem Acy.nodup (h:Acy sp tk):tk.Nodup∧∀ i∈tk,i<sp.length:=by
 induction h with
 | nil=>exact ⟨List.nodup_nil,fun _ h=>rd h (by simp)⟩
 | snoc h hk s ih =>
  rename_i tk k;obtain ⟨S,hS,s1,s2⟩:=s;refine ⟨iB.mpr ⟨ih.1,by simp,fun a ha c hc e=>?_⟩,fun i hi=>?_⟩
  ·rw [ax.mp hc] at e
   subst e;exact s2 ((hS _ ha).mp s1)
  ·rcases aN.mp hi with hi | hi
   ·exact ih.2 i hi
   ·rw [ax.mp hi];exact hk
structure Pots (sp:List Sn)(tk:List Nat):Prop where
 nodup:tk.Nodup∧∀ i∈tk,i<sp.length
 pot:∀ y:Nat→Int,∃ π:Int→Int,∀ i∈tk,π (sAt sp i).g - π (sAt sp i).s=y i
theorem Acy.pots (h:Acy sp tk):Pots sp tk:=⟨h.nodup,h.pot⟩
theorem Pots.perm (h:Pots sp tk)(p:l.Perm tk):Pots sp l :=
 ⟨⟨p.nodup_iff.mpr h.nodup.1,fun i hi=>h.nodup.2 i (p.mem_iff.mp hi)⟩,fun y=>let ⟨π,k⟩:=h.pot y;⟨π,fun i hi=>k i (p.mem_iff.mp hi)⟩⟩
structure Gd (m:Nat)(sp:List Sn)(gs:List Int)(tk:List Nat):Prop where
 len:gs.length=m
 eq:∀ i∈tk,tm gs (sAt sp i).s=tm gs (sAt sp i).g
 held:∀ x y:Int,0≤x→x<m→0≤y→y<m→tm gs x=tm gs y→Held sp tk x y
 acy:Acy sp tk
 cnt:Cnt m gs tk.length
theorem Gd.start (m:Nat)(sp:List Sn):Gd m sp (kt m) []:=by
 refine ⟨lg m,fun _ h=>rd h (by simp),fun x y x0 x1 y0 y1 e=>?_,.nil,Cnt.start m⟩;rw [nS x0 x1,nS y0 y1] at e;subst e;exact fun S _ h=>h
theorem Gd.step (E:Ends m sp)(g:Gd m sp gs tk)(hi:i<sp.length):Gd m sp (gi sp (gs,tk) i).1 (gi sp (gs,tk) i).2:=by
 obtain ⟨s0,s1,g0,g1⟩:=E _ (eQ hi);unfold gi
 by_cases e:tm gs (sAt sp i).s=tm gs (sAt sp i).g
 ·rw [q9 e];exact g
 ·rw [qZ e]
  have l:=g.len;have old:∀ j∈tk,j<sp.length:=g.acy.nodup.2;have jt:∀ x:Int,0≤x→x<m→tm (i4 gs (tm gs (sAt sp i).s) (tm gs (sAt sp i).g)) x=if tm gs x=tm gs (sAt sp i).g then tm gs (sAt sp i).s else tm gs x:=fun x x0 x1=>kU x0 (by lia)
  have up:∀ {x y:Int},Held sp tk x y→Held sp (tk++[i]) x y:=fun h=>h.more fun j hj=>aM _ hj
  have ed:Held sp (tk++[i]) (sAt sp i).s (sAt sp i).g:=fun S hS h=>(hS i (aA _ (ax.mpr rfl))).mp h
  refine ⟨by show (i4 _ _ _).length=m;rw [lX];exact l,fun j hj=>?_,fun x y x0 x1 y0 y1 h=>?_,.snoc g.acy hi ⟨fun x=>tm gs x=tm gs (sAt sp i).s,fun j hj=>by show tm gs _=_↔tm gs _=_;rw [g.eq j hj],rfl,fun z=>e z.symm⟩,?_⟩
  ·show tm (i4 _ _ _) _=tm (i4 _ _ _) _
   rcases aN.mp hj with hj | hj
   ·obtain ⟨a0,a1,b0,b1⟩:=E _ (eQ (old j hj))
    rw [jt _ a0 a1,jt _ b0 b1,g.eq j hj]
   ·rw [ax.mp hj,jt _ s0 s1,jt _ g0 g1,q9 rfl,qZ e]
  ·have h:tm (i4 _ _ _) x=tm (i4 _ _ _) y:=h
   rw [jt x x0 x1,jt y y0 y1] at h;show Held sp (tk++[i]) x y
   by_cases c1:tm gs x=tm gs (sAt sp i).g
   ·by_cases c2:tm gs y=tm gs (sAt sp i).g
    ·exact up (g.held x y x0 x1 y0 y1 (c1.trans c2.symm))
    ·rw [q9 c1,qZ c2] at h
     exact (up (g.held x _ x0 x1 g0 g1 c1)).trans (ed.symm.trans (up (g.held _ y s0 s1 y0 y1 h)))
   ·by_cases c2:tm gs y=tm gs (sAt sp i).g
    ·rw [qZ c1,q9 c2] at h
     exact (up (g.held x _ x0 x1 s0 s1 h)).trans (ed.trans (up (g.held _ y g0 g1 y0 y1 c2.symm)))
    ·rw [qZ c1,qZ c2] at h
     exact up (g.held x y x0 x1 y0 y1 h)
  ·show Cnt m (i4 _ _ _) (tk++[i]).length
   rw [av];exact g.cnt.join (qA s0 (by lia)) (qA g0 (by lia)) e
theorem Gd.fold {m:Nat}{sp:List Sn}(E:Ends m sp):∀ (π:List Nat) (gs:List Int) (tk:List Nat),(∀ i∈π,i<sp.length)→Gd m sp gs tk→Gd m sp (π.foldl (gi sp) (gs,tk)).1 (π.foldl (gi sp) (gs,tk)).2
 | [],_,_,_,g=>g
 | i::π,gs,tk,h,g=>by
  rw [bQ];exact Gd.fold E π _ _ (fun j hj=>h j (aw _ hj)) (g.step E (h i (by simp)))
theorem Gd.few (g:Gd m sp gs tk)(h:0<m):tk.length<m:=by
 obtain ⟨D,_,mem,l⟩:=g.cnt;have:D≠[]:=fun z=>by
  have h0:tm gs 0∈gs:=qA (gh 0) (by rw [g.len];lia);have:=(mem _).mpr h0;rw [z] at this;cases this
 have:=List.length_pos_iff.mpr this;lia
structure RK (sp:List Sn)(tk:List Nat)(q:Nat×List Stp):Prop where
 lt:q.1<sp.length
 out:q.1 ∉ tk
 way:∃ p,q.2=⟨q.1,1⟩::p∧Pth sp tk (sAt sp q.1).g (sAt sp q.1).s p
theorem RK.rg {m:Int}{q:Nat×List Stp}(N:NetT b m sp)(h:RK sp tk q)(hl:tk.length≤15):Rg sp q.2:=by
 obtain ⟨p,e,P⟩:=h.way;have hk:=h.lt;have eA:sAt sp q.1=sp[q.1]:=by unfold sAt;rw [ai,gE hk];rfl
 rw [e];refine Bk.ring hk (N.all _ (bH hk)).ne ⟨fun s hs=>(P.inn s hs).2,by rw [←eA];exact P.alo,P.one,fun s hs z=>?_⟩ ?_
 ·have z:s.i=q.1:=by lia
  exact h.out (z ▸ (P.inn s hs).1)
 ·have hn:((p.map Stp.i).map fun n:Nat=>(n:Int)).Nodup:=by
   rw [bV,fk];exact (bV.mp P.one).imp fun hh e=>hh (by lia)
  have:=mx (l:=(p.map Stp.i).map fun n:Nat=>(n:Int)) (k:=tk.map fun n:Nat=>(n:Int)) hn fun x hx=>by
   obtain ⟨i,hi,rfl⟩:=bh.mp hx;obtain ⟨s,hs,rfl⟩:=bh.mp hi;exact bh.mpr ⟨_,(P.inn s hs).1,rfl⟩
  rw [aa,aa,aa] at this;lia
structure OB (sp:List Sn)(tk:List Nat)(bs:List (Int×Int)):Prop where
 len:bs.length=sp.length
 out:∀ k,k<sp.length→k ∉ tk→bs.getD k (0,0)=((sAt sp k).l,(sAt sp k).o)
 lo:∀ k,k<sp.length→(sAt sp k).l≤(bs.getD k (0,0)).1∧(bs.getD k (0,0)).1≤(bs.getD k (0,0)).2∧(bs.getD k (0,0)).2≤(sAt sp k).o
theorem iM {bs:List (Int×Int)}{k:Nat}{x:Int×Int}(hj:j<bs.length):(bs.set k x).getD j (0,0)=if k=j then x else bs.getD j (0,0):=by
 rw [ai]
 by_cases e:k=j
 ·subst e
  rw [eI hj,q9 rfl];rfl
 ·rw [eu e,qZ e,←ai]
theorem OB.one {bs:List (Int×Int)}{k:Nat}{a:Int}(h:OB sp tk bs)(hk:k∈tk)(hn:k<sp.length)(h1:(bs.getD k (0,0)).1≤a)(h2:a<(bs.getD k (0,0)).2):OB sp tk (lL bs k a):=by
 have l:=h.len;refine ⟨by rw [one_len];exact l,fun j hj hjn=>?_,fun j hj=>?_⟩
 ·unfold lL
  rw [iM (by lia),qZ (fun (z:k=j)=>hjn (z ▸ hk))];exact h.out j hj hjn
 ·unfold lL
  rw [iM (by lia)];have:=h.lo j hj
  by_cases e:k=j
  ·rw [q9 e]
   subst e;exact ⟨this.1,h1,by show a≤_;lia⟩
  ·rw [qZ e];exact this
theorem OB.other {bs:List (Int×Int)}{k:Nat}{a:Int}(h:OB sp tk bs)(hk:k∈tk)(hn:k<sp.length)(h1:(bs.getD k (0,0)).1≤a)(h2:a<(bs.getD k (0,0)).2):OB sp tk (fA bs k a):=by
 have l:=h.len;refine ⟨by rw [other_len];exact l,fun j hj hjn=>?_,fun j hj=>?_⟩
 ·unfold fA
  rw [iM (by lia),qZ (fun (z:k=j)=>hjn (z ▸ hk))];exact h.out j hj hjn
 ·unfold fA
  rw [iM (by lia)];have:=h.lo j hj
  by_cases e:k=j
  ·rw [q9 e]
   subst e;exact ⟨by show _≤a+1;lia,by show a+1≤(bs.getD k (0,0)).2;lia,this.2.2⟩
  ·rw [qZ e];exact this
theorem OB.first {m:Int}(N:NetT b m sp)(tk:List Nat):OB sp tk (sp.map fun x=>(x.l,x.o)):=by
 have e:∀ k,k<sp.length→(sp.map fun x=>(x.l,x.o)).getD k (0,0)=((sAt sp k).l,(sAt sp k).o):=fun k hk=>by
  rw [ai,az,jh hk];rfl
 refine ⟨aa ..,fun k hk _=>e k hk,fun k hk=>?_⟩;rw [e k hk];have:=N.all _ (eQ hk);exact ⟨gh _,this.lo,gh _⟩
def kZ (sp:List Sn)(rg:List (Nat×List Stp)):List (Int×List Stp):=rg.map fun q=>((sAt sp q.1).w,q.2)
structure Fx (b:Int)(tk:List Nat)(rg:List (Nat×List Stp))(bs:List (Int×Int)):Prop where
 fix:∀ k∈tk,(bs.getD k (0,0)).1=(bs.getD k (0,0)).2
 alive:∀ q∈rg,jC b bs q.2=false
structure FF (m:Int)(sp:List Sn)(tk:List Nat)(rg:List (Nat×List Stp)):Prop where
 acy:Pots sp tk
 few:(tk.length:Int)<m
 rk:∀ q∈rg,RK sp tk q
 all:∀ k,k<sp.length→k ∉ tk→∃ r,(k,r)∈rg
 one:(rg.map (·.1)).Nodup
theorem low_fix {bs:List (Int×Int)}{tk:List Nat}(h:∀ k∈tk,k<bs.length∧(bs.getD k (0,0)).1=(bs.getD k (0,0)).2):∀ (p:List Stp),(∀ s∈p,s.i∈tk∧(s.d=1∨s.d= -1))→fh bs p=alg (fun k=>(bs.getD k (0,0)).1) p∧gM bs p=alg (fun k=>(bs.getD k (0,0)).1) p
 | [],_=>⟨rfl,rfl⟩
 | s::p,hp=>by
  obtain ⟨i1,i2⟩:=low_fix h p fun t ht=>hp t (aw _ ht)
  obtain ⟨h1,h2⟩:=hp s (by simp);obtain ⟨h3,h4⟩:=h s.i h1;have e:bs.getD s.i (0,0)=bs[s.i]:=by rw [ai,gE h3];rfl
  have e1:fh bs (s::p)=oG bs s+fh bs p:=rfl;have e2:gM bs (s::p)=kf bs s+gM bs p:=rfl;have f1:oG bs s=if s.d=1 then bs[s.i].1 else -bs[s.i].2:=by unfold oG;rw [gE h3]
  have f2:kf bs s=if s.d=1 then bs[s.i].2 else -bs[s.i].1:=by unfold kf;rw [gE h3]
  rw [e] at h4;rw [e1,e2,f1,f2,i1,i2];show _=s.d * (bs.getD s.i (0,0)).1+_∧_=s.d * (bs.getD s.i (0,0)).1+_;rw [e]
  rcases h2 with d1 | d1
  ·rw [d1,q9 rfl,q9 rfl];lia
  ·rw [d1,qZ (by decide),qZ (by decide)];lia
theorem o9 {bs:List (Int×Int)}{q:Nat×List Stp}(h:RK sp tk q)(O:OB sp tk bs)(fix:∀ k∈tk,(bs.getD k (0,0)).1=(bs.getD k (0,0)).2) :
  ∃ p,q.2=⟨q.1,1⟩::p∧Pth sp tk (sAt sp q.1).g (sAt sp q.1).s p∧fh bs q.2=(sAt sp q.1).l+alg (fun k=>(bs.getD k (0,0)).1) p∧gM bs q.2=(sAt sp q.1).o+alg (fun k=>(bs.getD k (0,0)).1) p:=by
 obtain ⟨p,e,P⟩:=h.way;have hk:=h.lt;have l:=O.len;obtain ⟨a1,a2⟩:=low_fix (bs:=bs) (tk:=p.map Stp.i) (fun k hk'=>by
  obtain ⟨s,hs,rfl⟩:=bh.mp hk';exact ⟨by rw [l];exact (P.inn s hs).2.1,fix _ (P.inn s hs).1⟩) p fun s hs=>⟨bh.mpr ⟨s,hs,rfl⟩,(P.inn s hs).2.2⟩
 have eb:=O.out q.1 hk h.out;have hb:q.1<bs.length:=by lia
 have e0:bs.getD q.1 (0,0)=bs[q.1]:=by rw [ai,gE hb];rfl
 refine ⟨p,e,P,?_,?_⟩
 ·rw [e,show fh bs (⟨q.1,1⟩::p)=oG bs ⟨q.1,1⟩+fh bs p from rfl,a1]
  congr 1;unfold oG;show (match bs[q.1]? with | some p=>if (1:Int)=1 then p.1 else -p.2 | none=>0)=_;rw [gE hb];show (if (1:Int)=1 then bs[q.1].1 else _)=_;rw [q9 rfl,←e0,eb]
 ·rw [e,show gM bs (⟨q.1,1⟩::p)=kf bs ⟨q.1,1⟩+gM bs p from rfl,a2]
  congr 1;unfold kf;show (match bs[q.1]? with | some p=>if (1:Int)=1 then p.2 else -p.1 | none=>0)=_;rw [gE hb];show (if (1:Int)=1 then bs[q.1].2 else _)=_;rw [q9 rfl,←e0,eb]
theorem beat_one {hi:Int}(hb:0<b)(h:upB b lo≤hi / b)(hw:hi - lo<b):upB b lo=hi / b∧lo≤b * upB b lo∧b * upB b lo≤hi:=by
 have e:=gn (-lo) b;have r0:=cR (-lo) (by lia:b≠0);have r1:=cL (-lo) hb;have e':=gn hi b;have r0':=cR hi (by lia:b≠0);have r1':=cL hi hb;unfold upB at h ⊢;generalize -lo / b=u at *;generalize hi / b=v at *;have m1:b * -u= -(b * u):=Int.mul_neg ..;have h2:b * -u≤b * v:=eP h (by lia);refine ⟨?_,by lia,by lia⟩
 rcases Int.lt_or_le (-u) v with c | c
 ·have:b * (-u+1)≤b * v:=eP (by lia) (by lia)
  rw [ji,Int.mul_one] at this;lia
 ·lia
theorem fx_sure {m:Int}{rg:List (Nat×List Stp)}{bs:List (Int×Int)}(N:NetT b m sp)(f:FF m sp tk rg)(O:OB sp tk bs)(x:Fx b tk rg bs):LfOk b sp bs (.price (kZ sp rg)):=by
 have m2:=N.m2;have fw:=f.few;have tl:tk.length≤15:=by lia
 refine ⟨?_,fun r hr=>?_⟩
 ·show (rg.map _).length≤40
  rw [aa];have hn:((rg.map (·.1)).map fun n:Nat=>(n:Int)).Nodup:=by
   rw [bV,fk];exact (bV.mp f.one).imp fun hh e=>hh (by lia)
  have:=mx (l:=(rg.map (·.1)).map fun n:Nat=>(n:Int)) (k:=(aQ sp.length).map fun n:Nat=>(n:Int)) hn fun z hz=>by
   obtain ⟨i,hi,rfl⟩:=bh.mp hz;obtain ⟨q,hq,rfl⟩:=bh.mp hi;exact bh.mpr ⟨_,bT.mpr (f.rk q hq).lt,rfl⟩
  rw [aa,aa,aa,bx] at this;have:=N.few;lia
 ·obtain ⟨q,hq,rfl⟩:=bh.mp hr
  have K:=f.rk q hq;have sn:=N.all _ (eQ K.lt);refine ⟨K.rg N tl,?_,by have:=sn.w0;show -1000000000000≤(sAt sp q.1).w;lia,sn.w1⟩;obtain ⟨p,e,P,e1,e2⟩:=o9 K O x.fix;have al:=x.alive q hq;have al:¬ (upB b (fh bs q.2) > gM bs q.2 / b):=by
   unfold jC at al
   simpa using al
  show decide (upB b (fh bs q.2)=gM bs q.2 / b)=true;refine rf (beat_one (by have:=N.b1;lia) (by lia) ?_).1;have:=sn.ob;rw [e1,e2];lia
theorem alg_pot {sp:List Sn}{tk:List Nat}{y:Nat→Int}{π:Int→Int}(ht:∀ i∈tk,i<sp.length)(hπ:∀ i∈tk,π (sAt sp i).g - π (sAt sp i).s=y i):∀ (p:List Stp) (u z:Int),(∀ s∈p,s.i∈tk∧(s.d=1∨s.d= -1))→Along sp u p z→alg y p=π z - π u
 | [],u,z,_,a=>by
  have a:u=z:=a;subst a;show (0:Int)=_;lia
 | s::p,u,z,hp,a=>by
  obtain ⟨a1,a2⟩:=a;have ih:=alg_pot ht hπ p _ z (fun t h=>hp t (aw _ h)) a2;obtain ⟨h1,h2⟩:=hp s (by simp);obtain ⟨f1,f2,f3,f4⟩:=qR (ht s.i h1);have e:=hπ s.i h1;obtain ⟨i,d⟩:=s
  dsimp only at e f1 f2 f3 f4
  have h2:d=1∨d= -1:=h2;show d * y i+alg y p=_;rw [ih,←a1]
  rcases h2 with rfl | rfl
  ·rw [f1,f2];show 1 * y i+_=_;lia
  ·rw [f3,f4];show -1 * y i+_=_;lia
def potT (b:Int)(π:Int→Int)(m:Nat):List Int:=(aQ m).map fun x:Nat=>(π (x:Nat) - π 0) % b
theorem potT_at {π:Int→Int}{x:Int}(h0:0≤x)(h1:x<m):tm (potT b π m) x=(π x - π 0) % b:=by
 obtain ⟨n,rfl⟩:=cJ h0;unfold tm potT;rw [cQ,ai,az,gX (by lia)];rfl
theorem wait_pot {π:Int→Int}{x:Sn}(s0:0≤x.s)(s1:x.s<m)(g0:0≤x.g)(g1:x.g<m):fW b (potT b π m) x=(π x.g - π x.s - x.l) % b:=by
 unfold fW;rw [potT_at s0 s1,potT_at g0 g1,rest_two];congr 1;lia
theorem rest_in {Y l Z:Int}(h0:l≤Y)(h1:Y<l+b):(Y - b * Z - l) % b=Y - l:=by
 rw [show Y - b * Z - l=(Y - l)+b * (-Z) by rw [Int.mul_neg];lia,kO];exact jH (by lia) (by lia)
theorem sg_no {k:Nat}:∀ (p:List Stp),(∀ s∈p,s.i≠k)→sg k p=0
 | [],_=>rfl
 | s::p,h=>by
  show (if s.i=k then s.d else 0)+sg k p=0;rw [qZ (h s (by simp)),sg_no p fun t ht=>h t (aw _ ht)];rfl
theorem sgR_no {sp:List Sn}{tk:List Nat}{k:Nat}(hk:k ∉ tk):∀ (rg:List (Nat×List Stp)),(∀ q∈rg,RK sp tk q)→k ∉ rg.map (·.1)→sgR k (kZ sp rg)=0
 | [],_,_=>rfl
 | q::rg,h,hn=>by
  have ih:=sgR_no hk rg (fun t ht=>h t (aw _ ht)) fun z=>hn (aw _ z)
  show (sAt sp q.1).w * sg k q.2+sgR k (kZ sp rg)=0;obtain ⟨p,e,P⟩:=(h q (by simp)).way;rw [ih,e,sg_no _ fun s hs=>?_,ie];rfl
  rcases aG.mp hs with rfl | hs
  ·exact fun z=>hn (by show k∈q.1::_;rw [show k=q.1 from z.symm];simp)
  ·exact fun z=>hk (z ▸ (P.inn s hs).1)
theorem sgR_own {sp:List Sn}{tk:List Nat}{k:Nat}(hk:k ∉ tk):∀ (rg:List (Nat×List Stp)),(∀ q∈rg,RK sp tk q)→(rg.map (·.1)).Nodup→k∈rg.map (·.1)→sgR k (kZ sp rg)=(sAt sp k).w
 | [],_,_,h=>rd h (by simp)
 | q::rg,h,hn,hm=>by
  rw [cj,bJ] at hn;show (sAt sp q.1).w * sg k q.2+sgR k (kZ sp rg)=_;obtain ⟨p,e,P⟩:=(h q (by simp)).way;have hp:∀ s∈p,s.i≠k:=fun s hs z=>hk (z ▸ (P.inn s hs).1)
  have e2:sg k q.2=if q.1=k then 1 else 0:=by
   rw [e];show (if q.1=k then (1:Int) else 0)+sg k p=_;rw [sg_no p hp,Int.add_zero]
  rw [e2]
  by_cases c:q.1=k
  ·rw [q9 c,c,Int.mul_one,sgR_no hk rg (fun t ht=>h t (aw _ ht)) (c ▸ hn.1),Int.add_zero]
  ·rw [qZ c,ie,gc]
   exact sgR_own hk rg (fun t ht=>h t (aw _ ht)) hn.2 ((aG.mp hm).resolve_left fun z=>c z.symm)
theorem mem_allT {b:Nat}:∀ (n:Nat) (ts:List Int),ts.length=n→(∀ x∈ts,0≤x∧x<(b:Int))→ts∈allT b n
 | 0,ts,h,_=>by rw [jg.mp h];exact ax.mpr rfl
 | n+1,ts,h,hx=>by
  have hne:ts≠[]:=fun z=>by rw [z] at h;cases h
  have e:=List.dropLast_concat_getLast hne;have hd:ts.dropLast∈allT b n:=mem_allT n _ (by rw [List.length_dropLast];lia) fun x h'=>hx x ((List.dropLast_sublist _).subset h')
  obtain ⟨l0,l1⟩:=hx _ (List.getLast_mem hne);obtain ⟨c,hc⟩:=cJ l0;refine List.mem_flatMap.mpr ⟨ts.dropLast,hd,bh.mpr ⟨c,bT.mpr (by lia),?_⟩⟩;rw [gc];show ts.dropLast++[((c:Nat):Int)]=ts;rw [show ((c:Nat):Int)=ts.getLast hne from hc.symm];exact e
theorem tight {m:Int}{rg:List (Nat×List Stp)}{bs:List (Int×Int)}(N:NetT b m sp)(f:FF m sp tk rg)(O:OB sp tk bs)(x:Fx b tk rg bs) :
  ∃ ts∈allT b.toNat m.toNat,ts.getD 0 0=0∧jB b ts sp=true∧gq b ts sp=lM b sp bs (kZ sp rg):=by
 have hb:0<b:=by have:=N.b1;lia
 have m1:=N.m1;obtain ⟨ht1,ht2⟩:=f.acy.nodup;obtain ⟨π,hπ⟩:=f.acy.pot fun k=>(bs.getD k (0,0)).1
 have eW:∀ k,k<sp.length→fW b (potT b π m.toNat) (sAt sp k)=(π (sAt sp k).g - π (sAt sp k).s - (sAt sp k).l) % b:=fun k hk=>by
  have s:=N.all _ (eQ hk);exact wait_pot s.s0 (by have:=s.s1;lia) s.g0 (by have:=s.g1;lia)
 have key:∀ k,k<sp.length→∃ Y,fW b (potT b π m.toNat) (sAt sp k)=Y - (sAt sp k).l∧(bs.getD k (0,0)).1≤Y∧Y≤(bs.getD k (0,0)).2:=fun k hk=>by
  have s:=N.all _ (eQ hk);have lo:=O.lo k hk
  by_cases c:k∈tk
  ·have e:=hπ k c
   have fx:=x.fix k c;refine ⟨(bs.getD k (0,0)).1,?_,gh _,by lia⟩;rw [eW k hk,show π (sAt sp k).g - π (sAt sp k).s - (sAt sp k).l=(bs.getD k (0,0)).1 - b * 0 - (sAt sp k).l by rw [ie];lia];exact rest_in lo.1 (by have:=s.ob;lia)
  ·obtain ⟨r,hr⟩:=f.all k hk c
   have K:=f.rk _ hr;obtain ⟨p,e,P,e1,e2⟩:=o9 K O x.fix;have al:=x.alive _ hr;have al:¬ (upB b (fh bs r) > gM bs r / b):=by unfold jC at al;simpa using al
   obtain ⟨_,z1,z2⟩:=beat_one hb (lo:=fh bs r) (hi:=gM bs r) (by lia) (by
    have e1:fh bs r=_:=e1;have e2:gM bs r=_:=e2;have:=s.ob;rw [e1,e2];show (sAt sp k).o+_ - ((sAt sp k).l+_)<b;lia)
   have ea:=alg_pot ht2 hπ p _ _ (fun s hs=>⟨(P.inn s hs).1,(P.inn s hs).2.2⟩) P.alo;have e1:fh bs r=(sAt sp k).l+alg (fun k=>(bs.getD k (0,0)).1) p:=e1;have e2:gM bs r=(sAt sp k).o+alg (fun k=>(bs.getD k (0,0)).1) p:=e2;have ea:alg (fun k=>(bs.getD k (0,0)).1) p=π (sAt sp k).s - π (sAt sp k).g:=ea;have eo:=O.out k hk c;rw [eo];refine ⟨b * upB b (fh bs r) - alg (fun k=>(bs.getD k (0,0)).1) p,?_,by show (sAt sp k).l≤_;lia,by show _≤(sAt sp k).o;lia⟩;rw [eW k hk];have hs:=s.ob;have:=rest_in (b:=b) (Y:=b * upB b (fh bs r) - alg (fun k=>(bs.getD k (0,0)).1) p) (l:=(sAt sp k).l) (Z:=upB b (fh bs r)) (by lia) (by lia);rw [←this];congr 1;lia
 have lay:∀ k,k<sp.length→iS b (potT b π m.toNat) sp k=(sAt sp k).l+fW b (potT b π m.toNat) (sAt sp k):=fun k hk=>by
  unfold iS;rw [jh hk]
 have hin:InB (iS b (potT b π m.toNat) sp) bs:=fun k hk=>by
  have hk:k<sp.length:=by rw [←O.len];exact hk
  obtain ⟨Y,e,y1,y2⟩:=key k hk;rw [lay k hk,e]
  constructor <;> lia
 refine ⟨potT b π m.toNat,mem_allT _ _ (by unfold potT;rw [aa,bx]) (fun z hz=>?_),?_,?_,?_⟩
 ·obtain ⟨i,_,rfl⟩:=bh.mp hz
  have h0:=cR (π (i:Nat) - π 0) (by lia:b≠0);have h1:=cL (π (i:Nat) - π 0) hb;exact ⟨h0,by lia⟩
 ·have:=potT_at (b:=b) (π:=π) (m:=m.toNat) (x:=0) (gh 0) (by lia)
  rw [Int.sub_self,Int.zero_emod] at this;exact this
 ·unfold jB
  rw [gH,gG];intro s hs;obtain ⟨k,hk,rfl⟩:=List.getElem_of_mem hs;have eA:sAt sp k=sp[k]:=by unfold sAt;rw [ai,gE hk];rfl
  obtain ⟨Y,e,y1,y2⟩:=key k hk;have:=(O.lo k hk).2.2;rw [eA] at e this;unfold brk;rw [rh (by lia)];exact aV
 ·have rok:∀ r∈kZ sp rg,RowOk b sp bs r:=(fx_sure N f O x).2
  have rw1:∀ r∈kZ sp rg,RwOk sp.length r:=fun r hh=>by
   have q:=rok r hh;exact ⟨q.1.inn,q.1.one,q.1.few,q.2.2.1,q.2.2.2⟩
  have e1:=rows_in hb O.len hin _ rok;have e2:=sum_sgR (y:=iS b (potT b π m.toNat) sp) (n:=sp.length) (kZ sp rg) fun r hh s hs=>((rw1 r hh).inn s hs).1
  unfold lM;rw [l7,←e1,←e2,wait_sum,←oN];refine j5 _ fun k hk=>?_
  unfold termW;have eo:=owK_sg hk rw1;have hl:=hin k (by rw [O.len];exact hk);have ew:wOf sp k=(sAt sp k).w:=by unfold wOf;rw [jh hk]
  have keyo:owK sp (kZ sp rg) k * (if owK sp (kZ sp rg) k<0 then (bs.getD k (0,0)).2 else (bs.getD k (0,0)).1)=owK sp (kZ sp rg) k * iS b (potT b π m.toNat) sp k:=by
   by_cases c:k∈tk
   ·have fx:=x.fix k c
    have e:iS b (potT b π m.toNat) sp k=(bs.getD k (0,0)).1:=by lia
    rw [e];split
    ·rw [←fx]
    ·rfl
   ·have z:owK sp (kZ sp rg) k=0:=by
     obtain ⟨r,hr⟩:=f.all k hk c;rw [eo,ew,sgR_own c rg f.rk f.one (bh.mpr ⟨_,hr,rfl⟩),Int.sub_self]
    rw [z,fO,fO]
  have ex:owK sp (kZ sp rg) k * iS b (potT b π m.toNat) sp k=wOf sp k * iS b (potT b π m.toNat) sp k - sgR k (kZ sp rg) * iS b (potT b π m.toNat) sp k:=by rw [eo,Int.sub_mul]
  lia
def FrstL (m:Nat)(sp:List Sn)(l:List Nat):Prop:=IsFor m sp (l.map fun (i:Nat)=>(i:Int))∧∃ π,Ordd sp π∧l.Perm (kG sp m π).2
theorem pY:∀ {l k:List Nat},l.map (fun (i:Nat)=>(i:Int))=k.map (fun (i:Nat)=>(i:Int))→l=k
 | [],[],_=>rfl
 | [],_::_,h=>by cases h
 | _::_,[],h=>by cases h
 | a::l,b::k,h=>by
  rw [cj,cj] at h;injection h with h1 h2
  have h1:a=b:=by lia
  rw [h1,pY h2]
theorem FrstL.one {k:List Nat}(a:FrstL m sp l)(b:FrstL m sp k):l=k:=pY (IsFor.one a.1 b.1)
theorem FrstL.gd (E:Ends m sp)(a:FrstL m sp l):∃ gs tk,Gd m sp gs tk∧l.Perm tk∧∀ i,i<sp.length→tm gs (sAt sp i).s=tm gs (sAt sp i).g:=by
 obtain ⟨_,π,O,pm⟩:=a;refine ⟨(kG sp m π).1,(kG sp m π).2,Gd.fold E π _ _ (fun i hi=>O.lt hi) (Gd.start m sp),pm,fun i hi=>?_⟩;exact kE E π (kt m) [] (lg _) (fun i hi=>O.lt hi) i (O.1.mem_iff.mpr (bT.mpr hi))
theorem FrstL.pots (E:Ends m sp)(a:FrstL m sp l):Pots sp l:=by
 obtain ⟨gs,tk,g,p,_⟩:=a.gd E;exact g.acy.pots.perm p
theorem FrstL.few (E:Ends m sp)(h:0<m)(a:FrstL m sp l):l.length<m:=by
 obtain ⟨gs,tk,g,p,_⟩:=a.gd E;rw [p.length_eq];exact g.few h
theorem FrstL.held (E:Ends m sp)(a:FrstL m sp l){k:Nat}(hk:k<sp.length):Held sp l (sAt sp k).s (sAt sp k).g:=by
 obtain ⟨gs,tk,g,p,me⟩:=a.gd E;obtain ⟨s0,s1,g0,g1⟩:=E _ (eQ hk);exact (g.held _ _ s0 s1 g0 g1 (me k hk)).more fun i hi=>p.mem_iff.mpr hi
def pP (sp:List Sn)(tk:List Nat):List Nat:=(aQ sp.length).filter fun k=> !(decide (k∈tk))
structure FR (m:Int)(sp:List Sn)(l:List Nat)(rg:List (Nat×List Stp)):Prop where
 fr:FrstL m.toNat sp l
 rk:∀ q∈rg,RK sp l q
 ks:rg.map (·.1)=pP sp l
theorem FR.ff {m:Int}{rg:List (Nat×List Stp)}(N:NetT b m sp)(a:FR m sp l rg):FF m sp l rg:=by
 have m1:=N.m1;refine ⟨a.fr.pots N.ends,by have:=a.fr.few N.ends (by lia);lia,a.rk,fun k hk hn=>?_,?_⟩
 ·have:k∈rg.map (·.1):=by
   rw [a.ks];exact cA.mpr ⟨bT.mpr hk,by rw [rh hn];rfl⟩
  obtain ⟨q,hq,rfl⟩:=bh.mp this;exact ⟨q.2,hq⟩
 ·rw [a.ks]
  exact iN.filter _
def wayQ (q:Nat×List Stp):Dt:=mS q.2
def iK (k:Nat)(q:Nat×List Stp):Bool:=decide (k∈q.2.map Stp.i)
theorem Tb.lamT {T:ao}(h:L2.LamT T lp lq H)(e:L2.Tb T H H'):TupK H H':=Tb.tupK (LamT.tbl h) e
inductive oP (T:ao)(lp:Pos)(lq:Str)(vs:List V)(H:Hp)(Q:VK)(_:XK):Prop
 | mk (v:V)(b m:Int)(sp:List Sn)(_:vs=[v])(_:IsD H v (ka b m sp))(_:NetT b m sp)(_:L2.LamT T lp lq H)(_:∀ (L:ao) (rl:List V) (l:List Nat) (rg:List (Nat×List Stp)) (H':Hp),L2.Tb T H H'→L2.LamT T lp lq H'→H L=none→H' L=some (.lst rl)→IsDs H' rl (rg.map wayQ)→FR m sp l rg→Q (.ref L) H')
inductive spOverR (vs:List V)(H:Hp)(Q:VK)(_:XK):Prop
 | mk (u:ao)(k:Nat)(rl:List V)(rg:List (Nat×List Stp))(_:vs=[.ref u,.int (k:Nat)])(_:H u=some (.lst rl))(_:IsDs H rl (rg.map wayQ))(_:rg.length≤40)(_:(∀ q∈rg,q.2.length≤1000))(_:∀ (L:ao) (rl':List V) (H':Hp),Same H H'→H L=none→H' L=some (.lst rl')→IsDs H' rl' ((rg.filter (iK k)).map wayQ)→Q (.ref L) H')
structure CsD (H:Hp)(c:ao)(bs:List (Int×Int))(rs:List (Nat×List Stp)):Prop where
 ex:∃ vb u rl,H c=some (.tup [vb,.ref u])∧IsD H vb (bndP bs)∧H u=some (.lst rl)∧IsDs H rl (rs.map wayQ)
theorem CsD.same {c:ao}{bs:List (Int×Int)}(a:CsD H c bs rs)(e:Same H H'):CsD H' c bs rs:=by
 obtain ⟨vb,u,rl,h1,h2,h3,h4⟩:=a.ex;exact ⟨vb,u,rl,e _ _ h1,h2.same e,e _ _ h3,h4.same e⟩
inductive spMid (vs:List V)(H:Hp)(Q:VK)(_:XK):Prop
 | mk (c:ao)(k:Nat)(bs:List (Int×Int))(rs:List (Nat×List Stp))(_:vs=[.ref c,.int (k:Nat)])(_:CsD H c bs rs)(_:k<bs.length)(_:Q (.int (((bs.getD k (0,0)).1+(bs.getD k (0,0)).2) / 2)) H)
inductive pB (vs:List V)(H:Hp)(Q:VK)(_:XK):Prop
 | mk (v:V)(c:ao)(b m:Int)(sp:List Sn)(bs:List (Int×Int))(rs:List (Nat×List Stp))(_:vs=[v,.ref c])(_:IsD H v (ka b m sp))(_:0<b)(_:b<10 ^ 61)(_:CsD H c bs rs)(_:rs.length≤40)(_:(∀ q∈rs,qo bs.length q.2))(_:∀ r H',Same H H'→((r= .non∧∀ q∈rs,jC b bs q.2=false)∨∃ q∈rs,IsD H' r (leafP (.ring q.2))∧jC b bs q.2=true)→Q r H')
inductive Spr (sp:List Sn):List Stp→Prop where
 | nil:Spr sp []
 | snoc {S:List Stp} {s:Stp} (h:Spr sp S) (n:fF sp s≠lI sp s) (o:∀ t∈S,fF sp s≠fF sp t∧fF sp s≠lI sp t):Spr sp (S++[s])
structure SI (m:Nat)(sp:List Sn)(tk:List Nat)(ex:Int→Prop)(R A:List Int)(S:List Stp):Prop where
 rng:∀ r∈R,0≤r∧r<(m:Int)
 nd:R.Nodup
 ahd:∀ a∈A,a∈R
 inn:∀ s∈S,s.i∈tk∧(s.d=1∨s.d= -1)∧lI sp s∈R∧fF sp s∈R
 spr:Spr sp S
 len:S.length≤R.length
 clo:∀ z∈R,z ∉ A→¬ ex z→∀ s∈d9 sp tk z,s.i∈S.map Stp.i
 con:∀ π:Int→Int,(∀ s∈S,π (lI sp s)=π (fF sp s))→∀ a c,(a∈A∨ex a)→(c∈A∨ex c)→π a=π c
def exN:Int→Prop:=fun _=>False
section
variable {R A:List Int}
theorem SI.start:SI m sp tk exN [] [] [] :=
 ⟨fun _ h=>(by cases h),List.nodup_nil,fun _ h=>(by cases h),fun _ h=>(by cases h),.nil,aC _,fun _ h=>(by cases h),fun _ _ a c h=>(by rcases h with h | h;cases h;cases h)⟩
theorem SI.root {x:Int}(h:SI m sp tk exN R [] S)(hx:x ∉ R)(x0:0≤x)(x1:x<(m:Int)):SI m sp tk exN (R++[x]) [x] S:=by
 refine ⟨fun r hr=>?_,iB.mpr ⟨h.nd,by simp,fun a ha c hc e=>?_⟩,fun a ha=>aA _ ha,fun s hs=>?_,h.spr,by rw [av];exact Nat.le_succ_of_le h.len,fun z hz hn ex=>?_,fun π _ a c ha hc=>?_⟩
 ·rcases aN.mp hr with z | z
  ·exact h.rng r z
  ·rw [ax.mp z];exact ⟨x0,x1⟩
 ·rw [ax.mp hc] at e
  exact hx (e ▸ ha)
 ·obtain ⟨a,b,c,d⟩:=h.inn s hs
  exact ⟨a,b,aM _ c,aM _ d⟩
 ·rcases aN.mp hz with y | y
  ·exact h.clo z y (by simp) ex
  ·exact rd y hn
 ·rcases ha with ha | ha
  ·rcases hc with hc | hc
   ·rw [ax.mp ha,ax.mp hc]
   ·exact hc.elim
  ·exact ha.elim
theorem SI.pop {x:Int}(h:SI m sp tk exN R (A++[x]) S):SI m sp tk (· =x) R A S∧x∈R:=by
 refine ⟨⟨h.rng,h.nd,fun a ha=>h.ahd a (aM _ ha),h.inn,h.spr,h.len,fun z hz hn ex=>?_,fun π hπ a c ha hc=>?_⟩,h.ahd x (by simp)⟩
 ·refine h.clo z hz (fun y=>?_) id
  rcases aN.mp y with y | y
  ·exact hn y
  ·exact ex (ax.mp y)
 ·have up:∀ a:Int,(a∈A∨a=x)→a∈A++[x]∨exN a:=fun a ha=> .inl (ha.elim (fun z=>aM _ z) fun z=>by rw [z];simp)
  exact h.con π hπ a c (up a ha) (up c hc)
theorem nU {x:Int}{s:Stp}(h:s∈d9 sp tk x):(s.i∈tk∧(s.d=1∨s.d= -1))∧lI sp s=x :=
 ⟨mem_stF (cA.mp h).1,rj (cA.mp h).2⟩
theorem pe {x:Int}(h:i∈tk)(hd:d=1∨d= -1)(e:lI sp ⟨i,d⟩=x):(⟨i,d⟩:Stp)∈d9 sp tk x:=by
 refine cA.mpr ⟨?_,rf e⟩;unfold stF
 rcases hd with rfl | rfl
 ·exact aM _ (bh.mpr ⟨i,h,rfl⟩)
 ·exact aA _ (bh.mpr ⟨i,h,rfl⟩)
theorem SI.add {x:Int}{s:Stp}(E:Ends m sp)(ht:∀ i∈tk,i<sp.length)(h:SI m sp tk (· =x) R A S)(hx:x∈R)(hs:s∈d9 sp tk x)(hn:fF sp s ∉ R):SI m sp tk (· =x) (R++[fF sp s]) (A++[fF sp s]) (S++[s]):=by
 obtain ⟨⟨h1,h2⟩,h3⟩:=nU hs;refine ⟨fun r hr=>?_,iB.mpr ⟨h.nd,by simp,fun a ha c hc e=>?_⟩,fun a ha=>?_,fun t hT=>?_,.snoc h.spr (fun z=>hn (by rw [z,h3];exact hx)) (fun t hT=>⟨fun z=>hn (by rw [z];exact (h.inn t hT).2.2.2),fun z=>hn (by rw [z];exact (h.inn t hT).2.2.1)⟩),by rw [av,av];exact jT h.len,fun z hz hz' ex t hT=>?_,fun π hπ=>?_⟩
 ·rcases aN.mp hr with z | z
  ·exact h.rng r z
  ·rw [ax.mp z];exact l4 E (ht _ h1)
 ·rw [ax.mp hc] at e
  exact hn (e ▸ ha)
 ·rcases aN.mp ha with z | z
  ·exact aM _ (h.ahd a z)
  ·exact aA _ z
 ·rcases aN.mp hT with z | z
  ·obtain ⟨a,b,c,d⟩:=h.inn t z
   exact ⟨a,b,aM _ c,aM _ d⟩
  ·rw [ax.mp z]
   exact ⟨h1,h2,aM _ (h3 ▸ hx),by simp⟩
 ·rw [ay]
  refine aM _ ?_
  rcases aN.mp hz with y | y
  ·exact h.clo z y (fun y'=>hz' (aM _ y')) ex t hT
  ·exact rd (aA _ y) hz'
 ·have old:∀ t∈S,π (lI sp t)=π (fF sp t):=fun t hT=>hπ t (aM _ hT)
  have new:π (fF sp s)=π x:=by rw [←hπ s (by simp),h3]
  have one:∀ a:Int,(a∈A++[fF sp s]∨a=x)→π a=π x:=fun a ha=>by
   rcases ha with ha | ha
   ·rcases aN.mp ha with z | z
    ·exact h.con π old a x (.inl z) (.inr rfl)
    ·rw [ax.mp z,new]
   ·rw [ha]
  exact fun a c ha hc=>(one a ha).trans (one c hc).symm
theorem SI.has {x:Int}{s:Stp}(P:Pots sp tk)(ne:∀ i∈tk,(sAt sp i).s≠(sAt sp i).g)(h:SI m sp tk (· =x) R A S)(hs:s∈d9 sp tk x)(hn:fF sp s∈R):s.i∈S.map Stp.i:=by
 obtain ⟨⟨h1,h2⟩,h3⟩:=nU hs;have lt:=P.nodup.2 _ h1;obtain ⟨f1,f2,f3,f4⟩:=qR lt;have hne:=ne _ h1;obtain ⟨i,d⟩:=s;have h2:d=1∨d= -1:=h2;show i∈_;have h1:i∈tk:=h1;have f1:lI sp ⟨i,1⟩=(sAt sp i).s:=f1;have f2:fF sp ⟨i,1⟩=(sAt sp i).g:=f2;have f3:lI sp ⟨i,-1⟩=(sAt sp i).g:=f3;have f4:fF sp ⟨i,-1⟩=(sAt sp i).s:=f4;have hne:(sAt sp i).s≠(sAt sp i).g:=hne
 by_cases c:fF sp ⟨i,d⟩∈A
 ·refine fm fun no=>?_
  obtain ⟨π,hπ⟩:=P.pot fun k=>if k=i then 1 else 0
  have e:=h.con π (fun t hT=>by
   obtain ⟨t1,t2,_⟩:=h.inn t hT;have e:=hπ _ t1;rw [qZ (fun z=>no (bh.mpr ⟨t,hT,z⟩))] at e;obtain ⟨g1,g2,g3,g4⟩:=qR (P.nodup.2 _ t1);obtain ⟨j,dj⟩:=t;have t2:dj=1∨dj= -1:=t2
   dsimp only at e g1 g2 g3 g4
   rcases t2 with rfl | rfl
   ·rw [g1,g2];lia
   ·rw [g3,g4];lia) _ x (.inl c) (.inr rfl)
  have y:=hπ i h1;rw [q9 rfl] at y;rw [←h3] at e
  rcases h2 with rfl | rfl
  ·rw [f1,f2] at e
   dsimp only at e y
   lia
  ·rw [f3,f4] at e
   dsimp only at e y
   lia
 ·rcases h2 with rfl | rfl
  ·rw [f2] at hn c
   exact h.clo _ hn c (fun z=>hne (by rw [←f1,h3];exact z.symm)) ⟨i,-1⟩ (pe h1 (.inr rfl) f3)
  ·rw [f4] at hn c
   exact h.clo _ hn c (fun z=>hne (by rw [←f3,h3];exact z)) ⟨i,1⟩ (pe h1 (.inl rfl) f1)
theorem SI.done {x:Int}(h:SI m sp tk (· =x) R A S)(a:∀ s∈d9 sp tk x,s.i∈S.map Stp.i):SI m sp tk exN R A S:=by
 refine ⟨h.rng,h.nd,h.ahd,h.inn,h.spr,h.len,fun z hz hn _=>?_,fun π hπ a c ha hc=>h.con π hπ a c (.inl (ha.elim id df)) (.inl (hc.elim id df))⟩
 by_cases e:z=x
 ·rw [e];exact a
 ·exact h.clo z hz hn e
theorem SI.few (h:SI m sp tk exN R A S):R.length≤m:=by
 have:=mx (k:=(aQ m).map fun i:Nat=>(i:Int)) h.nd fun x hx=>by
  obtain ⟨a,b⟩:=h.rng x hx;exact bh.mpr ⟨x.toNat,bT.mpr (by lia),by lia⟩
 rwa [aa,bx] at this
theorem SI.fewX {x:Int}(h:SI m sp tk (· =x) R A S):R.length≤m:=by
 have:=mx (k:=(aQ m).map fun i:Nat=>(i:Int)) h.nd fun x hx=>by
  obtain ⟨a,b⟩:=h.rng x hx;exact bh.mpr ⟨x.toNat,bT.mpr (by lia),by lia⟩
 rwa [aa,bx] at this
end
structure SprOk (m:Nat)(sp:List Sn)(tk:List Nat)(S:List Stp):Prop where
 spr:Spr sp S
 inn:∀ s∈S,s.i∈tk∧(s.d=1∨s.d= -1)
 all:∀ i∈tk,i∈S.map Stp.i
 len:S.length≤m
theorem SI.ok {R:List Int}(E:Ends m sp)(ht:∀ i∈tk,i<sp.length)(h:SI m sp tk exN R [] S)(a:∀ x:Nat,x<m→(x:Int)∈R):SprOk m sp tk S:=by
 refine ⟨h.spr,fun s hs=>⟨(h.inn s hs).1,(h.inn s hs).2.1⟩,fun i hi=>?_,bo h.len h.few⟩;obtain ⟨s0,s1,_,_⟩:=E _ (eQ (ht i hi));obtain ⟨f1,_⟩:=qR (ht i hi);have:=a (sAt sp i).s.toNat (by lia);rw [show (((sAt sp i).s.toNat:Nat):Int)=(sAt sp i).s by lia] at this;exact h.clo _ this (by simp) id ⟨i,1⟩ (pe hi (.inl rfl) f1)
def setT (sp:List Sn)(y:Nat→Int)(ts:List Int)(s:Stp):List Int:=ts.set (fF sp s).toNat (tm ts (lI sp s)+s.d * y s.i)
def j4 (sp:List Sn)(y:Nat→Int)(m:Nat)(S:List Stp):List Int:=S.foldl (setT sp y) (bU m 0)
theorem l5 {sp:List Sn}{y:Nat→Int}{m:Nat}:∀ (S:List Stp) (ts:List Int),(S.foldl (setT sp y) ts).length=ts.length
 | [],_=>rfl
 | s::S,ts=>by
  rw [bQ,l5 (m:=m) S];exact fT
theorem tm_set {x v:Int}(x0:0≤x)(x1:x<ts.length)(z0:0≤z):tm (ts.set x.toNat v) z=if z=x then v else tm ts z:=by
 unfold tm;rw [ai,ai]
 by_cases e:z=x
 ·rw [q9 e,e,eI (by lia)];rfl
 ·rw [qZ e,eu (by lia)]
theorem tooS_sAt0 {s:Stp}(h:s.i<sp.length):too (sAt sp s.i) s.d=fF sp s∧frm (sAt sp s.i) s.d=lI sp s:=by
 have e:sAt sp s.i=sp[s.i]:=by unfold sAt;rw [ai,gE h];rfl
 rw [e];exact ⟨(kT h).symm,(mL h).symm⟩
theorem timesS_ok {y:Nat→Int}(E:Ends m sp)(h:Spr sp S):(∀ s∈S,s.i<sp.length)→∀ s∈S,tm (j4 sp y m S) (fF sp s)=tm (j4 sp y m S) (lI sp s)+s.d * y s.i:=by
 induction h with
 | nil=>exact fun _ s hs=>by cases hs
 | snoc h n o ih =>
  rename_i S s;intro hl t ht;have hl':∀ t∈S,t.i<sp.length:=fun t h'=>hl t (aM _ h')
  have frm_rng:∀ t:Stp,t.i<sp.length→0≤lI sp t:=fun t h'=>by
   have e:=(tooS_sAt0 h').2;obtain ⟨a,b,c,d⟩:=E _ (eQ h');rw [←e];unfold frm;split <;> lia
  have e:j4 sp y m (S++[s])=setT sp y (j4 sp y m S) s:=by unfold j4;rw [eN];rfl
  have hs:s.i<sp.length:=hl s (by simp);obtain ⟨x0,x1⟩:=l4 E hs;have len:(j4 sp y m S).length=m:=by unfold j4;rw [l5 (m:=m),iw]
  rw [e];unfold setT
  rcases aN.mp ht with z | z
  ·rw [tm_set x0 (by lia) (l4 E (hl' t z)).1,tm_set x0 (by lia) (frm_rng t (hl' t z)),qZ (fun q=>(o t z).1 q.symm),qZ (fun q=>(o t z).2 q.symm)]
   exact ih hl' t z
  ·rw [ax.mp z,tm_set x0 (by lia) x0,tm_set x0 (by lia) (frm_rng s hs),q9 rfl,qZ (fun q=>n q.symm)]
theorem SprOk.pot (E:Ends m sp)(ht:∀ i∈tk,i<sp.length)(h:SprOk m sp tk S)(y:Nat→Int):∀ i∈tk,tm (j4 sp y m S) (sAt sp i).g - tm (j4 sp y m S) (sAt sp i).s=y i:=fun i hi=>by
 obtain ⟨s,hs,rfl⟩:=bh.mp (h.all i hi);have e:=timesS_ok (y:=y) E h.spr (fun t hT=>ht _ (h.inn t hT).1) s hs;obtain ⟨f1,f2,f3,f4⟩:=qR (ht _ hi);have hd:=(h.inn s hs).2;obtain ⟨i,d⟩:=s
 dsimp only at e f1 f2 f3 f4 hd ⊢
 rcases hd with rfl | rfl
 ·rw [f1,f2] at e;lia
 ·rw [f3,f4] at e;lia
def lowB (bs:List (Int×Int))(k:Nat):Int:=(bs.getD k (0,0)).1
def tabOf (b:Int)(sp:List Sn)(bs:List (Int×Int))(m:Nat)(S:List Stp):List Int:=(j4 sp (lowB bs) m S).map (· % b)
abbrev Cse:=List (Int×Int)×List (Nat×List Stp)
def wdB (bs:List (Int×Int))(k:Nat):Nat:=((bs.getD k (0,0)).2 - (bs.getD k (0,0)).1+1).toNat
def prdN:List Nat→Nat
 | []=>1
 | x::l=>x * prdN l
def fN (bs:List (Int×Int))(l:List Nat):Nat:=prdN (l.map (wdB bs))
theorem nc {f g:Nat→Nat}:∀ (l:List Nat),(∀ j∈l,f j=g j)→prdN (l.map f)=prdN (l.map g)
 | [],_=>rfl
 | j::l,h=>by
  show f j * _=g j * _;rw [h j (by simp),nc l fun i hi=>h i (aw _ hi)]
theorem qN {f g h:Nat→Nat}{k:Nat}(e:f k=g k+h k):∀ (l:List Nat),l.Nodup→k∈l→(∀ j∈l,j≠k→f j=g j∧f j=h j)→prdN (l.map f)=prdN (l.map g)+prdN (l.map h)
 | [],_,hk,_=>rd hk (by simp)
 | j::l,nd,hk,hh=>by
  rw [bJ] at nd;show f j * _=g j * _+h j * _
  by_cases c:j=k
  ·subst c
   have ne:∀ i∈l,i≠j:=fun i hi z=>nd.1 (z ▸ hi)
   rw [←nc (f:=f) (g:=g) l fun i hi=>(hh i (aw _ hi) (ne i hi)).1,←nc (f:=f) (g:=h) l fun i hi=>(hh i (aw _ hi) (ne i hi)).2,e,Nat.add_mul]
  ·obtain ⟨a1,a2⟩:=hh j (by simp) c
   rw [qN e l nd.2 ((aG.mp hk).resolve_left fun z=>c z.symm) fun i hi=>hh i (aw _ hi),Nat.mul_add,←a1,←a2]
theorem prdN_pos {f:Nat→Nat}:∀ (l:List Nat),(∀ j∈l,0<f j)→0<prdN (l.map f)
 | [],_=>Nat.one_pos
 | j::l,h=>Nat.mul_pos (h j (by simp)) (prdN_pos l fun i hi=>h i (aw _ hi))
theorem i6 {bs:List (Int×Int)}(O:OB sp l bs)(hl:∀ k∈l,k<sp.length):0<fN bs l:=prdN_pos l fun j hj=>by
 have:=O.lo j (hl j hj);unfold wdB;lia
theorem mB {bs:List (Int×Int)}{k:Nat}{a:Int}(O:OB sp l bs)(nd:l.Nodup)(hl:∀ k∈l,k<sp.length)(hk:k∈l)(h1:(bs.getD k (0,0)).1≤a)(h2:a<(bs.getD k (0,0)).2):fN bs l=fN (lL bs k a) l+fN (fA bs k a) l:=by
 have hb:=O.len;have hkl:=hl k hk;refine qN ?_ l nd hk fun j hj hn=>?_
 ·unfold wdB lL fA
  rw [iM (by lia),iM (by lia),q9 rfl,q9 rfl];show _=(a - _+1).toNat+(_ - (a+1)+1).toNat;lia
 ·have hjl:=hl j hj
  unfold wdB lL fA;rw [iM (by lia),iM (by lia),qZ (bX hn),qZ (bX hn)];exact ⟨rfl,rfl⟩
theorem k3 {sp:List Sn}:∀ (l:List Nat),(∀ k∈l,k<sp.length)→(∀ x∈sp,x.l≤x.o)→((fN (sp.map fun x=>(x.l,x.o)) l:Nat):Int)=kz sp l
 | [],_,_=>rfl
 | k::l,h,p=>by
  have ih:=k3 l (fun j hj=>h j (aw _ hj)) p;rw [nX,←ih];show ((wdB _ k * fN _ l:Nat):Int)=_;have hk:=h k (by simp);have e:(sp.map fun x=>(x.l,x.o)).getD k (0,0)=((sAt sp k).l,(sAt sp k).o):=by rw [ai,az,jh hk];rfl
  have q:=p _ (eQ hk);have e2:((wdB (sp.map fun x=>(x.l,x.o)) k:Nat):Int)=(wkey sp k).1+1:=by
   unfold wdB;rw [e];show (((sAt sp k).o - (sAt sp k).l+1).toNat:Int)=(sAt sp k).o - (sAt sp k).l+1;lia
  rw [←e2];exact Int.natCast_mul _ _
structure CaseOk (b:Int)(sp:List Sn)(l:List Nat)(rg:List (Nat×List Stp))(c:Cse):Prop where
 ob:OB sp l c.1
 sub:∀ q∈c.2,q∈rg
 few:c.2.length≤40
 alive:∀ q∈rg,q ∉ c.2→jC b c.1 q.2=false
theorem low_set {bs:List (Int×Int)}{k:Nat}{x:Int×Int}:∀ (ws:List Stp),k ∉ ws.map Stp.i→fh (bs.set k x) ws=fh bs ws∧gM (bs.set k x) ws=gM bs ws
 | [],_=>⟨rfl,rfl⟩
 | s::ws,h=>by
  obtain ⟨i1,i2⟩:=low_set (x:=x) ws fun z=>h (aw _ z)
  have hs:k≠s.i:=fun z=>h (by rw [z];simp)
  have e:(bs.set k x)[s.i]? =bs[s.i]? := eu hs
  constructor
  ·show oG _ s+fh _ ws=oG _ s+fh _ ws
   rw [i1];congr 1;unfold oG;rw [e]
  ·show kf _ s+gM _ ws=kf _ s+gM _ ws
   rw [i2];congr 1;unfold kf;rw [e]
theorem dead_set {bs:List (Int×Int)}{k:Nat}{x:Int×Int}{q:Nat×List Stp}(h:iK k q=false):jC b (bs.set k x) q.2=jC b bs q.2:=by
 obtain ⟨a1,a2⟩:=low_set (bs:=bs) (x:=x) q.2 (of_decide_eq_false h);unfold jC;rw [a1,a2]
theorem CaseOk.cut {rg:List (Nat×List Stp)}{c:Cse}(C:CaseOk b sp l rg c)(lrg:rg.length≤40)(hl:∀ k∈l,k<sp.length)(al:∀ q∈c.2,jC b c.1 q.2=false){k:Nat}{a:Int}(hk:k∈l)(h1:(c.1.getD k (0,0)).1≤a)(h2:a<(c.1.getD k (0,0)).2) :
  CaseOk b sp l rg (fA c.1 k a,rg.filter (iK k))∧CaseOk b sp l rg (lL c.1 k a,rg.filter (iK k)):=by
 have sub:∀ q∈rg.filter (iK k),q∈rg:=fun q hq=>(cA.mp hq).1
 have few:(rg.filter (iK k)).length≤40:=bo (fB _ _) lrg;have all:∀ q∈rg,jC b c.1 q.2=false:=fun q hq=>by
  by_cases z:q∈c.2
  ·exact al q z
  ·exact C.alive q hq z
 have out:∀ q∈rg,q ∉ rg.filter (iK k)→iK k q=false:=fun q hq hn=>jv.mpr fun z=>hn (cA.mpr ⟨hq,z⟩)
 exact ⟨⟨C.ob.other hk (hl k hk) h1 h2,sub,few,fun q hq hn=>(dead_set (out q hq hn)).trans (all q hq)⟩,⟨C.ob.one hk (hl k hk) h1 h2,sub,few,fun q hq hn=>(dead_set (out q hq hn)).trans (all q hq)⟩⟩
theorem dead_none {bs:List (Int×Int)}{ws:List Stp}(hb:0<b)(hl:bs.length=sp.length)(h:InB (iS b ts sp) bs)(hr:Rg sp ws):jC b bs ws=false:=by
 obtain ⟨Z,_,z1,z2⟩:=ring_in hb hl h hr;unfold jC;exact rh (by lia)
theorem key_pot {m:Int}{rg:List (Nat×List Stp)}{bs:List (Int×Int)}(N:NetT b m sp)(f:FF m sp tk rg)(O:OB sp tk bs)(x:Fx b tk rg bs){π:Int→Int}(hπ:∀ i∈tk,π (sAt sp i).g - π (sAt sp i).s=(bs.getD i (0,0)).1)
  (eW:∀ k,k<sp.length→fW b ts (sAt sp k)=(π (sAt sp k).g - π (sAt sp k).s - (sAt sp k).l) % b):∀ k,k<sp.length→(bs.getD k (0,0)).1≤iS b ts sp k∧iS b ts sp k≤(bs.getD k (0,0)).2:=fun k hk=>by
 have hb:0<b:=by have:=N.b1;lia
 obtain ⟨ht1,ht2⟩:=f.acy.nodup;have s:=N.all _ (eQ hk);have lo:=O.lo k hk;have lay:iS b ts sp k=(sAt sp k).l+fW b ts (sAt sp k):=by unfold iS;rw [jh hk]
 rw [lay];have fin:∀ Y,fW b ts (sAt sp k)=Y - (sAt sp k).l→(bs.getD k (0,0)).1≤Y→Y≤(bs.getD k (0,0)).2→(bs.getD k (0,0)).1≤(sAt sp k).l+fW b ts (sAt sp k)∧(sAt sp k).l+fW b ts (sAt sp k)≤(bs.getD k (0,0)).2:=fun Y e y1 y2=>by lia
 by_cases c:k∈tk
 ·have e:=hπ k c
  have fx:=x.fix k c;refine fin (bs.getD k (0,0)).1 ?_ (gh _) (by lia);rw [eW k hk,show π (sAt sp k).g - π (sAt sp k).s - (sAt sp k).l=(bs.getD k (0,0)).1 - b * 0 - (sAt sp k).l by rw [ie];lia];exact rest_in lo.1 (by have:=s.ob;lia)
 ·obtain ⟨r,hr⟩:=f.all k hk c
  have K:=f.rk _ hr;obtain ⟨p,e,P,e1,e2⟩:=o9 K O x.fix;have al:=x.alive _ hr;have al:¬ (upB b (fh bs r) > gM bs r / b):=by unfold jC at al;simpa using al
  obtain ⟨_,z1,z2⟩:=beat_one hb (lo:=fh bs r) (hi:=gM bs r) (by lia) (by
   have e1:fh bs r=_:=e1;have e2:gM bs r=_:=e2;have:=s.ob;rw [e1,e2];show (sAt sp k).o+_ - ((sAt sp k).l+_)<b;lia)
  have ea:=alg_pot ht2 hπ p _ _ (fun s hs=>⟨(P.inn s hs).1,(P.inn s hs).2.2⟩) P.alo;have e1:fh bs r=(sAt sp k).l+alg (fun k=>(bs.getD k (0,0)).1) p:=e1;have e2:gM bs r=(sAt sp k).o+alg (fun k=>(bs.getD k (0,0)).1) p:=e2;have ea:alg (fun k=>(bs.getD k (0,0)).1) p=π (sAt sp k).s - π (sAt sp k).g:=ea;have eo:=O.out k hk c;rw [eo] at fin ⊢;refine fin (b * upB b (fh bs r) - alg (fun k=>(bs.getD k (0,0)).1) p) ?_ (by show (sAt sp k).l≤_;lia) (by show _≤(sAt sp k).o;lia);rw [eW k hk];have hs:=s.ob;have:=rest_in (b:=b) (Y:=b * upB b (fh bs r) - alg (fun k=>(bs.getD k (0,0)).1) p) (l:=(sAt sp k).l) (Z:=upB b (fh bs r)) (by lia) (by lia);rw [←this];congr 1;lia
theorem fits_lay {m:Int}(h:∀ k,k<sp.length→iS b ts sp k≤(sAt sp k).o):jB b ts sp=true:=by
 unfold jB;rw [gH,gG];intro s hs;obtain ⟨k,hk,rfl⟩:=List.getElem_of_mem hs;have eA:sAt sp k=sp[k]:=by unfold sAt;rw [ai,gE hk];rfl
 have:=h k hk;have lay:iS b ts sp k=(sAt sp k).l+fW b ts (sAt sp k):=by unfold iS;rw [jh hk]
 rw [lay,eA] at this;unfold brk;rw [rh (by lia)];exact aV
structure Kp (H H':Hp):Prop where
 tup:TupK H H'
 lst:∀ q xs,H q=some (.lst xs)→H' q=some (.lst xs)
theorem Same.kp (e:Same H H'):Kp H H':=⟨fun _ _ h=>e _ _ h,fun _ _ h=>e _ _ h⟩
theorem Kp.trans (a:Kp H H1)(b:Kp H1 H2):Kp H H2:=⟨fun _ _ h=>b.tup _ _ (a.tup _ _ h),fun _ _ h=>b.lst _ _ (a.lst _ _ h)⟩
theorem Tb.kp {T:ao}(h:L2.LamT T lp lq H)(e:L2.Tb T H H'):Kp H H':=by
 obtain ⟨ps,hT⟩:=LamT.tbl h;exact ⟨fun q _ h=>e q _ (fH h hT nofun) h,fun q _ h=>e q _ (fH h hT nofun) h⟩
theorem Kp.upd {x:ao}{fs:List (Str×V)}(h:H x=some (.ins C dx fs)):Kp H (upd H x o) :=
 ⟨fun q _ hq=>by rw [br (fH hq h nofun)];exact hq,fun q _ hq=>by rw [br (fH hq h nofun)];exact hq⟩
theorem LamT.ntb {T U:ao}{lp':Pos}{lq':Str}(h:L2.LamT T lp lq H)(hU:L2.LamT U lp' lq' H)(ne:T≠U)(e:L2.Tb U H H'):L2.LamT T lp lq H':=by
 obtain ⟨ps,hT⟩:=LamT.tbl hU
 rcases h with h | ⟨c,h,oc,vs,t,e1,r⟩
 ·exact .inl (e _ _ ne h)
 ·exact .inr ⟨c,e _ _ ne h,oc,vs,t,e _ _ (fH e1 hT nofun) e1,r⟩
theorem mh {T x:ao}{fs:List (Str×V)}(h:L2.LamT T lp lq H)(hx:H x=some (.ins C dx fs)):L2.LamT T lp lq (L2.upd H x o):=LamT.upd h (fun p u z=>by rw [hx] at z;cases z) (fun ps z=>by rw [hx] at z;cases z)
theorem wayQ_kp {rl:List V}(e:Kp H H')(h:IsDs H rl (rs.map wayQ)):IsDs H' rl (rs.map wayQ):=IsDs.keepP e.tup h (k4 rs fun q _=>mE _ _)
theorem CsD.kp {c:ao}{bs:List (Int×Int)}(a:CsD H c bs rs)(e:Kp H H'):CsD H' c bs rs:=by
 obtain ⟨vb,u,rl,h1,h2,h3,h4⟩:=a.ex;exact ⟨vb,u,rl,e.tup _ _ h1,IsD.keepP e.tup h2 (mE _ _),e.lst _ _ h3,wayQ_kp e h4⟩
structure TchD (H:Hp)(tl:ao)(n:Nat)(rg:List (Nat×List Stp)):Prop where
 ex:∃ tv,H tl=some (.lst tv)∧tv.length=n∧∀ k,k<n→∃ u rl,tv[k]? =some (.ref u)∧H u=some (.lst rl)∧IsDs H rl ((rg.filter (iK k)).map wayQ)
theorem TchD.kp {tl:ao}{rg:List (Nat×List Stp)}(a:TchD H tl n rg)(e:Kp H H'):TchD H' tl n rg:=by
 obtain ⟨tv,h1,h2,h3⟩:=a.ex;refine ⟨tv,e.lst _ _ h1,h2,fun k hk=>?_⟩;obtain ⟨u,rl,a1,a2,a3⟩:=h3 k hk;exact ⟨u,rl,a1,e.lst _ _ a2,wayQ_kp e a3⟩
structure CutD (H:Hp)(C x:ao)(sp:List Sn)(l:List Nat)(rg:List (Nat×List Stp)):Prop where
 ex:∃ (dx c0 tl ol:ao) (ord:List Nat),H x=some (.ins C dx [("first_case",.ref c0),("touched",.ref tl),("order",.ref ol)])∧CsD H c0 (sp.map fun z=>(z.l,z.o)) rg∧TchD H tl sp.length rg∧H ol=some (.lst (ord.map fun (i:Nat)=>V.int i))∧ord.Perm l
theorem CutD.same {x:ao}{rg:List (Nat×List Stp)}(a:CutD H C x sp l rg)(e:Same H H'):CutD H' C x sp l rg:=by
 obtain ⟨dx,c0,tl,ol,ord,h1,h2,h3,h4,h5⟩:=a.ex;exact ⟨dx,c0,tl,ol,ord,e _ _ h1,h2.same e,h3.kp (Same.kp e),e _ _ h4,h5⟩
structure CsE (Hb H:Hp)(c:ao)(bs:List (Int×Int))(rs:List (Nat×List Stp)):Prop where
 ex:∃ vb u rl,H c=some (.tup [vb,.ref u])∧IsD H vb (bndP bs)∧Hb u=some (.lst rl)∧IsDs Hb rl (rs.map wayQ)
theorem CsE.dn {Hb:Hp}{c:ao}{bs:List (Int×Int)}(a:CsE Hb H c bs rs)(e:Same Hb H):CsD H c bs rs:=by
 obtain ⟨vb,u,rl,h1,h2,h3,h4⟩:=a.ex;exact ⟨vb,u,rl,h1,h2,e _ _ h3,h4.same e⟩
theorem CsE.keep {Hb:Hp}{c:ao}{bs:List (Int×Int)}(a:CsE Hb H c bs rs)(e:TupK H H'):CsE Hb H' c bs rs:=by
 obtain ⟨vb,u,rl,h1,h2,h3,h4⟩:=a.ex;exact ⟨vb,u,rl,e _ _ h1,IsD.keepP e h2 (mE _ _),h3,h4⟩
inductive spInitC (T0:ao)(p0:Pos)(q0:Str)(T1:ao)(p1:Pos)(q1:Str)(C:ao)(vs:List V)(H:Hp)(Q:VK)(_:XK):Prop
 | mk (x dx:ao)(v:V)(b m:Int)(sp:List Sn)(_:vs=[.ref x,v])(_:H x=some (.ins C dx []))(_:IsD H v (ka b m sp))(_:NetT b m sp)(_:L2.LamT T0 p0 q0 H)(_:L2.LamT T1 p1 q1 H)(_:∀ (l:List Nat) (rg:List (Nat×List Stp)) (H':Hp),(∀ a o,a≠T0→a≠T1→a≠x→H a=some o→H' a=some o)→Kp H H'→L2.LamT T0 p0 q0 H'→L2.LamT T1 p1 q1 H'→FR m sp l rg→CutD H' C x sp l rg→Q .non H')
inductive spSpanC (C:ao)(vs:List V)(H:Hp)(Q:VK)(_:XK):Prop
 | mk (x c:ao)(sp:List Sn)(l:List Nat)(rg rs:List (Nat×List Stp))(bs:List (Int×Int))(_:vs=[.ref x,.ref c])(_:CutD H C x sp l rg)(_:CsD H c bs rs)(_:(∀ k∈l,k<bs.length))(_:l.length≤40)(_:((∀ k∈l,¬ ((bs.getD k (0,0)).1<(bs.getD k (0,0)).2))→Q .non H))(_:∀ k∈l,(bs.getD k (0,0)).1<(bs.getD k (0,0)).2→Q (.int (k:Nat)) H)
inductive spSidesC (C:ao)(vs:List V)(H:Hp)(Q:VK)(_:XK):Prop
 | mk (Hb:Hp)(x c:ao)(k:Nat)(a:Int)(sp:List Sn)(l:List Nat)(rg rs:List (Nat×List Stp))(bs:List (Int×Int))(_:vs=[.ref x,.ref c,.int (k:Nat),.int a])(_:Same Hb H)(_:CutD Hb C x sp l rg)(_:CsD H c bs rs)(_:k<bs.length)(_:bs.length=sp.length)(_:bs.length≤40)(_:∀ (L q1 q2:ao) (H':Hp),Same H H'→H L=none→H' L=some (.lst [.ref q1,.ref q2])→CsE Hb H' q1 (fA bs k a) (rg.filter (iK k))→CsE Hb H' q2 (lL bs k a) (rg.filter (iK k))→Q (.ref L) H')
theorem ord_perm (h:π.Perm (aQ l.length)):(π.map fun i=>l.getD i 0).Perm l:=by
 have e:(aQ l.length).map (fun i=>l.getD i 0)=l:=by
  refine List.ext_getElem (by rw [aa,bx]) fun i h1 h2=>?_
  rw [iP,jb,ai,gE h2];rfl
 have:=h.map (fun i=>l.getD i 0)
 rwa [e] at this
theorem tm_mod {x:Int}:tm (ts.map (· % b)) x=tm ts x % b:=by
 unfold tm;rw [ai,ai,az];cases ts[x.toNat]? with
 | none=>exact (Int.zero_emod b).symm
 | some y=>rfl
def TabOk (b m:Int)(sp:List Sn)(t:List Int):Prop:=t.length=m.toNat∧(∀ x∈t,0≤x∧x<b)∧jB b t sp=true
theorem tab_ok {m:Int}{rg:List (Nat×List Stp)}{bs:List (Int×Int)}(N:NetT b m sp)(f:FF m sp l rg)(O:OB sp l bs)(x:Fx b l rg bs)(h:SprOk m.toNat sp l S) :
  TabOk b m sp (tabOf b sp bs m.toNat S)∧∀ k,k<sp.length→(bs.getD k (0,0)).1≤iS b (tabOf b sp bs m.toNat S) sp k∧iS b (tabOf b sp bs m.toNat S) sp k≤(bs.getD k (0,0)).2:=by
 have hb:0<b:=by have:=N.b1;lia
 have ht2:=f.acy.nodup.2;have key:=key_pot N f O x (ts:=tabOf b sp bs m.toNat S) (π:=tm (j4 sp (lowB bs) m.toNat S)) (fun i hi=>h.pot N.ends ht2 (lowB bs) i hi) fun k hk=>by
  unfold fW tabOf;rw [tm_mod,tm_mod,rest_two]
 refine ⟨⟨?_,fun y hy=>?_,fits_lay (m:=m) fun k hk=>?_⟩,key⟩
 ·unfold tabOf j4
  rw [aa,l5 (m:=0),iw]
 ·obtain ⟨z,_,rfl⟩:=bh.mp hy
  exact ⟨cR _ (by lia),cL _ hb⟩
 ·have:=key k hk
  have:=(O.lo k hk).2.2;lia
def psC (l:List Nat):List Cse→Nat
 | []=>0
 | c::cs=>fN c.1 l+psC l cs
theorem pU (l:List Nat):∀ (cs ds:List Cse),psC l (cs++ds)=psC l cs+psC l ds
 | [],ds=>(Nat.zero_add _).symm
 | c::cs,ds=>by
  show _+psC l (cs++ds)=_+psC l cs+psC l ds;rw [pU l cs ds];lia
structure SrcI (b m:Int)(sp:List Sn)(l:List Nat)(rg:List (Nat×List Stp))(cs:List Cse)(Ts:List (List Int)):Prop where
 ok:∀ c∈cs,CaseOk b sp l rg c
 tabs:∀ t∈Ts,TabOk b m sp t
 hold:∀ T,jB b T sp=true→(∃ t∈Ts,∀ k∈l,iS b t sp k=iS b T sp k)∨∃ c∈cs,InB (iS b T sp) c.1
 cnt:Ts.length+psC l cs≤fN (sp.map fun x=>(x.l,x.o)) l
def szC (l:List Nat):List Cse→Nat
 | []=>0
 | c::cs=>(2 * fN c.1 l - 1)+szC l cs
theorem mr (l:List Nat):∀ (cs ds:List Cse),szC l (cs++ds)=szC l cs+szC l ds
 | [],ds=>(Nat.zero_add _).symm
 | c::cs,ds=>by
  show _+szC l (cs++ds)=_+szC l cs+szC l ds;rw [mr l cs ds];lia
section
variable {m:Int}{rg:List (Nat×List Stp)}{cs:List Cse}{Ts:List (List Int)}{c:Cse}
theorem szC_len (hl:∀ k∈l,k<sp.length):∀ (cs:List Cse),(∀ c∈cs,CaseOk b sp l rg c)→cs.length≤szC l cs
 | [],_=>aC _
 | c::cs,h=>by
  have ih:=szC_len hl cs fun d hd=>h d (aw _ hd)
  have:=i6 (h c (by simp)).ob hl;show cs.length+1≤2 * fN c.1 l - 1+szC l cs;lia
theorem SrcI.start (N:NetT b m sp)(hl:rg.length≤40):SrcI b m sp l rg [(sp.map fun x=>(x.l,x.o),rg)] []:=by
 have hb:0<b:=by have:=N.b1;lia
 refine ⟨fun c hc=>?_,fun t h=>rd h (by simp),fun T hT=> .inr ⟨_,ax.mpr rfl,lay_in hb hT⟩,by show 0+(fN (sp.map fun x=>(x.l,x.o)) l+0)≤_;lia⟩;rw [ax.mp hc];exact ⟨OB.first N l,fun q hq=>hq,hl,fun q hq hn=>rd hq hn⟩
theorem SrcI.dead (N:NetT b m sp)(f:FF m sp l rg)(I:SrcI b m sp l rg (cs++[c]) Ts){q:Nat×List Stp}(hq:q∈c.2)(hd:jC b c.1 q.2=true):SrcI b m sp l rg cs Ts:=by
 have hb:0<b:=by have:=N.b1;lia
 have C:=I.ok c (by simp);refine ⟨fun d hd=>I.ok d (aM _ hd),I.tabs,fun T hT=>?_,by have:=I.cnt;rw [pU] at this;lia⟩
 rcases I.hold T hT with h | ⟨d,h1,h2⟩
 ·exact .inl h
 ·rcases aN.mp h1 with z | z
  ·exact .inr ⟨d,z,h2⟩
  ·rw [ax.mp z] at h2
   have:=f.few;have m2:=N.m2;rw [dead_none hb C.ob.len h2 ((f.rk q (C.sub q hq)).rg N (by lia))] at hd;cases hd
theorem CaseOk.all (C:CaseOk b sp l rg c)(al:∀ q∈c.2,jC b c.1 q.2=false):∀ q∈rg,jC b c.1 q.2=false:=fun q hq=>by
 by_cases z:q∈c.2
 ·exact al q z
 ·exact C.alive q hq z
theorem SrcI.leaf (N:NetT b m sp)(f:FF m sp l rg)(h:SprOk m.toNat sp l S)(I:SrcI b m sp l rg (cs++[c]) Ts)(al:∀ q∈c.2,jC b c.1 q.2=false)(fx:∀ k∈l,¬ ((c.1.getD k (0,0)).1<(c.1.getD k (0,0)).2)):SrcI b m sp l rg cs (Ts++[tabOf b sp c.1 m.toNat S]):=by
 have C:=I.ok c (by simp);have ht2:=f.acy.nodup.2;have fix:∀ k∈l,(c.1.getD k (0,0)).1=(c.1.getD k (0,0)).2:=fun k hk=>by
  have:=(C.ob.lo k (ht2 k hk)).2.1;have:=fx k hk;lia
 obtain ⟨t1,t2⟩:=tab_ok N f C.ob ⟨fix,C.all al⟩ h;have pc:=i6 C.ob ht2;refine ⟨fun d hd=>I.ok d (aM _ hd),fun t ht=>?_,fun T hT=>?_,by have:=I.cnt;rw [pU] at this;have e:psC l [c]=fN c.1 l+0:=rfl;rw [av];show Ts.length+1+_≤_;lia⟩
 ·rcases aN.mp ht with z | z
  ·exact I.tabs t z
  ·rw [ax.mp z];exact t1
 ·rcases I.hold T hT with ⟨t,h1,h2⟩ | ⟨d,h1,h2⟩
  ·exact .inl ⟨t,aM _ h1,h2⟩
  ·rcases aN.mp h1 with z | z
   ·exact .inr ⟨d,z,h2⟩
   ·rw [ax.mp z] at h2
    refine .inl ⟨_,aA _ (ax.mpr rfl),fun k hk=>?_⟩;have a1:=t2 k (ht2 k hk);have a2:=h2 k (by rw [C.ob.len];exact ht2 k hk);have a3:=fix k hk;lia
theorem SrcI.cut (N:NetT b m sp)(f:FF m sp l rg)(lrg:rg.length≤40)(I:SrcI b m sp l rg (cs++[c]) Ts)(al:∀ q∈c.2,jC b c.1 q.2=false){k:Nat}{a:Int}(hk:k∈l)(h1:(c.1.getD k (0,0)).1≤a)(h2:a<(c.1.getD k (0,0)).2) :
  SrcI b m sp l rg (cs++[(fA c.1 k a,rg.filter (iK k)),(lL c.1 k a,rg.filter (iK k))]) Ts∧szC l (cs++[(fA c.1 k a,rg.filter (iK k)),(lL c.1 k a,rg.filter (iK k))])<szC l (cs++[c]):=by
 have C:=I.ok c (by simp);have ht2:=f.acy.nodup.2;obtain ⟨o1,o2⟩:=C.cut lrg ht2 al hk h1 h2;refine ⟨⟨fun d hd=>?_,I.tabs,fun T hT=>?_,?_⟩,?_⟩
 ·rcases aN.mp hd with z | z
  ·exact I.ok d (aM _ z)
  ·rcases aG.mp z with rfl | z
   ·exact o1
   ·rw [ax.mp z];exact o2
 ·rcases I.hold T hT with h | ⟨d,d1,d2⟩
  ·exact .inl h
  ·rcases aN.mp d1 with z | z
   ·exact .inr ⟨d,aM _ z,d2⟩
   ·rw [ax.mp z] at d2
    by_cases e:iS b T sp k≤a
    ·exact .inr ⟨(lL c.1 k a,rg.filter (iK k)),by simp,inB_one d2 e⟩
    ·exact .inr ⟨(fA c.1 k a,rg.filter (iK k)),by simp,inB_other d2 (by lia)⟩
 ·have h0:=I.cnt
  rw [pU] at h0 ⊢;have e:=mB C.ob f.acy.nodup.1 ht2 hk h1 h2;have e1:psC l [c]=fN c.1 l+0:=rfl;have e2:psC l [(fA c.1 k a,rg.filter (iK k)),(lL c.1 k a,rg.filter (iK k))]=fN (fA c.1 k a) l+(fN (lL c.1 k a) l+0):=rfl;lia
 ·rw [mr,mr]
  show _+((2 * fN (fA c.1 k a) l - 1)+((2 * fN (lL c.1 k a) l - 1)+0))<_+((2 * fN c.1 l - 1)+0);have p1:=i6 o1.ob ht2;have p2:=i6 o2.ob ht2;have e:=mB C.ob f.acy.nodup.1 ht2 hk h1 h2;have p1:0<fN (fA c.1 k a) l:=p1;have p2:0<fN (lL c.1 k a) l:=p2;lia
theorem SrcI.less (f:FF m sp l rg)(I:SrcI b m sp l rg (cs++[c]) Ts):szC l cs<szC l (cs++[c]):=by
 have:=i6 (I.ok c (by simp)).ob f.acy.nodup.2;rw [mr];show _<_+((2 * fN c.1 l - 1)+0);lia
end
def CsL (Hb Hc:Hp):List V→List Cse→Prop:=jS fun v c=>∃ q,v= .ref q∧CsE Hb Hc q c.1 c.2
theorem CsL.keep {Hb Hd:Hp}(e:TupK Hc Hd){cs:List Cse}(h:CsL Hb Hc zs cs):CsL Hb Hd zs cs:=L2.Paired.mapP h fun _ _ ⟨q,a,b⟩=>⟨q,a,b.keep e⟩
theorem Paired.app {α β:Type}{R:α→β→Prop}:∀ {xs:List α} {ys:List β} {us:List α} {vs:List β},jS R xs ys→jS R us vs→jS R (xs++us) (ys++vs)
 | _,_,_,_,.nil,h=>h
 | _,_,_,_,.cons r t,h=> .cons r (Paired.app t h)
theorem Paired.len {α β:Type}{R:α→β→Prop}:∀ {xs:List α} {ys:List β},jS R xs ys→xs.length=ys.length
 | _,_,.nil=>rfl
 | _,_,.cons _ t=>rm (· + 1) (Paired.len t)
theorem Paired.snoc_of {α β:Type}{R:α→β→Prop}:∀ {ys:List β} {zs:List α} {y:β},jS R zs (ys++[y])→∃ xs x,zs=xs++[x]∧jS R xs ys∧R x y
 | [],_,_,.cons r .nil=>⟨[],_,rfl,.nil,r⟩
 | _::_,_,_,.cons r t=>by
  obtain ⟨xs,x,rfl,a,b⟩:=Paired.snoc_of t;exact ⟨_::xs,x,rfl,.cons r a,b⟩
inductive spTabF (T0:ao)(p0:Pos)(q0:Str)(T1:ao)(p1:Pos)(q1:Str)(vs:List V)(H:Hp)(Q:VK)(_:XK):Prop
 | mk (v:V)(b m:Int)(sp:List Sn)(most:Nat)(_:vs=[v,.int (most:Nat)])(_:IsD H v (ka b m sp))(_:NetT b m sp)(_:most≤4096)(_:(∀ l,FrstL m.toNat sp l→kz sp l≤4096))(_:L2.LamT T0 p0 q0 H)(_:L2.LamT T1 p1 q1 H)(_:∀ (L:ao) (tv:List V) (l:List Nat) (rg:List (Nat×List Stp)) (Ts:List (List Int)) (H':Hp),(∀ a o,a≠T0→a≠T1→H a=some o→H' a=some o)→Kp H H'→L2.LamT T0 p0 q0 H'→L2.LamT T1 p1 q1 H'→H' L=some (.lst tv)→IsDs H' tv (dI id Ts)→FR m sp l rg→(∀ t∈Ts,TabOk b m sp t)→Ts.length≤most→(Ts.length<most∨most=4096→∀ T,jB b T sp=true→∃ t∈Ts,∀ k∈l,iS b t sp k=iS b T sp k)→Q (.ref L) H')
inductive Mrk where
 | leaf (d:Dt)
 | cut (k:Nat) (a:Int)
def mrkD:Mrk→Dt
 | .leaf d=>d
 | .cut k a=> .tup [.str "cut",.int (k:Nat),.int a]
def pre:Tq→List Mrk
 | .leaf d=>[.leaf d]
 | .cut k a x y=> .cut k a::(pre x++pre y)
def stpT:Option (List Tq)→Mrk→Option (List Tq)
 | some s,.leaf d=>some (.leaf d::s)
 | some (x::y::s),.cut k a=>some (.cut k a x y::s)
 | _,_=>none
theorem stp_none:∀ (l:List Mrk),l.foldl stpT none=none
 | []=>rfl
 | .leaf _::l=>stp_none l
 | .cut _ _::l=>stp_none l
theorem stp_pre:∀ (t:Tq) (s:List Tq),(pre t).reverse.foldl stpT (some s)=some (t::s)
 | .leaf d,s=>rfl
 | .cut k a x y,s=>by
  show (Mrk.cut k a::(pre x++pre y)).reverse.foldl stpT (some s)=_;rw [gC,List.reverse_append,eN,eN,stp_pre y,stp_pre x];rfl
theorem stp_at {l:List Mrk}{r:List Tq}(h:l.foldl stpT (some [])=some r){m:Mrk}{s:List Tq}(hm:l[i]? =some m)(hs:(l.take i).foldl stpT (some [])=some s):∃ s',stpT (some s) m=some s'∧(l.take (i+1)).foldl stpT (some [])=some s':=by
 have hi:=(aq.mp hm).1;have e:(l.take (i+1)).foldl stpT (some [])=stpT (some s) m:=by
  rw [bj,hm,eN,hs];rfl
 cases q:stpT (some s) m with
 | some s'=>exact ⟨s',rfl,by rw [e,q]⟩
 | none =>
  exfalso;rw [←jK (i+1) l,eN,e,q,stp_none] at h;cases h
def l3 (d:Dt):Prop:=pl d=true∧∃ w x,d= .tup [.str w,x]∧w ≠ "cut"
theorem pl_cut {k:Nat}{a:Int}{x y:Tq}(hx:pl (jx x)=true)(hy:pl (jx y)=true):pl (jx (.cut k a x y))=true:=by
 show pl (.tup [.str "cut",.int (k:Nat),.int a,jx x,jx y])=true;simp [pl,pls,hx,hy]
theorem IsDs.snocD {H:Hp}:∀ {ds:List Dt} {zs:List V} {d:Dt},IsDs H zs (ds++[d])→∃ zs' z,zs=zs'++[z]∧IsDs H zs' ds∧IsD H z d
 | [],_,_,.cons h .nil=>⟨[],_,rfl,.nil,h⟩
 | _::_,_,_,.cons h t=>by
  obtain ⟨zs',z,rfl,a,b⟩:=IsDs.snocD t;exact ⟨_::zs',z,rfl,.cons h a,b⟩
def qw (R:List (Int×Int)→Dt→Prop):Tq→List (Int×Int)→Nat→Prop
 | .leaf d,bs,_=>R bs d
 | .cut _ _ _ _,_,0=>False
 | .cut k a x y,bs,n+1=>k<bs.length∧(bs.getD k (0,0)).1≤a∧a<(bs.getD k (0,0)).2∧qw R x (lL bs k a) n∧qw R y (fA bs k a) n
def GoodC (R:List (Int×Int)→Dt→Prop)(l:List Nat)(c:Cse)(t:Tq):Prop:=∀ n,2 ^ n * fN c.1 l≤3 ^ n→qw R t c.1 n
theorem nY {f g:Nat→Nat}{k:Nat}:∀ (l:List Nat),l.Nodup→k∈l→(∀ j∈l,j≠k→f j=g j)→prdN (l.map g) * f k=prdN (l.map f) * g k
 | [],_,hk,_=>rd hk (by simp)
 | j::l,nd,hk,hh=>by
  rw [bJ] at nd;show g j * _ * f k=f j * _ * g k
  by_cases c:j=k
  ·subst c
   have ne:∀ i∈l,i≠j:=fun i hi z=>nd.1 (z ▸ hi)
   rw [←nc (f:=f) (g:=g) l fun i hi=>hh i (aw _ hi) (ne i hi),jF (g j),jF (f j),gN,gN,jF (g j)]
  ·rw [hh j (by simp) c,gN,gN,nY l nd.2 ((aG.mp hk).resolve_left fun z=>c z.symm) fun i hi=>hh i (aw _ hi)]
theorem scale_le {F G f g:Nat}(e:G * f=F * g)(h:3 * g≤2 * f)(hf:0<f):3 * G≤2 * F:=by
 have h1:3 * G * f≤2 * F * f:=by
  rw [gN,e,jF F g,←gN,gN 2 F f,jF F f,←gN];exact Nat.mul_le_mul_right F h
 exact Nat.le_of_mul_le_mul_right h1 hf
theorem prodC_mid {bs:List (Int×Int)}{k:Nat}{a:Int}(O:OB sp l bs)(nd:l.Nodup)(hl:∀ k∈l,k<sp.length)(hk:k∈l)(h:(bs.getD k (0,0)).1<(bs.getD k (0,0)).2)(ha:a=((bs.getD k (0,0)).1+(bs.getD k (0,0)).2) / 2) :
  3 * fN (lL bs k a) l≤2 * fN bs l∧3 * fN (fA bs k a) l≤2 * fN bs l:=by
 have hb:=O.len;have hkl:=hl k hk;have wk1:wdB (lL bs k a) k=(a - (bs.getD k (0,0)).1+1).toNat:=by unfold wdB lL;rw [iM (by lia),q9 rfl]
 have wk2:wdB (fA bs k a) k=((bs.getD k (0,0)).2 - (a+1)+1).toNat:=by unfold wdB fA;rw [iM (by lia),q9 rfl]
 have w0:wdB bs k=((bs.getD k (0,0)).2 - (bs.getD k (0,0)).1+1).toNat:=rfl
 constructor
 ·refine scale_le (nY (f:=wdB bs) (g:=wdB (lL bs k a)) (k:=k) l nd hk fun j hj hn=>?_) (by rw [wk1,w0];lia) (by rw [w0];lia)
  have hjl:=hl j hj;unfold wdB lL;rw [iM (by lia),qZ (bX hn)]
 ·refine scale_le (nY (f:=wdB bs) (g:=wdB (fA bs k a)) (k:=k) l nd hk fun j hj hn=>?_) (by rw [wk2,w0];lia) (by rw [w0];lia)
  have hjl:=hl j hj;unfold wdB fA;rw [iM (by lia),qZ (bX hn)]
section
variable {R:List (Int×Int)→Dt→Prop}{c c0:Cse}{k:Nat}{a:Int}{x y:Tq}{ms:List Mrk}{cr:List Cse}{d:Dt}{rs':List (Nat×List Stp)}
theorem GoodC.leaf (h:R c.1 d):GoodC R l c (.leaf d):=fun n _=>by
 cases n <;> exact h
theorem GoodC.cut (hk:k<c.1.length)(h1:(c.1.getD k (0,0)).1≤a)(h2:a<(c.1.getD k (0,0)).2)(p2:2≤fN c.1 l)(m1:3 * fN (lL c.1 k a) l≤2 * fN c.1 l)(m2:3 * fN (fA c.1 k a) l≤2 * fN c.1 l)
  (gx:GoodC R l (lL c.1 k a,rs) x) (gy:GoodC R l (fA c.1 k a,rs') y):GoodC R l c (.cut k a x y):=fun n hn=>by
 cases n with
 | zero=>simp at hn;lia
 | succ n =>
  have key:∀ p,3 * p≤2 * fN c.1 l→2 ^ n * p≤3 ^ n:=fun p hp=>by
   have h3:2 ^ n * (3 * p)≤2 ^ n * (2 * fN c.1 l):=Nat.mul_le_mul_left _ hp;rw [Nat.pow_succ,Nat.pow_succ,gN] at hn;rw [Nat.mul_left_comm] at h3;lia
  exact ⟨hk,h1,h2,gx n (key _ m1),gy n (key _ m2)⟩
def Wn (R:List (Int×Int)→Dt→Prop)(l:List Nat)(c0:Cse)(ms:List Mrk)(cr:List Cse):Prop:=∀ F:List Tq,jS (GoodC R l) cr F→∃ t,ms++F.flatMap pre=pre t∧GoodC R l c0 t
theorem Wn.start:Wn R l c0 [] [c0]:=fun F h=>by
 cases h with
 | cons g r=>cases r;exact ⟨_,by simp,g⟩
theorem Wn.leaf (h:Wn R l c0 ms (c::cr))(r:R c.1 d):Wn R l c0 (ms++[.leaf d]) cr:=fun F hF=>by
 obtain ⟨t,e,g⟩:=h (.leaf d::F) (.cons (GoodC.leaf r) hF);exact ⟨t,by rw [←e];simp [pre],g⟩
theorem Wn.cut (h:Wn R l c0 ms (c::cr))(hk:k<c.1.length)(h1:(c.1.getD k (0,0)).1≤a)(h2:a<(c.1.getD k (0,0)).2)(p2:2≤fN c.1 l)(m1:3 * fN (lL c.1 k a) l≤2 * fN c.1 l)(m2:3 * fN (fA c.1 k a) l≤2 * fN c.1 l):Wn R l c0 (ms++[.cut k a]) ((lL c.1 k a,rs)::(fA c.1 k a,rs')::cr):=fun F hF=>by
 cases hF with
 | cons gx r =>
  cases r with
  | cons gy r =>
   rename_i x y F;obtain ⟨t,e,g⟩:=h (.cut k a x y::F) (.cons (GoodC.cut hk h1 h2 p2 m1 m2 gx gy) r);exact ⟨t,by rw [←e];simp [pre],g⟩
theorem Wn.fin (h:Wn R l c0 ms []):∃ t,ms=pre t∧GoodC R l c0 t:=by
 obtain ⟨t,e,g⟩:=h [] .nil;exact ⟨t,by rw [←e];simp,g⟩
end
inductive spTreeF (vs:List V)(H:Hp)(Q:VK)(_:XK):Prop
 | mk (L:ao)(ys:List V)(ms:List Mrk)(t:Tq)(_:vs=[.ref L])(_:H L=some (.lst ys))(_:IsDs H ys (ms.map mrkD))(_:ms=pre t)(_:(∀ d,Mrk.leaf d∈ms→l3 d))(_:ms.length≤10000)(_:∀ u H',Same H H'→IsD H' u (jx t)→Q u H')
end HN
namespace L2
open PySem PySem.W PySem.Spec PyProof.Rows
theorem law_callTs {mb:Str→Option ag}{k:Nat}{fa:ao}{sp:Sp}{s₁:au}
  (KX:K.In s₁.heap) (hns:s₁.heap.Ns bS mg) (hb:s₁.heap.Ns builtinsNs mb) (hbb:∀ x:Str,x ≠ "__name__" →mb x=bootBuiltins x) (hlim:s₁.heap.NoLimit) (hg:s₁.gens= #[])
  (hbm:BM mg s₁.heap) (hT:∀ T∈Ts,s₁.heap.get? T=some (tabObj #[])) (C:∀ T∈Ts,∃ c,codeHdIn K c T=true) (nt:noTabs K=true)
  (ha:s₁.heap.get? a=some { cls:= .type "list",data:= .seq vs.toArray }) (hi:IntsAre vs ns) (hl:ns.length≤bq) (hr:Room k callerA)
  (F:∀ base:bK,K.In base→base.Ns bS mg→BM mg base→dv P w K mg base CX k fa fd [x] sp) (hbind:∀ (s:au) (u:ag),BindsTo s fd ⟨[u],[]⟩ [(x,u)])
  (hsp:∀ H:Hp,(∀ T∈Ts,H T=some (.tbl #[]))→SqL K H a (ns.map V.int)→sp [.ref a] H (fun v _=>v= .bl true) fun _ _ _=>False)
  (hCX:∀ H e s',CX [] H s₁ (fun _ _ _=>False) e s'→False) :
  jo (bz P w) callerA (.call (.ref fa) ⟨[.ref a],[]⟩) (fun r s'=>r= .ok (.ret (.bool true))∧OldK s₁.heap s'.heap∧s'.os=s₁.os∧AllBare s'.gens) s₁:=by
 have rv:=o4 hi;have lenV:=hi.length;have hTK:∀ T∈Ts,K.lookup T=none:=fun T mT=>by
  cases q:K.lookup T with
  | none=>rfl
  | some o =>
   have e:=KX T o q;rw [hT T mT] at e;cases e;have z:=List.all_eq_true.mp nt (T,tabObj #[]) (mem_of_lookupK q);cases z
 have aT:a ∉ Ts:=fun z=>by rw [hT a z] at ha;cases ha
 have isT:∀ T∈Ts,isCodeTable s₁.heap T:=fun T mT=>by obtain ⟨c,C⟩:=C T mT;exact ((codeHd_of_K KX C).tab (hT T mT)).isCodeTable
 have core:∀ H:Hp,SqL K H a (ns.map V.int)→HOk P w H s₁.heap→(∀ T∈Ts,H T=some (.tbl #[]))→(∀ b,H b≠none→b ∉ Ts→b=a∧∃ o xs,H b=some (.frz o (.lst xs)))→(H a≠none→K.lookup a=none) →
   jo (bz P w) callerA (.call (.ref fa) ⟨[.ref a],[]⟩) (fun r s'=>r= .ok (.ret (.bool true))∧OldK s₁.heap s'.heap∧s'.os=s₁.os∧AllBare s'.gens) s₁:=by
  intro H hS hok hHT hA hK;have base_of:∀ {b:ao} {o:Obj},s₁.heap.get? b=some o→H b=none→(hidT s₁.heap H).get? b=some o:=fun e n=>hidT_get e n
  have no2:∀ {b:ao} {o:Obj},s₁.heap.get? b=some o→o≠tabObj #[]→o≠{ cls:= .type "list",data:= .seq vs.toArray }→H b=none:=fun {b o} e d1 d2=>by
   cases q:H b with
   | none=>rfl
   | some u =>
    by_cases hbT:b∈Ts
    ·rw [hT b hbT] at e;cases e;exact rd rfl d1
    ·have e':b=a:=(hA b (by rw [q];simp) hbT).1
     subst e';rw [ha] at e;cases e;exact rd rfl d2
  have nsK:∀ {b:ao} {m:Str→Option ag},s₁.heap.Ns b m→(hidT s₁.heap H).Ns b m:=fun {b m} ⟨o,es,ep,e,d,r⟩=>⟨o,es,ep,base_of e (no2 e (fun z=>by subst z;cases d) (fun z=>by subst z;cases d)),d,r⟩
  have hKb:K.In (hidT s₁.heap H):=fun b o e=>base_of (KX b o e) (by
   cases q:H b with
   | none=>rfl
   | some u =>
    by_cases hbT:b∈Ts
    ·rw [hTK b hbT] at e;cases e
    ·have e':b=a:=(hA b (by rw [q];simp) hbT).1
     subst e';rw [hK (by rw [q];simp)] at e;cases e)
  have hM:Mod K mg (hidT s₁.heap H):=⟨hKb,nsK hns,⟨mb,nsK hb,hbb⟩,let ⟨mc,h1,h2⟩:=hlim;⟨mc,nsK h1,h2⟩⟩;have hBM:BM mg (hidT s₁.heap H):=by
   obtain ⟨bm,ob,b1,b2,b3,b4,b5,b6,b7⟩:=hbm;exact ⟨bm,ob,b1,b2,b3,base_of b4 (no2 b4 (fun z=>by subst z;cases b5) (fun z=>by subst z;cases b7)),b5,b6,b7⟩
  have e0:Env0 P w K mg (hidT s₁.heap H) callerA [] s₁ H:=⟨rfl,hM,fun b o e=>of_hidT e,Nat.le_of_eq (hidT_size _ _),trivial,fun b hb=>rd (show b∈([]:List ao) from hb) (by simp),hok,.of_eq hg⟩;refine codeAny_mono ((F _ hKb (nsK hns) hBM).run callerA [] s₁ H ⟨[.ref a],[]⟩ [.ref a] [.ref a] _ _ hr e0 (hbind s₁ (.ref a)) (.cons rfl .nil) (hsp H hHT hS)) fun r s' h=>?_
  cases r with
  | error e=>exact (hCX H e s' h).elim
  | ok fl =>
   cases fl with
   | next=>exact df h
   | brk=>exact df h
   | cont=>exact df h
   | ret u =>
    obtain ⟨v,H',os,bare,un,hok',r',q⟩:=h;have q':v= .bl true:=q;subst q';obtain rfl:u=ag.bool true:=r';have tT:∀ T∈Ts,∃ more,s'.heap.get? T=some (tabObj (#[]++more)):=fun T mT=>by
     obtain ⟨more,eT⟩:=un.tbls T _ (hHT T mT);exact ⟨more,hok' T _ eT⟩
    have stay:∀ b o,s₁.heap.get? b=some o→b ∉ Ts→s'.heap.get? b=some o:=fun b o e hbT=>by
     cases q:H b with
     | none=>exact un.keep b o e q (by intro z;exact rd (show b∈([]:List ao) from z) (by simp)) (by simp)
     | some u =>
      obtain ⟨_,ob,xs,z⟩:=hA b (by rw [q];simp) hbT;have z2:=un.frzs b ob _ z;obtain ⟨e1,_⟩:=hok b _ z;obtain ⟨e2,_⟩:=hok' b _ z2;rw [e] at e1;cases e1;exact e2
    refine ⟨rfl,⟨fun b o e=>?_,fun b o e=>?_⟩,os,bare⟩
    ·by_cases hbT:b∈Ts
     ·rw [hT b hbT] at e;cases e
      obtain ⟨more,tb⟩:=tT b hbT;exact .inr (.inl ⟨isT b hbT,rfl,#[],more,rfl,tb⟩)
     ·exact .inl (stay b o e hbT)
    ·by_cases hbT:b∈Ts
     ·obtain ⟨more,tb⟩:=tT b hbT;exact ⟨_,tb⟩
     ·exact ⟨o,stay b o e hbT⟩
 cases hk:K.lookup a with
 | some o =>
  have e:=KX a o hk;rw [ha] at e;cases e;refine core (fun b=>if b∈Ts then some (.tbl #[]) else none) (.inr ⟨_,vs.toArray,_,hk,rfl,rfl,rfl,by rw [aE,lenV];exact hl,by simpa using rv⟩) (fun b u z=>?_) (fun T mT=>q9 mT) (fun b z hb=>rd (qZ hb) z) fun z=>rd (qZ aT) z
  by_cases hb:b∈Ts
  ·have z':=(q9 hb).symm.trans z
   cases z';exact hT b hb
  ·have z':=(qZ hb).symm.trans z
   cases z'
 | none =>
  refine core (fun b=>if b∈Ts then some (.tbl #[]) else if b=a then some (.frz { cls:= .type "list",data:= .seq vs.toArray } (.lst (ns.map V.int))) else none) (.inl (.inr ⟨{ cls:= .type "list",data:= .seq vs.toArray },(qZ aT).trans (q9 rfl)⟩)) (fun b u z=>?_) (fun T mT=>q9 mT) (fun b z hb=>?_) fun _=>hk
  ·by_cases hb:b∈Ts
   ·have z':=(q9 hb).symm.trans z
    cases z';exact hT b hb
   ·have z:=(qZ hb).symm.trans z
    by_cases hb:b=a
    ·have z':=(q9 hb).symm.trans z
     cases z';subst hb;exact ⟨ha,by rw [aa];exact hl,vs,_,rv,ha⟩
    ·have z':=(qZ hb).symm.trans z
     cases z'
  ·by_cases hba:b=a
   ·exact ⟨hba,_,_,(qZ hb).trans (q9 hba)⟩
   ·exact rd ((qZ hb).trans (qZ hba)) z
theorem walk_ofTs {l:PySem.W.OpenLaw}{k:Nat}{q:aY}{d:DefRec}{K:Params→ak}{CX:bE→CXT}{sp:bE→Sp}
  (hn:l.most=some n) (hn2:n≤bq) (hdf:d.params.defaults=[]) (hr:Room k callerA)
  (hY:∀ (w:bE) (h:bK),YP w h→(K w.params).In h∧∀ T∈Ts,h.get? T=some (tabObj #[])) (C:∀ w:bE,∀ T∈Ts,∃ c,codeHdIn (K w.params) c T=true) (nt:∀ w:bE,noTabs (K w.params)=true)
  (F:∀ (w:bE) (mg:Str→Option ag) (fa:ao) (h:bK),(K w.params).In h→h.Ns bS mg→mg d.name=some (.ref fa) →
   ∃ fd:bw,(∀ (s:au) (u:ag),BindsTo s fd ⟨[u],[]⟩ [(x,u)]) ∧
    ∀ base:bK,(K w.params).In base→base.Ns bS mg→BM mg base→dv l.prog w (K w.params) mg base (CX w) k fa fd [x] (sp w))
  (hsp:∀ (w:bE) (H:Hp) (a:ao) (ns:List Int),ns.length≤n→(∀ T∈Ts,H T=some (.tbl #[]))→SqL (K w.params) H a (ns.map V.int)→sp w [.ref a] H (fun v _=>v= .bl true) fun _ _ _=>False)
  (hCX:∀ (w:bE) (H:Hp) (s:au) (e:ag) (s':au),CX w [] H s (fun _ _ _=>False) e s'→False) :
  PySem.W.WalkO q loose XP YP l.row.toRowW d [] (fun f vs=>PySem.call f vs):=by
 refine Att.attach_call hn hdf fun w s₀ s₁ mg mb fa o pm cd doc a vs ns G Y ho hd hcd hmg hobj hints hlen hg=>?_
 obtain ⟨KX,hT⟩:=hY w _ Y;obtain ⟨fd,hb,hF⟩:=F w mg fa _ KX G.T.g hmg;have hbm:BM mg s₁.heap:=by
  obtain ⟨bm,ob,b1,b2,b3,b4,b5,b6⟩:=G.T.bmain;refine ⟨bm,ob,b1,b2,fun q=>?_,b3,b4,b5,b6⟩;obtain ⟨o,es,ep,e,hd,_⟩:=G.T.g;rw [q,e] at b3;cases b3;rw [hd] at b6;cases b6
 exact law_callTs KX G.T.g G.T.b G.T.builtins G.T.nolimit hg hbm hT (C w) (nt w) hobj hints (bo hlen hn2) hr hF hb (fun H hO hS=>hsp w H a ns hlen hO hS) fun H e s'=>hCX w H s₁ e s'
theorem sorted_keyT {r q:ao}{ws:List ag}(hl0:IsTup s.heap r ws.toArray)(h64:ws.length<64)
  (h:∀ (g h1:bK) (D kS:ao) (e1:Nat),(∀ b o,s.heap.get? b=some o→g.get? b=some o)→(∀ b o,g.get? b=some o→h1.get? b=some o)→g.objs.size≤D→D<kS→h1.get? D=some (bR "list" #[] e1)→h1.get? kS=some (bR "list" #[] 0) →
   KeyDo prog w A.in1.in1 (.ref q) ws kS D e1 (fun t'=>Q (.ref D) t') { s with heap:=h1 }) :
  aW (bz prog w) A (call (.builtin "sorted") [.ref r] [(cZ "key",.ref q)]) Q E s:=by
 obtain ⟨ob,ho,hc,n,hd⟩:=hl0;refine call_function_entry_kw kind_sorted plain_sorted entry_sorted (ksk_s1 _ _) ?_;unfold fY.«sorted»;refine ah (m:=checkCount "sorted" 1 1 _) (aL ?_);refine ah (wpAny_collect_seq r (.inr rfl) ho hc hd (fun h' hk=>?_) (by rw [aE,gk];lia));rw [show ws.toArray.toList=ws by simp];refine ah (wpAny_newList ?_ (by rw [gk];lia));have hoL:(h'.push (bR "list" ws.toArray 0)).get? h'.objs.size=some (bR "list" ws.toArray 0):=aZ _ rfl;show aW _ _ _ _ _ { s with heap:=h'.push (bR "list" ws.toArray 0) };refine ah (dZ (wpAny_call_entry_kw slot_list_sort ⟨_,hoL,rfl⟩ entry_list_sort ?body (ksk_l1 _ _)))
 case body =>
  show aW (bz prog w) A.in1.in1 (fY.«list.sort» ⟨[.ref h'.objs.size],[(cZ "key",.ref q)]⟩) _ _ _;rw [ksk_t1];refine key_tree (s:={ s with heap:=h'.push (bR "list" ws.toArray 0) }) hoL (by lia) fun e1 g1 g2=>?_
  have K:=h h' (kr (h'.push (bR "list" ws.toArray 0)) h'.objs.size ws) h'.objs.size ((h'.push (bR "list" ws.toArray 0)).objs.size+1) e1 hk ?_ (aC _) (by rw [size_push'];exact iD (jU _)) g1 g2
  ·obtain ⟨J,j0,jc,je⟩:=K
   refine ⟨J,j0,jc,fun ks t' x1 x2=>?_⟩;obtain ⟨y1,κ,lt,y2,y3,y4,y5⟩:=je ks t' x1 x2;exact ⟨y1,κ,lt,y2,y3,y4,fun p p1 p2=>⟨_,rfl,aL ⟨_,rfl,y5 p p1 p2⟩⟩⟩
  ·exact fun b o e=>mid_keep (bM (aO e)) (ar _ e)
theorem its_at:∀ {ns:List Int} {its:List ag} {i:Nat} {x:ag},Vals (ns.map V.int) its→its[i]? =some x→∃ t,x= .int (ns.getD i 0) t
 | [],_,_,_,.nil,e=>by simp at e
 | n::ns,_,0,_,.cons r _,e=>by
  cases e;exact r
 | n::ns,_,i+1,_,.cons _ rs,e=>its_at (ns:=ns) (i:=i) rs e
def SortTQ (P:ao)(lp:Pos)(lq:Str)(js:List Nat)(te:TE)(σ:St)(Q:VK)(v:V)(H1:Hp):Prop:=∃ (r:ao) (ns:List Int) (key:Nat→Int×Int),v= .ref r∧H1 r=some (.tup (ns.map V.int))∧ns.length<64∧LamT P lp lq H1∧((aQ ns.length).map key).Nodup ∧
 (∀ i:Nat,i<ns.length→∀ H2,Tb P H1 H2→te (some (.int (ns.getD i 0))::dO σ js) H2 fun u H3=>Same H2 H3∧∃ a,u= .ref a∧H3 a=some (.tup [.int (key i).1,.int (key i).2])) ∧
 ∀ (D:ao) (H4:Hp) (π:List Nat),Tb P H1 H4→LamT P lp lq H4→H4 D=none→π.Perm (aQ ns.length)→π.Pairwise (fun i j=>ltP (key i) (key j)=true)→Q (.ref D) (upd H4 D (.lst (π.map fun (i:Nat)=>V.int (ns.getD i 0))))
def tSortT (P:ao)(lp:Pos)(lq:Str)(tr:TE)(js:List Nat)(te:TE):TE:=fun σ H Q=>tr σ H fun v H1=>SortTQ P lp lq js te σ Q v H1
def SortT1 (P:ao)(lp:Pos)(lq:Str)(js:List Nat)(te:TE)(σ:St)(Q:VK):List V→Hp→Prop
 | [v],H1=>SortTQ P lp lq js te σ Q v H1
 | _,_=>False
theorem pe_sortT {tr:TE}{p kp:Pos}{c P:ao}(hc:X.calm=true)(hrm:X.A.depth<jQ)(hg:Gl X "sorted")(hm:X.mg "sorted" =none)(hi:PE X re tr)
  (hd:defaultsOf params X.env=([],[])) (mI:X.env.code= .ref c) (C:codeHdIn X.K c P=true) (B:BM X.mg X.base)
  (hbind:∀ q cl pm cdv ct (u:ag),bindArgs (kla_fn "<lambda>" q params body scope cl pm cdv ct) ⟨[u],[]⟩=fP [(x,u)])
  (hk:scope.kind= .function) (hco:scope.isCoroutine=false) (hgen:scope.isGenerator=false) (iT:∀ y∈scope.names,y.2≠ .cell) (hx:scope.names.lookup x=some .local) (hfx:x ∉ fr)
  (hfr:∀ y∈scope.names,y.2= .free→X.env.scope.names.lookup y.1=some .cell) (hjs:js.map (fun j=>X.N[j]?)=fr.map some) (hfv:∀ y∈fr,scope.names.lookup y=some .free)
  (hb:∀ cl L f cd s' H',PE (cxLam X (X.env.qual ++ "<lambda>") scope cl L f cd (x::fr) s' H') body te)
  (he:gz pos (bD [re] X.env)=(false,eV re X.env)::gz pos (bD [] X.env):=by rfl)
  (hs:bD [re] X.env=(false,eV re X.env)::bD [] X.env:=by rfl) (hpl:(gz pos (bD [re] X.env)).any (·.1)=false:=by rfl) :
  PE X (.Call (.Name "sorted" p) [re] [⟨some "key",.Lambda params body scope lp,kp⟩] pos) (tSortT P lp (X.env.qual ++ "<lambda>") tr js te):=by
 intro aP s σ H Q I h;refine fc (lV I hg hm (u:= .builtin "sorted") (by trivial) ?_);refine callWith_kw (kws:=[⟨some "key",.Lambda params body scope lp,kp⟩]) (thn ((ae hi aB hs) pos aP s σ H (SortT1 P lp (X.env.qual ++ "<lambda>") js te σ Q) I h) fun us s1 ⟨vs,H1,I1,r1,q0⟩=>?_) he hpl;refine kws_cons ?_;obtain ⟨v,rfl⟩:∃ v,vs=[v]:=by
  cases vs with
  | nil=>exact q0.elim
  | cons v r=>cases r with
   | nil=>exact ⟨v,rfl⟩
   | cons _ _=>exact q0.elim
 have q1:SortTQ P lp (X.env.qual ++ "<lambda>") js te σ Q v H1:=q0;obtain ⟨r,ns,key,rfl,hr,h64,T,hnd,hkey,hQ⟩:=q1;obtain rfl:us=[.ref r]:=by
  cases r1 with
  | cons ru rs =>
   cases rs;exact rm (fun z=>[z]) ru
 refine lam_make (body:=body) I1 hd mI C B hfr T fun f cl H2 s2 I2 tb T2 F2 c1 c2=>?_
 refine kws_nil ?_;show aW _ _ (call (.builtin "sorted") [.ref r] [(cZ "key",.ref f)]) _ _ _;have rP:r≠P:=fun z=>by
  rcases T with T | ⟨_,T,_⟩ <;> rw [←z,hr] at T <;> cases T
 obtain ⟨its,rv,ht,_⟩:=I2.tuple (SqT.of (K:=X.K) (tb r _ rP hr));have lits:its.length=ns.length:=by rw [←rv.length,aa]
 refine sorted_keyT ht (by lia) fun g h1 D kS e1 hg hkeep hD hDk gD gK=>?_
 have I2:Inv X aP σ H2 { s2 with heap:=g }:=I2.kept (t':=s2.toks) hg;have I3:Inv X aP σ H2 { s2 with heap:=h1 }:=I2.kept (t':=s2.toks) hkeep;have old:∀ b o,g.get? b=some o→b≠D∧b≠kS:=fun b o e=>⟨bM (aR (aO e) hD),bM (jG (aR (aO e) hD) hDk)⟩
 have hDs:=aO gD;have hKs:=aO gK;have frD:H2 D=none:=I2.hok.fresh hD;have frK:H2 kS=none:=I2.hok.fresh (iW (bY hD hDk));have cc:∀ y d,X.env.cells.lookup y=some d→d≠D∧d≠kS:=fun y d e=>by obtain ⟨v,o,ho,_⟩:=I2.cell y d e;exact old d o ho
 have pp:∀ z∈X.pn++aP,z.1≠D∧z.1≠kS:=fun z hz=>old _ _ (I2.pin z hz).1
 have nl:g.objs.size≤kS:=iW (bY hD hDk);have I4:Inv X ((kS,bR "list" #[] 0)::(D,bR "list" #[] e1)::aP) σ H2 { s2 with heap:=h1 }:=I3.pins_of fun z hz=>by
  rcases aG.mp hz with rfl | hz
  ·exact ⟨gK,frK,dA (aR I2.lt nl),I2.nofs nl,fun v z=>by cases z⟩
  ·rcases aG.mp hz with rfl | hz
   ·exact ⟨gD,frD,dA (aR I2.lt hD),I2.nofs hD,fun v z=>by cases z⟩
   ·exact I3.pin z (aA _ hz)
 refine keyDo_of (num:=fun i=>ns.getD i 0) (key:=key) I4 lits h64 (fun i x e=>its_at rv e) (bo I2.sz nl) (bo I2.sz hD) (fun y d e=>(cc y d e).2) (fun y d e=>(cc y d e).1) (fun z hz=>(pp z hz).2) (fun z hz=>(pp z hz).1) (dA hDk) hnd ?_ ?_
 ·intro t H' pins' i tk hi' I' S'
  refine cy (lam_call (v:= .int (ns.getD i 0)) I' hc hrm (F2.same S') ⟨_,rfl⟩ (fun pm cdv ct=>hbind _ _ _ _ _ _) hk hco hgen iT hx hfx c1 c2 hfr hjs hfv (fun L cd s' H'=>hb cl L f cd s' H') (hkey i hi' H' (tb.trans S'.tb))) (fun k t' ⟨v,H'',I'',rv,S'',a,ev,ea⟩=>?_) fun _ _ z=>z
  subst ev;obtain rfl:k= .ref a:=rv;exact ⟨a,H'',I'',S'',rfl,ea⟩
 ·intro t H' π S' hD' I' pm pw
  exact ⟨.ref D,_,I',rfl,hQ D H' π (tb.trans S'.tb) (T2.same S') hD' pm pw⟩
def ptF (H:Hp)(fz:ao→Option Obj):Hp:=fun b=>match fz b with | some o=>some (.frz o (.own 0)) | none=>H b
def ctF (H:Hp)(fz:ao→Option Obj):Hp:=fun b=>match fz b with | some _=>none | none=>H b
def Fz (fz:ao→Option Obj)(H:Hp):Prop:=∀ b o,fz b=some o→H b=some (.frz o (.own 0))
section
variable {b:ao}{o:Obj}{fs:List ao}
theorem pR (e:fz b=some o):ptF H fz b=some (.frz o (.own 0)):=by unfold ptF;rw [e]
theorem ij (e:fz b=none):ptF H fz b=H b:=by unfold ptF;rw [e]
theorem qS (e:fz b=some o):ctF H fz b=none:=by unfold ctF;rw [e]
theorem il (e:fz b=none):ctF H fz b=H b:=by unfold ctF;rw [e]
theorem Fz.out (F:Fz fz H){u:HO}(e:H b=some u)(n:∀ o,u≠ .frz o (.own 0)):fz b=none:=by
 cases q:fz b with
 | none=>rfl
 | some o=>rw [F b o q] at e;cases e;exact rd rfl (n o)
theorem Fz.cut (F:Fz fz H){u:HO}(e:H b=some u)(n:∀ o,u≠ .frz o (.own 0)):ctF H fz b=some u:=by rw [il (F.out e n)];exact e
theorem HOk.cut (hok:HOk P w H h)(F:Fz fz H):HOk P w (ctF H fz) h:=fun a o e=>by
 cases q:fz a with
 | some o'=>rw [qS q] at e;cases e
 | none =>
  rw [il q] at e;exact (hok a o e).stay (fun _ _ _ e=>e) (fun b e'=>F.cut e' (fun _ z=>by cases z)) fun b xs e'=>F.cut e' (fun _ z=>by cases z)
theorem HOk.ptF (hok:HOk P w H h)(N:∀ b o,fz b=some o→H b=none)(G:∀ b o,fz b=some o→h.get? b=some o):HOk P w (ptF H fz) h:=fun a o e=>by
 cases q:fz a with
 | some o' =>
  rw [pR q] at e;cases e;exact ⟨G a o' q,_,G a o' q⟩
 | none =>
  rw [ij q] at e;have out:∀ b u,H b=some u→fz b=none:=fun b u e'=>by
   cases q':fz b with
   | none=>rfl
   | some o'=>rw [N b o' q'] at e';cases e'
  exact (hok a o e).stay (fun _ _ _ e=>e) (fun b e'=>by rw [ij (out b _ e')];exact e') fun b xs e'=>by rw [ij (out b _ e')];exact e'
theorem Un.thaw (u:Un fs [] (ptF H fz) H' h h')(N:∀ b o,fz b=some o→H b=none)(hok:HOk P w H' h')(G:∀ b o,fz b=some o→h.get? b=some o):Un fs [] H (ctF H' fz) h h':=by
 have F:Fz fz H':=fun b o e=>u.frzs b o _ (pR e)
 have out:∀ b u,H b=some u→fz b=none:=fun b u e'=>by
  cases q':fz b with
  | none=>rfl
  | some o'=>rw [N b o' q'] at e';cases e'
 have same:∀ b o ob,fz b=some o→h.get? b=some ob→h'.get? b=some ob:=fun b o ob q e=>by
  have e1:=G b o q;rw [e] at e1;cases e1;exact (hok b _ (F b _ q)).1
 refine ⟨fun b o e n hf hx=>?_,fun b o e n hf hx=>?_,fun b o e n hx=>?_,u.there,fun b xs e=>?_,fun b o x e=>?_,fun b ps e=>?_⟩
 ·cases q:fz b with
  | some o'=>exact same b o' o q e
  | none=>exact u.keep b o e (by rw [ij q];exact n) hf hx
 ·cases q:fz b with
  | some o'=>exact ⟨o.slots,same b o' o q e⟩
  | none=>exact u.slot b o e (by rw [ij q];exact n) hf hx
 ·cases q:fz b with
  | some o'=>exact qS q
  | none=>rw [il q];exact u.free b o e (by rw [ij q];exact n) hx
 ·have q:=out b _ e
  rw [il q];exact u.tups b xs (by rw [ij q];exact e)
 ·have q:=out b _ e
  rw [il q];exact u.frzs b o x (by rw [ij q];exact e)
 ·have q:=out b _ e
  rw [il q];exact u.tbls b ps (by rw [ij q];exact e)
theorem Un.froze (u:Un fs [] (ctF H fz) H' h h')(F:Fz fz H):Un fs [] H (ptF H' fz) h h':=by
 have out:∀ b,H b=none→fz b=none:=fun b n=>by
  cases q:fz b with
  | none=>rfl
  | some o=>rw [F b o q] at n;cases n
 refine ⟨fun b o e n hf hx=>u.keep b o e (by rw [il (out b n)];exact n) hf hx,fun b o e n hf hx=>u.slot b o e (by rw [il (out b n)];exact n) hf hx,fun b o e n hx=>?_,u.there,fun b xs e=>?_,fun b o x e=>?_,fun b ps e=>?_⟩
 ·rw [ij (out b n)];exact u.free b o e (by rw [il (out b n)];exact n) hx
 ·have q:=F.out e (fun _ z=>by cases z)
  rw [ij q];exact u.tups b xs (by rw [il q];exact e)
 ·cases q:fz b with
  | some o'=>rw [F b o' q] at e;cases e;exact pR q
  | none=>rw [ij q];exact u.frzs b o x (by rw [il q];exact e)
 ·have q:=F.out e (fun _ z=>by cases z)
  rw [ij q];exact u.tbls b ps (by rw [il q];exact e)
end
structure Clo (cl:List (Str×ao))(fz:ao→Option Obj)(fr:List Str)(ws:List V):Prop where
 all:∀ x c,cl.lookup x=some c→∃ o,fz c=some o
 cell:∀ c o,fz c=some o→∃ v,o.data= .cell v
 inj:∀ a b c,cl.lookup a=some c→cl.lookup b=some c→a=b
 val:∀ (i:Nat) y v,fr[i]? =some y→ws[i]? =some v→∃ c o u,cl.lookup y=some c∧fz c=some o∧o.data= .cell (some u)∧RelV v u
 len:ws.length=fr.length
structure LmOk (P:aY)(w:bE)(K:ak)(mg:Str→Option ag)(base:bK)(k:Nat)(f:ao)(Hf:Hp→Prop)(sp:Sp):Prop where
 isFn:∀ H h,Hf H→HOk P w H h→FnAt f h
 run:∀ (A:bW) (outer:List Env) (s:au) (H:Hp) (u:ag) (v:V) (Q:VK),Room k A→Env0 P w K mg base A outer s H→Hf H→RelV v u→sp [v] H Q E0→jo (bz P w) A (.call (.ref f) ⟨[u],[]⟩) (CR CX0 outer P w H s Q E0) s
def cxLm (P:aY)(w:bE)(K:ak)(mg:Str→Option ag)(base:bK)(q:Str)(scope:fI)(cl:List (Str×ao))(L f:ao)(cd:ag)(N:List Str)(A:bW)(outer:List Env)(s:au)(H:Hp):Cx :=
 { prog:=P,w:=w,K:=K,mg:=mg,base:=base,A:=A.deeper (envX q scope L f cd cl),N:=N,s₀:=s,H₀:=H,env:=envX q scope L f cd cl,outer:=outer,stack:=envX q scope L f cd cl::outer,ex:=[],calm:=true,fn:=fun _=>false,pn:=[],xe:=fun _ _=>False }
theorem lam_run {k:Nat}{ws:List V}{sp:Sp}
  (hbind:∀ u pm cdv ct,bindArgs (kla_fn "<lambda>" q params body scope cl pm cdv ct) ⟨[u],[]⟩=fP [(x,u)])
  (hk:scope.kind= .function) (hco:scope.isCoroutine=false) (hgen:scope.isGenerator=false) (iT:∀ y∈scope.names,y.2≠ .cell) (hx:scope.names.lookup x=some .local) (hfx:x ∉ fr)
  (C:Clo cl fz fr ws) (hcl:∀ y∈scope.names,y.2= .free→∃ c,cl.lookup y.1=some c) (hfv:∀ y∈fr,scope.names.lookup y=some .free)
  (hb:∀ L cd A outer s' H',Room k (A.deeper (envX q scope L f cd cl))→PE (cxLm P w K mg base q scope cl L f cd (x::fr) A outer s' H') body te)
  (ht:∀ v H Q,LamF q params body scope cl f H→Fz fz H→sp [v] H Q E0→te (some v::ws.map some) (ctF H fz) (fun y H'=>(∀ b o,fz b=some o→H' b=none)→Q y (ptF H' fz))) :
  LmOk P w K mg base (k+1) f (fun H=>LamF q params body scope cl f H∧Fz fz H) sp:=by
 refine ⟨fun H h ⟨⟨pm,cd,ct,e,_⟩,_⟩ hok=>⟨_,_,_,_,(hok f _ e).1⟩,fun A outer s H u v Q hr e0 ⟨F,Z⟩ ru hsp=>?_⟩;have ht:=ht v H Q F Z hsp;obtain ⟨pm,cd,ct,e,oc,vs,t,ec,hdc,hvc⟩:=F;have ho:s.heap.get? f=some (kla_obj "<lambda>" q params body scope cl pm cd ct):=(e0.hok f _ e).1;have hoc:s.heap.get? cd=some oc:=(e0.hok cd _ ec).1;refine kla_callFunE (by have:=hr.dp;lia) ho rfl hco hgen rfl ⟨cd,oc,vs,t,rfl,hoc,hdc,hvc⟩ ?_;rw [hbind];refine aL (wpAny_newFunctionEnv iT (fun y hy=>?_) (fun h₁ hns hsb=>⟨?nl,?_⟩) hk)
 ·rw [ax.mp hy];exact hx
 case nl=>exact (e0.mod.nolimit.keeps (fun b o e=>(e0.bs b o e).1)).fresh _ hsb
 show jo _ _ (.expr body (envX q scope s.heap.objs.size f (.ref cd) cl)) _ _;have old:∀ b o,s.heap.get? b=some o→h₁.get? b=some o:=fun b o e=>hsb.extBut b o (bM (aO e)) (ar _ e)
 refine kla_codeExpr ?_;have hokc:=HOk.cut e0.hok Z;have cutN:∀ b,H b=none→ctF H fz b=none:=fun b n=>by
  cases z:fz b with
  | some o=>exact qS z
  | none=>rw [il z];exact n
 have ok':(cxLm P w K mg base q scope cl s.heap.objs.size f (.ref cd) (x::fr) A outer s (ctF H fz)).Ok:=by
  refine ⟨e0.mod,hk,rfl,rfl,aC _,C.inj,fun y hy=>?_,fun _ _ z=>rd z (by intro q;cases q),fun _=>hr.hd,bW.frames_deeper e0.frames,.inr ⟨rfl,rfl⟩,fun b hb=>rd (show b∈([]:List ao) from hb) (by simp),fun b o e=>⟨(e0.bs b o e).1,cutN b (e0.bs b o e).2⟩,e0.bsz,fun b o e hb=>rd (show b∈([]:List ao) from hb) (by simp),fun b hb=>rd (show b∈([]:List ao) from hb) (by simp),e0.funs,fun b hb=>cutN b (e0.frf b hb)⟩;have hy:scope.names.lookup y=some .cell∨scope.names.lookup y=some .free:=hy
  rcases hy with hy | hy
  ·exact rd rfl (iT _ (cz hy))
  ·exact hcl _ (cz hy) rfl
 have cellAt:∀ c o,fz c=some o→h₁.get? c=some o:=fun c o z=>old _ _ (e0.hok c _ (Z c o z)).1
 have I1:Inv (cxLm P w K mg base q scope cl s.heap.objs.size f (.ref cd) (x::fr) A outer s (ctF H fz)) [] (some v::ws.map some) (ctF H fz) { s with heap:=h₁,toks:=s.toks+1 }:=by
  refine ⟨ok',rfl,e0.bare,Un.kept old,⟨_,hns,fun i y v' e1 e2 e3=>?_⟩,fun y c e=>?_,hokc.fresh (aC _),fun y c e=>?_,fun p hp=>rd (show p∈([]:List (ao×Obj)) from hp) (by simp),hokc.kept old,?_⟩
  ·cases i with
   | zero =>
    have e1:some x=some y:=e1;have e2:some (some v)=some (some v'):=e2;cases e1;cases e2;exact ⟨u,ru,.inl ⟨hx,by show e8 x [(x,u)]=_;rw [dU,beq_self_eq_true]⟩⟩
   | succ i =>
    have e1:fr[i]? =some y:=e1;have e2:(ws.map some)[i]? =some (some v'):=e2;rw [az] at e2;obtain ⟨v2,e2,e4⟩:=bI.mp e2;cases e4;obtain ⟨c,o,u',z1,z2,z3,z4⟩:=C.val i y v' e1 e2;exact ⟨u',z4,.inr ⟨.inr (hfv y (bt e1)),c,z1,o,cellAt c o z2,z3⟩⟩
  ·obtain ⟨o,z⟩:=C.all y c e
   obtain ⟨v',hv'⟩:=C.cell c o z;exact ⟨v',o,cellAt c o z,hv'⟩
  ·obtain ⟨o,z⟩:=C.all y c e
   exact qS z
  ·show (some v::ws.map some).length=(x::fr).length
   rw [aX,aX,aa,C.len]
 refine cy (hb _ _ A outer s (ctF H fz) (hr.deeper _) [] _ _ (ctF H fz) _ I1 ht) (fun y s' hs=>?_) fun _ _ z=>z.elim
 obtain ⟨v',H',J,rv,qv⟩:=hs;have JB:Un (frs outer) [] (ctF H fz) H' s.heap s'.heap:=J.base;have heapAt:∀ b o,fz b=some o→s'.heap.get? b=some o:=fun b o z=>JB.keep b o (e0.hok b _ (Z b o z)).1 (qS z) (fun hb=>by have:=e0.frf b hb;rw [Z b o z] at this;cases this) (by simp)
 have freeAt:∀ b o,fz b=some o→H' b=none:=fun b o z=>JB.free b o (e0.hok b _ (Z b o z)).1 (qS z) (by simp)
 exact ⟨v',ptF H' fz,J.os,J.bare,Un.froze JB Z,HOk.ptF J.hok freeAt heapAt,rv,qv freeAt⟩
def tLam (i:Nat)(f:ao)(Hf:Hp→Prop)(sp:Sp)(t:TE):TE:=fun σ H Q=>σ[i]? =some (some (.ref f))∧Hf H∧t σ H fun v H1=>Hf H1∧sp [v] H1 Q E0
theorem pe_callV {k:Nat}{p:Pos}{t:TE}{sp:Sp}(L:LmOk X.prog X.w X.K X.mg X.base k f Hf sp)(hr:Room k X.A)(ha:PE X e t)(hN:X.N[i]? =some x:=by rfl)(hv:Vis X.env.scope x:=by first | exact Or.inl rfl | exact Or.inr (.inl rfl) | exact Or.inr (.inr rfl))
  (hd:(x == ("__debug__" :Str))=false:=by decide) (hcd:(x == ("__classdict__" :Str))=false:=by decide) (he:bD [e] X.env=[(false,eV e X.env)]:=by rfl):PE X (.Call (.Name x p) [e] [] pos) (tLam i f Hf sp t):=by
 intro aP s σ H Q I ⟨h1,h2,h3⟩;refine fc (thn (pe_var hN hv hd hcd aP s σ H (fun v H1=>v= .ref f∧H1=H) I ⟨_,h1,rfl,rfl⟩) fun u s1 ⟨v,H1,I1,r1,e1,e2⟩=>?_);subst e1;subst e2;cases r1;refine callWith_F (L.isFn _ _ h2 I1.hok) (thn ((ae ha aB he) pos aP s1 σ H1 (fun vs H2=>match vs with | [v]=>Hf H2∧sp [v] H2 Q E0 | _=>False) I1 h3) fun us s2 ⟨vs,H2,I2,r2,q2⟩=>?_) he rfl
 ·obtain _ | ⟨v,_ | ⟨v',vs⟩⟩:=vs
  ·exact q2.elim
  rotate_left
  ·exact q2.elim
  obtain ⟨h4,h5⟩:=q2;obtain ⟨u,rfl,ru⟩:=r2.one;refine ⟨L.isFn _ _ h4 I2.hok,wpAny_call (codeAny_mono (L.run X.A X.stack s2 H2 u v Q hr I2.env0 h4 ru h5) fun r s' hq=>?_)⟩;cases r with
  | error e=>exact df hq
  | ok fl =>
   cases fl with
   | ret u=>exact I2.after hq
   | next=>exact df hq
   | brk=>exact df hq
   | cont=>exact df hq
def LamE (env:Env)(scope:fI)(cl:List (Str×ao)):Prop:=(∀ x c,cl.lookup x=some c→env.cells.lookup x=some c)∧∀ y∈scope.names,y.2= .free→cl.lookup y.1=env.cells.lookup y.1
def tLamb (env:Env)(T:ao)(lp:Pos)(params:fE)(body:Expr)(scope:fI):TE:=fun _ H Q=>LamT T lp (env.qual ++ "<lambda>") H∧∀ g cl H',Tb T H H'→LamT T lp (env.qual ++ "<lambda>") H'→LamF (env.qual ++ "<lambda>") params body scope cl g H'→LamE env scope cl→Q (.ref g) H'
def tCallZ (env:Env)(scope:fI)(fr:List Str)(js:List Nat)(sp:Sp)(t:TA):TE:=fun σ H Q=>t σ H fun vs H1=>∃ cl ws,LamE env scope cl∧dO σ js=ws.map some∧∀ fz,Clo cl fz fr ws→(∀ b o,fz b=some o→H1 b=none)→sp vs (ptF H1 fz) (fun y H'=>Fz fz H'→Q y (ctF H' fz)) E0
open Classical in
def oi (cl:List (Str×ao))(h:bK):ao→Option Obj:=fun b=>if ∃ x,cl.lookup x=some b then h.get? b else none
section
variable {σ:List (Option V)}
theorem pe_lam {c T:ao}(hd:defaultsOf params X.env=([],[]))(mI:X.env.code= .ref c)(C:codeHdIn X.K c T=true)(B:BM X.mg X.base)
  (hfr:∀ y∈scope.names,y.2= .free→X.env.scope.names.lookup y.1=some .cell):PE X (.Lambda params body scope pos) (tLamb X.env T pos params body scope):=fun _ _ _ _ _ I ⟨L,h⟩ =>
 lam_make I hd mI C B hfr L fun f cl H' _ I' t1 T1 F c1 c2=>⟨.ref f,H',I',rfl,h f cl H' t1 T1 F ⟨c1,c2⟩⟩
theorem nM {b:ao}{o:Obj}(e:oi cl h b=some o):(∃ x,cl.lookup x=some b)∧h.get? b=some o:=by
 unfold oi at e;split at e
 ·rename_i z;exact ⟨z,e⟩
 ·cases e
theorem frzOf_of {b:ao}{o:Obj}(z:cl.lookup x=some b)(e:h.get? b=some o):oi cl h b=some o:=by
 unfold oi;rw [q9 ⟨x,z⟩];exact e
theorem Inv.clo {ws:List V}(I:Inv X aP σ H s)(E:LamE X.env scope cl)(hws:dO σ js=ws.map some)(hjs:js.map (fun j=>X.N[j]?)=fr.map some)(hfv:∀ y∈fr,scope.names.lookup y=some .free)
  (hfr:∀ y∈scope.names,y.2= .free→X.env.scope.names.lookup y.1=some .cell):Clo cl (oi cl s.heap) fr ws:=by
 have lens:ws.length=fr.length:=by
  have e:=rm List.length hws;have e2:=rm List.length hjs;unfold dO at e;rw [aa,aa] at e e2;lia
 refine ⟨fun x c e=>?_,fun c o e=>?_,fun a b c e1 e2=>I.ok.inj a b c (E.1 a c e1) (E.1 b c e2),fun i y v e1 e2=>?_,lens⟩
 ·obtain ⟨v,o,ho,_⟩:=I.cell x c (E.1 x c e)
  exact ⟨o,frzOf_of e ho⟩
 ·obtain ⟨⟨x,hx⟩,ho⟩:=nM e
  obtain ⟨v,o',ho',hd⟩:=I.cell x c (E.1 x c hx);rw [ho] at ho';cases ho';exact ⟨v,hd⟩
 ·have e3:(dO σ js)[i]? =some (some v):=by rw [hws,az,e2];rfl
  unfold dO at e3;rw [az] at e3;obtain ⟨j,ej,e3⟩:=bI.mp e3;have hN:X.N[j]? =some y:=by
   have q:=rm (fun l=>l[i]?) hjs;simp only [az,ej,e1,gu] at q;exact cE q
  have hσ:σ[j]? =some (some v):=by
   cases z:σ[j]? with
   | none=>rw [z] at e3;cases e3
   | some w=>rw [z] at e3;exact rm some e3
  have hm:=cz (hfv y (bt e1));have hce:X.env.scope.names.lookup y=some .cell:=hfr _ hm rfl;obtain ⟨m,_,hl⟩:=I.loc;obtain ⟨u',ru',look⟩:=hl j y v hN hσ (.inr (.inl hce))
  rcases look with ⟨k,_⟩ | ⟨_,c,ec,o,ho,hd⟩
  ·have k:X.env.scope.names.lookup y=some .local:=k
   rw [hce] at k;cases k
  ·have ecl:cl.lookup y=some c:=(E.2 _ hm rfl).trans ec
   exact ⟨c,o,u',ecl,frzOf_of ecl ho,hd,ru'⟩
theorem pe_callZ {p:Pos}{k:Nat}{sp:Sp}(F:dv X.prog X.w X.K X.mg X.base CX0 k f fd ps sp)(hr:Room k X.A)(hfn:∀ x,X.fn x=true)(hg:Gl X x)(hm:X.mg x=some (.ref f))(hk:fe X.K (.ref f)=true)(hb:Binds X.K fd ps [])
  (hjs:js.map (fun j=>X.N[j]?)=fr.map some) (hfv:∀ y∈fr,scope.names.lookup y=some .free) (hfr:∀ y∈scope.names,y.2= .free→X.env.scope.names.lookup y.1=some .cell)
  (ha:PA X (e::es) t) (hdb:(x == ("__debug__" :Str))=false:=by decide) (he:bD (e::es) X.env=(false,eV e X.env)::bD es X.env:=by rfl) (hpl:(gz pos (bD es X.env)).any (·.1)=false:=by rfl) :
  PE X (.Call (.Name x p) (e::es) [] pos) (tCallZ X.env scope fr js sp t):=by
 intro aP s σ H Q I h;refine fc (ld_glob I hg hm ?_ hdb);refine kg (h₀:=X.base) I.ok.mod.kin hk (thn (ha pos aP s σ H _ I h) fun us s1 ⟨vs,H1,I1,r,q⟩=>⟨I1.kIn,?_⟩) he hpl;obtain ⟨cl,ws,LE,hws,q⟩:=q;have C:=I1.clo LE hws hjs hfv hfr;have N:∀ b o,oi cl s1.heap b=some o→H1 b=none:=fun b o e=>by
  obtain ⟨⟨x,hx⟩,_⟩:=nM e;exact I1.freeC x b (LE.1 x b hx)
 have G:∀ b o,oi cl s1.heap b=some o→s1.heap.get? b=some o:=fun b o e=>(nM e).2
 have up:∀ b o,oi cl s1.heap b=some o→X.s₀.heap.objs.size≤b:=fun b o e=>by
  obtain ⟨⟨x,hx⟩,_⟩:=nM e;exact I1.ok.cab x b (hfn x) (LE.1 x b hx)
 have q:=q _ C N;have hl:us.length=ps.length:=by rw [←r.length];exact F.len _ _ _ _ q
 have e0:Env0 X.prog X.w X.K X.mg X.base X.A X.stack s1 (ptF H1 (oi cl s1.heap)):=by
  have e:=I1.env0;refine ⟨e.frames,e.mod,fun b o eb=>⟨(e.bs b o eb).1,?_⟩,e.bsz,e.funs,fun b hb=>?_,HOk.ptF e.hok N G,e.bare⟩
  ·cases z:oi cl s1.heap b with
   | none=>rw [ij z];exact (e.bs b o eb).2
   | some o' =>
    have h1:=up b o' z;have h2:=aO eb;have h3:=I1.ok.bsz;exact rd (aR h2 (bo h3 h1)) (gg _)
  ·cases z:oi cl s1.heap b with
   | none=>rw [ij z];exact e.frf b hb
   | some o' =>
    exfalso
    rcases aG.mp (I1.stkSub b hb) with el | hb'
    ·obtain ⟨v,hv⟩:=C.cell b o' z
     obtain ⟨m,⟨o2,es2,ep2,ho2,hd2,_⟩,_⟩:=I1.loc;have e1:=G b o' z;rw [el,ho2] at e1;cases e1;rw [hd2] at hv;cases hv
    ·obtain ⟨_,o2,ho2,_⟩:=I1.ok.funs.mem hb'
     have h1:=up b o' z;have h2:=aO ho2;exact rd (aR h2 h1) (gg _)
 refine wpAny_call (codeAny_mono (F.run X.A X.stack s1 _ ⟨us,[]⟩ us vs _ E0 hr e0 (by have:=hb s1 us I1.kIn (by rw [eU];exact hl);rw [eU] at this;exact this) r q) fun r' s' hq=>?_);cases r' with
 | error e=>exact df hq
 | ok fl =>
  cases fl with
  | ret u =>
   obtain ⟨v,H',os,bare,un,hok,rv,qv⟩:=hq;have Z:Fz (oi cl s1.heap) H':=fun b o e=>un.frzs b o _ (pR e)
   exact I1.after ⟨v,ctF H' (oi cl s1.heap),os,bare,Un.thaw un N hok G,HOk.cut hok Z,rv,qv Z⟩
  | next=>exact df hq
  | brk=>exact df hq
  | cont=>exact df hq
end
end L2
namespace HN
open PySem L2 PyProof.Rows
def TiedBy (sp:List Sn)(L k:Int):Prop:=∃ x∈sp,x.o - x.l≤L∧((x.s=k∧0≤x.g∧x.g<k)∨(x.g=k∧0≤x.s∧x.s<k))
def oy (m:Int)(sp:List Sn)(L:Int):Prop:=(∀ x∈sp,x.o - x.l≤L)∨∀ k,1≤k→k<m→TiedBy sp L k
theorem taken_at {sp:List Sn}{i:Nat}:∀ (π:List Nat) (c:List Int×List Nat),i∈(π.foldl (gi sp) c).2→i∈c.2∨∃ π1 π2,π=π1++i::π2∧tm (π1.foldl (gi sp) c).1 (sAt sp i).s≠tm (π1.foldl (gi sp) c).1 (sAt sp i).g
 | [],c,h=> .inl h
 | j::π,c,h=>by
  rw [bQ] at h
  rcases taken_at π _ h with h | ⟨π1,π2,rfl,hne⟩
  ·obtain ⟨gs,tk⟩:=c
   rcases jj sp gs tk j with ⟨_,e⟩ | ⟨n,e⟩ <;> rw [e] at h
   ·exact .inl h
   ·rcases aN.mp h with h | h
    ·exact .inl h
    ·rw [ax.mp h]
     exact .inr ⟨[],π,rfl,n⟩
  ·exact .inr ⟨j::π1,π2,rfl,hne⟩
theorem all_met {m:Nat}{sp:List Sn}{L:Int}{gs:List Int}(E:Ends m sp)(meets:∀ x∈sp,x.o - x.l≤L→tm gs x.s=tm gs x.g)(ti:∀ k:Int,1≤k→k<m→TiedBy sp L k):∀ (n:Nat) (k:Int),0≤k→k<m→k.toNat≤n→tm gs k=tm gs 0
 | n,k,k0,k1,kn=>by
  by_cases z:k=0
  ·rw [z]
  ·obtain ⟨x,hx,hw,h⟩:=ti k (by lia) k1
   have e:=meets x hx hw
   rcases h with ⟨h1,h2,h3⟩ | ⟨h1,h2,h3⟩
   ·cases n with
    | zero=>lia
    | succ n =>
     rw [h1] at e;rw [e];exact all_met E meets ti n x.g h2 (by lia) (by lia)
   ·cases n with
    | zero=>lia
    | succ n =>
     rw [h1] at e;rw [←e];exact all_met E meets ti n x.s h2 (by lia) (by lia)
theorem frst_narrow {L:Int}(E:Ends m sp)(N:oy (m:Int) sp L)(F:FrstL m sp l):∀ i∈l,i<sp.length∧(wkey sp i).1≤L:=by
 obtain ⟨_,π,O,pm⟩:=F;intro i hi;have hi:=pm.mem_iff.mp hi
 rcases taken_at π (kt m,[]) hi with h | ⟨π1,π2,e,h⟩
 ·cases h
 have hil:i<sp.length:=O.lt (by rw [e];simp);refine ⟨hil,?_⟩
 rcases N with N | N
 ·exact N _ (eQ hil)
 ·by_cases w:(wkey sp i).1≤L
  ·exact w
  exfalso;have w:L<(sAt sp i).o - (sAt sp i).l:=by
   have:¬ ((sAt sp i).o - (sAt sp i).l≤L):=w;lia
  have p1:∀ j∈π1,j<sp.length:=fun j hj=>O.lt (by rw [e];simp [hj])
  have meets:∀ x∈sp,x.o - x.l≤L→tm (π1.foldl (gi sp) (kt m,[])).1 x.s=tm (π1.foldl (gi sp) (kt m,[])).1 x.g:=by
   intro x hx hw;obtain ⟨j,hj,ej⟩:=List.getElem_of_mem hx;have ej:sAt sp j=x:=by
    unfold sAt;rw [ai,gE hj];exact ej
   have hjπ:j∈π:=O.1.mem_iff.mpr (bT.mpr hj);have hj1:j∈π1:=by
    rw [e] at hjπ
    rcases aN.mp hjπ with z | z
    ·exact z
    ·exfalso
     rcases aG.mp z with z | z
     ·rw [z] at ej;rw [ej] at w;lia
     ·have pw:=O.2
      rw [e] at pw;have:=(List.pairwise_cons.mp (List.pairwise_append.mp pw).2.1).1 j z;rw [ltP_iff] at this;unfold wkey at this;rw [ej] at this;lia
   have:=kE E π1 (kt m) [] (lg m) p1 j hj1;rw [ej] at this;exact this
  obtain ⟨a0,a1,b0,b1⟩:=E _ (eQ hil);refine h ?_;rw [all_met E meets N _ _ a0 a1 (aC _),all_met E meets N _ _ b0 b1 (aC _)]
theorem prodW_lim {sp:List Sn}{L:Int}:∀ (l:List Nat),(∀ i∈l,0≤(wkey sp i).1∧(wkey sp i).1≤L)→1≤kz sp l∧kz sp l≤(L+1) ^ l.length
 | [],_=>⟨(gh 1:(1:Int)≤1),by show (1:Int)≤(L+1) ^ 0;rw [Int.pow_zero];exact gh 1⟩
 | i::l,h=>by
  obtain ⟨a,b⟩:=h i (by simp);obtain ⟨c,d⟩:=prodW_lim l fun j hj=>h j (aw _ hj)
  rw [nX,aX,Int.pow_succ,Int.mul_comm ((L+1) ^ l.length)];refine ⟨?_,Int.mul_le_mul (by lia) d (by lia) (by lia)⟩;have:1 * 1≤((wkey sp i).1+1) * kz sp l:=Int.mul_le_mul (by lia) c (by decide) (by lia);lia
def jf (m:Int):Int:=([1,1,40,7,4,3,2,2,2]:List Int).getD m.toNat 0
theorem limOf_pos {m:Int}(h0:1≤m)(h1:m≤8):1≤jf m∧jf m≤40:=by
 obtain ⟨n,rfl⟩:=cJ (by lia:0≤m);exact (by decide:∀ n∈aQ 9,1≤jf (n:Nat)∧jf (n:Nat)≤40) n (bT.mpr (by lia))
theorem limOf_pow {k:Nat}(h0:1≤m)(h1:m≤8)(hk:k<m):jf m ^ k≤4096 :=
 (by trivial:∀ m∈aQ 9,∀ k∈aQ m,jf (m:Nat) ^ k≤4096) m (bT.mpr (by lia)) k (bT.mpr hk)
theorem qe {m:Int}(N:NetT b m sp)(m8:m≤8)(na:oy m sp (jf m - 1)):∀ l,FrstL m.toNat sp l→kz sp l≤4096:=by
 intro l F;have m1:=N.m1;have em:((m.toNat:Nat):Int)=m:=g6 (by lia);have E:=N.ends;have nar:=frst_narrow E (by rw [em];exact na) F;have few:=F.few E (by lia);have:=(prodW_lim (sp:=sp) (L:=jf m - 1) l fun i hi=>by
  obtain ⟨a,c⟩:=nar i hi;refine ⟨?_,c⟩;have:=(N.all _ (eQ a)).lo;show 0≤(sAt sp i).o - (sAt sp i).l;lia).2
 rw [show jf m - 1+1=jf m by lia] at this;have p:=limOf_pow (m:=m.toNat) (k:=l.length) (by lia) (by lia) few;rw [em] at p;lia
structure HidN (b m:Int)(ts:List Int)(L:Int)(kept tied:Bool)(n:Int)(sp:List Sn):Prop where
 all:∀ x∈sp,SnOk b m x
 fit:kept=true→∀ x∈sp,fW b ts x≤x.o - x.l
 nar:tied=false→∀ x∈sp,x.o - x.l≤L
 tie:tied=true→∀ k,1≤k→k<n→TiedBy sp L k
section
variable {m L n:Int}{kept tied:Bool}{x:Sn}
theorem HidN.nil:HidN b m ts L kept tied 1 []:=⟨fun _ h=>rd h (by simp),fun _ _ h=>rd h (by simp),fun _ _ h=>rd h (by simp),fun _ k h1 h2=>by lia⟩
theorem HidN.put (h:HidN b m ts L kept tied n sp)(ok:SnOk b m x)(f:kept=true→fW b ts x≤x.o - x.l)(na:tied=false→x.o - x.l≤L)(j:Nat):HidN b m ts L kept tied n (sp.take j++x::sp.drop j):=by
 have mem:∀ y,y∈sp.take j++x::sp.drop j→y=x∨y∈sp:=fun y hy=>by
  rcases aN.mp hy with z | z
  ·exact .inr (j3 z)
  ·rcases aG.mp z with z | z
   ·exact .inl z
   ·exact .inr (List.mem_of_mem_drop z)
 have back:∀ y∈sp,y∈sp.take j++x::sp.drop j:=fun y hy=>by
  rw [←jK j sp] at hy
  rcases aN.mp hy with z | z
  ·exact aM _ z
  ·exact aA _ (aw _ z)
 refine ⟨fun y hy=>?_,fun k y hy=>?_,fun t y hy=>?_,fun t k k1 k2=>?_⟩
 ·rcases mem y hy with rfl | z
  ·exact ok
  ·exact h.all y z
 ·rcases mem y hy with rfl | z
  ·exact f k
  ·exact h.fit k y z
 ·rcases mem y hy with rfl | z
  ·exact na t
  ·exact h.nar t y z
 ·obtain ⟨y,hy,w,r⟩:=h.tie t k k1 k2
  exact ⟨y,back y hy,w,r⟩
theorem HidN.more (h:HidN b m ts L kept tied n sp)(n1:1≤n)(ok:SnOk b m x)(f:kept=true→fW b ts x≤x.o - x.l)(na:x.o - x.l≤L)(e:(x.s=n∧0≤x.g∧x.g<n)∨(x.g=n∧0≤x.s∧x.s<n)):HidN b m ts L kept tied (n+1) (sp++[x]):=by
 have p:=h.put ok f (fun _=>na) sp.length;rw [bc,List.drop_length] at p;refine ⟨p.all,p.fit,p.nar,fun t k k1 k2=>?_⟩
 by_cases z:k=n
 ·exact ⟨x,by simp,na,by rw [z];exact e⟩
 ·exact p.tie t k k1 (by lia)
theorem HidN.skip (h:HidN b m ts L kept false n sp)(n':Int):HidN b m ts L kept false n' sp:=⟨h.all,h.fit,h.nar,fun t=>by cases t⟩
theorem HidN.narrow (h:HidN b m ts L kept tied m sp):oy m sp L:=by
 cases tied with
 | false=>exact .inl (h.nar rfl)
 | true=>exact .inr (h.tie rfl)
theorem HidN.fits (h:HidN b m ts L kept tied n sp)(k:kept=true):jB b ts sp=true:=by
 unfold jB;rw [gH,gG];intro x hx;have:=h.fit k x hx;unfold brk;simp only [decide_eq_true_eq];lia
end
theorem kept_wait {j r l wd:Int}{x:Sn}(hb:1≤b)(w0:0≤wd)(w1:wd<b)(e:l=(tm ts x.g - tm ts x.s - r % (wd+1)) % b+b * j)(el:x.l=l):fW b ts x≤wd:=by
 have r0:=cR r (by lia:wd+1≠0);have r1:=cL r (by lia:0<wd+1);unfold fW;rw [el,e];generalize r % (wd+1)=q at r0 r1 ⊢;have:(tm ts x.g - tm ts x.s - ((tm ts x.g - tm ts x.s - q) % b+b * j)) % b=q:=by
  rw [show tm ts x.g - tm ts x.s - ((tm ts x.g - tm ts x.s - q) % b+b * j)=(tm ts x.g - tm ts x.s - (tm ts x.g - tm ts x.s - q) % b) - b * j by lia,Int.sub_mul_emod_self_left];rw [Int.sub_emod,Int.emod_emod,←Int.sub_emod,show tm ts x.g - tm ts x.s - (tm ts x.g - tm ts x.s - q)=q by lia,jH r0 (by lia)]
 lia
end HN
namespace L2
open PySem PySem.W PySem.Spec PyProof.Rows
def CGrt (i j:Int):Prop:=i.natAbs<10 ^ 1000∧j.natAbs<10 ^ 1000
theorem bits_grt {x:Int}(h:x.natAbs<10 ^ 1000):jJ x≤2 ^ 20:=by
 unfold jJ;split
 ·exact bF _
 ·rename_i hx
  have h0 : x.natAbs ≠ 0 := fun z => hx (by have e : x = 0 := by lia
                                            rw [e];rfl)
  have h2:=(Nat.log2_lt h0).mpr (jG h (by trivial:10 ^ 1000<2 ^ 10000));have h3:(10000:Nat)+1≤2 ^ 20:=by decide
  lia
theorem ip_mulG:PIp X .Mult (fun x y H Q=>∃ i j,x= .int i∧y= .int j∧CGrt i j∧Q (.int (i * j)) H):=by
 intro aP s σ H x y v u Q I r1 r2 h;obtain ⟨i,j,e1,e2,hc,q⟩:=h;subst e1;subst e2;obtain ⟨t,rfl⟩:=r1;obtain ⟨t',rfl⟩:=r2;exact imul_int ⟨.int _,H,I.tok _,⟨_,rfl⟩,q⟩ (IntMulOk.of_bits (bits_grt hc.1) (bits_grt hc.2))
end L2
namespace L2
open PySem PySem.Spec PyProof.Rows
def Itvl (K:ak)(a:ao)(n:Nat):It :=
 ⟨fun i H=>∃ xs x,SqL K H a xs∧xs.length=n∧xs.reverse[i]? =some x,fun i H x H'=>H'=H∧∀ xs,SqL K H a xs→xs.reverse[i]? =some x,fun i _=>i=n⟩
theorem turn_revL (a it:ao)(n:Nat):Turn P w K tg (Itvl K a n) [it] it (fun i h=>h.IsRevIter it a ((n:Int) - 1 - (i:Nat))) where
 mem:=by simp
 obj:=fun i h st b hb=>by
  have e:b=it:=by simpa using hb
  subst e;obtain ⟨o,e,c,d⟩:=st;exact ⟨o,e,fun v z=>by rw [d] at z;cases z⟩
 keep:=fun i h h' st k=>st.at fun o e=>k it (by simp) o e
 item:=by
  intro X hP hw hK hc i aP s σ H E I hf st hg;subst hP hw hK;obtain ⟨xs,x,hq,hn,hx⟩:=hg;obtain ⟨its,rv,p,hz⟩:=I.list hq;have hi:i<xs.length:=by
   have:=(aq.mp hx).1;rw [ft] at this;exact this
  have hx2:=hx;rw [List.getElem?_reverse hi] at hx2;obtain ⟨u,hu,ru⟩:=rv.get hx2;obtain ⟨f0,f1,f2,f3,f4,f5⟩:=hf it (by simp);have e:(n:Int) - 1 - (i:Nat)=((xs.length - 1 - i:Nat):Int):=by lia
  rw [e] at st;refine wpAny_pyNext_rev_item st p.isList (x:=u) (by simpa using hu) fun h' st' sb=>?_
  have I1:Inv X aP σ H { s with heap:=h' }:=I.turned (t':=s.toks) (fun b o hb e=>(sb.2 b hb).trans e) f0 f1 f3 f4 f5;obtain ⟨o,e2,c,d⟩:=id st';have e3:((xs.length - 1 - i:Nat):Int) - 1=(n:Int) - 1 - ((i+1:Nat):Int):=by lia
  rw [e3] at st';exact ⟨u,rfl,go_of (s:={ s with heap:=h' }) e2 c d (by decide) ⟨x,H,I1,ru,⟨rfl,fun ys hy=>by rw [I.list_inj hy hq];exact hx⟩,st',fun b hb=>(hf b hb).1⟩⟩
 done:=by
  intro X hP hw hK hc i aP s σ H E I hf st hg;subst hP hw hK;obtain ⟨f0,f1,f2,f3,f4,f5⟩:=hf it (by simp);have hg:i=n:=hg;have e:(n:Int) - 1 - (i:Nat)= -1:=by lia
  rw [e] at st;exact wpAny_pyNext_rev_end (I.ok.hd hc) st fun h' eb=>⟨rfl,I.turned (t':=s.toks) (fun b o hb e=>eb b o hb e) f0 f1 f3 f4 f5⟩
 self:=fun _ _ _ _ _ st h=>wpAny_pyIter_revIter st h
def iRevL (K:ak)(ta:TA):TI:=fun σ H R=>ta σ H fun vs H1=>∃ a xs,vs=[.ref a]∧SqL K H1 a xs∧R (Itvl K a xs.length) H1
theorem pi_revL {ta:TA}{p:Pos}(hg:Gl X "reversed")(hm:X.mg "reversed" =none)(ha:PA X [ea] ta)(hs:bD [ea] X.env=[(false,eV ea X.env)]:=by rfl) :
  PI X tg (.Call (.Name "reversed" p) [ea] [] pos) (iRevL X.K ta):=by
 intro aP s σ H R I h;refine Call_ (lV I hg hm boot_reversed (eS (thn (ha pos aP s σ H _ I h) fun us s1 z=>?_) hs rfl));obtain ⟨vs,H1,I1,r1,q1⟩:=z;obtain ⟨a,xs,e,hA,q⟩:=q1;subst e;obtain ⟨u1,rfl,r2⟩:=oz r1;cases (show u1=ag.ref a from r2);obtain ⟨its,rv,pt',hz⟩:=I1.list hA;have hl:=rv.length;refine call_reversed_list pt'.isList ?_;have z1:(s1.heap.push (revObj a ((its.toArray.size:Int) - 1))).IsRevIter s1.heap.objs.size a ((xs.length:Int) - 1 - ((0:Nat):Int)):=by
  refine ⟨_,aZ _ rfl,rfl,?_⟩;rw [aE,←hl,show (xs.length:Int) - 1 - ((0:Nat):Int)=(xs.length:Int) - 1 by lia];rfl
 refine wpAny_pyIter_revIter (s:={ s1 with heap:=s1.heap.push (revObj a ((its.toArray.size:Int) - 1)) }) z1 ⟨s1.heap.objs.size,[s1.heap.objs.size],_,Itvl X.K a xs.length,H1,rfl,I1.kept (t':=s1.toks) fun c o e=>ar _ e,turn_revL a _ _,z1,fun b hb=>?_,q⟩;have e:b=s1.heap.objs.size:=by simpa using hb
 subst e;exact I1.fpOk (aC _) (I1.hok.fresh (aC _))
theorem for_revL {tb:TS}{D:Ends}(Pv:Nat→St→Hp→Prop)(h0:Pv 0 σ H)(hl:∀ i σ H,i≤xs.length→Pv i σ H→SqL K H a xs)
  (hs:∀ i x σ H,xs.reverse[i]? =some x→Pv i σ H→g x σ H fun σ2 H2=>tb { D with nx:=Pv (i+1),ct:=Pv (i+1),bk:=D.nx } σ2 H2) (hd:∀ σ H,Pv xs.length σ H→D.nx σ H) :
  ∃ W:Nat→Nat→St→Hp→Prop,(∃ m,W 0 m σ H)∧∀ i m σ H,W i m σ H →
   ((Itvl K a xs.length).stop i H∧D.nx σ H)∨((Itvl K a xs.length).go i H∧∃ N:St→Hp→Prop,(∀ σ' H',N σ' H'→∃ m',m'<m∧W (i+1) m' σ' H')∧∀ x H',(Itvl K a xs.length).yld i H x H'→g x σ H' fun σ2 H2=>tb { D with nx:=N,ct:=N,bk:=D.nx } σ2 H2):=by
 refine ⟨fun i m σ H=>m=xs.length - i∧i≤xs.length∧Pv i σ H,⟨xs.length,by simp,bF _,h0⟩,?_⟩;rintro i m σ H ⟨rfl,hi,p⟩;have q:=hl i σ H hi p
 by_cases e:i=xs.length
 ·subst e
  exact .inl ⟨rfl,hd σ H p⟩
 ·have hlt:i<xs.length:=ib hi e
  refine .inr ⟨⟨xs,_,q,rfl,gE (by rw [ft];exact hlt)⟩,Pv (i+1),fun σ' H' p'=>⟨xs.length - (i+1),by lia,rfl,by lia,p'⟩,fun x H' hy=>?_⟩;obtain ⟨rfl,hx⟩:=hy;exact hs i x σ _ (hx xs q) p
theorem thou_le (h:n≤1001):n≤bq:=bo h (by decide)
def min3 (a b c:Int):Int:=if b<a then (if c<b then c else b) else (if c<a then c else a)
theorem min3_le (a b c:Int):min3 a b c≤a∧min3 a b c≤b∧min3 a b c≤c:=by
 unfold min3;split <;> split <;> lia
theorem min3_ge {a c:Int}(h1:z≤a)(h2:z≤b)(h3:z≤c):z≤min3 a b c:=by
 unfold min3;split <;> split <;> lia
theorem call_min3 (hc:X.calm=true):CallR X (.builtin "min") (fun xs H Q=>∃ a b c,xs=[.int a,.int b,.int c]∧Q (.int (min3 a b c)) H):=by
 intro aP s σ H xs us Q I r h;obtain ⟨a,b,c,rfl,q⟩:=h;cases r with
 | cons r1 r =>
  obtain ⟨u,w',rfl,⟨t2,rfl⟩,⟨t3,rfl⟩⟩:=vals2 r;obtain ⟨t1,rfl⟩:=r1;refine min_three_ints (I.ok.hd hc) fun h' tk k=>⟨_,H,I.kept k,?_,q⟩
  unfold min3
  by_cases h1:b<a
  ·rw [q9 h1,q9 h1]
   by_cases h2:c<b
   ·rw [q9 h2,q9 h2];exact ⟨_,rfl⟩
   ·rw [qZ h2,qZ h2];exact ⟨_,rfl⟩
  ·rw [qZ h1,qZ h1]
   by_cases h2:c<a
   ·rw [q9 h2,q9 h2];exact ⟨_,rfl⟩
   ·rw [qZ h2,qZ h2];exact ⟨_,rfl⟩
inductive rInsert (x:V)(vs:List V)(H:Hp)(Q:VK):Prop
 | mk (l xs k y:_)(_:x= .ref l)(_:vs=[.int k,y])(_:H l=some (.lst xs))(_:xs.length≤1000)(_:0≤k)(_:k≤xs.length)(_:Q .non (upd H l (.lst (xs.take k.toNat++y::xs.drop k.toNat))))
theorem p5:MtM X "list.insert" rInsert:=by
 intro aP s σ H x vs v us Q I rx rv h;obtain ⟨l,xs,k,y,rfl,rfl,hH,hz,k0,k1,q⟩:=h;cases rx;obtain ⟨u,w',rfl,⟨t,rfl⟩,ru⟩:=vals2 rv;obtain ⟨z,its,n,r,hl,e⟩:=I.lstM hH;have hlen:its.length=xs.length:=r.length.symm;have hs:its.toArray.size≤bq:=by rw [aE];exact thou_le (by lia)
 have hf:fY.List.listFitsIndex k=true:=by
  unfold fY.List.listFitsIndex;simp only [dX,decide_eq_true_eq]
  constructor <;> lia
 refine call_meets iV ⟨_,e,rfl⟩ PySem.F.entry_list_insert (PySem.F.args_list_insert_3 _ _ _) (PySem.AutoSeq1.list_insert_list_int_val_1 l its.toArray n k t w' (by rw [hf];decide) hs) ⟨e,?_⟩;refine ⟨.non,_,I.lset (its':=its.take k.toNat++w'::its.drop k.toNat) hH e ?_ ((r.take _).append (.cons ru (r.drop _))) ?_,rfl,q⟩
 ·show (its.toArray.extract 0 (if k<0 then (k+(its.toArray.size:Int)).toNat else min k.toNat its.toArray.size)).push w'++its.toArray.extract (if k<0 then (k+(its.toArray.size:Int)).toNat else min k.toNat its.toArray.size)=(its.take k.toNat++w'::its.drop k.toNat).toArray
  rw [qZ (by lia),aE,Nat.min_eq_left (by lia)]
  apply Array.toList_inj.mp
  have ht:(its.drop k.toNat).take (its.length - k.toNat)=its.drop k.toNat:=jr (by rw [dW];lia);simp [ht]
 ·rw [av,aX,bG,dW]
  exact thou_le (by lia)
end L2
namespace HN
open PySem L2 PyProof.Rows
def Mv (p:ao)(H H':Hp):Prop:=(∀ b o,b≠p→H b=some o→H' b=some o)∧∃ n,H' p=some (.lst [.int n])
theorem Mv.trans {p:ao}(a:Mv p H H1)(b:Mv p H1 H2):Mv p H H2:=⟨fun c o hc e=>b.1 c o hc (a.1 c o hc e),b.2⟩
theorem Mv.new {p q:ao}(a:Mv p H H1)(hq:H1 q=none):Mv p H (upd H1 q o):=by
 obtain ⟨n,hn⟩:=a.2;exact ⟨fun c u hc e=>by rw [br (bf (a.1 c u hc e) hq)];exact a.1 c u hc e,n,by rw [br (bf hn hq)];exact hn⟩
theorem Mv.at {p q:ao}(a:Mv p H H1)(h:H q=some o)(hne:q≠p):H1 q=some o:=a.1 q o hne h
theorem Mv.then {p:ao}(a:Mv p H H1)(S:Same H1 H2):Mv p H H2:=⟨fun c o hc e=>S _ _ (a.1 c o hc e),by obtain ⟨n,hn⟩:=a.2;exact ⟨n,S _ _ hn⟩⟩
theorem Mv.of {p:ao}{n:Int}(S:Same H H1)(h:H1 p=some (.lst [.int n])):Mv p H H1:=⟨fun c o _ e=>S _ _ e,n,h⟩
theorem Mv.ne {p q:ao}(a:Mv p H H1)(hq:H1 q=none):q≠p:=fun z=>by obtain ⟨n,hn⟩:=a.2;rw [z,hn] at hq;cases hq
theorem Same.mv {p:ao}(e:Same H H1)(hp:H p=none)(m:Mv p H1 H2):Same H H2:=fun b o q=>m.1 b o (fun z=>by rw [z,hp] at q;cases q) (e b o q)
theorem Mv.tupK {p:ao}{n:Int}(h:H p=some (.lst [.int n]))(a:Mv p H H1):TupK H H1:=fun q xs e=>a.1 q _ (fH e h nofun) e
inductive pj (vs:List V)(H:Hp)(Q:VK)(_:XK):Prop
 | mk (p n m:_)(_:vs=[.ref p,.int m])(_:H p=some (.lst [.int n]))(_:0<m)(_:m<10 ^ 61)(_:∀ r H',0≤r→r<m→Mv p H H'→Q (.int r) H')
inductive spMix (vs:List V)(H:Hp)(Q:VK)(_:XK):Prop
 | mk (c k:_)(_:vs=[.int c,.int k])(_:0≤k)(_:k≤1000)(_:∀ n,Q (.int n) H)
inductive spPotT (K:ak)(vs:List V)(H:Hp)(Q:VK)(_:XK):Prop
 | mk (a:ao)(ns:List Int)(k:Int)(_:vs=[.ref a,.int k])(_:SqL K H a (ns.map V.int))(_:0≤k)(_:k≤100)(_:∀ n p,H p=none→Q (.ref p) (upd H p (.lst [.int n])))
abbrev sCell:cV:=top 47
abbrev sMix:cV:=top 48
abbrev sPotT:cV:=top 49
abbrev sTake:cV:=top 50
theorem scCell:cp pze pze (defScope sCell):=by trivial
theorem ok_cell (F:Fun K "_law_cell_at" "_law_cell_at" sCell f fd)(T:Nm mg):dv P w K mg base CX0 1 f fd pze (spCell K):=by
 refine F.ok scCell (by contradiction) (fun cdv A outer s H vs Q E hr h=>?_);obtain ⟨a,ns,j,rfl,ha,hj,k⟩:=h;refine ⟨_,oW (gR (cG pW (pv 1) (cM cg rfl T.len bP (ae (pv 0) aB)) (dg _)) (cO (cx (dN eE (pv 0) (pv 1) (fun _ _=>rfl)))) d7) (cO (cx bg)),?_⟩;refine ⟨_,rfl,_,rfl,a,_,rfl,.inl ha,_,_,rfl,rfl,_,rfl,?_⟩;refine ite2 (fun h1=>?_) (fun h1=>?_)
 ·have h1:j<((ns.map V.int).length:Int):=rj h1
  obtain ⟨v,e1,e2⟩:=atI_in hj h1;obtain ⟨c,_,rfl⟩:=bh.mp e2;exact ⟨_,rfl,_,rfl,a,_,_,_,rfl,rfl,ha,e1,k c⟩
 ·exact k 0
theorem scTake:cp ["_law_pot_here","_law_most","_law_number"] pzd (defScope sTake):=by trivial
theorem oh (F:Fun K "_law_take" "_law_take" sTake f fd):dv P w K mg base CX0 1 f fd pzd pj:=by
 refine F.ok scTake (by contradiction) (fun cdv A outer s H vs Q E hr h=>?_);obtain ⟨p,n,m,rfl,hp,h0,h1,k⟩:=h;refine ⟨_,oW (bC (i:=2) scTake.nd rfl (.inl rfl) (b9 jM (dN eE (pv 0) bg (fun _ _=>rfl)) (pv 1)))
  (oW (om (b9 nk (dN eE (pv 0) bg (fun _ _=>rfl)) (pv 1)) (pg_sub (pv 0) bg set_list)) (cO (cx (pv 2)))),?_⟩
 refine ⟨_,rfl,p,_,_,_,rfl,rfl,SqL.of hp,aJ (j:=0) rfl,_,rfl,_,_,rfl,rfl,h0,?_⟩;refine ⟨_,rfl,p,_,_,_,rfl,rfl,SqL.of hp,aJ (j:=0) rfl,_,rfl,_,_,rfl,rfl,log_ok h0 h1,?_⟩;refine ⟨_,rfl,p,_,_,0,rfl,rfl,hp,rfl,?_⟩;refine ⟨_,rfl,k _ _ (cR _ (by lia)) (cL _ h0) ⟨fun b o hb e=>by rw [br hb];exact e,n / m,aS⟩⟩
theorem scMix:cp ["_law_cell","_law_k","_law_number"] pzx (defScope sMix):=by trivial
theorem ok_mix (F:Fun K "_law_mixed" "_law_mixed" sMix f fd):dv P w K mg base CX0 1 f fd pzx spMix:=by
 refine F.ok scMix (by contradiction) (fun cdv A outer s H vs Q E hr h=>?_);obtain ⟨c,j,rfl,j0,j1,k⟩:=h;refine ⟨_,PSl.h (aU ⟨(bC (i:=2) scMix.nd rfl (.inl rfl) (b9 jM (b9 jA (b9 eh (b9 eh (b9 jM (pv 0) bg) (b9 jA bg (pv 1))) bg) bg) bg))⟩
  (aU ⟨(bC (i:=2) scMix.nd rfl (.inl rfl) (b9 jM (b9 eh (b9 eh (b9 jA (pv 2) (pv 2)) (b9 jA bg (pv 1))) bg) bg))⟩
  (dH ⟨(cx (b9 jM (b9 jA (pv 2) bg) bg))⟩))),?_⟩
 refine ⟨_,rfl,_,_,rfl,rfl,(by show (0:Int)<2147483629;decide),_,rfl,_,_,rfl,rfl,.inl ⟨by decide,by decide⟩,_,_,rfl,rfl,_,_,rfl,rfl,_,_,rfl,rfl,.inr ⟨by decide,by decide⟩,_,_,rfl,rfl,(by show (0:Int)<2147483647;decide),?_⟩;refine ⟨_,rfl,_,rfl,_,_,rfl,rfl,.inl ?_,_,rfl,_,_,rfl,rfl,.inl ⟨by decide,by decide⟩,_,_,rfl,rfl,_,_,rfl,rfl,_,_,rfl,rfl,(by show (0:Int)<2147483587;decide),?_⟩
 ·have h1:=cR ((c % 2147483629+7919 * j+1) * 48271) (by decide:(2147483647:Int)≠0)
  have h2:=cL ((c % 2147483629+7919 * j+1) * 48271) (by decide:(0:Int)<2147483647);exact ⟨by lia,by lia⟩
 ·exact ⟨_,rfl,_,_,rfl,rfl,.inr ⟨by decide,by decide⟩,_,_,rfl,rfl,(by show (0:Int)<2147483629;decide),k _⟩
theorem scPotT:cp ["_law_script","_law_k","_law_cell","_law_number","_law_j"] pze (defScope sPotT):=by trivial
theorem ok_potT (F:Fun K "_law_pot" "_law_pot" sPotT f fd)(T:Nm mg)(T2:Nt mg)(G1:Fn K mg "_law_cell_at" sCell pze f1 fd1)(G2:Fn K mg "_law_mixed" sMix pzx f2 fd2):dv P w K mg base CX0 2 f fd pze (spPotT K):=by
 have F1:dv P w K mg base CX0 1 f1 fd1 pze (spCell K):=ok_cell G1.F T;have F2:dv P w K mg base CX0 1 f2 fd2 pzx spMix:=ok_mix G2.F;refine F.ok scPotT (by contradiction) (fun cdv A outer s H vs Q E hr h=>?_);obtain ⟨a,ns,j,rfl,ha,j0,j1,k⟩:=h;refine ⟨_,PSl.h (aU ⟨(bC (i:=2) scPotT.nd rfl (.inl rfl) (pc1 G1 F1 hr (ae (pv 0) (ae (pv 1) aB))))⟩
  (aU ⟨(gR (cG mm (b9 jM (pc1 G1 F1 hr (ae (pv 0) (ae bg aB))) bg) bg (dg _)) (cO (cx (iY (ae (pv 2) aB)))) d7)⟩
  (aU ⟨(bC (i:=3) scPotT.nd rfl (.inl rfl) bg)⟩
  (aU ⟨(iC bL rfl (iJ rfl T2.range (ae bg aB)) (cY (i:=4) scPotT.nd rfl (.inl rfl)) (cO (bC (i:=3) scPotT.nd rfl (.inl rfl) (b9 eh (b9 jA (pv 3) bg) (pc1 G2 F2 hr (ae (pv 2) (ae (b9 eh (pv 1) (b9 jA bg (pv 4))) aB)))))))⟩
  (dH ⟨(cx (iY (ae (pv 3) aB)))⟩))))),?_⟩
 refine ⟨_,rfl,_,rfl,a,ns,j,rfl,ha,j0,fun c=>?_⟩;refine ⟨_,rfl,a,ns,0,rfl,ha,by decide,fun c0=>⟨_,_,rfl,rfl,(by show (0:Int)<2;decide),rfl,_,rfl,?_⟩⟩;refine ite2 (fun _=>?_) (fun _=>?_)
 ·exact ⟨_,rfl,szZ1,fun p hp=>k _ p hp⟩
 ·refine ⟨9,rfl,by decide,by decide,kI (n:=9) (fun i σ H2=>H2=H∧∃ n vj,σ=[some (.ref a),some (.int j),some (.int c),some (.int n),vj]) ⟨rfl,0,none,rfl⟩ ?_ ?_⟩
  ·rintro i σ H2 hi ⟨rfl,n,vj,rfl⟩
   refine ⟨_,rfl,_,_,rfl,rfl,.inr ⟨by decide,by decide⟩,_,rfl,_,rfl,_,rfl,_,_,rfl,rfl,.inl ⟨by decide,by decide⟩,_,_,rfl,rfl,c,_,rfl,by lia,by lia,fun n2=>⟨_,_,rfl,rfl,?_⟩⟩;exact ⟨rfl,_,_,rfl⟩
  ·rintro σ H2 ⟨rfl,n,vj,rfl⟩
   exact ⟨_,rfl,szZ1,fun p hp=>k _ p hp⟩
inductive spSpanH (vs:List V)(H:Hp)(Q:VK)(_:XK):Prop
 | mk (p tq e:ao)(n b s g wd:Int)(ts:List Int)(kb:Bool)(_:vs=[.ref p,.ref tq,.int b,.ref e,.int wd,.bl kb])(_:H p=some (.lst [.int n]))(_:H tq=some (.lst (ts.map V.int)))(_:tq≠p)(_:H e=some (.tup [.int s,.int g]))(_:1≤b)(_:b≤10 ^ 40)(_:ts.length≤16)(_:0≤s)(_:s<ts.length)(_:0≤g)(_:g<ts.length)(_:s≠g)(_:0≤wd)(_:wd<b)(_:∀ (t:ao) (x:Sn) (H':Hp),H t=none→Mv p H H'→H' t=some (.tup [.int x.s,.int x.g,.int x.l,.int x.o,.int x.w])→SnOk b ts.length x→x.o - x.l=wd→(kb=true→fW b ts x≤x.o - x.l)→x.s=s→x.g=g→Q (.ref t) H')
abbrev sSpanH:cV:=top 51
theorem my:cp ["_law_pot_here","_law_times","_law_beat","_law_ends","_law_width","_law_kept","_law_start","_law_goal","_law_least","_law_weight"] pzo (defScope sSpanH):=by trivial
theorem ok_spanH (F:Fun K "_law_span" "_law_span" sSpanH f fd)(G1:Fn K mg "_law_take" sTake pzd f1 fd1):dv P w K mg base CX0 2 f fd pzo spSpanH:=by
 have F1:dv P w K mg base CX0 1 f1 fd1 pzd pj:=oh G1.F;refine F.ok my (by contradiction) (fun cdv A outer st0 H vs Q E hr h=>?_);obtain ⟨p,tq,e,n,b,s,g,wd,ts,kb,rfl,hp,htq,ntp,he,b1,b2,few,s0,s1,g0,g1,sg,w0,w1,k⟩:=h;refine ⟨_,PSl.h (aU ⟨(om (pv 3) (ng rfl (fJ (cY (i:=6) my.nd rfl (.inl rfl)) (fJ (cY (i:=7) my.nd rfl (.inl rfl)) k5))))⟩
  (aU ⟨(bC (i:=8) my.nd rfl (.inl rfl) (pc1 G1 F1 hr (ae (pv 0) (ae (pv 2) aB))))⟩
  (aU ⟨(mz (gR (kx (pv 5)) (cO (bC (i:=8) my.nd rfl (.inl rfl) (b9 jM (b9 gJ (b9 gJ (dN eE (pv 1) (pv 7) (fun _ _=>rfl)) (dN eE (pv 1) (pv 6) (fun _ _=>rfl))) (b9 jM (pv 8) (b9 eh (pv 4) bg))) (pv 2)))) d7))⟩
  (aU ⟨(bC (i:=8) my.nd rfl (.inl rfl) (b9 eh (pv 8) (b9 jA (pv 2) (PEs.h (k_ix eE (k_lstF (gf kD (gf kD (gf kD (gf ⟨pc1 G1 F1 hr (ae (pv 0) (ae (b9 op_pow bg bg) aB))⟩ a_nil))))) ⟨pc1 G1 F1 hr (ae (pv 0) (ae bg aB))⟩ (fun _ _=>rfl))))))⟩
  (aU ⟨(bC (i:=9) my.nd rfl (.inl rfl) (PEs.h (k_lstF (gf kD (gf kD (gf ⟨pc1 G1 F1 hr (ae (pv 0) (ae bg aB))⟩ (gf ⟨pc1 G1 F1 hr (ae (pv 0) (ae (b9 eh (b9 op_pow bg bg) bg) aB))⟩ a_nil)))))))⟩
  (dH ⟨(cx (oq (ae (pv 6) (ae (pv 7) (ae (pv 8) (ae (b9 eh (pv 8) (pv 4)) (ae (dN eE (pv 9) (pc1 G1 F1 hr (ae (pv 0) (ae bg aB))) (fun _ _=>rfl)) aB)))))))⟩)))))),?_⟩
 refine ⟨_,rfl,e,_,rfl,SqT.of he,rfl,_,_,rfl,_,_,rfl,rfl,?_⟩;refine ⟨_,rfl,_,rfl,p,n,b,rfl,hp,by lia,by lia,fun r1 H1 a1 c1 M1=>?_⟩;have ht1:=M1.at htq ntp;refine ⟨fun σ' H'=>Mv p H H'∧∃ l,0≤l∧l<b∧(kb=true→∃ r,l=(tm ts g - tm ts s - r % (wd+1)) % b)∧σ'=[some (.ref p),some (.ref tq),some (.int b),some (.ref e),some (.int wd),some (.bl kb),some (.int s),some (.int g),some (.int l),none],?_,?_⟩
 rotate_left
 ·refine ⟨_,rfl,_,rfl,?_⟩
  refine ite2 (fun _=>?_) (fun hk=>⟨M1,r1,a1,c1,fun z=>rd z hk,rfl⟩);refine ⟨_,rfl,_,rfl,tq,_,_,_,rfl,rfl,SqL.of ht1,mq g0 g1,_,rfl,_,rfl,tq,_,_,_,rfl,rfl,SqL.of ht1,mq s0 s1,_,_,rfl,rfl,_,rfl,_,rfl,_,_,rfl,rfl,_,_,rfl,rfl,(by show (0:Int)<wd+1;lia),_,_,rfl,rfl,_,rfl,_,_,rfl,rfl,(by show (0:Int)<b;lia),?_⟩;exact ⟨M1,_,cR _ (by lia),cL _ (by lia),fun _=>⟨r1,rfl⟩,rfl⟩
 rintro σ' HC ⟨MC,l,l0,l1,hkl,rfl⟩;obtain ⟨nC,hpC⟩:=MC.2;refine ⟨_,rfl,_,rfl,_,rfl,_,_,rfl,rfl,⟨by decide,by decide,by decide⟩,p,_,_,rfl,hpC,by decide,by decide,fun rD HD aD cD MD=>⟨szZ4,fun qE hqE=>?_⟩⟩;have MD:=MC.trans MD;have cD:rD<10 ^ 9:=cD;have nqE:=MD.ne hqE;have ME:=MD.new (o:= .lst [.int 0,.int 0,.int 1,.int rD]) hqE;have hE:(upd HD qE (.lst [.int 0,.int 0,.int 1,.int rD])) qE=some (.lst [.int 0,.int 0,.int 1,.int rD]):=aS;obtain ⟨nE,hpE⟩:=ME.2;refine ⟨_,rfl,p,_,4,rfl,hpE,by decide,by decide,fun rF HF aF cF MF=>?_⟩;have hF:=MF.at hE nqE;have MF:=ME.trans MF;clear ME hE hpE;obtain ⟨vF,eF,mF⟩:=atI_in (xs:=[V.int 0,V.int 0,V.int 1,V.int rD]) aF cF;obtain ⟨j,rfl,j0,j1⟩:∃ i,vF=V.int i∧0≤i∧i≤10 ^ 9:=by
  simp only [aG,cX,or_false] at mF
  rcases mF with rfl | rfl | rfl | rfl
  ·exact ⟨_,rfl,by decide,by decide⟩
  ·exact ⟨_,rfl,by decide,by decide⟩
  ·exact ⟨_,rfl,by decide,by decide⟩
  ·exact ⟨_,rfl,by lia,by lia⟩
 refine ⟨qE,_,_,_,rfl,rfl,SqL.of hF,eF,_,_,rfl,rfl,.inr ⟨by lia,by lia⟩,_,_,rfl,rfl,?_⟩;have bn0:0≤b * j:=Int.mul_nonneg (by lia) j0;have bn1:b * j≤10 ^ 40 * 10 ^ 9:=Int.mul_le_mul b2 j1 j0 (by decide);obtain ⟨nF,hpF⟩:=MF.2;refine ⟨_,rfl,p,_,10,rfl,hpF,by decide,by decide,fun rH HH aH cH MH=>?_⟩;have MH:=MF.trans MH;obtain ⟨nH,hpH⟩:=MH.2;refine ⟨_,rfl,_,_,rfl,rfl,⟨by decide,by decide,by decide⟩,_,_,rfl,rfl,p,_,_,rfl,hpH,by decide,by decide,fun rI HI aI cI MI=>⟨szZ4,fun qJ hqJ=>?_⟩⟩;have MI:=MH.trans MI;have cI:rI<10 ^ 12+1:=cI;have nqJ:=MI.ne hqJ;have MJ:=MI.new (o:= .lst [.int 0,.int 1,.int rH,.int rI]) hqJ;have hJ:(upd HI qJ (.lst [.int 0,.int 1,.int rH,.int rI])) qJ=some (.lst [.int 0,.int 1,.int rH,.int rI]):=aS;obtain ⟨nJ,hpJ⟩:=MJ.2;refine ⟨_,rfl,_,rfl,_,rfl,_,rfl,_,rfl,_,_,rfl,rfl,_,rfl,_,rfl,p,_,4,rfl,hpJ,by decide,by decide,fun rK HK aK cK MK=>?_⟩;have hK:=MK.at hJ nqJ;have MK:=MJ.trans MK;clear MJ hJ hpJ;obtain ⟨vK,eK,mK⟩:=atI_in (xs:=[V.int 0,V.int 1,V.int rH,V.int rI]) aK cK;obtain ⟨wt,rfl,t0,t1⟩:∃ i,vK=V.int i∧0≤i∧i≤1000000000000:=by
  simp only [aG,cX,or_false] at mK
  rcases mK with rfl | rfl | rfl | rfl
  ·exact ⟨_,rfl,by decide,by decide⟩
  ·exact ⟨_,rfl,by decide,by decide⟩
  ·exact ⟨_,rfl,by lia,by lia⟩
  ·exact ⟨_,rfl,by lia,by lia⟩
 refine ⟨qJ,_,_,_,rfl,rfl,SqL.of hK,eK,szZ5,fun t ht=>?_⟩;have ntp:=MK.ne ht;have htH:H t=none:=by
  cases z:H t with
  | none=>rfl
  | some o=>rw [MK.1 t o ntp z] at ht;cases ht
 refine k t ⟨s,g,l+b * j,l+b * j+wd,wt⟩ _ htH (MK.new ht) aS ⟨s0,s1,g0,g1,sg,by show 0≤l+b * j;lia,by show l+b * j≤l+b * j+wd;lia,by show l+b * j+wd<l+b * j+b;lia,by show l+b * j+wd<10 ^ 60;lia,t0,t1⟩ (by show l+b * j+wd - (l+b * j)=wd;lia) (fun z=>?_) rfl rfl;obtain ⟨r,hr'⟩:=hkl z;show fW b ts _≤l+b * j+wd - (l+b * j);rw [show l+b * j+wd - (l+b * j)=wd by lia];exact kept_wait (r:=r) (j:=j) b1 w0 w1 (by rw [hr']) rfl
inductive spTied (vs:List V)(H:Hp)(Q:VK)(_:XK):Prop
 | mk (p tq:ao)(n b j lim so:Int)(ts:List Int)(_:vs=[.ref p,.ref tq,.int b,.int j,.int lim,.int so])(_:H p=some (.lst [.int n]))(_:H tq=some (.lst (ts.map V.int)))(_:tq≠p)(_:1≤b)(_:b≤10 ^ 40)(_:ts.length≤16)(_:1≤j)(_:j<ts.length)(_:1≤lim)(_:lim≤1000)(_:∀ (t:ao) (x:Sn) (H':Hp),H t=none→t≠p→Mv p H H'→H' t=some (.tup [.int x.s,.int x.g,.int x.l,.int x.o,.int x.w])→SnOk b ts.length x→x.o - x.l≤lim - 1→(decide (so≤0)=true→fW b ts x≤x.o - x.l)→((x.s=j∧0≤x.g∧x.g<j)∨(x.g=j∧0≤x.s∧x.s<j))→Q (.ref t) H')
inductive spMore (vs:List V)(H:Hp)(Q:VK)(_:XK):Prop
 | mk (p tq:ao)(n b mo so:Int)(ts:List Int)(_:vs=[.ref p,.ref tq,.int b,.int mo,.int so])(_:H p=some (.lst [.int n]))(_:H tq=some (.lst (ts.map V.int)))(_:tq≠p)(_:1≤b)(_:b≤10 ^ 40)(_:ts.length≤16)(_:2≤ts.length)(_:0≤mo)(_:∀ (t:ao) (x:Sn) (H':Hp),H t=none→t≠p→Mv p H H'→H' t=some (.tup [.int x.s,.int x.g,.int x.l,.int x.o,.int x.w])→SnOk b ts.length x→x.o - x.l≤mo→(decide (so≤0)=true→fW b ts x≤x.o - x.l)→Q (.ref t) H')
theorem Mv.none {p t:ao}{H H1:Hp}(M:Mv p H H1)(ht:H1 t=none):H t=none∧t≠p:=by
 have ntp:=M.ne ht;refine ⟨?_,ntp⟩;cases z:H t with
 | none=>rfl
 | some o=>rw [M.1 t o ntp z] at ht;cases ht
abbrev sTied:cV:=top 52
abbrev sMore:cV:=top 53
theorem scTied:cp ["_law_pot_here","_law_times","_law_beat","_law_k","_law_lim","_law_spoils","_law_width","_law_other","_law_ends"] pzy (defScope sTied):=by trivial
theorem ok_tied (F:Fun K "_law_tied" "_law_tied" sTied f fd)(T:Nm mg)(G1:Fn K mg "_law_take" sTake pzd f1 fd1)(G2:Fn K mg "_law_span" sSpanH pzo f2 fd2):dv P w K mg base CX0 3 f fd pzy spTied:=by
 have F1:dv P w K mg base CX0 1 f1 fd1 pzd pj:=oh G1.F;have F2:dv P w K mg base CX0 2 f2 fd2 pzo spSpanH:=ok_spanH G2.F G1;refine F.ok scTied (by contradiction) (fun cdv A outer st0 H vs Q E hr h=>?_);obtain ⟨p,tq,n,b,j,lim,so,ts,rfl,hp,htq,ntp,b1,b2,few,j1,j2,m1,m2,k⟩:=h;have hr1:Room 1 _:=hr.mono (by decide);refine ⟨_,PSl.h (aU ⟨(bC (i:=6) scTied.nd rfl (.inl rfl) (cM (nP rfl) rfl T.min boot_min (ae (pc1 G1 F1 hr1 (ae (pv 0) (ae (pv 4) aB))) (ae (b9 gJ (pv 2) bg) aB))))⟩
  (aU ⟨(bC (i:=7) scTied.nd rfl (.inl rfl) (pc1 G1 F1 hr1 (ae (pv 0) (ae (pv 3) aB))))⟩
  (aU ⟨(bC (i:=8) scTied.nd rfl (.inl rfl) (PEs.h (k_ix eE (k_lstF (gf ⟨d8 (ae (pv 7) (ae (pv 3) aB))⟩ (gf ⟨d8 (ae (pv 3) (ae (pv 7) aB))⟩ a_nil))) ⟨pc1 G1 F1 hr1 (ae (pv 0) (ae bg aB))⟩ (fun _ _=>rfl))))⟩
  (dH ⟨(cx (pc1 G2 F2 hr (ae (pv 0) (ae (pv 1) (ae (pv 2) (ae (pv 8) (ae (pv 6) (ae (lU op_ge (pc1 G1 F1 hr1 (ae (pv 0) (ae bg aB))) (pv 5) (dg _)) aB))))))))⟩)))),?_⟩
 refine ⟨_,rfl,_,rfl,p,n,lim,rfl,hp,by lia,by lia,fun r1 H1 a1 c1 M1=>⟨_,rfl,_,_,rfl,rfl,_,_,rfl,?_⟩⟩;obtain ⟨n1,hp1⟩:=M1.2;obtain ⟨wd,hwd,wd0,wd1,wd2⟩:∃ wd,wd=(if b - 1<r1 then b - 1 else r1)∧0≤wd∧wd<b∧wd≤lim - 1:=⟨_,rfl,by split <;> lia,by split <;> lia,by split <;> lia⟩;rw [←hwd];clear hwd;refine ⟨_,rfl,_,rfl,p,n1,j,rfl,hp1,by lia,by lia,fun r2 H2 a2 c2 M2=>?_⟩;have M2:=M1.trans M2;refine ⟨_,rfl,_,rfl,mU,fun t1 H3 S3 h3=>?_⟩;refine ⟨_,rfl,_,rfl,mU,fun t2 H4 S4 h4=>⟨mU,fun q hq=>?_⟩⟩;have M4:=M2.then (S3.trans S4);have h3:=S4 _ _ h3;have nqp:=M4.ne hq;have S5:Same H4 (upd H4 q (.lst [.ref t1,.ref t2])):=Same.put (Same.refl H4) hq;have h5:(upd H4 q (.lst [.ref t1,.ref t2])) q=some (.lst [.ref t1,.ref t2]):=aS;generalize upd H4 q (.lst [.ref t1,.ref t2])=H5 at S5 h5 ⊢;have M5:=M4.then S5;obtain ⟨n5,hp5⟩:=M5.2;refine ⟨_,rfl,p,n5,2,rfl,hp5,by decide,by decide,fun r6 H6 a6 c6 M6=>?_⟩;have h6:=M6.at h5 nqp;have h36:=Mv.tupK hp5 M6 _ _ (S5 _ _ h3);have h46:=Mv.tupK hp5 M6 _ _ (S5 _ _ h4);have M6:=M5.trans M6;have fin:∀ (e:ao) (s g:Int),H6 e=some (.tup [.int s,.int g])→0≤s→s<ts.length→0≤g→g<ts.length→s≠g→((s=j∧0≤g∧g<j)∨(g=j∧0≤s∧s<j))→∀ (r7:Int) (H7:Hp),Mv p H6 H7→0≤r7→∀ E',spSpanH [.ref p,.ref tq,.int b,.ref e,.int wd,.bl (decide (r7 ≥ so))] H7 Q E':=by
  intro e s g he s0 s1 g0 g1 sg sj r7 H7 M7 r70 _;obtain ⟨n6,hp6⟩:=M6.2;have he7:=Mv.tupK hp6 M7 _ _ he;have M7:=M6.trans M7;obtain ⟨n7,hp7⟩:=M7.2;refine ⟨p,tq,e,n7,b,s,g,wd,ts,_,rfl,hp7,M7.at htq ntp,ntp,he7,b1,b2,few,s0,s1,g0,g1,sg,wd0,wd1,fun t x H8 ht M8 h8 ok ew kw es eg=>?_⟩;obtain ⟨y1,y2⟩:=M7.none ht;refine k t x H8 y1 y2 (M7.trans M8) h8 ok (by lia) (fun z=>kw (rf (by have:=rj z;lia))) ?_;rw [es,eg];exact sj
 have c6:r6<2:=c6;have r6e:r6=0∨r6=1:=by lia
 obtain ⟨n6,hp6⟩:=M6.2
 rcases r6e with rfl | rfl
 ·refine ⟨q,_,_,_,rfl,rfl,SqL.of h6,aJ (j:=0) rfl,?_⟩
  refine ⟨_,rfl,_,rfl,_,rfl,_,rfl,_,rfl,_,rfl,p,n6,16,rfl,hp6,by decide,by decide,fun r7 H7 a7 c7 M7=>⟨_,rfl,_,_,rfl,rfl,?_⟩⟩;exact fin t1 r2 j h36 a2 (by lia) (by lia) j2 (by lia) (.inr ⟨rfl,a2,c2⟩) r7 H7 M7 a7 E0
 ·refine ⟨q,_,_,_,rfl,rfl,SqL.of h6,aJ (j:=1) rfl,?_⟩
  refine ⟨_,rfl,_,rfl,_,rfl,_,rfl,_,rfl,_,rfl,p,n6,16,rfl,hp6,by decide,by decide,fun r7 H7 a7 c7 M7=>⟨_,rfl,_,_,rfl,rfl,?_⟩⟩;exact fin t2 j r2 h46 (by lia) j2 a2 (by lia) (by lia) (.inl ⟨rfl,a2,c2⟩) r7 H7 M7 a7 E0
theorem qL:cp ["_law_pot_here","_law_times","_law_beat","_law_most","_law_spoils","_law_many","_law_start","_law_goal","_law_width"] pzz (defScope sMore):=by trivial
theorem ok_more (F:Fun K "_law_more" "_law_more" sMore f fd)(T:Nm mg)(G1:Fn K mg "_law_take" sTake pzd f1 fd1)(G2:Fn K mg "_law_span" sSpanH pzo f2 fd2):dv P w K mg base CX0 3 f fd pzz spMore:=by
 have F1:dv P w K mg base CX0 1 f1 fd1 pzd pj:=oh G1.F;have F2:dv P w K mg base CX0 2 f2 fd2 pzo spSpanH:=ok_spanH G2.F G1;refine F.ok qL (by contradiction) (fun cdv A outer st0 H vs Q E hr h=>?_);obtain ⟨p,tq,n,b,mo,so,ts,rfl,hp,htq,ntp,b1,b2,few,m2,mo0,k⟩:=h;have hr1:Room 1 _:=hr.mono (by decide);refine ⟨_,PSl.h (aU ⟨(bC (i:=5) qL.nd rfl (.inl rfl) (cM cg rfl T.len bP (ae (pv 1) aB)))⟩
  (aU ⟨(bC (i:=6) qL.nd rfl (.inl rfl) (pc1 G1 F1 hr1 (ae (pv 0) (ae (pv 5) aB))))⟩
  (aU ⟨(bC (i:=7) qL.nd rfl (.inl rfl) (b9 jM (b9 eh (b9 eh (pv 6) bg) (pc1 G1 F1 hr1 (ae (pv 0) (ae (b9 gJ (pv 5) bg) aB)))) (pv 5)))⟩
  (aU ⟨(bC (i:=8) qL.nd rfl (.inl rfl) (PEs.h (k_ix eE (k_lstF (gf kD (gf ⟨pc1 G1 F1 hr1 (ae (pv 0) (ae bg aB))⟩ (gf ⟨pc1 G1 F1 hr1 (ae (pv 0) (ae (pv 2) aB))⟩ (gf (k_op gJ ⟨pv 2⟩ kD) (gf ⟨pc1 G1 F1 hr1 (ae (pv 0) (ae bg aB))⟩ a_nil)))))) ⟨pc1 G1 F1 hr1 (ae (pv 0) (ae bg aB))⟩ (fun _ _=>rfl))))⟩
  (aU ⟨(bC (i:=8) qL.nd rfl (.inl rfl) (cM (call_min3 rfl) rfl T.min boot_min (ae (pv 8) (ae (pv 3) (ae (b9 gJ (pv 2) bg) aB)))))⟩
  (dH ⟨(cx (pc1 G2 F2 hr (ae (pv 0) (ae (pv 1) (ae (pv 2) (ae (d8 (ae (pv 6) (ae (pv 7) aB))) (ae (pv 8) (ae (lU op_ge (pc1 G1 F1 hr1 (ae (pv 0) (ae bg aB))) (pv 4) (dg _)) aB))))))))⟩)))))),?_⟩
 refine ⟨_,rfl,tq,_,rfl,.inl (SqL.of htq),?_⟩;rw [aa];obtain ⟨m,em⟩:∃ m:Int,m=(ts.length:Int):=⟨_,rfl⟩;rw [←em];refine ⟨_,rfl,_,rfl,p,n,m,rfl,hp,by lia,by lia,fun r1 H1 a1 c1 M1=>?_⟩;obtain ⟨n1,hp1⟩:=M1.2;refine ⟨_,rfl,_,_,rfl,rfl,_,rfl,_,rfl,_,_,rfl,rfl,p,n1,_,rfl,hp1,by lia,by lia,fun r2 H2 a2 c2 M2=>?_⟩;have M2:=M1.trans M2;obtain ⟨n2,hp2⟩:=M2.2;refine ⟨_,_,rfl,rfl,_,rfl,_,_,rfl,rfl,(by show (0:Int)<m;lia),?_⟩;obtain ⟨g0,g1,g2⟩:=goal_ok a1 c1 a2 c2;generalize hg:(r1+1+r2) % m=g at g0 g1 g2 ⊢;refine ⟨_,rfl,p,n2,4,rfl,hp2,by decide,by decide,fun r3 H3 a3 c3 M3=>?_⟩;have M3:=M2.trans M3;obtain ⟨n3,hp3⟩:=M3.2;refine ⟨_,rfl,_,rfl,p,n3,b,rfl,hp3,by lia,by lia,fun r4 H4 a4 c4 M4=>?_⟩;have M4:=M3.trans M4;obtain ⟨n4,hp4⟩:=M4.2;refine ⟨_,rfl,_,_,rfl,rfl,_,rfl,p,n4,2,rfl,hp4,by decide,by decide,fun r5 H5 a5 c5 M5=>⟨szZ5,fun q hq=>?_⟩⟩;have M5:=M4.trans M5;have nqp:=M5.ne hq;have S6:Same H5 (upd H5 q (.lst [.int 0,.int r3,.int r4,.int (b - 1),.int r5])):=Same.put (Same.refl H5) hq;have h6:(upd H5 q (.lst [.int 0,.int r3,.int r4,.int (b - 1),.int r5])) q=some (.lst [.int 0,.int r3,.int r4,.int (b - 1),.int r5]):=aS;generalize upd H5 q (.lst [.int 0,.int r3,.int r4,.int (b - 1),.int r5])=H6 at S6 h6 ⊢;have M6:=M5.then S6;obtain ⟨n6,hp6⟩:=M6.2;refine ⟨_,rfl,p,n6,5,rfl,hp6,by decide,by decide,fun r7 H7 a7 c7 M7=>?_⟩;have h7:=M7.at h6 nqp;have M7:=M6.trans M7;obtain ⟨v7,e7,m7⟩:=atI_in (xs:=[V.int 0,V.int r3,V.int r4,V.int (b - 1),V.int r5]) a7 c7;obtain ⟨w0,rfl,w00⟩:∃ i,v7=V.int i∧0≤i:=by
  simp only [aG,cX,or_false] at m7
  rcases m7 with rfl | rfl | rfl | rfl | rfl
  ·exact ⟨_,rfl,by decide⟩
  ·exact ⟨_,rfl,a3⟩
  ·exact ⟨_,rfl,a4⟩
  ·exact ⟨_,rfl,by lia⟩
  ·exact ⟨_,rfl,a5⟩
 refine ⟨q,_,_,_,rfl,rfl,SqL.of h7,e7,?_⟩;refine ⟨_,rfl,_,rfl,_,rfl,_,_,rfl,rfl,_,_,_,rfl,?_⟩;have wl:=min3_le w0 mo (b - 1);have wg:=min3_ge (z:=0) w00 mo0 (by lia:(0:Int)≤b - 1);generalize min3 w0 mo (b - 1)=wd at wl wg ⊢;obtain ⟨n7,hp7⟩:=M7.2;refine ⟨_,rfl,_,rfl,_,rfl,_,rfl,_,rfl,mU,fun e H8 S8 h8=>?_⟩;have M8:=M7.then S8;obtain ⟨n8,hp8⟩:=M8.2;refine ⟨_,rfl,_,rfl,p,n8,16,rfl,hp8,by decide,by decide,fun r9 H9 a9 c9 M9=>⟨_,rfl,_,_,rfl,rfl,?_⟩⟩;have h9:H9 e=some (.tup [.int r1,.int g]):=Mv.tupK hp8 M9 _ _ h8;have M9:=M8.trans M9;obtain ⟨n9,hp9⟩:=M9.2;refine ⟨p,tq,e,n9,b,r1,g,wd,ts,_,rfl,hp9,M9.at htq ntp,ntp,h9,b1,b2,few,a1,by lia,g0,by lia,g2,wg,by lia,fun t x HA ht MA hA ok ew kw es eg=>?_⟩;obtain ⟨y1,y2⟩:=M9.none ht;exact k t x HA y1 y2 (M9.trans MA) hA ok (by lia) (fun z=>kw (rf (by have:=rj z;lia)))
inductive spNetH (K:ak)(vs:List V)(H:Hp)(Q:VK)(_:XK):Prop
 | mk (a:ao)(ns:List Int)(mo ex so:Int)(_:vs=[.ref a,.int mo,.int ex,.int so])(_:SqL K H a (ns.map V.int))(_:1≤mo)(_:mo≤8)(_:0≤ex)(_:ex≤20)(_:∀ (q u:ao) (v:V) (b m:Int) (sp:List Sn) (ts:List Int) (H':Hp),Same H H'→H' q=some (.tup [v,.ref u])→IsD H' v (ka b m sp)→NetT b m sp→b≤10 ^ 40→m≤mo→H' u=some (.tup (ts.map V.int))→(ts.length:Int)=m→(∀ x∈ts,0≤x∧x<b)→(so≤0→jB b ts sp=true)→oy m sp (jf m - 1)→(sp.length:Int)≤7+ex→Q (.ref q) H')
theorem lim_at {m:Int}(h0:1≤m)(h1:m≤8):atI [V.int 1,V.int 1,V.int 40,V.int 7,V.int 4,V.int 3,V.int 2,V.int 2,V.int 2] m=some (V.int (jf m)):=by
 obtain ⟨n,rfl⟩:=cJ (by lia:0≤m);have:n=1∨n=2∨n=3∨n=4∨n=5∨n=6∨n=7∨n=8:=by lia
 rcases this with rfl | rfl | rfl | rfl | rfl | rfl | rfl | rfl <;> exact aJ rfl
abbrev sNetH:cV:=top 54
theorem jz:cp ["_law_script","_law_most","_law_extras","_law_spoils","_law_head","_law_many","_law_way","_law_beat","_law_apart","_law_count","_law_pot_here","_law_times","_law_lim","_law_spans","_law_k","_law_j","_law_place"] pzr (defScope sNetH):=by trivial
theorem ok_netH (F:Fun K "_law_net" "_law_net" sNetH f fd)(T:Nm mg)(T2:Nt mg)(G1:Fn K mg "_law_take" sTake pzd f1 fd1)(G2:Fn K mg "_law_pot" sPotT pze f2 fd2)(F2:dv P w K mg base CX0 2 f2 fd2 pze (spPotT K))
  (G3:Fn K mg "_law_tied" sTied pzy f3 fd3) (F3:dv P w K mg base CX0 3 f3 fd3 pzy spTied)
  (G4:Fn K mg "_law_more" sMore pzz f4 fd4) (F4:dv P w K mg base CX0 3 f4 fd4 pzz spMore):dv P w K mg base CX0 4 f fd pzr (spNetH K):=by
 have F1:dv P w K mg base CX0 1 f1 fd1 pzd pj:=oh G1.F;refine F.ok jz (by contradiction) (fun cdv A outer st0 H vs Q E hr h=>?_);obtain ⟨a,ns,mo,ex,so,rfl,ha,mo1,mo2,ex1,ex2,k⟩:=h;have hr1:Room 1 _:=hr.mono (by decide);have hr2:Room 2 _:=hr.mono (by decide);refine ⟨_,PSl.h (aU ⟨(bC (i:=4) jz.nd rfl (.inl rfl) (pc1 G2 F2 hr2 (ae (pv 0) (ae bg aB))))⟩
  (aU ⟨(bC (i:=5) jz.nd rfl (.inl rfl) (b9 eh bg (pc1 G1 F1 hr1 (ae (pv 4) (ae (pv 1) aB)))))⟩
  (aU ⟨(bC (i:=6) jz.nd rfl (.inl rfl) (pc1 G1 F1 hr1 (ae (pv 4) (ae bg aB))))⟩
  (aU ⟨(bC (i:=7) jz.nd rfl (.inr rfl) (PEs.h (k_ix eE (k_lst (gf (k_op eh kD ⟨pc1 G1 F1 hr1 (ae (pv 4) (ae bg aB))⟩) (gf (k_op eh kD ⟨pc1 G1 F1 hr1 (ae (pv 4) (ae bg aB))⟩) (gf kD (gf kD a_nil))))) ⟨pv 6⟩ (fun _ _=>rfl))))⟩
  (aU ⟨(mz (gR (cG mm (pv 6) bg (dg _)) (cO (bC (i:=7) jz.nd rfl (.inr rfl) (b9 eh bg (pc1 G1 F1 hr1 (ae (pv 4) (ae (b9 op_pow bg bg) aB)))))) d7))⟩
  (aU ⟨(bC (i:=8) jz.nd rfl (.inl rfl) (pc1 G1 F1 hr1 (ae (pv 4) (ae bg aB))))⟩
  (aU ⟨(bC (i:=9) jz.nd rfl (.inl rfl) (pc1 G1 F1 hr1 (ae (pv 4) (ae (b9 eh (pv 2) bg) aB))))⟩
  (aU ⟨(bC (i:=10) jz.nd rfl (.inr rfl) (pc1 G2 F2 hr2 (ae (pv 0) (ae bg aB))))⟩
  (aU ⟨(pS (iy:=11) (fr:=["_law_pot_here","_law_beat"]) (js:=[10,7]) jz.nd rfl (.inl rfl) rfl (iJ rfl T2.range (ae (pv 5) aB)) (by trivial) rfl (by trivial) rfl (by exists sNetH) (by trivial) rfl (by trivial) (fun _ _ _ _ _=>⟨(pc1 G1 F1 hr1 (ae (pv 1) (ae (pv 2) aB))),iH⟩))⟩
  (aU ⟨(bC (i:=12) jz.nd rfl (.inl rfl) (PEs.h (k_ix eE (k_lst (gf kD (gf kD (gf kD (gf kD (gf kD (gf kD (gf kD (gf kD (gf kD a_nil)))))))))) ⟨pv 5⟩ (fun _ _=>rfl))))⟩
  (aU ⟨(mz (bC (i:=13) jz.nd rfl (.inl rfl) (iY aB)))⟩
  (aU ⟨(iC bL rfl (pi_range2 rfl T2.range (ae bg (ae (pv 5) aB))) (cY (i:=14) jz.nd rfl (.inl rfl)) (cO (gR (PW.pt (mj (cG oE (pv 8) bg (dg _)) (lT (cG mm (b9 jM (pv 14) bg) bg (dg _))))) (cO (ik (lH bp cu cq g9 (pv 13) (ae (pc1 G3 F3 hr (ae (pc1 G2 F2 hr2 (ae (pv 0) (ae (b9 eh bg (pv 14)) aB))) (ae (pv 11) (ae (pv 7) (ae (pv 14) (ae (pv 12) (ae (pv 3) aB))))))) aB)))) d7)))⟩
  (aU ⟨(mz (gR (cG oE (pv 8) bg (dg _)) (cO (bC (i:=12) jz.nd rfl (.inl rfl) (pv 7))) d7))⟩
  (aU ⟨(mz (gR (cG op_gt (pv 5) bg (dg _)) (cO (iC bL rfl (iJ rfl T2.range (ae (pv 9) aB)) (cY (i:=15) jz.nd rfl (.inl rfl)) (PSl.h (aU ⟨(bC (i:=10) jz.nd rfl (.inr rfl) (pc1 G2 F2 hr2 (ae (pv 0) (ae (b9 eh bg (pv 15)) aB))))⟩
  (aU ⟨(bC (i:=16) jz.nd rfl (.inl rfl) (pc1 G1 F1 hr1 (ae (pv 10) (ae (b9 eh (cM cg rfl T.len bP (ae (pv 13) aB)) bg) aB))))⟩
  (dH ⟨(ik (lH bp iV kM p5 (pv 13) (ae (pv 16) (ae (pc1 G4 F4 hr (ae (pv 10) (ae (pv 11) (ae (pv 7) (ae (b9 gJ (pv 12) bg) (ae (pv 3) aB)))))) aB))))⟩)))))) d7))⟩
  (dH ⟨(cx (d8 (ae (d8 (ae (pv 7) (ae (pv 5) (ae (fG i9 rfl T.ttup i5 (ae (pv 13) aB)) aB)))) (ae (fG i9 rfl T.ttup i5 (ae (pv 11) aB)) aB))))⟩))))))))))))))),?_⟩
 refine ⟨_,rfl,a,ns,1,rfl,ha,by decide,by decide,fun n0 ph hph=>?_⟩;have S0:Same H (upd H ph (.lst [.int n0])):=Same.put (Same.refl H) hph;have h0:(upd H ph (.lst [.int n0])) ph=some (.lst [.int n0]):=aS;generalize upd H ph (.lst [.int n0])=H0 at S0 h0 ⊢;refine ⟨_,rfl,_,rfl,ph,n0,mo,rfl,h0,by lia,by lia,fun r1 H1 a1 c1 M1=>⟨_,_,rfl,rfl,?_⟩⟩;obtain ⟨n1,hp1⟩:=M1.2;refine ⟨_,rfl,ph,n1,4,rfl,hp1,by decide,by decide,fun wy H2 w0 w1 M2=>?_⟩;have M2:=M1.trans M2;obtain ⟨n2,hp2⟩:=M2.2;refine ⟨_,rfl,ph,n2,12,rfl,hp2,by decide,by decide,fun r3 H3 a3 c3 M3=>⟨_,_,rfl,rfl,?_⟩⟩;have M3:=M2.trans M3;obtain ⟨n3,hp3⟩:=M3.2;refine ⟨_,rfl,ph,n3,59,rfl,hp3,by decide,by decide,fun r4 H4 a4 c4 M4=>⟨_,_,rfl,rfl,szZ4,fun q5 H5 S5 h5=>?_⟩⟩;have M5:=(M3.trans M4).then S5;obtain ⟨v5,e5,m5⟩:=atI_in (xs:=[V.int (1+r3),V.int (2+r4),V.int 60,V.int 60]) w0 w1;obtain ⟨b0,rfl,b01,b02⟩:∃ i,v5=V.int i∧1≤i∧i≤10 ^ 40:=by
  simp only [aG,cX,or_false] at m5
  rcases m5 with rfl | rfl | rfl | rfl
  ·exact ⟨_,rfl,by lia,by lia⟩
  ·exact ⟨_,rfl,by lia,by lia⟩
  ·exact ⟨_,rfl,by decide,by decide⟩
  ·exact ⟨_,rfl,by decide,by decide⟩
 refine ⟨_,rfl,q5,_,_,_,rfl,rfl,SqL.of h5,e5,?_⟩;refine ⟨fun σ' H'=>Mv ph H0 H'∧∃ b,1≤b∧b≤10 ^ 40∧σ'=[some (.ref a),some (.int mo),some (.int ex),some (.int so),some (.ref ph),some (.int (1+r1)),some (.int wy),some (.int b),none,none,none,none,none,none,none,none,none],?_,?_⟩
 rotate_left
 ·refine ⟨_,rfl,rfl,_,rfl,?_⟩
  refine ite2 (fun _=>?_) (fun _=>⟨M5,b0,b01,b02,rfl⟩);obtain ⟨n5,hp5⟩:=M5.2;refine ⟨_,rfl,_,_,rfl,rfl,⟨by decide,by decide,by decide⟩,ph,n5,_,rfl,hp5,by decide,by decide,fun r6 H6 a6 c6 M6=>⟨_,_,rfl,rfl,?_⟩⟩;have c6:r6<10 ^ 40:=c6;exact ⟨M5.trans M6,1+r6,by lia,by lia,rfl⟩
 clear M5 M4 M3 M2 M1 hp1 hp2 hp3 S5 h5 e5 m5 b01 b02 h0 a3 c3 a4 c4;rintro σ' H6 ⟨M6,b,b1,b2,rfl⟩;obtain ⟨m,em⟩:∃ m,m=1+r1:=⟨_,rfl⟩;have m1:1≤m:=by lia
 have m2:m≤mo:=by lia
 rw [←em];clear em;obtain ⟨n6,hp6⟩:=M6.2;refine ⟨_,rfl,ph,n6,8,rfl,hp6,by decide,by decide,fun ap H7 a7 c7 M7=>?_⟩;have M7:=M6.trans M7;obtain ⟨n7,hp7⟩:=M7.2;refine ⟨_,rfl,_,rfl,_,_,rfl,rfl,ph,n7,_,rfl,hp7,by lia,by lia,fun cn H8 a8 c8 M8=>?_⟩;have M8:=M7.trans M8;have S8:Same H H8:=Same.mv S0 hph M8;clear M6 M7 hp6 hp7;refine ⟨_,rfl,a,ns,2,rfl,S8.seq ha,by decide,by decide,fun n9 pp hpp=>?_⟩;have hppH:=S8.free hpp;have S9:Same H (upd H8 pp (.lst [.int n9])):=Same.put S8 hpp;have h9:(upd H8 pp (.lst [.int n9])) pp=some (.lst [.int n9]):=aS;generalize upd H8 pp (.lst [.int n9])=H9 at S9 h9 ⊢;refine ⟨_,rfl,m,rfl,by lia,by lia,?_⟩;refine kJ (n:=m.toNat) (fun i zs HA=>Mv pp H9 HA∧∃ ts:List Int,zs=ts.map V.int∧ts.length=i∧∀ x∈ts,0≤x∧x<b) ⟨Mv.of (Same.refl H9) h9,[],rfl,rfl,fun _ h=>rd h (by simp)⟩ (fun i zs HA _ ⟨_,ts,e,hl,_⟩=>by rw [e,aa,hl];exact aC _) (eG (by lia)) (fun i zs HA hi ⟨MA,ts,eA,lA,allA⟩=>?_) (fun zs HA ⟨MA,ts,eA,lA,allA⟩ tq htq=>?_)
 ·refine gQ ?_
  obtain ⟨nA,hpA⟩:=MA.2;refine ⟨_,rfl,_,rfl,pp,nA,b,rfl,hpA,by lia,by lia,fun r HB rb0 rb1 MB=>⟨MA.trans MB,ts++[r],by rw [eA,ay];rfl,by rw [av,lA];rfl,fun x hx=>?_⟩⟩
  rcases aN.mp hx with hx | hx
  ·exact allA x hx
  ·rw [ax.mp hx];exact ⟨rb0,rb1⟩
 subst eA;have SA:Same H HA:=Same.mv S9 hppH MA;have htqH:=SA.free htq;have SB:Same H (upd HA tq (.lst (ts.map V.int))):=Same.put SA htq;have hB:(upd HA tq (.lst (ts.map V.int))) tq=some (.lst (ts.map V.int)):=aS;generalize upd HA tq (.lst (ts.map V.int))=HB at SB hB ⊢;have lt:(ts.length:Int)=m:=by lia
 clear SA MA S9 h9 htq;obtain ⟨l1,l2⟩:=limOf_pos m1 (by lia);refine ⟨(by show 9≤bq;decide),fun qC HC SC hC=>⟨_,rfl,qC,_,_,_,rfl,rfl,SqL.of hC,lim_at m1 (by lia),?_⟩⟩;have SC':=SB.trans SC;have htC:=SC _ _ hB;refine ⟨fun σ' H'=>Same H H'∧H' tq=some (.lst (ts.map V.int))∧∃ Ls,Ls≠tq∧H Ls=none∧H' Ls=some (.lst [])∧σ'=[some (.ref a),some (.int mo),some (.int ex),some (.int so),some (.ref ph),some (.int m),some (.int wy),some (.int b),some (.int ap),some (.int cn),some (.ref pp),some (.ref tq),some (.int (jf m)),some (.ref Ls),none,none,none],?_,?_⟩
 rotate_left
 ·refine ⟨bF _,fun Ls hLs=>?_⟩
  exact ⟨SC'.put hLs,by rw [br (bf htC hLs)];exact htC,Ls,bX (bf htC hLs),SC'.free hLs,aS,rfl⟩
 clear SC' htC SC hC hB SB;rintro σ' HD ⟨SD,htD,Ls,nLt,hLsH,hLsD,rfl⟩;obtain ⟨kp,ekp⟩:∃ kp:Bool,kp=decide (so≤0):=⟨_,rfl⟩;obtain ⟨tie,etie⟩:∃ tie:Bool,tie= !decide (V.int ap=V.int 3):=⟨_,rfl⟩;refine ⟨_,rfl,1,m,rfl,⟨by decide,by decide,by lia,by lia⟩,?_⟩;refine kI (lo:=1) (n:=(m - 1).toNat) (fun i σ H'=>Same H H'∧H' tq=some (.lst (ts.map V.int))∧∃ (vk:Option V) (zs:List V) (sp:List Sn),σ=[some (.ref a),some (.int mo),some (.int ex),some (.int so),some (.ref ph),some (.int m),some (.int wy),some (.int b),some (.int ap),some (.int cn),some (.ref pp),some (.ref tq),some (.int (jf m)),some (.ref Ls),vk,none,none]∧H' Ls=some (.lst zs)∧IsDs H' zs (dI Sn.row sp)∧sp.length≤i∧HidN b m ts (jf m - 1) kp tie (1+i) sp) ⟨SD,htD,none,[],[],rfl,hLsD,.nil,aC _,HidN.nil⟩ ?_ ?_
 ·rintro i σ HE hi ⟨SE,htE,vk,zs,sp,rfl,hLsE,dE,lE,hidE⟩
  have lz:zs.length=sp.length:=by rw [dE.length];unfold dI;rw [aa]
  have add:∀ (D:L2.Ends) (E':XK),(∀ σ' H',(Same H H'∧H' tq=some (.lst (ts.map V.int))∧∃ (vk:Option V) (zs:List V) (sp:List Sn),σ'=[some (.ref a),some (.int mo),some (.int ex),some (.int so),some (.ref ph),some (.int m),some (.int wy),some (.int b),some (.int ap),some (.int cn),some (.ref pp),some (.ref tq),some (.int (jf m)),some (.ref Ls),vk,none,none]∧H' Ls=some (.lst zs)∧IsDs H' zs (dI Sn.row sp)∧sp.length≤i+1∧HidN b m ts (jf m - 1) kp tie (1+(i+1:Nat)) sp)→D.nx σ' H')→∀ (n p:_),HE p=none→spTied [.ref p,.ref tq,.int b,.int (1+(i:Int)),.int (jf m),.int so] (upd HE p (.lst [.int n])) (fun y H'=>rAppend (.ref Ls) [y] H' fun _ H''=>D.nx [some (.ref a),some (.int mo),some (.int ex),some (.int so),some (.ref ph),some (.int m),some (.int wy),some (.int b),some (.int ap),some (.int cn),some (.ref pp),some (.ref tq),some (.int (jf m)),some (.ref Ls),some (.int (1+(i:Int))),none,none] H'') E':=by
   intro D E' hD n p hp;have npt:=bf htE hp;have npL:=bf hLsE hp;refine ⟨p,tq,n,b,1+(i:Int),jf m,so,ts,rfl,aS,by rw [br npt];exact htE,npt,b1,b2,by lia,by lia,by lia,l1,by lia,fun t x HF htF ntp MF hF okF wF kF eF=>?_⟩;have K1:TupK HE (upd HE p (.lst [.int n])):=fun q xs e=>by rw [br (bf e hp)];exact e
   have K2:TupK HE HF:=K1.trans (Mv.tupK (n:=n) aS MF);have SF:Same H HF:=Same.mv (SE.put hp) (SE.free hp) MF;have htF':HF tq=some (.lst (ts.map V.int)):=MF.at (by rw [br npt];exact htE) npt;have hLF:HF Ls=some (.lst zs):=MF.at (by rw [br npL];exact hLsE) npL;refine ⟨Ls,zs,_,rfl,rfl,hLF,(aR (by lia:zs.length<1000) (by decide:1000≤bq)),?_⟩;have KC:TupK HF (upd HF Ls (.lst (zs++[.ref t]))):=fb hLF;refine hD _ _ ⟨fun q o e=>?_,by rw [br (bX nLt)];exact htF',_,zs++[.ref t],sp++[x],rfl,aS,?_,by rw [av];show sp.length+1≤i+1;lia,?_⟩
   ·rw [br (fun z=>by rw [z,hLsH] at e;cases e)]
    exact SF q o e
   ·unfold dI
    rw [ay];exact (cf (K2.trans KC) dE).append (.cons (.tup (KC _ _ hF) (IsDs.ints x.row)) .nil)
   ·have:=hidE.more (x:=x) (by lia) (by rw [←lt];exact okF) (fun z=>kF (by rw [←ekp];exact z)) wF eF
    rw [show (1:Int)+((i+1:Nat):Int)=1+(i:Int)+1 by lia];exact this
  refine ⟨_,rfl,rfl,_,rfl,?_⟩;refine ite2 (fun h1=>?_) (fun h1=>?_)
  ·refine ⟨_,rfl,.inl ⟨rfl,_,SqL.of hLsE⟩,_,rfl,_,rfl,_,_,rfl,rfl,a,ns,_,rfl,SE.seq ha,by lia,by lia,fun n p hp=>⟨_,rfl,_,rfl,_,rfl,_,rfl,_,rfl,?_⟩⟩
   exact add _ E0 (fun _ _ h=>h) n p hp
  ·refine ⟨_,rfl,_,_,rfl,rfl,(by show (0:Int)<2;decide),rfl,_,rfl,?_⟩
   refine ite2 (fun h2=>?_) (fun h2=>?_)
   ·refine ⟨_,rfl,.inl ⟨rfl,_,SqL.of hLsE⟩,_,rfl,_,rfl,_,_,rfl,rfl,a,ns,_,rfl,SE.seq ha,by lia,by lia,fun n p hp=>⟨_,rfl,_,rfl,_,rfl,_,rfl,_,rfl,?_⟩⟩
    exact add _ E0 (fun _ _ h=>h) n p hp
   ·have tf:tie=false:=by rw [etie];exact jv.mpr h1
    refine ⟨SE,htE,_,zs,sp,rfl,hLsE,dE,by lia,?_⟩;rw [tf] at hidE ⊢;exact hidE.skip _
 rintro σ HE ⟨SE,htE,vk,zs,sp,rfl,hLsE,dE,lE,hidE⟩;rw [show (1:Int)+((m - 1).toNat:Nat)=m by lia] at hidE;have lE7:(sp.length:Int)≤7:=by lia
 clear lE;refine ⟨fun σ' H'=>H'=HE∧∃ lim2,1≤lim2∧(tie=false→lim2=jf m)∧σ'=[some (.ref a),some (.int mo),some (.int ex),some (.int so),some (.ref ph),some (.int m),some (.int wy),some (.int b),some (.int ap),some (.int cn),some (.ref pp),some (.ref tq),some (.int lim2),some (.ref Ls),vk,none,none],?_,?_⟩
 rotate_left
 ·refine ⟨_,rfl,rfl,_,rfl,?_⟩
  refine ite2 (fun h1=>?_) (fun h1=>⟨rfl,jf m,l1,fun _=>rfl,rfl⟩);exact ⟨_,rfl,rfl,b,b1,(fun z=>by rw [etie,h1] at z;cases z),rfl⟩
 rintro σ' _ ⟨rfl,lim2,lim21,elim,rfl⟩;refine ⟨fun σ' H'=>Same H H'∧H' tq=some (.lst (ts.map V.int))∧∃ (v10 vj vp:Option V) (zs:List V) (sp:List Sn),σ'=[some (.ref a),some (.int mo),some (.int ex),some (.int so),some (.ref ph),some (.int m),some (.int wy),some (.int b),some (.int ap),some (.int cn),v10,some (.ref tq),some (.int lim2),some (.ref Ls),vk,vj,vp]∧H' Ls=some (.lst zs)∧IsDs H' zs (dI Sn.row sp)∧(sp.length:Int)≤7+ex∧HidN b m ts (jf m - 1) kp tie m sp,?_,?_⟩
 rotate_left
 ·refine ⟨_,rfl,_,_,rfl,rfl,_,rfl,?_⟩
  refine ite2 (fun hm=>?_) (fun _=>⟨SE,htE,_,_,_,zs,sp,rfl,hLsE,dE,by lia,hidE⟩);have hm:m > 1:=rj hm;refine ⟨_,rfl,cn,rfl,by lia,by lia,?_⟩;refine kI (n:=cn.toNat) (fun i σ H'=>Same H H'∧H' tq=some (.lst (ts.map V.int))∧∃ (v10 vj vp:Option V) (zs:List V) (sp:List Sn),σ=[some (.ref a),some (.int mo),some (.int ex),some (.int so),some (.ref ph),some (.int m),some (.int wy),some (.int b),some (.int ap),some (.int cn),v10,some (.ref tq),some (.int lim2),some (.ref Ls),vk,vj,vp]∧H' Ls=some (.lst zs)∧IsDs H' zs (dI Sn.row sp)∧(sp.length:Int)≤7+i∧HidN b m ts (jf m - 1) kp tie m sp) ⟨SE,htE,_,_,_,zs,sp,rfl,hLsE,dE,by lia,hidE⟩ ?_ ?_
  ·clear hidE dE hLsE htE SE lE7 zs sp
   rintro i σ HE hi ⟨SE,htE,v10,vj,vp,zs,sp,rfl,hLsE,dE,lE,hidE⟩;have lz:zs.length=sp.length:=by rw [dE.length];unfold dI;rw [aa]
   refine ⟨_,rfl,_,rfl,_,_,rfl,rfl,a,ns,_,rfl,SE.seq ha,by lia,by lia,fun n p hp=>?_⟩;have npt:=bf htE hp;have npL:=bf hLsE hp;have S1:Same HE (upd HE p (.lst [.int n])):=Same.put (Same.refl HE) hp;have hp1:(upd HE p (.lst [.int n])) p=some (.lst [.int n]):=aS;generalize upd HE p (.lst [.int n])=HF at S1 hp1 ⊢;refine ⟨_,rfl,_,rfl,Ls,_,rfl,.inl (SqL.of (S1 _ _ hLsE)),_,_,rfl,rfl,p,n,_,rfl,hp1,by lia,by lia,fun pl HG pl0 pl1 MG=>?_⟩;have MG:Mv p HF HG:=MG;have SG:Same H HG:=Same.mv (SE.trans S1) (SE.free hp) MG;have htG:=MG.at (S1 _ _ htE) npt;have hLG:=MG.at (S1 _ _ hLsE) npL;have KG:TupK HE HG:=fun q xs e=>Mv.tupK hp1 MG _ _ (S1 _ _ e)
   obtain ⟨nG,hpG⟩:=MG.2;refine ⟨_,rfl,.inl ⟨rfl,_,SqL.of hLG⟩,_,rfl,_,rfl,_,rfl,_,rfl,_,rfl,_,_,rfl,rfl,_,rfl,p,tq,nG,b,_,so,ts,rfl,hpG,htG,npt,b1,b2,by lia,by lia,(by show 0≤lim2 - 1;lia),fun t x HH htH ntp MH hH okH wH kH=>?_⟩;have SH:Same H HH:=Same.mv SG (SE.free hp) MH;have htH':=MH.at htG npt;have hLH:=MH.at hLG npL;have KH:TupK HE HH:=KG.trans (Mv.tupK hpG MH);refine ⟨Ls,zs,pl,.ref t,rfl,rfl,hLH,by lia,pl0,by lia,?_⟩;have KC:TupK HH (upd HH Ls (.lst (zs.take pl.toNat++ .ref t::zs.drop pl.toNat))):=fb hLH;refine ⟨fun q o e=>?_,by rw [br (bX nLt)];exact htH',_,_,_,zs.take pl.toNat++ .ref t::zs.drop pl.toNat,sp.take pl.toNat++x::sp.drop pl.toNat,rfl,aS,?_,?_,?_⟩
   ·rw [br (fun z=>by rw [z,hLsH] at e;cases e)]
    exact SH q o e
   ·have r:=cf (KH.trans KC) dE
    unfold dI at r ⊢;rw [ay,cj,jV,jW];exact (IsDs.takeN _ r).append (.cons (.tup (KC _ _ hH) (IsDs.ints x.row)) (IsDs.dropN _ r))
   ·rw [av,aX,bG,dW]
    lia
   ·exact hidE.put (by rw [←lt];exact okH) (fun z=>kH (by rw [←ekp];exact z)) (fun z=>by have:=elim z;lia) _
  ·rintro σ HF ⟨SF,htF,v10,vj,vp,zs,sp,rfl,hLF,dF,lF,hidF⟩
   exact ⟨SF,htF,v10,vj,vp,zs,sp,rfl,hLF,dF,by lia,hidF⟩
 clear hidE dE hLsE htE SE lE7 zs sp;rintro σ' HE ⟨SE,htE,v10,vj,vp,zs,sp,rfl,hLsE,dE,lE,hidE⟩;refine ⟨_,rfl,_,rfl,_,rfl,Ls,_,rfl,SqL.of hLsE,fun qB HB SB hB=>⟨(by show 3≤bq;decide),fun tC HC SC hC=>⟨_,rfl,tq,_,rfl,SqL.of (SC _ _ (SB _ _ htE)),fun qD HD SD hD=>⟨mU,fun tF HF SF hF=>?_⟩⟩⟩⟩;have SBF:=SB.trans (SC.trans (SD.trans SF));refine k tF qD (.ref tC) b m sp ts HF (SE.trans SBF) hF (.tup (SF _ _ (SD _ _ hC)) (.cons (.int b) (.cons (.int _) (.cons (.tup (SF _ _ (SD _ _ (SC _ _ hB))) (dE.same SBF)) .nil)))) ⟨b1,by lia,m1,by lia,by lia,hidE.all⟩ b2 m2 (SF _ _ hD) lt allA (fun z=>hidE.fits (by rw [ekp];exact rf z)) hidE.narrow lE
def kB (b:Int)(t:List Int)(x:Sn):Prop:=fW b t x≤x.o - x.l
structure RingS (b m:Int)(ts hops:List Int)(k:Nat)(zs:List Sn)(room i3:Int):Prop where
 all:∀ x∈zs,SnOk b m x
 fit:∀ x∈zs,kB b ts x
 nar:∀ x∈zs,x.o - x.l≤1
 r0:0≤room
 rb:room≤b - 2
 len:zs.length=k
 way:∀ t:List Int,(∀ x∈zs,kB b t x)→∃ X j:Int,0≤X∧X≤b - 2 - room∧tm t (tm hops k) - tm t (tm hops 0)=tm ts (tm hops k) - tm ts (tm hops 0) - i3+X+b * j
section
variable {m room i3 ov wd w one oth:Int}{hops:List Int}{k:Nat}{zs:List Sn}
theorem RingS.nil (hb:2≤b):RingS b m ts hops 0 [] (b - 2) 0 :=
 ⟨fun _ h=>rd h (by simp),fun _ h=>rd h (by simp),fun _ h=>rd h (by simp),by lia,by lia,rfl,fun t _=>⟨0,0,by lia,by lia,by show tm t (tm hops 0) - tm t (tm hops 0)=tm ts (tm hops 0) - tm ts (tm hops 0) - 0+0+b * 0;lia⟩⟩
theorem nI {x:Sn}{t:List Int}(hb:0<b)(el:x.l=(tm ts x.g - tm ts x.s - ov) % b)(h:kB b t x):∃ y j:Int,0≤y∧y≤x.o - x.l∧tm t x.g - tm t x.s=tm ts x.g - tm ts x.s - ov+y+b * j:=by
 unfold kB at h;refine ⟨fW b t x,(tm t x.g - tm t x.s - x.l) / b - (tm ts x.g - tm ts x.s - ov) / b,cR _ (by lia),h,?_⟩;have e1:=Int.emod_add_mul_ediv (tm t x.g - tm t x.s - x.l) b;have e2:=Int.emod_add_mul_ediv (tm ts x.g - tm ts x.s - ov) b;rw [←el] at e2;unfold fW;rw [Int.mul_sub];lia
theorem own_kept {x:Sn}(hb:0<b)(o0:0≤ov)(o1:ov≤x.o - x.l)(o2:ov<b)(el:x.l=(tm ts x.g - tm ts x.s - ov) % b):kB b ts x:=by
 have e2:=Int.emod_add_mul_ediv (tm ts x.g - tm ts x.s - ov) b;rw [←el] at e2;unfold kB fW;rw [show tm ts x.g - tm ts x.s - x.l=ov+b * ((tm ts x.g - tm ts x.s - ov) / b) by lia,kO,jH o0 o2];exact o1
theorem k6 {zs:List Sn}{x y:Sn}(h:y∈zs++[x]):y∈zs∨y=x:=by
 rcases aN.mp h with h | h
 ·exact .inl h
 ·exact .inr (ax.mp h)
theorem RingS.on {x:Sn}(R:RingS b m ts hops k zs room i3)(hb:2≤b)(ok:SnOk b m x)(es:x.s=tm hops k)(eg:x.g=tm hops (k+1:Nat))(el:x.l=(tm ts x.g - tm ts x.s - ov) % b)(eo:x.o - x.l=wd)(w1:wd≤1)(wr:wd≤room)(o0:0≤ov)(o1:ov≤wd):RingS b m ts hops (k+1) (zs++[x]) (room - wd) (i3+ov):=by
 have lo:=ok.lo;have ob:=ok.ob;refine ⟨fun y hy=>?_,fun y hy=>?_,fun y hy=>?_,by lia,by have:=R.rb;lia,by rw [av,R.len];rfl,fun t ht=>?_⟩
 ·rcases k6 hy with hy | rfl
  ·exact R.all y hy
  ·exact ok
 ·rcases k6 hy with hy | rfl
  ·exact R.fit y hy
  ·exact own_kept (by lia) o0 (by lia) (by lia) el
 ·rcases k6 hy with hy | rfl
  ·exact R.nar y hy
  ·lia
 ·obtain ⟨X,j,X0,X1,e⟩:=R.way t fun y hy=>ht y (aM _ hy)
  obtain ⟨y,i,y0,y1,e'⟩:=nI (by lia) el (ht x (by simp));rw [es,eg] at e';refine ⟨X+y,j+i,by lia,by lia,?_⟩;rw [ji];lia
theorem RingS.back {x:Sn}(R:RingS b m ts hops k zs room i3)(hb:2≤b)(ok:SnOk b m x)(eg:x.g=tm hops k)(es:x.s=tm hops (k+1:Nat))(el:x.l=(tm ts x.g - tm ts x.s - ov) % b)(eo:x.o - x.l=wd)(w1:wd≤1)(wr:wd≤room)(o0:0≤ov)(o1:ov≤wd):RingS b m ts hops (k+1) (zs++[x]) (room - wd) (i3+wd - ov):=by
 have lo:=ok.lo;have ob:=ok.ob;refine ⟨fun y hy=>?_,fun y hy=>?_,fun y hy=>?_,by lia,by have:=R.rb;lia,by rw [av,R.len];rfl,fun t ht=>?_⟩
 ·rcases k6 hy with hy | rfl
  ·exact R.all y hy
  ·exact ok
 ·rcases k6 hy with hy | rfl
  ·exact R.fit y hy
  ·exact own_kept (by lia) o0 (by lia) (by lia) el
 ·rcases k6 hy with hy | rfl
  ·exact R.nar y hy
  ·lia
 ·obtain ⟨X,j,X0,X1,e⟩:=R.way t fun y hy=>ht y (aM _ hy)
  obtain ⟨y,i,y0,y1,e'⟩:=nI (by lia) el (ht x (by simp));rw [es,eg] at e';refine ⟨X+(wd - y),j - i,by lia,by lia,?_⟩;rw [Int.mul_sub];lia
theorem no_mult {n j:Int}(h0:0<n)(h1:n<b)(e:n=b * j):False:=by
 rw [e] at h0 h1;have:0<j:=by
  rcases Int.lt_or_le 0 j with h | h
  ·exact h
  ·have:=eP h (by lia:(0:Int)≤b)
   lia
 have:=eP (by lia:(1:Int)≤j) (by lia:(0:Int)≤b);lia
theorem RingS.dead_on {x:Sn}{t:List Int}{r:Int}(R:RingS b m ts hops k zs room i3)(hb:2≤b)(es:x.s=tm hops k)(eg:x.g=tm hops 0)(el:x.l=(tm ts x.g - tm ts x.s+i3+1+r) % b)(eo:x.o - x.l=wd)(r0:0≤r)(r1:r≤room - wd)(hz:∀ y∈zs,kB b t y)(hx:kB b t x):False:=by
 obtain ⟨X,j,X0,X1,e⟩:=R.way t hz;obtain ⟨y,i,y0,y1,e'⟩:=nI (ts:=ts) (ov:= -(i3+1+r)) (by lia) (by rw [el];congr 1;lia) hx;rw [es,eg] at e';refine no_mult (b:=b) (n:=X+y+1+r) (j:= -(j+i)) (by lia) (by lia) ?_;rw [Int.mul_neg,ji];lia
theorem RingS.dead_back {x:Sn}{t:List Int}{r:Int}(R:RingS b m ts hops k zs room i3)(hb:2≤b)(eg:x.g=tm hops k)(es:x.s=tm hops 0)(el:x.l=(0 - (tm ts x.s - tm ts x.g+i3+1+r) - wd) % b)(eo:x.o - x.l=wd)(r0:0≤r)(r1:r≤room - wd)(hz:∀ y∈zs,kB b t y)(hx:kB b t x):False:=by
 obtain ⟨X,j,X0,X1,e⟩:=R.way t hz;obtain ⟨y,i,y0,y1,e'⟩:=nI (ts:=ts) (ov:=i3+1+r+wd) (by lia) (by rw [el];congr 1;lia) hx;rw [es,eg] at e';refine no_mult (b:=b) (n:=X+(wd - y)+1+r) (j:=i - j) (by lia) (by lia) ?_;rw [Int.mul_sub];lia
end
theorem tm_get {k:Nat}(hk:k<hs.length):hs[k]? =some (tm hs k):=by
 unfold tm;rw [cQ,ai,gE hk];rfl
theorem tm_inj (nd:hs.Nodup)(hi:i<hs.length)(hj:j<hs.length)(e:tm hs i=tm hs j):i=j :=
 (List.getElem?_inj hi nd).mp (by rw [tm_get hi,tm_get hj,e])
theorem pop_perm {lf:List Int}{k:Nat}{y:Int}(h:lf[k]? =some y):((hs++[y])++lf.eraseIdx k).Perm (hs++lf):=by
 obtain ⟨hk,rfl⟩:=aq.mp h;rw [List.append_assoc];refine List.Perm.append_left hs (?_:(lf[k]::lf.eraseIdx k).Perm lf);rw [jI];refine (List.perm_middle.symm).trans ?_;rw [←List.drop_eq_getElem_cons hk,jK]
theorem ints_nodup (n:Nat):((aQ n).map fun k:Nat=>(k:Int)).Nodup :=
 fk.mpr (List.Pairwise.imp (fun h e=>h (by lia)) iN)
theorem fits_kept {t:List Int}(h:jB b t sp=true):∀ x∈sp,kB b t x:=by
 intro x hx;unfold jB at h;rw [gH,gG] at h;have:=h x hx;unfold brk at this;unfold kB;simp only [decide_eq_true_eq] at this;lia
theorem kept_fits {t:List Int}(h:∀ x∈sp,kB b t x):jB b t sp=true:=by
 unfold jB;rw [gH,gG];intro x hx;have:=h x hx;unfold kB at this;unfold brk;simp only [decide_eq_true_eq];lia
theorem pZ {m L:Int}(na:oy m sp L)(sub:∀ y∈sp,y∈sx)(rest:∀ y∈sx,y∈sp∨y.o - y.l≤L):oy m sx L:=by
 rcases na with h | h
 ·refine .inl fun y hy=>?_
  rcases rest y hy with z | z
  ·exact h y z
  ·exact z
 ·refine .inr fun k k0 k1=>?_
  obtain ⟨y,hy,w⟩:=h k k0 k1;exact ⟨y,sub y hy,w⟩
theorem lim_two (h0:2≤n)(h1:n≤5):2≤jf n :=
 (by decide:∀ n∈aQ 6,2≤n→2≤jf (n:Nat)) n (bT.mpr (by lia)) h0
inductive spRingS (vs:List V)(H:Hp)(Q:VK)(_:XK):Prop
 | mk (p tq L:ao)(n b:Int)(ts hops:List Int)(_:vs=[.ref p,.ref tq,.int b,.ref L])(_:H p=some (.lst [.int n]))(_:H tq=some (.tup (ts.map V.int)))(_:H L=some (.lst (hops.map V.int)))(_:L≠p)(_:2≤b)(_:b≤10 ^ 40)(_:ts.length≤16)(_:2≤hops.length)(_:hops.length≤4)(_:(∀ x∈hops,0≤x∧x<ts.length))(_:hops.Nodup)(_:∀ (R:ao) (ws:List V) (zs:List Sn) (x:Sn) (H':Hp),Mv p H H'→H R=none→H' R=some (.lst ws)→IsDs H' ws (dI Sn.row (zs++[x]))→zs.length≤3→(∀ y∈zs++[x],SnOk b ts.length y∧y.o - y.l≤1)→(∀ y∈zs,kB b ts y)→(∀ t,(∀ y∈zs++[x],kB b t y)→False)→Q (.ref R) H')
abbrev sRingSp:cV:=top 66
theorem hV:cp ["_law_pot_here","_law_times","_law_beat","_law_hops","_law_spans","_law_room","_law_less","_law_k","_law_one","_law_other","_law_width","_law_over","_law_least","_law_gap"] pzA (defScope sRingSp):=by trivial
theorem ok_ringS (F:Fun K "_law_ring_spans" "_law_ring_spans" sRingSp f fd)(T:Nm mg)(T2:Nt mg)(G1:Fn K mg "_law_take" sTake pzd f1 fd1):dv P w K mg base CX0 2 f fd pzA spRingS:=by
 have F1:dv P w K mg base CX0 1 f1 fd1 pzd pj:=oh G1.F;refine F.ok hV (by contradiction) (fun cdv A outer st0 H vs Q E hr h=>?_);obtain ⟨p,tq,L,n,b,ts,hops,rfl,hp,htq,hL,nLp,b1,b2,few,hl2,hl4,hin,hnd,k⟩:=h;refine ⟨_,PSl.h (aU ⟨(mz (bC (i:=4) hV.nd rfl (.inl rfl) (iY aB)))⟩
  (aU ⟨(bC (i:=5) hV.nd rfl (.inl rfl) (b9 gJ (pv 2) bg))⟩
  (aU ⟨(bC (i:=6) hV.nd rfl (.inl rfl) bg)⟩
  (aU ⟨(iC bL rfl (iJ rfl T2.range (ae (b9 gJ (cM cg rfl T.len bP (ae (pv 3) aB)) bg) aB)) (cY (i:=7) hV.nd rfl (.inl rfl)) (PSl.h (aU ⟨(bC (i:=8) hV.nd rfl (.inl rfl) (dN eE (pv 3) (pv 7) (fun _ _=>rfl)))⟩
  (aU ⟨(bC (i:=9) hV.nd rfl (.inl rfl) (dN eE (pv 3) (b9 eh (pv 7) bg) (fun _ _=>rfl)))⟩
  (aU ⟨(bC (i:=10) hV.nd rfl (.inl rfl) (cM (nP rfl) rfl T.min boot_min (ae (pc1 G1 F1 hr (ae (pv 0) (ae bg aB))) (ae (pv 5) aB))))⟩
  (aU ⟨(bC (i:=5) hV.nd rfl (.inl rfl) (b9 gJ (pv 5) (pv 10)))⟩
  (aU ⟨(bC (i:=11) hV.nd rfl (.inl rfl) (pc1 G1 F1 hr (ae (pv 0) (ae (b9 eh (pv 10) bg) aB))))⟩
  (dH ⟨(gR (cG mm (pc1 G1 F1 hr (ae (pv 0) (ae bg aB))) bg (dg _)) (PSl.h (aU ⟨(bC (i:=12) hV.nd rfl (.inl rfl) (b9 jM (b9 gJ (b9 gJ (dN dQ (pv 1) (pv 9) (fun _ _=>rfl)) (dN dQ (pv 1) (pv 8) (fun _ _=>rfl))) (pv 11)) (pv 2)))⟩
  (aU ⟨(ik (lH bp cu cq g9 (pv 4) (ae (oq (ae (pv 8) (ae (pv 9) (ae (pv 12) (ae (b9 eh (pv 12) (pv 10)) (ae (pc1 G1 F1 hr (ae (pv 0) (ae bg aB))) aB)))))) aB)))⟩
  (dH ⟨(bC (i:=6) hV.nd rfl (.inl rfl) (b9 eh (pv 6) (pv 11)))⟩)))) (PSl.h (aU ⟨(bC (i:=12) hV.nd rfl (.inl rfl) (b9 jM (b9 gJ (b9 gJ (dN dQ (pv 1) (pv 8) (fun _ _=>rfl)) (dN dQ (pv 1) (pv 9) (fun _ _=>rfl))) (pv 11)) (pv 2)))⟩
  (aU ⟨(ik (lH bp cu cq g9 (pv 4) (ae (oq (ae (pv 9) (ae (pv 8) (ae (pv 12) (ae (b9 eh (pv 12) (pv 10)) (ae (pc1 G1 F1 hr (ae (pv 0) (ae bg aB))) aB)))))) aB)))⟩
  (dH ⟨(bC (i:=6) hV.nd rfl (.inl rfl) (b9 gJ (b9 eh (pv 6) (pv 10)) (pv 11)))⟩)))))⟩))))))))⟩
  (aU ⟨(bC (i:=10) hV.nd rfl (.inl rfl) (cM (nP rfl) rfl T.min boot_min (ae (pc1 G1 F1 hr (ae (pv 0) (ae bg aB))) (ae (pv 5) aB))))⟩
  (aU ⟨(bC (i:=13) hV.nd rfl (.inl rfl) (b9 eh (b9 eh (b9 eh (b9 gJ (dN dQ (pv 1) (dN eE (pv 3) bg (fun _ _=>rfl)) (fun _ _=>rfl)) (dN dQ (pv 1) (dN eE (pv 3) (oB lG bg) (fun _ _=>rfl)) (fun _ _=>rfl))) (pv 6)) bg) (pc1 G1 F1 hr (ae (pv 0) (ae (b9 eh (b9 gJ (pv 5) (pv 10)) bg) aB)))))⟩
  (aU ⟨(bC (i:=12) hV.nd rfl (.inl rfl) (b9 jM (pv 13) (pv 2)))⟩
  (aU ⟨(gR (cG mm (pc1 G1 F1 hr (ae (pv 0) (ae bg aB))) bg (dg _)) (cO (cx (b9 op_cat (pv 4) (iY (ae (oq (ae (dN eE (pv 3) (oB lG bg) (fun _ _=>rfl)) (ae (dN eE (pv 3) bg (fun _ _=>rfl)) (ae (pv 12) (ae (b9 eh (pv 12) (pv 10)) (ae (pc1 G1 F1 hr (ae (pv 0) (ae bg aB))) aB)))))) aB))))) d7)⟩
  (aU ⟨(bC (i:=12) hV.nd rfl (.inl rfl) (b9 jM (b9 gJ (b9 gJ bg (pv 13)) (pv 10)) (pv 2)))⟩
  (dH ⟨(cx (b9 op_cat (pv 4) (iY (ae (oq (ae (dN eE (pv 3) bg (fun _ _=>rfl)) (ae (dN eE (pv 3) (oB lG bg) (fun _ _=>rfl)) (ae (pv 12) (ae (b9 eh (pv 12) (pv 10)) (ae (pc1 G1 F1 hr (ae (pv 0) (ae bg aB))) aB)))))) aB))))⟩)))))))))),?_⟩
 have hn:=hnd;refine ⟨fun σ' H'=>Mv p H H'∧∃ Ls,Ls≠p∧H Ls=none∧H' Ls=some (.lst [])∧σ'=[some (.ref p),some (.ref tq),some (.int b),some (.ref L),some (.ref Ls),none,none,none,none,none,none,none,none,none],?_,?_⟩
 rotate_left
 ·refine ⟨bF _,fun Ls hLs=>?_⟩
  exact ⟨Mv.new (Mv.of (Same.refl H) hp) hLs,Ls,bX (bf hp hLs),hLs,aS,rfl⟩
 rintro σ' HD ⟨MD,Ls,nLs,hLsH,hLsD,rfl⟩;have at_hop:∀ i:Nat,i<hops.length→atI (hops.map V.int) (i:Int)=some (V.int (tm hops i)):=fun i hi=>mq (by lia) (by lia)
 refine ⟨_,rfl,_,_,rfl,rfl,?_⟩;have hLD:=MD.at hL nLp;have hl:(hops.map V.int).length=hops.length:=aa _;refine ⟨_,rfl,L,_,rfl,.inl (SqL.of hLD),_,_,rfl,rfl,((hops.length - 1:Nat):Int),by show [V.int (((hops.map V.int).length:Int) - 1)]=_;rw [hl,show (hops.length:Int) - 1=((hops.length - 1:Nat):Int) by lia],by lia,by lia,?_⟩;have hop_in:∀ i:Nat,i<hops.length→0≤tm hops i∧tm hops i<ts.length:=fun i hi=>hin _ (qA (by lia) (by lia))
 refine kI (lo:=0) (n:=hops.length - 1) (fun i σ H'=>Mv p H H'∧∃ (room i3:Int) (v7 v8 v9 v10 v11 v12:Option V) (ws:List V) (zs:List Sn),σ=[some (.ref p),some (.ref tq),some (.int b),some (.ref L),some (.ref Ls),some (.int room),some (.int i3),v7,v8,v9,v10,v11,v12,none]∧H' Ls=some (.lst ws)∧IsDs H' ws (dI Sn.row zs)∧RingS b ts.length ts hops i zs room i3) ⟨MD,b - 2,0,none,none,none,none,none,none,[],[],rfl,hLsD,.nil,RingS.nil b1⟩ ?_ ?_
 ·rintro i σ HE hi ⟨ME,room,i3,v7,v8,v9,v10,v11,v12,ws,zs,rfl,hLsE,dE,RE⟩
  have r0:=RE.r0;have lw:ws.length=i:=by rw [dE.length];unfold dI;rw [aa,RE.len]
  have hLE:=ME.at hL nLp;obtain ⟨one,eone⟩:∃ one,one=tm hops i:=⟨_,rfl⟩;obtain ⟨oth,eoth⟩:∃ oth,oth=tm hops (i+1:Nat):=⟨_,rfl⟩;have o1:atI (hops.map V.int) (0+(i:Int))=some (V.int one):=by rw [eone,gc];exact at_hop i (by lia)
  have o2:atI (hops.map V.int) (0+(i:Int)+1)=some (V.int oth):=by rw [eoth,gc];exact at_hop (i+1) (by lia)
  obtain ⟨one0,one1⟩:0≤one∧one<ts.length:=by rw [eone];exact hop_in i (by lia)
  obtain ⟨oth0,oth1⟩:0≤oth∧oth<ts.length:=by rw [eoth];exact hop_in (i+1) (by lia)
  have ne:one≠oth:=by
   rw [eone,eoth];exact fun z=>rd (tm_inj hnd (by lia) (by lia) z) (by lia)
  refine ⟨_,rfl,_,rfl,L,_,_,_,rfl,rfl,SqL.of hLE,o1,?_⟩;refine ⟨_,rfl,_,rfl,_,_,rfl,rfl,L,_,_,_,rfl,rfl,SqL.of hLE,o2,?_⟩;obtain ⟨nE,hpE⟩:=ME.2;refine ⟨_,rfl,p,nE,2,rfl,hpE,by decide,by decide,fun r1 H1 a1 c1 M1=>⟨_,rfl,_,_,rfl,?_⟩⟩;have hLs1:=M1.at hLsE nLs;have d1:=cf (Mv.tupK hpE M1) dE;have M1:=ME.trans M1;have c1:r1<2:=c1;obtain ⟨wd,hwd,wd0,wd1,wd2⟩:∃ wd,wd=(if room<r1 then room else r1)∧0≤wd∧wd≤1∧wd≤room:=⟨_,rfl,by split <;> lia,by split <;> lia,by split <;> lia⟩;rw [←hwd];clear hwd;obtain ⟨n1,hp1⟩:=M1.2;refine ⟨_,rfl,_,rfl,_,_,rfl,rfl,?_⟩;refine ⟨_,rfl,_,rfl,_,_,rfl,rfl,p,n1,_,rfl,hp1,by show 0<wd+1;lia,by show wd+1<10 ^ 61;lia,fun ov H2 a2 c2 M2=>?_⟩;have c2:ov<wd+1:=c2;have hLs2:=M2.at hLs1 nLs;have d2:=cf (Mv.tupK hp1 M2) d1;have M2:=M1.trans M2;obtain ⟨n2,hp2⟩:=M2.2;refine ⟨_,rfl,p,n2,2,rfl,hp2,by decide,by decide,fun r3 H3 a3 c3 M3=>⟨rfl,_,rfl,?_⟩⟩;have hLs3:=M3.at hLs2 nLs;have d3:=cf (Mv.tupK hp2 M3) d2;have M3:=M2.trans M3;obtain ⟨n3,hp3⟩:=M3.2;have ht3:=Mv.tupK hp M3 _ _ htq;clear hLs1 hLs2 d1 d2 M1 M2 hp1 hp2;have mk:∀ s g:Int,0≤s→s<ts.length→0≤g→g<ts.length→s≠g→∀ (l r4:Int),0≤l→l<b→0≤r4→r4<5→SnOk b ts.length ⟨s,g,l,l+wd,r4⟩:=fun s g s0 s1 g0 g1 sg l r4 l0 l1 r40 r41=>⟨s0,s1,g0,g1,sg,l0,by show l≤l+wd;lia,by show l+wd<l+b;lia,by show l+wd<10 ^ 60;lia,r40,by show r4≤_;lia⟩
  refine ite2 (fun _=>?_) (fun _=>?_)
  ·refine ⟨_,rfl,_,rfl,tq,_,_,_,rfl,rfl,SqT.of ht3,mq oth0 oth1,_,rfl,_,rfl,tq,_,_,_,rfl,rfl,SqT.of ht3,mq one0 one1,_,_,rfl,rfl,_,rfl,_,_,rfl,rfl,_,rfl,_,_,rfl,rfl,(by show (0:Int)<b;lia),?_⟩
   obtain ⟨l,el⟩:∃ l,l=(tm ts oth - tm ts one - ov) % b:=⟨_,rfl⟩;have l0:0≤l:=by rw [el];exact cR _ (by lia)
   have l1:l<b:=by rw [el];exact cL _ (by lia)
   show oH 12 (V.int ((tm ts oth - tm ts one - ov) % b)) _ _ _;rw [←el];refine ⟨_,rfl,.inl ⟨rfl,_,SqL.of hLs3⟩,_,rfl,_,rfl,_,rfl,_,rfl,_,rfl,_,_,rfl,rfl,_,rfl,p,n3,5,rfl,hp3,by decide,by decide,fun r4 H4 a4 c4 M4=>⟨szZ5,fun t ht=>?_⟩⟩;have hLs4:=M4.at hLs3 nLs;have d4:=cf (Mv.tupK hp3 M4) d3;have M4:=M3.trans M4;have c4:r4<5:=c4;have ntp:=M4.ne ht;have ntL:=bf hLs4 ht;have K5:TupK H4 (upd H4 t (.tup [.int one,.int oth,.int l,.int (l+wd),.int r4])):=fun q xs e=>by rw [br (bf e ht)];exact e
   have M5:=M4.new (o:= .tup [.int one,.int oth,.int l,.int (l+wd),.int r4]) ht;have h5:(upd H4 t (.tup [.int one,.int oth,.int l,.int (l+wd),.int r4])) t=some (.tup [.int one,.int oth,.int l,.int (l+wd),.int r4]):=aS;have hLs5:(upd H4 t (.tup [.int one,.int oth,.int l,.int (l+wd),.int r4])) Ls=some (.lst ws):=by rw [br ntL];exact hLs4
   have d5:=cf K5 d4;refine ⟨Ls,ws,_,rfl,rfl,hLs5,(aR (by lia:ws.length<1000) (by decide:1000≤bq)),?_⟩;have KC:TupK _ (upd (upd H4 t (.tup [.int one,.int oth,.int l,.int (l+wd),.int r4])) Ls (.lst (ws++[.ref t]))):=fb hLs5;refine ⟨_,rfl,_,rfl,_,_,rfl,rfl,?_⟩;refine ⟨⟨fun q o nq e=>?_,?_⟩,room - wd,i3+ov,_,_,_,_,_,_,ws++[.ref t],zs++[⟨one,oth,l,l+wd,r4⟩],rfl,aS,?_,?_⟩
   ·rw [br (fun z=>by rw [z,hLsH] at e;cases e)]
    exact M5.1 q o nq e
   ·obtain ⟨n5,hp5⟩:=M5.2
    exact ⟨n5,by rw [br (bX nLs)];exact hp5⟩
   ·unfold dI
    rw [ay];exact (cf KC d5).append (.cons (.tup (KC _ _ h5) (IsDs.ints (Sn.row ⟨one,oth,l,l+wd,r4⟩))) .nil)
   ·exact RE.on b1 (mk one oth one0 one1 oth0 oth1 ne l r4 l0 l1 a4 c4) eone eoth el (by show l+wd - l=wd;lia) wd1 wd2 a2 (by lia)
  ·refine ⟨_,rfl,_,rfl,tq,_,_,_,rfl,rfl,SqT.of ht3,mq one0 one1,_,rfl,_,rfl,tq,_,_,_,rfl,rfl,SqT.of ht3,mq oth0 oth1,_,_,rfl,rfl,_,rfl,_,_,rfl,rfl,_,rfl,_,_,rfl,rfl,(by show (0:Int)<b;lia),?_⟩
   obtain ⟨l,el⟩:∃ l,l=(tm ts one - tm ts oth - ov) % b:=⟨_,rfl⟩;have l0:0≤l:=by rw [el];exact cR _ (by lia)
   have l1:l<b:=by rw [el];exact cL _ (by lia)
   show oH 12 (V.int ((tm ts one - tm ts oth - ov) % b)) _ _ _;rw [←el];refine ⟨_,rfl,.inl ⟨rfl,_,SqL.of hLs3⟩,_,rfl,_,rfl,_,rfl,_,rfl,_,rfl,_,_,rfl,rfl,_,rfl,p,n3,5,rfl,hp3,by decide,by decide,fun r4 H4 a4 c4 M4=>⟨szZ5,fun t ht=>?_⟩⟩;have hLs4:=M4.at hLs3 nLs;have d4:=cf (Mv.tupK hp3 M4) d3;have M4:=M3.trans M4;have c4:r4<5:=c4;have ntp:=M4.ne ht;have ntL:=bf hLs4 ht;have K5:TupK H4 (upd H4 t (.tup [.int oth,.int one,.int l,.int (l+wd),.int r4])):=fun q xs e=>by rw [br (bf e ht)];exact e
   have M5:=M4.new (o:= .tup [.int oth,.int one,.int l,.int (l+wd),.int r4]) ht;have h5:(upd H4 t (.tup [.int oth,.int one,.int l,.int (l+wd),.int r4])) t=some (.tup [.int oth,.int one,.int l,.int (l+wd),.int r4]):=aS;have hLs5:(upd H4 t (.tup [.int oth,.int one,.int l,.int (l+wd),.int r4])) Ls=some (.lst ws):=by rw [br ntL];exact hLs4
   have d5:=cf K5 d4;refine ⟨Ls,ws,_,rfl,rfl,hLs5,(aR (by lia:ws.length<1000) (by decide:1000≤bq)),?_⟩;have KC:TupK _ (upd (upd H4 t (.tup [.int oth,.int one,.int l,.int (l+wd),.int r4])) Ls (.lst (ws++[.ref t]))):=fb hLs5;refine ⟨_,rfl,_,rfl,_,_,rfl,rfl,_,rfl,_,_,rfl,rfl,?_⟩;refine ⟨⟨fun q o nq e=>?_,?_⟩,room - wd,i3+wd - ov,_,_,_,_,_,_,ws++[.ref t],zs++[⟨oth,one,l,l+wd,r4⟩],rfl,aS,?_,?_⟩
   ·rw [br (fun z=>by rw [z,hLsH] at e;cases e)]
    exact M5.1 q o nq e
   ·obtain ⟨n5,hp5⟩:=M5.2
    exact ⟨n5,by rw [br (bX nLs)];exact hp5⟩
   ·unfold dI
    rw [ay];exact (cf KC d5).append (.cons (.tup (KC _ _ h5) (IsDs.ints (Sn.row ⟨oth,one,l,l+wd,r4⟩))) .nil)
   ·exact RE.back b1 (mk oth one oth0 oth1 one0 one1 (bX ne) l r4 l0 l1 a4 c4) eone eoth el (by show l+wd - l=wd;lia) wd1 wd2 a2 (by lia)
 ·rintro σ HE ⟨ME,room,i3,v7,v8,v9,v10,v11,v12,ws,zs,rfl,hLsE,dE,RE⟩
  have r0:=RE.r0;have lz:zs.length=hops.length - 1:=RE.len;have lw:ws.length=zs.length:=by rw [dE.length];unfold dI;rw [aa]
  obtain ⟨lst,elst⟩:∃ lst,lst=tm hops (hops.length - 1:Nat):=⟨_,rfl⟩;obtain ⟨fst,efst⟩:∃ fst,fst=tm hops 0:=⟨_,rfl⟩;have o1:atI (hops.map V.int) 0=some (V.int fst):=by rw [efst];exact at_hop 0 (by lia)
  have o2:atI (hops.map V.int) (-1)=some (V.int lst):=HN.atI_last (by rw [hl,az,tm_get (by lia),elst];rfl);obtain ⟨f0,f1⟩:0≤fst∧fst<ts.length:=by rw [efst];exact hop_in 0 (by lia)
  obtain ⟨q0,q1⟩:0≤lst∧lst<ts.length:=by rw [elst];exact hop_in _ (by lia)
  have ne:lst≠fst:=by
   rw [elst,efst];exact fun z=>rd (tm_inj hnd (i:=hops.length - 1) (j:=0) (by lia) (by lia) z) (by lia)
  obtain ⟨nE,hpE⟩:=ME.2;refine ⟨_,rfl,p,nE,2,rfl,hpE,by decide,by decide,fun r1 H1 a1 c1 M1=>⟨_,rfl,_,_,rfl,?_⟩⟩;have hLs1:=M1.at hLsE nLs;have d1:=cf (Mv.tupK hpE M1) dE;have M1:=ME.trans M1;have c1:r1<2:=c1;obtain ⟨wd,hwd,wd0,wd1,wd2⟩:∃ wd,wd=(if room<r1 then room else r1)∧0≤wd∧wd≤1∧wd≤room:=⟨_,rfl,by split <;> lia,by split <;> lia,by split <;> lia⟩;rw [←hwd];clear hwd;obtain ⟨n1,hp1⟩:=M1.2;have hL1:=M1.at hL nLp;have ht1:=Mv.tupK hp M1 _ _ htq;refine ⟨_,rfl,_,rfl,L,_,_,_,rfl,rfl,SqL.of hL1,o1,tq,_,_,_,rfl,rfl,SqT.of ht1,mq f0 f1,_,rfl,_,rfl,_,rfl,L,_,_,_,rfl,rfl,SqL.of hL1,o2,tq,_,_,_,rfl,rfl,SqT.of ht1,mq q0 q1,_,_,rfl,rfl,_,rfl,_,_,rfl,rfl,_,_,rfl,rfl,_,rfl,_,rfl,_,rfl,_,_,rfl,rfl,_,_,rfl,rfl,p,n1,_,rfl,hp1,by show 0<room - wd+1;lia,by show room - wd+1<10 ^ 61;have:=RE.rb;lia,fun r H2 a2 c2 M2=>⟨_,_,rfl,rfl,?_⟩⟩;have c2:r<room - wd+1:=c2;have hLs2:=M2.at hLs1 nLs;have d2:=cf (Mv.tupK hp1 M2) d1;have M2:=M1.trans M2;obtain ⟨n2,hp2⟩:=M2.2;refine ⟨_,rfl,_,rfl,_,_,rfl,rfl,(by show (0:Int)<b;lia),?_⟩;refine ⟨_,rfl,p,n2,2,rfl,hp2,by decide,by decide,fun r3 H3 a3 c3 M3=>⟨rfl,_,rfl,?_⟩⟩;have hLs3:=M3.at hLs2 nLs;have d3:=cf (Mv.tupK hp2 M3) d2;have M3:=M2.trans M3;obtain ⟨n3,hp3⟩:=M3.2;have hL3:=M3.at hL nLp;clear hLs1 hLs2 d1 d2 M1 M2 hp1 hp2 hL1 ht1 hLsE dE ME hpE;have mk:∀ s g:Int,0≤s→s<ts.length→0≤g→g<ts.length→s≠g→∀ (l r4:Int),0≤l→l<b→0≤r4→r4<5→SnOk b ts.length ⟨s,g,l,l+wd,r4⟩:=fun s g s0 s1 g0 g1 sg l r4 l0 l1 r40 r41=>⟨s0,s1,g0,g1,sg,l0,by show l≤l+wd;lia,by show l+wd<l+b;have:=RE.rb;lia,by show l+wd<10 ^ 60;lia,r40,by show r4≤_;lia⟩
  have fin:∀ (x:Sn) (r4:Int) (H4:Hp),Mv p H3 H4→SnOk b ts.length x→x.o - x.l≤1→(∀ t,(∀ y∈zs,kB b t y)→kB b t x→False)→∀ t,H4 t=none→∀ q,(upd H4 t (.tup [.int x.s,.int x.g,.int x.l,.int x.o,.int x.w])) q=none→rCat (.ref Ls) (.ref q) (upd (upd H4 t (.tup [.int x.s,.int x.g,.int x.l,.int x.o,.int x.w])) q (.lst [.ref t])) Q:=by
   intro x r4 H4 M4 ok nar dead t ht q hq;have hLs4:=M4.at hLs3 nLs;have d4:=cf (Mv.tupK hp3 M4) d3;have M4:=M3.trans M4;have M5:=M4.new (o:= .tup [.int x.s,.int x.g,.int x.l,.int x.o,.int x.w]) ht;have K5:TupK H4 (upd H4 t (.tup [.int x.s,.int x.g,.int x.l,.int x.o,.int x.w])):=fun q xs e=>by rw [br (bf e ht)];exact e
   have h5:(upd H4 t (.tup [.int x.s,.int x.g,.int x.l,.int x.o,.int x.w])) t=some (.tup [.int x.s,.int x.g,.int x.l,.int x.o,.int x.w]):=aS;have hLs5:(upd H4 t (.tup [.int x.s,.int x.g,.int x.l,.int x.o,.int x.w])) Ls=some (.lst ws):=by rw [br (bf hLs4 ht)];exact hLs4
   have d5:=cf K5 d4;generalize upd H4 t (.tup [.int x.s,.int x.g,.int x.l,.int x.o,.int x.w])=H5 at M5 K5 h5 hLs5 d5 hq ⊢;have M6:Mv p H (upd H5 q (.lst [.ref t])):=M5.new hq;have K6:TupK H5 (upd H5 q (.lst [.ref t])):=fun q' xs e=>by rw [br (bf e hq)];exact e
   refine ⟨Ls,q,ws,[.ref t],rfl,rfl,by rw [br (bf hLs5 hq)];exact hLs5,aS,bo (by show ws.length+1≤1000;lia) (by decide:1000≤bq),fun R hR=>?_⟩;have K7:TupK (upd H5 q (.lst [.ref t])) (upd (upd H5 q (.lst [.ref t])) R (.lst (ws++[.ref t]))):=fun q' xs e=>by rw [br (bf e hR)];exact e
   have hRH:H R=none:=by
    cases z:H R with
    | none=>rfl
    | some o=>rw [M6.1 R o (M6.ne hR) z] at hR;cases hR
   refine k R (ws++[.ref t]) zs x _ (M6.new hR) hRH aS ?_ (by lia) (fun y hy=>?_) RE.fit (fun t' h'=>?_)
   ·unfold dI
    rw [ay];exact (cf (K6.trans K7) d5).append (.cons (.tup (K7 _ _ (K6 _ _ h5)) (IsDs.ints x.row)) .nil)
   ·rcases k6 hy with hy | rfl
    ·exact ⟨RE.all y hy,RE.nar y hy⟩
    ·exact ⟨ok,nar⟩
   ·exact dead t' (fun y hy=>h' y (aM _ hy)) (h' x (by simp))
  refine ite2 (fun _=>?_) (fun _=>?_)
  ·refine ⟨_,rfl,_,rfl,_,rfl,L,_,_,_,rfl,rfl,SqL.of hL3,o2,_,rfl,L,_,_,_,rfl,rfl,SqL.of hL3,o1,_,rfl,_,rfl,_,rfl,_,_,rfl,rfl,_,rfl,p,n3,5,rfl,hp3,by decide,by decide,fun r4 H4 a4 c4 M4=>⟨szZ5,fun t ht=>⟨szZ1,fun q hq=>?_⟩⟩⟩
   have c4:r4<5:=c4;exact fin ⟨lst,fst,(tm ts fst - tm ts lst+i3+1+r) % b,(tm ts fst - tm ts lst+i3+1+r) % b+wd,r4⟩ r4 H4 M4 (mk lst fst q0 q1 f0 f1 ne _ r4 (cR _ (by lia)) (cL _ (by lia)) a4 c4) (by show (tm ts fst - tm ts lst+i3+1+r) % b+wd - (tm ts fst - tm ts lst+i3+1+r) % b≤1;lia)
    (fun t' hz hx=>RE.dead_on (wd:=wd) (r:=r) b1 elst efst rfl (by show (tm ts fst - tm ts lst+i3+1+r) % b+wd - (tm ts fst - tm ts lst+i3+1+r) % b=wd;lia) a2 (by lia) hz hx) t ht q hq
  ·refine ⟨_,rfl,_,_,rfl,rfl,_,rfl,_,_,rfl,rfl,_,rfl,_,_,rfl,rfl,(by show (0:Int)<b;lia),?_⟩
   refine ⟨_,rfl,_,rfl,L,_,_,_,rfl,rfl,SqL.of hL3,o1,_,rfl,_,rfl,L,_,_,_,rfl,rfl,SqL.of hL3,o2,_,rfl,_,rfl,_,rfl,_,_,rfl,rfl,_,rfl,p,n3,5,rfl,hp3,by decide,by decide,fun r4 H4 a4 c4 M4=>⟨szZ5,fun t ht=>⟨szZ1,fun q hq=>?_⟩⟩⟩;have c4:r4<5:=c4;exact fin ⟨fst,lst,(0 - (tm ts fst - tm ts lst+i3+1+r) - wd) % b,(0 - (tm ts fst - tm ts lst+i3+1+r) - wd) % b+wd,r4⟩ r4 H4 M4 (mk fst lst f0 f1 q0 q1 (bX ne) _ r4 (cR _ (by lia)) (cL _ (by lia)) a4 c4) (by show (0 - (tm ts fst - tm ts lst+i3+1+r) - wd) % b+wd - (0 - (tm ts fst - tm ts lst+i3+1+r) - wd) % b≤1;lia)
    (fun t' hz hx=>RE.dead_back (wd:=wd) (r:=r) b1 elst efst rfl (by show (0 - (tm ts fst - tm ts lst+i3+1+r) - wd) % b+wd - (0 - (tm ts fst - tm ts lst+i3+1+r) - wd) % b=wd;lia) a2 (by lia) hz hx) t ht q hq
inductive spDeadN (K:ak)(vs:List V)(H:Hp)(Q:VK)(_:XK):Prop
 | mk (a tq:ao)(ns:List Int)(v:V)(b:Int)(mn:Nat)(sp:List Sn)(ts:List Int)(_:vs=[.ref a,v,.ref tq])(_:SqL K H a (ns.map V.int))(_:IsD H v (ka b mn sp))(_:NetT b mn sp)(_:2≤b)(_:b≤10 ^ 40)(_:2≤mn)(_:mn≤5)(_:H tq=some (.tup (ts.map V.int)))(_:ts.length=mn)(_:sp.length≤30)(_:∀ (q:ao) (va vw:V) (zs sa sw:List Sn) (x:Sn) (H':Hp),Same H H'→H' q=some (.tup [va,vw])→IsD H' va (ka b mn sa)→IsD H' vw (ka b mn sw)→sa.length≤33→sw.length≤34→(∀ y,y∈sa↔y∈sp∨y∈zs)→(∀ y,y∈sw↔y∈sp∨y∈zs++[x])→(∀ y∈zs++[x],SnOk b mn y∧y.o - y.l≤1)→(∀ y∈zs,kB b ts y)→(∀ t,(∀ y∈zs++[x],kB b t y)→False)→Q (.ref q) H')
theorem lenND (K:ak)(hK:X.K=K:=by rfl):CallR X (.builtin "len") (fun xs H Q=>∃ p ys,xs=[.ref p]∧(SqL K H p ys∨SqT K H p ys)∧Q (.int ys.length) H):=by subst hK;exact cg
theorem toK (K:ak){ex:Expr}{r:V→List V→Hp→VK→Prop}{Ty:String}(h:PE X ex (tBM X.K Ty r to t))(hK:X.K=K:=by rfl):PE X ex (tBM K Ty r to t):=by subst hK;exact h
theorem cut_last (xs:List V)(x:V):cutV (xs++[x]) none (some (-1))=xs:=by
 unfold cutV;have:HT.sIx (xs++[x]).length (xs++[x]).length (some (-1))=xs.length:=by
  rw [av];unfold HT.sIx;simp;lia
 rw [this];show ((xs++[x]).drop 0).take (xs.length - 0)=xs;rw [List.drop_zero,Nat.sub_zero,List.take_left]
theorem mem_put {z y:Sn}(n:Nat):y∈sx.take n++z::sx.drop n↔y=z∨y∈sx:=by
 have e:y∈sx↔y∈sx.take n∨y∈sx.drop n:=by rw [←aN,jK]
 rw [e,aN,aG]
 constructor
 ·rintro (h | h | h)
  ·exact .inr (.inl h)
  ·exact .inl h
  ·exact .inr (.inr h)
 ·rintro (h | h | h)
  ·exact .inr (.inl h)
  ·exact .inl h
  ·exact .inr (.inr h)
abbrev sDeadN:cV:=top 67
theorem j6:cp ["_law_script","_law_net_here","_law_times","_law_beat","_law_many","_law_spans","_law_pot_here","_law_left","_law_hops","_law_some","_law_rows","_law_span_here","_law_ahead"] pzB (defScope sDeadN):=by trivial
theorem ok_deadN (F:Fun K "_law_dead" "_law_dead" sDeadN f fd)(T:Nm mg)(T2:Nt mg)(G1:Fn K mg "_law_take" sTake pzd f1 fd1)
  (G2:Fn K mg "_law_pot" sPotT pze f2 fd2) (F2:dv P w K mg base CX0 2 f2 fd2 pze (spPotT K))
  (G3:Fn K mg "_law_ring_spans" sRingSp pzA f3 fd3) (F3:dv P w K mg base CX0 2 f3 fd3 pzA spRingS):dv P w K mg base CX0 3 f fd pzB (spDeadN K):=by
 have F1:dv P w K mg base CX0 1 f1 fd1 pzd pj:=oh G1.F;refine F.ok j6 (by contradiction) (fun cdv A outer st0 H vs Q E hr h=>?_);obtain ⟨a,tq,ns,v,b,mn,sp,ts,rfl,ha,hv,N,b1,b2,m2,m5,htq,lt,few,k⟩:=h;have hr1:Room 1 _:=hr.mono (by decide);have hr3:=hr;refine ⟨_,PSl.h (aU ⟨(om (pv 1) (ng rfl (fJ (cY (i:=3) j6.nd rfl (.inl rfl)) (fJ (cY (i:=4) j6.nd rfl (.inl rfl)) (fJ (cY (i:=5) j6.nd rfl (.inl rfl)) k5)))))⟩
  (aU ⟨(bC (i:=6) j6.nd rfl (.inr rfl) (pc1 G2 F2 hr (ae (pv 0) (ae bg aB))))⟩
  (aU ⟨(bC (i:=7) j6.nd rfl (.inr rfl) (fG (qV rfl) rfl T2.tlist boot_list (ae (fG qh rfl T2.range boot_range (ae (pv 4) aB)) aB)))⟩
  (aU ⟨(pS (iy:=8) (fr:=["_law_left","_law_pot_here"]) (js:=[7,6]) j6.nd rfl (.inl rfl) rfl (iJ rfl T2.range (ae (b9 eh bg (pc1 G1 F1 hr1 (ae (pv 6) (ae (b9 gJ (cM (nP rfl) rfl T.min boot_min (ae (pv 4) (ae bg aB))) bg) aB)))) aB)) (by trivial) rfl (by trivial) rfl (by exists sDeadN) (by trivial) rfl (by trivial) (fun _ _ _ _ _=>⟨toK K (lH bp fv fu mt_popAt (pv 1) (ae (pc1 G1 F1 hr1 (ae (pv 2) (ae (cM (lenND K) rfl T.len bP (ae (pv 1) aB)) aB))) aB)),iH⟩))⟩
  (aU ⟨(bC (i:=9) j6.nd rfl (.inl rfl) (pc1 G3 F3 hr (ae (pv 6) (ae (pv 2) (ae (pv 3) (ae (pv 8) aB))))))⟩
  (aU ⟨(bC (i:=10) j6.nd rfl (.inl rfl) (fG call_list_of rfl T2.tlist boot_list (ae (pv 5) aB)))⟩
  (aU ⟨(iC bL rfl (jk (l9 sl_list  (pv 9) oa (nZ (oB lG bg)))) (cY (i:=11) j6.nd rfl (.inl rfl)) (cO (ik (lH bp iV kM p5 (pv 10) (ae (pc1 G1 F1 hr1 (ae (pv 6) (ae (b9 eh (cM cg rfl T.len bP (ae (pv 10) aB)) bg) aB))) (ae (pv 11) aB))))))⟩
  (aU ⟨(bC (i:=12) j6.nd rfl (.inl rfl) (d8 (ae (pv 3) (ae (pv 4) (ae (fG i9 rfl T.ttup i5 (ae (pv 10) aB)) aB)))))⟩
  (aU ⟨(ik (lH bp iV kM p5 (pv 10) (ae (pc1 G1 F1 hr1 (ae (pv 6) (ae (b9 eh (cM cg rfl T.len bP (ae (pv 10) aB)) bg) aB))) (ae (dN eE (pv 9) (oB lG bg) (fun _ _=>rfl)) aB))))⟩
  (dH ⟨(cx (d8 (ae (pv 12) (ae (d8 (ae (pv 3) (ae (pv 4) (ae (fG i9 rfl T.ttup i5 (ae (pv 10) aB)) aB)))) aB))))⟩)))))))))),?_⟩
 obtain ⟨tv,pq,ys,rfl,htv,hpq,dy⟩:=netP_rows hv;refine ⟨_,rfl,tv,_,rfl,SqT.of htv,rfl,_,_,rfl,_,_,rfl,_,_,rfl,rfl,?_⟩;refine ⟨_,rfl,a,ns,24,rfl,ha,by decide,by decide,fun n p hp=>?_⟩;have S0:Same H (upd H p (.lst [.int n])):=Same.put (Same.refl H) hp;have h0:(upd H p (.lst [.int n])) p=some (.lst [.int n]):=aS;generalize upd H p (.lst [.int n])=H0 at S0 h0 ⊢;refine ⟨_,rfl,mn,rfl,fun ra H1 S1 h1=>⟨ra,mn,rfl,h1,by lia,fun Lf hLf=>?_⟩⟩;have hp1:=S1 _ _ h0;have S1:=S0.trans S1;have hLfH:=S1.free hLf;have npL:p≠Lf:=bf hp1 hLf;have S2:Same H (upd H1 Lf (.lst ((aQ mn).map fun k=>V.int (k:Nat)))):=S1.put hLf;have h2p:(upd H1 Lf (.lst ((aQ mn).map fun k=>V.int (k:Nat)))) p=some (.lst [.int n]):=by rw [br npL];exact hp1
 have h2L:(upd H1 Lf (.lst ((aQ mn).map fun k=>V.int (k:Nat)))) Lf=some (.lst ((aQ mn).map fun k=>V.int (k:Nat))):=aS;generalize upd H1 Lf (.lst ((aQ mn).map fun k=>V.int (k:Nat)))=H2 at S2 h2p h2L ⊢;clear S1 h1 hp1 S0 h0 hLf;refine ⟨_,rfl,_,rfl,_,_,rfl,_,_,rfl,rfl,p,n,_,rfl,h2p,(by show 0<(if (4:Int)<(mn:Int) then (4:Int) else (mn:Int)) - 1;split <;> lia),(by show (if (4:Int)<(mn:Int) then (4:Int) else (mn:Int)) - 1<10 ^ 61;split <;> lia),fun r H3 a3 c3 M3=>⟨_,_,rfl,rfl,2+r,rfl,?_,?_,?_⟩⟩
 ·lia
 ·have c3:r<(if (4:Int)<(mn:Int) then (4:Int) else (mn:Int)) - 1:=c3
  split at c3 <;> lia
 have c3:r<(if (4:Int)<(mn:Int) then (4:Int) else (mn:Int)) - 1:=c3;have cm:2+r≤4∧2+r≤mn:=by split at c3 <;> lia
 clear c3;refine kJ (n:=(2+r).toNat) (fun i zs HA=>Same H HA∧(∃ n,HA p=some (.lst [.int n]))∧∃ hs lf:List Int,zs=hs.map V.int∧hs.length=i∧HA Lf=some (.lst (lf.map V.int))∧lf.length+i=mn∧(hs++lf).Nodup∧∀ x∈hs++lf,0≤x∧x<mn)
  ⟨Same.mv S2 hp M3,M3.2,[],(aQ mn).map (fun k:Nat=>(k:Int)),rfl,rfl,by rw [M3.at h2L (bX npL),dY];rfl,by rw [aa,bx];rfl,ints_nodup mn,fun x hx=>?_⟩ (fun i zs HA _ q=>by obtain ⟨_,_,hs,lf,e,hl,_⟩:=q;rw [e,aa,hl];exact aC _) (eG (by lia)) (fun i zs HA hi q=>?_) (fun zs HA q Lh hLh=>?_)
 ·obtain ⟨j,hj,rfl⟩:=bh.mp hx
  have:=bT.mp hj;lia
 ·obtain ⟨SA,⟨nA,hpA⟩,hs,lf,eA,lA,hLA,lfA,ndA,inA⟩:=q
  refine gQ ?_;have ll:(lf.map V.int).length=lf.length:=aa _;refine ⟨_,rfl,.inl ⟨rfl,_,SqL.of hLA⟩,_,rfl,_,rfl,Lf,_,rfl,.inl (SqL.of hLA),p,nA,_,rfl,hpA,(by show 0<((lf.map V.int).length:Int);lia),(by show ((lf.map V.int).length:Int)<10 ^ 61;lia),fun r4 HB a4 c4 MB=>?_⟩;have c4:r4<((lf.map V.int).length:Int):=c4;obtain ⟨y,hy⟩:∃ y,lf[r4.toNat]? =some y:=⟨_,gE (by lia)⟩;have hLB:=MB.at hLA (bX npL);refine ⟨Lf,lf.map V.int,r4,r4.toNat,V.int y,rfl,rfl,hLB,by lia,by lia,seqIndex_of a4 c4,by rw [az,hy];rfl,?_⟩;obtain ⟨nB,hpB⟩:=MB.2;have rk:r4.toNat<lf.length:=by lia
  refine ⟨fun q o e=>by rw [br (fun z=>by rw [z,hLfH] at e;cases e)];exact Same.mv SA hp MB q o e,⟨nB,by rw [br npL];exact hpB⟩,hs++[y],lf.eraseIdx r4.toNat,by rw [eA,ay];rfl,by rw [av,lA];rfl,?_,?_,(pop_perm hy).nodup_iff.mpr ndA,fun x hx=>inA x ((pop_perm hy).mem_iff.mp hx)⟩
  ·rw [aS,jI,jI,ay,jV,jW]
  ·rw [List.length_eraseIdx_of_lt rk]
   lia
 obtain ⟨SA,⟨nA,hpA⟩,hs,lf,rfl,lA,hLA,lfA,ndA,inA⟩:=q;have npH:p≠Lh:=bf hpA hLh;have hLhH:=SA.free hLh;have SB:Same H (upd HA Lh (.lst (hs.map V.int))):=SA.put hLh;have hpB:(upd HA Lh (.lst (hs.map V.int))) p=some (.lst [.int nA]):=by rw [br npH];exact hpA
 have hLB:(upd HA Lh (.lst (hs.map V.int))) Lh=some (.lst (hs.map V.int)):=aS;generalize upd HA Lh (.lst (hs.map V.int))=HB at SB hpB hLB ⊢;clear SA hpA hLA hLh M3 S2 h2p h2L;refine ⟨_,rfl,_,rfl,_,rfl,_,rfl,p,tq,Lh,nA,b,ts,hs,rfl,hpB,SB _ _ htq,hLB,bX npH,b1,b2,by lia,by lia,by lia,fun x hx=>by have:=inA x (aM _ hx);lia,(iB.mp ndA).1,fun R ws zs x HC MC hR hRC dC lz all fit dead=>?_⟩;have SC:Same H HC:=Same.mv SB hp MC;have nRp:R≠p:=fun z=>by rw [z,hpB] at hR;cases hR
 obtain ⟨w1,wx,rfl,d1,dx⟩:=IsDs.snocD (by unfold dI at dC;rw [ay] at dC;exact dC);refine ⟨_,rfl,pq,ys,rfl,.inr (SqT.of (SC _ _ hpq)),fun Lr hLr=>?_⟩;have nRr:R≠Lr:=bf hRC hLr;obtain ⟨nC,hpC⟩:=MC.2;have npr:p≠Lr:=bf hpC hLr;have hLrH:=SC.free hLr;have KD:TupK HC (upd HC Lr (.lst ys)):=fun q xs e=>by rw [br (bf e hLr)];exact e
 have SD:Same H (upd HC Lr (.lst ys)):=SC.put hLr;have hpD:(upd HC Lr (.lst ys)) p=some (.lst [.int nC]):=by rw [br npr];exact hpC
 have hRD:(upd HC Lr (.lst ys)) R=some (.lst (w1++[wx])):=by rw [br nRr];exact hRC
 have hrD:(upd HC Lr (.lst ys)) Lr=some (.lst ys):=aS;have dyD:=cf KD (IsDs.same SC dy);have d1D:=cf KD d1;generalize upd HC Lr (.lst ys)=HD at SD hpD hRD hrD dyD d1D KD ⊢;refine ⟨_,rfl,_,rfl,_,rfl,R,_,rfl,SqL.of hRD,fun Lz hLz=>⟨Lz,rfl,⟨_,SqL.of aS⟩,?_⟩⟩;have npz:p≠Lz:=bf hpD hLz;have nRz:R≠Lz:=bf hRD hLz;have nrz:Lr≠Lz:=bf hrD hLz;rw [show cutV (w1++[wx]) none (some (-1))=w1 from cut_last w1 wx];have SE:Same HD (upd HD Lz (.lst w1)):=(Same.refl HD).put hLz;have hE:(upd HD Lz (.lst w1)) Lz=some (.lst w1):=aS;generalize upd HD Lz (.lst w1)=HE at SE hE ⊢;have lw1:w1.length=zs.length:=by rw [d1.length,aa]
 have dxD:IsD HD wx (.tup (x.row.map .int)):=by
  have:=cf (f:=Sn.row) (xs:=[x]) KD (show IsDs HC [wx] (dI Sn.row [x]) from IsDs.one dx);cases this with | cons h _=>exact h
 refine lh (K:=K) (a:=Lz) (xs:=w1) (fun j σ H'=>Same H H'∧TupK HE H'∧(∃ n,H' p=some (.lst [.int n]))∧H' Lz=some (.lst w1)∧H' R=some (.lst (w1++[wx]))∧∃ (v11:Option V) (vs:List V) (sx:List Sn),σ=[some (.ref a),some (.ref tv),some (.ref tq),some (.int b),some (.int mn),some (.ref pq),some (.ref p),some (.ref Lf),some (.ref Lh),some (.ref R),some (.ref Lr),v11,none]∧H' Lr=some (.lst vs)∧IsDs H' vs (dI Sn.row sx)∧sx.length=sp.length+j∧∀ y,y∈sx↔y∈sp∨y∈zs.take j)
  ⟨SD.trans SE,fun _ _ h=>h,⟨nC,SE _ _ hpD⟩,hE,SE _ _ hRD,none,ys,sp,rfl,SE _ _ hrD,IsDs.same SE dyD,rfl,fun y=>by rw [List.take_zero];simp⟩ (fun j σ H' _ q=>by obtain ⟨_,_,_,h,_⟩:=q;exact SqL.of h) ?_ ?_
 ·rintro j wz σ HF hj ⟨SF,KF,⟨nF,hpF⟩,hzF,hRF,v11,vs,sx,rfl,hrF,dF,lF,mF⟩
  have lv:vs.length=sx.length:=by rw [dF.length];unfold dI;rw [aa]
  have jl:j<zs.length:=by have:=(aq.mp hj).1;lia
  obtain ⟨d,hd,dz⟩:=IsDs.get (cf KF (IsDs.same SE d1D)) hj;obtain ⟨z,hz,rfl⟩:∃ z,zs[j]? =some z∧d=Dt.tup (z.row.map Dt.int):=by
   unfold dI at hd;rw [az] at hd;cases e:zs[j]? with
   | none=>rw [e] at hd;cases hd
   | some z=>rw [e] at hd;exact ⟨z,rfl,by cases hd;rfl⟩
  refine ⟨_,rfl,.inl ⟨rfl,_,SqL.of hrF⟩,_,rfl,_,rfl,Lr,_,rfl,.inl (SqL.of hrF),_,_,rfl,rfl,p,nF,_,rfl,hpF,(by show 0<(vs.length:Int)+1;lia),(by show (vs.length:Int)+1<10 ^ 61;lia),fun r HG ra rc MG=>⟨_,rfl,Lr,vs,r,wz,rfl,rfl,MG.at hrF (bX npr),by lia,ra,?_,?_⟩⟩
  ·have rc:r<(vs.length:Int)+1:=rc
   lia
  have hrG:=MG.at hrF (bX npr);have K2:TupK HF HG:=Mv.tupK hpF MG;have KI:TupK HG (upd HG Lr (.lst (vs.take r.toNat++wz::vs.drop r.toNat))):=fb hrG;obtain ⟨nG,hpG⟩:=MG.2;refine ⟨fun q o e=>?_,KF.trans (K2.trans KI),⟨nG,by rw [br npr];exact hpG⟩,by rw [br (bX nrz)];exact MG.at hzF (bX npz),by rw [br nRr];exact MG.at hRF nRp,_,_,sx.take r.toNat++z::sx.drop r.toNat,rfl,aS,?_,?_,fun y=>?_⟩
  ·rw [br (fun z=>by rw [z,hLrH] at e;cases e)]
   exact Same.mv SF hp MG q o e
  ·have d2:=cf (K2.trans KI) dF
   have dz2:=cf (f:=Sn.row) (xs:=[z]) (K2.trans KI) (show IsDs HF [wz] (dI Sn.row [z]) from IsDs.one dz);unfold dI at d2 dz2 ⊢;rw [ay,cj,jV,jW];exact (IsDs.take _ d2).append (IsDs.append dz2 (IsDs.drop _ d2))
  ·rw [av,aX,bG,dW]
   lia
  ·rw [mem_put,mF,List.take_succ,hz,aN]
   show y=z∨y∈sp∨y∈zs.take j↔y∈sp∨y∈zs.take j∨y∈[z];rw [ax]
   constructor
   ·rintro (h | h | h)
    ·exact .inr (.inr h)
    ·exact .inl h
    ·exact .inr (.inl h)
   ·rintro (h | h | h)
    ·exact .inr (.inl h)
    ·exact .inr (.inr h)
    ·exact .inl h
 ·rintro σ HF ⟨SF,KF,⟨nF,hpF⟩,hzF,hRF,v11,vs,sx,rfl,hrF,dF,lF,mF⟩
  rw [lw1,bc] at mF;have lv:vs.length=sx.length:=by rw [dF.length];unfold dI;rw [aa]
  refine ⟨_,rfl,_,rfl,_,rfl,Lr,_,rfl,SqL.of hrF,fun qB HB SB hB=>⟨(by show 3≤bq;decide),fun tC HG SG hG=>?_⟩⟩;have hB:=SG _ _ hB;have SG:=SB.trans SG;have hrG:=SG _ _ hrF;have hpG:=SG _ _ hpF;have hRG:=SG _ _ hRF;have dG:=IsDs.same SG dF;have va:IsD HG (.ref tC) (ka b mn sx):= .tup hG (.cons (.int b) (.cons (.int _) (.cons (.tup hB dG) .nil)));have ol:atI (w1++[wx]) (-1)=some wx:=L2.atI_last w1 wx;refine ⟨_,rfl,.inl ⟨rfl,_,SqL.of hrG⟩,_,rfl,_,rfl,Lr,_,rfl,.inl (SqL.of hrG),_,_,rfl,rfl,p,nF,_,rfl,hpG,(by show 0<(vs.length:Int)+1;lia),(by show (vs.length:Int)+1<10 ^ 61;lia),fun r HI ra rc MI=>⟨_,rfl,_,rfl,R,_,_,_,rfl,rfl,SqL.of (MI.at hRG nRp),ol,Lr,vs,r,wx,rfl,rfl,MI.at hrG (bX npr),by lia,ra,?_,?_⟩⟩
  ·have rc:r<(vs.length:Int)+1:=rc
   lia
  have hrI:=MI.at hrG (bX npr);have KI:TupK HG HI:=Mv.tupK hpG MI;have KJ:TupK HI (upd HI Lr (.lst (vs.take r.toNat++wx::vs.drop r.toNat))):=fb hrI;have SJ:Same H (upd HI Lr (.lst (vs.take r.toNat++wx::vs.drop r.toNat))):=fun q o e=>by
   rw [br (fun z=>by rw [z,hLrH] at e;cases e)];exact Same.mv (SF.trans SG) hp MI q o e
  have hrJ:(upd HI Lr (.lst (vs.take r.toNat++wx::vs.drop r.toNat))) Lr=some (.lst (vs.take r.toNat++wx::vs.drop r.toNat)):=aS;have dJ:IsDs (upd HI Lr (.lst (vs.take r.toNat++wx::vs.drop r.toNat))) (vs.take r.toNat++wx::vs.drop r.toNat) (dI Sn.row (sx.take r.toNat++x::sx.drop r.toNat)):=by
   have d2:=cf (KI.trans KJ) dG;have dz2:=cf (f:=Sn.row) (xs:=[x]) (KI.trans KJ) (show IsDs HG [wx] (dI Sn.row [x]) from IsDs.same SG (cf (f:=Sn.row) (xs:=[x]) KF (IsDs.same SE (IsDs.one dxD))));unfold dI at d2 dz2 ⊢;rw [ay,cj,jV,jW];exact (IsDs.take _ d2).append (IsDs.append dz2 (IsDs.drop _ d2))
  have vaJ:=cB (KI.trans KJ) va;generalize upd HI Lr (.lst (vs.take r.toNat++wx::vs.drop r.toNat))=HJ at SJ hrJ dJ vaJ ⊢;refine ⟨_,rfl,_,rfl,_,rfl,_,rfl,Lr,_,rfl,SqL.of hrJ,fun qK HK SK hK=>⟨(by show 3≤bq;decide),fun tL HL SL hL=>⟨mU,fun tM HM SM hM=>?_⟩⟩⟩;have SX:=SK.trans (SL.trans SM);refine k tM (.ref tC) (.ref tL) zs sx (sx.take r.toNat++x::sx.drop r.toNat) x HM (SJ.trans SX) hM (IsD.same SX vaJ) (.tup (SM _ _ hL) (.cons (.int b) (.cons (.int _) (.cons (.tup (SM _ _ (SL _ _ hK)) (dJ.same SX)) .nil)))) (by lia) (by rw [av,aX,bG,dW];lia) mF (fun y=>?_) (fun y hy=>by rw [←lt];exact all y hy) fit dead;rw [mem_put,mF,aN,ax]
  constructor
  ·rintro (h | h | h)
   ·exact .inr (.inr h)
   ·exact .inl h
   ·exact .inr (.inl h)
  ·rintro (h | h | h)
   ·exact .inr (.inl h)
   ·exact .inr (.inr h)
   ·exact .inl h
abbrev sWaitsN:cV:=top 55
theorem scWaitsN:cp pzg pzg (defScope sWaitsN):=by trivial
theorem ok_waitsN (F:Fun K "_law_waits" "_law_waits" sWaitsN f fd):dv P w K mg base CX0 1 f fd pzg spWaitsN:=by
 refine F.ok scWaitsN (by contradiction) (fun cdv A outer s H vs Q E hr h=>?_);obtain ⟨v,u,b,m,sp,ts,rfl,hv,hu,R,k⟩:=h;obtain ⟨t,p,ys,rfl,ht,hp,hl,hy⟩:=fR hv;have few:=R.few;refine ⟨_,PSl.h (dH ⟨(cx (i7 (fr:=pzg) (js:=[0,1]) rfl (j8 (ixZ (pv 0))) (by trivial) rfl (by trivial) rfl (by exists sWaitsN) (by trivial) rfl (by trivial) (fun _ _ _ _ _=>⟨(b9 jM (b9 gJ (b9 gJ (dN (r:=oU K) dQ (pv 2) (dN (r:=oU K) dQ (pv 0) bg (fun _ _=>rfl)) (fun _ _=>rfl)) (dN (r:=oU K) dQ (pv 2) (dN (r:=oU K) dQ (pv 0) bg (fun _ _=>rfl)) (fun _ _=>rfl))) (dN (r:=oU K) dQ (pv 0) bg (fun _ _=>rfl))) (dN (r:=oU K) dQ (pv 1) bg (fun _ _=>rfl))),iH⟩)))⟩),?_⟩;refine ⟨_,rfl,t,_,_,_,rfl,rfl,SqT.of ht,aJ (j:=2) rfl,p,rfl,⟨_,SqT.of hp⟩,?_⟩;refine lx (K:=K) (a:=p) (xs:=ys) (fun i zs H2=>H2=H∧zs=(ki b ts (sp.take i)).map V.int) ⟨rfl,rfl⟩ (fun i zs H2 hi ⟨e1,e2⟩=>?_) (by rw [hl];exact eG few) (fun i x zs H2 hx ⟨e1,e2⟩=>?_) (fun zs H2 ⟨e1,e2⟩ D hD=>?_)
 ·subst e1
  refine ⟨SqT.of hp,?_⟩;rw [e2];unfold ki;rw [aa,aa,bG];lia
 ·subst e1
  have hi:i<sp.length:=by rw [←hl];exact (aq.mp hx).1
  obtain ⟨q,hq,hq2⟩:=hy i sp[i] (gE hi);rw [hx] at hq;cases hq;obtain ⟨s0,s1,g0,g1⟩:=R.ends sp[i] (bH hi);refine gQ ?_;refine ⟨_,rfl,_,rfl,q,_,_,_,rfl,rfl,SqT.of hq2,aJ (j:=1) rfl,u,_,_,_,rfl,rfl,SqT.of hu,mq g0 g1,_,rfl,_,rfl,q,_,_,_,rfl,rfl,SqT.of hq2,aJ (j:=0) rfl,u,_,_,_,rfl,rfl,SqT.of hu,mq s0 s1,_,_,rfl,rfl,_,rfl,q,_,_,_,rfl,rfl,SqT.of hq2,aJ (j:=2) rfl,_,_,rfl,rfl,_,rfl,t,_,_,_,rfl,rfl,SqT.of ht,aJ (j:=0) rfl,_,_,rfl,rfl,R.b1,rfl,?_⟩;rw [e2,bj,gE hi];unfold ki;rw [ay,ay];rfl
 ·subst e1
  rw [hl,bc] at e2;rw [e2];exact k D _ (Same.put (Same.refl H2) hD) aS
abbrev sWaitN:cV:=top 57
theorem scWaitN:cp pzg pzg (defScope sWaitN):=by trivial
theorem ok_waitN (F:Fun K "_law_wait" "_law_wait" sWaitN f fd)(T2:Nt mg)(G1:Fn K mg "_law_waits" sWaitsN pzg f1 fd1):dv P w K mg base CX0 2 f fd pzg mY:=by
 have F1:dv P w K mg base CX0 1 f1 fd1 pzg spWaitsN:=ok_waitsN G1.F;refine F.ok scWaitN (by contradiction) (fun cdv A outer s H vs Q E hr h=>?_);obtain ⟨v,u,b,m,sp,ts,rfl,hv,hu,R,hw,k⟩:=h;obtain ⟨t,p,ys,rfl,ht,hp,hl,hy⟩:=fR hv;have few:=R.few;refine ⟨_,PSl.h (dH ⟨(cx (cM (call_sum rfl) rfl T2.sum boot_sum (ae (pe_compT (xs:=["_law_span_here","_law_wait_here"]) (fr:=[]) (js:=[]) rfl (pi_zip2 rfl T2.zip (ae (ixZ (pv 0)) (ae (pc1 G1 F1 hr (ae (pv 0) (ae (pv 1) aB))) aB))) (by trivial) rfl (by trivial) (by exists sWaitN) rfl (by trivial) (fun _ _ _ _ _=>pg_two rfl (by trivial) rfl rfl) (fun _ _ _ _ _=>⟨(b9 jA (dN (r:=oU K) dQ (pv 0) bg (fun _ _=>rfl)) (pv 1)),iH⟩)) aB)))⟩),?_⟩;refine ⟨_,rfl,t,_,_,_,rfl,rfl,SqT.of ht,aJ (j:=2) rfl,?_⟩;refine ⟨_,rfl,_,rfl,.ref t,u,b,m,sp,ts,rfl,hv,hu,R,fun L H1 S1 h1=>?_⟩;refine ⟨⟨false,p⟩,⟨true,L⟩,_,_,rfl,S1 _ _ hp,h1,?_⟩;refine qT (K:=K) (c1:=⟨false,p⟩) (c2:=⟨true,L⟩) (xs:=ys) (ys:=(ki b ts sp).map V.int) (fun i zs H2=>Same H1 H2∧zs=((sp.take i).map fun x=>x.w * fW b ts x).map V.int) ⟨Same.refl H1,rfl⟩ (fun i zs H2 hi ⟨S2,e2⟩=>⟨S2 _ _ (S1 _ _ hp),S2 _ _ h1,?_⟩) (by unfold ki;rw [aa,aa,hl]) (by rw [hl];exact eG few) (fun i x y zs pz H2 hx hx' ⟨S2,e2⟩ hpz=>?_) (fun zs H2 ⟨S2,e2⟩ D hD=>?_)
 ·rw [e2,aa,aa,bG];lia
 ·have hi:i<sp.length:=by rw [←hl];exact (aq.mp hx).1
  obtain ⟨q,hq,hq2⟩:=hy i sp[i] (gE hi);rw [hx] at hq;cases hq;unfold ki at hx';rw [az,az,gE hi] at hx';cases hx';have S3:Same H1 (upd H2 pz (.tup [.ref q,.int (fW b ts sp[i])])):=S2.put hpz;generalize upd H2 pz (.tup [.ref q,.int (fW b ts sp[i])])=H3 at S3 ⊢;have hq3:=S3 _ _ (S1 _ _ hq2);obtain ⟨w0,w1⟩:=hw sp[i] (bH hi);refine gQ ?_;refine ⟨_,rfl,q,_,_,_,rfl,rfl,SqT.of hq3,aJ (j:=4) rfl,_,rfl,_,_,rfl,rfl,.inl ⟨by lia,by lia⟩,S3,?_⟩;rw [e2,bj,gE hi,ay,ay];rfl
 ·refine ⟨D,_,rfl,SqL.of (by rw [e2];exact aS),?_⟩
  have e3:((sp.take ys.length).map fun x=>x.w * fW b ts x).sum=gq b ts sp:=by
   unfold gq;rw [hl,bc]
  rw [e3];exact k _ (S1.trans (S2.put hD))
abbrev sSum:cV:=top 9
abbrev sBeats:cV:=top 10
theorem scSum:cp ["bounds","way","low","high","step","bound"] pzC (defScope sSum):=by trivial
theorem ok_sum (F:Fun K "sum_of" "sum_of" sSum f fd):dv P w K mg base CX0 1 f fd pzC spSum:=by
 refine F.ok scSum (by contradiction) (fun cdv A outer s H vs Q E hr h=>?_);obtain ⟨vb,vw,bs,ws,rfl,hb,hw,hin,k⟩:=h;obtain ⟨pb,yb,rfl,hpb,hlb,rb⟩:=iG hb;obtain ⟨pw,yw,rfl,hpw,hlw,rw'⟩:=iG hw;refine ⟨_,PSl.h (aU ⟨(bC (i:=2) scSum.nd rfl (.inl rfl) bg)⟩
  (aU ⟨(bC (i:=3) scSum.nd rfl (.inl rfl) bg)⟩
  (aU ⟨(iC bL rfl (j8 (pv 1)) (cY (i:=4) scSum.nd rfl (.inl rfl)) (PSl.h (aU ⟨(bC (i:=5) scSum.nd rfl (.inl rfl) (dN dQ (pv 0) (ixZ (pv 4)) (fun _ _=>rfl)))⟩
  (dH ⟨(gR (cG mm (ixZ (pv 4)) bg (dg _)) (PSl.h (aU ⟨(pT (i:=2) scSum.nd rfl (.inl rfl) (ixZ (pv 5)) ip_add)⟩
  (dH ⟨(pT (i:=3) scSum.nd rfl (.inl rfl) (ixZ (pv 5)) ip_add)⟩))) (PSl.h (aU ⟨(pT (i:=2) scSum.nd rfl (.inl rfl) (ixZ (pv 5)) ip_sub)⟩
  (dH ⟨(pT (i:=3) scSum.nd rfl (.inl rfl) (ixZ (pv 5)) ip_sub)⟩))))⟩))))⟩
  (dH ⟨(cx (d8 (ae (pv 2) (ae (pv 3) aB))))⟩)))),?_⟩
 refine ⟨_,rfl,pw,rfl,⟨_,SqT.of hpw⟩,?_⟩;refine mM (K:=K) (xs:=yw) (fun i σ H2=>H2=H∧∃ v4 v5,σ=[some (.ref pb),some (.ref pw),some (.int (fh bs (ws.take i))),some (.int (gM bs (ws.take i))),v4,v5]) ⟨rfl,none,none,rfl⟩ (fun i σ H2 _ ⟨e1,_⟩=>by rw [e1];exact SqT.of hpw) ?_ ?_
 ·rintro i y σ H2 hy ⟨rfl,v4,v5,rfl⟩
  have hi:i<ws.length:=by rw [←hlw];exact (aq.mp hy).1
  obtain ⟨q,hq,hq2⟩:=iQ rw' (gE hi);rw [hy] at hq;cases hq;obtain ⟨i1,d1⟩:=hin ws[i] (bH hi);have hm1:fh bs (ws.take (i+1))=fh bs (ws.take i)+oG bs ws[i]:=by
   unfold fh;rw [bj,gE hi,ay,gB];simp
  have hm2:gM bs (ws.take (i+1))=gM bs (ws.take i)+kf bs ws[i]:=by
   unfold gM;rw [bj,gE hi,ay,gB];simp
  obtain ⟨qb,hqb,hqb2⟩:=iQ rb (gE i1);refine ⟨_,rfl,_,rfl,q,_,_,_,rfl,rfl,SqT.of hq2,aJ (j:=0) rfl,pb,_,_,_,rfl,rfl,SqT.of hpb,aJ (j:=ws[i].i) hqb,?_⟩;refine ⟨_,rfl,q,_,_,_,rfl,rfl,SqT.of hq2,aJ (j:=1) rfl,rfl,_,rfl,?_⟩;refine ite2 (fun h1=>?_) (fun h1=>?_)
  ·have h1:ws[i].d=1:=by have:=rj h1;injection this
   refine ⟨_,rfl,_,rfl,qb,_,_,_,rfl,rfl,SqT.of hqb2,aJ (j:=0) rfl,_,_,rfl,rfl,?_⟩;refine ⟨_,rfl,_,rfl,qb,_,_,_,rfl,rfl,SqT.of hqb2,aJ (j:=1) rfl,_,_,rfl,rfl,rfl,some (.ref q),some (.ref qb),?_⟩;have l1:oG bs ws[i]=bs[ws[i].i].1:=by unfold oG;rw [gE i1];exact q9 h1
   have l2:kf bs ws[i]=bs[ws[i].i].2:=by unfold kf;rw [gE i1];exact q9 h1
   rw [hm1,hm2,l1,l2];rfl
  ·have h1:ws[i].d≠1:=fun z=>h1 (rf (by rw [z]))
   refine ⟨_,rfl,_,rfl,qb,_,_,_,rfl,rfl,SqT.of hqb2,aJ (j:=1) rfl,_,_,rfl,rfl,?_⟩;refine ⟨_,rfl,_,rfl,qb,_,_,_,rfl,rfl,SqT.of hqb2,aJ (j:=0) rfl,_,_,rfl,rfl,rfl,some (.ref q),some (.ref qb),?_⟩;have l1:oG bs ws[i]= -bs[ws[i].i].2:=by unfold oG;rw [gE i1];exact qZ h1
   have l2:kf bs ws[i]= -bs[ws[i].i].1:=by unfold kf;rw [gE i1];exact qZ h1
   rw [hm1,hm2,l1,l2,←Int.sub_eq_add_neg,←Int.sub_eq_add_neg];rfl
 ·rintro σ H2 ⟨rfl,v4,v5,rfl⟩
  rw [hlw,bc];exact ⟨_,rfl,_,rfl,mU,fun p3 H3 S3 h3=>k p3 H3 S3 h3⟩
theorem scBeats:cp ["net","bounds","ring","beat","ends"] pzb (defScope sBeats):=by trivial
theorem ok_beats (F:Fun K "beats_of" "beats_of" sBeats f fd)(G1:Fn K mg "sum_of" sSum pzC f1 fd1):dv P w K mg base CX0 2 f fd pzb pE:=by
 have F1:dv P w K mg base CX0 1 f1 fd1 pzC spSum:=ok_sum G1.F;refine F.ok scBeats (by contradiction) (fun cdv A outer s H vs Q E hr h=>?_);obtain ⟨vn,vb,vw,b,m,sp,bs,ws,rfl,hv,hb0,hb1,hb,hw,hin,k⟩:=h;obtain ⟨t,pn,ys,rfl,ht,_⟩:=fR hv;refine ⟨_,PSl.h (aU ⟨(bC (i:=3) scBeats.nd rfl (.inl rfl) (ixZ (pv 0)))⟩
  (aU ⟨(bC (i:=4) scBeats.nd rfl (.inl rfl) (pc1 G1 F1 hr (ae (pv 1) (ae (pv 2) aB))))⟩
  (dH ⟨(cx (d8 (ae (oB lG (b9 nk (oB lG (ixZ (pv 4))) (pv 3))) (ae (b9 nk (ixZ (pv 4)) (pv 3)) aB))))⟩))),?_⟩
 refine ⟨_,rfl,t,_,_,_,rfl,rfl,SqT.of ht,aJ (j:=0) rfl,?_⟩;refine ⟨_,rfl,_,rfl,vb,vw,bs,ws,rfl,hb,hw,hin,fun p1 H1 S1 h1=>?_⟩;refine ⟨_,rfl,p1,_,_,_,rfl,rfl,SqT.of h1,aJ (j:=0) rfl,_,rfl,_,rfl,_,_,rfl,rfl,log_ok hb0 hb1,_,rfl,?_⟩;refine ⟨_,rfl,p1,_,_,_,rfl,rfl,SqT.of h1,aJ (j:=1) rfl,_,rfl,_,_,rfl,rfl,log_ok hb0 hb1,mU,fun p2 H2 S2 h2=>k p2 H2 (S1.trans S2) h2⟩
abbrev sSure:cV:=top 12
theorem scSure:cp ["net","bounds","ring","beats"] pzb (defScope sSure):=by trivial
theorem ok_sure (F:Fun K "is_sure" "is_sure" sSure f fd)(G1:Fn K mg "beats_of" sBeats pzb f1 fd1)(F1:dv P w K mg base CX0 2 f1 fd1 pzb pE):dv P w K mg base CX0 3 f fd pzb spSure:=by
 refine F.ok scSure (by contradiction) (fun cdv A outer s H vs Q E hr h=>?_);obtain ⟨vn,vb,vw,b,m,sp,bs,ws,rfl,hv,hb0,hb1,hb,hw,hin,k⟩:=h;refine ⟨_,PSl.h (aU ⟨(bC (i:=3) scSure.nd rfl (.inl rfl) (pc1 G1 F1 hr (ae (pv 0) (ae (pv 1) (ae (pv 2) aB)))))⟩
  (dH ⟨(cx (lU mm (ixZ (pv 3)) (ixZ (pv 3)) (dg _)))⟩)),?_⟩
 refine ⟨_,rfl,_,rfl,_,rfl,vn,vb,vw,b,m,sp,bs,ws,rfl,hv,hb0,hb1,hb,hw,hin,fun p1 H1 S1 h1=>?_⟩;refine ⟨_,rfl,p1,_,_,_,rfl,rfl,SqT.of h1,aJ (j:=0) rfl,_,rfl,p1,_,_,_,rfl,rfl,SqT.of h1,aJ (j:=1) rfl,rfl,?_⟩;have e:decide (V.int (upB b (fh bs ws))=V.int (gM bs ws / b))=sureB b bs ws:=decide_eq_decide.mpr ⟨fun z=>by injection z,fun z=>by rw [z]⟩;have k1:=k H1 S1;rw [←e] at k1;exact k1
abbrev sOwn:cV:=top 29
abbrev sWorth:cV:=top 30
def rGetL:V→V→Hp→VK→Prop:=fun o i H Q=>∃ p xs k y,o= .ref p∧i= .int ((k:Nat):Int)∧H p=some (.lst xs)∧xs[k]? =some y∧Q y H
theorem get_listP:PGet X rGetL:=by
 intro aP s σ H o i ov iv Q I ro ri h;obtain ⟨p,xs,k,y,rfl,rfl,hp,hy,q⟩:=h;cases (show ov=ag.ref p from ro);obtain ⟨t,rfl⟩:=ri;obtain ⟨its,r,pl,hz⟩:=I.list (SqL.of (K:=X.K) hp);obtain ⟨u,hu,ru⟩:=r.get hy;have hl:=r.length;have hk:k<xs.length:=(aq.mp hy).1;have l63:=line63;exact wpAny_getItem_list pl.isList (by lia) (by lia) (by simpa using hu) ⟨y,H,I,ru,q⟩
theorem row_of {r:Int×List Stp}(h:IsD H v (rowD r)):∃ q vw,v= .ref q∧H q=some (.tup [.int r.1,vw])∧IsD H vw (mS r.2):=by
 obtain ⟨q,xs,rfl,hq,rx⟩:=IsD.tup_of (show IsD H v (.tup [.int r.1,mS r.2]) from h);cases rx with
 | cons g1 gr=>cases gr with
  | cons g2 gr =>
   cases gr;cases g1;exact ⟨q,_,rfl,hq,g2⟩
theorem price_of (h:IsD H v (leafP (.price rows))):∃ p pr ys,v= .ref p∧H p=some (.tup [.str "price",.ref pr])∧H pr=some (.tup ys)∧IsDs H ys (rows.map rowD):=by
 obtain ⟨p,xs,rfl,hp,rx⟩:=IsD.tup_of (show IsD H v (.tup [.str "price",.tup (rows.map rowD)]) from h);cases rx with
 | cons g1 gr=>cases gr with
  | cons g2 gr =>
   cases gr;cases g1;obtain ⟨pr,ys,rfl,hpr,ry⟩:=g2.tup_of;exact ⟨p,pr,ys,rfl,hp,hpr,ry⟩
theorem fold_take {β:Type}(f:β→α→β)(b:β){xs:List α}(h:i<xs.length):(xs.take (i+1)).foldl f b=f ((xs.take i).foldl f b) xs[i]:=by
 rw [bj,gE h,eN];rfl
theorem sum_take (f:α→Int){xs:List α}(h:i<xs.length):((xs.take (i+1)).map f).sum=((xs.take i).map f).sum+f xs[i]:=by
 rw [bj,gE h,ay,gB];simp
theorem sum_range (f:Nat→Int)(i:Nat):((aQ (i+1)).map f).sum=((aQ i).map f).sum+f i:=by
 rw [List.range_succ,ay,gB];simp
theorem scOwn:cp ["net","rows","prices","row","step"] ["net","rows"] (defScope sOwn):=by trivial
theorem ok_own (F:Fun K "own_prices" "own_prices" sOwn f fd):dv P w K mg base CX0 1 f fd ["net","rows"] spOwn:=by
 refine F.ok scOwn (by contradiction) (fun cdv A outer s H vs Q E hr h=>?_);obtain ⟨v,pr,b,m,sp,rows,rfl,hv,few,hrr,hok,k⟩:=h;obtain ⟨t,pn,ys,rfl,ht,hpn,hl,hy⟩:=fR hv;obtain ⟨pr',yr,e0,hpr,ry⟩:=hrr.tup_of;cases e0;have lr:yr.length=rows.length:=by rw [ry.length,aa]
 refine ⟨_,PSl.h (aU ⟨(pS (iy:=2) (fr:=[]) (js:=[]) scOwn.nd rfl (.inl rfl) rfl (j8 (ixZ (pv 0))) (by trivial) rfl (by trivial) rfl (by exists sOwn) (by trivial) rfl (by trivial) (fun _ _ _ _ _=>⟨(dN (r:=oU K) dQ (pv 0) bg (fun _ _=>rfl)),iH⟩))⟩
  (aU ⟨(iC bL rfl (j8 (pv 1)) (cY (i:=3) scOwn.nd rfl (.inl rfl)) (cO (iC bL rfl (j8 (ixZ (pv 3))) (cY (i:=4) scOwn.nd rfl (.inl rfl)) (cO (ps_augS (pv 2) (ixZ (pv 4)) get_listP (b9 jA (ixZ (pv 3)) (ixZ (pv 4))) ip_sub set_list)))))⟩
  (dH ⟨(cx (pv 2))⟩))),?_⟩
 refine ⟨_,rfl,t,_,_,_,rfl,rfl,SqT.of ht,aJ (j:=2) rfl,pn,rfl,⟨_,SqT.of hpn⟩,?_⟩;refine lx (K:=K) (a:=pn) (xs:=ys) (fun i zs H2=>H2=H∧zs=((sp.take i).map Sn.w).map V.int) ⟨rfl,rfl⟩ (fun i zs H2 hi ⟨e1,e2⟩=>?_) (by rw [hl];exact eG (by lia)) (fun i x zs H2 hx ⟨e1,e2⟩=>?_) (fun zs H2 ⟨e1,e2⟩ D hD=>?_)
 ·subst e1
  refine ⟨SqT.of hpn,?_⟩;rw [e2,aa,aa,bG];lia
 ·subst e1
  have hi:i<sp.length:=by rw [←hl];exact (aq.mp hx).1
  obtain ⟨q,hq,hq2⟩:=hy i sp[i] (gE hi);rw [hx] at hq;cases hq;refine gQ ⟨_,rfl,q,_,_,_,rfl,rfl,SqT.of hq2,aJ (j:=4) rfl,rfl,?_⟩;rw [e2,bj,gE hi,ay,ay];rfl
 subst e1;rw [hl,bc] at e2;subst e2;have S1:Same H2 (upd H2 D (.lst ((sp.map Sn.w).map V.int))):=Same.put (Same.refl H2) hD;have hD1:(upd H2 D (.lst ((sp.map Sn.w).map V.int))) D=some (.lst ((sp.map Sn.w).map V.int)):=aS;generalize upd H2 D (.lst ((sp.map Sn.w).map V.int))=H1 at S1 hD1 ⊢;refine ⟨_,rfl,pr,rfl,⟨_,SqT.of (S1 _ _ hpr)⟩,?_⟩;refine mM (K:=K) (xs:=yr) (fun i σ H3=>Same H2 H3∧(∃ v3 v4,σ=[some (.ref t),some (.ref pr),some (.ref D),v3,v4])∧H3 D=some (.lst (((rows.take i).foldl rowP (sp.map Sn.w)).map V.int))) ⟨S1,⟨none,none,rfl⟩,hD1⟩ (fun i σ H3 _ ⟨S3,_⟩=>SqT.of (S3 _ _ hpr)) ?_ ?_
 ·rintro i y σ H3 hy3 ⟨S3,⟨v3,v4,rfl⟩,hD3⟩
  have hi:i<rows.length:=by rw [←lr];exact (aq.mp hy3).1
  obtain ⟨d,hd,dy⟩:=ry.get hy3;rw [az,gE hi] at hd;cases hd;obtain ⟨q,vw,rfl,hq,hw⟩:=row_of dy;obtain ⟨pw,yw,rfl,hpw,hlw,rw'⟩:=iG hw;have ok:=hok rows[i] (bH hi);obtain ⟨ps,hps⟩:∃ ps,ps=(rows.take i).foldl rowP (sp.map Sn.w):=⟨_,rfl⟩;have lps:ps.length=sp.length:=by rw [hps,rows_len,aa]
  rw [←hps] at hD3;refine ⟨_,rfl,q,_,_,_,rfl,rfl,SqT.of (S3 _ _ hq),aJ (j:=1) rfl,pw,rfl,⟨_,SqT.of (S3 _ _ hpw)⟩,?_⟩;refine mM (K:=K) (xs:=yw) (fun j σ H4=>Same H2 H4∧(∃ v4,σ=[some (.ref t),some (.ref pr),some (.ref D),some (.ref q),v4])∧H4 D=some (.lst (((rows[i].2.take j).foldl (ko rows[i].1) ps).map V.int))) ⟨S3,⟨_,rfl⟩,hD3⟩ (fun j σ H4 _ ⟨S4,_⟩=>SqT.of (S4 _ _ hpw)) ?_ ?_
  ·rintro j z σ H4 hz ⟨S4,⟨v4,rfl⟩,hD4⟩
   have hj:j<rows[i].2.length:=by rw [←hlw];exact (aq.mp hz).1
   obtain ⟨q2,e2,h2⟩:=iQ rw' (gE hj);rw [hz] at e2;cases e2;obtain ⟨i1,d1⟩:=ok.inn rows[i].2[j] (bH hj);obtain ⟨qs,hqs⟩:∃ qs,qs=(rows[i].2.take j).foldl (ko rows[i].1) ps:=⟨_,rfl⟩;have lqs:qs.length=sp.length:=by rw [hqs,lN,lps]
   rw [←hqs] at hD4;have hgs:qs[rows[i].2[j].i]? =some (qs.getD rows[i].2[j].i 0):=by rw [ai,gE (by lia)];rfl
   refine ⟨_,rfl,_,rfl,q2,_,_,_,rfl,rfl,SqT.of (S4 _ _ h2),aJ (j:=0) rfl,D,_,rows[i].2[j].i,_,rfl,rfl,hD4,by rw [az,hgs];rfl,_,rfl,q,_,_,_,rfl,rfl,SqT.of (S4 _ _ hq),aJ (j:=0) rfl,_,rfl,q2,_,_,_,rfl,rfl,SqT.of (S4 _ _ h2),aJ (j:=1) rfl,_,_,rfl,rfl,.inr ?_,_,_,rfl,rfl,D,_,_,rows[i].2[j].i,rfl,rfl,hD4,(by simp [ixN,lqs,i1]),?_⟩
   ·rcases d1 with d1 | d1 <;> rw [d1] <;> exact ⟨by decide,by decide⟩
   refine ⟨fun bb o e=>?_,⟨_,rfl⟩,?_⟩
   ·rw [br (fun z=>by rw [z,hD] at e;cases e)]
    exact S4 _ _ e
   ·rw [aS,fold_take _ _ hj,←hqs]
    congr 2;unfold ko;rw [List.map_set]
  ·rintro σ H4 ⟨S4,⟨v4,rfl⟩,hD4⟩
   refine ⟨S4,⟨_,_,rfl⟩,?_⟩;rw [fold_take _ _ hi,←hps,hD4,hlw,bc];rfl
 ·rintro σ H3 ⟨S3,⟨v3,v4,rfl⟩,hD3⟩
  refine ⟨_,rfl,k D H3 S3 ?_⟩;rw [hD3,lr,bc];rfl
theorem lO:cp ["net","bounds","leaf","worth","row","price","bound","span"] pzD (defScope sWorth):=by trivial
theorem ok_worth (F:Fun K "worth_of" "worth_of" sWorth f fd)(T:Nm mg)(T2:Nt mg)(G1:Fn K mg "beats_of" sBeats pzb f1 fd1)(F1:dv P w K mg base CX0 2 f1 fd1 pzb pE)(G2:Fn K mg "own_prices" sOwn ["net","rows"] f2 fd2):dv P w K mg base CX0 3 f fd pzD spWorth:=by
 have F2:dv P w K mg base CX0 1 f2 fd2 ["net","rows"] spOwn:=ok_own G2.F;refine F.ok lO (by contradiction) (fun cdv A outer s H vs Q E hr h=>?_);obtain ⟨v,vb,vl,b,m,sp,bs,rows,rfl,W,k⟩:=h;have hr1:Room 1 _:=hr.mono (by decide);obtain ⟨hv,hb,hl0,b0,b61,lb,few,bu,hws,hok,lr41⟩:=W;obtain ⟨t,pn,ys,rfl,ht,hpn,hl,hy⟩:=fR hv;obtain ⟨p,pr,yr,rfl,hp,hpr,ry⟩:=price_of hl0;obtain ⟨pb,yb,rfl,hpb,hlb,rb⟩:=iG hb;have lr:yr.length=rows.length:=by rw [ry.length,aa]
 refine ⟨_,PSl.h (aU ⟨(bC (i:=3) lO.nd rfl (.inl rfl) bg)⟩
  (aU ⟨(iC bL rfl (j8 (ixZ (pv 2))) (cY (i:=4) lO.nd rfl (.inl rfl)) (cO (pT (i:=3) lO.nd rfl (.inl rfl) (b9 op_mulB (b9 jA (ixZ (pv 4)) (ixZ (pc1 G1 F1 hr (ae (pv 0) (ae (pv 1) (ae (ixZ (pv 4)) aB)))))) (ixZ (pv 0))) ip_add)))⟩
  (aU ⟨(iC bL rfl (pi_zip3 rfl T2.zip (ae (pc1 G2 F2 hr1 (ae (pv 0) (ae (ixZ (pv 2)) aB))) (ae (pv 1) (ae (ixZ (pv 0)) aB)))) (ng rfl (fJ (cY (i:=5) lO.nd rfl (.inl rfl)) (fJ (cY (i:=6) lO.nd rfl (.inl rfl)) (fJ (cY (i:=7) lO.nd rfl (.inl rfl)) k5)))) (cO (pT (i:=3) lO.nd rfl (.inl rfl) (b9 gJ (b9 jA (pv 5) (ma (cG pW (pv 5) bg (dg _)) (ixZ (pv 6)) (ixZ (pv 6)))) (b9 jA (ixZ (pv 7)) (ixZ (pv 7)))) ip_add)))⟩
  (dH ⟨(cx (pv 3))⟩)))),?_⟩
 refine ⟨_,rfl,p,_,_,_,rfl,rfl,SqT.of hp,aJ (j:=1) rfl,pr,rfl,⟨_,SqT.of hpr⟩,?_⟩;refine mM (K:=K) (xs:=yr) (fun i σ H3=>Same H H3∧∃ v4 v5 v6 v7,σ=[some (.ref t),some (.ref pb),some (.ref p),some (.int (oA b bs (rows.take i))),v4,v5,v6,v7]) ⟨Same.refl H,none,none,none,none,rfl⟩ (fun i σ H3 _ ⟨S3,_⟩=>SqT.of (S3 _ _ hpr)) ?_ ?_
 ·rintro i y σ H3 hy3 ⟨S3,v4,v5,v6,v7,rfl⟩
  have hi:i<rows.length:=by rw [←lr];exact (aq.mp hy3).1
  obtain ⟨d,hd,dy⟩:=ry.get hy3;rw [az,gE hi] at hd;cases hd;obtain ⟨q,vw,rfl,hq,hw⟩:=row_of dy;have ok:=hok rows[i] (bH hi);have u1:=up_abs (b:=b) (bs:=bs) (ws:=rows[i].2) b0 bu ok.few;have p1:=ok.lo;have p2:=ok.hi;refine ⟨_,rfl,_,rfl,q,_,_,_,rfl,rfl,SqT.of (S3 _ _ hq),aJ (j:=0) rfl,_,rfl,_,rfl,_,rfl,q,_,_,_,rfl,rfl,SqT.of (S3 _ _ hq),aJ (j:=1) rfl,.ref t,.ref pb,vw,b,m,sp,bs,rows[i].2,rfl,hv.same S3,b0,b61,hb.same S3,hw.same S3,by rw [lb];exact ok.inn,fun q5 H5 S5 h5=>?_⟩;refine ⟨q5,_,_,_,rfl,rfl,SqT.of h5,aJ (j:=0) rfl,_,_,rfl,rfl,.inl ⟨by show -(2 ^ 64)<rows[i].1;lia,by show rows[i].1<2 ^ 64;lia⟩,_,rfl,t,_,_,_,rfl,rfl,SqT.of (S5 _ _ (S3 _ _ ht)),aJ (j:=0) rfl,_,_,rfl,rfl,⟨?_,?_⟩,_,_,rfl,rfl,S3.trans S5,some (.ref q),v5,v6,v7,?_⟩
  ·rw [Int.natAbs_mul]
   have h1:rows[i].1.natAbs≤10 ^ 12:=by lia
   exact bY (Nat.mul_le_mul h1 u1) (by trivial)
  ·exact bY (by lia:b.natAbs≤10 ^ 61) (by trivial)
  ·unfold oA
   rw [sum_take _ hi];rfl
 rintro σ H3 ⟨S3,v4,v5,v6,v7,rfl⟩;rw [lr,bc];have hrr:IsD H3 (.ref pr) (.tup (rows.map rowD)):= .tup (S3 _ _ hpr) (ry.same S3);refine ⟨_,rfl,_,rfl,p,_,_,_,rfl,rfl,SqT.of (S3 _ _ hp),aJ (j:=1) rfl,.ref t,pr,b,m,sp,rows,rfl,hv.same S3,few,hrr,hok,fun L H4 S4 hL=>?_⟩;have S04:=S3.trans S4;refine ⟨_,rfl,_,rfl,t,_,_,_,rfl,rfl,SqT.of (S04 _ _ ht),aJ (j:=2) rfl,⟨true,L⟩,⟨false,pb⟩,⟨false,pn⟩,_,_,_,rfl,hL,S04 _ _ hpb,S04 _ _ hpn,?_⟩;have lo:=own_len sp rows;refine for_zip3 (c1:=⟨true,L⟩) (c2:=⟨false,pb⟩) (c3:=⟨false,pn⟩) (xs:=(ownM sp rows).map V.int) (ys:=yb) (zs:=ys) (fun i σ H5=>Same H4 H5∧∃ v4 v5 v6 v7,σ=[some (.ref t),some (.ref pb),some (.ref p),some (.int (oA b bs rows+((aQ i).map (termW sp bs rows)).sum)),v4,v5,v6,v7]) ⟨Same.refl H4,v4,v5,v6,v7,by simp⟩ (fun i σ H5 _ ⟨S5,_⟩=>⟨S5 _ _ hL,S5 _ _ (S04 _ _ hpb),S5 _ _ (S04 _ _ hpn)⟩) (by rw [aa];lia) (by rw [aa];lia) ?_ ?_
 ·rintro i x y z pz σ H5 hx hy5 hz ⟨S5,v4,v5,v6,v7,rfl⟩ hpz
  have hi:i<sp.length:=by rw [←hl];exact (aq.mp hz).1
  have hib:i<bs.length:=by lia
  rw [az,gE (by lia)] at hx;cases hx;obtain ⟨qb,e1,h1⟩:=iQ rb (gE hib);rw [hy5] at e1;cases e1;obtain ⟨qz,e2,h2⟩:=hy i sp[i] (gE hi);rw [hz] at e2;cases e2;have eo:(ownM sp rows)[i]=owK sp rows i:=by
   rw [←own_at hi hok,ai,gE (by lia)];rfl
  rw [eo];have S6:Same H4 (upd H5 pz (.tup [.int (owK sp rows i),.ref qb,.ref qz])):=S5.put hpz;have h6:(upd H5 pz (.tup [.int (owK sp rows i),.ref qb,.ref qz])) pz=some (.tup [.int (owK sp rows i),.ref qb,.ref qz]):=aS;generalize upd H5 pz (.tup [.int (owK sp rows i),.ref qb,.ref qz])=H6 at S6 h6 ⊢;have S06:=S04.trans S6;have ob:=owK_abs (k:=i) hws hok lr41;have wx:=hws sp[i] (bH hi);have ew:wOf sp i=sp[i].w:=by unfold wOf;rw [gE hi]
  have el:lOf sp i=sp[i].l:=by unfold lOf;rw [gE hi]
  have eb:bs.getD i (0,0)=bs[i]:=by rw [ai,gE hib];rfl
  have et:termW sp bs rows i=owK sp rows i * (if owK sp rows i<0 then bs[i].2 else bs[i].1) - sp[i].w * sp[i].l:=by unfold termW;rw [ew,el,eb]
  refine ⟨pz,_,rfl,SqT.of h6,rfl,_,_,rfl,_,_,rfl,_,_,rfl,rfl,?_⟩;refine ⟨_,rfl,_,rfl,_,rfl,_,_,rfl,rfl,_,rfl,?_⟩
  by_cases hneg:owK sp rows i<0
  ·refine iteB (rf hneg) ?_
   refine ⟨_,rfl,qb,_,_,_,rfl,rfl,SqT.of (S06 _ _ h1),aJ (j:=1) rfl,_,_,rfl,rfl,.inl ⟨by show -(2 ^ 64)<owK sp rows i;lia,by show owK sp rows i<2 ^ 64;lia⟩,_,rfl,qz,_,_,_,rfl,rfl,SqT.of (S06 _ _ h2),aJ (j:=4) rfl,_,rfl,qz,_,_,_,rfl,rfl,SqT.of (S06 _ _ h2),aJ (j:=2) rfl,_,_,rfl,rfl,.inl ⟨by show -(2 ^ 64)<sp[i].w;lia,by show sp[i].w<2 ^ 64;lia⟩,_,_,rfl,rfl,_,_,rfl,rfl,S6,v4,some (.int (owK sp rows i)),some (.ref qb),some (.ref qz),?_⟩;rw [sum_range,et,q9 hneg,←Int.add_assoc];rfl
  ·refine ke (rh hneg) ?_
   refine ⟨_,rfl,qb,_,_,_,rfl,rfl,SqT.of (S06 _ _ h1),aJ (j:=0) rfl,_,_,rfl,rfl,.inl ⟨by show -(2 ^ 64)<owK sp rows i;lia,by show owK sp rows i<2 ^ 64;lia⟩,_,rfl,qz,_,_,_,rfl,rfl,SqT.of (S06 _ _ h2),aJ (j:=4) rfl,_,rfl,qz,_,_,_,rfl,rfl,SqT.of (S06 _ _ h2),aJ (j:=2) rfl,_,_,rfl,rfl,.inl ⟨by show -(2 ^ 64)<sp[i].w;lia,by show sp[i].w<2 ^ 64;lia⟩,_,_,rfl,rfl,_,_,rfl,rfl,S6,v4,some (.int (owK sp rows i)),some (.ref qb),some (.ref qz),?_⟩;rw [sum_range,et,qZ hneg,←Int.add_assoc];rfl
 ·rintro σ H5 ⟨S5,v4,v5,v6,v7,rfl⟩
  refine ⟨_,rfl,?_⟩;have k1:=k H5 (S04.trans S5);unfold lM at k1;rw [aa,lo];exact k1
abbrev sDead:cV:=top 11
theorem scDead:cp ["net","bounds","ring","beats"] pzb (defScope sDead):=by trivial
theorem ok_dead (F:Fun K "is_dead" "is_dead" sDead f fd)(G1:Fn K mg "beats_of" sBeats pzb f1 fd1)(F1:dv P w K mg base CX0 2 f1 fd1 pzb pE):dv P w K mg base CX0 3 f fd pzb spDead:=by
 refine F.ok scDead (by contradiction) (fun cdv A outer s H vs Q E hr h=>?_);obtain ⟨vn,vb,vw,b,m,sp,bs,ws,rfl,hv,hb0,hb1,hb,hw,hin,k⟩:=h;refine ⟨_,PSl.h (aU ⟨(bC (i:=3) scDead.nd rfl (.inl rfl) (pc1 G1 F1 hr (ae (pv 0) (ae (pv 1) (ae (pv 2) aB)))))⟩
  (dH ⟨(cx (lU op_gt (ixZ (pv 3)) (ixZ (pv 3)) (dg _)))⟩)),?_⟩
 refine ⟨_,rfl,_,rfl,_,rfl,vn,vb,vw,b,m,sp,bs,ws,rfl,hv,hb0,hb1,hb,hw,hin,fun p1 H1 S1 h1=>?_⟩;exact ⟨_,rfl,p1,_,_,_,rfl,rfl,SqT.of h1,aJ (j:=0) rfl,_,rfl,p1,_,_,_,rfl,rfl,SqT.of h1,aJ (j:=1) rfl,_,_,rfl,rfl,k H1 S1⟩
abbrev sWidth:cV:=top 4
theorem scWidth:cp ["net","span","least","most"] pzh (defScope sWidth):=by trivial
theorem ok_width (F:Fun K "width_of" "width_of" sWidth f fd):dv P w K mg base CX0 1 f fd pzh spWidth:=by
 refine F.ok scWidth (by contradiction) (fun cdv A outer s H vs Q E hr h=>?_);obtain ⟨v,b,m,sp,i,x,rfl,hv,hx,k⟩:=h;obtain ⟨t,p,ys,rfl,ht,hp,hl,hy⟩:=fR hv;obtain ⟨q,hq,hq2⟩:=hy i x hx;refine ⟨_,PSl.h (aU ⟨(bC (i:=2) scWidth.nd rfl (.inl rfl) (ixZ (dN dQ (ixZ (pv 0)) (pv 1) (fun _ _=>rfl))))⟩
  (aU ⟨(bC (i:=3) scWidth.nd rfl (.inl rfl) (ixZ (dN dQ (ixZ (pv 0)) (pv 1) (fun _ _=>rfl))))⟩
  (dH ⟨(cx (b9 gJ (pv 3) (pv 2)))⟩))),?_⟩
 refine ⟨_,rfl,t,_,_,_,rfl,rfl,SqT.of ht,aJ (j:=2) rfl,_,rfl,p,_,_,_,rfl,rfl,SqT.of hp,aJ (j:=i) hq,q,_,_,_,rfl,rfl,SqT.of hq2,aJ (j:=2) rfl,?_⟩;refine ⟨_,rfl,t,_,_,_,rfl,rfl,SqT.of ht,aJ (j:=2) rfl,_,rfl,p,_,_,_,rfl,rfl,SqT.of hp,aJ (j:=i) hq,q,_,_,_,rfl,rfl,SqT.of hq2,aJ (j:=3) rfl,?_⟩;exact ⟨_,rfl,_,rfl,_,_,rfl,rfl,k⟩
abbrev sSpW:cV:=top 14
abbrev lQ:cV:=top 15
def lamPos:List cV→Pos
 | [.Return (some (.Call _ _ [⟨_,.Lambda _ _ _ lp,_⟩] _)) _]=>lp
 | _=>⟨0,0,0,0⟩
abbrev lpW:Pos:=lamPos (fS sSpW)
abbrev lqW:Str:=(("spans_by_width" :Str) ++ ".<locals>.") ++ "<lambda>"
theorem okC {c:ao}{k:Nat}{sp:Sp}(F:Fun K x qual st f fd)(hc:fd.code= .ref c)(S:cp N ps (defScope st))(len:∀ vs H Q E,sp vs H Q E→vs.length=ps.length)
  (hbody:∀ (A:bW) (outer:List Env) (s:au) (H:Hp) (vs:List V) (Q:VK) (E:XK),Room k (A.deeper (envOfC qual (defScope st) s.heap.objs.size f (.ref c)))→sp vs H Q E →
   ∃ t,PSs (cxOf CX0 P w K mg base N qual (defScope st) f (.ref c) A outer s H E).nox (fS st) t∧t { nx:=fun _ H'=>Q .non H',rt:=Q } (L2.start N vs) H):dv P w K mg base CX0 (k+1) f fd ps sp:=by
 obtain ⟨oc,od,kV,doc,pm,an,cdv,ct,osl,rfl,lk,hcd⟩:=F.ex;have hc:cdv= .ref c:=hc;subst hc;refine fn_of lk hcd S len fun A outer s H vs Q E hr hsp=>?_
 obtain ⟨t,h,q⟩:=hbody A outer s H vs Q E hr hsp;exact ⟨t,h.nox,q⟩
theorem scSpW:cp pza pza (defScope sSpW):=by trivial
theorem ok_spW {c:ao}(F:Fun K "spans_by_width" "spans_by_width" sSpW f fd)(hcd:fd.code= .ref c)(C:eX K c Tb0=true)(B:BM mg base)(T:Nm mg)(T2:Nt mg)(ms:mg "sorted" =none)(G1:Fn K mg "width_of" sWidth pzh f1 fd1) :
  dv P w K mg base CX0 5 f fd pza (spSpW Tb0 lpW lqW):=by
 have F1:dv P w K mg base CX0 1 f1 fd1 pzh spWidth:=ok_width G1.F;refine okC F hcd scSpW (by contradiction) (fun A outer s H vs Q E hr h=>?_);obtain ⟨v,b,m,sp,rfl,hv,few,hT,k⟩:=h;obtain ⟨t,p,ys,rfl,ht,hp,hl,hy⟩:=fR hv;refine ⟨_,PSl.h (dH ⟨(cx (pe_sortL (js:=[0]) (fr:=pza) (x := "span") (c:=c) (P:=Tb0) rfl hr.depth rfl ms (fG qh rfl T2.range boot_range (ae (cM cg rfl T.len bP (ae (ixZ (pv 0)) aB)) aB)) rfl rfl C B (fun _ _ _ _ _ _=>rfl) rfl rfl rfl (by trivial) rfl (by decide) (by exists sSpW) rfl (by trivial)
  (fun cl L f' cd s' H'=>oq (ae (pc1 G1 F1 (((hr.in1).in1).deeper _ |>.mono (by decide)) (ae (pv 1) (ae (pv 0) aB))) (ae (pv 0) aB)))))⟩),?_⟩
 refine ⟨_,rfl,t,_,_,_,rfl,rfl,SqT.of ht,aJ (j:=2) rfl,p,_,rfl,.inr (SqT.of hp),_,rfl,fun r H1 S1 hr1=>?_⟩;have hv1:IsD H1 (.ref t) (ka b m sp):=hv.same S1;have hT1:=LamT.same S1 hT;refine ⟨r,ys.length,wkey sp,rfl,hr1,by lia,hT1,wkey_nodup sp _,fun i hi H2 tb=>?_,fun D H4 π tb lt hD pm pw=>?_⟩
 ·have hv2:=cB (Tb.tupK (LamT.tbl hT1) tb) hv1
  refine ⟨_,rfl,_,rfl,.ref t,b,m,sp,i,sAt sp i,rfl,hv2,jh (by lia),_,rfl,mU,fun q hq=>⟨fun a o e=>by rw [br (bf e hq)];exact e,q,rfl,aS⟩⟩
 ·exact k D H4 π ((Same.tb S1).trans tb) lt hD ⟨by rw [←hl];exact pm,pw⟩
theorem kY:cp ["net","groups","taken","span","one","other"] pza (defScope lQ):=by trivial
theorem ok_forest (F:Fun K "forest_of" "forest_of" lQ f fd)(T:Nm mg)(T2:Nt mg)(ms:mg "sorted" =none)(G1:Fn K mg "spans_by_width" sSpW pza f1 fd1)(F1:dv P w K mg base CX0 5 f1 fd1 pza (spSpW Tb0 lp lq)) :
  dv P w K mg base CX0 6 f fd pza (kW Tb0 lp lq):=by
 refine F.ok kY (by contradiction) (fun cdv A outer s H vs Q E hr h=>?_);obtain ⟨v,b,m,sp,rfl,hv,N,hT,k⟩:=h;obtain ⟨t,p,ys,rfl,ht,hp,hl,hy⟩:=fR hv;obtain ⟨mn,rfl⟩:=cJ (show 0≤m by have:=N.m1;lia);have m2:=N.m2;have few:=N.few;have E:=N.ends;rw [cQ] at E k;refine ⟨_,PSl.h (aU ⟨(bC (i:=1) kY.nd rfl (.inl rfl) (fG (qV rfl) rfl T2.tlist boot_list (ae (fG qh rfl T2.range boot_range (ae (ixZ (pv 0)) aB)) aB)))⟩
  (aU ⟨(bC (i:=2) kY.nd rfl (.inl rfl) (iY aB))⟩
  (aU ⟨(iC bL rfl (jk (pc1 G1 F1 hr (ae (pv 0) aB))) (cY (i:=3) kY.nd rfl (.inl rfl)) (PSl.h (aU ⟨(bC (i:=4) kY.nd rfl (.inr rfl) (dN eE (pv 1) (ixZ (dN dQ (ixZ (pv 0)) (pv 3) (fun _ _=>rfl))) (fun _ _=>rfl)))⟩
  (aU ⟨(bC (i:=5) kY.nd rfl (.inr rfl) (dN eE (pv 1) (ixZ (dN dQ (ixZ (pv 0)) (pv 3) (fun _ _=>rfl))) (fun _ _=>rfl)))⟩
  (dH ⟨(gR (cG oE (pv 4) (pv 5) (dg _)) (PSl.h (aU ⟨(ik (lH bp cu cq g9 (pv 2) (ae (pv 3) aB)))⟩
  (dH ⟨(pS (iy:=1) (fr:=["one","other"]) (js:=[4,5]) kY.nd rfl (.inl rfl) rfl (jk (pv 1)) (by trivial) rfl (by trivial) rfl (by exists lQ) (by trivial) rfl (by trivial) (fun _ _ _ _ _=>⟨(ma (cG mm (pv 0) (pv 2) (dg _)) (pv 1) (pv 0)),iH⟩))⟩))) d7)⟩)))))⟩
  (dH ⟨(cx (fG i9 rfl T.ttup i5 (ae (cM call_sortedI rfl ms boot_sorted (ae (pv 2) aB)) aB)))⟩)))),?_⟩
 refine ⟨_,rfl,t,_,_,_,rfl,rfl,SqT.of ht,aJ (j:=1) rfl,(mn:Int),rfl,fun a1 H1 S1 h1=>⟨a1,mn,rfl,h1,by lia,fun Lg hLg=>?_⟩⟩;have S2:Same H (upd H1 Lg (.lst ((aQ mn).map fun k=>V.int (k:Nat)))):=S1.trans (Same.put (Same.refl H1) hLg);have hLg2:(upd H1 Lg (.lst ((aQ mn).map fun k=>V.int (k:Nat)))) Lg=some (.lst ((kt mn).map V.int)):=by rw [aS];unfold kt;rw [dY];rfl
 generalize upd H1 Lg (.lst ((aQ mn).map fun k=>V.int (k:Nat)))=H2 at S2 hLg2 ⊢;refine ⟨bF _,fun Lt hLt=>?_⟩;have S3:Same H (upd H2 Lt (.lst [])):=S2.trans (Same.put (Same.refl H2) hLt);have hgt:Lg≠Lt:=fun z=>by rw [z,hLt] at hLg2;cases hLg2
 have hLt3:(upd H2 Lt (.lst [])) Lt=some (.lst []):=aS;have hLg3:(upd H2 Lt (.lst [])) Lg=some (.lst ((kt mn).map V.int)):=by rw [br hgt];exact hLg2
 generalize upd H2 Lt (.lst [])=H3 at S3 hLt3 hLg3 ⊢;have hT3:=LamT.same S3 hT;obtain ⟨ps3,hTb3⟩:=LamT.tbl hT3;refine ⟨_,rfl,.ref t,b,mn,sp,rfl,hv.same S3,few,hT3,fun D H4 π tb4 hT4 hD O=>?_⟩;obtain ⟨ps4,hTb4⟩:=LamT.tbl hT4;have nLg:Lg≠Tb0:=fH hLg3 hTb3 nofun;have nLt:Lt≠Tb0:=fH hLt3 hTb3 nofun;have hLg4:=tb4 _ _ nLg hLg3;have hLt4:=tb4 _ _ nLt hLt3;have nDg:D≠Lg:=fun z=>by rw [z,hLg4] at hD;cases hD
 have nDt:D≠Lt:=fun z=>by rw [z,hLt4] at hD;cases hD
 have S5:Same H4 (upd H4 D (.lst (π.map fun (i:Nat)=>V.int i))):=Same.put (Same.refl H4) hD;have tb5:L2.Tb Tb0 H (upd H4 D (.lst (π.map fun (i:Nat)=>V.int i))):=((Same.tb S3).trans tb4).trans (Same.tb S5);have hT5:=LamT.same S5 hT4;have hD5:(upd H4 D (.lst (π.map fun (i:Nat)=>V.int i))) D=some (.lst (π.map fun (i:Nat)=>V.int i)):=aS;have hLg5:=S5 _ _ hLg4;have hLt5:=S5 _ _ hLt4;generalize upd H4 D (.lst (π.map fun (i:Nat)=>V.int i))=H5 at tb5 hT5 hD5 hLg5 hLt5 ⊢;have hLtN:∀ o,H Lt=some o→False:=fun o e=>by rw [S2 _ _ e] at hLt;cases hLt
 clear hLg4 hLt4 S5 hD hTb4 hT4 tb4 hLg3 hLt3 hT3 hTb3 hLg2 hLt S2 h1 S1 hLg S3;refine ⟨D,rfl,⟨_,SqL.of hD5⟩,?_⟩;have tkE:∀ {H':Hp},L2.Tb Tb0 H H'→TupK H H':=fun e=>Tb.tupK (LamT.tbl hT) e
 refine lh (K:=K) (a:=D) (xs:=π.map fun (i:Nat)=>V.int i) (fun i σ HA=>L2.Tb Tb0 H HA∧L2.LamT Tb0 lp lq HA∧HA D=some (.lst (π.map fun (i:Nat)=>V.int i))∧∃ (La:ao) (v3 v4 v5:Option V),σ=[some (.ref t),some (.ref La),some (.ref Lt),v3,v4,v5]∧La≠Lt∧HA La=some (.lst (((π.take i).foldl (gi sp) (kt mn,[])).1.map V.int))∧HA Lt=some (.lst (((π.take i).foldl (gi sp) (kt mn,[])).2.map fun (i:Nat)=>V.int i)))
  ⟨tb5,hT5,hD5,Lg,none,none,none,rfl,hgt,hLg5,hLt5⟩ (fun i σ HA _ ⟨_,_,h,_⟩=>SqL.of h) ?_ ?_
 ·rintro i x σ HA hx ⟨tbA,hTA,hDA,La,v3,v4,v5,rfl,nLa,hLa,hLtA⟩
  rw [az] at hx;obtain ⟨j,hj,rfl⟩:=bI.mp hx;have hjn:j<sp.length:=O.lt (bt hj);have hvA:=cB (tkE tbA) hv;obtain ⟨t',p',ys',e0,htA,hpA,hlA,hyA⟩:=fR hvA;cases e0;obtain ⟨q,hq,hq2⟩:=hyA j _ (jh hjn);obtain ⟨s0,s1,g0,g1⟩:=E _ (eQ hjn);have fold:(π.take (i+1)).foldl (gi sp) (kt mn,[])=gi sp ((π.take i).foldl (gi sp) (kt mn,[])) j:=by
   rw [bj,hj];show (π.take i++[j]).foldl _ _=_;rw [eN];rfl
  rw [fold];obtain ⟨gl,gb⟩:((π.take i).foldl (gi sp) (kt mn,[])).1.length=mn∧((π.take i).foldl (gi sp) (kt mn,[])).2.length≤sp.length:=by
   refine ⟨(qd E (π.take i) _ _ [] (fun i hi=>O.lt (j3 hi)) (Rl.start mn)).1.len,?_⟩;have:=(ku sp (π.take i) (kt mn,[])).2;rw [bG] at this;have h2:=O.len;show _≤_;have h3:((kt mn,([]:List Nat)).2).length=0:=rfl;lia
  generalize (π.take i).foldl (gi sp) (kt mn,[])=c at hLa hLtA gl gb ⊢;obtain ⟨gs,tk⟩:=c;have hLa:HA La=some (.lst (gs.map V.int)):=hLa;have hLtA:HA Lt=some (.lst (tk.map fun (i:Nat)=>V.int i)):=hLtA;have gl:gs.length=mn:=gl;have gb:tk.length≤sp.length:=gb;have es:=mq (ts:=gs) s0 (by lia);have eg:=mq (ts:=gs) g0 (by lia);refine ⟨_,rfl,_,rfl,t,_,_,_,rfl,rfl,SqT.of htA,aJ (j:=2) rfl,_,rfl,p',_,_,_,rfl,rfl,SqT.of hpA,aJ (j:=j) hq,q,_,_,_,rfl,rfl,SqT.of hq2,aJ (j:=0) rfl,La,_,_,_,rfl,rfl,SqL.of hLa,es,?_⟩;refine ⟨_,rfl,_,rfl,t,_,_,_,rfl,rfl,SqT.of htA,aJ (j:=2) rfl,_,rfl,p',_,_,_,rfl,rfl,SqT.of hpA,aJ (j:=j) hq,q,_,_,_,rfl,rfl,SqT.of hq2,aJ (j:=1) rfl,La,_,_,_,rfl,rfl,SqL.of hLa,eg,?_⟩;refine ⟨_,rfl,_,rfl,rfl,_,rfl,?_⟩
  by_cases e:tm gs (sAt sp j).s=tm gs (sAt sp j).g
  ·have st:gi sp (gs,tk) j=(gs,tk):=by unfold gi;exact q9 e
   rw [st,e,rf rfl];exact iteF ⟨tbA,hTA,hDA,La,_,_,_,rfl,nLa,hLa,hLtA⟩
  ·have st:gi sp (gs,tk) j=(i4 gs (tm gs (sAt sp j).s) (tm gs (sAt sp j).g),tk++[j]):=by unfold gi;exact qZ e
   rw [st,rh (fun z=>e (V.int.inj z))];refine iteT ?_;obtain ⟨x,hx⟩:∃ x,x=tm gs (sAt sp j).s:=⟨_,rfl⟩;obtain ⟨y,hy⟩:∃ y,y=tm gs (sAt sp j).g:=⟨_,rfl⟩;rw [←hx,←hy] at e ⊢;refine ⟨_,rfl,.inl ⟨rfl,_,SqL.of hLtA⟩,_,rfl,Lt,_,_,rfl,rfl,hLtA,mZ (by rw [aa];lia),?_⟩;have hLt6:(upd HA Lt (.lst ((tk.map fun (i:Nat)=>V.int i)++[V.int j]))) Lt=some (.lst ((tk++[j]).map fun (i:Nat)=>V.int i)):=by rw [aS,ay];rfl
   have keep:∀ a o,a≠Lt→HA a=some o→(upd HA Lt (.lst ((tk.map fun (i:Nat)=>V.int i)++[V.int j]))) a=some o:=fun a o h e=>by rw [br h];exact e
   have nTL:Tb0≠Lt:=fun z=>nLt z.symm
   have tb6:L2.Tb Tb0 H (upd HA Lt (.lst ((tk.map fun (i:Nat)=>V.int i)++[V.int j]))):=fun a o hn e=>keep a o (fun z=>by subst z;exact hLtN _ e) (tbA a o hn e)
   have hT6:L2.LamT Tb0 lp lq (upd HA Lt (.lst ((tk.map fun (i:Nat)=>V.int i)++[V.int j]))):=LamT.upd hTA (fun p u z=>by rw [hLtA] at z;cases z) fun ps z=>by rw [hLtA] at z;cases z
   have hD6:=keep _ _ nDt hDA;have hLa6:=keep _ _ nLa hLa;generalize upd HA Lt (.lst ((tk.map fun (i:Nat)=>V.int i)++[V.int j]))=HB at hLt6 keep tb6 hT6 hD6 hLa6 ⊢;refine ⟨_,rfl,La,rfl,⟨_,SqL.of hLa6⟩,?_⟩;refine kK (K:=K) (a:=La) (xs:=gs.map V.int) (fun i zs HC=>HC=HB∧zs=(i4 (gs.take i) x y).map V.int) ⟨rfl,rfl⟩ (fun i zs HC hi ⟨e1,e2⟩=>?_) (by rw [aa];exact eG (by lia)) (fun i v zs HC hv ⟨e1,e2⟩=>?_) (fun zs HC ⟨e1,e2⟩ L hL=>?_)
   ·subst e1
    refine ⟨SqL.of hLa6,?_⟩;rw [aa] at hi;rw [e2,aa];unfold i4;rw [aa,bG];lia
   ·subst e1
    rw [az] at hv;obtain ⟨g,hg,rfl⟩:=bI.mp hv;refine gQ ?_;have nx:zs++[V.int (if g=y then x else g)]=(i4 (gs.take (i+1)) x y).map V.int:=by
     rw [e2];unfold i4;rw [bj,hg,ay,ay];rfl
    refine ⟨_,rfl,_,rfl,rfl,_,rfl,?_⟩
    by_cases eg:g=y
    ·rw [eg,rf rfl]
     refine iteT ⟨_,rfl,rfl,?_⟩;rw [←nx,q9 eg]
    ·rw [rh (fun z=>eg (V.int.inj z))]
     refine iteF ⟨_,rfl,rfl,?_⟩;rw [←nx,qZ eg]
   ·subst e1
    have eL:zs=(i4 gs x y).map V.int:=by rw [e2,aa,bc]
    subst eL;have S7:Same HC (upd HC L (.lst ((i4 gs x y).map V.int))):=Same.put (Same.refl HC) hL;have nLL:L≠Lt:=fun z=>by rw [z,hLt6] at hL;cases hL
    exact ⟨tb6.trans (Same.tb S7),LamT.same S7 hT6,S7 _ _ hD6,L,_,_,_,rfl,nLL,aS,S7 _ _ hLt6⟩
 ·rintro σ HA ⟨tbA,hTA,hDA,La,v3,v4,v5,rfl,nLa,hLa,hLtA⟩
  rw [aa,bc] at hLtA;have tl:(π.foldl (gi sp) (kt mn,[])).2.length≤40:=by
   have:=(ku sp π (kt mn,[])).2;have h2:=O.len;have h3:((kt mn,([]:List Nat)).2).length=0:=rfl;lia
  have hLtI:HA Lt=some (.lst (((kG sp mn π).2.map fun (i:Nat)=>(i:Int)).map V.int)):=by rw [hLtA,dY];rfl
  refine ⟨_,rfl,Lt,_,rfl,SqL.of hLtI,by rw [aa];exact bY tl (by decide),fun L ns hL pm pw=>?_⟩;have S7:Same HA (upd HA L (.lst (ns.map V.int))):=Same.put (Same.refl HA) hL;refine ⟨L,_,rfl,.inl (Rd.of aS),fun u H8 S8 hu=>?_⟩;exact k u H8 ns ((tbA.trans (Same.tb S7)).trans (Same.tb S8)) (LamT.same S8 (LamT.same S7 hTA)) hu ⟨π,O,pm,pw⟩
abbrev sFrom:cV:=top 6
abbrev sTo:cV:=top 7
theorem scFrom:cp ["net","step","span"] pzc (defScope sFrom):=by trivial
theorem ok_from (F:Fun K "leads_from" "leads_from" sFrom f fd):dv P w K mg base CX0 1 f fd pzc spFrom:=by
 refine F.ok scFrom (by contradiction) (fun cdv A outer s0 H vs Q E hr h=>?_);obtain ⟨v,q,b,m,sp,s,x,rfl,hv,hq,hx,k⟩:=h;obtain ⟨t,p,ys,rfl,ht,hp,hl,hy⟩:=fR hv;obtain ⟨qx,hqx,hqx2⟩:=hy s.i x hx;refine ⟨_,PSl.h (aU ⟨(bC (i:=2) scFrom.nd rfl (.inl rfl) (dN dQ (ixZ (pv 0)) (ixZ (pv 1)) (fun _ _=>rfl)))⟩
  (dH ⟨(cx (ma (cG mm (ixZ (pv 1)) bg (dg _)) (ixZ (pv 2)) (ixZ (pv 2))))⟩)),?_⟩
 refine ⟨_,rfl,t,_,_,_,rfl,rfl,SqT.of ht,aJ (j:=2) rfl,_,rfl,q,_,_,_,rfl,rfl,SqT.of hq,aJ (j:=0) rfl,p,_,_,_,rfl,rfl,SqT.of hp,aJ (j:=s.i) hqx,?_⟩;refine ⟨_,rfl,q,_,_,_,rfl,rfl,SqT.of hq,aJ (j:=1) rfl,rfl,_,rfl,?_⟩;refine ite2 (fun h1=>?_) (fun h1=>?_)
 ·have h1:s.d=1:=by have:=rj h1;injection this
  refine ⟨_,rfl,qx,_,_,_,rfl,rfl,SqT.of hqx2,aJ (j:=0) rfl,?_⟩;have e:frm x s.d=x.s:=q9 h1;rw [←e];exact k
 ·have h1:s.d≠1:=fun z=>h1 (rf (by rw [z]))
  refine ⟨_,rfl,qx,_,_,_,rfl,rfl,SqT.of hqx2,aJ (j:=1) rfl,?_⟩;have e:frm x s.d=x.g:=qZ h1;rw [←e];exact k
theorem scTo:cp ["net","step","span"] pzc (defScope sTo):=by trivial
theorem ok_to (F:Fun K "leads_to" "leads_to" sTo f fd):dv P w K mg base CX0 1 f fd pzc spTo:=by
 refine F.ok scTo (by contradiction) (fun cdv A outer s0 H vs Q E hr h=>?_);obtain ⟨v,q,b,m,sp,s,x,rfl,hv,hq,hx,k⟩:=h;obtain ⟨t,p,ys,rfl,ht,hp,hl,hy⟩:=fR hv;obtain ⟨qx,hqx,hqx2⟩:=hy s.i x hx;refine ⟨_,PSl.h (aU ⟨(bC (i:=2) scTo.nd rfl (.inl rfl) (dN dQ (ixZ (pv 0)) (ixZ (pv 1)) (fun _ _=>rfl)))⟩
  (dH ⟨(cx (ma (cG mm (ixZ (pv 1)) bg (dg _)) (ixZ (pv 2)) (ixZ (pv 2))))⟩)),?_⟩
 refine ⟨_,rfl,t,_,_,_,rfl,rfl,SqT.of ht,aJ (j:=2) rfl,_,rfl,q,_,_,_,rfl,rfl,SqT.of hq,aJ (j:=0) rfl,p,_,_,_,rfl,rfl,SqT.of hp,aJ (j:=s.i) hqx,?_⟩;refine ⟨_,rfl,q,_,_,_,rfl,rfl,SqT.of hq,aJ (j:=1) rfl,rfl,_,rfl,?_⟩;refine ite2 (fun h1=>?_) (fun h1=>?_)
 ·have h1:s.d=1:=by have:=rj h1;injection this
  refine ⟨_,rfl,qx,_,_,_,rfl,rfl,SqT.of hqx2,aJ (j:=1) rfl,?_⟩;have e:too x s.d=x.g:=q9 h1;rw [←e];exact k
 ·have h1:s.d≠1:=fun z=>h1 (rf (by rw [z]))
  refine ⟨_,rfl,qx,_,_,_,rfl,rfl,SqT.of hqx2,aJ (j:=0) rfl,?_⟩;have e:too x s.d=x.s:=qZ h1;rw [←e];exact k
abbrev pL:cV:=top 16
abbrev sWayB:cV:=top 17
abbrev sRingBy:cV:=top 18
inductive spSteps (vs:List V)(H:Hp)(Q:VK)(_:XK):Prop
 | mk (v u b m sp tk x:_)(_:vs=[v,.ref u,.int x])(_:IsD H v (ka b m sp))(_:H u=some (.tup (tk.map fun (i:Nat)=>V.int i)))(_:(∀ i∈tk,i<sp.length))(_:tk.length≤40)(_:∀ L H' zs,Same H H'→H L=none→H' L=some (.lst zs)→IsDs H' zs (dI Stp.row (d9 sp tk x))→Q (.ref L) H')
inductive spWayBt (vs:List V)(H:Hp)(Q:VK)(_:XK):Prop
 | mk (v u b m sp tk be en:_)(_:vs=[v,.ref u,.int be,.int en])(_:IsD H v (ka b m sp))(_:NetT b m sp)(_:H u=some (.tup (tk.map fun (i:Nat)=>V.int i)))(_:(∀ i∈tk,i<sp.length))(_:tk.length≤40)(_:0≤be)(_:be<m)(_:Held sp tk be en)(_:∀ q H' p,Same H H'→IsD H' q (mS p)→WayR sp tk be en p→Q q H')
inductive spRingBy (T:ao)(lp:Pos)(lq:Str)(vs:List V)(H:Hp)(Q:VK)(_:XK):Prop
 | mk (v b m sp k:_)(_:vs=[v,.int (k:Nat)])(_:IsD H v (ka b m sp))(_:NetT b m sp)(_:L2.LamT T lp lq H)(_:k<sp.length)(_:∀ q H' (l π:List Nat) p,L2.Tb T H H'→L2.LamT T lp lq H'→IsD H' q (mS (⟨k,1⟩::p))→IsFor m.toNat sp (l.map fun (i:Nat)=>(i:Int))→Ordd sp π→l.Perm (kG sp m.toNat π).2→WayR sp l (sAt sp k).g (sAt sp k).s p→Q q H')
def DW (H:Hp):List (Key×V)→List (Int×List Stp)→Prop:=jS fun (p:Key×V) (q:Int×List Stp)=>p.1= .inl q.1∧IsD H p.2 (mS q.2)
theorem DW.none {H:Hp}{x:Int}:∀ {kvs:List (Key×V)} {l:List (Int×List Stp)},DW H kvs l→lkW l x=none→nQ kvs (.inl x)=none
 | _,_,.nil,_=>rfl
 | _,_,.cons (b:=q) r t,h=>by
  rw [k7] at h
  by_cases e:q.1=x
  ·rw [q9 e] at h;cases h
  ·rw [qZ e] at h
   rw [ix (fun z=>e (Sum.inl.inj (r.1.symm.trans z)))];exact DW.none t h
theorem DW.some {H:Hp}{x:Int}{ws:List Stp}:∀ {kvs:List (Key×V)} {l:List (Int×List Stp)},DW H kvs l→lkW l x=some ws→∃ v,nQ kvs (.inl x)=some v∧IsD H v (mS ws)
 | _,_,.nil,h=>by cases h
 | _,_,.cons (b:=q) r t,h=>by
  rw [k7] at h
  by_cases e:q.1=x
  ·rw [q9 e] at h
   cases h;exact ⟨_,iL (by rw [r.1,e]),r.2⟩
  ·rw [qZ e] at h
   rw [ix (fun z=>e (Sum.inl.inj (r.1.symm.trans z)))];exact DW.some t h
theorem qy {ws:List Stp}(e:TupK H H')(h:IsD H v (mS ws)):IsD H' v (mS ws):=by
 obtain ⟨p,ys,rfl,hp,_,r⟩:=iG h;exact .tup (e _ _ hp) (cf e r)
theorem DW.keep (e:TupK H H'){kvs:List (Key×V)}{l:List (Int×List Stp)}(h:DW H kvs l):DW H' kvs l:=L2.Paired.mapP h fun _ _ z=>⟨z.1,qy e z.2⟩
theorem DW.len {H:Hp}:∀ {kvs:List (Key×V)} {l:List (Int×List Stp)},DW H kvs l→kvs.length=l.length
 | _,_,.nil=>rfl
 | _,_,.cons _ t=>rm (· + 1) (DW.len t)
theorem DW.snoc {H:Hp}{p:Key×V}{q:Int×List Stp}(h:p.1= .inl q.1∧IsD H p.2 (mS q.2)):∀ {kvs:List (Key×V)} {l:List (Int×List Stp)},DW H kvs l→DW H (kvs++[p]) (l++[q])
 | _,_,.nil=> .cons h .nil
 | _,_,.cons r t=> .cons r (DW.snoc h t)
structure JW (H Hc:Hp)(Da La:ao)(c:List (Int×List Stp)×List Int):Prop where
 same:Same H Hc
 da:∃ kvs,Hc Da=some (.dK kvs)∧DW Hc kvs c.1
 la:Hc La=some (.lst (c.2.map V.int))
theorem JW.on {Hc':Hp}{La:ao}(j:JW H Hc Da La c)(e:Same Hc Hc'):JW H Hc' Da La c:=by
 obtain ⟨kvs,h1,h2⟩:=j.da;exact ⟨j.same.trans e,⟨kvs,e _ _ h1,h2.keep (Same.tupK e)⟩,e _ _ j.la⟩
theorem JW.upL {La:ao}{td:List Int}(j:JW H Hc Da La c)(hL:H La=none)(n:Da≠La):JW H (upd Hc La (.lst (td.map V.int))) Da La (c.1,td):=by
 obtain ⟨kvs,h1,h2⟩:=j.da;exact ⟨fun a o e=>by rw [br (bf e hL)];exact j.same a o e,⟨kvs,by rw [br n];exact h1,h2.keep (fb j.la)⟩,aS⟩
theorem mapI_at {x:V}(h:(l.map fun (i:Nat)=>V.int i)[i]? =some x):∃ j,l[i]? =some j∧x=V.int (j:Nat):=by
 rw [az] at h;obtain ⟨j,hj,rfl⟩:=bI.mp h;exact ⟨j,hj,rfl⟩
theorem mX {s:Stp}(h:s.i<sp.length):too (sAt sp s.i) s.d=fF sp s∧frm (sAt sp s.i) s.d=lI sp s:=by
 have e:sAt sp s.i=sp[s.i]:=by unfold sAt;rw [ai,gE h];rfl
 rw [e];exact ⟨(kT h).symm,(mL h).symm⟩
theorem last_mem {l:List Int}(h:l.getLast? =some z):z∈l:=by
 obtain ⟨ys,rfl⟩:=List.getLast?_eq_some_iff.mp h;simp
theorem scSteps:cp ["net","spans","happening","steps"] pzk (defScope pL):=by trivial
theorem ok_steps (F:Fun K "steps_from" "steps_from" pL f fd)(G1:Fn K mg "leads_from" sFrom pzc f1 fd1):dv P w K mg base CX0 2 f fd pzk spSteps:=by
 have F1:dv P w K mg base CX0 1 f1 fd1 pzc spFrom:=ok_from G1.F;refine F.ok scSteps (by contradiction) (fun cdv A outer s H vs Q E hr h=>?_);obtain ⟨v,u,b,m,sp,tk,x,rfl,hv,hu,hlt,few,k⟩:=h;have hr1:=hr;refine ⟨_,PSl.h (aU ⟨(bC (i:=3) scSteps.nd rfl (.inl rfl) (b9 og (i7 (fr:=[]) (js:=[]) rfl (j8 (pv 1)) (by trivial) rfl (by trivial) rfl (by exists pL) (by trivial) rfl (by trivial) (fun _ _ _ _ _=>⟨(d8 (ae (pv 0) (ae bg aB))),iH⟩)) (i7 (fr:=[]) (js:=[]) rfl (j8 (pv 1)) (by trivial) rfl (by trivial) rfl (by exists pL) (by trivial) rfl (by trivial) (fun _ _ _ _ _=>⟨(d8 (ae (pv 0) (ae (oB lG bg) aB))),iH⟩))))⟩
  (dH ⟨(cx (i7 (fr:=["happening","net"]) (js:=[2,0]) rfl (jk (pv 3)) (by trivial) rfl (by trivial) rfl (by exists pL) (by trivial) rfl (by trivial) (fun _ _ _ _ _=>⟨(pv 0),(pQ (cG mm (pc1 G1 F1 hr1 (ae (pv 2) (ae (pv 0) aB))) (pv 1) (dg _)))⟩)))⟩)),?_⟩
 have half:∀ (d:Int) (td:TE) (H0:Hp) (Rt:V→Hp→Prop),(∀ σ H1 (R:VK),R (.int d) H1→td σ H1 R)→Same H H0→(∀ L H' zs,Same H0 H'→H' L=some (.lst zs)→IsDs H' zs (dI Stp.row (tk.map fun i=>⟨i,d⟩))→Rt (.ref L) H') →
   CompW [] tNoIf (tTupA (o8 (tVar 0) (o8 td tNil))) [some v,some (.ref u),some (.int x),none] Rt (Itt K u) H0:=fun d td H0 Rt htd S0 fin=>by
  refine lx (K:=K) (a:=u) (xs:=tk.map fun (i:Nat)=>V.int i) (fun i zs HC=>Same H0 HC∧zs.length=i∧IsDs HC zs (dI Stp.row ((tk.take i).map fun i=>⟨i,d⟩))) ⟨Same.refl H0,rfl,.nil⟩ (fun i zs HC hi ⟨e1,e2,_⟩=>⟨SqT.of (e1 _ _ (S0 _ _ hu)),Nat.le_of_eq e2⟩) (by rw [aa];exact eG (by lia)) (fun i y zs HC hy ⟨e1,e2,e3⟩=>?_) (fun zs HC ⟨e1,e2,e3⟩ D hD=>?_)
  ·obtain ⟨j,hj,rfl⟩:=mapI_at hy
   refine gQ ⟨_,rfl,htd _ _ _ ⟨mU,fun q H2 S2 h2=>⟨e1.trans S2,by rw [av,e2];rfl,?_⟩⟩⟩;rw [bj,hj];show IsDs H2 (zs++[.ref q]) (dI Stp.row ((tk.take i++[j]).map fun i=>⟨i,d⟩));unfold dI at e3 ⊢;rw [ay,ay];exact (e3.same S2).append (.cons (.tup h2 (IsDs.ints (Stp.row ⟨j,d⟩))) .nil)
  ·have S2:=Same.put (Same.refl HC) hD (o:= .lst zs)
   rw [aa,bc] at e3;exact fin D _ zs (e1.trans S2) aS (e3.same S2)
 refine ⟨_,rfl,u,rfl,⟨_,SqT.of hu⟩,half 1 _ H _ (fun _ _ _ h=>h) (Same.refl H) fun L1 H1 z1 S1 h1 d1=>?_⟩;refine ⟨_,rfl,u,rfl,⟨_,SqT.of (S1 _ _ hu)⟩,half (-1) _ H1 _ (fun _ _ _ h=>⟨1,rfl,h⟩) S1 fun L2' H2 z2 S2 h2 d2=>?_⟩;have l1:z1.length=tk.length:=by rw [d1.length];unfold dI;rw [aa,aa]
 have l2:z2.length=tk.length:=by rw [d2.length];unfold dI;rw [aa,aa]
 refine ⟨L1,L2',_,_,rfl,rfl,S2 _ _ h1,h2,by rw [l1,l2];exact eG (by lia),fun L3 H3 S3 h3=>?_⟩;have d3:IsDs H3 (z1++z2) (dI Stp.row (stF tk)):=by
  unfold stF dI;rw [ay];exact ((d1.same S2).same S3).append (d2.same S3)
 have S03:=S1.trans (S2.trans S3);have hv3:=hv.same S03;refine ⟨_,rfl,L3,rfl,⟨_,SqL.of h3⟩,?_⟩;have ls:(z1++z2).length=(stF tk).length:=by rw [d3.length];unfold dI;rw [aa]
 refine kK (K:=K) (a:=L3) (xs:=z1++z2) (fun i zs HC=>HC=H3∧zs.length≤i∧IsDs H3 zs (dI Stp.row (((stF tk).take i).filter fun s=>decide (lI sp s=x)))) ⟨rfl,bF _,.nil⟩ (fun i zs HC hi ⟨e1,e2,_⟩=>⟨by rw [e1];exact SqL.of h3,e2⟩) (by rw [av,l1,l2];exact eG (by lia)) (fun i y zs HC hy ⟨e1,e2,e3⟩=>?_) (fun zs HC ⟨e1,e2,e3⟩ D hD=>?_)
 ·subst e1
  have hi:i<(stF tk).length:=by have:=(aq.mp hy).1;lia
  have hsi:=gE hi;obtain ⟨y',hy',dy⟩:=d3.at (i:=i) (d:= .tup ((Stp.row (stF tk)[i]).map Dt.int)) (by unfold dI;rw [az,hsi];rfl);rw [hy] at hy';cases hy';obtain ⟨q,qs,rfl,hq,rq⟩:=dy.tup_of;have eq:=rq.ints_of;subst eq;have hin:=hlt _ (mem_stF (bH hi)).1;refine ⟨_,rfl,_,rfl,v,q,b,m,sp,(stF tk)[i],sAt sp (stF tk)[i].i,rfl,hv3,hq,jh hin,_,rfl,rfl,_,rfl,?_⟩;rw [(mX hin).2];have nx:((stF tk).take (i+1)).filter (fun s=>decide (lI sp s=x))=((stF tk).take i).filter (fun s=>decide (lI sp s=x))++(if lI sp (stF tk)[i]=x then [(stF tk)[i]] else []):=by
   rw [bj,hsi,jd];show _++[(stF tk)[i]].filter _=_;rw [gZ,List.filter_nil]
   by_cases e:lI sp (stF tk)[i]=x
   ·rw [q9 e,q9 (rf e)]
   ·rw [qZ e,qZ (by rw [rh e];decide)]
  rw [nx]
  by_cases e:lI sp (stF tk)[i]=x
  ·rw [q9 e,e,rf rfl]
   refine iteT ⟨_,rfl,rfl,by rw [av];exact jT e2,?_⟩;unfold dI at e3 ⊢;rw [ay];exact e3.append (.cons dy .nil)
  ·rw [qZ e,rh (fun z=>e (V.int.inj z)),eU]
   exact iteF ⟨rfl,Nat.le_succ_of_le e2,e3⟩
 ·subst e1
  have S4:=Same.put (Same.refl HC) hD (o:= .lst zs);rw [ls,bc] at e3;exact k D _ zs (S03.trans S4) (Same.free S03 hD) aS (e3.same S4)
theorem qI:cp ["net","spans","begin","end","ways","ahead","here","step","there"] pzE (defScope sWayB):=by trivial
theorem ok_wayBt (F:Fun K "way_between" "way_between" sWayB f fd)(G1:Fn K mg "steps_from" pL pzk f1 fd1)(F1:dv P w K mg base CX0 2 f1 fd1 pzk spSteps)(G2:Fn K mg "leads_to" sTo pzc f2 fd2):dv P w K mg base CX0 3 f fd pzE spWayBt:=by
 have F2:dv P w K mg base CX0 1 f2 fd2 pzc spTo:=ok_to G2.F;refine F.ok qI (by contradiction) (fun cdv A outer s H vs Q E hr h=>?_);obtain ⟨v,u,b,m,sp,tk,be,en,rfl,hv,N,hu,hlt,few,be0,be1,held,k⟩:=h;have u1:=bY (Nat.add_le_add_left (by decide:1≤64) _) hr.units;have hr1:Room 1 _:=hr.mono (by decide);have E:=N.ends;have m16:m.toNat≤16:=by have:=N.m2;lia
 have b1:be<(m.toNat:Int):=by lia
 refine ⟨_,PSl.h (aU ⟨(bC (i:=4) qI.nd rfl (.inl rfl) (pe_disp (pps_cons (pv 2) (d8 aB) pps_nil) rfl rfl (by decide) (by decide)))⟩
  (aU ⟨(bC (i:=5) qI.nd rfl (.inl rfl) (iY (ae (pv 2) aB)))⟩
  (aU ⟨(oX bL (pt_cmp (nj u1 (pv 3) (pv 4)) rfl) (PSl.h (aU ⟨(bC (i:=6) qI.nd rfl (.inl rfl) (qO bp fv fu qQ (pv 5)))⟩
  (dH ⟨(iC bL rfl (jk (pc1 G1 F1 hr (ae (pv 0) (ae (pv 1) (ae (pv 6) aB))))) (cY (i:=7) qI.nd rfl (.inl rfl)) (PSl.h (aU ⟨(bC (i:=8) qI.nd rfl (.inl rfl) (pc1 G2 F2 hr1 (ae (pv 0) (ae (pv 7) aB))))⟩
  (dH ⟨(gR (pt_cmp (nj u1 (pv 8) (pv 4)) rfl) (PSl.h (aU ⟨(ps_dput u1 (pv 4) (pv 8) (b9 pX (pe_dget u1 (pv 4) (pv 6) (fun _ _=>rfl)) (d8 (ae (pv 7) aB))) rfl)⟩
  (dH ⟨(ik (lH bp cu cq g9 (pv 5) (ae (pv 8) aB)))⟩))) d7)⟩))))⟩))))⟩
  (dH ⟨(cx (pe_dget u1 (pv 4) (pv 3) (fun _ _=>rfl)))⟩)))),?_⟩
 intro Da hDa;refine ⟨_,rfl,bF _,fun q1 H1 S1 h1=>⟨S1 _ _ aS,[(.inl be,.ref q1)],rfl,(by show 1≤15;decide),?_⟩⟩;have S0:Same H (upd H Da (.dK [])):=Same.put (Same.refl H) hDa;have hDa1:H1 Da=some (.dK []):=S1 _ _ aS;have hDa2:(upd H1 Da (.dK (nu [] [(.inl be,.ref q1)]))) Da=some (.dK [(.inl be,.ref q1)]):=aS;have S2:Same H (upd H1 Da (.dK (nu [] [(.inl be,.ref q1)]))):=fun b o e=>by
  rw [br (fun z=>by rw [z,hDa] at e;cases e)];exact S1 _ _ (S0 _ _ e)
 have hq1:(upd H1 Da (.dK (nu [] [(.inl be,.ref q1)]))) q1=some (.tup []):=by
  rw [br (fH h1 hDa1 nofun)];exact h1
 generalize upd H1 Da (.dK (nu [] [(.inl be,.ref q1)]))=H2 at hDa2 S2 hq1 ⊢;clear hDa1 S0 S1 h1;refine ⟨_,rfl,szZ1,fun La hLa=>?_⟩;have nDL:Da≠La:=fun z=>by rw [z,hLa] at hDa2;cases hDa2
 have S3:Same H2 (upd H2 La (.lst [.int be])):=Same.put (Same.refl H2) hLa;have hLaH:H La=none:=by
  cases z:H La with
  | none=>rfl
  | some o=>rw [S2 _ _ z] at hLa;cases hLa
 have J3:JW H (upd H2 La (.lst [.int be])) Da La (itW sp tk be 0):=⟨S2.trans S3,⟨_,S3 _ _ hDa2,.cons ⟨rfl,.tup (S3 _ _ hq1) .nil⟩ .nil⟩,aS⟩;generalize upd H2 La (.lst [.int be])=H3 at J3 ⊢;clear S3 hLa hDa2 hq1 S2;have c0:(itW sp tk be 0).1.length+nN (itW sp tk be 0).1≤17:=by
  have:nN [(be,([]:List Stp))]≤16:=by
   unfold nN;have:=List.countP_le_length (p:=fun x:Nat=>(lkW [(be,([]:List Stp))] ((x:Nat):Int)).isNone) (l:=aQ 16);rw [bx] at this;exact this
  show 1+nN [(be,([]:List Stp))]≤17;lia
 have c1:2 * nN (itW sp tk be 0).1+(itW sp tk be 0).2.length≤40:=by
  have e1:(itW sp tk be 0).1.length=1:=rfl;have e2:(itW sp tk be 0).2.length=1:=rfl;lia
 refine ⟨fun n σ HA=>∃ (i:Nat) (v6 v7 v8:Option V),n=2 * nN (itW sp tk be i).1+(itW sp tk be i).2.length∧n≤40∧σ=[some v,some (.ref u),some (.int be),some (.int en),some (.ref Da),some (.ref La),v6,v7,v8]∧JW H HA Da La (itW sp tk be i)∧WI m.toNat sp tk be (itW sp tk be i)∧Clo sp tk (fun _=>False) (itW sp tk be i)∧(itW sp tk be i).1.length+nN (itW sp tk be i).1≤17∧∀ j,j<i→lkW (itW sp tk be j).1 en=none,
  ⟨_,0,none,none,none,rfl,c1,rfl,J3,(start_ok be0 b1).1,(start_ok be0 b1).2,c0,fun j hj=>rd hj (Nat.not_lt_zero _)⟩,?_⟩
 rintro n σ HA ⟨i,v6,v7,v8,rfl,n40,rfl,JA,WA,CA,lA,bA⟩;obtain ⟨kvs,hDaA,dwA⟩:=JA.da;refine ⟨_,rfl,_,rfl,Da,_,rfl,DGet.k (k:= .inl en) hDaA,_,rfl,?_⟩;cases hen:lkW (itW sp tk be i).1 en with
 | some p =>
  obtain ⟨vp,hvp,dp⟩:=dwA.some hen;rw [hvp];refine iteF ⟨_,rfl,_,rfl,Da,vp,rfl,?_,k vp HA p JA.same dp ⟨i,hen,bA⟩⟩;have:=DGet.k (k:= .inl en) hDaA;rw [hvp] at this;exact this
 | none =>
  rw [dwA.none hen];refine iteT ⟨_,fun σ' H' z=>z,?_⟩;have hne:=left_of hlt held WA CA hen;obtain ⟨t1,t2,t3,t4⟩:=turn_ok E m16 hlt WA CA hne;have hlast:(itW sp tk be i).2.getLast? =some (lW (itW sp tk be i).2):=by
   unfold lW;rw [List.getLast?_eq_some_getLast hne];rfl
  have hget:((itW sp tk be i).2.map V.int)[((itW sp tk be i).2.map V.int).length - 1]? =some (V.int (lW (itW sp tk be i).2)):=by
   rw [aa,az,←List.getLast?_eq_getElem?,hlast];rfl
  refine ⟨_,rfl,.inl ⟨rfl,_,SqL.of JA.la⟩,La,_,_,rfl,rfl,JA.la,hget,?_⟩;have JB:=JA.upL (td:=(itW sp tk be i).2.dropLast) hLaH nDL;rw [List.map_dropLast] at JB;generalize upd HA La (.lst ((itW sp tk be i).2.map V.int).dropLast)=HB at JB ⊢;have hx:lkW (itW sp tk be i).1 (lW (itW sp tk be i).2)≠none:=WA.ahd _ (last_mem hlast);have W0:WI m.toNat sp tk be ((itW sp tk be i).1,(itW sp tk be i).2.dropLast):=⟨WA.pth,WA.rng,fun y hy=>WA.ahd y ((List.dropLast_sublist _).subset hy),WA.beg⟩;have C0:Clo sp tk (· =lW (itW sp tk be i).2) ((itW sp tk be i).1,(itW sp tk be i).2.dropLast):=fun y hy hn ex t ht'=>CA y hy (fun z=>by
   rw [List.getLast?_eq_some_iff] at hlast;obtain ⟨ys,hys⟩:=hlast;rw [hys,gF] at hn;rw [hys] at z
   rcases aN.mp z with z | z
   ·exact hn z
   ·exact ex (ax.mp z)) (fun z=>z) t ht'
  have eT:itW sp tk be (i+1)=(d9 sp tk (lW (itW sp tk be i).2)).foldl (iI sp (lW (itW sp tk be i).2)) ((itW sp tk be i).1,(itW sp tk be i).2.dropLast):=rfl;have bN:∀ j,j<i+1→lkW (itW sp tk be j).1 en=none:=fun j hj=>by
   rcases ja.mp hj with h | h
   ·exact bA j h
   ·rw [h];exact hen
  rw [show qq sp tk (itW sp tk be i)=itW sp tk be (i+1) from rfl] at t1 t2 t3 t4;generalize lW (itW sp tk be i).2=x at hx C0 eT ⊢;generalize hc:((itW sp tk be i).1,(itW sp tk be i).2.dropLast)=c at JB W0 C0 eT;have hx:lkW c.1 x≠none:=by rw [←hc];exact hx
  have lc:c.1.length+nN c.1≤17:=by rw [←hc];exact lA
  have lc2:2 * nN c.1+c.2.length≤40:=by
   rw [←hc];show 2 * nN (itW sp tk be i).1+(itW sp tk be i).2.dropLast.length≤40;rw [List.length_dropLast];lia
  refine ⟨_,rfl,_,rfl,_,rfl,v,u,b,m,sp,tk,x,rfl,hv.same JB.same,JB.same _ _ hu,hlt,few,fun L HC zs SC fL hL dz=>⟨L,rfl,⟨_,SqL.of hL⟩,?_⟩⟩;have nLL:L≠La:=fun z=>by rw [z,JB.la] at fL;cases fL
  have JC:=JB.on SC;clear JB hc;have vis:∀ j:Nat,WI m.toNat sp tk be (((d9 sp tk x).take j).foldl (iI sp x) c)∧lkW (((d9 sp tk x).take j).foldl (iI sp x) c).1 x≠none∧(((d9 sp tk x).take j).foldl (iI sp x) c).1.length≤17∧(((d9 sp tk x).take j).foldl (iI sp x) c).2.length≤40:=fun j=>by
   obtain ⟨b1,_,_,b4,b5,b6⟩:=oZ E m16 hlt (L:=(d9 sp tk x).take j) W0 hx (fun t h=>j3 h) C0;exact ⟨b1,by rw [b4 x hx];exact hx,by lia,by lia⟩
  have lz:zs.length=(d9 sp tk x).length:=by rw [dz.length];unfold dI;rw [aa]
  refine lh (K:=K) (a:=L) (xs:=zs) (fun j σ HD=>JW H HD Da La (((d9 sp tk x).take j).foldl (iI sp x) c)∧HD L=some (.lst zs)∧IsDs HD zs (dI Stp.row (d9 sp tk x))∧∃ w7 w8,σ=[some v,some (.ref u),some (.int be),some (.int en),some (.ref Da),some (.ref La),some (.int x),w7,w8]) ⟨JC,hL,dz,_,_,rfl⟩ (fun j σ HD _ ⟨_,h,_⟩=>SqL.of h) ?_ ?_
  ·rintro j y σ HD hy ⟨JD,hLD,dD,w7,w8,rfl⟩
   have hj:j<(d9 sp tk x).length:=by have:=(aq.mp hy).1;lia
   have hsj:=gE hj;obtain ⟨y',hy',dy⟩:=dD.at (i:=j) (d:= .tup ((Stp.row (d9 sp tk x)[j]).map Dt.int)) (by unfold dI;rw [az,hsj];rfl);rw [hy] at hy';cases hy';obtain ⟨q,qs,rfl,hq,rq⟩:=dy.tup_of;have eq:=rq.ints_of;subst eq;have hmem:(d9 sp tk x)[j]∈d9 sp tk x:=bH hj;have hin:=hlt _ (mem_stF (cA.mp hmem).1).1;have fold:((d9 sp tk x).take (j+1)).foldl (iI sp x) c=iI sp x (((d9 sp tk x).take j).foldl (iI sp x) c) (d9 sp tk x)[j]:=by
    rw [bj,hsj];show ((d9 sp tk x).take j++[(d9 sp tk x)[j]]).foldl _ _=_;rw [eN];rfl
   rw [fold];obtain ⟨Wj,xj,kj,aj⟩:=vis j;generalize ((d9 sp tk x).take j).foldl (iI sp x) c=d at JD Wj xj kj aj;generalize (d9 sp tk x)[j]=st at hq hin dy;refine ⟨_,rfl,_,rfl,v,q,b,m,sp,st,sAt sp st.i,rfl,hv.same JD.same,hq,jh hin,?_⟩;rw [(mX hin).1];obtain ⟨kv2,hDaD,dwD⟩:=JD.da;refine ⟨_,rfl,_,rfl,Da,_,rfl,DGet.k (k:= .inl (fF sp st)) hDaD,_,rfl,?_⟩;cases hto:lkW d.1 (fF sp st) with
   | some p0 =>
    obtain ⟨vp,hvp,_⟩:=dwD.some hto;rw [hvp];have ev:iI sp x d st=d:=by unfold iI;exact qZ (by rw [hto];exact fun z=>nomatch z)
    rw [ev];exact iteF ⟨JD,hLD,dD,_,_,rfl⟩
   | none =>
    rw [dwD.none hto];refine iteT ?_;obtain ⟨ws,hws⟩:∃ ws,lkW d.1 x=some ws:=Option.ne_none_iff_exists'.mp xj;have ev:iI sp x d st=(d.1++[(fF sp st,ws++[st])],d.2++[fF sp st]):=by
     unfold iI;rw [q9 hto,hws];rfl
    rw [ev];obtain ⟨vw,hvw,dw⟩:=dwD.some hws;obtain ⟨pw,yw,rfl,hpw,hlw,rw'⟩:=iG dw;have hget':DGet HD Da (V.int x) (some (.ref pw)):=by
     have:=DGet.k (k:= .inl x) hDaD;rw [hvw] at this;exact this
    have lw:=((Wj.pth x ws hws).1.len E be0 b1);refine ⟨_,rfl,_,rfl,Da,.ref pw,rfl,hget',_,rfl,szZ1,fun q4 H16 S16 h16=>⟨pw,q4,_,_,rfl,rfl,S16 _ _ hpw,h16,?_,fun q5 H17 S17 h17=>?_⟩⟩
    ·rw [hlw];exact bo (by show ws.length+1≤1000;lia) (by decide)
    have ST:=S16.trans S17;have hDa7:=ST _ _ hDaD;have dw7:=dwD.keep (Same.tupK ST);have hLa7:=ST _ _ JD.la;have hL7:=ST _ _ hLD;have dD7:=dD.same ST;have S7:=JD.same.trans ST;have lk:kv2.length≤17:=by rw [dwD.len];exact kj
    refine ⟨_,rfl,_,rfl,Da,_,rfl,DPut.k (k:= .inl (fF sp st)) hDa7 (bY (by lia:kv2.length≤999) (by decide)),?_⟩;have hway:IsD H17 (.ref q5) (mS (ws++[st])):=by
     refine .tup h17 ?_;rw [ay];exact (rw'.same ST).append (.cons (dy.same ST) .nil)
    rw [putK_new _ (dwD.none hto)];have K8:TupK H17 (upd H17 Da (.dK (kv2++[(.inl (fF sp st),.ref q5)]))):=fun q xs h=>by rw [br (fH h hDa7 nofun)];exact h
    have hDa8:(upd H17 Da (.dK (kv2++[(.inl (fF sp st),.ref q5)]))) Da=some (.dK (kv2++[(.inl (fF sp st),.ref q5)])):=aS;have dw8:DW (upd H17 Da (.dK (kv2++[(.inl (fF sp st),.ref q5)]))) (kv2++[(.inl (fF sp st),.ref q5)]) (d.1++[(fF sp st,ws++[st])]):=DW.snoc ⟨rfl,qy K8 hway⟩ (dw7.keep K8);have hLa8:(upd H17 Da (.dK (kv2++[(.inl (fF sp st),.ref q5)]))) La=some (.lst (d.2.map V.int)):=by rw [br nDL.symm];exact hLa7
    have nLD:L≠Da:=fH hLD hDaD nofun;have hL8:(upd H17 Da (.dK (kv2++[(.inl (fF sp st),.ref q5)]))) L=some (.lst zs):=by rw [br nLD];exact hL7
    have S8:Same H (upd H17 Da (.dK (kv2++[(.inl (fF sp st),.ref q5)]))):=fun a o e=>by rw [br (bf e hDa)];exact S7 a o e
    have dD8:IsDs (upd H17 Da (.dK (kv2++[(.inl (fF sp st),.ref q5)]))) zs (dI Stp.row (d9 sp tk x)):=cf K8 dD7;generalize upd H17 Da (.dK (kv2++[(.inl (fF sp st),.ref q5)]))=H8 at hDa8 dw8 hLa8 hL8 S8 dD8 ⊢;refine ⟨_,rfl,.inl ⟨rfl,_,SqL.of hLa8⟩,_,rfl,La,_,_,rfl,rfl,hLa8,mZ (by rw [aa];lia),?_⟩;have J8:JW H H8 Da La (d.1++[(fF sp st,ws++[st])],d.2):=⟨S8,⟨_,hDa8,dw8⟩,hLa8⟩;have J9:=J8.upL (td:=d.2++[fF sp st]) hLaH nDL;rw [ay] at J9;refine ⟨J9,?_,cf (fb hLa8) dD8,_,_,rfl⟩;rw [br nLL];exact hL8
  ·rintro σ HD ⟨JD,hLD,dD,w7,w8,rfl⟩
   rw [lz,bc,←eT] at JD;exact ⟨_,t3,i+1,_,_,_,rfl,by lia,rfl,JD,t1,t2,by lia,bN⟩
theorem IsFor.natsF (a:IsFor m sp ns):∃ (l π:List Nat),ns=l.map (fun (i:Nat)=>(i:Int))∧Ordd sp π∧l.Perm (kG sp m π).2:=by
 obtain ⟨π,o,p,_⟩:=a;have nn:∀ x∈ns,0≤x:=fun x hx=>by
  obtain ⟨i,_,rfl⟩:=bh.mp (p.mem_iff.mp hx);lia
 refine ⟨ns.map Int.toNat,π,?_,o,?_⟩
 ·rw [dY]
  conv=>lhs;rw [←List.map_id ns]
  exact fV fun x hx=>(g6 (nn x hx)).symm
 ·have q:=p.map Int.toNat
  rw [dY] at q;have e:((kG sp m π).2.map (Int.toNat ∘ fun (i:Nat)=>(i:Int)))=(kG sp m π).2:=by
   conv=>rhs;rw [←List.map_id (kG sp m π).2]
   exact fV fun x _=>rfl
  rw [e] at q;exact q
theorem gone_ltF (O:Ordd sp π)(pm:l.Perm (kG sp m π).2):∀ i∈l,i<sp.length:=fun i hi=>by
 rcases (ku sp π (kt m,[])).1 i (pm.mem_iff.mp hi) with z | z
 ·cases z
 ·exact O.lt z
theorem scRingBy:cp ["net","span","start","goal"] pzh (defScope sRingBy):=by trivial
theorem ok_ringBy (F:Fun K "ring_by" "ring_by" sRingBy f fd)(G1:Fn K mg "way_between" sWayB pzE f1 fd1)(F1:dv P w K mg base CX0 3 f1 fd1 pzE spWayBt)
  (G2:Fn K mg "forest_of" lQ pza f2 fd2) (F2:dv P w K mg base CX0 6 f2 fd2 pza (kW Tb0 lp lq)):dv P w K mg base CX0 7 f fd pzh (spRingBy Tb0 lp lq):=by
 refine F.ok scRingBy (by contradiction) (fun cdv A outer s H vs Q E hr h=>?_);obtain ⟨v,b,m,sp,k,rfl,hv,N,hT,hk,fin⟩:=h;obtain ⟨t,p,ys,rfl,ht,hp,hl,hy⟩:=fR hv;obtain ⟨q,hq,hq2⟩:=hy k _ (jh hk);have hr1:Room 3 _:=hr.mono (by decide);have E:=N.ends;have few:=N.few;obtain ⟨a0,a1,b0,b1⟩:=E _ (eQ hk);refine ⟨_,PSl.h (aU ⟨(bC (i:=2) scRingBy.nd rfl (.inl rfl) (ixZ (dN dQ (ixZ (pv 0)) (pv 1) (fun _ _=>rfl))))⟩
  (aU ⟨(bC (i:=3) scRingBy.nd rfl (.inl rfl) (ixZ (dN dQ (ixZ (pv 0)) (pv 1) (fun _ _=>rfl))))⟩
  (dH ⟨(cx (b9 pX (d8 (ae (d8 (ae (pv 1) (ae bg aB))) aB)) (pc1 G1 F1 hr1 (ae (pv 0) (ae (pc1 G2 F2 hr (ae (pv 0) aB)) (ae (pv 3) (ae (pv 2) aB)))))))⟩))),?_⟩
 refine ⟨_,rfl,t,_,_,_,rfl,rfl,SqT.of ht,aJ (j:=2) rfl,_,rfl,p,_,_,_,rfl,rfl,SqT.of hp,aJ (j:=k) hq,q,_,_,_,rfl,rfl,SqT.of hq2,aJ (j:=0) rfl,?_⟩;refine ⟨_,rfl,t,_,_,_,rfl,rfl,SqT.of ht,aJ (j:=2) rfl,_,rfl,p,_,_,_,rfl,rfl,SqT.of hp,aJ (j:=k) hq,q,_,_,_,rfl,rfl,SqT.of hq2,aJ (j:=1) rfl,?_⟩;refine ⟨_,rfl,mU,fun q1 H1 S1 h1=>⟨szZ1,fun q2 H2 S2 h2=>⟨_,rfl,_,rfl,.ref t,b,m,sp,rfl,hv.same (S1.trans S2),N,LamT.same (S1.trans S2) hT,fun u H3 ns tb3 hT3 hu F0=>?_⟩⟩⟩;have hT2:=LamT.same (S1.trans S2) hT;have K3:=Tb.tupK (LamT.tbl hT2) tb3;obtain ⟨l,π,rfl,O,pm⟩:=F0.natsF;have hlt:=gone_ltF O pm;have lfew:l.length≤40:=by have:=F0.len;rw [aa] at this;lia
 rw [dY] at hu;refine ⟨_,rfl,_,rfl,.ref t,u,b,m,sp,l,(sAt sp k).g,(sAt sp k).s,rfl,cB K3 (hv.same (S1.trans S2)),N,hu,hlt,lfew,b0,by have:=N.m1;lia,held_span E O pm hk,fun w4 H4 pth S4 d4 wr=>?_⟩;obtain ⟨pw,yw,rfl,hpw,hlw,rw'⟩:=iG d4;have hP:=WayR.pth E (by have:=N.m2;lia) hlt b0 b1 (held_span E O pm hk) wr;have ln:=hP.len E b0 b1;have h24:=S4 _ _ (K3 _ _ h2);have h14:=S4 _ _ (K3 _ _ (S2 _ _ h1));refine ⟨q2,pw,_,_,rfl,rfl,h24,hpw,?_,fun q5 H5 S5 h5=>?_⟩
 ·rw [hlw];have:=N.m2;exact bo (by show 1+pth.length≤1000;lia) (by decide)
 refine fin _ H5 l π pth ((Same.tb (S1.trans S2)).trans (tb3.trans (Same.tb (S4.trans S5)))) (LamT.same (S4.trans S5) hT3) ?_ F0 O pm wr;exact .tup h5 (.cons (.tup (S5 _ _ h14) (IsDs.ints (Stp.row ⟨k,1⟩))) (rw'.same S5))
abbrev pM:cV:=top 20
theorem inV_intsF (x:Int):∀ p:List Int,inV (.int x) (p.map V.int)=decide (x∈p)
 | []=>by simp [inV]
 | y::p=>by
  have ih:=inV_intsF x p;unfold inV at ih ⊢;rw [cj,jX,ih]
  by_cases e:y=x
  ·subst e;simp [eqV]
  ·have:eqV (.int y) (.int x)=false:=by simp [eqV,e]
   rw [this];simp [aG,bX e]
theorem inV_nat (x:Nat)(l:List Nat):inV (.int (x:Int)) (l.map fun (i:Nat)=>V.int i)=decide (x∈l):=by
 have e:(l.map fun (i:Nat)=>V.int i)=(l.map fun (i:Nat)=>(i:Int)).map V.int:=by rw [dY];rfl
 rw [e,inV_intsF];refine decide_eq_decide.mpr ⟨fun h=>?_,fun h=>bh.mpr ⟨x,h,rfl⟩⟩;obtain ⟨j,hj,e⟩:=bh.mp h;have:j=x:=by lia
 rw [←this];exact hj
theorem scRingsO:cp ["net","taken"] pza (defScope pM):=by trivial
theorem ok_ringsO (F:Fun K "rings_of" "rings_of" pM f fd)(T:Nm mg)(T2:Nt mg)(G1:Fn K mg "forest_of" lQ pza f1 fd1)(F1:dv P w K mg base CX0 6 f1 fd1 pza (kW Tb0 lp lq))(G2:Fn K mg "ring_by" sRingBy pzh f2 fd2)(F2:dv P w K mg base CX0 7 f2 fd2 pzh (spRingBy Tb0 lp lq)):dv P w K mg base CX0 8 f fd pza (oP Tb0 lp lq):=by
 refine F.ok scRingsO (by contradiction) (fun cdv A outer s H vs Q E hr h=>?_);obtain ⟨v,b,m,sp,rfl,hv,N,hT,k⟩:=h;have hr6:Room 6 _:=hr.mono (by decide);have E:=N.ends;have few:=N.few;have m1:=N.m1;refine ⟨_,PSl.h (aU ⟨(bC (i:=1) scRingsO.nd rfl (.inr rfl) (pc1 G1 F1 hr6 (ae (pv 0) aB)))⟩
  (dH ⟨(cx (i7 (fr:=["net","taken"]) (js:=[0,1]) rfl (iJ rfl T2.range (ae (cM cg rfl T.len bP (ae (ixZ (pv 0)) aB)) aB)) (by trivial) rfl (by trivial) rfl (by exists pM) (by trivial) rfl (by trivial) (fun _ _ _ _ _=>⟨(pc1 G2 F2 hr (ae (pv 1) (ae (pv 0) aB))),(pQ (cG (r:=rIn K true) ow (pv 0) (pv 2) rfl))⟩)))⟩)),?_⟩
 refine ⟨_,rfl,v,b,m,sp,rfl,hv,N,hT,fun u H1 ns tb1 hT1 hu F0=>?_⟩;obtain ⟨l,π,rfl,O,pm⟩:=F0.natsF;have fr:FrstL m.toNat sp l:=⟨F0,π,O,pm⟩;rw [dY] at hu;have hu:H1 u=some (.tup (l.map fun (i:Nat)=>V.int i)):=hu;have hv1:=cB (Tb.lamT hT tb1) hv;obtain ⟨t,p,ys,rfl,ht,hp,hl,hy⟩:=fR hv1;refine ⟨_,rfl,t,_,_,_,rfl,rfl,SqT.of ht,aJ (j:=2) rfl,p,_,rfl,.inr (SqT.of hp),_,rfl,by lia,by lia,?_⟩;refine kJ (n:=((ys.length:Int)).toNat) (fun i zs HC=>L2.Tb Tb0 H1 HC∧L2.LamT Tb0 lp lq HC∧∃ rg:List (Nat×List Stp),zs.length≤i∧IsDs HC zs (rg.map wayQ)∧(∀ q∈rg,RK sp l q)∧rg.map (·.1)=(aQ i).filter fun k=> !(decide (k∈l))) ⟨Tb.refl H1,hT1,[],aC _,.nil,fun _ h=>rd h (by simp),rfl⟩ (fun i zs HC hi ⟨_,_,_,e2,_⟩=>e2) (eG (by lia)) (fun i zs HC hi ⟨tb,hTC,rg,lz,dz,hrk,hks⟩=>?_) (fun zs HC ⟨tb,hTC,rg,lz,dz,hrk,hks⟩ D hD=>?_)
 ·rw [gc]
  have hin:i<sp.length:=by lia
  have KC:=Tb.lamT hT1 tb;have ef:(aQ (i+1)).filter (fun k=> !(decide (k∈l)))=(aQ i).filter (fun k=> !(decide (k∈l)))++(if i∈l then [] else [i]):=by
   rw [List.range_succ,jd];congr 1;rw [gZ,List.filter_nil]
   by_cases c:i∈l
   ·rw [q9 c,rf c];rfl
   ·rw [qZ c,rh c];rfl
  refine ⟨_,rfl,_,rfl,u,_,rfl,.inr (SqT.of (KC _ _ hu)),rfl,(by rw [List.all_map];exact List.all_eq_true.mpr fun _ _=>rfl),_,rfl,?_⟩;rw [inV_nat];show if (!(decide (i∈l)))=true then _ else _;rw [ef];refine ite2 (fun hc=>?_) (fun hc=>?_)
  rotate_left
  ·have c:i∈l:=by simpa using hc
   rw [q9 c,eU];exact ⟨tb,hTC,rg,by lia,dz,hrk,hks⟩
  have c:i ∉ l:=by simpa using hc
  rw [qZ c];refine ⟨_,rfl,_,rfl,.ref t,b,m,sp,i,rfl,cB KC hv1,N,hTC,hin,fun q HD l' π' pw tbD hTD dq F0' O' pm' wr=>?_⟩;have el:l'=l:=FrstL.one (m:=m.toNat) (sp:=sp) ⟨F0',π',O',pm'⟩ fr;subst el;obtain ⟨s0,s1,g0,g1⟩:=E _ (eQ hin);have hlt:=(fr.pots E).nodup.2;have Pw:=WayR.pth E (by have:=N.m2;lia) hlt g0 g1 (fr.held E hin).symm wr;have KD:=Tb.lamT hTC tbD;refine ⟨tb.trans tbD,hTD,rg++[(i,⟨i,1⟩::pw)],by rw [av];show zs.length+1≤i+1;lia,?_,fun q' hq'=>?_,by rw [ay,hks];rfl⟩
  ·rw [ay]
   exact (IsDs.keepP KD dz (k4 rg fun q _=>mE _ _)).append (.cons dq .nil)
  ·rcases aN.mp hq' with z | z
   ·exact hrk q' z
   ·rw [ax.mp z];exact ⟨hin,c,pw,rfl,Pw⟩
 ·have SD:Same HC (upd HC D (.lst zs)):=Same.put (Same.refl HC) hD
  have hDH:H D=none:=by
   cases z:H D with
   | none=>rfl
   | some o =>
    by_cases e:D=Tb0
    ·subst e
     obtain ⟨ps,hps⟩:=LamT.tbl hTC;rw [hps] at hD;cases hD
    ·have:=tb D o e (tb1 D o e z)
     rw [hD] at this;cases this
  refine k D zs l rg _ (tb1.trans (tb.trans (Same.tb SD))) (LamT.same SD hTC) hDH aS (dz.same SD) ⟨fr,hrk,?_⟩;rw [hks];unfold pP;rw [cQ,hl]
abbrev sOverR:cV:=top 33
abbrev sMid:cV:=top 35
abbrev sDeadL:cV:=top 36
theorem noFree {n:List (Str×cN)}{p:Str×cN→Prop}(h:(n.all fun y=>y.2 != .free)=true):∀ y∈n,y.2= .free→p y:=fun y hy e=>by
 have:=List.all_eq_true.mp h y hy;rw [e] at this;exact rd this (by decide)
theorem pi_tupK {l:Expr}(e:X.K=K)(hl:PE X l tl):PI X tg l (iTup K tl):=e ▸ j8 hl
theorem scOverR:cp pzs pzs (defScope sOverR):=by trivial
theorem ok_overR (F:Fun K "rings_over" "rings_over" sOverR f fd):dv P w K mg base CX0 1 f fd pzs spOverR:=by
 refine F.ok scOverR (by contradiction) (fun cdv A outer s H vs Q E hr h=>?_);obtain ⟨u,kk,rl,rg,rfl,hu,hrs,few,hlen,k⟩:=h;have lrl:rl.length=rg.length:=by rw [hrs.length,aa]
 refine ⟨_,PSl.h (dH ⟨(cx (i7 (fr:=["span"]) (js:=[1]) rfl (jk (pv 0)) (by trivial) rfl (by trivial) rfl (by exists sOverR) (by trivial) rfl (by trivial) (fun _ _ _ _ _=>⟨(pv 0),(pQ (cG (r:=rIn K false) op_in_seq (pv 1) (by exact (i7 (fr:=[]) (js:=[]) rfl (pi_tupK (K:=K) rfl (pv 0)) (by trivial) rfl (by trivial) rfl (noFree (by trivial)) (by trivial) rfl (by trivial) (fun _ _ _ _ _=>⟨(dN (r:=oU K) dQ (pv 0) bg (fun _ _=>rfl)),iH⟩))) rfl))⟩)))⟩),?_⟩;refine ⟨_,rfl,u,rfl,⟨_,SqL.of hu⟩,?_⟩;refine kK (K:=K) (a:=u) (xs:=rl) (fun i zs HC=>Same H HC∧zs.length≤i∧IsDs HC zs (((rg.take i).filter (iK kk)).map wayQ)) ⟨Same.refl H,aC _,.nil⟩ (fun i zs HC hi ⟨S,e2,_⟩=>⟨SqL.of (S _ _ hu),e2⟩) (by rw [lrl];exact eG (by lia)) (fun i x zs HC hx ⟨S,e2,e3⟩=>?_) (fun zs HC ⟨S,e2,e3⟩ D hD=>?_)
 ·have hi:i<rg.length:=by have:=(aq.mp hx).1;lia
  obtain ⟨d,ed,dx⟩:=hrs.get hx;rw [az,gE hi] at ed;cases ed;have dx:IsD H x (mS rg[i].2):=dx;obtain ⟨px,yx,rfl,hpx,hlx,rx⟩:=iG dx;have et:(rg.take (i+1)).filter (iK kk)=(rg.take i).filter (iK kk)++(if iK kk rg[i]=true then [rg[i]] else []):=by
   rw [bj,gE hi,jd];congr 1;show List.filter _ [rg[i]]=_;rw [gZ];rfl
  have ln:=hlen _ (bH hi);refine ⟨_,rfl,_,rfl,px,rfl,⟨_,SqT.of (S _ _ hpx)⟩,?_⟩;refine lx (K:=K) (a:=px) (xs:=yx) (fun j ws HD=>HD=HC∧ws=((rg[i].2.take j).map fun s=>V.int (s.i:Int))) ⟨rfl,rfl⟩ (fun j ws HD hj ⟨e1,e2'⟩=>⟨by rw [e1];exact SqT.of (S _ _ hpx),by rw [e2',aa,bG];lia⟩) (by rw [hlx];exact eG ln) (fun j y ws HD hy' ⟨e1,e2'⟩=>?_) (fun ws HD ⟨e1,e2'⟩ D hD=>?_)
  ·subst e1
   have hj:j<rg[i].2.length:=by have:=(aq.mp hy').1;lia
   obtain ⟨q,hq,hq2⟩:=iQ rx (gE hj);rw [hy'] at hq;cases hq;refine gQ ?_;refine ⟨_,rfl,q,_,_,_,rfl,rfl,SqT.of (S _ _ hq2),aJ (j:=0) rfl,rfl,?_⟩;rw [e2',bj,gE hj,ay];rfl
  ·subst e1
   have S1:Same HD (upd HD D (.lst ws)):=Same.put (Same.refl HD) hD;have hD1:(upd HD D (.lst ws)) D=some (.lst ws):=aS;generalize upd HD D (.lst ws)=HE at S1 hD1 ⊢;rw [hlx,bc] at e2';subst e2';refine ⟨D,_,rfl,.inl (SqL.of hD1),rfl,(by rw [List.all_map];exact List.all_eq_true.mpr fun _ _=>rfl),_,rfl,?_⟩;rw [show (rg[i].2.map fun s=>V.int (s.i:Int))=(rg[i].2.map Stp.i).map (fun (i:Nat)=>V.int i) by rw [dY];rfl,inV_nat,et];show if (decide (kk∈rg[i].2.map Stp.i))=true then _ else _;have eo:iK kk rg[i]=decide (kk∈rg[i].2.map Stp.i):=rfl;rw [eo];refine ite2 (fun c=>?_) (fun c=>?_)
   ·refine ⟨_,rfl,S.trans S1,by rw [av];show zs.length+1≤i+1;lia,?_⟩
    rw [q9 c,ay];exact (e3.same S1).append (.cons (dx.same (S.trans S1)) .nil)
   ·refine ⟨S.trans S1,by lia,?_⟩
    rw [qZ c,eU];exact e3.same S1
 ·rw [lrl,bc] at e3
  have S1:Same HC (upd HC D (.lst zs)):=Same.put (Same.refl HC) hD;refine k D zs _ (S.trans S1) (Same.free S hD) aS (e3.same S1)
theorem scMid:cp ["case","span","bound"] pzp (defScope sMid):=by trivial
theorem ok_mid (F:Fun K "middle_of" "middle_of" sMid f fd):dv P w K mg base CX0 1 f fd pzp spMid:=by
 refine F.ok scMid (by contradiction) (fun cdv A outer s H vs Q E hr h=>?_);obtain ⟨c,kk,bs,rs,rfl,hc,hk,k⟩:=h;obtain ⟨vb,u,rl,h1,h2,h3,h4⟩:=hc.ex;obtain ⟨pb,yb,rfl,hpb,hlb,rb⟩:=iG h2;obtain ⟨q,hq,hq2⟩:=iQ rb (gE hk);have e0:bs.getD kk (0,0)=bs[kk]:=by rw [ai,gE hk];rfl
 refine ⟨_,PSl.h (aU ⟨(bC (i:=2) scMid.nd rfl (.inl rfl) (dN dQ (ixZ (pv 0)) (pv 1) (fun _ _=>rfl)))⟩
  (dH ⟨(cx (b9 op_fdiv (b9 eh (ixZ (pv 2)) (ixZ (pv 2))) bg))⟩)),?_⟩
 refine ⟨_,rfl,c,_,_,_,rfl,rfl,SqT.of h1,aJ (j:=0) rfl,_,rfl,pb,_,_,_,rfl,rfl,SqT.of hpb,aJ (j:=kk) hq,?_⟩;refine ⟨_,rfl,q,_,_,_,rfl,rfl,SqT.of hq2,aJ (j:=0) rfl,_,rfl,q,_,_,_,rfl,rfl,SqT.of hq2,aJ (j:=1) rfl,_,_,rfl,rfl,_,_,rfl,rfl,⟨by decide,by decide⟩,?_⟩;rw [e0] at k;exact k
theorem scDeadL:cp ["net","case","ring"] pzi (defScope sDeadL):=by trivial
theorem ok_deadL (F:Fun K "dead_leaf" "dead_leaf" sDeadL f fd)(G1:Fn K mg "is_dead" sDead pzb f1 fd1)(F1:dv P w K mg base CX0 3 f1 fd1 pzb spDead):dv P w K mg base CX0 4 f fd pzi pB:=by
 refine F.ok scDeadL (by contradiction) (fun cdv A outer s H vs Q E hr h=>?_);obtain ⟨v,c,b,m,sp,bs,rs,rfl,hv,b0,b61,hc,few,hin,k⟩:=h;obtain ⟨vb,u,rl,h1,h2,h3,h4⟩:=hc.ex;have hr3:Room 3 _:=hr;have lrl:rl.length=rs.length:=by rw [h4.length,aa]
 refine ⟨_,PSl.h (aU ⟨(iC bL rfl (jk (ixZ (pv 1))) (cY (i:=2) scDeadL.nd rfl (.inl rfl)) (cO (gR (kx (pc1 G1 F1 hr3 (ae (pv 0) (ae (ixZ (pv 1)) (ae (pv 2) aB))))) (cO (cx (d8 (ae kA (ae (pv 2) aB))))) d7)))⟩
  (dH ⟨(cx jL)⟩)),?_⟩
 refine ⟨_,rfl,c,_,_,_,rfl,rfl,SqT.of h1,aJ (j:=1) rfl,u,rfl,⟨_,SqL.of h3⟩,?_⟩;refine lh (K:=K) (a:=u) (xs:=rl) (fun i σ H1=>Same H H1∧(∀ q∈rs.take i,jC b bs q.2=false)∧∃ v2,σ=[some v,some (.ref c),v2]) ⟨Same.refl H,fun _ h=>rd h (by simp),none,rfl⟩ (fun i σ H1 _ ⟨S,_⟩=>SqL.of (S _ _ h3)) ?_ ?_
 ·rintro i x σ H1 hx ⟨S1,hal,v2,rfl⟩
  have hi:i<rs.length:=by have:=(aq.mp hx).1;lia
  obtain ⟨d,ed,dx⟩:=h4.get hx;rw [az,gE hi] at ed;cases ed;have dx:IsD H x (mS rs[i].2):=dx;refine ⟨_,rfl,_,rfl,c,_,_,_,rfl,rfl,SqT.of (S1 _ _ h1),aJ (j:=0) rfl,_,rfl,v,vb,x,b,m,sp,bs,rs[i].2,rfl,hv.same S1,b0,b61,h2.same S1,dx.same S1,hin _ (bH hi),fun H2 S2=>⟨_,rfl,ite2 (fun hc=>?_) (fun hc=>?_)⟩⟩
  ·refine ⟨_,rfl,mU,fun q3 H3 S3 h3'=>?_⟩
   exact k (.ref q3) H3 (S1.trans (S2.trans S3)) (.inr ⟨rs[i],bH hi,.tup h3' (.cons (.str _) (.cons (dx.same (S1.trans (S2.trans S3))) .nil)),hc⟩)
  ·refine ⟨S1.trans S2,fun q hq=>?_,_,rfl⟩
   rw [bj,gE hi] at hq
   rcases aN.mp hq with z | z
   ·exact hal q z
   ·rw [ax.mp z];exact jv.mpr hc
 ·rintro σ H1 ⟨S1,hal,v2,rfl⟩
  rw [lrl,bc] at hal;exact k .non H1 S1 (.inl ⟨rfl,hal⟩)
def ftS (sp:List Sn)(s:Stp):List Int:=[lI sp s,fF sp s]
theorem along_get {sp:List Sn}:∀ {ws:List Stp} {x y:Int},Along sp x ws y→(∀ (h:0<ws.length),lI sp ws[0]=x)∧(∀ (h:0<ws.length),fF sp (ws[ws.length - 1]'(by omega))=y)∧∀ i (h:i+1<ws.length),fF sp ws[i]=lI sp ws[i+1]
 | [],_,_,_=>⟨fun h=>rd h (by simp),fun h=>rd h (by simp),fun i h=>rd h (by simp)⟩
 | [s],x,y,⟨a,b⟩=>⟨fun _=>a,fun _=>b,fun i h=>rd h (by simp)⟩
 | s::s'::ws,x,y,⟨a,b⟩=>by
  obtain ⟨f,l,n⟩:=along_get (ws:=s'::ws) b;refine ⟨fun _=>a,fun _=>?_,fun i h=>?_⟩
  ·have:=l (by simp)
   simpa using this
  ·cases i with
   | zero=>exact (f (by simp)).symm
   | succ i=>exact n i (by simpa using h)
theorem ft_of {s:Stp}(h:s.i<sp.length)(d:s.d=1∨s.d= -1):(if s.d=1 then [V.int sp[s.i].s,V.int sp[s.i].g] else [V.int sp[s.i].s,V.int sp[s.i].g].reverse)=(ftS sp s).map V.int:=by
 unfold ftS lI fF;rw [gE h]
 rcases d with e | e
 ·rw [q9 e];show _=[V.int (frm _ _),V.int (too _ _)];unfold frm too;rw [q9 e,q9 e]
 ·rw [qZ (by lia)];show _=[V.int (frm _ _),V.int (too _ _)];unfold frm too;rw [qZ (by lia),qZ (by lia)];rfl
inductive spLed (vs:List V)(H:Hp)(Q:VK)(_:XK):Prop
 | mk (v r:V)(b m:Int)(sp:List Sn)(ws:List Stp)(_:vs=[v,r])(_:IsD H v (ka b m sp))(_:sp.length≤40)(_:IsD H r (mS ws))(_:Rg sp ws)(_:∀ H',Same H H'→Q (.bl true) H')
def qu (b:Int)(sp:List Sn)(bs:List (Int×Int))(d:Dt):Prop:=∃ p:List Stp,d=leafP (.ring p)∧Rg sp p∧jC b bs p=true
theorem mf (p:List Stp):l3 (leafP (.ring p)):=⟨by show (true && (pl (mS p) && true))=true;rw [show pl (mS p)=true from mE _ _];rfl,"ring",mS p,rfl,by decide⟩
theorem ps_outL:PS X st (fun _ _ _=>False):=fun _ _ _ _ _ _ h=>h.elim
theorem mJ {R:List (Int×Int)→Dt→Prop}(hR:∀ bs d,R bs d→l3 d):∀ (t:Tq) (bs:List (Int×Int)) (n:Nat),qw R t bs n→∀ d,Mrk.leaf d∈pre t→l3 d
 | .leaf d,bs,n,g,d',h=>by
  have e:d'=d:=by
   have h:Mrk.leaf d'∈[Mrk.leaf d]:=h;injection ax.mp h
  subst e;cases n <;> exact hR bs _ g
 | .cut k a x y,bs,0,g,d',h=>g.elim
 | .cut k a x y,bs,n+1,g,d',h=>by
  obtain ⟨_,_,_,g1,g2⟩:=g;have h:Mrk.leaf d'∈Mrk.cut k a::(pre x++pre y):=h
  rcases aG.mp h with h | h
  ·cases h
  rcases aN.mp h with h | h
  ·exact mJ hR x _ n g1 d' h
  ·exact mJ hR y _ n g2 d' h
theorem rdead_leafW (bs:List (Int×Int))(d:Dt)(h:qu b sp bs d):l3 d:=by
 obtain ⟨p,rfl,_⟩:=h;exact mf p
def StayT (T0 T1:ao)(H H':Hp):Prop:=∀ a o,a≠T0→a≠T1→H a=some o→H' a=some o
theorem StayT.trans (a:StayT T0 T1 H H1)(b:StayT T0 T1 H1 H2):StayT T0 T1 H H2:=fun x o n0 n1 e=>b x o n0 n1 (a x o n0 n1 e)
theorem Same.stayT (a:Same H H'):StayT T0 T1 H H':=fun x o _ _ e=>a x o e
inductive oQ (v:V)(b m:Int)(sp:List Sn)(R:List (Int×Int)→Dt→Prop)(vs:List V)(H:Hp)(Q:VK)(_:XK):Prop
 | mk (l:List Nat)(rg:List (Nat×List Stp))(q:ao)(c:Cse)(_:vs=[.ref q])(_:FR m sp l rg)(_:CsD H q c.1 c.2)(_:CaseOk b sp l rg c)(_:IsD H v (ka b m sp))(_:∀ r H',Same H H'→((∃ d,IsD H' r d∧l3 d∧R c.1 d)∨(r= .non∧(∀ z∈c.2,jC b c.1 z.2=false)∧∃ k∈l,(c.1.getD k (0,0)).1<(c.1.getD k (0,0)).2))→Q r H')
inductive oO (P:aY)(w:bE)(K:ak)(mg:Str→Option ag)(base:bK)(T0:ao)(p0:Pos)(q0:Str)(T1:ao)(p1:Pos)(q1:Str)(vs:List V)(H:Hp)(Q:VK)(_:XK):Prop
 | mk (v:V)(g:ao)(b m:Int)(sp:List Sn)(R:List (Int×Int)→Dt→Prop)(_:vs=[v,.ref g])(_:IsD H v (ka b m sp))(_:NetT b m sp)(_:(∀ l,FrstL m.toNat sp l→kz sp l≤4096))(_:L2.LamT T0 p0 q0 H)(_:L2.LamT T1 p1 q1 H)(_:LmOk P w K mg base 6 g (StayT T0 T1 H) (oQ v b m sp R))(_:∀ (u:V) (t:Tq) (H':Hp),StayT T0 T1 H H'→Kp H H'→L2.LamT T0 p0 q0 H'→L2.LamT T1 p1 q1 H'→IsD H' u (jx t)→pl (jx t)=true→qw R t (sp.map fun z=>(z.l,z.o)) 21→Q u H')
section
variable {m:Int}{rg:List (Nat×List Stp)}{cs:List Cse}{c:Cse}
theorem sz_cut (f:FF m sp l rg)(lrg:rg.length≤40)(C:CaseOk b sp l rg c)(al:∀ q∈c.2,jC b c.1 q.2=false){k:Nat}{a:Int}(hk:k∈l)(h1:(c.1.getD k (0,0)).1≤a)(h2:a<(c.1.getD k (0,0)).2)(hc:∀ d∈cs,CaseOk b sp l rg d) :
  (∀ d∈cs++[(fA c.1 k a,rg.filter (iK k)),(lL c.1 k a,rg.filter (iK k))],CaseOk b sp l rg d)∧szC l (cs++[(fA c.1 k a,rg.filter (iK k)),(lL c.1 k a,rg.filter (iK k))])<szC l (cs++[c])∧2≤fN c.1 l:=by
 have ht2:=f.acy.nodup.2;obtain ⟨o1,o2⟩:=C.cut lrg ht2 al hk h1 h2;have p1:0<fN (fA c.1 k a) l:=i6 o1.ob ht2;have p2:0<fN (lL c.1 k a) l:=i6 o2.ob ht2;have e:=mB C.ob f.acy.nodup.1 ht2 hk h1 h2;refine ⟨fun d hd=>?_,?_,by lia⟩
 ·rcases aN.mp hd with z | z
  ·exact hc d z
  ·rcases aG.mp z with rfl | z
   ·exact o1
   ·rw [ax.mp z];exact o2
 ·rw [mr,mr]
  show _+((2 * fN (fA c.1 k a) l - 1)+((2 * fN (lL c.1 k a) l - 1)+0))<_+((2 * fN c.1 l - 1)+0);lia
theorem sz_less (f:FF m sp l rg)(C:CaseOk b sp l rg c):szC l cs<szC l (cs++[c]):=by
 have:=i6 C.ob f.acy.nodup.2;rw [mr];show _<_+((2 * fN c.1 l - 1)+0);lia
end
theorem pls_appT:∀ (xs ys:List Dt),pls (xs++ys)=(pls xs && pls ys)
 | [],ys=>by show pls ys=(true && pls ys);rw [Bool.true_and]
 | x::xs,ys=>by
  show (pl x && pls (xs++ys))=((pl x && pls xs) && pls ys);rw [pls_appT xs ys,Bool.and_assoc]
theorem LmOk.mono {k:Nat}{sp:Sp}(L:LmOk P w K mg base j f Hf sp)(h:j≤k):LmOk P w K mg base k f Hf sp:=⟨L.isFn,fun A outer s H u v Q hr=>L.run A outer s H u v Q (hr.mono h)⟩
theorem pl_pre:∀ (t:Tq),(∀ d,Mrk.leaf d∈pre t→l3 d)→pl (jx t)=true
 | .leaf d,h=>(h d (by simp [pre])).1
 | .cut k a x y,h=>pl_cut (pl_pre x fun d hd=>h d (by simp [pre,hd])) (pl_pre y fun d hd=>h d (by simp [pre,hd]))
end HN
namespace L2
open PySem PySem.W PySem.Spec PyProof.Rows
def LamG (P:ao)(q:Str)(H:Hp):Prop:=∃ l:List (Pos×ao),H P=some (.tbl (triples l).toArray)∧∀ e∈l,CdK q H e.2
theorem LamG.tbl {P:ao}(k:LamG P q H):∃ ps,H P=some (.tbl ps):=let ⟨_,e,_⟩:=k;⟨_,e⟩
theorem LamG.nil {P:ao}(e:H P=some (.tbl #[])):LamG P q H:=⟨[],e,fun _ h=>rd h (by simp)⟩
theorem CdK.ne {P c:ao}{ps:Array ag}(k:CdK q H c)(e:H P=some (.tbl ps)):c≠P:=fun z=>by
 obtain ⟨oc,vs,t,e2,_⟩:=k;rw [z,e] at e2;cases e2
theorem LamG.stay {P:ao}(k:LamG P q H)(hT:∀ ps,H P=some (.tbl ps)→H' P=some (.tbl ps))(hf:∀ a o u,H a=some (.frz o u)→H' a=some (.frz o u)):LamG P q H':=by
 obtain ⟨l,e,r⟩:=k;refine ⟨l,hT _ e,fun x hx=>?_⟩;obtain ⟨oc,vs,t,e2,z⟩:=r x hx;exact ⟨oc,vs,t,hf _ _ _ e2,z⟩
theorem LamG.same {P:ao}(a:Same H H')(k:LamG P q H):LamG P q H':=k.stay (fun _ e=>a _ _ e) fun _ _ _ e=>a _ _ e
theorem nR:∀ l:List (Pos×ao),TriplesOk (triples l)
 | []=>trivial
 | (p,c)::r=>nR r
theorem o6 {pos:Pos}:∀ {l:List (Pos×ao)} {cv:ag},codeAmong pos (triples l)=some cv→∃ e∈l,cv= .ref e.2
 | [],cv,h=>by cases h
 | (p,c)::r,cv,h=>by
  have h:(if (((p.line:Nat):Int) == ((pos.line:Nat):Int) && ((p.col:Nat):Int) == ((pos.col:Nat):Int))=true then some (ag.ref c) else codeAmong pos (triples r))=some cv:=h;split at h
  ·cases h;exact ⟨(p,c),by simp,rfl⟩
  ·obtain ⟨e,he,z⟩:=o6 h
   exact ⟨e,by simp [he],z⟩
section
variable {σ:List (Option V)}
theorem lam_makeG {c P:ao}(I:Inv X aP σ H s)(hd:defaultsOf params X.env=([],[]))(mI:X.env.code= .ref c)(C:codeHdIn X.K c P=true)(B:BM X.mg X.base)
  (hfr:∀ y∈scope.names,y.2= .free→X.env.scope.names.lookup y.1=some .cell) (T:LamG P (X.env.qual ++ "<lambda>") H)
  (h:∀ f cl H' s',Inv X aP σ H' s'→Tb P H H'→LamG P (X.env.qual ++ "<lambda>") H'→LamF (X.env.qual ++ "<lambda>") params body scope cl f H'→(∀ x c,cl.lookup x=some c→X.env.cells.lookup x=some c)→(∀ y∈scope.names,y.2= .free→cl.lookup y.1=X.env.cells.lookup y.1)→Q (.ref f) s') :
  aW (bz X.prog X.w) X.A (eV (.Lambda params body scope pos) X.env) Q X.xe s:=by
 obtain ⟨cl,hclos,c1,c2⟩:=mN (scope:=scope) (env:=X.env) fun y hy hk=>I.ok.has _ (.inl (hfr y hy hk))
 refine kla_eval hd ?_;have hgs:s.heap.Ns bS X.mg:=I.mod.glob.keeps I.bk;obtain ⟨bm,ob,b1,b2,b3,b4,b5⟩:=B;have CH:CodeHd s.heap c P:=codeHd_of_K I.kIn C;obtain ⟨l,hP,K⟩:=T;have hbP:bm≠P:=fun q=>by have z:=(I.bs bm ob b4).2;rw [q,hP] at z;cases z
 have hgP:bS≠P:=fun q=>by
  obtain ⟨o,es,ep,e,_⟩:=I.mod.glob;have z:=(I.bs _ o e).2;rw [q,hP] at z;cases z
 have hBA:s.heap.BuiltinsAt X.mg P:=⟨bm,ob,b1,b2,b3,hbP,I.bk _ _ b4,b5⟩;have fin:∀ (H1:Hp) (h1:bK) (tk:Nat) (c':ao) (ctv:ag),Inv X aP σ H1 { s with heap:=h1,toks:=tk }→Tb P H H1→LamG P (X.env.qual ++ "<lambda>") H1→CdK (X.env.qual ++ "<lambda>") H1 c' →
   Q (.ref h1.objs.size) { s with heap:=h1.push (kla_obj "<lambda>" (X.env.qual ++ "<lambda>") params body scope cl ((X.mg "__name__").getD .none) c' ctv),toks:=tk }:=fun H1 h1 tk c' ctv I1 t1 T1 K1=>by
  have fr:H1 h1.objs.size=none:=I1.hok.fresh (aC _);have S:Same H1 (upd H1 h1.objs.size (.frz (kla_obj "<lambda>" (X.env.qual ++ "<lambda>") params body scope cl ((X.mg "__name__").getD .none) c' ctv) (.own 0))):=fun a o e=>by rw [br (bf e fr)];exact e
  have I2:=I1.laid (t':=tk) (a:=h1.objs.size) (o:= .frz (kla_obj "<lambda>" (X.env.qual ++ "<lambda>") params body scope cl ((X.mg "__name__").getD .none) c' ctv) (.own 0)) (h':=h1.push (kla_obj "<lambda>" (X.env.qual ++ "<lambda>") params body scope cl ((X.mg "__name__").getD .none) c' ctv)) (fun b u e=>ar _ e) (aC _) ⟨aZ _ rfl,_,aZ _ rfl⟩;obtain ⟨oc,vs,t,e,r⟩:=K1;exact h _ cl _ _ I2 (t1.trans S.tb) (T1.same S) ⟨_,c',ctv,aS,oc,vs,t,S _ _ e,r⟩ c1 c2
 have hPh:s.heap.get? P=some (tabObj (triples l).toArray):=I.hok P _ hP;cases hq:codeAmong pos (triples l) with
 | none =>
  refine kla_makeFunction (mg:=X.mg) hclos I.ok.glob hgs mI CH hPh (by rw [fq];exact nR l) (by rw [fq];exact hq) hgP hBA fun c' ctv h' tk hx hge hlt hrec htb=>?_
  have I1:=I.grown (tk:=tk) hP hx htb;obtain ⟨c2',oc,vs,t,e2,hoc,hdd,hv⟩:=hrec;cases e2;have Plt:P<s.heap.objs.size:=aO hPh;have ncP:c'≠P:=dA (aR Plt hge);have frc:H c'=none:=I.hok.fresh hge;have hn1:(upd H P (.tbl ((triples l).toArray++ #[rawInt pos.line,rawInt pos.col,.ref c']))) c'=none:=by rw [br ncP];exact frc
  have old:∀ b o,s.heap.get? b=some o→b≠c':=fun b o e=>bM (aR (aO e) hge)
  have I2:=I1.take (D:=c') (o:= .frz oc (.own 0)) hn1 (bo I.sz hge) (dA (aR I.lt hge)) (fun x d e=>by obtain ⟨v,o,ho,_⟩:=I.cell x d e;exact old d o ho) (fun p hp=>old _ _ (I.pin p hp).1) ⟨hoc,_,hoc⟩;have tb:Tb P H (upd (upd H P (.tbl ((triples l).toArray++ #[rawInt pos.line,rawInt pos.col,.ref c']))) c' (.frz oc (.own 0))):=fun a o hn e=>by
   rw [br (bf e frc),br hn];exact e
  refine fin _ h' tk c' ctv I2 tb ⟨l++[(pos,c')],?_,fun x hx=>?_⟩ ⟨oc,vs,t,aS,hdd,hv⟩
  ·rw [br (bX ncP),aS,triples_append]
   congr 2
   apply Array.toList_inj.mp
   simp
  ·rcases aN.mp hx with hx | hx
   ·exact (K x hx).tb tb ((K x hx).ne hP)
   ·rw [ax.mp hx]
    exact ⟨oc,vs,t,aS,hdd,hv⟩
 | some cv =>
  obtain ⟨e,he,rfl⟩:=o6 hq;refine kla_makeFunctionHit (cv:= .ref e.2) (mg:=X.mg) hclos I.ok.glob hgs mI CH hPh (by rw [fq];exact nR l) (by rw [fq];exact hq) hBA fun ctv h' tk hk hsz=>?_
  exact fin H h' tk e.2 ctv (I.kept hk) (Tb.refl H) ⟨l,hP,K⟩ (K e he)
def tLambG (env:Env)(T:ao)(params:fE)(body:Expr)(scope:fI):TE:=fun _ H Q=>LamG T (env.qual ++ "<lambda>") H∧∀ g cl H',Tb T H H'→LamG T (env.qual ++ "<lambda>") H'→LamF (env.qual ++ "<lambda>") params body scope cl g H'→LamE env scope cl→Q (.ref g) H'
theorem pe_lamG {c T:ao}(hd:defaultsOf params X.env=([],[]))(mI:X.env.code= .ref c)(C:codeHdIn X.K c T=true)(B:BM X.mg X.base)
  (hfr:∀ y∈scope.names,y.2= .free→X.env.scope.names.lookup y.1=some .cell):PE X (.Lambda params body scope pos) (tLambG X.env T params body scope):=fun _ _ _ _ _ I ⟨L,h⟩ =>
 lam_makeG I hd mI C B hfr L fun f cl H' _ I' t1 T1 F c1 c2=>⟨.ref f,H',I',rfl,h f cl H' t1 T1 F ⟨c1,c2⟩⟩
theorem Inv.repinE {o o':Obj}(I:Inv X ((kS,o)::aP) σ H s)(hs0:X.s₀.heap.objs.size≤kS)(hC:∀ x c,X.env.cells.lookup x=some c→c≠kS)(hP:∀ p∈X.pn++aP,p.1≠kS)(k:∀ b o,b≠kS→s.heap.get? b=some o→h'.get? b=some o)(ho':h'.get? kS=some o')(hd:∀ v,o'.data≠ .cell v):Inv X ((kS,o')::aP) σ H { s with heap:=h',toks:=t' }:=by
 obtain ⟨p1,p2,p3,p4,_⟩:=I.pin (kS,o) (aA _ (bB ..));have I2:=I.unpin.turned (t':=t') (it:=kS) (h':=h') k p2 p3 (.inr hs0) hC hP;refine I2.pins_of fun p hp=>?_
 rcases aG.mp hp with rfl | hp
 ·exact ⟨ho',p2,p3,p4,hd⟩
 ·exact I2.pin p (aA _ hp)
theorem Inv.swap {p q:ao×Obj}(I:Inv X (p::q::aP) σ H s):Inv X (q::p::aP) σ H s:=I.pins_of fun z hz=>by
 refine I.pin z (aA _ ?_)
 rcases aG.mp hz with rfl | hz
 ·simp
 ·rcases aG.mp hz with rfl | hz
  ·simp
  ·simp [hz]
end
def jD (key:Nat→Int):Nat→Nat:=argBest fun i j=>decide (key i<key j)
theorem best_ok (key:Nat→Int):∀ n,jD key n≤n∧∀ j,j≤n→key (jD key n)≤key j
 | 0=>⟨aC 0,fun j hj=>by rw [Nat.le_zero.mp hj];exact gh _⟩
 | n+1=>by
  obtain ⟨h1,h2⟩:=best_ok key n;have e:jD key (n+1)=if decide (key (n+1)<key (jD key n))=true then n+1 else jD key n:=rfl;rw [e]
  by_cases c:key (n+1)<key (jD key n)
  ·rw [q9 (rf c)]
   refine ⟨aC _,fun j hj=>?_⟩
   by_cases z:j=n+1
   ·rw [z];exact gh _
   ·have:=h2 j (by lia);lia
  ·rw [qZ (by rw [rh c];exact aV)]
   refine ⟨by lia,fun j hj=>?_⟩
   by_cases z:j=n+1
   ·rw [z];lia
   ·exact h2 j (by lia)
section
variable {σ:List (Option V)}
def KeyI (X:Cx)(σ:List (Option V))(H:Hp)(f:ag)(vs:List V)(key:Nat→Int):Prop :=
 ∀ (t:au) (H':Hp) (pins':List (ao×Obj)) (i:Nat) (v:V) (u:ag),vs[i]? =some v→RelV v u→Inv X pins' σ H' t→Same H H'→aW (bz X.prog X.w) X.A.in1 (call f [u]) (fun k t'=>∃ H'' tk,Inv X pins' σ H'' t'∧Same H' H''∧k= .int (key i) tk) (fun _ _=>False) t
structure Two (X:Cx)(aP:List (ao×Obj))(It S:ao):Prop where
 i0:X.s₀.heap.objs.size≤It
 s0:X.s₀.heap.objs.size≤S
 ic:∀ x c,X.env.cells.lookup x=some c→c≠It
 sc:∀ x c,X.env.cells.lookup x=some c→c≠S
 ip:∀ p∈X.pn++aP,p.1≠It
 sp:∀ p∈X.pn++aP,p.1≠S
 ne:It≠S
theorem Two.ipS {It S:ao}(T:Two X aP It S)(o:Obj):∀ p∈X.pn++((S,o)::aP),p.1≠It:=fun p hp=>by
 rcases aN.mp hp with hp | hp
 ·exact T.ip p (aM _ hp)
 ·rcases aG.mp hp with rfl | hp
  ·exact bX T.ne
  ·exact T.ip p (aA _ hp)
theorem Two.spI {It S:ao}(T:Two X aP It S)(o:Obj):∀ p∈X.pn++((It,o)::aP),p.1≠S:=fun p hp=>by
 rcases aN.mp hp with hp | hp
 ·exact T.sp p (aM _ hp)
 ·rcases aG.mp hp with rfl | hp
  ·exact T.ne
  ·exact T.sp p (aA _ hp)
theorem min_next {It S L:ao}{oS:Obj}{vs:List V}{Q:Option ag→au→Prop}(hh:A.handled=none)(T:Two X aP It S)(I:Inv X ((It,oI)::(S,oS)::aP) σ H s)(hL:H L=some (.lst vs))(hI:oI.cls= .type "list_iterator" ∧oI.data= .fields #[.ref L,.int j 0])
  (hit:∀ v u oI' s',vs[j]? =some v→RelV v u→Inv X ((It,oI')::(S,oS)::aP) σ H s'→oI'.cls= .type "list_iterator" ∧oI'.data= .fields #[.ref L,.int ((j+1:Nat):Int) 0]→Q (some u) s')
  (hend:∀ s',j=vs.length→Inv X ((S,oS)::aP) σ H s'→Q none s') (hj:j≤vs.length):aW (bz X.prog X.w) A (pyNext (.ref It)) Q E s:=by
 obtain ⟨its,rv,⟨o,n,ho,hcl,_,hd⟩,_⟩:=I.list (SqL.of hL);have gI:=(I.pin (It,oI) (aA _ (bB ..))).1;have hLI:L≠It:=fun z=>by have:=(I.pin (It,oI) (aA _ (bB ..))).2.1;rw [←z,hL] at this;cases this
 have st:s.heap.IsListIter It L j∧s.heap.IsList L its.toArray:=⟨⟨oI,gI,hI.1,hI.2⟩,⟨o,ho,hcl,n,hd⟩⟩;have W:=Walks.list (prog:=X.prog) (w:=X.w) (A:=A) hh It L hLI its.toArray;have lz:its.length=vs.length:=rv.length.symm
 by_cases e:j=vs.length
 ·refine W.done s _ _ (by rw [aE,lz,←e];exact st) fun h' tk hk=>hend _ e ?_
  have:=I.unpin.turned (t':=tk) (it:=It) (h':=h') (fun b o hb e=>hk b o (by simp [hb]) e) (I.pin (It,oI) (aA _ (bB ..))).2.1 (I.pin (It,oI) (aA _ (bB ..))).2.2.1 (.inr T.i0) T.ic (T.ipS oS);exact this
 ·refine W.item j s _ _ (by rw [aE];lia) st fun u h' tk hu st' hk=>?_
  obtain ⟨oI',gI',c1,c2⟩:=st'.1;have hu:its[j]? =some u:=by simpa using hu
  have hv:vs[j]? =some (vs[j]'(by lia)):=gE _;refine hit vs[j] u oI' _ hv ?_ (I.repinE T.i0 T.ic (T.ipS oS) (fun b o hb e=>hk b o (by simp [hb]) e) gI' (fun v z=>by rw [c2] at z;cases z)) ⟨c1,c2⟩;obtain ⟨u',hu',ru⟩:=Vals.get rv hv;rw [hu] at hu';cases hu';exact ru
end
theorem mQ {id:String}{b:fY}{args:List ag}(hk:builtinKind id=none)(hp:plainId id=true)
  (hb:entryFor table id=some b) (ha:argsOk id ⟨args,kw⟩)
  (hfin:aW (bz prog w) A.in1 (b ⟨args,kw⟩) (fun fin s'=>match fin with
   | .done f=>(match (Except.ok f:Result) with | .ok (.ret v)=>Q v s' | .ok _=>False | .error e=>E e s')
   | .again c'=>c'.quiet=true∧jo (bz prog w) A c' (fun r s'=>match r with | .ok (.ret v)=>Q v s' | .ok _=>False | .error e=>E e s') s') E s):aW (bz prog w) A (call (.builtin id) args kw) Q E s:=by
 refine wpAny_call (codeAny_call_builtin hp hb ?_);simp only [checkBuiltinCall,hk];cases hsig:Manifest.signature? id with
 | none=>exact aL hfin
 | some sig =>
  have ha':Bind.checkArgs id sig ⟨args,kw⟩=fP ():=by simpa only [argsOk,hsig] using ha
  simp only [ha'];exact aL hfin
section
variable {σ:List (Option V)}
theorem Inv.pin1 {p:ao×Obj}(I:Inv X (p::aP) σ H s):s.heap.get? p.1=some p.2:=(I.pin p (aA _ (bB ..))).1
theorem Inv.pin2 {p q:ao×Obj}(I:Inv X (p::q::aP) σ H s):s.heap.get? q.1=some q.2:=I.unpin.pin1
theorem min_put {It S:ao}{xs:Array ag}{c:Nat}(T:Two X aP It S)(I:Inv X ((It,oI)::(S,bR "list" xs c)::aP) σ H s)(ys:Array ag):∃ c',Inv X ((It,oI)::(S,bR "list" ys c')::aP) σ H { s with heap:=s.heap.update S (cT fun _=>ys) }:=by
 have hS:=I.pin2;obtain ⟨c',hc'⟩:∃ c',(s.heap.update S (cT fun _=>ys)).get? S=some (bR "list" ys c'):=⟨_,gO hS fun _=>ys⟩;exact ⟨c',(I.swap.repinE (t':=s.toks) T.s0 T.sc (T.spI oI) (fun b o hb e=>(ju _ _ (bX hb)).trans e) hc' (fun v z=>by cases z)).swap⟩
theorem min_loop {It S L g:ao}{vs:List V}(T:Two X aP It S)(hh:X.A.handled=none)(hkey:KeyI X σ H (.ref g) vs key)(hL:H L=some (.lst vs))
  (fin:∀ v u H' s',vs[jD key (vs.length - 1)]? =some v→RelV v u→Same H H'→Inv X aP σ H' s'→R (.ok (.ret u)) s') :
  ∀ (k j:Nat) (s:au) (H':Hp) (v:V) (vb:ag) (tb:Tok) (c:Nat) (oI:Obj),vs.length - (j+1)=k→j+1≤vs.length→Same H H'→Inv X ((It,oI)::(S,bR "list" #[vb,.int (key (jD key j)) tb] c)::aP) σ H' s →
   oI.cls= .type "list_iterator" ∧oI.data= .fields #[.ref L,.int ((j+1:Nat):Int) 0]→vs[jD key j]? =some v→RelV v vb→jo (bz X.prog X.w) X.A (.builtin "min.loop" ⟨[.ref It,.ref g,.ref S],[]⟩) R s:=by
 have hname:(toString "min" ++ toString ".loop" :String) = "min.loop" := by decide
 intro k
 induction k with
 | zero =>
  intro j s H' v vb tb c oI hk hj S' I hI hv rv;have hin:j+1=vs.length:=by lia
  have hS:=I.pin2;refine kL F.entry_min_loop ?_;rw [bW.under_plainId hX _];show aW _ X.A.in1 (seqItems? (.ref S) >>= _) _ _ s;refine ah (fU hS rfl ?_);show aW _ X.A.in1 (tryCatch (pyNext (.ref It)) _ >>= _) _ _ s;refine ah (jN (min_next (A:=X.A.in1) (j:=j+1) hh T I (S' _ _ hL) hI (fun v2 u2 _ _ z=>rd (aq.mp z).1 (by lia)) (fun s' _ I'=>?_) (by lia)));have hS':=I'.pin1;show aW _ X.A.in1 (updateSeq S (fun _=> #[]) >>= _) _ _ _;refine ah ?_;refine wpAny_updateSeq hS' rfl (ah (km (aL ?_)));have I2:=(I'.repinE (t':=s'.toks) T.s0 T.sc T.sp (h':=s'.heap.update S (cT fun _=> #[])) (fun b o hb e=>(ju _ _ (bX hb)).trans e) (gO hS' fun _=> #[]) (fun v z=>by cases z)).unpin;exact fin v vb H' _ (by rw [←hin];exact hv) rv S' I2
 | succ k ih =>
  intro j s H' v vb tb c oI hk hj S' I hI hv rv;have hlt:j+1<vs.length:=by lia
  have hS:=I.pin2;refine kL F.entry_min_loop ?_;rw [bW.under_plainId hX _];show aW _ X.A.in1 (seqItems? (.ref S) >>= _) _ _ s;refine ah (fU hS rfl ?_);show aW _ X.A.in1 (tryCatch (pyNext (.ref It)) _ >>= _) _ _ s;refine ah (jN (min_next (A:=X.A.in1) (j:=j+1) hh T I (S' _ _ hL) hI (fun v2 u2 oI2 s2 hv2 ru2 I2 hI2=>?_) (fun s' z _=>rd z (by lia)) (by lia)));show aW _ X.A.in1 (tryCatch (holding [u2] (call (.ref g) [u2])) _ >>= _) _ _ _;refine ah (jN (dZ (cy (hkey _ H' _ (j+1) v2 u2 hv2 ru2 I2 S') (fun kv s3 hk3=>?_) fun _ _ z=>z.elim)));obtain ⟨H3,tk,I3,S3,rfl⟩:=hk3;have hS3:=I3.pin2;show aW _ X.A.in1 (tryCatch (holding [u2,.int (key (j+1)) tk] (richCompare .Lt (.int (key (j+1)) tk) (.int (key (jD key j)) tb) >>= _)) _ >>= _) _ _ _;refine ah (jN (dZ (ah (CmpOf.ints_lt (P:=fun i v=>∃ t,v= .int (key i) t) key (fun _ _ z=>z) (j+1) (jD key j) _ _ _ _ _ ⟨tk,rfl⟩ ⟨tb,rfl⟩ ?_))));refine ah (dZ (fX ?_));refine ah (km (aL ?_));have eb:jD key (j+1)=if decide (key (j+1)<key (jD key j))=true then j+1 else jD key j:=rfl;cases hb:decide (key (j+1)<key (jD key j)) with
  | true =>
   rw [hb,q9 rfl] at eb;rw [q9 hb];refine ah ?_;refine wpAny_updateSeq hS3 rfl (ah (km ?_));rw [hname];obtain ⟨c',I4⟩:=min_put T I3 #[u2,.int (key (j+1)) tk];refine aL ⟨plainId_quiet hX _,ih (j+1) _ H3 v2 u2 tk c' oI2 (by lia) hlt (S'.trans S3) (by rw [eb];exact I4) hI2 (by rw [eb];exact hv2) ru2⟩
  | false =>
   rw [hb,qZ aV] at eb;rw [qZ (fun z=>aV (hb.symm.trans z))];refine ah (km ?_);rw [hname];exact aL ⟨plainId_quiet hX _,ih (j+1) _ H3 v vb tb c oI2 (by lia) hlt (S'.trans S3) (by rw [eb];exact I3) hI2 (by rw [eb];exact hv) rv⟩
theorem min_first {It S L g:ao}{vs:List V}(T:Two X aP It S)(hh:X.A.handled=none)(hkey:KeyI X σ H (.ref g) vs key)(hL:H L=some (.lst vs))(hne:vs≠[])
  (fin:∀ v u H' s',vs[jD key (vs.length - 1)]? =some v→RelV v u→Same H H'→Inv X aP σ H' s'→R (.ok (.ret u)) s')
  {c:Nat} (I:Inv X ((It,oI)::(S,bR "list" #[] c)::aP) σ H s) (hI:oI.cls= .type "list_iterator" ∧oI.data= .fields #[.ref L,.int ((0:Nat):Int) 0]):jo (bz X.prog X.w) X.A (.builtin "min.loop" ⟨[.ref It,.ref g,.ref S],[]⟩) R s:=by
 have hname:(toString "min" ++ toString ".loop" :String) = "min.loop" := by decide
 have hlt:0<vs.length:=List.length_pos_iff.mpr hne;have hS:=I.pin2;refine kL F.entry_min_loop ?_;rw [bW.under_plainId hX _];show aW _ X.A.in1 (seqItems? (.ref S) >>= _) _ _ s;refine ah (fU hS rfl ?_);show aW _ X.A.in1 (tryCatch (pyNext (.ref It)) _ >>= _) _ _ s;refine ah (jN (min_next (A:=X.A.in1) (j:=0) hh T I hL hI (fun v2 u2 oI2 s2 hv2 ru2 I2 hI2=>?_) (fun s' z _=>rd z (by lia)) (by lia)));show aW _ X.A.in1 (tryCatch (holding [u2] (call (.ref g) [u2])) _ >>= _) _ _ _;refine ah (jN (dZ (cy (hkey _ H _ 0 v2 u2 hv2 ru2 I2 (Same.refl H)) (fun kv s3 hk3=>?_) fun _ _ z=>z.elim)));obtain ⟨H3,tk,I3,S3,rfl⟩:=hk3;have hS3:=I3.pin2;show aW _ X.A.in1 (updateSeq S (fun _=> #[u2,.int (key 0) tk]) >>= _) _ _ _;refine ah ?_;refine wpAny_updateSeq hS3 rfl ?_;rw [hname];obtain ⟨c',I4⟩:=min_put T I3 #[u2,.int (key 0) tk];exact aL ⟨plainId_quiet hX _,min_loop T hh hkey hL fin _ 0 _ H3 v2 u2 tk c' oI2 rfl hlt S3 I4 hI2 hv2 ru2⟩
theorem args_minK (a g:ag):argsOk "min" ⟨[a],[(cZ "key",g)]⟩:=by unfold argsOk;kernel_rfl
theorem call_minK {L g:ao}{vs:List V}(I:Inv X aP σ H s)(hh:X.A.handled=none)(hkey:KeyI X σ H (.ref g) vs key)(hL:H L=some (.lst vs))(hne:vs≠[])
  (fin:∀ v u H' s',vs[jD key (vs.length - 1)]? =some v→RelV v u→Same H H'→Inv X aP σ H' s'→Q u s'):aW (bz X.prog X.w) X.A (call (.builtin "min") [.ref L] [(cZ "key",.ref g)]) Q E s:=by
 have hname:(toString "min" ++ toString ".loop" :String) = "min.loop" := by decide
 refine mQ F.kind_min F.plain_min F.entry_min (args_minK _ _) ?_;show aW _ X.A.in1 (fY.Builtins.bindParams "min" ["key","default"] 0 ⟨[],[(cZ "key",.ref g)]⟩ >>= _) _ _ s;refine ah (wpAny_of_eq (show fY.Builtins.bindParams "min" ["key","default"] 0 ⟨[],[(cZ "key",.ref g)]⟩=fP [some (.ref g),none] from rfl) ?_);refine ah (aL ?_);obtain ⟨its,rv,⟨o,n,ho,hcl,_,hd⟩,_⟩:=I.list (SqL.of hL);refine ah (wpAny_pyIter_list ⟨o,ho,hcl,n,hd⟩ ?_);refine ah (dh ?_);rw [hname];obtain ⟨h1,eh1⟩:∃ h1,h1=s.heap.push { cls:= .type "list_iterator",data:= .fields #[.ref L,.int 0 0] }:=⟨_,rfl⟩;have z1:h1.objs.size=s.heap.objs.size+1:=by rw [eh1];exact gj ..
 rw [←eh1];obtain ⟨h2,eh2⟩:∃ h2,h2=h1.push { cls:= .type "list",data:= .seq #[] }:=⟨_,rfl⟩;have keep:∀ b o,s.heap.get? b=some o→h2.get? b=some o:=fun b o e=>by rw [eh2];refine ar _ ?_;rw [eh1];exact ar _ e
 have gI:h2.get? s.heap.objs.size=some { cls:= .type "list_iterator",data:= .fields #[.ref L,.int 0 0] }:=by rw [eh2];refine ar _ ?_;rw [eh1];exact aZ _ rfl
 have gS:h2.get? h1.objs.size=some (bR "list" #[] 0):=by rw [eh2];exact aZ _ rfl
 have I2:=I.kept (t':=s.toks) keep;have lS:s.heap.objs.size≤h1.objs.size:=by lia
 have I3:Inv X ((s.heap.objs.size,{ cls:= .type "list_iterator",data:= .fields #[.ref L,.int 0 0] })::(h1.objs.size,bR "list" #[] 0)::aP) σ H { s with heap:=h2 }:=I2.pins_of fun z hz=>by
  rcases aG.mp hz with rfl | hz
  ·exact ⟨gI,I.hok.fresh (aC _),dA I.lt,I.nofs (aC _),fun v z=>by cases z⟩
  ·rcases aG.mp hz with rfl | hz
   ·exact ⟨gS,I.hok.fresh lS,dA (aR I.lt lS),I.nofs lS,fun v z=>by cases z⟩
   ·exact I2.pin z (aA _ hz)
 have old:∀ b o,s.heap.get? b=some o→b≠s.heap.objs.size∧b≠h1.objs.size:=fun b o e=>⟨bM (aO e),bM (aR (aO e) lS)⟩
 have T:Two X aP s.heap.objs.size h1.objs.size:=⟨I.sz,bo I.sz lS,fun y d e=>by obtain ⟨v,o,ho,_⟩:=I.cell y d e;exact (old d o ho).1,fun y d e=>by obtain ⟨v,o,ho,_⟩:=I.cell y d e;exact (old d o ho).2,fun z hz=>(old _ _ (I.pin z hz).1).1,fun z hz=>(old _ _ (I.pin z hz).1).2,bM (by lia:s.heap.objs.size<h1.objs.size)⟩;refine aL ⟨plainId_quiet hX _,?_⟩;rw [←eh2];exact min_first (R:=fun r s'=>match r with | .ok (.ret v)=>Q v s' | .ok _=>False | .error e=>E e s') T hh hkey hL hne (fun v u H' s' a1 a2 a3 a4=>fin v u H' s' a1 a2 a3 a4) I3 ⟨rfl,rfl⟩
end
def MinQ (P:ao)(lq:Str)(js:List Nat)(te:TE)(σ:St)(Q:VK)(v:V)(H1:Hp):Prop:=∃ (L:ao) (vs:List V) (key:Nat→Int),v= .ref L∧H1 L=some (.lst vs)∧vs≠[]∧LamG P lq H1 ∧
 (∀ i x,vs[i]? =some x→∀ H2,Tb P H1 H2→te (some x::dO σ js) H2 fun u H3=>Same H2 H3∧u= .int (key i)) ∧
 ∀ H4 i x,Tb P H1 H4→LamG P lq H4→vs[i]? =some x→(∀ j,j<vs.length→key i≤key j)→Q x H4
def tMinL (P:ao)(lq:Str)(tr:TE)(js:List Nat)(te:TE):TE:=fun σ H Q=>tr σ H fun v H1=>MinQ P lq js te σ Q v H1
def MinQ1 (P:ao)(lq:Str)(js:List Nat)(te:TE)(σ:St)(Q:VK):List V→Hp→Prop
 | [v],H1=>MinQ P lq js te σ Q v H1
 | _,_=>False
theorem pe_minL {tr:TE}{p kp:Pos}{c P:ao}(hc:X.calm=true)(hrm:X.A.depth<jQ)(hg:Gl X "min")(hm:X.mg "min" =none)(hi:PE X re tr)
  (hd:defaultsOf params X.env=([],[])) (mI:X.env.code= .ref c) (C:codeHdIn X.K c P=true) (B:BM X.mg X.base)
  (hbind:∀ q cl pm cdv ct (u:ag),bindArgs (kla_fn "<lambda>" q params body scope cl pm cdv ct) ⟨[u],[]⟩=fP [(x,u)])
  (hk:scope.kind= .function) (hco:scope.isCoroutine=false) (hgen:scope.isGenerator=false) (iT:∀ y∈scope.names,y.2≠ .cell) (hx:scope.names.lookup x=some .local) (hfx:x ∉ fr)
  (hfr:∀ y∈scope.names,y.2= .free→X.env.scope.names.lookup y.1=some .cell) (hjs:js.map (fun j=>X.N[j]?)=fr.map some) (hfv:∀ y∈fr,scope.names.lookup y=some .free)
  (hb:∀ cl L f cd s' H',PE (cxLam X (X.env.qual ++ "<lambda>") scope cl L f cd (x::fr) s' H') body te)
  (he:gz pos (bD [re] X.env)=(false,eV re X.env)::gz pos (bD [] X.env):=by rfl)
  (hs:bD [re] X.env=(false,eV re X.env)::bD [] X.env:=by rfl) (hpl:(gz pos (bD [re] X.env)).any (·.1)=false:=by rfl) :
  PE X (.Call (.Name "min" p) [re] [⟨some "key",.Lambda params body scope lp,kp⟩] pos) (tMinL P (X.env.qual ++ "<lambda>") tr js te):=by
 intro aP s σ H Q I h;refine fc (lV I hg hm (u:= .builtin "min") (by trivial) ?_);refine callWith_kw (kws:=[⟨some "key",.Lambda params body scope lp,kp⟩]) (thn ((ae hi aB hs) pos aP s σ H (MinQ1 P (X.env.qual ++ "<lambda>") js te σ Q) I h) fun us s1 ⟨vs,H1,I1,r1,q0⟩=>?_) he hpl;refine kws_cons ?_;obtain ⟨v,rfl⟩:∃ v,vs=[v]:=by
  cases vs with
  | nil=>exact q0.elim
  | cons v r=>cases r with
   | nil=>exact ⟨v,rfl⟩
   | cons _ _=>exact q0.elim
 have q1:MinQ P (X.env.qual ++ "<lambda>") js te σ Q v H1:=q0;obtain ⟨L,vs,key,rfl,hL,hne,T,hkey,hQ⟩:=q1;obtain rfl:us=[.ref L]:=by
  cases r1 with
  | cons ru rs =>
   cases rs;exact rm (fun z=>[z]) ru
 refine lam_makeG (body:=body) I1 hd mI C B hfr T fun f cl H2 s2 I2 tb T2 F2 c1 c2=>?_
 refine kws_nil ?_;show aW _ _ (call (.builtin "min") [.ref L] [(cZ "key",.ref f)]) _ _ _;have LP:L≠P:=fun z=>by
  obtain ⟨ps,e⟩:=T.tbl;rw [←z,hL] at e;cases e
 have KI:KeyI X σ H2 (.ref f) vs key:=fun t H' pins' i v u hv ru I' S'=>by
  refine wpAny_of_in1 (cy (lam_call (v:=v) I' hc hrm (F2.same S') ru (fun pm cdv ct=>hbind _ _ _ _ _ _) hk hco hgen iT hx hfx c1 c2 hfr hjs hfv (fun L cd s' H'=>hb cl L f cd s' H') (hkey i v hv H' (tb.trans S'.tb))) (fun k t' ⟨v',H'',I'',rv,S'',ev⟩=>?_) fun _ _ z=>z);subst ev;obtain ⟨tk,rfl⟩:∃ tk,k= .int (key i) tk:=rv;exact ⟨H'',tk,I'',S'',rfl⟩
 refine call_minK I2 (I2.ok.hd hc) KI (tb _ _ LP hL) hne fun v u H' s' hv ru S' I'=>?_
 obtain ⟨b1,b2⟩:=best_ok key (vs.length - 1);exact ⟨v,H',I',ru,hQ H' _ v (tb.trans S'.tb) (T2.same S') hv fun j hj=>b2 j (by lia)⟩
end L2
namespace HN
open PySem L2 PyProof.Rows
def posR (r:Int×List Stp):Bool:=decide (r.1 > 0)
def kd (b:Int)(sp:List Sn)(bs:List (Int×Int))(rg:List (Nat×List Stp)):List (Int×List Stp):=kZ sp (rg.filter fun q=>sureB b bs q.2)
def oo (b:Int)(sp:List Sn)(bs:List (Int×Int))(rg:List (Nat×List Stp)):List (Int×List Stp):=(kd b sp bs rg).filter posR
theorem rowsW_pos {b:Int}{bs:List (Int×Int)}:∀ (rows:List (Int×List Stp)),(∀ r∈rows,0≤r.1)→oA b bs (rows.filter posR)=oA b bs rows
 | [],_=>rfl
 | r::rows,h=>by
  have ih:=rowsW_pos (b:=b) (bs:=bs) rows fun t ht=>h t (aw _ ht)
  have e:oA b bs (r::rows)=r.1 * upB b (fh bs r.2) * b+oA b bs rows:=rfl;rw [gZ,e]
  by_cases c:r.1 > 0
  ·rw [q9 (show posR r=true from rf c)]
   show r.1 * upB b (fh bs r.2) * b+oA b bs (rows.filter posR)=_;rw [ih]
  ·rw [qZ (show ¬ (posR r=true) by unfold posR;rw [rh c];exact aV),ih]
   have:=h r (by simp);rw [show r.1=0 by lia,fO,fO,gc]
theorem own_pos {k:Nat}:∀ (rows:List (Int×List Stp)) (a:Int),(∀ r∈rows,0≤r.1)→(rows.filter posR).foldl (ownS k) a=rows.foldl (ownS k) a
 | [],_,_=>rfl
 | r::rows,a,h=>by
  have ih:=fun a=>own_pos (k:=k) rows a fun t ht=>h t (aw _ ht)
  rw [gZ,bQ]
  by_cases c:r.1 > 0
  ·rw [q9 (show posR r=true from rf c),bQ];exact ih _
  ·rw [qZ (show ¬ (posR r=true) by unfold posR;rw [rh c];exact aV),ih]
   have:=h r (by simp);have e:ownS k a r=a:=by
    show ownV k a r.1 r.2=a;unfold ownV;split <;> split <;> lia
   rw [e]
theorem worth_pos {bs:List (Int×Int)}(rows:List (Int×List Stp))(h:∀ r∈rows,0≤r.1):lM b sp bs (rows.filter posR)=lM b sp bs rows:=by
 unfold lM;rw [rowsW_pos rows h];congr 2;refine fV fun k _=>?_
 have e:owK sp (rows.filter posR) k=owK sp rows k:=own_pos rows _ h;unfold termW;rw [e]
def RBest (b:Int)(sp:List Sn)(w:Int)(bs:List (Int×Int))(d:Dt):Prop:=qu b sp bs d∨∃ rows:List (Int×List Stp),d=leafP (.price rows)∧(∀ r∈rows,RowOk b sp bs r)∧rows.length≤40∧w≤lM b sp bs rows
section
variable {m:Int}{rg:List (Nat×List Stp)}{bs:List (Int×Int)}
theorem rg_few (N:NetT b m sp)(f:FF m sp l rg):rg.length≤40:=by
 have hn:((rg.map (·.1)).map fun n:Nat=>(n:Int)).Nodup:=by
  rw [bV,fk];exact (bV.mp f.one).imp fun hh e=>hh (by lia)
 have:=mx (l:=(rg.map (·.1)).map fun n:Nat=>(n:Int)) (k:=(aQ sp.length).map fun n:Nat=>(n:Int)) hn fun z hz=>by
  obtain ⟨i,hi,rfl⟩:=bh.mp hz;obtain ⟨q,hq,rfl⟩:=bh.mp hi;exact bh.mpr ⟨_,bT.mpr (f.rk q hq).lt,rfl⟩
 rw [aa,aa,aa,bx] at this;have:=N.few;lia
theorem sureR_w (N:NetT b m sp)(f:FF m sp l rg):∀ r∈kd b sp bs rg,0≤r.1:=fun r hr=>by
 obtain ⟨q,hq,rfl⟩:=bh.mp hr;exact (N.all _ (eQ (f.rk q (cA.mp hq).1).lt)).w0
theorem price_ok (N:NetT b m sp)(f:FF m sp l rg):(∀ r∈oo b sp bs rg,RowOk b sp bs r)∧(oo b sp bs rg).length≤40:=by
 have m2:=N.m2;have fw:=f.few;refine ⟨fun r hr=>?_,?_⟩
 ·obtain ⟨q,hq,rfl⟩:=bh.mp (cA.mp hr).1
  obtain ⟨h1,h2⟩:=cA.mp hq;have K:=f.rk q h1;have sn:=N.all _ (eQ K.lt);exact ⟨K.rg N (by lia),h2,by have:=sn.w0;show -1000000000000≤(sAt sp q.1).w;lia,sn.w1⟩
 ·refine bo (fB _ _) ?_
  unfold kd kZ;rw [aa];exact bo (fB _ _) (rg_few N f)
theorem price_tight (N:NetT b m sp)(f:FF m sp l rg)(O:OB sp l bs)(x:Fx b l rg bs):∃ ts,jB b ts sp=true∧gq b ts sp=lM b sp bs (oo b sp bs rg):=by
 obtain ⟨ts,_,_,h1,h2⟩:=tight N f O x;have fs:=fx_sure N f O x;have e:rg.filter (fun q=>sureB b bs q.2)=rg:=List.filter_eq_self.mpr fun q hq=>(fs.2 _ (bh.mpr ⟨q,hq,rfl⟩)).2.1
 refine ⟨ts,h1,h2.trans ?_⟩;unfold oo;rw [worth_pos _ (sureR_w N f)];unfold kd;rw [e]
theorem tight_in (N:NetT b m sp)(f:FF m sp l rg)(O:OB sp l bs)(x:Fx b l rg bs):∃ ts,jB b ts sp=true∧InB (iS b ts sp) bs:=by
 obtain ⟨π,hπ⟩:=f.acy.pot fun k=>(bs.getD k (0,0)).1
 have m1:=N.m1;have key:=key_pot N f O x (ts:=potT b π m.toNat) (π:=π) hπ fun k hk=>by
  have s:=N.all _ (eQ hk);exact wait_pot s.s0 (by have:=s.s1;lia) s.g0 (by have:=s.g1;lia)
 refine ⟨potT b π m.toNat,fits_lay (m:=m) fun k hk=>?_,fun k hk=>key k (by rw [←O.len];exact hk)⟩;have:=key k hk;have:=(O.lo k hk).2.2;lia
theorem fx_other (N:NetT b m sp)(f:FF m sp l rg)(f':FF m sp l rg')(O:OB sp l bs)(x:Fx b l rg' bs):Fx b l rg bs:=by
 obtain ⟨ts,_,hin⟩:=tight_in N f' O x;have m2:=N.m2;have fw:=f.few;exact ⟨x.fix,fun q hq=>dead_none (by have:=N.b1;lia) O.len hin ((f.rk q hq).rg N (by lia))⟩
theorem leafW_price (rows:List (Int×List Stp)):l3 (leafP (.price rows)):=by
 refine ⟨?_,"price",.tup (rows.map rowD),rfl,by decide⟩;show (true && (pl (.tup (rows.map rowD)) && true))=true;rw [show pl (.tup (rows.map rowD))=true from k4 rows fun r _=>by show (true && (pl (mS r.2) && true))=true;rw [show pl (mS r.2)=true from mE _ _];rfl];rfl
end
abbrev sFirst:cV:=top 8
theorem scFirst:cp pza pza (defScope sFirst):=by trivial
theorem ok_first (F:Fun K "first_bounds" "first_bounds" sFirst f fd)(T:Nm mg):dv P w K mg base CX0 1 f fd pza spFirst:=by
 refine F.ok scFirst (by contradiction) (fun cdv A outer s H vs Q E hr h=>?_);obtain ⟨v,b,m,sp,rfl,hv,few,k⟩:=h;obtain ⟨t,p,ys,rfl,ht,hp,hl,hy⟩:=fR hv;refine ⟨_,PSl.h (dH ⟨(cx (fG i9 rfl T.ttup i5 (ae (i7 (fr:=[]) (js:=[]) rfl (j8 (ixZ (pv 0))) (by trivial) rfl (by trivial) rfl (by exists sFirst) (by trivial) rfl (by trivial) (fun _ _ _ _ _=>⟨(d8 (ae (dN (r:=oU K) dQ (pv 0) bg (fun _ _=>rfl)) (ae (dN (r:=oU K) dQ (pv 0) bg (fun _ _=>rfl)) aB))),iH⟩)) aB)))⟩),?_⟩;refine ⟨_,rfl,t,_,_,_,rfl,rfl,SqT.of ht,aJ (j:=2) rfl,p,rfl,⟨_,SqT.of hp⟩,?_⟩;refine lx (K:=K) (a:=p) (xs:=ys) (fun i zs H2=>Same H H2∧IsDs H2 zs (((sp.take i).map fun x=>(x.l,x.o)).map fun x=> .tup ((bndR x).map Dt.int))) ⟨Same.refl H,.nil⟩ (fun i zs H2 hi ⟨e1,e2⟩=>?_) (by rw [hl];exact eG few) (fun i x zs H2 hx ⟨e1,e2⟩=>?_) (fun zs H2 ⟨e1,e2⟩ D hD=>?_)
 ·refine ⟨SqT.of (e1 _ _ hp),?_⟩
  rw [e2.length,aa,aa,bG];lia
 ·have hi:i<sp.length:=by rw [←hl];exact (aq.mp hx).1
  obtain ⟨q,hq,hq2⟩:=hy i sp[i] (gE hi);rw [hx] at hq;cases hq;have hq3:=e1 _ _ hq2;refine gQ ?_;refine ⟨_,rfl,q,_,_,_,rfl,rfl,SqT.of hq3,aJ (j:=2) rfl,_,rfl,q,_,_,_,rfl,rfl,SqT.of hq3,aJ (j:=3) rfl,mU,fun q4 H4 S4 h4=>⟨e1.trans S4,?_⟩⟩;rw [bj,gE hi,ay,ay];exact (e2.same S4).append (.cons (.tup h4 (IsDs.ints [sp[i].l,sp[i].o])) .nil)
 ·refine ⟨D,_,rfl,SqL.of aS,fun p3 H3 S3 h3=>?_⟩
  have S23:=(Same.put (o:= .lst zs) (Same.refl H2) hD).trans S3;refine k (.ref p3) H3 (e1.trans S23) (.tup h3 ?_);rw [hl,bc] at e2;exact e2.same S23
abbrev sWithB:cV:=top 28
theorem cutU {i:Int}(hi:i=(n:Int)):cutV xs none (some i)=xs.take n:=by
 unfold cutV;subst hi;have e:=HT.sIx_nat xs.length xs.length n;rw [e];show (xs.drop 0).take (min n xs.length - 0)=xs.take n;rw [List.drop_zero,Nat.sub_zero]
 by_cases h:n≤xs.length
 ·rw [Nat.min_eq_left h]
 ·rw [Nat.min_eq_right (by lia),bc,jr (by lia)]
theorem cutF {i:Int}(hi:i=(n:Int)):cutV xs (some i) none=xs.drop n:=by
 unfold cutV;subst hi;have e:=HT.sIx_nat xs.length 0 n;rw [e];show (xs.drop (min n xs.length)).take (xs.length - min n xs.length)=xs.drop n
 by_cases h:n≤xs.length
 ·rw [Nat.min_eq_left h,jr (by rw [dW];lia)]
 ·rw [Nat.min_eq_right (by lia),List.drop_length,List.drop_of_length_le (by lia),List.take_nil]
theorem scWithB:cp pzt pzt (defScope sWithB):=by trivial
theorem ok_withB (F:Fun K "with_bound" "with_bound" sWithB f fd):dv P w K mg base CX0 1 f fd pzt spWithB:=by
 refine F.ok scWithB (by contradiction) (fun cdv A outer s H vs Q E hr h=>?_);obtain ⟨vb,n,lo,hi,bs,rfl,hb,hn,few,k⟩:=h;obtain ⟨pb,yb,rfl,hpb,hlb,rb⟩:=iG hb;refine ⟨_,PSl.h (dH ⟨(cx (b9 pX (b9 pX (l9 sl_tupN (pv 0) oa (nZ (pv 1))) (d8 (ae (d8 (ae (pv 2) (ae (pv 3) aB))) aB))) (l9 sl_tupN (pv 0) (nZ (b9 eh (pv 1) bg)) oa)))⟩),?_⟩;have lyb:yb.length≤40:=by lia
 refine ⟨_,rfl,_,rfl,_,rfl,pb,_,rfl,hpb,fun qB HB SB hB=>⟨_,rfl,_,rfl,mU,fun q1 H1 S1 h1=>⟨szZ1,fun qC HC SC hC=>?_⟩⟩⟩;rw [cutU (n:=n) rfl] at hB;refine ⟨qB,qC,_,_,rfl,rfl,SC _ _ (S1 _ _ hB),hC,?_,fun qD HD SD hD=>?_⟩
 ·rw [bG];exact bo (by show min n yb.length+1≤1000;lia) (by decide)
 refine ⟨_,rfl,_,rfl,_,_,rfl,rfl,_,rfl,pb,_,rfl,SD _ _ (SC _ _ (S1 _ _ (SB _ _ hpb))),fun qE HE SE hE=>?_⟩;rw [cutF (n:=n+1) (by lia)] at hE;refine ⟨qD,qE,_,_,rfl,rfl,SE _ _ hD,hE,?_,fun qF HF SF hF=>?_⟩
 ·rw [av,bG,dW];exact bo (by show min n yb.length+1+(yb.length - (n+1))≤1000;lia) (by decide)
 have S1F:Same H1 HF:=SC.trans (SD.trans (SE.trans SF));have SF':Same H HF:=SB.trans (S1.trans S1F);refine k (.ref qF) HF SF' (.tup hF ?_);have e:bs.set n (lo,hi)=bs.take n++[(lo,hi)]++bs.drop (n+1):=by
  rw [oJ,q9 hn,List.append_assoc];rfl
 rw [e,ay,ay,jV,jW];exact ((IsDs.takeN n (rb.same SF')).append (.cons (.tup (S1F _ _ h1) (IsDs.ints [lo,hi])) .nil)).append (IsDs.dropN (n+1) (rb.same SF'))
abbrev cCuts:cV:=top 34
abbrev qM:cV:=clsOf cCuts 0
abbrev sSpanC:cV:=clsOf cCuts 1
abbrev sSidesC:cV:=clsOf cCuts 2
def lamPosC:List cV→Pos
 | [_,_,_,_,.Assign _ (.Call _ _ [⟨_,.Lambda _ _ _ lp,_⟩] _) _]=>lp
 | _=>⟨0,0,0,0⟩
abbrev lpC:Pos:=lamPosC (fS qM)
abbrev lqC:Str:=(("Cuts.__init__" :Str) ++ ".<locals>.") ++ "<lambda>"
theorem lenNC (K:ak)(hK:X.K=K:=by rfl):CallR X (.builtin "len") (fun xs H Q=>∃ p ys,xs=[.ref p]∧(SqL K H p ys∨SqT K H p ys)∧Q (.int ys.length) H):=by subst hK;exact cg
structure CutC (K:ak)(C:ao):Prop where
 cl:Cls K C
 n1:NoAttr K C "first_case"
 n2:NoAttr K C "touched"
 n3:NoAttr K C "order"
theorem scInitC:cp ["self","net","rings","touched"] ["self","net"] (defScope qM):=by trivial
theorem ok_initC {c:ao}(F:Fun K "__init__" "Cuts.__init__" qM f fd)(hcd:fd.code= .ref c)(CH:eX K c T1=true)(B:BM mg base)(ne:T0≠T1)(T:Nm mg)(T2:Nt mg)(ms:mg "sorted" =none)(CC:CutC K C)
  (G1:Fn K mg "rings_of" pM pza f1 fd1) (F1:dv P w K mg base CX0 8 f1 fd1 pza (oP T0 p0 q0))
  (G2:Fn K mg "rings_over" sOverR pzs f2 fd2) (G3:Fn K mg "first_bounds" sFirst pza f3 fd3)
  (G4:Fn K mg "forest_of" lQ pza f4 fd4) (F4:dv P w K mg base CX0 6 f4 fd4 pza (kW T0 p0 q0)):dv P w K mg base CX0 9 f fd ["self","net"] (spInitC T0 p0 q0 T1 lpC lqC C):=by
 have F2:dv P w K mg base CX0 1 f2 fd2 pzs spOverR:=ok_overR G2.F;have F3:dv P w K mg base CX0 1 f3 fd3 pza spFirst:=ok_first G3.F T;refine okC F hcd scInitC (by contradiction) (fun A outer s H vs Q E hr h=>?_);obtain ⟨x,dx,v,b,m,sp,rfl,hx,hv,N,hT0,hT1,k⟩:=h;have hr1:Room 1 _:=hr.mono (by decide);have hr6:Room 6 _:=hr.mono (by decide);have E:=N.ends;have few:=N.few;have m1:=N.m1;have m2:=N.m2;refine ⟨_,PSl.h (aU ⟨(bC (i:=2) scInitC.nd rfl (.inr rfl) (pc1 G1 F1 hr (ae (pv 1) aB)))⟩
  (aU ⟨(bC (i:=3) scInitC.nd rfl (.inr rfl) (i7 (fr:=["rings"]) (js:=[2]) rfl (iJ rfl T2.range (ae (cM cg rfl T.len bP (ae (ixZ (pv 1)) aB)) aB)) (by trivial) rfl (by trivial) rfl (by exists qM) (by trivial) rfl (by trivial) (fun _ _ _ _ _=>⟨(pc1 G2 F2 hr1 (ae (pv 1) (ae (pv 0) aB))),iH⟩)))⟩
  (aU ⟨(ps_fld (pv 0) (d8 (ae (pc1 G3 F3 hr1 (ae (pv 1) aB)) (ae (pv 2) aB))) rfl)⟩
  (aU ⟨(ps_fld (pv 0) (pv 3) rfl)⟩
  (dH ⟨(ps_fld (pv 0) (pe_sortT (js:=[3]) (fr:=["touched"]) (x := "span") (c:=c) (P:=T1) rfl hr.depth rfl ms (pc1 G4 F4 hr6 (ae (pv 1) aB)) rfl rfl CH B (fun _ _ _ _ _ _=>rfl) rfl rfl rfl (by trivial) rfl (by decide) (by exists qM) rfl (by trivial)
   (fun cl L f' cd s' H'=>oq (ae (oB lG (cM (lenNC K) rfl T.len bP (ae (dN (r:=rIxL K) eE (pv 1) (pv 0) (fun _ _=>rfl)) aB))) (ae (pv 0) aB)))) rfl)⟩))))),?_⟩
 refine ⟨_,rfl,v,b,m,sp,rfl,hv,N,hT0,fun L rl l rg H1 tb1 hT01 fL hL dL R=>?_⟩;have fr:=R.fr;have xT0:x≠T0:=by obtain ⟨ps,h⟩:=LamT.tbl hT0;exact fH hx h nofun
 have xT1:x≠T1:=by obtain ⟨ps,h⟩:=LamT.tbl hT1;exact fH hx h nofun
 have K1:Kp H H1:=Tb.kp hT0 tb1;have hT11:=LamT.ntb hT1 hT0 (bX ne) tb1;have hx1:=tb1 x _ xT0 hx;have hv1:=cB K1.tup hv;have tl:l.length≤15:=by have:=fr.few E (by lia);lia
 have lrg:rg.length≤40:=by
  have:rg.length=(pP sp l).length:=by rw [←R.ks,aa]
  have h2:(pP sp l).length≤sp.length:=by unfold pP;exact bo (fB _ _) (by rw [bx];exact aC _)
  lia
 have lng:∀ q∈rg,q.2.length≤1000:=fun q hq=>by
  have:=((R.rk q hq).rg N tl).few;lia
 have st1:∀ a o,a≠T0→a≠T1→a≠x→H a=some o→H1 a=some o:=fun a o n0 _ _ e=>tb1 a o n0 e
 obtain ⟨t,p,ys,ev,ht,hp,hl,hy⟩:=fR hv1;subst ev;clear hy hv fL tb1;refine ⟨_,rfl,t,_,_,_,rfl,rfl,SqT.of ht,aJ (j:=2) rfl,p,_,rfl,.inr (SqT.of hp),_,rfl,by lia,by lia,?_⟩;refine kJ (n:=((ys.length:Int)).toNat) (fun i zs HC=>Same H1 HC∧zs.length=i∧∀ j,j<i→∃ u ql,zs[j]? =some (.ref u)∧HC u=some (.lst ql)∧IsDs HC ql ((rg.filter (iK j)).map wayQ)) ⟨Same.refl H1,rfl,fun j hj=>rd hj (Nat.not_lt_zero _)⟩ (fun i zs HC hi ⟨_,e2,_⟩=>Nat.le_of_eq e2) (eG (by lia)) (fun i zs HC hi ⟨S,lz,dz⟩=>?_) (fun zs HC ⟨S,lz,dz⟩ D hD=>?_)
 ·rw [gc]
  refine gQ ⟨_,rfl,_,rfl,L,i,rl,rg,rfl,S _ _ hL,dL.same S,lrg,lng,fun L' rl' H2 S2 f2 h2 d2=>⟨S.trans S2,by rw [av,lz];rfl,fun j hj=>?_⟩⟩
  rcases ja.mp hj with z | z
  ·obtain ⟨u,ql,a1,a2,a3⟩:=dz j z
   exact ⟨u,ql,by rw [gw (by lia)];exact a1,S2 _ _ a2,a3.same S2⟩
  ·subst z
   exact ⟨L',rl',by rw [bZ (by lia),lz,Nat.sub_self];rfl,h2,d2⟩
 have S1:Same H1 (upd HC D (.lst zs)):=S.trans (Same.put (Same.refl HC) hD);have tch:TchD (upd HC D (.lst zs)) D sp.length rg:=by
  refine ⟨zs,aS,by rw [lz];lia,fun j hj=>?_⟩;obtain ⟨u,ql,a1,a2,a3⟩:=dz j (by lia);have S2:Same HC (upd HC D (.lst zs)):=Same.put (Same.refl HC) hD;exact ⟨u,ql,a1,S2 _ _ a2,a3.same S2⟩
 generalize upd HC D (.lst zs)=H2 at S1 tch ⊢;clear dz hD;refine ⟨_,rfl,.ref t,b,m,sp,rfl,hv1.same S1,by lia,fun ub H3 S3 hub=>⟨_,rfl,mU,fun q4 H4 S4 h4=>⟨_,rfl,x,C,dx,_,rfl,S4 _ _ (S3 _ _ (S1 _ _ hx1)),CC.cl,CC.n1,by decide,?_⟩⟩⟩;have S14:Same H1 H4:=S1.trans (S3.trans S4);have cs4:CsD H4 q4 (sp.map fun z=>(z.l,z.o)) rg:=⟨ub,L,rl,h4,hub.same S4,S14 _ _ hL,dL.same S14⟩;have tch4:=tch.kp (Same.kp (S3.trans S4));have hx4:=S14 _ _ hx1;have K4:Kp H4 (upd H4 x (.ins C dx (mV "first_case" (.ref q4) []))):=Kp.upd hx4;have st5:∀ a o,a≠T0→a≠T1→a≠x→H a=some o→(upd H4 x (.ins C dx (mV "first_case" (.ref q4) []))) a=some o:=fun a o n0 n1 n2 e=>by rw [br n2];exact S14 _ _ (st1 a o n0 n1 n2 e)
 have kp5:Kp H (upd H4 x (.ins C dx (mV "first_case" (.ref q4) []))):=K1.trans ((Same.kp S14).trans K4);have hx5:(upd H4 x (.ins C dx (mV "first_case" (.ref q4) []))) x=some (.ins C dx [("first_case",.ref q4)]):=aS;have hT05:=mh (o:= .ins C dx (mV "first_case" (.ref q4) [])) (LamT.same S14 hT01) hx4;have hT15:=mh (o:= .ins C dx (mV "first_case" (.ref q4) [])) (LamT.same S14 hT11) hx4;have hv5:=cB K4.tup (hv1.same S14);have cs5:=cs4.kp K4;have tch5:=tch4.kp K4;generalize upd H4 x (.ins C dx (mV "first_case" (.ref q4) []))=H5 at st5 kp5 hx5 hT05 hT15 hv5 cs5 tch5 ⊢;clear K4 hx4 tch4 cs4 S14 h4 S4 hub S3 tch S1 ht hp st1 hv1 hT11 hT01 hx1 K1 dL hL;refine ⟨_,rfl,_,rfl,x,C,dx,_,rfl,hx5,CC.cl,CC.n2,(by show 1<1000;decide),?_⟩;have K5:Kp H5 (upd H5 x (.ins C dx (mV "touched" (.ref D) [("first_case",.ref q4)]))):=Kp.upd hx5;have st6:∀ a o,a≠T0→a≠T1→a≠x→H a=some o→(upd H5 x (.ins C dx (mV "touched" (.ref D) [("first_case",.ref q4)]))) a=some o:=fun a o n0 n1 n2 e=>by rw [br n2];exact st5 a o n0 n1 n2 e
 have kp6:=kp5.trans K5;have hx6:(upd H5 x (.ins C dx (mV "touched" (.ref D) [("first_case",.ref q4)]))) x=some (.ins C dx [("first_case",.ref q4),("touched",.ref D)]):=aS;have hT06:=mh (o:= .ins C dx (mV "touched" (.ref D) [("first_case",.ref q4)])) hT05 hx5;have hT16:=mh (o:= .ins C dx (mV "touched" (.ref D) [("first_case",.ref q4)])) hT15 hx5;have hv6:=cB K5.tup hv5;have cs6:=cs5.kp K5;have tch6:=tch5.kp K5;generalize upd H5 x (.ins C dx (mV "touched" (.ref D) [("first_case",.ref q4)]))=H6 at st6 kp6 hx6 hT06 hT16 hv6 cs6 tch6 ⊢;clear K5 st5 kp5 hx5 hT05 hT15 hv5 cs5 tch5;refine ⟨_,rfl,.ref t,b,m,sp,rfl,hv6,N,hT06,fun u H7 ns tb7 hT07 hu F0=>?_⟩;obtain ⟨l',π0,rfl,O0,pm0⟩:=F0.natsF;have el:l'=l:=FrstL.one (m:=m.toNat) (sp:=sp) ⟨F0,π0,O0,pm0⟩ fr;subst el;have K6:Kp H6 H7:=Tb.kp hT06 tb7;have hT17:=LamT.ntb hT16 hT06 (bX ne) tb7;have hx7:=tb7 x _ xT0 hx6;have st7:∀ a o,a≠T0→a≠T1→a≠x→H a=some o→H7 a=some o:=fun a o n0 n1 n2 e=>tb7 a o n0 (st6 a o n0 n1 n2 e)
 have kp7:=kp6.trans K6;have cs7:=cs6.kp K6;have tch7:=tch6.kp K6;clear K6 st6 kp6 hx6 hT06 hT16 hv6 cs6 tch6 tb7;have hlt:=(fr.pots E).nodup.2;have hnd:=(fr.pots E).nodup.1;have lns:(l'.map fun (i:Nat)=>(i:Int)).length=l'.length:=aa ..;have gns:∀ i,i<l'.length→(l'.map fun (i:Nat)=>(i:Int)).getD i 0=((l'.getD i 0:Nat):Int):=fun i hi=>by
  rw [ai,az,ai,gE hi];rfl
 refine ⟨u,l'.map fun (i:Nat)=>(i:Int),fun i=>(-(((rg.filter (iK (l'.getD i 0))).length:Nat):Int),((l'.getD i 0:Nat):Int)),rfl,hu,by rw [lns];lia,hT17,?_,fun i hi H8 tb8=>?_,fun D2 H8 π tb8 hT18 f8 pm8 _=>?_⟩
 ·refine List.Pairwise.of_map (S:=fun a c:Int=>a≠c) Prod.snd (fun a c h e=>h (by rw [e])) ?_
  rw [dY,lns];have e:(aQ l'.length).map (Prod.snd ∘ fun i=>(-(((rg.filter (iK (l'.getD i 0))).length:Nat):Int),((l'.getD i 0:Nat):Int)))=l'.map fun (i:Nat)=>(i:Int):=by
   refine List.ext_getElem (by rw [aa,aa,bx]) fun i h1 h2=>?_
   rw [aa,bx] at h1;rw [iP,jb,iP];show ((l'.getD i 0:Nat):Int)=_;rw [ai,gE h1];rfl
  rw [e,fk];exact (bV.mp hnd).imp fun hh e=>hh (by lia)
 ·rw [lns] at hi
  rw [gns i hi];obtain ⟨tv,a1,a2,a3⟩:=tch7.ex;have hk:l'.getD i 0<sp.length:=by
   rw [ai,gE hi];exact hlt _ (bH hi)
  obtain ⟨uu,ql,b1,b2,b3⟩:=a3 _ hk;have K8:Kp H7 H8:=Tb.kp hT17 tb8;have lq:ql.length=(rg.filter (iK (l'.getD i 0))).length:=by rw [b3.length,aa]
  refine ⟨_,rfl,_,rfl,D,_,_,_,rfl,rfl,SqL.of (K8.lst _ _ a1),aJ b1,uu,_,rfl,.inl (SqL.of (K8.lst _ _ b2)),_,rfl,_,rfl,mU,fun a9 h9=>⟨Same.put (Same.refl H8) h9,a9,rfl,?_⟩⟩;rw [aS,lq]
 ·have K8:Kp H7 H8:=Tb.kp hT17 tb8
  have S9:Same H8 (upd H8 D2 (.lst (π.map fun (i:Nat)=>V.int ((l'.map fun (i:Nat)=>(i:Int)).getD i 0)))):=Same.put (Same.refl H8) f8;have h9:(upd H8 D2 (.lst (π.map fun (i:Nat)=>V.int ((l'.map fun (i:Nat)=>(i:Int)).getD i 0)))) D2=some (.lst ((π.map fun i=>l'.getD i 0).map fun (i:Nat)=>V.int i)):=by
   rw [aS,dY];congr 2;refine fV fun i hi=>?_
   have:=bT.mp (pm8.mem_iff.mp hi);rw [lns] at this;rw [gns i this];rfl
  generalize upd H8 D2 (.lst (π.map fun (i:Nat)=>V.int ((l'.map fun (i:Nat)=>(i:Int)).getD i 0)))=H9 at S9 h9 ⊢;have hx9:=S9 _ _ (tb8 x _ xT1 hx7);refine ⟨_,rfl,x,C,dx,_,rfl,hx9,CC.cl,CC.n3,(by show 2<1000;decide),?_⟩;have K9:Kp H7 H9:=K8.trans (Same.kp S9);have hT08:=LamT.same S9 (LamT.ntb hT07 hT17 ne tb8);have hT19:=LamT.same S9 hT18;have KX:Kp H9 (upd H9 x (.ins C dx (mV "order" (.ref D2) [("first_case",.ref q4),("touched",.ref D)]))):=Kp.upd hx9;refine k l' rg _ (fun a o n0 n1 n2 e=>?_) (kp7.trans (K9.trans KX)) (mh hT08 hx9) (mh hT19 hx9) R ⟨dx,q4,D,D2,_,aS,(cs7.kp K9).kp KX,(tch7.kp K9).kp KX,KX.lst _ _ h9,ord_perm (by rw [lns] at pm8;exact pm8)⟩;rw [br n2];exact S9 _ _ (tb8 a o n1 (st7 a o n0 n1 n2 e))
theorem scSpanC:cp ["self","case","span","bound"] ["self","case"] (defScope sSpanC):=by trivial
theorem ok_spanC (F:Fun K "span_to_cut" "Cuts.span_to_cut" sSpanC f fd)(CC:CutC K C):dv P w K mg base CX0 1 f fd ["self","case"] (spSpanC C):=by
 refine F.ok scSpanC (by contradiction) (fun cdv A outer s H vs Q E hr h=>?_);obtain ⟨x,c,sp,l,rg,rs,bs,rfl,hx,hc,hl,few,k1,k2⟩:=h;obtain ⟨dx,c0,tl,ol,ord,h1,h2,h3,h4,h5⟩:=hx.ex;obtain ⟨vb,u,rl,c1,c2,c3,c4⟩:=hc.ex;obtain ⟨pb,yb,rfl,hpb,hlb,rb⟩:=iG c2;refine ⟨_,PSl.h (aU ⟨(iC bL rfl (jk (pe_fld (pv 0) rfl)) (cY (i:=2) scSpanC.nd rfl (.inl rfl)) (PSl.h (aU ⟨(bC (i:=3) scSpanC.nd rfl (.inl rfl) (dN dQ (ixZ (pv 1)) (pv 2) (fun _ _=>rfl)))⟩
  (dH ⟨(gR (cG pW (ixZ (pv 3)) (ixZ (pv 3)) (dg _)) (cO (cx (pv 2))) d7)⟩))))⟩
  (dH ⟨(cx jL)⟩)),?_⟩
 refine ⟨_,rfl,x,C,dx,_,_,rfl,h1,CC.cl,CC.n3,rfl,ol,rfl,⟨_,SqL.of h4⟩,?_⟩;refine lh (K:=K) (a:=ol) (xs:=ord.map fun (i:Nat)=>V.int i) (fun i σ H1=>H1=H∧(∀ j∈ord.take i,¬ ((bs.getD j (0,0)).1<(bs.getD j (0,0)).2))∧∃ v2 v3,σ=[some (.ref x),some (.ref c),v2,v3]) ⟨rfl,fun _ h=>rd h (by simp),none,none,rfl⟩ (fun i σ H1 _ ⟨e,_⟩=>by rw [e];exact SqL.of h4) ?_ ?_
 ·rintro i y σ H1 hy ⟨rfl,hal,v2,v3,rfl⟩
  obtain ⟨j,hj,rfl⟩:=mapI_at hy;have hm:j∈ord:=bt hj;have hjl:=h5.mem_iff.mp hm;have hjb:=hl j hjl;obtain ⟨q,hq,hq2⟩:=iQ rb (gE hjb);have e0:bs.getD j (0,0)=bs[j]:=by rw [ai,gE hjb];rfl
  refine ⟨_,rfl,c,_,_,_,rfl,rfl,SqT.of c1,aJ (j:=0) rfl,_,rfl,pb,_,_,_,rfl,rfl,SqT.of hpb,aJ (j:=j) hq,?_⟩;refine ⟨_,rfl,q,_,_,_,rfl,rfl,SqT.of hq2,aJ (j:=0) rfl,_,rfl,q,_,_,_,rfl,rfl,SqT.of hq2,aJ (j:=1) rfl,_,_,rfl,rfl,_,rfl,?_⟩;show if decide (bs[j].1<bs[j].2)=true then _ else _;refine ite2 (fun hc=>?_) (fun hc=>?_)
  ·exact ⟨_,rfl,k2 j hjl (by rw [e0];exact rj hc)⟩
  ·refine ⟨rfl,fun z hz=>?_,_,_,rfl⟩
   rw [bj,hj] at hz
   rcases aN.mp hz with y | y
   ·exact hal z y
   ·rw [ax.mp (show z∈[j] from y),e0]
    exact fun w=>hc (rf w)
 ·rintro σ H1 ⟨rfl,hal,v2,v3,rfl⟩
  rw [aa,bc] at hal;exact k1 fun j hj=>hal j (h5.mem_iff.mpr hj)
theorem oT:cp ["self","case","span","at","bounds","one","other"] pzF (defScope sSidesC):=by trivial
theorem ok_sidesC (F:Fun K "sides" "Cuts.sides" sSidesC f fd)(CC:CutC K C)(G1:Fn K mg "with_bound" sWithB pzt f1 fd1):dv P w K mg base CX0 2 f fd pzF (spSidesC C):=by
 have F1:dv P w K mg base CX0 1 f1 fd1 pzt spWithB:=ok_withB G1.F;refine F.ok oT (by contradiction) (fun cdv A outer s H vs Q E hr h=>?_);obtain ⟨Hb,x,c,n,a,sp,l,rg,rs,bs,rfl,Sb,hx,hc,hn,lb,few,k⟩:=h;obtain ⟨dx,c0,tl,ol,ord,h1,h2,h3,h4,h5⟩:=hx.ex;obtain ⟨tv,t1,t2,t3⟩:=h3.ex;obtain ⟨u,ql,b1,b2,b3⟩:=t3 n (by lia);obtain ⟨vb,u0,rl,c1,c2,c3,c4⟩:=hc.ex;obtain ⟨pb,yb,rfl,hpb,hlb,rb⟩:=iG c2;obtain ⟨qn,hqn,hqn2⟩:=iQ rb (gE hn);have e0:bs.getD n (0,0)=bs[n]:=by rw [ai,gE hn];rfl
 have e1:lL bs n a=bs.set n (bs[n].1,a):=by unfold lL;rw [e0]
 have e2:fA bs n a=bs.set n (a+1,bs[n].2):=by unfold fA;rw [e0]
 refine ⟨_,PSl.h (aU ⟨(bC (i:=4) oT.nd rfl (.inl rfl) (ixZ (pv 1)))⟩
  (aU ⟨(bC (i:=5) oT.nd rfl (.inl rfl) (pc1 G1 F1 hr (ae (pv 4) (ae (pv 2) (ae (ixZ (dN dQ (pv 4) (pv 2) (fun _ _=>rfl))) (ae (pv 3) aB))))))⟩
  (aU ⟨(bC (i:=6) oT.nd rfl (.inl rfl) (pc1 G1 F1 hr (ae (pv 4) (ae (pv 2) (ae (b9 eh (pv 3) bg) (ae (ixZ (dN dQ (pv 4) (pv 2) (fun _ _=>rfl))) aB))))))⟩
  (dH ⟨(cx (iY (ae (d8 (ae (pv 6) (ae (dN eE (pe_fld (pv 0) rfl) (pv 2) (fun _ _=>rfl)) aB))) (ae (d8 (ae (pv 5) (ae (dN eE (pe_fld (pv 0) rfl) (pv 2) (fun _ _=>rfl)) aB))) aB))))⟩)))),?_⟩
 refine ⟨_,rfl,c,_,_,_,rfl,rfl,SqT.of c1,aJ (j:=0) rfl,?_⟩;refine ⟨_,rfl,_,rfl,_,rfl,_,rfl,pb,_,_,_,rfl,rfl,SqT.of hpb,aJ (j:=n) hqn,qn,_,_,_,rfl,rfl,SqT.of hqn2,aJ (j:=0) rfl,_,rfl,.ref pb,n,bs[n].1,a,bs,rfl,c2,hn,few,fun u1 H1 S1 hu1=>?_⟩;refine ⟨_,rfl,_,rfl,_,rfl,_,_,rfl,rfl,_,rfl,_,rfl,pb,_,_,_,rfl,rfl,SqT.of (S1 _ _ hpb),aJ (j:=n) hqn,qn,_,_,_,rfl,rfl,SqT.of (S1 _ _ hqn2),aJ (j:=1) rfl,.ref pb,n,a+1,bs[n].2,bs,rfl,c2.same S1,hn,few,fun u2 H2 S2 hu2=>?_⟩;have S02:=S1.trans S2;have Sb2:=Sb.trans S02;refine ⟨_,rfl,_,rfl,x,C,dx,_,_,rfl,Sb2 _ _ h1,CC.cl,CC.n2,rfl,_,rfl,tl,_,_,_,rfl,rfl,SqL.of (Sb2 _ _ t1),aJ b1,mU,fun q3 H3 S3 h3'=>?_⟩;refine ⟨_,rfl,_,rfl,x,C,dx,_,_,rfl,S3 _ _ (Sb2 _ _ h1),CC.cl,CC.n2,rfl,_,rfl,tl,_,_,_,rfl,rfl,SqL.of (S3 _ _ (Sb2 _ _ t1)),aJ b1,mU,fun q4 H4 S4 h4'=>?_⟩;refine ⟨mU,fun L hL=>?_⟩;have S5:Same H4 (upd H4 L (.lst [.ref q3,.ref q4])):=Same.put (Same.refl H4) hL;have S25:=S3.trans (S4.trans S5);refine k L q3 q4 _ (S02.trans S25) (Same.free (S02.trans (S3.trans S4)) hL) aS ⟨u2,u,ql,S5 _ _ (S4 _ _ h3'),?_,b2,b3⟩ ⟨u1,u,ql,S5 _ _ h4',?_,b2,b3⟩
 ·rw [e2];exact hu2.same S25
 ·rw [e1];exact (hu1.same S2).same S25
abbrev sSpread:cV:=top 21
inductive spSpread (T:ao)(lp:Pos)(lq:Str)(vs:List V)(H:Hp)(Q:VK)(_:XK):Prop
 | mk (v:V)(b m:Int)(sp:List Sn)(_:vs=[v])(_:IsD H v (ka b m sp))(_:NetT b m sp)(_:L2.LamT T lp lq H)(_:∀ (L:ao) (zs:List V) (l:List Nat) (S:List Stp) (H':Hp),L2.Tb T H H'→L2.LamT T lp lq H'→H L=none→H' L=some (.lst zs)→IsDs H' zs (dI Stp.row S)→FrstL m.toNat sp l→SprOk m.toNat sp l S→Q (.ref L) H')
structure JS (H Hc:Hp)(Da Ls:ao)(R:List Int)(S:List Stp)(n:Nat):Prop where
 same:Same H Hc
 da:∃ kvs,Hc Da=some (.dK kvs)∧(∀ x,nQ kvs (.inl x)=none↔x ∉ R)∧kvs.length≤R.length+n
 ls:∃ zs,Hc Ls=some (.lst zs)∧IsDs Hc zs (dI Stp.row S)
theorem JS.on {Hc':Hp}{R:List Int}(j:JS H Hc Da Ls R S n)(e:Same Hc Hc'):JS H Hc' Da Ls R S n:=by
 obtain ⟨kvs,h1,h2⟩:=j.da;obtain ⟨zs,h3,h4⟩:=j.ls;exact ⟨j.same.trans e,⟨kvs,e _ _ h1,h2⟩,⟨zs,e _ _ h3,h4.same e⟩⟩
theorem JS.upL {La:ao}{R:List Int}(j:JS H Hc Da Ls R S n)(hL:H La=none)(hc:Hc La=some (.lst xs))(ne:Ls≠La):JS H (upd Hc La (.lst ys)) Da Ls R S n:=by
 obtain ⟨kvs,h1,h2⟩:=j.da;obtain ⟨zs,h3,h4⟩:=j.ls;exact ⟨fun a o e=>by rw [br (bf e hL)];exact j.same a o e,⟨kvs,by rw [br (fH h1 hc nofun)];exact h1,h2⟩,⟨zs,by rw [br ne];exact h3,cf (fb hc) h4⟩⟩
theorem JS.upS {q:ao}{R:List Int}{s:Stp}(j:JS H Hc Da Ls R S n)(hL:H Ls=none)(hc:Hc Ls=some (.lst zs))(hz:IsDs Hc zs (dI Stp.row S))(hq:IsD Hc (.ref q) (.tup ((Stp.row s).map Dt.int))):JS H (upd Hc Ls (.lst (zs++[.ref q]))) Da Ls R (S++[s]) n:=by
 obtain ⟨kvs,h1,h2⟩:=j.da;have hd:IsDs Hc (zs++[.ref q]) (dI Stp.row (S++[s])):=by
  unfold dI at hz ⊢;rw [ay];exact hz.append (.cons hq .nil)
 exact ⟨fun a o e=>by rw [br (bf e hL)];exact j.same a o e,⟨kvs,by rw [br (fH h1 hc nofun)];exact h1,h2⟩,⟨_,aS,cf (fb hc) hd⟩⟩
theorem JS.upD {R:List Int}{kvs:List (Key×V)}{x:Int}{R':List Int}{n':Nat}(j:JS H Hc Da Ls R S n)(hD:H Da=none)(hc:Hc Da=some (.dK kvs))(hk:∀ x,nQ kvs (.inl x)=none↔x ∉ R)(hR:∀ z,z∈R'↔z∈R∨z=x)(hl:kvs.length+1≤R'.length+n'):JS H (upd Hc Da (.dK (nW kvs (.inl x) y))) Da Ls R' S n':=by
 obtain ⟨zs,h3,h4⟩:=j.ls;have K:TupK Hc (upd Hc Da (.dK (nW kvs (.inl x) y))):=fun q xs h=>by rw [br (fH h hc nofun)];exact h
 refine ⟨fun a o e=>by rw [br (bf e hD)];exact j.same a o e,⟨_,aS,fun z=>?_,?_⟩,⟨zs,by rw [br (fH h3 hc nofun)];exact h3,cf K h4⟩⟩
 ·rw [valV_put,hR]
  by_cases e:z=x
  ·rw [q9 (by rw [e])]
   exact ⟨fun h=>(by cases h),fun h=>rd (Or.inr e) h⟩
  ·rw [qZ (fun h=>e (Sum.inl.inj h)),hk]
   exact ⟨fun h h'=>h'.elim h e,fun h h'=>h (.inl h')⟩
 ·exact bo (k9 _ _ _) hl
theorem jP:cp ["net","taken","reached","steps","first","ahead","here","step","there"] pza (defScope sSpread):=by trivial
theorem ok_spread (F:Fun K "spread_of" "spread_of" sSpread f fd)(T:Nm mg)(T2:Nt mg)(G1:Fn K mg "forest_of" lQ pza f1 fd1)(F1:dv P w K mg base CX0 6 f1 fd1 pza (kW Tb0 lp lq))(G2:Fn K mg "steps_from" pL pzk f2 fd2)(F2:dv P w K mg base CX0 2 f2 fd2 pzk spSteps)(G3:Fn K mg "leads_to" sTo pzc f3 fd3):dv P w K mg base CX0 7 f fd pza (spSpread Tb0 lp lq):=by
 have F3:dv P w K mg base CX0 1 f3 fd3 pzc spTo:=ok_to G3.F;refine F.ok jP (by contradiction) (fun cdv A outer s H0 vs Q E hr h=>?_);obtain ⟨v,b,m,sp,rfl,hv,N,hT,k⟩:=h;have hr2:Room 2 _:=hr.mono (by decide);have hr1:Room 1 _:=hr.mono (by decide);have u1:=bY (Nat.add_le_add_left (by decide:1≤64) _) hr.units;have E:=N.ends;have m1:=N.m1;have m2:=N.m2;refine ⟨_,PSl.h (aU ⟨(bC (i:=1) jP.nd rfl (.inl rfl) (pc1 G1 F1 hr (ae (pv 0) aB)))⟩
  (aU ⟨(bC (i:=2) jP.nd rfl (.inl rfl) pe_dnewK)⟩
  (aU ⟨(bC (i:=3) jP.nd rfl (.inl rfl) (iY aB))⟩
  (aU ⟨(iC bL rfl (iJ rfl T2.range (ae (ixZ (pv 0)) aB)) (cY (i:=4) jP.nd rfl (.inl rfl)) (PSl.h (aU ⟨(bC (i:=5) jP.nd rfl (.inl rfl) (PE.cutV (ma (pt_cmp (nj u1 (pv 4) (pv 2)) rfl) (iY (ae (pv 4) aB)) (iY aB))))⟩
  (aU ⟨(ps_dput u1 (pv 2) (pv 4) pe_bl rfl)⟩
  (dH ⟨(oX bL (cG op_gt (cM cg rfl T.len bP (ae (pv 5) aB)) bg (dg _)) (PSl.h (aU ⟨(bC (i:=6) jP.nd rfl (.inl rfl) (qO bp fv fu qQ (pv 5)))⟩
  (dH ⟨(iC bL rfl (jk (pc1 G2 F2 hr2 (ae (pv 0) (ae (pv 1) (ae (pv 6) aB))))) (cY (i:=7) jP.nd rfl (.inl rfl)) (PSl.h (aU ⟨(bC (i:=8) jP.nd rfl (.inl rfl) (pc1 G3 F3 hr1 (ae (pv 0) (ae (pv 7) aB))))⟩
  (dH ⟨(gR (pt_cmp (nj u1 (pv 8) (pv 2)) rfl) (PSl.h (aU ⟨(ps_dput u1 (pv 2) (pv 8) pe_bl rfl)⟩
  (aU ⟨(ik (lH bp cu cq g9 (pv 5) (ae (pv 8) aB)))⟩
  (dH ⟨(ik (lH bp cu cq g9 (pv 3) (ae (pv 7) aB)))⟩)))) d7)⟩))))⟩))))⟩)))))⟩
  (dH ⟨(cx (pv 3))⟩))))),?_⟩
 refine ⟨_,rfl,v,b,m,sp,rfl,hv,N,hT,fun u H ns tb1 hT1 hu F0=>?_⟩;obtain ⟨l,π,rfl,O,pm⟩:=F0.natsF;have fr:FrstL m.toNat sp l:=⟨F0,π,O,pm⟩;rw [dY] at hu;have hu:H u=some (.tup (l.map fun (i:Nat)=>V.int i)):=hu;have hv1:=cB (Tb.lamT hT tb1) hv;obtain ⟨t,p,ys,rfl,ht,hp,hl,hy⟩:=fR hv1;clear hy hp hl hv;have PT:=fr.pots E;have hlt:=PT.nodup.2;have few:l.length≤40:=by have:=fr.few E (by lia);lia
 have ne:∀ i∈l,(sAt sp i).s≠(sAt sp i).g:=fun i hi=>(N.all _ (eQ (hlt i hi))).ne
 intro Da hDa;have hDa1:(upd H Da (.dK [])) Da=some (.dK []):=aS;have S1:Same H (upd H Da (.dK [])):=Same.put (Same.refl H) hDa;generalize upd H Da (.dK [])=H1 at hDa1 S1 ⊢;refine ⟨bF _,fun Ls hLs=>?_⟩;have hLsH:H Ls=none:=Same.free S1 hLs;have S2:Same H1 (upd H1 Ls (.lst [])):=Same.put (Same.refl H1) hLs;have J2:JS H (upd H1 Ls (.lst [])) Da Ls [] [] 0:=⟨S1.trans S2,⟨[],S2 _ _ hDa1,fun x=>⟨fun _ h=>(by cases h),fun _=>rfl⟩,aC _⟩,⟨[],aS,.nil⟩⟩;generalize upd H1 Ls (.lst [])=H2 at J2 ⊢;clear S2 hLs S1 hDa1;refine ⟨_,rfl,t,_,_,_,rfl,rfl,SqT.of (J2.same _ _ ht),aJ (j:=1) rfl,m,rfl,by lia,by lia,?_⟩;refine kI (n:=m.toNat) (fun i σ HC=>∃ (R:List Int) (S:List Stp) (w4 w5 w6 w7 w8:Option V),σ=[some (.ref t),some (.ref u),some (.ref Da),some (.ref Ls),w4,w5,w6,w7,w8]∧JS H HC Da Ls R S i∧SI m.toNat sp l exN R [] S∧∀ x:Nat,x<i→(x:Int)∈R) ⟨[],[],none,none,none,none,none,rfl,J2,SI.start,fun x hx=>rd hx (Nat.not_lt_zero _)⟩ ?_ ?_
 ·rintro i σ HC hi ⟨R,S,w4,w5,w6,w7,w8,rfl,JC,I0,hall⟩
  rw [gc];have hRm:=I0.few;obtain ⟨kvs,hDaC,hkv,hkl⟩:=JC.da;refine ⟨fun v H'=>∃ La A,v= .ref La∧H La=none∧La≠Ls∧JS H H' Da Ls R S i∧H' La=some (.lst (A.map V.int))∧((i:Int) ∉ R∧A=[(i:Int)]∨(i:Int)∈R∧A=[]),?_,?_⟩
  rotate_left
  ·refine ⟨_,rfl,_,rfl,Da,_,rfl,DGet.k (k:= .inl (i:Int)) hDaC,_,rfl,?_⟩
   have mk:∀ (La:ao) (xs:List V),HC La=none→JS H (upd HC La (.lst xs)) Da Ls R S i∧H La=none∧La≠Ls:=fun La xs hLa=>⟨JC.on (Same.put (Same.refl HC) hLa),Same.free JC.same hLa,fun z=>by
    obtain ⟨zs,hz,_⟩:=JC.ls;rw [z,hz] at hLa;cases hLa⟩
   cases c:nQ kvs (.inl (i:Int)) with
   | none =>
    refine iteT ⟨_,rfl,szZ1,fun La hLa=>?_⟩;obtain ⟨a1,a2,a3⟩:=mk La [.int (i:Int)] hLa;exact ⟨La,[(i:Int)],rfl,a2,a3,a1,aS,.inl ⟨(hkv _).mp c,rfl⟩⟩
   | some o =>
    refine iteF ⟨bF _,fun La hLa=>?_⟩;obtain ⟨a1,a2,a3⟩:=mk La [] hLa;exact ⟨La,[],rfl,a2,a3,a1,aS,.inr ⟨fm fun z=>(by rw [(hkv _).mpr z] at c;cases c),rfl⟩⟩
  rintro _ HD ⟨La,A,rfl,hLaH,nLL,JD,hLa,hA⟩;obtain ⟨kvD,hDaD,hkD,hlD⟩:=JD.da;refine ⟨_,rfl,_,rfl,Da,_,rfl,DPut.k (k:= .inl (i:Int)) hDaD (bY (by lia:kvD.length≤999) (by decide)),?_⟩;obtain ⟨R',hR',IR,inR,hall'⟩:∃ R',(∀ z,z∈R'↔z∈R∨z=(i:Int))∧SI m.toNat sp l exN R' A S∧R.length≤R'.length∧(∀ x:Nat,x<i+1→(x:Int)∈R'):=by
   rcases hA with ⟨a1,rfl⟩ | ⟨a1,rfl⟩
   ·refine ⟨R++[(i:Int)],fun z=>by rw [aN,ax],I0.root a1 (by lia) (by lia),by rw [av];lia,fun x hx=>?_⟩
    rcases ja.mp hx with z | z
    ·exact aM _ (hall x z)
    ·rw [z];simp
   ·refine ⟨R,fun z=>⟨.inl,fun h=>h.elim id fun e=>e ▸ a1⟩,I0,aC _,fun x hx=>?_⟩
    rcases ja.mp hx with z | z
    ·exact hall x z
    ·rw [z];exact a1
  have JE:=JD.upD (y:= .bl true) (R':=R') (n':=i+1) (x:=(i:Int)) hDa hDaD hkD hR' (by lia);have hLaE:(upd HD Da (.dK (nW kvD (.inl (i:Int)) (.bl true)))) La=some (.lst (A.map V.int)):=by rw [br (fH hLa hDaD nofun)];exact hLa
  generalize upd HD Da (.dK (nW kvD (.inl (i:Int)) (.bl true)))=HE at JE hLaE ⊢;have lA:A.length≤1:=by rcases hA with ⟨_,rfl⟩ | ⟨_,rfl⟩ <;> simp
  clear hA hLa JD hDaD hkD hlD inR I0 hall hkv hDaC JC;refine ⟨fun n σ HA=>∃ (R A:List Int) (S:List Stp) (w6 w7 w8:Option V),n=2 * (16 - R.length)+A.length∧n≤40∧σ=[some (.ref t),some (.ref u),some (.ref Da),some (.ref Ls),some (.int (i:Int)),some (.ref La),w6,w7,w8]∧JS H HA Da Ls R S (i+1)∧HA La=some (.lst (A.map V.int))∧SI m.toNat sp l exN R A S∧∀ x:Nat,x<i+1→(x:Int)∈R,⟨_,R',A,S,_,_,_,rfl,by lia,rfl,JE,hLaE,IR,hall'⟩,?_⟩;clear JE hLaE IR hall' hR' hkl;rintro n σ HA ⟨R,A,S,w6,w7,w8,rfl,n40,rfl,JA,hLa,IA,hall⟩;refine ⟨_,rfl,La,_,rfl,.inl (SqL.of hLa),_,_,rfl,rfl,_,rfl,?_⟩
  rcases List.eq_nil_or_concat A with rfl | ⟨A',x,rfl⟩
  ·refine ke (by rfl) ?_
   exact ⟨R,S,_,_,_,_,_,rfl,JA,IA,hall⟩
  rw [List.concat_eq_append] at hLa n40 IA ⊢;refine iteB (rf (by rw [aa,av];show ((A'.length+1:Nat):Int) > 0;lia)) ?_;refine ⟨_,fun σ' H' z=>z,?_⟩;rw [ay] at hLa;refine ⟨_,rfl,.inl ⟨rfl,_,SqL.of hLa⟩,La,_,.int x,rfl,rfl,hLa,by rw [av,bZ (by simp)];simp,?_⟩;rw [show (A'.map V.int++[x].map V.int).dropLast=A'.map V.int from gF];have JB:=JA.upL (ys:=A'.map V.int) hLaH hLa nLL.symm;have hLaB:(upd HA La (.lst (A'.map V.int))) La=some (.lst (A'.map V.int)):=aS;generalize upd HA La (.lst (A'.map V.int))=HB at JB hLaB ⊢;obtain ⟨IB,xR⟩:=IA.pop;have lB:2 * (16 - R.length)+A'.length+1≤40:=by rw [av] at n40;exact n40
  have eB:2 * (16 - R.length)+(A'++[x]).length=2 * (16 - R.length)+A'.length+1:=by rw [av];rfl
  rw [eB];clear JA hLa IA n40 eB;refine ⟨_,rfl,_,rfl,_,rfl,.ref t,u,b,m,sp,l,x,rfl,hv1.same JB.same,JB.same _ _ hu,hlt,few,fun L HC zs SC fL hL dz=>⟨L,rfl,⟨_,SqL.of hL⟩,?_⟩⟩;have nL1:L≠La:=fun z=>by rw [z,hLaB] at fL;cases fL
  have nL2:L≠Ls:=fun z=>by
   obtain ⟨z1,hz1,_⟩:=JB.ls;rw [z,hz1] at fL;cases fL
  have JC:=JB.on SC;have hLaC:=SC _ _ hLaB;clear JB hLaB;have lz:zs.length=(d9 sp l x).length:=by rw [dz.length];unfold dI;rw [aa]
  refine lh (K:=K) (a:=L) (xs:=zs) (fun j σ HD=>∃ (R2 A2:List Int) (S2:List Stp) (w7 w8:Option V),JS H HD Da Ls R2 S2 (i+1)∧HD La=some (.lst (A2.map V.int))∧SI m.toNat sp l (· =x) R2 A2 S2∧x∈R2∧(∀ x:Nat,x<i+1→(x:Int)∈R2)∧2 * (16 - R2.length)+A2.length≤2 * (16 - R.length)+A'.length∧(∀ s∈(d9 sp l x).take j,s.i∈S2.map Stp.i)∧HD L=some (.lst zs)∧IsDs HD zs (dI Stp.row (d9 sp l x))∧σ=[some (.ref t),some (.ref u),some (.ref Da),some (.ref Ls),some (.int (i:Int)),some (.ref La),some (.int x),w7,w8]) ⟨R,A',S,_,_,JC,hLaC,IB,xR,hall,aC _,fun s hs=>rd hs (by simp),hL,dz,rfl⟩ (fun j σ HD _ q=>by obtain ⟨_,_,_,_,_,_,_,_,_,_,_,_,h,_⟩:=q;exact SqL.of h) ?_ ?_
  ·clear JC hLaC IB xR hall hL dz SC
   rintro j y σ HD hy ⟨R2,A2,S2,w7,w8,JD,hLaD,ID,xD,hallD,mD,hsD,hLD,dD,rfl⟩;have hj:j<(d9 sp l x).length:=by have:=(aq.mp hy).1;lia
   have hsj:=gE hj;obtain ⟨y',hy',dy⟩:=dD.at (i:=j) (d:= .tup ((Stp.row (d9 sp l x)[j]).map Dt.int)) (by unfold dI;rw [az,hsj];rfl);rw [hy] at hy';cases hy';obtain ⟨q,qs,rfl,hq,rq⟩:=dy.tup_of;have eq:=rq.ints_of;subst eq;have hmem:(d9 sp l x)[j]∈d9 sp l x:=bH hj;have hin:=hlt _ (nU hmem).1.1;have more:∀ S3:List Stp,(∀ s∈S2,s∈S3)→(d9 sp l x)[j].i∈S3.map Stp.i→∀ s∈(d9 sp l x).take (j+1),s.i∈S3.map Stp.i:=fun S3 sub hj3 s hs=>by
    rw [bj,hsj] at hs
    rcases aN.mp hs with z | z
    ·obtain ⟨t',ht',e⟩:=bh.mp (hsD s z)
     exact bh.mpr ⟨t',sub _ ht',e⟩
    ·rw [ax.mp (show s∈[(d9 sp l x)[j]] from z)];exact hj3
   generalize (d9 sp l x)[j]=st at hq hin dy hmem more;refine ⟨_,rfl,_,rfl,.ref t,q,b,m,sp,st,sAt sp st.i,rfl,hv1.same JD.same,hq,jh hin,?_⟩;rw [(mX hin).1];obtain ⟨kv2,hDaD,hk2,hl2⟩:=JD.da;have hR2:=ID.fewX;refine ⟨_,rfl,_,rfl,Da,_,rfl,DGet.k (k:= .inl (fF sp st)) hDaD,_,rfl,?_⟩;cases hto:nQ kv2 (.inl (fF sp st)) with
   | some o =>
    have inR:fF sp st∈R2:=fm fun z=>by rw [(hk2 _).mpr z] at hto;cases hto
    exact iteF ⟨R2,A2,S2,_,_,JD,hLaD,ID,xD,hallD,mD,more S2 (fun _ h=>h) (ID.has PT ne hmem inR),hLD,dD,rfl⟩
   | none =>
    have out:fF sp st ∉ R2:=(hk2 _).mp hto;have I3:=ID.add E hlt xD hmem out;have hR3:=I3.fewX;rw [av] at hR3;have hR3:R2.length+1≤m.toNat:=hR3;refine iteT ⟨_,rfl,_,rfl,Da,_,rfl,DPut.k (k:= .inl (fF sp st)) hDaD (bY (by lia:kv2.length≤999) (by decide)),?_⟩;have J3:=JD.upD (y:= .bl true) (R':=R2++[fF sp st]) (n':=i+1) (x:=fF sp st) hDa hDaD hk2 (fun z=>by rw [aN,ax]) (by rw [av];show _≤R2.length+1+(i+1);lia);have K3:TupK HD (upd HD Da (.dK (nW kv2 (.inl (fF sp st)) (.bl true)))):=fun q xs h=>by rw [br (fH h hDaD nofun)];exact h
    have hLa3:(upd HD Da (.dK (nW kv2 (.inl (fF sp st)) (.bl true)))) La=some (.lst (A2.map V.int)):=by rw [br (fH hLaD hDaD nofun)];exact hLaD
    have hL3:(upd HD Da (.dK (nW kv2 (.inl (fF sp st)) (.bl true)))) L=some (.lst zs):=by rw [br (fH hLD hDaD nofun)];exact hLD
    generalize upd HD Da (.dK (nW kv2 (.inl (fF sp st)) (.bl true)))=H3 at J3 K3 hLa3 hL3 ⊢;have d3:=cf K3 dD;have q3:=K3 _ _ hq;refine ⟨_,rfl,.inl ⟨rfl,_,SqL.of hLa3⟩,_,rfl,La,_,_,rfl,rfl,hLa3,mZ (by rw [aa];lia),?_⟩;have J4:=J3.upL (ys:=A2.map V.int++[V.int (fF sp st)]) hLaH hLa3 nLL.symm;have K4:TupK H3 (upd H3 La (.lst (A2.map V.int++[V.int (fF sp st)]))):=fb hLa3;have hLa4:(upd H3 La (.lst (A2.map V.int++[V.int (fF sp st)]))) La=some (.lst (A2.map V.int++[V.int (fF sp st)])):=aS;have hL4:(upd H3 La (.lst (A2.map V.int++[V.int (fF sp st)]))) L=some (.lst zs):=by rw [br nL1];exact hL3
    generalize upd H3 La (.lst (A2.map V.int++[V.int (fF sp st)]))=H4 at J4 K4 hLa4 hL4 ⊢;have d4:=cf K4 d3;have q4:=K4 _ _ q3;obtain ⟨z4,hz4,dz4⟩:=J4.ls;have lz4:z4.length=S2.length:=by rw [dz4.length];unfold dI;rw [aa]
    have lS:=ID.len;refine ⟨_,rfl,.inl ⟨rfl,_,SqL.of hz4⟩,_,rfl,Ls,_,_,rfl,rfl,hz4,mZ (by lia),?_⟩;have J5:=J4.upS (s:=st) hLsH hz4 dz4 (.tup q4 (IsDs.ints (Stp.row st)));refine ⟨R2++[fF sp st],A2++[fF sp st],S2++[st],_,_,J5,?_,I3,aM _ xD,fun x hx=>aM _ (hallD x hx),?_,more _ (fun _ h=>aM _ h) (by rw [ay];exact aA _ (by simp)),?_,cf (fb hz4) d4,rfl⟩
    ·rw [br nLL,hLa4,ay];rfl
    ·rw [av,av]
     show 2 * (16 - (R2.length+1))+(A2.length+1)≤_;lia
    ·rw [br nL2];exact hL4
  ·rintro σ HD ⟨R2,A2,S2,w7,w8,JD,hLaD,ID,xD,hallD,mD,hsD,hLD,dD,rfl⟩
   rw [lz,bc] at hsD;exact ⟨_,by lia,R2,A2,S2,_,_,_,rfl,by lia,rfl,JD,hLaD,ID.done hsD,hallD⟩
 ·rintro σ HC ⟨R,S,w4,w5,w6,w7,w8,rfl,JC,I0,hall⟩
  obtain ⟨zs,hz,dz⟩:=JC.ls;have hLs0:H0 Ls=none:=by
   cases z:H0 Ls with
   | none=>rfl
   | some o =>
    by_cases e:Ls=Tb0
    ·subst e
     obtain ⟨ps,hps⟩:=LamT.tbl hT1;rw [hps] at hLsH;cases hLsH
    ·rw [tb1 Ls o e z] at hLsH;cases hLsH
  exact ⟨_,rfl,k Ls zs l S HC (tb1.trans (Same.tb JC.same)) (LamT.same JC.same hT1) hLs0 hz dz fr (I0.ok E hlt hall)⟩
abbrev sRest:cV:=top 23
abbrev sTabBy:cV:=top 37
inductive spTabBy (vs:List V)(H:Hp)(Q:VK)(_:XK):Prop
 | mk (v vb:V)(L:ao)(b m:Int)(sp:List Sn)(bs:List (Int×Int))(zs:List V)(S:List Stp)(_:vs=[v,.ref L,vb])(_:IsD H v (ka b m sp))(_:0<b)(_:0<m)(_:m≤16)(_:Ends m.toNat sp)(_:H L=some (.lst zs))(_:IsDs H zs (dI Stp.row S))(_:S.length≤16)(_:(∀ s∈S,s.i<sp.length∧(s.d=1∨s.d= -1)))(_:IsD H vb (bndP bs))(_:bs.length=sp.length)(_:∀ q H',Same H H'→H' q=some (.tup ((tabOf b sp bs m.toNat S).map V.int))→Q (.ref q) H')
theorem frmS_rng (E:Ends m sp){t:Stp}(h:t.i<sp.length):0≤lI sp t∧lI sp t<m:=by
 obtain ⟨a,b,c,d⟩:=E _ (eQ h);rw [←(tooS_sAt0 h).2];unfold frm;split <;> lia
theorem ixN_int (h0:0≤z)(h1:z<n):ixN n z=some z.toNat:=by unfold ixN;rw [q9 h0,q9 h1]
theorem atI_int {xs:List α}{x:α}(h0:0≤z)(h:xs[z.toNat]? =some x):atI xs z=some x:=by
 have:=(aq.mp h).1;unfold atI;rw [ixN_int h0 (by lia)];exact h
theorem map_set {l:List Int}{x:Int}:(l.map V.int).set n (V.int x)=(l.set n x).map V.int:=by rw [List.map_set]
theorem scRest:cp pzj pzj (defScope sRest):=by trivial
theorem ok_rest (F:Fun K "rest_by" "rest_by" sRest f fd):dv P w K mg base CX0 1 f fd pzj spRest:=by
 refine F.ok scRest (by contradiction) (fun cdv A outer s H vs Q E hr h=>?_);obtain ⟨b,n,rfl,hb,k⟩:=h;refine ⟨_,PSl.h (dH ⟨(cx (b9 jM (pv 1) (pv 0)))⟩),?_⟩;exact ⟨_,rfl,_,rfl,_,_,rfl,rfl,hb,k⟩
theorem scTabBy:cp ["net","steps","bounds","times","step"] pzG (defScope sTabBy):=by trivial
theorem ok_tabBy (F:Fun K "table_by" "table_by" sTabBy f fd)(T:Nm mg)(G1:Fn K mg "leads_to" sTo pzc f1 fd1)(G2:Fn K mg "leads_from" sFrom pzc f2 fd2)(G3:Fn K mg "rest_by" sRest pzj f3 fd3):dv P w K mg base CX0 2 f fd pzG spTabBy:=by
 have F1:dv P w K mg base CX0 1 f1 fd1 pzc spTo:=ok_to G1.F;have F2:dv P w K mg base CX0 1 f2 fd2 pzc spFrom:=ok_from G2.F;have F3:dv P w K mg base CX0 1 f3 fd3 pzj spRest:=ok_rest G3.F;refine F.ok scTabBy (by contradiction) (fun cdv A outer s H vs Q E hr h=>?_);obtain ⟨v,vb,L,b,m,sp,bs,zs,S,rfl,hv,hb,m0,m16,E,hL,dz,lS,hS,hvb,lb,k⟩:=h;have hr1:=hr;obtain ⟨t,p,ys,rfl,ht,hp,hl,hy⟩:=fR hv;obtain ⟨pb,yb,rfl,hpb,hlb,rb⟩:=iG hvb;refine ⟨_,PSl.h (aU ⟨(bC (i:=3) scTabBy.nd rfl (.inl rfl) (b9 op_rep (pV (ae bg aB)) (ixZ (pv 0))))⟩
  (aU ⟨(iC bL rfl (jk (pv 1)) (cY (i:=4) scTabBy.nd rfl (.inl rfl)) (cO (om (b9 eh (dN eE (pv 3) (pc1 G2 F2 hr1 (ae (pv 0) (ae (pv 4) aB))) (fun _ _=>rfl)) (b9 jA (ixZ (pv 4)) (ixZ (dN dQ (pv 2) (ixZ (pv 4)) (fun _ _=>rfl))))) (pg_sub (pv 3) (pc1 G1 F1 hr1 (ae (pv 0) (ae (pv 4) aB))) set_list))))⟩
  (dH ⟨(cx (fG i9 rfl T.ttup i5 (ae (i7 (fr:=pza) (js:=[0]) rfl (jk (pv 3)) (by trivial) rfl (by trivial) rfl (by exists sTabBy) (by trivial) rfl (by trivial) (fun _ _ _ _ _=>⟨(pc1 G3 F3 hr1 (ae (dN (r:=oU K) dQ (pv 1) bg (fun _ _=>rfl)) (ae (pv 0) aB))),iH⟩)) aB)))⟩))),?_⟩
 refine ⟨szZ1,fun q1 H1 S1 h1=>⟨_,rfl,t,_,_,_,rfl,rfl,SqT.of (S1 _ _ ht),aJ (j:=1) rfl,q1,m,_,rfl,rfl,h1,by lia,by lia,?_,fun Lt hLt=>?_⟩⟩
 ·show 1 * m.toNat≤bq
  exact eG (by lia)
 have hLtH:H Lt=none:=Same.free S1 hLt;have S2:Same H (upd H1 Lt (.lst (bU m.toNat [V.int 0]).flatten)):=S1.trans (Same.put (Same.refl H1) hLt);have h2:(upd H1 Lt (.lst (bU m.toNat [V.int 0]).flatten)) Lt=some (.lst ((bU m.toNat (0:Int)).map V.int)):=by
  rw [aS,List.map_replicate,List.flatten_replicate_singleton]
 generalize upd H1 Lt (.lst (bU m.toNat [V.int 0]).flatten)=H2 at S2 h2 ⊢;have lz:zs.length=S.length:=by rw [dz.length];unfold dI;rw [aa]
 have len:∀ j,((S.take j).foldl (setT sp (lowB bs)) (bU m.toNat 0)).length=m.toNat:=fun j=>by rw [l5 (m:=0),iw]
 refine ⟨_,rfl,L,rfl,⟨_,SqL.of (S2 _ _ hL)⟩,?_⟩;refine lh (K:=K) (a:=L) (xs:=zs) (fun j σ HD=>Same H HD∧HD Lt=some (.lst (((S.take j).foldl (setT sp (lowB bs)) (bU m.toNat 0)).map V.int))∧∃ w4,σ=[some (.ref t),some (.ref L),some (.ref pb),some (.ref Lt),w4]) ⟨S2,h2,none,rfl⟩ (fun j σ HD _ ⟨h,_⟩=>SqL.of (h _ _ hL)) ?_ ?_
 ·rintro j y σ HD hy' ⟨SD,hD,w4,rfl⟩
  have hj:j<S.length:=by have:=(aq.mp hy').1;lia
  have hsj:=gE hj;obtain ⟨y',hy2,dy⟩:=dz.at (i:=j) (d:= .tup ((Stp.row S[j]).map Dt.int)) (by unfold dI;rw [az,hsj];rfl);rw [hy'] at hy2;cases hy2;obtain ⟨q,qs,rfl,hq,rq⟩:=dy.tup_of;have eq:=rq.ints_of;subst eq;obtain ⟨hin,hd⟩:=hS _ (bH hj);have fold:(S.take (j+1)).foldl (setT sp (lowB bs)) (bU m.toNat 0)=setT sp (lowB bs) ((S.take j).foldl (setT sp (lowB bs)) (bU m.toNat 0)) S[j]:=by
   rw [bj,hsj,eN];rfl
  rw [fold];have lj:=len j;generalize (S.take j).foldl (setT sp (lowB bs)) (bU m.toNat 0)=ts at hD lj ⊢;generalize S[j]=st at hq hin hd;obtain ⟨f0,f1'⟩:=frmS_rng E hin;obtain ⟨t0,t1⟩:=l4 E hin;have hbi:st.i<bs.length:=by lia
  obtain ⟨qb,hqb,hqb2⟩:=iQ rb (gE hbi);have el:lowB bs st.i=bs[st.i].1:=by unfold lowB;rw [ai,gE hbi];rfl
  have hat:∀ z:Int,0≤z→z<m.toNat→(ts.map V.int)[z.toNat]? =some (V.int (tm ts z)):=fun z z0 z1=>by
   rw [az,gE (by lia:z.toNat<ts.length)];unfold tm;rw [ai,gE (by lia:z.toNat<ts.length)];rfl
  refine ⟨_,rfl,_,rfl,_,rfl,.ref t,q,b,m,sp,st,sAt sp st.i,rfl,hv.same SD,SD _ _ hq,jh hin,?_⟩;rw [(mX hin).2];refine ⟨Lt,_,_,_,rfl,rfl,SqL.of hD,atI_int f0 (hat _ f0 f1'),?_⟩;refine ⟨_,rfl,q,_,_,_,rfl,rfl,SqT.of (SD _ _ hq),aJ (j:=1) rfl,_,rfl,_,rfl,q,_,_,_,rfl,rfl,SqT.of (SD _ _ hq),aJ (j:=0) rfl,pb,_,_,_,rfl,rfl,SqT.of (SD _ _ hpb),aJ (j:=st.i) hqb,qb,_,_,_,rfl,rfl,SqT.of (SD _ _ hqb2),aJ (j:=0) rfl,_,_,rfl,rfl,?_,_,_,rfl,rfl,?_⟩
  ·exact .inl (by rcases hd with e | e <;> rw [e] <;> decide)
  refine ⟨_,rfl,_,rfl,_,rfl,.ref t,q,b,m,sp,st,sAt sp st.i,rfl,hv.same SD,SD _ _ hq,jh hin,?_⟩;rw [(mX hin).1];refine ⟨Lt,_,_,_,rfl,rfl,hD,ixN_int t0 (by rw [aa];lia),?_⟩;rw [map_set,←el];exact ⟨fun a o e=>by rw [br (bf e hLtH)];exact SD _ _ e,aS,_,rfl⟩
 ·rintro σ HD ⟨SD,hD,w4,rfl⟩
  rw [lz,bc] at hD;refine ⟨_,rfl,Lt,rfl,⟨_,SqL.of hD⟩,?_⟩;have lt:(j4 sp (lowB bs) m.toNat S).length=m.toNat:=by have:=len S.length;rwa [bc] at this
  refine kK (K:=K) (a:=Lt) (xs:=(j4 sp (lowB bs) m.toNat S).map V.int) (fun i zs HC=>HC=HD∧zs=(((j4 sp (lowB bs) m.toNat S).take i).map (· % b)).map V.int) ⟨rfl,rfl⟩ (fun i zs HC hi ⟨e1,e2⟩=>⟨by rw [e1];exact SqL.of hD,by rw [e2,aa,aa,bG];lia⟩) (by rw [aa,lt];exact eG (by lia)) (fun i x zs HC hx ⟨e1,e2⟩=>?_) (fun zs HC ⟨e1,e2⟩ D hD2=>?_)
  ·subst e1
   rw [az] at hx;obtain ⟨z,hz,rfl⟩:=bI.mp hx;refine gQ ⟨_,rfl,t,_,_,_,rfl,rfl,SqT.of (SD _ _ ht),aJ (j:=0) rfl,_,rfl,b,z,rfl,hb,?_⟩;rw [e2,bj,hz,ay,ay];exact ⟨rfl,rfl⟩
  ·subst e1
   rw [aa,bc] at e2;have S3:Same HC (upd HC D (.lst zs)):=Same.put (Same.refl HC) hD2;refine ⟨D,_,rfl,.inl (.inl aS),fun q H4 S4 h4=>?_⟩;exact k q H4 (SD.trans (S3.trans S4)) (by rw [h4,e2];rfl)
abbrev sTabF:cV:=top 38
theorem CutD.move {x:ao}{rg:List (Nat×List Stp)}(a:CutD H C x sp l rg)(e:Kp H H')(hx:∀ o,H x=some o→H' x=some o):CutD H' C x sp l rg:=by
 obtain ⟨dx,c0,tl,ol,ord,h1,h2,h3,h4,h5⟩:=a.ex;exact ⟨dx,c0,tl,ol,ord,hx _ h1,h2.kp e,h3.kp e,e.lst _ _ h4,h5⟩
structure CutK (P:aY)(w:bE)(K:ak)(mg:Str→Option ag)(base:bK)(T0:ao)(p0:Pos)(q0:Str)(T1:ao)(p1:Pos)(q1:Str)(C fi g1 g2:ao)(di d1 d2:bw):Prop where
 cc:CutC K C
 mke:Mk K C fi
 gl:mg "Cuts" =some (.ref C)
 ini:dv P w K mg base CX0 9 fi di ["self","net"] (spInitC T0 p0 q0 T1 p1 q1 C)
 bi:Binds K di ["self","net"] []
 m1:Meth K C "span_to_cut" g1
 f1:dv P w K mg base CX0 1 g1 d1 ["self","case"] (spSpanC C)
 b1:Binds K d1 ["self","case"] []
 m2:Meth K C "sides" g2
 f2:dv P w K mg base CX0 2 g2 d2 pzF (spSidesC C)
 b2:Binds K d2 pzF []
theorem pI:cp ["net","most","cuts","steps","tables","ahead","case","span"] pzl (defScope sTabF):=by trivial
theorem ok_tabF {f5 fi g1 g2:ao}{fd5 di d1 d2:bw}(F:Fun K "tables_that_fit" "tables_that_fit" sTabF f fd)(T:Nm mg)(ne:T0≠T1)(CK:CutK P w K mg base T0 p0 q0 T1 p1 q1 C fi g1 g2 di d1 d2)
  (G2:Fn K mg "spread_of" sSpread pza f2 fd2) (F2:dv P w K mg base CX0 7 f2 fd2 pza (spSpread T0 p0 q0))
  (G3:Fn K mg "dead_leaf" sDeadL pzi f3 fd3) (F3:dv P w K mg base CX0 4 f3 fd3 pzi pB)
  (G4:Fn K mg "table_by" sTabBy pzG f4 fd4) (F4:dv P w K mg base CX0 2 f4 fd4 pzG spTabBy)
  (G5:Fn K mg "middle_of" sMid pzp f5 fd5):dv P w K mg base CX0 11 f fd pzl (spTabF T0 p0 q0 T1 p1 q1):=by
 have F5:dv P w K mg base CX0 1 f5 fd5 pzp spMid:=ok_mid G5.F;refine F.ok pI (by contradiction) (fun cdv A outer s H vs Q E hr h=>?_);obtain ⟨v,b,m,sp,most,rfl,hv,N,hmost,hcases,hT0,hT1,k⟩:=h;have hr1:Room 1 _:=hr.mono (by decide);have hr2:Room 2 _:=hr.mono (by decide);have hr4:Room 4 _:=hr.mono (by decide);have hr7:Room 7 _:=hr.mono (by decide);have E:=N.ends;have nfew:=N.few;have m1:=N.m1;have m2:=N.m2;have nb1:=N.b1;refine ⟨_,PSl.h (aU ⟨(bC (i:=2) pI.nd rfl (.inl rfl) (pe_make CK.mke CK.ini hr rfl CK.gl CK.bi .nil pass0 (ae (pv 0) aB)))⟩
  (aU ⟨(bC (i:=3) pI.nd rfl (.inl rfl) (pc1 G2 F2 hr7 (ae (pv 0) aB)))⟩
  (aU ⟨(bC (i:=4) pI.nd rfl (.inl rfl) (iY aB))⟩
  (aU ⟨(bC (i:=5) pI.nd rfl (.inl rfl) (iY (ae (pe_fld (pv 2) rfl) aB)))⟩
  (aU ⟨(oX bL (PW.pt (pw_and (cG op_gt (cM cg rfl T.len bP (ae (pv 5) aB)) bg (dg _)) (pw_and1 (cG pW (cM cg rfl T.len bP (ae (pv 4) aB)) (pv 1) (dg _))))) (PSl.h (aU ⟨(bC (i:=6) pI.nd rfl (.inl rfl) (qO bp fv fu qQ (pv 5)))⟩
  (dH ⟨(gR (cG op_isN (pc1 G3 F3 hr4 (ae (pv 0) (ae (pv 6) aB))) jL (dg _)) (PSl.h (aU ⟨(bC (i:=7) pI.nd rfl (.inl rfl) (pe_meth (pv 2) CK.cc.cl CK.m1 CK.f1 hr1 CK.b1 .nil pass0 (ae (pv 6) aB)))⟩
  (dH ⟨(gR (cG op_isN (pv 7) jL (dg _)) (cO (ik (lH bp cu cq g9 (pv 4) (ae (pc1 G4 F4 hr2 (ae (pv 0) (ae (pv 3) (ae (ixZ (pv 6)) aB)))) aB)))) (cO (ik (lH bp PySem.F.slot_list_extend PySem.F.type_list_extend mt_extend (pv 5) (ae (pe_meth (pv 2) CK.cc.cl CK.m2 CK.f2 hr2 CK.b2 .nil pass0 (ae (pv 6) (ae (pv 7) (ae (pc1 G5 F5 hr1 (ae (pv 6) (ae (pv 7) aB))) aB)))) aB)))))⟩))) d7)⟩))))⟩
  (dH ⟨(cx (pv 4))⟩)))))),?_⟩
 refine ⟨_,rfl,fun x dx hx hdx nxd=>?_⟩;have S0:Same H (upd (upd H dx (.own x)) x (.ins C dx [])):=by
  have Sa:Same H (upd H dx (.own x)):=Same.put (Same.refl H) hdx;exact Same.put Sa (by rw [br (bX nxd)];exact hx)
 have hx0:(upd (upd H dx (.own x)) x (.ins C dx [])) x=some (.ins C dx []):=aS;generalize upd (upd H dx (.own x)) x (.ins C dx [])=H0 at S0 hx0 ⊢;refine ⟨x,dx,v,b,m,sp,rfl,hx0,hv.same S0,N,LamT.same S0 hT0,LamT.same S0 hT1,fun l rg H1 st1 kp1 hT01 hT11 R cd1=>⟨rfl,?_⟩⟩;have f:=R.ff N;have fr:=R.fr;have lrg:rg.length≤40:=by
  have:rg.length=(pP sp l).length:=by rw [←R.ks,aa]
  have h2:(pP sp l).length≤sp.length:=by unfold pP;exact bo (fB _ _) (by rw [bx];exact aC _)
  lia
 have tl:l.length≤15:=by have:=fr.few E (by lia);lia
 have hlt:=f.acy.nodup.2;have st1':∀ a o,a≠T0→a≠T1→H a=some o→H1 a=some o:=fun a o n0 n1 e=>st1 a o n0 n1 (bf e hx) (S0 _ _ e)
 have kp1':Kp H H1:=(Same.kp S0).trans kp1;have hv1:=cB kp1'.tup hv;refine ⟨_,rfl,v,b,m,sp,rfl,hv1,N,hT01,fun Ls zsS l' S H2 tb2 hT02 fLs hLs dS fr' SO=>?_⟩;have el:l'=l:=FrstL.one fr' fr;subst el;have kp2:Kp H1 H2:=Tb.kp hT01 tb2;have hT12:=LamT.ntb hT11 hT01 (bX ne) tb2;have cd2:CutD H2 C x sp l' rg:=cd1.move kp2 fun o e=>tb2 x o (by
  obtain ⟨_,_,_,_,_,h1,_⟩:=cd1.ex;obtain ⟨ps,h⟩:=LamT.tbl hT01;exact fH h1 h nofun) e
 have st2:∀ a o,a≠T0→a≠T1→H a=some o→H2 a=some o:=fun a o n0 n1 e=>tb2 a o n0 (st1' a o n0 n1 e)
 have kp2':=kp1'.trans kp2;have hv2:=cB kp2.tup hv1;clear kp2 tb2 cd1 hT01 hT11 hv1 kp1' st1' kp1 st1 hv S0 fr' hx0;obtain ⟨dx',c0,tl',ol,ord,h1,h2,h3,h4,h5⟩:=cd2.ex;refine ⟨bF _,fun Lt hLt=>?_⟩;have S3:Same H2 (upd H2 Lt (.lst [])):=Same.put (Same.refl H2) hLt;have hLt3:(upd H2 Lt (.lst [])) Lt=some (.lst []):=aS;generalize upd H2 Lt (.lst [])=H3 at S3 hLt3 ⊢;refine ⟨_,rfl,x,C,dx',_,_,rfl,S3 _ _ h1,CK.cc.cl,CK.cc.n1,rfl,szZ1,fun Ah hAh=>?_⟩;have hAh2:H2 Ah=none:=Same.free S3 hAh;have nLA:Lt≠Ah:=fun z=>by rw [←z,hLt3] at hAh;cases hAh
 have S4:Same H3 (upd H3 Ah (.lst [.ref c0])):=Same.put (Same.refl H3) hAh;have hAh4:(upd H3 Ah (.lst [.ref c0])) Ah=some (.lst [.ref c0]):=aS;generalize upd H3 Ah (.lst [.ref c0])=H4 at S4 hAh4 ⊢;have S24:=S3.trans S4;have cl4:CsL H2 H4 [.ref c0] [(sp.map fun z=>(z.l,z.o),rg)]:=by
  obtain ⟨vb,u,rl,a1,a2,a3,a4⟩:=h2.ex;exact .cons ⟨c0,rfl,vb,u,rl,S24 _ _ a1,a2.same S24,a3,a4⟩ .nil
 have sz0:szC l' [(sp.map fun z=>(z.l,z.o),rg)]≤8191:=by
  have e:=k3 l' hlt fun y hy=>(N.all y hy).lo
  have:=hcases l' fr;show (2 * fN (sp.map fun z=>(z.l,z.o)) l' - 1)+0≤8191;lia
 refine ⟨fun n σ Hc=>∃ (cs:List Cse) (Ts:List (List Int)) (zs tv:List V) (w6 w7:Option V),n=szC l' cs∧n≤8191∧σ=[some v,some (.int (most:Nat)),some (.ref x),some (.ref Ls),some (.ref Lt),some (.ref Ah),w6,w7]∧Same H2 Hc∧Hc Ah=some (.lst zs)∧CsL H2 Hc zs cs∧Hc Lt=some (.lst tv)∧IsDs Hc tv (dI id Ts)∧SrcI b m sp l' rg cs Ts∧Ts.length≤most,⟨_,_,[],_,[],_,_,rfl,sz0,rfl,S24,hAh4,cl4,S4 _ _ hLt3,.nil,SrcI.start N lrg,bF _⟩,?_⟩;clear cl4 hAh4 S4 S24 hLt3 S3 hAh sz0;rintro n σ Hc ⟨cs,Ts,zs,tv,w6,w7,rfl,n8,rfl,Sc,hAc,clc,hLc,dtv,I,hTs⟩;have lzs:zs.length=cs.length:=Paired.len clc;have ltv:tv.length=Ts.length:=by rw [dtv.length];unfold dI;rw [aa]
 have lcs:=szC_len hlt cs I.ok;have pF:fN (sp.map fun z=>(z.l,z.o)) l'≤4096:=by
  have e:=k3 l' hlt fun y hy=>(N.all y hy).lo
  have:=hcases l' fr;lia
 have fin:(Ts.length<most∨most=4096→cs=[])→Q (.ref Lt) Hc:=fun he=>k Lt tv l' rg Ts Hc (fun a o n0 n1 e=>Sc _ _ (st2 a o n0 n1 e)) (kp2'.trans (Same.kp Sc)) (LamT.same Sc hT02) (LamT.same Sc hT12) hLc dtv R I.tabs hTs fun lt T hT=>by
  rcases I.hold T hT with h | ⟨c,hc,_⟩
  ·exact h
  ·rw [he lt] at hc;cases hc
 refine ⟨_,rfl,Ah,_,rfl,.inl (SqL.of hAc),_,_,rfl,rfl,_,rfl,?_⟩
 rcases List.eq_nil_or_concat cs with rfl | ⟨cs',c,rfl⟩
 ·have:zs=[]:=jg.mp lzs
  subst this;refine ke (by rfl) (iteF ⟨_,rfl,fin fun _=>rfl⟩)
 rw [List.concat_eq_append] at *;obtain ⟨zs',y,rfl,clc',q,rfl,ce⟩:=Paired.snoc_of clc;refine iteB (rf (by rw [av];show ((zs'.length+1:Nat):Int) > 0;lia)) ?_;refine ⟨_,rfl,Lt,_,rfl,.inl (SqL.of hLc),_,rfl,_,_,rfl,rfl,_,rfl,?_⟩
 by_cases hlm:Ts.length<most
 rotate_left
 ·exact ke (rh (by lia)) ⟨_,rfl,fin fun z=>rd z fun z=>by
   rcases z with z | z
   ·exact hlm z
   ·have h0:=I.cnt
    rw [pU] at h0;have h1:=i6 (I.ok c (by simp)).ob hlt;have e1:psC l' [c]=fN c.1 l'+0:=rfl;lia⟩
 refine iteB (rf (by lia)) ⟨_,fun σ' H' z=>z,?_⟩;refine ⟨_,rfl,.inl ⟨rfl,_,SqL.of hAc⟩,Ah,_,.ref q,rfl,rfl,hAc,by rw [av,bZ (by simp)];simp,?_⟩;rw [gF];have K5:TupK Hc (upd Hc Ah (.lst zs')):=fb hAc;have S5:Same H2 (upd Hc Ah (.lst zs')):=fun a o e=>by rw [br (bf e hAh2)];exact Sc _ _ e
 have hA5:(upd Hc Ah (.lst zs')) Ah=some (.lst zs'):=aS;have hL5:(upd Hc Ah (.lst zs')) Lt=some (.lst tv):=by rw [br nLA];exact hLc
 have cl5:=CsL.keep K5 (show CsL H2 Hc zs' cs' from clc');have ce5:=ce.keep K5;have dtv5:=cf K5 dtv;generalize upd Hc Ah (.lst zs')=H5 at K5 S5 hA5 hL5 cl5 ce5 dtv5 ⊢;have C:=I.ok c (by simp);have i3:=I.less f;have lcs':cs'.length+1≤8191:=by rw [av] at lcs;show cs'.length+[c].length≤8191;lia
 have lz':zs'.length=cs'.length:=Paired.len cl5;clear clc clc' ce hAc hLc dtv K5 lzs fin;refine ⟨_,rfl,_,rfl,v,q,b,m,sp,c.1,c.2,rfl,hv2.same S5,by lia,by have:=N.b2;lia,ce5.dn S5,C.few,fun z hz=>by rw [C.ob.len];exact ((f.rk z (C.sub z hz)).rg N tl).inn,fun r H6 S6 hd=>⟨rfl,_,rfl,?_⟩⟩;have S26:=S5.trans S6;have hA6:=S6 _ _ hA5;have hL6:=S6 _ _ hL5;have ce6:=ce5.keep (Same.tupK S6);have cl6:=CsL.keep (Same.tupK S6) cl5;have dtv6:=dtv5.same S6;clear ce5 cl5 dtv5 hA5 hL5
 rcases hd with ⟨rfl,al⟩ | ⟨z,hz,dz,hdz⟩
 rotate_left
 ·have:r≠ .non:=fun e=>by rw [e] at dz;cases dz
  refine ke (rh this) ?_;exact ⟨_,i3,cs',Ts,zs',tv,_,_,rfl,by lia,rfl,S26,hA6,cl6,hL6,dtv6,I.dead N f hz hdz,hTs⟩
 refine iteB (rf rfl) ?_;refine ⟨_,rfl,x,dx',_,rfl,S26 _ _ h1,rfl,_,rfl,x,q,sp,l',rg,c.2,c.1,rfl,cd2.same S26,ce6.dn S26,fun j hj=>by rw [C.ob.len];exact hlt j hj,by lia,fun fx=>?_,fun j hj hlj=>?_⟩
 ·refine ⟨_,rfl,rfl,_,rfl,iteB (rf rfl) ?_⟩
  obtain ⟨vb,u,rl,a1,a2,a3,a4⟩:=ce6.ex;refine ⟨_,rfl,.inl ⟨rfl,_,SqL.of hL6⟩,_,rfl,_,rfl,_,rfl,q,_,_,_,rfl,rfl,SqT.of a1,aJ (j:=0) rfl,v,vb,Ls,b,m,sp,c.1,zsS,S,rfl,hv2.same S26,by lia,by lia,m2,E,S26 _ _ hLs,dS.same S26,by have:=SO.len;lia,fun s' hs'=>⟨hlt _ (SO.inn s' hs').1,(SO.inn s' hs').2⟩,a2,C.ob.len,fun qt H7 S7 h7=>?_⟩;refine ⟨Lt,_,_,rfl,rfl,S7 _ _ hL6,bY (m:=4096) (by lia) (by decide),?_⟩;have K8:TupK H7 (upd H7 Lt (.lst (tv++[.ref qt]))):=fb (S7 _ _ hL6);refine ⟨_,i3,cs',Ts++[tabOf b sp c.1 m.toNat S],zs',tv++[.ref qt],_,_,rfl,by lia,rfl,fun a o e=>?_,?_,CsL.keep K8 (CsL.keep (Same.tupK S7) cl6),aS,?_,I.leaf N f SO al fx,by rw [av];exact hlm⟩
  ·rw [br (bf e hLt)];exact S7 _ _ (S26 _ _ e)
  ·rw [br (bX nLA)];exact S7 _ _ hA6
  ·refine cf K8 ?_
   unfold dI;rw [ay];exact (dtv6.same S7).append (.cons (.tup h7 (IsDs.ints _)) .nil)
 ·refine ⟨_,rfl,rfl,_,rfl,ke (rh nofun) ?_⟩
  have hjb:j<c.1.length:=by rw [C.ob.len];exact hlt j hj
  refine ⟨_,rfl,.inl ⟨rfl,_,SqL.of hA6⟩,_,rfl,x,dx',_,rfl,S26 _ _ h1,rfl,_,rfl,_,rfl,_,rfl,_,rfl,q,j,c.1,c.2,rfl,ce6.dn S26,hjb,?_⟩;obtain ⟨a,ha⟩:∃ a,a=((c.1.getD j (0,0)).1+(c.1.getD j (0,0)).2) / 2:=⟨_,rfl⟩;rw [←ha];refine ⟨H2,x,q,j,a,sp,l',rg,c.2,c.1,rfl,S26,cd2,ce6.dn S26,hjb,C.ob.len,by rw [C.ob.len];exact nfew,fun L q1 q2 H7 S7 fL hL e1 e2=>?_⟩;have nLA2:L≠Ah:=fun z=>by rw [z,hA6] at fL;cases fL
  refine ⟨Ah,L,_,_,rfl,rfl,S7 _ _ hA6,hL,bo (m:=10000) (by show zs'.length+2≤10000;lia) (by decide),?_⟩;have K8:TupK H7 (upd H7 Ah (.lst (zs'++[.ref q1,.ref q2]))):=fb (S7 _ _ hA6);obtain ⟨I',less'⟩:=I.cut N f lrg al hj (a:=a) (by lia) (by lia);refine ⟨_,less',_,Ts,_,tv,_,_,rfl,by lia,rfl,fun a o e=>?_,aS,?_,?_,cf K8 (dtv6.same S7),I',hTs⟩
  ·rw [br (bf e hAh2)];exact S7 _ _ (S26 _ _ e)
  ·exact Paired.app (CsL.keep K8 (CsL.keep (Same.tupK S7) cl6)) (.cons ⟨q1,rfl,e1.keep K8⟩ (.cons ⟨q2,rfl,e2.keep K8⟩ .nil))
  ·rw [br nLA];exact S7 _ _ hL6
abbrev sTreeF:cV:=top 39
theorem pH:cp ["marks","trees","mark","one","other"] ["marks"] (defScope sTreeF):=by trivial
theorem ok_treeF (F:Fun K "tree_from" "tree_from" sTreeF f fd)(RV:mg "reversed" =none):dv P w K mg base CX0 1 f fd ["marks"] spTreeF:=by
 refine F.ok pH (by contradiction) (fun cdv A outer s H vs Q E hr h=>?_);obtain ⟨L,ys,ms,t,rfl,hL,dys,ems,hlw,few,k⟩:=h;refine ⟨_,PSl.h (aU ⟨(bC (i:=1) pH.nd rfl (.inl rfl) (iY aB))⟩
  (aU ⟨(iC bL rfl (pi_revL rfl RV (ae (pv 0) aB)) (cY (i:=2) pH.nd rfl (.inl rfl)) (cO (gR (cG mm (ixZ (pv 2)) kA (dg _)) (PSl.h (aU ⟨(bC (i:=3) pH.nd rfl (.inl rfl) (qO bp fv fu qQ (pv 1)))⟩
  (aU ⟨(bC (i:=4) pH.nd rfl (.inl rfl) (qO bp fv fu qQ (pv 1)))⟩
  (dH ⟨(ik (lH bp cu cq g9 (pv 1) (ae (b9 pX (pv 2) (d8 (ae (pv 3) (ae (pv 4) aB)))) aB)))⟩)))) (cO (ik (lH bp cu cq g9 (pv 1) (ae (pv 2) aB)))))))⟩
  (dH ⟨(cx (dN eE (pv 1) bg (fun _ _=>rfl)))⟩))),?_⟩
 refine ⟨bF _,fun Lt hLt=>?_⟩;have nLL:L≠Lt:=bf hL hLt;have S1:Same H (upd H Lt (.lst [])):=Same.put (Same.refl H) hLt;have h1:(upd H Lt (.lst [])) Lt=some (.lst []):=aS;generalize upd H Lt (.lst [])=H1 at S1 h1 ⊢;have lys:ys.length=ms.length:=by rw [dys.length,aa]
 have tot:ms.reverse.foldl stpT (some [])=some [t]:=by rw [ems];exact stp_pre t []
 refine ⟨_,rfl,L,ys,rfl,SqL.of (S1 _ _ hL),?_⟩;refine for_revL (K:=K) (a:=L) (xs:=ys) (fun i σ H2=>Same H H2∧∃ (zs:List V) (st:List Tq) (v2 v3 v4:Option V),σ=[some (.ref L),some (.ref Lt),v2,v3,v4]∧H2 Lt=some (.lst zs)∧(ms.reverse.take i).foldl stpT (some [])=some st∧IsDs H2 zs (st.reverse.map jx)∧st.length≤i∧∀ t∈st,pl (jx t)=true) ⟨S1,[],[],none,none,none,rfl,h1,rfl,.nil,aC _,fun _ h=>rd h (by simp)⟩ (fun i σ H2 _ ⟨S2,_⟩=>SqL.of (S2 _ _ hL)) ?_ ?_
 ·rintro i x σ H2 hx ⟨S2,zs,st,v2,v3,v4,rfl,hz,hst,dz,lst,pls'⟩
  have hi:i<ys.length:=by have:=(aq.mp hx).1;rwa [ft] at this
  have hm:ms.reverse[i]? =some (ms.reverse[i]'(by rw [ft];lia)):=gE _;obtain ⟨mk,hmk⟩:∃ mk,ms.reverse[i]? =some mk:=⟨_,hm⟩;clear hm;have dx:IsD H2 x (mrkD mk):=by
   have hj:ys.length - 1 - i<ys.length:=by lia
   rw [List.getElem?_reverse (by lia)] at hx;rw [List.getElem?_reverse (by lia)] at hmk;obtain ⟨y,hy,dy⟩:=(dys.same S2).at (i:=ys.length - 1 - i) (d:=mrkD mk) (by rw [az,lys,hmk];rfl);rw [hx] at hy;cases hy;exact dy
  obtain ⟨st',est,est2⟩:=stp_at tot hmk hst;have lzs:zs.length≤10000:=by
   have:=dz.length;rw [aa,ft] at this;lia
  cases mk with
  | leaf d =>
   have e:st'= .leaf d::st:=by
    have:some (Tq.leaf d::st)=some st':=est;cases this;rfl
   subst e;obtain ⟨pd,w1,x1,ed,nw⟩:=hlw d (List.mem_reverse.mp (bt hmk));have dx:IsD H2 x d:=dx;rw [ed] at dx;obtain ⟨q,xs,rfl,hq,rq⟩:=IsD.tup_of dx;cases rq with
   | cons d0 rq =>
    cases d0;refine ⟨_,rfl,q,_,_,_,rfl,rfl,SqT.of hq,aJ (j:=0) rfl,rfl,_,rfl,ke (rh (fun z=>nw (by injection z))) ?_⟩;refine ⟨_,rfl,.inl ⟨rfl,_,SqL.of hz⟩,_,rfl,Lt,zs,_,rfl,rfl,hz,(bY lzs (by decide)),?_⟩;have KC:TupK H2 (upd H2 Lt (.lst (zs++[.ref q]))):=fb hz;refine ⟨fun a o e=>by rw [br (bf e hLt)];exact S2 _ _ e,zs++[.ref q],_,_,_,_,rfl,aS,est2,?_,by rw [aX];lia,fun t ht=>?_⟩
    ·rw [gC,ay]
     refine (IsDs.keepP KC dz (k4 _ fun t ht=>pls' t (List.mem_reverse.mp ht))).append (.cons ?_ .nil);rw [←ed] at dx;exact IsD.keepP KC dx pd
    ·rcases aG.mp ht with rfl | ht
     ·exact pd
     ·exact pls' t ht
  | cut kc ac =>
   obtain ⟨x1,y1,s1,rfl,e⟩:∃ x1 y1 s1,st=x1::y1::s1∧st'= .cut kc ac x1 y1::s1:=by
    rcases st with _ | ⟨x1,_ | ⟨y1,s1⟩⟩
    ·cases est
    ·cases est
    ·refine ⟨x1,y1,s1,rfl,?_⟩
     have:some (Tq.cut kc ac x1 y1::s1)=some st':=est;cases this;rfl
   subst e;have dx:IsD H2 x (.tup [.str "cut",.int (kc:Nat),.int ac]):=dx;obtain ⟨q,xs,rfl,hq,rq⟩:=IsD.tup_of dx;obtain rfl:xs=[.str "cut",.int (kc:Nat),.int ac]:=by
    cases rq with
    | cons d0 rq =>
     cases d0;cases rq with
     | cons d1 rq =>
      cases d1;cases rq with
      | cons d2 rq=>cases d2;cases rq;rfl
   rw [gC,gC,ay,ay] at dz;obtain ⟨zs1,vx,rfl,dz1,dvx⟩:=IsDs.snocD dz;obtain ⟨zs2,vy,rfl,dz2,dvy⟩:=IsDs.snocD dz1;have px:=pls' x1 (by simp);have py:=pls' y1 (by simp);refine ⟨_,rfl,q,_,_,_,rfl,rfl,SqT.of hq,aJ (j:=0) rfl,rfl,_,rfl,iteB (rf rfl) ?_⟩;refine ⟨_,rfl,.inl ⟨rfl,_,SqL.of hz⟩,Lt,_,vx,rfl,rfl,hz,by rw [av,bZ (by simp)];simp,?_⟩;rw [gF];have K3:TupK H2 (upd H2 Lt (.lst (zs2++[vy]))):=fb hz;have S3:Same H (upd H2 Lt (.lst (zs2++[vy]))):=fun a o e=>by rw [br (bf e hLt)];exact S2 _ _ e
   have h3:(upd H2 Lt (.lst (zs2++[vy]))) Lt=some (.lst (zs2++[vy])):=aS;generalize upd H2 Lt (.lst (zs2++[vy]))=H3 at K3 S3 h3 ⊢;refine ⟨_,rfl,.inl ⟨rfl,_,SqL.of h3⟩,Lt,_,vy,rfl,rfl,h3,by rw [av,bZ (by simp)];simp,?_⟩;rw [gF];have K4:TupK H2 (upd H3 Lt (.lst zs2)):=K3.trans (fb h3);have S4:Same H (upd H3 Lt (.lst zs2)):=fun a o e=>by rw [br (bf e hLt)];exact S3 _ _ e
   have h4:(upd H3 Lt (.lst zs2)) Lt=some (.lst zs2):=aS;generalize upd H3 Lt (.lst zs2)=H4 at K4 S4 h4 ⊢;refine ⟨_,rfl,.inl ⟨rfl,_,SqL.of h4⟩,_,rfl,_,rfl,_,rfl,mU,fun q5 H5 S5 h5=>?_⟩;refine ⟨q,q5,_,_,rfl,rfl,S5 _ _ (K4 _ _ hq),h5,szZ5,fun q6 H6 S6 h6=>?_⟩;have S46:=S5.trans S6;refine ⟨Lt,zs2,_,rfl,rfl,S46 _ _ h4,(bY (by rw [av,av] at lzs;lia:zs2.length≤10000) (by decide)),?_⟩;have K26:TupK H2 H6:=fun a xs e=>S46 _ _ (K4 _ _ e)
   have KC:TupK H6 (upd H6 Lt (.lst (zs2++[.ref q6]))):=fb (S46 _ _ h4);have K2C:=K26.trans KC;refine ⟨fun a o e=>by rw [br (bf e hLt)];exact S46 _ _ (S4 _ _ e),zs2++[.ref q6],_,_,_,_,rfl,aS,est2,?_,by simp only [aX] at lst ⊢;lia,fun t ht=>?_⟩
   ·rw [gC,ay]
    refine (IsDs.keepP K2C dz2 (k4 _ fun t ht=>pls' t (by simp [List.mem_reverse.mp ht]))).append (.cons ?_ .nil);exact .tup (KC _ _ h6) (.cons (.str _) (.cons (.int _) (.cons (.int _) (.cons (IsD.keepP K2C dvx px) (.cons (IsD.keepP K2C dvy py) .nil)))))
   ·rcases aG.mp ht with rfl | ht
    ·exact pl_cut px py
    ·exact pls' t (by simp [ht])
 ·rintro σ H2 ⟨S2,zs,st,v2,v3,v4,rfl,hz,hst,dz,lst,pls'⟩
  rw [lys,←ft,bc,tot] at hst;cases hst;cases dz with
  | cons d0 dn =>
   cases dn;exact ⟨_,rfl,Lt,_,_,_,rfl,rfl,SqL.of hz,aJ (j:=0) rfl,k _ H2 S2 d0⟩
abbrev sTreeB:cV:=top 40
theorem kX:cp ["net","leaf_in","cuts","marks","ahead","case","mark","span","at"] pzm (defScope sTreeB):=by trivial
theorem ok_treeBy {f5 f6 fi g1 g2:ao}{fd5 fd6 di d1 d2:bw}(F:Fun K "tree_by" "tree_by" sTreeB f fd)(T:Nm mg)(CK:CutK P w K mg base T0 p0 q0 T1 p1 q1 C fi g1 g2 di d1 d2)
  (G5:Fn K mg "middle_of" sMid pzp f5 fd5) (G6:Fn K mg "tree_from" sTreeF ["marks"] f6 fd6) (F6:dv P w K mg base CX0 1 f6 fd6 ["marks"] spTreeF):dv P w K mg base CX0 11 f fd pzm (oO P w K mg base T0 p0 q0 T1 p1 q1):=by
 have F5:dv P w K mg base CX0 1 f5 fd5 pzp spMid:=ok_mid G5.F;refine F.ok kX (by contradiction) (fun cdv A outer s H vs Q E hr h=>?_);obtain ⟨v,g,b,m,sp,R,rfl,hv,N,hcases,hT0,hT1,LM,k⟩:=h;have hr1:Room 1 _:=hr.mono (by decide);have hr2:Room 2 _:=hr.mono (by decide);have hr6:Room 6 _:=hr.mono (by decide);have E:=N.ends;have nfew:=N.few;have m1:=N.m1;have m2:=N.m2;have nb1:=N.b1;refine ⟨_,PSl.h (aU ⟨(bC (i:=2) kX.nd rfl (.inl rfl) (pe_make CK.mke CK.ini hr rfl CK.gl CK.bi .nil pass0 (ae (pv 0) aB)))⟩
  (aU ⟨(bC (i:=3) kX.nd rfl (.inl rfl) (iY aB))⟩
  (aU ⟨(bC (i:=4) kX.nd rfl (.inl rfl) (iY (ae (pe_fld (pv 2) rfl) aB)))⟩
  (aU ⟨(oX bL (cG op_gt (cM cg rfl T.len bP (ae (pv 4) aB)) bg (dg _)) (PSl.h (aU ⟨(bC (i:=5) kX.nd rfl (.inl rfl) (qO bp fv fu qQ (pv 4)))⟩
  (aU ⟨(bC (i:=6) kX.nd rfl (.inl rfl) (pe_callV (i:=1) LM hr6 (pv 5)))⟩
  (aU ⟨(mz (gR (cG op_isN (pv 6) jL (dg _)) (PSl.h (aU ⟨(bC (i:=7) kX.nd rfl (.inl rfl) (pe_meth (pv 2) CK.cc.cl CK.m1 CK.f1 hr1 CK.b1 .nil pass0 (ae (pv 5) aB)))⟩
  (aU ⟨(bC (i:=8) kX.nd rfl (.inl rfl) (pc1 G5 F5 hr1 (ae (pv 5) (ae (pv 7) aB))))⟩
  (aU ⟨(bC (i:=6) kX.nd rfl (.inl rfl) (d8 (ae kA (ae (pv 7) (ae (pv 8) aB)))))⟩
  (dH ⟨(ik (lH bp PySem.F.slot_list_extend PySem.F.type_list_extend mt_extend (pv 4) (ae (pe_meth (pv 2) CK.cc.cl CK.m2 CK.f2 hr2 CK.b2 .nil pass0 (ae (pv 5) (ae (pv 7) (ae (pv 8) aB)))) aB)))⟩))))) d7))⟩
  (dH ⟨(ik (lH bp cu cq g9 (pv 3) (ae (pv 6) aB)))⟩))))))⟩
  (dH ⟨(cx (pc1 G6 F6 hr1 (ae (pv 3) aB)))⟩))))),?_⟩
 refine ⟨_,rfl,fun x dx hx hdx nxd=>?_⟩;have S0:Same H (upd (upd H dx (.own x)) x (.ins C dx [])):=by
  have Sa:Same H (upd H dx (.own x)):=Same.put (Same.refl H) hdx;exact Same.put Sa (by rw [br (bX nxd)];exact hx)
 have hx0:(upd (upd H dx (.own x)) x (.ins C dx [])) x=some (.ins C dx []):=aS;generalize upd (upd H dx (.own x)) x (.ins C dx [])=H0 at S0 hx0 ⊢;refine ⟨x,dx,v,b,m,sp,rfl,hx0,hv.same S0,N,LamT.same S0 hT0,LamT.same S0 hT1,fun l rg H2 st1 kp1 hT02 hT12 RR cd2=>⟨rfl,?_⟩⟩;have f:=RR.ff N;have fr:=RR.fr;have lrg:rg.length≤40:=by
  have:rg.length=(pP sp l).length:=by rw [←RR.ks,aa]
  have h2:(pP sp l).length≤sp.length:=by unfold pP;exact bo (fB _ _) (by rw [bx];exact aC _)
  lia
 have tl:l.length≤15:=by have:=fr.few E (by lia);lia
 have hlt:=f.acy.nodup.2;have st2:StayT T0 T1 H H2:=fun a o n0 n1 e=>st1 a o n0 n1 (bf e hx) (S0 _ _ e)
 have kp2':Kp H H2:=(Same.kp S0).trans kp1;have hv2:=cB kp2'.tup hv;clear st1 kp1 S0 hx0 hv;obtain ⟨dx',c0,tl',ol,ord,h1,h2,h3,h4,h5⟩:=cd2.ex;refine ⟨bF _,fun Lt hLt=>?_⟩;have S3:Same H2 (upd H2 Lt (.lst [])):=Same.put (Same.refl H2) hLt;have hLt3:(upd H2 Lt (.lst [])) Lt=some (.lst []):=aS;generalize upd H2 Lt (.lst [])=H3 at S3 hLt3 ⊢;refine ⟨_,rfl,x,C,dx',_,_,rfl,S3 _ _ h1,CK.cc.cl,CK.cc.n1,rfl,szZ1,fun Ah hAh=>?_⟩;have hAh2:H2 Ah=none:=Same.free S3 hAh;have nLA:Lt≠Ah:=fun z=>by rw [←z,hLt3] at hAh;cases hAh
 have S4:Same H3 (upd H3 Ah (.lst [.ref c0])):=Same.put (Same.refl H3) hAh;have hAh4:(upd H3 Ah (.lst [.ref c0])) Ah=some (.lst [.ref c0]):=aS;generalize upd H3 Ah (.lst [.ref c0])=H4 at S4 hAh4 ⊢;have S24:=S3.trans S4;have cl4:CsL H2 H4 [.ref c0] [(sp.map fun z=>(z.l,z.o),rg)]:=by
  obtain ⟨vb,u,rl,a1,a2,a3,a4⟩:=h2.ex;exact .cons ⟨c0,rfl,vb,u,rl,S24 _ _ a1,a2.same S24,a3,a4⟩ .nil
 have pr0:fN (sp.map fun z=>(z.l,z.o)) l≤4096:=by
  have e:=k3 l hlt fun y hy=>(N.all y hy).lo
  have:=hcases l fr;lia
 have sz0:szC l [(sp.map fun z=>(z.l,z.o),rg)]+0≤8191:=by
  show (2 * fN (sp.map fun z=>(z.l,z.o)) l - 1)+0+0≤8191;lia
 have ok0:∀ c∈[(sp.map (fun z=>(z.l,z.o)),rg)],CaseOk b sp l rg c:=(SrcI.start (b:=b) (l:=l) N lrg).ok;refine ⟨fun n σ Hc=>∃ (cs:List Cse) (ms:List Mrk) (zs mv:List V) (w5 w6 w7 w8:Option V),n=szC l cs∧n+ms.length≤8191∧σ=[some v,some (.ref g),some (.ref x),some (.ref Lt),some (.ref Ah),w5,w6,w7,w8]∧Same H2 Hc∧Hc Ah=some (.lst zs)∧CsL H2 Hc zs cs∧Hc Lt=some (.lst mv)∧IsDs Hc mv (ms.map mrkD)∧(∀ c∈cs,CaseOk b sp l rg c)∧Wn R l (sp.map (fun z=>(z.l,z.o)),rg) ms cs.reverse∧(∀ d,Mrk.leaf d∈ms→l3 d)∧pls (ms.map mrkD)=true,⟨_,_,[],_,[],_,_,_,_,rfl,sz0,rfl,S24,hAh4,cl4,S4 _ _ hLt3,.nil,ok0,Wn.start,fun _ h=>rd h (by simp),rfl⟩,?_⟩;clear cl4 hAh4 S4 S24 hLt3 S3 hAh sz0 ok0;rintro n σ Hc ⟨cs,ms,zs,mv,w5,w6,w7,w8,rfl,n8,rfl,Sc,hAc,clc,hLc,dmv,ok,W,lw,pm⟩;have lzs:zs.length=cs.length:=Paired.len clc;have lmv:mv.length=ms.length:=by rw [dmv.length,aa]
 have lcs:=szC_len hlt cs ok;refine ⟨_,rfl,Ah,_,rfl,.inl (SqL.of hAc),_,_,rfl,rfl,_,rfl,?_⟩
 rcases List.eq_nil_or_concat cs with rfl | ⟨cs',c,rfl⟩
 ·have:zs=[]:=jg.mp lzs
  subst this;obtain ⟨t,et,gt⟩:=Wn.fin W;refine ke (by rfl) ⟨_,rfl,Lt,mv,ms,t,rfl,hLc,dmv,et,lw,by lia,fun u H9 S9 h9=>?_⟩;have S29:=Sc.trans S9;refine k u t H9 (st2.trans (Same.stayT S29)) (kp2'.trans (Same.kp S29)) (LamT.same S29 hT02) (LamT.same S29 hT12) h9 (pl_pre t (by rw [←et];exact lw)) (gt 21 ?_);have:2 ^ 21 * fN (sp.map fun z=>(z.l,z.o)) l≤2 ^ 21 * 4096:=Nat.mul_le_mul_left _ pr0;exact bo this (by decide)
 rw [List.concat_eq_append] at *;obtain ⟨zs',y,rfl,clc',q,rfl,ce⟩:=Paired.snoc_of clc;refine iteB (rf (by rw [av];show ((zs'.length+1:Nat):Int) > 0;lia)) ⟨_,fun σ' H' z=>z,?_⟩;refine ⟨_,rfl,.inl ⟨rfl,_,SqL.of hAc⟩,Ah,_,.ref q,rfl,rfl,hAc,by rw [av,bZ (by simp)];simp,?_⟩;rw [gF];have K5:TupK Hc (upd Hc Ah (.lst zs')):=fb hAc;have S5:Same H2 (upd Hc Ah (.lst zs')):=fun a o e=>by rw [br (bf e hAh2)];exact Sc _ _ e
 have hA5:(upd Hc Ah (.lst zs')) Ah=some (.lst zs'):=aS;have hL5:(upd Hc Ah (.lst zs')) Lt=some (.lst mv):=by rw [br nLA];exact hLc
 have cl5:=CsL.keep K5 (show CsL H2 Hc zs' cs' from clc');have ce5:=ce.keep K5;have dmv5:=IsDs.keepP K5 dmv pm;generalize upd Hc Ah (.lst zs')=H5 at K5 S5 hA5 hL5 cl5 ce5 dmv5 ⊢;have C':=ok c (by simp);have i3:=sz_less (cs:=cs') f C';rw [List.reverse_append] at W;have W:Wn R l (sp.map (fun z=>(z.l,z.o)),rg) ms (c::cs'.reverse):=W;have ok':∀ d∈cs',CaseOk b sp l rg d:=fun d hd=>ok d (aM _ hd)
 have lcs':cs'.length+1≤8191:=by rw [av] at lcs;show cs'.length+[c].length≤8191;lia
 have lz':zs'.length=cs'.length:=Paired.len cl5;have stH5:StayT T0 T1 H H5:=st2.trans (Same.stayT S5);clear clc clc' ce hAc hLc dmv K5 lzs ok;refine ⟨rfl,stH5,_,rfl,stH5,l,rg,q,c,rfl,RR,ce5.dn S5,C',hv2.same S5,fun r H6 S6 hd=>?_⟩;have S26:=S5.trans S6;have hA6:=S6 _ _ hA5;have hL6:=S6 _ _ hL5;have ce6:=ce5.keep (Same.tupK S6);have cl6:=CsL.keep (Same.tupK S6) cl5;have dmv6:=dmv5.same S6;clear ce5 cl5 dmv5 hA5 hL5 stH5;refine ⟨fun σ' H'=>∃ (cs2:List Cse) (mk:Mrk) (zs2:List V) (v6:V) (w7 w8:Option V),szC l cs2<szC l (cs'++[c])∧σ'=[some v,some (.ref g),some (.ref x),some (.ref Lt),some (.ref Ah),some (.ref q),some v6,w7,w8]∧Same H2 H'∧H' Ah=some (.lst zs2)∧CsL H2 H' zs2 cs2∧H' Lt=some (.lst mv)∧IsDs H' mv (ms.map mrkD)∧IsD H' v6 (mrkD mk)∧(∀ c∈cs2,CaseOk b sp l rg c)∧Wn R l (sp.map (fun z=>(z.l,z.o)),rg) (ms++[mk]) cs2.reverse∧(∀ d,mk= .leaf d→l3 d)∧pl (mrkD mk)=true,?_,?_⟩
 ·rintro σ' H7 ⟨cs2,mk,zs2,v6,w7,w8,less2,rfl,S7,hA7,cl7,hL7,dm7,d6,ok2,W2,lw2,pm2⟩
  refine ⟨_,rfl,.inl ⟨rfl,_,SqL.of hL7⟩,_,rfl,Lt,mv,_,rfl,rfl,hL7,(bY (by lia:mv.length≤10000) (by decide)),?_⟩;have K8:TupK H7 (upd H7 Lt (.lst (mv++[v6]))):=fb hL7;refine ⟨_,less2,cs2,ms++[mk],zs2,mv++[v6],_,_,_,_,rfl,by rw [av];show _+(ms.length+1)≤8191;lia,rfl,fun a o e=>by rw [br (bf e hLt)];exact S7 _ _ e,by rw [br (bX nLA)];exact hA7,CsL.keep K8 cl7,aS,?_,ok2,W2,fun d hd=>?_,?_⟩
  ·rw [ay]
   exact (IsDs.keepP K8 dm7 pm).append (.cons (IsD.keepP K8 d6 pm2) .nil)
  ·rcases aN.mp hd with z | z
   ·exact lw d z
   ·exact lw2 d (ax.mp z).symm
  ·rw [ay,pls_appT,pm,Bool.true_and]
   show (pl (mrkD mk) && true)=true;rw [pm2];rfl
 refine ⟨_,rfl,rfl,_,rfl,?_⟩
 rcases hd with ⟨d,dr,dw,dR⟩ | ⟨rfl,al,k0,hk0,hlk0⟩
 ·have nr:r≠ .non:=fun e=>by
   obtain ⟨_,w',x',ed,_⟩:=dw;rw [e,ed] at dr;cases dr
  refine ke (rh nr) ?_;exact ⟨cs',.leaf d,zs',r,_,_,i3,rfl,S26,hA6,cl6,hL6,dmv6,dr,ok',W.leaf dR,(fun d' e=>by cases e;exact dw),dw.1⟩
 refine iteB (rf rfl) ?_;refine ⟨_,rfl,x,dx',_,rfl,S26 _ _ h1,rfl,_,rfl,x,q,sp,l,rg,c.2,c.1,rfl,cd2.same S26,ce6.dn S26,fun j hj=>by rw [C'.ob.len];exact hlt j hj,by lia,fun fx=>rd hlk0 (fx k0 hk0),fun j hj hlj=>?_⟩;have hjb:j<c.1.length:=by rw [C'.ob.len];exact hlt j hj
 refine ⟨_,rfl,_,rfl,q,j,c.1,c.2,rfl,ce6.dn S26,hjb,?_⟩;obtain ⟨a,ha⟩:∃ a,a=((c.1.getD j (0,0)).1+(c.1.getD j (0,0)).2) / 2:=⟨_,rfl⟩;rw [←ha];refine ⟨_,rfl,_,rfl,(by show 3≤bq;decide),fun qm H7 S7 hm7=>?_⟩;have S27:=S26.trans S7;refine ⟨_,rfl,.inl ⟨rfl,_,SqL.of (S7 _ _ hA6)⟩,_,rfl,x,dx',_,rfl,S27 _ _ h1,rfl,_,rfl,_,rfl,_,rfl,H2,x,q,j,a,sp,l,rg,c.2,c.1,rfl,S27,cd2,(ce6.keep (Same.tupK S7)).dn S27,hjb,C'.ob.len,by rw [C'.ob.len];exact nfew,fun L q1 q2 H8 S8 fL hL e1 e2=>?_⟩;have nLA2:L≠Ah:=fun z=>by rw [z,S7 _ _ hA6] at fL;cases fL
 have hA8:=S8 _ _ (S7 _ _ hA6);refine ⟨Ah,L,_,_,rfl,rfl,hA8,hL,bo (m:=10000) (by show zs'.length+2≤10000;lia) (by decide),?_⟩;have K9:TupK H8 (upd H8 Ah (.lst (zs'++[.ref q1,.ref q2]))):=fb hA8;have K68:TupK H6 H8:=fun a xs e=>S8 _ _ (S7 _ _ e)
 obtain ⟨okn,lessn,p2⟩:=sz_cut f lrg C' al hj (a:=a) (by lia) (by lia) ok';obtain ⟨mid1,mid2⟩:=prodC_mid C'.ob f.acy.nodup.1 hlt hj hlj ha;refine ⟨_,.cut j a,_,.ref qm,_,_,lessn,rfl,fun a o e=>?_,aS,?_,?_,?_,?_,okn,?_,(fun d e=>by cases e),rfl⟩
 ·rw [br (bf e hAh2)];exact S8 _ _ (S27 _ _ e)
 ·exact Paired.app (CsL.keep K9 (CsL.keep K68 cl6)) (.cons ⟨q1,rfl,e1.keep K9⟩ (.cons ⟨q2,rfl,e2.keep K9⟩ .nil))
 ·rw [br nLA];exact S8 _ _ (S7 _ _ hL6)
 ·exact IsDs.keepP K9 (IsDs.keepP K68 dmv6 pm) pm
 ·exact .tup (K9 _ _ (S8 _ _ hm7)) (.cons (.str _) (.cons (.int _) (.cons (.int _) .nil)))
 ·rw [List.reverse_append]
  exact W.cut hjb (by lia) (by lia) p2 mid1 mid2
abbrev sCases:cV:=top 19
theorem IsFor.nats (a:IsFor m sp ns):∃ (l π:List Nat),ns=l.map (fun (i:Nat)=>(i:Int))∧Ordd sp π∧l.Perm (kG sp m π).2:=by
 obtain ⟨π,o,p,_⟩:=a;have nn:∀ x∈ns,0≤x:=fun x hx=>by
  obtain ⟨i,_,rfl⟩:=bh.mp (p.mem_iff.mp hx);lia
 refine ⟨ns.map Int.toNat,π,?_,o,?_⟩
 ·rw [dY]
  conv=>lhs;rw [←List.map_id ns]
  exact fV fun x hx=>(g6 (nn x hx)).symm
 ·have q:=p.map Int.toNat
  rw [dY] at q;have e:((kG sp m π).2.map (Int.toNat ∘ fun (i:Nat)=>(i:Int)))=(kG sp m π).2:=by
   conv=>rhs;rw [←List.map_id (kG sp m π).2]
   exact fV fun x _=>rfl
  rw [e] at q;exact q
theorem gone_few (E:Ends m sp)(h:∀ i∈π,i<sp.length):(kG sp m π).2.length≤m:=by
 obtain ⟨D,_,_,l⟩:=gone_cnt E π (kt m) [] (lg m) h (Cnt.start m);have l:D.length+(kG sp m π).2.length=m:=l;lia
theorem gone_lt (h:∀ i∈π,i<sp.length):∀ i∈(kG sp m π).2,i<sp.length:=fun i hi=>by
 rcases (ku sp π (kt m,[])).1 i hi with z | z
 ·cases z
 ·exact h i z
def WOk (sp:List Sn):Prop:=∀ x∈sp,0≤x.o - x.l∧x.o - x.l+1≤10 ^ 61
theorem NetT.wok {m:Int}(N:NetT b m sp)(h:b≤10 ^ 61):WOk sp:=fun x hx=>by
 have s:=N.all x hx;have:=s.lo;have:=s.ob;lia
theorem prodW_abs {sp:List Sn}(w:WOk sp):∀ {l:List Nat},(∀ i∈l,i<sp.length)→(kz sp l).natAbs≤(10 ^ 61) ^ l.length
 | [],_=>by show 1≤(10 ^ 61) ^ 0;decide
 | i::l,h=>by
  rw [nX,Int.natAbs_mul,aX,Nat.pow_succ,jF ((10 ^ 61) ^ l.length)];refine Nat.mul_le_mul ?_ (prodW_abs w fun j hj=>h j (aw _ hj));have:=w _ (eQ (h i bB));show ((sAt sp i).o - (sAt sp i).l+1).natAbs≤_;lia
theorem pow_33 {k:Nat}(h:n≤(10 ^ 61) ^ k)(hk:k≤16):n<10 ^ 1000:=by
 refine bY h ?_;rw [←Nat.pow_mul];exact Nat.pow_lt_pow_right (by decide) (by lia)
inductive spCases (T:ao)(lp:Pos)(lq:Str)(vs:List V)(H:Hp)(Q:VK)(_:XK):Prop
 | mk (v b m sp:_)(_:vs=[v])(_:IsD H v (ka b m sp))(_:NetT b m sp)(_:b≤10 ^ 61)(_:L2.LamT T lp lq H)(_:∀ H' (l:List Nat),L2.Tb T H H'→L2.LamT T lp lq H'→FrstL m.toNat sp l→Q (.int (kz sp l)) H')
theorem scCases:cp ["net","cases","span"] pza (defScope sCases):=by trivial
theorem ok_cases (F:Fun K "cases_of" "cases_of" sCases f fd)(G1:Fn K mg "forest_of" lQ pza f1 fd1)(F1:dv P w K mg base CX0 6 f1 fd1 pza (kW Tb0 lp lq))(G2:Fn K mg "width_of" sWidth pzh f2 fd2) :
  dv P w K mg base CX0 7 f fd pza (spCases Tb0 lp lq):=by
 have F2:dv P w K mg base CX0 1 f2 fd2 pzh spWidth:=ok_width G2.F;refine F.ok scCases (by contradiction) (fun cdv A outer s H vs Q E hr h=>?_);obtain ⟨v,b,m,sp,rfl,hv,N,b33,hT,k⟩:=h;have hr1:Room 1 _:=hr.mono (by decide);have E:=N.ends;have m2:=N.m2;have m1:=N.m1;have wk:=N.wok b33;refine ⟨_,PSl.h (aU ⟨(bC (i:=1) scCases.nd rfl (.inl rfl) bg)⟩
  (aU ⟨(iC bL rfl (j8 (pc1 G1 F1 hr (ae (pv 0) aB))) (cY (i:=2) scCases.nd rfl (.inl rfl)) (cO (pT (i:=1) scCases.nd rfl (.inl rfl) (b9 eh (pc1 G2 F2 hr1 (ae (pv 0) (ae (pv 2) aB))) bg) ip_mulG)))⟩
  (dH ⟨(cx (pv 1))⟩))),?_⟩
 refine ⟨_,rfl,v,b,m,sp,rfl,hv,N,hT,fun u H1 ns tb hT1 hu F0=>?_⟩;obtain ⟨l,π,rfl,O,pm⟩:=F0.nats;have hp:∀ i∈π,i<sp.length:=fun i hi=>O.lt hi
 have hlt:∀ i∈l,i<sp.length:=fun i hi=>gone_lt hp i (pm.mem_iff.mp hi)
 have few:l.length≤16:=by have:=gone_few E hp;rw [pm.length_eq];lia
 have hv1:=cB (Tb.tupK (LamT.tbl hT) tb) hv;rw [dY] at hu;refine ⟨u,rfl,⟨_,SqT.of hu⟩,?_⟩;refine mM (K:=K) (a:=u) (xs:=l.map (V.int ∘ fun (i:Nat)=>(i:Int))) (fun i σ HA=>HA=H1∧∃ v2,σ=[some v,some (.int (kz sp (l.take i))),v2]) ⟨rfl,none,rfl⟩ (fun i σ HA _ ⟨e,_⟩=>by rw [e];exact SqT.of hu) ?_ ?_
 ·rintro i x σ HA hx ⟨rfl,v2,rfl⟩
  rw [az] at hx;obtain ⟨j,hj,rfl⟩:=bI.mp hx;have hjl:=bt hj;have hjn:=hlt j hjl;have w0:=wk _ (eQ hjn);refine ⟨_,rfl,_,rfl,_,rfl,v,b,m,sp,j,sAt sp j,rfl,hv1,jh hjn,_,_,rfl,rfl,?_⟩;refine ⟨_,_,rfl,rfl,⟨?_,?_⟩,rfl,some (.int j),?_⟩
  ·exact pow_33 (prodW_abs wk (l:=l.take i) fun k hk=>hlt k (j3 hk)) (by rw [bG];lia)
  ·exact pow_33 (k:=1) (by rw [Nat.pow_one];lia) (by decide)
  ·rw [bj,hj]
   show _=[some v,some (.int (kz sp (l.take i++[j]))),_];rw [prodW_snoc];rfl
 ·rintro σ HA ⟨rfl,v2,rfl⟩
  rw [aa,bc];exact ⟨_,rfl,k HA l tb hT1 ⟨F0,π,O,pm⟩⟩
abbrev j7:cV:=top 41
def lamE5:List cV→Expr
 | [_,_,_,_,.Return (some (.Tuple [_,.Call _ [_,e] _ _] _ _)) _]=>e
 | _=> .Constant .none 0 ⟨0,0,0,0⟩
def lamP5:Expr→Pos
 | .Lambda _ _ _ p=>p
 | _=>⟨0,0,0,0⟩
def lamS5:Expr→fI
 | .Lambda _ _ s _=>s
 | _=>{ kind:= .function,names:=[],isGenerator:=false,isCoroutine:=false }
def lamA5:Expr→fE
 | .Lambda a _ _ _=>a
 | _=>{ posonlyargs:=[],args:=[],vararg:=none,kwonlyargs:=[],kw_defaults:=[],kwarg:=none,defaults:=[] }
def lamB5:Expr→Expr
 | .Lambda _ e _ _=>e
 | e=>e
abbrev laT:fE:=lamA5 (lamE5 (fS j7))
abbrev lbT:Expr:=lamB5 (lamE5 (fS j7))
abbrev lpT:Pos:=lamP5 (lamE5 (fS j7))
abbrev lsT:fI:=lamS5 (lamE5 (fS j7))
abbrev lqT:Str:=(("table_for" :Str) ++ ".<locals>.") ++ "<lambda>"
theorem oV (N:∀ b o,fz b=some o→H b=none):Same H (ptF H fz):=fun a o e=>by
 cases q:fz a with
 | none=>rw [ij q];exact e
 | some o'=>rw [N a o' q] at e;cases e
theorem ctF_kp (F:Fz fz H):Kp H (ctF H fz):=⟨fun q xs e=>F.cut e (fun _ z=>by cases z),fun q xs e=>F.cut e (fun _ z=>by cases z)⟩
theorem ptF_back (F:Fz fz H)(S:Same (ctF H fz) H'):Same H (ptF H' fz):=fun a o e=>by
 cases q:fz a with
 | some o'=>rw [F a o' q] at e;cases e;exact pR q
 | none=>rw [ij q];exact S a o (by rw [il q];exact e)
theorem LamT.cutF {T:ao}(F:Fz fz H)(cl:∀ c o,fz c=some o→∃ v,o.data= .cell v)(h:L2.LamT T lp lq H):L2.LamT T lp lq (ctF H fz):=by
 rcases h with h | ⟨c,h,oc,vs,t,e,hd,r⟩
 ·exact .inl (F.cut h (fun _ z=>by cases z))
 ·refine .inr ⟨c,F.cut h (fun _ z=>by cases z),oc,vs,t,?_,hd,r⟩
  cases q:fz c with
  | none=>rw [il q];exact e
  | some o' =>
   obtain ⟨v,hv⟩:=cl c o' q;rw [F c o' q] at e;cases e;rw [hd] at hv;cases hv
theorem LmOk.imp {k:Nat}{Hg:Hp→Prop}{sp:Sp}(L:LmOk P w K mg base k f Hf sp)(h:∀ H,Hg H→Hf H):LmOk P w K mg base k f Hg sp:=⟨fun H hh g=>L.isFn H hh (h H g),fun A outer s H u v Q hr e0 g=>L.run A outer s H u v Q hr e0 (h H g)⟩
inductive pA (T0:ao)(p0:Pos)(q0:Str)(T1:ao)(p1:Pos)(q1:Str)(T2:ao)(vs:List V)(H:Hp)(Q:VK)(_:XK):Prop
 | mk (v:V)(b m:Int)(sp:List Sn)(_:vs=[v])(_:IsD H v (ka b m sp))(_:NetT b m sp)(_:(∀ l,FrstL m.toNat sp l→kz sp l≤4096))(_:L2.LamT T0 p0 q0 H)(_:L2.LamT T1 p1 q1 H)(_:L2.LamT T2 lpT lqT H)(_:∀ (q:ao) (H':Hp),(∀ a o,a≠T0→a≠T1→a≠T2→H a=some o→H' a=some o)→Kp H H'→L2.LamT T0 p0 q0 H'→L2.LamT T1 p1 q1 H'→L2.LamT T2 lpT lqT H'→((∃ (qt:ao) (t:List Int),H' q=some (.tup [.str "table",.ref qt])∧H' qt=some (.tup (t.map V.int))∧TabOk b m sp t)∨∃ (u:V) (t:Tq),H' q=some (.tup [.str "none",u])∧IsD H' u (jx t)∧pl (jx t)=true∧(∀ T,¬ jB b T sp=true)∧qw (qu b sp) t (sp.map fun z=>(z.l,z.o)) 21)→Q (.ref q) H')
theorem ps_out:PS X st (fun _ _ _=>False):=fun _ _ _ _ _ _ h=>h.elim
theorem scTabFor:cp ["net","many","tables"] pza (defScope j7):=by trivial
theorem ok_tabForN {c T2:ao}(F:Fun K "table_for" "table_for" j7 f fd)(hcd:fd.code= .ref c)(CH:eX K c T2=true)(B:BM mg base)(T:Nm mg)(MC:∃ t,mg "MOST_CASES" =some (.int 4096 t))(ne:T0≠T1)(n2:T2≠T0)(n3:T2≠T1)
  (G1:Fn K mg "cases_of" sCases pza f1 fd1) (F1:dv P w K mg base CX0 7 f1 fd1 pza (spCases T0 p0 q0))
  (G2:Fn K mg "tables_that_fit" sTabF pzl f2 fd2) (F2:dv P w K mg base CX0 11 f2 fd2 pzl (spTabF T0 p0 q0 T1 p1 q1))
  (G3:Fn K mg "tree_by" sTreeB pzm f3 fd3) (F3:dv P w K mg base CX0 11 f3 fd3 pzm (oO P w K mg base T0 p0 q0 T1 p1 q1))
  (G4:Fn K mg "dead_leaf" sDeadL pzi f4 fd4) (F4:dv P w K mg base CX0 4 f4 fd4 pzi pB):dv P w K mg base CX0 12 f fd pza (pA T0 p0 q0 T1 p1 q1 T2):=by
 refine okC F hcd scTabFor (by contradiction) (fun A outer s H vs Q E hr h=>?_);obtain ⟨v,b,m,sp,rfl,hv,N,hc,hT0,hT1,hT2,k⟩:=h;have hr7:Room 7 _:=hr.mono (by decide);refine ⟨_,PSl.h (aU ⟨(bC (i:=1) scTabFor.nd rfl (.inl rfl) (pc1 G1 F1 hr7 (ae (pv 0) aB)))⟩
  (aU ⟨(gR (cG op_gt (pv 1) (pe_gint MC) (dg _)) (cO ps_out) d7)⟩
  (aU ⟨(bC (i:=2) scTabFor.nd rfl (.inl rfl) (pc1 G2 F2 hr (ae (pv 0) (ae bg aB))))⟩
  (aU ⟨(gR (cG op_gt (cM cg rfl T.len bP (ae (pv 2) aB)) bg (dg _)) (cO (cx (d8 (ae kA (ae (dN eE (pv 2) bg (fun _ _=>rfl)) aB))))) d7)⟩
  (dH ⟨(cx (d8 (ae kA (ae (pe_callZ (scope:=lsT) (fr:=pza) (js:=[0]) F3 hr (fun _=>rfl) rfl G3.mg G3.F.kp G3.b rfl (by trivial) (by exists j7) (ae (pv 0) (ae (pe_lam (T:=T2) rfl rfl CH B (by exists j7)) aB))) aB))))⟩))))),?_⟩
 refine ⟨_,rfl,v,b,m,sp,rfl,hv,N,by have:=N.b2;lia,hT0,fun H1 l tb1 hT01 fr=>?_⟩;have kp1:=Tb.kp hT0 tb1;have hT11:=LamT.ntb hT1 hT0 (bX ne) tb1;have hT21:=LamT.ntb hT2 hT0 n2 tb1;have cl:=hc l fr;refine ⟨_,rfl,_,_,rfl,rfl,_,rfl,ke (rh (by lia)) ?_⟩;refine ⟨_,rfl,v,b,m,sp,1,rfl,cB kp1.tup hv,N,by decide,hc,hT01,hT11,fun L tv l' rg Ts H2 st2 kp2 hT02 hT12 hL dL R tabs few hold=>?_⟩;have hT22:L2.LamT T2 lpT lqT H2:=by
  obtain ⟨ps0,e0⟩:=LamT.tbl hT01;obtain ⟨ps1,e1⟩:=LamT.tbl hT11
  rcases hT21 with h | ⟨c',h,oc,vs,t,e,r⟩
  ·exact .inl (st2 _ _ n2 n3 h)
  ·exact .inr ⟨c',st2 _ _ n2 n3 h,oc,vs,t,st2 _ _ (fH e e0 nofun) (fH e e1 nofun) e,r⟩
 have ltv:tv.length=Ts.length:=by rw [dL.length];unfold dI;rw [aa]
 refine ⟨_,rfl,L,_,rfl,.inl (SqL.of hL),_,_,rfl,rfl,_,rfl,?_⟩;cases Ts with
 | cons t Ts =>
  refine iteB (rf (by rw [ltv,aX];show ((Ts.length+1:Nat):Int) > 0;lia)) ?_;cases dL with
  | cons d0 ds =>
   rename_i y ys;obtain ⟨qt,qs,rfl,hq,rq⟩:=IsD.tup_of d0;have eq:=rq.ints_of;subst eq;refine ⟨_,rfl,L,_,_,_,rfl,rfl,SqL.of hL,aJ (j:=0) rfl,mU,fun q H3 S3 h3=>?_⟩;exact k q H3 (fun a o n0 n1 _ e=>S3 _ _ (st2 a o n0 n1 (tb1 a o n0 e))) (kp1.trans (kp2.trans (Same.kp S3))) (LamT.same S3 hT02) (LamT.same S3 hT12) (LamT.same S3 hT22) (.inl ⟨qt,t,h3,S3 _ _ hq,tabs t (by simp)⟩)
 | nil =>
  refine ke (rh (by rw [ltv];decide)) ?_;have nof:∀ T',¬ jB b T' sp=true:=fun T' hT'=>by
   obtain ⟨t,ht,_⟩:=hold (.inl (by decide)) T' hT';cases ht
  have hv2:=cB kp2.tup (cB kp1.tup hv);refine ⟨_,rfl,hT22,fun g cl' H3 tb3 hT23 LF LE=>⟨cl',[v],LE,rfl,fun fz C0 N0=>?_⟩⟩;have kp3:=Tb.kp hT22 tb3;have hT03:=LamT.ntb hT02 hT22 (bX n2) tb3;have hT13:=LamT.ntb hT12 hT22 (bX n3) tb3;have SP:=oV N0;have hT04:=LamT.same SP hT03;have hT14:=LamT.same SP hT13;have LF:LamF lqT laT lbT lsT cl' g H3:=LF;have LF4:=LF.same SP;have hv4:=(cB kp3.tup hv2).same SP;have m2:=N.m2;have m1:=N.m1;have LM:LmOk P w K mg base 6 g (StayT T0 T1 (ptF H3 fz)) (oQ v b m sp (qu b sp)):=by
   refine LmOk.mono (j:=5) (LmOk.imp (lam_run (k:=4) (q:=lqT) (params:=laT) (body:=lbT) (scope:=lsT) (cl:=cl') (fz:=fz) (x := "case") (fr:=pza) (ws:=[v]) (fun _ _ _ _=>rfl) rfl rfl rfl (by trivial) rfl (by decide) C0 (fun y hy hf=>?_) (by trivial) (fun L' cd A' outer' s' H' hr'=>pc1 G4 F4 hr' (ae (pv 1) (ae (pv 0) aB))) (fun v' Hx Qx _ Zx hsp=>?_)) fun Hx st=>?_) (by decide)
   ·have e:y.1 = "net" := (by trivial:∀ y:Str×cN,y∈lsT.names→y.2=cN.free→y.1 = "net") y hy hf
    obtain ⟨cc,_,_,ec,_⟩:=C0.val 0 "net" v rfl rfl;exact ⟨cc,by rw [e];exact ec⟩
   ·obtain ⟨l2,rg2,q2,c2,e2,R2,cd2,ok2,hvx,kk⟩:=hsp
    cases e2;have KX:=ctF_kp Zx;have f2:=R2.ff N;have tl:l2.length≤15:=by have:=R2.fr.few N.ends (by lia);lia
    refine ⟨_,rfl,_,rfl,v,q2,b,m,sp,c2.1,c2.2,rfl,cB KX.tup hvx,by have:=N.b1;lia,by have:=N.b2;lia,cd2.kp KX,ok2.few,fun z hz=>by rw [ok2.ob.len];exact ((f2.rk z (ok2.sub z hz)).rg N tl).inn,fun r H' S' hd fr'=>?_⟩;refine kk r _ (ptF_back Zx S') ?_
    rcases hd with ⟨rfl,al⟩ | ⟨z,hz,dz,hdz⟩
    ·refine .inr ⟨rfl,al,fm fun nz=>?_⟩
     have ht2:=f2.acy.nodup.2;have fix:∀ j∈l2,(c2.1.getD j (0,0)).1=(c2.1.getD j (0,0)).2:=fun j hj=>by
      have h1:=(ok2.ob.lo j (ht2 j hj)).2.1;have h2:¬ ((c2.1.getD j (0,0)).1<(c2.1.getD j (0,0)).2):=fun z=>nz ⟨j,hj,z⟩
      lia
     obtain ⟨ts,_,_,hf,_⟩:=tight N f2 ok2.ob ⟨fix,ok2.all al⟩;exact nof ts hf
    ·exact .inl ⟨_,IsD.keepP (Same.tupK (oV fr')) dz (mf z.2).1,mf z.2,z.2,rfl,(f2.rk z (ok2.sub z hz)).rg N tl,hdz⟩
   ·obtain ⟨ps0,e0⟩:=LamT.tbl hT04
    obtain ⟨ps1,e1⟩:=LamT.tbl hT14;have fz':∀ a o u,ptF H3 fz a=some (.frz o u)→Hx a=some (.frz o u):=fun a o u e=>st a _ (fH e e0 nofun) (fH e e1 nofun) e
    obtain ⟨pm,cd,ct,e,oc,vs,t,ec,r⟩:=LF4;exact ⟨⟨pm,cd,ct,fz' _ _ _ e,oc,vs,t,fz' _ _ _ ec,r⟩,fun a o z=>fz' _ _ _ (pR z)⟩
  refine ⟨v,g,b,m,sp,qu b sp,rfl,hv4,N,hc,hT04,hT14,LM,fun u t H5 st5 kp5 hT05 hT15 du plu gd Z5=>?_⟩;have KC:=ctF_kp Z5;have hT25:L2.LamT T2 lpT lqT H5:=by
   obtain ⟨ps0,e0⟩:=LamT.tbl hT04;obtain ⟨ps1,e1⟩:=LamT.tbl hT14
   rcases LamT.same SP hT23 with h | ⟨c',h,oc,vs,t,e,r⟩
   ·exact .inl (st5 _ _ n2 n3 h)
   ·exact .inr ⟨c',st5 _ _ n2 n3 h,oc,vs,t,st5 _ _ (fH e e0 nofun) (fH e e1 nofun) e,r⟩
  refine ⟨mU,fun q H6 S6 h6=>?_⟩;have kpa:Kp H H6:=kp1.trans (kp2.trans (kp3.trans ((Same.kp SP).trans (kp5.trans (KC.trans (Same.kp S6))))));have sta:∀ a o,a≠T0→a≠T1→a≠T2→H a=some o→H6 a=some o:=fun a o n0 n1 n2' e=>by
   have e3:=tb3 a o n2' (st2 a o n0 n1 (tb1 a o n0 e));have e5:=st5 a o n0 n1 (SP _ _ e3);refine S6 _ _ ?_;have fo:fz a=none:=by
    cases z:fz a with
    | none=>rfl
    | some o'=>rw [N0 a o' z] at e3;cases e3
   rw [il fo];exact e5
  exact k q H6 sta kpa (LamT.same S6 (LamT.cutF Z5 C0.cell hT05)) (LamT.same S6 (LamT.cutF Z5 C0.cell hT15)) (LamT.same S6 (LamT.cutF Z5 C0.cell hT25)) (.inr ⟨u,t,h6,(IsD.keepP KC.tup du plu).same S6,plu,nof,gd⟩)
abbrev pN:cV:=top 43
abbrev sLeafBy:cV:=top 44
inductive spPriceL (vs:List V)(H:Hp)(Q:VK)(_:XK):Prop
 | mk (v vb:V)(u:ao)(b m:Int)(sp:List Sn)(l:List Nat)(rg:List (Nat×List Stp))(bs:List (Int×Int))(rl:List V)(_:vs=[v,.ref u,vb])(_:IsD H v (ka b m sp))(_:NetT b m sp)(_:FF m sp l rg)(_:H u=some (.lst rl))(_:IsDs H rl (rg.map wayQ))(_:IsD H vb (bndP bs))(_:bs.length=sp.length)(_:∀ r H',Same H H'→IsD H' r (leafP (.price (oo b sp bs rg)))→Q r H')
inductive spLeafBy (vs:List V)(H:Hp)(Q:VK)(_:XK):Prop
 | mk (v:V)(u q:ao)(w:Int)(b m:Int)(sp:List Sn)(l:List Nat)(rg rg':List (Nat×List Stp))(c:Cse)(rl:List V)(_:vs=[v,.ref u,.int w,.ref q])(_:IsD H v (ka b m sp))(_:NetT b m sp)(_:FR m sp l rg)(_:FR m sp l rg')(_:H u=some (.lst rl))(_:IsDs H rl (rg.map wayQ))(_:CsD H q c.1 c.2)(_:CaseOk b sp l rg' c)(_:∀ r H',Same H H'→((∃ d,IsD H' r d∧l3 d∧RBest b sp w c.1 d)∨(r= .non∧(∀ z∈c.2,jC b c.1 z.2=false)∧lM b sp c.1 (oo b sp c.1 rg)<w))→Q r H')
theorem sureR_next {bs:List (Int×Int)}{rg:List (Nat×List Stp)}(hi:i<rg.length):kd b sp bs (rg.take (i+1))=kd b sp bs (rg.take i)++(if sureB b bs rg[i].2=true then [((sAt sp rg[i].1).w,rg[i].2)] else []):=by
 unfold kd kZ;rw [bj,gE hi,jd,ay];congr 1;show ([rg[i]].filter _).map _=_;rw [gZ,List.filter_nil]
 by_cases e:sureB b bs rg[i].2=true
 ·rw [q9 e,q9 e];rfl
 ·rw [qZ e,qZ e];rfl
theorem ob_bu {m:Int}{bs:List (Int×Int)}(N:NetT b m sp)(O:OB sp l bs):BsU bs:=fun q hq=>by
 obtain ⟨k,hk,rfl⟩:=List.mem_iff_getElem.mp hq;have hk':k<sp.length:=by rw [←O.len];exact hk
 have h:=O.lo k hk';have e:bs.getD k (0,0)=bs[k]:=by rw [ai,gE hk];rfl
 rw [e] at h;have s:=N.all _ (eQ hk');have:=s.l0;have:=s.o60;exact ⟨by lia,h.2.1,by lia⟩
theorem scPriceL:cp ["net","rings","bounds","rows"] pzH (defScope pN):=by trivial
theorem ok_priceL (F:Fun K "price_leaf" "price_leaf" pN f fd)(T:Nm mg)(G1:Fn K mg "is_sure" sSure pzb f1 fd1)(F1:dv P w K mg base CX0 3 f1 fd1 pzb spSure):dv P w K mg base CX0 4 f fd pzH spPriceL:=by
 refine F.ok scPriceL (by contradiction) (fun cdv A outer s H vs Q E hr h=>?_);obtain ⟨v,vb,u,b,m,sp,l,rg,bs,rl,rfl,hv,N,ff,hu,dl,hb,lb,k⟩:=h;obtain ⟨t,p,ys,rfl,ht,hp,hl,hy⟩:=fR hv;have b1:=N.b1;have m2:=N.m2;have fw:=ff.few;have lrl:rl.length=rg.length:=by rw [dl.length,aa]
 have few:=rg_few N ff;refine ⟨_,PSl.h (aU ⟨(pS (iy:=3) (fr:=["net","bounds"]) (js:=[0,2]) scPriceL.nd rfl (.inl rfl) rfl (jk (pv 1)) (by trivial) rfl (by trivial) rfl (by exists pN) (by trivial) rfl (by trivial) (fun _ _ _ _ _=>⟨(d8 (ae (dN (r:=oU K) dQ (dN (r:=oU K) dQ (dN (r:=oU K) dQ (pv 1) bg (fun _ _=>rfl)) (dN (r:=oU K) dQ (dN (r:=oU K) dQ (pv 0) bg (fun _ _=>rfl)) bg (fun _ _=>rfl)) (fun _ _=>rfl)) bg (fun _ _=>rfl)) (ae (pv 0) aB))),(pQ (kx (pc1 G1 F1 hr (ae (pv 1) (ae (pv 2) (ae (pv 0) aB))))))⟩))⟩
  (dH ⟨(cx (d8 (ae kA (ae (fG i9 rfl T.ttup i5 (ae (i7 (fr:=[]) (js:=[]) rfl (jk (pv 3)) (by trivial) rfl (by trivial) rfl (by exists pN) (by trivial) rfl (by trivial) (fun _ _ _ _ _=>⟨(pv 0),(pQ (cG op_gt (dN (r:=oU K) dQ (pv 0) bg (fun _ _=>rfl)) bg (dg _)))⟩)) aB)) aB))))⟩)),?_⟩
 refine ⟨_,rfl,u,rfl,⟨_,SqL.of hu⟩,?_⟩;refine kK (K:=K) (a:=u) (xs:=rl) (fun i zs HC=>Same H HC∧zs.length≤i∧IsDs HC zs ((kd b sp bs (rg.take i)).map rowD)) ⟨Same.refl H,bF _,.nil⟩ (fun i zs HC hi ⟨e1,e2,_⟩=>⟨SqL.of (e1 _ _ hu),e2⟩) (by rw [lrl];exact eG (by lia)) (fun i x zs HC hx ⟨SC,lz,dz⟩=>?_) (fun zs HC ⟨SC,lz,dz⟩ D hD=>?_)
 ·have hi:i<rg.length:=by rw [←lrl];exact (aq.mp hx).1
  obtain ⟨d,ed,dx⟩:=dl.get hx;rw [az,gE hi] at ed;cases ed;have dx:IsD H x (mS rg[i].2):=dx;have K1:=ff.rk _ (bH hi);have rgi:=K1.rg N (by lia);obtain ⟨pp,ep,_⟩:=K1.way;have dx0:=dx;obtain ⟨pw,yw,rfl,hpw,hlw,rw'⟩:=iG dx;obtain ⟨q0,hq0,hq0'⟩:=iQ rw' (show rg[i].2[0]? =some ⟨rg[i].1,1⟩ by rw [ep];rfl);obtain ⟨qs,hqs,hqs'⟩:=hy rg[i].1 (sAt sp rg[i].1) (jh K1.lt);refine ⟨_,rfl,_,rfl,_,rfl,.ref t,vb,.ref pw,b,m,sp,bs,rg[i].2,rfl,hv.same SC,by lia,by have:=N.b2;lia,hb.same SC,dx0.same SC,by rw [lb];exact rgi.inn,fun H4 S4=>⟨_,rfl,?_⟩⟩;have S04:=SC.trans S4;rw [sureR_next hi];cases hs:sureB b bs rg[i].2 with
  | true =>
   rw [q9 rfl];refine iteT ⟨_,rfl,t,_,_,_,rfl,rfl,SqT.of (S04 _ _ ht),aJ (j:=2) rfl,_,rfl,pw,_,_,_,rfl,rfl,SqT.of (S04 _ _ hpw),aJ (j:=0) hq0,q0,_,_,_,rfl,rfl,SqT.of (S04 _ _ hq0'),aJ (j:=0) rfl,p,_,_,_,rfl,rfl,SqT.of (S04 _ _ hp),aJ (j:=rg[i].1) hqs,qs,_,_,_,rfl,rfl,SqT.of (S04 _ _ hqs'),aJ (j:=4) rfl,_,rfl,mU,fun q5 H5 S5 h5=>⟨S04.trans S5,by rw [av];exact jT lz,?_⟩⟩;rw [ay];exact ((dz.same S4).same S5).append (.cons (.tup h5 (.cons (.int _) (.cons (dx0.same (S04.trans S5)) .nil))) .nil)
  | false =>
   rw [qZ aV,eU];exact iteF ⟨S04,by lia,dz.same S4⟩
 ·have S3:Same H (upd HC D (.lst zs)):=SC.put hD
  have hD3:(upd HC D (.lst zs)) D=some (.lst zs):=aS;have dz3:=dz.same (Same.put (o:= .lst zs) (Same.refl HC) hD);generalize upd HC D (.lst zs)=H3 at S3 hD3 dz3 ⊢;rw [lrl,bc] at dz3;have lzs:zs.length=(kd b sp bs rg).length:=by rw [dz3.length,aa]
  have ls:(kd b sp bs rg).length≤40:=by
   unfold kd kZ;rw [aa];exact bo (fB _ _) few
  refine ⟨_,rfl,D,rfl,⟨_,SqL.of hD3⟩,?_⟩;refine kK (K:=K) (a:=D) (xs:=zs) (fun i ws HC=>HC=H3∧ws.length≤i∧IsDs H3 ws ((((kd b sp bs rg).take i).filter posR).map rowD)) ⟨rfl,bF _,.nil⟩ (fun i ws HC hi ⟨e1,e2,_⟩=>⟨by rw [e1];exact SqL.of hD3,e2⟩) (by rw [lzs];exact eG (by lia)) (fun i x ws HC hx ⟨e1,lw,dw⟩=>?_) (fun ws HC ⟨e1,lw,dw⟩ D2 hD2=>?_)
  ·subst e1
   have hi:i<(kd b sp bs rg).length:=by rw [←lzs];exact (aq.mp hx).1
   obtain ⟨d,ed,dx⟩:=dz3.get hx;rw [az,gE hi] at ed;cases ed;have dx0:=dx;obtain ⟨q,xs,rfl,hq,rx⟩:=IsD.tup_of (show IsD HC x (.tup [.int (kd b sp bs rg)[i].1,mS (kd b sp bs rg)[i].2]) from dx);obtain ⟨y2,rfl⟩:∃ y2,xs=[.int (kd b sp bs rg)[i].1,y2]:=by
    cases rx with
    | cons a rx=>cases a;cases rx with
     | cons _ rx=>cases rx;exact ⟨_,rfl⟩
   refine ⟨_,rfl,q,_,_,_,rfl,rfl,SqT.of hq,aJ (j:=0) rfl,_,_,rfl,rfl,_,rfl,?_⟩;have nx:((kd b sp bs rg).take (i+1)).filter posR=((kd b sp bs rg).take i).filter posR++(if decide ((kd b sp bs rg)[i].1 > 0)=true then [(kd b sp bs rg)[i]] else []):=by
    rw [bj,gE hi,jd];show _++[(kd b sp bs rg)[i]].filter _=_;rw [gZ,List.filter_nil];rfl
   rw [nx];cases hc:decide ((kd b sp bs rg)[i].1 > 0) with
   | true =>
    rw [q9 rfl];refine iteT ⟨_,rfl,rfl,by rw [av];exact jT lw,?_⟩;rw [ay];exact dw.append (.cons dx0 .nil)
   | false =>
    rw [qZ aV,eU];exact iteF ⟨rfl,by lia,dw⟩
  ·subst e1
   refine ⟨D2,_,rfl,SqL.of aS,fun p3 H4 S4 h4=>⟨mU,fun q5 H5 S5 h5=>?_⟩⟩;have S35:=(Same.put (o:= .lst ws) (Same.refl HC) hD2).trans (S4.trans S5);rw [lzs,bc] at dw;exact k (.ref q5) H5 (S3.trans S35) (.tup h5 (.cons (.str _) (.cons (.tup (S5 _ _ h4) (dw.same S35)) .nil)))
theorem scLeafBy:cp ["net","rings","wait","case","dead","leaf"] pzu (defScope sLeafBy):=by trivial
theorem ok_leafBy (F:Fun K "leaf_by" "leaf_by" sLeafBy f fd)(G1:Fn K mg "dead_leaf" sDeadL pzi f1 fd1)(F1:dv P w K mg base CX0 4 f1 fd1 pzi pB)
  (G2:Fn K mg "price_leaf" pN pzH f2 fd2) (F2:dv P w K mg base CX0 4 f2 fd2 pzH spPriceL)
  (G3:Fn K mg "worth_of" sWorth pzD f3 fd3) (F3:dv P w K mg base CX0 3 f3 fd3 pzD spWorth):dv P w K mg base CX0 5 f fd pzu spLeafBy:=by
 refine F.ok scLeafBy (by contradiction) (fun cdv A outer s H vs Q E hr h=>?_);obtain ⟨v,u,q,w0,b,m,sp,l,rg,rg',c,rl,rfl,hv,N,R,R',hu,dl,cd,ok,k⟩:=h;have hr3:Room 3 _:=hr.mono (by decide);have ff:=R.ff N;have ff':=R'.ff N;have b1:=N.b1;have m2:=N.m2;have fw:=ff.few;refine ⟨_,PSl.h (aU ⟨(bC (i:=4) scLeafBy.nd rfl (.inl rfl) (pc1 G1 F1 hr (ae (pv 0) (ae (pv 3) aB))))⟩
  (aU ⟨(gR (cG op_notN (pv 4) jL (dg _)) (cO (cx (pv 4))) d7)⟩
  (aU ⟨(bC (i:=5) scLeafBy.nd rfl (.inl rfl) (pc1 G2 F2 hr (ae (pv 0) (ae (pv 1) (ae (ixZ (pv 3)) aB)))))⟩
  (dH ⟨(cx (ma (cG op_ge (pc1 G3 F3 hr3 (ae (pv 0) (ae (ixZ (pv 3)) (ae (pv 5) aB)))) (pv 2) (dg _)) (pv 5) jL))⟩)))),?_⟩
 refine ⟨_,rfl,_,rfl,v,q,b,m,sp,c.1,c.2,rfl,hv,by lia,by have:=N.b2;lia,cd,ok.few,fun z hz=>by rw [ok.ob.len];exact ((ff'.rk z (ok.sub z hz)).rg N (by lia)).inn,fun r H1 S1 hd=>?_⟩
 rcases hd with ⟨rfl,al⟩ | ⟨z,hz,dz,hdz⟩
 rotate_left
 ·have nn:r≠ .non:=fun e=>by rw [e] at dz;cases dz
  refine ⟨_,rfl,rfl,_,rfl,iteB (by rw [rh nn];rfl) ?_⟩;exact ⟨_,rfl,k r H1 S1 (.inl ⟨_,dz,mf z.2,.inl ⟨z.2,rfl,(ff'.rk z (ok.sub z hz)).rg N (by lia),hdz⟩⟩)⟩
 refine ⟨_,rfl,rfl,_,rfl,ke (by rw [rf rfl];rfl) ?_⟩;obtain ⟨vb,u',rl',a1,a2,a3,a4⟩:=(cd.same S1).ex;refine ⟨_,rfl,_,rfl,_,rfl,q,_,_,_,rfl,rfl,SqT.of a1,aJ (j:=0) rfl,v,vb,u,b,m,sp,l,rg,c.1,rl,rfl,hv.same S1,N,ff,S1 _ _ hu,dl.same S1,a2,ok.ob.len,fun r2 H2 S2 d2=>?_⟩;obtain ⟨pok,pfew⟩:=price_ok (bs:=c.1) N ff;refine ⟨_,rfl,_,rfl,q,_,_,_,rfl,rfl,SqT.of (S2 _ _ a1),aJ (j:=0) rfl,_,rfl,v,vb,r2,b,m,sp,c.1,oo b sp c.1 rg,rfl,⟨(hv.same S1).same S2,a2.same S2,d2,by lia,by have:=N.b2;lia,ok.ob.len,N.few,ob_bu N ok.ob,N.ws,fun r hr=>⟨(pok r hr).1.inn,(pok r hr).1.one,(pok r hr).1.few,(pok r hr).2.2.1,(pok r hr).2.2.2⟩,by lia⟩,fun H3 S3=>?_⟩;refine ⟨_,rfl,_,_,rfl,rfl,_,rfl,?_⟩;have S03:=S1.trans (S2.trans S3)
 by_cases e:lM b sp c.1 (oo b sp c.1 rg) ≥ w0
 ·exact iteB (rf e) ⟨_,rfl,k r2 H3 S03 (.inl ⟨_,d2.same S3,leafW_price _,.inr ⟨_,rfl,pok,pfew,e⟩⟩)⟩
 ·exact ke (rh e) (k .non H3 S03 (.inr ⟨rfl,al,by lia⟩))
abbrev sWaitOf:cV:=top 26
abbrev sWaitIn:cV:=top 24
abbrev sWaits:cV:=top 25
theorem oR:cp ["net","table","span","start","goal","least"] pzI (defScope sWaitIn):=by trivial
theorem ok_waitIn (F:Fun K "wait_in" "wait_in" sWaitIn f fd)(G1:Fn K mg "rest_by" sRest pzj f1 fd1):dv P w K mg base CX0 2 f fd pzI spWaitIn:=by
 have F1:dv P w K mg base CX0 1 f1 fd1 pzj spRest:=ok_rest G1.F;refine F.ok oR (by contradiction) (fun cdv A outer s H vs Q E hr h=>?_);obtain ⟨v,u,b,m,sp,ts,i,x,rfl,hv,hu,R,hx,k⟩:=h;obtain ⟨t,p,ys,rfl,ht,hp,hl,hy⟩:=fR hv;obtain ⟨q,hq,hq2⟩:=hy i x hx;obtain ⟨s0,s1,g0,g1⟩:=R.ends x (bt hx);refine ⟨_,PSl.h (aU ⟨(bC (i:=3) oR.nd rfl (.inl rfl) (ixZ (dN dQ (ixZ (pv 0)) (pv 2) (fun _ _=>rfl))))⟩
  (aU ⟨(bC (i:=4) oR.nd rfl (.inl rfl) (ixZ (dN dQ (ixZ (pv 0)) (pv 2) (fun _ _=>rfl))))⟩
  (aU ⟨(bC (i:=5) oR.nd rfl (.inl rfl) (ixZ (dN dQ (ixZ (pv 0)) (pv 2) (fun _ _=>rfl))))⟩
  (dH ⟨(cx (pc1 G1 F1 hr (ae (ixZ (pv 0)) (ae (b9 gJ (b9 gJ (dN dQ (pv 1) (pv 4) (fun _ _=>rfl)) (dN dQ (pv 1) (pv 3) (fun _ _=>rfl))) (pv 5)) aB))))⟩)))),?_⟩
 refine ⟨_,rfl,t,_,_,_,rfl,rfl,SqT.of ht,aJ (j:=2) rfl,_,rfl,p,_,_,_,rfl,rfl,SqT.of hp,aJ (j:=i) hq,q,_,_,_,rfl,rfl,SqT.of hq2,aJ (j:=0) rfl,?_⟩;refine ⟨_,rfl,t,_,_,_,rfl,rfl,SqT.of ht,aJ (j:=2) rfl,_,rfl,p,_,_,_,rfl,rfl,SqT.of hp,aJ (j:=i) hq,q,_,_,_,rfl,rfl,SqT.of hq2,aJ (j:=1) rfl,?_⟩;refine ⟨_,rfl,t,_,_,_,rfl,rfl,SqT.of ht,aJ (j:=2) rfl,_,rfl,p,_,_,_,rfl,rfl,SqT.of hp,aJ (j:=i) hq,q,_,_,_,rfl,rfl,SqT.of hq2,aJ (j:=2) rfl,?_⟩;refine ⟨_,rfl,t,_,_,_,rfl,rfl,SqT.of ht,aJ (j:=0) rfl,?_⟩;refine ⟨_,rfl,_,rfl,u,_,_,_,rfl,rfl,SqT.of hu,mq g0 g1,_,rfl,_,rfl,u,_,_,_,rfl,rfl,SqT.of hu,mq s0 s1,_,_,rfl,rfl,_,rfl,_,_,rfl,rfl,?_⟩;exact ⟨b,_,rfl,R.b1,k⟩
theorem scWaits:cp pzf pzf (defScope sWaits):=by trivial
theorem ok_waits (F:Fun K "waits_of" "waits_of" sWaits f fd)(T:Nm mg)(T2:Nt mg)(G1:Fn K mg "rest_by" sRest pzj f1 fd1)(G2:Fn K mg "wait_in" sWaitIn pzI f2 fd2):dv P w K mg base CX0 3 f fd pzf spWaits:=by
 have F2:dv P w K mg base CX0 2 f2 fd2 pzI spWaitIn:=ok_waitIn G2.F G1;refine F.ok scWaits (by contradiction) (fun cdv A outer s H vs Q E hr h=>?_);obtain ⟨v,u,b,m,sp,ts,rfl,hv,hu,R,k⟩:=h;obtain ⟨t,p,ys,rfl,ht,hp,hl,hy⟩:=fR hv;refine ⟨_,PSl.h (dH ⟨(cx (fG i9 rfl T.ttup i5 (ae (i7 (fr:=pzf) (js:=[0,1]) rfl (iJ rfl T2.range (ae (cM cg rfl T.len bP (ae (ixZ (pv 0)) aB)) aB)) (by trivial) rfl (by trivial) rfl (by exists sWaits) (by trivial) rfl (by trivial) (fun _ _ _ _ _=>⟨(pc1 G2 F2 hr (ae (pv 1) (ae (pv 2) (ae (pv 0) aB)))),iH⟩)) aB)))⟩),?_⟩;have few:=R.few;refine ⟨_,rfl,t,_,_,_,rfl,rfl,SqT.of ht,aJ (j:=2) rfl,p,_,rfl,.inr (SqT.of hp),_,rfl,by lia,by lia,?_⟩;refine kJ (n:=((ys.length:Int)).toNat) (fun i zs H2=>H2=H∧zs=(ki b ts (sp.take i)).map V.int) ⟨rfl,rfl⟩ (fun i zs H2 hi ⟨e1,e2⟩=>?_) (by rw [cQ,hl];exact eG few) (fun i zs H2 hi ⟨e1,e2⟩=>?_) (fun zs H2 ⟨e1,e2⟩ D hD=>?_)
 ·rw [e2,aa];unfold ki;rw [aa,bG];lia
 ·subst e1
  rw [cQ,hl] at hi;refine gQ ?_;refine ⟨_,rfl,_,rfl,_,rfl,.ref t,u,b,m,sp,ts,i,sp[i],?_,hv,hu,R,gE hi,rfl,?_⟩
  ·rw [gc];rfl
  ·rw [e2];unfold ki
   rw [bj,gE hi,ay,ay];rfl
 ·subst e1
  refine ⟨D,_,rfl,SqL.of aS,fun p3 H3 S3 h3=>?_⟩;refine k p3 H3 ((Same.put (Same.refl H2) hD).trans S3) ?_;rw [h3,e2,cQ,hl,bc]
theorem scWaitOf:cp pzf pzf (defScope sWaitOf):=by trivial
theorem ok_waitOf (F:Fun K "wait_of" "wait_of" sWaitOf f fd)(T:Nm mg)(T2:Nt mg)(G1:Fn K mg "waits_of" sWaits pzf f1 fd1)(F1:dv P w K mg base CX0 3 f1 fd1 pzf spWaits):dv P w K mg base CX0 4 f fd pzf mY:=by
 refine F.ok scWaitOf (by contradiction) (fun cdv A outer s H vs Q E hr h=>?_);obtain ⟨v,u,b,m,sp,ts,rfl,hv,hu,R,hw,k⟩:=h;obtain ⟨t,p,ys,e0,ht,hp,hl,hy⟩:=fR hv;subst e0;refine ⟨_,PSl.h (dH ⟨(cx (cM (call_sum rfl) rfl T2.sum boot_sum (ae (pe_compT (xs:=["span","wait"]) (fr:=[]) (js:=[]) rfl (pi_zip2 rfl T2.zip (ae (ixZ (pv 0)) (ae (pc1 G1 F1 hr (ae (pv 0) (ae (pv 1) aB))) aB))) (by trivial) rfl (by trivial) (by exists sWaitOf) rfl (by trivial) (fun _ _ _ _ _=>pg_two rfl (by trivial) rfl rfl) (fun _ _ _ _ _=>⟨(b9 jA (dN (r:=oU K) dQ (pv 0) bg (fun _ _=>rfl)) (pv 1)),iH⟩)) aB)))⟩),?_⟩;have few:=R.few;refine ⟨_,rfl,t,_,_,_,rfl,rfl,SqT.of ht,aJ (j:=2) rfl,_,rfl,_,rfl,_,u,b,m,sp,ts,rfl,hv,hu,R,fun p1 H1 S1 h1=>?_⟩;refine ⟨⟨false,p⟩,⟨false,p1⟩,_,_,rfl,S1 _ _ hp,h1,?_⟩;refine qT (K:=K) (c1:=⟨false,p⟩) (c2:=⟨false,p1⟩) (xs:=ys) (ys:=(ki b ts sp).map V.int) (fun i zs H2=>Same H1 H2∧zs=((sp.take i).map fun x=>x.w * fW b ts x).map V.int) ⟨Same.refl H1,rfl⟩ (fun i zs H2 hi ⟨S2,e2⟩=>⟨S2 _ _ (S1 _ _ hp),S2 _ _ h1,?_⟩) (by unfold ki;rw [aa,aa,hl]) (by rw [hl];exact eG few) (fun i x y zs pz H2 hx hx' ⟨S2,e2⟩ hpz=>?_) (fun zs H2 ⟨S2,e2⟩ D hD=>?_)
 ·rw [e2,aa,aa,bG];lia
 ·have hi:i<sp.length:=by rw [←hl];exact (aq.mp hx).1
  obtain ⟨q,hq,hq2⟩:=hy i sp[i] (gE hi);rw [hx] at hq;cases hq;unfold ki at hx';rw [az,az,gE hi] at hx';cases hx';have S3:Same H1 (upd H2 pz (.tup [.ref q,.int (fW b ts sp[i])])):=S2.put hpz;generalize upd H2 pz (.tup [.ref q,.int (fW b ts sp[i])])=H3 at S3 ⊢;have hq3:=S3 _ _ (S1 _ _ hq2);obtain ⟨w0,w1⟩:=hw sp[i] (bH hi);refine gQ ?_;refine ⟨_,rfl,q,_,_,_,rfl,rfl,SqT.of hq3,aJ (j:=4) rfl,_,rfl,_,_,rfl,rfl,.inl ⟨by lia,by lia⟩,S3,?_⟩;rw [e2,bj,gE hi,ay,ay];rfl
 ·refine ⟨D,_,rfl,SqL.of (by rw [e2];exact aS),?_⟩
  have e3:((sp.take ys.length).map fun x=>x.w * fW b ts x).sum=gq b ts sp:=by
   unfold gq;rw [hl,bc]
  rw [e3];exact k _ (S1.trans (S2.put hD))
abbrev lR:cV:=top 45
def lamE6:List cV→Expr
 | [_,_,_,_,_,.Return (some (.Tuple [_,_,_,.Call _ [_,e] _ _] _ _)) _]=>e
 | _=> .Constant .none 0 ⟨0,0,0,0⟩
abbrev laB:fE:=lamA5 (lamE6 (fS lR))
abbrev lbB:Expr:=lamB5 (lamE6 (fS lR))
abbrev lsB:fI:=lamS5 (lamE6 (fS lR))
abbrev lqB:Str:=(("best_for" :Str) ++ ".<locals>.") ++ "<lambda>"
theorem LmOk.imp2 {k:Nat}{Hg:Hp→Prop}{sp sp':Sp}(L:LmOk P w K mg base k f Hf sp')(h:∀ H,Hg H→Hf H)(h2:∀ v H Q,Hg H→sp [v] H Q E0→sp' [v] H Q E0):LmOk P w K mg base k f Hg sp:=⟨fun H hh g=>L.isFn H hh (h H g),fun A outer s H u v Q hr e0 g ru hsp=>L.run A outer s H u v Q hr e0 (h H g) ru (h2 v H Q g hsp)⟩
theorem LamT.stayF {T:ao}(k:L2.LamT T lp lq H)(hT:∀ ps,H T=some (.tbl ps)→H' T=some (.tbl ps))(hf:∀ a o u,H a=some (.frz o u)→H' a=some (.frz o u)):L2.LamT T lp lq H':=by
 rcases k with k | ⟨c,k,oc,vs,t,e,r⟩
 ·exact .inl (hT _ k)
 ·exact .inr ⟨c,hT _ k,oc,vs,t,hf _ _ _ e,r⟩
theorem LamG.cutF {T:ao}(F:Fz fz H)(cl:∀ c o,fz c=some o→∃ v,o.data= .cell v)(h:L2.LamG T lq H):L2.LamG T lq (ctF H fz):=by
 obtain ⟨l,e,r⟩:=h;refine ⟨l,F.cut e (fun _ z=>by cases z),fun x hx=>?_⟩;obtain ⟨oc,vs,t,e2,hd,z⟩:=r x hx;refine ⟨oc,vs,t,?_,hd,z⟩;cases q:fz x.2 with
 | none=>rw [il q];exact e2
 | some o' =>
  obtain ⟨v,hv⟩:=cl _ o' q;rw [F _ o' q] at e2;cases e2;rw [hd] at hv;cases hv
theorem lay_all {m:Int}{rg:List (Nat×List Stp)}{t T:List Int}(N:NetT b m sp)(f:FF m sp l rg)(h1:jB b t sp=true)(h2:jB b T sp=true)(e:∀ k∈l,iS b t sp k=iS b T sp k):∀ k,k<sp.length→iS b t sp k=iS b T sp k:=fun k hk=>by
 by_cases c:k∈l
 ·exact e k c
 have hb:0<b:=by have:=N.b1;lia
 have m2:=N.m2;have fw:=f.few;obtain ⟨r,hr⟩:=f.all k hk c;have R:=f.rk _ hr;have rgk:=R.rg N (by lia);obtain ⟨p,ep,P⟩:=R.way;have ep:r=⟨k,1⟩::p:=ep;obtain ⟨x0,al⟩:=rgk.rnd;obtain ⟨Z1,a1⟩:=alg_way (b:=b) (ts:=t) (sp:=sp) r x0 x0 rgk.inn al;obtain ⟨Z2,a2⟩:=alg_way (b:=b) (ts:=T) (sp:=sp) r x0 x0 rgk.inn al;have same:∀ (q:List Stp),(∀ s∈q,s.i∈l)→alg (iS b t sp) q=alg (iS b T sp) q:=fun q=>by
  induction q with
  | nil=>intro _;rfl
  | cons s q ih =>
   intro hs;show s.d * iS b t sp s.i+alg _ q=s.d * iS b T sp s.i+alg _ q;rw [ih fun z hz=>hs z (aw _ hz),e s.i (hs s (by simp))]
 have sp':=same p fun s hs=>(P.inn s hs).1
 rw [ep] at a1 a2;have a1:1 * iS b t sp k+alg (iS b t sp) p=tm t x0 - tm t x0+b * Z1:=a1;have a2:1 * iS b T sp k+alg (iS b T sp) p=tm T x0 - tm T x0+b * Z2:=a2;have i1:=lay_in hb h1 k (by rw [aa];exact hk);have i2:=lay_in hb h2 k (by rw [aa];exact hk);have s:=N.all _ (eQ hk);have eb:(sp.map fun x=>(x.l,x.o)).getD k (0,0)=((sAt sp k).l,(sAt sp k).o):=by
  rw [ai,az,jh hk];rfl
 rw [eb] at i1 i2;have i1:(sAt sp k).l≤iS b t sp k∧iS b t sp k≤(sAt sp k).o:=i1;have i2:(sAt sp k).l≤iS b T sp k∧iS b T sp k≤(sAt sp k).o:=i2;have ob:=s.ob;have d:iS b t sp k - iS b T sp k=b * (Z1 - Z2):=by rw [Int.mul_sub];lia
 rcases Int.lt_or_le 0 (Z1 - Z2) with z | z
 ·have:b * 1≤b * (Z1 - Z2):=eP (by lia) (by lia)
  lia
 ·rcases Int.lt_or_le (Z1 - Z2) 0 with z' | z'
  ·have:b * (Z1 - Z2)≤b * (-1):=eP (by lia) (by lia)
   lia
  ·have:Z1 - Z2=0:=by lia
   rw [this,ie] at d;lia
theorem wait_same {t T:List Int}(e:∀ k,k<sp.length→iS b t sp k=iS b T sp k):gq b t sp=gq b T sp:=by
 rw [wait_sum,wait_sum,←l7,←l7];congr 1;refine fV fun k hk=>?_
 rw [e k (bT.mp hk)]
structure BestA (H:Hp)(q:ao)(b m:Int)(sp:List Sn)(qt:ao)(ts:List Int)(u:V)(t:Tq):Prop where
 q:H q=some (.tup [.str "best",.ref qt,.int (gq b ts sp),u])
 qt:H qt=some (.tup (ts.map V.int))
 tab:TabOk b m sp ts
 least:∀ T,jB b T sp=true→gq b ts sp≤gq b T sp
 tree:IsD H u (jx t)
 pl:pl (jx t)=true
 good:qw (RBest b sp (gq b ts sp)) t (sp.map fun z=>(z.l,z.o)) 21
structure NoneA (H:Hp)(q:ao)(b:Int)(sp:List Sn)(u:V)(t:Tq):Prop where
 q:H q=some (.tup [.str "none",u])
 tree:IsD H u (jx t)
 pl:pl (jx t)=true
 no:∀ T,¬ jB b T sp=true
 good:qw (qu b sp) t (sp.map fun z=>(z.l,z.o)) 21
inductive spBest (T0:ao)(p0:Pos)(q0:Str)(T1:ao)(p1:Pos)(q1:Str)(T2 T3:ao)(vs:List V)(H:Hp)(Q:VK)(_:XK):Prop
 | mk (v:V)(b m:Int)(sp:List Sn)(_:vs=[v])(_:IsD H v (ka b m sp))(_:NetT b m sp)(_:(∀ l,FrstL m.toNat sp l→kz sp l≤4096))(_:L2.LamT T0 p0 q0 H)(_:L2.LamT T1 p1 q1 H)(_:L2.LamT T2 lpT lqT H)(_:L2.LamG T3 lqB H)(_:∀ (q:ao) (H':Hp),Kp H H'→L2.LamT T0 p0 q0 H'→L2.LamT T1 p1 q1 H'→L2.LamT T2 lpT lqT H'→L2.LamG T3 lqB H'→((∃ u t,NoneA H' q b sp u t)∨∃ qt ts u t,BestA H' q b m sp qt ts u t)→Q (.ref q) H')
theorem pJ:cp ["net","found","table","wait","rings"] pza (defScope lR):=by trivial
theorem ok_best {f5 f6 c T2 T3:ao}{fd5 fd6:bw}(F:Fun K "best_for" "best_for" lR f fd)(hcd:fd.code= .ref c)(CH:eX K c T3=true)(B:BM mg base)(T:Nm mg)(MC:∃ t,mg "MOST_CASES" =some (.int 4096 t))(ne:T0≠T1)(n2:T2≠T0)(n3:T2≠T1)(m0:T3≠T0)(m1:T3≠T1)(m2:T3≠T2)
  (G1:Fn K mg "table_for" j7 pza f1 fd1) (F1:dv P w K mg base CX0 12 f1 fd1 pza (pA T0 p0 q0 T1 p1 q1 T2))
  (G2:Fn K mg "tables_that_fit" sTabF pzl f2 fd2) (F2:dv P w K mg base CX0 11 f2 fd2 pzl (spTabF T0 p0 q0 T1 p1 q1))
  (G3:Fn K mg "tree_by" sTreeB pzm f3 fd3) (F3:dv P w K mg base CX0 11 f3 fd3 pzm (oO P w K mg base T0 p0 q0 T1 p1 q1))
  (G4:Fn K mg "leaf_by" sLeafBy pzu f4 fd4) (F4:dv P w K mg base CX0 5 f4 fd4 pzu spLeafBy)
  (G5:Fn K mg "wait_of" sWaitOf pzf f5 fd5) (F5:dv P w K mg base CX0 4 f5 fd5 pzf mY)
  (G6:Fn K mg "rings_of" pM pza f6 fd6) (F6:dv P w K mg base CX0 8 f6 fd6 pza (oP T0 p0 q0)):dv P w K mg base CX0 13 f fd pza (spBest T0 p0 q0 T1 p1 q1 T2 T3):=by
 refine okC F hcd pJ (by contradiction) (fun A outer s H vs Q E hr h=>?_);obtain ⟨v,b,m,sp,rfl,hv,N,hc,hT0,hT1,hT2,hT3,k⟩:=h;have hr4:Room 4 _:=hr.mono (by decide);have hr8:Room 8 _:=hr.mono (by decide);have hr11:Room 11 _:=hr.mono (by decide);refine ⟨_,PSl.h (aU ⟨(bC (i:=1) pJ.nd rfl (.inl rfl) (pc1 G1 F1 hr (ae (pv 0) aB)))⟩
  (aU ⟨(gR (cG mm (ixZ (pv 1)) kA (dg _)) (cO (cx (pv 1))) d7)⟩
  (aU ⟨(bC (i:=2) pJ.nd rfl (.inl rfl) (pe_minL (js:=[0]) (fr:=pza) (x := "other") (c:=c) (P:=T3) rfl hr.depth rfl T.min (pc1 G2 F2 hr11 (ae (pv 0) (ae (pe_gint MC) aB))) rfl rfl CH B (fun _ _ _ _ _ _=>rfl) rfl rfl rfl (by trivial) rfl (by decide) (by exists lR) rfl (by trivial)
   (fun cl L f' cd s' H'=>pc1 G5 F5 (((hr.in1).in1).deeper _ |>.mono (by decide)) (ae (pv 1) (ae (pv 0) aB)))))⟩
  (aU ⟨(bC (i:=3) pJ.nd rfl (.inr rfl) (pc1 G5 F5 hr4 (ae (pv 0) (ae (pv 2) aB))))⟩
  (aU ⟨(bC (i:=4) pJ.nd rfl (.inr rfl) (pc1 G6 F6 hr8 (ae (pv 0) aB)))⟩
  (dH ⟨(cx (d8 (ae kA (ae (pv 2) (ae (pv 3) (ae (pe_callZ (scope:=lsB) (fr:=["net","rings","wait"]) (js:=[0,4,3]) F3 hr11 (fun _=>rfl) rfl G3.mg G3.F.kp G3.b rfl (by trivial) (by exists lR) (ae (pv 0) (ae (pe_lamG (T:=T3) rfl rfl CH B (by exists lR)) aB))) aB))))))⟩)))))),?_⟩
 obtain ⟨ps0,et0⟩:=LamT.tbl hT0;obtain ⟨ps1,et1⟩:=LamT.tbl hT1;obtain ⟨ps2,et2⟩:=LamT.tbl hT2;refine ⟨_,rfl,v,b,m,sp,rfl,hv,N,hc,hT0,hT1,hT2,fun q H1 st1 kp1 hT01 hT11 hT21 ans=>?_⟩;have hT31:L2.LamG T3 lqB H1:=hT3.stay (fun ps e=>st1 _ _ m0 m1 m2 e) fun a o u e=>st1 _ _ (fH e et0 nofun) (fH e et1 nofun) (fH e et2 nofun) e
 have hv1:=cB kp1.tup hv
 rcases ans with ⟨qt0,t0,hq,hqt,tok0⟩ | ⟨u,t,hq,du,plu,nof,gd⟩
 rotate_left
 ·refine ⟨_,rfl,q,_,_,_,rfl,rfl,SqT.of hq,aJ (j:=0) rfl,rfl,_,rfl,iteB (rf rfl) ?_⟩
  exact ⟨_,rfl,k q H1 kp1 hT01 hT11 hT21 hT31 (.inl ⟨u,t,hq,du,plu,nof,gd⟩)⟩
 refine ⟨_,rfl,q,_,_,_,rfl,rfl,SqT.of hq,aJ (j:=0) rfl,rfl,_,rfl,ke (rh nofun) ?_⟩;obtain ⟨qs0,eu0⟩:=LamT.tbl hT01;obtain ⟨qs1,eu1⟩:=LamT.tbl hT11;refine ⟨_,rfl,v,b,m,sp,4096,rfl,hv1,N,by decide,hc,hT01,hT11,fun L tv l rg Ts H2 st2 kp2 hT02 hT12 hL dL R tabs few hold=>?_⟩;have fz2:∀ a o u,H1 a=some (.frz o u)→H2 a=some (.frz o u):=fun a o u e=>st2 _ _ (fH e eu0 nofun) (fH e eu1 nofun) e
 have hT22:L2.LamT T2 lpT lqT H2:=LamT.stayF hT21 (fun ps e=>st2 _ _ n2 n3 e) fz2;have hT32:L2.LamG T3 lqB H2:=hT31.stay (fun ps e=>st2 _ _ m0 m1 e) fz2;have hv2:=cB kp2.tup hv1;have ff:=R.ff N;have holdA:=hold (.inr rfl);have ltv:tv.length=Ts.length:=by rw [dL.length];unfold dI;rw [aa]
 have hne:tv≠[]:=fun z=>by
  obtain ⟨t,ht,_⟩:=holdA t0 tok0.2.2;rw [z] at ltv;rw [jg.mp ltv.symm] at ht;cases ht
 have nm1:=N.m1;have rdyT:∀ t∈Ts,Rdy b t sp:=fun t ht=>N.rdy (by have:=(tabs t ht).1;lia)
 have getT:∀ (i:Nat) x,tv[i]? =some x→∃ qx,x= .ref qx∧H2 qx=some (.tup ((Ts.getD i []).map V.int))∧Ts.getD i []∈Ts:=fun i x hx=>by
  have hi:i<Ts.length:=by rw [←ltv];exact (aq.mp hx).1
  obtain ⟨d,ed,dx⟩:=dL.get hx;unfold dI at ed;rw [az,gE hi] at ed;cases ed;obtain ⟨qx,xs,rfl,hqx,rx⟩:=dx.tup_of;have:=rx.ints_of;subst this;have e:Ts.getD i []=Ts[i]:=by rw [ai,gE hi];rfl
  rw [e];exact ⟨qx,rfl,hqx,bH hi⟩
 obtain ⟨qs3,eu3⟩:=hT32.tbl;refine ⟨L,tv,fun i=>gq b (Ts.getD i []) sp,rfl,hL,hne,hT32,fun i x hx H3 tb=>?_,fun H4 i x tb4 hT34 hx mini=>?_⟩
 ·obtain ⟨qx,rfl,hqx,memx⟩:=getT i x hx
  have nqx:qx≠T3:=fH hqx eu3 nofun;refine ⟨_,rfl,_,rfl,v,qx,b,m,sp,_,rfl,cB (fun a xs e=>tb _ _ (fH e eu3 nofun) e) hv2,tb _ _ nqx hqx,rdyT _ memx,N.ws,fun H' S'=>⟨S',rfl⟩⟩
 obtain ⟨qx,rfl,hqx,memx⟩:=getT i x hx;obtain ⟨ts,ets⟩:∃ ts,ts=Ts.getD i []:=⟨_,rfl⟩;have mini:∀ j,j<tv.length→gq b (Ts.getD i []) sp≤gq b (Ts.getD j []) sp:=mini;rw [←ets] at hqx memx mini;have tok:=tabs ts memx;have kp4:Kp H2 H4:=⟨fun a xs e=>tb4 _ _ (fH e eu3 nofun) e,fun a xs e=>tb4 _ _ (fH e eu3 nofun) e⟩;have least:∀ T',jB b T' sp=true→gq b ts sp≤gq b T' sp:=fun T' hT'=>by
  obtain ⟨t',ht',el⟩:=holdA T' hT';rw [←wait_same (lay_all N ff (tabs t' ht').2.2 hT' el)];obtain ⟨j,hj,rfl⟩:=List.mem_iff_getElem.mp ht';have:=mini j (by lia);have e:Ts.getD j []=Ts[j]:=by rw [ai,gE hj];rfl
  rw [e] at this;exact this
 have fz4:∀ a o u,H2 a=some (.frz o u)→H4 a=some (.frz o u):=fun a o u e=>tb4 _ _ (fH e eu3 nofun) e
 have hT04:L2.LamT T0 p0 q0 H4:=LamT.stayF hT02 (fun ps e=>tb4 _ _ (bX m0) e) fz4;have hT14:L2.LamT T1 p1 q1 H4:=LamT.stayF hT12 (fun ps e=>tb4 _ _ (bX m1) e) fz4;have hT24:L2.LamT T2 lpT lqT H4:=LamT.stayF hT22 (fun ps e=>tb4 _ _ (bX m2) e) fz4;have hv4:=cB kp4.tup hv2;have hqx4:=kp4.tup _ _ hqx;refine ⟨_,rfl,_,rfl,v,qx,b,m,sp,ts,rfl,hv4,hqx4,rdyT ts memx,N.ws,fun H5 S5=>?_⟩;obtain ⟨w0,ew0⟩:∃ w0,w0=gq b ts sp:=⟨_,rfl⟩;rw [←ew0];refine ⟨_,rfl,v,b,m,sp,rfl,hv4.same S5,N,LamT.same S5 hT04,fun u6 rl l6 rg6 H6 tb6 hT06 fr6 hu6 dl6 R6=>?_⟩;have hT05:=LamT.same S5 hT04;obtain ⟨qs5,eu5⟩:=LamT.tbl hT05;have kp6:Kp H5 H6:=Tb.kp hT05 tb6;have fz6:∀ a o u,H5 a=some (.frz o u)→H6 a=some (.frz o u):=fun a o u e=>tb6 _ _ (fH e eu5 nofun) e
 have hT16:L2.LamT T1 p1 q1 H6:=LamT.stayF (LamT.same S5 hT14) (fun ps e=>tb6 _ _ (bX ne) e) fz6;have hT26:L2.LamT T2 lpT lqT H6:=LamT.stayF (LamT.same S5 hT24) (fun ps e=>tb6 _ _ n2 e) fz6;have hT36:L2.LamG T3 lqB H6:=(hT34.same S5).stay (fun ps e=>tb6 _ _ m0 e) fz6;have hv6:=cB kp6.tup (hv4.same S5);have hqx6:=kp6.tup _ _ (S5 _ _ hqx4);refine ⟨_,rfl,_,rfl,_,rfl,hT36,fun g cl' H7 tb7 hT37 LF LE=>⟨cl',[v,.ref u6,.int w0],LE,rfl,fun fz C0 N0=>?_⟩⟩;obtain ⟨qs6,eu6⟩:=hT36.tbl;have fz7:∀ a o u,H6 a=some (.frz o u)→H7 a=some (.frz o u):=fun a o u e=>tb7 _ _ (fH e eu6 nofun) e
 have kp7:Kp H6 H7:=⟨fun a xs e=>tb7 _ _ (fH e eu6 nofun) e,fun a xs e=>tb7 _ _ (fH e eu6 nofun) e⟩;have SP:=oV N0;have hT08:L2.LamT T0 p0 q0 (ptF H7 fz):=LamT.same SP (LamT.stayF hT06 (fun ps e=>tb7 _ _ (bX m0) e) fz7);have hT18:L2.LamT T1 p1 q1 (ptF H7 fz):=LamT.same SP (LamT.stayF hT16 (fun ps e=>tb7 _ _ (bX m1) e) fz7);have hT28:L2.LamT T2 lpT lqT (ptF H7 fz):=LamT.same SP (LamT.stayF hT26 (fun ps e=>tb7 _ _ (bX m2) e) fz7);have hT38:L2.LamG T3 lqB (ptF H7 fz):=hT37.same SP;have LF:LamF lqB laB lbB lsB cl' g H7:=LF;have LF8:=LF.same SP;have hv8:=(cB kp7.tup hv6).same SP;have hu8:ptF H7 fz u6=some (.lst rl):=SP _ _ (kp7.lst _ _ hu6);have dl8:IsDs (ptF H7 fz) rl (rg6.map wayQ):=(wayQ_kp kp7 dl6).same SP;obtain ⟨qs8,eu8⟩:=LamT.tbl hT08;obtain ⟨qt8,ev8⟩:=LamT.tbl hT18;have nm2:=N.m2;have LM:LmOk P w K mg base 6 g (StayT T0 T1 (ptF H7 fz)) (oQ v b m sp (RBest b sp w0)):=by
  refine LmOk.imp2 (sp':=fun vs Hx Qx E=>(Hx u6=some (.lst rl)∧IsDs Hx rl (rg6.map wayQ))∧oQ v b m sp (RBest b sp w0) vs Hx Qx E) (lam_run (k:=5) (q:=lqB) (params:=laB) (body:=lbB) (scope:=lsB) (cl:=cl') (fz:=fz) (x := "case") (fr:=["net","rings","wait"]) (ws:=[v,.ref u6,.int w0]) (fun _ _ _ _=>rfl) rfl rfl rfl (by trivial) rfl (by decide) C0 (fun y hy hf=>?_) (by trivial) (fun L' cd A' outer' s' H' hr'=>pc1 G4 F4 hr' (ae (pv 1) (ae (pv 2) (ae (pv 3) (ae (pv 0) aB))))) (fun v' Hx Qx _ Zx hsp=>?_)) (fun Hx st=>?_) fun v' Hx Qx st hsp=>⟨⟨?_,?_⟩,hsp⟩
  ·have e:y.1 = "net" ∨y.1 = "rings" ∨y.1 = "wait" := (by trivial:∀ y:Str×cN,y∈lsB.names→y.2=cN.free→y.1 = "net" ∨y.1 = "rings" ∨y.1 = "wait") y hy hf
   rcases e with e | e | e
   ·obtain ⟨cc,_,_,ec,_⟩:=C0.val 0 "net" v rfl rfl
    exact ⟨cc,by rw [e];exact ec⟩
   ·obtain ⟨cc,_,_,ec,_⟩:=C0.val 1 "rings" (.ref u6) rfl rfl
    exact ⟨cc,by rw [e];exact ec⟩
   ·obtain ⟨cc,_,_,ec,_⟩:=C0.val 2 "wait" (.int w0) rfl rfl
    exact ⟨cc,by rw [e];exact ec⟩
  ·obtain ⟨⟨hux,dlx⟩,l2,rg2,q2,c2,e2,R2,cd2,ok2,hvx,kk⟩:=hsp
   cases e2;have KX:=ctF_kp Zx;have el:l2=l6:=FrstL.one R2.fr R6.fr;subst el;have f6:=R6.ff N;have f2:=R2.ff N;refine ⟨_,rfl,_,rfl,_,rfl,_,rfl,v,u6,q2,w0,b,m,sp,l2,rg6,rg2,c2,rl,rfl,cB KX.tup hvx,N,R6,R2,KX.lst _ _ hux,wayQ_kp KX dlx,cd2.kp KX,ok2,fun r H' S' ans fr'=>?_⟩;refine kk r _ (ptF_back Zx S') ?_
   rcases ans with ⟨d,dd,dw,rb⟩ | ⟨rfl,al,lt⟩
   ·exact .inl ⟨d,IsD.keepP (Same.tupK (oV fr')) dd dw.1,dw,rb⟩
   ·refine .inr ⟨rfl,al,fm fun nz=>?_⟩
    have ht2:=f2.acy.nodup.2;have fix:∀ j∈l2,(c2.1.getD j (0,0)).1=(c2.1.getD j (0,0)).2:=fun j hj=>by
     have h1:=(ok2.ob.lo j (ht2 j hj)).2.1;have h2:¬ ((c2.1.getD j (0,0)).1<(c2.1.getD j (0,0)).2):=fun z=>nz ⟨j,hj,z⟩
     lia
    obtain ⟨ts',hf',hw'⟩:=price_tight N f6 ok2.ob (fx_other N f6 f2 ok2.ob ⟨fix,ok2.all al⟩);have:=least ts' hf';lia
  ·have fz':∀ a o u,ptF H7 fz a=some (.frz o u)→Hx a=some (.frz o u):=fun a o u e=>st a _ (fH e eu8 nofun) (fH e ev8 nofun) e
   obtain ⟨pm,cd,ct,e,oc,vs,t,ec,r⟩:=LF8;exact ⟨⟨pm,cd,ct,fz' _ _ _ e,oc,vs,t,fz' _ _ _ ec,r⟩,fun a o z=>fz' _ _ _ (pR z)⟩
  ·exact st _ _ (fH hu8 eu8 nofun) (fH hu8 ev8 nofun) hu8
  ·exact IsDs.keepP (fun a xs e=>st _ _ (fH e eu8 nofun) (fH e ev8 nofun) e) dl8 (k4 rg6 fun q _=>mE _ _)
 refine ⟨v,g,b,m,sp,RBest b sp w0,rfl,hv8,N,hc,hT08,hT18,LM,fun u t H9 st9 kp9 hT09 hT19 du plu gd Z9=>?_⟩;have KC:=ctF_kp Z9;have fz9:∀ a o u,ptF H7 fz a=some (.frz o u)→H9 a=some (.frz o u):=fun a o u e=>st9 _ _ (fH e eu8 nofun) (fH e ev8 nofun) e
 have hT29:L2.LamT T2 lpT lqT H9:=LamT.stayF hT28 (fun ps e=>st9 _ _ n2 n3 e) fz9;have hT39:L2.LamG T3 lqB H9:=hT38.stay (fun ps e=>st9 _ _ m0 m1 e) fz9;refine ⟨szZ4,fun qa HA SA hA=>?_⟩;have kpA:Kp H HA:=kp1.trans (kp2.trans (kp4.trans ((Same.kp S5).trans (kp6.trans (kp7.trans ((Same.kp SP).trans (kp9.trans (KC.trans (Same.kp SA)))))))));have hqxA:HA qx=some (.tup (ts.map V.int)):=SA _ _ (KC.tup _ _ (kp9.tup _ _ (SP _ _ (kp7.tup _ _ hqx6))));refine k qa HA kpA (LamT.same SA (LamT.cutF Z9 C0.cell hT09)) (LamT.same SA (LamT.cutF Z9 C0.cell hT19)) (LamT.same SA (LamT.cutF Z9 C0.cell hT29)) ((LamG.cutF Z9 C0.cell hT39).same SA) (.inr ⟨qx,ts,u,t,?_,hqxA,tok,least,(IsD.keepP KC.tup du plu).same SA,plu,?_⟩)
 ·rw [←ew0];exact hA
 ·rw [←ew0];exact gd
def prI (p:Int×Int):List Int:=[p.1,p.2]
inductive spLeafH (R:Int→List Sn→List (Int×Int)→Dt→Prop)(vs:List V)(H:Hp)(Q:VK)(_:XK):Prop
 | mk (v u:V)(B:ao)(bv:List V)(b m:Int)(sp:List Sn)(bs:List (Int×Int))(d:Dt)(_:vs=[v,.ref B,u])(_:IsD H v (ka b m sp))(_:NetT b m sp)(_:H B=some (.lst bv))(_:IsDs H bv (dI prI bs))(_:bs.length=sp.length)(_:IsD H u d)(_:l3 d)(_:R b sp bs d)(_:∀ (L:ao) (H':Hp),Same H H'→H' L=some (.lst [])→Q (.ref L) H')
def spWalkH (R:Int→List Sn→List (Int×Int)→Dt→Prop):Nat→Sp
 | 0=>fun _ _ _ _=>False
 | dd+1=>fun vs H Q _=>∃ (v u:V) (B:ao) (bv:List V) (b m:Int) (sp:List Sn) (bs:List (Int×Int)) (t:Tq) (de:Int),vs=[v,.ref B,u,.int de]∧IsD H v (ka b m sp)∧NetT b m sp∧H B=some (.lst bv)∧IsDs H bv (dI prI bs)∧bs.length=sp.length∧IsD H u (jx t)∧(∀ d,Mrk.leaf d∈pre t→l3 d)∧qw (R b sp) t bs dd∧0≤de∧de+dd≤100 ∧
  ∀ (L:ao) (H':Hp),Same H H'→H' L=some (.lst [])→Q (.ref L) H'
theorem pl_preH:∀ (t:Tq),(∀ d,Mrk.leaf d∈pre t→l3 d)→pl (jx t)=true
 | .leaf d,h=>(h d (by simp [pre])).1
 | .cut k a x y,h=>pl_cut (pl_preH x fun d hd=>h d (by simp [pre,hd])) (pl_preH y fun d hd=>h d (by simp [pre,hd]))
abbrev sWholeH:cV:=top 59
abbrev sLeafH:cV:=top 63
abbrev sWalkH:cV:=top 64
theorem scWholeH:cp pzn pzn (defScope sWholeH):=by trivial
theorem ok_wholeH (F:Fun K "_law_is_whole" "_law_is_whole" sWholeH f fd)(T:Nm mg):dv P w K mg base CX0 1 f fd pzn spWholeL:=by
 refine F.ok scWholeH (by contradiction) (fun cdv A outer s H vs Q E hr h=>?_);obtain ⟨i,rfl,k⟩:=h;refine ⟨_,PSl.h (dH ⟨(cx (pe_and (pe_isInt T (pv 0)) (pe_one (pe_not (pe_isBool T (pv 0))))))⟩),?_⟩;exact ⟨_,rfl,_,_,rfl,(IsD.int i).tyn,_,rfl,iteT ⟨_,rfl,_,_,rfl,(IsD.int i).tyn,_,rfl,k⟩⟩
theorem lP:cp ["_law_net_here","_law_bounds","_law_tree","_law_deep","_law_low","_law_high","_law_ahead","_law_behind","_law_one","_law_other"] pzv (defScope sWalkH):=by trivial
theorem ok_walkH {R:Int→List Sn→List (Int×Int)→Dt→Prop}{f1 f2 f3:ao}{fd1 fd2 fd3:bw}(T:Nm mg)
  (G1:Fn K mg "_law_leaf" sLeafH pzw f1 fd1) (F1:dv P w K mg base CX0 3 f1 fd1 pzw (spLeafH R))
  (G2:Fn K mg "_law_is_whole" sWholeH pzn f2 fd2) (G3:Fn K mg "_law_walked" sWalkH pzv f3 fd3) :
  ∀ dd,dv P w K mg base CX0 (3+dd) f3 fd3 pzv (spWalkH R dd)
 | 0=>G3.F.ok lP (fun vs H Q E h=>h.elim) (fun cdv A outer s H vs Q E hr h=>h.elim)
 | dd+1=>by
  have F2:dv P w K mg base CX0 1 f2 fd2 pzn spWholeL:=ok_wholeH G2.F T;have F3:=ok_walkH T G1 F1 G2 G3 dd;refine G3.F.ok (k:=3+dd) lP (by contradiction) (fun cdv A outer s H vs Q E hr h=>?_);obtain ⟨v,u,B,bv,b,m,sp,bs,t,de,rfl,hv,N,hB,dB,lb,du,lw,gt,de0,de1,k⟩:=h;have hr1:Room 1 _:=hr.mono (by lia);have hr3:Room 3 _:=hr.mono (by lia);refine ⟨_,PSl.h (aU ⟨(gR (PW.pt (mj (ky (kx (nh T (pv 2)))) (mj (cG pW (cM cg rfl T.len bP (ae (pv 2) aB)) bg (dg _)) (lT (cG op_gt (pv 3) bg (dg _)))))) (cO (cx jL)) d7)⟩
  (aU ⟨(gR (cG oE (ixZ (pv 2)) kA (dg _)) (cO (cx (pc1 G1 F1 hr3 (ae (pv 0) (ae (pv 1) (ae (pv 2) aB)))))) d7)⟩
  (aU ⟨(gR (PW.pt (mj (cG oE (cM cg rfl T.len bP (ae (pv 2) aB)) bg (dg _)) (mj (ky (kx (pc1 G2 F2 hr1 (ae (ixZ (pv 2)) aB)))) (lT (ky (kx (pc1 G2 F2 hr1 (ae (ixZ (pv 2)) aB)))))))) (cO (cx jL)) d7)⟩
  (aU ⟨(gR (ky (pt_chain op_le pW bg (ixZ (pv 2)) (cM cg rfl T.len bP (ae (pv 1) aB)))) (cO (cx jL)) d7)⟩
  (aU ⟨(om (dN eE (pv 1) (ixZ (pv 2)) (fun _ _=>rfl)) (ng rfl (fJ (cY (i:=4) lP.nd rfl (.inl rfl)) (fJ (cY (i:=5) lP.nd rfl (.inl rfl)) k5))))⟩
  (aU ⟨(gR (ky (pt_chain op_le pW (pv 4) (ixZ (pv 2)) (pv 5))) (cO (cx jL)) d7)⟩
  (aU ⟨(bC (i:=6) lP.nd rfl (.inl rfl) (l9 sl_listA (pv 1) oa (nZ (ixZ (pv 2)))))⟩
  (aU ⟨(bC (i:=7) lP.nd rfl (.inl rfl) (l9 sl_listA (pv 1) (nZ (b9 eh (ixZ (pv 2)) bg)) oa))⟩
  (aU ⟨(bC (i:=8) lP.nd rfl (.inl rfl) (pc1 G3 F3 hr (ae (pv 0) (ae (b9 og (b9 og (pv 6) (pV (ae (d8 (ae (pv 4) (ae (ixZ (pv 2)) aB))) aB))) (pv 7)) (ae (ixZ (pv 2)) (ae (b9 eh (pv 3) bg) aB))))))⟩
  (aU ⟨(bC (i:=9) lP.nd rfl (.inl rfl) (pc1 G3 F3 hr (ae (pv 0) (ae (b9 og (b9 og (pv 6) (pV (ae (d8 (ae (b9 eh (ixZ (pv 2)) bg) (ae (pv 5) aB))) aB))) (pv 7)) (ae (ixZ (pv 2)) (ae (b9 eh (pv 3) bg) aB))))))⟩
  (aU ⟨(gR (PW.pt (mj (cG op_isN (pv 8) jL (dg _)) (lT (cG op_isN (pv 9) jL (dg _))))) (cO (cx jL)) d7)⟩
  (dH ⟨(cx (b9 og (pv 8) (pv 9)))⟩)))))))))))),?_⟩
  have lbv:bv.length=bs.length:=by rw [dB.length];unfold dI;rw [aa]
  have nfew:=N.few;cases t with
  | leaf d =>
   have gd:R b sp bs d:=by cases dd <;> exact gt
   have lwd:=lw d (by simp [pre]);obtain ⟨_,w1,x1,ed,nw⟩:=id lwd;have du:IsD H u d:=du;have du0:=du;rw [ed] at du0;obtain ⟨q,xs,rfl,hq,rq⟩:=IsD.tup_of du0;obtain ⟨y1,y2,rfl⟩:∃ y1 y2,xs=[y1,y2]:=by
    cases rq with
    | cons a rq=>cases rq with
     | cons b rq=>cases rq;exact ⟨_,_,rfl⟩
   have e1:y1= .str w1:=by
    cases rq with
    | cons a rq=>cases a;rfl
   subst e1;refine ⟨_,rfl,_,_,rfl,du0.tyn,_,rfl,ke rfl ?_⟩;refine ⟨_,rfl,q,_,rfl,.inr (SqT.of hq),_,_,rfl,rfl,_,rfl,ke (rh (by show ¬ ((2:Nat):Int)<2;lia)) ?_⟩;refine ⟨_,rfl,_,_,rfl,rfl,_,rfl,ke (rh (by lia)) ?_⟩;refine ⟨_,rfl,q,_,_,_,rfl,rfl,SqT.of hq,aJ (j:=0) rfl,rfl,_,rfl,iteB (by rw [rh (fun z=>nw (by injection z))];rfl) ?_⟩;exact ⟨_,rfl,_,rfl,_,rfl,v,.ref q,B,bv,b,m,sp,bs,d,rfl,hv,N,hB,dB,lb,du,lwd,gd,k⟩
  | cut kc ac x y =>
   cases dd with
   | zero=>exact gt.elim
   | succ n =>
   obtain ⟨hk,h1,h2,gx,gy⟩:=gt;have lwx:∀ d,Mrk.leaf d∈pre x→l3 d:=fun d hd=>lw d (by simp [pre,hd])
   have lwy:∀ d,Mrk.leaf d∈pre y→l3 d:=fun d hd=>lw d (by simp [pre,hd])
   have px:=pl_preH x lwx;have py:=pl_preH y lwy;have du:IsD H u (.tup [.str "cut",.int (kc:Nat),.int ac,jx x,jx y]):=du;obtain ⟨q,xs,rfl,hq,rq⟩:=IsD.tup_of du;obtain ⟨vx,vy,rfl,dx,dy⟩:∃ vx vy,xs=[.str "cut",.int (kc:Nat),.int ac,vx,vy]∧IsD H vx (jx x)∧IsD H vy (jx y):=by
    cases rq with
    | cons a rq=>cases a;cases rq with
     | cons a rq=>cases a;cases rq with
      | cons a rq=>cases a;cases rq with
       | cons dx rq=>cases rq with
        | cons dy rq=>cases rq;exact ⟨_,_,rfl,dx,dy⟩
   have eb:bs.getD kc (0,0)=bs[kc]:=by rw [ai,gE hk];rfl
   obtain ⟨vk,hvk,dk⟩:=dB.at (i:=kc) (d:= .tup ((prI bs[kc]).map Dt.int)) (by unfold dI;rw [az,gE hk];rfl);obtain ⟨qk,ks,rfl,hqk,rk⟩:=IsD.tup_of dk;obtain rfl:ks=(prI bs[kc]).map V.int:=rk.ints_of;refine ⟨_,rfl,_,_,rfl,du.tyn,_,rfl,ke rfl ?_⟩;refine ⟨_,rfl,q,_,rfl,.inr (SqT.of hq),_,_,rfl,rfl,_,rfl,ke (rh (by show ¬ ((5:Nat):Int)<2;lia)) ?_⟩;refine ⟨_,rfl,_,_,rfl,rfl,_,rfl,ke (rh (by lia)) ?_⟩;refine ⟨_,rfl,q,_,_,_,rfl,rfl,SqT.of hq,aJ (j:=0) rfl,rfl,_,rfl,ke rfl ?_⟩;refine ⟨_,rfl,q,_,rfl,.inr (SqT.of hq),rfl,_,rfl,ke rfl ?_⟩;refine ⟨_,rfl,q,_,_,_,rfl,rfl,SqT.of hq,aJ (j:=1) rfl,_,rfl,_,rfl,ke rfl ?_⟩;refine ⟨_,rfl,q,_,_,_,rfl,rfl,SqT.of hq,aJ (j:=2) rfl,_,rfl,_,rfl,ke rfl ?_⟩;refine ⟨_,rfl,q,_,_,_,rfl,rfl,SqT.of hq,aJ (j:=1) rfl,_,_,rfl,rfl,_,rfl,iteB (rf (by lia)) ?_⟩;refine ⟨_,rfl,B,_,rfl,.inl (SqL.of hB),_,_,rfl,rfl,_,rfl,ke (by rw [rf (show ((kc:Nat):Int)<(bv.length:Int) by lia)];rfl) ?_⟩;refine ⟨_,rfl,_,rfl,q,_,_,_,rfl,rfl,SqT.of hq,aJ (j:=1) rfl,B,_,_,_,rfl,rfl,SqL.of hB,aJ (j:=kc) hvk,qk,_,rfl,SqT.of hqk,rfl,_,_,rfl,_,_,rfl,rfl,?_⟩;rw [eb] at h1 h2;refine ⟨_,rfl,_,rfl,q,_,_,_,rfl,rfl,SqT.of hq,aJ (j:=2) rfl,_,_,rfl,rfl,_,rfl,iteB (rf h1) ?_⟩;refine ⟨_,rfl,_,_,rfl,rfl,_,rfl,ke (by rw [rf (show ac<bs[kc].2 from h2)];rfl) ?_⟩;refine ⟨_,rfl,_,rfl,q,_,_,_,rfl,rfl,SqT.of hq,aJ (j:=1) rfl,_,rfl,B,_,rfl,SqL.of hB,fun A1 H1 S1 hA1=>?_⟩;rw [cutU rfl] at hA1;refine ⟨_,rfl,_,rfl,q,_,_,_,rfl,rfl,SqT.of (S1 _ _ hq),aJ (j:=1) rfl,_,_,rfl,rfl,_,rfl,B,_,rfl,SqL.of (S1 _ _ hB),fun A2 H2 S2 hA2=>?_⟩;rw [cutF (n:=kc+1) (by lia)] at hA2;have S02:=S1.trans S2;have hA1:=S2 _ _ hA1;clear S1 S2;have half:∀ (p:Int×Int) (Hc:Hp) (C:ao) (qp:ao),Same H Hc→Hc qp=some (.tup ((prI p).map V.int))→IsDs Hc (bv.take kc++[.ref qp]++bv.drop (kc+1)) (dI prI (bs.set kc p)):=by
    intro p Hc C qp Sc hqp;have e:bs.set kc p=bs.take kc++[p]++bs.drop (kc+1):=by rw [oJ,q9 hk];simp
    rw [e];have d:=dB.same Sc;unfold dI at d ⊢;rw [ay,ay,jV,jW];exact ((IsDs.takeN kc d).append (.cons (.tup hqp (IsDs.ints (prI p))) .nil)).append (IsDs.dropN (kc+1) d)
   have lt1:(bv.take kc).length≤40:=by rw [bG];lia
   have lt2:(bv.drop (kc+1)).length≤40:=by rw [dW];lia
   refine ⟨_,rfl,_,rfl,_,rfl,_,rfl,q,_,_,_,rfl,rfl,SqT.of (S02 _ _ hq),aJ (j:=2) rfl,mU,fun qp H3 S3 hqp=>⟨szZ1,fun L1 H4 S4 hL1=>?_⟩⟩;refine ⟨A1,L1,_,_,rfl,rfl,S4 _ _ (S3 _ _ hA1),hL1,eG (by show (bv.take kc).length+1≤1000;lia),fun C1 H5 S5 hC1=>?_⟩;have S25:=S3.trans (S4.trans S5);refine ⟨_,rfl,C1,A2,_,_,rfl,rfl,hC1,S25 _ _ hA2,eG (by rw [av];show (bv.take kc).length+1+(bv.drop (kc+1)).length≤1000;lia),fun C2 H6 S6 hC2=>?_⟩;have S06:=S02.trans (S25.trans S6);refine ⟨_,rfl,q,_,_,_,rfl,rfl,SqT.of (S06 _ _ hq),aJ (j:=3) rfl,_,rfl,_,_,rfl,rfl,?_⟩;refine ⟨v,vx,C2,_,b,m,sp,bs.set kc (bs[kc].1,ac),x,de+1,rfl,hv.same S06,N,hC2,half _ _ C2 qp S06 (S6 _ _ (S5 _ _ (S4 _ _ hqp))),by rw [fT];exact lb,dx.same S06,lwx,by unfold lL at gx;rw [eb] at gx;exact gx,by lia,by lia,fun La H7 S7 hLa=>?_⟩;have S07:=S06.trans S7;have S27:=(S25.trans S6).trans S7;clear S25 S3 S4 S5 hC1 hL1 hqp hC2;refine ⟨_,rfl,_,rfl,_,rfl,q,_,_,_,rfl,rfl,SqT.of (S07 _ _ hq),aJ (j:=2) rfl,_,_,rfl,rfl,_,rfl,mU,fun qp H3 S3 hqp=>⟨szZ1,fun L1 H4 S4 hL1=>?_⟩⟩;refine ⟨A1,L1,_,_,rfl,rfl,S4 _ _ (S3 _ _ (S27 _ _ hA1)),hL1,eG (by show (bv.take kc).length+1≤1000;lia),fun C1 H5 S5 hC1=>?_⟩;have S25:=S3.trans (S4.trans S5);refine ⟨_,rfl,C1,A2,_,_,rfl,rfl,hC1,S25 _ _ (S27 _ _ hA2),eG (by rw [av];show (bv.take kc).length+1+(bv.drop (kc+1)).length≤1000;lia),fun C3 H8 S8 hC3=>?_⟩;have S78:=S25.trans S8;have S08:=S07.trans S78;refine ⟨_,rfl,q,_,_,_,rfl,rfl,SqT.of (S08 _ _ hq),aJ (j:=4) rfl,_,rfl,_,_,rfl,rfl,?_⟩;refine ⟨v,vy,C3,_,b,m,sp,bs.set kc (ac+1,bs[kc].2),y,de+1,rfl,hv.same S08,N,hC3,half _ _ C3 qp S08 (S8 _ _ (S5 _ _ (S4 _ _ hqp))),by rw [fT];exact lb,dy.same S08,lwy,by unfold fA at gy;rw [eb] at gy;exact gy,by lia,by lia,fun Lb H9 S9 hLb=>?_⟩;refine ⟨_,rfl,rfl,_,rfl,ke (rh nofun) ?_⟩;refine ⟨_,rfl,rfl,_,rfl,ke (rh nofun) ?_⟩;refine ⟨_,rfl,_,rfl,La,Lb,_,_,rfl,rfl,S9 _ _ (S78 _ _ hLa),hLb,bF _,fun Lc HA SA hLc=>?_⟩;exact k Lc HA (S08.trans (S9.trans SA)) hLc
abbrev sBeatsH:cV:=top 61
abbrev sShownH:cV:=top 65
inductive spBeatsH (vs:List V)(H:Hp)(Q:VK)(_:XK):Prop
 | mk (v r:V)(B:ao)(bv:List V)(b m:Int)(sp:List Sn)(bs:List (Int×Int))(ws:List Stp)(_:vs=[v,.ref B,r])(_:IsD H v (ka b m sp))(_:0<b)(_:b<10 ^ 61)(_:H B=some (.lst bv))(_:IsDs H bv (dI prI bs))(_:IsD H r (mS ws))(_:qo bs.length ws)(_:∀ (q:ao) (H':Hp),Same H H'→H' q=some (.tup [.int (upB b (fh bs ws)),.int (gM bs ws / b)])→Q (.ref q) H')
inductive spShownH (R:Int→List Sn→List (Int×Int)→Dt→Prop)(vs:List V)(H:Hp)(Q:VK)(_:XK):Prop
 | mk (v u:V)(b m:Int)(sp:List Sn)(t:Tq)(_:vs=[v,u])(_:IsD H v (ka b m sp))(_:NetT b m sp)(_:IsD H u (jx t))(_:(∀ d,Mrk.leaf d∈pre t→l3 d))(_:qw (R b sp) t (sp.map fun z=>(z.l,z.o)) 21)(_:∀ (L:ao) (H':Hp),Same H H'→H' L=some (.lst [])→Q (.ref L) H')
theorem kl:cp ["_law_net_here","_law_bounds","_law_ring","_law_low","_law_high","_law_span_here","_law_way","_law_pair"] pzJ (defScope sBeatsH):=by trivial
theorem ok_beatsH (F:Fun K "_law_beats" "_law_beats" sBeatsH f fd):dv P w K mg base CX0 1 f fd pzJ spBeatsH:=by
 refine F.ok kl (by contradiction) (fun cdv A outer s H vs Q E hr h=>?_);obtain ⟨v,r,B,bv,b,m,sp,bs,ws,rfl,hv,b0,b1,hB,dB,hw,hin,k⟩:=h;obtain ⟨t,p,ys,rfl,ht,hp,hl,hy⟩:=fR hv;obtain ⟨pw,yw,rfl,hpw,hlw,rw'⟩:=iG hw;refine ⟨_,PSl.h (aU ⟨(bC (i:=3) kl.nd rfl (.inl rfl) bg)⟩
  (aU ⟨(bC (i:=4) kl.nd rfl (.inl rfl) bg)⟩
  (aU ⟨(iC bL rfl (j8 (pv 2)) (ng rfl (fJ (cY (i:=5) kl.nd rfl (.inl rfl)) (fJ (cY (i:=6) kl.nd rfl (.inl rfl)) k5))) (PSl.h (aU ⟨(bC (i:=7) kl.nd rfl (.inl rfl) (pe_turn (dN eE (pv 1) (pv 5) (fun _ _=>rfl)) (pv 6)))⟩
  (aU ⟨(bC (i:=3) kl.nd rfl (.inl rfl) (b9 eh (pv 3) (b9 jA (pv 6) (ixZ (pv 7)))))⟩
  (dH ⟨(bC (i:=4) kl.nd rfl (.inl rfl) (b9 eh (pv 4) (b9 jA (pv 6) (ixZ (pv 7)))))⟩)))))⟩
  (dH ⟨(cx (d8 (ae (oB lG (b9 nk (oB lG (pv 3)) (ixZ (pv 0)))) (ae (b9 nk (pv 4) (ixZ (pv 0))) aB))))⟩)))),?_⟩
 refine ⟨_,rfl,pw,rfl,⟨_,SqT.of hpw⟩,?_⟩;refine mM (K:=K) (xs:=yw) (fun i σ H2=>Same H H2∧∃ v5 v6 v7,σ=[some (.ref t),some (.ref B),some (.ref pw),some (.int (fh bs (ws.take i))),some (.int (gM bs (ws.take i))),v5,v6,v7]) ⟨Same.refl H,none,none,none,rfl⟩ (fun i σ H2 _ ⟨e1,_⟩=>SqT.of (e1 _ _ hpw)) ?_ ?_
 ·rintro i y σ H2 hy2 ⟨S2,v5,v6,v7,rfl⟩
  have hi:i<ws.length:=by rw [←hlw];exact (aq.mp hy2).1
  obtain ⟨q,hq,hq2⟩:=iQ rw' (gE hi);rw [hy2] at hq;cases hq;obtain ⟨i1,d1⟩:=hin ws[i] (bH hi);have hm1:fh bs (ws.take (i+1))=fh bs (ws.take i)+oG bs ws[i]:=by
   unfold fh;rw [bj,gE hi,ay,gB];simp
  have hm2:gM bs (ws.take (i+1))=gM bs (ws.take i)+kf bs ws[i]:=by
   unfold gM;rw [bj,gE hi,ay,gB];simp
  obtain ⟨vb,hvb,db⟩:=dB.at (i:=ws[i].i) (d:= .tup ((prI bs[ws[i].i]).map Dt.int)) (by unfold dI;rw [az,gE i1];rfl);obtain ⟨qb,kb,rfl,hqb,rkb⟩:=IsD.tup_of db;obtain rfl:kb=(prI bs[ws[i].i]).map V.int:=rkb.ints_of;refine ⟨q,_,rfl,SqT.of (S2 _ _ hq2),rfl,_,_,rfl,_,_,rfl,rfl,?_⟩;refine ⟨_,rfl,_,rfl,B,_,_,_,rfl,rfl,SqL.of (S2 _ _ hB),aJ (j:=ws[i].i) hvb,?_⟩;refine ⟨_,rfl,qb,_,ws[i].d,rfl,rfl,d1,S2 _ _ hqb,fun q3 H3 S3 h3=>?_⟩;generalize hW:ws[i]=W at *
  rcases d1 with d1 | d1
  ·rw [q9 d1] at h3
   refine ⟨_,rfl,_,rfl,_,rfl,q3,_,_,_,rfl,rfl,SqT.of h3,aJ (j:=0) rfl,_,_,rfl,rfl,.inl (by rw [d1];exact ⟨by decide,by decide⟩),_,_,rfl,rfl,?_⟩;refine ⟨_,rfl,_,rfl,_,rfl,q3,_,_,_,rfl,rfl,SqT.of h3,aJ (j:=1) rfl,_,_,rfl,rfl,.inl (by rw [d1];exact ⟨by decide,by decide⟩),_,_,rfl,rfl,S2.trans S3,some (.int (W.i:Nat)),some (.int W.d),some (.ref q3),?_⟩;have l1:oG bs W=W.d * bs[W.i].1:=by unfold oG;rw [gE i1];show (if W.d=1 then _ else _)=_;rw [q9 d1,d1,Int.one_mul]
   have l2:kf bs W=W.d * bs[W.i].2:=by unfold kf;rw [gE i1];show (if W.d=1 then _ else _)=_;rw [q9 d1,d1,Int.one_mul]
   rw [hm1,hm2,l1,l2];rfl
  ·have d2:W.d≠1:=by lia
   rw [qZ d2] at h3;refine ⟨_,rfl,_,rfl,_,rfl,q3,_,_,_,rfl,rfl,SqT.of h3,aJ (j:=0) rfl,_,_,rfl,rfl,.inl (by rw [d1];exact ⟨by decide,by decide⟩),_,_,rfl,rfl,?_⟩;refine ⟨_,rfl,_,rfl,_,rfl,q3,_,_,_,rfl,rfl,SqT.of h3,aJ (j:=1) rfl,_,_,rfl,rfl,.inl (by rw [d1];exact ⟨by decide,by decide⟩),_,_,rfl,rfl,S2.trans S3,some (.int (W.i:Nat)),some (.int W.d),some (.ref q3),?_⟩;have l1:oG bs W=W.d * bs[W.i].2:=by unfold oG;rw [gE i1];show (if W.d=1 then _ else _)=_;rw [qZ d2,d1];lia
   have l2:kf bs W=W.d * bs[W.i].1:=by unfold kf;rw [gE i1];show (if W.d=1 then _ else _)=_;rw [qZ d2,d1];lia
   rw [hm1,hm2,l1,l2];rfl
 ·rintro σ H2 ⟨S2,v5,v6,v7,rfl⟩
  rw [hlw,bc];refine ⟨_,rfl,_,rfl,_,rfl,t,_,_,_,rfl,rfl,SqT.of (S2 _ _ ht),aJ (j:=0) rfl,_,_,rfl,rfl,log_ok b0 b1,_,rfl,_,rfl,_,rfl,t,_,_,_,rfl,rfl,SqT.of (S2 _ _ ht),aJ (j:=0) rfl,_,_,rfl,rfl,log_ok b0 b1,mU,fun q H3 S3 h3=>?_⟩;exact k q H3 (S2.trans S3) h3
theorem scShownH:cp pzq pzq (defScope sShownH):=by trivial
theorem ok_shownH {R:Int→List Sn→List (Int×Int)→Dt→Prop}(F:Fun K "_law_shown" "_law_shown" sShownH f fd)(G1:Fn K mg "_law_walked" sWalkH pzv f1 fd1)(F1:dv P w K mg base CX0 25 f1 fd1 pzv (spWalkH R 22)):dv P w K mg base CX0 26 f fd pzq (spShownH R):=by
 refine F.ok scShownH (by contradiction) (fun cdv A outer s H vs Q E hr h=>?_);obtain ⟨v,u,b,m,sp,tr,rfl,hv,N,du,lw,gt,k⟩:=h;obtain ⟨t,p,ys,rfl,ht,hp,hl,hy⟩:=fR hv;have few:=N.few;refine ⟨_,PSl.h (dH ⟨(cx (pc1 G1 F1 hr (ae (pv 0) (ae (i7 (fr:=[]) (js:=[]) rfl (j8 (ixZ (pv 0))) (by trivial) rfl (by trivial) rfl (by exists sShownH) (by trivial) rfl (by trivial) (fun _ _ _ _ _=>⟨(d8 (ae (dN (r:=oU K) dQ (pv 0) bg (fun _ _=>rfl)) (ae (dN (r:=oU K) dQ (pv 0) bg (fun _ _=>rfl)) aB))),iH⟩)) (ae (pv 1) (ae bg aB))))))⟩),?_⟩;refine ⟨_,rfl,_,rfl,t,_,_,_,rfl,rfl,SqT.of ht,aJ (j:=2) rfl,p,rfl,⟨_,SqT.of hp⟩,?_⟩;refine lx (K:=K) (a:=p) (xs:=ys) (fun i zs H2=>Same H H2∧zs.length=i∧IsDs H2 zs (dI prI ((sp.take i).map fun z=>(z.l,z.o)))) ⟨Same.refl H,rfl,.nil⟩ (fun i zs H2 hi ⟨e1,e2,_⟩=>⟨SqT.of (e1 _ _ hp),by lia⟩) (by rw [hl];exact eG (by lia)) (fun i x zs H2 hx ⟨S2,e2,d2⟩=>?_) (fun zs H2 ⟨S2,e2,d2⟩ D hD=>?_)
 ·have hi:i<sp.length:=by rw [←hl];exact (aq.mp hx).1
  obtain ⟨q,hq,hq2⟩:=hy i sp[i] (gE hi);rw [hx] at hq;cases hq;refine gQ ?_;refine ⟨_,rfl,q,_,_,_,rfl,rfl,SqT.of (S2 _ _ hq2),aJ (j:=2) rfl,_,rfl,q,_,_,_,rfl,rfl,SqT.of (S2 _ _ hq2),aJ (j:=3) rfl,mU,fun q3 H3 S3 h3=>⟨S2.trans S3,by rw [av,e2];rfl,?_⟩⟩;rw [bj,gE hi,ay];unfold dI at d2 ⊢;rw [ay];exact (d2.same S3).append (.cons (.tup h3 (IsDs.ints [sp[i].l,sp[i].o])) .nil)
 ·rw [hl,bc] at d2
  have S3:Same H2 (upd H2 D (.lst zs)):=Same.put (Same.refl H2) hD;have h3:(upd H2 D (.lst zs)) D=some (.lst zs):=aS;generalize upd H2 D (.lst zs)=H3 at S3 h3 ⊢;have S03:=S2.trans S3;exact ⟨_,rfl,.ref t,u,D,zs,b,m,sp,_,tr,0,rfl,hv.same S03,N,h3,d2.same S3,by rw [aa],du.same S03,lw,gt,by decide,by decide,fun L H' S' h'=>k L H' (S03.trans S') h'⟩
abbrev sLed:cV:=top 60
theorem scLed:cp ["_law_net_here","_law_ring","_law_spots","_law_step","_law_ends","_law_k"] pzK (defScope sLed):=by trivial
theorem ok_led (F:Fun K "_law_led" "_law_led" sLed f fd)(T:Nm mg)(T2:Nt mg)(T3:N3 mg)(G1:Fn K mg "_law_is_whole" sWholeH pzn f1 fd1):dv P w K mg base CX0 2 f fd pzK spLed:=by
 have F1:dv P w K mg base CX0 1 f1 fd1 pzn spWholeL:=ok_wholeH G1.F T;refine F.ok scLed (by contradiction) (fun cdv A outer s H vs Q E hr h=>?_);obtain ⟨v,r,b,m,sp,ws,rfl,hv,sfew,hw,rg,k⟩:=h;obtain ⟨t,p,ys,rfl,ht,hp,hl,hy⟩:=fR hv;have dw:=hw;obtain ⟨pw,yw,rfl,hpw,hlw,rw'⟩:=iG hw;have two:=rg.two;have few:=rg.few;have hin:=rg.inn;refine ⟨_,PSl.h (aU ⟨(gR (PW.pt (mj (ky (kx (nh T (pv 1)))) (lT (cG pW (cM cg rfl T.len bP (ae (pv 1) aB)) bg (dg _))))) (cO (cx pe_bl)) d7)⟩
  (aU ⟨(bC (i:=2) scLed.nd rfl (.inl rfl) (iY aB))⟩
  (aU ⟨(iC bL rfl (j8 (pv 1)) (cY (i:=3) scLed.nd rfl (.inl rfl)) (PSl.h (aU ⟨(gR (PW.pt (mj (ky (kx (nh T (pv 3)))) (lT (cG oE (cM cg rfl T.len bP (ae (pv 3) aB)) bg (dg _))))) (cO (cx pe_bl)) d7)⟩
  (aU ⟨(gR (PW.pt (mj (ky (kx (pc1 G1 F1 hr (ae (ixZ (pv 3)) aB)))) (mj (ky (kx (pc1 G1 F1 hr (ae (ixZ (pv 3)) aB)))) (lT (cG ow (ixZ (pv 3)) (d8 (ae bg (ae (oB lG bg) aB))) rfl))))) (cO (cx pe_bl)) d7)⟩
  (aU ⟨(gR (ky (pt_chain op_le pW bg (ixZ (pv 3)) (cM cg rfl T.len bP (ae (ixZ (pv 0)) aB)))) (cO (cx pe_bl)) d7)⟩
  (aU ⟨(bC (i:=4) scLed.nd rfl (.inl rfl) (l9 sl_tupN (dN dQ (ixZ (pv 0)) (ixZ (pv 3)) (fun _ _=>rfl)) oa (nZ bg)))⟩
  (dH ⟨(ik (lH bp cu cq g9 (pv 2) (ae (pe_turn (pv 4) (ixZ (pv 3))) aB)))⟩)))))))⟩
  (aU ⟨(iC bL rfl (iJ rfl T2.range (ae (cM cg rfl T.len bP (ae (pv 2) aB)) aB)) (cY (i:=5) scLed.nd rfl (.inl rfl)) (cO (gR (cG oE (ixZ (dN eE (pv 2) (b9 gJ (pv 5) bg) (fun _ _=>rfl))) (ixZ (dN eE (pv 2) (pv 5) (fun _ _=>rfl))) (dg _)) (cO (cx pe_bl)) d7)))⟩
  (dH ⟨(cx (lU mm (cM call_lenS rfl T.len bP (ae (fG (call_setL rfl) rfl T3.tset boot_set (ae (i7 (fr:=[]) (js:=[]) rfl (j8 (pv 1)) (by trivial) rfl (by trivial) rfl (by exists sLed) (by trivial) rfl (by trivial) (fun _ _ _ _ _=>⟨(dN (r:=oU K) dQ (pv 0) bg (fun _ _=>rfl)),iH⟩)) aB)) aB)) (cM cg rfl T.len bP (ae (pv 1) aB)) (dg _)))⟩))))),?_⟩
 refine ⟨_,rfl,_,_,rfl,dw.tyn,_,rfl,ke rfl ?_⟩;refine ⟨_,rfl,pw,_,rfl,.inr (SqT.of hpw),_,_,rfl,rfl,_,rfl,ke (rh (by rw [hlw];omega)) ?_⟩;refine ⟨bF _,fun Ls hLs=>?_⟩;have S1:Same H (upd H Ls (.lst [])):=Same.put (Same.refl H) hLs;have h1:(upd H Ls (.lst [])) Ls=some (.lst []):=aS;generalize upd H Ls (.lst [])=H1 at S1 h1 ⊢;refine ⟨_,rfl,pw,rfl,⟨_,SqT.of (S1 _ _ hpw)⟩,?_⟩;refine mM (K:=K) (xs:=yw) (fun i σ H2=>Same H H2∧∃ (zs:List V) (v3 v4:Option V),σ=[some (.ref t),some (.ref pw),some (.ref Ls),v3,v4,none]∧H2 Ls=some (.lst zs)∧IsDs H2 zs (dI (ftS sp) (ws.take i))∧zs.length=i) ⟨S1,[],none,none,rfl,h1,.nil,rfl⟩ (fun i σ H2 _ ⟨e1,_⟩=>SqT.of (e1 _ _ hpw)) ?_ ?_
 ·rintro i y σ H2 hy2 ⟨S2,zs,v3,v4,rfl,hz,dz,lz⟩
  have hi:i<ws.length:=by rw [←hlw];exact (aq.mp hy2).1
  obtain ⟨q,hq,hq2⟩:=iQ rw' (gE hi);rw [hy2] at hq;cases hq;obtain ⟨i1,d1⟩:=hin ws[i] (bH hi);have hq2':H2 q=some (.tup [.int (ws[i].i:Nat),.int ws[i].d]):=S2 _ _ hq2;obtain ⟨qs,hqs,hqs2⟩:=hy ws[i].i sp[ws[i].i] (gE i1);refine ⟨_,rfl,_,_,rfl,(IsD.tup hq2' (.cons (.int _) (.cons (.int _) .nil))).tyn,_,rfl,ke rfl ?_⟩;refine ⟨_,rfl,q,_,rfl,.inr (SqT.of hq2'),rfl,_,rfl,ke rfl ?_⟩;refine ⟨_,rfl,q,_,_,_,rfl,rfl,SqT.of hq2',aJ (j:=0) rfl,_,rfl,_,rfl,ke rfl ?_⟩;refine ⟨_,rfl,q,_,_,_,rfl,rfl,SqT.of hq2',aJ (j:=1) rfl,_,rfl,_,rfl,ke rfl ?_⟩;refine ⟨_,rfl,q,_,_,_,rfl,rfl,SqT.of hq2',aJ (j:=1) rfl,_,rfl,mU,fun q3 H3 S3 h3=>?_⟩;refine ⟨q3,_,rfl,.inr (SqT.of h3),rfl,rfl,_,rfl,ke ?_ ?_⟩
  ·rcases d1 with e | e <;> rw [e] <;> decide
  have S03:=S2.trans S3;have hq3:=S3 _ _ hq2';refine ⟨_,rfl,q,_,_,_,rfl,rfl,SqT.of hq3,aJ (j:=0) rfl,_,_,rfl,rfl,_,rfl,iteB (rf (by omega)) ?_⟩;refine ⟨_,rfl,t,_,_,_,rfl,rfl,SqT.of (S03 _ _ ht),aJ (j:=2) rfl,p,_,rfl,.inr (SqT.of (S03 _ _ hp)),_,_,rfl,rfl,_,rfl,ke (by rw [hl,rf (show ((ws[i].i:Nat):Int)<(sp.length:Int) by omega)];rfl) ?_⟩;refine ⟨_,rfl,t,_,_,_,rfl,rfl,SqT.of (S03 _ _ ht),aJ (j:=2) rfl,_,rfl,q,_,_,_,rfl,rfl,SqT.of hq3,aJ (j:=0) rfl,p,_,_,_,rfl,rfl,SqT.of (S03 _ _ hp),aJ (j:=ws[i].i) hqs,_,rfl,qs,_,rfl,S03 _ _ hqs2,fun q4 H4 S4 h4=>?_⟩;rw [cutU (i:=2) (n:=2) (by omega)] at h4;have h4:H4 q4=some (.tup [.int sp[ws[i].i].s,.int sp[ws[i].i].g]):=h4;have hz4:=S4 _ _ (S3 _ _ hz);have hq4:=S4 _ _ hq3;refine ⟨_,rfl,.inl ⟨rfl,_,SqL.of hz4⟩,_,rfl,_,rfl,q,_,_,_,rfl,rfl,SqT.of hq4,aJ (j:=1) rfl,q4,_,ws[i].d,rfl,rfl,d1,h4,fun q5 H5 S5 h5=>?_⟩;rw [ft_of i1 d1] at h5;have hz5:=S5 _ _ hz4;refine ⟨Ls,zs,_,rfl,rfl,hz5,(aR (by omega:zs.length<1000) (by decide:1000≤bq)),?_⟩;have S35:=S3.trans (S4.trans S5);have KC:TupK H5 (upd H5 Ls (.lst (zs++[.ref q5]))):=fb hz5;refine ⟨fun a o e=>by rw [br (bf e hLs)];exact S35 _ _ (S2 _ _ e),zs++[.ref q5],_,_,rfl,aS,?_,by rw [av,lz];rfl⟩;rw [bj,gE hi];unfold dI at dz ⊢;rw [ay];exact (cf KC (dz.same S35)).append (.cons (.tup (KC _ _ h5) (IsDs.ints (ftS sp ws[i]))) .nil)
 rintro σ H2 ⟨S2,zs,v3,v4,rfl,hz,dz,lz⟩;rw [hlw,bc] at dz;have lz:zs.length=ws.length:=by rw [lz,hlw]
 obtain ⟨x0,al⟩:=rg.rnd;obtain ⟨af,al',an⟩:=along_get al;refine ⟨_,rfl,Ls,_,rfl,.inl (SqL.of hz),_,rfl,by omega,by omega,?_⟩;refine kI (n:=((zs.length:Nat):Int).toNat) (fun i σ H3=>H3=H2∧∃ v5,σ=[some (.ref t),some (.ref pw),some (.ref Ls),v3,v4,v5]) ⟨rfl,none,rfl⟩ ?_ ?_
 ·rintro i σ H3 hi ⟨rfl,v5,rfl⟩
  have hi:i<ws.length:=by omega
  obtain ⟨qb,hqb,hqb2⟩:=iQ dz (gE hi);obtain ⟨j,hj,hat,hmt⟩:∃ j,∃ hj:j<ws.length,atI zs (0+(i:Int) - 1)=zs[j]? ∧fF sp ws[j]=lI sp ws[i]:=by
   cases i with
   | zero =>
    refine ⟨ws.length - 1,by omega,?_,?_⟩
    ·have e:zs[zs.length - 1]? =some (zs[zs.length - 1]'(by omega)):=gE _
     rw [show (0:Int)+((0:Nat):Int) - 1= -1 by omega,atI_last e,←e,lz]
    ·rw [al' (by omega),af (by omega)]
   | succ i =>
    refine ⟨i,by omega,?_,an i hi⟩;have e:zs[i]? =some (zs[i]'(by omega)):=gE _;rw [show (0:Int)+((i+1:Nat):Int) - 1=(i:Int) by omega,e];exact aJ e
  obtain ⟨qa,hqa,hqa2⟩:=iQ dz (gE hj);rw [hqa] at hat;refine ⟨_,rfl,_,rfl,_,_,rfl,rfl,Ls,_,_,_,rfl,rfl,SqL.of hz,hat,qa,_,_,_,rfl,rfl,SqT.of hqa2,aJ (j:=1) rfl,_,rfl,_,rfl,Ls,_,_,_,rfl,rfl,SqL.of hz,by rw [gc];exact aJ hqb,qb,_,_,_,rfl,rfl,SqT.of hqb2,aJ (j:=0) rfl,rfl,_,rfl,ke ?_ ?_⟩
  ·rw [rf (by rw [hmt])];rfl
  exact ⟨rfl,_,rfl⟩
 rintro σ H3 ⟨rfl,v5,rfl⟩;refine ⟨_,rfl,pw,rfl,⟨_,SqT.of (S2 _ _ hpw)⟩,?_⟩;refine lx (K:=K) (a:=pw) (xs:=yw) (fun i zs H4=>H4=H3∧zs=(oF (ws.take i)).map V.int) ⟨rfl,rfl⟩ (fun i zs H4 hi ⟨e1,e2⟩=>?_) (by rw [hlw];exact eG (by omega)) (fun i x zs H4 hx ⟨e1,e2⟩=>?_) (fun zs H4 ⟨e1,e2⟩ D hD=>?_)
 ·subst e1
  refine ⟨SqT.of (S2 _ _ hpw),?_⟩;rw [e2,aa];unfold oF;rw [aa,bG];omega
 ·subst e1
  have hi:i<ws.length:=by rw [←hlw];exact (aq.mp hx).1
  obtain ⟨q1,f1,g1⟩:=iQ rw' (gE hi);rw [hx] at f1;cases f1;refine gQ ?_;refine ⟨_,rfl,q1,_,_,_,rfl,rfl,SqT.of (S2 _ _ g1),aJ (j:=0) rfl,rfl,?_⟩;rw [e2,numsS_take hi,ay];rfl
 subst e1;have e3:zs=(oF ws).map V.int:=by rw [e2,hlw,bc]
 subst e3;refine ⟨D,oF ws,rfl,SqL.of aS,by unfold oF;rw [aa];omega,fun p4 H5 S5 h5=>?_⟩;have S15:Same H4 H5:=(Same.put (Same.refl H4) hD).trans S5;have SH5:=S2.trans S15;refine ⟨p4,_,_,rfl,h5,?_⟩;refine ⟨_,rfl,pw,_,rfl,.inr (SqT.of (SH5 _ _ hpw)),rfl,?_⟩;have nd:(oF ws).Nodup:=by
  have:=rg.one;unfold oF;rw [bV,fk] at this ⊢;exact this.imp fun h e=>h (by omega)
 have e:(metL (oF ws)).length=yw.length:=by rw [met_nodup nd,hlw];unfold oF;rw [aa]
 rw [rf (by rw [e])];exact k H5 SH5
theorem scLeafH:cp ["_law_net_here","_law_bounds","_law_tree","_law_first","_law_last","_law_row"] pzw (defScope sLeafH):=by trivial
theorem ok_leafH (F:Fun K "_law_leaf" "_law_leaf" sLeafH f fd)(T:Nm mg)(G1:Fn K mg "_law_led" sLed pzK f1 fd1)(F1:dv P w K mg base CX0 2 f1 fd1 pzK spLed)(G2:Fn K mg "_law_beats" sBeatsH pzJ f2 fd2):dv P w K mg base CX0 3 f fd pzw (spLeafH qu):=by
 have F2:dv P w K mg base CX0 1 f2 fd2 pzJ spBeatsH:=ok_beatsH G2.F;refine F.ok scLeafH (by contradiction) (fun cdv A outer s H vs Q E hr h=>?_);obtain ⟨v,u,B,bv,b,m,sp,bs,d,rfl,hv,N,hB,dB,lb,du,_,⟨p,rfl,rg,dead⟩,k⟩:=h;have hr1:Room 1 _:=hr.mono (by decide);refine ⟨_,PSl.h (aU ⟨(gR (cG mm (ixZ (pv 2)) kA (dg _)) (PSl.h (aU ⟨(gR (PW.pt (mj (cG oE (cM cg rfl T.len bP (ae (pv 2) aB)) bg (dg _)) (lT (ky (kx (pc1 G1 F1 hr (ae (pv 0) (ae (ixZ (pv 2)) aB)))))))) (cO (cx jL)) d7)⟩
  (aU ⟨(om (pc1 G2 F2 hr1 (ae (pv 0) (ae (pv 1) (ae (ixZ (pv 2)) aB)))) (ng rfl (fJ (cY (i:=3) scLeafH.nd rfl (.inl rfl)) (fJ (cY (i:=4) scLeafH.nd rfl (.inl rfl)) k5))))⟩
  (dH ⟨(cx (PEs.h (k_ix eE (k_lst (gf (k_lst a_nil) (gf ⟨jL⟩ a_nil))) ⟨fG call_int1 rfl T.tint boot_int (ae (lU op_le (pv 3) (pv 4) (dg _)) aB)⟩ (fun _ _=>rfl))))⟩)))) d7)⟩
  (aU ⟨ps_outL⟩ (aU ⟨ps_outL⟩ (dH ⟨ps_outL⟩)))),?_⟩
 have du:IsD H u (.tup [.str "ring",mS p]):=du;obtain ⟨q,xs,rfl,hq,rq⟩:=IsD.tup_of du;obtain ⟨vr,rfl,dr⟩:∃ vr,xs=[.str "ring",vr]∧IsD H vr (mS p):=by
  cases rq with
  | cons a rq=>cases a;cases rq with
   | cons dr rq=>cases rq;exact ⟨_,rfl,dr⟩
 refine ⟨_,rfl,q,_,_,_,rfl,rfl,SqT.of hq,aJ (j:=0) rfl,rfl,_,rfl,iteB (rf rfl) ?_⟩;refine ⟨_,rfl,q,_,rfl,.inr (SqT.of hq),rfl,_,rfl,ke rfl ?_⟩;refine ⟨_,rfl,_,rfl,q,_,_,_,rfl,rfl,SqT.of hq,aJ (j:=1) rfl,v,vr,b,m,sp,p,rfl,hv,N.few,dr,rg,fun H1 S1=>⟨_,rfl,ke rfl ?_⟩⟩;refine ⟨_,rfl,_,rfl,_,rfl,q,_,_,_,rfl,rfl,SqT.of (S1 _ _ hq),aJ (j:=1) rfl,v,vr,B,bv,b,m,sp,bs,p,rfl,hv.same S1,by have:=N.b1;lia,by have:=N.b2;lia,S1 _ _ hB,dB.same S1,dr.same S1,by rw [lb];exact rg.inn,fun q2 H2 S2 h2=>⟨q2,_,rfl,SqT.of h2,rfl,_,_,rfl,_,_,rfl,rfl,?_⟩⟩;refine ⟨bF _,fun L0 H3 S3 h3=>⟨mU,fun L1 H4 S4 h4=>?_⟩⟩;have hd:¬ (upB b (fh bs p)≤gM bs p / b):=by
  have:=rj (show decide (upB b (fh bs p) > gM bs p / b)=true from dead);lia
 refine ⟨_,rfl,_,rfl,_,_,rfl,rfl,.inr ⟨_,rfl,?_⟩⟩;rw [rh hd];exact ⟨L1,_,_,_,rfl,rfl,SqL.of h4,aJ (j:=0) rfl,k L0 H4 (S1.trans (S2.trans (S3.trans S4))) (S4 _ _ h3)⟩
abbrev sLaw:cV:=top 68
inductive spLawTs (Ts:List ao)(K:ak)(vs:List V)(H:Hp)(Q:VK)(_:XK):Prop
 | mk (a:ao)(ns:List Int)(_:vs=[.ref a])(_:SqL K H a (ns.map V.int))(_:(∀ T∈Ts,H T=some (.tbl #[])))(_:∀ H',Q (.bl true) H')
theorem scLaw:cp ["_law_script","_law_net_here","_law_times","_law_ahead","_law_whole","_law_told"] ["_law_script"] (defScope sLaw):=by trivial
theorem ok_law {f5 TT T3:ao}{fd5:bw}(F:Fun K "law" "law" sLaw f fd)(T:Nm mg)
  (G1:Fn K mg "_law_net" sNetH pzr f1 fd1) (F1:dv P w K mg base CX0 4 f1 fd1 pzr (spNetH K))
  (G2:Fn K mg "best_for" lR pza f2 fd2) (F2:dv P w K mg base CX0 13 f2 fd2 pza (spBest T0 p0 q0 T1 p1 q1 TT T3))
  (G3:Fn K mg "_law_dead" sDeadN pzB f3 fd3) (F3:dv P w K mg base CX0 3 f3 fd3 pzB (spDeadN K))
  (G4:Fn K mg "_law_wait" sWaitN pzg f4 fd4) (F4:dv P w K mg base CX0 2 f4 fd4 pzg mY)
  (G5:Fn K mg "_law_shown" sShownH pzq f5 fd5) (F5:dv P w K mg base CX0 26 f5 fd5 pzq (spShownH qu)):dv P w K mg base CX0 27 f fd ["_law_script"] (spLawTs [T0,T1,TT,T3] K):=by
 refine F.ok scLaw (by contradiction) (fun cdv A outer s H vs Q E hr h=>?_);obtain ⟨a,ns,rfl,ha,hT,k⟩:=h;have hr2:Room 2 _:=hr.mono (by decide);have hr3:Room 3 _:=hr.mono (by decide);have hr4:Room 4 _:=hr.mono (by decide);have hr13:Room 13 _:=hr.mono (by decide);refine ⟨_,PSl.h (aU ⟨(om (pc1 G1 F1 hr4 (ae (pv 0) (ae bg (ae bg (ae bg aB))))) (ng rfl (fJ (cY (i:=1) scLaw.nd rfl (.inl rfl)) (fJ (cY (i:=2) scLaw.nd rfl (.inl rfl)) k5))))⟩
  (aU ⟨(gR (PW.pt (mj (cG pW (ixZ (pv 1)) bg (dg _)) (lT (cG pW (ixZ (pv 1)) bg (dg _))))) (cO (cx (lU mm (ixZ (pc1 G2 F2 hr13 (ae (pv 1) aB))) kA (dg _)))) d7)⟩
  (aU ⟨(om (pc1 G3 F3 hr3 (ae (pv 0) (ae (pv 1) (ae (pv 2) aB)))) (ng rfl (fJ (cY (i:=3) scLaw.nd rfl (.inl rfl)) (fJ (cY (i:=4) scLaw.nd rfl (.inl rfl)) k5))))⟩
  (aU ⟨(bC (i:=5) scLaw.nd rfl (.inl rfl) (pc1 G2 F2 hr13 (ae (pv 3) aB)))⟩
  (aU ⟨(gR (PW.pt (mj (ky (kx (nh T (pv 5)))) (mj (cG oE (ixZ (pv 5)) kA (dg _)) (lT (cG oE (ixZ (pv 5)) (pc1 G4 F4 hr2 (ae (pv 3) (ae (ixZ (pv 5)) aB))) (dg _)))))) (cO (cx pe_bl)) d7)⟩
  (aU ⟨(bC (i:=5) scLaw.nd rfl (.inl rfl) (pc1 G2 F2 hr13 (ae (pv 4) aB)))⟩
  (aU ⟨(gR (PW.pt (mj (ky (kx (nh T (pv 5)))) (mj (cG oE (cM cg rfl T.len bP (ae (pv 5) aB)) bg (dg _)) (lT (cG oE (ixZ (pv 5)) kA (dg _)))))) (cO (cx pe_bl)) d7)⟩
  (dH ⟨(cx (lU (op_eqL0 hr.units0) (pc1 G5 F5 hr (ae (pv 4) (ae (ixZ (pv 5)) aB))) (pV aB) (dg _)))⟩)))))))),?_⟩
 refine ⟨_,rfl,a,ns,5,6,0,rfl,ha,by decide,by decide,by decide,by decide,fun q u v b m sp ts H1 S1 hq hv N b2 m5 hu lt allt fit na few=>?_⟩;refine ⟨q,_,rfl,SqT.of hq,rfl,_,_,rfl,_,_,rfl,rfl,?_⟩;have b1:=N.b1;have m1:=N.m1;have cas:=qe N (by lia) na;have hf:=fit (by decide);have hT0:L2.LamT T0 p0 q0 H1:=LamT.same S1 (.inl (hT T0 (by simp)));have hT1:L2.LamT T1 p1 q1 H1:=LamT.same S1 (.inl (hT T1 (by simp)));have hT2:L2.LamT TT lpT lqT H1:=LamT.same S1 (.inl (hT TT (by simp)));have hT3:L2.LamG T3 lqB H1:=(LamG.nil (hT T3 (by simp))).same S1;obtain ⟨tv,pq,ys,rfl,htv,hpq,dy⟩:=netP_rows hv;refine ⟨_,rfl,tv,_,_,_,rfl,rfl,SqT.of htv,aJ (j:=1) rfl,_,_,rfl,rfl,_,rfl,?_⟩;refine ite2 (fun _=>?_) (fun hm=>?_)
 ·refine ⟨_,rfl,_,b,m,sp,rfl,hv,N,cas,hT0,hT1,hT2,hT3,fun q4 H4 kp4 _ _ _ _ ans=>?_⟩
  rcases ans with ⟨_,_,an⟩ | ⟨_,_,_,_,ba⟩
  ·exact rd hf (an.no ts)
  ·exact ⟨q4,_,_,_,rfl,rfl,SqT.of ba.q,aJ (j:=0) rfl,rfl,k H4⟩
 refine ⟨_,rfl,tv,_,_,_,rfl,rfl,SqT.of htv,aJ (j:=0) rfl,_,_,rfl,rfl,_,rfl,?_⟩;refine ite2 (fun _=>?_) (fun hb=>?_)
 ·refine ⟨_,rfl,_,b,m,sp,rfl,hv,N,cas,hT0,hT1,hT2,hT3,fun q4 H4 kp4 _ _ _ _ ans=>?_⟩
  rcases ans with ⟨_,_,an⟩ | ⟨_,_,_,_,ba⟩
  ·exact rd hf (an.no ts)
  ·exact ⟨q4,_,_,_,rfl,rfl,SqT.of ba.q,aJ (j:=0) rfl,rfl,k H4⟩
 have hm:¬ m<2:=fun z=>hm (rf z)
 have hb:¬ b<2:=fun z=>hb (rf z)
 obtain ⟨mn,rfl⟩:∃ mn:Nat,m=mn:=⟨m.toNat,by lia⟩;refine ⟨_,rfl,_,rfl,_,rfl,a,u,ns,.ref tv,b,mn,sp,ts,rfl,S1.seq ha,hv,N,by lia,b2,by lia,by lia,hu,by lia,by lia,fun q2 va vw zs sa sw x H2 S2 hq2 hva hvw lsa lsw msa msw all fitz dead=>?_⟩;refine ⟨q2,_,rfl,SqT.of hq2,rfl,_,_,rfl,_,_,rfl,rfl,?_⟩;have l2:=lim_two (n:=mn) (by lia) (by lia);have Na:NetT b mn sa:=⟨by lia,by lia,by lia,by lia,by lia,fun y hy=>by
  rcases (msa y).mp hy with z | z
  ·exact N.all y z
  ·exact (all y (aM _ z)).1⟩
 have Nw:NetT b mn sw:=⟨by lia,by lia,by lia,by lia,by lia,fun y hy=>by
  rcases (msw y).mp hy with z | z
  ·exact N.all y z
  ·exact (all y z).1⟩
 have naA:oy mn sa (jf mn - 1):=pZ na (fun y hy=>(msa y).mpr (.inl hy)) fun y hy=>by
  rcases (msa y).mp hy with z | z
  ·exact .inl z
  ·have:=(all y (aM _ z)).2
   exact .inr (by lia)
 have naW:oy mn sw (jf mn - 1):=pZ na (fun y hy=>(msw y).mpr (.inl hy)) fun y hy=>by
  rcases (msw y).mp hy with z | z
  ·exact .inl z
  ·have:=(all y z).2
   exact .inr (by lia)
 have fa:jB b ts sa=true:=kept_fits fun y hy=>by
  rcases (msa y).mp hy with z | z
  ·exact fits_kept hf y z
  ·exact fitz y z
 refine ⟨_,rfl,va,b,mn,sa,rfl,hva,Na,qe Na (by lia) naA,LamT.same S2 hT0,LamT.same S2 hT1,LamT.same S2 hT2,hT3.same S2,fun q3 H3 kp3 t30 t31 t32 t33 ans=>?_⟩
 rcases ans with ⟨_,_,an⟩ | ⟨qt,t,_,_,ba⟩
 ·exact rd fa (an.no ts)
 have hva3:=cB kp3.tup hva;have hvw3:=cB kp3.tup hvw;have hq3:=ba.q;obtain ⟨tl,tin,tfit⟩:=ba.tab;have tl:(t.length:Int)=mn:=by lia
 have ty3:tyn H3 (.ref q3)=some "tuple" := by simp only [tyn];rw [hq3]
 refine ⟨_,rfl,_,_,rfl,ty3,_,rfl,ke rfl ?_⟩;refine ⟨_,rfl,q3,_,_,_,rfl,rfl,SqT.of hq3,aJ (j:=0) rfl,rfl,_,rfl,ke rfl ?_⟩;refine ⟨_,rfl,q3,_,_,_,rfl,rfl,SqT.of hq3,aJ (j:=2) rfl,_,rfl,_,rfl,q3,_,_,_,rfl,rfl,SqT.of hq3,aJ (j:=1) rfl,va,qt,b,mn,sa,t,rfl,hva3,ba.qt,Na.rdy tl,Na.ws,fun H4 S4=>⟨rfl,_,rfl,ke (by rw [rf rfl];rfl) ?_⟩⟩;refine ⟨_,rfl,vw,b,mn,sw,rfl,hvw3.same S4,Nw,qe Nw (by lia) naW,LamT.same S4 t30,LamT.same S4 t31,LamT.same S4 t32,t33.same S4,fun q5 H5 kp5 _ _ _ _ ans=>?_⟩
 rcases ans with ⟨uu,t',an⟩ | ⟨_,t',_,_,ba'⟩
 rotate_left
 ·exact (dead t' fun y hy=>fits_kept ba'.tab.2.2 y ((msw y).mpr (.inr hy))).elim
 have hq5:=an.q;have gd:=an.good;have ty:tyn H5 (.ref q5)=some "tuple" := by simp only [tyn];rw [hq5]
 refine ⟨_,rfl,_,_,rfl,ty,_,rfl,ke rfl ?_⟩;refine ⟨_,rfl,q5,_,rfl,.inr (SqT.of hq5),rfl,_,rfl,ke rfl ?_⟩;refine ⟨_,rfl,q5,_,_,_,rfl,rfl,SqT.of hq5,aJ (j:=0) rfl,rfl,_,rfl,ke rfl ?_⟩;refine ⟨_,rfl,_,rfl,q5,_,_,_,rfl,rfl,SqT.of hq5,aJ (j:=1) rfl,vw,uu,b,mn,sw,t',rfl,cB kp5.tup (hvw3.same S4),Nw,an.tree,mJ rdead_leafW t' _ _ gd,gd,fun L6 H6 S6 h6=>?_⟩;refine ⟨bF _,fun L7 H7 S7 h7=>?_⟩;exact ⟨L6,L7,[],rfl,rfl,SqL.of (S7 _ _ h6),SqL.of h7,k H7⟩
theorem qr {P:List ag→Prop}(h:∀ x0,P [x0]):∀ us:List ag,us.length=1→P us:=by
 intro us hl;obtain _ | ⟨x0,us⟩:=us <;> try (cases hl;done)
 obtain _ | ⟨y,us⟩:=us
 ·exact h x0
 ·exact rd hl (by simp only [aX];lia)
theorem jR {P:List ag→Prop}(h:∀ x0 x1,P [x0,x1]):∀ us:List ag,us.length=2→P us:=by
 intro us hl;obtain _ | ⟨x0,us⟩:=us <;> try (cases hl;done)
 obtain _ | ⟨x1,us⟩:=us <;> try (cases hl;done)
 obtain _ | ⟨y,us⟩:=us
 ·exact h x0 x1
 ·exact rd hl (by simp only [aX];lia)
theorem qi {P:List ag→Prop}(h:∀ x0 x1 x2,P [x0,x1,x2]):∀ us:List ag,us.length=3→P us:=by
 intro us hl;obtain _ | ⟨x0,us⟩:=us <;> try (cases hl;done)
 obtain _ | ⟨x1,us⟩:=us <;> try (cases hl;done)
 obtain _ | ⟨x2,us⟩:=us <;> try (cases hl;done)
 obtain _ | ⟨y,us⟩:=us
 ·exact h x0 x1 x2
 ·exact rd hl (by simp only [aX];lia)
theorem args4 {P:List ag→Prop}(h:∀ x0 x1 x2 x3,P [x0,x1,x2,x3]):∀ us:List ag,us.length=4→P us:=by
 intro us hl;obtain _ | ⟨x0,us⟩:=us <;> try (cases hl;done)
 obtain _ | ⟨x1,us⟩:=us <;> try (cases hl;done)
 obtain _ | ⟨x2,us⟩:=us <;> try (cases hl;done)
 obtain _ | ⟨x3,us⟩:=us <;> try (cases hl;done)
 obtain _ | ⟨y,us⟩:=us
 ·exact h x0 x1 x2 x3
 ·exact rd hl (by simp only [aX];lia)
theorem args5 {P:List ag→Prop}(h:∀ x0 x1 x2 x3 x4,P [x0,x1,x2,x3,x4]):∀ us:List ag,us.length=5→P us:=by
 intro us hl;obtain _ | ⟨x0,us⟩:=us <;> try (cases hl;done)
 obtain _ | ⟨x1,us⟩:=us <;> try (cases hl;done)
 obtain _ | ⟨x2,us⟩:=us <;> try (cases hl;done)
 obtain _ | ⟨x3,us⟩:=us <;> try (cases hl;done)
 obtain _ | ⟨x4,us⟩:=us <;> try (cases hl;done)
 obtain _ | ⟨y,us⟩:=us
 ·exact h x0 x1 x2 x3 x4
 ·exact rd hl (by simp only [aX];lia)
theorem args6 {P:List ag→Prop}(h:∀ x0 x1 x2 x3 x4 x5,P [x0,x1,x2,x3,x4,x5]):∀ us:List ag,us.length=6→P us:=by
 intro us hl;obtain _ | ⟨x0,us⟩:=us <;> try (cases hl;done)
 obtain _ | ⟨x1,us⟩:=us <;> try (cases hl;done)
 obtain _ | ⟨x2,us⟩:=us <;> try (cases hl;done)
 obtain _ | ⟨x3,us⟩:=us <;> try (cases hl;done)
 obtain _ | ⟨x4,us⟩:=us <;> try (cases hl;done)
 obtain _ | ⟨x5,us⟩:=us <;> try (cases hl;done)
 obtain _ | ⟨y,us⟩:=us
 ·exact h x0 x1 x2 x3 x4 x5
 ·exact rd hl (by simp only [aX];lia)
theorem Df.fn (a:Df K x st f)(X:K.In h)(G:h.Ns bS mg)
  (hb:∀ (kV dc pm:ag) (an:Option ao) (cd ct:ag) (us:List ag),us.length=ps.length→bindArgs (eC x x (jn st) (fS st) (defScope st) .none kV dc pm an cd ct) ⟨us,[]⟩=fP (ps.zip us)):∃ fd,Fn K mg x st ps f fd:=by
 obtain ⟨n,oc,od,an,sl,kV,dc,pm,cd,ct,l,c,k⟩:=a;have F:=ox (st:=st) l c k;exact ⟨_,F,iU X G n,F.binds hb⟩
theorem all_mk {l:PySem.W.OpenLaw}{fa:ao}(X:K.In h)(G:h.Ns bS mg)(hfa:mg "law" =some (.ref fa))(Fc:Facts K)
  : ∃ fd:bw,(∀ (s:au) (v:ag),BindsTo s fd ⟨[v],[]⟩ [("_law_script",v)])∧∀ base:bK,K.In base→base.Ns bS mg→BM mg base→dv l.prog w K mg base CX0 27 fa fd ["_law_script"] (spLawTs [102,207,273,292] K):=by
 refine Fc _ ?_;intro f1 f2 f3 f4 f5 f6 f7 f8 f9 f10 f11 f12 f13 f14 f15 f16 f17 f18 f19 f20 f21 f22 f23 f24 f25 f26 f27 f28 f29 f30 f31 f32 f33 f34 f35 f36 f37 f38 f39 f40 f41 f42 f43 f44 f45 f46 f47 f48 f49 f50 f51 f52 f53 t1 xC xi xs xt odI anI odS anS odT anT slI slS slT ocI kVI dcI pmI ctI ocS kVS dcS pmS cdS ctS ocT kVT dcT pmT cdT ctT a1 a2 a3 a4 a5 a6 a7 a8 a9 a10 a11 a12 a13 a14 a15 a16 a17 a18 a19 a20 a21 a22 a23 a24 a25 a26 a27 a28 a29 a30 a31 a32 a33 a34 a35 a36 a37 a38 a39 a40 a41 a42 a43 a44 a45 a46 a47 a48 a49 a50 a51 a52 a53 y1 z1 z2 z3 z4 z5 z6 z7 z8 z9 z10 z11 z12 z13 z14 z15 z16 w1 w2 w3 w4 w5 w6 w7 w8 w9 w10 w11 w12 w13 w14 w15 w16 w17 w18 w19 w20 w21 w22 w23 w24 w25 wc0 wh0 wh1 wc2 wh2 wc3 wh3;have e:=hfa.symm.trans (iU X G a53.n);cases e;obtain ⟨fd1,G1⟩:=a1.fn X G (ps:=pzh) fun _ _ _ _ _ _=>jR fun _ _=>rfl
 obtain ⟨fd2,G2⟩:=a2.fn X G (ps:=pzc) fun _ _ _ _ _ _=>jR fun _ _=>rfl
 obtain ⟨fd3,G3⟩:=a3.fn X G (ps:=pzc) fun _ _ _ _ _ _=>jR fun _ _=>rfl
 obtain ⟨fd4,G4⟩:=a4.fn X G (ps:=pza) fun _ _ _ _ _ _=>qr fun _=>rfl
 obtain ⟨fd5,G5⟩:=a5.fn X G (ps:=pzC) fun _ _ _ _ _ _=>jR fun _ _=>rfl
 obtain ⟨fd6,G6⟩:=a6.fn X G (ps:=pzb) fun _ _ _ _ _ _=>qi fun _ _ _=>rfl
 obtain ⟨fd7,G7⟩:=a7.fn X G (ps:=pzb) fun _ _ _ _ _ _=>qi fun _ _ _=>rfl
 obtain ⟨_,oc,od,an,sl,kV,dc,pm,cd,ct,l8,c8,k8⟩:=id a8;obtain ⟨_,_,_,_,_,_,_,_,z⟩:=wc0;have z:=l8.symm.trans z;have wc0:cd=ag.ref 106:=by injection z with z;injection z with _ _ z _;injection z with z;injection z
 have F8:=ox (st:=sSpW) l8 c8 k8;have b8:=F8.binds (ps:=pza) fun _ _ _ _ _ _=>qr fun _=>rfl
 have G8:Fn K mg "spans_by_width" sSpW pza f8 _:=⟨F8,iU X G a8.n,b8⟩;obtain ⟨fd9,G9⟩:=a9.fn X G (ps:=pza) fun _ _ _ _ _ _=>qr fun _=>rfl
 obtain ⟨fd10,G10⟩:=a10.fn X G (ps:=pzk) fun _ _ _ _ _ _=>qi fun _ _ _=>rfl
 obtain ⟨fd11,G11⟩:=a11.fn X G (ps:=pzE) fun _ _ _ _ _ _=>args4 fun _ _ _ _=>rfl
 obtain ⟨fd12,G12⟩:=a12.fn X G (ps:=pzh) fun _ _ _ _ _ _=>jR fun _ _=>rfl
 obtain ⟨fd13,G13⟩:=a13.fn X G (ps:=pza) fun _ _ _ _ _ _=>qr fun _=>rfl
 obtain ⟨fd14,G14⟩:=a14.fn X G (ps:=pza) fun _ _ _ _ _ _=>qr fun _=>rfl
 obtain ⟨fd15,G15⟩:=a15.fn X G (ps:=pza) fun _ _ _ _ _ _=>qr fun _=>rfl
 obtain ⟨fd16,G16⟩:=a16.fn X G (ps:=pzj) fun _ _ _ _ _ _=>jR fun _ _=>rfl
 obtain ⟨fd17,G17⟩:=a17.fn X G (ps:=pzt) fun _ _ _ _ _ _=>args4 fun _ _ _ _=>rfl
 obtain ⟨fd18,G18⟩:=a18.fn X G (ps:=pzs) fun _ _ _ _ _ _=>jR fun _ _=>rfl
 obtain ⟨fd19,G19⟩:=a19.fn X G (ps:=pzp) fun _ _ _ _ _ _=>jR fun _ _=>rfl
 obtain ⟨fd20,G20⟩:=a20.fn X G (ps:=pzi) fun _ _ _ _ _ _=>jR fun _ _=>rfl
 obtain ⟨fd21,G21⟩:=a21.fn X G (ps:=pzG) fun _ _ _ _ _ _=>qi fun _ _ _=>rfl
 obtain ⟨fd22,G22⟩:=a22.fn X G (ps:=pzl) fun _ _ _ _ _ _=>jR fun _ _=>rfl
 obtain ⟨fd23,G23⟩:=a23.fn X G (ps:=["marks"]) fun _ _ _ _ _ _=>qr fun _=>rfl
 obtain ⟨fd24,G24⟩:=a24.fn X G (ps:=pzm) fun _ _ _ _ _ _=>jR fun _ _=>rfl
 obtain ⟨_,oc,od,an,sl,kV,dc,pm,cd,ct,l25,c25,k25⟩:=id a25;obtain ⟨_,_,_,_,_,_,_,_,z⟩:=wc2;have z:=l25.symm.trans z;have wc2:cd=ag.ref 277:=by injection z with z;injection z with _ _ z _;injection z with z;injection z
 have F25:=ox (st:=j7) l25 c25 k25;have b25:=F25.binds (ps:=pza) fun _ _ _ _ _ _=>qr fun _=>rfl
 have G25:Fn K mg "table_for" j7 pza f25 _:=⟨F25,iU X G a25.n,b25⟩;obtain ⟨fd26,G26⟩:=a26.fn X G (ps:=pzb) fun _ _ _ _ _ _=>qi fun _ _ _=>rfl
 obtain ⟨fd27,G27⟩:=a27.fn X G (ps:=pzI) fun _ _ _ _ _ _=>qi fun _ _ _=>rfl
 obtain ⟨fd28,G28⟩:=a28.fn X G (ps:=pzf) fun _ _ _ _ _ _=>jR fun _ _=>rfl
 obtain ⟨fd29,G29⟩:=a29.fn X G (ps:=pzf) fun _ _ _ _ _ _=>jR fun _ _=>rfl
 obtain ⟨fd30,G30⟩:=a30.fn X G (ps:=["net","rows"]) fun _ _ _ _ _ _=>jR fun _ _=>rfl
 obtain ⟨fd31,G31⟩:=a31.fn X G (ps:=pzD) fun _ _ _ _ _ _=>qi fun _ _ _=>rfl
 obtain ⟨fd32,G32⟩:=a32.fn X G (ps:=pzH) fun _ _ _ _ _ _=>qi fun _ _ _=>rfl
 obtain ⟨fd33,G33⟩:=a33.fn X G (ps:=pzu) fun _ _ _ _ _ _=>args4 fun _ _ _ _=>rfl
 obtain ⟨_,oc,od,an,sl,kV,dc,pm,cd,ct,l34,c34,k34⟩:=id a34;obtain ⟨_,_,_,_,_,_,_,_,z⟩:=wc3;have z:=l34.symm.trans z;have wc3:cd=ag.ref 296:=by injection z with z;injection z with _ _ z _;injection z with z;injection z
 have F34:=ox (st:=lR) l34 c34 k34;have b34:=F34.binds (ps:=pza) fun _ _ _ _ _ _=>qr fun _=>rfl
 have G34:Fn K mg "best_for" lR pza f34 _:=⟨F34,iU X G a34.n,b34⟩;obtain ⟨fd35,G35⟩:=a35.fn X G (ps:=pze) fun _ _ _ _ _ _=>jR fun _ _=>rfl
 obtain ⟨fd36,G36⟩:=a36.fn X G (ps:=pzx) fun _ _ _ _ _ _=>jR fun _ _=>rfl
 obtain ⟨fd37,G37⟩:=a37.fn X G (ps:=pze) fun _ _ _ _ _ _=>jR fun _ _=>rfl
 obtain ⟨fd38,G38⟩:=a38.fn X G (ps:=pzd) fun _ _ _ _ _ _=>jR fun _ _=>rfl
 obtain ⟨fd39,G39⟩:=a39.fn X G (ps:=pzo) fun _ _ _ _ _ _=>args6 fun _ _ _ _ _ _=>rfl
 obtain ⟨fd40,G40⟩:=a40.fn X G (ps:=pzy) fun _ _ _ _ _ _=>args6 fun _ _ _ _ _ _=>rfl
 obtain ⟨fd41,G41⟩:=a41.fn X G (ps:=pzz) fun _ _ _ _ _ _=>args5 fun _ _ _ _ _=>rfl
 obtain ⟨fd42,G42⟩:=a42.fn X G (ps:=pzr) fun _ _ _ _ _ _=>args4 fun _ _ _ _=>rfl
 obtain ⟨fd43,G43⟩:=a43.fn X G (ps:=pzg) fun _ _ _ _ _ _=>jR fun _ _=>rfl
 obtain ⟨fd44,G44⟩:=a44.fn X G (ps:=pzg) fun _ _ _ _ _ _=>jR fun _ _=>rfl
 obtain ⟨fd45,G45⟩:=a45.fn X G (ps:=pzn) fun _ _ _ _ _ _=>qr fun _=>rfl
 obtain ⟨fd46,G46⟩:=a46.fn X G (ps:=pzK) fun _ _ _ _ _ _=>jR fun _ _=>rfl
 obtain ⟨fd47,G47⟩:=a47.fn X G (ps:=pzJ) fun _ _ _ _ _ _=>qi fun _ _ _=>rfl
 obtain ⟨fd48,G48⟩:=a48.fn X G (ps:=pzw) fun _ _ _ _ _ _=>qi fun _ _ _=>rfl
 obtain ⟨fd49,G49⟩:=a49.fn X G (ps:=pzv) fun _ _ _ _ _ _=>args4 fun _ _ _ _=>rfl
 obtain ⟨fd50,G50⟩:=a50.fn X G (ps:=pzq) fun _ _ _ _ _ _=>jR fun _ _=>rfl
 obtain ⟨fd51,G51⟩:=a51.fn X G (ps:=pzA) fun _ _ _ _ _ _=>args4 fun _ _ _ _=>rfl
 obtain ⟨fd52,G52⟩:=a52.fn X G (ps:=pzB) fun _ _ _ _ _ _=>qi fun _ _ _=>rfl
 obtain ⟨_,oc,od,an,sl,kV,dc,pm,cd,ct,l53,c53,k53⟩:=a53;have F53:=ox (st:=sLaw) l53 c53 k53;have m1:=cw X G z1;have m2:=cw X G z2;have m3:=cw X G z3;have m4:=cw X G z4;have m5:=cw X G z5;have m6:=cw X G z6;have m7:=cw X G z7;have m8:=cw X G z8;have m9:=cw X G z9;have m10:=cw X G z10;have m11:=cw X G z11;have m12:=cw X G z12;have m13:=cw X G z13;have m14:=cw X G z14;have m15:=cw X G z15;have m16:=cw X G z16;have i1:=iU X G y1;refine ⟨eC "law" "law" (jn sLaw) (fS sLaw) (defScope sLaw) .none kV dc pm an cd ct,fun s v=> .of_eq rfl,fun base _ _ hB=>?_⟩;have T:Nm mg:=⟨m1,m2,m3,m4,m5,m6,m7⟩;have T2:Nt mg:=⟨m8,m9,m10,m11,m12,m13⟩;have T3:N3 mg:=⟨m14⟩;have SW:dv l.prog w K mg base CX0 5 f8 _ pza (spSpW 102 lpW lqW):=ok_spW F8 wc0 wh0 hB T T2 m15 G1;have FO:dv l.prog w K mg base CX0 6 f9 _ pza (kW 102 lpW lqW):=ok_forest G9.F T T2 m15 G8 SW;have ST:dv l.prog w K mg base CX0 2 f10 _ pzk spSteps:=ok_steps G10.F G2;have RB:dv l.prog w K mg base CX0 7 f12 _ pzh (spRingBy 102 lpW lqW):=ok_ringBy G12.F G11 (ok_wayBt G11.F G10 ST G3) G9 FO;have RO:dv l.prog w K mg base CX0 8 f14 _ pza (oP 102 lpW lqW):=ok_ringsO G14.F T T2 G9 FO G12 RB;have CC:CutC K xC:=⟨⟨w2,w3,w4,w5⟩,w6,w7,w8⟩;have CI:=ox (st:=qM) w13 w14 w15;have CS:=ox (st:=sSpanC) w19 w20 w18;have CT:=ox (st:=sSidesC) w24 w25 w23;have CK:CutK l.prog w K mg base 102 lpW lqW 207 lpC lqC xC xi xs xt _ _ _:=⟨CC,⟨w9,w10,w11,w12⟩,iU X G w1,ok_initC CI rfl wh1 hB (by decide) T T2 m15 CC G14 RO G18 G4 G9 FO,CI.binds (ps:=["self","net"]) fun _ _ _ _ _ _=>jR fun _ _=>rfl,⟨w16,w17,w18⟩,ok_spanC CS CC,CS.binds (ps:=["self","case"]) fun _ _ _ _ _ _=>jR fun _ _=>rfl,⟨w21,w22,w23⟩,ok_sidesC CT CC G17,CT.binds (ps:=pzF) fun _ _ _ _ _ _=>args4 fun _ _ _ _=>rfl⟩;have BO:dv l.prog w K mg base CX0 2 f6 _ pzb pE:=ok_beats G6.F G5;have DL:dv l.prog w K mg base CX0 4 f20 _ pzi pB:=ok_deadL G20.F G7 (ok_dead G7.F G6 BO);have TF:dv l.prog w K mg base CX0 11 f22 _ pzl (spTabF 102 lpW lqW 207 lpC lqC):=ok_tabF G22.F T (by decide) CK G15 (ok_spread G15.F T T2 G9 FO G10 ST G3) G20 DL G21 (ok_tabBy G21.F T G3 G2 G16) G19;have TY:dv l.prog w K mg base CX0 11 f24 _ pzm (oO l.prog w K mg base 102 lpW lqW 207 lpC lqC):=ok_treeBy G24.F T CK G19 G23 (ok_treeF G23.F m16);have TN:dv l.prog w K mg base CX0 12 f25 _ pza (pA 102 lpW lqW 207 lpC lqC 273):=ok_tabForN F25 wc2 wh2 hB T ⟨_,i1⟩ (by decide) (by decide) (by decide) G13 (ok_cases G13.F G9 FO G1) G22 TF G24 TY G20 DL;have WO:dv l.prog w K mg base CX0 4 f29 _ pzf mY:=ok_waitOf G29.F T T2 G28 (ok_waits G28.F T T2 G16 G27);have LB:dv l.prog w K mg base CX0 5 f33 _ pzu spLeafBy:=ok_leafBy G33.F G20 DL G32 (ok_priceL G32.F T G26 (ok_sure G26.F G6 BO)) G31 (ok_worth G31.F T T2 G6 BO G30);have BF:dv l.prog w K mg base CX0 13 f34 _ pza (spBest 102 lpW lqW 207 lpC lqC 273 292):=ok_best F34 wc3 wh3 hB T ⟨_,i1⟩ (by decide) (by decide) (by decide) (by decide) (by decide) (by decide) G25 TN G22 TF G24 TY G33 LB G29 WO G14 RO;have PO:dv l.prog w K mg base CX0 2 f37 _ pze (spPotT K):=ok_potT G37.F T T2 G35 G36;have NH:dv l.prog w K mg base CX0 4 f42 _ pzr (spNetH K):=ok_netH G42.F T T2 G38 G37 PO G40 (ok_tied G40.F T G38 G39) G41 (ok_more G41.F T G38 G39);have LF:dv l.prog w K mg base CX0 3 f48 _ pzw (spLeafH qu):=ok_leafH G48.F T G46 (ok_led G46.F T T2 T3 G45) G47;have SN:dv l.prog w K mg base CX0 26 f50 _ pzq (spShownH qu):=ok_shownH G50.F G49 (ok_walkH T G48 LF G45 G49 22);exact ok_law F53 T G42 NH G34 BF G52 (ok_deadN G52.F T T2 G38 G37 PO G51 (ok_ringS G51.F T T2 G38)) G44 (ok_waitN G44.F T2 G43) G50 SN
theorem walk {l:PySem.W.OpenLaw}{q:aY}{d:DefRec}{K:Params→ak}(hn:l.most=some 63)(hdf:d.params.defaults=[])
  (hY:∀ (w:bE) (h:bK),YP w h→(K w.params).In h∧∀ T∈([102,207,273,292]:List ao),h.get? T=some (PySem.W.tabObj #[])) (hC:∀ w:bE,∀ T∈([102,207,273,292]:List ao),∃ c,eX (K w.params) c T=true) (hN:∀ w:bE,PySem.W.noTabs (K w.params)=true)
  (F:∀ (w:bE) (mg:Str→Option ag) (fa:ao) (h:bK),(K w.params).In h→h.Ns bS mg→mg d.name=some (.ref fa) →
   ∃ fd:bw,(∀ (s:au) (u:ag),BindsTo s fd ⟨[u],[]⟩ [("_law_script",u)])∧∀ base:bK,(K w.params).In base→base.Ns bS mg→BM mg base→dv l.prog w (K w.params) mg base CX0 27 fa fd ["_law_script"] (spLawTs [102,207,273,292] (K w.params))) :
  PySem.W.WalkO q loose XP YP l.row.toRowW d [] (fun f vs=>PySem.call f vs) :=
 L2.walk_ofTs (n:=63) (k:=27) (x := "_law_script") (Ts:=[102,207,273,292]) (CX:=fun _=>CX0) (sp:=fun w=>spLawTs [102,207,273,292] (K w.params)) hn (by decide) hdf ⟨rfl,by decide,by decide⟩ hY hC hN F (fun _ _ a ns hl hT hS=>⟨a,ns,rfl,hS,hT,fun _=>rfl⟩) fun _ _ _ _ _ z=>z
end HN
set_option maxHeartbeats 0 in
theorem PySem.Challenge.cw_hourtable_k51_no_least_wait_holds : PySem.Challenge.rw_hourtable_k51_no_least_wait.Holds := by
 refine HN.head0 ?_;intro q loose XP YP d K hdf hd h0 h1 h2 Fc;exact HN.walk (l:=fZ) rfl hdf h0 h1 h2 fun w mg fa h KX G hmg=>HN.all_mk KX G (by rw [hd] at hmg;exact hmg) (Fc w)
