import PyProof.Rows.All
import KE.KIsAll
import OpenK.KMore
import KE.LcSums
import KE.KBools
import KE.KxBytes
import Lean
import PyProof.EqAt
import PyProof.EqKinds
import PyProof.TupleCall
import KE.KEqSeq
import PyProof.NeKinds
import PyProof.FitsBits
import PyProof.Rows.SumAny
import PyProof.Rows.SetFrom
import PyProof.SetRoads
import PyProof.ListRange
import KE.KSortTup
import KE.KSortKey
import KE.KLam
import KE.KNestM
import PyProof.Rows.MinMaxN
import KE.KRevIter
import PyProof.MaxThree
import PyProof.AutoSeq1
import PyProof.FactsAll.list_3
import PyProof.MeetsSeq
import PyProof.FactsAll.tuple
import PyProof.MinMaxWalk
import PyProof.WalkInts
import PyProof.Rows.CallKwBuiltin
import PyProof.Defs
import Wide.FinOn
import PySem.Challenge.RW_hourtable_k94_whole_other_nets
set_option Elab.async false
set_option linter.all false
set_option maxRecDepth 100000
set_option bootstrap.genMatcherCode false
open List renaming length_map → aa, getD_eq_getElem?_getD → ag, getElem?_eq_some_iff → ao, getElem?_map → ar, length_append → av, mem_cons_of_mem → aw, map_append → ax, mem_singleton → ay, mem_append_right → az, mem_cons → aE, size_toArray → aG, range → aJ, mem_map → aL, mem_append_left → aM, mem_append → aQ, take_length → aX, take_add_one → aY, length_cons → bf, mem_of_getElem? → bp, length_range → bq, mem_cons_self → bt, length_take → bw, mem_range → bF, getElem_mem → bH, foldl_cons → bJ, nodup_cons → bP, replicate → bQ, getElem?_append_right → bT, map_cons → bX, mem_filter → bZ, nodup_iff_pairwise_ne → cb, map_map → cg, map_congr_left → cw, not_mem_nil → cU, append_nil → dH, lookup_cons → dM, pairwise_map → dQ, getElem?_set_ne → dY, length_drop → d7, getElem?_set_self → d8, getElem?_append_left → eC, getElem?_range → eE, foldl_append → eI, lookup → eR, toList_toArray → fj, length_filter_le → fG, filter_append → gp, length_replicate → gv, dropLast_concat → gL, any_cons → gP, length_reverse → gZ, length_eq_zero_iff → g9, filter_cons → hV, take_of_length_le → ig, sum_append → ir, length_set → iu, find?_cons → iw, length_singleton → iF, any_eq_false → iL, replicate_succ → jn, map_id → jx, toArray → jJ, reverse_cons → jK, nodup_append → jL, mem_of_mem_take → kh, filter_eq_self → nR
open PySem renaming Value → af, wpAny_bind → ah, Addr → ak, Shared → aq, wpAny_pure → aP, Program → aV, wpAny → bc, FuncData → bh, sizeLine → bo, starEach → bD, model → bE, World → bG, Heap → bO, mainGlobals → bS, Str → bV, Around → bY, wpAny_mono → cy, mem_of_lookup → cB, Stmt → cJ, NameKind → cO, boot_len → cV, wpAny_holding → eu, eval → eG, wpAny_Call_Name_kw → eV, wpAny_field → e8, lookup_relabel_local → fc, Builtin → fg, wpAny_truthy_bool → fu, wpAny_newObj_type → fv, Arguments → fH, sizeLine_eq → fM, Scope → fN, compareOp → fT, wpAny_seqItems → fZ, backTo → gg, wpAny_callSpecial?_slot → gi, Spec → gn, foldedSetIterable → gX, binaryOp → gY, wpAny_call_entry → ik, wpAny_passesOwn → iW, wpAny_loadPart' → jH, codeAny → jI, wpAny_setField_rec → jN, sysModules → jP, wpAny_tryCatch → j3, recursionLimit → j5, Paired → j8, call_meets → ky, wpAny_letGo → kE, importedModules → kO, codeAny_builtin → kT
open PySem.W renaming Frag → ai, mg_none_of → cu, nsIn → cN, findIn → cP, fnOf → dZ, kia_one → eN, codeHdIn → eP, keepIn → eY, emptyDict → eZ, instObj → gz, mg_of → gJ, codeIn → iK, plainGet → jT, callWith_K → kz
open PySem.Heap renaming get?_push_of_some → au, lt_size → aO, get?_push_size → aW, SameBut → d9, size_push → gq, get?_update_ne → g6, get?_update_other → jM
open Nat renaming le_refl → aC, lt_of_lt_of_le → aU, le_trans → bj, zero_le → bK, ne_of_lt → bL, lt_of_le_of_lt → b9, ne_of_gt → df, lt_irrefl → gj, lt_of_le_of_ne → gu, mul_assoc → gR, lt_succ_of_lt → iU, le_of_lt → jf, lt_succ_iff_lt_or_eq → ju, mul_comm → jU, lt_trans → jV, succ_le_succ → j9, lt_succ_self → ka, le_succ → kt
open Bool renaming false_ne_true → aS, and_eq_true → eh, not_eq_true' → gM, eq_false_iff → iN, eq_iff_iff → ku, and_eq_true_iff → mW
open Option renaming map_eq_some_iff → br, map_some → gC
open PySem.F renaming plainAttrs_list → bB, type_list_append → cz, slot_list_append → cA, type_list_pop → fq, slot_list_pop → ft, plain_min_loop → ie, slot_tuple_iterator_next → ji, args_tuple_add_2 → kW, entry_tuple_add → lH
open PyProof.Rows renaming seqObj → bM, slot_tuple_getitem → dN, callWith_type1 → eO, boot_tuple → eX, get?_update_seq → gT
open PySem.PassesOwn renaming never → bR
open Int renaming eq_ofNat_of_zero_le → cp, toNat_natCast → cM, emod_lt_of_pos → dv, emod_nonneg → dJ, zero_mul → fk, toNat_of_nonneg → fm, mul_ediv_add_emod → fJ, le_refl → gk, mul_one → gN, le_trans → gO, mul_le_mul_of_nonneg_left → ij, zero_add → il, mul_zero → iq, mul_le_mul → i7, mul_comm → jg, mul_assoc → jv, mul_add → jB, emod_eq_of_lt → jW, mul_le_mul_of_nonneg_right → kd, mul_lt_mul_of_pos_right → kK, add_mul_emod_self_left → kX
open Ne renaming symm → cx
open Option.some renaming inj → cE
open PySem.Obj renaming mapSeq → cQ
open False renaming elim → cX
open PySem.Builtin.Range renaming rangeSize → cY, small → gB, rangeFitsLong → jX
open PySem.Builtin.SmallTypes renaming nextOf → cZ, ownedTupleIsFree → kY
open Array renaming length_toList → de, getElem?_eq_getElem → dg, getElem?_toList → iE, toArray_toList → kg
open PySem.Str renaming ofString → dt
open Classical renaming byContradiction → fe
open PySem.Challenge renaming rw_hourtable_k94_whole_other_nets → fY
open Pure renaming pure → gf
open PySem.Heap.SameBut renaming update → gF
open PySem.Builtin.Slice renaming slicePlaces → ix, sliceAdjust → kf
open PySem.Builtin.Tuple renaming tupleExact → iM
open PySem.W.Fast renaming te14364793385576792824 → iQ, te14289696077712309145 → iR, te14082659384304107361 → iS, te10274390034422433532 → iT, te1435165496053646825 → iZ, te4187177175401517315 → mm
open PySem.Builtin.List renaming listTooLong → iV
open PySem.Builtin.Int renaming intBits → jY
noncomputable section
abbrev rT:=@if_neg
abbrev rV:=@if_pos
abbrev rW:=@absurd
abbrev rX:=@decide_eq_true
abbrev rY:=@decide_eq_false
abbrev rZ:=@of_decide_eq_true
abbrev sd:=@congrArg
set_option maxHeartbeats 4000000
theorem gE {α:Type}{l:List α}{i:Nat}(h:i<l.length):l[i]? =some l[i]:=List.getElem?_eq_getElem h
variable {A:bY}{B:Prop}{C Da Ls T0 T1 Tb0 a dx f f1 f2 f3 f4 kS:ak}{E Q:af→aq→Prop}{F:List Int→List Int}{K:ai}{L b b' be d lo z:Int}{M:PySem.Model}{N fr loose ps:List PySem.Str}{P prog:aV}{R:PySem.Result→aq→Prop}{T:String}{Ts ch fp:List ak}{XP:(PySem.Str→Option af)→bO→Prop}{YP:bG→bO→Prop}{aR pins':List (ak×PySem.Obj)}{apos lp p0 p1 p2 pos pos' tpos:PySem.Pos}{base h h':bO}{body e ea elt iter re tg value:PySem.Expr}{cl:List (PySem.Str×ak)}{d':PySem.Drawn}{e1 i j m n t':Nat}{env:PySem.Env}{es ifs:List PySem.Expr}{fd fd1 fd2 fd3 fd4:bh}{fz:ak→Option PySem.Obj}{g':Array PySem.GenState}{gs ns os t1 t2 ts:List Int}{hi:Option Int}{items:Array af}{its old us vs:List af}{js l tk π:List Nat}{key:Nat→Int}{keys:List (Option PySem.Expr)}{ks:List (Int×Int)}{kw:List (PySem.Str×af)}{lq name q q0 q1 qual x:PySem.Str}{mA mg:PySem.Str→Option af}{o':Option (List Int)}{oI:PySem.Obj}{op:PySem.CmpOp}{osl:Array (Option af)}{outer:List PySem.Env}{p:Array Nat}{params:fH}{s s':aq}{scope:fN}{st:cJ}{u:af}{w:bG}{α:Type}
namespace L2
open PySem PySem.Spec PyProof.Rows
def jF (s:cJ):fH:=match s with
 | .FunctionDef _ a _ _ _ _ _ _ _ _=>a
 | _=>{ posonlyargs:=[],args:=[],vararg:=none,kwonlyargs:=[],kw_defaults:=[],kwarg:=none,defaults:=[] }
def fX (s:cJ):List cJ:=match s with
 | .FunctionDef _ _ b _ _ _ _ _ _ _=>b
 | _=>[]
def defScope (s:cJ):fN:=match s with
 | .FunctionDef _ _ _ _ _ _ sc _ _ _=>sc
 | _=>{ kind:= .function,names:=[],isGenerator:=false,isCoroutine:=false }
end L2
namespace HN
open PySem L2 PyProof.Rows
def top (i:Nat):cJ:=PySem.Challenge.pw_hourtable_k94_whole_other_nets.main.body.getD i (.Pass ⟨0,0,0,0⟩)
def clsOf (s:cJ)(i:Nat):cJ:=match s with
 | .ClassDef _ _ _ body _ _ _ _ _ _ _=>body.getD i (.Pass ⟨0,0,0,0⟩)
 | s=>s
structure Df (K:ai)(x:Str)(st:cJ)(f:ak):Prop where
 n:cN K bS x=some (some (.ref f))
 l:∃ (oc:af) (od an:Option ak) (sl:Array (Option af)) (kV dc pm cd ct:af),K.lookup f=some ⟨oc,od,.func (dZ x x (jF st) (fX st) (defScope st) .none kV dc pm an cd ct),sl⟩∧iK K cd x=true∧eY K (.ref f)=true
def Facts (K:ai):Prop:=∀ C:Prop,(∀ {f1 f2 f3 f4 f5 f6 f7 f8 f9 f10 f11 f12 f13 f14 f15 f16 f17 f18 f19 f20 f21 f22 f23 f24 f25 f26 f27 f28 f29 f30 f31 f32 f33 f34 f35 f36 f37 f38 f39 f40 f41 f42 f43 f44 f45 f46 f47 f48 f49 f50 f51 f52 f53 f54 f55 f56 f57 f58 f59 f60 f61 f62 f63 f64 f65 f66:ak} {t1 t2 t3:Tok} {xC xi xs xt:ak} {odI anI odS anS odT anT:Option ak} {slI slS slT:Array (Option af)} {ocI kVI dcI pmI ctI ocS kVS dcS pmS cdS ctS ocT kVT dcT pmT cdT ctT:af},(Df K "width_of" (top 10) f1) →
 (Df K "leads_from" (top 13) f2) →
 (Df K "leads_to" (top 14) f3) →
 (Df K "first_bounds" (top 15) f4) →
 (Df K "sum_of" (top 16) f5) →
 (Df K "beats_of" (top 17) f6) →
 (Df K "is_dead" (top 18) f7) →
 (Df K "spans_by_width" (top 21) f8) →
 (Df K "forest_of" (top 22) f9) →
 (Df K "steps_from" (top 23) f10) →
 (Df K "way_between" (top 24) f11) →
 (Df K "ring_by" (top 25) f12) →
 (Df K "cases_of" (top 26) f13) →
 (Df K "rings_of" (top 27) f14) →
 (Df K "spread_of" (top 28) f15) →
 (Df K "rest_by" (top 30) f16) →
 (Df K "with_bound" (top 35) f17) →
 (Df K "rings_over" (top 40) f18) →
 (Df K "middle_of" (top 42) f19) →
 (Df K "dead_leaf" (top 43) f20) →
 (Df K "table_by" (top 44) f21) →
 (Df K "tables_that_fit" (top 45) f22) →
 (Df K "tree_from" (top 46) f23) →
 (Df K "tree_by" (top 47) f24) →
 (Df K "table_for" (top 48) f25) →
 (Df K "is_sure" (top 19) f26) →
 (Df K "wait_in" (top 31) f27) →
 (Df K "waits_of" (top 32) f28) →
 (Df K "wait_of" (top 33) f29) →
 (Df K "own_prices" (top 36) f30) →
 (Df K "worth_of" (top 37) f31) →
 (Df K "price_leaf" (top 50) f32) →
 (Df K "leaf_by" (top 51) f33) →
 (Df K "best_for" (top 52) f34) →
 (Df K "is_whole" (top 6) f35) →
 (Df K "with_spans" (top 11) f36) →
 (Df K "mirrored_span" (top 54) f37) →
 (Df K "mirrored" (top 55) f38) →
 (Df K "table_mirrored" (top 56) f39) →
 (Df K "stretched_span" (top 57) f40) →
 (Df K "stretched" (top 58) f41) →
 (Df K "table_stretched" (top 59) f42) →
 (Df K "span_named" (top 60) f43) →
 (Df K "is_order" (top 61) f44) →
 (Df K "check_order" (top 62) f45) →
 (Df K "named_anew" (top 63) f46) →
 (Df K "table_named_anew" (top 64) f47) →
 (Df K "side_by_side" (top 65) f48) →
 (Df K "_law_cell_at" (top 67) f49) →
 (Df K "_law_mixed" (top 68) f50) →
 (Df K "_law_pot" (top 69) f51) →
 (Df K "_law_take" (top 70) f52) →
 (Df K "_law_span" (top 71) f53) →
 (Df K "_law_tied" (top 72) f54) →
 (Df K "_law_more" (top 73) f55) →
 (Df K "_law_net" (top 74) f56) →
 (Df K "_law_waits" (top 75) f57) →
 (Df K "_law_fits" (top 76) f58) →
 (Df K "_law_is_table" (top 78) f59) →
 (Df K "_law_wait" (top 77) f60) →
 (Df K "_law_asked" (top 79) f61) →
 (Df K "_law_carried" (top 80) f62) →
 (Df K "_law_other" (top 81) f63) →
 (Df K "_law_order" (top 82) f64) →
 (Df K "_law_both" (top 83) f65) →
 (Df K "law" (top 84) f66) →
 (cN K bS "MOST_CASES" =some (some (.int 4096 t1))) →
 (cN K bS "MOST_SPANS" =some (some (.int 40 t2))) →
 (cN K bS "MOST_HAPPENINGS" =some (some (.int 16 t3))) →
 (cN K bS "isinstance" =some none) →
 (cN K bS "int" =some none) →
 (cN K bS "bool" =some none) →
 (cN K bS "tuple" =some none) →
 (cN K bS "len" =some none) →
 (cN K bS "min" =some none) →
 (cN K bS "all" =some none) →
 (cN K bS "range" =some none) →
 (cN K bS "enumerate" =some none) →
 (cN K bS "zip" =some none) →
 (cN K bS "sum" =some none) →
 (cN K bS "list" =some none) →
 (cN K bS "max" =some none) →
 (cN K bS "set" =some none) →
 (cN K bS "sorted" =some none) →
 (cN K bS "reversed" =some none) →
 (cN K bS "Cuts" =some (some (.ref xC))) →
 (jT K xC Str.empty=true) →
 (PySem.W.hasDictIn K xC=true) →
 (PySem.W.plainOver K xC=true) →
 (cP K (.ref xC) "__setattr__" =some (some (.builtin "object.__setattr__"))) →
 (cP K (.ref xC) "first_case" =some none) →
 (cP K (.ref xC) "touched" =some none) →
 (cP K (.ref xC) "order" =some none) →
 (PySem.W.makesIn K xC=true) →
 (cP K (.ref xC) "__init__" =some (some (.ref xi))) →
 (PySem.W.isFn K (.ref xi)=true) →
 (eY K (.ref xC)=true) →
 (K.lookup xi=some ⟨ocI,odI,.func (dZ "__init__" "Cuts.__init__" (jF (clsOf (top 41) 0)) (fX (clsOf (top 41) 0)) (defScope (clsOf (top 41) 0)) .none kVI dcI pmI anI (.ref 247) ctI),slI⟩) →
 (iK K (.ref 247) "Cuts.__init__" =true) →
 (eY K (.ref xi)=true) →
 (cP K (.ref xC) "span_to_cut" =some (some (.ref xs))) →
 (PySem.W.isFn K (.ref xs)=true) →
 (eY K (.ref xs)=true) →
 (K.lookup xs=some ⟨ocS,odS,.func (dZ "span_to_cut" "Cuts.span_to_cut" (jF (clsOf (top 41) 1)) (fX (clsOf (top 41) 1)) (defScope (clsOf (top 41) 1)) .none kVS dcS pmS anS cdS ctS),slS⟩) →
 (iK K cdS "Cuts.span_to_cut" =true) →
 (cP K (.ref xC) "sides" =some (some (.ref xt))) →
 (PySem.W.isFn K (.ref xt)=true) →
 (eY K (.ref xt)=true) →
 (K.lookup xt=some ⟨ocT,odT,.func (dZ "sides" "Cuts.sides" (jF (clsOf (top 41) 2)) (fX (clsOf (top 41) 2)) (defScope (clsOf (top 41) 2)) .none kVT dcT pmT anT cdT ctT),slT⟩) →
 (iK K cdT "Cuts.sides" =true) →
 (∃ (oc:af) (od an:Option ak) (sl:Array (Option af)) (kV dc pm ct:af),K.lookup f8=some ⟨oc,od,.func (dZ "spans_by_width" "spans_by_width" (jF (top 21)) (fX (top 21)) (defScope (top 21)) .none kV dc pm an (.ref 144) ct),sl⟩) →
 (eP K 144 140=true) →
 (eP K 247 245=true) →
 (∃ (oc:af) (od an:Option ak) (sl:Array (Option af)) (kV dc pm ct:af),K.lookup f25=some ⟨oc,od,.func (dZ "table_for" "table_for" (jF (top 48)) (fX (top 48)) (defScope (top 48)) .none kV dc pm an (.ref 315) ct),sl⟩) →
 (eP K 315 311=true) →
 (∃ (oc:af) (od an:Option ak) (sl:Array (Option af)) (kV dc pm ct:af),K.lookup f34=some ⟨oc,od,.func (dZ "best_for" "best_for" (jF (top 52)) (fX (top 52)) (defScope (top 52)) .none kV dc pm an (.ref 334) ct),sl⟩) →
 (eP K 334 330=true)→C)→C
def Wp:Prop:=∀ {q:aV} {loose:List Str} {XP:(Str→Option af)→bO→Prop} {YP:bG→bO→Prop} {d:DefRec} {K:Params→ai},d.params.defaults=[]→d.name = "law" →(∀ (w:bG) (h:bO),YP w h→(K w.params).In h∧∀ T∈([140,245,311,330]:List ak),h.get? T=some (PySem.W.tabObj #[]))→(∀ w:bG,∀ T∈([140,245,311,330]:List ak),∃ c,eP (K w.params) c T=true)→(∀ w:bG,PySem.W.noTabs (K w.params)=true)→(∀ w:bG,Facts (K w.params))→PySem.W.WalkO q loose XP YP (fY).row.toRowW d [] (fun f vs=>PySem.call f vs)
end HN
section
open PySem PySem.W PyProof.Rows
def HN.seenOf:aV:={ PySem.Challenge.pw_hourtable_k94_whole_other_nets with main:={ PySem.Challenge.pw_hourtable_k94_whole_other_nets.main with body:=[1,2,3,4,6,8,9,10,11,13,14,15,16,17,18,19,21,22,23,24,25,26,27,28,30,31,32,33,35,36,37,39,40,41,42,43,44,45,46,47,48,50,51,52,54,55,56,57,58,59,60,61,62,63,64,65,67,68,69,70,71,72,73,74,75,76,77,78,79,80,81,82,83,84].map HN.top } }
def HN.isSeen (s:aq):Bool:=xlAt HN.seenOf [] s && recOk (RowW.records (OpenRow.toRowW (OpenLaw.row fY))) s
local macro_rules
 | `(tactic| o_head $H:term) => `(tactic| (refine holds_open (q := HN.seenOf) (loose := []) (XP := XL HN.seenOf []) (Xt := HN.isSeen) (Yf := Hook.obs $H) (Ya := Hook.val $H) (YP := Hook.says $H) (N := 3347) ?_ (Hook.of $H) (Hook.keeps $H) (fun s e => xl_of s (mW.mp e).1) XL.keeps (by rfl) (by rfl) (by rfl) (fun s e => recFacts_of (mW.mp e).2) ?_ ?_ ?_ ?_ ?_ ?_))
theorem HN.left_two {σ β:Type}{e:Option σ}{f:σ→α}{g:σ→β}{a:α}{b:β}(h1:e.map f=some a)(h2:e.map g=some b):e.map (fun s=>(f s,g s))=some (a,b):=by
 cases e with
 | none=>cases h1
 | some s=>injection h1 with h1;injection h2 with h2;show some (f s,g s)=_;rw [h1,h2]
theorem HN.left_pr {σ β:Type}{e:Option σ}{f:σ→α×β}{a:α×β}(h1:e.map (fun s=>(f s).1)=some a.1)(h2:e.map (fun s=>(f s).2)=some a.2):e.map f=some a:=by
 cases e with
 | none=>cases h1
 | some s=>injection h1 with h1;injection h2 with h2;exact sd some (Prod.ext h1 h2)
set_option maxRecDepth 100000 in
set_option maxHeartbeats 0 in
theorem HN.head0 (W:HN.Wp)(Lf:∀ w:bG,(openEnds treeTable PySem.Challenge.rw_hourtable_k94_whole_other_nets.row.prog w 3347).map (openSeen HN.seenOf [] (kO PySem.Challenge.rw_hourtable_k94_whole_other_nets.row.prog.main.body) HN.isSeen true)=some (openGood HN.seenOf [])):PySem.Challenge.rw_hourtable_k94_whole_other_nets.Holds:=by
 w_on;refine holds_law (by decide +kernel) fun said=>?_;k_head
 ·exact fun w=>HN.left_two (Lf w) (by unfold openEnds fencedOpening topFrom;rewrite [iT,iR,iQ,iZ,iS];kernel_rfl)
 ·rfl
 ·assumption
 ·decide +kernel
 ·exact ⟨rfl,rfl,rfl,rfl,rfl,by decide +kernel⟩
 ·w_witness2
 k_fill
 refine W rfl rfl (fun w h Y=>⟨PySem.W.km_in_of Y,fun T hT=>PySem.W.km_tabs_of Y T (by revert hT;revert T;decide)⟩) (fun w T hT=>by
  simp only [aE,cU,or_false] at hT
  rcases hT with rfl | rfl | rfl | rfl
  ·exact ⟨144,by kernel_rfl⟩
  ·exact ⟨247,by kernel_rfl⟩
  ·exact ⟨315,by kernel_rfl⟩
  ·exact ⟨334,by kernel_rfl⟩
  ) (fun w=>by kernel_rfl) ?F
 case F =>
  intro w C k;refine' k ?_ ?_ ?_ ?_ ?_ ?_ ?_ ?_ ?_ ?_ ?_ ?_ ?_ ?_ ?_ ?_ ?_ ?_ ?_ ?_ ?_ ?_ ?_ ?_ ?_ ?_ ?_ ?_ ?_ ?_ ?_ ?_ ?_ ?_ ?_ ?_ ?_ ?_ ?_ ?_ ?_ ?_ ?_ ?_ ?_ ?_ ?_ ?_ ?_ ?_ ?_ ?_ ?_ ?_ ?_ ?_ ?_ ?_ ?_ ?_ ?_ ?_ ?_ ?_ ?_ ?_ ?y1 ?y2 ?y3 ?z1 ?z2 ?z3 ?z4 ?z5 ?z6 ?z7 ?z8 ?z9 ?z10 ?z11 ?z12 ?z13 ?z14 ?z15 ?z16 ?w1 ?w2 ?w3 ?w4 ?w5 ?w6 ?w7 ?w8 ?w9 ?w10 ?w11 ?w12 ?w13 ?w14 ?w15 ?w16 ?w17 ?w18 ?w19 ?w20 ?w21 ?w22 ?w23 ?w24 ?w25 ?wc0 ?wh0 ?wh1 ?wc2 ?wh2 ?wc3 ?wh3
  all_goals first | exact ⟨by k_is,_,_,_,_,_,_,_,_,_,by k_is,by k_is,by k_is⟩ | skip
  (case y1=>k_is);(case y2=>k_is);(case y3=>k_is);(case z1=>k_is);(case z2=>k_is);(case z3=>k_is);(case z4=>k_is);(case z5=>k_is);(case z6=>k_is);(case z7=>k_is);(case z8=>k_is);(case z9=>k_is);(case z10=>k_is);(case z11=>k_is);(case z12=>k_is);(case z13=>k_is);(case z14=>k_is);(case z15=>k_is);(case z16=>k_is)
  (case w1=>k_is)
  (case w2=>k_is)
  (case w3=>k_is)
  (case w4=>k_is)
  (case w5=>k_is)
  (case w6=>k_is)
  (case w7=>k_is)
  (case w8=>k_is)
  (case w9=>k_is)
  (case w10=>k_is)
  (case w11=>k_is)
  (case w12=>k_is)
  (case w13=>k_is)
  (case w14=>k_is)
  (case w15=>k_is)
  (case w16=>k_is)
  (case w17=>k_is)
  (case w18=>k_is)
  (case w19=>k_is)
  (case w20=>k_is)
  (case w21=>k_is)
  (case w22=>k_is)
  (case w23=>k_is)
  (case w24=>k_is)
  (case w25=>k_is)
  (case wc0=>exact ⟨_,_,_,_,_,_,_,_,by k_is⟩)
  (case wh0=>kernel_rfl)
  (case wh1=>kernel_rfl)
  (case wc2=>exact ⟨_,_,_,_,_,_,_,_,by k_is⟩)
  (case wh2=>kernel_rfl)
  (case wc3=>exact ⟨_,_,_,_,_,_,_,_,by k_is⟩)
  (case wh3=>kernel_rfl)
set_option maxHeartbeats 0 in
theorem HN.left1 (w:bG):(openEnds treeTable PySem.Challenge.rw_hourtable_k94_whole_other_nets.row.prog w 3347).map (fun s=>(openSeen HN.seenOf [] (kO PySem.Challenge.rw_hourtable_k94_whole_other_nets.row.prog.main.body) HN.isSeen true s).1)=some (openGood HN.seenOf []).1:=by
 unfold openEnds fencedOpening topFrom;rewrite [iT,iR,iQ,iZ,iS,mm];kernel_rfl
set_option maxHeartbeats 0 in
theorem HN.left2 (w:bG):(openEnds treeTable PySem.Challenge.rw_hourtable_k94_whole_other_nets.row.prog w 3347).map (fun s=>(openSeen HN.seenOf [] (kO PySem.Challenge.rw_hourtable_k94_whole_other_nets.row.prog.main.body) HN.isSeen true s).2)=some (openGood HN.seenOf []).2:=by
 unfold openEnds fencedOpening topFrom;rewrite [iT,iR,iQ,iZ,iS,mm];kernel_rfl
theorem HN.leftA (w:bG):(openEnds treeTable PySem.Challenge.rw_hourtable_k94_whole_other_nets.row.prog w 3347).map (openSeen HN.seenOf [] (kO PySem.Challenge.rw_hourtable_k94_whole_other_nets.row.prog.main.body) HN.isSeen true)=some (openGood HN.seenOf []):=HN.left_pr (f:=openSeen HN.seenOf [] (kO PySem.Challenge.rw_hourtable_k94_whole_other_nets.row.prog.main.body) HN.isSeen true) (HN.left1 w) (HN.left2 w)
end
local macro_rules
 | `(⋯) => `(by lia)
local macro_rules
 | `(∅) => `(by simp)
local macro_rules
 | `(↥$_) => `(by decide)
local macro_rules
 | `(tactic|apply $e) => `(tactic|refine $e)
set_option hygiene false in
local macro_rules
 | `(tactic|specialize $e) => `(tactic|refine $e (by contradiction) (fun cdv A outer s H vs Q E hr h=>?_))
namespace L2
open PySem PySem.Spec PyProof.Rows
abbrev Key:=Sum Int Str
def keyIs:Key→af→Bool
 | .inl k,v=>af.isInt k v
 | .inr x,v=>af.isStrOf x v
def keyH (w:bG):Key→Int
 | .inl k=>hashInt k
 | .inr x=>hashStr w x
theorem gW:∀{k:Key} {v:af},keyIs k v=true→(∃i t,k=Sum.inl i∧v=af.int i t)∨(∃x t,k=Sum.inr x∧v=af.str x t)
 | .inl i,v,h=>by
  obtain⟨t,e⟩:=af.isInt_shape (k:=i) (v:=v) h;exact .inl ⟨i,t,rfl,e⟩
 | .inr x,v,h=>by
  obtain⟨t,e⟩:=af.isStrOf_shape (x:=x) (v:=v) h;exact .inr ⟨x,t,rfl,e⟩
theorem keyIs_int (i:Int)(t:Tok):keyIs (.inl i) (.int i t)=true:=by simp[keyIs,af.isInt]
theorem keyIs_str (x:Str)(t:Tok):keyIs (.inr x) (.str x t)=true:=by simp[keyIs,af.isStrOf]
theorem key_ll (a b:Int):decide ((Sum.inl a:Key)=Sum.inl b)=(a == b):=by
 by_cases e:a=b
 ·subst e;simp
 ·have h:¬(Sum.inl a:Key)=Sum.inl b:=λq=>e (Sum.inl.inj q)
  rw[rY h];exact(beq_eq_false_iff_ne.mpr e).symm
theorem key_rr (a b:Str):decide ((Sum.inr a:Key)=Sum.inr b)=decide (a=b):=by
 by_cases e:a=b
 ·subst e;simp
 ·have h:¬(Sum.inr a:Key)=Sum.inr b:=λq=>e (Sum.inr.inj q)
  rw[rY h,rY e]
theorem key_lr (a:Int)(b:Str):decide ((Sum.inl a:Key)=Sum.inr b)=false:=rY (λq=>nomatch q)
theorem key_rl (a:Str)(b:Int):decide ((Sum.inr a:Key)=Sum.inl b)=false:=rY (λq=>nomatch q)
def ja (prog:aV)(w:bG):PySem.KeyKind prog w Key where
 is:=keyIs
 hash:=keyH w
 inj:=λv a b ha hb=>by
  rcases gW ha with ⟨i,t,rfl,rfl⟩ | ⟨x,t,rfl,rfl⟩
  ·rcases gW hb with ⟨j,u,rfl,e⟩ | ⟨y,u,rfl,e⟩
   ·injection e with e1 _;rw[e1]
   ·exact nomatch e
  ·rcases gW hb with ⟨j,u,rfl,e⟩ | ⟨y,u,rfl,e⟩
   ·exact nomatch e
   ·injection e with e1 _;rw[e1]
 byValue:=λk v h=>by
  rcases gW h with ⟨i,t,rfl,rfl⟩ | ⟨x,t,rfl,rfl⟩ <;> rfl
 pyHash:=λhv h=>by
  rcases gW hv with ⟨i,t,rfl,rfl⟩ | ⟨x,t,rfl,rfl⟩
  ·exact wpAny_pyHash_int h
  ·exact wpAny_pyHash_str h
 eqBool:=λhu hv h=>by
  rcases gW hu with ⟨i,t,rfl,rfl⟩ | ⟨x,t,rfl,rfl⟩
  ·rcases gW hv with ⟨j,u,rfl,rfl⟩ | ⟨y,u,rfl,rfl⟩
   ·rw[key_ll] at h;exact wpAny_eqBool_int h
   ·rw[key_lr] at h;exact SeqAt.EqAt.int_str i t y u _ _ _ _ h
  ·rcases gW hv with ⟨j,u,rfl,rfl⟩ | ⟨y,u,rfl,rfl⟩
   ·rw[key_rl] at h;exact SeqAt.EqAt.str_int x t j u _ _ _ _ h
   ·rw[key_rr] at h;exact wpAny_eqBool_str h
 «strs» := λk x t v h=>by
  rcases gW h with ⟨i,u,rfl,e⟩ | ⟨y,u,rfl,e⟩
  ·exact nomatch e
  ·injection e with e1 _
   subst e1;cases v <;> rfl
theorem mixKind_int (prog:aV)(w:bG)(i:Int)(t:Tok):(ja prog w).is (.inl i) (.int i t)=true:=keyIs_int i t
theorem mixKind_str (prog:aV)(w:bG)(x:Str)(t:Tok):(ja prog w).is (.inr x) (.str x t)=true:=keyIs_str x t
inductive V where
 | non | bl (b:Bool) | int (i:Int) | str (x:Str) | byt (b:Array UInt8) | flt (b:UInt64) | ref (a:ak) | ty (n:String)
 deriving DecidableEq
def gQ:V→af→Prop
 | .non,u=>u=af.none
 | .bl b,u=>u=af.bool b
 | .int i,u=>∃t,u=af.int i t
 | .str x,u=>∃t,u=af.str x t
 | .byt b,u=>∃t,u=af.bytes b t
 | .flt b,u=>∃t,u=af.float b t
 | .ref a,u=>u=af.ref a
 | .ty n,u=>u=af.type n
abbrev gw:List V→List af→Prop:=j8 gQ
theorem gw.length {xs:List V}(r:gw xs us):xs.length=us.length:=Paired.length r
theorem gw.get:∀{xs:List V} {us:List af} {i:Nat} {x:V},gw xs us→xs[i]? =some x→∃u,us[i]? =some u∧gQ x u
 | _,_,_,_,.nil,e=>by simp at e
 | _,_,0,_,.cons r _,e=>by simp at e;subst e;exact⟨_,rfl,r⟩
 | _,_,i+1,x,.cons _ t,e=>by
  obtain⟨u,h1,h2⟩:=gw.get (i:=i) (x:=x) t (by simpa using e);exact⟨u,by simpa using h1,h2⟩
theorem gw.set {x:V}{u:af}(r:gQ x u):∀{xs:List V} {us:List af} (i:Nat),gw xs us→gw (xs.set i x) (us.set i u)
 | _,_,_,.nil=> .nil
 | _,_,0,.cons _ t=> .cons r t
 | _,_,i+1,.cons q t=> .cons q (gw.set r i t)
theorem gw.append:∀{xs ys:List V} {us ws:List af},gw xs us→gw ys ws→gw (xs++ys) (us++ws)
 | _,_,_,_,.nil,s=>s
 | _,_,_,_,.cons r t,s=> .cons r (gw.append t s)
theorem gw.take:∀{xs:List V} {us:List af} (n:Nat),gw xs us→gw (xs.take n) (us.take n)
 | _,_,0,_=> .nil
 | _,_,_+1,.nil=> .nil
 | _,_,n+1,.cons r t=> .cons r (gw.take n t)
theorem gw.drop:∀{xs:List V} {us:List af} (n:Nat),gw xs us→gw (xs.drop n) (us.drop n)
 | _,_,0,r=>r
 | _,_,_+1,.nil=> .nil
 | _,_,n+1,.cons _ t=>gw.drop n t
def RelO:Option V→Option af→Prop
 | some v,some u=>gQ v u
 | none,none=>True
 | _,_=>False
def KV {κ:Type}:List (κ×V)→List (κ×af)→Prop:=j8 λ(p:κ×V) (q:κ×af)=>p.1=q.1∧gQ p.2 q.2
def kV:Key→V
 | .inl i=> .int i
 | .inr x=> .str x
inductive HO where
 | lst (xs:List V)
 | tup (xs:List V)
 | dK (kvs:List (Key×V)) | dT (kvs:List (List Key×V))
 | set (S:Int→Bool) (n:Nat)
 | ins (C dx:ak) (fs:List (Str×V))
 | own (x:ak)
 | xd (fs:List (Str×V))
 | met (f x:ak)
 | rng (lo hi:Int)
 | frz (o:Obj) (u:HO)
 | tbl (ps:Array af)
 | ext (φ:bO→Prop)
abbrev Hp:=ak→Option HO
def upd (H:Hp)(a:ak)(o:HO):Hp:=λb=>if b=a then some o else H b
theorem aN {H:Hp}{o:HO}:upd H a o a=some o:=by unfold upd;rw[rV rfl]
theorem bz {H:Hp}{b:ak}{o:HO}(h:b≠a):upd H a o b=H b:=by unfold upd;rw[rT h]
theorem fb {H:Hp}{b:ak}{o u:HO}(h:H a=some o)(h':H b=some u)(d:o≠u):a≠b:=by
 intro e;subst e;rw[h] at h';exact d (cE h')
theorem bx {H:Hp}{b:ak}{o:HO}(h:H a=some o)(h':H b=none):a≠b:=by
 intro e;subst e;rw[h] at h';cases h'
def l3 (h:bO)(a:ak)(items:Array af):Prop:=∃o,h.get? a=some o∧o.cls= .type "tuple" ∧o.dict=none∧∃n,o.data= .seq items n
theorem l3.tup {h:bO}{a:ak}{items:Array af}(p:l3 h a items):IsTup h a items:=let ⟨o,e,c,_,n,d⟩:=p;⟨o,e,c,n,d⟩
theorem l3.lt (p:l3 h a items):a<h.objs.size:=p.tup.lt
theorem l3.new (h:bO)(items:Array af):l3 (h.push { cls:= .type "tuple",data:= .seq items }) h.objs.size items:=⟨_,aW _ rfl,rfl,rfl,_,rfl⟩
section
variable (P:aV) (w:bG)
def jw (H:Hp)(h:bO)(a:ak):HO→Prop
 | .lst xs=>xs.length≤bo∧∃(its:List af) (n:Nat),gw xs its∧h.get? a=some { cls:= .type "list",data:= .seq its.toArray n }
 | .tup xs=>xs.length≤bo∧∃its:List af,gw xs its∧l3 h a its.toArray
 | .dK kvs=>kvs.length≤bo∧(a == jP)=false∧∃vs,KV kvs vs∧h.DictOf (ja P w) a vs
 | .dT kvs=>kvs.length≤bo∧(a == jP)=false∧∃xs:List (List Key×ak×af),
   j8 (λ(p:List Key×V) (q:List Key×ak×af)=>p.1=q.1∧H q.2.1=some (.tup (p.1.map kV))∧gQ p.2 q.2.2) kvs xs ∧
   ∃o es ep,h.get? a=some o∧o.ExactDict∧o.data= .dict es ep∧es.toList=xs.map (entryOfKey (tupleKind (ja P w)))∧(xs.map (·.1)).Nodup
 | .set S n=>h.SetOf (intKind P w) a S n
 | .ins C dx fs=>H dx=some (.own a)∧fs.length≤1000∧dx≠a∧h.get? a=some (gz C dx) ∧
   ∃mA,h.Ns1 dx mA∧(∀f,RelO (fs.lookup f) (mA f))∧PySem.Within mA (fs.map (·.1))
 | .own _=>∃o,h.get? a=some o
 | .xd fs=>∃mA,h.Ns1 a mA∧∀f,RelO (fs.lookup f) (mA f)
 | .rng lo hi=>∃t u v,h.get? a=some { cls:= .type "range",data:= .fields #[.int lo t,.int hi u,.int 1 v] }
 | .frz o u=>h.get? a=some o∧jw H h a u
 | .tbl ps=>h.get? a=some { cls:= .none,data:= .fields ps }
 | .met f x=>h.get? a=some (PySem.W.methodObj (.ref f) (.ref x))
 | .ext φ=>φ h∧(∃o,h.get? a=some o)∧∀h1 h2:bO,φ h1→(∀o,h1.get? a=some o→h2.get? a=some o)→φ h2
def HOk (H:Hp)(h:bO):Prop:=∀a o,H a=some o→jw P w H h a o
end
section
variable {H H':Hp}{o:HO}
theorem jw.lt (x:jw P w H h a o):a<h.objs.size:=by
 cases o with
 | lst xs=>obtain⟨_,_,_,_,e⟩:=x;exact aO e
 | tup xs=>obtain⟨_,_,_,p⟩:=x;exact p.lt
 | dK kvs=>obtain⟨_,_,_,_,o,_,_,e,_⟩:=x;exact aO e
 | dT kvs=>obtain⟨_,_,_,_,o,_,_,e,_⟩:=x;exact aO e
 | set S n=>obtain⟨o,_,_,_,e,_⟩:=x;exact aO e
 | ins C dx fs=>obtain⟨_,_,_,e,_⟩:=x;exact aO e
 | own y=>obtain⟨_,e⟩:=x;exact aO e
 | xd fs=>obtain⟨_,⟨_,_,_,e,_⟩,_⟩:=x;exact aO e
 | rng lo hi=>obtain⟨_,_,_,e⟩:=x;exact aO e
 | frz ob u=>obtain⟨e,_⟩:=x;exact aO e
 | tbl ps=>exact aO (show h.get? a=some _ from x)
 | met f y=>exact aO (show h.get? a=some _ from x)
 | ext φ=>obtain⟨_,⟨_,e⟩,_⟩:=x;exact aO e
theorem Paired.mapP {α β:Type}{F G:α→β→Prop}:∀{l₁:List α} {l₂:List β},j8 F l₁ l₂→(∀a b,F a b→G a b)→j8 G l₁ l₂
 | _,_,.nil,_=> .nil
 | _,_,.cons r t,f=> .cons (f _ _ r) (Paired.mapP t f)
theorem jw.stay (x:jw P w H h a o)(k:∀b u,(b=a∨H b=some (.own a))→h.get? b=some u→h'.get? b=some u)
  (ho:∀b,H b=some (.own a)→H' b=some (.own a)) (ht:∀b xs,H b=some (.tup xs)→H' b=some (.tup xs)):jw P w H' h' a o:=by
 induction o with
 | lst xs=>obtain⟨z,its,n,r,e⟩:=x;exact⟨z,its,n,r,k _ _ (.inl rfl) e⟩
 | tup xs=>obtain⟨z,its,r,ob,e,c⟩:=x;exact⟨z,its,r,ob,k _ _ (.inl rfl) e,c⟩
 | dK kvs=>obtain⟨z,y,vs,r,ob,es,ep,e,c⟩:=x;exact⟨z,y,vs,r,ob,es,ep,k _ _ (.inl rfl) e,c⟩
 | dT kvs =>
  obtain⟨z,y,xs,r,ob,es,ep,e,c⟩:=x;exact⟨z,y,xs,Paired.mapP r λp q z=>⟨z.1,ht _ _ z.2.1,z.2.2⟩,ob,es,ep,k _ _ (.inl rfl) e,c⟩
 | set S n=>obtain⟨ob,es,ep,t,e,c⟩:=x;exact⟨ob,es,ep,t,k _ _ (.inl rfl) e,c⟩
 | ins C dx fs =>
  obtain⟨d,z,ne,e,mA,⟨od,es,ep,e2,c⟩,r⟩:=x;exact⟨ho _ d,z,ne,k _ _ (.inl rfl) e,mA,⟨od,es,ep,k _ _ (.inr d) e2,c⟩,r⟩
 | own y=>obtain⟨ob,e⟩:=x;exact⟨ob,k _ _ (.inl rfl) e⟩
 | xd fs=>obtain⟨mA,⟨od,es,ep,e,c⟩,r⟩:=x;exact⟨mA,⟨od,es,ep,k _ _ (.inl rfl) e,c⟩,r⟩
 | rng lo hi=>obtain⟨t,u,v,e⟩:=x;exact⟨t,u,v,k _ _ (.inl rfl) e⟩
 | frz ob u ih=>obtain⟨e,q⟩:=x;exact⟨k _ _ (.inl rfl) e,ih q⟩
 | tbl ps =>
  have e:h.get? a=some { cls:= .none,data:= .fields ps }:=x;show h'.get? a=some { cls:= .none,data:= .fields ps };exact k a _ (.inl rfl) e
 | met f y =>
  have e:h.get? a=some (PySem.W.methodObj (.ref f) (.ref y)):=x;show h'.get? a=some (PySem.W.methodObj (.ref f) (.ref y));exact k a _ (.inl rfl) e
 | ext φ=>obtain⟨p,⟨o,e⟩,st⟩:=x;exact⟨st _ _ p λo q=>k _ _ (.inl rfl) q,⟨o,k _ _ (.inl rfl) e⟩,st⟩
theorem HOk.lt (x:HOk P w H h)(e:H a=some o):a<h.objs.size:=(x a o e).lt
theorem HOk.fresh (x:HOk P w H h)(e:h.objs.size≤a):H a=none:=by
 cases q:H a with
 | none=>rfl
 | some u=>exact rW (aU (x.lt q) e) (gj _)
theorem HOk.kept (x:HOk P w H h)(k:∀b u,h.get? b=some u→h'.get? b=some u):HOk P w H h':=λa o e =>
 (x a o e).stay (λb u _ q=>k b u q) (λ_ q=>q) λ_ _ q=>q
theorem HOk.laid (x:HOk P w H h)(k:∀b u,h.get? b=some u→h'.get? b=some u)(hp:h.objs.size≤a)(new:jw P w (upd H a o) h' a o):HOk P w (upd H a o) h':=λb u e=>by
 have hn:=x.fresh hp
 by_cases hb:b=a
 ·subst hb;rw[aN] at e;cases e;exact new
 ·rw[bz hb] at e
  exact(x b u e).stay (λc v _ q=>k c v q) (λc q=>by rw[bz (bx q hn)];exact q) λc xs q=>by rw[bz (bx q hn)];exact q
end
def Rd (H:Hp)(a:ak)(u:HO):Prop:=H a=some u∨∃o,H a=some (.frz o u)
theorem Rd.of {H:Hp}{u:HO}(h:H a=some u):Rd H a u:= .inl h
theorem Rd.ok {H:Hp}{u:HO}(r:Rd H a u)(x:HOk P w H h):jw P w H h a u:=by
 rcases r with r | ⟨o,r⟩
 ·exact x a u r
 ·obtain⟨_,q⟩:=x a _ r
  exact q
def Mut:Option HO→Prop
 | some (.lst _)=>True
 | some (.dK _)=>True
 | some (.dT _)=>True
 | some (.set _ _)=>True
 | some (.ins _ _ _)=>True
 | some (.ext _)=>True
 | _=>False
section
variable {H:Hp}{x e:ak}{o':HO}
theorem HOk.write (ok:HOk P w H h)(mu:Mut (H x))(he:e=x∨H e=some (.own x))(k:∀b u,b≠e→h.get? b=some u→h'.get? b=some u)(heo:∃u,h'.get? e=some u)
  (new:jw P w (upd H x o') h' x o'):HOk P w (upd H x o') h':=λb u q=>by
 have nown:∀c y,H c=some (.own y)→c≠x:=λc y r z=>by subst z;rw[r] at mu;exact mu
 have ntup:∀c xs,H c=some (.tup xs)→c≠x:=λc xs r z=>by subst z;rw[r] at mu;exact mu
 by_cases hb:b=x
 ·subst hb;rw[aN] at q;cases q;exact new
 ·rw[bz hb] at q
  by_cases hbe:b=e
  ·have q':H b=some (.own x):=by
    rcases he with z | z
    ·exact rW (hbe.trans z) hb
    ·rw[hbe];exact z
   rw[q] at q';cases q';obtain⟨v,hv⟩:=heo;exact⟨v,by rw[hbe];exact hv⟩
  ·apply(ok b u q).stay (λc v hc r=>k c v ?_ r) (λc r=>by rw[bz (nown c b r)];exact r) λc xs r=>by rw[bz (ntup c xs r)];exact r
   rcases hc with rfl | hc
   ·exact hbe
   ·rintro rfl
    rcases he with z | z
    ·exact nown c b hc z
    ·rw[hc] at z;cases z;exact hb rfl
end
structure Un (fs ex:List ak)(H H':Hp)(h h':bO):Prop where
 keep:∀b o,h.get? b=some o→H b=none→b ∉ fs→b ∉ ex→h'.get? b=some o
 slot:∀b o,h.get? b=some o→H b=none→b∈fs→b ∉ ex→∃sl,h'.get? b=some { o with slots:=sl }
 free:∀b o,h.get? b=some o→H b=none→b ∉ ex→H' b=none
 there:∀b o,h.get? b=some o→b ∉ ex→∃o',h'.get? b=some o'
 tups:∀b xs,H b=some (.tup xs)→H' b=some (.tup xs)
 frzs:∀b o u,H b=some (.frz o u)→H' b=some (.frz o u)
 tbls:∀b ps,H b=some (.tbl ps)→∃more,H' b=some (.tbl (ps++more))
section
variable {fs fs' ex ex':List ak}{H H1 H2:Hp}{h1 h2:bO}{x e:ak}{o:HO}
theorem Un.any (u:Un fs ex H H1 h h1){b:ak}{ob:Obj}(q:h.get? b=some ob)(n:H b=none)(hx:b ∉ ex):∃sl,h1.get? b=some { ob with slots:=sl }:=by
 by_cases hb:b∈fs
 ·exact u.slot b ob q n hb hx
 ·exact⟨ob.slots,u.keep b ob q n hb hx⟩
theorem Un.kept (k:∀b u,h.get? b=some u→h'.get? b=some u):Un fs ex H H h h' :=
 ⟨λb ob q _ _ _=>k b ob q,λb ob q _ _ _=>⟨ob.slots,k b ob q⟩,λ_ _ _ n _=>n,λb ob q _=>⟨ob,k b ob q⟩,λ_ _ q=>q,λ_ _ _ q=>q,λ_ ps q=>⟨#[],by rw[q];simp⟩⟩
theorem Un.refl:Un fs ex H H h h:=Un.kept λ_ _ q=>q
theorem Un.laid (k:∀b u,h.get? b=some u→h'.get? b=some u)(hp:h.objs.size≤a)(hn:H a=none):Un fs ex H (upd H a o) h h' where
 keep:=λb u q _ _ _=>k b u q
 slot:=λb u q _ _ _=>⟨u.slots,k b u q⟩
 free:=λb u q n _=>by rw[bz (bL (aU (aO q) hp))];exact n
 there:=λb u q _=>⟨u,k b u q⟩
 tups:=λb xs q=>by rw[bz (bx q hn)];exact q
 frzs:=λb u xs q=>by rw[bz (bx q hn)];exact q
 tbls:=λb ps q=>⟨#[],by rw[bz (bx q hn),q];simp⟩
theorem Un.write (mu:Mut (H x))(he:e=x∨H e=some (.own x))(k:∀b u,b≠e→h.get? b=some u→h'.get? b=some u)(heo:∃u,h'.get? e=some u):Un fs ex H (upd H x o) h h':=by
 have hx:∀b,H b=none→b≠x:=λb n z=>by subst z;rw[n] at mu;exact mu
 have hb:∀b,H b=none→b≠e:=λb n z=>by
  subst z
  rcases he with r | r
  ·exact hx b n r
  ·rw[n] at r;cases r
 have hm:∀b u,H b=some u→¬Mut (some u)→b≠x:=λb u q nm z=>by subst z;rw[q] at mu;exact nm mu
 apply ⟨fun b u q n _ _=>k b u (hb b n) q,fun b u q n _ _=>⟨u.slots,k b u (hb b n) q⟩,fun b u q n _=>by rw [bz (hx b n)];exact n,fun b u q _=>?_,
  fun b xs q=>by rw [bz (hm b _ q fun z=>z)];exact q,fun b u xs q=>by rw [bz (hm b _ q fun z=>z)];exact q,fun b ps q=>⟨#[],by rw [bz (hm b _ q fun z=>z),q];simp⟩⟩
 by_cases hbe:b=e
 ·subst hbe;exact heo
 ·exact⟨u,k b u hbe q⟩
end
def trk (h:bO)(H:Hp):List ak:=(aJ h.objs.size).filter λa=>(H a).isSome
def hidT (h:bO)(H:Hp):bO:=PySem.W.hideAll h (trk h H)
theorem hidT_size (h:bO)(H:Hp):(hidT h H).objs.size=h.objs.size:=PySem.W.hideAll_size _ _
theorem hidT_get {H:Hp}{b:ak}{o:Obj}(e:h.get? b=some o)(n:H b=none):(hidT h H).get? b=some o :=
 PySem.W.hideAll_get _ e λhm=>by
  have q:(H b).isSome=true:=(bZ.mp hm).2;rw[n] at q;simp at q
theorem of_hidT {H:Hp}{b:ak}{o:Obj}(e:(hidT h H).get? b=some o):h.get? b=some o∧H b=none:=by
 have e':h.get? b=some o:=PySem.W.of_hideAll (trk h H) e;apply⟨e',?_⟩;cases q:H b with
 | none=>rfl
 | some x =>
  have hm:b∈trk h H:=bZ.mpr ⟨bF.mpr (aO e'),by simp[q]⟩;have z:(hidT h H).get? b=none:=PySem.W.hideAll_none (trk h H) hm;rw[z] at e;cases e
structure Mod (K:ai)(mg:Str→Option af)(base:bO):Prop where
 kin:K.In base
 glob:base.Ns bS mg
 blt:∃mb,base.Ns builtinsNs mb∧∀x:Str,x ≠ "__name__" →mb x=bootBuiltins x
 nolimit:base.NoLimit
structure Cx where
 prog:aV
 w:bG
 K:ai
 mg:Str→Option af
 base:bO
 A:bY
 N:List Str
 s₀:aq
 H₀:Hp
 env:Env
 outer:List Env
 stack:List Env
 ex:List ak
 fn:Str→Bool
 calm:Bool
 pn:List (ak×Obj)
 xe:af→aq→Prop
def frs (l:List Env):List ak:=l.filterMap (·.frame)
abbrev Cx.fs (X:Cx):List ak:=frs X.outer
def Vis (sc:fN)(x:Str):Prop:=sc.names.lookup x=some .local∨sc.names.lookup x=some .cell∨sc.names.lookup x=some .free
def Loc (sc:fN)(x:Str):Prop:=sc.names.lookup x=some .local∨sc.names.lookup x=some .cell
def Look (env:Env)(h:bO)(m:Str→Option af)(x:Str)(u:af):Prop :=
 (env.kindOf x=some .local∧m x=some u)∨((env.kindOf x=some .cell∨env.kindOf x=some .free)∧∃c,env.cells.lookup x=some c∧h.IsCell c (some u))
structure Cx.Ok (X:Cx):Prop where
 mod:Mod X.K X.mg X.base
 kind:X.env.scope.kind= .function
 glob:X.env.globals=bS
 blt:X.env.builtins=builtinsNs
 above:X.s₀.heap.objs.size≤X.env.locals
 inj:∀x y c,X.env.cells.lookup x=some c→X.env.cells.lookup y=some c→x=y
 has:∀x,(X.env.kindOf x=some .cell∨X.env.kindOf x=some .free)→∃c,X.env.cells.lookup x=some c
 cab:∀x c,X.fn x=true→X.env.cells.lookup x=some c→X.s₀.heap.objs.size≤c
 hd:X.calm=true→X.A.handled=none
 frames:X.A.frames=some X.stack
 stk:X.stack=X.outer∨(X.stack=X.env::X.outer∧X.env.frame=some X.env.locals)
 exf:∀b∈X.ex,b≠X.env.locals∧∀x c,X.env.cells.lookup x=some c→c≠b
 bs:∀b o,X.base.get? b=some o→X.s₀.heap.get? b=some o∧X.H₀ b=none
 bsz:X.base.objs.size≤X.s₀.heap.objs.size
 noex:∀b o,X.base.get? b=some o→b ∉ X.ex
 exfs:∀b∈X.ex,b ∉ X.fs
 funs:X.s₀.heap.FunFrames X.base X.outer
 frf:∀b∈X.fs,X.H₀ b=none
structure Inv (X:Cx)(aR:List (ak×Obj))(σ:List (Option V))(H:Hp)(s:aq):Prop where
 ok:X.Ok
 os:s.os=X.s₀.os
 bare:AllBare s.gens
 base:Un X.fs X.ex X.H₀ H X.s₀.heap s.heap
 loc:∃m,s.heap.Ns X.env.locals m∧∀(i:Nat) (x:Str) (v:V),X.N[i]? =some x→σ[i]? =some (some v)→Vis X.env.scope x→∃u,gQ v u∧Look X.env s.heap m x u
 cell:∀x c,X.env.cells.lookup x=some c→∃v,s.heap.IsCell c v
 free:H X.env.locals=none
 freeC:∀x c,X.env.cells.lookup x=some c→H c=none
 pin:∀p∈X.pn++aR,s.heap.get? p.1=some p.2∧H p.1=none∧p.1≠X.env.locals∧p.1 ∉ X.fs∧∀v,p.2.data≠ .cell v
 hok:HOk X.prog X.w H s.heap
 len:σ.length=X.N.length
section
variable {X:Cx}{σ:List (Option V)}{H H':Hp}
theorem Cx.Ok.nofr (ok:X.Ok){b:ak}{o:Obj}(e:X.base.get? b=some o):b ∉ X.fs:=λhb=>by
 have:=(ok.funs.mem hb).1;rw[e] at this;cases this
theorem Inv.bs (I:Inv X aR σ H s):∀b o,X.base.get? b=some o→s.heap.get? b=some o∧H b=none:=λb o e =>
 ⟨I.base.keep b o (I.ok.bs b o e).1 (I.ok.bs b o e).2 (I.ok.nofr e) (I.ok.noex b o e),I.base.free b o (I.ok.bs b o e).1 (I.ok.bs b o e).2 (I.ok.noex b o e)⟩
theorem Inv.bk (I:Inv X aR σ H s):∀b o,X.base.get? b=some o→s.heap.get? b=some o:=λb o e=>(I.bs b o e).1
theorem Inv.mod (I:Inv X aR σ H s):Mod X.K X.mg X.base:=I.ok.mod
theorem Inv.kIn (I:Inv X aR σ H s):X.K.In s.heap:=I.ok.mod.kin.keeps I.bk
theorem Inv.nolimit (I:Inv X aR σ H s):s.heap.NoLimit:=I.ok.mod.nolimit.keeps I.bk
theorem Inv.lt (I:Inv X aR σ H s):X.env.locals<s.heap.objs.size:=let ⟨_,hn,_⟩:=I.loc;hn.lt
theorem Inv.sz (I:Inv X aR σ H s):X.s₀.heap.objs.size≤s.heap.objs.size:=bj I.ok.above (jf I.lt)
theorem Inv.nofs (I:Inv X aR σ H s)(h:s.heap.objs.size≤a):a ∉ X.fs:=λhb=>by
 obtain⟨_,o,ho,_⟩:=I.ok.funs.mem hb;exact rW (aU (aO ho) (bj I.sz h)) (gj _)
theorem Inv.cne (I:Inv X aR σ H s):∀x c,X.env.cells.lookup x=some c→c≠X.env.locals:=λx c e z=>by
 obtain⟨v,o,ho,hd⟩:=I.cell x c e;obtain⟨m,⟨o',es,ep,ho',hd',_⟩,_⟩:=I.loc;rw[z,ho'] at ho;cases ho;rw[hd'] at hd;cases hd
theorem Inv.funs (I:Inv X aR σ H s):s.heap.FunFrames X.base X.outer:=by
 have all:∀(l:List Env),(∀b∈frs l,b∈X.fs)→X.s₀.heap.FunFrames X.base l→s.heap.FunFrames X.base l:=by
  intro l
  induction l with
  | nil=>intro _ _;trivial
  | cons env r ih =>
   intro hs hl;obtain⟨hk,⟨L,o,hf,hn,ho,hd⟩,hr⟩:=hl;have hL:L∈X.fs:=hs L (by unfold frs;rw[List.filterMap_cons,hf];exact bt);obtain⟨sl,e⟩:=I.base.slot L o ho (I.ok.frf L hL) hL λz=>I.ok.exfs L z hL
   exact⟨hk,⟨L,_,hf,hn,e,hd⟩,ih (λb hb=>hs b (by unfold frs;rw[List.filterMap_cons,hf];exact aw _ hb)) hr⟩
 exact all X.outer (λ_ hb=>hb) I.ok.funs
theorem Inv.stack (I:Inv X aR σ H s):s.heap.FunFrames X.base X.stack:=by
 rcases I.ok.stk with e | ⟨e,hf⟩
 ·rw[e];exact I.funs
 ·rw[e]
  obtain⟨m,hn,_⟩:=I.loc;apply .cons (by rw[I.ok.kind];decide) hf hn ?_ I.funs;exact bO.get?_none_of_le (bj I.ok.bsz I.ok.above)
theorem Inv.stkSub (I:Inv X aR σ H s):∀b∈frs X.stack,b∈X.env.locals::X.fs:=λb hb=>by
 rcases I.ok.stk with e | ⟨e,hf⟩
 ·rw[e] at hb;exact aw _ hb
 ·rw[e] at hb
  unfold frs at hb;rw[List.filterMap_cons,hf] at hb;exact hb
theorem Inv.stkFree (I:Inv X aR σ H s):∀b∈frs X.stack,H b=none:=λb hb=>by
 rcases aE.mp (I.stkSub b hb) with e | hb
 ·rw[e];exact I.free
 ·obtain⟨_,o,ho,_⟩:=I.ok.funs.mem hb
  exact I.base.free b o ho (I.ok.frf b hb) λz=>I.ok.exfs b z hb
theorem Inv.step (I:Inv X aR σ H s)
  (hch:∀b∈ch,(b∈X.ex∨X.s₀.heap.objs.size≤b)∧b≠X.env.locals∧(∀x c,X.env.cells.lookup x=some c→c≠b)∧∀p∈X.pn++aR,p.1≠b)
  (keep:∀b o,b≠X.env.locals→b ∉ X.fs→b ∉ ch→s.heap.get? b=some o→H b=none→h'.get? b=some o)
  (slot:∀b o,b≠X.env.locals→b∈X.fs→b ∉ ch→s.heap.get? b=some o→H b=none→∃sl,h'.get? b=some { o with slots:=sl }) (free:∀b o,b ∉ ch→s.heap.get? b=some o→H b=none→H' b=none)
  (there:∀b o,b ∉ ch→s.heap.get? b=some o→∃o',h'.get? b=some o')
  (tups:∀b xs,H b=some (.tup xs)→H' b=some (.tup xs)) (frzs:∀b o u,H b=some (.frz o u)→H' b=some (.frz o u)) (tbls:∀b ps,H b=some (.tbl ps)→∃more,H' b=some (.tbl (ps++more)))
  (ns:∀m,s.heap.Ns X.env.locals m→h'.Ns X.env.locals m) (hok:HOk X.prog X.w H' h') (hg:AllBare g') :
  Inv X aR σ H' { s with heap:=h',gens:=g',drawn:=d',toks:=t' }:=by
 have neL:∀b o,X.s₀.heap.get? b=some o→b≠X.env.locals:=λb o e=>bL (aU (aO e) I.ok.above)
 have neC:∀b o,X.s₀.heap.get? b=some o→b ∉ X.ex→b ∉ ch:=λb o e hx hb=>by
  rcases(hch b hb).1 with z | z
  ·exact hx z
  ·exact rW (aU (aO e) z) (gj _)
 have cellK:∀x c,X.env.cells.lookup x=some c→∀v,s.heap.IsCell c v→h'.IsCell c v:=λx c e v ⟨o,ho,hd⟩=>by
  have nch:c ∉ ch:=λz=>(hch c z).2.2.1 x c e rfl
  by_cases hc:c∈X.fs
  ·obtain⟨sl,q⟩:=slot c o (I.cne x c e) hc nch ho (I.freeC x c e)
   exact⟨_,q,hd⟩
  ·exact⟨o,keep c o (I.cne x c e) hc nch ho (I.freeC x c e),hd⟩
 apply⟨I.ok,I.os,hg,⟨λb o e n hb hx=>?_,λb o e n hb hx=>?_,λb o e n hx=>?_,λb o e hx=>?_,λb xs e=>tups b xs (I.base.tups b xs e),λb o xs e=>frzs b o xs (I.base.frzs b o xs e),λb ps e=>?_⟩,?_,λx c e=>?_,?_,λx c e=>?_,λp hp=>?_,hok,I.len⟩
 ·exact keep b o (neL b o e) hb (neC b o e hx) (I.base.keep b o e n hb hx) (I.base.free b o e n hx)
 ·obtain⟨sl,e1⟩:=I.base.slot b o e n hb hx
  obtain⟨sl',e2⟩:=slot b _ (neL b o e) hb (neC b o e hx) e1 (I.base.free b o e n hx);exact⟨sl',e2⟩
 ·obtain⟨o',e1⟩:=I.base.there b o e hx
  exact free b o' (neC b o e hx) e1 (I.base.free b o e n hx)
 ·obtain⟨o',e1⟩:=I.base.there b o e hx
  exact there b o' (neC b o e hx) e1
 ·obtain⟨m1,e1⟩:=I.base.tbls b ps e
  obtain⟨m2,e2⟩:=tbls b _ e1;exact⟨m1++m2,by rw[e2,Array.append_assoc]⟩
 ·obtain⟨m,hn,hl⟩:=I.loc
  apply⟨m,ns m hn,λi x v e1 e2 e3=>?_⟩;obtain⟨u,r,l⟩:=hl i x v e1 e2 e3;apply⟨u,r,?_⟩
  rcases l with l | ⟨k,c,e,z⟩
  ·exact .inl l
  ·exact .inr ⟨k,c,e,cellK x c e _ z⟩
 ·obtain⟨v,z⟩:=I.cell x c e
  exact⟨v,cellK x c e v z⟩
 ·obtain⟨m,⟨o,_,_,ho,_⟩,_⟩:=I.loc
  exact free _ o (λz=>(hch _ z).2.1 rfl) ho I.free
 ·obtain⟨v,o,ho,hd⟩:=I.cell x c e
  exact free c o (λz=>(hch c z).2.2.1 x c e rfl) ho (I.freeC x c e)
 ·obtain⟨e,n,ne,nf,d⟩:=I.pin p hp
  have nch:p.1 ∉ ch:=λz=>(hch p.1 z).2.2.2 p hp rfl
  exact⟨keep p.1 p.2 ne nf nch e n,free p.1 p.2 nch e n,ne,nf,d⟩
theorem Inv.un (I:Inv X aR σ H s)(u:Un X.fs [] H H' s.heap h')(hok:HOk X.prog X.w H' h'):Inv X aR σ H' { s with heap:=h',toks:=t' }:=by
 obtain ⟨m,⟨o,es,ep,ho,r⟩,_⟩:=id I.loc;obtain ⟨sl,hL⟩:=u.any ho I.free ∅;exact I.step (g':=s.gens) (d':=s.drawn) (ch:=[]) (fun _ z=>nomatch z) (fun b o _ hb _ e n=>u.keep b o e n hb ∅) (fun b o _ hb _ e n=>u.slot b o e n hb ∅) (fun b o _ e n=>u.free b o e n ∅) (fun b o _ e=>u.there b o e ∅) u.tups u.frzs u.tbls (fun m' hm=>by
  obtain ⟨o',es',ep',ho',r'⟩:=hm;rw [ho] at ho';cases ho';exact ⟨_,es',ep',hL,r'⟩) hok I.bare
theorem Inv.call (I:Inv X aR σ H s)(u:Un (frs X.stack) ch H H' s.heap h')(hok:HOk X.prog X.w H' h')(hg:AllBare g')
  (hch:∀b∈ch,(b∈X.ex∨X.s₀.heap.objs.size≤b)∧b≠X.env.locals∧(∀x c,X.env.cells.lookup x=some c→c≠b)∧∀p∈X.pn++aR,p.1≠b) :
  Inv X aR σ H' { s with heap:=h',gens:=g',drawn:=d',toks:=t' }:=by
 obtain⟨m,⟨o,es,ep,ho,r⟩,_⟩:=id I.loc;obtain⟨sl,hL⟩:=u.any ho I.free λz=>(hch _ z).2.1 rfl
 exact I.step (ch:=ch) hch (fun b o hL hb hc e n=>u.keep b o e n (fun z=>(aE.mp (I.stkSub b z)).elim hL hb) hc) (fun b o _ _ hc e n=>u.any e n hc) (fun b o hc e n=>u.free b o e n hc) (fun b o hc e=>u.there b o e hc) u.tups u.frzs u.tbls (fun m' hm=>by
  obtain ⟨o',es',ep',ho',r'⟩:=hm;rw [ho] at ho';cases ho';exact ⟨_,es',ep',hL,r'⟩) hok hg
theorem Inv.turned {it:ak}(I:Inv X aR σ H s)(k:∀b o,b≠it→s.heap.get? b=some o→h'.get? b=some o)(hn:H it=none)(hL:it≠X.env.locals)
  (h1:it∈X.ex∨X.s₀.heap.objs.size≤it) (h2:∀x c,X.env.cells.lookup x=some c→c≠it) (h3:∀p∈X.pn++aR,p.1≠it):Inv X aR σ H { s with heap:=h',toks:=t' }:=by
 have nit:∀b u,H b=some u→b≠it:=λb u e z=>by rw[z,hn] at e;cases e
 apply I.step (g':=s.gens) (d':=s.drawn) (ch:=[it]) (λb hb=>?_) (λb o _ _ hc e _=>k b o (λz=>hc (by simp[z])) e) (λb o _ _ hc e _=>⟨o.slots,k b o (λz=>hc (by simp[z])) e⟩) (λ_ _ _ _ n=>n)
  (λb o hc e=>⟨o,k b o (λz=>hc (by simp[z])) e⟩) (λ_ _ e=>e) (λ_ _ _ e=>e) (λb ps e=>⟨#[],by rw[e];simp⟩) (λm hm=>?_) (λb u e=>?_) I.bare
 ·have e:b=it:=by simpa using hb
  subst e;exact⟨h1,hL,h2,h3⟩
 ·obtain⟨o,es,ep,ho,r⟩:=hm
  exact⟨o,es,ep,k _ o (cx hL) ho,r⟩
 ·apply(I.hok b u e).stay (λc v hc q=>k c v ?_ q) (λ_ q=>q) λ_ _ q=>q
  rcases hc with z | z
  ·rw[z];exact nit b u e
  ·exact nit c _ z
theorem Inv.tok (I:Inv X aR σ H s)(t:Nat):Inv X aR σ H { s with toks:=t }:=I.un (h':=s.heap) (t':=t) Un.refl I.hok
theorem Inv.kept (I:Inv X aR σ H s)(k:∀b u,s.heap.get? b=some u→h'.get? b=some u):Inv X aR σ H { s with heap:=h',toks:=t' }:=I.un (Un.kept k) (I.hok.kept k)
theorem Inv.laid {o:HO}(I:Inv X aR σ H s)(k:∀b u,s.heap.get? b=some u→h'.get? b=some u)(hp:s.heap.objs.size≤a)(new:jw X.prog X.w (upd H a o) h' a o) :
  Inv X aR σ (upd H a o) { s with heap:=h',toks:=t' }:=I.un (Un.laid k hp (I.hok.fresh hp)) (I.hok.laid k hp new)
theorem Inv.write {x e:ak}{o:HO}(I:Inv X aR σ H s)(mu:Mut (H x))(he:e=x∨H e=some (.own x))(k:∀b u,b≠e→s.heap.get? b=some u→h'.get? b=some u)(heo:∃u,h'.get? e=some u)
  (new:jw X.prog X.w (upd H x o) h' x o):Inv X aR σ (upd H x o) { s with heap:=h',toks:=t' }:=I.un (Un.write mu he k heo) (I.hok.write mu he k heo new)
theorem Inv.pins_of (I:Inv X aR σ H s)(h:∀p∈pins',s.heap.get? p.1=some p.2∧H p.1=none∧p.1≠X.env.locals∧p.1 ∉ X.fs∧∀v,p.2.data≠ .cell v):Inv X pins' σ H s :=
 ⟨I.ok,I.os,I.bare,I.base,I.loc,I.cell,I.free,I.freeC,λp hp=>(aQ.mp hp).elim (λz=>I.pin p (aM _ z)) (h p),I.hok,I.len⟩
theorem nodup_ix (hN:N.Nodup)(a:N[i]? =some x)(b:N[j]? =some x):i=j:=by
 obtain⟨h1,e1⟩:=ao.mp a;obtain⟨h2,e2⟩:=ao.mp b;exact(List.getElem_inj hN).mp (e1.trans e2.symm)
theorem store_ok2 {v:V}{Q:Unit→aq→Prop}(I:Inv X aR σ H s)(hN:X.N.Nodup)(hi:X.N[i]? =some x)(hx:Loc X.env.scope x)(r:gQ v u)
  (h:∀s',Inv X aR (σ.set i (some v)) H s'→(∃a,d9 a s.heap s'.heap∧(a=X.env.locals∨X.env.cells.lookup x=some a))→Q () s') (hf:X.fn x=true∨X.env.scope.names.lookup x=some .local:=by first | exact .inl rfl | exact .inr rfl | assumption):bc M A (storeName X.env x u) Q E s:=by
 obtain⟨m,hn,hl⟩:=id I.loc;have hcls:(X.env.scope.kind == .class || (X.env.scope.kind == .module && X.env.locals != X.env.globals))=false:=by rw[I.ok.kind];rfl
 have hiσ:i<σ.length:=by rw[I.len];exact(ao.mp hi).1
 have cne:=I.cne;have tracked:∀{a:ak} {h':bO},(∃o,s.heap.get? a=some o∧H a=none)→d9 a s.heap h'→HOk X.prog X.w H h':=λ{a h'} ha hs b ob e=>by
  obtain⟨_,_,hfree⟩:=ha;apply(I.hok b ob e).stay (λc w' hc q=>(hs.2 c ?_).trans q) (λ_ q=>q) λ_ _ q=>q
  rintro rfl
  rcases hc with rfl | hc
  ·rw[hfree] at e;cases e
  ·rw[hfree] at hc;cases hc
 rcases hx with hk | hk
 ·apply wpAny_storeName_local hk hn (λh' hn' hs=>?_) hcls
  obtain⟨oL,_,_,hoL,_⟩:=id hn;apply h _ ⟨I.ok,I.os,I.bare,⟨λb o e n hb hx=>?_,λb o e n hb hx=>?_,I.base.free,λb o e hx=>?_,I.base.tups,I.base.frzs,I.base.tbls⟩,⟨_,hn',λj y v' e1 e2 e3=>?_⟩,λy c e=>?_,I.free,I.freeC,λp hp=>?_,tracked ⟨oL,hoL,I.free⟩ hs,by simpa using I.len⟩ ⟨_,hs,.inl rfl⟩
  ·exact(hs.2 b (bL (aU (aO e) I.ok.above))).trans (I.base.keep b o e n hb hx)
  ·obtain⟨sl,e1⟩:=I.base.slot b o e n hb hx
   exact⟨sl,(hs.2 b (bL (aU (aO e) I.ok.above))).trans e1⟩
  ·obtain⟨o',e1⟩:=I.base.there b o e hx
   exact⟨o',(hs.2 b (bL (aU (aO e) I.ok.above))).trans e1⟩
  ·by_cases hj:j=i
   ·subst hj
    rw[hi] at e1;cases e1;rw[d8 hiσ] at e2;cases e2;exact⟨u,r,.inl ⟨hk,∅⟩⟩
   ·rw[dY (cx hj)] at e2
    obtain⟨u',r',q⟩:=hl j y v' e1 e2 e3;apply⟨u',r',?_⟩
    rcases q with ⟨k,e⟩ | ⟨k,c,e,z⟩
    ·apply .inl ⟨k,?_⟩
     have:y≠x:=λe=>hj (nodup_ix hN e1 (e ▸ hi))
     simp[this,e]
    ·exact .inr ⟨k,c,e,z.sameBut hs (cne y c e)⟩
  ·obtain⟨w',z⟩:=I.cell y c e
   exact⟨w',z.sameBut hs (cne y c e)⟩
  ·obtain⟨e,n,ne,nf,d⟩:=I.pin p hp
   exact⟨(hs.2 p.1 ne).trans e,n,ne,nf,d⟩
 ·have hfn:X.fn x=true:=by
   rcases hf with z | z
   ·exact z
   ·rw[z] at hk;cases hk
  obtain⟨c,hc⟩:=I.ok.has x (.inl hk);obtain⟨w',z⟩:=I.cell x c hc;apply wpAny_storeName_cell I.ok.kind hk hc z (λh' hc' hs=>?_);obtain⟨oc,hoc,hocd⟩:=id z;apply h { s with heap:=h' } ⟨I.ok,I.os,I.bare,⟨λb o e n hb hx=>?_,λb o e n hb hx=>?_,I.base.free,λb o e hx=>?_,I.base.tups,I.base.frzs,I.base.tbls⟩,⟨m,hn.sameBut hs (cx (cne x c hc)),λj y v' e1 e2 e3=>?_⟩,λy c' e=>?_,I.free,I.freeC,λp hp=>?_,tracked ⟨oc,hoc,I.freeC x c hc⟩ hs,by simpa using I.len⟩ ⟨c,hs,.inr hc⟩
  ·exact(hs.2 b (bL (aU (aO e) (I.ok.cab x c hfn hc)))).trans (I.base.keep b o e n hb hx)
  ·obtain⟨sl,e1⟩:=I.base.slot b o e n hb hx
   exact⟨sl,(hs.2 b (bL (aU (aO e) (I.ok.cab x c hfn hc)))).trans e1⟩
  ·obtain⟨o',e1⟩:=I.base.there b o e hx
   exact⟨o',(hs.2 b (bL (aU (aO e) (I.ok.cab x c hfn hc)))).trans e1⟩
  ·by_cases hj:j=i
   ·subst hj
    rw[hi] at e1;cases e1;rw[d8 hiσ] at e2;cases e2;exact⟨u,r,.inr ⟨.inl hk,c,hc,hc'⟩⟩
   ·rw[dY (cx hj)] at e2
    obtain⟨u',r',q⟩:=hl j y v' e1 e2 e3;apply⟨u',r',?_⟩
    rcases q with q | ⟨k,c',e,z'⟩
    ·exact .inl q
    ·apply .inr ⟨k,c',e,z'.sameBut hs ?_⟩
     rintro rfl;exact hj (nodup_ix hN e1 (I.ok.inj _ _ _ e hc ▸ hi))
  ·by_cases hcc:c'=c
   ·subst hcc;exact⟨_,hc'⟩
   ·obtain⟨w2,z2⟩:=I.cell y c' e
    exact⟨w2,z2.sameBut hs hcc⟩
  ·obtain⟨e,n,ne,nf,d⟩:=I.pin p hp
   apply⟨(hs.2 p.1 ?_).trans e,n,ne,nf,d⟩;intro q;rw[q,hoc] at e;have q':oc=p.2:=cE e;exact d w' (by rw[←q'];exact hocd)
theorem store_ok {v:V}{Q:Unit→aq→Prop}(I:Inv X aR σ H s)(hN:X.N.Nodup)(hi:X.N[i]? =some x)(hx:Loc X.env.scope x)(r:gQ v u)
  (h:∀s',Inv X aR (σ.set i (some v)) H s'→Q () s') (hf:X.fn x=true∨X.env.scope.names.lookup x=some .local:=by first | exact .inl rfl | exact .inr rfl | assumption):bc M A (storeName X.env x u) Q E s :=
 store_ok2 I hN hi hx r (λs' I' _=>h s' I') hf
theorem Inv.call' (I:Inv X aR σ H s)(ho:s'.os=s.os)(u:Un (frs X.stack) ch H H' s.heap s'.heap)(hok:HOk X.prog X.w H' s'.heap)(hg:AllBare s'.gens)
  (hch:∀b∈ch,(b∈X.ex∨X.s₀.heap.objs.size≤b)∧b≠X.env.locals∧(∀x c,X.env.cells.lookup x=some c→c≠b)∧∀p∈X.pn++aR,p.1≠b):Inv X aR σ H' s':=by
 obtain⟨h',g',d',t',o'⟩:=s';have e:o'=s.os:=ho;subst e;exact I.call (g':=g') (t':=t') (d':=d') u hok hg hch
end
abbrev XK:=af→Option ak→Hp→Prop
abbrev St:=List (Option V)
abbrev VK:=V→Hp→Prop
abbrev TE:=St→Hp→VK→Prop
abbrev TT:=St→Hp→(Bool→Hp→Prop)→Prop
abbrev TA:=St→Hp→(List V→Hp→Prop)→Prop
end L2
variable {H H' H1 H2 Hc:L2.Hp}{Hf:L2.Hp→Prop}{X:L2.Cx}{kvs:List (List L2.Key×L2.V)}{o:L2.HO}{r:L2.V→List L2.V→L2.Hp→L2.VK→Prop}{t:L2.TA}{ta te tl to:L2.TE}{tget:L2.V→L2.V→L2.Hp→L2.VK→Prop}{trs:List (L2.TE×L2.TE)}{tt:L2.TT}{v y:L2.V}{xs ys zs:List L2.V}{σ:L2.St}
namespace L2
open PySem PySem.Spec PyProof.Rows
structure Ends where
 nx:St→Hp→Prop
 rt:VK
 bk:St→Hp→Prop:=λ_ _=>False
 ct:St→Hp→Prop:=λ_ _=>False
abbrev TS:=Ends→St→Hp→Prop
def EP (X:Cx)(aR:List (ak×Obj))(σ:St)(Q:VK)(u:af)(s':aq):Prop:=∃v H',Inv X aR σ H' s'∧gQ v u∧Q v H'
def TP (X:Cx)(aR:List (ak×Obj))(σ:St)(Q:Bool→Hp→Prop)(b:Bool)(s':aq):Prop:=∃H',Inv X aR σ H' s'∧Q b H'
def AP (X:Cx)(aR:List (ak×Obj))(σ:St)(Q:List V→Hp→Prop)(us:List af)(s':aq):Prop:=∃vs H',Inv X aR σ H' s'∧gw vs us∧Q vs H'
def SP (X:Cx)(aR:List (ak×Obj))(D:Ends)(f:Flow)(s':aq):Prop :=
 match f with
 | .next=>∃σ' H',Inv X aR σ' H' s'∧D.nx σ' H'
 | .brk=>∃σ' H',Inv X aR σ' H' s'∧D.bk σ' H'
 | .cont=>∃σ' H',Inv X aR σ' H' s'∧D.ct σ' H'
 | .ret u=>∃v σ' H',Inv X aR σ' H' s'∧gQ v u∧D.rt v H'
def PE (X:Cx)(e:Expr)(t:TE):Prop :=
 ∀(aR:List (ak×Obj)) (s:aq) (σ:St) (H:Hp) (Q:VK),Inv X aR σ H s→t σ H Q→bc (bE X.prog X.w) X.A (eG e X.env) (EP X aR σ Q) X.xe s
def PT (X:Cx)(e:Expr)(t:TT):Prop :=
 ∀(aR:List (ak×Obj)) (s:aq) (σ:St) (H:Hp) (Q:Bool→Hp→Prop),Inv X aR σ H s→t σ H Q→bc (bE X.prog X.w) X.A (isTrue e X.env (eG e X.env)) (TP X aR σ Q) X.xe s
def PW (X:Cx)(e:Expr)(t:TT):Prop :=
 ∀(whole:Sem af) (aR:List (ak×Obj)) (s:aq) (σ:St) (H:Hp) (Q:Bool→Hp→Prop),Inv X aR σ H s→t σ H Q→bc (bE X.prog X.w) X.A (isTrue e X.env whole) (TP X aR σ Q) X.xe s
theorem PW.pt {t:TT}(h:PW X e t):PT X e t:=h _
def PA (X:Cx)(es:List Expr)(t:TA):Prop :=
 ∀(pos:Pos) (aR:List (ak×Obj)) (s:aq) (σ:St) (H:Hp) (Q:List V→Hp→Prop),Inv X aR σ H s→t σ H Q→bc (bE X.prog X.w) X.A (spliced (gg pos (bD es X.env))) (AP X aR σ Q) X.xe s
def PS (X:Cx)(st:cJ)(t:TS):Prop :=
 ∀(aR:List (ak×Obj)) (s:aq) (σ:St) (H:Hp) (D:Ends),Inv X aR σ H s→t D σ H→bc (bE X.prog X.w) X.A (exec st X.env) (SP X aR D) X.xe s
def PSs (X:Cx)(st:List cJ)(t:TS):Prop :=
 ∀(aR:List (ak×Obj)) (s:aq) (σ:St) (H:Hp) (D:Ends),Inv X aR σ H s→t D σ H→bc (bE X.prog X.w) X.A (execs st X.env) (SP X aR D) X.xe s
theorem thn {t:Sem α}{Q Q':α→aq→Prop}(h:bc M A t Q E s)(hQ:∀a s,Q a s→Q' a s):bc M A t Q' E s:=cy h hQ λ_ _ x=>x
section
inductive HasV (o:Option (Option V))(k:V→Prop):Prop
 | mk (v:V)(h:o=some (some v))(q:k v):HasV o k
inductive IsBl (x:V)(k:Bool→Prop):Prop
 | mk (c:Bool)(h:x= .bl c)(q:k c):IsBl x k
def tVar (i:Nat):TE:=λσ H Q=>HasV σ[i]? λv=>Q v H
def tC (v:V):TE:=λ_ H Q=>Q v H
theorem pe_var (hN:X.N[i]? =some x)(hv:Vis X.env.scope x)(hd:(x == ("__debug__" :Str))=false:=by decide)(hcd:(x == ("__classdict__" :Str))=false:=by decide):PE X (.Name x pos) (tVar i):=by
 intro aR s σ H Q I h;obtain⟨v,e,h⟩:=h;obtain⟨m,hn,hl⟩:=I.loc;obtain⟨u,r,l⟩:=hl i x v hN e hv;have fin:EP X aR σ Q u s:=⟨v,H,I,r,h⟩
 rcases l with ⟨hk,hm⟩ | ⟨hk,c,hc,jd⟩
 ·exact wpAny_Name (wpAny_loadName_local I.ok.kind hk hn hm fin) hd
 ·rcases hk with hk | hk
  ·exact wpAny_Name (wpAny_loadName_cell I.ok.kind hk hc jd fin) hd
  ·exact wpAny_Name (wpAny_loadName_free I.ok.kind hk hc jd fin hcd) hd
theorem bI {i j pos}:PE X (.Constant (.int i) j pos) (tC (.int i)):=λ_ _ _ H _ I h=>wpAny_Constant_int ⟨.int i,H,I.tok _,⟨_,rfl⟩,h⟩
theorem oP {b j pos}:PE X (.Constant (.bool b) j pos) (tC (.bl b)):=λ_ _ _ H _ I h=>Constant_bool ⟨.bl b,H,I,rfl,h⟩
theorem jz {j pos}:PE X (.Constant .none j pos) (tC .non):=λ_ _ _ H _ I h=>Constant_none ⟨.non,H,I,rfl,h⟩
theorem nq {x j pos}:PE X (.Constant (.str x) j pos) (tC (.str x)):=λ_ _ _ H _ I h=>Calls.Constant_str ⟨.str x,H,I.tok _,⟨_,rfl⟩,h⟩
def Gl (X:Cx)(x:Str):Prop:=X.env.kindOf x=some .globalImplicit
theorem ld_glob (I:Inv X aR σ H s)(hg:Gl X x)(hm:X.mg x=some u)(h:Q u s)
  (hd:(x == ("__debug__" :Str))=false:=by decide):bc (bE X.prog X.w) X.A (eG (.Name x pos) X.env) Q E s :=
 Calls.Name_function_global I.ok.kind hg (Calls.loadGlobal_global (by rw[I.ok.glob];exact I.mod.glob.keeps I.bk) hm h) hd
theorem lT (I:Inv X aR σ H s)(hg:Gl X x)(hm:X.mg x=none)(hv:bootBuiltins x=some u)(h:Q u s)
  (hn:x ≠ "__name__" := by decide) (hd:(x == ("__debug__" :Str))=false:=by decide):bc (bE X.prog X.w) X.A (eG (.Name x pos) X.env) Q E s:=by
 obtain⟨mb,h1,h2⟩:=I.mod.blt;exact Calls.Name_function_global I.ok.kind hg (Calls.loadGlobal_builtin (by rw[I.ok.glob];exact I.mod.glob.keeps I.bk) hm (by rw[I.ok.blt];exact h1.keeps I.bk) ((h2 x hn).trans hv) h) hd
theorem pe_glob (hg:Gl X x)(hm:X.mg x=some u)(r:gQ v u)(hd:(x == ("__debug__" :Str))=false:=by decide):PE X (.Name x pos) (tC v) :=
 λ_ _ _ H _ I h=>ld_glob I hg hm ⟨v,H,I,r,h⟩ hd
theorem pe_bltn (hg:Gl X x)(hm:X.mg x=none)(hv:bootBuiltins x=some u)(r:gQ v u)(hn:x ≠ "__name__" := by decide)(hd:(x == ("__debug__" :Str))=false:=by decide):PE X (.Name x pos) (tC v) :=
 λ_ _ _ H _ I h=>lT I hg hm hv ⟨v,H,I,r,h⟩ hn hd
variable {a b:Expr}{tb:TE}
def PC (X:Cx)(op:CmpOp)(a b:Expr)(t:TE):Prop :=
 ∀(aR:List (ak×Obj)) (s:aq) (σ:St) (H:Hp) (Q:VK),Inv X aR σ H s→t σ H Q →
  bc (bE X.prog X.w) X.A (eG a X.env) (λv s₁=>bc (bE X.prog X.w) X.A (eG b X.env) (λu s₂=>bc (bE X.prog X.w) X.A (fT op v u) (EP X aR σ Q) X.xe s₂) X.xe s₁) X.xe s
def tB (t:TE):TT:=λσ H Q=>t σ H λx H1=>IsBl x λc=>Q c H1
theorem pt_cmp {t:TE}(h:PC X op a b t)(h1:behindInMarks op b=false:=by first | exact nobehind _ ↥0 ↥0 | rfl):PT X (.Compare a [op] [b] pos) (tB t):=by
 intro aR s σ H Q I hw;apply wpAny_isTrue_Compare1 (thn (h aR s σ H _ I hw) λv s1 h1=>thn h1 λu s2 h2=>thn h2 λc s3 ⟨x,H1,I1,r1,q1⟩=>?_) h1;obtain⟨d,rfl,q⟩:=q1;cases r1;exact fu ⟨H1,I1,q⟩
theorem mr {t:TE}(h:PE X e t)(he:∀whole,isTrue e X.env whole=(do let v ← whole;standAt e.pos;holding [v] (truthy v)):=by intro _;rfl):PT X e (tB t):=by
 intro aR s σ H Q I hw;apply isTrue_plain (thn (h aR s σ H _ I hw) λv s1 ⟨x,H1,I1,r1,q1⟩=>?_) (he _);obtain⟨d,rfl,q⟩:=q1;cases r1;exact fu ⟨H1,I1,q⟩
variable {tA tB':TT} {rest:List Expr}
def tAnd (t u:TT):TT:=λσ H Q=>t σ H λc H1=>if c=true then u σ H1 Q else Q false H1
def tOr (t u:TT):TT:=λσ H Q=>t σ H λc H1=>if c=true then Q true H1 else u σ H1 Q
def tNot (t:TT):TT:=λσ H Q=>t σ H λc H1=>Q (!c) H1
theorem pw_and1 (ha:PT X a tA):PW X (.BoolOp .And [a] pos) tA:=by
 intro wh aR s σ H Q I h;apply isTrue_and (thn (ha aR s σ H Q I h) λc s1 e=>?_);cases c with
 | true=>exact isTrue_and_nil e
 | false=>exact e
theorem pw_or1 (ha:PT X a tA):PW X (.BoolOp .Or [a] pos) tA:=by
 intro wh aR s σ H Q I h;apply isTrue_or (thn (ha aR s σ H Q I h) λc s1 e=>?_);cases c with
 | false=>exact isTrue_or_nil e
 | true=>exact e
theorem pw_and (ha:PT X a tA)(hb:PW X (.BoolOp .And (b::rest) pos) tB'):PW X (.BoolOp .And (a::b::rest) pos) (tAnd tA tB'):=by
 intro wh aR s σ H Q I h;apply isTrue_and (thn (ha aR s σ H _ I h) λc s1 ⟨H1,I1,q1⟩=>?_);cases c with
 | true=>exact hb wh aR s1 σ H1 Q I1 q1
 | false=>exact⟨H1,I1,q1⟩
theorem pw_or (ha:PT X a tA)(hb:PW X (.BoolOp .Or (b::rest) pos) tB'):PW X (.BoolOp .Or (a::b::rest) pos) (tOr tA tB'):=by
 intro wh aR s σ H Q I h;apply isTrue_or (thn (ha aR s σ H _ I h) λc s1 ⟨H1,I1,q1⟩=>?_);cases c with
 | true=>exact⟨H1,I1,q1⟩
 | false=>exact hb wh aR s1 σ H1 Q I1 q1
theorem qj (ha:PT X a tA):PT X (.UnaryOp .Not a pos) (tNot tA):=by
 intro aR s σ H Q I h;exact isTrue_not (ha aR s σ H (λc H1=>Q (!c) H1) I h)
def tAndV (ta tb:TE):TE:=λσ H Q=>ta σ H λx H1=>IsBl x λc=>if c=true then tb σ H1 Q else Q (.bl false) H1
def tNotV (ta:TE):TE:=λσ H Q=>ta σ H λx H1=>IsBl x λc=>Q (.bl (!c)) H1
theorem pe_one {op}{t:TE}(h:PE X a t):PE X (.BoolOp op [a] pos) t:=λaR s σ H Q I hw=>BoolOp_one (h aR s σ H Q I hw)
theorem pe_and (ha:PE X a ta)(hb:PE X (.BoolOp .And (b::rest) pos) tb):PE X (.BoolOp .And (a::b::rest) pos) (tAndV ta tb):=by
 intro aR s σ H Q I h;apply BoolOp_and (thn (ha aR s σ H _ I h) λv s1 ⟨x,H1,I1,r1,q1⟩=>?_);obtain⟨c,rfl,q1⟩:=q1;cases r1;apply fu ?_;cases c with
 | true=>exact hb aR s1 σ H1 Q I1 q1
 | false=>exact⟨.bl false,H1,I1,rfl,q1⟩
theorem pe_not (ha:PE X a ta):PE X (.UnaryOp .Not a pos) (tNotV ta):=by
 intro aR s σ H Q I h;apply UnaryOp_ (thn (ha aR s σ H _ I h) λv s1 ⟨x,H1,I1,r1,q1⟩=>?_);obtain⟨c,rfl,q1⟩:=q1;cases r1;exact not_of (fu ⟨.bl (!c),H1,I1,rfl,q1⟩)
def tIf (t:TT)(ta tb:TE):TE:=λσ H Q=>t σ H λc H1=>if c=true then ta σ H1 Q else tb σ H1 Q
theorem ma {c:Expr}(hc:PT X c tA)(ha:PE X a ta)(hb:PE X b tb):PE X (.IfExp c a b pos) (tIf tA ta tb):=by
 intro aR s σ H Q I h;apply wpAny_IfExp (thn (hc aR s σ H _ I h) λd s1 ⟨H1,I1,q1⟩=>?_);cases d with
 | true=>exact ha aR s1 σ H1 Q I1 q1
 | false=>exact hb aR s1 σ H1 Q I1 q1
end
def SqL (K:ai)(H:Hp)(a:ak)(xs:List V):Prop :=
 Rd H a (.lst xs) ∨
  ∃(o:Obj) (its:Array af) (n:Nat),K.lookup a=some o∧o.cls= .type "list" ∧o.dict=none∧o.data= .seq its n∧its.size≤bo∧gw xs its.toList
def SqT (K:ai)(H:Hp)(a:ak)(xs:List V):Prop :=
 Rd H a (.tup xs) ∨
  ∃(o:Obj) (its:Array af) (n:Nat),K.lookup a=some o∧o.cls= .type "tuple" ∧o.data= .seq its n∧its.size≤bo∧gw xs its.toList
def absV:af→Option V
 | .none=>some .non
 | .bool b=>some (.bl b)
 | .int i _=>some (.int i)
 | .str x _=>some (.str x)
 | .bytes b _=>some (.byt b)
 | .float b _=>some (.flt b)
 | .ref a=>some (.ref a)
 | .type n=>some (.ty n)
 | _=>none
theorem gQ.abs {x:V}(r:gQ x u):absV u=some x:=by
 cases x with
 | non=>cases r;rfl
 | bl _=>cases r;rfl
 | int _=>obtain⟨t,rfl⟩:=r;rfl
 | str _=>obtain⟨t,rfl⟩:=r;rfl
 | byt _=>obtain⟨t,rfl⟩:=r;rfl
 | flt _=>obtain⟨t,rfl⟩:=r;rfl
 | ref _=>cases r;rfl
 | ty _=>cases r;rfl
theorem gQ.inj {x:V}(r:gQ x u)(q:gQ y u):x=y:=cE (r.abs.symm.trans q.abs)
theorem gw.inj:∀{xs ys:List V} {us:List af},gw xs us→gw ys us→xs=ys
 | _,_,_,.nil,.nil=>rfl
 | _,_,_,.cons r t,.cons r' t'=>by rw[r.inj r',gw.inj t t']
theorem SqL.of (h:H a=some (.lst xs)):SqL K H a xs:= .inl (.inl h)
theorem SqT.of (h:H a=some (.tup xs)):SqT K H a xs:= .inl (.inl h)
theorem Inv.list (I:Inv X aR σ H s)(h:SqL X.K H a xs):∃its:List af,gw xs its∧PlainL s.heap a its.toArray∧xs.length≤bo:=by
 rcases h with h | ⟨o,its,n,hk,hc,hd,hs,hz,r⟩
 ·obtain⟨z,its,n,r,e⟩:=h.ok I.hok
  exact⟨its,r,⟨_,n,e,rfl,rfl,rfl⟩,z⟩
 ·apply⟨its.toList,r,⟨o,n,I.kIn a o hk,hc,hd,by simpa using hs⟩,?_⟩
  have e:=r.length;simp only[de] at e;lia
theorem Inv.tuple (I:Inv X aR σ H s)(h:SqT X.K H a xs):∃its:List af,gw xs its∧IsTup s.heap a its.toArray∧xs.length≤bo:=by
 rcases h with h | ⟨o,its,n,hk,hc,hs,hz,r⟩
 ·obtain⟨z,its,r,p⟩:=h.ok I.hok
  exact⟨its,r,p.tup,z⟩
 ·apply⟨its.toList,r,⟨o,I.kIn a o hk,hc,n,by simpa using hs⟩,?_⟩
  have e:=r.length;simp only[de] at e;lia
theorem Inv.list_inj (I:Inv X aR σ H s)(h:SqL X.K H a xs)(h':SqL X.K H a ys):xs=ys:=by
 obtain⟨its,r,⟨o,n,e,_,_,d⟩,_⟩:=I.list h;obtain⟨its',r',⟨o',n',e',_,_,d'⟩,_⟩:=I.list h';rw[e] at e';cases e';rw[d] at d';injection d' with d1 _
 have:its=its':=by simpa using sd Array.toList d1
 subst this;exact r.inj r'
theorem Inv.tuple_inj (I:Inv X aR σ H s)(h:SqT X.K H a xs)(h':SqT X.K H a ys):xs=ys:=by
 obtain⟨its,r,⟨o,e,_,n,d⟩,_⟩:=I.tuple h;obtain⟨its',r',⟨o',e',_,n',d'⟩,_⟩:=I.tuple h';rw[e] at e';cases e';rw[d] at d';injection d' with d1 _
 have:its=its':=by simpa using sd Array.toList d1
 subst this;exact r.inj r'
abbrev Cx.wish (X:Cx)(E:af→aq→Prop):Cx:={ X with xe:=E }
abbrev Cx.nox (X:Cx):Cx:=X.wish λ_ _=>False
theorem Cx.Ok.wish (ok:X.Ok)(E:af→aq→Prop):(X.wish E).Ok :=
 ⟨ok.mod,ok.kind,ok.glob,ok.blt,ok.above,ok.inj,ok.has,ok.cab,ok.hd,ok.frames,ok.stk,ok.exf,ok.bs,ok.bsz,ok.noex,ok.exfs,ok.funs,ok.frf⟩
theorem Cx.Ok.unwish (ok:(X.wish E).Ok):X.Ok :=
 ⟨ok.mod,ok.kind,ok.glob,ok.blt,ok.above,ok.inj,ok.has,ok.cab,ok.hd,ok.frames,ok.stk,ok.exf,ok.bs,ok.bsz,ok.noex,ok.exfs,ok.funs,ok.frf⟩
theorem Inv.wish (I:Inv X aR σ H s)(E:af→aq→Prop):Inv (X.wish E) aR σ H s:=⟨I.ok.wish E,I.os,I.bare,I.base,I.loc,I.cell,I.free,I.freeC,I.pin,I.hok,I.len⟩
theorem Inv.unwish (I:Inv (X.wish E) aR σ H s):Inv X aR σ H s:=⟨I.ok.unwish,I.os,I.bare,I.base,I.loc,I.cell,I.free,I.freeC,I.pin,I.hok,I.len⟩
theorem SP.unwish {D:Ends}{f:Flow}(h:SP (X.wish E) aR D f s'):SP X aR D f s':=by
 cases f with
 | next=>obtain⟨σ',H',I,q⟩:=h;exact⟨σ',H',I.unwish,q⟩
 | brk=>obtain⟨σ',H',I,q⟩:=h;exact⟨σ',H',I.unwish,q⟩
 | cont=>obtain⟨σ',H',I,q⟩:=h;exact⟨σ',H',I.unwish,q⟩
 | ret u=>obtain⟨v,σ',H',I,r,q⟩:=h;exact⟨v,σ',H',I.unwish,r,q⟩
theorem PSs.nox {st:List cJ}{t:TS}(h:PSs X.nox st t):PSs X st t:=λaR s σ H D I hw =>
 cy (h aR s σ H D (I.wish _) hw) (λ_ _ q=>q.unwish) λ_ _ z=>cX z
section
variable {rest:List cJ}{t u:TS}
def tNext:TS:=λD σ H=>D.nx σ H
def tSeq (t u:TS):TS:=λD σ H=>t { D with nx:=u D } σ H
theorem dX:PSs X [] tNext:=λ_ _ σ H _ I h=>wpAny_execs_nil ⟨σ,H,I,h⟩
theorem pB (h1:PS X st t)(h2:PSs X rest u):PSs X (st::rest) (tSeq t u):=by
 intro aR s σ H D I h;apply wpAny_execs_cons (thn (h1 aR s σ H { D with nx:=u D } I h) λf s1 q=>?_);cases f with
 | next =>
  obtain⟨σ',H',I',q⟩:=q;exact h2 aR s1 σ' H' D I' q
 | ret v=>exact q
 | brk=>exact q
 | cont=>exact q
theorem cL (h1:PS X st t):PSs X [st] t:=by
 intro aR s σ H D I h;apply wpAny_execs_cons (thn (h1 aR s σ H D I h) λf s1 q=>?_);cases f with
 | next=>exact wpAny_execs_nil q
 | ret v=>exact q
 | brk=>exact q
 | cont=>exact q
theorem Inv.quiet (I:Inv X aR σ H s):interactive X.env=false:=by simp[interactive,I.ok.kind]
def tDrop (te:TE):TS:=λD σ H=>te σ H λ_ H1=>D.nx σ H1
theorem iY (he:PE X e te)(hs:swapsWith e none pos.line X.env=gf false:=by rfl):PS X (.Expr e pos) (tDrop te):=by
 intro aR s σ H D I h;exact wpAny_Expr_any (thn (he aR s σ H _ I h) λv s1 ⟨x,H1,I1,r1,q1⟩=>⟨σ,H1,I1,q1⟩) I.quiet hs
def tRet (te:TE):TS:=λD σ H=>te σ H D.rt
theorem cf (he:PE X e te):PS X (.Return (some e) pos) (tRet te):=by
 intro aR s σ H D I h;exact wpAny_Return_some (thn (he aR s σ H _ I h) λv s1 ⟨x,H1,I1,r1,q1⟩=>⟨x,σ,H1,I1,r1,q1⟩)
def tIfS (c:TT)(t u:TS):TS:=λD σ H=>c σ H λb H1=>if b=true then t D σ H1 else u D σ H1
theorem ib {c:Expr}{a b:List cJ}{tc:TT}(hc:PT X c tc)(ha:PSs X a t)(hb:PSs X b u):PS X (.If c a b pos) (tIfS tc t u):=by
 intro aR s σ H D I h;apply wpAny_If (thn (hc aR s σ H _ I h) λd s1 ⟨H1,I1,q1⟩=>?_);cases d with
 | true=>exact ha aR s1 σ H1 D I1 q1
 | false=>exact hb aR s1 σ H1 D I1 q1
end
abbrev TG:=V→St→Hp→(St→Hp→Prop)→Prop
abbrev TGs:=List V→St→Hp→(St→Hp→Prop)→Prop
def PG (X:Cx)(target:Expr)(t:TG):Prop :=
 ∀(aR:List (ak×Obj)) (s:aq) (σ:St) (H:Hp) (v:V) (u:af) (Q:St→Hp→Prop),Inv X aR σ H s→gQ v u→t v σ H Q →
  bc (bE X.prog X.w) X.A (assign target X.env u) (λ_ s'=>∃σ' H',Inv X aR σ' H' s'∧Q σ' H') X.xe s
def PGs (X:Cx)(ts:List Expr)(t:TGs):Prop :=
 ∀(aR:List (ak×Obj)) (s:aq) (σ:St) (H:Hp) (vs:List V) (us:List af) (Q:St→Hp→Prop),Inv X aR σ H s→gw vs us→t vs σ H Q →
  bc (bE X.prog X.w) X.A (assignInOrder ((assignEach ts X.env).map (·.2)) us) (λ_ s'=>∃σ' H',Inv X aR σ' H' s'∧Q σ' H') X.xe s
abbrev TSet:=V→V→V→Hp→(Hp→Prop)→Prop
def PSet (X:Cx)(t:TSet):Prop :=
 ∀(aR:List (ak×Obj)) (s:aq) (σ:St) (H:Hp) (o i v:V) (ov iv u:af) (Q:Hp→Prop),Inv X aR σ H s→gQ o ov→gQ i iv→gQ v u→t o i v H Q →
  bc (bE X.prog X.w) X.A (setItem ov iv u) (λ_ s'=>∃H',Inv X aR σ H' s'∧Q H') X.xe s
abbrev TIp:=V→V→Hp→VK→Prop
def PIp (X:Cx)(op:Operator)(t:TIp):Prop :=
 ∀(aR:List (ak×Obj)) (s:aq) (σ:St) (H:Hp) (x y:V) (v u:af) (Q:VK),Inv X aR σ H s→gQ x v→gQ y u→t x y H Q →
  bc (bE X.prog X.w) X.A (inplaceOp op v u) (EP X aR σ Q) X.xe s
def oR (i:Nat):TG:=λv σ H Q=>Q (σ.set i (some v)) H
theorem oj (hN:X.N.Nodup)(hi:X.N[i]? =some x)(hx:Loc X.env.scope x)(hf:X.fn x=true∨X.env.scope.names.lookup x=some .local:=by first | exact .inl rfl | exact .inr rfl | assumption):PG X (.Name x pos) (oR i):=by
 intro aR s σ H v u Q I r h;exact wpAny_assign_Name (store_ok I hN hi hx r (λs' I'=>⟨_,H,I',h⟩) hf)
def gNil:TGs:=λvs σ H Q=>vs=[]∧Q σ H
def gCons (t:TG)(u:TGs):TGs:=λvs σ H Q=>∃v r,vs=v::r∧t v σ H λσ' H'=>u r σ' H' Q
theorem oi:PGs X [] gNil:=by
 intro aR s σ H vs us Q I r h;obtain⟨e,h⟩:=h;subst e;cases r;exact assignInOrder_nil ⟨σ,H,I,h⟩
theorem iI {t:TG}{u:TGs}(h1:PG X e t)(h2:PGs X es u)
  (hs:(assignEach (e::es) X.env).map (·.2)=assign e X.env::(assignEach es X.env).map (·.2):=by rfl):PGs X (e::es) (gCons t u):=by
 intro aR s σ H vs us Q I r h;obtain⟨v,vr,e1,h⟩:=h;subst e1;cases r with
 | cons r rr =>
  rw[hs];apply assignInOrder_cons (thn (h1 aR s σ H _ _ _ I r h) λ_ s1 ⟨σ1,H1,I1,q1⟩=>?_);exact h2 aR s1 σ1 H1 _ _ Q I1 rr q1
def gTup (K:ai)(n:Nat)(t:TGs):TG:=λv σ H Q=>∃a xs,v= .ref a∧SqT K H a xs∧xs.length=n∧t xs σ H Q
theorem rm {k:Nat}{t:TGs}(hc:X.calm=true)(h:PGs X es t)
  (hn:(assignEach es X.env).length=n:=by rfl) (hst:(assignEach es X.env).findIdx? (·.1)=none:=by rfl):PG X (.Tuple es k pos) (gTup X.K n t):=by
 intro aR s σ H v u Q I r hw;obtain⟨a,xs,e1,hq,hl,hw⟩:=hw;subst e1;cases r;obtain⟨its,rv,ht,hz⟩:=I.tuple hq;apply assign_Tuple_tuple (I.ok.hd hc) ht (by simp[hn,←hl,rv.length]) hst λh' hx=>?_
 have I1:Inv X aR σ H { s with heap:=h' }:=I.kept (t':=s.toks) λb o e=>hx b o (bL (aO e)) e
 exact h aR _ σ H xs _ Q I1 (by simpa using rv) hw
def gSub (to ti:TE)(t:TSet):TG:=λv σ H Q=>to σ H λo H1=>ti σ H1 λi H2=>t o i v H2 λH3=>Q σ H3
theorem pg_sub {o i:Expr}{ti:TE}{t:TSet}(ho:PE X o to)(hi:PE X i ti)(hs:PSet X t)
  (ha:∀ v,assign (.Subscript o i pos) X.env v=(do
   let ov ← holding [v] (eG o X.env)
   let iv ← holding [v,ov] (eG i X.env)
   standAt pos
   holding [v,ov,iv] (setItem ov iv v)
   release [v,ov,iv] []):=by intro _;rfl):PG X (.Subscript o i pos) (gSub to ti t):=by
 intro aR s σ H v u Q I r h;rw[ha];apply ah (eu (thn (ho aR s σ H _ I h) λov s1 ⟨x,H1,I1,r1,q1⟩=>?_));apply ah (eu (thn (hi aR s1 σ H1 _ I1 q1) λiv s2 ⟨y,H2,I2,r2,q2⟩=>?_));apply ah (wpAny_standAt (ah (eu (thn (hs aR s2 σ H2 x y v ov iv u _ I2 r1 r2 r q2) λ_ s3 ⟨H3,I3,q3⟩=>?_))));exact wpAny_release ⟨σ,H3,I3,q3⟩
def tAsg (te:TE)(g:TG):TS:=λD σ H=>te σ H λx H1=>g x σ H1 D.nx
theorem ps_asg {g:TG}(he:PE X e te)(hg:PG X tg g)(hs:swapsWithSole [tg] e pos.line X.env=gf false:=by rfl)(hw:swappedStores [tg] e X.env=gf none:=by rfl)
  (h1:(assignEach [tg] X.env).map (·.2)=[assign tg X.env]:=by rfl):PS X (.Assign [tg] e pos) (tAsg te g):=by
 intro aR s σ H D I h;apply wpAny_Assign_stores (thn (he aR s σ H _ I h) λv s1 ⟨x,H1,I1,r1,q1⟩=>?_) hs hw;rw[h1];exact thn (hg aR s1 σ H1 x v _ I1 r1 q1) λ_ s2 q=>q
theorem ps_set (hN:X.N.Nodup)(hi:X.N[i]? =some x)(hx:Loc X.env.scope x)(he:PE X e te)(hs:swapsWith e (some (.Name x pos')) pos.line X.env=gf false:=by rfl)(hf:X.fn x=true∨X.env.scope.names.lookup x=some .local:=by first | exact .inl rfl | exact .inr rfl | assumption) :
  PS X (.Assign [.Name x pos'] e pos) (tAsg te (oR i)):=by
 intro aR s σ H D I h;apply wpAny_Assign_Name (thn (he aR s σ H _ I h) λv s1 ⟨y,H1,I1,r1,q1⟩=>?_) hs;exact store_ok I1 hN hi hx r1 (λs2 I2=>⟨_,H1,I2,q1⟩) hf
def tAug (i:Nat)(te:TE)(ti:TIp):TS:=λD σ H=>∃x,σ[i]? =some (some x)∧te σ H λy H1=>ti x y H1 λz H2=>D.nx (σ.set i (some z)) H2
theorem qp {op:Operator}{ti:TIp}(hN:X.N.Nodup)(hi:X.N[i]? =some x)(hx:Loc X.env.scope x)(he:PE X e te)(ho:PIp X op ti)(hf:X.fn x=true∨X.env.scope.names.lookup x=some .local:=by first | exact .inl rfl | exact .inr rfl | assumption) :
  PS X (.AugAssign (.Name x pos') op e pos) (tAug i te ti):=by
 intro aR s σ H D I h;obtain⟨v,e1,h⟩:=h;obtain⟨m,hn,hl⟩:=I.loc;have vis:Vis X.env.scope x:=by rcases hx with k | k;exact .inl k;exact .inr (.inl k)
 obtain⟨u,r,l⟩:=hl i x v hi e1 vis;apply wpAny_AugAssign_Name ?_;have go:bc (bE X.prog X.w) X.A (eG e X.env) (λw s₂=>bc (bE X.prog X.w) X.A (inplaceOp op u w) (λr s₃=>bc (bE X.prog X.w) X.A (storeName X.env x r) (λ_=>SP X aR D .next) X.xe s₃) X.xe s₂) X.xe s:=by
  apply thn (he aR s σ H _ I h) λw s1 ⟨y,H1,I1,r1,q1⟩=>?_
  apply thn (ho aR s1 σ H1 v y u w _ I1 r r1 q1) λz s2 ⟨zv,H2,I2,r2,q2⟩=>?_
  exact store_ok I2 hN hi hx r2 (λs3 I3=>⟨_,H2,I3,q2⟩) hf
 rcases l with ⟨hk,hm⟩ | ⟨hk,c,hc,jd⟩
 ·exact wpAny_loadName_local I.ok.kind hk hn hm go
 ·rcases hk with hk | hk
  ·exact wpAny_loadName_cell I.ok.kind hk hc jd go
  ·rcases hx with k | k
   ·have:X.env.scope.names.lookup x=some .free:=hk
    rw[k] at this;cases this
   ·have:X.env.scope.names.lookup x=some .free:=hk
    rw[k] at this;cases this
def tAugS (to ti te:TE)(tget:V→V→Hp→VK→Prop)(tip:TIp)(tset:TSet):TS:=λD σ H=>to σ H λo H1=>ti σ H1 λi H2=>tget o i H2 λx H3=>te σ H3 λy H4=>tip x y H4 λz H5=>tset o i z H5 λH6=>D.nx σ H6
def PGet (X:Cx)(t:V→V→Hp→VK→Prop):Prop :=
 ∀(aR:List (ak×Obj)) (s:aq) (σ:St) (H:Hp) (o i:V) (ov iv:af) (Q:VK),Inv X aR σ H s→gQ o ov→gQ i iv→t o i H Q →
  bc (bE X.prog X.w) X.A (getItem ov iv) (EP X aR σ Q) X.xe s
theorem ps_augS {o i:Expr}{ti:TE}{tip:TIp}{tset:TSet}{op:Operator}(ho:PE X o to)(hi:PE X i ti)(hg:PGet X tget)(he:PE X e te)(hp:PIp X op tip)(hs:PSet X tset)
  (ha:∀ov iv new,augStore i ov iv new=(do holding [new,ov,iv] (setItem ov iv new);release [new,ov,iv] [];gf .next):=by intros;rfl):PS X (.AugAssign (.Subscript o i tpos) op e pos) (tAugS to ti te tget tip tset):=by
 intro aR s σ H D I h;apply wpAny_AugAssign_SubscriptAny (thn (ho aR s σ H _ I h) λov s1 ⟨x1,H1,I1,r1,q1⟩=>?_) ha;apply thn (hi aR s1 σ H1 _ I1 q1) λiv s2 ⟨x2,H2,I2,r2,q2⟩=>?_
 apply thn (hg aR s2 σ H2 x1 x2 ov iv _ I2 r1 r2 q2) λold s3 ⟨x3,H3,I3,r3,q3⟩=>?_
 apply thn (he aR s3 σ H3 _ I3 q3) λv s4 ⟨x4,H4,I4,r4,q4⟩=>?_
 apply thn (hp aR s4 σ H4 x3 x4 old v _ I4 r3 r4 q4) λnew s5 ⟨x5,H5,I5,r5,q5⟩=>?_
 exact thn (hs aR s5 σ H5 x1 x2 x5 ov iv new _ I5 r1 r2 r5 q5) λ_ s6 ⟨H6,I6,q6⟩=>⟨σ,H6,I6,q6⟩
def ipI (f:Int→Int→Int):TIp:=λx y H Q=>∃i j,x= .int i∧y= .int j∧Q (.int (f i j)) H
theorem ip_add:PIp X .Add (ipI λi j=>i+j):=by
 intro aR s σ H x y v u Q I r1 r2 h;obtain⟨i,j,e1,e2,q⟩:=h;subst e1;subst e2;obtain⟨t,rfl⟩:=r1;obtain⟨t',rfl⟩:=r2;exact iadd_int ⟨.int _,H,I.tok _,⟨_,rfl⟩,q⟩
theorem ip_sub:PIp X .Sub (ipI λi j=>i - j):=by
 intro aR s σ H x y v u Q I r1 r2 h;obtain⟨i,j,e1,e2,q⟩:=h;subst e1;subst e2;obtain⟨t,rfl⟩:=r1;obtain⟨t',rfl⟩:=r2;exact isub_int ⟨.int _,H,I.tok _,⟨_,rfl⟩,q⟩
def tWhile (c:TT)(tb:TS):TS:=λD σ H=>∃W:Nat→St→Hp→Prop,(∃m,W m σ H)∧∀m σ H,W m σ H →
 c σ H λb H1=>if b=true then ∃N:St→Hp→Prop,(∀σ' H',N σ' H'→∃m',m'<m∧W m' σ' H')∧tb { D with nx:=N,ct:=N,bk:=D.nx } σ H1 else D.nx σ H1
theorem pE {c:Expr}{body:List cJ}{tc:TT}{tb:TS}(hp:PassesOwn (bE X.prog X.w) X.A X.env X.xe)(hc:PT X c tc)(hb:PSs X body tb):PS X (.While c body [] pos) (tWhile tc tb):=by
 intro aR s σ H D I h;obtain⟨W,⟨m0,w0⟩,turn⟩:=h;apply wpAny_While (codeAny_whileLoop (λn s'=>∃σ' H',Inv X aR σ' H' s'∧W n σ' H') ?_ m0 ⟨σ,H,I,w0⟩);rintro n s1 ⟨σ1,H1,I1,w1⟩;apply iW hp (thn (hc aR s1 σ1 H1 _ I1 (turn n σ1 H1 w1)) λb s2 ⟨H2,I2,q2⟩=>?_);cases b with
 | true =>
  obtain⟨N,hN,q2⟩:=q2;rw[rV rfl];apply iW hp (thn (hb aR s2 σ1 H2 _ I2 q2) λf s3 q3=>?_);cases f with
  | next =>
   obtain⟨σ3,H3,I3,n3⟩:=q3;obtain⟨m',hm,w3⟩:=hN σ3 H3 n3;exact⟨m',hm,σ3,H3,I3,w3⟩
  | cont =>
   obtain⟨σ3,H3,I3,n3⟩:=q3;obtain⟨m',hm,w3⟩:=hN σ3 H3 n3;exact⟨m',hm,σ3,H3,I3,w3⟩
  | brk=>exact q3
  | ret v=>exact q3
 | false =>
  rw[rT aS];exact wpAny_execs_nil ⟨σ1,H2,I2,q2⟩
structure It where
 go:Nat→Hp→Prop
 yld:Nat→Hp→V→Hp→Prop
 stop:Nat→Hp→Prop
def FpOk (X:Cx)(aR:List (ak×Obj))(H:Hp)(b:ak):Prop :=
 H b=none∧b≠X.env.locals∧b ∉ X.fs∧(b∈X.ex∨X.s₀.heap.objs.size≤b)∧(∀x c,X.env.cells.lookup x=some c→c≠b)∧∀p∈X.pn++aR,p.1≠b
theorem Inv.fpOk {b:ak}(I:Inv X aR σ H s)(hb:s.heap.objs.size≤b)(hn:H' b=none):FpOk X aR H' b:=by
 apply⟨hn,df (aU I.lt hb),I.nofs hb,.inr (bj I.sz hb),λx c e z=>?_,λp hp z=>?_⟩
 ·obtain⟨v,q⟩:=I.cell x c e
  exact rW (aU q.lt (by rw[z];exact hb)) (gj _)
 ·exact rW (aU (aO (I.pin p hp).1) (by rw[z];exact hb)) (gj _)
structure Turn (P:aV)(w:bG)(K:ai)(tg:Expr)(J:It)(fp:List ak)(it:ak)(tn:Nat→bO→Prop):Prop where
 mem:it∈fp
 obj:∀i h,tn i h→∀b∈fp,∃o,h.get? b=some o∧∀v,o.data≠ .cell v
 keep:∀i h h',tn i h→(∀b∈fp,∀o,h.get? b=some o→h'.get? b=some o)→tn i h'
 item:∀(X:Cx),X.prog=P→X.w=w→X.K=K→X.calm=true→∀(i:Nat) (aR:List (ak×Obj)) (s:aq) (σ:St) (H:Hp) (E:af→aq→Prop),Inv X aR σ H s→(∀b∈fp,FpOk X aR H b)→tn i s.heap→J.go i H →
  bc (bE P w) X.A (pyNext (.ref it)) (fun r s1=>∃ u,r=some u ∧
   bc (bE P w) X.A (letOwnedTupleGo tg (.ref it) u) (fun _ s2=>∃ x H',Inv X aR σ H' s2∧gQ x u∧J.yld i H x H'∧tn (i+1) s2.heap∧∀ b∈fp,H' b=none) E s1) E s
 done:∀(X:Cx),X.prog=P→X.w=w→X.K=K→X.calm=true→∀(i:Nat) (aR:List (ak×Obj)) (s:aq) (σ:St) (H:Hp) (E:af→aq→Prop),Inv X aR σ H s→(∀b∈fp,FpOk X aR H b)→tn i s.heap→J.stop i H →
  bc (bE P w) X.A (pyNext (.ref it)) (λr s1=>r=none∧Inv X aR σ H s1) E s
 self:∀(A:bY) (i:Nat) (s:aq) (Q:af→aq→Prop) (E:af→aq→Prop),tn i s.heap→Q (.ref it) s→bc (bE P w) A (pyIter (.ref it)) Q E s
abbrev TI:=St→Hp→(It→Hp→Prop)→Prop
def PIE (X:Cx)(aR:List (ak×Obj))(σ:St)(tg:Expr)(R:It→Hp→Prop)(itv:af)(s2:aq):Prop :=
 ∃(it:ak) (fp:List ak) (tn:Nat→bO→Prop) (J:It) (H':Hp),itv= .ref it∧Inv X aR σ H' s2∧Turn X.prog X.w X.K tg J fp it tn∧tn 0 s2.heap∧(∀b∈fp,FpOk X aR H' b)∧R J H'
def PI (X:Cx)(tg iter:Expr)(wi:TI):Prop :=
 ∀(aR:List (ak×Obj)) (s:aq) (σ:St) (H:Hp) (R:It→Hp→Prop),Inv X aR σ H s→wi σ H R →
  bc (bE X.prog X.w) X.A (eG iter X.env) (λv s1=>bc (bE X.prog X.w) X.A (pyIter v) (PIE X aR σ tg R) X.xe s1) X.xe s
theorem go_of {it:ak}{o:Obj}{n:String}{vs:Array af}{Q:Unit→aq→Prop}(ho:s.heap.get? it=some o)(hc:o.cls= .type n)(hd:o.data= .fields vs)
  (hn:["enumerate","zip","dict_itemiterator","dict_reverseitemiterator","odict_iterator","itertools.zip_longest","itertools.pairwise"].contains n=false) (hQ:Q () s):bc M A (letOwnedTupleGo tg (.ref it) u) Q E s:=by
 unfold letOwnedTupleGo;cases tg <;> first
  | exact aP hQ
  | (cases u <;> first
    | exact aP hQ
    | (apply ah (wpAny_load ho ?_)
       rw [hc,hd];show bc M A (if (["enumerate","zip","dict_itemiterator","dict_reverseitemiterator","odict_iterator","itertools.zip_longest","itertools.pairwise"].contains n && vs[0]? == some (rawInt _))=true then _ else _) Q E s;rw [rT (by intro h;rw [hn,Bool.false_and] at h;cases h)];exact aP hQ))
def Itl (K:ai)(a:ak):It :=
 ⟨λi H=>∃xs x,SqL K H a xs∧xs[i]? =some x,λi H x H'=>H'=H∧∀xs,SqL K H a xs→xs[i]? =some x,λi H=>∃xs,SqL K H a xs∧xs.length≤i⟩
def Itt (K:ai)(a:ak):It :=
 ⟨λi H=>∃xs x,SqT K H a xs∧xs[i]? =some x,λi H x H'=>H'=H∧∀xs,SqT K H a xs→xs[i]? =some x,λi H=>∃xs,SqT K H a xs∧xs.length≤i⟩
def Itr (lo:Int)(n:Nat):It:=⟨λi _=>i<n,λi H x H'=>H'=H∧x= .int (lo+i),λi _=>n≤i⟩
theorem turn_list (a it:ak):Turn P w K tg (Itl K a) [it] it (λi h=>h.IsListIter it a i) where
 mem:=by simp
 obj:=λi h st b hb=>by
  have e:b=it:=by simpa using hb
  subst e;obtain⟨o,e,c,d⟩:=st;exact⟨o,e,λv z=>by rw[d] at z;cases z⟩
 keep:=λi h h' st k=>st.at λo e=>k it ∅ o e
 item:=by
  intro X hP hw hK hc i aR s σ H E I hf st hg;subst hP hw hK;obtain⟨xs,x,hq,hx⟩:=hg;obtain⟨its,rv,p,hz⟩:=I.list hq;obtain⟨u,hu,ru⟩:=rv.get hx;obtain⟨f0,f1,f2,f3,f4,f5⟩:=hf it ∅;apply wpAny_pyNext_list_item st p.isList (x:=u) (by simpa using hu) λh' st' sb=>?_
  have I1:Inv X aR σ H { s with heap:=h' }:=I.turned (t':=s.toks) (λb o hb e=>(sb.2 b hb).trans e) f0 f1 f3 f4 f5;obtain⟨o,e,c,d⟩:=id st';exact⟨u,rfl,go_of (s:={ s with heap:=h' }) e c d ↥0 ⟨x,H,I1,ru,⟨rfl,λys hy=>by rw[I.list_inj hy hq];exact hx⟩,st',λb hb=>(hf b hb).1⟩⟩
 done:=by
  intro X hP hw hK hc i aR s σ H E I hf st hg;subst hP hw hK;obtain⟨xs,hq,hx⟩:=hg;obtain⟨its,rv,p,hz⟩:=I.list hq;obtain⟨f0,f1,f2,f3,f4,f5⟩:=hf it ∅;have hl:=rv.length;exact wpAny_pyNext_list_end (I.ok.hd hc) st p.isList (by simp;lia) λh' eb=>⟨rfl,I.turned (t':=s.toks) (λb o hb e=>eb b o hb e) f0 f1 f3 f4 f5⟩
 self:=λ_ _ _ _ _ st h=>wpAny_pyIter_listiter st h
theorem turn_tuple (a it:ak):Turn P w K tg (Itt K a) [it] it (λi h=>h.IsTupleIter it a i) where
 mem:=by simp
 obj:=λi h st b hb=>by
  have e:b=it:=by simpa using hb
  subst e;obtain⟨o,e,c,d⟩:=st;exact⟨o,e,λv z=>by rw[d] at z;cases z⟩
 keep:=λi h h' st k=>st.at λo e=>k it ∅ o e
 item:=by
  intro X hP hw hK hc i aR s σ H E I hf st hg;subst hP hw hK;obtain⟨xs,x,hq,hx⟩:=hg;obtain⟨its,rv,p,hz⟩:=I.tuple hq;obtain⟨u,hu,ru⟩:=rv.get hx;obtain⟨f0,f1,f2,f3,f4,f5⟩:=hf it ∅;apply wpAny_pyNext_tuple_item st (show s.heap.IsTuple a its.toArray from p) (x:=u) (by simpa using hu) λh' st' sb=>?_
  have I1:Inv X aR σ H { s with heap:=h' }:=I.turned (t':=s.toks) (λb o hb e=>(sb.2 b hb).trans e) f0 f1 f3 f4 f5;obtain⟨o,e,c,d⟩:=id st';exact⟨u,rfl,go_of (s:={ s with heap:=h' }) e c d ↥0 ⟨x,H,I1,ru,⟨rfl,λys hy=>by rw[I.tuple_inj hy hq];exact hx⟩,st',λb hb=>(hf b hb).1⟩⟩
 done:=by
  intro X hP hw hK hc i aR s σ H E I hf st hg;subst hP hw hK;obtain⟨xs,hq,hx⟩:=hg;obtain⟨its,rv,p,hz⟩:=I.tuple hq;obtain⟨f0,f1,f2,f3,f4,f5⟩:=hf it ∅;have hl:=rv.length;exact wpAny_pyNext_tuple_end (I.ok.hd hc) st (show s.heap.IsTuple a its.toArray from p) (by simp;lia) λh' eb=>⟨rfl,I.turned (t':=s.toks) (λb o hb e=>eb b o hb e) f0 f1 f3 f4 f5⟩
 self:=λ_ _ _ _ _ st h=>wpAny_pyIter_tupleiter st h
theorem turn_range (it:ak)(lo:Int)(n:Nat):Turn P w K tg (Itr lo n) [it] it (λi h=>IsRangeIter h it (lo+(i:Nat) * 1) ((n:Int) - (i:Nat)) 1) where
 mem:=by simp
 obj:=λi h st b hb=>by
  have e:b=it:=by simpa using hb
  subst e;exact ⟨_,st,fun v z=>by
   have z':Data.fields _=Data.cell v:=z;cases z'⟩
 keep:=λi h h' st k=>k it ∅ _ st
 item:=by
  intro X hP hw hK hc i aR s σ H E I hf st hg;subst hP hw hK;obtain⟨f0,f1,f2,f3,f4,f5⟩:=hf it ∅;have W:=Walks.range (prog:=X.prog) (w:=X.w) (I.ok.hd hc) it lo 1 n;apply W.item i s _ _ hg st λv h' tk hv st' kk=>?_
  obtain⟨t,rfl⟩:=hv;have I1:Inv X aR σ H { s with heap:=h',toks:=tk }:=I.turned (λb o hb e=>kk b o (by simpa using hb) e) f0 f1 f3 f4 f5;apply⟨_,rfl,go_of (s:={ s with heap:=h',toks:=tk }) (n := "range_iterator") st' rfl rfl ↥0 ⟨.int (lo+i),H,I1,⟨t,?_⟩,⟨rfl,rfl⟩,st',λb hb=>(hf b hb).1⟩⟩;rw[gN]
 done:=by
  intro X hP hw hK hc i aR s σ H E I hf st hg;subst hP hw hK;obtain⟨f0,f1,f2,f3,f4,f5⟩:=hf it ∅;exact wpAny_pyNext_range_end (I.ok.hd hc) st (by have:n≤i:=hg;lia) λh' eb=>⟨rfl,I.turned (t':=s.toks) (λb o hb e=>eb b o hb e) f0 f1 f3 f4 f5⟩
 self:=λ_ _ _ _ _ st h=>wpAny_pyIter_rangeiter st h
def iList (K:ai)(tl:TE):TI:=λσ H R=>tl σ H λx H1=>∃a,x= .ref a∧(∃xs,SqL K H1 a xs)∧R (Itl K a) H1
def iTup (K:ai)(tl:TE):TI:=λσ H R=>tl σ H λx H1=>∃a,x= .ref a∧(∃xs,SqT K H1 a xs)∧R (Itt K a) H1
theorem jZ {l:Expr}(hl:PE X l tl):PI X tg l (iList X.K tl):=by
 intro aR s σ H R I h;apply thn (hl aR s σ H _ I h) λv s1 ⟨x,H1,I1,r1,q1⟩=>?_
 obtain⟨a,e,⟨xs,hq⟩,q⟩:=q1;subst e;cases r1;obtain⟨its,rv,p,hz⟩:=I1.list hq;apply wpAny_pyIter_list p.isList ?_;apply⟨s1.heap.objs.size,[s1.heap.objs.size],_,_,H1,rfl,I1.kept (t':=s1.toks) λb o e=>au _ e,turn_list a _,⟨_,aW _ rfl,rfl,rfl⟩,λb hb=>?_,q⟩;have e:b=s1.heap.objs.size:=by simpa using hb
 subst e;exact I1.fpOk (aC _) (I1.hok.fresh (aC _))
theorem jj {l:Expr}(hl:PE X l tl):PI X tg l (iTup X.K tl):=by
 intro aR s σ H R I h;apply thn (hl aR s σ H _ I h) λv s1 ⟨x,H1,I1,r1,q1⟩=>?_
 obtain⟨a,e,⟨xs,hq⟩,q⟩:=q1;subst e;cases r1;obtain⟨its,rv,p,hz⟩:=I1.tuple hq;apply wpAny_pyIter_tuple (show s1.heap.IsTuple a its.toArray from p) ?_;apply⟨s1.heap.objs.size,[s1.heap.objs.size],_,_,H1,rfl,I1.kept (t':=s1.toks) λb o e=>au _ e,turn_tuple a _,⟨_,aW _ rfl,rfl,rfl⟩,λb hb=>?_,q⟩;have e:b=s1.heap.objs.size:=by simpa using hb
 subst e;exact I1.fpOk (aC _) (I1.hok.fresh (aC _))
theorem range_it {R:It→Hp→Prop}{hi:Int}{t u v:Tok}{tk:Nat}(I:Inv X aR σ H s)(h1: -(2 ^ 62)≤lo)(h2:lo<2 ^ 62)(h3: -(2 ^ 62)≤hi)(h4:hi<2 ^ 62)
  (q:R (Itr lo (hi - lo).toNat) H):bc (bE X.prog X.w) X.A (pyIter (.ref s.heap.objs.size)) (PIE X aR σ tg R) E { s with heap:=s.heap.push { cls:= .type "range",data:= .fields #[.int lo t,.int hi u,.int 1 v] },toks:=tk }:=by
 apply wpAny_pyIter_range (IsRange.new ..) (small_one h1 h2 h3 h4) ?_;have I1:Inv X aR σ H { s with heap:=s.heap.push { cls:= .type "range",data:= .fields #[.int lo t,.int hi u,.int 1 v] },toks:=tk }:=I.kept λb o e=>au _ e
 apply ⟨(s.heap.push { cls:= .type "range",data:= .fields #[.int lo t,.int hi u,.int 1 v] }).objs.size,[(s.heap.push { cls:= .type "range",data:= .fields #[.int lo t,.int hi u,.int 1 v] }).objs.size],_,_,H,rfl,
  I1.kept (t':=tk) fun b o e=>au _ e,turn_range _ lo (hi - lo).toNat,?_,fun b hb=>?_,q⟩
 ·have e1:lo+((0:Nat):Int) * 1=lo:=by simp
  have e2:(((hi - lo).toNat:Nat):Int) - ((0:Nat):Int)=cY lo hi 1:=by rw[rangeSize_one];split <;> lia
  show IsRangeIter _ _ (lo+((0:Nat):Int) * 1) ((((hi - lo).toNat:Nat):Int) - ((0:Nat):Int)) 1;rw[e1,e2];exact aW _ rfl
 ·have e:b=(s.heap.push { cls:= .type "range",data:= .fields #[.int lo t,.int hi u,.int 1 v] }).objs.size:=by simpa using hb
  subst e;exact I1.fpOk (aC _) (I1.hok.fresh (aC _))
def iRng1 (ta:TA):TI:=λσ H R=>ta σ H λvs H1=>∃j:Int,vs=[.int j]∧ -(2 ^ 62)≤j∧j<2 ^ 62∧R (Itr 0 j.toNat) H1
def iRng2 (ta:TA):TI:=λσ H R=>ta σ H λvs H1=>∃i j:Int,vs=[.int i,.int j]∧(-(2 ^ 62)≤i∧i<2 ^ 62∧ -(2 ^ 62)≤j∧j<2 ^ 62)∧R (Itr i (j - i).toNat) H1
theorem hX {a:Expr}{ta:TA}{p:Pos}(hg:Gl X "range")(hm:X.mg "range" =none)(ha:PA X [a] ta)(hs:bD [a] X.env=[(false,eG a X.env)]:=by rfl):PI X tg (.Call (.Name "range" p) [a] [] pos) (iRng1 ta):=by
 intro aR s σ H R I h;apply Call_ (lT I hg hm boot_range (eO (thn (ha pos aR s σ H _ I h) λus s1 ⟨vs,H1,I1,r1,q1⟩=>?_) hs rfl));obtain⟨j,e,q1,q2,q⟩:=q1;subst e;cases r1 with
 | cons r rr =>
  cases rr;obtain⟨t,rfl⟩:=r;exact call_range_1 (range_it I1 ⋯ ⋯ q1 q2 (by simpa using q))
theorem pi_range2 {a b:Expr}{ta:TA}{p:Pos}(hg:Gl X "range")(hm:X.mg "range" =none)(ha:PA X [a,b] ta)(hs:bD [a,b] X.env=[(false,eG a X.env),(false,eG b X.env)]:=by rfl)(hs2:bD [b] X.env=[(false,eG b X.env)]:=by rfl) :
  PI X tg (.Call (.Name "range" p) [a,b] [] pos) (iRng2 ta):=by
 intro aR s σ H R I h;apply Call_ (lT I hg hm boot_range (eO (thn (ha pos aR s σ H _ I h) λus s1 ⟨vs,H1,I1,r1,q1⟩=>?_) (by rw[hs,hs2]) (by rw[hs2];rfl)));obtain⟨i,j,e,⟨q1,q2,q3,q4⟩,q⟩:=q1;subst e;cases r1 with
 | cons r rr =>
  cases rr with
  | cons r' rr =>
   cases rr;obtain⟨t,rfl⟩:=r;obtain⟨t',rfl⟩:=r';exact call_range_2 (range_it I1 q1 q2 q3 q4 q)
def tFor (wi:TI)(g:TG)(tb:TS):TS:=λD σ H=>wi σ H λJ H1=>∃W:Nat→Nat→St→Hp→Prop,(∃m,W 0 m σ H1)∧∀i m σ H,W i m σ H →
 (J.stop i H∧D.nx σ H)∨(J.go i H∧∃N:St→Hp→Prop,(∀σ' H',N σ' H'→∃m',m'<m∧W (i+1) m' σ' H')∧∀x H',J.yld i H x H'→g x σ H' λσ2 H2=>tb { D with nx:=N,ct:=N,bk:=D.nx } σ2 H2)
def pinsAt (fp:List ak)(h:bO):List (ak×Obj):=fp.filterMap λb=>(h.get? b).map λo=>(b,o)
theorem md {b:ak}{o:Obj}(hb:b∈fp)(e:h.get? b=some o):(b,o)∈pinsAt fp h:=List.mem_filterMap.mpr ⟨b,hb,by rw[e];rfl⟩
theorem of_pinsAt {p:ak×Obj}(hp:p∈pinsAt fp h):p.1∈fp∧h.get? p.1=some p.2:=by
 obtain⟨b,hb,e⟩:=List.mem_filterMap.mp hp;cases q:h.get? b with
 | none=>rw[q] at e;cases e
 | some o =>
  rw[q] at e;have e':(b,o)=p:=cE e;subst e';exact⟨hb,q⟩
theorem Inv.pinned (I:Inv X aR σ H s)(hf:∀b∈fp,FpOk X aR H b)(ho:∀b∈fp,∃o,s.heap.get? b=some o∧∀v,o.data≠ .cell v):Inv X (aR++pinsAt fp s.heap) σ H s :=
 I.pins_of λp hp=>(aQ.mp hp).elim (λz=>I.pin p (az _ z)) λz=>by
  obtain⟨hb,e⟩:=of_pinsAt z;obtain⟨f0,f1,f2,_⟩:=hf p.1 hb;obtain⟨o,e',d⟩:=ho p.1 hb;rw[e] at e';cases e';exact⟨e,f0,f1,f2,d⟩
theorem Inv.unpinned {pl:List (ak×Obj)}(I:Inv X (aR++pl) σ H s):Inv X aR σ H s:=I.pins_of λp hp=>I.pin p (az _ (aM _ hp))
theorem iP {body:List cJ}{wi:TI}{g:TG}{tb:TS}(hp:PassesOwn (bE X.prog X.w) X.A X.env X.xe)(hc:X.calm=true)(hi:PI X tg iter wi)(hg:PG X tg g)(hb:PSs X body tb)
  (hs:∀x,gX iter X.env x=gf x:=by intro _;rfl):PS X (.For tg iter body [] pos) (tFor wi g tb):=by
 intro aR s σ H D I h;apply wpAny_For (thn (hi aR s σ H _ I h) λv s1 h1=>thn h1 λitv s2 h2=>?_) hs;obtain⟨it,fp,tn,J,H2,e,I2,T,st2,f2,W,⟨m0,w0⟩,turn⟩:=h2;subst e;have stat:∀{H':Hp},(∀b∈fp,H' b=none)→∀b∈fp,FpOk X aR H' b:=λhn b hb=>⟨hn b hb,(f2 b hb).2⟩
 apply codeAny_forLoop_any (λn s'=>∃i σ' H',Inv X aR σ' H' s'∧tn i s'.heap∧(∀b∈fp,H' b=none)∧W i n σ' H') ?_ m0 ⟨0,σ,H2,I2,st2,λb hb=>(f2 b hb).1,w0⟩;rintro n s3 ⟨i,σ3,H3,I3,st3,fr3,w3⟩
 rcases turn i n σ3 H3 w3 with ⟨stop,qn⟩ | ⟨go,N,hN,step⟩
 ·apply iW hp (thn (T.done X rfl rfl rfl hc i aR s3 σ3 H3 X.xe I3 (stat fr3) st3 stop) λr s4 ⟨hr,I4⟩=>?_)
  subst hr;exact wpAny_execs_nil ⟨σ3,H3,I4,qn⟩
 ·apply iW hp (thn (T.item X rfl rfl rfl hc i aR s3 σ3 H3 X.xe I3 (stat fr3) st3 go) λr s4 ⟨u,hr,h4⟩=>?_)
  subst hr;apply iW hp (thn h4 λ_ s5 ⟨x,H5,I5,r5,y5,st5,fr5⟩=>?_);have I5':=I5.pinned (stat fr5) (T.obj _ _ st5);apply iW hp (thn (hg _ s5 σ3 H5 x u _ I5' r5 (step x H5 y5)) λ_ s6 ⟨σ6,H6,I6,q6⟩=>?_);apply iW hp (thn (hb _ s6 σ6 H6 _ I6 q6) λf s7 q7=>?_);have again:∀{σ7:St} {H7:Hp},Inv X (aR++pinsAt fp s5.heap) σ7 H7 s7→N σ7 H7→∃m,m<n∧∃i σ' H',Inv X aR σ' H' s7∧tn i s7.heap∧(∀b∈fp,H' b=none)∧W i m σ' H':=λ{σ7 H7} I7 n7=>by
   obtain⟨m',hm,w7⟩:=hN σ7 H7 n7;apply⟨m',hm,i+1,σ7,H7,I7.unpinned,T.keep _ _ _ st5 λb hb o e=>(I7.pin (b,o) (az _ (az _ (md hb e)))).1,λb hb=>?_,w7⟩;obtain⟨o,e,d⟩:=T.obj _ _ st5 b hb;exact(I7.pin (b,o) (az _ (az _ (md hb e)))).2.1
  cases f with
  | next=>obtain⟨σ7,H7,I7,n7⟩:=q7;exact again I7 n7
  | cont=>obtain⟨σ7,H7,I7,n7⟩:=q7;exact again I7 n7
  | brk=>obtain⟨σ7,H7,I7,q7⟩:=q7;exact⟨σ7,H7,I7.unpinned,q7⟩
  | ret v=>obtain⟨x7,σ7,H7,I7,r7,q7⟩:=q7;exact⟨x7,σ7,H7,I7.unpinned,r7,q7⟩
theorem mj {g:TG}{tb:TS}{D:Ends}(Pv:Nat→St→Hp→Prop)(h0:Pv 0 σ H)(hl:∀i σ H,i≤xs.length→Pv i σ H→SqL K H a xs)
  (hs:∀i x σ H,xs[i]? =some x→Pv i σ H→g x σ H λσ2 H2=>tb { D with nx:=Pv (i+1),ct:=Pv (i+1),bk:=D.nx } σ2 H2) (hd:∀σ H,Pv xs.length σ H→D.nx σ H) :
  ∃W:Nat→Nat→St→Hp→Prop,(∃m,W 0 m σ H)∧∀i m σ H,W i m σ H →
   ((Itl K a).stop i H∧D.nx σ H)∨((Itl K a).go i H∧∃N:St→Hp→Prop,(∀σ' H',N σ' H'→∃m',m'<m∧W (i+1) m' σ' H')∧∀x H',(Itl K a).yld i H x H'→g x σ H' λσ2 H2=>tb { D with nx:=N,ct:=N,bk:=D.nx } σ2 H2):=by
 apply⟨λi m σ H=>m=xs.length - i∧i≤xs.length∧Pv i σ H,⟨xs.length,∅,bK _,h0⟩,?_⟩;rintro i m σ H ⟨rfl,hi,p⟩;have q:=hl i σ H hi p
 by_cases hlt:i<xs.length
 ·apply .inr ⟨⟨xs,xs[i],q,by simp[hlt]⟩,Pv (i+1),λσ' H' p'=>⟨xs.length - (i+1),⋯,rfl,hlt,p'⟩,λx H' y=>?_⟩
  obtain⟨e,y⟩:=y;subst e;exact hs i x σ _ (y xs q) p
 ·have e:i=xs.length:=by lia
  subst e;exact .inl ⟨⟨xs,q,aC _⟩,hd σ H p⟩
theorem ox {g:TG}{tb:TS}{D:Ends}(Pv:Nat→St→Hp→Prop)(h0:Pv 0 σ H)(hl:∀i σ H,i≤xs.length→Pv i σ H→SqT K H a xs)
  (hs:∀i x σ H,xs[i]? =some x→Pv i σ H→g x σ H λσ2 H2=>tb { D with nx:=Pv (i+1),ct:=Pv (i+1),bk:=D.nx } σ2 H2) (hd:∀σ H,Pv xs.length σ H→D.nx σ H) :
  ∃W:Nat→Nat→St→Hp→Prop,(∃m,W 0 m σ H)∧∀i m σ H,W i m σ H →
   ((Itt K a).stop i H∧D.nx σ H)∨((Itt K a).go i H∧∃N:St→Hp→Prop,(∀σ' H',N σ' H'→∃m',m'<m∧W (i+1) m' σ' H')∧∀x H',(Itt K a).yld i H x H'→g x σ H' λσ2 H2=>tb { D with nx:=N,ct:=N,bk:=D.nx } σ2 H2):=by
 apply⟨λi m σ H=>m=xs.length - i∧i≤xs.length∧Pv i σ H,⟨xs.length,∅,bK _,h0⟩,?_⟩;rintro i m σ H ⟨rfl,hi,p⟩;have q:=hl i σ H hi p
 by_cases hlt:i<xs.length
 ·apply .inr ⟨⟨xs,xs[i],q,by simp[hlt]⟩,Pv (i+1),λσ' H' p'=>⟨xs.length - (i+1),⋯,rfl,hlt,p'⟩,λx H' y=>?_⟩
  obtain⟨e,y⟩:=y;subst e;exact hs i x σ _ (y xs q) p
 ·have e:i=xs.length:=by lia
  subst e;exact .inl ⟨⟨xs,q,aC _⟩,hd σ H p⟩
theorem kq {g:TG}{tb:TS}{D:Ends}(Pv:Nat→St→Hp→Prop)(h0:Pv 0 σ H)
  (hs:∀i σ H,i<n→Pv i σ H→g (.int (lo+i)) σ H λσ2 H2=>tb { D with nx:=Pv (i+1),ct:=Pv (i+1),bk:=D.nx } σ2 H2) (hd:∀σ H,Pv n σ H→D.nx σ H) :
  ∃W:Nat→Nat→St→Hp→Prop,(∃m,W 0 m σ H)∧∀i m σ H,W i m σ H →
   ((Itr lo n).stop i H∧D.nx σ H)∨((Itr lo n).go i H∧∃N:St→Hp→Prop,(∀σ' H',N σ' H'→∃m',m'<m∧W (i+1) m' σ' H')∧∀x H',(Itr lo n).yld i H x H'→g x σ H' λσ2 H2=>tb { D with nx:=N,ct:=N,bk:=D.nx } σ2 H2):=by
 apply⟨λi m σ H=>m=n - i∧i≤n∧Pv i σ H,⟨n,∅,bK _,h0⟩,?_⟩;rintro i m σ H ⟨rfl,hi,p⟩
 by_cases hlt:i<n
 ·apply .inr ⟨hlt,Pv (i+1),λσ' H' p'=>⟨n - (i+1),⋯,rfl,hlt,p'⟩,λx H' y=>?_⟩
  obtain⟨e,y⟩:=y;subst e y;exact hs i σ _ hlt p
 ·have e:i=n:=by lia
  subst e;exact .inl ⟨aC _,hd σ H p⟩
abbrev R2:=V→V→Hp→VK→Prop
def OpR (X:Cx)(f:af→af→Sem af)(r:R2):Prop :=
 ∀(aR:List (ak×Obj)) (s:aq) (σ:St) (H:Hp) (x y:V) (v u:af) (Q:VK),Inv X aR σ H s→gQ x v→gQ y u→r x y H Q →
  bc (bE X.prog X.w) X.A (f v u) (EP X aR σ Q) X.xe s
def UnR (X:Cx)(f:af→Sem af)(r:V→Hp→VK→Prop):Prop :=
 ∀(aR:List (ak×Obj)) (s:aq) (σ:St) (H:Hp) (x:V) (v:af) (Q:VK),Inv X aR σ H s→gQ x v→r x H Q →
  bc (bE X.prog X.w) X.A (f v) (EP X aR σ Q) X.xe s
def ke (X:Cx)(f:af)(r:List V→Hp→VK→Prop):Prop :=
 ∀(aR:List (ak×Obj)) (s:aq) (σ:St) (H:Hp) (xs:List V) (us:List af) (Q:VK),Inv X aR σ H s→gw xs us→r xs H Q →
  bc (bE X.prog X.w) X.A (call f us) (EP X aR σ Q) X.xe s
def tOp (r:R2)(ta tb:TE):TE:=λσ H Q=>ta σ H λx H1=>tb σ H1 λy H2=>r x y H2 Q
def tUn (r:V→Hp→VK→Prop)(ta:TE):TE:=λσ H Q=>ta σ H λx H1=>r x H1 Q
inductive rI (C:Int→Int→Prop)(g:Int→Int→V)(x:V)(y:V)(H:Hp)(Q:VK):Prop
 | mk (i j:_)(_:x= .int i)(_:y= .int j)(_:C i j)(_:Q (g i j) H)
inductive rI0 (g:Int→Int→V)(x:V)(y:V)(H:Hp)(Q:VK):Prop
 | mk (i j:_)(_:x= .int i)(_:y= .int j)(_:Q (g i j) H)
inductive rU (g:Int→V)(x:V)(H:Hp)(Q:VK):Prop
 | mk (i:_)(_:x= .int i)(_:Q (g i) H)
section
variable {a b c:Expr}{tb tc:TE}
theorem binT (ha:PE X a ta)(hb:PE X b tb){R:V→V→Hp→Prop}(I:Inv X aR σ H s)
  (h:ta σ H λx H1=>tb σ H1 λy H2=>R x y H2) {f:af→af→Sem af}
  (hf:∀v u s2 x y H2,Inv X aR σ H2 s2→gQ x v→gQ y u→R x y H2→bc (bE X.prog X.w) X.A (f v u) Q X.xe s2) :
  bc (bE X.prog X.w) X.A (eG a X.env) (λv s₁=>bc (bE X.prog X.w) X.A (eG b X.env) (λu s₂=>bc (bE X.prog X.w) X.A (f v u) Q X.xe s₂) X.xe s₁) X.xe s:=by
 apply thn (ha aR s σ H _ I h) λv s1 ⟨x,H1,I1,r1,q1⟩=>?_
 apply thn (hb aR s1 σ H1 _ I1 q1) λu s2 ⟨y,H2,I2,r2,q2⟩=>?_
 exact hf v u s2 x y H2 I2 r1 r2 q2
theorem cS {op:Operator}{r:R2}(ho:OpR X (gY op) r)(ha:PE X a ta)(hb:PE X b tb):PE X (.BinOp a op b pos) (tOp r ta tb):=by
 intro aR s σ H Q I h;exact wpAny_BinOp (binT ha hb I h λv u s2 x y H2 I2 rx ry q=>ho aR s2 σ H2 x y v u Q I2 rx ry q)
theorem pe_un {op:UnaryOp}{r:V→Hp→VK→Prop}(ho:UnR X (unaryOp op) r)(ha:PE X a ta):PE X (.UnaryOp op a pos) (tUn r ta):=by
 intro aR s σ H Q I h;exact UnaryOp_ (thn (ha aR s σ H _ I h) λv s1 ⟨x,H1,I1,r1,q1⟩=>ho aR s1 σ H1 x v Q I1 r1 q1)
theorem opI {f:af→af→Sem af}{C:Int→Int→Prop}{g:Int→Int→Int}
  (rule:∀(i j:Int) (t u:Tok) (s:aq) (Q:af→aq→Prop) (E:af→aq→Prop),C i j→Q (.int (g i j) s.toks) { s with toks:=s.toks+1 }→bc (bE X.prog X.w) X.A (f (.int i t) (.int j u)) Q E s) :
  OpR X f (rI C λi j=> .int (g i j)):=by
 intro aR s σ H x y v u Q I rx ry h;obtain⟨i,j,rfl,rfl,hc,q⟩:=h;obtain⟨t,rfl⟩:=rx;obtain⟨t',rfl⟩:=ry;exact rule i j t t' s _ _ hc ⟨.int (g i j),H,I.tok _,⟨_,rfl⟩,q⟩
theorem opI0 {f:af→af→Sem af}{g:Int→Int→Int}
  (rule:∀(i j:Int) (t u:Tok) (s:aq) (Q:af→aq→Prop) (E:af→aq→Prop),Q (.int (g i j) s.toks) { s with toks:=s.toks+1 }→bc (bE X.prog X.w) X.A (f (.int i t) (.int j u)) Q E s) :
  OpR X f (rI0 λi j=> .int (g i j)):=by
 intro aR s σ H x y v u Q I rx ry h;obtain⟨i,j,rfl,rfl,q⟩:=h;obtain⟨t,rfl⟩:=rx;obtain⟨t',rfl⟩:=ry;exact rule i j t t' s _ _ ⟨.int (g i j),H,I.tok _,⟨_,rfl⟩,q⟩
theorem opB0 {f:af→af→Sem af}{g:Int→Int→Bool}
  (rule:∀(i j:Int) (t u:Tok) (s:aq) (Q:af→aq→Prop) (E:af→aq→Prop),Q (.bool (g i j)) s→bc (bE X.prog X.w) X.A (f (.int i t) (.int j u)) Q E s) :
  OpR X f (rI0 λi j=> .bl (g i j)):=by
 intro aR s σ H x y v u Q I rx ry h;obtain⟨i,j,rfl,rfl,q⟩:=h;obtain⟨t,rfl⟩:=rx;obtain⟨t',rfl⟩:=ry;exact rule i j t t' s _ _ ⟨.bl (g i j),H,I,rfl,q⟩
def CDiv (i j:Int):Prop:=0<j∧j<1073741824
def CPow (i j:Int):Prop:=0≤j∧j≤1000000∧i.natAbs<2 ^ 64
def CMul (i j:Int):Prop:=(-(2 ^ 64)<i∧i<2 ^ 64)∨(-(2 ^ 64)<j∧j<2 ^ 64)
theorem CMul.ok {i j:Int}(h:CMul i j):IntMulOk i j:=by
 rcases h with ⟨h1,h2⟩ | ⟨h1,h2⟩
 ·exact .of_left (intBits_le_64 h1 h2)
 ·exact .of_right (intBits_le_64 h1 h2)
theorem gh:OpR X (gY .Add) (rI0 λi j=> .int (i+j)):=opI0 λ_ _ _ _ _ _ _ q=>add_int q
theorem kB:OpR X (gY .Sub) (rI0 λi j=> .int (i - j)):=opI0 λ_ _ _ _ _ _ _ q=>sub_int q
theorem jk:OpR X (gY .Mult) (rI CMul λi j=> .int (i * j)):=opI λ_ _ _ _ _ _ _ hc q=>mul_int q hc.ok
theorem op_fdiv:OpR X (gY .FloorDiv) (rI CDiv λi j=> .int (i / j)):=opI λi j _ _ _ _ _ hc q=>by
 have h1:(0:Int)<j:=hc.1;have h2:j<1073741824:=hc.2;exact floordiv_int ⋯ (by rw[Int.fdiv_eq_ediv_of_nonneg i ⋯];exact q) (.inl (PyProof.noPylong_small ⋯))
theorem lI:OpR X (gY .Mod) (rI (λ_ j=>0<j) λi j=> .int (i % j)):=opI λi j _ _ _ _ _ hc q=>by
 have h1:(0:Int)<j:=hc;exact mod_int' ⋯ (by rw[Int.fmod_eq_emod_of_nonneg i ⋯];exact q)
theorem op_pow:OpR X (gY .Pow) (rI CPow λi j=> .int (i ^ j.toNat)):=opI λ_ _ _ _ _ _ _ hc q=>pow_int_small hc.1 hc.2.1 hc.2.2 q
theorem unI {f:af→Sem af}{g:Int→Int}
  (rule:∀(i:Int) (t:Tok) (s:aq) (Q:af→aq→Prop) (E:af→aq→Prop),Q (.int (g i) s.toks) { s with toks:=s.toks+1 }→bc (bE X.prog X.w) X.A (f (.int i t)) Q E s) :
  UnR X f (rU λi=> .int (g i)):=by
 intro aR s σ H x v Q I rx h;obtain⟨i,rfl,q⟩:=h;obtain⟨t,rfl⟩:=rx;exact rule i t s _ _ ⟨.int (g i),H,I.tok _,⟨_,rfl⟩,q⟩
theorem un_neg:UnR X (unaryOp .USub) (rU λi=> .int (-i)):=unI λ_ _ _ _ _ q=>neg_int q
end
def scal:V→V→Bool
 | .non,.non=>true | .non,.int _=>true | .int _,.non=>true | .non,.bl _=>true | .bl _,.non=>true | .non,.str _=>true | .str _,.non=>true
 | .int _,.int _=>true | .bl _,.bl _=>true | .str _,.str _=>true | .byt _,.byt _=>true
 | .int _,.str _=>true | .str _,.int _=>true | .bl _,.str _=>true | .str _,.bl _=>true
 | _,_=>false
def rEq:R2:=λx y H Q=>scal x y=true∧Q (.bl (decide (x=y))) H
def rNe:R2:=λx y H Q=>scal x y=true∧Q (.bl (!decide (x=y))) H
theorem dec_int {i j:Int}:decide (V.int i=V.int j)=(i == j):=by
 rw[ku];simp
theorem dec_bl {i j:Bool}:decide (V.bl i=V.bl j)=(i == j):=by
 rw[ku];simp
theorem dec_str {i j:Str}:decide (V.str i=V.str j)=(i == j):=by
 rw[ku];simp
theorem dec_byt {i j:Array UInt8}:decide (V.byt i=V.byt j)=(i.toList == j.toList):=by
 rw[ku];cases i;cases j;simp
section
variable {a b c:Expr}{tb tc:TE}
theorem fS {Q:VK}{k k':Bool}(I:Inv X aR σ H s)(q:Q (.bl k) H)(e:k=k'):EP X aR σ Q (.bool k') s:=by
 subst e;exact⟨.bl k,H,I,rfl,q⟩
theorem om:OpR X (fT .Eq) rEq:=by
 intro aR s σ H x y v u Q I rx ry h;obtain⟨hs,q⟩:=h;cases x with
 | non =>
  cases rx;cases y with
  | non=>cases ry;exact PySem.EqNone.eq_none_none (fS I q ∅)
  | bl j=>cases ry;exact PySem.EqNone.eq_none_bool (fS I q ∅)
  | int j=>obtain⟨t',rfl⟩:=ry;exact PySem.EqNone.eq_none_int (fS I q ∅)
  | str j=>obtain⟨t',rfl⟩:=ry;exact PySem.EqNone.eq_none_str (fS I q ∅)
  | _=>exact rW (show false=true from hs) aS
 | bl i =>
  cases rx;cases y with
  | non=>cases ry;exact PySem.EqNone.eq_bool_none (fS I q ∅)
  | bl j=>cases ry;exact eq_bool (fS I q dec_bl)
  | str j=>obtain⟨t',rfl⟩:=ry;exact PySem.EqMixed.eq_bool_str (fS I q ∅)
  | _=>exact rW (show false=true from hs) aS
 | int i =>
  obtain⟨t,rfl⟩:=rx;cases y with
  | non=>cases ry;exact PySem.EqNone.eq_int_none (fS I q ∅)
  | int j=>obtain⟨t',rfl⟩:=ry;exact eq_int (fS I q dec_int)
  | str j=>obtain⟨t',rfl⟩:=ry;exact PySem.EqMixed.eq_int_str (fS I q ∅)
  | _=>exact rW (show false=true from hs) aS
 | str i =>
  obtain⟨t,rfl⟩:=rx;cases y with
  | non=>cases ry;exact PySem.EqNone.eq_str_none (fS I q ∅)
  | bl j=>cases ry;exact PySem.EqMixed.eq_str_bool (fS I q ∅)
  | int j=>obtain⟨t',rfl⟩:=ry;exact PySem.EqMixed.eq_str_int (fS I q ∅)
  | str j=>obtain⟨t',rfl⟩:=ry;exact eq_str (fS I q dec_str)
  | _=>exact rW (show false=true from hs) aS
 | byt i =>
  obtain⟨t,rfl⟩:=rx;cases y with
  | byt j=>obtain⟨t',rfl⟩:=ry;exact PySem.W.eq_bytes (fS I q dec_byt)
  | _=>exact rW (show false=true from hs) aS
 | _=>cases y <;> exact rW (show false=true from hs) aS
theorem op_ne:OpR X (fT .NotEq) rNe:=by
 intro aR s σ H x y v u Q I rx ry h;obtain⟨hs,q⟩:=h;cases x with
 | non =>
  cases rx;cases y with
  | non=>cases ry;exact PySem.EqNone.ne_none_none (fS I q ∅)
  | bl j=>cases ry;exact PySem.EqNone.ne_none_bool (fS I q ∅)
  | int j=>obtain⟨t',rfl⟩:=ry;exact PySem.EqNone.ne_none_int (fS I q ∅)
  | str j=>obtain⟨t',rfl⟩:=ry;exact PySem.EqNone.ne_none_str (fS I q ∅)
  | _=>exact rW (show false=true from hs) aS
 | bl i =>
  cases rx;cases y with
  | non=>cases ry;exact PySem.EqNone.ne_bool_none (fS I q ∅)
  | bl j=>cases ry;exact ne_bool (fS I q (sd not dec_bl))
  | str j=>obtain⟨t',rfl⟩:=ry;exact PySem.EqMixed.ne_bool_str (fS I q ∅)
  | _=>exact rW (show false=true from hs) aS
 | int i =>
  obtain⟨t,rfl⟩:=rx;cases y with
  | non=>cases ry;exact PySem.EqNone.ne_int_none (fS I q ∅)
  | int j=>obtain⟨t',rfl⟩:=ry;exact ne_int (fS I q (sd not dec_int))
  | str j=>obtain⟨t',rfl⟩:=ry;exact PySem.EqMixed.ne_int_str (fS I q ∅)
  | _=>exact rW (show false=true from hs) aS
 | str i =>
  obtain⟨t,rfl⟩:=rx;cases y with
  | non=>cases ry;exact PySem.EqNone.ne_str_none (fS I q ∅)
  | bl j=>cases ry;exact PySem.EqMixed.ne_str_bool (fS I q ∅)
  | int j=>obtain⟨t',rfl⟩:=ry;exact PySem.EqMixed.ne_str_int (fS I q ∅)
  | str j=>obtain⟨t',rfl⟩:=ry;exact ne_str (fS I q (sd not dec_str))
  | _=>exact rW (show false=true from hs) aS
 | byt i =>
  obtain⟨t,rfl⟩:=rx;cases y with
  | byt j=>obtain⟨t',rfl⟩:=ry;exact PySem.W.ne_bytes (fS I q (sd not dec_byt))
  | _=>exact rW (show false=true from hs) aS
 | _=>cases y <;> exact rW (show false=true from hs) aS
theorem op_lt:OpR X (fT .Lt) (rI0 λi j=> .bl (decide (i<j))):=opB0 λ_ _ _ _ _ _ _ q=>lt_int q
theorem op_le:OpR X (fT .LtE) (rI0 λi j=> .bl (decide (i≤j))):=opB0 λ_ _ _ _ _ _ _ q=>le_int q
theorem oQ:OpR X (fT .Gt) (rI0 λi j=> .bl (decide (j<i))):=opB0 λ_ _ _ _ _ _ _ q=>gt_int q
theorem op_ge:OpR X (fT .GtE) (rI0 λi j=> .bl (decide (j≤i))):=opB0 λ_ _ _ _ _ _ _ q=>ge_int q
theorem qr:OpR X (fT .Is) (λx y H Q=>y= .non∧Q (.bl (decide (x= .non))) H):=by
 intro aR s σ H x y v u Q I rx ry h;obtain⟨rfl,q⟩:=h;cases ry;apply is_none_gen (fS I q ?_);cases x <;> first
  | (cases rx;rfl)
  | (obtain⟨t,rfl⟩:=rx;rfl)
theorem op_notN:OpR X (fT .IsNot) (λx y H Q=>y= .non∧Q (.bl (!decide (x= .non))) H):=by
 intro aR s σ H x y v u Q I rx ry h;obtain⟨rfl,q⟩:=h;cases ry;apply isnot_none_gen (fS I q ?_);cases x <;> first
  | (cases rx;rfl)
  | (obtain⟨t,rfl⟩:=rx;rfl)
theorem dI (b:Expr)(h:op≠ .In:=by decide)(h2:op≠ .NotIn:=by decide):behindInMarks op b=false:=by
 have e1:(op == CmpOp.In)=false:=by cases op <;> first | rfl | exact rW rfl h
 have e2:(op == CmpOp.NotIn)=false:=by cases op <;> first | rfl | exact rW rfl h2
 cases b <;> simp[behindInMarks,e1,e2]
theorem mH {r:R2}(ho:OpR X (fT op) r)(ha:PE X a ta)(hb:PE X b tb)(hm:behindInMarks op b=false):PE X (.Compare a [op] [b] pos) (tOp r ta tb):=by
 intro aR s σ H Q I h;exact wpAny_Compare1 (binT ha hb I h λv u s2 x y H2 I2 rx ry q=>ho aR s2 σ H2 x y v u Q I2 rx ry q) hm
def tTest (t:TE):TT:=λσ H Q=>t σ H λx H'=>IsBl x λk=>Q k H'
theorem cT {r:R2}(ho:OpR X (fT op) r)(ha:PE X a ta)(hb:PE X b tb)(hm:behindInMarks op b=false):PT X (.Compare a [op] [b] pos) (tTest (tOp r ta tb)):=by
 intro aR s σ H Q I h;apply wpAny_isTrue_Compare1 (thn (ha aR s σ H _ I h) fun v s1 ⟨x,H1,I1,r1,q1⟩=>thn (hb aR s1 σ H1 _ I1 q1) fun u s2 ⟨y,H2,I2,r2,q2⟩ =>
  thn (ho aR s2 σ H2 x y v u _ I2 r1 r2 q2) fun c s3 ⟨z,H3,I3,r3,k,e,q3⟩=>?_) hm
 subst e;cases r3;exact fu ⟨H3,I3,q3⟩
def tChain (r r':R2)(ta tb tc:TE):TE:=λσ H Q=>ta σ H λx H1=>tb σ H1 λy H2=>r x y H2 λz H3=>∃k,z= .bl k ∧
 (if k=true then tc σ H3 λw' H4=>r' y w' H4 Q else Q (.bl false) H3)
theorem pt_chain {op':CmpOp}{r r':R2}(ho:OpR X (fT op) r)(ho':OpR X (fT op') r')(ha:PE X a ta)(hb:PE X b tb)(hc:PE X c tc)
  (hm:lastMarks [op,op'] [b,c]=false:=by with_unfolding_all rfl):PT X (.Compare a [op,op'] [b,c] pos) (tTest (tChain r r' ta tb tc)):=by
 intro aR s σ H Q I h;apply isTrue_chain (thn (ha aR s σ H _ I h) fun v s1 ⟨x,H1,I1,r1,q1⟩=>test_link (thn (hb aR s1 σ H1 _ I1 q1) fun u s2 ⟨y,H2,I2,r2,q2⟩ =>
  thn (ho aR s2 σ H2 x y v u _ I2 r1 r2 q2) fun d s3 ⟨z,H3,I3,r3,k,e,q3⟩=>?_)) hm
 subst e;cases r3;apply fu ?_;cases k with
 | false =>
  obtain⟨k',e',q'⟩:=q3;cases e';exact ite_ff ⟨H3,I3,q'⟩
 | true =>
  apply ite_tt (test_last (thn (hc aR s3 σ H3 _ I3 q3) λw' s4 ⟨z',H4,I4,r4,q4⟩=>thn (ho' aR s4 σ H4 y z' u w' _ I4 r2 r4 q4) λd' s5 ⟨z2,H5,I5,r5,k2,e2,q5⟩=>?_));subst e2;cases r5;exact fu ⟨H5,I5,q5⟩
theorem line63:(bo:Nat)<2 ^ 63:=by rw[fM];decide
theorem qR {x:V}(r:gw [x] us):∃u,us=[u]∧gQ x u:=by
 cases r with
 | cons r1 r2=>cases r2;exact⟨_,rfl,r1⟩
theorem vals2 {x:V}(r:gw [x,y] us):∃u w',us=[u,w']∧gQ x u∧gQ y w':=by
 cases r with
 | cons r1 r2 =>
  cases r2 with
  | cons r3 r4=>cases r4;exact⟨_,_,rfl,r1,r3⟩
theorem call_min2 (hc:X.calm=true):ke X (.builtin "min") (λxs H Q=>∃i j,xs=[.int i,.int j]∧Q (.int (if j<i then j else i)) H):=by
 intro aR s σ H xs us Q I r h;obtain⟨i,j,rfl,q⟩:=h;obtain⟨u,w',rfl,⟨t,rfl⟩,⟨t',rfl⟩⟩:=vals2 r;apply min_two_ints (I.ok.hd hc) λh' tk k=>⟨_,H,I.kept k,?_,q⟩
 by_cases hj:j<i
 ·rw[rV hj,rV hj];exact⟨_,rfl⟩
 ·rw[rT hj,rT hj];exact⟨_,rfl⟩
end
structure ObjM (h:bO)(x dx C:ak)(mA:Str→Option af):Prop where
 obj:h.get? x=some (gz C dx)
 ns:h.Ns1 dx mA
 ne:dx≠x
theorem lookIn_ns (n:h.Ns1 dx mA):∃od,h.get? dx=some od∧∀name,PySem.W.lookIn name od=some (mA name):=by
 obtain⟨o,es,ep,ho,hd,hk,_,hm⟩:=n;apply⟨o,ho,λname=>?_⟩;have e:=hm name;unfold nsFind findBy at e;rw[←Array.find?_toList] at e;unfold PySem.W.lookIn;rw[hd]
 dsimp only
 split
 ·rename_i y q
  rw[q] at e;exact sd some e
 ·rename_i q
  rw[q] at e;have a:es.toList.any (·.refKey)=false:=by
   rw[iL];intro y hy;obtain⟨z,t,hkey⟩:=hk y (Array.mem_toList_iff.mp hy);simp[DictEntry.refKey,hkey]
  have a':¬es.toList.any (·.refKey)=true:=by rw[a];exact aS
  rw[rT a'];exact sd some e
theorem ObjM.look {x:ak}(I:ObjM h x dx C mA):∃od,PySem.W.InstAt h x (gz C dx) C (some od)∧∀name,PySem.W.lookIn name od=some (mA name) :=
 let ⟨od,ho,hl⟩:=lookIn_ns I.ns
 ⟨od,⟨I.obj,rfl,rfl,ho⟩,hl⟩
section
variable {x:ak}{v:af}
theorem get_map {expr:Bool}(X:K.In s.heap)(I:ObjM s.heap x dx C mA)(hg:jT K C name=true)(hh:PySem.W.hasDictIn K C=true)
  (ha:cP K (.ref C) name=some none) (hv:mA name=some v) (hv':PySem.W.handedIn v=true) (h:Q v { s with toks:=s.toks+1 }) :
  bc (bE prog w) A (getAttr (.ref x) name expr) Q E s:=by
 obtain⟨od,J,hl⟩:=I.look;exact PySem.W.get_value X J (PySem.W.plainGet_of hg).1 (PySem.W.findObj_own hh ha rfl (by rw[hl,hv])) hv' h
theorem get_meth {pl:Sem Bool}{Q:af×List af→aq→Prop}(X:K.In s.heap)(I:ObjM s.heap x dx C mA)(hg:jT K C name=true)
  (hf:cP K (.ref C) name=some (some (.ref f))) (ht:PySem.W.isFn K (.ref f)=true) (hv:mA name=none) (h:Q (.ref f,[.ref x]) s) :
  bc (bE prog w) A (getMethod (.ref x) name pl) Q E s:=by
 obtain⟨od,J,hl⟩:=I.look;exact PySem.W.method_fn X J (PySem.W.plainGet_of hg).1 (PySem.W.plainGet_of hg).2 hf (beq_iff_eq.mp ht) (by show(PySem.W.lookIn name od).map (·.isSome)=some false;rw[hl,hv];rfl) h
theorem set_map {ns:List Str}{Q:Unit→aq→Prop}(X:K.In s.heap)(I:ObjM s.heap x dx C mA)
  (hs:cP K (.ref C) "__setattr__" =some (some (.builtin "object.__setattr__"))) (hp:PySem.W.plainOver K C=true) (ht:PySem.W.takerIn K C name=some none) (hh:PySem.W.hasDictIn K C=true)
  (hw:PySem.Within mA ns) (hsz:ns.length≤bo)
  (h:∀h',ObjM h' x dx C (λy=>if y=name then some v else mA y)→d9 dx s.heap h'→Q () { s with heap:=h',toks:=s.toks+2 }) :
  bc (bE prog w) A (setAttr (.ref x) name v) Q E s:=by
 obtain⟨od,J,hl⟩:=I.look;apply PySem.W.set_plain X J hs (PySem.W.osa_open (s:={ s with toks:=s.toks+1 }) (r:=none) X J hp ht λb=>?_);obtain⟨cd,hc,hd'⟩:=PySem.W.any_some hh;have hx:s.heap.get? x=some ⟨.ref C,some dx,.plain,#[]⟩:=I.obj;apply ah (aP (ah (ah (wpAny_loadPart hx (ah (PySem.W.Looks.here (s:={ s with toks:=s.toks+1 }) (PySem.W.looks_clsIn X hc) ?_))))));rw[hd'];apply aP (a:=some dx) (ah (aP (ah ?_)));apply wpAny_nsSet1 (s:={ s with toks:=s.toks+1 }) I.ns λh' hn2 hs2=>?_
 obtain⟨oD,esD,epD,hoD,hdD,hcD⟩:=hn2.count (PySem.Within.cons name v hw);apply ah (wpAny_lookBehind hoD (by rw[hdD];exact pastItsLine_dict (bj hcD (by rw[bf];lia))) ?_);exact aP (h _ ⟨(hs2.2 _ (cx I.ne)).trans I.obj,hn2,I.ne⟩ hs2)
theorem make_map (X:K.In s.heap)(hm:PySem.W.makesIn K C=true)
  (hi:cP K (.ref C) "__init__" =some (some (.ref f))) (hf:PySem.W.typeIn K (.ref f)=some (.type "function"))
  (h:jI (bE prog w) (A.under (.builtin "type.__call__" ⟨.ref C::vs,kw⟩)) (.call (.ref f) ⟨.ref (s.heap.objs.size+1)::vs,kw⟩) (PySem.W.InitBack (s.heap.objs.size+1) R)
   {s with heap:=(s.heap.push eZ).push (gz C s.heap.objs.size) }) :
  jI (bE prog w) A (.call (.ref C) ⟨vs,kw⟩) R s:=by
 obtain⟨hh,g,d,t,os⟩:=s;exact PySem.W.make_core (PySem.W.makes_of X hm) (PySem.W.looks_findIn X hi) (λself=>PySem.W.bind_fn X self hf) (.inl rfl) h
end
def mV (f:Str)(v:V):List (Str×V)→List (Str×V)
 | []=>[(f,v)]
 | (g,x)::r=>if g=f then (g,v)::r else (g,x)::mV f v r
theorem qy (f g:Str)(v:V):∀fs:List (Str×V),(mV f v fs).lookup g=if g=f then some v else fs.lookup g
 | []=>by
  show eR g [(f,v)]=_
  by_cases h:g=f
  ·have hb:(g == f)=true:=beq_iff_eq.mpr h
   simp only[eR,hb,rV h]
  ·have hb:(g == f)=false:=beq_eq_false_iff_ne.mpr h
   simp only[eR,hb,rT h]
 | (k,x)::r=>by
  have ih:=qy f g v r;rw[show mV f v ((k,x)::r)=(if k=f then (k,v)::r else (k,x)::mV f v r) from rfl]
  by_cases hk:k=f
  ·rw[rV hk]
   by_cases h:g=k
   ·have hb:(g == k)=true:=beq_iff_eq.mpr h
    simp only[eR,hb,rV (h.trans hk)]
   ·have hb:(g == k)=false:=beq_eq_false_iff_ne.mpr h
    simp only[eR,hb,rT (λe:g=f=>h (e.trans hk.symm))]
  ·rw[rT hk]
   by_cases h:g=k
   ·have hb:(g == k)=true:=beq_iff_eq.mpr h
    simp only[eR,hb,rT (λe:g=f=>hk (h.symm.trans e))]
   ·have hb:(g == k)=false:=beq_eq_false_iff_ne.mpr h
    simp only[eR,hb];exact ih
theorem qG (f:Str)(v:V):∀fs:List (Str×V),f∈(mV f v fs).map (·.1)∧∀g,g∈fs.map (·.1)→g∈(mV f v fs).map (·.1)
 | []=>⟨by simp[mV],λg h=>by simp at h⟩
 | (k,x)::r=>by
  obtain⟨i1,i2⟩:=qG f v r;rw[show mV f v ((k,x)::r)=(if k=f then (k,v)::r else (k,x)::mV f v r) from rfl]
  by_cases hk:k=f
  ·rw[rV hk]
   subst hk;exact⟨∅,λg h=>by simpa using h⟩
  ·rw[rT hk]
   apply⟨?_,λg h=>?_⟩
   ·rw[bX]
    exact aw _ i1
   ·rw[bX] at h ⊢
    rcases aE.mp h with e | e
    ·exact aE.mpr (.inl e)
    ·exact aw _ (i2 g e)
theorem qA (f:Str)(v:V):∀fs:List (Str×V),(mV f v fs).length≤fs.length+1
 | []=>by simp[mV]
 | (k,x)::r=>by
  have ih:=qA f v r;rw[show mV f v ((k,x)::r)=(if k=f then (k,v)::r else (k,x)::mV f v r) from rfl]
  by_cases hk:k=f
  ·rw[rV hk,bf,bf];lia
  ·rw[rT hk,bf,bf];lia
theorem RelO.some_of {o:Option af}(r:RelO (some v) o):∃u,o=some u∧gQ v u:=by
 cases o with
 | none=>exact(show False from r).elim
 | some u=>exact⟨u,rfl,r⟩
theorem RelO.none_of {o:Option af}(r:RelO none o):o=none:=by
 cases o with
 | none=>rfl
 | some u=>exact(show False from r).elim
theorem handed_of (r:gQ v u):PySem.W.handedIn u=true:=by
 cases v with
 | non=>cases(show u=af.none from r);rfl
 | bl b=>cases(show u=af.bool b from r);rfl
 | int i=>obtain⟨t,e⟩:=(show ∃t,u=af.int i t from r);cases e;rfl
 | str x=>obtain⟨t,e⟩:=(show ∃t,u=af.str x t from r);cases e;rfl
 | byt b=>obtain⟨t,e⟩:=(show ∃t,u=af.bytes b t from r);cases e;rfl
 | flt b=>obtain⟨t,e⟩:=(show ∃t,u=af.float b t from r);cases e;rfl
 | ref a=>cases(show u=af.ref a from r);rfl
 | ty n=>cases(show u=af.type n from r);rfl
section
variable {fs fs':List (Str×V)}
theorem ins_get (hok:HOk P w H h)(e:H a=some (.ins C dx fs)):∃mA,ObjM h a dx C mA∧(∀f,RelO (fs.lookup f) (mA f))∧PySem.Within mA (fs.map (·.1))∧fs.length≤1000∧H dx=some (.own a):=by
 obtain⟨d,z,ne,ob,mA,n,r,q⟩:=(show jw P w H h a (.ins C dx fs) from hok a _ e);exact⟨mA,⟨ob,n,ne⟩,r,q,z,d⟩
end
structure Cls (K:ai)(C:ak):Prop where
 pg:jT K C Str.empty=true
 hd:PySem.W.hasDictIn K C=true
 po:PySem.W.plainOver K C=true
 sa:cP K (.ref C) "__setattr__" =some (some (.builtin "object.__setattr__"))
theorem Cls.get (c:Cls K C)(f:Str):jT K C f=true:=c.pg
def nQ (K:ai)(C:ak)(f:Str):Prop:=cP K (.ref C) f=some none
theorem nQ.taker {f:Str}(n:nQ K C f):PySem.W.takerIn K C f=some none:=by
 unfold PySem.W.takerIn;rw[show cP K (.ref C) f=some none from n];rfl
structure Meth (K:ai)(C:ak)(m:Str)(f:ak):Prop where
 at_:cP K (.ref C) m=some (some (.ref f))
 fn:PySem.W.isFn K (.ref f)=true
 kp:eY K (.ref f)=true
section
variable {fs:List (Str×V)}{f:Str}
theorem getattr_ok {b:Bool}(I:Inv X aR σ H s)(e:H a=some (.ins C dx fs))(c:Cls X.K C)(n:nQ X.K C f)(l:fs.lookup f=some v)
  (h:∀u s',Inv X aR σ H s'→gQ v u→Q u s'):bc (bE X.prog X.w) A (getAttr (.ref a) f b) Q E s:=by
 obtain⟨mA,O,r,_,_,_⟩:=ins_get I.hok e;obtain⟨u,hu,ru⟩:=RelO.some_of (v:=v) (o:=mA f) (by rw[←l];exact r f);exact get_map I.kIn O (c.get f) c.hd n hu (handed_of ru) (h u _ (I.tok _) ru)
theorem getmeth_ok {m:Str}{g:ak}{pl:Sem Bool}{Q:af×List af→aq→Prop}(I:Inv X aR σ H s)(e:H a=some (.ins C dx fs))(c:Cls X.K C)(k:Meth X.K C m g)(l:fs.lookup m=none)
  (h:Q (.ref g,[.ref a]) s):bc (bE X.prog X.w) A (getMethod (.ref a) m pl) Q E s:=by
 obtain⟨mA,O,r,_,_,_⟩:=ins_get I.hok e;have hn:mA m=none:=RelO.none_of (by rw[←l];exact r m);exact get_meth I.kIn O (c.get m) k.at_ k.fn hn h
theorem setattr_ok {Q:Unit→aq→Prop}(I:Inv X aR σ H s)(e:H a=some (.ins C dx fs))(c:Cls X.K C)(n:nQ X.K C f)(hl:fs.length<1000)(ry:gQ y u)
  (h:∀s',Inv X aR σ (upd H a (.ins C dx (mV f y fs))) s'→Q () s'):bc (bE X.prog X.w) A (setAttr (.ref a) f u) Q E s:=by
 obtain⟨mA,O,r,wi,_,ho⟩:=ins_get I.hok e;have hz:(fs.map (·.1)).length≤bo:=by rw[aa,fM];lia
 apply set_map I.kIn O c.sa c.po n.taker c.hd wi hz λh' O' sb=>h _ ?_
 have hd:∃o,h'.get? dx=some o:=let ⟨o,_,_,e',_⟩:=O'.ns;⟨o,e'⟩;apply I.write (x:=a) (e:=dx) (by rw[e];exact True.intro) (.inr ho) (λb q hb z=>(sb.2 b hb).trans z) hd ?_;apply⟨by rw[bz O.ne];exact ho,?_,O.ne,O'.obj,_,O'.ns,λg=>?_,λg hg=>?_⟩
 ·have:=qA f y fs;lia
 ·show RelO ((mV f y fs).lookup g) (if g=f then some u else mA g)
  rw[qy]
  by_cases q:g=f
  ·rw[rV q,rV q];exact ry
  ·rw[rT q,rT q];exact r g
 ·by_cases q:g=f
  ·rw[q];exact(qG f y fs).1
  ·apply(qG f y fs).2 g (wi g λz=>hg ?_)
   show(if g=f then some u else mA g)=none;rw[rT q];exact z
theorem Inv.made (I:Inv X aR σ H s):Inv X aR σ (upd (upd H s.heap.objs.size (.own (s.heap.objs.size+1))) (s.heap.objs.size+1) (.ins C s.heap.objs.size []))
  {s with heap:=(s.heap.push eZ).push (gz C s.heap.objs.size) }:=by
 have e1:(s.heap.push eZ).get? s.heap.objs.size=some eZ:=aW s.heap rfl;have e2:((s.heap.push eZ).push (gz C s.heap.objs.size)).get? (s.heap.objs.size+1)=some (gz C s.heap.objs.size):=by
  have:=aW (s.heap.push eZ) (o:=gz C s.heap.objs.size) rfl
  rwa [gq] at this
 have e3:(s.heap.push eZ).Ns s.heap.objs.size (λ_=>none):=⟨eZ,#[],_,e1,rfl,(λe he=>rW he ∅),λ_=>rfl⟩;have I1:=I.laid (a:=s.heap.objs.size) (o:= .own (s.heap.objs.size+1)) (h':=s.heap.push eZ) (t':=s.toks) (λb u q=>au _ q) (aC _) ⟨_,e1⟩;apply I1.laid (a:=s.heap.objs.size+1) (o:= .ins C s.heap.objs.size []) (t':=s.toks) (λb u q=>au _ q) (Nat.le_of_eq (gq _ _)) ?_;have ne:s.heap.objs.size≠s.heap.objs.size+1:=bL (ka _);apply⟨by rw[bz ne,aN],bK _,ne,e2,λ_=>none,(bO.Ns1.of_empty e3).at λo q=>au _ q,λ_=>True.intro,λy hy=>rW rfl hy⟩
theorem attr_of {f:Str}(hb:attributeBase e f env (eG e env)=eG e env)
  (h:bc (bE prog w) A (eG e env) (λo s₁=>bc (bE prog w) A (getAttr o f true) Q E s₁) E s):bc (bE prog w) A (eG (.Attribute e f pos) env) Q E s :=
 Attribute_any_ h (by rw[arm_eval_Attribute,hb])
end
def tFld (K:ai)(ta:TE)(f:Str):TE:=λσ H Q=>ta σ H λx H1=>∃a C dx fs v,x= .ref a∧H1 a=some (.ins C dx fs)∧Cls K C∧nQ K C f∧fs.lookup f=some v∧Q v H1
def sFld (K:ai)(ta tv:TE)(f:Str):TS:=λD σ H=>tv σ H λy H1=>ta σ H1 λx H2=>∃a C dx fs,x= .ref a∧H2 a=some (.ins C dx fs)∧Cls K C∧nQ K C f∧fs.length<1000 ∧
 D.nx σ (upd H2 a (.ins C dx (mV f y fs)))
section
variable {o:Expr}{f:Str}{tv:TE}
theorem pe_fld (he:PE X e ta)(hb:attributeBase e f X.env (eG e X.env)=eG e X.env):PE X (.Attribute e f pos) (tFld X.K ta f):=by
 intro aR s σ H Q I h;apply attr_of hb (thn (he aR s σ H _ I h) λu s1 ⟨x,H1,I1,rx,a,C,dx,fs,v,ex,ea,c,n,l,q⟩=>?_);subst ex;obtain rfl:u=af.ref a:=rx;exact getattr_ok I1 ea c n l λu' s2 I2 ru=>⟨v,H1,I2,ru,q⟩
theorem ps_fld (ha:PE X o ta)(hv:PE X value tv)(hs:swapsWith value (some (.Attribute o f pos')) pos.line X.env=gf false):PS X (.Assign [.Attribute o f pos'] value pos) (sFld X.K ta tv f):=by
 intro aR s σ H D I h;apply plainObj_wpAny_Assign_Attribute (thn (hv aR s σ H _ I h) λu s1 ⟨y,H1,I1,ry,q⟩=>thn (ha aR s1 σ H1 _ I1 q) λov s2 ⟨x,H2,I2,rx,a,C,dx,fs,ex,ea,c,n,l,q2⟩=>?_) hs;subst ex;obtain rfl:ov=af.ref a:=rx;exact setattr_ok I2 ea c n l ry λs3 I3=>⟨σ,_,I3,q2⟩
end
section
variable {c:af}{b:Bool}
inductive TyOf (K:ai)(H:Hp):V→af→Prop where
 | non:TyOf K H .non (.type "NoneType")
 | bl (x:Bool):TyOf K H (.bl x) (.type "bool")
 | int (i:Int):TyOf K H (.int i) (.type "int")
 | str (x:Str):TyOf K H (.str x) (.type "str")
 | flt (x:UInt64):TyOf K H (.flt x) (.type "float")
 | lst {a:ak} {xs:List V} (e:H a=some (.lst xs)):TyOf K H (.ref a) (.type "list")
 | frz {a:ak} {o:Obj} {xs:List V} (e:H a=some (.frz o (.lst xs))):TyOf K H (.ref a) (.type "list")
 | tup {a:ak} {xs:List V} (e:H a=some (.tup xs)):TyOf K H (.ref a) (.type "tuple")
 | dK {a:ak} {kvs:List (Key×V)} (e:H a=some (.dK kvs)):TyOf K H (.ref a) (.type "dict")
 | dT {a:ak} {kvs:List (List Key×V)} (e:H a=some (.dT kvs)):TyOf K H (.ref a) (.type "dict")
 | ins {a C dx:ak} {fs:List (Str×V)} (e:H a=some (.ins C dx fs)) (cl:Cls K C) (ha:cP K (.ref C) "__class__" =some (some (.builtin "object.__class__")))
   (hn:PySem.W.specialIn K (.builtin "object.__class__") "__get__" =some (some (.builtin "getset_descriptor.__get__"))) (htk:PySem.W.takesIn K (.builtin "object.__class__")=some true)
   (hm:PySem.W.mroIn K C (.type "object")=some true):TyOf K H (.ref a) (.ref C)
theorem isinst_ok {x:V}{t:af}(I:Inv X aR σ H s)(rx:gQ x u)(ty:TyOf X.K H x t)(e:PySem.W.kitOne X.K t c=some b)(h:∀tk,Q (.bool b) { s with toks:=tk }) :
  bc (bE X.prog X.w) A (call (.builtin "isinstance") [u,c]) Q E s:=by
 cases ty with
 | non=>cases(show u=af.none from rx);exact eN PySem.W.kitx_none I.kIn True.intro e (λz=>nomatch z) h
 | bl y=>cases(show u=af.bool y from rx);exact eN PySem.W.kitx_bool I.kIn True.intro e (λz=>nomatch z) h
 | int i=>obtain⟨t,q⟩:=(show ∃t,u=af.int i t from rx);cases q;exact eN PySem.W.kitx_int I.kIn True.intro e (λz=>nomatch z) h
 | str y=>obtain⟨t,q⟩:=(show ∃t,u=af.str y t from rx);cases q;exact eN PySem.W.kitx_str I.kIn True.intro e (λz=>nomatch z) h
 | flt y=>obtain⟨t,q⟩:=(show ∃t,u=af.float y t from rx);cases q;exact eN PySem.W.kitx_float I.kIn True.intro e (λz=>nomatch z) h
 | @lst a xs ea =>
  cases(show u=af.ref a from rx);obtain⟨_,_,n,_,h1⟩:=(show jw X.prog X.w H s.heap a (.lst xs) from I.hok a _ ea);exact eN PySem.W.kitx_list I.kIn ⟨_,h1,rfl⟩ e (λz=>nomatch z) h
 | @frz a ob xs ea =>
  cases(show u=af.ref a from rx);obtain⟨_,_,_,n,_,h1⟩:=(show jw X.prog X.w H s.heap a (.frz ob (.lst xs)) from I.hok a _ ea);exact eN PySem.W.kitx_list I.kIn ⟨_,h1,rfl⟩ e (λz=>nomatch z) h
 | @tup a xs ea =>
  cases(show u=af.ref a from rx);obtain⟨_,_,_,p⟩:=(show jw X.prog X.w H s.heap a (.tup xs) from I.hok a _ ea);obtain⟨o,h1,h2,_⟩:=p;exact eN PySem.W.kitx_tuple I.kIn ⟨o,h1,h2⟩ e (λz=>nomatch z) h
 | @dK a kvs ea =>
  cases(show u=af.ref a from rx);obtain⟨_,_,vs,_,p⟩:=(show jw X.prog X.w H s.heap a (.dK kvs) from I.hok a _ ea);obtain⟨o,es,ep,h1,h2,_⟩:=p;exact eN PySem.W.kitx_dict I.kIn ⟨o,h1,h2.1⟩ e (λz=>nomatch z) h
 | @dT a kvs ea =>
  cases(show u=af.ref a from rx);obtain⟨_,_,xs,_,o,es,ep,h1,h2,_⟩:=(show jw X.prog X.w H s.heap a (.dT kvs) from I.hok a _ ea);exact eN PySem.W.kitx_dict I.kIn ⟨o,h1,h2.1⟩ e (λz=>nomatch z) h
 | @ins a C dx fs ea cl ha hn htk hm =>
  cases(show u=af.ref a from rx);obtain⟨mA,O,_⟩:=ins_get I.hok ea;obtain⟨od,J,_⟩:=O.look;exact eN (PySem.W.kitx_own (cl.get _) cl.hd ha hn htk hm) I.kIn J e (λz=>nomatch z) h
end
structure iD (k:Nat)(A:bY):Prop where
 hd:A.handled=none
 dp:A.depth+3 * k+5<j5
 un:A.units+16 * k+200<cLine
theorem iD.mono {k:Nat}(r:iD k A)(h:j≤k):iD j A:=⟨r.hd,by have:=r.dp;lia,by have:=r.un;lia⟩
theorem iD.deeper {k:Nat}(r:iD (k+1) A)(env:Env):iD k (A.deeper env) :=
 ⟨r.hd,by have:=r.dp;show A.depth+1+3 * k+5<_;lia,by have:=r.un;show A.units+3+16 * k+200<_;lia⟩
theorem iD.in1 {k:Nat}(r:iD (k+1) A):iD k A.in1 :=
 ⟨r.hd,by have:=r.dp;show A.depth+3 * k+5<_;lia,by have:=r.un;show A.units+1+16 * k+200<_;lia⟩
theorem make_depth:(A.under (.builtin "type.__call__" ⟨.ref C::us,kw⟩)).depth=A.depth+1:=by
 first | rfl | simp[bY.under,Code.weight,Code.isCreation,Code.isGuard,Code.isCaller,Code.frames,Code.isFrame,guardIds]
theorem make_units:(A.under (.builtin "type.__call__" ⟨.ref C::us,kw⟩)).units=A.units+1:=by
 first | rfl | simp[bY.under,Code.cUnits,Code.frames,Code.isFrame]
theorem iD.make {k:Nat}(r:iD (k+1) A)(C:ak)(us:List af)(kw:List (Str×af)):iD k (A.under (.builtin "type.__call__" ⟨.ref C::us,kw⟩)) :=
 ⟨r.hd,by have:=r.dp;rw[make_depth];lia,by have:=r.un;rw[make_units];lia⟩
theorem iD.depth {k:Nat}(r:iD k A):A.depth<j5:=by have:=r.dp;lia
theorem iD.units {k:Nat}(r:iD k A):A.units+64<cLine:=by have:=r.un;lia
def tNil:TA:=λ_ H Q=>Q [] H
def pP (ta:TE)(tr:TA):TA:=λσ H Q=>ta σ H λx H1=>tr σ H1 λxs H2=>Q (x::xs) H2
theorem aA:PA X [] tNil:=λ_ _ _ _ H Q I h=>Calls.spliced_nil ⟨[],H,I,.nil,h⟩
theorem ae (ha:PE X e te)(hr:PA X es t)(hs:bD (e::es) X.env=(false,eG e X.env)::bD es X.env:=by rfl):PA X (e::es) (pP te t):=by
 intro pos aR s σ H Q I h;rw[hs];show bc _ _ (spliced ((false,eG e X.env)::gg pos (bD es X.env))) _ _ s;apply Calls.spliced_cons (thn (ha aR s σ H _ I h) λu s1 ⟨x,H1,I1,r1,q1⟩=>?_);exact thn (hr pos aR s1 σ H1 _ I1 q1) λus s2 ⟨xs,H2,I2,r2,q2⟩=>⟨x::xs,H2,I2,.cons r1 r2,q2⟩
def tTup (t:TA):TE:=λσ H Q=>t σ H λxs H1=>xs.length≤bo∧∀p,H1 p=none→Q (.ref p) (upd H1 p (.tup xs))
def tLst (t:TA):TE:=λσ H Q=>t σ H λxs H1=>xs.length≤bo∧∀p,H1 p=none→Q (.ref p) (upd H1 p (.lst xs))
theorem pe_tup {x1}(h:PA X es t):PE X (.Tuple es x1 pos) (tTup t):=by
 intro aR s σ H Q I hq;apply wpAny_Tuple_spliced (thn (h pos aR s σ H _ I hq) λus s1 ⟨xs,H1,I1,r,z,q⟩=>⟨by rw[←r.length];exact z,?_⟩);have hf:H1 s1.heap.objs.size=none:=I1.hok.fresh (aC _);apply⟨.ref s1.heap.objs.size,upd H1 s1.heap.objs.size (.tup xs),I1.laid (t':=s1.toks) (λb u e=>au _ e) (aC _) ?_,rfl,q _ hf⟩;exact⟨z,us,r,⟨_,aW _ rfl,rfl,rfl,_,rfl⟩⟩
theorem i5 (h:PA X es t):PE X (.List es pos) (tLst t):=by
 intro aR s σ H Q I hq;apply wpAny_List_spliced (thn (h pos aR s σ H _ I hq) λus s1 ⟨xs,H1,I1,r,z,q⟩=>⟨by rw[←r.length];exact z,?_⟩);have hf:H1 s1.heap.objs.size=none:=I1.hok.fresh (aC _);apply⟨.ref s1.heap.objs.size,upd H1 s1.heap.objs.size (.lst xs),I1.laid (t':=s1.toks) (λb u e=>au _ e) (aC _) ?_,rfl,q _ hf⟩;exact⟨z,us,0,r,aW _ rfl⟩
abbrev Sp:=List V→Hp→VK→XK→Prop
abbrev CXT:=List Env→Hp→aq→XK→af→aq→Prop
structure Env0 (P:aV)(w:bG)(K:ai)(mg:Str→Option af)(base:bO)(A:bY)(outer:List Env)(s:aq)(H:Hp):Prop where
 frames:A.frames=some outer
 mod:Mod K mg base
 bs:∀b o,base.get? b=some o→s.heap.get? b=some o∧H b=none
 bsz:base.objs.size≤s.heap.objs.size
 funs:s.heap.FunFrames base outer
 frf:∀b∈frs outer,H b=none
 hok:HOk P w H s.heap
 bare:AllBare s.gens
def CE (outer:List Env)(P:aV)(w:bG)(H:Hp)(s:aq)(Q:VK)(u:af)(s':aq):Prop :=
 ∃v H',s'.os=s.os∧AllBare s'.gens∧Un (frs outer) [] H H' s.heap s'.heap∧HOk P w H' s'.heap∧gQ v u∧Q v H'
def CR (CX:CXT)(outer:List Env)(P:aV)(w:bG)(H:Hp)(s:aq)(Q:VK)(E:XK)(r:Result)(s':aq):Prop :=
 match r with
 | .ok (.ret u)=>CE outer P w H s Q u s'
 | .ok _=>False
 | .error e=>CX outer H s E e s'
structure cG (P:aV)(w:bG)(K:ai)(mg:Str→Option af)(base:bO)(CX:CXT)(k:Nat)(f:ak)(fd:bh)(ps:List Str)(sp:Sp):Prop where
 len:∀vs H Q E,sp vs H Q E→vs.length=ps.length
 run:∀(A:bY) (outer:List Env) (s:aq) (H:Hp) (args:Args) (us:List af) (vs:List V) (Q:VK) (E:XK),iD k A→Env0 P w K mg base A outer s H→BindsTo s fd args (ps.zip us)→gw vs us→sp vs H Q E →
  jI (bE P w) A (.call (.ref f) args) (CR CX outer P w H s Q E) s
theorem Env0.make (e:Env0 P w K mg base A outer s H)(C:ak)(us:List af)(kw:List (Str×af)) :
  Env0 P w K mg base (A.under (.builtin "type.__call__" ⟨.ref C::us,kw⟩)) outer s H:=⟨by first | exact e.frames | (simpa [bY.under,Code.envs,Code.isFrame,pushEnvs] using e.frames),e.mod,e.bs,e.bsz,e.funs,e.frf,e.hok,e.bare⟩
theorem Inv.env0 (I:Inv X aR σ H s):Env0 X.prog X.w X.K X.mg X.base X.A X.stack s H :=
 ⟨I.ok.frames,I.ok.mod,I.bs,bj I.ok.bsz I.sz,I.stack,I.stkFree,I.hok,I.bare⟩
theorem Inv.after {Q:VK}(I:Inv X aR σ H s)(h:CE X.stack X.prog X.w H s Q u s'):EP X aR σ Q u s':=by
 obtain⟨v,H',os,bare,un,hok,r,q⟩:=h;obtain⟨hh,g,d,t,os'⟩:=s';obtain rfl:os'=s.os:=os;exact⟨v,H',I.call (h':=hh) (g':=g) (d':=d) (t':=t) (ch:=[]) un hok bare (λb z=>rW z ∅),r,q⟩
def tCall (sp:Sp)(dvs:List V)(E:XK)(t:TA):TE:=λσ H Q=>t σ H λvs H1=>sp (vs++dvs) H1 Q E
def tMeth (C:ak)(m:Str)(sp:Sp)(dvs:List V)(E:XK)(ta:TE)(t:TA):TE:=λσ H Q=>ta σ H λx H1=>∃a dx fs,x= .ref a∧H1 a=some (.ins C dx fs)∧fs.lookup m=none ∧
 t σ H1 λvs H2=>sp (x::(vs++dvs)) H2 Q E
def tMake (C:ak)(sp:Sp)(dvs:List V)(E:XK)(t:TA):TE:=λσ H Q=>t σ H λvs H1=>∀x dx,H1 x=none→H1 dx=none→dx≠x →
 sp (.ref x::(vs++dvs)) (upd (upd H1 dx (.own x)) x (.ins C dx [])) (λv H2=>v= .non∧Q (.ref x) H2) E
def oA (K:ai)(fd:bh)(ps:List Str)(ds:List af):Prop :=
 ∀(s:aq) (us:List af),K.In s.heap→(us++ds).length=ps.length→BindsTo s fd ⟨us,[]⟩ (ps.zip (us++ds))
theorem oA.all (h:∀us:List af,us.length=ps.length→bindArgs fd ⟨us,[]⟩=gf (ps.zip us)):oA K fd ps []:=λs us _ hl=>by
 rw[dH] at hl ⊢;exact .of_eq (h us hl)
def rN (CX:CXT)(X:Cx)(E:XK):Prop:=∀(aR:List (ak×Obj)) (σ:St) (H:Hp) (s:aq) (e:af) (s':aq),Inv X aR σ H s→CX X.stack H s E e s'→X.xe e s'
section
variable {CX:CXT}{k:Nat}{sp:Sp}{dvs:List V}{ds:List af}{E:XK}{m:Str}{p:Pos}{o:Expr}
theorem run_fn {Q:VK}{vs:List V}(F:cG X.prog X.w X.K X.mg X.base CX k f fd ps sp)(hr:iD k X.A)(hb:oA X.K fd ps ds)(hd:gw dvs ds)(hx:rN CX X E)
  (I:Inv X aR σ H s) (r:gw vs us) (h:sp (vs++dvs) H Q E):bc (bE X.prog X.w) X.A (call (.ref f) us) (EP X aR σ Q) X.xe s:=by
 have r2:gw (vs++dvs) (us++ds):=r.append hd;have hl:(us++ds).length=ps.length:=by rw[←r2.length];exact F.len _ _ _ _ h
 apply wpAny_call (codeAny_mono (F.run X.A X.stack s H ⟨us,[]⟩ (us++ds) (vs++dvs) Q E hr I.env0 (hb s us I.kIn hl) r2 h) λr s' hq=>?_);cases r with
 | error e=>exact hx aR σ H s e s' I hq
 | ok fl =>
  cases fl with
  | ret u=>exact I.after hq
  | next=>exact cX hq
  | brk=>exact cX hq
  | cont=>exact cX hq
theorem pe_call (F:cG X.prog X.w X.K X.mg X.base CX k f fd ps sp)(hr:iD k X.A)(hg:Gl X x)(hm:X.mg x=some (.ref f))(hk:eY X.K (.ref f)=true)(hb:oA X.K fd ps ds)(hd:gw dvs ds)(hx:rN CX X E)
  (ha:PA X (e::es) t) (hdb:(x == ("__debug__" :Str))=false:=by decide) (he:bD (e::es) X.env=(false,eG e X.env)::bD es X.env:=by rfl) (hpl:(gg pos (bD es X.env)).any (·.1)=false:=by rfl) :
  PE X (.Call (.Name x p) (e::es) [] pos) (tCall sp dvs E t):=by
 intro aR s σ H Q I h;apply eV (ld_glob I hg hm ?_ hdb);apply kz (h₀:=X.base) I.ok.mod.kin hk (thn (ha pos aR s σ H _ I h) λus s1 ⟨vs,H1,I1,r,q⟩=>⟨I1.kIn,?_⟩) he hpl;exact run_fn F hr hb hd hx I1 r q
theorem pe_meth {pl:Sem Bool}(he:PE X o ta)(c:Cls X.K C)(hm:Meth X.K C m f)(F:cG X.prog X.w X.K X.mg X.base CX k f fd ps sp)(hr:iD k X.A)(hb:oA X.K fd ps ds)(hd:gw dvs ds)(hx:rN CX X E)(ha:PA X (e::es) t)
  (hst:bD (e::es) X.env=(false,eG e X.env)::bD es X.env:=by rfl) (hpl:(gg pos (bD es X.env)).any (·.1)=false:=by rfl)
  (ht:eG (.Call (.Attribute o m apos) (e::es) [] pos) X.env=(do
   let ov ← eG o X.env
   standAt apos.atName
   let (f,first) ← holding [ov] (getMethod ov m pl)
   callWith pos f first (gg pos (bD (e::es) X.env)) (backToKw pos (keywordEach [] X.env))):=by rfl) :
  PE X (.Call (.Attribute o m apos) (e::es) [] pos) (tMeth C m sp dvs E ta t):=by
 intro aR s σ H Q I h;apply PySem.W.methodCall_KW (pl:=pl) (thn (he aR s σ H _ I h) λu s1 ⟨x,H1,I1,rx,a,dx,fs,ex,ea,l,q⟩=>?_) ht;subst ex;obtain rfl:u=af.ref a:=rx;apply getmeth_ok I1 ea c hm l ?_;apply kz (first:=[.ref a]) (h₀:=X.base) I.ok.mod.kin hm.kp (thn (ha pos aR s1 σ H1 _ I1 q) λus s2 ⟨vs,H2,I2,r,q2⟩=>⟨I2.kIn,?_⟩) hst hpl;exact run_fn (us:= .ref a::us) (vs:= .ref a::vs) F hr hb hd hx I2 (.cons rfl r) q2
structure Mk (K:ai)(C f:ak):Prop where
 makes:PySem.W.makesIn K C=true
 init:cP K (.ref C) "__init__" =some (some (.ref f))
 fn:PySem.W.isFn K (.ref f)=true
 kp:eY K (.ref C)=true
theorem run_make {Q:VK}{vs:List V}(M:Mk X.K C f)(F:cG X.prog X.w X.K X.mg X.base CX k f fd ps sp)(hr:iD (k+1) X.A)(hb:oA X.K fd ps ds)(hd:gw dvs ds)
  (hx:rN CX X E) (I:Inv X aR σ H s) (r:gw vs us)
  (h:∀x dx,H x=none→H dx=none→dx≠x→sp (.ref x::(vs++dvs)) (upd (upd H dx (.own x)) x (.ins C dx [])) (λv H2=>v= .non∧Q (.ref x) H2) E) :
  bc (bE X.prog X.w) X.A (call (.ref C) us) (EP X aR σ Q) X.xe s:=by
 have hq:=h (s.heap.objs.size+1) s.heap.objs.size (I.hok.fresh (kt _)) (I.hok.fresh (aC _)) (bL (ka _));have I2:=Inv.made (C:=C) I;have r2:gw (V.ref (s.heap.objs.size+1)::(vs++dvs)) (af.ref (s.heap.objs.size+1)::(us++ds)):= .cons rfl (r.append hd);have hl:(af.ref (s.heap.objs.size+1)::us++ds).length=ps.length:=by
  have e:=r2.length;rw[F.len _ _ _ _ hq] at e;exact e.symm
 apply wpAny_call (make_map (f:=f) I.kIn M.makes M.init (beq_iff_eq.mp M.fn) (codeAny_mono (F.run _ X.stack _ _ ⟨af.ref (s.heap.objs.size+1)::us,[]⟩ (af.ref (s.heap.objs.size+1)::(us++ds)) _ _ E (hr.make C us [])
  (I2.env0.make C us []) (hb _ (af.ref (s.heap.objs.size+1)::us) I2.kIn hl) r2 hq) fun r s' hq'=>?_))
 cases r with
 | error e=>exact hx aR σ _ _ e s' I2 hq'
 | ok fl =>
  cases fl with
  | ret u =>
   obtain⟨v,H',I3,rv,ev,q3⟩:=I2.after hq';subst ev;exact⟨rv,⟨V.ref (s.heap.objs.size+1),H',I3,rfl,q3⟩⟩
  | next=>exact cX hq'
  | brk=>exact cX hq'
  | cont=>exact cX hq'
theorem pe_make (M:Mk X.K C f)(F:cG X.prog X.w X.K X.mg X.base CX k f fd ps sp)(hr:iD (k+1) X.A)(hg:Gl X x)(hm:X.mg x=some (.ref C))(hb:oA X.K fd ps ds)(hd:gw dvs ds)(hx:rN CX X E)
  (ha:PA X (e::es) t) (hdb:(x == ("__debug__" :Str))=false:=by decide) (he:bD (e::es) X.env=(false,eG e X.env)::bD es X.env:=by rfl) (hpl:(gg pos (bD es X.env)).any (·.1)=false:=by rfl) :
  PE X (.Call (.Name x p) (e::es) [] pos) (tMake C sp dvs E t):=by
 intro aR s σ H Q I h;apply eV (ld_glob I hg hm ?_ hdb);apply kz (h₀:=X.base) I.ok.mod.kin M.kp (thn (ha pos aR s σ H _ I h) λus s1 ⟨vs,H1,I1,r,q⟩=>⟨I1.kIn,?_⟩) he hpl;exact run_make M F hr hb hd hx I1 r q
end
structure bW (N P:List Str)(sc:fN):Prop where
 kind:sc.kind= .function
 co:sc.isCoroutine=false
 gen:sc.isGenerator=false
 nd:N.Nodup
 pre:N.take P.length=P
 par:∀x∈P,sc.names.lookup x=some .local∨sc.names.lookup x=some .cell
 nofree:∀y∈sc.names,y.2≠ .free
theorem bindL_out {kindOf:Str→Option cO}{x:Str}:∀{binds:List (Str×af)} {m:Str→Option af},(∀v,(x,v) ∉ binds)→bindL kindOf binds m x=m x
 | [],_,_=>rfl
 | (n,v)::r,m,h=>by
  unfold bindL;rw[bindL_out λw hw=>h w (aw _ hw)];split
  ·have:x≠n:=by rintro rfl;exact h v bt
   simp[this]
  ·rfl
theorem bindC_out {kindOf:Str→Option cO}{x:Str}:∀{binds:List (Str×af)} {m:Str→Option af},(∀v,(x,v) ∉ binds)→bindC kindOf binds m x=m x
 | [],_,_=>rfl
 | (n,v)::r,m,h=>by
  unfold bindC;rw[bindC_out λw hw=>h w (aw _ hw)];split
  ·rfl
  ·have:x≠n:=by rintro rfl;exact h v bt
   simp[this]
theorem bindL_get {kindOf:Str→Option cO}{x:Str}{v:af}:∀{P:List Str} {vs:List af} {i:Nat} {m:Str→Option af},P.Nodup→P[i]? =some x→vs[i]? =some v→kindOf x=some .local →
  bindL kindOf (P.zip vs) m x=some v
 | [],_,_,_,_,h,_,_=>by simp at h
 | _::_,[],_,_,_,_,h,_=>by simp at h
 | p::P,w::vs,0,m,nd,h1,h2,hk=>by
  simp at h1 h2;subst h1;subst h2;show bindL kindOf ((p,w)::P.zip vs) m p=_;unfold bindL;rw[bindL_out λv hv=>(bP.mp nd).1 (List.of_mem_zip hv).1,rV hk];simp
 | p::P,w::vs,i+1,m,nd,h1,h2,hk=>by
  show bindL kindOf ((p,w)::P.zip vs) m x=_;unfold bindL;exact bindL_get (i:=i) (bP.mp nd).2 (by simpa using h1) (by simpa using h2) hk
theorem bindC_get {kindOf:Str→Option cO}{x:Str}{v:af}:∀{P:List Str} {vs:List af} {i:Nat} {m:Str→Option af},P.Nodup→P[i]? =some x→vs[i]? =some v→kindOf x≠some .local →
  bindC kindOf (P.zip vs) m x=some v
 | [],_,_,_,_,h,_,_=>by simp at h
 | _::_,[],_,_,_,_,h,_=>by simp at h
 | p::P,w::vs,0,m,nd,h1,h2,hk=>by
  simp at h1 h2;subst h1;subst h2;show bindC kindOf ((p,w)::P.zip vs) m p=_;unfold bindC;rw[bindC_out λv hv=>(bP.mp nd).1 (List.of_mem_zip hv).1,rT hk];simp
 | p::P,w::vs,i+1,m,nd,h1,h2,hk=>by
  show bindC kindOf ((p,w)::P.zip vs) m x=_;unfold bindC;exact bindC_get (i:=i) (bP.mp nd).2 (by simpa using h1) (by simpa using h2) hk
def start (N:List Str)(vs:List V):St:=vs.map some++bQ (N.length - vs.length) none
def cxOf (CX:CXT)(P:aV)(w:bG)(K:ai)(mg:Str→Option af)(base:bO)(N:List Str)(qual:Str)(scope:fN)(f:ak)(cd:af)(A:bY)(outer:List Env)(s:aq)(H:Hp)(E:XK):Cx where
 prog:=P
 w:=w
 K:=K
 mg:=mg
 base:=base
 A:=A.deeper (envOfC qual scope s.heap.objs.size f cd)
 N:=N
 s₀:=s
 H₀:=H
 env:=envOfC qual scope s.heap.objs.size f cd
 outer:=outer
 stack:=envOfC qual scope s.heap.objs.size f cd::outer
 ex:=[]
 calm:=true
 fn:=λ_=>true
 pn:=[]
 xe:=λe s'=>bc (bE P w) (A.deeper (envOfC qual scope s.heap.objs.size f cd)) (leaving (envOfC qual scope s.heap.objs.size f cd) e) (λ_ s''=>CX outer H s E e s'') (λe' s''=>CX outer H s E e' s'') s'
theorem cell_has {sc:fN}(h:sc.names.lookup x=some .cell):∃c,(cellsFrom n sc.names []).lookup x=some c:=by
 have q:=PySem.W.cellsFrom_some sc.names n [] (.inl h);exact Option.isSome_iff_exists.mp q
theorem inv_start {CX:CXT}{cd:af}{s1:aq}{E:XK}{vs:List V}
  (S:bW N ps scope) (hd:A.handled=none) (e0:Env0 P w K mg base A outer s H) (hl:vs.length=ps.length) (r:gw vs us)
  (x:InCallC s s.heap.objs.size (bindL (envOfC qual scope s.heap.objs.size f cd).kindOf (ps.zip us) λ_=>none) (cellsFrom (s.heap.objs.size+1) scope.names []) (bindC (envOfC qual scope s.heap.objs.size f cd).kindOf (ps.zip us) λ_=>none) s1) :
  Inv (cxOf CX P w K mg base N qual scope f cd A outer s H E) [] (start N vs) H s1:=by
 have hpl:ps.length≤N.length:=by have:=sd List.length S.pre;rw[bw] at this;lia
 obtain⟨h1,tk,rfl,hk⟩:=x.done;have noA:∀b:ak,b ∉ (cxOf CX P w K mg base N qual scope f cd A outer s H E).ex:=λb z=>rW (show b∈([]:List ak) from z) ∅
 apply ⟨⟨e0.mod,S.kind,rfl,rfl,aC _,fun y z c h1 h2=>?_,fun y hy=>?_,fun y c _ h=>?_,fun _=>hd,bY.frames_deeper e0.frames,.inr ⟨rfl,rfl⟩,fun b z=>rW z (noA b),e0.bs,e0.bsz,fun b _ _=>noA b,fun b z=>rW z (noA b),e0.funs,e0.frf⟩,
  rfl,e0.bare,Un.kept hk,⟨_,x.toInCall.ns,fun i y v h1 h2 h3=>?_⟩,fun y c h=>⟨_,x.cell y c h⟩,e0.hok.fresh (aC _),fun y c h=>?_,fun p hp=>rW (show p∈([]:List (ak×Obj)) from hp) ∅,e0.hok.kept hk,?_⟩
 ·exact name_of_addr x.apart (cB h1) (cB h2)
 ·have hy:scope.names.lookup y=some .cell∨scope.names.lookup y=some .free:=hy
  rcases hy with hy | hy
  ·exact cell_has hy
  ·exact rW rfl (S.nofree _ (cB hy))
 ·exact jf (x.above y c (cB h))
 ·have hi:i<vs.length:=by
   unfold start at h2
   by_cases hi:i<vs.length
   ·exact hi
   ·rw[bT (by simpa using hi)] at h2
    rw[List.getElem?_replicate] at h2;split at h2 <;> cases h2
  have ha:vs[i]? =some v:=by
   unfold start at h2;rw[eC (by simpa using hi),ar] at h2;cases e:vs[i]? with
   | none=>rw[e] at h2;cases h2
   | some a=>rw[e] at h2;cases h2;rfl
  obtain⟨u,hu,rv⟩:=r.get ha;have hp:ps[i]? =some y:=by
   rw[←S.pre,List.getElem?_take_of_lt ⋯];exact h1
  have ndP:ps.Nodup:=by rw[←S.pre];exact S.nd.sublist (List.take_sublist _ _)
  apply⟨u,rv,?_⟩
  rcases S.par y (bp hp) with k | k
  ·exact .inl ⟨k,bindL_get ndP hp hu k⟩
  ·obtain⟨c,e⟩:=cell_has (n:=s.heap.objs.size+1) k
   apply .inr ⟨.inl k,c,e,?_⟩;have q:=x.cell y c e;rw[bindC_get ndP hp hu (by show scope.names.lookup y≠_;rw[k];decide)] at q;exact q
 ·exact e0.hok.fresh (jf (x.above y c (cB h)))
 ·unfold start
  show _=N.length;rw[av,aa,gv];lia
theorem fn_of {CX:CXT}{k:Nat}{body:List cJ}{dV kV doc pm cdv ct oc:af}{an od:Option ak}
  {sp:Sp} (lk:K.lookup f=some ⟨oc,od,.func (dZ name qual params body scope dV kV doc pm an cdv ct),osl⟩) (hcd:iK K cdv qual=true) (S:bW N ps scope)
  (len:∀vs H Q E,sp vs H Q E→vs.length=ps.length)
  (hbody:∀ (A:bY) (outer:List Env) (s:aq) (H:Hp) (vs:List V) (Q:VK) (E:XK),iD k (A.deeper (envOfC qual scope s.heap.objs.size f cdv))→sp vs H Q E →
   ∃ t,PSs (cxOf CX P w K mg base N qual scope f cdv A outer s H E) body t∧t { nx:=fun _ H'=>Q .non H',rt:=Q } (start N vs) H) :
  cG P w K mg base CX (k+1) f (dZ name qual params body scope dV kV doc pm an cdv ct) ps sp:=by
 apply⟨len,λA outer s H args us vs Q E hr e0 hb r hsp=>?_⟩;have hl:=len _ _ _ _ hsp;have KX:K.In s.heap:=e0.mod.kin.keeps λb o e=>(e0.bs b o e).1
 have lim:s.heap.NoLimit:=e0.mod.nolimit.keeps λb o e=>(e0.bs b o e).1
 have mM:∀y∈ps.zip us,scope.names.lookup y.1=some .local∨(scope.names.lookup y.1=some .cell∧((cellsFrom (s.heap.objs.size+1) scope.names []).lookup y.1).isSome=true):=λ⟨n,v⟩ hy=>by
  rcases S.par n (List.of_mem_zip hy).1 with q | q
  ·exact .inl q
  ·exact .inr ⟨q,PySem.W.cellsFrom_some _ _ _ (.inl q)⟩
 apply codeAny_call_function hr.depth (KX _ _ lk) rfl S.co S.gen rfl (PySem.W.codeRec_of KX hcd) (hb _ _ _ _ ?_);apply wpAny_newFunctionEnv_cells S.kind mM λenv he s1 x=>?_
 subst he;apply⟨lim.keeps x.toInCall.keep,codeAny_func ?_⟩;obtain⟨t,ht,hq⟩:=hbody A outer s H vs Q E (hr.deeper _) hsp;have I:Inv (cxOf CX P w K mg base N qual scope f cdv A outer s H E) [] (start N vs) H s1:=inv_start S hr.hd e0 hl r x;apply cy (ht [] s1 (start N vs) H _ I hq) (λfl s' hs=>?_) λe s' hs=>hs
 have fin:∀{σ':St} {H':Hp} {v:V} {u:af},Inv (cxOf CX P w K mg base N qual scope f cdv A outer s H E) [] σ' H' s'→gQ v u→Q v H'→CE outer P w H s Q u s' :=
  λ{σ' H' v u} J rv q=>⟨v,H',J.os,J.bare,J.base,J.hok,rv,q⟩
 cases fl with
 | ret u =>
  obtain⟨v,σ',H',J,rv,q⟩:=hs;exact fin J rv q
 | next =>
  obtain⟨σ',H',J,q⟩:=hs;exact fin (v:=V.non) (u:=af.none) J rfl q
 | brk =>
  obtain⟨_,_,_,q⟩:=hs;exact cX q
 | cont =>
  obtain⟨_,_,_,q⟩:=hs;exact cX q
section
variable {p:Pos}{id:String}{r:List V→Hp→VK→Prop}
def tCB (r:List V→Hp→VK→Prop)(t:TA):TE:=λσ H Q=>t σ H λvs H1=>r vs H1 Q
theorem d5 (hc:ke X (.builtin id) r)(hg:Gl X x)(hm:X.mg x=none)(hv:bootBuiltins x=some (.builtin id))(ha:PA X (e::es) t)(hn:x ≠ "__name__" := by decide)(hdb:(x == ("__debug__" :Str))=false:=by decide)
  (he:bD (e::es) X.env=(false,eG e X.env)::bD es X.env:=by rfl) (hpl:(gg pos (bD es X.env)).any (·.1)=false:=by rfl):PE X (.Call (.Name x p) (e::es) [] pos) (tCB r t):=by
 intro aR s σ H Q I h;apply eV (lT I hg hm hv ?_ hn hdb);exact PyProof.Rows.callWith_builtin1 (thn (ha pos aR s σ H _ I h) λus s1 ⟨vs,H1,I1,r1,q1⟩=>hc aR s1 σ H1 vs us Q I1 r1 q1) he hpl
theorem dk (hc:ke X (.type T) r)(hg:Gl X x)(hm:X.mg x=none)(hv:bootBuiltins x=some (.type T))(ha:PA X (e::es) t)(hn:x ≠ "__name__" := by decide)(hdb:(x == ("__debug__" :Str))=false:=by decide)
  (he:bD (e::es) X.env=(false,eG e X.env)::bD es X.env:=by rfl) (hpl:(gg pos (bD es X.env)).any (·.1)=false:=by rfl):PE X (.Call (.Name x p) (e::es) [] pos) (tCB r t):=by
 intro aR s σ H Q I h;apply eV (lT I hg hm hv ?_ hn hdb);exact eO (thn (ha pos aR s σ H _ I h) λus s1 ⟨vs,H1,I1,r1,q1⟩=>hc aR s1 σ H1 vs us Q I1 r1 q1) he hpl
end
end L2
variable {CW:L2.St→L2.VK→L2.It→L2.Hp→Prop}{CX:L2.CXT}{g:L2.TG}{wi:L2.TI}
namespace HT
open PySem PyProof.Rows
theorem cat_tup {t b:ak}{ws:List af}(ht:IsTup s.heap t vs.toArray)(hb:IsTup s.heap b ws.toArray)(hv:vs≠[])
  (h1:ws=[]→Q (.ref t) s) (h2:ws≠[]→Q (.ref s.heap.objs.size) { s with heap:=s.heap.push { cls:= .type "tuple",data:= .seq (vs++ws).toArray } })
  (hsz:vs.length+ws.length≤bo):bc (bE prog w) A (gY .Add (.ref t) (.ref b)) Q E s:=by
 obtain⟨⟨cls,dd,data,sl⟩,ho,hc,n,hd⟩:=id ht;obtain⟨⟨cls2,dd2,data2,sl2⟩,ho2,hc2,n2,hd2⟩:=id hb;simp only at hc hd hc2 hd2;subst hc hd hc2 hd2;have e:vs.toArray++ws.toArray=(vs++ws).toArray:=by simp
 by_cases hw:ws=[]
 ·exact concat_meets ⟨_,ho,rfl⟩ ⟨_,ho2,rfl⟩ noFill_tuple_add seq_tuple_add PySem.F.slot_tuple_add lH (kW _ _)
   (tuple_addW1 t b vs.toArray ws.toArray n n2 dd dd2 sl sl2 (by simpa using hv) (by simp[hw])) ⟨ho,ho2,h1 hw⟩
 ·apply concat_meets ⟨_,ho,rfl⟩ ⟨_,ho2,rfl⟩ noFill_tuple_add seq_tuple_add PySem.F.slot_tuple_add lH (kW _ _)
   (tuple_addW2 t b vs.toArray ws.toArray n n2 dd dd2 sl sl2 (by simpa using hv) (by simpa using hw) (by rw[aG,aG];exact hsz)) ⟨ho,ho2,?_⟩
  rw[e];exact h2 hw
def sIx (n d:Nat):Option Int→Nat
 | none=>d
 | some v=>if v<0 then (v+(n:Int)).toNat else min v.toNat n
theorem sIx_nat (n d k:Nat):sIx n d (some (k:Int))=min k n:=by
 show(if (k:Int)<0 then ((k:Int)+(n:Int)).toNat else min (k:Int).toNat n)=min k n;rw[rT ⋯,cM]
theorem sIx_le (n d:Nat)(hd:d≤n)(o:Option Int):sIx n d o≤n:=by
 cases o with
 | none=>exact hd
 | some v =>
  show(if v<0 then (v+(n:Int)).toNat else min v.toNat n)≤n
  by_cases hv:v<0
  ·rw[rV hv];lia
  ·rw[rT hv];exact Nat.min_le_right _ _
theorem clip_eq (v:Int)(n d:Nat):(if v<0 then max (v+(n:Int)) 0 else min v (n:Int))=((sIx n d (some v):Nat):Int):=by
 show(if v<0 then max (v+(n:Int)) 0 else min v (n:Int))=(((if v<0 then (v+(n:Int)).toNat else min v.toNat n):Nat):Int)
 by_cases hv:v<0
 ·simp only[rV hv];lia
 ·simp only[rT hv];lia
theorem adjust_gen (lo hi:Option Int)(n:Nat):kf lo hi 1 (n:Int)=(((sIx n 0 lo:Nat):Int),((sIx n n hi:Nat):Int)):=by
 have h1:¬((1:Int)<0):=by lia
 unfold kf;simp only[h1,if_false];apply Prod.ext ?_ ?_
 ·cases lo with
  | none=>rfl
  | some v=>exact clip_eq v n 0
 ·cases hi with
  | none=>rfl
  | some v=>exact clip_eq v n n
theorem places_gen (i j:Nat):ix (i:Int) (j:Int) 1=j - i:=by
 unfold ix;have h1:(1:Int) > 0:=by lia
 simp only[h1,if_true,Int.ediv_one];split <;> lia
theorem ra {v:af}{o:Option Int}{Q:Option Int→aq→Prop}(p:IsPart v o)(h:Q o s):bc (bE prog w) A (fg.Slice.slicePartIndex v) Q E s:=by
 cases p with
 | none=>exact slicePart_none h
 | int i t=>exact slicePart_int h
theorem sliceApplied_gen {sl:ak}{vl vu:af}{lo:Option Int}{Q:Int×Int×Nat→aq→Prop}(hs:s.heap.IsSliceOf sl vl vu .none)(pl:IsPart vl lo)(pu:IsPart vu hi)
  (h:Q (((sIx n 0 lo:Nat):Int),1,sIx n n hi - sIx n 0 lo) s):bc (bE prog w) A (fg.Slice.sliceApplied (.ref sl) (gf (n:Int))) Q E s:=by
 obtain⟨os,hos,hcs,hds⟩:=id hs;unfold fg.Slice.sliceApplied fg.Slice.sliceFields;apply ah (ah (e8 hos hds (x:=vl) rfl (ah (e8 hos hds (x:=vu) rfl (ah (e8 hos hds (x:= .none) rfl (aP ?_)))))));apply ah (slicePart_none ?_);show bc _ _ (if ((1:Int) == 0)=true then _ else _) _ _ s;rw[rT ↥0];apply ah (ra pl (ah (ra pu (ah (aP ?_)))));show bc _ _ (match kf lo hi 1 (n:Int) with | (lo,hi)=>gf (lo,(1:Int),ix lo hi 1)) _ _ s;rw[adjust_gen lo hi n];show bc _ _ (gf (((sIx n 0 lo:Nat):Int),(1:Int),ix ((sIx n 0 lo:Nat):Int) ((sIx n n hi:Nat):Int) 1)) _ _ s;rw[places_gen];exact aP h
theorem pick_gen (xs:Array af)(i k:Nat):((aJ k).filterMap λ(m:Nat)=>xs[((i:Int)+(m:Int) * 1).toNat]?).toArray=((xs.toList.drop i).take k).toArray:=by
 have e:(λ(m:Nat)=>xs[((i:Int)+(m:Int) * 1).toNat]?)=λm=>xs[i+m]? := by
  funext m
  have:((i:Int)+(m:Int) * 1).toNat=i+m:=by lia
  rw[this]
 rw[e];have:=pick_run xs i k;rw[List.filterMap_map] at this;have e2:((λx=>xs[x]?) ∘ λx=>i+x)=λm=>xs[i+m]? := rfl
 rw[e2] at this;rw[this]
theorem getItem_tuple_cut {t sl:ak}{vl vu:af}{lo:Option Int}(ht:IsTup s.heap t items)(hs:s.heap.IsSliceOf sl vl vu .none)(pl:IsPart vl lo)(pu:IsPart vu hi)
  (hw:¬(sIx items.size 0 lo=0∧sIx items.size items.size hi=items.size))
  (h:Q (.ref s.heap.objs.size) { s with heap:=s.heap.push { cls:= .type "tuple",data:= .seq ((items.toList.drop (sIx items.size 0 lo)).take (sIx items.size items.size hi - sIx items.size 0 lo)).toArray } })
  (hsz:items.size≤bo):bc (bE prog w) A (getItem (.ref t) (.ref sl)) Q E s:=by
 have htake:sizeOk (.seq ((items.toList.drop (sIx items.size 0 lo)).take (sIx items.size items.size hi - sIx items.size 0 lo)).toArray):=by
  show((items.toList.drop (sIx items.size 0 lo)).take (sIx items.size items.size hi - sIx items.size 0 lo)).toArray.size≤bo;rw[aG,bw,d7,de];lia
 have hj:sIx items.size items.size hi≤items.size:=sIx_le _ _ (aC _) hi;obtain⟨os,hos,hcs,hds⟩:=id hs;have hTs:s.TypeIs (.ref sl) "slice" := ⟨os,hos,hcs⟩;unfold getItem
 try with_reducible apply eu ?_
 first | apply ah (aP ?_) | skip
 apply ah (wpAny_sequenceKey ht.typeIs ↥0 ?_);apply ah (gi (name:=dt "__getitem__") ht.typeIs dN
  (ik dN ht.typeIs entry_tuple_getitem ?_ (args_tuple_getitem _ _)))
 show bc _ _ (fg.Tuple.tupleItemsOf (.ref t) >>= _) _ _ s;apply ah (tupleItemsOf_ ht ?_);apply ah (wpAny_typeOf hTs ?_);rw[rV ↥0];apply ah (sliceApplied_gen hs pl pu ?_);have hno:¬((((sIx items.size 0 lo:Nat):Int) == 0 && (1:Int) == 1 && (sIx items.size items.size hi - sIx items.size 0 lo) == items.size)=true):=by
  intro q;rw[eh,eh] at q;have q1:((sIx items.size 0 lo:Nat):Int)=0:=eq_of_beq q.1.1;have q2:sIx items.size items.size hi - sIx items.size 0 lo=items.size:=eq_of_beq q.2;exact hw ⟨⋯,⋯⟩
 show bc _ _ (if (((sIx items.size 0 lo:Nat):Int) == 0 && (1:Int) == 1 && (sIx items.size items.size hi - sIx items.size 0 lo) == items.size)=true then _ else _) _ _ s;rw[rT hno,pick_gen]
 first
  | exact ah (m:=iM _) (fv (aP ⟨_,rfl,aP h⟩) htake)
  | exact ah (m:=iM _) (fv (ah (aP (aP ⟨_,rfl,aP h⟩))) htake)
  | exact ah (ah (m:=iM _) (fv (aP (aP ⟨_,rfl,aP h⟩)) htake))
  | exact ah (ah (m:=iM _) (fv (aP ⟨_,rfl,aP h⟩) htake))
end HT
namespace L2
open PySem PySem.Spec PyProof.Rows
abbrev TO:=St→Hp→(Option Int→Hp→Prop)→Prop
def PO (X:Cx)(e:Option Expr)(t:TO):Prop :=
 ∀(aR:List (ak×Obj)) (s:aq) (σ:St) (H:Hp) (Q:Option Int→Hp→Prop),Inv X aR σ H s→t σ H Q →
  bc (bE X.prog X.w) X.A (evalPart e X.env) (λu s'=>∃o H',Inv X aR σ H' s'∧IsPart u o∧Q o H') X.xe s
def tNoPart:TO:=λ_ H Q=>Q none H
def tPart (t:TE):TO:=λσ H Q=>t σ H λx H1=>∃i,x= .int i∧Q (some i) H1
section
variable {lo hi:Option Expr}{tl th:TO}
theorem po_none:PO X none tNoPart:=by
 intro aR s σ H Q I h;rw[evalPart_none];exact aP ⟨none,H,I,.none,h⟩
theorem po_some (h:PE X e te):PO X (some e) (tPart te):=by
 intro aR s σ H Q I hw;rw[evalPart_some];apply thn (h aR s σ H _ I hw) λu s1 ⟨x,H1,I1,r1,q1⟩=>?_
 obtain⟨i,rfl,q⟩:=q1;obtain⟨t,rfl⟩:=r1;exact⟨some i,H1,I1,.int i t,q⟩
def SlR (X:Cx)(r:V→Option Int→Option Int→Hp→VK→Prop):Prop :=
 ∀(aR:List (ak×Obj)) (s:aq) (σ:St) (H:Hp) (x:V) (v vl vu:af) (lo hi:Option Int) (sl:ak) (Q:VK),Inv X aR σ H s→gQ x v→s.heap.IsSliceOf sl vl vu .none→IsPart vl lo→IsPart vu hi→r x lo hi H Q →
  ∃T id,typeLookup (.type T) "__getitem__" =gf (some (.builtin id))∧s.TypeIs v T∧bc (bE X.prog X.w) X.A (getItem v (.ref sl)) (EP X aR σ Q) X.xe s
def tSl (r:V→Option Int→Option Int→Hp→VK→Prop)(te:TE)(tl th:TO):TE:=λσ H Q=>te σ H λx H1=>tl σ H1 λl H2=>th σ H2 λu H3=>r x l u H3 Q
theorem pH {r:V→Option Int→Option Int→Hp→VK→Prop}(hr:SlR X r)(he:PE X e te)(hl:PO X lo tl)(hu:PO X hi th):PE X (.Subscript e (.Slice lo hi none p2) pos) (tSl r te tl th):=by
 intro aR s σ H Q I h;apply Subscript_ (thn (he aR s σ H _ I h) λv s1 ⟨x,H1,I1,r1,q1⟩=>?_);apply wpAny_Slice (thn (hl aR s1 σ H1 _ I1 q1) λvl s2 ⟨l,H2,I2,pl,q2⟩=>thn (hu aR s2 σ H2 _ I2 q2) λvu s3 ⟨u,H3,I3,pu,q3⟩=>?_);rw[evalPart_none];apply aP ?_;have I4:Inv X aR σ H3 { s3 with heap:=s3.heap.push { cls:= .type "slice",data:= .fields #[vl,vu,.none] } }:=I3.kept (t':=s3.toks) λb ob q=>au _ q
 obtain⟨T,id,hT,ht,hg⟩:=hr aR { s3 with heap:=s3.heap.push { cls:= .type "slice",data:= .fields #[vl,vu,.none] } } σ H3 x v vl vu l u s3.heap.objs.size Q I4 r1 (bO.IsSliceOf.new ..) pl pu q3;show bc (bE X.prog X.w) X.A (subscriptTail e (.Slice lo hi none p2) v (.ref s3.heap.objs.size)) (EP X aR σ Q) X.xe { s3 with heap:=s3.heap.push { cls:= .type "slice",data:= .fields #[vl,vu,.none] } };exact tail_any (ops:=[.ref s3.heap.objs.size,v]) ht hT hg (by with_unfolding_all rfl)
def cutV (xs:List V)(lo hi:Option Int):List V:=(xs.drop (HT.sIx xs.length 0 lo)).take (HT.sIx xs.length xs.length hi - HT.sIx xs.length 0 lo)
theorem cutV_length (xs:List V)(lo hi:Option Int):(cutV xs lo hi).length≤xs.length:=by
 unfold cutV;rw[bw,d7];lia
def rSlT (K:ai):V→Option Int→Option Int→Hp→VK→Prop:=λx lo hi H Q=>∃a xs,x= .ref a∧SqT K H a xs ∧
 ¬(HT.sIx xs.length 0 lo=0∧HT.sIx xs.length xs.length hi=xs.length)∧∀p,H p=none→Q (.ref p) (upd H p (.tup (cutV xs lo hi)))
theorem sl_tup:SlR X (rSlT X.K):=by
 intro aR s σ H x v vl vu lo hi sl Q I rx hs pl pu h;obtain⟨a,xs,rfl,hx,hw,q⟩:=h;cases rx;obtain⟨its,r,ht,hz⟩:=I.tuple hx;have hlen:its.toArray.size=xs.length:=by rw[aG];exact r.length.symm
 apply⟨"tuple",_,dN.lookup,ht.typeIs,?_⟩;apply HT.getItem_tuple_cut ht hs pl pu (by rw[hlen];exact hw) ?_ (by rw[hlen];exact hz);rw[hlen];apply⟨.ref s.heap.objs.size,_,I.laid (t':=s.toks) (o:= .tup (cutV xs lo hi)) (λb ob q=>au _ q) (aC _) ?_,rfl,q _ (I.hok.fresh (aC _))⟩;exact⟨bj (cutV_length xs lo hi) hz,_,(r.drop (HT.sIx xs.length 0 lo)).take (HT.sIx xs.length xs.length hi - HT.sIx xs.length 0 lo),l3.new _ _⟩
inductive rCatT (K:ai)(x:V)(y:V)(H:Hp)(Q:VK):Prop
 | mk (a b xs ys:_)(_:x= .ref a)(_:y= .ref b)(_:SqT K H a xs)(_:SqT K H b ys)(_:xs≠[])(_:xs.length+ys.length≤bo)(_:(ys=[]→Q (.ref a) H))(_:(ys≠[]→∀p,H p=none→Q (.ref p) (upd H p (.tup (xs++ys)))))
theorem gw.nil_iff (r:gw xs us):us=[]↔xs=[]:=by
 cases r with
 | nil=>simp
 | cons _ _=>simp
theorem op_catT:OpR X (gY .Add) (rCatT X.K):=by
 intro aR s σ H x y v u Q I rx ry h;obtain⟨a,b,xs,ys,rfl,rfl,ha,hb,hx,hz,q1,q2⟩:=h;cases rx;cases ry;obtain⟨its,r1,p1,_⟩:=I.tuple ha;obtain⟨its2,r2,p2,_⟩:=I.tuple hb;apply HT.cat_tup p1 p2 (λz=>hx (r1.nil_iff.mp z)) (λz=>⟨.ref a,H,I,rfl,q1 (r2.nil_iff.mp z)⟩) (λz=>?_) (by rw[←r1.length,←r2.length];exact hz);apply⟨.ref s.heap.objs.size,_,I.laid (t':=s.toks) (o:= .tup (xs++ys)) (λb ob q=>au _ q) (aC _) ?_,rfl,q2 (λw=>z (r2.nil_iff.mpr w)) _ (I.hok.fresh (aC _))⟩;exact⟨by rw[av];exact hz,_,r1.append r2,l3.new _ _⟩
end
def ixN (n:Nat)(i:Int):Option Nat:=if 0≤i then (if i<n then some i.toNat else none) else if -(n:Int)≤i then some (i+n).toNat else none
def atI {α:Type}(xs:List α)(i:Int):Option α:=(ixN xs.length i).bind λj=>xs[j]?
theorem ixN_seq {i:Int}(h:ixN n i=some j):seqIndex? i n=some j∧j<n∧ -(n:Int)≤i∧i<n:=by
 unfold ixN at h
 by_cases h0:0≤i
 ·rw[rV h0] at h
  by_cases h1:i<n
  ·rw[rV h1] at h
   have e:i.toNat=j:=cE h;exact⟨by rw[seqIndex_of h0 h1,e],⋯,⋯,h1⟩
  ·rw[rT h1] at h;cases h
 ·rw[rT h0] at h
  by_cases h1: -(n:Int)≤i
  ·rw[rV h1] at h
   have e:(i+n).toNat=j:=cE h;exact⟨by rw[seqIndex_neg ⋯ h1,e],⋯,h1,⋯⟩
  ·rw[rT h1] at h;cases h
theorem atI_get {xs:List α}{i:Int}{v:α}(h:atI xs i=some v):∃j,seqIndex? i xs.length=some j∧xs[j]? =some v∧j<xs.length∧ -(xs.length:Int)≤i∧i<xs.length:=by
 unfold atI at h;cases e:ixN xs.length i with
 | none=>rw[e] at h;cases h
 | some j =>
  rw[e] at h;obtain⟨h1,h2,h3,h4⟩:=ixN_seq e;exact⟨j,h1,h,h2,h3,h4⟩
theorem aB {xs:List α}{v:α}(h:xs[j]? =some v):atI xs (j:Int)=some v:=by
 have hj:j<xs.length:=(ao.mp h).1;have e:ixN xs.length (j:Int)=some j:=by
  unfold ixN;rw[rV ⋯,rV ⋯];simp
 unfold atI;rw[e];exact h
def PlainIx (b:Expr):Prop:=∀o i,subscripted b false o i=operate [o,i] (getItem o i)
def IxR (X:Cx)(r:R2):Prop :=
 ∀(value slice:Expr) (aR:List (ak×Obj)) (s:aq) (σ:St) (H:Hp) (x y:V) (v u:af) (Q:VK),Inv X aR σ H s→gQ x v→gQ y u→r x y H Q →
  subscripted slice false v u=operate [v,u] (getItem v u)→bc (bE X.prog X.w) X.A (subscriptTail value slice v u) (EP X aR σ Q) X.xe s
def MtR (X:Cx)(id:String)(r:V→List V→Hp→VK→Prop):Prop :=
 ∀(aR:List (ak×Obj)) (s:aq) (σ:St) (H:Hp) (x:V) (xs:List V) (v:af) (us:List af) (Q:VK),Inv X aR σ H s→gQ x v→gw xs us→r x xs H Q →
  bc (bE X.prog X.w) X.A (call (.builtin id) (v::us)) (EP X aR σ Q) X.xe s
section
variable {a b:Expr}{tb:TE}
theorem eM {r:R2}(hr:IxR X r)(ha:PE X a ta)(hb:PE X b tb)(hs:PlainIx b):PE X (.Subscript a b pos) (tOp r ta tb):=by
 intro aR s σ H Q I h;exact Subscript_ (binT ha hb I h λv u s2 x y H2 I2 rx ry q=>hr a b aR s2 σ H2 x y v u Q I2 rx ry q (hs _ _))
inductive rIxL (K:ai)(x:V)(y:V)(H:Hp)(Q:VK):Prop
 | mk (p xs i v:_)(_:x= .ref p)(_:y= .int i)(_:SqL K H p xs)(_:atI xs i=some v)(_:Q v H)
inductive pj (K:ai)(x:V)(y:V)(H:Hp)(Q:VK):Prop
 | mk (p xs i v:_)(_:x= .ref p)(_:y= .int i)(_:SqT K H p xs)(_:atI xs i=some v)(_:Q v H)
theorem fP:IxR X (rIxL X.K):=by
 intro value slice aR s σ H x y v u Q I rx ry h hs;obtain⟨p,xs,i,z,rfl,rfl,hq,he,q⟩:=h;cases rx;obtain⟨t,rfl⟩:=ry;obtain⟨its,r,pl,hz⟩:=I.list hq;obtain⟨j,h1,h2,h3,h4,h5⟩:=atI_get he;obtain⟨w,ew,rw'⟩:=r.get h2;have hl:=r.length;have hn:=line63;have fin:EP X aR σ Q w s:=⟨z,H,I,rw',q⟩
 by_cases h0:0≤i
 ·have hj:i.toNat=j:=by
   rw[seqIndex_of h0 h5] at h1;exact cE h1
  exact item_listR pl.isList h0 ⋯ (by rw[hj];simpa using ew) fin hs
 ·have hj:(i+(its.toArray.size:Int)).toNat=j:=by
   rw[seqIndex_neg ⋯ h4] at h1;rw[aG,←hl];exact cE h1
  exact subscriptTail_builtinR (x:=w) pl.isList.typeIs slot_list_getitem.lookup
   (wpAny_getItem_list_neg (Q:=λr s'=>r=w∧EP X aR σ Q r s') pl.isList ⋯ (by rw[aG] <;> lia) ⋯ (by rw[hj];simpa using ew) ⟨rfl,fin⟩) hs
theorem eJ:IxR X (pj X.K):=by
 intro value slice aR s σ H x y v u Q I rx ry h hs;obtain⟨p,xs,i,z,rfl,rfl,hq,he,q⟩:=h;cases rx;obtain⟨t,rfl⟩:=ry;obtain⟨its,r,pl,hz⟩:=I.tuple hq;obtain⟨j,h1,h2,h3,h4,h5⟩:=atI_get he;obtain⟨w,ew,rw'⟩:=r.get h2;have hl:=r.length;have hn:=line63;have fin:EP X aR σ Q w s:=⟨z,H,I,rw',q⟩;exact subscriptTail_builtinR (x:=w) pl.typeIs slot_tuple_getitem.lookup
  (getItem_tuple (j:=j) (Q:=λr s'=>r=w∧EP X aR σ Q r s') pl ⋯ ⋯ (by rw[aG,←hl];exact h1) (by simpa using ew) ⟨rfl,fin⟩) hs
theorem mapSeq_set (its:List af)(n j:Nat)(u:af):cQ (·.setIfInBounds j u) { cls:= .type "list",data:= .seq its.toArray n }={ cls:= .type "list",data:= .seq (its.set j u).toArray n }:=by
 simp[cQ]
theorem Inv.lst {aR:List (ak×Obj)}{σ:St}{H:Hp}{s:aq}{p:ak}{xs:List V}(I:Inv X aR σ H s)(h:H p=some (.lst xs)) :
  ∃(its:List af) (n:Nat),gw xs its∧s.heap.get? p=some { cls:= .type "list",data:= .seq its.toArray n }∧xs.length≤bo:=by
 obtain⟨z,its,n,r,e⟩:=I.hok p _ h;exact⟨its,n,r,e,z⟩
theorem Inv.lstUpd {p:ak}{its':List af}{n':Nat}{f:Obj→Obj}(I:Inv X aR σ H s)(h:H p=some (.lst xs))
  (ho:s.heap.get? p=some { cls:= .type "list",data:= .seq its.toArray n }) (hf:f { cls:= .type "list",data:= .seq its.toArray n }={ cls:= .type "list",data:= .seq its'.toArray n' }) (r:gw ys its') (hz:ys.length≤bo) (t:Nat) :
  Inv X aR σ (upd H p (.lst ys)) { s with heap:=s.heap.update p f,toks:=t }:=by
 have e:(s.heap.update p f).get? p=some { cls:= .type "list",data:= .seq its'.toArray n' }:=by
  rw[bO.get?_update_self f ho (by rw[hf] <;> rfl),hf]
 apply I.write (x:=p) (e:=p) (by rw[h];trivial) (.inl rfl) (λb u hb q=>(jM _ _ (cx hb)).trans q) ⟨_,e⟩ ?_;exact⟨hz,its',n',r,e⟩
def rSetL:V→V→V→Hp→(Hp→Prop)→Prop:=λo i v H Q=>∃p xs k j,o= .ref p∧i= .int k∧H p=some (.lst xs)∧ixN xs.length k=some j∧Q (upd H p (.lst (xs.set j v)))
theorem set_list:PSet X rSetL:=by
 intro aR s σ H o i v ov iv u Q I ro ri rv h;obtain⟨p,xs,k,j,rfl,rfl,hp,hj,q⟩:=h;cases ro;obtain⟨t,rfl⟩:=ri;obtain⟨its,n,r,ho,hz⟩:=I.lst hp;obtain⟨h1,h2,h3,h4⟩:=ixN_seq hj;have hl:=r.length;have hn:=line63;have I':Inv X aR σ (upd H p (.lst (xs.set j v))) { s with heap:=s.heap.update p (cQ (·.setIfInBounds j u)) } :=
  I.lstUpd hp ho (mapSeq_set its n j u) (r.set rv j) (by rw[iu];exact hz) s.toks
 by_cases h0:0≤k
 ·have hk:k.toNat=j:=by
   rw[seqIndex_of h0 h4] at h1;exact cE h1
  exact PySem.W.ki_setAt ho h0 ⋯ (by rw[aG,←hl];exact h4) (by rw[hk];exact⟨_,I',q⟩)
 ·have hk:(k+(its.toArray.size:Int)).toNat=j:=by
   rw[seqIndex_neg ⋯ h3] at h1;rw[aG,←hl];exact cE h1
  exact PySem.W.ki_setBack ho ⋯ (by rw[aG,←hl];exact h3) ⋯ (by rw[hk];exact⟨_,I',q⟩)
def flatV:V→Bool
 | .non=>true
 | .bl _=>true
 | .int _=>true
 | .str _=>true
 | _=>false
def eqV:V→V→Bool
 | .non,.non=>true
 | .bl a,.bl b=>a == b
 | .bl a,.int b=>(if a then 1 else 0) == b
 | .int a,.bl b=>a == (if b then 1 else 0)
 | .int a,.int b=>a == b
 | .str a,.str b=>a == b
 | _,_=>false
theorem eqAt_V {x:V}{v:af}(ry:gQ y u)(rx:gQ x v)(fy:flatV y=true)(fx:flatV x=true):SeqAt.EqAt A s u v (eqV y x):=by
 cases y with
 | non =>
  cases ry;cases x with
  | non=>cases rx;exact SeqAt.EqAt.same _
  | bl b=>cases rx;exact SeqAt.EqAt.none_bool b
  | int b=>obtain⟨t,rfl⟩:=rx;exact SeqAt.EqAt.none_int b t
  | str b=>obtain⟨t,rfl⟩:=rx;exact SeqAt.EqAt.none_str b t
  | _=>exact rW (show false=true from fx) aS
 | bl a =>
  cases ry;cases x with
  | non=>cases rx;exact SeqAt.EqAt.bool_none a
  | bl b=>cases rx;exact SeqAt.EqAt.bool_bool a b
  | int b=>obtain⟨t,rfl⟩:=rx;exact SeqAt.EqAt.bool_int a b t
  | str b=>obtain⟨t,rfl⟩:=rx;exact SeqAt.EqAt.bool_str a b t
  | _=>exact rW (show false=true from fx) aS
 | int a =>
  obtain⟨t',rfl⟩:=ry;cases x with
  | non=>cases rx;exact SeqAt.EqAt.int_none a t'
  | bl b=>cases rx;exact SeqAt.EqAt.int_bool a t' b
  | int b=>obtain⟨t,rfl⟩:=rx;exact SeqAt.EqAt.int_int a t' b t
  | str b=>obtain⟨t,rfl⟩:=rx;exact SeqAt.EqAt.int_str a t' b t
  | _=>exact rW (show false=true from fx) aS
 | str a =>
  obtain⟨t',rfl⟩:=ry;cases x with
  | non=>cases rx;exact SeqAt.EqAt.str_none a t'
  | bl b=>cases rx;exact SeqAt.EqAt.str_bool a t' b
  | int b=>obtain⟨t,rfl⟩:=rx;exact SeqAt.EqAt.str_int a t' b t
  | str b=>obtain⟨t,rfl⟩:=rx;exact SeqAt.EqAt.str_str a t' b t
  | _=>exact rW (show false=true from fx) aS
 | _=>exact rW (show false=true from fy) aS
def eqU (x:V)(u:af):Bool:=match u with
 | .none=>eqV .non x
 | .bool b=>eqV (.bl b) x
 | .int i _=>eqV (.int i) x
 | .str z _=>eqV (.str z) x
 | _=>false
theorem eqU_of {x:V}(r:gQ y u)(f:flatV y=true):eqU x u=eqV y x:=by
 cases y with
 | non=>cases r;rfl
 | bl b=>cases r;rfl
 | int i=>obtain⟨t,rfl⟩:=r;rfl
 | str z=>obtain⟨t,rfl⟩:=r;rfl
 | _=>exact rW (show false=true from f) aS
theorem qM {x:V}:∀{xs:List V} {us:List af},gw xs us→xs.all flatV=true→us.any (eqU x)=xs.any λy=>eqV y x
 | _,_,.nil,_=>rfl
 | y::xs,u::us,.cons r t,f=>by
  rw[List.all_cons,eh] at f;rw[gP,gP,eqU_of r f.1,qM t f.2]
theorem ny {A:bY}{s:aq}{x:V}{v:af}(rx:gQ x v)(fx:flatV x=true):∀{xs:List V} {us:List af},gw xs us→xs.all flatV=true→∀u∈us,SeqAt.EqAt A s u v (eqU x u)
 | _,_,.nil,_=>λu hu=>by cases hu
 | y::xs,u::us,.cons r t,f=>λu' hu=>by
  rw[List.all_cons,eh] at f
  rcases aE.mp hu with rfl | hu
  ·rw[eqU_of r f.1];exact eqAt_V r rx f.1 fx
  ·exact ny rx fx t f.2 u' hu
def inV (x:V)(xs:List V):Bool:=xs.any λy=>eqV y x
inductive rIn (K:ai)(neg:Bool)(x:V)(y:V)(H:Hp)(Q:VK):Prop
 | mk (p xs:_)(_:y= .ref p)(_:(SqL K H p xs∨SqT K H p xs))(_:flatV x=true)(_:xs.all flatV=true)(_:Q (.bl (if neg then !inV x xs else inV x xs)) H)
theorem op_in_seq:OpR X (fT .In) (rIn X.K false):=by
 intro aR s σ H x y v u Q I rx ry h;obtain⟨p,xs,rfl,hq,fx,fs,q⟩:=h;cases ry
 rcases hq with hq | hq
 ·obtain⟨its,r,pl,hz⟩:=I.list hq
  apply SeqAt.in_listAt (eqU x) pl.isList (λw hw=>ny rx fx r fs w (by simpa using hw)) ⟨.bl _,H,I,rfl,?_⟩;rw[show its.toArray.any (eqU x)=its.any (eqU x) by simp,qM r fs];exact q
 ·obtain⟨its,r,pl,hz⟩:=I.tuple hq
  apply SeqAt.in_tupleAt (eqU x) pl (λw hw=>ny rx fx r fs w (by simpa using hw)) ⟨.bl _,H,I,rfl,?_⟩;rw[show its.toArray.any (eqU x)=its.any (eqU x) by simp,qM r fs];exact q
theorem op_notIn_seq:OpR X (fT .NotIn) (rIn X.K true):=by
 intro aR s σ H x y v u Q I rx ry h;obtain⟨p,xs,rfl,hq,fx,fs,q⟩:=h;cases ry
 rcases hq with hq | hq
 ·obtain⟨its,r,pl,hz⟩:=I.list hq
  apply SeqAt.notIn_listAt (eqU x) pl.isList (λw hw=>ny rx fx r fs w (by simpa using hw)) ⟨.bl _,H,I,rfl,?_⟩;rw[show its.toArray.any (eqU x)=its.any (eqU x) by simp,qM r fs];exact q
 ·obtain⟨its,r,pl,hz⟩:=I.tuple hq
  apply SeqAt.notIn_tupleAt (eqU x) pl (λw hw=>ny rx fx r fs w (by simpa using hw)) ⟨.bl _,H,I,rfl,?_⟩;rw[show its.toArray.any (eqU x)=its.any (eqU x) by simp,qM r fs];exact q
theorem dA:ke X (.builtin "len") (λxs H Q=>∃p ys,xs=[.ref p]∧(SqL X.K H p ys∨SqT X.K H p ys)∧Q (.int ys.length) H):=by
 intro aR s σ H xs us Q I r h;obtain⟨p,ys,rfl,hq,q⟩:=h;obtain⟨u,rfl,rx⟩:=qR r;cases rx;have hn:=line63
 rcases hq with hq | hq
 ·obtain⟨its,r',pl,hz⟩:=I.list hq
  have hlen:=r'.length;exact Calls.call_len_list pl.isList (by simp only[aG] <;> lia) ⟨.int ys.length,H,I.tok _,⟨s.toks+1,by rw[aG,hlen]⟩,q⟩
 ·obtain⟨its,r',pl,hz⟩:=I.tuple hq
  have hlen:=r'.length;exact len_tuple pl (by simp only[aG] <;> lia) ⟨.int ys.length,H,I.tok _,⟨s.toks+1,by rw[aG,hlen]⟩,q⟩
theorem call_tuple_of:ke X (.type "tuple") (λxs H Q=>∃p ys,xs=[.ref p]∧((SqL X.K H p ys∧∀l,H l=none→Q (.ref l) (upd H l (.tup ys)))∨(SqT X.K H p ys∧Q (.ref p) H))):=by
 intro aR s σ H xs us Q I r h;obtain⟨p,ys,rfl,h⟩:=h;obtain⟨u,rfl,rx⟩:=qR r;cases rx
 rcases h with ⟨hq,q⟩ | ⟨hq,q⟩
 ·obtain⟨its,r',pl,hz⟩:=I.list hq
  have hlen:=r'.length;apply call_tuple_list pl.isList (λh' kp=>?_) (by simp only[aG] <;> lia);have I1:Inv X aR σ H { s with heap:=h' }:=I.kept (t':=s.toks) kp;have I2:Inv X aR σ (upd H h'.objs.size (.tup ys)) { s with heap:=h'.push { cls:= .type "tuple",data:= .seq its.toArray } } :=
   I1.laid (t':=s.toks) (λb o e=>au _ e) (aC _) (show jw X.prog X.w _ _ _ (.tup ys) from ⟨hz,its,r',l3.new _ _⟩)
  exact⟨.ref h'.objs.size,_,I2,rfl,q _ (I1.hok.fresh (aC _))⟩
 ·obtain⟨its,r',pl,hz⟩:=I.tuple hq
  exact call_tuple_same pl ⟨.ref p,H,I,rfl,q⟩
def tyV (K:ai)(T:String)(x:V)(H:Hp):Prop:=match x with
 | .str _=>T = "str"
 | .int _=>T = "int"
 | .ref p=>(T = "list" ∧∃xs,SqL K H p xs)∨(T = "tuple" ∧∃o,K.lookup p=some o∧o.cls= .type "tuple" ∧o.dict=none) ∨
   (T = "dict" ∧((∃kvs,H p=some (.dK kvs))∨∃kvs,H p=some (.dT kvs)))∨(T = "set" ∧∃S n,H p=some (.set S n))
 | _=>False
theorem tyV_is {x:V}{v:af}(I:Inv X aR σ H s)(r:gQ x v)(ty:tyV X.K T x H) :
  s.TypeIs v T∧∀a,v= .ref a→∃ob,s.heap.get? a=some ob∧ob.dict=none:=by
 cases x with
 | str z =>
  obtain⟨t,rfl⟩:=r;cases(show T = "str" from ty);exact⟨typeIs_str s z t,λ_ e=>nomatch e⟩
 | int i =>
  obtain⟨t,rfl⟩:=r;cases(show T = "int" from ty);exact⟨typeIs_int s i t,λ_ e=>nomatch e⟩
 | ref p =>
  cases r
  rcases ty with ⟨rfl,xs,hq⟩ | ⟨rfl,o,hk,hc,hd⟩ | ⟨rfl,hk⟩ | ⟨rfl,S,n,hk⟩
  ·obtain⟨its,_,pl,_⟩:=I.list hq
   apply⟨pl.isList.typeIs,λa e=>?_⟩;cases e;obtain⟨o,n,e,c,hd,_⟩:=pl;exact⟨o,e,hd⟩
  ·apply⟨⟨o,I.kIn p o hk,hc⟩,λa e=>?_⟩
   cases e;exact⟨o,I.kIn _ o hk,hd⟩
  ·have z:∃o,s.heap.get? p=some o∧o.ExactDict:=by
    rcases hk with ⟨kvs,hk⟩ | ⟨kvs,hk⟩
    ·obtain⟨_,_,_,_,o,_,_,e,ex,_⟩:=I.hok p _ hk
     exact⟨o,e,ex⟩
    ·obtain⟨_,_,_,_,o,_,_,e,ex,_⟩:=I.hok p _ hk
     exact⟨o,e,ex⟩
   obtain⟨o,e,ex⟩:=z;apply⟨⟨o,e,ex.1⟩,λa e2=>?_⟩;cases e2;exact⟨o,e,ex.2.1⟩
  ·obtain⟨o,_,_,_,e,ex,_⟩:=I.hok p _ hk
   apply⟨⟨o,e,ex.1⟩,λa e2=>?_⟩;cases e2;exact⟨o,e,ex.2.1⟩
 | _=>exact cX ty
def tBM0 (K:ai)(T:String)(r:V→List V→Hp→VK→Prop)(to:TE):TE:=λσ H Q=>to σ H λx H1=>tyV K T x H1∧r x [] H1 Q
def tBM (K:ai)(T:String)(r:V→List V→Hp→VK→Prop)(to:TE)(t:TA):TE:=λσ H Q=>to σ H λx H1=>tyV K T x H1∧t σ H1 λxs H2=>r x xs H2 Q
variable {o:Expr}{cpos:Pos}{id:String}
theorem rn (pa:PlainAttrs T)(slot:Slot T name id)(hty:typeOf (.builtin id)=gf (.type "method_descriptor"))(hm:MtR X id r)(ho:PE X o to)
  (hbase:attributeBase o name X.env (eG o X.env)=eG o X.env:=by rfl) (hline:(apos.endLine == cpos.line)=true:=by rfl):PE X (.Call (.Attribute o name apos) [] [] cpos) (tBM0 X.K T r to):=by
 intro aR s σ H Q I h;apply wpAny_Call_method0_late hbase hline (thn (ho aR s σ H _ I h) λv s1 ⟨x,H1,I1,r1,ty,q1⟩=>?_);obtain⟨h1,h2⟩:=tyV_is I1 r1 ty;exact⟨T,id,pa,slot,hty,h1,h2,Calls.callWith_builtin rfl (PySem.evalArgs_none (hm aR s1 σ H1 x [] v [] Q I1 r1 .nil q1))⟩
theorem mI (pa:PlainAttrs T)(slot:Slot T name id)(hty:typeOf (.builtin id)=gf (.type "method_descriptor"))(hm:MtR X id r)(ho:PE X o to)(ha:PA X (e::es) t)
  (hbase:attributeBase o name X.env (eG o X.env)=eG o X.env:=by rfl)
  (hfew:((gg cpos (bD (e::es) X.env)).all (fun x=> !x.1) && (backToKw cpos (keywordEach [] X.env)).all (fun x=>x.1.isSome)
   && decide ((e::es).length+([]:List Keyword).length+(if ([]:List Keyword).isEmpty then 0 else 1)<30))=true:=by rfl)
  (hline:(apos.endLine == cpos.line)=true:=by rfl) (hs:bD (e::es) X.env=(false,eG e X.env)::bD es X.env:=by rfl) (hplain:(gg cpos (bD es X.env)).any (·.1)=false:=by rfl) :
  PE X (.Call (.Attribute o name apos) (e::es) [] cpos) (tBM X.K T r to t):=by
 intro aR s σ H Q I h;apply wpAny_Call_method_late hbase hfew hline rfl (thn (ho aR s σ H _ I h) λv s1 ⟨x,H1,I1,r1,ty,q1⟩=>?_);obtain⟨h1,h2⟩:=tyV_is I1 r1 ty;apply⟨T,id,pa,slot,hty,h1,h2,?_⟩;have hA:=ha cpos aR s1 σ H1 _ I1 q1;rw[hs] at hA ⊢;apply Calls.callWith_builtin (by show(false || (gg cpos (bD es X.env)).any (·.1))=false;rw[hplain] <;> rfl) (Calls.evalArgs_plain ?_);exact thn hA λus s2 ⟨vs,H2,I2,r2,q2⟩=>hm aR s2 σ H2 x vs v us Q I2 r1 r2 q2
end
def MtM (X:Cx)(id:String)(r:V→List V→Hp→VK→Prop):Prop :=
 ∀(aR:List (ak×Obj)) (s:aq) (σ:St) (H:Hp) (x:V) (xs:List V) (v:af) (us:List af) (Q:VK),Inv X aR σ H s→gQ x v→gw xs us→r x xs H Q →
  bc (bE X.prog X.w) X.A (call (.builtin id) (v::us)) (EP X aR σ Q) X.xe s
theorem gw.one:∀{x:V} {us:List af},gw [x] us→∃u,us=[u]∧gQ x u
 | _,_,.cons r .nil=>⟨_,rfl,r⟩
theorem gw.zero:∀{us:List af},gw [] us→us=[]
 | _,.nil=>rfl
theorem gw.dropLast (h:gw xs us):gw xs.dropLast us.dropLast:=by
 induction h with
 | nil=>exact .nil
 | cons r t ih =>
  cases t with
  | nil=>exact .nil
  | cons q t'=>exact .cons r ih
theorem gw.eraseIdx:∀{xs:List V} {us:List af} (i:Nat),gw xs us→gw (xs.eraseIdx i) (us.eraseIdx i)
 | _,_,_,.nil=> .nil
 | _,_,0,.cons _ t=>t
 | _,_,i+1,.cons r t=> .cons r (gw.eraseIdx i t)
theorem gw.rep {xs:List V}{us:List af}(h:gw xs us):∀k:Nat,gw (bQ k xs).flatten (bQ k us).flatten
 | 0=> .nil
 | k+1=>by
  rw[jn,jn,List.flatten_cons,List.flatten_cons];exact gw.append h (gw.rep h k)
theorem erase_last (l:List α):l.eraseIdx (l.length - 1)=l.dropLast:=by
 induction l with
 | nil=>rfl
 | cons a r ih =>
  cases r with
  | nil=>rfl
  | cons b r =>
   have e:(a::b::r).length - 1=((b::r).length - 1)+1:=by
    have h1:(a::b::r).length=r.length+2:=rfl;have h2:(b::r).length=r.length+1:=rfl;lia
   rw[e,List.eraseIdx_cons_succ,ih]
   all_goals rfl
theorem len_erase {α:Type}:∀(l:List α) (i:Nat),(l.eraseIdx i).length≤l.length
 | [],_=>aC _
 | _::_,0=>kt _
 | _::r,i+1=>j9 (len_erase r i)
theorem foldl_rep (its:List af):∀(k:Nat) (acc:List af),
  List.foldl (λx1 x2=>x1++x2) acc.toArray (bQ k its.toArray)=(acc++(bQ k its).flatten).toArray
 | 0,acc=>by simp
 | k+1,acc=>by
  have e:acc.toArray++its.toArray=(acc++its).toArray:=by simp
  have e2:(acc++its)++(bQ k its).flatten=acc++(bQ (k+1) its).flatten:=by
   rw[jn,List.flatten_cons,List.append_assoc]
  rw[←e2,←foldl_rep its k (acc++its),←e,jn,bJ]
section
variable {l b:ak}
theorem Inv.lset {its':List af}{f:Array af→Array af}(I:Inv X aR σ H s)(hH:H l=some (.lst xs))
  (e:s.heap.get? l=some { cls:= .type "list",data:= .seq its.toArray n }) (hf:f its.toArray=its'.toArray) (hv:gw ys its') (hz:ys.length≤bo) :
  Inv X aR σ (upd H l (.lst ys)) { s with heap:=s.heap.update l (cQ f),toks:=t' }:=by
 have q:=PySem.IsL.update e f;rw[hf] at q;apply I.write (x:=l) (e:=l) (by rw[hH];exact trivial) (.inl rfl) (λb' u hb hu=>(jM s.heap (cQ f) (cx hb)).trans hu) ⟨_,q⟩ ?_;exact⟨hz,its',_,hv,q⟩
theorem Inv.lnew (I:Inv X aR σ H s)(hv:gw ys its)(hz:ys.length≤bo) :
  Inv X aR σ (upd H s.heap.objs.size (.lst ys)) { s with heap:=s.heap.push { cls:= .type "list",data:= .seq its.toArray },toks:=t' } :=
 I.laid (λ_ _ q=>au _ q) (aC _) ⟨hz,its,0,hv,aW _ rfl⟩
theorem Inv.fresh (I:Inv X aR σ H s):H s.heap.objs.size=none:=I.hok.fresh (aC _)
theorem Inv.lstM (I:Inv X aR σ H s)(hH:H l=some (.lst xs)):xs.length≤bo∧∃(its:List af) (n:Nat),gw xs its∧xs.length=its.length∧s.heap.get? l=some { cls:= .type "list",data:= .seq its.toArray n }:=by
 obtain⟨z,its,n,r,e⟩:=I.hok l _ hH;exact⟨z,its,n,r,r.length,e⟩
theorem notLongL (h:n≤bo):iV n=false:=by
 unfold iV;exact rY ⋯
end
inductive rAppend (x:V)(vs:List V)(H:Hp)(Q:VK):Prop
 | mk (l xs y:_)(_:x= .ref l)(_:vs=[y])(_:H l=some (.lst xs))(_:xs.length<bo)(_:Q .non (upd H l (.lst (xs++[y]))))
theorem iB:MtM X "list.append" rAppend:=by
 intro aR s σ H x vs v us Q I rx rv h;obtain⟨l,xs,y,rfl,rfl,hH,hz,q⟩:=h;cases rx;obtain⟨u,rfl,ru⟩:=rv.one;obtain⟨z,its,n,r,hl,e⟩:=I.lstM hH;apply ky F.slot_list_append ⟨_,e,rfl⟩ F.entry_list_append (F.args_list_append_2 _ _) (PySem.list_append l its.toArray n u (by rw[aG];lia)) ⟨e,?_⟩;apply⟨.non,_,I.lset (its':=its++[u]) hH e ∅ (r.append (.cons ru .nil)) ?_,rfl,q⟩;rw[av,iF];lia
inductive rExtend (x:V)(vs:List V)(H:Hp)(Q:VK):Prop
 | mk (l b xs zs:_)(_:x= .ref l)(_:vs=[.ref b])(_:H l=some (.lst xs))(_:H b=some (.lst zs))(_:xs.length+zs.length≤bo)(_:Q .non (upd H l (.lst (xs++zs))))
theorem mt_extend:MtM X "list.extend" rExtend:=by
 intro aR s σ H x vs v us Q I rx rv h;obtain⟨l,b,xs,zs,rfl,rfl,hH,hB,hz,q⟩:=h;cases rx;obtain⟨u,rfl,ru⟩:=rv.one;cases ru;obtain⟨z,its,n,r,hl,e⟩:=I.lstM hH;obtain⟨z2,its2,n2,r2,hl2,e2⟩:=I.lstM hB;have hsz:its.toArray.size+its2.toArray.size≤bo:=by rw[aG,aG];lia
 have hlong:¬(!its.toArray.isEmpty && iV (its.toArray.size+its2.toArray.size))=true:=by
  rw[notLongL hsz,Bool.and_false];exact aS
 apply ky F.slot_list_extend ⟨_,e,rfl⟩ F.entry_list_extend (F.args_list_extend_2 _ _)
  (AutoSeq1.list_extend_list_list_0 l its.toArray n b its2.toArray n2 hlong (by rw[aG];lia) ⋯) ⟨e,e2,?_⟩
 apply⟨.non,_,I.lset (its':=its++its2) hH e ∅ (r.append r2) ?_,rfl,q⟩;rw[av];lia
inductive rPop (x:V)(vs:List V)(H:Hp)(Q:VK):Prop
 | mk (l xs y:_)(_:x= .ref l)(_:vs=[])(_:H l=some (.lst xs))(_:xs[xs.length - 1]? =some y)(_:Q y (upd H l (.lst xs.dropLast)))
theorem rA:MtM X "list.pop" rPop:=by
 intro aR s σ H x vs v us Q I rx rv h;obtain⟨l,xs,y,rfl,rfl,hH,hy,q⟩:=h;cases rx;have hus:=rv.zero;subst hus;obtain⟨z,its,n,r,hl,e⟩:=I.lstM hH;obtain⟨u,hu,ru⟩:=r.get hy;have hy':its.toArray[its.toArray.size - 1]? =some u:=by
  show its.toArray[its.length - 1]? =some u;rw[←iE,←hl];exact hu
 apply ky F.slot_list_pop ⟨_,e,rfl⟩ F.entry_list_pop (F.args_list_pop_1 _) (MeetsSeq.list_pop_last l its.toArray n u hy' (by rw[aG];lia)) ⟨e,?_⟩;apply⟨y,_,I.lset (its':=its.dropLast) hH e ?_ r.dropLast ?_,ru,q⟩
 ·show its.toArray.eraseIdxIfInBounds (its.toArray.size - 1)=its.dropLast.toArray
  rw[aG,List.eraseIdxIfInBounds_toArray,erase_last]
 ·rw[List.length_dropLast]
  lia
inductive rPopAt (x:V)(vs:List V)(H:Hp)(Q:VK):Prop
 | mk (l xs i k y:_)(_:x= .ref l)(_:vs=[.int i])(_:H l=some (.lst xs))(_: -(2 ^ 63)≤i)(_:i<2 ^ 63)(_:seqIndex? i xs.length=some k)(_:xs[k]? =some y)(_:Q y (upd H l (.lst (xs.eraseIdx k))))
theorem mt_popAt:MtM X "list.pop" rPopAt:=by
 intro aR s σ H x vs v us Q I rx rv h;obtain⟨l,xs,i,k,y,rfl,rfl,hH,h1,h2,hk,hy,q⟩:=h;cases rx;obtain⟨u,rfl,ru⟩:=rv.one;obtain⟨t,rfl⟩:=ru;obtain⟨z,its,n,r,hl,e⟩:=I.lstM hH;obtain⟨w,hw,rw'⟩:=r.get hy;apply ky F.slot_list_pop ⟨_,e,rfl⟩ F.entry_list_pop (F.args_list_pop_2 _ _)
  (MeetsSeq.list_pop_at l its.toArray n i t k w (fitsIndex_both h1 h2) (by rw[aG,←hl];exact hk) (by rw[←iE];exact hw) (by rw[aG];lia)) ⟨e,?_⟩
 apply⟨y,_,I.lset (its':=its.eraseIdx k) hH e ?_ (r.eraseIdx k) ?_,rw',q⟩
 ·show its.toArray.eraseIdxIfInBounds k=(its.eraseIdx k).toArray
  rw[List.eraseIdxIfInBounds_toArray]
 ·have:=len_erase xs k
  lia
inductive rCat (x:V)(y:V)(H:Hp)(Q:VK):Prop
 | mk (l b xs zs:_)(_:x= .ref l)(_:y= .ref b)(_:H l=some (.lst xs))(_:H b=some (.lst zs))(_:xs.length+zs.length≤bo)(_:∀p,H p=none→Q (.ref p) (upd H p (.lst (xs++zs))))
theorem op_cat:OpR X (gY .Add) rCat:=by
 intro aR s σ H x y v u Q I rx ry h;obtain⟨l,b,xs,zs,rfl,rfl,hH,hB,hz,q⟩:=h;cases rx;cases ry;obtain⟨z,its,n,r,hl,e⟩:=I.lstM hH;obtain⟨z2,its2,n2,r2,hl2,e2⟩:=I.lstM hB;apply PySem.P.add_list e e2 ?_ (by rw[aG,aG];lia);have ea:its.toArray++its2.toArray=(its++its2).toArray:=by simp
 rw[ea];exact⟨.ref _,_,I.lnew (t':=s.toks) (r.append r2) (by rw[av];lia),rfl,q _ I.fresh⟩
inductive rRep (x:V)(y:V)(H:Hp)(Q:VK):Prop
 | mk (l k xs:_)(_:x= .ref l)(_:y= .int k)(_:H l=some (.lst xs))(_: -(2 ^ 63)≤k)(_:k<2 ^ 63)(_:xs.length * k.toNat≤bo)(_:∀p,H p=none→Q (.ref p) (upd H p (.lst (bQ k.toNat xs).flatten)))
theorem len_rep (xs:List α)(k:Nat):(bQ k xs).flatten.length=k * xs.length:=by
 induction k with
 | zero=>simp
 | succ k ih=>rw[jn,List.flatten_cons,av,ih,Nat.succ_mul,Nat.add_comm]
theorem op_rep:OpR X (gY .Mult) rRep:=by
 intro aR s σ H x y v u Q I rx ry h;obtain⟨l,k,xs,rfl,rfl,hH,h1,h2,hz,q⟩:=h;cases rx;obtain⟨t,rfl⟩:=ry;obtain⟨z,its,n,r,hl,e⟩:=I.lstM hH;have hlen:its.toArray.size * k.toNat≤bo:=by rw[aG,←hl];exact hz
 have hcap:¬its.toArray.size * k.toNat > (2 ^ 63 - 1) / 8:=by
  have:(bo:Nat)≤(2 ^ 63 - 1) / 8:=by decide
  lia
 have hfit:¬(!Builtin.List.listFitsIndex k)=true:=by
  rw[fitsIndex_both h1 h2];exact aS
 have hlong:¬iV (its.toArray.size * k.toNat)=true:=by
  rw[notLongL hlen];exact aS
 have hnew:List.foldl (λx1 x2=>x1++x2) #[] (bQ (if its.toArray.isEmpty=true then 0 else k.toNat) its.toArray)=(bQ k.toNat its).flatten.toArray:=by
  have f0:∀m:Nat,List.foldl (λx1 x2=>x1++x2) #[] (bQ m its.toArray)=(bQ m its).flatten.toArray:=λm=>by
   have:=foldl_rep its m [];rw[List.nil_append] at this;exact this
  rw[f0];cases its with
  | nil=>simp
  | cons a r'=>rw[rT ∅]
 apply wpAny_binaryOp_repeat_ref (T := "list") (U := "int") ↥0 ⟨_,e,rfl⟩ (λs'=>typeIs_int s' k t) noFill_list_mul F.fills_int_mul F.slot_int_rmul repeat_list F.slot_int_index.lookup
  (ky F.slot_int_rmul (typeIs_int s k t) F.entry_int_rmul (F.args_int_rmul_2 _ _) (int___rmul___int_list k t l its.toArray n)
   ⟨e,rfl,⟨_,e,rfl⟩,ky F.slot_list_mul ⟨_,e,rfl⟩ F.entry_list_mul (F.args_list_mul_2 _ _) (AutoListH.list___mul___list_int_3 l its.toArray n k t hfit hcap hlong) ⟨e,?_⟩⟩)
 rw[hnew];exact⟨.ref _,_,I.lnew (t':=s.toks) (r.rep k.toNat) (by rw[len_rep,jU];exact hz),rfl,q _ I.fresh⟩
end L2
namespace Att
open PySem PySem.W PySem.Calls PyProof.Rows
theorem qH {P:Params}:∀(ns:List Int) (vs:List af),WellAll P h vs (ns.map WData.int)→IntsAre vs ns:=by
 intro ns
 induction ns with
 | nil =>
  intro vs w;rw[List.map_nil] at w;cases w;exact .nil
 | cons n ns ih =>
  intro vs w;rw[bX] at w;cases w with
  | cons a b =>
   cases a;exact .cons _ _ (ih _ b)
theorem script_of {l:OpenLaw}(hn:l.most=some n){P:Params}{args:List WData}{vals:List af}
  (hpre:l.row.toRowW.claim.pre args=true) (hwl:WellAll P h vals args) :
  ∃a vs ns,vals=[af.ref a]∧args=[WData.list (ns.map WData.int)]∧h.get? a=some { cls:= .type "list",data:= .seq vs.toArray }∧IntsAre vs ns∧ns.length≤n:=by
 have hsh:WShape.hasAll [] args [.list .int]=true:=(pre_splitW hpre).1;have hc:l.pre.holds [] { args:=args }=true:=(pre_splitW hpre).2;obtain⟨d,r,rfl,h1,h2⟩:=hasAllW_cons hsh;obtain rfl:=hasAllW_nil h2;obtain⟨xs,rfl,h3⟩:=hasW_list h1;obtain⟨ns,rfl⟩:=items_int h3;have hlen:ns.length≤n:=by
  unfold OpenLaw.pre at hc;have h4:(WTm.not (.lt (.lit (.int (n:Int))) (.len (.arg 0)))).holds [] { args:=[.list (ns.map .int)] }=true:=by
   have h4:=(holds_andW hc).1;rw[hn] at h4;exact h4
  have h5:=condW_of h4 (w_not (w_lt w_lit (w_len_list (w_arg rfl))));rw[aa] at h5;apply Nat.le_of_not_lt λq=>?_
  have q':(n:Int)<((ns.length:Nat):Int):=by lia
  first
   | (rw[rX q'] at h5;exact rW h5 ↥0)
   | (simp at h5;lia)
 cases hwl with
 | cons w1 w2 =>
  cases w2;cases w1 with
  | list ho hall=>exact⟨_,_,ns,rfl,rfl,ho,qH ns _ hall,hlen⟩
theorem post_true (l:OpenLaw)(args:List WData):l.row.toRowW.claim.post args (.bool true) args=true :=
 postW_of (r:=l.row.toRowW) (X:=(true == true))
  (show WShape.has [] (.bool true) .bool=true by first | rfl | decide | simp[WShape.has,WShape.arms,WShape.armsAll])
  (show(WTm.eq .res (.lit (.bool true))).value [] { args:=args,res:=some (.bool true),after:=args }=some (.bool (true == true)) from w_eq_bool (w_res rfl) w_lit) rfl
theorem attach_call {l:OpenLaw}{q:aV}{d:DefRec}
  (hn:l.most=some n) (hdf:d.params.defaults=[])
  (call:∀ (w:bG) (s₀ s₁:aq) (mg mb:Str→Option af) (fa:ak) (o:Obj) (pm cd doc:af) (a:ak) (vs:List af) (ns:List Int),
   Ground q loose [] XP w s₀ mg mb s₁.heap→YP w s₁.heap →
   s₁.heap.get? fa=some o→o.data= .func (docDef d.name d.params d.body d.scope pm cd doc)→s₁.heap.CodeRec cd d.name→mg d.name=some (.ref fa) →
   s₁.heap.get? a=some { cls:= .type "list",data:= .seq vs.toArray }→IntsAre vs ns→ns.length≤n→s₁.gens= #[] →
   jI (bE l.prog w) callerA (.call (.ref fa) ⟨[.ref a],[]⟩) (fun r s'=>r= .ok (.ret (.bool true))∧OldK s₁.heap s'.heap∧s'.os=s₁.os∧AllBare s'.gens) s₁) :
  WalkO q loose XP YP l.row.toRowW d [] (λf vs=>PySem.call f vs):=by
 intro w s₀ s₁ mg mb G Y fa o pm cd doc dV kV ho hd hcd hD hmg hg args vals as hpre hlay hrd hwl hlo;obtain rfl:dV= .none:=Dflts.none hD hdf;obtain rfl:kV= .none:=Dflts.noKw hD;obtain⟨a,vs,ns,rfl,rfl,hobj,hints,hlen⟩:=script_of hn hpre hwl;apply enter_call (codeAny_mono (call w s₀ s₁ mg mb fa o pm cd doc a vs ns G Y ho (fd_plain hd) hcd hmg hobj hints hlen hg) λr s' hq=>?_);obtain⟨rfl,h2,h3,h4⟩:=hq;exact⟨.inl ⟨.bool true,.bool true,[],rfl,λ_=>rfl,.bool true,post_true l _,λ_=>⟨List.Pairwise.nil,λ_ hm=>(nomatch hm)⟩⟩,h2,h3,h4⟩
end Att
namespace L2
open PySem PySem.Spec PyProof.Rows
theorem mX:∀{vs:List af} {ns:List Int},IntsAre vs ns→gw (ns.map V.int) vs
 | _,_,.nil=> .nil
 | _,_,.cons n t h=> .cons ⟨t,rfl⟩ (mX h)
abbrev CX0:CXT:=λ_ _ _ _ _ _=>False
abbrev E0:XK:=λ_ _ _=>False
theorem pass0:rN CX0 X E0:=λ_ _ _ _ _ _ _ h=>h.elim
structure Fun (K:ai)(x qual:Str)(st:cJ)(f:ak)(fd:bh):Prop where
 ex:∃(oc:af) (od:Option ak) (kV doc pm:af) (an:Option ak) (cdv ct:af) (osl:Array (Option af)),
  fd=dZ x qual (jF st) (fX st) (defScope st) .none kV doc pm an cdv ct∧K.lookup f=some ⟨oc,od,.func fd,osl⟩∧iK K cdv qual=true
 kp:eY K (.ref f)=true
theorem Fun.ok {k:Nat}{sp:Sp}(F:Fun K x qual st f fd)(S:bW N ps (defScope st))(len:∀vs H Q E,sp vs H Q E→vs.length=ps.length)
  (hbody:∀ (cdv:af) (A:bY) (outer:List Env) (s:aq) (H:Hp) (vs:List V) (Q:VK) (E:XK),iD k (A.deeper (envOfC qual (defScope st) s.heap.objs.size f cdv))→sp vs H Q E →
   ∃ t,PSs (cxOf CX0 P w K mg base N qual (defScope st) f cdv A outer s H E).nox (fX st) t∧t { nx:=fun _ H'=>Q .non H',rt:=Q } (start N vs) H):cG P w K mg base CX0 (k+1) f fd ps sp:=by
 obtain⟨oc,od,kV,doc,pm,an,cdv,ct,osl,rfl,lk,hcd⟩:=F.ex;apply fn_of lk hcd S len λA outer s H vs Q E hr hsp=>?_
 obtain⟨t,h,q⟩:=hbody cdv A outer s H vs Q E hr hsp;exact⟨t,h.nox,q⟩
theorem Fun.binds (F:Fun K x qual st f fd)
  (h:∀(kV doc pm:af) (an:Option ak) (cdv ct:af) (us:List af),us.length=ps.length→bindArgs (dZ x qual (jF st) (fX st) (defScope st) .none kV doc pm an cdv ct) ⟨us,[]⟩=gf (ps.zip us)):oA K fd ps []:=by
 obtain⟨oc,od,kV,doc,pm,an,cdv,ct,osl,rfl,lk,hcd⟩:=F.ex;exact .all (h kV doc pm an cdv ct)
theorem oJ {oc:af}{od an:Option ak}{kV doc pm cdv ct:af}(l:K.lookup f=some ⟨oc,od,.func (dZ x qual (jF st) (fX st) (defScope st) .none kV doc pm an cdv ct),osl⟩)
  (c:iK K cdv qual=true) (k:eY K (.ref f)=true):Fun K x qual st f (dZ x qual (jF st) (fX st) (defScope st) .none kV doc pm an cdv ct):=⟨⟨oc,od,kV,doc,pm,an,cdv,ct,osl,rfl,l,c⟩,k⟩
theorem nh (h:n≤1000):n<bo:=b9 h ↥0
theorem pv (i:Nat)(hN:X.N[i]? =some x:=by rfl)(hv:Vis X.env.scope x:=by first | exact Or.inl rfl | exact Or.inr (Or.inl rfl) | exact Or.inr (Or.inr rfl))(hd:(x == ("__debug__" :Str))=false:=by decide)
  (hcd:(x == ("__classdict__" :Str))=false:=by decide):PE X (.Name x pos) (tVar i):=pe_var hN hv hd hcd
theorem iteF {A:Prop}(h:B):if false=true then A else B:=by
 rw[rT aS];exact h
theorem iteT {A:Prop}(h:A):if true=true then A else B:=by
 rw[rV rfl];exact h
theorem ite2 {c A:Prop}[Decidable c](h1:c→A)(h2:¬c→B):if c then A else B:=by
 by_cases h:c
 ·rw[rV h]
  exact h1 h
 ·rw[rT h]
  exact h2 h
def bC (H H':Hp):Prop:=∀b o,H b=some o→H' b=some o
theorem bC.refl (H:Hp):bC H H:=λ_ _ h=>h
theorem bC.trans (a:bC H H1)(b:bC H1 H2):bC H H2:=λc o h=>b c o (a c o h)
theorem bC.free (e:bC H H'){l:ak}(h:H' l=Option.none):H l=Option.none:=by
 cases q:H l with
 | none=>rfl
 | some o =>
  rw[e l o q] at h;cases h
theorem bC.seq (e:bC H H')(h:SqL K H a xs):SqL K H' a xs:=by
 rcases h with (h | ⟨o,h⟩) | h
 ·exact .inl (.inl (e _ _ h))
 ·exact .inl (.inr ⟨o,e _ _ h⟩)
 ·exact .inr h
theorem op_fdivB:OpR X (gY .FloorDiv) (rI (λ_ j=>0<j∧j.natAbs.log2<9000) λi j=> .int (i / j)):=opI λi j _ _ _ _ _ hc q=>by
 have e:i.fdiv j=i / j:=Int.fdiv_eq_ediv_of_nonneg i (Int.le_of_lt hc.1);apply floordiv_int (by have:=hc.1;lia) ?_ (.inl (PyProof.noPylong_of_log2 hc.2));rw[e];exact q
theorem bools_of:∀{bs:List Bool} {us:List af},gw (bs.map V.bl) us→LSm.BoolsAre us bs
 | [],_,.nil=> .nil
 | b::bs,_,.cons r t=>by
  cases(show _=af.bool b from r);exact .cons b (bools_of t)
theorem call_all (hc:X.calm=true):ke X (.builtin "all") (λxs H Q=>∃(p:ak) (bs:List Bool),xs=[.ref p]∧SqL X.K H p (bs.map V.bl)∧Q (.bl (bs.all id)) H):=by
 intro aR s σ H xs us Q I r h;obtain⟨p,bs,rfl,hq,q⟩:=h;obtain⟨u,rfl,ru⟩:=qR r;cases(show u=af.ref p from ru);obtain⟨its,rv,pl,hz⟩:=I.list hq;have hb:=bools_of rv;have hil:s.heap.IsList p its.toArray:=pl.isList;have plt:p<s.heap.objs.size:=by obtain⟨_,e,_⟩:=hil;exact aO e
 apply call_all_walk (wpAny_pyIter_list hil ⟨s.heap.objs.size,[s.heap.objs.size,p],[s.heap.objs.size],its.toArray.size,_,_,fun i=>(bs[i]?).getD true,rfl,
  Walks.list (A:=X.A.in1) (I.ok.hd hc) _ p (bL plt) its.toArray,⟨⟨_,aW _ rfl,rfl,rfl⟩,hil.push _⟩,?_,?_⟩)
 ·intro i v s' Q' E' hP hT
  obtain⟨b,e,rfl⟩:=hb.get i v (by simpa using hP);simp only[e,Option.getD_some] at hT;exact fu hT
 ·intro h' tk hk
  have e2:((aJ its.toArray.size).all λi=>(bs[i]?).getD true)=bs.all id:=by
   rw[aG,hb.length];exact LSm.range_all bs
  rw[e2];exact⟨.bl _,H,I.kept (LSm.kept_iter hk),rfl,q⟩
def tyn (H:Hp):V→Option String
 | .non=>some "NoneType"
 | .bl _=>some "bool"
 | .int _=>some "int"
 | .str _=>some "str"
 | .ref a=>match H a with
  | some (.lst _)=>some "list"
  | some (.tup _)=>some "tuple"
  | some (.dK _)=>some "dict"
  | _=>none
 | _=>none
theorem TyOf.byName (h:tyn H v=some T):TyOf K H v (.type T):=by
 cases v with
 | non=>cases h;exact .non
 | bl b=>cases h;exact .bl b
 | int i=>cases h;exact .int i
 | str x=>cases h;exact .str x
 | ref a =>
  simp only[tyn] at h;cases e:H a with
  | none=>rw[e] at h;cases h
  | some o =>
   rw[e] at h;cases o <;> first | (cases h;first | exact .lst e | exact .tup e | exact .dK e) | cases h
 | _=>cases h
theorem kit_tuple (K:ai)(h:T∈["NoneType","bool","int","str","list","tuple","dict"]):PySem.W.kitOne K (.type T) (.type "tuple")=some (T == "tuple"):=by
 simp only[aE,cU,or_false] at h
 rcases h with rfl | rfl | rfl | rfl | rfl | rfl | rfl <;> kernel_rfl
theorem kit_int (K:ai)(h:T∈["NoneType","bool","int","str","list","tuple","dict"]):PySem.W.kitOne K (.type T) (.type "int")=some (T == "int" || T == "bool"):=by
 simp only[aE,cU,or_false] at h
 rcases h with rfl | rfl | rfl | rfl | rfl | rfl | rfl <;> kernel_rfl
theorem kit_bool (K:ai)(h:T∈["NoneType","bool","int","str","list","tuple","dict"]):PySem.W.kitOne K (.type T) (.type "bool")=some (T == "bool"):=by
 simp only[aE,cU,or_false] at h
 rcases h with rfl | rfl | rfl | rfl | rfl | rfl | rfl <;> kernel_rfl
theorem tyn_mem (h:tyn H v=some T):T∈["NoneType","bool","int","str","list","tuple","dict"]:=by
 cases v with
 | non=>cases h;simp
 | bl b=>cases h;simp
 | int i=>cases h;simp
 | str x=>cases h;simp
 | ref a =>
  simp only[tyn] at h;cases e:H a with
  | none=>rw[e] at h;cases h
  | some o =>
   rw[e] at h;cases o <;> first | (cases h;simp;done) | cases h
 | _=>cases h
theorem mR:ke X (.builtin "isinstance") (λxs H Q=>∃x n t b,xs=[x,.ty n]∧TyOf X.K H x t∧PySem.W.kitOne X.K t (.type n)=some b∧Q (.bl b) H):=by
 intro aR s σ H xs us Q I r h;obtain⟨x,n,t,b,rfl,ty,e,q⟩:=h;obtain⟨u,w',rfl,ru,rw'⟩:=vals2 r;cases(show w'=af.type n from rw');exact isinst_ok I ru ty e λtk=>⟨.bl b,H,I.tok tk,rfl,q⟩
theorem call_isTup:ke X (.builtin "isinstance") (λxs H Q=>∃x T,xs=[x,.ty "tuple"]∧tyn H x=some T∧Q (.bl (T == "tuple")) H) :=
 λaR s σ H xs us Q I r ⟨x,T,e,hT,q⟩=>mR aR s σ H xs us Q I r ⟨x,_,_,_,e,.byName hT,kit_tuple _ (tyn_mem hT),q⟩
theorem call_isInt:ke X (.builtin "isinstance") (λxs H Q=>∃x T,xs=[x,.ty "int"]∧tyn H x=some T∧Q (.bl (T == "int" || T == "bool")) H) :=
 λaR s σ H xs us Q I r ⟨x,T,e,hT,q⟩=>mR aR s σ H xs us Q I r ⟨x,_,_,_,e,.byName hT,kit_int _ (tyn_mem hT),q⟩
theorem call_isBool:ke X (.builtin "isinstance") (λxs H Q=>∃x T,xs=[x,.ty "bool"]∧tyn H x=some T∧Q (.bl (T == "bool")) H) :=
 λaR s σ H xs us Q I r ⟨x,T,e,hT,q⟩=>mR aR s σ H xs us Q I r ⟨x,_,_,_,e,.byName hT,kit_bool _ (tyn_mem hT),q⟩
inductive rCatA (K:ai)(x:V)(y:V)(H:Hp)(Q:VK):Prop
 | mk (a b xs ys:_)(_:x= .ref a)(_:y= .ref b)(_:H a=some (.tup xs))(_:H b=some (.tup ys))(_:xs.length+ys.length≤bo)(_:∀p H',bC H H'→H' p=some (.tup (xs++ys))→Q (.ref p) H')
theorem oo:OpR X (gY .Add) (rCatA X.K):=by
 intro aR s σ H x y v u Q I rx ry h;obtain⟨a,b,xs,ys,rfl,rfl,ha,hb,hz,q⟩:=h;cases xs with
 | cons x xs =>
  apply op_catT aR s σ H (.ref a) (.ref b) v u Q I rx ry ⟨a,b,_,ys,rfl,rfl,SqT.of ha,SqT.of hb,∅,hz,λe=>?_,λ_ p hp=>?_⟩
  ·subst e
   exact q a H (bC.refl H) (by rw[dH];exact ha)
  ·exact q p _ (λc o e=>by rw[bz (bx e hp)];exact e) aN
 | nil =>
  cases(show v=af.ref a from rx);cases(show u=af.ref b from ry);obtain⟨its,r1,p1,_⟩:=I.tuple (SqT.of (K:=X.K) ha);obtain⟨its2,r2,p2,_⟩:=I.tuple (SqT.of (K:=X.K) hb);cases r1;obtain⟨⟨c1,d1,t1,l1⟩,o1,k1,n1,g1⟩:=id p1;obtain⟨⟨c2,d2,t2,l2⟩,o2,k2,n2,g2⟩:=id p2;simp only at k1 g1 k2 g2;subst k1 g1 k2 g2;exact concat_meets ⟨_,o1,rfl⟩ ⟨_,o2,rfl⟩ noFill_tuple_add seq_tuple_add PySem.F.slot_tuple_add lH (kW _ _)
   (tuple_addW0 a b _ its2.toArray n1 n2 d1 d2 l1 l2 ∅) ⟨o1,o2,⟨.ref b,H,I,rfl,q b H (bC.refl H) hb⟩⟩
def gU (X:Cx)(scope:fN)(cl:List (Str×ak))(C:ak)(N:List Str)(s:aq)(H:Hp)(ex:List ak):Cx :=
 { X with N:=N,s₀:=s,H₀:=H,env:=compEnvC scope cl C X.env,outer:=X.stack,ex:=ex,fn:=λ_=>false,pn:=[],xe:=λ_ _=>False }
theorem mP (hf:∀y∈scope.names,y.2= .free→∃c,env.cells.lookup y.1=some c) :
  ∃cl,closureFor scope env=gf cl∧(∀x c,cl.lookup x=some c→env.cells.lookup x=some c)∧∀y∈scope.names,y.2= .free→cl.lookup y.1=env.cells.lookup y.1:=by
 have aux:∀(names:List (Str×cO)) (acc:List (Str×ak)),(∀y∈names,y.2= .free→∃c,env.cells.lookup y.1=some c)→(∀x c,acc.lookup x=some c→env.cells.lookup x=some c) →
   ∃ cl,(forIn names acc fun x r=>match x with
     | (name,kind)=>if (kind == cO.free)=true then (cellOf env name >>= fun c=>gf (ForInStep.yield ((name,c)::r))) else gf (ForInStep.yield r):Sem (List (Str×ak)))=gf cl ∧
    (∀x c,cl.lookup x=some c→env.cells.lookup x=some c)∧(∀x c,acc.lookup x=some c→cl.lookup x=some c)∧∀y∈names,y.2= .free→cl.lookup y.1=env.cells.lookup y.1:=by
  intro names
  induction names with
  | nil=>intro acc _ ha;exact⟨acc,rfl,ha,λ_ _ e=>e,λy hy=>rW hy ∅⟩
  | cons z r ih =>
   intro acc hn ha;obtain⟨n,k⟩:=z;have hr:∀y∈r,y.2= .free→∃c,env.cells.lookup y.1=some c:=λy hy=>hn y (aw _ hy)
   by_cases hk:k= .free
   ·subst hk
    obtain⟨c,hc⟩:=hn (n,.free) bt rfl;have hc:env.cells.lookup n=some c:=hc;have ha':∀x d,((n,c)::acc).lookup x=some d→env.cells.lookup x=some d:=λx d e=>by
     rw[dM] at e;cases hx:x == n with
     | true =>
      rw[hx] at e;have e':c=d:=cE e;have ex:x=n:=eq_of_beq hx;rw[ex,←e'];exact hc
     | false=>rw[hx] at e;exact ha x d e
    obtain⟨cl,e1,e2,e3,e4⟩:=ih ((n,c)::acc) hr ha';have jd:cellOf env n=gf c:=by unfold cellOf;rw[hc]
    apply⟨cl,?_,e2,λx d e=>?_,λy hy hy2=>?_⟩
    ·rw[List.forIn_cons]
     show((if (cO.free == cO.free)=true then (cellOf env n >>= λc=>gf (ForInStep.yield ((n,c)::acc))) else gf (ForInStep.yield acc)) >>= _)=_;rw[rV (by decide:(cO.free == cO.free)=true),jd];exact e1
    ·have h1:((n,c)::acc).lookup x=some (if x == n then c else d):=by
      rw[dM];cases hx:x == n with
      | true=>rfl
      | false=>exact e
     have h2:=e3 x _ h1;have h3:=e2 x _ h2;have h4:=ha x d e;rw[h3] at h4;rw[h2];exact h4
    ·rcases aE.mp hy with rfl | hy3
     ·have h1:((n,c)::acc).lookup n=some c:=by rw[dM,beq_self_eq_true]
      show cl.lookup n=_;rw[e3 n c h1,hc]
     ·exact e4 y hy3 hy2
   ·have hb:(k == cO.free)=false:=by simpa using hk
    obtain⟨cl,e1,e2,e3,e4⟩:=ih acc hr ha;apply⟨cl,?_,e2,e3,λy hy hy2=>?_⟩
    ·rw[List.forIn_cons]
     show((if (k == cO.free)=true then (cellOf env n >>= λc=>gf (ForInStep.yield ((n,c)::acc))) else gf (ForInStep.yield acc)) >>= _)=_;rw[hb];exact e1
    ·rcases aE.mp hy with rfl | hy3
     ·exact rW hy2 hk
     ·exact e4 y hy3 hy2
 obtain⟨cl,e1,e2,_,e4⟩:=aux scope.names [] hf λx c e=>by cases e
 apply⟨cl,Eq.trans ?_ e1,e2,e4⟩;unfold closureFor
 first
  | rfl
  | (simp only[bind_pure];done)
  | (simp only[bind_pure];rfl)
  | (simp only [bind_pure]
     congr 1
     funext x r
     obtain ⟨n,k⟩:=x;cases (k == cO.free) <;> rfl)
theorem oa {env:Env}:∀{names:List (Str×cO)} {x:Str} {k':cO},
  (names.map λ(n,k)=>if (k == cO.free && env.scope.kind == .function && env.kindOf n == some .cell) then (n,cO.cell) else (n,k)).lookup x=some k' →
  names.lookup x=some k'∨(names.lookup x=some .free∧k'= .cell)
 | [],_,_,h=>by simp at h
 | (n,k)::r,x,k',h=>by
  have ih:= @oa env r x k';rw[bX] at h;show eR x ((n,k)::r)=_∨(eR x ((n,k)::r)=_∧_);rw[dM]
  by_cases hq:(k == cO.free && env.scope.kind == .function && env.kindOf n == some .cell)=true
  ·have g:eR x ((if (k == cO.free && env.scope.kind == .function && env.kindOf n == some .cell)=true then (n,cO.cell) else (n,k))::_)=_:=h
   rw[rV hq,dM] at g;have hk:k= .free:=by
    rw[eh,eh] at hq;exact eq_of_beq hq.1.1
   cases hx:x == n with
   | true=>rw[hx] at g;rw[hk];exact .inr ⟨rfl,(cE g).symm⟩
   | false=>rw[hx] at g;exact ih g
  ·have g:eR x ((if (k == cO.free && env.scope.kind == .function && env.kindOf n == some .cell)=true then (n,cO.cell) else (n,k))::_)=_:=h
   rw[rT hq,dM] at g;cases hx:x == n with
   | true=>rw[hx] at g;exact .inl g
   | false=>rw[hx] at g;exact ih g
theorem oG {env:Env}(hk:env.scope.kind= .function){x:Str}(hx:env.kindOf x=some .cell):∀{names:List (Str×cO)},names.lookup x=some .free →
  (names.map λ(n,k)=>if (k == cO.free && env.scope.kind == .function && env.kindOf n == some .cell) then (n,cO.cell) else (n,k)).lookup x=some .cell
 | [],h=>by simp at h
 | (n,k)::r,h=>by
  have ih:= @oG env hk x hx r;show eR x ((if (k == cO.free && env.scope.kind == .function && env.kindOf n == some .cell)=true then (n,cO.cell) else (n,k))::_)=some cO.cell;rw[dM] at h;cases hxn:x == n with
  | true =>
   rw[hxn] at h;have ek:k= .free:=cE h;have en:x=n:=eq_of_beq hxn;subst ek en;rw[rV (by rw[hk,hx];rfl),dM,beq_self_eq_true]
  | false =>
   rw[hxn] at h
   by_cases hq:(k == cO.free && env.scope.kind == .function && env.kindOf n == some .cell)=true
   ·rw[rV hq,dM,hxn];exact ih h
   ·rw[rT hq,dM,hxn];exact ih h
def PTs (X:Cx)(ifs:List Expr)(t:TT):Prop :=
 ∀(aR:List (ak×Obj)) (s:aq) (σ:St) (H:Hp) (Q:Bool→Hp→Prop),Inv X aR σ H s→t σ H Q →
  bc (bE X.prog X.w) X.A (forIn ifs true λc r=>if r=true then do let ok ← isTrue c X.env (eG c X.env);gf (ForInStep.yield ok) else gf (ForInStep.yield r)) (TP X aR σ Q) X.xe s
def tNoIf:TT:=λ_ H Q=>Q true H
theorem eS {A B:Hp→Prop}(h:A H):tNoIf σ H λb H4=>if b=true then A H4 else B H4:=by
 show if true=true then A H else B H;rw[rV rfl];exact h
theorem fW:PTs X [] tNoIf:=λ_ _ _ H _ I h=>wpAny_tests_nil ⟨H,I,h⟩
theorem qi {c:Expr}{t:TT}(h:PT X c t):PTs X [c] t:=λaR s σ H Q I q=>wpAny_tests_one (h aR s σ H Q I q)
theorem HOk.take (x:HOk P w H h)(hn:H a=none)(new:jw P w (upd H a o) h a o):HOk P w (upd H a o) h:=λb u e=>by
 by_cases hb:b=a
 ·subst hb;rw[aN] at e;cases e;exact new
 ·rw[bz hb] at e
  exact(x b u e).stay (λ_ _ _ q=>q) (λc q=>by rw[bz (bx q hn)];exact q) λc xs q=>by rw[bz (bx q hn)];exact q
def dB (σ:St)(js:List Nat):St:=js.map λj=>(σ[j]?).getD none
def CompW (js:List Nat)(tt:TT)(te:TE)(σ:St)(Q:VK)(J:It)(H1:Hp):Prop:=∃W:Nat→Nat→List V→Hp→Prop,(∃m,W 0 m [] H1)∧∀i m ys H2,W i m ys H2 →
 (J.stop i H2∧∀D,H2 D=none→Q (.ref D) (upd H2 D (.lst ys))) ∨
 (J.go i H2∧ys.length<bo∧∃ N:List V→Hp→Prop,(∀ ys' H',N ys' H'→∃ m',m'<m∧W (i+1) m' ys' H')∧∀ x H3,J.yld i H2 x H3→tt (some x::dB σ js) H3 fun b H4 =>
  if b=true then te (some x::dB σ js) H4 fun y H5=>N (ys++[y]) H5 else N ys H4)
def tComp (wi:TI)(js:List Nat)(tt:TT)(te:TE):TE:=λσ H Q=>wi σ H λJ H1=>CompW js tt te σ Q J H1
abbrev lobj (us:List af)(n:Nat):Obj:={ cls:= .type "list",data:= .seq us.toArray n }
abbrev rQ (prog:aV)(w:bG)(A:bY)(env:Env)(R:Result→aq→Prop):af→aq→Prop:=notedBy (bE prog w) A env λx t=>R (.error x) t
theorem loop_any {it acc:af}(J:Nat→aq→Prop)
  (step:∀ k t,J k t→bc (bE prog w) A (pyNext it) (fun r t1=>match r with
   | none=>R (.ok .next) t1
   | some v=>bc (bE prog w) A (letOwnedTupleGo tg it v) (fun _ t2=>bc (bE prog w) A (assign tg env v) (fun _ t3 =>
     bc (bE prog w) A (forIn ifs true fun c b=>if b=true then do let z ← isTrue c env (eG c env);gf (ForInStep.yield z) else gf (ForInStep.yield b)) (fun z t4 =>
      if z=true then bc (bE prog w) A (eG elt env) (λy t5=>bc (bE prog w) A (call (.builtin "list.append") [acc,y]) (λ_ t6=>∃m,m<k∧J m t6) (rQ prog w A env R) t5) (rQ prog w A env R) t4
      else ∃ m,m<k∧J m t4) (rQ prog w A env R) t3) (rQ prog w A env R) t2) (rQ prog w A env R) t1) (rQ prog w A env R) t)
  (k:Nat) (h:J k s):jI (bE prog w) A (.compLoop (.ListComp elt [⟨tg,iter,ifs,0⟩] scope pos) 0 it acc env) R s:=by
 apply codeAny_loop rfl J (λk t hJ=>?_) k h;show bc _ A ((compTurn (.ListComp elt [⟨tg,iter,ifs,0⟩] scope pos) 0 it acc env).onRaise (λy=>do noteFrame y env;theTreesLotGoes y)) _ _ t;apply wpAny_noted ?_;rw[compTurn_list];apply ah (wpAny_standAt (ah (cy (step k t hJ) (λr t1 q1=>?_) λ_ _ f=>f)));cases r with
 | none=>exact aP q1
 | some v =>
  apply ah (cy q1 (λ_ t2 q2=>?_) λ_ _ f=>f);apply ah (cy q2 (λ_ t3 q3=>?_) λ_ _ f=>f);apply ah (cy q3 (λz t4 q4=>?_) λ_ _ f=>f);cases z with
  | false=>exact aP ⟨rfl,q4⟩
  | true=>exact ah (ah (cy q4 (λy t5 q5=>ah (cy q5 (λ_ t6 q6=>aP (aP ⟨rfl,q6⟩)) λ_ _ f=>f)) λ_ _ f=>f))
def rS (n:Nat)(g:TG)(js:List Nat)(tt:TT)(te:TE)(σ:St)(Q:VK)(J:It)(H1:Hp):Prop:=∃W:Nat→Nat→List V→Hp→Prop,(∃m,W 0 m [] H1)∧∀i m ys H2,W i m ys H2 →
 (J.stop i H2∧∀D,H2 D=none→Q (.ref D) (upd H2 D (.lst ys))) ∨
 (J.go i H2∧ys.length<bo∧∃ N:List V→Hp→Prop,(∀ ys' H',N ys' H'→∃ m',m'<m∧W (i+1) m' ys' H')∧∀ x H3,J.yld i H2 x H3→∀ v0:St,v0.length=n→g x (v0++dB σ js) H3 fun σ4 H4 =>
  (∃ v1:St,v1.length=n∧σ4=v1++dB σ js)∧tt σ4 H4 fun b H5=>if b=true then te σ4 H5 fun y H6=>N (ys++[y]) H6 else N ys H5)
def tCompT (wi:TI)(n:Nat)(g:TG)(js:List Nat)(tt:TT)(te:TE):TE:=λσ H Q=>wi σ H λJ H1=>rS n g js tt te σ Q J H1
theorem comp_core {Q:VK}{use:Option (af→Sem Unit)}{R:af→aq→Prop}{xs:List Str}
  (hc:X.calm=true) (hi:PI X tg iter wi)
  (jd:∀y∈scope.names,y.2≠ .cell) (mM:scope.kind= .function) (lX:∀y∈scope.names,y.2= .local→scope.names.lookup y.1=some .local)
  (hfr:∀y∈scope.names,y.2= .free→X.env.scope.names.lookup y.1=some .cell) (hjs:js.map (λj=>X.N[j]?)=fr.map some) (hfv:∀y∈fr,scope.names.lookup y=some .free)
  (hg:∀cl C s' H' ex,PG (gU X scope cl C (xs++fr) s' H' ex) tg g)
  (hb:∀cl C s' H' ex,PE (gU X scope cl C (xs++fr) s' H' ex) elt te∧PTs (gU X scope cl C (xs++fr) s' H' ex) ifs tt)
  (hCW:∀σ Q J H1,CW σ Q J H1→rS xs.length g js tt te σ Q J H1) (I:Inv X aR σ H s) (h:wi σ H λJ H1=>CW σ Q J H1)
  (fin:∀(s4:aq) (H5:Hp) (D C:ak) (mC:Str→Option af),s4.heap.Ns C mC→Inv X aR σ H5 s4→H5 C=none→C≠X.env.locals→C ∉ X.fs→(∀p∈X.pn++aR,p.1≠C)→(∀y c,X.env.cells.lookup y=some c→c≠C)→X.s₀.heap.objs.size≤C→Q (.ref D) H5→compPost (bE X.prog X.w) X.A X.xe use R (.ref D) C (.ok .next) s4)
  (hs:∀z,gX iter X.env z=gf z:=by intro _;rfl) :
  bc (bE X.prog X.w) X.A (comprehension (.ListComp elt [⟨tg,iter,ifs,0⟩] scope pos) scope X.env pos' (newList []) false (eG iter X.env) use) R X.xe s:=by
 have hXk:X.env.scope.kind= .function:=I.ok.kind;obtain⟨cl,hclos,c1,c2⟩:=mP (scope:=scope) (env:=X.env) λy hy hk=>I.ok.has _ (.inl (hfr y hy hk))
 apply wpAny_comprehension_free rfl hs hclos mM lX (thn (hi aR s σ H _ I h) λxv s1 h1=>thn h1 λitv s2 h2=>?_);obtain⟨it,fp,tn,J,H2,rfl,I2,T,st2,f2,hcw⟩:=h2;obtain⟨W,⟨m0,w0⟩,turn⟩:=hCW _ _ _ _ hcw;apply fv (wpAny_newFunctionEnv jd (by intro y hy;simp at hy) (λhA nsA sbA=>?_) mM)
 dsimp only at nsA sbA ⊢
 generalize hG:s2.heap.push { cls:= .type "list",dict:=none,data:= .seq ([]:List af).toArray }=G at nsA sbA ⊢;have hC:G.objs.size=s2.heap.objs.size+1:=by rw[←hG,gq]
 have hDC:s2.heap.objs.size≠G.objs.size:=by rw[hC];exact bL (ka _)
 have small:∀b o,s2.heap.get? b=some o→b≠G.objs.size∧b≠s2.heap.objs.size:=λb o e=>⟨by rw[hC];exact bL (iU (aO e)),bL (aO e)⟩
 have old:∀b o,s2.heap.get? b=some o→hA.get? b=some o:=λb o e=>sbA.extBut b o (small b o e).1 (au _ (hG ▸ au _ e))
 have hDA:hA.get? s2.heap.objs.size=some (lobj [] 0):=sbA.extBut _ _ hDC (au _ (hG ▸ aW _ rfl));have fpo:∀b∈fp,∃o,s2.heap.get? b=some o:=λb hb=>let ⟨o,e,_⟩:=T.obj _ _ st2 b hb;⟨o,e⟩
 have celo:∀y c,cl.lookup y=some c→∃o,s2.heap.get? c=some o:=λy c e=>let ⟨_,o,ho,_⟩:=I2.cell y c (c1 y c e);⟨o,ho⟩
 have ok':(gU X scope cl G.objs.size (xs++fr) s2 H2 fp).Ok:=by
  apply⟨I2.ok.mod,mM,I2.ok.glob,I2.ok.blt,?_,λa b c e1 e2=>I2.ok.inj a b c (c1 a c e1) (c1 b c e2),λy hy=>?_,λ_ _ z=>rW z (by intro q;cases q),I2.ok.hd,I2.ok.frames,.inl rfl,λb hb=>?_,I2.bs,bj I2.ok.bsz I2.sz,λb o e hb=>?_,λb hb hz=>?_,I2.stack,I2.stkFree⟩
  ·show s2.heap.objs.size≤G.objs.size
   rw[hC];exact kt _
  ·have hy:(relabel scope X.env).names.lookup y=some .cell∨(relabel scope X.env).names.lookup y=some .free:=hy
   have key:scope.names.lookup y=some .free:=by
    rcases hy with hy | hy
    ·rcases oa hy with q | ⟨q,_⟩
     ·exact rW rfl (jd _ (cB q))
     ·exact q
    ·rcases oa hy with q | ⟨q,_⟩
     ·exact q
     ·exact q
   have hm:=cB key;obtain⟨c,e⟩:=I.ok.has y (.inl (hfr _ hm rfl));exact⟨c,(c2 _ hm rfl).trans e⟩
  ·obtain⟨o,e⟩:=fpo b hb
   exact⟨(small b o e).1,λy c q=>(f2 b hb).2.2.2.2.1 y c (c1 y c q)⟩
  ·obtain⟨_,_,_,f3,_⟩:=f2 b hb
   rcases f3 with f3 | f3
   ·exact I2.ok.noex b o e f3
   ·exact rW (aU (aO e) (bj I2.ok.bsz f3)) (gj _)
  ·obtain⟨_,n1,n2,_⟩:=f2 b hb
   exact(aE.mp (I2.stkSub b hz)).elim n1 n2
 have nofs:s2.heap.objs.size ∉ frs X.stack:=λhz=>by
  obtain⟨_,o,ho,_⟩:=I2.stack.mem hz;exact gj _ (aO ho)
 have lenB:(dB σ js).length=fr.length:=by
  have e:=sd List.length hjs;rw[aa,aa] at e;unfold dB;rw[aa];exact e
 have start':∀t,Inv (gU X scope cl G.objs.size (xs++fr) s2 H2 fp) [(s2.heap.objs.size,lobj [] 0)] ((xs.map λ_=>none)++dB σ js) H2 { s2 with heap:=hA,toks:=t }:=λt=>by
  apply⟨ok',rfl,I2.bare,Un.kept old,⟨_,nsA,λi y v e1 e2 e3=>?_⟩,λy c e=>?_,I2.hok.fresh (by rw[hC];exact kt _),λy c e=>I2.freeC y c (c1 y c e),λp hp=>?_,I2.hok.kept old,?_⟩
  ·by_cases hix:i<xs.length
   ·rw[eC (by rw[aa];exact hix),ar,gE hix] at e2
    cases e2
   ·obtain⟨i,rfl⟩:∃j,i=xs.length+j:=⟨i - xs.length,⋯⟩
    have e1:(xs++fr)[xs.length+i]? =some y:=e1;have e1:fr[i]? =some y:=by rw[bT ⋯,show xs.length+i - xs.length=i by lia] at e1;exact e1
    have e2:(dB σ js)[i]? =some (some v):=by rw[bT (by rw[aa];lia),aa,show xs.length+i - xs.length=i by lia] at e2;exact e2
    unfold dB at e2;rw[ar] at e2;obtain⟨j,ej,e2⟩:=br.mp e2;have hN:X.N[j]? =some y:=by
     have q:=sd (λl=>l[i]?) hjs;simp only[ar,ej,e1,gC] at q;exact cE q
    have hσ:σ[j]? =some (some v):=by
     cases z:σ[j]? with
     | none=>rw[z] at e2;cases e2
     | some w=>rw[z] at e2;exact sd some e2
    have hfree:=hfv y (bp e1);have hm:=cB hfree;have hce:X.env.scope.names.lookup y=some .cell:=hfr _ hm rfl;obtain⟨m,_,hl⟩:=I2.loc;obtain⟨u,ru,look⟩:=hl j y v hN hσ (.inr (.inl hce));apply⟨u,ru,.inr ⟨.inl (oG hXk hce hfree),?_⟩⟩
    rcases look with ⟨k,_⟩ | ⟨_,c,ec,ho⟩
    ·have k:X.env.scope.names.lookup y=some .local:=k
     rw[hce] at k;cases k
    ·obtain⟨o,ho,hd⟩:=ho
     exact⟨c,(c2 _ hm rfl).trans ec,o,old c o ho,hd⟩
  ·obtain⟨v,o,ho,hd⟩:=I2.cell y c (c1 y c e)
   exact⟨v,o,old c o ho,hd⟩
  ·have hp:p∈[(s2.heap.objs.size,lobj [] 0)]:=hp
   have e:=ay.mp hp;subst e;exact⟨hDA,I2.hok.fresh (aC _),hDC,nofs,λv z=>by cases z⟩
  ·show((xs.map λ_=>none)++dB σ js).length=(xs++fr).length
   rw[av,av,aa,lenB]
 have fok:∀{us:List af} {n:Nat} {H':Hp},(∀b∈fp,H' b=none)→∀b∈fp,FpOk (gU X scope cl G.objs.size (xs++fr) s2 H2 fp) [(s2.heap.objs.size,lobj us n)] H' b:=λ{us n H'} hn b hb=>by
  obtain⟨o,e⟩:=fpo b hb;apply⟨hn b hb,(small b o e).1,λhz=>(aE.mp (I2.stkSub b hz)).elim (f2 b hb).2.1 (f2 b hb).2.2.1,.inl hb,λy c q=>(f2 b hb).2.2.2.2.1 y c (c1 y c q),λp hp=>?_⟩;have hp:p∈[(s2.heap.objs.size,lobj us n)]:=hp;have ep:=ay.mp hp;subst ep;exact λz=>(small b o e).2 z.symm
 have loop:∀sB:aq,(∃t,sB={ s2 with heap:=hA,toks:=t }) →
   jI (bE X.prog X.w) X.A (.compLoop (.ListComp elt [⟨tg,iter,ifs,0⟩] scope pos) 0 (.ref it) (.ref s2.heap.objs.size) (compEnvC scope cl G.objs.size X.env))
    (compPost (bE X.prog X.w) X.A X.xe use R (.ref s2.heap.objs.size) G.objs.size) sB:=by
  rintro sB ⟨t,rfl⟩;apply loop_any (λk s'=>∃i ys us n v0 H',v0.length=xs.length∧Inv (gU X scope cl G.objs.size (xs++fr) s2 H2 fp) [(s2.heap.objs.size,lobj us n)] (v0++dB σ js) H' s'∧gw ys us∧ys.length≤bo∧tn i s'.heap∧(∀b∈fp,H' b=none)∧W i k ys H') ?_ m0
   ⟨0,[],[],0,xs.map λ_=>none,H2,aa ..,start' t,.nil,bK _,T.keep _ _ _ st2 λb hb o e=>old b o e,λb hb=>(f2 b hb).1,w0⟩
  rintro k s3 ⟨i,ys,us,n,v0,H3,hv0,I3,rv,hlen,st3,fr3,w3⟩
  rcases turn i k ys H3 w3 with ⟨stop,qn⟩ | ⟨go,hlt,N',hN',step⟩
  ·apply thn (T.done (gU X scope cl G.objs.size (xs++fr) s2 H2 fp) rfl rfl rfl hc i _ s3 _ H3 _ I3 (fok fr3) st3 stop) λr s4 ⟨hr,I4⟩=>?_
   subst hr;obtain⟨mC,hnC,_⟩:=id I4.loc;obtain⟨pD,nD,_,_,_⟩:=I4.pin (s2.heap.objs.size,lobj us n) (by show _∈[]++[_];simp);have pD:s4.heap.get? s2.heap.objs.size=some (lobj us n):=pD;have nD:H3 s2.heap.objs.size=none:=nD;have nC:H3 G.objs.size=none:=I4.free;have D2:∀b o,s2.heap.get? b=some o→b≠s2.heap.objs.size:=λb o e=>(small b o e).2
   have base4:Un (frs X.stack) fp H2 H3 s2.heap s4.heap:=I4.base;have u4:Un (frs X.stack) fp H2 (upd H3 s2.heap.objs.size (.lst ys)) s2.heap s4.heap :=
    {keep:=base4.keep
     slot:=base4.slot
     free:=λb o e nb hx'=>by rw[bz (D2 b o e)];exact base4.free b o e nb hx'
     there:=base4.there
     tups:=λb xs e=>by have q:=base4.tups b xs e;rw[bz (bx q nD)];exact q
     frzs:=λb o u e=>by have q:=base4.frzs b o u e;rw[bz (bx q nD)];exact q
     tbls:=fun b ps e=>by obtain ⟨more,q⟩:=base4.tbls b ps e;exact ⟨more,by rw [bz (bx q nD)];exact q⟩ }
   have I5:Inv X aR σ (upd H3 s2.heap.objs.size (.lst ys)) s4:=I2.call' (s':=s4) (ch:=fp) I4.os u4 (I4.hok.take nD ⟨hlen,us,n,rv,pD⟩) I4.bare λb hb=>by
    obtain⟨_,g1,_,g3,g4,g5⟩:=f2 b hb;exact⟨g3,g1,g4,g5⟩
   have locC:G.objs.size≠X.env.locals:=λz=>by
    obtain⟨_,⟨o,_,_,ho,_⟩,_⟩:=id I2.loc;exact(small _ o ho).1 z.symm
   have fsC:G.objs.size ∉ X.fs:=λhz=>by
    obtain⟨_,o,ho,_⟩:=I2.ok.funs.mem hz;have:=aU (aO ho) I2.sz;rw[hC] at this;exact gj _ (Nat.lt_of_succ_lt this)
   have pinX:∀p∈X.pn++aR,p.1≠G.objs.size:=λp hp=>(small _ _ (I2.pin p hp).1).1
   have nCu:(upd H3 s2.heap.objs.size (.lst ys)) G.objs.size=none:=by rw[bz (cx hDC)];exact nC
   apply fin s4 _ _ _ mC hnC I5 nCu locC fsC pinX (λy c q z=>?_) (bj I2.sz (by rw[hC];exact kt _)) (qn _ nD);obtain⟨v,o,ho,_⟩:=I2.cell y c q;exact(small c o ho).1 z
  ·apply thn (T.item (gU X scope cl G.objs.size (xs++fr) s2 H2 fp) rfl rfl rfl hc i _ s3 _ H3 _ I3 (fok fr3) st3 go) λr s4 ⟨u,hr,h4⟩=>?_
   subst hr;apply thn h4 λ_ s5 ⟨v,H5,I5,r5,y5,st5,fr5⟩=>?_
   have I5':=I5.pinned (fok fr5) (T.obj _ _ st5);apply cy (hg cl G.objs.size s2 H2 fp _ s5 _ H5 v u _ I5' r5 (step v H5 y5 v0 hv0)) (λ_ s6 ⟨σ6,H6,I6,⟨w1,hw1,e6⟩,q6⟩=>?_) λ_ _ f=>f.elim
   subst e6;apply cy ((hb cl G.objs.size s2 H2 fp).2 _ s6 _ H6 _ I6 q6) (λb s7 ⟨H7,I7,q7⟩=>?_) λ_ _ f=>f.elim
   have back:∀{s8:aq} {H8:Hp},Inv (gU X scope cl G.objs.size (xs++fr) s2 H2 fp) ([(s2.heap.objs.size,lobj us n)]++pinsAt fp s5.heap) (w1++dB σ js) H8 s8→tn (i+1) s8.heap∧∀b∈fp,H8 b=none:=λ{s8 H8} I8=>by
    apply⟨T.keep _ _ _ st5 λb hb o e=>(I8.pin (b,o) (az _ (az _ (md hb e)))).1,λb hb=>?_⟩;obtain⟨o,e,_⟩:=T.obj _ _ st5 b hb;exact(I8.pin (b,o) (az _ (az _ (md hb e)))).2.1
   cases b with
   | false =>
    obtain⟨m',hm,w7⟩:=hN' _ _ q7;obtain⟨t7,n7⟩:=back I7;exact⟨m',hm,i+1,ys,us,n,w1,H7,hw1,I7.unpinned,rv,hlen,t7,n7,w7⟩
   | true =>
    apply cy ((hb cl G.objs.size s2 H2 fp).1 _ s7 _ H7 _ I7 q7) (λy' s8 ⟨y,H8,I8,r8,q8⟩=>?_) λ_ _ f=>f.elim
    obtain⟨m',hm,w8⟩:=hN' _ _ q8;obtain⟨t8,n8⟩:=back I8;have I8':=I8.unpinned;obtain⟨pD,nD,_,_,_⟩:=I8'.pin (s2.heap.objs.size,lobj us n) (by show _∈[]++[_];simp);have pD:s8.heap.get? s2.heap.objs.size=some (lobj us n):=pD;have nD:H8 s2.heap.objs.size=none:=nD;apply append_at pD (λh9 hs9 e9=>?_) (by rw[aG,←rv.length];exact hlen);have e9:h9.get? s2.heap.objs.size=some (lobj (us++[y']) (n+1)):=by rw[e9];simp[lobj]
    have J0:Inv (gU X scope cl G.objs.size (xs++fr) s2 H2 fp) [] (w1++dB σ js) H8 s8:=I8'.pins_of λp hp=>rW hp ∅
    have J9:Inv (gU X scope cl G.objs.size (xs++fr) s2 H2 fp) [] (w1++dB σ js) H8 { s8 with heap:=h9,toks:=s8.toks } :=
     J0.turned (it:=s2.heap.objs.size) (fun b o hb' e=>hs9.extBut b o hb' e) nD hDC (.inr (aC _)) (fun y0 c q z=>by
      obtain ⟨o,e⟩:=celo y0 c q;exact (small c o e).2 z) fun p hp=>rW (show p∈([]:List (ak×Obj)) from hp) ∅
    apply ⟨m',hm,i+1,ys++[y],us++[y'],n+1,w1,H8,hw1,J9.pins_of fun p hp=>?_,rv.append (.cons r8 .nil),(by rw [av,iF];exact hlt),T.keep _ _ _ t8 fun b hb' o e=>hs9.extBut b o (by
     obtain ⟨o',e'⟩:=fpo b hb';exact (small b o' e').2) e,n8,w8⟩
    have ep:=ay.mp hp;subst ep;exact⟨e9,nD,hDC,nofs,λv z=>by cases z⟩
 exact codeAny_compStart_list (loop _ ⟨_,rfl⟩) (T.self _ 0 _ _ _ (T.keep _ _ _ st2 λb hb o e=>old b o e) (loop _ ⟨_,rfl⟩))
theorem pe_compC {xs:List Str}
  (hc:X.calm=true) (hi:PI X tg iter wi)
  (jd:∀y∈scope.names,y.2≠ .cell) (mM:scope.kind= .function) (lX:∀y∈scope.names,y.2= .local→scope.names.lookup y.1=some .local)
  (hfr:∀y∈scope.names,y.2= .free→X.env.scope.names.lookup y.1=some .cell) (hjs:js.map (λj=>X.N[j]?)=fr.map some) (hfv:∀y∈fr,scope.names.lookup y=some .free)
  (hg:∀cl C s' H' ex,PG (gU X scope cl C (xs++fr) s' H' ex) tg g)
  (hb:∀cl C s' H' ex,PE (gU X scope cl C (xs++fr) s' H' ex) elt te∧PTs (gU X scope cl C (xs++fr) s' H' ex) ifs tt)
  (hCW:∀σ Q J H1,CW σ Q J H1→rS xs.length g js tt te σ Q J H1) (hs:∀z,gX iter X.env z=gf z:=by intro _;rfl) :
  PE X (.ListComp elt [⟨tg,iter,ifs,0⟩] scope pos) (λσ H Q=>wi σ H λJ H1=>CW σ Q J H1):=by
 intro aR s σ H Q I h;rw[eval_ListComp];exact comp_core (use:=none) (R:=EP X aR σ Q) hc hi jd mM lX hfr hjs hfv hg hb hCW I h (λs4 H5 D C mC n I5 nC lC fC pC cC sC q=>⟨mC,n,λh' hsb=>⟨.ref D,H5,I5.turned (t':=s4.toks) (it:=C) (λb o hb' e=>hsb.extBut b o hb' e) nC lC (.inr sC) cC pC,rfl,q⟩⟩) hs
theorem compW_T {Q:VK}{J:It}(h:CompW js tt te σ Q J H1):rS 1 (oR 0) js tt te σ Q J H1:=by
 obtain⟨W,w0,turn⟩:=h;apply⟨W,w0,λi m ys H2 hw=>?_⟩
 rcases turn i m ys H2 hw with h | ⟨h1,h2,N,h3,h4⟩
 ·exact .inl h
 ·apply .inr ⟨h1,h2,N,h3,λx H3 hy v0 hv=>?_⟩
  obtain⟨w,rfl⟩:∃w,v0=[w]:=by
   obtain _ | ⟨w,v0⟩:=v0
   ·cases hv
   ·obtain _ | ⟨z,v0⟩:=v0
    ·exact⟨w,rfl⟩
    ·cases hv
  exact⟨⟨[some x],rfl,rfl⟩,h4 x H3 hy⟩
theorem gm {px:Pos}
  (hc:X.calm=true) (hi:PI X (.Name x px) iter wi)
  (jd:∀y∈scope.names,y.2≠ .cell) (mM:scope.kind= .function) (lX:∀y∈scope.names,y.2= .local→scope.names.lookup y.1=some .local) (hx:scope.names.lookup x=some .local)
  (hfr:∀y∈scope.names,y.2= .free→X.env.scope.names.lookup y.1=some .cell) (hnd:(x::fr).Nodup) (hjs:js.map (λj=>X.N[j]?)=fr.map some) (hfv:∀y∈fr,scope.names.lookup y=some .free)
  (hb:∀cl C s' H' ex,PE (gU X scope cl C (x::fr) s' H' ex) elt te∧PTs (gU X scope cl C (x::fr) s' H' ex) ifs tt)
  (hs:∀z,gX iter X.env z=gf z:=by intro _;rfl) :
  PE X (.ListComp elt [⟨.Name x px,iter,ifs,0⟩] scope pos) (tComp wi js tt te) :=
 pe_compC (xs:=[x]) (g:=oR 0) hc hi jd mM lX hfr hjs hfv (λ_ _ _ _ _=>oj hnd rfl (.inl (fc hx)) (.inr (fc hx))) hb (λ_ _ _ _ h=>compW_T h) hs
theorem iJ {Q:VK}(Pv:Nat→List V→Hp→Prop)(h0:Pv 0 [] H)(hl:∀i ys H,i≤xs.length→Pv i ys H→SqT K H a xs∧ys.length≤i)(hz:xs.length≤bo)
  (hs:∀i x ys H,xs[i]? =some x→Pv i ys H→tt (some x::dB σ js) H λb H4=>if b=true then te (some x::dB σ js) H4 λy H5=>Pv (i+1) (ys++[y]) H5 else Pv (i+1) ys H4)
  (hd:∀ys H,Pv xs.length ys H→∀D,H D=none→Q (.ref D) (upd H D (.lst ys))):CompW js tt te σ Q (Itt K a) H:=by
 apply⟨λi m ys H=>i≤xs.length∧m=xs.length - i∧Pv i ys H,⟨_,bK _,rfl,h0⟩,λi m ys H2 ⟨hi,hm,hp⟩=>?_⟩;obtain⟨hq,hy⟩:=hl i ys H2 hi hp
 by_cases e:i=xs.length
 ·subst e
  exact .inl ⟨⟨xs,hq,aC _⟩,hd ys H2 hp⟩
 ·have hlt:i<xs.length:=gu hi e
  apply .inr ⟨⟨xs,_,hq,gE hlt⟩,⋯,Pv (i+1),λys' H' hp'=>⟨xs.length - (i+1),⋯,⋯,rfl,hp'⟩,λx H3 hy3=>?_⟩;obtain⟨e3,hx⟩:=hy3;subst e3;exact hs i x ys H3 (hx xs hq) hp
theorem nextT_item {j t:ak}{its}{v:af}(jt:s.heap.IsTupleIter j t i)(tt:s.heap.IsTuple t its)(hv:its[i]? =some v)
  (q:∀g,g.IsTupleIter j t (i+1)→d9 j s.heap g→Q v { s with heap:=g }):bc (bE prog w) A (cZ (.ref j)) Q E s:=by
 obtain⟨ob,e1,e2,e3⟩:=id jt;obtain⟨ot,g1,_,k,g2⟩:=tt;unfold cZ;apply ah (gi (name:=dt "__next__") jt.typeIs ji (ik ji jt.typeIs F.entry_tuple_iterator_next ?_ (F.args_tuple_iterator_next_1 _)));show bc _ _ (field (.ref j) 0 >>= _) _ _ s;apply ah (e8 e1 e3 (x:= .ref t) rfl ?_);show bc _ _ (ite ((af.ref t == af.none)=true) _ _) _ _ s;rw[rT (λz:(af.ref t == af.none)=true=>aS z)];show bc _ _ (field (.ref j) 1 >>= _) _ _ s;apply ah (e8 e1 e3 (x:= .int i 0) rfl ?_);show bc _ _ (seqItems? (.ref t) >>= _) _ _ s;apply ah (fZ g1 g2 ?_);simp only[cM,hv];apply ah (wpAny_setField e1 e3 ∅ (aP ⟨v,rfl,aP (q _ ?_ (gF ..))⟩));exact⟨_,bO.get?_update_self _ e1 (Obj.isFreed_of_fields (Obj.data_mapFields e3 _)),(Obj.cls_mapFields ..).trans e2,by rw[Obj.data_mapFields e3];simp[rawInt]⟩
theorem nextT_end {j t:ak}{its}(hh:A.handled=none)(jt:s.heap.IsTupleIter j t i)(tt:s.heap.IsTuple t its)(hv:its[i]? =none)
  (q:∀g x,bO.ExtBut j s.heap g→(∃o,g.get? x=some o∧o.cls= .type "StopIteration")→E (.ref x) { s with heap:=g }):bc (bE prog w) A (cZ (.ref j)) Q E s:=by
 obtain⟨ob,e1,e2,e3⟩:=id jt;obtain⟨ot,g1,_,k,g2⟩:=tt;unfold cZ;apply ah (gi (name:=dt "__next__") jt.typeIs ji (ik ji jt.typeIs F.entry_tuple_iterator_next ?_ (F.args_tuple_iterator_next_1 _)));show bc _ _ (field (.ref j) 0 >>= _) _ _ s;apply ah (e8 e1 e3 (x:= .ref t) rfl ?_);show bc _ _ (ite ((af.ref t == af.none)=true) _ _) _ _ s;rw[rT (λz:(af.ref t == af.none)=true=>aS z)];show bc _ _ (field (.ref j) 1 >>= _) _ _ s;apply ah (e8 e1 e3 (x:= .int i 0) rfl ?_);show bc _ _ (seqItems? (.ref t) >>= _) _ _ s;apply ah (fZ g1 g2 ?_);simp only[cM,hv];apply ah (wpAny_rule (ah (wpAny_setField e1 e3 ∅ ?_)));show bc _ _ (newExc (.type "StopIteration") [] >>= _) _ _ _;apply ah ?_;simp only[newExc,newTuple];apply ah (fv ?_ (by size_fits));apply ah (m:=firstArgMember _ _) (wpAny_of_eq (a:=af.none) (by first | rfl | (unfold firstArgMember;rfl)) ?_);apply fv ?_ (by size_fits);simp only[raiseNew];apply ah (wpAny_handled ?_)
 first | rw[show A.in1.handled=none from hh] | rw[hh]
 exact ah (aP (wpAny_throw (q _ _ (((gF ..).extBut.push _).push _) ⟨_,aW _ rfl,rfl⟩)))
theorem Inv.turnAll {g:bO}(I:Inv X aR σ H s)(hf:∀b∈ch,FpOk X aR H b)
  (k:∀b o,b ∉ ch→s.heap.get? b=some o→g.get? b=some o) (hH:∀b u,H b=some u→H' b=some u) (hN:∀b o,s.heap.get? b=some o→H b=none→H' b=none) (hok:HOk X.prog X.w H' g):Inv X aR σ H' { s with heap:=g }:=by
 apply I.step (g':=s.gens) (d':=s.drawn) (t':=s.toks) (ch:=ch) (λb hb=>?_) (λb o _ _ hc e _=>k b o hc e) (λb o _ _ hc e _=>⟨o.slots,k b o hc e⟩) (λb o _ e n=>hN b o e n)
  (λb o hc e=>⟨o,k b o hc e⟩) (λb xs e=>hH b _ e) (λb o u e=>hH b _ e) (λb ps e=>⟨#[],by rw[hH b _ e];simp⟩) (λm hm=>?_) hok I.bare
 ·obtain⟨_,f1,_,f3,f4,f5⟩:=hf b hb
  exact⟨f3,f1,f4,f5⟩
 ·obtain⟨o,es,ep,ho,r⟩:=hm
  exact⟨o,es,ep,k _ o (λhb=>(hf _ hb).2.1 rfl) ho,r⟩
theorem bC.put (e:bC H H1){p:ak}(h:H1 p=none):bC H (upd H1 p o):=λb u q=>by rw[bz (bx (e b u q) h)];exact e b u q
theorem Inv.big (I:Inv X aR σ H s):jP<s.heap.objs.size:=by
 have h:bS<s.heap.objs.size:=(I.mod.glob.keeps I.bk).lt;exact jV ↥0 h
theorem dk_empty (h:bO)(hb:jP<h.objs.size):jw P w H (h.push { cls:= .type "dict",data:= .dict #[] }) h.objs.size (.dK []) :=
 ⟨bK _,beq_eq_false_iff_ne.mpr (cx (bL hb)),[],.nil,bO.DictOf.new h⟩
def tDNewK:TE:=λ_ H Q=>∀p,H p=none→Q (.ref p) (upd H p (.dK []))
theorem pe_dnewK:PE X (.Dict [] [] pos) tDNewK:=λaR s σ H Q I h =>
 wpAny_Dict_empty ⟨.ref s.heap.objs.size,_,I.laid (a:=s.heap.objs.size) (o:= .dK []) (t':=s.toks) (λ_ _ q=>au _ q) (aC _) (dk_empty s.heap I.big),rfl,h _ (I.hok.fresh (aC _))⟩
theorem PE.imp {t t':TE}(h:PE X e t)(i:∀σ H Q,t' σ H Q→t σ H Q):PE X e t':=λaR s σ H Q I q=>h aR s σ H Q I (i σ H Q q)
theorem OpR.imp {f:af→af→Sem af}{r r':R2}(h:OpR X f r)(i:∀x y H Q,r' x y H Q→r x y H Q):OpR X f r':=λaR s σ H x y v u Q I rx ry q=>h aR s σ H x y v u Q I rx ry (i x y H Q q)
theorem ke.imp {f:af}{r r':List V→Hp→VK→Prop}(h:ke X f r)(i:∀xs H Q,r' xs H Q→r xs H Q):ke X f r':=λaR s σ H xs us Q I rv q=>h aR s σ H xs us Q I rv (i xs H Q q)
def tACut (t:TA):TA:=λσ H R=>∃R':List V→Hp→Prop,(∀xs H,R' xs H→R xs H)∧t σ H R'
theorem PA.cut (h:PA X es t):PA X es (tACut t):=λpos aR s σ H Q I ⟨R',i,q⟩ =>
 thn (h pos aR s σ H R' I q) λus s' ⟨vs,H',I',rv,q'⟩=>⟨vs,H',I',rv,i _ _ q'⟩
def New (H:Hp)(o:HO)(Q:VK):Prop:=∀p H',bC H H'→H' p=some o→Q (.ref p) H'
theorem New.of {Q:VK}(h:New H o Q):∀p,H p=none→Q (.ref p) (upd H p o):=λp hp=>h p _ (bC.put (bC.refl H) hp) aN
def tTupA (t:TA):TE:=λσ H Q=>t σ H λxs H1=>xs.length≤bo∧New H1 (.tup xs) Q
def tLstA (t:TA):TE:=λσ H Q=>t σ H λxs H1=>xs.length≤bo∧New H1 (.lst xs) Q
theorem dh {x1}(h:PA X es t):PE X (.Tuple es x1 pos) (tTupA t):=(pe_tup h.cut).imp λ_ _ _ q=>⟨_,λ_ _ z=>⟨z.1,z.2.of⟩,q⟩
theorem pe_lstA (h:PA X es t):PE X (.List es pos) (tLstA t):=(i5 h.cut).imp λ_ _ _ q=>⟨_,λ_ _ z=>⟨z.1,z.2.of⟩,q⟩
theorem op_catL:OpR X (gY .Add) (λx y H Q=>∃l b xs zs,x= .ref l∧y= .ref b∧H l=some (.lst xs)∧H b=some (.lst zs)∧xs.length+zs.length≤bo∧New H (.lst (xs++zs)) Q) :=
 op_cat.imp λ_ _ _ _ ⟨l,b,xs,zs,e1,e2,e3,e4,e5,q⟩=>⟨l,b,xs,zs,e1,e2,e3,e4,e5,q.of⟩
inductive Dt where
 | non | bl (b:Bool) | int (i:Int) | str (x:Str) | tup (ds:List Dt) | oth (T:String)
mutual
inductive IsD (H:Hp):V→Dt→Prop where
 | non:IsD H .non .non
 | bl (b:Bool):IsD H (.bl b) (.bl b)
 | int (i:Int):IsD H (.int i) (.int i)
 | str (x:Str):IsD H (.str x) (.str x)
 | tup {a:ak} {xs:List V} {ds:List Dt} (h:H a=some (.tup xs)) (r:dW H xs ds):IsD H (.ref a) (.tup ds)
 | lst {a:ak} {xs:List V} (h:H a=some (.lst xs)):IsD H (.ref a) (.oth "list")
 | dct {a:ak} {kvs:List (Key×V)} (h:H a=some (.dK kvs)):IsD H (.ref a) (.oth "dict")
inductive dW (H:Hp):List V→List Dt→Prop where
 | nil:dW H [] []
 | cons {x:V} {d:Dt} {xs:List V} {ds:List Dt} (h:IsD H x d) (r:dW H xs ds):dW H (x::xs) (d::ds)
end
mutual
theorem IsD.same {H H':Hp}(e:bC H H'):∀{v:V} {d:Dt},IsD H v d→IsD H' v d
 | _,_,.non=> .non
 | _,_,.bl b=> .bl b
 | _,_,.int i=> .int i
 | _,_,.str x=> .str x
 | _,_,.tup h r=> .tup (e _ _ h) (dW.same e r)
 | _,_,.lst h=> .lst (e _ _ h)
 | _,_,.dct h=> .dct (e _ _ h)
theorem dW.same {H H':Hp}(e:bC H H'):∀{vs:List V} {ds:List Dt},dW H vs ds→dW H' vs ds
 | _,_,.nil=> .nil
 | _,_,.cons h r=> .cons (IsD.same e h) (dW.same e r)
end
mutual
theorem IsD.inj {H:Hp}:∀{v:V} {d e:Dt},IsD H v d→IsD H v e→d=e
 | _,_,_,.non,.non=>rfl
 | _,_,_,.bl _,.bl _=>rfl
 | _,_,_,.int _,.int _=>rfl
 | _,_,_,.str _,.str _=>rfl
 | _,_,_,.tup h r,q=>by
  cases q with
  | tup h' r'=>rw[h] at h';cases h';rw[dW.inj r r']
  | lst h'=>rw[h] at h';cases h'
  | dct h'=>rw[h] at h';cases h'
 | _,_,_,.lst h,q=>by
  cases q with
  | tup h' r'=>rw[h] at h';cases h'
  | lst h'=>rfl
  | dct h'=>rw[h] at h';cases h'
 | _,_,_,.dct h,q=>by
  cases q with
  | tup h' r'=>rw[h] at h';cases h'
  | lst h'=>rw[h] at h';cases h'
  | dct h'=>rfl
theorem dW.inj {H:Hp}:∀{vs:List V} {ds es:List Dt},dW H vs ds→dW H vs es→ds=es
 | _,_,_,.nil,.nil=>rfl
 | _,_,_,.cons h r,.cons h' r'=>by rw[IsD.inj h h',dW.inj r r']
end
theorem dW.length:∀{xs:List V} {ds:List Dt},dW H xs ds→xs.length=ds.length
 | _,_,.nil=>rfl
 | _,_,.cons _ r=>by rw[bf,bf,dW.length r]
theorem dW.get:∀{xs:List V} {ds:List Dt} {i:Nat} {x:V},dW H xs ds→xs[i]? =some x→∃d,ds[i]? =some d∧IsD H x d
 | _,_,_,_,.nil,e=>by simp at e
 | _,_,0,_,.cons h _,e=>by simp at e;subst e;exact⟨_,rfl,h⟩
 | _,_,i+1,x,.cons _ r,e=>by
  obtain⟨d,h1,h2⟩:=dW.get (i:=i) (x:=x) r (by simpa using e);exact⟨d,by simpa using h1,h2⟩
theorem dW.at:∀{xs:List V} {ds:List Dt} {i:Nat} {d:Dt},dW H xs ds→ds[i]? =some d→∃x,xs[i]? =some x∧IsD H x d
 | _,_,_,_,.nil,e=>by simp at e
 | _,_,0,_,.cons h _,e=>by simp at e;subst e;exact⟨_,rfl,h⟩
 | _,_,i+1,d,.cons _ r,e=>by
  obtain⟨x,h1,h2⟩:=dW.at (i:=i) (d:=d) r (by simpa using e);exact⟨x,by simpa using h1,h2⟩
theorem dW.append:∀{xs ys:List V} {ds es:List Dt},dW H xs ds→dW H ys es→dW H (xs++ys) (ds++es)
 | _,_,_,_,.nil,s=>s
 | _,_,_,_,.cons h r,s=> .cons h (dW.append r s)
theorem dW.ints:∀(ns:List Int),dW H (ns.map V.int) (ns.map Dt.int)
 | []=> .nil
 | n::r=> .cons (.int n) (dW.ints r)
theorem dW.ints_of:∀{xs:List V} {ns:List Int},dW H xs (ns.map Dt.int)→xs=ns.map V.int
 | _,[],.nil=>rfl
 | _,n::r,.cons h q=>by cases h;rw[dW.ints_of q];rfl
theorem IsD.tup_of {ds:List Dt}(h:IsD H v (.tup ds)):∃a xs,v= .ref a∧H a=some (.tup xs)∧dW H xs ds:=by
 cases h with
 | tup h r=>exact⟨_,_,rfl,h,r⟩
def Dt.ty:Dt→String
 | .non => "NoneType" | .bl _ => "bool" | .int _ => "int" | .str _ => "str" | .tup _ => "tuple" | .oth T=>T
theorem IsD.tyn {d:Dt}(h:IsD H v d):tyn H v=some d.ty:=by
 cases h with
 | tup h r=>simp only[L2.tyn];rw[h];rfl
 | lst h=>simp only[L2.tyn];rw[h];rfl
 | dct h=>simp only[L2.tyn];rw[h];rfl
 | _=>rfl
mutual
def eqD:Dt→Dt→Bool
 | .non,.non=>true
 | .bl a,.bl b=>a == b
 | .bl a,.int b=>(if a then 1 else 0) == b
 | .int a,.bl b=>a == (if b then 1 else 0)
 | .int a,.int b=>a == b
 | .str a,.str b=>a == b
 | .tup xs,.tup ys=>eqDs xs ys
 | _,_=>false
def eqDs:List Dt→List Dt→Bool
 | [],[]=>true
 | x::xs,y::ys=>eqD x y && eqDs xs ys
 | _,_=>false
end
mutual
def pl:Dt→Bool
 | .oth _=>false
 | .tup ds=>pls ds
 | _=>true
def pls:List Dt→Bool
 | []=>true
 | d::ds=>pl d && pls ds
end
mutual
def dep:Dt→Nat
 | .tup ds=>deps ds+1
 | _=>0
def deps:List Dt→Nat
 | []=>0
 | d::ds=>max (dep d) (deps ds)
end
mutual
theorem eqD_refl:∀d:Dt,pl d=true→eqD d d=true
 | .non,_=>by unfold eqD;rfl
 | .bl b,_=>by unfold eqD;exact beq_self_eq_true b
 | .int i,_=>by unfold eqD;exact beq_self_eq_true i
 | .str x,_=>by unfold eqD;exact beq_self_eq_true x
 | .tup ds,h=>by
  unfold eqD;unfold pl at h;exact eqDs_refl ds h
 | .oth T,h=>by unfold pl at h;cases h
theorem eqDs_refl:∀ds:List Dt,pls ds=true→eqDs ds ds=true
 | [],_=>by unfold eqDs;rfl
 | d::ds,h=>by
  unfold eqDs;unfold pls at h;rw[eh] at h;rw[eqD_refl d h.1,eqDs_refl ds h.2];rfl
end
end L2
namespace L2
open PySem PySem.Spec PyProof.Rows
theorem fU:ke X (.type "tuple") (λxs H Q=>∃p ys,xs=[.ref p]∧SqL X.K H p ys∧New H (.tup ys) Q) :=
 call_tuple_of.imp λ_ _ _ ⟨p,ys,e,h,q⟩=>⟨p,ys,e,.inl ⟨h,q.of⟩⟩
theorem kR {Q:VK}(Pv:Nat→List V→Hp→Prop)(h0:Pv 0 [] H)(hl:∀i ys H,i≤xs.length→Pv i ys H→SqL K H a xs∧ys.length≤i)(hz:xs.length≤bo)
  (hs:∀i x ys H,xs[i]? =some x→Pv i ys H→tt (some x::dB σ js) H λb H4=>if b=true then te (some x::dB σ js) H4 λy H5=>Pv (i+1) (ys++[y]) H5 else Pv (i+1) ys H4)
  (hd:∀ys H,Pv xs.length ys H→∀D,H D=none→Q (.ref D) (upd H D (.lst ys))):CompW js tt te σ Q (Itl K a) H:=by
 apply⟨λi m ys H=>i≤xs.length∧m=xs.length - i∧Pv i ys H,⟨_,bK _,rfl,h0⟩,λi m ys H2 ⟨hi,hm,hp⟩=>?_⟩;obtain⟨hq,hy⟩:=hl i ys H2 hi hp
 by_cases e:i=xs.length
 ·subst e
  exact .inl ⟨⟨xs,hq,aC _⟩,hd ys H2 hp⟩
 ·have hlt:i<xs.length:=gu hi e
  apply .inr ⟨⟨xs,_,hq,gE hlt⟩,⋯,Pv (i+1),λys' H' hp'=>⟨xs.length - (i+1),⋯,⋯,rfl,hp'⟩,λx H3 hy3=>?_⟩;obtain⟨e3,hx⟩:=hy3;subst e3;exact hs i x ys H3 (hx xs hq) hp
theorem jG {Q:VK}(Pv:Nat→List V→Hp→Prop)(h0:Pv 0 [] H)(hl:∀i ys H,i≤n→Pv i ys H→ys.length≤i)(hz:n≤bo)
  (hs:∀(i:Nat) ys H,i<n→Pv i ys H→tt (some (.int (lo+i))::dB σ js) H λb H4=>if b=true then te (some (.int (lo+i))::dB σ js) H4 λy H5=>Pv (i+1) (ys++[y]) H5 else Pv (i+1) ys H4)
  (hd:∀ys H,Pv n ys H→∀D,H D=none→Q (.ref D) (upd H D (.lst ys))):CompW js tt te σ Q (Itr lo n) H:=by
 apply⟨λi m ys H=>i≤n∧m=n - i∧Pv i ys H,⟨_,bK _,rfl,h0⟩,λi m ys H2 ⟨hi,hm,hp⟩=>?_⟩;have hy:=hl i ys H2 hi hp
 by_cases e:i=n
 ·subst e
  exact .inl ⟨aC _,hd ys H2 hp⟩
 ·have hlt:i<n:=gu hi e
  apply .inr ⟨hlt,⋯,Pv (i+1),λys' H' hp'=>⟨n - (i+1),⋯,⋯,rfl,hp'⟩,λx H3 hy3=>?_⟩;obtain⟨e3,hx⟩:=hy3;subst e3 hx;exact hs i ys H3 hlt hp
theorem ps_setCC {iy:Nat}{y0:Str}{py spos:Pos}{xs:List Str}
  (hN0:X.N.Nodup) (hi0:X.N[iy]? =some y0) (hx0:Loc X.env.scope y0) (hc:X.calm=true) (hi:PI X tg iter wi)
  (jd:∀y∈scope.names,y.2≠ .cell) (mM:scope.kind= .function) (lX:∀y∈scope.names,y.2= .local→scope.names.lookup y.1=some .local)
  (hfr:∀y∈scope.names,y.2= .free→X.env.scope.names.lookup y.1=some .cell) (hjs:js.map (λj=>X.N[j]?)=fr.map some) (hfv:∀y∈fr,scope.names.lookup y=some .free)
  (hg:∀cl C s' H' ex,PG (gU X scope cl C (xs++fr) s' H' ex) tg g)
  (hb:∀cl C s' H' ex,PE (gU X scope cl C (xs++fr) s' H' ex) elt te∧PTs (gU X scope cl C (xs++fr) s' H' ex) ifs tt)
  (hCW:∀σ Q J H1,CW σ Q J H1→rS xs.length g js tt te σ Q J H1) (hs:∀z,gX iter X.env z=gf z:=by intro _;rfl) (hsw:swapsWith (.ListComp elt [⟨tg,iter,ifs,0⟩] scope pos) (some (.Name y0 py)) spos.line X.env=gf true:=by rfl)
  (hf0:X.fn y0=true∨X.env.scope.names.lookup y0=some .local:=by first | exact .inl rfl | exact .inr rfl | assumption) :
  PS X (.Assign [.Name y0 py] (.ListComp elt [⟨tg,iter,ifs,0⟩] scope pos) spos) (tAsg (λσ H Q=>wi σ H λJ H1=>CW σ Q J H1) (oR iy)):=by
 intro aR s σ H Dn I h;rw[exec_Assign_Name_used _ _ _ _ hsw];apply ah (wpAny_standAt (ah ?_));show bc _ X.A (do let _ ← comprehension (.ListComp elt [⟨tg,iter,ifs,0⟩] scope pos) scope X.env _ (newList []) false (eG iter X.env) (some (assign (.Name y0 py) X.env))) _ _ s;apply ah (cy (comp_core (use:=some (assign (.Name y0 py) X.env)) (R:=λ_ s'=>SP X aR Dn .next s') hc hi jd mM lX hfr hjs hfv hg hb hCW I h (λs4 H5 D C mC hnC I5 nC locC fsC pinX cC sC q=>?_) hs) (λ_ s' hq=>aP (aP hq)) λ_ _ e=>e);obtain⟨oC,esC,epC,hoC,rC⟩:=id hnC;have I6:Inv X ((C,oC)::aR) σ H5 s4:=I5.pins_of λp hp=>by
  rcases aE.mp hp with rfl | hp
  ·apply⟨hoC,nC,locC,fsC,λv z=>?_⟩
   rw[rC.1] at z;cases z
  ·exact I5.pin p (az _ hp)
 have hPG0:PG X (.Name y0 py) (oR iy):=oj hN0 hi0 hx0 hf0;apply thn (hPG0 _ s4 σ _ (.ref D) (.ref D) (λσ' H'=>Dn.nx σ' H'∧H' C=none) I6 rfl ⟨q,nC⟩) λ_ s6 ⟨σ6,H6,I7,q7,n7⟩=>?_
 have o7:=(I7.pin (C,oC) (az _ (bt ..))).1;apply⟨mC,⟨oC,esC,epC,o7,rC⟩,λh' hsb=>⟨σ6,H6,?_,q7⟩⟩;have I8:Inv X aR σ6 H6 s6:=I7.pins_of λp hp=>I7.pin p (az _ (aw _ hp))
 exact I8.turned (t':=s6.toks) (it:=C) (λb o hb' e=>hsb.extBut b o hb' e) n7 locC (.inr sC) cC pinX
theorem qo {iy:Nat}{y0:Str}{py spos:Pos}{px:Pos}
  (hN0:X.N.Nodup) (hi0:X.N[iy]? =some y0) (hx0:Loc X.env.scope y0) (hc:X.calm=true) (hi:PI X (.Name x px) iter wi)
  (jd:∀y∈scope.names,y.2≠ .cell) (mM:scope.kind= .function) (lX:∀y∈scope.names,y.2= .local→scope.names.lookup y.1=some .local) (hx:scope.names.lookup x=some .local)
  (hfr:∀y∈scope.names,y.2= .free→X.env.scope.names.lookup y.1=some .cell) (hnd:(x::fr).Nodup) (hjs:js.map (λj=>X.N[j]?)=fr.map some) (hfv:∀y∈fr,scope.names.lookup y=some .free)
  (hb:∀cl C s' H' ex,PE (gU X scope cl C (x::fr) s' H' ex) elt te∧PTs (gU X scope cl C (x::fr) s' H' ex) ifs tt)
  (hs:∀z,gX iter X.env z=gf z:=by intro _;rfl) (hsw:swapsWith (.ListComp elt [⟨.Name x px,iter,ifs,0⟩] scope pos) (some (.Name y0 py)) spos.line X.env=gf true:=by rfl)
  (hf0:X.fn y0=true∨X.env.scope.names.lookup y0=some .local:=by first | exact .inl rfl | exact .inr rfl | assumption) :
  PS X (.Assign [.Name y0 py] (.ListComp elt [⟨.Name x px,iter,ifs,0⟩] scope pos) spos) (tAsg (tComp wi js tt te) (oR iy)) :=
 ps_setCC (xs:=[x]) (g:=oR 0) hN0 hi0 hx0 hc hi jd mM lX hfr hjs hfv (λ_ _ _ _ _=>oj hnd rfl (.inl (fc hx)) (.inr (fc hx))) hb (λ_ _ _ _ h=>compW_T h) hs hsw hf0
def notStar:Expr→Bool
 | .Starred _ _=>false
 | _=>true
theorem starEach_not (h:notStar e=true):bD (e::es) env=(false,eG e env)::bD es env:=by
 cases e <;> first | rfl | cases h
theorem pa_k (ha:PE X e te)(hr:PA X es t)(h:notStar e=true:=by rfl):PA X (e::es) (pP te t):=ae ha hr (starEach_not h)
structure PEs (X:Cx)(e:Expr)(t:TE):Prop where
 h:PE X e t
structure PAs (X:Cx)(es:List Expr)(t:TA):Prop where
 h:PA X es t
structure PSt (X:Cx)(st:cJ)(t:TS):Prop where
 h:PS X st t
theorem lQ {t:TS}(h:PS X st t):PS X st (λD σ H=>∃N:St→Hp→Prop,(∀σ' H',N σ' H'→D.nx σ' H')∧t { D with nx:=N } σ H):=by
 intro aR s σ H D I ⟨N,hN,ht⟩;apply thn (h aR s σ H { D with nx:=N } I ht) λf s' q=>?_
 cases f with
 | next=>obtain⟨σ',H',I',n'⟩:=q;exact⟨σ',H',I',hN _ _ n'⟩
 | brk=>exact q
 | cont=>exact q
 | ret u=>exact q
structure PSl (X:Cx)(sts:List cJ)(t:TS):Prop where
 h:PSs X sts t
section
variable {a b:Expr}{tb:TE}
theorem kN {i j}:PEs X (.Constant (.int i) j pos) (tC (.int i)):=⟨bI⟩
theorem k_op {op:Operator}{r:R2}(ho:OpR X (gY op) r)(ha:PEs X a ta)(hb:PEs X b tb):PEs X (.BinOp a op b pos) (tOp r ta tb):=⟨cS ho ha.h hb.h⟩
theorem k_ix {r:R2}(hr:IxR X r)(ha:PEs X a ta)(hb:PEs X b tb)(hs:PlainIx b):PEs X (.Subscript a b pos) (tOp r ta tb):=⟨eM hr ha.h hb.h hs⟩
theorem k_lst (h:PAs X es t):PEs X (.List es pos) (tLstA t):=⟨pe_lstA h.h⟩
theorem a_nil:PAs X [] tNil:=⟨aA⟩
theorem gG (ha:PEs X e te)(hr:PAs X es t)(h:notStar e=true:=by rfl):PAs X (e::es) (pP te t):=⟨pa_k ha.h hr.h h⟩
theorem aZ {sts:List cJ}{t u:TS}(a:PSt X st t)(b:PSl X sts u):PSl X (st::sts) (tSeq t u):=⟨pB a.h b.h⟩
theorem cW {t:TS}(a:PSt X st t):PSl X [st] t:=⟨cL a.h⟩
end
def CBig (i j:Int):Prop:=i.natAbs<10 ^ 400∧j.natAbs<10 ^ 400
theorem bits_of {x:Int}(h:x.natAbs<10 ^ 400):jY x≤2 ^ 20:=by
 unfold jY;split
 ·exact bK _
 ·rename_i hx
  have h0 : x.natAbs ≠ 0 := fun z => hx (by have : x = 0 := by lia
                                            rw [this];rfl)
  have h1:x.natAbs<2 ^ 4000:=jV h (by decide +kernel);have h2:=(Nat.log2_lt h0).mpr h1;have h3:(4000:Nat)+1≤2 ^ 20:=by decide
  lia
theorem op_mulB:OpR X (gY .Mult) (rI CBig λi j=> .int (i * j)):=opI λ_ _ _ _ _ _ _ hc q=>mul_int q (IntMulOk.of_bits (bits_of hc.1) (bits_of hc.2))
theorem mh:∀{ns:List Int} {us:List af},gw (ns.map V.int) us→IntsAre us ns
 | [],_,.nil=> .nil
 | _::_,_,.cons ⟨_,e⟩ r=>by cases e;exact .cons _ _ (mh r)
theorem op_eqI (hu:X.A.units+64<cLine):OpR X (fT .Eq) (λx y H Q=>∃(a b:ak) (ns ms:List Int),x= .ref a∧y= .ref b∧SqL X.K H a (ns.map V.int)∧SqL X.K H b (ms.map V.int)∧Q (.bl (decide (ns=ms))) H):=by
 intro aR s σ H x y v u Q I rx ry h;obtain⟨a,b,ns,ms,rfl,rfl,ha,hb,q⟩:=h;cases(show v=af.ref a from rx);cases(show u=af.ref b from ry);obtain⟨its,rv,p,_⟩:=I.list ha;obtain⟨its2,rv2,p2,_⟩:=I.list hb;exact PySem.W.ke_eq_ints p.isList p2.isList (mh rv) (mh rv2) hu (fS I q rfl)
theorem pe_compT {xs:List Str}
  (hc:X.calm=true) (hi:PI X tg iter wi)
  (jd:∀y∈scope.names,y.2≠ .cell) (mM:scope.kind= .function) (lX:∀y∈scope.names,y.2= .local→scope.names.lookup y.1=some .local)
  (hfr:∀y∈scope.names,y.2= .free→X.env.scope.names.lookup y.1=some .cell) (hjs:js.map (λj=>X.N[j]?)=fr.map some) (hfv:∀y∈fr,scope.names.lookup y=some .free)
  (hg:∀cl C s' H' ex,PG (gU X scope cl C (xs++fr) s' H' ex) tg g)
  (hb:∀cl C s' H' ex,PE (gU X scope cl C (xs++fr) s' H' ex) elt te∧PTs (gU X scope cl C (xs++fr) s' H' ex) ifs tt)
  (hs:∀z,gX iter X.env z=gf z:=by intro _;rfl) :
  PE X (.ListComp elt [⟨tg,iter,ifs,0⟩] scope pos) (tCompT wi xs.length g js tt te) :=
 pe_compC hc hi jd mM lX hfr hjs hfv hg hb (λ_ _ _ _ h=>h) hs
abbrev gPair (K:ai):TG:=gTup K 2 (gCons (oR 0) (gCons (oR 1) gNil))
theorem pg_two {ex:List ak}{y:Str}{k:Nat}{pt:Pos}(hc:X.calm=true)(hnd:(x::y::fr).Nodup)(hx:scope.names.lookup x=some .local)(hy:scope.names.lookup y=some .local) :
  PG (gU X scope cl C ([x,y]++fr) s H ex) (.Tuple [.Name x p1,.Name y p2] k pt) (gPair X.K) :=
 rm hc (iI (oj (i:=0) hnd rfl (.inl (fc hx)) (.inr (fc hx))) (iI (oj (i:=1) hnd rfl (.inl (fc hy)) (.inr (fc hy))) oi))
theorem getItem_all {t sl:ak}{vl vu:af}{lo:Option Int}(ht:IsTup s.heap t items)(hs:s.heap.IsSliceOf sl vl vu .none)(pl:IsPart vl lo)(pu:IsPart vu hi)
  (hw:HT.sIx items.size 0 lo=0∧HT.sIx items.size items.size hi=items.size) (h:Q (.ref t) s):bc (bE prog w) A (getItem (.ref t) (.ref sl)) Q E s:=by
 obtain⟨os,hos,hcs,hds⟩:=id hs;have hTs:s.TypeIs (.ref sl) "slice" := ⟨os,hos,hcs⟩;unfold getItem
 try with_reducible apply eu ?_
 first | apply ah (aP ?_) | skip
 apply ah (wpAny_sequenceKey ht.typeIs ↥0 ?_);apply ah (gi (name:=dt "__getitem__") ht.typeIs dN
  (ik dN ht.typeIs entry_tuple_getitem ?_ (args_tuple_getitem _ _)))
 show bc _ _ (fg.Tuple.tupleItemsOf (.ref t) >>= _) _ _ s;apply ah (tupleItemsOf_ ht ?_);apply ah (wpAny_typeOf hTs ?_);rw[rV ↥0];apply ah (HT.sliceApplied_gen hs pl pu ?_);show bc _ _ (if (((HT.sIx items.size 0 lo:Nat):Int) == 0 && (1:Int) == 1 && (HT.sIx items.size items.size hi - HT.sIx items.size 0 lo) == items.size)=true then _ else _) _ _ s;rw[hw.1,hw.2,Nat.sub_zero,rV ∅];unfold fg.Tuple.tupleIsExact;apply ah (ah (wpAny_typeOf ht.typeIs (aP ?_)));rw[rV ↥0];exact ah (wpAny_rule (aP ⟨_,rfl,aP h⟩))
theorem sl_tupN:SlR X (λx lo hi H Q=>∃a xs,x= .ref a∧H a=some (.tup xs)∧New H (.tup (cutV xs lo hi)) Q):=by
 intro aR s σ H x v vl vu lo hi sl Q I rx hs pl pu h;obtain⟨a,xs,rfl,hx,q⟩:=h
 by_cases hw:HT.sIx xs.length 0 lo=0∧HT.sIx xs.length xs.length hi=xs.length
 ·cases rx
  obtain⟨its,r,ht,hz⟩:=I.tuple (SqT.of (K:=X.K) hx);have hlen:its.toArray.size=xs.length:=by rw[aG];exact r.length.symm
  apply⟨"tuple",_,dN.lookup,ht.typeIs,?_⟩;apply getItem_all ht hs pl pu (by rw[hlen];exact hw) ⟨.ref a,H,I,rfl,q a H (bC.refl H) ?_⟩;have e:cutV xs lo hi=xs:=by unfold cutV;rw[hw.1,hw.2,List.drop_zero,Nat.sub_zero,aX]
  rw[e];exact hx
 ·exact sl_tup aR s σ H _ v vl vu lo hi sl Q I rx hs pl pu ⟨a,xs,rfl,SqT.of hx,hw,q.of⟩
theorem call_sum (hc:X.calm=true):ke X (.builtin "sum") (λxs H Q=>∃(p:ak) (ns:List Int),xs=[.ref p]∧SqL X.K H p (ns.map V.int)∧Q (.int ns.sum) H):=by
 intro aR s σ H xs us Q I r h;obtain⟨p,ns,rfl,hq,q⟩:=h;obtain⟨u,rfl,ru⟩:=qR r;cases(show u=af.ref p from ru);obtain⟨its,rv,pl,hz⟩:=I.list hq;have hi:=mh rv;obtain⟨ys,hx⟩:=hi.allInts.items;have hl':s.heap.IsList p (intItems ys):=hx ▸ pl.isList;apply sum_intListG (I.ok.hd hc) hl' λh' tk t' hk=>?_
 have e1:ns=ys.toList.map (·.1):=by
  rw[←nums_intItems,←hx];exact(show numsOf its.toArray.toList=ns from hi.numsOf).symm
 have e2:preSum (numAt ys) ys.size=ns.sum:=by
  rw[preSum_eq,ig ∅,e1]
 rw[e2];exact⟨.int ns.sum,H,I.kept (t':=tk) hk,⟨t',rfl⟩,q⟩
theorem vals_at:∀{xs:List V} {us:List af},xs.length=us.length→(∀(i:Nat) (x:V),xs[i]? =some x→∃u,us[i]? =some u∧gQ x u)→gw xs us
 | [],[],_,_=> .nil
 | [],_::_,h,_=>by cases h
 | _::_,[],h,_=>by cases h
 | x::xs,u::us,h,k=>by
  obtain⟨u',e,r⟩:=k 0 x rfl;cases e;exact .cons r (vals_at (by simpa using h) λi y hy=>k (i+1) y hy)
theorem nP:ke X (.type "range") (λxs H Q=>∃j:Int,xs=[.int j]∧New H (.rng 0 j) Q):=by
 intro aR s σ H xs us Q I r h;obtain⟨j,rfl,q⟩:=h;obtain⟨u,rfl,ru⟩:=qR r;obtain⟨t,rfl⟩:=(show ∃t,u=af.int j t from ru);apply call_range_1 ?_;exact⟨.ref s.heap.objs.size,_,I.laid (t':=s.toks+1+1) (o:= .rng 0 j) (λ_ _ z=>au _ z) (aC _) ⟨_,_,_,aW _ rfl⟩,rfl,q.of _ I.fresh⟩
theorem oy (hc:X.calm=true):ke X (.type "list") (λxs H Q=>∃(a:ak) (n:Nat),xs=[.ref a]∧H a=some (.rng 0 (n:Int))∧n≤1000∧∀l,H l=none→Q (.ref l) (upd H l (.lst ((aJ n).map λk=>V.int (k:Nat))))):=by
 intro aR s σ H xs us Q I r h;obtain⟨a,n,rfl,ha,hn,q⟩:=h;obtain⟨u,rfl,ru⟩:=qR r;cases(show u=af.ref a from ru);obtain⟨t,u,v,hr⟩:=I.hok a _ ha;have hs:cY 0 (n:Int) 1=n:=by
  unfold cY;rw[rV ↥0]
  by_cases h0:(0:Int)<n
  ·rw[rV h0,Int.ediv_one];lia
  ·rw[rT h0];lia
 apply call_list_range (n:=n) (I.ok.hd hc) hr (by unfold gB;rw[hs];unfold jX;simp;lia) hs ⋯ λh' tk acc c hk hg hi=>?_
 apply⟨.ref s.heap.objs.size,_,I.laid (t':=tk) (o:= .lst ((aJ n).map λk=>V.int (k:Nat))) hk (aC _) ⟨?_,acc.toList,c,?_,?_⟩,rfl,q _ I.fresh⟩
 ·rw[aa,bq];exact bj hn ↥0
 ·apply vals_at (by rw[aa,bq,de,hi.1]) λi x hx=>?_
  rw[ar] at hx;obtain⟨k,hk2,rfl⟩:=br.mp hx;have hik:i<n:=by have:=(ao.mp hk2).1;rw[bq] at this;exact this
  rw[eE hik] at hk2;cases hk2;have hi2:i<acc.size:=by rw[hi.1];exact hik
  have e:=dg hi2;obtain⟨t2,e2⟩:=hi.2 i _ e;apply⟨_,by rw[iE];exact e,⟨t2,?_⟩⟩;rw[e2];congr 1;lia
 ·rw[kg];exact hg
theorem k_lstF (h:PAs X es t):PEs X (.List es pos) (tLst t):=⟨i5 h.h⟩
section
variable {κ:Type} [DecidableEq κ]
def nS (kvs:List (κ×V))(k:κ):Option V:=(kvs.find? λkv=>decide (kv.1=k)).map (·.2)
def og (kvs:List (κ×V))(k:κ)(v:V):List (κ×V) :=
 if (kvs.any λkv=>decide (kv.1=k))=true then kvs.map (λkv=>if kv.1=k then (kv.1,v) else kv) else kvs++[(k,v)]
theorem i8 {p:κ×V}{r:List (κ×V)}{k:κ}(e:p.1=k):nS (p::r) k=some p.2:=by simp[nS,iw,e]
theorem iG {p:κ×V}{r:List (κ×V)}{k:κ}(e:¬p.1=k):nS (p::r) k=nS r k:=by simp[nS,iw,e]
theorem mY (k:κ):∀kvs:List (κ×V),(kvs.any λkv=>decide (kv.1=k))=(nS kvs k).isSome
 | []=>rfl
 | p::r=>by
  rw[gP]
  by_cases e:p.1=k
  ·simp only[i8 e,rX e,Bool.true_or,Option.isSome_some]
  ·rw[iG e,rY e,Bool.false_or];exact mY k r
theorem valV_map (k j:κ)(y:V):∀kvs:List (κ×V),nS (kvs.map λkv=>if kv.1=k then (kv.1,y) else kv) j=(nS kvs j).map λx=>if j=k then y else x
 | []=>rfl
 | p::r=>by
  have ih:=valV_map k j y r;rw[bX]
  by_cases h:p.1=k
  ·rw[rV h]
   by_cases e:p.1=j
   ·rw[i8 (p:=(p.1,y)) e,i8 e,gC,rV (e.symm.trans h)]
   ·rw[iG (p:=(p.1,y)) e,iG e,ih]
  ·rw[rT h]
   by_cases e:p.1=j
   ·rw[i8 (p:=p) e,i8 e,gC,rT (λz=>h (e.trans z))]
   ·rw[iG (p:=p) e,iG e,ih]
theorem valV_snoc (k j:κ)(y:V):∀kvs:List (κ×V),nS kvs k=none→nS (kvs++[(k,y)]) j=if j=k then some y else nS kvs j
 | [],_=>by
  by_cases e:k=j
  ·rw[rV e.symm];exact i8 (p:=(k,y)) e
  ·rw[rT (λz=>e z.symm)];exact iG (p:=(k,y)) e
 | p::r,hn=>by
  rw[List.cons_append];have hk:¬p.1=k:=λz=>by rw[i8 z] at hn;cases hn
  rw[iG hk] at hn;have ih:=valV_snoc k j y r hn
  by_cases e:p.1=j
  ·rw[i8 e,i8 e,rT (λz=>hk (e.trans z))]
  ·rw[iG e,iG e,ih]
theorem valV_put (kvs:List (κ×V))(k j:κ)(y:V):nS (og kvs k y) j=if j=k then some y else nS kvs j:=by
 unfold og
 by_cases a:(kvs.any λkv=>decide (kv.1=k))=true
 ·rw[rV a,valV_map]
  rw[mY] at a
  by_cases e:j=k
  ·obtain⟨x,hx⟩:=Option.isSome_iff_exists.mp a
   rw[rV e,e,hx,gC,rV rfl]
  ·rw[rT e]
   cases nS kvs j with
   | none=>rfl
   | some x=>rw[gC,rT e]
 ·rw[rT a]
  apply valV_snoc k j y kvs ?_;rw[mY] at a;cases q:nS kvs k with
  | none=>rfl
  | some x=>rw[q] at a;exact(a rfl).elim
theorem lG (kvs:List (κ×V))(k:κ)(v:V):(og kvs k v).length≤kvs.length+1:=by
 unfold og;split
 ·rw[aa];lia
 ·rw[av,bf,List.length_nil];lia
theorem putK_new {kvs:List (κ×V)}{k:κ}(v:V)(h:nS kvs k=none):og kvs k v=kvs++[(k,v)]:=by
 unfold og;rw[mY,h];exact rT ↥0
theorem RelO.isSome_eq {o:Option V}{u:Option af}(r:RelO o u):o.isSome=u.isSome:=by
 cases o with
 | none=>cases u with
  | none=>rfl
  | some _=>exact(show False from r).elim
 | some _=>cases u with
  | none=>exact(show False from r).elim
  | some _=>rfl
theorem KV.val {kvs:List (κ×V)}{vs:List (κ×af)}(r:KV kvs vs)(k:κ):RelO (nS kvs k) (valueAt vs k):=by
 unfold KV at r
 induction r with
 | nil=>exact True.intro
 | @cons p q ps qs h t ih =>
  obtain⟨h1,h2⟩:=h
  by_cases e:p.1=k
  ·have e':q.1=k:=h1.symm.trans e
   have b:valueAt (q::qs) k=some q.2:=by simp[valueAt,iw,e']
   rw[i8 e,b];exact h2
  ·have e':¬q.1=k:=λz=>e (h1.trans z)
   have b:valueAt (q::qs) k=valueAt qs k:=by simp[valueAt,iw,e']
   rw[iG e,b];exact ih
theorem KV.any {kvs:List (κ×V)}{vs:List (κ×af)}(r:KV kvs vs)(k:κ):(kvs.any λkv=>decide (kv.1=k))=vs.any λkv=>decide (kv.1=k):=by
 unfold KV at r
 induction r with
 | nil=>rfl
 | cons h t ih=>rw[gP,gP,ih,h.1]
theorem KV.repl {kvs:List (κ×V)}{vs:List (κ×af)}(r:KV kvs vs)(k:κ)(ry:gQ y u) :
  KV (kvs.map λkv=>if kv.1=k then (kv.1,y) else kv) (vs.map λkv=>if kv.1=k then (kv.1,u) else kv):=by
 unfold KV at r ⊢
 induction r with
 | nil=>exact .nil
 | @cons p q ps qs h t ih =>
  rw[bX,bX];apply .cons ?_ ih;obtain⟨h1,h2⟩:=h
  by_cases e:p.1=k
  ·rw[rV e,rV (h1.symm.trans e)];exact⟨h1,ry⟩
  ·rw[rT e,rT (λz=>e (h1.trans z))];exact⟨h1,h2⟩
theorem KV.put {kvs:List (κ×V)}{vs:List (κ×af)}(r:KV kvs vs)(k:κ)(ry:gQ y u):KV (og kvs k y) (stored vs k u):=by
 unfold og stored;rw[r.any k]
 by_cases e:(vs.any λkv=>decide (kv.1=k))=true
 ·rw[rV e,rV e];exact r.repl k ry
 ·rw[rT e,rT e];exact Paired.snoc r ⟨rfl,ry⟩
theorem KV.length {kvs:List (κ×V)}{vs:List (κ×af)}(r:KV kvs vs):kvs.length=vs.length:=Paired.length r
end
theorem kV_is {k:Key}(r:gQ (kV k) u):(ja P w).is k u=true:=by
 cases k with
 | inl i=>obtain⟨t,e⟩:=(show ∃t,u=af.int i t from r);subst e;exact mixKind_int P w i t
 | inr x=>obtain⟨t,e⟩:=(show ∃t,u=af.str x t from r);subst e;exact mixKind_str P w x t
theorem items_are {P:aV}{w:bG}:∀{ks:List Key} {us:List af},gw (ks.map kV) us→ItemsAre (ja P w) ks us
 | [],_,r=>by rw[List.map_nil] at r;cases r;exact .nil
 | k::ks,_,r=>by
  rw[bX] at r;cases r with
  | cons h t=>exact .cons (kV_is h) (items_are t)
abbrev KT (H:Hp):List (List Key×V)→List (List Key×ak×af)→Prop:=j8 λp q=>p.1=q.1∧H q.2.1=some (.tup (p.1.map kV))∧gQ p.2 q.2.2
theorem KT.val {xs:List (List Key×ak×af)}(r:KT H kvs xs)(k:List Key):RelO (nS kvs k) ((atKey xs k).map (·.2)):=by
 induction r with
 | nil=>exact True.intro
 | @cons p q ps qs h t ih =>
  obtain⟨h1,_,h2⟩:=h
  by_cases e:p.1=k
  ·have e':q.1=k:=h1.symm.trans e
   have b:atKey (q::qs) k=some q.2:=by simp[atKey,iw,e']
   rw[i8 e,b];exact h2
  ·have e':¬q.1=k:=λz=>e (h1.trans z)
   have b:atKey (q::qs) k=atKey qs k:=by simp[atKey,iw,e']
   rw[iG e,b];exact ih
theorem KT.repl {xs:List (List Key×ak×af)}(r:KT H kvs xs)(k:List Key)(ry:gQ y u) :
  KT H (kvs.map λkv=>if kv.1=k then (kv.1,y) else kv) (xs.map (putAt k u)):=by
 induction r with
 | nil=>exact .nil
 | @cons p q ps qs h t ih =>
  rw[bX,bX];apply .cons ?_ ih;obtain⟨h1,h2,h3⟩:=h;unfold putAt
  by_cases e:p.1=k
  ·rw[rV e,rV (h1.symm.trans e)];exact⟨h1,h2,ry⟩
  ·rw[rT e,rT (λz=>e (h1.trans z))];exact⟨h1,h2,h3⟩
theorem KT.put {xs:List (List Key×ak×af)}(r:KT H kvs xs)(k:List Key){b:ak}(hb:H b=some (.tup (k.map kV)))(ry:gQ y u) :
  KT H (og kvs k y) (storedH xs k b u):=by
 have e:(kvs.any λkv=>decide (kv.1=k))=(atKey xs k).isSome:=by
  rw[mY,(r.val k).isSome_eq,Option.isSome_map]
 unfold og storedH;rw[e]
 by_cases q:(atKey xs k).isSome=true
 ·rw[rV q,rV q];exact r.repl k ry
 ·rw[rT q,rT q];exact Paired.snoc r ⟨rfl,hb,ry⟩
theorem KT.keeps {xs:List (List Key×ak×af)}(r:KT H kvs xs)(ht:∀b ys,H b=some (.tup ys)→H' b=some (.tup ys)):KT H' kvs xs :=
 Paired.mapP r λ_ _ z=>⟨z.1,ht _ _ z.2.1,z.2.2⟩
theorem rd_of {u:HO}(ok:HOk P w H h)(e:Rd H a u):jw P w H h a u:=e.ok ok
theorem dk_rd {kvs:List (Key×V)}(ok:HOk P w H h)(e:Rd H a (.dK kvs)):kvs.length≤bo∧(a == jP)=false∧∃vs,KV kvs vs∧h.DictOf (ja P w) a vs :=
 show jw P w H h a (.dK kvs) from rd_of ok e
theorem dk_of {kvs:List (Key×V)}(ok:HOk P w H h)(e:H a=some (.dK kvs)):kvs.length≤bo∧(a == jP)=false∧∃vs,KV kvs vs∧h.DictOf (ja P w) a vs:=dk_rd ok (.inl e)
theorem key_of {ks:List Key}(ok:HOk P w H h)(e:H a=some (.tup (ks.map kV))):(tupleKind (ja P w)).is h ks a:=by
 obtain⟨_,its,r,o,h1,h2,_,n,h3⟩:=(show jw P w H h a (.tup (ks.map kV)) from ok a _ e);exact⟨o,its.toArray,n,h1,h2,h3,by simpa using items_are r⟩
theorem dt_rd (ok:HOk P w H h)(e:Rd H a (.dT kvs)):kvs.length≤bo∧(a == jP)=false ∧
  ∃xs,KT H kvs xs∧h.DictOfH (tupleKind (ja P w)) a xs:=by
 obtain⟨z,y,xs,r,o,es,ep,h1,h2,h3,h4,h5⟩:=(show jw P w H h a (.dT kvs) from rd_of ok e);apply⟨z,y,xs,r,o,es,ep,h1,h2,h3,h4,λx hx=>?_,h5⟩;have all:∀{l:List (List Key×V)} {m:List (List Key×ak×af)},KT H l m→∀x∈m,(tupleKind (ja P w)).is h x.1 x.2.1:=by
  intro l m q
  induction q with
  | nil=>intro x hx;exact nomatch hx
  | @cons p q ps qs hq t ih =>
   intro x hx
   rcases aE.mp hx with e | hx
   ·subst e
    exact key_of ok (by rw[←hq.1];exact hq.2.1)
   ·exact ih x hx
 exact all r x hx
theorem dt_of (ok:HOk P w H h)(e:H a=some (.dT kvs)):kvs.length≤bo∧(a == jP)=false ∧
  ∃xs,KT H kvs xs∧h.DictOfH (tupleKind (ja P w)) a xs:=dt_rd ok (.inl e)
def DGet (H:Hp)(a:ak)(y:V)(r:Option V):Prop :=
 (∃kvs k,Rd H a (.dK kvs)∧y=kV k∧r=nS kvs k)∨∃kvs k b,Rd H a (.dT kvs)∧y= .ref b∧H b=some (.tup (k.map kV))∧r=nS kvs k
def DPut (H:Hp)(a:ak)(y v:V)(H':Hp):Prop :=
 (∃kvs k,H a=some (.dK kvs)∧y=kV k∧kvs.length<bo∧H'=upd H a (.dK (og kvs k v))) ∨
 ∃kvs k b,H a=some (.dT kvs)∧y= .ref b∧H b=some (.tup (k.map kV))∧kvs.length<bo∧H'=upd H a (.dT (og kvs k v))
theorem DGet.k {H:Hp}{a:ak}{kvs:List (Key×V)}{k:Key}(e:H a=some (.dK kvs)):DGet H a (kV k) (nS kvs k):= .inl ⟨kvs,k,.inl e,rfl,rfl⟩
theorem DPut.k {H:Hp}{a:ak}{kvs:List (Key×V)}{k:Key}{v:V}(e:H a=some (.dK kvs))(hl:kvs.length<bo):DPut H a (kV k) v (upd H a (.dK (og kvs k v))):= .inl ⟨kvs,k,e,rfl,hl,rfl⟩
section
variable {r:af}{o:Option V}
theorem d_getItem (hu:A.units+1<cLine)(I:Inv X aR σ H s)(g:DGet H a y (some v))(ry:gQ y u)(h:∀w' s',Inv X aR σ H s'→gQ v w'→Q w' s') :
  bc (bE X.prog X.w) A (getItem (.ref a) u) Q E s:=by
 rcases g with ⟨kvs,k,e,ey,l⟩ | ⟨kvs,k,b,e,ey,eb,l⟩
 ·subst ey
  obtain⟨z,hd,vs,rel,dd⟩:=dk_rd I.hok e;obtain⟨w',hw,rw'⟩:=RelO.some_of (v:=v) (o:=valueAt vs k) (by rw[l];exact rel.val k);exact wpAny_getItem_of (kV_is ry) dd.mapOf hw (h w' _ (I.tok _) rw')
 ·subst ey
  cases(show u=af.ref b from ry);obtain⟨z,hd,xs,rel,dd⟩:=dt_rd I.hok e;obtain⟨w',hw,rw'⟩:=RelO.some_of (v:=v) (o:=(atKey xs k).map (·.2)) (by rw[l];exact rel.val k);obtain⟨p,hp,hp2⟩:=br.mp hw;apply wpAny_getItem_heap (tupleKind_room_in1 hu) (key_of I.hok eb) dd hp ?_;rw[hp2];exact h w' _ (I.tok _) rw'
theorem d_notIn (hu:A.units+1<cLine)(I:Inv X aR σ H s)(g:DGet H a y o)(ry:gQ y u)(h:∀s',Inv X aR σ H s'→Q (.bool (!o.isSome)) s') :
  bc (bE X.prog X.w) A (fT .NotIn u (.ref a)) Q E s:=by
 rcases g with ⟨kvs,k,e,ey,l⟩ | ⟨kvs,k,b,e,ey,eb,l⟩
 ·subst ey
  obtain⟨z,hd,vs,rel,dd⟩:=dk_rd I.hok e;apply wpAny_notIn_of (kV_is ry) hd dd.mapOf ?_;rw[←(rel.val k).isSome_eq,←l];exact h _ (I.tok _)
 ·subst ey
  cases(show u=af.ref b from ry);obtain⟨z,hd,xs,rel,dd⟩:=dt_rd I.hok e;apply wpAny_notIn_heap (tupleKind_room_in1 hu) (key_of I.hok eb) hd dd ?_;have q:=(rel.val k).isSome_eq;rw[Option.isSome_map] at q;rw[←q,←l];exact h _ (I.tok _)
theorem d_write {ob:HO}(I:Inv X aR σ H s)(mu:Mut (H a))(hs:d9 a s.heap h')(he:∃q,h'.get? a=some q)(new:jw X.prog X.w (upd H a ob) h' a ob) :
  Inv X aR σ (upd H a ob) { s with heap:=h',toks:=t' } :=
 I.write (x:=a) (e:=a) mu (.inl rfl) (λb q hb z=>(hs.2 b hb).trans z) he new
theorem dk_new {kvs:List (Key×V)}{vs:List (Key×af)}(z:kvs.length≤bo)(hd:(a == jP)=false)(rel:KV kvs vs)(dd:h'.DictOf (ja P w) a vs) :
  jw P w H' h' a (.dK kvs):=⟨z,hd,vs,rel,dd⟩
theorem d_setItem {Q:Unit→aq→Prop}(hu:A.units+1<cLine)(I:Inv X aR σ H s)(g:DPut H a y v H')(ry:gQ y u)(rv:gQ v r)(h:∀s',Inv X aR σ H' s'→Q () s') :
  bc (bE X.prog X.w) A (setItem (.ref a) u r) Q E s:=by
 rcases g with ⟨kvs,k,e,ey,l,eH⟩ | ⟨kvs,k,b,e,ey,eb,l,eH⟩
 ·subst ey eH
  obtain⟨z,hd,vs,rel,dd⟩:=dk_of I.hok e;have hz:vs.length≤bo:=by rw[←rel.length];exact z
  have hl:(og kvs k v).length≤bo:=by have:=lG kvs k v;lia
  apply wpAny_setItem_pairs (hsz:=hz) (kV_is ry) dd λh' dd' hs=>h _ ?_
  have he:∃q,h'.get? a=some q:=let ⟨q,_,_,hq,_⟩:=dd';⟨q,hq⟩;exact d_write I (by rw[e];exact True.intro) hs he (dk_new hl hd (rel.put k rv) dd')
 ·subst ey eH
  cases(show u=af.ref b from ry);obtain⟨z,hd,xs,rel,dd⟩:=dt_of I.hok e;have hz:xs.length≤bo:=by rw[←Paired.length rel];exact z
  have hl:(og kvs k v).length≤bo:=by have:=lG kvs k v;lia
  apply wpAny_setItem_heap (hsz:=hz) (tupleKind_room_in1 hu) (key_of I.hok eb) dd λh' dd' hs=>h _ ?_
  obtain⟨q,es,ep,hq,h2,h3,h4,_,h5⟩:=dd';apply d_write I (by rw[e];exact True.intro) hs ⟨q,hq⟩ ⟨hl,hd,_,(rel.put k eb rv).keeps λc ys ec=>?_,q,es,ep,hq,h2,h3,h4,h5⟩;rw[bz (fb ec e (λz=>nomatch z))];exact ec
end
def NoSl (i:Expr):Prop:=∀ov iv,subscripted i false ov iv=operate [ov,iv] (getItem ov iv)
theorem subD_of {slice:Expr}{id:String}
  (hl:typeLookup (.type T) "__getitem__" =gf (some (.builtin id))) (hs:NoSl slice)
  (h:bc (bE prog w) A (eG value env) (λo s₁=>bc (bE prog w) A (eG slice env) (λi s₂=>s₂.TypeIs o T∧bc (bE prog w) A (getItem o i) Q E s₂) E s₁) E s) :
  bc (bE prog w) A (eG (.Subscript value slice pos) env) Q E s:=by
 apply Subscript_ (cy h (λo s₁ h₁=>cy h₁ (λi s₂ h₂=>?_) λ_ _ x=>x) λ_ _ x=>x);obtain⟨hT,h₂⟩:=h₂;unfold subscriptTail;apply ah ?_;rw[getitemInPython_of_ne hT.not_modules];apply ah (wpAny_specialOf hT hl ?_);have fin:bc (bE prog w) A (subscripted slice false o i) (λr s₃=>bc (bE prog w) A (letTemporaryGo value o r >>= λ_=>gf r) Q E s₃) E s₂:=by
  rw[hs o i];exact wpAny_operating (cy h₂ (λr s₃ h₃=>ah (wpAny_letTemporaryGo (aP h₃))) λ_ _ x=>x)
 first
  | exact aP (ah fin)
  | exact ah (aP (ah fin))
  | exact ah fin
theorem dict_typeIs {o:Option V}(I:Inv X aR σ H s)(g:DGet H a y o):s.TypeIs (.ref a) "dict" := by
 rcases g with ⟨kvs,k,e,_,_⟩ | ⟨kvs,k,b,e,_,_,_⟩
 ·obtain⟨_,_,vs,_,dd⟩:=dk_rd I.hok e
  exact dd.typeIs
 ·obtain⟨_,_,xs,_,dd⟩:=dt_rd I.hok e
  exact dd.typeIs
def tDGet (td ty:TE):TE:=λσ H Q=>td σ H λx H1=>ty σ H1 λy H2=>∃a v,x= .ref a∧DGet H2 a y (some v)∧Q v H2
def tDNotIn (ty td:TE):TE:=λσ H Q=>ty σ H λy H1=>td σ H1 λx H2=>∃a o,x= .ref a∧DGet H2 a y o∧Q (.bl (!o.isSome)) H2
def sDPut (td ty tv:TE):TS:=λD σ H=>tv σ H λv H1=>td σ H1 λx H2=>ty σ H2 λy H3=>∃a H4,x= .ref a∧DPut H3 a y v H4∧D.nx σ H4
section
variable {o i:Expr}{td ty tv:TE}
theorem pe_dget (hu:X.A.units+1<cLine)(ho:PE X o td)(hi:PE X i ty)(hs:NoSl i):PE X (.Subscript o i pos) (tDGet td ty):=by
 intro aR s σ H Q I h;apply subD_of PySem.F.slot_dict_getitem.lookup hs (thn (ho aR s σ H _ I h) λu s1 ⟨x,H1,I1,rx,q1⟩=>thn (hi aR s1 σ H1 _ I1 q1) λiv s2 ⟨y,H2,I2,ry,a,v,ex,g,q2⟩=>?_);subst ex;obtain rfl:u=af.ref a:=rx;exact⟨dict_typeIs I2 g,d_getItem hu I2 g ry λw' s3 I3 rw'=>⟨v,H2,I3,rw',q2⟩⟩
theorem nu (hu:X.A.units+1<cLine)(hi:PE X i ty)(ho:PE X o td):PC X .NotIn i o (tDNotIn ty td):=by
 intro aR s σ H Q I h;apply thn (hi aR s σ H _ I h) λiv s1 ⟨y,H1,I1,ry,q1⟩=>thn (ho aR s1 σ H1 _ I1 q1) λu s2 ⟨x,H2,I2,rx,a,ov,ex,g,q2⟩=>?_
 subst ex;obtain rfl:u=af.ref a:=rx;exact d_notIn hu I2 g ry λs3 I3=>⟨.bl (!ov.isSome),H2,I3,rfl,q2⟩
theorem ps_dput (hu:X.A.units+1<cLine)(ho:PE X o td)(hi:PE X i ty)(hv:PE X value tv)(hs:swapsWith value (some (.Subscript o i pos')) pos.line X.env=gf false) :
  PS X (.Assign [.Subscript o i pos'] value pos) (sDPut td ty tv):=by
 intro aR s σ H D I h;apply wpAny_Assign_Subscript (thn (hv aR s σ H _ I h) λr s1 ⟨v,H1,I1,rv,q1⟩=>thn (ho aR s1 σ H1 _ I1 q1) λu s2 ⟨x,H2,I2,rx,q2⟩=>thn (hi aR s2 σ H2 _ I2 q2) λiv s3 ⟨y,H3,I3,ry,a,H4,ex,g,q3⟩=>?_) hs;subst ex;obtain rfl:u=af.ref a:=rx;exact d_setItem hu I3 g ry rv λs4 I4=>⟨σ,H4,I4,q3⟩
end
def tPairs:List (TE×TE)→St→Hp→(List (V×V)→Hp→Prop)→Prop
 | [],_,H,Q=>Q [] H
 | (tk,tv)::r,σ,H,Q=>tk σ H λx H1=>tv σ H1 λy H2=>tPairs r σ H2 λps H3=>Q ((x,y)::ps) H3
abbrev VV:List (V×V)→List (af×af)→Prop:=j8 λp q=>gQ p.1 q.1∧gQ p.2 q.2
def PPs (X:Cx)(pos:Pos)(keys:List (Option Expr))(values:List Expr)(trs:List (TE×TE)):Prop :=
 ∀(aR:List (ak×Obj)) (s:aq) (σ:St) (H:Hp) (Q:List (V×V)→Hp→Prop),Inv X aR σ H s→tPairs trs σ H Q →
  bc (bE X.prog X.w) X.A (evalPairs (pairTrees keys values X.env pos)) (λvs s'=>∃ps H',Inv X aR σ H' s'∧VV ps vs∧Q ps H') X.xe s
theorem pps_nil:PPs X pos [] [] []:=λaR s σ H Q I h=>pairTrees_nil_walk ⟨[],H,I,.nil,h⟩
theorem pps_cons {k v:Expr}{ks:List (Option Expr)}{vs:List Expr}{tk tv:TE}(hk:PE X k tk)(hv:PE X v tv)(hr:PPs X pos ks vs trs) :
  PPs X pos (some k::ks) (v::vs) ((tk,tv)::trs):=λaR s σ H Q I h =>
 pairTrees_cons_walk (thn (hk aR s σ H _ I h) fun u s1 ⟨x,H1,I1,rx,q1⟩=>thn (hv aR s1 σ H1 _ I1 q1) fun w2 s2 ⟨y,H2,I2,ry,q2⟩ =>
  thn (hr aR s2 σ H2 _ I2 q2) fun ws s3 ⟨ps,H3,I3,rel,q3⟩=>⟨(x,y)::ps,H3,I3,.cons ⟨rx,ry⟩ rel,q3⟩)
def nv (kvs more:List (Key×V)):List (Key×V):=more.foldl (λacc kv=>og acc kv.1 kv.2) kvs
theorem KV.merge:∀{more:List (Key×V)} {rs:List (Key×af)} {kvs:List (Key×V)} {vs:List (Key×af)},KV more rs→KV kvs vs→KV (nv kvs more) (merged vs rs):=by
 intro more rs kvs vs r;unfold KV at r
 induction r generalizing kvs vs with
 | nil=>intro q;exact q
 | @cons p q ps qs h t ih =>
  intro r0;have e:KV (og kvs p.1 p.2) (stored vs q.1 q.2):=by
   have:=r0.put p.1 h.2;rw[←h.1];exact this
  exact ih e
theorem nI:∀(more kvs:List (Key×V)),(nv kvs more).length≤kvs.length+more.length
 | [],kvs=>by show kvs.length≤kvs.length+0;lia
 | p::r,kvs=>by
  have h1:=nI r (og kvs p.1 p.2);have h2:=lG kvs p.1 p.2;show(nv (og kvs p.1 p.2) r).length≤_;rw[bf];lia
theorem rM {P:aV}{w:bG}:∀{kvs:List (Key×V)} {ws:List (af×af)},VV (kvs.map λkv=>(kV kv.1,kv.2)) ws→∃rs,Carries (ja P w) ws rs∧KV kvs rs
 | [],_,r=>by rw[List.map_nil] at r;cases r;exact⟨[],True.intro,.nil⟩
 | p::kvs,_,r=>by
  rw[bX] at r;cases r with
  | @cons a b as bs h t =>
   obtain⟨rs,c,q⟩:=rM (P:=P) (w:=w) t;obtain⟨b1,b2⟩:=b;exact⟨(p.1,b2)::rs,⟨kV_is h.1,rfl,c⟩,.cons ⟨rfl,h.2⟩ q⟩
def tDisp (trs:List (TE×TE)):TE:=λσ H Q=>∀p,H p=none→tPairs trs σ (upd H p (.dK [])) λps H2=>H2 p=some (.dK [])∧∃kvs:List (Key×V),ps=kvs.map (λkv=>(kV kv.1,kv.2))∧kvs.length≤15∧Q (.ref p) (upd H2 p (.dK (nv [] kvs)))
theorem pe_disp {values:List Expr}(h:PPs X pos keys values trs)(hall:keys.all (·.isSome)=true)(hl:keys.length=values.length)(h0:keys≠[])
  (h15:keys.length≤15):PE X (.Dict keys values pos) (tDisp trs):=by
 intro aR s σ H Q I q;have hn:=I.hok.fresh (aC s.heap.objs.size);have I1:=I.laid (a:=s.heap.objs.size) (o:= .dK []) (h':=s.heap.push { cls:= .type "dict",data:= .dict #[] }) (t':=s.toks) (λ_ _ q=>au _ q) (aC _) (dk_empty s.heap I.big);apply wpAny_Dict_walk (knd:=ja X.prog X.w) hall hl h0 h15 (thn (h aR _ σ _ _ I1 (q _ hn)) λws s2 ⟨ps,H2,I2,rel,e,kvs,ep,lk,q2⟩=>?_);subst ep;obtain⟨rs,c,rk⟩:=rM (P:=X.prog) (w:=X.w) rel;obtain⟨z,hd,vs0,r0,dd⟩:=dk_of I2.hok e;cases r0;apply⟨rs,c,dd,λh' dd' hs=>⟨.ref s.heap.objs.size,_,?_,rfl,q2⟩⟩;have hz:(nv [] kvs).length≤bo:=by
  have h1:=nI kvs [];rw[List.length_nil] at h1;rw[fM];lia
 have he:∃q,h'.get? s.heap.objs.size=some q:=let ⟨q,_,_,hq,_⟩:=dd';⟨q,hq⟩;exact d_write I2 (by rw[e];exact True.intro) hs he (dk_new hz hd (rk.merge .nil) dd')
end L2
namespace Att
open PySem PySem.W PySem.Calls PyProof.Rows
end Att
namespace L2
open PySem PySem.Spec PyProof.Rows
theorem oT {α β:Type}{f:α→β→Sem (ForInStep β)}{Q:β→aq→Prop}:∀(l:List α) (I:Nat→β→aq→Prop) (b:β) (s:aq),I 0 b s →
  (∀i a b s,l[i]? =some a→I i b s→bc M A (f a b) (λr s'=>∃b',r= .yield b'∧I (i+1) b' s') E s)→(∀b s,I l.length b s→Q b s)→bc M A (forIn l b f) Q E s
 | [],_,b,s,h0,_,hd=>by
  rw[List.forIn_nil];exact aP (hd b s h0)
 | a::l,I,b,s,h0,hs,hd=>by
  rw[List.forIn_cons];apply ah (cy (hs 0 a b s rfl h0) (λr s' ⟨b',e,h'⟩=>?_) λ_ _ f=>f);subst e;exact oT l (λi=>I (i+1)) b' s' h' (λi a b s ha hi=>hs (i+1) a b s ha hi) λb s h=>hd b s h
structure Sq where
 l:Bool
 a:ak
def SqAt (h:bO)(c:Sq)(xs:Array af):Prop:=match c.l with | true=>h.IsList c.a xs | false=>h.IsTuple c.a xs
def ItAt (h:bO)(c:Sq)(i:ak)(k:Nat):Prop:=match c.l with | true=>h.IsListIter i c.a k | false=>h.IsTupleIter i c.a k
abbrev mU (h:bO)(T:ak)(vs:List af):Prop:=h.get? T=some { cls:= .type "tuple",data:= .seq vs.toArray }
theorem SqAt.ext {g:bO}{c:Sq}{xs:Array af}(x:SqAt h c xs)(e:∀o,h.get? c.a=some o→g.get? c.a=some o):SqAt g c xs:=by
 obtain⟨l,a⟩:=c;cases l with
 | true=>obtain⟨o,ho,r⟩:=(show h.IsList a xs from x);exact⟨o,e o ho,r⟩
 | false=>obtain⟨o,ho,r⟩:=(show h.IsTuple a xs from x);exact⟨o,e o ho,r⟩
theorem ItAt.ext {g:bO}{c:Sq}{i:ak}{k:Nat}(x:ItAt h c i k)(e:∀o,h.get? i=some o→g.get? i=some o):ItAt g c i k:=by
 obtain⟨l,a⟩:=c;cases l with
 | true=>obtain⟨o,ho,r⟩:=(show h.IsListIter i a k from x);exact⟨o,e o ho,r⟩
 | false=>obtain⟨o,ho,r⟩:=(show h.IsTupleIter i a k from x);exact⟨o,e o ho,r⟩
theorem ItAt.obj {c:Sq}{i:ak}{k:Nat}(x:ItAt h c i k):∃o,h.get? i=some o∧∀v,o.data≠ .cell v:=by
 obtain⟨l,a⟩:=c;cases l with
 | true=>obtain⟨o,ho,_,d⟩:=(show h.IsListIter i a k from x);exact⟨o,ho,λv z=>by rw[d] at z;cases z⟩
 | false=>obtain⟨o,ho,_,d⟩:=(show h.IsTupleIter i a k from x);exact⟨o,ho,λv z=>by rw[d] at z;cases z⟩
theorem rp {c:Sq}{i:ak}{k:Nat}{xs:Array af}{v:af}(jt:ItAt s.heap c i k)(tt:SqAt s.heap c xs)(hv:xs[k]? =some v)
  (q:∀g,ItAt g c i (k+1)→d9 i s.heap g→Q v { s with heap:=g }):bc (bE prog w) A (cZ (.ref i)) Q E s:=by
 obtain⟨l,a⟩:=c;cases l with
 | true=>exact wpAny_nextOf_list_item (show s.heap.IsListIter i a k from jt) (show s.heap.IsList a xs from tt) hv λg h1 h2=>q g h1 h2
 | false=>exact nextT_item (show s.heap.IsTupleIter i a k from jt) (show s.heap.IsTuple a xs from tt) hv λg h1 h2=>q g h1 h2
theorem nextS_end {c:Sq}{i:ak}{k:Nat}{xs:Array af}(hh:A.handled=none)(jt:ItAt s.heap c i k)(tt:SqAt s.heap c xs)(hv:xs[k]? =none)
  (q:∀g x,bO.ExtBut i s.heap g→(∃o,g.get? x=some o∧o.cls= .type "StopIteration")→E (.ref x) { s with heap:=g }):bc (bE prog w) A (cZ (.ref i)) Q E s:=by
 obtain⟨l,a⟩:=c;cases l with
 | true=>exact wpAny_nextOf_list_end hh (show s.heap.IsListIter i a k from jt) (show s.heap.IsList a xs from tt) hv λg x h1 h2=>q g x h1 h2
 | false=>exact nextT_end hh (show s.heap.IsTupleIter i a k from jt) (show s.heap.IsTuple a xs from tt) hv λg x h1 h2=>q g x h1 h2
theorem iterS {c:Sq}{xs:Array af}(tt:SqAt s.heap c xs)
  (q:∀g,ItAt g c s.heap.objs.size 0→g.objs.size=s.heap.objs.size+1→(∀b o,s.heap.get? b=some o→g.get? b=some o)→Q (.ref s.heap.objs.size) { s with heap:=g }):bc (bE prog w) A (pyIter (.ref c.a)) Q E s:=by
 obtain⟨l,a⟩:=c;cases l with
 | true=>exact wpAny_pyIter_list (show s.heap.IsList a xs from tt) (q _ ⟨_,aW _ rfl,rfl,rfl⟩ (gq ..) λb o e=>au _ e)
 | false=>exact wpAny_pyIter_tuple (show s.heap.IsTuple a xs from tt) (q _ ⟨_,aW _ rfl,rfl,rfl⟩ (gq ..) λb o e=>au _ e)
theorem updRow {T:ak}{x:af}{k:Nat}{Q:Unit→aq→Prop}(hT:mU s.heap T vs)(hz:vs.length≤100)
  (h:∀g,mU g T (vs.set k x)→d9 T s.heap g→Q () { s with heap:=g }):bc (bE prog w) A (updateSeq T (·.setIfInBounds k x)) Q E s:=by
 apply wpAny_updateSeq hT rfl (h _ ?_ (gF ..)) (by rw[aG];exact bj hz ↥0) (by rw[Array.size_setIfInBounds,aG];exact bj hz ↥0);show bO.get? _ T=_;rw[bO.get?_update_self _ hT rfl];simp[cQ]
structure ZIn (h g:bO)(z TI TO:ak)(cs:List Sq)(is:List ak)(k j:Nat)(vs old:List af):Prop where
 sz:g.objs.size=h.objs.size
 zip:IsZip g z TI TO .ellipsis
 row:mU g TO (vs.take j++old.drop j)
 its:∀(n:Nat) c i,cs[n]? =some c→is[n]? =some i→ItAt g c i (if n<j then k+1 else k)
 ext:∀e o,e≠z→e≠TO→e ∉ is→h.get? e=some o→g.get? e=some o
structure ZOk (h:bO)(z TI TO:ak)(cs:List Sq)(is:List ak)(k:Nat)(old:List af):Prop where
 len:is.length=cs.length
 few:cs.length≤8
 pos:0<cs.length
 nod:(z::TI::TO::is).Nodup
 zip:IsZip h z TI TO .none
 ti:mU h TI (is.map af.ref)
 to:mU h TO old
 lo:old.length=cs.length
 its:∀(n:Nat) c i,cs[n]? =some c→is[n]? =some i→ItAt h c i k
 off:∀c∈cs,c.a≠z∧c.a≠TO∧c.a ∉ is
theorem nod_ne {is:List ak}{i:ak}{e:ak}(hn:is.Nodup)(h1:is[j]? =some i)(h2:is[n]? =some e)(h:n≠j):e≠i:=λz=>by
 subst z;have a:=(ao.mp h1);have b:=(ao.mp h2);obtain⟨ha,ea⟩:=a;obtain⟨hb,eb⟩:=b;exact h ((List.getElem_inj hn).mp (eb.trans ea.symm))
theorem ZIn.step {g:bO}{z TI TO:ak}{cs:List Sq}{is:List ak}{k:Nat}{i:ak}{c:Sq}(D:ZOk h z TI TO cs is k old)(Z:ZIn h g z TI TO cs is k j vs old)(hi:is[j]? =some i)(hc:cs[j]? =some c){g2 g3:bO}{v:af}(hv:vs[j]? =some v)(lv:vs.length=cs.length)
  (n2:ItAt g2 c i (k+1)) (s2:d9 i g g2) (r3:mU g3 TO ((vs.take j++old.drop j).set j v)) (s3:d9 TO g2 g3):ZIn h g3 z TI TO cs is k (j+1) vs old:=by
 have nod:=D.nod;rw[bP,bP,bP] at nod;obtain⟨nz,nT,nO,ni⟩:=nod;have mi:i∈is:=bp hi;have iz:z≠i:=λq=>nz (by rw[q];simp[mi])
 have iO:TO≠i:=λq=>nO (by rw[q];exact mi)
 have zO:z≠TO:=λq=>nz (by rw[q];simp)
 have jl:j<cs.length:=(ao.mp hc).1;apply⟨by rw[s3.1,s2.1,Z.sz],s3.extBut _ _ zO (s2.extBut _ _ iz Z.zip),?_,λn c' i' hc' hi'=>?_,λe o e1 e2 e3 q=>s3.extBut _ _ e2 (s2.extBut _ _ (λy=>e3 (by rw[y];exact mi)) (Z.ext e o e1 e2 e3 q))⟩
 ·have lo:=D.lo
  have e:(vs.take j++old.drop j).set j v=vs.take (j+1)++old.drop (j+1):=by
   have l1:(vs.take j).length=j:=by rw[bw];lia
   rw[List.set_append,rT ⋯,l1,Nat.sub_self,List.drop_eq_getElem_cons (by lia:j<old.length),List.set_cons_zero,aY,hv];simp
  rw[←e];exact r3
 ·have mi':i'∈is:=bp hi'
  have iO':i'≠TO:=λq=>nO (by rw[←q];exact mi')
  by_cases e:n=j
  ·subst e
   rw[hi] at hi';rw[hc] at hc';cases hi';cases hc';rw[rV ⋯];exact n2.ext λo q=>s3.extBut _ _ iO' q
  ·have q:=Z.its n c' i' hc' hi'
   have e2:(if n<j+1 then k+1 else k)=(if n<j then k+1 else k):=by
    by_cases y:n<j
    ·rw[rV y,rV ⋯]
    ·rw[rT y,rT ⋯]
   rw[e2];exact q.ext λo r=>s3.extBut _ _ iO' (s2.extBut _ _ (nod_ne ni hi hi' e) r)
theorem zipS_go {z TI TO:ak}{cs:List Sq}{is:List ak}{k:Nat}{Q:Option af→aq→Prop}(D:ZOk s.heap z TI TO cs is k old)
  (hv:∀(n:Nat) c,cs[n]? =some c→∃xs v,SqAt s.heap c xs∧xs[k]? =some v∧vs[n]? =some v) (lv:vs.length=cs.length)
  (q:∀ g,IsZip g z TI TO (rawInt s.heap.objs.size)→mU g TO vs→(∀ (n:Nat) c i,cs[n]? =some c→is[n]? =some i→ItAt g c i (k+1))→mU g s.heap.objs.size vs→g.objs.size=s.heap.objs.size+1 →
   (∀ e o,e≠z→e≠TO→e ∉ is→s.heap.get? e=some o→g.get? e=some o)→Q (some (.ref s.heap.objs.size)) { s with heap:=g }):bc (bE prog w) A (pyNext (.ref z)) Q E s:=by
 have hT:s.TypeIs (.ref z) "zip" := ⟨_,D.zip,rfl⟩;have nod:=D.nod;rw[bP,bP,bP] at nod;obtain⟨nz,nT,nO,ni⟩:=nod;have zO:z≠TO:=λq=>nz (by rw[q];simp)
 have few:=D.few;have len:=D.len;unfold pyNext;apply ah (wpAny_attempt (gi (name:=dt "__next__") hT F.slot_zip_next (ik F.slot_zip_next hT F.entry_zip_next ?_ (F.args_zip_next_1 _))));show bc _ _ (field (.ref z) 2 >>= _) _ _ s;apply ah (e8 D.zip rfl (x:= .bool false) (by rfl) ?_);show bc _ _ (field (.ref z) 3 >>= _) _ _ s;apply ah (e8 D.zip rfl (x:= .ref TI) (by rfl) ?_);apply ah (fZ D.ti rfl ?_)
 dsimp only
 rw[rT (by intro y;rw[Array.isEmpty_iff_size_eq_zero,aG,aa,len] at y;have:=D.pos;lia)];apply ah ?_;unfold kY;apply ah (e8 D.zip rfl (x:= .none) (by rfl) (aP ?_));simp only[if_true];apply ah (wpAny_rule ?_);apply ah (e8 D.zip rfl (x:= .ref TO) (by rfl) ?_);apply ah (jN D.zip ∅ λg1 z1 s1=>?_);have z1:IsZip g1 z TI TO .ellipsis:=z1;apply ah ?_;apply oT _ (λj b s'=>b=_∧∃g,s'={ s with heap:=g }∧ZIn s.heap g z TI TO cs is k j vs old) _ _ ⟨rfl,g1,rfl,?_⟩ ?_ ?_
 ·apply⟨s1.1,z1,s1.extBut _ _ zO.symm D.to,λn c i hc hi=>?_,λe o e1 _ _ h=>s1.extBut _ _ e1 h⟩
  rw[rT ⋯];exact(D.its n c i hc hi).ext λo h=>s1.extBut _ _ (λy=>nz (by rw[←y];simp[bp hi])) h
 ·rintro j a b s' ha ⟨rfl,g,rfl,Z⟩
  rw[List.getElem?_zipIdx] at ha;obtain⟨x,hx,rfl⟩:=br.mp ha;have hx:(is.map af.ref)[j]? =some x:=by simpa using hx
  rw[ar] at hx;obtain⟨i,hi,rfl⟩:=br.mp hx;have jl:j<cs.length:=by rw[←len];exact(ao.mp hi).1
  have hc:cs[j]? =some cs[j]:=gE jl;obtain⟨xs,v,hq,hxv,hvv⟩:=hv j _ hc;obtain⟨o1,o2,o3⟩:=D.off _ (bH jl);have it:=Z.its j _ i hc hi;rw[rT ⋯] at it
  dsimp only
  apply ah (wpAny_onRaise ?_);show bc _ _ (cZ (.ref i) >>= _) _ _ _;apply ah (rp it (hq.ext λo h=>Z.ext _ o o1 o2 o3 h) hxv λg2 n2 s2=>aP ?_);have iO:TO≠i:=λq=>nO (by rw[q];exact bp hi)
  have r2:mU g2 TO (vs.take j++old.drop j):=s2.extBut _ _ iO Z.row;apply ah (fZ r2 rfl ?_);apply ah (updRow (x:=v) (k:=0+j) r2 (by rw[av,bw,d7];have:=D.lo;lia) λg3 r3 s3=>?_);rw[Nat.zero_add] at r3;apply ah (kE (aP ⟨_,rfl,rfl,g3,rfl,Z.step D hi hc hvv lv n2 s2 r3 s3⟩))
 ·rintro b s' ⟨rfl,g5,rfl,Z⟩
  have ll:((is.map af.ref).toArray.toList.zipIdx).length=cs.length:=by simp[len]
  rw[ll] at Z;have z5:=Z.zip;have o5:mU g5 TO vs:=by
   have:=Z.row;rw[←lv,aX,lv,←D.lo,List.drop_length,dH] at this;exact this
  have m5:∀(n:Nat) c i,cs[n]? =some c→is[n]? =some i→ItAt g5 c i (k+1):=λn c i hc hi=>by
   have:=Z.its n c i hc hi;rw[rV (ao.mp hc).1] at this;exact this
  dsimp only
  apply ah (fZ o5 rfl ?_);apply ah (wpAny_newTuple ?_);have zlt:z<g5.objs.size:=aO z5;have sz:=Z.sz;apply ah ?_;unfold fg.SmallTypes.ownedTupleHandOut;have z6:IsZip (g5.push { cls:= .type "tuple",data:= .seq vs.toArray }) z TI TO .ellipsis:=au _ z5;apply ah (jN z6 ∅ λg7 z7 s7=>?_);have z7:IsZip g7 z TI TO (rawInt g5.objs.size):=z7;apply jN z7 ∅ λg8 z8 s8=>?_
  have z8:IsZip g8 z TI TO (rawInt g5.objs.size):=z8;have up:∀e o,e≠z→g5.get? e=some o→g8.get? e=some o:=λe o c1 h=>s8.extBut _ _ c1 (s7.extBut _ _ c1 (au _ h))
  have t8:mU g8 g5.objs.size vs:=s8.extBut _ _ (df zlt) (s7.extBut _ _ (df zlt) (aW _ rfl));have sz8:g8.objs.size=g5.objs.size+1:=by rw[s8.1,s7.1,gq]
  rw[sz] at z8 t8 sz8;apply aP ⟨_,rfl,?_⟩;apply aP ?_;show Q (some (.ref g5.objs.size)) _;rw[sz];apply q g8 z8 (up _ _ zO.symm o5) (λn c i hc hi=>(m5 n c i hc hi).ext λo h=>up _ o (λy=>nz (by rw[←y];simp[bp hi])) h) t8 sz8 λe o c1 c2 c3 h=>up e o c1 (Z.ext e o c1 c2 c3 h)
theorem zipS_stop {z TI TO:ak}{cs:List Sq}{is:List ak}{k:Nat}{cm:Sq}{Q:Option af→aq→Prop}(hh:A.handled=none)(D:ZOk s.heap z TI TO cs is k old)
  (hv:∀(n:Nat) c,cs[n]? =some c→n<m→∃xs v,SqAt s.heap c xs∧xs[k]? =some v∧vs[n]? =some v) (lv:vs.length=cs.length) (hm:cs[m]? =some cm) {xm:Array af} (hxm:SqAt s.heap cm xm) (hem:xm[k]? =none)
  (q:∀g,(∀e o,e≠z→e≠TO→e ∉ is→s.heap.get? e=some o→g.get? e=some o)→Q none { s with heap:=g }):bc (bE prog w) A (pyNext (.ref z)) Q E s:=by
 have hT:s.TypeIs (.ref z) "zip" := ⟨_,D.zip,rfl⟩;have nod:=D.nod;rw[bP,bP,bP] at nod;obtain⟨nz,nT,nO,ni⟩:=nod;have zO:z≠TO:=λq=>nz (by rw[q];simp)
 have few:=D.few;have len:=D.len;have fin:∀g x,(∀e o,e≠z→e≠TO→e ∉ is→s.heap.get? e=some o→g.get? e=some o)→(∃o,g.get? x=some o∧o.cls= .type "StopIteration") →
   bc (bE prog w) A (do if ← isInstance (.ref x) (.type "StopIteration") then gf none else throw (.ref x)) Q E { s with heap:=g }:=λg x k ⟨o,ho,hc⟩=>by
  apply ah (wpAny_isInstance (T := "StopIteration") (b:=true) ⟨o,ho,hc⟩ isSubtype_stop ?_);exact aP (q g k)
 have ml:m<cs.length:=(ao.mp hm).1;unfold pyNext;apply ah (wpAny_attempt (gi (name:=dt "__next__") hT F.slot_zip_next (ik F.slot_zip_next hT F.entry_zip_next ?_ (F.args_zip_next_1 _))));show bc _ _ (field (.ref z) 2 >>= _) _ _ s;apply ah (e8 D.zip rfl (x:= .bool false) (by rfl) ?_);show bc _ _ (field (.ref z) 3 >>= _) _ _ s;apply ah (e8 D.zip rfl (x:= .ref TI) (by rfl) ?_);apply ah (fZ D.ti rfl ?_)
 dsimp only
 rw[rT (by intro y;rw[Array.isEmpty_iff_size_eq_zero,aG,aa,len] at y;have:=D.pos;lia)];apply ah ?_;unfold kY;apply ah (e8 D.zip rfl (x:= .none) (by rfl) (aP ?_));simp only[if_true];apply ah (wpAny_rule ?_);apply ah (e8 D.zip rfl (x:= .ref TO) (by rfl) ?_);apply ah (jN D.zip ∅ λg1 z1 s1=>?_);have z1:IsZip g1 z TI TO .ellipsis:=z1;apply ah ?_;apply oT _ (λj b s'=>b=_∧j≤m∧∃g,s'={ s with heap:=g }∧ZIn s.heap g z TI TO cs is k j vs old) _ _ ⟨rfl,bK _,g1,rfl,?_⟩ ?_ ?_
 ·apply⟨s1.1,z1,s1.extBut _ _ zO.symm D.to,λn c i hc hi=>?_,λe o e1 _ _ h=>s1.extBut _ _ e1 h⟩
  rw[rT ⋯];exact(D.its n c i hc hi).ext λo h=>s1.extBut _ _ (λy=>nz (by rw[←y];simp[bp hi])) h
 ·rintro j a b s' ha ⟨rfl,jm,g,rfl,Z⟩
  rw[List.getElem?_zipIdx] at ha;obtain⟨x,hx,rfl⟩:=br.mp ha;have hx:(is.map af.ref)[j]? =some x:=by simpa using hx
  rw[ar] at hx;obtain⟨i,hi,rfl⟩:=br.mp hx;have jl:j<cs.length:=by rw[←len];exact(ao.mp hi).1
  have hc:cs[j]? =some cs[j]:=gE jl;obtain⟨o1,o2,o3⟩:=D.off _ (bH jl);have it:=Z.its j _ i hc hi;rw[rT ⋯] at it;have iO:TO≠i:=λq=>nO (by rw[q];exact bp hi)
  have iz:z≠i:=λq=>nz (by rw[q];simp[bp hi])
  dsimp only
  apply ah (wpAny_onRaise ?_);show bc _ _ (cZ (.ref i) >>= _) _ _ _
  by_cases e:j=m
  ·subst e
   rw[hc] at hm;cases hm;apply ah (nextS_end hh it (hxm.ext λo h=>Z.ext _ o o1 o2 o3 h) hem λg2 x s2 hx2=>?_);obtain⟨oe,e1,e2⟩:=hx2;have z2:IsZip g2 z TI TO .ellipsis:=s2 _ _ iz Z.zip;have xz:x≠z:=λr=>by subst r;rw[z2] at e1;cases e1;simp at e2
   exact jN z2 ∅ λg3 _ s3=>fin g3 x (λe o c1 c2 c3 h=>s3.extBut _ _ c1 (s2 _ _ (λy=>c3 (by rw[y];exact bp hi)) (Z.ext e o c1 c2 c3 h))) ⟨oe,s3.extBut _ _ xz e1,e2⟩
  ·obtain⟨xs,v,hq,hxv,hvv⟩:=hv j _ hc ⋯
   apply ah (rp it (hq.ext λo h=>Z.ext _ o o1 o2 o3 h) hxv λg2 n2 s2=>aP ?_);have r2:mU g2 TO (vs.take j++old.drop j):=s2.extBut _ _ iO Z.row;apply ah (fZ r2 rfl ?_);apply ah (updRow (x:=v) (k:=0+j) r2 (by rw[av,bw,d7];have:=D.lo;lia) λg3 r3 s3=>?_);rw[Nat.zero_add] at r3;apply ah (kE (aP ⟨_,rfl,rfl,⋯,g3,rfl,Z.step D hi hc hvv lv n2 s2 r3 s3⟩))
 ·rintro b s' ⟨rfl,jm,g5,rfl,Z⟩
  have ll:((is.map af.ref).toArray.toList.zipIdx).length=cs.length:=by simp[len]
  rw[ll] at jm;lia
theorem mQ {α:Type}{P:Nat→α→Prop}:∀(k:Nat),(∀n,n<k→∃u,P n u)→∃us:List α,us.length=k∧∀(n:Nat) u,us[n]? =some u→P n u
 | 0,_=>⟨[],rfl,λn u h=>by simp at h⟩
 | k+1,h=>by
  obtain⟨us,hl,hu⟩:=mQ k λn hn=>h n ⋯
  obtain⟨u,pu⟩:=h k ⋯;apply⟨us++[u],by rw[av,hl];rfl,λn v hv=>?_⟩
  by_cases e:n<us.length
  ·rw[eC e] at hv
   exact hu n v hv
  ·rw[bT ⋯] at hv
   have hn:n=us.length:=by
    have:=(ao.mp hv).1;simp at this;lia
   subst hn;rw[Nat.sub_self] at hv;cases hv;rw[hl];exact pu
theorem vals_of:∀{vs:List V} {us:List af},vs.length=us.length→(∀(n:Nat) v u,vs[n]? =some v→us[n]? =some u→gQ v u)→gw vs us
 | [],[],_,_=> .nil
 | v::vs,u::us,hl,h=> .cons (h 0 v u rfl rfl) (vals_of (by simpa using hl) λn v' u' a b=>h (n+1) v' u' a b)
 | [],_::_,hl,_=>by simp at hl
 | _::_,[],hl,_=>by simp at hl
def HSq (H:Hp)(c:Sq)(xs:List V):Prop:=match c.l with | true=>H c.a=some (.lst xs) | false=>H c.a=some (.tup xs)
theorem HSq.inj {c:Sq}(a:HSq H c xs)(b:HSq H c ys):xs=ys:=by
 obtain⟨l,q⟩:=c;cases l with
 | true=>have a:H q=some (.lst xs):=a;have b:H q=some (.lst ys):=b;rw[a] at b;cases b;rfl
 | false=>have a:H q=some (.tup xs):=a;have b:H q=some (.tup ys):=b;rw[a] at b;cases b;rfl
theorem HSq.has {c:Sq}(a:HSq H c xs):∃o,H c.a=some o:=by
 obtain⟨l,q⟩:=c;cases l with
 | true=>exact⟨_,a⟩
 | false=>exact⟨_,a⟩
theorem HSq.at {c:Sq}(I:Inv X aR σ H s)(h:HSq H c xs):∃its,gw xs its∧SqAt s.heap c its.toArray:=by
 obtain⟨l,q⟩:=c;cases l with
 | true =>
  obtain⟨its,r,p,_⟩:=I.list (SqL.of (K:=X.K) (show H q=some (.lst xs) from h));exact⟨its,r,p.isList⟩
 | false =>
  obtain⟨its,r,p,_⟩:=I.tuple (SqT.of (K:=X.K) (show H q=some (.tup xs) from h));exact⟨its,r,p⟩
def Itq (cs:List Sq):It :=
 ⟨fun i H=>∃ vs:List V,vs.length=cs.length∧∀ (n:Nat) c,cs[n]? =some c→∃ xs x,HSq H c xs∧xs[i]? =some x∧vs[n]? =some x,
  λi H v H'=>∃p vs,H p=none∧v= .ref p∧H'=upd H p (.tup vs)∧vs.length=cs.length∧∀(n:Nat) c x xs,cs[n]? =some c→HSq H c xs→vs[n]? =some x→xs[i]? =some x,
  fun i H=>∃ m cm xm,cs[m]? =some cm∧HSq H cm xm∧xm.length≤i∧∀ (n:Nat) c,cs[n]? =some c→n<m→∃ xs x,HSq H c xs∧xs[i]? =some x⟩
theorem turn_zipS {k0}{z TI TO:ak}{cs:List Sq}{is:List ak} :
  Turn P w K (.Tuple es k0 pos) (Itq cs) (z::TI::TO::is) z (λi h=>∃old,ZOk h z TI TO cs is i old) where
 mem:=by simp
 obj:=λi h st c hc=>by
  obtain⟨old,D⟩:=st;simp only[aE] at hc
  rcases hc with rfl | rfl | rfl | hc
  ·exact⟨_,D.zip,λv z=>by cases z⟩
  ·exact⟨_,D.ti,λv z=>by cases z⟩
  ·exact⟨_,D.to,λv z=>by cases z⟩
  ·obtain⟨n,hn⟩:=List.getElem?_of_mem hc
   have hl:n<cs.length:=by rw[←D.len];exact(ao.mp hn).1
   exact(D.its n _ c (gE hl) hn).obj
 keep:=λi h h' st k=>by
  obtain⟨old,D⟩:=st;exact⟨old,D.len,D.few,D.pos,D.nod,k z ∅ _ D.zip,k TI ∅ _ D.ti,k TO ∅ _ D.to,D.lo,λn c i hc hi=>(D.its n c i hc hi).ext λo e=>k i (by simp[bp hi]) o e,D.off⟩
 item:=by
  intro X hP hw hK hc i aR s σ H E I hf st hg;subst hP hw hK;obtain⟨old,D⟩:=st;obtain⟨vs,lv,hv⟩:=hg;have nz:∀e∈z::TI::TO::is,H e=none:=λe he=>(hf e he).1
  have hT:H s.heap.objs.size=none:=I.fresh;have ex:∀n,n<cs.length→∃u:af,(∀c,cs[n]? =some c→∃xs,SqAt s.heap c xs∧xs[i]? =some u)∧∀v,vs[n]? =some v→gQ v u:=λn hn=>by
   obtain⟨xs,x,h1,h2,h3⟩:=hv n _ (gE hn);obtain⟨its,r,p⟩:=h1.at I;obtain⟨u,hu,ru⟩:=r.get h2;apply⟨u,λc hc=>?_,λv hv'=>?_⟩
   ·rw[gE hn] at hc
    cases hc;exact⟨_,p,by simpa using hu⟩
   ·rw[h3] at hv'
    cases hv';exact ru
  obtain⟨us,lu,hu⟩:=mQ cs.length ex;have hrel:gw vs us:=vals_of ⋯ λn v u a b=>(hu n u b).2 v a
  apply zipS_go D (vs:=us) (λn c hc=>?_) lu λg z1 to1 m1 tp sz kk=>⟨_,rfl,?_⟩
  ·have hn:n<us.length:=by rw[lu];exact(ao.mp hc).1
   obtain⟨xs,a,b⟩:=(hu n _ (gE hn)).1 c hc;exact⟨xs,us[n],a,b,gE hn⟩
  apply wpAny_letOwnedTupleGo_zip z1 λg2 z2 s2=>?_
  have s2:d9 z g g2:=s2;have k2:∀e o,e ∉ z::TO::is→s.heap.get? e=some o→g2.get? e=some o:=λe o hn h=>by
   simp only[aE,not_or] at hn;exact s2.extBut _ _ hn.1 (kk e o hn.1 hn.2.1 hn.2.2 h)
  have zlt:z<s.heap.objs.size:=aO D.zip;have tp2:mU g2 s.heap.objs.size us:=s2.extBut _ _ (df zlt) tp;have sub:∀e∈z::TO::is,e∈z::TI::TO::is:=λe he=>by
   simp only[aE] at he ⊢
   rcases he with rfl | rfl | he <;> simp[*]
  have trk:∀e o,H e=some o→e ∉ z::TO::is:=λe o he hm=>by rw[nz e (sub e hm)] at he;cases he
  have J:Inv X aR σ (upd H s.heap.objs.size (.tup vs)) { s with heap:=g2 }:=by
   apply I.turnAll (ch:=z::TO::is) (λe he=>hf e (sub e he)) k2 (λe o h=>by rw[bz (bx h hT)];exact h) (λe o h n=>by rw[bz (bL (aO h))];exact n) λe o h=>?_
   by_cases q:e=s.heap.objs.size
   ·subst q
    rw[aN] at h;cases h;exact⟨by rw[lv];exact bj D.few ↥0,us,hrel,_,tp2,rfl,rfl,_,rfl⟩
   ·rw[bz q] at h
    apply (I.hok e o h).stay (fun c v hc' q'=>k2 c v (by
     rcases hc' with z' | z'
     ·rw[z'];exact trk e o h
     ·exact trk c _ z') q') (fun c q'=>by rw [bz (bx q' hT)];exact q') fun c xs q'=>by rw [bz (bx q' hT)];exact q'
  have nod:=D.nod;rw[bP,bP,bP] at nod;obtain⟨nz',nT,nO,ni⟩:=nod;apply⟨.ref s.heap.objs.size,_,J,rfl,⟨_,vs,hT,rfl,rfl,lv,λn c x xs hc hq hx=>?_⟩,⟨us,D.len,D.few,D.pos,D.nod,z2,?_,s2.extBut _ _ (λy=>nz' (by rw[←y];simp)) to1,lu,λn c j hc hj=>?_,D.off⟩,λe he=>?_⟩
  ·obtain⟨ys,y,h1,h2,h3⟩:=hv n c hc
   rw[h1.inj hq] at h2;rw[h3] at hx;cases hx;exact h2
  ·apply k2 _ _ (λy=>?_) D.ti
   rcases aE.mp y with y | y
   ·exact nz' (by rw[←y];simp)
   ·exact nT y
  ·exact(m1 n c j hc hj).ext λo e=>s2.extBut _ _ (λy=>nz' (by rw[←y];simp[bp hj])) e
  ·have hlt:e<s.heap.objs.size:=by
    simp only[aE] at he
    rcases he with rfl | rfl | rfl | he
    ·exact aO D.zip
    ·exact aO D.ti
    ·exact aO D.to
    ·obtain⟨n,hn⟩:=List.getElem?_of_mem he
     have hl:n<cs.length:=by rw[←D.len];exact(ao.mp hn).1
     obtain⟨o,ho,_⟩:=(D.its n _ e (gE hl) hn).obj;exact aO ho
   rw[bz (bL hlt)];exact nz e he
 done:=by
  intro X hP hw hK hc i aR s σ H E I hf st hg;subst hP hw hK;obtain⟨old,D⟩:=st;obtain⟨m,cm,xm,hm,hxm,hi,hv⟩:=hg;have nz:∀e∈z::TI::TO::is,H e=none:=λe he=>(hf e he).1
  have ex:∀n,n<cs.length→∃u:af,∀c,cs[n]? =some c→n<m→∃xs,SqAt s.heap c xs∧xs[i]? =some u:=λn hn=>by
   by_cases e:n<m
   ·obtain⟨xs,x,h1,h2⟩:=hv n _ (gE hn) e
    obtain⟨its,r,p⟩:=h1.at I;obtain⟨u,hu,ru⟩:=r.get h2;apply⟨u,λc hc _=>?_⟩;rw[gE hn] at hc;cases hc;exact⟨_,p,by simpa using hu⟩
   ·exact⟨.none,λc _ z=>rW z e⟩
  obtain⟨us,lu,hu⟩:=mQ cs.length ex;obtain⟨its,r,p⟩:=hxm.at I;have hl:=r.length;apply zipS_stop (I.ok.hd hc) D (vs:=us) (m:=m) (λn c hc hn=>?_) lu hm p (by simp;lia) λg kk=>⟨rfl,?_⟩
  ·have hn':n<us.length:=by rw[lu];exact(ao.mp hc).1
   obtain⟨xs,a,b⟩:=hu n _ (gE hn') c hc hn;exact⟨xs,us[n],a,b,gE hn'⟩
  have sub:∀e∈z::TO::is,e∈z::TI::TO::is:=λe he=>by
   simp only[aE] at he ⊢
   rcases he with rfl | rfl | he <;> simp[*]
  have k2:∀e o,e ∉ z::TO::is→s.heap.get? e=some o→g.get? e=some o:=λe o hn h=>by
   simp only[aE,not_or] at hn;exact kk e o hn.1 hn.2.1 hn.2.2 h
  have trk:∀e o,H e=some o→e ∉ z::TO::is:=λe o he hm=>by rw[nz e (sub e hm)] at he;cases he
  apply I.turnAll (ch:=z::TO::is) (λe he=>hf e (sub e he)) k2 (λ_ _ h=>h) (λ_ _ _ n=>n) λe o h=>?_
  exact (I.hok e o h).stay (fun c v hc' q'=>k2 c v (by
   rcases hc' with z' | z'
   ·rw[z'];exact trk e o h
   ·exact trk c _ z') q') (fun _ q'=>q') fun _ _ q'=>q'
 self:=λ_ _ _ _ _ st h=>let ⟨_,D⟩:=st;wpAny_pyIter_zip D.zip h
structure ZNew (h g:bO)(cs:List Sq):Prop where
 zip:IsZip g (h.objs.size+cs.length+2) (h.objs.size+cs.length) (h.objs.size+cs.length+1) .none
 ti:mU g (h.objs.size+cs.length) (((aJ cs.length).map λj=>h.objs.size+j).map af.ref)
 to:mU g (h.objs.size+cs.length+1) (bQ cs.length .none)
 its:∀(n:Nat) c,cs[n]? =some c→ItAt g c (h.objs.size+n) 0
 ext:∀b o,h.get? b=some o→g.get? b=some o
theorem newClass_zip (vs:List af):fg.SmallTypes.newClass "zip" ⟨.type "zip" :: vs,[]⟩=gf (.type "zip",vs):=by
 unfold fg.SmallTypes.newClass;simp only[isType,sub_zip,pure_bind,Bool.not_true,Bool.false_eq_true,if_false]
theorem zipS_new (cs:List Sq)(few:cs.length≤8) :
  Meets (fg.«zip.__new__» ⟨.type "zip" :: cs.map λc=>af.ref c.a,[]⟩) (λ_ R s=>(∀c∈cs,∃xs,SqAt s.heap c xs)∧∀g,ZNew s.heap g cs→R (.ok (.ret (.ref (s.heap.objs.size+cs.length+2)))) { s with heap:=g }) :=
 .of_wp λprog w A R s h=>by
  obtain⟨h1,h⟩:=h;unfold fg.«zip.__new__»;apply ah (wpAny_of_eq (newClass_zip _) ?_);show bc _ _ (fg.SmallTypes.iterAll (cs.map λc=>af.ref c.a) >>= _) _ _ _;apply ah ?_;unfold fg.SmallTypes.iterAll;apply ah (oT _ (λj its s'=>∃g,s'={ s with heap:=g }∧g.objs.size=s.heap.objs.size+j∧its=((aJ j).map λi=>af.ref (s.heap.objs.size+i)).toArray∧(∀(n:Nat) c,n<j→cs[n]? =some c→ItAt g c (s.heap.objs.size+n) 0)∧∀b o,s.heap.get? b=some o→g.get? b=some o) _ _ ⟨s.heap,rfl,rfl,rfl,λn c hn=>rW hn ⋯,λ_ _ e=>e⟩ ?_ ?_)
  ·rintro j a its s' ha ⟨g,rfl,sz,rfl,hit,ext⟩
   rw[ar] at ha;obtain⟨c,hc,rfl⟩:=br.mp ha;obtain⟨xs,hx⟩:=h1 c (bp hc);apply ah (eu (iterS (c:=c) (xs:=xs) (hx.ext λo e=>ext _ o e) λg2 i2 z2 e2=>?_));apply aP ⟨_,rfl,g2,rfl,?_,?_,λn c' hn hc'=>?_,λb o e=>e2 b o (ext b o e)⟩
   ·show g2.objs.size=_
    rw[z2];show g.objs.size+1=_;rw[sz];lia
   ·show Array.push _ (af.ref g.objs.size)=_
    rw[sz,List.range_succ,ax];simp
   ·by_cases e:n=j
    ·subst e
     rw[hc] at hc';cases hc';have i2:ItAt g2 c g.objs.size 0:=i2;rw[sz] at i2;exact i2
    ·exact(hit n c' ⋯ hc').ext λo q=>e2 _ o q
  ·rintro its s' ⟨g,rfl,sz,rfl,hit,ext⟩
   have ll:(cs.map λc=>af.ref c.a).length=cs.length:=aa ..;rw[ll] at sz hit ⊢;apply aP ?_
   dsimp only
   have n8:((aJ cs.length).map λi=>af.ref (s.heap.objs.size+i)).length≤bo:=by
    rw[aa,bq];exact bj few ↥0
   apply ah (wpAny_newTuple ?_ (by simpa using n8));apply ah (wpAny_newTuple ?_ (by simpa using n8));apply ah ?_;unfold fg.SmallTypes.newRecord;apply fv (aP ⟨_,rfl,?_⟩) (by show 5≤bo+2;decide);have e1:(g.push { cls:= .type "tuple",data:= .seq ((aJ cs.length).map λi=>af.ref (s.heap.objs.size+i)).toArray }).objs.size=s.heap.objs.size+cs.length+1:=by rw[gq,sz]
   have e2:((g.push { cls:= .type "tuple",data:= .seq ((aJ cs.length).map λi=>af.ref (s.heap.objs.size+i)).toArray }).push { cls:= .type "tuple",data:= .seq ((((aJ cs.length).map λi=>af.ref (s.heap.objs.size+i)).toArray.toList.map λ_=>af.none)).toArray }).objs.size=s.heap.objs.size+cs.length+2:=by rw[gq,e1]
   have key:=h (((g.push { cls:= .type "tuple",data:= .seq ((aJ cs.length).map λi=>af.ref (s.heap.objs.size+i)).toArray }).push { cls:= .type "tuple",data:= .seq ((((aJ cs.length).map λi=>af.ref (s.heap.objs.size+i)).toArray.toList.map λ_=>af.none)).toArray }).push { cls:= .type "zip",data:= .fields #[.none,.bool false,.bool false,.ref (s.heap.objs.size+cs.length),.ref (s.heap.objs.size+cs.length+1)] })
    ⟨by rw[←e2];exact aW _ rfl,?_,?_,λn c hc=>(hit n c (ao.mp hc).1 hc).ext λo q=>au _ (au _ (au _ q)),λb o q=>au _ (au _ (au _ (ext b o q)))⟩
   ·rw[←e2] at key
    have e1':(s.heap.objs.size+cs.length:Nat)=g.objs.size:=sz.symm;rw[←e1,e1'] at key;exact key
   ·have em:(((aJ cs.length).map λj=>s.heap.objs.size+j).map af.ref)=((aJ cs.length).map λi=>af.ref (s.heap.objs.size+i)):=by rw[cg];rfl
    show bO.get? _ _=_;rw[em,←sz];exact au _ (au _ (aW _ rfl))
   ·rw[←e1]
    have er:(((aJ cs.length).map λi=>af.ref (s.heap.objs.size+i)).toArray.toList.map λ_=>af.none)=bQ cs.length af.none:=by
     rw[List.eq_replicate_iff];exact⟨∅,λx hx=>by obtain⟨_,_,rfl⟩:=aL.mp hx;rfl⟩
    rw[er];exact au _ (aW _ rfl)
theorem zip_args3 (a b c d:af):argsOk "object.__init__" ⟨[a,b,c,d],[]⟩:=by
 unfold argsOk;rw[signature?_of (id := "object.__init__") (n:=['_','_','t','i','n','i','_','_']) (o:=['t','c','e','j','b','o']) (by kernel_rfl) F.owner_object]
 kernel_rfl
theorem zip_type3 (a b c:af):checkTypeCall "zip" ⟨[a,b,c],[]⟩=gf ():=by kernel_rfl
theorem zip_new3 (a b c:af):checkBuiltinCall "zip.__new__" ⟨[.type "zip",a,b,c],[]⟩=gf ():=by kernel_rfl
theorem zip_walk {s1:aq}{k0}{pt:Pos}{R:It→Hp→Prop}{cs:List Sq}(I1:Inv X aR σ H1 s1)(few:cs.length≤8)(pos:0<cs.length)(hq:∀c∈cs,∃xs,HSq H1 c xs)(q:R (Itq cs) H1){g:bO}(Z:ZNew s1.heap g cs) :
  bc (bE X.prog X.w) X.A (pyIter (.ref (s1.heap.objs.size+cs.length+2))) (PIE X aR σ (.Tuple es k0 pt) R) E { s1 with heap:=g }:=by
 have small:∀c∈cs,c.a<s1.heap.objs.size:=λc hc=>by
  obtain⟨xs,hx⟩:=hq c hc;obtain⟨o,ho⟩:=hx.has;exact Nat.lt_of_not_le λhge=>by rw[I1.hok.fresh hge] at ho;cases ho
 apply wpAny_pyIter_zip Z.zip ⟨_,(s1.heap.objs.size+cs.length+2)::(s1.heap.objs.size+cs.length)::(s1.heap.objs.size+cs.length+1)::((aJ cs.length).map λj=>s1.heap.objs.size+j),_,Itq cs,H1,rfl,I1.kept (t':=s1.toks) Z.ext,turn_zipS,⟨_,?_,few,pos,?_,Z.zip,Z.ti,Z.to,by rw[gv],λn c i hc hi=>?_,λc hc=>?_⟩,λe he=>?_,q⟩
 ·rw[aa,bq]
 ·have nd:((aJ cs.length).map λj=>s1.heap.objs.size+j).Nodup:=by
   rw[cb,dQ];exact(cb.mp List.nodup_range).imp λh e=>h ⋯
  have out:∀x,s1.heap.objs.size+cs.length≤x→x ∉ ((aJ cs.length).map λj=>s1.heap.objs.size+j):=λx hx hm=>by
   obtain⟨j,hj,rfl⟩:=aL.mp hm;have:=bF.mp hj;lia
  rw[bP,bP,bP];apply⟨λh=>?_,λh=>?_,λh=>out _ (by show @LE.le Nat _ _ _;lia) h,nd⟩
  ·rcases aE.mp h with h | h
   ·have h: @Eq Nat _ _:=h
    lia
   ·rcases aE.mp h with h | h
    ·have h: @Eq Nat _ _:=h
     lia
    ·exact out _ (by show @LE.le Nat _ _ _;lia) h
  ·rcases aE.mp h with h | h
   ·have h: @Eq Nat _ _:=h
    lia
   ·exact out _ (by show @LE.le Nat _ _ _;lia) h
 ·rw[ar,eE (ao.mp hc).1] at hi
  cases hi;exact Z.its n c hc
 ·have:=small c hc
  have this: @LT.lt Nat _ c.a s1.heap.objs.size:=this;apply⟨by show @Ne Nat _ _;lia,by show @Ne Nat _ _;lia,λhm=>?_⟩;obtain⟨j,hj,e⟩:=aL.mp hm;have e: @Eq Nat _ _:=e;lia
 ·have hge:s1.heap.objs.size≤e:=by
   simp only[aE] at he
   rcases he with rfl | rfl | rfl | he
   ·show @LE.le Nat _ _ _;lia
   ·show @LE.le Nat _ _ _;lia
   ·show @LE.le Nat _ _ _;lia
   ·obtain⟨j,hj,rfl⟩:=aL.mp he
    show @LE.le Nat _ _ _;lia
  exact I1.fpOk hge (I1.hok.fresh hge)
def iZip2 (ta:TA):TI:=λσ H R=>ta σ H λvs H1=>∃c1 c2 xs ys,vs=[.ref c1.a,.ref c2.a]∧HSq H1 c1 xs∧HSq H1 c2 ys∧R (Itq [c1,c2]) H1
theorem pi_zip2 {eb:Expr}{ta:TA}{p:Pos}{k0}{pt:Pos}(hg:Gl X "zip")(hm:X.mg "zip" =none)(ha:PA X [ea,eb] ta)(hs:bD [ea,eb] X.env=[(false,eG ea X.env),(false,eG eb X.env)]:=by rfl)(hs2:bD [eb] X.env=[(false,eG eb X.env)]:=by rfl) :
  PI X (.Tuple es k0 pt) (.Call (.Name "zip" p) [ea,eb] [] pos) (iZip2 ta):=by
 intro aR s σ H R I h;apply Call_ (lT I hg hm boot_zip (eO (thn (ha pos aR s σ H _ I h) λus s1 ⟨vs,H1,I1,r1,q1⟩=>?_) (by rw[hs,hs2]) (by rw[hs2];rfl)));obtain⟨c1,c2,xs,ys,e,h1,h2,q⟩:=q1;subst e;obtain⟨u1,u2,rfl,r2,r3⟩:=vals2 r1;cases(show u1=af.ref c1.a from r2);cases(show u2=af.ref c2.a from r3);obtain⟨_,_,p1⟩:=h1.at I1;obtain⟨_,_,p2⟩:=h2.at I1;apply callType_new F.called_zip ↥0 (F.typeCall_zip_2 _ _) (F.newCall_zip_2 _ _) (λobj=>F.args_object_init_3 obj _ _) F.entry_zip_new (zipS_new [c1,c2] (by show 2≤8;decide)) ⟨λc hc=>?_,λg Z=>⟨⟨_,Z.zip,rfl⟩,?_⟩⟩
 ·simp only[aE,cU,or_false] at hc
  rcases hc with rfl | rfl
  ·exact⟨_,p1⟩
  ·exact⟨_,p2⟩
 ·apply zip_walk (cs:=[c1,c2]) I1 (by show 2≤8;decide) (by show 0<2;decide) (λc hc=>?_) q Z
  simp only[aE,cU,or_false] at hc
  rcases hc with rfl | rfl
  ·exact⟨_,h1⟩
  ·exact⟨_,h2⟩
theorem valsThree {x z:V}(h:gw [x,y,z] us):∃u1 u2 u3,us=[u1,u2,u3]∧gQ x u1∧gQ y u2∧gQ z u3:=by
 cases h with
 | cons h1 r1=>cases r1 with
  | cons h2 r2=>cases r2 with
   | cons h3 r3=>cases r3;exact⟨_,_,_,rfl,h1,h2,h3⟩
def iZip3 (ta:TA):TI:=λσ H R=>ta σ H λvs H1=>∃c1 c2 c3 xs ys zs,vs=[.ref c1.a,.ref c2.a,.ref c3.a]∧HSq H1 c1 xs∧HSq H1 c2 ys∧HSq H1 c3 zs∧R (Itq [c1,c2,c3]) H1
theorem pi_zip3 {eb ec:Expr}{ta:TA}{p:Pos}{k0}{pt:Pos}(hg:Gl X "zip")(hm:X.mg "zip" =none)(ha:PA X [ea,eb,ec] ta)(hs:bD [ea,eb,ec] X.env=[(false,eG ea X.env),(false,eG eb X.env),(false,eG ec X.env)]:=by rfl)(hs2:bD [eb,ec] X.env=[(false,eG eb X.env),(false,eG ec X.env)]:=by rfl) :
  PI X (.Tuple es k0 pt) (.Call (.Name "zip" p) [ea,eb,ec] [] pos) (iZip3 ta):=by
 intro aR s σ H R I h;apply Call_ (lT I hg hm boot_zip (eO (thn (ha pos aR s σ H _ I h) λus s1 ⟨vs,H1,I1,r1,q1⟩=>?_) (by rw[hs,hs2]) (by rw[hs2];rfl)));obtain⟨c1,c2,c3,xs,ys,zs,e,h1,h2,h3,q⟩:=q1;subst e;obtain⟨u1,u2,u3,rfl,r2,r3,r4⟩:=valsThree r1;cases(show u1=af.ref c1.a from r2);cases(show u2=af.ref c2.a from r3);cases(show u3=af.ref c3.a from r4);obtain⟨_,_,p1⟩:=h1.at I1;obtain⟨_,_,p2⟩:=h2.at I1;obtain⟨_,_,p3⟩:=h3.at I1;apply callType_new F.called_zip ↥0 (zip_type3 _ _ _) (zip_new3 _ _ _) (λobj=>zip_args3 obj _ _ _) F.entry_zip_new (zipS_new [c1,c2,c3] (by show 3≤8;decide)) ⟨λc hc=>?_,λg Z=>⟨⟨_,Z.zip,rfl⟩,?_⟩⟩
 ·simp only[aE,cU,or_false] at hc
  rcases hc with rfl | rfl | rfl
  ·exact⟨_,p1⟩
  ·exact⟨_,p2⟩
  ·exact⟨_,p3⟩
 ·apply zip_walk (cs:=[c1,c2,c3]) I1 (by show 3≤8;decide) (by show 0<3;decide) (λc hc=>?_) q Z
  simp only[aE,cU,or_false] at hc
  rcases hc with rfl | rfl | rfl
  ·exact⟨_,h1⟩
  ·exact⟨_,h2⟩
  ·exact⟨_,h3⟩
theorem for_zip2 {c1 c2:Sq}{tb:TS}{D:Ends}(Pv:Nat→St→Hp→Prop)(h0:Pv 0 σ H)(hl:∀i σ H,i≤xs.length→Pv i σ H→HSq H c1 xs∧HSq H c2 ys)(hxy:xs.length=ys.length)
  (hs:∀i x y p σ H,xs[i]? =some x→ys[i]? =some y→Pv i σ H→H p=none→g (.ref p) σ (upd H p (.tup [x,y])) λσ2 H2=>tb { D with nx:=Pv (i+1),ct:=Pv (i+1),bk:=D.nx } σ2 H2) (hd:∀σ H,Pv xs.length σ H→D.nx σ H) :
  ∃W:Nat→Nat→St→Hp→Prop,(∃m,W 0 m σ H)∧∀i m σ H,W i m σ H →
   ((Itq [c1,c2]).stop i H∧D.nx σ H)∨((Itq [c1,c2]).go i H∧∃N:St→Hp→Prop,(∀σ' H',N σ' H'→∃m',m'<m∧W (i+1) m' σ' H')∧∀x H',(Itq [c1,c2]).yld i H x H'→g x σ H' λσ2 H2=>tb { D with nx:=N,ct:=N,bk:=D.nx } σ2 H2):=by
 apply⟨λi m σ H=>i≤xs.length∧m=xs.length - i∧Pv i σ H,⟨_,bK _,rfl,h0⟩,λi m σ H ⟨hi,hm,hp⟩=>?_⟩;obtain⟨qa,qb⟩:=hl i σ H hi hp
 by_cases e:i=xs.length
 ·subst e
  exact .inl ⟨⟨0,c1,xs,rfl,qa,aC _,λn c _ hn=>rW hn ⋯⟩,hd σ H hp⟩
 ·have hlt:i<xs.length:=gu hi e
  have hlt2:i<ys.length:=by lia
  apply .inr ⟨⟨[xs[i],ys[i]],rfl,λn c hc=>?_⟩,Pv (i+1),λσ' H' hp'=>⟨xs.length - (i+1),⋯,⋯,rfl,hp'⟩,λv H3 hy=>?_⟩
  ·match n,hc with
   | 0,hc=>cases hc;exact⟨xs,xs[i],qa,gE hlt,rfl⟩
   | 1,hc=>cases hc;exact⟨ys,ys[i],qb,gE hlt2,rfl⟩
   | n+2,hc=>simp at hc
  ·obtain⟨p,vs,hn,rfl,rfl,lv,hx⟩:=hy
   match vs,lv,hx with
   | [x,y],_,hx=>exact hs i x y p σ H (hx 0 c1 x xs rfl qa rfl) (hx 1 c2 y ys rfl qb rfl) hp hn
theorem for_zip3 {c1 c2 c3:Sq}{tb:TS}{D:Ends}(Pv:Nat→St→Hp→Prop)(h0:Pv 0 σ H)(hl:∀i σ H,i≤xs.length→Pv i σ H→HSq H c1 xs∧HSq H c2 ys∧HSq H c3 zs)(hxy:xs.length=ys.length)(hxz:xs.length=zs.length)
  (hs:∀i x y z p σ H,xs[i]? =some x→ys[i]? =some y→zs[i]? =some z→Pv i σ H→H p=none→g (.ref p) σ (upd H p (.tup [x,y,z])) λσ2 H2=>tb { D with nx:=Pv (i+1),ct:=Pv (i+1),bk:=D.nx } σ2 H2) (hd:∀σ H,Pv xs.length σ H→D.nx σ H) :
  ∃W:Nat→Nat→St→Hp→Prop,(∃m,W 0 m σ H)∧∀i m σ H,W i m σ H →
   ((Itq [c1,c2,c3]).stop i H∧D.nx σ H)∨((Itq [c1,c2,c3]).go i H∧∃N:St→Hp→Prop,(∀σ' H',N σ' H'→∃m',m'<m∧W (i+1) m' σ' H')∧∀x H',(Itq [c1,c2,c3]).yld i H x H'→g x σ H' λσ2 H2=>tb { D with nx:=N,ct:=N,bk:=D.nx } σ2 H2):=by
 apply⟨λi m σ H=>i≤xs.length∧m=xs.length - i∧Pv i σ H,⟨_,bK _,rfl,h0⟩,λi m σ H ⟨hi,hm,hp⟩=>?_⟩;obtain⟨qa,qb,qc⟩:=hl i σ H hi hp
 by_cases e:i=xs.length
 ·subst e
  exact .inl ⟨⟨0,c1,xs,rfl,qa,aC _,λn c _ hn=>rW hn ⋯⟩,hd σ H hp⟩
 ·have hlt:i<xs.length:=gu hi e
  have hlt2:i<ys.length:=by lia
  have hlt3:i<zs.length:=by lia
  apply .inr ⟨⟨[xs[i],ys[i],zs[i]],rfl,λn c hc=>?_⟩,Pv (i+1),λσ' H' hp'=>⟨xs.length - (i+1),⋯,⋯,rfl,hp'⟩,λv H3 hy=>?_⟩
  ·match n,hc with
   | 0,hc=>cases hc;exact⟨xs,xs[i],qa,gE hlt,rfl⟩
   | 1,hc=>cases hc;exact⟨ys,ys[i],qb,gE hlt2,rfl⟩
   | 2,hc=>cases hc;exact⟨zs,zs[i],qc,gE hlt3,rfl⟩
   | n+3,hc=>simp at hc
  ·obtain⟨p,vs,hn,rfl,rfl,lv,hx⟩:=hy
   match vs,lv,hx with
   | [x,y,z],_,hx=>exact hs i x y z p σ H (hx 0 c1 x xs rfl qa rfl) (hx 1 c2 y ys rfl qb rfl) (hx 2 c3 z zs rfl qc rfl) hp hn
theorem PE.cutV {t:TE}(h:PE X e t):PE X e (λσ H Q=>∃N:VK,(∀v H',N v H'→Q v H')∧t σ H N):=λaR s σ H Q I ⟨N,i,q⟩ =>
 thn (h aR s σ H N I q) λu s' ⟨v,H',I',rv,q'⟩=>⟨v,H',I',rv,i _ _ q'⟩
theorem rL {c1 c2:Sq}{Q:VK}(Pv:Nat→List V→Hp→Prop)(h0:Pv 0 [] H)(hl:∀i zs H,i≤xs.length→Pv i zs H→HSq H c1 xs∧HSq H c2 ys∧zs.length≤i)(hxy:xs.length=ys.length)(hz:xs.length≤bo)
  (hs:∀i x y zs p H,xs[i]? =some x→ys[i]? =some y→Pv i zs H→H p=none→tt (some x::some y::dB σ js) (upd H p (.tup [x,y])) λb H4=>if b=true then te (some x::some y::dB σ js) H4 λy H5=>Pv (i+1) (zs++[y]) H5 else Pv (i+1) zs H4)
  (hd:∀zs H,Pv xs.length zs H→∀D,H D=none→Q (.ref D) (upd H D (.lst zs))):rS 2 (gPair K) js tt te σ Q (Itq [c1,c2]) H:=by
 apply⟨λi m zs H=>i≤xs.length∧m=xs.length - i∧Pv i zs H,⟨_,bK _,rfl,h0⟩,λi m zs H2 ⟨hi,hm,hp⟩=>?_⟩;obtain⟨qa,qb,hy⟩:=hl i zs H2 hi hp
 by_cases e:i=xs.length
 ·subst e
  exact .inl ⟨⟨0,c1,xs,rfl,qa,aC _,λn c _ hn=>rW hn ⋯⟩,hd zs H2 hp⟩
 ·have hlt:i<xs.length:=gu hi e
  have hlt2:i<ys.length:=by lia
  apply .inr ⟨⟨[xs[i],ys[i]],rfl,λn c hc=>?_⟩,⋯,Pv (i+1),λys' H' hp'=>⟨xs.length - (i+1),⋯,⋯,rfl,hp'⟩,λv H3 hy3 v0 hv0=>?_⟩
  ·match n,hc with
   | 0,hc=>cases hc;exact⟨xs,xs[i],qa,gE hlt,rfl⟩
   | 1,hc=>cases hc;exact⟨ys,ys[i],qb,gE hlt2,rfl⟩
   | n+2,hc=>simp at hc
  ·obtain⟨p,vs,hn,rfl,rfl,lv,hx⟩:=hy3
   match vs,lv,hx,v0,hv0 with
   | [x,y],_,hx,[v1,v2],_=>exact⟨p,_,rfl,SqT.of aN,rfl,_,_,rfl,_,_,rfl,rfl,⟨[some x,some y],rfl,rfl⟩,hs i x y zs p H2 (hx 0 c1 x xs rfl qa rfl) (hx 1 c2 y ys rfl qb rfl) hp hn⟩
theorem call_rng2:ke X (.type "range") (λxs H Q=>∃i j:Int,xs=[.int i,.int j]∧New H (.rng i j) Q):=by
 intro aR s σ H xs us Q I r h;obtain⟨i,j,rfl,q⟩:=h;obtain⟨u1,u2,rfl,r1,r2⟩:=vals2 r;obtain⟨t1,rfl⟩:=(show ∃t,u1=af.int i t from r1);obtain⟨t2,rfl⟩:=(show ∃t,u2=af.int j t from r2);apply call_range_2 ?_;exact⟨.ref s.heap.objs.size,_,I.laid (t':=s.toks+1) (o:= .rng i j) (λ_ _ z=>au _ z) (aC _) ⟨_,_,_,aW _ rfl⟩,rfl,q.of _ I.fresh⟩
theorem call_listR2 (hc:X.calm=true):ke X (.type "list") (λxs H Q=>∃(a:ak) (lo hi:Int) (n:Nat),xs=[.ref a]∧H a=some (.rng lo hi)∧hi=lo+(n:Int)∧0≤lo∧lo≤1000∧n≤1000∧∀l,H l=none→Q (.ref l) (upd H l (.lst ((aJ n).map λk=>V.int (lo+(k:Nat)))))):=by
 intro aR s σ H xs us Q I r h;obtain⟨a,lo,hi,n,rfl,ha,e0,lo0,lo1,hn,q⟩:=h;obtain⟨u,rfl,ru⟩:=qR r;cases(show u=af.ref a from ru);obtain⟨t,u,v,hr⟩:=I.hok a _ ha;have hs:cY lo hi 1=n:=by
  unfold cY;rw[rV ↥0,e0]
  by_cases h0:lo<lo+(n:Int)
  ·rw[rV h0,Int.ediv_one];lia
  ·rw[rT h0];lia
 apply call_list_range (n:=n) (I.ok.hd hc) hr (by unfold gB;rw[hs];unfold jX;simp;lia) hs ⋯ λh' tk acc c hk hg hi=>?_
 apply⟨.ref s.heap.objs.size,_,I.laid (t':=tk) (o:= .lst ((aJ n).map λk=>V.int (lo+(k:Nat)))) hk (aC _) ⟨?_,acc.toList,c,?_,?_⟩,rfl,q _ I.fresh⟩
 ·rw[aa,bq];exact bj hn ↥0
 ·apply vals_at (by rw[aa,bq,de,hi.1]) λi x hx=>?_
  rw[ar] at hx;obtain⟨k,hk2,rfl⟩:=br.mp hx;have hik:i<n:=by have:=(ao.mp hk2).1;rw[bq] at this;exact this
  rw[eE hik] at hk2;cases hk2;have hi2:i<acc.size:=by rw[hi.1];exact hik
  have e:=dg hi2;obtain⟨t2,e2⟩:=hi.2 i _ e;apply⟨_,by rw[iE];exact e,⟨t2,?_⟩⟩;rw[e2];congr 1;lia
 ·rw[kg];exact hg
end L2
variable {cs:List L2.Sq}
local macro_rules
 | `(tactic|exists $s:term) => `(tactic|(show ∀ y:bV×PySem.NameKind,y∈_→y.2=PySem.NameKind.free→eR y.1 (L2.defScope $s).names=some PySem.NameKind.cell;decide +kernel))
local macro_rules
 | `(tactic|trivial) => `(tactic|first|decide +kernel|exact ⟨rfl,rfl,rfl,by decide +kernel,rfl,by decide +kernel,by decide +kernel⟩|exact True.intro)
local macro_rules
 | `(tactic|contradiction) => `(tactic|(intro _ _ _ _ h;first | (cases h;subst_vars;rfl) | ((repeat (obtain ⟨_,h⟩:=h));subst_vars;rfl)))
namespace L2
open PySem PyProof.Rows
theorem ixZ {a:Expr}{p q:Pos}{i:Int}{j}(h:PE X a ta):PE X (.Subscript a (.Constant (.int i) j p) q) (tOp (pj X.K) ta (tC (.int i))):=eM eJ h bI (λ_ _=>rfl)
theorem szZ1:1≤bo:=by decide
theorem oN:2≤bo:=by decide
theorem szZ4:4≤bo:=by decide
theorem szZ5:5≤bo:=by decide
theorem psZ (i:Nat)(hN:X.N.Nodup)(he:PE X e te)(hi:X.N[i]? =some x:=by rfl)(hx:Loc X.env.scope x:=by first|exact .inl rfl|exact .inr rfl)(hs:swapsWith e (some (.Name x pos')) pos.line X.env=gf false:=by rfl)(hf:X.fn x=true∨X.env.scope.names.lookup x=some .local:=by first|exact .inl rfl|exact .inr rfl|assumption):PS X (.Assign [.Name x pos'] e pos) (tAsg te (oR i)):=ps_set hN hi hx he hs hf
theorem pgZ (i:Nat)(hN:X.N.Nodup)(hi:X.N[i]? =some x:=by rfl)(hx:Loc X.env.scope x:=by first|exact .inl rfl|exact .inr rfl)(hf:X.fn x=true∨X.env.scope.names.lookup x=some .local:=by first|exact .inl rfl|exact .inr rfl|assumption):PG X (.Name x pos) (oR i):=oj hN hi hx hf
end L2
namespace L2
abbrev pza:List bV:=["net"]
abbrev pzb:List bV:=["_law_net_here","_law_table"]
abbrev pzc:List bV:=["net","bounds","ring"]
abbrev pzd:List bV:=["net","table"]
abbrev pze:List bV:=["_law_script","_law_k"]
abbrev pzf:List bV:=["_law_pot_here","_law_most"]
abbrev pzg:List bV:=["net","step"]
abbrev pzh:List bV:=["net","order"]
abbrev pzi:List bV:=["net","span"]
abbrev pzj:List bV:=["beat","number"]
abbrev pzk:List bV:=["net","case"]
abbrev pzl:List bV:=["net","spans","happening"]
abbrev pzm:List bV:=["net","most"]
abbrev pzn:List bV:=["net","leaf_in"]
abbrev pzo:List bV:=["_law_net_here"]
abbrev pzp:List bV:=["span","names"]
abbrev pzq:List bV:=["case","span"]
abbrev pzr:List bV:=["_law_pot_here","_law_times","_law_beat","_law_ends","_law_width","_law_kept"]
abbrev pzs:List bV:=["_law_pot_here","_law_times","_law_beat","_law_k","_law_lim","_law_spoils"]
abbrev pzt:List bV:=["_law_pot_here","_law_times","_law_beat","_law_most","_law_spoils"]
abbrev pzu:List bV:=["net","thing"]
abbrev pzv:List bV:=["one","other"]
abbrev pzw:List bV:=["rings","span"]
abbrev pzx:List bV:=["bounds","span","low","high"]
abbrev pzy:List bV:=["net","rings","wait","case"]
abbrev pzz:List bV:=["_law_net_here","_law_told"]
abbrev pzA:List bV:=["_law_net_here","_law_told","_law_table","_law_wait_here"]
abbrev pzB:List bV:=["_law_script","_law_most","_law_extras","_law_spoils"]
abbrev pzC:List bV:=["net","table","order"]
abbrev pzD:List bV:=["span","number"]
abbrev pzE:List bV:=["net","number"]
abbrev pzF:List bV:=["table","number"]
abbrev pzG:List bV:=["bounds","way"]
abbrev pzH:List bV:=["net","bounds","leaf"]
abbrev pzI:List bV:=["net","spans","begin","end"]
abbrev pzJ:List bV:=["self","case","span","at"]
abbrev pzK:List bV:=["net","steps","bounds"]
abbrev pzL:List bV:=["net","rings","bounds"]
abbrev pzM:List bV:=["net","table","span"]
abbrev pzN:List bV:=["_law_cell","_law_k"]
abbrev pzO:List bV:=["_law_net_here","_law_other_here"]
abbrev pzP:List bV:=["_law_script","_law_many"]
abbrev pzQ:List bV:=["_law_script","_law_net_here"]
end L2
namespace HN
open PySem L2 PyProof.Rows
def isI:V→Bool
 | .int _=>true
 | _=>false
def Kn (H:Hp)(v:V):Prop:=∃T,tyn H v=some T
theorem sort_int (h:tyn H v=some T):(T == "int" || T == "bool")=true→(!(T == "bool"))=isI v:=by
 cases v with
 | ref a =>
  simp only[tyn] at h;cases q:H a with
  | none=>rw[q] at h;cases h
  | some o=>rw[q] at h;cases o <;> first | (cases h;intro z;exact rW z ↥0) | cases h
 | non=>cases h;intro z;exact rW z ↥0
 | bl b=>cases h;intro _;show(!("bool" == "bool"))=false;decide
 | int i=>cases h;intro _;show(!("int" == "bool"))=true;decide
 | str x=>cases h;intro z;exact rW z ↥0
 | _=>cases h
theorem sort_noInt (h:tyn H v=some T):¬(T == "int" || T == "bool")=true→isI v=false:=by
 cases v with
 | int i=>cases h;intro z;exact rW ↥0 z
 | _=>intro _;rfl
theorem qQ {b:Bool}{A:Prop}(h:b=true)(x:A):if b=true then A else B:=by rw[rV h];exact x
theorem lW {b:Bool}{A:Prop}(h:b=false)(x:B):if b=true then A else B:=by rw[rT (by rw[h];exact aS)];exact x
structure Nm (mg:Str→Option af):Prop where
 isin:mg "isinstance" =none
 tint:mg "int" =none
 tbool:mg "bool" =none
 ttup:mg "tuple" =none
 len:mg "len" =none
 min:mg "min" =none
 all:mg "all" =none
structure Fn (K:ai)(mg:Str→Option af)(x:Str)(st:cJ)(ps:List Str)(f:ak)(fd:bh):Prop where
 F:Fun K x x st f fd
 mg:mg x=some (.ref f)
 b:oA K fd ps []
theorem pc1 {k:Nat}{sp:Sp}{p:Pos}(G:Fn X.K X.mg x st ps f fd)(F:cG X.prog X.w X.K X.mg X.base CX0 k f fd ps sp)(hr:iD k X.A)
  (ha:PA X (e::es) t) (hg:Gl X x:=by rfl) (hdb:(x == ("__debug__" :Str))=false:=by decide) (he:bD (e::es) X.env=(false,eG e X.env)::bD es X.env:=by rfl) (hpl:(gg pos (bD es X.env)).any (·.1)=false:=by rfl) :
  PE X (.Call (.Name x p) (e::es) [] pos) (tCall sp [] E0 t):=pe_call F hr hg G.mg G.F.kp G.b .nil pass0 ha hdb he hpl
theorem pe_gint {i:Int}(hm:∃t,X.mg x=some (.int i t))(hg:Gl X x:=by rfl)(hd:(x == ("__debug__" :Str))=false:=by decide):PE X (.Name x pos) (tC (.int i)) :=
 let ⟨t,e⟩:=hm;pe_glob (v:= .int i) (u:= .int i t) hg e ⟨t,rfl⟩ hd
theorem pe_isTup {p:Pos}(N:Nm X.mg)(he:PE X e te)(hg:Gl X "isinstance" := by rfl)(hg2:Gl X "tuple" := by rfl)
  (hs1:bD [e,.Name "tuple" p2] X.env=(false,eG e X.env)::bD [.Name "tuple" p2] X.env:=by rfl) (hpl:(gg pos (bD [.Name "tuple" p2] X.env)).any (·.1)=false:=by rfl) :
  PE X (.Call (.Name "isinstance" p) [e,.Name "tuple" p2] [] pos) (tCB (λxs H Q=>∃x T,xs=[x,.ty "tuple"]∧tyn H x=some T∧Q (.bl (T == "tuple")) H) (pP te (pP (tC (.ty "tuple")) tNil))) :=
 d5 call_isTup hg N.isin boot_isinstance (ae he (ae (pe_bltn hg2 N.ttup eX rfl) aA) hs1) (he:=hs1) (hpl:=hpl)
theorem pe_isInt {p:Pos}(N:Nm X.mg)(he:PE X e te)(hg:Gl X "isinstance" := by rfl)(hg2:Gl X "int" := by rfl)
  (hs1:bD [e,.Name "int" p2] X.env=(false,eG e X.env)::bD [.Name "int" p2] X.env:=by rfl) (hpl:(gg pos (bD [.Name "int" p2] X.env)).any (·.1)=false:=by rfl) :
  PE X (.Call (.Name "isinstance" p) [e,.Name "int" p2] [] pos) (tCB (λxs H Q=>∃x T,xs=[x,.ty "int"]∧tyn H x=some T∧Q (.bl (T == "int" || T == "bool")) H) (pP te (pP (tC (.ty "int")) tNil))) :=
 d5 call_isInt hg N.isin boot_isinstance (ae he (ae (pe_bltn hg2 N.tint boot_int rfl) aA) hs1) (he:=hs1) (hpl:=hpl)
theorem pe_isBool {p:Pos}(N:Nm X.mg)(he:PE X e te)(hg:Gl X "isinstance" := by rfl)(hg2:Gl X "bool" := by rfl)
  (hs1:bD [e,.Name "bool" p2] X.env=(false,eG e X.env)::bD [.Name "bool" p2] X.env:=by rfl) (hpl:(gg pos (bD [.Name "bool" p2] X.env)).any (·.1)=false:=by rfl) :
  PE X (.Call (.Name "isinstance" p) [e,.Name "bool" p2] [] pos) (tCB (λxs H Q=>∃x T,xs=[x,.ty "bool"]∧tyn H x=some T∧Q (.bl (T == "bool")) H) (pP te (pP (tC (.ty "bool")) tNil))) :=
 d5 call_isBool hg N.isin boot_isinstance (ae he (ae (pe_bltn hg2 N.tbool boot_bool rfl) aA) hs1) (he:=hs1) (hpl:=hpl)
inductive spWhole (vs:List V)(H:Hp)(Q:VK)(_:XK):Prop
 | mk (v:_)(_:vs=[v])(_:Kn H v)(_:Q (.bl (isI v)) H)
structure Sn where
 s:Int
 g:Int
 l:Int
 o:Int
 w:Int
abbrev Sn.row (x:Sn):List Int:=[x.s,x.g,x.l,x.o,x.w]
abbrev jA (b m:Int)(sp:List Sn):Dt:= .tup [.int b,.int m,.tup (sp.map λx=> .tup (x.row.map Dt.int))]
theorem eU {m:Int}{sp:List Sn}(h:IsD H v (jA b m sp)):∃t p ys,v= .ref t∧H t=some (.tup [.int b,.int m,.ref p])∧H p=some (.tup ys)∧ys.length=sp.length∧∀(i:Nat) (x:Sn),sp[i]? =some x→∃q,ys[i]? =some (.ref q)∧H q=some (.tup [.int x.s,.int x.g,.int x.l,.int x.o,.int x.w]):=by
 obtain⟨t,xs,rfl,ht,rx⟩:=h.tup_of;cases rx with
 | cons h0 r0 =>
  cases r0 with
  | cons h1 r1 =>
   cases r1 with
   | cons h2 r2 =>
    cases r2;cases h0;cases h1;obtain⟨p,ys,rfl,hp,ry⟩:=h2.tup_of;apply⟨t,p,ys,rfl,ht,hp,by rw[ry.length,aa],λi x hx=>?_⟩;obtain⟨y,hy,dy⟩:=ry.at (i:=i) (d:= .tup (x.row.map Dt.int)) (by rw[ar,hx];rfl);obtain⟨q,zs,rfl,hq,rz⟩:=dy.tup_of;have ez:=rz.ints_of;subst ez;exact⟨q,hy,hq⟩
def tm (ts:List Int)(i:Int):Int:=ts.getD i.toNat 0
theorem pO {i:Int}(h0:0≤i)(h1:i<ts.length):atI (ts.map V.int) i=some (.int (tm ts i)):=by
 obtain⟨j,rfl⟩:=cp h0;apply aB ?_;rw[ar,gE ⋯];unfold tm;rw[cM,ag,gE ⋯];rfl
structure Rdy (b:Int)(ts:List Int)(sp:List Sn):Prop where
 b1:0<b
 few:sp.length≤1000
 ends:∀x∈sp,0≤x.s∧x.s<ts.length∧0≤x.g∧x.g<ts.length
def cR (b:Int)(ts:List Int)(x:Sn):Int:=(tm ts x.g - tm ts x.s - x.l) % b
def jO (b:Int)(ts:List Int)(sp:List Sn):List Int:=sp.map (cR b ts)
def brk (b:Int)(ts:List Int)(x:Sn):Bool:=decide (x.o - x.l<cR b ts x)
def fF (b:Int)(ts:List Int)(sp:List Sn):Bool:= !(sp.any (brk b ts))
def bU (b:Int)(ts:List Int)(sp:List Sn):Int:=(sp.map λx=>x.w * cR b ts x).sum
theorem dm (h:n≤1000):n≤bo:=bj h ↥0
structure Nt (mg:Str→Option af):Prop where
 range:mg "range" =none
 enum:mg "enumerate" =none
 zip:mg "zip" =none
 sum:mg "sum" =none
 tlist:mg "list" =none
 max:mg "max" =none
structure SnOk (b m:Int)(x:Sn):Prop where
 s0:0≤x.s
 s1:x.s<m
 g0:0≤x.g
 g1:x.g<m
 ne:x.s≠x.g
 l0:0≤x.l
 lo:x.l≤x.o
 ob:x.o<x.l+b
 o60:x.o<10 ^ 60
 w0:0≤x.w
 w1:x.w≤1000000000000
structure ia (b m:Int)(sp:List Sn):Prop where
 b1:1≤b
 b2:b≤10 ^ 59
 m1:1≤m
 m2:m≤16
 few:sp.length≤40
 all:∀x∈sp,SnOk b m x
theorem ia.rdy {m:Int}{sp:List Sn}(h:ia b m sp)(ht:(ts.length:Int)=m):Rdy b ts sp :=
 ⟨by have:=h.b1;lia,by have:=h.few;lia,λx hx=>by have:=h.all x hx;exact⟨this.s0,by have:=this.s1;lia,this.g0,by have:=this.g1;lia⟩⟩
theorem ia.ws {m:Int}{sp:List Sn}(h:ia b m sp):∀x∈sp,0≤x.w∧x.w≤1000000000000:=λx hx=>⟨(h.all x hx).w0,(h.all x hx).w1⟩
theorem tm_in {i:Int}(h:∀i∈ts,0≤i∧i<b)(h0:0≤i)(h1:i<ts.length):0≤tm ts i∧tm ts i<b:=by
 have hi:i.toNat<ts.length:=by lia
 have e:tm ts i=ts[i.toNat]:=by unfold tm;rw[ag,gE hi];rfl
 rw[e];exact h _ (bH hi)
theorem pf (x y l b:Int):(x % b - y % b - l) % b=(x - y - l) % b:=by
 have hx:=fJ x b;have hy:=fJ y b;have e:x - y - l=(x % b - y % b - l)+b * (x / b - y / b):=by rw[Int.mul_sub];lia
 rw[e,kX]
inductive spRest (vs:List V)(H:Hp)(Q:VK)(_:XK):Prop
 | mk (b n:_)(_:vs=[.int b,.int n])(_:0<b)(_:Q (.int (n % b)) H)
inductive spWidth (vs:List V)(H:Hp)(Q:VK)(_:XK):Prop
 | mk (v b m sp i x:_)(_:vs=[v,.int (i:Nat)])(_:IsD H v (jA b m sp))(_:sp[i]? =some x)(_:Q (.int (x.o - x.l)) H)
inductive spWaitIn (vs:List V)(H:Hp)(Q:VK)(_:XK):Prop
 | mk (v u b m sp ts i x:_)(_:vs=[v,.ref u,.int (i:Nat)])(_:IsD H v (jA b m sp))(_:H u=some (.tup (ts.map V.int)))(_:Rdy b ts sp)(_:sp[i]? =some x)(_:Q (.int (cR b ts x)) H)
inductive spWaits (vs:List V)(H:Hp)(Q:VK)(_:XK):Prop
 | mk (v u b m sp ts:_)(_:vs=[v,.ref u])(_:IsD H v (jA b m sp))(_:H u=some (.tup (ts.map V.int)))(_:Rdy b ts sp)(_:∀p H',bC H H'→H' p=some (.tup ((jO b ts sp).map V.int))→Q (.ref p) H')
inductive spFits (vs:List V)(H:Hp)(Q:VK)(_:XK):Prop
 | mk (v u b m sp ts:_)(_:vs=[v,.ref u])(_:IsD H v (jA b m sp))(_:H u=some (.tup (ts.map V.int)))(_:Rdy b ts sp)(_:∀H',bC H H'→Q (.bl (fF b ts sp)) H')
inductive nc (vs:List V)(H:Hp)(Q:VK)(_:XK):Prop
 | mk (v u b m sp ts:_)(_:vs=[v,.ref u])(_:IsD H v (jA b m sp))(_:H u=some (.tup (ts.map V.int)))(_:Rdy b ts sp)(_:(∀x∈sp,0≤x.w∧x.w≤1000000000000))(_:∀H',bC H H'→Q (.int (bU b ts sp)) H')
inductive spCell (K:ai)(vs:List V)(H:Hp)(Q:VK)(_:XK):Prop
 | mk (a:ak)(ns:List Int)(k:Int)(_:vs=[.ref a,.int k])(_:SqL K H a (ns.map V.int))(_:0≤k)(_:∀c:Int,Q (.int c) H)
theorem atI_in {xs:List α}{r:Int}(h0:0≤r)(h1:r<xs.length):∃v,atI xs r=some v∧v∈xs:=by
 obtain⟨j,rfl⟩:=cp h0;have hj:j<xs.length:=by lia
 exact⟨xs[j],aB (gE hj),bH hj⟩
theorem log_ok {m:Int}(h0:0<m)(h:m<10 ^ 61):0<m∧m.natAbs.log2<9000:=by
 apply⟨h0,?_⟩;have h1:m.natAbs<2 ^ 300:=by
  have:(10:Nat) ^ 61<2 ^ 300:=by trivial
  have h2:m.natAbs<10 ^ 61:=by lia
  exact jV h2 this
 have h3:m.natAbs≠0:=by lia
 have:=(Nat.log2_lt h3).mpr h1;lia
theorem goal_ok {s t m:Int}(h0:0≤s)(h1:s<m)(h2:0≤t)(h3:t<m - 1):0≤(s+1+t) % m∧(s+1+t) % m<m∧s≠(s+1+t) % m:=by
 have hm:0<m:=by lia
 have a:=dJ (s+1+t) (by lia:m≠0);have b:=dv (s+1+t) hm;apply⟨a,b,?_⟩
 by_cases q:s+1+t<m
 ·rw[jW ⋯ q];lia
 ·have e:(s+1+t) % m=(s+1+t - m) % m:=(Int.sub_emod_right _ _).symm
  rw[e,jW ⋯ ⋯];lia
abbrev rowsP {α:Type}(f:α→List Int)(xs:List α):Dt:= .tup (xs.map λx=> .tup ((f x).map Dt.int))
theorem kI {f:α→List Int}{xs:List α}(r:dW H ys (xs.map λx=> .tup ((f x).map Dt.int))){x:α}(hx:xs[i]? =some x):∃q,ys[i]? =some (.ref q)∧H q=some (.tup ((f x).map V.int)):=by
 obtain⟨y,hy,dy⟩:=r.at (i:=i) (d:= .tup ((f x).map Dt.int)) (by rw[ar,hx];rfl);obtain⟨q,zs,rfl,hq,rz⟩:=dy.tup_of;have ez:=rz.ints_of;subst ez;exact⟨q,hy,hq⟩
theorem jq {f:α→List Int}{xs:List α}(h:IsD H v (rowsP f xs)):∃p ys,v= .ref p∧H p=some (.tup ys)∧ys.length=xs.length∧dW H ys (xs.map λx=> .tup ((f x).map Dt.int)):=by
 obtain⟨p,ys,rfl,hp,ry⟩:=h.tup_of;exact⟨p,ys,rfl,hp,by rw[ry.length,aa],ry⟩
structure Stp where
 i:Nat
 d:Int
abbrev Stp.row (s:Stp):List Int:=[(s.i:Int),s.d]
abbrev oB (ws:List Stp):Dt:=rowsP Stp.row ws
abbrev bndR (p:Int×Int):List Int:=[p.1,p.2]
abbrev bndP (bs:List (Int×Int)):Dt:=rowsP bndR bs
def frm (x:Sn)(d:Int):Int:=if d=1 then x.s else x.g
def too (x:Sn)(d:Int):Int:=if d=1 then x.g else x.s
def qU (n:Nat)(ws:List Stp):Prop:=∀s∈ws,s.i<n∧(s.d=1∨s.d= -1)
def mw (sp:List Sn)(s:Stp):Int:=match sp[s.i]? with | some x=>frm x s.d | none=>0
def fQ (sp:List Sn)(s:Stp):Int:=match sp[s.i]? with | some x=>too x s.d | none=>0
def rB (bs:List (Int×Int))(s:Stp):Int:=match bs[s.i]? with | some p=>if s.d=1 then p.1 else -p.2 | none=>0
def lY (bs:List (Int×Int))(s:Stp):Int:=match bs[s.i]? with | some p=>if s.d=1 then p.2 else -p.1 | none=>0
def fR (bs:List (Int×Int))(ws:List Stp):Int:=(ws.map (rB bs)).sum
def iX (bs:List (Int×Int))(ws:List Stp):Int:=(ws.map (lY bs)).sum
inductive spFrom (vs:List V)(H:Hp)(Q:VK)(_:XK):Prop
 | mk (v:V)(q:ak)(b m:Int)(sp:List Sn)(s:Stp)(x:Sn)(_:vs=[v,.ref q])(_:IsD H v (jA b m sp))(_:H q=some (.tup (s.row.map V.int)))(_:sp[s.i]? =some x)(_:Q (.int (frm x s.d)) H)
inductive spTo (vs:List V)(H:Hp)(Q:VK)(_:XK):Prop
 | mk (v:V)(q:ak)(b m:Int)(sp:List Sn)(s:Stp)(x:Sn)(_:vs=[v,.ref q])(_:IsD H v (jA b m sp))(_:H q=some (.tup (s.row.map V.int)))(_:sp[s.i]? =some x)(_:Q (.int (too x s.d)) H)
inductive spFirst (vs:List V)(H:Hp)(Q:VK)(_:XK):Prop
 | mk (v:V)(b m:Int)(sp:List Sn)(_:vs=[v])(_:IsD H v (jA b m sp))(_:sp.length≤1000)(_:∀u H',bC H H'→IsD H' u (bndP (sp.map λx=>(x.l,x.o)))→Q u H')
inductive spSum (vs:List V)(H:Hp)(Q:VK)(_:XK):Prop
 | mk (vb vw:V)(bs:List (Int×Int))(ws:List Stp)(_:vs=[vb,vw])(_:IsD H vb (bndP bs))(_:IsD H vw (oB ws))(_:qU bs.length ws)(_:∀p H',bC H H'→H' p=some (.tup [.int (fR bs ws),.int (iX bs ws)])→Q (.ref p) H')
abbrev dO {α:Type}(f:α→List Int)(xs:List α):List Dt:=xs.map λx=> .tup ((f x).map Dt.int)
structure N3 (mg:Str→Option af):Prop where
 tset:mg "set" =none
def kr (H H':Hp):Prop:=∀q xs,H q=some (.tup xs)→H' q=some (.tup xs)
theorem kr.trans (a:kr H H1)(b:kr H1 H2):kr H H2:=λq xs h=>b q xs (a q xs h)
theorem bC.tupK (e:bC H H'):kr H H':=λ_ _ h=>e _ _ h
theorem fV {p:ak}(hp:H p=some (.lst xs)):kr H (upd H p o):=λq ys h=>by rw[bz (fb h hp nofun)];exact h
theorem fh {α:Type}{f:α→List Int}{H H':Hp}(e:kr H H'):∀{xs:List α} {zs:List V},dW H zs (dO f xs)→dW H' zs (dO f xs)
 | [],_,h=>by cases h;exact .nil
 | x::xs,zs,h=>by
  unfold dO at h ⊢;rw[bX] at h ⊢;cases h with
  | cons h1 h2 =>
   obtain⟨q,ws,rfl,hq,rw'⟩:=h1.tup_of;have e2:=rw'.ints_of;subst e2;exact .cons (.tup (e q _ hq) (dW.ints _)) (fh e h2)
def BsU (bs:List (Int×Int)):Prop:=∀q∈bs,0≤q.1∧q.1≤q.2∧q.2<10 ^ 60
def upB (b s:Int):Int:= -(-s / b)
inductive pW (vs:List V)(H:Hp)(Q:VK)(_:XK):Prop
 | mk (vn vb vw:V)(b m:Int)(sp:List Sn)(bs:List (Int×Int))(ws:List Stp)(_:vs=[vn,vb,vw])(_:IsD H vn (jA b m sp))(_:0<b)(_:b<10 ^ 61)(_:IsD H vb (bndP bs))(_:IsD H vw (oB ws))(_:qU bs.length ws)(_:∀p H',bC H H'→H' p=some (.tup [.int (upB b (fR bs ws)),.int (iX bs ws / b)])→Q (.ref p) H')
inductive Lf where
 | ring (ws:List Stp)
 | price (rows:List (Int×List Stp))
abbrev rowD (r:Int×List Stp):Dt:= .tup [.int r.1,oB r.2]
def leafP:Lf→Dt
 | .ring ws=> .tup [.str "ring",oB ws]
 | .price rows=> .tup [.str "price",.tup (rows.map rowD)]
def jR (b:Int)(bs:List (Int×Int))(ws:List Stp):Bool:=decide (upB b (fR bs ws) > iX bs ws / b)
def sureB (b:Int)(bs:List (Int×Int))(ws:List Stp):Bool:=decide (upB b (fR bs ws)=iX bs ws / b)
inductive spDead (vs:List V)(H:Hp)(Q:VK)(_:XK):Prop
 | mk (vn vb vw:V)(b m:Int)(sp:List Sn)(bs:List (Int×Int))(ws:List Stp)(_:vs=[vn,vb,vw])(_:IsD H vn (jA b m sp))(_:0<b)(_:b<10 ^ 61)(_:IsD H vb (bndP bs))(_:IsD H vw (oB ws))(_:qU bs.length ws)(_:∀H',bC H H'→Q (.bl (jR b bs ws)) H')
inductive spSure (vs:List V)(H:Hp)(Q:VK)(_:XK):Prop
 | mk (vn vb vw:V)(b m:Int)(sp:List Sn)(bs:List (Int×Int))(ws:List Stp)(_:vs=[vn,vb,vw])(_:IsD H vn (jA b m sp))(_:0<b)(_:b<10 ^ 61)(_:IsD H vb (bndP bs))(_:IsD H vw (oB ws))(_:qU bs.length ws)(_:∀H',bC H H'→Q (.bl (sureB b bs ws)) H')
theorem dW.takeN {H:Hp}:∀{xs:List V} {ds:List Dt} (n:Nat),dW H xs ds→dW H (xs.take n) (ds.take n)
 | _,_,0,_=> .nil
 | _,_,_+1,.nil=> .nil
 | _,_,n+1,.cons h r=> .cons h (dW.takeN n r)
theorem dW.dropN {H:Hp}:∀{xs:List V} {ds:List Dt} (n:Nat),dW H xs ds→dW H (xs.drop n) (ds.drop n)
 | _,_,0,h=>h
 | _,_,_+1,.nil=> .nil
 | _,_,n+1,.cons _ r=>dW.dropN n r
def qP (sp:List Sn):Int→List Stp→Int→Prop
 | x,[],y=>x=y
 | x,s::ws,y=>mw sp s=x∧qP sp (fQ sp s) ws y
theorem qP.append {sp:List Sn}:∀{us:List Stp} {x y z:Int} {vs:List Stp},qP sp x us y→qP sp y vs z→qP sp x (us++vs) z
 | [],_,_,_,_,h,k=>by cases h;exact k
 | _::us,_,_,_,_,h,k=>⟨h.1,qP.append (us:=us) h.2 k⟩
theorem mO {sp:List Sn}(h:j<sp.length):mw sp ⟨j,d⟩=frm sp[j] d:=by
 unfold mw;show(match sp[j]? with | some x=>frm x d | none=>0)=_;rw[gE h]
theorem k3 {sp:List Sn}(h:j<sp.length):fQ sp ⟨j,d⟩=too sp[j] d:=by
 unfold fQ;show(match sp[j]? with | some x=>too x d | none=>0)=_;rw[gE h]
theorem ends_of_span {sp:List Sn}{st:Stp}(h:j<sp.length)(e:st.i=j)(hs:st.d=1∨st.d= -1)(hd:d=1∨d= -1):fQ sp st=fQ sp ⟨j,d⟩∨mw sp st=fQ sp ⟨j,d⟩:=by
 obtain⟨i,dd⟩:=st;have e:i=j:=e;subst e;have hs:dd=1∨dd= -1:=hs;rw[k3 h,k3 h,mO h];unfold too frm
 rcases hs with rfl | rfl <;> rcases hd with rfl | rfl <;> simp
structure Bk (sp:List Sn)(be ou:Int)(x:Int)(ws:List Stp):Prop where
 inn:qU sp.length ws
 alo:qP sp be ws x
 one:(ws.map Stp.i).Nodup
 out:∀s∈ws,(s.i:Int)≠ou
structure Rg (sp:List Sn)(ws:List Stp):Prop where
 inn:qU sp.length ws
 two:2≤ws.length
 few:ws.length≤17
 one:(ws.map Stp.i).Nodup
 rnd:∃x,qP sp x ws x
theorem Bk.ring {sp:List Sn}{k:Nat}{ws:List Stp}(hk:k<sp.length)(hne:sp[k].s≠sp[k].g)(h:Bk sp sp[k].g (k:Nat) sp[k].s ws)(hl:ws.length≤16):Rg sp (⟨k,1⟩::ws):=by
 apply⟨λs hs=>?_,?_,by rw[bf];lia,?_,sp[k].s,?_,?_⟩
 ·rcases aE.mp hs with rfl | hs
  ·exact⟨hk,.inl rfl⟩
  ·exact h.inn s hs
 ·cases ws with
  | nil=>exact rW h.alo.symm hne
  | cons a r=>rw[bf,bf];lia
 ·rw[bX,bP]
  apply⟨λz=>?_,h.one⟩;obtain⟨st,hst,e⟩:=aL.mp z;exact h.out st hst (by rw[e])
 ·rw[mO hk];rfl
 ·rw[k3 hk];exact h.alo
inductive spWithB (vs:List V)(H:Hp)(Q:VK)(_:XK):Prop
 | mk (vb:V)(k:Nat)(lo hi:Int)(bs:List (Int×Int))(_:vs=[vb,.int (k:Nat),.int lo,.int hi])(_:IsD H vb (bndP bs))(_:k<bs.length)(_:bs.length≤40)(_:∀u H',bC H H'→IsD H' u (bndP (bs.set k (lo,hi)))→Q u H')
inductive Tq where
 | leaf (d:Dt)
 | cut (k:Nat) (a:Int) (x y:Tq)
def kZ:Tq→Dt
 | .leaf d=>d
 | .cut k a x y=> .tup [.str "cut",.int (k:Nat),.int a,kZ x,kZ y]
def lR (bs:List (Int×Int))(k:Nat)(a:Int):List (Int×Int):=bs.set k ((bs.getD k (0,0)).1,a)
def fI (bs:List (Int×Int))(k:Nat)(a:Int):List (Int×Int):=bs.set k (a+1,(bs.getD k (0,0)).2)
theorem one_len (bs:List (Int×Int))(k:Nat)(a:Int):(lR bs k a).length=bs.length:=by unfold lR;rw[iu]
theorem other_len (bs:List (Int×Int))(k:Nat)(a:Int):(fI bs k a).length=bs.length:=by unfold fI;rw[iu]
end HN
variable {S:List HN.Stp}{c:List (Int×List HN.Stp)×List Int}{rg' rs:List (Nat×List HN.Stp)}{rows:List (Int×List HN.Stp)}{sp sp' sp1 sp2:List HN.Sn}
namespace L2
open PySem PyProof.Rows HN
mutual
theorem IsD.keepP {H H':Hp}(e:kr H H'):∀{v:V} {d:Dt},IsD H v d→pl d=true→IsD H' v d
 | _,_,.non,_=> .non
 | _,_,.bl b,_=> .bl b
 | _,_,.int i,_=> .int i
 | _,_,.str x,_=> .str x
 | _,_,.tup h r,p=> .tup (e _ _ h) (dW.keepP e r (by unfold pl at p;exact p))
 | _,_,.lst h,p=>by unfold pl at p;cases p
 | _,_,.dct h,p=>by unfold pl at p;cases p
theorem dW.keepP {H H':Hp}(e:kr H H'):∀{xs:List V} {ds:List Dt},dW H xs ds→pls ds=true→dW H' xs ds
 | _,_,.nil,_=> .nil
 | _,_,.cons h r,p=>by
  unfold pls at p;rw[eh] at p;exact .cons (IsD.keepP e h p.1) (dW.keepP e r p.2)
end
end L2
namespace HN
open PySem L2 PyProof.Rows
theorem lh {α:Type}{f:α→Dt}:∀(xs:List α),(∀x∈xs,pl (f x)=true)→pls (xs.map f)=true
 | [],_=>by show pls []=true;unfold pls;rfl
 | x::xs,h=>by
  show pls (f x::xs.map f)=true;unfold pls;rw[h x ∅,lh xs λy hy=>h y (aw _ hy)];rfl
theorem pl_ints (ns:List Int):pl (.tup (ns.map Dt.int))=true:=by
 unfold pl;exact lh ns λx _=>by unfold pl;rfl
theorem mG (f:α→List Int)(xs:List α):pl (rowsP f xs)=true:=by
 unfold rowsP;unfold pl;exact lh xs λx _=>pl_ints (f x)
def RowOk (b:Int)(sp:List Sn)(bs:List (Int×Int))(r:Int×List Stp):Prop:=Rg sp r.2∧sureB b bs r.2=true∧ -1000000000000≤r.1∧r.1≤1000000000000
def LfOk (b:Int)(sp:List Sn)(bs:List (Int×Int)):Lf→Prop
 | .ring ws=>Rg sp ws∧jR b bs ws=true
 | .price rows=>rows.length≤40∧∀r∈rows,RowOk b sp bs r
theorem cq {m:Int}(e:kr H H')(h:IsD H v (jA b m sp)):IsD H' v (jA b m sp):=by
 obtain⟨t,xs,rfl,ht,rx⟩:=h.tup_of;cases rx with
 | cons h0 r0 =>
  cases r0 with
  | cons h1 r1 =>
   cases r1 with
   | cons h2 r2 =>
    cases r2;cases h0;cases h1;obtain⟨p,ys,rfl,hp,ry⟩:=h2.tup_of;exact .tup (e _ _ ht) (.cons (.int _) (.cons (.int _) (.cons (.tup (e _ _ hp) (fh (f:=Sn.row) (xs:=sp) e ry)) .nil)))
def mirS (x:Sn):Sn:=⟨x.g,x.s,x.l,x.o,x.w⟩
theorem mirS_two (sp:List Sn):(sp.map mirS).map mirS=sp:=by
 rw[cg]
 conv=>rhs;rw[←jx sp]
 rfl
def mirT (b:Int)(ts:List Int):List Int:=ts.map λt=>(-t) % b
theorem mirT_len (b:Int)(ts:List Int):(mirT b ts).length=ts.length:=by unfold mirT;rw[aa]
theorem tm_mir {i:Int}(h0:0≤i)(h1:i<ts.length):tm (mirT b ts) i=(-(tm ts i)) % b:=by
 have hi:i.toNat<ts.length:=by lia
 unfold tm mirT;rw[ag,ag,ar,gE hi];rfl
theorem waitM_mir (R:Rdy b ts sp):∀x∈sp,cR b (mirT b ts) (mirS x)=cR b ts x:=λx hx=>by
 obtain⟨s0,s1,g0,g1⟩:=R.ends x hx;show(tm (mirT b ts) x.s - tm (mirT b ts) x.g - x.l) % b=(tm ts x.g - tm ts x.s - x.l) % b;rw[tm_mir s0 s1,tm_mir g0 g1,pf];congr 1;lia
inductive spMirS (vs:List V)(H:Hp)(Q:VK)(_:XK):Prop
 | mk (q:ak)(x:Sn)(_:vs=[.ref q])(_:H q=some (.tup (x.row.map V.int)))(_:∀p H',bC H H'→H' p=some (.tup ((mirS x).row.map V.int))→Q (.ref p) H')
inductive spMir (vs:List V)(H:Hp)(Q:VK)(_:XK):Prop
 | mk (v:V)(b m:Int)(sp:List Sn)(_:vs=[v])(_:IsD H v (jA b m sp))(_:sp.length≤1000)(_:∀u H',bC H H'→IsD H' u (jA b m (sp.map mirS))→Q u H')
inductive spTabMir (vs:List V)(H:Hp)(Q:VK)(_:XK):Prop
 | mk (t u:ak)(b:Int)(rest:List V)(ns:List Int)(_:vs=[.ref t,.ref u])(_:H t=some (.tup (.int b::rest)))(_:H u=some (.tup (ns.map V.int)))(_:0<b)(_:ns.length≤1000)(_:∀p H',bC H H'→H' p=some (.tup ((mirT b ns).map V.int))→Q (.ref p) H')
inductive spWaitsN (vs:List V)(H:Hp)(Q:VK)(_:XK):Prop
 | mk (v:V)(u:ak)(b m:Int)(sp:List Sn)(ts:List Int)(_:vs=[v,.ref u])(_:IsD H v (jA b m sp))(_:H u=some (.tup (ts.map V.int)))(_:Rdy b ts sp)(_:∀p H',bC H H'→H' p=some (.lst ((jO b ts sp).map V.int))→Q (.ref p) H')
def namS (js:List Int)(x:Sn):Sn:=⟨tm js x.s,tm js x.g,x.l,x.o,x.w⟩
def jo (k:Int)(x:Sn):Sn:=⟨x.s+k,x.g+k,x.l,x.o,x.w⟩
def runL (k:Int)(n:Nat):List Int:=(aJ n).map λ(i:Nat)=>k+(i:Int)
theorem runL_len (k:Int)(n:Nat):(runL k n).length=n:=by unfold runL;rw[aa,bq]
theorem tm_run {k i:Int}(h0:0≤i)(h1:i<n):tm (runL k n) i=i+k:=by
 have hi:i.toNat<n:=by lia
 unfold tm runL;rw[ag,ar,eE hi];show k+((i.toNat:Nat):Int)=i+k;lia
theorem namS_run {k:Int}{x:Sn}(s0:0≤x.s)(s1:x.s<n)(g0:0≤x.g)(g1:x.g<n):namS (runL k n) x=jo k x:=by
 unfold namS jo;rw[tm_run s0 s1,tm_run g0 g1]
theorem tm_left {i:Int}(h0:0≤i)(h1:i<t1.length):tm (t1++t2) i=tm t1 i:=by
 unfold tm;rw[ag,ag,eC ⋯]
theorem oU {i k:Int}(hk:(t1.length:Int)=k)(h0:0≤i):tm (t1++t2) (i+k)=tm t2 i:=by
 unfold tm;have e:(i+k).toNat=t1.length+i.toNat:=by lia
 rw[ag,ag,e,bT ⋯,Nat.add_sub_cancel_left]
theorem qX (R:Rdy b t1 sp):∀x∈sp,cR b (t1++t2) x=cR b t1 x:=λx hx=>by
 obtain⟨s0,s1,g0,g1⟩:=R.ends x hx;unfold cR;rw[tm_left s0 s1,tm_left g0 g1]
theorem pL {k:Int}(hk:(t1.length:Int)=k)(R:Rdy b t2 sp):∀x∈sp,cR b (t1++t2) (jo k x)=cR b t2 x:=λx hx=>by
 obtain⟨s0,s1,g0,g1⟩:=R.ends x hx;show(tm (t1++t2) (x.g+k) - tm (t1++t2) (x.s+k) - x.l) % b=cR b t2 x;rw[oU hk s0,oU hk g0];rfl
theorem pI {α:Type}{p q:α→Bool}:∀(l:List α),(∀x∈l,p x=q x)→l.any p=l.any q
 | [],_=>rfl
 | x::l,h=>by
  rw[gP,gP,h x ∅,pI l λy hy=>h y (aw _ hy)]
theorem rG {k:Int}(hk:(t1.length:Int)=k)(R1:Rdy b t1 sp1)(R2:Rdy b t2 sp2):fF b (t1++t2) (sp1++sp2.map (jo k))=(fF b t1 sp1 && fF b t2 sp2):=by
 unfold fF;rw[List.any_append,List.any_map,Bool.not_or];have e1:sp1.any (brk b (t1++t2))=sp1.any (brk b t1):=pI _ λx hx=>by unfold brk;rw[qX R1 x hx]
 have e2:sp2.any (brk b (t1++t2) ∘ jo k)=sp2.any (brk b t2):=pI _ λx hx=>by
  show decide (x.o - x.l<cR b (t1++t2) (jo k x))=decide (x.o - x.l<cR b t2 x);rw[pL hk R2 x hx]
 rw[e1,e2]
theorem oE {k:Int}(hk:(t1.length:Int)=k)(R1:Rdy b t1 sp1)(R2:Rdy b t2 sp2):bU b (t1++t2) (sp1++sp2.map (jo k))=bU b t1 sp1+bU b t2 sp2:=by
 unfold bU;rw[ax,ir,cg];congr 1
 ·congr 1
  exact cw λx hx=>by rw[qX R1 x hx]
 ·congr 1
  exact cw λx hx=>by
   show x.w * cR b (t1++t2) (jo k x)=x.w * cR b t2 x;rw[pL hk R2 x hx]
inductive spNamed (vs:List V)(H:Hp)(Q:VK)(_:XK):Prop
 | mk (q L:ak)(x:Sn)(js:List Int)(_:vs=[.ref q,.ref L])(_:H q=some (.tup (x.row.map V.int)))(_:H L=some (.lst (js.map V.int)))(_:0≤x.s)(_:x.s<js.length)(_:0≤x.g)(_:x.g<js.length)(_:∀p H',bC H H'→H' p=some (.tup ((namS js x).row.map V.int))→Q (.ref p) H')
structure Sides (b m1 m2:Int)(sp1 sp2:List Sn):Prop where
 N1:ia b m1 sp1
 N2:ia b m2 sp2
 m:m1+m2≤16
 few:sp1.length+sp2.length≤40
inductive spSide (vs:List V)(H:Hp)(Q:VK)(_:XK):Prop
 | mk (v1 v2:V)(b m1 m2:Int)(sp1 sp2:List Sn)(_:vs=[v1,v2])(_:IsD H v1 (jA b m1 sp1))(_:IsD H v2 (jA b m2 sp2))(_:Sides b m1 m2 sp1 sp2)(_:∀u H',bC H H'→IsD H' u (jA b (m1+m2) (sp1++sp2.map (jo m1)))→Q u H')
theorem netP_rows {m:Int}(h:IsD H v (jA b m sp)):∃t p ys,v= .ref t∧H t=some (.tup [.int b,.int m,.ref p])∧H p=some (.tup ys)∧dW H ys (dO Sn.row sp):=by
 obtain⟨t,xs,rfl,ht,rx⟩:=h.tup_of;cases rx with
 | cons h0 r0 =>
  cases r0 with
  | cons h1 r1 =>
   cases r1 with
   | cons h2 r2 =>
    cases r2;cases h0;cases h1;obtain⟨p,ys,rfl,hp,ry⟩:=h2.tup_of;exact⟨t,p,ys,rfl,ht,hp,ry⟩
inductive spWithSp (vs:List V)(H:Hp)(Q:VK)(_:XK):Prop
 | mk (v:V)(L:ak)(b m:Int)(sp more:List Sn)(zs:List V)(_:vs=[v,.ref L])(_:IsD H v (jA b m sp))(_:H L=some (.lst zs))(_:dW H zs (dO Sn.row more))(_:sp.length+more.length≤40)(_:∀u H',bC H H'→IsD H' u (jA b m (sp++more))→Q u H')
def nX (n:Int)(x:Sn):Sn:=⟨x.s,x.g,x.l * n,x.o * n,x.w⟩
def qT (n:Int)(ts:List Int):List Int:=ts.map λt=>t * n
theorem strT_len (n:Int)(ts:List Int):(qT n ts).length=ts.length:=by unfold qT;rw[aa]
theorem tm_str {n:Int}{i:Int}(h0:0≤i)(h1:i<ts.length):tm (qT n ts) i=tm ts i * n:=by
 have hi:i.toNat<ts.length:=by lia
 unfold tm qT;rw[ag,ag,ar,gE hi];rfl
theorem waitM_str {n:Int}(hn:0<n)(R:Rdy b ts sp):∀x∈sp,cR (b * n) (qT n ts) (nX n x)=cR b ts x * n:=λx hx=>by
 obtain⟨s0,s1,g0,g1⟩:=R.ends x hx;show(tm (qT n ts) x.g - tm (qT n ts) x.s - x.l * n) % (b * n)=(tm ts x.g - tm ts x.s - x.l) % b * n;rw[tm_str s0 s1,tm_str g0 g1,←Int.sub_mul,←Int.sub_mul,jg _ n,jg b n,jg _ n,Int.mul_emod_mul_of_pos _ _ hn]
theorem brk_str {n:Int}(hn:0<n)(R:Rdy b ts sp):∀x∈sp,brk (b * n) (qT n ts) (nX n x)=brk b ts x:=λx hx=>by
 unfold brk;rw[waitM_str hn R x hx];show decide (x.o * n - x.l * n<cR b ts x * n)=decide (x.o - x.l<cR b ts x);rw[←Int.sub_mul];exact decide_eq_decide.mpr ⟨λh=>Int.lt_of_mul_lt_mul_right h ⋯,λh=>kK h hn⟩
theorem fitsM_str {n:Int}(hn:0<n)(R:Rdy b ts sp):fF (b * n) (qT n ts) (sp.map (nX n))=fF b ts sp:=by
 unfold fF;congr 1;rw[List.any_map,ku,List.any_eq_true,List.any_eq_true]
 constructor
 ·rintro⟨x,hx,h⟩
  exact⟨x,hx,(brk_str hn R x hx).symm.trans h⟩
 ·rintro⟨x,hx,h⟩
  exact⟨x,hx,(brk_str hn R x hx).trans h⟩
theorem sum_str {b n:Int}{ts:List Int}(hn:0<n):∀(sp:List Sn),(∀x∈sp,cR (b * n) (qT n ts) (nX n x)=cR b ts x * n)→bU (b * n) (qT n ts) (sp.map (nX n))=bU b ts sp * n
 | [],_=>by show(0:Int)=0 * n;rw[fk]
 | x::sp,h=>by
  have e:=sum_str hn sp λy hy=>h y (aw _ hy)
  unfold bU at e ⊢;rw[bX,bX,bX,List.sum_cons,List.sum_cons,e,Int.add_mul,h x ∅];show x.w * (cR b ts x * n)+_=x.w * cR b ts x * n+_;rw[jv]
theorem waitOfM_str {n:Int}(hn:0<n)(R:Rdy b ts sp):bU (b * n) (qT n ts) (sp.map (nX n))=bU b ts sp * n:=sum_str hn sp (waitM_str hn R)
inductive spStrS (vs:List V)(H:Hp)(Q:VK)(_:XK):Prop
 | mk (q:ak)(x:Sn)(n:Int)(_:vs=[.ref q,.int n])(_:H q=some (.tup (x.row.map V.int)))(_:0<n)(_:n<2 ^ 60)(_:∀p H',bC H H'→H' p=some (.tup ((nX n x).row.map V.int))→Q (.ref p) H')
inductive spStr (vs:List V)(H:Hp)(Q:VK)(_:XK):Prop
 | mk (v:V)(b m:Int)(sp:List Sn)(n:Int)(_:vs=[v,.int n])(_:IsD H v (jA b m sp))(_:sp.length≤1000)(_:0<n)(_:n<2 ^ 60)(_:∀u H',bC H H'→IsD H' u (jA (b * n) m (sp.map (nX n)))→Q u H')
inductive spTabStr (vs:List V)(H:Hp)(Q:VK)(_:XK):Prop
 | mk (u:ak)(ns:List Int)(n:Int)(_:vs=[.ref u,.int n])(_:H u=some (.tup (ns.map V.int)))(_:0<n)(_:n<2 ^ 60)(_:ns.length≤1000)(_:∀p H',bC H H'→H' p=some (.tup ((qT n ns).map V.int))→Q (.ref p) H')
end HN
namespace L2
open PySem PySem.W PyProof.Rows
def Gd {α:Type}(lt:Nat→Nat→Bool)(n:Nat):KasT α→(α→Prop)→Prop
 | .ret a,P=>P a
 | .ask i j k,P=>i<n∧j<n∧Gd lt n (k (lt i j)) P
theorem Gd.mono {α:Type}{lt:Nat→Nat→Bool}{n:Nat}{P R:α→Prop}(h:∀a,P a→R a):∀{t:KasT α},Gd lt n t P→Gd lt n t R
 | .ret a,g=>h a g
 | .ask _ _ _,g=>⟨g.1,g.2.1,Gd.mono h g.2.2⟩
theorem Gd.bind {α β:Type}{lt:Nat→Nat→Bool}{n:Nat}{f:α→KasT β}{P:β→Prop}:∀{t:KasT α},Gd lt n t (λa=>Gd lt n (f a) P)→Gd lt n (t.bind f) P
 | .ret _,g=>g
 | .ask _ _ _,g=>⟨g.1,g.2.1,Gd.bind g.2.2⟩
theorem Gd.wp {α:Type}{lt:Nat→Nat→Bool}{n:Nat}{P:α→Prop}{cmp:Nat→Nat→(Bool→aq→Prop)→aq→Prop}{Q:α→aq→Prop}{s:aq}(hc:∀i j C,i<n→j<n→C (lt i j) s→cmp i j C s)(hq:∀a,P a→Q a s):∀{t:KasT α},Gd lt n t P→t.kasWp cmp Q s
 | .ret a,g=>hq a g
 | .ask i j k,g=>hc i j _ g.1 g.2.1 (Gd.wp hc hq g.2.2)
structure Ord (lt:Nat→Nat→Bool)(n:Nat):Prop where
 tot:∀i j,i<n→j<n→i≠j→lt i j=false→lt j i=true
 tr:∀i j k,lt i j=true→lt j k=true→lt i k=true
abbrev gA (p:Array Nat)(i:Nat):Nat:=p.getD i 0
abbrev Pm (n:Nat)(p:Array Nat):Prop:=p.toList.Perm (aJ n)
theorem lZ:gA p i=p[i]?.getD 0:=by
 show p.getD i 0=_;rw[Array.getD_eq_getD_getElem?]
theorem Pm.size (h:Pm n p):p.size=n:=by
 have:=h.length_eq;rw[bq,de] at this;exact this
theorem Pm.lt (h:Pm n p)(hi:i<n):gA p i<n:=by
 have hs:i<p.size:=by rw[h.size];exact hi
 have e:gA p i=p[i]:=by rw[lZ,dg hs];rfl
 rw[e];have:p[i]∈p.toList:=by simp
 exact bF.mp (h.mem_iff.mp this)
theorem Pm.ne (h:Pm n p)(hij:i<j)(hj:j<n):gA p i≠gA p j:=by
 have hd:p.toList.Nodup:=h.nodup_iff.mpr List.nodup_range;have si:i<p.toList.length:=by rw[de,h.size];lia
 have sj:j<p.toList.length:=by rw[de,h.size];lia
 have ei:gA p i=p.toList[i]:=by rw[lZ,dg (by rw[h.size];lia)];simp
 have ej:gA p j=p.toList[j]:=by rw[lZ,dg (by rw[h.size];lia)];simp
 rw[ei,ej];exact List.pairwise_iff_getElem.mp (cb.mp hd) i j si sj hij
theorem Pm.of {q:Array Nat}(h:Pm n p)(e:q.Perm p):Pm n q:=(Array.perm_iff_toList_perm.mp e).trans h
def SoA (lt:Nat→Nat→Bool)(p:Array Nat)(m:Nat):Prop:=∀i j,i<j→j<m→lt (gA p i) (gA p j)=true
def DeA (lt:Nat→Nat→Bool)(p:Array Nat)(m:Nat):Prop:=∀i j,i<j→j<m→lt (gA p j) (gA p i)=true
section
variable {lt:Nat→Nat→Bool}
theorem SoA.more (O:Ord lt n)(h:SoA lt p m)(h1:lt (gA p (m - 1)) (gA p m)=true):SoA lt p (m+1):=λi j hij hj=>by
 by_cases e:j<m
 ·exact h i j hij e
 ·have ej:j=m:=by lia
  rw[ej]
  by_cases ei:i=m - 1
  ·rw[ei];exact h1
  ·exact O.tr _ _ _ (h i (m - 1) ⋯ ⋯) h1
theorem DeA.more (O:Ord lt n)(h:DeA lt p m)(h1:lt (gA p m) (gA p (m - 1))=true):DeA lt p (m+1):=λi j hij hj=>by
 by_cases e:j<m
 ·exact h i j hij e
 ·have ej:j=m:=by lia
  rw[ej]
  by_cases ei:i=m - 1
  ·rw[ei];exact h1
  ·exact O.tr _ _ _ h1 (h i (m - 1) ⋯ ⋯)
theorem asc_ok (O:Ord lt n){p:Array Nat}(hp:Pm n p):∀(f m:Nat),1≤m→m+f=n→SoA lt p m→Gd lt n (kas_asc p f m) (λr=>m≤r∧r≤n∧SoA lt p r∧(r<n→lt (gA p r) (gA p (r - 1))=true))
 | 0,m,_,h1,hs=>⟨aC _,⋯,hs,λz=>rW z ⋯⟩
 | f+1,m,h0,h1,hs=>by
  apply⟨hp.lt ⋯,hp.lt ⋯,?_⟩;cases c:lt (gA p m) (gA p (m - 1)) with
  | true =>
   exact⟨aC _,⋯,hs,λ_=>c⟩
  | false =>
   have h2:=O.tot _ _ (hp.lt ⋯) (hp.lt ⋯) (hp.ne (by lia:m - 1<m) ⋯).symm c;apply(asc_ok O hp f (m+1) ⋯ ⋯ (hs.more O h2)).mono λr ⟨a,b,cc,d⟩=>⟨⋯,b,cc,d⟩
theorem desc_ok (O:Ord lt n){p:Array Nat}(hp:Pm n p):∀(f m:Nat),1≤m→m+f=n→DeA lt p m→Gd lt n (kas_desc f p m 0) (λr=>r.1=p∧r.2.2=0∧m≤r.2.1∧r.2.1≤n∧DeA lt p r.2.1)
 | 0,m,_,h1,hs=>⟨rfl,rfl,aC _,by show m≤n;lia,hs⟩
 | f+1,m,h0,h1,hs=>by
  apply⟨hp.lt ⋯,hp.lt ⋯,?_⟩;cases c:lt (gA p m) (gA p (m - 1)) with
  | true =>
   apply(desc_ok O hp f (m+1) ⋯ ⋯ (hs.more O c)).mono λr ⟨a,b,cc,d,e⟩=>⟨a,b,⋯,d,e⟩
  | false =>
   have h2:=O.tot _ _ (hp.lt ⋯) (hp.lt ⋯) (hp.ne (by lia:m - 1<m) ⋯).symm c;apply⟨hp.lt ⋯,hp.lt ⋯,?_⟩;show Gd lt n (if (lt (gA p (m - 1)) (gA p m))=true then KasT.ret (p,m,0) else kas_desc f p (m+1) (0+1)) _;rw[rV h2];exact⟨rfl,rfl,aC _,by show m≤n;lia,hs⟩
theorem rev_ok (hp:Pm n p)(hm:m≤n):Pm n (kas_rev p 0 m):=hp.of (mirror_perm _ _ _ _)
theorem rev_so (hp:Pm n p)(hm:m≤n)(h:DeA lt p m):SoA lt (kas_rev p 0 m) m:=λi j hij hj=>by
 have e:∀k,k<m→gA (kas_rev p 0 m) k=gA p (m - 1 - k):=λk hk=>by
  rw[lZ,lZ];have:=getElem?_mirror_all (xs:=p) (i:=0) (j:=m) (by rw[hp.size];exact hm) k;unfold kas_rev;rw[this,rV ⟨bK _,hk⟩];congr 2;lia
 rw[e i ⋯,e j hj];exact h _ _ ⋯ ⋯
theorem tail_ok (O:Ord lt n)(hp:Pm n p)(h1:1≤m)(hm:m≤n)(h:DeA lt p m):Gd lt n (kas_tail3 m n p) (λr=>Pm n r.2∧1≤r.1∧r.1≤n∧SoA lt r.2 r.1):=by
 unfold kas_tail3;apply Gd.bind ((asc_ok O (rev_ok hp hm) (n - m) m h1 ⋯ (rev_so hp hm h)).mono λr ⟨a,b,c,_⟩=>?_);exact⟨rev_ok hp hm,by show 1≤r;lia,b,c⟩
theorem count_ok (O:Ord lt n)(h1:1≤n)(hp:Pm n p):Gd lt n (kas_count n p) (λr=>Pm n r.2∧1≤r.1∧r.1≤n∧SoA lt r.2 r.1):=by
 unfold kas_count;apply Gd.bind ((asc_ok O hp (n - 1) 1 (aC _) ⋯ (λi j a b=>rW a ⋯)).mono λr ⟨a,b,c,d⟩=>?_)
 by_cases e:r=n
 ·rw[rV (by rw[e];exact beq_self_eq_true n)]
  exact⟨hp,a,b,c⟩
 ·rw[rT (by rw[beq_iff_eq];exact e)]
  by_cases e2:r > 1
  ·rw[rV e2]
   apply⟨hp.lt ⋯,hp.lt ⋯,?_⟩;show Gd lt n (if (lt (gA p 0) (gA p (r - 1)))=true then KasT.ret (r,p) else _) _;rw[rV (c 0 (r - 1) ⋯ ⋯)];exact⟨hp,a,b,c⟩
  ·rw[rT e2]
   have er:r=1:=by lia
   subst er;have hn:1<n:=by lia
   have dd:=d hn;unfold kas_descPart;apply Gd.bind ((desc_ok O hp (n - (1+1)) (1+1) ⋯ ⋯ (fun i j x y=>by
    have ei:i=0:=by lia
    have ej:j=1:=by lia
    rw [ei,ej];exact dd)).mono fun q ⟨q1,q2,q3,q4,q5⟩=>?_)
   rw[rT (by rw[q2];lia),q1];exact tail_ok O hp ⋯ q4 q5
theorem place_ok (O:Ord lt n){p:Array Nat}(hp:Pm n p){k:Nat}(hk:k<n)(hs:SoA lt p k):∀(f l r:Nat),l≤r→r≤k→r - l≤f→(∀i,i<l→lt (gA p i) (gA p k)=true)→(∀i,r≤i→i<k→lt (gA p k) (gA p i)=true)→Gd lt n (kas_place p k f l r) (λm=>m≤k∧(∀i,i<m→lt (gA p i) (gA p k)=true)∧∀i,m≤i→i<k→lt (gA p k) (gA p i)=true)
 | 0,l,r,h1,h2,h3,a,b=>⟨⋯,a,λi x y=>b i ⋯ y⟩
 | f+1,l,r,h1,h2,h3,a,b=>by
  show Gd lt n (if l ≥ r then KasT.ret l else KasT.ask (gA p k) (gA p ((l+r) / 2)) λc=>if c=true then kas_place p k f l ((l+r) / 2) else kas_place p k f ((l+r) / 2+1) r) _
  by_cases e:l ≥ r
  ·rw[rV e]
   exact⟨⋯,a,λi x y=>b i ⋯ y⟩
  ·rw[rT e]
   apply⟨hp.lt hk,hp.lt ⋯,?_⟩;cases c:lt (gA p k) (gA p ((l+r) / 2)) with
   | true =>
    apply place_ok O hp hk hs f l ((l+r) / 2) ⋯ ⋯ ⋯ a λi x y=>?_
    by_cases ei:i=(l+r) / 2
    ·rw[ei];exact c
    ·exact O.tr _ _ _ c (hs _ _ ⋯ y)
   | false =>
    have h5:=O.tot _ _ (hp.lt hk) (hp.lt ⋯) (hp.ne (by lia:(l+r) / 2<k) hk).symm c;apply place_ok O hp hk hs f ((l+r) / 2+1) r ⋯ h2 ⋯ (λi x=>?_) b
    by_cases ei:i=(l+r) / 2
    ·rw[ei];exact h5
    ·exact O.tr _ _ _ (hs i _ (by lia:i<(l+r) / 2) ⋯) h5
theorem bub_so (O:Ord lt n)(hp:Pm n p){k:Nat}(hk:k<n)(hm:m≤k)(hs:SoA lt p k)(a:∀i,i<m→lt (gA p i) (gA p k)=true)(b:∀i,m≤i→i<k→lt (gA p k) (gA p i)=true):SoA lt (bubble p k (k - m)) (k+1):=λi j hij hj=>by
 have e:∀x,gA (bubble p k (k - m)) x=if x=m then gA p k else if m<x∧x≤k then gA p (x - 1) else gA p x:=λx=>by
  have:=getElem?_bubble (xs:=p) (src:=k) (by rw[hp.size];exact hk) (k - m) ⋯ x;have e0:k - (k - m)=m:=by lia
  rw[e0] at this;rw[lZ,this]
  by_cases h1:x=m
  ·rw[rV h1,rV h1,lZ]
  ·rw[rT h1,rT h1]
   by_cases h2:m<x∧x≤k
   ·rw[rV h2,rV h2,lZ]
   ·rw[rT h2,rT h2,lZ]
 rw[e i,e j]
 by_cases i1:i=m
 ·rw[rV i1,rT ⋯,rV ⋯]
  exact b _ ⋯ ⋯
 ·rw[rT i1]
  by_cases i2:m<i∧i≤k
  ·rw[rV i2,rT ⋯,rV ⋯]
   exact hs _ _ ⋯ ⋯
  ·rw[rT i2]
   by_cases j1:j=m
   ·rw[rV j1];exact a _ ⋯
   ·rw[rT j1]
    by_cases j2:m<j∧j≤k
    ·rw[rV j2];exact hs _ _ ⋯ ⋯
    ·rw[rT j2];exact hs _ _ hij ⋯
theorem bin_ok (O:Ord lt n):∀(f:Nat) (p:Array Nat) (k:Nat),k+f=n→Pm n p→SoA lt p k→Gd lt n (kas_bin f p k) (λq=>Pm n q∧SoA lt q n)
 | 0,p,k,h1,hp,hs=>by
  have e:k=n:=by lia
  rw[e] at hs;exact⟨hp,hs⟩
 | f+1,p,k,h1,hp,hs=>by
  show Gd lt n ((kas_place p k k 0 k).bind λl=>kas_bin f (bubble p k (k - l)) (k+1)) _;apply Gd.bind ((place_ok O hp ⋯ hs k 0 k (bK _) (aC _) ⋯ (λi x=>rW x ⋯) (λi x y=>rW x ⋯)).mono λm ⟨m1,m2,m3⟩=>?_);exact bin_ok O f _ (k+1) ⋯ (hp.of (bubble_perm _ _ _)) (bub_so O hp ⋯ m1 hs m2 m3)
theorem sort_ok (O:Ord lt n)(h1:1≤n):Gd lt n (kas_sort n) (λq=>Pm n q∧SoA lt q n):=by
 unfold kas_sort;apply Gd.bind ((count_ok O h1 (p:=(aJ n).toArray) (by show(aJ n).toArray.toList.Perm _;rw[fj])).mono λr ⟨a,b,c,d⟩=>?_)
 by_cases e:r.1<n
 ·rw[rV e]
  have em:max r.1 1=r.1:=by lia
  rw[em];exact bin_ok O _ _ _ ⋯ a d
 ·rw[rT e]
  have er:r.1=n:=by lia
  rw[er] at d;exact⟨a,d⟩
end
theorem lM {out:Array af}{b:ak}{u:Obj}(hb:b≠a)(e:h.get? b=some u):(sortedHeap h a vs out).get? b=some u:=by
 unfold sortedHeap;rw[g6 _ _ _ _ hb];exact au _ (au _ (by rw[g6 _ _ _ _ hb];exact e))
theorem ng {out:Array af}(e:h.get? a=some (bM "list" vs.toArray n)):∃c,(sortedHeap h a vs out).get? a=some (bM "list" out c):=by
 unfold sortedHeap;exact⟨_,gT (au _ (au _ (gT e λ_=> #[]))) λ_=>out⟩
def preAll (h:bO)(vs:List af):bO:=((h.push (bM "list" #[] 0)).update h.objs.size (cQ (· ++ vs.toArray))).push (bM "list" vs.toArray 0)
theorem preAll_keep {b:ak}{u:Obj}(e:h.get? b=some u):(preAll h vs).get? b=some u:=by
 have hb:=aO e;exact au _ (by rw[g6 _ _ _ _ (bL hb)];exact au _ e)
theorem preAll_at:(preAll h vs).get? (h.objs.size+1)=some (bM "list" vs.toArray 0):=by
 have hsz:((h.push (bM "list" #[] 0)).update h.objs.size (cQ (· ++ vs.toArray))).objs.size=h.objs.size+1:=by
  rw[bO.size_update,size_push']
 unfold preAll;rw[←hsz];exact aW _ rfl
theorem call_sortedI:ke X (.builtin "sorted") (λxs H Q=>∃(p:ak) (ns:List Int),xs=[.ref p]∧SqL X.K H p (ns.map V.int)∧ns.length<64∧∀(l:ak) (ns':List Int),H l=none→ns'.Perm ns→ns'.Pairwise (· ≤ ·)→Q (.ref l) (upd H l (.lst (ns'.map V.int)))):=by
 intro aR s σ H xs us Q I r h;obtain⟨p,ns,rfl,hq,hn,q⟩:=h;obtain⟨u,rfl,ru⟩:=qR r;cases(show u=af.ref p from ru);obtain⟨its,rv,pl,hz⟩:=I.list hq;have hl:its.length=ns.length:=by rw[←rv.length,aa]
 apply sorted_ints pl.isList (mh rv) ⋯ λout ns' a1 a2 a3=>?_
 obtain⟨c,hc⟩:=ng (h:=preAll s.heap its) (vs:=its) (out:=out) preAll_at;apply⟨.ref (s.heap.objs.size+1),_,I.laid (o:= .lst (ns'.map V.int)) (t':=s.toks) (λb u e=>lM (bL (iU (aO e))) (preAll_keep e)) (kt _) ⟨?_,out.toList,c,mX a1,?_⟩,rfl,q _ ns' (I.hok.fresh (kt _)) a2 a3⟩
 ·rw[aa,a2.length_eq];exact bj (by lia:ns.length≤1000) ↥0
 ·rw[kg];exact hc
def kJ (h:bO)(a:ak)(vs:List af):bO:=((h.update a (cQ λ_=>(#[]:Array af))).push (bM "tuple" vs.toArray 0)).push (bM "list" #[] 0)
theorem mid_keep {b:ak}{u:Obj}(hb:b≠a)(e:h.get? b=some u):(kJ h a vs).get? b=some u :=
 au _ (au _ (by rw[g6 _ _ _ _ hb];exact e))
def ltP (k m:Int×Int):Bool:=if (k.1 == m.1)=true then (if (k.2 == m.2)=true then false else decide (k.2<m.2)) else decide (k.1<m.1)
theorem qw {k m:Int×Int}:ltP k m=true↔(k.1<m.1∨(k.1=m.1∧k.2<m.2)):=by
 unfold ltP
 by_cases h1:k.1=m.1
 ·rw[rV (by rw[beq_iff_eq];exact h1)]
  by_cases h2:k.2=m.2
  ·rw[rV (by rw[beq_iff_eq];exact h2)]
   constructor
   ·intro h;cases h
   ·intro h;lia
  ·rw[rT (by rw[beq_iff_eq];exact h2),decide_eq_true_eq]
   lia
 ·rw[rT (by rw[beq_iff_eq];exact h1),decide_eq_true_eq]
  lia
abbrev kyP (ks:List (Int×Int))(i:Nat):Int×Int:=ks.getD i (0,0)
theorem kyP_at (h:i<ks.length):kyP ks i=ks[i]:=by
 show ks.getD i (0,0)=_;rw[ag,gE h];rfl
theorem ord_of (h:ks.Nodup):Ord (λi j=>ltP (kyP ks i) (kyP ks j)) ks.length:=by
 apply⟨λi j hi hj hne hf=>?_,λi j k h1 h2=>?_⟩
 ·show ltP (kyP ks j) (kyP ks i)=true
  have hn:kyP ks i≠kyP ks j:=by
   rw[kyP_at hi,kyP_at hj];intro e;exact hne ((List.getElem_inj h).mp e)
  have hf:¬ltP (kyP ks i) (kyP ks j)=true:=by
   show ¬ltP (kyP ks i) (kyP ks j)=true;rw[show ltP (kyP ks i) (kyP ks j)=false from hf];decide
  rw[qw] at hf ⊢;have:¬((kyP ks i).1=(kyP ks j).1∧(kyP ks i).2=(kyP ks j).2):=λz=>hn (Prod.ext z.1 z.2)
  lia
 ·have h1:ltP (kyP ks i) (kyP ks j)=true:=h1
  have h2:ltP (kyP ks j) (kyP ks k)=true:=h2;show ltP (kyP ks i) (kyP ks k)=true;rw[qw] at h1 h2 ⊢;lia
def PrsAt (h:bO)(vs:List af)(ks:List (Int×Int)):Prop:=vs.length=ks.length∧∀(i:Nat) (v:af) (k:Int×Int),vs[i]? =some v→ks[i]? =some k→∃a o t u n,v= .ref a∧h.get? a=some o∧o.cls= .type "tuple" ∧o.data= .seq #[.int k.1 t,.int k.2 u] n
theorem prs_tups {h:bO}:∀{vs:List af} {ks:List (Int×Int)},PrsAt h vs ks→∃fs:List af,KatTups h vs fs∧fs.length=vs.length∧∀f∈fs,∃i t,f=af.int i t
 | [],[],_=>⟨[],trivial,rfl,λf hf=>rW hf ∅⟩
 | [],_::_,p=>rW p.1 ∅
 | _::_,[],p=>rW p.1 ∅
 | v::vs,k::ks,p=>by
  obtain⟨fs,t1,t2,t3⟩:=prs_tups (vs:=vs) (ks:=ks) ⟨by have:=p.1;simp only[bf] at this;lia,λi v' k' e1 e2=>p.2 (i+1) v' k' (by simpa using e1) (by simpa using e2)⟩;obtain⟨a,o,t,u,n,rfl,q2,q3,q4⟩:=p.2 0 v k rfl rfl;apply⟨.int k.1 t::fs,KatTups.cons q2 q3 q4 rfl t1,by rw[bf,bf,t2],λf hf=>?_⟩
  rcases aE.mp hf with rfl | hf
  ·exact⟨_,_,rfl⟩
  ·exact t3 f hf
theorem prs_kind (p:PrsAt s.heap vs ks)(h1:1≤vs.length){Q:SortKind→aq→Prop}(q:Q (tuples' true) s):bc (bE prog w) A (keyKind' vs.toArray) Q E s:=by
 obtain⟨fs,t1,t2,t3⟩:=prs_tups p;have e1:((af.type "int" :af) == af.type "int")=true:=by trivial
 have e2:((af.type "int" :af) != af.type "tuple")=true:=by trivial
 apply kat_kind (T:= .type "int") t1 ⋯ (λv hv=>?_) e1 (by rw[e2];exact q);obtain⟨i,t,rfl⟩:=t3 v hv;exact Looks.of_pure rfl
theorem prs_ask (p:PrsAt s.heap vs ks)(hi:i<vs.length)(hj:j<vs.length){C:Bool→aq→Prop}(c:C (ltP (kyP ks i) (kyP ks j)) s):kas_ask prog w A (tuples' true) vs i j C s:=by
 have li:=p.1;obtain⟨a,o,t,u,n,e1,q2,q3,q4⟩:=p.2 i vs[i] ks[i] (gE hi) (gE ⋯);obtain⟨a',o',t',u',n',e1',q2',q3',q4'⟩:=p.2 j vs[j] ks[j] (gE hj) (gE ⋯);unfold kas_ask;have ei:vs.getD i af.none= .ref a:=by rw[ag,gE hi];exact e1
 have ej:vs.getD j af.none= .ref a':=by rw[ag,gE hj];exact e1'
 rw[ei,ej];rw[kyP_at ⋯,kyP_at ⋯] at c;apply kat_lt q2 q4 q2' q4' ?_;apply kat_cons (wpAny_eqBool_int ?_);unfold ltP at c
 by_cases h1:(ks[i].1 == ks[j].1)=true
 ·rw[rV h1] at c
  rw[h1];apply kat_yes (kat_cons (wpAny_eqBool_int ?_))
  by_cases h2:(ks[i].2 == ks[j].2)=true
  ·rw[rV h2] at c
   rw[h2];exact kat_yes (kat_nil c)
  ·rw[rT h2] at c
   rw[iN.mpr h2];exact kat_no (kat_one _ _ (lt_int (Q:=PySem.W.BoolBack C) c))
 ·rw[rT h1] at c
  rw[iN.mpr h1];exact kat_no (oneLt_int c)
def qL (h:bO)(kS a:ak)(out:List af):bO:=(h.update kS (cQ λ_=>(#[]:Array af))).update a (cQ λ_=>out.toArray)
theorem key_tail {st:SortSt}{out ks:List af}{e:Nat}{P:PySem.Fin→aq→Prop}(hout:(arrOf st).map (·.2)=jJ out)(hz:out.length<64)(hkz:ks.length<64)(hf:failedOf st=none)
  (hk:s.heap.get? kS=some (bM "list" ks.toArray e)) (ha:s.heap.get? a=some (bM "list" #[] e1)) (hne:kS≠a)
  (h:P (.done (.ret .none)) { s with heap:=qL s.heap kS a out }):bc (bE prog w) A (ksk_tail a false e1 (.ref kS) st) P E s:=by
 have na:(s.heap.update kS (cQ λ_=>(#[]:Array af))).get? a=some (bM "list" #[] e1):=by
  rw[g6 _ _ _ _ (cx hne)];exact ha
 unfold ksk_tail
 try dsimp only
 rw[hout];apply ah (listUpdate_at hk rfl ?_ (by rw[aG,fM];lia) (bK _));apply ah (kE ?_);apply ah (seqEpoch_at na rfl ?_);apply ah (listUpdate_at na rfl ?_ (bK _) (by show(if false=true then _ else out.toArray).size≤_;rw[rT ↥0,aG,fM];lia));rw[hf];simp only[bne_self_eq_false,Bool.false_eq_true,if_false];exact aP h
theorem key_end {ks:List af}{e:Nat}{κ:SortKind}{lt:Nat→Nat→Bool}{P:PySem.Fin→aq→Prop}(hl:ks.length=vs.length)(h2:2≤vs.length)(h64:vs.length<64)(O:Ord lt vs.length)
  (hk:s.heap.get? kS=some (bM "list" ks.toArray e)) (ha:s.heap.get? a=some (bM "list" #[] e1)) (hne:kS≠a)
  (hkk:∀Q:SortKind→aq→Prop,Q κ s→bc (bE prog w) A (keyKind' ks.toArray) Q (λ_ _=>False) s)
  (hc:∀i j C,i<vs.length→j<vs.length→C (lt i j) s→kas_ask prog w A κ ks i j C s)
  (h:∀p:Array Nat,Pm vs.length p→SoA lt p vs.length→P (.done (.ret .none)) { s with heap:=qL s.heap kS a (p.toList.map λi=>vs.getD i af.none) }) :
  bc (bE prog w) A (ksk_end a false vs.toArray e1 (.ref kS) ks.toArray) P E s:=by
 have hn2:¬vs.toArray.size<2:=by rw[aG];lia
 unfold ksk_end
 try dsimp only
 rw[rT ↥0,rT hn2,rT hn2,rT ↥0];apply ah (cy (hkk (λκ' s'=>κ'=κ∧s'=s) ⟨rfl,rfl⟩) (λκ' s0 z=>?_) λ_ _ x=>x.elim);obtain⟨z1,z2⟩:=z;subst z1;subst z2;have G:=(sort_ok O ⋯).wp (cmp:=kas_ask prog w A κ' ks) (s:=s0) (Q:=λp s'=>s'=s0∧Pm vs.length p∧SoA lt p vs.length) hc (λp hp=>⟨rfl,hp.1,hp.2⟩);apply ah (cy (kat_run (Q:=λst' s'=>∃p:Array Nat,p.size=vs.length∧arrOf st'=p.map (kas_item (ks.toArray.zip vs.toArray))∧failedOf st'=none∧s'=s0∧Pm vs.length p∧SoA lt p vs.length) hl h2 h64 (λp' st' s' a1 a2 a3 a4=>⟨p',a1,a2,a3,a4.1,a4.2.1,a4.2.2⟩) G) ?_ λ_ _ e=>e);rintro⟨⟨⟩,st'⟩ s' ⟨p,hp,har,hf,rfl,pm,so⟩
 try dsimp only
 exact key_tail (kat_snds hl har) (by rw[aa,de,hp];exact h64) ⋯ hf hk ha hne (h p pm so)
theorem key_fold {f:af}{kS:ak}{body:af→PUnit→Sem (ForInStep PUnit)}(J:List af→aq→Prop)(vs:List af)(h64:vs.length<64)
  (hb:∀ x ks e (t:aq),ks.length<64→t.heap.get? kS=some (bM "list" ks.toArray e) →
   bc (bE prog w) A (call f [x]) (λk t'=>t'.heap.get? kS=some (bM "list" ks.toArray e)∧∀h' c,d9 kS t'.heap h'→h'.get? kS=some (bM "list" (ks++[k]).toArray c)→J (ks++[k]) { t' with heap:=h' }) (λ_ _=>False) t →
   bc (bE prog w) A (body x ⟨⟩) (fun r t'=>r= .yield ⟨⟩∧∃ k c,t'.heap.get? kS=some (bM "list" (ks++[k]).toArray c)∧J (ks++[k]) t') E t)
  (hc:∀ ks x e (t:aq),vs[ks.length]? =some x→J ks t→t.heap.get? kS=some (bM "list" ks.toArray e) →
   bc (bE prog w) A (call f [x]) (fun k t'=>t'.heap.get? kS=some (bM "list" ks.toArray e)∧∀ h' c,d9 kS t'.heap h'→h'.get? kS=some (bM "list" (ks++[k]).toArray c)→J (ks++[k]) { t' with heap:=h' }) (fun _ _=>False) t) :
  ∀(r ks:List af) (e:Nat) (t:aq),vs=vs.take ks.length++r→ks.length+r.length=vs.length→t.heap.get? kS=some (bM "list" ks.toArray e)→J ks t →
   bc (bE prog w) A (forIn r PUnit.unit body) (λ_ t'=>∃ks e,t'.heap.get? kS=some (bM "list" ks.toArray e)∧ks.length=vs.length∧J ks t') E t
 | [],ks,e,t,_,hl,hk,j=>by
  rw[List.forIn_nil];exact aP ⟨ks,e,hk,by simpa using hl,j⟩
 | x::r,ks,e,t,hv,hl,hk,j=>by
  rw[bf] at hl;rw[List.forIn_cons];have hx:vs[ks.length]? =some x:=by
   rw[hv,bT (by rw[bw];lia),bw,show ks.length - min ks.length vs.length=0 by lia];rfl
  apply ah (cy (hb x ks e t ⋯ hk (hc ks x e t hx j hk)) (λq t' hq=>?_) λ_ _ z=>z);obtain⟨rfl,k,c,hk',j'⟩:=hq;show bc (bE prog w) A (forIn r PUnit.unit body) _ E t';apply key_fold J vs h64 hb hc r (ks++[k]) c t' ?_ (by rw[av,iF];lia) hk' j';rw[av,iF,aY,hx]
  simpa using hv
theorem key_rest {f:af}{P:PySem.Fin→aq→Prop}(J:List af→aq→Prop)(h64:vs.length<64)(hk:s.heap.get? kS=some (bM "list" #[] 0))(j0:J [] s)
  (hc:∀ ks x e (t:aq),vs[ks.length]? =some x→J ks t→t.heap.get? kS=some (bM "list" ks.toArray e) →
   bc (bE prog w) A (call f [x]) (fun k t'=>t'.heap.get? kS=some (bM "list" ks.toArray e)∧∀ h' c,d9 kS t'.heap h'→h'.get? kS=some (bM "list" (ks++[k]).toArray c)→J (ks++[k]) { t' with heap:=h' }) (fun _ _=>False) t)
  (h:∀ks e (t:aq),ks.length=vs.length→J ks t→t.heap.get? kS=some (bM "list" ks.toArray e)→bc (bE prog w) A (ksk_end a false vs.toArray e1 (.ref kS) ks.toArray) P E t) :
  bc (bE prog w) A (ksk_rest a f false vs.toArray e1 (.ref kS)) P E s:=by
 unfold ksk_rest;apply ah (wpAny_rule ?_)
 first
  | rw[List.forIn_toArray]
  | (rw[←Array.forIn_toList];simp only[fj])
  | rw[←Array.forIn_toList]
 apply ah (cy (key_fold J vs h64 (λx ks e t hz ht hx=>?_) hc vs [] 0 s ∅ ∅ hk j0) (λ_ t hd=>?_) λ_ _ z=>z)
 ·apply ah (wpAny_attempt (cy hx (λk t' hk=>?_) λ_ _ hF=>hF.elim))
  obtain⟨k1,k2⟩:=hk;have s1:=gF t'.heap kS (cQ (·.push k));have ea:(jJ ks).push k=jJ (ks++[k]):=by simp
  obtain⟨c2,hc2⟩:∃c2,(t'.heap.update kS (cQ (·.push k))).get? kS=some (bM "list" (jJ (ks++[k])) c2):=⟨_,by rw[←ea];exact gT k1 (·.push k)⟩
  try dsimp only
  apply ah (listUpdate_at k1 rfl ?_ (by rw[aG,fM];lia) (bj (Nat.le_of_eq (Array.size_push ..)) (by rw[aG,fM];lia)));exact aP ⟨rfl,k,c2,hc2,k2 _ c2 s1 hc2⟩
 ·obtain⟨ks,e,hk',hl,j⟩:=hd
  try dsimp only
  apply ah (listItems_at hk' rfl ?_);exact h ks e t hl j hk'
theorem collect_range {r:ak}{a c:Int}{t u v:Tok}{Q:List af→aq→Prop}(hh:A.handled=none)(hr:IsRange s.heap r a b c t u v)(hsmall:gB a b c=true)(hn:cY a b c=n)(hlen:n≤2 ^ 24)
  (h:∀h' tk acc,(∀b o,s.heap.get? b=some o→h'.get? b=some o)→s.heap.objs.size<h'.objs.size→ItemsOf (λi v=>∃t,v= .int (a+i * c) t) acc n→Q acc.toList { s with heap:=h',toks:=tk }) :
  bc (bE prog w) A (collect (.ref r)) Q E s:=by
 unfold collect;apply ah (wpAny_runValue (kT entry_proto_collect' ?_));show bc _ _ (do again (.builtin "list.__iadd__" ⟨[←newList [],.ref r],[]⟩)) _ _ s;apply ah (wpAny_newList (aP ⟨Code.quiet_builtin _ (by trivial),kT entry_list_iadd' ?_⟩));have key:=wpAny_extend_range (prog:=prog) (w:=w) (A:=A) (s:={ s with heap:=s.heap.push (bM "list" #[] 0) }) (R:=fun r s'=>match r with
   | .ok (.ret v)=>bc (bE prog w) A (match v with
    | .ref a=>do
     let o ← load a
     match o.data with
     | .seq xs _=>gf xs.toList
     | _=>unsupported "internal:collect"
    | _=>unsupported "internal:collect") Q E s'
   | .ok _=>False
   | .error e=>E e s') hh (au _ hr) hsmall hn hlen s.heap.objs.size (.ref s.heap.objs.size) 0 (aW _ rfl) (λh' tk acc c' hk hS hacc=>by
  show bc (bE prog w) A (do
    let o ← load s.heap.objs.size
    match o.data with
    | .seq xs _=>gf xs.toList
    | _=>unsupported "internal:collect") Q E { s with heap:=h',toks:=tk }
  apply ah (wpAny_load hS ?_);exact aP (h h' tk acc (fun b o e=>hk b o (bL (aO e)) (au _ e)) (aO hS) hacc))
 exact key
def KeyDo (prog:aV)(w:bG)(B:bY)(f:af)(vs:List af)(kS D:ak)(e1:Nat)(Q:aq→Prop)(s1:aq):Prop :=
 ∃J:List af→aq→Prop,J [] s1 ∧
  (∀ ks x e (t:aq),vs[ks.length]? =some x→J ks t→t.heap.get? kS=some (bM "list" ks.toArray e) →
   bc (bE prog w) B (call f [x]) (fun k t'=>t'.heap.get? kS=some (bM "list" ks.toArray e)∧∀ h' c,d9 kS t'.heap h'→h'.get? kS=some (bM "list" (ks++[k]).toArray c)→J (ks++[k]) { t' with heap:=h' }) (fun _ _=>False) t) ∧
  ∀ks (t:aq),ks.length=vs.length→J ks t→t.heap.get? D=some (bM "list" #[] e1)∧∃κ lt,Ord lt vs.length ∧
   (2≤vs.length→∀Q:SortKind→aq→Prop,Q κ t→bc (bE prog w) B (keyKind' ks.toArray) Q (λ_ _=>False) t) ∧
   (∀i j C,i<vs.length→j<vs.length→C (lt i j) t→kas_ask prog w B κ ks i j C t) ∧
   ∀p:Array Nat,Pm vs.length p→SoA lt p vs.length→Q { t with heap:=qL t.heap kS D (p.toList.map λi=>vs.getD i af.none) }
theorem zip_snd:∀(ks vs:List af),ks.length=vs.length→(ks.zip vs).map (·.2)=vs
 | [],[],_=>rfl
 | [],_::_,h=>by cases h
 | _::_,[],h=>by cases h
 | _::ks,v::vs,h=>by
  show v::(ks.zip vs).map (·.2)=v::vs;rw[zip_snd ks vs (by simpa using h)]
theorem key_end_few {ks:List af}{e:Nat}{P:PySem.Fin→aq→Prop}(hl:ks.length=vs.length)(h2:vs.length<2)
  (hk:s.heap.get? kS=some (bM "list" ks.toArray e)) (ha:s.heap.get? a=some (bM "list" #[] e1)) (hne:kS≠a)
  (h:P (.done (.ret .none)) { s with heap:=qL s.heap kS a vs }) :
  bc (bE prog w) A (ksk_end a false vs.toArray e1 (.ref kS) ks.toArray) P E s:=by
 have hn2:vs.toArray.size<2:=by rw[aG];lia
 unfold ksk_end
 try dsimp only
 rw[rT ↥0,rV hn2,rV hn2,rT ↥0];apply ah (aP ?_);rw[StateT.run_pure];apply ah (aP ?_)
 try dsimp only
 apply key_tail (out:=vs) ?_ ⋯ ⋯ rfl hk ha hne h;show(ks.toArray.zip vs.toArray).map (·.2)=vs.toArray
 apply Array.toList_inj.mp ?_
 rw[Array.toList_map,Array.toList_zip];exact zip_snd ks vs hl
theorem range_getD (vs:List af):((aJ vs.length).map λi=>vs.getD i af.none)=vs:=by
 apply List.ext_getElem? λi=>?_
 rw[ar]
 by_cases hi:i<vs.length
 ·rw[eE hi]
  show some (vs.getD i af.none)=_;rw[ag,gE hi];rfl
 ·rw[List.getElem?_eq_none (by rw[bq];lia),List.getElem?_eq_none ⋯];rfl
theorem key_tree {q:ak}{P:PySem.Fin→aq→Prop}(ho:s.heap.get? a=some (bM "list" vs.toArray n))(h64:vs.length<64)
  (h:∀e1,(kJ s.heap a vs).get? a=some (bM "list" #[] e1)→(kJ s.heap a vs).get? (s.heap.objs.size+1)=some (bM "list" #[] 0)→KeyDo prog w A (.ref q) vs (s.heap.objs.size+1) a e1 (λt=>P (.done (.ret .none)) t) { s with heap:=kJ s.heap a vs }) :
  bc (bE prog w) A (ksk_tree a (.ref q) false) P E s:=by
 obtain⟨e1,ho1⟩:∃e1,(s.heap.update a (cQ λ_=>(#[]:Array af))).get? a=some (bM "list" #[] e1):=⟨_,gT ho λ_=> #[]⟩;have ha:a<s.heap.objs.size:=aO ho;have ho6:(kJ s.heap a vs).get? a=some (bM "list" #[] e1):=au _ (au _ ho1);have hkS:((s.heap.update a (cQ λ_=>(#[]:Array af))).push (bM "tuple" vs.toArray 0)).objs.size=s.heap.objs.size+1:=by rw[size_push',bO.size_update]
 have hk0:(kJ s.heap a vs).get? (s.heap.objs.size+1)=some (bM "list" #[] 0):=by
  unfold kJ;rw[←hkS];exact aW _ rfl
 obtain⟨J,j0,jc,je⟩:=h e1 ho6 hk0;unfold ksk_tree;apply ah (listItems_at ho rfl ?_);apply ah (listUpdate_at ho rfl ?_ (by rw[aG,fM];lia) (bK _));apply ah (seqEpoch_at ho1 rfl ?_);apply ah (wpAny_newTuple ?_ (by show vs.length≤_;rw[fM];lia));apply ah (wpAny_newList ?_ (bK _));apply eu ?_;show bc (bE prog w) A (ksk_rest a (.ref q) false vs.toArray e1 (.ref ((s.heap.update a (cQ λ_=>(#[]:Array af))).push (bM "tuple" vs.toArray 0)).objs.size)) P E { s with heap:=kJ s.heap a vs };rw[hkS];apply key_rest J h64 hk0 j0 jc λks e t hl j hk=>?_
 obtain⟨ha',κ,lt,O,hkk,hc,hP⟩:=je ks t hl j
 by_cases h2:vs.length<2
 ·have hh:=hP (aJ vs.length).toArray (by show(aJ vs.length).toArray.toList.Perm _;rw[fj]) (λi j x y=>rW y ⋯)
  rw[fj,range_getD] at hh;exact key_end_few hl h2 hk ha' (df (iU ha)) hh
 ·exact key_end hl ⋯ h64 O hk ha' (df (iU ha)) (hkk ⋯) hc hP
theorem sorted_keyR {r q:ak}{a c:Int}{t u v:Tok}(hh:A.handled=none)(hr:IsRange s.heap r a b c t u v)(hsmall:gB a b c=true)(hn:cY a b c=n)(h64:n<64)
  (h:∀ (vs:List af) (h1:bO) (tk:Nat) (D kS:ak) (e1:Nat),vs.length=n→(∀ (i:Nat) x,vs[i]? =some x→∃ t,x= .int (a+i * c) t)→(∀ b o,s.heap.get? b=some o→h1.get? b=some o)→s.heap.objs.size≤D→D<kS→h1.get? D=some (bM "list" #[] e1)→h1.get? kS=some (bM "list" #[] 0) →
   KeyDo prog w A.in1.in1 (.ref q) vs kS D e1 (fun t'=>Q (.ref D) t') { s with heap:=h1,toks:=tk }) :
  bc (bE prog w) A (call (.builtin "sorted") [.ref r] [(dt "key",.ref q)]) Q E s:=by
 apply call_function_entry_kw kind_sorted plain_sorted entry_sorted (ksk_s1 _ _) ?_;unfold fg.«sorted»;apply ah (m:=checkCount "sorted" 1 1 _) (aP ?_);apply ah (collect_range hh hr hsmall hn ⋯ λh' tk acc hk hlt hi=>?_);have hl:acc.toList.length=n:=by rw[de];exact hi.1
 apply ah (wpAny_newList ?_ (by rw[hl,fM];lia));have hoL:(h'.push (bM "list" acc.toList.toArray 0)).get? h'.objs.size=some (bM "list" acc.toList.toArray 0):=aW _ rfl;show bc _ _ _ _ _ { s with heap:=h'.push (bM "list" acc.toList.toArray 0),toks:=tk };apply ah (eu (wpAny_call_entry_kw slot_list_sort ⟨_,hoL,rfl⟩ entry_list_sort ?body (ksk_l1 _ _)))
 case body =>
  show bc (bE prog w) A.in1.in1 (fg.«list.sort» ⟨[.ref h'.objs.size],[(dt "key",.ref q)]⟩) _ _ _;rw[ksk_t1];apply key_tree (s:={ s with heap:=h'.push (bM "list" acc.toList.toArray 0),toks:=tk }) hoL ⋯ λe1 g1 g2=>?_
  have K:=h acc.toList (kJ (h'.push (bM "list" acc.toList.toArray 0)) h'.objs.size acc.toList) tk h'.objs.size ((h'.push (bM "list" acc.toList.toArray 0)).objs.size+1) e1 hl ?_ ?_ (jf hlt) (by rw[size_push'];exact iU (ka _)) g1 g2
  ·obtain⟨J,j0,jc,je⟩:=K
   apply⟨J,j0,jc,λks t' x1 x2=>?_⟩;obtain⟨y1,κ,lt,y2,y3,y4,y5⟩:=je ks t' x1 x2;exact⟨y1,κ,lt,y2,y3,y4,λp p1 p2=>⟨_,rfl,aP ⟨_,rfl,y5 p p1 p2⟩⟩⟩
  ·intro i x hx
   rw[iE] at hx;exact hi.2 i x hx
  ·exact λb o e=>mid_keep (bL (jV (aO e) hlt)) (au _ (hk b o e))
section
variable {σ:List (Option V)}
theorem Inv.take {D:ak}(I:Inv X aR σ H s)(hn:H D=none)(hs0:X.s₀.heap.objs.size≤D)(hL:D≠X.env.locals)(hC:∀x c,X.env.cells.lookup x=some c→c≠D)(hP:∀p∈X.pn++aR,p.1≠D)(new:jw X.prog X.w (upd H D o) s.heap D o):Inv X aR σ (upd H D o) s where
 ok:=I.ok
 os:=I.os
 bare:=I.bare
 base :=
  {keep:=I.base.keep
   slot:=I.base.slot
   free:=λb ob e nb hx=>by rw[bz (bL (aU (aO e) hs0))];exact I.base.free b ob e nb hx
   there:=I.base.there
   tups:=λb xs e=>by have q:=I.base.tups b xs e;rw[bz (bx q hn)];exact q
   frzs:=λb o u e=>by have q:=I.base.frzs b o u e;rw[bz (bx q hn)];exact q
   tbls:=fun b ps e=>by obtain ⟨more,q⟩:=I.base.tbls b ps e;exact ⟨more,by rw [bz (bx q hn)];exact q⟩ }
 loc:=I.loc
 cell:=I.cell
 free:=by rw[bz hL.symm];exact I.free
 freeC:=λx c e=>by rw[bz (hC x c e)];exact I.freeC x c e
 pin:=λp hp=>by
  obtain⟨a,b,c,d,e⟩:=I.pin p hp;exact⟨a,by rw[bz (hP p hp)];exact b,c,d,e⟩
 hok:=I.hok.take hn new
 len:=I.len
theorem Inv.unpin {p0:ak×Obj}(I:Inv X (p0::aR) σ H s):Inv X aR σ H s:=I.pins_of λp hp=>I.pin p (az _ (aw _ hp))
theorem Inv.repin {o o':Obj}(I:Inv X ((kS,o)::aR) σ H s)(hs0:X.s₀.heap.objs.size≤kS)(hC:∀x c,X.env.cells.lookup x=some c→c≠kS)(hP:∀p∈X.pn++aR,p.1≠kS)(hsb:d9 kS s.heap h')(ho':h'.get? kS=some o')(hd:∀v,o'.data≠ .cell v):Inv X ((kS,o')::aR) σ H { s with heap:=h' }:=by
 obtain⟨p1,p2,p3,p4,_⟩:=I.pin (kS,o) (az _ (bt ..));have I2:=I.unpin.turned (t':=s.toks) (it:=kS) (h':=h') (λb o hb e=>hsb.extBut b o hb e) p2 p3 (.inr hs0) hC hP;apply I2.pins_of λp hp=>?_
 rcases aE.mp hp with rfl | hp
 ·exact⟨ho',p2,p3,p4,hd⟩
 ·exact I2.pin p (az _ hp)
theorem prs_of {as:List ak}(I:Inv X aR σ H s)(hl:as.length=ks.length)(h:∀(i:Nat) a k,as[i]? =some a→ks[i]? =some k→H a=some (.tup [.int k.1,.int k.2])):PrsAt s.heap (as.map af.ref) ks:=by
 apply⟨by rw[aa,hl],λi v k e1 e2=>?_⟩;rw[ar] at e1;obtain⟨a,ea,rfl⟩:=br.mp e1;obtain⟨tz,tts,tr,o,ho,hcl,_,nn,hdt⟩:=I.hok a _ (h i a k ea e2);cases tr with
 | cons r1 tr=>cases tr with
  | cons r2 tr =>
   cases tr;obtain⟨t1,rfl⟩:=r1;obtain⟨t2,rfl⟩:=r2;exact⟨a,o,t1,t2,nn,rfl,ho,hcl,hdt⟩
theorem keyDo_of {B:bY}{f:af}{num:Nat→Int}{key:Nat→Int×Int}{D:ak}{Q:aq→Prop}
  (I:Inv X ((kS,bM "list" #[] 0)::(D,bM "list" #[] e1)::aR) σ H s) (hl:vs.length=n) (h64:n<64) (hv:∀(i:Nat) x,vs[i]? =some x→∃t,x= .int (num i) t)
  (k0:X.s₀.heap.objs.size≤kS) (d0:X.s₀.heap.objs.size≤D) (kC:∀x c,X.env.cells.lookup x=some c→c≠kS) (dC:∀x c,X.env.cells.lookup x=some c→c≠D) (kP:∀p∈X.pn++aR,p.1≠kS) (dP:∀p∈X.pn++aR,p.1≠D) (hne:kS≠D)
  (hnd:((aJ n).map key).Nodup)
  (hf:∀(t:aq) (H':Hp) (pins':List (ak×Obj)) (i:Nat) (tk:Tok),i<n→Inv X pins' σ H' t→bC H H'→bc (bE X.prog X.w) B (call f [.int (num i) tk]) (λk t'=>∃q H'',Inv X pins' σ H'' t'∧bC H' H''∧k= .ref q∧H'' q=some (.tup [.int (key i).1,.int (key i).2])) (λ_ _=>False) t)
  (fin:∀(t:aq) (H':Hp) (π:List Nat),bC H H'→H' D=none→Inv X aR σ (upd H' D (.lst (π.map λi=>V.int (num i)))) t→π.Perm (aJ n)→π.Pairwise (λi j=>ltP (key i) (key j)=true)→Q t) :
  KeyDo X.prog X.w B f vs kS D e1 Q s:=by
 have pK:∀p∈X.pn++((D,bM "list" #[] e1)::aR),p.1≠kS:=λp hp=>by
  rcases aQ.mp hp with hp | hp
  ·exact kP p (aM _ hp)
  ·rcases aE.mp hp with rfl | hp
   ·exact cx hne
   ·exact kP p (az _ hp)
 apply⟨λks t=>∃e H' as,Inv X ((kS,bM "list" ks.toArray e)::(D,bM "list" #[] e1)::aR) σ H' t∧bC H H'∧ks=as.map af.ref∧∀(i:Nat) a,as[i]? =some a→H' a=some (.tup [.int (key i).1,.int (key i).2]),⟨0,H,[],I,bC.refl H,rfl,λi a e=>by simp at e⟩,?_,?_⟩
 ·rintro ks x e t hx ⟨e',H',as,I',S',rfl,has⟩ hk
  rw[aa] at hx;have hi:as.length<n:=by rw[←hl];exact(ao.mp hx).1
  obtain⟨tk,rfl⟩:=hv _ x hx;apply cy (hf t H' _ as.length tk hi I' S') (λk t' hk'=>?_) λ_ _ z=>z
  obtain⟨q,H'',I'',S'',rfl,hq⟩:=hk';have pk:=(I''.pin _ (az _ (bt ..))).1;have pk0:=(I'.pin _ (az _ (bt ..))).1;have pk0:t.heap.get? kS=some (bM "list" (as.map af.ref).toArray e'):=pk0;rw[hk] at pk0;have ee:e=e':=by cases pk0;rfl
  apply⟨by rw[ee];exact pk,λh' c hsb hg=>⟨c,H'',as++[q],I''.repin k0 kC pK hsb hg (λv z=>by cases z),S'.trans S'',by rw[ax];rfl,λi a ea=>?_⟩⟩
  by_cases hlt:i<as.length
  ·rw[eC hlt] at ea
   exact S'' _ _ (has i a ea)
  ·rw[bT ⋯] at ea
   have hz:i=as.length:=by
    have:=(ao.mp ea).1;simp only[iF] at this;lia
   subst hz;rw[Nat.sub_self] at ea;cases ea;exact hq
 ·rintro ks t hks ⟨e',H',as,I',S',rfl,has⟩
  rw[aa] at hks;obtain⟨pd,nD,lD,fD,_⟩:=I'.pin (D,bM "list" #[] e1) (az _ (aw _ (bt ..)));obtain⟨pk,nK,lK,fK,_⟩:=I'.pin (kS,bM "list" (as.map af.ref).toArray e') (az _ (bt ..));have pd:t.heap.get? D=some (bM "list" #[] e1):=pd;have pk:t.heap.get? kS=some (bM "list" (as.map af.ref).toArray e'):=pk;have kat:∀i,i<n→kyP ((aJ n).map key) i=key i:=λi hi=>by
   rw[kyP_at (by rw[aa,bq];exact hi),List.getElem_map,List.getElem_range]
  have PR:PrsAt t.heap (as.map af.ref) ((aJ n).map key):=prs_of I' (by rw[aa,bq];lia) λi a k ea ek=>by
   rw[ar] at ek;obtain⟨j,ej,rfl⟩:=br.mp ek;have hi:i<n:=by have:=(ao.mp ej).1;rw[bq] at this;exact this
   rw[eE hi] at ej;cases ej;exact has i a ea
  have ln:((aJ n).map key).length=n:=by rw[aa,bq]
  have O:=ord_of hnd;rw[ln] at O;apply⟨pd,tuples' true,λi j=>ltP (kyP ((aJ n).map key) i) (kyP ((aJ n).map key) j),by rw[hl];exact O,λh2 Q' q'=>prs_kind (s:=t) PR (by rw[aa];lia) q',λi j C hi hj c=>prs_ask (s:=t) PR (by rw[aa];lia) (by rw[aa];lia) c,λp pm so=>?_⟩;rw[hl] at pm so;have s1:=gF t.heap kS (cQ λ_=>(#[]:Array af));obtain⟨ck,hck⟩:∃ck,(t.heap.update kS (cQ λ_=>(#[]:Array af))).get? kS=some (bM "list" #[] ck):=⟨_,gT pk λ_=> #[]⟩;have I1:=I'.repin k0 kC pK s1 hck (λv z=>by cases z);have I2:=I1.unpin;have hD1:(t.heap.update kS (cQ λ_=>(#[]:Array af))).get? D=some (bM "list" #[] e1):=by rw[g6 _ _ _ _ (cx hne)];exact pd
  have s2:=gF (t.heap.update kS (cQ λ_=>(#[]:Array af))) D (cQ λ_=>jJ (p.toList.map λi=>vs.getD i af.none));obtain⟨cD,hcD⟩:∃cD,(qL t.heap kS D (p.toList.map λi=>vs.getD i af.none)).get? D=some (bM "list" (jJ (p.toList.map λi=>vs.getD i af.none)) cD):=⟨_,gT hD1 λ_=>jJ (p.toList.map λi=>vs.getD i af.none)⟩;have I3:=(I2.repin d0 dC dP s2 hcD (λv z=>by cases z)).unpin;apply fin _ H' p.toList S' nD (I3.take nD d0 lD dC dP ⟨?_,_,cD,?_,hcD⟩) pm ?_
  ·rw[aa,pm.length_eq,bq];exact bj (by lia:n≤1000) ↥0
  ·apply vals_at (by rw[aa,aa]) λi x hx=>?_
   rw[ar] at hx;obtain⟨j,hj,rfl⟩:=br.mp hx;have hjn:j<n:=bF.mp (pm.mem_iff.mp (bp hj));obtain⟨tk,ex⟩:=hv j vs[j] (gE ⋯);apply⟨vs.getD j af.none,by rw[ar,hj];rfl,?_⟩;rw[ag,gE ⋯];exact⟨tk,ex⟩
  ·apply List.pairwise_iff_getElem.mpr λa b ha hb hab=>?_
   have sz:=Pm.size pm;rw[de] at ha hb;have:=so a b hab ⋯;have ea:gA p a=p.toList[a]:=by rw[lZ,dg ha];simp
   have eb:gA p b=p.toList[b]:=by rw[lZ,dg hb];simp
   have la:p.toList[a]<n:=by rw[←ea];exact pm.lt ⋯
   have lb:p.toList[b]<n:=by rw[←eb];exact pm.lt ⋯
   have this:ltP (kyP ((aJ n).map key) (gA p a)) (kyP ((aJ n).map key) (gA p b))=true:=this;rw[ea,eb,kat _ la,kat _ lb] at this;exact this
end
end L2
namespace L2
open PySem PySem.W PySem.Spec PyProof.Rows
def BM (mg:Str→Option af)(base:bO):Prop:=∃bm ob,mg "__builtins__" =some (.ref bm)∧bm≠builtinsNs∧bm≠bS∧base.get? bm=some ob∧ob.cls= .type "module" ∧ob.dict=some builtinsNs∧ob.data= .plain
def CdK (q:Str)(H:Hp)(c:ak):Prop:=∃oc vs t,H c=some (.frz oc (.own 0))∧oc.data= .fields vs∧vs[1]? =some (.str q t)
def LamT (P:ak)(pos:Pos)(q:Str)(H:Hp):Prop :=
 H P=some (.tbl #[])∨∃c,H P=some (.tbl #[rawInt pos.line,rawInt pos.col,.ref c])∧CdK q H c
def Tb (P:ak)(H H':Hp):Prop:=∀a o,a≠P→H a=some o→H' a=some o
theorem Tb.refl {P:ak}(H:Hp):Tb P H H:=λ_ _ _ e=>e
theorem Tb.trans {P:ak}(a:Tb P H H1)(b:Tb P H1 H2):Tb P H H2:=λx o n e=>b x o n (a x o n e)
theorem bC.tb {P:ak}(a:bC H H'):Tb P H H':=λx o _ e=>a x o e
theorem CdK.tb {P:ak}{c:ak}(a:Tb P H H')(hn:c≠P)(k:CdK q H c):CdK q H' c:=let ⟨oc,vs,t,e,r⟩:=k;⟨oc,vs,t,a _ _ hn e,r⟩
theorem LamT.same {P:ak}(a:bC H H')(k:LamT P pos q H):LamT P pos q H':=by
 rcases k with k | ⟨c,k,oc,vs,t,e,r⟩
 ·exact .inl (a _ _ k)
 ·exact .inr ⟨c,a _ _ k,oc,vs,t,a _ _ e,r⟩
def LamF (q:Str)(params:fH)(body:Expr)(scope:fN)(cl:List (Str×ak))(f:ak)(H:Hp):Prop :=
 ∃pm c ct,H f=some (.frz (kla_obj "<lambda>" q params body scope cl pm c ct) (.own 0))∧CdK q H c
theorem LamF.same (a:bC H H')(k:LamF q params body scope cl f H):LamF q params body scope cl f H' :=
 let ⟨pm,c,ct,e,oc,vs,t,e2,r⟩:=k;⟨pm,c,ct,a _ _ e,oc,vs,t,a _ _ e2,r⟩
section
variable {σ:List (Option V)}
theorem Inv.grown {P:ak}{ps more:Array af}{tk:Nat}(I:Inv X aR σ H s)(hP:H P=some (.tbl ps))(hx:bO.ExtBut P s.heap h')(ht:h'.get? P=some (tabObj (ps++more))) :
  Inv X aR σ (upd H P (.tbl (ps++more))) { s with heap:=h',toks:=tk }:=by
 have neP:∀b,H b=none→b≠P:=λb e z=>by rw[z,hP] at e;cases e
 have neO:∀b o,H b=some o→(∀ps,o≠ .tbl ps)→b≠P:=λb o e hn z=>by rw[z,hP] at e;exact hn ps (cE e).symm
 apply I.step (g':=s.gens) (d':=s.drawn) (ch:=[]) (λ_ z=>nomatch z) (λb o _ _ _ e n=>hx b o (neP b n) e) (λb o _ _ _ e n=>⟨o.slots,hx b o (neP b n) e⟩) (λb o _ _ n=>by rw[bz (neP b n)];exact n)
  (λb o _ e=>?_) (λb xs e=>by rw[bz (neO b _ e λ_ z=>by cases z)];exact e) (λb o u e=>by rw[bz (neO b _ e λ_ z=>by cases z)];exact e) (λb qs e=>?_) (λm hn=>hn.extBut hx (neP _ I.free)) (λb u e=>?_) I.bare
 ·by_cases hb:b=P
  ·exact⟨_,hb ▸ ht⟩
  ·exact⟨o,hx b o hb e⟩
 ·by_cases hb:b=P
  ·subst hb
   rw[hP] at e;cases e;exact⟨more,aN⟩
  ·exact⟨#[],by rw[bz hb,e];simp⟩
 ·by_cases hb:b=P
  ·subst hb
   rw[aN] at e;cases e;exact ht
  ·rw[bz hb] at e
   apply(I.hok b u e).stay (λc v hc q=>hx c v ?_ q) (λc q=>by rw[bz (neO c _ q λ_ z=>by cases z)];exact q) λc xs q=>by rw[bz (neO c _ q λ_ z=>by cases z)];exact q
   rcases hc with rfl | hc
   ·exact hb
   ·exact neO c _ hc λ_ z=>by cases z
theorem lam_make {c P:ak}(I:Inv X aR σ H s)(hd:defaultsOf params X.env=([],[]))(mN:X.env.code= .ref c)(C:codeHdIn X.K c P=true)(B:BM X.mg X.base)
  (hfr:∀y∈scope.names,y.2= .free→X.env.scope.names.lookup y.1=some .cell) (T:LamT P pos (X.env.qual ++ "<lambda>") H)
  (h:∀f cl H' s',Inv X aR σ H' s'→Tb P H H'→LamT P pos (X.env.qual ++ "<lambda>") H'→LamF (X.env.qual ++ "<lambda>") params body scope cl f H'→(∀x c,cl.lookup x=some c→X.env.cells.lookup x=some c)→(∀y∈scope.names,y.2= .free→cl.lookup y.1=X.env.cells.lookup y.1)→Q (.ref f) s') :
  bc (bE X.prog X.w) X.A (eG (.Lambda params body scope pos) X.env) Q X.xe s:=by
 obtain⟨cl,hclos,c1,c2⟩:=mP (scope:=scope) (env:=X.env) λy hy hk=>I.ok.has _ (.inl (hfr y hy hk))
 apply kla_eval hd ?_;have hgs:s.heap.Ns bS X.mg:=I.mod.glob.keeps I.bk;obtain⟨bm,ob,b1,b2,b3,b4,b5⟩:=B;have CH:CodeHd s.heap c P:=codeHd_of_K I.kIn C;obtain⟨ps,hP⟩:∃ps,H P=some (.tbl ps):=by
  rcases T with T | ⟨c',T,_⟩
  ·exact⟨_,T⟩
  ·exact⟨_,T⟩
 have hbP:bm≠P:=λq=>by have z:=(I.bs bm ob b4).2;rw[q,hP] at z;cases z
 have hgP:bS≠P:=λq=>by
  obtain⟨o,es,ep,e,_⟩:=I.mod.glob;have z:=(I.bs _ o e).2;rw[q,hP] at z;cases z
 have hBA:s.heap.BuiltinsAt X.mg P:=⟨bm,ob,b1,b2,b3,hbP,I.bk _ _ b4,b5⟩;have fin:∀(H1:Hp) (h1:bO) (tk:Nat) (c':ak) (ctv:af),Inv X aR σ H1 { s with heap:=h1,toks:=tk }→Tb P H H1→LamT P pos (X.env.qual ++ "<lambda>") H1→CdK (X.env.qual ++ "<lambda>") H1 c' →
   Q (.ref h1.objs.size) { s with heap:=h1.push (kla_obj "<lambda>" (X.env.qual ++ "<lambda>") params body scope cl ((X.mg "__name__").getD .none) c' ctv),toks:=tk }:=λH1 h1 tk c' ctv I1 t1 T1 K1=>by
  have fr:H1 h1.objs.size=none:=I1.hok.fresh (aC _);have S:bC H1 (upd H1 h1.objs.size (.frz (kla_obj "<lambda>" (X.env.qual ++ "<lambda>") params body scope cl ((X.mg "__name__").getD .none) c' ctv) (.own 0))):=λa o e=>by rw[bz (bx e fr)];exact e
  have I2:=I1.laid (t':=tk) (a:=h1.objs.size) (o:= .frz (kla_obj "<lambda>" (X.env.qual ++ "<lambda>") params body scope cl ((X.mg "__name__").getD .none) c' ctv) (.own 0)) (h':=h1.push (kla_obj "<lambda>" (X.env.qual ++ "<lambda>") params body scope cl ((X.mg "__name__").getD .none) c' ctv)) (λb u e=>au _ e) (aC _) ⟨aW _ rfl,_,aW _ rfl⟩;obtain⟨oc,vs,t,e,r⟩:=K1;exact h _ cl _ _ I2 (t1.trans S.tb) (T1.same S) ⟨_,c',ctv,aN,oc,vs,t,S _ _ e,r⟩ c1 c2
 rcases T with T | ⟨c',T,K⟩
 ·rw[T] at hP;cases hP
  have hPh:s.heap.get? P=some (tabObj #[]):=I.hok P _ T;apply kla_makeFunction (mg:=X.mg) hclos I.ok.glob hgs mN CH hPh trivial rfl hgP hBA λc' ctv h' tk hx hge hlt hrec htb=>?_
  have I1:=I.grown (tk:=tk) T hx htb;obtain⟨c2',oc,vs,t,e2,hoc,hdd,hv⟩:=hrec;cases e2;have Plt:P<s.heap.objs.size:=aO hPh;have ncP:c'≠P:=df (aU Plt hge);have frc:H c'=none:=I.hok.fresh hge;have hn1:(upd H P (.tbl (#[]++ #[rawInt pos.line,rawInt pos.col,.ref c']))) c'=none:=by rw[bz ncP];exact frc
  have old:∀b o,s.heap.get? b=some o→b≠c':=λb o e=>bL (aU (aO e) hge)
  have I2:=I1.take (D:=c') (o:= .frz oc (.own 0)) hn1 (bj I.sz hge) (df (aU I.lt hge)) (λx d e=>by obtain⟨v,o,ho,_⟩:=I.cell x d e;exact old d o ho) (λp hp=>old _ _ (I.pin p hp).1) ⟨hoc,_,hoc⟩;apply fin _ h' tk c' ctv I2 (λa o hn e=>?_) (.inr ⟨c',?_,oc,vs,t,aN,hdd,hv⟩) ⟨oc,vs,t,aN,hdd,hv⟩
  ·rw[bz (bx e frc),bz hn];exact e
  ·rw[bz (cx ncP),aN];rfl
 ·rw[T] at hP;cases hP
  have hPh:s.heap.get? P=some (tabObj #[rawInt pos.line,rawInt pos.col,.ref c']):=I.hok P _ T;apply kla_makeFunctionHit (cv:= .ref c') (mg:=X.mg) hclos I.ok.glob hgs mN CH hPh trivial (codeAmong_snoc [] trivial rfl) hBA λctv h' tk hk hsz=>?_
  exact fin H h' tk c' ctv (I.kept hk) (Tb.refl H) (.inr ⟨c',T,K⟩) K
def cxLam (X:Cx)(q:Str)(scope:fN)(cl:List (Str×ak))(L f:ak)(cd:af)(N:List Str)(s:aq)(H:Hp):Cx :=
 { X with A:=X.A.in1.in1.deeper (envX q scope L f cd cl),N:=N,s₀:=s,H₀:=H,env:=envX q scope L f cd cl,outer:=X.stack,stack:=envX q scope L f cd cl::X.stack,ex:=[],calm:=true,fn:=λ_=>false,pn:=[],xe:=λ_ _=>False }
theorem lam_call {Q:VK}(I:Inv X aR σ H s)(hc:X.calm=true)(hr:X.A.depth<j5)(F:LamF q params body scope cl f H)(ru:gQ v u)
  (hbind:∀pm cdv ct,bindArgs (kla_fn "<lambda>" q params body scope cl pm cdv ct) ⟨[u],[]⟩=gf [(x,u)])
  (hk:scope.kind= .function) (hco:scope.isCoroutine=false) (hgen:scope.isGenerator=false) (jd:∀y∈scope.names,y.2≠ .cell) (hx:scope.names.lookup x=some .local) (hfx:x ∉ fr)
  (c1:∀x c,cl.lookup x=some c→X.env.cells.lookup x=some c) (c2:∀y∈scope.names,y.2= .free→cl.lookup y.1=X.env.cells.lookup y.1)
  (hfr:∀y∈scope.names,y.2= .free→X.env.scope.names.lookup y.1=some .cell) (hjs:js.map (λj=>X.N[j]?)=fr.map some) (hfv:∀y∈fr,scope.names.lookup y=some .free)
  (hb:∀L cd s' H',PE (cxLam X q scope cl L f cd (x::fr) s' H') body te) (ht:te (some v::dB σ js) H Q) :
  bc (bE X.prog X.w) X.A.in1.in1 (call (.ref f) [u]) (EP X aR σ Q) (λ_ _=>False) s:=by
 obtain⟨pm,cd,ct,e,oc,vs,t,ec,hdc,hvc⟩:=F;have ho:s.heap.get? f=some (kla_obj "<lambda>" q params body scope cl pm cd ct):=(I.hok f _ e).1;have hoc:s.heap.get? cd=some oc:=(I.hok cd _ ec).1;apply wpAny_call (kla_callFunE hr ho rfl hco hgen rfl ⟨cd,oc,vs,t,rfl,hoc,hdc,hvc⟩ ?_);rw[hbind];apply aP (wpAny_newFunctionEnv jd (λy hy=>?_) (λh₁ hns hsb=>⟨I.nolimit.fresh _ hsb,?_⟩) hk)
 ·rw[ay.mp hy];exact hx
 show jI _ _ (.expr body (envX q scope s.heap.objs.size f (.ref cd) cl)) _ _;have old:∀b o,s.heap.get? b=some o→h₁.get? b=some o:=λb o e=>hsb.extBut b o (bL (aO e)) (au _ e)
 apply kla_codeExpr ?_;have ok':(cxLam X q scope cl s.heap.objs.size f (.ref cd) (x::fr) s H).Ok:=by
  apply⟨I.ok.mod,hk,rfl,rfl,aC _,λa b c e1 e2=>I.ok.inj a b c (c1 a c e1) (c1 b c e2),λy hy=>?_,λ_ _ z=>rW z (by intro q;cases q),λ_=>I.ok.hd hc,bY.frames_deeper I.ok.frames,.inr ⟨rfl,rfl⟩,λb hb=>rW (show b∈([]:List ak) from hb) ∅,I.bs,bj I.ok.bsz I.sz,λb o e hb=>rW (show b∈([]:List ak) from hb) ∅,λb hb=>rW (show b∈([]:List ak) from hb) ∅,I.stack,I.stkFree⟩;have hy:scope.names.lookup y=some .cell∨scope.names.lookup y=some .free:=hy
  rcases hy with hy | hy
  ·exact rW rfl (jd _ (cB hy))
  ·have hm:=cB hy
   obtain⟨c,e⟩:=I.ok.has y (.inl (hfr _ hm rfl));exact⟨c,(c2 _ hm rfl).trans e⟩
 have lenB:(dB σ js).length=fr.length:=by
  have e:=sd List.length hjs;rw[aa,aa] at e;unfold dB;rw[aa];exact e
 have I1:Inv (cxLam X q scope cl s.heap.objs.size f (.ref cd) (x::fr) s H) [] (some v::dB σ js) H { s with heap:=h₁,toks:=s.toks+1 }:=by
  apply⟨ok',rfl,I.bare,Un.kept old,⟨_,hns,λi y v' e1 e2 e3=>?_⟩,λy c e=>?_,I.hok.fresh (aC _),λy c e=>I.freeC y c (c1 y c e),λp hp=>rW (show p∈([]:List (ak×Obj)) from hp) ∅,I.hok.kept old,?_⟩
  ·cases i with
   | zero =>
    have e1:some x=some y:=e1;have e2:some (some v)=some (some v'):=e2;cases e1;cases e2;exact⟨u,ru,.inl ⟨hx,by show eR x [(x,u)]=_;rw[dM,beq_self_eq_true]⟩⟩
   | succ i =>
    have e1:fr[i]? =some y:=e1;have e2:(dB σ js)[i]? =some (some v'):=e2;unfold dB at e2;rw[ar] at e2;obtain⟨j,ej,e2⟩:=br.mp e2;have hN:X.N[j]? =some y:=by
     have q:=sd (λl=>l[i]?) hjs;simp only[ar,ej,e1,gC] at q;exact cE q
    have hσ:σ[j]? =some (some v'):=by
     cases z:σ[j]? with
     | none=>rw[z] at e2;cases e2
     | some w=>rw[z] at e2;exact sd some e2
    have hfree:=hfv y (bp e1);have hm:=cB hfree;have hce:X.env.scope.names.lookup y=some .cell:=hfr _ hm rfl;obtain⟨m,_,hl⟩:=I.loc;obtain⟨u',ru',look⟩:=hl j y v' hN hσ (.inr (.inl hce));apply⟨u',ru',.inr ⟨.inr hfree,?_⟩⟩
    rcases look with ⟨k,_⟩ | ⟨_,c,ec,ho⟩
    ·have k:X.env.scope.names.lookup y=some .local:=k
     rw[hce] at k;cases k
    ·obtain⟨o,ho,hd⟩:=ho
     exact⟨c,(c2 _ hm rfl).trans ec,o,old c o ho,hd⟩
  ·obtain⟨v',o,ho,hd⟩:=I.cell y c (c1 y c e)
   exact⟨v',o,old c o ho,hd⟩
  ·show(some v::dB σ js).length=(x::fr).length
   rw[bf,bf,lenB]
 apply cy (hb _ _ s H [] _ _ H Q I1 ht) (λw s' hs=>?_) λ_ _ z=>z.elim
 obtain⟨v',H',J,rv,qv⟩:=hs;exact I.after ⟨v',H',J.os,J.bare,J.base,J.hok,rv,qv⟩
end
def SortQ (P:ak)(lp:Pos)(lq:Str)(js:List Nat)(te:TE)(σ:St)(Q:VK)(v:V)(H1:Hp):Prop:=∃(r:ak) (n:Nat) (key:Nat→Int×Int),v= .ref r∧H1 r=some (.rng 0 n)∧n<64∧LamT P lp lq H1∧((aJ n).map key).Nodup ∧
 (∀i:Nat,i<n→∀H2,Tb P H1 H2→te (some (.int i)::dB σ js) H2 λu H3=>bC H2 H3∧∃a,u= .ref a∧H3 a=some (.tup [.int (key i).1,.int (key i).2])) ∧
 ∀(D:ak) (H4:Hp) (π:List Nat),Tb P H1 H4→LamT P lp lq H4→H4 D=none→π.Perm (aJ n)→π.Pairwise (λi j=>ltP (key i) (key j)=true)→Q (.ref D) (upd H4 D (.lst (π.map λ(i:Nat)=>V.int i)))
def tSortL (P:ak)(lp:Pos)(lq:Str)(tr:TE)(js:List Nat)(te:TE):TE:=λσ H Q=>tr σ H λv H1=>SortQ P lp lq js te σ Q v H1
def SortQ1 (P:ak)(lp:Pos)(lq:Str)(js:List Nat)(te:TE)(σ:St)(Q:VK):List V→Hp→Prop
 | [v],H1=>SortQ P lp lq js te σ Q v H1
 | _,_=>False
theorem rng_size0:cY 0 (n:Int) 1=n:=by
 unfold cY;rw[rV ↥0]
 by_cases h0:(0:Int)<n
 ·rw[rV h0,Int.ediv_one];lia
 ·rw[rT h0];lia
theorem rng_small0 (h:n<64):gB 0 (n:Int) 1=true:=by unfold gB;rw[rng_size0];unfold jX;simp;lia
theorem pe_sortL {tr:TE}{p kp:Pos}{c P:ak}(hc:X.calm=true)(hrm:X.A.depth<j5)(hg:Gl X "sorted")(hm:X.mg "sorted" =none)(hi:PE X re tr)
  (hd:defaultsOf params X.env=([],[])) (mN:X.env.code= .ref c) (C:codeHdIn X.K c P=true) (B:BM X.mg X.base)
  (hbind:∀q cl pm cdv ct (u:af),bindArgs (kla_fn "<lambda>" q params body scope cl pm cdv ct) ⟨[u],[]⟩=gf [(x,u)])
  (hk:scope.kind= .function) (hco:scope.isCoroutine=false) (hgen:scope.isGenerator=false) (jd:∀y∈scope.names,y.2≠ .cell) (hx:scope.names.lookup x=some .local) (hfx:x ∉ fr)
  (hfr:∀y∈scope.names,y.2= .free→X.env.scope.names.lookup y.1=some .cell) (hjs:js.map (λj=>X.N[j]?)=fr.map some) (hfv:∀y∈fr,scope.names.lookup y=some .free)
  (hb:∀cl L f cd s' H',PE (cxLam X (X.env.qual ++ "<lambda>") scope cl L f cd (x::fr) s' H') body te)
  (he:gg pos (bD [re] X.env)=(false,eG re X.env)::gg pos (bD [] X.env):=by rfl)
  (hs:bD [re] X.env=(false,eG re X.env)::bD [] X.env:=by rfl) (hpl:(gg pos (bD [re] X.env)).any (·.1)=false:=by rfl) :
  PE X (.Call (.Name "sorted" p) [re] [⟨some "key",.Lambda params body scope lp,kp⟩] pos) (tSortL P lp (X.env.qual ++ "<lambda>") tr js te):=by
 intro aR s σ H Q I h;apply eV (lT I hg hm (u:= .builtin "sorted") (by trivial) ?_);apply callWith_kw (kws:=[⟨some "key",.Lambda params body scope lp,kp⟩]) (thn ((ae hi aA hs) pos aR s σ H (SortQ1 P lp (X.env.qual ++ "<lambda>") js te σ Q) I h) λus s1 ⟨vs,H1,I1,r1,q0⟩=>?_) he hpl;apply kws_cons ?_;obtain⟨v,rfl⟩:∃v,vs=[v]:=by
  cases vs with
  | nil=>exact q0.elim
  | cons v r=>cases r with
   | nil=>exact⟨v,rfl⟩
   | cons _ _=>exact q0.elim
 have q1:SortQ P lp (X.env.qual ++ "<lambda>") js te σ Q v H1:=q0;obtain⟨r,n,key,rfl,hr,h64,T,hnd,hkey,hQ⟩:=q1;obtain rfl:us=[.ref r]:=by
  cases r1 with
  | cons ru rs =>
   cases rs;exact sd (λz=>[z]) ru
 apply lam_make (body:=body) I1 hd mN C B hfr T λf cl H2 s2 I2 tb T2 F2 c1 c2=>?_
 apply kws_nil ?_;show bc _ _ (call (.builtin "sorted") [.ref r] [(dt "key",.ref f)]) _ _ _;have rP:r≠P:=λz=>by
  rcases T with T | ⟨_,T,_⟩ <;> rw[←z,hr] at T <;> cases T
 obtain⟨t1,t2,t3,e3⟩:=I2.hok r _ (tb r _ rP hr);have hr3:IsRange s2.heap r 0 n 1 t1 t2 t3:=by first | exact e3 | exact⟨_,e3,rfl,rfl⟩
 apply sorted_keyR (I2.ok.hd hc) hr3 (rng_small0 h64) rng_size0 h64 λws h1 tk D kS e1 hl hw hkeep hD hDk gD gK=>?_
 have I3:Inv X aR σ H2 { s2 with heap:=h1,toks:=tk }:=I2.kept hkeep;have old:∀b o,s2.heap.get? b=some o→b≠D∧b≠kS:=λb o e=>⟨bL (aU (aO e) hD),bL (jV (aU (aO e) hD) hDk)⟩
 have hDs:=aO gD;have hKs:=aO gK;have frD:H2 D=none:=I2.hok.fresh hD;have frK:H2 kS=none:=I2.hok.fresh (jf (b9 hD hDk));have cc:∀y d,X.env.cells.lookup y=some d→d≠D∧d≠kS:=λy d e=>by obtain⟨v,o,ho,_⟩:=I2.cell y d e;exact old d o ho
 have pp:∀z∈X.pn++aR,z.1≠D∧z.1≠kS:=λz hz=>old _ _ (I2.pin z hz).1
 have nl:s2.heap.objs.size≤kS:=jf (b9 hD hDk);have I4:Inv X ((kS,bM "list" #[] 0)::(D,bM "list" #[] e1)::aR) σ H2 { s2 with heap:=h1,toks:=tk }:=I3.pins_of λz hz=>by
  rcases aE.mp hz with rfl | hz
  ·exact⟨gK,frK,df (aU I2.lt nl),I2.nofs nl,λv z=>by cases z⟩
  ·rcases aE.mp hz with rfl | hz
   ·exact⟨gD,frD,df (aU I2.lt hD),I2.nofs hD,λv z=>by cases z⟩
   ·exact I3.pin z (az _ hz)
 apply keyDo_of (num:=λi=>(i:Int)) (key:=key) I4 hl h64 (λi x e=>by obtain⟨t,q⟩:=hw i x e;exact⟨t,by rw[q];congr 1;lia⟩) (bj I2.sz nl) (bj I2.sz hD) (λy d e=>(cc y d e).2) (λy d e=>(cc y d e).1) (λz hz=>(pp z hz).2) (λz hz=>(pp z hz).1) (df hDk) hnd ?_ ?_
 ·intro t H' pins' i tk hi' I' S'
  apply cy (lam_call (v:= .int i) I' hc hrm (F2.same S') ⟨_,rfl⟩ (λpm cdv ct=>hbind _ _ _ _ _ _) hk hco hgen jd hx hfx c1 c2 hfr hjs hfv (λL cd s' H'=>hb cl L f cd s' H') (hkey i hi' H' (tb.trans S'.tb))) (λk t' ⟨v,H'',I'',rv,S'',a,ev,ea⟩=>?_) λ_ _ z=>z
  subst ev;obtain rfl:k= .ref a:=rv;exact⟨a,H'',I'',S'',rfl,ea⟩
 ·intro t H' π S' hD' I' pm pw
  exact⟨.ref D,_,I',rfl,hQ D H' π (tb.trans S'.tb) (T2.same S') hD' pm pw⟩
end L2
namespace HN
open PySem L2 PyProof.Rows
def z0:Sn:=⟨0,0,0,0,0⟩
def sAt (sp:List Sn)(i:Nat):Sn:=sp.getD i z0
theorem jy (h:i<sp.length):sp[i]? =some (sAt sp i):=by
 unfold sAt;rw[ag,gE h];rfl
theorem eD (h:i<sp.length):sAt sp i∈sp:=bp (jy h)
def oM (sp:List Sn)(i:Nat):Int×Int:=((sAt sp i).o - (sAt sp i).l,(i:Int))
def rO (sp:List Sn)(π:List Nat):Prop:=π.Perm (aJ sp.length)∧π.Pairwise λi j=>ltP (oM sp i) (oM sp j)=true
theorem wkey_nodup (sp:List Sn)(n:Nat):((aJ n).map (oM sp)).Nodup:=by
 rw[cb,dQ];apply List.Pairwise.imp (λ{a b} h e=>h ?_) List.nodup_range;have:=sd Prod.snd e;exact Int.ofNat.inj this
theorem ltP_asym {x y:Int×Int}(h:ltP x y=true)(k:ltP y x=true):False:=by
 rw[qw] at h k;lia
theorem perm_eq {α:Type}{R:α→α→Prop}(as:∀a b,R a b→R b a→a=b):∀{l k:List α},l.Perm k→l.Pairwise R→k.Pairwise R→l=k
 | [],k,p,_,_=>(List.nil_perm.mp p).symm
 | a::l,k,p,hl,hk=>by
  cases k with
  | nil=>exact rW p.symm (by intro z;have:=List.nil_perm.mp z;cases this)
  | cons b k =>
   have ab:a=b:=by
    have ha:a∈b::k:=p.mem_iff.mp bt;have hb:b∈a::l:=p.mem_iff.mpr bt
    rcases aE.mp ha with e | ha
    ·exact e
    ·rcases aE.mp hb with e | hb
     ·exact e.symm
     ·exact as a b (List.rel_of_pairwise_cons hl hb) (List.rel_of_pairwise_cons hk ha)
   subst ab;rw[perm_eq as p.cons_inv (List.pairwise_cons.mp hl).2 (List.pairwise_cons.mp hk).2]
theorem rO.one {ρ:List Nat}(a:rO sp π)(b:rO sp ρ):π=ρ :=
 perm_eq (λ_ _ h k=>(ltP_asym h k).elim) (a.1.trans b.1.symm) a.2 b.2
theorem rO.lt (a:rO sp π)(h:i∈π):i<sp.length:=bF.mp (a.1.mem_iff.mp h)
theorem rO.len (a:rO sp π):π.length=sp.length:=by rw[a.1.length_eq,bq]
def gH (gs:List Int)(x y:Int):List Int:=gs.map λg=>if g=y then x else g
def gc (sp:List Sn)(c:List Int×List Nat)(i:Nat):List Int×List Nat :=
 if tm c.1 (sAt sp i).s=tm c.1 (sAt sp i).g then c else (gH c.1 (tm c.1 (sAt sp i).s) (tm c.1 (sAt sp i).g),c.2++[i])
def ko (m:Nat):List Int:=(aJ m).map λ(k:Nat)=>(k:Int)
def j7 (sp:List Sn)(m:Nat)(π:List Nat):List Int×List Nat:=π.foldl (gc sp) (ko m,[])
def eQ (ps:List (List Int))(x:Int):List Int:=(ps.filter λp=>decide (x∈p)).headD []
def stepQ (sp:List Sn)(c:List (List Int)×List Nat)(i:Nat):List (List Int)×List Nat :=
 if eQ c.1 (sAt sp i).s=eQ c.1 (sAt sp i).g then c
 else (c.1.filter (λp=> !(decide (p=eQ c.1 (sAt sp i).s)) && !(decide (p=eQ c.1 (sAt sp i).g)))++[eQ c.1 (sAt sp i).s++eQ c.1 (sAt sp i).g],c.2++[i])
def prt0 (m:Nat):List (List Int):=(aJ m).map λ(k:Nat)=>[(k:Int)]
structure Rl (m:Nat)(gs:List Int)(ps:List (List Int)):Prop where
 len:gs.length=m
 cov:∀x:Int,0≤x→x<m→∃p∈ps,x∈p
 one:∀p∈ps,∀q∈ps,∀x,x∈p→x∈q→p=q
 eqv:∀x y:Int,0≤x→x<m→0≤y→y<m→(tm gs x=tm gs y↔∃p∈ps,x∈p∧y∈p)
theorem Rl.part {ps:List (List Int)}(R:Rl m gs ps){x:Int}(h0:0≤x)(h1:x<m):eQ ps x∈ps∧x∈eQ ps x:=by
 obtain⟨p,hp,hx⟩:=R.cov x h0 h1;unfold eQ;have hm:p∈ps.filter λp=>decide (x∈p):=bZ.mpr ⟨hp,rX hx⟩
 cases e:ps.filter λp=>decide (x∈p) with
 | nil=>rw[e] at hm;cases hm
 | cons q r =>
  have hq:q∈ps.filter λp=>decide (x∈p):=by rw[e];exact bt
  obtain⟨a,b⟩:=bZ.mp hq;exact⟨a,rZ b⟩
theorem Rl.is {ps:List (List Int)}(R:Rl m gs ps){x y:Int}(h0:0≤x)(h1:x<m)(k0:0≤y)(k1:y<m):tm gs x=tm gs y↔x∈eQ ps y:=by
 obtain⟨p1,p2⟩:=R.part k0 k1;apply(R.eqv x y h0 h1 k0 k1).trans ⟨λ⟨p,hp,hx,hy⟩=>?_,λh=>⟨_,p1,h,p2⟩⟩;rw[←R.one p hp _ p1 y hy p2];exact hx
theorem Rl.same {ps:List (List Int)}(R:Rl m gs ps){x y:Int}(h0:0≤x)(h1:x<m)(k0:0≤y)(k1:y<m):tm gs x=tm gs y↔eQ ps x=eQ ps y:=by
 apply(R.is h0 h1 k0 k1).trans ⟨λh=>?_,λh=>?_⟩
 ·exact R.one _ (R.part h0 h1).1 _ (R.part k0 k1).1 x (R.part h0 h1).2 h
 ·rw[←h];exact(R.part h0 h1).2
theorem k4 {u v x:Int}(h0:0≤x)(h1:x<gs.length):tm (gH gs u v) x=if tm gs x=v then u else tm gs x:=by
 obtain⟨j,rfl⟩:=cp h0;have hj:j<gs.length:=by lia
 unfold tm gH;simp only[cM,ag,ar,gE hj,gC,Option.getD_some]
theorem Rl.join {ps:List (List Int)}(R:Rl m gs ps){a:Int}(a0:0≤a)(a1:a<m)(b0:0≤b)(b1:b<m) :
  Rl m (gH gs (tm gs a) (tm gs b)) (ps.filter (λp=> !(decide (p=eQ ps a)) && !(decide (p=eQ ps b)))++[eQ ps a++eQ ps b]):=by
 obtain⟨pa,ha⟩:=R.part a0 a1;obtain⟨pb,hb⟩:=R.part b0 b1;have mem:∀p,p∈ps.filter (λp=> !(decide (p=eQ ps a)) && !(decide (p=eQ ps b)))++[eQ ps a++eQ ps b]↔(p∈ps∧p≠eQ ps a∧p≠eQ ps b)∨p=eQ ps a++eQ ps b:=λp=>by
  rw[aQ,bZ,ay];simp only[eh,gM,decide_eq_false_iff_not,ne_eq]
 have uni:∀p∈ps,p≠eQ ps a→p≠eQ ps b→∀x,x∈p→x ∉ eQ ps a++eQ ps b:=λp hp n1 n2 x hx hz=>by
  rcases aQ.mp hz with hz | hz
  ·exact n1 (R.one p hp _ pa x hx hz)
  ·exact n2 (R.one p hp _ pb x hx hz)
 apply⟨by unfold gH;rw[aa];exact R.len,λx h0 h1=>?_,λp hp q hq x hx hy=>?_,λx y h0 h1 k0 k1=>?_⟩
 ·obtain⟨p,hp,hx⟩:=R.cov x h0 h1
  by_cases e1:p=eQ ps a
  ·exact⟨_,(mem _).mpr (.inr rfl),aM _ (e1 ▸ hx)⟩
  ·by_cases e2:p=eQ ps b
   ·exact⟨_,(mem _).mpr (.inr rfl),az _ (e2 ▸ hx)⟩
   ·exact⟨p,(mem p).mpr (.inl ⟨hp,e1,e2⟩),hx⟩
 ·rcases(mem p).mp hp with ⟨p1,p2,p3⟩ | rfl
  ·rcases(mem q).mp hq with ⟨q1,q2,q3⟩ | rfl
   ·exact R.one p p1 q q1 x hx hy
   ·exact rW hy (uni p p1 p2 p3 x hx)
  ·rcases(mem q).mp hq with ⟨q1,q2,q3⟩ | rfl
   ·exact rW hx (uni q q1 q2 q3 x hy)
   ·rfl
 ·rw[k4 h0 (by rw[R.len];exact h1),k4 k0 (by rw[R.len];exact k1)]
  have xa:=R.is h0 h1 a0 a1;have xb:=R.is h0 h1 b0 b1;have ya:=R.is k0 k1 a0 a1;have yb:=R.is k0 k1 b0 b1;have xy:=R.eqv x y h0 h1 k0 k1
  constructor
  ·intro h
   by_cases e:tm gs x=tm gs y
   ·obtain⟨p,hp,hx,hy⟩:=xy.mp e
    by_cases e1:p=eQ ps a
    ·exact⟨_,(mem _).mpr (.inr rfl),aM _ (e1 ▸ hx),aM _ (e1 ▸ hy)⟩
    ·by_cases e2:p=eQ ps b
     ·exact⟨_,(mem _).mpr (.inr rfl),az _ (e2 ▸ hx),az _ (e2 ▸ hy)⟩
     ·exact⟨p,(mem p).mpr (.inl ⟨hp,e1,e2⟩),hx,hy⟩
   ·apply⟨_,(mem _).mpr (.inr rfl),?_,?_⟩
    ·by_cases e1:tm gs x=tm gs b
     ·exact az _ (xb.mp e1)
     ·rw[rT e1] at h
      by_cases e2:tm gs y=tm gs b
      ·rw[rV e2] at h;exact aM _ (xa.mp h)
      ·rw[rT e2] at h;exact rW h e
    ·by_cases e1:tm gs y=tm gs b
     ·exact az _ (yb.mp e1)
     ·rw[rT e1] at h
      by_cases e2:tm gs x=tm gs b
      ·rw[rV e2] at h;exact aM _ (ya.mp h.symm)
      ·rw[rT e2] at h;exact rW h e
  ·rintro⟨p,hp,hx,hy⟩
   rcases(mem p).mp hp with ⟨p1,p2,p3⟩ | rfl
   ·rw[xy.mpr ⟨p,p1,hx,hy⟩]
   ·have fx:∀z:Int,(z∈eQ ps a→tm gs z=tm gs a)→(z∈eQ ps b→tm gs z=tm gs b)→z∈eQ ps a++eQ ps b→(if tm gs z=tm gs b then tm gs a else tm gs z)=tm gs a:=λz f1 f2 hz=>by
     by_cases e:tm gs z=tm gs b
     ·rw[rV e]
     ·rw[rT e]
      rcases aQ.mp hz with hz | hz
      ·exact f1 hz
      ·exact rW (f2 hz) e
    rw[fx x xa.mpr xb.mpr hx,fx y ya.mpr yb.mpr hy]
theorem nW {x:Int}(h0:0≤x)(h1:x<m):tm (ko m) x=x:=by
 obtain⟨j,rfl⟩:=cp h0;unfold tm ko;rw[cM,ag,ar,eE ⋯];rfl
theorem Rl.start (m:Nat):Rl m (ko m) (prt0 m):=by
 have mem:∀p,p∈prt0 m↔∃k:Nat,k<m∧p=[(k:Int)]:=λp=>by
  unfold prt0;rw[aL];exact⟨λ⟨k,a,b⟩=>⟨k,bF.mp a,b.symm⟩,λ⟨k,a,b⟩=>⟨k,bF.mpr a,b.symm⟩⟩
 apply⟨by unfold ko;rw[aa,bq],λx h0 h1=>⟨[x],(mem _).mpr ⟨x.toNat,⋯,by rw[fm h0]⟩,ay.mpr rfl⟩,λp hp q hq x hx hy=>?_,λx y h0 h1 k0 k1=>?_⟩
 ·obtain⟨k,_,rfl⟩:=(mem p).mp hp
  obtain⟨j,_,rfl⟩:=(mem q).mp hq;rw[←ay.mp hx,←ay.mp hy]
 ·rw[nW h0 h1,nW k0 k1]
  apply⟨λe=>⟨[x],(mem _).mpr ⟨x.toNat,⋯,by rw[fm h0]⟩,ay.mpr rfl,by rw[e];exact ay.mpr rfl⟩,λ⟨p,hp,hx,hy⟩=>?_⟩;obtain⟨k,_,rfl⟩:=(mem p).mp hp;rw[ay.mp hx,ay.mp hy]
def Ends (m:Nat)(sp:List Sn):Prop:=∀x∈sp,0≤x.s∧x.s<m∧0≤x.g∧x.g<m
theorem qI {m:Nat}{sp:List Sn}(E:Ends m sp):∀(π:List Nat) (gs:List Int) (ps:List (List Int)) (tk:List Nat),(∀i∈π,i<sp.length)→Rl m gs ps→Rl m (π.foldl (gc sp) (gs,tk)).1 (π.foldl (stepQ sp) (ps,tk)).1∧(π.foldl (gc sp) (gs,tk)).2=(π.foldl (stepQ sp) (ps,tk)).2
 | [],gs,ps,tk,_,R=>⟨R,rfl⟩
 | i::π,gs,ps,tk,h,R=>by
  obtain⟨a0,a1,b0,b1⟩:=E _ (eD (h i bt));have hs:=R.same a0 a1 b0 b1;rw[bJ,bJ];unfold gc stepQ
  by_cases e:tm gs (sAt sp i).s=tm gs (sAt sp i).g
  ·rw[rV (show tm (gs,tk).1 _=tm (gs,tk).1 _ from e),rV (show eQ (ps,tk).1 _=eQ (ps,tk).1 _ from hs.mp e)]
   exact qI E π gs ps tk (λj hj=>h j (aw _ hj)) R
  ·rw[rT (show ¬tm (gs,tk).1 _=tm (gs,tk).1 _ from e),rT (show ¬eQ (ps,tk).1 _=eQ (ps,tk).1 _ from λz=>e (hs.mpr z))]
   exact qI E π _ _ _ (λj hj=>h j (aw _ hj)) (R.join a0 a1 b0 b1)
theorem kL (sp:List Sn):∀(π:List Nat) (c:List Int×List Nat),(∀i∈(π.foldl (gc sp) c).2,i∈c.2∨i∈π)∧(π.foldl (gc sp) c).2.length≤c.2.length+π.length
 | [],c=>⟨λi h=> .inl h,aC _⟩
 | j::π,c=>by
  obtain⟨a,b⟩:=kL sp π (gc sp c j);rw[bJ];have key:(∀i∈(gc sp c j).2,i∈c.2∨i=j)∧(gc sp c j).2.length≤c.2.length+1:=by
   unfold gc;split
   ·exact⟨λi h=> .inl h,⋯⟩
   ·apply⟨λi h=>?_,by rw[av];exact aC _⟩
    rcases aQ.mp h with h | h
    ·exact .inl h
    ·exact .inr (ay.mp h)
  apply⟨λi hi=>?_,by rw[bf];lia⟩
  rcases a i hi with h | h
  ·rcases key.1 i h with h | h
   ·exact .inl h
   ·exact .inr (h ▸ bt)
  ·exact .inr (aw _ h)
def oz (m:Nat)(sp:List Sn)(ns:List Int):Prop:=∃π,rO sp π∧ns.Perm ((j7 sp m π).2.map λ(i:Nat)=>(i:Int))∧ns.Pairwise (· ≤ ·)
theorem oz.one {ms:List Int}(a:oz m sp ns)(b:oz m sp ms):ns=ms:=by
 obtain⟨π,o1,p1,w1⟩:=a;obtain⟨ρ,o2,p2,w2⟩:=b;rw[o1.one o2] at p1;exact perm_eq (λa b h k=>by lia) (p1.trans p2.symm) w1 w2
theorem oz.len (a:oz m sp ns):ns.length≤sp.length:=by
 obtain⟨π,o,p,_⟩:=a;rw[p.length_eq,aa];have:=(kL sp π (ko m,[])).2;have h2:=o.len;have h3:((ko m,([]:List Nat)).2).length=0:=rfl;unfold j7;lia
theorem ia.ends {m:Int}(N:ia b m sp):Ends m.toNat sp:=λx hx=>by
 obtain⟨s0,s1,g0,g1,_⟩:=N.all x hx;lia
theorem Tb.tupK {T:ak}(hT:∃ps,H T=some (.tbl ps))(e:L2.Tb T H H'):kr H H':=λq xs h=>e q _ (by obtain⟨ps,hT⟩:=hT;exact fb h hT nofun) h
theorem LamT.tbl {T:ak}(h:L2.LamT T lp lq H):∃ps,H T=some (.tbl ps):=by
 rcases h with h | ⟨c,h,_⟩
 ·exact⟨_,h⟩
 ·exact⟨_,h⟩
theorem LamT.upd {T:ak}(h:L2.LamT T lp lq H)(ha:∀p u,H a=some (.frz p u)→False)(hb:∀ps,H a=some (.tbl ps)→False):L2.LamT T lp lq (upd H a o):=by
 rcases h with h | ⟨c,h,oc,vs,t,e,r⟩
 ·exact .inl (by rw[bz (λz=>hb _ (z ▸ h))];exact h)
 ·exact .inr ⟨c,by rw[bz (λz=>hb _ (z ▸ h))];exact h,oc,vs,t,by rw[bz (λz=>ha _ _ (z ▸ e))];exact e,r⟩
inductive spSpW (T:ak)(lp:Pos)(lq:Str)(vs:List V)(H:Hp)(Q:VK)(_:XK):Prop
 | mk (v b m sp:_)(_:vs=[v])(_:IsD H v (jA b m sp))(_:sp.length≤40)(_:L2.LamT T lp lq H)(_:∀D H' π,L2.Tb T H H'→L2.LamT T lp lq H'→H' D=none→rO sp π→Q (.ref D) (L2.upd H' D (.lst (π.map λ(i:Nat)=>V.int i))))
inductive k5 (T:ak)(lp:Pos)(lq:Str)(vs:List V)(H:Hp)(Q:VK)(_:XK):Prop
 | mk (v b m sp:_)(_:vs=[v])(_:IsD H v (jA b m sp))(_:ia b m sp)(_:L2.LamT T lp lq H)(_:∀u H' ns,L2.Tb T H H'→L2.LamT T lp lq H'→H' u=some (.tup (ns.map V.int))→oz m.toNat sp ns→Q (.ref u) H')
def Finer (m:Nat)(gs hs:List Int):Prop:=∀x y:Int,0≤x→x<m→0≤y→y<m→tm gs x=tm gs y→tm hs x=tm hs y
theorem Finer.refl (m:Nat)(gs:List Int):Finer m gs gs:=λ_ _ _ _ _ _ h=>h
theorem lV (gs:List Int)(u v:Int):(gH gs u v).length=gs.length:=by unfold gH;rw[aa]
theorem Finer.wide {hs:List Int}{u v:Int}(F:Finer m gs hs)(l2:hs.length=m):Finer m gs (gH hs u v):=by
 intro x y x0 x1 y0 y1 h;rw[k4 x0 ⋯,k4 y0 ⋯,F x y x0 x1 y0 y1 h]
theorem join_meets {a:Int}(l1:gs.length=m)(a0:0≤a)(a1:a<m)(b0:0≤b)(b1:b<m):tm (gH gs (tm gs a) (tm gs b)) a=tm (gH gs (tm gs a) (tm gs b)) b:=by
 rw[k4 a0 ⋯,k4 b0 ⋯,rV rfl]
 by_cases e:tm gs a=tm gs b
 ·rw[rV e]
 ·rw[rT e]
theorem jD (sp:List Sn)(gs:List Int)(tk:List Nat)(i:Nat):(tm gs (sAt sp i).s=tm gs (sAt sp i).g∧gc sp (gs,tk) i=(gs,tk))∨(tm gs (sAt sp i).s≠tm gs (sAt sp i).g∧gc sp (gs,tk) i=(gH gs (tm gs (sAt sp i).s) (tm gs (sAt sp i).g),tk++[i])):=by
 unfold gc
 by_cases e:tm gs (sAt sp i).s=tm gs (sAt sp i).g
 ·exact .inl ⟨e,rV e⟩
 ·exact .inr ⟨e,rT e⟩
theorem nL {m:Nat}{sp:List Sn}:∀(π:List Nat) (gs hs:List Int) (tk:List Nat),hs.length=m→Finer m gs hs→Finer m gs (π.foldl (gc sp) (hs,tk)).1
 | [],_,_,_,_,F=>F
 | i::π,gs,hs,tk,l,F=>by
  rw[bJ]
  rcases jD sp hs tk i with ⟨_,e⟩ | ⟨_,e⟩ <;> rw[e]
  ·exact nL π gs hs tk l F
  ·exact nL π gs _ _ (by rw[lV];exact l) (F.wide l)
theorem kQ {m:Nat}{sp:List Sn}(E:Ends m sp):∀(π:List Nat) (gs:List Int) (tk:List Nat),gs.length=m→(∀i∈π,i<sp.length)→∀i∈π,tm (π.foldl (gc sp) (gs,tk)).1 (sAt sp i).s=tm (π.foldl (gc sp) (gs,tk)).1 (sAt sp i).g
 | [],_,_,_,_,i,h=>by cases h
 | j::π,gs,tk,l,hp,i,h=>by
  rw[bJ];obtain⟨a0,a1,b0,b1⟩:=E _ (eD (hp j bt));have hp':∀i∈π,i<sp.length:=λk hk=>hp k (aw _ hk)
  rcases jD sp gs tk j with ⟨q,e⟩ | ⟨_,e⟩ <;> rw[e]
  ·rcases aE.mp h with rfl | h
   ·exact nL π gs gs tk l (Finer.refl m gs) _ _ a0 a1 b0 b1 q
   ·exact kQ E π gs tk l hp' i h
  ·have l':(gH gs (tm gs (sAt sp j).s) (tm gs (sAt sp j).g)).length=m:=by rw[lV];exact l
   rcases aE.mp h with rfl | h
   ·exact nL π _ _ _ l' (Finer.refl m _) _ _ a0 a1 b0 b1 (join_meets l a0 a1 b0 b1)
   ·exact kQ E π _ _ l' hp' i h
theorem tm_mem {x:Int}(h0:0≤x)(h1:x<gs.length):tm gs x∈gs:=by
 obtain⟨j,rfl⟩:=cp h0;unfold tm;rw[cM,ag,gE ⋯];exact bH _
def Cnt (m:Nat)(gs:List Int)(k:Nat):Prop:=∃D:List Int,D.Nodup∧(∀v,v∈D↔v∈gs)∧D.length+k=m
theorem Cnt.join {k:Nat}(C:Cnt m gs k){u v:Int}(hu:u∈gs)(hv:v∈gs)(n:u≠v):Cnt m (gH gs u v) (k+1):=by
 obtain⟨D,nd,mem,l⟩:=C;have hvD:=(mem v).mpr hv;apply⟨D.erase v,nd.erase v,λz=>?_,by rw[List.length_erase_of_mem hvD];have:=List.length_pos_of_mem hvD;lia⟩;rw[nd.mem_erase_iff,mem];unfold gH;rw[aL]
 constructor
 ·rintro⟨h1,h2⟩
  exact⟨z,h2,rT h1⟩
 ·rintro⟨w,hw,rfl⟩
  by_cases e:w=v
  ·rw[rV e];exact⟨n,hu⟩
  ·rw[rT e];exact⟨e,hw⟩
theorem gone_cnt {m:Nat}{sp:List Sn}(E:Ends m sp):∀(π:List Nat) (gs:List Int) (tk:List Nat),gs.length=m→(∀i∈π,i<sp.length)→Cnt m gs tk.length→Cnt m (π.foldl (gc sp) (gs,tk)).1 (π.foldl (gc sp) (gs,tk)).2.length
 | [],_,_,_,_,C=>C
 | j::π,gs,tk,l,hp,C=>by
  rw[bJ];obtain⟨a0,a1,b0,b1⟩:=E _ (eD (hp j bt));have hp':∀i∈π,i<sp.length:=λk hk=>hp k (aw _ hk)
  rcases jD sp gs tk j with ⟨_,e⟩ | ⟨n,e⟩ <;> rw[e]
  ·exact gone_cnt E π gs tk l hp' C
  ·apply gone_cnt E π _ _ (by rw[lV];exact l) hp' ?_
   rw[av];exact C.join (tm_mem a0 ⋯) (tm_mem b0 ⋯) n
theorem Cnt.start (m:Nat):Cnt m (ko m) 0:=by
 apply⟨ko m,?_,λ_=>Iff.rfl,by unfold ko;rw[aa,bq];lia⟩;unfold ko;rw[cb,dQ];exact List.Pairwise.imp (λ{a b} h e=>h (Int.ofNat.inj e)) List.nodup_range
theorem mz:∀{l k:List Int},l.Nodup→(∀x∈l,x∈k)→l.length≤k.length
 | [],_,_,_=>bK _
 | a::l,k,nd,h=>by
  have ha:=h a bt;have ih:=mz (l:=l) (k:=k.erase a) (bP.mp nd).2 λx hx=>by
   have hxk:=h x (aw _ hx);have hne:x≠a:=λz=>(bP.mp nd).1 (z ▸ hx)
   exact(List.mem_erase_of_ne hne).mpr hxk
  rw[List.length_erase_of_mem ha] at ih;have:=List.length_pos_of_mem ha;rw[bf];lia
theorem j6 (m:Nat):(ko m).length=m:=by unfold ko;rw[aa,bq]
theorem pS (sp:List Sn):∀(π:List Nat) (gs:List Int) (tk:List Nat),∃more,(π.foldl (gc sp) (gs,tk)).2=tk++more
 | [],gs,tk=>⟨[],(dH tk).symm⟩
 | j::π,gs,tk=>by
  rw[bJ]
  rcases jD sp gs tk j with ⟨_,e⟩ | ⟨_,e⟩ <;> rw[e]
  ·exact pS sp π gs tk
  ·obtain⟨more,h⟩:=pS sp π (gH gs (tm gs (sAt sp j).s) (tm gs (sAt sp j).g)) (tk++[j])
   exact⟨j::more,by rw[h,List.append_assoc];rfl⟩
def hW (sp:List Sn)(l:List Nat):Int:=l.foldl (λc i=>c * ((oM sp i).1+1)) 1
theorem kM (sp:List Sn)(l:List Nat)(i:Nat):hW sp (l++[i])=hW sp l * ((oM sp i).1+1):=by unfold hW;rw[eI];rfl
theorem fold_mul (sp:List Sn):∀(l:List Nat) (c:Int),l.foldl (λc i=>c * ((oM sp i).1+1)) c=c * hW sp l
 | [],c=>(gN c).symm
 | i::l,c=>by
  unfold hW;rw[bJ,bJ,fold_mul sp l,fold_mul sp l,Int.one_mul,jv]
theorem iH (sp:List Sn)(l:List Nat)(i:Nat):hW sp (i::l)=((oM sp i).1+1) * hW sp l:=by
 show l.foldl _ (1 * ((oM sp i).1+1))=_;rw[fold_mul,Int.one_mul]
theorem prodW_perm (sp:List Sn){k:List Nat}(h:l.Perm k):hW sp l=hW sp k:=by
 induction h with
 | nil=>rfl
 | cons x _ ih=>rw[iH,iH,ih]
 | swap x y l=>rw[iH,iH,iH,iH,←jv,←jv,jg ((oM sp y).1+1)]
 | trans _ _ h1 h2=>exact h1.trans h2
def lkW (l:List (Int×List Stp))(x:Int):Option (List Stp):=(l.find? λp=>decide (p.1=x)).map (·.2)
theorem lx (p:Int×List Stp)(l:List (Int×List Stp))(x:Int):lkW (p::l) x=if p.1=x then some p.2 else lkW l x:=by
 unfold lkW;rw[iw]
 by_cases e:p.1=x
 ·rw[rX e,rV e];rfl
 ·rw[rY e,rT e]
theorem mL {l:List (Int×List Stp)}{y:Int}{ws:List Stp}(h:lkW l y=none)(x:Int):lkW (l++[(y,ws)]) x=if x=y then some ws else lkW l x:=by
 induction l with
 | nil =>
  show lkW [(y,ws)] x=_;rw[lx]
  by_cases e:x=y
  ·rw[rV e,rV e.symm]
  ·rw[rT e,rT (λz=>e z.symm)]
 | cons p l ih =>
  rw[lx] at h
  by_cases e:p.1=y
  ·rw[rV e] at h;cases h
  ·rw[rT e] at h
   rw[List.cons_append,lx,lx,ih h]
   by_cases e1:p.1=x
   ·rw[rV e1,rV e1,rT (λz=>e (e1.trans z))]
   ·rw[rT e1,rT e1]
def stF (tk:List Nat):List Stp:=tk.map (λi=>⟨i,1⟩)++tk.map (λi=>⟨i,-1⟩)
def dU (sp:List Sn)(tk:List Nat)(x:Int):List Stp:=(stF tk).filter λs=>decide (mw sp s=x)
def i4 (sp:List Sn)(x:Int)(c:List (Int×List Stp)×List Int)(s:Stp):List (Int×List Stp)×List Int :=
 if lkW c.1 (fQ sp s)=none then (c.1++[(fQ sp s,(lkW c.1 x).getD []++[s])],c.2++[fQ sp s]) else c
def lU (l:List Int):Int:=l.getLast?.getD 0
def qS (sp:List Sn)(tk:List Nat)(c:List (Int×List Stp)×List Int):List (Int×List Stp)×List Int :=
 (dU sp tk (lU c.2)).foldl (i4 sp (lU c.2)) (c.1,c.2.dropLast)
def itW (sp:List Sn)(tk:List Nat)(be:Int):Nat→List (Int×List Stp)×List Int
 | 0=>([(be,[])],[be])
 | k+1=>qS sp tk (itW sp tk be k)
def WayR (sp:List Sn)(tk:List Nat)(be en:Int)(p:List Stp):Prop:=∃k,lkW (itW sp tk be k).1 en=some p∧∀j,j<k→lkW (itW sp tk be j).1 en=none
structure Pth (sp:List Sn)(tk:List Nat)(be x:Int)(ws:List Stp):Prop where
 inn:∀s∈ws,s.i∈tk∧s.i<sp.length∧(s.d=1∨s.d= -1)
 alo:qP sp be ws x
 one:(ws.map Stp.i).Nodup
 met:(be::ws.map (fQ sp)).Nodup
theorem mem_stF {s:Stp}(h:s∈stF tk):s.i∈tk∧(s.d=1∨s.d= -1):=by
 rcases aQ.mp h with h | h
 ·obtain⟨i,hi,rfl⟩:=aL.mp h;exact⟨hi,.inl rfl⟩
 ·obtain⟨i,hi,rfl⟩:=aL.mp h;exact⟨hi,.inr rfl⟩
structure WI (m:Nat)(sp:List Sn)(tk:List Nat)(be:Int)(c:List (Int×List Stp)×List Int):Prop where
 pth:∀x ws,lkW c.1 x=some ws→Pth sp tk be x ws∧∀s∈ws,lkW c.1 (mw sp s)≠none∧lkW c.1 (fQ sp s)≠none
 rng:∀x,lkW c.1 x≠none→0≤x∧x<m
 ahd:∀x∈c.2,lkW c.1 x≠none
 beg:lkW c.1 be≠none
def Clo (sp:List Sn)(tk:List Nat)(ex:Int→Prop)(c:List (Int×List Stp)×List Int):Prop:=∀x,lkW c.1 x≠none→x ∉ c.2→¬ex x→∀s∈dU sp tk x,lkW c.1 (fQ sp s)≠none
def nN (l:List (Int×List Stp)):Nat:=(aJ 16).countP λx=>(lkW l ((x:Nat):Int)).isNone
theorem count_lt' {α:Type}{P Q:α→Bool}:∀{l:List α},(∀x∈l,Q x=true→P x=true)→∀{a:α},a∈l→P a=true→Q a=false→l.countP Q<l.countP P
 | [],_,_,h,_,_=>rW h ∅
 | x::l,hPQ,a,h,hP,hQ=>by
  have le:l.countP Q≤l.countP P:=List.countP_mono_left λy hy=>hPQ y (aw _ hy)
  rw[List.countP_cons,List.countP_cons]
  rcases aE.mp h with rfl | h
  ·rw[hP,hQ];simp;lia
  ·have ih:=count_lt' (P:=P) (Q:=Q) (l:=l) (λy hy=>hPQ y (aw _ hy)) h hP hQ
   have:=hPQ x ∅;cases q:Q x with
   | true=>rw[this q];simp;lia
   | false=>simp;lia
theorem cntW_new {l:List (Int×List Stp)}{y:Int}{ws:List Stp}(h:lkW l y=none)(y0:0≤y)(y1:y<16):nN (l++[(y,ws)])<nN l:=by
 unfold nN;obtain⟨n,rfl⟩:=cp y0;apply count_lt' (a:=n) (λx _ hx=>?_) (bF.mpr ⋯) ?_ ?_
 ·rw[mL h] at hx
  split at hx
  ·cases hx
  ·exact hx
 ·show(lkW l ((n:Nat):Int)).isNone=true
  rw[h];rfl
 ·show(lkW (l++[(((n:Nat):Int),ws)]) ((n:Nat):Int)).isNone=false
  rw[mL h,rV rfl];rfl
theorem l4 (E:Ends m sp){s:Stp}(hi:s.i<sp.length):0≤fQ sp s∧fQ sp s<m:=by
 obtain⟨i,d⟩:=s;have hi:i<sp.length:=hi;rw[k3 hi];obtain⟨a,b,c,e⟩:=E _ (bH hi);unfold too;split
 ·exact⟨c,e⟩
 ·exact⟨a,b⟩
theorem visit_ok {x:Int}(E:Ends m sp)(m16:m≤16)(ht:∀i∈tk,i<sp.length){s:Stp}(I:WI m sp tk be c)(hx:lkW c.1 x≠none)(hs:s∈dU sp tk x)(C:Clo sp tk (· =x) c) :
  WI m sp tk be (i4 sp x c s)∧Clo sp tk (· =x) (i4 sp x c s)∧lkW (i4 sp x c s).1 (fQ sp s)≠none∧(∀y,lkW c.1 y≠none→lkW (i4 sp x c s).1 y=lkW c.1 y)∧2 * nN (i4 sp x c s).1+(i4 sp x c s).2.length≤2 * nN c.1+c.2.length∧(i4 sp x c s).1.length+nN (i4 sp x c s).1≤c.1.length+nN c.1:=by
 obtain⟨hs1,hs2⟩:=bZ.mp hs;have hfr:mw sp s=x:=rZ hs2;obtain⟨hst,hsd⟩:=mem_stF hs1;have hsn:=ht _ hst;have tr:=l4 E hsn;unfold i4
 by_cases e:lkW c.1 (fQ sp s)=none
 ·rw[rV e]
  obtain⟨ws,hws⟩:∃ws,lkW c.1 x=some ws:=Option.ne_none_iff_exists'.mp hx;have eg:(lkW c.1 x).getD []=ws:=by rw[hws];rfl
  rw[eg];have keep:∀y,lkW c.1 y≠none→lkW (c.1++[(fQ sp s,ws++[s])]) y=lkW c.1 y:=λy hy=>by
   rw[mL e,rT (λ(z:y=fQ sp s)=>hy (by rw[z];exact e))]
  have new:lkW (c.1++[(fQ sp s,ws++[s])]) (fQ sp s)=some (ws++[s]):=by rw[mL e,rV rfl]
  have more:∀y,lkW c.1 y≠none→lkW (c.1++[(fQ sp s,ws++[s])]) y≠none:=λy hy=>by rw[keep y hy];exact hy
  obtain⟨P,K⟩:=I.pth x ws hws;have hne:∀st∈ws,st.i=s.i→False:=λst hst' e2=>by
   obtain⟨k1,k2⟩:=K st hst'
   rcases ends_of_span (sp:=sp) (st:=st) (d:=s.d) hsn e2 (P.inn st hst').2.2 hsd with z | z
   ·have z:fQ sp st=fQ sp s:=z
    rw[z] at k2;exact k2 e
   ·have z:mw sp st=fQ sp s:=z
    rw[z] at k1;exact k1 e
  have hnew:Pth sp tk be (fQ sp s) (ws++[s]):=by
   apply⟨λst hst'=>?_,P.alo.append ⟨hfr,rfl⟩,?_,?_⟩
   ·rcases aQ.mp hst' with h | h
    ·exact P.inn st h
    ·rw[ay.mp h];exact⟨hst,hsn,hsd⟩
   ·rw[ax]
    apply jL.mpr ⟨P.one,∅,λa ha b hb e3=>?_⟩;obtain⟨st,hst',rfl⟩:=aL.mp ha;have hb:b=s.i:=by simpa using hb
    exact hne st hst' (by rw[e3,hb])
   ·rw[ax,←List.cons_append]
    apply jL.mpr ⟨P.met,∅,λa ha b hb e3=>?_⟩;have hb:b=fQ sp s:=by simpa using hb
    subst hb;subst e3
    rcases aE.mp ha with z | z
    ·rw[z] at e;exact I.beg e
    ·obtain⟨st,hst',e4⟩:=aL.mp z
     exact(K st hst').2 (by rw[e4];exact e)
  apply⟨⟨λy vs hy=>?_,λy hy=>?_,λy hy=>?_,more _ I.beg⟩,λy hy hn ex t ht'=>?_,?_,keep,?_,?_⟩
  ·rw[mL e] at hy
   by_cases ey:y=fQ sp s
   ·rw[rV ey] at hy
    cases hy;rw[ey];apply⟨hnew,λst hst'=>?_⟩
    rcases aQ.mp hst' with h | h
    ·exact⟨more _ (K st h).1,more _ (K st h).2⟩
    ·rw[ay.mp h,hfr]
     exact⟨more _ hx,by rw[new];exact λz=>nomatch z⟩
   ·rw[rT ey] at hy
    obtain⟨P',K'⟩:=I.pth y vs hy;exact⟨P',λst h=>⟨more _ (K' st h).1,more _ (K' st h).2⟩⟩
  ·have hy:lkW (c.1++[(fQ sp s,ws++[s])]) y≠none:=hy
   rw[mL e] at hy
   by_cases ey:y=fQ sp s
   ·rw[ey];exact tr
   ·rw[rT ey] at hy;exact I.rng y hy
  ·rcases aQ.mp hy with h | h
   ·exact more _ (I.ahd y h)
   ·rw[ay.mp h];show lkW (c.1++[(fQ sp s,ws++[s])]) (fQ sp s)≠none;rw[new];exact λz=>nomatch z
  ·have hy:lkW (c.1++[(fQ sp s,ws++[s])]) y≠none:=hy
   have hn:y ∉ c.2++[fQ sp s]:=hn;have ey:y≠fQ sp s:=λz=>hn (az _ (ay.mpr z))
   rw[mL e,rT ey] at hy;exact more _ (C y hy (λz=>hn (aM _ z)) ex t ht')
  ·show lkW (c.1++[(fQ sp s,ws++[s])]) (fQ sp s)≠none
   rw[new];exact λz=>nomatch z
  ·have:=cntW_new (ws:=ws++[s]) e tr.1 ⋯
   show 2 * nN (c.1++[(fQ sp s,ws++[s])])+(c.2++[fQ sp s]).length≤_;rw[av];have:[fQ sp s].length=1:=rfl;lia
  ·have:=cntW_new (ws:=ws++[s]) e tr.1 ⋯
   show(c.1++[(fQ sp s,ws++[s])]).length+nN (c.1++[(fQ sp s,ws++[s])])≤_;rw[av];have:[(fQ sp s,ws++[s])].length=1:=rfl;lia
 ·rw[rT e]
  exact⟨I,C,e,λ_ _=>rfl,aC _,aC _⟩
theorem pM {m:Nat}{sp:List Sn}{tk:List Nat}{be x:Int}(E:Ends m sp)(m16:m≤16)(ht:∀i∈tk,i<sp.length):∀{L:List Stp} {c:List (Int×List Stp)×List Int},WI m sp tk be c→lkW c.1 x≠none→(∀s∈L,s∈dU sp tk x)→Clo sp tk (· =x) c →
  WI m sp tk be (L.foldl (i4 sp x) c)∧Clo sp tk (· =x) (L.foldl (i4 sp x) c)∧(∀s∈L,lkW (L.foldl (i4 sp x) c).1 (fQ sp s)≠none)∧(∀y,lkW c.1 y≠none→lkW (L.foldl (i4 sp x) c).1 y=lkW c.1 y)∧2 * nN (L.foldl (i4 sp x) c).1+(L.foldl (i4 sp x) c).2.length≤2 * nN c.1+c.2.length∧(L.foldl (i4 sp x) c).1.length+nN (L.foldl (i4 sp x) c).1≤c.1.length+nN c.1
 | [],c,I,_,_,C=>⟨I,C,λ_ h=>(by cases h),λ_ _=>rfl,aC _,aC _⟩
 | s::L,c,I,hx,hL,C=>by
  obtain⟨a1,a2,a3,a4,a5,a6⟩:=visit_ok E m16 ht I hx (hL s bt) C;obtain⟨b1,b2,b3,b4,b5,b6⟩:=pM E m16 ht (L:=L) a1 (by rw[a4 x hx];exact hx) (λt h=>hL t (aw _ h)) a2;rw[bJ];apply⟨b1,b2,λt h=>?_,λy hy=>?_,bj b5 a5,bj b6 a6⟩
  ·rcases aE.mp h with rfl | h
   ·rw[b4 _ a3];exact a3
   ·exact b3 t h
  ·rw[b4 y (by rw[a4 y hy];exact hy),a4 y hy]
theorem turn_ok (E:Ends m sp)(m16:m≤16)(ht:∀i∈tk,i<sp.length)(I:WI m sp tk be c)(C:Clo sp tk (λ_=>False) c)(hne:c.2≠[]) :
  WI m sp tk be (qS sp tk c)∧Clo sp tk (λ_=>False) (qS sp tk c)∧2 * nN (qS sp tk c).1+(qS sp tk c).2.length<2 * nN c.1+c.2.length∧(qS sp tk c).1.length+nN (qS sp tk c).1≤c.1.length+nN c.1:=by
 have hl:c.2.getLast? =some (c.2.getLast hne):=List.getLast?_eq_some_getLast hne;have e0:c.2=c.2.dropLast++[lU c.2]:=by
  unfold lU;rw[hl];exact(List.dropLast_concat_getLast hne).symm
 have hmem:lU c.2∈c.2:=by rw[e0];unfold lU;simp
 have hx:=I.ahd _ hmem;have I0:WI m sp tk be (c.1,c.2.dropLast):=⟨I.pth,I.rng,fun y hy=>I.ahd y ((List.dropLast_sublist _).subset hy),I.beg⟩;have C0:Clo sp tk (· =lU c.2) (c.1,c.2.dropLast):=fun y hy hn ex t ht'=>C y hy (fun z=>by
  rw[e0] at z
  rcases aQ.mp z with z | z
  ·exact hn z
  ·exact ex (ay.mp z)) (fun z=>z) t ht'
 obtain⟨b1,b2,b3,b4,b5,b6⟩:=pM E m16 ht (L:=dU sp tk (lU c.2)) I0 hx (λ_ h=>h) C0;apply⟨b1,λy hy hn _ t ht'=>?_,?_,b6⟩
 ·by_cases e:y=lU c.2
  ·subst e;exact b3 t ht'
  ·exact b2 y hy hn e t ht'
 ·have l1:c.2.dropLast.length+1=c.2.length:=by
   have:=sd List.length e0;rw[av] at this;exact this.symm
  have b5:2 * nN (qS sp tk c).1+(qS sp tk c).2.length≤2 * nN c.1+c.2.dropLast.length:=b5;lia
theorem start_ok (b0:0≤be)(b1:be<m):WI m sp tk be ([(be,[])],[be])∧Clo sp tk (λ_=>False) ([(be,[])],[be]):=by
 have lk:∀x,lkW [(be,[])] x=if be=x then some [] else none:=λx=>by rw[lx];rfl
 have kb:∀x,lkW [(be,([]:List Stp))] x≠none→x=be:=λx h=>by
  rw[lk] at h
  by_cases e:be=x
  ·exact e.symm
  ·rw[rT e] at h;exact rW rfl h
 have kn:lkW [(be,([]:List Stp))] be≠none:=by rw[lk,rV rfl];exact λz=>nomatch z
 apply⟨⟨λx ws h=>?_,λx h=>by rw[kb x h];exact⟨b0,b1⟩,λx h=>by rw[ay.mp h];exact kn,kn⟩,λx h hn=>?_⟩
 ·have h:lkW [(be,[])] x=some ws:=h
  rw[lk] at h
  by_cases e:be=x
  ·rw[rV e] at h
   cases h;exact⟨⟨λ_ h=>(nomatch h),e,List.nodup_nil,bP.mpr ⟨λh=>(nomatch h),List.nodup_nil⟩⟩,λ_ h=>(nomatch h)⟩
  ·rw[rT e] at h;cases h
 ·exact rW (ay.mpr (kb x h)) hn
def rR (sp:List Sn)(tk:List Nat)(be en:Int):Prop:=∀S:Int→Prop,(∀i∈tk,S (sAt sp i).s↔S (sAt sp i).g)→S be→S en
theorem rE (h:i<sp.length):mw sp ⟨i,1⟩=(sAt sp i).s∧fQ sp ⟨i,1⟩=(sAt sp i).g∧mw sp ⟨i,-1⟩=(sAt sp i).g∧fQ sp ⟨i,-1⟩=(sAt sp i).s:=by
 have e:sAt sp i=sp[i]:=by unfold sAt;rw[ag,gE h];rfl
 rw[mO h,k3 h,mO h,k3 h,e];unfold frm too;exact⟨rfl,rfl,rfl,rfl⟩
theorem left_of {en:Int}(ht:∀i∈tk,i<sp.length)(hh:rR sp tk be en)(I:WI m sp tk be c)(C:Clo sp tk (λ_=>False) c)(hn:lkW c.1 en=none):c.2≠[]:=λz=>by
 apply hh (λx=>lkW c.1 x≠none) (λi hi=>?_) I.beg hn;have hin:=ht i hi;obtain⟨f1,f2,f3,f4⟩:=rE hin;have m1:(⟨i,1⟩:Stp)∈dU sp tk (sAt sp i).s:=bZ.mpr ⟨aM _ (aL.mpr ⟨i,hi,rfl⟩),rX f1⟩;have m2:(⟨i,-1⟩:Stp)∈dU sp tk (sAt sp i).g:=bZ.mpr ⟨az _ (aL.mpr ⟨i,hi,rfl⟩),rX f3⟩
 constructor
 ·intro h
  have:=C _ h (by rw[z];exact cU) (λz=>z) _ m1;rw[f2] at this;exact this
 ·intro h
  have:=C _ h (by rw[z];exact cU) (λz=>z) _ m2;rw[f4] at this;exact this
theorem held_of {m:Nat}{sp:List Sn}(E:Ends m sp)(S:Int→Prop):∀(π:List Nat) (gs:List Int) (tk:List Nat),gs.length=m→(∀i∈π,i<sp.length)→(∀i∈(π.foldl (gc sp) (gs,tk)).2,S (sAt sp i).s↔S (sAt sp i).g) →
  (∀x y:Int,0≤x→x<m→0≤y→y<m→tm gs x=tm gs y→(S x↔S y))→∀x y:Int,0≤x→x<m→0≤y→y<m→tm (π.foldl (gc sp) (gs,tk)).1 x=tm (π.foldl (gc sp) (gs,tk)).1 y→(S x↔S y)
 | [],_,_,_,_,_,h=>h
 | j::π,gs,tk,l,hp,hS,h=>by
  rw[bJ] at hS ⊢;obtain⟨a0,a1,b0,b1⟩:=E _ (eD (hp j bt));have hp':∀i∈π,i<sp.length:=λk hk=>hp k (aw _ hk)
  rcases jD sp gs tk j with ⟨_,e⟩ | ⟨_,e⟩ <;> rw[e] at hS ⊢
  ·exact held_of E S π gs tk l hp' hS h
  ·apply held_of E S π _ _ (by rw[lV];exact l) hp' hS λx y x0 x1 y0 y1 hxy=>?_
   obtain⟨more,hm⟩:=pS sp π (gH gs (tm gs (sAt sp j).s) (tm gs (sAt sp j).g)) (tk++[j]);have hj:=hS j (by rw[hm];simp);rw[k4 x0 ⋯,k4 y0 ⋯] at hxy
   by_cases e1:tm gs x=tm gs (sAt sp j).g
   ·have f1:=h x _ x0 x1 b0 b1 e1
    rw[rV e1] at hxy
    by_cases e2:tm gs y=tm gs (sAt sp j).g
    ·exact f1.trans (h y _ y0 y1 b0 b1 e2).symm
    ·rw[rT e2] at hxy
     exact f1.trans (hj.symm.trans (h _ y a0 a1 y0 y1 hxy))
   ·rw[rT e1] at hxy
    by_cases e2:tm gs y=tm gs (sAt sp j).g
    ·rw[rV e2] at hxy
     exact(h x _ x0 x1 a0 a1 hxy).trans (hj.trans (h y _ y0 y1 b0 b1 e2).symm)
    ·rw[rT e2] at hxy
     exact h x y x0 x1 y0 y1 hxy
theorem held_span (E:Ends m sp)(O:rO sp π)(pm:l.Perm (j7 sp m π).2){k:Nat}(hk:k<sp.length):rR sp l (sAt sp k).g (sAt sp k).s:=by
 intro S hS hg;have hp:∀i∈π,i<sp.length:=λi hi=>O.lt hi
 obtain⟨a0,a1,b0,b1⟩:=E _ (eD hk);apply(held_of E S π (ko m) [] (j6 m) hp (λi hi=>hS i (pm.mem_iff.mpr hi)) (λx y x0 x1 y0 y1 h=>?_) _ _ a0 a1 b0 b1 (kQ E π (ko m) [] (j6 m) hp k (O.1.mem_iff.mpr (bF.mpr hk)))).mpr hg;rw[nW x0 x1,nW y0 y1] at h;rw[h]
theorem WayR.pth {en:Int}(E:Ends m sp)(m16:m≤16)(ht:∀i∈tk,i<sp.length)(b0:0≤be)(b1:be<m)(hh:rR sp tk be en){p:List Stp}(h:WayR sp tk be en p):Pth sp tk be en p:=by
 obtain⟨k,h1,h2⟩:=h;have key:∀j,j≤k→WI m sp tk be (itW sp tk be j)∧Clo sp tk (λ_=>False) (itW sp tk be j):=by
  intro j
  induction j with
  | zero=>intro _;exact start_ok b0 b1
  | succ j ih =>
   intro hj;obtain⟨I,C⟩:=ih ⋯;obtain⟨a,b,_⟩:=turn_ok E m16 ht I C (left_of ht hh I C (h2 j ⋯));exact⟨a,b⟩
 exact((key k (aC _)).1.pth en p h1).1
theorem Pth.len {en:Int}{p:List Stp}(E:Ends m sp)(b0:0≤be)(b1:be<m)(h:Pth sp tk be en p):p.length+1≤m:=by
 have:=mz h.met (k:=ko m) λx hx=>by
  have key:∀x:Int,0≤x→x<m→x∈ko m:=λx x0 x1=>by
   unfold ko;exact aL.mpr ⟨x.toNat,bF.mpr ⋯,fm x0⟩
  rcases aE.mp hx with rfl | hx
  ·exact key _ b0 b1
  ·obtain⟨s,hs,rfl⟩:=aL.mp hx
   have t:=l4 E (h.inn s hs).2.1;exact key _ t.1 t.2
 rw[bf,aa,j6] at this;exact this
def kG (pr:Int)(ps:List Int)(s:Stp):List Int:=ps.set s.i (ps.getD s.i 0 - pr * s.d)
def rowP (ps:List Int)(r:Int×List Stp):List Int:=r.2.foldl (kG r.1) ps
def ownM (sp:List Sn)(rows:List (Int×List Stp)):List Int:=rows.foldl rowP (sp.map Sn.w)
theorem lL {pr:Int}:∀(ws:List Stp) (ps:List Int),(ws.foldl (kG pr) ps).length=ps.length
 | [],_=>rfl
 | s::ws,ps=>by
  rw[bJ,lL ws];unfold kG;rw[iu]
theorem rows_len:∀(rows:List (Int×List Stp)) (ps:List Int),(rows.foldl rowP ps).length=ps.length
 | [],_=>rfl
 | r::rows,ps=>by
  rw[bJ,rows_len rows];exact lL r.2 ps
theorem own_len (sp:List Sn)(rows:List (Int×List Stp)):(ownM sp rows).length=sp.length:=by
 unfold ownM;rw[rows_len,aa]
def hasS (k:Nat)(d:Int)(ws:List Stp):Bool:=ws.any λs=>decide (s.i=k) && decide (s.d=d)
def ownV (k:Nat)(acc pr:Int)(ws:List Stp):Int:=if hasS k (-1) ws=true then (if hasS k 1 ws=true then acc - pr else acc)+pr else (if hasS k 1 ws=true then acc - pr else acc)
def ownS (k:Nat)(acc:Int)(r:Int×List Stp):Int:=ownV k acc r.1 r.2
theorem hasS_no {k:Nat}{d:Int}:∀{ws:List Stp},k ∉ ws.map Stp.i→hasS k d ws=false
 | [],_=>rfl
 | s::ws,h=>by
  show(decide (s.i=k) && decide (s.d=d) || hasS k d ws)=false;rw[hasS_no (ws:=ws) λz=>h (by rw[bX];exact aw _ z),rY (λz=>h (by rw[bX,z];simp))];rfl
theorem steps_at {k:Nat}{pr:Int}:∀(ws:List Stp) (ps:List Int),k<ps.length→(∀s∈ws,s.d=1∨s.d= -1)→(ws.map Stp.i).Nodup→(ws.foldl (kG pr) ps).getD k 0=ownV k (ps.getD k 0) pr ws
 | [],_,_,_,_=>rfl
 | s::ws,ps,hk,hd,hn=>by
  rw[bX,bP] at hn;rw[bJ,steps_at ws _ (by unfold kG;rw[iu];exact hk) (λt ht=>hd t (aw _ ht)) hn.2]
  by_cases e:s.i=k
  ·have h0:∀d,hasS k d ws=false:=λd=>hasS_no (by rw[←e];exact hn.1)
   have h1:∀d,hasS k d (s::ws)=decide (s.d=d):=λd=>by
    show(decide (s.i=k) && decide (s.d=d) || hasS k d ws)=_;rw[h0,rX e];simp
   have h2:(kG pr ps s).getD k 0=ps.getD k 0 - pr * s.d:=by
    unfold kG;rw[e,ag,d8 hk];rfl
   unfold ownV;rw[h0,h0,h1,h1,h2]
   rcases hd s ∅ with d1 | d1
   ·rw[d1];simp
   ·rw[d1];simp
  ·have h1:∀d,hasS k d (s::ws)=hasS k d ws:=λd=>by
    show(decide (s.i=k) && decide (s.d=d) || hasS k d ws)=_;rw[rY e];simp
   have h2:(kG pr ps s).getD k 0=ps.getD k 0:=by
    unfold kG;rw[ag,dY e,←ag]
   unfold ownV;rw[h1,h1,h2]
structure RwOk (n:Nat)(r:Int×List Stp):Prop where
 inn:qU n r.2
 one:(r.2.map Stp.i).Nodup
 few:r.2.length≤17
 lo: -1000000000000≤r.1
 hi:r.1≤1000000000000
theorem qf {k n:Nat}:∀(rows:List (Int×List Stp)) (ps:List Int),k<ps.length→(∀r∈rows,RwOk n r)→(rows.foldl rowP ps).getD k 0=rows.foldl (ownS k) (ps.getD k 0)
 | [],_,_,_=>rfl
 | r::rows,ps,hk,h=>by
  have hr:=h r ∅;rw[bJ,bJ,qf rows _ (by show k<(r.2.foldl (kG r.1) ps).length;rw[lL];exact hk) λt ht=>h t (aw _ ht)];congr 1;exact steps_at r.2 ps hk (λs hs=>(hr.inn s hs).2) hr.one
theorem ownS_abs {k n:Nat}:∀(rows:List (Int×List Stp)) (a:Int) (m:Nat),a.natAbs≤m→(∀r∈rows,RwOk n r)→(rows.foldl (ownS k) a).natAbs≤m+rows.length * 2000000000000
 | [],_,_,ha,_=>by simpa using ha
 | r::rows,a,m,ha,h=>by
  have hr:=h r ∅;have h1:=hr.lo;have h2:=hr.hi;rw[bJ];have step:(ownS k a r).natAbs≤m+2000000000000:=by
   show(ownV k a r.1 r.2).natAbs≤_;unfold ownV;split <;> split <;> lia
  have:=ownS_abs (k:=k) (n:=n) rows (ownS k a r) (m+2000000000000) step λt ht=>h t (aw _ ht)
  rw[bf];lia
def wOf (sp:List Sn)(k:Nat):Int:=match sp[k]? with | some x=>x.w | none=>0
def lOf (sp:List Sn)(k:Nat):Int:=match sp[k]? with | some x=>x.l | none=>0
def owK (sp:List Sn)(rows:List (Int×List Stp))(k:Nat):Int:=rows.foldl (ownS k) (wOf sp k)
theorem own_at {k:Nat}(hk:k<sp.length)(h:∀r∈rows,RwOk n r):(ownM sp rows).getD k 0=owK sp rows k:=by
 unfold ownM owK;rw[qf rows _ (by rw[aa];exact hk) h];congr 1;unfold wOf;rw[ag,ar,gE hk];rfl
theorem owK_abs {k:Nat}(hw:∀x∈sp,0≤x.w∧x.w≤1000000000000)(h:∀r∈rows,RwOk n r)(hl:rows.length≤41): -18446744073709551616<owK sp rows k∧owK sp rows k<18446744073709551616:=by
 have:=ownS_abs (k:=k) rows (wOf sp k) 1000000000000 (by
  unfold wOf;cases q:sp[k]? with
  | none=>exact bK _
  | some x =>
   have:=hw x (bp q);show x.w.natAbs≤_;lia) h
 unfold owK;lia
def termW (sp:List Sn)(bs:List (Int×Int))(rows:List (Int×List Stp))(k:Nat):Int:=owK sp rows k * (if owK sp rows k<0 then (bs.getD k (0,0)).2 else (bs.getD k (0,0)).1) - wOf sp k * lOf sp k
def oO (b:Int)(bs:List (Int×Int))(rows:List (Int×List Stp)):Int:=(rows.map λr=>r.1 * upB b (fR bs r.2) * b).sum
def lJ (b:Int)(sp:List Sn)(bs:List (Int×Int))(rows:List (Int×List Stp)):Int:=oO b bs rows+((aJ sp.length).map (termW sp bs rows)).sum
theorem div_absW {x:Int}(hb:0<b):(x / b).natAbs≤x.natAbs:=by
 have e:=fJ x b;have r0:=dJ x (by lia:b≠0);have r1:=dv x hb;generalize x / b=q at e;generalize x % b=r at e r0 r1
 rcases Int.lt_or_le q 0 with hq | hq
 ·have:b * (q+1)≤1 * (q+1):=Int.mul_le_mul_of_nonpos_right ⋯ ⋯
  rw[jB] at this;lia
 ·have:1 * q≤b * q:=kd ⋯ hq
  lia
theorem qZ {bs:List (Int×Int)}:∀{ws:List Stp},BsU bs→(fR bs ws).natAbs≤ws.length * 10 ^ 60
 | [],_=>bK _
 | s::ws,h=>by
  have ih:=qZ (ws:=ws) h;have k:(rB bs s).natAbs≤10 ^ 60:=by
   unfold rB;cases q:bs[s.i]? with
   | none=>exact bK _
   | some p =>
    obtain⟨a,b,c⟩:=h p (bp q);have c:p.2<10 ^ 60:=c;show(if s.d=1 then p.1 else -p.2).natAbs≤_;split <;> lia
  have e:fR bs (s::ws)=rB bs s+fR bs ws:=rfl;rw[e,bf,Nat.add_mul];lia
theorem up_abs {bs:List (Int×Int)}{ws:List Stp}(hb:0<b)(h:BsU bs)(hl:ws.length≤17):(upB b (fR bs ws)).natAbs≤17 * 10 ^ 60:=by
 unfold upB;rw[Int.natAbs_neg];have h1:=div_absW (x:= -fR bs ws) hb;rw[Int.natAbs_neg] at h1;have h2:=qZ (ws:=ws) h;have h3:ws.length * 10 ^ 60≤17 * 10 ^ 60:=Nat.mul_le_mul_right _ hl;lia
inductive spOwn (vs:List V)(H:Hp)(Q:VK)(_:XK):Prop
 | mk (v:V)(pr:ak)(b m:Int)(sp:List Sn)(rows:List (Int×List Stp))(_:vs=[v,.ref pr])(_:IsD H v (jA b m sp))(_:sp.length≤40)(_:IsD H (.ref pr) (.tup (rows.map rowD)))(_:(∀r∈rows,RwOk sp.length r))(_:∀L H',bC H H'→H' L=some (.lst ((ownM sp rows).map V.int))→Q (.ref L) H')
structure WoArgs (H:Hp)(v vb vl:V)(b m:Int)(sp:List Sn)(bs:List (Int×Int))(rows:List (Int×List Stp)):Prop where
 net:IsD H v (jA b m sp)
 bnd:IsD H vb (bndP bs)
 leaf:IsD H vl (leafP (.price rows))
 b0:0<b
 b61:b<10 ^ 61
 lb:bs.length=sp.length
 few:sp.length≤40
 bu:BsU bs
 ws:∀x∈sp,0≤x.w∧x.w≤1000000000000
 rw':∀r∈rows,RwOk sp.length r
 lr:rows.length≤41
inductive spWorth (vs:List V)(H:Hp)(Q:VK)(_:XK):Prop
 | mk (v vb vl:V)(b m:Int)(sp:List Sn)(bs:List (Int×Int))(rows:List (Int×List Stp))(_:vs=[v,vb,vl])(_:WoArgs H v vb vl b m sp bs rows)(_:∀H',bC H H'→Q (.int (lJ b sp bs rows)) H')
end HN
namespace L2
open PySem PySem.Spec PyProof.Rows
end L2
namespace HN
open PySem L2 PyProof.Rows
def my (f:Nat→Int):Nat→Int
 | 0=>0
 | n+1=>my f n+f n
theorem l7 (f:Nat→Int):∀n,((aJ n).map f).sum=my f n
 | 0=>rfl
 | n+1=>by
  rw[List.range_succ,ax,ir,l7 f n];show my f n+(f n+0)=my f n+f n;lia
theorem oX (f g:Nat→Int):∀n,my (λk=>f k+g k) n=my f n+my g n
 | 0=>rfl
 | n+1=>by
  show my (λk=>f k+g k) n+(f n+g n)=(my f n+f n)+(my g n+g n);rw[oX f g n];lia
theorem oW (c:Int)(f:Nat→Int):∀n,my (λk=>c * f k) n=c * my f n
 | 0=>(iq c).symm
 | n+1=>by
  show my (λk=>c * f k) n+c * f n=c * (my f n+f n);rw[oW c f n,jB]
theorem kl {f g:Nat→Int}:∀n,(∀k,k<n→f k=g k)→my f n=my g n
 | 0,_=>rfl
 | n+1,h=>by
  show my f n+f n=my g n+g n;rw[kl n λk hk=>h k ⋯,h n ⋯]
theorem sumN_none {i:Nat}{c:Int}{y:Nat→Int}:∀n,n≤i→my (λk=>(if i=k then c else 0) * y k) n=0
 | 0,_=>rfl
 | n+1,h=>by
  show my (λk=>(if i=k then c else 0) * y k) n+(if i=n then c else 0) * y n=0;rw[sumN_none n ⋯,rT ⋯,fk];rfl
theorem sumN_one {i:Nat}{c:Int}{y:Nat→Int}:∀n,i<n→my (λk=>(if i=k then c else 0) * y k) n=c * y i
 | 0,h=>rW h ⋯
 | n+1,h=>by
  show my (λk=>(if i=k then c else 0) * y k) n+(if i=n then c else 0) * y n=c * y i
  by_cases e:i=n
  ·subst e
   rw[sumN_none i (aC _),rV rfl,il]
  ·rw[sumN_one n ⋯,rT e,fk,Int.add_zero]
theorem sumN_list {α:Type}(f:α→Int)(xs:List α):∀n,n≤xs.length→((xs.take n).map f).sum=my (λk=>match xs[k]? with | some x=>f x | none=>0) n
 | 0,_=>rfl
 | n+1,h=>by
  rw[aY,gE ⋯,ax,ir,sumN_list f xs n ⋯];show _+(f xs[n]+0)=my _ n+(match xs[n]? with | some x=>f x | none=>0);rw[gE ⋯];show _+(f xs[n]+0)=_+f xs[n];lia
def sg (k:Nat):List Stp→Int
 | []=>0
 | s::ws=>(if s.i=k then s.d else 0)+sg k ws
def alg (y:Nat→Int):List Stp→Int
 | []=>0
 | s::ws=>s.d * y s.i+alg y ws
theorem fold_sg {k:Nat}{pr:Int}:∀(ws:List Stp) (ps:List Int),k<ps.length→(ws.foldl (kG pr) ps).getD k 0=ps.getD k 0 - pr * sg k ws
 | [],ps,_=>by show ps.getD k 0=ps.getD k 0 - pr * 0;rw[iq,Int.sub_zero]
 | s::ws,ps,hk=>by
  rw[bJ,fold_sg ws _ (by unfold kG;rw[iu];exact hk)];show _=ps.getD k 0 - pr * ((if s.i=k then s.d else 0)+sg k ws);rw[jB]
  by_cases e:s.i=k
  ·have h2:(kG pr ps s).getD k 0=ps.getD k 0 - pr * s.d:=by
    unfold kG;rw[e,ag,d8 hk];rfl
   rw[h2,rV e];lia
  ·have h2:(kG pr ps s).getD k 0=ps.getD k 0:=by
    unfold kG;rw[ag,dY e,←ag]
   rw[h2,rT e,iq];lia
def sgR (k:Nat):List (Int×List Stp)→Int
 | []=>0
 | r::rows=>r.1 * sg k r.2+sgR k rows
theorem rows_sg {k:Nat}:∀(rows:List (Int×List Stp)) (ps:List Int),k<ps.length→(rows.foldl rowP ps).getD k 0=ps.getD k 0 - sgR k rows
 | [],ps,_=>by show ps.getD k 0=ps.getD k 0 - 0;rw[Int.sub_zero]
 | r::rows,ps,hk=>by
  rw[bJ,rows_sg rows _ (by show k<(r.2.foldl (kG r.1) ps).length;rw[lL];exact hk)];show(r.2.foldl (kG r.1) ps).getD k 0 - sgR k rows=ps.getD k 0 - (r.1 * sg k r.2+sgR k rows);rw[fold_sg r.2 ps hk];lia
theorem owK_sg {k:Nat}(hk:k<sp.length)(h:∀r∈rows,RwOk n r):owK sp rows k=wOf sp k - sgR k rows:=by
 rw[←own_at hk h];unfold ownM;rw[rows_sg rows _ (by rw[aa];exact hk)];congr 1;unfold wOf;rw[ag,ar,gE hk];rfl
theorem sum_sg {y:Nat→Int}{n:Nat}:∀(ws:List Stp),(∀s∈ws,s.i<n)→my (λk=>sg k ws * y k) n=alg y ws
 | [],_=>by
  show my (λk=>0 * y k) n=0;rw[kl (g:=λ_=>0 * 0) n λk _=>by rw[fk,fk],oW 0 (λ_=>0) n,fk]
 | s::ws,h=>by
  show my (λk=>((if s.i=k then s.d else 0)+sg k ws) * y k) n=s.d * y s.i+alg y ws;rw[kl (g:=λk=>(if s.i=k then s.d else 0) * y k+sg k ws * y k) n λk _=>Int.add_mul ..,oX,sumN_one n (h s ∅),sum_sg ws λt ht=>h t (aw _ ht)]
def algR (y:Nat→Int):List (Int×List Stp)→Int
 | []=>0
 | r::rows=>r.1 * alg y r.2+algR y rows
theorem sum_sgR {y:Nat→Int}{n:Nat}:∀(rows:List (Int×List Stp)),(∀r∈rows,∀s∈r.2,s.i<n)→my (λk=>sgR k rows * y k) n=algR y rows
 | [],_=>by
  show my (λk=>0 * y k) n=0;rw[kl (g:=λ_=>0 * 0) n λk _=>by rw[fk,fk],oW 0 (λ_=>0) n,fk]
 | r::rows,h=>by
  show my (λk=>(r.1 * sg k r.2+sgR k rows) * y k) n=r.1 * alg y r.2+algR y rows;rw[kl (g:=λk=>r.1 * (sg k r.2 * y k)+sgR k rows * y k) n λk _=>by rw[Int.add_mul,jv],oX,oW,sum_sg r.2 (h r ∅),sum_sgR rows λt ht=>h t (aw _ ht)]
def jb (b:Int)(ts:List Int)(sp:List Sn)(k:Nat):Int:=match sp[k]? with | some x=>x.l+cR b ts x | none=>0
def InB (y:Nat→Int)(bs:List (Int×Int)):Prop:=∀k,k<bs.length→(bs.getD k (0,0)).1≤y k∧y k≤(bs.getD k (0,0)).2
theorem lay_in (hb:0<b)(hf:fF b ts sp=true):InB (jb b ts sp) (sp.map λx=>(x.l,x.o)):=λk hk=>by
 rw[aa] at hk;have e:(sp.map λx=>(x.l,x.o)).getD k (0,0)=(sp[k].l,sp[k].o):=by
  rw[ag,ar,gE hk];rfl
 have e2:jb b ts sp k=sp[k].l+cR b ts sp[k]:=by
  unfold jb;rw[gE hk]
 rw[e,e2];have h0:0≤cR b ts sp[k]:=by unfold cR;exact dJ _ ⋯
 have h1:¬(sp[k].o - sp[k].l<cR b ts sp[k]):=by
  unfold fF at hf;rw[gM,iL] at hf;have:=hf sp[k] (bH hk);unfold brk at this
  simpa using this
 exact⟨by show sp[k].l≤_;lia,by show _≤sp[k].o;lia⟩
theorem inB_one {y:Nat→Int}{bs:List (Int×Int)}{k:Nat}{a:Int}(h:InB y bs)(ha:y k≤a):InB y (lR bs k a):=λj hj=>by
 rw[one_len] at hj;have hh:=h j hj;unfold lR;rw[ag]
 by_cases e:k=j
 ·subst e
  rw[d8 hj];exact⟨hh.1,ha⟩
 ·rw[dY e,←ag]
  exact hh
theorem inB_other {y:Nat→Int}{bs:List (Int×Int)}{k:Nat}{a:Int}(h:InB y bs)(ha:a+1≤y k):InB y (fI bs k a):=λj hj=>by
 rw[other_len] at hj;have hh:=h j hj;unfold fI;rw[ag]
 by_cases e:k=j
 ·subst e
  rw[d8 hj];exact⟨ha,hh.2⟩
 ·rw[dY e,←ag]
  exact hh
theorem alg_way {b:Int}{ts:List Int}{sp:List Sn}:∀(ws:List Stp) (x z:Int),qU sp.length ws→qP sp x ws z→∃Z,alg (jb b ts sp) ws=tm ts z - tm ts x+b * Z
 | [],x,z,_,h=>by
  have h:x=z:=h;subst h;exact⟨0,by show(0:Int)=_;rw[iq];lia⟩
 | s::ws,x,z,hw,h=>by
  obtain⟨h1,h2⟩:=h;obtain⟨Z,hZ⟩:=alg_way (b:=b) (ts:=ts) ws _ z (λt ht=>hw t (aw _ ht)) h2;obtain⟨hs,hd⟩:=hw s ∅;obtain⟨i,d⟩:=s;have hs:i<sp.length:=hs;have hd:d=1∨d= -1:=hd;have e2:jb b ts sp i=sp[i].l+cR b ts sp[i]:=by
   unfold jb;rw[gE hs]
  have hm:=fJ (tm ts sp[i].g - tm ts sp[i].s - sp[i].l) b;show ∃Z,d * jb b ts sp i+alg (jb b ts sp) ws=_;rw[hZ,e2];unfold cR;rw[k3 hs] at *;rw[mO hs] at h1;unfold frm at h1;unfold too at *;generalize (tm ts sp[i].g - tm ts sp[i].s - sp[i].l) / b=q at hm;generalize (tm ts sp[i].g - tm ts sp[i].s - sp[i].l) % b=r at hm ⊢
  rcases hd with rfl | rfl
  ·rw[rV rfl] at h1 ⊢
   subst h1;exact⟨Z - q,by rw[Int.mul_sub];lia⟩
  ·rw[rT ↥0] at h1 ⊢
   subst h1;exact⟨Z+q,by rw[jB b Z q];lia⟩
theorem alg_lo {y:Nat→Int}{bs:List (Int×Int)}(h:InB y bs):∀(ws:List Stp),qU bs.length ws→fR bs ws≤alg y ws∧alg y ws≤iX bs ws
 | [],_=>⟨gk _,gk _⟩
 | s::ws,hw=>by
  obtain⟨i1,i2⟩:=alg_lo h ws λt ht=>hw t (aw _ ht)
  obtain⟨hs,hd⟩:=hw s ∅;obtain⟨b1,b2⟩:=h s.i hs;have e:bs.getD s.i (0,0)=bs[s.i]:=by rw[ag,gE hs];rfl
  rw[e] at b1 b2;have e1:fR bs (s::ws)=rB bs s+fR bs ws:=rfl;have e2:iX bs (s::ws)=lY bs s+iX bs ws:=rfl;have f1:rB bs s=if s.d=1 then bs[s.i].1 else -bs[s.i].2:=by unfold rB;rw[gE hs]
  have f2:lY bs s=if s.d=1 then bs[s.i].2 else -bs[s.i].1:=by unfold lY;rw[gE hs]
  rw[e1,e2,f1,f2];show _≤s.d * y s.i+alg y ws∧s.d * y s.i+alg y ws≤_
  rcases hd with d1 | d1
  ·rw[d1,rV rfl,rV rfl];lia
  ·rw[d1,rT ↥0,rT ↥0];lia
theorem ring_in {bs:List (Int×Int)}{ws:List Stp}(hb:0<b)(hl:bs.length=sp.length)(h:InB (jb b ts sp) bs)(hr:Rg sp ws) :
  ∃Z,alg (jb b ts sp) ws=b * Z∧upB b (fR bs ws)≤Z∧Z≤iX bs ws / b:=by
 obtain⟨x,hx⟩:=hr.rnd;obtain⟨Z,hZ⟩:=alg_way (b:=b) (ts:=ts) ws x x hr.inn hx;obtain⟨l1,l2⟩:=alg_lo h ws (by rw[hl];exact hr.inn);have e:alg (jb b ts sp) ws=b * Z:=by lia
 rw[e] at l1 l2;apply⟨Z,e,?_,?_⟩
 ·unfold upB
  have: -Z≤ -fR bs ws / b:=by
   rw[Int.le_ediv_iff_mul_le hb,Int.neg_mul,jg Z b];lia
  lia
 ·rw[Int.le_ediv_iff_mul_le hb,jg Z b];exact l2
theorem wait_sum:bU b ts sp=my (λk=>wOf sp k * jb b ts sp k - wOf sp k * lOf sp k) sp.length:=by
 unfold bU;have:=sumN_list (λx:Sn=>x.w * cR b ts x) sp sp.length (aC _);rw[aX] at this;rw[this];apply kl _ λk hk=>?_
 unfold wOf jb lOf;rw[gE hk];show sp[k].w * cR b ts sp[k]=sp[k].w * (sp[k].l+cR b ts sp[k]) - sp[k].w * sp[k].l;rw[jB];lia
theorem rows_in {b:Int}{ts:List Int}{sp:List Sn}{bs:List (Int×Int)}(hb:0<b)(hl:bs.length=sp.length)(h:InB (jb b ts sp) bs):∀(rows:List (Int×List Stp)),(∀r∈rows,RowOk b sp bs r)→algR (jb b ts sp) rows=oO b bs rows
 | [],_=>rfl
 | r::rows,hr=>by
  obtain⟨h1,h2,_⟩:=hr r ∅;obtain⟨Z,e,z1,z2⟩:=ring_in hb hl h h1;have h2:=rZ h2;have ez:Z=upB b (fR bs r.2):=by lia
  have ih:=rows_in hb hl h rows λt ht=>hr t (aw _ ht)
  have e3:oO b bs (r::rows)=r.1 * upB b (fR bs r.2) * b+oO b bs rows:=rfl;show r.1 * alg (jb b ts sp) r.2+algR (jb b ts sp) rows=_;rw[e3,ih,e,ez,jg b,jv]
def longer (b:Nat)(tt:List (List Int)):List (List Int):=tt.flatMap λt=>(aJ b).map λc:Nat=>t++[(0:Int)+(c:Nat)]
def allT (b:Nat):Nat→List (List Int)
 | 0=>[[]]
 | n+1=>longer b (allT b n)
theorem rR.more {tk':List Nat}{x y:Int}(h:∀i∈tk,i∈tk')(k:rR sp tk x y):rR sp tk' x y:=λS hS=>k S λi hi=>hS i (h i hi)
theorem rR.trans {x y:Int}(a:rR sp tk x y)(c:rR sp tk y z):rR sp tk x z:=λS hS h=>c S hS (a S hS h)
theorem rR.symm {x y:Int}(a:rR sp tk x y):rR sp tk y x:=λS hS h=>fe λn=>a (λz=>¬S z) (λi hi=>not_congr (hS i hi)) n h
inductive Acy (sp:List Sn):List Nat→Prop where
 | nil:Acy sp []
 | snoc {tk:List Nat} {k:Nat} (h:Acy sp tk) (hk:k<sp.length) (s:∃S:Int→Prop,(∀i∈tk,S (sAt sp i).s↔S (sAt sp i).g)∧S (sAt sp k).s∧¬S (sAt sp k).g):Acy sp (tk++[k])
theorem Acy.pot (h:Acy sp tk)(y:Nat→Int):∃π:Int→Int,∀i∈tk,π (sAt sp i).g - π (sAt sp i).s=y i:=by
 induction h with
 | nil=>exact⟨λ_=>0,λ_ h=>rW h ∅⟩
 | snoc h hk s ih =>
  rename_i tk k;obtain⟨π,hπ⟩:=ih;obtain⟨S,hS,s1,s2⟩:=s;have dec:∀x,Decidable (S x):=λx=>Classical.propDecidable _
  apply⟨λx=>if S x then π x else π x+(y k - (π (sAt sp k).g - π (sAt sp k).s)),λi hi=>?_⟩
  rcases aQ.mp hi with hi | hi
  ·have e:=hπ i hi
   have f:=hS i hi;show(if S (sAt sp i).g then _ else _) - (if S (sAt sp i).s then _ else _)=_
   by_cases c:S (sAt sp i).s
   ·rw[rV c,rV (f.mp c)];exact e
   ·rw[rT c,rT (λz=>c (f.mpr z))];lia
  ·rw[ay.mp hi]
   show(if S (sAt sp k).g then _ else _) - (if S (sAt sp k).s then _ else _)=_;rw[rT s2,rV s1];lia
theorem Acy.nodup (h:Acy sp tk):tk.Nodup∧∀i∈tk,i<sp.length:=by
 induction h with
 | nil=>exact⟨List.nodup_nil,λ_ h=>rW h ∅⟩
 | snoc h hk s ih =>
  rename_i tk k;obtain⟨S,hS,s1,s2⟩:=s;apply⟨jL.mpr ⟨ih.1,∅,λa ha c hc e=>?_⟩,λi hi=>?_⟩
  ·rw[ay.mp hc] at e
   subst e;exact s2 ((hS _ ha).mp s1)
  ·rcases aQ.mp hi with hi | hi
   ·exact ih.2 i hi
   ·rw[ay.mp hi];exact hk
structure Pots (sp:List Sn)(tk:List Nat):Prop where
 nodup:tk.Nodup∧∀i∈tk,i<sp.length
 pot:∀y:Nat→Int,∃π:Int→Int,∀i∈tk,π (sAt sp i).g - π (sAt sp i).s=y i
theorem Acy.pots (h:Acy sp tk):Pots sp tk:=⟨h.nodup,h.pot⟩
theorem Pots.perm (h:Pots sp tk)(p:l.Perm tk):Pots sp l :=
 ⟨⟨p.nodup_iff.mpr h.nodup.1,λi hi=>h.nodup.2 i (p.mem_iff.mp hi)⟩,λy=>let ⟨π,k⟩:=h.pot y;⟨π,λi hi=>k i (p.mem_iff.mp hi)⟩⟩
structure Gd (m:Nat)(sp:List Sn)(gs:List Int)(tk:List Nat):Prop where
 len:gs.length=m
 eq:∀i∈tk,tm gs (sAt sp i).s=tm gs (sAt sp i).g
 held:∀x y:Int,0≤x→x<m→0≤y→y<m→tm gs x=tm gs y→rR sp tk x y
 acy:Acy sp tk
 cnt:Cnt m gs tk.length
theorem Gd.start (m:Nat)(sp:List Sn):Gd m sp (ko m) []:=by
 apply⟨j6 m,λ_ h=>rW h ∅,λx y x0 x1 y0 y1 e=>?_,.nil,Cnt.start m⟩;rw[nW x0 x1,nW y0 y1] at e;subst e;exact λS _ h=>h
theorem Gd.step (E:Ends m sp)(g:Gd m sp gs tk)(hi:i<sp.length):Gd m sp (gc sp (gs,tk) i).1 (gc sp (gs,tk) i).2:=by
 obtain⟨s0,s1,g0,g1⟩:=E _ (eD hi);unfold gc
 by_cases e:tm gs (sAt sp i).s=tm gs (sAt sp i).g
 ·rw[rV e];exact g
 ·rw[rT e]
  have l:=g.len;have old:∀j∈tk,j<sp.length:=g.acy.nodup.2;have jt:∀x:Int,0≤x→x<m→tm (gH gs (tm gs (sAt sp i).s) (tm gs (sAt sp i).g)) x=if tm gs x=tm gs (sAt sp i).g then tm gs (sAt sp i).s else tm gs x:=λx x0 x1=>k4 x0 ⋯
  have up:∀{x y:Int},rR sp tk x y→rR sp (tk++[i]) x y:=λh=>h.more λj hj=>aM _ hj
  have ed:rR sp (tk++[i]) (sAt sp i).s (sAt sp i).g:=λS hS h=>(hS i (az _ (ay.mpr rfl))).mp h
  apply⟨by show(gH _ _ _).length=m;rw[lV];exact l,λj hj=>?_,λx y x0 x1 y0 y1 h=>?_,.snoc g.acy hi ⟨λx=>tm gs x=tm gs (sAt sp i).s,λj hj=>by show tm gs _=_↔tm gs _=_;rw[g.eq j hj],rfl,λz=>e z.symm⟩,?_⟩
  ·show tm (gH _ _ _) _=tm (gH _ _ _) _
   rcases aQ.mp hj with hj | hj
   ·obtain⟨a0,a1,b0,b1⟩:=E _ (eD (old j hj))
    rw[jt _ a0 a1,jt _ b0 b1,g.eq j hj]
   ·rw[ay.mp hj,jt _ s0 s1,jt _ g0 g1,rV rfl,rT e]
  ·have h:tm (gH _ _ _) x=tm (gH _ _ _) y:=h
   rw[jt x x0 x1,jt y y0 y1] at h;show rR sp (tk++[i]) x y
   by_cases c1:tm gs x=tm gs (sAt sp i).g
   ·by_cases c2:tm gs y=tm gs (sAt sp i).g
    ·exact up (g.held x y x0 x1 y0 y1 (c1.trans c2.symm))
    ·rw[rV c1,rT c2] at h
     exact(up (g.held x _ x0 x1 g0 g1 c1)).trans (ed.symm.trans (up (g.held _ y s0 s1 y0 y1 h)))
   ·by_cases c2:tm gs y=tm gs (sAt sp i).g
    ·rw[rT c1,rV c2] at h
     exact(up (g.held x _ x0 x1 s0 s1 h)).trans (ed.trans (up (g.held _ y g0 g1 y0 y1 c2.symm)))
    ·rw[rT c1,rT c2] at h
     exact up (g.held x y x0 x1 y0 y1 h)
  ·show Cnt m (gH _ _ _) (tk++[i]).length
   rw[av];exact g.cnt.join (tm_mem s0 ⋯) (tm_mem g0 ⋯) e
theorem Gd.fold {m:Nat}{sp:List Sn}(E:Ends m sp):∀(π:List Nat) (gs:List Int) (tk:List Nat),(∀i∈π,i<sp.length)→Gd m sp gs tk→Gd m sp (π.foldl (gc sp) (gs,tk)).1 (π.foldl (gc sp) (gs,tk)).2
 | [],_,_,_,g=>g
 | i::π,gs,tk,h,g=>by
  rw[bJ];exact Gd.fold E π _ _ (λj hj=>h j (aw _ hj)) (g.step E (h i ∅))
theorem Gd.few (g:Gd m sp gs tk)(h:0<m):tk.length<m:=by
 obtain⟨D,_,mem,l⟩:=g.cnt;have:D≠[]:=λz=>by
  have h0:tm gs 0∈gs:=tm_mem (gk 0) (by rw[g.len];lia);have:=(mem _).mpr h0;rw[z] at this;cases this
 have:=List.length_pos_iff.mpr this;lia
structure RK (sp:List Sn)(tk:List Nat)(q:Nat×List Stp):Prop where
 lt:q.1<sp.length
 out:q.1 ∉ tk
 way:∃p,q.2=⟨q.1,1⟩::p∧Pth sp tk (sAt sp q.1).g (sAt sp q.1).s p
theorem RK.rg {m:Int}{q:Nat×List Stp}(N:ia b m sp)(h:RK sp tk q)(hl:tk.length≤15):Rg sp q.2:=by
 obtain⟨p,e,P⟩:=h.way;have hk:=h.lt;have eA:sAt sp q.1=sp[q.1]:=by unfold sAt;rw[ag,gE hk];rfl
 rw[e];apply Bk.ring hk (N.all _ (bH hk)).ne ⟨λs hs=>(P.inn s hs).2,by rw[←eA];exact P.alo,P.one,λs hs z=>?_⟩ ?_
 ·have z:s.i=q.1:=by lia
  exact h.out (z ▸ (P.inn s hs).1)
 ·have hn:((p.map Stp.i).map λn:Nat=>(n:Int)).Nodup:=by
   rw[cb,dQ];exact(cb.mp P.one).imp λhh e=>hh ⋯
  have:=mz (l:=(p.map Stp.i).map λn:Nat=>(n:Int)) (k:=tk.map λn:Nat=>(n:Int)) hn λx hx=>by
   obtain⟨i,hi,rfl⟩:=aL.mp hx;obtain⟨s,hs,rfl⟩:=aL.mp hi;exact aL.mpr ⟨_,(P.inn s hs).1,rfl⟩
  rw[aa,aa,aa] at this;lia
structure OB (sp:List Sn)(tk:List Nat)(bs:List (Int×Int)):Prop where
 len:bs.length=sp.length
 out:∀k,k<sp.length→k ∉ tk→bs.getD k (0,0)=((sAt sp k).l,(sAt sp k).o)
 lo:∀k,k<sp.length→(sAt sp k).l≤(bs.getD k (0,0)).1∧(bs.getD k (0,0)).1≤(bs.getD k (0,0)).2∧(bs.getD k (0,0)).2≤(sAt sp k).o
theorem i9 {bs:List (Int×Int)}{k:Nat}{x:Int×Int}(hj:j<bs.length):(bs.set k x).getD j (0,0)=if k=j then x else bs.getD j (0,0):=by
 rw[ag]
 by_cases e:k=j
 ·subst e
  rw[d8 hj,rV rfl];rfl
 ·rw[dY e,rT e,←ag]
theorem OB.one {bs:List (Int×Int)}{k:Nat}{a:Int}(h:OB sp tk bs)(hk:k∈tk)(hn:k<sp.length)(h1:(bs.getD k (0,0)).1≤a)(h2:a<(bs.getD k (0,0)).2):OB sp tk (lR bs k a):=by
 have l:=h.len;apply⟨by rw[one_len];exact l,λj hj hjn=>?_,λj hj=>?_⟩
 ·unfold lR
  rw[i9 ⋯,rT (λ(z:k=j)=>hjn (z ▸ hk))];exact h.out j hj hjn
 ·unfold lR
  rw[i9 ⋯];have:=h.lo j hj
  by_cases e:k=j
  ·rw[rV e]
   subst e;exact⟨this.1,h1,by show a≤_;lia⟩
  ·rw[rT e];exact this
theorem OB.other {bs:List (Int×Int)}{k:Nat}{a:Int}(h:OB sp tk bs)(hk:k∈tk)(hn:k<sp.length)(h1:(bs.getD k (0,0)).1≤a)(h2:a<(bs.getD k (0,0)).2):OB sp tk (fI bs k a):=by
 have l:=h.len;apply⟨by rw[other_len];exact l,λj hj hjn=>?_,λj hj=>?_⟩
 ·unfold fI
  rw[i9 ⋯,rT (λ(z:k=j)=>hjn (z ▸ hk))];exact h.out j hj hjn
 ·unfold fI
  rw[i9 ⋯];have:=h.lo j hj
  by_cases e:k=j
  ·rw[rV e]
   subst e;exact⟨by show _≤a+1;lia,by show a+1≤(bs.getD k (0,0)).2;lia,this.2.2⟩
  ·rw[rT e];exact this
theorem OB.first {m:Int}(N:ia b m sp)(tk:List Nat):OB sp tk (sp.map λx=>(x.l,x.o)):=by
 have e:∀k,k<sp.length→(sp.map λx=>(x.l,x.o)).getD k (0,0)=((sAt sp k).l,(sAt sp k).o):=λk hk=>by
  rw[ag,ar,jy hk];rfl
 apply⟨aa ..,λk hk _=>e k hk,λk hk=>?_⟩;rw[e k hk];have:=N.all _ (eD hk);exact⟨gk _,this.lo,gk _⟩
def k9 (sp:List Sn)(rg:List (Nat×List Stp)):List (Int×List Stp):=rg.map λq=>((sAt sp q.1).w,q.2)
structure Fx (b:Int)(tk:List Nat)(rg:List (Nat×List Stp))(bs:List (Int×Int)):Prop where
 fix:∀k∈tk,(bs.getD k (0,0)).1=(bs.getD k (0,0)).2
 alive:∀q∈rg,jR b bs q.2=false
structure FF (m:Int)(sp:List Sn)(tk:List Nat)(rg:List (Nat×List Stp)):Prop where
 acy:Pots sp tk
 few:(tk.length:Int)<m
 rk:∀q∈rg,RK sp tk q
 all:∀k,k<sp.length→k ∉ tk→∃r,(k,r)∈rg
 one:(rg.map (·.1)).Nodup
theorem low_fix {bs:List (Int×Int)}{tk:List Nat}(h:∀k∈tk,k<bs.length∧(bs.getD k (0,0)).1=(bs.getD k (0,0)).2):∀(p:List Stp),(∀s∈p,s.i∈tk∧(s.d=1∨s.d= -1))→fR bs p=alg (λk=>(bs.getD k (0,0)).1) p∧iX bs p=alg (λk=>(bs.getD k (0,0)).1) p
 | [],_=>⟨rfl,rfl⟩
 | s::p,hp=>by
  obtain⟨i1,i2⟩:=low_fix h p λt ht=>hp t (aw _ ht)
  obtain⟨h1,h2⟩:=hp s ∅;obtain⟨h3,h4⟩:=h s.i h1;have e:bs.getD s.i (0,0)=bs[s.i]:=by rw[ag,gE h3];rfl
  have e1:fR bs (s::p)=rB bs s+fR bs p:=rfl;have e2:iX bs (s::p)=lY bs s+iX bs p:=rfl;have f1:rB bs s=if s.d=1 then bs[s.i].1 else -bs[s.i].2:=by unfold rB;rw[gE h3]
  have f2:lY bs s=if s.d=1 then bs[s.i].2 else -bs[s.i].1:=by unfold lY;rw[gE h3]
  rw[e] at h4;rw[e1,e2,f1,f2,i1,i2];show _=s.d * (bs.getD s.i (0,0)).1+_∧_=s.d * (bs.getD s.i (0,0)).1+_;rw[e]
  rcases h2 with d1 | d1
  ·rw[d1,rV rfl,rV rfl];lia
  ·rw[d1,rT ↥0,rT ↥0];lia
theorem pQ {bs:List (Int×Int)}{q:Nat×List Stp}(h:RK sp tk q)(O:OB sp tk bs)(fix:∀k∈tk,(bs.getD k (0,0)).1=(bs.getD k (0,0)).2) :
  ∃p,q.2=⟨q.1,1⟩::p∧Pth sp tk (sAt sp q.1).g (sAt sp q.1).s p∧fR bs q.2=(sAt sp q.1).l+alg (λk=>(bs.getD k (0,0)).1) p∧iX bs q.2=(sAt sp q.1).o+alg (λk=>(bs.getD k (0,0)).1) p:=by
 obtain ⟨p,e,P⟩:=h.way;have hk:=h.lt;have l:=O.len;obtain ⟨a1,a2⟩:=low_fix (bs:=bs) (tk:=p.map Stp.i) (fun k hk'=>by
  obtain ⟨s,hs,rfl⟩:=aL.mp hk';exact ⟨by rw [l];exact (P.inn s hs).2.1,fix _ (P.inn s hs).1⟩) p fun s hs=>⟨aL.mpr ⟨s,hs,rfl⟩,(P.inn s hs).2.2⟩
 have eb:=O.out q.1 hk h.out;have hb:q.1<bs.length:=by lia
 have e0:bs.getD q.1 (0,0)=bs[q.1]:=by rw[ag,gE hb];rfl
 apply⟨p,e,P,?_,?_⟩
 ·rw[e,show fR bs (⟨q.1,1⟩::p)=rB bs ⟨q.1,1⟩+fR bs p from rfl,a1]
  congr 1;unfold rB;show(match bs[q.1]? with | some p=>if (1:Int)=1 then p.1 else -p.2 | none=>0)=_;rw[gE hb];show(if (1:Int)=1 then bs[q.1].1 else _)=_;rw[rV rfl,←e0,eb]
 ·rw[e,show iX bs (⟨q.1,1⟩::p)=lY bs ⟨q.1,1⟩+iX bs p from rfl,a2]
  congr 1;unfold lY;show(match bs[q.1]? with | some p=>if (1:Int)=1 then p.2 else -p.1 | none=>0)=_;rw[gE hb];show(if (1:Int)=1 then bs[q.1].2 else _)=_;rw[rV rfl,←e0,eb]
theorem beat_one {hi:Int}(hb:0<b)(h:upB b lo≤hi / b)(hw:hi - lo<b):upB b lo=hi / b∧lo≤b * upB b lo∧b * upB b lo≤hi:=by
 have e:=fJ (-lo) b;have r0:=dJ (-lo) (by lia:b≠0);have r1:=dv (-lo) hb;have e':=fJ hi b;have r0':=dJ hi (by lia:b≠0);have r1':=dv hi hb;unfold upB at h ⊢;generalize -lo / b=u at *;generalize hi / b=v at *;have m1:b * -u= -(b * u):=Int.mul_neg ..;have h2:b * -u≤b * v:=ij h ⋯;apply⟨?_,⋯,⋯⟩
 rcases Int.lt_or_le (-u) v with c | c
 ·have:b * (-u+1)≤b * v:=ij ⋯ ⋯
  rw[jB,gN] at this;lia
 ·lia
theorem fx_sure {m:Int}{rg:List (Nat×List Stp)}{bs:List (Int×Int)}(N:ia b m sp)(f:FF m sp tk rg)(O:OB sp tk bs)(x:Fx b tk rg bs):LfOk b sp bs (.price (k9 sp rg)):=by
 have m2:=N.m2;have fw:=f.few;have tl:tk.length≤15:=by lia
 apply⟨?_,λr hr=>?_⟩
 ·show(rg.map _).length≤40
  rw[aa];have hn:((rg.map (·.1)).map λn:Nat=>(n:Int)).Nodup:=by
   rw[cb,dQ];exact(cb.mp f.one).imp λhh e=>hh ⋯
  have:=mz (l:=(rg.map (·.1)).map λn:Nat=>(n:Int)) (k:=(aJ sp.length).map λn:Nat=>(n:Int)) hn λz hz=>by
   obtain⟨i,hi,rfl⟩:=aL.mp hz;obtain⟨q,hq,rfl⟩:=aL.mp hi;exact aL.mpr ⟨_,bF.mpr (f.rk q hq).lt,rfl⟩
  rw[aa,aa,aa,bq] at this;have:=N.few;lia
 ·obtain⟨q,hq,rfl⟩:=aL.mp hr
  have K:=f.rk q hq;have sn:=N.all _ (eD K.lt);apply⟨K.rg N tl,?_,by have:=sn.w0;show -1000000000000≤(sAt sp q.1).w;lia,sn.w1⟩;obtain⟨p,e,P,e1,e2⟩:=pQ K O x.fix;have al:=x.alive q hq;have al:¬(upB b (fR bs q.2) > iX bs q.2 / b):=by
   unfold jR at al
   simpa using al
  show decide (upB b (fR bs q.2)=iX bs q.2 / b)=true;apply rX (beat_one (by have:=N.b1;lia) ⋯ ?_).1;have:=sn.ob;rw[e1,e2];lia
theorem alg_pot {sp:List Sn}{tk:List Nat}{y:Nat→Int}{π:Int→Int}(ht:∀i∈tk,i<sp.length)(hπ:∀i∈tk,π (sAt sp i).g - π (sAt sp i).s=y i):∀(p:List Stp) (u z:Int),(∀s∈p,s.i∈tk∧(s.d=1∨s.d= -1))→qP sp u p z→alg y p=π z - π u
 | [],u,z,_,a=>by
  have a:u=z:=a;subst a;show(0:Int)=_;lia
 | s::p,u,z,hp,a=>by
  obtain⟨a1,a2⟩:=a;have ih:=alg_pot ht hπ p _ z (λt h=>hp t (aw _ h)) a2;obtain⟨h1,h2⟩:=hp s ∅;obtain⟨f1,f2,f3,f4⟩:=rE (ht s.i h1);have e:=hπ s.i h1;obtain⟨i,d⟩:=s
  dsimp only at e f1 f2 f3 f4
  have h2:d=1∨d= -1:=h2;show d * y i+alg y p=_;rw[ih,←a1]
  rcases h2 with rfl | rfl
  ·rw[f1,f2];show 1 * y i+_=_;lia
  ·rw[f3,f4];show -1 * y i+_=_;lia
def potT (b:Int)(π:Int→Int)(m:Nat):List Int:=(aJ m).map λx:Nat=>(π (x:Nat) - π 0) % b
theorem potT_at {π:Int→Int}{x:Int}(h0:0≤x)(h1:x<m):tm (potT b π m) x=(π x - π 0) % b:=by
 obtain⟨n,rfl⟩:=cp h0;unfold tm potT;rw[cM,ag,ar,eE ⋯];rfl
theorem wait_pot {π:Int→Int}{x:Sn}(s0:0≤x.s)(s1:x.s<m)(g0:0≤x.g)(g1:x.g<m):cR b (potT b π m) x=(π x.g - π x.s - x.l) % b:=by
 unfold cR;rw[potT_at s0 s1,potT_at g0 g1,pf];congr 1;lia
theorem rest_in {Y l Z:Int}(h0:l≤Y)(h1:Y<l+b):(Y - b * Z - l) % b=Y - l:=by
 rw[show Y - b * Z - l=(Y - l)+b * (-Z) by rw[Int.mul_neg];lia,kX];exact jW ⋯ ⋯
theorem sg_no {k:Nat}:∀(p:List Stp),(∀s∈p,s.i≠k)→sg k p=0
 | [],_=>rfl
 | s::p,h=>by
  show(if s.i=k then s.d else 0)+sg k p=0;rw[rT (h s ∅),sg_no p λt ht=>h t (aw _ ht)];rfl
theorem sgR_no {sp:List Sn}{tk:List Nat}{k:Nat}(hk:k ∉ tk):∀(rg:List (Nat×List Stp)),(∀q∈rg,RK sp tk q)→k ∉ rg.map (·.1)→sgR k (k9 sp rg)=0
 | [],_,_=>rfl
 | q::rg,h,hn=>by
  have ih:=sgR_no hk rg (λt ht=>h t (aw _ ht)) λz=>hn (aw _ z)
  show(sAt sp q.1).w * sg k q.2+sgR k (k9 sp rg)=0;obtain⟨p,e,P⟩:=(h q ∅).way;rw[ih,e,sg_no _ λs hs=>?_,iq];rfl
  rcases aE.mp hs with rfl | hs
  ·exact λz=>hn (by show k∈q.1::_;rw[show k=q.1 from z.symm];simp)
  ·exact λz=>hk (z ▸ (P.inn s hs).1)
theorem sgR_own {sp:List Sn}{tk:List Nat}{k:Nat}(hk:k ∉ tk):∀(rg:List (Nat×List Stp)),(∀q∈rg,RK sp tk q)→(rg.map (·.1)).Nodup→k∈rg.map (·.1)→sgR k (k9 sp rg)=(sAt sp k).w
 | [],_,_,h=>rW h ∅
 | q::rg,h,hn,hm=>by
  rw[bX,bP] at hn;show(sAt sp q.1).w * sg k q.2+sgR k (k9 sp rg)=_;obtain⟨p,e,P⟩:=(h q ∅).way;have hp:∀s∈p,s.i≠k:=λs hs z=>hk (z ▸ (P.inn s hs).1)
  have e2:sg k q.2=if q.1=k then 1 else 0:=by
   rw[e];show(if q.1=k then (1:Int) else 0)+sg k p=_;rw[sg_no p hp,Int.add_zero]
  rw[e2]
  by_cases c:q.1=k
  ·rw[rV c,c,gN,sgR_no hk rg (λt ht=>h t (aw _ ht)) (c ▸ hn.1),Int.add_zero]
  ·rw[rT c,iq,il]
   exact sgR_own hk rg (λt ht=>h t (aw _ ht)) hn.2 ((aE.mp hm).resolve_left λz=>c z.symm)
theorem mem_allT {b:Nat}:∀(n:Nat) (ts:List Int),ts.length=n→(∀x∈ts,0≤x∧x<(b:Int))→ts∈allT b n
 | 0,ts,h,_=>by rw[g9.mp h];exact ay.mpr rfl
 | n+1,ts,h,hx=>by
  have hne:ts≠[]:=λz=>by rw[z] at h;cases h
  have e:=List.dropLast_concat_getLast hne;have hd:ts.dropLast∈allT b n:=mem_allT n _ (by rw[List.length_dropLast];lia) λx h'=>hx x ((List.dropLast_sublist _).subset h')
  obtain⟨l0,l1⟩:=hx _ (List.getLast_mem hne);obtain⟨c,hc⟩:=cp l0;apply List.mem_flatMap.mpr ⟨ts.dropLast,hd,aL.mpr ⟨c,bF.mpr ⋯,?_⟩⟩;rw[il];show ts.dropLast++[((c:Nat):Int)]=ts;rw[show((c:Nat):Int)=ts.getLast hne from hc.symm];exact e
theorem tight {m:Int}{rg:List (Nat×List Stp)}{bs:List (Int×Int)}(N:ia b m sp)(f:FF m sp tk rg)(O:OB sp tk bs)(x:Fx b tk rg bs) :
  ∃ts∈allT b.toNat m.toNat,ts.getD 0 0=0∧fF b ts sp=true∧bU b ts sp=lJ b sp bs (k9 sp rg):=by
 have hb:0<b:=by have:=N.b1;lia
 have m1:=N.m1;obtain⟨ht1,ht2⟩:=f.acy.nodup;obtain⟨π,hπ⟩:=f.acy.pot λk=>(bs.getD k (0,0)).1
 have eW:∀k,k<sp.length→cR b (potT b π m.toNat) (sAt sp k)=(π (sAt sp k).g - π (sAt sp k).s - (sAt sp k).l) % b:=λk hk=>by
  have s:=N.all _ (eD hk);exact wait_pot s.s0 (by have:=s.s1;lia) s.g0 (by have:=s.g1;lia)
 have key:∀k,k<sp.length→∃Y,cR b (potT b π m.toNat) (sAt sp k)=Y - (sAt sp k).l∧(bs.getD k (0,0)).1≤Y∧Y≤(bs.getD k (0,0)).2:=λk hk=>by
  have s:=N.all _ (eD hk);have lo:=O.lo k hk
  by_cases c:k∈tk
  ·have e:=hπ k c
   have fx:=x.fix k c;apply⟨(bs.getD k (0,0)).1,?_,gk _,⋯⟩;rw[eW k hk,show π (sAt sp k).g - π (sAt sp k).s - (sAt sp k).l=(bs.getD k (0,0)).1 - b * 0 - (sAt sp k).l by rw[iq];lia];exact rest_in lo.1 (by have:=s.ob;lia)
  ·obtain⟨r,hr⟩:=f.all k hk c
   have K:=f.rk _ hr;obtain⟨p,e,P,e1,e2⟩:=pQ K O x.fix;have al:=x.alive _ hr;have al:¬(upB b (fR bs r) > iX bs r / b):=by unfold jR at al;simpa using al
   obtain ⟨_,z1,z2⟩:=beat_one hb (lo:=fR bs r) (hi:=iX bs r) ⋯ (by
    have e1:fR bs r=_:=e1;have e2:iX bs r=_:=e2;have:=s.ob;rw [e1,e2];show (sAt sp k).o+_ - ((sAt sp k).l+_)<b;lia)
   have ea:=alg_pot ht2 hπ p _ _ (λs hs=>⟨(P.inn s hs).1,(P.inn s hs).2.2⟩) P.alo;have e1:fR bs r=(sAt sp k).l+alg (λk=>(bs.getD k (0,0)).1) p:=e1;have e2:iX bs r=(sAt sp k).o+alg (λk=>(bs.getD k (0,0)).1) p:=e2;have ea:alg (λk=>(bs.getD k (0,0)).1) p=π (sAt sp k).s - π (sAt sp k).g:=ea;have eo:=O.out k hk c;rw[eo];apply⟨b * upB b (fR bs r) - alg (λk=>(bs.getD k (0,0)).1) p,?_,by show(sAt sp k).l≤_;lia,by show _≤(sAt sp k).o;lia⟩;rw[eW k hk];have hs:=s.ob;have:=rest_in (b:=b) (Y:=b * upB b (fR bs r) - alg (λk=>(bs.getD k (0,0)).1) p) (l:=(sAt sp k).l) (Z:=upB b (fR bs r)) ⋯ ⋯;rw[←this];congr 1;lia
 have lay:∀k,k<sp.length→jb b (potT b π m.toNat) sp k=(sAt sp k).l+cR b (potT b π m.toNat) (sAt sp k):=λk hk=>by
  unfold jb;rw[jy hk]
 have hin:InB (jb b (potT b π m.toNat) sp) bs:=λk hk=>by
  have hk:k<sp.length:=by rw[←O.len];exact hk
  obtain⟨Y,e,y1,y2⟩:=key k hk;rw[lay k hk,e]
  constructor <;> lia
 apply⟨potT b π m.toNat,mem_allT _ _ (by unfold potT;rw[aa,bq]) (λz hz=>?_),?_,?_,?_⟩
 ·obtain⟨i,_,rfl⟩:=aL.mp hz
  have h0:=dJ (π (i:Nat) - π 0) (by lia:b≠0);have h1:=dv (π (i:Nat) - π 0) hb;exact⟨h0,⋯⟩
 ·have:=potT_at (b:=b) (π:=π) (m:=m.toNat) (x:=0) (gk 0) ⋯
  rw[Int.sub_self,Int.zero_emod] at this;exact this
 ·unfold fF
  rw[gM,iL];intro s hs;obtain⟨k,hk,rfl⟩:=List.getElem_of_mem hs;have eA:sAt sp k=sp[k]:=by unfold sAt;rw[ag,gE hk];rfl
  obtain⟨Y,e,y1,y2⟩:=key k hk;have:=(O.lo k hk).2.2;rw[eA] at e this;unfold brk;rw[rY ⋯];exact aS
 ·have rok:∀r∈k9 sp rg,RowOk b sp bs r:=(fx_sure N f O x).2
  have rw1:∀r∈k9 sp rg,RwOk sp.length r:=λr hh=>by
   have q:=rok r hh;exact⟨q.1.inn,q.1.one,q.1.few,q.2.2.1,q.2.2.2⟩
  have e1:=rows_in hb O.len hin _ rok;have e2:=sum_sgR (y:=jb b (potT b π m.toNat) sp) (n:=sp.length) (k9 sp rg) λr hh s hs=>((rw1 r hh).inn s hs).1
  unfold lJ;rw[l7,←e1,←e2,wait_sum,←oX];apply kl _ λk hk=>?_
  unfold termW;have eo:=owK_sg hk rw1;have hl:=hin k (by rw[O.len];exact hk);have ew:wOf sp k=(sAt sp k).w:=by unfold wOf;rw[jy hk]
  have keyo:owK sp (k9 sp rg) k * (if owK sp (k9 sp rg) k<0 then (bs.getD k (0,0)).2 else (bs.getD k (0,0)).1)=owK sp (k9 sp rg) k * jb b (potT b π m.toNat) sp k:=by
   by_cases c:k∈tk
   ·have fx:=x.fix k c
    have e:jb b (potT b π m.toNat) sp k=(bs.getD k (0,0)).1:=by lia
    rw[e];split
    ·rw[←fx]
    ·rfl
   ·have z:owK sp (k9 sp rg) k=0:=by
     obtain⟨r,hr⟩:=f.all k hk c;rw[eo,ew,sgR_own c rg f.rk f.one (aL.mpr ⟨_,hr,rfl⟩),Int.sub_self]
    rw[z,fk,fk]
  have ex:owK sp (k9 sp rg) k * jb b (potT b π m.toNat) sp k=wOf sp k * jb b (potT b π m.toNat) sp k - sgR k (k9 sp rg) * jb b (potT b π m.toNat) sp k:=by rw[eo,Int.sub_mul]
  lia
def jh (m:Nat)(sp:List Sn)(l:List Nat):Prop:=oz m sp (l.map λ(i:Nat)=>(i:Int))∧∃π,rO sp π∧l.Perm (j7 sp m π).2
theorem qu:∀{l k:List Nat},l.map (λ(i:Nat)=>(i:Int))=k.map (λ(i:Nat)=>(i:Int))→l=k
 | [],[],_=>rfl
 | [],_::_,h=>by cases h
 | _::_,[],h=>by cases h
 | a::l,b::k,h=>by
  rw[bX,bX] at h;injection h with h1 h2
  have h1:a=b:=by lia
  rw[h1,qu h2]
theorem jh.one {k:List Nat}(a:jh m sp l)(b:jh m sp k):l=k:=qu (oz.one a.1 b.1)
theorem jh.gd (E:Ends m sp)(a:jh m sp l):∃gs tk,Gd m sp gs tk∧l.Perm tk∧∀i,i<sp.length→tm gs (sAt sp i).s=tm gs (sAt sp i).g:=by
 obtain⟨_,π,O,pm⟩:=a;apply⟨(j7 sp m π).1,(j7 sp m π).2,Gd.fold E π _ _ (λi hi=>O.lt hi) (Gd.start m sp),pm,λi hi=>?_⟩;exact kQ E π (ko m) [] (j6 _) (λi hi=>O.lt hi) i (O.1.mem_iff.mpr (bF.mpr hi))
theorem jh.pots (E:Ends m sp)(a:jh m sp l):Pots sp l:=by
 obtain⟨gs,tk,g,p,_⟩:=a.gd E;exact g.acy.pots.perm p
theorem jh.few (E:Ends m sp)(h:0<m)(a:jh m sp l):l.length<m:=by
 obtain⟨gs,tk,g,p,_⟩:=a.gd E;rw[p.length_eq];exact g.few h
theorem jh.held (E:Ends m sp)(a:jh m sp l){k:Nat}(hk:k<sp.length):rR sp l (sAt sp k).s (sAt sp k).g:=by
 obtain⟨gs,tk,g,p,me⟩:=a.gd E;obtain⟨s0,s1,g0,g1⟩:=E _ (eD hk);exact(g.held _ _ s0 s1 g0 g1 (me k hk)).more λi hi=>p.mem_iff.mpr hi
def qh (sp:List Sn)(tk:List Nat):List Nat:=(aJ sp.length).filter λk=> !(decide (k∈tk))
structure FR (m:Int)(sp:List Sn)(l:List Nat)(rg:List (Nat×List Stp)):Prop where
 fr:jh m.toNat sp l
 rk:∀q∈rg,RK sp l q
 ks:rg.map (·.1)=qh sp l
theorem FR.ff {m:Int}{rg:List (Nat×List Stp)}(N:ia b m sp)(a:FR m sp l rg):FF m sp l rg:=by
 have m1:=N.m1;apply⟨a.fr.pots N.ends,by have:=a.fr.few N.ends ⋯;lia,a.rk,λk hk hn=>?_,?_⟩
 ·have:k∈rg.map (·.1):=by
   rw[a.ks];exact bZ.mpr ⟨bF.mpr hk,by rw[rY hn];rfl⟩
  obtain⟨q,hq,rfl⟩:=aL.mp this;exact⟨q.2,hq⟩
 ·rw[a.ks]
  exact List.nodup_range.filter _
def wayQ (q:Nat×List Stp):Dt:=oB q.2
def i6 (k:Nat)(q:Nat×List Stp):Bool:=decide (k∈q.2.map Stp.i)
theorem Tb.lamT {T:ak}(h:L2.LamT T lp lq H)(e:L2.Tb T H H'):kr H H':=Tb.tupK (LamT.tbl h) e
inductive oZ (T:ak)(lp:Pos)(lq:Str)(vs:List V)(H:Hp)(Q:VK)(_:XK):Prop
 | mk (v:V)(b m:Int)(sp:List Sn)(_:vs=[v])(_:IsD H v (jA b m sp))(_:ia b m sp)(_:L2.LamT T lp lq H)(_:∀(L:ak) (rl:List V) (l:List Nat) (rg:List (Nat×List Stp)) (H':Hp),L2.Tb T H H'→L2.LamT T lp lq H'→H L=none→H' L=some (.lst rl)→dW H' rl (rg.map wayQ)→FR m sp l rg→Q (.ref L) H')
inductive spOverR (vs:List V)(H:Hp)(Q:VK)(_:XK):Prop
 | mk (u:ak)(k:Nat)(rl:List V)(rg:List (Nat×List Stp))(_:vs=[.ref u,.int (k:Nat)])(_:H u=some (.lst rl))(_:dW H rl (rg.map wayQ))(_:rg.length≤40)(_:(∀q∈rg,q.2.length≤1000))(_:∀(L:ak) (rl':List V) (H':Hp),bC H H'→H L=none→H' L=some (.lst rl')→dW H' rl' ((rg.filter (i6 k)).map wayQ)→Q (.ref L) H')
structure CsD (H:Hp)(c:ak)(bs:List (Int×Int))(rs:List (Nat×List Stp)):Prop where
 ex:∃vb u rl,H c=some (.tup [vb,.ref u])∧IsD H vb (bndP bs)∧H u=some (.lst rl)∧dW H rl (rs.map wayQ)
theorem CsD.same {c:ak}{bs:List (Int×Int)}(a:CsD H c bs rs)(e:bC H H'):CsD H' c bs rs:=by
 obtain⟨vb,u,rl,h1,h2,h3,h4⟩:=a.ex;exact⟨vb,u,rl,e _ _ h1,h2.same e,e _ _ h3,h4.same e⟩
inductive spMid (vs:List V)(H:Hp)(Q:VK)(_:XK):Prop
 | mk (c:ak)(k:Nat)(bs:List (Int×Int))(rs:List (Nat×List Stp))(_:vs=[.ref c,.int (k:Nat)])(_:CsD H c bs rs)(_:k<bs.length)(_:Q (.int (((bs.getD k (0,0)).1+(bs.getD k (0,0)).2) / 2)) H)
inductive pV (vs:List V)(H:Hp)(Q:VK)(_:XK):Prop
 | mk (v:V)(c:ak)(b m:Int)(sp:List Sn)(bs:List (Int×Int))(rs:List (Nat×List Stp))(_:vs=[v,.ref c])(_:IsD H v (jA b m sp))(_:0<b)(_:b<10 ^ 61)(_:CsD H c bs rs)(_:rs.length≤40)(_:(∀q∈rs,qU bs.length q.2))(_:∀r H',bC H H'→((r= .non∧∀q∈rs,jR b bs q.2=false)∨∃q∈rs,IsD H' r (leafP (.ring q.2))∧jR b bs q.2=true)→Q r H')
inductive Spr (sp:List Sn):List Stp→Prop where
 | nil:Spr sp []
 | snoc {S:List Stp} {s:Stp} (h:Spr sp S) (n:fQ sp s≠mw sp s) (o:∀t∈S,fQ sp s≠fQ sp t∧fQ sp s≠mw sp t):Spr sp (S++[s])
structure SI (m:Nat)(sp:List Sn)(tk:List Nat)(ex:Int→Prop)(R A:List Int)(S:List Stp):Prop where
 rng:∀r∈R,0≤r∧r<(m:Int)
 nd:R.Nodup
 ahd:∀a∈A,a∈R
 inn:∀s∈S,s.i∈tk∧(s.d=1∨s.d= -1)∧mw sp s∈R∧fQ sp s∈R
 spr:Spr sp S
 len:S.length≤R.length
 clo:∀z∈R,z ∉ A→¬ex z→∀s∈dU sp tk z,s.i∈S.map Stp.i
 con:∀π:Int→Int,(∀s∈S,π (mw sp s)=π (fQ sp s))→∀a c,(a∈A∨ex a)→(c∈A∨ex c)→π a=π c
def exN:Int→Prop:=λ_=>False
section
variable {R A:List Int}
theorem SI.start:SI m sp tk exN [] [] [] :=
 ⟨λ_ h=>(by cases h),List.nodup_nil,λ_ h=>(by cases h),λ_ h=>(by cases h),.nil,aC _,λ_ h=>(by cases h),λ_ _ a c h=>(by rcases h with h | h;cases h;cases h)⟩
theorem SI.root {x:Int}(h:SI m sp tk exN R [] S)(hx:x ∉ R)(x0:0≤x)(x1:x<(m:Int)):SI m sp tk exN (R++[x]) [x] S:=by
 apply⟨λr hr=>?_,jL.mpr ⟨h.nd,∅,λa ha c hc e=>?_⟩,λa ha=>az _ ha,λs hs=>?_,h.spr,by rw[av];exact Nat.le_succ_of_le h.len,λz hz hn ex=>?_,λπ _ a c ha hc=>?_⟩
 ·rcases aQ.mp hr with z | z
  ·exact h.rng r z
  ·rw[ay.mp z];exact⟨x0,x1⟩
 ·rw[ay.mp hc] at e
  exact hx (e ▸ ha)
 ·obtain⟨a,b,c,d⟩:=h.inn s hs
  exact⟨a,b,aM _ c,aM _ d⟩
 ·rcases aQ.mp hz with y | y
  ·exact h.clo z y ∅ ex
  ·exact rW y hn
 ·rcases ha with ha | ha
  ·rcases hc with hc | hc
   ·rw[ay.mp ha,ay.mp hc]
   ·exact hc.elim
  ·exact ha.elim
theorem SI.pop {x:Int}(h:SI m sp tk exN R (A++[x]) S):SI m sp tk (· =x) R A S∧x∈R:=by
 apply⟨⟨h.rng,h.nd,λa ha=>h.ahd a (aM _ ha),h.inn,h.spr,h.len,λz hz hn ex=>?_,λπ hπ a c ha hc=>?_⟩,h.ahd x ∅⟩
 ·apply h.clo z hz (λy=>?_) id
  rcases aQ.mp y with y | y
  ·exact hn y
  ·exact ex (ay.mp y)
 ·have up:∀a:Int,(a∈A∨a=x)→a∈A++[x]∨exN a:=λa ha=> .inl (ha.elim (λz=>aM _ z) λz=>by rw[z];simp)
  exact h.con π hπ a c (up a ha) (up c hc)
theorem nY {x:Int}{s:Stp}(h:s∈dU sp tk x):(s.i∈tk∧(s.d=1∨s.d= -1))∧mw sp s=x :=
 ⟨mem_stF (bZ.mp h).1,rZ (bZ.mp h).2⟩
theorem pR {x:Int}(h:i∈tk)(hd:d=1∨d= -1)(e:mw sp ⟨i,d⟩=x):(⟨i,d⟩:Stp)∈dU sp tk x:=by
 apply bZ.mpr ⟨?_,rX e⟩;unfold stF
 rcases hd with rfl | rfl
 ·exact aM _ (aL.mpr ⟨i,h,rfl⟩)
 ·exact az _ (aL.mpr ⟨i,h,rfl⟩)
theorem SI.add {x:Int}{s:Stp}(E:Ends m sp)(ht:∀i∈tk,i<sp.length)(h:SI m sp tk (· =x) R A S)(hx:x∈R)(hs:s∈dU sp tk x)(hn:fQ sp s ∉ R):SI m sp tk (· =x) (R++[fQ sp s]) (A++[fQ sp s]) (S++[s]):=by
 obtain⟨⟨h1,h2⟩,h3⟩:=nY hs;apply⟨λr hr=>?_,jL.mpr ⟨h.nd,∅,λa ha c hc e=>?_⟩,λa ha=>?_,λt hT=>?_,.snoc h.spr (λz=>hn (by rw[z,h3];exact hx)) (λt hT=>⟨λz=>hn (by rw[z];exact(h.inn t hT).2.2.2),λz=>hn (by rw[z];exact(h.inn t hT).2.2.1)⟩),by rw[av,av];exact j9 h.len,λz hz hz' ex t hT=>?_,λπ hπ=>?_⟩
 ·rcases aQ.mp hr with z | z
  ·exact h.rng r z
  ·rw[ay.mp z];exact l4 E (ht _ h1)
 ·rw[ay.mp hc] at e
  exact hn (e ▸ ha)
 ·rcases aQ.mp ha with z | z
  ·exact aM _ (h.ahd a z)
  ·exact az _ z
 ·rcases aQ.mp hT with z | z
  ·obtain⟨a,b,c,d⟩:=h.inn t z
   exact⟨a,b,aM _ c,aM _ d⟩
  ·rw[ay.mp z]
   exact⟨h1,h2,aM _ (h3 ▸ hx),∅⟩
 ·rw[ax]
  apply aM _ ?_
  rcases aQ.mp hz with y | y
  ·exact h.clo z y (λy'=>hz' (aM _ y')) ex t hT
  ·exact rW (az _ y) hz'
 ·have old:∀t∈S,π (mw sp t)=π (fQ sp t):=λt hT=>hπ t (aM _ hT)
  have new:π (fQ sp s)=π x:=by rw[←hπ s ∅,h3]
  have one:∀a:Int,(a∈A++[fQ sp s]∨a=x)→π a=π x:=λa ha=>by
   rcases ha with ha | ha
   ·rcases aQ.mp ha with z | z
    ·exact h.con π old a x (.inl z) (.inr rfl)
    ·rw[ay.mp z,new]
   ·rw[ha]
  exact λa c ha hc=>(one a ha).trans (one c hc).symm
theorem SI.has {x:Int}{s:Stp}(P:Pots sp tk)(ne:∀i∈tk,(sAt sp i).s≠(sAt sp i).g)(h:SI m sp tk (· =x) R A S)(hs:s∈dU sp tk x)(hn:fQ sp s∈R):s.i∈S.map Stp.i:=by
 obtain⟨⟨h1,h2⟩,h3⟩:=nY hs;have lt:=P.nodup.2 _ h1;obtain⟨f1,f2,f3,f4⟩:=rE lt;have hne:=ne _ h1;obtain⟨i,d⟩:=s;have h2:d=1∨d= -1:=h2;show i∈_;have h1:i∈tk:=h1;have f1:mw sp ⟨i,1⟩=(sAt sp i).s:=f1;have f2:fQ sp ⟨i,1⟩=(sAt sp i).g:=f2;have f3:mw sp ⟨i,-1⟩=(sAt sp i).g:=f3;have f4:fQ sp ⟨i,-1⟩=(sAt sp i).s:=f4;have hne:(sAt sp i).s≠(sAt sp i).g:=hne
 by_cases c:fQ sp ⟨i,d⟩∈A
 ·apply fe λno=>?_
  obtain⟨π,hπ⟩:=P.pot λk=>if k=i then 1 else 0
  have e:=h.con π (fun t hT=>by
   obtain⟨t1,t2,_⟩:=h.inn t hT;have e:=hπ _ t1;rw[rT (λz=>no (aL.mpr ⟨t,hT,z⟩))] at e;obtain⟨g1,g2,g3,g4⟩:=rE (P.nodup.2 _ t1);obtain⟨j,dj⟩:=t;have t2:dj=1∨dj= -1:=t2
   dsimp only at e g1 g2 g3 g4
   rcases t2 with rfl | rfl
   ·rw[g1,g2];lia
   ·rw [g3,g4];lia) _ x (.inl c) (.inr rfl)
  have y:=hπ i h1;rw[rV rfl] at y;rw[←h3] at e
  rcases h2 with rfl | rfl
  ·rw[f1,f2] at e
   dsimp only at e y
   lia
  ·rw[f3,f4] at e
   dsimp only at e y
   lia
 ·rcases h2 with rfl | rfl
  ·rw[f2] at hn c
   exact h.clo _ hn c (λz=>hne (by rw[←f1,h3];exact z.symm)) ⟨i,-1⟩ (pR h1 (.inr rfl) f3)
  ·rw[f4] at hn c
   exact h.clo _ hn c (λz=>hne (by rw[←f3,h3];exact z)) ⟨i,1⟩ (pR h1 (.inl rfl) f1)
theorem SI.done {x:Int}(h:SI m sp tk (· =x) R A S)(a:∀s∈dU sp tk x,s.i∈S.map Stp.i):SI m sp tk exN R A S:=by
 apply⟨h.rng,h.nd,h.ahd,h.inn,h.spr,h.len,λz hz hn _=>?_,λπ hπ a c ha hc=>h.con π hπ a c (.inl (ha.elim id cX)) (.inl (hc.elim id cX))⟩
 by_cases e:z=x
 ·rw[e];exact a
 ·exact h.clo z hz hn e
theorem SI.few (h:SI m sp tk exN R A S):R.length≤m:=by
 have:=mz (k:=(aJ m).map λi:Nat=>(i:Int)) h.nd λx hx=>by
  obtain⟨a,b⟩:=h.rng x hx;exact aL.mpr ⟨x.toNat,bF.mpr ⋯,⋯⟩
 rwa [aa,bq] at this
theorem SI.fewX {x:Int}(h:SI m sp tk (· =x) R A S):R.length≤m:=by
 have:=mz (k:=(aJ m).map λi:Nat=>(i:Int)) h.nd λx hx=>by
  obtain⟨a,b⟩:=h.rng x hx;exact aL.mpr ⟨x.toNat,bF.mpr ⋯,⋯⟩
 rwa [aa,bq] at this
end
structure SprOk (m:Nat)(sp:List Sn)(tk:List Nat)(S:List Stp):Prop where
 spr:Spr sp S
 inn:∀s∈S,s.i∈tk∧(s.d=1∨s.d= -1)
 all:∀i∈tk,i∈S.map Stp.i
 len:S.length≤m
theorem SI.ok {R:List Int}(E:Ends m sp)(ht:∀i∈tk,i<sp.length)(h:SI m sp tk exN R [] S)(a:∀x:Nat,x<m→(x:Int)∈R):SprOk m sp tk S:=by
 apply⟨h.spr,λs hs=>⟨(h.inn s hs).1,(h.inn s hs).2.1⟩,λi hi=>?_,bj h.len h.few⟩;obtain⟨s0,s1,_,_⟩:=E _ (eD (ht i hi));obtain⟨f1,_⟩:=rE (ht i hi);have:=a (sAt sp i).s.toNat ⋯;rw[show(((sAt sp i).s.toNat:Nat):Int)=(sAt sp i).s by lia] at this;exact h.clo _ this ∅ id ⟨i,1⟩ (pR hi (.inl rfl) f1)
def setT (sp:List Sn)(y:Nat→Int)(ts:List Int)(s:Stp):List Int:=ts.set (fQ sp s).toNat (tm ts (mw sp s)+s.d * y s.i)
def ki (sp:List Sn)(y:Nat→Int)(m:Nat)(S:List Stp):List Int:=S.foldl (setT sp y) (bQ m 0)
theorem l5 {sp:List Sn}{y:Nat→Int}{m:Nat}:∀(S:List Stp) (ts:List Int),(S.foldl (setT sp y) ts).length=ts.length
 | [],_=>rfl
 | s::S,ts=>by
  rw[bJ,l5 (m:=m) S];exact iu
theorem tm_set {x v:Int}(x0:0≤x)(x1:x<ts.length)(z0:0≤z):tm (ts.set x.toNat v) z=if z=x then v else tm ts z:=by
 unfold tm;rw[ag,ag]
 by_cases e:z=x
 ·rw[rV e,e,d8 ⋯];rfl
 ·rw[rT e,dY ⋯]
theorem tooS_sAt0 {s:Stp}(h:s.i<sp.length):too (sAt sp s.i) s.d=fQ sp s∧frm (sAt sp s.i) s.d=mw sp s:=by
 have e:sAt sp s.i=sp[s.i]:=by unfold sAt;rw[ag,gE h];rfl
 rw[e];exact⟨(k3 h).symm,(mO h).symm⟩
theorem timesS_ok {y:Nat→Int}(E:Ends m sp)(h:Spr sp S):(∀s∈S,s.i<sp.length)→∀s∈S,tm (ki sp y m S) (fQ sp s)=tm (ki sp y m S) (mw sp s)+s.d * y s.i:=by
 induction h with
 | nil=>exact λ_ s hs=>by cases hs
 | snoc h n o ih =>
  rename_i S s;intro hl t ht;have hl':∀t∈S,t.i<sp.length:=λt h'=>hl t (aM _ h')
  have frm_rng:∀t:Stp,t.i<sp.length→0≤mw sp t:=λt h'=>by
   have e:=(tooS_sAt0 h').2;obtain⟨a,b,c,d⟩:=E _ (eD h');rw[←e];unfold frm;split <;> lia
  have e:ki sp y m (S++[s])=setT sp y (ki sp y m S) s:=by unfold ki;rw[eI];rfl
  have hs:s.i<sp.length:=hl s ∅;obtain⟨x0,x1⟩:=l4 E hs;have len:(ki sp y m S).length=m:=by unfold ki;rw[l5 (m:=m),gv]
  rw[e];unfold setT
  rcases aQ.mp ht with z | z
  ·rw[tm_set x0 ⋯ (l4 E (hl' t z)).1,tm_set x0 ⋯ (frm_rng t (hl' t z)),rT (λq=>(o t z).1 q.symm),rT (λq=>(o t z).2 q.symm)]
   exact ih hl' t z
  ·rw[ay.mp z,tm_set x0 ⋯ x0,tm_set x0 ⋯ (frm_rng s hs),rV rfl,rT (λq=>n q.symm)]
theorem SprOk.pot (E:Ends m sp)(ht:∀i∈tk,i<sp.length)(h:SprOk m sp tk S)(y:Nat→Int):∀i∈tk,tm (ki sp y m S) (sAt sp i).g - tm (ki sp y m S) (sAt sp i).s=y i:=λi hi=>by
 obtain⟨s,hs,rfl⟩:=aL.mp (h.all i hi);have e:=timesS_ok (y:=y) E h.spr (λt hT=>ht _ (h.inn t hT).1) s hs;obtain⟨f1,f2,f3,f4⟩:=rE (ht _ hi);have hd:=(h.inn s hs).2;obtain⟨i,d⟩:=s
 dsimp only at e f1 f2 f3 f4 hd ⊢
 rcases hd with rfl | rfl
 ·rw[f1,f2] at e;lia
 ·rw[f3,f4] at e;lia
def lowB (bs:List (Int×Int))(k:Nat):Int:=(bs.getD k (0,0)).1
def tabOf (b:Int)(sp:List Sn)(bs:List (Int×Int))(m:Nat)(S:List Stp):List Int:=(ki sp (lowB bs) m S).map (· % b)
abbrev Cse:=List (Int×Int)×List (Nat×List Stp)
def wdB (bs:List (Int×Int))(k:Nat):Nat:=((bs.getD k (0,0)).2 - (bs.getD k (0,0)).1+1).toNat
def prdN:List Nat→Nat
 | []=>1
 | x::l=>x * prdN l
def fO (bs:List (Int×Int))(l:List Nat):Nat:=prdN (l.map (wdB bs))
theorem nk {f g:Nat→Nat}:∀(l:List Nat),(∀j∈l,f j=g j)→prdN (l.map f)=prdN (l.map g)
 | [],_=>rfl
 | j::l,h=>by
  show f j * _=g j * _;rw[h j ∅,nk l λi hi=>h i (aw _ hi)]
theorem rj {f g h:Nat→Nat}{k:Nat}(e:f k=g k+h k):∀(l:List Nat),l.Nodup→k∈l→(∀j∈l,j≠k→f j=g j∧f j=h j)→prdN (l.map f)=prdN (l.map g)+prdN (l.map h)
 | [],_,hk,_=>rW hk ∅
 | j::l,nd,hk,hh=>by
  rw[bP] at nd;show f j * _=g j * _+h j * _
  by_cases c:j=k
  ·subst c
   have ne:∀i∈l,i≠j:=λi hi z=>nd.1 (z ▸ hi)
   rw[←nk (f:=f) (g:=g) l λi hi=>(hh i (aw _ hi) (ne i hi)).1,←nk (f:=f) (g:=h) l λi hi=>(hh i (aw _ hi) (ne i hi)).2,e,Nat.add_mul]
  ·obtain⟨a1,a2⟩:=hh j ∅ c
   rw[rj e l nd.2 ((aE.mp hk).resolve_left λz=>c z.symm) λi hi=>hh i (aw _ hi),Nat.mul_add,←a1,←a2]
theorem prdN_pos {f:Nat→Nat}:∀(l:List Nat),(∀j∈l,0<f j)→0<prdN (l.map f)
 | [],_=>Nat.one_pos
 | j::l,h=>Nat.mul_pos (h j ∅) (prdN_pos l λi hi=>h i (aw _ hi))
theorem jr {bs:List (Int×Int)}(O:OB sp l bs)(hl:∀k∈l,k<sp.length):0<fO bs l:=prdN_pos l λj hj=>by
 have:=O.lo j (hl j hj);unfold wdB;lia
theorem mE {bs:List (Int×Int)}{k:Nat}{a:Int}(O:OB sp l bs)(nd:l.Nodup)(hl:∀k∈l,k<sp.length)(hk:k∈l)(h1:(bs.getD k (0,0)).1≤a)(h2:a<(bs.getD k (0,0)).2):fO bs l=fO (lR bs k a) l+fO (fI bs k a) l:=by
 have hb:=O.len;have hkl:=hl k hk;apply rj ?_ l nd hk λj hj hn=>?_
 ·unfold wdB lR fI
  rw[i9 ⋯,i9 ⋯,rV rfl,rV rfl];show _=(a - _+1).toNat+(_ - (a+1)+1).toNat;lia
 ·have hjl:=hl j hj
  unfold wdB lR fI;rw[i9 ⋯,i9 ⋯,rT (cx hn),rT (cx hn)];exact⟨rfl,rfl⟩
theorem lg {sp:List Sn}:∀(l:List Nat),(∀k∈l,k<sp.length)→(∀x∈sp,x.l≤x.o)→((fO (sp.map λx=>(x.l,x.o)) l:Nat):Int)=hW sp l
 | [],_,_=>rfl
 | k::l,h,p=>by
  have ih:=lg l (λj hj=>h j (aw _ hj)) p;rw[iH,←ih];show((wdB _ k * fO _ l:Nat):Int)=_;have hk:=h k ∅;have e:(sp.map λx=>(x.l,x.o)).getD k (0,0)=((sAt sp k).l,(sAt sp k).o):=by rw[ag,ar,jy hk];rfl
  have q:=p _ (eD hk);have e2:((wdB (sp.map λx=>(x.l,x.o)) k:Nat):Int)=(oM sp k).1+1:=by
   unfold wdB;rw[e];show(((sAt sp k).o - (sAt sp k).l+1).toNat:Int)=(sAt sp k).o - (sAt sp k).l+1;lia
  rw[←e2];exact Int.natCast_mul _ _
structure jC (b:Int)(sp:List Sn)(l:List Nat)(rg:List (Nat×List Stp))(c:Cse):Prop where
 ob:OB sp l c.1
 sub:∀q∈c.2,q∈rg
 few:c.2.length≤40
 alive:∀q∈rg,q ∉ c.2→jR b c.1 q.2=false
theorem low_set {bs:List (Int×Int)}{k:Nat}{x:Int×Int}:∀(ws:List Stp),k ∉ ws.map Stp.i→fR (bs.set k x) ws=fR bs ws∧iX (bs.set k x) ws=iX bs ws
 | [],_=>⟨rfl,rfl⟩
 | s::ws,h=>by
  obtain⟨i1,i2⟩:=low_set (x:=x) ws λz=>h (aw _ z)
  have hs:k≠s.i:=λz=>h (by rw[z];simp)
  have e:(bs.set k x)[s.i]? =bs[s.i]? := dY hs
  constructor
  ·show rB _ s+fR _ ws=rB _ s+fR _ ws
   rw[i1];congr 1;unfold rB;rw[e]
  ·show lY _ s+iX _ ws=lY _ s+iX _ ws
   rw[i2];congr 1;unfold lY;rw[e]
theorem dead_set {bs:List (Int×Int)}{k:Nat}{x:Int×Int}{q:Nat×List Stp}(h:i6 k q=false):jR b (bs.set k x) q.2=jR b bs q.2:=by
 obtain⟨a1,a2⟩:=low_set (bs:=bs) (x:=x) q.2 (of_decide_eq_false h);unfold jR;rw[a1,a2]
theorem jC.cut {rg:List (Nat×List Stp)}{c:Cse}(C:jC b sp l rg c)(lrg:rg.length≤40)(hl:∀k∈l,k<sp.length)(al:∀q∈c.2,jR b c.1 q.2=false){k:Nat}{a:Int}(hk:k∈l)(h1:(c.1.getD k (0,0)).1≤a)(h2:a<(c.1.getD k (0,0)).2) :
  jC b sp l rg (fI c.1 k a,rg.filter (i6 k))∧jC b sp l rg (lR c.1 k a,rg.filter (i6 k)):=by
 have sub:∀q∈rg.filter (i6 k),q∈rg:=λq hq=>(bZ.mp hq).1
 have few:(rg.filter (i6 k)).length≤40:=bj (fG _ _) lrg;have all:∀q∈rg,jR b c.1 q.2=false:=λq hq=>by
  by_cases z:q∈c.2
  ·exact al q z
  ·exact C.alive q hq z
 have out:∀q∈rg,q ∉ rg.filter (i6 k)→i6 k q=false:=λq hq hn=>iN.mpr λz=>hn (bZ.mpr ⟨hq,z⟩)
 exact⟨⟨C.ob.other hk (hl k hk) h1 h2,sub,few,λq hq hn=>(dead_set (out q hq hn)).trans (all q hq)⟩,⟨C.ob.one hk (hl k hk) h1 h2,sub,few,λq hq hn=>(dead_set (out q hq hn)).trans (all q hq)⟩⟩
theorem dead_none {bs:List (Int×Int)}{ws:List Stp}(hb:0<b)(hl:bs.length=sp.length)(h:InB (jb b ts sp) bs)(hr:Rg sp ws):jR b bs ws=false:=by
 obtain⟨Z,_,z1,z2⟩:=ring_in hb hl h hr;unfold jR;exact rY ⋯
theorem key_pot {m:Int}{rg:List (Nat×List Stp)}{bs:List (Int×Int)}(N:ia b m sp)(f:FF m sp tk rg)(O:OB sp tk bs)(x:Fx b tk rg bs){π:Int→Int}(hπ:∀i∈tk,π (sAt sp i).g - π (sAt sp i).s=(bs.getD i (0,0)).1)
  (eW:∀k,k<sp.length→cR b ts (sAt sp k)=(π (sAt sp k).g - π (sAt sp k).s - (sAt sp k).l) % b):∀k,k<sp.length→(bs.getD k (0,0)).1≤jb b ts sp k∧jb b ts sp k≤(bs.getD k (0,0)).2:=λk hk=>by
 have hb:0<b:=by have:=N.b1;lia
 obtain⟨ht1,ht2⟩:=f.acy.nodup;have s:=N.all _ (eD hk);have lo:=O.lo k hk;have lay:jb b ts sp k=(sAt sp k).l+cR b ts (sAt sp k):=by unfold jb;rw[jy hk]
 rw[lay];have fin:∀Y,cR b ts (sAt sp k)=Y - (sAt sp k).l→(bs.getD k (0,0)).1≤Y→Y≤(bs.getD k (0,0)).2→(bs.getD k (0,0)).1≤(sAt sp k).l+cR b ts (sAt sp k)∧(sAt sp k).l+cR b ts (sAt sp k)≤(bs.getD k (0,0)).2:=λY e y1 y2=>by lia
 by_cases c:k∈tk
 ·have e:=hπ k c
  have fx:=x.fix k c;apply fin (bs.getD k (0,0)).1 ?_ (gk _) ⋯;rw[eW k hk,show π (sAt sp k).g - π (sAt sp k).s - (sAt sp k).l=(bs.getD k (0,0)).1 - b * 0 - (sAt sp k).l by rw[iq];lia];exact rest_in lo.1 (by have:=s.ob;lia)
 ·obtain⟨r,hr⟩:=f.all k hk c
  have K:=f.rk _ hr;obtain⟨p,e,P,e1,e2⟩:=pQ K O x.fix;have al:=x.alive _ hr;have al:¬(upB b (fR bs r) > iX bs r / b):=by unfold jR at al;simpa using al
  obtain ⟨_,z1,z2⟩:=beat_one hb (lo:=fR bs r) (hi:=iX bs r) ⋯ (by
   have e1:fR bs r=_:=e1;have e2:iX bs r=_:=e2;have:=s.ob;rw [e1,e2];show (sAt sp k).o+_ - ((sAt sp k).l+_)<b;lia)
  have ea:=alg_pot ht2 hπ p _ _ (λs hs=>⟨(P.inn s hs).1,(P.inn s hs).2.2⟩) P.alo;have e1:fR bs r=(sAt sp k).l+alg (λk=>(bs.getD k (0,0)).1) p:=e1;have e2:iX bs r=(sAt sp k).o+alg (λk=>(bs.getD k (0,0)).1) p:=e2;have ea:alg (λk=>(bs.getD k (0,0)).1) p=π (sAt sp k).s - π (sAt sp k).g:=ea;have eo:=O.out k hk c;rw[eo] at fin ⊢;apply fin (b * upB b (fR bs r) - alg (λk=>(bs.getD k (0,0)).1) p) ?_ (by show(sAt sp k).l≤_;lia) (by show _≤(sAt sp k).o;lia);rw[eW k hk];have hs:=s.ob;have:=rest_in (b:=b) (Y:=b * upB b (fR bs r) - alg (λk=>(bs.getD k (0,0)).1) p) (l:=(sAt sp k).l) (Z:=upB b (fR bs r)) ⋯ ⋯;rw[←this];congr 1;lia
theorem fits_lay {m:Int}(h:∀k,k<sp.length→jb b ts sp k≤(sAt sp k).o):fF b ts sp=true:=by
 unfold fF;rw[gM,iL];intro s hs;obtain⟨k,hk,rfl⟩:=List.getElem_of_mem hs;have eA:sAt sp k=sp[k]:=by unfold sAt;rw[ag,gE hk];rfl
 have:=h k hk;have lay:jb b ts sp k=(sAt sp k).l+cR b ts (sAt sp k):=by unfold jb;rw[jy hk]
 rw[lay,eA] at this;unfold brk;rw[rY ⋯];exact aS
structure Kp (H H':Hp):Prop where
 tup:kr H H'
 lst:∀q xs,H q=some (.lst xs)→H' q=some (.lst xs)
 frz:∀q o xs,H q=some (.frz o (.lst xs))→H' q=some (.frz o (.lst xs))
theorem bC.kp (e:bC H H'):Kp H H':=⟨λ_ _ h=>e _ _ h,λ_ _ h=>e _ _ h,λ_ _ _ h=>e _ _ h⟩
theorem Kp.seq (e:Kp H H')(h:SqL K H a xs):SqL K H' a xs:=by
 rcases h with (h | ⟨o,h⟩) | h
 ·exact .inl (.inl (e.lst _ _ h))
 ·exact .inl (.inr ⟨o,e.frz _ _ _ h⟩)
 ·exact .inr h
theorem Kp.trans (a:Kp H H1)(b:Kp H1 H2):Kp H H2:=⟨λ_ _ h=>b.tup _ _ (a.tup _ _ h),λ_ _ h=>b.lst _ _ (a.lst _ _ h),λ_ _ _ h=>b.frz _ _ _ (a.frz _ _ _ h)⟩
theorem Tb.kp {T:ak}(h:L2.LamT T lp lq H)(e:L2.Tb T H H'):Kp H H':=by
 obtain⟨ps,hT⟩:=LamT.tbl h;exact⟨λq _ h=>e q _ (fb h hT nofun) h,λq _ h=>e q _ (fb h hT nofun) h,λq _ _ h=>e q _ (fb h hT nofun) h⟩
theorem Kp.upd {x:ak}{fs:List (Str×V)}(h:H x=some (.ins C dx fs)):Kp H (upd H x o) :=
 ⟨λq _ hq=>by rw[bz (fb hq h nofun)];exact hq,λq _ hq=>by rw[bz (fb hq h nofun)];exact hq,λq _ _ hq=>by rw[bz (fb hq h nofun)];exact hq⟩
theorem LamT.ntb {T U:ak}{lp':Pos}{lq':Str}(h:L2.LamT T lp lq H)(hU:L2.LamT U lp' lq' H)(ne:T≠U)(e:L2.Tb U H H'):L2.LamT T lp lq H':=by
 obtain⟨ps,hT⟩:=LamT.tbl hU
 rcases h with h | ⟨c,h,oc,vs,t,e1,r⟩
 ·exact .inl (e _ _ ne h)
 ·exact .inr ⟨c,e _ _ ne h,oc,vs,t,e _ _ (fb e1 hT nofun) e1,r⟩
theorem mf {T x:ak}{fs:List (Str×V)}(h:L2.LamT T lp lq H)(hx:H x=some (.ins C dx fs)):L2.LamT T lp lq (L2.upd H x o):=LamT.upd h (λp u z=>by rw[hx] at z;cases z) (λps z=>by rw[hx] at z;cases z)
theorem wayQ_kp {rl:List V}(e:Kp H H')(h:dW H rl (rs.map wayQ)):dW H' rl (rs.map wayQ):=dW.keepP e.tup h (lh rs λq _=>mG _ _)
theorem CsD.kp {c:ak}{bs:List (Int×Int)}(a:CsD H c bs rs)(e:Kp H H'):CsD H' c bs rs:=by
 obtain⟨vb,u,rl,h1,h2,h3,h4⟩:=a.ex;exact⟨vb,u,rl,e.tup _ _ h1,IsD.keepP e.tup h2 (mG _ _),e.lst _ _ h3,wayQ_kp e h4⟩
structure TchD (H:Hp)(tl:ak)(n:Nat)(rg:List (Nat×List Stp)):Prop where
 ex:∃tv,H tl=some (.lst tv)∧tv.length=n∧∀k,k<n→∃u rl,tv[k]? =some (.ref u)∧H u=some (.lst rl)∧dW H rl ((rg.filter (i6 k)).map wayQ)
theorem TchD.kp {tl:ak}{rg:List (Nat×List Stp)}(a:TchD H tl n rg)(e:Kp H H'):TchD H' tl n rg:=by
 obtain⟨tv,h1,h2,h3⟩:=a.ex;apply⟨tv,e.lst _ _ h1,h2,λk hk=>?_⟩;obtain⟨u,rl,a1,a2,a3⟩:=h3 k hk;exact⟨u,rl,a1,e.lst _ _ a2,wayQ_kp e a3⟩
structure CutD (H:Hp)(C x:ak)(sp:List Sn)(l:List Nat)(rg:List (Nat×List Stp)):Prop where
 ex:∃(dx c0 tl ol:ak) (ord:List Nat),H x=some (.ins C dx [("first_case",.ref c0),("touched",.ref tl),("order",.ref ol)])∧CsD H c0 (sp.map λz=>(z.l,z.o)) rg∧TchD H tl sp.length rg∧H ol=some (.lst (ord.map λ(i:Nat)=>V.int i))∧ord.Perm l
theorem CutD.same {x:ak}{rg:List (Nat×List Stp)}(a:CutD H C x sp l rg)(e:bC H H'):CutD H' C x sp l rg:=by
 obtain⟨dx,c0,tl,ol,ord,h1,h2,h3,h4,h5⟩:=a.ex;exact⟨dx,c0,tl,ol,ord,e _ _ h1,h2.same e,h3.kp (bC.kp e),e _ _ h4,h5⟩
structure CsE (Hb H:Hp)(c:ak)(bs:List (Int×Int))(rs:List (Nat×List Stp)):Prop where
 ex:∃vb u rl,H c=some (.tup [vb,.ref u])∧IsD H vb (bndP bs)∧Hb u=some (.lst rl)∧dW Hb rl (rs.map wayQ)
theorem CsE.dn {Hb:Hp}{c:ak}{bs:List (Int×Int)}(a:CsE Hb H c bs rs)(e:bC Hb H):CsD H c bs rs:=by
 obtain⟨vb,u,rl,h1,h2,h3,h4⟩:=a.ex;exact⟨vb,u,rl,h1,h2,e _ _ h3,h4.same e⟩
theorem CsE.keep {Hb:Hp}{c:ak}{bs:List (Int×Int)}(a:CsE Hb H c bs rs)(e:kr H H'):CsE Hb H' c bs rs:=by
 obtain⟨vb,u,rl,h1,h2,h3,h4⟩:=a.ex;exact⟨vb,u,rl,e _ _ h1,IsD.keepP e h2 (mG _ _),h3,h4⟩
inductive spInitC (T0:ak)(p0:Pos)(q0:Str)(T1:ak)(p1:Pos)(q1:Str)(C:ak)(vs:List V)(H:Hp)(Q:VK)(_:XK):Prop
 | mk (x dx:ak)(v:V)(b m:Int)(sp:List Sn)(_:vs=[.ref x,v])(_:H x=some (.ins C dx []))(_:IsD H v (jA b m sp))(_:ia b m sp)(_:L2.LamT T0 p0 q0 H)(_:L2.LamT T1 p1 q1 H)(_:∀(l:List Nat) (rg:List (Nat×List Stp)) (H':Hp),(∀a o,a≠T0→a≠T1→a≠x→H a=some o→H' a=some o)→Kp H H'→L2.LamT T0 p0 q0 H'→L2.LamT T1 p1 q1 H'→FR m sp l rg→CutD H' C x sp l rg→Q .non H')
inductive spSpanC (C:ak)(vs:List V)(H:Hp)(Q:VK)(_:XK):Prop
 | mk (x c:ak)(sp:List Sn)(l:List Nat)(rg rs:List (Nat×List Stp))(bs:List (Int×Int))(_:vs=[.ref x,.ref c])(_:CutD H C x sp l rg)(_:CsD H c bs rs)(_:(∀k∈l,k<bs.length))(_:l.length≤40)(_:((∀k∈l,¬((bs.getD k (0,0)).1<(bs.getD k (0,0)).2))→Q .non H))(_:∀k∈l,(bs.getD k (0,0)).1<(bs.getD k (0,0)).2→Q (.int (k:Nat)) H)
inductive spSidesC (C:ak)(vs:List V)(H:Hp)(Q:VK)(_:XK):Prop
 | mk (Hb:Hp)(x c:ak)(k:Nat)(a:Int)(sp:List Sn)(l:List Nat)(rg rs:List (Nat×List Stp))(bs:List (Int×Int))(_:vs=[.ref x,.ref c,.int (k:Nat),.int a])(_:bC Hb H)(_:CutD Hb C x sp l rg)(_:CsD H c bs rs)(_:k<bs.length)(_:bs.length=sp.length)(_:bs.length≤40)(_:∀(L q1 q2:ak) (H':Hp),bC H H'→H L=none→H' L=some (.lst [.ref q1,.ref q2])→CsE Hb H' q1 (fI bs k a) (rg.filter (i6 k))→CsE Hb H' q2 (lR bs k a) (rg.filter (i6 k))→Q (.ref L) H')
theorem ord_perm (h:π.Perm (aJ l.length)):(π.map λi=>l.getD i 0).Perm l:=by
 have e:(aJ l.length).map (λi=>l.getD i 0)=l:=by
  apply List.ext_getElem (by rw[aa,bq]) λi h1 h2=>?_
  rw[List.getElem_map,List.getElem_range,ag,gE h2];rfl
 have:=h.map (λi=>l.getD i 0)
 rwa [e] at this
theorem tm_mod {x:Int}:tm (ts.map (· % b)) x=tm ts x % b:=by
 unfold tm;rw[ag,ag,ar];cases ts[x.toNat]? with
 | none=>exact(Int.zero_emod b).symm
 | some y=>rfl
def kU (b m:Int)(sp:List Sn)(t:List Int):Prop:=t.length=m.toNat∧(∀x∈t,0≤x∧x<b)∧fF b t sp=true
theorem tab_ok {m:Int}{rg:List (Nat×List Stp)}{bs:List (Int×Int)}(N:ia b m sp)(f:FF m sp l rg)(O:OB sp l bs)(x:Fx b l rg bs)(h:SprOk m.toNat sp l S) :
  kU b m sp (tabOf b sp bs m.toNat S)∧∀k,k<sp.length→(bs.getD k (0,0)).1≤jb b (tabOf b sp bs m.toNat S) sp k∧jb b (tabOf b sp bs m.toNat S) sp k≤(bs.getD k (0,0)).2:=by
 have hb:0<b:=by have:=N.b1;lia
 have ht2:=f.acy.nodup.2;have key:=key_pot N f O x (ts:=tabOf b sp bs m.toNat S) (π:=tm (ki sp (lowB bs) m.toNat S)) (λi hi=>h.pot N.ends ht2 (lowB bs) i hi) λk hk=>by
  unfold cR tabOf;rw[tm_mod,tm_mod,pf]
 apply⟨⟨?_,λy hy=>?_,fits_lay (m:=m) λk hk=>?_⟩,key⟩
 ·unfold tabOf ki
  rw[aa,l5 (m:=0),gv]
 ·obtain⟨z,_,rfl⟩:=aL.mp hy
  exact⟨dJ _ ⋯,dv _ hb⟩
 ·have:=key k hk
  have:=(O.lo k hk).2.2;lia
def psC (l:List Nat):List Cse→Nat
 | []=>0
 | c::cs=>fO c.1 l+psC l cs
theorem qq (l:List Nat):∀(cs ds:List Cse),psC l (cs++ds)=psC l cs+psC l ds
 | [],ds=>(Nat.zero_add _).symm
 | c::cs,ds=>by
  show _+psC l (cs++ds)=_+psC l cs+psC l ds;rw[qq l cs ds];lia
structure SrcI (b m:Int)(sp:List Sn)(l:List Nat)(rg:List (Nat×List Stp))(cs:List Cse)(Ts:List (List Int)):Prop where
 ok:∀c∈cs,jC b sp l rg c
 tabs:∀t∈Ts,kU b m sp t
 hold:∀T,fF b T sp=true→(∃t∈Ts,∀k∈l,jb b t sp k=jb b T sp k)∨∃c∈cs,InB (jb b T sp) c.1
 cnt:Ts.length+psC l cs≤fO (sp.map λx=>(x.l,x.o)) l
def szC (l:List Nat):List Cse→Nat
 | []=>0
 | c::cs=>(2 * fO c.1 l - 1)+szC l cs
theorem mx (l:List Nat):∀(cs ds:List Cse),szC l (cs++ds)=szC l cs+szC l ds
 | [],ds=>(Nat.zero_add _).symm
 | c::cs,ds=>by
  show _+szC l (cs++ds)=_+szC l cs+szC l ds;rw[mx l cs ds];lia
section
variable {m:Int}{rg:List (Nat×List Stp)}{cs:List Cse}{Ts:List (List Int)}{c:Cse}
theorem szC_len (hl:∀k∈l,k<sp.length):∀(cs:List Cse),(∀c∈cs,jC b sp l rg c)→cs.length≤szC l cs
 | [],_=>aC _
 | c::cs,h=>by
  have ih:=szC_len hl cs λd hd=>h d (aw _ hd)
  have:=jr (h c ∅).ob hl;show cs.length+1≤2 * fO c.1 l - 1+szC l cs;lia
theorem SrcI.start (N:ia b m sp)(hl:rg.length≤40):SrcI b m sp l rg [(sp.map λx=>(x.l,x.o),rg)] []:=by
 have hb:0<b:=by have:=N.b1;lia
 apply⟨λc hc=>?_,λt h=>rW h ∅,λT hT=> .inr ⟨_,ay.mpr rfl,lay_in hb hT⟩,by show 0+(fO (sp.map λx=>(x.l,x.o)) l+0)≤_;lia⟩;rw[ay.mp hc];exact⟨OB.first N l,λq hq=>hq,hl,λq hq hn=>rW hq hn⟩
theorem SrcI.dead (N:ia b m sp)(f:FF m sp l rg)(I:SrcI b m sp l rg (cs++[c]) Ts){q:Nat×List Stp}(hq:q∈c.2)(hd:jR b c.1 q.2=true):SrcI b m sp l rg cs Ts:=by
 have hb:0<b:=by have:=N.b1;lia
 have C:=I.ok c ∅;apply⟨λd hd=>I.ok d (aM _ hd),I.tabs,λT hT=>?_,by have:=I.cnt;rw[qq] at this;lia⟩
 rcases I.hold T hT with h | ⟨d,h1,h2⟩
 ·exact .inl h
 ·rcases aQ.mp h1 with z | z
  ·exact .inr ⟨d,z,h2⟩
  ·rw[ay.mp z] at h2
   have:=f.few;have m2:=N.m2;rw[dead_none hb C.ob.len h2 ((f.rk q (C.sub q hq)).rg N ⋯)] at hd;cases hd
theorem jC.all (C:jC b sp l rg c)(al:∀q∈c.2,jR b c.1 q.2=false):∀q∈rg,jR b c.1 q.2=false:=λq hq=>by
 by_cases z:q∈c.2
 ·exact al q z
 ·exact C.alive q hq z
theorem SrcI.leaf (N:ia b m sp)(f:FF m sp l rg)(h:SprOk m.toNat sp l S)(I:SrcI b m sp l rg (cs++[c]) Ts)(al:∀q∈c.2,jR b c.1 q.2=false)(fx:∀k∈l,¬((c.1.getD k (0,0)).1<(c.1.getD k (0,0)).2)):SrcI b m sp l rg cs (Ts++[tabOf b sp c.1 m.toNat S]):=by
 have C:=I.ok c ∅;have ht2:=f.acy.nodup.2;have fix:∀k∈l,(c.1.getD k (0,0)).1=(c.1.getD k (0,0)).2:=λk hk=>by
  have:=(C.ob.lo k (ht2 k hk)).2.1;have:=fx k hk;lia
 obtain⟨t1,t2⟩:=tab_ok N f C.ob ⟨fix,C.all al⟩ h;have pc:=jr C.ob ht2;apply⟨λd hd=>I.ok d (aM _ hd),λt ht=>?_,λT hT=>?_,by have:=I.cnt;rw[qq] at this;have e:psC l [c]=fO c.1 l+0:=rfl;rw[av];show Ts.length+1+_≤_;lia⟩
 ·rcases aQ.mp ht with z | z
  ·exact I.tabs t z
  ·rw[ay.mp z];exact t1
 ·rcases I.hold T hT with ⟨t,h1,h2⟩ | ⟨d,h1,h2⟩
  ·exact .inl ⟨t,aM _ h1,h2⟩
  ·rcases aQ.mp h1 with z | z
   ·exact .inr ⟨d,z,h2⟩
   ·rw[ay.mp z] at h2
    apply .inl ⟨_,az _ (ay.mpr rfl),λk hk=>?_⟩;have a1:=t2 k (ht2 k hk);have a2:=h2 k (by rw[C.ob.len];exact ht2 k hk);have a3:=fix k hk;lia
theorem SrcI.cut (N:ia b m sp)(f:FF m sp l rg)(lrg:rg.length≤40)(I:SrcI b m sp l rg (cs++[c]) Ts)(al:∀q∈c.2,jR b c.1 q.2=false){k:Nat}{a:Int}(hk:k∈l)(h1:(c.1.getD k (0,0)).1≤a)(h2:a<(c.1.getD k (0,0)).2) :
  SrcI b m sp l rg (cs++[(fI c.1 k a,rg.filter (i6 k)),(lR c.1 k a,rg.filter (i6 k))]) Ts∧szC l (cs++[(fI c.1 k a,rg.filter (i6 k)),(lR c.1 k a,rg.filter (i6 k))])<szC l (cs++[c]):=by
 have C:=I.ok c ∅;have ht2:=f.acy.nodup.2;obtain⟨o1,o2⟩:=C.cut lrg ht2 al hk h1 h2;apply⟨⟨λd hd=>?_,I.tabs,λT hT=>?_,?_⟩,?_⟩
 ·rcases aQ.mp hd with z | z
  ·exact I.ok d (aM _ z)
  ·rcases aE.mp z with rfl | z
   ·exact o1
   ·rw[ay.mp z];exact o2
 ·rcases I.hold T hT with h | ⟨d,d1,d2⟩
  ·exact .inl h
  ·rcases aQ.mp d1 with z | z
   ·exact .inr ⟨d,aM _ z,d2⟩
   ·rw[ay.mp z] at d2
    by_cases e:jb b T sp k≤a
    ·exact .inr ⟨(lR c.1 k a,rg.filter (i6 k)),∅,inB_one d2 e⟩
    ·exact .inr ⟨(fI c.1 k a,rg.filter (i6 k)),∅,inB_other d2 ⋯⟩
 ·have h0:=I.cnt
  rw[qq] at h0 ⊢;have e:=mE C.ob f.acy.nodup.1 ht2 hk h1 h2;have e1:psC l [c]=fO c.1 l+0:=rfl;have e2:psC l [(fI c.1 k a,rg.filter (i6 k)),(lR c.1 k a,rg.filter (i6 k))]=fO (fI c.1 k a) l+(fO (lR c.1 k a) l+0):=rfl;lia
 ·rw[mx,mx]
  show _+((2 * fO (fI c.1 k a) l - 1)+((2 * fO (lR c.1 k a) l - 1)+0))<_+((2 * fO c.1 l - 1)+0);have p1:=jr o1.ob ht2;have p2:=jr o2.ob ht2;have e:=mE C.ob f.acy.nodup.1 ht2 hk h1 h2;have p1:0<fO (fI c.1 k a) l:=p1;have p2:0<fO (lR c.1 k a) l:=p2;lia
theorem SrcI.less (f:FF m sp l rg)(I:SrcI b m sp l rg (cs++[c]) Ts):szC l cs<szC l (cs++[c]):=by
 have:=jr (I.ok c ∅).ob f.acy.nodup.2;rw[mx];show _<_+((2 * fO c.1 l - 1)+0);lia
end
def CsL (Hb Hc:Hp):List V→List Cse→Prop:=j8 λv c=>∃q,v= .ref q∧CsE Hb Hc q c.1 c.2
theorem CsL.keep {Hb Hd:Hp}(e:kr Hc Hd){cs:List Cse}(h:CsL Hb Hc zs cs):CsL Hb Hd zs cs:=L2.Paired.mapP h λ_ _ ⟨q,a,b⟩=>⟨q,a,b.keep e⟩
theorem Paired.app {α β:Type}{R:α→β→Prop}:∀{xs:List α} {ys:List β} {us:List α} {vs:List β},j8 R xs ys→j8 R us vs→j8 R (xs++us) (ys++vs)
 | _,_,_,_,.nil,h=>h
 | _,_,_,_,.cons r t,h=> .cons r (Paired.app t h)
theorem Paired.len {α β:Type}{R:α→β→Prop}:∀{xs:List α} {ys:List β},j8 R xs ys→xs.length=ys.length
 | _,_,.nil=>rfl
 | _,_,.cons _ t=>sd (· + 1) (Paired.len t)
theorem Paired.snoc_of {α β:Type}{R:α→β→Prop}:∀{ys:List β} {zs:List α} {y:β},j8 R zs (ys++[y])→∃xs x,zs=xs++[x]∧j8 R xs ys∧R x y
 | [],_,_,.cons r .nil=>⟨[],_,rfl,.nil,r⟩
 | _::_,_,_,.cons r t=>by
  obtain⟨xs,x,rfl,a,b⟩:=Paired.snoc_of t;exact⟨_::xs,x,rfl,.cons r a,b⟩
inductive spTabF (T0:ak)(p0:Pos)(q0:Str)(T1:ak)(p1:Pos)(q1:Str)(vs:List V)(H:Hp)(Q:VK)(_:XK):Prop
 | mk (v:V)(b m:Int)(sp:List Sn)(most:Nat)(_:vs=[v,.int (most:Nat)])(_:IsD H v (jA b m sp))(_:ia b m sp)(_:most≤4096)(_:(∀l,jh m.toNat sp l→hW sp l≤4096))(_:L2.LamT T0 p0 q0 H)(_:L2.LamT T1 p1 q1 H)(_:∀(L:ak) (tv:List V) (l:List Nat) (rg:List (Nat×List Stp)) (Ts:List (List Int)) (H':Hp),(∀a o,a≠T0→a≠T1→H a=some o→H' a=some o)→Kp H H'→L2.LamT T0 p0 q0 H'→L2.LamT T1 p1 q1 H'→H' L=some (.lst tv)→dW H' tv (dO id Ts)→FR m sp l rg→(∀t∈Ts,kU b m sp t)→Ts.length≤most→(Ts.length<most∨most=4096→∀T,fF b T sp=true→∃t∈Ts,∀k∈l,jb b t sp k=jb b T sp k)→Q (.ref L) H')
inductive Mrk where
 | leaf (d:Dt)
 | cut (k:Nat) (a:Int)
def mrkD:Mrk→Dt
 | .leaf d=>d
 | .cut k a=> .tup [.str "cut",.int (k:Nat),.int a]
def pre:Tq→List Mrk
 | .leaf d=>[.leaf d]
 | .cut k a x y=> .cut k a::(pre x++pre y)
def stpT:Option (List Tq)→Mrk→Option (List Tq)
 | some s,.leaf d=>some (.leaf d::s)
 | some (x::y::s),.cut k a=>some (.cut k a x y::s)
 | _,_=>none
theorem stp_none:∀(l:List Mrk),l.foldl stpT none=none
 | []=>rfl
 | .leaf _::l=>stp_none l
 | .cut _ _::l=>stp_none l
theorem stp_pre:∀(t:Tq) (s:List Tq),(pre t).reverse.foldl stpT (some s)=some (t::s)
 | .leaf d,s=>rfl
 | .cut k a x y,s=>by
  show(Mrk.cut k a::(pre x++pre y)).reverse.foldl stpT (some s)=_;rw[jK,List.reverse_append,eI,eI,stp_pre y,stp_pre x];rfl
theorem stp_at {l:List Mrk}{r:List Tq}(h:l.foldl stpT (some [])=some r){m:Mrk}{s:List Tq}(hm:l[i]? =some m)(hs:(l.take i).foldl stpT (some [])=some s):∃s',stpT (some s) m=some s'∧(l.take (i+1)).foldl stpT (some [])=some s':=by
 have hi:=(ao.mp hm).1;have e:(l.take (i+1)).foldl stpT (some [])=stpT (some s) m:=by
  rw[aY,hm,eI,hs];rfl
 cases q:stpT (some s) m with
 | some s'=>exact⟨s',rfl,by rw[e,q]⟩
 | none =>
  exfalso;rw[←List.take_append_drop (i+1) l,eI,e,q,stp_none] at h;cases h
def LeafW (d:Dt):Prop:=pl d=true∧∃w x,d= .tup [.str w,x]∧w ≠ "cut"
theorem pl_cut {k:Nat}{a:Int}{x y:Tq}(hx:pl (kZ x)=true)(hy:pl (kZ y)=true):pl (kZ (.cut k a x y))=true:=by
 show pl (.tup [.str "cut",.int (k:Nat),.int a,kZ x,kZ y])=true;simp[pl,pls,hx,hy]
theorem dW.snocD {H:Hp}:∀{ds:List Dt} {zs:List V} {d:Dt},dW H zs (ds++[d])→∃zs' z,zs=zs'++[z]∧dW H zs' ds∧IsD H z d
 | [],_,_,.cons h .nil=>⟨[],_,rfl,.nil,h⟩
 | _::_,_,_,.cons h t=>by
  obtain⟨zs',z,rfl,a,b⟩:=dW.snocD t;exact⟨_::zs',z,rfl,.cons h a,b⟩
def GoodT (R:List (Int×Int)→Dt→Prop):Tq→List (Int×Int)→Nat→Prop
 | .leaf d,bs,_=>R bs d
 | .cut _ _ _ _,_,0=>False
 | .cut k a x y,bs,n+1=>k<bs.length∧(bs.getD k (0,0)).1≤a∧a<(bs.getD k (0,0)).2∧GoodT R x (lR bs k a) n∧GoodT R y (fI bs k a) n
def qO (R:List (Int×Int)→Dt→Prop)(l:List Nat)(c:Cse)(t:Tq):Prop:=∀n,2 ^ n * fO c.1 l≤3 ^ n→GoodT R t c.1 n
theorem oh {f g:Nat→Nat}{k:Nat}:∀(l:List Nat),l.Nodup→k∈l→(∀j∈l,j≠k→f j=g j)→prdN (l.map g) * f k=prdN (l.map f) * g k
 | [],_,hk,_=>rW hk ∅
 | j::l,nd,hk,hh=>by
  rw[bP] at nd;show g j * _ * f k=f j * _ * g k
  by_cases c:j=k
  ·subst c
   have ne:∀i∈l,i≠j:=λi hi z=>nd.1 (z ▸ hi)
   rw[←nk (f:=f) (g:=g) l λi hi=>hh i (aw _ hi) (ne i hi),jU (g j),jU (f j),gR,gR,jU (g j)]
  ·rw[hh j ∅ c,gR,gR,oh l nd.2 ((aE.mp hk).resolve_left λz=>c z.symm) λi hi=>hh i (aw _ hi)]
theorem scale_le {F G f g:Nat}(e:G * f=F * g)(h:3 * g≤2 * f)(hf:0<f):3 * G≤2 * F:=by
 have h1:3 * G * f≤2 * F * f:=by
  rw[gR,e,jU F g,←gR,gR 2 F f,jU F f,←gR];exact Nat.mul_le_mul_right F h
 exact Nat.le_of_mul_le_mul_right h1 hf
theorem prodC_mid {bs:List (Int×Int)}{k:Nat}{a:Int}(O:OB sp l bs)(nd:l.Nodup)(hl:∀k∈l,k<sp.length)(hk:k∈l)(h:(bs.getD k (0,0)).1<(bs.getD k (0,0)).2)(ha:a=((bs.getD k (0,0)).1+(bs.getD k (0,0)).2) / 2) :
  3 * fO (lR bs k a) l≤2 * fO bs l∧3 * fO (fI bs k a) l≤2 * fO bs l:=by
 have hb:=O.len;have hkl:=hl k hk;have wk1:wdB (lR bs k a) k=(a - (bs.getD k (0,0)).1+1).toNat:=by unfold wdB lR;rw[i9 ⋯,rV rfl]
 have wk2:wdB (fI bs k a) k=((bs.getD k (0,0)).2 - (a+1)+1).toNat:=by unfold wdB fI;rw[i9 ⋯,rV rfl]
 have w0:wdB bs k=((bs.getD k (0,0)).2 - (bs.getD k (0,0)).1+1).toNat:=rfl
 constructor
 ·apply scale_le (oh (f:=wdB bs) (g:=wdB (lR bs k a)) (k:=k) l nd hk λj hj hn=>?_) (by rw[wk1,w0];lia) (by rw[w0];lia)
  have hjl:=hl j hj;unfold wdB lR;rw[i9 ⋯,rT (cx hn)]
 ·apply scale_le (oh (f:=wdB bs) (g:=wdB (fI bs k a)) (k:=k) l nd hk λj hj hn=>?_) (by rw[wk2,w0];lia) (by rw[w0];lia)
  have hjl:=hl j hj;unfold wdB fI;rw[i9 ⋯,rT (cx hn)]
section
variable {R:List (Int×Int)→Dt→Prop}{c c0:Cse}{k:Nat}{a:Int}{x y:Tq}{ms:List Mrk}{cr:List Cse}{d:Dt}{rs':List (Nat×List Stp)}
theorem qO.leaf (h:R c.1 d):qO R l c (.leaf d):=λn _=>by
 cases n <;> exact h
theorem qO.cut (hk:k<c.1.length)(h1:(c.1.getD k (0,0)).1≤a)(h2:a<(c.1.getD k (0,0)).2)(p2:2≤fO c.1 l)(m1:3 * fO (lR c.1 k a) l≤2 * fO c.1 l)(m2:3 * fO (fI c.1 k a) l≤2 * fO c.1 l)
  (gx:qO R l (lR c.1 k a,rs) x) (gy:qO R l (fI c.1 k a,rs') y):qO R l c (.cut k a x y):=λn hn=>by
 cases n with
 | zero=>simp at hn;lia
 | succ n =>
  have key:∀p,3 * p≤2 * fO c.1 l→2 ^ n * p≤3 ^ n:=λp hp=>by
   have h3:2 ^ n * (3 * p)≤2 ^ n * (2 * fO c.1 l):=Nat.mul_le_mul_left _ hp;rw[Nat.pow_succ,Nat.pow_succ,gR] at hn;rw[Nat.mul_left_comm] at h3;lia
  exact⟨hk,h1,h2,gx n (key _ m1),gy n (key _ m2)⟩
def Wn (R:List (Int×Int)→Dt→Prop)(l:List Nat)(c0:Cse)(ms:List Mrk)(cr:List Cse):Prop:=∀F:List Tq,j8 (qO R l) cr F→∃t,ms++F.flatMap pre=pre t∧qO R l c0 t
theorem Wn.start:Wn R l c0 [] [c0]:=λF h=>by
 cases h with
 | cons g r=>cases r;exact⟨_,∅,g⟩
theorem Wn.leaf (h:Wn R l c0 ms (c::cr))(r:R c.1 d):Wn R l c0 (ms++[.leaf d]) cr:=λF hF=>by
 obtain⟨t,e,g⟩:=h (.leaf d::F) (.cons (qO.leaf r) hF);exact⟨t,by rw[←e];simp[pre],g⟩
theorem Wn.cut (h:Wn R l c0 ms (c::cr))(hk:k<c.1.length)(h1:(c.1.getD k (0,0)).1≤a)(h2:a<(c.1.getD k (0,0)).2)(p2:2≤fO c.1 l)(m1:3 * fO (lR c.1 k a) l≤2 * fO c.1 l)(m2:3 * fO (fI c.1 k a) l≤2 * fO c.1 l):Wn R l c0 (ms++[.cut k a]) ((lR c.1 k a,rs)::(fI c.1 k a,rs')::cr):=λF hF=>by
 cases hF with
 | cons gx r =>
  cases r with
  | cons gy r =>
   rename_i x y F;obtain⟨t,e,g⟩:=h (.cut k a x y::F) (.cons (qO.cut hk h1 h2 p2 m1 m2 gx gy) r);exact⟨t,by rw[←e];simp[pre],g⟩
theorem Wn.fin (h:Wn R l c0 ms []):∃t,ms=pre t∧qO R l c0 t:=by
 obtain⟨t,e,g⟩:=h [] .nil;exact⟨t,by rw[←e];simp,g⟩
end
inductive spTreeF (vs:List V)(H:Hp)(Q:VK)(_:XK):Prop
 | mk (L:ak)(ys:List V)(ms:List Mrk)(t:Tq)(_:vs=[.ref L])(_:H L=some (.lst ys))(_:dW H ys (ms.map mrkD))(_:ms=pre t)(_:(∀d,Mrk.leaf d∈ms→LeafW d))(_:ms.length≤10000)(_:∀u H',bC H H'→IsD H' u (kZ t)→Q u H')
end HN
namespace L2
open PySem PySem.W PySem.Spec PyProof.Rows
theorem law_callTs {mb:Str→Option af}{k:Nat}{fa:ak}{sp:Sp}{s₁:aq}
  (KX:K.In s₁.heap) (hns:s₁.heap.Ns bS mg) (hb:s₁.heap.Ns builtinsNs mb) (hbb:∀x:Str,x ≠ "__name__" →mb x=bootBuiltins x) (hlim:s₁.heap.NoLimit) (hg:s₁.gens= #[])
  (hbm:BM mg s₁.heap) (hT:∀T∈Ts,s₁.heap.get? T=some (tabObj #[])) (C:∀T∈Ts,∃c,codeHdIn K c T=true) (nt:noTabs K=true)
  (ha:s₁.heap.get? a=some { cls:= .type "list",data:= .seq vs.toArray }) (hi:IntsAre vs ns) (hl:ns.length≤bo) (hr:iD k callerA)
  (F:∀base:bO,K.In base→base.Ns bS mg→BM mg base→cG P w K mg base CX k fa fd [x] sp) (hbind:∀(s:aq) (u:af),BindsTo s fd ⟨[u],[]⟩ [(x,u)])
  (hsp:∀H:Hp,(∀T∈Ts,H T=some (.tbl #[]))→SqL K H a (ns.map V.int)→sp [.ref a] H (λv _=>v= .bl true) λ_ _ _=>False)
  (hCX:∀H e s',CX [] H s₁ (λ_ _ _=>False) e s'→False) :
  jI (bE P w) callerA (.call (.ref fa) ⟨[.ref a],[]⟩) (λr s'=>r= .ok (.ret (.bool true))∧OldK s₁.heap s'.heap∧s'.os=s₁.os∧AllBare s'.gens) s₁:=by
 have rv:=mX hi;have lenV:=hi.length;have hTK:∀T∈Ts,K.lookup T=none:=λT mT=>by
  cases q:K.lookup T with
  | none=>rfl
  | some o =>
   have e:=KX T o q;rw[hT T mT] at e;cases e;have z:=List.all_eq_true.mp nt (T,tabObj #[]) (mem_of_lookupK q);cases z
 have aT:a ∉ Ts:=λz=>by rw[hT a z] at ha;cases ha
 have isT:∀T∈Ts,isCodeTable s₁.heap T:=λT mT=>by obtain⟨c,C⟩:=C T mT;exact((codeHd_of_K KX C).tab (hT T mT)).isCodeTable
 have core:∀H:Hp,SqL K H a (ns.map V.int)→HOk P w H s₁.heap→(∀T∈Ts,H T=some (.tbl #[]))→(∀b,H b≠none→b ∉ Ts→b=a∧∃o xs,H b=some (.frz o (.lst xs)))→(H a≠none→K.lookup a=none) →
   jI (bE P w) callerA (.call (.ref fa) ⟨[.ref a],[]⟩) (λr s'=>r= .ok (.ret (.bool true))∧OldK s₁.heap s'.heap∧s'.os=s₁.os∧AllBare s'.gens) s₁:=by
  intro H hS hok hHT hA hK;have base_of:∀{b:ak} {o:Obj},s₁.heap.get? b=some o→H b=none→(hidT s₁.heap H).get? b=some o:=λe n=>hidT_get e n
  have no2:∀{b:ak} {o:Obj},s₁.heap.get? b=some o→o≠tabObj #[]→o≠{ cls:= .type "list",data:= .seq vs.toArray }→H b=none:=λ{b o} e d1 d2=>by
   cases q:H b with
   | none=>rfl
   | some u =>
    by_cases hbT:b∈Ts
    ·rw[hT b hbT] at e;cases e;exact rW rfl d1
    ·have e':b=a:=(hA b (by rw[q];simp) hbT).1
     subst e';rw[ha] at e;cases e;exact rW rfl d2
  have nsK:∀{b:ak} {m:Str→Option af},s₁.heap.Ns b m→(hidT s₁.heap H).Ns b m:=λ{b m} ⟨o,es,ep,e,d,r⟩=>⟨o,es,ep,base_of e (no2 e (λz=>by subst z;cases d) (λz=>by subst z;cases d)),d,r⟩
  have hKb:K.In (hidT s₁.heap H):=fun b o e=>base_of (KX b o e) (by
   cases q:H b with
   | none=>rfl
   | some u =>
    by_cases hbT:b∈Ts
    ·rw[hTK b hbT] at e;cases e
    ·have e':b=a:=(hA b (by rw[q];simp) hbT).1
     subst e';rw [hK (by rw [q];simp)] at e;cases e)
  have hM:Mod K mg (hidT s₁.heap H):=⟨hKb,nsK hns,⟨mb,nsK hb,hbb⟩,let ⟨mc,h1,h2⟩:=hlim;⟨mc,nsK h1,h2⟩⟩;have hBM:BM mg (hidT s₁.heap H):=by
   obtain⟨bm,ob,b1,b2,b3,b4,b5,b6,b7⟩:=hbm;exact⟨bm,ob,b1,b2,b3,base_of b4 (no2 b4 (λz=>by subst z;cases b5) (λz=>by subst z;cases b7)),b5,b6,b7⟩
  have e0:Env0 P w K mg (hidT s₁.heap H) callerA [] s₁ H:=⟨rfl,hM,λb o e=>of_hidT e,Nat.le_of_eq (hidT_size _ _),trivial,λb hb=>rW (show b∈([]:List ak) from hb) ∅,hok,.of_eq hg⟩;apply codeAny_mono ((F _ hKb (nsK hns) hBM).run callerA [] s₁ H ⟨[.ref a],[]⟩ [.ref a] [.ref a] _ _ hr e0 (hbind s₁ (.ref a)) (.cons rfl .nil) (hsp H hHT hS)) λr s' h=>?_
  cases r with
  | error e=>exact(hCX H e s' h).elim
  | ok fl =>
   cases fl with
   | next=>exact cX h
   | brk=>exact cX h
   | cont=>exact cX h
   | ret u =>
    obtain⟨v,H',os,bare,un,hok',r',q⟩:=h;have q':v= .bl true:=q;subst q';obtain rfl:u=af.bool true:=r';have tT:∀T∈Ts,∃more,s'.heap.get? T=some (tabObj (#[]++more)):=λT mT=>by
     obtain⟨more,eT⟩:=un.tbls T _ (hHT T mT);exact⟨more,hok' T _ eT⟩
    have stay:∀b o,s₁.heap.get? b=some o→b ∉ Ts→s'.heap.get? b=some o:=λb o e hbT=>by
     cases q:H b with
     | none=>exact un.keep b o e q (by intro z;exact rW (show b∈([]:List ak) from z) ∅) ∅
     | some u =>
      obtain⟨_,ob,xs,z⟩:=hA b (by rw[q];simp) hbT;have z2:=un.frzs b ob _ z;obtain⟨e1,_⟩:=hok b _ z;obtain⟨e2,_⟩:=hok' b _ z2;rw[e] at e1;cases e1;exact e2
    apply⟨rfl,⟨λb o e=>?_,λb o e=>?_⟩,os,bare⟩
    ·by_cases hbT:b∈Ts
     ·rw[hT b hbT] at e;cases e
      obtain⟨more,tb⟩:=tT b hbT;exact .inr (.inl ⟨isT b hbT,rfl,#[],more,rfl,tb⟩)
     ·exact .inl (stay b o e hbT)
    ·by_cases hbT:b∈Ts
     ·obtain⟨more,tb⟩:=tT b hbT;exact⟨_,tb⟩
     ·exact⟨o,stay b o e hbT⟩
 cases hk:K.lookup a with
 | some o =>
  have e:=KX a o hk;rw[ha] at e;cases e;apply core (λb=>if b∈Ts then some (.tbl #[]) else none) (.inr ⟨_,vs.toArray,_,hk,rfl,rfl,rfl,by rw[aG,lenV];exact hl,by simpa using rv⟩) (λb u z=>?_) (λT mT=>rV mT) (λb z hb=>rW (rT hb) z) λz=>rW (rT aT) z
  by_cases hb:b∈Ts
  ·have z':=(rV hb).symm.trans z
   cases z';exact hT b hb
  ·have z':=(rT hb).symm.trans z
   cases z'
 | none =>
  apply core (λb=>if b∈Ts then some (.tbl #[]) else if b=a then some (.frz { cls:= .type "list",data:= .seq vs.toArray } (.lst (ns.map V.int))) else none) (.inl (.inr ⟨{ cls:= .type "list",data:= .seq vs.toArray },(rT aT).trans (rV rfl)⟩)) (λb u z=>?_) (λT mT=>rV mT) (λb z hb=>?_) λ_=>hk
  ·by_cases hb:b∈Ts
   ·have z':=(rV hb).symm.trans z
    cases z';exact hT b hb
   ·have z:=(rT hb).symm.trans z
    by_cases hb:b=a
    ·have z':=(rV hb).symm.trans z
     cases z';subst hb;exact⟨ha,by rw[aa];exact hl,vs,_,rv,ha⟩
    ·have z':=(rT hb).symm.trans z
     cases z'
  ·by_cases hba:b=a
   ·exact⟨hba,_,_,(rT hb).trans (rV hba)⟩
   ·exact rW ((rT hb).trans (rT hba)) z
theorem walk_ofTs {l:PySem.W.OpenLaw}{k:Nat}{q:aV}{d:DefRec}{K:Params→ai}{CX:bG→CXT}{sp:bG→Sp}
  (hn:l.most=some n) (hn2:n≤bo) (hdf:d.params.defaults=[]) (hr:iD k callerA)
  (hY:∀(w:bG) (h:bO),YP w h→(K w.params).In h∧∀T∈Ts,h.get? T=some (tabObj #[])) (C:∀w:bG,∀T∈Ts,∃c,codeHdIn (K w.params) c T=true) (nt:∀w:bG,noTabs (K w.params)=true)
  (F:∀ (w:bG) (mg:Str→Option af) (fa:ak) (h:bO),(K w.params).In h→h.Ns bS mg→mg d.name=some (.ref fa) →
   ∃fd:bh,(∀(s:aq) (u:af),BindsTo s fd ⟨[u],[]⟩ [(x,u)]) ∧
    ∀ base:bO,(K w.params).In base→base.Ns bS mg→BM mg base→cG l.prog w (K w.params) mg base (CX w) k fa fd [x] (sp w))
  (hsp:∀(w:bG) (H:Hp) (a:ak) (ns:List Int),ns.length≤n→(∀T∈Ts,H T=some (.tbl #[]))→SqL (K w.params) H a (ns.map V.int)→sp w [.ref a] H (λv _=>v= .bl true) λ_ _ _=>False)
  (hCX:∀(w:bG) (H:Hp) (s:aq) (e:af) (s':aq),CX w [] H s (λ_ _ _=>False) e s'→False) :
  PySem.W.WalkO q loose XP YP l.row.toRowW d [] (λf vs=>PySem.call f vs):=by
 apply Att.attach_call hn hdf λw s₀ s₁ mg mb fa o pm cd doc a vs ns G Y ho hd hcd hmg hobj hints hlen hg=>?_
 obtain⟨KX,hT⟩:=hY w _ Y;obtain⟨fd,hb,hF⟩:=F w mg fa _ KX G.T.g hmg;have hbm:BM mg s₁.heap:=by
  obtain⟨bm,ob,b1,b2,b3,b4,b5,b6⟩:=G.T.bmain;apply⟨bm,ob,b1,b2,λq=>?_,b3,b4,b5,b6⟩;obtain⟨o,es,ep,e,hd,_⟩:=G.T.g;rw[q,e] at b3;cases b3;rw[hd] at b6;cases b6
 exact law_callTs KX G.T.g G.T.b G.T.builtins G.T.nolimit hg hbm hT (C w) (nt w) hobj hints (bj hlen hn2) hr hF hb (λH hO hS=>hsp w H a ns hlen hO hS) λH e s'=>hCX w H s₁ e s'
theorem sorted_keyT {r q:ak}{ws:List af}(hl0:IsTup s.heap r ws.toArray)(h64:ws.length<64)
  (h:∀ (g h1:bO) (D kS:ak) (e1:Nat),(∀ b o,s.heap.get? b=some o→g.get? b=some o)→(∀ b o,g.get? b=some o→h1.get? b=some o)→g.objs.size≤D→D<kS→h1.get? D=some (bM "list" #[] e1)→h1.get? kS=some (bM "list" #[] 0) →
   KeyDo prog w A.in1.in1 (.ref q) ws kS D e1 (fun t'=>Q (.ref D) t') { s with heap:=h1 }) :
  bc (bE prog w) A (call (.builtin "sorted") [.ref r] [(dt "key",.ref q)]) Q E s:=by
 obtain⟨ob,ho,hc,n,hd⟩:=hl0;apply call_function_entry_kw kind_sorted plain_sorted entry_sorted (ksk_s1 _ _) ?_;unfold fg.«sorted»;apply ah (m:=checkCount "sorted" 1 1 _) (aP ?_);apply ah (wpAny_collect_seq r (.inr rfl) ho hc hd (λh' hk=>?_) (by rw[aG,fM];lia));rw[show ws.toArray.toList=ws by simp];apply ah (wpAny_newList ?_ (by rw[fM];lia));have hoL:(h'.push (bM "list" ws.toArray 0)).get? h'.objs.size=some (bM "list" ws.toArray 0):=aW _ rfl;show bc _ _ _ _ _ { s with heap:=h'.push (bM "list" ws.toArray 0) };apply ah (eu (wpAny_call_entry_kw slot_list_sort ⟨_,hoL,rfl⟩ entry_list_sort ?body (ksk_l1 _ _)))
 case body =>
  show bc (bE prog w) A.in1.in1 (fg.«list.sort» ⟨[.ref h'.objs.size],[(dt "key",.ref q)]⟩) _ _ _;rw[ksk_t1];apply key_tree (s:={ s with heap:=h'.push (bM "list" ws.toArray 0) }) hoL ⋯ λe1 g1 g2=>?_
  have K:=h h' (kJ (h'.push (bM "list" ws.toArray 0)) h'.objs.size ws) h'.objs.size ((h'.push (bM "list" ws.toArray 0)).objs.size+1) e1 hk ?_ (aC _) (by rw[size_push'];exact iU (ka _)) g1 g2
  ·obtain⟨J,j0,jc,je⟩:=K
   apply⟨J,j0,jc,λks t' x1 x2=>?_⟩;obtain⟨y1,κ,lt,y2,y3,y4,y5⟩:=je ks t' x1 x2;exact⟨y1,κ,lt,y2,y3,y4,λp p1 p2=>⟨_,rfl,aP ⟨_,rfl,y5 p p1 p2⟩⟩⟩
  ·exact λb o e=>mid_keep (bL (aO e)) (au _ e)
theorem its_at:∀{ns:List Int} {its:List af} {i:Nat} {x:af},gw (ns.map V.int) its→its[i]? =some x→∃t,x= .int (ns.getD i 0) t
 | [],_,_,_,.nil,e=>by simp at e
 | n::ns,_,0,_,.cons r _,e=>by
  cases e;exact r
 | n::ns,_,i+1,_,.cons _ rs,e=>its_at (ns:=ns) (i:=i) rs e
def SortTQ (P:ak)(lp:Pos)(lq:Str)(js:List Nat)(te:TE)(σ:St)(Q:VK)(v:V)(H1:Hp):Prop:=∃(r:ak) (ns:List Int) (key:Nat→Int×Int),v= .ref r∧H1 r=some (.tup (ns.map V.int))∧ns.length<64∧LamT P lp lq H1∧((aJ ns.length).map key).Nodup ∧
 (∀i:Nat,i<ns.length→∀H2,Tb P H1 H2→te (some (.int (ns.getD i 0))::dB σ js) H2 λu H3=>bC H2 H3∧∃a,u= .ref a∧H3 a=some (.tup [.int (key i).1,.int (key i).2])) ∧
 ∀(D:ak) (H4:Hp) (π:List Nat),Tb P H1 H4→LamT P lp lq H4→H4 D=none→π.Perm (aJ ns.length)→π.Pairwise (λi j=>ltP (key i) (key j)=true)→Q (.ref D) (upd H4 D (.lst (π.map λ(i:Nat)=>V.int (ns.getD i 0))))
def tSortT (P:ak)(lp:Pos)(lq:Str)(tr:TE)(js:List Nat)(te:TE):TE:=λσ H Q=>tr σ H λv H1=>SortTQ P lp lq js te σ Q v H1
def SortT1 (P:ak)(lp:Pos)(lq:Str)(js:List Nat)(te:TE)(σ:St)(Q:VK):List V→Hp→Prop
 | [v],H1=>SortTQ P lp lq js te σ Q v H1
 | _,_=>False
theorem pe_sortT {tr:TE}{p kp:Pos}{c P:ak}(hc:X.calm=true)(hrm:X.A.depth<j5)(hg:Gl X "sorted")(hm:X.mg "sorted" =none)(hi:PE X re tr)
  (hd:defaultsOf params X.env=([],[])) (mN:X.env.code= .ref c) (C:codeHdIn X.K c P=true) (B:BM X.mg X.base)
  (hbind:∀q cl pm cdv ct (u:af),bindArgs (kla_fn "<lambda>" q params body scope cl pm cdv ct) ⟨[u],[]⟩=gf [(x,u)])
  (hk:scope.kind= .function) (hco:scope.isCoroutine=false) (hgen:scope.isGenerator=false) (jd:∀y∈scope.names,y.2≠ .cell) (hx:scope.names.lookup x=some .local) (hfx:x ∉ fr)
  (hfr:∀y∈scope.names,y.2= .free→X.env.scope.names.lookup y.1=some .cell) (hjs:js.map (λj=>X.N[j]?)=fr.map some) (hfv:∀y∈fr,scope.names.lookup y=some .free)
  (hb:∀cl L f cd s' H',PE (cxLam X (X.env.qual ++ "<lambda>") scope cl L f cd (x::fr) s' H') body te)
  (he:gg pos (bD [re] X.env)=(false,eG re X.env)::gg pos (bD [] X.env):=by rfl)
  (hs:bD [re] X.env=(false,eG re X.env)::bD [] X.env:=by rfl) (hpl:(gg pos (bD [re] X.env)).any (·.1)=false:=by rfl) :
  PE X (.Call (.Name "sorted" p) [re] [⟨some "key",.Lambda params body scope lp,kp⟩] pos) (tSortT P lp (X.env.qual ++ "<lambda>") tr js te):=by
 intro aR s σ H Q I h;apply eV (lT I hg hm (u:= .builtin "sorted") (by trivial) ?_);apply callWith_kw (kws:=[⟨some "key",.Lambda params body scope lp,kp⟩]) (thn ((ae hi aA hs) pos aR s σ H (SortT1 P lp (X.env.qual ++ "<lambda>") js te σ Q) I h) λus s1 ⟨vs,H1,I1,r1,q0⟩=>?_) he hpl;apply kws_cons ?_;obtain⟨v,rfl⟩:∃v,vs=[v]:=by
  cases vs with
  | nil=>exact q0.elim
  | cons v r=>cases r with
   | nil=>exact⟨v,rfl⟩
   | cons _ _=>exact q0.elim
 have q1:SortTQ P lp (X.env.qual ++ "<lambda>") js te σ Q v H1:=q0;obtain⟨r,ns,key,rfl,hr,h64,T,hnd,hkey,hQ⟩:=q1;obtain rfl:us=[.ref r]:=by
  cases r1 with
  | cons ru rs =>
   cases rs;exact sd (λz=>[z]) ru
 apply lam_make (body:=body) I1 hd mN C B hfr T λf cl H2 s2 I2 tb T2 F2 c1 c2=>?_
 apply kws_nil ?_;show bc _ _ (call (.builtin "sorted") [.ref r] [(dt "key",.ref f)]) _ _ _;have rP:r≠P:=λz=>by
  rcases T with T | ⟨_,T,_⟩ <;> rw[←z,hr] at T <;> cases T
 obtain⟨its,rv,ht,_⟩:=I2.tuple (SqT.of (K:=X.K) (tb r _ rP hr));have lits:its.length=ns.length:=by rw[←rv.length,aa]
 apply sorted_keyT ht ⋯ λg h1 D kS e1 hg hkeep hD hDk gD gK=>?_
 have I2:Inv X aR σ H2 { s2 with heap:=g }:=I2.kept (t':=s2.toks) hg;have I3:Inv X aR σ H2 { s2 with heap:=h1 }:=I2.kept (t':=s2.toks) hkeep;have old:∀b o,g.get? b=some o→b≠D∧b≠kS:=λb o e=>⟨bL (aU (aO e) hD),bL (jV (aU (aO e) hD) hDk)⟩
 have hDs:=aO gD;have hKs:=aO gK;have frD:H2 D=none:=I2.hok.fresh hD;have frK:H2 kS=none:=I2.hok.fresh (jf (b9 hD hDk));have cc:∀y d,X.env.cells.lookup y=some d→d≠D∧d≠kS:=λy d e=>by obtain⟨v,o,ho,_⟩:=I2.cell y d e;exact old d o ho
 have pp:∀z∈X.pn++aR,z.1≠D∧z.1≠kS:=λz hz=>old _ _ (I2.pin z hz).1
 have nl:g.objs.size≤kS:=jf (b9 hD hDk);have I4:Inv X ((kS,bM "list" #[] 0)::(D,bM "list" #[] e1)::aR) σ H2 { s2 with heap:=h1 }:=I3.pins_of λz hz=>by
  rcases aE.mp hz with rfl | hz
  ·exact⟨gK,frK,df (aU I2.lt nl),I2.nofs nl,λv z=>by cases z⟩
  ·rcases aE.mp hz with rfl | hz
   ·exact⟨gD,frD,df (aU I2.lt hD),I2.nofs hD,λv z=>by cases z⟩
   ·exact I3.pin z (az _ hz)
 apply keyDo_of (num:=λi=>ns.getD i 0) (key:=key) I4 lits h64 (λi x e=>its_at rv e) (bj I2.sz nl) (bj I2.sz hD) (λy d e=>(cc y d e).2) (λy d e=>(cc y d e).1) (λz hz=>(pp z hz).2) (λz hz=>(pp z hz).1) (df hDk) hnd ?_ ?_
 ·intro t H' pins' i tk hi' I' S'
  apply cy (lam_call (v:= .int (ns.getD i 0)) I' hc hrm (F2.same S') ⟨_,rfl⟩ (λpm cdv ct=>hbind _ _ _ _ _ _) hk hco hgen jd hx hfx c1 c2 hfr hjs hfv (λL cd s' H'=>hb cl L f cd s' H') (hkey i hi' H' (tb.trans S'.tb))) (λk t' ⟨v,H'',I'',rv,S'',a,ev,ea⟩=>?_) λ_ _ z=>z
  subst ev;obtain rfl:k= .ref a:=rv;exact⟨a,H'',I'',S'',rfl,ea⟩
 ·intro t H' π S' hD' I' pm pw
  exact⟨.ref D,_,I',rfl,hQ D H' π (tb.trans S'.tb) (T2.same S') hD' pm pw⟩
def ptF (H:Hp)(fz:ak→Option Obj):Hp:=λb=>match fz b with | some o=>some (.frz o (.own 0)) | none=>H b
def ctF (H:Hp)(fz:ak→Option Obj):Hp:=λb=>match fz b with | some _=>none | none=>H b
def Fz (fz:ak→Option Obj)(H:Hp):Prop:=∀b o,fz b=some o→H b=some (.frz o (.own 0))
section
variable {b:ak}{o:Obj}{fs:List ak}
theorem qk (e:fz b=some o):ptF H fz b=some (.frz o (.own 0)):=by unfold ptF;rw[e]
theorem iA (e:fz b=none):ptF H fz b=H b:=by unfold ptF;rw[e]
theorem rJ (e:fz b=some o):ctF H fz b=none:=by unfold ctF;rw[e]
theorem iC (e:fz b=none):ctF H fz b=H b:=by unfold ctF;rw[e]
theorem Fz.out (F:Fz fz H){u:HO}(e:H b=some u)(n:∀o,u≠ .frz o (.own 0)):fz b=none:=by
 cases q:fz b with
 | none=>rfl
 | some o=>rw[F b o q] at e;cases e;exact rW rfl (n o)
theorem Fz.cut (F:Fz fz H){u:HO}(e:H b=some u)(n:∀o,u≠ .frz o (.own 0)):ctF H fz b=some u:=by rw[iC (F.out e n)];exact e
theorem HOk.cut (hok:HOk P w H h)(F:Fz fz H):HOk P w (ctF H fz) h:=λa o e=>by
 cases q:fz a with
 | some o'=>rw[rJ q] at e;cases e
 | none =>
  rw[iC q] at e;exact(hok a o e).stay (λ_ _ _ e=>e) (λb e'=>F.cut e' (λ_ z=>by cases z)) λb xs e'=>F.cut e' (λ_ z=>by cases z)
theorem HOk.ptF (hok:HOk P w H h)(N:∀b o,fz b=some o→H b=none)(G:∀b o,fz b=some o→h.get? b=some o):HOk P w (ptF H fz) h:=λa o e=>by
 cases q:fz a with
 | some o' =>
  rw[qk q] at e;cases e;exact⟨G a o' q,_,G a o' q⟩
 | none =>
  rw[iA q] at e;have out:∀b u,H b=some u→fz b=none:=λb u e'=>by
   cases q':fz b with
   | none=>rfl
   | some o'=>rw[N b o' q'] at e';cases e'
  exact(hok a o e).stay (λ_ _ _ e=>e) (λb e'=>by rw[iA (out b _ e')];exact e') λb xs e'=>by rw[iA (out b _ e')];exact e'
theorem Un.thaw (u:Un fs [] (ptF H fz) H' h h')(N:∀b o,fz b=some o→H b=none)(hok:HOk P w H' h')(G:∀b o,fz b=some o→h.get? b=some o):Un fs [] H (ctF H' fz) h h':=by
 have F:Fz fz H':=λb o e=>u.frzs b o _ (qk e)
 have out:∀b u,H b=some u→fz b=none:=λb u e'=>by
  cases q':fz b with
  | none=>rfl
  | some o'=>rw[N b o' q'] at e';cases e'
 have same:∀b o ob,fz b=some o→h.get? b=some ob→h'.get? b=some ob:=λb o ob q e=>by
  have e1:=G b o q;rw[e] at e1;cases e1;exact(hok b _ (F b _ q)).1
 apply⟨λb o e n hf hx=>?_,λb o e n hf hx=>?_,λb o e n hx=>?_,u.there,λb xs e=>?_,λb o x e=>?_,λb ps e=>?_⟩
 ·cases q:fz b with
  | some o'=>exact same b o' o q e
  | none=>exact u.keep b o e (by rw[iA q];exact n) hf hx
 ·cases q:fz b with
  | some o'=>exact⟨o.slots,same b o' o q e⟩
  | none=>exact u.slot b o e (by rw[iA q];exact n) hf hx
 ·cases q:fz b with
  | some o'=>exact rJ q
  | none=>rw[iC q];exact u.free b o e (by rw[iA q];exact n) hx
 ·have q:=out b _ e
  rw[iC q];exact u.tups b xs (by rw[iA q];exact e)
 ·have q:=out b _ e
  rw[iC q];exact u.frzs b o x (by rw[iA q];exact e)
 ·have q:=out b _ e
  rw[iC q];exact u.tbls b ps (by rw[iA q];exact e)
theorem Un.froze (u:Un fs [] (ctF H fz) H' h h')(F:Fz fz H):Un fs [] H (ptF H' fz) h h':=by
 have out:∀b,H b=none→fz b=none:=λb n=>by
  cases q:fz b with
  | none=>rfl
  | some o=>rw[F b o q] at n;cases n
 apply⟨λb o e n hf hx=>u.keep b o e (by rw[iC (out b n)];exact n) hf hx,λb o e n hf hx=>u.slot b o e (by rw[iC (out b n)];exact n) hf hx,λb o e n hx=>?_,u.there,λb xs e=>?_,λb o x e=>?_,λb ps e=>?_⟩
 ·rw[iA (out b n)];exact u.free b o e (by rw[iC (out b n)];exact n) hx
 ·have q:=F.out e (λ_ z=>by cases z)
  rw[iA q];exact u.tups b xs (by rw[iC q];exact e)
 ·cases q:fz b with
  | some o'=>rw[F b o' q] at e;cases e;exact qk q
  | none=>rw[iA q];exact u.frzs b o x (by rw[iC q];exact e)
 ·have q:=F.out e (λ_ z=>by cases z)
  rw[iA q];exact u.tbls b ps (by rw[iC q];exact e)
end
structure Clo (cl:List (Str×ak))(fz:ak→Option Obj)(fr:List Str)(ws:List V):Prop where
 all:∀x c,cl.lookup x=some c→∃o,fz c=some o
 cell:∀c o,fz c=some o→∃v,o.data= .cell v
 inj:∀a b c,cl.lookup a=some c→cl.lookup b=some c→a=b
 val:∀(i:Nat) y v,fr[i]? =some y→ws[i]? =some v→∃c o u,cl.lookup y=some c∧fz c=some o∧o.data= .cell (some u)∧gQ v u
 len:ws.length=fr.length
structure LmOk (P:aV)(w:bG)(K:ai)(mg:Str→Option af)(base:bO)(k:Nat)(f:ak)(Hf:Hp→Prop)(sp:Sp):Prop where
 isFn:∀H h,Hf H→HOk P w H h→FnAt f h
 run:∀(A:bY) (outer:List Env) (s:aq) (H:Hp) (u:af) (v:V) (Q:VK),iD k A→Env0 P w K mg base A outer s H→Hf H→gQ v u→sp [v] H Q E0→jI (bE P w) A (.call (.ref f) ⟨[u],[]⟩) (CR CX0 outer P w H s Q E0) s
def cxLm (P:aV)(w:bG)(K:ai)(mg:Str→Option af)(base:bO)(q:Str)(scope:fN)(cl:List (Str×ak))(L f:ak)(cd:af)(N:List Str)(A:bY)(outer:List Env)(s:aq)(H:Hp):Cx :=
 { prog:=P,w:=w,K:=K,mg:=mg,base:=base,A:=A.deeper (envX q scope L f cd cl),N:=N,s₀:=s,H₀:=H,env:=envX q scope L f cd cl,outer:=outer,stack:=envX q scope L f cd cl::outer,ex:=[],calm:=true,fn:=λ_=>false,pn:=[],xe:=λ_ _=>False }
theorem lam_run {k:Nat}{ws:List V}{sp:Sp}
  (hbind:∀u pm cdv ct,bindArgs (kla_fn "<lambda>" q params body scope cl pm cdv ct) ⟨[u],[]⟩=gf [(x,u)])
  (hk:scope.kind= .function) (hco:scope.isCoroutine=false) (hgen:scope.isGenerator=false) (jd:∀y∈scope.names,y.2≠ .cell) (hx:scope.names.lookup x=some .local) (hfx:x ∉ fr)
  (C:Clo cl fz fr ws) (hcl:∀y∈scope.names,y.2= .free→∃c,cl.lookup y.1=some c) (hfv:∀y∈fr,scope.names.lookup y=some .free)
  (hb:∀L cd A outer s' H',iD k (A.deeper (envX q scope L f cd cl))→PE (cxLm P w K mg base q scope cl L f cd (x::fr) A outer s' H') body te)
  (ht:∀v H Q,LamF q params body scope cl f H→Fz fz H→sp [v] H Q E0→te (some v::ws.map some) (ctF H fz) (λy H'=>(∀b o,fz b=some o→H' b=none)→Q y (ptF H' fz))) :
  LmOk P w K mg base (k+1) f (λH=>LamF q params body scope cl f H∧Fz fz H) sp:=by
 apply⟨λH h ⟨⟨pm,cd,ct,e,_⟩,_⟩ hok=>⟨_,_,_,_,(hok f _ e).1⟩,λA outer s H u v Q hr e0 ⟨F,Z⟩ ru hsp=>?_⟩;have ht:=ht v H Q F Z hsp;obtain⟨pm,cd,ct,e,oc,vs,t,ec,hdc,hvc⟩:=F;have ho:s.heap.get? f=some (kla_obj "<lambda>" q params body scope cl pm cd ct):=(e0.hok f _ e).1;have hoc:s.heap.get? cd=some oc:=(e0.hok cd _ ec).1;apply kla_callFunE (by have:=hr.dp;lia) ho rfl hco hgen rfl ⟨cd,oc,vs,t,rfl,hoc,hdc,hvc⟩ ?_;rw[hbind];apply aP (wpAny_newFunctionEnv jd (λy hy=>?_) (λh₁ hns hsb=>⟨?nl,?_⟩) hk)
 ·rw[ay.mp hy];exact hx
 case nl=>exact(e0.mod.nolimit.keeps (λb o e=>(e0.bs b o e).1)).fresh _ hsb
 show jI _ _ (.expr body (envX q scope s.heap.objs.size f (.ref cd) cl)) _ _;have old:∀b o,s.heap.get? b=some o→h₁.get? b=some o:=λb o e=>hsb.extBut b o (bL (aO e)) (au _ e)
 apply kla_codeExpr ?_;have hokc:=HOk.cut e0.hok Z;have cutN:∀b,H b=none→ctF H fz b=none:=λb n=>by
  cases z:fz b with
  | some o=>exact rJ z
  | none=>rw[iC z];exact n
 have ok':(cxLm P w K mg base q scope cl s.heap.objs.size f (.ref cd) (x::fr) A outer s (ctF H fz)).Ok:=by
  apply⟨e0.mod,hk,rfl,rfl,aC _,C.inj,λy hy=>?_,λ_ _ z=>rW z (by intro q;cases q),λ_=>hr.hd,bY.frames_deeper e0.frames,.inr ⟨rfl,rfl⟩,λb hb=>rW (show b∈([]:List ak) from hb) ∅,λb o e=>⟨(e0.bs b o e).1,cutN b (e0.bs b o e).2⟩,e0.bsz,λb o e hb=>rW (show b∈([]:List ak) from hb) ∅,λb hb=>rW (show b∈([]:List ak) from hb) ∅,e0.funs,λb hb=>cutN b (e0.frf b hb)⟩;have hy:scope.names.lookup y=some .cell∨scope.names.lookup y=some .free:=hy
  rcases hy with hy | hy
  ·exact rW rfl (jd _ (cB hy))
  ·exact hcl _ (cB hy) rfl
 have cellAt:∀c o,fz c=some o→h₁.get? c=some o:=λc o z=>old _ _ (e0.hok c _ (Z c o z)).1
 have I1:Inv (cxLm P w K mg base q scope cl s.heap.objs.size f (.ref cd) (x::fr) A outer s (ctF H fz)) [] (some v::ws.map some) (ctF H fz) { s with heap:=h₁,toks:=s.toks+1 }:=by
  apply⟨ok',rfl,e0.bare,Un.kept old,⟨_,hns,λi y v' e1 e2 e3=>?_⟩,λy c e=>?_,hokc.fresh (aC _),λy c e=>?_,λp hp=>rW (show p∈([]:List (ak×Obj)) from hp) ∅,hokc.kept old,?_⟩
  ·cases i with
   | zero =>
    have e1:some x=some y:=e1;have e2:some (some v)=some (some v'):=e2;cases e1;cases e2;exact⟨u,ru,.inl ⟨hx,by show eR x [(x,u)]=_;rw[dM,beq_self_eq_true]⟩⟩
   | succ i =>
    have e1:fr[i]? =some y:=e1;have e2:(ws.map some)[i]? =some (some v'):=e2;rw[ar] at e2;obtain⟨v2,e2,e4⟩:=br.mp e2;cases e4;obtain⟨c,o,u',z1,z2,z3,z4⟩:=C.val i y v' e1 e2;exact⟨u',z4,.inr ⟨.inr (hfv y (bp e1)),c,z1,o,cellAt c o z2,z3⟩⟩
  ·obtain⟨o,z⟩:=C.all y c e
   obtain⟨v',hv'⟩:=C.cell c o z;exact⟨v',o,cellAt c o z,hv'⟩
  ·obtain⟨o,z⟩:=C.all y c e
   exact rJ z
  ·show(some v::ws.map some).length=(x::fr).length
   rw[bf,bf,aa,C.len]
 apply cy (hb _ _ A outer s (ctF H fz) (hr.deeper _) [] _ _ (ctF H fz) _ I1 ht) (λy s' hs=>?_) λ_ _ z=>z.elim
 obtain⟨v',H',J,rv,qv⟩:=hs;have JB:Un (frs outer) [] (ctF H fz) H' s.heap s'.heap:=J.base;have heapAt:∀b o,fz b=some o→s'.heap.get? b=some o:=λb o z=>JB.keep b o (e0.hok b _ (Z b o z)).1 (rJ z) (λhb=>by have:=e0.frf b hb;rw[Z b o z] at this;cases this) ∅
 have freeAt:∀b o,fz b=some o→H' b=none:=λb o z=>JB.free b o (e0.hok b _ (Z b o z)).1 (rJ z) ∅
 exact⟨v',ptF H' fz,J.os,J.bare,Un.froze JB Z,HOk.ptF J.hok freeAt heapAt,rv,qv freeAt⟩
def tLam (i:Nat)(f:ak)(Hf:Hp→Prop)(sp:Sp)(t:TE):TE:=λσ H Q=>σ[i]? =some (some (.ref f))∧Hf H∧t σ H λv H1=>Hf H1∧sp [v] H1 Q E0
theorem pe_callV {k:Nat}{p:Pos}{t:TE}{sp:Sp}(L:LmOk X.prog X.w X.K X.mg X.base k f Hf sp)(hr:iD k X.A)(ha:PE X e t)(hN:X.N[i]? =some x:=by rfl)(hv:Vis X.env.scope x:=by first | exact Or.inl rfl | exact Or.inr (.inl rfl) | exact Or.inr (.inr rfl))
  (hd:(x == ("__debug__" :Str))=false:=by decide) (hcd:(x == ("__classdict__" :Str))=false:=by decide) (he:bD [e] X.env=[(false,eG e X.env)]:=by rfl):PE X (.Call (.Name x p) [e] [] pos) (tLam i f Hf sp t):=by
 intro aR s σ H Q I ⟨h1,h2,h3⟩;apply eV (thn (pe_var hN hv hd hcd aR s σ H (λv H1=>v= .ref f∧H1=H) I ⟨_,h1,rfl,rfl⟩) λu s1 ⟨v,H1,I1,r1,e1,e2⟩=>?_);subst e1;subst e2;cases r1;apply callWith_F (L.isFn _ _ h2 I1.hok) (thn ((ae ha aA he) pos aR s1 σ H1 (λvs H2=>match vs with | [v]=>Hf H2∧sp [v] H2 Q E0 | _=>False) I1 h3) λus s2 ⟨vs,H2,I2,r2,q2⟩=>?_) he rfl
 ·obtain _ | ⟨v,_ | ⟨v',vs⟩⟩:=vs
  ·exact q2.elim
  rotate_left
  ·exact q2.elim
  obtain⟨h4,h5⟩:=q2;obtain⟨u,rfl,ru⟩:=r2.one;apply⟨L.isFn _ _ h4 I2.hok,wpAny_call (codeAny_mono (L.run X.A X.stack s2 H2 u v Q hr I2.env0 h4 ru h5) λr s' hq=>?_)⟩;cases r with
  | error e=>exact cX hq
  | ok fl =>
   cases fl with
   | ret u=>exact I2.after hq
   | next=>exact cX hq
   | brk=>exact cX hq
   | cont=>exact cX hq
def LamE (env:Env)(scope:fN)(cl:List (Str×ak)):Prop:=(∀x c,cl.lookup x=some c→env.cells.lookup x=some c)∧∀y∈scope.names,y.2= .free→cl.lookup y.1=env.cells.lookup y.1
def tLamb (env:Env)(T:ak)(lp:Pos)(params:fH)(body:Expr)(scope:fN):TE:=λ_ H Q=>LamT T lp (env.qual ++ "<lambda>") H∧∀g cl H',Tb T H H'→LamT T lp (env.qual ++ "<lambda>") H'→LamF (env.qual ++ "<lambda>") params body scope cl g H'→LamE env scope cl→Q (.ref g) H'
def tCallZ (env:Env)(scope:fN)(fr:List Str)(js:List Nat)(sp:Sp)(t:TA):TE:=λσ H Q=>t σ H λvs H1=>∃cl ws,LamE env scope cl∧dB σ js=ws.map some∧∀fz,Clo cl fz fr ws→(∀b o,fz b=some o→H1 b=none)→sp vs (ptF H1 fz) (λy H'=>Fz fz H'→Q y (ctF H' fz)) E0
open Classical in
def ow (cl:List (Str×ak))(h:bO):ak→Option Obj:=λb=>if ∃x,cl.lookup x=some b then h.get? b else none
section
variable {σ:List (Option V)}
theorem pe_lam {c T:ak}(hd:defaultsOf params X.env=([],[]))(mN:X.env.code= .ref c)(C:codeHdIn X.K c T=true)(B:BM X.mg X.base)
  (hfr:∀y∈scope.names,y.2= .free→X.env.scope.names.lookup y.1=some .cell):PE X (.Lambda params body scope pos) (tLamb X.env T pos params body scope):=λ_ _ _ _ _ I ⟨L,h⟩ =>
 lam_make I hd mN C B hfr L λf cl H' _ I' t1 T1 F c1 c2=>⟨.ref f,H',I',rfl,h f cl H' t1 T1 F ⟨c1,c2⟩⟩
theorem nM {b:ak}{o:Obj}(e:ow cl h b=some o):(∃x,cl.lookup x=some b)∧h.get? b=some o:=by
 unfold ow at e;split at e
 ·rename_i z;exact⟨z,e⟩
 ·cases e
theorem frzOf_of {b:ak}{o:Obj}(z:cl.lookup x=some b)(e:h.get? b=some o):ow cl h b=some o:=by
 unfold ow;rw[rV ⟨x,z⟩];exact e
theorem Inv.clo {ws:List V}(I:Inv X aR σ H s)(E:LamE X.env scope cl)(hws:dB σ js=ws.map some)(hjs:js.map (λj=>X.N[j]?)=fr.map some)(hfv:∀y∈fr,scope.names.lookup y=some .free)
  (hfr:∀y∈scope.names,y.2= .free→X.env.scope.names.lookup y.1=some .cell):Clo cl (ow cl s.heap) fr ws:=by
 have lens:ws.length=fr.length:=by
  have e:=sd List.length hws;have e2:=sd List.length hjs;unfold dB at e;rw[aa,aa] at e e2;lia
 apply⟨λx c e=>?_,λc o e=>?_,λa b c e1 e2=>I.ok.inj a b c (E.1 a c e1) (E.1 b c e2),λi y v e1 e2=>?_,lens⟩
 ·obtain⟨v,o,ho,_⟩:=I.cell x c (E.1 x c e)
  exact⟨o,frzOf_of e ho⟩
 ·obtain⟨⟨x,hx⟩,ho⟩:=nM e
  obtain⟨v,o',ho',hd⟩:=I.cell x c (E.1 x c hx);rw[ho] at ho';cases ho';exact⟨v,hd⟩
 ·have e3:(dB σ js)[i]? =some (some v):=by rw[hws,ar,e2];rfl
  unfold dB at e3;rw[ar] at e3;obtain⟨j,ej,e3⟩:=br.mp e3;have hN:X.N[j]? =some y:=by
   have q:=sd (λl=>l[i]?) hjs;simp only[ar,ej,e1,gC] at q;exact cE q
  have hσ:σ[j]? =some (some v):=by
   cases z:σ[j]? with
   | none=>rw[z] at e3;cases e3
   | some w=>rw[z] at e3;exact sd some e3
  have hm:=cB (hfv y (bp e1));have hce:X.env.scope.names.lookup y=some .cell:=hfr _ hm rfl;obtain⟨m,_,hl⟩:=I.loc;obtain⟨u',ru',look⟩:=hl j y v hN hσ (.inr (.inl hce))
  rcases look with ⟨k,_⟩ | ⟨_,c,ec,o,ho,hd⟩
  ·have k:X.env.scope.names.lookup y=some .local:=k
   rw[hce] at k;cases k
  ·have ecl:cl.lookup y=some c:=(E.2 _ hm rfl).trans ec
   exact⟨c,o,u',ecl,frzOf_of ecl ho,hd,ru'⟩
theorem pe_callZ {p:Pos}{k:Nat}{sp:Sp}(F:cG X.prog X.w X.K X.mg X.base CX0 k f fd ps sp)(hr:iD k X.A)(hfn:∀x,X.fn x=true)(hg:Gl X x)(hm:X.mg x=some (.ref f))(hk:eY X.K (.ref f)=true)(hb:oA X.K fd ps [])
  (hjs:js.map (λj=>X.N[j]?)=fr.map some) (hfv:∀y∈fr,scope.names.lookup y=some .free) (hfr:∀y∈scope.names,y.2= .free→X.env.scope.names.lookup y.1=some .cell)
  (ha:PA X (e::es) t) (hdb:(x == ("__debug__" :Str))=false:=by decide) (he:bD (e::es) X.env=(false,eG e X.env)::bD es X.env:=by rfl) (hpl:(gg pos (bD es X.env)).any (·.1)=false:=by rfl) :
  PE X (.Call (.Name x p) (e::es) [] pos) (tCallZ X.env scope fr js sp t):=by
 intro aR s σ H Q I h;apply eV (ld_glob I hg hm ?_ hdb);apply kz (h₀:=X.base) I.ok.mod.kin hk (thn (ha pos aR s σ H _ I h) λus s1 ⟨vs,H1,I1,r,q⟩=>⟨I1.kIn,?_⟩) he hpl;obtain⟨cl,ws,LE,hws,q⟩:=q;have C:=I1.clo LE hws hjs hfv hfr;have N:∀b o,ow cl s1.heap b=some o→H1 b=none:=λb o e=>by
  obtain⟨⟨x,hx⟩,_⟩:=nM e;exact I1.freeC x b (LE.1 x b hx)
 have G:∀b o,ow cl s1.heap b=some o→s1.heap.get? b=some o:=λb o e=>(nM e).2
 have up:∀b o,ow cl s1.heap b=some o→X.s₀.heap.objs.size≤b:=λb o e=>by
  obtain⟨⟨x,hx⟩,_⟩:=nM e;exact I1.ok.cab x b (hfn x) (LE.1 x b hx)
 have q:=q _ C N;have hl:us.length=ps.length:=by rw[←r.length];exact F.len _ _ _ _ q
 have e0:Env0 X.prog X.w X.K X.mg X.base X.A X.stack s1 (ptF H1 (ow cl s1.heap)):=by
  have e:=I1.env0;apply⟨e.frames,e.mod,λb o eb=>⟨(e.bs b o eb).1,?_⟩,e.bsz,e.funs,λb hb=>?_,HOk.ptF e.hok N G,e.bare⟩
  ·cases z:ow cl s1.heap b with
   | none=>rw[iA z];exact(e.bs b o eb).2
   | some o' =>
    have h1:=up b o' z;have h2:=aO eb;have h3:=I1.ok.bsz;exact rW (aU h2 (bj h3 h1)) (gj _)
  ·cases z:ow cl s1.heap b with
   | none=>rw[iA z];exact e.frf b hb
   | some o' =>
    exfalso
    rcases aE.mp (I1.stkSub b hb) with el | hb'
    ·obtain⟨v,hv⟩:=C.cell b o' z
     obtain⟨m,⟨o2,es2,ep2,ho2,hd2,_⟩,_⟩:=I1.loc;have e1:=G b o' z;rw[el,ho2] at e1;cases e1;rw[hd2] at hv;cases hv
    ·obtain⟨_,o2,ho2,_⟩:=I1.ok.funs.mem hb'
     have h1:=up b o' z;have h2:=aO ho2;exact rW (aU h2 h1) (gj _)
 apply wpAny_call (codeAny_mono (F.run X.A X.stack s1 _ ⟨us,[]⟩ us vs _ E0 hr e0 (by have:=hb s1 us I1.kIn (by rw[dH];exact hl);rw[dH] at this;exact this) r q) λr' s' hq=>?_);cases r' with
 | error e=>exact cX hq
 | ok fl =>
  cases fl with
  | ret u =>
   obtain⟨v,H',os,bare,un,hok,rv,qv⟩:=hq;have Z:Fz (ow cl s1.heap) H':=λb o e=>un.frzs b o _ (qk e)
   exact I1.after ⟨v,ctF H' (ow cl s1.heap),os,bare,Un.thaw un N hok G,HOk.cut hok Z,rv,qv Z⟩
  | next=>exact cX hq
  | brk=>exact cX hq
  | cont=>exact cX hq
end
end L2
namespace HN
open PySem L2 PyProof.Rows
def TiedBy (sp:List Sn)(L k:Int):Prop:=∃x∈sp,x.o - x.l≤L∧((x.s=k∧0≤x.g∧x.g<k)∨(x.g=k∧0≤x.s∧x.s<k))
def oK (m:Int)(sp:List Sn)(L:Int):Prop:=(∀x∈sp,x.o - x.l≤L)∨∀k,1≤k→k<m→TiedBy sp L k
theorem taken_at {sp:List Sn}{i:Nat}:∀(π:List Nat) (c:List Int×List Nat),i∈(π.foldl (gc sp) c).2→i∈c.2∨∃π1 π2,π=π1++i::π2∧tm (π1.foldl (gc sp) c).1 (sAt sp i).s≠tm (π1.foldl (gc sp) c).1 (sAt sp i).g
 | [],c,h=> .inl h
 | j::π,c,h=>by
  rw[bJ] at h
  rcases taken_at π _ h with h | ⟨π1,π2,rfl,hne⟩
  ·obtain⟨gs,tk⟩:=c
   rcases jD sp gs tk j with ⟨_,e⟩ | ⟨n,e⟩ <;> rw[e] at h
   ·exact .inl h
   ·rcases aQ.mp h with h | h
    ·exact .inl h
    ·rw[ay.mp h]
     exact .inr ⟨[],π,rfl,n⟩
  ·exact .inr ⟨j::π1,π2,rfl,hne⟩
theorem all_met {m:Nat}{sp:List Sn}{L:Int}{gs:List Int}(E:Ends m sp)(meets:∀x∈sp,x.o - x.l≤L→tm gs x.s=tm gs x.g)(ti:∀k:Int,1≤k→k<m→TiedBy sp L k):∀(n:Nat) (k:Int),0≤k→k<m→k.toNat≤n→tm gs k=tm gs 0
 | n,k,k0,k1,kn=>by
  by_cases z:k=0
  ·rw[z]
  ·obtain⟨x,hx,hw,h⟩:=ti k ⋯ k1
   have e:=meets x hx hw
   rcases h with ⟨h1,h2,h3⟩ | ⟨h1,h2,h3⟩
   ·cases n with
    | zero=>lia
    | succ n =>
     rw[h1] at e;rw[e];exact all_met E meets ti n x.g h2 ⋯ ⋯
   ·cases n with
    | zero=>lia
    | succ n =>
     rw[h1] at e;rw[←e];exact all_met E meets ti n x.s h2 ⋯ ⋯
def Cn (L:Int)(sp:List Sn):Prop:=∀gs:List Int,(∀x∈sp,x.o - x.l≤L→tm gs x.s=tm gs x.g)→∀x∈sp,tm gs x.s=tm gs x.g
theorem oK.cn (E:Ends m sp)(N:oK (m:Int) sp L):Cn L sp:=λgs h x hx=>by
 rcases N with N | N
 ·exact h x hx (N x hx)
 ·obtain⟨a0,a1,b0,b1⟩:=E x hx
  rw[all_met E h N _ _ a0 a1 (aC _),all_met E h N _ _ b0 b1 (aC _)]
def GrdL (m:Nat)(sp:List Sn)(l:List Nat):Prop:=∃π,rO sp π∧l.Perm (j7 sp m π).2
theorem GrdL.few (E:Ends m sp)(h:0<m)(a:GrdL m sp l):l.length<m:=by
 obtain⟨π,O,pm⟩:=a;rw[pm.length_eq];exact(Gd.fold E π _ _ (λi hi=>O.lt hi) (Gd.start m sp)).few h
theorem frst_cn (E:Ends m sp)(N:Cn L sp)(F:GrdL m sp l):∀i∈l,i<sp.length∧(oM sp i).1≤L:=by
 obtain⟨π,O,pm⟩:=F;intro i hi;have hi:=pm.mem_iff.mp hi
 rcases taken_at π (ko m,[]) hi with h | ⟨π1,π2,e,h⟩
 ·cases h
 have hil:i<sp.length:=O.lt (by rw[e];simp);apply⟨hil,?_⟩
 by_cases w:(oM sp i).1≤L
 ·exact w
 exfalso;have w:L<(sAt sp i).o - (sAt sp i).l:=by
  have:¬((sAt sp i).o - (sAt sp i).l≤L):=w;lia
 have p1:∀j∈π1,j<sp.length:=λj hj=>O.lt (by rw[e];simp[hj])
 apply h (N _ (λx hx hw=>?_) _ (eD hil));obtain⟨j,hj,ej⟩:=List.getElem_of_mem hx;have ej:sAt sp j=x:=by
  unfold sAt;rw[ag,gE hj];exact ej
 have hjπ:j∈π:=O.1.mem_iff.mpr (bF.mpr hj);have hj1:j∈π1:=by
  rw[e] at hjπ
  rcases aQ.mp hjπ with z | z
  ·exact z
  ·exfalso
   rcases aE.mp z with z | z
   ·rw[z] at ej;rw[ej] at w;lia
   ·have pw:=O.2
    rw[e] at pw;have:=(List.pairwise_cons.mp (List.pairwise_append.mp pw).2.1).1 j z;rw[qw] at this;unfold oM at this;rw[ej] at this;lia
 have:=kQ E π1 (ko m) [] (j6 m) p1 j hj1;rw[ej] at this;exact this
theorem prodW_lim {sp:List Sn}{L:Int}:∀(l:List Nat),(∀i∈l,0≤(oM sp i).1∧(oM sp i).1≤L)→1≤hW sp l∧hW sp l≤(L+1) ^ l.length
 | [],_=>⟨(gk 1:(1:Int)≤1),by show(1:Int)≤(L+1) ^ 0;rw[Int.pow_zero];exact gk 1⟩
 | i::l,h=>by
  obtain⟨a,b⟩:=h i ∅;obtain⟨c,d⟩:=prodW_lim l λj hj=>h j (aw _ hj)
  rw[iH,bf,Int.pow_succ,jg ((L+1) ^ l.length)];apply⟨?_,i7 ⋯ d ⋯ ⋯⟩;have:1 * 1≤((oM sp i).1+1) * hW sp l:=i7 ⋯ c ↥0 ⋯;lia
def jE (m:Int):Int:=([1,1,40,7,4,3,2,2,2]:List Int).getD m.toNat 0
theorem limOf_pos {m:Int}(h0:1≤m)(h1:m≤8):1≤jE m∧jE m≤40:=by
 obtain⟨n,rfl⟩:=cp (by lia:0≤m);exact(by decide:∀n∈aJ 9,1≤jE (n:Nat)∧jE (n:Nat)≤40) n (bF.mpr ⋯)
theorem limOf_pow {k:Nat}(h0:1≤m)(h1:m≤8)(hk:k<m):jE m ^ k≤4096 :=
 (by trivial:∀m∈aJ 9,∀k∈aJ m,jE (m:Nat) ^ k≤4096) m (bF.mpr ⋯) k (bF.mpr hk)
theorem qK {m M:Int}(N:ia b m sp)(c:Cn L sp)(p:∀k:Nat,k<m.toNat→(L+1) ^ k≤M)(F:GrdL m.toNat sp l):1≤hW sp l∧hW sp l≤M:=by
 have m1:=N.m1;have E:=N.ends;have few:=F.few E ⋯;have:=prodW_lim (sp:=sp) (L:=L) l λi hi=>by
  obtain⟨a,c⟩:=frst_cn E c F i hi;apply⟨?_,c⟩;have:=(N.all _ (eD a)).lo;show 0≤(sAt sp i).o - (sAt sp i).l;lia
 exact⟨this.1,gO this.2 (p _ few)⟩
theorem ia.cn {m:Int}(N:ia b m sp)(na:oK m sp L):Cn L sp:=by
 have m1:=N.m1;apply oK.cn N.ends ?_;rw[fm ⋯];exact na
theorem few_cases {m:Int}(N:ia b m sp)(m8:m≤8)(na:oK m sp (jE m - 1)):∀l,jh m.toNat sp l→hW sp l≤4096:=by
 intro l F;have m1:=N.m1;apply(qK N (N.cn na) (λk hk=>?_) F.2).2;rw[show jE m - 1+1=jE m by lia];have p:=limOf_pow (m:=m.toNat) (k:=k) ⋯ ⋯ hk;rw[fm ⋯] at p;exact p
def SnW (b m:Int)(x:Sn):Prop:=SnOk b m x∧x.o<10 ^ 55
structure pJ (b m:Int)(ts:List Int)(L:Int)(kept tied:Bool)(n:Int)(sp:List Sn):Prop where
 all:∀x∈sp,SnW b m x
 fit:kept=true→∀x∈sp,cR b ts x≤x.o - x.l
 nar:tied=false→∀x∈sp,x.o - x.l≤L
 tie:tied=true→∀k,1≤k→k<n→TiedBy sp L k
section
variable {m n:Int}{kept tied:Bool}{x:Sn}
theorem pJ.nil:pJ b m ts L kept tied 1 []:=⟨λ_ h=>rW h ∅,λ_ _ h=>rW h ∅,λ_ _ h=>rW h ∅,λ_ k h1 h2=>by lia⟩
theorem pJ.put (h:pJ b m ts L kept tied n sp)(ok:SnW b m x)(f:kept=true→cR b ts x≤x.o - x.l)(na:tied=false→x.o - x.l≤L)(j:Nat):pJ b m ts L kept tied n (sp.take j++x::sp.drop j):=by
 have mem:∀y,y∈sp.take j++x::sp.drop j→y=x∨y∈sp:=λy hy=>by
  rcases aQ.mp hy with z | z
  ·exact .inr (kh z)
  ·rcases aE.mp z with z | z
   ·exact .inl z
   ·exact .inr (List.mem_of_mem_drop z)
 have back:∀y∈sp,y∈sp.take j++x::sp.drop j:=λy hy=>by
  rw[←List.take_append_drop j sp] at hy
  rcases aQ.mp hy with z | z
  ·exact aM _ z
  ·exact az _ (aw _ z)
 apply⟨λy hy=>?_,λk y hy=>?_,λt y hy=>?_,λt k k1 k2=>?_⟩
 ·rcases mem y hy with rfl | z
  ·exact ok
  ·exact h.all y z
 ·rcases mem y hy with rfl | z
  ·exact f k
  ·exact h.fit k y z
 ·rcases mem y hy with rfl | z
  ·exact na t
  ·exact h.nar t y z
 ·obtain⟨y,hy,w,r⟩:=h.tie t k k1 k2
  exact⟨y,back y hy,w,r⟩
theorem pJ.more (h:pJ b m ts L kept tied n sp)(n1:1≤n)(ok:SnW b m x)(f:kept=true→cR b ts x≤x.o - x.l)(na:x.o - x.l≤L)(e:(x.s=n∧0≤x.g∧x.g<n)∨(x.g=n∧0≤x.s∧x.s<n)):pJ b m ts L kept tied (n+1) (sp++[x]):=by
 have p:=h.put ok f (λ_=>na) sp.length;rw[aX,List.drop_length] at p;apply⟨p.all,p.fit,p.nar,λt k k1 k2=>?_⟩
 by_cases z:k=n
 ·exact⟨x,∅,na,by rw[z];exact e⟩
 ·exact p.tie t k k1 ⋯
theorem pJ.skip (h:pJ b m ts L kept false n sp)(n':Int):pJ b m ts L kept false n' sp:=⟨h.all,h.fit,h.nar,λt=>by cases t⟩
theorem pJ.narrow (h:pJ b m ts L kept tied m sp):oK m sp L:=by
 cases tied with
 | false=>exact .inl (h.nar rfl)
 | true=>exact .inr (h.tie rfl)
theorem pJ.fits (h:pJ b m ts L kept tied n sp)(k:kept=true):fF b ts sp=true:=by
 unfold fF;rw[gM,iL];intro x hx;have:=h.fit k x hx;unfold brk;simp only[decide_eq_true_eq];lia
end
theorem kept_wait {j r l wd:Int}{x:Sn}(hb:1≤b)(w0:0≤wd)(w1:wd<b)(e:l=(tm ts x.g - tm ts x.s - r % (wd+1)) % b+b * j)(el:x.l=l):cR b ts x≤wd:=by
 have r0:=dJ r (by lia:wd+1≠0);have r1:=dv r (by lia:0<wd+1);unfold cR;rw[el,e];generalize r % (wd+1)=q at r0 r1 ⊢;have:(tm ts x.g - tm ts x.s - ((tm ts x.g - tm ts x.s - q) % b+b * j)) % b=q:=by
  rw[show tm ts x.g - tm ts x.s - ((tm ts x.g - tm ts x.s - q) % b+b * j)=(tm ts x.g - tm ts x.s - (tm ts x.g - tm ts x.s - q) % b) - b * j by lia,Int.sub_mul_emod_self_left];rw[Int.sub_emod,Int.emod_emod,←Int.sub_emod,show tm ts x.g - tm ts x.s - (tm ts x.g - tm ts x.s - q)=q by lia,jW r0 ⋯]
 lia
end HN
namespace L2
open PySem PySem.W PySem.Spec PyProof.Rows
def CGrt (i j:Int):Prop:=i.natAbs<10 ^ 1000∧j.natAbs<10 ^ 1000
theorem bits_grt {x:Int}(h:x.natAbs<10 ^ 1000):jY x≤2 ^ 20:=by
 unfold jY;split
 ·exact bK _
 ·rename_i hx
  have h0 : x.natAbs ≠ 0 := fun z => hx (by have e : x = 0 := by lia
                                            rw [e];rfl)
  have h2:=(Nat.log2_lt h0).mpr (jV h (by trivial:10 ^ 1000<2 ^ 10000));have h3:(10000:Nat)+1≤2 ^ 20:=by decide
  lia
theorem ip_mulG:PIp X .Mult (λx y H Q=>∃i j,x= .int i∧y= .int j∧CGrt i j∧Q (.int (i * j)) H):=by
 intro aR s σ H x y v u Q I r1 r2 h;obtain⟨i,j,e1,e2,hc,q⟩:=h;subst e1;subst e2;obtain⟨t,rfl⟩:=r1;obtain⟨t',rfl⟩:=r2;exact imul_int ⟨.int _,H,I.tok _,⟨_,rfl⟩,q⟩ (IntMulOk.of_bits (bits_grt hc.1) (bits_grt hc.2))
end L2
namespace L2
open PySem PySem.Spec PyProof.Rows
def Itvl (K:ai)(a:ak)(n:Nat):It :=
 ⟨λi H=>∃xs x,SqL K H a xs∧xs.length=n∧xs.reverse[i]? =some x,λi H x H'=>H'=H∧∀xs,SqL K H a xs→xs.reverse[i]? =some x,λi _=>i=n⟩
theorem turn_revL (a it:ak)(n:Nat):Turn P w K tg (Itvl K a n) [it] it (λi h=>h.IsRevIter it a ((n:Int) - 1 - (i:Nat))) where
 mem:=by simp
 obj:=λi h st b hb=>by
  have e:b=it:=by simpa using hb
  subst e;obtain⟨o,e,c,d⟩:=st;exact⟨o,e,λv z=>by rw[d] at z;cases z⟩
 keep:=λi h h' st k=>st.at λo e=>k it ∅ o e
 item:=by
  intro X hP hw hK hc i aR s σ H E I hf st hg;subst hP hw hK;obtain⟨xs,x,hq,hn,hx⟩:=hg;obtain⟨its,rv,p,hz⟩:=I.list hq;have hi:i<xs.length:=by
   have:=(ao.mp hx).1;rw[gZ] at this;exact this
  have hx2:=hx;rw[List.getElem?_reverse hi] at hx2;obtain⟨u,hu,ru⟩:=rv.get hx2;obtain⟨f0,f1,f2,f3,f4,f5⟩:=hf it ∅;have e:(n:Int) - 1 - (i:Nat)=((xs.length - 1 - i:Nat):Int):=by lia
  rw[e] at st;apply wpAny_pyNext_rev_item st p.isList (x:=u) (by simpa using hu) λh' st' sb=>?_
  have I1:Inv X aR σ H { s with heap:=h' }:=I.turned (t':=s.toks) (λb o hb e=>(sb.2 b hb).trans e) f0 f1 f3 f4 f5;obtain⟨o,e2,c,d⟩:=id st';have e3:((xs.length - 1 - i:Nat):Int) - 1=(n:Int) - 1 - ((i+1:Nat):Int):=by lia
  rw[e3] at st';exact⟨u,rfl,go_of (s:={ s with heap:=h' }) e2 c d ↥0 ⟨x,H,I1,ru,⟨rfl,λys hy=>by rw[I.list_inj hy hq];exact hx⟩,st',λb hb=>(hf b hb).1⟩⟩
 done:=by
  intro X hP hw hK hc i aR s σ H E I hf st hg;subst hP hw hK;obtain⟨f0,f1,f2,f3,f4,f5⟩:=hf it ∅;have hg:i=n:=hg;have e:(n:Int) - 1 - (i:Nat)= -1:=by lia
  rw[e] at st;exact wpAny_pyNext_rev_end (I.ok.hd hc) st λh' eb=>⟨rfl,I.turned (t':=s.toks) (λb o hb e=>eb b o hb e) f0 f1 f3 f4 f5⟩
 self:=λ_ _ _ _ _ st h=>wpAny_pyIter_revIter st h
def iRevL (K:ai)(ta:TA):TI:=λσ H R=>ta σ H λvs H1=>∃a xs,vs=[.ref a]∧SqL K H1 a xs∧R (Itvl K a xs.length) H1
theorem pi_revL {ta:TA}{p:Pos}(hg:Gl X "reversed")(hm:X.mg "reversed" =none)(ha:PA X [ea] ta)(hs:bD [ea] X.env=[(false,eG ea X.env)]:=by rfl) :
  PI X tg (.Call (.Name "reversed" p) [ea] [] pos) (iRevL X.K ta):=by
 intro aR s σ H R I h;apply Call_ (lT I hg hm boot_reversed (eO (thn (ha pos aR s σ H _ I h) λus s1 z=>?_) hs rfl));obtain⟨vs,H1,I1,r1,q1⟩:=z;obtain⟨a,xs,e,hA,q⟩:=q1;subst e;obtain⟨u1,rfl,r2⟩:=qR r1;cases(show u1=af.ref a from r2);obtain⟨its,rv,pt',hz⟩:=I1.list hA;have hl:=rv.length;apply call_reversed_list pt'.isList ?_;have z1:(s1.heap.push (revObj a ((its.toArray.size:Int) - 1))).IsRevIter s1.heap.objs.size a ((xs.length:Int) - 1 - ((0:Nat):Int)):=by
  apply⟨_,aW _ rfl,rfl,?_⟩;rw[aG,←hl,show(xs.length:Int) - 1 - ((0:Nat):Int)=(xs.length:Int) - 1 by lia];rfl
 apply wpAny_pyIter_revIter (s:={ s1 with heap:=s1.heap.push (revObj a ((its.toArray.size:Int) - 1)) }) z1 ⟨s1.heap.objs.size,[s1.heap.objs.size],_,Itvl X.K a xs.length,H1,rfl,I1.kept (t':=s1.toks) λc o e=>au _ e,turn_revL a _ _,z1,λb hb=>?_,q⟩;have e:b=s1.heap.objs.size:=by simpa using hb
 subst e;exact I1.fpOk (aC _) (I1.hok.fresh (aC _))
theorem for_revL {tb:TS}{D:Ends}(Pv:Nat→St→Hp→Prop)(h0:Pv 0 σ H)(hl:∀i σ H,i≤xs.length→Pv i σ H→SqL K H a xs)
  (hs:∀i x σ H,xs.reverse[i]? =some x→Pv i σ H→g x σ H λσ2 H2=>tb { D with nx:=Pv (i+1),ct:=Pv (i+1),bk:=D.nx } σ2 H2) (hd:∀σ H,Pv xs.length σ H→D.nx σ H) :
  ∃W:Nat→Nat→St→Hp→Prop,(∃m,W 0 m σ H)∧∀i m σ H,W i m σ H →
   ((Itvl K a xs.length).stop i H∧D.nx σ H)∨((Itvl K a xs.length).go i H∧∃N:St→Hp→Prop,(∀σ' H',N σ' H'→∃m',m'<m∧W (i+1) m' σ' H')∧∀x H',(Itvl K a xs.length).yld i H x H'→g x σ H' λσ2 H2=>tb { D with nx:=N,ct:=N,bk:=D.nx } σ2 H2):=by
 apply⟨λi m σ H=>m=xs.length - i∧i≤xs.length∧Pv i σ H,⟨xs.length,∅,bK _,h0⟩,?_⟩;rintro i m σ H ⟨rfl,hi,p⟩;have q:=hl i σ H hi p
 by_cases e:i=xs.length
 ·subst e
  exact .inl ⟨rfl,hd σ H p⟩
 ·have hlt:i<xs.length:=gu hi e
  apply .inr ⟨⟨xs,_,q,rfl,gE (by rw[gZ];exact hlt)⟩,Pv (i+1),λσ' H' p'=>⟨xs.length - (i+1),⋯,rfl,⋯,p'⟩,λx H' hy=>?_⟩;obtain⟨rfl,hx⟩:=hy;exact hs i x σ _ (hx xs q) p
theorem thou_le (h:n≤1001):n≤bo:=bj h ↥0
def min3 (a b c:Int):Int:=if b<a then (if c<b then c else b) else (if c<a then c else a)
theorem min3_le (a b c:Int):min3 a b c≤a∧min3 a b c≤b∧min3 a b c≤c:=by
 unfold min3;split <;> split <;> lia
theorem min3_ge {a c:Int}(h1:z≤a)(h2:z≤b)(h3:z≤c):z≤min3 a b c:=by
 unfold min3;split <;> split <;> lia
theorem call_min3 (hc:X.calm=true):ke X (.builtin "min") (λxs H Q=>∃a b c,xs=[.int a,.int b,.int c]∧Q (.int (min3 a b c)) H):=by
 intro aR s σ H xs us Q I r h;obtain⟨a,b,c,rfl,q⟩:=h;cases r with
 | cons r1 r =>
  obtain⟨u,w',rfl,⟨t2,rfl⟩,⟨t3,rfl⟩⟩:=vals2 r;obtain⟨t1,rfl⟩:=r1;apply min_three_ints (I.ok.hd hc) λh' tk k=>⟨_,H,I.kept k,?_,q⟩
  unfold min3
  by_cases h1:b<a
  ·rw[rV h1,rV h1]
   by_cases h2:c<b
   ·rw[rV h2,rV h2];exact⟨_,rfl⟩
   ·rw[rT h2,rT h2];exact⟨_,rfl⟩
  ·rw[rT h1,rT h1]
   by_cases h2:c<a
   ·rw[rV h2,rV h2];exact⟨_,rfl⟩
   ·rw[rT h2,rT h2];exact⟨_,rfl⟩
inductive rInsert (x:V)(vs:List V)(H:Hp)(Q:VK):Prop
 | mk (l xs k y:_)(_:x= .ref l)(_:vs=[.int k,y])(_:H l=some (.lst xs))(_:xs.length≤1000)(_:0≤k)(_:k≤xs.length)(_:Q .non (upd H l (.lst (xs.take k.toNat++y::xs.drop k.toNat))))
theorem mt_insert:MtM X "list.insert" rInsert:=by
 intro aR s σ H x vs v us Q I rx rv h;obtain⟨l,xs,k,y,rfl,rfl,hH,hz,k0,k1,q⟩:=h;cases rx;obtain⟨u,w',rfl,⟨t,rfl⟩,ru⟩:=vals2 rv;obtain⟨z,its,n,r,hl,e⟩:=I.lstM hH;have hlen:its.length=xs.length:=r.length.symm;have hs:its.toArray.size≤bo:=by rw[aG];exact thou_le ⋯
 have hf:fg.List.listFitsIndex k=true:=by
  unfold fg.List.listFitsIndex;simp only[eh,decide_eq_true_eq]
  constructor <;> lia
 apply ky PySem.F.slot_list_insert ⟨_,e,rfl⟩ PySem.F.entry_list_insert (PySem.F.args_list_insert_3 _ _ _) (PySem.AutoSeq1.list_insert_list_int_val_1 l its.toArray n k t w' (by rw[hf];decide) hs) ⟨e,?_⟩;apply⟨.non,_,I.lset (its':=its.take k.toNat++w'::its.drop k.toNat) hH e ?_ ((r.take _).append (.cons ru (r.drop _))) ?_,rfl,q⟩
 ·show(its.toArray.extract 0 (if k<0 then (k+(its.toArray.size:Int)).toNat else min k.toNat its.toArray.size)).push w'++its.toArray.extract (if k<0 then (k+(its.toArray.size:Int)).toNat else min k.toNat its.toArray.size)=(its.take k.toNat++w'::its.drop k.toNat).toArray
  rw[rT ⋯,aG,Nat.min_eq_left ⋯]
  apply Array.toList_inj.mp ?_
  have ht:(its.drop k.toNat).take (its.length - k.toNat)=its.drop k.toNat:=ig (by rw[d7];lia);simp[ht]
 ·rw[av,bf,bw,d7]
  exact thou_le ⋯
end L2
namespace L2
open PySem PySem.Spec PyProof.Rows
open AutoSeq1 (wpAny_loadPart')
theorem nU (p:ak)(items:Array af)(x:af)(e:af→Bool)(he:∀y,y∈items→PySem.MeetsSeq.EqGives y x (e y))(j:Nat)(hj:j<items.size)(hit:e items[j]=true)(hno:∀m (hm:m<items.size),m<j→e items[m]=false) :
  Meets (fg.«tuple.index» ⟨[.ref p,x],[]⟩) (λ_ R s=>IsTup s.heap p items∧R (.ok (.ret (.int j s.toks))) { s with toks:=s.toks+1 }) :=
 .of_wp λprog w A R s h=>by
  obtain⟨hp,g,d,tk,os⟩:=s;obtain⟨⟨o,ho,hc,n,hd⟩,h⟩:=h
  wp_walk using jH ho
  rw[hd];apply aP (aP ?_)
  dsimp only
  apply ah (aP (ah (aP (ah ?_))));rw[Nat.min_self,Std.Legacy.Range.forIn_eq_forIn_range'];apply wpAny_forIn_list _ (λl b s'=>∃k,l=List.range' k (items.size - k)∧k≤j∧b=(none,())∧s'=⟨hp,g,d,tk,os⟩) _ ?_ ?_ _ _ ?_
  ·rintro i rest b s' ⟨k,hl,hk,rfl,rfl⟩
   have hk2:items.size - k=(items.size - (k+1))+1:=by lia
   rw[hk2,List.range'_succ] at hl;injection hl with h1 h2
   subst h1;have hik:i<items.size:=by lia
   rw[dg hik];apply ah (he _ (Array.getElem_mem hik) prog w _ _ _ _ ?_)
   by_cases hij:i=j
   ·subst hij
    rw[hit,rV rfl]
    wp_walk
    first | exact⟨_,rfl,h⟩ | exact h
   ·rw[hno i hik ⋯,rT aS]
    exact aP ⟨i+1,h2,⋯,rfl,rfl⟩
  ·rintro b s' ⟨k,hl,hk,rfl,rfl⟩
   have hk2:items.size - k=(items.size - (k+1))+1:=by lia
   rw[hk2,List.range'_succ] at hl;cases hl
  ·apply⟨0,?_,bK _,rfl,rfl⟩
   simp[Std.Legacy.Range.size]
inductive rIndexT (K:ai)(x:V)(vs:List V)(H:Hp)(Q:VK):Prop
 | mk (p:ak)(ns:List Int)(k:Int)(i:Nat)(_:x= .ref p)(_:vs=[.int k])(_:SqT K H p (ns.map V.int))(_:ns[i]? =some k)(_:(∀j,j<i→ns[j]? ≠some k))(_:Q (.int (i:Nat)) H)
theorem mt_indexT:MtM X "tuple.index" (rIndexT X.K):=by
 intro aR s σ H x vs v us Q I rx rv h;obtain⟨p,ns,k,i,rfl,rfl,hq,hi,hno,q⟩:=h;cases(show v=af.ref p from rx);obtain⟨u,rfl,ru⟩:=rv.one;obtain⟨t,rfl⟩:=(show ∃t,u=af.int k t from ru);obtain⟨its,r,pl,hz⟩:=I.tuple hq;have hl:its.length=ns.length:=by rw[←r.length,aa]
 have hil:i<ns.length:=(ao.mp hi).1;have at_:∀(m:Nat) (hm:m<its.toArray.size),∃tk,its.toArray[m]=af.int (ns[m]'(by rw[←hl];simpa using hm)) tk:=λm hm=>by
  have hm':m<ns.length:=by rw[←hl];simpa using hm
  obtain⟨u,hu,ru⟩:=r.get (i:=m) (x:=V.int ns[m]) (by rw[ar,gE hm'];rfl);obtain⟨tk,rfl⟩:=(show ∃t,u=af.int ns[m] t from ru);exact⟨tk,by have:=(ao.mp hu).2;simpa using this⟩
 have e0:∀(m:Nat) (hm:m<its.toArray.size),(match its.toArray[m] with | .int y _=>y == k | _=>false)=(ns[m]'(by rw[←hl];simpa using hm) == k):=λm hm=>by
  obtain⟨tk,e⟩:=at_ m hm;rw[e]
 have his:i<its.toArray.size:=by rw[aG,hl];exact hil
 apply ky F.slot_tuple_index ⟨_,pl.choose_spec.1,pl.choose_spec.2.1⟩ F.entry_tuple_index (F.args_tuple_index_2 _ _) (nU p its.toArray (.int k t) (λv=>match v with | .int y _=>y == k | _=>false) (λy hy=>?_) i his ?_ (λm hm hmi=>?_)) ⟨pl,⟨.int (i:Nat),H,I.tok _,⟨_,rfl⟩,q⟩⟩
 ·obtain⟨m,hm,rfl⟩:=Array.getElem_of_mem hy
  obtain⟨tk,e⟩:=at_ m hm;rw[e];exact MeetsSeq.EqGives.int _ _ _ _
 ·rw[e0 i his,beq_iff_eq]
  exact(ao.mp hi).2
 ·rw[e0 m hm,beq_eq_false_iff_ne]
  have hm':m<ns.length:=by rw[←hl];simpa using hm
  intro z;exact hno m hmi (by rw[gE hm',z])
theorem Inv.tupleN (I:Inv X aR σ H s)(h:H a=some (.tup xs)):∃its:List af,gw xs its∧l3 s.heap a its.toArray:=by
 obtain⟨z,its,r,p⟩:=I.hok a _ h;exact⟨its,r,p⟩
def tBMT (r:V→List V→Hp→VK→Prop)(to:TE)(t:TA):TE:=λσ H Q=>to σ H λx H1=>(∃p xs,x= .ref p∧H1 p=some (.tup xs))∧t σ H1 λxs H2=>r x xs H2 Q
theorem pe_bmT {o:Expr}{cpos:Pos}{id:String}(slot:Slot "tuple" name id)(hty:typeOf (.builtin id)=gf (.type "method_descriptor"))(hm:MtR X id r)(ho:PE X o to)(ha:PA X (e::es) t)
  (hbase:attributeBase o name X.env (eG o X.env)=eG o X.env:=by rfl)
  (hfew:((gg cpos (bD (e::es) X.env)).all (λx=> !x.1) && (backToKw cpos (keywordEach [] X.env)).all (λx=>x.1.isSome) && decide ((e::es).length+([]:List Keyword).length+(if ([]:List Keyword).isEmpty then 0 else 1)<30))=true:=by rfl)
  (hline:(apos.endLine == cpos.line)=true:=by rfl) (hs:bD (e::es) X.env=(false,eG e X.env)::bD es X.env:=by rfl) (hplain:(gg cpos (bD es X.env)).any (·.1)=false:=by rfl) :
  PE X (.Call (.Attribute o name apos) (e::es) [] cpos) (tBMT r to t):=by
 intro aR s σ H Q I h;apply wpAny_Call_method_late hbase hfew hline rfl (thn (ho aR s σ H _ I h) λv s1 ⟨x,H1,I1,r1,ty,q1⟩=>?_);obtain⟨p,xs,rfl,hp⟩:=ty;cases(show v=af.ref p from r1);obtain⟨its,rv,ob,e1,c1,d1,n,dd⟩:=I1.tupleN hp;apply⟨"tuple",id,PySem.F.plainAttrs_tuple,slot,hty,⟨ob,e1,c1⟩,λa ea=>by cases ea;exact⟨ob,e1,d1⟩,?_⟩;have hA:=ha cpos aR s1 σ H1 _ I1 q1;rw[hs] at hA ⊢;apply Calls.callWith_builtin (by show(false || (gg cpos (bD es X.env)).any (·.1))=false;rw[hplain] <;> rfl) (Calls.evalArgs_plain ?_);exact thn hA λus s2 ⟨vs,H2,I2,r2,q2⟩=>hm aR s2 σ H2 (.ref p) vs (.ref p) us Q I2 r1 r2 q2
end L2
namespace L2
open PySem PySem.W PyProof.Rows
theorem sorted_tup {l:ak}(hl:IsTup s.heap l vs.toArray)(hI:IntsAre vs ns)(h64:vs.length<64)
  (h:∀(g:bO) (out:Array af) (ns':List Int),(∀b o,s.heap.get? b=some o→g.get? b=some o)→IntsAre out.toList ns'→ns'.Perm ns→ns'.Pairwise (· ≤ ·)→Q (.ref g.objs.size) { s with heap:=sortedHeap (g.push (bM "list" vs.toArray 0)) g.objs.size vs out }) :
  bc (bE prog w) A (call (.builtin "sorted") [.ref l]) Q E s:=by
 obtain⟨ob,ho,hc,n,hd⟩:=hl;apply Calls.call_function_entry kind_sorted plain_sorted entry_sorted (args_sorted1 _) ?_;unfold fg.«sorted»;apply ah (m:=checkCount "sorted" 1 1 _) (aP ?_);apply ah (wpAny_collect_seq l (.inr rfl) ho hc hd (λg hk=>?_) (by rw[aG,fM];lia));rw[show vs.toArray.toList=vs by simp];apply ah (wpAny_newList ?_ (by rw[fM];lia));have hoL:(g.push (bM "list" vs.toArray 0)).get? g.objs.size=some (bM "list" vs.toArray 0):=aW _ rfl;show bc _ _ _ _ _ { s with heap:=g.push (bM "list" vs.toArray 0) };apply ah (eu (ik slot_list_sort ⟨_,hoL,rfl⟩ entry_list_sort (list_sort_tree hoL hI h64 λout ns' a1 a2 a3=>⟨_,rfl,?_⟩) (args_list_sort _)));exact aP ⟨_,rfl,h g out ns' hk a1 a2 a3⟩
theorem call_sortedT:ke X (.builtin "sorted") (λxs H Q=>∃(p:ak) (ns:List Int),xs=[.ref p]∧SqT X.K H p (ns.map V.int)∧ns.length<64∧∀(l:ak) (ns':List Int),H l=none→ns'.Perm ns→ns'.Pairwise (· ≤ ·)→Q (.ref l) (upd H l (.lst (ns'.map V.int)))):=by
 intro aR s σ H xs us Q I r h;obtain⟨p,ns,rfl,hq,hn,q⟩:=h;obtain⟨u,rfl,ru⟩:=qR r;cases(show u=af.ref p from ru);obtain⟨its,rv,pl,hz⟩:=I.tuple hq;have hl:its.length=ns.length:=by rw[←rv.length,aa]
 apply sorted_tup pl (mh rv) ⋯ λg out ns' hk a1 a2 a3=>?_
 have I1:Inv X aR σ H { s with heap:=g }:=I.kept (t':=s.toks) hk;obtain⟨c,hc⟩:=ng (h:=g.push (bM "list" its.toArray 0)) (a:=g.objs.size) (vs:=its) (out:=out) (n:=0) (aW _ rfl);apply⟨.ref g.objs.size,_,I1.laid (o:= .lst (ns'.map V.int)) (t':=s.toks) (λb u e=>lM (bL (aO e)) (au _ e)) (aC _) ⟨?_,out.toList,c,mX a1,?_⟩,rfl,q _ ns' (I1.hok.fresh (aC _)) a2 a3⟩
 ·rw[aa,a2.length_eq];exact bj (by lia:ns.length≤1000) ↥0
 ·rw[kg];exact hc
end L2
namespace HN
open PySem L2 PyProof.Rows
abbrev sSum:cJ:=top 16
abbrev sBeats:cJ:=top 17
theorem scSum:bW ["bounds","way","low","high","step","bound"] pzG (defScope sSum):=by trivial
theorem ok_sum (F:Fun K "sum_of" "sum_of" sSum f fd):cG P w K mg base CX0 1 f fd pzG spSum:=by
 specialize F.ok scSum;obtain ⟨vb,vw,bs,ws,rfl,hb,hw,hin,k⟩:=h;obtain ⟨pb,yb,rfl,hpb,hlb,rb⟩:=jq hb;obtain ⟨pw,yw,rfl,hpw,hlw,rw'⟩:=jq hw;apply ⟨_,PSl.h (aZ ⟨(psZ 2 scSum.nd bI)⟩
  (aZ ⟨(psZ 3 scSum.nd bI)⟩
  (aZ ⟨(iP bR rfl (jj (pv 1)) (pgZ 4 scSum.nd) (PSl.h (aZ ⟨(psZ 5 scSum.nd (eM eJ (pv 0) (ixZ (pv 4)) (fun _ _=>rfl)))⟩
  (cW ⟨(ib (cT om (ixZ (pv 4)) bI (dI _)) (PSl.h (aZ ⟨(qp (i:=2) scSum.nd rfl (.inl rfl) (ixZ (pv 5)) ip_add)⟩
  (cW ⟨(qp (i:=3) scSum.nd rfl (.inl rfl) (ixZ (pv 5)) ip_add)⟩))) (PSl.h (aZ ⟨(qp (i:=2) scSum.nd rfl (.inl rfl) (ixZ (pv 5)) ip_sub)⟩
  (cW ⟨(qp (i:=3) scSum.nd rfl (.inl rfl) (ixZ (pv 5)) ip_sub)⟩))))⟩))))⟩
  (cW ⟨(cf (dh (ae (pv 2) (ae (pv 3) aA))))⟩)))),?_⟩
 apply⟨_,rfl,pw,rfl,⟨_,SqT.of hpw⟩,?_⟩;apply ox (K:=K) (xs:=yw) (λi σ H2=>H2=H∧∃v4 v5,σ=[some (.ref pb),some (.ref pw),some (.int (fR bs (ws.take i))),some (.int (iX bs (ws.take i))),v4,v5]) ⟨rfl,none,none,rfl⟩ (λi σ H2 _ ⟨e1,_⟩=>by rw[e1];exact SqT.of hpw) ?_ ?_
 ·rintro i y σ H2 hy ⟨rfl,v4,v5,rfl⟩
  have hi:i<ws.length:=by rw[←hlw];exact(ao.mp hy).1
  obtain⟨q,hq,hq2⟩:=kI rw' (gE hi);rw[hy] at hq;cases hq;obtain⟨i1,d1⟩:=hin ws[i] (bH hi);have hm1:fR bs (ws.take (i+1))=fR bs (ws.take i)+rB bs ws[i]:=by
   unfold fR;rw[aY,gE hi,ax,ir];simp
  have hm2:iX bs (ws.take (i+1))=iX bs (ws.take i)+lY bs ws[i]:=by
   unfold iX;rw[aY,gE hi,ax,ir];simp
  obtain⟨qb,hqb,hqb2⟩:=kI rb (gE i1);apply⟨_,rfl,_,rfl,q,_,_,_,rfl,rfl,SqT.of hq2,aB (j:=0) rfl,pb,_,_,_,rfl,rfl,SqT.of hpb,aB (j:=ws[i].i) hqb,?_⟩;apply⟨_,rfl,q,_,_,_,rfl,rfl,SqT.of hq2,aB (j:=1) rfl,rfl,_,rfl,?_⟩;apply ite2 (λh1=>?_) (λh1=>?_)
  ·have h1:ws[i].d=1:=by have:=rZ h1;injection this
   apply⟨_,rfl,_,rfl,qb,_,_,_,rfl,rfl,SqT.of hqb2,aB (j:=0) rfl,_,_,rfl,rfl,?_⟩;apply⟨_,rfl,_,rfl,qb,_,_,_,rfl,rfl,SqT.of hqb2,aB (j:=1) rfl,_,_,rfl,rfl,rfl,some (.ref q),some (.ref qb),?_⟩;have l1:rB bs ws[i]=bs[ws[i].i].1:=by unfold rB;rw[gE i1];exact rV h1
   have l2:lY bs ws[i]=bs[ws[i].i].2:=by unfold lY;rw[gE i1];exact rV h1
   rw[hm1,hm2,l1,l2];rfl
  ·have h1:ws[i].d≠1:=λz=>h1 (rX (by rw[z]))
   apply⟨_,rfl,_,rfl,qb,_,_,_,rfl,rfl,SqT.of hqb2,aB (j:=1) rfl,_,_,rfl,rfl,?_⟩;apply⟨_,rfl,_,rfl,qb,_,_,_,rfl,rfl,SqT.of hqb2,aB (j:=0) rfl,_,_,rfl,rfl,rfl,some (.ref q),some (.ref qb),?_⟩;have l1:rB bs ws[i]= -bs[ws[i].i].2:=by unfold rB;rw[gE i1];exact rT h1
   have l2:lY bs ws[i]= -bs[ws[i].i].1:=by unfold lY;rw[gE i1];exact rT h1
   rw[hm1,hm2,l1,l2,←Int.sub_eq_add_neg,←Int.sub_eq_add_neg];rfl
 ·rintro σ H2 ⟨rfl,v4,v5,rfl⟩
  rw[hlw,aX];exact⟨_,rfl,_,rfl,oN,λp3 H3 S3 h3=>k p3 H3 S3 h3⟩
theorem scBeats:bW ["net","bounds","ring","beat","ends"] pzc (defScope sBeats):=by trivial
theorem ok_beats (F:Fun K "beats_of" "beats_of" sBeats f fd)(G1:Fn K mg "sum_of" sSum pzG f1 fd1):cG P w K mg base CX0 2 f fd pzc pW:=by
 have F1:cG P w K mg base CX0 1 f1 fd1 pzG spSum:=ok_sum G1.F;specialize F.ok scBeats;obtain ⟨vn,vb,vw,b,m,sp,bs,ws,rfl,hv,hb0,hb1,hb,hw,hin,k⟩:=h;obtain ⟨t,pn,ys,rfl,ht,_⟩:=eU hv;apply ⟨_,PSl.h (aZ ⟨(psZ 3 scBeats.nd (ixZ (pv 0)))⟩
  (aZ ⟨(psZ 4 scBeats.nd (pc1 G1 F1 hr (ae (pv 1) (ae (pv 2) aA))))⟩
  (cW ⟨(cf (dh (ae (pe_un un_neg (cS op_fdivB (pe_un un_neg (ixZ (pv 4))) (pv 3))) (ae (cS op_fdivB (ixZ (pv 4)) (pv 3)) aA))))⟩))),?_⟩
 apply⟨_,rfl,t,_,_,_,rfl,rfl,SqT.of ht,aB (j:=0) rfl,?_⟩;apply⟨_,rfl,_,rfl,vb,vw,bs,ws,rfl,hb,hw,hin,λp1 H1 S1 h1=>?_⟩;apply⟨_,rfl,p1,_,_,_,rfl,rfl,SqT.of h1,aB (j:=0) rfl,_,rfl,_,rfl,_,_,rfl,rfl,log_ok hb0 hb1,_,rfl,?_⟩;apply⟨_,rfl,p1,_,_,_,rfl,rfl,SqT.of h1,aB (j:=1) rfl,_,rfl,_,_,rfl,rfl,log_ok hb0 hb1,oN,λp2 H2 S2 h2=>k p2 H2 (S1.trans S2) h2⟩
abbrev sSure:cJ:=top 19
theorem scSure:bW ["net","bounds","ring","beats"] pzc (defScope sSure):=by trivial
theorem ok_sure (F:Fun K "is_sure" "is_sure" sSure f fd)(G1:Fn K mg "beats_of" sBeats pzc f1 fd1)(F1:cG P w K mg base CX0 2 f1 fd1 pzc pW):cG P w K mg base CX0 3 f fd pzc spSure:=by
 specialize F.ok scSure;obtain ⟨vn,vb,vw,b,m,sp,bs,ws,rfl,hv,hb0,hb1,hb,hw,hin,k⟩:=h;apply ⟨_,PSl.h (aZ ⟨(psZ 3 scSure.nd (pc1 G1 F1 hr (ae (pv 0) (ae (pv 1) (ae (pv 2) aA)))))⟩
  (cW ⟨(cf (mH om (ixZ (pv 3)) (ixZ (pv 3)) (dI _)))⟩)),?_⟩
 apply⟨_,rfl,_,rfl,_,rfl,vn,vb,vw,b,m,sp,bs,ws,rfl,hv,hb0,hb1,hb,hw,hin,λp1 H1 S1 h1=>?_⟩;apply⟨_,rfl,p1,_,_,_,rfl,rfl,SqT.of h1,aB (j:=0) rfl,_,rfl,p1,_,_,_,rfl,rfl,SqT.of h1,aB (j:=1) rfl,rfl,?_⟩;have e:decide (V.int (upB b (fR bs ws))=V.int (iX bs ws / b))=sureB b bs ws:=decide_eq_decide.mpr ⟨λz=>by injection z,λz=>by rw[z]⟩;have k1:=k H1 S1;rw[←e] at k1;exact k1
abbrev sOwn:cJ:=top 36
abbrev sWorth:cJ:=top 37
def rGetL:V→V→Hp→VK→Prop:=λo i H Q=>∃p xs k y,o= .ref p∧i= .int ((k:Nat):Int)∧H p=some (.lst xs)∧xs[k]? =some y∧Q y H
theorem get_listP:PGet X rGetL:=by
 intro aR s σ H o i ov iv Q I ro ri h;obtain⟨p,xs,k,y,rfl,rfl,hp,hy,q⟩:=h;cases(show ov=af.ref p from ro);obtain⟨t,rfl⟩:=ri;obtain⟨its,r,pl,hz⟩:=I.list (SqL.of (K:=X.K) hp);obtain⟨u,hu,ru⟩:=r.get hy;have hl:=r.length;have hk:k<xs.length:=(ao.mp hy).1;have l63:=line63;exact wpAny_getItem_list pl.isList ⋯ ⋯ (by simpa using hu) ⟨y,H,I,ru,q⟩
theorem row_of {r:Int×List Stp}(h:IsD H v (rowD r)):∃q vw,v= .ref q∧H q=some (.tup [.int r.1,vw])∧IsD H vw (oB r.2):=by
 obtain⟨q,xs,rfl,hq,rx⟩:=IsD.tup_of (show IsD H v (.tup [.int r.1,oB r.2]) from h);cases rx with
 | cons g1 gr=>cases gr with
  | cons g2 gr =>
   cases gr;cases g1;exact⟨q,_,rfl,hq,g2⟩
theorem price_of (h:IsD H v (leafP (.price rows))):∃p pr ys,v= .ref p∧H p=some (.tup [.str "price",.ref pr])∧H pr=some (.tup ys)∧dW H ys (rows.map rowD):=by
 obtain⟨p,xs,rfl,hp,rx⟩:=IsD.tup_of (show IsD H v (.tup [.str "price",.tup (rows.map rowD)]) from h);cases rx with
 | cons g1 gr=>cases gr with
  | cons g2 gr =>
   cases gr;cases g1;obtain⟨pr,ys,rfl,hpr,ry⟩:=g2.tup_of;exact⟨p,pr,ys,rfl,hp,hpr,ry⟩
theorem fold_take {β:Type}(f:β→α→β)(b:β){xs:List α}(h:i<xs.length):(xs.take (i+1)).foldl f b=f ((xs.take i).foldl f b) xs[i]:=by
 rw[aY,gE h,eI];rfl
theorem sum_take (f:α→Int){xs:List α}(h:i<xs.length):((xs.take (i+1)).map f).sum=((xs.take i).map f).sum+f xs[i]:=by
 rw[aY,gE h,ax,ir];simp
theorem sum_range (f:Nat→Int)(i:Nat):((aJ (i+1)).map f).sum=((aJ i).map f).sum+f i:=by
 rw[List.range_succ,ax,ir];simp
theorem scOwn:bW ["net","rows","prices","row","step"] ["net","rows"] (defScope sOwn):=by trivial
theorem ok_own (F:Fun K "own_prices" "own_prices" sOwn f fd):cG P w K mg base CX0 1 f fd ["net","rows"] spOwn:=by
 specialize F.ok scOwn;obtain⟨v,pr,b,m,sp,rows,rfl,hv,few,hrr,hok,k⟩:=h;obtain⟨t,pn,ys,rfl,ht,hpn,hl,hy⟩:=eU hv;obtain⟨pr',yr,e0,hpr,ry⟩:=hrr.tup_of;cases e0;have lr:yr.length=rows.length:=by rw[ry.length,aa]
 apply ⟨_,PSl.h (aZ ⟨(qo (iy:=2) (fr:=[]) (js:=[]) scOwn.nd rfl (.inl rfl) rfl (jj (ixZ (pv 0))) (by trivial) rfl (by trivial) rfl (by exists sOwn) (by trivial) rfl (by trivial) (fun _ _ _ _ _=>⟨(eM (r:=pj K) eJ (pv 0) bI (fun _ _=>rfl)),fW⟩))⟩
  (aZ ⟨(iP bR rfl (jj (pv 1)) (pgZ 3 scOwn.nd) (cL (iP bR rfl (jj (ixZ (pv 3))) (pgZ 4 scOwn.nd) (cL (ps_augS (pv 2) (ixZ (pv 4)) get_listP (cS jk (ixZ (pv 3)) (ixZ (pv 4))) ip_sub set_list)))))⟩
  (cW ⟨(cf (pv 2))⟩))),?_⟩
 apply⟨_,rfl,t,_,_,_,rfl,rfl,SqT.of ht,aB (j:=2) rfl,pn,rfl,⟨_,SqT.of hpn⟩,?_⟩;apply iJ (K:=K) (a:=pn) (xs:=ys) (λi zs H2=>H2=H∧zs=((sp.take i).map Sn.w).map V.int) ⟨rfl,rfl⟩ (λi zs H2 hi ⟨e1,e2⟩=>?_) (by rw[hl];exact dm ⋯) (λi x zs H2 hx ⟨e1,e2⟩=>?_) (λzs H2 ⟨e1,e2⟩ D hD=>?_)
 ·subst e1
  apply⟨SqT.of hpn,?_⟩;rw[e2,aa,aa,bw];lia
 ·subst e1
  have hi:i<sp.length:=by rw[←hl];exact(ao.mp hx).1
  obtain⟨q,hq,hq2⟩:=hy i sp[i] (gE hi);rw[hx] at hq;cases hq;apply eS ⟨_,rfl,q,_,_,_,rfl,rfl,SqT.of hq2,aB (j:=4) rfl,rfl,?_⟩;rw[e2,aY,gE hi,ax,ax];rfl
 subst e1;rw[hl,aX] at e2;subst e2;have S1:bC H2 (upd H2 D (.lst ((sp.map Sn.w).map V.int))):=bC.put (bC.refl H2) hD;have hD1:(upd H2 D (.lst ((sp.map Sn.w).map V.int))) D=some (.lst ((sp.map Sn.w).map V.int)):=aN;generalize upd H2 D (.lst ((sp.map Sn.w).map V.int))=H1 at S1 hD1 ⊢;apply⟨_,rfl,pr,rfl,⟨_,SqT.of (S1 _ _ hpr)⟩,?_⟩;apply ox (K:=K) (xs:=yr) (λi σ H3=>bC H2 H3∧(∃v3 v4,σ=[some (.ref t),some (.ref pr),some (.ref D),v3,v4])∧H3 D=some (.lst (((rows.take i).foldl rowP (sp.map Sn.w)).map V.int))) ⟨S1,⟨none,none,rfl⟩,hD1⟩ (λi σ H3 _ ⟨S3,_⟩=>SqT.of (S3 _ _ hpr)) ?_ ?_
 ·rintro i y σ H3 hy3 ⟨S3,⟨v3,v4,rfl⟩,hD3⟩
  have hi:i<rows.length:=by rw[←lr];exact(ao.mp hy3).1
  obtain⟨d,hd,dy⟩:=ry.get hy3;rw[ar,gE hi] at hd;cases hd;obtain⟨q,vw,rfl,hq,hw⟩:=row_of dy;obtain⟨pw,yw,rfl,hpw,hlw,rw'⟩:=jq hw;have ok:=hok rows[i] (bH hi);obtain⟨ps,hps⟩:∃ps,ps=(rows.take i).foldl rowP (sp.map Sn.w):=⟨_,rfl⟩;have lps:ps.length=sp.length:=by rw[hps,rows_len,aa]
  rw[←hps] at hD3;apply⟨_,rfl,q,_,_,_,rfl,rfl,SqT.of (S3 _ _ hq),aB (j:=1) rfl,pw,rfl,⟨_,SqT.of (S3 _ _ hpw)⟩,?_⟩;apply ox (K:=K) (xs:=yw) (λj σ H4=>bC H2 H4∧(∃v4,σ=[some (.ref t),some (.ref pr),some (.ref D),some (.ref q),v4])∧H4 D=some (.lst (((rows[i].2.take j).foldl (kG rows[i].1) ps).map V.int))) ⟨S3,⟨_,rfl⟩,hD3⟩ (λj σ H4 _ ⟨S4,_⟩=>SqT.of (S4 _ _ hpw)) ?_ ?_
  ·rintro j z σ H4 hz ⟨S4,⟨v4,rfl⟩,hD4⟩
   have hj:j<rows[i].2.length:=by rw[←hlw];exact(ao.mp hz).1
   obtain⟨q2,e2,h2⟩:=kI rw' (gE hj);rw[hz] at e2;cases e2;obtain⟨i1,d1⟩:=ok.inn rows[i].2[j] (bH hj);obtain⟨qs,hqs⟩:∃qs,qs=(rows[i].2.take j).foldl (kG rows[i].1) ps:=⟨_,rfl⟩;have lqs:qs.length=sp.length:=by rw[hqs,lL,lps]
   rw[←hqs] at hD4;have hgs:qs[rows[i].2[j].i]? =some (qs.getD rows[i].2[j].i 0):=by rw[ag,gE ⋯];rfl
   apply⟨_,rfl,_,rfl,q2,_,_,_,rfl,rfl,SqT.of (S4 _ _ h2),aB (j:=0) rfl,D,_,rows[i].2[j].i,_,rfl,rfl,hD4,by rw[ar,hgs];rfl,_,rfl,q,_,_,_,rfl,rfl,SqT.of (S4 _ _ hq),aB (j:=0) rfl,_,rfl,q2,_,_,_,rfl,rfl,SqT.of (S4 _ _ h2),aB (j:=1) rfl,_,_,rfl,rfl,.inr ?_,_,_,rfl,rfl,D,_,_,rows[i].2[j].i,rfl,rfl,hD4,(by simp[ixN,lqs,i1]),?_⟩
   ·rcases d1 with d1 | d1 <;> rw[d1] <;> exact⟨↥0,↥0⟩
   apply⟨λbb o e=>?_,⟨_,rfl⟩,?_⟩
   ·rw[bz (λz=>by rw[z,hD] at e;cases e)]
    exact S4 _ _ e
   ·rw[aN,fold_take _ _ hj,←hqs]
    congr 2;unfold kG;rw[List.map_set]
  ·rintro σ H4 ⟨S4,⟨v4,rfl⟩,hD4⟩
   apply⟨S4,⟨_,_,rfl⟩,?_⟩;rw[fold_take _ _ hi,←hps,hD4,hlw,aX];rfl
 ·rintro σ H3 ⟨S3,⟨v3,v4,rfl⟩,hD3⟩
  apply⟨_,rfl,k D H3 S3 ?_⟩;rw[hD3,lr,aX];rfl
theorem lN:bW ["net","bounds","leaf","worth","row","price","bound","span"] pzH (defScope sWorth):=by trivial
theorem ok_worth (F:Fun K "worth_of" "worth_of" sWorth f fd)(T:Nm mg)(T2:Nt mg)(G1:Fn K mg "beats_of" sBeats pzc f1 fd1)(F1:cG P w K mg base CX0 2 f1 fd1 pzc pW)(G2:Fn K mg "own_prices" sOwn ["net","rows"] f2 fd2):cG P w K mg base CX0 3 f fd pzH spWorth:=by
 have F2:cG P w K mg base CX0 1 f2 fd2 ["net","rows"] spOwn:=ok_own G2.F;specialize F.ok lN;obtain⟨v,vb,vl,b,m,sp,bs,rows,rfl,W,k⟩:=h;have hr1:iD 1 _:=hr.mono ↥0;obtain⟨hv,hb,hl0,b0,b61,lb,few,bu,hws,hok,lr41⟩:=W;obtain⟨t,pn,ys,rfl,ht,hpn,hl,hy⟩:=eU hv;obtain⟨p,pr,yr,rfl,hp,hpr,ry⟩:=price_of hl0;obtain⟨pb,yb,rfl,hpb,hlb,rb⟩:=jq hb;have lr:yr.length=rows.length:=by rw[ry.length,aa]
 apply ⟨_,PSl.h (aZ ⟨(psZ 3 lN.nd bI)⟩
  (aZ ⟨(iP bR rfl (jj (ixZ (pv 2))) (pgZ 4 lN.nd) (cL (qp (i:=3) lN.nd rfl (.inl rfl) (cS op_mulB (cS jk (ixZ (pv 4)) (ixZ (pc1 G1 F1 hr (ae (pv 0) (ae (pv 1) (ae (ixZ (pv 4)) aA)))))) (ixZ (pv 0))) ip_add)))⟩
  (aZ ⟨(iP bR rfl (pi_zip3 rfl T2.zip (ae (pc1 G2 F2 hr1 (ae (pv 0) (ae (ixZ (pv 2)) aA))) (ae (pv 1) (ae (ixZ (pv 0)) aA)))) (rm rfl (iI (pgZ 5 lN.nd) (iI (pgZ 6 lN.nd) (iI (pgZ 7 lN.nd) oi)))) (cL (qp (i:=3) lN.nd rfl (.inl rfl) (cS kB (cS jk (pv 5) (ma (cT op_lt (pv 5) bI (dI _)) (ixZ (pv 6)) (ixZ (pv 6)))) (cS jk (ixZ (pv 7)) (ixZ (pv 7)))) ip_add)))⟩
  (cW ⟨(cf (pv 3))⟩)))),?_⟩
 apply⟨_,rfl,p,_,_,_,rfl,rfl,SqT.of hp,aB (j:=1) rfl,pr,rfl,⟨_,SqT.of hpr⟩,?_⟩;apply ox (K:=K) (xs:=yr) (λi σ H3=>bC H H3∧∃v4 v5 v6 v7,σ=[some (.ref t),some (.ref pb),some (.ref p),some (.int (oO b bs (rows.take i))),v4,v5,v6,v7]) ⟨bC.refl H,none,none,none,none,rfl⟩ (λi σ H3 _ ⟨S3,_⟩=>SqT.of (S3 _ _ hpr)) ?_ ?_
 ·rintro i y σ H3 hy3 ⟨S3,v4,v5,v6,v7,rfl⟩
  have hi:i<rows.length:=by rw[←lr];exact(ao.mp hy3).1
  obtain⟨d,hd,dy⟩:=ry.get hy3;rw[ar,gE hi] at hd;cases hd;obtain⟨q,vw,rfl,hq,hw⟩:=row_of dy;have ok:=hok rows[i] (bH hi);have u1:=up_abs (b:=b) (bs:=bs) (ws:=rows[i].2) b0 bu ok.few;have p1:=ok.lo;have p2:=ok.hi;apply⟨_,rfl,_,rfl,q,_,_,_,rfl,rfl,SqT.of (S3 _ _ hq),aB (j:=0) rfl,_,rfl,_,rfl,_,rfl,q,_,_,_,rfl,rfl,SqT.of (S3 _ _ hq),aB (j:=1) rfl,.ref t,.ref pb,vw,b,m,sp,bs,rows[i].2,rfl,hv.same S3,b0,b61,hb.same S3,hw.same S3,by rw[lb];exact ok.inn,λq5 H5 S5 h5=>?_⟩;apply⟨q5,_,_,_,rfl,rfl,SqT.of h5,aB (j:=0) rfl,_,_,rfl,rfl,.inl ⟨by show -(2 ^ 64)<rows[i].1;lia,by show rows[i].1<2 ^ 64;lia⟩,_,rfl,t,_,_,_,rfl,rfl,SqT.of (S5 _ _ (S3 _ _ ht)),aB (j:=0) rfl,_,_,rfl,rfl,⟨?_,?_⟩,_,_,rfl,rfl,S3.trans S5,some (.ref q),v5,v6,v7,?_⟩
  ·rw[Int.natAbs_mul]
   have h1:rows[i].1.natAbs≤10 ^ 12:=by lia
   exact b9 (Nat.mul_le_mul h1 u1) (by trivial)
  ·exact b9 (by lia:b.natAbs≤10 ^ 61) (by trivial)
  ·unfold oO
   rw[sum_take _ hi];rfl
 rintro σ H3 ⟨S3,v4,v5,v6,v7,rfl⟩;rw[lr,aX];have hrr:IsD H3 (.ref pr) (.tup (rows.map rowD)):= .tup (S3 _ _ hpr) (ry.same S3);apply⟨_,rfl,_,rfl,p,_,_,_,rfl,rfl,SqT.of (S3 _ _ hp),aB (j:=1) rfl,.ref t,pr,b,m,sp,rows,rfl,hv.same S3,few,hrr,hok,λL H4 S4 hL=>?_⟩;have S04:=S3.trans S4;apply⟨_,rfl,_,rfl,t,_,_,_,rfl,rfl,SqT.of (S04 _ _ ht),aB (j:=2) rfl,⟨true,L⟩,⟨false,pb⟩,⟨false,pn⟩,_,_,_,rfl,hL,S04 _ _ hpb,S04 _ _ hpn,?_⟩;have lo:=own_len sp rows;apply for_zip3 (c1:=⟨true,L⟩) (c2:=⟨false,pb⟩) (c3:=⟨false,pn⟩) (xs:=(ownM sp rows).map V.int) (ys:=yb) (zs:=ys) (λi σ H5=>bC H4 H5∧∃v4 v5 v6 v7,σ=[some (.ref t),some (.ref pb),some (.ref p),some (.int (oO b bs rows+((aJ i).map (termW sp bs rows)).sum)),v4,v5,v6,v7]) ⟨bC.refl H4,v4,v5,v6,v7,∅⟩ (λi σ H5 _ ⟨S5,_⟩=>⟨S5 _ _ hL,S5 _ _ (S04 _ _ hpb),S5 _ _ (S04 _ _ hpn)⟩) (by rw[aa];lia) (by rw[aa];lia) ?_ ?_
 ·rintro i x y z pz σ H5 hx hy5 hz ⟨S5,v4,v5,v6,v7,rfl⟩ hpz
  have hi:i<sp.length:=by rw[←hl];exact(ao.mp hz).1
  have hib:i<bs.length:=by lia
  rw[ar,gE ⋯] at hx;cases hx;obtain⟨qb,e1,h1⟩:=kI rb (gE hib);rw[hy5] at e1;cases e1;obtain⟨qz,e2,h2⟩:=hy i sp[i] (gE hi);rw[hz] at e2;cases e2;have eo:(ownM sp rows)[i]=owK sp rows i:=by
   rw[←own_at hi hok,ag,gE ⋯];rfl
  rw[eo];have S6:bC H4 (upd H5 pz (.tup [.int (owK sp rows i),.ref qb,.ref qz])):=S5.put hpz;have h6:(upd H5 pz (.tup [.int (owK sp rows i),.ref qb,.ref qz])) pz=some (.tup [.int (owK sp rows i),.ref qb,.ref qz]):=aN;generalize upd H5 pz (.tup [.int (owK sp rows i),.ref qb,.ref qz])=H6 at S6 h6 ⊢;have S06:=S04.trans S6;have ob:=owK_abs (k:=i) hws hok lr41;have wx:=hws sp[i] (bH hi);have ew:wOf sp i=sp[i].w:=by unfold wOf;rw[gE hi]
  have el:lOf sp i=sp[i].l:=by unfold lOf;rw[gE hi]
  have eb:bs.getD i (0,0)=bs[i]:=by rw[ag,gE hib];rfl
  have et:termW sp bs rows i=owK sp rows i * (if owK sp rows i<0 then bs[i].2 else bs[i].1) - sp[i].w * sp[i].l:=by unfold termW;rw[ew,el,eb]
  apply⟨pz,_,rfl,SqT.of h6,rfl,_,_,rfl,_,_,rfl,_,_,rfl,rfl,?_⟩;apply⟨_,rfl,_,rfl,_,rfl,_,_,rfl,rfl,_,rfl,?_⟩
  by_cases hneg:owK sp rows i<0
  ·apply qQ (rX hneg) ?_
   apply⟨_,rfl,qb,_,_,_,rfl,rfl,SqT.of (S06 _ _ h1),aB (j:=1) rfl,_,_,rfl,rfl,.inl ⟨by show -(2 ^ 64)<owK sp rows i;lia,by show owK sp rows i<2 ^ 64;lia⟩,_,rfl,qz,_,_,_,rfl,rfl,SqT.of (S06 _ _ h2),aB (j:=4) rfl,_,rfl,qz,_,_,_,rfl,rfl,SqT.of (S06 _ _ h2),aB (j:=2) rfl,_,_,rfl,rfl,.inl ⟨by show -(2 ^ 64)<sp[i].w;lia,by show sp[i].w<2 ^ 64;lia⟩,_,_,rfl,rfl,_,_,rfl,rfl,S6,v4,some (.int (owK sp rows i)),some (.ref qb),some (.ref qz),?_⟩;rw[sum_range,et,rV hneg,←Int.add_assoc];rfl
  ·apply lW (rY hneg) ?_
   apply⟨_,rfl,qb,_,_,_,rfl,rfl,SqT.of (S06 _ _ h1),aB (j:=0) rfl,_,_,rfl,rfl,.inl ⟨by show -(2 ^ 64)<owK sp rows i;lia,by show owK sp rows i<2 ^ 64;lia⟩,_,rfl,qz,_,_,_,rfl,rfl,SqT.of (S06 _ _ h2),aB (j:=4) rfl,_,rfl,qz,_,_,_,rfl,rfl,SqT.of (S06 _ _ h2),aB (j:=2) rfl,_,_,rfl,rfl,.inl ⟨by show -(2 ^ 64)<sp[i].w;lia,by show sp[i].w<2 ^ 64;lia⟩,_,_,rfl,rfl,_,_,rfl,rfl,S6,v4,some (.int (owK sp rows i)),some (.ref qb),some (.ref qz),?_⟩;rw[sum_range,et,rT hneg,←Int.add_assoc];rfl
 ·rintro σ H5 ⟨S5,v4,v5,v6,v7,rfl⟩
  apply⟨_,rfl,?_⟩;have k1:=k H5 (S04.trans S5);unfold lJ at k1;rw[aa,lo];exact k1
abbrev sDead:cJ:=top 18
theorem scDead:bW ["net","bounds","ring","beats"] pzc (defScope sDead):=by trivial
theorem ok_dead (F:Fun K "is_dead" "is_dead" sDead f fd)(G1:Fn K mg "beats_of" sBeats pzc f1 fd1)(F1:cG P w K mg base CX0 2 f1 fd1 pzc pW):cG P w K mg base CX0 3 f fd pzc spDead:=by
 specialize F.ok scDead;obtain ⟨vn,vb,vw,b,m,sp,bs,ws,rfl,hv,hb0,hb1,hb,hw,hin,k⟩:=h;apply ⟨_,PSl.h (aZ ⟨(psZ 3 scDead.nd (pc1 G1 F1 hr (ae (pv 0) (ae (pv 1) (ae (pv 2) aA)))))⟩
  (cW ⟨(cf (mH oQ (ixZ (pv 3)) (ixZ (pv 3)) (dI _)))⟩)),?_⟩
 apply⟨_,rfl,_,rfl,_,rfl,vn,vb,vw,b,m,sp,bs,ws,rfl,hv,hb0,hb1,hb,hw,hin,λp1 H1 S1 h1=>?_⟩;exact⟨_,rfl,p1,_,_,_,rfl,rfl,SqT.of h1,aB (j:=0) rfl,_,rfl,p1,_,_,_,rfl,rfl,SqT.of h1,aB (j:=1) rfl,_,_,rfl,rfl,k H1 S1⟩
abbrev sWidth:cJ:=top 10
theorem scWidth:bW ["net","span","least","most"] pzi (defScope sWidth):=by trivial
theorem ok_width (F:Fun K "width_of" "width_of" sWidth f fd):cG P w K mg base CX0 1 f fd pzi spWidth:=by
 specialize F.ok scWidth;obtain ⟨v,b,m,sp,i,x,rfl,hv,hx,k⟩:=h;obtain ⟨t,p,ys,rfl,ht,hp,hl,hy⟩:=eU hv;obtain ⟨q,hq,hq2⟩:=hy i x hx;apply ⟨_,PSl.h (aZ ⟨(psZ 2 scWidth.nd (ixZ (eM eJ (ixZ (pv 0)) (pv 1) (fun _ _=>rfl))))⟩
  (aZ ⟨(psZ 3 scWidth.nd (ixZ (eM eJ (ixZ (pv 0)) (pv 1) (fun _ _=>rfl))))⟩
  (cW ⟨(cf (cS kB (pv 3) (pv 2)))⟩))),?_⟩
 apply⟨_,rfl,t,_,_,_,rfl,rfl,SqT.of ht,aB (j:=2) rfl,_,rfl,p,_,_,_,rfl,rfl,SqT.of hp,aB (j:=i) hq,q,_,_,_,rfl,rfl,SqT.of hq2,aB (j:=2) rfl,?_⟩;apply⟨_,rfl,t,_,_,_,rfl,rfl,SqT.of ht,aB (j:=2) rfl,_,rfl,p,_,_,_,rfl,rfl,SqT.of hp,aB (j:=i) hq,q,_,_,_,rfl,rfl,SqT.of hq2,aB (j:=3) rfl,?_⟩;exact⟨_,rfl,_,rfl,_,_,rfl,rfl,k⟩
abbrev sSpW:cJ:=top 21
abbrev lO:cJ:=top 22
def lamPos:List cJ→Pos
 | [.Return (some (.Call _ _ [⟨_,.Lambda _ _ _ lp,_⟩] _)) _]=>lp
 | _=>⟨0,0,0,0⟩
abbrev lpW:Pos:=lamPos (fX sSpW)
abbrev lqW:Str:=(("spans_by_width" :Str) ++ ".<locals>.") ++ "<lambda>"
theorem okC {c:ak}{k:Nat}{sp:Sp}(F:Fun K x qual st f fd)(hc:fd.code= .ref c)(S:bW N ps (defScope st))(len:∀vs H Q E,sp vs H Q E→vs.length=ps.length)
  (hbody:∀ (A:bY) (outer:List Env) (s:aq) (H:Hp) (vs:List V) (Q:VK) (E:XK),iD k (A.deeper (envOfC qual (defScope st) s.heap.objs.size f (.ref c)))→sp vs H Q E →
   ∃ t,PSs (cxOf CX0 P w K mg base N qual (defScope st) f (.ref c) A outer s H E).nox (fX st) t∧t { nx:=fun _ H'=>Q .non H',rt:=Q } (L2.start N vs) H):cG P w K mg base CX0 (k+1) f fd ps sp:=by
 obtain⟨oc,od,kV,doc,pm,an,cdv,ct,osl,rfl,lk,hcd⟩:=F.ex;have hc:cdv= .ref c:=hc;subst hc;apply fn_of lk hcd S len λA outer s H vs Q E hr hsp=>?_
 obtain⟨t,h,q⟩:=hbody A outer s H vs Q E hr hsp;exact⟨t,h.nox,q⟩
theorem scSpW:bW pza pza (defScope sSpW):=by trivial
theorem ok_spW {c:ak}(F:Fun K "spans_by_width" "spans_by_width" sSpW f fd)(hcd:fd.code= .ref c)(C:eP K c Tb0=true)(B:BM mg base)(T:Nm mg)(T2:Nt mg)(ms:mg "sorted" =none)(G1:Fn K mg "width_of" sWidth pzi f1 fd1) :
  cG P w K mg base CX0 5 f fd pza (spSpW Tb0 lpW lqW):=by
 have F1:cG P w K mg base CX0 1 f1 fd1 pzi spWidth:=ok_width G1.F;apply okC F hcd scSpW (by contradiction) (fun A outer s H vs Q E hr h=>?_);obtain ⟨v,b,m,sp,rfl,hv,few,hT,k⟩:=h;obtain ⟨t,p,ys,rfl,ht,hp,hl,hy⟩:=eU hv;apply ⟨_,PSl.h (cW ⟨(cf (pe_sortL (js:=[0]) (fr:=pza) (x := "span") (c:=c) (P:=Tb0) rfl hr.depth rfl ms (dk nP rfl T2.range boot_range (ae (d5 dA rfl T.len cV (ae (ixZ (pv 0)) aA)) aA)) rfl rfl C B (fun _ _ _ _ _ _=>rfl) rfl rfl rfl (by trivial) rfl ↥0 (by exists sSpW) rfl (by trivial)
  (fun cl L f' cd s' H'=>pe_tup (ae (pc1 G1 F1 (((hr.in1).in1).deeper _ |>.mono ↥0) (ae (pv 1) (ae (pv 0) aA))) (ae (pv 0) aA)))))⟩),?_⟩
 apply⟨_,rfl,t,_,_,_,rfl,rfl,SqT.of ht,aB (j:=2) rfl,p,_,rfl,.inr (SqT.of hp),_,rfl,λr H1 S1 hr1=>?_⟩;have hv1:IsD H1 (.ref t) (jA b m sp):=hv.same S1;have hT1:=LamT.same S1 hT;apply⟨r,ys.length,oM sp,rfl,hr1,⋯,hT1,wkey_nodup sp _,λi hi H2 tb=>?_,λD H4 π tb lt hD pm pw=>?_⟩
 ·have hv2:=cq (Tb.tupK (LamT.tbl hT1) tb) hv1
  apply⟨_,rfl,_,rfl,.ref t,b,m,sp,i,sAt sp i,rfl,hv2,jy ⋯,_,rfl,oN,λq hq=>⟨λa o e=>by rw[bz (bx e hq)];exact e,q,rfl,aN⟩⟩
 ·exact k D H4 π ((bC.tb S1).trans tb) lt hD ⟨by rw[←hl];exact pm,pw⟩
theorem k7:bW ["net","groups","taken","span","one","other"] pza (defScope lO):=by trivial
theorem ok_forest (F:Fun K "forest_of" "forest_of" lO f fd)(T:Nm mg)(T2:Nt mg)(ms:mg "sorted" =none)(G1:Fn K mg "spans_by_width" sSpW pza f1 fd1)(F1:cG P w K mg base CX0 5 f1 fd1 pza (spSpW Tb0 lp lq)) :
  cG P w K mg base CX0 6 f fd pza (k5 Tb0 lp lq):=by
 specialize F.ok k7;obtain ⟨v,b,m,sp,rfl,hv,N,hT,k⟩:=h;obtain ⟨t,p,ys,rfl,ht,hp,hl,hy⟩:=eU hv;obtain ⟨mn,rfl⟩:=cp (show 0≤m by have:=N.m1;lia);have m2:=N.m2;have few:=N.few;have E:=N.ends;rw [cM] at E k;apply ⟨_,PSl.h (aZ ⟨(psZ 1 k7.nd (dk (oy rfl) rfl T2.tlist boot_list (ae (dk nP rfl T2.range boot_range (ae (ixZ (pv 0)) aA)) aA)))⟩
  (aZ ⟨(psZ 2 k7.nd (i5 aA))⟩
  (aZ ⟨(iP bR rfl (jZ (pc1 G1 F1 hr (ae (pv 0) aA))) (pgZ 3 k7.nd) (PSl.h (aZ ⟨(psZ 4 k7.nd (eM fP (pv 1) (ixZ (eM eJ (ixZ (pv 0)) (pv 3) (fun _ _=>rfl))) (fun _ _=>rfl)))⟩
  (aZ ⟨(psZ 5 k7.nd (eM fP (pv 1) (ixZ (eM eJ (ixZ (pv 0)) (pv 3) (fun _ _=>rfl))) (fun _ _=>rfl)))⟩
  (cW ⟨(ib (cT op_ne (pv 4) (pv 5) (dI _)) (PSl.h (aZ ⟨(iY (mI bB cA cz iB (pv 2) (ae (pv 3) aA)))⟩
  (cW ⟨(qo (iy:=1) (fr:=pzv) (js:=[4,5]) k7.nd rfl (.inl rfl) rfl (jZ (pv 1)) (by trivial) rfl (by trivial) rfl (by exists lO) (by trivial) rfl (by trivial) (fun _ _ _ _ _=>⟨(ma (cT om (pv 0) (pv 2) (dI _)) (pv 1) (pv 0)),fW⟩))⟩))) dX)⟩)))))⟩
  (cW ⟨(cf (dk fU rfl T.ttup eX (ae (d5 call_sortedI rfl ms boot_sorted (ae (pv 2) aA)) aA)))⟩)))),?_⟩
 apply⟨_,rfl,t,_,_,_,rfl,rfl,SqT.of ht,aB (j:=1) rfl,(mn:Int),rfl,λa1 H1 S1 h1=>⟨a1,mn,rfl,h1,⋯,λLg hLg=>?_⟩⟩;have S2:bC H (upd H1 Lg (.lst ((aJ mn).map λk=>V.int (k:Nat)))):=S1.trans (bC.put (bC.refl H1) hLg);have hLg2:(upd H1 Lg (.lst ((aJ mn).map λk=>V.int (k:Nat)))) Lg=some (.lst ((ko mn).map V.int)):=by rw[aN];unfold ko;rw[cg];rfl
 generalize upd H1 Lg (.lst ((aJ mn).map λk=>V.int (k:Nat)))=H2 at S2 hLg2 ⊢;apply⟨bK _,λLt hLt=>?_⟩;have S3:bC H (upd H2 Lt (.lst [])):=S2.trans (bC.put (bC.refl H2) hLt);have hgt:Lg≠Lt:=λz=>by rw[z,hLt] at hLg2;cases hLg2
 have hLt3:(upd H2 Lt (.lst [])) Lt=some (.lst []):=aN;have hLg3:(upd H2 Lt (.lst [])) Lg=some (.lst ((ko mn).map V.int)):=by rw[bz hgt];exact hLg2
 generalize upd H2 Lt (.lst [])=H3 at S3 hLt3 hLg3 ⊢;have hT3:=LamT.same S3 hT;obtain⟨ps3,hTb3⟩:=LamT.tbl hT3;apply⟨_,rfl,.ref t,b,mn,sp,rfl,hv.same S3,few,hT3,λD H4 π tb4 hT4 hD O=>?_⟩;obtain⟨ps4,hTb4⟩:=LamT.tbl hT4;have nLg:Lg≠Tb0:=fb hLg3 hTb3 nofun;have nLt:Lt≠Tb0:=fb hLt3 hTb3 nofun;have hLg4:=tb4 _ _ nLg hLg3;have hLt4:=tb4 _ _ nLt hLt3;have nDg:D≠Lg:=λz=>by rw[z,hLg4] at hD;cases hD
 have nDt:D≠Lt:=λz=>by rw[z,hLt4] at hD;cases hD
 have S5:bC H4 (upd H4 D (.lst (π.map λ(i:Nat)=>V.int i))):=bC.put (bC.refl H4) hD;have tb5:L2.Tb Tb0 H (upd H4 D (.lst (π.map λ(i:Nat)=>V.int i))):=((bC.tb S3).trans tb4).trans (bC.tb S5);have hT5:=LamT.same S5 hT4;have hD5:(upd H4 D (.lst (π.map λ(i:Nat)=>V.int i))) D=some (.lst (π.map λ(i:Nat)=>V.int i)):=aN;have hLg5:=S5 _ _ hLg4;have hLt5:=S5 _ _ hLt4;generalize upd H4 D (.lst (π.map λ(i:Nat)=>V.int i))=H5 at tb5 hT5 hD5 hLg5 hLt5 ⊢;have hLtN:∀o,H Lt=some o→False:=λo e=>by rw[S2 _ _ e] at hLt;cases hLt
 clear hLg4 hLt4 S5 hD hTb4 hT4 tb4 hLg3 hLt3 hT3 hTb3 hLg2 hLt S2 h1 S1 hLg S3;apply⟨D,rfl,⟨_,SqL.of hD5⟩,?_⟩;have tkE:∀{H':Hp},L2.Tb Tb0 H H'→kr H H':=λe=>Tb.tupK (LamT.tbl hT) e
 apply mj (K:=K) (a:=D) (xs:=π.map λ(i:Nat)=>V.int i) (λi σ HA=>L2.Tb Tb0 H HA∧L2.LamT Tb0 lp lq HA∧HA D=some (.lst (π.map λ(i:Nat)=>V.int i))∧∃(La:ak) (v3 v4 v5:Option V),σ=[some (.ref t),some (.ref La),some (.ref Lt),v3,v4,v5]∧La≠Lt∧HA La=some (.lst (((π.take i).foldl (gc sp) (ko mn,[])).1.map V.int))∧HA Lt=some (.lst (((π.take i).foldl (gc sp) (ko mn,[])).2.map λ(i:Nat)=>V.int i)))
  ⟨tb5,hT5,hD5,Lg,none,none,none,rfl,hgt,hLg5,hLt5⟩ (λi σ HA _ ⟨_,_,h,_⟩=>SqL.of h) ?_ ?_
 ·rintro i x σ HA hx ⟨tbA,hTA,hDA,La,v3,v4,v5,rfl,nLa,hLa,hLtA⟩
  rw[ar] at hx;obtain⟨j,hj,rfl⟩:=br.mp hx;have hjn:j<sp.length:=O.lt (bp hj);have hvA:=cq (tkE tbA) hv;obtain⟨t',p',ys',e0,htA,hpA,hlA,hyA⟩:=eU hvA;cases e0;obtain⟨q,hq,hq2⟩:=hyA j _ (jy hjn);obtain⟨s0,s1,g0,g1⟩:=E _ (eD hjn);have fold:(π.take (i+1)).foldl (gc sp) (ko mn,[])=gc sp ((π.take i).foldl (gc sp) (ko mn,[])) j:=by
   rw[aY,hj];show(π.take i++[j]).foldl _ _=_;rw[eI];rfl
  rw[fold];obtain⟨gl,gb⟩:((π.take i).foldl (gc sp) (ko mn,[])).1.length=mn∧((π.take i).foldl (gc sp) (ko mn,[])).2.length≤sp.length:=by
   apply⟨(qI E (π.take i) _ _ [] (λi hi=>O.lt (kh hi)) (Rl.start mn)).1.len,?_⟩;have:=(kL sp (π.take i) (ko mn,[])).2;rw[bw] at this;have h2:=O.len;show _≤_;have h3:((ko mn,([]:List Nat)).2).length=0:=rfl;lia
  generalize (π.take i).foldl (gc sp) (ko mn,[])=c at hLa hLtA gl gb ⊢;obtain⟨gs,tk⟩:=c;have hLa:HA La=some (.lst (gs.map V.int)):=hLa;have hLtA:HA Lt=some (.lst (tk.map λ(i:Nat)=>V.int i)):=hLtA;have gl:gs.length=mn:=gl;have gb:tk.length≤sp.length:=gb;have es:=pO (ts:=gs) s0 ⋯;have eg:=pO (ts:=gs) g0 ⋯;apply⟨_,rfl,_,rfl,t,_,_,_,rfl,rfl,SqT.of htA,aB (j:=2) rfl,_,rfl,p',_,_,_,rfl,rfl,SqT.of hpA,aB (j:=j) hq,q,_,_,_,rfl,rfl,SqT.of hq2,aB (j:=0) rfl,La,_,_,_,rfl,rfl,SqL.of hLa,es,?_⟩;apply⟨_,rfl,_,rfl,t,_,_,_,rfl,rfl,SqT.of htA,aB (j:=2) rfl,_,rfl,p',_,_,_,rfl,rfl,SqT.of hpA,aB (j:=j) hq,q,_,_,_,rfl,rfl,SqT.of hq2,aB (j:=1) rfl,La,_,_,_,rfl,rfl,SqL.of hLa,eg,?_⟩;apply⟨_,rfl,_,rfl,rfl,_,rfl,?_⟩
  by_cases e:tm gs (sAt sp j).s=tm gs (sAt sp j).g
  ·have st:gc sp (gs,tk) j=(gs,tk):=by unfold gc;exact rV e
   rw[st,e,rX rfl];exact iteF ⟨tbA,hTA,hDA,La,_,_,_,rfl,nLa,hLa,hLtA⟩
  ·have st:gc sp (gs,tk) j=(gH gs (tm gs (sAt sp j).s) (tm gs (sAt sp j).g),tk++[j]):=by unfold gc;exact rT e
   rw[st,rY (λz=>e (V.int.inj z))];apply iteT ?_;obtain⟨x,hx⟩:∃x,x=tm gs (sAt sp j).s:=⟨_,rfl⟩;obtain⟨y,hy⟩:∃y,y=tm gs (sAt sp j).g:=⟨_,rfl⟩;rw[←hx,←hy] at e ⊢;apply⟨_,rfl,.inl ⟨rfl,_,SqL.of hLtA⟩,_,rfl,Lt,_,_,rfl,rfl,hLtA,nh (by rw[aa];lia),?_⟩;have hLt6:(upd HA Lt (.lst ((tk.map λ(i:Nat)=>V.int i)++[V.int j]))) Lt=some (.lst ((tk++[j]).map λ(i:Nat)=>V.int i)):=by rw[aN,ax];rfl
   have keep:∀a o,a≠Lt→HA a=some o→(upd HA Lt (.lst ((tk.map λ(i:Nat)=>V.int i)++[V.int j]))) a=some o:=λa o h e=>by rw[bz h];exact e
   have nTL:Tb0≠Lt:=λz=>nLt z.symm
   have tb6:L2.Tb Tb0 H (upd HA Lt (.lst ((tk.map λ(i:Nat)=>V.int i)++[V.int j]))):=λa o hn e=>keep a o (λz=>by subst z;exact hLtN _ e) (tbA a o hn e)
   have hT6:L2.LamT Tb0 lp lq (upd HA Lt (.lst ((tk.map λ(i:Nat)=>V.int i)++[V.int j]))):=LamT.upd hTA (λp u z=>by rw[hLtA] at z;cases z) λps z=>by rw[hLtA] at z;cases z
   have hD6:=keep _ _ nDt hDA;have hLa6:=keep _ _ nLa hLa;generalize upd HA Lt (.lst ((tk.map λ(i:Nat)=>V.int i)++[V.int j]))=HB at hLt6 keep tb6 hT6 hD6 hLa6 ⊢;apply⟨_,rfl,La,rfl,⟨_,SqL.of hLa6⟩,?_⟩;apply kR (K:=K) (a:=La) (xs:=gs.map V.int) (λi zs HC=>HC=HB∧zs=(gH (gs.take i) x y).map V.int) ⟨rfl,rfl⟩ (λi zs HC hi ⟨e1,e2⟩=>?_) (by rw[aa];exact dm ⋯) (λi v zs HC hv ⟨e1,e2⟩=>?_) (λzs HC ⟨e1,e2⟩ L hL=>?_)
   ·subst e1
    apply⟨SqL.of hLa6,?_⟩;rw[aa] at hi;rw[e2,aa];unfold gH;rw[aa,bw];lia
   ·subst e1
    rw[ar] at hv;obtain⟨g,hg,rfl⟩:=br.mp hv;apply eS ?_;have nx:zs++[V.int (if g=y then x else g)]=(gH (gs.take (i+1)) x y).map V.int:=by
     rw[e2];unfold gH;rw[aY,hg,ax,ax];rfl
    apply⟨_,rfl,_,rfl,rfl,_,rfl,?_⟩
    by_cases eg:g=y
    ·rw[eg,rX rfl]
     apply iteT ⟨_,rfl,rfl,?_⟩;rw[←nx,rV eg]
    ·rw[rY (λz=>eg (V.int.inj z))]
     apply iteF ⟨_,rfl,rfl,?_⟩;rw[←nx,rT eg]
   ·subst e1
    have eL:zs=(gH gs x y).map V.int:=by rw[e2,aa,aX]
    subst eL;have S7:bC HC (upd HC L (.lst ((gH gs x y).map V.int))):=bC.put (bC.refl HC) hL;have nLL:L≠Lt:=λz=>by rw[z,hLt6] at hL;cases hL
    exact⟨tb6.trans (bC.tb S7),LamT.same S7 hT6,S7 _ _ hD6,L,_,_,_,rfl,nLL,aN,S7 _ _ hLt6⟩
 ·rintro σ HA ⟨tbA,hTA,hDA,La,v3,v4,v5,rfl,nLa,hLa,hLtA⟩
  rw[aa,aX] at hLtA;have tl:(π.foldl (gc sp) (ko mn,[])).2.length≤40:=by
   have:=(kL sp π (ko mn,[])).2;have h2:=O.len;have h3:((ko mn,([]:List Nat)).2).length=0:=rfl;lia
  have hLtI:HA Lt=some (.lst (((j7 sp mn π).2.map λ(i:Nat)=>(i:Int)).map V.int)):=by rw[hLtA,cg];rfl
  apply⟨_,rfl,Lt,_,rfl,SqL.of hLtI,by rw[aa];exact b9 tl ↥0,λL ns hL pm pw=>?_⟩;have S7:bC HA (upd HA L (.lst (ns.map V.int))):=bC.put (bC.refl HA) hL;apply⟨L,_,rfl,.inl (Rd.of aN),λu H8 S8 hu=>?_⟩;exact k u H8 ns ((tbA.trans (bC.tb S7)).trans (bC.tb S8)) (LamT.same S8 (LamT.same S7 hTA)) hu ⟨π,O,pm,pw⟩
abbrev sFrom:cJ:=top 13
abbrev sTo:cJ:=top 14
theorem scFrom:bW ["net","step","span"] pzg (defScope sFrom):=by trivial
theorem ok_from (F:Fun K "leads_from" "leads_from" sFrom f fd):cG P w K mg base CX0 1 f fd pzg spFrom:=by
 apply F.ok scFrom (by contradiction) (fun cdv A outer s0 H vs Q E hr h=>?_);obtain ⟨v,q,b,m,sp,s,x,rfl,hv,hq,hx,k⟩:=h;obtain ⟨t,p,ys,rfl,ht,hp,hl,hy⟩:=eU hv;obtain ⟨qx,hqx,hqx2⟩:=hy s.i x hx;apply ⟨_,PSl.h (aZ ⟨(psZ 2 scFrom.nd (eM eJ (ixZ (pv 0)) (ixZ (pv 1)) (fun _ _=>rfl)))⟩
  (cW ⟨(cf (ma (cT om (ixZ (pv 1)) bI (dI _)) (ixZ (pv 2)) (ixZ (pv 2))))⟩)),?_⟩
 apply⟨_,rfl,t,_,_,_,rfl,rfl,SqT.of ht,aB (j:=2) rfl,_,rfl,q,_,_,_,rfl,rfl,SqT.of hq,aB (j:=0) rfl,p,_,_,_,rfl,rfl,SqT.of hp,aB (j:=s.i) hqx,?_⟩;apply⟨_,rfl,q,_,_,_,rfl,rfl,SqT.of hq,aB (j:=1) rfl,rfl,_,rfl,?_⟩;apply ite2 (λh1=>?_) (λh1=>?_)
 ·have h1:s.d=1:=by have:=rZ h1;injection this
  apply⟨_,rfl,qx,_,_,_,rfl,rfl,SqT.of hqx2,aB (j:=0) rfl,?_⟩;have e:frm x s.d=x.s:=rV h1;rw[←e];exact k
 ·have h1:s.d≠1:=λz=>h1 (rX (by rw[z]))
  apply⟨_,rfl,qx,_,_,_,rfl,rfl,SqT.of hqx2,aB (j:=1) rfl,?_⟩;have e:frm x s.d=x.g:=rT h1;rw[←e];exact k
theorem scTo:bW ["net","step","span"] pzg (defScope sTo):=by trivial
theorem ok_to (F:Fun K "leads_to" "leads_to" sTo f fd):cG P w K mg base CX0 1 f fd pzg spTo:=by
 apply F.ok scTo (by contradiction) (fun cdv A outer s0 H vs Q E hr h=>?_);obtain ⟨v,q,b,m,sp,s,x,rfl,hv,hq,hx,k⟩:=h;obtain ⟨t,p,ys,rfl,ht,hp,hl,hy⟩:=eU hv;obtain ⟨qx,hqx,hqx2⟩:=hy s.i x hx;apply ⟨_,PSl.h (aZ ⟨(psZ 2 scTo.nd (eM eJ (ixZ (pv 0)) (ixZ (pv 1)) (fun _ _=>rfl)))⟩
  (cW ⟨(cf (ma (cT om (ixZ (pv 1)) bI (dI _)) (ixZ (pv 2)) (ixZ (pv 2))))⟩)),?_⟩
 apply⟨_,rfl,t,_,_,_,rfl,rfl,SqT.of ht,aB (j:=2) rfl,_,rfl,q,_,_,_,rfl,rfl,SqT.of hq,aB (j:=0) rfl,p,_,_,_,rfl,rfl,SqT.of hp,aB (j:=s.i) hqx,?_⟩;apply⟨_,rfl,q,_,_,_,rfl,rfl,SqT.of hq,aB (j:=1) rfl,rfl,_,rfl,?_⟩;apply ite2 (λh1=>?_) (λh1=>?_)
 ·have h1:s.d=1:=by have:=rZ h1;injection this
  apply⟨_,rfl,qx,_,_,_,rfl,rfl,SqT.of hqx2,aB (j:=1) rfl,?_⟩;have e:too x s.d=x.g:=rV h1;rw[←e];exact k
 ·have h1:s.d≠1:=λz=>h1 (rX (by rw[z]))
  apply⟨_,rfl,qx,_,_,_,rfl,rfl,SqT.of hqx2,aB (j:=0) rfl,?_⟩;have e:too x s.d=x.s:=rT h1;rw[←e];exact k
abbrev p8:cJ:=top 23
abbrev sWayB:cJ:=top 24
abbrev sRingBy:cJ:=top 25
inductive spSteps (vs:List V)(H:Hp)(Q:VK)(_:XK):Prop
 | mk (v u b m sp tk x:_)(_:vs=[v,.ref u,.int x])(_:IsD H v (jA b m sp))(_:H u=some (.tup (tk.map λ(i:Nat)=>V.int i)))(_:(∀i∈tk,i<sp.length))(_:tk.length≤40)(_:∀L H' zs,bC H H'→H L=none→H' L=some (.lst zs)→dW H' zs (dO Stp.row (dU sp tk x))→Q (.ref L) H')
inductive spWayBt (vs:List V)(H:Hp)(Q:VK)(_:XK):Prop
 | mk (v u b m sp tk be en:_)(_:vs=[v,.ref u,.int be,.int en])(_:IsD H v (jA b m sp))(_:ia b m sp)(_:H u=some (.tup (tk.map λ(i:Nat)=>V.int i)))(_:(∀i∈tk,i<sp.length))(_:tk.length≤40)(_:0≤be)(_:be<m)(_:rR sp tk be en)(_:∀q H' p,bC H H'→IsD H' q (oB p)→WayR sp tk be en p→Q q H')
inductive spRingBy (T:ak)(lp:Pos)(lq:Str)(vs:List V)(H:Hp)(Q:VK)(_:XK):Prop
 | mk (v b m sp k:_)(_:vs=[v,.int (k:Nat)])(_:IsD H v (jA b m sp))(_:ia b m sp)(_:L2.LamT T lp lq H)(_:k<sp.length)(_:∀q H' (l π:List Nat) p,L2.Tb T H H'→L2.LamT T lp lq H'→IsD H' q (oB (⟨k,1⟩::p))→oz m.toNat sp (l.map λ(i:Nat)=>(i:Int))→rO sp π→l.Perm (j7 sp m.toNat π).2→WayR sp l (sAt sp k).g (sAt sp k).s p→Q q H')
def DW (H:Hp):List (Key×V)→List (Int×List Stp)→Prop:=j8 λ(p:Key×V) (q:Int×List Stp)=>p.1= .inl q.1∧IsD H p.2 (oB q.2)
theorem DW.none {H:Hp}{x:Int}:∀{kvs:List (Key×V)} {l:List (Int×List Stp)},DW H kvs l→lkW l x=none→nS kvs (.inl x)=none
 | _,_,.nil,_=>rfl
 | _,_,.cons (b:=q) r t,h=>by
  rw[lx] at h
  by_cases e:q.1=x
  ·rw[rV e] at h;cases h
  ·rw[rT e] at h
   rw[iG (λz=>e (Sum.inl.inj (r.1.symm.trans z)))];exact DW.none t h
theorem DW.some {H:Hp}{x:Int}{ws:List Stp}:∀{kvs:List (Key×V)} {l:List (Int×List Stp)},DW H kvs l→lkW l x=some ws→∃v,nS kvs (.inl x)=some v∧IsD H v (oB ws)
 | _,_,.nil,h=>by cases h
 | _,_,.cons (b:=q) r t,h=>by
  rw[lx] at h
  by_cases e:q.1=x
  ·rw[rV e] at h
   cases h;exact⟨_,i8 (by rw[r.1,e]),r.2⟩
  ·rw[rT e] at h
   rw[iG (λz=>e (Sum.inl.inj (r.1.symm.trans z)))];exact DW.some t h
theorem qV {ws:List Stp}(e:kr H H')(h:IsD H v (oB ws)):IsD H' v (oB ws):=by
 obtain⟨p,ys,rfl,hp,_,r⟩:=jq h;exact .tup (e _ _ hp) (fh e r)
theorem DW.keep (e:kr H H'){kvs:List (Key×V)}{l:List (Int×List Stp)}(h:DW H kvs l):DW H' kvs l:=L2.Paired.mapP h λ_ _ z=>⟨z.1,qV e z.2⟩
theorem DW.len {H:Hp}:∀{kvs:List (Key×V)} {l:List (Int×List Stp)},DW H kvs l→kvs.length=l.length
 | _,_,.nil=>rfl
 | _,_,.cons _ t=>sd (· + 1) (DW.len t)
theorem DW.snoc {H:Hp}{p:Key×V}{q:Int×List Stp}(h:p.1= .inl q.1∧IsD H p.2 (oB q.2)):∀{kvs:List (Key×V)} {l:List (Int×List Stp)},DW H kvs l→DW H (kvs++[p]) (l++[q])
 | _,_,.nil=> .cons h .nil
 | _,_,.cons r t=> .cons r (DW.snoc h t)
structure JW (H Hc:Hp)(Da La:ak)(c:List (Int×List Stp)×List Int):Prop where
 same:bC H Hc
 da:∃kvs,Hc Da=some (.dK kvs)∧DW Hc kvs c.1
 la:Hc La=some (.lst (c.2.map V.int))
theorem JW.on {Hc':Hp}{La:ak}(j:JW H Hc Da La c)(e:bC Hc Hc'):JW H Hc' Da La c:=by
 obtain⟨kvs,h1,h2⟩:=j.da;exact⟨j.same.trans e,⟨kvs,e _ _ h1,h2.keep (bC.tupK e)⟩,e _ _ j.la⟩
theorem JW.upL {La:ak}{td:List Int}(j:JW H Hc Da La c)(hL:H La=none)(n:Da≠La):JW H (upd Hc La (.lst (td.map V.int))) Da La (c.1,td):=by
 obtain⟨kvs,h1,h2⟩:=j.da;exact⟨λa o e=>by rw[bz (bx e hL)];exact j.same a o e,⟨kvs,by rw[bz n];exact h1,h2.keep (fV j.la)⟩,aN⟩
theorem mapI_at {x:V}(h:(l.map λ(i:Nat)=>V.int i)[i]? =some x):∃j,l[i]? =some j∧x=V.int (j:Nat):=by
 rw[ar] at h;obtain⟨j,hj,rfl⟩:=br.mp h;exact⟨j,hj,rfl⟩
theorem mZ {s:Stp}(h:s.i<sp.length):too (sAt sp s.i) s.d=fQ sp s∧frm (sAt sp s.i) s.d=mw sp s:=by
 have e:sAt sp s.i=sp[s.i]:=by unfold sAt;rw[ag,gE h];rfl
 rw[e];exact⟨(k3 h).symm,(mO h).symm⟩
theorem last_mem {l:List Int}(h:l.getLast? =some z):z∈l:=by
 obtain⟨ys,rfl⟩:=List.getLast?_eq_some_iff.mp h;simp
theorem scSteps:bW ["net","spans","happening","steps"] pzl (defScope p8):=by trivial
theorem ok_steps (F:Fun K "steps_from" "steps_from" p8 f fd)(G1:Fn K mg "leads_from" sFrom pzg f1 fd1):cG P w K mg base CX0 2 f fd pzl spSteps:=by
 have F1:cG P w K mg base CX0 1 f1 fd1 pzg spFrom:=ok_from G1.F;specialize F.ok scSteps;obtain ⟨v,u,b,m,sp,tk,x,rfl,hv,hu,hlt,few,k⟩:=h;have hr1:=hr;apply ⟨_,PSl.h (aZ ⟨(psZ 3 scSteps.nd (cS op_catL (gm (fr:=[]) (js:=[]) rfl (jj (pv 1)) (by trivial) rfl (by trivial) rfl (by exists p8) (by trivial) rfl (by trivial) (fun _ _ _ _ _=>⟨(dh (ae (pv 0) (ae bI aA))),fW⟩)) (gm (fr:=[]) (js:=[]) rfl (jj (pv 1)) (by trivial) rfl (by trivial) rfl (by exists p8) (by trivial) rfl (by trivial) (fun _ _ _ _ _=>⟨(dh (ae (pv 0) (ae (pe_un un_neg bI) aA))),fW⟩))))⟩
  (cW ⟨(cf (gm (fr:=["happening","net"]) (js:=[2,0]) rfl (jZ (pv 3)) (by trivial) rfl (by trivial) rfl (by exists p8) (by trivial) rfl (by trivial) (fun _ _ _ _ _=>⟨(pv 0),(qi (cT om (pc1 G1 F1 hr1 (ae (pv 2) (ae (pv 0) aA))) (pv 1) (dI _)))⟩)))⟩)),?_⟩
 have half:∀(d:Int) (td:TE) (H0:Hp) (Rt:V→Hp→Prop),(∀σ H1 (R:VK),R (.int d) H1→td σ H1 R)→bC H H0→(∀L H' zs,bC H0 H'→H' L=some (.lst zs)→dW H' zs (dO Stp.row (tk.map λi=>⟨i,d⟩))→Rt (.ref L) H') →
   CompW [] tNoIf (tTupA (pP (tVar 0) (pP td tNil))) [some v,some (.ref u),some (.int x),none] Rt (Itt K u) H0:=λd td H0 Rt htd S0 fin=>by
  apply iJ (K:=K) (a:=u) (xs:=tk.map λ(i:Nat)=>V.int i) (λi zs HC=>bC H0 HC∧zs.length=i∧dW HC zs (dO Stp.row ((tk.take i).map λi=>⟨i,d⟩))) ⟨bC.refl H0,rfl,.nil⟩ (λi zs HC hi ⟨e1,e2,_⟩=>⟨SqT.of (e1 _ _ (S0 _ _ hu)),Nat.le_of_eq e2⟩) (by rw[aa];exact dm ⋯) (λi y zs HC hy ⟨e1,e2,e3⟩=>?_) (λzs HC ⟨e1,e2,e3⟩ D hD=>?_)
  ·obtain⟨j,hj,rfl⟩:=mapI_at hy
   apply eS ⟨_,rfl,htd _ _ _ ⟨oN,λq H2 S2 h2=>⟨e1.trans S2,by rw[av,e2];rfl,?_⟩⟩⟩;rw[aY,hj];show dW H2 (zs++[.ref q]) (dO Stp.row ((tk.take i++[j]).map λi=>⟨i,d⟩));unfold dO at e3 ⊢;rw[ax,ax];exact(e3.same S2).append (.cons (.tup h2 (dW.ints (Stp.row ⟨j,d⟩))) .nil)
  ·have S2:=bC.put (bC.refl HC) hD (o:= .lst zs)
   rw[aa,aX] at e3;exact fin D _ zs (e1.trans S2) aN (e3.same S2)
 apply⟨_,rfl,u,rfl,⟨_,SqT.of hu⟩,half 1 _ H _ (λ_ _ _ h=>h) (bC.refl H) λL1 H1 z1 S1 h1 d1=>?_⟩;apply⟨_,rfl,u,rfl,⟨_,SqT.of (S1 _ _ hu)⟩,half (-1) _ H1 _ (λ_ _ _ h=>⟨1,rfl,h⟩) S1 λL2' H2 z2 S2 h2 d2=>?_⟩;have l1:z1.length=tk.length:=by rw[d1.length];unfold dO;rw[aa,aa]
 have l2:z2.length=tk.length:=by rw[d2.length];unfold dO;rw[aa,aa]
 apply⟨L1,L2',_,_,rfl,rfl,S2 _ _ h1,h2,by rw[l1,l2];exact dm ⋯,λL3 H3 S3 h3=>?_⟩;have d3:dW H3 (z1++z2) (dO Stp.row (stF tk)):=by
  unfold stF dO;rw[ax];exact((d1.same S2).same S3).append (d2.same S3)
 have S03:=S1.trans (S2.trans S3);have hv3:=hv.same S03;apply⟨_,rfl,L3,rfl,⟨_,SqL.of h3⟩,?_⟩;have ls:(z1++z2).length=(stF tk).length:=by rw[d3.length];unfold dO;rw[aa]
 apply kR (K:=K) (a:=L3) (xs:=z1++z2) (λi zs HC=>HC=H3∧zs.length≤i∧dW H3 zs (dO Stp.row (((stF tk).take i).filter λs=>decide (mw sp s=x)))) ⟨rfl,bK _,.nil⟩ (λi zs HC hi ⟨e1,e2,_⟩=>⟨by rw[e1];exact SqL.of h3,e2⟩) (by rw[av,l1,l2];exact dm ⋯) (λi y zs HC hy ⟨e1,e2,e3⟩=>?_) (λzs HC ⟨e1,e2,e3⟩ D hD=>?_)
 ·subst e1
  have hi:i<(stF tk).length:=by have:=(ao.mp hy).1;lia
  have hsi:=gE hi;obtain⟨y',hy',dy⟩:=d3.at (i:=i) (d:= .tup ((Stp.row (stF tk)[i]).map Dt.int)) (by unfold dO;rw[ar,hsi];rfl);rw[hy] at hy';cases hy';obtain⟨q,qs,rfl,hq,rq⟩:=dy.tup_of;have eq:=rq.ints_of;subst eq;have hin:=hlt _ (mem_stF (bH hi)).1;apply⟨_,rfl,_,rfl,v,q,b,m,sp,(stF tk)[i],sAt sp (stF tk)[i].i,rfl,hv3,hq,jy hin,_,rfl,rfl,_,rfl,?_⟩;rw[(mZ hin).2];have nx:((stF tk).take (i+1)).filter (λs=>decide (mw sp s=x))=((stF tk).take i).filter (λs=>decide (mw sp s=x))++(if mw sp (stF tk)[i]=x then [(stF tk)[i]] else []):=by
   rw[aY,hsi,gp];show _++[(stF tk)[i]].filter _=_;rw[hV,List.filter_nil]
   by_cases e:mw sp (stF tk)[i]=x
   ·rw[rV e,rV (rX e)]
   ·rw[rT e,rT (by rw[rY e];decide)]
  rw[nx]
  by_cases e:mw sp (stF tk)[i]=x
  ·rw[rV e,e,rX rfl]
   apply iteT ⟨_,rfl,rfl,by rw[av];exact j9 e2,?_⟩;unfold dO at e3 ⊢;rw[ax];exact e3.append (.cons dy .nil)
  ·rw[rT e,rY (λz=>e (V.int.inj z)),dH]
   exact iteF ⟨rfl,Nat.le_succ_of_le e2,e3⟩
 ·subst e1
  have S4:=bC.put (bC.refl HC) hD (o:= .lst zs);rw[ls,aX] at e3;exact k D _ zs (S03.trans S4) (bC.free S03 hD) aN (e3.same S4)
theorem rd:bW ["net","spans","begin","end","ways","ahead","here","step","there"] pzI (defScope sWayB):=by trivial
theorem ok_wayBt (F:Fun K "way_between" "way_between" sWayB f fd)(G1:Fn K mg "steps_from" p8 pzl f1 fd1)(F1:cG P w K mg base CX0 2 f1 fd1 pzl spSteps)(G2:Fn K mg "leads_to" sTo pzg f2 fd2):cG P w K mg base CX0 3 f fd pzI spWayBt:=by
 have F2:cG P w K mg base CX0 1 f2 fd2 pzg spTo:=ok_to G2.F;specialize F.ok rd;obtain⟨v,u,b,m,sp,tk,be,en,rfl,hv,N,hu,hlt,few,be0,be1,held,k⟩:=h;have u1:=b9 (Nat.add_le_add_left (by decide:1≤64) _) hr.units;have hr1:iD 1 _:=hr.mono ↥0;have E:=N.ends;have m16:m.toNat≤16:=by have:=N.m2;lia
 have b1:be<(m.toNat:Int):=by lia
 apply ⟨_,PSl.h (aZ ⟨(psZ 4 rd.nd (pe_disp (pps_cons (pv 2) (dh aA) pps_nil) rfl rfl ↥0 ↥0))⟩
  (aZ ⟨(psZ 5 rd.nd (i5 (ae (pv 2) aA)))⟩
  (aZ ⟨(pE bR (pt_cmp (nu u1 (pv 3) (pv 4)) rfl) (PSl.h (aZ ⟨(psZ 6 rd.nd (rn bB ft fq rA (pv 5)))⟩
  (cW ⟨(iP bR rfl (jZ (pc1 G1 F1 hr (ae (pv 0) (ae (pv 1) (ae (pv 6) aA))))) (pgZ 7 rd.nd) (PSl.h (aZ ⟨(psZ 8 rd.nd (pc1 G2 F2 hr1 (ae (pv 0) (ae (pv 7) aA))))⟩
  (cW ⟨(ib (pt_cmp (nu u1 (pv 8) (pv 4)) rfl) (PSl.h (aZ ⟨(ps_dput u1 (pv 4) (pv 8) (cS oo (pe_dget u1 (pv 4) (pv 6) (fun _ _=>rfl)) (dh (ae (pv 7) aA))) rfl)⟩
  (cW ⟨(iY (mI bB cA cz iB (pv 5) (ae (pv 8) aA)))⟩))) dX)⟩))))⟩))))⟩
  (cW ⟨(cf (pe_dget u1 (pv 4) (pv 3) (fun _ _=>rfl)))⟩)))),?_⟩
 intro Da hDa;apply⟨_,rfl,bK _,λq1 H1 S1 h1=>⟨S1 _ _ aN,[(.inl be,.ref q1)],rfl,(by show 1≤15;decide),?_⟩⟩;have S0:bC H (upd H Da (.dK [])):=bC.put (bC.refl H) hDa;have hDa1:H1 Da=some (.dK []):=S1 _ _ aN;have hDa2:(upd H1 Da (.dK (nv [] [(.inl be,.ref q1)]))) Da=some (.dK [(.inl be,.ref q1)]):=aN;have S2:bC H (upd H1 Da (.dK (nv [] [(.inl be,.ref q1)]))):=λb o e=>by
  rw[bz (λz=>by rw[z,hDa] at e;cases e)];exact S1 _ _ (S0 _ _ e)
 have hq1:(upd H1 Da (.dK (nv [] [(.inl be,.ref q1)]))) q1=some (.tup []):=by
  rw[bz (fb h1 hDa1 nofun)];exact h1
 generalize upd H1 Da (.dK (nv [] [(.inl be,.ref q1)]))=H2 at hDa2 S2 hq1 ⊢;clear hDa1 S0 S1 h1;apply⟨_,rfl,szZ1,λLa hLa=>?_⟩;have nDL:Da≠La:=λz=>by rw[z,hLa] at hDa2;cases hDa2
 have S3:bC H2 (upd H2 La (.lst [.int be])):=bC.put (bC.refl H2) hLa;have hLaH:H La=none:=by
  cases z:H La with
  | none=>rfl
  | some o=>rw[S2 _ _ z] at hLa;cases hLa
 have J3:JW H (upd H2 La (.lst [.int be])) Da La (itW sp tk be 0):=⟨S2.trans S3,⟨_,S3 _ _ hDa2,.cons ⟨rfl,.tup (S3 _ _ hq1) .nil⟩ .nil⟩,aN⟩;generalize upd H2 La (.lst [.int be])=H3 at J3 ⊢;clear S3 hLa hDa2 hq1 S2;have c0:(itW sp tk be 0).1.length+nN (itW sp tk be 0).1≤17:=by
  have:nN [(be,([]:List Stp))]≤16:=by
   unfold nN;have:=List.countP_le_length (p:=λx:Nat=>(lkW [(be,([]:List Stp))] ((x:Nat):Int)).isNone) (l:=aJ 16);rw[bq] at this;exact this
  show 1+nN [(be,([]:List Stp))]≤17;lia
 have c1:2 * nN (itW sp tk be 0).1+(itW sp tk be 0).2.length≤40:=by
  have e1:(itW sp tk be 0).1.length=1:=rfl;have e2:(itW sp tk be 0).2.length=1:=rfl;lia
 apply ⟨fun n σ HA=>∃ (i:Nat) (v6 v7 v8:Option V),n=2 * nN (itW sp tk be i).1+(itW sp tk be i).2.length∧n≤40∧σ=[some v,some (.ref u),some (.int be),some (.int en),some (.ref Da),some (.ref La),v6,v7,v8]∧JW H HA Da La (itW sp tk be i)∧WI m.toNat sp tk be (itW sp tk be i)∧Clo sp tk (fun _=>False) (itW sp tk be i)∧(itW sp tk be i).1.length+nN (itW sp tk be i).1≤17∧∀ j,j<i→lkW (itW sp tk be j).1 en=none,
  ⟨_,0,none,none,none,rfl,c1,rfl,J3,(start_ok be0 b1).1,(start_ok be0 b1).2,c0,fun j hj=>rW hj (Nat.not_lt_zero _)⟩,?_⟩
 rintro n σ HA ⟨i,v6,v7,v8,rfl,n40,rfl,JA,WA,CA,lA,bA⟩;obtain⟨kvs,hDaA,dwA⟩:=JA.da;apply⟨_,rfl,_,rfl,Da,_,rfl,DGet.k (k:= .inl en) hDaA,_,rfl,?_⟩;cases hen:lkW (itW sp tk be i).1 en with
 | some p =>
  obtain⟨vp,hvp,dp⟩:=dwA.some hen;rw[hvp];apply iteF ⟨_,rfl,_,rfl,Da,vp,rfl,?_,k vp HA p JA.same dp ⟨i,hen,bA⟩⟩;have:=DGet.k (k:= .inl en) hDaA;rw[hvp] at this;exact this
 | none =>
  rw[dwA.none hen];apply iteT ⟨_,λσ' H' z=>z,?_⟩;have hne:=left_of hlt held WA CA hen;obtain⟨t1,t2,t3,t4⟩:=turn_ok E m16 hlt WA CA hne;have hlast:(itW sp tk be i).2.getLast? =some (lU (itW sp tk be i).2):=by
   unfold lU;rw[List.getLast?_eq_some_getLast hne];rfl
  have hget:((itW sp tk be i).2.map V.int)[((itW sp tk be i).2.map V.int).length - 1]? =some (V.int (lU (itW sp tk be i).2)):=by
   rw[aa,ar,←List.getLast?_eq_getElem?,hlast];rfl
  apply ⟨_,rfl,.inl ⟨rfl,_,SqL.of JA.la⟩,La,_,_,rfl,rfl,JA.la,hget,?_⟩;have JB:=JA.upL (td:=(itW sp tk be i).2.dropLast) hLaH nDL;rw [List.map_dropLast] at JB;generalize upd HA La (.lst ((itW sp tk be i).2.map V.int).dropLast)=HB at JB ⊢;have hx:lkW (itW sp tk be i).1 (lU (itW sp tk be i).2)≠none:=WA.ahd _ (last_mem hlast);have W0:WI m.toNat sp tk be ((itW sp tk be i).1,(itW sp tk be i).2.dropLast):=⟨WA.pth,WA.rng,fun y hy=>WA.ahd y ((List.dropLast_sublist _).subset hy),WA.beg⟩;have C0:Clo sp tk (· =lU (itW sp tk be i).2) ((itW sp tk be i).1,(itW sp tk be i).2.dropLast):=fun y hy hn ex t ht'=>CA y hy (fun z=>by
   rw[List.getLast?_eq_some_iff] at hlast;obtain⟨ys,hys⟩:=hlast;rw[hys,gL] at hn;rw[hys] at z
   rcases aQ.mp z with z | z
   ·exact hn z
   ·exact ex (ay.mp z)) (fun z=>z) t ht'
  have eT:itW sp tk be (i+1)=(dU sp tk (lU (itW sp tk be i).2)).foldl (i4 sp (lU (itW sp tk be i).2)) ((itW sp tk be i).1,(itW sp tk be i).2.dropLast):=rfl;have bN:∀j,j<i+1→lkW (itW sp tk be j).1 en=none:=λj hj=>by
   rcases ju.mp hj with h | h
   ·exact bA j h
   ·rw[h];exact hen
  rw[show qS sp tk (itW sp tk be i)=itW sp tk be (i+1) from rfl] at t1 t2 t3 t4;generalize lU (itW sp tk be i).2=x at hx C0 eT ⊢;generalize hc:((itW sp tk be i).1,(itW sp tk be i).2.dropLast)=c at JB W0 C0 eT;have hx:lkW c.1 x≠none:=by rw[←hc];exact hx
  have lc:c.1.length+nN c.1≤17:=by rw[←hc];exact lA
  have lc2:2 * nN c.1+c.2.length≤40:=by
   rw[←hc];show 2 * nN (itW sp tk be i).1+(itW sp tk be i).2.dropLast.length≤40;rw[List.length_dropLast];lia
  apply⟨_,rfl,_,rfl,_,rfl,v,u,b,m,sp,tk,x,rfl,hv.same JB.same,JB.same _ _ hu,hlt,few,λL HC zs SC fL hL dz=>⟨L,rfl,⟨_,SqL.of hL⟩,?_⟩⟩;have nLL:L≠La:=λz=>by rw[z,JB.la] at fL;cases fL
  have JC:=JB.on SC;clear JB hc;have vis:∀j:Nat,WI m.toNat sp tk be (((dU sp tk x).take j).foldl (i4 sp x) c)∧lkW (((dU sp tk x).take j).foldl (i4 sp x) c).1 x≠none∧(((dU sp tk x).take j).foldl (i4 sp x) c).1.length≤17∧(((dU sp tk x).take j).foldl (i4 sp x) c).2.length≤40:=λj=>by
   obtain⟨b1,_,_,b4,b5,b6⟩:=pM E m16 hlt (L:=(dU sp tk x).take j) W0 hx (λt h=>kh h) C0;exact⟨b1,by rw[b4 x hx];exact hx,⋯,⋯⟩
  have lz:zs.length=(dU sp tk x).length:=by rw[dz.length];unfold dO;rw[aa]
  apply mj (K:=K) (a:=L) (xs:=zs) (λj σ HD=>JW H HD Da La (((dU sp tk x).take j).foldl (i4 sp x) c)∧HD L=some (.lst zs)∧dW HD zs (dO Stp.row (dU sp tk x))∧∃w7 w8,σ=[some v,some (.ref u),some (.int be),some (.int en),some (.ref Da),some (.ref La),some (.int x),w7,w8]) ⟨JC,hL,dz,_,_,rfl⟩ (λj σ HD _ ⟨_,h,_⟩=>SqL.of h) ?_ ?_
  ·rintro j y σ HD hy ⟨JD,hLD,dD,w7,w8,rfl⟩
   have hj:j<(dU sp tk x).length:=by have:=(ao.mp hy).1;lia
   have hsj:=gE hj;obtain⟨y',hy',dy⟩:=dD.at (i:=j) (d:= .tup ((Stp.row (dU sp tk x)[j]).map Dt.int)) (by unfold dO;rw[ar,hsj];rfl);rw[hy] at hy';cases hy';obtain⟨q,qs,rfl,hq,rq⟩:=dy.tup_of;have eq:=rq.ints_of;subst eq;have hmem:(dU sp tk x)[j]∈dU sp tk x:=bH hj;have hin:=hlt _ (mem_stF (bZ.mp hmem).1).1;have fold:((dU sp tk x).take (j+1)).foldl (i4 sp x) c=i4 sp x (((dU sp tk x).take j).foldl (i4 sp x) c) (dU sp tk x)[j]:=by
    rw[aY,hsj];show((dU sp tk x).take j++[(dU sp tk x)[j]]).foldl _ _=_;rw[eI];rfl
   rw[fold];obtain⟨Wj,xj,kj,aj⟩:=vis j;generalize ((dU sp tk x).take j).foldl (i4 sp x) c=d at JD Wj xj kj aj;generalize (dU sp tk x)[j]=st at hq hin dy;apply⟨_,rfl,_,rfl,v,q,b,m,sp,st,sAt sp st.i,rfl,hv.same JD.same,hq,jy hin,?_⟩;rw[(mZ hin).1];obtain⟨kv2,hDaD,dwD⟩:=JD.da;apply⟨_,rfl,_,rfl,Da,_,rfl,DGet.k (k:= .inl (fQ sp st)) hDaD,_,rfl,?_⟩;cases hto:lkW d.1 (fQ sp st) with
   | some p0 =>
    obtain⟨vp,hvp,_⟩:=dwD.some hto;rw[hvp];have ev:i4 sp x d st=d:=by unfold i4;exact rT (by rw[hto];exact λz=>nomatch z)
    rw[ev];exact iteF ⟨JD,hLD,dD,_,_,rfl⟩
   | none =>
    rw[dwD.none hto];apply iteT ?_;obtain⟨ws,hws⟩:∃ws,lkW d.1 x=some ws:=Option.ne_none_iff_exists'.mp xj;have ev:i4 sp x d st=(d.1++[(fQ sp st,ws++[st])],d.2++[fQ sp st]):=by
     unfold i4;rw[rV hto,hws];rfl
    rw[ev];obtain⟨vw,hvw,dw⟩:=dwD.some hws;obtain⟨pw,yw,rfl,hpw,hlw,rw'⟩:=jq dw;have hget':DGet HD Da (V.int x) (some (.ref pw)):=by
     have:=DGet.k (k:= .inl x) hDaD;rw[hvw] at this;exact this
    have lw:=((Wj.pth x ws hws).1.len E be0 b1);apply⟨_,rfl,_,rfl,Da,.ref pw,rfl,hget',_,rfl,szZ1,λq4 H16 S16 h16=>⟨pw,q4,_,_,rfl,rfl,S16 _ _ hpw,h16,?_,λq5 H17 S17 h17=>?_⟩⟩
    ·rw[hlw];exact bj (by show ws.length+1≤1000;lia) ↥0
    have ST:=S16.trans S17;have hDa7:=ST _ _ hDaD;have dw7:=dwD.keep (bC.tupK ST);have hLa7:=ST _ _ JD.la;have hL7:=ST _ _ hLD;have dD7:=dD.same ST;have S7:=JD.same.trans ST;have lk:kv2.length≤17:=by rw[dwD.len];exact kj
    apply⟨_,rfl,_,rfl,Da,_,rfl,DPut.k (k:= .inl (fQ sp st)) hDa7 (b9 (by lia:kv2.length≤999) ↥0),?_⟩;have hway:IsD H17 (.ref q5) (oB (ws++[st])):=by
     apply .tup h17 ?_;rw[ax];exact(rw'.same ST).append (.cons (dy.same ST) .nil)
    rw[putK_new _ (dwD.none hto)];have K8:kr H17 (upd H17 Da (.dK (kv2++[(.inl (fQ sp st),.ref q5)]))):=λq xs h=>by rw[bz (fb h hDa7 nofun)];exact h
    have hDa8:(upd H17 Da (.dK (kv2++[(.inl (fQ sp st),.ref q5)]))) Da=some (.dK (kv2++[(.inl (fQ sp st),.ref q5)])):=aN;have dw8:DW (upd H17 Da (.dK (kv2++[(.inl (fQ sp st),.ref q5)]))) (kv2++[(.inl (fQ sp st),.ref q5)]) (d.1++[(fQ sp st,ws++[st])]):=DW.snoc ⟨rfl,qV K8 hway⟩ (dw7.keep K8);have hLa8:(upd H17 Da (.dK (kv2++[(.inl (fQ sp st),.ref q5)]))) La=some (.lst (d.2.map V.int)):=by rw[bz nDL.symm];exact hLa7
    have nLD:L≠Da:=fb hLD hDaD nofun;have hL8:(upd H17 Da (.dK (kv2++[(.inl (fQ sp st),.ref q5)]))) L=some (.lst zs):=by rw[bz nLD];exact hL7
    have S8:bC H (upd H17 Da (.dK (kv2++[(.inl (fQ sp st),.ref q5)]))):=λa o e=>by rw[bz (bx e hDa)];exact S7 a o e
    have dD8:dW (upd H17 Da (.dK (kv2++[(.inl (fQ sp st),.ref q5)]))) zs (dO Stp.row (dU sp tk x)):=fh K8 dD7;generalize upd H17 Da (.dK (kv2++[(.inl (fQ sp st),.ref q5)]))=H8 at hDa8 dw8 hLa8 hL8 S8 dD8 ⊢;apply⟨_,rfl,.inl ⟨rfl,_,SqL.of hLa8⟩,_,rfl,La,_,_,rfl,rfl,hLa8,nh (by rw[aa];lia),?_⟩;have J8:JW H H8 Da La (d.1++[(fQ sp st,ws++[st])],d.2):=⟨S8,⟨_,hDa8,dw8⟩,hLa8⟩;have J9:=J8.upL (td:=d.2++[fQ sp st]) hLaH nDL;rw[ax] at J9;apply⟨J9,?_,fh (fV hLa8) dD8,_,_,rfl⟩;rw[bz nLL];exact hL8
  ·rintro σ HD ⟨JD,hLD,dD,w7,w8,rfl⟩
   rw[lz,aX,←eT] at JD;exact⟨_,t3,i+1,_,_,_,rfl,⋯,rfl,JD,t1,t2,⋯,bN⟩
theorem oz.natsF (a:oz m sp ns):∃(l π:List Nat),ns=l.map (λ(i:Nat)=>(i:Int))∧rO sp π∧l.Perm (j7 sp m π).2:=by
 obtain⟨π,o,p,_⟩:=a;have nn:∀x∈ns,0≤x:=λx hx=>by
  obtain⟨i,_,rfl⟩:=aL.mp (p.mem_iff.mp hx);lia
 apply⟨ns.map Int.toNat,π,?_,o,?_⟩
 ·rw[cg]
  conv=>lhs;rw[←jx ns]
  exact cw λx hx=>(fm (nn x hx)).symm
 ·have q:=p.map Int.toNat
  rw[cg] at q;have e:((j7 sp m π).2.map (Int.toNat ∘ λ(i:Nat)=>(i:Int)))=(j7 sp m π).2:=by
   conv=>rhs;rw[←jx (j7 sp m π).2]
   exact cw λx _=>rfl
  rw[e] at q;exact q
theorem gone_ltF (O:rO sp π)(pm:l.Perm (j7 sp m π).2):∀i∈l,i<sp.length:=λi hi=>by
 rcases(kL sp π (ko m,[])).1 i (pm.mem_iff.mp hi) with z | z
 ·cases z
 ·exact O.lt z
theorem scRingBy:bW ["net","span","start","goal"] pzi (defScope sRingBy):=by trivial
theorem ok_ringBy (F:Fun K "ring_by" "ring_by" sRingBy f fd)(G1:Fn K mg "way_between" sWayB pzI f1 fd1)(F1:cG P w K mg base CX0 3 f1 fd1 pzI spWayBt)
  (G2:Fn K mg "forest_of" lO pza f2 fd2) (F2:cG P w K mg base CX0 6 f2 fd2 pza (k5 Tb0 lp lq)):cG P w K mg base CX0 7 f fd pzi (spRingBy Tb0 lp lq):=by
 specialize F.ok scRingBy;obtain ⟨v,b,m,sp,k,rfl,hv,N,hT,hk,fin⟩:=h;obtain ⟨t,p,ys,rfl,ht,hp,hl,hy⟩:=eU hv;obtain ⟨q,hq,hq2⟩:=hy k _ (jy hk);have hr1:iD 3 _:=hr.mono ↥0;have E:=N.ends;have few:=N.few;obtain ⟨a0,a1,b0,b1⟩:=E _ (eD hk);apply ⟨_,PSl.h (aZ ⟨(psZ 2 scRingBy.nd (ixZ (eM eJ (ixZ (pv 0)) (pv 1) (fun _ _=>rfl))))⟩
  (aZ ⟨(psZ 3 scRingBy.nd (ixZ (eM eJ (ixZ (pv 0)) (pv 1) (fun _ _=>rfl))))⟩
  (cW ⟨(cf (cS oo (dh (ae (dh (ae (pv 1) (ae bI aA))) aA)) (pc1 G1 F1 hr1 (ae (pv 0) (ae (pc1 G2 F2 hr (ae (pv 0) aA)) (ae (pv 3) (ae (pv 2) aA)))))))⟩))),?_⟩
 apply⟨_,rfl,t,_,_,_,rfl,rfl,SqT.of ht,aB (j:=2) rfl,_,rfl,p,_,_,_,rfl,rfl,SqT.of hp,aB (j:=k) hq,q,_,_,_,rfl,rfl,SqT.of hq2,aB (j:=0) rfl,?_⟩;apply⟨_,rfl,t,_,_,_,rfl,rfl,SqT.of ht,aB (j:=2) rfl,_,rfl,p,_,_,_,rfl,rfl,SqT.of hp,aB (j:=k) hq,q,_,_,_,rfl,rfl,SqT.of hq2,aB (j:=1) rfl,?_⟩;apply⟨_,rfl,oN,λq1 H1 S1 h1=>⟨szZ1,λq2 H2 S2 h2=>⟨_,rfl,_,rfl,.ref t,b,m,sp,rfl,hv.same (S1.trans S2),N,LamT.same (S1.trans S2) hT,λu H3 ns tb3 hT3 hu F0=>?_⟩⟩⟩;have hT2:=LamT.same (S1.trans S2) hT;have K3:=Tb.tupK (LamT.tbl hT2) tb3;obtain⟨l,π,rfl,O,pm⟩:=F0.natsF;have hlt:=gone_ltF O pm;have lfew:l.length≤40:=by have:=F0.len;rw[aa] at this;lia
 rw[cg] at hu;apply⟨_,rfl,_,rfl,.ref t,u,b,m,sp,l,(sAt sp k).g,(sAt sp k).s,rfl,cq K3 (hv.same (S1.trans S2)),N,hu,hlt,lfew,b0,by have:=N.m1;lia,held_span E O pm hk,λw4 H4 pth S4 d4 wr=>?_⟩;obtain⟨pw,yw,rfl,hpw,hlw,rw'⟩:=jq d4;have hP:=WayR.pth E (by have:=N.m2;lia) hlt b0 b1 (held_span E O pm hk) wr;have ln:=hP.len E b0 b1;have h24:=S4 _ _ (K3 _ _ h2);have h14:=S4 _ _ (K3 _ _ (S2 _ _ h1));apply⟨q2,pw,_,_,rfl,rfl,h24,hpw,?_,λq5 H5 S5 h5=>?_⟩
 ·rw[hlw];have:=N.m2;exact bj (by show 1+pth.length≤1000;lia) ↥0
 apply fin _ H5 l π pth ((bC.tb (S1.trans S2)).trans (tb3.trans (bC.tb (S4.trans S5)))) (LamT.same (S4.trans S5) hT3) ?_ F0 O pm wr;exact .tup h5 (.cons (.tup (S5 _ _ h14) (dW.ints (Stp.row ⟨k,1⟩))) (rw'.same S5))
abbrev p9:cJ:=top 27
theorem inV_intsF (x:Int):∀p:List Int,inV (.int x) (p.map V.int)=decide (x∈p)
 | []=>by simp[inV]
 | y::p=>by
  have ih:=inV_intsF x p;unfold inV at ih ⊢;rw[bX,gP,ih]
  by_cases e:y=x
  ·subst e;simp[eqV]
  ·have:eqV (.int y) (.int x)=false:=by simp[eqV,e]
   rw[this];simp[aE,cx e]
theorem inV_nat (x:Nat)(l:List Nat):inV (.int (x:Int)) (l.map λ(i:Nat)=>V.int i)=decide (x∈l):=by
 have e:(l.map λ(i:Nat)=>V.int i)=(l.map λ(i:Nat)=>(i:Int)).map V.int:=by rw[cg];rfl
 rw[e,inV_intsF];apply decide_eq_decide.mpr ⟨λh=>?_,λh=>aL.mpr ⟨x,h,rfl⟩⟩;obtain⟨j,hj,e⟩:=aL.mp h;have:j=x:=by lia
 rw[←this];exact hj
theorem scRingsO:bW ["net","taken"] pza (defScope p9):=by trivial
theorem ok_ringsO (F:Fun K "rings_of" "rings_of" p9 f fd)(T:Nm mg)(T2:Nt mg)(G1:Fn K mg "forest_of" lO pza f1 fd1)(F1:cG P w K mg base CX0 6 f1 fd1 pza (k5 Tb0 lp lq))(G2:Fn K mg "ring_by" sRingBy pzi f2 fd2)(F2:cG P w K mg base CX0 7 f2 fd2 pzi (spRingBy Tb0 lp lq)):cG P w K mg base CX0 8 f fd pza (oZ Tb0 lp lq):=by
 specialize F.ok scRingsO;obtain ⟨v,b,m,sp,rfl,hv,N,hT,k⟩:=h;have hr6:iD 6 _:=hr.mono ↥0;have E:=N.ends;have few:=N.few;have m1:=N.m1;apply ⟨_,PSl.h (aZ ⟨(psZ 1 scRingsO.nd (pc1 G1 F1 hr6 (ae (pv 0) aA)))⟩
  (cW ⟨(cf (gm (fr:=["net","taken"]) (js:=[0,1]) rfl (hX rfl T2.range (ae (d5 dA rfl T.len cV (ae (ixZ (pv 0)) aA)) aA)) (by trivial) rfl (by trivial) rfl (by exists p9) (by trivial) rfl (by trivial) (fun _ _ _ _ _=>⟨(pc1 G2 F2 hr (ae (pv 1) (ae (pv 0) aA))),(qi (cT (r:=rIn K true) op_notIn_seq (pv 0) (pv 2) rfl))⟩)))⟩)),?_⟩
 apply⟨_,rfl,v,b,m,sp,rfl,hv,N,hT,λu H1 ns tb1 hT1 hu F0=>?_⟩;obtain⟨l,π,rfl,O,pm⟩:=F0.natsF;have fr:jh m.toNat sp l:=⟨F0,π,O,pm⟩;rw[cg] at hu;have hu:H1 u=some (.tup (l.map λ(i:Nat)=>V.int i)):=hu;have hv1:=cq (Tb.lamT hT tb1) hv;obtain⟨t,p,ys,rfl,ht,hp,hl,hy⟩:=eU hv1;apply⟨_,rfl,t,_,_,_,rfl,rfl,SqT.of ht,aB (j:=2) rfl,p,_,rfl,.inr (SqT.of hp),_,rfl,⋯,⋯,?_⟩;apply jG (n:=((ys.length:Int)).toNat) (λi zs HC=>L2.Tb Tb0 H1 HC∧L2.LamT Tb0 lp lq HC∧∃rg:List (Nat×List Stp),zs.length≤i∧dW HC zs (rg.map wayQ)∧(∀q∈rg,RK sp l q)∧rg.map (·.1)=(aJ i).filter λk=> !(decide (k∈l))) ⟨Tb.refl H1,hT1,[],aC _,.nil,λ_ h=>rW h ∅,rfl⟩ (λi zs HC hi ⟨_,_,_,e2,_⟩=>e2) (dm ⋯) (λi zs HC hi ⟨tb,hTC,rg,lz,dz,hrk,hks⟩=>?_) (λzs HC ⟨tb,hTC,rg,lz,dz,hrk,hks⟩ D hD=>?_)
 ·rw[il]
  have hin:i<sp.length:=by lia
  have KC:=Tb.lamT hT1 tb;have ef:(aJ (i+1)).filter (λk=> !(decide (k∈l)))=(aJ i).filter (λk=> !(decide (k∈l)))++(if i∈l then [] else [i]):=by
   rw[List.range_succ,gp];congr 1;rw[hV,List.filter_nil]
   by_cases c:i∈l
   ·rw[rV c,rX c];rfl
   ·rw[rT c,rY c];rfl
  apply⟨_,rfl,_,rfl,u,_,rfl,.inr (SqT.of (KC _ _ hu)),rfl,(by rw[List.all_map];exact List.all_eq_true.mpr λ_ _=>rfl),_,rfl,?_⟩;rw[inV_nat];show if (!(decide (i∈l)))=true then _ else _;rw[ef];apply ite2 (λhc=>?_) (λhc=>?_)
  rotate_left
  ·have c:i∈l:=by simpa using hc
   rw[rV c,dH];exact⟨tb,hTC,rg,⋯,dz,hrk,hks⟩
  have c:i ∉ l:=by simpa using hc
  rw[rT c];apply⟨_,rfl,_,rfl,.ref t,b,m,sp,i,rfl,cq KC hv1,N,hTC,hin,λq HD l' π' pw tbD hTD dq F0' O' pm' wr=>?_⟩;have el:l'=l:=jh.one (m:=m.toNat) (sp:=sp) ⟨F0',π',O',pm'⟩ fr;subst el;obtain⟨s0,s1,g0,g1⟩:=E _ (eD hin);have hlt:=(fr.pots E).nodup.2;have Pw:=WayR.pth E (by have:=N.m2;lia) hlt g0 g1 (fr.held E hin).symm wr;have KD:=Tb.lamT hTC tbD;apply⟨tb.trans tbD,hTD,rg++[(i,⟨i,1⟩::pw)],by rw[av];show zs.length+1≤i+1;lia,?_,λq' hq'=>?_,by rw[ax,hks];rfl⟩
  ·rw[ax]
   exact(dW.keepP KD dz (lh rg λq _=>mG _ _)).append (.cons dq .nil)
  ·rcases aQ.mp hq' with z | z
   ·exact hrk q' z
   ·rw[ay.mp z];exact⟨hin,c,pw,rfl,Pw⟩
 ·have SD:bC HC (upd HC D (.lst zs)):=bC.put (bC.refl HC) hD
  have hDH:H D=none:=by
   cases z:H D with
   | none=>rfl
   | some o =>
    by_cases e:D=Tb0
    ·subst e
     obtain⟨ps,hps⟩:=LamT.tbl hTC;rw[hps] at hD;cases hD
    ·have:=tb D o e (tb1 D o e z)
     rw[hD] at this;cases this
  apply k D zs l rg _ (tb1.trans (tb.trans (bC.tb SD))) (LamT.same SD hTC) hDH aN (dz.same SD) ⟨fr,hrk,?_⟩;rw[hks];unfold qh;rw[cM,hl]
abbrev sOverR:cJ:=top 40
abbrev sMid:cJ:=top 42
abbrev sDeadL:cJ:=top 43
theorem noFree {n:List (Str×cO)}{p:Str×cO→Prop}(h:(n.all λy=>y.2 != .free)=true):∀y∈n,y.2= .free→p y:=λy hy e=>by
 have:=List.all_eq_true.mp h y hy;rw[e] at this;exact rW this ↥0
theorem pi_tupK {l:Expr}(e:X.K=K)(hl:PE X l tl):PI X tg l (iTup K tl):=e ▸ jj hl
theorem scOverR:bW pzw pzw (defScope sOverR):=by trivial
theorem ok_overR (F:Fun K "rings_over" "rings_over" sOverR f fd):cG P w K mg base CX0 1 f fd pzw spOverR:=by
 specialize F.ok scOverR;obtain⟨u,kk,rl,rg,rfl,hu,hrs,few,hlen,k⟩:=h;have lrl:rl.length=rg.length:=by rw[hrs.length,aa]
 apply⟨_,PSl.h (cW ⟨(cf (gm (fr:=["span"]) (js:=[1]) rfl (jZ (pv 0)) (by trivial) rfl (by trivial) rfl (by exists sOverR) (by trivial) rfl (by trivial) (λ_ _ _ _ _=>⟨(pv 0),(qi (cT (r:=rIn K false) op_in_seq (pv 1) (by exact(gm (fr:=[]) (js:=[]) rfl (pi_tupK (K:=K) rfl (pv 0)) (by trivial) rfl (by trivial) rfl (noFree (by trivial)) (by trivial) rfl (by trivial) (λ_ _ _ _ _=>⟨(eM (r:=pj K) eJ (pv 0) bI (λ_ _=>rfl)),fW⟩))) rfl))⟩)))⟩),?_⟩;apply⟨_,rfl,u,rfl,⟨_,SqL.of hu⟩,?_⟩;apply kR (K:=K) (a:=u) (xs:=rl) (λi zs HC=>bC H HC∧zs.length≤i∧dW HC zs (((rg.take i).filter (i6 kk)).map wayQ)) ⟨bC.refl H,aC _,.nil⟩ (λi zs HC hi ⟨S,e2,_⟩=>⟨SqL.of (S _ _ hu),e2⟩) (by rw[lrl];exact dm ⋯) (λi x zs HC hx ⟨S,e2,e3⟩=>?_) (λzs HC ⟨S,e2,e3⟩ D hD=>?_)
 ·have hi:i<rg.length:=by have:=(ao.mp hx).1;lia
  obtain⟨d,ed,dx⟩:=hrs.get hx;rw[ar,gE hi] at ed;cases ed;have dx:IsD H x (oB rg[i].2):=dx;obtain⟨px,yx,rfl,hpx,hlx,rx⟩:=jq dx;have et:(rg.take (i+1)).filter (i6 kk)=(rg.take i).filter (i6 kk)++(if i6 kk rg[i]=true then [rg[i]] else []):=by
   rw[aY,gE hi,gp];congr 1;show List.filter _ [rg[i]]=_;rw[hV];rfl
  have ln:=hlen _ (bH hi);apply⟨_,rfl,_,rfl,px,rfl,⟨_,SqT.of (S _ _ hpx)⟩,?_⟩;apply iJ (K:=K) (a:=px) (xs:=yx) (λj ws HD=>HD=HC∧ws=((rg[i].2.take j).map λs=>V.int (s.i:Int))) ⟨rfl,rfl⟩ (λj ws HD hj ⟨e1,e2'⟩=>⟨by rw[e1];exact SqT.of (S _ _ hpx),by rw[e2',aa,bw];lia⟩) (by rw[hlx];exact dm ln) (λj y ws HD hy' ⟨e1,e2'⟩=>?_) (λws HD ⟨e1,e2'⟩ D hD=>?_)
  ·subst e1
   have hj:j<rg[i].2.length:=by have:=(ao.mp hy').1;lia
   obtain⟨q,hq,hq2⟩:=kI rx (gE hj);rw[hy'] at hq;cases hq;apply eS ?_;apply⟨_,rfl,q,_,_,_,rfl,rfl,SqT.of (S _ _ hq2),aB (j:=0) rfl,rfl,?_⟩;rw[e2',aY,gE hj,ax];rfl
  ·subst e1
   have S1:bC HD (upd HD D (.lst ws)):=bC.put (bC.refl HD) hD;have hD1:(upd HD D (.lst ws)) D=some (.lst ws):=aN;generalize upd HD D (.lst ws)=HE at S1 hD1 ⊢;rw[hlx,aX] at e2';subst e2';apply⟨D,_,rfl,.inl (SqL.of hD1),rfl,(by rw[List.all_map];exact List.all_eq_true.mpr λ_ _=>rfl),_,rfl,?_⟩;rw[show(rg[i].2.map λs=>V.int (s.i:Int))=(rg[i].2.map Stp.i).map (λ(i:Nat)=>V.int i) by rw[cg];rfl,inV_nat,et];show if (decide (kk∈rg[i].2.map Stp.i))=true then _ else _;have eo:i6 kk rg[i]=decide (kk∈rg[i].2.map Stp.i):=rfl;rw[eo];apply ite2 (λc=>?_) (λc=>?_)
   ·apply⟨_,rfl,S.trans S1,by rw[av];show zs.length+1≤i+1;lia,?_⟩
    rw[rV c,ax];exact(e3.same S1).append (.cons (dx.same (S.trans S1)) .nil)
   ·apply⟨S.trans S1,⋯,?_⟩
    rw[rT c,dH];exact e3.same S1
 ·rw[lrl,aX] at e3
  have S1:bC HC (upd HC D (.lst zs)):=bC.put (bC.refl HC) hD;apply k D zs _ (S.trans S1) (bC.free S hD) aN (e3.same S1)
theorem scMid:bW ["case","span","bound"] pzq (defScope sMid):=by trivial
theorem ok_mid (F:Fun K "middle_of" "middle_of" sMid f fd):cG P w K mg base CX0 1 f fd pzq spMid:=by
 specialize F.ok scMid;obtain⟨c,kk,bs,rs,rfl,hc,hk,k⟩:=h;obtain⟨vb,u,rl,h1,h2,h3,h4⟩:=hc.ex;obtain⟨pb,yb,rfl,hpb,hlb,rb⟩:=jq h2;obtain⟨q,hq,hq2⟩:=kI rb (gE hk);have e0:bs.getD kk (0,0)=bs[kk]:=by rw[ag,gE hk];rfl
 apply ⟨_,PSl.h (aZ ⟨(psZ 2 scMid.nd (eM eJ (ixZ (pv 0)) (pv 1) (fun _ _=>rfl)))⟩
  (cW ⟨(cf (cS op_fdiv (cS gh (ixZ (pv 2)) (ixZ (pv 2))) bI))⟩)),?_⟩
 apply⟨_,rfl,c,_,_,_,rfl,rfl,SqT.of h1,aB (j:=0) rfl,_,rfl,pb,_,_,_,rfl,rfl,SqT.of hpb,aB (j:=kk) hq,?_⟩;apply⟨_,rfl,q,_,_,_,rfl,rfl,SqT.of hq2,aB (j:=0) rfl,_,rfl,q,_,_,_,rfl,rfl,SqT.of hq2,aB (j:=1) rfl,_,_,rfl,rfl,_,_,rfl,rfl,⟨↥0,↥0⟩,?_⟩;rw[e0] at k;exact k
theorem scDeadL:bW ["net","case","ring"] pzk (defScope sDeadL):=by trivial
theorem ok_deadL (F:Fun K "dead_leaf" "dead_leaf" sDeadL f fd)(G1:Fn K mg "is_dead" sDead pzc f1 fd1)(F1:cG P w K mg base CX0 3 f1 fd1 pzc spDead):cG P w K mg base CX0 4 f fd pzk pV:=by
 specialize F.ok scDeadL;obtain⟨v,c,b,m,sp,bs,rs,rfl,hv,b0,b61,hc,few,hin,k⟩:=h;obtain⟨vb,u,rl,h1,h2,h3,h4⟩:=hc.ex;have hr3:iD 3 _:=hr;have lrl:rl.length=rs.length:=by rw[h4.length,aa]
 apply ⟨_,PSl.h (aZ ⟨(iP bR rfl (jZ (ixZ (pv 1))) (pgZ 2 scDeadL.nd) (cL (ib (mr (pc1 G1 F1 hr3 (ae (pv 0) (ae (ixZ (pv 1)) (ae (pv 2) aA))))) (cL (cf (dh (ae nq (ae (pv 2) aA))))) dX)))⟩
  (cW ⟨(cf jz)⟩)),?_⟩
 apply⟨_,rfl,c,_,_,_,rfl,rfl,SqT.of h1,aB (j:=1) rfl,u,rfl,⟨_,SqL.of h3⟩,?_⟩;apply mj (K:=K) (a:=u) (xs:=rl) (λi σ H1=>bC H H1∧(∀q∈rs.take i,jR b bs q.2=false)∧∃v2,σ=[some v,some (.ref c),v2]) ⟨bC.refl H,λ_ h=>rW h ∅,none,rfl⟩ (λi σ H1 _ ⟨S,_⟩=>SqL.of (S _ _ h3)) ?_ ?_
 ·rintro i x σ H1 hx ⟨S1,hal,v2,rfl⟩
  have hi:i<rs.length:=by have:=(ao.mp hx).1;lia
  obtain⟨d,ed,dx⟩:=h4.get hx;rw[ar,gE hi] at ed;cases ed;have dx:IsD H x (oB rs[i].2):=dx;apply⟨_,rfl,_,rfl,c,_,_,_,rfl,rfl,SqT.of (S1 _ _ h1),aB (j:=0) rfl,_,rfl,v,vb,x,b,m,sp,bs,rs[i].2,rfl,hv.same S1,b0,b61,h2.same S1,dx.same S1,hin _ (bH hi),λH2 S2=>⟨_,rfl,ite2 (λhc=>?_) (λhc=>?_)⟩⟩
  ·apply⟨_,rfl,oN,λq3 H3 S3 h3'=>?_⟩
   exact k (.ref q3) H3 (S1.trans (S2.trans S3)) (.inr ⟨rs[i],bH hi,.tup h3' (.cons (.str _) (.cons (dx.same (S1.trans (S2.trans S3))) .nil)),hc⟩)
  ·apply⟨S1.trans S2,λq hq=>?_,_,rfl⟩
   rw[aY,gE hi] at hq
   rcases aQ.mp hq with z | z
   ·exact hal q z
   ·rw[ay.mp z];exact iN.mpr hc
 ·rintro σ H1 ⟨S1,hal,v2,rfl⟩
  rw[lrl,aX] at hal;exact k .non H1 S1 (.inl ⟨rfl,hal⟩)
def RDead (b:Int)(sp:List Sn)(bs:List (Int×Int))(d:Dt):Prop:=∃p:List Stp,d=leafP (.ring p)∧Rg sp p∧jR b bs p=true
theorem oq (p:List Stp):LeafW (leafP (.ring p)):=⟨by show(true && (pl (oB p) && true))=true;rw[show pl (oB p)=true from mG _ _];rfl,"ring",oB p,rfl,↥0⟩
def qN (T0 T1:ak)(H H':Hp):Prop:=∀a o,a≠T0→a≠T1→H a=some o→H' a=some o
theorem qN.trans (a:qN T0 T1 H H1)(b:qN T0 T1 H1 H2):qN T0 T1 H H2:=λx o n0 n1 e=>b x o n0 n1 (a x o n0 n1 e)
theorem bC.stayT (a:bC H H'):qN T0 T1 H H':=λx o _ _ e=>a x o e
inductive o4 (v:V)(b m:Int)(sp:List Sn)(R:List (Int×Int)→Dt→Prop)(vs:List V)(H:Hp)(Q:VK)(_:XK):Prop
 | mk (l:List Nat)(rg:List (Nat×List Stp))(q:ak)(c:Cse)(_:vs=[.ref q])(_:FR m sp l rg)(_:CsD H q c.1 c.2)(_:jC b sp l rg c)(_:IsD H v (jA b m sp))(_:∀r H',bC H H'→((∃d,IsD H' r d∧LeafW d∧R c.1 d)∨(r= .non∧(∀z∈c.2,jR b c.1 z.2=false)∧∃k∈l,(c.1.getD k (0,0)).1<(c.1.getD k (0,0)).2))→Q r H')
inductive oY (P:aV)(w:bG)(K:ai)(mg:Str→Option af)(base:bO)(T0:ak)(p0:Pos)(q0:Str)(T1:ak)(p1:Pos)(q1:Str)(vs:List V)(H:Hp)(Q:VK)(_:XK):Prop
 | mk (v:V)(g:ak)(b m:Int)(sp:List Sn)(R:List (Int×Int)→Dt→Prop)(_:vs=[v,.ref g])(_:IsD H v (jA b m sp))(_:ia b m sp)(_:(∀l,jh m.toNat sp l→hW sp l≤4096))(_:L2.LamT T0 p0 q0 H)(_:L2.LamT T1 p1 q1 H)(_:LmOk P w K mg base 6 g (qN T0 T1 H) (o4 v b m sp R))(_:∀(u:V) (t:Tq) (H':Hp),qN T0 T1 H H'→Kp H H'→L2.LamT T0 p0 q0 H'→L2.LamT T1 p1 q1 H'→IsD H' u (kZ t)→pl (kZ t)=true→GoodT R t (sp.map λz=>(z.l,z.o)) 21→Q u H')
section
variable {m:Int}{rg:List (Nat×List Stp)}{cs:List Cse}{c:Cse}
theorem sz_cut (f:FF m sp l rg)(lrg:rg.length≤40)(C:jC b sp l rg c)(al:∀q∈c.2,jR b c.1 q.2=false){k:Nat}{a:Int}(hk:k∈l)(h1:(c.1.getD k (0,0)).1≤a)(h2:a<(c.1.getD k (0,0)).2)(hc:∀d∈cs,jC b sp l rg d) :
  (∀d∈cs++[(fI c.1 k a,rg.filter (i6 k)),(lR c.1 k a,rg.filter (i6 k))],jC b sp l rg d)∧szC l (cs++[(fI c.1 k a,rg.filter (i6 k)),(lR c.1 k a,rg.filter (i6 k))])<szC l (cs++[c])∧2≤fO c.1 l:=by
 have ht2:=f.acy.nodup.2;obtain⟨o1,o2⟩:=C.cut lrg ht2 al hk h1 h2;have p1:0<fO (fI c.1 k a) l:=jr o1.ob ht2;have p2:0<fO (lR c.1 k a) l:=jr o2.ob ht2;have e:=mE C.ob f.acy.nodup.1 ht2 hk h1 h2;apply⟨λd hd=>?_,?_,⋯⟩
 ·rcases aQ.mp hd with z | z
  ·exact hc d z
  ·rcases aE.mp z with rfl | z
   ·exact o1
   ·rw[ay.mp z];exact o2
 ·rw[mx,mx]
  show _+((2 * fO (fI c.1 k a) l - 1)+((2 * fO (lR c.1 k a) l - 1)+0))<_+((2 * fO c.1 l - 1)+0);lia
theorem sz_less (f:FF m sp l rg)(C:jC b sp l rg c):szC l cs<szC l (cs++[c]):=by
 have:=jr C.ob f.acy.nodup.2;rw[mx];show _<_+((2 * fO c.1 l - 1)+0);lia
end
theorem pls_appT:∀(xs ys:List Dt),pls (xs++ys)=(pls xs && pls ys)
 | [],ys=>by show pls ys=(true && pls ys);rw[Bool.true_and]
 | x::xs,ys=>by
  show(pl x && pls (xs++ys))=((pl x && pls xs) && pls ys);rw[pls_appT xs ys,Bool.and_assoc]
theorem LmOk.mono {k:Nat}{sp:Sp}(L:LmOk P w K mg base j f Hf sp)(h:j≤k):LmOk P w K mg base k f Hf sp:=⟨L.isFn,λA outer s H u v Q hr=>L.run A outer s H u v Q (hr.mono h)⟩
theorem pl_pre:∀(t:Tq),(∀d,Mrk.leaf d∈pre t→LeafW d)→pl (kZ t)=true
 | .leaf d,h=>(h d (by simp[pre])).1
 | .cut k a x y,h=>pl_cut (pl_pre x λd hd=>h d (by simp[pre,hd])) (pl_pre y λd hd=>h d (by simp[pre,hd]))
end HN
namespace L2
open PySem PySem.W PySem.Spec PyProof.Rows
def LamG (P:ak)(q:Str)(H:Hp):Prop:=∃l:List (Pos×ak),H P=some (.tbl (triples l).toArray)∧∀e∈l,CdK q H e.2
theorem LamG.tbl {P:ak}(k:LamG P q H):∃ps,H P=some (.tbl ps):=let ⟨_,e,_⟩:=k;⟨_,e⟩
theorem LamG.nil {P:ak}(e:H P=some (.tbl #[])):LamG P q H:=⟨[],e,λ_ h=>rW h ∅⟩
theorem CdK.ne {P c:ak}{ps:Array af}(k:CdK q H c)(e:H P=some (.tbl ps)):c≠P:=λz=>by
 obtain⟨oc,vs,t,e2,_⟩:=k;rw[z,e] at e2;cases e2
theorem LamG.stay {P:ak}(k:LamG P q H)(hT:∀ps,H P=some (.tbl ps)→H' P=some (.tbl ps))(hf:∀a o u,H a=some (.frz o u)→H' a=some (.frz o u)):LamG P q H':=by
 obtain⟨l,e,r⟩:=k;apply⟨l,hT _ e,λx hx=>?_⟩;obtain⟨oc,vs,t,e2,z⟩:=r x hx;exact⟨oc,vs,t,hf _ _ _ e2,z⟩
theorem LamG.same {P:ak}(a:bC H H')(k:LamG P q H):LamG P q H':=k.stay (λ_ e=>a _ _ e) λ_ _ _ e=>a _ _ e
theorem nV:∀l:List (Pos×ak),TriplesOk (triples l)
 | []=>trivial
 | (p,c)::r=>nV r
theorem pN {pos:Pos}:∀{l:List (Pos×ak)} {cv:af},codeAmong pos (triples l)=some cv→∃e∈l,cv= .ref e.2
 | [],cv,h=>by cases h
 | (p,c)::r,cv,h=>by
  have h:(if (((p.line:Nat):Int) == ((pos.line:Nat):Int) && ((p.col:Nat):Int) == ((pos.col:Nat):Int))=true then some (af.ref c) else codeAmong pos (triples r))=some cv:=h;split at h
  ·cases h;exact⟨(p,c),∅,rfl⟩
  ·obtain⟨e,he,z⟩:=pN h
   exact⟨e,by simp[he],z⟩
section
variable {σ:List (Option V)}
theorem lam_makeG {c P:ak}(I:Inv X aR σ H s)(hd:defaultsOf params X.env=([],[]))(mN:X.env.code= .ref c)(C:codeHdIn X.K c P=true)(B:BM X.mg X.base)
  (hfr:∀y∈scope.names,y.2= .free→X.env.scope.names.lookup y.1=some .cell) (T:LamG P (X.env.qual ++ "<lambda>") H)
  (h:∀f cl H' s',Inv X aR σ H' s'→Tb P H H'→LamG P (X.env.qual ++ "<lambda>") H'→LamF (X.env.qual ++ "<lambda>") params body scope cl f H'→(∀x c,cl.lookup x=some c→X.env.cells.lookup x=some c)→(∀y∈scope.names,y.2= .free→cl.lookup y.1=X.env.cells.lookup y.1)→Q (.ref f) s') :
  bc (bE X.prog X.w) X.A (eG (.Lambda params body scope pos) X.env) Q X.xe s:=by
 obtain⟨cl,hclos,c1,c2⟩:=mP (scope:=scope) (env:=X.env) λy hy hk=>I.ok.has _ (.inl (hfr y hy hk))
 apply kla_eval hd ?_;have hgs:s.heap.Ns bS X.mg:=I.mod.glob.keeps I.bk;obtain⟨bm,ob,b1,b2,b3,b4,b5⟩:=B;have CH:CodeHd s.heap c P:=codeHd_of_K I.kIn C;obtain⟨l,hP,K⟩:=T;have hbP:bm≠P:=λq=>by have z:=(I.bs bm ob b4).2;rw[q,hP] at z;cases z
 have hgP:bS≠P:=λq=>by
  obtain⟨o,es,ep,e,_⟩:=I.mod.glob;have z:=(I.bs _ o e).2;rw[q,hP] at z;cases z
 have hBA:s.heap.BuiltinsAt X.mg P:=⟨bm,ob,b1,b2,b3,hbP,I.bk _ _ b4,b5⟩;have fin:∀(H1:Hp) (h1:bO) (tk:Nat) (c':ak) (ctv:af),Inv X aR σ H1 { s with heap:=h1,toks:=tk }→Tb P H H1→LamG P (X.env.qual ++ "<lambda>") H1→CdK (X.env.qual ++ "<lambda>") H1 c' →
   Q (.ref h1.objs.size) { s with heap:=h1.push (kla_obj "<lambda>" (X.env.qual ++ "<lambda>") params body scope cl ((X.mg "__name__").getD .none) c' ctv),toks:=tk }:=λH1 h1 tk c' ctv I1 t1 T1 K1=>by
  have fr:H1 h1.objs.size=none:=I1.hok.fresh (aC _);have S:bC H1 (upd H1 h1.objs.size (.frz (kla_obj "<lambda>" (X.env.qual ++ "<lambda>") params body scope cl ((X.mg "__name__").getD .none) c' ctv) (.own 0))):=λa o e=>by rw[bz (bx e fr)];exact e
  have I2:=I1.laid (t':=tk) (a:=h1.objs.size) (o:= .frz (kla_obj "<lambda>" (X.env.qual ++ "<lambda>") params body scope cl ((X.mg "__name__").getD .none) c' ctv) (.own 0)) (h':=h1.push (kla_obj "<lambda>" (X.env.qual ++ "<lambda>") params body scope cl ((X.mg "__name__").getD .none) c' ctv)) (λb u e=>au _ e) (aC _) ⟨aW _ rfl,_,aW _ rfl⟩;obtain⟨oc,vs,t,e,r⟩:=K1;exact h _ cl _ _ I2 (t1.trans S.tb) (T1.same S) ⟨_,c',ctv,aN,oc,vs,t,S _ _ e,r⟩ c1 c2
 have hPh:s.heap.get? P=some (tabObj (triples l).toArray):=I.hok P _ hP;cases hq:codeAmong pos (triples l) with
 | none =>
  apply kla_makeFunction (mg:=X.mg) hclos I.ok.glob hgs mN CH hPh (by rw[fj];exact nV l) (by rw[fj];exact hq) hgP hBA λc' ctv h' tk hx hge hlt hrec htb=>?_
  have I1:=I.grown (tk:=tk) hP hx htb;obtain⟨c2',oc,vs,t,e2,hoc,hdd,hv⟩:=hrec;cases e2;have Plt:P<s.heap.objs.size:=aO hPh;have ncP:c'≠P:=df (aU Plt hge);have frc:H c'=none:=I.hok.fresh hge;have hn1:(upd H P (.tbl ((triples l).toArray++ #[rawInt pos.line,rawInt pos.col,.ref c']))) c'=none:=by rw[bz ncP];exact frc
  have old:∀b o,s.heap.get? b=some o→b≠c':=λb o e=>bL (aU (aO e) hge)
  have I2:=I1.take (D:=c') (o:= .frz oc (.own 0)) hn1 (bj I.sz hge) (df (aU I.lt hge)) (λx d e=>by obtain⟨v,o,ho,_⟩:=I.cell x d e;exact old d o ho) (λp hp=>old _ _ (I.pin p hp).1) ⟨hoc,_,hoc⟩;have tb:Tb P H (upd (upd H P (.tbl ((triples l).toArray++ #[rawInt pos.line,rawInt pos.col,.ref c']))) c' (.frz oc (.own 0))):=λa o hn e=>by
   rw[bz (bx e frc),bz hn];exact e
  apply fin _ h' tk c' ctv I2 tb ⟨l++[(pos,c')],?_,λx hx=>?_⟩ ⟨oc,vs,t,aN,hdd,hv⟩
  ·rw[bz (cx ncP),aN,triples_append]
   congr 2
   apply Array.toList_inj.mp ?_
   simp
  ·rcases aQ.mp hx with hx | hx
   ·exact(K x hx).tb tb ((K x hx).ne hP)
   ·rw[ay.mp hx]
    exact⟨oc,vs,t,aN,hdd,hv⟩
 | some cv =>
  obtain⟨e,he,rfl⟩:=pN hq;apply kla_makeFunctionHit (cv:= .ref e.2) (mg:=X.mg) hclos I.ok.glob hgs mN CH hPh (by rw[fj];exact nV l) (by rw[fj];exact hq) hBA λctv h' tk hk hsz=>?_
  exact fin H h' tk e.2 ctv (I.kept hk) (Tb.refl H) ⟨l,hP,K⟩ (K e he)
def tLambG (env:Env)(T:ak)(params:fH)(body:Expr)(scope:fN):TE:=λ_ H Q=>LamG T (env.qual ++ "<lambda>") H∧∀g cl H',Tb T H H'→LamG T (env.qual ++ "<lambda>") H'→LamF (env.qual ++ "<lambda>") params body scope cl g H'→LamE env scope cl→Q (.ref g) H'
theorem pe_lamG {c T:ak}(hd:defaultsOf params X.env=([],[]))(mN:X.env.code= .ref c)(C:codeHdIn X.K c T=true)(B:BM X.mg X.base)
  (hfr:∀y∈scope.names,y.2= .free→X.env.scope.names.lookup y.1=some .cell):PE X (.Lambda params body scope pos) (tLambG X.env T params body scope):=λ_ _ _ _ _ I ⟨L,h⟩ =>
 lam_makeG I hd mN C B hfr L λf cl H' _ I' t1 T1 F c1 c2=>⟨.ref f,H',I',rfl,h f cl H' t1 T1 F ⟨c1,c2⟩⟩
theorem Inv.repinE {o o':Obj}(I:Inv X ((kS,o)::aR) σ H s)(hs0:X.s₀.heap.objs.size≤kS)(hC:∀x c,X.env.cells.lookup x=some c→c≠kS)(hP:∀p∈X.pn++aR,p.1≠kS)(k:∀b o,b≠kS→s.heap.get? b=some o→h'.get? b=some o)(ho':h'.get? kS=some o')(hd:∀v,o'.data≠ .cell v):Inv X ((kS,o')::aR) σ H { s with heap:=h',toks:=t' }:=by
 obtain⟨p1,p2,p3,p4,_⟩:=I.pin (kS,o) (az _ (bt ..));have I2:=I.unpin.turned (t':=t') (it:=kS) (h':=h') k p2 p3 (.inr hs0) hC hP;apply I2.pins_of λp hp=>?_
 rcases aE.mp hp with rfl | hp
 ·exact⟨ho',p2,p3,p4,hd⟩
 ·exact I2.pin p (az _ hp)
theorem Inv.swap {p q:ak×Obj}(I:Inv X (p::q::aR) σ H s):Inv X (q::p::aR) σ H s:=I.pins_of λz hz=>by
 apply I.pin z (az _ ?_)
 rcases aE.mp hz with rfl | hz
 ·simp
 ·rcases aE.mp hz with rfl | hz
  ·simp
  ·simp[hz]
end
def jS (key:Nat→Int):Nat→Nat:=argBest λi j=>decide (key i<key j)
theorem best_ok (key:Nat→Int):∀n,jS key n≤n∧∀j,j≤n→key (jS key n)≤key j
 | 0=>⟨aC 0,λj hj=>by rw[Nat.le_zero.mp hj];exact gk _⟩
 | n+1=>by
  obtain⟨h1,h2⟩:=best_ok key n;have e:jS key (n+1)=if decide (key (n+1)<key (jS key n))=true then n+1 else jS key n:=rfl;rw[e]
  by_cases c:key (n+1)<key (jS key n)
  ·rw[rV (rX c)]
   apply⟨aC _,λj hj=>?_⟩
   by_cases z:j=n+1
   ·rw[z];exact gk _
   ·have:=h2 j ⋯;lia
  ·rw[rT (by rw[rY c];exact aS)]
   apply⟨⋯,λj hj=>?_⟩
   by_cases z:j=n+1
   ·rw[z];lia
   ·exact h2 j ⋯
section
variable {σ:List (Option V)}
def KeyI (X:Cx)(σ:List (Option V))(H:Hp)(f:af)(vs:List V)(key:Nat→Int):Prop :=
 ∀(t:aq) (H':Hp) (pins':List (ak×Obj)) (i:Nat) (v:V) (u:af),vs[i]? =some v→gQ v u→Inv X pins' σ H' t→bC H H'→bc (bE X.prog X.w) X.A.in1 (call f [u]) (λk t'=>∃H'' tk,Inv X pins' σ H'' t'∧bC H' H''∧k= .int (key i) tk) (λ_ _=>False) t
structure Two (X:Cx)(aR:List (ak×Obj))(It S:ak):Prop where
 i0:X.s₀.heap.objs.size≤It
 s0:X.s₀.heap.objs.size≤S
 ic:∀x c,X.env.cells.lookup x=some c→c≠It
 sc:∀x c,X.env.cells.lookup x=some c→c≠S
 ip:∀p∈X.pn++aR,p.1≠It
 sp:∀p∈X.pn++aR,p.1≠S
 ne:It≠S
theorem Two.ipS {It S:ak}(T:Two X aR It S)(o:Obj):∀p∈X.pn++((S,o)::aR),p.1≠It:=λp hp=>by
 rcases aQ.mp hp with hp | hp
 ·exact T.ip p (aM _ hp)
 ·rcases aE.mp hp with rfl | hp
  ·exact cx T.ne
  ·exact T.ip p (az _ hp)
theorem Two.spI {It S:ak}(T:Two X aR It S)(o:Obj):∀p∈X.pn++((It,o)::aR),p.1≠S:=λp hp=>by
 rcases aQ.mp hp with hp | hp
 ·exact T.sp p (aM _ hp)
 ·rcases aE.mp hp with rfl | hp
  ·exact T.ne
  ·exact T.sp p (az _ hp)
theorem min_next {It S L:ak}{oS:Obj}{vs:List V}{Q:Option af→aq→Prop}(hh:A.handled=none)(T:Two X aR It S)(I:Inv X ((It,oI)::(S,oS)::aR) σ H s)(hL:H L=some (.lst vs))(hI:oI.cls= .type "list_iterator" ∧oI.data= .fields #[.ref L,.int j 0])
  (hit:∀v u oI' s',vs[j]? =some v→gQ v u→Inv X ((It,oI')::(S,oS)::aR) σ H s'→oI'.cls= .type "list_iterator" ∧oI'.data= .fields #[.ref L,.int ((j+1:Nat):Int) 0]→Q (some u) s')
  (hend:∀s',j=vs.length→Inv X ((S,oS)::aR) σ H s'→Q none s') (hj:j≤vs.length):bc (bE X.prog X.w) A (pyNext (.ref It)) Q E s:=by
 obtain⟨its,rv,⟨o,n,ho,hcl,_,hd⟩,_⟩:=I.list (SqL.of hL);have gI:=(I.pin (It,oI) (az _ (bt ..))).1;have hLI:L≠It:=λz=>by have:=(I.pin (It,oI) (az _ (bt ..))).2.1;rw[←z,hL] at this;cases this
 have st:s.heap.IsListIter It L j∧s.heap.IsList L its.toArray:=⟨⟨oI,gI,hI.1,hI.2⟩,⟨o,ho,hcl,n,hd⟩⟩;have W:=Walks.list (prog:=X.prog) (w:=X.w) (A:=A) hh It L hLI its.toArray;have lz:its.length=vs.length:=rv.length.symm
 by_cases e:j=vs.length
 ·apply W.done s _ _ (by rw[aG,lz,←e];exact st) λh' tk hk=>hend _ e ?_
  have:=I.unpin.turned (t':=tk) (it:=It) (h':=h') (λb o hb e=>hk b o (by simp[hb]) e) (I.pin (It,oI) (az _ (bt ..))).2.1 (I.pin (It,oI) (az _ (bt ..))).2.2.1 (.inr T.i0) T.ic (T.ipS oS);exact this
 ·apply W.item j s _ _ (by rw[aG];lia) st λu h' tk hu st' hk=>?_
  obtain⟨oI',gI',c1,c2⟩:=st'.1;have hu:its[j]? =some u:=by simpa using hu
  have hv:vs[j]? =some (vs[j]'⋯):=gE _;apply hit vs[j] u oI' _ hv ?_ (I.repinE T.i0 T.ic (T.ipS oS) (λb o hb e=>hk b o (by simp[hb]) e) gI' (λv z=>by rw[c2] at z;cases z)) ⟨c1,c2⟩;obtain⟨u',hu',ru⟩:=gw.get rv hv;rw[hu] at hu';cases hu';exact ru
end
theorem mS {id:String}{b:fg}{args:List af}(hk:builtinKind id=none)(hp:plainId id=true)
  (hb:entryFor table id=some b) (ha:argsOk id ⟨args,kw⟩)
  (hfin:bc (bE prog w) A.in1 (b ⟨args,kw⟩) (fun fin s'=>match fin with
   | .done f=>(match (Except.ok f:Result) with | .ok (.ret v)=>Q v s' | .ok _=>False | .error e=>E e s')
   | .again c'=>c'.quiet=true∧jI (bE prog w) A c' (fun r s'=>match r with | .ok (.ret v)=>Q v s' | .ok _=>False | .error e=>E e s') s') E s):bc (bE prog w) A (call (.builtin id) args kw) Q E s:=by
 apply wpAny_call (codeAny_call_builtin hp hb ?_);simp only[checkBuiltinCall,hk];cases hsig:Manifest.signature? id with
 | none=>exact aP hfin
 | some sig =>
  have ha':Bind.checkArgs id sig ⟨args,kw⟩=gf ():=by simpa only [argsOk,hsig] using ha
  simp only[ha'];exact aP hfin
section
variable {σ:List (Option V)}
theorem Inv.pin1 {p:ak×Obj}(I:Inv X (p::aR) σ H s):s.heap.get? p.1=some p.2:=(I.pin p (az _ (bt ..))).1
theorem Inv.pin2 {p q:ak×Obj}(I:Inv X (p::q::aR) σ H s):s.heap.get? q.1=some q.2:=I.unpin.pin1
theorem min_put {It S:ak}{xs:Array af}{c:Nat}(T:Two X aR It S)(I:Inv X ((It,oI)::(S,bM "list" xs c)::aR) σ H s)(ys:Array af):∃c',Inv X ((It,oI)::(S,bM "list" ys c')::aR) σ H { s with heap:=s.heap.update S (cQ λ_=>ys) }:=by
 have hS:=I.pin2;obtain⟨c',hc'⟩:∃c',(s.heap.update S (cQ λ_=>ys)).get? S=some (bM "list" ys c'):=⟨_,gT hS λ_=>ys⟩;exact⟨c',(I.swap.repinE (t':=s.toks) T.s0 T.sc (T.spI oI) (λb o hb e=>(jM _ _ (cx hb)).trans e) hc' (λv z=>by cases z)).swap⟩
theorem min_loop {It S L g:ak}{vs:List V}(T:Two X aR It S)(hh:X.A.handled=none)(hkey:KeyI X σ H (.ref g) vs key)(hL:H L=some (.lst vs))
  (fin:∀v u H' s',vs[jS key (vs.length - 1)]? =some v→gQ v u→bC H H'→Inv X aR σ H' s'→R (.ok (.ret u)) s') :
  ∀(k j:Nat) (s:aq) (H':Hp) (v:V) (vb:af) (tb:Tok) (c:Nat) (oI:Obj),vs.length - (j+1)=k→j+1≤vs.length→bC H H'→Inv X ((It,oI)::(S,bM "list" #[vb,.int (key (jS key j)) tb] c)::aR) σ H' s →
   oI.cls= .type "list_iterator" ∧oI.data= .fields #[.ref L,.int ((j+1:Nat):Int) 0]→vs[jS key j]? =some v→gQ v vb→jI (bE X.prog X.w) X.A (.builtin "min.loop" ⟨[.ref It,.ref g,.ref S],[]⟩) R s:=by
 have hname:(toString "min" ++ toString ".loop" :String) = "min.loop" := by decide
 intro k
 induction k with
 | zero =>
  intro j s H' v vb tb c oI hk hj S' I hI hv rv;have hin:j+1=vs.length:=by lia
  have hS:=I.pin2;apply kT F.entry_min_loop ?_;rw[bY.under_plainId ie _];show bc _ X.A.in1 (seqItems? (.ref S) >>= _) _ _ s;apply ah (fZ hS rfl ?_);show bc _ X.A.in1 (tryCatch (pyNext (.ref It)) _ >>= _) _ _ s;apply ah (j3 (min_next (A:=X.A.in1) (j:=j+1) hh T I (S' _ _ hL) hI (λv2 u2 _ _ z=>rW (ao.mp z).1 ⋯) (λs' _ I'=>?_) ⋯));have hS':=I'.pin1;show bc _ X.A.in1 (updateSeq S (λ_=> #[]) >>= _) _ _ _;apply ah ?_;apply wpAny_updateSeq hS' rfl (ah (kE (aP ?_)));have I2:=(I'.repinE (t':=s'.toks) T.s0 T.sc T.sp (h':=s'.heap.update S (cQ λ_=> #[])) (λb o hb e=>(jM _ _ (cx hb)).trans e) (gT hS' λ_=> #[]) (λv z=>by cases z)).unpin;exact fin v vb H' _ (by rw[←hin];exact hv) rv S' I2
 | succ k ih =>
  intro j s H' v vb tb c oI hk hj S' I hI hv rv;have hlt:j+1<vs.length:=by lia
  have hS:=I.pin2;apply kT F.entry_min_loop ?_;rw[bY.under_plainId ie _];show bc _ X.A.in1 (seqItems? (.ref S) >>= _) _ _ s;apply ah (fZ hS rfl ?_);show bc _ X.A.in1 (tryCatch (pyNext (.ref It)) _ >>= _) _ _ s;apply ah (j3 (min_next (A:=X.A.in1) (j:=j+1) hh T I (S' _ _ hL) hI (λv2 u2 oI2 s2 hv2 ru2 I2 hI2=>?_) (λs' z _=>rW z ⋯) ⋯));show bc _ X.A.in1 (tryCatch (holding [u2] (call (.ref g) [u2])) _ >>= _) _ _ _;apply ah (j3 (eu (cy (hkey _ H' _ (j+1) v2 u2 hv2 ru2 I2 S') (λkv s3 hk3=>?_) λ_ _ z=>z.elim)));obtain⟨H3,tk,I3,S3,rfl⟩:=hk3;have hS3:=I3.pin2;show bc _ X.A.in1 (tryCatch (holding [u2,.int (key (j+1)) tk] (richCompare .Lt (.int (key (j+1)) tk) (.int (key (jS key j)) tb) >>= _)) _ >>= _) _ _ _;apply ah (j3 (eu (ah (CmpOf.ints_lt (P:=λi v=>∃t,v= .int (key i) t) key (λ_ _ z=>z) (j+1) (jS key j) _ _ _ _ _ ⟨tk,rfl⟩ ⟨tb,rfl⟩ ?_))));apply ah (eu (fu ?_));apply ah (kE (aP ?_));have eb:jS key (j+1)=if decide (key (j+1)<key (jS key j))=true then j+1 else jS key j:=rfl;cases hb:decide (key (j+1)<key (jS key j)) with
  | true =>
   rw[hb,rV rfl] at eb;rw[rV hb];apply ah ?_;apply wpAny_updateSeq hS3 rfl (ah (kE ?_));rw[hname];obtain⟨c',I4⟩:=min_put T I3 #[u2,.int (key (j+1)) tk];apply aP ⟨plainId_quiet ie _,ih (j+1) _ H3 v2 u2 tk c' oI2 ⋯ hlt (S'.trans S3) (by rw[eb];exact I4) hI2 (by rw[eb];exact hv2) ru2⟩
  | false =>
   rw[hb,rT aS] at eb;rw[rT (λz=>aS (hb.symm.trans z))];apply ah (kE ?_);rw[hname];exact aP ⟨plainId_quiet ie _,ih (j+1) _ H3 v vb tb c oI2 ⋯ hlt (S'.trans S3) (by rw[eb];exact I3) hI2 (by rw[eb];exact hv) rv⟩
theorem min_first {It S L g:ak}{vs:List V}(T:Two X aR It S)(hh:X.A.handled=none)(hkey:KeyI X σ H (.ref g) vs key)(hL:H L=some (.lst vs))(hne:vs≠[])
  (fin:∀v u H' s',vs[jS key (vs.length - 1)]? =some v→gQ v u→bC H H'→Inv X aR σ H' s'→R (.ok (.ret u)) s')
  {c:Nat} (I:Inv X ((It,oI)::(S,bM "list" #[] c)::aR) σ H s) (hI:oI.cls= .type "list_iterator" ∧oI.data= .fields #[.ref L,.int ((0:Nat):Int) 0]):jI (bE X.prog X.w) X.A (.builtin "min.loop" ⟨[.ref It,.ref g,.ref S],[]⟩) R s:=by
 have hname:(toString "min" ++ toString ".loop" :String) = "min.loop" := by decide
 have hlt:0<vs.length:=List.length_pos_iff.mpr hne;have hS:=I.pin2;apply kT F.entry_min_loop ?_;rw[bY.under_plainId ie _];show bc _ X.A.in1 (seqItems? (.ref S) >>= _) _ _ s;apply ah (fZ hS rfl ?_);show bc _ X.A.in1 (tryCatch (pyNext (.ref It)) _ >>= _) _ _ s;apply ah (j3 (min_next (A:=X.A.in1) (j:=0) hh T I hL hI (λv2 u2 oI2 s2 hv2 ru2 I2 hI2=>?_) (λs' z _=>rW z ⋯) ⋯));show bc _ X.A.in1 (tryCatch (holding [u2] (call (.ref g) [u2])) _ >>= _) _ _ _;apply ah (j3 (eu (cy (hkey _ H _ 0 v2 u2 hv2 ru2 I2 (bC.refl H)) (λkv s3 hk3=>?_) λ_ _ z=>z.elim)));obtain⟨H3,tk,I3,S3,rfl⟩:=hk3;have hS3:=I3.pin2;show bc _ X.A.in1 (updateSeq S (λ_=> #[u2,.int (key 0) tk]) >>= _) _ _ _;apply ah ?_;apply wpAny_updateSeq hS3 rfl ?_;rw[hname];obtain⟨c',I4⟩:=min_put T I3 #[u2,.int (key 0) tk];exact aP ⟨plainId_quiet ie _,min_loop T hh hkey hL fin _ 0 _ H3 v2 u2 tk c' oI2 rfl hlt S3 I4 hI2 hv2 ru2⟩
theorem args_minK (a g:af):argsOk "min" ⟨[a],[(dt "key",g)]⟩:=by unfold argsOk;kernel_rfl
theorem call_minK {L g:ak}{vs:List V}(I:Inv X aR σ H s)(hh:X.A.handled=none)(hkey:KeyI X σ H (.ref g) vs key)(hL:H L=some (.lst vs))(hne:vs≠[])
  (fin:∀v u H' s',vs[jS key (vs.length - 1)]? =some v→gQ v u→bC H H'→Inv X aR σ H' s'→Q u s'):bc (bE X.prog X.w) X.A (call (.builtin "min") [.ref L] [(dt "key",.ref g)]) Q E s:=by
 have hname:(toString "min" ++ toString ".loop" :String) = "min.loop" := by decide
 apply mS F.kind_min F.plain_min F.entry_min (args_minK _ _) ?_;show bc _ X.A.in1 (fg.Builtins.bindParams "min" ["key","default"] 0 ⟨[],[(dt "key",.ref g)]⟩ >>= _) _ _ s;apply ah (wpAny_of_eq (show fg.Builtins.bindParams "min" ["key","default"] 0 ⟨[],[(dt "key",.ref g)]⟩=gf [some (.ref g),none] from rfl) ?_);apply ah (aP ?_);obtain⟨its,rv,⟨o,n,ho,hcl,_,hd⟩,_⟩:=I.list (SqL.of hL);apply ah (wpAny_pyIter_list ⟨o,ho,hcl,n,hd⟩ ?_);apply ah (fv ?_);rw[hname];obtain⟨h1,eh1⟩:∃h1,h1=s.heap.push { cls:= .type "list_iterator",data:= .fields #[.ref L,.int 0 0] }:=⟨_,rfl⟩;have z1:h1.objs.size=s.heap.objs.size+1:=by rw[eh1];exact gq ..
 rw[←eh1];obtain⟨h2,eh2⟩:∃h2,h2=h1.push { cls:= .type "list",data:= .seq #[] }:=⟨_,rfl⟩;have keep:∀b o,s.heap.get? b=some o→h2.get? b=some o:=λb o e=>by rw[eh2];apply au _ ?_;rw[eh1];exact au _ e
 have gI:h2.get? s.heap.objs.size=some { cls:= .type "list_iterator",data:= .fields #[.ref L,.int 0 0] }:=by rw[eh2];apply au _ ?_;rw[eh1];exact aW _ rfl
 have gS:h2.get? h1.objs.size=some (bM "list" #[] 0):=by rw[eh2];exact aW _ rfl
 have I2:=I.kept (t':=s.toks) keep;have lS:s.heap.objs.size≤h1.objs.size:=by lia
 have I3:Inv X ((s.heap.objs.size,{ cls:= .type "list_iterator",data:= .fields #[.ref L,.int 0 0] })::(h1.objs.size,bM "list" #[] 0)::aR) σ H { s with heap:=h2 }:=I2.pins_of λz hz=>by
  rcases aE.mp hz with rfl | hz
  ·exact⟨gI,I.hok.fresh (aC _),df I.lt,I.nofs (aC _),λv z=>by cases z⟩
  ·rcases aE.mp hz with rfl | hz
   ·exact⟨gS,I.hok.fresh lS,df (aU I.lt lS),I.nofs lS,λv z=>by cases z⟩
   ·exact I2.pin z (az _ hz)
 have old:∀b o,s.heap.get? b=some o→b≠s.heap.objs.size∧b≠h1.objs.size:=λb o e=>⟨bL (aO e),bL (aU (aO e) lS)⟩
 have T:Two X aR s.heap.objs.size h1.objs.size:=⟨I.sz,bj I.sz lS,λy d e=>by obtain⟨v,o,ho,_⟩:=I.cell y d e;exact(old d o ho).1,λy d e=>by obtain⟨v,o,ho,_⟩:=I.cell y d e;exact(old d o ho).2,λz hz=>(old _ _ (I.pin z hz).1).1,λz hz=>(old _ _ (I.pin z hz).1).2,bL (by lia:s.heap.objs.size<h1.objs.size)⟩;apply aP ⟨plainId_quiet ie _,?_⟩;rw[←eh2];exact min_first (R:=λr s'=>match r with | .ok (.ret v)=>Q v s' | .ok _=>False | .error e=>E e s') T hh hkey hL hne (λv u H' s' a1 a2 a3 a4=>fin v u H' s' a1 a2 a3 a4) I3 ⟨rfl,rfl⟩
end
def MinQ (P:ak)(lq:Str)(js:List Nat)(te:TE)(σ:St)(Q:VK)(v:V)(H1:Hp):Prop:=∃(L:ak) (vs:List V) (key:Nat→Int),v= .ref L∧H1 L=some (.lst vs)∧vs≠[]∧LamG P lq H1 ∧
 (∀i x,vs[i]? =some x→∀H2,Tb P H1 H2→te (some x::dB σ js) H2 λu H3=>bC H2 H3∧u= .int (key i)) ∧
 ∀H4 i x,Tb P H1 H4→LamG P lq H4→vs[i]? =some x→(∀j,j<vs.length→key i≤key j)→Q x H4
def tMinL (P:ak)(lq:Str)(tr:TE)(js:List Nat)(te:TE):TE:=λσ H Q=>tr σ H λv H1=>MinQ P lq js te σ Q v H1
def MinQ1 (P:ak)(lq:Str)(js:List Nat)(te:TE)(σ:St)(Q:VK):List V→Hp→Prop
 | [v],H1=>MinQ P lq js te σ Q v H1
 | _,_=>False
theorem pe_minL {tr:TE}{p kp:Pos}{c P:ak}(hc:X.calm=true)(hrm:X.A.depth<j5)(hg:Gl X "min")(hm:X.mg "min" =none)(hi:PE X re tr)
  (hd:defaultsOf params X.env=([],[])) (mN:X.env.code= .ref c) (C:codeHdIn X.K c P=true) (B:BM X.mg X.base)
  (hbind:∀q cl pm cdv ct (u:af),bindArgs (kla_fn "<lambda>" q params body scope cl pm cdv ct) ⟨[u],[]⟩=gf [(x,u)])
  (hk:scope.kind= .function) (hco:scope.isCoroutine=false) (hgen:scope.isGenerator=false) (jd:∀y∈scope.names,y.2≠ .cell) (hx:scope.names.lookup x=some .local) (hfx:x ∉ fr)
  (hfr:∀y∈scope.names,y.2= .free→X.env.scope.names.lookup y.1=some .cell) (hjs:js.map (λj=>X.N[j]?)=fr.map some) (hfv:∀y∈fr,scope.names.lookup y=some .free)
  (hb:∀cl L f cd s' H',PE (cxLam X (X.env.qual ++ "<lambda>") scope cl L f cd (x::fr) s' H') body te)
  (he:gg pos (bD [re] X.env)=(false,eG re X.env)::gg pos (bD [] X.env):=by rfl)
  (hs:bD [re] X.env=(false,eG re X.env)::bD [] X.env:=by rfl) (hpl:(gg pos (bD [re] X.env)).any (·.1)=false:=by rfl) :
  PE X (.Call (.Name "min" p) [re] [⟨some "key",.Lambda params body scope lp,kp⟩] pos) (tMinL P (X.env.qual ++ "<lambda>") tr js te):=by
 intro aR s σ H Q I h;apply eV (lT I hg hm (u:= .builtin "min") (by trivial) ?_);apply callWith_kw (kws:=[⟨some "key",.Lambda params body scope lp,kp⟩]) (thn ((ae hi aA hs) pos aR s σ H (MinQ1 P (X.env.qual ++ "<lambda>") js te σ Q) I h) λus s1 ⟨vs,H1,I1,r1,q0⟩=>?_) he hpl;apply kws_cons ?_;obtain⟨v,rfl⟩:∃v,vs=[v]:=by
  cases vs with
  | nil=>exact q0.elim
  | cons v r=>cases r with
   | nil=>exact⟨v,rfl⟩
   | cons _ _=>exact q0.elim
 have q1:MinQ P (X.env.qual ++ "<lambda>") js te σ Q v H1:=q0;obtain⟨L,vs,key,rfl,hL,hne,T,hkey,hQ⟩:=q1;obtain rfl:us=[.ref L]:=by
  cases r1 with
  | cons ru rs =>
   cases rs;exact sd (λz=>[z]) ru
 apply lam_makeG (body:=body) I1 hd mN C B hfr T λf cl H2 s2 I2 tb T2 F2 c1 c2=>?_
 apply kws_nil ?_;show bc _ _ (call (.builtin "min") [.ref L] [(dt "key",.ref f)]) _ _ _;have LP:L≠P:=λz=>by
  obtain⟨ps,e⟩:=T.tbl;rw[←z,hL] at e;cases e
 have KI:KeyI X σ H2 (.ref f) vs key:=λt H' pins' i v u hv ru I' S'=>by
  apply wpAny_of_in1 (cy (lam_call (v:=v) I' hc hrm (F2.same S') ru (λpm cdv ct=>hbind _ _ _ _ _ _) hk hco hgen jd hx hfx c1 c2 hfr hjs hfv (λL cd s' H'=>hb cl L f cd s' H') (hkey i v hv H' (tb.trans S'.tb))) (λk t' ⟨v',H'',I'',rv,S'',ev⟩=>?_) λ_ _ z=>z);subst ev;obtain⟨tk,rfl⟩:∃tk,k= .int (key i) tk:=rv;exact⟨H'',tk,I'',S'',rfl⟩
 apply call_minK I2 (I2.ok.hd hc) KI (tb _ _ LP hL) hne λv u H' s' hv ru S' I'=>?_
 obtain⟨b1,b2⟩:=best_ok key (vs.length - 1);exact⟨v,H',I',ru,hQ H' _ v (tb.trans S'.tb) (T2.same S') hv λj hj=>b2 j ⋯⟩
end L2
namespace HN
open PySem L2 PyProof.Rows
def posR (r:Int×List Stp):Bool:=decide (r.1 > 0)
def kx (b:Int)(sp:List Sn)(bs:List (Int×Int))(rg:List (Nat×List Stp)):List (Int×List Stp):=k9 sp (rg.filter λq=>sureB b bs q.2)
def oH (b:Int)(sp:List Sn)(bs:List (Int×Int))(rg:List (Nat×List Stp)):List (Int×List Stp):=(kx b sp bs rg).filter posR
theorem rowsW_pos {b:Int}{bs:List (Int×Int)}:∀(rows:List (Int×List Stp)),(∀r∈rows,0≤r.1)→oO b bs (rows.filter posR)=oO b bs rows
 | [],_=>rfl
 | r::rows,h=>by
  have ih:=rowsW_pos (b:=b) (bs:=bs) rows λt ht=>h t (aw _ ht)
  have e:oO b bs (r::rows)=r.1 * upB b (fR bs r.2) * b+oO b bs rows:=rfl;rw[hV,e]
  by_cases c:r.1 > 0
  ·rw[rV (show posR r=true from rX c)]
   show r.1 * upB b (fR bs r.2) * b+oO b bs (rows.filter posR)=_;rw[ih]
  ·rw[rT (show ¬(posR r=true) by unfold posR;rw[rY c];exact aS),ih]
   have:=h r ∅;rw[show r.1=0 by lia,fk,fk,il]
theorem own_pos {k:Nat}:∀(rows:List (Int×List Stp)) (a:Int),(∀r∈rows,0≤r.1)→(rows.filter posR).foldl (ownS k) a=rows.foldl (ownS k) a
 | [],_,_=>rfl
 | r::rows,a,h=>by
  have ih:=λa=>own_pos (k:=k) rows a λt ht=>h t (aw _ ht)
  rw[hV,bJ]
  by_cases c:r.1 > 0
  ·rw[rV (show posR r=true from rX c),bJ];exact ih _
  ·rw[rT (show ¬(posR r=true) by unfold posR;rw[rY c];exact aS),ih]
   have:=h r ∅;have e:ownS k a r=a:=by
    show ownV k a r.1 r.2=a;unfold ownV;split <;> split <;> lia
   rw[e]
theorem worth_pos {bs:List (Int×Int)}(rows:List (Int×List Stp))(h:∀r∈rows,0≤r.1):lJ b sp bs (rows.filter posR)=lJ b sp bs rows:=by
 unfold lJ;rw[rowsW_pos rows h];congr 2;apply cw λk _=>?_
 have e:owK sp (rows.filter posR) k=owK sp rows k:=own_pos rows _ h;unfold termW;rw[e]
def RBest (b:Int)(sp:List Sn)(w:Int)(bs:List (Int×Int))(d:Dt):Prop:=RDead b sp bs d∨∃rows:List (Int×List Stp),d=leafP (.price rows)∧(∀r∈rows,RowOk b sp bs r)∧rows.length≤40∧w≤lJ b sp bs rows
section
variable {m:Int}{rg:List (Nat×List Stp)}{bs:List (Int×Int)}
theorem rg_few (N:ia b m sp)(f:FF m sp l rg):rg.length≤40:=by
 have hn:((rg.map (·.1)).map λn:Nat=>(n:Int)).Nodup:=by
  rw[cb,dQ];exact(cb.mp f.one).imp λhh e=>hh ⋯
 have:=mz (l:=(rg.map (·.1)).map λn:Nat=>(n:Int)) (k:=(aJ sp.length).map λn:Nat=>(n:Int)) hn λz hz=>by
  obtain⟨i,hi,rfl⟩:=aL.mp hz;obtain⟨q,hq,rfl⟩:=aL.mp hi;exact aL.mpr ⟨_,bF.mpr (f.rk q hq).lt,rfl⟩
 rw[aa,aa,aa,bq] at this;have:=N.few;lia
theorem sureR_w (N:ia b m sp)(f:FF m sp l rg):∀r∈kx b sp bs rg,0≤r.1:=λr hr=>by
 obtain⟨q,hq,rfl⟩:=aL.mp hr;exact(N.all _ (eD (f.rk q (bZ.mp hq).1).lt)).w0
theorem price_ok (N:ia b m sp)(f:FF m sp l rg):(∀r∈oH b sp bs rg,RowOk b sp bs r)∧(oH b sp bs rg).length≤40:=by
 have m2:=N.m2;have fw:=f.few;apply⟨λr hr=>?_,?_⟩
 ·obtain⟨q,hq,rfl⟩:=aL.mp (bZ.mp hr).1
  obtain⟨h1,h2⟩:=bZ.mp hq;have K:=f.rk q h1;have sn:=N.all _ (eD K.lt);exact⟨K.rg N ⋯,h2,by have:=sn.w0;show -1000000000000≤(sAt sp q.1).w;lia,sn.w1⟩
 ·apply bj (fG _ _) ?_
  unfold kx k9;rw[aa];exact bj (fG _ _) (rg_few N f)
theorem price_tight (N:ia b m sp)(f:FF m sp l rg)(O:OB sp l bs)(x:Fx b l rg bs):∃ts,fF b ts sp=true∧bU b ts sp=lJ b sp bs (oH b sp bs rg):=by
 obtain⟨ts,_,_,h1,h2⟩:=tight N f O x;have fs:=fx_sure N f O x;have e:rg.filter (λq=>sureB b bs q.2)=rg:=nR.mpr λq hq=>(fs.2 _ (aL.mpr ⟨q,hq,rfl⟩)).2.1
 apply⟨ts,h1,h2.trans ?_⟩;unfold oH;rw[worth_pos _ (sureR_w N f)];unfold kx;rw[e]
theorem tight_in (N:ia b m sp)(f:FF m sp l rg)(O:OB sp l bs)(x:Fx b l rg bs):∃ts,fF b ts sp=true∧InB (jb b ts sp) bs:=by
 obtain⟨π,hπ⟩:=f.acy.pot λk=>(bs.getD k (0,0)).1
 have m1:=N.m1;have key:=key_pot N f O x (ts:=potT b π m.toNat) (π:=π) hπ λk hk=>by
  have s:=N.all _ (eD hk);exact wait_pot s.s0 (by have:=s.s1;lia) s.g0 (by have:=s.g1;lia)
 apply⟨potT b π m.toNat,fits_lay (m:=m) λk hk=>?_,λk hk=>key k (by rw[←O.len];exact hk)⟩;have:=key k hk;have:=(O.lo k hk).2.2;lia
theorem fx_other (N:ia b m sp)(f:FF m sp l rg)(f':FF m sp l rg')(O:OB sp l bs)(x:Fx b l rg' bs):Fx b l rg bs:=by
 obtain⟨ts,_,hin⟩:=tight_in N f' O x;have m2:=N.m2;have fw:=f.few;exact⟨x.fix,λq hq=>dead_none (by have:=N.b1;lia) O.len hin ((f.rk q hq).rg N ⋯)⟩
theorem leafW_price (rows:List (Int×List Stp)):LeafW (leafP (.price rows)):=by
 apply⟨?_,"price",.tup (rows.map rowD),rfl,↥0⟩;show(true && (pl (.tup (rows.map rowD)) && true))=true;rw[show pl (.tup (rows.map rowD))=true from lh rows λr _=>by show(true && (pl (oB r.2) && true))=true;rw[show pl (oB r.2)=true from mG _ _];rfl];rfl
end
abbrev sFirst:cJ:=top 15
theorem scFirst:bW pza pza (defScope sFirst):=by trivial
theorem ok_first (F:Fun K "first_bounds" "first_bounds" sFirst f fd)(T:Nm mg):cG P w K mg base CX0 1 f fd pza spFirst:=by
 specialize F.ok scFirst;obtain⟨v,b,m,sp,rfl,hv,few,k⟩:=h;obtain⟨t,p,ys,rfl,ht,hp,hl,hy⟩:=eU hv;apply⟨_,PSl.h (cW ⟨(cf (dk fU rfl T.ttup eX (ae (gm (fr:=[]) (js:=[]) rfl (jj (ixZ (pv 0))) (by trivial) rfl (by trivial) rfl (by exists sFirst) (by trivial) rfl (by trivial) (λ_ _ _ _ _=>⟨(dh (ae (eM (r:=pj K) eJ (pv 0) bI (λ_ _=>rfl)) (ae (eM (r:=pj K) eJ (pv 0) bI (λ_ _=>rfl)) aA))),fW⟩)) aA)))⟩),?_⟩;apply⟨_,rfl,t,_,_,_,rfl,rfl,SqT.of ht,aB (j:=2) rfl,p,rfl,⟨_,SqT.of hp⟩,?_⟩;apply iJ (K:=K) (a:=p) (xs:=ys) (λi zs H2=>bC H H2∧dW H2 zs (((sp.take i).map λx=>(x.l,x.o)).map λx=> .tup ((bndR x).map Dt.int))) ⟨bC.refl H,.nil⟩ (λi zs H2 hi ⟨e1,e2⟩=>?_) (by rw[hl];exact dm few) (λi x zs H2 hx ⟨e1,e2⟩=>?_) (λzs H2 ⟨e1,e2⟩ D hD=>?_)
 ·apply⟨SqT.of (e1 _ _ hp),?_⟩
  rw[e2.length,aa,aa,bw];lia
 ·have hi:i<sp.length:=by rw[←hl];exact(ao.mp hx).1
  obtain⟨q,hq,hq2⟩:=hy i sp[i] (gE hi);rw[hx] at hq;cases hq;have hq3:=e1 _ _ hq2;apply eS ?_;apply⟨_,rfl,q,_,_,_,rfl,rfl,SqT.of hq3,aB (j:=2) rfl,_,rfl,q,_,_,_,rfl,rfl,SqT.of hq3,aB (j:=3) rfl,oN,λq4 H4 S4 h4=>⟨e1.trans S4,?_⟩⟩;rw[aY,gE hi,ax,ax];exact(e2.same S4).append (.cons (.tup h4 (dW.ints [sp[i].l,sp[i].o])) .nil)
 ·apply⟨D,_,rfl,SqL.of aN,λp3 H3 S3 h3=>?_⟩
  have S23:=(bC.put (o:= .lst zs) (bC.refl H2) hD).trans S3;apply k (.ref p3) H3 (e1.trans S23) (.tup h3 ?_);rw[hl,aX] at e2;exact e2.same S23
abbrev sWithB:cJ:=top 35
theorem cutU {i:Int}(hi:i=(n:Int)):cutV xs none (some i)=xs.take n:=by
 unfold cutV;subst hi;have e:=HT.sIx_nat xs.length xs.length n;rw[e];show(xs.drop 0).take (min n xs.length - 0)=xs.take n;rw[List.drop_zero,Nat.sub_zero]
 by_cases h:n≤xs.length
 ·rw[Nat.min_eq_left h]
 ·rw[Nat.min_eq_right ⋯,aX,ig ⋯]
theorem cutF {i:Int}(hi:i=(n:Int)):cutV xs (some i) none=xs.drop n:=by
 unfold cutV;subst hi;have e:=HT.sIx_nat xs.length 0 n;rw[e];show(xs.drop (min n xs.length)).take (xs.length - min n xs.length)=xs.drop n
 by_cases h:n≤xs.length
 ·rw[Nat.min_eq_left h,ig (by rw[d7];lia)]
 ·rw[Nat.min_eq_right ⋯,List.drop_length,List.drop_of_length_le ⋯,List.take_nil]
theorem scWithB:bW pzx pzx (defScope sWithB):=by trivial
theorem ok_withB (F:Fun K "with_bound" "with_bound" sWithB f fd):cG P w K mg base CX0 1 f fd pzx spWithB:=by
 specialize F.ok scWithB;obtain⟨vb,n,lo,hi,bs,rfl,hb,hn,few,k⟩:=h;obtain⟨pb,yb,rfl,hpb,hlb,rb⟩:=jq hb;apply⟨_,PSl.h (cW ⟨(cf (cS oo (cS oo (pH sl_tupN (pv 0) po_none (po_some (pv 1))) (dh (ae (dh (ae (pv 2) (ae (pv 3) aA))) aA))) (pH sl_tupN (pv 0) (po_some (cS gh (pv 1) bI)) po_none)))⟩),?_⟩;have lyb:yb.length≤40:=by lia
 apply⟨_,rfl,_,rfl,_,rfl,pb,_,rfl,hpb,λqB HB SB hB=>⟨_,rfl,_,rfl,oN,λq1 H1 S1 h1=>⟨szZ1,λqC HC SC hC=>?_⟩⟩⟩;rw[cutU (n:=n) rfl] at hB;apply⟨qB,qC,_,_,rfl,rfl,SC _ _ (S1 _ _ hB),hC,?_,λqD HD SD hD=>?_⟩
 ·rw[bw];exact bj (by show min n yb.length+1≤1000;lia) ↥0
 apply⟨_,rfl,_,rfl,_,_,rfl,rfl,_,rfl,pb,_,rfl,SD _ _ (SC _ _ (S1 _ _ (SB _ _ hpb))),λqE HE SE hE=>?_⟩;rw[cutF (n:=n+1) ⋯] at hE;apply⟨qD,qE,_,_,rfl,rfl,SE _ _ hD,hE,?_,λqF HF SF hF=>?_⟩
 ·rw[av,bw,d7];exact bj (by show min n yb.length+1+(yb.length - (n+1))≤1000;lia) ↥0
 have S1F:bC H1 HF:=SC.trans (SD.trans (SE.trans SF));have SF':bC H HF:=SB.trans (S1.trans S1F);apply k (.ref qF) HF SF' (.tup hF ?_);have e:bs.set n (lo,hi)=bs.take n++[(lo,hi)]++bs.drop (n+1):=by
  rw[List.set_eq_take_append_cons_drop,rV hn,List.append_assoc];rfl
 rw[e,ax,ax,List.map_take,List.map_drop];exact((dW.takeN n (rb.same SF')).append (.cons (.tup (S1F _ _ h1) (dW.ints [lo,hi])) .nil)).append (dW.dropN (n+1) (rb.same SF'))
abbrev cCuts:cJ:=top 41
abbrev rh:cJ:=clsOf cCuts 0
abbrev sSpanC:cJ:=clsOf cCuts 1
abbrev sSidesC:cJ:=clsOf cCuts 2
def lamPosC:List cJ→Pos
 | [_,_,_,_,.Assign _ (.Call _ _ [⟨_,.Lambda _ _ _ lp,_⟩] _) _]=>lp
 | _=>⟨0,0,0,0⟩
abbrev lpC:Pos:=lamPosC (fX rh)
abbrev lqC:Str:=(("Cuts.__init__" :Str) ++ ".<locals>.") ++ "<lambda>"
theorem lenNC (K:ai)(hK:X.K=K:=by rfl):ke X (.builtin "len") (λxs H Q=>∃p ys,xs=[.ref p]∧(SqL K H p ys∨SqT K H p ys)∧Q (.int ys.length) H):=by subst hK;exact dA
structure CutC (K:ai)(C:ak):Prop where
 cl:Cls K C
 n1:nQ K C "first_case"
 n2:nQ K C "touched"
 n3:nQ K C "order"
theorem scInitC:bW ["self","net","rings","touched"] ["self","net"] (defScope rh):=by trivial
theorem ok_initC {c:ak}(F:Fun K "__init__" "Cuts.__init__" rh f fd)(hcd:fd.code= .ref c)(CH:eP K c T1=true)(B:BM mg base)(ne:T0≠T1)(T:Nm mg)(T2:Nt mg)(ms:mg "sorted" =none)(CC:CutC K C)
  (G1:Fn K mg "rings_of" p9 pza f1 fd1) (F1:cG P w K mg base CX0 8 f1 fd1 pza (oZ T0 p0 q0))
  (G2:Fn K mg "rings_over" sOverR pzw f2 fd2) (G3:Fn K mg "first_bounds" sFirst pza f3 fd3)
  (G4:Fn K mg "forest_of" lO pza f4 fd4) (F4:cG P w K mg base CX0 6 f4 fd4 pza (k5 T0 p0 q0)):cG P w K mg base CX0 9 f fd ["self","net"] (spInitC T0 p0 q0 T1 lpC lqC C):=by
 have F2:cG P w K mg base CX0 1 f2 fd2 pzw spOverR:=ok_overR G2.F;have F3:cG P w K mg base CX0 1 f3 fd3 pza spFirst:=ok_first G3.F T;apply okC F hcd scInitC (by contradiction) (fun A outer s H vs Q E hr h=>?_);obtain ⟨x,dx,v,b,m,sp,rfl,hx,hv,N,hT0,hT1,k⟩:=h;have hr1:iD 1 _:=hr.mono ↥0;have hr6:iD 6 _:=hr.mono ↥0;have E:=N.ends;have few:=N.few;have m1:=N.m1;have m2:=N.m2;apply ⟨_,PSl.h (aZ ⟨(psZ 2 scInitC.nd (pc1 G1 F1 hr (ae (pv 1) aA)))⟩
  (aZ ⟨(psZ 3 scInitC.nd (gm (fr:=["rings"]) (js:=[2]) rfl (hX rfl T2.range (ae (d5 dA rfl T.len cV (ae (ixZ (pv 1)) aA)) aA)) (by trivial) rfl (by trivial) rfl (by exists rh) (by trivial) rfl (by trivial) (fun _ _ _ _ _=>⟨(pc1 G2 F2 hr1 (ae (pv 1) (ae (pv 0) aA))),fW⟩)))⟩
  (aZ ⟨(ps_fld (pv 0) (dh (ae (pc1 G3 F3 hr1 (ae (pv 1) aA)) (ae (pv 2) aA))) rfl)⟩
  (aZ ⟨(ps_fld (pv 0) (pv 3) rfl)⟩
  (cW ⟨(ps_fld (pv 0) (pe_sortT (js:=[3]) (fr:=["touched"]) (x := "span") (c:=c) (P:=T1) rfl hr.depth rfl ms (pc1 G4 F4 hr6 (ae (pv 1) aA)) rfl rfl CH B (fun _ _ _ _ _ _=>rfl) rfl rfl rfl (by trivial) rfl ↥0 (by exists rh) rfl (by trivial)
   (fun cl L f' cd s' H'=>pe_tup (ae (pe_un un_neg (d5 (lenNC K) rfl T.len cV (ae (eM (r:=rIxL K) fP (pv 1) (pv 0) (fun _ _=>rfl)) aA))) (ae (pv 0) aA)))) rfl)⟩))))),?_⟩
 apply⟨_,rfl,v,b,m,sp,rfl,hv,N,hT0,λL rl l rg H1 tb1 hT01 fL hL dL R=>?_⟩;have fr:=R.fr;have xT0:x≠T0:=by obtain⟨ps,h⟩:=LamT.tbl hT0;exact fb hx h nofun
 have xT1:x≠T1:=by obtain⟨ps,h⟩:=LamT.tbl hT1;exact fb hx h nofun
 have K1:Kp H H1:=Tb.kp hT0 tb1;have hT11:=LamT.ntb hT1 hT0 (cx ne) tb1;have hx1:=tb1 x _ xT0 hx;have hv1:=cq K1.tup hv;have tl:l.length≤15:=by have:=fr.few E ⋯;lia
 have lrg:rg.length≤40:=by
  have:rg.length=(qh sp l).length:=by rw[←R.ks,aa]
  have h2:(qh sp l).length≤sp.length:=by unfold qh;exact bj (fG _ _) (by rw[bq];exact aC _)
  lia
 have lng:∀q∈rg,q.2.length≤1000:=λq hq=>by
  have:=((R.rk q hq).rg N tl).few;lia
 have st1:∀a o,a≠T0→a≠T1→a≠x→H a=some o→H1 a=some o:=λa o n0 _ _ e=>tb1 a o n0 e
 obtain⟨t,p,ys,ev,ht,hp,hl,hy⟩:=eU hv1;subst ev;clear hy hv fL tb1;apply⟨_,rfl,t,_,_,_,rfl,rfl,SqT.of ht,aB (j:=2) rfl,p,_,rfl,.inr (SqT.of hp),_,rfl,⋯,⋯,?_⟩;apply jG (n:=((ys.length:Int)).toNat) (λi zs HC=>bC H1 HC∧zs.length=i∧∀j,j<i→∃u ql,zs[j]? =some (.ref u)∧HC u=some (.lst ql)∧dW HC ql ((rg.filter (i6 j)).map wayQ)) ⟨bC.refl H1,rfl,λj hj=>rW hj (Nat.not_lt_zero _)⟩ (λi zs HC hi ⟨_,e2,_⟩=>Nat.le_of_eq e2) (dm ⋯) (λi zs HC hi ⟨S,lz,dz⟩=>?_) (λzs HC ⟨S,lz,dz⟩ D hD=>?_)
 ·rw[il]
  apply eS ⟨_,rfl,_,rfl,L,i,rl,rg,rfl,S _ _ hL,dL.same S,lrg,lng,λL' rl' H2 S2 f2 h2 d2=>⟨S.trans S2,by rw[av,lz];rfl,λj hj=>?_⟩⟩
  rcases ju.mp hj with z | z
  ·obtain⟨u,ql,a1,a2,a3⟩:=dz j z
   exact⟨u,ql,by rw[eC ⋯];exact a1,S2 _ _ a2,a3.same S2⟩
  ·subst z
   exact⟨L',rl',by rw[bT ⋯,lz,Nat.sub_self];rfl,h2,d2⟩
 have S1:bC H1 (upd HC D (.lst zs)):=S.trans (bC.put (bC.refl HC) hD);have tch:TchD (upd HC D (.lst zs)) D sp.length rg:=by
  apply⟨zs,aN,by rw[lz];lia,λj hj=>?_⟩;obtain⟨u,ql,a1,a2,a3⟩:=dz j ⋯;have S2:bC HC (upd HC D (.lst zs)):=bC.put (bC.refl HC) hD;exact⟨u,ql,a1,S2 _ _ a2,a3.same S2⟩
 generalize upd HC D (.lst zs)=H2 at S1 tch ⊢;clear dz hD;apply⟨_,rfl,.ref t,b,m,sp,rfl,hv1.same S1,⋯,λub H3 S3 hub=>⟨_,rfl,oN,λq4 H4 S4 h4=>⟨_,rfl,x,C,dx,_,rfl,S4 _ _ (S3 _ _ (S1 _ _ hx1)),CC.cl,CC.n1,↥0,?_⟩⟩⟩;have S14:bC H1 H4:=S1.trans (S3.trans S4);have cs4:CsD H4 q4 (sp.map λz=>(z.l,z.o)) rg:=⟨ub,L,rl,h4,hub.same S4,S14 _ _ hL,dL.same S14⟩;have tch4:=tch.kp (bC.kp (S3.trans S4));have hx4:=S14 _ _ hx1;have K4:Kp H4 (upd H4 x (.ins C dx (mV "first_case" (.ref q4) []))):=Kp.upd hx4;have st5:∀a o,a≠T0→a≠T1→a≠x→H a=some o→(upd H4 x (.ins C dx (mV "first_case" (.ref q4) []))) a=some o:=λa o n0 n1 n2 e=>by rw[bz n2];exact S14 _ _ (st1 a o n0 n1 n2 e)
 have kp5:Kp H (upd H4 x (.ins C dx (mV "first_case" (.ref q4) []))):=K1.trans ((bC.kp S14).trans K4);have hx5:(upd H4 x (.ins C dx (mV "first_case" (.ref q4) []))) x=some (.ins C dx [("first_case",.ref q4)]):=aN;have hT05:=mf (o:= .ins C dx (mV "first_case" (.ref q4) [])) (LamT.same S14 hT01) hx4;have hT15:=mf (o:= .ins C dx (mV "first_case" (.ref q4) [])) (LamT.same S14 hT11) hx4;have hv5:=cq K4.tup (hv1.same S14);have cs5:=cs4.kp K4;have tch5:=tch4.kp K4;generalize upd H4 x (.ins C dx (mV "first_case" (.ref q4) []))=H5 at st5 kp5 hx5 hT05 hT15 hv5 cs5 tch5 ⊢;clear K4 hx4 tch4 cs4 S14 h4 S4 hub S3 tch S1 ht hp st1 hv1 hT11 hT01 hx1 K1 dL hL;apply⟨_,rfl,_,rfl,x,C,dx,_,rfl,hx5,CC.cl,CC.n2,(by show 1<1000;decide),?_⟩;have K5:Kp H5 (upd H5 x (.ins C dx (mV "touched" (.ref D) [("first_case",.ref q4)]))):=Kp.upd hx5;have st6:∀a o,a≠T0→a≠T1→a≠x→H a=some o→(upd H5 x (.ins C dx (mV "touched" (.ref D) [("first_case",.ref q4)]))) a=some o:=λa o n0 n1 n2 e=>by rw[bz n2];exact st5 a o n0 n1 n2 e
 have kp6:=kp5.trans K5;have hx6:(upd H5 x (.ins C dx (mV "touched" (.ref D) [("first_case",.ref q4)]))) x=some (.ins C dx [("first_case",.ref q4),("touched",.ref D)]):=aN;have hT06:=mf (o:= .ins C dx (mV "touched" (.ref D) [("first_case",.ref q4)])) hT05 hx5;have hT16:=mf (o:= .ins C dx (mV "touched" (.ref D) [("first_case",.ref q4)])) hT15 hx5;have hv6:=cq K5.tup hv5;have cs6:=cs5.kp K5;have tch6:=tch5.kp K5;generalize upd H5 x (.ins C dx (mV "touched" (.ref D) [("first_case",.ref q4)]))=H6 at st6 kp6 hx6 hT06 hT16 hv6 cs6 tch6 ⊢;clear K5 st5 kp5 hx5 hT05 hT15 hv5 cs5 tch5;apply⟨_,rfl,.ref t,b,m,sp,rfl,hv6,N,hT06,λu H7 ns tb7 hT07 hu F0=>?_⟩;obtain⟨l',π0,rfl,O0,pm0⟩:=F0.natsF;have el:l'=l:=jh.one (m:=m.toNat) (sp:=sp) ⟨F0,π0,O0,pm0⟩ fr;subst el;have K6:Kp H6 H7:=Tb.kp hT06 tb7;have hT17:=LamT.ntb hT16 hT06 (cx ne) tb7;have hx7:=tb7 x _ xT0 hx6;have st7:∀a o,a≠T0→a≠T1→a≠x→H a=some o→H7 a=some o:=λa o n0 n1 n2 e=>tb7 a o n0 (st6 a o n0 n1 n2 e)
 have kp7:=kp6.trans K6;have cs7:=cs6.kp K6;have tch7:=tch6.kp K6;clear K6 st6 kp6 hx6 hT06 hT16 hv6 cs6 tch6 tb7;have hlt:=(fr.pots E).nodup.2;have hnd:=(fr.pots E).nodup.1;have lns:(l'.map λ(i:Nat)=>(i:Int)).length=l'.length:=aa ..;have gns:∀i,i<l'.length→(l'.map λ(i:Nat)=>(i:Int)).getD i 0=((l'.getD i 0:Nat):Int):=λi hi=>by
  rw[ag,ar,ag,gE hi];rfl
 apply⟨u,l'.map λ(i:Nat)=>(i:Int),λi=>(-(((rg.filter (i6 (l'.getD i 0))).length:Nat):Int),((l'.getD i 0:Nat):Int)),rfl,hu,by rw[lns];lia,hT17,?_,λi hi H8 tb8=>?_,λD2 H8 π tb8 hT18 f8 pm8 _=>?_⟩
 ·apply List.Pairwise.of_map (S:=λa c:Int=>a≠c) Prod.snd (λa c h e=>h (by rw[e])) ?_
  rw[cg,lns];have e:(aJ l'.length).map (Prod.snd ∘ λi=>(-(((rg.filter (i6 (l'.getD i 0))).length:Nat):Int),((l'.getD i 0:Nat):Int)))=l'.map λ(i:Nat)=>(i:Int):=by
   apply List.ext_getElem (by rw[aa,aa,bq]) λi h1 h2=>?_
   rw[aa,bq] at h1;rw[List.getElem_map,List.getElem_range,List.getElem_map];show((l'.getD i 0:Nat):Int)=_;rw[ag,gE h1];rfl
  rw[e,dQ];exact(cb.mp hnd).imp λhh e=>hh ⋯
 ·rw[lns] at hi
  rw[gns i hi];obtain⟨tv,a1,a2,a3⟩:=tch7.ex;have hk:l'.getD i 0<sp.length:=by
   rw[ag,gE hi];exact hlt _ (bH hi)
  obtain⟨uu,ql,b1,b2,b3⟩:=a3 _ hk;have K8:Kp H7 H8:=Tb.kp hT17 tb8;have lq:ql.length=(rg.filter (i6 (l'.getD i 0))).length:=by rw[b3.length,aa]
  apply⟨_,rfl,_,rfl,D,_,_,_,rfl,rfl,SqL.of (K8.lst _ _ a1),aB b1,uu,_,rfl,.inl (SqL.of (K8.lst _ _ b2)),_,rfl,_,rfl,oN,λa9 h9=>⟨bC.put (bC.refl H8) h9,a9,rfl,?_⟩⟩;rw[aN,lq]
 ·have K8:Kp H7 H8:=Tb.kp hT17 tb8
  have S9:bC H8 (upd H8 D2 (.lst (π.map λ(i:Nat)=>V.int ((l'.map λ(i:Nat)=>(i:Int)).getD i 0)))):=bC.put (bC.refl H8) f8;have h9:(upd H8 D2 (.lst (π.map λ(i:Nat)=>V.int ((l'.map λ(i:Nat)=>(i:Int)).getD i 0)))) D2=some (.lst ((π.map λi=>l'.getD i 0).map λ(i:Nat)=>V.int i)):=by
   rw[aN,cg];congr 2;apply cw λi hi=>?_
   have:=bF.mp (pm8.mem_iff.mp hi);rw[lns] at this;rw[gns i this];rfl
  generalize upd H8 D2 (.lst (π.map λ(i:Nat)=>V.int ((l'.map λ(i:Nat)=>(i:Int)).getD i 0)))=H9 at S9 h9 ⊢;have hx9:=S9 _ _ (tb8 x _ xT1 hx7);apply⟨_,rfl,x,C,dx,_,rfl,hx9,CC.cl,CC.n3,(by show 2<1000;decide),?_⟩;have K9:Kp H7 H9:=K8.trans (bC.kp S9);have hT08:=LamT.same S9 (LamT.ntb hT07 hT17 ne tb8);have hT19:=LamT.same S9 hT18;have KX:Kp H9 (upd H9 x (.ins C dx (mV "order" (.ref D2) [("first_case",.ref q4),("touched",.ref D)]))):=Kp.upd hx9;apply k l' rg _ (λa o n0 n1 n2 e=>?_) (kp7.trans (K9.trans KX)) (mf hT08 hx9) (mf hT19 hx9) R ⟨dx,q4,D,D2,_,aN,(cs7.kp K9).kp KX,(tch7.kp K9).kp KX,KX.lst _ _ h9,ord_perm (by rw[lns] at pm8;exact pm8)⟩;rw[bz n2];exact S9 _ _ (tb8 a o n1 (st7 a o n0 n1 n2 e))
theorem scSpanC:bW ["self","case","span","bound"] ["self","case"] (defScope sSpanC):=by trivial
theorem ok_spanC (F:Fun K "span_to_cut" "Cuts.span_to_cut" sSpanC f fd)(CC:CutC K C):cG P w K mg base CX0 1 f fd ["self","case"] (spSpanC C):=by
 specialize F.ok scSpanC;obtain ⟨x,c,sp,l,rg,rs,bs,rfl,hx,hc,hl,few,k1,k2⟩:=h;obtain ⟨dx,c0,tl,ol,ord,h1,h2,h3,h4,h5⟩:=hx.ex;obtain ⟨vb,u,rl,c1,c2,c3,c4⟩:=hc.ex;obtain ⟨pb,yb,rfl,hpb,hlb,rb⟩:=jq c2;apply ⟨_,PSl.h (aZ ⟨(iP bR rfl (jZ (pe_fld (pv 0) rfl)) (pgZ 2 scSpanC.nd) (PSl.h (aZ ⟨(psZ 3 scSpanC.nd (eM eJ (ixZ (pv 1)) (pv 2) (fun _ _=>rfl)))⟩
  (cW ⟨(ib (cT op_lt (ixZ (pv 3)) (ixZ (pv 3)) (dI _)) (cL (cf (pv 2))) dX)⟩))))⟩
  (cW ⟨(cf jz)⟩)),?_⟩
 apply⟨_,rfl,x,C,dx,_,_,rfl,h1,CC.cl,CC.n3,rfl,ol,rfl,⟨_,SqL.of h4⟩,?_⟩;apply mj (K:=K) (a:=ol) (xs:=ord.map λ(i:Nat)=>V.int i) (λi σ H1=>H1=H∧(∀j∈ord.take i,¬((bs.getD j (0,0)).1<(bs.getD j (0,0)).2))∧∃v2 v3,σ=[some (.ref x),some (.ref c),v2,v3]) ⟨rfl,λ_ h=>rW h ∅,none,none,rfl⟩ (λi σ H1 _ ⟨e,_⟩=>by rw[e];exact SqL.of h4) ?_ ?_
 ·rintro i y σ H1 hy ⟨rfl,hal,v2,v3,rfl⟩
  obtain⟨j,hj,rfl⟩:=mapI_at hy;have hm:j∈ord:=bp hj;have hjl:=h5.mem_iff.mp hm;have hjb:=hl j hjl;obtain⟨q,hq,hq2⟩:=kI rb (gE hjb);have e0:bs.getD j (0,0)=bs[j]:=by rw[ag,gE hjb];rfl
  apply⟨_,rfl,c,_,_,_,rfl,rfl,SqT.of c1,aB (j:=0) rfl,_,rfl,pb,_,_,_,rfl,rfl,SqT.of hpb,aB (j:=j) hq,?_⟩;apply⟨_,rfl,q,_,_,_,rfl,rfl,SqT.of hq2,aB (j:=0) rfl,_,rfl,q,_,_,_,rfl,rfl,SqT.of hq2,aB (j:=1) rfl,_,_,rfl,rfl,_,rfl,?_⟩;show if decide (bs[j].1<bs[j].2)=true then _ else _;apply ite2 (λhc=>?_) (λhc=>?_)
  ·exact⟨_,rfl,k2 j hjl (by rw[e0];exact rZ hc)⟩
  ·apply⟨rfl,λz hz=>?_,_,_,rfl⟩
   rw[aY,hj] at hz
   rcases aQ.mp hz with y | y
   ·exact hal z y
   ·rw[ay.mp (show z∈[j] from y),e0]
    exact λw=>hc (rX w)
 ·rintro σ H1 ⟨rfl,hal,v2,v3,rfl⟩
  rw[aa,aX] at hal;exact k1 λj hj=>hal j (h5.mem_iff.mpr hj)
theorem o9:bW ["self","case","span","at","bounds","one","other"] pzJ (defScope sSidesC):=by trivial
theorem ok_sidesC (F:Fun K "sides" "Cuts.sides" sSidesC f fd)(CC:CutC K C)(G1:Fn K mg "with_bound" sWithB pzx f1 fd1):cG P w K mg base CX0 2 f fd pzJ (spSidesC C):=by
 have F1:cG P w K mg base CX0 1 f1 fd1 pzx spWithB:=ok_withB G1.F;specialize F.ok o9;obtain⟨Hb,x,c,n,a,sp,l,rg,rs,bs,rfl,Sb,hx,hc,hn,lb,few,k⟩:=h;obtain⟨dx,c0,tl,ol,ord,h1,h2,h3,h4,h5⟩:=hx.ex;obtain⟨tv,t1,t2,t3⟩:=h3.ex;obtain⟨u,ql,b1,b2,b3⟩:=t3 n ⋯;obtain⟨vb,u0,rl,c1,c2,c3,c4⟩:=hc.ex;obtain⟨pb,yb,rfl,hpb,hlb,rb⟩:=jq c2;obtain⟨qn,hqn,hqn2⟩:=kI rb (gE hn);have e0:bs.getD n (0,0)=bs[n]:=by rw[ag,gE hn];rfl
 have e1:lR bs n a=bs.set n (bs[n].1,a):=by unfold lR;rw[e0]
 have e2:fI bs n a=bs.set n (a+1,bs[n].2):=by unfold fI;rw[e0]
 apply ⟨_,PSl.h (aZ ⟨(psZ 4 o9.nd (ixZ (pv 1)))⟩
  (aZ ⟨(psZ 5 o9.nd (pc1 G1 F1 hr (ae (pv 4) (ae (pv 2) (ae (ixZ (eM eJ (pv 4) (pv 2) (fun _ _=>rfl))) (ae (pv 3) aA))))))⟩
  (aZ ⟨(psZ 6 o9.nd (pc1 G1 F1 hr (ae (pv 4) (ae (pv 2) (ae (cS gh (pv 3) bI) (ae (ixZ (eM eJ (pv 4) (pv 2) (fun _ _=>rfl))) aA))))))⟩
  (cW ⟨(cf (i5 (ae (dh (ae (pv 6) (ae (eM fP (pe_fld (pv 0) rfl) (pv 2) (fun _ _=>rfl)) aA))) (ae (dh (ae (pv 5) (ae (eM fP (pe_fld (pv 0) rfl) (pv 2) (fun _ _=>rfl)) aA))) aA))))⟩)))),?_⟩
 apply⟨_,rfl,c,_,_,_,rfl,rfl,SqT.of c1,aB (j:=0) rfl,?_⟩;apply⟨_,rfl,_,rfl,_,rfl,_,rfl,pb,_,_,_,rfl,rfl,SqT.of hpb,aB (j:=n) hqn,qn,_,_,_,rfl,rfl,SqT.of hqn2,aB (j:=0) rfl,_,rfl,.ref pb,n,bs[n].1,a,bs,rfl,c2,hn,few,λu1 H1 S1 hu1=>?_⟩;apply⟨_,rfl,_,rfl,_,rfl,_,_,rfl,rfl,_,rfl,_,rfl,pb,_,_,_,rfl,rfl,SqT.of (S1 _ _ hpb),aB (j:=n) hqn,qn,_,_,_,rfl,rfl,SqT.of (S1 _ _ hqn2),aB (j:=1) rfl,.ref pb,n,a+1,bs[n].2,bs,rfl,c2.same S1,hn,few,λu2 H2 S2 hu2=>?_⟩;have S02:=S1.trans S2;have Sb2:=Sb.trans S02;apply⟨_,rfl,_,rfl,x,C,dx,_,_,rfl,Sb2 _ _ h1,CC.cl,CC.n2,rfl,_,rfl,tl,_,_,_,rfl,rfl,SqL.of (Sb2 _ _ t1),aB b1,oN,λq3 H3 S3 h3'=>?_⟩;apply⟨_,rfl,_,rfl,x,C,dx,_,_,rfl,S3 _ _ (Sb2 _ _ h1),CC.cl,CC.n2,rfl,_,rfl,tl,_,_,_,rfl,rfl,SqL.of (S3 _ _ (Sb2 _ _ t1)),aB b1,oN,λq4 H4 S4 h4'=>?_⟩;apply⟨oN,λL hL=>?_⟩;have S5:bC H4 (upd H4 L (.lst [.ref q3,.ref q4])):=bC.put (bC.refl H4) hL;have S25:=S3.trans (S4.trans S5);apply k L q3 q4 _ (S02.trans S25) (bC.free (S02.trans (S3.trans S4)) hL) aN ⟨u2,u,ql,S5 _ _ (S4 _ _ h3'),?_,b2,b3⟩ ⟨u1,u,ql,S5 _ _ h4',?_,b2,b3⟩
 ·rw[e2];exact hu2.same S25
 ·rw[e1];exact(hu1.same S2).same S25
abbrev sSpread:cJ:=top 28
inductive spSpread (T:ak)(lp:Pos)(lq:Str)(vs:List V)(H:Hp)(Q:VK)(_:XK):Prop
 | mk (v:V)(b m:Int)(sp:List Sn)(_:vs=[v])(_:IsD H v (jA b m sp))(_:ia b m sp)(_:L2.LamT T lp lq H)(_:∀(L:ak) (zs:List V) (l:List Nat) (S:List Stp) (H':Hp),L2.Tb T H H'→L2.LamT T lp lq H'→H L=none→H' L=some (.lst zs)→dW H' zs (dO Stp.row S)→jh m.toNat sp l→SprOk m.toNat sp l S→Q (.ref L) H')
structure JS (H Hc:Hp)(Da Ls:ak)(R:List Int)(S:List Stp)(n:Nat):Prop where
 same:bC H Hc
 da:∃kvs,Hc Da=some (.dK kvs)∧(∀x,nS kvs (.inl x)=none↔x ∉ R)∧kvs.length≤R.length+n
 ls:∃zs,Hc Ls=some (.lst zs)∧dW Hc zs (dO Stp.row S)
theorem JS.on {Hc':Hp}{R:List Int}(j:JS H Hc Da Ls R S n)(e:bC Hc Hc'):JS H Hc' Da Ls R S n:=by
 obtain⟨kvs,h1,h2⟩:=j.da;obtain⟨zs,h3,h4⟩:=j.ls;exact⟨j.same.trans e,⟨kvs,e _ _ h1,h2⟩,⟨zs,e _ _ h3,h4.same e⟩⟩
theorem JS.upL {La:ak}{R:List Int}(j:JS H Hc Da Ls R S n)(hL:H La=none)(hc:Hc La=some (.lst xs))(ne:Ls≠La):JS H (upd Hc La (.lst ys)) Da Ls R S n:=by
 obtain⟨kvs,h1,h2⟩:=j.da;obtain⟨zs,h3,h4⟩:=j.ls;exact⟨λa o e=>by rw[bz (bx e hL)];exact j.same a o e,⟨kvs,by rw[bz (fb h1 hc nofun)];exact h1,h2⟩,⟨zs,by rw[bz ne];exact h3,fh (fV hc) h4⟩⟩
theorem JS.upS {q:ak}{R:List Int}{s:Stp}(j:JS H Hc Da Ls R S n)(hL:H Ls=none)(hc:Hc Ls=some (.lst zs))(hz:dW Hc zs (dO Stp.row S))(hq:IsD Hc (.ref q) (.tup ((Stp.row s).map Dt.int))):JS H (upd Hc Ls (.lst (zs++[.ref q]))) Da Ls R (S++[s]) n:=by
 obtain⟨kvs,h1,h2⟩:=j.da;have hd:dW Hc (zs++[.ref q]) (dO Stp.row (S++[s])):=by
  unfold dO at hz ⊢;rw[ax];exact hz.append (.cons hq .nil)
 exact⟨λa o e=>by rw[bz (bx e hL)];exact j.same a o e,⟨kvs,by rw[bz (fb h1 hc nofun)];exact h1,h2⟩,⟨_,aN,fh (fV hc) hd⟩⟩
theorem JS.upD {R:List Int}{kvs:List (Key×V)}{x:Int}{R':List Int}{n':Nat}(j:JS H Hc Da Ls R S n)(hD:H Da=none)(hc:Hc Da=some (.dK kvs))(hk:∀x,nS kvs (.inl x)=none↔x ∉ R)(hR:∀z,z∈R'↔z∈R∨z=x)(hl:kvs.length+1≤R'.length+n'):JS H (upd Hc Da (.dK (og kvs (.inl x) y))) Da Ls R' S n':=by
 obtain⟨zs,h3,h4⟩:=j.ls;have K:kr Hc (upd Hc Da (.dK (og kvs (.inl x) y))):=λq xs h=>by rw[bz (fb h hc nofun)];exact h
 apply⟨λa o e=>by rw[bz (bx e hD)];exact j.same a o e,⟨_,aN,λz=>?_,?_⟩,⟨zs,by rw[bz (fb h3 hc nofun)];exact h3,fh K h4⟩⟩
 ·rw[valV_put,hR]
  by_cases e:z=x
  ·rw[rV (by rw[e])]
   exact⟨λh=>(by cases h),λh=>rW (Or.inr e) h⟩
  ·rw[rT (λh=>e (Sum.inl.inj h)),hk]
   exact⟨λh h'=>h'.elim h e,λh h'=>h (.inl h')⟩
 ·exact bj (lG _ _ _) hl
theorem j4:bW ["net","taken","reached","steps","first","ahead","here","step","there"] pza (defScope sSpread):=by trivial
theorem ok_spread (F:Fun K "spread_of" "spread_of" sSpread f fd)(T:Nm mg)(T2:Nt mg)(G1:Fn K mg "forest_of" lO pza f1 fd1)(F1:cG P w K mg base CX0 6 f1 fd1 pza (k5 Tb0 lp lq))(G2:Fn K mg "steps_from" p8 pzl f2 fd2)(F2:cG P w K mg base CX0 2 f2 fd2 pzl spSteps)(G3:Fn K mg "leads_to" sTo pzg f3 fd3):cG P w K mg base CX0 7 f fd pza (spSpread Tb0 lp lq):=by
 have F3:cG P w K mg base CX0 1 f3 fd3 pzg spTo:=ok_to G3.F;apply F.ok j4 (by contradiction) (fun cdv A outer s H0 vs Q E hr h=>?_);obtain ⟨v,b,m,sp,rfl,hv,N,hT,k⟩:=h;have hr2:iD 2 _:=hr.mono ↥0;have hr1:iD 1 _:=hr.mono ↥0;have u1:=b9 (Nat.add_le_add_left (by decide:1≤64) _) hr.units;have E:=N.ends;have m1:=N.m1;have m2:=N.m2;apply ⟨_,PSl.h (aZ ⟨(psZ 1 j4.nd (pc1 G1 F1 hr (ae (pv 0) aA)))⟩
  (aZ ⟨(psZ 2 j4.nd pe_dnewK)⟩
  (aZ ⟨(psZ 3 j4.nd (i5 aA))⟩
  (aZ ⟨(iP bR rfl (hX rfl T2.range (ae (ixZ (pv 0)) aA)) (pgZ 4 j4.nd) (PSl.h (aZ ⟨(psZ 5 j4.nd (PE.cutV (ma (pt_cmp (nu u1 (pv 4) (pv 2)) rfl) (i5 (ae (pv 4) aA)) (i5 aA))))⟩
  (aZ ⟨(ps_dput u1 (pv 2) (pv 4) oP rfl)⟩
  (cW ⟨(pE bR (cT oQ (d5 dA rfl T.len cV (ae (pv 5) aA)) bI (dI _)) (PSl.h (aZ ⟨(psZ 6 j4.nd (rn bB ft fq rA (pv 5)))⟩
  (cW ⟨(iP bR rfl (jZ (pc1 G2 F2 hr2 (ae (pv 0) (ae (pv 1) (ae (pv 6) aA))))) (pgZ 7 j4.nd) (PSl.h (aZ ⟨(psZ 8 j4.nd (pc1 G3 F3 hr1 (ae (pv 0) (ae (pv 7) aA))))⟩
  (cW ⟨(ib (pt_cmp (nu u1 (pv 8) (pv 2)) rfl) (PSl.h (aZ ⟨(ps_dput u1 (pv 2) (pv 8) oP rfl)⟩
  (aZ ⟨(iY (mI bB cA cz iB (pv 5) (ae (pv 8) aA)))⟩
  (cW ⟨(iY (mI bB cA cz iB (pv 3) (ae (pv 7) aA)))⟩)))) dX)⟩))))⟩))))⟩)))))⟩
  (cW ⟨(cf (pv 3))⟩))))),?_⟩
 apply⟨_,rfl,v,b,m,sp,rfl,hv,N,hT,λu H ns tb1 hT1 hu F0=>?_⟩;obtain⟨l,π,rfl,O,pm⟩:=F0.natsF;have fr:jh m.toNat sp l:=⟨F0,π,O,pm⟩;rw[cg] at hu;have hu:H u=some (.tup (l.map λ(i:Nat)=>V.int i)):=hu;have hv1:=cq (Tb.lamT hT tb1) hv;obtain⟨t,p,ys,rfl,ht,hp,hl,hy⟩:=eU hv1;clear hy hp hl hv;have PT:=fr.pots E;have hlt:=PT.nodup.2;have few:l.length≤40:=by have:=fr.few E ⋯;lia
 have ne:∀i∈l,(sAt sp i).s≠(sAt sp i).g:=λi hi=>(N.all _ (eD (hlt i hi))).ne
 intro Da hDa;have hDa1:(upd H Da (.dK [])) Da=some (.dK []):=aN;have S1:bC H (upd H Da (.dK [])):=bC.put (bC.refl H) hDa;generalize upd H Da (.dK [])=H1 at hDa1 S1 ⊢;apply⟨bK _,λLs hLs=>?_⟩;have hLsH:H Ls=none:=bC.free S1 hLs;have S2:bC H1 (upd H1 Ls (.lst [])):=bC.put (bC.refl H1) hLs;have J2:JS H (upd H1 Ls (.lst [])) Da Ls [] [] 0:=⟨S1.trans S2,⟨[],S2 _ _ hDa1,λx=>⟨λ_ h=>(by cases h),λ_=>rfl⟩,aC _⟩,⟨[],aN,.nil⟩⟩;generalize upd H1 Ls (.lst [])=H2 at J2 ⊢;clear S2 hLs S1 hDa1;apply⟨_,rfl,t,_,_,_,rfl,rfl,SqT.of (J2.same _ _ ht),aB (j:=1) rfl,m,rfl,⋯,⋯,?_⟩;apply kq (n:=m.toNat) (λi σ HC=>∃(R:List Int) (S:List Stp) (w4 w5 w6 w7 w8:Option V),σ=[some (.ref t),some (.ref u),some (.ref Da),some (.ref Ls),w4,w5,w6,w7,w8]∧JS H HC Da Ls R S i∧SI m.toNat sp l exN R [] S∧∀x:Nat,x<i→(x:Int)∈R) ⟨[],[],none,none,none,none,none,rfl,J2,SI.start,λx hx=>rW hx (Nat.not_lt_zero _)⟩ ?_ ?_
 ·rintro i σ HC hi ⟨R,S,w4,w5,w6,w7,w8,rfl,JC,I0,hall⟩
  rw[il];have hRm:=I0.few;obtain⟨kvs,hDaC,hkv,hkl⟩:=JC.da;apply⟨λv H'=>∃La A,v= .ref La∧H La=none∧La≠Ls∧JS H H' Da Ls R S i∧H' La=some (.lst (A.map V.int))∧((i:Int) ∉ R∧A=[(i:Int)]∨(i:Int)∈R∧A=[]),?_,?_⟩
  rotate_left
  ·apply⟨_,rfl,_,rfl,Da,_,rfl,DGet.k (k:= .inl (i:Int)) hDaC,_,rfl,?_⟩
   have mk:∀ (La:ak) (xs:List V),HC La=none→JS H (upd HC La (.lst xs)) Da Ls R S i∧H La=none∧La≠Ls:=fun La xs hLa=>⟨JC.on (bC.put (bC.refl HC) hLa),bC.free JC.same hLa,fun z=>by
    obtain ⟨zs,hz,_⟩:=JC.ls;rw [z,hz] at hLa;cases hLa⟩
   cases c:nS kvs (.inl (i:Int)) with
   | none =>
    apply iteT ⟨_,rfl,szZ1,λLa hLa=>?_⟩;obtain⟨a1,a2,a3⟩:=mk La [.int (i:Int)] hLa;exact⟨La,[(i:Int)],rfl,a2,a3,a1,aN,.inl ⟨(hkv _).mp c,rfl⟩⟩
   | some o =>
    apply iteF ⟨bK _,λLa hLa=>?_⟩;obtain⟨a1,a2,a3⟩:=mk La [] hLa;exact⟨La,[],rfl,a2,a3,a1,aN,.inr ⟨fe λz=>(by rw[(hkv _).mpr z] at c;cases c),rfl⟩⟩
  rintro _ HD ⟨La,A,rfl,hLaH,nLL,JD,hLa,hA⟩;obtain⟨kvD,hDaD,hkD,hlD⟩:=JD.da;apply⟨_,rfl,_,rfl,Da,_,rfl,DPut.k (k:= .inl (i:Int)) hDaD (b9 (by lia:kvD.length≤999) ↥0),?_⟩;obtain⟨R',hR',IR,inR,hall'⟩:∃R',(∀z,z∈R'↔z∈R∨z=(i:Int))∧SI m.toNat sp l exN R' A S∧R.length≤R'.length∧(∀x:Nat,x<i+1→(x:Int)∈R'):=by
   rcases hA with ⟨a1,rfl⟩ | ⟨a1,rfl⟩
   ·apply⟨R++[(i:Int)],λz=>by rw[aQ,ay],I0.root a1 ⋯ ⋯,by rw[av];lia,λx hx=>?_⟩
    rcases ju.mp hx with z | z
    ·exact aM _ (hall x z)
    ·rw[z];simp
   ·apply⟨R,λz=>⟨.inl,λh=>h.elim id λe=>e ▸ a1⟩,I0,aC _,λx hx=>?_⟩
    rcases ju.mp hx with z | z
    ·exact hall x z
    ·rw[z];exact a1
  have JE:=JD.upD (y:= .bl true) (R':=R') (n':=i+1) (x:=(i:Int)) hDa hDaD hkD hR' ⋯;have hLaE:(upd HD Da (.dK (og kvD (.inl (i:Int)) (.bl true)))) La=some (.lst (A.map V.int)):=by rw[bz (fb hLa hDaD nofun)];exact hLa
  generalize upd HD Da (.dK (og kvD (.inl (i:Int)) (.bl true)))=HE at JE hLaE ⊢;have lA:A.length≤1:=by rcases hA with ⟨_,rfl⟩ | ⟨_,rfl⟩ <;> simp
  clear hA hLa JD hDaD hkD hlD inR I0 hall hkv hDaC JC;apply⟨λn σ HA=>∃(R A:List Int) (S:List Stp) (w6 w7 w8:Option V),n=2 * (16 - R.length)+A.length∧n≤40∧σ=[some (.ref t),some (.ref u),some (.ref Da),some (.ref Ls),some (.int (i:Int)),some (.ref La),w6,w7,w8]∧JS H HA Da Ls R S (i+1)∧HA La=some (.lst (A.map V.int))∧SI m.toNat sp l exN R A S∧∀x:Nat,x<i+1→(x:Int)∈R,⟨_,R',A,S,_,_,_,rfl,⋯,rfl,JE,hLaE,IR,hall'⟩,?_⟩;clear JE hLaE IR hall' hR' hkl;rintro n σ HA ⟨R,A,S,w6,w7,w8,rfl,n40,rfl,JA,hLa,IA,hall⟩;apply⟨_,rfl,La,_,rfl,.inl (SqL.of hLa),_,_,rfl,rfl,_,rfl,?_⟩
  rcases List.eq_nil_or_concat A with rfl | ⟨A',x,rfl⟩
  ·apply lW (by rfl) ?_
   exact⟨R,S,_,_,_,_,_,rfl,JA,IA,hall⟩
  rw[List.concat_eq_append] at hLa n40 IA ⊢;apply qQ (rX (by rw[aa,av];show((A'.length+1:Nat):Int) > 0;lia)) ?_;apply⟨_,λσ' H' z=>z,?_⟩;rw[ax] at hLa;apply⟨_,rfl,.inl ⟨rfl,_,SqL.of hLa⟩,La,_,.int x,rfl,rfl,hLa,by rw[av,bT ∅];simp,?_⟩;rw[show(A'.map V.int++[x].map V.int).dropLast=A'.map V.int from gL];have JB:=JA.upL (ys:=A'.map V.int) hLaH hLa nLL.symm;have hLaB:(upd HA La (.lst (A'.map V.int))) La=some (.lst (A'.map V.int)):=aN;generalize upd HA La (.lst (A'.map V.int))=HB at JB hLaB ⊢;obtain⟨IB,xR⟩:=IA.pop;have lB:2 * (16 - R.length)+A'.length+1≤40:=by rw[av] at n40;exact n40
  have eB:2 * (16 - R.length)+(A'++[x]).length=2 * (16 - R.length)+A'.length+1:=by rw[av];rfl
  rw[eB];clear JA hLa IA n40 eB;apply⟨_,rfl,_,rfl,_,rfl,.ref t,u,b,m,sp,l,x,rfl,hv1.same JB.same,JB.same _ _ hu,hlt,few,λL HC zs SC fL hL dz=>⟨L,rfl,⟨_,SqL.of hL⟩,?_⟩⟩;have nL1:L≠La:=λz=>by rw[z,hLaB] at fL;cases fL
  have nL2:L≠Ls:=λz=>by
   obtain⟨z1,hz1,_⟩:=JB.ls;rw[z,hz1] at fL;cases fL
  have JC:=JB.on SC;have hLaC:=SC _ _ hLaB;clear JB hLaB;have lz:zs.length=(dU sp l x).length:=by rw[dz.length];unfold dO;rw[aa]
  apply mj (K:=K) (a:=L) (xs:=zs) (λj σ HD=>∃(R2 A2:List Int) (S2:List Stp) (w7 w8:Option V),JS H HD Da Ls R2 S2 (i+1)∧HD La=some (.lst (A2.map V.int))∧SI m.toNat sp l (· =x) R2 A2 S2∧x∈R2∧(∀x:Nat,x<i+1→(x:Int)∈R2)∧2 * (16 - R2.length)+A2.length≤2 * (16 - R.length)+A'.length∧(∀s∈(dU sp l x).take j,s.i∈S2.map Stp.i)∧HD L=some (.lst zs)∧dW HD zs (dO Stp.row (dU sp l x))∧σ=[some (.ref t),some (.ref u),some (.ref Da),some (.ref Ls),some (.int (i:Int)),some (.ref La),some (.int x),w7,w8]) ⟨R,A',S,_,_,JC,hLaC,IB,xR,hall,aC _,λs hs=>rW hs ∅,hL,dz,rfl⟩ (λj σ HD _ q=>by obtain⟨_,_,_,_,_,_,_,_,_,_,_,_,h,_⟩:=q;exact SqL.of h) ?_ ?_
  ·clear JC hLaC IB xR hall hL dz SC
   rintro j y σ HD hy ⟨R2,A2,S2,w7,w8,JD,hLaD,ID,xD,hallD,mD,hsD,hLD,dD,rfl⟩;have hj:j<(dU sp l x).length:=by have:=(ao.mp hy).1;lia
   have hsj:=gE hj;obtain⟨y',hy',dy⟩:=dD.at (i:=j) (d:= .tup ((Stp.row (dU sp l x)[j]).map Dt.int)) (by unfold dO;rw[ar,hsj];rfl);rw[hy] at hy';cases hy';obtain⟨q,qs,rfl,hq,rq⟩:=dy.tup_of;have eq:=rq.ints_of;subst eq;have hmem:(dU sp l x)[j]∈dU sp l x:=bH hj;have hin:=hlt _ (nY hmem).1.1;have more:∀S3:List Stp,(∀s∈S2,s∈S3)→(dU sp l x)[j].i∈S3.map Stp.i→∀s∈(dU sp l x).take (j+1),s.i∈S3.map Stp.i:=λS3 sub hj3 s hs=>by
    rw[aY,hsj] at hs
    rcases aQ.mp hs with z | z
    ·obtain⟨t',ht',e⟩:=aL.mp (hsD s z)
     exact aL.mpr ⟨t',sub _ ht',e⟩
    ·rw[ay.mp (show s∈[(dU sp l x)[j]] from z)];exact hj3
   generalize (dU sp l x)[j]=st at hq hin dy hmem more;apply⟨_,rfl,_,rfl,.ref t,q,b,m,sp,st,sAt sp st.i,rfl,hv1.same JD.same,hq,jy hin,?_⟩;rw[(mZ hin).1];obtain⟨kv2,hDaD,hk2,hl2⟩:=JD.da;have hR2:=ID.fewX;apply⟨_,rfl,_,rfl,Da,_,rfl,DGet.k (k:= .inl (fQ sp st)) hDaD,_,rfl,?_⟩;cases hto:nS kv2 (.inl (fQ sp st)) with
   | some o =>
    have inR:fQ sp st∈R2:=fe λz=>by rw[(hk2 _).mpr z] at hto;cases hto
    exact iteF ⟨R2,A2,S2,_,_,JD,hLaD,ID,xD,hallD,mD,more S2 (λ_ h=>h) (ID.has PT ne hmem inR),hLD,dD,rfl⟩
   | none =>
    have out:fQ sp st ∉ R2:=(hk2 _).mp hto;have I3:=ID.add E hlt xD hmem out;have hR3:=I3.fewX;rw[av] at hR3;have hR3:R2.length+1≤m.toNat:=hR3;apply iteT ⟨_,rfl,_,rfl,Da,_,rfl,DPut.k (k:= .inl (fQ sp st)) hDaD (b9 (by lia:kv2.length≤999) ↥0),?_⟩;have J3:=JD.upD (y:= .bl true) (R':=R2++[fQ sp st]) (n':=i+1) (x:=fQ sp st) hDa hDaD hk2 (λz=>by rw[aQ,ay]) (by rw[av];show _≤R2.length+1+(i+1);lia);have K3:kr HD (upd HD Da (.dK (og kv2 (.inl (fQ sp st)) (.bl true)))):=λq xs h=>by rw[bz (fb h hDaD nofun)];exact h
    have hLa3:(upd HD Da (.dK (og kv2 (.inl (fQ sp st)) (.bl true)))) La=some (.lst (A2.map V.int)):=by rw[bz (fb hLaD hDaD nofun)];exact hLaD
    have hL3:(upd HD Da (.dK (og kv2 (.inl (fQ sp st)) (.bl true)))) L=some (.lst zs):=by rw[bz (fb hLD hDaD nofun)];exact hLD
    generalize upd HD Da (.dK (og kv2 (.inl (fQ sp st)) (.bl true)))=H3 at J3 K3 hLa3 hL3 ⊢;have d3:=fh K3 dD;have q3:=K3 _ _ hq;apply⟨_,rfl,.inl ⟨rfl,_,SqL.of hLa3⟩,_,rfl,La,_,_,rfl,rfl,hLa3,nh (by rw[aa];lia),?_⟩;have J4:=J3.upL (ys:=A2.map V.int++[V.int (fQ sp st)]) hLaH hLa3 nLL.symm;have K4:kr H3 (upd H3 La (.lst (A2.map V.int++[V.int (fQ sp st)]))):=fV hLa3;have hLa4:(upd H3 La (.lst (A2.map V.int++[V.int (fQ sp st)]))) La=some (.lst (A2.map V.int++[V.int (fQ sp st)])):=aN;have hL4:(upd H3 La (.lst (A2.map V.int++[V.int (fQ sp st)]))) L=some (.lst zs):=by rw[bz nL1];exact hL3
    generalize upd H3 La (.lst (A2.map V.int++[V.int (fQ sp st)]))=H4 at J4 K4 hLa4 hL4 ⊢;have d4:=fh K4 d3;have q4:=K4 _ _ q3;obtain⟨z4,hz4,dz4⟩:=J4.ls;have lz4:z4.length=S2.length:=by rw[dz4.length];unfold dO;rw[aa]
    have lS:=ID.len;apply⟨_,rfl,.inl ⟨rfl,_,SqL.of hz4⟩,_,rfl,Ls,_,_,rfl,rfl,hz4,nh ⋯,?_⟩;have J5:=J4.upS (s:=st) hLsH hz4 dz4 (.tup q4 (dW.ints (Stp.row st)));apply⟨R2++[fQ sp st],A2++[fQ sp st],S2++[st],_,_,J5,?_,I3,aM _ xD,λx hx=>aM _ (hallD x hx),?_,more _ (λ_ h=>aM _ h) (by rw[ax];exact az _ ∅),?_,fh (fV hz4) d4,rfl⟩
    ·rw[bz nLL,hLa4,ax];rfl
    ·rw[av,av]
     show 2 * (16 - (R2.length+1))+(A2.length+1)≤_;lia
    ·rw[bz nL2];exact hL4
  ·rintro σ HD ⟨R2,A2,S2,w7,w8,JD,hLaD,ID,xD,hallD,mD,hsD,hLD,dD,rfl⟩
   rw[lz,aX] at hsD;exact⟨_,⋯,R2,A2,S2,_,_,_,rfl,⋯,rfl,JD,hLaD,ID.done hsD,hallD⟩
 ·rintro σ HC ⟨R,S,w4,w5,w6,w7,w8,rfl,JC,I0,hall⟩
  obtain⟨zs,hz,dz⟩:=JC.ls;have hLs0:H0 Ls=none:=by
   cases z:H0 Ls with
   | none=>rfl
   | some o =>
    by_cases e:Ls=Tb0
    ·subst e
     obtain⟨ps,hps⟩:=LamT.tbl hT1;rw[hps] at hLsH;cases hLsH
    ·rw[tb1 Ls o e z] at hLsH;cases hLsH
  exact⟨_,rfl,k Ls zs l S HC (tb1.trans (bC.tb JC.same)) (LamT.same JC.same hT1) hLs0 hz dz fr (I0.ok E hlt hall)⟩
abbrev sRest:cJ:=top 30
abbrev sTabBy:cJ:=top 44
inductive spTabBy (vs:List V)(H:Hp)(Q:VK)(_:XK):Prop
 | mk (v vb:V)(L:ak)(b m:Int)(sp:List Sn)(bs:List (Int×Int))(zs:List V)(S:List Stp)(_:vs=[v,.ref L,vb])(_:IsD H v (jA b m sp))(_:0<b)(_:0<m)(_:m≤16)(_:Ends m.toNat sp)(_:H L=some (.lst zs))(_:dW H zs (dO Stp.row S))(_:S.length≤16)(_:(∀s∈S,s.i<sp.length∧(s.d=1∨s.d= -1)))(_:IsD H vb (bndP bs))(_:bs.length=sp.length)(_:∀q H',bC H H'→H' q=some (.tup ((tabOf b sp bs m.toNat S).map V.int))→Q (.ref q) H')
theorem frmS_rng (E:Ends m sp){t:Stp}(h:t.i<sp.length):0≤mw sp t∧mw sp t<m:=by
 obtain⟨a,b,c,d⟩:=E _ (eD h);rw[←(tooS_sAt0 h).2];unfold frm;split <;> lia
theorem ixN_int (h0:0≤z)(h1:z<n):ixN n z=some z.toNat:=by unfold ixN;rw[rV h0,rV h1]
theorem atI_int {xs:List α}{x:α}(h0:0≤z)(h:xs[z.toNat]? =some x):atI xs z=some x:=by
 have:=(ao.mp h).1;unfold atI;rw[ixN_int h0 ⋯];exact h
theorem map_set {l:List Int}{x:Int}:(l.map V.int).set n (V.int x)=(l.set n x).map V.int:=by rw[List.map_set]
theorem scRest:bW pzj pzj (defScope sRest):=by trivial
theorem ok_rest (F:Fun K "rest_by" "rest_by" sRest f fd):cG P w K mg base CX0 1 f fd pzj spRest:=by
 specialize F.ok scRest;obtain⟨b,n,rfl,hb,k⟩:=h;apply⟨_,PSl.h (cW ⟨(cf (cS lI (pv 1) (pv 0)))⟩),?_⟩;exact⟨_,rfl,_,rfl,_,_,rfl,rfl,hb,k⟩
theorem scTabBy:bW ["net","steps","bounds","times","step"] pzK (defScope sTabBy):=by trivial
theorem ok_tabBy (F:Fun K "table_by" "table_by" sTabBy f fd)(T:Nm mg)(G1:Fn K mg "leads_to" sTo pzg f1 fd1)(G2:Fn K mg "leads_from" sFrom pzg f2 fd2)(G3:Fn K mg "rest_by" sRest pzj f3 fd3):cG P w K mg base CX0 2 f fd pzK spTabBy:=by
 have F1:cG P w K mg base CX0 1 f1 fd1 pzg spTo:=ok_to G1.F;have F2:cG P w K mg base CX0 1 f2 fd2 pzg spFrom:=ok_from G2.F;have F3:cG P w K mg base CX0 1 f3 fd3 pzj spRest:=ok_rest G3.F;specialize F.ok scTabBy;obtain ⟨v,vb,L,b,m,sp,bs,zs,S,rfl,hv,hb,m0,m16,E,hL,dz,lS,hS,hvb,lb,k⟩:=h;have hr1:=hr;obtain ⟨t,p,ys,rfl,ht,hp,hl,hy⟩:=eU hv;obtain ⟨pb,yb,rfl,hpb,hlb,rb⟩:=jq hvb;apply ⟨_,PSl.h (aZ ⟨(psZ 3 scTabBy.nd (cS op_rep (pe_lstA (ae bI aA)) (ixZ (pv 0))))⟩
  (aZ ⟨(iP bR rfl (jZ (pv 1)) (pgZ 4 scTabBy.nd) (cL (ps_asg (cS gh (eM fP (pv 3) (pc1 G2 F2 hr1 (ae (pv 0) (ae (pv 4) aA))) (fun _ _=>rfl)) (cS jk (ixZ (pv 4)) (ixZ (eM eJ (pv 2) (ixZ (pv 4)) (fun _ _=>rfl))))) (pg_sub (pv 3) (pc1 G1 F1 hr1 (ae (pv 0) (ae (pv 4) aA))) set_list))))⟩
  (cW ⟨(cf (dk fU rfl T.ttup eX (ae (gm (fr:=pza) (js:=[0]) rfl (jZ (pv 3)) (by trivial) rfl (by trivial) rfl (by exists sTabBy) (by trivial) rfl (by trivial) (fun _ _ _ _ _=>⟨(pc1 G3 F3 hr1 (ae (eM (r:=pj K) eJ (pv 1) bI (fun _ _=>rfl)) (ae (pv 0) aA))),fW⟩)) aA)))⟩))),?_⟩
 apply⟨szZ1,λq1 H1 S1 h1=>⟨_,rfl,t,_,_,_,rfl,rfl,SqT.of (S1 _ _ ht),aB (j:=1) rfl,q1,m,_,rfl,rfl,h1,⋯,⋯,?_,λLt hLt=>?_⟩⟩
 ·show 1 * m.toNat≤bo
  exact dm ⋯
 have hLtH:H Lt=none:=bC.free S1 hLt;have S2:bC H (upd H1 Lt (.lst (bQ m.toNat [V.int 0]).flatten)):=S1.trans (bC.put (bC.refl H1) hLt);have h2:(upd H1 Lt (.lst (bQ m.toNat [V.int 0]).flatten)) Lt=some (.lst ((bQ m.toNat (0:Int)).map V.int)):=by
  rw[aN,List.map_replicate,List.flatten_replicate_singleton]
 generalize upd H1 Lt (.lst (bQ m.toNat [V.int 0]).flatten)=H2 at S2 h2 ⊢;have lz:zs.length=S.length:=by rw[dz.length];unfold dO;rw[aa]
 have len:∀j,((S.take j).foldl (setT sp (lowB bs)) (bQ m.toNat 0)).length=m.toNat:=λj=>by rw[l5 (m:=0),gv]
 apply⟨_,rfl,L,rfl,⟨_,SqL.of (S2 _ _ hL)⟩,?_⟩;apply mj (K:=K) (a:=L) (xs:=zs) (λj σ HD=>bC H HD∧HD Lt=some (.lst (((S.take j).foldl (setT sp (lowB bs)) (bQ m.toNat 0)).map V.int))∧∃w4,σ=[some (.ref t),some (.ref L),some (.ref pb),some (.ref Lt),w4]) ⟨S2,h2,none,rfl⟩ (λj σ HD _ ⟨h,_⟩=>SqL.of (h _ _ hL)) ?_ ?_
 ·rintro j y σ HD hy' ⟨SD,hD,w4,rfl⟩
  have hj:j<S.length:=by have:=(ao.mp hy').1;lia
  have hsj:=gE hj;obtain⟨y',hy2,dy⟩:=dz.at (i:=j) (d:= .tup ((Stp.row S[j]).map Dt.int)) (by unfold dO;rw[ar,hsj];rfl);rw[hy'] at hy2;cases hy2;obtain⟨q,qs,rfl,hq,rq⟩:=dy.tup_of;have eq:=rq.ints_of;subst eq;obtain⟨hin,hd⟩:=hS _ (bH hj);have fold:(S.take (j+1)).foldl (setT sp (lowB bs)) (bQ m.toNat 0)=setT sp (lowB bs) ((S.take j).foldl (setT sp (lowB bs)) (bQ m.toNat 0)) S[j]:=by
   rw[aY,hsj,eI];rfl
  rw[fold];have lj:=len j;generalize (S.take j).foldl (setT sp (lowB bs)) (bQ m.toNat 0)=ts at hD lj ⊢;generalize S[j]=st at hq hin hd;obtain⟨f0,f1'⟩:=frmS_rng E hin;obtain⟨t0,t1⟩:=l4 E hin;have hbi:st.i<bs.length:=by lia
  obtain⟨qb,hqb,hqb2⟩:=kI rb (gE hbi);have el:lowB bs st.i=bs[st.i].1:=by unfold lowB;rw[ag,gE hbi];rfl
  have hat:∀z:Int,0≤z→z<m.toNat→(ts.map V.int)[z.toNat]? =some (V.int (tm ts z)):=λz z0 z1=>by
   rw[ar,gE (by lia:z.toNat<ts.length)];unfold tm;rw[ag,gE (by lia:z.toNat<ts.length)];rfl
  apply⟨_,rfl,_,rfl,_,rfl,.ref t,q,b,m,sp,st,sAt sp st.i,rfl,hv.same SD,SD _ _ hq,jy hin,?_⟩;rw[(mZ hin).2];apply⟨Lt,_,_,_,rfl,rfl,SqL.of hD,atI_int f0 (hat _ f0 f1'),?_⟩;apply⟨_,rfl,q,_,_,_,rfl,rfl,SqT.of (SD _ _ hq),aB (j:=1) rfl,_,rfl,_,rfl,q,_,_,_,rfl,rfl,SqT.of (SD _ _ hq),aB (j:=0) rfl,pb,_,_,_,rfl,rfl,SqT.of (SD _ _ hpb),aB (j:=st.i) hqb,qb,_,_,_,rfl,rfl,SqT.of (SD _ _ hqb2),aB (j:=0) rfl,_,_,rfl,rfl,?_,_,_,rfl,rfl,?_⟩
  ·exact .inl (by rcases hd with e | e <;> rw[e] <;> decide)
  apply⟨_,rfl,_,rfl,_,rfl,.ref t,q,b,m,sp,st,sAt sp st.i,rfl,hv.same SD,SD _ _ hq,jy hin,?_⟩;rw[(mZ hin).1];apply⟨Lt,_,_,_,rfl,rfl,hD,ixN_int t0 (by rw[aa];lia),?_⟩;rw[map_set,←el];exact⟨λa o e=>by rw[bz (bx e hLtH)];exact SD _ _ e,aN,_,rfl⟩
 ·rintro σ HD ⟨SD,hD,w4,rfl⟩
  rw[lz,aX] at hD;apply⟨_,rfl,Lt,rfl,⟨_,SqL.of hD⟩,?_⟩;have lt:(ki sp (lowB bs) m.toNat S).length=m.toNat:=by have:=len S.length;rwa [aX] at this
  apply kR (K:=K) (a:=Lt) (xs:=(ki sp (lowB bs) m.toNat S).map V.int) (λi zs HC=>HC=HD∧zs=(((ki sp (lowB bs) m.toNat S).take i).map (· % b)).map V.int) ⟨rfl,rfl⟩ (λi zs HC hi ⟨e1,e2⟩=>⟨by rw[e1];exact SqL.of hD,by rw[e2,aa,aa,bw];lia⟩) (by rw[aa,lt];exact dm ⋯) (λi x zs HC hx ⟨e1,e2⟩=>?_) (λzs HC ⟨e1,e2⟩ D hD2=>?_)
  ·subst e1
   rw[ar] at hx;obtain⟨z,hz,rfl⟩:=br.mp hx;apply eS ⟨_,rfl,t,_,_,_,rfl,rfl,SqT.of (SD _ _ ht),aB (j:=0) rfl,_,rfl,b,z,rfl,hb,?_⟩;rw[e2,aY,hz,ax,ax];exact⟨rfl,rfl⟩
  ·subst e1
   rw[aa,aX] at e2;have S3:bC HC (upd HC D (.lst zs)):=bC.put (bC.refl HC) hD2;apply⟨D,_,rfl,.inl (.inl aN),λq H4 S4 h4=>?_⟩;exact k q H4 (SD.trans (S3.trans S4)) (by rw[h4,e2];rfl)
abbrev sTabF:cJ:=top 45
theorem CutD.move {x:ak}{rg:List (Nat×List Stp)}(a:CutD H C x sp l rg)(e:Kp H H')(hx:∀o,H x=some o→H' x=some o):CutD H' C x sp l rg:=by
 obtain⟨dx,c0,tl,ol,ord,h1,h2,h3,h4,h5⟩:=a.ex;exact⟨dx,c0,tl,ol,ord,hx _ h1,h2.kp e,h3.kp e,e.lst _ _ h4,h5⟩
structure CutK (P:aV)(w:bG)(K:ai)(mg:Str→Option af)(base:bO)(T0:ak)(p0:Pos)(q0:Str)(T1:ak)(p1:Pos)(q1:Str)(C fi g1 g2:ak)(di d1 d2:bh):Prop where
 cc:CutC K C
 mke:Mk K C fi
 gl:mg "Cuts" =some (.ref C)
 ini:cG P w K mg base CX0 9 fi di ["self","net"] (spInitC T0 p0 q0 T1 p1 q1 C)
 bi:oA K di ["self","net"] []
 m1:Meth K C "span_to_cut" g1
 f1:cG P w K mg base CX0 1 g1 d1 ["self","case"] (spSpanC C)
 b1:oA K d1 ["self","case"] []
 m2:Meth K C "sides" g2
 f2:cG P w K mg base CX0 2 g2 d2 pzJ (spSidesC C)
 b2:oA K d2 pzJ []
theorem pZ:bW ["net","most","cuts","steps","tables","ahead","case","span"] pzm (defScope sTabF):=by trivial
theorem ok_tabF {f5 fi g1 g2:ak}{fd5 di d1 d2:bh}(F:Fun K "tables_that_fit" "tables_that_fit" sTabF f fd)(T:Nm mg)(ne:T0≠T1)(CK:CutK P w K mg base T0 p0 q0 T1 p1 q1 C fi g1 g2 di d1 d2)
  (G2:Fn K mg "spread_of" sSpread pza f2 fd2) (F2:cG P w K mg base CX0 7 f2 fd2 pza (spSpread T0 p0 q0))
  (G3:Fn K mg "dead_leaf" sDeadL pzk f3 fd3) (F3:cG P w K mg base CX0 4 f3 fd3 pzk pV)
  (G4:Fn K mg "table_by" sTabBy pzK f4 fd4) (F4:cG P w K mg base CX0 2 f4 fd4 pzK spTabBy)
  (G5:Fn K mg "middle_of" sMid pzq f5 fd5):cG P w K mg base CX0 11 f fd pzm (spTabF T0 p0 q0 T1 p1 q1):=by
 have F5:cG P w K mg base CX0 1 f5 fd5 pzq spMid:=ok_mid G5.F;specialize F.ok pZ;obtain ⟨v,b,m,sp,most,rfl,hv,N,hmost,hcases,hT0,hT1,k⟩:=h;have hr1:iD 1 _:=hr.mono ↥0;have hr2:iD 2 _:=hr.mono ↥0;have hr4:iD 4 _:=hr.mono ↥0;have hr7:iD 7 _:=hr.mono ↥0;have E:=N.ends;have nfew:=N.few;have m1:=N.m1;have m2:=N.m2;have nb1:=N.b1;apply ⟨_,PSl.h (aZ ⟨(psZ 2 pZ.nd (pe_make CK.mke CK.ini hr rfl CK.gl CK.bi .nil pass0 (ae (pv 0) aA)))⟩
  (aZ ⟨(psZ 3 pZ.nd (pc1 G2 F2 hr7 (ae (pv 0) aA)))⟩
  (aZ ⟨(psZ 4 pZ.nd (i5 aA))⟩
  (aZ ⟨(psZ 5 pZ.nd (i5 (ae (pe_fld (pv 2) rfl) aA)))⟩
  (aZ ⟨(pE bR (PW.pt (pw_and (cT oQ (d5 dA rfl T.len cV (ae (pv 5) aA)) bI (dI _)) (pw_and1 (cT op_lt (d5 dA rfl T.len cV (ae (pv 4) aA)) (pv 1) (dI _))))) (PSl.h (aZ ⟨(psZ 6 pZ.nd (rn bB ft fq rA (pv 5)))⟩
  (cW ⟨(ib (cT qr (pc1 G3 F3 hr4 (ae (pv 0) (ae (pv 6) aA))) jz (dI _)) (PSl.h (aZ ⟨(psZ 7 pZ.nd (pe_meth (pv 2) CK.cc.cl CK.m1 CK.f1 hr1 CK.b1 .nil pass0 (ae (pv 6) aA)))⟩
  (cW ⟨(ib (cT qr (pv 7) jz (dI _)) (cL (iY (mI bB cA cz iB (pv 4) (ae (pc1 G4 F4 hr2 (ae (pv 0) (ae (pv 3) (ae (ixZ (pv 6)) aA)))) aA)))) (cL (iY (mI bB PySem.F.slot_list_extend PySem.F.type_list_extend mt_extend (pv 5) (ae (pe_meth (pv 2) CK.cc.cl CK.m2 CK.f2 hr2 CK.b2 .nil pass0 (ae (pv 6) (ae (pv 7) (ae (pc1 G5 F5 hr1 (ae (pv 6) (ae (pv 7) aA))) aA)))) aA)))))⟩))) dX)⟩))))⟩
  (cW ⟨(cf (pv 4))⟩)))))),?_⟩
 apply⟨_,rfl,λx dx hx hdx nxd=>?_⟩;have S0:bC H (upd (upd H dx (.own x)) x (.ins C dx [])):=by
  have Sa:bC H (upd H dx (.own x)):=bC.put (bC.refl H) hdx;exact bC.put Sa (by rw[bz (cx nxd)];exact hx)
 have hx0:(upd (upd H dx (.own x)) x (.ins C dx [])) x=some (.ins C dx []):=aN;generalize upd (upd H dx (.own x)) x (.ins C dx [])=H0 at S0 hx0 ⊢;apply⟨x,dx,v,b,m,sp,rfl,hx0,hv.same S0,N,LamT.same S0 hT0,LamT.same S0 hT1,λl rg H1 st1 kp1 hT01 hT11 R cd1=>⟨rfl,?_⟩⟩;have f:=R.ff N;have fr:=R.fr;have lrg:rg.length≤40:=by
  have:rg.length=(qh sp l).length:=by rw[←R.ks,aa]
  have h2:(qh sp l).length≤sp.length:=by unfold qh;exact bj (fG _ _) (by rw[bq];exact aC _)
  lia
 have tl:l.length≤15:=by have:=fr.few E ⋯;lia
 have hlt:=f.acy.nodup.2;have st1':∀a o,a≠T0→a≠T1→H a=some o→H1 a=some o:=λa o n0 n1 e=>st1 a o n0 n1 (bx e hx) (S0 _ _ e)
 have kp1':Kp H H1:=(bC.kp S0).trans kp1;have hv1:=cq kp1'.tup hv;apply ⟨_,rfl,v,b,m,sp,rfl,hv1,N,hT01,fun Ls zsS l' S H2 tb2 hT02 fLs hLs dS fr' SO=>?_⟩;have el:l'=l:=jh.one fr' fr;subst el;have kp2:Kp H1 H2:=Tb.kp hT01 tb2;have hT12:=LamT.ntb hT11 hT01 (cx ne) tb2;have cd2:CutD H2 C x sp l' rg:=cd1.move kp2 fun o e=>tb2 x o (by
  obtain ⟨_,_,_,_,_,h1,_⟩:=cd1.ex;obtain ⟨ps,h⟩:=LamT.tbl hT01;exact fb h1 h nofun) e
 have st2:∀a o,a≠T0→a≠T1→H a=some o→H2 a=some o:=λa o n0 n1 e=>tb2 a o n0 (st1' a o n0 n1 e)
 have kp2':=kp1'.trans kp2;have hv2:=cq kp2.tup hv1;clear kp2 tb2 cd1 hT01 hT11 hv1 kp1' st1' kp1 st1 hv S0 fr' hx0;obtain⟨dx',c0,tl',ol,ord,h1,h2,h3,h4,h5⟩:=cd2.ex;apply⟨bK _,λLt hLt=>?_⟩;have S3:bC H2 (upd H2 Lt (.lst [])):=bC.put (bC.refl H2) hLt;have hLt3:(upd H2 Lt (.lst [])) Lt=some (.lst []):=aN;generalize upd H2 Lt (.lst [])=H3 at S3 hLt3 ⊢;apply⟨_,rfl,x,C,dx',_,_,rfl,S3 _ _ h1,CK.cc.cl,CK.cc.n1,rfl,szZ1,λAh hAh=>?_⟩;have hAh2:H2 Ah=none:=bC.free S3 hAh;have nLA:Lt≠Ah:=λz=>by rw[←z,hLt3] at hAh;cases hAh
 have S4:bC H3 (upd H3 Ah (.lst [.ref c0])):=bC.put (bC.refl H3) hAh;have hAh4:(upd H3 Ah (.lst [.ref c0])) Ah=some (.lst [.ref c0]):=aN;generalize upd H3 Ah (.lst [.ref c0])=H4 at S4 hAh4 ⊢;have S24:=S3.trans S4;have cl4:CsL H2 H4 [.ref c0] [(sp.map λz=>(z.l,z.o),rg)]:=by
  obtain⟨vb,u,rl,a1,a2,a3,a4⟩:=h2.ex;exact .cons ⟨c0,rfl,vb,u,rl,S24 _ _ a1,a2.same S24,a3,a4⟩ .nil
 have sz0:szC l' [(sp.map λz=>(z.l,z.o),rg)]≤8191:=by
  have e:=lg l' hlt λy hy=>(N.all y hy).lo
  have:=hcases l' fr;show(2 * fO (sp.map λz=>(z.l,z.o)) l' - 1)+0≤8191;lia
 apply⟨λn σ Hc=>∃(cs:List Cse) (Ts:List (List Int)) (zs tv:List V) (w6 w7:Option V),n=szC l' cs∧n≤8191∧σ=[some v,some (.int (most:Nat)),some (.ref x),some (.ref Ls),some (.ref Lt),some (.ref Ah),w6,w7]∧bC H2 Hc∧Hc Ah=some (.lst zs)∧CsL H2 Hc zs cs∧Hc Lt=some (.lst tv)∧dW Hc tv (dO id Ts)∧SrcI b m sp l' rg cs Ts∧Ts.length≤most,⟨_,_,[],_,[],_,_,rfl,sz0,rfl,S24,hAh4,cl4,S4 _ _ hLt3,.nil,SrcI.start N lrg,bK _⟩,?_⟩;clear cl4 hAh4 S4 S24 hLt3 S3 hAh sz0;rintro n σ Hc ⟨cs,Ts,zs,tv,w6,w7,rfl,n8,rfl,Sc,hAc,clc,hLc,dtv,I,hTs⟩;have lzs:zs.length=cs.length:=Paired.len clc;have ltv:tv.length=Ts.length:=by rw[dtv.length];unfold dO;rw[aa]
 have lcs:=szC_len hlt cs I.ok;have pF:fO (sp.map λz=>(z.l,z.o)) l'≤4096:=by
  have e:=lg l' hlt λy hy=>(N.all y hy).lo
  have:=hcases l' fr;lia
 have fin:(Ts.length<most∨most=4096→cs=[])→Q (.ref Lt) Hc:=λhe=>k Lt tv l' rg Ts Hc (λa o n0 n1 e=>Sc _ _ (st2 a o n0 n1 e)) (kp2'.trans (bC.kp Sc)) (LamT.same Sc hT02) (LamT.same Sc hT12) hLc dtv R I.tabs hTs λlt T hT=>by
  rcases I.hold T hT with h | ⟨c,hc,_⟩
  ·exact h
  ·rw[he lt] at hc;cases hc
 apply⟨_,rfl,Ah,_,rfl,.inl (SqL.of hAc),_,_,rfl,rfl,_,rfl,?_⟩
 rcases List.eq_nil_or_concat cs with rfl | ⟨cs',c,rfl⟩
 ·have:zs=[]:=g9.mp lzs
  subst this;apply lW (by rfl) (iteF ⟨_,rfl,fin λ_=>rfl⟩)
 rw[List.concat_eq_append] at *;obtain⟨zs',y,rfl,clc',q,rfl,ce⟩:=Paired.snoc_of clc;apply qQ (rX (by rw[av];show((zs'.length+1:Nat):Int) > 0;lia)) ?_;apply⟨_,rfl,Lt,_,rfl,.inl (SqL.of hLc),_,rfl,_,_,rfl,rfl,_,rfl,?_⟩
 by_cases hlm:Ts.length<most
 rotate_left
 ·exact lW (rY ⋯) ⟨_,rfl,fin fun z=>rW z fun z=>by
   rcases z with z | z
   ·exact hlm z
   ·have h0:=I.cnt
    rw [qq] at h0;have h1:=jr (I.ok c ∅).ob hlt;have e1:psC l' [c]=fO c.1 l'+0:=rfl;lia⟩
 apply qQ (rX ⋯) ⟨_,λσ' H' z=>z,?_⟩;apply⟨_,rfl,.inl ⟨rfl,_,SqL.of hAc⟩,Ah,_,.ref q,rfl,rfl,hAc,by rw[av,bT ∅];simp,?_⟩;rw[gL];have K5:kr Hc (upd Hc Ah (.lst zs')):=fV hAc;have S5:bC H2 (upd Hc Ah (.lst zs')):=λa o e=>by rw[bz (bx e hAh2)];exact Sc _ _ e
 have hA5:(upd Hc Ah (.lst zs')) Ah=some (.lst zs'):=aN;have hL5:(upd Hc Ah (.lst zs')) Lt=some (.lst tv):=by rw[bz nLA];exact hLc
 have cl5:=CsL.keep K5 (show CsL H2 Hc zs' cs' from clc');have ce5:=ce.keep K5;have dtv5:=fh K5 dtv;generalize upd Hc Ah (.lst zs')=H5 at K5 S5 hA5 hL5 cl5 ce5 dtv5 ⊢;have C:=I.ok c ∅;have less:=I.less f;have lcs':cs'.length+1≤8191:=by rw[av] at lcs;show cs'.length+[c].length≤8191;lia
 have lz':zs'.length=cs'.length:=Paired.len cl5;clear clc clc' ce hAc hLc dtv K5 lzs fin;apply⟨_,rfl,_,rfl,v,q,b,m,sp,c.1,c.2,rfl,hv2.same S5,⋯,by have:=N.b2;lia,ce5.dn S5,C.few,λz hz=>by rw[C.ob.len];exact((f.rk z (C.sub z hz)).rg N tl).inn,λr H6 S6 hd=>⟨rfl,_,rfl,?_⟩⟩;have S26:=S5.trans S6;have hA6:=S6 _ _ hA5;have hL6:=S6 _ _ hL5;have ce6:=ce5.keep (bC.tupK S6);have cl6:=CsL.keep (bC.tupK S6) cl5;have dtv6:=dtv5.same S6;clear ce5 cl5 dtv5 hA5 hL5
 rcases hd with ⟨rfl,al⟩ | ⟨z,hz,dz,hdz⟩
 rotate_left
 ·have:r≠ .non:=λe=>by rw[e] at dz;cases dz
  apply lW (rY this) ?_;exact⟨_,less,cs',Ts,zs',tv,_,_,rfl,⋯,rfl,S26,hA6,cl6,hL6,dtv6,I.dead N f hz hdz,hTs⟩
 apply qQ (rX rfl) ?_;apply⟨_,rfl,x,dx',_,rfl,S26 _ _ h1,rfl,_,rfl,x,q,sp,l',rg,c.2,c.1,rfl,cd2.same S26,ce6.dn S26,λj hj=>by rw[C.ob.len];exact hlt j hj,⋯,λfx=>?_,λj hj hlj=>?_⟩
 ·apply⟨_,rfl,rfl,_,rfl,qQ (rX rfl) ?_⟩
  obtain⟨vb,u,rl,a1,a2,a3,a4⟩:=ce6.ex;apply⟨_,rfl,.inl ⟨rfl,_,SqL.of hL6⟩,_,rfl,_,rfl,_,rfl,q,_,_,_,rfl,rfl,SqT.of a1,aB (j:=0) rfl,v,vb,Ls,b,m,sp,c.1,zsS,S,rfl,hv2.same S26,⋯,⋯,m2,E,S26 _ _ hLs,dS.same S26,by have:=SO.len;lia,λs' hs'=>⟨hlt _ (SO.inn s' hs').1,(SO.inn s' hs').2⟩,a2,C.ob.len,λqt H7 S7 h7=>?_⟩;apply⟨Lt,_,_,rfl,rfl,S7 _ _ hL6,b9 (m:=4096) ⋯ ↥0,?_⟩;have K8:kr H7 (upd H7 Lt (.lst (tv++[.ref qt]))):=fV (S7 _ _ hL6);apply⟨_,less,cs',Ts++[tabOf b sp c.1 m.toNat S],zs',tv++[.ref qt],_,_,rfl,⋯,rfl,λa o e=>?_,?_,CsL.keep K8 (CsL.keep (bC.tupK S7) cl6),aN,?_,I.leaf N f SO al fx,by rw[av];exact hlm⟩
  ·rw[bz (bx e hLt)];exact S7 _ _ (S26 _ _ e)
  ·rw[bz (cx nLA)];exact S7 _ _ hA6
  ·apply fh K8 ?_
   unfold dO;rw[ax];exact(dtv6.same S7).append (.cons (.tup h7 (dW.ints _)) .nil)
 ·apply⟨_,rfl,rfl,_,rfl,lW (rY nofun) ?_⟩
  have hjb:j<c.1.length:=by rw[C.ob.len];exact hlt j hj
  apply⟨_,rfl,.inl ⟨rfl,_,SqL.of hA6⟩,_,rfl,x,dx',_,rfl,S26 _ _ h1,rfl,_,rfl,_,rfl,_,rfl,_,rfl,q,j,c.1,c.2,rfl,ce6.dn S26,hjb,?_⟩;obtain⟨a,ha⟩:∃a,a=((c.1.getD j (0,0)).1+(c.1.getD j (0,0)).2) / 2:=⟨_,rfl⟩;rw[←ha];apply⟨H2,x,q,j,a,sp,l',rg,c.2,c.1,rfl,S26,cd2,ce6.dn S26,hjb,C.ob.len,by rw[C.ob.len];exact nfew,λL q1 q2 H7 S7 fL hL e1 e2=>?_⟩;have nLA2:L≠Ah:=λz=>by rw[z,hA6] at fL;cases fL
  apply⟨Ah,L,_,_,rfl,rfl,S7 _ _ hA6,hL,bj (m:=10000) (by show zs'.length+2≤10000;lia) ↥0,?_⟩;have K8:kr H7 (upd H7 Ah (.lst (zs'++[.ref q1,.ref q2]))):=fV (S7 _ _ hA6);obtain⟨I',less'⟩:=I.cut N f lrg al hj (a:=a) ⋯ ⋯;apply⟨_,less',_,Ts,_,tv,_,_,rfl,⋯,rfl,λa o e=>?_,aN,?_,?_,fh K8 (dtv6.same S7),I',hTs⟩
  ·rw[bz (bx e hAh2)];exact S7 _ _ (S26 _ _ e)
  ·exact Paired.app (CsL.keep K8 (CsL.keep (bC.tupK S7) cl6)) (.cons ⟨q1,rfl,e1.keep K8⟩ (.cons ⟨q2,rfl,e2.keep K8⟩ .nil))
  ·rw[bz nLA];exact S7 _ _ hL6
abbrev sTreeF:cJ:=top 46
theorem pY:bW ["marks","trees","mark","one","other"] ["marks"] (defScope sTreeF):=by trivial
theorem ok_treeF (F:Fun K "tree_from" "tree_from" sTreeF f fd)(RV:mg "reversed" =none):cG P w K mg base CX0 1 f fd ["marks"] spTreeF:=by
 specialize F.ok pY;obtain ⟨L,ys,ms,t,rfl,hL,dys,ems,hlw,few,k⟩:=h;apply ⟨_,PSl.h (aZ ⟨(psZ 1 pY.nd (i5 aA))⟩
  (aZ ⟨(iP bR rfl (pi_revL rfl RV (ae (pv 0) aA)) (pgZ 2 pY.nd) (cL (ib (cT om (ixZ (pv 2)) nq (dI _)) (PSl.h (aZ ⟨(psZ 3 pY.nd (rn bB ft fq rA (pv 1)))⟩
  (aZ ⟨(psZ 4 pY.nd (rn bB ft fq rA (pv 1)))⟩
  (cW ⟨(iY (mI bB cA cz iB (pv 1) (ae (cS oo (pv 2) (dh (ae (pv 3) (ae (pv 4) aA)))) aA)))⟩)))) (cL (iY (mI bB cA cz iB (pv 1) (ae (pv 2) aA)))))))⟩
  (cW ⟨(cf (eM fP (pv 1) bI (fun _ _=>rfl)))⟩))),?_⟩
 apply⟨bK _,λLt hLt=>?_⟩;have nLL:L≠Lt:=bx hL hLt;have S1:bC H (upd H Lt (.lst [])):=bC.put (bC.refl H) hLt;have h1:(upd H Lt (.lst [])) Lt=some (.lst []):=aN;generalize upd H Lt (.lst [])=H1 at S1 h1 ⊢;have lys:ys.length=ms.length:=by rw[dys.length,aa]
 have tot:ms.reverse.foldl stpT (some [])=some [t]:=by rw[ems];exact stp_pre t []
 apply⟨_,rfl,L,ys,rfl,SqL.of (S1 _ _ hL),?_⟩;apply for_revL (K:=K) (a:=L) (xs:=ys) (λi σ H2=>bC H H2∧∃(zs:List V) (st:List Tq) (v2 v3 v4:Option V),σ=[some (.ref L),some (.ref Lt),v2,v3,v4]∧H2 Lt=some (.lst zs)∧(ms.reverse.take i).foldl stpT (some [])=some st∧dW H2 zs (st.reverse.map kZ)∧st.length≤i∧∀t∈st,pl (kZ t)=true) ⟨S1,[],[],none,none,none,rfl,h1,rfl,.nil,aC _,λ_ h=>rW h ∅⟩ (λi σ H2 _ ⟨S2,_⟩=>SqL.of (S2 _ _ hL)) ?_ ?_
 ·rintro i x σ H2 hx ⟨S2,zs,st,v2,v3,v4,rfl,hz,hst,dz,lst,pls'⟩
  have hi:i<ys.length:=by have:=(ao.mp hx).1;rwa [gZ] at this
  have hm:ms.reverse[i]? =some (ms.reverse[i]'(by rw[gZ];lia)):=gE _;obtain⟨mk,hmk⟩:∃mk,ms.reverse[i]? =some mk:=⟨_,hm⟩;clear hm;have dx:IsD H2 x (mrkD mk):=by
   have hj:ys.length - 1 - i<ys.length:=by lia
   rw[List.getElem?_reverse ⋯] at hx;rw[List.getElem?_reverse ⋯] at hmk;obtain⟨y,hy,dy⟩:=(dys.same S2).at (i:=ys.length - 1 - i) (d:=mrkD mk) (by rw[ar,lys,hmk];rfl);rw[hx] at hy;cases hy;exact dy
  obtain⟨st',est,est2⟩:=stp_at tot hmk hst;have lzs:zs.length≤10000:=by
   have:=dz.length;rw[aa,gZ] at this;lia
  cases mk with
  | leaf d =>
   have e:st'= .leaf d::st:=by
    have:some (Tq.leaf d::st)=some st':=est;cases this;rfl
   subst e;obtain⟨pd,w1,x1,ed,nw⟩:=hlw d (List.mem_reverse.mp (bp hmk));have dx:IsD H2 x d:=dx;rw[ed] at dx;obtain⟨q,xs,rfl,hq,rq⟩:=IsD.tup_of dx;cases rq with
   | cons d0 rq =>
    cases d0;apply⟨_,rfl,q,_,_,_,rfl,rfl,SqT.of hq,aB (j:=0) rfl,rfl,_,rfl,lW (rY (λz=>nw (by injection z))) ?_⟩;apply⟨_,rfl,.inl ⟨rfl,_,SqL.of hz⟩,_,rfl,Lt,zs,_,rfl,rfl,hz,(b9 lzs ↥0),?_⟩;have KC:kr H2 (upd H2 Lt (.lst (zs++[.ref q]))):=fV hz;apply⟨λa o e=>by rw[bz (bx e hLt)];exact S2 _ _ e,zs++[.ref q],_,_,_,_,rfl,aN,est2,?_,by rw[bf];lia,λt ht=>?_⟩
    ·rw[jK,ax]
     apply(dW.keepP KC dz (lh _ λt ht=>pls' t (List.mem_reverse.mp ht))).append (.cons ?_ .nil);rw[←ed] at dx;exact IsD.keepP KC dx pd
    ·rcases aE.mp ht with rfl | ht
     ·exact pd
     ·exact pls' t ht
  | cut kc ac =>
   obtain⟨x1,y1,s1,rfl,e⟩:∃x1 y1 s1,st=x1::y1::s1∧st'= .cut kc ac x1 y1::s1:=by
    rcases st with _ | ⟨x1,_ | ⟨y1,s1⟩⟩
    ·cases est
    ·cases est
    ·apply⟨x1,y1,s1,rfl,?_⟩
     have:some (Tq.cut kc ac x1 y1::s1)=some st':=est;cases this;rfl
   subst e;have dx:IsD H2 x (.tup [.str "cut",.int (kc:Nat),.int ac]):=dx;obtain⟨q,xs,rfl,hq,rq⟩:=IsD.tup_of dx;obtain rfl:xs=[.str "cut",.int (kc:Nat),.int ac]:=by
    cases rq with
    | cons d0 rq =>
     cases d0;cases rq with
     | cons d1 rq =>
      cases d1;cases rq with
      | cons d2 rq=>cases d2;cases rq;rfl
   rw[jK,jK,ax,ax] at dz;obtain⟨zs1,vx,rfl,dz1,dvx⟩:=dW.snocD dz;obtain⟨zs2,vy,rfl,dz2,dvy⟩:=dW.snocD dz1;have px:=pls' x1 ∅;have py:=pls' y1 ∅;apply⟨_,rfl,q,_,_,_,rfl,rfl,SqT.of hq,aB (j:=0) rfl,rfl,_,rfl,qQ (rX rfl) ?_⟩;apply⟨_,rfl,.inl ⟨rfl,_,SqL.of hz⟩,Lt,_,vx,rfl,rfl,hz,by rw[av,bT ∅];simp,?_⟩;rw[gL];have K3:kr H2 (upd H2 Lt (.lst (zs2++[vy]))):=fV hz;have S3:bC H (upd H2 Lt (.lst (zs2++[vy]))):=λa o e=>by rw[bz (bx e hLt)];exact S2 _ _ e
   have h3:(upd H2 Lt (.lst (zs2++[vy]))) Lt=some (.lst (zs2++[vy])):=aN;generalize upd H2 Lt (.lst (zs2++[vy]))=H3 at K3 S3 h3 ⊢;apply⟨_,rfl,.inl ⟨rfl,_,SqL.of h3⟩,Lt,_,vy,rfl,rfl,h3,by rw[av,bT ∅];simp,?_⟩;rw[gL];have K4:kr H2 (upd H3 Lt (.lst zs2)):=K3.trans (fV h3);have S4:bC H (upd H3 Lt (.lst zs2)):=λa o e=>by rw[bz (bx e hLt)];exact S3 _ _ e
   have h4:(upd H3 Lt (.lst zs2)) Lt=some (.lst zs2):=aN;generalize upd H3 Lt (.lst zs2)=H4 at K4 S4 h4 ⊢;apply⟨_,rfl,.inl ⟨rfl,_,SqL.of h4⟩,_,rfl,_,rfl,_,rfl,oN,λq5 H5 S5 h5=>?_⟩;apply⟨q,q5,_,_,rfl,rfl,S5 _ _ (K4 _ _ hq),h5,szZ5,λq6 H6 S6 h6=>?_⟩;have S46:=S5.trans S6;apply⟨Lt,zs2,_,rfl,rfl,S46 _ _ h4,(b9 (by rw[av,av] at lzs;lia:zs2.length≤10000) ↥0),?_⟩;have K26:kr H2 H6:=λa xs e=>S46 _ _ (K4 _ _ e)
   have KC:kr H6 (upd H6 Lt (.lst (zs2++[.ref q6]))):=fV (S46 _ _ h4);have K2C:=K26.trans KC;apply⟨λa o e=>by rw[bz (bx e hLt)];exact S46 _ _ (S4 _ _ e),zs2++[.ref q6],_,_,_,_,rfl,aN,est2,?_,by simp only[bf] at lst ⊢;lia,λt ht=>?_⟩
   ·rw[jK,ax]
    apply(dW.keepP K2C dz2 (lh _ λt ht=>pls' t (by simp[List.mem_reverse.mp ht]))).append (.cons ?_ .nil);exact .tup (KC _ _ h6) (.cons (.str _) (.cons (.int _) (.cons (.int _) (.cons (IsD.keepP K2C dvx px) (.cons (IsD.keepP K2C dvy py) .nil)))))
   ·rcases aE.mp ht with rfl | ht
    ·exact pl_cut px py
    ·exact pls' t (by simp[ht])
 ·rintro σ H2 ⟨S2,zs,st,v2,v3,v4,rfl,hz,hst,dz,lst,pls'⟩
  rw[lys,←gZ,aX,tot] at hst;cases hst;cases dz with
  | cons d0 dn =>
   cases dn;exact⟨_,rfl,Lt,_,_,_,rfl,rfl,SqL.of hz,aB (j:=0) rfl,k _ H2 S2 d0⟩
abbrev sTreeB:cJ:=top 47
theorem k6:bW ["net","leaf_in","cuts","marks","ahead","case","mark","span","at"] pzn (defScope sTreeB):=by trivial
theorem ok_treeBy {f5 f6 fi g1 g2:ak}{fd5 fd6 di d1 d2:bh}(F:Fun K "tree_by" "tree_by" sTreeB f fd)(T:Nm mg)(CK:CutK P w K mg base T0 p0 q0 T1 p1 q1 C fi g1 g2 di d1 d2)
  (G5:Fn K mg "middle_of" sMid pzq f5 fd5) (G6:Fn K mg "tree_from" sTreeF ["marks"] f6 fd6) (F6:cG P w K mg base CX0 1 f6 fd6 ["marks"] spTreeF):cG P w K mg base CX0 11 f fd pzn (oY P w K mg base T0 p0 q0 T1 p1 q1):=by
 have F5:cG P w K mg base CX0 1 f5 fd5 pzq spMid:=ok_mid G5.F;specialize F.ok k6;obtain ⟨v,g,b,m,sp,R,rfl,hv,N,hcases,hT0,hT1,LM,k⟩:=h;have hr1:iD 1 _:=hr.mono ↥0;have hr2:iD 2 _:=hr.mono ↥0;have hr6:iD 6 _:=hr.mono ↥0;have E:=N.ends;have nfew:=N.few;have m1:=N.m1;have m2:=N.m2;have nb1:=N.b1;apply ⟨_,PSl.h (aZ ⟨(psZ 2 k6.nd (pe_make CK.mke CK.ini hr rfl CK.gl CK.bi .nil pass0 (ae (pv 0) aA)))⟩
  (aZ ⟨(psZ 3 k6.nd (i5 aA))⟩
  (aZ ⟨(psZ 4 k6.nd (i5 (ae (pe_fld (pv 2) rfl) aA)))⟩
  (aZ ⟨(pE bR (cT oQ (d5 dA rfl T.len cV (ae (pv 4) aA)) bI (dI _)) (PSl.h (aZ ⟨(psZ 5 k6.nd (rn bB ft fq rA (pv 4)))⟩
  (aZ ⟨(psZ 6 k6.nd (pe_callV (i:=1) LM hr6 (pv 5)))⟩
  (aZ ⟨(lQ (ib (cT qr (pv 6) jz (dI _)) (PSl.h (aZ ⟨(psZ 7 k6.nd (pe_meth (pv 2) CK.cc.cl CK.m1 CK.f1 hr1 CK.b1 .nil pass0 (ae (pv 5) aA)))⟩
  (aZ ⟨(psZ 8 k6.nd (pc1 G5 F5 hr1 (ae (pv 5) (ae (pv 7) aA))))⟩
  (aZ ⟨(psZ 6 k6.nd (dh (ae nq (ae (pv 7) (ae (pv 8) aA)))))⟩
  (cW ⟨(iY (mI bB PySem.F.slot_list_extend PySem.F.type_list_extend mt_extend (pv 4) (ae (pe_meth (pv 2) CK.cc.cl CK.m2 CK.f2 hr2 CK.b2 .nil pass0 (ae (pv 5) (ae (pv 7) (ae (pv 8) aA)))) aA)))⟩))))) dX))⟩
  (cW ⟨(iY (mI bB cA cz iB (pv 3) (ae (pv 6) aA)))⟩))))))⟩
  (cW ⟨(cf (pc1 G6 F6 hr1 (ae (pv 3) aA)))⟩))))),?_⟩
 apply⟨_,rfl,λx dx hx hdx nxd=>?_⟩;have S0:bC H (upd (upd H dx (.own x)) x (.ins C dx [])):=by
  have Sa:bC H (upd H dx (.own x)):=bC.put (bC.refl H) hdx;exact bC.put Sa (by rw[bz (cx nxd)];exact hx)
 have hx0:(upd (upd H dx (.own x)) x (.ins C dx [])) x=some (.ins C dx []):=aN;generalize upd (upd H dx (.own x)) x (.ins C dx [])=H0 at S0 hx0 ⊢;apply⟨x,dx,v,b,m,sp,rfl,hx0,hv.same S0,N,LamT.same S0 hT0,LamT.same S0 hT1,λl rg H2 st1 kp1 hT02 hT12 RR cd2=>⟨rfl,?_⟩⟩;have f:=RR.ff N;have fr:=RR.fr;have lrg:rg.length≤40:=by
  have:rg.length=(qh sp l).length:=by rw[←RR.ks,aa]
  have h2:(qh sp l).length≤sp.length:=by unfold qh;exact bj (fG _ _) (by rw[bq];exact aC _)
  lia
 have tl:l.length≤15:=by have:=fr.few E ⋯;lia
 have hlt:=f.acy.nodup.2;have st2:qN T0 T1 H H2:=λa o n0 n1 e=>st1 a o n0 n1 (bx e hx) (S0 _ _ e)
 have kp2':Kp H H2:=(bC.kp S0).trans kp1;have hv2:=cq kp2'.tup hv;clear st1 kp1 S0 hx0 hv;obtain⟨dx',c0,tl',ol,ord,h1,h2,h3,h4,h5⟩:=cd2.ex;apply⟨bK _,λLt hLt=>?_⟩;have S3:bC H2 (upd H2 Lt (.lst [])):=bC.put (bC.refl H2) hLt;have hLt3:(upd H2 Lt (.lst [])) Lt=some (.lst []):=aN;generalize upd H2 Lt (.lst [])=H3 at S3 hLt3 ⊢;apply⟨_,rfl,x,C,dx',_,_,rfl,S3 _ _ h1,CK.cc.cl,CK.cc.n1,rfl,szZ1,λAh hAh=>?_⟩;have hAh2:H2 Ah=none:=bC.free S3 hAh;have nLA:Lt≠Ah:=λz=>by rw[←z,hLt3] at hAh;cases hAh
 have S4:bC H3 (upd H3 Ah (.lst [.ref c0])):=bC.put (bC.refl H3) hAh;have hAh4:(upd H3 Ah (.lst [.ref c0])) Ah=some (.lst [.ref c0]):=aN;generalize upd H3 Ah (.lst [.ref c0])=H4 at S4 hAh4 ⊢;have S24:=S3.trans S4;have cl4:CsL H2 H4 [.ref c0] [(sp.map λz=>(z.l,z.o),rg)]:=by
  obtain⟨vb,u,rl,a1,a2,a3,a4⟩:=h2.ex;exact .cons ⟨c0,rfl,vb,u,rl,S24 _ _ a1,a2.same S24,a3,a4⟩ .nil
 have pr0:fO (sp.map λz=>(z.l,z.o)) l≤4096:=by
  have e:=lg l hlt λy hy=>(N.all y hy).lo
  have:=hcases l fr;lia
 have sz0:szC l [(sp.map λz=>(z.l,z.o),rg)]+0≤8191:=by
  show(2 * fO (sp.map λz=>(z.l,z.o)) l - 1)+0+0≤8191;lia
 have ok0:∀c∈[(sp.map (λz=>(z.l,z.o)),rg)],jC b sp l rg c:=(SrcI.start (b:=b) (l:=l) N lrg).ok;apply⟨λn σ Hc=>∃(cs:List Cse) (ms:List Mrk) (zs mv:List V) (w5 w6 w7 w8:Option V),n=szC l cs∧n+ms.length≤8191∧σ=[some v,some (.ref g),some (.ref x),some (.ref Lt),some (.ref Ah),w5,w6,w7,w8]∧bC H2 Hc∧Hc Ah=some (.lst zs)∧CsL H2 Hc zs cs∧Hc Lt=some (.lst mv)∧dW Hc mv (ms.map mrkD)∧(∀c∈cs,jC b sp l rg c)∧Wn R l (sp.map (λz=>(z.l,z.o)),rg) ms cs.reverse∧(∀d,Mrk.leaf d∈ms→LeafW d)∧pls (ms.map mrkD)=true,⟨_,_,[],_,[],_,_,_,_,rfl,sz0,rfl,S24,hAh4,cl4,S4 _ _ hLt3,.nil,ok0,Wn.start,λ_ h=>rW h ∅,rfl⟩,?_⟩;clear cl4 hAh4 S4 S24 hLt3 S3 hAh sz0 ok0;rintro n σ Hc ⟨cs,ms,zs,mv,w5,w6,w7,w8,rfl,n8,rfl,Sc,hAc,clc,hLc,dmv,ok,W,lw,pm⟩;have lzs:zs.length=cs.length:=Paired.len clc;have lmv:mv.length=ms.length:=by rw[dmv.length,aa]
 have lcs:=szC_len hlt cs ok;apply⟨_,rfl,Ah,_,rfl,.inl (SqL.of hAc),_,_,rfl,rfl,_,rfl,?_⟩
 rcases List.eq_nil_or_concat cs with rfl | ⟨cs',c,rfl⟩
 ·have:zs=[]:=g9.mp lzs
  subst this;obtain⟨t,et,gt⟩:=Wn.fin W;apply lW (by rfl) ⟨_,rfl,Lt,mv,ms,t,rfl,hLc,dmv,et,lw,⋯,λu H9 S9 h9=>?_⟩;have S29:=Sc.trans S9;apply k u t H9 (st2.trans (bC.stayT S29)) (kp2'.trans (bC.kp S29)) (LamT.same S29 hT02) (LamT.same S29 hT12) h9 (pl_pre t (by rw[←et];exact lw)) (gt 21 ?_);have:2 ^ 21 * fO (sp.map λz=>(z.l,z.o)) l≤2 ^ 21 * 4096:=Nat.mul_le_mul_left _ pr0;exact bj this ↥0
 rw[List.concat_eq_append] at *;obtain⟨zs',y,rfl,clc',q,rfl,ce⟩:=Paired.snoc_of clc;apply qQ (rX (by rw[av];show((zs'.length+1:Nat):Int) > 0;lia)) ⟨_,λσ' H' z=>z,?_⟩;apply⟨_,rfl,.inl ⟨rfl,_,SqL.of hAc⟩,Ah,_,.ref q,rfl,rfl,hAc,by rw[av,bT ∅];simp,?_⟩;rw[gL];have K5:kr Hc (upd Hc Ah (.lst zs')):=fV hAc;have S5:bC H2 (upd Hc Ah (.lst zs')):=λa o e=>by rw[bz (bx e hAh2)];exact Sc _ _ e
 have hA5:(upd Hc Ah (.lst zs')) Ah=some (.lst zs'):=aN;have hL5:(upd Hc Ah (.lst zs')) Lt=some (.lst mv):=by rw[bz nLA];exact hLc
 have cl5:=CsL.keep K5 (show CsL H2 Hc zs' cs' from clc');have ce5:=ce.keep K5;have dmv5:=dW.keepP K5 dmv pm;generalize upd Hc Ah (.lst zs')=H5 at K5 S5 hA5 hL5 cl5 ce5 dmv5 ⊢;have C':=ok c ∅;have less:=sz_less (cs:=cs') f C';rw[List.reverse_append] at W;have W:Wn R l (sp.map (λz=>(z.l,z.o)),rg) ms (c::cs'.reverse):=W;have ok':∀d∈cs',jC b sp l rg d:=λd hd=>ok d (aM _ hd)
 have lcs':cs'.length+1≤8191:=by rw[av] at lcs;show cs'.length+[c].length≤8191;lia
 have lz':zs'.length=cs'.length:=Paired.len cl5;have stH5:qN T0 T1 H H5:=st2.trans (bC.stayT S5);clear clc clc' ce hAc hLc dmv K5 lzs ok;apply⟨rfl,stH5,_,rfl,stH5,l,rg,q,c,rfl,RR,ce5.dn S5,C',hv2.same S5,λr H6 S6 hd=>?_⟩;have S26:=S5.trans S6;have hA6:=S6 _ _ hA5;have hL6:=S6 _ _ hL5;have ce6:=ce5.keep (bC.tupK S6);have cl6:=CsL.keep (bC.tupK S6) cl5;have dmv6:=dmv5.same S6;clear ce5 cl5 dmv5 hA5 hL5 stH5;apply⟨λσ' H'=>∃(cs2:List Cse) (mk:Mrk) (zs2:List V) (v6:V) (w7 w8:Option V),szC l cs2<szC l (cs'++[c])∧σ'=[some v,some (.ref g),some (.ref x),some (.ref Lt),some (.ref Ah),some (.ref q),some v6,w7,w8]∧bC H2 H'∧H' Ah=some (.lst zs2)∧CsL H2 H' zs2 cs2∧H' Lt=some (.lst mv)∧dW H' mv (ms.map mrkD)∧IsD H' v6 (mrkD mk)∧(∀c∈cs2,jC b sp l rg c)∧Wn R l (sp.map (λz=>(z.l,z.o)),rg) (ms++[mk]) cs2.reverse∧(∀d,mk= .leaf d→LeafW d)∧pl (mrkD mk)=true,?_,?_⟩
 ·rintro σ' H7 ⟨cs2,mk,zs2,v6,w7,w8,less2,rfl,S7,hA7,cl7,hL7,dm7,d6,ok2,W2,lw2,pm2⟩
  apply⟨_,rfl,.inl ⟨rfl,_,SqL.of hL7⟩,_,rfl,Lt,mv,_,rfl,rfl,hL7,(b9 (by lia:mv.length≤10000) ↥0),?_⟩;have K8:kr H7 (upd H7 Lt (.lst (mv++[v6]))):=fV hL7;apply⟨_,less2,cs2,ms++[mk],zs2,mv++[v6],_,_,_,_,rfl,by rw[av];show _+(ms.length+1)≤8191;lia,rfl,λa o e=>by rw[bz (bx e hLt)];exact S7 _ _ e,by rw[bz (cx nLA)];exact hA7,CsL.keep K8 cl7,aN,?_,ok2,W2,λd hd=>?_,?_⟩
  ·rw[ax]
   exact(dW.keepP K8 dm7 pm).append (.cons (IsD.keepP K8 d6 pm2) .nil)
  ·rcases aQ.mp hd with z | z
   ·exact lw d z
   ·exact lw2 d (ay.mp z).symm
  ·rw[ax,pls_appT,pm,Bool.true_and]
   show(pl (mrkD mk) && true)=true;rw[pm2];rfl
 apply⟨_,rfl,rfl,_,rfl,?_⟩
 rcases hd with ⟨d,dr,dw,dR⟩ | ⟨rfl,al,k0,hk0,hlk0⟩
 ·have nr:r≠ .non:=λe=>by
   obtain⟨_,w',x',ed,_⟩:=dw;rw[e,ed] at dr;cases dr
  apply lW (rY nr) ?_;exact⟨cs',.leaf d,zs',r,_,_,less,rfl,S26,hA6,cl6,hL6,dmv6,dr,ok',W.leaf dR,(λd' e=>by cases e;exact dw),dw.1⟩
 apply qQ (rX rfl) ?_;apply⟨_,rfl,x,dx',_,rfl,S26 _ _ h1,rfl,_,rfl,x,q,sp,l,rg,c.2,c.1,rfl,cd2.same S26,ce6.dn S26,λj hj=>by rw[C'.ob.len];exact hlt j hj,⋯,λfx=>rW hlk0 (fx k0 hk0),λj hj hlj=>?_⟩;have hjb:j<c.1.length:=by rw[C'.ob.len];exact hlt j hj
 apply⟨_,rfl,_,rfl,q,j,c.1,c.2,rfl,ce6.dn S26,hjb,?_⟩;obtain⟨a,ha⟩:∃a,a=((c.1.getD j (0,0)).1+(c.1.getD j (0,0)).2) / 2:=⟨_,rfl⟩;rw[←ha];apply⟨_,rfl,_,rfl,(by show 3≤bo;decide),λqm H7 S7 hm7=>?_⟩;have S27:=S26.trans S7;apply⟨_,rfl,.inl ⟨rfl,_,SqL.of (S7 _ _ hA6)⟩,_,rfl,x,dx',_,rfl,S27 _ _ h1,rfl,_,rfl,_,rfl,_,rfl,H2,x,q,j,a,sp,l,rg,c.2,c.1,rfl,S27,cd2,(ce6.keep (bC.tupK S7)).dn S27,hjb,C'.ob.len,by rw[C'.ob.len];exact nfew,λL q1 q2 H8 S8 fL hL e1 e2=>?_⟩;have nLA2:L≠Ah:=λz=>by rw[z,S7 _ _ hA6] at fL;cases fL
 have hA8:=S8 _ _ (S7 _ _ hA6);apply⟨Ah,L,_,_,rfl,rfl,hA8,hL,bj (m:=10000) (by show zs'.length+2≤10000;lia) ↥0,?_⟩;have K9:kr H8 (upd H8 Ah (.lst (zs'++[.ref q1,.ref q2]))):=fV hA8;have K68:kr H6 H8:=λa xs e=>S8 _ _ (S7 _ _ e)
 obtain⟨okn,lessn,p2⟩:=sz_cut f lrg C' al hj (a:=a) ⋯ ⋯ ok';obtain⟨mid1,mid2⟩:=prodC_mid C'.ob f.acy.nodup.1 hlt hj hlj ha;apply⟨_,.cut j a,_,.ref qm,_,_,lessn,rfl,λa o e=>?_,aN,?_,?_,?_,?_,okn,?_,(λd e=>by cases e),rfl⟩
 ·rw[bz (bx e hAh2)];exact S8 _ _ (S27 _ _ e)
 ·exact Paired.app (CsL.keep K9 (CsL.keep K68 cl6)) (.cons ⟨q1,rfl,e1.keep K9⟩ (.cons ⟨q2,rfl,e2.keep K9⟩ .nil))
 ·rw[bz nLA];exact S8 _ _ (S7 _ _ hL6)
 ·exact dW.keepP K9 (dW.keepP K68 dmv6 pm) pm
 ·exact .tup (K9 _ _ (S8 _ _ hm7)) (.cons (.str _) (.cons (.int _) (.cons (.int _) .nil)))
 ·rw[List.reverse_append]
  exact W.cut hjb ⋯ ⋯ p2 mid1 mid2
abbrev sCases:cJ:=top 26
theorem oz.nats (a:oz m sp ns):∃(l π:List Nat),ns=l.map (λ(i:Nat)=>(i:Int))∧rO sp π∧l.Perm (j7 sp m π).2:=by
 obtain⟨π,o,p,_⟩:=a;have nn:∀x∈ns,0≤x:=λx hx=>by
  obtain⟨i,_,rfl⟩:=aL.mp (p.mem_iff.mp hx);lia
 apply⟨ns.map Int.toNat,π,?_,o,?_⟩
 ·rw[cg]
  conv=>lhs;rw[←jx ns]
  exact cw λx hx=>(fm (nn x hx)).symm
 ·have q:=p.map Int.toNat
  rw[cg] at q;have e:((j7 sp m π).2.map (Int.toNat ∘ λ(i:Nat)=>(i:Int)))=(j7 sp m π).2:=by
   conv=>rhs;rw[←jx (j7 sp m π).2]
   exact cw λx _=>rfl
  rw[e] at q;exact q
theorem gone_few (E:Ends m sp)(h:∀i∈π,i<sp.length):(j7 sp m π).2.length≤m:=by
 obtain⟨D,_,_,l⟩:=gone_cnt E π (ko m) [] (j6 m) h (Cnt.start m);have l:D.length+(j7 sp m π).2.length=m:=l;lia
theorem gone_lt (h:∀i∈π,i<sp.length):∀i∈(j7 sp m π).2,i<sp.length:=λi hi=>by
 rcases(kL sp π (ko m,[])).1 i hi with z | z
 ·cases z
 ·exact h i z
def WOk (sp:List Sn):Prop:=∀x∈sp,0≤x.o - x.l∧x.o - x.l+1≤10 ^ 61
theorem ia.wok {m:Int}(N:ia b m sp)(h:b≤10 ^ 61):WOk sp:=λx hx=>by
 have s:=N.all x hx;have:=s.lo;have:=s.ob;lia
theorem prodW_abs {sp:List Sn}(w:WOk sp):∀{l:List Nat},(∀i∈l,i<sp.length)→(hW sp l).natAbs≤(10 ^ 61) ^ l.length
 | [],_=>by show 1≤(10 ^ 61) ^ 0;decide
 | i::l,h=>by
  rw[iH,Int.natAbs_mul,bf,Nat.pow_succ,jU ((10 ^ 61) ^ l.length)];apply Nat.mul_le_mul ?_ (prodW_abs w λj hj=>h j (aw _ hj));have:=w _ (eD (h i bt));show((sAt sp i).o - (sAt sp i).l+1).natAbs≤_;lia
theorem pow_33 {k:Nat}(h:n≤(10 ^ 61) ^ k)(hk:k≤16):n<10 ^ 1000:=by
 apply b9 h ?_;rw[←Nat.pow_mul];exact Nat.pow_lt_pow_right ↥0 ⋯
inductive spCases (T:ak)(lp:Pos)(lq:Str)(vs:List V)(H:Hp)(Q:VK)(_:XK):Prop
 | mk (v b m sp:_)(_:vs=[v])(_:IsD H v (jA b m sp))(_:ia b m sp)(_:b≤10 ^ 61)(_:L2.LamT T lp lq H)(_:∀H' (l:List Nat),L2.Tb T H H'→L2.LamT T lp lq H'→jh m.toNat sp l→Q (.int (hW sp l)) H')
theorem scCases:bW ["net","cases","span"] pza (defScope sCases):=by trivial
theorem ok_cases (F:Fun K "cases_of" "cases_of" sCases f fd)(G1:Fn K mg "forest_of" lO pza f1 fd1)(F1:cG P w K mg base CX0 6 f1 fd1 pza (k5 Tb0 lp lq))(G2:Fn K mg "width_of" sWidth pzi f2 fd2) :
  cG P w K mg base CX0 7 f fd pza (spCases Tb0 lp lq):=by
 have F2:cG P w K mg base CX0 1 f2 fd2 pzi spWidth:=ok_width G2.F;specialize F.ok scCases;obtain ⟨v,b,m,sp,rfl,hv,N,b33,hT,k⟩:=h;have hr1:iD 1 _:=hr.mono ↥0;have E:=N.ends;have m2:=N.m2;have m1:=N.m1;have wk:=N.wok b33;apply ⟨_,PSl.h (aZ ⟨(psZ 1 scCases.nd bI)⟩
  (aZ ⟨(iP bR rfl (jj (pc1 G1 F1 hr (ae (pv 0) aA))) (pgZ 2 scCases.nd) (cL (qp (i:=1) scCases.nd rfl (.inl rfl) (cS gh (pc1 G2 F2 hr1 (ae (pv 0) (ae (pv 2) aA))) bI) ip_mulG)))⟩
  (cW ⟨(cf (pv 1))⟩))),?_⟩
 apply⟨_,rfl,v,b,m,sp,rfl,hv,N,hT,λu H1 ns tb hT1 hu F0=>?_⟩;obtain⟨l,π,rfl,O,pm⟩:=F0.nats;have hp:∀i∈π,i<sp.length:=λi hi=>O.lt hi
 have hlt:∀i∈l,i<sp.length:=λi hi=>gone_lt hp i (pm.mem_iff.mp hi)
 have few:l.length≤16:=by have:=gone_few E hp;rw[pm.length_eq];lia
 have hv1:=cq (Tb.tupK (LamT.tbl hT) tb) hv;rw[cg] at hu;apply⟨u,rfl,⟨_,SqT.of hu⟩,?_⟩;apply ox (K:=K) (a:=u) (xs:=l.map (V.int ∘ λ(i:Nat)=>(i:Int))) (λi σ HA=>HA=H1∧∃v2,σ=[some v,some (.int (hW sp (l.take i))),v2]) ⟨rfl,none,rfl⟩ (λi σ HA _ ⟨e,_⟩=>by rw[e];exact SqT.of hu) ?_ ?_
 ·rintro i x σ HA hx ⟨rfl,v2,rfl⟩
  rw[ar] at hx;obtain⟨j,hj,rfl⟩:=br.mp hx;have hjl:=bp hj;have hjn:=hlt j hjl;have w0:=wk _ (eD hjn);apply⟨_,rfl,_,rfl,_,rfl,v,b,m,sp,j,sAt sp j,rfl,hv1,jy hjn,_,_,rfl,rfl,?_⟩;apply⟨_,_,rfl,rfl,⟨?_,?_⟩,rfl,some (.int j),?_⟩
  ·exact pow_33 (prodW_abs wk (l:=l.take i) λk hk=>hlt k (kh hk)) (by rw[bw];lia)
  ·exact pow_33 (k:=1) (by rw[Nat.pow_one];lia) ↥0
  ·rw[aY,hj]
   show _=[some v,some (.int (hW sp (l.take i++[j]))),_];rw[kM];rfl
 ·rintro σ HA ⟨rfl,v2,rfl⟩
  rw[aa,aX];exact⟨_,rfl,k HA l tb hT1 ⟨F0,π,O,pm⟩⟩
abbrev km:cJ:=top 48
def lamE5:List cJ→Expr
 | [_,_,_,_,.Return (some (.Tuple [_,.Call _ [_,e] _ _] _ _)) _]=>e
 | _=> .Constant .none 0 ⟨0,0,0,0⟩
def lamP5:Expr→Pos
 | .Lambda _ _ _ p=>p
 | _=>⟨0,0,0,0⟩
def lamS5:Expr→fN
 | .Lambda _ _ s _=>s
 | _=>{ kind:= .function,names:=[],isGenerator:=false,isCoroutine:=false }
def lamA5:Expr→fH
 | .Lambda a _ _ _=>a
 | _=>{ posonlyargs:=[],args:=[],vararg:=none,kwonlyargs:=[],kw_defaults:=[],kwarg:=none,defaults:=[] }
def lamB5:Expr→Expr
 | .Lambda _ e _ _=>e
 | e=>e
abbrev laT:fH:=lamA5 (lamE5 (fX km))
abbrev lbT:Expr:=lamB5 (lamE5 (fX km))
abbrev lpT:Pos:=lamP5 (lamE5 (fX km))
abbrev lsT:fN:=lamS5 (lamE5 (fX km))
abbrev lqT:Str:=(("table_for" :Str) ++ ".<locals>.") ++ "<lambda>"
theorem pq (N:∀b o,fz b=some o→H b=none):bC H (ptF H fz):=λa o e=>by
 cases q:fz a with
 | none=>rw[iA q];exact e
 | some o'=>rw[N a o' q] at e;cases e
theorem ctF_kp (F:Fz fz H):Kp H (ctF H fz):=⟨λq xs e=>F.cut e (λ_ z=>by cases z),λq xs e=>F.cut e (λ_ z=>by cases z),λq _ xs e=>F.cut e (λ_ z=>by cases z)⟩
theorem ptF_back (F:Fz fz H)(S:bC (ctF H fz) H'):bC H (ptF H' fz):=λa o e=>by
 cases q:fz a with
 | some o'=>rw[F a o' q] at e;cases e;exact qk q
 | none=>rw[iA q];exact S a o (by rw[iC q];exact e)
theorem LamT.cutF {T:ak}(F:Fz fz H)(cl:∀c o,fz c=some o→∃v,o.data= .cell v)(h:L2.LamT T lp lq H):L2.LamT T lp lq (ctF H fz):=by
 rcases h with h | ⟨c,h,oc,vs,t,e,hd,r⟩
 ·exact .inl (F.cut h (λ_ z=>by cases z))
 ·apply .inr ⟨c,F.cut h (λ_ z=>by cases z),oc,vs,t,?_,hd,r⟩
  cases q:fz c with
  | none=>rw[iC q];exact e
  | some o' =>
   obtain⟨v,hv⟩:=cl c o' q;rw[F c o' q] at e;cases e;rw[hd] at hv;cases hv
theorem LmOk.imp {k:Nat}{Hg:Hp→Prop}{sp:Sp}(L:LmOk P w K mg base k f Hf sp)(h:∀H,Hg H→Hf H):LmOk P w K mg base k f Hg sp:=⟨λH hh g=>L.isFn H hh (h H g),λA outer s H u v Q hr e0 g=>L.run A outer s H u v Q hr e0 (h H g)⟩
inductive pT (T0:ak)(p0:Pos)(q0:Str)(T1:ak)(p1:Pos)(q1:Str)(T2:ak)(vs:List V)(H:Hp)(Q:VK)(_:XK):Prop
 | mk (v:V)(b m:Int)(sp:List Sn)(_:vs=[v])(_:IsD H v (jA b m sp))(_:ia b m sp)(_:(∀l,jh m.toNat sp l→hW sp l≤4096))(_:L2.LamT T0 p0 q0 H)(_:L2.LamT T1 p1 q1 H)(_:L2.LamT T2 lpT lqT H)(_:∀(q:ak) (H':Hp),(∀a o,a≠T0→a≠T1→a≠T2→H a=some o→H' a=some o)→Kp H H'→L2.LamT T0 p0 q0 H'→L2.LamT T1 p1 q1 H'→L2.LamT T2 lpT lqT H'→((∃(qt:ak) (t:List Int),H' q=some (.tup [.str "table",.ref qt])∧H' qt=some (.tup (t.map V.int))∧kU b m sp t)∨∃(u:V) (t:Tq),H' q=some (.tup [.str "none",u])∧IsD H' u (kZ t)∧pl (kZ t)=true∧(∀T,¬fF b T sp=true)∧GoodT (RDead b sp) t (sp.map λz=>(z.l,z.o)) 21)→Q (.ref q) H')
theorem ps_out:PS X st (λ_ _ _=>False):=λ_ _ _ _ _ _ h=>h.elim
theorem scTabFor:bW ["net","many","tables"] pza (defScope km):=by trivial
theorem ok_tabForN {c T2:ak}(F:Fun K "table_for" "table_for" km f fd)(hcd:fd.code= .ref c)(CH:eP K c T2=true)(B:BM mg base)(T:Nm mg)(MC:∃t,mg "MOST_CASES" =some (.int 4096 t))(ne:T0≠T1)(n2:T2≠T0)(n3:T2≠T1)
  (G1:Fn K mg "cases_of" sCases pza f1 fd1) (F1:cG P w K mg base CX0 7 f1 fd1 pza (spCases T0 p0 q0))
  (G2:Fn K mg "tables_that_fit" sTabF pzm f2 fd2) (F2:cG P w K mg base CX0 11 f2 fd2 pzm (spTabF T0 p0 q0 T1 p1 q1))
  (G3:Fn K mg "tree_by" sTreeB pzn f3 fd3) (F3:cG P w K mg base CX0 11 f3 fd3 pzn (oY P w K mg base T0 p0 q0 T1 p1 q1))
  (G4:Fn K mg "dead_leaf" sDeadL pzk f4 fd4) (F4:cG P w K mg base CX0 4 f4 fd4 pzk pV):cG P w K mg base CX0 12 f fd pza (pT T0 p0 q0 T1 p1 q1 T2):=by
 apply okC F hcd scTabFor (by contradiction) (fun A outer s H vs Q E hr h=>?_);obtain ⟨v,b,m,sp,rfl,hv,N,hc,hT0,hT1,hT2,k⟩:=h;have hr7:iD 7 _:=hr.mono ↥0;apply ⟨_,PSl.h (aZ ⟨(psZ 1 scTabFor.nd (pc1 G1 F1 hr7 (ae (pv 0) aA)))⟩
  (aZ ⟨(ib (cT oQ (pv 1) (pe_gint MC) (dI _)) (cL ps_out) dX)⟩
  (aZ ⟨(psZ 2 scTabFor.nd (pc1 G2 F2 hr (ae (pv 0) (ae bI aA))))⟩
  (aZ ⟨(ib (cT oQ (d5 dA rfl T.len cV (ae (pv 2) aA)) bI (dI _)) (cL (cf (dh (ae nq (ae (eM fP (pv 2) bI (fun _ _=>rfl)) aA))))) dX)⟩
  (cW ⟨(cf (dh (ae nq (ae (pe_callZ (scope:=lsT) (fr:=pza) (js:=[0]) F3 hr (fun _=>rfl) rfl G3.mg G3.F.kp G3.b rfl (by trivial) (by exists km) (ae (pv 0) (ae (pe_lam (T:=T2) rfl rfl CH B (by exists km)) aA))) aA))))⟩))))),?_⟩
 apply⟨_,rfl,v,b,m,sp,rfl,hv,N,by have:=N.b2;lia,hT0,λH1 l tb1 hT01 fr=>?_⟩;have kp1:=Tb.kp hT0 tb1;have hT11:=LamT.ntb hT1 hT0 (cx ne) tb1;have hT21:=LamT.ntb hT2 hT0 n2 tb1;have cl:=hc l fr;apply⟨_,rfl,_,_,rfl,rfl,_,rfl,lW (rY ⋯) ?_⟩;apply⟨_,rfl,v,b,m,sp,1,rfl,cq kp1.tup hv,N,↥0,hc,hT01,hT11,λL tv l' rg Ts H2 st2 kp2 hT02 hT12 hL dL R tabs few hold=>?_⟩;have hT22:L2.LamT T2 lpT lqT H2:=by
  obtain⟨ps0,e0⟩:=LamT.tbl hT01;obtain⟨ps1,e1⟩:=LamT.tbl hT11
  rcases hT21 with h | ⟨c',h,oc,vs,t,e,r⟩
  ·exact .inl (st2 _ _ n2 n3 h)
  ·exact .inr ⟨c',st2 _ _ n2 n3 h,oc,vs,t,st2 _ _ (fb e e0 nofun) (fb e e1 nofun) e,r⟩
 have ltv:tv.length=Ts.length:=by rw[dL.length];unfold dO;rw[aa]
 apply⟨_,rfl,L,_,rfl,.inl (SqL.of hL),_,_,rfl,rfl,_,rfl,?_⟩;cases Ts with
 | cons t Ts =>
  apply qQ (rX (by rw[ltv,bf];show((Ts.length+1:Nat):Int) > 0;lia)) ?_;cases dL with
  | cons d0 ds =>
   rename_i y ys;obtain⟨qt,qs,rfl,hq,rq⟩:=IsD.tup_of d0;have eq:=rq.ints_of;subst eq;apply⟨_,rfl,L,_,_,_,rfl,rfl,SqL.of hL,aB (j:=0) rfl,oN,λq H3 S3 h3=>?_⟩;exact k q H3 (λa o n0 n1 _ e=>S3 _ _ (st2 a o n0 n1 (tb1 a o n0 e))) (kp1.trans (kp2.trans (bC.kp S3))) (LamT.same S3 hT02) (LamT.same S3 hT12) (LamT.same S3 hT22) (.inl ⟨qt,t,h3,S3 _ _ hq,tabs t ∅⟩)
 | nil =>
  apply lW (rY (by rw[ltv];decide)) ?_;have nof:∀T',¬fF b T' sp=true:=λT' hT'=>by
   obtain⟨t,ht,_⟩:=hold (.inl ↥0) T' hT';cases ht
  have hv2:=cq kp2.tup (cq kp1.tup hv);apply⟨_,rfl,hT22,λg cl' H3 tb3 hT23 LF LE=>⟨cl',[v],LE,rfl,λfz C0 N0=>?_⟩⟩;have kp3:=Tb.kp hT22 tb3;have hT03:=LamT.ntb hT02 hT22 (cx n2) tb3;have hT13:=LamT.ntb hT12 hT22 (cx n3) tb3;have SP:=pq N0;have hT04:=LamT.same SP hT03;have hT14:=LamT.same SP hT13;have LF:LamF lqT laT lbT lsT cl' g H3:=LF;have LF4:=LF.same SP;have hv4:=(cq kp3.tup hv2).same SP;have m2:=N.m2;have m1:=N.m1;have LM:LmOk P w K mg base 6 g (qN T0 T1 (ptF H3 fz)) (o4 v b m sp (RDead b sp)):=by
   apply LmOk.mono (j:=5) (LmOk.imp (lam_run (k:=4) (q:=lqT) (params:=laT) (body:=lbT) (scope:=lsT) (cl:=cl') (fz:=fz) (x := "case") (fr:=pza) (ws:=[v]) (λ_ _ _ _=>rfl) rfl rfl rfl (by trivial) rfl ↥0 C0 (λy hy hf=>?_) (by trivial) (λL' cd A' outer' s' H' hr'=>pc1 G4 F4 hr' (ae (pv 1) (ae (pv 0) aA))) (λv' Hx Qx _ Zx hsp=>?_)) λHx st=>?_) ↥0
   ·have e:y.1 = "net" := (by trivial:∀y:Str×cO,y∈lsT.names→y.2=cO.free→y.1 = "net") y hy hf
    obtain⟨cc,_,_,ec,_⟩:=C0.val 0 "net" v rfl rfl;exact⟨cc,by rw[e];exact ec⟩
   ·obtain⟨l2,rg2,q2,c2,e2,R2,cd2,ok2,hvx,kk⟩:=hsp
    cases e2;have KX:=ctF_kp Zx;have f2:=R2.ff N;have tl:l2.length≤15:=by have:=R2.fr.few N.ends ⋯;lia
    apply⟨_,rfl,_,rfl,v,q2,b,m,sp,c2.1,c2.2,rfl,cq KX.tup hvx,by have:=N.b1;lia,by have:=N.b2;lia,cd2.kp KX,ok2.few,λz hz=>by rw[ok2.ob.len];exact((f2.rk z (ok2.sub z hz)).rg N tl).inn,λr H' S' hd fr'=>?_⟩;apply kk r _ (ptF_back Zx S') ?_
    rcases hd with ⟨rfl,al⟩ | ⟨z,hz,dz,hdz⟩
    ·apply .inr ⟨rfl,al,fe λnz=>?_⟩
     have ht2:=f2.acy.nodup.2;have fix:∀j∈l2,(c2.1.getD j (0,0)).1=(c2.1.getD j (0,0)).2:=λj hj=>by
      have h1:=(ok2.ob.lo j (ht2 j hj)).2.1;have h2:¬((c2.1.getD j (0,0)).1<(c2.1.getD j (0,0)).2):=λz=>nz ⟨j,hj,z⟩
      lia
     obtain⟨ts,_,_,hf,_⟩:=tight N f2 ok2.ob ⟨fix,ok2.all al⟩;exact nof ts hf
    ·exact .inl ⟨_,IsD.keepP (bC.tupK (pq fr')) dz (oq z.2).1,oq z.2,z.2,rfl,(f2.rk z (ok2.sub z hz)).rg N tl,hdz⟩
   ·obtain⟨ps0,e0⟩:=LamT.tbl hT04
    obtain⟨ps1,e1⟩:=LamT.tbl hT14;have fz':∀a o u,ptF H3 fz a=some (.frz o u)→Hx a=some (.frz o u):=λa o u e=>st a _ (fb e e0 nofun) (fb e e1 nofun) e
    obtain⟨pm,cd,ct,e,oc,vs,t,ec,r⟩:=LF4;exact⟨⟨pm,cd,ct,fz' _ _ _ e,oc,vs,t,fz' _ _ _ ec,r⟩,λa o z=>fz' _ _ _ (qk z)⟩
  apply⟨v,g,b,m,sp,RDead b sp,rfl,hv4,N,hc,hT04,hT14,LM,λu t H5 st5 kp5 hT05 hT15 du plu gd Z5=>?_⟩;have KC:=ctF_kp Z5;have hT25:L2.LamT T2 lpT lqT H5:=by
   obtain⟨ps0,e0⟩:=LamT.tbl hT04;obtain⟨ps1,e1⟩:=LamT.tbl hT14
   rcases LamT.same SP hT23 with h | ⟨c',h,oc,vs,t,e,r⟩
   ·exact .inl (st5 _ _ n2 n3 h)
   ·exact .inr ⟨c',st5 _ _ n2 n3 h,oc,vs,t,st5 _ _ (fb e e0 nofun) (fb e e1 nofun) e,r⟩
  apply⟨oN,λq H6 S6 h6=>?_⟩;have kpa:Kp H H6:=kp1.trans (kp2.trans (kp3.trans ((bC.kp SP).trans (kp5.trans (KC.trans (bC.kp S6))))));have sta:∀a o,a≠T0→a≠T1→a≠T2→H a=some o→H6 a=some o:=λa o n0 n1 n2' e=>by
   have e3:=tb3 a o n2' (st2 a o n0 n1 (tb1 a o n0 e));have e5:=st5 a o n0 n1 (SP _ _ e3);apply S6 _ _ ?_;have fo:fz a=none:=by
    cases z:fz a with
    | none=>rfl
    | some o'=>rw[N0 a o' z] at e3;cases e3
   rw[iC fo];exact e5
  exact k q H6 sta kpa (LamT.same S6 (LamT.cutF Z5 C0.cell hT05)) (LamT.same S6 (LamT.cutF Z5 C0.cell hT15)) (LamT.same S6 (LamT.cutF Z5 C0.cell hT25)) (.inr ⟨u,t,h6,(IsD.keepP KC.tup du plu).same S6,plu,nof,gd⟩)
abbrev qd:cJ:=top 50
abbrev sLeafBy:cJ:=top 51
inductive spPriceL (vs:List V)(H:Hp)(Q:VK)(_:XK):Prop
 | mk (v vb:V)(u:ak)(b m:Int)(sp:List Sn)(l:List Nat)(rg:List (Nat×List Stp))(bs:List (Int×Int))(rl:List V)(_:vs=[v,.ref u,vb])(_:IsD H v (jA b m sp))(_:ia b m sp)(_:FF m sp l rg)(_:H u=some (.lst rl))(_:dW H rl (rg.map wayQ))(_:IsD H vb (bndP bs))(_:bs.length=sp.length)(_:∀r H',bC H H'→IsD H' r (leafP (.price (oH b sp bs rg)))→Q r H')
inductive spLeafBy (vs:List V)(H:Hp)(Q:VK)(_:XK):Prop
 | mk (v:V)(u q:ak)(w:Int)(b m:Int)(sp:List Sn)(l:List Nat)(rg rg':List (Nat×List Stp))(c:Cse)(rl:List V)(_:vs=[v,.ref u,.int w,.ref q])(_:IsD H v (jA b m sp))(_:ia b m sp)(_:FR m sp l rg)(_:FR m sp l rg')(_:H u=some (.lst rl))(_:dW H rl (rg.map wayQ))(_:CsD H q c.1 c.2)(_:jC b sp l rg' c)(_:∀r H',bC H H'→((∃d,IsD H' r d∧LeafW d∧RBest b sp w c.1 d)∨(r= .non∧(∀z∈c.2,jR b c.1 z.2=false)∧lJ b sp c.1 (oH b sp c.1 rg)<w))→Q r H')
theorem sureR_next {bs:List (Int×Int)}{rg:List (Nat×List Stp)}(hi:i<rg.length):kx b sp bs (rg.take (i+1))=kx b sp bs (rg.take i)++(if sureB b bs rg[i].2=true then [((sAt sp rg[i].1).w,rg[i].2)] else []):=by
 unfold kx k9;rw[aY,gE hi,gp,ax];congr 1;show([rg[i]].filter _).map _=_;rw[hV,List.filter_nil]
 by_cases e:sureB b bs rg[i].2=true
 ·rw[rV e,rV e];rfl
 ·rw[rT e,rT e];rfl
theorem ob_bu {m:Int}{bs:List (Int×Int)}(N:ia b m sp)(O:OB sp l bs):BsU bs:=λq hq=>by
 obtain⟨k,hk,rfl⟩:=List.mem_iff_getElem.mp hq;have hk':k<sp.length:=by rw[←O.len];exact hk
 have h:=O.lo k hk';have e:bs.getD k (0,0)=bs[k]:=by rw[ag,gE hk];rfl
 rw[e] at h;have s:=N.all _ (eD hk');have:=s.l0;have:=s.o60;exact⟨⋯,h.2.1,⋯⟩
theorem scPriceL:bW ["net","rings","bounds","rows"] pzL (defScope qd):=by trivial
theorem ok_priceL (F:Fun K "price_leaf" "price_leaf" qd f fd)(T:Nm mg)(G1:Fn K mg "is_sure" sSure pzc f1 fd1)(F1:cG P w K mg base CX0 3 f1 fd1 pzc spSure):cG P w K mg base CX0 4 f fd pzL spPriceL:=by
 specialize F.ok scPriceL;obtain⟨v,vb,u,b,m,sp,l,rg,bs,rl,rfl,hv,N,ff,hu,dl,hb,lb,k⟩:=h;obtain⟨t,p,ys,rfl,ht,hp,hl,hy⟩:=eU hv;have b1:=N.b1;have m2:=N.m2;have fw:=ff.few;have lrl:rl.length=rg.length:=by rw[dl.length,aa]
 have few:=rg_few N ff;apply ⟨_,PSl.h (aZ ⟨(qo (iy:=3) (fr:=["net","bounds"]) (js:=[0,2]) scPriceL.nd rfl (.inl rfl) rfl (jZ (pv 1)) (by trivial) rfl (by trivial) rfl (by exists qd) (by trivial) rfl (by trivial) (fun _ _ _ _ _=>⟨(dh (ae (eM (r:=pj K) eJ (eM (r:=pj K) eJ (eM (r:=pj K) eJ (pv 1) bI (fun _ _=>rfl)) (eM (r:=pj K) eJ (eM (r:=pj K) eJ (pv 0) bI (fun _ _=>rfl)) bI (fun _ _=>rfl)) (fun _ _=>rfl)) bI (fun _ _=>rfl)) (ae (pv 0) aA))),(qi (mr (pc1 G1 F1 hr (ae (pv 1) (ae (pv 2) (ae (pv 0) aA))))))⟩))⟩
  (cW ⟨(cf (dh (ae nq (ae (dk fU rfl T.ttup eX (ae (gm (fr:=[]) (js:=[]) rfl (jZ (pv 3)) (by trivial) rfl (by trivial) rfl (by exists qd) (by trivial) rfl (by trivial) (fun _ _ _ _ _=>⟨(pv 0),(qi (cT oQ (eM (r:=pj K) eJ (pv 0) bI (fun _ _=>rfl)) bI (dI _)))⟩)) aA)) aA))))⟩)),?_⟩
 apply⟨_,rfl,u,rfl,⟨_,SqL.of hu⟩,?_⟩;apply kR (K:=K) (a:=u) (xs:=rl) (λi zs HC=>bC H HC∧zs.length≤i∧dW HC zs ((kx b sp bs (rg.take i)).map rowD)) ⟨bC.refl H,bK _,.nil⟩ (λi zs HC hi ⟨e1,e2,_⟩=>⟨SqL.of (e1 _ _ hu),e2⟩) (by rw[lrl];exact dm ⋯) (λi x zs HC hx ⟨SC,lz,dz⟩=>?_) (λzs HC ⟨SC,lz,dz⟩ D hD=>?_)
 ·have hi:i<rg.length:=by rw[←lrl];exact(ao.mp hx).1
  obtain⟨d,ed,dx⟩:=dl.get hx;rw[ar,gE hi] at ed;cases ed;have dx:IsD H x (oB rg[i].2):=dx;have K1:=ff.rk _ (bH hi);have rgi:=K1.rg N ⋯;obtain⟨pp,ep,_⟩:=K1.way;have dx0:=dx;obtain⟨pw,yw,rfl,hpw,hlw,rw'⟩:=jq dx;obtain⟨q0,hq0,hq0'⟩:=kI rw' (show rg[i].2[0]? =some ⟨rg[i].1,1⟩ by rw[ep];rfl);obtain⟨qs,hqs,hqs'⟩:=hy rg[i].1 (sAt sp rg[i].1) (jy K1.lt);apply⟨_,rfl,_,rfl,_,rfl,.ref t,vb,.ref pw,b,m,sp,bs,rg[i].2,rfl,hv.same SC,⋯,by have:=N.b2;lia,hb.same SC,dx0.same SC,by rw[lb];exact rgi.inn,λH4 S4=>⟨_,rfl,?_⟩⟩;have S04:=SC.trans S4;rw[sureR_next hi];cases hs:sureB b bs rg[i].2 with
  | true =>
   rw[rV rfl];apply iteT ⟨_,rfl,t,_,_,_,rfl,rfl,SqT.of (S04 _ _ ht),aB (j:=2) rfl,_,rfl,pw,_,_,_,rfl,rfl,SqT.of (S04 _ _ hpw),aB (j:=0) hq0,q0,_,_,_,rfl,rfl,SqT.of (S04 _ _ hq0'),aB (j:=0) rfl,p,_,_,_,rfl,rfl,SqT.of (S04 _ _ hp),aB (j:=rg[i].1) hqs,qs,_,_,_,rfl,rfl,SqT.of (S04 _ _ hqs'),aB (j:=4) rfl,_,rfl,oN,λq5 H5 S5 h5=>⟨S04.trans S5,by rw[av];exact j9 lz,?_⟩⟩;rw[ax];exact((dz.same S4).same S5).append (.cons (.tup h5 (.cons (.int _) (.cons (dx0.same (S04.trans S5)) .nil))) .nil)
  | false =>
   rw[rT aS,dH];exact iteF ⟨S04,⋯,dz.same S4⟩
 ·have S3:bC H (upd HC D (.lst zs)):=SC.put hD
  have hD3:(upd HC D (.lst zs)) D=some (.lst zs):=aN;have dz3:=dz.same (bC.put (o:= .lst zs) (bC.refl HC) hD);generalize upd HC D (.lst zs)=H3 at S3 hD3 dz3 ⊢;rw[lrl,aX] at dz3;have lzs:zs.length=(kx b sp bs rg).length:=by rw[dz3.length,aa]
  have ls:(kx b sp bs rg).length≤40:=by
   unfold kx k9;rw[aa];exact bj (fG _ _) few
  apply⟨_,rfl,D,rfl,⟨_,SqL.of hD3⟩,?_⟩;apply kR (K:=K) (a:=D) (xs:=zs) (λi ws HC=>HC=H3∧ws.length≤i∧dW H3 ws ((((kx b sp bs rg).take i).filter posR).map rowD)) ⟨rfl,bK _,.nil⟩ (λi ws HC hi ⟨e1,e2,_⟩=>⟨by rw[e1];exact SqL.of hD3,e2⟩) (by rw[lzs];exact dm ⋯) (λi x ws HC hx ⟨e1,lw,dw⟩=>?_) (λws HC ⟨e1,lw,dw⟩ D2 hD2=>?_)
  ·subst e1
   have hi:i<(kx b sp bs rg).length:=by rw[←lzs];exact(ao.mp hx).1
   obtain⟨d,ed,dx⟩:=dz3.get hx;rw[ar,gE hi] at ed;cases ed;have dx0:=dx;obtain⟨q,xs,rfl,hq,rx⟩:=IsD.tup_of (show IsD HC x (.tup [.int (kx b sp bs rg)[i].1,oB (kx b sp bs rg)[i].2]) from dx);obtain⟨y2,rfl⟩:∃y2,xs=[.int (kx b sp bs rg)[i].1,y2]:=by
    cases rx with
    | cons a rx=>cases a;cases rx with
     | cons _ rx=>cases rx;exact⟨_,rfl⟩
   apply⟨_,rfl,q,_,_,_,rfl,rfl,SqT.of hq,aB (j:=0) rfl,_,_,rfl,rfl,_,rfl,?_⟩;have nx:((kx b sp bs rg).take (i+1)).filter posR=((kx b sp bs rg).take i).filter posR++(if decide ((kx b sp bs rg)[i].1 > 0)=true then [(kx b sp bs rg)[i]] else []):=by
    rw[aY,gE hi,gp];show _++[(kx b sp bs rg)[i]].filter _=_;rw[hV,List.filter_nil];rfl
   rw[nx];cases hc:decide ((kx b sp bs rg)[i].1 > 0) with
   | true =>
    rw[rV rfl];apply iteT ⟨_,rfl,rfl,by rw[av];exact j9 lw,?_⟩;rw[ax];exact dw.append (.cons dx0 .nil)
   | false =>
    rw[rT aS,dH];exact iteF ⟨rfl,⋯,dw⟩
  ·subst e1
   apply⟨D2,_,rfl,SqL.of aN,λp3 H4 S4 h4=>⟨oN,λq5 H5 S5 h5=>?_⟩⟩;have S35:=(bC.put (o:= .lst ws) (bC.refl HC) hD2).trans (S4.trans S5);rw[lzs,aX] at dw;exact k (.ref q5) H5 (S3.trans S35) (.tup h5 (.cons (.str _) (.cons (.tup (S5 _ _ h4) (dw.same S35)) .nil)))
theorem scLeafBy:bW ["net","rings","wait","case","dead","leaf"] pzy (defScope sLeafBy):=by trivial
theorem ok_leafBy (F:Fun K "leaf_by" "leaf_by" sLeafBy f fd)(G1:Fn K mg "dead_leaf" sDeadL pzk f1 fd1)(F1:cG P w K mg base CX0 4 f1 fd1 pzk pV)
  (G2:Fn K mg "price_leaf" qd pzL f2 fd2) (F2:cG P w K mg base CX0 4 f2 fd2 pzL spPriceL)
  (G3:Fn K mg "worth_of" sWorth pzH f3 fd3) (F3:cG P w K mg base CX0 3 f3 fd3 pzH spWorth):cG P w K mg base CX0 5 f fd pzy spLeafBy:=by
 specialize F.ok scLeafBy;obtain ⟨v,u,q,w0,b,m,sp,l,rg,rg',c,rl,rfl,hv,N,R,R',hu,dl,cd,ok,k⟩:=h;have hr3:iD 3 _:=hr.mono ↥0;have ff:=R.ff N;have ff':=R'.ff N;have b1:=N.b1;have m2:=N.m2;have fw:=ff.few;apply ⟨_,PSl.h (aZ ⟨(psZ 4 scLeafBy.nd (pc1 G1 F1 hr (ae (pv 0) (ae (pv 3) aA))))⟩
  (aZ ⟨(ib (cT op_notN (pv 4) jz (dI _)) (cL (cf (pv 4))) dX)⟩
  (aZ ⟨(psZ 5 scLeafBy.nd (pc1 G2 F2 hr (ae (pv 0) (ae (pv 1) (ae (ixZ (pv 3)) aA)))))⟩
  (cW ⟨(cf (ma (cT op_ge (pc1 G3 F3 hr3 (ae (pv 0) (ae (ixZ (pv 3)) (ae (pv 5) aA)))) (pv 2) (dI _)) (pv 5) jz))⟩)))),?_⟩
 apply⟨_,rfl,_,rfl,v,q,b,m,sp,c.1,c.2,rfl,hv,⋯,by have:=N.b2;lia,cd,ok.few,λz hz=>by rw[ok.ob.len];exact((ff'.rk z (ok.sub z hz)).rg N ⋯).inn,λr H1 S1 hd=>?_⟩
 rcases hd with ⟨rfl,al⟩ | ⟨z,hz,dz,hdz⟩
 rotate_left
 ·have nn:r≠ .non:=λe=>by rw[e] at dz;cases dz
  apply⟨_,rfl,rfl,_,rfl,qQ (by rw[rY nn];rfl) ?_⟩;exact⟨_,rfl,k r H1 S1 (.inl ⟨_,dz,oq z.2,.inl ⟨z.2,rfl,(ff'.rk z (ok.sub z hz)).rg N ⋯,hdz⟩⟩)⟩
 apply⟨_,rfl,rfl,_,rfl,lW (by rw[rX rfl];rfl) ?_⟩;obtain⟨vb,u',rl',a1,a2,a3,a4⟩:=(cd.same S1).ex;apply⟨_,rfl,_,rfl,_,rfl,q,_,_,_,rfl,rfl,SqT.of a1,aB (j:=0) rfl,v,vb,u,b,m,sp,l,rg,c.1,rl,rfl,hv.same S1,N,ff,S1 _ _ hu,dl.same S1,a2,ok.ob.len,λr2 H2 S2 d2=>?_⟩;obtain⟨pok,pfew⟩:=price_ok (bs:=c.1) N ff;apply⟨_,rfl,_,rfl,q,_,_,_,rfl,rfl,SqT.of (S2 _ _ a1),aB (j:=0) rfl,_,rfl,v,vb,r2,b,m,sp,c.1,oH b sp c.1 rg,rfl,⟨(hv.same S1).same S2,a2.same S2,d2,⋯,by have:=N.b2;lia,ok.ob.len,N.few,ob_bu N ok.ob,N.ws,λr hr=>⟨(pok r hr).1.inn,(pok r hr).1.one,(pok r hr).1.few,(pok r hr).2.2.1,(pok r hr).2.2.2⟩,⋯⟩,λH3 S3=>?_⟩;apply⟨_,rfl,_,_,rfl,rfl,_,rfl,?_⟩;have S03:=S1.trans (S2.trans S3)
 by_cases e:lJ b sp c.1 (oH b sp c.1 rg) ≥ w0
 ·exact qQ (rX e) ⟨_,rfl,k r2 H3 S03 (.inl ⟨_,d2.same S3,leafW_price _,.inr ⟨_,rfl,pok,pfew,e⟩⟩)⟩
 ·exact lW (rY e) (k .non H3 S03 (.inr ⟨rfl,al,⋯⟩))
abbrev sWaitOf:cJ:=top 33
abbrev sWaitIn:cJ:=top 31
abbrev sWaits:cJ:=top 32
theorem o8:bW ["net","table","span","start","goal","least"] pzM (defScope sWaitIn):=by trivial
theorem ok_waitIn (F:Fun K "wait_in" "wait_in" sWaitIn f fd)(G1:Fn K mg "rest_by" sRest pzj f1 fd1):cG P w K mg base CX0 2 f fd pzM spWaitIn:=by
 have F1:cG P w K mg base CX0 1 f1 fd1 pzj spRest:=ok_rest G1.F;specialize F.ok o8;obtain ⟨v,u,b,m,sp,ts,i,x,rfl,hv,hu,R,hx,k⟩:=h;obtain ⟨t,p,ys,rfl,ht,hp,hl,hy⟩:=eU hv;obtain ⟨q,hq,hq2⟩:=hy i x hx;obtain ⟨s0,s1,g0,g1⟩:=R.ends x (bp hx);apply ⟨_,PSl.h (aZ ⟨(psZ 3 o8.nd (ixZ (eM eJ (ixZ (pv 0)) (pv 2) (fun _ _=>rfl))))⟩
  (aZ ⟨(psZ 4 o8.nd (ixZ (eM eJ (ixZ (pv 0)) (pv 2) (fun _ _=>rfl))))⟩
  (aZ ⟨(psZ 5 o8.nd (ixZ (eM eJ (ixZ (pv 0)) (pv 2) (fun _ _=>rfl))))⟩
  (cW ⟨(cf (pc1 G1 F1 hr (ae (ixZ (pv 0)) (ae (cS kB (cS kB (eM eJ (pv 1) (pv 4) (fun _ _=>rfl)) (eM eJ (pv 1) (pv 3) (fun _ _=>rfl))) (pv 5)) aA))))⟩)))),?_⟩
 apply⟨_,rfl,t,_,_,_,rfl,rfl,SqT.of ht,aB (j:=2) rfl,_,rfl,p,_,_,_,rfl,rfl,SqT.of hp,aB (j:=i) hq,q,_,_,_,rfl,rfl,SqT.of hq2,aB (j:=0) rfl,?_⟩;apply⟨_,rfl,t,_,_,_,rfl,rfl,SqT.of ht,aB (j:=2) rfl,_,rfl,p,_,_,_,rfl,rfl,SqT.of hp,aB (j:=i) hq,q,_,_,_,rfl,rfl,SqT.of hq2,aB (j:=1) rfl,?_⟩;apply⟨_,rfl,t,_,_,_,rfl,rfl,SqT.of ht,aB (j:=2) rfl,_,rfl,p,_,_,_,rfl,rfl,SqT.of hp,aB (j:=i) hq,q,_,_,_,rfl,rfl,SqT.of hq2,aB (j:=2) rfl,?_⟩;apply⟨_,rfl,t,_,_,_,rfl,rfl,SqT.of ht,aB (j:=0) rfl,?_⟩;apply⟨_,rfl,_,rfl,u,_,_,_,rfl,rfl,SqT.of hu,pO g0 g1,_,rfl,_,rfl,u,_,_,_,rfl,rfl,SqT.of hu,pO s0 s1,_,_,rfl,rfl,_,rfl,_,_,rfl,rfl,?_⟩;exact⟨b,_,rfl,R.b1,k⟩
theorem scWaits:bW pzd pzd (defScope sWaits):=by trivial
theorem ok_waits (F:Fun K "waits_of" "waits_of" sWaits f fd)(T:Nm mg)(T2:Nt mg)(G1:Fn K mg "rest_by" sRest pzj f1 fd1)(G2:Fn K mg "wait_in" sWaitIn pzM f2 fd2):cG P w K mg base CX0 3 f fd pzd spWaits:=by
 have F2:cG P w K mg base CX0 2 f2 fd2 pzM spWaitIn:=ok_waitIn G2.F G1;specialize F.ok scWaits;obtain⟨v,u,b,m,sp,ts,rfl,hv,hu,R,k⟩:=h;obtain⟨t,p,ys,rfl,ht,hp,hl,hy⟩:=eU hv;apply⟨_,PSl.h (cW ⟨(cf (dk fU rfl T.ttup eX (ae (gm (fr:=pzd) (js:=[0,1]) rfl (hX rfl T2.range (ae (d5 dA rfl T.len cV (ae (ixZ (pv 0)) aA)) aA)) (by trivial) rfl (by trivial) rfl (by exists sWaits) (by trivial) rfl (by trivial) (λ_ _ _ _ _=>⟨(pc1 G2 F2 hr (ae (pv 1) (ae (pv 2) (ae (pv 0) aA)))),fW⟩)) aA)))⟩),?_⟩;have few:=R.few;apply⟨_,rfl,t,_,_,_,rfl,rfl,SqT.of ht,aB (j:=2) rfl,p,_,rfl,.inr (SqT.of hp),_,rfl,⋯,⋯,?_⟩;apply jG (n:=((ys.length:Int)).toNat) (λi zs H2=>H2=H∧zs=(jO b ts (sp.take i)).map V.int) ⟨rfl,rfl⟩ (λi zs H2 hi ⟨e1,e2⟩=>?_) (by rw[cM,hl];exact dm few) (λi zs H2 hi ⟨e1,e2⟩=>?_) (λzs H2 ⟨e1,e2⟩ D hD=>?_)
 ·rw[e2,aa];unfold jO;rw[aa,bw];lia
 ·subst e1
  rw[cM,hl] at hi;apply eS ?_;apply⟨_,rfl,_,rfl,_,rfl,.ref t,u,b,m,sp,ts,i,sp[i],?_,hv,hu,R,gE hi,rfl,?_⟩
  ·rw[il];rfl
  ·rw[e2];unfold jO
   rw[aY,gE hi,ax,ax];rfl
 ·subst e1
  apply⟨D,_,rfl,SqL.of aN,λp3 H3 S3 h3=>?_⟩;apply k p3 H3 ((bC.put (bC.refl H2) hD).trans S3) ?_;rw[h3,e2,cM,hl,aX]
theorem scWaitOf:bW pzd pzd (defScope sWaitOf):=by trivial
theorem ok_waitOf (F:Fun K "wait_of" "wait_of" sWaitOf f fd)(T:Nm mg)(T2:Nt mg)(G1:Fn K mg "waits_of" sWaits pzd f1 fd1)(F1:cG P w K mg base CX0 3 f1 fd1 pzd spWaits):cG P w K mg base CX0 4 f fd pzd nc:=by
 specialize F.ok scWaitOf;obtain⟨v,u,b,m,sp,ts,rfl,hv,hu,R,hw,k⟩:=h;obtain⟨t,p,ys,e0,ht,hp,hl,hy⟩:=eU hv;subst e0;apply⟨_,PSl.h (cW ⟨(cf (d5 (call_sum rfl) rfl T2.sum boot_sum (ae (pe_compT (xs:=["span","wait"]) (fr:=[]) (js:=[]) rfl (pi_zip2 rfl T2.zip (ae (ixZ (pv 0)) (ae (pc1 G1 F1 hr (ae (pv 0) (ae (pv 1) aA))) aA))) (by trivial) rfl (by trivial) (by exists sWaitOf) rfl (by trivial) (λ_ _ _ _ _=>pg_two rfl (by trivial) rfl rfl) (λ_ _ _ _ _=>⟨(cS jk (eM (r:=pj K) eJ (pv 0) bI (λ_ _=>rfl)) (pv 1)),fW⟩)) aA)))⟩),?_⟩;have few:=R.few;apply⟨_,rfl,t,_,_,_,rfl,rfl,SqT.of ht,aB (j:=2) rfl,_,rfl,_,rfl,_,u,b,m,sp,ts,rfl,hv,hu,R,λp1 H1 S1 h1=>?_⟩;apply⟨⟨false,p⟩,⟨false,p1⟩,_,_,rfl,S1 _ _ hp,h1,?_⟩;apply rL (K:=K) (c1:=⟨false,p⟩) (c2:=⟨false,p1⟩) (xs:=ys) (ys:=(jO b ts sp).map V.int) (λi zs H2=>bC H1 H2∧zs=((sp.take i).map λx=>x.w * cR b ts x).map V.int) ⟨bC.refl H1,rfl⟩ (λi zs H2 hi ⟨S2,e2⟩=>⟨S2 _ _ (S1 _ _ hp),S2 _ _ h1,?_⟩) (by unfold jO;rw[aa,aa,hl]) (by rw[hl];exact dm few) (λi x y zs pz H2 hx hx' ⟨S2,e2⟩ hpz=>?_) (λzs H2 ⟨S2,e2⟩ D hD=>?_)
 ·rw[e2,aa,aa,bw];lia
 ·have hi:i<sp.length:=by rw[←hl];exact(ao.mp hx).1
  obtain⟨q,hq,hq2⟩:=hy i sp[i] (gE hi);rw[hx] at hq;cases hq;unfold jO at hx';rw[ar,ar,gE hi] at hx';cases hx';have S3:bC H1 (upd H2 pz (.tup [.ref q,.int (cR b ts sp[i])])):=S2.put hpz;generalize upd H2 pz (.tup [.ref q,.int (cR b ts sp[i])])=H3 at S3 ⊢;have hq3:=S3 _ _ (S1 _ _ hq2);obtain⟨w0,w1⟩:=hw sp[i] (bH hi);apply eS ?_;apply⟨_,rfl,q,_,_,_,rfl,rfl,SqT.of hq3,aB (j:=4) rfl,_,rfl,_,_,rfl,rfl,.inl ⟨⋯,⋯⟩,S3,?_⟩;rw[e2,aY,gE hi,ax,ax];rfl
 ·apply⟨D,_,rfl,SqL.of (by rw[e2];exact aN),?_⟩
  have e3:((sp.take ys.length).map λx=>x.w * cR b ts x).sum=bU b ts sp:=by
   unfold bU;rw[hl,aX]
  rw[e3];exact k _ (S1.trans (S2.put hD))
abbrev lP:cJ:=top 52
def lamE6:List cJ→Expr
 | [_,_,_,_,_,.Return (some (.Tuple [_,_,_,.Call _ [_,e] _ _] _ _)) _]=>e
 | _=> .Constant .none 0 ⟨0,0,0,0⟩
abbrev laB:fH:=lamA5 (lamE6 (fX lP))
abbrev lbB:Expr:=lamB5 (lamE6 (fX lP))
abbrev lsB:fN:=lamS5 (lamE6 (fX lP))
abbrev lqB:Str:=(("best_for" :Str) ++ ".<locals>.") ++ "<lambda>"
theorem LmOk.imp2 {k:Nat}{Hg:Hp→Prop}{sp sp':Sp}(L:LmOk P w K mg base k f Hf sp')(h:∀H,Hg H→Hf H)(h2:∀v H Q,Hg H→sp [v] H Q E0→sp' [v] H Q E0):LmOk P w K mg base k f Hg sp:=⟨λH hh g=>L.isFn H hh (h H g),λA outer s H u v Q hr e0 g ru hsp=>L.run A outer s H u v Q hr e0 (h H g) ru (h2 v H Q g hsp)⟩
theorem LamT.stayF {T:ak}(k:L2.LamT T lp lq H)(hT:∀ps,H T=some (.tbl ps)→H' T=some (.tbl ps))(hf:∀a o u,H a=some (.frz o u)→H' a=some (.frz o u)):L2.LamT T lp lq H':=by
 rcases k with k | ⟨c,k,oc,vs,t,e,r⟩
 ·exact .inl (hT _ k)
 ·exact .inr ⟨c,hT _ k,oc,vs,t,hf _ _ _ e,r⟩
theorem LamG.cutF {T:ak}(F:Fz fz H)(cl:∀c o,fz c=some o→∃v,o.data= .cell v)(h:L2.LamG T lq H):L2.LamG T lq (ctF H fz):=by
 obtain⟨l,e,r⟩:=h;apply⟨l,F.cut e (λ_ z=>by cases z),λx hx=>?_⟩;obtain⟨oc,vs,t,e2,hd,z⟩:=r x hx;apply⟨oc,vs,t,?_,hd,z⟩;cases q:fz x.2 with
 | none=>rw[iC q];exact e2
 | some o' =>
  obtain⟨v,hv⟩:=cl _ o' q;rw[F _ o' q] at e2;cases e2;rw[hd] at hv;cases hv
theorem lay_all {m:Int}{rg:List (Nat×List Stp)}{t T:List Int}(N:ia b m sp)(f:FF m sp l rg)(h1:fF b t sp=true)(h2:fF b T sp=true)(e:∀k∈l,jb b t sp k=jb b T sp k):∀k,k<sp.length→jb b t sp k=jb b T sp k:=λk hk=>by
 by_cases c:k∈l
 ·exact e k c
 have hb:0<b:=by have:=N.b1;lia
 have m2:=N.m2;have fw:=f.few;obtain⟨r,hr⟩:=f.all k hk c;have R:=f.rk _ hr;have rgk:=R.rg N ⋯;obtain⟨p,ep,P⟩:=R.way;have ep:r=⟨k,1⟩::p:=ep;obtain⟨x0,al⟩:=rgk.rnd;obtain⟨Z1,a1⟩:=alg_way (b:=b) (ts:=t) (sp:=sp) r x0 x0 rgk.inn al;obtain⟨Z2,a2⟩:=alg_way (b:=b) (ts:=T) (sp:=sp) r x0 x0 rgk.inn al;have same:∀(q:List Stp),(∀s∈q,s.i∈l)→alg (jb b t sp) q=alg (jb b T sp) q:=λq=>by
  induction q with
  | nil=>intro _;rfl
  | cons s q ih =>
   intro hs;show s.d * jb b t sp s.i+alg _ q=s.d * jb b T sp s.i+alg _ q;rw[ih λz hz=>hs z (aw _ hz),e s.i (hs s ∅)]
 have sp':=same p λs hs=>(P.inn s hs).1
 rw[ep] at a1 a2;have a1:1 * jb b t sp k+alg (jb b t sp) p=tm t x0 - tm t x0+b * Z1:=a1;have a2:1 * jb b T sp k+alg (jb b T sp) p=tm T x0 - tm T x0+b * Z2:=a2;have i1:=lay_in hb h1 k (by rw[aa];exact hk);have i2:=lay_in hb h2 k (by rw[aa];exact hk);have s:=N.all _ (eD hk);have eb:(sp.map λx=>(x.l,x.o)).getD k (0,0)=((sAt sp k).l,(sAt sp k).o):=by
  rw[ag,ar,jy hk];rfl
 rw[eb] at i1 i2;have i1:(sAt sp k).l≤jb b t sp k∧jb b t sp k≤(sAt sp k).o:=i1;have i2:(sAt sp k).l≤jb b T sp k∧jb b T sp k≤(sAt sp k).o:=i2;have ob:=s.ob;have d:jb b t sp k - jb b T sp k=b * (Z1 - Z2):=by rw[Int.mul_sub];lia
 rcases Int.lt_or_le 0 (Z1 - Z2) with z | z
 ·have:b * 1≤b * (Z1 - Z2):=ij ⋯ ⋯
  lia
 ·rcases Int.lt_or_le (Z1 - Z2) 0 with z' | z'
  ·have:b * (Z1 - Z2)≤b * (-1):=ij ⋯ ⋯
   lia
  ·have:Z1 - Z2=0:=by lia
   rw[this,iq] at d;lia
theorem wait_same {t T:List Int}(e:∀k,k<sp.length→jb b t sp k=jb b T sp k):bU b t sp=bU b T sp:=by
 rw[wait_sum,wait_sum,←l7,←l7];congr 1;apply cw λk hk=>?_
 rw[e k (bF.mp hk)]
structure BestA (H:Hp)(q:ak)(b m:Int)(sp:List Sn)(qt:ak)(ts:List Int)(u:V)(t:Tq):Prop where
 q:H q=some (.tup [.str "best",.ref qt,.int (bU b ts sp),u])
 qt:H qt=some (.tup (ts.map V.int))
 tab:kU b m sp ts
 least:∀T,fF b T sp=true→bU b ts sp≤bU b T sp
 tree:IsD H u (kZ t)
 pl:pl (kZ t)=true
 good:GoodT (RBest b sp (bU b ts sp)) t (sp.map λz=>(z.l,z.o)) 21
structure NoneA (H:Hp)(q:ak)(b:Int)(sp:List Sn)(u:V)(t:Tq):Prop where
 q:H q=some (.tup [.str "none",u])
 tree:IsD H u (kZ t)
 pl:pl (kZ t)=true
 no:∀T,¬fF b T sp=true
 good:GoodT (RDead b sp) t (sp.map λz=>(z.l,z.o)) 21
inductive spBest (T0:ak)(p0:Pos)(q0:Str)(T1:ak)(p1:Pos)(q1:Str)(T2 T3:ak)(vs:List V)(H:Hp)(Q:VK)(_:XK):Prop
 | mk (v:V)(b m:Int)(sp:List Sn)(_:vs=[v])(_:IsD H v (jA b m sp))(_:ia b m sp)(_:(∀l,jh m.toNat sp l→hW sp l≤4096))(_:L2.LamT T0 p0 q0 H)(_:L2.LamT T1 p1 q1 H)(_:L2.LamT T2 lpT lqT H)(_:L2.LamG T3 lqB H)(_:∀(q:ak) (H':Hp),Kp H H'→L2.LamT T0 p0 q0 H'→L2.LamT T1 p1 q1 H'→L2.LamT T2 lpT lqT H'→L2.LamG T3 lqB H'→((∃u t,NoneA H' q b sp u t)∨∃qt ts u t,BestA H' q b m sp qt ts u t)→Q (.ref q) H')
theorem p6:bW ["net","found","table","wait","rings"] pza (defScope lP):=by trivial
theorem ok_best {f5 f6 c T2 T3:ak}{fd5 fd6:bh}(F:Fun K "best_for" "best_for" lP f fd)(hcd:fd.code= .ref c)(CH:eP K c T3=true)(B:BM mg base)(T:Nm mg)(MC:∃t,mg "MOST_CASES" =some (.int 4096 t))(ne:T0≠T1)(n2:T2≠T0)(n3:T2≠T1)(m0:T3≠T0)(m1:T3≠T1)(m2:T3≠T2)
  (G1:Fn K mg "table_for" km pza f1 fd1) (F1:cG P w K mg base CX0 12 f1 fd1 pza (pT T0 p0 q0 T1 p1 q1 T2))
  (G2:Fn K mg "tables_that_fit" sTabF pzm f2 fd2) (F2:cG P w K mg base CX0 11 f2 fd2 pzm (spTabF T0 p0 q0 T1 p1 q1))
  (G3:Fn K mg "tree_by" sTreeB pzn f3 fd3) (F3:cG P w K mg base CX0 11 f3 fd3 pzn (oY P w K mg base T0 p0 q0 T1 p1 q1))
  (G4:Fn K mg "leaf_by" sLeafBy pzy f4 fd4) (F4:cG P w K mg base CX0 5 f4 fd4 pzy spLeafBy)
  (G5:Fn K mg "wait_of" sWaitOf pzd f5 fd5) (F5:cG P w K mg base CX0 4 f5 fd5 pzd nc)
  (G6:Fn K mg "rings_of" p9 pza f6 fd6) (F6:cG P w K mg base CX0 8 f6 fd6 pza (oZ T0 p0 q0)):cG P w K mg base CX0 13 f fd pza (spBest T0 p0 q0 T1 p1 q1 T2 T3):=by
 apply okC F hcd p6 (by contradiction) (fun A outer s H vs Q E hr h=>?_);obtain ⟨v,b,m,sp,rfl,hv,N,hc,hT0,hT1,hT2,hT3,k⟩:=h;have hr4:iD 4 _:=hr.mono ↥0;have hr8:iD 8 _:=hr.mono ↥0;have hr11:iD 11 _:=hr.mono ↥0;apply ⟨_,PSl.h (aZ ⟨(psZ 1 p6.nd (pc1 G1 F1 hr (ae (pv 0) aA)))⟩
  (aZ ⟨(ib (cT om (ixZ (pv 1)) nq (dI _)) (cL (cf (pv 1))) dX)⟩
  (aZ ⟨(psZ 2 p6.nd (pe_minL (js:=[0]) (fr:=pza) (x := "other") (c:=c) (P:=T3) rfl hr.depth rfl T.min (pc1 G2 F2 hr11 (ae (pv 0) (ae (pe_gint MC) aA))) rfl rfl CH B (fun _ _ _ _ _ _=>rfl) rfl rfl rfl (by trivial) rfl ↥0 (by exists lP) rfl (by trivial)
   (fun cl L f' cd s' H'=>pc1 G5 F5 (((hr.in1).in1).deeper _ |>.mono ↥0) (ae (pv 1) (ae (pv 0) aA)))))⟩
  (aZ ⟨(psZ 3 p6.nd (pc1 G5 F5 hr4 (ae (pv 0) (ae (pv 2) aA))))⟩
  (aZ ⟨(psZ 4 p6.nd (pc1 G6 F6 hr8 (ae (pv 0) aA)))⟩
  (cW ⟨(cf (dh (ae nq (ae (pv 2) (ae (pv 3) (ae (pe_callZ (scope:=lsB) (fr:=["net","rings","wait"]) (js:=[0,4,3]) F3 hr11 (fun _=>rfl) rfl G3.mg G3.F.kp G3.b rfl (by trivial) (by exists lP) (ae (pv 0) (ae (pe_lamG (T:=T3) rfl rfl CH B (by exists lP)) aA))) aA))))))⟩)))))),?_⟩
 obtain⟨ps0,et0⟩:=LamT.tbl hT0;obtain⟨ps1,et1⟩:=LamT.tbl hT1;obtain⟨ps2,et2⟩:=LamT.tbl hT2;apply⟨_,rfl,v,b,m,sp,rfl,hv,N,hc,hT0,hT1,hT2,λq H1 st1 kp1 hT01 hT11 hT21 ans=>?_⟩;have hT31:L2.LamG T3 lqB H1:=hT3.stay (λps e=>st1 _ _ m0 m1 m2 e) λa o u e=>st1 _ _ (fb e et0 nofun) (fb e et1 nofun) (fb e et2 nofun) e
 have hv1:=cq kp1.tup hv
 rcases ans with ⟨qt0,t0,hq,hqt,tok0⟩ | ⟨u,t,hq,du,plu,nof,gd⟩
 rotate_left
 ·apply⟨_,rfl,q,_,_,_,rfl,rfl,SqT.of hq,aB (j:=0) rfl,rfl,_,rfl,qQ (rX rfl) ?_⟩
  exact⟨_,rfl,k q H1 kp1 hT01 hT11 hT21 hT31 (.inl ⟨u,t,hq,du,plu,nof,gd⟩)⟩
 apply⟨_,rfl,q,_,_,_,rfl,rfl,SqT.of hq,aB (j:=0) rfl,rfl,_,rfl,lW (rY nofun) ?_⟩;obtain⟨qs0,eu0⟩:=LamT.tbl hT01;obtain⟨qs1,eu1⟩:=LamT.tbl hT11;apply⟨_,rfl,v,b,m,sp,4096,rfl,hv1,N,↥0,hc,hT01,hT11,λL tv l rg Ts H2 st2 kp2 hT02 hT12 hL dL R tabs few hold=>?_⟩;have fz2:∀a o u,H1 a=some (.frz o u)→H2 a=some (.frz o u):=λa o u e=>st2 _ _ (fb e eu0 nofun) (fb e eu1 nofun) e
 have hT22:L2.LamT T2 lpT lqT H2:=LamT.stayF hT21 (λps e=>st2 _ _ n2 n3 e) fz2;have hT32:L2.LamG T3 lqB H2:=hT31.stay (λps e=>st2 _ _ m0 m1 e) fz2;have hv2:=cq kp2.tup hv1;have ff:=R.ff N;have holdA:=hold (.inr rfl);have ltv:tv.length=Ts.length:=by rw[dL.length];unfold dO;rw[aa]
 have hne:tv≠[]:=λz=>by
  obtain⟨t,ht,_⟩:=holdA t0 tok0.2.2;rw[z] at ltv;rw[g9.mp ltv.symm] at ht;cases ht
 have nm1:=N.m1;have rdyT:∀t∈Ts,Rdy b t sp:=λt ht=>N.rdy (by have:=(tabs t ht).1;lia)
 have getT:∀(i:Nat) x,tv[i]? =some x→∃qx,x= .ref qx∧H2 qx=some (.tup ((Ts.getD i []).map V.int))∧Ts.getD i []∈Ts:=λi x hx=>by
  have hi:i<Ts.length:=by rw[←ltv];exact(ao.mp hx).1
  obtain⟨d,ed,dx⟩:=dL.get hx;unfold dO at ed;rw[ar,gE hi] at ed;cases ed;obtain⟨qx,xs,rfl,hqx,rx⟩:=dx.tup_of;have:=rx.ints_of;subst this;have e:Ts.getD i []=Ts[i]:=by rw[ag,gE hi];rfl
  rw[e];exact⟨qx,rfl,hqx,bH hi⟩
 obtain⟨qs3,eu3⟩:=hT32.tbl;apply⟨L,tv,λi=>bU b (Ts.getD i []) sp,rfl,hL,hne,hT32,λi x hx H3 tb=>?_,λH4 i x tb4 hT34 hx mini=>?_⟩
 ·obtain⟨qx,rfl,hqx,memx⟩:=getT i x hx
  have nqx:qx≠T3:=fb hqx eu3 nofun;apply⟨_,rfl,_,rfl,v,qx,b,m,sp,_,rfl,cq (λa xs e=>tb _ _ (fb e eu3 nofun) e) hv2,tb _ _ nqx hqx,rdyT _ memx,N.ws,λH' S'=>⟨S',rfl⟩⟩
 obtain⟨qx,rfl,hqx,memx⟩:=getT i x hx;obtain⟨ts,ets⟩:∃ts,ts=Ts.getD i []:=⟨_,rfl⟩;have mini:∀j,j<tv.length→bU b (Ts.getD i []) sp≤bU b (Ts.getD j []) sp:=mini;rw[←ets] at hqx memx mini;have tok:=tabs ts memx;have kp4:Kp H2 H4:=⟨λa xs e=>tb4 _ _ (fb e eu3 nofun) e,λa xs e=>tb4 _ _ (fb e eu3 nofun) e,λa _ xs e=>tb4 _ _ (fb e eu3 nofun) e⟩;have least:∀T',fF b T' sp=true→bU b ts sp≤bU b T' sp:=λT' hT'=>by
  obtain⟨t',ht',el⟩:=holdA T' hT';rw[←wait_same (lay_all N ff (tabs t' ht').2.2 hT' el)];obtain⟨j,hj,rfl⟩:=List.mem_iff_getElem.mp ht';have:=mini j ⋯;have e:Ts.getD j []=Ts[j]:=by rw[ag,gE hj];rfl
  rw[e] at this;exact this
 have fz4:∀a o u,H2 a=some (.frz o u)→H4 a=some (.frz o u):=λa o u e=>tb4 _ _ (fb e eu3 nofun) e
 have hT04:L2.LamT T0 p0 q0 H4:=LamT.stayF hT02 (λps e=>tb4 _ _ (cx m0) e) fz4;have hT14:L2.LamT T1 p1 q1 H4:=LamT.stayF hT12 (λps e=>tb4 _ _ (cx m1) e) fz4;have hT24:L2.LamT T2 lpT lqT H4:=LamT.stayF hT22 (λps e=>tb4 _ _ (cx m2) e) fz4;have hv4:=cq kp4.tup hv2;have hqx4:=kp4.tup _ _ hqx;apply⟨_,rfl,_,rfl,v,qx,b,m,sp,ts,rfl,hv4,hqx4,rdyT ts memx,N.ws,λH5 S5=>?_⟩;obtain⟨w0,ew0⟩:∃w0,w0=bU b ts sp:=⟨_,rfl⟩;rw[←ew0];apply⟨_,rfl,v,b,m,sp,rfl,hv4.same S5,N,LamT.same S5 hT04,λu6 rl l6 rg6 H6 tb6 hT06 fr6 hu6 dl6 R6=>?_⟩;have hT05:=LamT.same S5 hT04;obtain⟨qs5,eu5⟩:=LamT.tbl hT05;have kp6:Kp H5 H6:=Tb.kp hT05 tb6;have fz6:∀a o u,H5 a=some (.frz o u)→H6 a=some (.frz o u):=λa o u e=>tb6 _ _ (fb e eu5 nofun) e
 have hT16:L2.LamT T1 p1 q1 H6:=LamT.stayF (LamT.same S5 hT14) (λps e=>tb6 _ _ (cx ne) e) fz6;have hT26:L2.LamT T2 lpT lqT H6:=LamT.stayF (LamT.same S5 hT24) (λps e=>tb6 _ _ n2 e) fz6;have hT36:L2.LamG T3 lqB H6:=(hT34.same S5).stay (λps e=>tb6 _ _ m0 e) fz6;have hv6:=cq kp6.tup (hv4.same S5);have hqx6:=kp6.tup _ _ (S5 _ _ hqx4);apply⟨_,rfl,_,rfl,_,rfl,hT36,λg cl' H7 tb7 hT37 LF LE=>⟨cl',[v,.ref u6,.int w0],LE,rfl,λfz C0 N0=>?_⟩⟩;obtain⟨qs6,eu6⟩:=hT36.tbl;have fz7:∀a o u,H6 a=some (.frz o u)→H7 a=some (.frz o u):=λa o u e=>tb7 _ _ (fb e eu6 nofun) e
 have kp7:Kp H6 H7:=⟨λa xs e=>tb7 _ _ (fb e eu6 nofun) e,λa xs e=>tb7 _ _ (fb e eu6 nofun) e,λa _ xs e=>tb7 _ _ (fb e eu6 nofun) e⟩;have SP:=pq N0;have hT08:L2.LamT T0 p0 q0 (ptF H7 fz):=LamT.same SP (LamT.stayF hT06 (λps e=>tb7 _ _ (cx m0) e) fz7);have hT18:L2.LamT T1 p1 q1 (ptF H7 fz):=LamT.same SP (LamT.stayF hT16 (λps e=>tb7 _ _ (cx m1) e) fz7);have hT28:L2.LamT T2 lpT lqT (ptF H7 fz):=LamT.same SP (LamT.stayF hT26 (λps e=>tb7 _ _ (cx m2) e) fz7);have hT38:L2.LamG T3 lqB (ptF H7 fz):=hT37.same SP;have LF:LamF lqB laB lbB lsB cl' g H7:=LF;have LF8:=LF.same SP;have hv8:=(cq kp7.tup hv6).same SP;have hu8:ptF H7 fz u6=some (.lst rl):=SP _ _ (kp7.lst _ _ hu6);have dl8:dW (ptF H7 fz) rl (rg6.map wayQ):=(wayQ_kp kp7 dl6).same SP;obtain⟨qs8,eu8⟩:=LamT.tbl hT08;obtain⟨qt8,ev8⟩:=LamT.tbl hT18;have nm2:=N.m2;have LM:LmOk P w K mg base 6 g (qN T0 T1 (ptF H7 fz)) (o4 v b m sp (RBest b sp w0)):=by
  apply LmOk.imp2 (sp':=λvs Hx Qx E=>(Hx u6=some (.lst rl)∧dW Hx rl (rg6.map wayQ))∧o4 v b m sp (RBest b sp w0) vs Hx Qx E) (lam_run (k:=5) (q:=lqB) (params:=laB) (body:=lbB) (scope:=lsB) (cl:=cl') (fz:=fz) (x := "case") (fr:=["net","rings","wait"]) (ws:=[v,.ref u6,.int w0]) (λ_ _ _ _=>rfl) rfl rfl rfl (by trivial) rfl ↥0 C0 (λy hy hf=>?_) (by trivial) (λL' cd A' outer' s' H' hr'=>pc1 G4 F4 hr' (ae (pv 1) (ae (pv 2) (ae (pv 3) (ae (pv 0) aA))))) (λv' Hx Qx _ Zx hsp=>?_)) (λHx st=>?_) λv' Hx Qx st hsp=>⟨⟨?_,?_⟩,hsp⟩
  ·have e:y.1 = "net" ∨y.1 = "rings" ∨y.1 = "wait" := (by trivial:∀y:Str×cO,y∈lsB.names→y.2=cO.free→y.1 = "net" ∨y.1 = "rings" ∨y.1 = "wait") y hy hf
   rcases e with e | e | e
   ·obtain⟨cc,_,_,ec,_⟩:=C0.val 0 "net" v rfl rfl
    exact⟨cc,by rw[e];exact ec⟩
   ·obtain⟨cc,_,_,ec,_⟩:=C0.val 1 "rings" (.ref u6) rfl rfl
    exact⟨cc,by rw[e];exact ec⟩
   ·obtain⟨cc,_,_,ec,_⟩:=C0.val 2 "wait" (.int w0) rfl rfl
    exact⟨cc,by rw[e];exact ec⟩
  ·obtain⟨⟨hux,dlx⟩,l2,rg2,q2,c2,e2,R2,cd2,ok2,hvx,kk⟩:=hsp
   cases e2;have KX:=ctF_kp Zx;have el:l2=l6:=jh.one R2.fr R6.fr;subst el;have f6:=R6.ff N;have f2:=R2.ff N;apply⟨_,rfl,_,rfl,_,rfl,_,rfl,v,u6,q2,w0,b,m,sp,l2,rg6,rg2,c2,rl,rfl,cq KX.tup hvx,N,R6,R2,KX.lst _ _ hux,wayQ_kp KX dlx,cd2.kp KX,ok2,λr H' S' ans fr'=>?_⟩;apply kk r _ (ptF_back Zx S') ?_
   rcases ans with ⟨d,dd,dw,rb⟩ | ⟨rfl,al,lt⟩
   ·exact .inl ⟨d,IsD.keepP (bC.tupK (pq fr')) dd dw.1,dw,rb⟩
   ·apply .inr ⟨rfl,al,fe λnz=>?_⟩
    have ht2:=f2.acy.nodup.2;have fix:∀j∈l2,(c2.1.getD j (0,0)).1=(c2.1.getD j (0,0)).2:=λj hj=>by
     have h1:=(ok2.ob.lo j (ht2 j hj)).2.1;have h2:¬((c2.1.getD j (0,0)).1<(c2.1.getD j (0,0)).2):=λz=>nz ⟨j,hj,z⟩
     lia
    obtain⟨ts',hf',hw'⟩:=price_tight N f6 ok2.ob (fx_other N f6 f2 ok2.ob ⟨fix,ok2.all al⟩);have:=least ts' hf';lia
  ·have fz':∀a o u,ptF H7 fz a=some (.frz o u)→Hx a=some (.frz o u):=λa o u e=>st a _ (fb e eu8 nofun) (fb e ev8 nofun) e
   obtain⟨pm,cd,ct,e,oc,vs,t,ec,r⟩:=LF8;exact⟨⟨pm,cd,ct,fz' _ _ _ e,oc,vs,t,fz' _ _ _ ec,r⟩,λa o z=>fz' _ _ _ (qk z)⟩
  ·exact st _ _ (fb hu8 eu8 nofun) (fb hu8 ev8 nofun) hu8
  ·exact dW.keepP (λa xs e=>st _ _ (fb e eu8 nofun) (fb e ev8 nofun) e) dl8 (lh rg6 λq _=>mG _ _)
 apply⟨v,g,b,m,sp,RBest b sp w0,rfl,hv8,N,hc,hT08,hT18,LM,λu t H9 st9 kp9 hT09 hT19 du plu gd Z9=>?_⟩;have KC:=ctF_kp Z9;have fz9:∀a o u,ptF H7 fz a=some (.frz o u)→H9 a=some (.frz o u):=λa o u e=>st9 _ _ (fb e eu8 nofun) (fb e ev8 nofun) e
 have hT29:L2.LamT T2 lpT lqT H9:=LamT.stayF hT28 (λps e=>st9 _ _ n2 n3 e) fz9;have hT39:L2.LamG T3 lqB H9:=hT38.stay (λps e=>st9 _ _ m0 m1 e) fz9;apply⟨szZ4,λqa HA SA hA=>?_⟩;have kpA:Kp H HA:=kp1.trans (kp2.trans (kp4.trans ((bC.kp S5).trans (kp6.trans (kp7.trans ((bC.kp SP).trans (kp9.trans (KC.trans (bC.kp SA)))))))));have hqxA:HA qx=some (.tup (ts.map V.int)):=SA _ _ (KC.tup _ _ (kp9.tup _ _ (SP _ _ (kp7.tup _ _ hqx6))));apply k qa HA kpA (LamT.same SA (LamT.cutF Z9 C0.cell hT09)) (LamT.same SA (LamT.cutF Z9 C0.cell hT19)) (LamT.same SA (LamT.cutF Z9 C0.cell hT29)) ((LamG.cutF Z9 C0.cell hT39).same SA) (.inr ⟨qx,ts,u,t,?_,hqxA,tok,least,(IsD.keepP KC.tup du plu).same SA,plu,?_⟩)
 ·rw[←ew0];exact hA
 ·rw[←ew0];exact gd
abbrev p7:cJ:=top 75
abbrev sFitsN:cJ:=top 76
abbrev sIsTab:cJ:=top 78
inductive spIsT (vs:List V)(H:Hp)(Q:VK)(_:XK):Prop
 | mk (v:V)(u:ak)(b m:Int)(sp:List Sn)(ts:List Int)(_:vs=[v,.ref u])(_:IsD H v (jA b m sp))(_:H u=some (.tup (ts.map V.int)))(_:(ts.length:Int)=m)(_:(∀x∈ts,0≤x∧x<b))(_:Q (.bl true) H)
theorem scWaitsN:bW pzb pzb (defScope p7):=by trivial
theorem ok_waitsN (F:Fun K "_law_waits" "_law_waits" p7 f fd):cG P w K mg base CX0 1 f fd pzb spWaitsN:=by
 specialize F.ok scWaitsN;obtain⟨v,u,b,m,sp,ts,rfl,hv,hu,R,k⟩:=h;obtain⟨t,p,ys,rfl,ht,hp,hl,hy⟩:=eU hv;have few:=R.few;apply⟨_,PSl.h (cW ⟨(cf (gm (fr:=pzb) (js:=[0,1]) rfl (jj (ixZ (pv 0))) (by trivial) rfl (by trivial) rfl (by exists p7) (by trivial) rfl (by trivial) (λ_ _ _ _ _=>⟨(cS lI (cS kB (cS kB (eM (r:=pj K) eJ (pv 2) (eM (r:=pj K) eJ (pv 0) bI (λ_ _=>rfl)) (λ_ _=>rfl)) (eM (r:=pj K) eJ (pv 2) (eM (r:=pj K) eJ (pv 0) bI (λ_ _=>rfl)) (λ_ _=>rfl))) (eM (r:=pj K) eJ (pv 0) bI (λ_ _=>rfl))) (eM (r:=pj K) eJ (pv 1) bI (λ_ _=>rfl))),fW⟩)))⟩),?_⟩;apply⟨_,rfl,t,_,_,_,rfl,rfl,SqT.of ht,aB (j:=2) rfl,p,rfl,⟨_,SqT.of hp⟩,?_⟩;apply iJ (K:=K) (a:=p) (xs:=ys) (λi zs H2=>H2=H∧zs=(jO b ts (sp.take i)).map V.int) ⟨rfl,rfl⟩ (λi zs H2 hi ⟨e1,e2⟩=>?_) (by rw[hl];exact dm few) (λi x zs H2 hx ⟨e1,e2⟩=>?_) (λzs H2 ⟨e1,e2⟩ D hD=>?_)
 ·subst e1
  apply⟨SqT.of hp,?_⟩;rw[e2];unfold jO;rw[aa,aa,bw];lia
 ·subst e1
  have hi:i<sp.length:=by rw[←hl];exact(ao.mp hx).1
  obtain⟨q,hq,hq2⟩:=hy i sp[i] (gE hi);rw[hx] at hq;cases hq;obtain⟨s0,s1,g0,g1⟩:=R.ends sp[i] (bH hi);apply eS ?_;apply⟨_,rfl,_,rfl,q,_,_,_,rfl,rfl,SqT.of hq2,aB (j:=1) rfl,u,_,_,_,rfl,rfl,SqT.of hu,pO g0 g1,_,rfl,_,rfl,q,_,_,_,rfl,rfl,SqT.of hq2,aB (j:=0) rfl,u,_,_,_,rfl,rfl,SqT.of hu,pO s0 s1,_,_,rfl,rfl,_,rfl,q,_,_,_,rfl,rfl,SqT.of hq2,aB (j:=2) rfl,_,_,rfl,rfl,_,rfl,t,_,_,_,rfl,rfl,SqT.of ht,aB (j:=0) rfl,_,_,rfl,rfl,R.b1,rfl,?_⟩;rw[e2,aY,gE hi];unfold jO;rw[ax,ax];rfl
 ·subst e1
  rw[hl,aX] at e2;rw[e2];exact k D _ (bC.put (bC.refl H2) hD) aN
theorem scFitsN:bW ["_law_net_here","_law_table","_law_span_here","_law_wait_here"] pzb (defScope sFitsN):=by trivial
theorem ok_fitsN (F:Fun K "_law_fits" "_law_fits" sFitsN f fd)(T2:Nt mg)(G1:Fn K mg "_law_waits" p7 pzb f1 fd1):cG P w K mg base CX0 2 f fd pzb spFits:=by
 have F1:cG P w K mg base CX0 1 f1 fd1 pzb spWaitsN:=ok_waitsN G1.F;specialize F.ok scFitsN;obtain ⟨v,u,b,m,sp,ts,rfl,hv,hu,R,k⟩:=h;obtain ⟨t,p,ys,rfl,ht,hp,hl,hy⟩:=eU hv;apply ⟨_,PSl.h (aZ ⟨(iP bR rfl (pi_zip2 rfl T2.zip (ae (ixZ (pv 0)) (ae (pc1 G1 F1 hr (ae (pv 0) (ae (pv 1) aA))) aA))) (rm rfl (iI (pgZ 2 scFitsN.nd) (iI (pgZ 3 scFitsN.nd) oi))) (cL (ib (cT oQ (pv 3) (cS kB (ixZ (pv 2)) (ixZ (pv 2))) (dI _)) (cL (cf oP)) dX)))⟩
  (cW ⟨(cf oP)⟩)),?_⟩
 apply⟨_,rfl,t,_,_,_,rfl,rfl,SqT.of ht,aB (j:=2) rfl,?_⟩;apply⟨_,rfl,_,rfl,.ref t,u,b,m,sp,ts,rfl,hv,hu,R,λL H1 S1 h1=>?_⟩;apply⟨⟨false,p⟩,⟨true,L⟩,_,_,rfl,S1 _ _ hp,h1,?_⟩;apply for_zip2 (c1:=⟨false,p⟩) (c2:=⟨true,L⟩) (xs:=ys) (ys:=(jO b ts sp).map V.int) (λi σ H2=>bC H1 H2∧(∀x∈sp.take i,brk b ts x=false)∧∃v2 v3,σ=[some (.ref t),some (.ref u),v2,v3]) ⟨bC.refl H1,λ_ h=>rW h ∅,none,none,rfl⟩ (λi σ H2 _ ⟨S2,_⟩=>⟨S2 _ _ (S1 _ _ hp),S2 _ _ h1⟩) (by unfold jO;rw[aa,aa,hl]) ?_ ?_
 ·rintro i x y pz σ H2 hx hx' ⟨S2,hno,v2,v3,rfl⟩ hpz
  have hi:i<sp.length:=by rw[←hl];exact(ao.mp hx).1
  obtain⟨q,hq,hq2⟩:=hy i sp[i] (gE hi);rw[hx] at hq;cases hq;unfold jO at hx';rw[ar,ar,gE hi] at hx';cases hx';have S3:bC H1 (upd H2 pz (.tup [.ref q,.int (cR b ts sp[i])])):=S2.put hpz;have h3:(upd H2 pz (.tup [.ref q,.int (cR b ts sp[i])])) pz=some (.tup [.ref q,.int (cR b ts sp[i])]):=aN;generalize upd H2 pz (.tup [.ref q,.int (cR b ts sp[i])])=H3 at S3 h3 ⊢;have hq3:=S3 _ _ (S1 _ _ hq2);apply⟨pz,_,rfl,SqT.of h3,rfl,_,_,rfl,_,_,rfl,rfl,?_⟩;apply⟨_,rfl,_,rfl,q,_,_,_,rfl,rfl,SqT.of hq3,aB (j:=3) rfl,_,rfl,q,_,_,_,rfl,rfl,SqT.of hq3,aB (j:=2) rfl,_,_,rfl,rfl,_,_,rfl,rfl,_,rfl,?_⟩;apply ite2 (λhc=>?_) (λhc=>?_)
  ·have e:fF b ts sp=false:=by
    unfold fF;rw[List.any_eq_true.mpr ⟨sp[i],bH hi,hc⟩];rfl
   have kk:=k H3 (S1.trans S3);rw[e] at kk;exact kk
  ·apply⟨S3,λx hx=>?_,_,_,rfl⟩
   rw[aY,gE hi] at hx
   rcases aQ.mp hx with hx | hx
   ·exact hno x hx
   ·rw[ay.mp hx]
    exact iN.mpr hc
 ·rintro σ H2 ⟨S2,hno,v2,v3,rfl⟩
  have e:fF b ts sp=true:=by
   unfold fF;rw[gM,iL];intro x hx;have:=hno x (by rw[hl,aX];exact hx);rw[this];exact aS
  have kk:=k H2 (S1.trans S2);rw[e] at kk;exact kk
theorem scIsTab:bW ["_law_net_here","_law_told","_law_time"] pzz (defScope sIsTab):=by trivial
theorem ok_isT (F:Fun K "_law_is_table" "_law_is_table" sIsTab f fd)(T:Nm mg):cG P w K mg base CX0 1 f fd pzz spIsT:=by
 specialize F.ok scIsTab;obtain ⟨v,u,b,m,sp,ts,rfl,hv,hu,hl,all,k⟩:=h;obtain ⟨t,p,ys,rfl,ht,hp,_,hy⟩:=eU hv;apply ⟨_,PSl.h (aZ ⟨(ib (PW.pt (pw_or (qj (mr (pe_isTup T (pv 1)))) (pw_or1 (cT op_ne (d5 dA rfl T.len cV (ae (pv 1) aA)) (ixZ (pv 0)) (dI _))))) (cL (cf oP)) dX)⟩
  (aZ ⟨(iP bR rfl (jj (pv 1)) (pgZ 2 scIsTab.nd) (cL (ib (PW.pt (pw_or (qj (mr (pe_isInt T (pv 2)))) (pw_or (mr (pe_isBool T (pv 2))) (pw_or1 (qj (pt_chain op_le op_lt bI (pv 2) (ixZ (pv 0)))))))) (cL (cf oP)) dX)))⟩
  (cW ⟨(cf oP)⟩))),?_⟩
 apply⟨_,rfl,_,_,rfl,(IsD.tup hu (dW.ints ts)).tyn,_,rfl,lW rfl ?_⟩;apply⟨_,rfl,u,_,rfl,.inr (SqT.of hu),_,rfl,t,_,_,_,rfl,rfl,SqT.of ht,aB (j:=1) rfl,rfl,_,rfl,lW ?_ ?_⟩
 ·rw[aa,hl,rX rfl];rfl
 apply⟨_,rfl,u,rfl,⟨_,SqT.of hu⟩,?_⟩;apply ox (K:=K) (xs:=ts.map V.int) (λi σ H2=>H2=H∧∃v2,σ=[some (.ref t),some (.ref u),v2]) ⟨rfl,none,rfl⟩ (λi σ H2 _ ⟨e,_⟩=>by rw[e];exact SqT.of hu) ?_ ?_
 ·rintro i x σ H2 hx ⟨rfl,v2,rfl⟩
  obtain⟨y,hy',rfl⟩:=aL.mp (bp hx);obtain⟨y0,y1⟩:=all y hy';apply⟨_,rfl,_,_,rfl,(IsD.int y).tyn,_,rfl,lW rfl ?_⟩;apply⟨_,rfl,_,_,rfl,(IsD.int y).tyn,_,rfl,lW rfl ?_⟩;apply⟨_,rfl,_,_,rfl,rfl,_,rfl,qQ (rX y0) ?_⟩;apply⟨_,rfl,t,_,_,_,rfl,rfl,SqT.of ht,aB (j:=0) rfl,_,_,rfl,rfl,_,rfl,lW (by rw[rX y1];rfl) ?_⟩;exact⟨rfl,_,rfl⟩
 ·rintro σ H2 ⟨rfl,v2,rfl⟩
  exact k
abbrev sWaitN:cJ:=top 77
theorem scWaitN:bW pzb pzb (defScope sWaitN):=by trivial
theorem ok_waitN (F:Fun K "_law_wait" "_law_wait" sWaitN f fd)(T2:Nt mg)(G1:Fn K mg "_law_waits" p7 pzb f1 fd1):cG P w K mg base CX0 2 f fd pzb nc:=by
 have F1:cG P w K mg base CX0 1 f1 fd1 pzb spWaitsN:=ok_waitsN G1.F;specialize F.ok scWaitN;obtain⟨v,u,b,m,sp,ts,rfl,hv,hu,R,hw,k⟩:=h;obtain⟨t,p,ys,rfl,ht,hp,hl,hy⟩:=eU hv;have few:=R.few;apply⟨_,PSl.h (cW ⟨(cf (d5 (call_sum rfl) rfl T2.sum boot_sum (ae (pe_compT (xs:=["_law_span_here","_law_wait_here"]) (fr:=[]) (js:=[]) rfl (pi_zip2 rfl T2.zip (ae (ixZ (pv 0)) (ae (pc1 G1 F1 hr (ae (pv 0) (ae (pv 1) aA))) aA))) (by trivial) rfl (by trivial) (by exists sWaitN) rfl (by trivial) (λ_ _ _ _ _=>pg_two rfl (by trivial) rfl rfl) (λ_ _ _ _ _=>⟨(cS jk (eM (r:=pj K) eJ (pv 0) bI (λ_ _=>rfl)) (pv 1)),fW⟩)) aA)))⟩),?_⟩;apply⟨_,rfl,t,_,_,_,rfl,rfl,SqT.of ht,aB (j:=2) rfl,?_⟩;apply⟨_,rfl,_,rfl,.ref t,u,b,m,sp,ts,rfl,hv,hu,R,λL H1 S1 h1=>?_⟩;apply⟨⟨false,p⟩,⟨true,L⟩,_,_,rfl,S1 _ _ hp,h1,?_⟩;apply rL (K:=K) (c1:=⟨false,p⟩) (c2:=⟨true,L⟩) (xs:=ys) (ys:=(jO b ts sp).map V.int) (λi zs H2=>bC H1 H2∧zs=((sp.take i).map λx=>x.w * cR b ts x).map V.int) ⟨bC.refl H1,rfl⟩ (λi zs H2 hi ⟨S2,e2⟩=>⟨S2 _ _ (S1 _ _ hp),S2 _ _ h1,?_⟩) (by unfold jO;rw[aa,aa,hl]) (by rw[hl];exact dm few) (λi x y zs pz H2 hx hx' ⟨S2,e2⟩ hpz=>?_) (λzs H2 ⟨S2,e2⟩ D hD=>?_)
 ·rw[e2,aa,aa,bw];lia
 ·have hi:i<sp.length:=by rw[←hl];exact(ao.mp hx).1
  obtain⟨q,hq,hq2⟩:=hy i sp[i] (gE hi);rw[hx] at hq;cases hq;unfold jO at hx';rw[ar,ar,gE hi] at hx';cases hx';have S3:bC H1 (upd H2 pz (.tup [.ref q,.int (cR b ts sp[i])])):=S2.put hpz;generalize upd H2 pz (.tup [.ref q,.int (cR b ts sp[i])])=H3 at S3 ⊢;have hq3:=S3 _ _ (S1 _ _ hq2);obtain⟨w0,w1⟩:=hw sp[i] (bH hi);apply eS ?_;apply⟨_,rfl,q,_,_,_,rfl,rfl,SqT.of hq3,aB (j:=4) rfl,_,rfl,_,_,rfl,rfl,.inl ⟨⋯,⋯⟩,S3,?_⟩;rw[e2,aY,gE hi,ax,ax];rfl
 ·apply⟨D,_,rfl,SqL.of (by rw[e2];exact aN),?_⟩
  have e3:((sp.take ys.length).map λx=>x.w * cR b ts x).sum=bU b ts sp:=by
   unfold bU;rw[hl,aX]
  rw[e3];exact k _ (S1.trans (S2.put hD))
def Mv (p:ak)(H H':Hp):Prop:=(∀b o,b≠p→H b=some o→H' b=some o)∧∃n,H' p=some (.lst [.int n])
theorem Mv.trans {p:ak}(a:Mv p H H1)(b:Mv p H1 H2):Mv p H H2:=⟨λc o hc e=>b.1 c o hc (a.1 c o hc e),b.2⟩
theorem Mv.new {p q:ak}(a:Mv p H H1)(hq:H1 q=none):Mv p H (upd H1 q o):=by
 obtain⟨n,hn⟩:=a.2;exact⟨λc u hc e=>by rw[bz (bx (a.1 c u hc e) hq)];exact a.1 c u hc e,n,by rw[bz (bx hn hq)];exact hn⟩
theorem Mv.at {p q:ak}(a:Mv p H H1)(h:H q=some o)(hne:q≠p):H1 q=some o:=a.1 q o hne h
theorem Mv.then {p:ak}(a:Mv p H H1)(S:bC H1 H2):Mv p H H2:=⟨λc o hc e=>S _ _ (a.1 c o hc e),by obtain⟨n,hn⟩:=a.2;exact⟨n,S _ _ hn⟩⟩
theorem Mv.of {p:ak}{n:Int}(S:bC H H1)(h:H1 p=some (.lst [.int n])):Mv p H H1:=⟨λc o _ e=>S _ _ e,n,h⟩
theorem Mv.ne {p q:ak}(a:Mv p H H1)(hq:H1 q=none):q≠p:=λz=>by obtain⟨n,hn⟩:=a.2;rw[z,hn] at hq;cases hq
theorem bC.mv {p:ak}(e:bC H H1)(hp:H p=none)(m:Mv p H1 H2):bC H H2:=λb o q=>m.1 b o (λz=>by rw[z,hp] at q;cases q) (e b o q)
theorem Mv.tupK {p:ak}{n:Int}(h:H p=some (.lst [.int n]))(a:Mv p H H1):kr H H1:=λq xs e=>a.1 q _ (fb e h nofun) e
inductive oF (vs:List V)(H:Hp)(Q:VK)(_:XK):Prop
 | mk (p n m:_)(_:vs=[.ref p,.int m])(_:H p=some (.lst [.int n]))(_:0<m)(_:m<10 ^ 61)(_:∀r H',0≤r→r<m→Mv p H H'→Q (.int r) H')
inductive spMix (vs:List V)(H:Hp)(Q:VK)(_:XK):Prop
 | mk (c k:_)(_:vs=[.int c,.int k])(_:0≤k)(_:k≤1000)(_:∀n,Q (.int n) H)
inductive q9 (K:ai)(vs:List V)(H:Hp)(Q:VK)(_:XK):Prop
 | mk (a:ak)(ns:List Int)(k:Int)(_:vs=[.ref a,.int k])(_:SqL K H a (ns.map V.int))(_:0≤k)(_:k≤100)(_:∀n p,H p=none→Q (.ref p) (upd H p (.lst [.int n])))
abbrev sCell:cJ:=top 67
abbrev sMix:cJ:=top 68
abbrev sPotT:cJ:=top 69
abbrev sTake:cJ:=top 70
theorem scCell:bW pze pze (defScope sCell):=by trivial
theorem ok_cell (F:Fun K "_law_cell_at" "_law_cell_at" sCell f fd)(T:Nm mg):cG P w K mg base CX0 1 f fd pze (spCell K):=by
 specialize F.ok scCell;obtain⟨a,ns,j,rfl,ha,hj,k⟩:=h;apply⟨_,pB (ib (cT op_lt (pv 1) (d5 dA rfl T.len cV (ae (pv 0) aA)) (dI _)) (cL (cf (eM fP (pv 0) (pv 1) (λ_ _=>rfl)))) dX) (cL (cf bI)),?_⟩;apply⟨_,rfl,_,rfl,a,_,rfl,.inl ha,_,_,rfl,rfl,_,rfl,?_⟩;apply ite2 (λh1=>?_) (λh1=>?_)
 ·have h1:j<((ns.map V.int).length:Int):=rZ h1
  obtain⟨v,e1,e2⟩:=atI_in hj h1;obtain⟨c,_,rfl⟩:=aL.mp e2;exact⟨_,rfl,_,rfl,a,_,_,_,rfl,rfl,ha,e1,k c⟩
 ·exact k 0
theorem scTake:bW ["_law_pot_here","_law_most","_law_number"] pzf (defScope sTake):=by trivial
theorem mJ (F:Fun K "_law_take" "_law_take" sTake f fd):cG P w K mg base CX0 1 f fd pzf oF:=by
 specialize F.ok scTake;obtain ⟨p,n,m,rfl,hp,h0,h1,k⟩:=h;apply ⟨_,pB (psZ 2 scTake.nd (cS lI (eM fP (pv 0) bI (fun _ _=>rfl)) (pv 1)))
  (pB (ps_asg (cS op_fdivB (eM fP (pv 0) bI (fun _ _=>rfl)) (pv 1)) (pg_sub (pv 0) bI set_list)) (cL (cf (pv 2)))),?_⟩
 apply⟨_,rfl,p,_,_,_,rfl,rfl,SqL.of hp,aB (j:=0) rfl,_,rfl,_,_,rfl,rfl,h0,?_⟩;apply⟨_,rfl,p,_,_,_,rfl,rfl,SqL.of hp,aB (j:=0) rfl,_,rfl,_,_,rfl,rfl,log_ok h0 h1,?_⟩;apply⟨_,rfl,p,_,_,0,rfl,rfl,hp,rfl,?_⟩;apply⟨_,rfl,k _ _ (dJ _ ⋯) (dv _ h0) ⟨λb o hb e=>by rw[bz hb];exact e,n / m,aN⟩⟩
theorem scMix:bW ["_law_cell","_law_k","_law_number"] pzN (defScope sMix):=by trivial
theorem ok_mix (F:Fun K "_law_mixed" "_law_mixed" sMix f fd):cG P w K mg base CX0 1 f fd pzN spMix:=by
 specialize F.ok scMix;obtain ⟨c,j,rfl,j0,j1,k⟩:=h;apply ⟨_,PSl.h (aZ ⟨(psZ 2 scMix.nd (cS lI (cS jk (cS gh (cS gh (cS lI (pv 0) bI) (cS jk bI (pv 1))) bI) bI) bI))⟩
  (aZ ⟨(psZ 2 scMix.nd (cS lI (cS gh (cS gh (cS jk (pv 2) (pv 2)) (cS jk bI (pv 1))) bI) bI))⟩
  (cW ⟨(cf (cS lI (cS jk (pv 2) bI) bI))⟩))),?_⟩
 apply⟨_,rfl,_,_,rfl,rfl,(by show(0:Int)<2147483629;decide),_,rfl,_,_,rfl,rfl,.inl ⟨↥0,↥0⟩,_,_,rfl,rfl,_,_,rfl,rfl,_,_,rfl,rfl,.inr ⟨↥0,↥0⟩,_,_,rfl,rfl,(by show(0:Int)<2147483647;decide),?_⟩;apply⟨_,rfl,_,rfl,_,_,rfl,rfl,.inl ?_,_,rfl,_,_,rfl,rfl,.inl ⟨↥0,↥0⟩,_,_,rfl,rfl,_,_,rfl,rfl,_,_,rfl,rfl,(by show(0:Int)<2147483587;decide),?_⟩
 ·have h1:=dJ ((c % 2147483629+7919 * j+1) * 48271) (by decide:(2147483647:Int)≠0)
  have h2:=dv ((c % 2147483629+7919 * j+1) * 48271) (by decide:(0:Int)<2147483647);exact⟨⋯,⋯⟩
 ·exact⟨_,rfl,_,_,rfl,rfl,.inr ⟨↥0,↥0⟩,_,_,rfl,rfl,(by show(0:Int)<2147483629;decide),k _⟩
theorem scPotT:bW ["_law_script","_law_k","_law_cell","_law_number","_law_j"] pze (defScope sPotT):=by trivial
theorem ok_potT (F:Fun K "_law_pot" "_law_pot" sPotT f fd)(T:Nm mg)(T2:Nt mg)(G1:Fn K mg "_law_cell_at" sCell pze f1 fd1)(G2:Fn K mg "_law_mixed" sMix pzN f2 fd2):cG P w K mg base CX0 2 f fd pze (q9 K):=by
 have F1:cG P w K mg base CX0 1 f1 fd1 pze (spCell K):=ok_cell G1.F T;have F2:cG P w K mg base CX0 1 f2 fd2 pzN spMix:=ok_mix G2.F;specialize F.ok scPotT;obtain ⟨a,ns,j,rfl,ha,j0,j1,k⟩:=h;apply ⟨_,PSl.h (aZ ⟨(psZ 2 scPotT.nd (pc1 G1 F1 hr (ae (pv 0) (ae (pv 1) aA))))⟩
  (aZ ⟨(ib (cT om (cS lI (pc1 G1 F1 hr (ae (pv 0) (ae bI aA))) bI) bI (dI _)) (cL (cf (i5 (ae (pv 2) aA)))) dX)⟩
  (aZ ⟨(psZ 3 scPotT.nd bI)⟩
  (aZ ⟨(iP bR rfl (hX rfl T2.range (ae bI aA)) (pgZ 4 scPotT.nd) (cL (psZ 3 scPotT.nd (cS gh (cS jk (pv 3) bI) (pc1 G2 F2 hr (ae (pv 2) (ae (cS gh (pv 1) (cS jk bI (pv 4))) aA)))))))⟩
  (cW ⟨(cf (i5 (ae (pv 3) aA)))⟩))))),?_⟩
 apply⟨_,rfl,_,rfl,a,ns,j,rfl,ha,j0,λc=>?_⟩;apply⟨_,rfl,a,ns,0,rfl,ha,↥0,λc0=>⟨_,_,rfl,rfl,(by show(0:Int)<2;decide),rfl,_,rfl,?_⟩⟩;apply ite2 (λ_=>?_) (λ_=>?_)
 ·exact⟨_,rfl,szZ1,λp hp=>k _ p hp⟩
 ·apply⟨9,rfl,↥0,↥0,kq (n:=9) (λi σ H2=>H2=H∧∃n vj,σ=[some (.ref a),some (.int j),some (.int c),some (.int n),vj]) ⟨rfl,0,none,rfl⟩ ?_ ?_⟩
  ·rintro i σ H2 hi ⟨rfl,n,vj,rfl⟩
   apply⟨_,rfl,_,_,rfl,rfl,.inr ⟨↥0,↥0⟩,_,rfl,_,rfl,_,rfl,_,_,rfl,rfl,.inl ⟨↥0,↥0⟩,_,_,rfl,rfl,c,_,rfl,⋯,⋯,λn2=>⟨_,_,rfl,rfl,?_⟩⟩;exact⟨rfl,_,_,rfl⟩
  ·rintro σ H2 ⟨rfl,n,vj,rfl⟩
   exact⟨_,rfl,szZ1,λp hp=>k _ p hp⟩
theorem wait_cons {y:Sn}{l:List Sn}:bU b ts (y::l)=y.w * cR b ts y+bU b ts l:=rfl
theorem fits_cons {y:Sn}{l:List Sn}:fF b ts (y::l)=true↔cR b ts y≤y.o - y.l∧fF b ts l=true:=by
 unfold fF;rw[gP,Bool.not_or,eh];unfold brk;rw[gM,decide_eq_false_iff_not,Int.not_lt]
theorem pop_perm {α:Type}:∀(l:List α) (i:Nat) (x:α),l[i]? =some x→(x::l.eraseIdx i).Perm l
 | [],_,_,h=>by simp at h
 | a::l,0,x,h=>by cases h;exact List.Perm.refl _
 | a::l,i+1,x,h=>by
  have h:=pop_perm l i x h;show(x::a::l.eraseIdx i).Perm (a::l);exact(List.Perm.swap a x _).trans (h.cons a)
def rgI (n:Nat):List Int:=(aJ n).map λ(k:Nat)=>(k:Int)
theorem rgI_len (n:Nat):(rgI n).length=n:=by unfold rgI;rw[aa,bq]
theorem rgI_at (h:i<n):(rgI n)[i]? =some (i:Int):=by unfold rgI;rw[ar,eE h];rfl
theorem nZ {a:Int}:a∈rgI n↔0≤a∧a<n:=by
 unfold rgI;rw[aL]
 constructor
 ·rintro⟨k,hk,rfl⟩
  have:=bF.mp hk;lia
 ·rintro⟨h0,h1⟩
  exact⟨a.toNat,bF.mpr ⋯,⋯⟩
theorem qg (n:Nat):(rgI n).Nodup:=dQ.mpr (List.pairwise_lt_range.imp λh=>by lia)
theorem rgI_le (n:Nat):(rgI n).Pairwise (· ≤ ·):=dQ.mpr (List.pairwise_lt_range.imp λh=>by lia)
abbrev Ord (os:List Int)(n:Nat):Prop:=os.Perm (rgI n)
theorem sorted_ord (h:Ord os n)(p:ns.Perm os)(s:ns.Pairwise (· ≤ ·)):ns=rgI n :=
 List.Perm.eq_of_pairwise (λa b _ _ h1 h2=>Int.le_antisymm h1 h2) s (rgI_le n) (p.trans h)
theorem Ord.len (h:Ord os n):os.length=n:=by rw[List.Perm.length_eq h,rgI_len]
theorem Ord.nodup (h:Ord os n):os.Nodup:=(List.Perm.nodup_iff h).mpr (qg n)
theorem Ord.mem (h:Ord os n){a:Int}:a∈os↔0≤a∧a<n:=(List.Perm.mem_iff h).trans nZ
def posI (os:List Int)(k:Int):Int:=((os.idxOf k:Nat):Int)
def kA (os:List Int)(n:Nat):List Int:=(rgI n).map (posI os)
theorem pG (os:List Int)(n:Nat):(kA os n).length=n:=by unfold kA;rw[aa,rgI_len]
theorem posL_tm (os:List Int){i:Int}(h0:0≤i)(h1:i<n):tm (kA os n) i=posI os i:=by
 have hi:i.toNat<n:=by lia
 have e:((i.toNat:Nat):Int)=i:=by lia
 unfold tm kA;rw[ag,ar,rgI_at hi,e];rfl
theorem Ord.lt (h:Ord os n){k:Int}(h0:0≤k)(h1:k<n):os.idxOf k<os.length:=List.idxOf_lt_length_iff.mpr (h.mem.mpr ⟨h0,h1⟩)
theorem Ord.at (h:Ord os n){k:Int}(h0:0≤k)(h1:k<n):os[os.idxOf k]? =some k:=by
 rw[gE (h.lt h0 h1),List.getElem_idxOf]
theorem Ord.first (h:Ord os n){k:Int}(hj:j<os.idxOf k):os[j]? ≠some k:=λe=>by
 obtain⟨hl,e2⟩:=ao.mp e;have:=h.nodup.idxOf_getElem j hl;rw[e2] at this;lia
theorem Ord.pos_in (h:Ord os n){k:Int}(h0:0≤k)(h1:k<n):0≤posI os k∧posI os k<n:=by
 have:=h.lt h0 h1;rw[h.len] at this;unfold posI;lia
theorem Ord.tmpos (h:Ord os n){k:Int}(h0:0≤k)(h1:k<n):tm os (posI os k)=k:=by
 unfold tm posI;rw[cM,ag,h.at h0 h1];rfl
theorem Ord.tm_in (h:Ord os n){i:Int}(h0:0≤i)(h1:i<n):0≤tm os i∧tm os i<n:=by
 have hi:i.toNat<os.length:=by rw[h.len];lia
 have e:tm os i=os[i.toNat]:=by unfold tm;rw[ag,gE hi];rfl
 rw[e];exact h.mem.mp (bH hi)
theorem Ord.postm (h:Ord os n){i:Int}(h0:0≤i)(h1:i<n):posI os (tm os i)=i:=by
 have hi:i.toNat<os.length:=by rw[h.len];lia
 have e:tm os i=os[i.toNat]:=by unfold tm;rw[ag,gE hi];rfl
 rw[e];unfold posI;rw[h.nodup.idxOf_getElem i.toNat hi];lia
theorem Ord.back (h:Ord os n):Ord (kA os n) n:=by
 apply(List.perm_ext_iff_of_nodup ?_ (qg n)).mpr λa=>?_
 ·apply dQ.mpr ((qg n).imp_of_mem λ{a b} ha hb hne e=>hne ?_)
  obtain⟨a0,a1⟩:=nZ.mp ha;obtain⟨b0,b1⟩:=nZ.mp hb;rw[←h.tmpos a0 a1,e,h.tmpos b0 b1]
 ·rw[nZ]
  constructor
  ·intro ha
   obtain⟨k,hk,rfl⟩:=aL.mp ha;obtain⟨k0,k1⟩:=nZ.mp hk;exact h.pos_in k0 k1
  ·rintro⟨h0,h1⟩
   exact aL.mpr ⟨tm os a,nZ.mpr (h.tm_in h0 h1),h.postm h0 h1⟩
def EndsIn (n:Nat)(sp:List Sn):Prop:=∀x∈sp,0≤x.s∧x.s<n∧0≤x.g∧x.g<n
theorem nam_back (h:Ord os n)(hs:EndsIn n sp):(sp.map (namS (kA os n))).map (namS (kA (kA os n) n))=sp:=by
 rw[cg]
 conv=>rhs;rw[←jx sp]
 apply cw λx hx=>?_
 obtain⟨s0,s1,g0,g1⟩:=hs x hx;have e:∀k:Int,0≤k→k<n→tm (kA (kA os n) n) (tm (kA os n) k)=k:=λk k0 k1=>by
  obtain⟨t0,t1⟩:=h.back.tm_in k0 k1;rw[posL_tm _ t0 t1,h.back.postm k0 k1]
 show(⟨tm (kA (kA os n) n) (tm (kA os n) x.s),tm (kA (kA os n) n) (tm (kA os n) x.g),x.l,x.o,x.w⟩:Sn)=x;rw[e _ s0 s1,e _ g0 g1]
def mq (ts os:List Int):List Int:=os.map (tm ts)
theorem permT_len (ts os:List Int):(mq ts os).length=os.length:=by unfold mq;rw[aa]
theorem tm_perm (h:Ord os n)(ts:List Int){k:Int}(h0:0≤k)(h1:k<n):tm (mq ts os) (posI os k)=tm ts k:=by
 unfold mq posI;show(os.map (tm ts)).getD ((os.idxOf k:Nat):Int).toNat 0=tm ts k;rw[cM,ag,ar,h.at h0 h1];rfl
theorem waitM_nam (h:Ord os n)(hs:EndsIn n sp):∀x∈sp,cR b (mq ts os) (namS (kA os n) x)=cR b ts x:=λx hx=>by
 obtain⟨s0,s1,g0,g1⟩:=hs x hx;show(tm (mq ts os) (tm (kA os n) x.g) - tm (mq ts os) (tm (kA os n) x.s) - x.l) % b=cR b ts x;rw[posL_tm _ s0 s1,posL_tm _ g0 g1,tm_perm h ts s0 s1,tm_perm h ts g0 g1];rfl
def OrdAt (H:Hp)(t u:ak)(n:Nat)(os:List Int):Prop:=(∃(b:Int) (rest:List V),H t=some (.tup (.int b:: .int (n:Int)::rest)))∧H u=some (.tup (os.map V.int))∧Ord os n∧n≤16
inductive pU (vs:List V)(H:Hp)(Q:VK)(_:XK):Prop
 | mk (t u:ak)(n:Nat)(os:List Int)(_:vs=[.ref t,.ref u])(_:OrdAt H t u n os)(_:∀H',bC H H'→Q (.bl true) H')
inductive o6 (vs:List V)(H:Hp)(Q:VK)(_:XK):Prop
 | mk (t u:ak)(n:Nat)(os:List Int)(_:vs=[.ref t,.ref u])(_:OrdAt H t u n os)(_:∀H',bC H H'→Q .non H')
inductive spNamedA (vs:List V)(H:Hp)(Q:VK)(_:XK):Prop
 | mk (v:V)(u:ak)(b:Int)(n:Nat)(sp:List Sn)(os:List Int)(_:vs=[v,.ref u])(_:IsD H v (jA b (n:Int) sp))(_:H u=some (.tup (os.map V.int)))(_:Ord os n)(_:n≤16)(_:EndsIn n sp)(_:sp.length≤1000)(_:∀w H',bC H H'→IsD H' w (jA b (n:Int) (sp.map (namS (kA os n))))→Q w H')
inductive spTabNam (vs:List V)(H:Hp)(Q:VK)(_:XK):Prop
 | mk (t u1 u2:ak)(n:Nat)(ts os:List Int)(_:vs=[.ref t,.ref u1,.ref u2])(_:OrdAt H t u2 n os)(_:H u1=some (.tup (ts.map V.int)))(_:ts.length=n)(_:∀p H',bC H H'→H' p=some (.tup ((mq ts os).map V.int))→Q (.ref p) H')
theorem fitsM_as {ts':List Int}{F:Sn→Sn}(h:∀x∈sp,cR b' ts' (F x)=cR b ts x)(ho:∀x,(F x).o - (F x).l=x.o - x.l):fF b' ts' (sp.map F)=fF b ts sp:=by
 unfold fF;rw[List.any_map];congr 1;apply pI _ λx hx=>?_
 show decide ((F x).o - (F x).l<cR b' ts' (F x))=decide (x.o - x.l<cR b ts x);rw[h x hx,ho]
theorem qW {ts':List Int}{F:Sn→Sn}(h:∀x∈sp,cR b' ts' (F x)=cR b ts x)(hw:∀x,(F x).w=x.w):bU b' ts' (sp.map F)=bU b ts sp:=by
 unfold bU;rw[cg];congr 1;apply cw λx hx=>?_
 show(F x).w * cR b' ts' (F x)=x.w * cR b ts x;rw[h x hx,hw]
def TabV (b:Int)(n:Nat)(ts:List Int):Prop:=ts.length=n∧∀t∈ts,0≤t∧t<b
theorem ia.mir {m:Int}(N:ia b m sp):ia b m (sp.map mirS):=⟨N.b1,N.b2,N.m1,N.m2,by rw [aa];exact N.few,fun x hx=>by
 obtain ⟨y,hy,rfl⟩:=aL.mp hx;have k:=N.all y hy;exact ⟨k.g0,k.g1,k.s0,k.s1,fun z=>k.ne z.symm,k.l0,k.lo,k.ob,k.o60,k.w0,k.w1⟩⟩
theorem ia.nam (N:ia b (n:Int) sp)(h:Ord os n):ia b (n:Int) (sp.map (namS (kA os n))):=⟨N.b1,N.b2,N.m1,N.m2,by rw [aa];exact N.few,fun x hx=>by
 obtain ⟨y,hy,rfl⟩:=aL.mp hx;have k:=N.all y hy;have a:=h.back.tm_in k.s0 k.s1;have c:=h.back.tm_in k.g0 k.g1;apply ⟨a.1,a.2,c.1,c.2,fun z=>k.ne ?_,k.l0,k.lo,k.ob,k.o60,k.w0,k.w1⟩;have z:tm (kA os n) y.s=tm (kA os n) y.g:=z;rw [←h.back.postm k.s0 k.s1,z,h.back.postm k.g0 k.g1]⟩
theorem ia.rdyV (N:ia b (n:Int) sp)(h:TabV b n ts):Rdy b ts sp:=N.rdy (by rw[h.1])
theorem ia.endsIn (N:ia b (n:Int) sp):EndsIn n sp:=λx hx=>by
 have k:=N.all x hx;exact⟨k.s0,k.s1,k.g0,k.g1⟩
structure Kept (b:Int)(ts:List Int)(sp:List Sn)(b':Int)(ts':List Int)(sp':List Sn)(c:Int):Prop where
 f:fF b' ts' sp'=fF b ts sp
 w:bU b' ts' sp'=bU b ts sp * c
theorem Kept.mir (N:ia b (n:Int) sp)(h:TabV b n ts):Kept b ts sp b (mirT b ts) (sp.map mirS) 1 :=
 ⟨fitsM_as (waitM_mir (N.rdyV h)) λ_=>rfl,by rw[gN];exact qW (waitM_mir (N.rdyV h)) λ_=>rfl⟩
theorem Kept.nam (N:ia b (n:Int) sp)(ho:Ord os n):Kept b ts sp b (mq ts os) (sp.map (namS (kA os n))) 1 :=
 ⟨fitsM_as (waitM_nam ho N.endsIn) λ_=>rfl,by rw[gN];exact qW (waitM_nam ho N.endsIn) λ_=>rfl⟩
theorem Kept.str {c:Int}(N:ia b (n:Int) sp)(h:TabV b n ts)(hc:0<c):Kept b ts sp (b * c) (qT c ts) (sp.map (nX c)) c :=
 ⟨fitsM_str hc (N.rdyV h),waitOfM_str hc (N.rdyV h)⟩
theorem TabV.mir (hb:0<b)(h:TabV b n ts):TabV b n (mirT b ts):=⟨by rw [mirT_len];exact h.1,fun t ht=>by
 obtain ⟨x,_,rfl⟩:=aL.mp ht;exact ⟨dJ _ ⋯,dv _ hb⟩⟩
theorem TabV.nam (h:TabV b n ts)(ho:Ord os n):TabV b n (mq ts os):=⟨by rw [permT_len,ho.len],fun t ht=>by
 obtain ⟨x,hx,rfl⟩:=aL.mp ht;obtain ⟨h0,h1⟩:=ho.mem.mp hx;exact tm_in h.2 h0 (by rw [h.1];exact h1)⟩
theorem TabV.str {c:Int}(h:TabV b n ts)(hc:0<c):TabV (b * c) n (qT c ts):=⟨by rw [strT_len];exact h.1,fun t ht=>by
 obtain ⟨x,hx,rfl⟩:=aL.mp ht;obtain ⟨h0,h1⟩:=h.2 x hx;exact ⟨Int.mul_nonneg h0 ⋯,kK h1 hc⟩⟩
theorem qY {f:Int→Int}{i:Int}(h0:0≤i)(h1:i<ts.length):tm (ts.map f) i=f (tm ts i):=by
 have hi:i.toNat<ts.length:=by lia
 unfold tm;rw[ag,ag,ar,gE hi];rfl
theorem Cn.mir (h:Cn L sp):Cn L (sp.map mirS):=λgs k y hy=>by
 obtain⟨x,hx,rfl⟩:=aL.mp hy;exact(h gs (λz hz e=>(k (mirS z) (aL.mpr ⟨z,hz,rfl⟩) e).symm) x hx).symm
theorem Cn.str {n:Int}(hn:0<n)(h:Cn L sp):Cn (L * n) (sp.map (nX n)):=λgs k y hy=>by
 obtain⟨x,hx,rfl⟩:=aL.mp hy;apply h gs (λz hz e=>k (nX n z) (aL.mpr ⟨z,hz,rfl⟩) ?_) x hx;show z.o * n - z.l * n≤L * n;rw[←Int.sub_mul];exact kd e ⋯
theorem Cn.nam (E:EndsIn n sp)(h:Cn L sp):Cn L (sp.map (namS (kA os n))):=λgs k y hy=>by
 obtain⟨x,hx,rfl⟩:=aL.mp hy;have t:∀z∈sp,tm ((kA os n).map (tm gs)) z.s=tm gs (tm (kA os n) z.s)∧tm ((kA os n).map (tm gs)) z.g=tm gs (tm (kA os n) z.g):=λz hz=>by
  obtain⟨a,b,c,d⟩:=E z hz;exact⟨qY a (by rw[pG];exact b),qY c (by rw[pG];exact d)⟩
 have:=h ((kA os n).map (tm gs)) (λz hz e=>by rw[(t z hz).1,(t z hz).2];exact k (namS _ z) (aL.mpr ⟨z,hz,rfl⟩) e) x hx;rw[(t x hx).1,(t x hx).2] at this;exact this
section
variable {m1 m2:Nat}
theorem sAt_l (h:i<sp1.length)(l:List Sn):sAt (sp1++l) i=sAt sp1 i:=by
 unfold sAt;rw[ag,ag,eC h]
theorem sAt_r {k:Int}(h:¬i<sp1.length)(h2:i<sp1.length+sp2.length):sAt (sp1++sp2.map (jo k)) i=jo k (sAt sp2 (i - sp1.length)):=by
 have e:i - sp1.length<sp2.length:=by lia
 unfold sAt;rw[ag,ag,bT ⋯,ar,gE e];rfl
theorem join_app (a b:List Int)(x y:Int):gH (a++b) x y=gH a x y++gH b x y:=ax ..
theorem join_no {a:List Int}{x y:Int}(h:∀g∈a,g≠y):gH a x y=a:=by
 unfold gH
 conv=>rhs;rw[←jx a]
 exact cw λg hg=>rT (h g hg)
theorem join_up (a:List Int)(x y k:Int):gH (a.map (· + k)) (x+k) (y+k)=(gH a x y).map (· + k):=by
 unfold gH;rw[cg,cg];apply cw λg _=>?_
 show(if g+k=y+k then x+k else g+k)=(if g=y then x else g)+k
 by_cases h:g=y
 ·rw[rV ⋯,rV h]
 ·rw[rT ⋯,rT h]
theorem join_in {a:List Int}{x y:Int}(h:∀g∈a,0≤g∧g<(m:Int))(hx:0≤x∧x<(m:Int)):∀g∈gH a x y,0≤g∧g<(m:Int):=λg hg=>by
 obtain⟨z,hz,rfl⟩:=aL.mp hg;show 0≤(if z=y then x else z)∧(if z=y then x else z)<_;split
 ·exact hx
 ·exact h z hz
theorem join_len (a:List Int)(x y:Int):(gH a x y).length=a.length:=aa ..
theorem pX (E1:Ends m1 sp1)(E2:Ends m2 sp2):∀(π:List Nat) (g1 g2:List Int) (tk t1 t2:List Nat),(∀i∈π,i<sp1.length+sp2.length)→g1.length=m1→g2.length=m2→(∀g∈g1,0≤g∧g<(m1:Int))→(∀g∈g2,0≤g∧g<(m2:Int)) →
  hW (sp1++sp2.map (jo m1)) tk=hW sp1 t1 * hW sp2 t2 →
  hW (sp1++sp2.map (jo m1)) (π.foldl (gc (sp1++sp2.map (jo m1))) (g1++g2.map (· + (m1:Int)),tk)).2=hW sp1 ((π.filter λi=>decide (i<sp1.length)).foldl (gc sp1) (g1,t1)).2 * hW sp2 (((π.filter λi=> !decide (i<sp1.length)).map (· - sp1.length)).foldl (gc sp2) (g2,t2)).2
 | [],_,_,_,_,_,_,_,_,_,_,h=>h
 | i::π,g1,g2,tk,t1,t2,hπ,l1,l2,b1,b2,h=>by
  have hπ':∀j∈π,j<sp1.length+sp2.length:=λj hj=>hπ j (aw _ hj)
  have hi:=hπ i (bt ..);rw[bJ]
  by_cases c:i<sp1.length
  ·rw[List.filter_cons_of_pos (by exact rX c),List.filter_cons_of_neg (by rw[rX c];decide),bJ]
   obtain⟨s0,s1,e0,e1⟩:=E1 _ (eD c);have es:tm (g1++g2.map (· + (m1:Int))) (sAt sp1 i).s=tm g1 (sAt sp1 i).s:=tm_left s0 ⋯;have eg:tm (g1++g2.map (· + (m1:Int))) (sAt sp1 i).g=tm g1 (sAt sp1 i).g:=tm_left e0 ⋯;unfold gc at *;rw[sAt_l c,es,eg]
   by_cases q:tm g1 (sAt sp1 i).s=tm g1 (sAt sp1 i).g
   ·rw[rV q,rV q]
    exact pX E1 E2 π g1 g2 tk t1 t2 hπ' l1 l2 b1 b2 h
   ·rw[rT q,rT q]
    have bs:=tm_in b1 s0 ⋯;have bg:=tm_in b1 e0 ⋯;show hW _ (List.foldl _ (gH (g1++g2.map (· + (m1:Int))) _ _,_) π).2=_;rw [join_app,join_no (a:=g2.map (· + (m1:Int))) fun g hg=>by
     obtain ⟨z,hz,rfl⟩:=aL.mp hg;have:=(b2 z hz).1;show z+(m1:Int)≠_;lia]
    apply pX E1 E2 π _ g2 _ (t1++[i]) t2 hπ' (by rw[join_len];exact l1) l2 (join_in b1 bs) b2 ?_;rw[kM,kM,h];have:(oM (sp1++sp2.map (jo m1)) i).1=(oM sp1 i).1:=by unfold oM;rw[sAt_l c]
    rw[this,Int.mul_right_comm]
  ·rw[List.filter_cons_of_neg (by rw[rY c];decide),List.filter_cons_of_pos (by rw[rY c];rfl),bX,bJ]
   have hj:i - sp1.length<sp2.length:=by lia
   obtain⟨s0,s1,e0,e1⟩:=E2 _ (eD hj);have l1':(g1.length:Int)=m1:=by rw[l1]
   have es:tm (g1++g2.map (· + (m1:Int))) ((sAt sp2 (i - sp1.length)).s+m1)=tm g2 (sAt sp2 (i - sp1.length)).s+m1:=by rw[oU l1' s0,qY s0 ⋯]
   have eg:tm (g1++g2.map (· + (m1:Int))) ((sAt sp2 (i - sp1.length)).g+m1)=tm g2 (sAt sp2 (i - sp1.length)).g+m1:=by rw[oU l1' e0,qY e0 ⋯]
   unfold gc at *;rw[sAt_r c hi];show hW _ (List.foldl _ (if tm (g1++g2.map (· + (m1:Int))) ((sAt sp2 (i - sp1.length)).s+m1)=tm (g1++g2.map (· + (m1:Int))) ((sAt sp2 (i - sp1.length)).g+m1) then _ else (gH (g1++g2.map (· + (m1:Int))) (tm (g1++g2.map (· + (m1:Int))) ((sAt sp2 (i - sp1.length)).s+m1)) (tm (g1++g2.map (· + (m1:Int))) ((sAt sp2 (i - sp1.length)).g+m1)),_)) π).2=_;rw[es,eg]
   by_cases q:tm g2 (sAt sp2 (i - sp1.length)).s=tm g2 (sAt sp2 (i - sp1.length)).g
   ·rw[rV (by rw[q]),rV q]
    exact pX E1 E2 π g1 g2 tk t1 t2 hπ' l1 l2 b1 b2 h
   ·rw[rT ⋯,rT q]
    have bs:=tm_in b2 s0 ⋯;have bg:=tm_in b2 e0 ⋯;rw [join_app,join_up,join_no (a:=g1) fun g hg=>by
     have:=(b1 g hg).2;lia]
    apply pX E1 E2 π g1 _ _ t1 (t2++[i - sp1.length]) hπ' l1 (by rw[join_len];exact l2) b1 (join_in b2 bs) ?_;rw[kM,kM,h];have:(oM (sp1++sp2.map (jo m1)) i).1=(oM sp2 (i - sp1.length)).1:=by unfold oM;rw[sAt_r c hi];rfl
    rw[this,jv]
theorem range_l (a b:Nat):((aJ (a+b)).filter λi=>decide (i<a))=aJ a:=by
 rw [List.range_add,gp,nR.mpr fun i hi=>rX (bF.mp hi),List.filter_eq_nil_iff.mpr fun i hi=>by
  obtain ⟨z,_,rfl⟩:=aL.mp hi;rw [rY ⋯];decide,dH]
theorem range_r (a b:Nat):((aJ (a+b)).filter λi=> !decide (i<a)).map (· - a)=aJ b:=by
 rw [List.range_add,gp,List.filter_eq_nil_iff.mpr fun i hi=>by rw [rX (bF.mp hi)];decide,nR.mpr fun i hi=>by
  obtain ⟨z,_,rfl⟩:=aL.mp hi;rw [rY ⋯];rfl,List.nil_append,cg]
 conv=>rhs;rw[←jx (aJ b)]
 exact cw λz _=>by show a+z - a=z;lia
theorem ord_l {k:Int}(O:rO (sp1++sp2.map (jo k)) π):rO sp1 (π.filter λi=>decide (i<sp1.length)):=by
 obtain⟨p,q⟩:=O;rw[av,aa] at p;apply⟨by rw[←range_l sp1.length sp2.length];exact p.filter _,(q.filter _).imp_of_mem λ{i j} hi hj h=>?_⟩;have hi:=rZ (bZ.mp hi).2;have hj:=rZ (bZ.mp hj).2;unfold oM at h ⊢;rw[sAt_l hi,sAt_l hj] at h;exact h
theorem ord_r {k:Int}(O:rO (sp1++sp2.map (jo k)) π):rO sp2 ((π.filter λi=> !decide (i<sp1.length)).map (· - sp1.length)):=by
 obtain⟨p,q⟩:=O;rw[av,aa] at p;apply⟨by rw[←range_r sp1.length sp2.length];exact(p.filter _).map _,dQ.mpr ((q.filter _).imp_of_mem λ{i j} hi hj h=>?_)⟩;obtain⟨hi,ci⟩:=bZ.mp hi;obtain⟨hj,cj⟩:=bZ.mp hj;have hi:=bF.mp (p.mem_iff.mp hi);have hj:=bF.mp (p.mem_iff.mp hj);have ci:¬i<sp1.length:=λz=>by rw[rX z] at ci;cases ci
 have cj:¬j<sp1.length:=λz=>by rw[rX z] at cj;cases cj
 rw[qw] at h ⊢;unfold oM at h ⊢;rw[sAt_r ci hi,sAt_r cj hj] at h;have h:(sAt sp2 (i - sp1.length)).o - (sAt sp2 (i - sp1.length)).l<(sAt sp2 (j - sp1.length)).o - (sAt sp2 (j - sp1.length)).l∨(sAt sp2 (i - sp1.length)).o - (sAt sp2 (i - sp1.length)).l=(sAt sp2 (j - sp1.length)).o - (sAt sp2 (j - sp1.length)).l∧(i:Int)<j:=h;show(sAt sp2 (i - sp1.length)).o - (sAt sp2 (i - sp1.length)).l<(sAt sp2 (j - sp1.length)).o - (sAt sp2 (j - sp1.length)).l∨(sAt sp2 (i - sp1.length)).o - (sAt sp2 (i - sp1.length)).l=(sAt sp2 (j - sp1.length)).o - (sAt sp2 (j - sp1.length)).l∧((i - sp1.length:Nat):Int)<((j - sp1.length:Nat):Int);lia
theorem grp0_in (m:Nat):∀g∈ko m,0≤g∧g<(m:Int):=λg hg=>by
 obtain⟨k,hk,rfl⟩:=aL.mp hg;have:=bF.mp hk;lia
theorem grp0_app (a b:Nat):ko (a+b)=ko a++(ko b).map (· + (a:Int)):=by
 unfold ko;rw[List.range_add,ax,cg,cg];congr 1;apply cw λk _=>?_
 show((a+k:Nat):Int)=(k:Int)+a;lia
end
theorem ia.side {m1 m2:Int}(S:Sides b m1 m2 sp1 sp2):ia b (m1+m2) (sp1++sp2.map (jo m1)):=by
 have a1:=S.N1.m1;have a2:=S.N2.m1;apply⟨S.N1.b1,S.N1.b2,⋯,S.m,by rw[av,aa];exact S.few,λx hx=>?_⟩
 rcases aQ.mp hx with hx | hx
 ·have k:=S.N1.all x hx
  exact⟨k.s0,by have:=k.s1;lia,k.g0,by have:=k.g1;lia,k.ne,k.l0,k.lo,k.ob,k.o60,k.w0,k.w1⟩
 ·obtain⟨y,hy,rfl⟩:=aL.mp hx
  have k:=S.N2.all y hy;have:=k.s0;have:=k.s1;have:=k.g0;have:=k.g1;have:=k.ne;exact⟨by show 0≤y.s+m1;lia,by show y.s+m1<m1+m2;lia,by show 0≤y.g+m1;lia,by show y.g+m1<m1+m2;lia,by show y.s+m1≠y.g+m1;lia,k.l0,k.lo,k.ob,k.o60,k.w0,k.w1⟩
theorem side_few {m1 m2 L1 L2 M1 M2:Int}(S:Sides b m1 m2 sp1 sp2)(c1:Cn L1 sp1)(c2:Cn L2 sp2)(p1:∀k:Nat,k<m1.toNat→(L1+1) ^ k≤M1)(p2:∀k:Nat,k<m2.toNat→(L2+1) ^ k≤M2)(h:M1 * M2≤4096):∀l,jh (m1+m2).toNat (sp1++sp2.map (jo m1)) l→hW (sp1++sp2.map (jo m1)) l≤4096:=by
 intro l F;have a1:=S.N1.m1;have a2:=S.N2.m1;obtain⟨_,π,O,pm⟩:=F;have e1:((m1.toNat:Nat):Int)=m1:=fm ⋯;rw[prodW_perm _ pm];have es:(m1+m2).toNat=m1.toNat+m2.toNat:=by lia
 unfold j7;rw[es,grp0_app];have k:=pX S.N1.ends S.N2.ends π (ko m1.toNat) (ko m2.toNat) [] [] [] (λi hi=>by have:=O.lt hi;rw[av,aa] at this;exact this) (j6 _) (j6 _) (grp0_in _) (grp0_in _) rfl;rw[e1] at k ⊢;rw[k];have x1:=qK S.N1 c1 p1 (l:=(j7 sp1 m1.toNat _).2) ⟨_,ord_l O,List.Perm.refl _⟩;have x2:=qK S.N2 c2 p2 (l:=(j7 sp2 m2.toNat _).2) ⟨_,ord_r O,List.Perm.refl _⟩;exact gO (i7 x1.2 x2.2 (gO ↥0 x2.1) (gO (gO ↥0 x1.1) x1.2)) h
def Tld (b m:Int)(sp:List Sn):Option (List Int)→Prop
 | none=>∀T,¬fF b T sp=true
 | some ts=>kU b m sp ts∧∀T,fF b T sp=true→bU b ts sp≤bU b T sp
def wV (b:Int)(sp:List Sn)(c:Int):Option (List Int)→V
 | none=> .non
 | some ts=> .int (bU b ts sp * c)
theorem Tld.as {m m' c:Int}(F:List Int→List Int)(f:∀t,kU b m sp t→kU b' m' sp' (F t)∧bU b' (F t) sp'=bU b t sp * c)
  (g:∀t',kU b' m' sp' t'→(∃t,fF b t sp=true)∧∀w,(∀T,fF b T sp=true→w≤bU b T sp)→w * c≤bU b' t' sp') {o:Option (List Int)} (h:Tld b m sp o):∀{o':Option (List Int)},Tld b' m' sp' o'→wV b' sp' 1 o'=wV b sp c o:=by
 intro o' h';cases o with
 | none =>
  cases o' with
  | none=>rfl
  | some t' =>
   obtain⟨t,ht⟩:=(g t' h'.1).1;exact rW ht (h t)
 | some t =>
  obtain⟨k,e⟩:=f t h.1;cases o' with
  | none=>exact rW k.2.2 (h' _)
  | some t' =>
   have a:=(g t' h'.1).2 _ h.2;have c:=h'.2 _ k.2.2;show V.int (bU b' t' sp' * 1)=V.int (bU b t sp * _);congr 1;lia
section
variable {t:List Int}
theorem tab_mir (N:ia b (n:Int) sp)(h:kU b n sp t):kU b n (sp.map mirS) (mirT b t)∧bU b (mirT b t) (sp.map mirS)=bU b t sp * 1:=by
 have K:=Kept.mir N ⟨h.1,h.2.1⟩;have U:=TabV.mir (n:=n) (by have:=N.b1;lia) ⟨h.1,h.2.1⟩;exact⟨⟨U.1,U.2,by rw[K.f];exact h.2.2⟩,K.w⟩
theorem tab_nam (N:ia b (n:Int) sp)(ho:Ord os n)(h:kU b n sp t):kU b n (sp.map (namS (kA os n))) (mq t os)∧bU b (mq t os) (sp.map (namS (kA os n)))=bU b t sp * 1:=by
 have K:=Kept.nam (ts:=t) N ho;have U:=TabV.nam (n:=n) ⟨h.1,h.2.1⟩ ho;exact⟨⟨U.1,U.2,by rw[K.f];exact h.2.2⟩,K.w⟩
theorem tab_str {c:Int}(N:ia b (n:Int) sp)(hc:0<c)(h:kU b n sp t):kU (b * c) n (sp.map (nX c)) (qT c t)∧bU (b * c) (qT c t) (sp.map (nX c))=bU b t sp * c:=by
 have K:=Kept.str N ⟨h.1,h.2.1⟩ hc;have U:=TabV.str (n:=n) (b:=b) ⟨h.1,h.2.1⟩ hc;exact⟨⟨U.1,U.2,by rw[K.f];exact h.2.2⟩,K.w⟩
theorem as_one {t' F:List Int}(f:fF b F sp=true)(e:bU b F sp=bU b' t' sp' * 1):(∃ t,fF b t sp=true)∧∀ w,(∀ T,fF b T sp=true→w≤bU b T sp)→w * 1≤bU b' t' sp':=⟨⟨_,f⟩,fun w hw=>by
 have:=hw _ f;rw [e] at this;lia⟩
theorem Tld.mir (N:ia b (n:Int) sp){o:Option (List Int)}(h:Tld b n sp o)(h':Tld b n (sp.map mirS) o'):wV b (sp.map mirS) 1 o'=wV b sp 1 o :=
 Tld.as (mirT b) (fun _=>tab_mir N) (fun t' h'=>by
  have k:=tab_mir N.mir h';rw [mirS_two] at k;exact as_one k.1.2.2 k.2) h h'
theorem Tld.nam (N:ia b (n:Int) sp)(ho:Ord os n){o:Option (List Int)}(h:Tld b n sp o)(h':Tld b n (sp.map (namS (kA os n))) o'):wV b (sp.map (namS (kA os n))) 1 o'=wV b sp 1 o :=
 Tld.as (mq · os) (fun _=>tab_nam N ho) (fun t' h'=>by
  have k:=tab_nam (N.nam ho) ho.back h';rw [nam_back ho N.endsIn] at k;exact as_one k.1.2.2 k.2) h h'
def flr (b c d:Int)(T:List Int):List Int:=T.map λt=>(t+d) / c % b
theorem flr_wait {c:Int}{T:List Int}{x:Sn}(hb:1≤b)(c0:0<c)(ob:x.o<x.l+b)(s0:0≤x.s)(s1:x.s<T.length)(g0:0≤x.g)(g1:x.g<T.length)(fit:cR (b * c) T (nX c x)≤(x.o - x.l) * c) :
  cR b (flr b c d T) x=(tm T x.s+cR (b * c) T (nX c x)+d) / c - (tm T x.s+d) / c∧cR b (flr b c d T) x≤x.o - x.l:=by
 have e1:tm (flr b c d T) x.s=(tm T x.s+d) / c % b:=qY s0 s1;have e2:tm (flr b c d T) x.g=(tm T x.g+d) / c % b:=qY g0 g1;have w0:0≤cR (b * c) T (nX c x):=dJ _ (by have:=Int.mul_pos (show 0<b by lia) c0;lia);have ek:tm T x.g - tm T x.s - x.l * c=b * c * ((tm T x.g - tm T x.s - x.l * c) / (b * c))+cR (b * c) T (nX c x):=(fJ _ _).symm;generalize cR (b * c) T (nX c x)=w at w0 ek fit ⊢;generalize (tm T x.g - tm T x.s - x.l * c) / (b * c)=k at ek;have eg:tm T x.g+d=tm T x.s+w+d+(x.l+b * k) * c:=by
  rw[Int.add_mul,Int.mul_right_comm b k c];lia
 have ed:(tm T x.g+d) / c=(tm T x.s+w+d) / c+(x.l+b * k):=by rw[eg,Int.add_mul_ediv_right _ _ ⋯]
 have d0:(tm T x.s+d) / c≤(tm T x.s+w+d) / c:=Int.ediv_le_ediv c0 ⋯;have d1:(tm T x.s+w+d) / c≤(tm T x.s+d) / c+(x.o - x.l):=by
  rw[←Int.add_mul_ediv_right _ _ (show c≠0 by lia)];exact Int.ediv_le_ediv c0 ⋯
 have:cR b (flr b c d T) x=(tm T x.s+w+d) / c - (tm T x.s+d) / c:=by
  unfold cR;rw[e1,e2,pf,ed,show(tm T x.s+w+d) / c+(x.l+b * k) - (tm T x.s+d) / c - x.l=(tm T x.s+w+d) / c - (tm T x.s+d) / c+b * k by lia,kX];exact jW ⋯ ⋯
 exact⟨this,⋯⟩
def sumT (f:Nat→Int):Nat→Int
 | 0=>0
 | n+1=>sumT f n+f n
theorem oV (f g:Nat→Int)(c:Int):∀n,sumT (λd=>c * f d+g d) n=c * sumT f n+sumT g n
 | 0=>by show(0:Int)=c * 0+0;lia
 | n+1=>by
  show sumT (λd=>c * f d+g d) n+(c * f n+g n)=c * (sumT f n+f n)+(sumT g n+g n);rw[oV f g c n,jB];lia
theorem sumT_le {f:Nat→Int}{w:Int}(h:∀d,w≤f d):∀n:Nat,w * n≤sumT f n
 | 0=>by show w * 0≤0;lia
 | n+1=>by
  have:=sumT_le h n;have:=h n;show w * ((n:Int)+1)≤sumT f n+f n;rw[jB];lia
theorem sumT_div (a:Int)(h0:1≤n)(h1:n≤4):sumT (λd=>(a+(d:Int)) / n) n=a:=by
 have:n=1∨n=2∨n=3∨n=4:=by lia
 rcases this with rfl | rfl | rfl | rfl <;> (simp only[sumT];lia)
theorem sumT_rest (a w:Int)(h0:1≤n)(h1:n≤4):sumT (λd=>(a+w+(d:Int)) / n - (a+d) / n) n=w:=by
 have e:(λd:Nat=>(a+w+(d:Int)) / n - (a+d) / n)=λd:Nat=>(-1) * ((a+(d:Int)) / n)+(a+w+(d:Int)) / n:=funext λd=>by lia
 rw[e,oV,sumT_div _ h0 h1,sumT_div _ h0 h1];lia
theorem flr_all {c:Nat}{T:List Int}(hb:1≤b)(h0:1≤c)(h1:c≤4):∀(sp:List Sn),(∀x∈sp,x.o<x.l+b∧0≤x.s∧x.s<T.length∧0≤x.g∧x.g<T.length)→fF (b * c) T (sp.map (nX c))=true →
  (∀d:Nat,fF b (flr b c d T) sp=true)∧sumT (λd=>bU b (flr b c d T) sp) c=bU (b * c) T (sp.map (nX c))
 | [],_,_=>⟨fun _=>rfl,by
  have:=oV (λ_=>0) (λ_=>0) 0 c;have e:(λd:Nat=>bU b (flr b c d T) [])=λ_:Nat=>(0:Int) * 0+0:=funext λ_=>rfl
  rw[e,this];have:∀n,sumT (λ_=>0) n=0:=λn=>by
   induction n with
   | zero=>rfl
   | succ n ih=>show sumT (λ_=>0) n+0=0;lia
  rw [this];rfl⟩
 | x::sp,hx,f=>by
  obtain⟨ob,s0,s1,g0,g1⟩:=hx x (bt ..);rw[bX,fits_cons] at f;have fit:cR (b * c) T (nX c x)≤(x.o - x.l) * c:=by
   rw[Int.sub_mul];exact f.1
  have k:=λd:Nat=>flr_wait (d:=d) hb (show(0:Int)<c by lia) ob s0 s1 g0 g1 fit
  obtain⟨a,e⟩:=flr_all hb h0 h1 sp (λy hy=>hx y (aw _ hy)) f.2;apply⟨λd=>fits_cons.mpr ⟨(k d).2,a d⟩,?_⟩;rw[bX,wait_cons,←e];have:(λd:Nat=>bU b (flr b c d T) (x::sp))=λd:Nat=>x.w * ((tm T x.s+cR (b * c) T (nX c x)+(d:Int)) / c - (tm T x.s+d) / c)+bU b (flr b c d T) sp:=funext λd=>by rw[wait_cons,(k d).1]
  rw[this,oV,sumT_rest _ _ h0 h1];rfl
theorem Tld.str {c:Nat}(N:ia b (n:Int) sp)(h0:1≤c)(h1:c≤4){o:Option (List Int)}(h:Tld b n sp o)(h':Tld (b * c) n (sp.map (nX c)) o'):wV (b * c) (sp.map (nX c)) 1 o'=wV b sp c o :=
 Tld.as (qT c) (fun _=>tab_str N ⋯) (fun t' h'=>by
  have l:t'.length=n:=h'.1;obtain ⟨a,e⟩:=flr_all N.b1 h0 h1 sp (fun x hx=>by
   have k:=N.all x hx;exact ⟨k.ob,k.s0,by rw [l];exact k.s1,k.g0,by rw [l];exact k.g1⟩) h'.2.2
  apply ⟨⟨_,a 0⟩,fun w hw=>?_⟩;rw [←e];exact sumT_le (fun d=>hw _ (a d)) c) h h'
end
theorem Tld.side {m1 m2:Int}(S:Sides b m1 m2 sp1 sp2){o1 o2 o:Option (List Int)}(h1:Tld b m1 sp1 o1)(h2:Tld b m2 sp2 o2)(h:Tld b (m1+m2) (sp1++sp2.map (jo m1)) o) :
  (∀t1 t2,o1=some t1→o2=some t2→∃t,o=some t∧bU b t (sp1++sp2.map (jo m1))=bU b t1 sp1+bU b t2 sp2)∧∀t,o=some t→fF b (t.take m1.toNat) sp1=true∧fF b (t.drop m1.toNat) sp2=true∧o1≠none∧o2≠none:=by
 have a1:=S.N1.m1;have a2:=S.N2.m1;have two:∀t,o=some t→fF b (t.take m1.toNat) sp1=true∧fF b (t.drop m1.toNat) sp2=true∧bU b t (sp1++sp2.map (jo m1))=bU b (t.take m1.toNat) sp1+bU b (t.drop m1.toNat) sp2:=λt e=>by
  subst e;obtain⟨⟨l,_,f⟩,_⟩:=h;have l1:((t.take m1.toNat).length:Int)=m1:=by rw[bw];lia
  have l2:((t.drop m1.toNat).length:Int)=m2:=by rw[d7];lia
  have et:=List.take_append_drop m1.toNat t;have F:=rG l1 (S.N1.rdy l1) (S.N2.rdy l2);have U:=oE l1 (S.N1.rdy l1) (S.N2.rdy l2);rw[et] at F U;rw[f] at F;have F:=(mW.mp F.symm);exact⟨F.1,F.2,U⟩
 apply⟨λt1 t2 e1 e2=>?_,λt e=>?_⟩
 ·subst e1 e2
  have l1:(t1.length:Int)=m1:=by have:=h1.1.1;lia
  have l2:(t2.length:Int)=m2:=by have:=h2.1.1;lia
  have F:=rG l1 (S.N1.rdy l1) (S.N2.rdy l2);have U:=oE l1 (S.N1.rdy l1) (S.N2.rdy l2);rw[h1.1.2.2,h2.1.2.2] at F;cases o with
  | none=>exact rW F (h _)
  | some t =>
   apply⟨t,rfl,?_⟩;obtain⟨f1,f2,u⟩:=two t rfl;have:=h1.2 _ f1;have:=h2.2 _ f2;have:=h.2 _ F;lia
 ·obtain⟨f1,f2,_⟩:=two t e
  apply⟨f1,f2,λz=>?_,λz=>?_⟩
  ·rw[z] at h1
   exact h1 _ f1
  ·rw[z] at h2
   exact h2 _ f2
abbrev sAsk:cJ:=top 79
abbrev sCar:cJ:=top 80
structure L4 (T0:ak)(p0:Pos)(q0:Str)(T1:ak)(p1:Pos)(q1:Str)(T2 T3:ak)(H:Hp):Prop where
 a:L2.LamT T0 p0 q0 H
 b:L2.LamT T1 p1 q1 H
 c:L2.LamT T2 lpT lqT H
 d:L2.LamG T3 lqB H
theorem L4.same {T2 T3:ak}(h:L4 T0 p0 q0 T1 p1 q1 T2 T3 H)(S:bC H H'):L4 T0 p0 q0 T1 p1 q1 T2 T3 H':=⟨LamT.same S h.a,LamT.same S h.b,LamT.same S h.c,h.d.same S⟩
def tabV (H:Hp)(tv:V):Option (List Int)→Prop
 | none=>tv= .non
 | some ts=>∃u,tv= .ref u∧H u=some (.tup (ts.map V.int))
structure Ans (H:Hp)(q:ak)(b m:Int)(sp:List Sn)(o:Option (List Int)):Prop where
 t:Tld b m sp o
 v:∃tv,H q=some (.tup [tv,wV b sp 1 o])∧tabV H tv o
theorem Ans.kp {q:ak}{m:Int}{o:Option (List Int)}(h:Ans H q b m sp o)(e:kr H H'):Ans H' q b m sp o:=by
 obtain⟨a,tv,c,d⟩:=h;apply⟨a,tv,e _ _ c,?_⟩;cases o with
 | none=>exact d
 | some ts=>obtain⟨u,x,y⟩:=d;exact⟨u,x,e _ _ y⟩
def Due (H:Hp)(b m:Int)(sp:List Sn)(vt vd:V):Prop:=vd= .non∨∃u ts,vt= .ref u∧H u=some (.tup (ts.map V.int))∧kU b m sp ts∧vd= .int (bU b ts sp)
inductive spAskQ (T0:ak)(p0:Pos)(q0:Str)(T1:ak)(p1:Pos)(q1:Str)(T2 T3:ak)(vs:List V)(H:Hp)(Q:VK)(_:XK):Prop
 | mk (v:V)(b m:Int)(sp:List Sn)(_:vs=[v])(_:IsD H v (jA b m sp))(_:ia b m sp)(_:(∀l,jh m.toNat sp l→hW sp l≤4096))(_:L4 T0 p0 q0 T1 p1 q1 T2 T3 H)(_:∀(q:ak) (H':Hp) (o:Option (List Int)),Kp H H'→L4 T0 p0 q0 T1 p1 q1 T2 T3 H'→Ans H' q b m sp o→Q (.ref q) H')
inductive spCar (vs:List V)(H:Hp)(Q:VK)(_:XK):Prop
 | mk (v vt vd:V)(q:ak)(b m:Int)(sp:List Sn)(o:Option (List Int))(_:vs=[v,.ref q,vt,vd])(_:IsD H v (jA b m sp))(_:ia b m sp)(_:Ans H q b m sp o)(_:Due H b m sp vt vd)(_:wV b sp 1 o=vd)(_:∀H',bC H H'→Q (.bl true) H')
theorem scAsk:bW pzz pzo (defScope sAsk):=by trivial
theorem ok_ask {TT T3:ak}(F:Fun K "_law_asked" "_law_asked" sAsk f fd)(G1:Fn K mg "best_for" lP pza f1 fd1)(F1:cG P w K mg base CX0 13 f1 fd1 pza (spBest T0 p0 q0 T1 p1 q1 TT T3)):cG P w K mg base CX0 14 f fd pzo (spAskQ T0 p0 q0 T1 p1 q1 TT T3):=by
 specialize F.ok scAsk;obtain ⟨v,b,m,sp,rfl,hv,N,cas,L,k⟩:=h;apply ⟨_,PSl.h (aZ ⟨(psZ 1 scAsk.nd (pc1 G1 F1 hr (ae (pv 0) aA)))⟩
  (aZ ⟨(ib (cT om (ixZ (pv 1)) nq (dI _)) (cL (cf (dh (ae jz (ae jz aA))))) dX)⟩
  (cW ⟨(cf (dh (ae (ixZ (pv 1)) (ae (ixZ (pv 1)) aA))))⟩))),?_⟩
 apply⟨_,rfl,v,b,m,sp,rfl,hv,N,cas,L.a,L.b,L.c,L.d,λq3 H3 kp a0 a1 a2 a3 ans=>?_⟩;have L3:L4 T0 p0 q0 T1 p1 q1 TT T3 H3:=⟨a0,a1,a2,a3⟩
 rcases ans with ⟨u,t,an⟩ | ⟨qt,ts,u,t,ba⟩
 ·apply⟨_,rfl,q3,_,_,_,rfl,rfl,SqT.of an.q,aB (j:=0) rfl,rfl,_,rfl,qQ (rX rfl) ?_⟩
  apply⟨oN,λq4 H4 S4 h4=>?_⟩;exact k q4 H4 none (kp.trans (bC.kp S4)) (L3.same S4) ⟨an.no,_,h4,rfl⟩
 ·apply⟨_,rfl,q3,_,_,_,rfl,rfl,SqT.of ba.q,aB (j:=0) rfl,rfl,_,rfl,lW rfl ?_⟩
  apply⟨_,rfl,q3,_,_,_,rfl,rfl,SqT.of ba.q,aB (j:=1) rfl,_,rfl,q3,_,_,_,rfl,rfl,SqT.of ba.q,aB (j:=2) rfl,oN,λq4 H4 S4 h4=>?_⟩;exact k q4 H4 (some ts) (kp.trans (bC.kp S4)) (L3.same S4) ⟨⟨ba.tab,ba.least⟩,_,by show _=some (HO.tup [_,.int (_ * 1)]);rw[gN];exact h4,qt,rfl,S4 _ _ ba.qt⟩
theorem scCar:bW pzA pzA (defScope sCar):=by trivial
theorem ok_car (F:Fun K "_law_carried" "_law_carried" sCar f fd)(G1:Fn K mg "_law_is_table" sIsTab pzz f1 fd1)(F1:cG P w K mg base CX0 1 f1 fd1 pzz spIsT)
  (G2:Fn K mg "_law_fits" sFitsN pzb f2 fd2) (F2:cG P w K mg base CX0 2 f2 fd2 pzb spFits)
  (G3:Fn K mg "_law_wait" sWaitN pzb f3 fd3) (F3:cG P w K mg base CX0 2 f3 fd3 pzb nc):cG P w K mg base CX0 3 f fd pzA spCar:=by
 specialize F.ok scCar;obtain ⟨v,vt,vd,q,b,m,sp,o,rfl,hv,N,an,due,ew,k⟩:=h;have hr1:iD 1 _:=hr.mono ↥0;apply ⟨_,PSl.h (aZ ⟨(ib (cT op_ne (ixZ (pv 1)) (pv 3) (dI _)) (cL (cf oP)) dX)⟩
  (aZ ⟨(ib (cT qr (pv 3) jz (dI _)) (cL (cf oP)) dX)⟩
  (cW ⟨(cf (pe_and (pc1 G1 F1 hr1 (ae (pv 0) (ae (pv 2) aA))) (pe_and (pc1 G2 F2 hr (ae (pv 0) (ae (pv 2) aA))) (pe_one (mH om (pc1 G3 F3 hr (ae (pv 0) (ae (pv 2) aA))) (pv 3) (dI _))))))⟩))),?_⟩
 obtain⟨tv,hq,_⟩:=an.v;rw[ew] at hq
 rcases due with rfl | ⟨u,ts,rfl,hu,tab,rfl⟩
 ·apply⟨_,rfl,q,_,_,_,rfl,rfl,SqT.of hq,aB (j:=1) rfl,_,rfl,rfl,_,rfl,lW (by rw[rX rfl];rfl) ?_⟩
  exact⟨_,rfl,rfl,_,rfl,qQ (rX rfl) (k H (bC.refl H))⟩
 ·have m1:=N.m1
  have lt:(ts.length:Int)=m:=by have:=tab.1;lia
  apply⟨_,rfl,q,_,_,_,rfl,rfl,SqT.of hq,aB (j:=1) rfl,_,rfl,rfl,_,rfl,lW (by rw[rX rfl];rfl) ?_⟩;apply⟨_,rfl,rfl,_,rfl,lW (rY nofun) ?_⟩;apply⟨_,rfl,_,rfl,v,u,b,m,sp,ts,rfl,hv,hu,lt,tab.2.1,_,rfl,qQ rfl ?_⟩;apply⟨_,rfl,_,rfl,v,u,b,m,sp,ts,rfl,hv,hu,N.rdy lt,λH4 S4=>⟨_,rfl,qQ tab.2.2 ?_⟩⟩;apply⟨_,rfl,_,rfl,v,u,b,m,sp,ts,rfl,hv.same S4,S4 _ _ hu,N.rdy lt,N.ws,λH5 S5=>⟨_,rfl,rfl,?_⟩⟩;have:=k H5 (S4.trans S5);show Q (V.bl (decide (V.int _=V.int _))) H5;rw[rX rfl];exact this
abbrev sWithSp:cJ:=top 11
theorem l9:PS X st (λ_ _ _=>False):=λ_ _ _ _ _ _ h=>h.elim
theorem scWithSp:bW ["net","more","spans"] ["net","more"] (defScope sWithSp):=by trivial
theorem ok_withSp (F:Fun K "with_spans" "with_spans" sWithSp f fd)(T:Nm mg)(CM:∃t,mg "MOST_SPANS" =some (.int 40 t)):cG P w K mg base CX0 1 f fd ["net","more"] spWithSp:=by
 specialize F.ok scWithSp;obtain⟨v,L,b,m,sp,more,zs,rfl,hv,hL,dz,few,k⟩:=h;obtain⟨t,p,ys,rfl,ht,hp,dy⟩:=netP_rows hv;have ly:ys.length=sp.length:=by rw[dy.length];unfold dO;rw[aa]
 have lz:zs.length=more.length:=by rw[dz.length];unfold dO;rw[aa]
 apply ⟨_,PSl.h (aZ ⟨(psZ 2 scWithSp.nd (cS oo (ixZ (pv 0)) (dk fU rfl T.ttup eX (ae (pv 1) aA))))⟩
  (aZ ⟨(ib (cT oQ (d5 dA rfl T.len cV (ae (pv 2) aA)) (pe_gint CM) (dI _)) (cL l9) dX)⟩
  (cW ⟨(cf (dh (ae (ixZ (pv 0)) (ae (ixZ (pv 0)) (ae (pv 2) aA)))))⟩))),?_⟩
 apply⟨_,rfl,t,_,_,_,rfl,rfl,SqT.of ht,aB (j:=2) rfl,_,rfl,L,_,rfl,SqL.of hL,λq1 H1 S1 h1=>?_⟩;apply⟨p,q1,_,_,rfl,rfl,S1 _ _ hp,h1,bj (by lia:ys.length+zs.length≤1000) ↥0,λq2 H2 S2 h2=>?_⟩;have S12:=S1.trans S2;have ht2:=S12 _ _ ht;apply⟨_,rfl,q2,_,rfl,.inr (SqT.of h2),_,_,rfl,rfl,_,rfl,lW (by apply rY ?_;rw[av];lia) ?_⟩;apply⟨_,rfl,t,_,_,_,rfl,rfl,SqT.of ht2,aB (j:=0) rfl,_,rfl,t,_,_,_,rfl,rfl,SqT.of ht2,aB (j:=1) rfl,_,rfl,(by show 3≤bo;decide),λq3 H3 S3 h3=>?_⟩;have S13:=S12.trans S3;apply k (.ref q3) H3 S13 (.tup h3 (.cons (.int b) (.cons (.int m) (.cons (.tup (S3 _ _ h2) ?_) .nil))));rw[ax];exact(dy.same S13).append (dz.same S13)
abbrev sNamed:cJ:=top 60
abbrev sSide:cJ:=top 65
theorem scNamed:bW pzp pzp (defScope sNamed):=by trivial
theorem ok_named (F:Fun K "span_named" "span_named" sNamed f fd):cG P w K mg base CX0 1 f fd pzp spNamed:=by
 specialize F.ok scNamed;obtain⟨q,L,x,js,rfl,hq,hL,s0,s1,g0,g1,k⟩:=h;apply⟨_,PSl.h (cW ⟨(cf (dh (ae (eM fP (pv 1) (ixZ (pv 0)) (λ_ _=>rfl)) (ae (eM fP (pv 1) (ixZ (pv 0)) (λ_ _=>rfl)) (ae (ixZ (pv 0)) (ae (ixZ (pv 0)) (ae (ixZ (pv 0)) aA)))))))⟩),?_⟩;exact⟨_,rfl,_,rfl,q,_,_,_,rfl,rfl,SqT.of hq,aB (j:=0) rfl,L,_,_,_,rfl,rfl,SqL.of hL,pO s0 s1,_,rfl,_,rfl,q,_,_,_,rfl,rfl,SqT.of hq,aB (j:=1) rfl,L,_,_,_,rfl,rfl,SqL.of hL,pO g0 g1,_,rfl,q,_,_,_,rfl,rfl,SqT.of hq,aB (j:=2) rfl,_,rfl,q,_,_,_,rfl,rfl,SqT.of hq,aB (j:=3) rfl,_,rfl,q,_,_,_,rfl,rfl,SqT.of hq,aB (j:=4) rfl,szZ5,λp H' S h=>k p H' S h⟩
theorem scSide:bW ["one","other","many","names"] pzv (defScope sSide):=by trivial
theorem ok_side (F:Fun K "side_by_side" "side_by_side" sSide f fd)(T:Nm mg)(T2:Nt mg)(CM:∃t,mg "MOST_SPANS" =some (.int 40 t))(CH:∃t,mg "MOST_HAPPENINGS" =some (.int 16 t))(G1:Fn K mg "span_named" sNamed pzp f1 fd1)(G2:Fn K mg "with_spans" sWithSp ["net","more"] f2 fd2):cG P w K mg base CX0 2 f fd pzv spSide:=by
 have F1:cG P w K mg base CX0 1 f1 fd1 pzp spNamed:=ok_named G1.F;have F2:cG P w K mg base CX0 1 f2 fd2 ["net","more"] spWithSp:=ok_withSp G2.F T CM;specialize F.ok scSide;obtain⟨v1,v2,b,m1,m2,sp1,sp2,rfl,hv1,hv2,B,k⟩:=h;obtain⟨t1,p1,ys1,rfl,ht1,hp1,dy1⟩:=netP_rows hv1;obtain⟨t2,p2,ys2,rfl,ht2,hp2,hl,hy⟩:=eU hv2;have ly1:ys1.length=sp1.length:=by rw[dy1.length];unfold dO;rw[aa]
 have few:=B.few;have hm:=B.m;have m11:=B.N1.m1;have m21:=B.N2.m1;apply ⟨_,PSl.h (aZ ⟨(ib (cT op_ne (ixZ (pv 0)) (ixZ (pv 1)) (dI _)) (cL l9) dX)⟩
  (aZ ⟨(psZ 2 scSide.nd (cS gh (ixZ (pv 0)) (ixZ (pv 1))))⟩
  (aZ ⟨(ib (cT oQ (pv 2) (pe_gint CH) (dI _)) (cL l9) dX)⟩
  (aZ ⟨(psZ 3 scSide.nd (dk (call_listR2 rfl) rfl T2.tlist boot_list (ae (dk call_rng2 rfl T2.range boot_range (ae (ixZ (pv 0)) (ae (pv 2) aA))) aA)))⟩
  (cW ⟨(cf (pc1 G2 F2 hr (ae (dh (ae (ixZ (pv 0)) (ae (pv 2) (ae (ixZ (pv 0)) aA)))) (ae (gm (fr:=["names"]) (js:=[3]) rfl (jj (ixZ (pv 1))) (by trivial) rfl (by trivial) rfl (by exists sSide) (by trivial) rfl (by trivial) (fun _ _ _ _ _=>⟨(pc1 G1 F1 hr (ae (pv 0) (ae (pv 1) aA))),fW⟩)) aA))))⟩))))),?_⟩
 apply⟨_,rfl,t1,_,_,_,rfl,rfl,SqT.of ht1,aB (j:=0) rfl,_,rfl,t2,_,_,_,rfl,rfl,SqT.of ht2,aB (j:=0) rfl,rfl,_,rfl,lW (by rw[rX rfl];rfl) ?_⟩;apply⟨_,rfl,t1,_,_,_,rfl,rfl,SqT.of ht1,aB (j:=1) rfl,_,rfl,t2,_,_,_,rfl,rfl,SqT.of ht2,aB (j:=1) rfl,_,_,rfl,rfl,?_⟩;apply⟨_,rfl,_,_,rfl,rfl,_,rfl,lW (by apply rY ?_;lia) ?_⟩;apply⟨_,rfl,t1,_,_,_,rfl,rfl,SqT.of ht1,aB (j:=1) rfl,_,rfl,m1,m1+m2,rfl,λq3 H3 S3 h3=>?_⟩;apply⟨q3,m1,m1+m2,m2.toNat,rfl,h3,⋯,⋯,⋯,⋯,λL hL=>?_⟩;have S4:bC H (upd H3 L (.lst ((aJ m2.toNat).map λk=>V.int (m1+(k:Nat))))):=S3.trans (bC.put (bC.refl H3) hL);have h4:(upd H3 L (.lst ((aJ m2.toNat).map λk=>V.int (m1+(k:Nat))))) L=some (.lst ((runL m1 m2.toNat).map V.int)):=by
  rw[aN];unfold runL;rw[cg];rfl
 generalize upd H3 L (.lst ((aJ m2.toNat).map λk=>V.int (m1+(k:Nat))))=H4 at S4 h4 ⊢;apply⟨_,rfl,t1,_,_,_,rfl,rfl,SqT.of (S4 _ _ ht1),aB (j:=0) rfl,_,rfl,_,rfl,t1,_,_,_,rfl,rfl,SqT.of (S4 _ _ ht1),aB (j:=2) rfl,(by show 3≤bo;decide),λq5 H5 S5 h5=>?_⟩;have S45:=S4.trans S5;apply⟨_,rfl,t2,_,_,_,rfl,rfl,SqT.of (S45 _ _ ht2),aB (j:=2) rfl,p2,rfl,⟨_,SqT.of (S45 _ _ hp2)⟩,?_⟩;apply iJ (K:=K) (a:=p2) (xs:=ys2) (λi zs H6=>bC H5 H6∧dW H6 zs (dO Sn.row ((sp2.take i).map (jo m1)))) ⟨bC.refl H5,.nil⟩ (λi zs H6 hi ⟨e1,e2⟩=>?_) (by rw[hl];exact dm ⋯) (λi x zs H6 hx ⟨e1,e2⟩=>?_) (λzs H6 ⟨e1,e2⟩ D hD=>?_)
 ·apply⟨SqT.of (e1 _ _ (S45 _ _ hp2)),?_⟩
  rw[e2.length];unfold dO;rw[aa,aa,bw];lia
 ·have hi:i<sp2.length:=by rw[←hl];exact(ao.mp hx).1
  obtain⟨q,hq,hq2⟩:=hy i sp2[i] (gE hi);rw[hx] at hq;cases hq;have ok:=B.N2.all sp2[i] (bH hi);have c1:sp2[i].s<((m2.toNat:Nat):Int):=by have:=ok.s1;lia
  have c2:sp2[i].g<((m2.toNat:Nat):Int):=by have:=ok.g1;lia
  apply eS ?_;apply⟨_,rfl,_,rfl,q,L,sp2[i],runL m1 m2.toNat,rfl,e1 _ _ (S45 _ _ hq2),e1 _ _ (S5 _ _ h4),ok.s0,by rw[runL_len];exact c1,ok.g0,by rw[runL_len];exact c2,λq7 H7 S7 h7=>⟨e1.trans S7,?_⟩⟩;rw[namS_run ok.s0 c1 ok.g0 c2] at h7;unfold dO;rw[aY,gE hi,ax,ax];exact(e2.same S7).append (.cons (.tup h7 (dW.ints (jo m1 sp2[i]).row)) .nil)
 ·rw[hl,aX] at e2
  have S6:bC H5 (upd H6 D (.lst zs)):=e1.put hD;have S06:=S45.trans S6;exact⟨.ref q5,D,b,m1+m2,sp1,sp2.map (jo m1),zs,rfl,.tup (S6 _ _ h5) (.cons (.int b) (.cons (.int _) (.cons (.tup (S06 _ _ hp1) (dy1.same S06)) .nil))),aN,e2.same (bC.put (bC.refl H6) hD),by rw[aa];exact few,λu H' S' h'=>k u H' (S06.trans S') h'⟩
abbrev sBoth:cJ:=top 83
inductive spBoth (T0:ak)(p0:Pos)(q0:Str)(T1:ak)(p1:Pos)(q1:Str)(T2 T3:ak)(vs:List V)(H:Hp)(Q:VK)(_:XK):Prop
 | mk (v1 v2:V)(b m1 m2:Int)(sp1 sp2:List Sn)(_:vs=[v1,v2])(_:IsD H v1 (jA b m1 sp1))(_:IsD H v2 (jA b m2 sp2))(_:Sides b m1 m2 sp1 sp2)(_:(∀l,jh m1.toNat sp1 l→hW sp1 l≤4096))(_:(∀l,jh m2.toNat sp2 l→hW sp2 l≤4096))(_:(∀l,jh (m1+m2).toNat (sp1++sp2.map (jo m1)) l→hW (sp1++sp2.map (jo m1)) l≤4096))(_:L4 T0 p0 q0 T1 p1 q1 T2 T3 H)(_:∀H',Q (.bl true) H')
theorem scBoth:bW ["_law_net_here","_law_other_here","_law_whole","_law_told","_law_one","_law_two"] pzO (defScope sBoth):=by trivial
theorem ok_both {TT T3:ak}(F:Fun K "_law_both" "_law_both" sBoth f fd)(G1:Fn K mg "side_by_side" sSide pzv f1 fd1)(F1:cG P w K mg base CX0 2 f1 fd1 pzv spSide)
  (G2:Fn K mg "_law_asked" sAsk pzo f2 fd2) (F2:cG P w K mg base CX0 14 f2 fd2 pzo (spAskQ T0 p0 q0 T1 p1 q1 TT T3))
  (G3:Fn K mg "_law_fits" sFitsN pzb f3 fd3) (F3:cG P w K mg base CX0 2 f3 fd3 pzb spFits):cG P w K mg base CX0 15 f fd pzO (spBoth T0 p0 q0 T1 p1 q1 TT T3):=by
 specialize F.ok scBoth;obtain ⟨v1,v2,b,m1,m2,sp1,sp2,rfl,hv1,hv2,S,f1,f2,f3,L,k⟩:=h;have hr2:iD 2 _:=hr.mono ↥0;have hr14:iD 14 _:=hr.mono ↥0;apply ⟨_,PSl.h (aZ ⟨(psZ 2 scBoth.nd (pc1 G1 F1 hr2 (ae (pv 0) (ae (pv 1) aA))))⟩
  (aZ ⟨(psZ 3 scBoth.nd (pc1 G2 F2 hr14 (ae (pv 2) aA)))⟩
  (aZ ⟨(psZ 4 scBoth.nd (ixZ (pc1 G2 F2 hr14 (ae (pv 0) aA))))⟩
  (aZ ⟨(psZ 5 scBoth.nd (ixZ (pc1 G2 F2 hr14 (ae (pv 1) aA))))⟩
  (aZ ⟨(ib (PW.pt (pw_or (cT qr (pv 4) jz (dI _)) (pw_or1 (cT qr (pv 5) jz (dI _))))) (cL (cf (mH qr (ixZ (pv 3)) jz (dI _)))) dX)⟩
  (aZ ⟨(ib (cT op_ne (ixZ (pv 3)) (cS gh (pv 4) (pv 5)) (dI _)) (cL (cf oP)) dX)⟩
  (cW ⟨(cf (pe_and (pc1 G3 F3 hr2 (ae (pv 0) (ae (pH sl_tupN (ixZ (pv 3)) po_none (po_some (ixZ (pv 0)))) aA))) (pe_one (pc1 G3 F3 hr2 (ae (pv 1) (ae (pH sl_tupN (ixZ (pv 3)) (po_some (ixZ (pv 0))) po_none) aA))))))⟩))))))),?_⟩
 apply⟨_,rfl,_,rfl,v1,v2,b,m1,m2,sp1,sp2,rfl,hv1,hv2,S,λu H1 S1 hu=>?_⟩;apply⟨_,rfl,u,b,_,_,rfl,hu,ia.side S,f3,L.same S1,λq H2 o kp2 L2 an=>?_⟩;have K2:=(bC.kp S1).trans kp2;apply⟨_,rfl,v1,b,m1,sp1,rfl,cq K2.tup hv1,S.N1,f1,L2,λq1 H3 o1 kp3 L3 an1=>?_⟩;have K3:=K2.trans kp3;obtain⟨tv1,hq1,_⟩:=an1.v;apply⟨q1,_,_,_,rfl,rfl,SqT.of hq1,aB (j:=1) rfl,?_⟩;apply⟨_,rfl,v2,b,m2,sp2,rfl,cq K3.tup hv2,S.N2,f2,L3,λq2 H4 o2 kp4 L4' an2=>?_⟩;have K4:=K3.trans kp4;obtain⟨tv2,hq2,_⟩:=an2.v;apply⟨q2,_,_,_,rfl,rfl,SqT.of hq2,aB (j:=1) rfl,?_⟩;have an:=an.kp (kp3.trans kp4).tup;obtain⟨tv,hq,tq⟩:=an.v;obtain⟨A1,A2⟩:=Tld.side S an1.t an2.t an.t;have no:(o1=none∨o2=none)→o=none:=λz=>by
  cases o with
  | none=>rfl
  | some t =>
   obtain⟨_,_,c,d⟩:=A2 t rfl
   rcases z with z | z
   ·exact rW z c
   ·exact rW z d
 cases o1 with
 | none =>
  have:=no (.inl rfl);subst this;apply⟨_,rfl,rfl,_,rfl,qQ (rX rfl) ?_⟩;exact⟨_,rfl,q,_,_,_,rfl,rfl,SqT.of hq,aB (j:=1) rfl,rfl,k H4⟩
 | some t1 =>
 cases o2 with
 | none =>
  have:=no (.inr rfl);subst this;apply⟨_,rfl,rfl,_,rfl,lW (rY nofun) ?_⟩;apply⟨_,rfl,rfl,_,rfl,qQ (rX rfl) ?_⟩;exact⟨_,rfl,q,_,_,_,rfl,rfl,SqT.of hq,aB (j:=1) rfl,rfl,k H4⟩
 | some t2 =>
 obtain⟨t,rfl,ew⟩:=A1 t1 t2 rfl rfl;obtain⟨x1,x2,_⟩:=A2 t rfl;obtain⟨ut,rfl,hut⟩:=tq;have tab:kU b (m1+m2) _ t:=an.t.1;have n1:=S.N1.m1;have n2:=S.N2.m1;have lt:=tab.1;apply⟨_,rfl,rfl,_,rfl,lW (rY nofun) ?_⟩;apply⟨_,rfl,rfl,_,rfl,lW (rY nofun) ?_⟩;apply⟨_,rfl,q,_,_,_,rfl,rfl,SqT.of hq,aB (j:=1) rfl,_,rfl,_,rfl,_,_,rfl,rfl,rfl,_,rfl,lW ?_ ?_⟩
 ·rw[rX (by show V.int (_ * 1)=V.int (_ * 1+_ * 1);rw[gN,gN,gN,ew])]
  rfl
 have K4':=K4.tup;have hv1':=cq K4' hv1;have hv2':=cq K4' hv2;obtain⟨a1,_,_,rfl,ha1,_⟩:=eU hv1';have em:m1=((m1.toNat:Nat):Int):=by lia
 apply⟨_,rfl,_,rfl,q,_,_,_,rfl,rfl,SqT.of hq,aB (j:=0) rfl,_,rfl,a1,_,_,_,rfl,rfl,SqT.of ha1,aB (j:=1) rfl,m1,rfl,ut,_,rfl,hut,λq5 H5 S5 h5=>?_⟩;rw[cutU em,←List.map_take] at h5;have l1:((t.take m1.toNat).length:Int)=m1:=by rw[bw];lia
 have l2:((t.drop m1.toNat).length:Int)=m2:=by rw[d7];lia
 apply⟨.ref a1,q5,b,m1,sp1,_,rfl,hv1'.same S5,h5,S.N1.rdy l1,λH6 S6=>⟨_,rfl,qQ x1 ?_⟩⟩;have S56:=S5.trans S6;apply⟨_,rfl,_,rfl,q,_,_,_,rfl,rfl,SqT.of (S56 _ _ hq),aB (j:=0) rfl,_,rfl,a1,_,_,_,rfl,rfl,SqT.of (S56 _ _ ha1),aB (j:=1) rfl,m1,rfl,ut,_,rfl,S56 _ _ hut,λq7 H7 S7 h7=>?_⟩;rw[cutF em,←List.map_drop] at h7;apply⟨v2,q7,b,m2,sp2,_,rfl,hv2'.same (S56.trans S7),h7,S.N2.rdy l2,λH8 S8=>?_⟩;rw[x2];exact k H8
inductive spSpanH (vs:List V)(H:Hp)(Q:VK)(_:XK):Prop
 | mk (p tq e:ak)(n b s g wd:Int)(ts:List Int)(kb:Bool)(_:vs=[.ref p,.ref tq,.int b,.ref e,.int wd,.bl kb])(_:H p=some (.lst [.int n]))(_:H tq=some (.lst (ts.map V.int)))(_:tq≠p)(_:H e=some (.tup [.int s,.int g]))(_:1≤b)(_:b≤10 ^ 40)(_:ts.length≤16)(_:0≤s)(_:s<ts.length)(_:0≤g)(_:g<ts.length)(_:s≠g)(_:0≤wd)(_:wd<b)(_:∀(t:ak) (x:Sn) (H':Hp),H t=none→Mv p H H'→H' t=some (.tup [.int x.s,.int x.g,.int x.l,.int x.o,.int x.w])→SnW b ts.length x→x.o - x.l=wd→(kb=true→cR b ts x≤x.o - x.l)→x.s=s→x.g=g→Q (.ref t) H')
abbrev sSpanH:cJ:=top 71
theorem mB:bW ["_law_pot_here","_law_times","_law_beat","_law_ends","_law_width","_law_kept","_law_start","_law_goal","_law_least","_law_weight"] pzr (defScope sSpanH):=by trivial
theorem ok_spanH (F:Fun K "_law_span" "_law_span" sSpanH f fd)(G1:Fn K mg "_law_take" sTake pzf f1 fd1):cG P w K mg base CX0 2 f fd pzr spSpanH:=by
 have F1:cG P w K mg base CX0 1 f1 fd1 pzf oF:=mJ G1.F;apply F.ok mB (by contradiction) (fun cdv A outer st0 H vs Q E hr h=>?_);obtain ⟨p,tq,e,n,b,s,g,wd,ts,kb,rfl,hp,htq,ntp,he,b1,b2,few,s0,s1,g0,g1,sg,w0,w1,k⟩:=h;apply ⟨_,PSl.h (aZ ⟨(ps_asg (pv 3) (rm rfl (iI (pgZ 6 mB.nd) (iI (pgZ 7 mB.nd) oi))))⟩
  (aZ ⟨(psZ 8 mB.nd (pc1 G1 F1 hr (ae (pv 0) (ae (pv 2) aA))))⟩
  (aZ ⟨(lQ (ib (mr (pv 5)) (cL (psZ 8 mB.nd (cS lI (cS kB (cS kB (eM fP (pv 1) (pv 7) (fun _ _=>rfl)) (eM fP (pv 1) (pv 6) (fun _ _=>rfl))) (cS lI (pv 8) (cS gh (pv 4) bI))) (pv 2)))) dX))⟩
  (aZ ⟨(psZ 8 mB.nd (cS gh (pv 8) (cS jk (pv 2) (PEs.h (k_ix fP (k_lstF (gG kN (gG kN (gG kN (gG ⟨pc1 G1 F1 hr (ae (pv 0) (ae (cS op_pow bI bI) aA))⟩ a_nil))))) ⟨pc1 G1 F1 hr (ae (pv 0) (ae bI aA))⟩ (fun _ _=>rfl))))))⟩
  (aZ ⟨(psZ 9 mB.nd (PEs.h (k_lstF (gG kN (gG kN (gG ⟨pc1 G1 F1 hr (ae (pv 0) (ae bI aA))⟩ (gG ⟨pc1 G1 F1 hr (ae (pv 0) (ae (cS gh (cS op_pow bI bI) bI) aA))⟩ a_nil)))))))⟩
  (cW ⟨(cf (pe_tup (ae (pv 6) (ae (pv 7) (ae (pv 8) (ae (cS gh (pv 8) (pv 4)) (ae (eM fP (pv 9) (pc1 G1 F1 hr (ae (pv 0) (ae bI aA))) (fun _ _=>rfl)) aA)))))))⟩)))))),?_⟩
 apply⟨_,rfl,e,_,rfl,SqT.of he,rfl,_,_,rfl,_,_,rfl,rfl,?_⟩;apply⟨_,rfl,_,rfl,p,n,b,rfl,hp,⋯,⋯,λr1 H1 a1 c1 M1=>?_⟩;have ht1:=M1.at htq ntp;apply⟨λσ' H'=>Mv p H H'∧∃l,0≤l∧l<b∧(kb=true→∃r,l=(tm ts g - tm ts s - r % (wd+1)) % b)∧σ'=[some (.ref p),some (.ref tq),some (.int b),some (.ref e),some (.int wd),some (.bl kb),some (.int s),some (.int g),some (.int l),none],?_,?_⟩
 rotate_left
 ·apply⟨_,rfl,_,rfl,?_⟩
  apply ite2 (λ_=>?_) (λhk=>⟨M1,r1,a1,c1,λz=>rW z hk,rfl⟩);apply⟨_,rfl,_,rfl,tq,_,_,_,rfl,rfl,SqL.of ht1,pO g0 g1,_,rfl,_,rfl,tq,_,_,_,rfl,rfl,SqL.of ht1,pO s0 s1,_,_,rfl,rfl,_,rfl,_,rfl,_,_,rfl,rfl,_,_,rfl,rfl,(by show(0:Int)<wd+1;lia),_,_,rfl,rfl,_,rfl,_,_,rfl,rfl,(by show(0:Int)<b;lia),?_⟩;exact⟨M1,_,dJ _ ⋯,dv _ ⋯,λ_=>⟨r1,rfl⟩,rfl⟩
 rintro σ' HC ⟨MC,l,l0,l1,hkl,rfl⟩;obtain⟨nC,hpC⟩:=MC.2;apply⟨_,rfl,_,rfl,_,rfl,_,_,rfl,rfl,⟨↥0,↥0,↥0⟩,p,_,_,rfl,hpC,↥0,↥0,λrD HD aD cD MD=>⟨szZ4,λqE hqE=>?_⟩⟩;have MD:=MC.trans MD;have cD:rD<10 ^ 9:=cD;have nqE:=MD.ne hqE;have ME:=MD.new (o:= .lst [.int 0,.int 0,.int 1,.int rD]) hqE;have hE:(upd HD qE (.lst [.int 0,.int 0,.int 1,.int rD])) qE=some (.lst [.int 0,.int 0,.int 1,.int rD]):=aN;obtain⟨nE,hpE⟩:=ME.2;apply⟨_,rfl,p,_,4,rfl,hpE,↥0,↥0,λrF HF aF cF MF=>?_⟩;have hF:=MF.at hE nqE;have MF:=ME.trans MF;clear ME hE hpE;obtain⟨vF,eF,mF⟩:=atI_in (xs:=[V.int 0,V.int 0,V.int 1,V.int rD]) aF cF;obtain⟨j,rfl,j0,j1⟩:∃i,vF=V.int i∧0≤i∧i≤10 ^ 9:=by
  simp only[aE,cU,or_false] at mF
  rcases mF with rfl | rfl | rfl | rfl
  ·exact⟨_,rfl,↥0,↥0⟩
  ·exact⟨_,rfl,↥0,↥0⟩
  ·exact⟨_,rfl,↥0,↥0⟩
  ·exact⟨_,rfl,⋯,⋯⟩
 apply⟨qE,_,_,_,rfl,rfl,SqL.of hF,eF,_,_,rfl,rfl,.inr ⟨⋯,⋯⟩,_,_,rfl,rfl,?_⟩;have bn0:0≤b * j:=Int.mul_nonneg ⋯ j0;have bn1:b * j≤10 ^ 40 * 10 ^ 9:=i7 b2 j1 j0 ↥0;obtain⟨nF,hpF⟩:=MF.2;apply⟨_,rfl,p,_,10,rfl,hpF,↥0,↥0,λrH HH aH cH MH=>?_⟩;have MH:=MF.trans MH;obtain⟨nH,hpH⟩:=MH.2;apply⟨_,rfl,_,_,rfl,rfl,⟨↥0,↥0,↥0⟩,_,_,rfl,rfl,p,_,_,rfl,hpH,↥0,↥0,λrI HI aI cI MI=>⟨szZ4,λqJ hqJ=>?_⟩⟩;have MI:=MH.trans MI;have cI:rI<10 ^ 12+1:=cI;have nqJ:=MI.ne hqJ;have MJ:=MI.new (o:= .lst [.int 0,.int 1,.int rH,.int rI]) hqJ;have hJ:(upd HI qJ (.lst [.int 0,.int 1,.int rH,.int rI])) qJ=some (.lst [.int 0,.int 1,.int rH,.int rI]):=aN;obtain⟨nJ,hpJ⟩:=MJ.2;apply⟨_,rfl,_,rfl,_,rfl,_,rfl,_,rfl,_,_,rfl,rfl,_,rfl,_,rfl,p,_,4,rfl,hpJ,↥0,↥0,λrK HK aK cK MK=>?_⟩;have hK:=MK.at hJ nqJ;have MK:=MJ.trans MK;clear MJ hJ hpJ;obtain⟨vK,eK,mK⟩:=atI_in (xs:=[V.int 0,V.int 1,V.int rH,V.int rI]) aK cK;obtain⟨wt,rfl,t0,t1⟩:∃i,vK=V.int i∧0≤i∧i≤1000000000000:=by
  simp only[aE,cU,or_false] at mK
  rcases mK with rfl | rfl | rfl | rfl
  ·exact⟨_,rfl,↥0,↥0⟩
  ·exact⟨_,rfl,↥0,↥0⟩
  ·exact⟨_,rfl,⋯,⋯⟩
  ·exact⟨_,rfl,⋯,⋯⟩
 apply⟨qJ,_,_,_,rfl,rfl,SqL.of hK,eK,szZ5,λt ht=>?_⟩;have ntp:=MK.ne ht;have htH:H t=none:=by
  cases z:H t with
  | none=>rfl
  | some o=>rw[MK.1 t o ntp z] at ht;cases ht
 apply k t ⟨s,g,l+b * j,l+b * j+wd,wt⟩ _ htH (MK.new ht) aN ⟨⟨s0,s1,g0,g1,sg,by show 0≤l+b * j;lia,by show l+b * j≤l+b * j+wd;lia,by show l+b * j+wd<l+b * j+b;lia,by show l+b * j+wd<10 ^ 60;lia,t0,t1⟩,by show l+b * j+wd<10 ^ 55;lia⟩ (by show l+b * j+wd - (l+b * j)=wd;lia) (λz=>?_) rfl rfl;obtain⟨r,hr'⟩:=hkl z;show cR b ts _≤l+b * j+wd - (l+b * j);rw[show l+b * j+wd - (l+b * j)=wd by lia];exact kept_wait (r:=r) (j:=j) b1 w0 w1 (by rw[hr']) rfl
inductive spTied (vs:List V)(H:Hp)(Q:VK)(_:XK):Prop
 | mk (p tq:ak)(n b j lim so:Int)(ts:List Int)(_:vs=[.ref p,.ref tq,.int b,.int j,.int lim,.int so])(_:H p=some (.lst [.int n]))(_:H tq=some (.lst (ts.map V.int)))(_:tq≠p)(_:1≤b)(_:b≤10 ^ 40)(_:ts.length≤16)(_:1≤j)(_:j<ts.length)(_:1≤lim)(_:lim≤1000)(_:∀(t:ak) (x:Sn) (H':Hp),H t=none→t≠p→Mv p H H'→H' t=some (.tup [.int x.s,.int x.g,.int x.l,.int x.o,.int x.w])→SnW b ts.length x→x.o - x.l≤lim - 1→(decide (so≤0)=true→cR b ts x≤x.o - x.l)→((x.s=j∧0≤x.g∧x.g<j)∨(x.g=j∧0≤x.s∧x.s<j))→Q (.ref t) H')
inductive spMore (vs:List V)(H:Hp)(Q:VK)(_:XK):Prop
 | mk (p tq:ak)(n b mo so:Int)(ts:List Int)(_:vs=[.ref p,.ref tq,.int b,.int mo,.int so])(_:H p=some (.lst [.int n]))(_:H tq=some (.lst (ts.map V.int)))(_:tq≠p)(_:1≤b)(_:b≤10 ^ 40)(_:ts.length≤16)(_:2≤ts.length)(_:0≤mo)(_:∀(t:ak) (x:Sn) (H':Hp),H t=none→t≠p→Mv p H H'→H' t=some (.tup [.int x.s,.int x.g,.int x.l,.int x.o,.int x.w])→SnW b ts.length x→x.o - x.l≤mo→(decide (so≤0)=true→cR b ts x≤x.o - x.l)→Q (.ref t) H')
theorem Mv.none {p t:ak}{H H1:Hp}(M:Mv p H H1)(ht:H1 t=none):H t=none∧t≠p:=by
 have ntp:=M.ne ht;apply⟨?_,ntp⟩;cases z:H t with
 | none=>rfl
 | some o=>rw[M.1 t o ntp z] at ht;cases ht
abbrev sTied:cJ:=top 72
abbrev sMore:cJ:=top 73
theorem scTied:bW ["_law_pot_here","_law_times","_law_beat","_law_k","_law_lim","_law_spoils","_law_width","_law_other_here","_law_ends"] pzs (defScope sTied):=by trivial
theorem ok_tied (F:Fun K "_law_tied" "_law_tied" sTied f fd)(T:Nm mg)(G1:Fn K mg "_law_take" sTake pzf f1 fd1)(G2:Fn K mg "_law_span" sSpanH pzr f2 fd2):cG P w K mg base CX0 3 f fd pzs spTied:=by
 have F1:cG P w K mg base CX0 1 f1 fd1 pzf oF:=mJ G1.F;have F2:cG P w K mg base CX0 2 f2 fd2 pzr spSpanH:=ok_spanH G2.F G1;apply F.ok scTied (by contradiction) (fun cdv A outer st0 H vs Q E hr h=>?_);obtain ⟨p,tq,n,b,j,lim,so,ts,rfl,hp,htq,ntp,b1,b2,few,j1,j2,m1,m2,k⟩:=h;have hr1:iD 1 _:=hr.mono ↥0;apply ⟨_,PSl.h (aZ ⟨(psZ 6 scTied.nd (d5 (call_min2 rfl) rfl T.min boot_min (ae (pc1 G1 F1 hr1 (ae (pv 0) (ae (pv 4) aA))) (ae (cS kB (pv 2) bI) aA))))⟩
  (aZ ⟨(psZ 7 scTied.nd (pc1 G1 F1 hr1 (ae (pv 0) (ae (pv 3) aA))))⟩
  (aZ ⟨(psZ 8 scTied.nd (PEs.h (k_ix fP (k_lstF (gG ⟨dh (ae (pv 7) (ae (pv 3) aA))⟩ (gG ⟨dh (ae (pv 3) (ae (pv 7) aA))⟩ a_nil))) ⟨pc1 G1 F1 hr1 (ae (pv 0) (ae bI aA))⟩ (fun _ _=>rfl))))⟩
  (cW ⟨(cf (pc1 G2 F2 hr (ae (pv 0) (ae (pv 1) (ae (pv 2) (ae (pv 8) (ae (pv 6) (ae (mH op_ge (pc1 G1 F1 hr1 (ae (pv 0) (ae bI aA))) (pv 5) (dI _)) aA))))))))⟩)))),?_⟩
 apply⟨_,rfl,_,rfl,p,n,lim,rfl,hp,⋯,⋯,λr1 H1 a1 c1 M1=>⟨_,rfl,_,_,rfl,rfl,_,_,rfl,?_⟩⟩;obtain⟨n1,hp1⟩:=M1.2;obtain⟨wd,hwd,wd0,wd1,wd2⟩:∃wd,wd=(if b - 1<r1 then b - 1 else r1)∧0≤wd∧wd<b∧wd≤lim - 1:=⟨_,rfl,by split <;> lia,by split <;> lia,by split <;> lia⟩;rw[←hwd];clear hwd;apply⟨_,rfl,_,rfl,p,n1,j,rfl,hp1,⋯,⋯,λr2 H2 a2 c2 M2=>?_⟩;have M2:=M1.trans M2;apply⟨_,rfl,_,rfl,oN,λt1 H3 S3 h3=>?_⟩;apply⟨_,rfl,_,rfl,oN,λt2 H4 S4 h4=>⟨oN,λq hq=>?_⟩⟩;have M4:=M2.then (S3.trans S4);have h3:=S4 _ _ h3;have nqp:=M4.ne hq;have S5:bC H4 (upd H4 q (.lst [.ref t1,.ref t2])):=bC.put (bC.refl H4) hq;have h5:(upd H4 q (.lst [.ref t1,.ref t2])) q=some (.lst [.ref t1,.ref t2]):=aN;generalize upd H4 q (.lst [.ref t1,.ref t2])=H5 at S5 h5 ⊢;have M5:=M4.then S5;obtain⟨n5,hp5⟩:=M5.2;apply⟨_,rfl,p,n5,2,rfl,hp5,↥0,↥0,λr6 H6 a6 c6 M6=>?_⟩;have h6:=M6.at h5 nqp;have h36:=Mv.tupK hp5 M6 _ _ (S5 _ _ h3);have h46:=Mv.tupK hp5 M6 _ _ (S5 _ _ h4);have M6:=M5.trans M6;have fin:∀(e:ak) (s g:Int),H6 e=some (.tup [.int s,.int g])→0≤s→s<ts.length→0≤g→g<ts.length→s≠g→((s=j∧0≤g∧g<j)∨(g=j∧0≤s∧s<j))→∀(r7:Int) (H7:Hp),Mv p H6 H7→0≤r7→∀E',spSpanH [.ref p,.ref tq,.int b,.ref e,.int wd,.bl (decide (r7 ≥ so))] H7 Q E':=by
  intro e s g he s0 s1 g0 g1 sg sj r7 H7 M7 r70 _;obtain⟨n6,hp6⟩:=M6.2;have he7:=Mv.tupK hp6 M7 _ _ he;have M7:=M6.trans M7;obtain⟨n7,hp7⟩:=M7.2;apply⟨p,tq,e,n7,b,s,g,wd,ts,_,rfl,hp7,M7.at htq ntp,ntp,he7,b1,b2,few,s0,s1,g0,g1,sg,wd0,wd1,λt x H8 ht M8 h8 ok ew kw es eg=>?_⟩;obtain⟨y1,y2⟩:=M7.none ht;apply k t x H8 y1 y2 (M7.trans M8) h8 ok ⋯ (λz=>kw (rX (by have:=rZ z;lia))) ?_;rw[es,eg];exact sj
 have c6:r6<2:=c6;have r6e:r6=0∨r6=1:=by lia
 obtain⟨n6,hp6⟩:=M6.2
 rcases r6e with rfl | rfl
 ·apply⟨q,_,_,_,rfl,rfl,SqL.of h6,aB (j:=0) rfl,?_⟩
  apply⟨_,rfl,_,rfl,_,rfl,_,rfl,_,rfl,_,rfl,p,n6,16,rfl,hp6,↥0,↥0,λr7 H7 a7 c7 M7=>⟨_,rfl,_,_,rfl,rfl,?_⟩⟩;exact fin t1 r2 j h36 a2 ⋯ ⋯ j2 ⋯ (.inr ⟨rfl,a2,c2⟩) r7 H7 M7 a7 E0
 ·apply⟨q,_,_,_,rfl,rfl,SqL.of h6,aB (j:=1) rfl,?_⟩
  apply⟨_,rfl,_,rfl,_,rfl,_,rfl,_,rfl,_,rfl,p,n6,16,rfl,hp6,↥0,↥0,λr7 H7 a7 c7 M7=>⟨_,rfl,_,_,rfl,rfl,?_⟩⟩;exact fin t2 j r2 h46 ⋯ j2 a2 ⋯ ⋯ (.inl ⟨rfl,a2,c2⟩) r7 H7 M7 a7 E0
theorem rf:bW ["_law_pot_here","_law_times","_law_beat","_law_most","_law_spoils","_law_many","_law_start","_law_goal","_law_width"] pzt (defScope sMore):=by trivial
theorem ok_more (F:Fun K "_law_more" "_law_more" sMore f fd)(T:Nm mg)(G1:Fn K mg "_law_take" sTake pzf f1 fd1)(G2:Fn K mg "_law_span" sSpanH pzr f2 fd2):cG P w K mg base CX0 3 f fd pzt spMore:=by
 have F1:cG P w K mg base CX0 1 f1 fd1 pzf oF:=mJ G1.F;have F2:cG P w K mg base CX0 2 f2 fd2 pzr spSpanH:=ok_spanH G2.F G1;apply F.ok rf (by contradiction) (fun cdv A outer st0 H vs Q E hr h=>?_);obtain ⟨p,tq,n,b,mo,so,ts,rfl,hp,htq,ntp,b1,b2,few,m2,mo0,k⟩:=h;have hr1:iD 1 _:=hr.mono ↥0;apply ⟨_,PSl.h (aZ ⟨(psZ 5 rf.nd (d5 dA rfl T.len cV (ae (pv 1) aA)))⟩
  (aZ ⟨(psZ 6 rf.nd (pc1 G1 F1 hr1 (ae (pv 0) (ae (pv 5) aA))))⟩
  (aZ ⟨(psZ 7 rf.nd (cS lI (cS gh (cS gh (pv 6) bI) (pc1 G1 F1 hr1 (ae (pv 0) (ae (cS kB (pv 5) bI) aA)))) (pv 5)))⟩
  (aZ ⟨(psZ 8 rf.nd (PEs.h (k_ix fP (k_lstF (gG kN (gG ⟨pc1 G1 F1 hr1 (ae (pv 0) (ae bI aA))⟩ (gG ⟨pc1 G1 F1 hr1 (ae (pv 0) (ae (pv 2) aA))⟩ (gG (k_op kB ⟨pv 2⟩ kN) (gG ⟨pc1 G1 F1 hr1 (ae (pv 0) (ae bI aA))⟩ a_nil)))))) ⟨pc1 G1 F1 hr1 (ae (pv 0) (ae bI aA))⟩ (fun _ _=>rfl))))⟩
  (aZ ⟨(psZ 8 rf.nd (d5 (call_min3 rfl) rfl T.min boot_min (ae (pv 8) (ae (pv 3) (ae (cS kB (pv 2) bI) aA)))))⟩
  (cW ⟨(cf (pc1 G2 F2 hr (ae (pv 0) (ae (pv 1) (ae (pv 2) (ae (dh (ae (pv 6) (ae (pv 7) aA))) (ae (pv 8) (ae (mH op_ge (pc1 G1 F1 hr1 (ae (pv 0) (ae bI aA))) (pv 4) (dI _)) aA))))))))⟩)))))),?_⟩
 apply⟨_,rfl,tq,_,rfl,.inl (SqL.of htq),?_⟩;rw[aa];obtain⟨m,em⟩:∃m:Int,m=(ts.length:Int):=⟨_,rfl⟩;rw[←em];apply⟨_,rfl,_,rfl,p,n,m,rfl,hp,⋯,⋯,λr1 H1 a1 c1 M1=>?_⟩;obtain⟨n1,hp1⟩:=M1.2;apply⟨_,rfl,_,_,rfl,rfl,_,rfl,_,rfl,_,_,rfl,rfl,p,n1,_,rfl,hp1,⋯,⋯,λr2 H2 a2 c2 M2=>?_⟩;have M2:=M1.trans M2;obtain⟨n2,hp2⟩:=M2.2;apply⟨_,_,rfl,rfl,_,rfl,_,_,rfl,rfl,(by show(0:Int)<m;lia),?_⟩;obtain⟨g0,g1,g2⟩:=goal_ok a1 c1 a2 c2;generalize hg:(r1+1+r2) % m=g at g0 g1 g2 ⊢;apply⟨_,rfl,p,n2,4,rfl,hp2,↥0,↥0,λr3 H3 a3 c3 M3=>?_⟩;have M3:=M2.trans M3;obtain⟨n3,hp3⟩:=M3.2;apply⟨_,rfl,_,rfl,p,n3,b,rfl,hp3,⋯,⋯,λr4 H4 a4 c4 M4=>?_⟩;have M4:=M3.trans M4;obtain⟨n4,hp4⟩:=M4.2;apply⟨_,rfl,_,_,rfl,rfl,_,rfl,p,n4,2,rfl,hp4,↥0,↥0,λr5 H5 a5 c5 M5=>⟨szZ5,λq hq=>?_⟩⟩;have M5:=M4.trans M5;have nqp:=M5.ne hq;have S6:bC H5 (upd H5 q (.lst [.int 0,.int r3,.int r4,.int (b - 1),.int r5])):=bC.put (bC.refl H5) hq;have h6:(upd H5 q (.lst [.int 0,.int r3,.int r4,.int (b - 1),.int r5])) q=some (.lst [.int 0,.int r3,.int r4,.int (b - 1),.int r5]):=aN;generalize upd H5 q (.lst [.int 0,.int r3,.int r4,.int (b - 1),.int r5])=H6 at S6 h6 ⊢;have M6:=M5.then S6;obtain⟨n6,hp6⟩:=M6.2;apply⟨_,rfl,p,n6,5,rfl,hp6,↥0,↥0,λr7 H7 a7 c7 M7=>?_⟩;have h7:=M7.at h6 nqp;have M7:=M6.trans M7;obtain⟨v7,e7,m7⟩:=atI_in (xs:=[V.int 0,V.int r3,V.int r4,V.int (b - 1),V.int r5]) a7 c7;obtain⟨w0,rfl,w00⟩:∃i,v7=V.int i∧0≤i:=by
  simp only[aE,cU,or_false] at m7
  rcases m7 with rfl | rfl | rfl | rfl | rfl
  ·exact⟨_,rfl,↥0⟩
  ·exact⟨_,rfl,a3⟩
  ·exact⟨_,rfl,a4⟩
  ·exact⟨_,rfl,⋯⟩
  ·exact⟨_,rfl,a5⟩
 apply⟨q,_,_,_,rfl,rfl,SqL.of h7,e7,?_⟩;apply⟨_,rfl,_,rfl,_,rfl,_,_,rfl,rfl,_,_,_,rfl,?_⟩;have wl:=min3_le w0 mo (b - 1);have wg:=min3_ge (z:=0) w00 mo0 (by lia:(0:Int)≤b - 1);generalize min3 w0 mo (b - 1)=wd at wl wg ⊢;obtain⟨n7,hp7⟩:=M7.2;apply⟨_,rfl,_,rfl,_,rfl,_,rfl,_,rfl,oN,λe H8 S8 h8=>?_⟩;have M8:=M7.then S8;obtain⟨n8,hp8⟩:=M8.2;apply⟨_,rfl,_,rfl,p,n8,16,rfl,hp8,↥0,↥0,λr9 H9 a9 c9 M9=>⟨_,rfl,_,_,rfl,rfl,?_⟩⟩;have h9:H9 e=some (.tup [.int r1,.int g]):=Mv.tupK hp8 M9 _ _ h8;have M9:=M8.trans M9;obtain⟨n9,hp9⟩:=M9.2;apply⟨p,tq,e,n9,b,r1,g,wd,ts,_,rfl,hp9,M9.at htq ntp,ntp,h9,b1,b2,few,a1,⋯,g0,⋯,g2,wg,⋯,λt x HA ht MA hA ok ew kw es eg=>?_⟩;obtain⟨y1,y2⟩:=M9.none ht;exact k t x HA y1 y2 (M9.trans MA) hA ok ⋯ (λz=>kw (rX (by have:=rZ z;lia)))
inductive spNetH (K:ai)(vs:List V)(H:Hp)(Q:VK)(_:XK):Prop
 | mk (a:ak)(ns:List Int)(mo ex so:Int)(_:vs=[.ref a,.int mo,.int ex,.int so])(_:SqL K H a (ns.map V.int))(_:1≤mo)(_:mo≤8)(_:0≤ex)(_:ex≤20)(_:∀(q u:ak) (v:V) (b m:Int) (sp:List Sn) (ts:List Int) (H':Hp),bC H H'→H' q=some (.tup [v,.ref u])→IsD H' v (jA b m sp)→ia b m sp→b≤10 ^ 40→m≤mo→H' u=some (.tup (ts.map V.int))→(ts.length:Int)=m→(∀x∈ts,0≤x∧x<b)→(so≤0→fF b ts sp=true)→oK m sp (jE m - 1)→(sp.length:Int)≤7+ex→(∀x∈sp,x.o<10 ^ 55)→Q (.ref q) H')
theorem lim_at {m:Int}(h0:1≤m)(h1:m≤8):atI [V.int 1,V.int 1,V.int 40,V.int 7,V.int 4,V.int 3,V.int 2,V.int 2,V.int 2] m=some (V.int (jE m)):=by
 obtain⟨n,rfl⟩:=cp (by lia:0≤m);have:n=1∨n=2∨n=3∨n=4∨n=5∨n=6∨n=7∨n=8:=by lia
 rcases this with rfl | rfl | rfl | rfl | rfl | rfl | rfl | rfl <;> exact aB rfl
abbrev sNetH:cJ:=top 74
theorem jQ:bW ["_law_script","_law_most","_law_extras","_law_spoils","_law_head","_law_many","_law_way","_law_beat","_law_apart","_law_count","_law_pot_here","_law_times","_law_lim","_law_spans","_law_k","_law_j","_law_place"] pzB (defScope sNetH):=by trivial
theorem ok_netH (F:Fun K "_law_net" "_law_net" sNetH f fd)(T:Nm mg)(T2:Nt mg)(G1:Fn K mg "_law_take" sTake pzf f1 fd1)(G2:Fn K mg "_law_pot" sPotT pze f2 fd2)(F2:cG P w K mg base CX0 2 f2 fd2 pze (q9 K))
  (G3:Fn K mg "_law_tied" sTied pzs f3 fd3) (F3:cG P w K mg base CX0 3 f3 fd3 pzs spTied)
  (G4:Fn K mg "_law_more" sMore pzt f4 fd4) (F4:cG P w K mg base CX0 3 f4 fd4 pzt spMore):cG P w K mg base CX0 4 f fd pzB (spNetH K):=by
 have F1:cG P w K mg base CX0 1 f1 fd1 pzf oF:=mJ G1.F;apply F.ok jQ (by contradiction) (fun cdv A outer st0 H vs Q E hr h=>?_);obtain ⟨a,ns,mo,ex,so,rfl,ha,mo1,mo2,ex1,ex2,k⟩:=h;have hr1:iD 1 _:=hr.mono ↥0;have hr2:iD 2 _:=hr.mono ↥0;apply ⟨_,PSl.h (aZ ⟨(psZ 4 jQ.nd (pc1 G2 F2 hr2 (ae (pv 0) (ae bI aA))))⟩
  (aZ ⟨(psZ 5 jQ.nd (cS gh bI (pc1 G1 F1 hr1 (ae (pv 4) (ae (pv 1) aA)))))⟩
  (aZ ⟨(psZ 6 jQ.nd (pc1 G1 F1 hr1 (ae (pv 4) (ae bI aA))))⟩
  (aZ ⟨(psZ 7 jQ.nd (PEs.h (k_ix fP (k_lst (gG (k_op gh kN ⟨pc1 G1 F1 hr1 (ae (pv 4) (ae bI aA))⟩) (gG (k_op gh kN ⟨pc1 G1 F1 hr1 (ae (pv 4) (ae bI aA))⟩) (gG kN (gG kN a_nil))))) ⟨pv 6⟩ (fun _ _=>rfl))))⟩
  (aZ ⟨(lQ (ib (cT om (pv 6) bI (dI _)) (cL (psZ 7 jQ.nd (cS gh bI (pc1 G1 F1 hr1 (ae (pv 4) (ae (cS op_pow bI bI) aA)))))) dX))⟩
  (aZ ⟨(psZ 8 jQ.nd (pc1 G1 F1 hr1 (ae (pv 4) (ae bI aA))))⟩
  (aZ ⟨(psZ 9 jQ.nd (pc1 G1 F1 hr1 (ae (pv 4) (ae (cS gh (pv 2) bI) aA))))⟩
  (aZ ⟨(psZ 10 jQ.nd (pc1 G2 F2 hr2 (ae (pv 0) (ae bI aA))))⟩
  (aZ ⟨(qo (iy:=11) (fr:=["_law_pot_here","_law_beat"]) (js:=[10,7]) jQ.nd rfl (.inl rfl) rfl (hX rfl T2.range (ae (pv 5) aA)) (by trivial) rfl (by trivial) rfl (by exists sNetH) (by trivial) rfl (by trivial) (fun _ _ _ _ _=>⟨(pc1 G1 F1 hr1 (ae (pv 1) (ae (pv 2) aA))),fW⟩))⟩
  (aZ ⟨(psZ 12 jQ.nd (PEs.h (k_ix fP (k_lst (gG kN (gG kN (gG kN (gG kN (gG kN (gG kN (gG kN (gG kN (gG kN a_nil)))))))))) ⟨pv 5⟩ (fun _ _=>rfl))))⟩
  (aZ ⟨(lQ (psZ 13 jQ.nd (i5 aA)))⟩
  (aZ ⟨(iP bR rfl (pi_range2 rfl T2.range (ae bI (ae (pv 5) aA))) (pgZ 14 jQ.nd) (cL (ib (PW.pt (pw_or (cT op_ne (pv 8) bI (dI _)) (pw_or1 (cT om (cS lI (pv 14) bI) bI (dI _))))) (cL (iY (mI bB cA cz iB (pv 13) (ae (pc1 G3 F3 hr (ae (pc1 G2 F2 hr2 (ae (pv 0) (ae (cS gh bI (pv 14)) aA))) (ae (pv 11) (ae (pv 7) (ae (pv 14) (ae (pv 12) (ae (pv 3) aA))))))) aA)))) dX)))⟩
  (aZ ⟨(lQ (ib (cT op_ne (pv 8) bI (dI _)) (cL (psZ 12 jQ.nd (pv 7))) dX))⟩
  (aZ ⟨(lQ (ib (cT oQ (pv 5) bI (dI _)) (cL (iP bR rfl (hX rfl T2.range (ae (pv 9) aA)) (pgZ 15 jQ.nd) (PSl.h (aZ ⟨(psZ 10 jQ.nd (pc1 G2 F2 hr2 (ae (pv 0) (ae (cS gh bI (pv 15)) aA))))⟩
  (aZ ⟨(psZ 16 jQ.nd (pc1 G1 F1 hr1 (ae (pv 10) (ae (cS gh (d5 dA rfl T.len cV (ae (pv 13) aA)) bI) aA))))⟩
  (cW ⟨(iY (mI bB PySem.F.slot_list_insert PySem.F.type_list_insert mt_insert (pv 13) (ae (pv 16) (ae (pc1 G4 F4 hr (ae (pv 10) (ae (pv 11) (ae (pv 7) (ae (cS kB (pv 12) bI) (ae (pv 3) aA)))))) aA))))⟩)))))) dX))⟩
  (cW ⟨(cf (dh (ae (dh (ae (pv 7) (ae (pv 5) (ae (dk fU rfl T.ttup eX (ae (pv 13) aA)) aA)))) (ae (dk fU rfl T.ttup eX (ae (pv 11) aA)) aA))))⟩))))))))))))))),?_⟩
 apply⟨_,rfl,a,ns,1,rfl,ha,↥0,↥0,λn0 ph hph=>?_⟩;have S0:bC H (upd H ph (.lst [.int n0])):=bC.put (bC.refl H) hph;have h0:(upd H ph (.lst [.int n0])) ph=some (.lst [.int n0]):=aN;generalize upd H ph (.lst [.int n0])=H0 at S0 h0 ⊢;apply⟨_,rfl,_,rfl,ph,n0,mo,rfl,h0,⋯,⋯,λr1 H1 a1 c1 M1=>⟨_,_,rfl,rfl,?_⟩⟩;obtain⟨n1,hp1⟩:=M1.2;apply⟨_,rfl,ph,n1,4,rfl,hp1,↥0,↥0,λwy H2 w0 w1 M2=>?_⟩;have M2:=M1.trans M2;obtain⟨n2,hp2⟩:=M2.2;apply⟨_,rfl,ph,n2,12,rfl,hp2,↥0,↥0,λr3 H3 a3 c3 M3=>⟨_,_,rfl,rfl,?_⟩⟩;have M3:=M2.trans M3;obtain⟨n3,hp3⟩:=M3.2;apply⟨_,rfl,ph,n3,59,rfl,hp3,↥0,↥0,λr4 H4 a4 c4 M4=>⟨_,_,rfl,rfl,szZ4,λq5 H5 S5 h5=>?_⟩⟩;have M5:=(M3.trans M4).then S5;obtain⟨v5,e5,m5⟩:=atI_in (xs:=[V.int (1+r3),V.int (2+r4),V.int 60,V.int 60]) w0 w1;obtain⟨b0,rfl,b01,b02⟩:∃i,v5=V.int i∧1≤i∧i≤10 ^ 40:=by
  simp only[aE,cU,or_false] at m5
  rcases m5 with rfl | rfl | rfl | rfl
  ·exact⟨_,rfl,⋯,⋯⟩
  ·exact⟨_,rfl,⋯,⋯⟩
  ·exact⟨_,rfl,↥0,↥0⟩
  ·exact⟨_,rfl,↥0,↥0⟩
 apply⟨_,rfl,q5,_,_,_,rfl,rfl,SqL.of h5,e5,?_⟩;apply⟨λσ' H'=>Mv ph H0 H'∧∃b,1≤b∧b≤10 ^ 40∧σ'=[some (.ref a),some (.int mo),some (.int ex),some (.int so),some (.ref ph),some (.int (1+r1)),some (.int wy),some (.int b),none,none,none,none,none,none,none,none,none],?_,?_⟩
 rotate_left
 ·apply⟨_,rfl,rfl,_,rfl,?_⟩
  apply ite2 (λ_=>?_) (λ_=>⟨M5,b0,b01,b02,rfl⟩);obtain⟨n5,hp5⟩:=M5.2;apply⟨_,rfl,_,_,rfl,rfl,⟨↥0,↥0,↥0⟩,ph,n5,_,rfl,hp5,↥0,↥0,λr6 H6 a6 c6 M6=>⟨_,_,rfl,rfl,?_⟩⟩;have c6:r6<10 ^ 40:=c6;exact⟨M5.trans M6,1+r6,⋯,⋯,rfl⟩
 clear M5 M4 M3 M2 M1 hp1 hp2 hp3 S5 h5 e5 m5 b01 b02 h0 a3 c3 a4 c4;rintro σ' H6 ⟨M6,b,b1,b2,rfl⟩;obtain⟨m,em⟩:∃m,m=1+r1:=⟨_,rfl⟩;have m1:1≤m:=by lia
 have m2:m≤mo:=by lia
 rw[←em];clear em;obtain⟨n6,hp6⟩:=M6.2;apply⟨_,rfl,ph,n6,8,rfl,hp6,↥0,↥0,λap H7 a7 c7 M7=>?_⟩;have M7:=M6.trans M7;obtain⟨n7,hp7⟩:=M7.2;apply⟨_,rfl,_,rfl,_,_,rfl,rfl,ph,n7,_,rfl,hp7,⋯,⋯,λcn H8 a8 c8 M8=>?_⟩;have M8:=M7.trans M8;have S8:bC H H8:=bC.mv S0 hph M8;clear M6 M7 hp6 hp7;apply⟨_,rfl,a,ns,2,rfl,S8.seq ha,↥0,↥0,λn9 pp hpp=>?_⟩;have hppH:=S8.free hpp;have S9:bC H (upd H8 pp (.lst [.int n9])):=bC.put S8 hpp;have h9:(upd H8 pp (.lst [.int n9])) pp=some (.lst [.int n9]):=aN;generalize upd H8 pp (.lst [.int n9])=H9 at S9 h9 ⊢;apply⟨_,rfl,m,rfl,⋯,⋯,?_⟩;apply jG (n:=m.toNat) (λi zs HA=>Mv pp H9 HA∧∃ts:List Int,zs=ts.map V.int∧ts.length=i∧∀x∈ts,0≤x∧x<b) ⟨Mv.of (bC.refl H9) h9,[],rfl,rfl,λ_ h=>rW h ∅⟩ (λi zs HA _ ⟨_,ts,e,hl,_⟩=>by rw[e,aa,hl];exact aC _) (dm ⋯) (λi zs HA hi ⟨MA,ts,eA,lA,allA⟩=>?_) (λzs HA ⟨MA,ts,eA,lA,allA⟩ tq htq=>?_)
 ·apply eS ?_
  obtain⟨nA,hpA⟩:=MA.2;apply⟨_,rfl,_,rfl,pp,nA,b,rfl,hpA,⋯,⋯,λr HB rb0 rb1 MB=>⟨MA.trans MB,ts++[r],by rw[eA,ax];rfl,by rw[av,lA];rfl,λx hx=>?_⟩⟩
  rcases aQ.mp hx with hx | hx
  ·exact allA x hx
  ·rw[ay.mp hx];exact⟨rb0,rb1⟩
 subst eA;have SA:bC H HA:=bC.mv S9 hppH MA;have htqH:=SA.free htq;have SB:bC H (upd HA tq (.lst (ts.map V.int))):=bC.put SA htq;have hB:(upd HA tq (.lst (ts.map V.int))) tq=some (.lst (ts.map V.int)):=aN;generalize upd HA tq (.lst (ts.map V.int))=HB at SB hB ⊢;have lt:(ts.length:Int)=m:=by lia
 clear SA MA S9 h9 htq;obtain⟨l1,l2⟩:=limOf_pos m1 ⋯;apply⟨(by show 9≤bo;decide),λqC HC SC hC=>⟨_,rfl,qC,_,_,_,rfl,rfl,SqL.of hC,lim_at m1 ⋯,?_⟩⟩;have SC':=SB.trans SC;have htC:=SC _ _ hB;apply⟨λσ' H'=>bC H H'∧H' tq=some (.lst (ts.map V.int))∧∃Ls,Ls≠tq∧H Ls=none∧H' Ls=some (.lst [])∧σ'=[some (.ref a),some (.int mo),some (.int ex),some (.int so),some (.ref ph),some (.int m),some (.int wy),some (.int b),some (.int ap),some (.int cn),some (.ref pp),some (.ref tq),some (.int (jE m)),some (.ref Ls),none,none,none],?_,?_⟩
 rotate_left
 ·apply⟨bK _,λLs hLs=>?_⟩
  exact⟨SC'.put hLs,by rw[bz (bx htC hLs)];exact htC,Ls,cx (bx htC hLs),SC'.free hLs,aN,rfl⟩
 clear SC' htC SC hC hB SB;rintro σ' HD ⟨SD,htD,Ls,nLt,hLsH,hLsD,rfl⟩;obtain⟨kp,ekp⟩:∃kp:Bool,kp=decide (so≤0):=⟨_,rfl⟩;obtain⟨tie,etie⟩:∃tie:Bool,tie= !decide (V.int ap=V.int 3):=⟨_,rfl⟩;apply⟨_,rfl,1,m,rfl,⟨↥0,↥0,⋯,⋯⟩,?_⟩;apply kq (lo:=1) (n:=(m - 1).toNat) (λi σ H'=>bC H H'∧H' tq=some (.lst (ts.map V.int))∧∃(vk:Option V) (zs:List V) (sp:List Sn),σ=[some (.ref a),some (.int mo),some (.int ex),some (.int so),some (.ref ph),some (.int m),some (.int wy),some (.int b),some (.int ap),some (.int cn),some (.ref pp),some (.ref tq),some (.int (jE m)),some (.ref Ls),vk,none,none]∧H' Ls=some (.lst zs)∧dW H' zs (dO Sn.row sp)∧sp.length≤i∧pJ b m ts (jE m - 1) kp tie (1+i) sp) ⟨SD,htD,none,[],[],rfl,hLsD,.nil,aC _,pJ.nil⟩ ?_ ?_
 ·rintro i σ HE hi ⟨SE,htE,vk,zs,sp,rfl,hLsE,dE,lE,hidE⟩
  have lz:zs.length=sp.length:=by rw[dE.length];unfold dO;rw[aa]
  have add:∀(D:L2.Ends) (E':XK),(∀σ' H',(bC H H'∧H' tq=some (.lst (ts.map V.int))∧∃(vk:Option V) (zs:List V) (sp:List Sn),σ'=[some (.ref a),some (.int mo),some (.int ex),some (.int so),some (.ref ph),some (.int m),some (.int wy),some (.int b),some (.int ap),some (.int cn),some (.ref pp),some (.ref tq),some (.int (jE m)),some (.ref Ls),vk,none,none]∧H' Ls=some (.lst zs)∧dW H' zs (dO Sn.row sp)∧sp.length≤i+1∧pJ b m ts (jE m - 1) kp tie (1+(i+1:Nat)) sp)→D.nx σ' H')→∀(n p:_),HE p=none→spTied [.ref p,.ref tq,.int b,.int (1+(i:Int)),.int (jE m),.int so] (upd HE p (.lst [.int n])) (λy H'=>rAppend (.ref Ls) [y] H' λ_ H''=>D.nx [some (.ref a),some (.int mo),some (.int ex),some (.int so),some (.ref ph),some (.int m),some (.int wy),some (.int b),some (.int ap),some (.int cn),some (.ref pp),some (.ref tq),some (.int (jE m)),some (.ref Ls),some (.int (1+(i:Int))),none,none] H'') E':=by
   intro D E' hD n p hp;have npt:=bx htE hp;have npL:=bx hLsE hp;apply⟨p,tq,n,b,1+(i:Int),jE m,so,ts,rfl,aN,by rw[bz npt];exact htE,npt,b1,b2,⋯,⋯,⋯,l1,⋯,λt x HF htF ntp MF hF okF wF kF eF=>?_⟩;have K1:kr HE (upd HE p (.lst [.int n])):=λq xs e=>by rw[bz (bx e hp)];exact e
   have K2:kr HE HF:=K1.trans (Mv.tupK (n:=n) aN MF);have SF:bC H HF:=bC.mv (SE.put hp) (SE.free hp) MF;have htF':HF tq=some (.lst (ts.map V.int)):=MF.at (by rw[bz npt];exact htE) npt;have hLF:HF Ls=some (.lst zs):=MF.at (by rw[bz npL];exact hLsE) npL;apply⟨Ls,zs,_,rfl,rfl,hLF,(aU (by lia:zs.length<1000) (by decide:1000≤bo)),?_⟩;have KC:kr HF (upd HF Ls (.lst (zs++[.ref t]))):=fV hLF;apply hD _ _ ⟨λq o e=>?_,by rw[bz (cx nLt)];exact htF',_,zs++[.ref t],sp++[x],rfl,aN,?_,by rw[av];show sp.length+1≤i+1;lia,?_⟩
   ·rw[bz (λz=>by rw[z,hLsH] at e;cases e)]
    exact SF q o e
   ·unfold dO
    rw[ax];exact(fh (K2.trans KC) dE).append (.cons (.tup (KC _ _ hF) (dW.ints x.row)) .nil)
   ·have:=hidE.more (x:=x) ⋯ (by rw[←lt];exact okF) (λz=>kF (by rw[←ekp];exact z)) wF eF
    rw[show(1:Int)+((i+1:Nat):Int)=1+(i:Int)+1 by lia];exact this
  apply⟨_,rfl,rfl,_,rfl,?_⟩;apply ite2 (λh1=>?_) (λh1=>?_)
  ·apply⟨_,rfl,.inl ⟨rfl,_,SqL.of hLsE⟩,_,rfl,_,rfl,_,_,rfl,rfl,a,ns,_,rfl,SE.seq ha,⋯,⋯,λn p hp=>⟨_,rfl,_,rfl,_,rfl,_,rfl,_,rfl,?_⟩⟩
   exact add _ E0 (λ_ _ h=>h) n p hp
  ·apply⟨_,rfl,_,_,rfl,rfl,(by show(0:Int)<2;decide),rfl,_,rfl,?_⟩
   apply ite2 (λh2=>?_) (λh2=>?_)
   ·apply⟨_,rfl,.inl ⟨rfl,_,SqL.of hLsE⟩,_,rfl,_,rfl,_,_,rfl,rfl,a,ns,_,rfl,SE.seq ha,⋯,⋯,λn p hp=>⟨_,rfl,_,rfl,_,rfl,_,rfl,_,rfl,?_⟩⟩
    exact add _ E0 (λ_ _ h=>h) n p hp
   ·have tf:tie=false:=by rw[etie];exact iN.mpr h1
    apply⟨SE,htE,_,zs,sp,rfl,hLsE,dE,⋯,?_⟩;rw[tf] at hidE ⊢;exact hidE.skip _
 rintro σ HE ⟨SE,htE,vk,zs,sp,rfl,hLsE,dE,lE,hidE⟩;rw[show(1:Int)+((m - 1).toNat:Nat)=m by lia] at hidE;have lE7:(sp.length:Int)≤7:=by lia
 clear lE;apply⟨λσ' H'=>H'=HE∧∃lim2,1≤lim2∧(tie=false→lim2=jE m)∧σ'=[some (.ref a),some (.int mo),some (.int ex),some (.int so),some (.ref ph),some (.int m),some (.int wy),some (.int b),some (.int ap),some (.int cn),some (.ref pp),some (.ref tq),some (.int lim2),some (.ref Ls),vk,none,none],?_,?_⟩
 rotate_left
 ·apply⟨_,rfl,rfl,_,rfl,?_⟩
  apply ite2 (λh1=>?_) (λh1=>⟨rfl,jE m,l1,λ_=>rfl,rfl⟩);exact⟨_,rfl,rfl,b,b1,(λz=>by rw[etie,h1] at z;cases z),rfl⟩
 rintro σ' _ ⟨rfl,lim2,lim21,elim,rfl⟩;apply⟨λσ' H'=>bC H H'∧H' tq=some (.lst (ts.map V.int))∧∃(v10 vj vp:Option V) (zs:List V) (sp:List Sn),σ'=[some (.ref a),some (.int mo),some (.int ex),some (.int so),some (.ref ph),some (.int m),some (.int wy),some (.int b),some (.int ap),some (.int cn),v10,some (.ref tq),some (.int lim2),some (.ref Ls),vk,vj,vp]∧H' Ls=some (.lst zs)∧dW H' zs (dO Sn.row sp)∧(sp.length:Int)≤7+ex∧pJ b m ts (jE m - 1) kp tie m sp,?_,?_⟩
 rotate_left
 ·apply⟨_,rfl,_,_,rfl,rfl,_,rfl,?_⟩
  apply ite2 (λhm=>?_) (λ_=>⟨SE,htE,_,_,_,zs,sp,rfl,hLsE,dE,⋯,hidE⟩);have hm:m > 1:=rZ hm;apply⟨_,rfl,cn,rfl,⋯,⋯,?_⟩;apply kq (n:=cn.toNat) (λi σ H'=>bC H H'∧H' tq=some (.lst (ts.map V.int))∧∃(v10 vj vp:Option V) (zs:List V) (sp:List Sn),σ=[some (.ref a),some (.int mo),some (.int ex),some (.int so),some (.ref ph),some (.int m),some (.int wy),some (.int b),some (.int ap),some (.int cn),v10,some (.ref tq),some (.int lim2),some (.ref Ls),vk,vj,vp]∧H' Ls=some (.lst zs)∧dW H' zs (dO Sn.row sp)∧(sp.length:Int)≤7+i∧pJ b m ts (jE m - 1) kp tie m sp) ⟨SE,htE,_,_,_,zs,sp,rfl,hLsE,dE,⋯,hidE⟩ ?_ ?_
  ·clear hidE dE hLsE htE SE lE7 zs sp
   rintro i σ HE hi ⟨SE,htE,v10,vj,vp,zs,sp,rfl,hLsE,dE,lE,hidE⟩;have lz:zs.length=sp.length:=by rw[dE.length];unfold dO;rw[aa]
   apply⟨_,rfl,_,rfl,_,_,rfl,rfl,a,ns,_,rfl,SE.seq ha,⋯,⋯,λn p hp=>?_⟩;have npt:=bx htE hp;have npL:=bx hLsE hp;have S1:bC HE (upd HE p (.lst [.int n])):=bC.put (bC.refl HE) hp;have hp1:(upd HE p (.lst [.int n])) p=some (.lst [.int n]):=aN;generalize upd HE p (.lst [.int n])=HF at S1 hp1 ⊢;apply⟨_,rfl,_,rfl,Ls,_,rfl,.inl (SqL.of (S1 _ _ hLsE)),_,_,rfl,rfl,p,n,_,rfl,hp1,⋯,⋯,λpl HG pl0 pl1 MG=>?_⟩;have MG:Mv p HF HG:=MG;have SG:bC H HG:=bC.mv (SE.trans S1) (SE.free hp) MG;have htG:=MG.at (S1 _ _ htE) npt;have hLG:=MG.at (S1 _ _ hLsE) npL;have KG:kr HE HG:=λq xs e=>Mv.tupK hp1 MG _ _ (S1 _ _ e)
   obtain⟨nG,hpG⟩:=MG.2;apply⟨_,rfl,.inl ⟨rfl,_,SqL.of hLG⟩,_,rfl,_,rfl,_,rfl,_,rfl,_,rfl,_,_,rfl,rfl,_,rfl,p,tq,nG,b,_,so,ts,rfl,hpG,htG,npt,b1,b2,⋯,⋯,(by show 0≤lim2 - 1;lia),λt x HH htH ntp MH hH okH wH kH=>?_⟩;have SH:bC H HH:=bC.mv SG (SE.free hp) MH;have htH':=MH.at htG npt;have hLH:=MH.at hLG npL;have KH:kr HE HH:=KG.trans (Mv.tupK hpG MH);apply⟨Ls,zs,pl,.ref t,rfl,rfl,hLH,⋯,pl0,⋯,?_⟩;have KC:kr HH (upd HH Ls (.lst (zs.take pl.toNat++ .ref t::zs.drop pl.toNat))):=fV hLH;apply⟨λq o e=>?_,by rw[bz (cx nLt)];exact htH',_,_,_,zs.take pl.toNat++ .ref t::zs.drop pl.toNat,sp.take pl.toNat++x::sp.drop pl.toNat,rfl,aN,?_,?_,?_⟩
   ·rw[bz (λz=>by rw[z,hLsH] at e;cases e)]
    exact SH q o e
   ·have r:=fh (KH.trans KC) dE
    unfold dO at r ⊢;rw[ax,bX,List.map_take,List.map_drop];exact(dW.takeN _ r).append (.cons (.tup (KC _ _ hH) (dW.ints x.row)) (dW.dropN _ r))
   ·rw[av,bf,bw,d7]
    lia
   ·exact hidE.put (by rw[←lt];exact okH) (λz=>kH (by rw[←ekp];exact z)) (λz=>by have:=elim z;lia) _
  ·rintro σ HF ⟨SF,htF,v10,vj,vp,zs,sp,rfl,hLF,dF,lF,hidF⟩
   exact⟨SF,htF,v10,vj,vp,zs,sp,rfl,hLF,dF,⋯,hidF⟩
 clear hidE dE hLsE htE SE lE7 zs sp;rintro σ' HE ⟨SE,htE,v10,vj,vp,zs,sp,rfl,hLsE,dE,lE,hidE⟩;apply⟨_,rfl,_,rfl,_,rfl,Ls,_,rfl,SqL.of hLsE,λqB HB SB hB=>⟨(by show 3≤bo;decide),λtC HC SC hC=>⟨_,rfl,tq,_,rfl,SqL.of (SC _ _ (SB _ _ htE)),λqD HD SD hD=>⟨oN,λtF HF SF hF=>?_⟩⟩⟩⟩;have SBF:=SB.trans (SC.trans (SD.trans SF));apply k tF qD (.ref tC) b m sp ts HF (SE.trans SBF) hF (.tup (SF _ _ (SD _ _ hC)) (.cons (.int b) (.cons (.int _) (.cons (.tup (SF _ _ (SD _ _ (SC _ _ hB))) (dE.same SBF)) .nil)))) ⟨b1,⋯,m1,⋯,⋯,λx hx=>(hidE.all x hx).1⟩ b2 m2 (SF _ _ hD) lt allA (λz=>hidE.fits (by rw[ekp];exact rX z)) hidE.narrow lE λx hx=>(hidE.all x hx).2
abbrev sOrdR:cJ:=top 82
inductive spOrdR (K:ai)(vs:List V)(H:Hp)(Q:VK)(_:XK):Prop
 | mk (a:ak)(ns:List Int)(n:Nat)(_:vs=[.ref a,.int (n:Int)])(_:SqL K H a (ns.map V.int))(_:n≤16)(_:∀(u:ak) (os:List Int) (H':Hp),bC H H'→H' u=some (.tup (os.map V.int))→Ord os n→Q (.ref u) H')
theorem lenND (K:ai)(hK:X.K=K:=by rfl):ke X (.builtin "len") (λxs H Q=>∃p ys,xs=[.ref p]∧(SqL K H p ys∨SqT K H p ys)∧Q (.int ys.length) H):=by subst hK;exact dA
theorem toK (K:ai){ex:Expr}{Ty:String}(h:PE X ex (tBM X.K Ty r to t))(hK:X.K=K:=by rfl):PE X ex (tBM K Ty r to t):=by subst hK;exact h
theorem scOrd:bW ["_law_script","_law_many","_law_pot_here","_law_left"] pzP (defScope sOrdR):=by trivial
theorem ok_ordR (F:Fun K "_law_order" "_law_order" sOrdR f fd)(T:Nm mg)(T2:Nt mg)(G1:Fn K mg "_law_take" sTake pzf f1 fd1)(G2:Fn K mg "_law_pot" sPotT pze f2 fd2)(F2:cG P w K mg base CX0 2 f2 fd2 pze (q9 K)):cG P w K mg base CX0 3 f fd pzP (spOrdR K):=by
 have F1:cG P w K mg base CX0 1 f1 fd1 pzf oF:=mJ G1.F;specialize F.ok scOrd;obtain ⟨a,ns,n,rfl,ha,hn,k⟩:=h;have hr1:iD 1 _:=hr.mono ↥0;apply ⟨_,PSl.h (aZ ⟨(psZ 2 scOrd.nd (pc1 G2 F2 hr (ae (pv 0) (ae bI aA))))⟩
  (aZ ⟨(psZ 3 scOrd.nd (dk (oy rfl) rfl T2.tlist boot_list (ae (dk nP rfl T2.range boot_range (ae (pv 1) aA)) aA)))⟩
  (cW ⟨(cf (dk fU rfl T.ttup eX (ae (gm (fr:=["_law_left","_law_pot_here"]) (js:=[3,2]) rfl (hX rfl T2.range (ae (pv 1) aA)) (by trivial) rfl (by trivial) rfl (by exists sOrdR) (by trivial) rfl (by trivial) (fun _ _ _ _ _=>⟨toK K (mI bB ft fq mt_popAt (pv 1) (ae (pc1 G1 F1 hr1 (ae (pv 2) (ae (d5 (lenND K) rfl T.len cV (ae (pv 1) aA)) aA))) aA)),fW⟩)) aA)))⟩))),?_⟩
 apply⟨_,rfl,a,ns,39,rfl,ha,↥0,↥0,λn0 p hp=>?_⟩;have S0:bC H (upd H p (.lst [.int n0])):=(bC.refl H).put hp;have h0:(upd H p (.lst [.int n0])) p=some (.lst [.int n0]):=aN;generalize upd H p (.lst [.int n0])=H0 at S0 h0 ⊢;apply⟨_,rfl,(n:Int),rfl,λq1 H1 S1 h1=>?_⟩;have hp1:=S1 _ _ h0;apply⟨q1,n,rfl,h1,⋯,λLf hLf=>?_⟩;have S1:=S0.trans S1;have hLfH:=S1.free hLf;have npL:p≠Lf:=bx hp1 hLf;have S2:bC H (upd H1 Lf (.lst ((aJ n).map λ(k:Nat)=>V.int (k:Int)))):=S1.put hLf;have h2p:(upd H1 Lf (.lst ((aJ n).map λ(k:Nat)=>V.int (k:Int)))) p=some (.lst [.int n0]):=by rw[bz npL];exact hp1
 have h2L:(upd H1 Lf (.lst ((aJ n).map λ(k:Nat)=>V.int (k:Int)))) Lf=some (.lst ((rgI n).map V.int)):=by
  rw[aN];unfold rgI;rw[cg];rfl
 generalize upd H1 Lf (.lst ((aJ n).map λ(k:Nat)=>V.int (k:Int)))=H2 at S2 h2p h2L ⊢;apply⟨_,rfl,(n:Int),rfl,⋯,⋯,?_⟩;apply jG (n:=((n:Int)).toNat) (λi zs HA=>bC H HA∧(∃n,HA p=some (.lst [.int n]))∧∃hs lf:List Int,zs=hs.map V.int∧hs.length=i∧HA Lf=some (.lst (lf.map V.int))∧lf.length+i=n∧(hs++lf).Perm (rgI n))
  ⟨S2,⟨_,h2p⟩,[],rgI n,rfl,rfl,h2L,rgI_len n,List.Perm.refl _⟩ (λi zs HA _ q=>by obtain⟨_,_,hs,lf,e,hl,_⟩:=q;rw[e,aa,hl];exact aC _) (dm ⋯) (λi zs HA hi q=>?_) (λzs HA q Lh hLh=>?_)
 ·obtain⟨SA,⟨nA,hpA⟩,hs,lf,eA,lA,hLA,lfA,pA⟩:=q
  have hi:i<n:=hi;apply eS ?_;have ll:(lf.map V.int).length=lf.length:=aa _;apply⟨_,rfl,.inl ⟨rfl,_,SqL.of hLA⟩,_,rfl,_,rfl,Lf,_,rfl,.inl (SqL.of hLA),p,nA,_,rfl,hpA,(by show 0<((lf.map V.int).length:Int);lia),(by show((lf.map V.int).length:Int)<10 ^ 61;lia),λr4 HB a4 c4 MB=>?_⟩;have c4:r4<((lf.map V.int).length:Int):=c4;obtain⟨y,hy⟩:∃y,lf[r4.toNat]? =some y:=⟨_,gE ⋯⟩;have hLB:=MB.at hLA (cx npL);apply⟨Lf,lf.map V.int,r4,r4.toNat,V.int y,rfl,rfl,hLB,⋯,⋯,seqIndex_of a4 c4,by rw[ar,hy];rfl,?_⟩;obtain⟨nB,hpB⟩:=MB.2;have rk:r4.toNat<lf.length:=by lia
  apply⟨λq o e=>by rw[bz (λz=>by rw[z,hLfH] at e;cases e)];exact bC.mv SA hp MB q o e,⟨nB,by rw[bz npL];exact hpB⟩,hs++[y],lf.eraseIdx r4.toNat,by rw[eA,ax];rfl,by rw[av,lA];rfl,?_,?_,?_⟩
  ·rw[aN,List.eraseIdx_eq_take_drop_succ,List.eraseIdx_eq_take_drop_succ,ax,List.map_take,List.map_drop]
  ·rw[List.length_eraseIdx_of_lt rk]
   lia
  ·rw[List.append_assoc]
   exact((pop_perm lf r4.toNat y hy).append_left hs).trans pA
 obtain⟨SA,_,hs,lf,rfl,lA,hLA,lfA,pA⟩:=q;have e0:lf=[]:=g9.mp (by have:lf.length+n=n:=lfA;lia);subst e0;rw[dH] at pA;exact⟨Lh,_,rfl,SqL.of aN,λu H5 S5 h5=>k u hs H5 ((SA.put hLh).trans S5) h5 pA⟩
abbrev sOth:cJ:=top 81
inductive spOthR (K:ai)(vs:List V)(H:Hp)(Q:VK)(_:XK):Prop
 | mk (a t:ak)(ns:List Int)(b:Int)(rest:List V)(_:vs=[.ref a,.ref t])(_:SqL K H a (ns.map V.int))(_:H t=some (.tup (.int b::rest)))(_:1≤b)(_:b≤10 ^ 40)(_:∀(v:V) (m:Int) (sp:List Sn) (H':Hp),bC H H'→IsD H' v (jA b m sp)→ia b m sp→m≤3→oK m sp 3→sp.length≤6→Q v H')
theorem scOth:bW ["_law_script","_law_net_here","_law_pot_here","_law_many","_law_times","_law_spans","_law_k","_law_j"] pzQ (defScope sOth):=by trivial
theorem ok_oth (F:Fun K "_law_other" "_law_other" sOth f fd)(T:Nm mg)(T2:Nt mg)(G1:Fn K mg "_law_take" sTake pzf f1 fd1)(G2:Fn K mg "_law_pot" sPotT pze f2 fd2)(F2:cG P w K mg base CX0 2 f2 fd2 pze (q9 K))
  (G3:Fn K mg "_law_tied" sTied pzs f3 fd3) (F3:cG P w K mg base CX0 3 f3 fd3 pzs spTied)
  (G4:Fn K mg "_law_more" sMore pzt f4 fd4) (F4:cG P w K mg base CX0 3 f4 fd4 pzt spMore):cG P w K mg base CX0 4 f fd pzQ (spOthR K):=by
 have F1:cG P w K mg base CX0 1 f1 fd1 pzf oF:=mJ G1.F;apply F.ok scOth (by contradiction) (fun cdv A outer st0 H vs Q E hr h=>?_);obtain ⟨a,t,ns,b,rest,rfl,ha,ht,b1,b2,k⟩:=h;have hr1:iD 1 _:=hr.mono ↥0;have hr2:iD 2 _:=hr.mono ↥0;apply ⟨_,PSl.h (aZ ⟨(psZ 2 scOth.nd (pc1 G2 F2 hr2 (ae (pv 0) (ae bI aA))))⟩
  (aZ ⟨(psZ 3 scOth.nd (cS gh bI (pc1 G1 F1 hr1 (ae (pv 2) (ae bI aA)))))⟩
  (aZ ⟨(qo (iy:=4) (fr:=["_law_pot_here","_law_net_here"]) (js:=[2,1]) scOth.nd rfl (.inl rfl) rfl (hX rfl T2.range (ae (pv 3) aA)) (by trivial) rfl (by trivial) rfl (by exists sOth) (by trivial) rfl (by trivial) (fun _ _ _ _ _=>⟨(pc1 G1 F1 hr1 (ae (pv 1) (ae (eM (r:=pj K) eJ (pv 2) bI (fun _ _=>rfl)) aA))),fW⟩))⟩
  (aZ ⟨(psZ 5 scOth.nd (i5 aA))⟩
  (aZ ⟨(iP bR rfl (pi_range2 rfl T2.range (ae bI (ae (pv 3) aA))) (pgZ 6 scOth.nd) (cL (iY (mI bB cA cz iB (pv 5) (ae (pc1 G3 F3 hr (ae (pc1 G2 F2 hr2 (ae (pv 0) (ae (cS gh bI (pv 6)) aA))) (ae (pv 4) (ae (ixZ (pv 1)) (ae (pv 6) (ae bI (ae bI aA))))))) aA)))))⟩
  (aZ ⟨(lQ (ib (cT oQ (pv 3) bI (dI _)) (cL (iP bR rfl (hX rfl T2.range (ae (pc1 G1 F1 hr1 (ae (pv 2) (ae bI aA))) aA)) (pgZ 7 scOth.nd) (cL (iY (mI bB cA cz iB (pv 5) (ae (pc1 G4 F4 hr (ae (pc1 G2 F2 hr2 (ae (pv 0) (ae (cS gh bI (pv 7)) aA))) (ae (pv 4) (ae (ixZ (pv 1)) (ae (ixZ (pv 1)) (ae bI aA)))))) aA)))))) dX))⟩
  (cW ⟨(cf (dh (ae (ixZ (pv 1)) (ae (pv 3) (ae (dk fU rfl T.ttup eX (ae (pv 5) aA)) aA)))))⟩))))))),?_⟩
 apply⟨_,rfl,a,ns,40,rfl,ha,↥0,↥0,λn0 p hp=>?_⟩;have S0:bC H (upd H p (.lst [.int n0])):=(bC.refl H).put hp;have h0:(upd H p (.lst [.int n0])) p=some (.lst [.int n0]):=aN;generalize upd H p (.lst [.int n0])=H0 at S0 h0 ⊢;apply⟨_,rfl,p,n0,3,rfl,h0,↥0,↥0,λr1 H1 a1 c1 M1=>⟨_,_,rfl,rfl,?_⟩⟩;obtain⟨m,em⟩:∃m,m=1+r1:=⟨_,rfl⟩;have m1:1≤m:=by lia
 have m3:m≤3:=by lia
 have e1:(λi j=>V.int (i+j)) 1 r1=V.int m:=by rw[em]
 first | rw[e1] | rw[←em]
 clear em e1;have S1:bC H H1:=bC.mv S0 hp M1;obtain⟨n1,hp1⟩:=M1.2;apply⟨_,rfl,m,rfl,⋯,⋯,?_⟩;apply jG (n:=m.toNat) (λi zs HA=>Mv p H1 HA∧∃ts:List Int,zs=ts.map V.int∧ts.length=i∧∀x∈ts,0≤x∧x<b) ⟨Mv.of (bC.refl H1) hp1,[],rfl,rfl,λ_ h=>rW h ∅⟩ (λi zs HA _ q=>by obtain⟨_,ts,e,hl,_⟩:=q;rw[e,aa,hl];exact aC _) (dm ⋯) (λi zs HA hi q=>?_) (λzs HA q tq htq=>?_)
 ·obtain⟨MA,ts,eA,lA,allA⟩:=q
  apply eS ?_;obtain⟨nA,hpA⟩:=MA.2;have htA:=bC.mv S1 hp MA _ _ ht;apply⟨_,rfl,_,rfl,t,_,_,_,rfl,rfl,SqT.of htA,aB (j:=0) rfl,p,nA,b,rfl,hpA,⋯,⋯,λr HB rb0 rb1 MB=>⟨MA.trans MB,ts++[r],by rw[eA,ax];rfl,by rw[av,lA];rfl,λx hx=>?_⟩⟩
  rcases aQ.mp hx with hx | hx
  ·exact allA x hx
  ·rw[ay.mp hx];exact⟨rb0,rb1⟩
 obtain⟨MA,ts,rfl,lA,allA⟩:=q;have SA:bC H HA:=bC.mv S1 hp MA;obtain⟨nA,hpA⟩:=MA.2;have npt:=bx hpA htq;have SB:bC H (upd HA tq (.lst (ts.map V.int))):=SA.put htq;have hB:(upd HA tq (.lst (ts.map V.int))) tq=some (.lst (ts.map V.int)):=aN;have hpB:(upd HA tq (.lst (ts.map V.int))) p=some (.lst [.int nA]):=by rw[bz npt];exact hpA
 generalize upd HA tq (.lst (ts.map V.int))=HB at SB hB hpB ⊢;have lt:(ts.length:Int)=m:=by lia
 clear SA MA S1 M1 hp1 hpA h0 S0 htq;apply⟨bK _,λLs hLs=>?_⟩;have nLt:Ls≠tq:=cx (bx hB hLs);have nLp:p≠Ls:=bx hpB hLs;have hLsH:=SB.free hLs;have SC:bC H (upd HB Ls (.lst [])):=SB.put hLs;have hC:(upd HB Ls (.lst [])) tq=some (.lst (ts.map V.int)):=by rw[bz (cx nLt)];exact hB
 have hpC:(upd HB Ls (.lst [])) p=some (.lst [.int nA]):=by rw[bz nLp];exact hpB
 have hLC:(upd HB Ls (.lst [])) Ls=some (.lst []):=aN;generalize upd HB Ls (.lst [])=HC at SC hC hpC hLC ⊢;clear SB hB hpB hLs;have put:∀(HE HF:Hp) (zs:List V) (sp:List Sn) (x:Sn) (t' p':ak) (n nn:Int),bC H HE→HE tq=some (.lst (ts.map V.int))→HE p=some (.lst [.int nn])→HE Ls=some (.lst zs)→dW HE zs (dO Sn.row sp)→HE p'=none→Mv p' (upd HE p' (.lst [.int n])) HF→HF t'=some (.tup [.int x.s,.int x.g,.int x.l,.int x.o,.int x.w])→HF Ls=some (.lst zs)∧bC H (upd HF Ls (.lst (zs++[.ref t'])))∧(upd HF Ls (.lst (zs++[.ref t']))) tq=some (.lst (ts.map V.int))∧(upd HF Ls (.lst (zs++[.ref t']))) p=some (.lst [.int nn])∧dW (upd HF Ls (.lst (zs++[.ref t']))) (zs++[.ref t']) (dO Sn.row (sp++[x])):=by
  intro HE HF zs sp x t' p' n nn SE htE hpE hLE dE hp' MF hF;have SF:bC H HF:=bC.mv (SE.put hp') (SE.free hp') MF;have st:∀q xs,HE q=some (.lst xs)→HF q=some (.lst xs):=λq xs e=>MF.at (by rw[bz (bx e hp')];exact e) (bx e hp')
  have K1:kr HE (upd HE p' (.lst [.int n])):=λq xs e=>by rw[bz (bx e hp')];exact e
  have K2:kr HE HF:=K1.trans (Mv.tupK (n:=n) aN MF);have hLF:=st _ _ hLE;have KC:kr HF (upd HF Ls (.lst (zs++[.ref t']))):=fV hLF;apply⟨hLF,λq o e=>?_,by rw[bz (cx nLt)];exact st _ _ htE,by rw[bz nLp];exact st _ _ hpE,?_⟩
  ·rw[bz (λz=>by rw[z,hLsH] at e;cases e)]
   exact SF q o e
  ·unfold dO
   rw[ax];exact(fh (K2.trans KC) dE).append (.cons (.tup (KC _ _ hF) (dW.ints x.row)) .nil)
 apply⟨_,rfl,1,m,rfl,⟨↥0,↥0,⋯,⋯⟩,?_⟩;apply kq (lo:=1) (n:=(m - 1).toNat) (λi σ H'=>bC H H'∧H' tq=some (.lst (ts.map V.int))∧H' p=some (.lst [.int nA])∧∃(vk:Option V) (zs:List V) (sp:List Sn),σ=[some (.ref a),some (.ref t),some (.ref p),some (.int m),some (.ref tq),some (.ref Ls),vk,none]∧H' Ls=some (.lst zs)∧dW H' zs (dO Sn.row sp)∧sp.length≤i∧pJ b m ts 3 false true (1+i) sp) ⟨SC,hC,hpC,none,[],[],rfl,hLC,.nil,aC _,pJ.nil⟩ ?_ ?_
 ·rintro i σ HE hi ⟨SE,htE,hpE,vk,zs,sp,rfl,hLE,dE,lE,hid⟩
  have lz:zs.length=sp.length:=by rw[dE.length];unfold dO;rw[aa]
  apply⟨_,rfl,.inl ⟨rfl,_,SqL.of hLE⟩,_,rfl,_,rfl,_,_,rfl,rfl,a,ns,_,rfl,SE.seq ha,⋯,⋯,λn p' hp'=>⟨_,rfl,_,rfl,t,_,_,_,rfl,rfl,SqT.of ((SE.put hp') _ _ ht),aB (j:=0) rfl,_,rfl,?_⟩⟩;apply⟨p',tq,n,b,1+(i:Int),4,2,ts,rfl,aN,by rw[bz (bx htE hp')];exact htE,bx htE hp',b1,b2,⋯,⋯,⋯,↥0,↥0,λt' x HF _ _ MF hF okF wF kF eF=>?_⟩;obtain⟨hLF,s1,s2,s3,s4⟩:=put HE HF zs sp x t' p' n _ SE htE hpE hLE dE hp' MF hF;apply⟨Ls,zs,_,rfl,rfl,hLF,(aU (by lia:zs.length<1000) (by decide:1000≤bo)),?_⟩;apply⟨s1,s2,s3,_,_,sp++[x],rfl,aN,s4,by rw[av];show sp.length+1≤i+1;lia,?_⟩;have:=hid.more (x:=x) ⋯ (by rw[←lt];exact okF) (λz=>by cases z) wF eF;rw[show(1:Int)+((i+1:Nat):Int)=1+(i:Int)+1 by lia];exact this
 rintro σ HE ⟨SE,htE,hpE,vk,zs,sp,rfl,hLE,dE,lE,hid⟩;rw[show(1:Int)+((m - 1).toNat:Nat)=m by lia] at hid;apply⟨λσ' H'=>bC H H'∧∃(vj:Option V) (zs:List V) (sp:List Sn),σ'=[some (.ref a),some (.ref t),some (.ref p),some (.int m),some (.ref tq),some (.ref Ls),vk,vj]∧H' Ls=some (.lst zs)∧dW H' zs (dO Sn.row sp)∧sp.length≤6∧pJ b m ts 3 false true m sp,?_,?_⟩
 rotate_left
 ·apply⟨_,rfl,_,_,rfl,rfl,_,rfl,?_⟩
  apply ite2 (λhm=>?_) (λ_=>⟨SE,_,zs,sp,rfl,hLE,dE,⋯,hid⟩);have hm:m > 1:=rZ hm;apply⟨_,rfl,p,nA,5,rfl,hpE,↥0,↥0,λcn HG a5 c5 MG=>⟨cn,rfl,⋯,⋯,?_⟩⟩;have SG:bC H HG:=bC.mv SE hp MG;obtain⟨nG,hpG⟩:=MG.2;have htG:=MG.at htE (cx npt);have hLG:=MG.at hLE (cx nLp);have dG:=fh (Mv.tupK hpE MG) dE;apply kq (n:=cn.toNat) (λi σ H'=>bC H H'∧H' tq=some (.lst (ts.map V.int))∧H' p=some (.lst [.int nG])∧∃(vj:Option V) (zs:List V) (sp:List Sn),σ=[some (.ref a),some (.ref t),some (.ref p),some (.int m),some (.ref tq),some (.ref Ls),vk,vj]∧H' Ls=some (.lst zs)∧dW H' zs (dO Sn.row sp)∧sp.length≤2+i∧pJ b m ts 3 false true m sp) ⟨SG,htG,hpG,none,zs,sp,rfl,hLG,dG,⋯,hid⟩ ?_ ?_
  ·clear hid dE hLE htE hpE SE lE hLG htG SG MG dG zs sp
   rintro i σ HE hi ⟨SE,htE,hpE,vj,zs,sp,rfl,hLE,dE,lE,hid⟩;have lz:zs.length=sp.length:=by rw[dE.length];unfold dO;rw[aa]
   apply⟨_,rfl,.inl ⟨rfl,_,SqL.of hLE⟩,_,rfl,_,rfl,_,_,rfl,rfl,a,ns,_,rfl,SE.seq ha,⋯,⋯,λn p' hp'=>⟨_,rfl,_,rfl,t,_,_,_,rfl,rfl,SqT.of ((SE.put hp') _ _ ht),aB (j:=0) rfl,_,rfl,t,_,_,_,rfl,rfl,SqT.of ((SE.put hp') _ _ ht),aB (j:=0) rfl,?_⟩⟩;apply⟨p',tq,n,b,b,2,ts,rfl,aN,by rw[bz (bx htE hp')];exact htE,bx htE hp',b1,b2,⋯,⋯,⋯,λt' x HF _ _ MF hF okF wF kF=>?_⟩;obtain⟨hLF,s1,s2,s3,s4⟩:=put HE HF zs sp x t' p' n _ SE htE hpE hLE dE hp' MF hF;apply⟨Ls,zs,_,rfl,rfl,hLF,(aU (by lia:zs.length<1000) (by decide:1000≤bo)),?_⟩;apply⟨s1,s2,s3,_,_,sp++[x],rfl,aN,s4,by rw[av];show sp.length+1≤2+(i+1);lia,?_⟩;have:=hid.put (x:=x) (by rw[←lt];exact okF) (λz=>by cases z) (λz=>by cases z) sp.length;rw[aX,List.drop_length] at this;exact this
  ·rintro σ HF ⟨SF,_,_,vj,zs,sp,rfl,hLF,dF,lF,hidF⟩
   exact⟨SF,vj,zs,sp,rfl,hLF,dF,⋯,hidF⟩
 clear hid dE hLE htE hpE SE lE zs sp;rintro σ' HE ⟨SE,vj,zs,sp,rfl,hLE,dE,lE,hid⟩;apply⟨_,rfl,t,_,_,_,rfl,rfl,SqT.of (SE _ _ ht),aB (j:=0) rfl,_,rfl,_,rfl,Ls,_,rfl,SqL.of hLE,λqB HB SB hB=>⟨(by show 3≤bo;decide),λtC HC SC hC=>?_⟩⟩;exact k (.ref tC) m sp HC (SE.trans (SB.trans SC)) (.tup hC (.cons (.int b) (.cons (.int m) (.cons (.tup (SC _ _ hB) (dE.same (SB.trans SC))) .nil)))) ⟨b1,⋯,m1,⋯,⋯,λx hx=>(hid.all x hx).1⟩ m3 hid.narrow lE
abbrev sWhole:cJ:=top 6
theorem scWhole:bW ["thing"] ["thing"] (defScope sWhole):=by trivial
theorem ok_whole (F:Fun K "is_whole" "is_whole" sWhole f fd)(T:Nm mg):cG P w K mg base CX0 1 f fd ["thing"] spWhole:=by
 specialize F.ok scWhole;obtain⟨v,rfl,⟨S,hS⟩,k⟩:=h;apply⟨_,cL (cf (pe_and (pe_isInt T (pv 0)) (pe_one (pe_not (pe_isBool T (pv 0)))))),?_⟩;apply⟨_,rfl,_,_,rfl,hS,_,rfl,?_⟩;apply ite2 (λhc=>?_) (λhc=>?_)
 ·apply⟨_,rfl,_,_,rfl,hS,_,rfl,?_⟩
  rw[sort_int hS hc];exact k
 ·rw[←sort_noInt hS hc];exact k
abbrev pe:cJ:=top 61
abbrev sCheckO:cJ:=top 62
abbrev qe:cJ:=top 63
abbrev sTabNam:cJ:=top 64
theorem allTr (n:Nat):(bQ n true).all id=true:=List.all_eq_true.mpr λx hx=>by rw[List.eq_of_mem_replicate hx];rfl
theorem rg_vals (n:Nat):(aJ n).map (λ(k:Nat)=>V.int (k:Int))=(rgI n).map V.int:=by unfold rgI;rw[cg];rfl
theorem scIsOrder:bW pzu pzu (defScope pe):=by trivial
theorem ok_isOrder (F:Fun K "is_order" "is_order" pe f fd)(T:Nm mg)(T2:Nt mg)(TS:mg "sorted" =none)(G1:Fn K mg "is_whole" sWhole ["thing"] f1 fd1):cG P w K mg base CX0 2 f fd pzu pU:=by
 have F1:cG P w K mg base CX0 1 f1 fd1 ["thing"] spWhole:=ok_whole G1.F T;specialize F.ok scIsOrder;obtain ⟨t,u,n,os,rfl,⟨⟨b,rest,ht⟩,hu,ho,hn⟩,k⟩:=h;have hl:=ho.len;apply ⟨_,PSl.h (aZ ⟨(ib (PW.pt (pw_or (qj (mr (pe_isTup T (pv 1)))) (pw_or1 (qj (mr (d5 (call_all rfl) rfl T.all boot_all (ae (gm (fr:=[]) (js:=[]) rfl (jj (pv 1)) (by trivial) rfl (by trivial) rfl (by exists pe) (by trivial) rfl (by trivial) (fun _ _ _ _ _=>⟨(pc1 G1 F1 hr (ae (pv 0) aA)),fW⟩)) aA))))))) (cL (cf oP)) dX)⟩
  (cW ⟨(cf (mH (op_eqI hr.units) (d5 call_sortedT rfl TS boot_sorted (ae (pv 1) aA)) (dk (oy rfl) rfl T2.tlist boot_list (ae (dk nP rfl T2.range boot_range (ae (ixZ (pv 0)) aA)) aA)) (dI _)))⟩)),?_⟩
 have tyu:tyn H (.ref u)=some "tuple" := by simp only[tyn];rw[hu]
 apply⟨_,rfl,_,"tuple",rfl,tyu,_,rfl,lW ↥0 ?_⟩;apply⟨_,rfl,u,rfl,⟨_,SqT.of hu⟩,?_⟩;apply iJ (K:=K) (a:=u) (xs:=os.map V.int) (λi zs H2=>H2=H∧zs=(bQ i true).map V.bl) ⟨rfl,rfl⟩ (λi zs H2 hi ⟨e1,e2⟩=>?_) (by rw[aa];exact dm ⋯) (λi x zs H2 hx ⟨e1,e2⟩=>?_) (λzs H2 ⟨e1,e2⟩ D hD=>?_)
 ·subst e1
  exact⟨SqT.of hu,by rw[e2,aa,gv];exact aC _⟩
 ·subst e1
  rw[ar] at hx;obtain⟨m,_,rfl⟩:=br.mp hx;apply eS ?_;exact⟨_,rfl,_,rfl,⟨"int",rfl⟩,rfl,by rw[e2,List.replicate_succ',ax];rfl⟩
 subst e1;subst e2;apply⟨D,_,rfl,SqL.of aN,_,rfl,lW (by rw[allTr];rfl) ?_⟩;have S1:bC H2 (upd H2 D (.lst ((bQ (os.map V.int).length true).map V.bl))):=bC.put (bC.refl H2) hD;generalize upd H2 D (.lst ((bQ (os.map V.int).length true).map V.bl))=H1 at S1 ⊢;apply⟨_,rfl,u,os,rfl,SqT.of (S1 _ _ hu),⋯,λl ns' hl' hp hs=>?_⟩;have e:=sorted_ord ho hp hs;subst e;have S2:bC H1 (upd H1 l (.lst ((rgI n).map V.int))):=bC.put (bC.refl H1) hl';have h2:(upd H1 l (.lst ((rgI n).map V.int))) l=some (.lst ((rgI n).map V.int)):=aN;generalize upd H1 l (.lst ((rgI n).map V.int))=H3 at S2 h2 ⊢;apply⟨_,rfl,t,_,_,_,rfl,rfl,SqT.of (S2 _ _ (S1 _ _ ht)),aB (j:=1) rfl,(n:Int),rfl,λq4 H4 S4 h4=>?_⟩;apply⟨q4,n,rfl,h4,⋯,λl2 hl2=>?_⟩;have S5:=bC.put (o:= .lst ((aJ n).map λ(k:Nat)=>V.int (k:Int))) (bC.refl H4) hl2;apply⟨l,l2,rgI n,rgI n,rfl,rfl,SqL.of (S5 _ _ (S4 _ _ h2)),SqL.of (by rw[←rg_vals];exact aN),?_⟩;rw[rX rfl];exact k _ (S1.trans (S2.trans (S4.trans S5)))
theorem scCheckO:bW pzh pzh (defScope sCheckO):=by trivial
theorem ok_checkO (F:Fun K "check_order" "check_order" sCheckO f fd)(G1:Fn K mg "is_order" pe pzu f1 fd1)(F1:cG P w K mg base CX0 2 f1 fd1 pzu pU):cG P w K mg base CX0 3 f fd pzh o6:=by
 specialize F.ok scCheckO;obtain⟨t,u,n,os,rfl,hO,k⟩:=h;apply⟨_,PSl.h (cW ⟨(ib (qj (mr (pc1 G1 F1 hr (ae (pv 0) (ae (pv 1) aA))))) (cL l9) dX)⟩),?_⟩;exact⟨_,rfl,_,rfl,t,u,n,os,rfl,hO,λH1 S1=>⟨_,rfl,lW (by rfl) (k H1 S1)⟩⟩
theorem scNamedA:bW ["net","order","names"] pzh (defScope qe):=by trivial
theorem ok_namedA (F:Fun K "named_anew" "named_anew" qe f fd)(T:Nm mg)(T2:Nt mg)(G1:Fn K mg "check_order" sCheckO pzh f1 fd1)(F1:cG P w K mg base CX0 3 f1 fd1 pzh o6)(G2:Fn K mg "span_named" sNamed pzp f2 fd2):cG P w K mg base CX0 4 f fd pzh spNamedA:=by
 have F2:cG P w K mg base CX0 1 f2 fd2 pzp spNamed:=ok_named G2.F;specialize F.ok scNamedA;obtain ⟨v,u,b,n,sp,os,rfl,hv,hu,ho,hn,hs,few,k⟩:=h;obtain ⟨t,p,ys,rfl,ht,hp,hl,hy⟩:=eU hv;have hr1:iD 1 _:=hr.mono ↥0;apply ⟨_,PSl.h (aZ ⟨(iY (pc1 G1 F1 hr (ae (pv 0) (ae (pv 1) aA))))⟩
  (aZ ⟨(psZ 2 scNamedA.nd (gm (fr:=["order"]) (js:=[1]) rfl (hX rfl T2.range (ae (ixZ (pv 0)) aA)) (by trivial) rfl (by trivial) rfl (by exists qe) (by trivial) rfl (by trivial) (fun _ _ _ _ _=>⟨(pe_bmT (r:=rIndexT K) PySem.F.slot_tuple_index PySem.F.type_tuple_index mt_indexT (pv 1) (ae (pv 0) aA)),fW⟩)))⟩
  (cW ⟨(cf (dh (ae (ixZ (pv 0)) (ae (ixZ (pv 0)) (ae (dk fU rfl T.ttup eX (ae (gm (fr:=["names"]) (js:=[2]) rfl (jj (ixZ (pv 0))) (by trivial) rfl (by trivial) rfl (by exists qe) (by trivial) rfl (by trivial) (fun _ _ _ _ _=>⟨(pc1 G2 F2 hr1 (ae (pv 0) (ae (pv 1) aA))),fW⟩)) aA)) aA)))))⟩))),?_⟩
 apply⟨_,rfl,_,rfl,t,u,n,os,rfl,⟨⟨b,_,ht⟩,hu,ho,hn⟩,λH1 S1=>?_⟩;apply⟨_,rfl,t,_,_,_,rfl,rfl,SqT.of (S1 _ _ ht),aB (j:=1) rfl,(n:Int),rfl,⋯,⋯,?_⟩;apply jG (n:=((n:Int)).toNat) (λi zs H2=>H2=H1∧zs=(((rgI n).take i).map (posI os)).map V.int) ⟨rfl,rfl⟩ (λi zs H2 hi ⟨_,e2⟩=>by rw[e2,aa,aa,bw];lia) (dm ⋯) (λi zs H2 hi ⟨e1,e2⟩=>?_) (λzs H2 ⟨e1,e2⟩ L hL=>?_)
 ·subst e1
  have hi':i<n:=by lia
  have zi:(0:Int)+(i:Nat)=(i:Nat):=il _;rw[zi];apply eS ?_;apply⟨_,rfl,⟨u,_,rfl,(S1 _ _ hu)⟩,_,rfl,u,os,(i:Int),os.idxOf (i:Int),rfl,rfl,SqT.of (S1 _ _ hu),ho.at ⋯ ⋯,λj hj=>ho.first hj,rfl,?_⟩;rw[e2,aY,rgI_at hi',ax,ax];rfl
 subst e1;have e3:zs=(kA os n).map V.int:=by rw[e2];unfold kA;rw[ig (by rw[rgI_len];lia)]
 subst e3;have S3:bC H (upd H2 L (.lst ((kA os n).map V.int))):=S1.put hL;have h3:(upd H2 L (.lst ((kA os n).map V.int))) L=some (.lst ((kA os n).map V.int)):=aN;generalize upd H2 L (.lst ((kA os n).map V.int))=H3 at S3 h3 ⊢;clear hL S1 e2;apply⟨_,rfl,t,_,_,_,rfl,rfl,SqT.of (S3 _ _ ht),aB (j:=0) rfl,_,rfl,t,_,_,_,rfl,rfl,SqT.of (S3 _ _ ht),aB (j:=1) rfl,_,rfl,t,_,_,_,rfl,rfl,SqT.of (S3 _ _ ht),aB (j:=2) rfl,p,rfl,⟨_,SqT.of (S3 _ _ hp)⟩,?_⟩;apply iJ (K:=K) (a:=p) (xs:=ys) (λi zs H4=>bC H3 H4∧dW H4 zs (dO Sn.row ((sp.take i).map (namS (kA os n))))) ⟨bC.refl H3,.nil⟩ (λi zs H4 hi ⟨e1,e2⟩=>?_) (by rw[hl];exact dm few) (λi x zs H4 hx ⟨e1,e2⟩=>?_) (λzs H4 ⟨e1,e2⟩ D hD=>?_)
 ·apply⟨SqT.of (e1 _ _ (S3 _ _ hp)),?_⟩
  rw[e2.length];unfold dO;rw[aa,aa,bw];lia
 ·have hi:i<sp.length:=by rw[←hl];exact(ao.mp hx).1
  obtain⟨q,hq,hq2⟩:=hy i sp[i] (gE hi);rw[hx] at hq;cases hq;obtain⟨s0,s1,g0,g1⟩:=hs sp[i] (bH hi);apply eS ?_;apply⟨_,rfl,_,rfl,q,L,sp[i],kA os n,rfl,e1 _ _ (S3 _ _ hq2),e1 _ _ h3,s0,by rw[pG];exact s1,g0,by rw[pG];exact g1,λq5 H5 S5 h5=>⟨e1.trans S5,?_⟩⟩;unfold dO;rw[aY,gE hi,ax,ax];exact(e2.same S5).append (.cons (.tup h5 (dW.ints (namS (kA os n) sp[i]).row)) .nil)
 ·apply⟨D,_,rfl,SqL.of aN,λp5 H5 S5 h5=>⟨(by show 3≤bo;decide),λt6 H6 S6 h6=>?_⟩⟩
  have S45:=(bC.put (o:= .lst zs) (bC.refl H4) hD).trans S5;rw[hl,aX] at e2;exact k (.ref t6) H6 (S3.trans (e1.trans (S45.trans S6))) (.tup h6 (.cons (.int b) (.cons (.int _) (.cons (.tup (S6 _ _ h5) (e2.same (S45.trans S6))) .nil))))
theorem scTabNam:bW pzC pzC (defScope sTabNam):=by trivial
theorem ok_tabNam (F:Fun K "table_named_anew" "table_named_anew" sTabNam f fd)(T:Nm mg)(G1:Fn K mg "check_order" sCheckO pzh f1 fd1)(F1:cG P w K mg base CX0 3 f1 fd1 pzh o6):cG P w K mg base CX0 4 f fd pzC spTabNam:=by
 specialize F.ok scTabNam;obtain ⟨t,u1,u2,n,ts,os,rfl,hO,hu1,hts,k⟩:=h;obtain ⟨_,hu2,ho,hn⟩:=id hO;have hlo:=ho.len;apply ⟨_,PSl.h (aZ ⟨(iY (pc1 G1 F1 hr (ae (pv 0) (ae (pv 2) aA))))⟩
  (cW ⟨(cf (dk fU rfl T.ttup eX (ae (gm (fr:=["table"]) (js:=[1]) rfl (jj (pv 2)) (by trivial) rfl (by trivial) rfl (by exists sTabNam) (by trivial) rfl (by trivial) (fun _ _ _ _ _=>⟨(eM (r:=pj K) eJ (pv 1) (pv 0) (fun _ _=>rfl)),fW⟩)) aA)))⟩)),?_⟩
 apply⟨_,rfl,_,rfl,t,u2,n,os,rfl,hO,λH1 S1=>?_⟩;apply⟨_,rfl,u2,rfl,⟨_,SqT.of (S1 _ _ hu2)⟩,?_⟩;apply iJ (K:=K) (a:=u2) (xs:=os.map V.int) (λi zs H2=>H2=H1∧zs=(mq ts (os.take i)).map V.int) ⟨rfl,rfl⟩ (λi zs H2 hi ⟨e1,e2⟩=>?_) (by rw[aa];exact dm ⋯) (λi x zs H2 hx ⟨e1,e2⟩=>?_) (λzs H2 ⟨e1,e2⟩ D hD=>?_)
 ·subst e1
  exact⟨SqT.of (S1 _ _ hu2),by rw[e2,aa,permT_len,bw];lia⟩
 ·subst e1
  rw[ar] at hx;obtain⟨m,em,rfl⟩:=br.mp hx;obtain⟨m0,m1⟩:=ho.mem.mp (bp em);apply eS ?_;apply⟨_,rfl,_,rfl,u1,_,_,_,rfl,rfl,SqT.of (S1 _ _ hu1),pO m0 ⋯,rfl,?_⟩;rw[e2];unfold mq;rw[aY,em,ax,ax];rfl
 ·subst e1
  apply⟨D,_,rfl,SqL.of aN,λp H3 S3 h3=>?_⟩;apply k p H3 (S1.trans ((bC.put (bC.refl H2) hD).trans S3)) ?_;rw[h3,e2,aa,aX]
abbrev sMirS:cJ:=top 54
abbrev sMir:cJ:=top 55
abbrev sTabMir:cJ:=top 56
theorem scMirS:bW ["span"] ["span"] (defScope sMirS):=by trivial
theorem ok_mirS (F:Fun K "mirrored_span" "mirrored_span" sMirS f fd):cG P w K mg base CX0 1 f fd ["span"] spMirS:=by
 specialize F.ok scMirS;obtain⟨q,x,rfl,hq,k⟩:=h;apply⟨_,PSl.h (cW ⟨(cf (dh (ae (ixZ (pv 0)) (ae (ixZ (pv 0)) (ae (ixZ (pv 0)) (ae (ixZ (pv 0)) (ae (ixZ (pv 0)) aA)))))))⟩),?_⟩;exact⟨_,rfl,q,_,_,_,rfl,rfl,SqT.of hq,aB (j:=1) rfl,_,rfl,q,_,_,_,rfl,rfl,SqT.of hq,aB (j:=0) rfl,_,rfl,q,_,_,_,rfl,rfl,SqT.of hq,aB (j:=2) rfl,_,rfl,q,_,_,_,rfl,rfl,SqT.of hq,aB (j:=3) rfl,_,rfl,q,_,_,_,rfl,rfl,SqT.of hq,aB (j:=4) rfl,szZ5,λp H' S h=>k p H' S h⟩
theorem scMir:bW pza pza (defScope sMir):=by trivial
theorem ok_mir (F:Fun K "mirrored" "mirrored" sMir f fd)(T:Nm mg)(G1:Fn K mg "mirrored_span" sMirS ["span"] f1 fd1):cG P w K mg base CX0 2 f fd pza spMir:=by
 have F1:cG P w K mg base CX0 1 f1 fd1 ["span"] spMirS:=ok_mirS G1.F;specialize F.ok scMir;obtain⟨v,b,m,sp,rfl,hv,few,k⟩:=h;obtain⟨t,p,ys,rfl,ht,hp,hl,hy⟩:=eU hv;apply⟨_,PSl.h (cW ⟨(cf (dh (ae (ixZ (pv 0)) (ae (ixZ (pv 0)) (ae (dk fU rfl T.ttup eX (ae (gm (fr:=[]) (js:=[]) rfl (jj (ixZ (pv 0))) (by trivial) rfl (by trivial) rfl (by exists sMir) (by trivial) rfl (by trivial) (λ_ _ _ _ _=>⟨(pc1 G1 F1 hr (ae (pv 0) aA)),fW⟩)) aA)) aA)))))⟩),?_⟩;apply⟨_,rfl,t,_,_,_,rfl,rfl,SqT.of ht,aB (j:=0) rfl,_,rfl,t,_,_,_,rfl,rfl,SqT.of ht,aB (j:=1) rfl,_,rfl,t,_,_,_,rfl,rfl,SqT.of ht,aB (j:=2) rfl,p,rfl,⟨_,SqT.of hp⟩,?_⟩;apply iJ (K:=K) (a:=p) (xs:=ys) (λi zs H2=>bC H H2∧dW H2 zs (dO Sn.row ((sp.take i).map mirS))) ⟨bC.refl H,.nil⟩ (λi zs H2 hi ⟨e1,e2⟩=>?_) (by rw[hl];exact dm few) (λi x zs H2 hx ⟨e1,e2⟩=>?_) (λzs H2 ⟨e1,e2⟩ D hD=>?_)
 ·apply⟨SqT.of (e1 _ _ hp),?_⟩
  rw[e2.length];unfold dO;rw[aa,aa,bw];lia
 ·have hi:i<sp.length:=by rw[←hl];exact(ao.mp hx).1
  obtain⟨q,hq,hq2⟩:=hy i sp[i] (gE hi);rw[hx] at hq;cases hq;apply eS ?_;apply⟨_,rfl,q,sp[i],rfl,e1 _ _ hq2,λq4 H4 S4 h4=>⟨e1.trans S4,?_⟩⟩;unfold dO;rw[aY,gE hi,ax,ax];exact(e2.same S4).append (.cons (.tup h4 (dW.ints (mirS sp[i]).row)) .nil)
 ·apply⟨D,_,rfl,SqL.of aN,λp3 H3 S3 h3=>⟨(by show 3≤bo;decide),λt4 H4 S4 h4=>?_⟩⟩
  have S23:=(bC.put (o:= .lst zs) (bC.refl H2) hD).trans S3;rw[hl,aX] at e2;exact k (.ref t4) H4 (e1.trans (S23.trans S4)) (.tup h4 (.cons (.int b) (.cons (.int m) (.cons (.tup (S4 _ _ h3) (e2.same (S23.trans S4))) .nil))))
theorem scTabMir:bW pzd pzd (defScope sTabMir):=by trivial
theorem ok_tabMir (F:Fun K "table_mirrored" "table_mirrored" sTabMir f fd)(T:Nm mg)(G1:Fn K mg "rest_by" sRest pzj f1 fd1):cG P w K mg base CX0 2 f fd pzd spTabMir:=by
 have F1:cG P w K mg base CX0 1 f1 fd1 pzj spRest:=ok_rest G1.F;specialize F.ok scTabMir;obtain⟨t,u,b,rest,ns,rfl,ht,hu,hb,hn,k⟩:=h;apply⟨_,PSl.h (cW ⟨(cf (dk fU rfl T.ttup eX (ae (gm (fr:=pza) (js:=[0]) rfl (jj (pv 1)) (by trivial) rfl (by trivial) rfl (by exists sTabMir) (by trivial) rfl (by trivial) (λ_ _ _ _ _=>⟨(pc1 G1 F1 hr (ae (eM (r:=pj K) eJ (pv 1) bI (λ_ _=>rfl)) (ae (pe_un un_neg (pv 0)) aA))),fW⟩)) aA)))⟩),?_⟩;apply⟨_,rfl,u,rfl,⟨_,SqT.of hu⟩,?_⟩;apply iJ (K:=K) (a:=u) (xs:=ns.map V.int) (λi zs H2=>H2=H∧zs=(mirT b (ns.take i)).map V.int) ⟨rfl,rfl⟩ (λi zs H2 hi ⟨e1,e2⟩=>?_) (by rw[aa];exact dm hn) (λi x zs H2 hx ⟨e1,e2⟩=>?_) (λzs H2 ⟨e1,e2⟩ D hD=>?_)
 ·subst e1
  apply⟨SqT.of hu,?_⟩;rw[e2,aa,mirT_len,bw];lia
 ·subst e1
  rw[ar] at hx;obtain⟨n,en,rfl⟩:=br.mp hx;apply eS ?_;apply⟨_,rfl,t,_,_,_,rfl,rfl,SqT.of ht,aB (j:=0) rfl,_,rfl,_,rfl,b,_,rfl,hb,rfl,?_⟩;rw[e2];unfold mirT;rw[aY,en];simp
 ·subst e1
  apply⟨D,_,rfl,SqL.of aN,λp H3 S3 h3=>?_⟩;apply k p H3 ((bC.put (bC.refl H2) hD).trans S3) ?_;rw[h3,e2,aa,aX]
abbrev sStrS:cJ:=top 57
abbrev sStr:cJ:=top 58
abbrev sTabStr:cJ:=top 59
theorem scStrS:bW pzD pzD (defScope sStrS):=by trivial
theorem ok_strS (F:Fun K "stretched_span" "stretched_span" sStrS f fd):cG P w K mg base CX0 1 f fd pzD spStrS:=by
 specialize F.ok scStrS;obtain⟨q,x,n,rfl,hq,n0,n1,k⟩:=h;apply⟨_,PSl.h (cW ⟨(cf (dh (ae (ixZ (pv 0)) (ae (ixZ (pv 0)) (ae (cS jk (ixZ (pv 0)) (pv 1)) (ae (cS jk (ixZ (pv 0)) (pv 1)) (ae (ixZ (pv 0)) aA)))))))⟩),?_⟩;exact⟨_,rfl,q,_,_,_,rfl,rfl,SqT.of hq,aB (j:=0) rfl,_,rfl,q,_,_,_,rfl,rfl,SqT.of hq,aB (j:=1) rfl,_,rfl,q,_,_,_,rfl,rfl,SqT.of hq,aB (j:=2) rfl,_,rfl,_,_,rfl,rfl,.inr ⟨⋯,⋯⟩,_,rfl,q,_,_,_,rfl,rfl,SqT.of hq,aB (j:=3) rfl,_,rfl,_,_,rfl,rfl,.inr ⟨⋯,⋯⟩,_,rfl,q,_,_,_,rfl,rfl,SqT.of hq,aB (j:=4) rfl,szZ5,λp H' S h=>k p H' S h⟩
theorem scStr:bW pzE pzE (defScope sStr):=by trivial
theorem ok_str (F:Fun K "stretched" "stretched" sStr f fd)(T:Nm mg)(G1:Fn K mg "stretched_span" sStrS pzD f1 fd1):cG P w K mg base CX0 2 f fd pzE spStr:=by
 have F1:cG P w K mg base CX0 1 f1 fd1 pzD spStrS:=ok_strS G1.F;specialize F.ok scStr;obtain⟨v,b,m,sp,n,rfl,hv,few,n0,n1,k⟩:=h;obtain⟨t,p,ys,rfl,ht,hp,hl,hy⟩:=eU hv;apply⟨_,PSl.h (cW ⟨(cf (dh (ae (cS jk (ixZ (pv 0)) (pv 1)) (ae (ixZ (pv 0)) (ae (dk fU rfl T.ttup eX (ae (gm (fr:=["number"]) (js:=[1]) rfl (jj (ixZ (pv 0))) (by trivial) rfl (by trivial) rfl (by exists sStr) (by trivial) rfl (by trivial) (λ_ _ _ _ _=>⟨(pc1 G1 F1 hr (ae (pv 0) (ae (pv 1) aA))),fW⟩)) aA)) aA)))))⟩),?_⟩;apply⟨_,rfl,t,_,_,_,rfl,rfl,SqT.of ht,aB (j:=0) rfl,_,rfl,_,_,rfl,rfl,.inr ⟨⋯,⋯⟩,_,rfl,t,_,_,_,rfl,rfl,SqT.of ht,aB (j:=1) rfl,_,rfl,t,_,_,_,rfl,rfl,SqT.of ht,aB (j:=2) rfl,p,rfl,⟨_,SqT.of hp⟩,?_⟩;apply iJ (K:=K) (a:=p) (xs:=ys) (λi zs H2=>bC H H2∧dW H2 zs (dO Sn.row ((sp.take i).map (nX n)))) ⟨bC.refl H,.nil⟩ (λi zs H2 hi ⟨e1,e2⟩=>?_) (by rw[hl];exact dm few) (λi x zs H2 hx ⟨e1,e2⟩=>?_) (λzs H2 ⟨e1,e2⟩ D hD=>?_)
 ·apply⟨SqT.of (e1 _ _ hp),?_⟩
  rw[e2.length];unfold dO;rw[aa,aa,bw];lia
 ·have hi:i<sp.length:=by rw[←hl];exact(ao.mp hx).1
  obtain⟨q,hq,hq2⟩:=hy i sp[i] (gE hi);rw[hx] at hq;cases hq;apply eS ?_;apply⟨_,rfl,_,rfl,q,sp[i],n,rfl,e1 _ _ hq2,n0,n1,λq4 H4 S4 h4=>⟨e1.trans S4,?_⟩⟩;unfold dO;rw[aY,gE hi,ax,ax];exact(e2.same S4).append (.cons (.tup h4 (dW.ints (nX n sp[i]).row)) .nil)
 ·apply⟨D,_,rfl,SqL.of aN,λp3 H3 S3 h3=>⟨(by show 3≤bo;decide),λt4 H4 S4 h4=>?_⟩⟩
  have S23:=(bC.put (o:= .lst zs) (bC.refl H2) hD).trans S3;rw[hl,aX] at e2;exact k (.ref t4) H4 (e1.trans (S23.trans S4)) (.tup h4 (.cons (.int (b * n)) (.cons (.int m) (.cons (.tup (S4 _ _ h3) (e2.same (S23.trans S4))) .nil))))
theorem scTabStr:bW pzF pzF (defScope sTabStr):=by trivial
theorem ok_tabStr (F:Fun K "table_stretched" "table_stretched" sTabStr f fd)(T:Nm mg):cG P w K mg base CX0 1 f fd pzF spTabStr:=by
 specialize F.ok scTabStr;obtain⟨u,ns,j,rfl,hu,j0,j1,hn,k⟩:=h;apply⟨_,PSl.h (cW ⟨(cf (dk fU rfl T.ttup eX (ae (gm (fr:=["number"]) (js:=[1]) rfl (jj (pv 0)) (by trivial) rfl (by trivial) rfl (by exists sTabStr) (by trivial) rfl (by trivial) (λ_ _ _ _ _=>⟨(cS jk (pv 0) (pv 1)),fW⟩)) aA)))⟩),?_⟩;apply⟨_,rfl,u,rfl,⟨_,SqT.of hu⟩,?_⟩;apply iJ (K:=K) (a:=u) (xs:=ns.map V.int) (λi zs H2=>H2=H∧zs=(qT j (ns.take i)).map V.int) ⟨rfl,rfl⟩ (λi zs H2 hi ⟨e1,e2⟩=>?_) (by rw[aa];exact dm hn) (λi x zs H2 hx ⟨e1,e2⟩=>?_) (λzs H2 ⟨e1,e2⟩ D hD=>?_)
 ·subst e1
  apply⟨SqT.of hu,?_⟩;rw[e2,aa,strT_len,bw];lia
 ·subst e1
  rw[ar] at hx;obtain⟨n,en,rfl⟩:=br.mp hx;apply eS ?_;apply⟨_,rfl,_,rfl,_,_,rfl,rfl,.inr ⟨⋯,⋯⟩,rfl,?_⟩;rw[e2];unfold qT;rw[aY,en];simp
 ·subst e1
  apply⟨D,_,rfl,SqL.of aN,λp H3 S3 h3=>?_⟩;apply k p H3 ((bC.put (bC.refl H2) hD).trans S3) ?_;rw[h3,e2,aa,aX]
abbrev sLaw:cJ:=top 84
inductive spLawTs (Ts:List ak)(K:ai)(vs:List V)(H:Hp)(Q:VK)(_:XK):Prop
 | mk (a:ak)(ns:List Int)(_:vs=[.ref a])(_:SqL K H a (ns.map V.int))(_:(∀T∈Ts,H T=some (.tbl #[])))(_:∀H',Q (.bl true) H')
theorem ia.str4 {c:Nat}(N:ia b (n:Int) sp)(b2:b≤10 ^ 40)(co:∀x∈sp,x.o<10 ^ 55)(c1:1≤c)(c4:c≤4):ia (b * c) (n:Int) (sp.map (nX c)):=by
 have b1:=N.b1;have q1:(1:Int)≤c:=by lia
 have q4:(c:Int)≤4:=by lia
 apply⟨?_,?_,N.m1,N.m2,by rw[aa];exact N.few,λx hx=>?_⟩
 ·have:=i7 b1 q1 ↥0 ⋯
  lia
 ·exact gO (i7 b2 q4 ⋯ ↥0) ↥0
 ·obtain⟨y,hy,rfl⟩:=aL.mp hx
  have k:=N.all y hy;have o0:0≤y.o:=gO k.l0 k.lo;apply⟨k.s0,k.s1,k.g0,k.g1,k.ne,Int.mul_nonneg k.l0 ⋯,kd k.lo ⋯,?_,?_,k.w0,k.w1⟩
  ·show y.o * c<y.l * c+b * c
   rw[←Int.add_mul];exact kK k.ob ⋯
  ·show y.o * c<10 ^ 60
   exact Int.lt_of_le_of_lt (i7 (Int.le_of_lt (co y hy)) q4 ⋯ ↥0) ↥0
theorem lim3 (h1:1≤n)(h3:n≤3){k:Nat}(hk:k<(n:Int).toNat):(jE n - 1+1) ^ k≤49 :=
 (by trivial:∀n∈aJ 4,1≤n→∀k∈aJ n,(jE (n:Nat) - 1+1) ^ k≤49) n (bF.mpr ⋯) h1 k (bF.mpr hk)
theorem lim4 {c:Nat}(h1:1≤n)(h3:n≤3)(c1:c≤4){k:Nat}(hk:k<(n:Int).toNat):((jE n - 1) * c+1) ^ k≤4096 :=
 (by trivial:∀c∈aJ 5,∀n∈aJ 4,1≤n→∀k∈aJ n,((jE (n:Nat) - 1) * (c:Nat)+1) ^ k≤4096) c (bF.mpr ⋯) n (bF.mpr ⋯) h1 k (bF.mpr hk)
theorem few3 {m:Int}(h3:m≤3){k:Nat}(hk:k<m.toNat):((3:Int)+1) ^ k≤16:=by
 have:k=0∨k=1∨k=2:=by lia
 rcases this with rfl | rfl | rfl <;> decide
def Itm (H:Hp)(vn vt vd:V):Prop:=∃(b m:Int) (sp:List Sn),IsD H vn (jA b m sp)∧ia b m sp∧(∀l,jh m.toNat sp l→hW sp l≤4096)∧Due H b m sp vt vd∧∀o,Tld b m sp o→wV b sp 1 o=vd
theorem Itm.kp {vn vt vd:V}(h:Itm H vn vt vd)(e:kr H H'):Itm H' vn vt vd:=by
 obtain⟨b,m,sp,x1,x2,x3,x4,x5⟩:=h;apply⟨b,m,sp,cq e x1,x2,x3,?_,x5⟩
 rcases x4 with x | ⟨u,ts,y1,y2,y3⟩
 ·exact .inl x
 ·exact .inr ⟨u,ts,y1,e _ _ y2,y3⟩
theorem tabV.kp:∀{o:Option (List Int)},tabV H v o→kr H H'→tabV H' v o
 | none,h,_=>h
 | some _,⟨u,x,y⟩,e=>⟨u,x,e _ _ y⟩
theorem due_of {m c:Int}{vt:V}{o:Option (List Int)}(h:Tld b m sp o)(f:∀t,kU b m sp t→kU b' m sp' (F t)∧bU b' (F t) sp'=bU b t sp * c)(v:tabV H vt (o.map F)):Due H b' m sp' vt (wV b sp c o):=by
 cases o with
 | none=>exact .inl rfl
 | some t =>
  obtain⟨u,x,y⟩:=v;obtain⟨k,e⟩:=f t h.1;exact .inr ⟨u,_,x,y,k,by rw[e];rfl⟩
theorem nj:bW ["_law_script","_law_net_here","_law_times","_law_table","_law_wait_here","_law_number","_law_order_here","_law_long","_law_tables","_law_nets","_law_dues","_law_k"] ["_law_script"] (defScope sLaw):=by trivial
theorem ok_law {f5 f6 f7 f8 f9 fA fB fC fD fE TT T3:ak}{fd5 fd6 fd7 fd8 fd9 fdA fdB fdC fdD fdE:bh}(F:Fun K "law" "law" sLaw f fd)(T:Nm mg)(T2:Nt mg)
  (G1:Fn K mg "_law_net" sNetH pzB f1 fd1) (F1:cG P w K mg base CX0 4 f1 fd1 pzB (spNetH K))
  (G2:Fn K mg "_law_asked" sAsk pzo f2 fd2) (F2:cG P w K mg base CX0 14 f2 fd2 pzo (spAskQ T0 p0 q0 T1 p1 q1 TT T3))
  (G3:Fn K mg "_law_pot" sPotT pze f3 fd3) (F3:cG P w K mg base CX0 2 f3 fd3 pze (q9 K))
  (G4:Fn K mg "_law_take" sTake pzf f4 fd4)
  (G5:Fn K mg "_law_order" sOrdR pzP f5 fd5) (F5:cG P w K mg base CX0 3 f5 fd5 pzP (spOrdR K))
  (G6:Fn K mg "table_mirrored" sTabMir pzd f6 fd6) (F6:cG P w K mg base CX0 2 f6 fd6 pzd spTabMir)
  (G7:Fn K mg "table_stretched" sTabStr pzF f7 fd7) (F7:cG P w K mg base CX0 1 f7 fd7 pzF spTabStr)
  (G8:Fn K mg "table_named_anew" sTabNam pzC f8 fd8) (F8:cG P w K mg base CX0 4 f8 fd8 pzC spTabNam)
  (G9:Fn K mg "mirrored" sMir pza f9 fd9) (F9:cG P w K mg base CX0 2 f9 fd9 pza spMir)
  (GA:Fn K mg "stretched" sStr pzE fA fdA) (FA:cG P w K mg base CX0 2 fA fdA pzE spStr)
  (GB:Fn K mg "named_anew" qe pzh fB fdB) (FB:cG P w K mg base CX0 4 fB fdB pzh spNamedA)
  (GC:Fn K mg "_law_carried" sCar pzA fC fdC) (FC:cG P w K mg base CX0 3 fC fdC pzA spCar)
  (GD:Fn K mg "_law_both" sBoth pzO fD fdD) (FD:cG P w K mg base CX0 15 fD fdD pzO (spBoth T0 p0 q0 T1 p1 q1 TT T3))
  (GE:Fn K mg "_law_other" sOth pzQ fE fdE) (FE:cG P w K mg base CX0 4 fE fdE pzQ (spOthR K)):cG P w K mg base CX0 16 f fd ["_law_script"] (spLawTs [T0,T1,TT,T3] K):=by
 have F4:cG P w K mg base CX0 1 f4 fd4 pzf oF:=mJ G4.F;specialize F.ok nj;obtain ⟨a,ns,rfl,ha,hT,k⟩:=h;have hr1:iD 1 _:=hr.mono ↥0;have hr2:iD 2 _:=hr.mono ↥0;have hr3:iD 3 _:=hr.mono ↥0;have hr4:iD 4 _:=hr.mono ↥0;have hr14:iD 14 _:=hr.mono ↥0;have hr15:iD 15 _:=hr.mono ↥0;apply ⟨_,PSl.h (aZ ⟨(ps_asg (pc1 G1 F1 hr4 (ae (pv 0) (ae bI (ae bI (ae bI aA))))) (rm rfl (iI (pgZ 1 nj.nd) (iI (pgZ 2 nj.nd) oi))))⟩
  (aZ ⟨(ps_asg (pc1 G2 F2 hr14 (ae (pv 1) aA)) (rm rfl (iI (pgZ 3 nj.nd) (iI (pgZ 4 nj.nd) oi))))⟩
  (aZ ⟨(psZ 5 nj.nd (cS gh bI (pc1 G4 F4 hr1 (ae (pc1 G3 F3 hr2 (ae (pv 0) (ae bI aA))) (ae bI aA)))))⟩
  (aZ ⟨(psZ 6 nj.nd (pc1 G5 F5 hr3 (ae (pv 0) (ae (ixZ (pv 1)) aA))))⟩
  (aZ ⟨(psZ 7 nj.nd jz)⟩
  (aZ ⟨(psZ 8 nj.nd (i5 (ae jz (ae jz (ae jz aA)))))⟩
  (aZ ⟨(lQ (ib (cT op_notN (pv 3) jz (dI _)) (PSl.h (aZ ⟨(psZ 7 nj.nd (cS jk (pv 4) (pv 5)))⟩
  (cW ⟨(psZ 8 nj.nd (i5 (ae (pc1 G6 F6 hr2 (ae (pv 1) (ae (pv 3) aA))) (ae (pc1 G7 F7 hr1 (ae (pv 3) (ae (pv 5) aA))) (ae (pc1 G8 F8 hr4 (ae (pv 1) (ae (pv 3) (ae (pv 6) aA)))) aA)))))⟩))) dX))⟩
  (aZ ⟨(psZ 9 nj.nd (i5 (ae (pc1 G9 F9 hr2 (ae (pv 1) aA)) (ae (pc1 GA FA hr2 (ae (pv 1) (ae (pv 5) aA))) (ae (pc1 GB FB hr4 (ae (pv 1) (ae (pv 6) aA))) aA)))))⟩
  (aZ ⟨(psZ 10 nj.nd (i5 (ae (pv 4) (ae (pv 7) (ae (pv 4) aA)))))⟩
  (aZ ⟨(iP bR rfl (hX rfl T2.range (ae bI aA)) (pgZ 11 nj.nd) (cL (ib (qj (mr (pc1 GC FC hr3 (ae (eM fP (pv 9) (pv 11) (fun _ _=>rfl)) (ae (pc1 G2 F2 hr14 (ae (eM fP (pv 9) (pv 11) (fun _ _=>rfl)) aA)) (ae (eM fP (pv 8) (pv 11) (fun _ _=>rfl)) (ae (eM fP (pv 10) (pv 11) (fun _ _=>rfl)) aA))))))) (cL (cf oP)) dX)))⟩
  (cW ⟨(cf (pc1 GD FD hr15 (ae (pv 1) (ae (pc1 GE FE hr4 (ae (pv 0) (ae (pv 1) aA))) aA))))⟩))))))))))),?_⟩
 apply⟨_,rfl,a,ns,3,8,2,rfl,ha,↥0,↥0,↥0,↥0,λq u v b m sp ts H1 S1 hq hv N b2 m3 hu _ _ _ na few co=>?_⟩;apply⟨q,_,rfl,SqT.of hq,rfl,_,_,rfl,_,_,rfl,rfl,?_⟩;have L1:L4 T0 p0 q0 T1 p1 q1 TT T3 H1:=⟨LamT.same S1 (.inl (hT T0 ∅)),LamT.same S1 (.inl (hT T1 ∅)),LamT.same S1 (.inl (hT TT ∅)),(LamG.nil (hT T3 ∅)).same S1⟩;have b1:=N.b1;have m1:=N.m1;obtain⟨n,rfl⟩:=cp (by lia:0≤m);have cn:=N.cn na;have E:=N.endsIn;have ha1:=S1.seq ha;obtain⟨t,_,_,rfl,ht,_⟩:=eU hv;apply⟨_,rfl,.ref t,b,n,sp,rfl,hv,N,few_cases N ⋯ na,L1,λqa H2 o kp2 L2' an=>?_⟩;obtain⟨tv,hqa,tvo⟩:=an.v;apply⟨qa,_,rfl,SqT.of hqa,rfl,_,_,rfl,_,_,rfl,rfl,?_⟩;have ha2:=kp2.seq ha1;apply⟨_,rfl,a,ns,38,rfl,ha2,↥0,↥0,λx0 p hp=>?_⟩;have S3:bC H2 (upd H2 p (.lst [.int x0])):=(bC.refl H2).put hp;have h3:(upd H2 p (.lst [.int x0])) p=some (.lst [.int x0]):=aN;generalize upd H2 p (.lst [.int x0])=H3 at S3 h3 ⊢;apply⟨p,x0,4,rfl,h3,↥0,↥0,λr H4 r0 r4 M4=>⟨_,_,rfl,rfl,?_⟩⟩;have S4:bC H2 H4:=bC.mv S3 hp M4;obtain⟨c,ec⟩:=cp (by lia:0≤1+r);have c1:1≤c:=by lia
 have c4:c≤4:=by lia
 have e4:(λi j=>V.int (i+j)) 1 r=V.int (c:Int):=by rw[←ec]
 first | rw[e4] | rw[ec]
 have kp4:=kp2.trans (bC.kp S4);have ht4:=kp4.tup _ _ ht;apply⟨_,rfl,_,rfl,t,_,_,_,rfl,rfl,SqT.of ht4,aB (j:=1) rfl,a,ns,n,rfl,S4.seq ha2,⋯,λuo os H5 S5 ho od=>?_⟩;have kp5:=kp4.trans (bC.kp S5);have L5:=(L2'.same S4).same S5;have tv5:=tvo.kp (bC.kp (S4.trans S5)).tup;have hv5:=cq kp5.tup hv;have ha5:=(S4.trans S5).seq ha2;have told:=an.t;clear hqa tvo S3 h3 M4 ht4 kp4 L2' an hv L1 hq hu e4 ec r0 r4 ha1 ha2 S4 S5 kp2;have ht5:=kp5.tup _ _ ht;apply⟨(by show 3≤bo;decide),λL0 hL0=>?_⟩;have S6:bC H5 (upd H5 L0 (.lst [.non,.non,.non])):=(bC.refl H5).put hL0;have h6:(upd H5 L0 (.lst [.non,.non,.non])) L0=some (.lst [.non,.non,.non]):=aN;generalize upd H5 L0 (.lst [.non,.non,.non])=H6 at S6 h6 ⊢;apply⟨λσ' H'=>bC H5 H'∧∃(Lt:ak) (a0 a1 a2:V),H' Lt=some (.lst [a0,a1,a2])∧tabV H' a0 (o.map (mirT b))∧tabV H' a1 (o.map (qT c))∧tabV H' a2 (o.map (mq · os))∧σ'=[some (.ref a),some (.ref t),some (.ref u),some tv,some (wV b sp 1 o),some (.int c),some (.ref uo),some (wV b sp c o),some (.ref Lt),none,none,none],?_,?_⟩
 rotate_left
 ·cases o with
  | none =>
   have e:tv= .non:=tv5;subst e;apply⟨_,rfl,rfl,_,rfl,lW (by rw[rX rfl];rfl) ?_⟩;exact⟨S6,L0,_,_,_,h6,rfl,rfl,rfl,rfl⟩
  | some ts1 =>
   obtain⟨qt,e,hqt⟩:=tv5;subst e;have tab:kU b n sp ts1:=told.1;have lt:ts1.length=n:=tab.1;apply⟨_,rfl,rfl,_,rfl,qQ (by rw[rY nofun];rfl) ?_⟩;apply⟨_,rfl,_,rfl,_,_,rfl,rfl,.inr ⟨⋯,⋯⟩,?_⟩;have ht6:=S6 _ _ ht5;have hq6:=S6 _ _ hqt;apply⟨_,rfl,_,rfl,t,qt,b,_,ts1,rfl,ht6,hq6,⋯,⋯,λx1 H7 S7 h7=>?_⟩;apply⟨_,rfl,_,rfl,qt,ts1,c,rfl,S7 _ _ hq6,⋯,⋯,⋯,λx2 H8 S8 h8=>?_⟩;have S68:=S7.trans S8;apply⟨_,rfl,_,rfl,_,rfl,t,qt,uo,n,ts1,os,rfl,⟨⟨b,_,S68 _ _ ht6⟩,S68 _ _ (S6 _ _ ho),od,⋯⟩,S68 _ _ hq6,lt,λx3 H9 S9 h9=>⟨(by show 3≤bo;decide),λLt hLt=>?_⟩⟩;have SA:bC H9 (upd H9 Lt (.lst [.ref x1,.ref x2,.ref x3])):=(bC.refl H9).put hLt;have S89:=S9.trans SA;apply⟨S6.trans (S68.trans S89),Lt,_,_,_,aN,⟨x1,rfl,S89 _ _ (S8 _ _ h7)⟩,⟨x2,rfl,S89 _ _ h8⟩,⟨x3,rfl,SA _ _ h9⟩,?_⟩;have ew:bU b ts1 sp * 1 * (c:Int)=bU b ts1 sp * c:=by rw[gN]
   show[some (V.ref a),some (V.ref t),some (V.ref u),some (V.ref qt),some (V.int (bU b ts1 sp * 1)),some (V.int c),some (V.ref uo),some (V.int (bU b ts1 sp * 1 * c)),some (V.ref Lt),none,none,none]=_;rw[ew];rfl
 clear S6 h6 hL0 H6 L0;rintro σ' H6 ⟨S6,Lt,a0,a1,a2,hLt,v0,v1,v2,rfl⟩;have hv6:=hv5.same S6;apply⟨_,rfl,.ref t,b,n,sp,rfl,hv6,by have:=N.few;lia,λw1 H7 S7 h7=>?_⟩;apply⟨_,rfl,_,rfl,.ref t,b,n,sp,c,rfl,hv6.same S7,by have:=N.few;lia,⋯,⋯,λw2 H8 S8 h8=>?_⟩;have S68:=S7.trans S8;apply⟨_,rfl,_,rfl,.ref t,uo,b,n,sp,os,rfl,hv6.same S68,S68 _ _ (S6 _ _ ho),od,⋯,E,by have:=N.few;lia,λw3 H9 S9 h9=>⟨(by show 3≤bo;decide),λLn hLn=>?_⟩⟩;have SA:bC H9 (upd H9 Ln (.lst [w1,w2,w3])):=(bC.refl H9).put hLn;have hA:(upd H9 Ln (.lst [w1,w2,w3])) Ln=some (.lst [w1,w2,w3]):=aN;generalize upd H9 Ln (.lst [w1,w2,w3])=HA at SA hA ⊢;apply⟨_,rfl,_,rfl,_,rfl,(by show 3≤bo;decide),λLd hLd=>?_⟩;have SB:bC HA (upd HA Ld (.lst [wV b sp 1 o,wV b sp c o,wV b sp 1 o])):=(bC.refl HA).put hLd;have hB:(upd HA Ld (.lst [wV b sp 1 o,wV b sp c o,wV b sp 1 o])) Ld=some (.lst [wV b sp 1 o,wV b sp c o,wV b sp 1 o]):=aN;generalize upd HA Ld (.lst [wV b sp 1 o,wV b sp c o,wV b sp 1 o])=HB at SB hB ⊢;have S9B:=S9.trans (SA.trans SB);have S8B:=S8.trans S9B;have S6B:=S7.trans S8B;have kpB:=(bC.kp (S6.trans S6B));have i0:Itm HB w1 a0 (wV b sp 1 o):=⟨b,n,_,h7.same S8B,N.mir,λl F=>(qK N.mir cn.mir (λk hk=>gO (lim3 ⋯ ⋯ hk) ↥0) F.2).2,due_of told (λ_=>tab_mir N) (v0.kp (bC.kp S6B).tup),λo' h'=>Tld.mir N told h'⟩;have i1:Itm HB w2 a1 (wV b sp c o):=⟨b * c,n,_,h8.same S9B,N.str4 b2 co c1 c4,λl F=>(qK (N.str4 b2 co c1 c4) (cn.str ⋯) (λk hk=>lim4 ⋯ ⋯ c4 hk) F.2).2,due_of told (λ_=>tab_str N ⋯) (v1.kp (bC.kp S6B).tup),λo' h'=>Tld.str N c1 c4 told h'⟩;have i2:Itm HB w3 a2 (wV b sp 1 o):=⟨b,n,_,h9.same (SA.trans SB),N.nam od,λl F=>(qK (N.nam od) (cn.nam E) (λk hk=>gO (lim3 ⋯ ⋯ hk) ↥0) F.2).2,due_of told (λ_=>tab_nam N od) (v2.kp (bC.kp S6B).tup),λo' h'=>Tld.nam N od told h'⟩;have LB:=L5.same (S6.trans S6B);have hLtB:=S6B _ _ hLt;have hLnB:=SB _ _ hA;have htB:=kpB.tup _ _ ht5;have hvB:=cq kpB.tup hv5;have haB:=kpB.seq ha5;clear h7 h8 h9 S9B S8B S6B SA SB hA S9 S8 S7 S68 v0 v1 v2 hv6 hLt S6 kpB L5 hv5 ha5 ho hLn hLd tv5 ht5;apply⟨3,rfl,↥0,↥0,?_⟩;apply kq (n:=3) (λi σ H'=>Kp HB H'∧L4 T0 p0 q0 T1 p1 q1 TT T3 H'∧∃vk,σ=[some (.ref a),some (.ref t),some (.ref u),some tv,some (wV b sp 1 o),some (.int c),some (.ref uo),some (wV b sp c o),some (.ref Lt),some (.ref Ln),some (.ref Ld),vk]) ⟨bC.kp (bC.refl HB),LB,none,rfl⟩ ?_ ?_
 ·rintro i σ HC hi ⟨kC,LC,vk,rfl⟩
  have it:∃vn vt vd,atI [w1,w2,w3] (0+(i:Int))=some vn∧atI [a0,a1,a2] (0+(i:Int))=some vt∧atI [wV b sp 1 o,wV b sp c o,wV b sp 1 o] (0+(i:Int))=some vd∧Itm HB vn vt vd:=by
   have:i=0∨i=1∨i=2:=by lia
   rcases this with rfl | rfl | rfl
   ·exact⟨_,_,_,aB (j:=0) rfl,aB (j:=0) rfl,aB (j:=0) rfl,i0⟩
   ·exact⟨_,_,_,aB (j:=1) rfl,aB (j:=1) rfl,aB (j:=1) rfl,i1⟩
   ·exact⟨_,_,_,aB (j:=2) rfl,aB (j:=2) rfl,aB (j:=2) rfl,i2⟩
  obtain⟨vn,vt,vd,en,et,ed,it⟩:=it;obtain⟨b',m',sp',x1,x2,x3,x4,x5⟩:=it.kp kC.tup;apply⟨_,rfl,_,rfl,Ln,_,_,_,rfl,rfl,SqL.of (kC.lst _ _ hLnB),en,?_⟩;apply⟨_,rfl,_,rfl,Ln,_,_,_,rfl,rfl,SqL.of (kC.lst _ _ hLnB),en,vn,b',m',sp',rfl,x1,x2,x3,LC,λqc HD o' kD LD an'=>?_⟩;have kCD:=kC.trans kD;apply⟨_,rfl,_,rfl,Lt,_,_,_,rfl,rfl,SqL.of (kCD.lst _ _ hLtB),et,_,rfl,_,rfl,Ld,_,_,_,rfl,rfl,SqL.of (kCD.lst _ _ hB),ed,?_⟩;apply⟨vn,vt,vd,qc,b',m',sp',o',rfl,cq kD.tup x1,x2,an',?_,x5 o' an'.t,λHE SE=>?_⟩
  ·rcases x4 with x | ⟨u',ts',y1,y2,y3⟩
   ·exact .inl x
   ·exact .inr ⟨u',ts',y1,kD.tup _ _ y2,y3⟩
  apply⟨_,rfl,lW rfl ?_⟩;exact⟨kCD.trans (bC.kp SE),LD.same SE,_,rfl⟩
 rintro σ HC ⟨kC,LC,vk,rfl⟩;have hvC:=cq kC.tup hvB;apply⟨_,rfl,_,rfl,_,rfl,a,t,ns,b,_,rfl,kC.seq haB,kC.tup _ _ htB,b1,b2,λv2 m2 sp2 HD SD hD N2 m23 na2 few2=>?_⟩;have S:Sides b n m2 sp sp2:=⟨N,N2,⋯,⋯⟩;have cn2:=N2.cn na2;exact⟨.ref t,v2,b,n,m2,sp,sp2,rfl,hvC.same SD,hD,S,few_cases N ⋯ na,λl F=>gO (qK N2 cn2 (λk hk=>few3 m23 hk) F.2).2 ↥0,side_few S cn cn2 (λk hk=>lim3 ⋯ ⋯ hk) (λk hk=>few3 m23 hk) ↥0,LC.same SD,k⟩
theorem args1 {P:List af→Prop}(h:∀x0,P [x0]):∀us:List af,us.length=1→P us:=by
 intro us hl;obtain _ | ⟨x0,us⟩:=us <;> try (cases hl;done)
 obtain _ | ⟨y,us⟩:=us
 ·exact h x0
 ·exact rW hl (by simp only[bf];lia)
theorem args2 {P:List af→Prop}(h:∀x0 x1,P [x0,x1]):∀us:List af,us.length=2→P us:=by
 intro us hl;obtain _ | ⟨x0,us⟩:=us <;> try (cases hl;done)
 obtain _ | ⟨x1,us⟩:=us <;> try (cases hl;done)
 obtain _ | ⟨y,us⟩:=us
 ·exact h x0 x1
 ·exact rW hl (by simp only[bf];lia)
theorem args3 {P:List af→Prop}(h:∀x0 x1 x2,P [x0,x1,x2]):∀us:List af,us.length=3→P us:=by
 intro us hl;obtain _ | ⟨x0,us⟩:=us <;> try (cases hl;done)
 obtain _ | ⟨x1,us⟩:=us <;> try (cases hl;done)
 obtain _ | ⟨x2,us⟩:=us <;> try (cases hl;done)
 obtain _ | ⟨y,us⟩:=us
 ·exact h x0 x1 x2
 ·exact rW hl (by simp only[bf];lia)
theorem args4 {P:List af→Prop}(h:∀x0 x1 x2 x3,P [x0,x1,x2,x3]):∀us:List af,us.length=4→P us:=by
 intro us hl;obtain _ | ⟨x0,us⟩:=us <;> try (cases hl;done)
 obtain _ | ⟨x1,us⟩:=us <;> try (cases hl;done)
 obtain _ | ⟨x2,us⟩:=us <;> try (cases hl;done)
 obtain _ | ⟨x3,us⟩:=us <;> try (cases hl;done)
 obtain _ | ⟨y,us⟩:=us
 ·exact h x0 x1 x2 x3
 ·exact rW hl (by simp only[bf];lia)
theorem args5 {P:List af→Prop}(h:∀x0 x1 x2 x3 x4,P [x0,x1,x2,x3,x4]):∀us:List af,us.length=5→P us:=by
 intro us hl;obtain _ | ⟨x0,us⟩:=us <;> try (cases hl;done)
 obtain _ | ⟨x1,us⟩:=us <;> try (cases hl;done)
 obtain _ | ⟨x2,us⟩:=us <;> try (cases hl;done)
 obtain _ | ⟨x3,us⟩:=us <;> try (cases hl;done)
 obtain _ | ⟨x4,us⟩:=us <;> try (cases hl;done)
 obtain _ | ⟨y,us⟩:=us
 ·exact h x0 x1 x2 x3 x4
 ·exact rW hl (by simp only[bf];lia)
theorem args6 {P:List af→Prop}(h:∀x0 x1 x2 x3 x4 x5,P [x0,x1,x2,x3,x4,x5]):∀us:List af,us.length=6→P us:=by
 intro us hl;obtain _ | ⟨x0,us⟩:=us <;> try (cases hl;done)
 obtain _ | ⟨x1,us⟩:=us <;> try (cases hl;done)
 obtain _ | ⟨x2,us⟩:=us <;> try (cases hl;done)
 obtain _ | ⟨x3,us⟩:=us <;> try (cases hl;done)
 obtain _ | ⟨x4,us⟩:=us <;> try (cases hl;done)
 obtain _ | ⟨x5,us⟩:=us <;> try (cases hl;done)
 obtain _ | ⟨y,us⟩:=us
 ·exact h x0 x1 x2 x3 x4 x5
 ·exact rW hl (by simp only[bf];lia)
theorem Df.fn (a:Df K x st f)(X:K.In h)(G:h.Ns bS mg)
  (hb:∀(kV dc pm:af) (an:Option ak) (cd ct:af) (us:List af),us.length=ps.length→bindArgs (dZ x x (jF st) (fX st) (defScope st) .none kV dc pm an cd ct) ⟨us,[]⟩=gf (ps.zip us):=by intro _ _ _ _ _ _;first  | exact args1 λ_=>rfl | exact args2 λ_ _=>rfl | exact args3 λ_ _ _=>rfl | exact args4 λ_ _ _ _=>rfl | exact args5 λ_ _ _ _ _=>rfl | exact args6 λ_ _ _ _ _ _=>rfl):∃fd,Fn K mg x st ps f fd:=by
 obtain⟨n,oc,od,an,sl,kV,dc,pm,cd,ct,l,c,k⟩:=a;have F:=oJ (st:=st) l c k;exact⟨_,F,gJ X G n,F.binds hb⟩
theorem all_mk {l:PySem.W.OpenLaw}{fa:ak}(X:K.In h)(G:h.Ns bS mg)(hfa:mg "law" =some (.ref fa))(Fc:Facts K)
  : ∃fd:bh,(∀(s:aq) (v:af),BindsTo s fd ⟨[v],[]⟩ [("_law_script",v)])∧∀base:bO,K.In base→base.Ns bS mg→BM mg base→cG l.prog w K mg base CX0 16 fa fd ["_law_script"] (spLawTs [140,245,311,330] K):=by
 apply Fc _ ?_;intro f1 f2 f3 f4 f5 f6 f7 f8 f9 f10 f11 f12 f13 f14 f15 f16 f17 f18 f19 f20 f21 f22 f23 f24 f25 f26 f27 f28 f29 f30 f31 f32 f33 f34 f35 f36 f37 f38 f39 f40 f41 f42 f43 f44 f45 f46 f47 f48 f49 f50 f51 f52 f53 f54 f55 f56 f57 f58 f59 f60 f61 f62 f63 f64 f65 f66 t1 t2 t3 xC xi xs xt odI anI odS anS odT anT slI slS slT ocI kVI dcI pmI ctI ocS kVS dcS pmS cdS ctS ocT kVT dcT pmT cdT ctT a1 a2 a3 a4 a5 a6 a7 a8 a9 a10 a11 a12 a13 a14 a15 a16 a17 a18 a19 a20 a21 a22 a23 a24 a25 a26 a27 a28 a29 a30 a31 a32 a33 a34 a35 a36 a37 a38 a39 a40 a41 a42 a43 a44 a45 a46 a47 a48 a49 a50 a51 a52 a53 a54 a55 a56 a57 a58 a59 a60 a61 a62 a63 a64 a65 a66 y1 y2 y3 z1 z2 z3 z4 z5 z6 z7 z8 z9 z10 z11 z12 z13 z14 z15 z16 w1 w2 w3 w4 w5 w6 w7 w8 w9 w10 w11 w12 w13 w14 w15 w16 w17 w18 w19 w20 w21 w22 w23 w24 w25 wc0 wh0 wh1 wc2 wh2 wc3 wh3;have e:=hfa.symm.trans (gJ X G a66.n);cases e;obtain⟨fd1,G1⟩:=a1.fn X G (ps:=pzi);obtain⟨fd2,G2⟩:=a2.fn X G (ps:=pzg);obtain⟨fd3,G3⟩:=a3.fn X G (ps:=pzg);obtain⟨fd4,G4⟩:=a4.fn X G (ps:=pza);obtain⟨fd5,G5⟩:=a5.fn X G (ps:=pzG);obtain⟨fd6,G6⟩:=a6.fn X G (ps:=pzc);obtain⟨fd7,G7⟩:=a7.fn X G (ps:=pzc);obtain⟨_,oc,od,an,sl,kV,dc,pm,cd,ct,l8,c8,k8⟩:=id a8;obtain⟨_,_,_,_,_,_,_,_,z⟩:=wc0;have z:=l8.symm.trans z;have wc0:cd=af.ref 144:=by injection z with z;injection z with _ _ z _;injection z with z;injection z
 have F8:=oJ (st:=sSpW) l8 c8 k8;have b8:=F8.binds (ps:=pza) λ_ _ _ _ _ _=>args1 λ_=>rfl
 have G8:Fn K mg "spans_by_width" sSpW pza f8 _:=⟨F8,gJ X G a8.n,b8⟩;obtain⟨fd9,G9⟩:=a9.fn X G (ps:=pza);obtain⟨fd10,G10⟩:=a10.fn X G (ps:=pzl);obtain⟨fd11,G11⟩:=a11.fn X G (ps:=pzI);obtain⟨fd12,G12⟩:=a12.fn X G (ps:=pzi);obtain⟨fd13,G13⟩:=a13.fn X G (ps:=pza);obtain⟨fd14,G14⟩:=a14.fn X G (ps:=pza);obtain⟨fd15,G15⟩:=a15.fn X G (ps:=pza);obtain⟨fd16,G16⟩:=a16.fn X G (ps:=pzj);obtain⟨fd17,G17⟩:=a17.fn X G (ps:=pzx);obtain⟨fd18,G18⟩:=a18.fn X G (ps:=pzw);obtain⟨fd19,G19⟩:=a19.fn X G (ps:=pzq);obtain⟨fd20,G20⟩:=a20.fn X G (ps:=pzk);obtain⟨fd21,G21⟩:=a21.fn X G (ps:=pzK);obtain⟨fd22,G22⟩:=a22.fn X G (ps:=pzm);obtain⟨fd23,G23⟩:=a23.fn X G (ps:=["marks"]);obtain⟨fd24,G24⟩:=a24.fn X G (ps:=pzn);obtain⟨_,oc,od,an,sl,kV,dc,pm,cd,ct,l25,c25,k25⟩:=id a25;obtain⟨_,_,_,_,_,_,_,_,z⟩:=wc2;have z:=l25.symm.trans z;have wc2:cd=af.ref 315:=by injection z with z;injection z with _ _ z _;injection z with z;injection z
 have F25:=oJ (st:=km) l25 c25 k25;have b25:=F25.binds (ps:=pza) λ_ _ _ _ _ _=>args1 λ_=>rfl
 have G25:Fn K mg "table_for" km pza f25 _:=⟨F25,gJ X G a25.n,b25⟩;obtain⟨fd26,G26⟩:=a26.fn X G (ps:=pzc);obtain⟨fd27,G27⟩:=a27.fn X G (ps:=pzM);obtain⟨fd28,G28⟩:=a28.fn X G (ps:=pzd);obtain⟨fd29,G29⟩:=a29.fn X G (ps:=pzd);obtain⟨fd30,G30⟩:=a30.fn X G (ps:=["net","rows"]);obtain⟨fd31,G31⟩:=a31.fn X G (ps:=pzH);obtain⟨fd32,G32⟩:=a32.fn X G (ps:=pzL);obtain⟨fd33,G33⟩:=a33.fn X G (ps:=pzy);obtain⟨_,oc,od,an,sl,kV,dc,pm,cd,ct,l34,c34,k34⟩:=id a34;obtain⟨_,_,_,_,_,_,_,_,z⟩:=wc3;have z:=l34.symm.trans z;have wc3:cd=af.ref 334:=by injection z with z;injection z with _ _ z _;injection z with z;injection z
 have F34:=oJ (st:=lP) l34 c34 k34;have b34:=F34.binds (ps:=pza) λ_ _ _ _ _ _=>args1 λ_=>rfl
 have G34:Fn K mg "best_for" lP pza f34 _:=⟨F34,gJ X G a34.n,b34⟩;obtain⟨fd35,G35⟩:=a35.fn X G (ps:=["thing"]);obtain⟨fd36,G36⟩:=a36.fn X G (ps:=["net","more"]);obtain⟨fd37,G37⟩:=a37.fn X G (ps:=["span"]);obtain⟨fd38,G38⟩:=a38.fn X G (ps:=pza);obtain⟨fd39,G39⟩:=a39.fn X G (ps:=pzd);obtain⟨fd40,G40⟩:=a40.fn X G (ps:=pzD);obtain⟨fd41,G41⟩:=a41.fn X G (ps:=pzE);obtain⟨fd42,G42⟩:=a42.fn X G (ps:=pzF);obtain⟨fd43,G43⟩:=a43.fn X G (ps:=pzp);obtain⟨fd44,G44⟩:=a44.fn X G (ps:=pzu);obtain⟨fd45,G45⟩:=a45.fn X G (ps:=pzh);obtain⟨fd46,G46⟩:=a46.fn X G (ps:=pzh);obtain⟨fd47,G47⟩:=a47.fn X G (ps:=pzC);obtain⟨fd48,G48⟩:=a48.fn X G (ps:=pzv);obtain⟨fd49,G49⟩:=a49.fn X G (ps:=pze);obtain⟨fd50,G50⟩:=a50.fn X G (ps:=pzN);obtain⟨fd51,G51⟩:=a51.fn X G (ps:=pze);obtain⟨fd52,G52⟩:=a52.fn X G (ps:=pzf);obtain⟨fd53,G53⟩:=a53.fn X G (ps:=pzr);obtain⟨fd54,G54⟩:=a54.fn X G (ps:=pzs);obtain⟨fd55,G55⟩:=a55.fn X G (ps:=pzt);obtain⟨fd56,G56⟩:=a56.fn X G (ps:=pzB);obtain⟨fd57,G57⟩:=a57.fn X G (ps:=pzb);obtain⟨fd58,G58⟩:=a58.fn X G (ps:=pzb);obtain⟨fd59,G59⟩:=a59.fn X G (ps:=pzz);obtain⟨fd60,G60⟩:=a60.fn X G (ps:=pzb);obtain⟨fd61,G61⟩:=a61.fn X G (ps:=pzo);obtain⟨fd62,G62⟩:=a62.fn X G (ps:=pzA);obtain⟨fd63,G63⟩:=a63.fn X G (ps:=pzQ);obtain⟨fd64,G64⟩:=a64.fn X G (ps:=pzP);obtain⟨fd65,G65⟩:=a65.fn X G (ps:=pzO);obtain⟨_,oc,od,an,sl,kV,dc,pm,cd,ct,l66,c66,k66⟩:=a66;have F66:=oJ (st:=sLaw) l66 c66 k66;have m1:=cu X G z1;have m2:=cu X G z2;have m3:=cu X G z3;have m4:=cu X G z4;have m5:=cu X G z5;have m6:=cu X G z6;have m7:=cu X G z7;have m8:=cu X G z8;have m9:=cu X G z9;have m10:=cu X G z10;have m11:=cu X G z11;have m12:=cu X G z12;have m13:=cu X G z13;have m14:=cu X G z14;have m15:=cu X G z15;have m16:=cu X G z16;have i1:=gJ X G y1;have i2:=gJ X G y2;have i3:=gJ X G y3;apply⟨dZ "law" "law" (jF sLaw) (fX sLaw) (defScope sLaw) .none kV dc pm an cd ct,λs v=> .of_eq rfl,λbase _ _ hB=>?_⟩;have T:Nm mg:=⟨m1,m2,m3,m4,m5,m6,m7⟩;have T2:Nt mg:=⟨m8,m9,m10,m11,m12,m13⟩;have T3:N3 mg:=⟨m14⟩;have SW:cG l.prog w K mg base CX0 5 f8 _ pza (spSpW 140 lpW lqW):=ok_spW F8 wc0 wh0 hB T T2 m15 G1;have FO:cG l.prog w K mg base CX0 6 f9 _ pza (k5 140 lpW lqW):=ok_forest G9.F T T2 m15 G8 SW;have ST:cG l.prog w K mg base CX0 2 f10 _ pzl spSteps:=ok_steps G10.F G2;have RB:cG l.prog w K mg base CX0 7 f12 _ pzi (spRingBy 140 lpW lqW):=ok_ringBy G12.F G11 (ok_wayBt G11.F G10 ST G3) G9 FO;have RO:cG l.prog w K mg base CX0 8 f14 _ pza (oZ 140 lpW lqW):=ok_ringsO G14.F T T2 G9 FO G12 RB;have CC:CutC K xC:=⟨⟨w2,w3,w4,w5⟩,w6,w7,w8⟩;have CI:=oJ (st:=rh) w13 w14 w15;have CS:=oJ (st:=sSpanC) w19 w20 w18;have CT:=oJ (st:=sSidesC) w24 w25 w23;have CK:CutK l.prog w K mg base 140 lpW lqW 245 lpC lqC xC xi xs xt _ _ _:=⟨CC,⟨w9,w10,w11,w12⟩,gJ X G w1,ok_initC CI rfl wh1 hB ↥0 T T2 m15 CC G14 RO G18 G4 G9 FO,CI.binds (ps:=["self","net"]) λ_ _ _ _ _ _=>args2 λ_ _=>rfl,⟨w16,w17,w18⟩,ok_spanC CS CC,CS.binds (ps:=["self","case"]) λ_ _ _ _ _ _=>args2 λ_ _=>rfl,⟨w21,w22,w23⟩,ok_sidesC CT CC G17,CT.binds (ps:=pzJ) λ_ _ _ _ _ _=>args4 λ_ _ _ _=>rfl⟩;have BO:cG l.prog w K mg base CX0 2 f6 _ pzc pW:=ok_beats G6.F G5;have DL:cG l.prog w K mg base CX0 4 f20 _ pzk pV:=ok_deadL G20.F G7 (ok_dead G7.F G6 BO);have TF:cG l.prog w K mg base CX0 11 f22 _ pzm (spTabF 140 lpW lqW 245 lpC lqC):=ok_tabF G22.F T ↥0 CK G15 (ok_spread G15.F T T2 G9 FO G10 ST G3) G20 DL G21 (ok_tabBy G21.F T G3 G2 G16) G19;have TY:cG l.prog w K mg base CX0 11 f24 _ pzn (oY l.prog w K mg base 140 lpW lqW 245 lpC lqC):=ok_treeBy G24.F T CK G19 G23 (ok_treeF G23.F m16);have TN:cG l.prog w K mg base CX0 12 f25 _ pza (pT 140 lpW lqW 245 lpC lqC 311):=ok_tabForN F25 wc2 wh2 hB T ⟨_,i1⟩ ↥0 ↥0 ↥0 G13 (ok_cases G13.F G9 FO G1) G22 TF G24 TY G20 DL;have WO:cG l.prog w K mg base CX0 4 f29 _ pzd nc:=ok_waitOf G29.F T T2 G28 (ok_waits G28.F T T2 G16 G27);have LB:cG l.prog w K mg base CX0 5 f33 _ pzy spLeafBy:=ok_leafBy G33.F G20 DL G32 (ok_priceL G32.F T G26 (ok_sure G26.F G6 BO)) G31 (ok_worth G31.F T T2 G6 BO G30);have BF:cG l.prog w K mg base CX0 13 f34 _ pza (spBest 140 lpW lqW 245 lpC lqC 311 330):=ok_best F34 wc3 wh3 hB T ⟨_,i1⟩ ↥0 ↥0 ↥0 ↥0 ↥0 ↥0 G25 TN G22 TF G24 TY G33 LB G29 WO G14 RO;have PO:cG l.prog w K mg base CX0 2 f51 _ pze (q9 K):=ok_potT G51.F T T2 G49 G50;have NH:cG l.prog w K mg base CX0 4 f56 _ pzB (spNetH K):=ok_netH G56.F T T2 G52 G51 PO G54 (ok_tied G54.F T G52 G53) G55 (ok_more G55.F T G52 G53);have IO:cG l.prog w K mg base CX0 2 f44 _ pzu pU:=ok_isOrder G44.F T T2 m15 G35;have CO:cG l.prog w K mg base CX0 3 f45 _ pzh o6:=ok_checkO G45.F G44 IO;have AQ:cG l.prog w K mg base CX0 14 f61 _ pzo (spAskQ 140 lpW lqW 245 lpC lqC 311 330):=ok_ask G61.F G34 BF;have FT:cG l.prog w K mg base CX0 2 f58 _ pzb spFits:=ok_fitsN G58.F T2 G57;exact ok_law F66 T T2 G56 NH G61 AQ G51 PO G52 G64 (ok_ordR G64.F T T2 G52 G51 PO) G39 (ok_tabMir G39.F T G16) G42 (ok_tabStr G42.F T) G47 (ok_tabNam G47.F T G45 CO) G38 (ok_mir G38.F T G37) G41 (ok_str G41.F T G40) G46 (ok_namedA G46.F T T2 G45 CO G43) G62 (ok_car G62.F G59 (ok_isT G59.F T) G58 FT G60 (ok_waitN G60.F T2 G57)) G65 (ok_both G65.F G48 (ok_side G48.F T T2 ⟨_,i2⟩ ⟨_,i3⟩ G43 G36) G61 AQ G58 FT) G63 (ok_oth G63.F T T2 G52 G51 PO G54 (ok_tied G54.F T G52 G53) G55 (ok_more G55.F T G52 G53))
theorem walk {l:PySem.W.OpenLaw}{q:aV}{d:DefRec}{K:Params→ai}(hn:l.most=some 63)(hdf:d.params.defaults=[])
  (hY:∀(w:bG) (h:bO),YP w h→(K w.params).In h∧∀T∈([140,245,311,330]:List ak),h.get? T=some (PySem.W.tabObj #[])) (hC:∀w:bG,∀T∈([140,245,311,330]:List ak),∃c,eP (K w.params) c T=true) (hN:∀w:bG,PySem.W.noTabs (K w.params)=true)
  (F:∀ (w:bG) (mg:Str→Option af) (fa:ak) (h:bO),(K w.params).In h→h.Ns bS mg→mg d.name=some (.ref fa) →
   ∃ fd:bh,(∀ (s:aq) (u:af),BindsTo s fd ⟨[u],[]⟩ [("_law_script",u)])∧∀ base:bO,(K w.params).In base→base.Ns bS mg→BM mg base→cG l.prog w (K w.params) mg base CX0 16 fa fd ["_law_script"] (spLawTs [140,245,311,330] (K w.params))) :
  PySem.W.WalkO q loose XP YP l.row.toRowW d [] (λf vs=>PySem.call f vs) :=
 L2.walk_ofTs (n:=63) (k:=16) (x := "_law_script") (Ts:=[140,245,311,330]) (CX:=λ_=>CX0) (sp:=λw=>spLawTs [140,245,311,330] (K w.params)) hn ↥0 hdf ⟨rfl,↥0,↥0⟩ hY hC hN F (λ_ _ a ns hl hT hS=>⟨a,ns,rfl,hS,hT,λ_=>rfl⟩) λ_ _ _ _ _ z=>z
end HN
set_option maxHeartbeats 0 in
theorem PySem.Challenge.cw_hourtable_k94_whole_other_nets_holds : PySem.Challenge.rw_hourtable_k94_whole_other_nets.Holds := by
 apply HN.head0 ?_ HN.leftA;intro q loose XP YP d K hdf hd h0 h1 h2 Fc;exact HN.walk (l:=fY) rfl hdf h0 h1 h2 fun w mg fa h KX G hmg=>HN.all_mk KX G (by rw [hd] at hmg;exact hmg) (Fc w)
