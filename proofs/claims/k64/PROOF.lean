import PyProof.Rows.All
import KE.KIsAll
import OpenK.KMore
import KE.LcSums
import KE.KBools
import KE.KxBytes
import Lean
import PyProof.EqAt
import PyProof.EqKinds
import PyProof.TupleCall
import KE.KEqSeq
import PyProof.NeKinds
import PyProof.FitsBits
import PyProof.Rows.SumAny
import PyProof.Rows.SetFrom
import PyProof.SetRoads
import PyProof.ListRange
import KE.KSortTup
import KE.KSortKey
import KE.KLam
import KE.KNestM
import PyProof.Rows.MinMaxN
import KE.KRevIter
import PyProof.MaxThree
import PyProof.AutoSeq1
import PyProof.FactsAll.list_3
import KE.KDictList
import KE.KDictLaws
import PyProof.CallRoads
import PyProof.WalkInts
import PyProof.SeqI3
import Wide.FinOn
import PySem.Challenge.RW_hourtable_k64_happenings_that_stay
set_option Elab.async false
set_option linter.all false
set_option maxRecDepth 100000
set_option bootstrap.genMatcherCode false
open List renaming length_map → aa, getD_eq_getElem?_getD → ai, getElem?_eq_some_iff → ao, length_append → ar, mem_singleton → av, getElem?_map → ay, mem_cons_of_mem → az, map_append → aE, range → aF, size_toArray → aG, mem_append → aH, mem_cons → aI, mem_append_left → aJ, mem_append_right → aK, length_cons → aN, mem_of_getElem? → aP, getElem_mem → ba, mem_map → bb, length_range → bh, take_add_one → bj, take_length → bq, replicate → bt, getElem?_append_right → bu, nodup_cons → bz, mem_cons_self → bJ, length_take → bK, foldl_cons → bM, map_cons → bR, mem_filter → bS, nodup_iff_pairwise_ne → bX, foldl_append → b9, mem_range → cg, not_mem_nil → cn, getElem_of_mem → cu, length_eq_zero_iff → cK, getElem?_append_left → cN, length_filter_le → cV, map_map → c9, append_nil → de, lookup_cons → dg, length_drop → dh, length_replicate → dt, getElem?_set_ne → dH, getElem?_set_self → dN, length_reverse → dU, length_singleton → d5, lookup → eG, reverse_cons → eR, length_set → e8, filter_cons → fh, filter_append → fj, dropLast_concat → fu, pairwise_map → fE, range_succ → fF, getElem?_range → fG, getElem_toArray → gf, all_eq_true → gF, length_nil → gQ, find?_cons → gR, replicate_succ → iR, map_congr_left → iS, length_pos_iff → iT, toArray → ji, take_of_length_le → jj, nodup_nil → jk, nodup_append → jn, append_assoc → jo, any_eq_false → jq, getElem_map → jF, getElem_inj → jG, eq_nil_iff_forall_not_mem → jH, any_cons → jM, mem_of_mem_take → jO, filter → jP, toList_toArray → j9, ne_nil_of_mem → ko, mem_replicate → kq, getElem_range → kr, exists_mem_of_ne_nil → kH
open PySem renaming Value → ae, wpAny_bind → ak, Addr → aq, Shared → ax, wpAny_pure → aV, Program → aW, sizeLine → aZ, wpAny → bf, FuncData → bp, model → bw, World → bx, starEach → bB, boot_len → bF, Heap → bL, mainGlobals → bQ, Around → bW, Str → cb, mem_of_lookup → cq, wpAny_mono → cA, Stmt → cJ, NameKind → cL, wpAny_field → cS, wpAny_callSpecial?_slot → dM, wpAny_setField_rec → dO, eval → eK, lookup_relabel_local → eO, compareOp → eP, Builtin → eS, wpAny_Call_Name_kw → fA, Spec → fB, wpAny_newObj_type → fM, foldedSetIterable → fN, Scope → fO, backTo → fP, sizeLine_eq → fR, wpAny_call_entry → fT, wpAny_truthy_bool → gq, wpAny_pyIter_list → gu, wpAny_holding → gG, Arguments → gP, wpAny_passesOwn → ip, binaryOp → iu, wpAny_seqItems → iU, sysModules → iV, intItems → ja, Paired → jx, attributeBase → kg, wpAny_loadPart' → kt, importedModules → kz, wpAny_pyIter_tuple → k9
open PySem.W renaming Frag → au, mg_none_of → bZ, nsIn → cE, findIn → cH, kia_one → dY, fnOf → dZ, keepIn → eM, emptyDict → eN, codeHdIn → fI, instObj → fS, codeIn → g9, mg_of → iI, kitOne → i6, plainGet → jw, callWith_K → j8
open PySem.Heap renaming get?_push_of_some → aw, lt_size → aL, get?_push_size → aX, SameBut → cx, size_push → d8, get?_update_ne → gC
open Nat renaming le_refl → aA, le_trans → aM, lt_of_lt_of_le → aU, zero_le → bg, ne_of_lt → bI, lt_of_le_of_lt → bU, ne_of_gt → dv, lt_of_le_of_ne → dI, lt_irrefl → fq, lt_succ_of_lt → gj, mul_assoc → gp, sub_self → gO, mul_comm → iJ, lt_succ_self → iK, le_of_lt → iL, lt_succ_iff_lt_or_eq → i5
open Option renaming map_eq_some_iff → aS, map_some → fX
open PySem.F renaming plainAttrs_list → bc, type_list_append → bO, slot_list_append → bP, type_list_pop → eZ, slot_list_pop → e7, slot_tuple_iterator_next → iP, slot_enumerate_next → jQ, args_tuple_add_2 → kF, entry_tuple_add → kX
open Bool renaming false_ne_true → bo, and_eq_true → dk, not_eq_true' → jr, eq_iff_iff → j7, eq_false_iff → kZ
open PySem.PassesOwn renaming never → bE
open Option.some renaming inj → bG
open PyProof.Rows renaming seqObj → bT, slot_tuple_getitem → dm, callWith_type1 → ft, boot_tuple → iX, get?_update_seq → jg
open Array renaming length_toList → cj, getElem?_eq_getElem → dQ, getElem?_toList → jB
open Int renaming eq_ofNat_of_zero_le → cz, toNat_natCast → cI, emod_add_mul_ediv → d7, emod_lt_of_pos → eE, emod_nonneg → fb, toNat_of_nonneg → fJ, zero_mul → gk, le_refl → gm, mul_ediv_add_emod → hI, emod_eq_of_lt → ik, add_mul_emod_self_left → iD, zero_add → iM, mul_zero → iN, mul_sub → i9, mul_add → j6
open False renaming elim → cR
open PySem.Builtin.SmallTypes renaming nextOf → cT, ownedTupleIsFree → fg, ownedTupleHandOut → gJ
open PySem.Obj renaming mapSeq → cX
open Ne renaming symm → dB
open Classical renaming byContradiction → dJ
open PySem.Builtin.Range renaming rangeSize → dW, small → gY
open PySem.Str renaming ofString → d9
open PySem.Challenge renaming rw_hourtable_k64_happenings_that_stay → fe
open Pure renaming pure → fU
open PySem.Heap.SameBut renaming update → fY
open PySem.Builtin.Slice renaming slicePlaces → gS, sliceAdjust → jN
open PySem.Builtin.Tuple renaming tupleExact → hV
open PySem.W.Fast renaming te14364793385576792824 → ic, te14289696077712309145 → ie, te14082659384304107361 → ig, te10274390034422433532 → ij, te1435165496053646825 → iw, te4187177175401517315 → l4
open PySem.Builtin.List renaming listTooLong → il
open PySem.Calls renaming callWith_builtin → jd
noncomputable section
abbrev qK:=@if_neg
abbrev qL:=@if_pos
abbrev qM:=@absurd
abbrev qN:=@decide_eq_true
abbrev qO:=@decide_eq_false
abbrev qP:=@of_decide_eq_true
abbrev qQ:=@congrArg
set_option maxHeartbeats 4000000
theorem gE {α:Type}{l:List α}{i:Nat}(h:i<l.length):l[i]? =some l[i]:=List.getElem?_eq_getElem h
variable {A:bW}{As ch fp:List aq}{B:Prop}{C Da Ls T0 T1 Tb0 a dx f f1 f2 f3 f4 kS qs:aq}{E Q:ae→ax→Prop}{K:au}{M:PySem.Model}{N fr loose ps:List PySem.Str}{P prog:aW}{R gs hs ns ts:List Int}{T:String}{Ts:List (List Int)}{XP:(PySem.Str→Option ae)→bL→Prop}{YP:bx→bL→Prop}{aR pins':List (aq×PySem.Obj)}{apos lp p0 p1 p2 pos pos' spos:PySem.Pos}{b be d lo y z:Int}{base h h':bL}{body e ea elt iter tg value:PySem.Expr}{cl:List (PySem.Str×aq)}{d':PySem.Drawn}{e1 i iy j m n t':Nat}{env:PySem.Env}{es ifs:List PySem.Expr}{fd fd1 fd2 fd3 fd4:bp}{fz:aq→Option PySem.Obj}{g':Array PySem.GenState}{hi:Option Int}{items:Array ae}{its old us vs:List ae}{js l tk π:List Nat}{keys:List (Option PySem.Expr)}{ks:List (Int×Int)}{kw:List (PySem.Str×ae)}{lq name q0 q1 qual x y0:PySem.Str}{mA mg:PySem.Str→Option ae}{ob:PySem.Obj}{op:PySem.CmpOp}{osl:Array (Option ae)}{outer:List PySem.Env}{p:Array Nat}{params:gP}{s s':ax}{scope:fO}{st:cJ}{u was:ae}{w:bx}{α:Type}
namespace L2
open PySem PySem.Spec PyProof.Rows
def jC (s:cJ):gP:=match s with
 | .FunctionDef _ a _ _ _ _ _ _ _ _=>a
 | _=>{ posonlyargs:=[],args:=[],vararg:=none,kwonlyargs:=[],kw_defaults:=[],kwarg:=none,defaults:=[] }
def gh (s:cJ):List cJ:=match s with
 | .FunctionDef _ _ b _ _ _ _ _ _ _=>b
 | _=>[]
def defScope (s:cJ):fO:=match s with
 | .FunctionDef _ _ _ _ _ _ sc _ _ _=>sc
 | _=>{ kind:= .function,names:=[],isGenerator:=false,isCoroutine:=false }
end L2
namespace HN
open PySem L2 PyProof.Rows
def top (i:Nat):cJ:=PySem.Challenge.pw_hourtable_k64_happenings_that_stay.main.body.getD i (.Pass ⟨0,0,0,0⟩)
def clsOf (s:cJ)(i:Nat):cJ:=match s with
 | .ClassDef _ _ _ body _ _ _ _ _ _ _=>body.getD i (.Pass ⟨0,0,0,0⟩)
 | s=>s
structure Df (K:au)(x:Str)(st:cJ)(f:aq):Prop where
 n:cE K bQ x=some (some (.ref f))
 l:∃ (oc:ae) (od an:Option aq) (sl:Array (Option ae)) (kV dc pm cd ct:ae),K.lookup f=some ⟨oc,od,.func (dZ x x (jC st) (gh st) (defScope st) .none kV dc pm an cd ct),sl⟩∧g9 K cd x=true∧eM K (.ref f)=true
def Facts (K:au):Prop:=∀ C:Prop,(∀ {f1 f2 f3 f4 f5 f6 f7 f8 f9 f10 f11 f12 f13 f14 f15 f16 f17 f18 f19 f20 f21 f22 f23 f24 f25 f26 f27 f28 f29 f30 f31 f32 f33 f34 f35 f36 f37 f38 f39 f40 f41 f42 f43 f44 f45 f46 f47 f48 f49 f50 f51 f52 f53 f54 f55 f56:aq} {t1 t2:Tok} {xC xi xs xt:aq} {odI anI odS anS odT anT:Option aq} {slI slS slT:Array (Option ae)} {ocI kVI dcI pmI ctI ocS kVS dcS pmS cdS ctS ocT kVT dcT pmT cdT ctT:ae},(Df K "width_of" (top 7) f1) →
 (Df K "leads_from" (top 10) f2) →
 (Df K "leads_to" (top 11) f3) →
 (Df K "first_bounds" (top 14) f4) →
 (Df K "sum_of" (top 15) f5) →
 (Df K "beats_of" (top 16) f6) →
 (Df K "is_dead" (top 17) f7) →
 (Df K "spans_by_width" (top 20) f8) →
 (Df K "forest_of" (top 21) f9) →
 (Df K "steps_from" (top 22) f10) →
 (Df K "way_between" (top 23) f11) →
 (Df K "ring_by" (top 24) f12) →
 (Df K "cases_of" (top 25) f13) →
 (Df K "rings_of" (top 26) f14) →
 (Df K "spread_of" (top 27) f15) →
 (Df K "rest_by" (top 29) f16) →
 (Df K "with_bound" (top 37) f17) →
 (Df K "rings_over" (top 46) f18) →
 (Df K "middle_of" (top 48) f19) →
 (Df K "dead_leaf" (top 49) f20) →
 (Df K "table_by" (top 50) f21) →
 (Df K "tables_that_fit" (top 51) f22) →
 (Df K "tree_from" (top 52) f23) →
 (Df K "tree_by" (top 53) f24) →
 (Df K "table_for" (top 54) f25) →
 (Df K "is_whole" (top 4) f26) →
 (Df K "is_within" (top 5) f27) →
 (Df K "is_step" (top 9) f28) →
 (Df K "is_way" (top 12) f29) →
 (Df K "is_ring" (top 13) f30) →
 (Df K "is_headed" (top 33) f31) →
 (Df K "is_cut" (top 34) f32) →
 (Df K "is_leaf" (top 36) f33) →
 (Df K "sides_of" (top 38) f34) →
 (Df K "leaves_in" (top 39) f35) →
 (Df K "is_right" (top 40) f36) →
 (Df K "shown_by" (top 43) f37) →
 (Df K "parts_of" (top 56) f38) →
 (Df K "shifts_between" (top 57) f39) →
 (Df K "moved_in_parts" (top 58) f40) →
 (Df K "held_at_firsts" (top 59) f41) →
 (Df K "staying" (top 60) f42) →
 (Df K "_law_cell_at" (top 62) f43) →
 (Df K "_law_box" (top 63) f44) →
 (Df K "_law_draw" (top 64) f45) →
 (Df K "_law_small" (top 65) f46) →
 (Df K "_law_kept" (top 66) f47) →
 (Df K "_law_all_kept" (top 67) f48) →
 (Df K "_law_tables" (top 68) f49) →
 (Df K "_law_table" (top 69) f50) →
 (Df K "_law_fitting" (top 70) f51) →
 (Df K "_law_is_table" (top 71) f52) →
 (Df K "_law_due" (top 72) f53) →
 (Df K "_law_right" (top 73) f54) →
 (Df K "_law_crowded" (top 74) f55) →
 (Df K "law" (top 75) f56) →
 (cE K bQ "MOST_CASES" =some (some (.int 4096 t1))) →
 (cE K bQ "MOST_LEAVES_WALKED" =some (some (.int 20000 t2))) →
 (cE K bQ "isinstance" =some none) →
 (cE K bQ "int" =some none) →
 (cE K bQ "bool" =some none) →
 (cE K bQ "tuple" =some none) →
 (cE K bQ "len" =some none) →
 (cE K bQ "min" =some none) →
 (cE K bQ "all" =some none) →
 (cE K bQ "range" =some none) →
 (cE K bQ "enumerate" =some none) →
 (cE K bQ "zip" =some none) →
 (cE K bQ "sum" =some none) →
 (cE K bQ "list" =some none) →
 (cE K bQ "max" =some none) →
 (cE K bQ "set" =some none) →
 (cE K bQ "sorted" =some none) →
 (cE K bQ "reversed" =some none) →
 (cE K bQ "str" =some none) →
 (cE K bQ "Cuts" =some (some (.ref xC))) →
 (jw K xC Str.empty=true) →
 (PySem.W.hasDictIn K xC=true) →
 (PySem.W.plainOver K xC=true) →
 (cH K (.ref xC) "__setattr__" =some (some (.builtin "object.__setattr__"))) →
 (cH K (.ref xC) "first_case" =some none) →
 (cH K (.ref xC) "touched" =some none) →
 (cH K (.ref xC) "order" =some none) →
 (PySem.W.makesIn K xC=true) →
 (cH K (.ref xC) "__init__" =some (some (.ref xi))) →
 (PySem.W.isFn K (.ref xi)=true) →
 (eM K (.ref xC)=true) →
 (K.lookup xi=some ⟨ocI,odI,.func (dZ "__init__" "Cuts.__init__" (jC (clsOf (top 47) 0)) (gh (clsOf (top 47) 0)) (defScope (clsOf (top 47) 0)) .none kVI dcI pmI anI (.ref 273) ctI),slI⟩) →
 (g9 K (.ref 273) "Cuts.__init__" =true) →
 (eM K (.ref xi)=true) →
 (cH K (.ref xC) "span_to_cut" =some (some (.ref xs))) →
 (PySem.W.isFn K (.ref xs)=true) →
 (eM K (.ref xs)=true) →
 (K.lookup xs=some ⟨ocS,odS,.func (dZ "span_to_cut" "Cuts.span_to_cut" (jC (clsOf (top 47) 1)) (gh (clsOf (top 47) 1)) (defScope (clsOf (top 47) 1)) .none kVS dcS pmS anS cdS ctS),slS⟩) →
 (g9 K cdS "Cuts.span_to_cut" =true) →
 (cH K (.ref xC) "sides" =some (some (.ref xt))) →
 (PySem.W.isFn K (.ref xt)=true) →
 (eM K (.ref xt)=true) →
 (K.lookup xt=some ⟨ocT,odT,.func (dZ "sides" "Cuts.sides" (jC (clsOf (top 47) 2)) (gh (clsOf (top 47) 2)) (defScope (clsOf (top 47) 2)) .none kVT dcT pmT anT cdT ctT),slT⟩) →
 (g9 K cdT "Cuts.sides" =true) →
 (∃ (oc:ae) (od an:Option aq) (sl:Array (Option ae)) (kV dc pm ct:ae),K.lookup f8=some ⟨oc,od,.func (dZ "spans_by_width" "spans_by_width" (jC (top 20)) (gh (top 20)) (defScope (top 20)) .none kV dc pm an (.ref 137) ct),sl⟩) →
 (fI K 137 133=true) →
 (fI K 273 271=true) →
 (∃ (oc:ae) (od an:Option aq) (sl:Array (Option ae)) (kV dc pm ct:ae),K.lookup f25=some ⟨oc,od,.func (dZ "table_for" "table_for" (jC (top 54)) (gh (top 54)) (defScope (top 54)) .none kV dc pm an (.ref 341) ct),sl⟩) →
 (fI K 341 337=true)→C)→C
def Wp:Prop:=∀ {q:aW} {loose:List Str} {XP:(Str→Option ae)→bL→Prop} {YP:bx→bL→Prop} {d:DefRec} {K:Params→au},d.params.defaults=[]→d.name = "law" →(∀ (w:bx) (h:bL),YP w h→(K w.params).In h∧∀ T∈([133,271,337]:List aq),h.get? T=some (PySem.W.tabObj #[]))→(∀ w:bx,∀ T∈([133,271,337]:List aq),∃ c,fI (K w.params) c T=true)→(∀ w:bx,PySem.W.noTabs (K w.params)=true)→(∀ w:bx,Facts (K w.params))→PySem.W.WalkO q loose XP YP (fe).row.toRowW d [] (fun f vs=>PySem.call f vs)
end HN
section
open PySem PySem.W PyProof.Rows
def HN.seenOf:aW:={ PySem.Challenge.pw_hourtable_k64_happenings_that_stay with main:={ PySem.Challenge.pw_hourtable_k64_happenings_that_stay.main with body:=[1,2,4,5,7,9,10,11,12,13,14,15,16,17,18,20,21,22,23,24,25,26,27,29,31,32,33,34,35,36,37,38,39,40,41,42,43,45,46,47,48,49,50,51,52,53,54,56,57,58,59,60,62,63,64,65,66,67,68,69,70,71,72,73,74,75].map HN.top } }
def HN.isSeen (s:ax):Bool:=xlAt HN.seenOf [] s && recOk (RowW.records (OpenRow.toRowW (OpenLaw.row fe))) s
local macro_rules
 | `(tactic| o_head $H:term) => `(tactic| (refine holds_open (q := HN.seenOf) (loose := []) (XP := XL HN.seenOf []) (Xt := HN.isSeen) (Yf := Hook.obs $H) (Ya := Hook.val $H) (YP := Hook.says $H) (N := 2718) ?_ (Hook.of $H) (Hook.keeps $H) (fun s e => xl_of s (Bool.and_eq_true_iff.mp e).1) XL.keeps (by rfl) (by rfl) (by rfl) (fun s e => recFacts_of (Bool.and_eq_true_iff.mp e).2) ?_ ?_ ?_ ?_ ?_ ?_))
theorem HN.left_two {σ β:Type}{e:Option σ}{f:σ→α}{g:σ→β}{a:α}{b:β}(h1:e.map f=some a)(h2:e.map g=some b):e.map (fun s=>(f s,g s))=some (a,b):=by
 cases e with
 | none=>cases h1
 | some s=>injection h1 with h1;injection h2 with h2;show some (f s,g s)=_;rw [h1,h2]
theorem HN.left_pr {σ β:Type}{e:Option σ}{f:σ→α×β}{a:α×β}(h1:e.map (fun s=>(f s).1)=some a.1)(h2:e.map (fun s=>(f s).2)=some a.2):e.map f=some a:=by
 cases e with
 | none=>cases h1
 | some s=>injection h1 with h1;injection h2 with h2;exact qQ some (Prod.ext h1 h2)
set_option maxRecDepth 100000 in
set_option maxHeartbeats 0 in
theorem HN.head0 (W:HN.Wp)(Lf:∀ w:bx,(openEnds treeTable PySem.Challenge.rw_hourtable_k64_happenings_that_stay.row.prog w 2718).map (openSeen HN.seenOf [] (kz PySem.Challenge.rw_hourtable_k64_happenings_that_stay.row.prog.main.body) HN.isSeen true)=some (openGood HN.seenOf [])):PySem.Challenge.rw_hourtable_k64_happenings_that_stay.Holds:=by
 w_on;refine holds_law (by decide +kernel) fun said=>?_;k_head
 ·exact fun w=>HN.left_two (Lf w) (by unfold openEnds fencedOpening topFrom;rewrite [ij,ie,ic,iw,ig];kernel_rfl)
 ·rfl
 ·assumption
 ·decide +kernel
 ·exact ⟨rfl,rfl,rfl,rfl,rfl,by decide +kernel⟩
 ·w_witness2
 k_fill
 refine W rfl rfl (fun w h Y=>⟨PySem.W.km_in_of Y,fun T hT=>PySem.W.km_tabs_of Y T (by revert hT;revert T;decide)⟩) (fun w T hT=>by
  simp only [aI,cn,or_false] at hT
  rcases hT with rfl | rfl | rfl
  ·exact ⟨137,by kernel_rfl⟩
  ·exact ⟨273,by kernel_rfl⟩
  ·exact ⟨341,by kernel_rfl⟩
  ) (fun w=>by kernel_rfl) ?F
 case F =>
  intro w C k;refine' k ?_ ?_ ?_ ?_ ?_ ?_ ?_ ?_ ?_ ?_ ?_ ?_ ?_ ?_ ?_ ?_ ?_ ?_ ?_ ?_ ?_ ?_ ?_ ?_ ?_ ?_ ?_ ?_ ?_ ?_ ?_ ?_ ?_ ?_ ?_ ?_ ?_ ?_ ?_ ?_ ?_ ?_ ?_ ?_ ?_ ?_ ?_ ?_ ?_ ?_ ?_ ?_ ?_ ?_ ?_ ?_ ?y1 ?y2 ?z1 ?z2 ?z3 ?z4 ?z5 ?z6 ?z7 ?z8 ?z9 ?z10 ?z11 ?z12 ?z13 ?z14 ?z15 ?z16 ?z17 ?w1 ?w2 ?w3 ?w4 ?w5 ?w6 ?w7 ?w8 ?w9 ?w10 ?w11 ?w12 ?w13 ?w14 ?w15 ?w16 ?w17 ?w18 ?w19 ?w20 ?w21 ?w22 ?w23 ?w24 ?w25 ?wc0 ?wh0 ?wh1 ?wc2 ?wh2
  all_goals first | exact ⟨by k_is,_,_,_,_,_,_,_,_,_,by k_is,by k_is,by k_is⟩ | skip
  (case y1=>k_is);(case y2=>k_is);(case z1=>k_is);(case z2=>k_is);(case z3=>k_is);(case z4=>k_is);(case z5=>k_is);(case z6=>k_is);(case z7=>k_is);(case z8=>k_is);(case z9=>k_is);(case z10=>k_is);(case z11=>k_is);(case z12=>k_is);(case z13=>k_is);(case z14=>k_is);(case z15=>k_is);(case z16=>k_is);(case z17=>k_is)
  (case w1=>k_is)
  (case w2=>k_is)
  (case w3=>k_is)
  (case w4=>k_is)
  (case w5=>k_is)
  (case w6=>k_is)
  (case w7=>k_is)
  (case w8=>k_is)
  (case w9=>k_is)
  (case w10=>k_is)
  (case w11=>k_is)
  (case w12=>k_is)
  (case w13=>k_is)
  (case w14=>k_is)
  (case w15=>k_is)
  (case w16=>k_is)
  (case w17=>k_is)
  (case w18=>k_is)
  (case w19=>k_is)
  (case w20=>k_is)
  (case w21=>k_is)
  (case w22=>k_is)
  (case w23=>k_is)
  (case w24=>k_is)
  (case w25=>k_is)
  (case wc0=>exact ⟨_,_,_,_,_,_,_,_,by k_is⟩)
  (case wh0=>kernel_rfl)
  (case wh1=>kernel_rfl)
  (case wc2=>exact ⟨_,_,_,_,_,_,_,_,by k_is⟩)
  (case wh2=>kernel_rfl)
set_option maxHeartbeats 0 in
theorem HN.left1 (w:bx):(openEnds treeTable PySem.Challenge.rw_hourtable_k64_happenings_that_stay.row.prog w 2718).map (fun s=>(openSeen HN.seenOf [] (kz PySem.Challenge.rw_hourtable_k64_happenings_that_stay.row.prog.main.body) HN.isSeen true s).1)=some (openGood HN.seenOf []).1:=by
 unfold openEnds fencedOpening topFrom;rewrite [ij,ie,ic,iw,ig,l4];kernel_rfl
set_option maxHeartbeats 0 in
theorem HN.left2 (w:bx):(openEnds treeTable PySem.Challenge.rw_hourtable_k64_happenings_that_stay.row.prog w 2718).map (fun s=>(openSeen HN.seenOf [] (kz PySem.Challenge.rw_hourtable_k64_happenings_that_stay.row.prog.main.body) HN.isSeen true s).2)=some (openGood HN.seenOf []).2:=by
 unfold openEnds fencedOpening topFrom;rewrite [ij,ie,ic,iw,ig,l4];kernel_rfl
theorem HN.leftA (w:bx):(openEnds treeTable PySem.Challenge.rw_hourtable_k64_happenings_that_stay.row.prog w 2718).map (openSeen HN.seenOf [] (kz PySem.Challenge.rw_hourtable_k64_happenings_that_stay.row.prog.main.body) HN.isSeen true)=some (openGood HN.seenOf []):=HN.left_pr (f:=openSeen HN.seenOf [] (kz PySem.Challenge.rw_hourtable_k64_happenings_that_stay.row.prog.main.body) HN.isSeen true) (HN.left1 w) (HN.left2 w)
end
namespace L2
open PySem PySem.Spec PyProof.Rows
abbrev Key:=Sum Int Str
def keyIs:Key→ae→Bool
 | .inl k,v=>ae.isInt k v
 | .inr x,v=>ae.isStrOf x v
def keyH (w:bx):Key→Int
 | .inl k=>hashInt k
 | .inr x=>hashStr w x
theorem gz:∀ {k:Key} {v:ae},keyIs k v=true→(∃ i t,k=Sum.inl i∧v=ae.int i t)∨(∃ x t,k=Sum.inr x∧v=ae.str x t)
 | .inl i,v,h=>by
  obtain ⟨t,e⟩:=ae.isInt_shape (k:=i) (v:=v) h;exact .inl ⟨i,t,rfl,e⟩
 | .inr x,v,h=>by
  obtain ⟨t,e⟩:=ae.isStrOf_shape (x:=x) (v:=v) h;exact .inr ⟨x,t,rfl,e⟩
theorem keyIs_int (i:Int)(t:Tok):keyIs (.inl i) (.int i t)=true:=by simp [keyIs,ae.isInt]
theorem keyIs_str (x:Str)(t:Tok):keyIs (.inr x) (.str x t)=true:=by simp [keyIs,ae.isStrOf]
theorem key_ll (a b:Int):decide ((Sum.inl a:Key)=Sum.inl b)=(a == b):=by
 by_cases e:a=b
 ·subst e;simp
 ·have h:¬ (Sum.inl a:Key)=Sum.inl b:=fun q=>e (Sum.inl.inj q)
  rw [qO h];exact (beq_eq_false_iff_ne.mpr e).symm
theorem key_rr (a b:Str):decide ((Sum.inr a:Key)=Sum.inr b)=decide (a=b):=by
 by_cases e:a=b
 ·subst e;simp
 ·have h:¬ (Sum.inr a:Key)=Sum.inr b:=fun q=>e (Sum.inr.inj q)
  rw [qO h,qO e]
theorem key_lr (a:Int)(b:Str):decide ((Sum.inl a:Key)=Sum.inr b)=false:=qO (fun q=>nomatch q)
theorem key_rl (a:Str)(b:Int):decide ((Sum.inr a:Key)=Sum.inl b)=false:=qO (fun q=>nomatch q)
def gM (prog:aW)(w:bx):PySem.KeyKind prog w Key where
 is:=keyIs
 hash:=keyH w
 inj:=fun v a b ha hb=>by
  rcases gz ha with ⟨i,t,rfl,rfl⟩ | ⟨x,t,rfl,rfl⟩
  ·rcases gz hb with ⟨j,u,rfl,e⟩ | ⟨y,u,rfl,e⟩
   ·injection e with e1 _;rw [e1]
   ·exact nomatch e
  ·rcases gz hb with ⟨j,u,rfl,e⟩ | ⟨y,u,rfl,e⟩
   ·exact nomatch e
   ·injection e with e1 _;rw [e1]
 byValue:=fun k v h=>by
  rcases gz h with ⟨i,t,rfl,rfl⟩ | ⟨x,t,rfl,rfl⟩ <;> rfl
 pyHash:=fun hv h=>by
  rcases gz hv with ⟨i,t,rfl,rfl⟩ | ⟨x,t,rfl,rfl⟩
  ·exact wpAny_pyHash_int h
  ·exact wpAny_pyHash_str h
 eqBool:=fun hu hv h=>by
  rcases gz hu with ⟨i,t,rfl,rfl⟩ | ⟨x,t,rfl,rfl⟩
  ·rcases gz hv with ⟨j,u,rfl,rfl⟩ | ⟨y,u,rfl,rfl⟩
   ·rw [key_ll] at h;exact wpAny_eqBool_int h
   ·rw [key_lr] at h;exact SeqAt.EqAt.int_str i t y u _ _ _ _ h
  ·rcases gz hv with ⟨j,u,rfl,rfl⟩ | ⟨y,u,rfl,rfl⟩
   ·rw [key_rl] at h;exact SeqAt.EqAt.str_int x t j u _ _ _ _ h
   ·rw [key_rr] at h;exact wpAny_eqBool_str h
 «strs» := fun k x t v h=>by
  rcases gz h with ⟨i,u,rfl,e⟩ | ⟨y,u,rfl,e⟩
  ·exact nomatch e
  ·injection e with e1 _
   subst e1;cases v <;> rfl
theorem mixKind_int (prog:aW)(w:bx)(i:Int)(t:Tok):(gM prog w).is (.inl i) (.int i t)=true:=keyIs_int i t
theorem mixKind_str (prog:aW)(w:bx)(x:Str)(t:Tok):(gM prog w).is (.inr x) (.str x t)=true:=keyIs_str x t
inductive V where
 | non | bl (b:Bool) | int (i:Int) | str (x:Str) | byt (b:Array UInt8) | flt (b:UInt64) | ref (a:aq) | ty (n:String)
 deriving DecidableEq
def gI:V→ae→Prop
 | .non,u=>u=ae.none
 | .bl b,u=>u=ae.bool b
 | .int i,u=>∃ t,u=ae.int i t
 | .str x,u=>∃ t,u=ae.str x t
 | .byt b,u=>∃ t,u=ae.bytes b t
 | .flt b,u=>∃ t,u=ae.float b t
 | .ref a,u=>u=ae.ref a
 | .ty n,u=>u=ae.type n
abbrev gi:List V→List ae→Prop:=jx gI
theorem gi.length {xs:List V}(r:gi xs us):xs.length=us.length:=Paired.length r
theorem gi.get:∀ {xs:List V} {us:List ae} {i:Nat} {x:V},gi xs us→xs[i]? =some x→∃ u,us[i]? =some u∧gI x u
 | _,_,_,_,.nil,e=>by simp at e
 | _,_,0,_,.cons r _,e=>by simp at e;subst e;exact ⟨_,rfl,r⟩
 | _,_,i+1,x,.cons _ t,e=>by
  obtain ⟨u,h1,h2⟩:=gi.get (i:=i) (x:=x) t (by simpa using e);exact ⟨u,by simpa using h1,h2⟩
theorem gi.set {x:V}{u:ae}(r:gI x u):∀ {xs:List V} {us:List ae} (i:Nat),gi xs us→gi (xs.set i x) (us.set i u)
 | _,_,_,.nil=> .nil
 | _,_,0,.cons _ t=> .cons r t
 | _,_,i+1,.cons q t=> .cons q (gi.set r i t)
theorem gi.append:∀ {xs ys:List V} {us ws:List ae},gi xs us→gi ys ws→gi (xs++ys) (us++ws)
 | _,_,_,_,.nil,s=>s
 | _,_,_,_,.cons r t,s=> .cons r (gi.append t s)
theorem gi.take:∀ {xs:List V} {us:List ae} (n:Nat),gi xs us→gi (xs.take n) (us.take n)
 | _,_,0,_=> .nil
 | _,_,_+1,.nil=> .nil
 | _,_,n+1,.cons r t=> .cons r (gi.take n t)
theorem gi.drop:∀ {xs:List V} {us:List ae} (n:Nat),gi xs us→gi (xs.drop n) (us.drop n)
 | _,_,0,r=>r
 | _,_,_+1,.nil=> .nil
 | _,_,n+1,.cons _ t=>gi.drop n t
def RelO:Option V→Option ae→Prop
 | some v,some u=>gI v u
 | none,none=>True
 | _,_=>False
def KV {κ:Type}:List (κ×V)→List (κ×ae)→Prop:=jx fun (p:κ×V) (q:κ×ae)=>p.1=q.1∧gI p.2 q.2
def kV:Key→V
 | .inl i=> .int i
 | .inr x=> .str x
inductive HO where
 | lst (xs:List V)
 | tup (xs:List V)
 | dK (kvs:List (Key×V)) | dT (kvs:List (List Key×V))
 | set (S:Int→Bool) (n:Nat)
 | ins (C dx:aq) (fs:List (Str×V))
 | own (x:aq)
 | xd (fs:List (Str×V))
 | met (f x:aq)
 | rng (lo hi:Int)
 | frz (o:Obj) (u:HO)
 | tbl (ps:Array ae)
 | ext (φ:bL→Prop)
abbrev Hp:=aq→Option HO
def upd (H:Hp)(a:aq)(o:HO):Hp:=fun b=>if b=a then some o else H b
theorem aQ {H:Hp}{o:HO}:upd H a o a=some o:=by unfold upd;rw [qL rfl]
theorem br {H:Hp}{b:aq}{o:HO}(h:b≠a):upd H a o b=H b:=by unfold upd;rw [qK h]
theorem fW {H:Hp}{b:aq}{o u:HO}(h:H a=some o)(h':H b=some u)(d:o≠u):a≠b:=by
 intro e;subst e;rw [h] at h';exact d (bG h')
theorem bC {H:Hp}{b:aq}{o:HO}(h:H a=some o)(h':H b=none):a≠b:=by
 intro e;subst e;rw [h] at h';cases h'
def mf (h:bL)(a:aq)(items:Array ae):Prop:=∃ o,h.get? a=some o∧o.cls= .type "tuple" ∧o.dict=none∧∃ n,o.data= .seq items n
theorem mf.tup {h:bL}{a:aq}{items:Array ae}(p:mf h a items):IsTup h a items:=let ⟨o,e,c,_,n,d⟩:=p;⟨o,e,c,n,d⟩
theorem mf.lt (p:mf h a items):a<h.objs.size:=p.tup.lt
theorem mf.new (h:bL)(items:Array ae):mf (h.push { cls:= .type "tuple",data:= .seq items }) h.objs.size items:=⟨_,aX _ rfl,rfl,rfl,_,rfl⟩
section
variable (P:aW) (w:bx)
def i4 (H:Hp)(h:bL)(a:aq):HO→Prop
 | .lst xs=>xs.length≤aZ∧∃ (its:List ae) (n:Nat),gi xs its∧h.get? a=some { cls:= .type "list",data:= .seq its.toArray n }
 | .tup xs=>xs.length≤aZ∧∃ its:List ae,gi xs its∧mf h a its.toArray
 | .dK kvs=>kvs.length≤aZ∧(a == iV)=false∧∃ vs,KV kvs vs∧h.DictOf (gM P w) a vs
 | .dT kvs=>kvs.length≤aZ∧(a == iV)=false∧∃ xs:List (List Key×aq×ae),
   jx (fun (p:List Key×V) (q:List Key×aq×ae)=>p.1=q.1∧H q.2.1=some (.tup (p.1.map kV))∧gI p.2 q.2.2) kvs xs ∧
   ∃ o es ep,h.get? a=some o∧o.ExactDict∧o.data= .dict es ep∧es.toList=xs.map (entryOfKey (tupleKind (gM P w)))∧(xs.map (·.1)).Nodup
 | .set S n=>h.SetOf (intKind P w) a S n
 | .ins C dx fs=>H dx=some (.own a)∧fs.length≤1000∧dx≠a∧h.get? a=some (fS C dx) ∧
   ∃ mA,h.Ns1 dx mA∧(∀ f,RelO (fs.lookup f) (mA f))∧PySem.Within mA (fs.map (·.1))
 | .own _=>∃ o,h.get? a=some o
 | .xd fs=>∃ mA,h.Ns1 a mA∧∀ f,RelO (fs.lookup f) (mA f)
 | .rng lo hi=>∃ t u v,h.get? a=some { cls:= .type "range",data:= .fields #[.int lo t,.int hi u,.int 1 v] }
 | .frz o u=>h.get? a=some o∧i4 H h a u
 | .tbl ps=>h.get? a=some { cls:= .none,data:= .fields ps }
 | .met f x=>h.get? a=some (PySem.W.methodObj (.ref f) (.ref x))
 | .ext φ=>φ h∧(∃ o,h.get? a=some o)∧∀ h1 h2:bL,φ h1→(∀ o,h1.get? a=some o→h2.get? a=some o)→φ h2
def HOk (H:Hp)(h:bL):Prop:=∀ a o,H a=some o→i4 P w H h a o
end
section
variable {H H':Hp}{o:HO}
theorem i4.lt (x:i4 P w H h a o):a<h.objs.size:=by
 cases o with
 | lst xs=>obtain ⟨_,_,_,_,e⟩:=x;exact aL e
 | tup xs=>obtain ⟨_,_,_,p⟩:=x;exact p.lt
 | dK kvs=>obtain ⟨_,_,_,_,o,_,_,e,_⟩:=x;exact aL e
 | dT kvs=>obtain ⟨_,_,_,_,o,_,_,e,_⟩:=x;exact aL e
 | set S n=>obtain ⟨o,_,_,_,e,_⟩:=x;exact aL e
 | ins C dx fs=>obtain ⟨_,_,_,e,_⟩:=x;exact aL e
 | own y=>obtain ⟨_,e⟩:=x;exact aL e
 | xd fs=>obtain ⟨_,⟨_,_,_,e,_⟩,_⟩:=x;exact aL e
 | rng lo hi=>obtain ⟨_,_,_,e⟩:=x;exact aL e
 | frz ob u=>obtain ⟨e,_⟩:=x;exact aL e
 | tbl ps=>exact aL (show h.get? a=some _ from x)
 | met f y=>exact aL (show h.get? a=some _ from x)
 | ext φ=>obtain ⟨_,⟨_,e⟩,_⟩:=x;exact aL e
theorem Paired.mapP {α β:Type}{F G:α→β→Prop}:∀ {l₁:List α} {l₂:List β},jx F l₁ l₂→(∀ a b,F a b→G a b)→jx G l₁ l₂
 | _,_,.nil,_=> .nil
 | _,_,.cons r t,f=> .cons (f _ _ r) (Paired.mapP t f)
theorem i4.stay (x:i4 P w H h a o)(k:∀ b u,(b=a∨H b=some (.own a))→h.get? b=some u→h'.get? b=some u)
  (ho:∀ b,H b=some (.own a)→H' b=some (.own a)) (ht:∀ b xs,H b=some (.tup xs)→H' b=some (.tup xs)):i4 P w H' h' a o:=by
 induction o with
 | lst xs=>obtain ⟨z,its,n,r,e⟩:=x;exact ⟨z,its,n,r,k _ _ (.inl rfl) e⟩
 | tup xs=>obtain ⟨z,its,r,ob,e,c⟩:=x;exact ⟨z,its,r,ob,k _ _ (.inl rfl) e,c⟩
 | dK kvs=>obtain ⟨z,y,vs,r,ob,es,ep,e,c⟩:=x;exact ⟨z,y,vs,r,ob,es,ep,k _ _ (.inl rfl) e,c⟩
 | dT kvs =>
  obtain ⟨z,y,xs,r,ob,es,ep,e,c⟩:=x;exact ⟨z,y,xs,Paired.mapP r fun p q z=>⟨z.1,ht _ _ z.2.1,z.2.2⟩,ob,es,ep,k _ _ (.inl rfl) e,c⟩
 | set S n=>obtain ⟨ob,es,ep,t,e,c⟩:=x;exact ⟨ob,es,ep,t,k _ _ (.inl rfl) e,c⟩
 | ins C dx fs =>
  obtain ⟨d,z,ne,e,mA,⟨od,es,ep,e2,c⟩,r⟩:=x;exact ⟨ho _ d,z,ne,k _ _ (.inl rfl) e,mA,⟨od,es,ep,k _ _ (.inr d) e2,c⟩,r⟩
 | own y=>obtain ⟨ob,e⟩:=x;exact ⟨ob,k _ _ (.inl rfl) e⟩
 | xd fs=>obtain ⟨mA,⟨od,es,ep,e,c⟩,r⟩:=x;exact ⟨mA,⟨od,es,ep,k _ _ (.inl rfl) e,c⟩,r⟩
 | rng lo hi=>obtain ⟨t,u,v,e⟩:=x;exact ⟨t,u,v,k _ _ (.inl rfl) e⟩
 | frz ob u ih=>obtain ⟨e,q⟩:=x;exact ⟨k _ _ (.inl rfl) e,ih q⟩
 | tbl ps =>
  have e:h.get? a=some { cls:= .none,data:= .fields ps }:=x;show h'.get? a=some { cls:= .none,data:= .fields ps };exact k a _ (.inl rfl) e
 | met f y =>
  have e:h.get? a=some (PySem.W.methodObj (.ref f) (.ref y)):=x;show h'.get? a=some (PySem.W.methodObj (.ref f) (.ref y));exact k a _ (.inl rfl) e
 | ext φ=>obtain ⟨p,⟨o,e⟩,st⟩:=x;exact ⟨st _ _ p fun o q=>k _ _ (.inl rfl) q,⟨o,k _ _ (.inl rfl) e⟩,st⟩
theorem HOk.lt (x:HOk P w H h)(e:H a=some o):a<h.objs.size:=(x a o e).lt
theorem HOk.fresh (x:HOk P w H h)(e:h.objs.size≤a):H a=none:=by
 cases q:H a with
 | none=>rfl
 | some u=>exact qM (aU (x.lt q) e) (fq _)
theorem HOk.kept (x:HOk P w H h)(k:∀ b u,h.get? b=some u→h'.get? b=some u):HOk P w H h':=fun a o e =>
 (x a o e).stay (fun b u _ q=>k b u q) (fun _ q=>q) fun _ _ q=>q
theorem HOk.laid (x:HOk P w H h)(k:∀ b u,h.get? b=some u→h'.get? b=some u)(hp:h.objs.size≤a)(new:i4 P w (upd H a o) h' a o):HOk P w (upd H a o) h':=fun b u e=>by
 have hn:=x.fresh hp
 by_cases hb:b=a
 ·subst hb;rw [aQ] at e;cases e;exact new
 ·rw [br hb] at e
  exact (x b u e).stay (fun c v _ q=>k c v q) (fun c q=>by rw [br (bC q hn)];exact q) fun c xs q=>by rw [br (bC q hn)];exact q
end
def Rd (H:Hp)(a:aq)(u:HO):Prop:=H a=some u∨∃ o,H a=some (.frz o u)
theorem Rd.of {H:Hp}{u:HO}(h:H a=some u):Rd H a u:= .inl h
theorem Rd.ok {H:Hp}{u:HO}(r:Rd H a u)(x:HOk P w H h):i4 P w H h a u:=by
 rcases r with r | ⟨o,r⟩
 ·exact x a u r
 ·obtain ⟨_,q⟩:=x a _ r
  exact q
def Mut:Option HO→Prop
 | some (.lst _)=>True
 | some (.dK _)=>True
 | some (.dT _)=>True
 | some (.set _ _)=>True
 | some (.ins _ _ _)=>True
 | some (.ext _)=>True
 | _=>False
section
variable {H:Hp}{x e:aq}{o':HO}
theorem HOk.write (ok:HOk P w H h)(mu:Mut (H x))(he:e=x∨H e=some (.own x))(k:∀ b u,b≠e→h.get? b=some u→h'.get? b=some u)(heo:∃ u,h'.get? e=some u)
  (new:i4 P w (upd H x o') h' x o'):HOk P w (upd H x o') h':=fun b u q=>by
 have nown:∀ c y,H c=some (.own y)→c≠x:=fun c y r z=>by subst z;rw [r] at mu;exact mu
 have ntup:∀ c xs,H c=some (.tup xs)→c≠x:=fun c xs r z=>by subst z;rw [r] at mu;exact mu
 by_cases hb:b=x
 ·subst hb;rw [aQ] at q;cases q;exact new
 ·rw [br hb] at q
  by_cases hbe:b=e
  ·have q':H b=some (.own x):=by
    rcases he with z | z
    ·exact qM (hbe.trans z) hb
    ·rw [hbe];exact z
   rw [q] at q';cases q';obtain ⟨v,hv⟩:=heo;exact ⟨v,by rw [hbe];exact hv⟩
  ·refine (ok b u q).stay (fun c v hc r=>k c v ?_ r) (fun c r=>by rw [br (nown c b r)];exact r) fun c xs r=>by rw [br (ntup c xs r)];exact r
   rcases hc with rfl | hc
   ·exact hbe
   ·rintro rfl
    rcases he with z | z
    ·exact nown c b hc z
    ·rw [hc] at z;cases z;exact hb rfl
end
structure Un (fs ex:List aq)(H H':Hp)(h h':bL):Prop where
 keep:∀ b o,h.get? b=some o→H b=none→b ∉ fs→b ∉ ex→h'.get? b=some o
 slot:∀ b o,h.get? b=some o→H b=none→b∈fs→b ∉ ex→∃ sl,h'.get? b=some { o with slots:=sl }
 free:∀ b o,h.get? b=some o→H b=none→b ∉ ex→H' b=none
 there:∀ b o,h.get? b=some o→b ∉ ex→∃ o',h'.get? b=some o'
 tups:∀ b xs,H b=some (.tup xs)→H' b=some (.tup xs)
 frzs:∀ b o u,H b=some (.frz o u)→H' b=some (.frz o u)
 tbls:∀ b ps,H b=some (.tbl ps)→∃ more,H' b=some (.tbl (ps++more))
section
variable {fs fs' ex ex':List aq}{H H1 H2:Hp}{h1 h2:bL}{x e:aq}{o:HO}
theorem Un.any (u:Un fs ex H H1 h h1){b:aq}(q:h.get? b=some ob)(n:H b=none)(hx:b ∉ ex):∃ sl,h1.get? b=some { ob with slots:=sl }:=by
 by_cases hb:b∈fs
 ·exact u.slot b ob q n hb hx
 ·exact ⟨ob.slots,u.keep b ob q n hb hx⟩
theorem Un.kept (k:∀ b u,h.get? b=some u→h'.get? b=some u):Un fs ex H H h h' :=
 ⟨fun b ob q _ _ _=>k b ob q,fun b ob q _ _ _=>⟨ob.slots,k b ob q⟩,fun _ _ _ n _=>n,fun b ob q _=>⟨ob,k b ob q⟩,fun _ _ q=>q,fun _ _ _ q=>q,fun _ ps q=>⟨#[],by rw [q];simp⟩⟩
theorem Un.refl:Un fs ex H H h h:=Un.kept fun _ _ q=>q
theorem Un.laid (k:∀ b u,h.get? b=some u→h'.get? b=some u)(hp:h.objs.size≤a)(hn:H a=none):Un fs ex H (upd H a o) h h' where
 keep:=fun b u q _ _ _=>k b u q
 slot:=fun b u q _ _ _=>⟨u.slots,k b u q⟩
 free:=fun b u q n _=>by rw [br (bI (aU (aL q) hp))];exact n
 there:=fun b u q _=>⟨u,k b u q⟩
 tups:=fun b xs q=>by rw [br (bC q hn)];exact q
 frzs:=fun b u xs q=>by rw [br (bC q hn)];exact q
 tbls:=fun b ps q=>⟨#[],by rw [br (bC q hn),q];simp⟩
theorem Un.write (mu:Mut (H x))(he:e=x∨H e=some (.own x))(k:∀ b u,b≠e→h.get? b=some u→h'.get? b=some u)(heo:∃ u,h'.get? e=some u):Un fs ex H (upd H x o) h h':=by
 have hx:∀ b,H b=none→b≠x:=fun b n z=>by subst z;rw [n] at mu;exact mu
 have hb:∀ b,H b=none→b≠e:=fun b n z=>by
  subst z
  rcases he with r | r
  ·exact hx b n r
  ·rw [n] at r;cases r
 have hm:∀ b u,H b=some u→¬ Mut (some u)→b≠x:=fun b u q nm z=>by subst z;rw [q] at mu;exact nm mu
 refine ⟨fun b u q n _ _=>k b u (hb b n) q,fun b u q n _ _=>⟨u.slots,k b u (hb b n) q⟩,fun b u q n _=>by rw [br (hx b n)];exact n,fun b u q _=>?_,
  fun b xs q=>by rw [br (hm b _ q fun z=>z)];exact q,fun b u xs q=>by rw [br (hm b _ q fun z=>z)];exact q,fun b ps q=>⟨#[],by rw [br (hm b _ q fun z=>z),q];simp⟩⟩
 by_cases hbe:b=e
 ·subst hbe;exact heo
 ·exact ⟨u,k b u hbe q⟩
end
def trk (h:bL)(H:Hp):List aq:=(aF h.objs.size).filter fun a=>(H a).isSome
def hidT (h:bL)(H:Hp):bL:=PySem.W.hideAll h (trk h H)
theorem hidT_size (h:bL)(H:Hp):(hidT h H).objs.size=h.objs.size:=PySem.W.hideAll_size _ _
theorem hidT_get {H:Hp}{b:aq}{o:Obj}(e:h.get? b=some o)(n:H b=none):(hidT h H).get? b=some o :=
 PySem.W.hideAll_get _ e fun hm=>by
  have q:(H b).isSome=true:=(bS.mp hm).2;rw [n] at q;simp at q
theorem of_hidT {H:Hp}{b:aq}{o:Obj}(e:(hidT h H).get? b=some o):h.get? b=some o∧H b=none:=by
 have e':h.get? b=some o:=PySem.W.of_hideAll (trk h H) e;refine ⟨e',?_⟩;cases q:H b with
 | none=>rfl
 | some x =>
  have hm:b∈trk h H:=bS.mpr ⟨cg.mpr (aL e'),by simp [q]⟩;have z:(hidT h H).get? b=none:=PySem.W.hideAll_none (trk h H) hm;rw [z] at e;cases e
structure Mod (K:au)(mg:Str→Option ae)(base:bL):Prop where
 kin:K.In base
 glob:base.Ns bQ mg
 blt:∃ mb,base.Ns builtinsNs mb∧∀ x:Str,x ≠ "__name__" →mb x=bootBuiltins x
 nolimit:base.NoLimit
structure Cx where
 prog:aW
 w:bx
 K:au
 mg:Str→Option ae
 base:bL
 A:bW
 N:List Str
 s₀:ax
 H₀:Hp
 env:Env
 outer:List Env
 stack:List Env
 ex:List aq
 fn:Str→Bool
 calm:Bool
 pn:List (aq×Obj)
 xe:ae→ax→Prop
def frs (l:List Env):List aq:=l.filterMap (·.frame)
abbrev Cx.fs (X:Cx):List aq:=frs X.outer
def Vis (sc:fO)(x:Str):Prop:=sc.names.lookup x=some .local∨sc.names.lookup x=some .cell∨sc.names.lookup x=some .free
def Loc (sc:fO)(x:Str):Prop:=sc.names.lookup x=some .local∨sc.names.lookup x=some .cell
def Look (env:Env)(h:bL)(m:Str→Option ae)(x:Str)(u:ae):Prop :=
 (env.kindOf x=some .local∧m x=some u)∨((env.kindOf x=some .cell∨env.kindOf x=some .free)∧∃ c,env.cells.lookup x=some c∧h.IsCell c (some u))
structure Cx.Ok (X:Cx):Prop where
 mod:Mod X.K X.mg X.base
 kind:X.env.scope.kind= .function
 glob:X.env.globals=bQ
 blt:X.env.builtins=builtinsNs
 above:X.s₀.heap.objs.size≤X.env.locals
 inj:∀ x y c,X.env.cells.lookup x=some c→X.env.cells.lookup y=some c→x=y
 has:∀ x,(X.env.kindOf x=some .cell∨X.env.kindOf x=some .free)→∃ c,X.env.cells.lookup x=some c
 cab:∀ x c,X.fn x=true→X.env.cells.lookup x=some c→X.s₀.heap.objs.size≤c
 hd:X.calm=true→X.A.handled=none
 frames:X.A.frames=some X.stack
 stk:X.stack=X.outer∨(X.stack=X.env::X.outer∧X.env.frame=some X.env.locals)
 exf:∀ b∈X.ex,b≠X.env.locals∧∀ x c,X.env.cells.lookup x=some c→c≠b
 bs:∀ b o,X.base.get? b=some o→X.s₀.heap.get? b=some o∧X.H₀ b=none
 bsz:X.base.objs.size≤X.s₀.heap.objs.size
 noex:∀ b o,X.base.get? b=some o→b ∉ X.ex
 exfs:∀ b∈X.ex,b ∉ X.fs
 funs:X.s₀.heap.FunFrames X.base X.outer
 frf:∀ b∈X.fs,X.H₀ b=none
structure Inv (X:Cx)(aR:List (aq×Obj))(σ:List (Option V))(H:Hp)(s:ax):Prop where
 ok:X.Ok
 os:s.os=X.s₀.os
 bare:AllBare s.gens
 base:Un X.fs X.ex X.H₀ H X.s₀.heap s.heap
 loc:∃ m,s.heap.Ns X.env.locals m∧∀ (i:Nat) (x:Str) (v:V),X.N[i]? =some x→σ[i]? =some (some v)→Vis X.env.scope x→∃ u,gI v u∧Look X.env s.heap m x u
 cell:∀ x c,X.env.cells.lookup x=some c→∃ v,s.heap.IsCell c v
 free:H X.env.locals=none
 freeC:∀ x c,X.env.cells.lookup x=some c→H c=none
 pin:∀ p∈X.pn++aR,s.heap.get? p.1=some p.2∧H p.1=none∧p.1≠X.env.locals∧p.1 ∉ X.fs∧∀ v,p.2.data≠ .cell v
 hok:HOk X.prog X.w H s.heap
 len:σ.length=X.N.length
section
variable {X:Cx}{σ:List (Option V)}{H H':Hp}
theorem Cx.Ok.nofr (ok:X.Ok){b:aq}{o:Obj}(e:X.base.get? b=some o):b ∉ X.fs:=fun hb=>by
 have:=(ok.funs.mem hb).1;rw [e] at this;cases this
theorem Inv.bs (I:Inv X aR σ H s):∀ b o,X.base.get? b=some o→s.heap.get? b=some o∧H b=none:=fun b o e =>
 ⟨I.base.keep b o (I.ok.bs b o e).1 (I.ok.bs b o e).2 (I.ok.nofr e) (I.ok.noex b o e),I.base.free b o (I.ok.bs b o e).1 (I.ok.bs b o e).2 (I.ok.noex b o e)⟩
theorem Inv.bk (I:Inv X aR σ H s):∀ b o,X.base.get? b=some o→s.heap.get? b=some o:=fun b o e=>(I.bs b o e).1
theorem Inv.mod (I:Inv X aR σ H s):Mod X.K X.mg X.base:=I.ok.mod
theorem Inv.kIn (I:Inv X aR σ H s):X.K.In s.heap:=I.ok.mod.kin.keeps I.bk
theorem Inv.nolimit (I:Inv X aR σ H s):s.heap.NoLimit:=I.ok.mod.nolimit.keeps I.bk
theorem Inv.lt (I:Inv X aR σ H s):X.env.locals<s.heap.objs.size:=let ⟨_,hn,_⟩:=I.loc;hn.lt
theorem Inv.sz (I:Inv X aR σ H s):X.s₀.heap.objs.size≤s.heap.objs.size:=aM I.ok.above (iL I.lt)
theorem Inv.nofs (I:Inv X aR σ H s)(h:s.heap.objs.size≤a):a ∉ X.fs:=fun hb=>by
 obtain ⟨_,o,ho,_⟩:=I.ok.funs.mem hb;exact qM (aU (aL ho) (aM I.sz h)) (fq _)
theorem Inv.cne (I:Inv X aR σ H s):∀ x c,X.env.cells.lookup x=some c→c≠X.env.locals:=fun x c e z=>by
 obtain ⟨v,o,ho,hd⟩:=I.cell x c e;obtain ⟨m,⟨o',es,ep,ho',hd',_⟩,_⟩:=I.loc;rw [z,ho'] at ho;cases ho;rw [hd'] at hd;cases hd
theorem Inv.funs (I:Inv X aR σ H s):s.heap.FunFrames X.base X.outer:=by
 have all:∀ (l:List Env),(∀ b∈frs l,b∈X.fs)→X.s₀.heap.FunFrames X.base l→s.heap.FunFrames X.base l:=by
  intro l
  induction l with
  | nil=>intro _ _;trivial
  | cons env r ih =>
   intro hs hl;obtain ⟨hk,⟨L,o,hf,hn,ho,hd⟩,hr⟩:=hl;have hL:L∈X.fs:=hs L (by unfold frs;rw [List.filterMap_cons,hf];exact bJ);obtain ⟨sl,e⟩:=I.base.slot L o ho (I.ok.frf L hL) hL fun z=>I.ok.exfs L z hL
   exact ⟨hk,⟨L,_,hf,hn,e,hd⟩,ih (fun b hb=>hs b (by unfold frs;rw [List.filterMap_cons,hf];exact az _ hb)) hr⟩
 exact all X.outer (fun _ hb=>hb) I.ok.funs
theorem Inv.stack (I:Inv X aR σ H s):s.heap.FunFrames X.base X.stack:=by
 rcases I.ok.stk with e | ⟨e,hf⟩
 ·rw [e];exact I.funs
 ·rw [e]
  obtain ⟨m,hn,_⟩:=I.loc;refine .cons (by rw [I.ok.kind];decide) hf hn ?_ I.funs;exact bL.get?_none_of_le (aM I.ok.bsz I.ok.above)
theorem Inv.stkSub (I:Inv X aR σ H s):∀ b∈frs X.stack,b∈X.env.locals::X.fs:=fun b hb=>by
 rcases I.ok.stk with e | ⟨e,hf⟩
 ·rw [e] at hb;exact az _ hb
 ·rw [e] at hb
  unfold frs at hb;rw [List.filterMap_cons,hf] at hb;exact hb
theorem Inv.stkFree (I:Inv X aR σ H s):∀ b∈frs X.stack,H b=none:=fun b hb=>by
 rcases aI.mp (I.stkSub b hb) with e | hb
 ·rw [e];exact I.free
 ·obtain ⟨_,o,ho,_⟩:=I.ok.funs.mem hb
  exact I.base.free b o ho (I.ok.frf b hb) fun z=>I.ok.exfs b z hb
theorem Inv.step (I:Inv X aR σ H s)
  (hch:∀ b∈ch,(b∈X.ex∨X.s₀.heap.objs.size≤b)∧b≠X.env.locals∧(∀ x c,X.env.cells.lookup x=some c→c≠b)∧∀ p∈X.pn++aR,p.1≠b)
  (keep:∀ b o,b≠X.env.locals→b ∉ X.fs→b ∉ ch→s.heap.get? b=some o→H b=none→h'.get? b=some o)
  (slot:∀ b o,b≠X.env.locals→b∈X.fs→b ∉ ch→s.heap.get? b=some o→H b=none→∃ sl,h'.get? b=some { o with slots:=sl }) (free:∀ b o,b ∉ ch→s.heap.get? b=some o→H b=none→H' b=none)
  (there:∀ b o,b ∉ ch→s.heap.get? b=some o→∃ o',h'.get? b=some o')
  (tups:∀ b xs,H b=some (.tup xs)→H' b=some (.tup xs)) (frzs:∀ b o u,H b=some (.frz o u)→H' b=some (.frz o u)) (tbls:∀ b ps,H b=some (.tbl ps)→∃ more,H' b=some (.tbl (ps++more)))
  (ns:∀ m,s.heap.Ns X.env.locals m→h'.Ns X.env.locals m) (hok:HOk X.prog X.w H' h') (hg:AllBare g') :
  Inv X aR σ H' { s with heap:=h',gens:=g',drawn:=d',toks:=t' }:=by
 have neL:∀ b o,X.s₀.heap.get? b=some o→b≠X.env.locals:=fun b o e=>bI (aU (aL e) I.ok.above)
 have neC:∀ b o,X.s₀.heap.get? b=some o→b ∉ X.ex→b ∉ ch:=fun b o e hx hb=>by
  rcases (hch b hb).1 with z | z
  ·exact hx z
  ·exact qM (aU (aL e) z) (fq _)
 have cellK:∀ x c,X.env.cells.lookup x=some c→∀ v,s.heap.IsCell c v→h'.IsCell c v:=fun x c e v ⟨o,ho,hd⟩=>by
  have nch:c ∉ ch:=fun z=>(hch c z).2.2.1 x c e rfl
  by_cases hc:c∈X.fs
  ·obtain ⟨sl,q⟩:=slot c o (I.cne x c e) hc nch ho (I.freeC x c e)
   exact ⟨_,q,hd⟩
  ·exact ⟨o,keep c o (I.cne x c e) hc nch ho (I.freeC x c e),hd⟩
 refine ⟨I.ok,I.os,hg,⟨fun b o e n hb hx=>?_,fun b o e n hb hx=>?_,fun b o e n hx=>?_,fun b o e hx=>?_,fun b xs e=>tups b xs (I.base.tups b xs e),fun b o xs e=>frzs b o xs (I.base.frzs b o xs e),fun b ps e=>?_⟩,?_,fun x c e=>?_,?_,fun x c e=>?_,fun p hp=>?_,hok,I.len⟩
 ·exact keep b o (neL b o e) hb (neC b o e hx) (I.base.keep b o e n hb hx) (I.base.free b o e n hx)
 ·obtain ⟨sl,e1⟩:=I.base.slot b o e n hb hx
  obtain ⟨sl',e2⟩:=slot b _ (neL b o e) hb (neC b o e hx) e1 (I.base.free b o e n hx);exact ⟨sl',e2⟩
 ·obtain ⟨o',e1⟩:=I.base.there b o e hx
  exact free b o' (neC b o e hx) e1 (I.base.free b o e n hx)
 ·obtain ⟨o',e1⟩:=I.base.there b o e hx
  exact there b o' (neC b o e hx) e1
 ·obtain ⟨m1,e1⟩:=I.base.tbls b ps e
  obtain ⟨m2,e2⟩:=tbls b _ e1;exact ⟨m1++m2,by rw [e2,Array.append_assoc]⟩
 ·obtain ⟨m,hn,hl⟩:=I.loc
  refine ⟨m,ns m hn,fun i x v e1 e2 e3=>?_⟩;obtain ⟨u,r,l⟩:=hl i x v e1 e2 e3;refine ⟨u,r,?_⟩
  rcases l with l | ⟨k,c,e,z⟩
  ·exact .inl l
  ·exact .inr ⟨k,c,e,cellK x c e _ z⟩
 ·obtain ⟨v,z⟩:=I.cell x c e
  exact ⟨v,cellK x c e v z⟩
 ·obtain ⟨m,⟨o,_,_,ho,_⟩,_⟩:=I.loc
  exact free _ o (fun z=>(hch _ z).2.1 rfl) ho I.free
 ·obtain ⟨v,o,ho,hd⟩:=I.cell x c e
  exact free c o (fun z=>(hch c z).2.2.1 x c e rfl) ho (I.freeC x c e)
 ·obtain ⟨e,n,ne,nf,d⟩:=I.pin p hp
  have nch:p.1 ∉ ch:=fun z=>(hch p.1 z).2.2.2 p hp rfl
  exact ⟨keep p.1 p.2 ne nf nch e n,free p.1 p.2 nch e n,ne,nf,d⟩
theorem Inv.un (I:Inv X aR σ H s)(u:Un X.fs [] H H' s.heap h')(hok:HOk X.prog X.w H' h'):Inv X aR σ H' { s with heap:=h',toks:=t' }:=by
 obtain ⟨m,⟨o,es,ep,ho,r⟩,_⟩:=id I.loc;obtain ⟨sl,hL⟩:=u.any ho I.free (by simp);exact I.step (g':=s.gens) (d':=s.drawn) (ch:=[]) (fun _ z=>nomatch z) (fun b o _ hb _ e n=>u.keep b o e n hb (by simp)) (fun b o _ hb _ e n=>u.slot b o e n hb (by simp)) (fun b o _ e n=>u.free b o e n (by simp)) (fun b o _ e=>u.there b o e (by simp)) u.tups u.frzs u.tbls (fun m' hm=>by
  obtain ⟨o',es',ep',ho',r'⟩:=hm;rw [ho] at ho';cases ho';exact ⟨_,es',ep',hL,r'⟩) hok I.bare
theorem Inv.call (I:Inv X aR σ H s)(u:Un (frs X.stack) ch H H' s.heap h')(hok:HOk X.prog X.w H' h')(hg:AllBare g')
  (hch:∀ b∈ch,(b∈X.ex∨X.s₀.heap.objs.size≤b)∧b≠X.env.locals∧(∀ x c,X.env.cells.lookup x=some c→c≠b)∧∀ p∈X.pn++aR,p.1≠b) :
  Inv X aR σ H' { s with heap:=h',gens:=g',drawn:=d',toks:=t' }:=by
 obtain ⟨m,⟨o,es,ep,ho,r⟩,_⟩:=id I.loc;obtain ⟨sl,hL⟩:=u.any ho I.free fun z=>(hch _ z).2.1 rfl
 exact I.step (ch:=ch) hch (fun b o hL hb hc e n=>u.keep b o e n (fun z=>(aI.mp (I.stkSub b z)).elim hL hb) hc) (fun b o _ _ hc e n=>u.any e n hc) (fun b o hc e n=>u.free b o e n hc) (fun b o hc e=>u.there b o e hc) u.tups u.frzs u.tbls (fun m' hm=>by
  obtain ⟨o',es',ep',ho',r'⟩:=hm;rw [ho] at ho';cases ho';exact ⟨_,es',ep',hL,r'⟩) hok hg
theorem Inv.turned {it:aq}(I:Inv X aR σ H s)(k:∀ b o,b≠it→s.heap.get? b=some o→h'.get? b=some o)(hn:H it=none)(hL:it≠X.env.locals)
  (h1:it∈X.ex∨X.s₀.heap.objs.size≤it) (h2:∀ x c,X.env.cells.lookup x=some c→c≠it) (h3:∀ p∈X.pn++aR,p.1≠it):Inv X aR σ H { s with heap:=h',toks:=t' }:=by
 have nit:∀ b u,H b=some u→b≠it:=fun b u e z=>by rw [z,hn] at e;cases e
 refine I.step (g':=s.gens) (d':=s.drawn) (ch:=[it]) (fun b hb=>?_) (fun b o _ _ hc e _=>k b o (fun z=>hc (by simp [z])) e) (fun b o _ _ hc e _=>⟨o.slots,k b o (fun z=>hc (by simp [z])) e⟩) (fun _ _ _ _ n=>n)
  (fun b o hc e=>⟨o,k b o (fun z=>hc (by simp [z])) e⟩) (fun _ _ e=>e) (fun _ _ _ e=>e) (fun b ps e=>⟨#[],by rw [e];simp⟩) (fun m hm=>?_) (fun b u e=>?_) I.bare
 ·have e:b=it:=by simpa using hb
  subst e;exact ⟨h1,hL,h2,h3⟩
 ·obtain ⟨o,es,ep,ho,r⟩:=hm
  exact ⟨o,es,ep,k _ o (dB hL) ho,r⟩
 ·refine (I.hok b u e).stay (fun c v hc q=>k c v ?_ q) (fun _ q=>q) fun _ _ q=>q
  rcases hc with z | z
  ·rw [z];exact nit b u e
  ·exact nit c _ z
theorem Inv.tok (I:Inv X aR σ H s)(t:Nat):Inv X aR σ H { s with toks:=t }:=I.un (h':=s.heap) (t':=t) Un.refl I.hok
theorem Inv.kept (I:Inv X aR σ H s)(k:∀ b u,s.heap.get? b=some u→h'.get? b=some u):Inv X aR σ H { s with heap:=h',toks:=t' }:=I.un (Un.kept k) (I.hok.kept k)
theorem Inv.laid {o:HO}(I:Inv X aR σ H s)(k:∀ b u,s.heap.get? b=some u→h'.get? b=some u)(hp:s.heap.objs.size≤a)(new:i4 X.prog X.w (upd H a o) h' a o) :
  Inv X aR σ (upd H a o) { s with heap:=h',toks:=t' }:=I.un (Un.laid k hp (I.hok.fresh hp)) (I.hok.laid k hp new)
theorem Inv.write {x e:aq}{o:HO}(I:Inv X aR σ H s)(mu:Mut (H x))(he:e=x∨H e=some (.own x))(k:∀ b u,b≠e→s.heap.get? b=some u→h'.get? b=some u)(heo:∃ u,h'.get? e=some u)
  (new:i4 X.prog X.w (upd H x o) h' x o):Inv X aR σ (upd H x o) { s with heap:=h',toks:=t' }:=I.un (Un.write mu he k heo) (I.hok.write mu he k heo new)
theorem Inv.pins_of (I:Inv X aR σ H s)(h:∀ p∈pins',s.heap.get? p.1=some p.2∧H p.1=none∧p.1≠X.env.locals∧p.1 ∉ X.fs∧∀ v,p.2.data≠ .cell v):Inv X pins' σ H s :=
 ⟨I.ok,I.os,I.bare,I.base,I.loc,I.cell,I.free,I.freeC,fun p hp=>(aH.mp hp).elim (fun z=>I.pin p (aJ _ z)) (h p),I.hok,I.len⟩
theorem nodup_ix (hN:N.Nodup)(a:N[i]? =some x)(b:N[j]? =some x):i=j:=by
 obtain ⟨h1,e1⟩:=ao.mp a;obtain ⟨h2,e2⟩:=ao.mp b;exact (jG hN).mp (e1.trans e2.symm)
theorem store_ok2 {v:V}{Q:Unit→ax→Prop}(I:Inv X aR σ H s)(hN:X.N.Nodup)(hi:X.N[i]? =some x)(hx:Loc X.env.scope x)(r:gI v u)
  (h:∀ s',Inv X aR (σ.set i (some v)) H s'→(∃ a,cx a s.heap s'.heap∧(a=X.env.locals∨X.env.cells.lookup x=some a))→Q () s') (hf:X.fn x=true∨X.env.scope.names.lookup x=some .local:=by first | exact .inl rfl | exact .inr rfl | assumption):bf M A (storeName X.env x u) Q E s:=by
 obtain ⟨m,hn,hl⟩:=id I.loc;have hcls:(X.env.scope.kind == .class || (X.env.scope.kind == .module && X.env.locals != X.env.globals))=false:=by rw [I.ok.kind];rfl
 have hiσ:i<σ.length:=by rw [I.len];exact (ao.mp hi).1
 have cne:=I.cne;have tracked:∀ {a:aq} {h':bL},(∃ o,s.heap.get? a=some o∧H a=none)→cx a s.heap h'→HOk X.prog X.w H h':=fun {a h'} ha hs b ob e=>by
  obtain ⟨_,_,hfree⟩:=ha;refine (I.hok b ob e).stay (fun c w' hc q=>(hs.2 c ?_).trans q) (fun _ q=>q) fun _ _ q=>q
  rintro rfl
  rcases hc with rfl | hc
  ·rw [hfree] at e;cases e
  ·rw [hfree] at hc;cases hc
 rcases hx with hk | hk
 ·refine wpAny_storeName_local hk hn (fun h' hn' hs=>?_) hcls
  obtain ⟨oL,_,_,hoL,_⟩:=id hn;refine h _ ⟨I.ok,I.os,I.bare,⟨fun b o e n hb hx=>?_,fun b o e n hb hx=>?_,I.base.free,fun b o e hx=>?_,I.base.tups,I.base.frzs,I.base.tbls⟩,⟨_,hn',fun j y v' e1 e2 e3=>?_⟩,fun y c e=>?_,I.free,I.freeC,fun p hp=>?_,tracked ⟨oL,hoL,I.free⟩ hs,by simpa using I.len⟩ ⟨_,hs,.inl rfl⟩
  ·exact (hs.2 b (bI (aU (aL e) I.ok.above))).trans (I.base.keep b o e n hb hx)
  ·obtain ⟨sl,e1⟩:=I.base.slot b o e n hb hx
   exact ⟨sl,(hs.2 b (bI (aU (aL e) I.ok.above))).trans e1⟩
  ·obtain ⟨o',e1⟩:=I.base.there b o e hx
   exact ⟨o',(hs.2 b (bI (aU (aL e) I.ok.above))).trans e1⟩
  ·by_cases hj:j=i
   ·subst hj
    rw [hi] at e1;cases e1;rw [dN hiσ] at e2;cases e2;exact ⟨u,r,.inl ⟨hk,by simp⟩⟩
   ·rw [dH (dB hj)] at e2
    obtain ⟨u',r',q⟩:=hl j y v' e1 e2 e3;refine ⟨u',r',?_⟩
    rcases q with ⟨k,e⟩ | ⟨k,c,e,z⟩
    ·refine .inl ⟨k,?_⟩
     have:y≠x:=fun e=>hj (nodup_ix hN e1 (e ▸ hi))
     simp [this,e]
    ·exact .inr ⟨k,c,e,z.sameBut hs (cne y c e)⟩
  ·obtain ⟨w',z⟩:=I.cell y c e
   exact ⟨w',z.sameBut hs (cne y c e)⟩
  ·obtain ⟨e,n,ne,nf,d⟩:=I.pin p hp
   exact ⟨(hs.2 p.1 ne).trans e,n,ne,nf,d⟩
 ·have hfn:X.fn x=true:=by
   rcases hf with z | z
   ·exact z
   ·rw [z] at hk;cases hk
  obtain ⟨c,hc⟩:=I.ok.has x (.inl hk);obtain ⟨w',z⟩:=I.cell x c hc;refine wpAny_storeName_cell I.ok.kind hk hc z (fun h' hc' hs=>?_);obtain ⟨oc,hoc,hocd⟩:=id z;refine h { s with heap:=h' } ⟨I.ok,I.os,I.bare,⟨fun b o e n hb hx=>?_,fun b o e n hb hx=>?_,I.base.free,fun b o e hx=>?_,I.base.tups,I.base.frzs,I.base.tbls⟩,⟨m,hn.sameBut hs (dB (cne x c hc)),fun j y v' e1 e2 e3=>?_⟩,fun y c' e=>?_,I.free,I.freeC,fun p hp=>?_,tracked ⟨oc,hoc,I.freeC x c hc⟩ hs,by simpa using I.len⟩ ⟨c,hs,.inr hc⟩
  ·exact (hs.2 b (bI (aU (aL e) (I.ok.cab x c hfn hc)))).trans (I.base.keep b o e n hb hx)
  ·obtain ⟨sl,e1⟩:=I.base.slot b o e n hb hx
   exact ⟨sl,(hs.2 b (bI (aU (aL e) (I.ok.cab x c hfn hc)))).trans e1⟩
  ·obtain ⟨o',e1⟩:=I.base.there b o e hx
   exact ⟨o',(hs.2 b (bI (aU (aL e) (I.ok.cab x c hfn hc)))).trans e1⟩
  ·by_cases hj:j=i
   ·subst hj
    rw [hi] at e1;cases e1;rw [dN hiσ] at e2;cases e2;exact ⟨u,r,.inr ⟨.inl hk,c,hc,hc'⟩⟩
   ·rw [dH (dB hj)] at e2
    obtain ⟨u',r',q⟩:=hl j y v' e1 e2 e3;refine ⟨u',r',?_⟩
    rcases q with q | ⟨k,c',e,z'⟩
    ·exact .inl q
    ·refine .inr ⟨k,c',e,z'.sameBut hs ?_⟩
     rintro rfl;exact hj (nodup_ix hN e1 (I.ok.inj _ _ _ e hc ▸ hi))
  ·by_cases hcc:c'=c
   ·subst hcc;exact ⟨_,hc'⟩
   ·obtain ⟨w2,z2⟩:=I.cell y c' e
    exact ⟨w2,z2.sameBut hs hcc⟩
  ·obtain ⟨e,n,ne,nf,d⟩:=I.pin p hp
   refine ⟨(hs.2 p.1 ?_).trans e,n,ne,nf,d⟩;intro q;rw [q,hoc] at e;have q':oc=p.2:=bG e;exact d w' (by rw [←q'];exact hocd)
theorem store_ok {v:V}{Q:Unit→ax→Prop}(I:Inv X aR σ H s)(hN:X.N.Nodup)(hi:X.N[i]? =some x)(hx:Loc X.env.scope x)(r:gI v u)
  (h:∀ s',Inv X aR (σ.set i (some v)) H s'→Q () s') (hf:X.fn x=true∨X.env.scope.names.lookup x=some .local:=by first | exact .inl rfl | exact .inr rfl | assumption):bf M A (storeName X.env x u) Q E s :=
 store_ok2 I hN hi hx r (fun s' I' _=>h s' I') hf
theorem Inv.call' (I:Inv X aR σ H s)(ho:s'.os=s.os)(u:Un (frs X.stack) ch H H' s.heap s'.heap)(hok:HOk X.prog X.w H' s'.heap)(hg:AllBare s'.gens)
  (hch:∀ b∈ch,(b∈X.ex∨X.s₀.heap.objs.size≤b)∧b≠X.env.locals∧(∀ x c,X.env.cells.lookup x=some c→c≠b)∧∀ p∈X.pn++aR,p.1≠b):Inv X aR σ H' s':=by
 obtain ⟨h',g',d',t',o'⟩:=s';have e:o'=s.os:=ho;subst e;exact I.call (g':=g') (t':=t') (d':=d') u hok hg hch
end
abbrev XK:=ae→Option aq→Hp→Prop
abbrev St:=List (Option V)
abbrev VK:=V→Hp→Prop
abbrev TE:=St→Hp→VK→Prop
abbrev TT:=St→Hp→(Bool→Hp→Prop)→Prop
abbrev TA:=St→Hp→(List V→Hp→Prop)→Prop
end L2
variable {H H' H1 H2 Hc:L2.Hp}{Hf:L2.Hp→Prop}{X:L2.Cx}{kvs:List (List L2.Key×L2.V)}{o:L2.HO}{t:L2.TA}{ta te tl:L2.TE}{trs:List (L2.TE×L2.TE)}{tt:L2.TT}{v:L2.V}{xs ys zs:List L2.V}{σ:L2.St}
namespace L2
open PySem PySem.Spec PyProof.Rows
structure kG where
 nx:St→Hp→Prop
 rt:VK
 bk:St→Hp→Prop:=fun _ _=>False
 ct:St→Hp→Prop:=fun _ _=>False
abbrev TS:=kG→St→Hp→Prop
def EP (X:Cx)(aR:List (aq×Obj))(σ:St)(Q:VK)(u:ae)(s':ax):Prop:=∃ v H',Inv X aR σ H' s'∧gI v u∧Q v H'
def TP (X:Cx)(aR:List (aq×Obj))(σ:St)(Q:Bool→Hp→Prop)(b:Bool)(s':ax):Prop:=∃ H',Inv X aR σ H' s'∧Q b H'
def AP (X:Cx)(aR:List (aq×Obj))(σ:St)(Q:List V→Hp→Prop)(us:List ae)(s':ax):Prop:=∃ vs H',Inv X aR σ H' s'∧gi vs us∧Q vs H'
def SP (X:Cx)(aR:List (aq×Obj))(D:kG)(f:Flow)(s':ax):Prop :=
 match f with
 | .next=>∃ σ' H',Inv X aR σ' H' s'∧D.nx σ' H'
 | .brk=>∃ σ' H',Inv X aR σ' H' s'∧D.bk σ' H'
 | .cont=>∃ σ' H',Inv X aR σ' H' s'∧D.ct σ' H'
 | .ret u=>∃ v σ' H',Inv X aR σ' H' s'∧gI v u∧D.rt v H'
def PE (X:Cx)(e:Expr)(t:TE):Prop :=
 ∀ (aR:List (aq×Obj)) (s:ax) (σ:St) (H:Hp) (Q:VK),Inv X aR σ H s→t σ H Q→bf (bw X.prog X.w) X.A (eK e X.env) (EP X aR σ Q) X.xe s
def PT (X:Cx)(e:Expr)(t:TT):Prop :=
 ∀ (aR:List (aq×Obj)) (s:ax) (σ:St) (H:Hp) (Q:Bool→Hp→Prop),Inv X aR σ H s→t σ H Q→bf (bw X.prog X.w) X.A (isTrue e X.env (eK e X.env)) (TP X aR σ Q) X.xe s
def PW (X:Cx)(e:Expr)(t:TT):Prop :=
 ∀ (whole:Sem ae) (aR:List (aq×Obj)) (s:ax) (σ:St) (H:Hp) (Q:Bool→Hp→Prop),Inv X aR σ H s→t σ H Q→bf (bw X.prog X.w) X.A (isTrue e X.env whole) (TP X aR σ Q) X.xe s
theorem PW.pt {t:TT}(h:PW X e t):PT X e t:=h _
def PA (X:Cx)(es:List Expr)(t:TA):Prop :=
 ∀ (pos:Pos) (aR:List (aq×Obj)) (s:ax) (σ:St) (H:Hp) (Q:List V→Hp→Prop),Inv X aR σ H s→t σ H Q→bf (bw X.prog X.w) X.A (spliced (fP pos (bB es X.env))) (AP X aR σ Q) X.xe s
def PS (X:Cx)(st:cJ)(t:TS):Prop :=
 ∀ (aR:List (aq×Obj)) (s:ax) (σ:St) (H:Hp) (D:kG),Inv X aR σ H s→t D σ H→bf (bw X.prog X.w) X.A (exec st X.env) (SP X aR D) X.xe s
def PSs (X:Cx)(st:List cJ)(t:TS):Prop :=
 ∀ (aR:List (aq×Obj)) (s:ax) (σ:St) (H:Hp) (D:kG),Inv X aR σ H s→t D σ H→bf (bw X.prog X.w) X.A (execs st X.env) (SP X aR D) X.xe s
theorem thn {t:Sem α}{Q Q':α→ax→Prop}(h:bf M A t Q E s)(hQ:∀ a s,Q a s→Q' a s):bf M A t Q' E s:=cA h hQ fun _ _ x=>x
section
inductive HasV (o:Option (Option V))(k:V→Prop):Prop
 | mk (v:V)(h:o=some (some v))(q:k v):HasV o k
inductive IsBl (x:V)(k:Bool→Prop):Prop
 | mk (c:Bool)(h:x= .bl c)(q:k c):IsBl x k
def tVar (i:Nat):TE:=fun σ H Q=>HasV σ[i]? fun v=>Q v H
def tC (v:V):TE:=fun _ H Q=>Q v H
theorem pe_var (hN:X.N[i]? =some x)(hv:Vis X.env.scope x)(hd:(x == ("__debug__" :Str))=false:=by decide)(hcd:(x == ("__classdict__" :Str))=false:=by decide):PE X (.Name x pos) (tVar i):=by
 intro aR s σ H Q I h;obtain ⟨v,e,h⟩:=h;obtain ⟨m,hn,hl⟩:=I.loc;obtain ⟨u,r,l⟩:=hl i x v hN e hv;have fin:EP X aR σ Q u s:=⟨v,H,I,r,h⟩
 rcases l with ⟨hk,hm⟩ | ⟨hk,c,hc,iH⟩
 ·exact wpAny_Name (wpAny_loadName_local I.ok.kind hk hn hm fin) hd
 ·rcases hk with hk | hk
  ·exact wpAny_Name (wpAny_loadName_cell I.ok.kind hk hc iH fin) hd
  ·exact wpAny_Name (wpAny_loadName_free I.ok.kind hk hc iH fin hcd) hd
theorem bD {i j pos}:PE X (.Constant (.int i) j pos) (tC (.int i)):=fun _ _ _ H _ I h=>wpAny_Constant_int ⟨.int i,H,I.tok _,⟨_,rfl⟩,h⟩
theorem l5 {b j pos}:PE X (.Constant (.bool b) j pos) (tC (.bl b)):=fun _ _ _ H _ I h=>Constant_bool ⟨.bl b,H,I,rfl,h⟩
theorem oh {j pos}:PE X (.Constant .none j pos) (tC .non):=fun _ _ _ H _ I h=>Constant_none ⟨.non,H,I,rfl,h⟩
theorem jY {x j pos}:PE X (.Constant (.str x) j pos) (tC (.str x)):=fun _ _ _ H _ I h=>Calls.Constant_str ⟨.str x,H,I.tok _,⟨_,rfl⟩,h⟩
def Gl (X:Cx)(x:Str):Prop:=X.env.kindOf x=some .globalImplicit
theorem ld_glob (I:Inv X aR σ H s)(hg:Gl X x)(hm:X.mg x=some u)(h:Q u s)
  (hd:(x == ("__debug__" :Str))=false:=by decide):bf (bw X.prog X.w) X.A (eK (.Name x pos) X.env) Q E s :=
 Calls.Name_function_global I.ok.kind hg (Calls.loadGlobal_global (by rw [I.ok.glob];exact I.mod.glob.keeps I.bk) hm h) hd
theorem nk (I:Inv X aR σ H s)(hg:Gl X x)(hm:X.mg x=none)(hv:bootBuiltins x=some u)(h:Q u s)
  (hn:x ≠ "__name__" := by decide) (hd:(x == ("__debug__" :Str))=false:=by decide):bf (bw X.prog X.w) X.A (eK (.Name x pos) X.env) Q E s:=by
 obtain ⟨mb,h1,h2⟩:=I.mod.blt;exact Calls.Name_function_global I.ok.kind hg (Calls.loadGlobal_builtin (by rw [I.ok.glob];exact I.mod.glob.keeps I.bk) hm (by rw [I.ok.blt];exact h1.keeps I.bk) ((h2 x hn).trans hv) h) hd
theorem pe_glob (hg:Gl X x)(hm:X.mg x=some u)(r:gI v u)(hd:(x == ("__debug__" :Str))=false:=by decide):PE X (.Name x pos) (tC v) :=
 fun _ _ _ H _ I h=>ld_glob I hg hm ⟨v,H,I,r,h⟩ hd
theorem pe_bltn (hg:Gl X x)(hm:X.mg x=none)(hv:bootBuiltins x=some u)(r:gI v u)(hn:x ≠ "__name__" := by decide)(hd:(x == ("__debug__" :Str))=false:=by decide):PE X (.Name x pos) (tC v) :=
 fun _ _ _ H _ I h=>nk I hg hm hv ⟨v,H,I,r,h⟩ hn hd
variable {a b:Expr}{tb:TE}
def PC (X:Cx)(op:CmpOp)(a b:Expr)(t:TE):Prop :=
 ∀ (aR:List (aq×Obj)) (s:ax) (σ:St) (H:Hp) (Q:VK),Inv X aR σ H s→t σ H Q →
  bf (bw X.prog X.w) X.A (eK a X.env) (fun v s₁=>bf (bw X.prog X.w) X.A (eK b X.env) (fun u s₂=>bf (bw X.prog X.w) X.A (eP op v u) (EP X aR σ Q) X.xe s₂) X.xe s₁) X.xe s
def tB (t:TE):TT:=fun σ H Q=>t σ H fun x H1=>IsBl x fun c=>Q c H1
theorem pt_cmp {t:TE}(h:PC X op a b t)(h1:behindInMarks op b=false:=by first | exact nobehind _ (by decide) (by decide) | rfl):PT X (.Compare a [op] [b] pos) (tB t):=by
 intro aR s σ H Q I hw;refine wpAny_isTrue_Compare1 (thn (h aR s σ H _ I hw) fun v s1 h1=>thn h1 fun u s2 h2=>thn h2 fun c s3 ⟨x,H1,I1,r1,q1⟩=>?_) h1;obtain ⟨d,rfl,q⟩:=q1;cases r1;exact gq ⟨H1,I1,q⟩
theorem ia {t:TE}(h:PE X e t)(he:∀ whole,isTrue e X.env whole=(do let v ← whole;standAt e.pos;holding [v] (truthy v)):=by intro _;rfl):PT X e (tB t):=by
 intro aR s σ H Q I hw;refine isTrue_plain (thn (h aR s σ H _ I hw) fun v s1 ⟨x,H1,I1,r1,q1⟩=>?_) (he _);obtain ⟨d,rfl,q⟩:=q1;cases r1;exact gq ⟨H1,I1,q⟩
variable {tA tB':TT} {rest:List Expr}
def tAnd (t u:TT):TT:=fun σ H Q=>t σ H fun c H1=>if c=true then u σ H1 Q else Q false H1
def tOr (t u:TT):TT:=fun σ H Q=>t σ H fun c H1=>if c=true then Q true H1 else u σ H1 Q
def tNot (t:TT):TT:=fun σ H Q=>t σ H fun c H1=>Q (!c) H1
theorem pw_and1 (ha:PT X a tA):PW X (.BoolOp .And [a] pos) tA:=by
 intro wh aR s σ H Q I h;refine isTrue_and (thn (ha aR s σ H Q I h) fun c s1 e=>?_);cases c with
 | true=>exact isTrue_and_nil e
 | false=>exact e
theorem l9 (ha:PT X a tA):PW X (.BoolOp .Or [a] pos) tA:=by
 intro wh aR s σ H Q I h;refine isTrue_or (thn (ha aR s σ H Q I h) fun c s1 e=>?_);cases c with
 | false=>exact isTrue_or_nil e
 | true=>exact e
theorem pw_and (ha:PT X a tA)(hb:PW X (.BoolOp .And (b::rest) pos) tB'):PW X (.BoolOp .And (a::b::rest) pos) (tAnd tA tB'):=by
 intro wh aR s σ H Q I h;refine isTrue_and (thn (ha aR s σ H _ I h) fun c s1 ⟨H1,I1,q1⟩=>?_);cases c with
 | true=>exact hb wh aR s1 σ H1 Q I1 q1
 | false=>exact ⟨H1,I1,q1⟩
theorem oX (ha:PT X a tA)(hb:PW X (.BoolOp .Or (b::rest) pos) tB'):PW X (.BoolOp .Or (a::b::rest) pos) (tOr tA tB'):=by
 intro wh aR s σ H Q I h;refine isTrue_or (thn (ha aR s σ H _ I h) fun c s1 ⟨H1,I1,q1⟩=>?_);cases c with
 | true=>exact ⟨H1,I1,q1⟩
 | false=>exact hb wh aR s1 σ H1 Q I1 q1
theorem jE (ha:PT X a tA):PT X (.UnaryOp .Not a pos) (tNot tA):=by
 intro aR s σ H Q I h;exact isTrue_not (ha aR s σ H (fun c H1=>Q (!c) H1) I h)
def tAndV (ta tb:TE):TE:=fun σ H Q=>ta σ H fun x H1=>IsBl x fun c=>if c=true then tb σ H1 Q else Q (.bl false) H1
def tNotV (ta:TE):TE:=fun σ H Q=>ta σ H fun x H1=>IsBl x fun c=>Q (.bl (!c)) H1
theorem qk {op}{t:TE}(h:PE X a t):PE X (.BoolOp op [a] pos) t:=fun aR s σ H Q I hw=>BoolOp_one (h aR s σ H Q I hw)
theorem md (ha:PE X a ta)(hb:PE X (.BoolOp .And (b::rest) pos) tb):PE X (.BoolOp .And (a::b::rest) pos) (tAndV ta tb):=by
 intro aR s σ H Q I h;refine BoolOp_and (thn (ha aR s σ H _ I h) fun v s1 ⟨x,H1,I1,r1,q1⟩=>?_);obtain ⟨c,rfl,q1⟩:=q1;cases r1;refine gq ?_;cases c with
 | true=>exact hb aR s1 σ H1 Q I1 q1
 | false=>exact ⟨.bl false,H1,I1,rfl,q1⟩
theorem pe_not (ha:PE X a ta):PE X (.UnaryOp .Not a pos) (tNotV ta):=by
 intro aR s σ H Q I h;refine UnaryOp_ (thn (ha aR s σ H _ I h) fun v s1 ⟨x,H1,I1,r1,q1⟩=>?_);obtain ⟨c,rfl,q1⟩:=q1;cases r1;exact not_of (gq ⟨.bl (!c),H1,I1,rfl,q1⟩)
def tIf (t:TT)(ta tb:TE):TE:=fun σ H Q=>t σ H fun c H1=>if c=true then ta σ H1 Q else tb σ H1 Q
theorem oA {c:Expr}(hc:PT X c tA)(ha:PE X a ta)(hb:PE X b tb):PE X (.IfExp c a b pos) (tIf tA ta tb):=by
 intro aR s σ H Q I h;refine wpAny_IfExp (thn (hc aR s σ H _ I h) fun d s1 ⟨H1,I1,q1⟩=>?_);cases d with
 | true=>exact ha aR s1 σ H1 Q I1 q1
 | false=>exact hb aR s1 σ H1 Q I1 q1
end
def SqL (K:au)(H:Hp)(a:aq)(xs:List V):Prop :=
 Rd H a (.lst xs) ∨
  ∃ (o:Obj) (its:Array ae) (n:Nat),K.lookup a=some o∧o.cls= .type "list" ∧o.dict=none∧o.data= .seq its n∧its.size≤aZ∧gi xs its.toList
def SqT (K:au)(H:Hp)(a:aq)(xs:List V):Prop :=
 Rd H a (.tup xs) ∨
  ∃ (o:Obj) (its:Array ae) (n:Nat),K.lookup a=some o∧o.cls= .type "tuple" ∧o.data= .seq its n∧its.size≤aZ∧gi xs its.toList
def absV:ae→Option V
 | .none=>some .non
 | .bool b=>some (.bl b)
 | .int i _=>some (.int i)
 | .str x _=>some (.str x)
 | .bytes b _=>some (.byt b)
 | .float b _=>some (.flt b)
 | .ref a=>some (.ref a)
 | .type n=>some (.ty n)
 | _=>none
theorem gI.abs {x:V}(r:gI x u):absV u=some x:=by
 cases x with
 | non=>cases r;rfl
 | bl _=>cases r;rfl
 | int _=>obtain ⟨t,rfl⟩:=r;rfl
 | str _=>obtain ⟨t,rfl⟩:=r;rfl
 | byt _=>obtain ⟨t,rfl⟩:=r;rfl
 | flt _=>obtain ⟨t,rfl⟩:=r;rfl
 | ref _=>cases r;rfl
 | ty _=>cases r;rfl
theorem gI.inj {x y:V}(r:gI x u)(q:gI y u):x=y:=bG (r.abs.symm.trans q.abs)
theorem gi.inj:∀ {xs ys:List V} {us:List ae},gi xs us→gi ys us→xs=ys
 | _,_,_,.nil,.nil=>rfl
 | _,_,_,.cons r t,.cons r' t'=>by rw [r.inj r',gi.inj t t']
theorem SqL.of (h:H a=some (.lst xs)):SqL K H a xs:= .inl (.inl h)
theorem SqT.of (h:H a=some (.tup xs)):SqT K H a xs:= .inl (.inl h)
theorem Inv.list (I:Inv X aR σ H s)(h:SqL X.K H a xs):∃ its:List ae,gi xs its∧PlainL s.heap a its.toArray∧xs.length≤aZ:=by
 rcases h with h | ⟨o,its,n,hk,hc,hd,hs,hz,r⟩
 ·obtain ⟨z,its,n,r,e⟩:=h.ok I.hok
  exact ⟨its,r,⟨_,n,e,rfl,rfl,rfl⟩,z⟩
 ·refine ⟨its.toList,r,⟨o,n,I.kIn a o hk,hc,hd,by simpa using hs⟩,?_⟩
  have e:=r.length;simp only [cj] at e;lia
theorem Inv.tuple (I:Inv X aR σ H s)(h:SqT X.K H a xs):∃ its:List ae,gi xs its∧IsTup s.heap a its.toArray∧xs.length≤aZ:=by
 rcases h with h | ⟨o,its,n,hk,hc,hs,hz,r⟩
 ·obtain ⟨z,its,r,p⟩:=h.ok I.hok
  exact ⟨its,r,p.tup,z⟩
 ·refine ⟨its.toList,r,⟨o,I.kIn a o hk,hc,n,by simpa using hs⟩,?_⟩
  have e:=r.length;simp only [cj] at e;lia
theorem Inv.list_inj (I:Inv X aR σ H s)(h:SqL X.K H a xs)(h':SqL X.K H a ys):xs=ys:=by
 obtain ⟨its,r,⟨o,n,e,_,_,d⟩,_⟩:=I.list h;obtain ⟨its',r',⟨o',n',e',_,_,d'⟩,_⟩:=I.list h';rw [e] at e';cases e';rw [d] at d';injection d' with d1 _
 have:its=its':=by simpa using qQ Array.toList d1
 subst this;exact r.inj r'
theorem Inv.tuple_inj (I:Inv X aR σ H s)(h:SqT X.K H a xs)(h':SqT X.K H a ys):xs=ys:=by
 obtain ⟨its,r,⟨o,e,_,n,d⟩,_⟩:=I.tuple h;obtain ⟨its',r',⟨o',e',_,n',d'⟩,_⟩:=I.tuple h';rw [e] at e';cases e';rw [d] at d';injection d' with d1 _
 have:its=its':=by simpa using qQ Array.toList d1
 subst this;exact r.inj r'
abbrev Cx.wish (X:Cx)(E:ae→ax→Prop):Cx:={ X with xe:=E }
abbrev Cx.nox (X:Cx):Cx:=X.wish fun _ _=>False
theorem Cx.Ok.wish (ok:X.Ok)(E:ae→ax→Prop):(X.wish E).Ok :=
 ⟨ok.mod,ok.kind,ok.glob,ok.blt,ok.above,ok.inj,ok.has,ok.cab,ok.hd,ok.frames,ok.stk,ok.exf,ok.bs,ok.bsz,ok.noex,ok.exfs,ok.funs,ok.frf⟩
theorem Cx.Ok.unwish (ok:(X.wish E).Ok):X.Ok :=
 ⟨ok.mod,ok.kind,ok.glob,ok.blt,ok.above,ok.inj,ok.has,ok.cab,ok.hd,ok.frames,ok.stk,ok.exf,ok.bs,ok.bsz,ok.noex,ok.exfs,ok.funs,ok.frf⟩
theorem Inv.wish (I:Inv X aR σ H s)(E:ae→ax→Prop):Inv (X.wish E) aR σ H s:=⟨I.ok.wish E,I.os,I.bare,I.base,I.loc,I.cell,I.free,I.freeC,I.pin,I.hok,I.len⟩
theorem Inv.unwish (I:Inv (X.wish E) aR σ H s):Inv X aR σ H s:=⟨I.ok.unwish,I.os,I.bare,I.base,I.loc,I.cell,I.free,I.freeC,I.pin,I.hok,I.len⟩
theorem SP.unwish {D:kG}{f:Flow}(h:SP (X.wish E) aR D f s'):SP X aR D f s':=by
 cases f with
 | next=>obtain ⟨σ',H',I,q⟩:=h;exact ⟨σ',H',I.unwish,q⟩
 | brk=>obtain ⟨σ',H',I,q⟩:=h;exact ⟨σ',H',I.unwish,q⟩
 | cont=>obtain ⟨σ',H',I,q⟩:=h;exact ⟨σ',H',I.unwish,q⟩
 | ret u=>obtain ⟨v,σ',H',I,r,q⟩:=h;exact ⟨v,σ',H',I.unwish,r,q⟩
theorem PSs.nox {st:List cJ}{t:TS}(h:PSs X.nox st t):PSs X st t:=fun aR s σ H D I hw =>
 cA (h aR s σ H D (I.wish _) hw) (fun _ _ q=>q.unwish) fun _ _ z=>cR z
section
variable {rest:List cJ}{t u:TS}
def tNext:TS:=fun D σ H=>D.nx σ H
def tSeq (t u:TS):TS:=fun D σ H=>t { D with nx:=u D } σ H
theorem cZ:PSs X [] tNext:=fun _ _ σ H _ I h=>wpAny_execs_nil ⟨σ,H,I,h⟩
theorem pss_cons (h1:PS X st t)(h2:PSs X rest u):PSs X (st::rest) (tSeq t u):=by
 intro aR s σ H D I h;refine wpAny_execs_cons (thn (h1 aR s σ H { D with nx:=u D } I h) fun f s1 q=>?_);cases f with
 | next =>
  obtain ⟨σ',H',I',q⟩:=q;exact h2 aR s1 σ' H' D I' q
 | ret v=>exact q
 | brk=>exact q
 | cont=>exact q
theorem cy (h1:PS X st t):PSs X [st] t:=by
 intro aR s σ H D I h;refine wpAny_execs_cons (thn (h1 aR s σ H D I h) fun f s1 q=>?_);cases f with
 | next=>exact wpAny_execs_nil q
 | ret v=>exact q
 | brk=>exact q
 | cont=>exact q
theorem Inv.quiet (I:Inv X aR σ H s):interactive X.env=false:=by simp [interactive,I.ok.kind]
def tDrop (te:TE):TS:=fun D σ H=>te σ H fun _ H1=>D.nx σ H1
theorem gL (he:PE X e te)(hs:swapsWith e none pos.line X.env=fU false:=by rfl):PS X (.Expr e pos) (tDrop te):=by
 intro aR s σ H D I h;exact wpAny_Expr_any (thn (he aR s σ H _ I h) fun v s1 ⟨x,H1,I1,r1,q1⟩=>⟨σ,H1,I1,q1⟩) I.quiet hs
def tRet (te:TE):TS:=fun D σ H=>te σ H D.rt
theorem cf (he:PE X e te):PS X (.Return (some e) pos) (tRet te):=by
 intro aR s σ H D I h;exact wpAny_Return_some (thn (he aR s σ H _ I h) fun v s1 ⟨x,H1,I1,r1,q1⟩=>⟨x,σ,H1,I1,r1,q1⟩)
def tIfS (c:TT)(t u:TS):TS:=fun D σ H=>c σ H fun b H1=>if b=true then t D σ H1 else u D σ H1
theorem fV {c:Expr}{a b:List cJ}{tc:TT}(hc:PT X c tc)(ha:PSs X a t)(hb:PSs X b u):PS X (.If c a b pos) (tIfS tc t u):=by
 intro aR s σ H D I h;refine wpAny_If (thn (hc aR s σ H _ I h) fun d s1 ⟨H1,I1,q1⟩=>?_);cases d with
 | true=>exact ha aR s1 σ H1 D I1 q1
 | false=>exact hb aR s1 σ H1 D I1 q1
end
abbrev TG:=V→St→Hp→(St→Hp→Prop)→Prop
abbrev TGs:=List V→St→Hp→(St→Hp→Prop)→Prop
def PG (X:Cx)(target:Expr)(t:TG):Prop :=
 ∀ (aR:List (aq×Obj)) (s:ax) (σ:St) (H:Hp) (v:V) (u:ae) (Q:St→Hp→Prop),Inv X aR σ H s→gI v u→t v σ H Q →
  bf (bw X.prog X.w) X.A (assign target X.env u) (fun _ s'=>∃ σ' H',Inv X aR σ' H' s'∧Q σ' H') X.xe s
def PGs (X:Cx)(ts:List Expr)(t:TGs):Prop :=
 ∀ (aR:List (aq×Obj)) (s:ax) (σ:St) (H:Hp) (vs:List V) (us:List ae) (Q:St→Hp→Prop),Inv X aR σ H s→gi vs us→t vs σ H Q →
  bf (bw X.prog X.w) X.A (assignInOrder ((assignEach ts X.env).map (·.2)) us) (fun _ s'=>∃ σ' H',Inv X aR σ' H' s'∧Q σ' H') X.xe s
abbrev TSet:=V→V→V→Hp→(Hp→Prop)→Prop
def PSet (X:Cx)(t:TSet):Prop :=
 ∀ (aR:List (aq×Obj)) (s:ax) (σ:St) (H:Hp) (o i v:V) (ov iv u:ae) (Q:Hp→Prop),Inv X aR σ H s→gI o ov→gI i iv→gI v u→t o i v H Q →
  bf (bw X.prog X.w) X.A (setItem ov iv u) (fun _ s'=>∃ H',Inv X aR σ H' s'∧Q H') X.xe s
abbrev TIp:=V→V→Hp→VK→Prop
def PIp (X:Cx)(op:Operator)(t:TIp):Prop :=
 ∀ (aR:List (aq×Obj)) (s:ax) (σ:St) (H:Hp) (x y:V) (v u:ae) (Q:VK),Inv X aR σ H s→gI x v→gI y u→t x y H Q →
  bf (bw X.prog X.w) X.A (inplaceOp op v u) (EP X aR σ Q) X.xe s
def nV (i:Nat):TG:=fun v σ H Q=>Q (σ.set i (some v)) H
theorem nU (hN:X.N.Nodup)(hi:X.N[i]? =some x)(hx:Loc X.env.scope x)(hf:X.fn x=true∨X.env.scope.names.lookup x=some .local:=by first | exact .inl rfl | exact .inr rfl | assumption):PG X (.Name x pos) (nV i):=by
 intro aR s σ H v u Q I r h;exact wpAny_assign_Name (store_ok I hN hi hx r (fun s' I'=>⟨_,H,I',h⟩) hf)
def gNil:TGs:=fun vs σ H Q=>vs=[]∧Q σ H
def gCons (t:TG)(u:TGs):TGs:=fun vs σ H Q=>∃ v r,vs=v::r∧t v σ H fun σ' H'=>u r σ' H' Q
theorem o8:PGs X [] gNil:=by
 intro aR s σ H vs us Q I r h;obtain ⟨e,h⟩:=h;subst e;cases r;exact assignInOrder_nil ⟨σ,H,I,h⟩
theorem iZ {t:TG}{u:TGs}(h1:PG X e t)(h2:PGs X es u)
  (hs:(assignEach (e::es) X.env).map (·.2)=assign e X.env::(assignEach es X.env).map (·.2):=by rfl):PGs X (e::es) (gCons t u):=by
 intro aR s σ H vs us Q I r h;obtain ⟨v,vr,e1,h⟩:=h;subst e1;cases r with
 | cons r rr =>
  rw [hs];refine assignInOrder_cons (thn (h1 aR s σ H _ _ _ I r h) fun _ s1 ⟨σ1,H1,I1,q1⟩=>?_);exact h2 aR s1 σ1 H1 _ _ Q I1 rr q1
def gTup (K:au)(n:Nat)(t:TGs):TG:=fun v σ H Q=>∃ a xs,v= .ref a∧SqT K H a xs∧xs.length=n∧t xs σ H Q
theorem pg_tup {k:Nat}{t:TGs}(hc:X.calm=true)(h:PGs X es t)
  (hn:(assignEach es X.env).length=n:=by rfl) (hst:(assignEach es X.env).findIdx? (·.1)=none:=by rfl):PG X (.Tuple es k pos) (gTup X.K n t):=by
 intro aR s σ H v u Q I r hw;obtain ⟨a,xs,e1,hq,hl,hw⟩:=hw;subst e1;cases r;obtain ⟨its,rv,ht,hz⟩:=I.tuple hq;refine assign_Tuple_tuple (I.ok.hd hc) ht (by simp [hn,←hl,rv.length]) hst fun h' hx=>?_
 have I1:Inv X aR σ H { s with heap:=h' }:=I.kept (t':=s.toks) fun b o e=>hx b o (bI (aL e)) e
 exact h aR _ σ H xs _ Q I1 (by simpa using rv) hw
def gSub (to ti:TE)(t:TSet):TG:=fun v σ H Q=>to σ H fun o H1=>ti σ H1 fun i H2=>t o i v H2 fun H3=>Q σ H3
theorem qj {o i:Expr}{to ti:TE}{t:TSet}(ho:PE X o to)(hi:PE X i ti)(hs:PSet X t)
  (ha:∀ v,assign (.Subscript o i pos) X.env v=(do
   let ov ← holding [v] (eK o X.env)
   let iv ← holding [v,ov] (eK i X.env)
   standAt pos
   holding [v,ov,iv] (setItem ov iv v)
   release [v,ov,iv] []):=by intro _;rfl):PG X (.Subscript o i pos) (gSub to ti t):=by
 intro aR s σ H v u Q I r h;rw [ha];refine ak (gG (thn (ho aR s σ H _ I h) fun ov s1 ⟨x,H1,I1,r1,q1⟩=>?_));refine ak (gG (thn (hi aR s1 σ H1 _ I1 q1) fun iv s2 ⟨y,H2,I2,r2,q2⟩=>?_));refine ak (wpAny_standAt (ak (gG (thn (hs aR s2 σ H2 x y v ov iv u _ I2 r1 r2 r q2) fun _ s3 ⟨H3,I3,q3⟩=>?_))));exact wpAny_release ⟨σ,H3,I3,q3⟩
def tAsg (te:TE)(g:TG):TS:=fun D σ H=>te σ H fun x H1=>g x σ H1 D.nx
theorem og {g:TG}(he:PE X e te)(hg:PG X tg g)(hs:swapsWithSole [tg] e pos.line X.env=fU false:=by rfl)(hw:swappedStores [tg] e X.env=fU none:=by rfl)
  (h1:(assignEach [tg] X.env).map (·.2)=[assign tg X.env]:=by rfl):PS X (.Assign [tg] e pos) (tAsg te g):=by
 intro aR s σ H D I h;refine wpAny_Assign_stores (thn (he aR s σ H _ I h) fun v s1 ⟨x,H1,I1,r1,q1⟩=>?_) hs hw;rw [h1];exact thn (hg aR s1 σ H1 x v _ I1 r1 q1) fun _ s2 q=>q
theorem ps_set (hN:X.N.Nodup)(hi:X.N[i]? =some x)(hx:Loc X.env.scope x)(he:PE X e te)(hs:swapsWith e (some (.Name x pos')) pos.line X.env=fU false:=by rfl)(hf:X.fn x=true∨X.env.scope.names.lookup x=some .local:=by first | exact .inl rfl | exact .inr rfl | assumption) :
  PS X (.Assign [.Name x pos'] e pos) (tAsg te (nV i)):=by
 intro aR s σ H D I h;refine wpAny_Assign_Name (thn (he aR s σ H _ I h) fun v s1 ⟨y,H1,I1,r1,q1⟩=>?_) hs;exact store_ok I1 hN hi hx r1 (fun s2 I2=>⟨_,H1,I2,q1⟩) hf
def tAug (i:Nat)(te:TE)(ti:TIp):TS:=fun D σ H=>∃ x,σ[i]? =some (some x)∧te σ H fun y H1=>ti x y H1 fun z H2=>D.nx (σ.set i (some z)) H2
theorem ps_aug {op:Operator}{ti:TIp}(hN:X.N.Nodup)(hi:X.N[i]? =some x)(hx:Loc X.env.scope x)(he:PE X e te)(ho:PIp X op ti)(hf:X.fn x=true∨X.env.scope.names.lookup x=some .local:=by first | exact .inl rfl | exact .inr rfl | assumption) :
  PS X (.AugAssign (.Name x pos') op e pos) (tAug i te ti):=by
 intro aR s σ H D I h;obtain ⟨v,e1,h⟩:=h;obtain ⟨m,hn,hl⟩:=I.loc;have vis:Vis X.env.scope x:=by rcases hx with k | k;exact .inl k;exact .inr (.inl k)
 obtain ⟨u,r,l⟩:=hl i x v hi e1 vis;refine wpAny_AugAssign_Name ?_;have go:bf (bw X.prog X.w) X.A (eK e X.env) (fun w s₂=>bf (bw X.prog X.w) X.A (inplaceOp op u w) (fun r s₃=>bf (bw X.prog X.w) X.A (storeName X.env x r) (fun _=>SP X aR D .next) X.xe s₃) X.xe s₂) X.xe s:=by
  refine thn (he aR s σ H _ I h) fun w s1 ⟨y,H1,I1,r1,q1⟩=>?_
  refine thn (ho aR s1 σ H1 v y u w _ I1 r r1 q1) fun z s2 ⟨zv,H2,I2,r2,q2⟩=>?_
  exact store_ok I2 hN hi hx r2 (fun s3 I3=>⟨_,H2,I3,q2⟩) hf
 rcases l with ⟨hk,hm⟩ | ⟨hk,c,hc,iH⟩
 ·exact wpAny_loadName_local I.ok.kind hk hn hm go
 ·rcases hk with hk | hk
  ·exact wpAny_loadName_cell I.ok.kind hk hc iH go
  ·rcases hx with k | k
   ·have:X.env.scope.names.lookup x=some .free:=hk
    rw [k] at this;cases this
   ·have:X.env.scope.names.lookup x=some .free:=hk
    rw [k] at this;cases this
def ipI (f:Int→Int→Int):TIp:=fun x y H Q=>∃ i j,x= .int i∧y= .int j∧Q (.int (f i j)) H
theorem ip_add:PIp X .Add (ipI fun i j=>i+j):=by
 intro aR s σ H x y v u Q I r1 r2 h;obtain ⟨i,j,e1,e2,q⟩:=h;subst e1;subst e2;obtain ⟨t,rfl⟩:=r1;obtain ⟨t',rfl⟩:=r2;exact iadd_int ⟨.int _,H,I.tok _,⟨_,rfl⟩,q⟩
theorem ip_sub:PIp X .Sub (ipI fun i j=>i - j):=by
 intro aR s σ H x y v u Q I r1 r2 h;obtain ⟨i,j,e1,e2,q⟩:=h;subst e1;subst e2;obtain ⟨t,rfl⟩:=r1;obtain ⟨t',rfl⟩:=r2;exact isub_int ⟨.int _,H,I.tok _,⟨_,rfl⟩,q⟩
def tWhile (c:TT)(tb:TS):TS:=fun D σ H=>∃ W:Nat→St→Hp→Prop,(∃ m,W m σ H)∧∀ m σ H,W m σ H →
 c σ H fun b H1=>if b=true then ∃ N:St→Hp→Prop,(∀ σ' H',N σ' H'→∃ m',m'<m∧W m' σ' H')∧tb { D with nx:=N,ct:=N,bk:=D.nx } σ H1 else D.nx σ H1
theorem lR {c:Expr}{body:List cJ}{tc:TT}{tb:TS}(hp:PassesOwn (bw X.prog X.w) X.A X.env X.xe)(hc:PT X c tc)(hb:PSs X body tb):PS X (.While c body [] pos) (tWhile tc tb):=by
 intro aR s σ H D I h;obtain ⟨W,⟨m0,w0⟩,turn⟩:=h;refine wpAny_While (codeAny_whileLoop (fun n s'=>∃ σ' H',Inv X aR σ' H' s'∧W n σ' H') ?_ m0 ⟨σ,H,I,w0⟩);rintro n s1 ⟨σ1,H1,I1,w1⟩;refine ip hp (thn (hc aR s1 σ1 H1 _ I1 (turn n σ1 H1 w1)) fun b s2 ⟨H2,I2,q2⟩=>?_);cases b with
 | true =>
  obtain ⟨N,hN,q2⟩:=q2;rw [qL rfl];refine ip hp (thn (hb aR s2 σ1 H2 _ I2 q2) fun f s3 q3=>?_);cases f with
  | next =>
   obtain ⟨σ3,H3,I3,n3⟩:=q3;obtain ⟨m',hm,w3⟩:=hN σ3 H3 n3;exact ⟨m',hm,σ3,H3,I3,w3⟩
  | cont =>
   obtain ⟨σ3,H3,I3,n3⟩:=q3;obtain ⟨m',hm,w3⟩:=hN σ3 H3 n3;exact ⟨m',hm,σ3,H3,I3,w3⟩
  | brk=>exact q3
  | ret v=>exact q3
 | false =>
  rw [qK bo];exact wpAny_execs_nil ⟨σ1,H2,I2,q2⟩
structure It where
 go:Nat→Hp→Prop
 yld:Nat→Hp→V→Hp→Prop
 stop:Nat→Hp→Prop
def FpOk (X:Cx)(aR:List (aq×Obj))(H:Hp)(b:aq):Prop :=
 H b=none∧b≠X.env.locals∧b ∉ X.fs∧(b∈X.ex∨X.s₀.heap.objs.size≤b)∧(∀ x c,X.env.cells.lookup x=some c→c≠b)∧∀ p∈X.pn++aR,p.1≠b
theorem Inv.fpOk {b:aq}(I:Inv X aR σ H s)(hb:s.heap.objs.size≤b)(hn:H' b=none):FpOk X aR H' b:=by
 refine ⟨hn,dv (aU I.lt hb),I.nofs hb,.inr (aM I.sz hb),fun x c e z=>?_,fun p hp z=>?_⟩
 ·obtain ⟨v,q⟩:=I.cell x c e
  exact qM (aU q.lt (by rw [z];exact hb)) (fq _)
 ·exact qM (aU (aL (I.pin p hp).1) (by rw [z];exact hb)) (fq _)
structure Turn (P:aW)(w:bx)(K:au)(tg:Expr)(J:It)(fp:List aq)(it:aq)(tn:Nat→bL→Prop):Prop where
 mem:it∈fp
 obj:∀ i h,tn i h→∀ b∈fp,∃ o,h.get? b=some o∧∀ v,o.data≠ .cell v
 keep:∀ i h h',tn i h→(∀ b∈fp,∀ o,h.get? b=some o→h'.get? b=some o)→tn i h'
 item:∀ (X:Cx),X.prog=P→X.w=w→X.K=K→X.calm=true→∀ (i:Nat) (aR:List (aq×Obj)) (s:ax) (σ:St) (H:Hp) (E:ae→ax→Prop),Inv X aR σ H s→(∀ b∈fp,FpOk X aR H b)→tn i s.heap→J.go i H →
  bf (bw P w) X.A (pyNext (.ref it)) (fun r s1=>∃ u,r=some u ∧
   bf (bw P w) X.A (letOwnedTupleGo tg (.ref it) u) (fun _ s2=>∃ x H',Inv X aR σ H' s2∧gI x u∧J.yld i H x H'∧tn (i+1) s2.heap∧∀ b∈fp,H' b=none) E s1) E s
 done:∀ (X:Cx),X.prog=P→X.w=w→X.K=K→X.calm=true→∀ (i:Nat) (aR:List (aq×Obj)) (s:ax) (σ:St) (H:Hp) (E:ae→ax→Prop),Inv X aR σ H s→(∀ b∈fp,FpOk X aR H b)→tn i s.heap→J.stop i H →
  bf (bw P w) X.A (pyNext (.ref it)) (fun r s1=>r=none∧Inv X aR σ H s1) E s
 self:∀ (A:bW) (i:Nat) (s:ax) (Q:ae→ax→Prop) (E:ae→ax→Prop),tn i s.heap→Q (.ref it) s→bf (bw P w) A (pyIter (.ref it)) Q E s
abbrev TI:=St→Hp→(It→Hp→Prop)→Prop
def PIE (X:Cx)(aR:List (aq×Obj))(σ:St)(tg:Expr)(R:It→Hp→Prop)(itv:ae)(s2:ax):Prop :=
 ∃ (it:aq) (fp:List aq) (tn:Nat→bL→Prop) (J:It) (H':Hp),itv= .ref it∧Inv X aR σ H' s2∧Turn X.prog X.w X.K tg J fp it tn∧tn 0 s2.heap∧(∀ b∈fp,FpOk X aR H' b)∧R J H'
def PI (X:Cx)(tg iter:Expr)(wi:TI):Prop :=
 ∀ (aR:List (aq×Obj)) (s:ax) (σ:St) (H:Hp) (R:It→Hp→Prop),Inv X aR σ H s→wi σ H R →
  bf (bw X.prog X.w) X.A (eK iter X.env) (fun v s1=>bf (bw X.prog X.w) X.A (pyIter v) (PIE X aR σ tg R) X.xe s1) X.xe s
theorem go_of {it:aq}{o:Obj}{n:String}{vs:Array ae}{Q:Unit→ax→Prop}(ho:s.heap.get? it=some o)(hc:o.cls= .type n)(hd:o.data= .fields vs)
  (hn:["enumerate","zip","dict_itemiterator","dict_reverseitemiterator","odict_iterator","itertools.zip_longest","itertools.pairwise"].contains n=false) (hQ:Q () s):bf M A (letOwnedTupleGo tg (.ref it) u) Q E s:=by
 unfold letOwnedTupleGo;cases tg <;> first
  | exact aV hQ
  | (cases u <;> first
    | exact aV hQ
    | (refine ak (wpAny_load ho ?_)
       rw [hc,hd];show bf M A (if (["enumerate","zip","dict_itemiterator","dict_reverseitemiterator","odict_iterator","itertools.zip_longest","itertools.pairwise"].contains n && vs[0]? == some (rawInt _))=true then _ else _) Q E s;rw [qK (by intro h;rw [hn,Bool.false_and] at h;cases h)];exact aV hQ))
def Itl (K:au)(a:aq):It :=
 ⟨fun i H=>∃ xs x,SqL K H a xs∧xs[i]? =some x,fun i H x H'=>H'=H∧∀ xs,SqL K H a xs→xs[i]? =some x,fun i H=>∃ xs,SqL K H a xs∧xs.length≤i⟩
def Itt (K:au)(a:aq):It :=
 ⟨fun i H=>∃ xs x,SqT K H a xs∧xs[i]? =some x,fun i H x H'=>H'=H∧∀ xs,SqT K H a xs→xs[i]? =some x,fun i H=>∃ xs,SqT K H a xs∧xs.length≤i⟩
def Itr (lo:Int)(n:Nat):It:=⟨fun i _=>i<n,fun i H x H'=>H'=H∧x= .int (lo+i),fun i _=>n≤i⟩
theorem turn_list (a it:aq):Turn P w K tg (Itl K a) [it] it (fun i h=>h.IsListIter it a i) where
 mem:=by simp
 obj:=fun i h st b hb=>by
  have e:b=it:=by simpa using hb
  subst e;obtain ⟨o,e,c,d⟩:=st;exact ⟨o,e,fun v z=>by rw [d] at z;cases z⟩
 keep:=fun i h h' st k=>st.at fun o e=>k it (by simp) o e
 item:=by
  intro X hP hw hK hc i aR s σ H E I hf st hg;subst hP hw hK;obtain ⟨xs,x,hq,hx⟩:=hg;obtain ⟨its,rv,p,hz⟩:=I.list hq;obtain ⟨u,hu,ru⟩:=rv.get hx;obtain ⟨f0,f1,f2,f3,f4,f5⟩:=hf it (by simp);refine wpAny_pyNext_list_item st p.isList (x:=u) (by simpa using hu) fun h' st' sb=>?_
  have I1:Inv X aR σ H { s with heap:=h' }:=I.turned (t':=s.toks) (fun b o hb e=>(sb.2 b hb).trans e) f0 f1 f3 f4 f5;obtain ⟨o,e,c,d⟩:=id st';exact ⟨u,rfl,go_of (s:={ s with heap:=h' }) e c d (by decide) ⟨x,H,I1,ru,⟨rfl,fun ys hy=>by rw [I.list_inj hy hq];exact hx⟩,st',fun b hb=>(hf b hb).1⟩⟩
 done:=by
  intro X hP hw hK hc i aR s σ H E I hf st hg;subst hP hw hK;obtain ⟨xs,hq,hx⟩:=hg;obtain ⟨its,rv,p,hz⟩:=I.list hq;obtain ⟨f0,f1,f2,f3,f4,f5⟩:=hf it (by simp);have hl:=rv.length;exact wpAny_pyNext_list_end (I.ok.hd hc) st p.isList (by simp;lia) fun h' eb=>⟨rfl,I.turned (t':=s.toks) (fun b o hb e=>eb b o hb e) f0 f1 f3 f4 f5⟩
 self:=fun _ _ _ _ _ st h=>wpAny_pyIter_listiter st h
theorem turn_tuple (a it:aq):Turn P w K tg (Itt K a) [it] it (fun i h=>h.IsTupleIter it a i) where
 mem:=by simp
 obj:=fun i h st b hb=>by
  have e:b=it:=by simpa using hb
  subst e;obtain ⟨o,e,c,d⟩:=st;exact ⟨o,e,fun v z=>by rw [d] at z;cases z⟩
 keep:=fun i h h' st k=>st.at fun o e=>k it (by simp) o e
 item:=by
  intro X hP hw hK hc i aR s σ H E I hf st hg;subst hP hw hK;obtain ⟨xs,x,hq,hx⟩:=hg;obtain ⟨its,rv,p,hz⟩:=I.tuple hq;obtain ⟨u,hu,ru⟩:=rv.get hx;obtain ⟨f0,f1,f2,f3,f4,f5⟩:=hf it (by simp);refine wpAny_pyNext_tuple_item st (show s.heap.IsTuple a its.toArray from p) (x:=u) (by simpa using hu) fun h' st' sb=>?_
  have I1:Inv X aR σ H { s with heap:=h' }:=I.turned (t':=s.toks) (fun b o hb e=>(sb.2 b hb).trans e) f0 f1 f3 f4 f5;obtain ⟨o,e,c,d⟩:=id st';exact ⟨u,rfl,go_of (s:={ s with heap:=h' }) e c d (by decide) ⟨x,H,I1,ru,⟨rfl,fun ys hy=>by rw [I.tuple_inj hy hq];exact hx⟩,st',fun b hb=>(hf b hb).1⟩⟩
 done:=by
  intro X hP hw hK hc i aR s σ H E I hf st hg;subst hP hw hK;obtain ⟨xs,hq,hx⟩:=hg;obtain ⟨its,rv,p,hz⟩:=I.tuple hq;obtain ⟨f0,f1,f2,f3,f4,f5⟩:=hf it (by simp);have hl:=rv.length;exact wpAny_pyNext_tuple_end (I.ok.hd hc) st (show s.heap.IsTuple a its.toArray from p) (by simp;lia) fun h' eb=>⟨rfl,I.turned (t':=s.toks) (fun b o hb e=>eb b o hb e) f0 f1 f3 f4 f5⟩
 self:=fun _ _ _ _ _ st h=>wpAny_pyIter_tupleiter st h
theorem turn_range (it:aq)(lo:Int)(n:Nat):Turn P w K tg (Itr lo n) [it] it (fun i h=>IsRangeIter h it (lo+(i:Nat) * 1) ((n:Int) - (i:Nat)) 1) where
 mem:=by simp
 obj:=fun i h st b hb=>by
  have e:b=it:=by simpa using hb
  subst e;exact ⟨_,st,fun v z=>by
   have z':Data.fields _=Data.cell v:=z;cases z'⟩
 keep:=fun i h h' st k=>k it (by simp) _ st
 item:=by
  intro X hP hw hK hc i aR s σ H E I hf st hg;subst hP hw hK;obtain ⟨f0,f1,f2,f3,f4,f5⟩:=hf it (by simp);have W:=Walks.range (prog:=X.prog) (w:=X.w) (I.ok.hd hc) it lo 1 n;refine W.item i s _ _ hg st fun v h' tk hv st' kk=>?_
  obtain ⟨t,rfl⟩:=hv;have I1:Inv X aR σ H { s with heap:=h',toks:=tk }:=I.turned (fun b o hb e=>kk b o (by simpa using hb) e) f0 f1 f3 f4 f5;refine ⟨_,rfl,go_of (s:={ s with heap:=h',toks:=tk }) (n := "range_iterator") st' rfl rfl (by decide) ⟨.int (lo+i),H,I1,⟨t,?_⟩,⟨rfl,rfl⟩,st',fun b hb=>(hf b hb).1⟩⟩;rw [Int.mul_one]
 done:=by
  intro X hP hw hK hc i aR s σ H E I hf st hg;subst hP hw hK;obtain ⟨f0,f1,f2,f3,f4,f5⟩:=hf it (by simp);exact wpAny_pyNext_range_end (I.ok.hd hc) st (by have:n≤i:=hg;lia) fun h' eb=>⟨rfl,I.turned (t':=s.toks) (fun b o hb e=>eb b o hb e) f0 f1 f3 f4 f5⟩
 self:=fun _ _ _ _ _ st h=>wpAny_pyIter_rangeiter st h
def iList (K:au)(tl:TE):TI:=fun σ H R=>tl σ H fun x H1=>∃ a,x= .ref a∧(∃ xs,SqL K H1 a xs)∧R (Itl K a) H1
def iTup (K:au)(tl:TE):TI:=fun σ H R=>tl σ H fun x H1=>∃ a,x= .ref a∧(∃ xs,SqT K H1 a xs)∧R (Itt K a) H1
theorem gg {l:Expr}(hl:PE X l tl):PI X tg l (iList X.K tl):=by
 intro aR s σ H R I h;refine thn (hl aR s σ H _ I h) fun v s1 ⟨x,H1,I1,r1,q1⟩=>?_
 obtain ⟨a,e,⟨xs,hq⟩,q⟩:=q1;subst e;cases r1;obtain ⟨its,rv,p,hz⟩:=I1.list hq;refine gu p.isList ?_;refine ⟨s1.heap.objs.size,[s1.heap.objs.size],_,_,H1,rfl,I1.kept (t':=s1.toks) fun b o e=>aw _ e,turn_list a _,⟨_,aX _ rfl,rfl,rfl⟩,fun b hb=>?_,q⟩;have e:b=s1.heap.objs.size:=by simpa using hb
 subst e;exact I1.fpOk (aA _) (I1.hok.fresh (aA _))
theorem lI {l:Expr}(hl:PE X l tl):PI X tg l (iTup X.K tl):=by
 intro aR s σ H R I h;refine thn (hl aR s σ H _ I h) fun v s1 ⟨x,H1,I1,r1,q1⟩=>?_
 obtain ⟨a,e,⟨xs,hq⟩,q⟩:=q1;subst e;cases r1;obtain ⟨its,rv,p,hz⟩:=I1.tuple hq;refine k9 (show s1.heap.IsTuple a its.toArray from p) ?_;refine ⟨s1.heap.objs.size,[s1.heap.objs.size],_,_,H1,rfl,I1.kept (t':=s1.toks) fun b o e=>aw _ e,turn_tuple a _,⟨_,aX _ rfl,rfl,rfl⟩,fun b hb=>?_,q⟩;have e:b=s1.heap.objs.size:=by simpa using hb
 subst e;exact I1.fpOk (aA _) (I1.hok.fresh (aA _))
theorem range_it {R:It→Hp→Prop}{hi:Int}{t u v:Tok}{tk:Nat}(I:Inv X aR σ H s)(h1: -(2 ^ 62)≤lo)(h2:lo<2 ^ 62)(h3: -(2 ^ 62)≤hi)(h4:hi<2 ^ 62)
  (q:R (Itr lo (hi - lo).toNat) H):bf (bw X.prog X.w) X.A (pyIter (.ref s.heap.objs.size)) (PIE X aR σ tg R) E { s with heap:=s.heap.push { cls:= .type "range",data:= .fields #[.int lo t,.int hi u,.int 1 v] },toks:=tk }:=by
 refine wpAny_pyIter_range (IsRange.new ..) (small_one h1 h2 h3 h4) ?_;have I1:Inv X aR σ H { s with heap:=s.heap.push { cls:= .type "range",data:= .fields #[.int lo t,.int hi u,.int 1 v] },toks:=tk }:=I.kept fun b o e=>aw _ e
 refine ⟨(s.heap.push { cls:= .type "range",data:= .fields #[.int lo t,.int hi u,.int 1 v] }).objs.size,[(s.heap.push { cls:= .type "range",data:= .fields #[.int lo t,.int hi u,.int 1 v] }).objs.size],_,_,H,rfl,
  I1.kept (t':=tk) fun b o e=>aw _ e,turn_range _ lo (hi - lo).toNat,?_,fun b hb=>?_,q⟩
 ·have e1:lo+((0:Nat):Int) * 1=lo:=by simp
  have e2:(((hi - lo).toNat:Nat):Int) - ((0:Nat):Int)=dW lo hi 1:=by rw [rangeSize_one];split <;> lia
  show IsRangeIter _ _ (lo+((0:Nat):Int) * 1) ((((hi - lo).toNat:Nat):Int) - ((0:Nat):Int)) 1;rw [e1,e2];exact aX _ rfl
 ·have e:b=(s.heap.push { cls:= .type "range",data:= .fields #[.int lo t,.int hi u,.int 1 v] }).objs.size:=by simpa using hb
  subst e;exact I1.fpOk (aA _) (I1.hok.fresh (aA _))
def iRng1 (ta:TA):TI:=fun σ H R=>ta σ H fun vs H1=>∃ j:Int,vs=[.int j]∧ -(2 ^ 62)≤j∧j<2 ^ 62∧R (Itr 0 j.toNat) H1
theorem gH {a:Expr}{ta:TA}{p:Pos}(hg:Gl X "range")(hm:X.mg "range" =none)(ha:PA X [a] ta)(hs:bB [a] X.env=[(false,eK a X.env)]:=by rfl):PI X tg (.Call (.Name "range" p) [a] [] pos) (iRng1 ta):=by
 intro aR s σ H R I h;refine Call_ (nk I hg hm boot_range (ft (thn (ha pos aR s σ H _ I h) fun us s1 ⟨vs,H1,I1,r1,q1⟩=>?_) hs rfl));obtain ⟨j,e,q1,q2,q⟩:=q1;subst e;cases r1 with
 | cons r rr =>
  cases rr;obtain ⟨t,rfl⟩:=r;exact call_range_1 (range_it I1 (by lia) (by lia) q1 q2 (by simpa using q))
def tFor (wi:TI)(g:TG)(tb:TS):TS:=fun D σ H=>wi σ H fun J H1=>∃ W:Nat→Nat→St→Hp→Prop,(∃ m,W 0 m σ H1)∧∀ i m σ H,W i m σ H →
 (J.stop i H∧D.nx σ H)∨(J.go i H∧∃ N:St→Hp→Prop,(∀ σ' H',N σ' H'→∃ m',m'<m∧W (i+1) m' σ' H')∧∀ x H',J.yld i H x H'→g x σ H' fun σ2 H2=>tb { D with nx:=N,ct:=N,bk:=D.nx } σ2 H2)
def pinsAt (fp:List aq)(h:bL):List (aq×Obj):=fp.filterMap fun b=>(h.get? b).map fun o=>(b,o)
theorem lV {b:aq}{o:Obj}(hb:b∈fp)(e:h.get? b=some o):(b,o)∈pinsAt fp h:=List.mem_filterMap.mpr ⟨b,hb,by rw [e];rfl⟩
theorem of_pinsAt {p:aq×Obj}(hp:p∈pinsAt fp h):p.1∈fp∧h.get? p.1=some p.2:=by
 obtain ⟨b,hb,e⟩:=List.mem_filterMap.mp hp;cases q:h.get? b with
 | none=>rw [q] at e;cases e
 | some o =>
  rw [q] at e;have e':(b,o)=p:=bG e;subst e';exact ⟨hb,q⟩
theorem Inv.pinned (I:Inv X aR σ H s)(hf:∀ b∈fp,FpOk X aR H b)(ho:∀ b∈fp,∃ o,s.heap.get? b=some o∧∀ v,o.data≠ .cell v):Inv X (aR++pinsAt fp s.heap) σ H s :=
 I.pins_of fun p hp=>(aH.mp hp).elim (fun z=>I.pin p (aK _ z)) fun z=>by
  obtain ⟨hb,e⟩:=of_pinsAt z;obtain ⟨f0,f1,f2,_⟩:=hf p.1 hb;obtain ⟨o,e',d⟩:=ho p.1 hb;rw [e] at e';cases e';exact ⟨e,f0,f1,f2,d⟩
theorem Inv.unpinned {pl:List (aq×Obj)}(I:Inv X (aR++pl) σ H s):Inv X aR σ H s:=I.pins_of fun p hp=>I.pin p (aK _ (aJ _ hp))
theorem ib {body:List cJ}{wi:TI}{g:TG}{tb:TS}(hp:PassesOwn (bw X.prog X.w) X.A X.env X.xe)(hc:X.calm=true)(hi:PI X tg iter wi)(hg:PG X tg g)(hb:PSs X body tb)
  (hs:∀ x,fN iter X.env x=fU x:=by intro _;rfl):PS X (.For tg iter body [] pos) (tFor wi g tb):=by
 intro aR s σ H D I h;refine wpAny_For (thn (hi aR s σ H _ I h) fun v s1 h1=>thn h1 fun itv s2 h2=>?_) hs;obtain ⟨it,fp,tn,J,H2,e,I2,T,st2,f2,W,⟨m0,w0⟩,turn⟩:=h2;subst e;have stat:∀ {H':Hp},(∀ b∈fp,H' b=none)→∀ b∈fp,FpOk X aR H' b:=fun hn b hb=>⟨hn b hb,(f2 b hb).2⟩
 refine codeAny_forLoop_any (fun n s'=>∃ i σ' H',Inv X aR σ' H' s'∧tn i s'.heap∧(∀ b∈fp,H' b=none)∧W i n σ' H') ?_ m0 ⟨0,σ,H2,I2,st2,fun b hb=>(f2 b hb).1,w0⟩;rintro n s3 ⟨i,σ3,H3,I3,st3,fr3,w3⟩
 rcases turn i n σ3 H3 w3 with ⟨stop,qn⟩ | ⟨go,N,hN,step⟩
 ·refine ip hp (thn (T.done X rfl rfl rfl hc i aR s3 σ3 H3 X.xe I3 (stat fr3) st3 stop) fun r s4 ⟨hr,I4⟩=>?_)
  subst hr;exact wpAny_execs_nil ⟨σ3,H3,I4,qn⟩
 ·refine ip hp (thn (T.item X rfl rfl rfl hc i aR s3 σ3 H3 X.xe I3 (stat fr3) st3 go) fun r s4 ⟨u,hr,h4⟩=>?_)
  subst hr;refine ip hp (thn h4 fun _ s5 ⟨x,H5,I5,r5,y5,st5,fr5⟩=>?_);have I5':=I5.pinned (stat fr5) (T.obj _ _ st5);refine ip hp (thn (hg _ s5 σ3 H5 x u _ I5' r5 (step x H5 y5)) fun _ s6 ⟨σ6,H6,I6,q6⟩=>?_);refine ip hp (thn (hb _ s6 σ6 H6 _ I6 q6) fun f s7 q7=>?_);have again:∀ {σ7:St} {H7:Hp},Inv X (aR++pinsAt fp s5.heap) σ7 H7 s7→N σ7 H7→∃ m,m<n∧∃ i σ' H',Inv X aR σ' H' s7∧tn i s7.heap∧(∀ b∈fp,H' b=none)∧W i m σ' H':=fun {σ7 H7} I7 n7=>by
   obtain ⟨m',hm,w7⟩:=hN σ7 H7 n7;refine ⟨m',hm,i+1,σ7,H7,I7.unpinned,T.keep _ _ _ st5 fun b hb o e=>(I7.pin (b,o) (aK _ (aK _ (lV hb e)))).1,fun b hb=>?_,w7⟩;obtain ⟨o,e,d⟩:=T.obj _ _ st5 b hb;exact (I7.pin (b,o) (aK _ (aK _ (lV hb e)))).2.1
  cases f with
  | next=>obtain ⟨σ7,H7,I7,n7⟩:=q7;exact again I7 n7
  | cont=>obtain ⟨σ7,H7,I7,n7⟩:=q7;exact again I7 n7
  | brk=>obtain ⟨σ7,H7,I7,q7⟩:=q7;exact ⟨σ7,H7,I7.unpinned,q7⟩
  | ret v=>obtain ⟨x7,σ7,H7,I7,r7,q7⟩:=q7;exact ⟨x7,σ7,H7,I7.unpinned,r7,q7⟩
theorem jh {g:TG}{tb:TS}{D:kG}(Pv:Nat→St→Hp→Prop)(h0:Pv 0 σ H)(hl:∀ i σ H,i≤xs.length→Pv i σ H→SqL K H a xs)
  (hs:∀ i x σ H,xs[i]? =some x→Pv i σ H→g x σ H fun σ2 H2=>tb { D with nx:=Pv (i+1),ct:=Pv (i+1),bk:=D.nx } σ2 H2) (hd:∀ σ H,Pv xs.length σ H→D.nx σ H) :
  ∃ W:Nat→Nat→St→Hp→Prop,(∃ m,W 0 m σ H)∧∀ i m σ H,W i m σ H →
   ((Itl K a).stop i H∧D.nx σ H)∨((Itl K a).go i H∧∃ N:St→Hp→Prop,(∀ σ' H',N σ' H'→∃ m',m'<m∧W (i+1) m' σ' H')∧∀ x H',(Itl K a).yld i H x H'→g x σ H' fun σ2 H2=>tb { D with nx:=N,ct:=N,bk:=D.nx } σ2 H2):=by
 refine ⟨fun i m σ H=>m=xs.length - i∧i≤xs.length∧Pv i σ H,⟨xs.length,by simp,bg _,h0⟩,?_⟩;rintro i m σ H ⟨rfl,hi,p⟩;have q:=hl i σ H hi p
 by_cases hlt:i<xs.length
 ·refine .inr ⟨⟨xs,xs[i],q,by simp [hlt]⟩,Pv (i+1),fun σ' H' p'=>⟨xs.length - (i+1),by lia,rfl,hlt,p'⟩,fun x H' y=>?_⟩
  obtain ⟨e,y⟩:=y;subst e;exact hs i x σ _ (y xs q) p
 ·have e:i=xs.length:=by lia
  subst e;exact .inl ⟨⟨xs,q,aA _⟩,hd σ H p⟩
theorem for_tup {g:TG}{tb:TS}{D:kG}(Pv:Nat→St→Hp→Prop)(h0:Pv 0 σ H)(hl:∀ i σ H,i≤xs.length→Pv i σ H→SqT K H a xs)
  (hs:∀ i x σ H,xs[i]? =some x→Pv i σ H→g x σ H fun σ2 H2=>tb { D with nx:=Pv (i+1),ct:=Pv (i+1),bk:=D.nx } σ2 H2) (hd:∀ σ H,Pv xs.length σ H→D.nx σ H) :
  ∃ W:Nat→Nat→St→Hp→Prop,(∃ m,W 0 m σ H)∧∀ i m σ H,W i m σ H →
   ((Itt K a).stop i H∧D.nx σ H)∨((Itt K a).go i H∧∃ N:St→Hp→Prop,(∀ σ' H',N σ' H'→∃ m',m'<m∧W (i+1) m' σ' H')∧∀ x H',(Itt K a).yld i H x H'→g x σ H' fun σ2 H2=>tb { D with nx:=N,ct:=N,bk:=D.nx } σ2 H2):=by
 refine ⟨fun i m σ H=>m=xs.length - i∧i≤xs.length∧Pv i σ H,⟨xs.length,by simp,bg _,h0⟩,?_⟩;rintro i m σ H ⟨rfl,hi,p⟩;have q:=hl i σ H hi p
 by_cases hlt:i<xs.length
 ·refine .inr ⟨⟨xs,xs[i],q,by simp [hlt]⟩,Pv (i+1),fun σ' H' p'=>⟨xs.length - (i+1),by lia,rfl,hlt,p'⟩,fun x H' y=>?_⟩
  obtain ⟨e,y⟩:=y;subst e;exact hs i x σ _ (y xs q) p
 ·have e:i=xs.length:=by lia
  subst e;exact .inl ⟨⟨xs,q,aA _⟩,hd σ H p⟩
theorem j5 {g:TG}{tb:TS}{D:kG}(Pv:Nat→St→Hp→Prop)(h0:Pv 0 σ H)
  (hs:∀ i σ H,i<n→Pv i σ H→g (.int (lo+i)) σ H fun σ2 H2=>tb { D with nx:=Pv (i+1),ct:=Pv (i+1),bk:=D.nx } σ2 H2) (hd:∀ σ H,Pv n σ H→D.nx σ H) :
  ∃ W:Nat→Nat→St→Hp→Prop,(∃ m,W 0 m σ H)∧∀ i m σ H,W i m σ H →
   ((Itr lo n).stop i H∧D.nx σ H)∨((Itr lo n).go i H∧∃ N:St→Hp→Prop,(∀ σ' H',N σ' H'→∃ m',m'<m∧W (i+1) m' σ' H')∧∀ x H',(Itr lo n).yld i H x H'→g x σ H' fun σ2 H2=>tb { D with nx:=N,ct:=N,bk:=D.nx } σ2 H2):=by
 refine ⟨fun i m σ H=>m=n - i∧i≤n∧Pv i σ H,⟨n,by simp,bg _,h0⟩,?_⟩;rintro i m σ H ⟨rfl,hi,p⟩
 by_cases hlt:i<n
 ·refine .inr ⟨hlt,Pv (i+1),fun σ' H' p'=>⟨n - (i+1),by lia,rfl,hlt,p'⟩,fun x H' y=>?_⟩
  obtain ⟨e,y⟩:=y;subst e y;exact hs i σ _ hlt p
 ·have e:i=n:=by lia
  subst e;exact .inl ⟨aA _,hd σ H p⟩
abbrev R2:=V→V→Hp→VK→Prop
def OpR (X:Cx)(f:ae→ae→Sem ae)(r:R2):Prop :=
 ∀ (aR:List (aq×Obj)) (s:ax) (σ:St) (H:Hp) (x y:V) (v u:ae) (Q:VK),Inv X aR σ H s→gI x v→gI y u→r x y H Q →
  bf (bw X.prog X.w) X.A (f v u) (EP X aR σ Q) X.xe s
def UnR (X:Cx)(f:ae→Sem ae)(r:V→Hp→VK→Prop):Prop :=
 ∀ (aR:List (aq×Obj)) (s:ax) (σ:St) (H:Hp) (x:V) (v:ae) (Q:VK),Inv X aR σ H s→gI x v→r x H Q →
  bf (bw X.prog X.w) X.A (f v) (EP X aR σ Q) X.xe s
def jz (X:Cx)(f:ae)(r:List V→Hp→VK→Prop):Prop :=
 ∀ (aR:List (aq×Obj)) (s:ax) (σ:St) (H:Hp) (xs:List V) (us:List ae) (Q:VK),Inv X aR σ H s→gi xs us→r xs H Q →
  bf (bw X.prog X.w) X.A (call f us) (EP X aR σ Q) X.xe s
def tOp (r:R2)(ta tb:TE):TE:=fun σ H Q=>ta σ H fun x H1=>tb σ H1 fun y H2=>r x y H2 Q
def tUn (r:V→Hp→VK→Prop)(ta:TE):TE:=fun σ H Q=>ta σ H fun x H1=>r x H1 Q
inductive rI (C:Int→Int→Prop)(g:Int→Int→V)(x:V)(y:V)(H:Hp)(Q:VK):Prop
 | mk (i j:_)(_:x= .int i)(_:y= .int j)(_:C i j)(_:Q (g i j) H)
inductive rI0 (g:Int→Int→V)(x:V)(y:V)(H:Hp)(Q:VK):Prop
 | mk (i j:_)(_:x= .int i)(_:y= .int j)(_:Q (g i j) H)
inductive rU (g:Int→V)(x:V)(H:Hp)(Q:VK):Prop
 | mk (i:_)(_:x= .int i)(_:Q (g i) H)
section
variable {a b c:Expr}{tb tc:TE}
theorem binT (ha:PE X a ta)(hb:PE X b tb){R:V→V→Hp→Prop}(I:Inv X aR σ H s)
  (h:ta σ H fun x H1=>tb σ H1 fun y H2=>R x y H2) {f:ae→ae→Sem ae}
  (hf:∀ v u s2 x y H2,Inv X aR σ H2 s2→gI x v→gI y u→R x y H2→bf (bw X.prog X.w) X.A (f v u) Q X.xe s2) :
  bf (bw X.prog X.w) X.A (eK a X.env) (fun v s₁=>bf (bw X.prog X.w) X.A (eK b X.env) (fun u s₂=>bf (bw X.prog X.w) X.A (f v u) Q X.xe s₂) X.xe s₁) X.xe s:=by
 refine thn (ha aR s σ H _ I h) fun v s1 ⟨x,H1,I1,r1,q1⟩=>?_
 refine thn (hb aR s1 σ H1 _ I1 q1) fun u s2 ⟨y,H2,I2,r2,q2⟩=>?_
 exact hf v u s2 x y H2 I2 r1 r2 q2
theorem cU {op:Operator}{r:R2}(ho:OpR X (iu op) r)(ha:PE X a ta)(hb:PE X b tb):PE X (.BinOp a op b pos) (tOp r ta tb):=by
 intro aR s σ H Q I h;exact wpAny_BinOp (binT ha hb I h fun v u s2 x y H2 I2 rx ry q=>ho aR s2 σ H2 x y v u Q I2 rx ry q)
theorem pe_un {op:UnaryOp}{r:V→Hp→VK→Prop}(ho:UnR X (unaryOp op) r)(ha:PE X a ta):PE X (.UnaryOp op a pos) (tUn r ta):=by
 intro aR s σ H Q I h;exact UnaryOp_ (thn (ha aR s σ H _ I h) fun v s1 ⟨x,H1,I1,r1,q1⟩=>ho aR s1 σ H1 x v Q I1 r1 q1)
theorem opI {f:ae→ae→Sem ae}{C:Int→Int→Prop}{g:Int→Int→Int}
  (rule:∀ (i j:Int) (t u:Tok) (s:ax) (Q:ae→ax→Prop) (E:ae→ax→Prop),C i j→Q (.int (g i j) s.toks) { s with toks:=s.toks+1 }→bf (bw X.prog X.w) X.A (f (.int i t) (.int j u)) Q E s) :
  OpR X f (rI C fun i j=> .int (g i j)):=by
 intro aR s σ H x y v u Q I rx ry h;obtain ⟨i,j,rfl,rfl,hc,q⟩:=h;obtain ⟨t,rfl⟩:=rx;obtain ⟨t',rfl⟩:=ry;exact rule i j t t' s _ _ hc ⟨.int (g i j),H,I.tok _,⟨_,rfl⟩,q⟩
theorem opI0 {f:ae→ae→Sem ae}{g:Int→Int→Int}
  (rule:∀ (i j:Int) (t u:Tok) (s:ax) (Q:ae→ax→Prop) (E:ae→ax→Prop),Q (.int (g i j) s.toks) { s with toks:=s.toks+1 }→bf (bw X.prog X.w) X.A (f (.int i t) (.int j u)) Q E s) :
  OpR X f (rI0 fun i j=> .int (g i j)):=by
 intro aR s σ H x y v u Q I rx ry h;obtain ⟨i,j,rfl,rfl,q⟩:=h;obtain ⟨t,rfl⟩:=rx;obtain ⟨t',rfl⟩:=ry;exact rule i j t t' s _ _ ⟨.int (g i j),H,I.tok _,⟨_,rfl⟩,q⟩
theorem opB0 {f:ae→ae→Sem ae}{g:Int→Int→Bool}
  (rule:∀ (i j:Int) (t u:Tok) (s:ax) (Q:ae→ax→Prop) (E:ae→ax→Prop),Q (.bool (g i j)) s→bf (bw X.prog X.w) X.A (f (.int i t) (.int j u)) Q E s) :
  OpR X f (rI0 fun i j=> .bl (g i j)):=by
 intro aR s σ H x y v u Q I rx ry h;obtain ⟨i,j,rfl,rfl,q⟩:=h;obtain ⟨t,rfl⟩:=rx;obtain ⟨t',rfl⟩:=ry;exact rule i j t t' s _ _ ⟨.bl (g i j),H,I,rfl,q⟩
def CDiv (i j:Int):Prop:=0<j∧j<1073741824
def CMul (i j:Int):Prop:=(-(2 ^ 64)<i∧i<2 ^ 64)∨(-(2 ^ 64)<j∧j<2 ^ 64)
theorem CMul.ok {i j:Int}(h:CMul i j):IntMulOk i j:=by
 rcases h with ⟨h1,h2⟩ | ⟨h1,h2⟩
 ·exact .of_left (intBits_le_64 h1 h2)
 ·exact .of_right (intBits_le_64 h1 h2)
theorem gX:OpR X (iu .Add) (rI0 fun i j=> .int (i+j)):=opI0 fun _ _ _ _ _ _ _ q=>add_int q
theorem i0:OpR X (iu .Sub) (rI0 fun i j=> .int (i - j)):=opI0 fun _ _ _ _ _ _ _ q=>sub_int q
theorem nc:OpR X (iu .Mult) (rI CMul fun i j=> .int (i * j)):=opI fun _ _ _ _ _ _ _ hc q=>mul_int q hc.ok
theorem op_fdiv:OpR X (iu .FloorDiv) (rI CDiv fun i j=> .int (i / j)):=opI fun i j _ _ _ _ _ hc q=>by
 have h1:(0:Int)<j:=hc.1;have h2:j<1073741824:=hc.2;exact floordiv_int (by lia) (by rw [Int.fdiv_eq_ediv_of_nonneg i (by lia)];exact q) (.inl (PyProof.noPylong_small (by lia)))
theorem k6:OpR X (iu .Mod) (rI (fun _ j=>0<j) fun i j=> .int (i % j)):=opI fun i j _ _ _ _ _ hc q=>by
 have h1:(0:Int)<j:=hc;exact mod_int' (by lia) (by rw [Int.fmod_eq_emod_of_nonneg i (by lia)];exact q)
theorem unI {f:ae→Sem ae}{g:Int→Int}
  (rule:∀ (i:Int) (t:Tok) (s:ax) (Q:ae→ax→Prop) (E:ae→ax→Prop),Q (.int (g i) s.toks) { s with toks:=s.toks+1 }→bf (bw X.prog X.w) X.A (f (.int i t)) Q E s) :
  UnR X f (rU fun i=> .int (g i)):=by
 intro aR s σ H x v Q I rx h;obtain ⟨i,rfl,q⟩:=h;obtain ⟨t,rfl⟩:=rx;exact rule i t s _ _ ⟨.int (g i),H,I.tok _,⟨_,rfl⟩,q⟩
theorem pZ:UnR X (unaryOp .USub) (rU fun i=> .int (-i)):=unI fun _ _ _ _ _ q=>neg_int q
end
def scal:V→V→Bool
 | .non,.non=>true | .non,.int _=>true | .int _,.non=>true | .non,.bl _=>true | .bl _,.non=>true | .non,.str _=>true | .str _,.non=>true
 | .int _,.int _=>true | .bl _,.bl _=>true | .str _,.str _=>true | .byt _,.byt _=>true
 | .int _,.str _=>true | .str _,.int _=>true | .bl _,.str _=>true | .str _,.bl _=>true
 | _,_=>false
def rEq:R2:=fun x y H Q=>scal x y=true∧Q (.bl (decide (x=y))) H
def rNe:R2:=fun x y H Q=>scal x y=true∧Q (.bl (!decide (x=y))) H
theorem dec_int {i j:Int}:decide (V.int i=V.int j)=(i == j):=by
 rw [j7];simp
theorem dec_bl {i j:Bool}:decide (V.bl i=V.bl j)=(i == j):=by
 rw [j7];simp
theorem dec_str {i j:Str}:decide (V.str i=V.str j)=(i == j):=by
 rw [j7];simp
theorem dec_byt {i j:Array UInt8}:decide (V.byt i=V.byt j)=(i.toList == j.toList):=by
 rw [j7];cases i;cases j;simp
section
variable {a b c:Expr}{tb tc:TE}
theorem eV {Q:VK}{k k':Bool}(I:Inv X aR σ H s)(q:Q (.bl k) H)(e:k=k'):EP X aR σ Q (.bool k') s:=by
 subst e;exact ⟨.bl k,H,I,rfl,q⟩
theorem jJ:OpR X (eP .Eq) rEq:=by
 intro aR s σ H x y v u Q I rx ry h;obtain ⟨hs,q⟩:=h;cases x with
 | non =>
  cases rx;cases y with
  | non=>cases ry;exact PySem.EqNone.eq_none_none (eV I q (by simp))
  | bl j=>cases ry;exact PySem.EqNone.eq_none_bool (eV I q (by simp))
  | int j=>obtain ⟨t',rfl⟩:=ry;exact PySem.EqNone.eq_none_int (eV I q (by simp))
  | str j=>obtain ⟨t',rfl⟩:=ry;exact PySem.EqNone.eq_none_str (eV I q (by simp))
  | _=>exact qM (show false=true from hs) bo
 | bl i =>
  cases rx;cases y with
  | non=>cases ry;exact PySem.EqNone.eq_bool_none (eV I q (by simp))
  | bl j=>cases ry;exact eq_bool (eV I q dec_bl)
  | str j=>obtain ⟨t',rfl⟩:=ry;exact PySem.EqMixed.eq_bool_str (eV I q (by simp))
  | _=>exact qM (show false=true from hs) bo
 | int i =>
  obtain ⟨t,rfl⟩:=rx;cases y with
  | non=>cases ry;exact PySem.EqNone.eq_int_none (eV I q (by simp))
  | int j=>obtain ⟨t',rfl⟩:=ry;exact eq_int (eV I q dec_int)
  | str j=>obtain ⟨t',rfl⟩:=ry;exact PySem.EqMixed.eq_int_str (eV I q (by simp))
  | _=>exact qM (show false=true from hs) bo
 | str i =>
  obtain ⟨t,rfl⟩:=rx;cases y with
  | non=>cases ry;exact PySem.EqNone.eq_str_none (eV I q (by simp))
  | bl j=>cases ry;exact PySem.EqMixed.eq_str_bool (eV I q (by simp))
  | int j=>obtain ⟨t',rfl⟩:=ry;exact PySem.EqMixed.eq_str_int (eV I q (by simp))
  | str j=>obtain ⟨t',rfl⟩:=ry;exact eq_str (eV I q dec_str)
  | _=>exact qM (show false=true from hs) bo
 | byt i =>
  obtain ⟨t,rfl⟩:=rx;cases y with
  | byt j=>obtain ⟨t',rfl⟩:=ry;exact PySem.W.eq_bytes (eV I q dec_byt)
  | _=>exact qM (show false=true from hs) bo
 | _=>cases y <;> exact qM (show false=true from hs) bo
theorem op_ne:OpR X (eP .NotEq) rNe:=by
 intro aR s σ H x y v u Q I rx ry h;obtain ⟨hs,q⟩:=h;cases x with
 | non =>
  cases rx;cases y with
  | non=>cases ry;exact PySem.EqNone.ne_none_none (eV I q (by simp))
  | bl j=>cases ry;exact PySem.EqNone.ne_none_bool (eV I q (by simp))
  | int j=>obtain ⟨t',rfl⟩:=ry;exact PySem.EqNone.ne_none_int (eV I q (by simp))
  | str j=>obtain ⟨t',rfl⟩:=ry;exact PySem.EqNone.ne_none_str (eV I q (by simp))
  | _=>exact qM (show false=true from hs) bo
 | bl i =>
  cases rx;cases y with
  | non=>cases ry;exact PySem.EqNone.ne_bool_none (eV I q (by simp))
  | bl j=>cases ry;exact ne_bool (eV I q (qQ not dec_bl))
  | str j=>obtain ⟨t',rfl⟩:=ry;exact PySem.EqMixed.ne_bool_str (eV I q (by simp))
  | _=>exact qM (show false=true from hs) bo
 | int i =>
  obtain ⟨t,rfl⟩:=rx;cases y with
  | non=>cases ry;exact PySem.EqNone.ne_int_none (eV I q (by simp))
  | int j=>obtain ⟨t',rfl⟩:=ry;exact ne_int (eV I q (qQ not dec_int))
  | str j=>obtain ⟨t',rfl⟩:=ry;exact PySem.EqMixed.ne_int_str (eV I q (by simp))
  | _=>exact qM (show false=true from hs) bo
 | str i =>
  obtain ⟨t,rfl⟩:=rx;cases y with
  | non=>cases ry;exact PySem.EqNone.ne_str_none (eV I q (by simp))
  | bl j=>cases ry;exact PySem.EqMixed.ne_str_bool (eV I q (by simp))
  | int j=>obtain ⟨t',rfl⟩:=ry;exact PySem.EqMixed.ne_str_int (eV I q (by simp))
  | str j=>obtain ⟨t',rfl⟩:=ry;exact ne_str (eV I q (qQ not dec_str))
  | _=>exact qM (show false=true from hs) bo
 | byt i =>
  obtain ⟨t,rfl⟩:=rx;cases y with
  | byt j=>obtain ⟨t',rfl⟩:=ry;exact PySem.W.ne_bytes (eV I q (qQ not dec_byt))
  | _=>exact qM (show false=true from hs) bo
 | _=>cases y <;> exact qM (show false=true from hs) bo
theorem op_lt:OpR X (eP .Lt) (rI0 fun i j=> .bl (decide (i<j))):=opB0 fun _ _ _ _ _ _ _ q=>lt_int q
theorem op_le:OpR X (eP .LtE) (rI0 fun i j=> .bl (decide (i≤j))):=opB0 fun _ _ _ _ _ _ _ q=>le_int q
theorem pU:OpR X (eP .Gt) (rI0 fun i j=> .bl (decide (j<i))):=opB0 fun _ _ _ _ _ _ _ q=>gt_int q
theorem op_ge:OpR X (eP .GtE) (rI0 fun i j=> .bl (decide (j≤i))):=opB0 fun _ _ _ _ _ _ _ q=>ge_int q
theorem op_isN:OpR X (eP .Is) (fun x y H Q=>y= .non∧Q (.bl (decide (x= .non))) H):=by
 intro aR s σ H x y v u Q I rx ry h;obtain ⟨rfl,q⟩:=h;cases ry;refine is_none_gen (eV I q ?_);cases x <;> first
  | (cases rx;rfl)
  | (obtain ⟨t,rfl⟩:=rx;rfl)
theorem cG (b:Expr)(h:op≠ .In:=by decide)(h2:op≠ .NotIn:=by decide):behindInMarks op b=false:=by
 have e1:(op == CmpOp.In)=false:=by cases op <;> first | rfl | exact qM rfl h
 have e2:(op == CmpOp.NotIn)=false:=by cases op <;> first | rfl | exact qM rfl h2
 cases b <;> simp [behindInMarks,e1,e2]
theorem iG {r:R2}(ho:OpR X (eP op) r)(ha:PE X a ta)(hb:PE X b tb)(hm:behindInMarks op b=false):PE X (.Compare a [op] [b] pos) (tOp r ta tb):=by
 intro aR s σ H Q I h;exact wpAny_Compare1 (binT ha hb I h fun v u s2 x y H2 I2 rx ry q=>ho aR s2 σ H2 x y v u Q I2 rx ry q) hm
def tTest (t:TE):TT:=fun σ H Q=>t σ H fun x H'=>IsBl x fun k=>Q k H'
theorem cw {r:R2}(ho:OpR X (eP op) r)(ha:PE X a ta)(hb:PE X b tb)(hm:behindInMarks op b=false):PT X (.Compare a [op] [b] pos) (tTest (tOp r ta tb)):=by
 intro aR s σ H Q I h;refine wpAny_isTrue_Compare1 (thn (ha aR s σ H _ I h) fun v s1 ⟨x,H1,I1,r1,q1⟩=>thn (hb aR s1 σ H1 _ I1 q1) fun u s2 ⟨y,H2,I2,r2,q2⟩ =>
  thn (ho aR s2 σ H2 x y v u _ I2 r1 r2 q2) fun c s3 ⟨z,H3,I3,r3,k,e,q3⟩=>?_) hm
 subst e;cases r3;exact gq ⟨H3,I3,q3⟩
def tChain (r r':R2)(ta tb tc:TE):TE:=fun σ H Q=>ta σ H fun x H1=>tb σ H1 fun y H2=>r x y H2 fun z H3=>∃ k,z= .bl k ∧
 (if k=true then tc σ H3 fun w' H4=>r' y w' H4 Q else Q (.bl false) H3)
theorem pe_chain {op':CmpOp}{r r':R2}(ho:OpR X (eP op) r)(ho':OpR X (eP op') r')(ha:PE X a ta)(hb:PE X b tb)(hc:PE X c tc)
  (hm:lastMarks [op,op'] [b,c]=false:=by with_unfolding_all rfl):PE X (.Compare a [op,op'] [b,c] pos) (tChain r r' ta tb tc):=by
 intro aR s σ H Q I h;refine Compare_chain (thn (ha aR s σ H _ I h) fun v s1 ⟨x,H1,I1,r1,q1⟩=>chain_link (thn (hb aR s1 σ H1 _ I1 q1) fun u s2 ⟨y,H2,I2,r2,q2⟩ =>
  thn (ho aR s2 σ H2 x y v u _ I2 r1 r2 q2) fun d s3 ⟨z,H3,I3,r3,k,e,q3⟩=>?_)) hm
 subst e;cases r3;refine gq ?_;cases k with
 | false=>exact ite_ff ⟨.bl false,H3,I3,rfl,q3⟩
 | true=>exact ite_tt (chain_last (thn (hc aR s3 σ H3 _ I3 q3) fun w' s4 ⟨z',H4,I4,r4,q4⟩=>ho' aR s4 σ H4 y z' u w' Q I4 r2 r4 q4))
theorem line63:(aZ:Nat)<2 ^ 63:=by rw [fR];decide
theorem mP {x:V}(r:gi [x] us):∃ u,us=[u]∧gI x u:=by
 cases r with
 | cons r1 r2=>cases r2;exact ⟨_,rfl,r1⟩
theorem vals2 {x y:V}(r:gi [x,y] us):∃ u w',us=[u,w']∧gI x u∧gI y w':=by
 cases r with
 | cons r1 r2 =>
  cases r2 with
  | cons r3 r4=>cases r4;exact ⟨_,_,rfl,r1,r3⟩
theorem call_max2 (hc:X.calm=true):jz X (.builtin "max") (fun xs H Q=>∃ i j,xs=[.int i,.int j]∧Q (.int (if j > i then j else i)) H):=by
 intro aR s σ H xs us Q I r h;obtain ⟨i,j,rfl,q⟩:=h;obtain ⟨u,w',rfl,⟨t,rfl⟩,⟨t',rfl⟩⟩:=vals2 r;refine max_two_ints (I.ok.hd hc) fun h' tk k=>⟨_,H,I.kept k,?_,q⟩
 by_cases hj:j > i
 ·rw [qL hj,qL hj];exact ⟨_,rfl⟩
 ·rw [qK hj,qK hj];exact ⟨_,rfl⟩
theorem call_min2 (hc:X.calm=true):jz X (.builtin "min") (fun xs H Q=>∃ i j,xs=[.int i,.int j]∧Q (.int (if j<i then j else i)) H):=by
 intro aR s σ H xs us Q I r h;obtain ⟨i,j,rfl,q⟩:=h;obtain ⟨u,w',rfl,⟨t,rfl⟩,⟨t',rfl⟩⟩:=vals2 r;refine min_two_ints (I.ok.hd hc) fun h' tk k=>⟨_,H,I.kept k,?_,q⟩
 by_cases hj:j<i
 ·rw [qL hj,qL hj];exact ⟨_,rfl⟩
 ·rw [qK hj,qK hj];exact ⟨_,rfl⟩
end
structure ObjM (h:bL)(x dx C:aq)(mA:Str→Option ae):Prop where
 obj:h.get? x=some (fS C dx)
 ns:h.Ns1 dx mA
 ne:dx≠x
theorem lookIn_ns (n:h.Ns1 dx mA):∃ od,h.get? dx=some od∧∀ name,PySem.W.lookIn name od=some (mA name):=by
 obtain ⟨o,es,ep,ho,hd,hk,_,hm⟩:=n;refine ⟨o,ho,fun name=>?_⟩;have e:=hm name;unfold nsFind findBy at e;rw [←Array.find?_toList] at e;unfold PySem.W.lookIn;rw [hd]
 dsimp only
 split
 ·rename_i y q
  rw [q] at e;exact qQ some e
 ·rename_i q
  rw [q] at e;have a:es.toList.any (·.refKey)=false:=by
   rw [jq];intro y hy;obtain ⟨z,t,hkey⟩:=hk y (Array.mem_toList_iff.mp hy);simp [DictEntry.refKey,hkey]
  have a':¬ es.toList.any (·.refKey)=true:=by rw [a];exact bo
  rw [qK a'];exact qQ some e
theorem ObjM.look {x:aq}(I:ObjM h x dx C mA):∃ od,PySem.W.InstAt h x (fS C dx) C (some od)∧∀ name,PySem.W.lookIn name od=some (mA name) :=
 let ⟨od,ho,hl⟩:=lookIn_ns I.ns
 ⟨od,⟨I.obj,rfl,rfl,ho⟩,hl⟩
section
variable {x:aq}{v:ae}
theorem get_map {expr:Bool}(X:K.In s.heap)(I:ObjM s.heap x dx C mA)(hg:jw K C name=true)(hh:PySem.W.hasDictIn K C=true)
  (ha:cH K (.ref C) name=some none) (hv:mA name=some v) (hv':PySem.W.handedIn v=true) (h:Q v { s with toks:=s.toks+1 }) :
  bf (bw prog w) A (getAttr (.ref x) name expr) Q E s:=by
 obtain ⟨od,J,hl⟩:=I.look;exact PySem.W.get_value X J (PySem.W.plainGet_of hg).1 (PySem.W.findObj_own hh ha rfl (by rw [hl,hv])) hv' h
theorem get_meth {pl:Sem Bool}{Q:ae×List ae→ax→Prop}(X:K.In s.heap)(I:ObjM s.heap x dx C mA)(hg:jw K C name=true)
  (hf:cH K (.ref C) name=some (some (.ref f))) (ht:PySem.W.isFn K (.ref f)=true) (hv:mA name=none) (h:Q (.ref f,[.ref x]) s) :
  bf (bw prog w) A (getMethod (.ref x) name pl) Q E s:=by
 obtain ⟨od,J,hl⟩:=I.look;exact PySem.W.method_fn X J (PySem.W.plainGet_of hg).1 (PySem.W.plainGet_of hg).2 hf (beq_iff_eq.mp ht) (by show (PySem.W.lookIn name od).map (·.isSome)=some false;rw [hl,hv];rfl) h
theorem set_map {ns:List Str}{Q:Unit→ax→Prop}(X:K.In s.heap)(I:ObjM s.heap x dx C mA)
  (hs:cH K (.ref C) "__setattr__" =some (some (.builtin "object.__setattr__"))) (hp:PySem.W.plainOver K C=true) (ht:PySem.W.takerIn K C name=some none) (hh:PySem.W.hasDictIn K C=true)
  (hw:PySem.Within mA ns) (hsz:ns.length≤aZ)
  (h:∀ h',ObjM h' x dx C (fun y=>if y=name then some v else mA y)→cx dx s.heap h'→Q () { s with heap:=h',toks:=s.toks+2 }) :
  bf (bw prog w) A (setAttr (.ref x) name v) Q E s:=by
 obtain ⟨od,J,hl⟩:=I.look;refine PySem.W.set_plain X J hs (PySem.W.osa_open (s:={ s with toks:=s.toks+1 }) (r:=none) X J hp ht fun b=>?_);obtain ⟨cd,hc,hd'⟩:=PySem.W.any_some hh;have hx:s.heap.get? x=some ⟨.ref C,some dx,.plain,#[]⟩:=I.obj;refine ak (aV (ak (ak (wpAny_loadPart hx (ak (PySem.W.Looks.here (s:={ s with toks:=s.toks+1 }) (PySem.W.looks_clsIn X hc) ?_))))));rw [hd'];refine aV (a:=some dx) (ak (aV (ak ?_)));refine wpAny_nsSet1 (s:={ s with toks:=s.toks+1 }) I.ns fun h' hn2 hs2=>?_
 obtain ⟨oD,esD,epD,hoD,hdD,hcD⟩:=hn2.count (PySem.Within.cons name v hw);refine ak (wpAny_lookBehind hoD (by rw [hdD];exact pastItsLine_dict (aM hcD (by rw [aN];lia))) ?_);exact aV (h _ ⟨(hs2.2 _ (dB I.ne)).trans I.obj,hn2,I.ne⟩ hs2)
theorem make_map {R:Result→ax→Prop}(X:K.In s.heap)(hm:PySem.W.makesIn K C=true)
  (hi:cH K (.ref C) "__init__" =some (some (.ref f))) (hf:PySem.W.typeIn K (.ref f)=some (.type "function"))
  (h:codeAny (bw prog w) (A.under (.builtin "type.__call__" ⟨.ref C::vs,kw⟩)) (.call (.ref f) ⟨.ref (s.heap.objs.size+1)::vs,kw⟩) (PySem.W.InitBack (s.heap.objs.size+1) R)
   {s with heap:=(s.heap.push eN).push (fS C s.heap.objs.size) }) :
  codeAny (bw prog w) A (.call (.ref C) ⟨vs,kw⟩) R s:=by
 obtain ⟨hh,g,d,t,os⟩:=s;exact PySem.W.make_core (PySem.W.makes_of X hm) (PySem.W.looks_findIn X hi) (fun self=>PySem.W.bind_fn X self hf) (.inl rfl) h
end
def mN (f:Str)(v:V):List (Str×V)→List (Str×V)
 | []=>[(f,v)]
 | (g,x)::r=>if g=f then (g,v)::r else (g,x)::mN f v r
theorem pq (f g:Str)(v:V):∀ fs:List (Str×V),(mN f v fs).lookup g=if g=f then some v else fs.lookup g
 | []=>by
  show eG g [(f,v)]=_
  by_cases h:g=f
  ·have hb:(g == f)=true:=beq_iff_eq.mpr h
   simp only [eG,hb,qL h]
  ·have hb:(g == f)=false:=beq_eq_false_iff_ne.mpr h
   simp only [eG,hb,qK h]
 | (k,x)::r=>by
  have ih:=pq f g v r;rw [show mN f v ((k,x)::r)=(if k=f then (k,v)::r else (k,x)::mN f v r) from rfl]
  by_cases hk:k=f
  ·rw [qL hk]
   by_cases h:g=k
   ·have hb:(g == k)=true:=beq_iff_eq.mpr h
    simp only [eG,hb,qL (h.trans hk)]
   ·have hb:(g == k)=false:=beq_eq_false_iff_ne.mpr h
    simp only [eG,hb,qK (fun e:g=f=>h (e.trans hk.symm))]
  ·rw [qK hk]
   by_cases h:g=k
   ·have hb:(g == k)=true:=beq_iff_eq.mpr h
    simp only [eG,hb,qK (fun e:g=f=>hk (h.symm.trans e))]
   ·have hb:(g == k)=false:=beq_eq_false_iff_ne.mpr h
    simp only [eG,hb];exact ih
theorem pB (f:Str)(v:V):∀ fs:List (Str×V),f∈(mN f v fs).map (·.1)∧∀ g,g∈fs.map (·.1)→g∈(mN f v fs).map (·.1)
 | []=>⟨by simp [mN],fun g h=>by simp at h⟩
 | (k,x)::r=>by
  obtain ⟨i1,i2⟩:=pB f v r;rw [show mN f v ((k,x)::r)=(if k=f then (k,v)::r else (k,x)::mN f v r) from rfl]
  by_cases hk:k=f
  ·rw [qL hk]
   subst hk;exact ⟨by simp,fun g h=>by simpa using h⟩
  ·rw [qK hk]
   refine ⟨?_,fun g h=>?_⟩
   ·rw [bR]
    exact az _ i1
   ·rw [bR] at h ⊢
    rcases aI.mp h with e | e
    ·exact aI.mpr (.inl e)
    ·exact az _ (i2 g e)
theorem pA (f:Str)(v:V):∀ fs:List (Str×V),(mN f v fs).length≤fs.length+1
 | []=>by simp [mN]
 | (k,x)::r=>by
  have ih:=pA f v r;rw [show mN f v ((k,x)::r)=(if k=f then (k,v)::r else (k,x)::mN f v r) from rfl]
  by_cases hk:k=f
  ·rw [qL hk,aN,aN];lia
  ·rw [qK hk,aN,aN];lia
theorem RelO.some_of {o:Option ae}(r:RelO (some v) o):∃ u,o=some u∧gI v u:=by
 cases o with
 | none=>exact (show False from r).elim
 | some u=>exact ⟨u,rfl,r⟩
theorem RelO.none_of {o:Option ae}(r:RelO none o):o=none:=by
 cases o with
 | none=>rfl
 | some u=>exact (show False from r).elim
theorem handed_of (r:gI v u):PySem.W.handedIn u=true:=by
 cases v with
 | non=>cases (show u=ae.none from r);rfl
 | bl b=>cases (show u=ae.bool b from r);rfl
 | int i=>obtain ⟨t,e⟩:=(show ∃ t,u=ae.int i t from r);cases e;rfl
 | str x=>obtain ⟨t,e⟩:=(show ∃ t,u=ae.str x t from r);cases e;rfl
 | byt b=>obtain ⟨t,e⟩:=(show ∃ t,u=ae.bytes b t from r);cases e;rfl
 | flt b=>obtain ⟨t,e⟩:=(show ∃ t,u=ae.float b t from r);cases e;rfl
 | ref a=>cases (show u=ae.ref a from r);rfl
 | ty n=>cases (show u=ae.type n from r);rfl
section
variable {fs fs':List (Str×V)}
theorem ins_get (hok:HOk P w H h)(e:H a=some (.ins C dx fs)):∃ mA,ObjM h a dx C mA∧(∀ f,RelO (fs.lookup f) (mA f))∧PySem.Within mA (fs.map (·.1))∧fs.length≤1000∧H dx=some (.own a):=by
 obtain ⟨d,z,ne,ob,mA,n,r,q⟩:=(show i4 P w H h a (.ins C dx fs) from hok a _ e);exact ⟨mA,⟨ob,n,ne⟩,r,q,z,d⟩
end
structure Cls (K:au)(C:aq):Prop where
 pg:jw K C Str.empty=true
 hd:PySem.W.hasDictIn K C=true
 po:PySem.W.plainOver K C=true
 sa:cH K (.ref C) "__setattr__" =some (some (.builtin "object.__setattr__"))
theorem Cls.get (c:Cls K C)(f:Str):jw K C f=true:=c.pg
def nI (K:au)(C:aq)(f:Str):Prop:=cH K (.ref C) f=some none
theorem nI.taker {f:Str}(n:nI K C f):PySem.W.takerIn K C f=some none:=by
 unfold PySem.W.takerIn;rw [show cH K (.ref C) f=some none from n];rfl
structure Meth (K:au)(C:aq)(m:Str)(f:aq):Prop where
 at_:cH K (.ref C) m=some (some (.ref f))
 fn:PySem.W.isFn K (.ref f)=true
 kp:eM K (.ref f)=true
section
variable {fs:List (Str×V)}{f:Str}
theorem getattr_ok {b:Bool}(I:Inv X aR σ H s)(e:H a=some (.ins C dx fs))(c:Cls X.K C)(n:nI X.K C f)(l:fs.lookup f=some v)
  (h:∀ u s',Inv X aR σ H s'→gI v u→Q u s'):bf (bw X.prog X.w) A (getAttr (.ref a) f b) Q E s:=by
 obtain ⟨mA,O,r,_,_,_⟩:=ins_get I.hok e;obtain ⟨u,hu,ru⟩:=RelO.some_of (v:=v) (o:=mA f) (by rw [←l];exact r f);exact get_map I.kIn O (c.get f) c.hd n hu (handed_of ru) (h u _ (I.tok _) ru)
theorem getmeth_ok {m:Str}{g:aq}{pl:Sem Bool}{Q:ae×List ae→ax→Prop}(I:Inv X aR σ H s)(e:H a=some (.ins C dx fs))(c:Cls X.K C)(k:Meth X.K C m g)(l:fs.lookup m=none)
  (h:Q (.ref g,[.ref a]) s):bf (bw X.prog X.w) A (getMethod (.ref a) m pl) Q E s:=by
 obtain ⟨mA,O,r,_,_,_⟩:=ins_get I.hok e;have hn:mA m=none:=RelO.none_of (by rw [←l];exact r m);exact get_meth I.kIn O (c.get m) k.at_ k.fn hn h
theorem setattr_ok {y:V}{Q:Unit→ax→Prop}(I:Inv X aR σ H s)(e:H a=some (.ins C dx fs))(c:Cls X.K C)(n:nI X.K C f)(hl:fs.length<1000)(ry:gI y u)
  (h:∀ s',Inv X aR σ (upd H a (.ins C dx (mN f y fs))) s'→Q () s'):bf (bw X.prog X.w) A (setAttr (.ref a) f u) Q E s:=by
 obtain ⟨mA,O,r,wi,_,ho⟩:=ins_get I.hok e;have hz:(fs.map (·.1)).length≤aZ:=by rw [aa,fR];lia
 refine set_map I.kIn O c.sa c.po n.taker c.hd wi hz fun h' O' sb=>h _ ?_
 have hd:∃ o,h'.get? dx=some o:=let ⟨o,_,_,e',_⟩:=O'.ns;⟨o,e'⟩;refine I.write (x:=a) (e:=dx) (by rw [e];exact True.intro) (.inr ho) (fun b q hb z=>(sb.2 b hb).trans z) hd ?_;refine ⟨by rw [br O.ne];exact ho,?_,O.ne,O'.obj,_,O'.ns,fun g=>?_,fun g hg=>?_⟩
 ·have:=pA f y fs;lia
 ·show RelO ((mN f y fs).lookup g) (if g=f then some u else mA g)
  rw [pq]
  by_cases q:g=f
  ·rw [qL q,qL q];exact ry
  ·rw [qK q,qK q];exact r g
 ·by_cases q:g=f
  ·rw [q];exact (pB f y fs).1
  ·refine (pB f y fs).2 g (wi g fun z=>hg ?_)
   show (if g=f then some u else mA g)=none;rw [qK q];exact z
theorem Inv.made (I:Inv X aR σ H s):Inv X aR σ (upd (upd H s.heap.objs.size (.own (s.heap.objs.size+1))) (s.heap.objs.size+1) (.ins C s.heap.objs.size []))
  {s with heap:=(s.heap.push eN).push (fS C s.heap.objs.size) }:=by
 have e1:(s.heap.push eN).get? s.heap.objs.size=some eN:=aX s.heap rfl;have e2:((s.heap.push eN).push (fS C s.heap.objs.size)).get? (s.heap.objs.size+1)=some (fS C s.heap.objs.size):=by
  have:=aX (s.heap.push eN) (o:=fS C s.heap.objs.size) rfl
  rwa [d8] at this
 have e3:(s.heap.push eN).Ns s.heap.objs.size (fun _=>none):=⟨eN,#[],_,e1,rfl,(fun e he=>qM he (by simp)),fun _=>rfl⟩;have I1:=I.laid (a:=s.heap.objs.size) (o:= .own (s.heap.objs.size+1)) (h':=s.heap.push eN) (t':=s.toks) (fun b u q=>aw _ q) (aA _) ⟨_,e1⟩;refine I1.laid (a:=s.heap.objs.size+1) (o:= .ins C s.heap.objs.size []) (t':=s.toks) (fun b u q=>aw _ q) (Nat.le_of_eq (d8 _ _)) ?_;have ne:s.heap.objs.size≠s.heap.objs.size+1:=bI (iK _);refine ⟨by rw [br ne,aQ],bg _,ne,e2,fun _=>none,(bL.Ns1.of_empty e3).at fun o q=>aw _ q,fun _=>True.intro,fun y hy=>qM rfl hy⟩
theorem attr_of {f:Str}(hb:kg e f env (eK e env)=eK e env)
  (h:bf (bw prog w) A (eK e env) (fun o s₁=>bf (bw prog w) A (getAttr o f true) Q E s₁) E s):bf (bw prog w) A (eK (.Attribute e f pos) env) Q E s :=
 Attribute_any_ h (by rw [arm_eval_Attribute,hb])
end
def tFld (K:au)(ta:TE)(f:Str):TE:=fun σ H Q=>ta σ H fun x H1=>∃ a C dx fs v,x= .ref a∧H1 a=some (.ins C dx fs)∧Cls K C∧nI K C f∧fs.lookup f=some v∧Q v H1
def sFld (K:au)(ta tv:TE)(f:Str):TS:=fun D σ H=>tv σ H fun y H1=>ta σ H1 fun x H2=>∃ a C dx fs,x= .ref a∧H2 a=some (.ins C dx fs)∧Cls K C∧nI K C f∧fs.length<1000 ∧
 D.nx σ (upd H2 a (.ins C dx (mN f y fs)))
section
variable {o:Expr}{f:Str}{tpos:Pos}{tv:TE}
theorem pe_fld (he:PE X e ta)(hb:kg e f X.env (eK e X.env)=eK e X.env):PE X (.Attribute e f pos) (tFld X.K ta f):=by
 intro aR s σ H Q I h;refine attr_of hb (thn (he aR s σ H _ I h) fun u s1 ⟨x,H1,I1,rx,a,C,dx,fs,v,ex,ea,c,n,l,q⟩=>?_);subst ex;obtain rfl:u=ae.ref a:=rx;exact getattr_ok I1 ea c n l fun u' s2 I2 ru=>⟨v,H1,I2,ru,q⟩
theorem ps_fld (ha:PE X o ta)(hv:PE X value tv)(hs:swapsWith value (some (.Attribute o f pos')) pos.line X.env=fU false):PS X (.Assign [.Attribute o f pos'] value pos) (sFld X.K ta tv f):=by
 intro aR s σ H D I h;refine plainObj_wpAny_Assign_Attribute (thn (hv aR s σ H _ I h) fun u s1 ⟨y,H1,I1,ry,q⟩=>thn (ha aR s1 σ H1 _ I1 q) fun ov s2 ⟨x,H2,I2,rx,a,C,dx,fs,ex,ea,c,n,l,q2⟩=>?_) hs;subst ex;obtain rfl:ov=ae.ref a:=rx;exact setattr_ok I2 ea c n l ry fun s3 I3=>⟨σ,_,I3,q2⟩
end
section
variable {c:ae}{b:Bool}
inductive TyOf (K:au)(H:Hp):V→ae→Prop where
 | non:TyOf K H .non (.type "NoneType")
 | bl (x:Bool):TyOf K H (.bl x) (.type "bool")
 | int (i:Int):TyOf K H (.int i) (.type "int")
 | str (x:Str):TyOf K H (.str x) (.type "str")
 | flt (x:UInt64):TyOf K H (.flt x) (.type "float")
 | lst {a:aq} {xs:List V} (e:H a=some (.lst xs)):TyOf K H (.ref a) (.type "list")
 | frz {a:aq} {o:Obj} {xs:List V} (e:H a=some (.frz o (.lst xs))):TyOf K H (.ref a) (.type "list")
 | tup {a:aq} {xs:List V} (e:H a=some (.tup xs)):TyOf K H (.ref a) (.type "tuple")
 | dK {a:aq} {kvs:List (Key×V)} (e:H a=some (.dK kvs)):TyOf K H (.ref a) (.type "dict")
 | dT {a:aq} {kvs:List (List Key×V)} (e:H a=some (.dT kvs)):TyOf K H (.ref a) (.type "dict")
 | ins {a C dx:aq} {fs:List (Str×V)} (e:H a=some (.ins C dx fs)) (cl:Cls K C) (ha:cH K (.ref C) "__class__" =some (some (.builtin "object.__class__")))
   (hn:PySem.W.specialIn K (.builtin "object.__class__") "__get__" =some (some (.builtin "getset_descriptor.__get__"))) (htk:PySem.W.takesIn K (.builtin "object.__class__")=some true)
   (hm:PySem.W.mroIn K C (.type "object")=some true):TyOf K H (.ref a) (.ref C)
theorem isinst_ok {x:V}{t:ae}(I:Inv X aR σ H s)(rx:gI x u)(ty:TyOf X.K H x t)(e:i6 X.K t c=some b)(h:∀ tk,Q (.bool b) { s with toks:=tk }) :
  bf (bw X.prog X.w) A (call (.builtin "isinstance") [u,c]) Q E s:=by
 cases ty with
 | non=>cases (show u=ae.none from rx);exact dY PySem.W.kitx_none I.kIn True.intro e (fun z=>nomatch z) h
 | bl y=>cases (show u=ae.bool y from rx);exact dY PySem.W.kitx_bool I.kIn True.intro e (fun z=>nomatch z) h
 | int i=>obtain ⟨t,q⟩:=(show ∃ t,u=ae.int i t from rx);cases q;exact dY PySem.W.kitx_int I.kIn True.intro e (fun z=>nomatch z) h
 | str y=>obtain ⟨t,q⟩:=(show ∃ t,u=ae.str y t from rx);cases q;exact dY PySem.W.kitx_str I.kIn True.intro e (fun z=>nomatch z) h
 | flt y=>obtain ⟨t,q⟩:=(show ∃ t,u=ae.float y t from rx);cases q;exact dY PySem.W.kitx_float I.kIn True.intro e (fun z=>nomatch z) h
 | @lst a xs ea =>
  cases (show u=ae.ref a from rx);obtain ⟨_,_,n,_,h1⟩:=(show i4 X.prog X.w H s.heap a (.lst xs) from I.hok a _ ea);exact dY PySem.W.kitx_list I.kIn ⟨_,h1,rfl⟩ e (fun z=>nomatch z) h
 | @frz a ob xs ea =>
  cases (show u=ae.ref a from rx);obtain ⟨_,_,_,n,_,h1⟩:=(show i4 X.prog X.w H s.heap a (.frz ob (.lst xs)) from I.hok a _ ea);exact dY PySem.W.kitx_list I.kIn ⟨_,h1,rfl⟩ e (fun z=>nomatch z) h
 | @tup a xs ea =>
  cases (show u=ae.ref a from rx);obtain ⟨_,_,_,p⟩:=(show i4 X.prog X.w H s.heap a (.tup xs) from I.hok a _ ea);obtain ⟨o,h1,h2,_⟩:=p;exact dY PySem.W.kitx_tuple I.kIn ⟨o,h1,h2⟩ e (fun z=>nomatch z) h
 | @dK a kvs ea =>
  cases (show u=ae.ref a from rx);obtain ⟨_,_,vs,_,p⟩:=(show i4 X.prog X.w H s.heap a (.dK kvs) from I.hok a _ ea);obtain ⟨o,es,ep,h1,h2,_⟩:=p;exact dY PySem.W.kitx_dict I.kIn ⟨o,h1,h2.1⟩ e (fun z=>nomatch z) h
 | @dT a kvs ea =>
  cases (show u=ae.ref a from rx);obtain ⟨_,_,xs,_,o,es,ep,h1,h2,_⟩:=(show i4 X.prog X.w H s.heap a (.dT kvs) from I.hok a _ ea);exact dY PySem.W.kitx_dict I.kIn ⟨o,h1,h2.1⟩ e (fun z=>nomatch z) h
 | @ins a C dx fs ea cl ha hn htk hm =>
  cases (show u=ae.ref a from rx);obtain ⟨mA,O,_⟩:=ins_get I.hok ea;obtain ⟨od,J,_⟩:=O.look;exact dY (PySem.W.kitx_own (cl.get _) cl.hd ha hn htk hm) I.kIn J e (fun z=>nomatch z) h
end
structure gN (k:Nat)(A:bW):Prop where
 hd:A.handled=none
 dp:A.depth+3 * k+5<recursionLimit
 un:A.units+16 * k+200<cLine
theorem gN.mono {k:Nat}(r:gN k A)(h:j≤k):gN j A:=⟨r.hd,by have:=r.dp;lia,by have:=r.un;lia⟩
theorem gN.deeper {k:Nat}(r:gN (k+1) A)(env:Env):gN k (A.deeper env) :=
 ⟨r.hd,by have:=r.dp;show A.depth+1+3 * k+5<_;lia,by have:=r.un;show A.units+3+16 * k+200<_;lia⟩
theorem gN.in1 {k:Nat}(r:gN (k+1) A):gN k A.in1 :=
 ⟨r.hd,by have:=r.dp;show A.depth+3 * k+5<_;lia,by have:=r.un;show A.units+1+16 * k+200<_;lia⟩
theorem make_depth:(A.under (.builtin "type.__call__" ⟨.ref C::us,kw⟩)).depth=A.depth+1:=by
 first | rfl | simp [bW.under,Code.weight,Code.isCreation,Code.isGuard,Code.isCaller,Code.frames,Code.isFrame,guardIds]
theorem make_units:(A.under (.builtin "type.__call__" ⟨.ref C::us,kw⟩)).units=A.units+1:=by
 first | rfl | simp [bW.under,Code.cUnits,Code.frames,Code.isFrame]
theorem gN.make {k:Nat}(r:gN (k+1) A)(C:aq)(us:List ae)(kw:List (Str×ae)):gN k (A.under (.builtin "type.__call__" ⟨.ref C::us,kw⟩)) :=
 ⟨r.hd,by have:=r.dp;rw [make_depth];lia,by have:=r.un;rw [make_units];lia⟩
theorem gN.depth {k:Nat}(r:gN k A):A.depth<recursionLimit:=by have:=r.dp;lia
theorem gN.units {k:Nat}(r:gN k A):A.units+64<cLine:=by have:=r.un;lia
theorem gN.units0 {k:Nat}(r:gN k A):A.units<cLine:=by have:=r.un;lia
def tNil:TA:=fun _ H Q=>Q [] H
def nM (ta:TE)(tr:TA):TA:=fun σ H Q=>ta σ H fun x H1=>tr σ H1 fun xs H2=>Q (x::xs) H2
theorem aD:PA X [] tNil:=fun _ _ _ _ H Q I h=>Calls.spliced_nil ⟨[],H,I,.nil,h⟩
theorem af (ha:PE X e te)(hr:PA X es t)(hs:bB (e::es) X.env=(false,eK e X.env)::bB es X.env:=by rfl):PA X (e::es) (nM te t):=by
 intro pos aR s σ H Q I h;rw [hs];show bf _ _ (spliced ((false,eK e X.env)::fP pos (bB es X.env))) _ _ s;refine Calls.spliced_cons (thn (ha aR s σ H _ I h) fun u s1 ⟨x,H1,I1,r1,q1⟩=>?_);exact thn (hr pos aR s1 σ H1 _ I1 q1) fun us s2 ⟨xs,H2,I2,r2,q2⟩=>⟨x::xs,H2,I2,.cons r1 r2,q2⟩
def tTup (t:TA):TE:=fun σ H Q=>t σ H fun xs H1=>xs.length≤aZ∧∀ p,H1 p=none→Q (.ref p) (upd H1 p (.tup xs))
def tLst (t:TA):TE:=fun σ H Q=>t σ H fun xs H1=>xs.length≤aZ∧∀ p,H1 p=none→Q (.ref p) (upd H1 p (.lst xs))
theorem pe_tup {x1}(h:PA X es t):PE X (.Tuple es x1 pos) (tTup t):=by
 intro aR s σ H Q I hq;refine wpAny_Tuple_spliced (thn (h pos aR s σ H _ I hq) fun us s1 ⟨xs,H1,I1,r,z,q⟩=>⟨by rw [←r.length];exact z,?_⟩);have hf:H1 s1.heap.objs.size=none:=I1.hok.fresh (aA _);refine ⟨.ref s1.heap.objs.size,upd H1 s1.heap.objs.size (.tup xs),I1.laid (t':=s1.toks) (fun b u e=>aw _ e) (aA _) ?_,rfl,q _ hf⟩;exact ⟨z,us,r,⟨_,aX _ rfl,rfl,rfl,_,rfl⟩⟩
theorem iQ (h:PA X es t):PE X (.List es pos) (tLst t):=by
 intro aR s σ H Q I hq;refine wpAny_List_spliced (thn (h pos aR s σ H _ I hq) fun us s1 ⟨xs,H1,I1,r,z,q⟩=>⟨by rw [←r.length];exact z,?_⟩);have hf:H1 s1.heap.objs.size=none:=I1.hok.fresh (aA _);refine ⟨.ref s1.heap.objs.size,upd H1 s1.heap.objs.size (.lst xs),I1.laid (t':=s1.toks) (fun b u e=>aw _ e) (aA _) ?_,rfl,q _ hf⟩;exact ⟨z,us,0,r,aX _ rfl⟩
abbrev Sp:=List V→Hp→VK→XK→Prop
abbrev CXT:=List Env→Hp→ax→XK→ae→ax→Prop
structure Env0 (P:aW)(w:bx)(K:au)(mg:Str→Option ae)(base:bL)(A:bW)(outer:List Env)(s:ax)(H:Hp):Prop where
 frames:A.frames=some outer
 mod:Mod K mg base
 bs:∀ b o,base.get? b=some o→s.heap.get? b=some o∧H b=none
 bsz:base.objs.size≤s.heap.objs.size
 funs:s.heap.FunFrames base outer
 frf:∀ b∈frs outer,H b=none
 hok:HOk P w H s.heap
 bare:AllBare s.gens
def CE (outer:List Env)(P:aW)(w:bx)(H:Hp)(s:ax)(Q:VK)(u:ae)(s':ax):Prop :=
 ∃ v H',s'.os=s.os∧AllBare s'.gens∧Un (frs outer) [] H H' s.heap s'.heap∧HOk P w H' s'.heap∧gI v u∧Q v H'
def CR (CX:CXT)(outer:List Env)(P:aW)(w:bx)(H:Hp)(s:ax)(Q:VK)(E:XK)(r:Result)(s':ax):Prop :=
 match r with
 | .ok (.ret u)=>CE outer P w H s Q u s'
 | .ok _=>False
 | .error e=>CX outer H s E e s'
structure cM (P:aW)(w:bx)(K:au)(mg:Str→Option ae)(base:bL)(CX:CXT)(k:Nat)(f:aq)(fd:bp)(ps:List Str)(sp:Sp):Prop where
 len:∀ vs H Q E,sp vs H Q E→vs.length=ps.length
 run:∀ (A:bW) (outer:List Env) (s:ax) (H:Hp) (args:Args) (us:List ae) (vs:List V) (Q:VK) (E:XK),gN k A→Env0 P w K mg base A outer s H→BindsTo s fd args (ps.zip us)→gi vs us→sp vs H Q E →
  codeAny (bw P w) A (.call (.ref f) args) (CR CX outer P w H s Q E) s
theorem Env0.make (e:Env0 P w K mg base A outer s H)(C:aq)(us:List ae)(kw:List (Str×ae)) :
  Env0 P w K mg base (A.under (.builtin "type.__call__" ⟨.ref C::us,kw⟩)) outer s H:=⟨by first | exact e.frames | (simpa [bW.under,Code.envs,Code.isFrame,pushEnvs] using e.frames),e.mod,e.bs,e.bsz,e.funs,e.frf,e.hok,e.bare⟩
theorem Inv.env0 (I:Inv X aR σ H s):Env0 X.prog X.w X.K X.mg X.base X.A X.stack s H :=
 ⟨I.ok.frames,I.ok.mod,I.bs,aM I.ok.bsz I.sz,I.stack,I.stkFree,I.hok,I.bare⟩
theorem Inv.after {Q:VK}(I:Inv X aR σ H s)(h:CE X.stack X.prog X.w H s Q u s'):EP X aR σ Q u s':=by
 obtain ⟨v,H',os,bare,un,hok,r,q⟩:=h;obtain ⟨hh,g,d,t,os'⟩:=s';obtain rfl:os'=s.os:=os;exact ⟨v,H',I.call (h':=hh) (g':=g) (d':=d) (t':=t) (ch:=[]) un hok bare (fun b z=>qM z (by simp)),r,q⟩
def tCall (sp:Sp)(dvs:List V)(E:XK)(t:TA):TE:=fun σ H Q=>t σ H fun vs H1=>sp (vs++dvs) H1 Q E
def tMeth (C:aq)(m:Str)(sp:Sp)(dvs:List V)(E:XK)(ta:TE)(t:TA):TE:=fun σ H Q=>ta σ H fun x H1=>∃ a dx fs,x= .ref a∧H1 a=some (.ins C dx fs)∧fs.lookup m=none ∧
 t σ H1 fun vs H2=>sp (x::(vs++dvs)) H2 Q E
def tMake (C:aq)(sp:Sp)(dvs:List V)(E:XK)(t:TA):TE:=fun σ H Q=>t σ H fun vs H1=>∀ x dx,H1 x=none→H1 dx=none→dx≠x →
 sp (.ref x::(vs++dvs)) (upd (upd H1 dx (.own x)) x (.ins C dx [])) (fun v H2=>v= .non∧Q (.ref x) H2) E
def n4 (K:au)(fd:bp)(ps:List Str)(ds:List ae):Prop :=
 ∀ (s:ax) (us:List ae),K.In s.heap→(us++ds).length=ps.length→BindsTo s fd ⟨us,[]⟩ (ps.zip (us++ds))
theorem n4.all (h:∀ us:List ae,us.length=ps.length→bindArgs fd ⟨us,[]⟩=fU (ps.zip us)):n4 K fd ps []:=fun s us _ hl=>by
 rw [de] at hl ⊢;exact .of_eq (h us hl)
def qH (CX:CXT)(X:Cx)(E:XK):Prop:=∀ (aR:List (aq×Obj)) (σ:St) (H:Hp) (s:ax) (e:ae) (s':ax),Inv X aR σ H s→CX X.stack H s E e s'→X.xe e s'
section
variable {CX:CXT}{k:Nat}{sp:Sp}{dvs:List V}{ds:List ae}{E:XK}{m:Str}{p:Pos}{o:Expr}
theorem run_fn {Q:VK}{vs:List V}(F:cM X.prog X.w X.K X.mg X.base CX k f fd ps sp)(hr:gN k X.A)(hb:n4 X.K fd ps ds)(hd:gi dvs ds)(hx:qH CX X E)
  (I:Inv X aR σ H s) (r:gi vs us) (h:sp (vs++dvs) H Q E):bf (bw X.prog X.w) X.A (call (.ref f) us) (EP X aR σ Q) X.xe s:=by
 have r2:gi (vs++dvs) (us++ds):=r.append hd;have hl:(us++ds).length=ps.length:=by rw [←r2.length];exact F.len _ _ _ _ h
 refine wpAny_call (codeAny_mono (F.run X.A X.stack s H ⟨us,[]⟩ (us++ds) (vs++dvs) Q E hr I.env0 (hb s us I.kIn hl) r2 h) fun r s' hq=>?_);cases r with
 | error e=>exact hx aR σ H s e s' I hq
 | ok fl =>
  cases fl with
  | ret u=>exact I.after hq
  | next=>exact cR hq
  | brk=>exact cR hq
  | cont=>exact cR hq
theorem pe_call (F:cM X.prog X.w X.K X.mg X.base CX k f fd ps sp)(hr:gN k X.A)(hg:Gl X x)(hm:X.mg x=some (.ref f))(hk:eM X.K (.ref f)=true)(hb:n4 X.K fd ps ds)(hd:gi dvs ds)(hx:qH CX X E)
  (ha:PA X (e::es) t) (hdb:(x == ("__debug__" :Str))=false:=by decide) (he:bB (e::es) X.env=(false,eK e X.env)::bB es X.env:=by rfl) (hpl:(fP pos (bB es X.env)).any (·.1)=false:=by rfl) :
  PE X (.Call (.Name x p) (e::es) [] pos) (tCall sp dvs E t):=by
 intro aR s σ H Q I h;refine fA (ld_glob I hg hm ?_ hdb);refine j8 (h₀:=X.base) I.ok.mod.kin hk (thn (ha pos aR s σ H _ I h) fun us s1 ⟨vs,H1,I1,r,q⟩=>⟨I1.kIn,?_⟩) he hpl;exact run_fn F hr hb hd hx I1 r q
theorem pe_meth {pl:Sem Bool}(he:PE X o ta)(c:Cls X.K C)(hm:Meth X.K C m f)(F:cM X.prog X.w X.K X.mg X.base CX k f fd ps sp)(hr:gN k X.A)(hb:n4 X.K fd ps ds)(hd:gi dvs ds)(hx:qH CX X E)(ha:PA X (e::es) t)
  (hst:bB (e::es) X.env=(false,eK e X.env)::bB es X.env:=by rfl) (hpl:(fP pos (bB es X.env)).any (·.1)=false:=by rfl)
  (ht:eK (.Call (.Attribute o m apos) (e::es) [] pos) X.env=(do
   let ov ← eK o X.env
   standAt apos.atName
   let (f,first) ← holding [ov] (getMethod ov m pl)
   callWith pos f first (fP pos (bB (e::es) X.env)) (backToKw pos (keywordEach [] X.env))):=by rfl) :
  PE X (.Call (.Attribute o m apos) (e::es) [] pos) (tMeth C m sp dvs E ta t):=by
 intro aR s σ H Q I h;refine PySem.W.methodCall_KW (pl:=pl) (thn (he aR s σ H _ I h) fun u s1 ⟨x,H1,I1,rx,a,dx,fs,ex,ea,l,q⟩=>?_) ht;subst ex;obtain rfl:u=ae.ref a:=rx;refine getmeth_ok I1 ea c hm l ?_;refine j8 (first:=[.ref a]) (h₀:=X.base) I.ok.mod.kin hm.kp (thn (ha pos aR s1 σ H1 _ I1 q) fun us s2 ⟨vs,H2,I2,r,q2⟩=>⟨I2.kIn,?_⟩) hst hpl;exact run_fn (us:= .ref a::us) (vs:= .ref a::vs) F hr hb hd hx I2 (.cons rfl r) q2
structure Mk (K:au)(C f:aq):Prop where
 makes:PySem.W.makesIn K C=true
 init:cH K (.ref C) "__init__" =some (some (.ref f))
 fn:PySem.W.isFn K (.ref f)=true
 kp:eM K (.ref C)=true
theorem run_make {Q:VK}{vs:List V}(M:Mk X.K C f)(F:cM X.prog X.w X.K X.mg X.base CX k f fd ps sp)(hr:gN (k+1) X.A)(hb:n4 X.K fd ps ds)(hd:gi dvs ds)
  (hx:qH CX X E) (I:Inv X aR σ H s) (r:gi vs us)
  (h:∀ x dx,H x=none→H dx=none→dx≠x→sp (.ref x::(vs++dvs)) (upd (upd H dx (.own x)) x (.ins C dx [])) (fun v H2=>v= .non∧Q (.ref x) H2) E) :
  bf (bw X.prog X.w) X.A (call (.ref C) us) (EP X aR σ Q) X.xe s:=by
 have hq:=h (s.heap.objs.size+1) s.heap.objs.size (I.hok.fresh (Nat.le_succ _)) (I.hok.fresh (aA _)) (bI (iK _));have I2:=Inv.made (C:=C) I;have r2:gi (V.ref (s.heap.objs.size+1)::(vs++dvs)) (ae.ref (s.heap.objs.size+1)::(us++ds)):= .cons rfl (r.append hd);have hl:(ae.ref (s.heap.objs.size+1)::us++ds).length=ps.length:=by
  have e:=r2.length;rw [F.len _ _ _ _ hq] at e;exact e.symm
 refine wpAny_call (make_map (f:=f) I.kIn M.makes M.init (beq_iff_eq.mp M.fn) (codeAny_mono (F.run _ X.stack _ _ ⟨ae.ref (s.heap.objs.size+1)::us,[]⟩ (ae.ref (s.heap.objs.size+1)::(us++ds)) _ _ E (hr.make C us [])
  (I2.env0.make C us []) (hb _ (ae.ref (s.heap.objs.size+1)::us) I2.kIn hl) r2 hq) fun r s' hq'=>?_))
 cases r with
 | error e=>exact hx aR σ _ _ e s' I2 hq'
 | ok fl =>
  cases fl with
  | ret u =>
   obtain ⟨v,H',I3,rv,ev,q3⟩:=I2.after hq';subst ev;exact ⟨rv,⟨V.ref (s.heap.objs.size+1),H',I3,rfl,q3⟩⟩
  | next=>exact cR hq'
  | brk=>exact cR hq'
  | cont=>exact cR hq'
theorem pe_make (M:Mk X.K C f)(F:cM X.prog X.w X.K X.mg X.base CX k f fd ps sp)(hr:gN (k+1) X.A)(hg:Gl X x)(hm:X.mg x=some (.ref C))(hb:n4 X.K fd ps ds)(hd:gi dvs ds)(hx:qH CX X E)
  (ha:PA X (e::es) t) (hdb:(x == ("__debug__" :Str))=false:=by decide) (he:bB (e::es) X.env=(false,eK e X.env)::bB es X.env:=by rfl) (hpl:(fP pos (bB es X.env)).any (·.1)=false:=by rfl) :
  PE X (.Call (.Name x p) (e::es) [] pos) (tMake C sp dvs E t):=by
 intro aR s σ H Q I h;refine fA (ld_glob I hg hm ?_ hdb);refine j8 (h₀:=X.base) I.ok.mod.kin M.kp (thn (ha pos aR s σ H _ I h) fun us s1 ⟨vs,H1,I1,r,q⟩=>⟨I1.kIn,?_⟩) he hpl;exact run_make M F hr hb hd hx I1 r q
end
structure bY (N P:List Str)(sc:fO):Prop where
 kind:sc.kind= .function
 co:sc.isCoroutine=false
 gen:sc.isGenerator=false
 nd:N.Nodup
 pre:N.take P.length=P
 par:∀ x∈P,sc.names.lookup x=some .local∨sc.names.lookup x=some .cell
 nofree:∀ y∈sc.names,y.2≠ .free
theorem bindL_out {kindOf:Str→Option cL}{x:Str}:∀ {binds:List (Str×ae)} {m:Str→Option ae},(∀ v,(x,v) ∉ binds)→bindL kindOf binds m x=m x
 | [],_,_=>rfl
 | (n,v)::r,m,h=>by
  unfold bindL;rw [bindL_out fun w hw=>h w (az _ hw)];split
  ·have:x≠n:=by rintro rfl;exact h v bJ
   simp [this]
  ·rfl
theorem bindC_out {kindOf:Str→Option cL}{x:Str}:∀ {binds:List (Str×ae)} {m:Str→Option ae},(∀ v,(x,v) ∉ binds)→bindC kindOf binds m x=m x
 | [],_,_=>rfl
 | (n,v)::r,m,h=>by
  unfold bindC;rw [bindC_out fun w hw=>h w (az _ hw)];split
  ·rfl
  ·have:x≠n:=by rintro rfl;exact h v bJ
   simp [this]
theorem bindL_get {kindOf:Str→Option cL}{x:Str}{v:ae}:∀ {P:List Str} {vs:List ae} {i:Nat} {m:Str→Option ae},P.Nodup→P[i]? =some x→vs[i]? =some v→kindOf x=some .local →
  bindL kindOf (P.zip vs) m x=some v
 | [],_,_,_,_,h,_,_=>by simp at h
 | _::_,[],_,_,_,_,h,_=>by simp at h
 | p::P,w::vs,0,m,nd,h1,h2,hk=>by
  simp at h1 h2;subst h1;subst h2;show bindL kindOf ((p,w)::P.zip vs) m p=_;unfold bindL;rw [bindL_out fun v hv=>(bz.mp nd).1 (List.of_mem_zip hv).1,qL hk];simp
 | p::P,w::vs,i+1,m,nd,h1,h2,hk=>by
  show bindL kindOf ((p,w)::P.zip vs) m x=_;unfold bindL;exact bindL_get (i:=i) (bz.mp nd).2 (by simpa using h1) (by simpa using h2) hk
theorem bindC_get {kindOf:Str→Option cL}{x:Str}{v:ae}:∀ {P:List Str} {vs:List ae} {i:Nat} {m:Str→Option ae},P.Nodup→P[i]? =some x→vs[i]? =some v→kindOf x≠some .local →
  bindC kindOf (P.zip vs) m x=some v
 | [],_,_,_,_,h,_,_=>by simp at h
 | _::_,[],_,_,_,_,h,_=>by simp at h
 | p::P,w::vs,0,m,nd,h1,h2,hk=>by
  simp at h1 h2;subst h1;subst h2;show bindC kindOf ((p,w)::P.zip vs) m p=_;unfold bindC;rw [bindC_out fun v hv=>(bz.mp nd).1 (List.of_mem_zip hv).1,qK hk];simp
 | p::P,w::vs,i+1,m,nd,h1,h2,hk=>by
  show bindC kindOf ((p,w)::P.zip vs) m x=_;unfold bindC;exact bindC_get (i:=i) (bz.mp nd).2 (by simpa using h1) (by simpa using h2) hk
def start (N:List Str)(vs:List V):St:=vs.map some++bt (N.length - vs.length) none
def cxOf (CX:CXT)(P:aW)(w:bx)(K:au)(mg:Str→Option ae)(base:bL)(N:List Str)(qual:Str)(scope:fO)(f:aq)(cd:ae)(A:bW)(outer:List Env)(s:ax)(H:Hp)(E:XK):Cx where
 prog:=P
 w:=w
 K:=K
 mg:=mg
 base:=base
 A:=A.deeper (envOfC qual scope s.heap.objs.size f cd)
 N:=N
 s₀:=s
 H₀:=H
 env:=envOfC qual scope s.heap.objs.size f cd
 outer:=outer
 stack:=envOfC qual scope s.heap.objs.size f cd::outer
 ex:=[]
 calm:=true
 fn:=fun _=>true
 pn:=[]
 xe:=fun e s'=>bf (bw P w) (A.deeper (envOfC qual scope s.heap.objs.size f cd)) (leaving (envOfC qual scope s.heap.objs.size f cd) e) (fun _ s''=>CX outer H s E e s'') (fun e' s''=>CX outer H s E e' s'') s'
theorem cell_has {sc:fO}(h:sc.names.lookup x=some .cell):∃ c,(cellsFrom n sc.names []).lookup x=some c:=by
 have q:=PySem.W.cellsFrom_some sc.names n [] (.inl h);exact Option.isSome_iff_exists.mp q
theorem inv_start {CX:CXT}{cd:ae}{s1:ax}{E:XK}{vs:List V}
  (S:bY N ps scope) (hd:A.handled=none) (e0:Env0 P w K mg base A outer s H) (hl:vs.length=ps.length) (r:gi vs us)
  (x:InCallC s s.heap.objs.size (bindL (envOfC qual scope s.heap.objs.size f cd).kindOf (ps.zip us) fun _=>none) (cellsFrom (s.heap.objs.size+1) scope.names []) (bindC (envOfC qual scope s.heap.objs.size f cd).kindOf (ps.zip us) fun _=>none) s1) :
  Inv (cxOf CX P w K mg base N qual scope f cd A outer s H E) [] (start N vs) H s1:=by
 have hpl:ps.length≤N.length:=by have:=qQ List.length S.pre;rw [bK] at this;lia
 obtain ⟨h1,tk,rfl,hk⟩:=x.done;have noA:∀ b:aq,b ∉ (cxOf CX P w K mg base N qual scope f cd A outer s H E).ex:=fun b z=>qM (show b∈([]:List aq) from z) (by simp)
 refine ⟨⟨e0.mod,S.kind,rfl,rfl,aA _,fun y z c h1 h2=>?_,fun y hy=>?_,fun y c _ h=>?_,fun _=>hd,bW.frames_deeper e0.frames,.inr ⟨rfl,rfl⟩,fun b z=>qM z (noA b),e0.bs,e0.bsz,fun b _ _=>noA b,fun b z=>qM z (noA b),e0.funs,e0.frf⟩,
  rfl,e0.bare,Un.kept hk,⟨_,x.toInCall.ns,fun i y v h1 h2 h3=>?_⟩,fun y c h=>⟨_,x.cell y c h⟩,e0.hok.fresh (aA _),fun y c h=>?_,fun p hp=>qM (show p∈([]:List (aq×Obj)) from hp) (by simp),e0.hok.kept hk,?_⟩
 ·exact name_of_addr x.apart (cq h1) (cq h2)
 ·have hy:scope.names.lookup y=some .cell∨scope.names.lookup y=some .free:=hy
  rcases hy with hy | hy
  ·exact cell_has hy
  ·exact qM rfl (S.nofree _ (cq hy))
 ·exact iL (x.above y c (cq h))
 ·have hi:i<vs.length:=by
   unfold start at h2
   by_cases hi:i<vs.length
   ·exact hi
   ·rw [bu (by simpa using hi)] at h2
    rw [List.getElem?_replicate] at h2;split at h2 <;> cases h2
  have ha:vs[i]? =some v:=by
   unfold start at h2;rw [cN (by simpa using hi),ay] at h2;cases e:vs[i]? with
   | none=>rw [e] at h2;cases h2
   | some a=>rw [e] at h2;cases h2;rfl
  obtain ⟨u,hu,rv⟩:=r.get ha;have hp:ps[i]? =some y:=by
   rw [←S.pre,List.getElem?_take_of_lt (by lia)];exact h1
  have ndP:ps.Nodup:=by rw [←S.pre];exact S.nd.sublist (List.take_sublist _ _)
  refine ⟨u,rv,?_⟩
  rcases S.par y (aP hp) with k | k
  ·exact .inl ⟨k,bindL_get ndP hp hu k⟩
  ·obtain ⟨c,e⟩:=cell_has (n:=s.heap.objs.size+1) k
   refine .inr ⟨.inl k,c,e,?_⟩;have q:=x.cell y c e;rw [bindC_get ndP hp hu (by show scope.names.lookup y≠_;rw [k];decide)] at q;exact q
 ·exact e0.hok.fresh (iL (x.above y c (cq h)))
 ·unfold start
  show _=N.length;rw [ar,aa,dt];lia
theorem fn_of {CX:CXT}{k:Nat}{body:List cJ}{dV kV doc pm cdv ct oc:ae}{an od:Option aq}
  {sp:Sp} (lk:K.lookup f=some ⟨oc,od,.func (dZ name qual params body scope dV kV doc pm an cdv ct),osl⟩) (hcd:g9 K cdv qual=true) (S:bY N ps scope)
  (len:∀ vs H Q E,sp vs H Q E→vs.length=ps.length)
  (hbody:∀ (A:bW) (outer:List Env) (s:ax) (H:Hp) (vs:List V) (Q:VK) (E:XK),gN k (A.deeper (envOfC qual scope s.heap.objs.size f cdv))→sp vs H Q E →
   ∃ t,PSs (cxOf CX P w K mg base N qual scope f cdv A outer s H E) body t∧t { nx:=fun _ H'=>Q .non H',rt:=Q } (start N vs) H) :
  cM P w K mg base CX (k+1) f (dZ name qual params body scope dV kV doc pm an cdv ct) ps sp:=by
 refine ⟨len,fun A outer s H args us vs Q E hr e0 hb r hsp=>?_⟩;have hl:=len _ _ _ _ hsp;have KX:K.In s.heap:=e0.mod.kin.keeps fun b o e=>(e0.bs b o e).1
 have lim:s.heap.NoLimit:=e0.mod.nolimit.keeps fun b o e=>(e0.bs b o e).1
 have lM:∀ y∈ps.zip us,scope.names.lookup y.1=some .local∨(scope.names.lookup y.1=some .cell∧((cellsFrom (s.heap.objs.size+1) scope.names []).lookup y.1).isSome=true):=fun ⟨n,v⟩ hy=>by
  rcases S.par n (List.of_mem_zip hy).1 with q | q
  ·exact .inl q
  ·exact .inr ⟨q,PySem.W.cellsFrom_some _ _ _ (.inl q)⟩
 refine codeAny_call_function hr.depth (KX _ _ lk) rfl S.co S.gen rfl (PySem.W.codeRec_of KX hcd) (hb _ _ _ _ ?_);refine wpAny_newFunctionEnv_cells S.kind lM fun env he s1 x=>?_
 subst he;refine ⟨lim.keeps x.toInCall.keep,codeAny_func ?_⟩;obtain ⟨t,ht,hq⟩:=hbody A outer s H vs Q E (hr.deeper _) hsp;have I:Inv (cxOf CX P w K mg base N qual scope f cdv A outer s H E) [] (start N vs) H s1:=inv_start S hr.hd e0 hl r x;refine cA (ht [] s1 (start N vs) H _ I hq) (fun fl s' hs=>?_) fun e s' hs=>hs
 have fin:∀ {σ':St} {H':Hp} {v:V} {u:ae},Inv (cxOf CX P w K mg base N qual scope f cdv A outer s H E) [] σ' H' s'→gI v u→Q v H'→CE outer P w H s Q u s' :=
  fun {σ' H' v u} J rv q=>⟨v,H',J.os,J.bare,J.base,J.hok,rv,q⟩
 cases fl with
 | ret u =>
  obtain ⟨v,σ',H',J,rv,q⟩:=hs;exact fin J rv q
 | next =>
  obtain ⟨σ',H',J,q⟩:=hs;exact fin (v:=V.non) (u:=ae.none) J rfl q
 | brk =>
  obtain ⟨_,_,_,q⟩:=hs;exact cR q
 | cont =>
  obtain ⟨_,_,_,q⟩:=hs;exact cR q
section
variable {p:Pos}{id:String}{r:List V→Hp→VK→Prop}
def tCB (r:List V→Hp→VK→Prop)(t:TA):TE:=fun σ H Q=>t σ H fun vs H1=>r vs H1 Q
theorem cp (hc:jz X (.builtin id) r)(hg:Gl X x)(hm:X.mg x=none)(hv:bootBuiltins x=some (.builtin id))(ha:PA X (e::es) t)(hn:x ≠ "__name__" := by decide)(hdb:(x == ("__debug__" :Str))=false:=by decide)
  (he:bB (e::es) X.env=(false,eK e X.env)::bB es X.env:=by rfl) (hpl:(fP pos (bB es X.env)).any (·.1)=false:=by rfl):PE X (.Call (.Name x p) (e::es) [] pos) (tCB r t):=by
 intro aR s σ H Q I h;refine fA (nk I hg hm hv ?_ hn hdb);exact PyProof.Rows.callWith_builtin1 (thn (ha pos aR s σ H _ I h) fun us s1 ⟨vs,H1,I1,r1,q1⟩=>hc aR s1 σ H1 vs us Q I1 r1 q1) he hpl
theorem eU (hc:jz X (.type T) r)(hg:Gl X x)(hm:X.mg x=none)(hv:bootBuiltins x=some (.type T))(ha:PA X (e::es) t)(hn:x ≠ "__name__" := by decide)(hdb:(x == ("__debug__" :Str))=false:=by decide)
  (he:bB (e::es) X.env=(false,eK e X.env)::bB es X.env:=by rfl) (hpl:(fP pos (bB es X.env)).any (·.1)=false:=by rfl):PE X (.Call (.Name x p) (e::es) [] pos) (tCB r t):=by
 intro aR s σ H Q I h;refine fA (nk I hg hm hv ?_ hn hdb);exact ft (thn (ha pos aR s σ H _ I h) fun us s1 ⟨vs,H1,I1,r1,q1⟩=>hc aR s1 σ H1 vs us Q I1 r1 q1) he hpl
end
end L2
variable {CW:L2.St→L2.VK→L2.It→L2.Hp→Prop}{CX:L2.CXT}{g:L2.TG}{r:L2.R2}{wi:L2.TI}
namespace HT
open PySem PyProof.Rows
theorem cat_tup {t b:aq}{ws:List ae}(ht:IsTup s.heap t vs.toArray)(hb:IsTup s.heap b ws.toArray)(hv:vs≠[])
  (h1:ws=[]→Q (.ref t) s) (h2:ws≠[]→Q (.ref s.heap.objs.size) { s with heap:=s.heap.push { cls:= .type "tuple",data:= .seq (vs++ws).toArray } })
  (hsz:vs.length+ws.length≤aZ):bf (bw prog w) A (iu .Add (.ref t) (.ref b)) Q E s:=by
 obtain ⟨⟨cls,dd,data,sl⟩,ho,hc,n,hd⟩:=id ht;obtain ⟨⟨cls2,dd2,data2,sl2⟩,ho2,hc2,n2,hd2⟩:=id hb;simp only at hc hd hc2 hd2;subst hc hd hc2 hd2;have e:vs.toArray++ws.toArray=(vs++ws).toArray:=by simp
 by_cases hw:ws=[]
 ·exact concat_meets ⟨_,ho,rfl⟩ ⟨_,ho2,rfl⟩ noFill_tuple_add seq_tuple_add PySem.F.slot_tuple_add kX (kF _ _)
   (tuple_addW1 t b vs.toArray ws.toArray n n2 dd dd2 sl sl2 (by simpa using hv) (by simp [hw])) ⟨ho,ho2,h1 hw⟩
 ·refine concat_meets ⟨_,ho,rfl⟩ ⟨_,ho2,rfl⟩ noFill_tuple_add seq_tuple_add PySem.F.slot_tuple_add kX (kF _ _)
   (tuple_addW2 t b vs.toArray ws.toArray n n2 dd dd2 sl sl2 (by simpa using hv) (by simpa using hw) (by rw [aG,aG];exact hsz)) ⟨ho,ho2,?_⟩
  rw [e];exact h2 hw
def sIx (n d:Nat):Option Int→Nat
 | none=>d
 | some v=>if v<0 then (v+(n:Int)).toNat else min v.toNat n
theorem sIx_nat (n d k:Nat):sIx n d (some (k:Int))=min k n:=by
 show (if (k:Int)<0 then ((k:Int)+(n:Int)).toNat else min (k:Int).toNat n)=min k n;rw [qK (by lia),cI]
theorem sIx_le (n d:Nat)(hd:d≤n)(o:Option Int):sIx n d o≤n:=by
 cases o with
 | none=>exact hd
 | some v =>
  show (if v<0 then (v+(n:Int)).toNat else min v.toNat n)≤n
  by_cases hv:v<0
  ·rw [qL hv];lia
  ·rw [qK hv];exact Nat.min_le_right _ _
theorem clip_eq (v:Int)(n d:Nat):(if v<0 then max (v+(n:Int)) 0 else min v (n:Int))=((sIx n d (some v):Nat):Int):=by
 show (if v<0 then max (v+(n:Int)) 0 else min v (n:Int))=(((if v<0 then (v+(n:Int)).toNat else min v.toNat n):Nat):Int)
 by_cases hv:v<0
 ·simp only [qL hv];lia
 ·simp only [qK hv];lia
theorem adjust_gen (lo hi:Option Int)(n:Nat):jN lo hi 1 (n:Int)=(((sIx n 0 lo:Nat):Int),((sIx n n hi:Nat):Int)):=by
 have h1:¬ ((1:Int)<0):=by lia
 unfold jN;simp only [h1,if_false];refine Prod.ext ?_ ?_
 ·cases lo with
  | none=>rfl
  | some v=>exact clip_eq v n 0
 ·cases hi with
  | none=>rfl
  | some v=>exact clip_eq v n n
theorem places_gen (i j:Nat):gS (i:Int) (j:Int) 1=j - i:=by
 unfold gS;have h1:(1:Int) > 0:=by lia
 simp only [h1,if_true,Int.ediv_one];split <;> lia
theorem qc {v:ae}{o:Option Int}{Q:Option Int→ax→Prop}(p:IsPart v o)(h:Q o s):bf (bw prog w) A (eS.Slice.slicePartIndex v) Q E s:=by
 cases p with
 | none=>exact slicePart_none h
 | int i t=>exact slicePart_int h
theorem sliceApplied_gen {sl:aq}{vl vu:ae}{lo:Option Int}{Q:Int×Int×Nat→ax→Prop}(hs:s.heap.IsSliceOf sl vl vu .none)(pl:IsPart vl lo)(pu:IsPart vu hi)
  (h:Q (((sIx n 0 lo:Nat):Int),1,sIx n n hi - sIx n 0 lo) s):bf (bw prog w) A (eS.Slice.sliceApplied (.ref sl) (fU (n:Int))) Q E s:=by
 obtain ⟨os,hos,hcs,hds⟩:=id hs;unfold eS.Slice.sliceApplied eS.Slice.sliceFields;refine ak (ak (cS hos hds (x:=vl) rfl (ak (cS hos hds (x:=vu) rfl (ak (cS hos hds (x:= .none) rfl (aV ?_)))))));refine ak (slicePart_none ?_);show bf _ _ (if ((1:Int) == 0)=true then _ else _) _ _ s;rw [qK (by decide)];refine ak (qc pl (ak (qc pu (ak (aV ?_)))));show bf _ _ (match jN lo hi 1 (n:Int) with | (lo,hi)=>fU (lo,(1:Int),gS lo hi 1)) _ _ s;rw [adjust_gen lo hi n];show bf _ _ (fU (((sIx n 0 lo:Nat):Int),(1:Int),gS ((sIx n 0 lo:Nat):Int) ((sIx n n hi:Nat):Int) 1)) _ _ s;rw [places_gen];exact aV h
theorem pick_gen (xs:Array ae)(i k:Nat):((aF k).filterMap fun (m:Nat)=>xs[((i:Int)+(m:Int) * 1).toNat]?).toArray=((xs.toList.drop i).take k).toArray:=by
 have e:(fun (m:Nat)=>xs[((i:Int)+(m:Int) * 1).toNat]?)=fun m=>xs[i+m]? := by
  funext m
  have:((i:Int)+(m:Int) * 1).toNat=i+m:=by lia
  rw [this]
 rw [e];have:=pick_run xs i k;rw [List.filterMap_map] at this;have e2:((fun x=>xs[x]?) ∘ fun x=>i+x)=fun m=>xs[i+m]? := rfl
 rw [e2] at this;rw [this]
theorem getItem_tuple_cut {t sl:aq}{vl vu:ae}{lo:Option Int}(ht:IsTup s.heap t items)(hs:s.heap.IsSliceOf sl vl vu .none)(pl:IsPart vl lo)(pu:IsPart vu hi)
  (hw:¬ (sIx items.size 0 lo=0∧sIx items.size items.size hi=items.size))
  (h:Q (.ref s.heap.objs.size) { s with heap:=s.heap.push { cls:= .type "tuple",data:= .seq ((items.toList.drop (sIx items.size 0 lo)).take (sIx items.size items.size hi - sIx items.size 0 lo)).toArray } })
  (hsz:items.size≤aZ):bf (bw prog w) A (getItem (.ref t) (.ref sl)) Q E s:=by
 have htake:sizeOk (.seq ((items.toList.drop (sIx items.size 0 lo)).take (sIx items.size items.size hi - sIx items.size 0 lo)).toArray):=by
  show ((items.toList.drop (sIx items.size 0 lo)).take (sIx items.size items.size hi - sIx items.size 0 lo)).toArray.size≤aZ;rw [aG,bK,dh,cj];lia
 have hj:sIx items.size items.size hi≤items.size:=sIx_le _ _ (aA _) hi;obtain ⟨os,hos,hcs,hds⟩:=id hs;have hTs:s.TypeIs (.ref sl) "slice" := ⟨os,hos,hcs⟩;unfold getItem
 try with_reducible refine gG ?_
 first | refine ak (aV ?_) | skip
 refine ak (wpAny_sequenceKey ht.typeIs (by decide) ?_);refine ak (dM (name:=d9 "__getitem__") ht.typeIs dm
  (fT dm ht.typeIs entry_tuple_getitem ?_ (args_tuple_getitem _ _)))
 show bf _ _ (eS.Tuple.tupleItemsOf (.ref t) >>= _) _ _ s;refine ak (tupleItemsOf_ ht ?_);refine ak (wpAny_typeOf hTs ?_);rw [qL (by decide)];refine ak (sliceApplied_gen hs pl pu ?_);have hno:¬ ((((sIx items.size 0 lo:Nat):Int) == 0 && (1:Int) == 1 && (sIx items.size items.size hi - sIx items.size 0 lo) == items.size)=true):=by
  intro q;rw [dk,dk] at q;have q1:((sIx items.size 0 lo:Nat):Int)=0:=eq_of_beq q.1.1;have q2:sIx items.size items.size hi - sIx items.size 0 lo=items.size:=eq_of_beq q.2;exact hw ⟨by lia,by lia⟩
 show bf _ _ (if (((sIx items.size 0 lo:Nat):Int) == 0 && (1:Int) == 1 && (sIx items.size items.size hi - sIx items.size 0 lo) == items.size)=true then _ else _) _ _ s;rw [qK hno,pick_gen]
 first
  | exact ak (m:=hV _) (fM (aV ⟨_,rfl,aV h⟩) htake)
  | exact ak (m:=hV _) (fM (ak (aV (aV ⟨_,rfl,aV h⟩))) htake)
  | exact ak (ak (m:=hV _) (fM (aV (aV ⟨_,rfl,aV h⟩)) htake))
  | exact ak (ak (m:=hV _) (fM (aV ⟨_,rfl,aV h⟩) htake))
end HT
namespace L2
open PySem PySem.Spec PyProof.Rows
abbrev TO:=St→Hp→(Option Int→Hp→Prop)→Prop
def PO (X:Cx)(e:Option Expr)(t:TO):Prop :=
 ∀ (aR:List (aq×Obj)) (s:ax) (σ:St) (H:Hp) (Q:Option Int→Hp→Prop),Inv X aR σ H s→t σ H Q →
  bf (bw X.prog X.w) X.A (evalPart e X.env) (fun u s'=>∃ o H',Inv X aR σ H' s'∧IsPart u o∧Q o H') X.xe s
def tNoPart:TO:=fun _ H Q=>Q none H
def tPart (t:TE):TO:=fun σ H Q=>t σ H fun x H1=>∃ i,x= .int i∧Q (some i) H1
section
variable {lo hi:Option Expr}{tl th:TO}
theorem po_none:PO X none tNoPart:=by
 intro aR s σ H Q I h;rw [evalPart_none];exact aV ⟨none,H,I,.none,h⟩
theorem po_some (h:PE X e te):PO X (some e) (tPart te):=by
 intro aR s σ H Q I hw;rw [evalPart_some];refine thn (h aR s σ H _ I hw) fun u s1 ⟨x,H1,I1,r1,q1⟩=>?_
 obtain ⟨i,rfl,q⟩:=q1;obtain ⟨t,rfl⟩:=r1;exact ⟨some i,H1,I1,.int i t,q⟩
def SlR (X:Cx)(r:V→Option Int→Option Int→Hp→VK→Prop):Prop :=
 ∀ (aR:List (aq×Obj)) (s:ax) (σ:St) (H:Hp) (x:V) (v vl vu:ae) (lo hi:Option Int) (sl:aq) (Q:VK),Inv X aR σ H s→gI x v→s.heap.IsSliceOf sl vl vu .none→IsPart vl lo→IsPart vu hi→r x lo hi H Q →
  ∃ T id,typeLookup (.type T) "__getitem__" =fU (some (.builtin id))∧s.TypeIs v T∧bf (bw X.prog X.w) X.A (getItem v (.ref sl)) (EP X aR σ Q) X.xe s
def tSl (r:V→Option Int→Option Int→Hp→VK→Prop)(te:TE)(tl th:TO):TE:=fun σ H Q=>te σ H fun x H1=>tl σ H1 fun l H2=>th σ H2 fun u H3=>r x l u H3 Q
theorem pe_slice {r:V→Option Int→Option Int→Hp→VK→Prop}(hr:SlR X r)(he:PE X e te)(hl:PO X lo tl)(hu:PO X hi th):PE X (.Subscript e (.Slice lo hi none p2) pos) (tSl r te tl th):=by
 intro aR s σ H Q I h;refine Subscript_ (thn (he aR s σ H _ I h) fun v s1 ⟨x,H1,I1,r1,q1⟩=>?_);refine wpAny_Slice (thn (hl aR s1 σ H1 _ I1 q1) fun vl s2 ⟨l,H2,I2,pl,q2⟩=>thn (hu aR s2 σ H2 _ I2 q2) fun vu s3 ⟨u,H3,I3,pu,q3⟩=>?_);rw [evalPart_none];refine aV ?_;have I4:Inv X aR σ H3 { s3 with heap:=s3.heap.push { cls:= .type "slice",data:= .fields #[vl,vu,.none] } }:=I3.kept (t':=s3.toks) fun b ob q=>aw _ q
 obtain ⟨T,id,hT,ht,hg⟩:=hr aR { s3 with heap:=s3.heap.push { cls:= .type "slice",data:= .fields #[vl,vu,.none] } } σ H3 x v vl vu l u s3.heap.objs.size Q I4 r1 (bL.IsSliceOf.new ..) pl pu q3;show bf (bw X.prog X.w) X.A (subscriptTail e (.Slice lo hi none p2) v (.ref s3.heap.objs.size)) (EP X aR σ Q) X.xe { s3 with heap:=s3.heap.push { cls:= .type "slice",data:= .fields #[vl,vu,.none] } };exact tail_any (ops:=[.ref s3.heap.objs.size,v]) ht hT hg (by with_unfolding_all rfl)
def cutV (xs:List V)(lo hi:Option Int):List V:=(xs.drop (HT.sIx xs.length 0 lo)).take (HT.sIx xs.length xs.length hi - HT.sIx xs.length 0 lo)
theorem cutV_length (xs:List V)(lo hi:Option Int):(cutV xs lo hi).length≤xs.length:=by
 unfold cutV;rw [bK,dh];lia
def rSlT (K:au):V→Option Int→Option Int→Hp→VK→Prop:=fun x lo hi H Q=>∃ a xs,x= .ref a∧SqT K H a xs ∧
 ¬ (HT.sIx xs.length 0 lo=0∧HT.sIx xs.length xs.length hi=xs.length)∧∀ p,H p=none→Q (.ref p) (upd H p (.tup (cutV xs lo hi)))
theorem sl_tup:SlR X (rSlT X.K):=by
 intro aR s σ H x v vl vu lo hi sl Q I rx hs pl pu h;obtain ⟨a,xs,rfl,hx,hw,q⟩:=h;cases rx;obtain ⟨its,r,ht,hz⟩:=I.tuple hx;have hlen:its.toArray.size=xs.length:=by rw [aG];exact r.length.symm
 refine ⟨"tuple",_,dm.lookup,ht.typeIs,?_⟩;refine HT.getItem_tuple_cut ht hs pl pu (by rw [hlen];exact hw) ?_ (by rw [hlen];exact hz);rw [hlen];refine ⟨.ref s.heap.objs.size,_,I.laid (t':=s.toks) (o:= .tup (cutV xs lo hi)) (fun b ob q=>aw _ q) (aA _) ?_,rfl,q _ (I.hok.fresh (aA _))⟩;exact ⟨aM (cutV_length xs lo hi) hz,_,(r.drop (HT.sIx xs.length 0 lo)).take (HT.sIx xs.length xs.length hi - HT.sIx xs.length 0 lo),mf.new _ _⟩
inductive rCatT (K:au)(x:V)(y:V)(H:Hp)(Q:VK):Prop
 | mk (a b xs ys:_)(_:x= .ref a)(_:y= .ref b)(_:SqT K H a xs)(_:SqT K H b ys)(_:xs≠[])(_:xs.length+ys.length≤aZ)(_:(ys=[]→Q (.ref a) H))(_:(ys≠[]→∀ p,H p=none→Q (.ref p) (upd H p (.tup (xs++ys)))))
theorem gi.nil_iff (r:gi xs us):us=[]↔xs=[]:=by
 cases r with
 | nil=>simp
 | cons _ _=>simp
theorem op_catT:OpR X (iu .Add) (rCatT X.K):=by
 intro aR s σ H x y v u Q I rx ry h;obtain ⟨a,b,xs,ys,rfl,rfl,ha,hb,hx,hz,q1,q2⟩:=h;cases rx;cases ry;obtain ⟨its,r1,p1,_⟩:=I.tuple ha;obtain ⟨its2,r2,p2,_⟩:=I.tuple hb;refine HT.cat_tup p1 p2 (fun z=>hx (r1.nil_iff.mp z)) (fun z=>⟨.ref a,H,I,rfl,q1 (r2.nil_iff.mp z)⟩) (fun z=>?_) (by rw [←r1.length,←r2.length];exact hz);refine ⟨.ref s.heap.objs.size,_,I.laid (t':=s.toks) (o:= .tup (xs++ys)) (fun b ob q=>aw _ q) (aA _) ?_,rfl,q2 (fun w=>z (r2.nil_iff.mpr w)) _ (I.hok.fresh (aA _))⟩;exact ⟨by rw [ar];exact hz,_,r1.append r2,mf.new _ _⟩
end
def ixN (n:Nat)(i:Int):Option Nat:=if 0≤i then (if i<n then some i.toNat else none) else if -(n:Int)≤i then some (i+n).toNat else none
def atI {α:Type}(xs:List α)(i:Int):Option α:=(ixN xs.length i).bind fun j=>xs[j]?
theorem ixN_seq {i:Int}(h:ixN n i=some j):seqIndex? i n=some j∧j<n∧ -(n:Int)≤i∧i<n:=by
 unfold ixN at h
 by_cases h0:0≤i
 ·rw [qL h0] at h
  by_cases h1:i<n
  ·rw [qL h1] at h
   have e:i.toNat=j:=bG h;exact ⟨by rw [seqIndex_of h0 h1,e],by lia,by lia,h1⟩
  ·rw [qK h1] at h;cases h
 ·rw [qK h0] at h
  by_cases h1: -(n:Int)≤i
  ·rw [qL h1] at h
   have e:(i+n).toNat=j:=bG h;exact ⟨by rw [seqIndex_neg (by lia) h1,e],by lia,h1,by lia⟩
  ·rw [qK h1] at h;cases h
theorem atI_get {xs:List α}{i:Int}{v:α}(h:atI xs i=some v):∃ j,seqIndex? i xs.length=some j∧xs[j]? =some v∧j<xs.length∧ -(xs.length:Int)≤i∧i<xs.length:=by
 unfold atI at h;cases e:ixN xs.length i with
 | none=>rw [e] at h;cases h
 | some j =>
  rw [e] at h;obtain ⟨h1,h2,h3,h4⟩:=ixN_seq e;exact ⟨j,h1,h,h2,h3,h4⟩
theorem aO {xs:List α}{v:α}(h:xs[j]? =some v):atI xs (j:Int)=some v:=by
 have hj:j<xs.length:=(ao.mp h).1;have e:ixN xs.length (j:Int)=some j:=by
  unfold ixN;rw [qL (by lia),qL (by lia)];simp
 unfold atI;rw [e];exact h
def PlainIx (b:Expr):Prop:=∀ o i,subscripted b false o i=operate [o,i] (getItem o i)
def IxR (X:Cx)(r:R2):Prop :=
 ∀ (value slice:Expr) (aR:List (aq×Obj)) (s:ax) (σ:St) (H:Hp) (x y:V) (v u:ae) (Q:VK),Inv X aR σ H s→gI x v→gI y u→r x y H Q →
  subscripted slice false v u=operate [v,u] (getItem v u)→bf (bw X.prog X.w) X.A (subscriptTail value slice v u) (EP X aR σ Q) X.xe s
def MtR (X:Cx)(id:String)(r:V→List V→Hp→VK→Prop):Prop :=
 ∀ (aR:List (aq×Obj)) (s:ax) (σ:St) (H:Hp) (x:V) (xs:List V) (v:ae) (us:List ae) (Q:VK),Inv X aR σ H s→gI x v→gi xs us→r x xs H Q →
  bf (bw X.prog X.w) X.A (call (.builtin id) (v::us)) (EP X aR σ Q) X.xe s
section
variable {a b:Expr}{tb:TE}
theorem eJ (hr:IxR X r)(ha:PE X a ta)(hb:PE X b tb)(hs:PlainIx b):PE X (.Subscript a b pos) (tOp r ta tb):=by
 intro aR s σ H Q I h;exact Subscript_ (binT ha hb I h fun v u s2 x y H2 I2 rx ry q=>hr a b aR s2 σ H2 x y v u Q I2 rx ry q (hs _ _))
inductive rIxL (K:au)(x:V)(y:V)(H:Hp)(Q:VK):Prop
 | mk (p xs i v:_)(_:x= .ref p)(_:y= .int i)(_:SqL K H p xs)(_:atI xs i=some v)(_:Q v H)
inductive rIxT (K:au)(x:V)(y:V)(H:Hp)(Q:VK):Prop
 | mk (p xs i v:_)(_:x= .ref p)(_:y= .int i)(_:SqT K H p xs)(_:atI xs i=some v)(_:Q v H)
theorem gB:IxR X (rIxL X.K):=by
 intro value slice aR s σ H x y v u Q I rx ry h hs;obtain ⟨p,xs,i,z,rfl,rfl,hq,he,q⟩:=h;cases rx;obtain ⟨t,rfl⟩:=ry;obtain ⟨its,r,pl,hz⟩:=I.list hq;obtain ⟨j,h1,h2,h3,h4,h5⟩:=atI_get he;obtain ⟨w,ew,rw'⟩:=r.get h2;have hl:=r.length;have hn:=line63;have fin:EP X aR σ Q w s:=⟨z,H,I,rw',q⟩
 by_cases h0:0≤i
 ·have hj:i.toNat=j:=by
   rw [seqIndex_of h0 h5] at h1;exact bG h1
  exact item_listR pl.isList h0 (by lia) (by rw [hj];simpa using ew) fin hs
 ·have hj:(i+(its.toArray.size:Int)).toNat=j:=by
   rw [seqIndex_neg (by lia) h4] at h1;rw [aG,←hl];exact bG h1
  exact subscriptTail_builtinR (x:=w) pl.isList.typeIs slot_list_getitem.lookup
   (wpAny_getItem_list_neg (Q:=fun r s'=>r=w∧EP X aR σ Q r s') pl.isList (by lia) (by rw [aG] <;> lia) (by lia) (by rw [hj];simpa using ew) ⟨rfl,fin⟩) hs
theorem eD:IxR X (rIxT X.K):=by
 intro value slice aR s σ H x y v u Q I rx ry h hs;obtain ⟨p,xs,i,z,rfl,rfl,hq,he,q⟩:=h;cases rx;obtain ⟨t,rfl⟩:=ry;obtain ⟨its,r,pl,hz⟩:=I.tuple hq;obtain ⟨j,h1,h2,h3,h4,h5⟩:=atI_get he;obtain ⟨w,ew,rw'⟩:=r.get h2;have hl:=r.length;have hn:=line63;have fin:EP X aR σ Q w s:=⟨z,H,I,rw',q⟩;exact subscriptTail_builtinR (x:=w) pl.typeIs slot_tuple_getitem.lookup
  (getItem_tuple (j:=j) (Q:=fun r s'=>r=w∧EP X aR σ Q r s') pl (by lia) (by lia) (by rw [aG,←hl];exact h1) (by simpa using ew) ⟨rfl,fin⟩) hs
theorem mapSeq_set (its:List ae)(n j:Nat)(u:ae):cX (·.setIfInBounds j u) { cls:= .type "list",data:= .seq its.toArray n }={ cls:= .type "list",data:= .seq (its.set j u).toArray n }:=by
 simp [cX]
theorem Inv.lst {aR:List (aq×Obj)}{σ:St}{H:Hp}{s:ax}{p:aq}{xs:List V}(I:Inv X aR σ H s)(h:H p=some (.lst xs)) :
  ∃ (its:List ae) (n:Nat),gi xs its∧s.heap.get? p=some { cls:= .type "list",data:= .seq its.toArray n }∧xs.length≤aZ:=by
 obtain ⟨z,its,n,r,e⟩:=I.hok p _ h;exact ⟨its,n,r,e,z⟩
theorem Inv.lstUpd {p:aq}{its':List ae}{n':Nat}{f:Obj→Obj}(I:Inv X aR σ H s)(h:H p=some (.lst xs))
  (ho:s.heap.get? p=some { cls:= .type "list",data:= .seq its.toArray n }) (hf:f { cls:= .type "list",data:= .seq its.toArray n }={ cls:= .type "list",data:= .seq its'.toArray n' }) (r:gi ys its') (hz:ys.length≤aZ) (t:Nat) :
  Inv X aR σ (upd H p (.lst ys)) { s with heap:=s.heap.update p f,toks:=t }:=by
 have e:(s.heap.update p f).get? p=some { cls:= .type "list",data:= .seq its'.toArray n' }:=by
  rw [bL.get?_update_self f ho (by rw [hf] <;> rfl),hf]
 refine I.write (x:=p) (e:=p) (by rw [h];trivial) (.inl rfl) (fun b u hb q=>(bL.get?_update_other _ _ (dB hb)).trans q) ⟨_,e⟩ ?_;exact ⟨hz,its',n',r,e⟩
def rSetL:V→V→V→Hp→(Hp→Prop)→Prop:=fun o i v H Q=>∃ p xs k j,o= .ref p∧i= .int k∧H p=some (.lst xs)∧ixN xs.length k=some j∧Q (upd H p (.lst (xs.set j v)))
theorem lQ:PSet X rSetL:=by
 intro aR s σ H o i v ov iv u Q I ro ri rv h;obtain ⟨p,xs,k,j,rfl,rfl,hp,hj,q⟩:=h;cases ro;obtain ⟨t,rfl⟩:=ri;obtain ⟨its,n,r,ho,hz⟩:=I.lst hp;obtain ⟨h1,h2,h3,h4⟩:=ixN_seq hj;have hl:=r.length;have hn:=line63;have I':Inv X aR σ (upd H p (.lst (xs.set j v))) { s with heap:=s.heap.update p (cX (·.setIfInBounds j u)) } :=
  I.lstUpd hp ho (mapSeq_set its n j u) (r.set rv j) (by rw [e8];exact hz) s.toks
 by_cases h0:0≤k
 ·have hk:k.toNat=j:=by
   rw [seqIndex_of h0 h4] at h1;exact bG h1
  exact PySem.W.ki_setAt ho h0 (by lia) (by rw [aG,←hl];exact h4) (by rw [hk];exact ⟨_,I',q⟩)
 ·have hk:(k+(its.toArray.size:Int)).toNat=j:=by
   rw [seqIndex_neg (by lia) h3] at h1;rw [aG,←hl];exact bG h1
  exact PySem.W.ki_setBack ho (by lia) (by rw [aG,←hl];exact h3) (by lia) (by rw [hk];exact ⟨_,I',q⟩)
def flatV:V→Bool
 | .non=>true
 | .bl _=>true
 | .int _=>true
 | .str _=>true
 | _=>false
def eqV:V→V→Bool
 | .non,.non=>true
 | .bl a,.bl b=>a == b
 | .bl a,.int b=>(if a then 1 else 0) == b
 | .int a,.bl b=>a == (if b then 1 else 0)
 | .int a,.int b=>a == b
 | .str a,.str b=>a == b
 | _,_=>false
theorem ju {y x:V}{v:ae}(ry:gI y u)(rx:gI x v)(fy:flatV y=true)(fx:flatV x=true):SeqAt.EqAt A s u v (eqV y x):=by
 cases y with
 | non =>
  cases ry;cases x with
  | non=>cases rx;exact SeqAt.EqAt.same _
  | bl b=>cases rx;exact SeqAt.EqAt.none_bool b
  | int b=>obtain ⟨t,rfl⟩:=rx;exact SeqAt.EqAt.none_int b t
  | str b=>obtain ⟨t,rfl⟩:=rx;exact SeqAt.EqAt.none_str b t
  | _=>exact qM (show false=true from fx) bo
 | bl a =>
  cases ry;cases x with
  | non=>cases rx;exact SeqAt.EqAt.bool_none a
  | bl b=>cases rx;exact SeqAt.EqAt.bool_bool a b
  | int b=>obtain ⟨t,rfl⟩:=rx;exact SeqAt.EqAt.bool_int a b t
  | str b=>obtain ⟨t,rfl⟩:=rx;exact SeqAt.EqAt.bool_str a b t
  | _=>exact qM (show false=true from fx) bo
 | int a =>
  obtain ⟨t',rfl⟩:=ry;cases x with
  | non=>cases rx;exact SeqAt.EqAt.int_none a t'
  | bl b=>cases rx;exact SeqAt.EqAt.int_bool a t' b
  | int b=>obtain ⟨t,rfl⟩:=rx;exact SeqAt.EqAt.int_int a t' b t
  | str b=>obtain ⟨t,rfl⟩:=rx;exact SeqAt.EqAt.int_str a t' b t
  | _=>exact qM (show false=true from fx) bo
 | str a =>
  obtain ⟨t',rfl⟩:=ry;cases x with
  | non=>cases rx;exact SeqAt.EqAt.str_none a t'
  | bl b=>cases rx;exact SeqAt.EqAt.str_bool a t' b
  | int b=>obtain ⟨t,rfl⟩:=rx;exact SeqAt.EqAt.str_int a t' b t
  | str b=>obtain ⟨t,rfl⟩:=rx;exact SeqAt.EqAt.str_str a t' b t
  | _=>exact qM (show false=true from fx) bo
 | _=>exact qM (show false=true from fy) bo
def eqU (x:V)(u:ae):Bool:=match u with
 | .none=>eqV .non x
 | .bool b=>eqV (.bl b) x
 | .int i _=>eqV (.int i) x
 | .str z _=>eqV (.str z) x
 | _=>false
theorem eqU_of {x y:V}(r:gI y u)(f:flatV y=true):eqU x u=eqV y x:=by
 cases y with
 | non=>cases r;rfl
 | bl b=>cases r;rfl
 | int i=>obtain ⟨t,rfl⟩:=r;rfl
 | str z=>obtain ⟨t,rfl⟩:=r;rfl
 | _=>exact qM (show false=true from f) bo
theorem pP {x:V}:∀ {xs:List V} {us:List ae},gi xs us→xs.all flatV=true→us.any (eqU x)=xs.any fun y=>eqV y x
 | _,_,.nil,_=>rfl
 | y::xs,u::us,.cons r t,f=>by
  rw [List.all_cons,dk] at f;rw [jM,jM,eqU_of r f.1,pP t f.2]
theorem nh {A:bW}{s:ax}{x:V}{v:ae}(rx:gI x v)(fx:flatV x=true):∀ {xs:List V} {us:List ae},gi xs us→xs.all flatV=true→∀ u∈us,SeqAt.EqAt A s u v (eqU x u)
 | _,_,.nil,_=>fun u hu=>by cases hu
 | y::xs,u::us,.cons r t,f=>fun u' hu=>by
  rw [List.all_cons,dk] at f
  rcases aI.mp hu with rfl | hu
  ·rw [eqU_of r f.1];exact ju r rx f.1 fx
  ·exact nh rx fx t f.2 u' hu
def inV (x:V)(xs:List V):Bool:=xs.any fun y=>eqV y x
inductive rIn (K:au)(neg:Bool)(x:V)(y:V)(H:Hp)(Q:VK):Prop
 | mk (p xs:_)(_:y= .ref p)(_:(SqL K H p xs∨SqT K H p xs))(_:flatV x=true)(_:xs.all flatV=true)(_:Q (.bl (if neg then !inV x xs else inV x xs)) H)
theorem op_in_seq:OpR X (eP .In) (rIn X.K false):=by
 intro aR s σ H x y v u Q I rx ry h;obtain ⟨p,xs,rfl,hq,fx,fs,q⟩:=h;cases ry
 rcases hq with hq | hq
 ·obtain ⟨its,r,pl,hz⟩:=I.list hq
  refine SeqAt.in_listAt (eqU x) pl.isList (fun w hw=>nh rx fx r fs w (by simpa using hw)) ⟨.bl _,H,I,rfl,?_⟩;rw [show its.toArray.any (eqU x)=its.any (eqU x) by simp,pP r fs];exact q
 ·obtain ⟨its,r,pl,hz⟩:=I.tuple hq
  refine SeqAt.in_tupleAt (eqU x) pl (fun w hw=>nh rx fx r fs w (by simpa using hw)) ⟨.bl _,H,I,rfl,?_⟩;rw [show its.toArray.any (eqU x)=its.any (eqU x) by simp,pP r fs];exact q
theorem op_notIn_seq:OpR X (eP .NotIn) (rIn X.K true):=by
 intro aR s σ H x y v u Q I rx ry h;obtain ⟨p,xs,rfl,hq,fx,fs,q⟩:=h;cases ry
 rcases hq with hq | hq
 ·obtain ⟨its,r,pl,hz⟩:=I.list hq
  refine SeqAt.notIn_listAt (eqU x) pl.isList (fun w hw=>nh rx fx r fs w (by simpa using hw)) ⟨.bl _,H,I,rfl,?_⟩;rw [show its.toArray.any (eqU x)=its.any (eqU x) by simp,pP r fs];exact q
 ·obtain ⟨its,r,pl,hz⟩:=I.tuple hq
  refine SeqAt.notIn_tupleAt (eqU x) pl (fun w hw=>nh rx fx r fs w (by simpa using hw)) ⟨.bl _,H,I,rfl,?_⟩;rw [show its.toArray.any (eqU x)=its.any (eqU x) by simp,pP r fs];exact q
theorem bV:jz X (.builtin "len") (fun xs H Q=>∃ p ys,xs=[.ref p]∧(SqL X.K H p ys∨SqT X.K H p ys)∧Q (.int ys.length) H):=by
 intro aR s σ H xs us Q I r h;obtain ⟨p,ys,rfl,hq,q⟩:=h;obtain ⟨u,rfl,rx⟩:=mP r;cases rx;have hn:=line63
 rcases hq with hq | hq
 ·obtain ⟨its,r',pl,hz⟩:=I.list hq
  have hlen:=r'.length;exact Calls.call_len_list pl.isList (by simp only [aG] <;> lia) ⟨.int ys.length,H,I.tok _,⟨s.toks+1,by rw [aG,hlen]⟩,q⟩
 ·obtain ⟨its,r',pl,hz⟩:=I.tuple hq
  have hlen:=r'.length;exact len_tuple pl (by simp only [aG] <;> lia) ⟨.int ys.length,H,I.tok _,⟨s.toks+1,by rw [aG,hlen]⟩,q⟩
theorem oi:jz X (.type "list") (fun xs H Q=>∃ p ys,xs=[.ref p]∧(SqL X.K H p ys∨SqT X.K H p ys)∧∀ l,H l=none→Q (.ref l) (upd H l (.lst ys))):=by
 intro aR s σ H xs us Q I r h;obtain ⟨p,ys,rfl,hq,q⟩:=h;obtain ⟨u,rfl,rx⟩:=mP r;cases rx;have fin:∀ (its:List ae),gi ys its→ys.length≤aZ→∀ (h':bL) (c':Nat),(∀ b o',s.heap.get? b=some o'→h'.get? b=some o') →
   h'.get? s.heap.objs.size=some { cls:= .type "list",dict:=none,data:= .seq its.toArray c',slots:= #[] }→EP X aR σ Q (.ref s.heap.objs.size) { s with heap:=h' }:=fun its r' hz h' c' kp e =>
  ⟨.ref s.heap.objs.size,_,I.laid (t':=s.toks) kp (aA _) (show i4 X.prog X.w _ h' _ (.lst ys) from ⟨hz,its,c',r',e⟩),rfl,q _ (I.hok.fresh (aA _))⟩
 rcases hq with hq | hq
 ·obtain ⟨its,r',pl,hz⟩:=I.list hq
  have hlen:=r'.length;obtain ⟨o,ho,hc,n,hd⟩:=pl.isList;exact call_list_seq p (.inl rfl) ho hc hd (fun h' c' kp e=>fin its r' hz h' c' kp e) (by simp only [aG] <;> lia)
 ·obtain ⟨its,r',pl,hz⟩:=I.tuple hq
  have hlen:=r'.length;obtain ⟨o,ho,hc,n,hd⟩:=pl;exact call_list_seq p (.inr rfl) ho hc hd (fun h' c' kp e=>fin its r' hz h' c' kp e) (by simp only [aG] <;> lia)
theorem call_tuple_of:jz X (.type "tuple") (fun xs H Q=>∃ p ys,xs=[.ref p]∧((SqL X.K H p ys∧∀ l,H l=none→Q (.ref l) (upd H l (.tup ys)))∨(SqT X.K H p ys∧Q (.ref p) H))):=by
 intro aR s σ H xs us Q I r h;obtain ⟨p,ys,rfl,h⟩:=h;obtain ⟨u,rfl,rx⟩:=mP r;cases rx
 rcases h with ⟨hq,q⟩ | ⟨hq,q⟩
 ·obtain ⟨its,r',pl,hz⟩:=I.list hq
  have hlen:=r'.length;refine call_tuple_list pl.isList (fun h' kp=>?_) (by simp only [aG] <;> lia);have I1:Inv X aR σ H { s with heap:=h' }:=I.kept (t':=s.toks) kp;have I2:Inv X aR σ (upd H h'.objs.size (.tup ys)) { s with heap:=h'.push { cls:= .type "tuple",data:= .seq its.toArray } } :=
   I1.laid (t':=s.toks) (fun b o e=>aw _ e) (aA _) (show i4 X.prog X.w _ _ _ (.tup ys) from ⟨hz,its,r',mf.new _ _⟩)
  exact ⟨.ref h'.objs.size,_,I2,rfl,q _ (I1.hok.fresh (aA _))⟩
 ·obtain ⟨its,r',pl,hz⟩:=I.tuple hq
  exact call_tuple_same pl ⟨.ref p,H,I,rfl,q⟩
def tyV (K:au)(T:String)(x:V)(H:Hp):Prop:=match x with
 | .str _=>T = "str"
 | .int _=>T = "int"
 | .ref p=>(T = "list" ∧∃ xs,SqL K H p xs)∨(T = "tuple" ∧∃ o,K.lookup p=some o∧o.cls= .type "tuple" ∧o.dict=none) ∨
   (T = "dict" ∧((∃ kvs,H p=some (.dK kvs))∨∃ kvs,H p=some (.dT kvs)))∨(T = "set" ∧∃ S n,H p=some (.set S n))
 | _=>False
theorem tyV_is {x:V}{v:ae}(I:Inv X aR σ H s)(r:gI x v)(ty:tyV X.K T x H) :
  s.TypeIs v T∧∀ a,v= .ref a→∃ ob,s.heap.get? a=some ob∧ob.dict=none:=by
 cases x with
 | str z =>
  obtain ⟨t,rfl⟩:=r;cases (show T = "str" from ty);exact ⟨typeIs_str s z t,fun _ e=>nomatch e⟩
 | int i =>
  obtain ⟨t,rfl⟩:=r;cases (show T = "int" from ty);exact ⟨typeIs_int s i t,fun _ e=>nomatch e⟩
 | ref p =>
  cases r
  rcases ty with ⟨rfl,xs,hq⟩ | ⟨rfl,o,hk,hc,hd⟩ | ⟨rfl,hk⟩ | ⟨rfl,S,n,hk⟩
  ·obtain ⟨its,_,pl,_⟩:=I.list hq
   refine ⟨pl.isList.typeIs,fun a e=>?_⟩;cases e;obtain ⟨o,n,e,c,hd,_⟩:=pl;exact ⟨o,e,hd⟩
  ·refine ⟨⟨o,I.kIn p o hk,hc⟩,fun a e=>?_⟩
   cases e;exact ⟨o,I.kIn _ o hk,hd⟩
  ·have z:∃ o,s.heap.get? p=some o∧o.ExactDict:=by
    rcases hk with ⟨kvs,hk⟩ | ⟨kvs,hk⟩
    ·obtain ⟨_,_,_,_,o,_,_,e,ex,_⟩:=I.hok p _ hk
     exact ⟨o,e,ex⟩
    ·obtain ⟨_,_,_,_,o,_,_,e,ex,_⟩:=I.hok p _ hk
     exact ⟨o,e,ex⟩
   obtain ⟨o,e,ex⟩:=z;refine ⟨⟨o,e,ex.1⟩,fun a e2=>?_⟩;cases e2;exact ⟨o,e,ex.2.1⟩
  ·obtain ⟨o,_,_,_,e,ex,_⟩:=I.hok p _ hk
   refine ⟨⟨o,e,ex.1⟩,fun a e2=>?_⟩;cases e2;exact ⟨o,e,ex.2.1⟩
 | _=>exact cR ty
def tBM0 (K:au)(T:String)(r:V→List V→Hp→VK→Prop)(to:TE):TE:=fun σ H Q=>to σ H fun x H1=>tyV K T x H1∧r x [] H1 Q
def tBM (K:au)(T:String)(r:V→List V→Hp→VK→Prop)(to:TE)(t:TA):TE:=fun σ H Q=>to σ H fun x H1=>tyV K T x H1∧t σ H1 fun xs H2=>r x xs H2 Q
variable {o:Expr}{to:TE}{cpos:Pos}{id:String}{r:V→List V→Hp→VK→Prop}
theorem o9 (pa:PlainAttrs T)(slot:Slot T name id)(hty:typeOf (.builtin id)=fU (.type "method_descriptor"))(hm:MtR X id r)(ho:PE X o to)
  (hbase:kg o name X.env (eK o X.env)=eK o X.env:=by rfl) (hline:(apos.endLine == cpos.line)=true:=by rfl):PE X (.Call (.Attribute o name apos) [] [] cpos) (tBM0 X.K T r to):=by
 intro aR s σ H Q I h;refine wpAny_Call_method0_late hbase hline (thn (ho aR s σ H _ I h) fun v s1 ⟨x,H1,I1,r1,ty,q1⟩=>?_);obtain ⟨h1,h2⟩:=tyV_is I1 r1 ty;exact ⟨T,id,pa,slot,hty,h1,h2,jd rfl (PySem.evalArgs_none (hm aR s1 σ H1 x [] v [] Q I1 r1 .nil q1))⟩
theorem lh (pa:PlainAttrs T)(slot:Slot T name id)(hty:typeOf (.builtin id)=fU (.type "method_descriptor"))(hm:MtR X id r)(ho:PE X o to)(ha:PA X (e::es) t)
  (hbase:kg o name X.env (eK o X.env)=eK o X.env:=by rfl)
  (hfew:((fP cpos (bB (e::es) X.env)).all (fun x=> !x.1) && (backToKw cpos (keywordEach [] X.env)).all (fun x=>x.1.isSome)
   && decide ((e::es).length+([]:List Keyword).length+(if ([]:List Keyword).isEmpty then 0 else 1)<30))=true:=by rfl)
  (hline:(apos.endLine == cpos.line)=true:=by rfl) (hs:bB (e::es) X.env=(false,eK e X.env)::bB es X.env:=by rfl) (hplain:(fP cpos (bB es X.env)).any (·.1)=false:=by rfl) :
  PE X (.Call (.Attribute o name apos) (e::es) [] cpos) (tBM X.K T r to t):=by
 intro aR s σ H Q I h;refine wpAny_Call_method_late hbase hfew hline rfl (thn (ho aR s σ H _ I h) fun v s1 ⟨x,H1,I1,r1,ty,q1⟩=>?_);obtain ⟨h1,h2⟩:=tyV_is I1 r1 ty;refine ⟨T,id,pa,slot,hty,h1,h2,?_⟩;have hA:=ha cpos aR s1 σ H1 _ I1 q1;rw [hs] at hA ⊢;refine jd (by show (false || (fP cpos (bB es X.env)).any (·.1))=false;rw [hplain] <;> rfl) (Calls.evalArgs_plain ?_);exact thn hA fun us s2 ⟨vs,H2,I2,r2,q2⟩=>hm aR s2 σ H2 x vs v us Q I2 r1 r2 q2
end
def MtM (X:Cx)(id:String)(r:V→List V→Hp→VK→Prop):Prop :=
 ∀ (aR:List (aq×Obj)) (s:ax) (σ:St) (H:Hp) (x:V) (xs:List V) (v:ae) (us:List ae) (Q:VK),Inv X aR σ H s→gI x v→gi xs us→r x xs H Q →
  bf (bw X.prog X.w) X.A (call (.builtin id) (v::us)) (EP X aR σ Q) X.xe s
theorem gi.one:∀ {x:V} {us:List ae},gi [x] us→∃ u,us=[u]∧gI x u
 | _,_,.cons r .nil=>⟨_,rfl,r⟩
theorem gi.zero:∀ {us:List ae},gi [] us→us=[]
 | _,.nil=>rfl
theorem gi.dropLast (h:gi xs us):gi xs.dropLast us.dropLast:=by
 induction h with
 | nil=>exact .nil
 | cons r t ih =>
  cases t with
  | nil=>exact .nil
  | cons q t'=>exact .cons r ih
theorem gi.rep {xs:List V}{us:List ae}(h:gi xs us):∀ k:Nat,gi (bt k xs).flatten (bt k us).flatten
 | 0=> .nil
 | k+1=>by
  rw [iR,iR,List.flatten_cons,List.flatten_cons];exact gi.append h (gi.rep h k)
theorem erase_last (l:List α):l.eraseIdx (l.length - 1)=l.dropLast:=by
 induction l with
 | nil=>rfl
 | cons a r ih =>
  cases r with
  | nil=>rfl
  | cons b r =>
   have e:(a::b::r).length - 1=((b::r).length - 1)+1:=by
    have h1:(a::b::r).length=r.length+2:=rfl;have h2:(b::r).length=r.length+1:=rfl;lia
   rw [e,List.eraseIdx_cons_succ,ih]
   all_goals rfl
theorem foldl_rep (its:List ae):∀ (k:Nat) (acc:List ae),
  List.foldl (fun x1 x2=>x1++x2) acc.toArray (bt k its.toArray)=(acc++(bt k its).flatten).toArray
 | 0,acc=>by simp
 | k+1,acc=>by
  have e:acc.toArray++its.toArray=(acc++its).toArray:=by simp
  have e2:(acc++its)++(bt k its).flatten=acc++(bt (k+1) its).flatten:=by
   rw [iR,List.flatten_cons,jo]
  rw [←e2,←foldl_rep its k (acc++its),←e,iR,bM]
section
variable {l b:aq}
theorem Inv.lset {its':List ae}{f:Array ae→Array ae}(I:Inv X aR σ H s)(hH:H l=some (.lst xs))
  (e:s.heap.get? l=some { cls:= .type "list",data:= .seq its.toArray n }) (hf:f its.toArray=its'.toArray) (hv:gi ys its') (hz:ys.length≤aZ) :
  Inv X aR σ (upd H l (.lst ys)) { s with heap:=s.heap.update l (cX f),toks:=t' }:=by
 have q:=PySem.IsL.update e f;rw [hf] at q;refine I.write (x:=l) (e:=l) (by rw [hH];exact trivial) (.inl rfl) (fun b' u hb hu=>(bL.get?_update_other s.heap (cX f) (dB hb)).trans hu) ⟨_,q⟩ ?_;exact ⟨hz,its',_,hv,q⟩
theorem Inv.lnew (I:Inv X aR σ H s)(hv:gi ys its)(hz:ys.length≤aZ) :
  Inv X aR σ (upd H s.heap.objs.size (.lst ys)) { s with heap:=s.heap.push { cls:= .type "list",data:= .seq its.toArray },toks:=t' } :=
 I.laid (fun _ _ q=>aw _ q) (aA _) ⟨hz,its,0,hv,aX _ rfl⟩
theorem Inv.fresh (I:Inv X aR σ H s):H s.heap.objs.size=none:=I.hok.fresh (aA _)
theorem Inv.lstM (I:Inv X aR σ H s)(hH:H l=some (.lst xs)):xs.length≤aZ∧∃ (its:List ae) (n:Nat),gi xs its∧xs.length=its.length∧s.heap.get? l=some { cls:= .type "list",data:= .seq its.toArray n }:=by
 obtain ⟨z,its,n,r,e⟩:=I.hok l _ hH;exact ⟨z,its,n,r,r.length,e⟩
theorem notLongL (h:n≤aZ):il n=false:=by
 unfold il;exact qO (by lia)
end
inductive rAppend (x:V)(vs:List V)(H:Hp)(Q:VK):Prop
 | mk (l xs y:_)(_:x= .ref l)(_:vs=[y])(_:H l=some (.lst xs))(_:xs.length<aZ)(_:Q .non (upd H l (.lst (xs++[y]))))
theorem fH:MtM X "list.append" rAppend:=by
 intro aR s σ H x vs v us Q I rx rv h;obtain ⟨l,xs,y,rfl,rfl,hH,hz,q⟩:=h;cases rx;obtain ⟨u,rfl,ru⟩:=rv.one;obtain ⟨z,its,n,r,hl,e⟩:=I.lstM hH;refine call_meets F.slot_list_append ⟨_,e,rfl⟩ F.entry_list_append (F.args_list_append_2 _ _) (PySem.list_append l its.toArray n u (by rw [aG];lia)) ⟨e,?_⟩;refine ⟨.non,_,I.lset (its':=its++[u]) hH e (by simp) (r.append (.cons ru .nil)) ?_,rfl,q⟩;rw [ar,d5];lia
inductive rExtend (x:V)(vs:List V)(H:Hp)(Q:VK):Prop
 | mk (l b xs zs:_)(_:x= .ref l)(_:vs=[.ref b])(_:H l=some (.lst xs))(_:H b=some (.lst zs))(_:xs.length+zs.length≤aZ)(_:Q .non (upd H l (.lst (xs++zs))))
theorem mt_extend:MtM X "list.extend" rExtend:=by
 intro aR s σ H x vs v us Q I rx rv h;obtain ⟨l,b,xs,zs,rfl,rfl,hH,hB,hz,q⟩:=h;cases rx;obtain ⟨u,rfl,ru⟩:=rv.one;cases ru;obtain ⟨z,its,n,r,hl,e⟩:=I.lstM hH;obtain ⟨z2,its2,n2,r2,hl2,e2⟩:=I.lstM hB;have hsz:its.toArray.size+its2.toArray.size≤aZ:=by rw [aG,aG];lia
 have hlong:¬ (!its.toArray.isEmpty && il (its.toArray.size+its2.toArray.size))=true:=by
  rw [notLongL hsz,Bool.and_false];exact bo
 refine call_meets F.slot_list_extend ⟨_,e,rfl⟩ F.entry_list_extend (F.args_list_extend_2 _ _)
  (AutoSeq1.list_extend_list_list_0 l its.toArray n b its2.toArray n2 hlong (by rw [aG];lia) (by lia)) ⟨e,e2,?_⟩
 refine ⟨.non,_,I.lset (its':=its++its2) hH e (by simp) (r.append r2) ?_,rfl,q⟩;rw [ar];lia
inductive rPop (x:V)(vs:List V)(H:Hp)(Q:VK):Prop
 | mk (l xs y:_)(_:x= .ref l)(_:vs=[])(_:H l=some (.lst xs))(_:xs[xs.length - 1]? =some y)(_:Q y (upd H l (.lst xs.dropLast)))
theorem pj:MtM X "list.pop" rPop:=by
 intro aR s σ H x vs v us Q I rx rv h;obtain ⟨l,xs,y,rfl,rfl,hH,hy,q⟩:=h;cases rx;have hus:=rv.zero;subst hus;obtain ⟨z,its,n,r,hl,e⟩:=I.lstM hH;obtain ⟨u,hu,ru⟩:=r.get hy;have hy':its.toArray[its.toArray.size - 1]? =some u:=by
  show its.toArray[its.length - 1]? =some u;rw [←jB,←hl];exact hu
 refine call_meets F.slot_list_pop ⟨_,e,rfl⟩ F.entry_list_pop (F.args_list_pop_1 _) (MeetsSeq.list_pop_last l its.toArray n u hy' (by rw [aG];lia)) ⟨e,?_⟩;refine ⟨y,_,I.lset (its':=its.dropLast) hH e ?_ r.dropLast ?_,ru,q⟩
 ·show its.toArray.eraseIdxIfInBounds (its.toArray.size - 1)=its.dropLast.toArray
  rw [aG,List.eraseIdxIfInBounds_toArray,erase_last]
 ·rw [List.length_dropLast]
  lia
inductive rCat (x:V)(y:V)(H:Hp)(Q:VK):Prop
 | mk (l b xs zs:_)(_:x= .ref l)(_:y= .ref b)(_:H l=some (.lst xs))(_:H b=some (.lst zs))(_:xs.length+zs.length≤aZ)(_:∀ p,H p=none→Q (.ref p) (upd H p (.lst (xs++zs))))
theorem op_cat:OpR X (iu .Add) rCat:=by
 intro aR s σ H x y v u Q I rx ry h;obtain ⟨l,b,xs,zs,rfl,rfl,hH,hB,hz,q⟩:=h;cases rx;cases ry;obtain ⟨z,its,n,r,hl,e⟩:=I.lstM hH;obtain ⟨z2,its2,n2,r2,hl2,e2⟩:=I.lstM hB;refine PySem.P.add_list e e2 ?_ (by rw [aG,aG];lia);have ea:its.toArray++its2.toArray=(its++its2).toArray:=by simp
 rw [ea];exact ⟨.ref _,_,I.lnew (t':=s.toks) (r.append r2) (by rw [ar];lia),rfl,q _ I.fresh⟩
inductive rRep (x:V)(y:V)(H:Hp)(Q:VK):Prop
 | mk (l k xs:_)(_:x= .ref l)(_:y= .int k)(_:H l=some (.lst xs))(_: -(2 ^ 63)≤k)(_:k<2 ^ 63)(_:xs.length * k.toNat≤aZ)(_:∀ p,H p=none→Q (.ref p) (upd H p (.lst (bt k.toNat xs).flatten)))
theorem len_rep (xs:List α)(k:Nat):(bt k xs).flatten.length=k * xs.length:=by
 induction k with
 | zero=>simp
 | succ k ih=>rw [iR,List.flatten_cons,ar,ih,Nat.succ_mul,Nat.add_comm]
theorem op_rep:OpR X (iu .Mult) rRep:=by
 intro aR s σ H x y v u Q I rx ry h;obtain ⟨l,k,xs,rfl,rfl,hH,h1,h2,hz,q⟩:=h;cases rx;obtain ⟨t,rfl⟩:=ry;obtain ⟨z,its,n,r,hl,e⟩:=I.lstM hH;have hlen:its.toArray.size * k.toNat≤aZ:=by rw [aG,←hl];exact hz
 have hcap:¬ its.toArray.size * k.toNat > (2 ^ 63 - 1) / 8:=by
  have:(aZ:Nat)≤(2 ^ 63 - 1) / 8:=by decide
  lia
 have hfit:¬ (!Builtin.List.listFitsIndex k)=true:=by
  rw [fitsIndex_both h1 h2];exact bo
 have hlong:¬ il (its.toArray.size * k.toNat)=true:=by
  rw [notLongL hlen];exact bo
 have hnew:List.foldl (fun x1 x2=>x1++x2) #[] (bt (if its.toArray.isEmpty=true then 0 else k.toNat) its.toArray)=(bt k.toNat its).flatten.toArray:=by
  have f0:∀ m:Nat,List.foldl (fun x1 x2=>x1++x2) #[] (bt m its.toArray)=(bt m its).flatten.toArray:=fun m=>by
   have:=foldl_rep its m [];rw [List.nil_append] at this;exact this
  rw [f0];cases its with
  | nil=>simp
  | cons a r'=>rw [qK (by simp)]
 refine wpAny_binaryOp_repeat_ref (T := "list") (U := "int") (by decide) ⟨_,e,rfl⟩ (fun s'=>typeIs_int s' k t) noFill_list_mul F.fills_int_mul F.slot_int_rmul repeat_list F.slot_int_index.lookup
  (call_meets F.slot_int_rmul (typeIs_int s k t) F.entry_int_rmul (F.args_int_rmul_2 _ _) (int___rmul___int_list k t l its.toArray n)
   ⟨e,rfl,⟨_,e,rfl⟩,call_meets F.slot_list_mul ⟨_,e,rfl⟩ F.entry_list_mul (F.args_list_mul_2 _ _) (AutoListH.list___mul___list_int_3 l its.toArray n k t hfit hcap hlong) ⟨e,?_⟩⟩)
 rw [hnew];exact ⟨.ref _,_,I.lnew (t':=s.toks) (r.rep k.toNat) (by rw [len_rep,iJ];exact hz),rfl,q _ I.fresh⟩
end L2
namespace Att
open PySem PySem.W PySem.Calls PyProof.Rows
theorem pE {P:Params}:∀ (ns:List Int) (vs:List ae),WellAll P h vs (ns.map WData.int)→IntsAre vs ns:=by
 intro ns
 induction ns with
 | nil =>
  intro vs w;rw [List.map_nil] at w;cases w;exact .nil
 | cons n ns ih =>
  intro vs w;rw [bR] at w;cases w with
  | cons a b =>
   cases a;exact .cons _ _ (ih _ b)
theorem script_of {l:OpenLaw}(hn:l.most=some n){P:Params}{args:List WData}{vals:List ae}
  (hpre:l.row.toRowW.claim.pre args=true) (hwl:WellAll P h vals args) :
  ∃ a vs ns,vals=[ae.ref a]∧args=[WData.list (ns.map WData.int)]∧h.get? a=some { cls:= .type "list",data:= .seq vs.toArray }∧IntsAre vs ns∧ns.length≤n:=by
 have hsh:WShape.hasAll [] args [.list .int]=true:=(pre_splitW hpre).1;have hc:l.pre.holds [] { args:=args }=true:=(pre_splitW hpre).2;obtain ⟨d,r,rfl,h1,h2⟩:=hasAllW_cons hsh;obtain rfl:=hasAllW_nil h2;obtain ⟨xs,rfl,h3⟩:=hasW_list h1;obtain ⟨ns,rfl⟩:=items_int h3;have hlen:ns.length≤n:=by
  unfold OpenLaw.pre at hc;have h4:(WTm.not (.lt (.lit (.int (n:Int))) (.len (.arg 0)))).holds [] { args:=[.list (ns.map .int)] }=true:=by
   have h4:=(holds_andW hc).1;rw [hn] at h4;exact h4
  have h5:=condW_of h4 (w_not (w_lt w_lit (w_len_list (w_arg rfl))));rw [aa] at h5;refine Nat.le_of_not_lt fun q=>?_
  have q':(n:Int)<((ns.length:Nat):Int):=by lia
  first
   | (rw [qN q'] at h5;exact qM h5 (by decide))
   | (simp at h5;lia)
 cases hwl with
 | cons w1 w2 =>
  cases w2;cases w1 with
  | list ho hall=>exact ⟨_,_,ns,rfl,rfl,ho,pE ns _ hall,hlen⟩
theorem post_true (l:OpenLaw)(args:List WData):l.row.toRowW.claim.post args (.bool true) args=true :=
 postW_of (r:=l.row.toRowW) (X:=(true == true))
  (show WShape.has [] (.bool true) .bool=true by first | rfl | decide | simp [WShape.has,WShape.arms,WShape.armsAll])
  (show (WTm.eq .res (.lit (.bool true))).value [] { args:=args,res:=some (.bool true),after:=args }=some (.bool (true == true)) from w_eq_bool (w_res rfl) w_lit) rfl
theorem attach_call {l:OpenLaw}{q:aW}{d:DefRec}
  (hn:l.most=some n) (hdf:d.params.defaults=[])
  (call:∀ (w:bx) (s₀ s₁:ax) (mg mb:Str→Option ae) (fa:aq) (o:Obj) (pm cd doc:ae) (a:aq) (vs:List ae) (ns:List Int),
   Ground q loose [] XP w s₀ mg mb s₁.heap→YP w s₁.heap →
   s₁.heap.get? fa=some o→o.data= .func (docDef d.name d.params d.body d.scope pm cd doc)→s₁.heap.CodeRec cd d.name→mg d.name=some (.ref fa) →
   s₁.heap.get? a=some { cls:= .type "list",data:= .seq vs.toArray }→IntsAre vs ns→ns.length≤n→s₁.gens= #[] →
   codeAny (bw l.prog w) callerA (.call (.ref fa) ⟨[.ref a],[]⟩) (fun r s'=>r= .ok (.ret (.bool true))∧OldK s₁.heap s'.heap∧s'.os=s₁.os∧AllBare s'.gens) s₁) :
  WalkO q loose XP YP l.row.toRowW d [] (fun f vs=>PySem.call f vs):=by
 intro w s₀ s₁ mg mb G Y fa o pm cd doc dV kV ho hd hcd hD hmg hg args vals as hpre hlay hrd hwl hlo;obtain rfl:dV= .none:=Dflts.none hD hdf;obtain rfl:kV= .none:=Dflts.noKw hD;obtain ⟨a,vs,ns,rfl,rfl,hobj,hints,hlen⟩:=script_of hn hpre hwl;refine enter_call (codeAny_mono (call w s₀ s₁ mg mb fa o pm cd doc a vs ns G Y ho (fd_plain hd) hcd hmg hobj hints hlen hg) fun r s' hq=>?_);obtain ⟨rfl,h2,h3,h4⟩:=hq;exact ⟨.inl ⟨.bool true,.bool true,[],rfl,fun _=>rfl,.bool true,post_true l _,fun _=>⟨List.Pairwise.nil,fun _ hm=>(nomatch hm)⟩⟩,h2,h3,h4⟩
end Att
namespace L2
open PySem PySem.Spec PyProof.Rows
theorem oH:∀ {vs:List ae} {ns:List Int},IntsAre vs ns→gi (ns.map V.int) vs
 | _,_,.nil=> .nil
 | _,_,.cons n t h=> .cons ⟨t,rfl⟩ (oH h)
abbrev CX0:CXT:=fun _ _ _ _ _ _=>False
abbrev E0:XK:=fun _ _ _=>False
theorem pass0:qH CX0 X E0:=fun _ _ _ _ _ _ _ h=>h.elim
structure Fun (K:au)(x qual:Str)(st:cJ)(f:aq)(fd:bp):Prop where
 ex:∃ (oc:ae) (od:Option aq) (kV doc pm:ae) (an:Option aq) (cdv ct:ae) (osl:Array (Option ae)),
  fd=dZ x qual (jC st) (gh st) (defScope st) .none kV doc pm an cdv ct∧K.lookup f=some ⟨oc,od,.func fd,osl⟩∧g9 K cdv qual=true
 kp:eM K (.ref f)=true
theorem Fun.ok {k:Nat}{sp:Sp}(F:Fun K x qual st f fd)(S:bY N ps (defScope st))(len:∀ vs H Q E,sp vs H Q E→vs.length=ps.length)
  (hbody:∀ (cdv:ae) (A:bW) (outer:List Env) (s:ax) (H:Hp) (vs:List V) (Q:VK) (E:XK),gN k (A.deeper (envOfC qual (defScope st) s.heap.objs.size f cdv))→sp vs H Q E →
   ∃ t,PSs (cxOf CX0 P w K mg base N qual (defScope st) f cdv A outer s H E).nox (gh st) t∧t { nx:=fun _ H'=>Q .non H',rt:=Q } (start N vs) H):cM P w K mg base CX0 (k+1) f fd ps sp:=by
 obtain ⟨oc,od,kV,doc,pm,an,cdv,ct,osl,rfl,lk,hcd⟩:=F.ex;refine fn_of lk hcd S len fun A outer s H vs Q E hr hsp=>?_
 obtain ⟨t,h,q⟩:=hbody cdv A outer s H vs Q E hr hsp;exact ⟨t,h.nox,q⟩
theorem Fun.binds (F:Fun K x qual st f fd)
  (h:∀ (kV doc pm:ae) (an:Option aq) (cdv ct:ae) (us:List ae),us.length=ps.length→bindArgs (dZ x qual (jC st) (gh st) (defScope st) .none kV doc pm an cdv ct) ⟨us,[]⟩=fU (ps.zip us)):n4 K fd ps []:=by
 obtain ⟨oc,od,kV,doc,pm,an,cdv,ct,osl,rfl,lk,hcd⟩:=F.ex;exact .all (h kV doc pm an cdv ct)
theorem pI {oc:ae}{od an:Option aq}{kV doc pm cdv ct:ae}(l:K.lookup f=some ⟨oc,od,.func (dZ x qual (jC st) (gh st) (defScope st) .none kV doc pm an cdv ct),osl⟩)
  (c:g9 K cdv qual=true) (k:eM K (.ref f)=true):Fun K x qual st f (dZ x qual (jC st) (gh st) (defScope st) .none kV doc pm an cdv ct):=⟨⟨oc,od,kV,doc,pm,an,cdv,ct,osl,rfl,l,c⟩,k⟩
theorem mS (h:n≤1000):n<aZ:=bU h (by decide)
theorem pv (i:Nat)(hN:X.N[i]? =some x:=by rfl)(hv:Vis X.env.scope x:=by first | exact Or.inl rfl | exact Or.inr (Or.inl rfl) | exact Or.inr (Or.inr rfl))(hd:(x == ("__debug__" :Str))=false:=by decide)
  (hcd:(x == ("__classdict__" :Str))=false:=by decide):PE X (.Name x pos) (tVar i):=pe_var hN hv hd hcd
theorem iteF {A:Prop}(h:B):if false=true then A else B:=by
 rw [qK bo];exact h
theorem iteT {A:Prop}(h:A):if true=true then A else B:=by
 rw [qL rfl];exact h
theorem pS {c A:Prop}[Decidable c](h1:c→A)(h2:¬ c→B):if c then A else B:=by
 by_cases h:c
 ·rw [qL h]
  exact h1 h
 ·rw [qK h]
  exact h2 h
def bH (H H':Hp):Prop:=∀ b o,H b=some o→H' b=some o
theorem bH.refl (H:Hp):bH H H:=fun _ _ h=>h
theorem bH.trans (a:bH H H1)(b:bH H1 H2):bH H H2:=fun c o h=>b c o (a c o h)
theorem bH.free (e:bH H H'){l:aq}(h:H' l=Option.none):H l=Option.none:=by
 cases q:H l with
 | none=>rfl
 | some o =>
  rw [e l o q] at h;cases h
theorem bH.seq (e:bH H H')(h:SqL K H a xs):SqL K H' a xs:=by
 rcases h with (h | ⟨o,h⟩) | h
 ·exact .inl (.inl (e _ _ h))
 ·exact .inl (.inr ⟨o,e _ _ h⟩)
 ·exact .inr h
theorem op_fdivB:OpR X (iu .FloorDiv) (rI (fun _ j=>0<j∧j.natAbs.log2<9000) fun i j=> .int (i / j)):=opI fun i j _ _ _ _ _ hc q=>by
 have e:i.fdiv j=i / j:=Int.fdiv_eq_ediv_of_nonneg i (Int.le_of_lt hc.1);refine floordiv_int (by have:=hc.1;lia) ?_ (.inl (PyProof.noPylong_of_log2 hc.2));rw [e];exact q
theorem bools_of:∀ {bs:List Bool} {us:List ae},gi (bs.map V.bl) us→LSm.BoolsAre us bs
 | [],_,.nil=> .nil
 | b::bs,_,.cons r t=>by
  cases (show _=ae.bool b from r);exact .cons b (bools_of t)
theorem call_all (hc:X.calm=true):jz X (.builtin "all") (fun xs H Q=>∃ (p:aq) (bs:List Bool),xs=[.ref p]∧SqL X.K H p (bs.map V.bl)∧Q (.bl (bs.all id)) H):=by
 intro aR s σ H xs us Q I r h;obtain ⟨p,bs,rfl,hq,q⟩:=h;obtain ⟨u,rfl,ru⟩:=mP r;cases (show u=ae.ref p from ru);obtain ⟨its,rv,pl,hz⟩:=I.list hq;have hb:=bools_of rv;have hil:s.heap.IsList p its.toArray:=pl.isList;have plt:p<s.heap.objs.size:=by obtain ⟨_,e,_⟩:=hil;exact aL e
 refine call_all_walk (gu hil ⟨s.heap.objs.size,[s.heap.objs.size,p],[s.heap.objs.size],its.toArray.size,_,_,fun i=>(bs[i]?).getD true,rfl,
  Walks.list (A:=X.A.in1) (I.ok.hd hc) _ p (bI plt) its.toArray,⟨⟨_,aX _ rfl,rfl,rfl⟩,hil.push _⟩,?_,?_⟩)
 ·intro i v s' Q' E' hP hT
  obtain ⟨b,e,rfl⟩:=hb.get i v (by simpa using hP);simp only [e,Option.getD_some] at hT;exact gq hT
 ·intro h' tk hk
  have e2:((aF its.toArray.size).all fun i=>(bs[i]?).getD true)=bs.all id:=by
   rw [aG,hb.length];exact LSm.range_all bs
  rw [e2];exact ⟨.bl _,H,I.kept (LSm.kept_iter hk),rfl,q⟩
theorem op_eqL0 (hu:X.A.units<cLine):OpR X (eP .Eq) (fun x y H Q=>∃ a b xs,x= .ref a∧y= .ref b∧SqL X.K H a xs∧SqL X.K H b []∧Q (.bl xs.isEmpty) H):=by
 intro aR s σ H x y v u Q I rx ry h;obtain ⟨a,b,xs,rfl,rfl,ha,hb,q⟩:=h;cases (show v=ae.ref a from rx);cases (show u=ae.ref b from ry);obtain ⟨its,r1,p1,_⟩:=I.list ha;obtain ⟨its2,r2,p2,_⟩:=I.list hb;cases r2;cases r1 with
 | nil=>exact SeqAt.eq_listAt (e:=fun _=>true) p1.isList p2.isList rfl hu (fun j h1 _=>qM h1 (by simp)) (eV I q (by simp))
 | cons _ _=>exact SeqAt.eq_list_lengthsAt p1.isList p2.isList (by simp) hu (eV I q (by simp))
def tyn (H:Hp):V→Option String
 | .non=>some "NoneType"
 | .bl _=>some "bool"
 | .int _=>some "int"
 | .str _=>some "str"
 | .ref a=>match H a with
  | some (.lst _)=>some "list"
  | some (.tup _)=>some "tuple"
  | some (.dK _)=>some "dict"
  | _=>none
 | _=>none
theorem TyOf.byName (h:tyn H v=some T):TyOf K H v (.type T):=by
 cases v with
 | non=>cases h;exact .non
 | bl b=>cases h;exact .bl b
 | int i=>cases h;exact .int i
 | str x=>cases h;exact .str x
 | ref a =>
  simp only [tyn] at h;cases e:H a with
  | none=>rw [e] at h;cases h
  | some o =>
   rw [e] at h;cases o <;> first | (cases h;first | exact .lst e | exact .tup e | exact .dK e) | cases h
 | _=>cases h
theorem kit_tuple (K:au)(h:T∈["NoneType","bool","int","str","list","tuple","dict"]):i6 K (.type T) (.type "tuple")=some (T == "tuple"):=by
 simp only [aI,cn,or_false] at h
 rcases h with rfl | rfl | rfl | rfl | rfl | rfl | rfl <;> kernel_rfl
theorem kit_int (K:au)(h:T∈["NoneType","bool","int","str","list","tuple","dict"]):i6 K (.type T) (.type "int")=some (T == "int" || T == "bool"):=by
 simp only [aI,cn,or_false] at h
 rcases h with rfl | rfl | rfl | rfl | rfl | rfl | rfl <;> kernel_rfl
theorem kit_bool (K:au)(h:T∈["NoneType","bool","int","str","list","tuple","dict"]):i6 K (.type T) (.type "bool")=some (T == "bool"):=by
 simp only [aI,cn,or_false] at h
 rcases h with rfl | rfl | rfl | rfl | rfl | rfl | rfl <;> kernel_rfl
theorem tyn_mem (h:tyn H v=some T):T∈["NoneType","bool","int","str","list","tuple","dict"]:=by
 cases v with
 | non=>cases h;simp
 | bl b=>cases h;simp
 | int i=>cases h;simp
 | str x=>cases h;simp
 | ref a =>
  simp only [tyn] at h;cases e:H a with
  | none=>rw [e] at h;cases h
  | some o =>
   rw [e] at h;cases o <;> first | (cases h;simp;done) | cases h
 | _=>cases h
theorem kW:jz X (.builtin "isinstance") (fun xs H Q=>∃ x n t b,xs=[x,.ty n]∧TyOf X.K H x t∧i6 X.K t (.type n)=some b∧Q (.bl b) H):=by
 intro aR s σ H xs us Q I r h;obtain ⟨x,n,t,b,rfl,ty,e,q⟩:=h;obtain ⟨u,w',rfl,ru,rw'⟩:=vals2 r;cases (show w'=ae.type n from rw');exact isinst_ok I ru ty e fun tk=>⟨.bl b,H,I.tok tk,rfl,q⟩
theorem call_isTup:jz X (.builtin "isinstance") (fun xs H Q=>∃ x T,xs=[x,.ty "tuple"]∧tyn H x=some T∧Q (.bl (T == "tuple")) H) :=
 fun aR s σ H xs us Q I r ⟨x,T,e,hT,q⟩=>kW aR s σ H xs us Q I r ⟨x,_,_,_,e,.byName hT,kit_tuple _ (tyn_mem hT),q⟩
theorem call_isInt:jz X (.builtin "isinstance") (fun xs H Q=>∃ x T,xs=[x,.ty "int"]∧tyn H x=some T∧Q (.bl (T == "int" || T == "bool")) H) :=
 fun aR s σ H xs us Q I r ⟨x,T,e,hT,q⟩=>kW aR s σ H xs us Q I r ⟨x,_,_,_,e,.byName hT,kit_int _ (tyn_mem hT),q⟩
theorem call_isBool:jz X (.builtin "isinstance") (fun xs H Q=>∃ x T,xs=[x,.ty "bool"]∧tyn H x=some T∧Q (.bl (T == "bool")) H) :=
 fun aR s σ H xs us Q I r ⟨x,T,e,hT,q⟩=>kW aR s σ H xs us Q I r ⟨x,_,_,_,e,.byName hT,kit_bool _ (tyn_mem hT),q⟩
inductive rCatA (K:au)(x:V)(y:V)(H:Hp)(Q:VK):Prop
 | mk (a b xs ys:_)(_:x= .ref a)(_:y= .ref b)(_:H a=some (.tup xs))(_:H b=some (.tup ys))(_:xs.length+ys.length≤aZ)(_:∀ p H',bH H H'→H' p=some (.tup (xs++ys))→Q (.ref p) H')
theorem kh:OpR X (iu .Add) (rCatA X.K):=by
 intro aR s σ H x y v u Q I rx ry h;obtain ⟨a,b,xs,ys,rfl,rfl,ha,hb,hz,q⟩:=h;cases xs with
 | cons x xs =>
  refine op_catT aR s σ H (.ref a) (.ref b) v u Q I rx ry ⟨a,b,_,ys,rfl,rfl,SqT.of ha,SqT.of hb,(by simp),hz,fun e=>?_,fun _ p hp=>?_⟩
  ·subst e
   exact q a H (bH.refl H) (by rw [de];exact ha)
  ·exact q p _ (fun c o e=>by rw [br (bC e hp)];exact e) aQ
 | nil =>
  cases (show v=ae.ref a from rx);cases (show u=ae.ref b from ry);obtain ⟨its,r1,p1,_⟩:=I.tuple (SqT.of (K:=X.K) ha);obtain ⟨its2,r2,p2,_⟩:=I.tuple (SqT.of (K:=X.K) hb);cases r1;obtain ⟨⟨c1,d1,t1,l1⟩,o1,k1,n1,g1⟩:=id p1;obtain ⟨⟨c2,d2,t2,l2⟩,o2,k2,n2,g2⟩:=id p2;simp only at k1 g1 k2 g2;subst k1 g1 k2 g2;exact concat_meets ⟨_,o1,rfl⟩ ⟨_,o2,rfl⟩ noFill_tuple_add seq_tuple_add PySem.F.slot_tuple_add kX (kF _ _)
   (tuple_addW0 a b _ its2.toArray n1 n2 d1 d2 l1 l2 (by simp)) ⟨o1,o2,⟨.ref b,H,I,rfl,q b H (bH.refl H) hb⟩⟩
def fQ (X:Cx)(scope:fO)(cl:List (Str×aq))(C:aq)(N:List Str)(s:ax)(H:Hp)(ex:List aq):Cx :=
 { X with N:=N,s₀:=s,H₀:=H,env:=compEnvC scope cl C X.env,outer:=X.stack,ex:=ex,fn:=fun _=>false,pn:=[],xe:=fun _ _=>False }
theorem pN (hf:∀ y∈scope.names,y.2= .free→∃ c,env.cells.lookup y.1=some c) :
  ∃ cl,closureFor scope env=fU cl∧(∀ x c,cl.lookup x=some c→env.cells.lookup x=some c)∧∀ y∈scope.names,y.2= .free→cl.lookup y.1=env.cells.lookup y.1:=by
 have aux:∀ (names:List (Str×cL)) (acc:List (Str×aq)),(∀ y∈names,y.2= .free→∃ c,env.cells.lookup y.1=some c)→(∀ x c,acc.lookup x=some c→env.cells.lookup x=some c) →
   ∃ cl,(forIn names acc fun x r=>match x with
     | (name,kind)=>if (kind == cL.free)=true then (cellOf env name >>= fun c=>fU (ForInStep.yield ((name,c)::r))) else fU (ForInStep.yield r):Sem (List (Str×aq)))=fU cl ∧
    (∀ x c,cl.lookup x=some c→env.cells.lookup x=some c)∧(∀ x c,acc.lookup x=some c→cl.lookup x=some c)∧∀ y∈names,y.2= .free→cl.lookup y.1=env.cells.lookup y.1:=by
  intro names
  induction names with
  | nil=>intro acc _ ha;exact ⟨acc,rfl,ha,fun _ _ e=>e,fun y hy=>qM hy (by simp)⟩
  | cons z r ih =>
   intro acc hn ha;obtain ⟨n,k⟩:=z;have hr:∀ y∈r,y.2= .free→∃ c,env.cells.lookup y.1=some c:=fun y hy=>hn y (az _ hy)
   by_cases hk:k= .free
   ·subst hk
    obtain ⟨c,hc⟩:=hn (n,.free) bJ rfl;have hc:env.cells.lookup n=some c:=hc;have ha':∀ x d,((n,c)::acc).lookup x=some d→env.cells.lookup x=some d:=fun x d e=>by
     rw [dg] at e;cases hx:x == n with
     | true =>
      rw [hx] at e;have e':c=d:=bG e;have ex:x=n:=eq_of_beq hx;rw [ex,←e'];exact hc
     | false=>rw [hx] at e;exact ha x d e
    obtain ⟨cl,e1,e2,e3,e4⟩:=ih ((n,c)::acc) hr ha';have iH:cellOf env n=fU c:=by unfold cellOf;rw [hc]
    refine ⟨cl,?_,e2,fun x d e=>?_,fun y hy hy2=>?_⟩
    ·rw [List.forIn_cons]
     show ((if (cL.free == cL.free)=true then (cellOf env n >>= fun c=>fU (ForInStep.yield ((n,c)::acc))) else fU (ForInStep.yield acc)) >>= _)=_;rw [qL (by decide:(cL.free == cL.free)=true),iH];exact e1
    ·have h1:((n,c)::acc).lookup x=some (if x == n then c else d):=by
      rw [dg];cases hx:x == n with
      | true=>rfl
      | false=>exact e
     have h2:=e3 x _ h1;have h3:=e2 x _ h2;have h4:=ha x d e;rw [h3] at h4;rw [h2];exact h4
    ·rcases aI.mp hy with rfl | hy3
     ·have h1:((n,c)::acc).lookup n=some c:=by rw [dg,beq_self_eq_true]
      show cl.lookup n=_;rw [e3 n c h1,hc]
     ·exact e4 y hy3 hy2
   ·have hb:(k == cL.free)=false:=by simpa using hk
    obtain ⟨cl,e1,e2,e3,e4⟩:=ih acc hr ha;refine ⟨cl,?_,e2,e3,fun y hy hy2=>?_⟩
    ·rw [List.forIn_cons]
     show ((if (k == cL.free)=true then (cellOf env n >>= fun c=>fU (ForInStep.yield ((n,c)::acc))) else fU (ForInStep.yield acc)) >>= _)=_;rw [hb];exact e1
    ·rcases aI.mp hy with rfl | hy3
     ·exact qM hy2 hk
     ·exact e4 y hy3 hy2
 obtain ⟨cl,e1,e2,_,e4⟩:=aux scope.names [] hf fun x c e=>by cases e
 refine ⟨cl,Eq.trans ?_ e1,e2,e4⟩;unfold closureFor
 first
  | rfl
  | (simp only [bind_pure];done)
  | (simp only [bind_pure];rfl)
  | (simp only [bind_pure]
     congr 1
     funext x r
     obtain ⟨n,k⟩:=x;cases (k == cL.free) <;> rfl)
theorem nQ {env:Env}:∀ {names:List (Str×cL)} {x:Str} {k':cL},
  (names.map fun (n,k)=>if (k == cL.free && env.scope.kind == .function && env.kindOf n == some .cell) then (n,cL.cell) else (n,k)).lookup x=some k' →
  names.lookup x=some k'∨(names.lookup x=some .free∧k'= .cell)
 | [],_,_,h=>by simp at h
 | (n,k)::r,x,k',h=>by
  have ih:= @nQ env r x k';rw [bR] at h;show eG x ((n,k)::r)=_∨(eG x ((n,k)::r)=_∧_);rw [dg]
  by_cases hq:(k == cL.free && env.scope.kind == .function && env.kindOf n == some .cell)=true
  ·have g:eG x ((if (k == cL.free && env.scope.kind == .function && env.kindOf n == some .cell)=true then (n,cL.cell) else (n,k))::_)=_:=h
   rw [qL hq,dg] at g;have hk:k= .free:=by
    rw [dk,dk] at hq;exact eq_of_beq hq.1.1
   cases hx:x == n with
   | true=>rw [hx] at g;rw [hk];exact .inr ⟨rfl,(bG g).symm⟩
   | false=>rw [hx] at g;exact ih g
  ·have g:eG x ((if (k == cL.free && env.scope.kind == .function && env.kindOf n == some .cell)=true then (n,cL.cell) else (n,k))::_)=_:=h
   rw [qK hq,dg] at g;cases hx:x == n with
   | true=>rw [hx] at g;exact .inl g
   | false=>rw [hx] at g;exact ih g
theorem oa {env:Env}(hk:env.scope.kind= .function){x:Str}(hx:env.kindOf x=some .cell):∀ {names:List (Str×cL)},names.lookup x=some .free →
  (names.map fun (n,k)=>if (k == cL.free && env.scope.kind == .function && env.kindOf n == some .cell) then (n,cL.cell) else (n,k)).lookup x=some .cell
 | [],h=>by simp at h
 | (n,k)::r,h=>by
  have ih:= @oa env hk x hx r;show eG x ((if (k == cL.free && env.scope.kind == .function && env.kindOf n == some .cell)=true then (n,cL.cell) else (n,k))::_)=some cL.cell;rw [dg] at h;cases hxn:x == n with
  | true =>
   rw [hxn] at h;have ek:k= .free:=bG h;have en:x=n:=eq_of_beq hxn;subst ek en;rw [qL (by rw [hk,hx];rfl),dg,beq_self_eq_true]
  | false =>
   rw [hxn] at h
   by_cases hq:(k == cL.free && env.scope.kind == .function && env.kindOf n == some .cell)=true
   ·rw [qL hq,dg,hxn];exact ih h
   ·rw [qK hq,dg,hxn];exact ih h
def PTs (X:Cx)(ifs:List Expr)(t:TT):Prop :=
 ∀ (aR:List (aq×Obj)) (s:ax) (σ:St) (H:Hp) (Q:Bool→Hp→Prop),Inv X aR σ H s→t σ H Q →
  bf (bw X.prog X.w) X.A (forIn ifs true fun c r=>if r=true then do let ok ← isTrue c X.env (eK c X.env);fU (ForInStep.yield ok) else fU (ForInStep.yield r)) (TP X aR σ Q) X.xe s
def tNoIf:TT:=fun _ H Q=>Q true H
theorem gc {A B:Hp→Prop}(h:A H):tNoIf σ H fun b H4=>if b=true then A H4 else B H4:=by
 show if true=true then A H else B H;rw [qL rfl];exact h
theorem gT:PTs X [] tNoIf:=fun _ _ _ H _ I h=>wpAny_tests_nil ⟨H,I,h⟩
theorem kQ {c:Expr}{t:TT}(h:PT X c t):PTs X [c] t:=fun aR s σ H Q I q=>wpAny_tests_one (h aR s σ H Q I q)
theorem HOk.take (x:HOk P w H h)(hn:H a=none)(new:i4 P w (upd H a o) h a o):HOk P w (upd H a o) h:=fun b u e=>by
 by_cases hb:b=a
 ·subst hb;rw [aQ] at e;cases e;exact new
 ·rw [br hb] at e
  exact (x b u e).stay (fun _ _ _ q=>q) (fun c q=>by rw [br (bC q hn)];exact q) fun c xs q=>by rw [br (bC q hn)];exact q
def cQ (σ:St)(js:List Nat):St:=js.map fun j=>(σ[j]?).getD none
def CompW (js:List Nat)(tt:TT)(te:TE)(σ:St)(Q:VK)(J:It)(H1:Hp):Prop:=∃ W:Nat→Nat→List V→Hp→Prop,(∃ m,W 0 m [] H1)∧∀ i m ys H2,W i m ys H2 →
 (J.stop i H2∧∀ D,H2 D=none→Q (.ref D) (upd H2 D (.lst ys))) ∨
 (J.go i H2∧ys.length<aZ∧∃ N:List V→Hp→Prop,(∀ ys' H',N ys' H'→∃ m',m'<m∧W (i+1) m' ys' H')∧∀ x H3,J.yld i H2 x H3→tt (some x::cQ σ js) H3 fun b H4 =>
  if b=true then te (some x::cQ σ js) H4 fun y H5=>N (ys++[y]) H5 else N ys H4)
def tComp (wi:TI)(js:List Nat)(tt:TT)(te:TE):TE:=fun σ H Q=>wi σ H fun J H1=>CompW js tt te σ Q J H1
abbrev lobj (us:List ae)(n:Nat):Obj:={ cls:= .type "list",data:= .seq us.toArray n }
section
variable {R:Result→ax→Prop}
abbrev qI (prog:aW)(w:bx)(A:bW)(env:Env)(R:Result→ax→Prop):ae→ax→Prop:=notedBy (bw prog w) A env fun x t=>R (.error x) t
theorem loop_any {it acc:ae}(J:Nat→ax→Prop)
  (step:∀ k t,J k t→bf (bw prog w) A (pyNext it) (fun r t1=>match r with
   | none=>R (.ok .next) t1
   | some v=>bf (bw prog w) A (letOwnedTupleGo tg it v) (fun _ t2=>bf (bw prog w) A (assign tg env v) (fun _ t3 =>
     bf (bw prog w) A (forIn ifs true fun c b=>if b=true then do let z ← isTrue c env (eK c env);fU (ForInStep.yield z) else fU (ForInStep.yield b)) (fun z t4 =>
      if z=true then bf (bw prog w) A (eK elt env) (fun y t5=>bf (bw prog w) A (call (.builtin "list.append") [acc,y]) (fun _ t6=>∃ m,m<k∧J m t6) (qI prog w A env R) t5) (qI prog w A env R) t4
      else ∃ m,m<k∧J m t4) (qI prog w A env R) t3) (qI prog w A env R) t2) (qI prog w A env R) t1) (qI prog w A env R) t)
  (k:Nat) (h:J k s):codeAny (bw prog w) A (.compLoop (.ListComp elt [⟨tg,iter,ifs,0⟩] scope pos) 0 it acc env) R s:=by
 refine codeAny_loop rfl J (fun k t hJ=>?_) k h;show bf _ A ((compTurn (.ListComp elt [⟨tg,iter,ifs,0⟩] scope pos) 0 it acc env).onRaise (fun y=>do noteFrame y env;theTreesLotGoes y)) _ _ t;refine wpAny_noted ?_;rw [compTurn_list];refine ak (wpAny_standAt (ak (cA (step k t hJ) (fun r t1 q1=>?_) fun _ _ f=>f)));cases r with
 | none=>exact aV q1
 | some v =>
  refine ak (cA q1 (fun _ t2 q2=>?_) fun _ _ f=>f);refine ak (cA q2 (fun _ t3 q3=>?_) fun _ _ f=>f);refine ak (cA q3 (fun z t4 q4=>?_) fun _ _ f=>f);cases z with
  | false=>exact aV ⟨rfl,q4⟩
  | true=>exact ak (ak (cA q4 (fun y t5 q5=>ak (cA q5 (fun _ t6 q6=>aV (aV ⟨rfl,q6⟩)) fun _ _ f=>f)) fun _ _ f=>f))
end
def nJ (n:Nat)(g:TG)(js:List Nat)(tt:TT)(te:TE)(σ:St)(Q:VK)(J:It)(H1:Hp):Prop:=∃ W:Nat→Nat→List V→Hp→Prop,(∃ m,W 0 m [] H1)∧∀ i m ys H2,W i m ys H2 →
 (J.stop i H2∧∀ D,H2 D=none→Q (.ref D) (upd H2 D (.lst ys))) ∨
 (J.go i H2∧ys.length<aZ∧∃ N:List V→Hp→Prop,(∀ ys' H',N ys' H'→∃ m',m'<m∧W (i+1) m' ys' H')∧∀ x H3,J.yld i H2 x H3→∀ v0:St,v0.length=n→g x (v0++cQ σ js) H3 fun σ4 H4 =>
  (∃ v1:St,v1.length=n∧σ4=v1++cQ σ js)∧tt σ4 H4 fun b H5=>if b=true then te σ4 H5 fun y H6=>N (ys++[y]) H6 else N ys H5)
def tCompT (wi:TI)(n:Nat)(g:TG)(js:List Nat)(tt:TT)(te:TE):TE:=fun σ H Q=>wi σ H fun J H1=>nJ n g js tt te σ Q J H1
theorem comp_core {Q:VK}{use:Option (ae→Sem Unit)}{R:ae→ax→Prop}{xs:List Str}
  (hc:X.calm=true) (hi:PI X tg iter wi)
  (iH:∀ y∈scope.names,y.2≠ .cell) (lM:scope.kind= .function) (kA:∀ y∈scope.names,y.2= .local→scope.names.lookup y.1=some .local)
  (hfr:∀ y∈scope.names,y.2= .free→X.env.scope.names.lookup y.1=some .cell) (hjs:js.map (fun j=>X.N[j]?)=fr.map some) (hfv:∀ y∈fr,scope.names.lookup y=some .free)
  (hg:∀ cl C s' H' ex,PG (fQ X scope cl C (xs++fr) s' H' ex) tg g)
  (hb:∀ cl C s' H' ex,PE (fQ X scope cl C (xs++fr) s' H' ex) elt te∧PTs (fQ X scope cl C (xs++fr) s' H' ex) ifs tt)
  (hCW:∀ σ Q J H1,CW σ Q J H1→nJ xs.length g js tt te σ Q J H1) (I:Inv X aR σ H s) (h:wi σ H fun J H1=>CW σ Q J H1)
  (fin:∀ (s4:ax) (H5:Hp) (D C:aq) (mC:Str→Option ae),s4.heap.Ns C mC→Inv X aR σ H5 s4→H5 C=none→C≠X.env.locals→C ∉ X.fs→(∀ p∈X.pn++aR,p.1≠C)→(∀ y c,X.env.cells.lookup y=some c→c≠C)→X.s₀.heap.objs.size≤C→Q (.ref D) H5→compPost (bw X.prog X.w) X.A X.xe use R (.ref D) C (.ok .next) s4)
  (hs:∀ z,fN iter X.env z=fU z:=by intro _;rfl) :
  bf (bw X.prog X.w) X.A (comprehension (.ListComp elt [⟨tg,iter,ifs,0⟩] scope pos) scope X.env pos' (newList []) false (eK iter X.env) use) R X.xe s:=by
 have hXk:X.env.scope.kind= .function:=I.ok.kind;obtain ⟨cl,hclos,c1,c2⟩:=pN (scope:=scope) (env:=X.env) fun y hy hk=>I.ok.has _ (.inl (hfr y hy hk))
 refine wpAny_comprehension_free rfl hs hclos lM kA (thn (hi aR s σ H _ I h) fun xv s1 h1=>thn h1 fun itv s2 h2=>?_);obtain ⟨it,fp,tn,J,H2,rfl,I2,T,st2,f2,hcw⟩:=h2;obtain ⟨W,⟨m0,w0⟩,turn⟩:=hCW _ _ _ _ hcw;refine fM (wpAny_newFunctionEnv iH (by intro y hy;simp at hy) (fun hA nsA sbA=>?_) lM)
 dsimp only at nsA sbA ⊢
 generalize hG:s2.heap.push { cls:= .type "list",dict:=none,data:= .seq ([]:List ae).toArray }=G at nsA sbA ⊢;have hC:G.objs.size=s2.heap.objs.size+1:=by rw [←hG,d8]
 have hDC:s2.heap.objs.size≠G.objs.size:=by rw [hC];exact bI (iK _)
 have small:∀ b o,s2.heap.get? b=some o→b≠G.objs.size∧b≠s2.heap.objs.size:=fun b o e=>⟨by rw [hC];exact bI (gj (aL e)),bI (aL e)⟩
 have old:∀ b o,s2.heap.get? b=some o→hA.get? b=some o:=fun b o e=>sbA.extBut b o (small b o e).1 (aw _ (hG ▸ aw _ e))
 have hDA:hA.get? s2.heap.objs.size=some (lobj [] 0):=sbA.extBut _ _ hDC (aw _ (hG ▸ aX _ rfl));have fpo:∀ b∈fp,∃ o,s2.heap.get? b=some o:=fun b hb=>let ⟨o,e,_⟩:=T.obj _ _ st2 b hb;⟨o,e⟩
 have celo:∀ y c,cl.lookup y=some c→∃ o,s2.heap.get? c=some o:=fun y c e=>let ⟨_,o,ho,_⟩:=I2.cell y c (c1 y c e);⟨o,ho⟩
 have ok':(fQ X scope cl G.objs.size (xs++fr) s2 H2 fp).Ok:=by
  refine ⟨I2.ok.mod,lM,I2.ok.glob,I2.ok.blt,?_,fun a b c e1 e2=>I2.ok.inj a b c (c1 a c e1) (c1 b c e2),fun y hy=>?_,fun _ _ z=>qM z (by intro q;cases q),I2.ok.hd,I2.ok.frames,.inl rfl,fun b hb=>?_,I2.bs,aM I2.ok.bsz I2.sz,fun b o e hb=>?_,fun b hb hz=>?_,I2.stack,I2.stkFree⟩
  ·show s2.heap.objs.size≤G.objs.size
   rw [hC];exact Nat.le_succ _
  ·have hy:(relabel scope X.env).names.lookup y=some .cell∨(relabel scope X.env).names.lookup y=some .free:=hy
   have key:scope.names.lookup y=some .free:=by
    rcases hy with hy | hy
    ·rcases nQ hy with q | ⟨q,_⟩
     ·exact qM rfl (iH _ (cq q))
     ·exact q
    ·rcases nQ hy with q | ⟨q,_⟩
     ·exact q
     ·exact q
   have hm:=cq key;obtain ⟨c,e⟩:=I.ok.has y (.inl (hfr _ hm rfl));exact ⟨c,(c2 _ hm rfl).trans e⟩
  ·obtain ⟨o,e⟩:=fpo b hb
   exact ⟨(small b o e).1,fun y c q=>(f2 b hb).2.2.2.2.1 y c (c1 y c q)⟩
  ·obtain ⟨_,_,_,f3,_⟩:=f2 b hb
   rcases f3 with f3 | f3
   ·exact I2.ok.noex b o e f3
   ·exact qM (aU (aL e) (aM I2.ok.bsz f3)) (fq _)
  ·obtain ⟨_,n1,n2,_⟩:=f2 b hb
   exact (aI.mp (I2.stkSub b hz)).elim n1 n2
 have nofs:s2.heap.objs.size ∉ frs X.stack:=fun hz=>by
  obtain ⟨_,o,ho,_⟩:=I2.stack.mem hz;exact fq _ (aL ho)
 have lenB:(cQ σ js).length=fr.length:=by
  have e:=qQ List.length hjs;rw [aa,aa] at e;unfold cQ;rw [aa];exact e
 have start':∀ t,Inv (fQ X scope cl G.objs.size (xs++fr) s2 H2 fp) [(s2.heap.objs.size,lobj [] 0)] ((xs.map fun _=>none)++cQ σ js) H2 { s2 with heap:=hA,toks:=t }:=fun t=>by
  refine ⟨ok',rfl,I2.bare,Un.kept old,⟨_,nsA,fun i y v e1 e2 e3=>?_⟩,fun y c e=>?_,I2.hok.fresh (by rw [hC];exact Nat.le_succ _),fun y c e=>I2.freeC y c (c1 y c e),fun p hp=>?_,I2.hok.kept old,?_⟩
  ·by_cases hix:i<xs.length
   ·rw [cN (by rw [aa];exact hix),ay,gE hix] at e2
    cases e2
   ·obtain ⟨i,rfl⟩:∃ j,i=xs.length+j:=⟨i - xs.length,by lia⟩
    have e1:(xs++fr)[xs.length+i]? =some y:=e1;have e1:fr[i]? =some y:=by rw [bu (by lia),show xs.length+i - xs.length=i by lia] at e1;exact e1
    have e2:(cQ σ js)[i]? =some (some v):=by rw [bu (by rw [aa];lia),aa,show xs.length+i - xs.length=i by lia] at e2;exact e2
    unfold cQ at e2;rw [ay] at e2;obtain ⟨j,ej,e2⟩:=aS.mp e2;have hN:X.N[j]? =some y:=by
     have q:=qQ (fun l=>l[i]?) hjs;simp only [ay,ej,e1,fX] at q;exact bG q
    have hσ:σ[j]? =some (some v):=by
     cases z:σ[j]? with
     | none=>rw [z] at e2;cases e2
     | some w=>rw [z] at e2;exact qQ some e2
    have hfree:=hfv y (aP e1);have hm:=cq hfree;have hce:X.env.scope.names.lookup y=some .cell:=hfr _ hm rfl;obtain ⟨m,_,hl⟩:=I2.loc;obtain ⟨u,ru,look⟩:=hl j y v hN hσ (.inr (.inl hce));refine ⟨u,ru,.inr ⟨.inl (oa hXk hce hfree),?_⟩⟩
    rcases look with ⟨k,_⟩ | ⟨_,c,ec,ho⟩
    ·have k:X.env.scope.names.lookup y=some .local:=k
     rw [hce] at k;cases k
    ·obtain ⟨o,ho,hd⟩:=ho
     exact ⟨c,(c2 _ hm rfl).trans ec,o,old c o ho,hd⟩
  ·obtain ⟨v,o,ho,hd⟩:=I2.cell y c (c1 y c e)
   exact ⟨v,o,old c o ho,hd⟩
  ·have hp:p∈[(s2.heap.objs.size,lobj [] 0)]:=hp
   have e:=av.mp hp;subst e;exact ⟨hDA,I2.hok.fresh (aA _),hDC,nofs,fun v z=>by cases z⟩
  ·show ((xs.map fun _=>none)++cQ σ js).length=(xs++fr).length
   rw [ar,ar,aa,lenB]
 have fok:∀ {us:List ae} {n:Nat} {H':Hp},(∀ b∈fp,H' b=none)→∀ b∈fp,FpOk (fQ X scope cl G.objs.size (xs++fr) s2 H2 fp) [(s2.heap.objs.size,lobj us n)] H' b:=fun {us n H'} hn b hb=>by
  obtain ⟨o,e⟩:=fpo b hb;refine ⟨hn b hb,(small b o e).1,fun hz=>(aI.mp (I2.stkSub b hz)).elim (f2 b hb).2.1 (f2 b hb).2.2.1,.inl hb,fun y c q=>(f2 b hb).2.2.2.2.1 y c (c1 y c q),fun p hp=>?_⟩;have hp:p∈[(s2.heap.objs.size,lobj us n)]:=hp;have ep:=av.mp hp;subst ep;exact fun z=>(small b o e).2 z.symm
 have loop:∀ sB:ax,(∃ t,sB={ s2 with heap:=hA,toks:=t }) →
   codeAny (bw X.prog X.w) X.A (.compLoop (.ListComp elt [⟨tg,iter,ifs,0⟩] scope pos) 0 (.ref it) (.ref s2.heap.objs.size) (compEnvC scope cl G.objs.size X.env))
    (compPost (bw X.prog X.w) X.A X.xe use R (.ref s2.heap.objs.size) G.objs.size) sB:=by
  rintro sB ⟨t,rfl⟩;refine loop_any (fun k s'=>∃ i ys us n v0 H',v0.length=xs.length∧Inv (fQ X scope cl G.objs.size (xs++fr) s2 H2 fp) [(s2.heap.objs.size,lobj us n)] (v0++cQ σ js) H' s'∧gi ys us∧ys.length≤aZ∧tn i s'.heap∧(∀ b∈fp,H' b=none)∧W i k ys H') ?_ m0
   ⟨0,[],[],0,xs.map fun _=>none,H2,aa ..,start' t,.nil,bg _,T.keep _ _ _ st2 fun b hb o e=>old b o e,fun b hb=>(f2 b hb).1,w0⟩
  rintro k s3 ⟨i,ys,us,n,v0,H3,hv0,I3,rv,hlen,st3,fr3,w3⟩
  rcases turn i k ys H3 w3 with ⟨stop,qn⟩ | ⟨go,hlt,N',hN',step⟩
  ·refine thn (T.done (fQ X scope cl G.objs.size (xs++fr) s2 H2 fp) rfl rfl rfl hc i _ s3 _ H3 _ I3 (fok fr3) st3 stop) fun r s4 ⟨hr,I4⟩=>?_
   subst hr;obtain ⟨mC,hnC,_⟩:=id I4.loc;obtain ⟨pD,nD,_,_,_⟩:=I4.pin (s2.heap.objs.size,lobj us n) (by show _∈[]++[_];simp);have pD:s4.heap.get? s2.heap.objs.size=some (lobj us n):=pD;have nD:H3 s2.heap.objs.size=none:=nD;have nC:H3 G.objs.size=none:=I4.free;have D2:∀ b o,s2.heap.get? b=some o→b≠s2.heap.objs.size:=fun b o e=>(small b o e).2
   have base4:Un (frs X.stack) fp H2 H3 s2.heap s4.heap:=I4.base;have u4:Un (frs X.stack) fp H2 (upd H3 s2.heap.objs.size (.lst ys)) s2.heap s4.heap :=
    {keep:=base4.keep
     slot:=base4.slot
     free:=fun b o e nb hx'=>by rw [br (D2 b o e)];exact base4.free b o e nb hx'
     there:=base4.there
     tups:=fun b xs e=>by have q:=base4.tups b xs e;rw [br (bC q nD)];exact q
     frzs:=fun b o u e=>by have q:=base4.frzs b o u e;rw [br (bC q nD)];exact q
     tbls:=fun b ps e=>by obtain ⟨more,q⟩:=base4.tbls b ps e;exact ⟨more,by rw [br (bC q nD)];exact q⟩ }
   have I5:Inv X aR σ (upd H3 s2.heap.objs.size (.lst ys)) s4:=I2.call' (s':=s4) (ch:=fp) I4.os u4 (I4.hok.take nD ⟨hlen,us,n,rv,pD⟩) I4.bare fun b hb=>by
    obtain ⟨_,g1,_,g3,g4,g5⟩:=f2 b hb;exact ⟨g3,g1,g4,g5⟩
   have locC:G.objs.size≠X.env.locals:=fun z=>by
    obtain ⟨_,⟨o,_,_,ho,_⟩,_⟩:=id I2.loc;exact (small _ o ho).1 z.symm
   have fsC:G.objs.size ∉ X.fs:=fun hz=>by
    obtain ⟨_,o,ho,_⟩:=I2.ok.funs.mem hz;have:=aU (aL ho) I2.sz;rw [hC] at this;exact fq _ (Nat.lt_of_succ_lt this)
   have pinX:∀ p∈X.pn++aR,p.1≠G.objs.size:=fun p hp=>(small _ _ (I2.pin p hp).1).1
   have nCu:(upd H3 s2.heap.objs.size (.lst ys)) G.objs.size=none:=by rw [br (dB hDC)];exact nC
   refine fin s4 _ _ _ mC hnC I5 nCu locC fsC pinX (fun y c q z=>?_) (aM I2.sz (by rw [hC];exact Nat.le_succ _)) (qn _ nD);obtain ⟨v,o,ho,_⟩:=I2.cell y c q;exact (small c o ho).1 z
  ·refine thn (T.item (fQ X scope cl G.objs.size (xs++fr) s2 H2 fp) rfl rfl rfl hc i _ s3 _ H3 _ I3 (fok fr3) st3 go) fun r s4 ⟨u,hr,h4⟩=>?_
   subst hr;refine thn h4 fun _ s5 ⟨v,H5,I5,r5,y5,st5,fr5⟩=>?_
   have I5':=I5.pinned (fok fr5) (T.obj _ _ st5);refine cA (hg cl G.objs.size s2 H2 fp _ s5 _ H5 v u _ I5' r5 (step v H5 y5 v0 hv0)) (fun _ s6 ⟨σ6,H6,I6,⟨w1,hw1,e6⟩,q6⟩=>?_) fun _ _ f=>f.elim
   subst e6;refine cA ((hb cl G.objs.size s2 H2 fp).2 _ s6 _ H6 _ I6 q6) (fun b s7 ⟨H7,I7,q7⟩=>?_) fun _ _ f=>f.elim
   have back:∀ {s8:ax} {H8:Hp},Inv (fQ X scope cl G.objs.size (xs++fr) s2 H2 fp) ([(s2.heap.objs.size,lobj us n)]++pinsAt fp s5.heap) (w1++cQ σ js) H8 s8→tn (i+1) s8.heap∧∀ b∈fp,H8 b=none:=fun {s8 H8} I8=>by
    refine ⟨T.keep _ _ _ st5 fun b hb o e=>(I8.pin (b,o) (aK _ (aK _ (lV hb e)))).1,fun b hb=>?_⟩;obtain ⟨o,e,_⟩:=T.obj _ _ st5 b hb;exact (I8.pin (b,o) (aK _ (aK _ (lV hb e)))).2.1
   cases b with
   | false =>
    obtain ⟨m',hm,w7⟩:=hN' _ _ q7;obtain ⟨t7,n7⟩:=back I7;exact ⟨m',hm,i+1,ys,us,n,w1,H7,hw1,I7.unpinned,rv,hlen,t7,n7,w7⟩
   | true =>
    refine cA ((hb cl G.objs.size s2 H2 fp).1 _ s7 _ H7 _ I7 q7) (fun y' s8 ⟨y,H8,I8,r8,q8⟩=>?_) fun _ _ f=>f.elim
    obtain ⟨m',hm,w8⟩:=hN' _ _ q8;obtain ⟨t8,n8⟩:=back I8;have I8':=I8.unpinned;obtain ⟨pD,nD,_,_,_⟩:=I8'.pin (s2.heap.objs.size,lobj us n) (by show _∈[]++[_];simp);have pD:s8.heap.get? s2.heap.objs.size=some (lobj us n):=pD;have nD:H8 s2.heap.objs.size=none:=nD;refine append_at pD (fun h9 hs9 e9=>?_) (by rw [aG,←rv.length];exact hlen);have e9:h9.get? s2.heap.objs.size=some (lobj (us++[y']) (n+1)):=by rw [e9];simp [lobj]
    have J0:Inv (fQ X scope cl G.objs.size (xs++fr) s2 H2 fp) [] (w1++cQ σ js) H8 s8:=I8'.pins_of fun p hp=>qM hp (by simp)
    have J9:Inv (fQ X scope cl G.objs.size (xs++fr) s2 H2 fp) [] (w1++cQ σ js) H8 { s8 with heap:=h9,toks:=s8.toks } :=
     J0.turned (it:=s2.heap.objs.size) (fun b o hb' e=>hs9.extBut b o hb' e) nD hDC (.inr (aA _)) (fun y0 c q z=>by
      obtain ⟨o,e⟩:=celo y0 c q;exact (small c o e).2 z) fun p hp=>qM (show p∈([]:List (aq×Obj)) from hp) (by simp)
    refine ⟨m',hm,i+1,ys++[y],us++[y'],n+1,w1,H8,hw1,J9.pins_of fun p hp=>?_,rv.append (.cons r8 .nil),(by rw [ar,d5];exact hlt),T.keep _ _ _ t8 fun b hb' o e=>hs9.extBut b o (by
     obtain ⟨o',e'⟩:=fpo b hb';exact (small b o' e').2) e,n8,w8⟩
    have ep:=av.mp hp;subst ep;exact ⟨e9,nD,hDC,nofs,fun v z=>by cases z⟩
 exact codeAny_compStart_list (loop _ ⟨_,rfl⟩) (T.self _ 0 _ _ _ (T.keep _ _ _ st2 fun b hb o e=>old b o e) (loop _ ⟨_,rfl⟩))
theorem pe_compC {xs:List Str}
  (hc:X.calm=true) (hi:PI X tg iter wi)
  (iH:∀ y∈scope.names,y.2≠ .cell) (lM:scope.kind= .function) (kA:∀ y∈scope.names,y.2= .local→scope.names.lookup y.1=some .local)
  (hfr:∀ y∈scope.names,y.2= .free→X.env.scope.names.lookup y.1=some .cell) (hjs:js.map (fun j=>X.N[j]?)=fr.map some) (hfv:∀ y∈fr,scope.names.lookup y=some .free)
  (hg:∀ cl C s' H' ex,PG (fQ X scope cl C (xs++fr) s' H' ex) tg g)
  (hb:∀ cl C s' H' ex,PE (fQ X scope cl C (xs++fr) s' H' ex) elt te∧PTs (fQ X scope cl C (xs++fr) s' H' ex) ifs tt)
  (hCW:∀ σ Q J H1,CW σ Q J H1→nJ xs.length g js tt te σ Q J H1) (hs:∀ z,fN iter X.env z=fU z:=by intro _;rfl) :
  PE X (.ListComp elt [⟨tg,iter,ifs,0⟩] scope pos) (fun σ H Q=>wi σ H fun J H1=>CW σ Q J H1):=by
 intro aR s σ H Q I h;rw [eval_ListComp];exact comp_core (use:=none) (R:=EP X aR σ Q) hc hi iH lM kA hfr hjs hfv hg hb hCW I h (fun s4 H5 D C mC n I5 nC lC fC pC cC sC q=>⟨mC,n,fun h' hsb=>⟨.ref D,H5,I5.turned (t':=s4.toks) (it:=C) (fun b o hb' e=>hsb.extBut b o hb' e) nC lC (.inr sC) cC pC,rfl,q⟩⟩) hs
theorem compW_T {Q:VK}{J:It}(h:CompW js tt te σ Q J H1):nJ 1 (nV 0) js tt te σ Q J H1:=by
 obtain ⟨W,w0,turn⟩:=h;refine ⟨W,w0,fun i m ys H2 hw=>?_⟩
 rcases turn i m ys H2 hw with h | ⟨h1,h2,N,h3,h4⟩
 ·exact .inl h
 ·refine .inr ⟨h1,h2,N,h3,fun x H3 hy v0 hv=>?_⟩
  obtain ⟨w,rfl⟩:∃ w,v0=[w]:=by
   obtain _ | ⟨w,v0⟩:=v0
   ·cases hv
   ·obtain _ | ⟨z,v0⟩:=v0
    ·exact ⟨w,rfl⟩
    ·cases hv
  exact ⟨⟨[some x],rfl,rfl⟩,h4 x H3 hy⟩
theorem gW {px:Pos}
  (hc:X.calm=true) (hi:PI X (.Name x px) iter wi)
  (iH:∀ y∈scope.names,y.2≠ .cell) (lM:scope.kind= .function) (kA:∀ y∈scope.names,y.2= .local→scope.names.lookup y.1=some .local) (hx:scope.names.lookup x=some .local)
  (hfr:∀ y∈scope.names,y.2= .free→X.env.scope.names.lookup y.1=some .cell) (hnd:(x::fr).Nodup) (hjs:js.map (fun j=>X.N[j]?)=fr.map some) (hfv:∀ y∈fr,scope.names.lookup y=some .free)
  (hb:∀ cl C s' H' ex,PE (fQ X scope cl C (x::fr) s' H' ex) elt te∧PTs (fQ X scope cl C (x::fr) s' H' ex) ifs tt)
  (hs:∀ z,fN iter X.env z=fU z:=by intro _;rfl) :
  PE X (.ListComp elt [⟨.Name x px,iter,ifs,0⟩] scope pos) (tComp wi js tt te) :=
 pe_compC (xs:=[x]) (g:=nV 0) hc hi iH lM kA hfr hjs hfv (fun _ _ _ _ _=>nU hnd rfl (.inl (eO hx)) (.inr (eO hx))) hb (fun _ _ _ _ h=>compW_T h) hs
theorem kf {Q:VK}(Pv:Nat→List V→Hp→Prop)(h0:Pv 0 [] H)(hl:∀ i ys H,i≤xs.length→Pv i ys H→SqT K H a xs∧ys.length≤i)(hz:xs.length≤aZ)
  (hs:∀ i x ys H,xs[i]? =some x→Pv i ys H→tt (some x::cQ σ js) H fun b H4=>if b=true then te (some x::cQ σ js) H4 fun y H5=>Pv (i+1) (ys++[y]) H5 else Pv (i+1) ys H4)
  (hd:∀ ys H,Pv xs.length ys H→∀ D,H D=none→Q (.ref D) (upd H D (.lst ys))):CompW js tt te σ Q (Itt K a) H:=by
 refine ⟨fun i m ys H=>i≤xs.length∧m=xs.length - i∧Pv i ys H,⟨_,bg _,rfl,h0⟩,fun i m ys H2 ⟨hi,hm,hp⟩=>?_⟩;obtain ⟨hq,hy⟩:=hl i ys H2 hi hp
 by_cases e:i=xs.length
 ·subst e
  exact .inl ⟨⟨xs,hq,aA _⟩,hd ys H2 hp⟩
 ·have hlt:i<xs.length:=dI hi e
  refine .inr ⟨⟨xs,_,hq,gE hlt⟩,by lia,Pv (i+1),fun ys' H' hp'=>⟨xs.length - (i+1),by lia,by lia,rfl,hp'⟩,fun x H3 hy3=>?_⟩;obtain ⟨e3,hx⟩:=hy3;subst e3;exact hs i x ys H3 (hx xs hq) hp
theorem nextT_item {j t:aq}{its}{v:ae}(jt:s.heap.IsTupleIter j t i)(tt:s.heap.IsTuple t its)(hv:its[i]? =some v)
  (q:∀ g,g.IsTupleIter j t (i+1)→cx j s.heap g→Q v { s with heap:=g }):bf (bw prog w) A (cT (.ref j)) Q E s:=by
 obtain ⟨ob,e1,e2,e3⟩:=id jt;obtain ⟨ot,g1,_,k,g2⟩:=tt;unfold cT;refine ak (dM (name:=d9 "__next__") jt.typeIs iP (fT iP jt.typeIs F.entry_tuple_iterator_next ?_ (F.args_tuple_iterator_next_1 _)));show bf _ _ (field (.ref j) 0 >>= _) _ _ s;refine ak (cS e1 e3 (x:= .ref t) rfl ?_);show bf _ _ (ite ((ae.ref t == ae.none)=true) _ _) _ _ s;rw [qK (fun z:(ae.ref t == ae.none)=true=>bo z)];show bf _ _ (field (.ref j) 1 >>= _) _ _ s;refine ak (cS e1 e3 (x:= .int i 0) rfl ?_);show bf _ _ (seqItems? (.ref t) >>= _) _ _ s;refine ak (iU g1 g2 ?_);simp only [cI,hv];refine ak (wpAny_setField e1 e3 (by simp) (aV ⟨v,rfl,aV (q _ ?_ (fY ..))⟩));exact ⟨_,bL.get?_update_self _ e1 (Obj.isFreed_of_fields (Obj.data_mapFields e3 _)),(Obj.cls_mapFields ..).trans e2,by rw [Obj.data_mapFields e3];simp [rawInt]⟩
theorem nextT_end {j t:aq}{its}(hh:A.handled=none)(jt:s.heap.IsTupleIter j t i)(tt:s.heap.IsTuple t its)(hv:its[i]? =none)
  (q:∀ g x,bL.ExtBut j s.heap g→(∃ o,g.get? x=some o∧o.cls= .type "StopIteration")→E (.ref x) { s with heap:=g }):bf (bw prog w) A (cT (.ref j)) Q E s:=by
 obtain ⟨ob,e1,e2,e3⟩:=id jt;obtain ⟨ot,g1,_,k,g2⟩:=tt;unfold cT;refine ak (dM (name:=d9 "__next__") jt.typeIs iP (fT iP jt.typeIs F.entry_tuple_iterator_next ?_ (F.args_tuple_iterator_next_1 _)));show bf _ _ (field (.ref j) 0 >>= _) _ _ s;refine ak (cS e1 e3 (x:= .ref t) rfl ?_);show bf _ _ (ite ((ae.ref t == ae.none)=true) _ _) _ _ s;rw [qK (fun z:(ae.ref t == ae.none)=true=>bo z)];show bf _ _ (field (.ref j) 1 >>= _) _ _ s;refine ak (cS e1 e3 (x:= .int i 0) rfl ?_);show bf _ _ (seqItems? (.ref t) >>= _) _ _ s;refine ak (iU g1 g2 ?_);simp only [cI,hv];refine ak (wpAny_rule (ak (wpAny_setField e1 e3 (by simp) ?_)));show bf _ _ (newExc (.type "StopIteration") [] >>= _) _ _ _;refine ak ?_;simp only [newExc,newTuple];refine ak (fM ?_ (by size_fits));refine ak (m:=firstArgMember _ _) (wpAny_of_eq (a:=ae.none) (by first | rfl | (unfold firstArgMember;rfl)) ?_);refine fM ?_ (by size_fits);simp only [raiseNew];refine ak (wpAny_handled ?_)
 first | rw [show A.in1.handled=none from hh] | rw [hh]
 exact ak (aV (wpAny_throw (q _ _ (((fY ..).extBut.push _).push _) ⟨_,aX _ rfl,rfl⟩)))
theorem Inv.turnAll {g:bL}(I:Inv X aR σ H s)(hf:∀ b∈ch,FpOk X aR H b)
  (k:∀ b o,b ∉ ch→s.heap.get? b=some o→g.get? b=some o) (hH:∀ b u,H b=some u→H' b=some u) (hN:∀ b o,s.heap.get? b=some o→H b=none→H' b=none) (hok:HOk X.prog X.w H' g):Inv X aR σ H' { s with heap:=g }:=by
 refine I.step (g':=s.gens) (d':=s.drawn) (t':=s.toks) (ch:=ch) (fun b hb=>?_) (fun b o _ _ hc e _=>k b o hc e) (fun b o _ _ hc e _=>⟨o.slots,k b o hc e⟩) (fun b o _ e n=>hN b o e n)
  (fun b o hc e=>⟨o,k b o hc e⟩) (fun b xs e=>hH b _ e) (fun b o u e=>hH b _ e) (fun b ps e=>⟨#[],by rw [hH b _ e];simp⟩) (fun m hm=>?_) hok I.bare
 ·obtain ⟨_,f1,_,f3,f4,f5⟩:=hf b hb
  exact ⟨f3,f1,f4,f5⟩
 ·obtain ⟨o,es,ep,ho,r⟩:=hm
  exact ⟨o,es,ep,k _ o (fun hb=>(hf _ hb).2.1 rfl) ho,r⟩
theorem bH.put (e:bH H H1){p:aq}(h:H1 p=none):bH H (upd H1 p o):=fun b u q=>by rw [br (bC (e b u q) h)];exact e b u q
theorem Inv.big (I:Inv X aR σ H s):iV<s.heap.objs.size:=by
 have h:bQ<s.heap.objs.size:=(I.mod.glob.keeps I.bk).lt;exact Nat.lt_trans (by decide) h
theorem dk_empty (h:bL)(hb:iV<h.objs.size):i4 P w H (h.push { cls:= .type "dict",data:= .dict #[] }) h.objs.size (.dK []) :=
 ⟨bg _,beq_eq_false_iff_ne.mpr (dB (bI hb)),[],.nil,bL.DictOf.new h⟩
def tDNewK:TE:=fun _ H Q=>∀ p,H p=none→Q (.ref p) (upd H p (.dK []))
theorem pe_dnewK:PE X (.Dict [] [] pos) tDNewK:=fun aR s σ H Q I h =>
 wpAny_Dict_empty ⟨.ref s.heap.objs.size,_,I.laid (a:=s.heap.objs.size) (o:= .dK []) (t':=s.toks) (fun _ _ q=>aw _ q) (aA _) (dk_empty s.heap I.big),rfl,h _ (I.hok.fresh (aA _))⟩
theorem PE.imp {t t':TE}(h:PE X e t)(i:∀ σ H Q,t' σ H Q→t σ H Q):PE X e t':=fun aR s σ H Q I q=>h aR s σ H Q I (i σ H Q q)
theorem OpR.imp {f:ae→ae→Sem ae}{r':R2}(h:OpR X f r)(i:∀ x y H Q,r' x y H Q→r x y H Q):OpR X f r':=fun aR s σ H x y v u Q I rx ry q=>h aR s σ H x y v u Q I rx ry (i x y H Q q)
theorem jz.imp {f:ae}{r r':List V→Hp→VK→Prop}(h:jz X f r)(i:∀ xs H Q,r' xs H Q→r xs H Q):jz X f r':=fun aR s σ H xs us Q I rv q=>h aR s σ H xs us Q I rv (i xs H Q q)
def tACut (t:TA):TA:=fun σ H R=>∃ R':List V→Hp→Prop,(∀ xs H,R' xs H→R xs H)∧t σ H R'
theorem PA.cut (h:PA X es t):PA X es (tACut t):=fun pos aR s σ H Q I ⟨R',i,q⟩ =>
 thn (h pos aR s σ H R' I q) fun us s' ⟨vs,H',I',rv,q'⟩=>⟨vs,H',I',rv,i _ _ q'⟩
def New (H:Hp)(o:HO)(Q:VK):Prop:=∀ p H',bH H H'→H' p=some o→Q (.ref p) H'
theorem New.of {Q:VK}(h:New H o Q):∀ p,H p=none→Q (.ref p) (upd H p o):=fun p hp=>h p _ (bH.put (bH.refl H) hp) aQ
def tTupA (t:TA):TE:=fun σ H Q=>t σ H fun xs H1=>xs.length≤aZ∧New H1 (.tup xs) Q
def tLstA (t:TA):TE:=fun σ H Q=>t σ H fun xs H1=>xs.length≤aZ∧New H1 (.lst xs) Q
theorem cY {x1}(h:PA X es t):PE X (.Tuple es x1 pos) (tTupA t):=(pe_tup h.cut).imp fun _ _ _ q=>⟨_,fun _ _ z=>⟨z.1,z.2.of⟩,q⟩
theorem kT (h:PA X es t):PE X (.List es pos) (tLstA t):=(iQ h.cut).imp fun _ _ _ q=>⟨_,fun _ _ z=>⟨z.1,z.2.of⟩,q⟩
theorem op_catL:OpR X (iu .Add) (fun x y H Q=>∃ l b xs zs,x= .ref l∧y= .ref b∧H l=some (.lst xs)∧H b=some (.lst zs)∧xs.length+zs.length≤aZ∧New H (.lst (xs++zs)) Q) :=
 op_cat.imp fun _ _ _ _ ⟨l,b,xs,zs,e1,e2,e3,e4,e5,q⟩=>⟨l,b,xs,zs,e1,e2,e3,e4,e5,q.of⟩
inductive Dt where
 | non | bl (b:Bool) | int (i:Int) | str (x:Str) | tup (ds:List Dt) | oth (T:String)
mutual
inductive IsD (H:Hp):V→Dt→Prop where
 | non:IsD H .non .non
 | bl (b:Bool):IsD H (.bl b) (.bl b)
 | int (i:Int):IsD H (.int i) (.int i)
 | str (x:Str):IsD H (.str x) (.str x)
 | tup {a:aq} {xs:List V} {ds:List Dt} (h:H a=some (.tup xs)) (r:dG H xs ds):IsD H (.ref a) (.tup ds)
 | lst {a:aq} {xs:List V} (h:H a=some (.lst xs)):IsD H (.ref a) (.oth "list")
 | dct {a:aq} {kvs:List (Key×V)} (h:H a=some (.dK kvs)):IsD H (.ref a) (.oth "dict")
inductive dG (H:Hp):List V→List Dt→Prop where
 | nil:dG H [] []
 | cons {x:V} {d:Dt} {xs:List V} {ds:List Dt} (h:IsD H x d) (r:dG H xs ds):dG H (x::xs) (d::ds)
end
mutual
theorem IsD.same {H H':Hp}(e:bH H H'):∀ {v:V} {d:Dt},IsD H v d→IsD H' v d
 | _,_,.non=> .non
 | _,_,.bl b=> .bl b
 | _,_,.int i=> .int i
 | _,_,.str x=> .str x
 | _,_,.tup h r=> .tup (e _ _ h) (dG.same e r)
 | _,_,.lst h=> .lst (e _ _ h)
 | _,_,.dct h=> .dct (e _ _ h)
theorem dG.same {H H':Hp}(e:bH H H'):∀ {vs:List V} {ds:List Dt},dG H vs ds→dG H' vs ds
 | _,_,.nil=> .nil
 | _,_,.cons h r=> .cons (IsD.same e h) (dG.same e r)
end
mutual
theorem IsD.inj {H:Hp}:∀ {v:V} {d e:Dt},IsD H v d→IsD H v e→d=e
 | _,_,_,.non,.non=>rfl
 | _,_,_,.bl _,.bl _=>rfl
 | _,_,_,.int _,.int _=>rfl
 | _,_,_,.str _,.str _=>rfl
 | _,_,_,.tup h r,q=>by
  cases q with
  | tup h' r'=>rw [h] at h';cases h';rw [dG.inj r r']
  | lst h'=>rw [h] at h';cases h'
  | dct h'=>rw [h] at h';cases h'
 | _,_,_,.lst h,q=>by
  cases q with
  | tup h' r'=>rw [h] at h';cases h'
  | lst h'=>rfl
  | dct h'=>rw [h] at h';cases h'
 | _,_,_,.dct h,q=>by
  cases q with
  | tup h' r'=>rw [h] at h';cases h'
  | lst h'=>rw [h] at h';cases h'
  | dct h'=>rfl
theorem dG.inj {H:Hp}:∀ {vs:List V} {ds es:List Dt},dG H vs ds→dG H vs es→ds=es
 | _,_,_,.nil,.nil=>rfl
 | _,_,_,.cons h r,.cons h' r'=>by rw [IsD.inj h h',dG.inj r r']
end
theorem dG.length:∀ {xs:List V} {ds:List Dt},dG H xs ds→xs.length=ds.length
 | _,_,.nil=>rfl
 | _,_,.cons _ r=>by rw [aN,aN,dG.length r]
theorem dG.get:∀ {xs:List V} {ds:List Dt} {i:Nat} {x:V},dG H xs ds→xs[i]? =some x→∃ d,ds[i]? =some d∧IsD H x d
 | _,_,_,_,.nil,e=>by simp at e
 | _,_,0,_,.cons h _,e=>by simp at e;subst e;exact ⟨_,rfl,h⟩
 | _,_,i+1,x,.cons _ r,e=>by
  obtain ⟨d,h1,h2⟩:=dG.get (i:=i) (x:=x) r (by simpa using e);exact ⟨d,by simpa using h1,h2⟩
theorem dG.at:∀ {xs:List V} {ds:List Dt} {i:Nat} {d:Dt},dG H xs ds→ds[i]? =some d→∃ x,xs[i]? =some x∧IsD H x d
 | _,_,_,_,.nil,e=>by simp at e
 | _,_,0,_,.cons h _,e=>by simp at e;subst e;exact ⟨_,rfl,h⟩
 | _,_,i+1,d,.cons _ r,e=>by
  obtain ⟨x,h1,h2⟩:=dG.at (i:=i) (d:=d) r (by simpa using e);exact ⟨x,by simpa using h1,h2⟩
theorem dG.append:∀ {xs ys:List V} {ds es:List Dt},dG H xs ds→dG H ys es→dG H (xs++ys) (ds++es)
 | _,_,_,_,.nil,s=>s
 | _,_,_,_,.cons h r,s=> .cons h (dG.append r s)
theorem dG.ints:∀ (ns:List Int),dG H (ns.map V.int) (ns.map Dt.int)
 | []=> .nil
 | n::r=> .cons (.int n) (dG.ints r)
theorem dG.ints_of:∀ {xs:List V} {ns:List Int},dG H xs (ns.map Dt.int)→xs=ns.map V.int
 | _,[],.nil=>rfl
 | _,n::r,.cons h q=>by cases h;rw [dG.ints_of q];rfl
theorem IsD.tup_of {ds:List Dt}(h:IsD H v (.tup ds)):∃ a xs,v= .ref a∧H a=some (.tup xs)∧dG H xs ds:=by
 cases h with
 | tup h r=>exact ⟨_,_,rfl,h,r⟩
def Dt.ty:Dt→String
 | .non => "NoneType" | .bl _ => "bool" | .int _ => "int" | .str _ => "str" | .tup _ => "tuple" | .oth T=>T
theorem IsD.tyn {d:Dt}(h:IsD H v d):tyn H v=some d.ty:=by
 cases h with
 | tup h r=>simp only [L2.tyn];rw [h];rfl
 | lst h=>simp only [L2.tyn];rw [h];rfl
 | dct h=>simp only [L2.tyn];rw [h];rfl
 | _=>rfl
mutual
def eqD:Dt→Dt→Bool
 | .non,.non=>true
 | .bl a,.bl b=>a == b
 | .bl a,.int b=>(if a then 1 else 0) == b
 | .int a,.bl b=>a == (if b then 1 else 0)
 | .int a,.int b=>a == b
 | .str a,.str b=>a == b
 | .tup xs,.tup ys=>pV xs ys
 | _,_=>false
def pV:List Dt→List Dt→Bool
 | [],[]=>true
 | x::xs,y::ys=>eqD x y && pV xs ys
 | _,_=>false
end
mutual
def pl:Dt→Bool
 | .oth _=>false
 | .tup ds=>pls ds
 | _=>true
def pls:List Dt→Bool
 | []=>true
 | d::ds=>pl d && pls ds
end
mutual
def dep:Dt→Nat
 | .tup ds=>deps ds+1
 | _=>0
def deps:List Dt→Nat
 | []=>0
 | d::ds=>max (dep d) (deps ds)
end
mutual
theorem eqD_refl:∀ d:Dt,pl d=true→eqD d d=true
 | .non,_=>by unfold eqD;rfl
 | .bl b,_=>by unfold eqD;exact beq_self_eq_true b
 | .int i,_=>by unfold eqD;exact beq_self_eq_true i
 | .str x,_=>by unfold eqD;exact beq_self_eq_true x
 | .tup ds,h=>by
  unfold eqD;unfold pl at h;exact eqDs_refl ds h
 | .oth T,h=>by unfold pl at h;cases h
theorem eqDs_refl:∀ ds:List Dt,pls ds=true→pV ds ds=true
 | [],_=>by unfold pV;rfl
 | d::ds,h=>by
  unfold pV;unfold pls at h;rw [dk] at h;rw [eqD_refl d h.1,eqDs_refl ds h.2];rfl
end
theorem eqD_tup (xs ys:List Dt):eqD (.tup xs) (.tup ys)=pV xs ys:=by unfold eqD;rfl
theorem oE:∀ (ds es:List Dt),pV ds es=((aF (min ds.length es.length)).all (fun j=>eqD (ds.getD j .non) (es.getD j .non)) && ds.length == es.length)
 | [],[]=>by unfold pV;rfl
 | [],e::es=>by unfold pV;simp
 | d::ds,[]=>by unfold pV;simp
 | d::ds,e::es=>by
  unfold pV;rw [oE ds es];rw [aN,aN];have h1:min (ds.length+1) (es.length+1)=min ds.length es.length+1:=by lia
  rw [h1,List.range_succ_eq_map,List.all_cons,List.all_map];have h2:((ds.length+1) == (es.length+1))=(ds.length == es.length):=by rw [j7];simp
  rw [h2,Bool.and_assoc];rfl
theorem mH:∀ {ds:List Dt} {i:Nat} {d:Dt},pls ds=true→ds[i]? =some d→pl d=true
 | [],_,_,_,e=>by simp at e
 | d::ds,0,_,h,e=>by
  unfold pls at h;rw [dk] at h;simp at e;subst e;exact h.1
 | d::ds,i+1,x,h,e=>by
  unfold pls at h;rw [dk] at h;exact mH (i:=i) h.2 (by simpa using e)
theorem oF:∀ {ds:List Dt} {i:Nat} {d:Dt},ds[i]? =some d→dep d≤deps ds
 | [],_,_,e=>by simp at e
 | d::ds,0,_,e=>by
  simp at e;subst e;unfold deps;exact Nat.le_max_left _ _
 | d::ds,i+1,x,e=>by
  have:=oF (ds:=ds) (i:=i) (d:=x) (by simpa using e);unfold deps;exact aM this (Nat.le_max_right _ _)
theorem Inv.tupD {ds:List Dt}(I:Inv X aR σ H s)(h:IsD H v (.tup ds))(r:gI v u):∃ a its,u= .ref a∧v= .ref a∧s.heap.IsTuple a its.toArray∧∃ xs,gi xs its∧dG H xs ds∧its.length=ds.length:=by
 obtain ⟨a,xs,rfl,ha,hd⟩:=h.tup_of;cases (show u=ae.ref a from r);obtain ⟨its,rv,p,_⟩:=I.tuple (SqT.of (K:=X.K) ha);exact ⟨a,its,rfl,rfl,p,xs,rv,hd,by rw [←rv.length,hd.length]⟩
theorem eqAt_D:∀ (n:Nat) {A:bW} {x y:V} {u v:ae} {d e:Dt},dep d≤n→A.units+n<cLine→Inv X aR σ H s→IsD H x d→IsD H y e→gI x u→gI y v→pl d=true→pl e=true→SeqAt.EqAt A s u v (eqD d e):=by
 intro n
 induction n with
 | zero =>
  intro A x y u v d e hd hu I ix iy rx ry px py;cases ix with
  | tup h r=>unfold dep at hd;lia
  | lst h=>unfold pl at px;cases px
  | dct h=>unfold pl at px;cases px
  | non =>
   cases iy with
   | tup h' r' =>
    obtain ⟨a,its,rfl,_,hb,_⟩:=I.tupD (.tup h' r') ry;cases rx;exact SeqAt.EqAt.none_tuple hb (by lia)
   | lst h'=>unfold pl at py;cases py
   | dct h'=>unfold pl at py;cases py
   | non=>exact ju rx ry rfl rfl
   | bl b=>exact ju rx ry rfl rfl
   | int b=>exact ju rx ry rfl rfl
   | str b=>exact ju rx ry rfl rfl
  | bl b =>
   cases iy with
   | tup h' r' =>
    obtain ⟨a,its,rfl,_,hb,_⟩:=I.tupD (.tup h' r') ry;cases rx;exact SeqAt.EqAt.bool_tuple b hb (by lia)
   | lst h'=>unfold pl at py;cases py
   | dct h'=>unfold pl at py;cases py
   | non=>exact ju rx ry rfl rfl
   | bl b=>exact ju rx ry rfl rfl
   | int b=>exact ju rx ry rfl rfl
   | str b=>exact ju rx ry rfl rfl
  | int i =>
   cases iy with
   | tup h' r' =>
    obtain ⟨a,its,rfl,_,hb,_⟩:=I.tupD (.tup h' r') ry;obtain ⟨t,rfl⟩:=rx;exact SeqAt.EqAt.int_tuple i t hb (by lia)
   | lst h'=>unfold pl at py;cases py
   | dct h'=>unfold pl at py;cases py
   | non=>exact ju rx ry rfl rfl
   | bl b=>exact ju rx ry rfl rfl
   | int b=>exact ju rx ry rfl rfl
   | str b=>exact ju rx ry rfl rfl
  | str z =>
   cases iy with
   | tup h' r' =>
    obtain ⟨a,its,rfl,_,hb,_⟩:=I.tupD (.tup h' r') ry;obtain ⟨t,rfl⟩:=rx;exact SeqAt.EqAt.str_tuple z t hb (by lia)
   | lst h'=>unfold pl at py;cases py
   | dct h'=>unfold pl at py;cases py
   | non=>exact ju rx ry rfl rfl
   | bl b=>exact ju rx ry rfl rfl
   | int b=>exact ju rx ry rfl rfl
   | str b=>exact ju rx ry rfl rfl
 | succ n ih =>
  intro A x y u v d e hd hu I ix iy rx ry px py
  by_cases hz:dep d=0
  ·
   cases ix with
   | tup h r=>unfold dep at hz;lia
   | lst h=>unfold pl at px;cases px
   | dct h=>unfold pl at px;cases px
   | non=>exact ih (by rw [hz];exact bg _) (by lia) I .non iy rx ry px py
   | bl b=>exact ih (by rw [hz];exact bg _) (by lia) I (.bl b) iy rx ry px py
   | int i=>exact ih (by rw [hz];exact bg _) (by lia) I (.int i) iy rx ry px py
   | str z=>exact ih (by rw [hz];exact bg _) (by lia) I (.str z) iy rx ry px py
  ·cases ix with
   | lst h=>unfold pl at px;cases px
   | dct h=>unfold pl at px;cases px
   | non=>exact qM (by unfold dep;rfl) hz
   | bl b=>exact qM (by unfold dep;rfl) hz
   | int i=>exact qM (by unfold dep;rfl) hz
   | str z=>exact qM (by unfold dep;rfl) hz
   | tup h r =>
    rename_i a xs ds;cases (show u=ae.ref a from rx);obtain ⟨its,rv,p,_⟩:=I.tuple (SqT.of (K:=X.K) h);have p:s.heap.IsTuple a its.toArray:=p;cases iy with
    | lst h'=>unfold pl at py;cases py
    | dct h'=>unfold pl at py;cases py
    | non=>cases ry;exact SeqAt.EqAt.tuple_none p (by lia)
    | bl b=>cases ry;exact SeqAt.EqAt.tuple_bool b p (by lia)
    | int b=>obtain ⟨t,rfl⟩:=ry;exact SeqAt.EqAt.tuple_int b t p (by lia)
    | str b=>obtain ⟨t,rfl⟩:=ry;exact SeqAt.EqAt.tuple_str b t p (by lia)
    | tup h' r' =>
     rename_i b ys es;cases (show v=ae.ref b from ry)
     by_cases hab:a=b
     ·subst hab
      have e1:Dt.tup ds=Dt.tup es:=IsD.inj (.tup h r) (.tup h' r');rw [e1];rw [eqD_refl _ py];exact SeqAt.EqAt.same _
     ·obtain ⟨its2,rv2,p2,_⟩:=I.tuple (SqT.of (K:=X.K) h')
      have p2:s.heap.IsTuple b its2.toArray:=p2;have l1:its.length=ds.length:=by rw [←rv.length,r.length]
      have l2:its2.length=es.length:=by rw [←rv2.length,r'.length]
      have pd:pls ds=true:=by unfold pl at px;exact px
      have pe:pls es=true:=by unfold pl at py;exact py
      have hd':deps ds≤n:=by unfold dep at hd;lia
      have key:=SeqAt.RcAt.tuples (A:=A) (e:=fun j=>eqD (ds.getD j .non) (es.getD j .non)) p p2 (by lia) fun j h1 h2=>by
       have h1':j<its.length:=by simpa using h1
       have h2':j<its2.length:=by simpa using h2
       obtain ⟨x',ex,dx⟩:=r.at (i:=j) (d:=ds[j]'(by lia)) (gE (by lia));obtain ⟨y',ey,dy⟩:=r'.at (i:=j) (d:=es[j]'(by lia)) (gE (by lia));obtain ⟨u',eu,ru⟩:=rv.get ex;obtain ⟨v',ev,rw'⟩:=rv2.get ey;have eu':its[j]=u':=by rw [gE h1'] at eu;exact bG eu
       have ev':its2[j]=v':=by rw [gE h2'] at ev;exact bG ev
       have g1:ds.getD j .non=ds[j]'(by lia):=by rw [ai,gE (by lia)];rfl
       have g2:es.getD j .non=es[j]'(by lia):=by rw [ai,gE (by lia)];rfl
       show SeqAt.EqAt A.in1 s (its.toArray[j]) (its2.toArray[j]) (eqD (ds.getD j .non) (es.getD j .non));rw [gf,gf,eu',ev',g1,g2];exact ih (aM (oF (gE (by lia))) hd') (by show A.units+1+n<cLine;lia) I dx dy ru rw' (mH pd (gE (by lia))) (mH pe (gE (by lia)))
      have e2:eqD (.tup ds) (.tup es)=((aF (min its.toArray.size its2.toArray.size)).all (fun j=>eqD (ds.getD j .non) (es.getD j .non)) && its.toArray.size == its2.toArray.size):=by
       rw [eqD_tup,oE,aG,aG,l1,l2]
      rw [e2];exact SeqAt.EqAt.of_refs hab key
theorem op_eqD (hu:X.A.units+64<cLine):OpR X (eP .Eq) (fun x y H Q=>∃ ds es,IsD H x (.tup ds)∧IsD H y (.tup es)∧pls ds=true∧pls es=true∧deps ds<60∧Q (.bl (pV ds es)) H):=by
 intro aR s σ H x y v u Q I rx ry h;obtain ⟨ds,es,ix,iy,pd,pe,hd,q⟩:=h;obtain ⟨a,xs,rfl,ha,r⟩:=ix.tup_of;obtain ⟨b,ys,rfl,hb,r'⟩:=iy.tup_of;cases (show v=ae.ref a from rx);cases (show u=ae.ref b from ry);obtain ⟨its,rv,p,_⟩:=I.tuple (SqT.of (K:=X.K) ha);obtain ⟨its2,rv2,p2,_⟩:=I.tuple (SqT.of (K:=X.K) hb);have p:s.heap.IsTuple a its.toArray:=p;have p2:s.heap.IsTuple b its2.toArray:=p2;have l1:its.length=ds.length:=by rw [←rv.length,r.length]
 have l2:its2.length=es.length:=by rw [←rv2.length,r'.length]
 refine SeqAt.eq_tupleAt (e:=fun j=>eqD (ds.getD j .non) (es.getD j .non)) p p2 (by lia) (fun j h1 h2=>?_) (eV I q ?_)
 ·have h1':j<its.length:=by simpa using h1
  have h2':j<its2.length:=by simpa using h2
  obtain ⟨x',ex,dx⟩:=r.at (i:=j) (d:=ds[j]'(by lia)) (gE (by lia));obtain ⟨y',ey,dy⟩:=r'.at (i:=j) (d:=es[j]'(by lia)) (gE (by lia));obtain ⟨u',eu,ru⟩:=rv.get ex;obtain ⟨v',ev,rw'⟩:=rv2.get ey;have eu':its[j]=u':=by rw [gE h1'] at eu;exact bG eu
  have ev':its2[j]=v':=by rw [gE h2'] at ev;exact bG ev
  have g1:ds.getD j .non=ds[j]'(by lia):=by rw [ai,gE (by lia)];rfl
  have g2:es.getD j .non=es[j]'(by lia):=by rw [ai,gE (by lia)];rfl
  show SeqAt.EqAt X.A.in1 s (its.toArray[j]) (its2.toArray[j]) (eqD (ds.getD j .non) (es.getD j .non));rw [gf,gf,eu',ev',g1,g2];exact eqAt_D 60 (aM (oF (gE (by lia))) (by lia)) (by show X.A.units+1+60<cLine;lia) I dx dy ru rw' (mH pd (gE (by lia))) (mH pe (gE (by lia)))
 ·rw [oE,aG,aG,l1,l2]
end L2
variable {ds:List L2.Dt}{fo:List (List (Int×Int)×L2.Dt)}
namespace L2
open PySem PySem.Spec PyProof.Rows
theorem i3:jz X (.type "tuple") (fun xs H Q=>∃ p ys,xs=[.ref p]∧SqL X.K H p ys∧New H (.tup ys) Q) :=
 call_tuple_of.imp fun _ _ _ ⟨p,ys,e,h,q⟩=>⟨p,ys,e,.inl ⟨h,q.of⟩⟩
theorem kit_str (K:au)(h:T∈["NoneType","bool","int","str","list","tuple","dict"]):i6 K (.type T) (.type "str")=some (T == "str"):=by
 simp only [aI,cn,or_false] at h
 rcases h with rfl | rfl | rfl | rfl | rfl | rfl | rfl <;> kernel_rfl
theorem call_isStr:jz X (.builtin "isinstance") (fun xs H Q=>∃ x T,xs=[x,.ty "str"]∧tyn H x=some T∧Q (.bl (T == "str")) H) :=
 fun aR s σ H xs us Q I r ⟨x,T,e,hT,q⟩=>kW aR s σ H xs us Q I r ⟨x,_,_,_,e,.byName hT,kit_str _ (tyn_mem hT),q⟩
theorem jv {Q:VK}(Pv:Nat→List V→Hp→Prop)(h0:Pv 0 [] H)(hl:∀ i ys H,i≤xs.length→Pv i ys H→SqL K H a xs∧ys.length≤i)(hz:xs.length≤aZ)
  (hs:∀ i x ys H,xs[i]? =some x→Pv i ys H→tt (some x::cQ σ js) H fun b H4=>if b=true then te (some x::cQ σ js) H4 fun y H5=>Pv (i+1) (ys++[y]) H5 else Pv (i+1) ys H4)
  (hd:∀ ys H,Pv xs.length ys H→∀ D,H D=none→Q (.ref D) (upd H D (.lst ys))):CompW js tt te σ Q (Itl K a) H:=by
 refine ⟨fun i m ys H=>i≤xs.length∧m=xs.length - i∧Pv i ys H,⟨_,bg _,rfl,h0⟩,fun i m ys H2 ⟨hi,hm,hp⟩=>?_⟩;obtain ⟨hq,hy⟩:=hl i ys H2 hi hp
 by_cases e:i=xs.length
 ·subst e
  exact .inl ⟨⟨xs,hq,aA _⟩,hd ys H2 hp⟩
 ·have hlt:i<xs.length:=dI hi e
  refine .inr ⟨⟨xs,_,hq,gE hlt⟩,by lia,Pv (i+1),fun ys' H' hp'=>⟨xs.length - (i+1),by lia,by lia,rfl,hp'⟩,fun x H3 hy3=>?_⟩;obtain ⟨e3,hx⟩:=hy3;subst e3;exact hs i x ys H3 (hx xs hq) hp
theorem kD {Q:VK}(Pv:Nat→List V→Hp→Prop)(h0:Pv 0 [] H)(hl:∀ i ys H,i≤n→Pv i ys H→ys.length≤i)(hz:n≤aZ)
  (hs:∀ (i:Nat) ys H,i<n→Pv i ys H→tt (some (.int (lo+i))::cQ σ js) H fun b H4=>if b=true then te (some (.int (lo+i))::cQ σ js) H4 fun y H5=>Pv (i+1) (ys++[y]) H5 else Pv (i+1) ys H4)
  (hd:∀ ys H,Pv n ys H→∀ D,H D=none→Q (.ref D) (upd H D (.lst ys))):CompW js tt te σ Q (Itr lo n) H:=by
 refine ⟨fun i m ys H=>i≤n∧m=n - i∧Pv i ys H,⟨_,bg _,rfl,h0⟩,fun i m ys H2 ⟨hi,hm,hp⟩=>?_⟩;have hy:=hl i ys H2 hi hp
 by_cases e:i=n
 ·subst e
  exact .inl ⟨aA _,hd ys H2 hp⟩
 ·have hlt:i<n:=dI hi e
  refine .inr ⟨hlt,by lia,Pv (i+1),fun ys' H' hp'=>⟨n - (i+1),by lia,by lia,rfl,hp'⟩,fun x H3 hy3=>?_⟩;obtain ⟨e3,hx⟩:=hy3;subst e3 hx;exact hs i ys H3 hlt hp
theorem ps_setCC {py:Pos}{xs:List Str}
  (hN0:X.N.Nodup) (hi0:X.N[iy]? =some y0) (hx0:Loc X.env.scope y0) (hc:X.calm=true) (hi:PI X tg iter wi)
  (iH:∀ y∈scope.names,y.2≠ .cell) (lM:scope.kind= .function) (kA:∀ y∈scope.names,y.2= .local→scope.names.lookup y.1=some .local)
  (hfr:∀ y∈scope.names,y.2= .free→X.env.scope.names.lookup y.1=some .cell) (hjs:js.map (fun j=>X.N[j]?)=fr.map some) (hfv:∀ y∈fr,scope.names.lookup y=some .free)
  (hg:∀ cl C s' H' ex,PG (fQ X scope cl C (xs++fr) s' H' ex) tg g)
  (hb:∀ cl C s' H' ex,PE (fQ X scope cl C (xs++fr) s' H' ex) elt te∧PTs (fQ X scope cl C (xs++fr) s' H' ex) ifs tt)
  (hCW:∀ σ Q J H1,CW σ Q J H1→nJ xs.length g js tt te σ Q J H1) (hs:∀ z,fN iter X.env z=fU z:=by intro _;rfl) (hsw:swapsWith (.ListComp elt [⟨tg,iter,ifs,0⟩] scope pos) (some (.Name y0 py)) spos.line X.env=fU true:=by rfl)
  (hf0:X.fn y0=true∨X.env.scope.names.lookup y0=some .local:=by first | exact .inl rfl | exact .inr rfl | assumption) :
  PS X (.Assign [.Name y0 py] (.ListComp elt [⟨tg,iter,ifs,0⟩] scope pos) spos) (tAsg (fun σ H Q=>wi σ H fun J H1=>CW σ Q J H1) (nV iy)):=by
 intro aR s σ H Dn I h;rw [exec_Assign_Name_used _ _ _ _ hsw];refine ak (wpAny_standAt (ak ?_));show bf _ X.A (do let _ ← comprehension (.ListComp elt [⟨tg,iter,ifs,0⟩] scope pos) scope X.env _ (newList []) false (eK iter X.env) (some (assign (.Name y0 py) X.env))) _ _ s;refine ak (cA (comp_core (use:=some (assign (.Name y0 py) X.env)) (R:=fun _ s'=>SP X aR Dn .next s') hc hi iH lM kA hfr hjs hfv hg hb hCW I h (fun s4 H5 D C mC hnC I5 nC locC fsC pinX cC sC q=>?_) hs) (fun _ s' hq=>aV (aV hq)) fun _ _ e=>e);obtain ⟨oC,esC,epC,hoC,rC⟩:=id hnC;have I6:Inv X ((C,oC)::aR) σ H5 s4:=I5.pins_of fun p hp=>by
  rcases aI.mp hp with rfl | hp
  ·refine ⟨hoC,nC,locC,fsC,fun v z=>?_⟩
   rw [rC.1] at z;cases z
  ·exact I5.pin p (aK _ hp)
 have hPG0:PG X (.Name y0 py) (nV iy):=nU hN0 hi0 hx0 hf0;refine thn (hPG0 _ s4 σ _ (.ref D) (.ref D) (fun σ' H'=>Dn.nx σ' H'∧H' C=none) I6 rfl ⟨q,nC⟩) fun _ s6 ⟨σ6,H6,I7,q7,n7⟩=>?_
 have o7:=(I7.pin (C,oC) (aK _ (bJ ..))).1;refine ⟨mC,⟨oC,esC,epC,o7,rC⟩,fun h' hsb=>⟨σ6,H6,?_,q7⟩⟩;have I8:Inv X aR σ6 H6 s6:=I7.pins_of fun p hp=>I7.pin p (aK _ (az _ hp))
 exact I8.turned (t':=s6.toks) (it:=C) (fun b o hb' e=>hsb.extBut b o hb' e) n7 locC (.inr sC) cC pinX
theorem oY {py:Pos}{px:Pos}
  (hN0:X.N.Nodup) (hi0:X.N[iy]? =some y0) (hx0:Loc X.env.scope y0) (hc:X.calm=true) (hi:PI X (.Name x px) iter wi)
  (iH:∀ y∈scope.names,y.2≠ .cell) (lM:scope.kind= .function) (kA:∀ y∈scope.names,y.2= .local→scope.names.lookup y.1=some .local) (hx:scope.names.lookup x=some .local)
  (hfr:∀ y∈scope.names,y.2= .free→X.env.scope.names.lookup y.1=some .cell) (hnd:(x::fr).Nodup) (hjs:js.map (fun j=>X.N[j]?)=fr.map some) (hfv:∀ y∈fr,scope.names.lookup y=some .free)
  (hb:∀ cl C s' H' ex,PE (fQ X scope cl C (x::fr) s' H' ex) elt te∧PTs (fQ X scope cl C (x::fr) s' H' ex) ifs tt)
  (hs:∀ z,fN iter X.env z=fU z:=by intro _;rfl) (hsw:swapsWith (.ListComp elt [⟨.Name x px,iter,ifs,0⟩] scope pos) (some (.Name y0 py)) spos.line X.env=fU true:=by rfl)
  (hf0:X.fn y0=true∨X.env.scope.names.lookup y0=some .local:=by first | exact .inl rfl | exact .inr rfl | assumption) :
  PS X (.Assign [.Name y0 py] (.ListComp elt [⟨.Name x px,iter,ifs,0⟩] scope pos) spos) (tAsg (tComp wi js tt te) (nV iy)) :=
 ps_setCC (xs:=[x]) (g:=nV 0) hN0 hi0 hx0 hc hi iH lM kA hfr hjs hfv (fun _ _ _ _ _=>nU hnd rfl (.inl (eO hx)) (.inr (eO hx))) hb (fun _ _ _ _ h=>compW_T h) hs hsw hf0
def notStar:Expr→Bool
 | .Starred _ _=>false
 | _=>true
theorem starEach_not (h:notStar e=true):bB (e::es) env=(false,eK e env)::bB es env:=by
 cases e <;> first | rfl | cases h
theorem pa_k (ha:PE X e te)(hr:PA X es t)(h:notStar e=true:=by rfl):PA X (e::es) (nM te t):=af ha hr (starEach_not h)
structure PEs (X:Cx)(e:Expr)(t:TE):Prop where
 h:PE X e t
structure PAs (X:Cx)(es:List Expr)(t:TA):Prop where
 h:PA X es t
structure PSt (X:Cx)(st:cJ)(t:TS):Prop where
 h:PS X st t
theorem mE {t:TS}(h:PS X st t):PS X st (fun D σ H=>∃ N:St→Hp→Prop,(∀ σ' H',N σ' H'→D.nx σ' H')∧t { D with nx:=N } σ H):=by
 intro aR s σ H D I ⟨N,hN,ht⟩;refine thn (h aR s σ H { D with nx:=N } I ht) fun f s' q=>?_
 cases f with
 | next=>obtain ⟨σ',H',I',n'⟩:=q;exact ⟨σ',H',I',hN _ _ n'⟩
 | brk=>exact q
 | cont=>exact q
 | ret u=>exact q
structure PSl (X:Cx)(sts:List cJ)(t:TS):Prop where
 h:PSs X sts t
section
variable {a b:Expr}{tb:TE}
theorem k_int {i j}:PEs X (.Constant (.int i) j pos) (tC (.int i)):=⟨bD⟩
theorem k_op {op:Operator}(ho:OpR X (iu op) r)(ha:PEs X a ta)(hb:PEs X b tb):PEs X (.BinOp a op b pos) (tOp r ta tb):=⟨cU ho ha.h hb.h⟩
theorem k_ix (hr:IxR X r)(ha:PEs X a ta)(hb:PEs X b tb)(hs:PlainIx b):PEs X (.Subscript a b pos) (tOp r ta tb):=⟨eJ hr ha.h hb.h hs⟩
theorem k_lst (h:PAs X es t):PEs X (.List es pos) (tLstA t):=⟨kT h.h⟩
theorem a_nil:PAs X [] tNil:=⟨aD⟩
theorem a_cons (ha:PEs X e te)(hr:PAs X es t)(h:notStar e=true:=by rfl):PAs X (e::es) (nM te t):=⟨pa_k ha.h hr.h h⟩
theorem aY {sts:List cJ}{t u:TS}(a:PSt X st t)(b:PSl X sts u):PSl X (st::sts) (tSeq t u):=⟨pss_cons a.h b.h⟩
theorem cP {t:TS}(a:PSt X st t):PSl X [st] t:=⟨cy a.h⟩
end
theorem op_neD (hu:X.A.units+64<cLine):OpR X (eP .NotEq) (fun x y H Q=>∃ ds es,IsD H x (.tup ds)∧IsD H y (.tup es)∧pls ds=true∧pls es=true∧deps ds<60∧Q (.bl (!(pV ds es))) H):=by
 intro aR s σ H x y v u Q I rx ry h;obtain ⟨ds,es,ix,iy,pd,pe,hd,q⟩:=h;obtain ⟨a,xs,rfl,ha,r⟩:=ix.tup_of;obtain ⟨b,ys,rfl,hb,r'⟩:=iy.tup_of;cases (show v=ae.ref a from rx);cases (show u=ae.ref b from ry);obtain ⟨its,rv,p,_⟩:=I.tuple (SqT.of (K:=X.K) ha);obtain ⟨its2,rv2,p2,_⟩:=I.tuple (SqT.of (K:=X.K) hb);have p:s.heap.IsTuple a its.toArray:=p;have p2:s.heap.IsTuple b its2.toArray:=p2;have l1:its.length=ds.length:=by rw [←rv.length,r.length]
 have l2:its2.length=es.length:=by rw [←rv2.length,r'.length]
 have key:=SeqAt.RcNeAt.tuples (A:=X.A) (e:=fun j=>eqD (ds.getD j .non) (es.getD j .non)) p p2 (by lia) (fun j h1 h2=>by
  have h1':j<its.length:=by simpa using h1
  have h2':j<its2.length:=by simpa using h2
  obtain ⟨x',ex,dx⟩:=r.at (i:=j) (d:=ds[j]'(by lia)) (gE (by lia));obtain ⟨y',ey,dy⟩:=r'.at (i:=j) (d:=es[j]'(by lia)) (gE (by lia));obtain ⟨u',eu,ru⟩:=rv.get ex;obtain ⟨v',ev,rw'⟩:=rv2.get ey;have eu':its[j]=u':=by rw [gE h1'] at eu;exact bG eu
  have ev':its2[j]=v':=by rw [gE h2'] at ev;exact bG ev
  have g1:ds.getD j .non=ds[j]'(by lia):=by rw [ai,gE (by lia)];rfl
  have g2:es.getD j .non=es[j]'(by lia):=by rw [ai,gE (by lia)];rfl
  show SeqAt.EqAt X.A.in1 s (its.toArray[j]) (its2.toArray[j]) (eqD (ds.getD j .non) (es.getD j .non));rw [gf,gf,eu',ev',g1,g2];exact eqAt_D 60 (aM (oF (gE (by lia))) (by lia)) (by show X.A.units+1+60<cLine;lia) I dx dy ru rw' (mH pd (gE (by lia))) (mH pe (gE (by lia))))
 refine key X.prog X.w _ _ (eV I q ?_);rw [oE,aG,aG,l1,l2]
theorem nu:∀ {ns:List Int} {us:List ae},gi (ns.map V.int) us→IntsAre us ns
 | [],_,.nil=> .nil
 | _::_,_,.cons ⟨_,e⟩ r=>by cases e;exact .cons _ _ (nu r)
theorem eqDs_ints:∀ ns ms:List Int,pV (ns.map Dt.int) (ms.map Dt.int)=decide (ns=ms)
 | [],[]=>by unfold pV;rfl
 | [],_::_=>by unfold pV;rfl
 | _::_,[]=>by unfold pV;rfl
 | n::ns,m::ms=>by
  rw [bR,bR];unfold pV;rw [eqDs_ints ns ms];unfold eqD
  by_cases h:n=m
  ·by_cases h':ns=ms
   ·simp [h,h']
   ·simp [h,h']
  ·simp [h]
theorem oz:∀ ns:List Int,pls (ns.map Dt.int)=true
 | []=>by unfold pls;rfl
 | n::r=>by rw [bR];unfold pls;rw [oz r];unfold pl;rfl
theorem pM:∀ ns:List Int,deps (ns.map Dt.int)=0
 | []=>by unfold deps;rfl
 | n::r=>by rw [bR];unfold deps;rw [pM r];unfold dep;rfl
theorem pe_compT {xs:List Str}
  (hc:X.calm=true) (hi:PI X tg iter wi)
  (iH:∀ y∈scope.names,y.2≠ .cell) (lM:scope.kind= .function) (kA:∀ y∈scope.names,y.2= .local→scope.names.lookup y.1=some .local)
  (hfr:∀ y∈scope.names,y.2= .free→X.env.scope.names.lookup y.1=some .cell) (hjs:js.map (fun j=>X.N[j]?)=fr.map some) (hfv:∀ y∈fr,scope.names.lookup y=some .free)
  (hg:∀ cl C s' H' ex,PG (fQ X scope cl C (xs++fr) s' H' ex) tg g)
  (hb:∀ cl C s' H' ex,PE (fQ X scope cl C (xs++fr) s' H' ex) elt te∧PTs (fQ X scope cl C (xs++fr) s' H' ex) ifs tt)
  (hs:∀ z,fN iter X.env z=fU z:=by intro _;rfl) :
  PE X (.ListComp elt [⟨tg,iter,ifs,0⟩] scope pos) (tCompT wi xs.length g js tt te) :=
 pe_compC hc hi iH lM kA hfr hjs hfv hg hb (fun _ _ _ _ h=>h) hs
abbrev gPair (K:au):TG:=gTup K 2 (gCons (nV 0) (gCons (nV 1) gNil))
theorem pg_two {ex:List aq}{y:Str}{k:Nat}{pt:Pos}(hc:X.calm=true)(hnd:(x::y::fr).Nodup)(hx:scope.names.lookup x=some .local)(hy:scope.names.lookup y=some .local) :
  PG (fQ X scope cl C ([x,y]++fr) s H ex) (.Tuple [.Name x p1,.Name y p2] k pt) (gPair X.K) :=
 pg_tup hc (iZ (nU (i:=0) hnd rfl (.inl (eO hx)) (.inr (eO hx))) (iZ (nU (i:=1) hnd rfl (.inl (eO hy)) (.inr (eO hy))) o8))
theorem getItem_all {t sl:aq}{vl vu:ae}{lo:Option Int}(ht:IsTup s.heap t items)(hs:s.heap.IsSliceOf sl vl vu .none)(pl:IsPart vl lo)(pu:IsPart vu hi)
  (hw:HT.sIx items.size 0 lo=0∧HT.sIx items.size items.size hi=items.size) (h:Q (.ref t) s):bf (bw prog w) A (getItem (.ref t) (.ref sl)) Q E s:=by
 obtain ⟨os,hos,hcs,hds⟩:=id hs;have hTs:s.TypeIs (.ref sl) "slice" := ⟨os,hos,hcs⟩;unfold getItem
 try with_reducible refine gG ?_
 first | refine ak (aV ?_) | skip
 refine ak (wpAny_sequenceKey ht.typeIs (by decide) ?_);refine ak (dM (name:=d9 "__getitem__") ht.typeIs dm
  (fT dm ht.typeIs entry_tuple_getitem ?_ (args_tuple_getitem _ _)))
 show bf _ _ (eS.Tuple.tupleItemsOf (.ref t) >>= _) _ _ s;refine ak (tupleItemsOf_ ht ?_);refine ak (wpAny_typeOf hTs ?_);rw [qL (by decide)];refine ak (HT.sliceApplied_gen hs pl pu ?_);show bf _ _ (if (((HT.sIx items.size 0 lo:Nat):Int) == 0 && (1:Int) == 1 && (HT.sIx items.size items.size hi - HT.sIx items.size 0 lo) == items.size)=true then _ else _) _ _ s;rw [hw.1,hw.2,Nat.sub_zero,qL (by simp)];unfold eS.Tuple.tupleIsExact;refine ak (ak (wpAny_typeOf ht.typeIs (aV ?_)));rw [qL (by decide)];exact ak (wpAny_rule (aV ⟨_,rfl,aV h⟩))
theorem sl_tupN:SlR X (fun x lo hi H Q=>∃ a xs,x= .ref a∧H a=some (.tup xs)∧New H (.tup (cutV xs lo hi)) Q):=by
 intro aR s σ H x v vl vu lo hi sl Q I rx hs pl pu h;obtain ⟨a,xs,rfl,hx,q⟩:=h
 by_cases hw:HT.sIx xs.length 0 lo=0∧HT.sIx xs.length xs.length hi=xs.length
 ·cases rx
  obtain ⟨its,r,ht,hz⟩:=I.tuple (SqT.of (K:=X.K) hx);have hlen:its.toArray.size=xs.length:=by rw [aG];exact r.length.symm
  refine ⟨"tuple",_,dm.lookup,ht.typeIs,?_⟩;refine getItem_all ht hs pl pu (by rw [hlen];exact hw) ⟨.ref a,H,I,rfl,q a H (bH.refl H) ?_⟩;have e:cutV xs lo hi=xs:=by unfold cutV;rw [hw.1,hw.2,List.drop_zero,Nat.sub_zero,bq]
  rw [e];exact hx
 ·exact sl_tup aR s σ H _ v vl vu lo hi sl Q I rx hs pl pu ⟨a,xs,rfl,SqT.of hx,hw,q.of⟩
theorem op_neL0 (hu:X.A.units<cLine):OpR X (eP .NotEq) (fun x y H Q=>∃ a b xs,x= .ref a∧y= .ref b∧SqL X.K H a xs∧SqL X.K H b []∧Q (.bl (!xs.isEmpty)) H):=by
 intro aR s σ H x y v u Q I rx ry h;obtain ⟨a,b,xs,rfl,rfl,ha,hb,q⟩:=h;cases (show v=ae.ref a from rx);cases (show u=ae.ref b from ry);obtain ⟨its,r1,p1,_⟩:=I.list ha;obtain ⟨its2,r2,p2,_⟩:=I.list hb;cases r2;cases r1 with
 | nil =>
  refine SeqAt.RcNeAt.lists (A:=X.A) (e:=fun _=>true) p1.isList p2.isList rfl hu (fun j h1 _=>qM h1 (by simp)) X.prog X.w _ _ (eV I q (by simp))
 | cons _ _=>exact SeqAt.RcNeAt.lists_lengths (A:=X.A) p1.isList p2.isList (by simp) hu X.prog X.w _ _ (eV I q (by simp))
def metL (ns:List Int):List Int:=firstMet (fun i=>ns.getD i 0) ns.length
theorem call_setL (hc:X.calm=true):jz X (.type "set") (fun xs H Q=>∃ (p:aq) (ns:List Int),xs=[.ref p]∧SqL X.K H p (ns.map V.int)∧ns.length≤1000∧New H (.set (fun k=>(metL ns).any (· == k)) (metL ns).length) Q):=by
 intro aR s σ H xs us Q I r h;obtain ⟨p,ns,rfl,hq,hn,q⟩:=h;obtain ⟨u,rfl,ru⟩:=mP r;cases (show u=ae.ref p from ru);obtain ⟨its,rv,pl,hz⟩:=I.list hq;have hl:its.length=ns.length:=by rw [←rv.length,aa]
 refine call_set_list (ns:=ns) (I.ok.hd hc) pl.isList (nu rv) (by rw [aG,hl];show ns.length+1<4096;lia) fun h' tk hs hk=>?_
 have hl2:its.toArray.size=ns.length:=by rw [aG,hl]
 rw [hl2] at hs;exact ⟨.ref s.heap.objs.size,_,I.laid (t':=tk) (o:= .set (fun k=>(metL ns).any (· == k)) (metL ns).length) (fun b u e=>hk b u (aL e) e) (aA _) hs,rfl,q.of _ I.fresh⟩
theorem call_lenS:jz X (.builtin "len") (fun xs H Q=>∃ (a:aq) (S:Int→Bool) (n:Nat),xs=[.ref a]∧H a=some (.set S n)∧Q (.int n) H):=by
 intro aR s σ H xs us Q I r h;obtain ⟨a,S,n,rfl,ha,q⟩:=h;obtain ⟨u,rfl,ru⟩:=mP r;cases (show u=ae.ref a from ru);obtain ⟨o,es,ep,t,e1,e2,e3,_,_,e4,e5,e6⟩:=I.hok a _ ha;have e4:es.size<4096:=e4;refine call_len_set e1 e2 e3 e5 (by lia) ?_;subst e6;exact ⟨.int es.size,H,I.tok _,⟨_,rfl⟩,q⟩
theorem vals_at:∀ {xs:List V} {us:List ae},xs.length=us.length→(∀ (i:Nat) (x:V),xs[i]? =some x→∃ u,us[i]? =some u∧gI x u)→gi xs us
 | [],[],_,_=> .nil
 | [],_::_,h,_=>by cases h
 | _::_,[],h,_=>by cases h
 | x::xs,u::us,h,k=>by
  obtain ⟨u',e,r⟩:=k 0 x rfl;cases e;exact .cons r (vals_at (by simpa using h) fun i y hy=>k (i+1) y hy)
theorem pO:jz X (.type "range") (fun xs H Q=>∃ j:Int,xs=[.int j]∧New H (.rng 0 j) Q):=by
 intro aR s σ H xs us Q I r h;obtain ⟨j,rfl,q⟩:=h;obtain ⟨u,rfl,ru⟩:=mP r;obtain ⟨t,rfl⟩:=(show ∃ t,u=ae.int j t from ru);refine call_range_1 ?_;exact ⟨.ref s.heap.objs.size,_,I.laid (t':=s.toks+1+1) (o:= .rng 0 j) (fun _ _ z=>aw _ z) (aA _) ⟨_,_,_,aX _ rfl⟩,rfl,q.of _ I.fresh⟩
theorem qG (hc:X.calm=true):jz X (.type "list") (fun xs H Q=>∃ (a:aq) (n:Nat),xs=[.ref a]∧H a=some (.rng 0 (n:Int))∧n≤1000∧∀ l,H l=none→Q (.ref l) (upd H l (.lst ((aF n).map fun k=>V.int (k:Nat))))):=by
 intro aR s σ H xs us Q I r h;obtain ⟨a,n,rfl,ha,hn,q⟩:=h;obtain ⟨u,rfl,ru⟩:=mP r;cases (show u=ae.ref a from ru);obtain ⟨t,u,v,hr⟩:=I.hok a _ ha;have hs:dW 0 (n:Int) 1=n:=by
  unfold dW;rw [qL (by decide)]
  by_cases h0:(0:Int)<n
  ·rw [qL h0,Int.ediv_one];lia
  ·rw [qK h0];lia
 refine call_list_range (n:=n) (I.ok.hd hc) hr (by unfold gY;rw [hs];unfold eS.Range.rangeFitsLong;simp;lia) hs (by lia) fun h' tk acc c hk hg hi=>?_
 refine ⟨.ref s.heap.objs.size,_,I.laid (t':=tk) (o:= .lst ((aF n).map fun k=>V.int (k:Nat))) hk (aA _) ⟨?_,acc.toList,c,?_,?_⟩,rfl,q _ I.fresh⟩
 ·rw [aa,bh];exact aM hn (by decide)
 ·refine vals_at (by rw [aa,bh,cj,hi.1]) fun i x hx=>?_
  rw [ay] at hx;obtain ⟨k,hk2,rfl⟩:=aS.mp hx;have hik:i<n:=by have:=(ao.mp hk2).1;rw [bh] at this;exact this
  rw [fG hik] at hk2;cases hk2;have hi2:i<acc.size:=by rw [hi.1];exact hik
  have e:=dQ hi2;obtain ⟨t2,e2⟩:=hi.2 i _ e;refine ⟨_,by rw [jB];exact e,⟨t2,?_⟩⟩;rw [e2];congr 1;lia
 ·rw [Array.toArray_toList];exact hg
section
variable {κ:Type} [DecidableEq κ]
def k3 (kvs:List (κ×V))(k:κ):Option V:=(kvs.find? fun kv=>decide (kv.1=k)).map (·.2)
def mV (kvs:List (κ×V))(k:κ)(v:V):List (κ×V) :=
 if (kvs.any fun kv=>decide (kv.1=k))=true then kvs.map (fun kv=>if kv.1=k then (kv.1,v) else kv) else kvs++[(k,v)]
theorem gZ {p:κ×V}{r:List (κ×V)}{k:κ}(e:p.1=k):k3 (p::r) k=some p.2:=by simp [k3,gR,e]
theorem gv {p:κ×V}{r:List (κ×V)}{k:κ}(e:¬ p.1=k):k3 (p::r) k=k3 r k:=by simp [k3,gR,e]
theorem mQ (k:κ):∀ kvs:List (κ×V),(kvs.any fun kv=>decide (kv.1=k))=(k3 kvs k).isSome
 | []=>rfl
 | p::r=>by
  rw [jM]
  by_cases e:p.1=k
  ·simp only [gZ e,qN e,Bool.true_or,Option.isSome_some]
  ·rw [gv e,qO e,Bool.false_or];exact mQ k r
theorem valV_map (k j:κ)(y:V):∀ kvs:List (κ×V),k3 (kvs.map fun kv=>if kv.1=k then (kv.1,y) else kv) j=(k3 kvs j).map fun x=>if j=k then y else x
 | []=>rfl
 | p::r=>by
  have ih:=valV_map k j y r;rw [bR]
  by_cases h:p.1=k
  ·rw [qL h]
   by_cases e:p.1=j
   ·rw [gZ (p:=(p.1,y)) e,gZ e,fX,qL (e.symm.trans h)]
   ·rw [gv (p:=(p.1,y)) e,gv e,ih]
  ·rw [qK h]
   by_cases e:p.1=j
   ·rw [gZ (p:=p) e,gZ e,fX,qK (fun z=>h (e.trans z))]
   ·rw [gv (p:=p) e,gv e,ih]
theorem valV_snoc (k j:κ)(y:V):∀ kvs:List (κ×V),k3 kvs k=none→k3 (kvs++[(k,y)]) j=if j=k then some y else k3 kvs j
 | [],_=>by
  by_cases e:k=j
  ·rw [qL e.symm];exact gZ (p:=(k,y)) e
  ·rw [qK (fun z=>e z.symm)];exact gv (p:=(k,y)) e
 | p::r,hn=>by
  rw [List.cons_append];have hk:¬ p.1=k:=fun z=>by rw [gZ z] at hn;cases hn
  rw [gv hk] at hn;have ih:=valV_snoc k j y r hn
  by_cases e:p.1=j
  ·rw [gZ e,gZ e,qK (fun z=>hk (e.trans z))]
  ·rw [gv e,gv e,ih]
theorem valV_put (kvs:List (κ×V))(k j:κ)(y:V):k3 (mV kvs k y) j=if j=k then some y else k3 kvs j:=by
 unfold mV
 by_cases a:(kvs.any fun kv=>decide (kv.1=k))=true
 ·rw [qL a,valV_map]
  rw [mQ] at a
  by_cases e:j=k
  ·obtain ⟨x,hx⟩:=Option.isSome_iff_exists.mp a
   rw [qL e,e,hx,fX,qL rfl]
  ·rw [qK e]
   cases k3 kvs j with
   | none=>rfl
   | some x=>rw [fX,qK e]
 ·rw [qK a]
  refine valV_snoc k j y kvs ?_;rw [mQ] at a;cases q:k3 kvs k with
  | none=>rfl
  | some x=>rw [q] at a;exact (a rfl).elim
theorem jZ (kvs:List (κ×V))(k:κ)(v:V):(mV kvs k v).length≤kvs.length+1:=by
 unfold mV;split
 ·rw [aa];lia
 ·rw [ar,aN,gQ];lia
theorem putK_new {kvs:List (κ×V)}{k:κ}(v:V)(h:k3 kvs k=none):mV kvs k v=kvs++[(k,v)]:=by
 unfold mV;rw [mQ,h];exact qK (by decide)
theorem RelO.isSome_eq {o:Option V}{u:Option ae}(r:RelO o u):o.isSome=u.isSome:=by
 cases o with
 | none=>cases u with
  | none=>rfl
  | some _=>exact (show False from r).elim
 | some _=>cases u with
  | none=>exact (show False from r).elim
  | some _=>rfl
theorem KV.val {kvs:List (κ×V)}{vs:List (κ×ae)}(r:KV kvs vs)(k:κ):RelO (k3 kvs k) (valueAt vs k):=by
 unfold KV at r
 induction r with
 | nil=>exact True.intro
 | @cons p q ps qs h t ih =>
  obtain ⟨h1,h2⟩:=h
  by_cases e:p.1=k
  ·have e':q.1=k:=h1.symm.trans e
   have b:valueAt (q::qs) k=some q.2:=by simp [valueAt,gR,e']
   rw [gZ e,b];exact h2
  ·have e':¬ q.1=k:=fun z=>e (h1.trans z)
   have b:valueAt (q::qs) k=valueAt qs k:=by simp [valueAt,gR,e']
   rw [gv e,b];exact ih
theorem KV.any {kvs:List (κ×V)}{vs:List (κ×ae)}(r:KV kvs vs)(k:κ):(kvs.any fun kv=>decide (kv.1=k))=vs.any fun kv=>decide (kv.1=k):=by
 unfold KV at r
 induction r with
 | nil=>rfl
 | cons h t ih=>rw [jM,jM,ih,h.1]
theorem KV.repl {kvs:List (κ×V)}{vs:List (κ×ae)}(r:KV kvs vs)(k:κ){y:V}(ry:gI y u) :
  KV (kvs.map fun kv=>if kv.1=k then (kv.1,y) else kv) (vs.map fun kv=>if kv.1=k then (kv.1,u) else kv):=by
 unfold KV at r ⊢
 induction r with
 | nil=>exact .nil
 | @cons p q ps qs h t ih =>
  rw [bR,bR];refine .cons ?_ ih;obtain ⟨h1,h2⟩:=h
  by_cases e:p.1=k
  ·rw [qL e,qL (h1.symm.trans e)];exact ⟨h1,ry⟩
  ·rw [qK e,qK (fun z=>e (h1.trans z))];exact ⟨h1,h2⟩
theorem KV.put {kvs:List (κ×V)}{vs:List (κ×ae)}(r:KV kvs vs)(k:κ){y:V}(ry:gI y u):KV (mV kvs k y) (stored vs k u):=by
 unfold mV stored;rw [r.any k]
 by_cases e:(vs.any fun kv=>decide (kv.1=k))=true
 ·rw [qL e,qL e];exact r.repl k ry
 ·rw [qK e,qK e];exact Paired.snoc r ⟨rfl,ry⟩
theorem KV.length {kvs:List (κ×V)}{vs:List (κ×ae)}(r:KV kvs vs):kvs.length=vs.length:=Paired.length r
end
theorem kV_is {k:Key}(r:gI (kV k) u):(gM P w).is k u=true:=by
 cases k with
 | inl i=>obtain ⟨t,e⟩:=(show ∃ t,u=ae.int i t from r);subst e;exact mixKind_int P w i t
 | inr x=>obtain ⟨t,e⟩:=(show ∃ t,u=ae.str x t from r);subst e;exact mixKind_str P w x t
theorem items_are {P:aW}{w:bx}:∀ {ks:List Key} {us:List ae},gi (ks.map kV) us→ItemsAre (gM P w) ks us
 | [],_,r=>by rw [List.map_nil] at r;cases r;exact .nil
 | k::ks,_,r=>by
  rw [bR] at r;cases r with
  | cons h t=>exact .cons (kV_is h) (items_are t)
abbrev KT (H:Hp):List (List Key×V)→List (List Key×aq×ae)→Prop:=jx fun p q=>p.1=q.1∧H q.2.1=some (.tup (p.1.map kV))∧gI p.2 q.2.2
theorem KT.val {xs:List (List Key×aq×ae)}(r:KT H kvs xs)(k:List Key):RelO (k3 kvs k) ((atKey xs k).map (·.2)):=by
 induction r with
 | nil=>exact True.intro
 | @cons p q ps qs h t ih =>
  obtain ⟨h1,_,h2⟩:=h
  by_cases e:p.1=k
  ·have e':q.1=k:=h1.symm.trans e
   have b:atKey (q::qs) k=some q.2:=by simp [atKey,gR,e']
   rw [gZ e,b];exact h2
  ·have e':¬ q.1=k:=fun z=>e (h1.trans z)
   have b:atKey (q::qs) k=atKey qs k:=by simp [atKey,gR,e']
   rw [gv e,b];exact ih
theorem KT.repl {xs:List (List Key×aq×ae)}(r:KT H kvs xs)(k:List Key){y:V}(ry:gI y u) :
  KT H (kvs.map fun kv=>if kv.1=k then (kv.1,y) else kv) (xs.map (putAt k u)):=by
 induction r with
 | nil=>exact .nil
 | @cons p q ps qs h t ih =>
  rw [bR,bR];refine .cons ?_ ih;obtain ⟨h1,h2,h3⟩:=h;unfold putAt
  by_cases e:p.1=k
  ·rw [qL e,qL (h1.symm.trans e)];exact ⟨h1,h2,ry⟩
  ·rw [qK e,qK (fun z=>e (h1.trans z))];exact ⟨h1,h2,h3⟩
theorem KT.put {xs:List (List Key×aq×ae)}(r:KT H kvs xs)(k:List Key){b:aq}{y:V}(hb:H b=some (.tup (k.map kV)))(ry:gI y u) :
  KT H (mV kvs k y) (storedH xs k b u):=by
 have e:(kvs.any fun kv=>decide (kv.1=k))=(atKey xs k).isSome:=by
  rw [mQ,(r.val k).isSome_eq,Option.isSome_map]
 unfold mV storedH;rw [e]
 by_cases q:(atKey xs k).isSome=true
 ·rw [qL q,qL q];exact r.repl k ry
 ·rw [qK q,qK q];exact Paired.snoc r ⟨rfl,hb,ry⟩
theorem KT.keeps {xs:List (List Key×aq×ae)}(r:KT H kvs xs)(ht:∀ b ys,H b=some (.tup ys)→H' b=some (.tup ys)):KT H' kvs xs :=
 Paired.mapP r fun _ _ z=>⟨z.1,ht _ _ z.2.1,z.2.2⟩
theorem rd_of {u:HO}(ok:HOk P w H h)(e:Rd H a u):i4 P w H h a u:=e.ok ok
theorem dk_rd {kvs:List (Key×V)}(ok:HOk P w H h)(e:Rd H a (.dK kvs)):kvs.length≤aZ∧(a == iV)=false∧∃ vs,KV kvs vs∧h.DictOf (gM P w) a vs :=
 show i4 P w H h a (.dK kvs) from rd_of ok e
theorem dk_of {kvs:List (Key×V)}(ok:HOk P w H h)(e:H a=some (.dK kvs)):kvs.length≤aZ∧(a == iV)=false∧∃ vs,KV kvs vs∧h.DictOf (gM P w) a vs:=dk_rd ok (.inl e)
theorem key_of {ks:List Key}(ok:HOk P w H h)(e:H a=some (.tup (ks.map kV))):(tupleKind (gM P w)).is h ks a:=by
 obtain ⟨_,its,r,o,h1,h2,_,n,h3⟩:=(show i4 P w H h a (.tup (ks.map kV)) from ok a _ e);exact ⟨o,its.toArray,n,h1,h2,h3,by simpa using items_are r⟩
theorem dt_rd (ok:HOk P w H h)(e:Rd H a (.dT kvs)):kvs.length≤aZ∧(a == iV)=false ∧
  ∃ xs,KT H kvs xs∧h.DictOfH (tupleKind (gM P w)) a xs:=by
 obtain ⟨z,y,xs,r,o,es,ep,h1,h2,h3,h4,h5⟩:=(show i4 P w H h a (.dT kvs) from rd_of ok e);refine ⟨z,y,xs,r,o,es,ep,h1,h2,h3,h4,fun x hx=>?_,h5⟩;have all:∀ {l:List (List Key×V)} {m:List (List Key×aq×ae)},KT H l m→∀ x∈m,(tupleKind (gM P w)).is h x.1 x.2.1:=by
  intro l m q
  induction q with
  | nil=>intro x hx;exact nomatch hx
  | @cons p q ps qs hq t ih =>
   intro x hx
   rcases aI.mp hx with e | hx
   ·subst e
    exact key_of ok (by rw [←hq.1];exact hq.2.1)
   ·exact ih x hx
 exact all r x hx
theorem dt_of (ok:HOk P w H h)(e:H a=some (.dT kvs)):kvs.length≤aZ∧(a == iV)=false ∧
  ∃ xs,KT H kvs xs∧h.DictOfH (tupleKind (gM P w)) a xs:=dt_rd ok (.inl e)
def DGet (H:Hp)(a:aq)(y:V)(r:Option V):Prop :=
 (∃ kvs k,Rd H a (.dK kvs)∧y=kV k∧r=k3 kvs k)∨∃ kvs k b,Rd H a (.dT kvs)∧y= .ref b∧H b=some (.tup (k.map kV))∧r=k3 kvs k
def DPut (H:Hp)(a:aq)(y v:V)(H':Hp):Prop :=
 (∃ kvs k,H a=some (.dK kvs)∧y=kV k∧kvs.length<aZ∧H'=upd H a (.dK (mV kvs k v))) ∨
 ∃ kvs k b,H a=some (.dT kvs)∧y= .ref b∧H b=some (.tup (k.map kV))∧kvs.length<aZ∧H'=upd H a (.dT (mV kvs k v))
theorem DGet.k {H:Hp}{a:aq}{kvs:List (Key×V)}{k:Key}(e:H a=some (.dK kvs)):DGet H a (kV k) (k3 kvs k):= .inl ⟨kvs,k,.inl e,rfl,rfl⟩
theorem DPut.k {H:Hp}{a:aq}{kvs:List (Key×V)}{k:Key}{v:V}(e:H a=some (.dK kvs))(hl:kvs.length<aZ):DPut H a (kV k) v (upd H a (.dK (mV kvs k v))):= .inl ⟨kvs,k,e,rfl,hl,rfl⟩
section
variable {y:V}{r:ae}{o:Option V}
theorem d_getItem (hu:A.units+1<cLine)(I:Inv X aR σ H s)(g:DGet H a y (some v))(ry:gI y u)(h:∀ w' s',Inv X aR σ H s'→gI v w'→Q w' s') :
  bf (bw X.prog X.w) A (getItem (.ref a) u) Q E s:=by
 rcases g with ⟨kvs,k,e,ey,l⟩ | ⟨kvs,k,b,e,ey,eb,l⟩
 ·subst ey
  obtain ⟨z,hd,vs,rel,dd⟩:=dk_rd I.hok e;obtain ⟨w',hw,rw'⟩:=RelO.some_of (v:=v) (o:=valueAt vs k) (by rw [l];exact rel.val k);exact wpAny_getItem_of (kV_is ry) dd.mapOf hw (h w' _ (I.tok _) rw')
 ·subst ey
  cases (show u=ae.ref b from ry);obtain ⟨z,hd,xs,rel,dd⟩:=dt_rd I.hok e;obtain ⟨w',hw,rw'⟩:=RelO.some_of (v:=v) (o:=(atKey xs k).map (·.2)) (by rw [l];exact rel.val k);obtain ⟨p,hp,hp2⟩:=aS.mp hw;refine wpAny_getItem_heap (tupleKind_room_in1 hu) (key_of I.hok eb) dd hp ?_;rw [hp2];exact h w' _ (I.tok _) rw'
theorem d_notIn (hu:A.units+1<cLine)(I:Inv X aR σ H s)(g:DGet H a y o)(ry:gI y u)(h:∀ s',Inv X aR σ H s'→Q (.bool (!o.isSome)) s') :
  bf (bw X.prog X.w) A (eP .NotIn u (.ref a)) Q E s:=by
 rcases g with ⟨kvs,k,e,ey,l⟩ | ⟨kvs,k,b,e,ey,eb,l⟩
 ·subst ey
  obtain ⟨z,hd,vs,rel,dd⟩:=dk_rd I.hok e;refine wpAny_notIn_of (kV_is ry) hd dd.mapOf ?_;rw [←(rel.val k).isSome_eq,←l];exact h _ (I.tok _)
 ·subst ey
  cases (show u=ae.ref b from ry);obtain ⟨z,hd,xs,rel,dd⟩:=dt_rd I.hok e;refine wpAny_notIn_heap (tupleKind_room_in1 hu) (key_of I.hok eb) hd dd ?_;have q:=(rel.val k).isSome_eq;rw [Option.isSome_map] at q;rw [←q,←l];exact h _ (I.tok _)
theorem d_write {ob:HO}(I:Inv X aR σ H s)(mu:Mut (H a))(hs:cx a s.heap h')(he:∃ q,h'.get? a=some q)(new:i4 X.prog X.w (upd H a ob) h' a ob) :
  Inv X aR σ (upd H a ob) { s with heap:=h',toks:=t' } :=
 I.write (x:=a) (e:=a) mu (.inl rfl) (fun b q hb z=>(hs.2 b hb).trans z) he new
theorem dk_new {kvs:List (Key×V)}{vs:List (Key×ae)}(z:kvs.length≤aZ)(hd:(a == iV)=false)(rel:KV kvs vs)(dd:h'.DictOf (gM P w) a vs) :
  i4 P w H' h' a (.dK kvs):=⟨z,hd,vs,rel,dd⟩
theorem d_setItem {Q:Unit→ax→Prop}(hu:A.units+1<cLine)(I:Inv X aR σ H s)(g:DPut H a y v H')(ry:gI y u)(rv:gI v r)(h:∀ s',Inv X aR σ H' s'→Q () s') :
  bf (bw X.prog X.w) A (setItem (.ref a) u r) Q E s:=by
 rcases g with ⟨kvs,k,e,ey,l,eH⟩ | ⟨kvs,k,b,e,ey,eb,l,eH⟩
 ·subst ey eH
  obtain ⟨z,hd,vs,rel,dd⟩:=dk_of I.hok e;have hz:vs.length≤aZ:=by rw [←rel.length];exact z
  have hl:(mV kvs k v).length≤aZ:=by have:=jZ kvs k v;lia
  refine wpAny_setItem_pairs (hsz:=hz) (kV_is ry) dd fun h' dd' hs=>h _ ?_
  have he:∃ q,h'.get? a=some q:=let ⟨q,_,_,hq,_⟩:=dd';⟨q,hq⟩;exact d_write I (by rw [e];exact True.intro) hs he (dk_new hl hd (rel.put k rv) dd')
 ·subst ey eH
  cases (show u=ae.ref b from ry);obtain ⟨z,hd,xs,rel,dd⟩:=dt_of I.hok e;have hz:xs.length≤aZ:=by rw [←Paired.length rel];exact z
  have hl:(mV kvs k v).length≤aZ:=by have:=jZ kvs k v;lia
  refine wpAny_setItem_heap (hsz:=hz) (tupleKind_room_in1 hu) (key_of I.hok eb) dd fun h' dd' hs=>h _ ?_
  obtain ⟨q,es,ep,hq,h2,h3,h4,_,h5⟩:=dd';refine d_write I (by rw [e];exact True.intro) hs ⟨q,hq⟩ ⟨hl,hd,_,(rel.put k eb rv).keeps fun c ys ec=>?_,q,es,ep,hq,h2,h3,h4,h5⟩;rw [br (fW ec e (fun z=>nomatch z))];exact ec
end
def NoSl (i:Expr):Prop:=∀ ov iv,subscripted i false ov iv=operate [ov,iv] (getItem ov iv)
theorem subD_of {slice:Expr}{id:String}
  (hl:typeLookup (.type T) "__getitem__" =fU (some (.builtin id))) (hs:NoSl slice)
  (h:bf (bw prog w) A (eK value env) (fun o s₁=>bf (bw prog w) A (eK slice env) (fun i s₂=>s₂.TypeIs o T∧bf (bw prog w) A (getItem o i) Q E s₂) E s₁) E s) :
  bf (bw prog w) A (eK (.Subscript value slice pos) env) Q E s:=by
 refine Subscript_ (cA h (fun o s₁ h₁=>cA h₁ (fun i s₂ h₂=>?_) fun _ _ x=>x) fun _ _ x=>x);obtain ⟨hT,h₂⟩:=h₂;unfold subscriptTail;refine ak ?_;rw [getitemInPython_of_ne hT.not_modules];refine ak (wpAny_specialOf hT hl ?_);have fin:bf (bw prog w) A (subscripted slice false o i) (fun r s₃=>bf (bw prog w) A (letTemporaryGo value o r >>= fun _=>fU r) Q E s₃) E s₂:=by
  rw [hs o i];exact wpAny_operating (cA h₂ (fun r s₃ h₃=>ak (wpAny_letTemporaryGo (aV h₃))) fun _ _ x=>x)
 first
  | exact aV (ak fin)
  | exact ak (aV (ak fin))
  | exact ak fin
theorem dict_typeIs {y:V}{o:Option V}(I:Inv X aR σ H s)(g:DGet H a y o):s.TypeIs (.ref a) "dict" := by
 rcases g with ⟨kvs,k,e,_,_⟩ | ⟨kvs,k,b,e,_,_,_⟩
 ·obtain ⟨_,_,vs,_,dd⟩:=dk_rd I.hok e
  exact dd.typeIs
 ·obtain ⟨_,_,xs,_,dd⟩:=dt_rd I.hok e
  exact dd.typeIs
def tDGet (td ty:TE):TE:=fun σ H Q=>td σ H fun x H1=>ty σ H1 fun y H2=>∃ a v,x= .ref a∧DGet H2 a y (some v)∧Q v H2
def tDNotIn (ty td:TE):TE:=fun σ H Q=>ty σ H fun y H1=>td σ H1 fun x H2=>∃ a o,x= .ref a∧DGet H2 a y o∧Q (.bl (!o.isSome)) H2
def sDPut (td ty tv:TE):TS:=fun D σ H=>tv σ H fun v H1=>td σ H1 fun x H2=>ty σ H2 fun y H3=>∃ a H4,x= .ref a∧DPut H3 a y v H4∧D.nx σ H4
section
variable {o i:Expr}{tpos:Pos}{td ty tv:TE}
theorem pe_dget (hu:X.A.units+1<cLine)(ho:PE X o td)(hi:PE X i ty)(hs:NoSl i):PE X (.Subscript o i pos) (tDGet td ty):=by
 intro aR s σ H Q I h;refine subD_of PySem.F.slot_dict_getitem.lookup hs (thn (ho aR s σ H _ I h) fun u s1 ⟨x,H1,I1,rx,q1⟩=>thn (hi aR s1 σ H1 _ I1 q1) fun iv s2 ⟨y,H2,I2,ry,a,v,ex,g,q2⟩=>?_);subst ex;obtain rfl:u=ae.ref a:=rx;exact ⟨dict_typeIs I2 g,d_getItem hu I2 g ry fun w' s3 I3 rw'=>⟨v,H2,I3,rw',q2⟩⟩
theorem mX (hu:X.A.units+1<cLine)(hi:PE X i ty)(ho:PE X o td):PC X .NotIn i o (tDNotIn ty td):=by
 intro aR s σ H Q I h;refine thn (hi aR s σ H _ I h) fun iv s1 ⟨y,H1,I1,ry,q1⟩=>thn (ho aR s1 σ H1 _ I1 q1) fun u s2 ⟨x,H2,I2,rx,a,ov,ex,g,q2⟩=>?_
 subst ex;obtain rfl:u=ae.ref a:=rx;exact d_notIn hu I2 g ry fun s3 I3=>⟨.bl (!ov.isSome),H2,I3,rfl,q2⟩
theorem ps_dput (hu:X.A.units+1<cLine)(ho:PE X o td)(hi:PE X i ty)(hv:PE X value tv)(hs:swapsWith value (some (.Subscript o i pos')) pos.line X.env=fU false) :
  PS X (.Assign [.Subscript o i pos'] value pos) (sDPut td ty tv):=by
 intro aR s σ H D I h;refine wpAny_Assign_Subscript (thn (hv aR s σ H _ I h) fun r s1 ⟨v,H1,I1,rv,q1⟩=>thn (ho aR s1 σ H1 _ I1 q1) fun u s2 ⟨x,H2,I2,rx,q2⟩=>thn (hi aR s2 σ H2 _ I2 q2) fun iv s3 ⟨y,H3,I3,ry,a,H4,ex,g,q3⟩=>?_) hs;subst ex;obtain rfl:u=ae.ref a:=rx;exact d_setItem hu I3 g ry rv fun s4 I4=>⟨σ,H4,I4,q3⟩
end
def tPairs:List (TE×TE)→St→Hp→(List (V×V)→Hp→Prop)→Prop
 | [],_,H,Q=>Q [] H
 | (tk,tv)::r,σ,H,Q=>tk σ H fun x H1=>tv σ H1 fun y H2=>tPairs r σ H2 fun ps H3=>Q ((x,y)::ps) H3
abbrev VV:List (V×V)→List (ae×ae)→Prop:=jx fun p q=>gI p.1 q.1∧gI p.2 q.2
def PPs (X:Cx)(pos:Pos)(keys:List (Option Expr))(values:List Expr)(trs:List (TE×TE)):Prop :=
 ∀ (aR:List (aq×Obj)) (s:ax) (σ:St) (H:Hp) (Q:List (V×V)→Hp→Prop),Inv X aR σ H s→tPairs trs σ H Q →
  bf (bw X.prog X.w) X.A (evalPairs (pairTrees keys values X.env pos)) (fun vs s'=>∃ ps H',Inv X aR σ H' s'∧VV ps vs∧Q ps H') X.xe s
theorem pps_nil:PPs X pos [] [] []:=fun aR s σ H Q I h=>pairTrees_nil_walk ⟨[],H,I,.nil,h⟩
theorem pps_cons {k v:Expr}{ks:List (Option Expr)}{vs:List Expr}{tk tv:TE}(hk:PE X k tk)(hv:PE X v tv)(hr:PPs X pos ks vs trs) :
  PPs X pos (some k::ks) (v::vs) ((tk,tv)::trs):=fun aR s σ H Q I h =>
 pairTrees_cons_walk (thn (hk aR s σ H _ I h) fun u s1 ⟨x,H1,I1,rx,q1⟩=>thn (hv aR s1 σ H1 _ I1 q1) fun w2 s2 ⟨y,H2,I2,ry,q2⟩ =>
  thn (hr aR s2 σ H2 _ I2 q2) fun ws s3 ⟨ps,H3,I3,rel,q3⟩=>⟨(x,y)::ps,H3,I3,.cons ⟨rx,ry⟩ rel,q3⟩)
def ng (kvs more:List (Key×V)):List (Key×V):=more.foldl (fun acc kv=>mV acc kv.1 kv.2) kvs
theorem KV.merge:∀ {more:List (Key×V)} {rs:List (Key×ae)} {kvs:List (Key×V)} {vs:List (Key×ae)},KV more rs→KV kvs vs→KV (ng kvs more) (merged vs rs):=by
 intro more rs kvs vs r;unfold KV at r
 induction r generalizing kvs vs with
 | nil=>intro q;exact q
 | @cons p q ps qs h t ih =>
  intro r0;have e:KV (mV kvs p.1 p.2) (stored vs q.1 q.2):=by
   have:=r0.put p.1 h.2;rw [←h.1];exact this
  exact ih e
theorem nj:∀ (more kvs:List (Key×V)),(ng kvs more).length≤kvs.length+more.length
 | [],kvs=>by show kvs.length≤kvs.length+0;lia
 | p::r,kvs=>by
  have h1:=nj r (mV kvs p.1 p.2);have h2:=jZ kvs p.1 p.2;show (ng (mV kvs p.1 p.2) r).length≤_;rw [aN];lia
theorem qA {P:aW}{w:bx}:∀ {kvs:List (Key×V)} {ws:List (ae×ae)},VV (kvs.map fun kv=>(kV kv.1,kv.2)) ws→∃ rs,Carries (gM P w) ws rs∧KV kvs rs
 | [],_,r=>by rw [List.map_nil] at r;cases r;exact ⟨[],True.intro,.nil⟩
 | p::kvs,_,r=>by
  rw [bR] at r;cases r with
  | @cons a b as bs h t =>
   obtain ⟨rs,c,q⟩:=qA (P:=P) (w:=w) t;obtain ⟨b1,b2⟩:=b;exact ⟨(p.1,b2)::rs,⟨kV_is h.1,rfl,c⟩,.cons ⟨rfl,h.2⟩ q⟩
def tDisp (trs:List (TE×TE)):TE:=fun σ H Q=>∀ p,H p=none→tPairs trs σ (upd H p (.dK [])) fun ps H2=>H2 p=some (.dK [])∧∃ kvs:List (Key×V),ps=kvs.map (fun kv=>(kV kv.1,kv.2))∧kvs.length≤15∧Q (.ref p) (upd H2 p (.dK (ng [] kvs)))
theorem pe_disp {values:List Expr}(h:PPs X pos keys values trs)(hall:keys.all (·.isSome)=true)(hl:keys.length=values.length)(h0:keys≠[])
  (h15:keys.length≤15):PE X (.Dict keys values pos) (tDisp trs):=by
 intro aR s σ H Q I q;have hn:=I.hok.fresh (aA s.heap.objs.size);have I1:=I.laid (a:=s.heap.objs.size) (o:= .dK []) (h':=s.heap.push { cls:= .type "dict",data:= .dict #[] }) (t':=s.toks) (fun _ _ q=>aw _ q) (aA _) (dk_empty s.heap I.big);refine wpAny_Dict_walk (knd:=gM X.prog X.w) hall hl h0 h15 (thn (h aR _ σ _ _ I1 (q _ hn)) fun ws s2 ⟨ps,H2,I2,rel,e,kvs,ep,lk,q2⟩=>?_);subst ep;obtain ⟨rs,c,rk⟩:=qA (P:=X.prog) (w:=X.w) rel;obtain ⟨z,hd,vs0,r0,dd⟩:=dk_of I2.hok e;cases r0;refine ⟨rs,c,dd,fun h' dd' hs=>⟨.ref s.heap.objs.size,_,?_,rfl,q2⟩⟩;have hz:(ng [] kvs).length≤aZ:=by
  have h1:=nj kvs [];rw [gQ] at h1;rw [fR];lia
 have he:∃ q,h'.get? s.heap.objs.size=some q:=let ⟨q,_,_,hq,_⟩:=dd';⟨q,hq⟩;exact d_write I2 (by rw [e];exact True.intro) hs he (dk_new hz hd (rk.merge .nil) dd')
structure M2 (X:Cx)(o:Expr)(m:Str)(apos:Pos)(e f:Expr)(cpos:Pos):Prop where
 base:kg o m X.env (eK o X.env)=eK o X.env
 few:((fP cpos (bB [e,f] X.env)).all (fun x=> !x.1) && (backToKw cpos (keywordEach [] X.env)).all (fun x=>x.1.isSome)
  && decide (([e,f]:List Expr).length+([]:List Keyword).length+(if ([]:List Keyword).isEmpty then 0 else 1)<30))=true
 line:(apos.endLine == cpos.line)=true
 trees:fP cpos (bB [e,f] X.env)=[(false,eK e X.env),(false,eK f X.env)]
def IsDct (H:Hp)(a:aq):Prop:=(∃ kvs,Rd H a (.dK kvs))∨∃ kvs,Rd H a (.dT kvs)
theorem isDct_at (I:Inv X aR σ H s)(d:IsDct H a) :
  s.TypeIs (.ref a) "dict" ∧(∀ b,ae.ref a= .ref b→∃ ob,s.heap.get? b=some ob∧ob.dict=none)∧(a == iV)=false:=by
 rcases d with ⟨kvs,e⟩ | ⟨kvs,e⟩
 ·obtain ⟨_,hd,vs,_,dd⟩:=dk_rd I.hok e
  refine ⟨dd.typeIs,fun b q=>?_,hd⟩;cases q;obtain ⟨ob,_,_,h1,h2,_⟩:=dd;exact ⟨ob,h1,h2.2.1⟩
 ·obtain ⟨_,hd,xs,_,dd⟩:=dt_rd I.hok e
  refine ⟨dd.typeIs,fun b q=>?_,hd⟩;cases q;obtain ⟨ob,_,_,h1,h2,_⟩:=dd;exact ⟨ob,h1,h2.2.1⟩
end L2
namespace Att
open PySem PySem.W PySem.Calls PyProof.Rows
end Att
namespace L2
open PySem PySem.Spec PyProof.Rows
section
variable {κ:Type} [DecidableEq κ]
theorem nd_snoc:∀ {l:List κ} {k:κ},l.Nodup→¬ k∈l→(l++[k]).Nodup
 | [],k,_,_=>by simp
 | a::r,k,h,hk=>by
  obtain ⟨h1,h2⟩:=bz.mp h;show (a::(r++[k])).Nodup;refine bz.mpr ⟨fun m=>?_,nd_snoc h2 fun m=>hk (aI.mpr (Or.inr m))⟩
  rcases aH.mp m with q | q
  ·exact h1 q
  ·exact hk (aI.mpr (Or.inl (av.mp q).symm))
end
theorem oq {α β:Type}{f:α→β→Sem (ForInStep β)}{Q:β→ax→Prop}:∀ (l:List α) (I:Nat→β→ax→Prop) (b:β) (s:ax),I 0 b s →
  (∀ i a b s,l[i]? =some a→I i b s→bf M A (f a b) (fun r s'=>∃ b',r= .yield b'∧I (i+1) b' s') E s)→(∀ b s,I l.length b s→Q b s)→bf M A (forIn l b f) Q E s
 | [],_,b,s,h0,_,hd=>by
  rw [List.forIn_nil];exact aV (hd b s h0)
 | a::l,I,b,s,h0,hs,hd=>by
  rw [List.forIn_cons];refine ak (cA (hs 0 a b s rfl h0) (fun r s' ⟨b',e,h'⟩=>?_) fun _ _ f=>f);subst e;exact oq l (fun i=>I (i+1)) b' s' h' (fun i a b s ha hi=>hs (i+1) a b s ha hi) fun b s h=>hd b s h
structure Sq where
 l:Bool
 a:aq
def SqAt (h:bL)(c:Sq)(xs:Array ae):Prop:=match c.l with | true=>h.IsList c.a xs | false=>h.IsTuple c.a xs
def ItAt (h:bL)(c:Sq)(i:aq)(k:Nat):Prop:=match c.l with | true=>h.IsListIter i c.a k | false=>h.IsTupleIter i c.a k
abbrev mM (h:bL)(T:aq)(vs:List ae):Prop:=h.get? T=some { cls:= .type "tuple",data:= .seq vs.toArray }
theorem SqAt.ext {g:bL}{c:Sq}{xs:Array ae}(x:SqAt h c xs)(e:∀ o,h.get? c.a=some o→g.get? c.a=some o):SqAt g c xs:=by
 obtain ⟨l,a⟩:=c;cases l with
 | true=>obtain ⟨o,ho,r⟩:=(show h.IsList a xs from x);exact ⟨o,e o ho,r⟩
 | false=>obtain ⟨o,ho,r⟩:=(show h.IsTuple a xs from x);exact ⟨o,e o ho,r⟩
theorem ItAt.ext {g:bL}{c:Sq}{i:aq}{k:Nat}(x:ItAt h c i k)(e:∀ o,h.get? i=some o→g.get? i=some o):ItAt g c i k:=by
 obtain ⟨l,a⟩:=c;cases l with
 | true=>obtain ⟨o,ho,r⟩:=(show h.IsListIter i a k from x);exact ⟨o,e o ho,r⟩
 | false=>obtain ⟨o,ho,r⟩:=(show h.IsTupleIter i a k from x);exact ⟨o,e o ho,r⟩
theorem ItAt.obj {c:Sq}{i:aq}{k:Nat}(x:ItAt h c i k):∃ o,h.get? i=some o∧∀ v,o.data≠ .cell v:=by
 obtain ⟨l,a⟩:=c;cases l with
 | true=>obtain ⟨o,ho,_,d⟩:=(show h.IsListIter i a k from x);exact ⟨o,ho,fun v z=>by rw [d] at z;cases z⟩
 | false=>obtain ⟨o,ho,_,d⟩:=(show h.IsTupleIter i a k from x);exact ⟨o,ho,fun v z=>by rw [d] at z;cases z⟩
theorem qp {c:Sq}{i:aq}{k:Nat}{xs:Array ae}{v:ae}(jt:ItAt s.heap c i k)(tt:SqAt s.heap c xs)(hv:xs[k]? =some v)
  (q:∀ g,ItAt g c i (k+1)→cx i s.heap g→Q v { s with heap:=g }):bf (bw prog w) A (cT (.ref i)) Q E s:=by
 obtain ⟨l,a⟩:=c;cases l with
 | true=>exact wpAny_nextOf_list_item (show s.heap.IsListIter i a k from jt) (show s.heap.IsList a xs from tt) hv fun g h1 h2=>q g h1 h2
 | false=>exact nextT_item (show s.heap.IsTupleIter i a k from jt) (show s.heap.IsTuple a xs from tt) hv fun g h1 h2=>q g h1 h2
theorem nextS_end {c:Sq}{i:aq}{k:Nat}{xs:Array ae}(hh:A.handled=none)(jt:ItAt s.heap c i k)(tt:SqAt s.heap c xs)(hv:xs[k]? =none)
  (q:∀ g x,bL.ExtBut i s.heap g→(∃ o,g.get? x=some o∧o.cls= .type "StopIteration")→E (.ref x) { s with heap:=g }):bf (bw prog w) A (cT (.ref i)) Q E s:=by
 obtain ⟨l,a⟩:=c;cases l with
 | true=>exact wpAny_nextOf_list_end hh (show s.heap.IsListIter i a k from jt) (show s.heap.IsList a xs from tt) hv fun g x h1 h2=>q g x h1 h2
 | false=>exact nextT_end hh (show s.heap.IsTupleIter i a k from jt) (show s.heap.IsTuple a xs from tt) hv fun g x h1 h2=>q g x h1 h2
theorem iterS {c:Sq}{xs:Array ae}(tt:SqAt s.heap c xs)
  (q:∀ g,ItAt g c s.heap.objs.size 0→g.objs.size=s.heap.objs.size+1→(∀ b o,s.heap.get? b=some o→g.get? b=some o)→Q (.ref s.heap.objs.size) { s with heap:=g }):bf (bw prog w) A (pyIter (.ref c.a)) Q E s:=by
 obtain ⟨l,a⟩:=c;cases l with
 | true=>exact gu (show s.heap.IsList a xs from tt) (q _ ⟨_,aX _ rfl,rfl,rfl⟩ (d8 ..) fun b o e=>aw _ e)
 | false=>exact k9 (show s.heap.IsTuple a xs from tt) (q _ ⟨_,aX _ rfl,rfl,rfl⟩ (d8 ..) fun b o e=>aw _ e)
theorem updRow {T:aq}{x:ae}{k:Nat}{Q:Unit→ax→Prop}(hT:mM s.heap T vs)(hz:vs.length≤100)
  (h:∀ g,mM g T (vs.set k x)→cx T s.heap g→Q () { s with heap:=g }):bf (bw prog w) A (updateSeq T (·.setIfInBounds k x)) Q E s:=by
 refine wpAny_updateSeq hT rfl (h _ ?_ (fY ..)) (by rw [aG];exact aM hz (by decide)) (by rw [Array.size_setIfInBounds,aG];exact aM hz (by decide));show bL.get? _ T=_;rw [bL.get?_update_self _ hT rfl];simp [cX]
structure ZIn (h g:bL)(z TI TO:aq)(cs:List Sq)(is:List aq)(k j:Nat)(vs old:List ae):Prop where
 sz:g.objs.size=h.objs.size
 zip:IsZip g z TI TO .ellipsis
 row:mM g TO (vs.take j++old.drop j)
 its:∀ (n:Nat) c i,cs[n]? =some c→is[n]? =some i→ItAt g c i (if n<j then k+1 else k)
 ext:∀ e o,e≠z→e≠TO→e ∉ is→h.get? e=some o→g.get? e=some o
structure ZOk (h:bL)(z TI TO:aq)(cs:List Sq)(is:List aq)(k:Nat)(old:List ae):Prop where
 len:is.length=cs.length
 few:cs.length≤8
 pos:0<cs.length
 nod:(z::TI::TO::is).Nodup
 zip:IsZip h z TI TO .none
 ti:mM h TI (is.map ae.ref)
 to:mM h TO old
 lo:old.length=cs.length
 its:∀ (n:Nat) c i,cs[n]? =some c→is[n]? =some i→ItAt h c i k
 off:∀ c∈cs,c.a≠z∧c.a≠TO∧c.a ∉ is
theorem nod_ne {is:List aq}{i:aq}{e:aq}(hn:is.Nodup)(h1:is[j]? =some i)(h2:is[n]? =some e)(h:n≠j):e≠i:=fun z=>by
 subst z;have a:=(ao.mp h1);have b:=(ao.mp h2);obtain ⟨ha,ea⟩:=a;obtain ⟨hb,eb⟩:=b;exact h ((jG hn).mp (eb.trans ea.symm))
theorem ZIn.step {g:bL}{z TI TO:aq}{cs:List Sq}{is:List aq}{k:Nat}{i:aq}{c:Sq}(D:ZOk h z TI TO cs is k old)(Z:ZIn h g z TI TO cs is k j vs old)(hi:is[j]? =some i)(hc:cs[j]? =some c){g2 g3:bL}{v:ae}(hv:vs[j]? =some v)(lv:vs.length=cs.length)
  (n2:ItAt g2 c i (k+1)) (s2:cx i g g2) (r3:mM g3 TO ((vs.take j++old.drop j).set j v)) (s3:cx TO g2 g3):ZIn h g3 z TI TO cs is k (j+1) vs old:=by
 have nod:=D.nod;rw [bz,bz,bz] at nod;obtain ⟨nz,nT,nO,ni⟩:=nod;have mi:i∈is:=aP hi;have iz:z≠i:=fun q=>nz (by rw [q];simp [mi])
 have iO:TO≠i:=fun q=>nO (by rw [q];exact mi)
 have zO:z≠TO:=fun q=>nz (by rw [q];simp)
 have jl:j<cs.length:=(ao.mp hc).1;refine ⟨by rw [s3.1,s2.1,Z.sz],s3.extBut _ _ zO (s2.extBut _ _ iz Z.zip),?_,fun n c' i' hc' hi'=>?_,fun e o e1 e2 e3 q=>s3.extBut _ _ e2 (s2.extBut _ _ (fun y=>e3 (by rw [y];exact mi)) (Z.ext e o e1 e2 e3 q))⟩
 ·have lo:=D.lo
  have e:(vs.take j++old.drop j).set j v=vs.take (j+1)++old.drop (j+1):=by
   have l1:(vs.take j).length=j:=by rw [bK];lia
   rw [List.set_append,qK (by lia),l1,gO,List.drop_eq_getElem_cons (by lia:j<old.length),List.set_cons_zero,bj,hv];simp
  rw [←e];exact r3
 ·have mi':i'∈is:=aP hi'
  have iO':i'≠TO:=fun q=>nO (by rw [←q];exact mi')
  by_cases e:n=j
  ·subst e
   rw [hi] at hi';rw [hc] at hc';cases hi';cases hc';rw [qL (by lia)];exact n2.ext fun o q=>s3.extBut _ _ iO' q
  ·have q:=Z.its n c' i' hc' hi'
   have e2:(if n<j+1 then k+1 else k)=(if n<j then k+1 else k):=by
    by_cases y:n<j
    ·rw [qL y,qL (by lia)]
    ·rw [qK y,qK (by lia)]
   rw [e2];exact q.ext fun o r=>s3.extBut _ _ iO' (s2.extBut _ _ (nod_ne ni hi hi' e) r)
theorem zipS_go {z TI TO:aq}{cs:List Sq}{is:List aq}{k:Nat}{Q:Option ae→ax→Prop}(D:ZOk s.heap z TI TO cs is k old)
  (hv:∀ (n:Nat) c,cs[n]? =some c→∃ xs v,SqAt s.heap c xs∧xs[k]? =some v∧vs[n]? =some v) (lv:vs.length=cs.length)
  (q:∀ g,IsZip g z TI TO (rawInt s.heap.objs.size)→mM g TO vs→(∀ (n:Nat) c i,cs[n]? =some c→is[n]? =some i→ItAt g c i (k+1))→mM g s.heap.objs.size vs→g.objs.size=s.heap.objs.size+1 →
   (∀ e o,e≠z→e≠TO→e ∉ is→s.heap.get? e=some o→g.get? e=some o)→Q (some (.ref s.heap.objs.size)) { s with heap:=g }):bf (bw prog w) A (pyNext (.ref z)) Q E s:=by
 have hT:s.TypeIs (.ref z) "zip" := ⟨_,D.zip,rfl⟩;have nod:=D.nod;rw [bz,bz,bz] at nod;obtain ⟨nz,nT,nO,ni⟩:=nod;have zO:z≠TO:=fun q=>nz (by rw [q];simp)
 have few:=D.few;have len:=D.len;unfold pyNext;refine ak (wpAny_attempt (dM (name:=d9 "__next__") hT F.slot_zip_next (fT F.slot_zip_next hT F.entry_zip_next ?_ (F.args_zip_next_1 _))));show bf _ _ (field (.ref z) 2 >>= _) _ _ s;refine ak (cS D.zip rfl (x:= .bool false) (by rfl) ?_);show bf _ _ (field (.ref z) 3 >>= _) _ _ s;refine ak (cS D.zip rfl (x:= .ref TI) (by rfl) ?_);refine ak (iU D.ti rfl ?_)
 dsimp only
 rw [qK (by intro y;rw [Array.isEmpty_iff_size_eq_zero,aG,aa,len] at y;have:=D.pos;lia)];refine ak ?_;unfold fg;refine ak (cS D.zip rfl (x:= .none) (by rfl) (aV ?_));simp only [if_true];refine ak (wpAny_rule ?_);refine ak (cS D.zip rfl (x:= .ref TO) (by rfl) ?_);refine ak (dO D.zip (by simp) fun g1 z1 s1=>?_);have z1:IsZip g1 z TI TO .ellipsis:=z1;refine ak ?_;refine oq _ (fun j b s'=>b=_∧∃ g,s'={ s with heap:=g }∧ZIn s.heap g z TI TO cs is k j vs old) _ _ ⟨rfl,g1,rfl,?_⟩ ?_ ?_
 ·refine ⟨s1.1,z1,s1.extBut _ _ zO.symm D.to,fun n c i hc hi=>?_,fun e o e1 _ _ h=>s1.extBut _ _ e1 h⟩
  rw [qK (by lia)];exact (D.its n c i hc hi).ext fun o h=>s1.extBut _ _ (fun y=>nz (by rw [←y];simp [aP hi])) h
 ·rintro j a b s' ha ⟨rfl,g,rfl,Z⟩
  rw [List.getElem?_zipIdx] at ha;obtain ⟨x,hx,rfl⟩:=aS.mp ha;have hx:(is.map ae.ref)[j]? =some x:=by simpa using hx
  rw [ay] at hx;obtain ⟨i,hi,rfl⟩:=aS.mp hx;have jl:j<cs.length:=by rw [←len];exact (ao.mp hi).1
  have hc:cs[j]? =some cs[j]:=gE jl;obtain ⟨xs,v,hq,hxv,hvv⟩:=hv j _ hc;obtain ⟨o1,o2,o3⟩:=D.off _ (ba jl);have it:=Z.its j _ i hc hi;rw [qK (by lia)] at it
  dsimp only
  refine ak (wpAny_onRaise ?_);show bf _ _ (cT (.ref i) >>= _) _ _ _;refine ak (qp it (hq.ext fun o h=>Z.ext _ o o1 o2 o3 h) hxv fun g2 n2 s2=>aV ?_);have iO:TO≠i:=fun q=>nO (by rw [q];exact aP hi)
  have r2:mM g2 TO (vs.take j++old.drop j):=s2.extBut _ _ iO Z.row;refine ak (iU r2 rfl ?_);refine ak (updRow (x:=v) (k:=0+j) r2 (by rw [ar,bK,dh];have:=D.lo;lia) fun g3 r3 s3=>?_);rw [Nat.zero_add] at r3;refine ak (wpAny_letGo (aV ⟨_,rfl,rfl,g3,rfl,Z.step D hi hc hvv lv n2 s2 r3 s3⟩))
 ·rintro b s' ⟨rfl,g5,rfl,Z⟩
  have ll:((is.map ae.ref).toArray.toList.zipIdx).length=cs.length:=by simp [len]
  rw [ll] at Z;have z5:=Z.zip;have o5:mM g5 TO vs:=by
   have:=Z.row;rw [←lv,bq,lv,←D.lo,List.drop_length,de] at this;exact this
  have m5:∀ (n:Nat) c i,cs[n]? =some c→is[n]? =some i→ItAt g5 c i (k+1):=fun n c i hc hi=>by
   have:=Z.its n c i hc hi;rw [qL (ao.mp hc).1] at this;exact this
  dsimp only
  refine ak (iU o5 rfl ?_);refine ak (wpAny_newTuple ?_);have zlt:z<g5.objs.size:=aL z5;have sz:=Z.sz;refine ak ?_;unfold gJ;have z6:IsZip (g5.push { cls:= .type "tuple",data:= .seq vs.toArray }) z TI TO .ellipsis:=aw _ z5;refine ak (dO z6 (by simp) fun g7 z7 s7=>?_);have z7:IsZip g7 z TI TO (rawInt g5.objs.size):=z7;refine dO z7 (by simp) fun g8 z8 s8=>?_
  have z8:IsZip g8 z TI TO (rawInt g5.objs.size):=z8;have up:∀ e o,e≠z→g5.get? e=some o→g8.get? e=some o:=fun e o c1 h=>s8.extBut _ _ c1 (s7.extBut _ _ c1 (aw _ h))
  have t8:mM g8 g5.objs.size vs:=s8.extBut _ _ (dv zlt) (s7.extBut _ _ (dv zlt) (aX _ rfl));have sz8:g8.objs.size=g5.objs.size+1:=by rw [s8.1,s7.1,d8]
  rw [sz] at z8 t8 sz8;refine aV ⟨_,rfl,?_⟩;refine aV ?_;show Q (some (.ref g5.objs.size)) _;rw [sz];refine q g8 z8 (up _ _ zO.symm o5) (fun n c i hc hi=>(m5 n c i hc hi).ext fun o h=>up _ o (fun y=>nz (by rw [←y];simp [aP hi])) h) t8 sz8 fun e o c1 c2 c3 h=>up e o c1 (Z.ext e o c1 c2 c3 h)
theorem zipS_stop {z TI TO:aq}{cs:List Sq}{is:List aq}{k:Nat}{cm:Sq}{Q:Option ae→ax→Prop}(hh:A.handled=none)(D:ZOk s.heap z TI TO cs is k old)
  (hv:∀ (n:Nat) c,cs[n]? =some c→n<m→∃ xs v,SqAt s.heap c xs∧xs[k]? =some v∧vs[n]? =some v) (lv:vs.length=cs.length) (hm:cs[m]? =some cm) {xm:Array ae} (hxm:SqAt s.heap cm xm) (hem:xm[k]? =none)
  (q:∀ g,(∀ e o,e≠z→e≠TO→e ∉ is→s.heap.get? e=some o→g.get? e=some o)→Q none { s with heap:=g }):bf (bw prog w) A (pyNext (.ref z)) Q E s:=by
 have hT:s.TypeIs (.ref z) "zip" := ⟨_,D.zip,rfl⟩;have nod:=D.nod;rw [bz,bz,bz] at nod;obtain ⟨nz,nT,nO,ni⟩:=nod;have zO:z≠TO:=fun q=>nz (by rw [q];simp)
 have few:=D.few;have len:=D.len;have fin:∀ g x,(∀ e o,e≠z→e≠TO→e ∉ is→s.heap.get? e=some o→g.get? e=some o)→(∃ o,g.get? x=some o∧o.cls= .type "StopIteration") →
   bf (bw prog w) A (do if ← isInstance (.ref x) (.type "StopIteration") then fU none else throw (.ref x)) Q E { s with heap:=g }:=fun g x k ⟨o,ho,hc⟩=>by
  refine ak (wpAny_isInstance (T := "StopIteration") (b:=true) ⟨o,ho,hc⟩ isSubtype_stop ?_);exact aV (q g k)
 have ml:m<cs.length:=(ao.mp hm).1;unfold pyNext;refine ak (wpAny_attempt (dM (name:=d9 "__next__") hT F.slot_zip_next (fT F.slot_zip_next hT F.entry_zip_next ?_ (F.args_zip_next_1 _))));show bf _ _ (field (.ref z) 2 >>= _) _ _ s;refine ak (cS D.zip rfl (x:= .bool false) (by rfl) ?_);show bf _ _ (field (.ref z) 3 >>= _) _ _ s;refine ak (cS D.zip rfl (x:= .ref TI) (by rfl) ?_);refine ak (iU D.ti rfl ?_)
 dsimp only
 rw [qK (by intro y;rw [Array.isEmpty_iff_size_eq_zero,aG,aa,len] at y;have:=D.pos;lia)];refine ak ?_;unfold fg;refine ak (cS D.zip rfl (x:= .none) (by rfl) (aV ?_));simp only [if_true];refine ak (wpAny_rule ?_);refine ak (cS D.zip rfl (x:= .ref TO) (by rfl) ?_);refine ak (dO D.zip (by simp) fun g1 z1 s1=>?_);have z1:IsZip g1 z TI TO .ellipsis:=z1;refine ak ?_;refine oq _ (fun j b s'=>b=_∧j≤m∧∃ g,s'={ s with heap:=g }∧ZIn s.heap g z TI TO cs is k j vs old) _ _ ⟨rfl,bg _,g1,rfl,?_⟩ ?_ ?_
 ·refine ⟨s1.1,z1,s1.extBut _ _ zO.symm D.to,fun n c i hc hi=>?_,fun e o e1 _ _ h=>s1.extBut _ _ e1 h⟩
  rw [qK (by lia)];exact (D.its n c i hc hi).ext fun o h=>s1.extBut _ _ (fun y=>nz (by rw [←y];simp [aP hi])) h
 ·rintro j a b s' ha ⟨rfl,jm,g,rfl,Z⟩
  rw [List.getElem?_zipIdx] at ha;obtain ⟨x,hx,rfl⟩:=aS.mp ha;have hx:(is.map ae.ref)[j]? =some x:=by simpa using hx
  rw [ay] at hx;obtain ⟨i,hi,rfl⟩:=aS.mp hx;have jl:j<cs.length:=by rw [←len];exact (ao.mp hi).1
  have hc:cs[j]? =some cs[j]:=gE jl;obtain ⟨o1,o2,o3⟩:=D.off _ (ba jl);have it:=Z.its j _ i hc hi;rw [qK (by lia)] at it;have iO:TO≠i:=fun q=>nO (by rw [q];exact aP hi)
  have iz:z≠i:=fun q=>nz (by rw [q];simp [aP hi])
  dsimp only
  refine ak (wpAny_onRaise ?_);show bf _ _ (cT (.ref i) >>= _) _ _ _
  by_cases e:j=m
  ·subst e
   rw [hc] at hm;cases hm;refine ak (nextS_end hh it (hxm.ext fun o h=>Z.ext _ o o1 o2 o3 h) hem fun g2 x s2 hx2=>?_);obtain ⟨oe,e1,e2⟩:=hx2;have z2:IsZip g2 z TI TO .ellipsis:=s2 _ _ iz Z.zip;have xz:x≠z:=fun r=>by subst r;rw [z2] at e1;cases e1;simp at e2
   exact dO z2 (by simp) fun g3 _ s3=>fin g3 x (fun e o c1 c2 c3 h=>s3.extBut _ _ c1 (s2 _ _ (fun y=>c3 (by rw [y];exact aP hi)) (Z.ext e o c1 c2 c3 h))) ⟨oe,s3.extBut _ _ xz e1,e2⟩
  ·obtain ⟨xs,v,hq,hxv,hvv⟩:=hv j _ hc (by lia)
   refine ak (qp it (hq.ext fun o h=>Z.ext _ o o1 o2 o3 h) hxv fun g2 n2 s2=>aV ?_);have r2:mM g2 TO (vs.take j++old.drop j):=s2.extBut _ _ iO Z.row;refine ak (iU r2 rfl ?_);refine ak (updRow (x:=v) (k:=0+j) r2 (by rw [ar,bK,dh];have:=D.lo;lia) fun g3 r3 s3=>?_);rw [Nat.zero_add] at r3;refine ak (wpAny_letGo (aV ⟨_,rfl,rfl,by lia,g3,rfl,Z.step D hi hc hvv lv n2 s2 r3 s3⟩))
 ·rintro b s' ⟨rfl,jm,g5,rfl,Z⟩
  have ll:((is.map ae.ref).toArray.toList.zipIdx).length=cs.length:=by simp [len]
  rw [ll] at jm;lia
theorem mL {α:Type}{P:Nat→α→Prop}:∀ (k:Nat),(∀ n,n<k→∃ u,P n u)→∃ us:List α,us.length=k∧∀ (n:Nat) u,us[n]? =some u→P n u
 | 0,_=>⟨[],rfl,fun n u h=>by simp at h⟩
 | k+1,h=>by
  obtain ⟨us,hl,hu⟩:=mL k fun n hn=>h n (by lia)
  obtain ⟨u,pu⟩:=h k (by lia);refine ⟨us++[u],by rw [ar,hl];rfl,fun n v hv=>?_⟩
  by_cases e:n<us.length
  ·rw [cN e] at hv
   exact hu n v hv
  ·rw [bu (by lia)] at hv
   have hn:n=us.length:=by
    have:=(ao.mp hv).1;simp at this;lia
   subst hn;rw [gO] at hv;cases hv;rw [hl];exact pu
theorem vals_of:∀ {vs:List V} {us:List ae},vs.length=us.length→(∀ (n:Nat) v u,vs[n]? =some v→us[n]? =some u→gI v u)→gi vs us
 | [],[],_,_=> .nil
 | v::vs,u::us,hl,h=> .cons (h 0 v u rfl rfl) (vals_of (by simpa using hl) fun n v' u' a b=>h (n+1) v' u' a b)
 | [],_::_,hl,_=>by simp at hl
 | _::_,[],hl,_=>by simp at hl
def HSq (H:Hp)(c:Sq)(xs:List V):Prop:=match c.l with | true=>H c.a=some (.lst xs) | false=>H c.a=some (.tup xs)
theorem HSq.inj {c:Sq}(a:HSq H c xs)(b:HSq H c ys):xs=ys:=by
 obtain ⟨l,q⟩:=c;cases l with
 | true=>have a:H q=some (.lst xs):=a;have b:H q=some (.lst ys):=b;rw [a] at b;cases b;rfl
 | false=>have a:H q=some (.tup xs):=a;have b:H q=some (.tup ys):=b;rw [a] at b;cases b;rfl
theorem HSq.has {c:Sq}(a:HSq H c xs):∃ o,H c.a=some o:=by
 obtain ⟨l,q⟩:=c;cases l with
 | true=>exact ⟨_,a⟩
 | false=>exact ⟨_,a⟩
theorem HSq.at {c:Sq}(I:Inv X aR σ H s)(h:HSq H c xs):∃ its,gi xs its∧SqAt s.heap c its.toArray:=by
 obtain ⟨l,q⟩:=c;cases l with
 | true =>
  obtain ⟨its,r,p,_⟩:=I.list (SqL.of (K:=X.K) (show H q=some (.lst xs) from h));exact ⟨its,r,p.isList⟩
 | false =>
  obtain ⟨its,r,p,_⟩:=I.tuple (SqT.of (K:=X.K) (show H q=some (.tup xs) from h));exact ⟨its,r,p⟩
def Itq (cs:List Sq):It :=
 ⟨fun i H=>∃ vs:List V,vs.length=cs.length∧∀ (n:Nat) c,cs[n]? =some c→∃ xs x,HSq H c xs∧xs[i]? =some x∧vs[n]? =some x,
  fun i H v H'=>∃ p vs,H p=none∧v= .ref p∧H'=upd H p (.tup vs)∧vs.length=cs.length∧∀ (n:Nat) c x xs,cs[n]? =some c→HSq H c xs→vs[n]? =some x→xs[i]? =some x,
  fun i H=>∃ m cm xm,cs[m]? =some cm∧HSq H cm xm∧xm.length≤i∧∀ (n:Nat) c,cs[n]? =some c→n<m→∃ xs x,HSq H c xs∧xs[i]? =some x⟩
theorem turn_zipS {k0}{z TI TO:aq}{cs:List Sq}{is:List aq} :
  Turn P w K (.Tuple es k0 pos) (Itq cs) (z::TI::TO::is) z (fun i h=>∃ old,ZOk h z TI TO cs is i old) where
 mem:=by simp
 obj:=fun i h st c hc=>by
  obtain ⟨old,D⟩:=st;simp only [aI] at hc
  rcases hc with rfl | rfl | rfl | hc
  ·exact ⟨_,D.zip,fun v z=>by cases z⟩
  ·exact ⟨_,D.ti,fun v z=>by cases z⟩
  ·exact ⟨_,D.to,fun v z=>by cases z⟩
  ·obtain ⟨n,hn⟩:=List.getElem?_of_mem hc
   have hl:n<cs.length:=by rw [←D.len];exact (ao.mp hn).1
   exact (D.its n _ c (gE hl) hn).obj
 keep:=fun i h h' st k=>by
  obtain ⟨old,D⟩:=st;exact ⟨old,D.len,D.few,D.pos,D.nod,k z (by simp) _ D.zip,k TI (by simp) _ D.ti,k TO (by simp) _ D.to,D.lo,fun n c i hc hi=>(D.its n c i hc hi).ext fun o e=>k i (by simp [aP hi]) o e,D.off⟩
 item:=by
  intro X hP hw hK hc i aR s σ H E I hf st hg;subst hP hw hK;obtain ⟨old,D⟩:=st;obtain ⟨vs,lv,hv⟩:=hg;have nz:∀ e∈z::TI::TO::is,H e=none:=fun e he=>(hf e he).1
  have hT:H s.heap.objs.size=none:=I.fresh;have ex:∀ n,n<cs.length→∃ u:ae,(∀ c,cs[n]? =some c→∃ xs,SqAt s.heap c xs∧xs[i]? =some u)∧∀ v,vs[n]? =some v→gI v u:=fun n hn=>by
   obtain ⟨xs,x,h1,h2,h3⟩:=hv n _ (gE hn);obtain ⟨its,r,p⟩:=h1.at I;obtain ⟨u,hu,ru⟩:=r.get h2;refine ⟨u,fun c hc=>?_,fun v hv'=>?_⟩
   ·rw [gE hn] at hc
    cases hc;exact ⟨_,p,by simpa using hu⟩
   ·rw [h3] at hv'
    cases hv';exact ru
  obtain ⟨us,lu,hu⟩:=mL cs.length ex;have hrel:gi vs us:=vals_of (by lia) fun n v u a b=>(hu n u b).2 v a
  refine zipS_go D (vs:=us) (fun n c hc=>?_) lu fun g z1 to1 m1 tp sz kk=>⟨_,rfl,?_⟩
  ·have hn:n<us.length:=by rw [lu];exact (ao.mp hc).1
   obtain ⟨xs,a,b⟩:=(hu n _ (gE hn)).1 c hc;exact ⟨xs,us[n],a,b,gE hn⟩
  refine wpAny_letOwnedTupleGo_zip z1 fun g2 z2 s2=>?_
  have s2:cx z g g2:=s2;have k2:∀ e o,e ∉ z::TO::is→s.heap.get? e=some o→g2.get? e=some o:=fun e o hn h=>by
   simp only [aI,not_or] at hn;exact s2.extBut _ _ hn.1 (kk e o hn.1 hn.2.1 hn.2.2 h)
  have zlt:z<s.heap.objs.size:=aL D.zip;have tp2:mM g2 s.heap.objs.size us:=s2.extBut _ _ (dv zlt) tp;have sub:∀ e∈z::TO::is,e∈z::TI::TO::is:=fun e he=>by
   simp only [aI] at he ⊢
   rcases he with rfl | rfl | he <;> simp [*]
  have trk:∀ e o,H e=some o→e ∉ z::TO::is:=fun e o he hm=>by rw [nz e (sub e hm)] at he;cases he
  have J:Inv X aR σ (upd H s.heap.objs.size (.tup vs)) { s with heap:=g2 }:=by
   refine I.turnAll (ch:=z::TO::is) (fun e he=>hf e (sub e he)) k2 (fun e o h=>by rw [br (bC h hT)];exact h) (fun e o h n=>by rw [br (bI (aL h))];exact n) fun e o h=>?_
   by_cases q:e=s.heap.objs.size
   ·subst q
    rw [aQ] at h;cases h;exact ⟨by rw [lv];exact aM D.few (by decide),us,hrel,_,tp2,rfl,rfl,_,rfl⟩
   ·rw [br q] at h
    refine (I.hok e o h).stay (fun c v hc' q'=>k2 c v (by
     rcases hc' with z' | z'
     ·rw [z'];exact trk e o h
     ·exact trk c _ z') q') (fun c q'=>by rw [br (bC q' hT)];exact q') fun c xs q'=>by rw [br (bC q' hT)];exact q'
  have nod:=D.nod;rw [bz,bz,bz] at nod;obtain ⟨nz',nT,nO,ni⟩:=nod;refine ⟨.ref s.heap.objs.size,_,J,rfl,⟨_,vs,hT,rfl,rfl,lv,fun n c x xs hc hq hx=>?_⟩,⟨us,D.len,D.few,D.pos,D.nod,z2,?_,s2.extBut _ _ (fun y=>nz' (by rw [←y];simp)) to1,lu,fun n c j hc hj=>?_,D.off⟩,fun e he=>?_⟩
  ·obtain ⟨ys,y,h1,h2,h3⟩:=hv n c hc
   rw [h1.inj hq] at h2;rw [h3] at hx;cases hx;exact h2
  ·refine k2 _ _ (fun y=>?_) D.ti
   rcases aI.mp y with y | y
   ·exact nz' (by rw [←y];simp)
   ·exact nT y
  ·exact (m1 n c j hc hj).ext fun o e=>s2.extBut _ _ (fun y=>nz' (by rw [←y];simp [aP hj])) e
  ·have hlt:e<s.heap.objs.size:=by
    simp only [aI] at he
    rcases he with rfl | rfl | rfl | he
    ·exact aL D.zip
    ·exact aL D.ti
    ·exact aL D.to
    ·obtain ⟨n,hn⟩:=List.getElem?_of_mem he
     have hl:n<cs.length:=by rw [←D.len];exact (ao.mp hn).1
     obtain ⟨o,ho,_⟩:=(D.its n _ e (gE hl) hn).obj;exact aL ho
   rw [br (bI hlt)];exact nz e he
 done:=by
  intro X hP hw hK hc i aR s σ H E I hf st hg;subst hP hw hK;obtain ⟨old,D⟩:=st;obtain ⟨m,cm,xm,hm,hxm,hi,hv⟩:=hg;have nz:∀ e∈z::TI::TO::is,H e=none:=fun e he=>(hf e he).1
  have ex:∀ n,n<cs.length→∃ u:ae,∀ c,cs[n]? =some c→n<m→∃ xs,SqAt s.heap c xs∧xs[i]? =some u:=fun n hn=>by
   by_cases e:n<m
   ·obtain ⟨xs,x,h1,h2⟩:=hv n _ (gE hn) e
    obtain ⟨its,r,p⟩:=h1.at I;obtain ⟨u,hu,ru⟩:=r.get h2;refine ⟨u,fun c hc _=>?_⟩;rw [gE hn] at hc;cases hc;exact ⟨_,p,by simpa using hu⟩
   ·exact ⟨.none,fun c _ z=>qM z e⟩
  obtain ⟨us,lu,hu⟩:=mL cs.length ex;obtain ⟨its,r,p⟩:=hxm.at I;have hl:=r.length;refine zipS_stop (I.ok.hd hc) D (vs:=us) (m:=m) (fun n c hc hn=>?_) lu hm p (by simp;lia) fun g kk=>⟨rfl,?_⟩
  ·have hn':n<us.length:=by rw [lu];exact (ao.mp hc).1
   obtain ⟨xs,a,b⟩:=hu n _ (gE hn') c hc hn;exact ⟨xs,us[n],a,b,gE hn'⟩
  have sub:∀ e∈z::TO::is,e∈z::TI::TO::is:=fun e he=>by
   simp only [aI] at he ⊢
   rcases he with rfl | rfl | he <;> simp [*]
  have k2:∀ e o,e ∉ z::TO::is→s.heap.get? e=some o→g.get? e=some o:=fun e o hn h=>by
   simp only [aI,not_or] at hn;exact kk e o hn.1 hn.2.1 hn.2.2 h
  have trk:∀ e o,H e=some o→e ∉ z::TO::is:=fun e o he hm=>by rw [nz e (sub e hm)] at he;cases he
  refine I.turnAll (ch:=z::TO::is) (fun e he=>hf e (sub e he)) k2 (fun _ _ h=>h) (fun _ _ _ n=>n) fun e o h=>?_
  exact (I.hok e o h).stay (fun c v hc' q'=>k2 c v (by
   rcases hc' with z' | z'
   ·rw [z'];exact trk e o h
   ·exact trk c _ z') q') (fun _ q'=>q') fun _ _ q'=>q'
 self:=fun _ _ _ _ _ st h=>let ⟨_,D⟩:=st;wpAny_pyIter_zip D.zip h
structure ZNew (h g:bL)(cs:List Sq):Prop where
 zip:IsZip g (h.objs.size+cs.length+2) (h.objs.size+cs.length) (h.objs.size+cs.length+1) .none
 ti:mM g (h.objs.size+cs.length) (((aF cs.length).map fun j=>h.objs.size+j).map ae.ref)
 to:mM g (h.objs.size+cs.length+1) (bt cs.length .none)
 its:∀ (n:Nat) c,cs[n]? =some c→ItAt g c (h.objs.size+n) 0
 ext:∀ b o,h.get? b=some o→g.get? b=some o
theorem newClass_zip (vs:List ae):eS.SmallTypes.newClass "zip" ⟨.type "zip" :: vs,[]⟩=fU (.type "zip",vs):=by
 unfold eS.SmallTypes.newClass;simp only [isType,sub_zip,pure_bind,Bool.not_true,Bool.false_eq_true,if_false]
theorem zipS_new (cs:List Sq)(few:cs.length≤8) :
  Meets (eS.«zip.__new__» ⟨.type "zip" :: cs.map fun c=>ae.ref c.a,[]⟩) (fun _ R s=>(∀ c∈cs,∃ xs,SqAt s.heap c xs)∧∀ g,ZNew s.heap g cs→R (.ok (.ret (.ref (s.heap.objs.size+cs.length+2)))) { s with heap:=g }) :=
 .of_wp fun prog w A R s h=>by
  obtain ⟨h1,h⟩:=h;unfold eS.«zip.__new__»;refine ak (wpAny_of_eq (newClass_zip _) ?_);show bf _ _ (eS.SmallTypes.iterAll (cs.map fun c=>ae.ref c.a) >>= _) _ _ _;refine ak ?_;unfold eS.SmallTypes.iterAll;refine ak (oq _ (fun j its s'=>∃ g,s'={ s with heap:=g }∧g.objs.size=s.heap.objs.size+j∧its=((aF j).map fun i=>ae.ref (s.heap.objs.size+i)).toArray∧(∀ (n:Nat) c,n<j→cs[n]? =some c→ItAt g c (s.heap.objs.size+n) 0)∧∀ b o,s.heap.get? b=some o→g.get? b=some o) _ _ ⟨s.heap,rfl,rfl,rfl,fun n c hn=>qM hn (by lia),fun _ _ e=>e⟩ ?_ ?_)
  ·rintro j a its s' ha ⟨g,rfl,sz,rfl,hit,ext⟩
   rw [ay] at ha;obtain ⟨c,hc,rfl⟩:=aS.mp ha;obtain ⟨xs,hx⟩:=h1 c (aP hc);refine ak (gG (iterS (c:=c) (xs:=xs) (hx.ext fun o e=>ext _ o e) fun g2 i2 z2 e2=>?_));refine aV ⟨_,rfl,g2,rfl,?_,?_,fun n c' hn hc'=>?_,fun b o e=>e2 b o (ext b o e)⟩
   ·show g2.objs.size=_
    rw [z2];show g.objs.size+1=_;rw [sz];lia
   ·show Array.push _ (ae.ref g.objs.size)=_
    rw [sz,fF,aE];simp
   ·by_cases e:n=j
    ·subst e
     rw [hc] at hc';cases hc';have i2:ItAt g2 c g.objs.size 0:=i2;rw [sz] at i2;exact i2
    ·exact (hit n c' (by lia) hc').ext fun o q=>e2 _ o q
  ·rintro its s' ⟨g,rfl,sz,rfl,hit,ext⟩
   have ll:(cs.map fun c=>ae.ref c.a).length=cs.length:=aa ..;rw [ll] at sz hit ⊢;refine aV ?_
   dsimp only
   have n8:((aF cs.length).map fun i=>ae.ref (s.heap.objs.size+i)).length≤aZ:=by
    rw [aa,bh];exact aM few (by decide)
   refine ak (wpAny_newTuple ?_ (by simpa using n8));refine ak (wpAny_newTuple ?_ (by simpa using n8));refine ak ?_;unfold eS.SmallTypes.newRecord;refine fM (aV ⟨_,rfl,?_⟩) (by show 5≤aZ+2;decide);have e1:(g.push { cls:= .type "tuple",data:= .seq ((aF cs.length).map fun i=>ae.ref (s.heap.objs.size+i)).toArray }).objs.size=s.heap.objs.size+cs.length+1:=by rw [d8,sz]
   have e2:((g.push { cls:= .type "tuple",data:= .seq ((aF cs.length).map fun i=>ae.ref (s.heap.objs.size+i)).toArray }).push { cls:= .type "tuple",data:= .seq ((((aF cs.length).map fun i=>ae.ref (s.heap.objs.size+i)).toArray.toList.map fun _=>ae.none)).toArray }).objs.size=s.heap.objs.size+cs.length+2:=by rw [d8,e1]
   have key:=h (((g.push { cls:= .type "tuple",data:= .seq ((aF cs.length).map fun i=>ae.ref (s.heap.objs.size+i)).toArray }).push { cls:= .type "tuple",data:= .seq ((((aF cs.length).map fun i=>ae.ref (s.heap.objs.size+i)).toArray.toList.map fun _=>ae.none)).toArray }).push { cls:= .type "zip",data:= .fields #[.none,.bool false,.bool false,.ref (s.heap.objs.size+cs.length),.ref (s.heap.objs.size+cs.length+1)] })
    ⟨by rw [←e2];exact aX _ rfl,?_,?_,fun n c hc=>(hit n c (ao.mp hc).1 hc).ext fun o q=>aw _ (aw _ (aw _ q)),fun b o q=>aw _ (aw _ (aw _ (ext b o q)))⟩
   ·rw [←e2] at key
    have e1':(s.heap.objs.size+cs.length:Nat)=g.objs.size:=sz.symm;rw [←e1,e1'] at key;exact key
   ·have em:(((aF cs.length).map fun j=>s.heap.objs.size+j).map ae.ref)=((aF cs.length).map fun i=>ae.ref (s.heap.objs.size+i)):=by rw [c9];rfl
    show bL.get? _ _=_;rw [em,←sz];exact aw _ (aw _ (aX _ rfl))
   ·rw [←e1]
    have er:(((aF cs.length).map fun i=>ae.ref (s.heap.objs.size+i)).toArray.toList.map fun _=>ae.none)=bt cs.length ae.none:=by
     rw [List.eq_replicate_iff];exact ⟨by simp,fun x hx=>by obtain ⟨_,_,rfl⟩:=bb.mp hx;rfl⟩
    rw [er];exact aw _ (aX _ rfl)
theorem zip_walk {s1:ax}{k0}{pt:Pos}{R:It→Hp→Prop}{cs:List Sq}(I1:Inv X aR σ H1 s1)(few:cs.length≤8)(pos:0<cs.length)(hq:∀ c∈cs,∃ xs,HSq H1 c xs)(q:R (Itq cs) H1){g:bL}(Z:ZNew s1.heap g cs) :
  bf (bw X.prog X.w) X.A (pyIter (.ref (s1.heap.objs.size+cs.length+2))) (PIE X aR σ (.Tuple es k0 pt) R) E { s1 with heap:=g }:=by
 have small:∀ c∈cs,c.a<s1.heap.objs.size:=fun c hc=>by
  obtain ⟨xs,hx⟩:=hq c hc;obtain ⟨o,ho⟩:=hx.has;exact Nat.lt_of_not_le fun hge=>by rw [I1.hok.fresh hge] at ho;cases ho
 refine wpAny_pyIter_zip Z.zip ⟨_,(s1.heap.objs.size+cs.length+2)::(s1.heap.objs.size+cs.length)::(s1.heap.objs.size+cs.length+1)::((aF cs.length).map fun j=>s1.heap.objs.size+j),_,Itq cs,H1,rfl,I1.kept (t':=s1.toks) Z.ext,turn_zipS,⟨_,?_,few,pos,?_,Z.zip,Z.ti,Z.to,by rw [dt],fun n c i hc hi=>?_,fun c hc=>?_⟩,fun e he=>?_,q⟩
 ·rw [aa,bh]
 ·have nd:((aF cs.length).map fun j=>s1.heap.objs.size+j).Nodup:=by
   rw [bX,fE];exact (bX.mp List.nodup_range).imp fun h e=>h (by lia)
  have out:∀ x,s1.heap.objs.size+cs.length≤x→x ∉ ((aF cs.length).map fun j=>s1.heap.objs.size+j):=fun x hx hm=>by
   obtain ⟨j,hj,rfl⟩:=bb.mp hm;have:=cg.mp hj;lia
  rw [bz,bz,bz];refine ⟨fun h=>?_,fun h=>?_,fun h=>out _ (by show @LE.le Nat _ _ _;lia) h,nd⟩
  ·rcases aI.mp h with h | h
   ·have h: @Eq Nat _ _:=h
    lia
   ·rcases aI.mp h with h | h
    ·have h: @Eq Nat _ _:=h
     lia
    ·exact out _ (by show @LE.le Nat _ _ _;lia) h
  ·rcases aI.mp h with h | h
   ·have h: @Eq Nat _ _:=h
    lia
   ·exact out _ (by show @LE.le Nat _ _ _;lia) h
 ·rw [ay,fG (ao.mp hc).1] at hi
  cases hi;exact Z.its n c hc
 ·have:=small c hc
  have this: @LT.lt Nat _ c.a s1.heap.objs.size:=this;refine ⟨by show @Ne Nat _ _;lia,by show @Ne Nat _ _;lia,fun hm=>?_⟩;obtain ⟨j,hj,e⟩:=bb.mp hm;have e: @Eq Nat _ _:=e;lia
 ·have hge:s1.heap.objs.size≤e:=by
   simp only [aI] at he
   rcases he with rfl | rfl | rfl | he
   ·show @LE.le Nat _ _ _;lia
   ·show @LE.le Nat _ _ _;lia
   ·show @LE.le Nat _ _ _;lia
   ·obtain ⟨j,hj,rfl⟩:=bb.mp he
    show @LE.le Nat _ _ _;lia
  exact I1.fpOk hge (I1.hok.fresh hge)
def iZip2 (ta:TA):TI:=fun σ H R=>ta σ H fun vs H1=>∃ c1 c2 xs ys,vs=[.ref c1.a,.ref c2.a]∧HSq H1 c1 xs∧HSq H1 c2 ys∧R (Itq [c1,c2]) H1
theorem pi_zip2 {eb:Expr}{ta:TA}{p:Pos}{k0}{pt:Pos}(hg:Gl X "zip")(hm:X.mg "zip" =none)(ha:PA X [ea,eb] ta)(hs:bB [ea,eb] X.env=[(false,eK ea X.env),(false,eK eb X.env)]:=by rfl)(hs2:bB [eb] X.env=[(false,eK eb X.env)]:=by rfl) :
  PI X (.Tuple es k0 pt) (.Call (.Name "zip" p) [ea,eb] [] pos) (iZip2 ta):=by
 intro aR s σ H R I h;refine Call_ (nk I hg hm boot_zip (ft (thn (ha pos aR s σ H _ I h) fun us s1 ⟨vs,H1,I1,r1,q1⟩=>?_) (by rw [hs,hs2]) (by rw [hs2];rfl)));obtain ⟨c1,c2,xs,ys,e,h1,h2,q⟩:=q1;subst e;obtain ⟨u1,u2,rfl,r2,r3⟩:=vals2 r1;cases (show u1=ae.ref c1.a from r2);cases (show u2=ae.ref c2.a from r3);obtain ⟨_,_,p1⟩:=h1.at I1;obtain ⟨_,_,p2⟩:=h2.at I1;refine callType_new F.called_zip (by decide) (F.typeCall_zip_2 _ _) (F.newCall_zip_2 _ _) (fun obj=>F.args_object_init_3 obj _ _) F.entry_zip_new (zipS_new [c1,c2] (by show 2≤8;decide)) ⟨fun c hc=>?_,fun g Z=>⟨⟨_,Z.zip,rfl⟩,?_⟩⟩
 ·simp only [aI,cn,or_false] at hc
  rcases hc with rfl | rfl
  ·exact ⟨_,p1⟩
  ·exact ⟨_,p2⟩
 ·refine zip_walk (cs:=[c1,c2]) I1 (by show 2≤8;decide) (by show 0<2;decide) (fun c hc=>?_) q Z
  simp only [aI,cn,or_false] at hc
  rcases hc with rfl | rfl
  ·exact ⟨_,h1⟩
  ·exact ⟨_,h2⟩
theorem for_zip2 {c1 c2:Sq}{tb:TS}{D:kG}(Pv:Nat→St→Hp→Prop)(h0:Pv 0 σ H)(hl:∀ i σ H,i≤xs.length→Pv i σ H→HSq H c1 xs∧HSq H c2 ys)(hxy:xs.length=ys.length)
  (hs:∀ i x y p σ H,xs[i]? =some x→ys[i]? =some y→Pv i σ H→H p=none→g (.ref p) σ (upd H p (.tup [x,y])) fun σ2 H2=>tb { D with nx:=Pv (i+1),ct:=Pv (i+1),bk:=D.nx } σ2 H2) (hd:∀ σ H,Pv xs.length σ H→D.nx σ H) :
  ∃ W:Nat→Nat→St→Hp→Prop,(∃ m,W 0 m σ H)∧∀ i m σ H,W i m σ H →
   ((Itq [c1,c2]).stop i H∧D.nx σ H)∨((Itq [c1,c2]).go i H∧∃ N:St→Hp→Prop,(∀ σ' H',N σ' H'→∃ m',m'<m∧W (i+1) m' σ' H')∧∀ x H',(Itq [c1,c2]).yld i H x H'→g x σ H' fun σ2 H2=>tb { D with nx:=N,ct:=N,bk:=D.nx } σ2 H2):=by
 refine ⟨fun i m σ H=>i≤xs.length∧m=xs.length - i∧Pv i σ H,⟨_,bg _,rfl,h0⟩,fun i m σ H ⟨hi,hm,hp⟩=>?_⟩;obtain ⟨qa,qb⟩:=hl i σ H hi hp
 by_cases e:i=xs.length
 ·subst e
  exact .inl ⟨⟨0,c1,xs,rfl,qa,aA _,fun n c _ hn=>qM hn (by lia)⟩,hd σ H hp⟩
 ·have hlt:i<xs.length:=dI hi e
  have hlt2:i<ys.length:=by lia
  refine .inr ⟨⟨[xs[i],ys[i]],rfl,fun n c hc=>?_⟩,Pv (i+1),fun σ' H' hp'=>⟨xs.length - (i+1),by lia,by lia,rfl,hp'⟩,fun v H3 hy=>?_⟩
  ·match n,hc with
   | 0,hc=>cases hc;exact ⟨xs,xs[i],qa,gE hlt,rfl⟩
   | 1,hc=>cases hc;exact ⟨ys,ys[i],qb,gE hlt2,rfl⟩
   | n+2,hc=>simp at hc
  ·obtain ⟨p,vs,hn,rfl,rfl,lv,hx⟩:=hy
   match vs,lv,hx with
   | [x,y],_,hx=>exact hs i x y p σ H (hx 0 c1 x xs rfl qa rfl) (hx 1 c2 y ys rfl qb rfl) hp hn
theorem ps_setCT {py:Pos}{xs:List Str}
  (hN0:X.N.Nodup) (hi0:X.N[iy]? =some y0) (hx0:Loc X.env.scope y0) (hc:X.calm=true) (hi:PI X tg iter wi)
  (iH:∀ y∈scope.names,y.2≠ .cell) (lM:scope.kind= .function) (kA:∀ y∈scope.names,y.2= .local→scope.names.lookup y.1=some .local)
  (hfr:∀ y∈scope.names,y.2= .free→X.env.scope.names.lookup y.1=some .cell) (hjs:js.map (fun j=>X.N[j]?)=fr.map some) (hfv:∀ y∈fr,scope.names.lookup y=some .free)
  (hg:∀ cl C s' H' ex,PG (fQ X scope cl C (xs++fr) s' H' ex) tg g)
  (hb:∀ cl C s' H' ex,PE (fQ X scope cl C (xs++fr) s' H' ex) elt te∧PTs (fQ X scope cl C (xs++fr) s' H' ex) ifs tt)
  (hs:∀ z,fN iter X.env z=fU z:=by intro _;rfl) (hsw:swapsWith (.ListComp elt [⟨tg,iter,ifs,0⟩] scope pos) (some (.Name y0 py)) spos.line X.env=fU true:=by rfl)
  (hf0:X.fn y0=true∨X.env.scope.names.lookup y0=some .local:=by first | exact .inl rfl | exact .inr rfl | assumption) :
  PS X (.Assign [.Name y0 py] (.ListComp elt [⟨tg,iter,ifs,0⟩] scope pos) spos) (tAsg (tCompT wi xs.length g js tt te) (nV iy)) :=
 ps_setCC hN0 hi0 hx0 hc hi iH lM kA hfr hjs hfv hg hb (fun _ _ _ _ h=>h) hs hsw hf0
theorem PE.cutV {t:TE}(h:PE X e t):PE X e (fun σ H Q=>∃ N:VK,(∀ v H',N v H'→Q v H')∧t σ H N):=fun aR s σ H Q I ⟨N,i,q⟩ =>
 thn (h aR s σ H N I q) fun u s' ⟨v,H',I',rv,q'⟩=>⟨v,H',I',rv,i _ _ q'⟩
theorem compT_zip2 {c1 c2:Sq}{Q:VK}(Pv:Nat→List V→Hp→Prop)(h0:Pv 0 [] H)(hl:∀ i zs H,i≤xs.length→Pv i zs H→HSq H c1 xs∧HSq H c2 ys∧zs.length≤i)(hxy:xs.length=ys.length)(hz:xs.length≤aZ)
  (hs:∀ i x y zs p H,xs[i]? =some x→ys[i]? =some y→Pv i zs H→H p=none→tt (some x::some y::cQ σ js) (upd H p (.tup [x,y])) fun b H4=>if b=true then te (some x::some y::cQ σ js) H4 fun y H5=>Pv (i+1) (zs++[y]) H5 else Pv (i+1) zs H4)
  (hd:∀ zs H,Pv xs.length zs H→∀ D,H D=none→Q (.ref D) (upd H D (.lst zs))):nJ 2 (gPair K) js tt te σ Q (Itq [c1,c2]) H:=by
 refine ⟨fun i m zs H=>i≤xs.length∧m=xs.length - i∧Pv i zs H,⟨_,bg _,rfl,h0⟩,fun i m zs H2 ⟨hi,hm,hp⟩=>?_⟩;obtain ⟨qa,qb,hy⟩:=hl i zs H2 hi hp
 by_cases e:i=xs.length
 ·subst e
  exact .inl ⟨⟨0,c1,xs,rfl,qa,aA _,fun n c _ hn=>qM hn (by lia)⟩,hd zs H2 hp⟩
 ·have hlt:i<xs.length:=dI hi e
  have hlt2:i<ys.length:=by lia
  refine .inr ⟨⟨[xs[i],ys[i]],rfl,fun n c hc=>?_⟩,by lia,Pv (i+1),fun ys' H' hp'=>⟨xs.length - (i+1),by lia,by lia,rfl,hp'⟩,fun v H3 hy3 v0 hv0=>?_⟩
  ·match n,hc with
   | 0,hc=>cases hc;exact ⟨xs,xs[i],qa,gE hlt,rfl⟩
   | 1,hc=>cases hc;exact ⟨ys,ys[i],qb,gE hlt2,rfl⟩
   | n+2,hc=>simp at hc
  ·obtain ⟨p,vs,hn,rfl,rfl,lv,hx⟩:=hy3
   match vs,lv,hx,v0,hv0 with
   | [x,y],_,hx,[v1,v2],_=>exact ⟨p,_,rfl,SqT.of aQ,rfl,_,_,rfl,_,_,rfl,rfl,⟨[some x,some y],rfl,rfl⟩,hs i x y zs p H2 (hx 0 c1 x xs rfl qa rfl) (hx 1 c2 y ys rfl qb rfl) hp hn⟩
end L2
variable {cs:List L2.Sq}
local macro_rules
 | `(tactic|exists $s:term) => `(tactic|(show ∀ y:cb×PySem.NameKind,y∈_→y.2=PySem.NameKind.free→eG y.1 (L2.defScope $s).names=some PySem.NameKind.cell;decide +kernel))
local macro_rules
 | `(tactic|trivial) => `(tactic|first|decide +kernel|exact ⟨rfl,rfl,rfl,by decide +kernel,rfl,by decide +kernel,by decide +kernel⟩|exact True.intro)
local macro_rules
 | `(tactic|contradiction) => `(tactic|(intro _ _ _ _ h;first | (cases h;subst_vars;rfl) | ((repeat (obtain ⟨_,h⟩:=h));subst_vars;rfl)))
namespace L2
open PySem PyProof.Rows
theorem ixZ {a:Expr}{p q:Pos}{i:Int}{j}(h:PE X a ta):PE X (.Subscript a (.Constant (.int i) j p) q) (tOp (rIxT X.K) ta (tC (.int i))):=eJ eD h bD (fun _ _=>rfl)
theorem szZ1:1≤aZ:=by decide
theorem oI:2≤aZ:=by decide
theorem szZ4:4≤aZ:=by decide
theorem szZ5:5≤aZ:=by decide
theorem psZ (i:Nat)(hN:X.N.Nodup)(he:PE X e te)(hi:X.N[i]? =some x:=by rfl)(hx:Loc X.env.scope x:=by first|exact .inl rfl|exact .inr rfl)(hs:swapsWith e (some (.Name x pos')) pos.line X.env=fU false:=by rfl)(hf:X.fn x=true∨X.env.scope.names.lookup x=some .local:=by first|exact .inl rfl|exact .inr rfl|assumption):PS X (.Assign [.Name x pos'] e pos) (tAsg te (nV i)):=ps_set hN hi hx he hs hf
theorem pgZ (i:Nat)(hN:X.N.Nodup)(hi:X.N[i]? =some x:=by rfl)(hx:Loc X.env.scope x:=by first|exact .inl rfl|exact .inr rfl)(hf:X.fn x=true∨X.env.scope.names.lookup x=some .local:=by first|exact .inl rfl|exact .inr rfl|assumption):PG X (.Name x pos) (nV i):=nU hN hi hx hf
end L2
namespace L2
abbrev pza:List cb:=["net"]
abbrev pzb:List cb:=["net","thing"]
abbrev pzc:List cb:=["net","step"]
abbrev pzd:List cb:=["net","span"]
abbrev pze:List cb:=["net","bounds","ring"]
abbrev pzf:List cb:=["_law_box_here","_law_net"]
abbrev pzg:List cb:=["_law_script","_law_k"]
abbrev pzh:List cb:=["_law_box_here","_law_most"]
abbrev pzi:List cb:=["_law_net","_law_table_here"]
abbrev pzj:List cb:=["beat","number"]
abbrev pzk:List cb:=["net","spans","happening"]
abbrev pzl:List cb:=["net","case"]
abbrev pzm:List cb:=["bounds","span","low","high"]
abbrev pzn:List cb:=["net","most"]
abbrev pzo:List cb:=["thing","low","high"]
abbrev pzp:List cb:=["thing","word","many"]
abbrev pzq:List cb:=["net","one","other"]
abbrev pzr:List cb:=["case","span"]
abbrev pzs:List cb:=["net","parts","table","shifts"]
abbrev pzt:List cb:=["rings","span"]
abbrev pzu:List cb:=["net","leaf_in"]
abbrev pzv:List cb:=["net","table"]
abbrev pzw:List cb:=["_law_net","_law_thing"]
abbrev pzx:List cb:=["net","bounds","leaf"]
abbrev pzy:List cb:=["_law_net","_law_table_here","_law_found"]
abbrev pzz:List cb:=["_law_beat","_law_many"]
abbrev pzA:List cb:=["_law_net","_law_span","_law_table_here"]
abbrev pzB:List cb:=["net","spans","begin","end"]
abbrev pzC:List cb:=["net","steps","bounds"]
abbrev pzD:List cb:=["net","parts","table","other"]
abbrev pzE:List cb:=["bounds","way"]
abbrev pzF:List cb:=["self","case","span","at"]
abbrev pzG:List cb:=["_law_net","_law_table_here","_law_tables_here"]
abbrev pzH:List cb:=["bounds","thing"]
abbrev pzI:List cb:=["bounds","cut"]
abbrev pzJ:List cb:=["_law_box_here","_law_most","_law_many"]
end L2
namespace HN
open PySem L2 PyProof.Rows
theorem mO {b:Bool}{A:Prop}(h:b=true)(x:A):if b=true then A else B:=by rw [qL h];exact x
theorem kd {b:Bool}{A:Prop}(h:b=false)(x:B):if b=true then A else B:=by rw [qK (by rw [h];exact bo)];exact x
structure Nm (mg:Str→Option ae):Prop where
 isin:mg "isinstance" =none
 tint:mg "int" =none
 tbool:mg "bool" =none
 ttup:mg "tuple" =none
 len:mg "len" =none
 min:mg "min" =none
 all:mg "all" =none
structure Fn (K:au)(mg:Str→Option ae)(x:Str)(st:cJ)(ps:List Str)(f:aq)(fd:bp):Prop where
 F:Fun K x x st f fd
 mg:mg x=some (.ref f)
 b:n4 K fd ps []
theorem pc1 {k:Nat}{sp:Sp}{p:Pos}(G:Fn X.K X.mg x st ps f fd)(F:cM X.prog X.w X.K X.mg X.base CX0 k f fd ps sp)(hr:gN k X.A)
  (ha:PA X (e::es) t) (hg:Gl X x:=by rfl) (hdb:(x == ("__debug__" :Str))=false:=by decide) (he:bB (e::es) X.env=(false,eK e X.env)::bB es X.env:=by rfl) (hpl:(fP pos (bB es X.env)).any (·.1)=false:=by rfl) :
  PE X (.Call (.Name x p) (e::es) [] pos) (tCall sp [] E0 t):=pe_call F hr hg G.mg G.F.kp G.b .nil pass0 ha hdb he hpl
theorem pe_gint {i:Int}(hm:∃ t,X.mg x=some (.int i t))(hg:Gl X x:=by rfl)(hd:(x == ("__debug__" :Str))=false:=by decide):PE X (.Name x pos) (tC (.int i)) :=
 let ⟨t,e⟩:=hm;pe_glob (v:= .int i) (u:= .int i t) hg e ⟨t,rfl⟩ hd
theorem lU {p:Pos}(N:Nm X.mg)(he:PE X e te)(hg:Gl X "isinstance" := by rfl)(hg2:Gl X "tuple" := by rfl)
  (hs1:bB [e,.Name "tuple" p2] X.env=(false,eK e X.env)::bB [.Name "tuple" p2] X.env:=by rfl) (hpl:(fP pos (bB [.Name "tuple" p2] X.env)).any (·.1)=false:=by rfl) :
  PE X (.Call (.Name "isinstance" p) [e,.Name "tuple" p2] [] pos) (tCB (fun xs H Q=>∃ x T,xs=[x,.ty "tuple"]∧tyn H x=some T∧Q (.bl (T == "tuple")) H) (nM te (nM (tC (.ty "tuple")) tNil))) :=
 cp call_isTup hg N.isin boot_isinstance (af he (af (pe_bltn hg2 N.ttup iX rfl) aD) hs1) (he:=hs1) (hpl:=hpl)
theorem pe_isInt {p:Pos}(N:Nm X.mg)(he:PE X e te)(hg:Gl X "isinstance" := by rfl)(hg2:Gl X "int" := by rfl)
  (hs1:bB [e,.Name "int" p2] X.env=(false,eK e X.env)::bB [.Name "int" p2] X.env:=by rfl) (hpl:(fP pos (bB [.Name "int" p2] X.env)).any (·.1)=false:=by rfl) :
  PE X (.Call (.Name "isinstance" p) [e,.Name "int" p2] [] pos) (tCB (fun xs H Q=>∃ x T,xs=[x,.ty "int"]∧tyn H x=some T∧Q (.bl (T == "int" || T == "bool")) H) (nM te (nM (tC (.ty "int")) tNil))) :=
 cp call_isInt hg N.isin boot_isinstance (af he (af (pe_bltn hg2 N.tint boot_int rfl) aD) hs1) (he:=hs1) (hpl:=hpl)
theorem pe_isBool {p:Pos}(N:Nm X.mg)(he:PE X e te)(hg:Gl X "isinstance" := by rfl)(hg2:Gl X "bool" := by rfl)
  (hs1:bB [e,.Name "bool" p2] X.env=(false,eK e X.env)::bB [.Name "bool" p2] X.env:=by rfl) (hpl:(fP pos (bB [.Name "bool" p2] X.env)).any (·.1)=false:=by rfl) :
  PE X (.Call (.Name "isinstance" p) [e,.Name "bool" p2] [] pos) (tCB (fun xs H Q=>∃ x T,xs=[x,.ty "bool"]∧tyn H x=some T∧Q (.bl (T == "bool")) H) (nM te (nM (tC (.ty "bool")) tNil))) :=
 cp call_isBool hg N.isin boot_isinstance (af he (af (pe_bltn hg2 N.tbool boot_bool rfl) aD) hs1) (he:=hs1) (hpl:=hpl)
structure Sn where
 s:Int
 g:Int
 l:Int
 o:Int
 w:Int
abbrev Sn.row (x:Sn):List Int:=[x.s,x.g,x.l,x.o,x.w]
abbrev jA (b m:Int)(sp:List Sn):Dt:= .tup [.int b,.int m,.tup (sp.map fun x=> .tup (x.row.map Dt.int))]
theorem fm {m:Int}{sp:List Sn}(h:IsD H v (jA b m sp)):∃ t p ys,v= .ref t∧H t=some (.tup [.int b,.int m,.ref p])∧H p=some (.tup ys)∧ys.length=sp.length∧∀ (i:Nat) (x:Sn),sp[i]? =some x→∃ q,ys[i]? =some (.ref q)∧H q=some (.tup [.int x.s,.int x.g,.int x.l,.int x.o,.int x.w]):=by
 obtain ⟨t,xs,rfl,ht,rx⟩:=h.tup_of;cases rx with
 | cons h0 r0 =>
  cases r0 with
  | cons h1 r1 =>
   cases r1 with
   | cons h2 r2 =>
    cases r2;cases h0;cases h1;obtain ⟨p,ys,rfl,hp,ry⟩:=h2.tup_of;refine ⟨t,p,ys,rfl,ht,hp,by rw [ry.length,aa],fun i x hx=>?_⟩;obtain ⟨y,hy,dy⟩:=ry.at (i:=i) (d:= .tup (x.row.map Dt.int)) (by rw [ay,hx];rfl);obtain ⟨q,zs,rfl,hq,rz⟩:=dy.tup_of;have ez:=rz.ints_of;subst ez;exact ⟨q,hy,hq⟩
def tm (ts:List Int)(i:Int):Int:=ts.getD i.toNat 0
theorem lE {i:Int}(h0:0≤i)(h1:i<ts.length):atI (ts.map V.int) i=some (.int (tm ts i)):=by
 obtain ⟨j,rfl⟩:=cz h0;refine aO ?_;rw [ay,gE (by lia)];unfold tm;rw [cI,ai,gE (by lia)];rfl
structure Rdy (b:Int)(ts:List Int)(sp:List Sn):Prop where
 b1:0<b
 few:sp.length≤1000
 ends:∀ x∈sp,0≤x.s∧x.s<ts.length∧0≤x.g∧x.g<ts.length
def iq (b:Int)(ts:List Int)(x:Sn):Int:=(tm ts x.g - tm ts x.s - x.l) % b
def brk (b:Int)(ts:List Int)(x:Sn):Bool:=decide (x.o - x.l<iq b ts x)
def lr (b:Int)(ts:List Int)(sp:List Sn):Bool:= !(sp.any (brk b ts))
def waitOfM (b:Int)(ts:List Int)(sp:List Sn):Int:=(sp.map fun x=>x.w * iq b ts x).sum
theorem eQ (h:n≤1000):n≤aZ:=aM h (by decide)
structure Nt (mg:Str→Option ae):Prop where
 range:mg "range" =none
 enum:mg "enumerate" =none
 zip:mg "zip" =none
 sum:mg "sum" =none
 tlist:mg "list" =none
 max:mg "max" =none
structure SnOk (b m:Int)(x:Sn):Prop where
 s0:0≤x.s
 s1:x.s<m
 g0:0≤x.g
 g1:x.g<m
 ne:x.s≠x.g
 l0:0≤x.l
 lo:x.l≤x.o
 ob:x.o<x.l+b
 o60:x.o<10 ^ 60
 w0:0≤x.w
 w1:x.w≤1000000000000
structure jD (b m:Int)(sp:List Sn):Prop where
 b1:1≤b
 b2:b≤10 ^ 59
 m1:1≤m
 m2:m≤16
 few:sp.length≤40
 all:∀ x∈sp,SnOk b m x
theorem jD.rdy {m:Int}{sp:List Sn}(h:jD b m sp)(ht:(ts.length:Int)=m):Rdy b ts sp :=
 ⟨by have:=h.b1;lia,by have:=h.few;lia,fun x hx=>by have:=h.all x hx;exact ⟨this.s0,by have:=this.s1;lia,this.g0,by have:=this.g1;lia⟩⟩
theorem tm_in {i:Int}(h:∀ i∈ts,0≤i∧i<b)(h0:0≤i)(h1:i<ts.length):0≤tm ts i∧tm ts i<b:=by
 have hi:i.toNat<ts.length:=by lia
 have e:tm ts i=ts[i.toNat]:=by unfold tm;rw [ai,gE hi];rfl
 rw [e];exact h _ (ba hi)
theorem rest_two (x y l b:Int):(x % b - y % b - l) % b=(x - y - l) % b:=by
 have hx:=hI x b;have hy:=hI y b;have e:x - y - l=(x % b - y % b - l)+b * (x / b - y / b):=by rw [i9];lia
 rw [e,iD]
inductive spRest (vs:List V)(H:Hp)(Q:VK)(_:XK):Prop
 | mk (b n:_)(_:vs=[.int b,.int n])(_:0<b)(_:Q (.int (n % b)) H)
inductive spWidth (vs:List V)(H:Hp)(Q:VK)(_:XK):Prop
 | mk (v b m sp i x:_)(_:vs=[v,.int (i:Nat)])(_:IsD H v (jA b m sp))(_:sp[i]? =some x)(_:Q (.int (x.o - x.l)) H)
def Mb (p:aq)(H H':Hp):Prop:=(∀ b o,b≠p→H b=some o→H' b=some o)∧∃ x y,H' p=some (.lst [.int x,.int y])
theorem Mb.refl {p:aq}{x:Int}(h:H p=some (.lst [.int x,.int y])):Mb p H H:=⟨fun _ _ _ e=>e,x,y,h⟩
theorem Mb.trans {p:aq}(a:Mb p H H1)(b:Mb p H1 H2):Mb p H H2:=⟨fun c o hc e=>b.1 c o hc (a.1 c o hc e),b.2⟩
theorem Mb.then {p:aq}(a:Mb p H H1)(e:bH H1 H2):Mb p H H2:=⟨fun c o hc q=>e _ _ (a.1 c o hc q),let ⟨x,y,h⟩:=a.2;⟨x,y,e _ _ h⟩⟩
theorem Mb.at {p q:aq}(a:Mb p H H1)(h:H q=some o)(hne:q≠p):H1 q=some o:=a.1 q o hne h
theorem bH.mb {p:aq}(e:bH H H1)(hp:H p=none)(m:Mb p H1 H2):bH H H2:=fun b o q=>m.1 b o (fun z=>by rw [z,hp] at q;cases q) (e b o q)
inductive spCell (K:au)(vs:List V)(H:Hp)(Q:VK)(_:XK):Prop
 | mk (a:aq)(ns:List Int)(k:Int)(_:vs=[.ref a,.int k])(_:SqL K H a (ns.map V.int))(_:0≤k)(_:∀ c:Int,Q (.int c) H)
inductive spBox (K:au)(vs:List V)(H:Hp)(Q:VK)(_:XK):Prop
 | mk (a:aq)(ns:List Int)(k:Int)(_:vs=[.ref a,.int k])(_:SqL K H a (ns.map V.int))(_:0≤k)(_:∀ x y p,H p=none→Q (.ref p) (upd H p (.lst [.int x,.int y])))
inductive spDraw (vs:List V)(H:Hp)(Q:VK)(_:XK):Prop
 | mk (p x y m:_)(_:vs=[.ref p,.int m])(_:H p=some (.lst [.int x,.int y]))(_:0<m)(_:m<10 ^ 61)(_:∀ r H',0≤r→r<m→Mb p H H'→Q (.int r) H')
theorem boxed {p:aq}{x:Int}{sp:List Sn}:∀ {zs:List V},dG H zs (sp.map fun z=> .tup (z.row.map Dt.int))→Mb p H H'→H p=some (.lst [.int x,.int y])→dG H' zs (sp.map fun z=> .tup (z.row.map Dt.int)):=by
 induction sp with
 | nil=>intro zs h _ _;cases h;exact .nil
 | cons z r ih =>
  intro zs h M hp;cases h with
  | cons h1 h2 =>
   refine .cons ?_ (ih h2 M hp);obtain ⟨q,ws,rfl,hq,rw'⟩:=h1.tup_of;have e:=rw'.ints_of;subst e;exact .tup (M.1 q _ (fW hq hp nofun) hq) (dG.ints _)
theorem atI_in {xs:List α}{r:Int}(h0:0≤r)(h1:r<xs.length):∃ v,atI xs r=some v∧v∈xs:=by
 obtain ⟨j,rfl⟩:=cz h0;have hj:j<xs.length:=by lia
 exact ⟨xs[j],aO (gE hj),ba hj⟩
theorem log_ok {m:Int}(h0:0<m)(h:m<10 ^ 61):0<m∧m.natAbs.log2<9000:=by
 refine ⟨h0,?_⟩;have h1:m.natAbs<2 ^ 300:=by
  have:(10:Nat) ^ 61<2 ^ 300:=by trivial
  have h2:m.natAbs<10 ^ 61:=by lia
  exact Nat.lt_trans h2 this
 have h3:m.natAbs≠0:=by lia
 have:=(Nat.log2_lt h3).mpr h1;lia
theorem goal_ok {s t m:Int}(h0:0≤s)(h1:s<m)(h2:0≤t)(h3:t<m - 1):0≤(s+1+t) % m∧(s+1+t) % m<m∧s≠(s+1+t) % m:=by
 have hm:0<m:=by lia
 have a:=fb (s+1+t) (by lia:m≠0);have b:=eE (s+1+t) hm;refine ⟨a,b,?_⟩
 by_cases q:s+1+t<m
 ·rw [ik (by lia) q];lia
 ·have e:(s+1+t) % m=(s+1+t - m) % m:=(Int.sub_emod_right _ _).symm
  rw [e,ik (by lia) (by lia)];lia
abbrev rowsP {α:Type}(f:α→List Int)(xs:List α):Dt:= .tup (xs.map fun x=> .tup ((f x).map Dt.int))
theorem iF {f:α→List Int}{xs:List α}(r:dG H ys (xs.map fun x=> .tup ((f x).map Dt.int))){x:α}(hx:xs[i]? =some x):∃ q,ys[i]? =some (.ref q)∧H q=some (.tup ((f x).map V.int)):=by
 obtain ⟨y,hy,dy⟩:=r.at (i:=i) (d:= .tup ((f x).map Dt.int)) (by rw [ay,hx];rfl);obtain ⟨q,zs,rfl,hq,rz⟩:=dy.tup_of;have ez:=rz.ints_of;subst ez;exact ⟨q,hy,hq⟩
theorem gw {f:α→List Int}{xs:List α}(h:IsD H v (rowsP f xs)):∃ p ys,v= .ref p∧H p=some (.tup ys)∧ys.length=xs.length∧dG H ys (xs.map fun x=> .tup ((f x).map Dt.int)):=by
 obtain ⟨p,ys,rfl,hp,ry⟩:=h.tup_of;exact ⟨p,ys,rfl,hp,by rw [ry.length,aa],ry⟩
structure Stp where
 i:Nat
 d:Int
abbrev Stp.row (s:Stp):List Int:=[(s.i:Int),s.d]
abbrev oj (ws:List Stp):Dt:=rowsP Stp.row ws
abbrev bndR (p:Int×Int):List Int:=[p.1,p.2]
abbrev bndP (bs:List (Int×Int)):Dt:=rowsP bndR bs
def frm (x:Sn)(d:Int):Int:=if d=1 then x.s else x.g
def too (x:Sn)(d:Int):Int:=if d=1 then x.g else x.s
def pW (n:Nat)(ws:List Stp):Prop:=∀ s∈ws,s.i<n∧(s.d=1∨s.d= -1)
def kl (sp:List Sn)(s:Stp):Int:=match sp[s.i]? with | some x=>frm x s.d | none=>0
def eY (sp:List Sn)(s:Stp):Int:=match sp[s.i]? with | some x=>too x s.d | none=>0
def lowS (bs:List (Int×Int))(s:Stp):Int:=match bs[s.i]? with | some p=>if s.d=1 then p.1 else -p.2 | none=>0
def lN (bs:List (Int×Int))(s:Stp):Int:=match bs[s.i]? with | some p=>if s.d=1 then p.2 else -p.1 | none=>0
def fZ (bs:List (Int×Int))(ws:List Stp):Int:=(ws.map (lowS bs)).sum
def iB (bs:List (Int×Int))(ws:List Stp):Int:=(ws.map (lN bs)).sum
theorem atI_last {xs:List α}{x:α}(h:xs[xs.length - 1]? =some x):atI xs (-1)=some x:=by
 have hl:xs.length - 1<xs.length:=(ao.mp h).1;unfold atI ixN;rw [qK (by decide),qL (by lia)];show xs[(-1+(xs.length:Int)).toNat]? =some x;rw [show (-1+(xs.length:Int)).toNat=xs.length - 1 by lia];exact h
inductive p9 (vs:List V)(H:Hp)(Q:VK)(_:XK):Prop
 | mk (v:V)(q:aq)(b m:Int)(sp:List Sn)(s:Stp)(x:Sn)(_:vs=[v,.ref q])(_:IsD H v (jA b m sp))(_:H q=some (.tup (s.row.map V.int)))(_:sp[s.i]? =some x)(_:Q (.int (frm x s.d)) H)
inductive spTo (vs:List V)(H:Hp)(Q:VK)(_:XK):Prop
 | mk (v:V)(q:aq)(b m:Int)(sp:List Sn)(s:Stp)(x:Sn)(_:vs=[v,.ref q])(_:IsD H v (jA b m sp))(_:H q=some (.tup (s.row.map V.int)))(_:sp[s.i]? =some x)(_:Q (.int (too x s.d)) H)
inductive spFirst (vs:List V)(H:Hp)(Q:VK)(_:XK):Prop
 | mk (v:V)(b m:Int)(sp:List Sn)(_:vs=[v])(_:IsD H v (jA b m sp))(_:sp.length≤1000)(_:∀ u H',bH H H'→IsD H' u (bndP (sp.map fun x=>(x.l,x.o)))→Q u H')
inductive spSum (vs:List V)(H:Hp)(Q:VK)(_:XK):Prop
 | mk (vb vw:V)(bs:List (Int×Int))(ws:List Stp)(_:vs=[vb,vw])(_:IsD H vb (bndP bs))(_:IsD H vw (oj ws))(_:pW bs.length ws)(_:∀ p H',bH H H'→H' p=some (.tup [.int (fZ bs ws),.int (iB bs ws)])→Q (.ref p) H')
theorem netP_mb {p:aq}{x:Int}{m:Int}{sp:List Sn}(h:IsD H v (jA b m sp))(hp:H p=some (.lst [.int x,.int y]))(M:Mb p H H'):IsD H' v (jA b m sp):=by
 obtain ⟨t,xs,rfl,ht,rx⟩:=h.tup_of;cases rx with
 | cons h0 r0 =>
  cases r0 with
  | cons h1 r1 =>
   cases r1 with
   | cons h2 r2 =>
    cases r2;cases h0;cases h1;obtain ⟨q,ys,rfl,hq,ry⟩:=h2.tup_of;exact .tup (M.1 t _ (fW ht hp nofun) ht) (.cons (.int b) (.cons (.int m) (.cons (.tup (M.1 q _ (fW hq hp nofun) hq) (boxed ry M hp)) .nil)))
abbrev cW {α:Type}(f:α→List Int)(xs:List α):List Dt:=xs.map fun x=> .tup ((f x).map Dt.int)
theorem pls_rows {α:Type}(f:α→List Int):∀ xs:List α,pls (cW f xs)=true
 | []=>by unfold pls;rfl
 | x::xs=>by unfold cW;rw [bR];unfold pls;rw [show pls (xs.map fun x=>Dt.tup ((f x).map Dt.int))=true from pls_rows f xs];unfold pl;rw [oz];rfl
theorem deps_rows {α:Type}(f:α→List Int):∀ xs:List α,deps (cW f xs)≤1
 | []=>by unfold deps;exact bg _
 | x::xs=>by unfold cW;rw [bR];unfold deps;have:=deps_rows f xs;unfold cW at this;unfold dep;rw [pM];lia
theorem eqDs_none (f:α→List Int):∀ xs:List α,pV (cW f xs) []=xs.isEmpty
 | []=>by unfold pV;rfl
 | _::_=>by unfold cW;rw [bR];unfold pV;rfl
structure N3 (mg:Str→Option ae):Prop where
 tset:mg "set" =none
def om (ss:List Stp):List Int:=ss.map fun s=>(s.i:Int)
theorem numsS_take {ss:List Stp}(h:i<ss.length):om (ss.take (i+1))=om (ss.take i)++[(ss[i].i:Int)]:=by
 unfold om;rw [bj,gE h,aE];rfl
def jL (H H':Hp):Prop:=∀ q xs,H q=some (.tup xs)→H' q=some (.tup xs)
theorem jL.trans (a:jL H H1)(b:jL H1 H2):jL H H2:=fun q xs h=>b q xs (a q xs h)
theorem bH.tupK (e:bH H H'):jL H H':=fun _ _ h=>e _ _ h
theorem Mb.tupK {p:aq}(hp:H p=some (.lst xs))(M:Mb p H H'):jL H H':=fun q ys h=>M.1 q _ (fW h hp nofun) h
theorem eI {p:aq}(hp:H p=some (.lst xs)):jL H (upd H p o):=fun q ys h=>by rw [br (fW h hp nofun)];exact h
theorem df {α:Type}{f:α→List Int}{H H':Hp}(e:jL H H'):∀ {xs:List α} {zs:List V},dG H zs (cW f xs)→dG H' zs (cW f xs)
 | [],_,h=>by cases h;exact .nil
 | x::xs,zs,h=>by
  unfold cW at h ⊢;rw [bR] at h ⊢;cases h with
  | cons h1 h2 =>
   obtain ⟨q,ws,rfl,hq,rw'⟩:=h1.tup_of;have e2:=rw'.ints_of;subst e2;exact .cons (.tup (e q _ hq) (dG.ints _)) (df e h2)
def upB (b s:Int):Int:= -(-s / b)
inductive spBeats (vs:List V)(H:Hp)(Q:VK)(_:XK):Prop
 | mk (vn vb vw:V)(b m:Int)(sp:List Sn)(bs:List (Int×Int))(ws:List Stp)(_:vs=[vn,vb,vw])(_:IsD H vn (jA b m sp))(_:0<b)(_:b<10 ^ 61)(_:IsD H vb (bndP bs))(_:IsD H vw (oj ws))(_:pW bs.length ws)(_:∀ p H',bH H H'→H' p=some (.tup [.int (upB b (fZ bs ws)),.int (iB bs ws / b)])→Q (.ref p) H')
inductive Lf where
 | ring (ws:List Stp)
 | price (rows:List (Int×List Stp))
abbrev rowD (r:Int×List Stp):Dt:= .tup [.int r.1,oj r.2]
def leafP:Lf→Dt
 | .ring ws=> .tup [.str "ring",oj ws]
 | .price rows=> .tup [.str "price",.tup (rows.map rowD)]
def jb (b:Int)(bs:List (Int×Int))(ws:List Stp):Bool:=decide (upB b (fZ bs ws) > iB bs ws / b)
def sureB (b:Int)(bs:List (Int×Int))(ws:List Stp):Bool:=decide (upB b (fZ bs ws)=iB bs ws / b)
inductive spDead (vs:List V)(H:Hp)(Q:VK)(_:XK):Prop
 | mk (vn vb vw:V)(b m:Int)(sp:List Sn)(bs:List (Int×Int))(ws:List Stp)(_:vs=[vn,vb,vw])(_:IsD H vn (jA b m sp))(_:0<b)(_:b<10 ^ 61)(_:IsD H vb (bndP bs))(_:IsD H vw (oj ws))(_:pW bs.length ws)(_:∀ H',bH H H'→Q (.bl (jb b bs ws)) H')
theorem dG.takeN {H:Hp}:∀ {xs:List V} {ds:List Dt} (n:Nat),dG H xs ds→dG H (xs.take n) (ds.take n)
 | _,_,0,_=> .nil
 | _,_,_+1,.nil=> .nil
 | _,_,n+1,.cons h r=> .cons h (dG.takeN n r)
theorem dG.dropN {H:Hp}:∀ {xs:List V} {ds:List Dt} (n:Nat),dG H xs ds→dG H (xs.drop n) (ds.drop n)
 | _,_,0,h=>h
 | _,_,_+1,.nil=> .nil
 | _,_,n+1,.cons _ r=>dG.dropN n r
def oo (sp:List Sn):Int→List Stp→Int→Prop
 | x,[],y=>x=y
 | x,s::ws,y=>kl sp s=x∧oo sp (eY sp s) ws y
theorem oo.append {sp:List Sn}:∀ {us:List Stp} {x y z:Int} {vs:List Stp},oo sp x us y→oo sp y vs z→oo sp x (us++vs) z
 | [],_,_,_,_,h,k=>by cases h;exact k
 | _::us,_,_,_,_,h,k=>⟨h.1,oo.append (us:=us) h.2 k⟩
theorem mK {sp:List Sn}(h:j<sp.length):kl sp ⟨j,d⟩=frm sp[j] d:=by
 unfold kl;show (match sp[j]? with | some x=>frm x d | none=>0)=_;rw [gE h]
theorem kJ {sp:List Sn}(h:j<sp.length):eY sp ⟨j,d⟩=too sp[j] d:=by
 unfold eY;show (match sp[j]? with | some x=>too x d | none=>0)=_;rw [gE h]
theorem ends_of_span {sp:List Sn}{st:Stp}(h:j<sp.length)(e:st.i=j)(hs:st.d=1∨st.d= -1)(hd:d=1∨d= -1):eY sp st=eY sp ⟨j,d⟩∨kl sp st=eY sp ⟨j,d⟩:=by
 obtain ⟨i,dd⟩:=st;have e:i=j:=e;subst e;have hs:dd=1∨dd= -1:=hs;rw [kJ h,kJ h,mK h];unfold too frm
 rcases hs with rfl | rfl <;> rcases hd with rfl | rfl <;> simp
structure Bk (sp:List Sn)(be ou:Int)(x:Int)(ws:List Stp):Prop where
 inn:pW sp.length ws
 alo:oo sp be ws x
 one:(ws.map Stp.i).Nodup
 out:∀ s∈ws,(s.i:Int)≠ou
structure Rg (sp:List Sn)(ws:List Stp):Prop where
 inn:pW sp.length ws
 two:2≤ws.length
 few:ws.length≤17
 one:(ws.map Stp.i).Nodup
 rnd:∃ x,oo sp x ws x
theorem Bk.ring {sp:List Sn}{k:Nat}{ws:List Stp}(hk:k<sp.length)(hne:sp[k].s≠sp[k].g)(h:Bk sp sp[k].g (k:Nat) sp[k].s ws)(hl:ws.length≤16):Rg sp (⟨k,1⟩::ws):=by
 refine ⟨fun s hs=>?_,?_,by rw [aN];lia,?_,sp[k].s,?_,?_⟩
 ·rcases aI.mp hs with rfl | hs
  ·exact ⟨hk,.inl rfl⟩
  ·exact h.inn s hs
 ·cases ws with
  | nil=>exact qM h.alo.symm hne
  | cons a r=>rw [aN,aN];lia
 ·rw [bR,bz]
  refine ⟨fun z=>?_,h.one⟩;obtain ⟨st,hst,e⟩:=bb.mp z;exact h.out st hst (by rw [e])
 ·rw [mK hk];rfl
 ·rw [kJ hk];exact h.alo
theorem pe_isStrT {p:Pos}(N:Nm X.mg)(TS:X.mg "str" =none)(he:PE X e te)(hg:Gl X "isinstance" := by rfl)(hg2:Gl X "str" := by rfl)
  (hs1:bB [e,.Name "str" p2] X.env=(false,eK e X.env)::bB [.Name "str" p2] X.env:=by rfl) (hpl:(fP pos (bB [.Name "str" p2] X.env)).any (·.1)=false:=by rfl) :
  PE X (.Call (.Name "isinstance" p) [e,.Name "str" p2] [] pos) (tCB (fun xs H Q=>∃ x T,xs=[x,.ty "str"]∧tyn H x=some T∧Q (.bl (T == "str")) H) (nM te (nM (tC (.ty "str")) tNil))) :=
 cp call_isStr hg N.isin boot_isinstance (af he (af (pe_bltn hg2 TS boot_str rfl) aD) hs1) (he:=hs1) (hpl:=hpl)
inductive spWithB (vs:List V)(H:Hp)(Q:VK)(_:XK):Prop
 | mk (vb:V)(k:Nat)(lo hi:Int)(bs:List (Int×Int))(_:vs=[vb,.int (k:Nat),.int lo,.int hi])(_:IsD H vb (bndP bs))(_:k<bs.length)(_:bs.length≤40)(_:∀ u H',bH H H'→IsD H' u (bndP (bs.set k (lo,hi)))→Q u H')
inductive Tq where
 | leaf (d:Dt)
 | cut (k:Nat) (a:Int) (x y:Tq)
def jR:Tq→Dt
 | .leaf d=>d
 | .cut k a x y=> .tup [.str "cut",.int (k:Nat),.int a,jR x,jR y]
def km (bs:List (Int×Int))(k:Nat)(a:Int):List (Int×Int):=bs.set k ((bs.getD k (0,0)).1,a)
def dX (bs:List (Int×Int))(k:Nat)(a:Int):List (Int×Int):=bs.set k (a+1,(bs.getD k (0,0)).2)
def lvs:Tq→List (Int×Int)→List (List (Int×Int)×Dt)
 | .leaf d,bs=>[(bs,d)]
 | .cut k a x y,bs=>lvs x (km bs k a)++lvs y (dX bs k a)
def siz:Tq→Nat
 | .leaf _=>1
 | .cut _ _ x y=>siz x+siz y+1
def plcD (p:List (Int×Int)×Dt):Dt:= .tup [bndP p.1,p.2]
inductive spSides (vs:List V)(H:Hp)(Q:VK)(_:XK):Prop
 | mk (vb:V)(c:aq)(bs:List (Int×Int))(k:Nat)(a:Int)(x3 x4:V)(_:vs=[vb,.ref c])(_:IsD H vb (bndP bs))(_:H c=some (.tup [.str "cut",.int (k:Nat),.int a,x3,x4]))(_:k<bs.length)(_:bs.length≤40)(_:∀ p q r u1 u3 H',bH H H'→H' p=some (.tup [.ref q,.ref r])→H' q=some (.tup [u1,x3])→IsD H' u1 (bndP (km bs k a))→H' r=some (.tup [u3,x4])→IsD H' u3 (bndP (dX bs k a))→Q (.ref p) H')
theorem lvs_siz:∀ (t:Tq) (bs:List (Int×Int)),(lvs t bs).length≤siz t
 | .leaf _,_=>by show 1≤1;decide
 | .cut k a x y,bs=>by
  show (lvs x _++lvs y _).length≤siz x+siz y+1;rw [ar];have:=lvs_siz x (km bs k a);have:=lvs_siz y (dX bs k a);lia
theorem one_len (bs:List (Int×Int))(k:Nat)(a:Int):(km bs k a).length=bs.length:=by unfold km;rw [e8]
theorem mZ (bs:List (Int×Int))(k:Nat)(a:Int):(dX bs k a).length=bs.length:=by unfold dX;rw [e8]
theorem getD_all (ns:List Int):((aF ns.length).map fun i=>ns.getD i 0)=ns:=by
 refine List.ext_getElem (by rw [aa,bh]) fun i h1 h2=>?_
 rw [jF,kr,ai,gE h2];rfl
theorem met_eq (ns:List Int):metL ns=ns.foldl step_dedup []:=by
 unfold metL firstMet;rw [getD_all]
theorem fold_new:∀ (ns acc:List Int),ns.Nodup→(∀ x∈ns,x ∉ acc)→ns.foldl step_dedup acc=acc++ns
 | [],acc,_,_=>by simp
 | x::ns,acc,hn,h=>by
  obtain ⟨h1,h2⟩:=bz.mp hn;have e:step_dedup acc x=acc++[x]:=by
   unfold step_dedup;have:¬ (acc.any (· == x))=true:=by
    intro z;obtain ⟨y,hy,e⟩:=List.any_eq_true.mp z;have e:y=x:=by simpa using e
    exact h x (by simp) (e ▸ hy)
   rw [qK this]
  rw [bM,e,fold_new ns (acc++[x]) h2 fun y hy z=>?_]
  ·simp
  ·rcases aH.mp z with z | z
   ·exact h y (az _ hy) z
   ·rw [av.mp z] at hy;exact h1 hy
theorem met_nodup (h:ns.Nodup):(metL ns).length=ns.length:=by
 rw [met_eq,fold_new ns [] h (fun _ _ z=>qM z (by simp)),List.nil_append]
end HN
variable {S ws:List HN.Stp}{c:List (Int×List HN.Stp)×List Int}{q:Nat×List HN.Stp}{rows:List (Int×List HN.Stp)}{rs:List (Nat×List HN.Stp)}{sp:List HN.Sn}
namespace L2
open PySem PyProof.Rows HN
mutual
theorem IsD.keepP {H H':Hp}(e:jL H H'):∀ {v:V} {d:Dt},IsD H v d→pl d=true→IsD H' v d
 | _,_,.non,_=> .non
 | _,_,.bl b,_=> .bl b
 | _,_,.int i,_=> .int i
 | _,_,.str x,_=> .str x
 | _,_,.tup h r,p=> .tup (e _ _ h) (dG.keepP e r (by unfold pl at p;exact p))
 | _,_,.lst h,p=>by unfold pl at p;cases p
 | _,_,.dct h,p=>by unfold pl at p;cases p
theorem dG.keepP {H H':Hp}(e:jL H H'):∀ {xs:List V} {ds:List Dt},dG H xs ds→pls ds=true→dG H' xs ds
 | _,_,.nil,_=> .nil
 | _,_,.cons h r,p=>by
  unfold pls at p;rw [dk] at p;exact .cons (IsD.keepP e h p.1) (dG.keepP e r p.2)
end
end L2
namespace HN
open PySem L2 PyProof.Rows
theorem mG {α:Type}{f:α→Dt}:∀ (xs:List α),(∀ x∈xs,pl (f x)=true)→pls (xs.map f)=true
 | [],_=>by show pls []=true;unfold pls;rfl
 | x::xs,h=>by
  show pls (f x::xs.map f)=true;unfold pls;rw [h x (by simp),mG xs fun y hy=>h y (az _ hy)];rfl
theorem pl_ints (ns:List Int):pl (.tup (ns.map Dt.int))=true:=by
 unfold pl;exact mG ns fun x _=>by unfold pl;rfl
theorem o6 (f:α→List Int)(xs:List α):pl (rowsP f xs)=true:=by
 unfold rowsP;unfold pl;exact mG xs fun x _=>pl_ints (f x)
def RowOk (b:Int)(sp:List Sn)(bs:List (Int×Int))(r:Int×List Stp):Prop:=Rg sp r.2∧sureB b bs r.2=true∧ -1000000000000≤r.1∧r.1≤1000000000000
def LfOk (b:Int)(sp:List Sn)(bs:List (Int×Int)):Lf→Prop
 | .ring ws=>Rg sp ws∧jb b bs ws=true
 | .price rows=>rows.length≤40∧∀ r∈rows,RowOk b sp bs r
theorem cO {m:Int}(e:jL H H')(h:IsD H v (jA b m sp)):IsD H' v (jA b m sp):=by
 obtain ⟨t,xs,rfl,ht,rx⟩:=h.tup_of;cases rx with
 | cons h0 r0 =>
  cases r0 with
  | cons h1 r1 =>
   cases r1 with
   | cons h2 r2 =>
    cases r2;cases h0;cases h1;obtain ⟨p,ys,rfl,hp,ry⟩:=h2.tup_of;exact .tup (e _ _ ht) (.cons (.int _) (.cons (.int _) (.cons (.tup (e _ _ hp) (df (f:=Sn.row) (xs:=sp) e ry)) .nil)))
def sideS (k:Int)(x:Sn):Sn:=⟨x.s+k,x.g+k,x.l,x.o,x.w⟩
theorem Rdy.side {k:Int}{t1 t2:List Int}{sp1 sp2:List Sn}(hk:(t1.length:Int)=k)(R1:Rdy b t1 sp1)(R2:Rdy b t2 sp2)(few:sp1.length+sp2.length≤1000):Rdy b (t1++t2) (sp1++sp2.map (sideS k)) :=
 ⟨R1.b1,by rw [ar,aa];exact few,fun x hx=>by
  rw [ar]
  rcases aH.mp hx with hx | hx
  ·obtain ⟨s0,s1,g0,g1⟩:=R1.ends x hx
   exact ⟨s0,by lia,g0,by lia⟩
  ·obtain ⟨y,hy,rfl⟩:=bb.mp hx
   obtain ⟨s0,s1,g0,g1⟩:=R2.ends y hy;show 0≤y.s+k∧y.s+k<((t1.length+t2.length:Nat):Int)∧0≤y.g+k∧y.g+k<((t1.length+t2.length:Nat):Int);lia⟩
structure Sides (b m1 m2:Int)(sp1 sp2:List Sn):Prop where
 N1:jD b m1 sp1
 N2:jD b m2 sp2
 m:m1+m2≤16
 few:sp1.length+sp2.length≤40
def TabsL (H:Hp)(b m:Int)(us:List V):Prop:=∀ u∈us,∃ (q:aq) (ts:List Int),u= .ref q∧H q=some (.tup (ts.map V.int))∧(ts.length:Int)=m
theorem TabsL.same {m:Int}{us:List V}(h:TabsL H b m us)(e:bH H H'):TabsL H' b m us:=fun u hu=>let ⟨q,ts,a,c,d⟩:=h u hu;⟨q,ts,a,e _ _ c,d⟩
theorem netP_rows {m:Int}(h:IsD H v (jA b m sp)):∃ t p ys,v= .ref t∧H t=some (.tup [.int b,.int m,.ref p])∧H p=some (.tup ys)∧dG H ys (cW Sn.row sp):=by
 obtain ⟨t,xs,rfl,ht,rx⟩:=h.tup_of;cases rx with
 | cons h0 r0 =>
  cases r0 with
  | cons h1 r1 =>
   cases r1 with
   | cons h2 r2 =>
    cases r2;cases h0;cases h1;obtain ⟨p,ys,rfl,hp,ry⟩:=h2.tup_of;exact ⟨t,p,ys,rfl,ht,hp,ry⟩
def strS (n:Int)(x:Sn):Sn:=⟨x.s,x.g,x.l * n,x.o * n,x.w⟩
def strT (n:Int)(ts:List Int):List Int:=ts.map fun t=>t * n
theorem strT_len (n:Int)(ts:List Int):(strT n ts).length=ts.length:=by unfold strT;rw [aa]
theorem Rdy.str {n:Int}(R:Rdy b ts sp)(hn:0<n):Rdy (b * n) (strT n ts) (sp.map (strS n)) :=
 ⟨Int.mul_pos R.b1 hn,by rw [aa];exact R.few,fun x hx=>by
  obtain ⟨y,hy,rfl⟩:=bb.mp hx;rw [strT_len];exact R.ends y hy⟩
end HN
namespace L2
open PySem PySem.W PyProof.Rows
def Gd {α:Type}(lt:Nat→Nat→Bool)(n:Nat):KasT α→(α→Prop)→Prop
 | .ret a,P=>P a
 | .ask i j k,P=>i<n∧j<n∧Gd lt n (k (lt i j)) P
theorem Gd.mono {α:Type}{lt:Nat→Nat→Bool}{n:Nat}{P R:α→Prop}(h:∀ a,P a→R a):∀ {t:KasT α},Gd lt n t P→Gd lt n t R
 | .ret a,g=>h a g
 | .ask _ _ _,g=>⟨g.1,g.2.1,Gd.mono h g.2.2⟩
theorem Gd.bind {α β:Type}{lt:Nat→Nat→Bool}{n:Nat}{f:α→KasT β}{P:β→Prop}:∀ {t:KasT α},Gd lt n t (fun a=>Gd lt n (f a) P)→Gd lt n (t.bind f) P
 | .ret _,g=>g
 | .ask _ _ _,g=>⟨g.1,g.2.1,Gd.bind g.2.2⟩
theorem Gd.wp {α:Type}{lt:Nat→Nat→Bool}{n:Nat}{P:α→Prop}{cmp:Nat→Nat→(Bool→ax→Prop)→ax→Prop}{Q:α→ax→Prop}{s:ax}(hc:∀ i j C,i<n→j<n→C (lt i j) s→cmp i j C s)(hq:∀ a,P a→Q a s):∀ {t:KasT α},Gd lt n t P→t.kasWp cmp Q s
 | .ret a,g=>hq a g
 | .ask i j k,g=>hc i j _ g.1 g.2.1 (Gd.wp hc hq g.2.2)
structure Ord (lt:Nat→Nat→Bool)(n:Nat):Prop where
 tot:∀ i j,i<n→j<n→i≠j→lt i j=false→lt j i=true
 tr:∀ i j k,lt i j=true→lt j k=true→lt i k=true
abbrev gA (p:Array Nat)(i:Nat):Nat:=p.getD i 0
abbrev Pm (n:Nat)(p:Array Nat):Prop:=p.toList.Perm (aF n)
theorem lO:gA p i=p[i]?.getD 0:=by
 show p.getD i 0=_;rw [Array.getD_eq_getD_getElem?]
theorem Pm.size (h:Pm n p):p.size=n:=by
 have:=h.length_eq;rw [bh,cj] at this;exact this
theorem Pm.lt (h:Pm n p)(hi:i<n):gA p i<n:=by
 have hs:i<p.size:=by rw [h.size];exact hi
 have e:gA p i=p[i]:=by rw [lO,dQ hs];rfl
 rw [e];have:p[i]∈p.toList:=by simp
 exact cg.mp (h.mem_iff.mp this)
theorem Pm.ne (h:Pm n p)(hij:i<j)(hj:j<n):gA p i≠gA p j:=by
 have hd:p.toList.Nodup:=h.nodup_iff.mpr List.nodup_range;have si:i<p.toList.length:=by rw [cj,h.size];lia
 have sj:j<p.toList.length:=by rw [cj,h.size];lia
 have ei:gA p i=p.toList[i]:=by rw [lO,dQ (by rw [h.size];lia)];simp
 have ej:gA p j=p.toList[j]:=by rw [lO,dQ (by rw [h.size];lia)];simp
 rw [ei,ej];exact List.pairwise_iff_getElem.mp (bX.mp hd) i j si sj hij
theorem Pm.of {q:Array Nat}(h:Pm n p)(e:q.Perm p):Pm n q:=(Array.perm_iff_toList_perm.mp e).trans h
def SoA (lt:Nat→Nat→Bool)(p:Array Nat)(m:Nat):Prop:=∀ i j,i<j→j<m→lt (gA p i) (gA p j)=true
def DeA (lt:Nat→Nat→Bool)(p:Array Nat)(m:Nat):Prop:=∀ i j,i<j→j<m→lt (gA p j) (gA p i)=true
section
variable {lt:Nat→Nat→Bool}
theorem SoA.more (O:Ord lt n)(h:SoA lt p m)(h1:lt (gA p (m - 1)) (gA p m)=true):SoA lt p (m+1):=fun i j hij hj=>by
 by_cases e:j<m
 ·exact h i j hij e
 ·have ej:j=m:=by lia
  rw [ej]
  by_cases ei:i=m - 1
  ·rw [ei];exact h1
  ·exact O.tr _ _ _ (h i (m - 1) (by lia) (by lia)) h1
theorem DeA.more (O:Ord lt n)(h:DeA lt p m)(h1:lt (gA p m) (gA p (m - 1))=true):DeA lt p (m+1):=fun i j hij hj=>by
 by_cases e:j<m
 ·exact h i j hij e
 ·have ej:j=m:=by lia
  rw [ej]
  by_cases ei:i=m - 1
  ·rw [ei];exact h1
  ·exact O.tr _ _ _ h1 (h i (m - 1) (by lia) (by lia))
theorem asc_ok (O:Ord lt n){p:Array Nat}(hp:Pm n p):∀ (f m:Nat),1≤m→m+f=n→SoA lt p m→Gd lt n (kas_asc p f m) (fun r=>m≤r∧r≤n∧SoA lt p r∧(r<n→lt (gA p r) (gA p (r - 1))=true))
 | 0,m,_,h1,hs=>⟨aA _,by lia,hs,fun z=>qM z (by lia)⟩
 | f+1,m,h0,h1,hs=>by
  refine ⟨hp.lt (by lia),hp.lt (by lia),?_⟩;cases c:lt (gA p m) (gA p (m - 1)) with
  | true =>
   exact ⟨aA _,by lia,hs,fun _=>c⟩
  | false =>
   have h2:=O.tot _ _ (hp.lt (by lia)) (hp.lt (by lia)) (hp.ne (by lia:m - 1<m) (by lia)).symm c;refine (asc_ok O hp f (m+1) (by lia) (by lia) (hs.more O h2)).mono fun r ⟨a,b,cc,d⟩=>⟨by lia,b,cc,d⟩
theorem desc_ok (O:Ord lt n){p:Array Nat}(hp:Pm n p):∀ (f m:Nat),1≤m→m+f=n→DeA lt p m→Gd lt n (kas_desc f p m 0) (fun r=>r.1=p∧r.2.2=0∧m≤r.2.1∧r.2.1≤n∧DeA lt p r.2.1)
 | 0,m,_,h1,hs=>⟨rfl,rfl,aA _,by show m≤n;lia,hs⟩
 | f+1,m,h0,h1,hs=>by
  refine ⟨hp.lt (by lia),hp.lt (by lia),?_⟩;cases c:lt (gA p m) (gA p (m - 1)) with
  | true =>
   refine (desc_ok O hp f (m+1) (by lia) (by lia) (hs.more O c)).mono fun r ⟨a,b,cc,d,e⟩=>⟨a,b,by lia,d,e⟩
  | false =>
   have h2:=O.tot _ _ (hp.lt (by lia)) (hp.lt (by lia)) (hp.ne (by lia:m - 1<m) (by lia)).symm c;refine ⟨hp.lt (by lia),hp.lt (by lia),?_⟩;show Gd lt n (if (lt (gA p (m - 1)) (gA p m))=true then KasT.ret (p,m,0) else kas_desc f p (m+1) (0+1)) _;rw [qL h2];exact ⟨rfl,rfl,aA _,by show m≤n;lia,hs⟩
theorem rev_ok (hp:Pm n p)(hm:m≤n):Pm n (kas_rev p 0 m):=hp.of (mirror_perm _ _ _ _)
theorem rev_so (hp:Pm n p)(hm:m≤n)(h:DeA lt p m):SoA lt (kas_rev p 0 m) m:=fun i j hij hj=>by
 have e:∀ k,k<m→gA (kas_rev p 0 m) k=gA p (m - 1 - k):=fun k hk=>by
  rw [lO,lO];have:=getElem?_mirror_all (xs:=p) (i:=0) (j:=m) (by rw [hp.size];exact hm) k;unfold kas_rev;rw [this,qL ⟨bg _,hk⟩];congr 2;lia
 rw [e i (by lia),e j hj];exact h _ _ (by lia) (by lia)
theorem tail_ok (O:Ord lt n)(hp:Pm n p)(h1:1≤m)(hm:m≤n)(h:DeA lt p m):Gd lt n (kas_tail3 m n p) (fun r=>Pm n r.2∧1≤r.1∧r.1≤n∧SoA lt r.2 r.1):=by
 unfold kas_tail3;refine Gd.bind ((asc_ok O (rev_ok hp hm) (n - m) m h1 (by lia) (rev_so hp hm h)).mono fun r ⟨a,b,c,_⟩=>?_);exact ⟨rev_ok hp hm,by show 1≤r;lia,b,c⟩
theorem count_ok (O:Ord lt n)(h1:1≤n)(hp:Pm n p):Gd lt n (kas_count n p) (fun r=>Pm n r.2∧1≤r.1∧r.1≤n∧SoA lt r.2 r.1):=by
 unfold kas_count;refine Gd.bind ((asc_ok O hp (n - 1) 1 (aA _) (by lia) (fun i j a b=>qM a (by lia))).mono fun r ⟨a,b,c,d⟩=>?_)
 by_cases e:r=n
 ·rw [qL (by rw [e];exact beq_self_eq_true n)]
  exact ⟨hp,a,b,c⟩
 ·rw [qK (by rw [beq_iff_eq];exact e)]
  by_cases e2:r > 1
  ·rw [qL e2]
   refine ⟨hp.lt (by lia),hp.lt (by lia),?_⟩;show Gd lt n (if (lt (gA p 0) (gA p (r - 1)))=true then KasT.ret (r,p) else _) _;rw [qL (c 0 (r - 1) (by lia) (by lia))];exact ⟨hp,a,b,c⟩
  ·rw [qK e2]
   have er:r=1:=by lia
   subst er;have hn:1<n:=by lia
   have dd:=d hn;unfold kas_descPart;refine Gd.bind ((desc_ok O hp (n - (1+1)) (1+1) (by lia) (by lia) (fun i j x y=>by
    have ei:i=0:=by lia
    have ej:j=1:=by lia
    rw [ei,ej];exact dd)).mono fun q ⟨q1,q2,q3,q4,q5⟩=>?_)
   rw [qK (by rw [q2];lia),q1];exact tail_ok O hp (by lia) q4 q5
theorem place_ok (O:Ord lt n){p:Array Nat}(hp:Pm n p){k:Nat}(hk:k<n)(hs:SoA lt p k):∀ (f l r:Nat),l≤r→r≤k→r - l≤f→(∀ i,i<l→lt (gA p i) (gA p k)=true)→(∀ i,r≤i→i<k→lt (gA p k) (gA p i)=true)→Gd lt n (kas_place p k f l r) (fun m=>m≤k∧(∀ i,i<m→lt (gA p i) (gA p k)=true)∧∀ i,m≤i→i<k→lt (gA p k) (gA p i)=true)
 | 0,l,r,h1,h2,h3,a,b=>⟨by lia,a,fun i x y=>b i (by lia) y⟩
 | f+1,l,r,h1,h2,h3,a,b=>by
  show Gd lt n (if l ≥ r then KasT.ret l else KasT.ask (gA p k) (gA p ((l+r) / 2)) fun c=>if c=true then kas_place p k f l ((l+r) / 2) else kas_place p k f ((l+r) / 2+1) r) _
  by_cases e:l ≥ r
  ·rw [qL e]
   exact ⟨by lia,a,fun i x y=>b i (by lia) y⟩
  ·rw [qK e]
   refine ⟨hp.lt hk,hp.lt (by lia),?_⟩;cases c:lt (gA p k) (gA p ((l+r) / 2)) with
   | true =>
    refine place_ok O hp hk hs f l ((l+r) / 2) (by lia) (by lia) (by lia) a fun i x y=>?_
    by_cases ei:i=(l+r) / 2
    ·rw [ei];exact c
    ·exact O.tr _ _ _ c (hs _ _ (by lia) y)
   | false =>
    have h5:=O.tot _ _ (hp.lt hk) (hp.lt (by lia)) (hp.ne (by lia:(l+r) / 2<k) hk).symm c;refine place_ok O hp hk hs f ((l+r) / 2+1) r (by lia) h2 (by lia) (fun i x=>?_) b
    by_cases ei:i=(l+r) / 2
    ·rw [ei];exact h5
    ·exact O.tr _ _ _ (hs i _ (by lia:i<(l+r) / 2) (by lia)) h5
theorem bub_so (O:Ord lt n)(hp:Pm n p){k:Nat}(hk:k<n)(hm:m≤k)(hs:SoA lt p k)(a:∀ i,i<m→lt (gA p i) (gA p k)=true)(b:∀ i,m≤i→i<k→lt (gA p k) (gA p i)=true):SoA lt (bubble p k (k - m)) (k+1):=fun i j hij hj=>by
 have e:∀ x,gA (bubble p k (k - m)) x=if x=m then gA p k else if m<x∧x≤k then gA p (x - 1) else gA p x:=fun x=>by
  have:=getElem?_bubble (xs:=p) (src:=k) (by rw [hp.size];exact hk) (k - m) (by lia) x;have e0:k - (k - m)=m:=by lia
  rw [e0] at this;rw [lO,this]
  by_cases h1:x=m
  ·rw [qL h1,qL h1,lO]
  ·rw [qK h1,qK h1]
   by_cases h2:m<x∧x≤k
   ·rw [qL h2,qL h2,lO]
   ·rw [qK h2,qK h2,lO]
 rw [e i,e j]
 by_cases i1:i=m
 ·rw [qL i1,qK (by lia),qL (by lia)]
  exact b _ (by lia) (by lia)
 ·rw [qK i1]
  by_cases i2:m<i∧i≤k
  ·rw [qL i2,qK (by lia),qL (by lia)]
   exact hs _ _ (by lia) (by lia)
  ·rw [qK i2]
   by_cases j1:j=m
   ·rw [qL j1];exact a _ (by lia)
   ·rw [qK j1]
    by_cases j2:m<j∧j≤k
    ·rw [qL j2];exact hs _ _ (by lia) (by lia)
    ·rw [qK j2];exact hs _ _ hij (by lia)
theorem bin_ok (O:Ord lt n):∀ (f:Nat) (p:Array Nat) (k:Nat),k+f=n→Pm n p→SoA lt p k→Gd lt n (kas_bin f p k) (fun q=>Pm n q∧SoA lt q n)
 | 0,p,k,h1,hp,hs=>by
  have e:k=n:=by lia
  rw [e] at hs;exact ⟨hp,hs⟩
 | f+1,p,k,h1,hp,hs=>by
  show Gd lt n ((kas_place p k k 0 k).bind fun l=>kas_bin f (bubble p k (k - l)) (k+1)) _;refine Gd.bind ((place_ok O hp (by lia) hs k 0 k (bg _) (aA _) (by lia) (fun i x=>qM x (by lia)) (fun i x y=>qM x (by lia))).mono fun m ⟨m1,m2,m3⟩=>?_);exact bin_ok O f _ (k+1) (by lia) (hp.of (bubble_perm _ _ _)) (bub_so O hp (by lia) m1 hs m2 m3)
theorem sort_ok (O:Ord lt n)(h1:1≤n):Gd lt n (kas_sort n) (fun q=>Pm n q∧SoA lt q n):=by
 unfold kas_sort;refine Gd.bind ((count_ok O h1 (p:=(aF n).toArray) (by show (aF n).toArray.toList.Perm _;rw [j9])).mono fun r ⟨a,b,c,d⟩=>?_)
 by_cases e:r.1<n
 ·rw [qL e]
  have em:max r.1 1=r.1:=by lia
  rw [em];exact bin_ok O _ _ _ (by lia) a d
 ·rw [qK e]
  have er:r.1=n:=by lia
  rw [er] at d;exact ⟨a,d⟩
end
theorem oQ {out:Array ae}{b:aq}{u:Obj}(hb:b≠a)(e:h.get? b=some u):(sortedHeap h a vs out).get? b=some u:=by
 unfold sortedHeap;rw [gC _ _ _ _ hb];exact aw _ (aw _ (by rw [gC _ _ _ _ hb];exact e))
theorem sortedHeap_at {out:Array ae}(e:h.get? a=some (bT "list" vs.toArray n)):∃ c,(sortedHeap h a vs out).get? a=some (bT "list" out c):=by
 unfold sortedHeap;exact ⟨_,jg (aw _ (aw _ (jg e fun _=> #[]))) fun _=>out⟩
def preAll (h:bL)(vs:List ae):bL:=((h.push (bT "list" #[] 0)).update h.objs.size (cX (· ++ vs.toArray))).push (bT "list" vs.toArray 0)
theorem preAll_keep {b:aq}{u:Obj}(e:h.get? b=some u):(preAll h vs).get? b=some u:=by
 have hb:=aL e;exact aw _ (by rw [gC _ _ _ _ (bI hb)];exact aw _ e)
theorem preAll_at:(preAll h vs).get? (h.objs.size+1)=some (bT "list" vs.toArray 0):=by
 have hsz:((h.push (bT "list" #[] 0)).update h.objs.size (cX (· ++ vs.toArray))).objs.size=h.objs.size+1:=by
  rw [bL.size_update,size_push']
 unfold preAll;rw [←hsz];exact aX _ rfl
theorem call_sortedI:jz X (.builtin "sorted") (fun xs H Q=>∃ (p:aq) (ns:List Int),xs=[.ref p]∧SqL X.K H p (ns.map V.int)∧ns.length<64∧∀ (l:aq) (ns':List Int),H l=none→ns'.Perm ns→ns'.Pairwise (· ≤ ·)→Q (.ref l) (upd H l (.lst (ns'.map V.int)))):=by
 intro aR s σ H xs us Q I r h;obtain ⟨p,ns,rfl,hq,hn,q⟩:=h;obtain ⟨u,rfl,ru⟩:=mP r;cases (show u=ae.ref p from ru);obtain ⟨its,rv,pl,hz⟩:=I.list hq;have hl:its.length=ns.length:=by rw [←rv.length,aa]
 refine sorted_ints pl.isList (nu rv) (by lia) fun out ns' a1 a2 a3=>?_
 obtain ⟨c,hc⟩:=sortedHeap_at (h:=preAll s.heap its) (vs:=its) (out:=out) preAll_at;refine ⟨.ref (s.heap.objs.size+1),_,I.laid (o:= .lst (ns'.map V.int)) (t':=s.toks) (fun b u e=>oQ (bI (gj (aL e))) (preAll_keep e)) (Nat.le_succ _) ⟨?_,out.toList,c,oH a1,?_⟩,rfl,q _ ns' (I.hok.fresh (Nat.le_succ _)) a2 a3⟩
 ·rw [aa,a2.length_eq];exact aM (by lia:ns.length≤1000) (by decide)
 ·rw [Array.toArray_toList];exact hc
def ki (h:bL)(a:aq)(vs:List ae):bL:=((h.update a (cX fun _=>(#[]:Array ae))).push (bT "tuple" vs.toArray 0)).push (bT "list" #[] 0)
theorem mid_keep {b:aq}{u:Obj}(hb:b≠a)(e:h.get? b=some u):(ki h a vs).get? b=some u :=
 aw _ (aw _ (by rw [gC _ _ _ _ hb];exact e))
def ltP (k m:Int×Int):Bool:=if (k.1 == m.1)=true then (if (k.2 == m.2)=true then false else decide (k.2<m.2)) else decide (k.1<m.1)
theorem ltP_iff {k m:Int×Int}:ltP k m=true↔(k.1<m.1∨(k.1=m.1∧k.2<m.2)):=by
 unfold ltP
 by_cases h1:k.1=m.1
 ·rw [qL (by rw [beq_iff_eq];exact h1)]
  by_cases h2:k.2=m.2
  ·rw [qL (by rw [beq_iff_eq];exact h2)]
   constructor
   ·intro h;cases h
   ·intro h;lia
  ·rw [qK (by rw [beq_iff_eq];exact h2),decide_eq_true_eq]
   lia
 ·rw [qK (by rw [beq_iff_eq];exact h1),decide_eq_true_eq]
  lia
abbrev kyP (ks:List (Int×Int))(i:Nat):Int×Int:=ks.getD i (0,0)
theorem kyP_at (h:i<ks.length):kyP ks i=ks[i]:=by
 show ks.getD i (0,0)=_;rw [ai,gE h];rfl
theorem ord_of (h:ks.Nodup):Ord (fun i j=>ltP (kyP ks i) (kyP ks j)) ks.length:=by
 refine ⟨fun i j hi hj hne hf=>?_,fun i j k h1 h2=>?_⟩
 ·show ltP (kyP ks j) (kyP ks i)=true
  have hn:kyP ks i≠kyP ks j:=by
   rw [kyP_at hi,kyP_at hj];intro e;exact hne ((jG h).mp e)
  have hf:¬ ltP (kyP ks i) (kyP ks j)=true:=by
   show ¬ ltP (kyP ks i) (kyP ks j)=true;rw [show ltP (kyP ks i) (kyP ks j)=false from hf];decide
  rw [ltP_iff] at hf ⊢;have:¬ ((kyP ks i).1=(kyP ks j).1∧(kyP ks i).2=(kyP ks j).2):=fun z=>hn (Prod.ext z.1 z.2)
  lia
 ·have h1:ltP (kyP ks i) (kyP ks j)=true:=h1
  have h2:ltP (kyP ks j) (kyP ks k)=true:=h2;show ltP (kyP ks i) (kyP ks k)=true;rw [ltP_iff] at h1 h2 ⊢;lia
def PrsAt (h:bL)(vs:List ae)(ks:List (Int×Int)):Prop:=vs.length=ks.length∧∀ (i:Nat) (v:ae) (k:Int×Int),vs[i]? =some v→ks[i]? =some k→∃ a o t u n,v= .ref a∧h.get? a=some o∧o.cls= .type "tuple" ∧o.data= .seq #[.int k.1 t,.int k.2 u] n
theorem prs_tups {h:bL}:∀ {vs:List ae} {ks:List (Int×Int)},PrsAt h vs ks→∃ fs:List ae,KatTups h vs fs∧fs.length=vs.length∧∀ f∈fs,∃ i t,f=ae.int i t
 | [],[],_=>⟨[],trivial,rfl,fun f hf=>qM hf (by simp)⟩
 | [],_::_,p=>qM p.1 (by simp)
 | _::_,[],p=>qM p.1 (by simp)
 | v::vs,k::ks,p=>by
  obtain ⟨fs,t1,t2,t3⟩:=prs_tups (vs:=vs) (ks:=ks) ⟨by have:=p.1;simp only [aN] at this;lia,fun i v' k' e1 e2=>p.2 (i+1) v' k' (by simpa using e1) (by simpa using e2)⟩;obtain ⟨a,o,t,u,n,rfl,q2,q3,q4⟩:=p.2 0 v k rfl rfl;refine ⟨.int k.1 t::fs,KatTups.cons q2 q3 q4 rfl t1,by rw [aN,aN,t2],fun f hf=>?_⟩
  rcases aI.mp hf with rfl | hf
  ·exact ⟨_,_,rfl⟩
  ·exact t3 f hf
theorem prs_kind (p:PrsAt s.heap vs ks)(h1:1≤vs.length){Q:SortKind→ax→Prop}(q:Q (tuples' true) s):bf (bw prog w) A (keyKind' vs.toArray) Q E s:=by
 obtain ⟨fs,t1,t2,t3⟩:=prs_tups p;have e1:((ae.type "int" :ae) == ae.type "int")=true:=by trivial
 have e2:((ae.type "int" :ae) != ae.type "tuple")=true:=by trivial
 refine kat_kind (T:= .type "int") t1 (by lia) (fun v hv=>?_) e1 (by rw [e2];exact q);obtain ⟨i,t,rfl⟩:=t3 v hv;exact Looks.of_pure rfl
theorem prs_ask (p:PrsAt s.heap vs ks)(hi:i<vs.length)(hj:j<vs.length){C:Bool→ax→Prop}(c:C (ltP (kyP ks i) (kyP ks j)) s):kas_ask prog w A (tuples' true) vs i j C s:=by
 have li:=p.1;obtain ⟨a,o,t,u,n,e1,q2,q3,q4⟩:=p.2 i vs[i] ks[i] (gE hi) (gE (by lia));obtain ⟨a',o',t',u',n',e1',q2',q3',q4'⟩:=p.2 j vs[j] ks[j] (gE hj) (gE (by lia));unfold kas_ask;have ei:vs.getD i ae.none= .ref a:=by rw [ai,gE hi];exact e1
 have ej:vs.getD j ae.none= .ref a':=by rw [ai,gE hj];exact e1'
 rw [ei,ej];rw [kyP_at (by lia),kyP_at (by lia)] at c;refine kat_lt q2 q4 q2' q4' ?_;refine kat_cons (wpAny_eqBool_int ?_);unfold ltP at c
 by_cases h1:(ks[i].1 == ks[j].1)=true
 ·rw [qL h1] at c
  rw [h1];refine kat_yes (kat_cons (wpAny_eqBool_int ?_))
  by_cases h2:(ks[i].2 == ks[j].2)=true
  ·rw [qL h2] at c
   rw [h2];exact kat_yes (kat_nil c)
  ·rw [qK h2] at c
   rw [kZ.mpr h2];exact kat_no (kat_one _ _ (lt_int (Q:=PySem.W.BoolBack C) c))
 ·rw [qK h1] at c
  rw [kZ.mpr h1];exact kat_no (oneLt_int c)
def pL (h:bL)(kS a:aq)(out:List ae):bL:=(h.update kS (cX fun _=>(#[]:Array ae))).update a (cX fun _=>out.toArray)
theorem key_tail {st:SortSt}{out ks:List ae}{e:Nat}{P:PySem.Fin→ax→Prop}(hout:(arrOf st).map (·.2)=ji out)(hz:out.length<64)(hkz:ks.length<64)(hf:failedOf st=none)
  (hk:s.heap.get? kS=some (bT "list" ks.toArray e)) (ha:s.heap.get? a=some (bT "list" #[] e1)) (hne:kS≠a)
  (h:P (.done (.ret .none)) { s with heap:=pL s.heap kS a out }):bf (bw prog w) A (ksk_tail a false e1 (.ref kS) st) P E s:=by
 have na:(s.heap.update kS (cX fun _=>(#[]:Array ae))).get? a=some (bT "list" #[] e1):=by
  rw [gC _ _ _ _ (dB hne)];exact ha
 unfold ksk_tail
 try dsimp only
 rw [hout];refine ak (listUpdate_at hk rfl ?_ (by rw [aG,fR];lia) (bg _));refine ak (wpAny_letGo ?_);refine ak (seqEpoch_at na rfl ?_);refine ak (listUpdate_at na rfl ?_ (bg _) (by show (if false=true then _ else out.toArray).size≤_;rw [qK (by decide),aG,fR];lia));rw [hf];simp only [bne_self_eq_false,Bool.false_eq_true,if_false];exact aV h
theorem key_end {ks:List ae}{e:Nat}{κ:SortKind}{lt:Nat→Nat→Bool}{P:PySem.Fin→ax→Prop}(hl:ks.length=vs.length)(h2:2≤vs.length)(h64:vs.length<64)(O:Ord lt vs.length)
  (hk:s.heap.get? kS=some (bT "list" ks.toArray e)) (ha:s.heap.get? a=some (bT "list" #[] e1)) (hne:kS≠a)
  (hkk:∀ Q:SortKind→ax→Prop,Q κ s→bf (bw prog w) A (keyKind' ks.toArray) Q (fun _ _=>False) s)
  (hc:∀ i j C,i<vs.length→j<vs.length→C (lt i j) s→kas_ask prog w A κ ks i j C s)
  (h:∀ p:Array Nat,Pm vs.length p→SoA lt p vs.length→P (.done (.ret .none)) { s with heap:=pL s.heap kS a (p.toList.map fun i=>vs.getD i ae.none) }) :
  bf (bw prog w) A (ksk_end a false vs.toArray e1 (.ref kS) ks.toArray) P E s:=by
 have hn2:¬ vs.toArray.size<2:=by rw [aG];lia
 unfold ksk_end
 try dsimp only
 rw [qK (by decide),qK hn2,qK hn2,qK (by decide)];refine ak (cA (hkk (fun κ' s'=>κ'=κ∧s'=s) ⟨rfl,rfl⟩) (fun κ' s0 z=>?_) fun _ _ x=>x.elim);obtain ⟨z1,z2⟩:=z;subst z1;subst z2;have G:=(sort_ok O (by lia)).wp (cmp:=kas_ask prog w A κ' ks) (s:=s0) (Q:=fun p s'=>s'=s0∧Pm vs.length p∧SoA lt p vs.length) hc (fun p hp=>⟨rfl,hp.1,hp.2⟩);refine ak (cA (kat_run (Q:=fun st' s'=>∃ p:Array Nat,p.size=vs.length∧arrOf st'=p.map (kas_item (ks.toArray.zip vs.toArray))∧failedOf st'=none∧s'=s0∧Pm vs.length p∧SoA lt p vs.length) hl h2 h64 (fun p' st' s' a1 a2 a3 a4=>⟨p',a1,a2,a3,a4.1,a4.2.1,a4.2.2⟩) G) ?_ fun _ _ e=>e);rintro ⟨⟨⟩,st'⟩ s' ⟨p,hp,har,hf,rfl,pm,so⟩
 try dsimp only
 exact key_tail (kat_snds hl har) (by rw [aa,cj,hp];exact h64) (by lia) hf hk ha hne (h p pm so)
theorem key_fold {f:ae}{kS:aq}{body:ae→PUnit→Sem (ForInStep PUnit)}(J:List ae→ax→Prop)(vs:List ae)(h64:vs.length<64)
  (hb:∀ x ks e (t:ax),ks.length<64→t.heap.get? kS=some (bT "list" ks.toArray e) →
   bf (bw prog w) A (call f [x]) (fun k t'=>t'.heap.get? kS=some (bT "list" ks.toArray e)∧∀ h' c,cx kS t'.heap h'→h'.get? kS=some (bT "list" (ks++[k]).toArray c)→J (ks++[k]) { t' with heap:=h' }) (fun _ _=>False) t →
   bf (bw prog w) A (body x ⟨⟩) (fun r t'=>r= .yield ⟨⟩∧∃ k c,t'.heap.get? kS=some (bT "list" (ks++[k]).toArray c)∧J (ks++[k]) t') E t)
  (hc:∀ ks x e (t:ax),vs[ks.length]? =some x→J ks t→t.heap.get? kS=some (bT "list" ks.toArray e) →
   bf (bw prog w) A (call f [x]) (fun k t'=>t'.heap.get? kS=some (bT "list" ks.toArray e)∧∀ h' c,cx kS t'.heap h'→h'.get? kS=some (bT "list" (ks++[k]).toArray c)→J (ks++[k]) { t' with heap:=h' }) (fun _ _=>False) t) :
  ∀ (r ks:List ae) (e:Nat) (t:ax),vs=vs.take ks.length++r→ks.length+r.length=vs.length→t.heap.get? kS=some (bT "list" ks.toArray e)→J ks t →
   bf (bw prog w) A (forIn r PUnit.unit body) (fun _ t'=>∃ ks e,t'.heap.get? kS=some (bT "list" ks.toArray e)∧ks.length=vs.length∧J ks t') E t
 | [],ks,e,t,_,hl,hk,j=>by
  rw [List.forIn_nil];exact aV ⟨ks,e,hk,by simpa using hl,j⟩
 | x::r,ks,e,t,hv,hl,hk,j=>by
  rw [aN] at hl;rw [List.forIn_cons];have hx:vs[ks.length]? =some x:=by
   rw [hv,bu (by rw [bK];lia),bK,show ks.length - min ks.length vs.length=0 by lia];rfl
  refine ak (cA (hb x ks e t (by lia) hk (hc ks x e t hx j hk)) (fun q t' hq=>?_) fun _ _ z=>z);obtain ⟨rfl,k,c,hk',j'⟩:=hq;show bf (bw prog w) A (forIn r PUnit.unit body) _ E t';refine key_fold J vs h64 hb hc r (ks++[k]) c t' ?_ (by rw [ar,d5];lia) hk' j';rw [ar,d5,bj,hx]
  simpa using hv
theorem key_rest {f:ae}{P:PySem.Fin→ax→Prop}(J:List ae→ax→Prop)(h64:vs.length<64)(hk:s.heap.get? kS=some (bT "list" #[] 0))(j0:J [] s)
  (hc:∀ ks x e (t:ax),vs[ks.length]? =some x→J ks t→t.heap.get? kS=some (bT "list" ks.toArray e) →
   bf (bw prog w) A (call f [x]) (fun k t'=>t'.heap.get? kS=some (bT "list" ks.toArray e)∧∀ h' c,cx kS t'.heap h'→h'.get? kS=some (bT "list" (ks++[k]).toArray c)→J (ks++[k]) { t' with heap:=h' }) (fun _ _=>False) t)
  (h:∀ ks e (t:ax),ks.length=vs.length→J ks t→t.heap.get? kS=some (bT "list" ks.toArray e)→bf (bw prog w) A (ksk_end a false vs.toArray e1 (.ref kS) ks.toArray) P E t) :
  bf (bw prog w) A (ksk_rest a f false vs.toArray e1 (.ref kS)) P E s:=by
 unfold ksk_rest;refine ak (wpAny_rule ?_)
 first
  | rw [List.forIn_toArray]
  | (rw [←Array.forIn_toList];simp only [j9])
  | rw [←Array.forIn_toList]
 refine ak (cA (key_fold J vs h64 (fun x ks e t hz ht hx=>?_) hc vs [] 0 s (by simp) (by simp) hk j0) (fun _ t hd=>?_) fun _ _ z=>z)
 ·refine ak (wpAny_attempt (cA hx (fun k t' hk=>?_) fun _ _ hF=>hF.elim))
  obtain ⟨k1,k2⟩:=hk;have s1:=fY t'.heap kS (cX (·.push k));have ea:(ji ks).push k=ji (ks++[k]):=by simp
  obtain ⟨c2,hc2⟩:∃ c2,(t'.heap.update kS (cX (·.push k))).get? kS=some (bT "list" (ji (ks++[k])) c2):=⟨_,by rw [←ea];exact jg k1 (·.push k)⟩
  try dsimp only
  refine ak (listUpdate_at k1 rfl ?_ (by rw [aG,fR];lia) (aM (Nat.le_of_eq (Array.size_push ..)) (by rw [aG,fR];lia)));exact aV ⟨rfl,k,c2,hc2,k2 _ c2 s1 hc2⟩
 ·obtain ⟨ks,e,hk',hl,j⟩:=hd
  try dsimp only
  refine ak (listItems_at hk' rfl ?_);exact h ks e t hl j hk'
theorem collect_range {r:aq}{a c:Int}{t u v:Tok}{Q:List ae→ax→Prop}(hh:A.handled=none)(hr:IsRange s.heap r a b c t u v)(hsmall:gY a b c=true)(hn:dW a b c=n)(hlen:n≤2 ^ 24)
  (h:∀ h' tk acc,(∀ b o,s.heap.get? b=some o→h'.get? b=some o)→s.heap.objs.size<h'.objs.size→ItemsOf (fun i v=>∃ t,v= .int (a+i * c) t) acc n→Q acc.toList { s with heap:=h',toks:=tk }) :
  bf (bw prog w) A (collect (.ref r)) Q E s:=by
 unfold collect;refine ak (wpAny_runValue (codeAny_builtin entry_proto_collect' ?_));show bf _ _ (do again (.builtin "list.__iadd__" ⟨[←newList [],.ref r],[]⟩)) _ _ s;refine ak (wpAny_newList (aV ⟨Code.quiet_builtin _ (by trivial),codeAny_builtin entry_list_iadd' ?_⟩));have key:=wpAny_extend_range (prog:=prog) (w:=w) (A:=A) (s:={ s with heap:=s.heap.push (bT "list" #[] 0) }) (R:=fun r s'=>match r with
   | .ok (.ret v)=>bf (bw prog w) A (match v with
    | .ref a=>do
     let o ← load a
     match o.data with
     | .seq xs _=>fU xs.toList
     | _=>unsupported "internal:collect"
    | _=>unsupported "internal:collect") Q E s'
   | .ok _=>False
   | .error e=>E e s') hh (aw _ hr) hsmall hn hlen s.heap.objs.size (.ref s.heap.objs.size) 0 (aX _ rfl) (fun h' tk acc c' hk hS hacc=>by
  show bf (bw prog w) A (do
    let o ← load s.heap.objs.size
    match o.data with
    | .seq xs _=>fU xs.toList
    | _=>unsupported "internal:collect") Q E { s with heap:=h',toks:=tk }
  refine ak (wpAny_load hS ?_);exact aV (h h' tk acc (fun b o e=>hk b o (bI (aL e)) (aw _ e)) (aL hS) hacc))
 exact key
def KeyDo (prog:aW)(w:bx)(B:bW)(f:ae)(vs:List ae)(kS D:aq)(e1:Nat)(Q:ax→Prop)(s1:ax):Prop :=
 ∃ J:List ae→ax→Prop,J [] s1 ∧
  (∀ ks x e (t:ax),vs[ks.length]? =some x→J ks t→t.heap.get? kS=some (bT "list" ks.toArray e) →
   bf (bw prog w) B (call f [x]) (fun k t'=>t'.heap.get? kS=some (bT "list" ks.toArray e)∧∀ h' c,cx kS t'.heap h'→h'.get? kS=some (bT "list" (ks++[k]).toArray c)→J (ks++[k]) { t' with heap:=h' }) (fun _ _=>False) t) ∧
  ∀ ks (t:ax),ks.length=vs.length→J ks t→t.heap.get? D=some (bT "list" #[] e1)∧∃ κ lt,Ord lt vs.length ∧
   (2≤vs.length→∀ Q:SortKind→ax→Prop,Q κ t→bf (bw prog w) B (keyKind' ks.toArray) Q (fun _ _=>False) t) ∧
   (∀ i j C,i<vs.length→j<vs.length→C (lt i j) t→kas_ask prog w B κ ks i j C t) ∧
   ∀ p:Array Nat,Pm vs.length p→SoA lt p vs.length→Q { t with heap:=pL t.heap kS D (p.toList.map fun i=>vs.getD i ae.none) }
theorem zip_snd:∀ (ks vs:List ae),ks.length=vs.length→(ks.zip vs).map (·.2)=vs
 | [],[],_=>rfl
 | [],_::_,h=>by cases h
 | _::_,[],h=>by cases h
 | _::ks,v::vs,h=>by
  show v::(ks.zip vs).map (·.2)=v::vs;rw [zip_snd ks vs (by simpa using h)]
theorem key_end_few {ks:List ae}{e:Nat}{P:PySem.Fin→ax→Prop}(hl:ks.length=vs.length)(h2:vs.length<2)
  (hk:s.heap.get? kS=some (bT "list" ks.toArray e)) (ha:s.heap.get? a=some (bT "list" #[] e1)) (hne:kS≠a)
  (h:P (.done (.ret .none)) { s with heap:=pL s.heap kS a vs }) :
  bf (bw prog w) A (ksk_end a false vs.toArray e1 (.ref kS) ks.toArray) P E s:=by
 have hn2:vs.toArray.size<2:=by rw [aG];lia
 unfold ksk_end
 try dsimp only
 rw [qK (by decide),qL hn2,qL hn2,qK (by decide)];refine ak (aV ?_);rw [StateT.run_pure];refine ak (aV ?_)
 try dsimp only
 refine key_tail (out:=vs) ?_ (by lia) (by lia) rfl hk ha hne h;show (ks.toArray.zip vs.toArray).map (·.2)=vs.toArray
 apply Array.toList_inj.mp
 rw [Array.toList_map,Array.toList_zip];exact zip_snd ks vs hl
theorem range_getD (vs:List ae):((aF vs.length).map fun i=>vs.getD i ae.none)=vs:=by
 refine List.ext_getElem? fun i=>?_
 rw [ay]
 by_cases hi:i<vs.length
 ·rw [fG hi]
  show some (vs.getD i ae.none)=_;rw [ai,gE hi];rfl
 ·rw [List.getElem?_eq_none (by rw [bh];lia),List.getElem?_eq_none (by lia)];rfl
theorem key_tree {q:aq}{P:PySem.Fin→ax→Prop}(ho:s.heap.get? a=some (bT "list" vs.toArray n))(h64:vs.length<64)
  (h:∀ e1,(ki s.heap a vs).get? a=some (bT "list" #[] e1)→(ki s.heap a vs).get? (s.heap.objs.size+1)=some (bT "list" #[] 0)→KeyDo prog w A (.ref q) vs (s.heap.objs.size+1) a e1 (fun t=>P (.done (.ret .none)) t) { s with heap:=ki s.heap a vs }) :
  bf (bw prog w) A (ksk_tree a (.ref q) false) P E s:=by
 obtain ⟨e1,ho1⟩:∃ e1,(s.heap.update a (cX fun _=>(#[]:Array ae))).get? a=some (bT "list" #[] e1):=⟨_,jg ho fun _=> #[]⟩;have ha:a<s.heap.objs.size:=aL ho;have ho6:(ki s.heap a vs).get? a=some (bT "list" #[] e1):=aw _ (aw _ ho1);have hkS:((s.heap.update a (cX fun _=>(#[]:Array ae))).push (bT "tuple" vs.toArray 0)).objs.size=s.heap.objs.size+1:=by rw [size_push',bL.size_update]
 have hk0:(ki s.heap a vs).get? (s.heap.objs.size+1)=some (bT "list" #[] 0):=by
  unfold ki;rw [←hkS];exact aX _ rfl
 obtain ⟨J,j0,jc,je⟩:=h e1 ho6 hk0;unfold ksk_tree;refine ak (listItems_at ho rfl ?_);refine ak (listUpdate_at ho rfl ?_ (by rw [aG,fR];lia) (bg _));refine ak (seqEpoch_at ho1 rfl ?_);refine ak (wpAny_newTuple ?_ (by show vs.length≤_;rw [fR];lia));refine ak (wpAny_newList ?_ (bg _));refine gG ?_;show bf (bw prog w) A (ksk_rest a (.ref q) false vs.toArray e1 (.ref ((s.heap.update a (cX fun _=>(#[]:Array ae))).push (bT "tuple" vs.toArray 0)).objs.size)) P E { s with heap:=ki s.heap a vs };rw [hkS];refine key_rest J h64 hk0 j0 jc fun ks e t hl j hk=>?_
 obtain ⟨ha',κ,lt,O,hkk,hc,hP⟩:=je ks t hl j
 by_cases h2:vs.length<2
 ·have hh:=hP (aF vs.length).toArray (by show (aF vs.length).toArray.toList.Perm _;rw [j9]) (fun i j x y=>qM y (by lia))
  rw [j9,range_getD] at hh;exact key_end_few hl h2 hk ha' (dv (gj ha)) hh
 ·exact key_end hl (by lia) h64 O hk ha' (dv (gj ha)) (hkk (by lia)) hc hP
theorem sorted_keyR {r q:aq}{a c:Int}{t u v:Tok}(hh:A.handled=none)(hr:IsRange s.heap r a b c t u v)(hsmall:gY a b c=true)(hn:dW a b c=n)(h64:n<64)
  (h:∀ (vs:List ae) (h1:bL) (tk:Nat) (D kS:aq) (e1:Nat),vs.length=n→(∀ (i:Nat) x,vs[i]? =some x→∃ t,x= .int (a+i * c) t)→(∀ b o,s.heap.get? b=some o→h1.get? b=some o)→s.heap.objs.size≤D→D<kS→h1.get? D=some (bT "list" #[] e1)→h1.get? kS=some (bT "list" #[] 0) →
   KeyDo prog w A.in1.in1 (.ref q) vs kS D e1 (fun t'=>Q (.ref D) t') { s with heap:=h1,toks:=tk }) :
  bf (bw prog w) A (call (.builtin "sorted") [.ref r] [(d9 "key",.ref q)]) Q E s:=by
 refine call_function_entry_kw kind_sorted plain_sorted entry_sorted (ksk_s1 _ _) ?_;unfold eS.«sorted»;refine ak (m:=checkCount "sorted" 1 1 _) (aV ?_);refine ak (collect_range hh hr hsmall hn (by lia) fun h' tk acc hk hlt hi=>?_);have hl:acc.toList.length=n:=by rw [cj];exact hi.1
 refine ak (wpAny_newList ?_ (by rw [hl,fR];lia));have hoL:(h'.push (bT "list" acc.toList.toArray 0)).get? h'.objs.size=some (bT "list" acc.toList.toArray 0):=aX _ rfl;show bf _ _ _ _ _ { s with heap:=h'.push (bT "list" acc.toList.toArray 0),toks:=tk };refine ak (gG (wpAny_call_entry_kw slot_list_sort ⟨_,hoL,rfl⟩ entry_list_sort ?body (ksk_l1 _ _)))
 case body =>
  show bf (bw prog w) A.in1.in1 (eS.«list.sort» ⟨[.ref h'.objs.size],[(d9 "key",.ref q)]⟩) _ _ _;rw [ksk_t1];refine key_tree (s:={ s with heap:=h'.push (bT "list" acc.toList.toArray 0),toks:=tk }) hoL (by lia) fun e1 g1 g2=>?_
  have K:=h acc.toList (ki (h'.push (bT "list" acc.toList.toArray 0)) h'.objs.size acc.toList) tk h'.objs.size ((h'.push (bT "list" acc.toList.toArray 0)).objs.size+1) e1 hl ?_ ?_ (iL hlt) (by rw [size_push'];exact gj (iK _)) g1 g2
  ·obtain ⟨J,j0,jc,je⟩:=K
   refine ⟨J,j0,jc,fun ks t' x1 x2=>?_⟩;obtain ⟨y1,κ,lt,y2,y3,y4,y5⟩:=je ks t' x1 x2;exact ⟨y1,κ,lt,y2,y3,y4,fun p p1 p2=>⟨_,rfl,aV ⟨_,rfl,y5 p p1 p2⟩⟩⟩
  ·intro i x hx
   rw [jB] at hx;exact hi.2 i x hx
  ·exact fun b o e=>mid_keep (bI (Nat.lt_trans (aL e) hlt)) (aw _ (hk b o e))
section
variable {σ:List (Option V)}
theorem Inv.take {D:aq}(I:Inv X aR σ H s)(hn:H D=none)(hs0:X.s₀.heap.objs.size≤D)(hL:D≠X.env.locals)(hC:∀ x c,X.env.cells.lookup x=some c→c≠D)(hP:∀ p∈X.pn++aR,p.1≠D)(new:i4 X.prog X.w (upd H D o) s.heap D o):Inv X aR σ (upd H D o) s where
 ok:=I.ok
 os:=I.os
 bare:=I.bare
 base :=
  {keep:=I.base.keep
   slot:=I.base.slot
   free:=fun b ob e nb hx=>by rw [br (bI (aU (aL e) hs0))];exact I.base.free b ob e nb hx
   there:=I.base.there
   tups:=fun b xs e=>by have q:=I.base.tups b xs e;rw [br (bC q hn)];exact q
   frzs:=fun b o u e=>by have q:=I.base.frzs b o u e;rw [br (bC q hn)];exact q
   tbls:=fun b ps e=>by obtain ⟨more,q⟩:=I.base.tbls b ps e;exact ⟨more,by rw [br (bC q hn)];exact q⟩ }
 loc:=I.loc
 cell:=I.cell
 free:=by rw [br hL.symm];exact I.free
 freeC:=fun x c e=>by rw [br (hC x c e)];exact I.freeC x c e
 pin:=fun p hp=>by
  obtain ⟨a,b,c,d,e⟩:=I.pin p hp;exact ⟨a,by rw [br (hP p hp)];exact b,c,d,e⟩
 hok:=I.hok.take hn new
 len:=I.len
theorem Inv.unpin {p0:aq×Obj}(I:Inv X (p0::aR) σ H s):Inv X aR σ H s:=I.pins_of fun p hp=>I.pin p (aK _ (az _ hp))
theorem Inv.repin {o o':Obj}(I:Inv X ((kS,o)::aR) σ H s)(hs0:X.s₀.heap.objs.size≤kS)(hC:∀ x c,X.env.cells.lookup x=some c→c≠kS)(hP:∀ p∈X.pn++aR,p.1≠kS)(hsb:cx kS s.heap h')(ho':h'.get? kS=some o')(hd:∀ v,o'.data≠ .cell v):Inv X ((kS,o')::aR) σ H { s with heap:=h' }:=by
 obtain ⟨p1,p2,p3,p4,_⟩:=I.pin (kS,o) (aK _ (bJ ..));have I2:=I.unpin.turned (t':=s.toks) (it:=kS) (h':=h') (fun b o hb e=>hsb.extBut b o hb e) p2 p3 (.inr hs0) hC hP;refine I2.pins_of fun p hp=>?_
 rcases aI.mp hp with rfl | hp
 ·exact ⟨ho',p2,p3,p4,hd⟩
 ·exact I2.pin p (aK _ hp)
theorem prs_of {as:List aq}(I:Inv X aR σ H s)(hl:as.length=ks.length)(h:∀ (i:Nat) a k,as[i]? =some a→ks[i]? =some k→H a=some (.tup [.int k.1,.int k.2])):PrsAt s.heap (as.map ae.ref) ks:=by
 refine ⟨by rw [aa,hl],fun i v k e1 e2=>?_⟩;rw [ay] at e1;obtain ⟨a,ea,rfl⟩:=aS.mp e1;obtain ⟨tz,tts,tr,o,ho,hcl,_,nn,hdt⟩:=I.hok a _ (h i a k ea e2);cases tr with
 | cons r1 tr=>cases tr with
  | cons r2 tr =>
   cases tr;obtain ⟨t1,rfl⟩:=r1;obtain ⟨t2,rfl⟩:=r2;exact ⟨a,o,t1,t2,nn,rfl,ho,hcl,hdt⟩
theorem keyDo_of {B:bW}{f:ae}{num:Nat→Int}{key:Nat→Int×Int}{D:aq}{Q:ax→Prop}
  (I:Inv X ((kS,bT "list" #[] 0)::(D,bT "list" #[] e1)::aR) σ H s) (hl:vs.length=n) (h64:n<64) (hv:∀ (i:Nat) x,vs[i]? =some x→∃ t,x= .int (num i) t)
  (k0:X.s₀.heap.objs.size≤kS) (d0:X.s₀.heap.objs.size≤D) (kC:∀ x c,X.env.cells.lookup x=some c→c≠kS) (dC:∀ x c,X.env.cells.lookup x=some c→c≠D) (kP:∀ p∈X.pn++aR,p.1≠kS) (dP:∀ p∈X.pn++aR,p.1≠D) (hne:kS≠D)
  (hnd:((aF n).map key).Nodup)
  (hf:∀ (t:ax) (H':Hp) (pins':List (aq×Obj)) (i:Nat) (tk:Tok),i<n→Inv X pins' σ H' t→bH H H'→bf (bw X.prog X.w) B (call f [.int (num i) tk]) (fun k t'=>∃ q H'',Inv X pins' σ H'' t'∧bH H' H''∧k= .ref q∧H'' q=some (.tup [.int (key i).1,.int (key i).2])) (fun _ _=>False) t)
  (fin:∀ (t:ax) (H':Hp) (π:List Nat),bH H H'→H' D=none→Inv X aR σ (upd H' D (.lst (π.map fun i=>V.int (num i)))) t→π.Perm (aF n)→π.Pairwise (fun i j=>ltP (key i) (key j)=true)→Q t) :
  KeyDo X.prog X.w B f vs kS D e1 Q s:=by
 have pK:∀ p∈X.pn++((D,bT "list" #[] e1)::aR),p.1≠kS:=fun p hp=>by
  rcases aH.mp hp with hp | hp
  ·exact kP p (aJ _ hp)
  ·rcases aI.mp hp with rfl | hp
   ·exact dB hne
   ·exact kP p (aK _ hp)
 refine ⟨fun ks t=>∃ e H' as,Inv X ((kS,bT "list" ks.toArray e)::(D,bT "list" #[] e1)::aR) σ H' t∧bH H H'∧ks=as.map ae.ref∧∀ (i:Nat) a,as[i]? =some a→H' a=some (.tup [.int (key i).1,.int (key i).2]),⟨0,H,[],I,bH.refl H,rfl,fun i a e=>by simp at e⟩,?_,?_⟩
 ·rintro ks x e t hx ⟨e',H',as,I',S',rfl,has⟩ hk
  rw [aa] at hx;have hi:as.length<n:=by rw [←hl];exact (ao.mp hx).1
  obtain ⟨tk,rfl⟩:=hv _ x hx;refine cA (hf t H' _ as.length tk hi I' S') (fun k t' hk'=>?_) fun _ _ z=>z
  obtain ⟨q,H'',I'',S'',rfl,hq⟩:=hk';have pk:=(I''.pin _ (aK _ (bJ ..))).1;have pk0:=(I'.pin _ (aK _ (bJ ..))).1;have pk0:t.heap.get? kS=some (bT "list" (as.map ae.ref).toArray e'):=pk0;rw [hk] at pk0;have ee:e=e':=by cases pk0;rfl
  refine ⟨by rw [ee];exact pk,fun h' c hsb hg=>⟨c,H'',as++[q],I''.repin k0 kC pK hsb hg (fun v z=>by cases z),S'.trans S'',by rw [aE];rfl,fun i a ea=>?_⟩⟩
  by_cases hlt:i<as.length
  ·rw [cN hlt] at ea
   exact S'' _ _ (has i a ea)
  ·rw [bu (by lia)] at ea
   have hz:i=as.length:=by
    have:=(ao.mp ea).1;simp only [d5] at this;lia
   subst hz;rw [gO] at ea;cases ea;exact hq
 ·rintro ks t hks ⟨e',H',as,I',S',rfl,has⟩
  rw [aa] at hks;obtain ⟨pd,nD,lD,fD,_⟩:=I'.pin (D,bT "list" #[] e1) (aK _ (az _ (bJ ..)));obtain ⟨pk,nK,lK,fK,_⟩:=I'.pin (kS,bT "list" (as.map ae.ref).toArray e') (aK _ (bJ ..));have pd:t.heap.get? D=some (bT "list" #[] e1):=pd;have pk:t.heap.get? kS=some (bT "list" (as.map ae.ref).toArray e'):=pk;have kat:∀ i,i<n→kyP ((aF n).map key) i=key i:=fun i hi=>by
   rw [kyP_at (by rw [aa,bh];exact hi),jF,kr]
  have PR:PrsAt t.heap (as.map ae.ref) ((aF n).map key):=prs_of I' (by rw [aa,bh];lia) fun i a k ea ek=>by
   rw [ay] at ek;obtain ⟨j,ej,rfl⟩:=aS.mp ek;have hi:i<n:=by have:=(ao.mp ej).1;rw [bh] at this;exact this
   rw [fG hi] at ej;cases ej;exact has i a ea
  have ln:((aF n).map key).length=n:=by rw [aa,bh]
  have O:=ord_of hnd;rw [ln] at O;refine ⟨pd,tuples' true,fun i j=>ltP (kyP ((aF n).map key) i) (kyP ((aF n).map key) j),by rw [hl];exact O,fun h2 Q' q'=>prs_kind (s:=t) PR (by rw [aa];lia) q',fun i j C hi hj c=>prs_ask (s:=t) PR (by rw [aa];lia) (by rw [aa];lia) c,fun p pm so=>?_⟩;rw [hl] at pm so;have s1:=fY t.heap kS (cX fun _=>(#[]:Array ae));obtain ⟨ck,hck⟩:∃ ck,(t.heap.update kS (cX fun _=>(#[]:Array ae))).get? kS=some (bT "list" #[] ck):=⟨_,jg pk fun _=> #[]⟩;have I1:=I'.repin k0 kC pK s1 hck (fun v z=>by cases z);have I2:=I1.unpin;have hD1:(t.heap.update kS (cX fun _=>(#[]:Array ae))).get? D=some (bT "list" #[] e1):=by rw [gC _ _ _ _ (dB hne)];exact pd
  have s2:=fY (t.heap.update kS (cX fun _=>(#[]:Array ae))) D (cX fun _=>ji (p.toList.map fun i=>vs.getD i ae.none));obtain ⟨cD,hcD⟩:∃ cD,(pL t.heap kS D (p.toList.map fun i=>vs.getD i ae.none)).get? D=some (bT "list" (ji (p.toList.map fun i=>vs.getD i ae.none)) cD):=⟨_,jg hD1 fun _=>ji (p.toList.map fun i=>vs.getD i ae.none)⟩;have I3:=(I2.repin d0 dC dP s2 hcD (fun v z=>by cases z)).unpin;refine fin _ H' p.toList S' nD (I3.take nD d0 lD dC dP ⟨?_,_,cD,?_,hcD⟩) pm ?_
  ·rw [aa,pm.length_eq,bh];exact aM (by lia:n≤1000) (by decide)
  ·refine vals_at (by rw [aa,aa]) fun i x hx=>?_
   rw [ay] at hx;obtain ⟨j,hj,rfl⟩:=aS.mp hx;have hjn:j<n:=cg.mp (pm.mem_iff.mp (aP hj));obtain ⟨tk,ex⟩:=hv j vs[j] (gE (by lia));refine ⟨vs.getD j ae.none,by rw [ay,hj];rfl,?_⟩;rw [ai,gE (by lia)];exact ⟨tk,ex⟩
  ·refine List.pairwise_iff_getElem.mpr fun a b ha hb hab=>?_
   have sz:=Pm.size pm;rw [cj] at ha hb;have:=so a b hab (by lia);have ea:gA p a=p.toList[a]:=by rw [lO,dQ ha];simp
   have eb:gA p b=p.toList[b]:=by rw [lO,dQ hb];simp
   have la:p.toList[a]<n:=by rw [←ea];exact pm.lt (by lia)
   have lb:p.toList[b]<n:=by rw [←eb];exact pm.lt (by lia)
   have this:ltP (kyP ((aF n).map key) (gA p a)) (kyP ((aF n).map key) (gA p b))=true:=this;rw [ea,eb,kat _ la,kat _ lb] at this;exact this
end
end L2
namespace L2
open PySem PySem.W PySem.Spec PyProof.Rows
def BM (mg:Str→Option ae)(base:bL):Prop:=∃ bm ob,mg "__builtins__" =some (.ref bm)∧bm≠builtinsNs∧bm≠bQ∧base.get? bm=some ob∧ob.cls= .type "module" ∧ob.dict=some builtinsNs∧ob.data= .plain
def CdK (q:Str)(H:Hp)(c:aq):Prop:=∃ oc vs t,H c=some (.frz oc (.own 0))∧oc.data= .fields vs∧vs[1]? =some (.str q t)
def LamT (P:aq)(pos:Pos)(q:Str)(H:Hp):Prop :=
 H P=some (.tbl #[])∨∃ c,H P=some (.tbl #[rawInt pos.line,rawInt pos.col,.ref c])∧CdK q H c
def Tb (P:aq)(H H':Hp):Prop:=∀ a o,a≠P→H a=some o→H' a=some o
theorem Tb.refl {P:aq}(H:Hp):Tb P H H:=fun _ _ _ e=>e
theorem Tb.trans {P:aq}(a:Tb P H H1)(b:Tb P H1 H2):Tb P H H2:=fun x o n e=>b x o n (a x o n e)
theorem bH.tb {P:aq}(a:bH H H'):Tb P H H':=fun x o _ e=>a x o e
theorem LamT.same {P:aq}{q:Str}(a:bH H H')(k:LamT P pos q H):LamT P pos q H':=by
 rcases k with k | ⟨c,k,oc,vs,t,e,r⟩
 ·exact .inl (a _ _ k)
 ·exact .inr ⟨c,a _ _ k,oc,vs,t,a _ _ e,r⟩
def LamF (q:Str)(params:gP)(body:Expr)(scope:fO)(cl:List (Str×aq))(f:aq)(H:Hp):Prop :=
 ∃ pm c ct,H f=some (.frz (kla_obj "<lambda>" q params body scope cl pm c ct) (.own 0))∧CdK q H c
theorem LamF.same {q:Str}(a:bH H H')(k:LamF q params body scope cl f H):LamF q params body scope cl f H' :=
 let ⟨pm,c,ct,e,oc,vs,t,e2,r⟩:=k;⟨pm,c,ct,a _ _ e,oc,vs,t,a _ _ e2,r⟩
section
variable {σ:List (Option V)}
theorem Inv.grown {P:aq}{ps more:Array ae}{tk:Nat}(I:Inv X aR σ H s)(hP:H P=some (.tbl ps))(hx:bL.ExtBut P s.heap h')(ht:h'.get? P=some (tabObj (ps++more))) :
  Inv X aR σ (upd H P (.tbl (ps++more))) { s with heap:=h',toks:=tk }:=by
 have neP:∀ b,H b=none→b≠P:=fun b e z=>by rw [z,hP] at e;cases e
 have neO:∀ b o,H b=some o→(∀ ps,o≠ .tbl ps)→b≠P:=fun b o e hn z=>by rw [z,hP] at e;exact hn ps (bG e).symm
 refine I.step (g':=s.gens) (d':=s.drawn) (ch:=[]) (fun _ z=>nomatch z) (fun b o _ _ _ e n=>hx b o (neP b n) e) (fun b o _ _ _ e n=>⟨o.slots,hx b o (neP b n) e⟩) (fun b o _ _ n=>by rw [br (neP b n)];exact n)
  (fun b o _ e=>?_) (fun b xs e=>by rw [br (neO b _ e fun _ z=>by cases z)];exact e) (fun b o u e=>by rw [br (neO b _ e fun _ z=>by cases z)];exact e) (fun b qs e=>?_) (fun m hn=>hn.extBut hx (neP _ I.free)) (fun b u e=>?_) I.bare
 ·by_cases hb:b=P
  ·exact ⟨_,hb ▸ ht⟩
  ·exact ⟨o,hx b o hb e⟩
 ·by_cases hb:b=P
  ·subst hb
   rw [hP] at e;cases e;exact ⟨more,aQ⟩
  ·exact ⟨#[],by rw [br hb,e];simp⟩
 ·by_cases hb:b=P
  ·subst hb
   rw [aQ] at e;cases e;exact ht
  ·rw [br hb] at e
   refine (I.hok b u e).stay (fun c v hc q=>hx c v ?_ q) (fun c q=>by rw [br (neO c _ q fun _ z=>by cases z)];exact q) fun c xs q=>by rw [br (neO c _ q fun _ z=>by cases z)];exact q
   rcases hc with rfl | hc
   ·exact hb
   ·exact neO c _ hc fun _ z=>by cases z
theorem lam_make {c P:aq}(I:Inv X aR σ H s)(hd:defaultsOf params X.env=([],[]))(hcode:X.env.code= .ref c)(C:codeHdIn X.K c P=true)(B:BM X.mg X.base)
  (hfr:∀ y∈scope.names,y.2= .free→X.env.scope.names.lookup y.1=some .cell) (T:LamT P pos (X.env.qual ++ "<lambda>") H)
  (h:∀ f cl H' s',Inv X aR σ H' s'→Tb P H H'→LamT P pos (X.env.qual ++ "<lambda>") H'→LamF (X.env.qual ++ "<lambda>") params body scope cl f H'→(∀ x c,cl.lookup x=some c→X.env.cells.lookup x=some c)→(∀ y∈scope.names,y.2= .free→cl.lookup y.1=X.env.cells.lookup y.1)→Q (.ref f) s') :
  bf (bw X.prog X.w) X.A (eK (.Lambda params body scope pos) X.env) Q X.xe s:=by
 obtain ⟨cl,hclos,c1,c2⟩:=pN (scope:=scope) (env:=X.env) fun y hy hk=>I.ok.has _ (.inl (hfr y hy hk))
 refine kla_eval hd ?_;have hgs:s.heap.Ns bQ X.mg:=I.mod.glob.keeps I.bk;obtain ⟨bm,ob,b1,b2,b3,b4,b5⟩:=B;have CH:CodeHd s.heap c P:=codeHd_of_K I.kIn C;obtain ⟨ps,hP⟩:∃ ps,H P=some (.tbl ps):=by
  rcases T with T | ⟨c',T,_⟩
  ·exact ⟨_,T⟩
  ·exact ⟨_,T⟩
 have hbP:bm≠P:=fun q=>by have z:=(I.bs bm ob b4).2;rw [q,hP] at z;cases z
 have hgP:bQ≠P:=fun q=>by
  obtain ⟨o,es,ep,e,_⟩:=I.mod.glob;have z:=(I.bs _ o e).2;rw [q,hP] at z;cases z
 have hBA:s.heap.BuiltinsAt X.mg P:=⟨bm,ob,b1,b2,b3,hbP,I.bk _ _ b4,b5⟩;have fin:∀ (H1:Hp) (h1:bL) (tk:Nat) (c':aq) (ctv:ae),Inv X aR σ H1 { s with heap:=h1,toks:=tk }→Tb P H H1→LamT P pos (X.env.qual ++ "<lambda>") H1→CdK (X.env.qual ++ "<lambda>") H1 c' →
   Q (.ref h1.objs.size) { s with heap:=h1.push (kla_obj "<lambda>" (X.env.qual ++ "<lambda>") params body scope cl ((X.mg "__name__").getD .none) c' ctv),toks:=tk }:=fun H1 h1 tk c' ctv I1 t1 T1 K1=>by
  have fr:H1 h1.objs.size=none:=I1.hok.fresh (aA _);have S:bH H1 (upd H1 h1.objs.size (.frz (kla_obj "<lambda>" (X.env.qual ++ "<lambda>") params body scope cl ((X.mg "__name__").getD .none) c' ctv) (.own 0))):=fun a o e=>by rw [br (bC e fr)];exact e
  have I2:=I1.laid (t':=tk) (a:=h1.objs.size) (o:= .frz (kla_obj "<lambda>" (X.env.qual ++ "<lambda>") params body scope cl ((X.mg "__name__").getD .none) c' ctv) (.own 0)) (h':=h1.push (kla_obj "<lambda>" (X.env.qual ++ "<lambda>") params body scope cl ((X.mg "__name__").getD .none) c' ctv)) (fun b u e=>aw _ e) (aA _) ⟨aX _ rfl,_,aX _ rfl⟩;obtain ⟨oc,vs,t,e,r⟩:=K1;exact h _ cl _ _ I2 (t1.trans S.tb) (T1.same S) ⟨_,c',ctv,aQ,oc,vs,t,S _ _ e,r⟩ c1 c2
 rcases T with T | ⟨c',T,K⟩
 ·rw [T] at hP;cases hP
  have hPh:s.heap.get? P=some (tabObj #[]):=I.hok P _ T;refine kla_makeFunction (mg:=X.mg) hclos I.ok.glob hgs hcode CH hPh trivial rfl hgP hBA fun c' ctv h' tk hx hge hlt hrec htb=>?_
  have I1:=I.grown (tk:=tk) T hx htb;obtain ⟨c2',oc,vs,t,e2,hoc,hdd,hv⟩:=hrec;cases e2;have Plt:P<s.heap.objs.size:=aL hPh;have ncP:c'≠P:=dv (aU Plt hge);have frc:H c'=none:=I.hok.fresh hge;have hn1:(upd H P (.tbl (#[]++ #[rawInt pos.line,rawInt pos.col,.ref c']))) c'=none:=by rw [br ncP];exact frc
  have old:∀ b o,s.heap.get? b=some o→b≠c':=fun b o e=>bI (aU (aL e) hge)
  have I2:=I1.take (D:=c') (o:= .frz oc (.own 0)) hn1 (aM I.sz hge) (dv (aU I.lt hge)) (fun x d e=>by obtain ⟨v,o,ho,_⟩:=I.cell x d e;exact old d o ho) (fun p hp=>old _ _ (I.pin p hp).1) ⟨hoc,_,hoc⟩;refine fin _ h' tk c' ctv I2 (fun a o hn e=>?_) (.inr ⟨c',?_,oc,vs,t,aQ,hdd,hv⟩) ⟨oc,vs,t,aQ,hdd,hv⟩
  ·rw [br (bC e frc),br hn];exact e
  ·rw [br (dB ncP),aQ];rfl
 ·rw [T] at hP;cases hP
  have hPh:s.heap.get? P=some (tabObj #[rawInt pos.line,rawInt pos.col,.ref c']):=I.hok P _ T;refine kla_makeFunctionHit (cv:= .ref c') (mg:=X.mg) hclos I.ok.glob hgs hcode CH hPh trivial (codeAmong_snoc [] trivial rfl) hBA fun ctv h' tk hk hsz=>?_
  exact fin H h' tk c' ctv (I.kept hk) (Tb.refl H) (.inr ⟨c',T,K⟩) K
def cxLam (X:Cx)(q:Str)(scope:fO)(cl:List (Str×aq))(L f:aq)(cd:ae)(N:List Str)(s:ax)(H:Hp):Cx :=
 { X with A:=X.A.in1.in1.deeper (envX q scope L f cd cl),N:=N,s₀:=s,H₀:=H,env:=envX q scope L f cd cl,outer:=X.stack,stack:=envX q scope L f cd cl::X.stack,ex:=[],calm:=true,fn:=fun _=>false,pn:=[],xe:=fun _ _=>False }
theorem lam_call {q:Str}{Q:VK}(I:Inv X aR σ H s)(hc:X.calm=true)(hr:X.A.depth<recursionLimit)(F:LamF q params body scope cl f H)(ru:gI v u)
  (hbind:∀ pm cdv ct,bindArgs (kla_fn "<lambda>" q params body scope cl pm cdv ct) ⟨[u],[]⟩=fU [(x,u)])
  (hk:scope.kind= .function) (hco:scope.isCoroutine=false) (hgen:scope.isGenerator=false) (iH:∀ y∈scope.names,y.2≠ .cell) (hx:scope.names.lookup x=some .local) (hfx:x ∉ fr)
  (c1:∀ x c,cl.lookup x=some c→X.env.cells.lookup x=some c) (c2:∀ y∈scope.names,y.2= .free→cl.lookup y.1=X.env.cells.lookup y.1)
  (hfr:∀ y∈scope.names,y.2= .free→X.env.scope.names.lookup y.1=some .cell) (hjs:js.map (fun j=>X.N[j]?)=fr.map some) (hfv:∀ y∈fr,scope.names.lookup y=some .free)
  (hb:∀ L cd s' H',PE (cxLam X q scope cl L f cd (x::fr) s' H') body te) (ht:te (some v::cQ σ js) H Q) :
  bf (bw X.prog X.w) X.A.in1.in1 (call (.ref f) [u]) (EP X aR σ Q) (fun _ _=>False) s:=by
 obtain ⟨pm,cd,ct,e,oc,vs,t,ec,hdc,hvc⟩:=F;have ho:s.heap.get? f=some (kla_obj "<lambda>" q params body scope cl pm cd ct):=(I.hok f _ e).1;have hoc:s.heap.get? cd=some oc:=(I.hok cd _ ec).1;refine wpAny_call (kla_callFunE hr ho rfl hco hgen rfl ⟨cd,oc,vs,t,rfl,hoc,hdc,hvc⟩ ?_);rw [hbind];refine aV (wpAny_newFunctionEnv iH (fun y hy=>?_) (fun h₁ hns hsb=>⟨I.nolimit.fresh _ hsb,?_⟩) hk)
 ·rw [av.mp hy];exact hx
 show codeAny _ _ (.expr body (envX q scope s.heap.objs.size f (.ref cd) cl)) _ _;have old:∀ b o,s.heap.get? b=some o→h₁.get? b=some o:=fun b o e=>hsb.extBut b o (bI (aL e)) (aw _ e)
 refine kla_codeExpr ?_;have ok':(cxLam X q scope cl s.heap.objs.size f (.ref cd) (x::fr) s H).Ok:=by
  refine ⟨I.ok.mod,hk,rfl,rfl,aA _,fun a b c e1 e2=>I.ok.inj a b c (c1 a c e1) (c1 b c e2),fun y hy=>?_,fun _ _ z=>qM z (by intro q;cases q),fun _=>I.ok.hd hc,bW.frames_deeper I.ok.frames,.inr ⟨rfl,rfl⟩,fun b hb=>qM (show b∈([]:List aq) from hb) (by simp),I.bs,aM I.ok.bsz I.sz,fun b o e hb=>qM (show b∈([]:List aq) from hb) (by simp),fun b hb=>qM (show b∈([]:List aq) from hb) (by simp),I.stack,I.stkFree⟩;have hy:scope.names.lookup y=some .cell∨scope.names.lookup y=some .free:=hy
  rcases hy with hy | hy
  ·exact qM rfl (iH _ (cq hy))
  ·have hm:=cq hy
   obtain ⟨c,e⟩:=I.ok.has y (.inl (hfr _ hm rfl));exact ⟨c,(c2 _ hm rfl).trans e⟩
 have lenB:(cQ σ js).length=fr.length:=by
  have e:=qQ List.length hjs;rw [aa,aa] at e;unfold cQ;rw [aa];exact e
 have I1:Inv (cxLam X q scope cl s.heap.objs.size f (.ref cd) (x::fr) s H) [] (some v::cQ σ js) H { s with heap:=h₁,toks:=s.toks+1 }:=by
  refine ⟨ok',rfl,I.bare,Un.kept old,⟨_,hns,fun i y v' e1 e2 e3=>?_⟩,fun y c e=>?_,I.hok.fresh (aA _),fun y c e=>I.freeC y c (c1 y c e),fun p hp=>qM (show p∈([]:List (aq×Obj)) from hp) (by simp),I.hok.kept old,?_⟩
  ·cases i with
   | zero =>
    have e1:some x=some y:=e1;have e2:some (some v)=some (some v'):=e2;cases e1;cases e2;exact ⟨u,ru,.inl ⟨hx,by show eG x [(x,u)]=_;rw [dg,beq_self_eq_true]⟩⟩
   | succ i =>
    have e1:fr[i]? =some y:=e1;have e2:(cQ σ js)[i]? =some (some v'):=e2;unfold cQ at e2;rw [ay] at e2;obtain ⟨j,ej,e2⟩:=aS.mp e2;have hN:X.N[j]? =some y:=by
     have q:=qQ (fun l=>l[i]?) hjs;simp only [ay,ej,e1,fX] at q;exact bG q
    have hσ:σ[j]? =some (some v'):=by
     cases z:σ[j]? with
     | none=>rw [z] at e2;cases e2
     | some w=>rw [z] at e2;exact qQ some e2
    have hfree:=hfv y (aP e1);have hm:=cq hfree;have hce:X.env.scope.names.lookup y=some .cell:=hfr _ hm rfl;obtain ⟨m,_,hl⟩:=I.loc;obtain ⟨u',ru',look⟩:=hl j y v' hN hσ (.inr (.inl hce));refine ⟨u',ru',.inr ⟨.inr hfree,?_⟩⟩
    rcases look with ⟨k,_⟩ | ⟨_,c,ec,ho⟩
    ·have k:X.env.scope.names.lookup y=some .local:=k
     rw [hce] at k;cases k
    ·obtain ⟨o,ho,hd⟩:=ho
     exact ⟨c,(c2 _ hm rfl).trans ec,o,old c o ho,hd⟩
  ·obtain ⟨v',o,ho,hd⟩:=I.cell y c (c1 y c e)
   exact ⟨v',o,old c o ho,hd⟩
  ·show (some v::cQ σ js).length=(x::fr).length
   rw [aN,aN,lenB]
 refine cA (hb _ _ s H [] _ _ H Q I1 ht) (fun w s' hs=>?_) fun _ _ z=>z.elim
 obtain ⟨v',H',J,rv,qv⟩:=hs;exact I.after ⟨v',H',J.os,J.bare,J.base,J.hok,rv,qv⟩
end
def SortQ (P:aq)(lp:Pos)(lq:Str)(js:List Nat)(te:TE)(σ:St)(Q:VK)(v:V)(H1:Hp):Prop:=∃ (r:aq) (n:Nat) (key:Nat→Int×Int),v= .ref r∧H1 r=some (.rng 0 n)∧n<64∧LamT P lp lq H1∧((aF n).map key).Nodup ∧
 (∀ i:Nat,i<n→∀ H2,Tb P H1 H2→te (some (.int i)::cQ σ js) H2 fun u H3=>bH H2 H3∧∃ a,u= .ref a∧H3 a=some (.tup [.int (key i).1,.int (key i).2])) ∧
 ∀ (D:aq) (H4:Hp) (π:List Nat),Tb P H1 H4→LamT P lp lq H4→H4 D=none→π.Perm (aF n)→π.Pairwise (fun i j=>ltP (key i) (key j)=true)→Q (.ref D) (upd H4 D (.lst (π.map fun (i:Nat)=>V.int i)))
def tSortL (P:aq)(lp:Pos)(lq:Str)(tr:TE)(js:List Nat)(te:TE):TE:=fun σ H Q=>tr σ H fun v H1=>SortQ P lp lq js te σ Q v H1
def SortQ1 (P:aq)(lp:Pos)(lq:Str)(js:List Nat)(te:TE)(σ:St)(Q:VK):List V→Hp→Prop
 | [v],H1=>SortQ P lp lq js te σ Q v H1
 | _,_=>False
theorem rng_size0:dW 0 (n:Int) 1=n:=by
 unfold dW;rw [qL (by decide)]
 by_cases h0:(0:Int)<n
 ·rw [qL h0,Int.ediv_one];lia
 ·rw [qK h0];lia
theorem rng_small0 (h:n<64):gY 0 (n:Int) 1=true:=by unfold gY;rw [rng_size0];unfold eS.Range.rangeFitsLong;simp;lia
theorem pe_sortL {re:Expr}{tr:TE}{p kp:Pos}{c P:aq}(hc:X.calm=true)(hrm:X.A.depth<recursionLimit)(hg:Gl X "sorted")(hm:X.mg "sorted" =none)(hi:PE X re tr)
  (hd:defaultsOf params X.env=([],[])) (hcode:X.env.code= .ref c) (C:codeHdIn X.K c P=true) (B:BM X.mg X.base)
  (hbind:∀ q cl pm cdv ct (u:ae),bindArgs (kla_fn "<lambda>" q params body scope cl pm cdv ct) ⟨[u],[]⟩=fU [(x,u)])
  (hk:scope.kind= .function) (hco:scope.isCoroutine=false) (hgen:scope.isGenerator=false) (iH:∀ y∈scope.names,y.2≠ .cell) (hx:scope.names.lookup x=some .local) (hfx:x ∉ fr)
  (hfr:∀ y∈scope.names,y.2= .free→X.env.scope.names.lookup y.1=some .cell) (hjs:js.map (fun j=>X.N[j]?)=fr.map some) (hfv:∀ y∈fr,scope.names.lookup y=some .free)
  (hb:∀ cl L f cd s' H',PE (cxLam X (X.env.qual ++ "<lambda>") scope cl L f cd (x::fr) s' H') body te)
  (he:fP pos (bB [re] X.env)=(false,eK re X.env)::fP pos (bB [] X.env):=by rfl)
  (hs:bB [re] X.env=(false,eK re X.env)::bB [] X.env:=by rfl) (hpl:(fP pos (bB [re] X.env)).any (·.1)=false:=by rfl) :
  PE X (.Call (.Name "sorted" p) [re] [⟨some "key",.Lambda params body scope lp,kp⟩] pos) (tSortL P lp (X.env.qual ++ "<lambda>") tr js te):=by
 intro aR s σ H Q I h;refine fA (nk I hg hm (u:= .builtin "sorted") (by trivial) ?_);refine callWith_kw (kws:=[⟨some "key",.Lambda params body scope lp,kp⟩]) (thn ((af hi aD hs) pos aR s σ H (SortQ1 P lp (X.env.qual ++ "<lambda>") js te σ Q) I h) fun us s1 ⟨vs,H1,I1,r1,q0⟩=>?_) he hpl;refine kws_cons ?_;obtain ⟨v,rfl⟩:∃ v,vs=[v]:=by
  cases vs with
  | nil=>exact q0.elim
  | cons v r=>cases r with
   | nil=>exact ⟨v,rfl⟩
   | cons _ _=>exact q0.elim
 have q1:SortQ P lp (X.env.qual ++ "<lambda>") js te σ Q v H1:=q0;obtain ⟨r,n,key,rfl,hr,h64,T,hnd,hkey,hQ⟩:=q1;obtain rfl:us=[.ref r]:=by
  cases r1 with
  | cons ru rs =>
   cases rs;exact qQ (fun z=>[z]) ru
 refine lam_make (body:=body) I1 hd hcode C B hfr T fun f cl H2 s2 I2 tb T2 F2 c1 c2=>?_
 refine kws_nil ?_;show bf _ _ (call (.builtin "sorted") [.ref r] [(d9 "key",.ref f)]) _ _ _;have rP:r≠P:=fun z=>by
  rcases T with T | ⟨_,T,_⟩ <;> rw [←z,hr] at T <;> cases T
 obtain ⟨t1,t2,t3,e3⟩:=I2.hok r _ (tb r _ rP hr);have hr3:IsRange s2.heap r 0 n 1 t1 t2 t3:=by first | exact e3 | exact ⟨_,e3,rfl,rfl⟩
 refine sorted_keyR (I2.ok.hd hc) hr3 (rng_small0 h64) rng_size0 h64 fun ws h1 tk D kS e1 hl hw hkeep hD hDk gD gK=>?_
 have I3:Inv X aR σ H2 { s2 with heap:=h1,toks:=tk }:=I2.kept hkeep;have old:∀ b o,s2.heap.get? b=some o→b≠D∧b≠kS:=fun b o e=>⟨bI (aU (aL e) hD),bI (Nat.lt_trans (aU (aL e) hD) hDk)⟩
 have hDs:=aL gD;have hKs:=aL gK;have frD:H2 D=none:=I2.hok.fresh hD;have frK:H2 kS=none:=I2.hok.fresh (iL (bU hD hDk));have cc:∀ y d,X.env.cells.lookup y=some d→d≠D∧d≠kS:=fun y d e=>by obtain ⟨v,o,ho,_⟩:=I2.cell y d e;exact old d o ho
 have pp:∀ z∈X.pn++aR,z.1≠D∧z.1≠kS:=fun z hz=>old _ _ (I2.pin z hz).1
 have nl:s2.heap.objs.size≤kS:=iL (bU hD hDk);have I4:Inv X ((kS,bT "list" #[] 0)::(D,bT "list" #[] e1)::aR) σ H2 { s2 with heap:=h1,toks:=tk }:=I3.pins_of fun z hz=>by
  rcases aI.mp hz with rfl | hz
  ·exact ⟨gK,frK,dv (aU I2.lt nl),I2.nofs nl,fun v z=>by cases z⟩
  ·rcases aI.mp hz with rfl | hz
   ·exact ⟨gD,frD,dv (aU I2.lt hD),I2.nofs hD,fun v z=>by cases z⟩
   ·exact I3.pin z (aK _ hz)
 refine keyDo_of (num:=fun i=>(i:Int)) (key:=key) I4 hl h64 (fun i x e=>by obtain ⟨t,q⟩:=hw i x e;exact ⟨t,by rw [q];congr 1;lia⟩) (aM I2.sz nl) (aM I2.sz hD) (fun y d e=>(cc y d e).2) (fun y d e=>(cc y d e).1) (fun z hz=>(pp z hz).2) (fun z hz=>(pp z hz).1) (dv hDk) hnd ?_ ?_
 ·intro t H' pins' i tk hi' I' S'
  refine cA (lam_call (v:= .int i) I' hc hrm (F2.same S') ⟨_,rfl⟩ (fun pm cdv ct=>hbind _ _ _ _ _ _) hk hco hgen iH hx hfx c1 c2 hfr hjs hfv (fun L cd s' H'=>hb cl L f cd s' H') (hkey i hi' H' (tb.trans S'.tb))) (fun k t' ⟨v,H'',I'',rv,S'',a,ev,ea⟩=>?_) fun _ _ z=>z
  subst ev;obtain rfl:k= .ref a:=rv;exact ⟨a,H'',I'',S'',rfl,ea⟩
 ·intro t H' π S' hD' I' pm pw
  exact ⟨.ref D,_,I',rfl,hQ D H' π (tb.trans S'.tb) (T2.same S') hD' pm pw⟩
end L2
namespace HN
open PySem L2 PyProof.Rows
def z0:Sn:=⟨0,0,0,0,0⟩
def sAt (sp:List Sn)(i:Nat):Sn:=sp.getD i z0
theorem i8 (h:i<sp.length):sp[i]? =some (sAt sp i):=by
 unfold sAt;rw [ai,gE h];rfl
theorem fc (h:i<sp.length):sAt sp i∈sp:=aP (i8 h)
def wkey (sp:List Sn)(i:Nat):Int×Int:=((sAt sp i).o - (sAt sp i).l,(i:Int))
def Ordd (sp:List Sn)(π:List Nat):Prop:=π.Perm (aF sp.length)∧π.Pairwise fun i j=>ltP (wkey sp i) (wkey sp j)=true
theorem wkey_nodup (sp:List Sn)(n:Nat):((aF n).map (wkey sp)).Nodup:=by
 rw [bX,fE];refine List.Pairwise.imp (fun {a b} h e=>h ?_) List.nodup_range;have:=qQ Prod.snd e;exact Int.ofNat.inj this
theorem ltP_asym {x y:Int×Int}(h:ltP x y=true)(k:ltP y x=true):False:=by
 rw [ltP_iff] at h k;lia
theorem perm_eq {α:Type}{R:α→α→Prop}(as:∀ a b,R a b→R b a→a=b):∀ {l k:List α},l.Perm k→l.Pairwise R→k.Pairwise R→l=k
 | [],k,p,_,_=>(List.nil_perm.mp p).symm
 | a::l,k,p,hl,hk=>by
  cases k with
  | nil=>exact qM p.symm (by intro z;have:=List.nil_perm.mp z;cases this)
  | cons b k =>
   have ab:a=b:=by
    have ha:a∈b::k:=p.mem_iff.mp bJ;have hb:b∈a::l:=p.mem_iff.mpr bJ
    rcases aI.mp ha with e | ha
    ·exact e
    ·rcases aI.mp hb with e | hb
     ·exact e.symm
     ·exact as a b (List.rel_of_pairwise_cons hl hb) (List.rel_of_pairwise_cons hk ha)
   subst ab;rw [perm_eq as p.cons_inv (List.pairwise_cons.mp hl).2 (List.pairwise_cons.mp hk).2]
theorem Ordd.one {ρ:List Nat}(a:Ordd sp π)(b:Ordd sp ρ):π=ρ :=
 perm_eq (fun _ _ h k=>(ltP_asym h k).elim) (a.1.trans b.1.symm) a.2 b.2
theorem Ordd.lt (a:Ordd sp π)(h:i∈π):i<sp.length:=cg.mp (a.1.mem_iff.mp h)
theorem Ordd.len (a:Ordd sp π):π.length=sp.length:=by rw [a.1.length_eq,bh]
def iW (gs:List Int)(x y:Int):List Int:=gs.map fun g=>if g=y then x else g
def gn (sp:List Sn)(c:List Int×List Nat)(i:Nat):List Int×List Nat :=
 if tm c.1 (sAt sp i).s=tm c.1 (sAt sp i).g then c else (iW c.1 (tm c.1 (sAt sp i).s) (tm c.1 (sAt sp i).g),c.2++[i])
def jK (m:Nat):List Int:=(aF m).map fun (k:Nat)=>(k:Int)
def kB (sp:List Sn)(m:Nat)(π:List Nat):List Int×List Nat:=π.foldl (gn sp) (jK m,[])
def eC (ps:List (List Int))(x:Int):List Int:=(ps.filter fun p=>decide (x∈p)).headD []
def stepQ (sp:List Sn)(c:List (List Int)×List Nat)(i:Nat):List (List Int)×List Nat :=
 if eC c.1 (sAt sp i).s=eC c.1 (sAt sp i).g then c
 else (c.1.filter (fun p=> !(decide (p=eC c.1 (sAt sp i).s)) && !(decide (p=eC c.1 (sAt sp i).g)))++[eC c.1 (sAt sp i).s++eC c.1 (sAt sp i).g],c.2++[i])
def prt0 (m:Nat):List (List Int):=(aF m).map fun (k:Nat)=>[(k:Int)]
structure Rl (m:Nat)(gs:List Int)(ps:List (List Int)):Prop where
 len:gs.length=m
 cov:∀ x:Int,0≤x→x<m→∃ p∈ps,x∈p
 one:∀ p∈ps,∀ q∈ps,∀ x,x∈p→x∈q→p=q
 eqv:∀ x y:Int,0≤x→x<m→0≤y→y<m→(tm gs x=tm gs y↔∃ p∈ps,x∈p∧y∈p)
theorem Rl.part {ps:List (List Int)}(R:Rl m gs ps){x:Int}(h0:0≤x)(h1:x<m):eC ps x∈ps∧x∈eC ps x:=by
 obtain ⟨p,hp,hx⟩:=R.cov x h0 h1;unfold eC;have hm:p∈ps.filter fun p=>decide (x∈p):=bS.mpr ⟨hp,qN hx⟩
 cases e:ps.filter fun p=>decide (x∈p) with
 | nil=>rw [e] at hm;cases hm
 | cons q r =>
  have hq:q∈ps.filter fun p=>decide (x∈p):=by rw [e];exact bJ
  obtain ⟨a,b⟩:=bS.mp hq;exact ⟨a,qP b⟩
theorem Rl.is {ps:List (List Int)}(R:Rl m gs ps){x:Int}(h0:0≤x)(h1:x<m)(k0:0≤y)(k1:y<m):tm gs x=tm gs y↔x∈eC ps y:=by
 obtain ⟨p1,p2⟩:=R.part k0 k1;refine (R.eqv x y h0 h1 k0 k1).trans ⟨fun ⟨p,hp,hx,hy⟩=>?_,fun h=>⟨_,p1,h,p2⟩⟩;rw [←R.one p hp _ p1 y hy p2];exact hx
theorem Rl.same {ps:List (List Int)}(R:Rl m gs ps){x:Int}(h0:0≤x)(h1:x<m)(k0:0≤y)(k1:y<m):tm gs x=tm gs y↔eC ps x=eC ps y:=by
 refine (R.is h0 h1 k0 k1).trans ⟨fun h=>?_,fun h=>?_⟩
 ·exact R.one _ (R.part h0 h1).1 _ (R.part k0 k1).1 x (R.part h0 h1).2 h
 ·rw [←h];exact (R.part h0 h1).2
theorem kK {u v x:Int}(h0:0≤x)(h1:x<gs.length):tm (iW gs u v) x=if tm gs x=v then u else tm gs x:=by
 obtain ⟨j,rfl⟩:=cz h0;have hj:j<gs.length:=by lia
 unfold tm iW;simp only [cI,ai,ay,gE hj,fX,Option.getD_some]
theorem Rl.join {ps:List (List Int)}(R:Rl m gs ps){a:Int}(a0:0≤a)(a1:a<m)(b0:0≤b)(b1:b<m) :
  Rl m (iW gs (tm gs a) (tm gs b)) (ps.filter (fun p=> !(decide (p=eC ps a)) && !(decide (p=eC ps b)))++[eC ps a++eC ps b]):=by
 obtain ⟨pa,ha⟩:=R.part a0 a1;obtain ⟨pb,hb⟩:=R.part b0 b1;have mem:∀ p,p∈ps.filter (fun p=> !(decide (p=eC ps a)) && !(decide (p=eC ps b)))++[eC ps a++eC ps b]↔(p∈ps∧p≠eC ps a∧p≠eC ps b)∨p=eC ps a++eC ps b:=fun p=>by
  rw [aH,bS,av];simp only [dk,jr,decide_eq_false_iff_not,ne_eq]
 have uni:∀ p∈ps,p≠eC ps a→p≠eC ps b→∀ x,x∈p→x ∉ eC ps a++eC ps b:=fun p hp n1 n2 x hx hz=>by
  rcases aH.mp hz with hz | hz
  ·exact n1 (R.one p hp _ pa x hx hz)
  ·exact n2 (R.one p hp _ pb x hx hz)
 refine ⟨by unfold iW;rw [aa];exact R.len,fun x h0 h1=>?_,fun p hp q hq x hx hy=>?_,fun x y h0 h1 k0 k1=>?_⟩
 ·obtain ⟨p,hp,hx⟩:=R.cov x h0 h1
  by_cases e1:p=eC ps a
  ·exact ⟨_,(mem _).mpr (.inr rfl),aJ _ (e1 ▸ hx)⟩
  ·by_cases e2:p=eC ps b
   ·exact ⟨_,(mem _).mpr (.inr rfl),aK _ (e2 ▸ hx)⟩
   ·exact ⟨p,(mem p).mpr (.inl ⟨hp,e1,e2⟩),hx⟩
 ·rcases (mem p).mp hp with ⟨p1,p2,p3⟩ | rfl
  ·rcases (mem q).mp hq with ⟨q1,q2,q3⟩ | rfl
   ·exact R.one p p1 q q1 x hx hy
   ·exact qM hy (uni p p1 p2 p3 x hx)
  ·rcases (mem q).mp hq with ⟨q1,q2,q3⟩ | rfl
   ·exact qM hx (uni q q1 q2 q3 x hy)
   ·rfl
 ·rw [kK h0 (by rw [R.len];exact h1),kK k0 (by rw [R.len];exact k1)]
  have xa:=R.is h0 h1 a0 a1;have xb:=R.is h0 h1 b0 b1;have ya:=R.is k0 k1 a0 a1;have yb:=R.is k0 k1 b0 b1;have xy:=R.eqv x y h0 h1 k0 k1
  constructor
  ·intro h
   by_cases e:tm gs x=tm gs y
   ·obtain ⟨p,hp,hx,hy⟩:=xy.mp e
    by_cases e1:p=eC ps a
    ·exact ⟨_,(mem _).mpr (.inr rfl),aJ _ (e1 ▸ hx),aJ _ (e1 ▸ hy)⟩
    ·by_cases e2:p=eC ps b
     ·exact ⟨_,(mem _).mpr (.inr rfl),aK _ (e2 ▸ hx),aK _ (e2 ▸ hy)⟩
     ·exact ⟨p,(mem p).mpr (.inl ⟨hp,e1,e2⟩),hx,hy⟩
   ·refine ⟨_,(mem _).mpr (.inr rfl),?_,?_⟩
    ·by_cases e1:tm gs x=tm gs b
     ·exact aK _ (xb.mp e1)
     ·rw [qK e1] at h
      by_cases e2:tm gs y=tm gs b
      ·rw [qL e2] at h;exact aJ _ (xa.mp h)
      ·rw [qK e2] at h;exact qM h e
    ·by_cases e1:tm gs y=tm gs b
     ·exact aK _ (yb.mp e1)
     ·rw [qK e1] at h
      by_cases e2:tm gs x=tm gs b
      ·rw [qL e2] at h;exact aJ _ (ya.mp h.symm)
      ·rw [qK e2] at h;exact qM h e
  ·rintro ⟨p,hp,hx,hy⟩
   rcases (mem p).mp hp with ⟨p1,p2,p3⟩ | rfl
   ·rw [xy.mpr ⟨p,p1,hx,hy⟩]
   ·have fx:∀ z:Int,(z∈eC ps a→tm gs z=tm gs a)→(z∈eC ps b→tm gs z=tm gs b)→z∈eC ps a++eC ps b→(if tm gs z=tm gs b then tm gs a else tm gs z)=tm gs a:=fun z f1 f2 hz=>by
     by_cases e:tm gs z=tm gs b
     ·rw [qL e]
     ·rw [qK e]
      rcases aH.mp hz with hz | hz
      ·exact f1 hz
      ·exact qM (f2 hz) e
    rw [fx x xa.mpr xb.mpr hx,fx y ya.mpr yb.mpr hy]
theorem mm {x:Int}(h0:0≤x)(h1:x<m):tm (jK m) x=x:=by
 obtain ⟨j,rfl⟩:=cz h0;unfold tm jK;rw [cI,ai,ay,fG (by lia)];rfl
theorem Rl.start (m:Nat):Rl m (jK m) (prt0 m):=by
 have mem:∀ p,p∈prt0 m↔∃ k:Nat,k<m∧p=[(k:Int)]:=fun p=>by
  unfold prt0;rw [bb];exact ⟨fun ⟨k,a,b⟩=>⟨k,cg.mp a,b.symm⟩,fun ⟨k,a,b⟩=>⟨k,cg.mpr a,b.symm⟩⟩
 refine ⟨by unfold jK;rw [aa,bh],fun x h0 h1=>⟨[x],(mem _).mpr ⟨x.toNat,by lia,by rw [fJ h0]⟩,av.mpr rfl⟩,fun p hp q hq x hx hy=>?_,fun x y h0 h1 k0 k1=>?_⟩
 ·obtain ⟨k,_,rfl⟩:=(mem p).mp hp
  obtain ⟨j,_,rfl⟩:=(mem q).mp hq;rw [←av.mp hx,←av.mp hy]
 ·rw [mm h0 h1,mm k0 k1]
  refine ⟨fun e=>⟨[x],(mem _).mpr ⟨x.toNat,by lia,by rw [fJ h0]⟩,av.mpr rfl,by rw [e];exact av.mpr rfl⟩,fun ⟨p,hp,hx,hy⟩=>?_⟩;obtain ⟨k,_,rfl⟩:=(mem p).mp hp;rw [av.mp hx,av.mp hy]
def kG (m:Nat)(sp:List Sn):Prop:=∀ x∈sp,0≤x.s∧x.s<m∧0≤x.g∧x.g<m
theorem pH {m:Nat}{sp:List Sn}(E:kG m sp):∀ (π:List Nat) (gs:List Int) (ps:List (List Int)) (tk:List Nat),(∀ i∈π,i<sp.length)→Rl m gs ps→Rl m (π.foldl (gn sp) (gs,tk)).1 (π.foldl (stepQ sp) (ps,tk)).1∧(π.foldl (gn sp) (gs,tk)).2=(π.foldl (stepQ sp) (ps,tk)).2
 | [],gs,ps,tk,_,R=>⟨R,rfl⟩
 | i::π,gs,ps,tk,h,R=>by
  obtain ⟨a0,a1,b0,b1⟩:=E _ (fc (h i bJ));have hs:=R.same a0 a1 b0 b1;rw [bM,bM];unfold gn stepQ
  by_cases e:tm gs (sAt sp i).s=tm gs (sAt sp i).g
  ·rw [qL (show tm (gs,tk).1 _=tm (gs,tk).1 _ from e),qL (show eC (ps,tk).1 _=eC (ps,tk).1 _ from hs.mp e)]
   exact pH E π gs ps tk (fun j hj=>h j (az _ hj)) R
  ·rw [qK (show ¬ tm (gs,tk).1 _=tm (gs,tk).1 _ from e),qK (show ¬ eC (ps,tk).1 _=eC (ps,tk).1 _ from fun z=>e (hs.mpr z))]
   exact pH E π _ _ _ (fun j hj=>h j (az _ hj)) (R.join a0 a1 b0 b1)
theorem jU (sp:List Sn):∀ (π:List Nat) (c:List Int×List Nat),(∀ i∈(π.foldl (gn sp) c).2,i∈c.2∨i∈π)∧(π.foldl (gn sp) c).2.length≤c.2.length+π.length
 | [],c=>⟨fun i h=> .inl h,aA _⟩
 | j::π,c=>by
  obtain ⟨a,b⟩:=jU sp π (gn sp c j);rw [bM];have key:(∀ i∈(gn sp c j).2,i∈c.2∨i=j)∧(gn sp c j).2.length≤c.2.length+1:=by
   unfold gn;split
   ·exact ⟨fun i h=> .inl h,by lia⟩
   ·refine ⟨fun i h=>?_,by rw [ar];exact aA _⟩
    rcases aH.mp h with h | h
    ·exact .inl h
    ·exact .inr (av.mp h)
  refine ⟨fun i hi=>?_,by rw [aN];lia⟩
  rcases a i hi with h | h
  ·rcases key.1 i h with h | h
   ·exact .inl h
   ·exact .inr (h ▸ bJ)
  ·exact .inr (az _ h)
def nZ (m:Nat)(sp:List Sn)(ns:List Int):Prop:=∃ π,Ordd sp π∧ns.Perm ((kB sp m π).2.map fun (i:Nat)=>(i:Int))∧ns.Pairwise (· ≤ ·)
theorem nZ.one {ms:List Int}(a:nZ m sp ns)(b:nZ m sp ms):ns=ms:=by
 obtain ⟨π,o1,p1,w1⟩:=a;obtain ⟨ρ,o2,p2,w2⟩:=b;rw [o1.one o2] at p1;exact perm_eq (fun a b h k=>by lia) (p1.trans p2.symm) w1 w2
theorem nZ.len (a:nZ m sp ns):ns.length≤sp.length:=by
 obtain ⟨π,o,p,_⟩:=a;rw [p.length_eq,aa];have:=(jU sp π (jK m,[])).2;have h2:=o.len;have h3:((jK m,([]:List Nat)).2).length=0:=rfl;unfold kB;lia
theorem jD.ends {m:Int}(N:jD b m sp):kG m.toNat sp:=fun x hx=>by
 obtain ⟨s0,s1,g0,g1,_⟩:=N.all x hx;lia
theorem Tb.tupK {T:aq}(hT:∃ ps,H T=some (.tbl ps))(e:L2.Tb T H H'):jL H H':=fun q xs h=>e q _ (by obtain ⟨ps,hT⟩:=hT;exact fW h hT nofun) h
theorem LamT.tbl {T:aq}(h:L2.LamT T lp lq H):∃ ps,H T=some (.tbl ps):=by
 rcases h with h | ⟨c,h,_⟩
 ·exact ⟨_,h⟩
 ·exact ⟨_,h⟩
theorem LamT.upd {T:aq}(h:L2.LamT T lp lq H)(ha:∀ p u,H a=some (.frz p u)→False)(hb:∀ ps,H a=some (.tbl ps)→False):L2.LamT T lp lq (upd H a o):=by
 rcases h with h | ⟨c,h,oc,vs,t,e,r⟩
 ·exact .inl (by rw [br (fun z=>hb _ (z ▸ h))];exact h)
 ·exact .inr ⟨c,by rw [br (fun z=>hb _ (z ▸ h))];exact h,oc,vs,t,by rw [br (fun z=>ha _ _ (z ▸ e))];exact e,r⟩
inductive spSpW (T:aq)(lp:Pos)(lq:Str)(vs:List V)(H:Hp)(Q:VK)(_:XK):Prop
 | mk (v b m sp:_)(_:vs=[v])(_:IsD H v (jA b m sp))(_:sp.length≤40)(_:L2.LamT T lp lq H)(_:∀ D H' π,L2.Tb T H H'→L2.LamT T lp lq H'→H' D=none→Ordd sp π→Q (.ref D) (L2.upd H' D (.lst (π.map fun (i:Nat)=>V.int i))))
inductive kL (T:aq)(lp:Pos)(lq:Str)(vs:List V)(H:Hp)(Q:VK)(_:XK):Prop
 | mk (v b m sp:_)(_:vs=[v])(_:IsD H v (jA b m sp))(_:jD b m sp)(_:L2.LamT T lp lq H)(_:∀ u H' ns,L2.Tb T H H'→L2.LamT T lp lq H'→H' u=some (.tup (ns.map V.int))→nZ m.toNat sp ns→Q (.ref u) H')
def Finer (m:Nat)(gs hs:List Int):Prop:=∀ x y:Int,0≤x→x<m→0≤y→y<m→tm gs x=tm gs y→tm hs x=tm hs y
theorem Finer.refl (m:Nat)(gs:List Int):Finer m gs gs:=fun _ _ _ _ _ _ h=>h
theorem lL (gs:List Int)(u v:Int):(iW gs u v).length=gs.length:=by unfold iW;rw [aa]
theorem Finer.wide {u v:Int}(F:Finer m gs hs)(l2:hs.length=m):Finer m gs (iW hs u v):=by
 intro x y x0 x1 y0 y1 h;rw [kK x0 (by lia),kK y0 (by lia),F x y x0 x1 y0 y1 h]
theorem join_meets {a:Int}(l1:gs.length=m)(a0:0≤a)(a1:a<m)(b0:0≤b)(b1:b<m):tm (iW gs (tm gs a) (tm gs b)) a=tm (iW gs (tm gs a) (tm gs b)) b:=by
 rw [kK a0 (by lia),kK b0 (by lia),qL rfl]
 by_cases e:tm gs a=tm gs b
 ·rw [qL e]
 ·rw [qK e]
theorem jV (sp:List Sn)(gs:List Int)(tk:List Nat)(i:Nat):(tm gs (sAt sp i).s=tm gs (sAt sp i).g∧gn sp (gs,tk) i=(gs,tk))∨(tm gs (sAt sp i).s≠tm gs (sAt sp i).g∧gn sp (gs,tk) i=(iW gs (tm gs (sAt sp i).s) (tm gs (sAt sp i).g),tk++[i])):=by
 unfold gn
 by_cases e:tm gs (sAt sp i).s=tm gs (sAt sp i).g
 ·exact .inl ⟨e,qL e⟩
 ·exact .inr ⟨e,qK e⟩
theorem ny {m:Nat}{sp:List Sn}:∀ (π:List Nat) (gs hs:List Int) (tk:List Nat),hs.length=m→Finer m gs hs→Finer m gs (π.foldl (gn sp) (hs,tk)).1
 | [],_,_,_,_,F=>F
 | i::π,gs,hs,tk,l,F=>by
  rw [bM]
  rcases jV sp hs tk i with ⟨_,e⟩ | ⟨_,e⟩ <;> rw [e]
  ·exact ny π gs hs tk l F
  ·exact ny π gs _ _ (by rw [lL];exact l) (F.wide l)
theorem l3 {m:Nat}{sp:List Sn}(E:kG m sp):∀ (π:List Nat) (gs:List Int) (tk:List Nat),gs.length=m→(∀ i∈π,i<sp.length)→∀ i∈π,tm (π.foldl (gn sp) (gs,tk)).1 (sAt sp i).s=tm (π.foldl (gn sp) (gs,tk)).1 (sAt sp i).g
 | [],_,_,_,_,i,h=>by cases h
 | j::π,gs,tk,l,hp,i,h=>by
  rw [bM];obtain ⟨a0,a1,b0,b1⟩:=E _ (fc (hp j bJ));have hp':∀ i∈π,i<sp.length:=fun k hk=>hp k (az _ hk)
  rcases jV sp gs tk j with ⟨q,e⟩ | ⟨_,e⟩ <;> rw [e]
  ·rcases aI.mp h with rfl | h
   ·exact ny π gs gs tk l (Finer.refl m gs) _ _ a0 a1 b0 b1 q
   ·exact l3 E π gs tk l hp' i h
  ·have l':(iW gs (tm gs (sAt sp j).s) (tm gs (sAt sp j).g)).length=m:=by rw [lL];exact l
   rcases aI.mp h with rfl | h
   ·exact ny π _ _ _ l' (Finer.refl m _) _ _ a0 a1 b0 b1 (join_meets l a0 a1 b0 b1)
   ·exact l3 E π _ _ l' hp' i h
theorem n5 {x:Int}(h0:0≤x)(h1:x<gs.length):tm gs x∈gs:=by
 obtain ⟨j,rfl⟩:=cz h0;unfold tm;rw [cI,ai,gE (by lia)];exact ba _
def Cnt (m:Nat)(gs:List Int)(k:Nat):Prop:=∃ D:List Int,D.Nodup∧(∀ v,v∈D↔v∈gs)∧D.length+k=m
theorem Cnt.join {k:Nat}(C:Cnt m gs k){u v:Int}(hu:u∈gs)(hv:v∈gs)(n:u≠v):Cnt m (iW gs u v) (k+1):=by
 obtain ⟨D,nd,mem,l⟩:=C;have hvD:=(mem v).mpr hv;refine ⟨D.erase v,nd.erase v,fun z=>?_,by rw [List.length_erase_of_mem hvD];have:=List.length_pos_of_mem hvD;lia⟩;rw [nd.mem_erase_iff,mem];unfold iW;rw [bb]
 constructor
 ·rintro ⟨h1,h2⟩
  exact ⟨z,h2,qK h1⟩
 ·rintro ⟨w,hw,rfl⟩
  by_cases e:w=v
  ·rw [qL e];exact ⟨n,hu⟩
  ·rw [qK e];exact ⟨e,hw⟩
theorem gone_cnt {m:Nat}{sp:List Sn}(E:kG m sp):∀ (π:List Nat) (gs:List Int) (tk:List Nat),gs.length=m→(∀ i∈π,i<sp.length)→Cnt m gs tk.length→Cnt m (π.foldl (gn sp) (gs,tk)).1 (π.foldl (gn sp) (gs,tk)).2.length
 | [],_,_,_,_,C=>C
 | j::π,gs,tk,l,hp,C=>by
  rw [bM];obtain ⟨a0,a1,b0,b1⟩:=E _ (fc (hp j bJ));have hp':∀ i∈π,i<sp.length:=fun k hk=>hp k (az _ hk)
  rcases jV sp gs tk j with ⟨_,e⟩ | ⟨n,e⟩ <;> rw [e]
  ·exact gone_cnt E π gs tk l hp' C
  ·refine gone_cnt E π _ _ (by rw [lL];exact l) hp' ?_
   rw [ar];exact C.join (n5 a0 (by lia)) (n5 b0 (by lia)) n
theorem Cnt.start (m:Nat):Cnt m (jK m) 0:=by
 refine ⟨jK m,?_,fun _=>Iff.rfl,by unfold jK;rw [aa,bh];lia⟩;unfold jK;rw [bX,fE];exact List.Pairwise.imp (fun {a b} h e=>h (Int.ofNat.inj e)) List.nodup_range
theorem lG:∀ {l k:List Int},l.Nodup→(∀ x∈l,x∈k)→l.length≤k.length
 | [],_,_,_=>bg _
 | a::l,k,nd,h=>by
  have ha:=h a bJ;have ih:=lG (l:=l) (k:=k.erase a) (bz.mp nd).2 fun x hx=>by
   have hxk:=h x (az _ hx);have hne:x≠a:=fun z=>(bz.mp nd).1 (z ▸ hx)
   exact (List.mem_erase_of_ne hne).mpr hxk
  rw [List.length_erase_of_mem ha] at ih;have:=List.length_pos_of_mem ha;rw [aN];lia
theorem ke (m:Nat):(jK m).length=m:=by unfold jK;rw [aa,bh]
theorem oN (sp:List Sn):∀ (π:List Nat) (gs:List Int) (tk:List Nat),∃ more,(π.foldl (gn sp) (gs,tk)).2=tk++more
 | [],gs,tk=>⟨[],(de tk).symm⟩
 | j::π,gs,tk=>by
  rw [bM]
  rcases jV sp gs tk j with ⟨_,e⟩ | ⟨_,e⟩ <;> rw [e]
  ·exact oN sp π gs tk
  ·obtain ⟨more,h⟩:=oN sp π (iW gs (tm gs (sAt sp j).s) (tm gs (sAt sp j).g)) (tk++[j])
   exact ⟨j::more,by rw [h,jo];rfl⟩
def kx (sp:List Sn)(l:List Nat):Int:=l.foldl (fun c i=>c * ((wkey sp i).1+1)) 1
theorem prodW_snoc (sp:List Sn)(l:List Nat)(i:Nat):kx sp (l++[i])=kx sp l * ((wkey sp i).1+1):=by unfold kx;rw [b9];rfl
theorem fold_mul (sp:List Sn):∀ (l:List Nat) (c:Int),l.foldl (fun c i=>c * ((wkey sp i).1+1)) c=c * kx sp l
 | [],c=>(Int.mul_one c).symm
 | i::l,c=>by
  unfold kx;rw [bM,bM,fold_mul sp l,fold_mul sp l,Int.one_mul,Int.mul_assoc]
theorem nR (sp:List Sn)(l:List Nat)(i:Nat):kx sp (i::l)=((wkey sp i).1+1) * kx sp l:=by
 show l.foldl _ (1 * ((wkey sp i).1+1))=_;rw [fold_mul,Int.one_mul]
def lkW (l:List (Int×List Stp))(x:Int):Option (List Stp):=(l.find? fun p=>decide (p.1=x)).map (·.2)
theorem kU (p:Int×List Stp)(l:List (Int×List Stp))(x:Int):lkW (p::l) x=if p.1=x then some p.2 else lkW l x:=by
 unfold lkW;rw [gR]
 by_cases e:p.1=x
 ·rw [qN e,qL e];rfl
 ·rw [qO e,qK e]
theorem mI {l:List (Int×List Stp)}(h:lkW l y=none)(x:Int):lkW (l++[(y,ws)]) x=if x=y then some ws else lkW l x:=by
 induction l with
 | nil =>
  show lkW [(y,ws)] x=_;rw [kU]
  by_cases e:x=y
  ·rw [qL e,qL e.symm]
  ·rw [qK e,qK (fun z=>e z.symm)]
 | cons p l ih =>
  rw [kU] at h
  by_cases e:p.1=y
  ·rw [qL e] at h;cases h
  ·rw [qK e] at h
   rw [List.cons_append,kU,kU,ih h]
   by_cases e1:p.1=x
   ·rw [qL e1,qL e1,qK (fun z=>e (e1.trans z))]
   ·rw [qK e1,qK e1]
def stF (tk:List Nat):List Stp:=tk.map (fun i=>⟨i,1⟩)++tk.map (fun i=>⟨i,-1⟩)
def dE (sp:List Sn)(tk:List Nat)(x:Int):List Stp:=(stF tk).filter fun s=>decide (kl sp s=x)
def iA (sp:List Sn)(x:Int)(c:List (Int×List Stp)×List Int)(s:Stp):List (Int×List Stp)×List Int :=
 if lkW c.1 (eY sp s)=none then (c.1++[(eY sp s,(lkW c.1 x).getD []++[s])],c.2++[eY sp s]) else c
def lJ (l:List Int):Int:=l.getLast?.getD 0
def pT (sp:List Sn)(tk:List Nat)(c:List (Int×List Stp)×List Int):List (Int×List Stp)×List Int :=
 (dE sp tk (lJ c.2)).foldl (iA sp (lJ c.2)) (c.1,c.2.dropLast)
def itW (sp:List Sn)(tk:List Nat)(be:Int):Nat→List (Int×List Stp)×List Int
 | 0=>([(be,[])],[be])
 | k+1=>pT sp tk (itW sp tk be k)
def WayR (sp:List Sn)(tk:List Nat)(be en:Int)(p:List Stp):Prop:=∃ k,lkW (itW sp tk be k).1 en=some p∧∀ j,j<k→lkW (itW sp tk be j).1 en=none
structure Pth (sp:List Sn)(tk:List Nat)(be x:Int)(ws:List Stp):Prop where
 inn:∀ s∈ws,s.i∈tk∧s.i<sp.length∧(s.d=1∨s.d= -1)
 alo:oo sp be ws x
 one:(ws.map Stp.i).Nodup
 met:(be::ws.map (eY sp)).Nodup
theorem mem_stF {s:Stp}(h:s∈stF tk):s.i∈tk∧(s.d=1∨s.d= -1):=by
 rcases aH.mp h with h | h
 ·obtain ⟨i,hi,rfl⟩:=bb.mp h;exact ⟨hi,.inl rfl⟩
 ·obtain ⟨i,hi,rfl⟩:=bb.mp h;exact ⟨hi,.inr rfl⟩
structure WI (m:Nat)(sp:List Sn)(tk:List Nat)(be:Int)(c:List (Int×List Stp)×List Int):Prop where
 pth:∀ x ws,lkW c.1 x=some ws→Pth sp tk be x ws∧∀ s∈ws,lkW c.1 (kl sp s)≠none∧lkW c.1 (eY sp s)≠none
 rng:∀ x,lkW c.1 x≠none→0≤x∧x<m
 ahd:∀ x∈c.2,lkW c.1 x≠none
 beg:lkW c.1 be≠none
def Clo (sp:List Sn)(tk:List Nat)(ex:Int→Prop)(c:List (Int×List Stp)×List Int):Prop:=∀ x,lkW c.1 x≠none→x ∉ c.2→¬ ex x→∀ s∈dE sp tk x,lkW c.1 (eY sp s)≠none
def nE (l:List (Int×List Stp)):Nat:=(aF 16).countP fun x=>(lkW l ((x:Nat):Int)).isNone
theorem count_lt' {α:Type}{P Q:α→Bool}:∀ {l:List α},(∀ x∈l,Q x=true→P x=true)→∀ {a:α},a∈l→P a=true→Q a=false→l.countP Q<l.countP P
 | [],_,_,h,_,_=>qM h (by simp)
 | x::l,hPQ,a,h,hP,hQ=>by
  have le:l.countP Q≤l.countP P:=List.countP_mono_left fun y hy=>hPQ y (az _ hy)
  rw [List.countP_cons,List.countP_cons]
  rcases aI.mp h with rfl | h
  ·rw [hP,hQ];simp;lia
  ·have ih:=count_lt' (P:=P) (Q:=Q) (l:=l) (fun y hy=>hPQ y (az _ hy)) h hP hQ
   have:=hPQ x (by simp);cases q:Q x with
   | true=>rw [this q];simp;lia
   | false=>simp;lia
theorem cntW_new {l:List (Int×List Stp)}(h:lkW l y=none)(y0:0≤y)(y1:y<16):nE (l++[(y,ws)])<nE l:=by
 unfold nE;obtain ⟨n,rfl⟩:=cz y0;refine count_lt' (a:=n) (fun x _ hx=>?_) (cg.mpr (by lia)) ?_ ?_
 ·rw [mI h] at hx
  split at hx
  ·cases hx
  ·exact hx
 ·show (lkW l ((n:Nat):Int)).isNone=true
  rw [h];rfl
 ·show (lkW (l++[(((n:Nat):Int),ws)]) ((n:Nat):Int)).isNone=false
  rw [mI h,qL rfl];rfl
theorem jf (E:kG m sp){s:Stp}(hi:s.i<sp.length):0≤eY sp s∧eY sp s<m:=by
 obtain ⟨i,d⟩:=s;have hi:i<sp.length:=hi;rw [kJ hi];obtain ⟨a,b,c,e⟩:=E _ (ba hi);unfold too;split
 ·exact ⟨c,e⟩
 ·exact ⟨a,b⟩
theorem visit_ok {x:Int}(E:kG m sp)(m16:m≤16)(ht:∀ i∈tk,i<sp.length){s:Stp}(I:WI m sp tk be c)(hx:lkW c.1 x≠none)(hs:s∈dE sp tk x)(C:Clo sp tk (· =x) c) :
  WI m sp tk be (iA sp x c s)∧Clo sp tk (· =x) (iA sp x c s)∧lkW (iA sp x c s).1 (eY sp s)≠none∧(∀ y,lkW c.1 y≠none→lkW (iA sp x c s).1 y=lkW c.1 y)∧2 * nE (iA sp x c s).1+(iA sp x c s).2.length≤2 * nE c.1+c.2.length∧(iA sp x c s).1.length+nE (iA sp x c s).1≤c.1.length+nE c.1:=by
 obtain ⟨hs1,hs2⟩:=bS.mp hs;have hfr:kl sp s=x:=qP hs2;obtain ⟨hst,hsd⟩:=mem_stF hs1;have hsn:=ht _ hst;have tr:=jf E hsn;unfold iA
 by_cases e:lkW c.1 (eY sp s)=none
 ·rw [qL e]
  obtain ⟨ws,hws⟩:∃ ws,lkW c.1 x=some ws:=Option.ne_none_iff_exists'.mp hx;have eg:(lkW c.1 x).getD []=ws:=by rw [hws];rfl
  rw [eg];have keep:∀ y,lkW c.1 y≠none→lkW (c.1++[(eY sp s,ws++[s])]) y=lkW c.1 y:=fun y hy=>by
   rw [mI e,qK (fun (z:y=eY sp s)=>hy (by rw [z];exact e))]
  have new:lkW (c.1++[(eY sp s,ws++[s])]) (eY sp s)=some (ws++[s]):=by rw [mI e,qL rfl]
  have more:∀ y,lkW c.1 y≠none→lkW (c.1++[(eY sp s,ws++[s])]) y≠none:=fun y hy=>by rw [keep y hy];exact hy
  obtain ⟨P,K⟩:=I.pth x ws hws;have hne:∀ st∈ws,st.i=s.i→False:=fun st hst' e2=>by
   obtain ⟨k1,k2⟩:=K st hst'
   rcases ends_of_span (sp:=sp) (st:=st) (d:=s.d) hsn e2 (P.inn st hst').2.2 hsd with z | z
   ·have z:eY sp st=eY sp s:=z
    rw [z] at k2;exact k2 e
   ·have z:kl sp st=eY sp s:=z
    rw [z] at k1;exact k1 e
  have hnew:Pth sp tk be (eY sp s) (ws++[s]):=by
   refine ⟨fun st hst'=>?_,P.alo.append ⟨hfr,rfl⟩,?_,?_⟩
   ·rcases aH.mp hst' with h | h
    ·exact P.inn st h
    ·rw [av.mp h];exact ⟨hst,hsn,hsd⟩
   ·rw [aE]
    refine jn.mpr ⟨P.one,by simp,fun a ha b hb e3=>?_⟩;obtain ⟨st,hst',rfl⟩:=bb.mp ha;have hb:b=s.i:=by simpa using hb
    exact hne st hst' (by rw [e3,hb])
   ·rw [aE,←List.cons_append]
    refine jn.mpr ⟨P.met,by simp,fun a ha b hb e3=>?_⟩;have hb:b=eY sp s:=by simpa using hb
    subst hb;subst e3
    rcases aI.mp ha with z | z
    ·rw [z] at e;exact I.beg e
    ·obtain ⟨st,hst',e4⟩:=bb.mp z
     exact (K st hst').2 (by rw [e4];exact e)
  refine ⟨⟨fun y vs hy=>?_,fun y hy=>?_,fun y hy=>?_,more _ I.beg⟩,fun y hy hn ex t ht'=>?_,?_,keep,?_,?_⟩
  ·rw [mI e] at hy
   by_cases ey:y=eY sp s
   ·rw [qL ey] at hy
    cases hy;rw [ey];refine ⟨hnew,fun st hst'=>?_⟩
    rcases aH.mp hst' with h | h
    ·exact ⟨more _ (K st h).1,more _ (K st h).2⟩
    ·rw [av.mp h,hfr]
     exact ⟨more _ hx,by rw [new];exact fun z=>nomatch z⟩
   ·rw [qK ey] at hy
    obtain ⟨P',K'⟩:=I.pth y vs hy;exact ⟨P',fun st h=>⟨more _ (K' st h).1,more _ (K' st h).2⟩⟩
  ·have hy:lkW (c.1++[(eY sp s,ws++[s])]) y≠none:=hy
   rw [mI e] at hy
   by_cases ey:y=eY sp s
   ·rw [ey];exact tr
   ·rw [qK ey] at hy;exact I.rng y hy
  ·rcases aH.mp hy with h | h
   ·exact more _ (I.ahd y h)
   ·rw [av.mp h];show lkW (c.1++[(eY sp s,ws++[s])]) (eY sp s)≠none;rw [new];exact fun z=>nomatch z
  ·have hy:lkW (c.1++[(eY sp s,ws++[s])]) y≠none:=hy
   have hn:y ∉ c.2++[eY sp s]:=hn;have ey:y≠eY sp s:=fun z=>hn (aK _ (av.mpr z))
   rw [mI e,qK ey] at hy;exact more _ (C y hy (fun z=>hn (aJ _ z)) ex t ht')
  ·show lkW (c.1++[(eY sp s,ws++[s])]) (eY sp s)≠none
   rw [new];exact fun z=>nomatch z
  ·have:=cntW_new (ws:=ws++[s]) e tr.1 (by lia)
   show 2 * nE (c.1++[(eY sp s,ws++[s])])+(c.2++[eY sp s]).length≤_;rw [ar];have:[eY sp s].length=1:=rfl;lia
  ·have:=cntW_new (ws:=ws++[s]) e tr.1 (by lia)
   show (c.1++[(eY sp s,ws++[s])]).length+nE (c.1++[(eY sp s,ws++[s])])≤_;rw [ar];have:[(eY sp s,ws++[s])].length=1:=rfl;lia
 ·rw [qK e]
  exact ⟨I,C,e,fun _ _=>rfl,aA _,aA _⟩
theorem oG {m:Nat}{sp:List Sn}{tk:List Nat}{be x:Int}(E:kG m sp)(m16:m≤16)(ht:∀ i∈tk,i<sp.length):∀ {L:List Stp} {c:List (Int×List Stp)×List Int},WI m sp tk be c→lkW c.1 x≠none→(∀ s∈L,s∈dE sp tk x)→Clo sp tk (· =x) c →
  WI m sp tk be (L.foldl (iA sp x) c)∧Clo sp tk (· =x) (L.foldl (iA sp x) c)∧(∀ s∈L,lkW (L.foldl (iA sp x) c).1 (eY sp s)≠none)∧(∀ y,lkW c.1 y≠none→lkW (L.foldl (iA sp x) c).1 y=lkW c.1 y)∧2 * nE (L.foldl (iA sp x) c).1+(L.foldl (iA sp x) c).2.length≤2 * nE c.1+c.2.length∧(L.foldl (iA sp x) c).1.length+nE (L.foldl (iA sp x) c).1≤c.1.length+nE c.1
 | [],c,I,_,_,C=>⟨I,C,fun _ h=>(by cases h),fun _ _=>rfl,aA _,aA _⟩
 | s::L,c,I,hx,hL,C=>by
  obtain ⟨a1,a2,a3,a4,a5,a6⟩:=visit_ok E m16 ht I hx (hL s bJ) C;obtain ⟨b1,b2,b3,b4,b5,b6⟩:=oG E m16 ht (L:=L) a1 (by rw [a4 x hx];exact hx) (fun t h=>hL t (az _ h)) a2;rw [bM];refine ⟨b1,b2,fun t h=>?_,fun y hy=>?_,aM b5 a5,aM b6 a6⟩
  ·rcases aI.mp h with rfl | h
   ·rw [b4 _ a3];exact a3
   ·exact b3 t h
  ·rw [b4 y (by rw [a4 y hy];exact hy),a4 y hy]
theorem turn_ok (E:kG m sp)(m16:m≤16)(ht:∀ i∈tk,i<sp.length)(I:WI m sp tk be c)(C:Clo sp tk (fun _=>False) c)(hne:c.2≠[]) :
  WI m sp tk be (pT sp tk c)∧Clo sp tk (fun _=>False) (pT sp tk c)∧2 * nE (pT sp tk c).1+(pT sp tk c).2.length<2 * nE c.1+c.2.length∧(pT sp tk c).1.length+nE (pT sp tk c).1≤c.1.length+nE c.1:=by
 have hl:c.2.getLast? =some (c.2.getLast hne):=List.getLast?_eq_some_getLast hne;have e0:c.2=c.2.dropLast++[lJ c.2]:=by
  unfold lJ;rw [hl];exact (List.dropLast_concat_getLast hne).symm
 have hmem:lJ c.2∈c.2:=by rw [e0];unfold lJ;simp
 have hx:=I.ahd _ hmem;have I0:WI m sp tk be (c.1,c.2.dropLast):=⟨I.pth,I.rng,fun y hy=>I.ahd y ((List.dropLast_sublist _).subset hy),I.beg⟩;have C0:Clo sp tk (· =lJ c.2) (c.1,c.2.dropLast):=fun y hy hn ex t ht'=>C y hy (fun z=>by
  rw [e0] at z
  rcases aH.mp z with z | z
  ·exact hn z
  ·exact ex (av.mp z)) (fun z=>z) t ht'
 obtain ⟨b1,b2,b3,b4,b5,b6⟩:=oG E m16 ht (L:=dE sp tk (lJ c.2)) I0 hx (fun _ h=>h) C0;refine ⟨b1,fun y hy hn _ t ht'=>?_,?_,b6⟩
 ·by_cases e:y=lJ c.2
  ·subst e;exact b3 t ht'
  ·exact b2 y hy hn e t ht'
 ·have l1:c.2.dropLast.length+1=c.2.length:=by
   have:=qQ List.length e0;rw [ar] at this;exact this.symm
  have b5:2 * nE (pT sp tk c).1+(pT sp tk c).2.length≤2 * nE c.1+c.2.dropLast.length:=b5;lia
theorem start_ok (b0:0≤be)(b1:be<m):WI m sp tk be ([(be,[])],[be])∧Clo sp tk (fun _=>False) ([(be,[])],[be]):=by
 have lk:∀ x,lkW [(be,[])] x=if be=x then some [] else none:=fun x=>by rw [kU];rfl
 have kb:∀ x,lkW [(be,([]:List Stp))] x≠none→x=be:=fun x h=>by
  rw [lk] at h
  by_cases e:be=x
  ·exact e.symm
  ·rw [qK e] at h;exact qM rfl h
 have kn:lkW [(be,([]:List Stp))] be≠none:=by rw [lk,qL rfl];exact fun z=>nomatch z
 refine ⟨⟨fun x ws h=>?_,fun x h=>by rw [kb x h];exact ⟨b0,b1⟩,fun x h=>by rw [av.mp h];exact kn,kn⟩,fun x h hn=>?_⟩
 ·have h:lkW [(be,[])] x=some ws:=h
  rw [lk] at h
  by_cases e:be=x
  ·rw [qL e] at h
   cases h;exact ⟨⟨fun _ h=>(nomatch h),e,jk,bz.mpr ⟨fun h=>(nomatch h),jk⟩⟩,fun _ h=>(nomatch h)⟩
  ·rw [qK e] at h;cases h
 ·exact qM (av.mpr (kb x h)) hn
def qJ (sp:List Sn)(tk:List Nat)(be en:Int):Prop:=∀ S:Int→Prop,(∀ i∈tk,S (sAt sp i).s↔S (sAt sp i).g)→S be→S en
theorem pJ (h:i<sp.length):kl sp ⟨i,1⟩=(sAt sp i).s∧eY sp ⟨i,1⟩=(sAt sp i).g∧kl sp ⟨i,-1⟩=(sAt sp i).g∧eY sp ⟨i,-1⟩=(sAt sp i).s:=by
 have e:sAt sp i=sp[i]:=by unfold sAt;rw [ai,gE h];rfl
 rw [mK h,kJ h,mK h,kJ h,e];unfold frm too;exact ⟨rfl,rfl,rfl,rfl⟩
theorem left_of {en:Int}(ht:∀ i∈tk,i<sp.length)(hh:qJ sp tk be en)(I:WI m sp tk be c)(C:Clo sp tk (fun _=>False) c)(hn:lkW c.1 en=none):c.2≠[]:=fun z=>by
 refine hh (fun x=>lkW c.1 x≠none) (fun i hi=>?_) I.beg hn;have hin:=ht i hi;obtain ⟨f1,f2,f3,f4⟩:=pJ hin;have m1:(⟨i,1⟩:Stp)∈dE sp tk (sAt sp i).s:=bS.mpr ⟨aJ _ (bb.mpr ⟨i,hi,rfl⟩),qN f1⟩;have m2:(⟨i,-1⟩:Stp)∈dE sp tk (sAt sp i).g:=bS.mpr ⟨aK _ (bb.mpr ⟨i,hi,rfl⟩),qN f3⟩
 constructor
 ·intro h
  have:=C _ h (by rw [z];exact cn) (fun z=>z) _ m1;rw [f2] at this;exact this
 ·intro h
  have:=C _ h (by rw [z];exact cn) (fun z=>z) _ m2;rw [f4] at this;exact this
theorem held_of {m:Nat}{sp:List Sn}(E:kG m sp)(S:Int→Prop):∀ (π:List Nat) (gs:List Int) (tk:List Nat),gs.length=m→(∀ i∈π,i<sp.length)→(∀ i∈(π.foldl (gn sp) (gs,tk)).2,S (sAt sp i).s↔S (sAt sp i).g) →
  (∀ x y:Int,0≤x→x<m→0≤y→y<m→tm gs x=tm gs y→(S x↔S y))→∀ x y:Int,0≤x→x<m→0≤y→y<m→tm (π.foldl (gn sp) (gs,tk)).1 x=tm (π.foldl (gn sp) (gs,tk)).1 y→(S x↔S y)
 | [],_,_,_,_,_,h=>h
 | j::π,gs,tk,l,hp,hS,h=>by
  rw [bM] at hS ⊢;obtain ⟨a0,a1,b0,b1⟩:=E _ (fc (hp j bJ));have hp':∀ i∈π,i<sp.length:=fun k hk=>hp k (az _ hk)
  rcases jV sp gs tk j with ⟨_,e⟩ | ⟨_,e⟩ <;> rw [e] at hS ⊢
  ·exact held_of E S π gs tk l hp' hS h
  ·refine held_of E S π _ _ (by rw [lL];exact l) hp' hS fun x y x0 x1 y0 y1 hxy=>?_
   obtain ⟨more,hm⟩:=oN sp π (iW gs (tm gs (sAt sp j).s) (tm gs (sAt sp j).g)) (tk++[j]);have hj:=hS j (by rw [hm];simp);rw [kK x0 (by lia),kK y0 (by lia)] at hxy
   by_cases e1:tm gs x=tm gs (sAt sp j).g
   ·have f1:=h x _ x0 x1 b0 b1 e1
    rw [qL e1] at hxy
    by_cases e2:tm gs y=tm gs (sAt sp j).g
    ·exact f1.trans (h y _ y0 y1 b0 b1 e2).symm
    ·rw [qK e2] at hxy
     exact f1.trans (hj.symm.trans (h _ y a0 a1 y0 y1 hxy))
   ·rw [qK e1] at hxy
    by_cases e2:tm gs y=tm gs (sAt sp j).g
    ·rw [qL e2] at hxy
     exact (h x _ x0 x1 a0 a1 hxy).trans (hj.trans (h y _ y0 y1 b0 b1 e2).symm)
    ·rw [qK e2] at hxy
     exact h x y x0 x1 y0 y1 hxy
theorem held_span (E:kG m sp)(O:Ordd sp π)(pm:l.Perm (kB sp m π).2){k:Nat}(hk:k<sp.length):qJ sp l (sAt sp k).g (sAt sp k).s:=by
 intro S hS hg;have hp:∀ i∈π,i<sp.length:=fun i hi=>O.lt hi
 obtain ⟨a0,a1,b0,b1⟩:=E _ (fc hk);refine (held_of E S π (jK m) [] (ke m) hp (fun i hi=>hS i (pm.mem_iff.mpr hi)) (fun x y x0 x1 y0 y1 h=>?_) _ _ a0 a1 b0 b1 (l3 E π (jK m) [] (ke m) hp k (O.1.mem_iff.mpr (cg.mpr hk)))).mpr hg;rw [mm x0 x1,mm y0 y1] at h;rw [h]
theorem WayR.pth {en:Int}(E:kG m sp)(m16:m≤16)(ht:∀ i∈tk,i<sp.length)(b0:0≤be)(b1:be<m)(hh:qJ sp tk be en){p:List Stp}(h:WayR sp tk be en p):Pth sp tk be en p:=by
 obtain ⟨k,h1,h2⟩:=h;have key:∀ j,j≤k→WI m sp tk be (itW sp tk be j)∧Clo sp tk (fun _=>False) (itW sp tk be j):=by
  intro j
  induction j with
  | zero=>intro _;exact start_ok b0 b1
  | succ j ih =>
   intro hj;obtain ⟨I,C⟩:=ih (by lia);obtain ⟨a,b,_⟩:=turn_ok E m16 ht I C (left_of ht hh I C (h2 j (by lia)));exact ⟨a,b⟩
 exact ((key k (aA _)).1.pth en p h1).1
theorem Pth.len {en:Int}{p:List Stp}(E:kG m sp)(b0:0≤be)(b1:be<m)(h:Pth sp tk be en p):p.length+1≤m:=by
 have:=lG h.met (k:=jK m) fun x hx=>by
  have key:∀ x:Int,0≤x→x<m→x∈jK m:=fun x x0 x1=>by
   unfold jK;exact bb.mpr ⟨x.toNat,cg.mpr (by lia),fJ x0⟩
  rcases aI.mp hx with rfl | hx
  ·exact key _ b0 b1
  ·obtain ⟨s,hs,rfl⟩:=bb.mp hx
   have t:=jf E (h.inn s hs).2.1;exact key _ t.1 t.2
 rw [aN,aa,ke] at this;exact this
def lg (pr:Int)(ps:List Int)(s:Stp):List Int:=ps.set s.i (ps.getD s.i 0 - pr * s.d)
def rowP (ps:List Int)(r:Int×List Stp):List Int:=r.2.foldl (lg r.1) ps
def ownM (sp:List Sn)(rows:List (Int×List Stp)):List Int:=rows.foldl rowP (sp.map Sn.w)
theorem oK {pr:Int}:∀ (ws:List Stp) (ps:List Int),(ws.foldl (lg pr) ps).length=ps.length
 | [],_=>rfl
 | s::ws,ps=>by
  rw [bM,oK ws];unfold lg;rw [e8]
def hasS (k:Nat)(d:Int)(ws:List Stp):Bool:=ws.any fun s=>decide (s.i=k) && decide (s.d=d)
def ownV (k:Nat)(acc pr:Int)(ws:List Stp):Int:=if hasS k (-1) ws=true then (if hasS k 1 ws=true then acc - pr else acc)+pr else (if hasS k 1 ws=true then acc - pr else acc)
def ownS (k:Nat)(acc:Int)(r:Int×List Stp):Int:=ownV k acc r.1 r.2
theorem hasS_no {k:Nat}{d:Int}:∀ {ws:List Stp},k ∉ ws.map Stp.i→hasS k d ws=false
 | [],_=>rfl
 | s::ws,h=>by
  show (decide (s.i=k) && decide (s.d=d) || hasS k d ws)=false;rw [hasS_no (ws:=ws) fun z=>h (by rw [bR];exact az _ z),qO (fun z=>h (by rw [bR,z];simp))];rfl
theorem steps_at {k:Nat}{pr:Int}:∀ (ws:List Stp) (ps:List Int),k<ps.length→(∀ s∈ws,s.d=1∨s.d= -1)→(ws.map Stp.i).Nodup→(ws.foldl (lg pr) ps).getD k 0=ownV k (ps.getD k 0) pr ws
 | [],_,_,_,_=>rfl
 | s::ws,ps,hk,hd,hn=>by
  rw [bR,bz] at hn;rw [bM,steps_at ws _ (by unfold lg;rw [e8];exact hk) (fun t ht=>hd t (az _ ht)) hn.2]
  by_cases e:s.i=k
  ·have h0:∀ d,hasS k d ws=false:=fun d=>hasS_no (by rw [←e];exact hn.1)
   have h1:∀ d,hasS k d (s::ws)=decide (s.d=d):=fun d=>by
    show (decide (s.i=k) && decide (s.d=d) || hasS k d ws)=_;rw [h0,qN e];simp
   have h2:(lg pr ps s).getD k 0=ps.getD k 0 - pr * s.d:=by
    unfold lg;rw [e,ai,dN hk];rfl
   unfold ownV;rw [h0,h0,h1,h1,h2]
   rcases hd s (by simp) with d1 | d1
   ·rw [d1];simp
   ·rw [d1];simp
  ·have h1:∀ d,hasS k d (s::ws)=hasS k d ws:=fun d=>by
    show (decide (s.i=k) && decide (s.d=d) || hasS k d ws)=_;rw [qO e];simp
   have h2:(lg pr ps s).getD k 0=ps.getD k 0:=by
    unfold lg;rw [ai,dH e,←ai]
   unfold ownV;rw [h1,h1,h2]
structure RwOk (n:Nat)(r:Int×List Stp):Prop where
 inn:pW n r.2
 one:(r.2.map Stp.i).Nodup
 few:r.2.length≤17
 lo: -1000000000000≤r.1
 hi:r.1≤1000000000000
theorem oV {k n:Nat}:∀ (rows:List (Int×List Stp)) (ps:List Int),k<ps.length→(∀ r∈rows,RwOk n r)→(rows.foldl rowP ps).getD k 0=rows.foldl (ownS k) (ps.getD k 0)
 | [],_,_,_=>rfl
 | r::rows,ps,hk,h=>by
  have hr:=h r (by simp);rw [bM,bM,oV rows _ (by show k<(r.2.foldl (lg r.1) ps).length;rw [oK];exact hk) fun t ht=>h t (az _ ht)];congr 1;exact steps_at r.2 ps hk (fun s hs=>(hr.inn s hs).2) hr.one
def wOf (sp:List Sn)(k:Nat):Int:=match sp[k]? with | some x=>x.w | none=>0
def lOf (sp:List Sn)(k:Nat):Int:=match sp[k]? with | some x=>x.l | none=>0
def owK (sp:List Sn)(rows:List (Int×List Stp))(k:Nat):Int:=rows.foldl (ownS k) (wOf sp k)
theorem own_at {k:Nat}(hk:k<sp.length)(h:∀ r∈rows,RwOk n r):(ownM sp rows).getD k 0=owK sp rows k:=by
 unfold ownM owK;rw [oV rows _ (by rw [aa];exact hk) h];congr 1;unfold wOf;rw [ai,ay,gE hk];rfl
def termW (sp:List Sn)(bs:List (Int×Int))(rows:List (Int×List Stp))(k:Nat):Int:=owK sp rows k * (if owK sp rows k<0 then (bs.getD k (0,0)).2 else (bs.getD k (0,0)).1) - wOf sp k * lOf sp k
def rowsW (b:Int)(bs:List (Int×Int))(rows:List (Int×List Stp)):Int:=(rows.map fun r=>r.1 * upB b (fZ bs r.2) * b).sum
def worthM (b:Int)(sp:List Sn)(bs:List (Int×Int))(rows:List (Int×List Stp)):Int:=rowsW b bs rows+((aF sp.length).map (termW sp bs rows)).sum
end HN
namespace L2
open PySem PySem.Spec PyProof.Rows
theorem compT_lst {Q:VK}(Pv:Nat→List V→Hp→Prop)(h0:Pv 0 [] H)(hl:∀ i ys H,i≤xs.length→Pv i ys H→SqL K H a xs∧ys.length≤i)(hz:xs.length≤aZ)
  (hs:∀ i v ys H,xs[i]? =some v→Pv i ys H→∃ q x y,v= .ref q∧H q=some (.tup [x,y])∧tt (some x::some y::cQ σ js) H fun b H4=>if b=true then te (some x::some y::cQ σ js) H4 fun z H5=>Pv (i+1) (ys++[z]) H5 else Pv (i+1) ys H4)
  (hd:∀ ys H,Pv xs.length ys H→∀ D,H D=none→Q (.ref D) (upd H D (.lst ys))):nJ 2 (gPair K) js tt te σ Q (Itl K a) H:=by
 refine ⟨fun i m ys H=>i≤xs.length∧m=xs.length - i∧Pv i ys H,⟨_,bg _,rfl,h0⟩,fun i m ys H2 z=>?_⟩;obtain ⟨hi,hm,hp⟩:=z;obtain ⟨hq,hy⟩:=hl i ys H2 hi hp
 by_cases e:i=xs.length
 ·subst e
  exact .inl ⟨⟨xs,hq,aA _⟩,hd ys H2 hp⟩
 ·have hlt:i<xs.length:=dI hi e
  refine .inr ⟨⟨xs,_,hq,gE hlt⟩,by lia,Pv (i+1),fun ys' H' hp'=>⟨xs.length - (i+1),by lia,by lia,rfl,hp'⟩,fun v H3 hy3 v0 hv0=>?_⟩;obtain ⟨e3,hx⟩:=hy3;subst e3;obtain ⟨q,x,y,rfl,hq2,k⟩:=hs i v ys H3 (hx xs hq) hp
  match v0,hv0 with
  | [v1,v2],_=>exact ⟨q,_,rfl,SqT.of hq2,rfl,_,_,rfl,_,_,rfl,rfl,⟨[some x,some y],rfl,rfl⟩,k⟩
end L2
namespace HN
open PySem L2 PyProof.Rows
def mr (f:Nat→Int):Nat→Int
 | 0=>0
 | n+1=>mr f n+f n
theorem p7 (f:Nat→Int):∀ n,((aF n).map f).sum=mr f n
 | 0=>rfl
 | n+1=>by
  rw [fF,aE,List.sum_append,p7 f n];show mr f n+(f n+0)=mr f n+f n;lia
theorem ox (f g:Nat→Int):∀ n,mr (fun k=>f k+g k) n=mr f n+mr g n
 | 0=>rfl
 | n+1=>by
  show mr (fun k=>f k+g k) n+(f n+g n)=(mr f n+f n)+(mr g n+g n);rw [ox f g n];lia
theorem ow (c:Int)(f:Nat→Int):∀ n,mr (fun k=>c * f k) n=c * mr f n
 | 0=>(iN c).symm
 | n+1=>by
  show mr (fun k=>c * f k) n+c * f n=c * (mr f n+f n);rw [ow c f n,j6]
theorem jT {f g:Nat→Int}:∀ n,(∀ k,k<n→f k=g k)→mr f n=mr g n
 | 0,_=>rfl
 | n+1,h=>by
  show mr f n+f n=mr g n+g n;rw [jT n fun k hk=>h k (by lia),h n (by lia)]
theorem sumN_none {i:Nat}{c:Int}{y:Nat→Int}:∀ n,n≤i→mr (fun k=>(if i=k then c else 0) * y k) n=0
 | 0,_=>rfl
 | n+1,h=>by
  show mr (fun k=>(if i=k then c else 0) * y k) n+(if i=n then c else 0) * y n=0;rw [sumN_none n (by lia),qK (by lia),gk];rfl
theorem sumN_one {i:Nat}{c:Int}{y:Nat→Int}:∀ n,i<n→mr (fun k=>(if i=k then c else 0) * y k) n=c * y i
 | 0,h=>qM h (by lia)
 | n+1,h=>by
  show mr (fun k=>(if i=k then c else 0) * y k) n+(if i=n then c else 0) * y n=c * y i
  by_cases e:i=n
  ·subst e
   rw [sumN_none i (aA _),qL rfl,iM]
  ·rw [sumN_one n (by lia),qK e,gk,Int.add_zero]
theorem sumN_list {α:Type}(f:α→Int)(xs:List α):∀ n,n≤xs.length→((xs.take n).map f).sum=mr (fun k=>match xs[k]? with | some x=>f x | none=>0) n
 | 0,_=>rfl
 | n+1,h=>by
  rw [bj,gE (by lia),aE,List.sum_append,sumN_list f xs n (by lia)];show _+(f xs[n]+0)=mr _ n+(match xs[n]? with | some x=>f x | none=>0);rw [gE (by lia)];show _+(f xs[n]+0)=_+f xs[n];lia
def sg (k:Nat):List Stp→Int
 | []=>0
 | s::ws=>(if s.i=k then s.d else 0)+sg k ws
def alg (y:Nat→Int):List Stp→Int
 | []=>0
 | s::ws=>s.d * y s.i+alg y ws
theorem fold_sg {k:Nat}{pr:Int}:∀ (ws:List Stp) (ps:List Int),k<ps.length→(ws.foldl (lg pr) ps).getD k 0=ps.getD k 0 - pr * sg k ws
 | [],ps,_=>by show ps.getD k 0=ps.getD k 0 - pr * 0;rw [iN,Int.sub_zero]
 | s::ws,ps,hk=>by
  rw [bM,fold_sg ws _ (by unfold lg;rw [e8];exact hk)];show _=ps.getD k 0 - pr * ((if s.i=k then s.d else 0)+sg k ws);rw [j6]
  by_cases e:s.i=k
  ·have h2:(lg pr ps s).getD k 0=ps.getD k 0 - pr * s.d:=by
    unfold lg;rw [e,ai,dN hk];rfl
   rw [h2,qL e];lia
  ·have h2:(lg pr ps s).getD k 0=ps.getD k 0:=by
    unfold lg;rw [ai,dH e,←ai]
   rw [h2,qK e,iN];lia
def sgR (k:Nat):List (Int×List Stp)→Int
 | []=>0
 | r::rows=>r.1 * sg k r.2+sgR k rows
theorem rows_sg {k:Nat}:∀ (rows:List (Int×List Stp)) (ps:List Int),k<ps.length→(rows.foldl rowP ps).getD k 0=ps.getD k 0 - sgR k rows
 | [],ps,_=>by show ps.getD k 0=ps.getD k 0 - 0;rw [Int.sub_zero]
 | r::rows,ps,hk=>by
  rw [bM,rows_sg rows _ (by show k<(r.2.foldl (lg r.1) ps).length;rw [oK];exact hk)];show (r.2.foldl (lg r.1) ps).getD k 0 - sgR k rows=ps.getD k 0 - (r.1 * sg k r.2+sgR k rows);rw [fold_sg r.2 ps hk];lia
theorem owK_sg {k:Nat}(hk:k<sp.length)(h:∀ r∈rows,RwOk n r):owK sp rows k=wOf sp k - sgR k rows:=by
 rw [←own_at hk h];unfold ownM;rw [rows_sg rows _ (by rw [aa];exact hk)];congr 1;unfold wOf;rw [ai,ay,gE hk];rfl
theorem sum_sg {y:Nat→Int}{n:Nat}:∀ (ws:List Stp),(∀ s∈ws,s.i<n)→mr (fun k=>sg k ws * y k) n=alg y ws
 | [],_=>by
  show mr (fun k=>0 * y k) n=0;rw [jT (g:=fun _=>0 * 0) n fun k _=>by rw [gk,gk],ow 0 (fun _=>0) n,gk]
 | s::ws,h=>by
  show mr (fun k=>((if s.i=k then s.d else 0)+sg k ws) * y k) n=s.d * y s.i+alg y ws;rw [jT (g:=fun k=>(if s.i=k then s.d else 0) * y k+sg k ws * y k) n fun k _=>Int.add_mul ..,ox,sumN_one n (h s (by simp)),sum_sg ws fun t ht=>h t (az _ ht)]
def algR (y:Nat→Int):List (Int×List Stp)→Int
 | []=>0
 | r::rows=>r.1 * alg y r.2+algR y rows
theorem sum_sgR {y:Nat→Int}{n:Nat}:∀ (rows:List (Int×List Stp)),(∀ r∈rows,∀ s∈r.2,s.i<n)→mr (fun k=>sgR k rows * y k) n=algR y rows
 | [],_=>by
  show mr (fun k=>0 * y k) n=0;rw [jT (g:=fun _=>0 * 0) n fun k _=>by rw [gk,gk],ow 0 (fun _=>0) n,gk]
 | r::rows,h=>by
  show mr (fun k=>(r.1 * sg k r.2+sgR k rows) * y k) n=r.1 * alg y r.2+algR y rows;rw [jT (g:=fun k=>r.1 * (sg k r.2 * y k)+sgR k rows * y k) n fun k _=>by rw [Int.add_mul,Int.mul_assoc],ox,ow,sum_sg r.2 (h r (by simp)),sum_sgR rows fun t ht=>h t (az _ ht)]
def j3 (b:Int)(ts:List Int)(sp:List Sn)(k:Nat):Int:=match sp[k]? with | some x=>x.l+iq b ts x | none=>0
def InB (y:Nat→Int)(bs:List (Int×Int)):Prop:=∀ k,k<bs.length→(bs.getD k (0,0)).1≤y k∧y k≤(bs.getD k (0,0)).2
theorem lay_in (hb:0<b)(hf:lr b ts sp=true):InB (j3 b ts sp) (sp.map fun x=>(x.l,x.o)):=fun k hk=>by
 rw [aa] at hk;have e:(sp.map fun x=>(x.l,x.o)).getD k (0,0)=(sp[k].l,sp[k].o):=by
  rw [ai,ay,gE hk];rfl
 have e2:j3 b ts sp k=sp[k].l+iq b ts sp[k]:=by
  unfold j3;rw [gE hk]
 rw [e,e2];have h0:0≤iq b ts sp[k]:=by unfold iq;exact fb _ (by lia)
 have h1:¬ (sp[k].o - sp[k].l<iq b ts sp[k]):=by
  unfold lr at hf;rw [jr,jq] at hf;have:=hf sp[k] (ba hk);unfold brk at this
  simpa using this
 exact ⟨by show sp[k].l≤_;lia,by show _≤sp[k].o;lia⟩
theorem inB_one {y:Nat→Int}{bs:List (Int×Int)}{k:Nat}{a:Int}(h:InB y bs)(ha:y k≤a):InB y (km bs k a):=fun j hj=>by
 rw [one_len] at hj;have hh:=h j hj;unfold km;rw [ai]
 by_cases e:k=j
 ·subst e
  rw [dN hj];exact ⟨hh.1,ha⟩
 ·rw [dH e,←ai]
  exact hh
theorem inB_other {y:Nat→Int}{bs:List (Int×Int)}{k:Nat}{a:Int}(h:InB y bs)(ha:a+1≤y k):InB y (dX bs k a):=fun j hj=>by
 rw [mZ] at hj;have hh:=h j hj;unfold dX;rw [ai]
 by_cases e:k=j
 ·subst e
  rw [dN hj];exact ⟨ha,hh.2⟩
 ·rw [dH e,←ai]
  exact hh
theorem alg_way {b:Int}{ts:List Int}{sp:List Sn}:∀ (ws:List Stp) (x z:Int),pW sp.length ws→oo sp x ws z→∃ Z,alg (j3 b ts sp) ws=tm ts z - tm ts x+b * Z
 | [],x,z,_,h=>by
  have h:x=z:=h;subst h;exact ⟨0,by show (0:Int)=_;rw [iN];lia⟩
 | s::ws,x,z,hw,h=>by
  obtain ⟨h1,h2⟩:=h;obtain ⟨Z,hZ⟩:=alg_way (b:=b) (ts:=ts) ws _ z (fun t ht=>hw t (az _ ht)) h2;obtain ⟨hs,hd⟩:=hw s (by simp);obtain ⟨i,d⟩:=s;have hs:i<sp.length:=hs;have hd:d=1∨d= -1:=hd;have e2:j3 b ts sp i=sp[i].l+iq b ts sp[i]:=by
   unfold j3;rw [gE hs]
  have hm:=hI (tm ts sp[i].g - tm ts sp[i].s - sp[i].l) b;show ∃ Z,d * j3 b ts sp i+alg (j3 b ts sp) ws=_;rw [hZ,e2];unfold iq;rw [kJ hs] at *;rw [mK hs] at h1;unfold frm at h1;unfold too at *;generalize (tm ts sp[i].g - tm ts sp[i].s - sp[i].l) / b=q at hm;generalize (tm ts sp[i].g - tm ts sp[i].s - sp[i].l) % b=r at hm ⊢
  rcases hd with rfl | rfl
  ·rw [qL rfl] at h1 ⊢
   subst h1;exact ⟨Z - q,by rw [i9];lia⟩
  ·rw [qK (by decide)] at h1 ⊢
   subst h1;exact ⟨Z+q,by rw [j6 b Z q];lia⟩
theorem alg_lo {y:Nat→Int}{bs:List (Int×Int)}(h:InB y bs):∀ (ws:List Stp),pW bs.length ws→fZ bs ws≤alg y ws∧alg y ws≤iB bs ws
 | [],_=>⟨gm _,gm _⟩
 | s::ws,hw=>by
  obtain ⟨i1,i2⟩:=alg_lo h ws fun t ht=>hw t (az _ ht)
  obtain ⟨hs,hd⟩:=hw s (by simp);obtain ⟨b1,b2⟩:=h s.i hs;have e:bs.getD s.i (0,0)=bs[s.i]:=by rw [ai,gE hs];rfl
  rw [e] at b1 b2;have e1:fZ bs (s::ws)=lowS bs s+fZ bs ws:=rfl;have e2:iB bs (s::ws)=lN bs s+iB bs ws:=rfl;have f1:lowS bs s=if s.d=1 then bs[s.i].1 else -bs[s.i].2:=by unfold lowS;rw [gE hs]
  have f2:lN bs s=if s.d=1 then bs[s.i].2 else -bs[s.i].1:=by unfold lN;rw [gE hs]
  rw [e1,e2,f1,f2];show _≤s.d * y s.i+alg y ws∧s.d * y s.i+alg y ws≤_
  rcases hd with d1 | d1
  ·rw [d1,qL rfl,qL rfl];lia
  ·rw [d1,qK (by decide),qK (by decide)];lia
theorem ring_in {bs:List (Int×Int)}(hb:0<b)(hl:bs.length=sp.length)(h:InB (j3 b ts sp) bs)(hr:Rg sp ws) :
  ∃ Z,alg (j3 b ts sp) ws=b * Z∧upB b (fZ bs ws)≤Z∧Z≤iB bs ws / b:=by
 obtain ⟨x,hx⟩:=hr.rnd;obtain ⟨Z,hZ⟩:=alg_way (b:=b) (ts:=ts) ws x x hr.inn hx;obtain ⟨l1,l2⟩:=alg_lo h ws (by rw [hl];exact hr.inn);have e:alg (j3 b ts sp) ws=b * Z:=by lia
 rw [e] at l1 l2;refine ⟨Z,e,?_,?_⟩
 ·unfold upB
  have: -Z≤ -fZ bs ws / b:=by
   rw [Int.le_ediv_iff_mul_le hb,Int.neg_mul,Int.mul_comm Z b];lia
  lia
 ·rw [Int.le_ediv_iff_mul_le hb,Int.mul_comm Z b];exact l2
theorem wait_sum:waitOfM b ts sp=mr (fun k=>wOf sp k * j3 b ts sp k - wOf sp k * lOf sp k) sp.length:=by
 unfold waitOfM;have:=sumN_list (fun x:Sn=>x.w * iq b ts x) sp sp.length (aA _);rw [bq] at this;rw [this];refine jT _ fun k hk=>?_
 unfold wOf j3 lOf;rw [gE hk];show sp[k].w * iq b ts sp[k]=sp[k].w * (sp[k].l+iq b ts sp[k]) - sp[k].w * sp[k].l;rw [j6];lia
theorem rows_in {b:Int}{ts:List Int}{sp:List Sn}{bs:List (Int×Int)}(hb:0<b)(hl:bs.length=sp.length)(h:InB (j3 b ts sp) bs):∀ (rows:List (Int×List Stp)),(∀ r∈rows,RowOk b sp bs r)→algR (j3 b ts sp) rows=rowsW b bs rows
 | [],_=>rfl
 | r::rows,hr=>by
  obtain ⟨h1,h2,_⟩:=hr r (by simp);obtain ⟨Z,e,z1,z2⟩:=ring_in hb hl h h1;have h2:=qP h2;have ez:Z=upB b (fZ bs r.2):=by lia
  have ih:=rows_in hb hl h rows fun t ht=>hr t (az _ ht)
  have e3:rowsW b bs (r::rows)=r.1 * upB b (fZ bs r.2) * b+rowsW b bs rows:=rfl;show r.1 * alg (j3 b ts sp) r.2+algR (j3 b ts sp) rows=_;rw [e3,ih,e,ez,Int.mul_comm b,Int.mul_assoc]
def k7 (b:Nat)(tt:List (List Int)):List (List Int):=tt.flatMap fun t=>(aF b).map fun c:Nat=>t++[(0:Int)+(c:Nat)]
def nG (b:Nat):Nat→List (List Int)
 | 0=>[[]]
 | n+1=>k7 b (nG b n)
theorem qq (b:Nat):∀ tt:List (List Int),(k7 b tt).length=b * tt.length
 | []=>by show 0=b * 0;rw [Nat.mul_zero]
 | t::tt=>by
  have e:k7 b (t::tt)=((aF b).map fun c:Nat=>t++[(0:Int)+(c:Nat)])++k7 b tt:=by unfold k7;rw [List.flatMap_cons]
  rw [e,ar,qq b tt,aa,bh,aN,Nat.mul_add];lia
theorem allT_len (b:Nat):∀ n,(nG b n).length≤b ^ n
 | 0=>by show 1≤1;decide
 | n+1=>by
  show (k7 b (nG b n)).length≤_;rw [qq,Nat.pow_succ,iJ];exact Nat.mul_le_mul_right b (allT_len b n)
theorem nF (b:Nat):∀ n,∀ t∈nG b n,t.length=n
 | 0,t,h=>by rw [av.mp h];rfl
 | n+1,t,h=>by
  obtain ⟨t',h1,h2⟩:=List.mem_flatMap.mp (show t∈k7 b (nG b n) from h);obtain ⟨c,_,rfl⟩:=bb.mp h2;rw [ar,nF b n t' h1];rfl
theorem qJ.more {tk':List Nat}{x:Int}(h:∀ i∈tk,i∈tk')(k:qJ sp tk x y):qJ sp tk' x y:=fun S hS=>k S fun i hi=>hS i (h i hi)
theorem qJ.trans {x:Int}(a:qJ sp tk x y)(c:qJ sp tk y z):qJ sp tk x z:=fun S hS h=>c S hS (a S hS h)
theorem qJ.symm {x:Int}(a:qJ sp tk x y):qJ sp tk y x:=fun S hS h=>dJ fun n=>a (fun z=>¬ S z) (fun i hi=>not_congr (hS i hi)) n h
inductive Acy (sp:List Sn):List Nat→Prop where
 | nil:Acy sp []
 | snoc {tk:List Nat} {k:Nat} (h:Acy sp tk) (hk:k<sp.length) (s:∃ S:Int→Prop,(∀ i∈tk,S (sAt sp i).s↔S (sAt sp i).g)∧S (sAt sp k).s∧¬ S (sAt sp k).g):Acy sp (tk++[k])
theorem Acy.pot (h:Acy sp tk)(y:Nat→Int):∃ π:Int→Int,∀ i∈tk,π (sAt sp i).g - π (sAt sp i).s=y i:=by
 induction h with
 | nil=>exact ⟨fun _=>0,fun _ h=>qM h (by simp)⟩
 | snoc h hk s ih =>
  rename_i tk k;obtain ⟨π,hπ⟩:=ih;obtain ⟨S,hS,s1,s2⟩:=s;have dec:∀ x,Decidable (S x):=fun x=>Classical.propDecidable _
  refine ⟨fun x=>if S x then π x else π x+(y k - (π (sAt sp k).g - π (sAt sp k).s)),fun i hi=>?_⟩
  rcases aH.mp hi with hi | hi
  ·have e:=hπ i hi
   have f:=hS i hi;show (if S (sAt sp i).g then _ else _) - (if S (sAt sp i).s then _ else _)=_
   by_cases c:S (sAt sp i).s
   ·rw [qL c,qL (f.mp c)];exact e
   ·rw [qK c,qK (fun z=>c (f.mpr z))];lia
  ·rw [av.mp hi]
   show (if S (sAt sp k).g then _ else _) - (if S (sAt sp k).s then _ else _)=_;rw [qK s2,qL s1];lia
theorem Acy.nodup (h:Acy sp tk):tk.Nodup∧∀ i∈tk,i<sp.length:=by
 induction h with
 | nil=>exact ⟨jk,fun _ h=>qM h (by simp)⟩
 | snoc h hk s ih =>
  rename_i tk k;obtain ⟨S,hS,s1,s2⟩:=s;refine ⟨jn.mpr ⟨ih.1,by simp,fun a ha c hc e=>?_⟩,fun i hi=>?_⟩
  ·rw [av.mp hc] at e
   subst e;exact s2 ((hS _ ha).mp s1)
  ·rcases aH.mp hi with hi | hi
   ·exact ih.2 i hi
   ·rw [av.mp hi];exact hk
structure Pots (sp:List Sn)(tk:List Nat):Prop where
 nodup:tk.Nodup∧∀ i∈tk,i<sp.length
 pot:∀ y:Nat→Int,∃ π:Int→Int,∀ i∈tk,π (sAt sp i).g - π (sAt sp i).s=y i
theorem Acy.pots (h:Acy sp tk):Pots sp tk:=⟨h.nodup,h.pot⟩
theorem Pots.perm (h:Pots sp tk)(p:l.Perm tk):Pots sp l :=
 ⟨⟨p.nodup_iff.mpr h.nodup.1,fun i hi=>h.nodup.2 i (p.mem_iff.mp hi)⟩,fun y=>let ⟨π,k⟩:=h.pot y;⟨π,fun i hi=>k i (p.mem_iff.mp hi)⟩⟩
structure Gd (m:Nat)(sp:List Sn)(gs:List Int)(tk:List Nat):Prop where
 len:gs.length=m
 eq:∀ i∈tk,tm gs (sAt sp i).s=tm gs (sAt sp i).g
 held:∀ x y:Int,0≤x→x<m→0≤y→y<m→tm gs x=tm gs y→qJ sp tk x y
 acy:Acy sp tk
 cnt:Cnt m gs tk.length
theorem Gd.start (m:Nat)(sp:List Sn):Gd m sp (jK m) []:=by
 refine ⟨ke m,fun _ h=>qM h (by simp),fun x y x0 x1 y0 y1 e=>?_,.nil,Cnt.start m⟩;rw [mm x0 x1,mm y0 y1] at e;subst e;exact fun S _ h=>h
theorem Gd.step (E:kG m sp)(g:Gd m sp gs tk)(hi:i<sp.length):Gd m sp (gn sp (gs,tk) i).1 (gn sp (gs,tk) i).2:=by
 obtain ⟨s0,s1,g0,g1⟩:=E _ (fc hi);unfold gn
 by_cases e:tm gs (sAt sp i).s=tm gs (sAt sp i).g
 ·rw [qL e];exact g
 ·rw [qK e]
  have l:=g.len;have old:∀ j∈tk,j<sp.length:=g.acy.nodup.2;have jt:∀ x:Int,0≤x→x<m→tm (iW gs (tm gs (sAt sp i).s) (tm gs (sAt sp i).g)) x=if tm gs x=tm gs (sAt sp i).g then tm gs (sAt sp i).s else tm gs x:=fun x x0 x1=>kK x0 (by lia)
  have up:∀ {x y:Int},qJ sp tk x y→qJ sp (tk++[i]) x y:=fun h=>h.more fun j hj=>aJ _ hj
  have ed:qJ sp (tk++[i]) (sAt sp i).s (sAt sp i).g:=fun S hS h=>(hS i (aK _ (av.mpr rfl))).mp h
  refine ⟨by show (iW _ _ _).length=m;rw [lL];exact l,fun j hj=>?_,fun x y x0 x1 y0 y1 h=>?_,.snoc g.acy hi ⟨fun x=>tm gs x=tm gs (sAt sp i).s,fun j hj=>by show tm gs _=_↔tm gs _=_;rw [g.eq j hj],rfl,fun z=>e z.symm⟩,?_⟩
  ·show tm (iW _ _ _) _=tm (iW _ _ _) _
   rcases aH.mp hj with hj | hj
   ·obtain ⟨a0,a1,b0,b1⟩:=E _ (fc (old j hj))
    rw [jt _ a0 a1,jt _ b0 b1,g.eq j hj]
   ·rw [av.mp hj,jt _ s0 s1,jt _ g0 g1,qL rfl,qK e]
  ·have h:tm (iW _ _ _) x=tm (iW _ _ _) y:=h
   rw [jt x x0 x1,jt y y0 y1] at h;show qJ sp (tk++[i]) x y
   by_cases c1:tm gs x=tm gs (sAt sp i).g
   ·by_cases c2:tm gs y=tm gs (sAt sp i).g
    ·exact up (g.held x y x0 x1 y0 y1 (c1.trans c2.symm))
    ·rw [qL c1,qK c2] at h
     exact (up (g.held x _ x0 x1 g0 g1 c1)).trans (ed.symm.trans (up (g.held _ y s0 s1 y0 y1 h)))
   ·by_cases c2:tm gs y=tm gs (sAt sp i).g
    ·rw [qK c1,qL c2] at h
     exact (up (g.held x _ x0 x1 s0 s1 h)).trans (ed.trans (up (g.held _ y g0 g1 y0 y1 c2.symm)))
    ·rw [qK c1,qK c2] at h
     exact up (g.held x y x0 x1 y0 y1 h)
  ·show Cnt m (iW _ _ _) (tk++[i]).length
   rw [ar];exact g.cnt.join (n5 s0 (by lia)) (n5 g0 (by lia)) e
theorem Gd.fold {m:Nat}{sp:List Sn}(E:kG m sp):∀ (π:List Nat) (gs:List Int) (tk:List Nat),(∀ i∈π,i<sp.length)→Gd m sp gs tk→Gd m sp (π.foldl (gn sp) (gs,tk)).1 (π.foldl (gn sp) (gs,tk)).2
 | [],_,_,_,g=>g
 | i::π,gs,tk,h,g=>by
  rw [bM];exact Gd.fold E π _ _ (fun j hj=>h j (az _ hj)) (g.step E (h i (by simp)))
theorem Gd.few (g:Gd m sp gs tk)(h:0<m):tk.length<m:=by
 obtain ⟨D,_,mem,l⟩:=g.cnt;have:D≠[]:=fun z=>by
  have h0:tm gs 0∈gs:=n5 (gm 0) (by rw [g.len];lia);have:=(mem _).mpr h0;rw [z] at this;cases this
 have:=iT.mpr this;lia
structure RK (sp:List Sn)(tk:List Nat)(q:Nat×List Stp):Prop where
 lt:q.1<sp.length
 out:q.1 ∉ tk
 way:∃ p,q.2=⟨q.1,1⟩::p∧Pth sp tk (sAt sp q.1).g (sAt sp q.1).s p
theorem RK.rg {m:Int}(N:jD b m sp)(h:RK sp tk q)(hl:tk.length≤15):Rg sp q.2:=by
 obtain ⟨p,e,P⟩:=h.way;have hk:=h.lt;have eA:sAt sp q.1=sp[q.1]:=by unfold sAt;rw [ai,gE hk];rfl
 rw [e];refine Bk.ring hk (N.all _ (ba hk)).ne ⟨fun s hs=>(P.inn s hs).2,by rw [←eA];exact P.alo,P.one,fun s hs z=>?_⟩ ?_
 ·have z:s.i=q.1:=by lia
  exact h.out (z ▸ (P.inn s hs).1)
 ·have hn:((p.map Stp.i).map fun n:Nat=>(n:Int)).Nodup:=by
   rw [bX,fE];exact (bX.mp P.one).imp fun hh e=>hh (by lia)
  have:=lG (l:=(p.map Stp.i).map fun n:Nat=>(n:Int)) (k:=tk.map fun n:Nat=>(n:Int)) hn fun x hx=>by
   obtain ⟨i,hi,rfl⟩:=bb.mp hx;obtain ⟨s,hs,rfl⟩:=bb.mp hi;exact bb.mpr ⟨_,(P.inn s hs).1,rfl⟩
  rw [aa,aa,aa] at this;lia
structure OB (sp:List Sn)(tk:List Nat)(bs:List (Int×Int)):Prop where
 len:bs.length=sp.length
 out:∀ k,k<sp.length→k ∉ tk→bs.getD k (0,0)=((sAt sp k).l,(sAt sp k).o)
 lo:∀ k,k<sp.length→(sAt sp k).l≤(bs.getD k (0,0)).1∧(bs.getD k (0,0)).1≤(bs.getD k (0,0)).2∧(bs.getD k (0,0)).2≤(sAt sp k).o
theorem iE {bs:List (Int×Int)}{k:Nat}{x:Int×Int}(hj:j<bs.length):(bs.set k x).getD j (0,0)=if k=j then x else bs.getD j (0,0):=by
 rw [ai]
 by_cases e:k=j
 ·subst e
  rw [dN hj,qL rfl];rfl
 ·rw [dH e,qK e,←ai]
theorem OB.one {bs:List (Int×Int)}{k:Nat}{a:Int}(h:OB sp tk bs)(hk:k∈tk)(hn:k<sp.length)(h1:(bs.getD k (0,0)).1≤a)(h2:a<(bs.getD k (0,0)).2):OB sp tk (km bs k a):=by
 have l:=h.len;refine ⟨by rw [one_len];exact l,fun j hj hjn=>?_,fun j hj=>?_⟩
 ·unfold km
  rw [iE (by lia),qK (fun (z:k=j)=>hjn (z ▸ hk))];exact h.out j hj hjn
 ·unfold km
  rw [iE (by lia)];have:=h.lo j hj
  by_cases e:k=j
  ·rw [qL e]
   subst e;exact ⟨this.1,h1,by show a≤_;lia⟩
  ·rw [qK e];exact this
theorem OB.other {bs:List (Int×Int)}{k:Nat}{a:Int}(h:OB sp tk bs)(hk:k∈tk)(hn:k<sp.length)(h1:(bs.getD k (0,0)).1≤a)(h2:a<(bs.getD k (0,0)).2):OB sp tk (dX bs k a):=by
 have l:=h.len;refine ⟨by rw [mZ];exact l,fun j hj hjn=>?_,fun j hj=>?_⟩
 ·unfold dX
  rw [iE (by lia),qK (fun (z:k=j)=>hjn (z ▸ hk))];exact h.out j hj hjn
 ·unfold dX
  rw [iE (by lia)];have:=h.lo j hj
  by_cases e:k=j
  ·rw [qL e]
   subst e;exact ⟨by show _≤a+1;lia,by show a+1≤(bs.getD k (0,0)).2;lia,this.2.2⟩
  ·rw [qK e];exact this
theorem OB.first {m:Int}(N:jD b m sp)(tk:List Nat):OB sp tk (sp.map fun x=>(x.l,x.o)):=by
 have e:∀ k,k<sp.length→(sp.map fun x=>(x.l,x.o)).getD k (0,0)=((sAt sp k).l,(sAt sp k).o):=fun k hk=>by
  rw [ai,ay,i8 hk];rfl
 refine ⟨aa ..,fun k hk _=>e k hk,fun k hk=>?_⟩;rw [e k hk];have:=N.all _ (fc hk);exact ⟨gm _,this.lo,gm _⟩
def mz (sp:List Sn)(rg:List (Nat×List Stp)):List (Int×List Stp):=rg.map fun q=>((sAt sp q.1).w,q.2)
structure Fx (b:Int)(tk:List Nat)(rg:List (Nat×List Stp))(bs:List (Int×Int)):Prop where
 fix:∀ k∈tk,(bs.getD k (0,0)).1=(bs.getD k (0,0)).2
 alive:∀ q∈rg,jb b bs q.2=false
structure FF (m:Int)(sp:List Sn)(tk:List Nat)(rg:List (Nat×List Stp)):Prop where
 acy:Pots sp tk
 few:(tk.length:Int)<m
 rk:∀ q∈rg,RK sp tk q
 all:∀ k,k<sp.length→k ∉ tk→∃ r,(k,r)∈rg
 one:(rg.map (·.1)).Nodup
theorem low_fix {bs:List (Int×Int)}{tk:List Nat}(h:∀ k∈tk,k<bs.length∧(bs.getD k (0,0)).1=(bs.getD k (0,0)).2):∀ (p:List Stp),(∀ s∈p,s.i∈tk∧(s.d=1∨s.d= -1))→fZ bs p=alg (fun k=>(bs.getD k (0,0)).1) p∧iB bs p=alg (fun k=>(bs.getD k (0,0)).1) p
 | [],_=>⟨rfl,rfl⟩
 | s::p,hp=>by
  obtain ⟨i1,i2⟩:=low_fix h p fun t ht=>hp t (az _ ht)
  obtain ⟨h1,h2⟩:=hp s (by simp);obtain ⟨h3,h4⟩:=h s.i h1;have e:bs.getD s.i (0,0)=bs[s.i]:=by rw [ai,gE h3];rfl
  have e1:fZ bs (s::p)=lowS bs s+fZ bs p:=rfl;have e2:iB bs (s::p)=lN bs s+iB bs p:=rfl;have f1:lowS bs s=if s.d=1 then bs[s.i].1 else -bs[s.i].2:=by unfold lowS;rw [gE h3]
  have f2:lN bs s=if s.d=1 then bs[s.i].2 else -bs[s.i].1:=by unfold lN;rw [gE h3]
  rw [e] at h4;rw [e1,e2,f1,f2,i1,i2];show _=s.d * (bs.getD s.i (0,0)).1+_∧_=s.d * (bs.getD s.i (0,0)).1+_;rw [e]
  rcases h2 with d1 | d1
  ·rw [d1,qL rfl,qL rfl];lia
  ·rw [d1,qK (by decide),qK (by decide)];lia
theorem oJ {bs:List (Int×Int)}(h:RK sp tk q)(O:OB sp tk bs)(fix:∀ k∈tk,(bs.getD k (0,0)).1=(bs.getD k (0,0)).2) :
  ∃ p,q.2=⟨q.1,1⟩::p∧Pth sp tk (sAt sp q.1).g (sAt sp q.1).s p∧fZ bs q.2=(sAt sp q.1).l+alg (fun k=>(bs.getD k (0,0)).1) p∧iB bs q.2=(sAt sp q.1).o+alg (fun k=>(bs.getD k (0,0)).1) p:=by
 obtain ⟨p,e,P⟩:=h.way;have hk:=h.lt;have l:=O.len;obtain ⟨a1,a2⟩:=low_fix (bs:=bs) (tk:=p.map Stp.i) (fun k hk'=>by
  obtain ⟨s,hs,rfl⟩:=bb.mp hk';exact ⟨by rw [l];exact (P.inn s hs).2.1,fix _ (P.inn s hs).1⟩) p fun s hs=>⟨bb.mpr ⟨s,hs,rfl⟩,(P.inn s hs).2.2⟩
 have eb:=O.out q.1 hk h.out;have hb:q.1<bs.length:=by lia
 have e0:bs.getD q.1 (0,0)=bs[q.1]:=by rw [ai,gE hb];rfl
 refine ⟨p,e,P,?_,?_⟩
 ·rw [e,show fZ bs (⟨q.1,1⟩::p)=lowS bs ⟨q.1,1⟩+fZ bs p from rfl,a1]
  congr 1;unfold lowS;show (match bs[q.1]? with | some p=>if (1:Int)=1 then p.1 else -p.2 | none=>0)=_;rw [gE hb];show (if (1:Int)=1 then bs[q.1].1 else _)=_;rw [qL rfl,←e0,eb]
 ·rw [e,show iB bs (⟨q.1,1⟩::p)=lN bs ⟨q.1,1⟩+iB bs p from rfl,a2]
  congr 1;unfold lN;show (match bs[q.1]? with | some p=>if (1:Int)=1 then p.2 else -p.1 | none=>0)=_;rw [gE hb];show (if (1:Int)=1 then bs[q.1].2 else _)=_;rw [qL rfl,←e0,eb]
theorem beat_one {hi:Int}(hb:0<b)(h:upB b lo≤hi / b)(hw:hi - lo<b):upB b lo=hi / b∧lo≤b * upB b lo∧b * upB b lo≤hi:=by
 have e:=hI (-lo) b;have r0:=fb (-lo) (by lia:b≠0);have r1:=eE (-lo) hb;have e':=hI hi b;have r0':=fb hi (by lia:b≠0);have r1':=eE hi hb;unfold upB at h ⊢;generalize -lo / b=u at *;generalize hi / b=v at *;have m1:b * -u= -(b * u):=Int.mul_neg ..;have h2:b * -u≤b * v:=Int.mul_le_mul_of_nonneg_left h (by lia);refine ⟨?_,by lia,by lia⟩
 rcases Int.lt_or_le (-u) v with c | c
 ·have:b * (-u+1)≤b * v:=Int.mul_le_mul_of_nonneg_left (by lia) (by lia)
  rw [j6,Int.mul_one] at this;lia
 ·lia
theorem fx_sure {m:Int}{rg:List (Nat×List Stp)}{bs:List (Int×Int)}(N:jD b m sp)(f:FF m sp tk rg)(O:OB sp tk bs)(x:Fx b tk rg bs):LfOk b sp bs (.price (mz sp rg)):=by
 have m2:=N.m2;have fw:=f.few;have tl:tk.length≤15:=by lia
 refine ⟨?_,fun r hr=>?_⟩
 ·show (rg.map _).length≤40
  rw [aa];have hn:((rg.map (·.1)).map fun n:Nat=>(n:Int)).Nodup:=by
   rw [bX,fE];exact (bX.mp f.one).imp fun hh e=>hh (by lia)
  have:=lG (l:=(rg.map (·.1)).map fun n:Nat=>(n:Int)) (k:=(aF sp.length).map fun n:Nat=>(n:Int)) hn fun z hz=>by
   obtain ⟨i,hi,rfl⟩:=bb.mp hz;obtain ⟨q,hq,rfl⟩:=bb.mp hi;exact bb.mpr ⟨_,cg.mpr (f.rk q hq).lt,rfl⟩
  rw [aa,aa,aa,bh] at this;have:=N.few;lia
 ·obtain ⟨q,hq,rfl⟩:=bb.mp hr
  have K:=f.rk q hq;have sn:=N.all _ (fc K.lt);refine ⟨K.rg N tl,?_,by have:=sn.w0;show -1000000000000≤(sAt sp q.1).w;lia,sn.w1⟩;obtain ⟨p,e,P,e1,e2⟩:=oJ K O x.fix;have al:=x.alive q hq;have al:¬ (upB b (fZ bs q.2) > iB bs q.2 / b):=by
   unfold jb at al
   simpa using al
  show decide (upB b (fZ bs q.2)=iB bs q.2 / b)=true;refine qN (beat_one (by have:=N.b1;lia) (by lia) ?_).1;have:=sn.ob;rw [e1,e2];lia
theorem alg_pot {sp:List Sn}{tk:List Nat}{y:Nat→Int}{π:Int→Int}(ht:∀ i∈tk,i<sp.length)(hπ:∀ i∈tk,π (sAt sp i).g - π (sAt sp i).s=y i):∀ (p:List Stp) (u z:Int),(∀ s∈p,s.i∈tk∧(s.d=1∨s.d= -1))→oo sp u p z→alg y p=π z - π u
 | [],u,z,_,a=>by
  have a:u=z:=a;subst a;show (0:Int)=_;lia
 | s::p,u,z,hp,a=>by
  obtain ⟨a1,a2⟩:=a;have ih:=alg_pot ht hπ p _ z (fun t h=>hp t (az _ h)) a2;obtain ⟨h1,h2⟩:=hp s (by simp);obtain ⟨f1,f2,f3,f4⟩:=pJ (ht s.i h1);have e:=hπ s.i h1;obtain ⟨i,d⟩:=s
  dsimp only at e f1 f2 f3 f4
  have h2:d=1∨d= -1:=h2;show d * y i+alg y p=_;rw [ih,←a1]
  rcases h2 with rfl | rfl
  ·rw [f1,f2];show 1 * y i+_=_;lia
  ·rw [f3,f4];show -1 * y i+_=_;lia
def potT (b:Int)(π:Int→Int)(m:Nat):List Int:=(aF m).map fun x:Nat=>(π (x:Nat) - π 0) % b
theorem potT_at {π:Int→Int}{x:Int}(h0:0≤x)(h1:x<m):tm (potT b π m) x=(π x - π 0) % b:=by
 obtain ⟨n,rfl⟩:=cz h0;unfold tm potT;rw [cI,ai,ay,fG (by lia)];rfl
theorem wait_pot {π:Int→Int}{x:Sn}(s0:0≤x.s)(s1:x.s<m)(g0:0≤x.g)(g1:x.g<m):iq b (potT b π m) x=(π x.g - π x.s - x.l) % b:=by
 unfold iq;rw [potT_at s0 s1,potT_at g0 g1,rest_two];congr 1;lia
theorem rest_in {Y l Z:Int}(h0:l≤Y)(h1:Y<l+b):(Y - b * Z - l) % b=Y - l:=by
 rw [show Y - b * Z - l=(Y - l)+b * (-Z) by rw [Int.mul_neg];lia,iD];exact ik (by lia) (by lia)
theorem sg_no {k:Nat}:∀ (p:List Stp),(∀ s∈p,s.i≠k)→sg k p=0
 | [],_=>rfl
 | s::p,h=>by
  show (if s.i=k then s.d else 0)+sg k p=0;rw [qK (h s (by simp)),sg_no p fun t ht=>h t (az _ ht)];rfl
theorem sgR_no {sp:List Sn}{tk:List Nat}{k:Nat}(hk:k ∉ tk):∀ (rg:List (Nat×List Stp)),(∀ q∈rg,RK sp tk q)→k ∉ rg.map (·.1)→sgR k (mz sp rg)=0
 | [],_,_=>rfl
 | q::rg,h,hn=>by
  have ih:=sgR_no hk rg (fun t ht=>h t (az _ ht)) fun z=>hn (az _ z)
  show (sAt sp q.1).w * sg k q.2+sgR k (mz sp rg)=0;obtain ⟨p,e,P⟩:=(h q (by simp)).way;rw [ih,e,sg_no _ fun s hs=>?_,iN];rfl
  rcases aI.mp hs with rfl | hs
  ·exact fun z=>hn (by show k∈q.1::_;rw [show k=q.1 from z.symm];simp)
  ·exact fun z=>hk (z ▸ (P.inn s hs).1)
theorem sgR_own {sp:List Sn}{tk:List Nat}{k:Nat}(hk:k ∉ tk):∀ (rg:List (Nat×List Stp)),(∀ q∈rg,RK sp tk q)→(rg.map (·.1)).Nodup→k∈rg.map (·.1)→sgR k (mz sp rg)=(sAt sp k).w
 | [],_,_,h=>qM h (by simp)
 | q::rg,h,hn,hm=>by
  rw [bR,bz] at hn;show (sAt sp q.1).w * sg k q.2+sgR k (mz sp rg)=_;obtain ⟨p,e,P⟩:=(h q (by simp)).way;have hp:∀ s∈p,s.i≠k:=fun s hs z=>hk (z ▸ (P.inn s hs).1)
  have e2:sg k q.2=if q.1=k then 1 else 0:=by
   rw [e];show (if q.1=k then (1:Int) else 0)+sg k p=_;rw [sg_no p hp,Int.add_zero]
  rw [e2]
  by_cases c:q.1=k
  ·rw [qL c,c,Int.mul_one,sgR_no hk rg (fun t ht=>h t (az _ ht)) (c ▸ hn.1),Int.add_zero]
  ·rw [qK c,iN,iM]
   exact sgR_own hk rg (fun t ht=>h t (az _ ht)) hn.2 ((aI.mp hm).resolve_left fun z=>c z.symm)
theorem oB {b:Nat}:∀ (n:Nat) (ts:List Int),ts.length=n→(∀ x∈ts,0≤x∧x<(b:Int))→ts∈nG b n
 | 0,ts,h,_=>by rw [cK.mp h];exact av.mpr rfl
 | n+1,ts,h,hx=>by
  have hne:ts≠[]:=fun z=>by rw [z] at h;cases h
  have e:=List.dropLast_concat_getLast hne;have hd:ts.dropLast∈nG b n:=oB n _ (by rw [List.length_dropLast];lia) fun x h'=>hx x ((List.dropLast_sublist _).subset h')
  obtain ⟨l0,l1⟩:=hx _ (List.getLast_mem hne);obtain ⟨c,hc⟩:=cz l0;refine List.mem_flatMap.mpr ⟨ts.dropLast,hd,bb.mpr ⟨c,cg.mpr (by lia),?_⟩⟩;rw [iM];show ts.dropLast++[((c:Nat):Int)]=ts;rw [show ((c:Nat):Int)=ts.getLast hne from hc.symm];exact e
theorem tight {m:Int}{rg:List (Nat×List Stp)}{bs:List (Int×Int)}(N:jD b m sp)(f:FF m sp tk rg)(O:OB sp tk bs)(x:Fx b tk rg bs) :
  ∃ ts∈nG b.toNat m.toNat,ts.getD 0 0=0∧lr b ts sp=true∧waitOfM b ts sp=worthM b sp bs (mz sp rg):=by
 have hb:0<b:=by have:=N.b1;lia
 have m1:=N.m1;obtain ⟨ht1,ht2⟩:=f.acy.nodup;obtain ⟨π,hπ⟩:=f.acy.pot fun k=>(bs.getD k (0,0)).1
 have eW:∀ k,k<sp.length→iq b (potT b π m.toNat) (sAt sp k)=(π (sAt sp k).g - π (sAt sp k).s - (sAt sp k).l) % b:=fun k hk=>by
  have s:=N.all _ (fc hk);exact wait_pot s.s0 (by have:=s.s1;lia) s.g0 (by have:=s.g1;lia)
 have key:∀ k,k<sp.length→∃ Y,iq b (potT b π m.toNat) (sAt sp k)=Y - (sAt sp k).l∧(bs.getD k (0,0)).1≤Y∧Y≤(bs.getD k (0,0)).2:=fun k hk=>by
  have s:=N.all _ (fc hk);have lo:=O.lo k hk
  by_cases c:k∈tk
  ·have e:=hπ k c
   have fx:=x.fix k c;refine ⟨(bs.getD k (0,0)).1,?_,gm _,by lia⟩;rw [eW k hk,show π (sAt sp k).g - π (sAt sp k).s - (sAt sp k).l=(bs.getD k (0,0)).1 - b * 0 - (sAt sp k).l by rw [iN];lia];exact rest_in lo.1 (by have:=s.ob;lia)
  ·obtain ⟨r,hr⟩:=f.all k hk c
   have K:=f.rk _ hr;obtain ⟨p,e,P,e1,e2⟩:=oJ K O x.fix;have al:=x.alive _ hr;have al:¬ (upB b (fZ bs r) > iB bs r / b):=by unfold jb at al;simpa using al
   obtain ⟨_,z1,z2⟩:=beat_one hb (lo:=fZ bs r) (hi:=iB bs r) (by lia) (by
    have e1:fZ bs r=_:=e1;have e2:iB bs r=_:=e2;have:=s.ob;rw [e1,e2];show (sAt sp k).o+_ - ((sAt sp k).l+_)<b;lia)
   have ea:=alg_pot ht2 hπ p _ _ (fun s hs=>⟨(P.inn s hs).1,(P.inn s hs).2.2⟩) P.alo;have e1:fZ bs r=(sAt sp k).l+alg (fun k=>(bs.getD k (0,0)).1) p:=e1;have e2:iB bs r=(sAt sp k).o+alg (fun k=>(bs.getD k (0,0)).1) p:=e2;have ea:alg (fun k=>(bs.getD k (0,0)).1) p=π (sAt sp k).s - π (sAt sp k).g:=ea;have eo:=O.out k hk c;rw [eo];refine ⟨b * upB b (fZ bs r) - alg (fun k=>(bs.getD k (0,0)).1) p,?_,by show (sAt sp k).l≤_;lia,by show _≤(sAt sp k).o;lia⟩;rw [eW k hk];have hs:=s.ob;have:=rest_in (b:=b) (Y:=b * upB b (fZ bs r) - alg (fun k=>(bs.getD k (0,0)).1) p) (l:=(sAt sp k).l) (Z:=upB b (fZ bs r)) (by lia) (by lia);rw [←this];congr 1;lia
 have lay:∀ k,k<sp.length→j3 b (potT b π m.toNat) sp k=(sAt sp k).l+iq b (potT b π m.toNat) (sAt sp k):=fun k hk=>by
  unfold j3;rw [i8 hk]
 have hin:InB (j3 b (potT b π m.toNat) sp) bs:=fun k hk=>by
  have hk:k<sp.length:=by rw [←O.len];exact hk
  obtain ⟨Y,e,y1,y2⟩:=key k hk;rw [lay k hk,e]
  constructor <;> lia
 refine ⟨potT b π m.toNat,oB _ _ (by unfold potT;rw [aa,bh]) (fun z hz=>?_),?_,?_,?_⟩
 ·obtain ⟨i,_,rfl⟩:=bb.mp hz
  have h0:=fb (π (i:Nat) - π 0) (by lia:b≠0);have h1:=eE (π (i:Nat) - π 0) hb;exact ⟨h0,by lia⟩
 ·have:=potT_at (b:=b) (π:=π) (m:=m.toNat) (x:=0) (gm 0) (by lia)
  rw [Int.sub_self,Int.zero_emod] at this;exact this
 ·unfold lr
  rw [jr,jq];intro s hs;obtain ⟨k,hk,rfl⟩:=cu hs;have eA:sAt sp k=sp[k]:=by unfold sAt;rw [ai,gE hk];rfl
  obtain ⟨Y,e,y1,y2⟩:=key k hk;have:=(O.lo k hk).2.2;rw [eA] at e this;unfold brk;rw [qO (by lia)];exact bo
 ·have rok:∀ r∈mz sp rg,RowOk b sp bs r:=(fx_sure N f O x).2
  have rw1:∀ r∈mz sp rg,RwOk sp.length r:=fun r hh=>by
   have q:=rok r hh;exact ⟨q.1.inn,q.1.one,q.1.few,q.2.2.1,q.2.2.2⟩
  have e1:=rows_in hb O.len hin _ rok;have e2:=sum_sgR (y:=j3 b (potT b π m.toNat) sp) (n:=sp.length) (mz sp rg) fun r hh s hs=>((rw1 r hh).inn s hs).1
  unfold worthM;rw [p7,←e1,←e2,wait_sum,←ox];refine jT _ fun k hk=>?_
  unfold termW;have eo:=owK_sg hk rw1;have hl:=hin k (by rw [O.len];exact hk);have ew:wOf sp k=(sAt sp k).w:=by unfold wOf;rw [i8 hk]
  have keyo:owK sp (mz sp rg) k * (if owK sp (mz sp rg) k<0 then (bs.getD k (0,0)).2 else (bs.getD k (0,0)).1)=owK sp (mz sp rg) k * j3 b (potT b π m.toNat) sp k:=by
   by_cases c:k∈tk
   ·have fx:=x.fix k c
    have e:j3 b (potT b π m.toNat) sp k=(bs.getD k (0,0)).1:=by lia
    rw [e];split
    ·rw [←fx]
    ·rfl
   ·have z:owK sp (mz sp rg) k=0:=by
     obtain ⟨r,hr⟩:=f.all k hk c;rw [eo,ew,sgR_own c rg f.rk f.one (bb.mpr ⟨_,hr,rfl⟩),Int.sub_self]
    rw [z,gk,gk]
  have ex:owK sp (mz sp rg) k * j3 b (potT b π m.toNat) sp k=wOf sp k * j3 b (potT b π m.toNat) sp k - sgR k (mz sp rg) * j3 b (potT b π m.toNat) sp k:=by rw [eo,Int.sub_mul]
  lia
def i7 (m:Nat)(sp:List Sn)(l:List Nat):Prop:=nZ m sp (l.map fun (i:Nat)=>(i:Int))∧∃ π,Ordd sp π∧l.Perm (kB sp m π).2
theorem ph:∀ {l k:List Nat},l.map (fun (i:Nat)=>(i:Int))=k.map (fun (i:Nat)=>(i:Int))→l=k
 | [],[],_=>rfl
 | [],_::_,h=>by cases h
 | _::_,[],h=>by cases h
 | a::l,b::k,h=>by
  rw [bR,bR] at h;injection h with h1 h2
  have h1:a=b:=by lia
  rw [h1,ph h2]
theorem i7.one {k:List Nat}(a:i7 m sp l)(b:i7 m sp k):l=k:=ph (nZ.one a.1 b.1)
theorem i7.gd (E:kG m sp)(a:i7 m sp l):∃ gs tk,Gd m sp gs tk∧l.Perm tk∧∀ i,i<sp.length→tm gs (sAt sp i).s=tm gs (sAt sp i).g:=by
 obtain ⟨_,π,O,pm⟩:=a;refine ⟨(kB sp m π).1,(kB sp m π).2,Gd.fold E π _ _ (fun i hi=>O.lt hi) (Gd.start m sp),pm,fun i hi=>?_⟩;exact l3 E π (jK m) [] (ke _) (fun i hi=>O.lt hi) i (O.1.mem_iff.mpr (cg.mpr hi))
theorem i7.pots (E:kG m sp)(a:i7 m sp l):Pots sp l:=by
 obtain ⟨gs,tk,g,p,_⟩:=a.gd E;exact g.acy.pots.perm p
theorem i7.few (E:kG m sp)(h:0<m)(a:i7 m sp l):l.length<m:=by
 obtain ⟨gs,tk,g,p,_⟩:=a.gd E;rw [p.length_eq];exact g.few h
theorem i7.held (E:kG m sp)(a:i7 m sp l){k:Nat}(hk:k<sp.length):qJ sp l (sAt sp k).s (sAt sp k).g:=by
 obtain ⟨gs,tk,g,p,me⟩:=a.gd E;obtain ⟨s0,s1,g0,g1⟩:=E _ (fc hk);exact (g.held _ _ s0 s1 g0 g1 (me k hk)).more fun i hi=>p.mem_iff.mpr hi
def oW (sp:List Sn)(tk:List Nat):List Nat:=(aF sp.length).filter fun k=> !(decide (k∈tk))
structure FR (m:Int)(sp:List Sn)(l:List Nat)(rg:List (Nat×List Stp)):Prop where
 fr:i7 m.toNat sp l
 rk:∀ q∈rg,RK sp l q
 ks:rg.map (·.1)=oW sp l
theorem FR.ff {m:Int}{rg:List (Nat×List Stp)}(N:jD b m sp)(a:FR m sp l rg):FF m sp l rg:=by
 have m1:=N.m1;refine ⟨a.fr.pots N.ends,by have:=a.fr.few N.ends (by lia);lia,a.rk,fun k hk hn=>?_,?_⟩
 ·have:k∈rg.map (·.1):=by
   rw [a.ks];exact bS.mpr ⟨cg.mpr hk,by rw [qO hn];rfl⟩
  obtain ⟨q,hq,rfl⟩:=bb.mp this;exact ⟨q.2,hq⟩
 ·rw [a.ks]
  exact List.nodup_range.filter _
def wayQ (q:Nat×List Stp):Dt:=oj q.2
def iC (k:Nat)(q:Nat×List Stp):Bool:=decide (k∈q.2.map Stp.i)
theorem Tb.lamT {T:aq}(h:L2.LamT T lp lq H)(e:L2.Tb T H H'):jL H H':=Tb.tupK (LamT.tbl h) e
inductive spRingsO (T:aq)(lp:Pos)(lq:Str)(vs:List V)(H:Hp)(Q:VK)(_:XK):Prop
 | mk (v:V)(b m:Int)(sp:List Sn)(_:vs=[v])(_:IsD H v (jA b m sp))(_:jD b m sp)(_:L2.LamT T lp lq H)(_:∀ (L:aq) (rl:List V) (l:List Nat) (rg:List (Nat×List Stp)) (H':Hp),L2.Tb T H H'→L2.LamT T lp lq H'→H L=none→H' L=some (.lst rl)→dG H' rl (rg.map wayQ)→FR m sp l rg→Q (.ref L) H')
inductive spOverR (vs:List V)(H:Hp)(Q:VK)(_:XK):Prop
 | mk (u:aq)(k:Nat)(rl:List V)(rg:List (Nat×List Stp))(_:vs=[.ref u,.int (k:Nat)])(_:H u=some (.lst rl))(_:dG H rl (rg.map wayQ))(_:rg.length≤40)(_:(∀ q∈rg,q.2.length≤1000))(_:∀ (L:aq) (rl':List V) (H':Hp),bH H H'→H L=none→H' L=some (.lst rl')→dG H' rl' ((rg.filter (iC k)).map wayQ)→Q (.ref L) H')
structure CsD (H:Hp)(c:aq)(bs:List (Int×Int))(rs:List (Nat×List Stp)):Prop where
 ex:∃ vb u rl,H c=some (.tup [vb,.ref u])∧IsD H vb (bndP bs)∧H u=some (.lst rl)∧dG H rl (rs.map wayQ)
theorem CsD.same {c:aq}{bs:List (Int×Int)}(a:CsD H c bs rs)(e:bH H H'):CsD H' c bs rs:=by
 obtain ⟨vb,u,rl,h1,h2,h3,h4⟩:=a.ex;exact ⟨vb,u,rl,e _ _ h1,h2.same e,e _ _ h3,h4.same e⟩
inductive spMid (vs:List V)(H:Hp)(Q:VK)(_:XK):Prop
 | mk (c:aq)(k:Nat)(bs:List (Int×Int))(rs:List (Nat×List Stp))(_:vs=[.ref c,.int (k:Nat)])(_:CsD H c bs rs)(_:k<bs.length)(_:Q (.int (((bs.getD k (0,0)).1+(bs.getD k (0,0)).2) / 2)) H)
inductive spDeadL (vs:List V)(H:Hp)(Q:VK)(_:XK):Prop
 | mk (v:V)(c:aq)(b m:Int)(sp:List Sn)(bs:List (Int×Int))(rs:List (Nat×List Stp))(_:vs=[v,.ref c])(_:IsD H v (jA b m sp))(_:0<b)(_:b<10 ^ 61)(_:CsD H c bs rs)(_:rs.length≤40)(_:(∀ q∈rs,pW bs.length q.2))(_:∀ r H',bH H H'→((r= .non∧∀ q∈rs,jb b bs q.2=false)∨∃ q∈rs,IsD H' r (leafP (.ring q.2))∧jb b bs q.2=true)→Q r H')
inductive Spr (sp:List Sn):List Stp→Prop where
 | nil:Spr sp []
 | snoc {S:List Stp} {s:Stp} (h:Spr sp S) (n:eY sp s≠kl sp s) (o:∀ t∈S,eY sp s≠eY sp t∧eY sp s≠kl sp t):Spr sp (S++[s])
structure SI (m:Nat)(sp:List Sn)(tk:List Nat)(ex:Int→Prop)(R A:List Int)(S:List Stp):Prop where
 rng:∀ r∈R,0≤r∧r<(m:Int)
 nd:R.Nodup
 ahd:∀ a∈A,a∈R
 inn:∀ s∈S,s.i∈tk∧(s.d=1∨s.d= -1)∧kl sp s∈R∧eY sp s∈R
 spr:Spr sp S
 len:S.length≤R.length
 clo:∀ z∈R,z ∉ A→¬ ex z→∀ s∈dE sp tk z,s.i∈S.map Stp.i
 con:∀ π:Int→Int,(∀ s∈S,π (kl sp s)=π (eY sp s))→∀ a c,(a∈A∨ex a)→(c∈A∨ex c)→π a=π c
def exN:Int→Prop:=fun _=>False
section
variable {A:List Int}
theorem SI.start:SI m sp tk exN [] [] [] :=
 ⟨fun _ h=>(by cases h),jk,fun _ h=>(by cases h),fun _ h=>(by cases h),.nil,aA _,fun _ h=>(by cases h),fun _ _ a c h=>(by rcases h with h | h;cases h;cases h)⟩
theorem SI.root {x:Int}(h:SI m sp tk exN R [] S)(hx:x ∉ R)(x0:0≤x)(x1:x<(m:Int)):SI m sp tk exN (R++[x]) [x] S:=by
 refine ⟨fun r hr=>?_,jn.mpr ⟨h.nd,by simp,fun a ha c hc e=>?_⟩,fun a ha=>aK _ ha,fun s hs=>?_,h.spr,by rw [ar];exact Nat.le_succ_of_le h.len,fun z hz hn ex=>?_,fun π _ a c ha hc=>?_⟩
 ·rcases aH.mp hr with z | z
  ·exact h.rng r z
  ·rw [av.mp z];exact ⟨x0,x1⟩
 ·rw [av.mp hc] at e
  exact hx (e ▸ ha)
 ·obtain ⟨a,b,c,d⟩:=h.inn s hs
  exact ⟨a,b,aJ _ c,aJ _ d⟩
 ·rcases aH.mp hz with y | y
  ·exact h.clo z y (by simp) ex
  ·exact qM y hn
 ·rcases ha with ha | ha
  ·rcases hc with hc | hc
   ·rw [av.mp ha,av.mp hc]
   ·exact hc.elim
  ·exact ha.elim
theorem SI.pop {x:Int}(h:SI m sp tk exN R (A++[x]) S):SI m sp tk (· =x) R A S∧x∈R:=by
 refine ⟨⟨h.rng,h.nd,fun a ha=>h.ahd a (aJ _ ha),h.inn,h.spr,h.len,fun z hz hn ex=>?_,fun π hπ a c ha hc=>?_⟩,h.ahd x (by simp)⟩
 ·refine h.clo z hz (fun y=>?_) id
  rcases aH.mp y with y | y
  ·exact hn y
  ·exact ex (av.mp y)
 ·have up:∀ a:Int,(a∈A∨a=x)→a∈A++[x]∨exN a:=fun a ha=> .inl (ha.elim (fun z=>aJ _ z) fun z=>by rw [z];simp)
  exact h.con π hπ a c (up a ha) (up c hc)
theorem nN {x:Int}{s:Stp}(h:s∈dE sp tk x):(s.i∈tk∧(s.d=1∨s.d= -1))∧kl sp s=x :=
 ⟨mem_stF (bS.mp h).1,qP (bS.mp h).2⟩
theorem oM {x:Int}(h:i∈tk)(hd:d=1∨d= -1)(e:kl sp ⟨i,d⟩=x):(⟨i,d⟩:Stp)∈dE sp tk x:=by
 refine bS.mpr ⟨?_,qN e⟩;unfold stF
 rcases hd with rfl | rfl
 ·exact aJ _ (bb.mpr ⟨i,h,rfl⟩)
 ·exact aK _ (bb.mpr ⟨i,h,rfl⟩)
theorem SI.add {x:Int}{s:Stp}(E:kG m sp)(ht:∀ i∈tk,i<sp.length)(h:SI m sp tk (· =x) R A S)(hx:x∈R)(hs:s∈dE sp tk x)(hn:eY sp s ∉ R):SI m sp tk (· =x) (R++[eY sp s]) (A++[eY sp s]) (S++[s]):=by
 obtain ⟨⟨h1,h2⟩,h3⟩:=nN hs;refine ⟨fun r hr=>?_,jn.mpr ⟨h.nd,by simp,fun a ha c hc e=>?_⟩,fun a ha=>?_,fun t hT=>?_,.snoc h.spr (fun z=>hn (by rw [z,h3];exact hx)) (fun t hT=>⟨fun z=>hn (by rw [z];exact (h.inn t hT).2.2.2),fun z=>hn (by rw [z];exact (h.inn t hT).2.2.1)⟩),by rw [ar,ar];exact Nat.succ_le_succ h.len,fun z hz hz' ex t hT=>?_,fun π hπ=>?_⟩
 ·rcases aH.mp hr with z | z
  ·exact h.rng r z
  ·rw [av.mp z];exact jf E (ht _ h1)
 ·rw [av.mp hc] at e
  exact hn (e ▸ ha)
 ·rcases aH.mp ha with z | z
  ·exact aJ _ (h.ahd a z)
  ·exact aK _ z
 ·rcases aH.mp hT with z | z
  ·obtain ⟨a,b,c,d⟩:=h.inn t z
   exact ⟨a,b,aJ _ c,aJ _ d⟩
  ·rw [av.mp z]
   exact ⟨h1,h2,aJ _ (h3 ▸ hx),by simp⟩
 ·rw [aE]
  refine aJ _ ?_
  rcases aH.mp hz with y | y
  ·exact h.clo z y (fun y'=>hz' (aJ _ y')) ex t hT
  ·exact qM (aK _ y) hz'
 ·have old:∀ t∈S,π (kl sp t)=π (eY sp t):=fun t hT=>hπ t (aJ _ hT)
  have new:π (eY sp s)=π x:=by rw [←hπ s (by simp),h3]
  have one:∀ a:Int,(a∈A++[eY sp s]∨a=x)→π a=π x:=fun a ha=>by
   rcases ha with ha | ha
   ·rcases aH.mp ha with z | z
    ·exact h.con π old a x (.inl z) (.inr rfl)
    ·rw [av.mp z,new]
   ·rw [ha]
  exact fun a c ha hc=>(one a ha).trans (one c hc).symm
theorem SI.has {x:Int}{s:Stp}(P:Pots sp tk)(ne:∀ i∈tk,(sAt sp i).s≠(sAt sp i).g)(h:SI m sp tk (· =x) R A S)(hs:s∈dE sp tk x)(hn:eY sp s∈R):s.i∈S.map Stp.i:=by
 obtain ⟨⟨h1,h2⟩,h3⟩:=nN hs;have lt:=P.nodup.2 _ h1;obtain ⟨f1,f2,f3,f4⟩:=pJ lt;have hne:=ne _ h1;obtain ⟨i,d⟩:=s;have h2:d=1∨d= -1:=h2;show i∈_;have h1:i∈tk:=h1;have f1:kl sp ⟨i,1⟩=(sAt sp i).s:=f1;have f2:eY sp ⟨i,1⟩=(sAt sp i).g:=f2;have f3:kl sp ⟨i,-1⟩=(sAt sp i).g:=f3;have f4:eY sp ⟨i,-1⟩=(sAt sp i).s:=f4;have hne:(sAt sp i).s≠(sAt sp i).g:=hne
 by_cases c:eY sp ⟨i,d⟩∈A
 ·refine dJ fun no=>?_
  obtain ⟨π,hπ⟩:=P.pot fun k=>if k=i then 1 else 0
  have e:=h.con π (fun t hT=>by
   obtain ⟨t1,t2,_⟩:=h.inn t hT;have e:=hπ _ t1;rw [qK (fun z=>no (bb.mpr ⟨t,hT,z⟩))] at e;obtain ⟨g1,g2,g3,g4⟩:=pJ (P.nodup.2 _ t1);obtain ⟨j,dj⟩:=t;have t2:dj=1∨dj= -1:=t2
   dsimp only at e g1 g2 g3 g4
   rcases t2 with rfl | rfl
   ·rw [g1,g2];lia
   ·rw [g3,g4];lia) _ x (.inl c) (.inr rfl)
  have y:=hπ i h1;rw [qL rfl] at y;rw [←h3] at e
  rcases h2 with rfl | rfl
  ·rw [f1,f2] at e
   dsimp only at e y
   lia
  ·rw [f3,f4] at e
   dsimp only at e y
   lia
 ·rcases h2 with rfl | rfl
  ·rw [f2] at hn c
   exact h.clo _ hn c (fun z=>hne (by rw [←f1,h3];exact z.symm)) ⟨i,-1⟩ (oM h1 (.inr rfl) f3)
  ·rw [f4] at hn c
   exact h.clo _ hn c (fun z=>hne (by rw [←f3,h3];exact z)) ⟨i,1⟩ (oM h1 (.inl rfl) f1)
theorem SI.done {x:Int}(h:SI m sp tk (· =x) R A S)(a:∀ s∈dE sp tk x,s.i∈S.map Stp.i):SI m sp tk exN R A S:=by
 refine ⟨h.rng,h.nd,h.ahd,h.inn,h.spr,h.len,fun z hz hn _=>?_,fun π hπ a c ha hc=>h.con π hπ a c (.inl (ha.elim id cR)) (.inl (hc.elim id cR))⟩
 by_cases e:z=x
 ·rw [e];exact a
 ·exact h.clo z hz hn e
theorem SI.few (h:SI m sp tk exN R A S):R.length≤m:=by
 have:=lG (k:=(aF m).map fun i:Nat=>(i:Int)) h.nd fun x hx=>by
  obtain ⟨a,b⟩:=h.rng x hx;exact bb.mpr ⟨x.toNat,cg.mpr (by lia),by lia⟩
 rwa [aa,bh] at this
theorem SI.fewX {x:Int}(h:SI m sp tk (· =x) R A S):R.length≤m:=by
 have:=lG (k:=(aF m).map fun i:Nat=>(i:Int)) h.nd fun x hx=>by
  obtain ⟨a,b⟩:=h.rng x hx;exact bb.mpr ⟨x.toNat,cg.mpr (by lia),by lia⟩
 rwa [aa,bh] at this
end
structure SprOk (m:Nat)(sp:List Sn)(tk:List Nat)(S:List Stp):Prop where
 spr:Spr sp S
 inn:∀ s∈S,s.i∈tk∧(s.d=1∨s.d= -1)
 all:∀ i∈tk,i∈S.map Stp.i
 len:S.length≤m
theorem SI.ok (E:kG m sp)(ht:∀ i∈tk,i<sp.length)(h:SI m sp tk exN R [] S)(a:∀ x:Nat,x<m→(x:Int)∈R):SprOk m sp tk S:=by
 refine ⟨h.spr,fun s hs=>⟨(h.inn s hs).1,(h.inn s hs).2.1⟩,fun i hi=>?_,aM h.len h.few⟩;obtain ⟨s0,s1,_,_⟩:=E _ (fc (ht i hi));obtain ⟨f1,_⟩:=pJ (ht i hi);have:=a (sAt sp i).s.toNat (by lia);rw [show (((sAt sp i).s.toNat:Nat):Int)=(sAt sp i).s by lia] at this;exact h.clo _ this (by simp) id ⟨i,1⟩ (oM hi (.inl rfl) f1)
def setT (sp:List Sn)(y:Nat→Int)(ts:List Int)(s:Stp):List Int:=ts.set (eY sp s).toNat (tm ts (kl sp s)+s.d * y s.i)
def jS (sp:List Sn)(y:Nat→Int)(m:Nat)(S:List Stp):List Int:=S.foldl (setT sp y) (bt m 0)
theorem lP {sp:List Sn}{y:Nat→Int}{m:Nat}:∀ (S:List Stp) (ts:List Int),(S.foldl (setT sp y) ts).length=ts.length
 | [],_=>rfl
 | s::S,ts=>by
  rw [bM,lP (m:=m) S];exact e8
theorem l6 {x v:Int}(x0:0≤x)(x1:x<ts.length)(z0:0≤z):tm (ts.set x.toNat v) z=if z=x then v else tm ts z:=by
 unfold tm;rw [ai,ai]
 by_cases e:z=x
 ·rw [qL e,e,dN (by lia)];rfl
 ·rw [qK e,dH (by lia)]
theorem mR {s:Stp}(h:s.i<sp.length):too (sAt sp s.i) s.d=eY sp s∧frm (sAt sp s.i) s.d=kl sp s:=by
 have e:sAt sp s.i=sp[s.i]:=by unfold sAt;rw [ai,gE h];rfl
 rw [e];exact ⟨(kJ h).symm,(mK h).symm⟩
theorem timesS_ok {y:Nat→Int}(E:kG m sp)(h:Spr sp S):(∀ s∈S,s.i<sp.length)→∀ s∈S,tm (jS sp y m S) (eY sp s)=tm (jS sp y m S) (kl sp s)+s.d * y s.i:=by
 induction h with
 | nil=>exact fun _ s hs=>by cases hs
 | snoc h n o ih =>
  rename_i S s;intro hl t ht;have hl':∀ t∈S,t.i<sp.length:=fun t h'=>hl t (aJ _ h')
  have frm_rng:∀ t:Stp,t.i<sp.length→0≤kl sp t:=fun t h'=>by
   have e:=(mR h').2;obtain ⟨a,b,c,d⟩:=E _ (fc h');rw [←e];unfold frm;split <;> lia
  have e:jS sp y m (S++[s])=setT sp y (jS sp y m S) s:=by unfold jS;rw [b9];rfl
  have hs:s.i<sp.length:=hl s (by simp);obtain ⟨x0,x1⟩:=jf E hs;have len:(jS sp y m S).length=m:=by unfold jS;rw [lP (m:=m),dt]
  rw [e];unfold setT
  rcases aH.mp ht with z | z
  ·rw [l6 x0 (by lia) (jf E (hl' t z)).1,l6 x0 (by lia) (frm_rng t (hl' t z)),qK (fun q=>(o t z).1 q.symm),qK (fun q=>(o t z).2 q.symm)]
   exact ih hl' t z
  ·rw [av.mp z,l6 x0 (by lia) x0,l6 x0 (by lia) (frm_rng s hs),qL rfl,qK (fun q=>n q.symm)]
theorem SprOk.pot (E:kG m sp)(ht:∀ i∈tk,i<sp.length)(h:SprOk m sp tk S)(y:Nat→Int):∀ i∈tk,tm (jS sp y m S) (sAt sp i).g - tm (jS sp y m S) (sAt sp i).s=y i:=fun i hi=>by
 obtain ⟨s,hs,rfl⟩:=bb.mp (h.all i hi);have e:=timesS_ok (y:=y) E h.spr (fun t hT=>ht _ (h.inn t hT).1) s hs;obtain ⟨f1,f2,f3,f4⟩:=pJ (ht _ hi);have hd:=(h.inn s hs).2;obtain ⟨i,d⟩:=s
 dsimp only at e f1 f2 f3 f4 hd ⊢
 rcases hd with rfl | rfl
 ·rw [f1,f2] at e;lia
 ·rw [f3,f4] at e;lia
def lowB (bs:List (Int×Int))(k:Nat):Int:=(bs.getD k (0,0)).1
def tabOf (b:Int)(sp:List Sn)(bs:List (Int×Int))(m:Nat)(S:List Stp):List Int:=(jS sp (lowB bs) m S).map (· % b)
abbrev Cse:=List (Int×Int)×List (Nat×List Stp)
def wdB (bs:List (Int×Int))(k:Nat):Nat:=((bs.getD k (0,0)).2 - (bs.getD k (0,0)).1+1).toNat
def prdN:List Nat→Nat
 | []=>1
 | x::l=>x * prdN l
def fk (bs:List (Int×Int))(l:List Nat):Nat:=prdN (l.map (wdB bs))
theorem mW {f g:Nat→Nat}:∀ (l:List Nat),(∀ j∈l,f j=g j)→prdN (l.map f)=prdN (l.map g)
 | [],_=>rfl
 | j::l,h=>by
  show f j * _=g j * _;rw [h j (by simp),mW l fun i hi=>h i (az _ hi)]
theorem qi {f g h:Nat→Nat}{k:Nat}(e:f k=g k+h k):∀ (l:List Nat),l.Nodup→k∈l→(∀ j∈l,j≠k→f j=g j∧f j=h j)→prdN (l.map f)=prdN (l.map g)+prdN (l.map h)
 | [],_,hk,_=>qM hk (by simp)
 | j::l,nd,hk,hh=>by
  rw [bz] at nd;show f j * _=g j * _+h j * _
  by_cases c:j=k
  ·subst c
   have ne:∀ i∈l,i≠j:=fun i hi z=>nd.1 (z ▸ hi)
   rw [←mW (f:=f) (g:=g) l fun i hi=>(hh i (az _ hi) (ne i hi)).1,←mW (f:=f) (g:=h) l fun i hi=>(hh i (az _ hi) (ne i hi)).2,e,Nat.add_mul]
  ·obtain ⟨a1,a2⟩:=hh j (by simp) c
   rw [qi e l nd.2 ((aI.mp hk).resolve_left fun z=>c z.symm) fun i hi=>hh i (az _ hi),Nat.mul_add,←a1,←a2]
theorem prdN_pos {f:Nat→Nat}:∀ (l:List Nat),(∀ j∈l,0<f j)→0<prdN (l.map f)
 | [],_=>Nat.one_pos
 | j::l,h=>Nat.mul_pos (h j (by simp)) (prdN_pos l fun i hi=>h i (az _ hi))
theorem iY {bs:List (Int×Int)}(O:OB sp l bs)(hl:∀ k∈l,k<sp.length):0<fk bs l:=prdN_pos l fun j hj=>by
 have:=O.lo j (hl j hj);unfold wdB;lia
theorem mF {bs:List (Int×Int)}{k:Nat}{a:Int}(O:OB sp l bs)(nd:l.Nodup)(hl:∀ k∈l,k<sp.length)(hk:k∈l)(h1:(bs.getD k (0,0)).1≤a)(h2:a<(bs.getD k (0,0)).2):fk bs l=fk (km bs k a) l+fk (dX bs k a) l:=by
 have hb:=O.len;have hkl:=hl k hk;refine qi ?_ l nd hk fun j hj hn=>?_
 ·unfold wdB km dX
  rw [iE (by lia),iE (by lia),qL rfl,qL rfl];show _=(a - _+1).toNat+(_ - (a+1)+1).toNat;lia
 ·have hjl:=hl j hj
  unfold wdB km dX;rw [iE (by lia),iE (by lia),qK (dB hn),qK (dB hn)];exact ⟨rfl,rfl⟩
theorem kR {sp:List Sn}:∀ (l:List Nat),(∀ k∈l,k<sp.length)→(∀ x∈sp,x.l≤x.o)→((fk (sp.map fun x=>(x.l,x.o)) l:Nat):Int)=kx sp l
 | [],_,_=>rfl
 | k::l,h,p=>by
  have ih:=kR l (fun j hj=>h j (az _ hj)) p;rw [nR,←ih];show ((wdB _ k * fk _ l:Nat):Int)=_;have hk:=h k (by simp);have e:(sp.map fun x=>(x.l,x.o)).getD k (0,0)=((sAt sp k).l,(sAt sp k).o):=by rw [ai,ay,i8 hk];rfl
  have q:=p _ (fc hk);have e2:((wdB (sp.map fun x=>(x.l,x.o)) k:Nat):Int)=(wkey sp k).1+1:=by
   unfold wdB;rw [e];show (((sAt sp k).o - (sAt sp k).l+1).toNat:Int)=(sAt sp k).o - (sAt sp k).l+1;lia
  rw [←e2];exact Int.natCast_mul _ _
structure jy (b:Int)(sp:List Sn)(l:List Nat)(rg:List (Nat×List Stp))(c:Cse):Prop where
 ob:OB sp l c.1
 sub:∀ q∈c.2,q∈rg
 few:c.2.length≤40
 alive:∀ q∈rg,q ∉ c.2→jb b c.1 q.2=false
theorem low_set {bs:List (Int×Int)}{k:Nat}{x:Int×Int}:∀ (ws:List Stp),k ∉ ws.map Stp.i→fZ (bs.set k x) ws=fZ bs ws∧iB (bs.set k x) ws=iB bs ws
 | [],_=>⟨rfl,rfl⟩
 | s::ws,h=>by
  obtain ⟨i1,i2⟩:=low_set (x:=x) ws fun z=>h (az _ z)
  have hs:k≠s.i:=fun z=>h (by rw [z];simp)
  have e:(bs.set k x)[s.i]? =bs[s.i]? := dH hs
  constructor
  ·show lowS _ s+fZ _ ws=lowS _ s+fZ _ ws
   rw [i1];congr 1;unfold lowS;rw [e]
  ·show lN _ s+iB _ ws=lN _ s+iB _ ws
   rw [i2];congr 1;unfold lN;rw [e]
theorem dead_set {bs:List (Int×Int)}{k:Nat}{x:Int×Int}(h:iC k q=false):jb b (bs.set k x) q.2=jb b bs q.2:=by
 obtain ⟨a1,a2⟩:=low_set (bs:=bs) (x:=x) q.2 (of_decide_eq_false h);unfold jb;rw [a1,a2]
theorem jy.cut {rg:List (Nat×List Stp)}{c:Cse}(C:jy b sp l rg c)(lrg:rg.length≤40)(hl:∀ k∈l,k<sp.length)(al:∀ q∈c.2,jb b c.1 q.2=false){k:Nat}{a:Int}(hk:k∈l)(h1:(c.1.getD k (0,0)).1≤a)(h2:a<(c.1.getD k (0,0)).2) :
  jy b sp l rg (dX c.1 k a,rg.filter (iC k))∧jy b sp l rg (km c.1 k a,rg.filter (iC k)):=by
 have sub:∀ q∈rg.filter (iC k),q∈rg:=fun q hq=>(bS.mp hq).1
 have few:(rg.filter (iC k)).length≤40:=aM (cV _ _) lrg;have all:∀ q∈rg,jb b c.1 q.2=false:=fun q hq=>by
  by_cases z:q∈c.2
  ·exact al q z
  ·exact C.alive q hq z
 have out:∀ q∈rg,q ∉ rg.filter (iC k)→iC k q=false:=fun q hq hn=>kZ.mpr fun z=>hn (bS.mpr ⟨hq,z⟩)
 exact ⟨⟨C.ob.other hk (hl k hk) h1 h2,sub,few,fun q hq hn=>(dead_set (out q hq hn)).trans (all q hq)⟩,⟨C.ob.one hk (hl k hk) h1 h2,sub,few,fun q hq hn=>(dead_set (out q hq hn)).trans (all q hq)⟩⟩
theorem dead_none {bs:List (Int×Int)}(hb:0<b)(hl:bs.length=sp.length)(h:InB (j3 b ts sp) bs)(hr:Rg sp ws):jb b bs ws=false:=by
 obtain ⟨Z,_,z1,z2⟩:=ring_in hb hl h hr;unfold jb;exact qO (by lia)
theorem key_pot {m:Int}{rg:List (Nat×List Stp)}{bs:List (Int×Int)}(N:jD b m sp)(f:FF m sp tk rg)(O:OB sp tk bs)(x:Fx b tk rg bs){π:Int→Int}(hπ:∀ i∈tk,π (sAt sp i).g - π (sAt sp i).s=(bs.getD i (0,0)).1)
  (eW:∀ k,k<sp.length→iq b ts (sAt sp k)=(π (sAt sp k).g - π (sAt sp k).s - (sAt sp k).l) % b):∀ k,k<sp.length→(bs.getD k (0,0)).1≤j3 b ts sp k∧j3 b ts sp k≤(bs.getD k (0,0)).2:=fun k hk=>by
 have hb:0<b:=by have:=N.b1;lia
 obtain ⟨ht1,ht2⟩:=f.acy.nodup;have s:=N.all _ (fc hk);have lo:=O.lo k hk;have lay:j3 b ts sp k=(sAt sp k).l+iq b ts (sAt sp k):=by unfold j3;rw [i8 hk]
 rw [lay];have fin:∀ Y,iq b ts (sAt sp k)=Y - (sAt sp k).l→(bs.getD k (0,0)).1≤Y→Y≤(bs.getD k (0,0)).2→(bs.getD k (0,0)).1≤(sAt sp k).l+iq b ts (sAt sp k)∧(sAt sp k).l+iq b ts (sAt sp k)≤(bs.getD k (0,0)).2:=fun Y e y1 y2=>by lia
 by_cases c:k∈tk
 ·have e:=hπ k c
  have fx:=x.fix k c;refine fin (bs.getD k (0,0)).1 ?_ (gm _) (by lia);rw [eW k hk,show π (sAt sp k).g - π (sAt sp k).s - (sAt sp k).l=(bs.getD k (0,0)).1 - b * 0 - (sAt sp k).l by rw [iN];lia];exact rest_in lo.1 (by have:=s.ob;lia)
 ·obtain ⟨r,hr⟩:=f.all k hk c
  have K:=f.rk _ hr;obtain ⟨p,e,P,e1,e2⟩:=oJ K O x.fix;have al:=x.alive _ hr;have al:¬ (upB b (fZ bs r) > iB bs r / b):=by unfold jb at al;simpa using al
  obtain ⟨_,z1,z2⟩:=beat_one hb (lo:=fZ bs r) (hi:=iB bs r) (by lia) (by
   have e1:fZ bs r=_:=e1;have e2:iB bs r=_:=e2;have:=s.ob;rw [e1,e2];show (sAt sp k).o+_ - ((sAt sp k).l+_)<b;lia)
  have ea:=alg_pot ht2 hπ p _ _ (fun s hs=>⟨(P.inn s hs).1,(P.inn s hs).2.2⟩) P.alo;have e1:fZ bs r=(sAt sp k).l+alg (fun k=>(bs.getD k (0,0)).1) p:=e1;have e2:iB bs r=(sAt sp k).o+alg (fun k=>(bs.getD k (0,0)).1) p:=e2;have ea:alg (fun k=>(bs.getD k (0,0)).1) p=π (sAt sp k).s - π (sAt sp k).g:=ea;have eo:=O.out k hk c;rw [eo] at fin ⊢;refine fin (b * upB b (fZ bs r) - alg (fun k=>(bs.getD k (0,0)).1) p) ?_ (by show (sAt sp k).l≤_;lia) (by show _≤(sAt sp k).o;lia);rw [eW k hk];have hs:=s.ob;have:=rest_in (b:=b) (Y:=b * upB b (fZ bs r) - alg (fun k=>(bs.getD k (0,0)).1) p) (l:=(sAt sp k).l) (Z:=upB b (fZ bs r)) (by lia) (by lia);rw [←this];congr 1;lia
theorem fits_lay {m:Int}(h:∀ k,k<sp.length→j3 b ts sp k≤(sAt sp k).o):lr b ts sp=true:=by
 unfold lr;rw [jr,jq];intro s hs;obtain ⟨k,hk,rfl⟩:=cu hs;have eA:sAt sp k=sp[k]:=by unfold sAt;rw [ai,gE hk];rfl
 have:=h k hk;have lay:j3 b ts sp k=(sAt sp k).l+iq b ts (sAt sp k):=by unfold j3;rw [i8 hk]
 rw [lay,eA] at this;unfold brk;rw [qO (by lia)];exact bo
structure Kp (H H':Hp):Prop where
 tup:jL H H'
 lst:∀ q xs,H q=some (.lst xs)→H' q=some (.lst xs)
 frz:∀ q o xs,H q=some (.frz o (.lst xs))→H' q=some (.frz o (.lst xs))
theorem bH.kp (e:bH H H'):Kp H H':=⟨fun _ _ h=>e _ _ h,fun _ _ h=>e _ _ h,fun _ _ _ h=>e _ _ h⟩
theorem Kp.seq (e:Kp H H')(h:SqL K H a xs):SqL K H' a xs:=by
 rcases h with (h | ⟨o,h⟩) | h
 ·exact .inl (.inl (e.lst _ _ h))
 ·exact .inl (.inr ⟨o,e.frz _ _ _ h⟩)
 ·exact .inr h
theorem Kp.trans (a:Kp H H1)(b:Kp H1 H2):Kp H H2:=⟨fun _ _ h=>b.tup _ _ (a.tup _ _ h),fun _ _ h=>b.lst _ _ (a.lst _ _ h),fun _ _ _ h=>b.frz _ _ _ (a.frz _ _ _ h)⟩
theorem Tb.kp {T:aq}(h:L2.LamT T lp lq H)(e:L2.Tb T H H'):Kp H H':=by
 obtain ⟨ps,hT⟩:=LamT.tbl h;exact ⟨fun q _ h=>e q _ (fW h hT nofun) h,fun q _ h=>e q _ (fW h hT nofun) h,fun q _ _ h=>e q _ (fW h hT nofun) h⟩
theorem Kp.upd {x:aq}{fs:List (Str×V)}(h:H x=some (.ins C dx fs)):Kp H (upd H x o) :=
 ⟨fun q _ hq=>by rw [br (fW hq h nofun)];exact hq,fun q _ hq=>by rw [br (fW hq h nofun)];exact hq,fun q _ _ hq=>by rw [br (fW hq h nofun)];exact hq⟩
theorem LamT.ntb {T U:aq}{lp':Pos}{lq':Str}(h:L2.LamT T lp lq H)(hU:L2.LamT U lp' lq' H)(ne:T≠U)(e:L2.Tb U H H'):L2.LamT T lp lq H':=by
 obtain ⟨ps,hT⟩:=LamT.tbl hU
 rcases h with h | ⟨c,h,oc,vs,t,e1,r⟩
 ·exact .inl (e _ _ ne h)
 ·exact .inr ⟨c,e _ _ ne h,oc,vs,t,e _ _ (fW e1 hT nofun) e1,r⟩
theorem lZ {T x:aq}{fs:List (Str×V)}(h:L2.LamT T lp lq H)(hx:H x=some (.ins C dx fs)):L2.LamT T lp lq (L2.upd H x o):=LamT.upd h (fun p u z=>by rw [hx] at z;cases z) (fun ps z=>by rw [hx] at z;cases z)
theorem wayQ_kp {rl:List V}(e:Kp H H')(h:dG H rl (rs.map wayQ)):dG H' rl (rs.map wayQ):=dG.keepP e.tup h (mG rs fun q _=>o6 _ _)
theorem CsD.kp {c:aq}{bs:List (Int×Int)}(a:CsD H c bs rs)(e:Kp H H'):CsD H' c bs rs:=by
 obtain ⟨vb,u,rl,h1,h2,h3,h4⟩:=a.ex;exact ⟨vb,u,rl,e.tup _ _ h1,IsD.keepP e.tup h2 (o6 _ _),e.lst _ _ h3,wayQ_kp e h4⟩
structure TchD (H:Hp)(tl:aq)(n:Nat)(rg:List (Nat×List Stp)):Prop where
 ex:∃ tv,H tl=some (.lst tv)∧tv.length=n∧∀ k,k<n→∃ u rl,tv[k]? =some (.ref u)∧H u=some (.lst rl)∧dG H rl ((rg.filter (iC k)).map wayQ)
theorem TchD.kp {tl:aq}{rg:List (Nat×List Stp)}(a:TchD H tl n rg)(e:Kp H H'):TchD H' tl n rg:=by
 obtain ⟨tv,h1,h2,h3⟩:=a.ex;refine ⟨tv,e.lst _ _ h1,h2,fun k hk=>?_⟩;obtain ⟨u,rl,a1,a2,a3⟩:=h3 k hk;exact ⟨u,rl,a1,e.lst _ _ a2,wayQ_kp e a3⟩
structure CutD (H:Hp)(C x:aq)(sp:List Sn)(l:List Nat)(rg:List (Nat×List Stp)):Prop where
 ex:∃ (dx c0 tl ol:aq) (ord:List Nat),H x=some (.ins C dx [("first_case",.ref c0),("touched",.ref tl),("order",.ref ol)])∧CsD H c0 (sp.map fun z=>(z.l,z.o)) rg∧TchD H tl sp.length rg∧H ol=some (.lst (ord.map fun (i:Nat)=>V.int i))∧ord.Perm l
theorem CutD.same {x:aq}{rg:List (Nat×List Stp)}(a:CutD H C x sp l rg)(e:bH H H'):CutD H' C x sp l rg:=by
 obtain ⟨dx,c0,tl,ol,ord,h1,h2,h3,h4,h5⟩:=a.ex;exact ⟨dx,c0,tl,ol,ord,e _ _ h1,h2.same e,h3.kp (bH.kp e),e _ _ h4,h5⟩
structure CsE (Hb H:Hp)(c:aq)(bs:List (Int×Int))(rs:List (Nat×List Stp)):Prop where
 ex:∃ vb u rl,H c=some (.tup [vb,.ref u])∧IsD H vb (bndP bs)∧Hb u=some (.lst rl)∧dG Hb rl (rs.map wayQ)
theorem CsE.dn {Hb:Hp}{c:aq}{bs:List (Int×Int)}(a:CsE Hb H c bs rs)(e:bH Hb H):CsD H c bs rs:=by
 obtain ⟨vb,u,rl,h1,h2,h3,h4⟩:=a.ex;exact ⟨vb,u,rl,h1,h2,e _ _ h3,h4.same e⟩
theorem CsE.keep {Hb:Hp}{c:aq}{bs:List (Int×Int)}(a:CsE Hb H c bs rs)(e:jL H H'):CsE Hb H' c bs rs:=by
 obtain ⟨vb,u,rl,h1,h2,h3,h4⟩:=a.ex;exact ⟨vb,u,rl,e _ _ h1,IsD.keepP e h2 (o6 _ _),h3,h4⟩
inductive spInitC (T0:aq)(p0:Pos)(q0:Str)(T1:aq)(p1:Pos)(q1:Str)(C:aq)(vs:List V)(H:Hp)(Q:VK)(_:XK):Prop
 | mk (x dx:aq)(v:V)(b m:Int)(sp:List Sn)(_:vs=[.ref x,v])(_:H x=some (.ins C dx []))(_:IsD H v (jA b m sp))(_:jD b m sp)(_:L2.LamT T0 p0 q0 H)(_:L2.LamT T1 p1 q1 H)(_:∀ (l:List Nat) (rg:List (Nat×List Stp)) (H':Hp),(∀ a o,a≠T0→a≠T1→a≠x→H a=some o→H' a=some o)→Kp H H'→L2.LamT T0 p0 q0 H'→L2.LamT T1 p1 q1 H'→FR m sp l rg→CutD H' C x sp l rg→Q .non H')
inductive spSpanC (C:aq)(vs:List V)(H:Hp)(Q:VK)(_:XK):Prop
 | mk (x c:aq)(sp:List Sn)(l:List Nat)(rg rs:List (Nat×List Stp))(bs:List (Int×Int))(_:vs=[.ref x,.ref c])(_:CutD H C x sp l rg)(_:CsD H c bs rs)(_:(∀ k∈l,k<bs.length))(_:l.length≤40)(_:((∀ k∈l,¬ ((bs.getD k (0,0)).1<(bs.getD k (0,0)).2))→Q .non H))(_:∀ k∈l,(bs.getD k (0,0)).1<(bs.getD k (0,0)).2→Q (.int (k:Nat)) H)
inductive spSidesC (C:aq)(vs:List V)(H:Hp)(Q:VK)(_:XK):Prop
 | mk (Hb:Hp)(x c:aq)(k:Nat)(a:Int)(sp:List Sn)(l:List Nat)(rg rs:List (Nat×List Stp))(bs:List (Int×Int))(_:vs=[.ref x,.ref c,.int (k:Nat),.int a])(_:bH Hb H)(_:CutD Hb C x sp l rg)(_:CsD H c bs rs)(_:k<bs.length)(_:bs.length=sp.length)(_:bs.length≤40)(_:∀ (L q1 q2:aq) (H':Hp),bH H H'→H L=none→H' L=some (.lst [.ref q1,.ref q2])→CsE Hb H' q1 (dX bs k a) (rg.filter (iC k))→CsE Hb H' q2 (km bs k a) (rg.filter (iC k))→Q (.ref L) H')
theorem ord_perm (h:π.Perm (aF l.length)):(π.map fun i=>l.getD i 0).Perm l:=by
 have e:(aF l.length).map (fun i=>l.getD i 0)=l:=by
  refine List.ext_getElem (by rw [aa,bh]) fun i h1 h2=>?_
  rw [jF,kr,ai,gE h2];rfl
 have:=h.map (fun i=>l.getD i 0)
 rwa [e] at this
theorem tm_mod {x:Int}:tm (ts.map (· % b)) x=tm ts x % b:=by
 unfold tm;rw [ai,ai,ay];cases ts[x.toNat]? with
 | none=>exact (Int.zero_emod b).symm
 | some y=>rfl
def nX (b m:Int)(sp:List Sn)(t:List Int):Prop:=t.length=m.toNat∧(∀ x∈t,0≤x∧x<b)∧lr b t sp=true
theorem tab_ok {m:Int}{rg:List (Nat×List Stp)}{bs:List (Int×Int)}(N:jD b m sp)(f:FF m sp l rg)(O:OB sp l bs)(x:Fx b l rg bs)(h:SprOk m.toNat sp l S) :
  nX b m sp (tabOf b sp bs m.toNat S)∧∀ k,k<sp.length→(bs.getD k (0,0)).1≤j3 b (tabOf b sp bs m.toNat S) sp k∧j3 b (tabOf b sp bs m.toNat S) sp k≤(bs.getD k (0,0)).2:=by
 have hb:0<b:=by have:=N.b1;lia
 have ht2:=f.acy.nodup.2;have key:=key_pot N f O x (ts:=tabOf b sp bs m.toNat S) (π:=tm (jS sp (lowB bs) m.toNat S)) (fun i hi=>h.pot N.ends ht2 (lowB bs) i hi) fun k hk=>by
  unfold iq tabOf;rw [tm_mod,tm_mod,rest_two]
 refine ⟨⟨?_,fun y hy=>?_,fits_lay (m:=m) fun k hk=>?_⟩,key⟩
 ·unfold tabOf jS
  rw [aa,lP (m:=0),dt]
 ·obtain ⟨z,_,rfl⟩:=bb.mp hy
  exact ⟨fb _ (by lia),eE _ hb⟩
 ·have:=key k hk
  have:=(O.lo k hk).2.2;lia
def psC (l:List Nat):List Cse→Nat
 | []=>0
 | c::cs=>fk c.1 l+psC l cs
theorem oZ (l:List Nat):∀ (cs ds:List Cse),psC l (cs++ds)=psC l cs+psC l ds
 | [],ds=>(Nat.zero_add _).symm
 | c::cs,ds=>by
  show _+psC l (cs++ds)=_+psC l cs+psC l ds;rw [oZ l cs ds];lia
structure SrcI (b m:Int)(sp:List Sn)(l:List Nat)(rg:List (Nat×List Stp))(cs:List Cse)(Ts:List (List Int)):Prop where
 ok:∀ c∈cs,jy b sp l rg c
 tabs:∀ t∈Ts,nX b m sp t
 hold:∀ T,lr b T sp=true→(∃ t∈Ts,∀ k∈l,j3 b t sp k=j3 b T sp k)∨∃ c∈cs,InB (j3 b T sp) c.1
 cnt:Ts.length+psC l cs≤fk (sp.map fun x=>(x.l,x.o)) l
def szC (l:List Nat):List Cse→Nat
 | []=>0
 | c::cs=>(2 * fk c.1 l - 1)+szC l cs
theorem mq (l:List Nat):∀ (cs ds:List Cse),szC l (cs++ds)=szC l cs+szC l ds
 | [],ds=>(Nat.zero_add _).symm
 | c::cs,ds=>by
  show _+szC l (cs++ds)=_+szC l cs+szC l ds;rw [mq l cs ds];lia
section
variable {m:Int}{rg:List (Nat×List Stp)}{cs:List Cse}{c:Cse}
theorem szC_len (hl:∀ k∈l,k<sp.length):∀ (cs:List Cse),(∀ c∈cs,jy b sp l rg c)→cs.length≤szC l cs
 | [],_=>aA _
 | c::cs,h=>by
  have ih:=szC_len hl cs fun d hd=>h d (az _ hd)
  have:=iY (h c (by simp)).ob hl;show cs.length+1≤2 * fk c.1 l - 1+szC l cs;lia
theorem SrcI.start (N:jD b m sp)(hl:rg.length≤40):SrcI b m sp l rg [(sp.map fun x=>(x.l,x.o),rg)] []:=by
 have hb:0<b:=by have:=N.b1;lia
 refine ⟨fun c hc=>?_,fun t h=>qM h (by simp),fun T hT=> .inr ⟨_,av.mpr rfl,lay_in hb hT⟩,by show 0+(fk (sp.map fun x=>(x.l,x.o)) l+0)≤_;lia⟩;rw [av.mp hc];exact ⟨OB.first N l,fun q hq=>hq,hl,fun q hq hn=>qM hq hn⟩
theorem SrcI.dead (N:jD b m sp)(f:FF m sp l rg)(I:SrcI b m sp l rg (cs++[c]) Ts)(hq:q∈c.2)(hd:jb b c.1 q.2=true):SrcI b m sp l rg cs Ts:=by
 have hb:0<b:=by have:=N.b1;lia
 have C:=I.ok c (by simp);refine ⟨fun d hd=>I.ok d (aJ _ hd),I.tabs,fun T hT=>?_,by have:=I.cnt;rw [oZ] at this;lia⟩
 rcases I.hold T hT with h | ⟨d,h1,h2⟩
 ·exact .inl h
 ·rcases aH.mp h1 with z | z
  ·exact .inr ⟨d,z,h2⟩
  ·rw [av.mp z] at h2
   have:=f.few;have m2:=N.m2;rw [dead_none hb C.ob.len h2 ((f.rk q (C.sub q hq)).rg N (by lia))] at hd;cases hd
theorem jy.all (C:jy b sp l rg c)(al:∀ q∈c.2,jb b c.1 q.2=false):∀ q∈rg,jb b c.1 q.2=false:=fun q hq=>by
 by_cases z:q∈c.2
 ·exact al q z
 ·exact C.alive q hq z
theorem SrcI.leaf (N:jD b m sp)(f:FF m sp l rg)(h:SprOk m.toNat sp l S)(I:SrcI b m sp l rg (cs++[c]) Ts)(al:∀ q∈c.2,jb b c.1 q.2=false)(fx:∀ k∈l,¬ ((c.1.getD k (0,0)).1<(c.1.getD k (0,0)).2)):SrcI b m sp l rg cs (Ts++[tabOf b sp c.1 m.toNat S]):=by
 have C:=I.ok c (by simp);have ht2:=f.acy.nodup.2;have fix:∀ k∈l,(c.1.getD k (0,0)).1=(c.1.getD k (0,0)).2:=fun k hk=>by
  have:=(C.ob.lo k (ht2 k hk)).2.1;have:=fx k hk;lia
 obtain ⟨t1,t2⟩:=tab_ok N f C.ob ⟨fix,C.all al⟩ h;have pc:=iY C.ob ht2;refine ⟨fun d hd=>I.ok d (aJ _ hd),fun t ht=>?_,fun T hT=>?_,by have:=I.cnt;rw [oZ] at this;have e:psC l [c]=fk c.1 l+0:=rfl;rw [ar];show Ts.length+1+_≤_;lia⟩
 ·rcases aH.mp ht with z | z
  ·exact I.tabs t z
  ·rw [av.mp z];exact t1
 ·rcases I.hold T hT with ⟨t,h1,h2⟩ | ⟨d,h1,h2⟩
  ·exact .inl ⟨t,aJ _ h1,h2⟩
  ·rcases aH.mp h1 with z | z
   ·exact .inr ⟨d,z,h2⟩
   ·rw [av.mp z] at h2
    refine .inl ⟨_,aK _ (av.mpr rfl),fun k hk=>?_⟩;have a1:=t2 k (ht2 k hk);have a2:=h2 k (by rw [C.ob.len];exact ht2 k hk);have a3:=fix k hk;lia
theorem SrcI.cut (N:jD b m sp)(f:FF m sp l rg)(lrg:rg.length≤40)(I:SrcI b m sp l rg (cs++[c]) Ts)(al:∀ q∈c.2,jb b c.1 q.2=false){k:Nat}{a:Int}(hk:k∈l)(h1:(c.1.getD k (0,0)).1≤a)(h2:a<(c.1.getD k (0,0)).2) :
  SrcI b m sp l rg (cs++[(dX c.1 k a,rg.filter (iC k)),(km c.1 k a,rg.filter (iC k))]) Ts∧szC l (cs++[(dX c.1 k a,rg.filter (iC k)),(km c.1 k a,rg.filter (iC k))])<szC l (cs++[c]):=by
 have C:=I.ok c (by simp);have ht2:=f.acy.nodup.2;obtain ⟨o1,o2⟩:=C.cut lrg ht2 al hk h1 h2;refine ⟨⟨fun d hd=>?_,I.tabs,fun T hT=>?_,?_⟩,?_⟩
 ·rcases aH.mp hd with z | z
  ·exact I.ok d (aJ _ z)
  ·rcases aI.mp z with rfl | z
   ·exact o1
   ·rw [av.mp z];exact o2
 ·rcases I.hold T hT with h | ⟨d,d1,d2⟩
  ·exact .inl h
  ·rcases aH.mp d1 with z | z
   ·exact .inr ⟨d,aJ _ z,d2⟩
   ·rw [av.mp z] at d2
    by_cases e:j3 b T sp k≤a
    ·exact .inr ⟨(km c.1 k a,rg.filter (iC k)),by simp,inB_one d2 e⟩
    ·exact .inr ⟨(dX c.1 k a,rg.filter (iC k)),by simp,inB_other d2 (by lia)⟩
 ·have h0:=I.cnt
  rw [oZ] at h0 ⊢;have e:=mF C.ob f.acy.nodup.1 ht2 hk h1 h2;have e1:psC l [c]=fk c.1 l+0:=rfl;have e2:psC l [(dX c.1 k a,rg.filter (iC k)),(km c.1 k a,rg.filter (iC k))]=fk (dX c.1 k a) l+(fk (km c.1 k a) l+0):=rfl;lia
 ·rw [mq,mq]
  show _+((2 * fk (dX c.1 k a) l - 1)+((2 * fk (km c.1 k a) l - 1)+0))<_+((2 * fk c.1 l - 1)+0);have p1:=iY o1.ob ht2;have p2:=iY o2.ob ht2;have e:=mF C.ob f.acy.nodup.1 ht2 hk h1 h2;have p1:0<fk (dX c.1 k a) l:=p1;have p2:0<fk (km c.1 k a) l:=p2;lia
theorem SrcI.less (f:FF m sp l rg)(I:SrcI b m sp l rg (cs++[c]) Ts):szC l cs<szC l (cs++[c]):=by
 have:=iY (I.ok c (by simp)).ob f.acy.nodup.2;rw [mq];show _<_+((2 * fk c.1 l - 1)+0);lia
end
def CsL (Hb Hc:Hp):List V→List Cse→Prop:=jx fun v c=>∃ q,v= .ref q∧CsE Hb Hc q c.1 c.2
theorem CsL.keep {Hb Hd:Hp}(e:jL Hc Hd){cs:List Cse}(h:CsL Hb Hc zs cs):CsL Hb Hd zs cs:=L2.Paired.mapP h fun _ _ ⟨q,a,b⟩=>⟨q,a,b.keep e⟩
theorem Paired.app {α β:Type}{R:α→β→Prop}:∀ {xs:List α} {ys:List β} {us:List α} {vs:List β},jx R xs ys→jx R us vs→jx R (xs++us) (ys++vs)
 | _,_,_,_,.nil,h=>h
 | _,_,_,_,.cons r t,h=> .cons r (Paired.app t h)
theorem Paired.len {α β:Type}{R:α→β→Prop}:∀ {xs:List α} {ys:List β},jx R xs ys→xs.length=ys.length
 | _,_,.nil=>rfl
 | _,_,.cons _ t=>qQ (· + 1) (Paired.len t)
theorem Paired.snoc_of {α β:Type}{R:α→β→Prop}:∀ {ys:List β} {zs:List α} {y:β},jx R zs (ys++[y])→∃ xs x,zs=xs++[x]∧jx R xs ys∧R x y
 | [],_,_,.cons r .nil=>⟨[],_,rfl,.nil,r⟩
 | _::_,_,_,.cons r t=>by
  obtain ⟨xs,x,rfl,a,b⟩:=Paired.snoc_of t;exact ⟨_::xs,x,rfl,.cons r a,b⟩
inductive spTabF (T0:aq)(p0:Pos)(q0:Str)(T1:aq)(p1:Pos)(q1:Str)(vs:List V)(H:Hp)(Q:VK)(_:XK):Prop
 | mk (v:V)(b m:Int)(sp:List Sn)(most:Nat)(_:vs=[v,.int (most:Nat)])(_:IsD H v (jA b m sp))(_:jD b m sp)(_:most≤4096)(_:(∀ l,i7 m.toNat sp l→kx sp l≤4096))(_:L2.LamT T0 p0 q0 H)(_:L2.LamT T1 p1 q1 H)(_:∀ (L:aq) (tv:List V) (l:List Nat) (rg:List (Nat×List Stp)) (Ts:List (List Int)) (H':Hp),(∀ a o,a≠T0→a≠T1→H a=some o→H' a=some o)→Kp H H'→L2.LamT T0 p0 q0 H'→L2.LamT T1 p1 q1 H'→H' L=some (.lst tv)→dG H' tv (cW id Ts)→FR m sp l rg→(∀ t∈Ts,nX b m sp t)→Ts.length≤most→(Ts.length<most∨most=4096→∀ T,lr b T sp=true→∃ t∈Ts,∀ k∈l,j3 b t sp k=j3 b T sp k)→Q (.ref L) H')
inductive Mrk where
 | leaf (d:Dt)
 | cut (k:Nat) (a:Int)
def mrkD:Mrk→Dt
 | .leaf d=>d
 | .cut k a=> .tup [.str "cut",.int (k:Nat),.int a]
def pre:Tq→List Mrk
 | .leaf d=>[.leaf d]
 | .cut k a x y=> .cut k a::(pre x++pre y)
def stpT:Option (List Tq)→Mrk→Option (List Tq)
 | some s,.leaf d=>some (.leaf d::s)
 | some (x::y::s),.cut k a=>some (.cut k a x y::s)
 | _,_=>none
theorem stp_none:∀ (l:List Mrk),l.foldl stpT none=none
 | []=>rfl
 | .leaf _::l=>stp_none l
 | .cut _ _::l=>stp_none l
theorem stp_pre:∀ (t:Tq) (s:List Tq),(pre t).reverse.foldl stpT (some s)=some (t::s)
 | .leaf d,s=>rfl
 | .cut k a x y,s=>by
  show (Mrk.cut k a::(pre x++pre y)).reverse.foldl stpT (some s)=_;rw [eR,List.reverse_append,b9,b9,stp_pre y,stp_pre x];rfl
theorem stp_at {l:List Mrk}{r:List Tq}(h:l.foldl stpT (some [])=some r){m:Mrk}{s:List Tq}(hm:l[i]? =some m)(hs:(l.take i).foldl stpT (some [])=some s):∃ s',stpT (some s) m=some s'∧(l.take (i+1)).foldl stpT (some [])=some s':=by
 have hi:=(ao.mp hm).1;have e:(l.take (i+1)).foldl stpT (some [])=stpT (some s) m:=by
  rw [bj,hm,b9,hs];rfl
 cases q:stpT (some s) m with
 | some s'=>exact ⟨s',rfl,by rw [e,q]⟩
 | none =>
  exfalso;rw [←List.take_append_drop (i+1) l,b9,e,q,stp_none] at h;cases h
def LeafW (d:Dt):Prop:=pl d=true∧∃ w x,d= .tup [.str w,x]∧w ≠ "cut"
theorem pl_cut {k:Nat}{a:Int}{x y:Tq}(hx:pl (jR x)=true)(hy:pl (jR y)=true):pl (jR (.cut k a x y))=true:=by
 show pl (.tup [.str "cut",.int (k:Nat),.int a,jR x,jR y])=true;simp [pl,pls,hx,hy]
theorem dG.snocD {H:Hp}:∀ {ds:List Dt} {zs:List V} {d:Dt},dG H zs (ds++[d])→∃ zs' z,zs=zs'++[z]∧dG H zs' ds∧IsD H z d
 | [],_,_,.cons h .nil=>⟨[],_,rfl,.nil,h⟩
 | _::_,_,_,.cons h t=>by
  obtain ⟨zs',z,rfl,a,b⟩:=dG.snocD t;exact ⟨_::zs',z,rfl,.cons h a,b⟩
def GoodT (R:List (Int×Int)→Dt→Prop):Tq→List (Int×Int)→Nat→Prop
 | .leaf d,bs,_=>R bs d
 | .cut _ _ _ _,_,0=>False
 | .cut k a x y,bs,n+1=>k<bs.length∧(bs.getD k (0,0)).1≤a∧a<(bs.getD k (0,0)).2∧GoodT R x (km bs k a) n∧GoodT R y (dX bs k a) n
def pR (R:List (Int×Int)→Dt→Prop)(l:List Nat)(c:Cse)(t:Tq):Prop:=∀ n,2 ^ n * fk c.1 l≤3 ^ n→GoodT R t c.1 n
theorem nS {f g:Nat→Nat}{k:Nat}:∀ (l:List Nat),l.Nodup→k∈l→(∀ j∈l,j≠k→f j=g j)→prdN (l.map g) * f k=prdN (l.map f) * g k
 | [],_,hk,_=>qM hk (by simp)
 | j::l,nd,hk,hh=>by
  rw [bz] at nd;show g j * _ * f k=f j * _ * g k
  by_cases c:j=k
  ·subst c
   have ne:∀ i∈l,i≠j:=fun i hi z=>nd.1 (z ▸ hi)
   rw [←mW (f:=f) (g:=g) l fun i hi=>hh i (az _ hi) (ne i hi),iJ (g j),iJ (f j),gp,gp,iJ (g j)]
  ·rw [hh j (by simp) c,gp,gp,nS l nd.2 ((aI.mp hk).resolve_left fun z=>c z.symm) fun i hi=>hh i (az _ hi)]
theorem scale_le {F G f g:Nat}(e:G * f=F * g)(h:3 * g≤2 * f)(hf:0<f):3 * G≤2 * F:=by
 have h1:3 * G * f≤2 * F * f:=by
  rw [gp,e,iJ F g,←gp,gp 2 F f,iJ F f,←gp];exact Nat.mul_le_mul_right F h
 exact Nat.le_of_mul_le_mul_right h1 hf
theorem prodC_mid {bs:List (Int×Int)}{k:Nat}{a:Int}(O:OB sp l bs)(nd:l.Nodup)(hl:∀ k∈l,k<sp.length)(hk:k∈l)(h:(bs.getD k (0,0)).1<(bs.getD k (0,0)).2)(ha:a=((bs.getD k (0,0)).1+(bs.getD k (0,0)).2) / 2) :
  3 * fk (km bs k a) l≤2 * fk bs l∧3 * fk (dX bs k a) l≤2 * fk bs l:=by
 have hb:=O.len;have hkl:=hl k hk;have wk1:wdB (km bs k a) k=(a - (bs.getD k (0,0)).1+1).toNat:=by unfold wdB km;rw [iE (by lia),qL rfl]
 have wk2:wdB (dX bs k a) k=((bs.getD k (0,0)).2 - (a+1)+1).toNat:=by unfold wdB dX;rw [iE (by lia),qL rfl]
 have w0:wdB bs k=((bs.getD k (0,0)).2 - (bs.getD k (0,0)).1+1).toNat:=rfl
 constructor
 ·refine scale_le (nS (f:=wdB bs) (g:=wdB (km bs k a)) (k:=k) l nd hk fun j hj hn=>?_) (by rw [wk1,w0];lia) (by rw [w0];lia)
  have hjl:=hl j hj;unfold wdB km;rw [iE (by lia),qK (dB hn)]
 ·refine scale_le (nS (f:=wdB bs) (g:=wdB (dX bs k a)) (k:=k) l nd hk fun j hj hn=>?_) (by rw [wk2,w0];lia) (by rw [w0];lia)
  have hjl:=hl j hj;unfold wdB dX;rw [iE (by lia),qK (dB hn)]
section
variable {R:List (Int×Int)→Dt→Prop}{c c0:Cse}{k:Nat}{a:Int}{x y:Tq}{ms:List Mrk}{cr:List Cse}{d:Dt}{rs':List (Nat×List Stp)}
theorem pR.leaf (h:R c.1 d):pR R l c (.leaf d):=fun n _=>by
 cases n <;> exact h
theorem pR.cut (hk:k<c.1.length)(h1:(c.1.getD k (0,0)).1≤a)(h2:a<(c.1.getD k (0,0)).2)(p2:2≤fk c.1 l)(m1:3 * fk (km c.1 k a) l≤2 * fk c.1 l)(m2:3 * fk (dX c.1 k a) l≤2 * fk c.1 l)
  (gx:pR R l (km c.1 k a,rs) x) (gy:pR R l (dX c.1 k a,rs') y):pR R l c (.cut k a x y):=fun n hn=>by
 cases n with
 | zero=>simp at hn;lia
 | succ n =>
  have key:∀ p,3 * p≤2 * fk c.1 l→2 ^ n * p≤3 ^ n:=fun p hp=>by
   have h3:2 ^ n * (3 * p)≤2 ^ n * (2 * fk c.1 l):=Nat.mul_le_mul_left _ hp;rw [Nat.pow_succ,Nat.pow_succ,gp] at hn;rw [Nat.mul_left_comm] at h3;lia
  exact ⟨hk,h1,h2,gx n (key _ m1),gy n (key _ m2)⟩
def Wn (R:List (Int×Int)→Dt→Prop)(l:List Nat)(c0:Cse)(ms:List Mrk)(cr:List Cse):Prop:=∀ F:List Tq,jx (pR R l) cr F→∃ t,ms++F.flatMap pre=pre t∧pR R l c0 t
theorem Wn.start:Wn R l c0 [] [c0]:=fun F h=>by
 cases h with
 | cons g r=>cases r;exact ⟨_,by simp,g⟩
theorem Wn.leaf (h:Wn R l c0 ms (c::cr))(r:R c.1 d):Wn R l c0 (ms++[.leaf d]) cr:=fun F hF=>by
 obtain ⟨t,e,g⟩:=h (.leaf d::F) (.cons (pR.leaf r) hF);exact ⟨t,by rw [←e];simp [pre],g⟩
theorem Wn.cut (h:Wn R l c0 ms (c::cr))(hk:k<c.1.length)(h1:(c.1.getD k (0,0)).1≤a)(h2:a<(c.1.getD k (0,0)).2)(p2:2≤fk c.1 l)(m1:3 * fk (km c.1 k a) l≤2 * fk c.1 l)(m2:3 * fk (dX c.1 k a) l≤2 * fk c.1 l):Wn R l c0 (ms++[.cut k a]) ((km c.1 k a,rs)::(dX c.1 k a,rs')::cr):=fun F hF=>by
 cases hF with
 | cons gx r =>
  cases r with
  | cons gy r =>
   rename_i x y F;obtain ⟨t,e,g⟩:=h (.cut k a x y::F) (.cons (pR.cut hk h1 h2 p2 m1 m2 gx gy) r);exact ⟨t,by rw [←e];simp [pre],g⟩
theorem Wn.fin (h:Wn R l c0 ms []):∃ t,ms=pre t∧pR R l c0 t:=by
 obtain ⟨t,e,g⟩:=h [] .nil;exact ⟨t,by rw [←e];simp,g⟩
end
inductive spTreeF (vs:List V)(H:Hp)(Q:VK)(_:XK):Prop
 | mk (L:aq)(ys:List V)(ms:List Mrk)(t:Tq)(_:vs=[.ref L])(_:H L=some (.lst ys))(_:dG H ys (ms.map mrkD))(_:ms=pre t)(_:(∀ d,Mrk.leaf d∈ms→LeafW d))(_:ms.length≤10000)(_:∀ u H',bH H H'→IsD H' u (jR t)→Q u H')
end HN
namespace L2
open PySem PySem.W PySem.Spec PyProof.Rows
theorem law_callTs {mb:Str→Option ae}{k:Nat}{fa:aq}{Ts:List aq}{sp:Sp}{s₁:ax}
  (KX:K.In s₁.heap) (hns:s₁.heap.Ns bQ mg) (hb:s₁.heap.Ns builtinsNs mb) (hbb:∀ x:Str,x ≠ "__name__" →mb x=bootBuiltins x) (hlim:s₁.heap.NoLimit) (hg:s₁.gens= #[])
  (hbm:BM mg s₁.heap) (hT:∀ T∈Ts,s₁.heap.get? T=some (tabObj #[])) (C:∀ T∈Ts,∃ c,codeHdIn K c T=true) (nt:noTabs K=true)
  (ha:s₁.heap.get? a=some { cls:= .type "list",data:= .seq vs.toArray }) (hi:IntsAre vs ns) (hl:ns.length≤aZ) (hr:gN k callerA)
  (F:∀ base:bL,K.In base→base.Ns bQ mg→BM mg base→cM P w K mg base CX k fa fd [x] sp) (hbind:∀ (s:ax) (u:ae),BindsTo s fd ⟨[u],[]⟩ [(x,u)])
  (hsp:∀ H:Hp,(∀ T∈Ts,H T=some (.tbl #[]))→SqL K H a (ns.map V.int)→sp [.ref a] H (fun v _=>v= .bl true) fun _ _ _=>False)
  (hCX:∀ H e s',CX [] H s₁ (fun _ _ _=>False) e s'→False) :
  codeAny (bw P w) callerA (.call (.ref fa) ⟨[.ref a],[]⟩) (fun r s'=>r= .ok (.ret (.bool true))∧OldK s₁.heap s'.heap∧s'.os=s₁.os∧AllBare s'.gens) s₁:=by
 have rv:=oH hi;have lenV:=hi.length;have hTK:∀ T∈Ts,K.lookup T=none:=fun T mT=>by
  cases q:K.lookup T with
  | none=>rfl
  | some o =>
   have e:=KX T o q;rw [hT T mT] at e;cases e;have z:=gF.mp nt (T,tabObj #[]) (mem_of_lookupK q);cases z
 have aT:a ∉ Ts:=fun z=>by rw [hT a z] at ha;cases ha
 have isT:∀ T∈Ts,isCodeTable s₁.heap T:=fun T mT=>by obtain ⟨c,C⟩:=C T mT;exact ((codeHd_of_K KX C).tab (hT T mT)).isCodeTable
 have core:∀ H:Hp,SqL K H a (ns.map V.int)→HOk P w H s₁.heap→(∀ T∈Ts,H T=some (.tbl #[]))→(∀ b,H b≠none→b ∉ Ts→b=a∧∃ o xs,H b=some (.frz o (.lst xs)))→(H a≠none→K.lookup a=none) →
   codeAny (bw P w) callerA (.call (.ref fa) ⟨[.ref a],[]⟩) (fun r s'=>r= .ok (.ret (.bool true))∧OldK s₁.heap s'.heap∧s'.os=s₁.os∧AllBare s'.gens) s₁:=by
  intro H hS hok hHT hA hK;have base_of:∀ {b:aq} {o:Obj},s₁.heap.get? b=some o→H b=none→(hidT s₁.heap H).get? b=some o:=fun e n=>hidT_get e n
  have no2:∀ {b:aq} {o:Obj},s₁.heap.get? b=some o→o≠tabObj #[]→o≠{ cls:= .type "list",data:= .seq vs.toArray }→H b=none:=fun {b o} e d1 d2=>by
   cases q:H b with
   | none=>rfl
   | some u =>
    by_cases hbT:b∈Ts
    ·rw [hT b hbT] at e;cases e;exact qM rfl d1
    ·have e':b=a:=(hA b (by rw [q];simp) hbT).1
     subst e';rw [ha] at e;cases e;exact qM rfl d2
  have nsK:∀ {b:aq} {m:Str→Option ae},s₁.heap.Ns b m→(hidT s₁.heap H).Ns b m:=fun {b m} ⟨o,es,ep,e,d,r⟩=>⟨o,es,ep,base_of e (no2 e (fun z=>by subst z;cases d) (fun z=>by subst z;cases d)),d,r⟩
  have hKb:K.In (hidT s₁.heap H):=fun b o e=>base_of (KX b o e) (by
   cases q:H b with
   | none=>rfl
   | some u =>
    by_cases hbT:b∈Ts
    ·rw [hTK b hbT] at e;cases e
    ·have e':b=a:=(hA b (by rw [q];simp) hbT).1
     subst e';rw [hK (by rw [q];simp)] at e;cases e)
  have hM:Mod K mg (hidT s₁.heap H):=⟨hKb,nsK hns,⟨mb,nsK hb,hbb⟩,let ⟨mc,h1,h2⟩:=hlim;⟨mc,nsK h1,h2⟩⟩;have hBM:BM mg (hidT s₁.heap H):=by
   obtain ⟨bm,ob,b1,b2,b3,b4,b5,b6,b7⟩:=hbm;exact ⟨bm,ob,b1,b2,b3,base_of b4 (no2 b4 (fun z=>by subst z;cases b5) (fun z=>by subst z;cases b7)),b5,b6,b7⟩
  have e0:Env0 P w K mg (hidT s₁.heap H) callerA [] s₁ H:=⟨rfl,hM,fun b o e=>of_hidT e,Nat.le_of_eq (hidT_size _ _),trivial,fun b hb=>qM (show b∈([]:List aq) from hb) (by simp),hok,.of_eq hg⟩;refine codeAny_mono ((F _ hKb (nsK hns) hBM).run callerA [] s₁ H ⟨[.ref a],[]⟩ [.ref a] [.ref a] _ _ hr e0 (hbind s₁ (.ref a)) (.cons rfl .nil) (hsp H hHT hS)) fun r s' h=>?_
  cases r with
  | error e=>exact (hCX H e s' h).elim
  | ok fl =>
   cases fl with
   | next=>exact cR h
   | brk=>exact cR h
   | cont=>exact cR h
   | ret u =>
    obtain ⟨v,H',os,bare,un,hok',r',q⟩:=h;have q':v= .bl true:=q;subst q';obtain rfl:u=ae.bool true:=r';have tT:∀ T∈Ts,∃ more,s'.heap.get? T=some (tabObj (#[]++more)):=fun T mT=>by
     obtain ⟨more,eT⟩:=un.tbls T _ (hHT T mT);exact ⟨more,hok' T _ eT⟩
    have stay:∀ b o,s₁.heap.get? b=some o→b ∉ Ts→s'.heap.get? b=some o:=fun b o e hbT=>by
     cases q:H b with
     | none=>exact un.keep b o e q (by intro z;exact qM (show b∈([]:List aq) from z) (by simp)) (by simp)
     | some u =>
      obtain ⟨_,ob,xs,z⟩:=hA b (by rw [q];simp) hbT;have z2:=un.frzs b ob _ z;obtain ⟨e1,_⟩:=hok b _ z;obtain ⟨e2,_⟩:=hok' b _ z2;rw [e] at e1;cases e1;exact e2
    refine ⟨rfl,⟨fun b o e=>?_,fun b o e=>?_⟩,os,bare⟩
    ·by_cases hbT:b∈Ts
     ·rw [hT b hbT] at e;cases e
      obtain ⟨more,tb⟩:=tT b hbT;exact .inr (.inl ⟨isT b hbT,rfl,#[],more,rfl,tb⟩)
     ·exact .inl (stay b o e hbT)
    ·by_cases hbT:b∈Ts
     ·obtain ⟨more,tb⟩:=tT b hbT;exact ⟨_,tb⟩
     ·exact ⟨o,stay b o e hbT⟩
 cases hk:K.lookup a with
 | some o =>
  have e:=KX a o hk;rw [ha] at e;cases e;refine core (fun b=>if b∈Ts then some (.tbl #[]) else none) (.inr ⟨_,vs.toArray,_,hk,rfl,rfl,rfl,by rw [aG,lenV];exact hl,by simpa using rv⟩) (fun b u z=>?_) (fun T mT=>qL mT) (fun b z hb=>qM (qK hb) z) fun z=>qM (qK aT) z
  by_cases hb:b∈Ts
  ·have z':=(qL hb).symm.trans z
   cases z';exact hT b hb
  ·have z':=(qK hb).symm.trans z
   cases z'
 | none =>
  refine core (fun b=>if b∈Ts then some (.tbl #[]) else if b=a then some (.frz { cls:= .type "list",data:= .seq vs.toArray } (.lst (ns.map V.int))) else none) (.inl (.inr ⟨{ cls:= .type "list",data:= .seq vs.toArray },(qK aT).trans (qL rfl)⟩)) (fun b u z=>?_) (fun T mT=>qL mT) (fun b z hb=>?_) fun _=>hk
  ·by_cases hb:b∈Ts
   ·have z':=(qL hb).symm.trans z
    cases z';exact hT b hb
   ·have z:=(qK hb).symm.trans z
    by_cases hb:b=a
    ·have z':=(qL hb).symm.trans z
     cases z';subst hb;exact ⟨ha,by rw [aa];exact hl,vs,_,rv,ha⟩
    ·have z':=(qK hb).symm.trans z
     cases z'
  ·by_cases hba:b=a
   ·exact ⟨hba,_,_,(qK hb).trans (qL hba)⟩
   ·exact qM ((qK hb).trans (qK hba)) z
theorem walk_ofTs {l:PySem.W.OpenLaw}{k:Nat}{q:aW}{d:DefRec}{K:Params→au}{CX:bx→CXT}{sp:bx→Sp}{Ts:List aq}
  (hn:l.most=some n) (hn2:n≤aZ) (hdf:d.params.defaults=[]) (hr:gN k callerA)
  (hY:∀ (w:bx) (h:bL),YP w h→(K w.params).In h∧∀ T∈Ts,h.get? T=some (tabObj #[])) (C:∀ w:bx,∀ T∈Ts,∃ c,codeHdIn (K w.params) c T=true) (nt:∀ w:bx,noTabs (K w.params)=true)
  (F:∀ (w:bx) (mg:Str→Option ae) (fa:aq) (h:bL),(K w.params).In h→h.Ns bQ mg→mg d.name=some (.ref fa) →
   ∃ fd:bp,(∀ (s:ax) (u:ae),BindsTo s fd ⟨[u],[]⟩ [(x,u)]) ∧
    ∀ base:bL,(K w.params).In base→base.Ns bQ mg→BM mg base→cM l.prog w (K w.params) mg base (CX w) k fa fd [x] (sp w))
  (hsp:∀ (w:bx) (H:Hp) (a:aq) (ns:List Int),ns.length≤n→(∀ T∈Ts,H T=some (.tbl #[]))→SqL (K w.params) H a (ns.map V.int)→sp w [.ref a] H (fun v _=>v= .bl true) fun _ _ _=>False)
  (hCX:∀ (w:bx) (H:Hp) (s:ax) (e:ae) (s':ax),CX w [] H s (fun _ _ _=>False) e s'→False) :
  PySem.W.WalkO q loose XP YP l.row.toRowW d [] (fun f vs=>PySem.call f vs):=by
 refine Att.attach_call hn hdf fun w s₀ s₁ mg mb fa o pm cd doc a vs ns G Y ho hd hcd hmg hobj hints hlen hg=>?_
 obtain ⟨KX,hT⟩:=hY w _ Y;obtain ⟨fd,hb,hF⟩:=F w mg fa _ KX G.T.g hmg;have hbm:BM mg s₁.heap:=by
  obtain ⟨bm,ob,b1,b2,b3,b4,b5,b6⟩:=G.T.bmain;refine ⟨bm,ob,b1,b2,fun q=>?_,b3,b4,b5,b6⟩;obtain ⟨o,es,ep,e,hd,_⟩:=G.T.g;rw [q,e] at b3;cases b3;rw [hd] at b6;cases b6
 exact law_callTs KX G.T.g G.T.b G.T.builtins G.T.nolimit hg hbm hT (C w) (nt w) hobj hints (aM hlen hn2) hr hF hb (fun H hO hS=>hsp w H a ns hlen hO hS) fun H e s'=>hCX w H s₁ e s'
theorem sorted_keyT {r q:aq}{ws:List ae}(hl0:IsTup s.heap r ws.toArray)(h64:ws.length<64)
  (h:∀ (g h1:bL) (D kS:aq) (e1:Nat),(∀ b o,s.heap.get? b=some o→g.get? b=some o)→(∀ b o,g.get? b=some o→h1.get? b=some o)→g.objs.size≤D→D<kS→h1.get? D=some (bT "list" #[] e1)→h1.get? kS=some (bT "list" #[] 0) →
   KeyDo prog w A.in1.in1 (.ref q) ws kS D e1 (fun t'=>Q (.ref D) t') { s with heap:=h1 }) :
  bf (bw prog w) A (call (.builtin "sorted") [.ref r] [(d9 "key",.ref q)]) Q E s:=by
 obtain ⟨ob,ho,hc,n,hd⟩:=hl0;refine call_function_entry_kw kind_sorted plain_sorted entry_sorted (ksk_s1 _ _) ?_;unfold eS.«sorted»;refine ak (m:=checkCount "sorted" 1 1 _) (aV ?_);refine ak (wpAny_collect_seq r (.inr rfl) ho hc hd (fun h' hk=>?_) (by rw [aG,fR];lia));rw [show ws.toArray.toList=ws by simp];refine ak (wpAny_newList ?_ (by rw [fR];lia));have hoL:(h'.push (bT "list" ws.toArray 0)).get? h'.objs.size=some (bT "list" ws.toArray 0):=aX _ rfl;show bf _ _ _ _ _ { s with heap:=h'.push (bT "list" ws.toArray 0) };refine ak (gG (wpAny_call_entry_kw slot_list_sort ⟨_,hoL,rfl⟩ entry_list_sort ?body (ksk_l1 _ _)))
 case body =>
  show bf (bw prog w) A.in1.in1 (eS.«list.sort» ⟨[.ref h'.objs.size],[(d9 "key",.ref q)]⟩) _ _ _;rw [ksk_t1];refine key_tree (s:={ s with heap:=h'.push (bT "list" ws.toArray 0) }) hoL (by lia) fun e1 g1 g2=>?_
  have K:=h h' (ki (h'.push (bT "list" ws.toArray 0)) h'.objs.size ws) h'.objs.size ((h'.push (bT "list" ws.toArray 0)).objs.size+1) e1 hk ?_ (aA _) (by rw [size_push'];exact gj (iK _)) g1 g2
  ·obtain ⟨J,j0,jc,je⟩:=K
   refine ⟨J,j0,jc,fun ks t' x1 x2=>?_⟩;obtain ⟨y1,κ,lt,y2,y3,y4,y5⟩:=je ks t' x1 x2;exact ⟨y1,κ,lt,y2,y3,y4,fun p p1 p2=>⟨_,rfl,aV ⟨_,rfl,y5 p p1 p2⟩⟩⟩
  ·exact fun b o e=>mid_keep (bI (aL e)) (aw _ e)
theorem its_at:∀ {ns:List Int} {its:List ae} {i:Nat} {x:ae},gi (ns.map V.int) its→its[i]? =some x→∃ t,x= .int (ns.getD i 0) t
 | [],_,_,_,.nil,e=>by simp at e
 | n::ns,_,0,_,.cons r _,e=>by
  cases e;exact r
 | n::ns,_,i+1,_,.cons _ rs,e=>its_at (ns:=ns) (i:=i) rs e
def SortTQ (P:aq)(lp:Pos)(lq:Str)(js:List Nat)(te:TE)(σ:St)(Q:VK)(v:V)(H1:Hp):Prop:=∃ (r:aq) (ns:List Int) (key:Nat→Int×Int),v= .ref r∧H1 r=some (.tup (ns.map V.int))∧ns.length<64∧LamT P lp lq H1∧((aF ns.length).map key).Nodup ∧
 (∀ i:Nat,i<ns.length→∀ H2,Tb P H1 H2→te (some (.int (ns.getD i 0))::cQ σ js) H2 fun u H3=>bH H2 H3∧∃ a,u= .ref a∧H3 a=some (.tup [.int (key i).1,.int (key i).2])) ∧
 ∀ (D:aq) (H4:Hp) (π:List Nat),Tb P H1 H4→LamT P lp lq H4→H4 D=none→π.Perm (aF ns.length)→π.Pairwise (fun i j=>ltP (key i) (key j)=true)→Q (.ref D) (upd H4 D (.lst (π.map fun (i:Nat)=>V.int (ns.getD i 0))))
def tSortT (P:aq)(lp:Pos)(lq:Str)(tr:TE)(js:List Nat)(te:TE):TE:=fun σ H Q=>tr σ H fun v H1=>SortTQ P lp lq js te σ Q v H1
def SortT1 (P:aq)(lp:Pos)(lq:Str)(js:List Nat)(te:TE)(σ:St)(Q:VK):List V→Hp→Prop
 | [v],H1=>SortTQ P lp lq js te σ Q v H1
 | _,_=>False
theorem pe_sortT {re:Expr}{tr:TE}{p kp:Pos}{c P:aq}(hc:X.calm=true)(hrm:X.A.depth<recursionLimit)(hg:Gl X "sorted")(hm:X.mg "sorted" =none)(hi:PE X re tr)
  (hd:defaultsOf params X.env=([],[])) (hcode:X.env.code= .ref c) (C:codeHdIn X.K c P=true) (B:BM X.mg X.base)
  (hbind:∀ q cl pm cdv ct (u:ae),bindArgs (kla_fn "<lambda>" q params body scope cl pm cdv ct) ⟨[u],[]⟩=fU [(x,u)])
  (hk:scope.kind= .function) (hco:scope.isCoroutine=false) (hgen:scope.isGenerator=false) (iH:∀ y∈scope.names,y.2≠ .cell) (hx:scope.names.lookup x=some .local) (hfx:x ∉ fr)
  (hfr:∀ y∈scope.names,y.2= .free→X.env.scope.names.lookup y.1=some .cell) (hjs:js.map (fun j=>X.N[j]?)=fr.map some) (hfv:∀ y∈fr,scope.names.lookup y=some .free)
  (hb:∀ cl L f cd s' H',PE (cxLam X (X.env.qual ++ "<lambda>") scope cl L f cd (x::fr) s' H') body te)
  (he:fP pos (bB [re] X.env)=(false,eK re X.env)::fP pos (bB [] X.env):=by rfl)
  (hs:bB [re] X.env=(false,eK re X.env)::bB [] X.env:=by rfl) (hpl:(fP pos (bB [re] X.env)).any (·.1)=false:=by rfl) :
  PE X (.Call (.Name "sorted" p) [re] [⟨some "key",.Lambda params body scope lp,kp⟩] pos) (tSortT P lp (X.env.qual ++ "<lambda>") tr js te):=by
 intro aR s σ H Q I h;refine fA (nk I hg hm (u:= .builtin "sorted") (by trivial) ?_);refine callWith_kw (kws:=[⟨some "key",.Lambda params body scope lp,kp⟩]) (thn ((af hi aD hs) pos aR s σ H (SortT1 P lp (X.env.qual ++ "<lambda>") js te σ Q) I h) fun us s1 ⟨vs,H1,I1,r1,q0⟩=>?_) he hpl;refine kws_cons ?_;obtain ⟨v,rfl⟩:∃ v,vs=[v]:=by
  cases vs with
  | nil=>exact q0.elim
  | cons v r=>cases r with
   | nil=>exact ⟨v,rfl⟩
   | cons _ _=>exact q0.elim
 have q1:SortTQ P lp (X.env.qual ++ "<lambda>") js te σ Q v H1:=q0;obtain ⟨r,ns,key,rfl,hr,h64,T,hnd,hkey,hQ⟩:=q1;obtain rfl:us=[.ref r]:=by
  cases r1 with
  | cons ru rs =>
   cases rs;exact qQ (fun z=>[z]) ru
 refine lam_make (body:=body) I1 hd hcode C B hfr T fun f cl H2 s2 I2 tb T2 F2 c1 c2=>?_
 refine kws_nil ?_;show bf _ _ (call (.builtin "sorted") [.ref r] [(d9 "key",.ref f)]) _ _ _;have rP:r≠P:=fun z=>by
  rcases T with T | ⟨_,T,_⟩ <;> rw [←z,hr] at T <;> cases T
 obtain ⟨its,rv,ht,_⟩:=I2.tuple (SqT.of (K:=X.K) (tb r _ rP hr));have lits:its.length=ns.length:=by rw [←rv.length,aa]
 refine sorted_keyT ht (by lia) fun g h1 D kS e1 hg hkeep hD hDk gD gK=>?_
 have I2:Inv X aR σ H2 { s2 with heap:=g }:=I2.kept (t':=s2.toks) hg;have I3:Inv X aR σ H2 { s2 with heap:=h1 }:=I2.kept (t':=s2.toks) hkeep;have old:∀ b o,g.get? b=some o→b≠D∧b≠kS:=fun b o e=>⟨bI (aU (aL e) hD),bI (Nat.lt_trans (aU (aL e) hD) hDk)⟩
 have hDs:=aL gD;have hKs:=aL gK;have frD:H2 D=none:=I2.hok.fresh hD;have frK:H2 kS=none:=I2.hok.fresh (iL (bU hD hDk));have cc:∀ y d,X.env.cells.lookup y=some d→d≠D∧d≠kS:=fun y d e=>by obtain ⟨v,o,ho,_⟩:=I2.cell y d e;exact old d o ho
 have pp:∀ z∈X.pn++aR,z.1≠D∧z.1≠kS:=fun z hz=>old _ _ (I2.pin z hz).1
 have nl:g.objs.size≤kS:=iL (bU hD hDk);have I4:Inv X ((kS,bT "list" #[] 0)::(D,bT "list" #[] e1)::aR) σ H2 { s2 with heap:=h1 }:=I3.pins_of fun z hz=>by
  rcases aI.mp hz with rfl | hz
  ·exact ⟨gK,frK,dv (aU I2.lt nl),I2.nofs nl,fun v z=>by cases z⟩
  ·rcases aI.mp hz with rfl | hz
   ·exact ⟨gD,frD,dv (aU I2.lt hD),I2.nofs hD,fun v z=>by cases z⟩
   ·exact I3.pin z (aK _ hz)
 refine keyDo_of (num:=fun i=>ns.getD i 0) (key:=key) I4 lits h64 (fun i x e=>its_at rv e) (aM I2.sz nl) (aM I2.sz hD) (fun y d e=>(cc y d e).2) (fun y d e=>(cc y d e).1) (fun z hz=>(pp z hz).2) (fun z hz=>(pp z hz).1) (dv hDk) hnd ?_ ?_
 ·intro t H' pins' i tk hi' I' S'
  refine cA (lam_call (v:= .int (ns.getD i 0)) I' hc hrm (F2.same S') ⟨_,rfl⟩ (fun pm cdv ct=>hbind _ _ _ _ _ _) hk hco hgen iH hx hfx c1 c2 hfr hjs hfv (fun L cd s' H'=>hb cl L f cd s' H') (hkey i hi' H' (tb.trans S'.tb))) (fun k t' ⟨v,H'',I'',rv,S'',a,ev,ea⟩=>?_) fun _ _ z=>z
  subst ev;obtain rfl:k= .ref a:=rv;exact ⟨a,H'',I'',S'',rfl,ea⟩
 ·intro t H' π S' hD' I' pm pw
  exact ⟨.ref D,_,I',rfl,hQ D H' π (tb.trans S'.tb) (T2.same S') hD' pm pw⟩
def ptF (H:Hp)(fz:aq→Option Obj):Hp:=fun b=>match fz b with | some o=>some (.frz o (.own 0)) | none=>H b
def ctF (H:Hp)(fz:aq→Option Obj):Hp:=fun b=>match fz b with | some _=>none | none=>H b
def Fz (fz:aq→Option Obj)(H:Hp):Prop:=∀ b o,fz b=some o→H b=some (.frz o (.own 0))
section
variable {b:aq}{o:Obj}{fs:List aq}
theorem qg (e:fz b=some o):ptF H fz b=some (.frz o (.own 0)):=by unfold ptF;rw [e]
theorem gU (e:fz b=none):ptF H fz b=H b:=by unfold ptF;rw [e]
theorem qw (e:fz b=some o):ctF H fz b=none:=by unfold ctF;rw [e]
theorem ir (e:fz b=none):ctF H fz b=H b:=by unfold ctF;rw [e]
theorem Fz.out (F:Fz fz H){u:HO}(e:H b=some u)(n:∀ o,u≠ .frz o (.own 0)):fz b=none:=by
 cases q:fz b with
 | none=>rfl
 | some o=>rw [F b o q] at e;cases e;exact qM rfl (n o)
theorem Fz.cut (F:Fz fz H){u:HO}(e:H b=some u)(n:∀ o,u≠ .frz o (.own 0)):ctF H fz b=some u:=by rw [ir (F.out e n)];exact e
theorem HOk.cut (hok:HOk P w H h)(F:Fz fz H):HOk P w (ctF H fz) h:=fun a o e=>by
 cases q:fz a with
 | some o'=>rw [qw q] at e;cases e
 | none =>
  rw [ir q] at e;exact (hok a o e).stay (fun _ _ _ e=>e) (fun b e'=>F.cut e' (fun _ z=>by cases z)) fun b xs e'=>F.cut e' (fun _ z=>by cases z)
theorem HOk.ptF (hok:HOk P w H h)(N:∀ b o,fz b=some o→H b=none)(G:∀ b o,fz b=some o→h.get? b=some o):HOk P w (ptF H fz) h:=fun a o e=>by
 cases q:fz a with
 | some o' =>
  rw [qg q] at e;cases e;exact ⟨G a o' q,_,G a o' q⟩
 | none =>
  rw [gU q] at e;have out:∀ b u,H b=some u→fz b=none:=fun b u e'=>by
   cases q':fz b with
   | none=>rfl
   | some o'=>rw [N b o' q'] at e';cases e'
  exact (hok a o e).stay (fun _ _ _ e=>e) (fun b e'=>by rw [gU (out b _ e')];exact e') fun b xs e'=>by rw [gU (out b _ e')];exact e'
theorem Un.thaw (u:Un fs [] (ptF H fz) H' h h')(N:∀ b o,fz b=some o→H b=none)(hok:HOk P w H' h')(G:∀ b o,fz b=some o→h.get? b=some o):Un fs [] H (ctF H' fz) h h':=by
 have F:Fz fz H':=fun b o e=>u.frzs b o _ (qg e)
 have out:∀ b u,H b=some u→fz b=none:=fun b u e'=>by
  cases q':fz b with
  | none=>rfl
  | some o'=>rw [N b o' q'] at e';cases e'
 have same:∀ b o ob,fz b=some o→h.get? b=some ob→h'.get? b=some ob:=fun b o ob q e=>by
  have e1:=G b o q;rw [e] at e1;cases e1;exact (hok b _ (F b _ q)).1
 refine ⟨fun b o e n hf hx=>?_,fun b o e n hf hx=>?_,fun b o e n hx=>?_,u.there,fun b xs e=>?_,fun b o x e=>?_,fun b ps e=>?_⟩
 ·cases q:fz b with
  | some o'=>exact same b o' o q e
  | none=>exact u.keep b o e (by rw [gU q];exact n) hf hx
 ·cases q:fz b with
  | some o'=>exact ⟨o.slots,same b o' o q e⟩
  | none=>exact u.slot b o e (by rw [gU q];exact n) hf hx
 ·cases q:fz b with
  | some o'=>exact qw q
  | none=>rw [ir q];exact u.free b o e (by rw [gU q];exact n) hx
 ·have q:=out b _ e
  rw [ir q];exact u.tups b xs (by rw [gU q];exact e)
 ·have q:=out b _ e
  rw [ir q];exact u.frzs b o x (by rw [gU q];exact e)
 ·have q:=out b _ e
  rw [ir q];exact u.tbls b ps (by rw [gU q];exact e)
theorem Un.froze (u:Un fs [] (ctF H fz) H' h h')(F:Fz fz H):Un fs [] H (ptF H' fz) h h':=by
 have out:∀ b,H b=none→fz b=none:=fun b n=>by
  cases q:fz b with
  | none=>rfl
  | some o=>rw [F b o q] at n;cases n
 refine ⟨fun b o e n hf hx=>u.keep b o e (by rw [ir (out b n)];exact n) hf hx,fun b o e n hf hx=>u.slot b o e (by rw [ir (out b n)];exact n) hf hx,fun b o e n hx=>?_,u.there,fun b xs e=>?_,fun b o x e=>?_,fun b ps e=>?_⟩
 ·rw [gU (out b n)];exact u.free b o e (by rw [ir (out b n)];exact n) hx
 ·have q:=F.out e (fun _ z=>by cases z)
  rw [gU q];exact u.tups b xs (by rw [ir q];exact e)
 ·cases q:fz b with
  | some o'=>rw [F b o' q] at e;cases e;exact qg q
  | none=>rw [gU q];exact u.frzs b o x (by rw [ir q];exact e)
 ·have q:=F.out e (fun _ z=>by cases z)
  rw [gU q];exact u.tbls b ps (by rw [ir q];exact e)
end
structure Clo (cl:List (Str×aq))(fz:aq→Option Obj)(fr:List Str)(ws:List V):Prop where
 all:∀ x c,cl.lookup x=some c→∃ o,fz c=some o
 cell:∀ c o,fz c=some o→∃ v,o.data= .cell v
 inj:∀ a b c,cl.lookup a=some c→cl.lookup b=some c→a=b
 val:∀ (i:Nat) y v,fr[i]? =some y→ws[i]? =some v→∃ c o u,cl.lookup y=some c∧fz c=some o∧o.data= .cell (some u)∧gI v u
 len:ws.length=fr.length
structure LmOk (P:aW)(w:bx)(K:au)(mg:Str→Option ae)(base:bL)(k:Nat)(f:aq)(Hf:Hp→Prop)(sp:Sp):Prop where
 isFn:∀ H h,Hf H→HOk P w H h→FnAt f h
 run:∀ (A:bW) (outer:List Env) (s:ax) (H:Hp) (u:ae) (v:V) (Q:VK),gN k A→Env0 P w K mg base A outer s H→Hf H→gI v u→sp [v] H Q E0→codeAny (bw P w) A (.call (.ref f) ⟨[u],[]⟩) (CR CX0 outer P w H s Q E0) s
def cxLm (P:aW)(w:bx)(K:au)(mg:Str→Option ae)(base:bL)(q:Str)(scope:fO)(cl:List (Str×aq))(L f:aq)(cd:ae)(N:List Str)(A:bW)(outer:List Env)(s:ax)(H:Hp):Cx :=
 { prog:=P,w:=w,K:=K,mg:=mg,base:=base,A:=A.deeper (envX q scope L f cd cl),N:=N,s₀:=s,H₀:=H,env:=envX q scope L f cd cl,outer:=outer,stack:=envX q scope L f cd cl::outer,ex:=[],calm:=true,fn:=fun _=>false,pn:=[],xe:=fun _ _=>False }
theorem lam_run {k:Nat}{q:Str}{ws:List V}{sp:Sp}
  (hbind:∀ u pm cdv ct,bindArgs (kla_fn "<lambda>" q params body scope cl pm cdv ct) ⟨[u],[]⟩=fU [(x,u)])
  (hk:scope.kind= .function) (hco:scope.isCoroutine=false) (hgen:scope.isGenerator=false) (iH:∀ y∈scope.names,y.2≠ .cell) (hx:scope.names.lookup x=some .local) (hfx:x ∉ fr)
  (C:Clo cl fz fr ws) (hcl:∀ y∈scope.names,y.2= .free→∃ c,cl.lookup y.1=some c) (hfv:∀ y∈fr,scope.names.lookup y=some .free)
  (hb:∀ L cd A outer s' H',gN k (A.deeper (envX q scope L f cd cl))→PE (cxLm P w K mg base q scope cl L f cd (x::fr) A outer s' H') body te)
  (ht:∀ v H Q,LamF q params body scope cl f H→Fz fz H→sp [v] H Q E0→te (some v::ws.map some) (ctF H fz) (fun y H'=>(∀ b o,fz b=some o→H' b=none)→Q y (ptF H' fz))) :
  LmOk P w K mg base (k+1) f (fun H=>LamF q params body scope cl f H∧Fz fz H) sp:=by
 refine ⟨fun H h ⟨⟨pm,cd,ct,e,_⟩,_⟩ hok=>⟨_,_,_,_,(hok f _ e).1⟩,fun A outer s H u v Q hr e0 ⟨F,Z⟩ ru hsp=>?_⟩;have ht:=ht v H Q F Z hsp;obtain ⟨pm,cd,ct,e,oc,vs,t,ec,hdc,hvc⟩:=F;have ho:s.heap.get? f=some (kla_obj "<lambda>" q params body scope cl pm cd ct):=(e0.hok f _ e).1;have hoc:s.heap.get? cd=some oc:=(e0.hok cd _ ec).1;refine kla_callFunE (by have:=hr.dp;lia) ho rfl hco hgen rfl ⟨cd,oc,vs,t,rfl,hoc,hdc,hvc⟩ ?_;rw [hbind];refine aV (wpAny_newFunctionEnv iH (fun y hy=>?_) (fun h₁ hns hsb=>⟨?nl,?_⟩) hk)
 ·rw [av.mp hy];exact hx
 case nl=>exact (e0.mod.nolimit.keeps (fun b o e=>(e0.bs b o e).1)).fresh _ hsb
 show codeAny _ _ (.expr body (envX q scope s.heap.objs.size f (.ref cd) cl)) _ _;have old:∀ b o,s.heap.get? b=some o→h₁.get? b=some o:=fun b o e=>hsb.extBut b o (bI (aL e)) (aw _ e)
 refine kla_codeExpr ?_;have hokc:=HOk.cut e0.hok Z;have cutN:∀ b,H b=none→ctF H fz b=none:=fun b n=>by
  cases z:fz b with
  | some o=>exact qw z
  | none=>rw [ir z];exact n
 have ok':(cxLm P w K mg base q scope cl s.heap.objs.size f (.ref cd) (x::fr) A outer s (ctF H fz)).Ok:=by
  refine ⟨e0.mod,hk,rfl,rfl,aA _,C.inj,fun y hy=>?_,fun _ _ z=>qM z (by intro q;cases q),fun _=>hr.hd,bW.frames_deeper e0.frames,.inr ⟨rfl,rfl⟩,fun b hb=>qM (show b∈([]:List aq) from hb) (by simp),fun b o e=>⟨(e0.bs b o e).1,cutN b (e0.bs b o e).2⟩,e0.bsz,fun b o e hb=>qM (show b∈([]:List aq) from hb) (by simp),fun b hb=>qM (show b∈([]:List aq) from hb) (by simp),e0.funs,fun b hb=>cutN b (e0.frf b hb)⟩;have hy:scope.names.lookup y=some .cell∨scope.names.lookup y=some .free:=hy
  rcases hy with hy | hy
  ·exact qM rfl (iH _ (cq hy))
  ·exact hcl _ (cq hy) rfl
 have cellAt:∀ c o,fz c=some o→h₁.get? c=some o:=fun c o z=>old _ _ (e0.hok c _ (Z c o z)).1
 have I1:Inv (cxLm P w K mg base q scope cl s.heap.objs.size f (.ref cd) (x::fr) A outer s (ctF H fz)) [] (some v::ws.map some) (ctF H fz) { s with heap:=h₁,toks:=s.toks+1 }:=by
  refine ⟨ok',rfl,e0.bare,Un.kept old,⟨_,hns,fun i y v' e1 e2 e3=>?_⟩,fun y c e=>?_,hokc.fresh (aA _),fun y c e=>?_,fun p hp=>qM (show p∈([]:List (aq×Obj)) from hp) (by simp),hokc.kept old,?_⟩
  ·cases i with
   | zero =>
    have e1:some x=some y:=e1;have e2:some (some v)=some (some v'):=e2;cases e1;cases e2;exact ⟨u,ru,.inl ⟨hx,by show eG x [(x,u)]=_;rw [dg,beq_self_eq_true]⟩⟩
   | succ i =>
    have e1:fr[i]? =some y:=e1;have e2:(ws.map some)[i]? =some (some v'):=e2;rw [ay] at e2;obtain ⟨v2,e2,e4⟩:=aS.mp e2;cases e4;obtain ⟨c,o,u',z1,z2,z3,z4⟩:=C.val i y v' e1 e2;exact ⟨u',z4,.inr ⟨.inr (hfv y (aP e1)),c,z1,o,cellAt c o z2,z3⟩⟩
  ·obtain ⟨o,z⟩:=C.all y c e
   obtain ⟨v',hv'⟩:=C.cell c o z;exact ⟨v',o,cellAt c o z,hv'⟩
  ·obtain ⟨o,z⟩:=C.all y c e
   exact qw z
  ·show (some v::ws.map some).length=(x::fr).length
   rw [aN,aN,aa,C.len]
 refine cA (hb _ _ A outer s (ctF H fz) (hr.deeper _) [] _ _ (ctF H fz) _ I1 ht) (fun y s' hs=>?_) fun _ _ z=>z.elim
 obtain ⟨v',H',J,rv,qv⟩:=hs;have JB:Un (frs outer) [] (ctF H fz) H' s.heap s'.heap:=J.base;have heapAt:∀ b o,fz b=some o→s'.heap.get? b=some o:=fun b o z=>JB.keep b o (e0.hok b _ (Z b o z)).1 (qw z) (fun hb=>by have:=e0.frf b hb;rw [Z b o z] at this;cases this) (by simp)
 have freeAt:∀ b o,fz b=some o→H' b=none:=fun b o z=>JB.free b o (e0.hok b _ (Z b o z)).1 (qw z) (by simp)
 exact ⟨v',ptF H' fz,J.os,J.bare,Un.froze JB Z,HOk.ptF J.hok freeAt heapAt,rv,qv freeAt⟩
def tLam (i:Nat)(f:aq)(Hf:Hp→Prop)(sp:Sp)(t:TE):TE:=fun σ H Q=>σ[i]? =some (some (.ref f))∧Hf H∧t σ H fun v H1=>Hf H1∧sp [v] H1 Q E0
theorem pe_callV {k:Nat}{p:Pos}{t:TE}{sp:Sp}(L:LmOk X.prog X.w X.K X.mg X.base k f Hf sp)(hr:gN k X.A)(ha:PE X e t)(hN:X.N[i]? =some x:=by rfl)(hv:Vis X.env.scope x:=by first | exact Or.inl rfl | exact Or.inr (.inl rfl) | exact Or.inr (.inr rfl))
  (hd:(x == ("__debug__" :Str))=false:=by decide) (hcd:(x == ("__classdict__" :Str))=false:=by decide) (he:bB [e] X.env=[(false,eK e X.env)]:=by rfl):PE X (.Call (.Name x p) [e] [] pos) (tLam i f Hf sp t):=by
 intro aR s σ H Q I ⟨h1,h2,h3⟩;refine fA (thn (pe_var hN hv hd hcd aR s σ H (fun v H1=>v= .ref f∧H1=H) I ⟨_,h1,rfl,rfl⟩) fun u s1 ⟨v,H1,I1,r1,e1,e2⟩=>?_);subst e1;subst e2;cases r1;refine callWith_F (L.isFn _ _ h2 I1.hok) (thn ((af ha aD he) pos aR s1 σ H1 (fun vs H2=>match vs with | [v]=>Hf H2∧sp [v] H2 Q E0 | _=>False) I1 h3) fun us s2 ⟨vs,H2,I2,r2,q2⟩=>?_) he rfl
 ·obtain _ | ⟨v,_ | ⟨v',vs⟩⟩:=vs
  ·exact q2.elim
  rotate_left
  ·exact q2.elim
  obtain ⟨h4,h5⟩:=q2;obtain ⟨u,rfl,ru⟩:=r2.one;refine ⟨L.isFn _ _ h4 I2.hok,wpAny_call (codeAny_mono (L.run X.A X.stack s2 H2 u v Q hr I2.env0 h4 ru h5) fun r s' hq=>?_)⟩;cases r with
  | error e=>exact cR hq
  | ok fl =>
   cases fl with
   | ret u=>exact I2.after hq
   | next=>exact cR hq
   | brk=>exact cR hq
   | cont=>exact cR hq
def LamE (env:Env)(scope:fO)(cl:List (Str×aq)):Prop:=(∀ x c,cl.lookup x=some c→env.cells.lookup x=some c)∧∀ y∈scope.names,y.2= .free→cl.lookup y.1=env.cells.lookup y.1
def tLamb (env:Env)(T:aq)(lp:Pos)(params:gP)(body:Expr)(scope:fO):TE:=fun _ H Q=>LamT T lp (env.qual ++ "<lambda>") H∧∀ g cl H',Tb T H H'→LamT T lp (env.qual ++ "<lambda>") H'→LamF (env.qual ++ "<lambda>") params body scope cl g H'→LamE env scope cl→Q (.ref g) H'
def tCallZ (env:Env)(scope:fO)(fr:List Str)(js:List Nat)(sp:Sp)(t:TA):TE:=fun σ H Q=>t σ H fun vs H1=>∃ cl ws,LamE env scope cl∧cQ σ js=ws.map some∧∀ fz,Clo cl fz fr ws→(∀ b o,fz b=some o→H1 b=none)→sp vs (ptF H1 fz) (fun y H'=>Fz fz H'→Q y (ctF H' fz)) E0
open Classical in
def nW (cl:List (Str×aq))(h:bL):aq→Option Obj:=fun b=>if ∃ x,cl.lookup x=some b then h.get? b else none
section
variable {σ:List (Option V)}
theorem pe_lam {c T:aq}(hd:defaultsOf params X.env=([],[]))(hcode:X.env.code= .ref c)(C:codeHdIn X.K c T=true)(B:BM X.mg X.base)
  (hfr:∀ y∈scope.names,y.2= .free→X.env.scope.names.lookup y.1=some .cell):PE X (.Lambda params body scope pos) (tLamb X.env T pos params body scope):=fun _ _ _ _ _ I ⟨L,h⟩ =>
 lam_make I hd hcode C B hfr L fun f cl H' _ I' t1 T1 F c1 c2=>⟨.ref f,H',I',rfl,h f cl H' t1 T1 F ⟨c1,c2⟩⟩
theorem nA {b:aq}{o:Obj}(e:nW cl h b=some o):(∃ x,cl.lookup x=some b)∧h.get? b=some o:=by
 unfold nW at e;split at e
 ·rename_i z;exact ⟨z,e⟩
 ·cases e
theorem frzOf_of {b:aq}{o:Obj}(z:cl.lookup x=some b)(e:h.get? b=some o):nW cl h b=some o:=by
 unfold nW;rw [qL ⟨x,z⟩];exact e
theorem Inv.clo {ws:List V}(I:Inv X aR σ H s)(E:LamE X.env scope cl)(hws:cQ σ js=ws.map some)(hjs:js.map (fun j=>X.N[j]?)=fr.map some)(hfv:∀ y∈fr,scope.names.lookup y=some .free)
  (hfr:∀ y∈scope.names,y.2= .free→X.env.scope.names.lookup y.1=some .cell):Clo cl (nW cl s.heap) fr ws:=by
 have lens:ws.length=fr.length:=by
  have e:=qQ List.length hws;have e2:=qQ List.length hjs;unfold cQ at e;rw [aa,aa] at e e2;lia
 refine ⟨fun x c e=>?_,fun c o e=>?_,fun a b c e1 e2=>I.ok.inj a b c (E.1 a c e1) (E.1 b c e2),fun i y v e1 e2=>?_,lens⟩
 ·obtain ⟨v,o,ho,_⟩:=I.cell x c (E.1 x c e)
  exact ⟨o,frzOf_of e ho⟩
 ·obtain ⟨⟨x,hx⟩,ho⟩:=nA e
  obtain ⟨v,o',ho',hd⟩:=I.cell x c (E.1 x c hx);rw [ho] at ho';cases ho';exact ⟨v,hd⟩
 ·have e3:(cQ σ js)[i]? =some (some v):=by rw [hws,ay,e2];rfl
  unfold cQ at e3;rw [ay] at e3;obtain ⟨j,ej,e3⟩:=aS.mp e3;have hN:X.N[j]? =some y:=by
   have q:=qQ (fun l=>l[i]?) hjs;simp only [ay,ej,e1,fX] at q;exact bG q
  have hσ:σ[j]? =some (some v):=by
   cases z:σ[j]? with
   | none=>rw [z] at e3;cases e3
   | some w=>rw [z] at e3;exact qQ some e3
  have hm:=cq (hfv y (aP e1));have hce:X.env.scope.names.lookup y=some .cell:=hfr _ hm rfl;obtain ⟨m,_,hl⟩:=I.loc;obtain ⟨u',ru',look⟩:=hl j y v hN hσ (.inr (.inl hce))
  rcases look with ⟨k,_⟩ | ⟨_,c,ec,o,ho,hd⟩
  ·have k:X.env.scope.names.lookup y=some .local:=k
   rw [hce] at k;cases k
  ·have ecl:cl.lookup y=some c:=(E.2 _ hm rfl).trans ec
   exact ⟨c,o,u',ecl,frzOf_of ecl ho,hd,ru'⟩
theorem pe_callZ {p:Pos}{k:Nat}{sp:Sp}(F:cM X.prog X.w X.K X.mg X.base CX0 k f fd ps sp)(hr:gN k X.A)(hfn:∀ x,X.fn x=true)(hg:Gl X x)(hm:X.mg x=some (.ref f))(hk:eM X.K (.ref f)=true)(hb:n4 X.K fd ps [])
  (hjs:js.map (fun j=>X.N[j]?)=fr.map some) (hfv:∀ y∈fr,scope.names.lookup y=some .free) (hfr:∀ y∈scope.names,y.2= .free→X.env.scope.names.lookup y.1=some .cell)
  (ha:PA X (e::es) t) (hdb:(x == ("__debug__" :Str))=false:=by decide) (he:bB (e::es) X.env=(false,eK e X.env)::bB es X.env:=by rfl) (hpl:(fP pos (bB es X.env)).any (·.1)=false:=by rfl) :
  PE X (.Call (.Name x p) (e::es) [] pos) (tCallZ X.env scope fr js sp t):=by
 intro aR s σ H Q I h;refine fA (ld_glob I hg hm ?_ hdb);refine j8 (h₀:=X.base) I.ok.mod.kin hk (thn (ha pos aR s σ H _ I h) fun us s1 ⟨vs,H1,I1,r,q⟩=>⟨I1.kIn,?_⟩) he hpl;obtain ⟨cl,ws,LE,hws,q⟩:=q;have C:=I1.clo LE hws hjs hfv hfr;have N:∀ b o,nW cl s1.heap b=some o→H1 b=none:=fun b o e=>by
  obtain ⟨⟨x,hx⟩,_⟩:=nA e;exact I1.freeC x b (LE.1 x b hx)
 have G:∀ b o,nW cl s1.heap b=some o→s1.heap.get? b=some o:=fun b o e=>(nA e).2
 have up:∀ b o,nW cl s1.heap b=some o→X.s₀.heap.objs.size≤b:=fun b o e=>by
  obtain ⟨⟨x,hx⟩,_⟩:=nA e;exact I1.ok.cab x b (hfn x) (LE.1 x b hx)
 have q:=q _ C N;have hl:us.length=ps.length:=by rw [←r.length];exact F.len _ _ _ _ q
 have e0:Env0 X.prog X.w X.K X.mg X.base X.A X.stack s1 (ptF H1 (nW cl s1.heap)):=by
  have e:=I1.env0;refine ⟨e.frames,e.mod,fun b o eb=>⟨(e.bs b o eb).1,?_⟩,e.bsz,e.funs,fun b hb=>?_,HOk.ptF e.hok N G,e.bare⟩
  ·cases z:nW cl s1.heap b with
   | none=>rw [gU z];exact (e.bs b o eb).2
   | some o' =>
    have h1:=up b o' z;have h2:=aL eb;have h3:=I1.ok.bsz;exact qM (aU h2 (aM h3 h1)) (fq _)
  ·cases z:nW cl s1.heap b with
   | none=>rw [gU z];exact e.frf b hb
   | some o' =>
    exfalso
    rcases aI.mp (I1.stkSub b hb) with el | hb'
    ·obtain ⟨v,hv⟩:=C.cell b o' z
     obtain ⟨m,⟨o2,es2,ep2,ho2,hd2,_⟩,_⟩:=I1.loc;have e1:=G b o' z;rw [el,ho2] at e1;cases e1;rw [hd2] at hv;cases hv
    ·obtain ⟨_,o2,ho2,_⟩:=I1.ok.funs.mem hb'
     have h1:=up b o' z;have h2:=aL ho2;exact qM (aU h2 h1) (fq _)
 refine wpAny_call (codeAny_mono (F.run X.A X.stack s1 _ ⟨us,[]⟩ us vs _ E0 hr e0 (by have:=hb s1 us I1.kIn (by rw [de];exact hl);rw [de] at this;exact this) r q) fun r' s' hq=>?_);cases r' with
 | error e=>exact cR hq
 | ok fl =>
  cases fl with
  | ret u =>
   obtain ⟨v,H',os,bare,un,hok,rv,qv⟩:=hq;have Z:Fz (nW cl s1.heap) H':=fun b o e=>un.frzs b o _ (qg e)
   exact I1.after ⟨v,ctF H' (nW cl s1.heap),os,bare,Un.thaw un N hok G,HOk.cut hok Z,rv,qv Z⟩
  | next=>exact cR hq
  | brk=>exact cR hq
  | cont=>exact cR hq
end
end L2
namespace HN
open PySem L2 PyProof.Rows
theorem prodW_lim {sp:List Sn}{L:Int}:∀ (l:List Nat),(∀ i∈l,0≤(wkey sp i).1∧(wkey sp i).1≤L)→1≤kx sp l∧kx sp l≤(L+1) ^ l.length
 | [],_=>⟨(gm 1:(1:Int)≤1),by show (1:Int)≤(L+1) ^ 0;rw [Int.pow_zero];exact gm 1⟩
 | i::l,h=>by
  obtain ⟨a,b⟩:=h i (by simp);obtain ⟨c,d⟩:=prodW_lim l fun j hj=>h j (az _ hj)
  rw [nR,aN,Int.pow_succ,Int.mul_comm ((L+1) ^ l.length)];refine ⟨?_,Int.mul_le_mul (by lia) d (by lia) (by lia)⟩;have:1 * 1≤((wkey sp i).1+1) * kx sp l:=Int.mul_le_mul (by lia) c (by decide) (by lia);lia
end HN
namespace L2
open PySem PySem.W PySem.Spec PyProof.Rows
def CGrt (i j:Int):Prop:=i.natAbs<10 ^ 1000∧j.natAbs<10 ^ 1000
theorem bits_grt {x:Int}(h:x.natAbs<10 ^ 1000):eS.Int.intBits x≤2 ^ 20:=by
 unfold eS.Int.intBits;split
 ·exact bg _
 ·rename_i hx
  have h0 : x.natAbs ≠ 0 := fun z => hx (by have e : x = 0 := by lia
                                            rw [e];rfl)
  have h2:=(Nat.log2_lt h0).mpr (Nat.lt_trans h (by trivial:10 ^ 1000<2 ^ 10000));have h3:(10000:Nat)+1≤2 ^ 20:=by decide
  lia
theorem ip_mulG:PIp X .Mult (fun x y H Q=>∃ i j,x= .int i∧y= .int j∧CGrt i j∧Q (.int (i * j)) H):=by
 intro aR s σ H x y v u Q I r1 r2 h;obtain ⟨i,j,e1,e2,hc,q⟩:=h;subst e1;subst e2;obtain ⟨t,rfl⟩:=r1;obtain ⟨t',rfl⟩:=r2;exact imul_int ⟨.int _,H,I.tok _,⟨_,rfl⟩,q⟩ (IntMulOk.of_bits (bits_grt hc.1) (bits_grt hc.2))
end L2
namespace L2
open PySem PySem.Spec PyProof.Rows
def Itvl (K:au)(a:aq)(n:Nat):It :=
 ⟨fun i H=>∃ xs x,SqL K H a xs∧xs.length=n∧xs.reverse[i]? =some x,fun i H x H'=>H'=H∧∀ xs,SqL K H a xs→xs.reverse[i]? =some x,fun i _=>i=n⟩
theorem turn_revL (a it:aq)(n:Nat):Turn P w K tg (Itvl K a n) [it] it (fun i h=>h.IsRevIter it a ((n:Int) - 1 - (i:Nat))) where
 mem:=by simp
 obj:=fun i h st b hb=>by
  have e:b=it:=by simpa using hb
  subst e;obtain ⟨o,e,c,d⟩:=st;exact ⟨o,e,fun v z=>by rw [d] at z;cases z⟩
 keep:=fun i h h' st k=>st.at fun o e=>k it (by simp) o e
 item:=by
  intro X hP hw hK hc i aR s σ H E I hf st hg;subst hP hw hK;obtain ⟨xs,x,hq,hn,hx⟩:=hg;obtain ⟨its,rv,p,hz⟩:=I.list hq;have hi:i<xs.length:=by
   have:=(ao.mp hx).1;rw [dU] at this;exact this
  have hx2:=hx;rw [List.getElem?_reverse hi] at hx2;obtain ⟨u,hu,ru⟩:=rv.get hx2;obtain ⟨f0,f1,f2,f3,f4,f5⟩:=hf it (by simp);have e:(n:Int) - 1 - (i:Nat)=((xs.length - 1 - i:Nat):Int):=by lia
  rw [e] at st;refine wpAny_pyNext_rev_item st p.isList (x:=u) (by simpa using hu) fun h' st' sb=>?_
  have I1:Inv X aR σ H { s with heap:=h' }:=I.turned (t':=s.toks) (fun b o hb e=>(sb.2 b hb).trans e) f0 f1 f3 f4 f5;obtain ⟨o,e2,c,d⟩:=id st';have e3:((xs.length - 1 - i:Nat):Int) - 1=(n:Int) - 1 - ((i+1:Nat):Int):=by lia
  rw [e3] at st';exact ⟨u,rfl,go_of (s:={ s with heap:=h' }) e2 c d (by decide) ⟨x,H,I1,ru,⟨rfl,fun ys hy=>by rw [I.list_inj hy hq];exact hx⟩,st',fun b hb=>(hf b hb).1⟩⟩
 done:=by
  intro X hP hw hK hc i aR s σ H E I hf st hg;subst hP hw hK;obtain ⟨f0,f1,f2,f3,f4,f5⟩:=hf it (by simp);have hg:i=n:=hg;have e:(n:Int) - 1 - (i:Nat)= -1:=by lia
  rw [e] at st;exact wpAny_pyNext_rev_end (I.ok.hd hc) st fun h' eb=>⟨rfl,I.turned (t':=s.toks) (fun b o hb e=>eb b o hb e) f0 f1 f3 f4 f5⟩
 self:=fun _ _ _ _ _ st h=>wpAny_pyIter_revIter st h
def iRevL (K:au)(ta:TA):TI:=fun σ H R=>ta σ H fun vs H1=>∃ a xs,vs=[.ref a]∧SqL K H1 a xs∧R (Itvl K a xs.length) H1
theorem pi_revL {ta:TA}{p:Pos}(hg:Gl X "reversed")(hm:X.mg "reversed" =none)(ha:PA X [ea] ta)(hs:bB [ea] X.env=[(false,eK ea X.env)]:=by rfl) :
  PI X tg (.Call (.Name "reversed" p) [ea] [] pos) (iRevL X.K ta):=by
 intro aR s σ H R I h;refine Call_ (nk I hg hm boot_reversed (ft (thn (ha pos aR s σ H _ I h) fun us s1 z=>?_) hs rfl));obtain ⟨vs,H1,I1,r1,q1⟩:=z;obtain ⟨a,xs,e,hA,q⟩:=q1;subst e;obtain ⟨u1,rfl,r2⟩:=mP r1;cases (show u1=ae.ref a from r2);obtain ⟨its,rv,pt',hz⟩:=I1.list hA;have hl:=rv.length;refine call_reversed_list pt'.isList ?_;have z1:(s1.heap.push (revObj a ((its.toArray.size:Int) - 1))).IsRevIter s1.heap.objs.size a ((xs.length:Int) - 1 - ((0:Nat):Int)):=by
  refine ⟨_,aX _ rfl,rfl,?_⟩;rw [aG,←hl,show (xs.length:Int) - 1 - ((0:Nat):Int)=(xs.length:Int) - 1 by lia];rfl
 refine wpAny_pyIter_revIter (s:={ s1 with heap:=s1.heap.push (revObj a ((its.toArray.size:Int) - 1)) }) z1 ⟨s1.heap.objs.size,[s1.heap.objs.size],_,Itvl X.K a xs.length,H1,rfl,I1.kept (t':=s1.toks) fun c o e=>aw _ e,turn_revL a _ _,z1,fun b hb=>?_,q⟩;have e:b=s1.heap.objs.size:=by simpa using hb
 subst e;exact I1.fpOk (aA _) (I1.hok.fresh (aA _))
theorem for_revL {tb:TS}{D:kG}(Pv:Nat→St→Hp→Prop)(h0:Pv 0 σ H)(hl:∀ i σ H,i≤xs.length→Pv i σ H→SqL K H a xs)
  (hs:∀ i x σ H,xs.reverse[i]? =some x→Pv i σ H→g x σ H fun σ2 H2=>tb { D with nx:=Pv (i+1),ct:=Pv (i+1),bk:=D.nx } σ2 H2) (hd:∀ σ H,Pv xs.length σ H→D.nx σ H) :
  ∃ W:Nat→Nat→St→Hp→Prop,(∃ m,W 0 m σ H)∧∀ i m σ H,W i m σ H →
   ((Itvl K a xs.length).stop i H∧D.nx σ H)∨((Itvl K a xs.length).go i H∧∃ N:St→Hp→Prop,(∀ σ' H',N σ' H'→∃ m',m'<m∧W (i+1) m' σ' H')∧∀ x H',(Itvl K a xs.length).yld i H x H'→g x σ H' fun σ2 H2=>tb { D with nx:=N,ct:=N,bk:=D.nx } σ2 H2):=by
 refine ⟨fun i m σ H=>m=xs.length - i∧i≤xs.length∧Pv i σ H,⟨xs.length,by simp,bg _,h0⟩,?_⟩;rintro i m σ H ⟨rfl,hi,p⟩;have q:=hl i σ H hi p
 by_cases e:i=xs.length
 ·subst e
  exact .inl ⟨rfl,hd σ H p⟩
 ·have hlt:i<xs.length:=dI hi e
  refine .inr ⟨⟨xs,_,q,rfl,gE (by rw [dU];exact hlt)⟩,Pv (i+1),fun σ' H' p'=>⟨xs.length - (i+1),by lia,rfl,by lia,p'⟩,fun x H' hy=>?_⟩;obtain ⟨rfl,hx⟩:=hy;exact hs i x σ _ (hx xs q) p
theorem thou_le (h:n≤1001):n≤aZ:=aM h (by decide)
inductive rInsert (x:V)(vs:List V)(H:Hp)(Q:VK):Prop
 | mk (l xs k y:_)(_:x= .ref l)(_:vs=[.int k,y])(_:H l=some (.lst xs))(_:xs.length≤1000)(_:0≤k)(_:k≤xs.length)(_:Q .non (upd H l (.lst (xs.take k.toNat++y::xs.drop k.toNat))))
theorem mt_insert:MtM X "list.insert" rInsert:=by
 intro aR s σ H x vs v us Q I rx rv h;obtain ⟨l,xs,k,y,rfl,rfl,hH,hz,k0,k1,q⟩:=h;cases rx;obtain ⟨u,w',rfl,⟨t,rfl⟩,ru⟩:=vals2 rv;obtain ⟨z,its,n,r,hl,e⟩:=I.lstM hH;have hlen:its.length=xs.length:=r.length.symm;have hs:its.toArray.size≤aZ:=by rw [aG];exact thou_le (by lia)
 have hf:eS.List.listFitsIndex k=true:=by
  unfold eS.List.listFitsIndex;simp only [dk,decide_eq_true_eq]
  constructor <;> lia
 refine call_meets PySem.F.slot_list_insert ⟨_,e,rfl⟩ PySem.F.entry_list_insert (PySem.F.args_list_insert_3 _ _ _) (PySem.AutoSeq1.list_insert_list_int_val_1 l its.toArray n k t w' (by rw [hf];decide) hs) ⟨e,?_⟩;refine ⟨.non,_,I.lset (its':=its.take k.toNat++w'::its.drop k.toNat) hH e ?_ ((r.take _).append (.cons ru (r.drop _))) ?_,rfl,q⟩
 ·show (its.toArray.extract 0 (if k<0 then (k+(its.toArray.size:Int)).toNat else min k.toNat its.toArray.size)).push w'++its.toArray.extract (if k<0 then (k+(its.toArray.size:Int)).toNat else min k.toNat its.toArray.size)=(its.take k.toNat++w'::its.drop k.toNat).toArray
  rw [qK (by lia),aG,Nat.min_eq_left (by lia)]
  apply Array.toList_inj.mp
  have ht:(its.drop k.toNat).take (its.length - k.toNat)=its.drop k.toNat:=jj (by rw [dh];lia);simp [ht]
 ·rw [ar,aN,bK,dh]
  exact thou_le (by lia)
end L2
namespace HN
open PySem L2 PyProof.Rows
abbrev sTables:cJ:=top 68
inductive spTabsA (vs:List V)(H:Hp)(Q:VK)(_:XK):Prop
 | mk (b m:Int)(_:vs=[.int b,.int m])(_:0≤b)(_:b≤6)(_:0≤m)(_:m≤3)(_:∀ L us H',bH H H'→H' L=some (.lst us)→dG H' us (cW id (nG b.toNat m.toNat))→Q (.ref L) H')
theorem kN:bY ["_law_beat","_law_many","_law_tables_here","_law_k","_law_longer","_law_table_here"] pzz (defScope sTables):=by trivial
theorem ok_tables (F:Fun K "_law_tables" "_law_tables" sTables f fd)(T2:Nt mg):cM P w K mg base CX0 1 f fd pzz spTabsA:=by
 refine F.ok kN (by contradiction) (fun cdv A outer s H vs Q E hr h=>?_);obtain ⟨b,m,rfl,b0,b1,m0,m1,k⟩:=h;refine ⟨_,PSl.h (aY ⟨(psZ 2 kN.nd (kT (af (cY aD) aD)))⟩
  (aY ⟨(ib bE rfl (gH rfl T2.range (af (pv 1) aD)) (pgZ 3 kN.nd) (PSl.h (aY ⟨(psZ 4 kN.nd (kT aD))⟩
  (aY ⟨(ib bE rfl (gg (pv 2)) (pgZ 5 kN.nd) (cy (psZ 4 kN.nd (cU op_catL (pv 4) (gW (fr:=["_law_table_here"]) (js:=[5]) rfl (gH rfl T2.range (af (pv 0) aD)) (by trivial) rfl (by trivial) rfl (by exists sTables) (by trivial) rfl (by trivial) (fun _ _ _ _ _=>⟨(cU (r:=rCatA K) kh (pv 1) (cY (af (pv 0) aD))),gT⟩))))))⟩
  (cP ⟨(psZ 2 kN.nd (pv 4))⟩)))))⟩
  (cP ⟨(cf (pv 2))⟩))),?_⟩
 refine ⟨bg _,fun q1 H1 S1 h1=>⟨szZ1,fun q2 H2 S2 h2=>?_⟩⟩;refine ⟨_,rfl,m,rfl,by lia,by lia,?_⟩;have cap:∀ i:Nat,i≤3→(nG b.toNat i).length≤216:=fun i hi=>aM (allT_len _ i) (aM (Nat.pow_le_pow_left (by lia:b.toNat≤6) i) (Nat.pow_le_pow_right (by decide) hi))
 refine j5 (n:=m.toNat) (fun i σ H3=>bH H H3∧∃ (L:aq) (us:List V) (v3 v4 v5:Option V),σ=[some (.int b),some (.int m),some (.ref L),v3,v4,v5]∧H3 L=some (.lst us)∧dG H3 us (cW id (nG b.toNat i))) ⟨S1.trans S2,q2,_,none,none,none,rfl,h2,.cons (.tup (S2 _ _ h1) .nil) .nil⟩ ?_ ?_
 ·rintro i σ H3 hi ⟨S3,L,us,v3,v4,v5,rfl,hL,hT⟩
  have lus:us.length=(nG b.toNat i).length:=by rw [hT.length];exact aa ..
  have hn:us.length≤216:=by rw [lus];exact cap i (by lia)
  refine ⟨bg _,fun q4 H4 S4 h4=>?_⟩;refine ⟨_,rfl,L,rfl,⟨_,SqL.of (S4 _ _ hL)⟩,?_⟩;refine jh (K:=K) (a:=L) (xs:=us) (fun j σ H5=>bH H4 H5∧∃ (L2:aq) (ws:List V) (v5:Option V),σ=[some (.int b),some (.int m),some (.ref L),some (.int ((0:Int)+(i:Nat))),some (.ref L2),v5]∧H5 L2=some (.lst ws)∧dG H5 ws (cW id (k7 b.toNat ((nG b.toNat i).take j)))∧ws.length≤6 * j) ⟨bH.refl H4,q4,[],_,rfl,h4,.nil,aA _⟩ (fun j σ H5 _ ⟨S5,_⟩=>SqL.of (S5 _ _ (S4 _ _ hL))) ?_ ?_
  ·rintro j u σ H5 hu ⟨S5,L2,ws,v5,rfl,hL2,hW,hwn⟩
   have hj:j<us.length:=(ao.mp hu).1;have hj2:j<(nG b.toNat i).length:=by lia
   obtain ⟨d,ed,dd⟩:=hT.get hu;unfold cW at ed;rw [ay,gE hj2] at ed;cases ed;obtain ⟨q,zs,rfl,hq,rz⟩:=dd.tup_of;have ez:=rz.ints_of;subst ez;have hlen:((nG b.toNat i)[j]).length=i:=nF b.toNat i _ (ba hj2);obtain ⟨ts,hts⟩:∃ ts,ts=(nG b.toNat i)[j]:=⟨_,rfl⟩;have hq5:H5 q=some (.tup (ts.map V.int)):=by rw [hts];exact S5 _ _ (S4 _ _ hq)
   rw [←hts] at hlen;have elong:k7 b.toNat ((nG b.toNat i).take (j+1))=k7 b.toNat ((nG b.toNat i).take j)++(aF b.toNat).map fun c:Nat=>ts++[(0:Int)+(c:Nat)]:=by
    unfold k7;rw [bj,gE hj2,List.flatMap_append,hts];simp
   refine ⟨_,rfl,_,rfl,b,rfl,by lia,by lia,?_⟩;refine kD (n:=b.toNat) (fun c zs H6=>bH H5 H6∧dG H6 zs (cW id ((aF c).map fun c:Nat=>ts++[(0:Int)+(c:Nat)]))) ⟨bH.refl H5,.nil⟩ (fun c zs H6 _ ⟨_,e⟩=>by rw [e.length];unfold cW;rw [aa,aa,bh];exact aA _) (eQ (by lia)) (fun c zs H6 hc ⟨S6,hz⟩=>?_) (fun zs H6 ⟨S6,hz⟩ D hD=>?_)
   ·refine gc ?_
    refine ⟨_,rfl,_,rfl,szZ1,fun q7 H7 S7 h7=>⟨q,q7,_,_,rfl,rfl,S7 _ _ (S6 _ _ hq5),h7,?_,fun q8 H8 S8 h8=>⟨S6.trans (S7.trans S8),?_⟩⟩⟩
    ·rw [aa,hlen];exact aM (by show i+1≤1000;lia) (by decide)
    ·unfold cW
     rw [fF,aE,aE];exact (hz.same (S7.trans S8)).append (.cons (.tup (by rw [h8]) (by show dG H8 _ ((ts++[(0:Int)+(c:Nat)]).map Dt.int);rw [show ts.map V.int++[V.int ((0:Int)+(c:Nat))]=(ts++[(0:Int)+(c:Nat)]).map V.int by rw [aE];rfl];exact dG.ints _)) .nil)
   ·have S7:bH H5 (upd H6 D (.lst zs)):=S6.put hD
    have hD7:(upd H6 D (.lst zs)) D=some (.lst zs):=aQ;have hz7:=hz.same (bH.put (o:= .lst zs) (bH.refl H6) hD);have lz:zs.length=b.toNat:=by rw [hz.length];unfold cW;rw [aa,aa,bh]
    generalize upd H6 D (.lst zs)=H7 at S7 hD7 hz7 ⊢;refine ⟨L2,D,_,_,rfl,rfl,S7 _ _ hL2,hD7,aM (by lia:ws.length+zs.length≤2000) (by decide),fun q8 H8 S8 h8=>?_⟩;refine ⟨S5.trans (S7.trans S8),q8,ws++zs,_,rfl,h8,?_,by rw [ar,lz];lia⟩;rw [elong];unfold cW;rw [aE];exact (hW.same (S7.trans S8)).append (hz7.same S8)
  ·rintro σ H5 ⟨S5,L2,ws,v5,rfl,hL2,hW,hwn⟩
   refine ⟨_,rfl,S3.trans (S4.trans S5),L2,ws,_,_,_,rfl,hL2,?_⟩;rw [lus,bq] at hW;exact hW
 ·rintro σ H3 ⟨S3,L,us,v3,v4,v5,rfl,hL,hT⟩
  exact ⟨_,rfl,k L us H3 S3 hL hT⟩
abbrev sKeptL:cJ:=top 66
abbrev sAllK:cJ:=top 67
inductive spKeptL (vs:List V)(H:Hp)(Q:VK)(_:XK):Prop
 | mk (v:V)(q u:aq)(b m:Int)(sp:List Sn)(ts:List Int)(x:Sn)(_:vs=[v,.ref q,.ref u])(_:IsD H v (jA b m sp))(_:H q=some (.tup (x.row.map V.int)))(_:H u=some (.tup (ts.map V.int)))(_:0<b)(_:0≤x.s)(_:x.s<ts.length)(_:0≤x.g)(_:x.g<ts.length)(_:Q (.bl (!(brk b ts x))) H)
inductive spAllK (vs:List V)(H:Hp)(Q:VK)(_:XK):Prop
 | mk (v:V)(u:aq)(b m:Int)(sp:List Sn)(ts:List Int)(_:vs=[v,.ref u])(_:IsD H v (jA b m sp))(_:H u=some (.tup (ts.map V.int)))(_:Rdy b ts sp)(_:∀ H',bH H H'→Q (.bl (lr b ts sp)) H')
theorem scKeptL:bY ["_law_net","_law_span","_law_table_here","_law_wait"] pzA (defScope sKeptL):=by trivial
theorem ok_keptL (F:Fun K "_law_kept" "_law_kept" sKeptL f fd):cM P w K mg base CX0 1 f fd pzA spKeptL:=by
 refine F.ok scKeptL (by contradiction) (fun cdv A outer s H vs Q E hr h=>?_);obtain ⟨v,q,u,b,m,sp,ts,x,rfl,hv,hq,hu,hb,s0,s1,g0,g1,k⟩:=h;obtain ⟨t,pn,ys,rfl,ht,_⟩:=fm hv;refine ⟨_,PSl.h (aY ⟨(psZ 3 scKeptL.nd (cU k6 (cU i0 (cU i0 (eJ eD (pv 2) (ixZ (pv 1)) (fun _ _=>rfl)) (eJ eD (pv 2) (ixZ (pv 1)) (fun _ _=>rfl))) (ixZ (pv 1))) (ixZ (pv 0))))⟩
  (cP ⟨(cf (iG op_le (pv 3) (cU i0 (ixZ (pv 1)) (ixZ (pv 1))) (cG _)))⟩)),?_⟩
 refine ⟨_,rfl,_,rfl,q,_,_,_,rfl,rfl,SqT.of hq,aO (j:=1) rfl,u,_,_,_,rfl,rfl,SqT.of hu,lE g0 g1,_,rfl,_,rfl,q,_,_,_,rfl,rfl,SqT.of hq,aO (j:=0) rfl,u,_,_,_,rfl,rfl,SqT.of hu,lE s0 s1,_,_,rfl,rfl,_,rfl,q,_,_,_,rfl,rfl,SqT.of hq,aO (j:=2) rfl,_,_,rfl,rfl,_,rfl,t,_,_,_,rfl,rfl,SqT.of ht,aO (j:=0) rfl,_,_,rfl,rfl,hb,?_⟩;refine ⟨_,rfl,_,rfl,q,_,_,_,rfl,rfl,SqT.of hq,aO (j:=3) rfl,_,rfl,q,_,_,_,rfl,rfl,SqT.of hq,aO (j:=2) rfl,_,_,rfl,rfl,_,_,rfl,rfl,?_⟩;have e:decide ((tm ts x.g - tm ts x.s - x.l) % b≤x.o - x.l)= !(brk b ts x):=by
  unfold brk iq;rw [←decide_not];exact decide_eq_decide.mpr ⟨fun h=>by lia,fun h=>by lia⟩
 rw [←e] at k;exact k
theorem scAllK:bY pzi pzi (defScope sAllK):=by trivial
theorem ok_allK (F:Fun K "_law_all_kept" "_law_all_kept" sAllK f fd)(G1:Fn K mg "_law_kept" sKeptL pzA f1 fd1):cM P w K mg base CX0 2 f fd pzi spAllK:=by
 have F1:cM P w K mg base CX0 1 f1 fd1 pzA spKeptL:=ok_keptL G1.F;refine F.ok scAllK (by contradiction) (fun cdv A outer s H vs Q E hr h=>?_);obtain ⟨v,u,b,m,sp,ts,rfl,hv,hu,R,k⟩:=h;obtain ⟨t,pn,ys,rfl,ht,hpn,hl,hy⟩:=fm hv;refine ⟨_,PSl.h (cP ⟨(cf (iG (op_eqL0 hr.units0) (gW (fr:=pzi) (js:=[0,1]) rfl (lI (ixZ (pv 0))) (by trivial) rfl (by trivial) rfl (by exists sAllK) (by trivial) rfl (by trivial) (fun _ _ _ _ _=>⟨(pv 0),(kQ (jE (ia (pc1 G1 F1 hr (af (pv 1) (af (pv 0) (af (pv 2) aD)))))))⟩)) (kT aD) (cG _)))⟩),?_⟩;refine ⟨_,rfl,t,_,_,_,rfl,rfl,SqT.of ht,aO (j:=2) rfl,pn,rfl,⟨_,SqT.of hpn⟩,?_⟩;refine kf (K:=K) (a:=pn) (xs:=ys) (fun i zs H2=>H2=H∧zs.isEmpty= !((sp.take i).any (brk b ts))∧zs.length≤i) ⟨rfl,rfl,aA _⟩ (fun i zs H2 hi ⟨e1,e2,e3⟩=>?_) (by rw [hl];exact eQ R.few) (fun i x zs H2 hx ⟨e1,e2,e3⟩=>?_) (fun zs H2 ⟨e1,e2,e3⟩ D hD=>?_)
 ·subst e1;exact ⟨SqT.of hpn,e3⟩
 ·subst e1
  have hi:i<sp.length:=by rw [←hl];exact (ao.mp hx).1
  obtain ⟨q,hq,hq2⟩:=hy i sp[i] (gE hi);rw [hx] at hq;cases hq;obtain ⟨s0,s1,g0,g1⟩:=R.ends sp[i] (ba hi);have ht1:(sp.take (i+1)).any (brk b ts)=((sp.take i).any (brk b ts) || brk b ts sp[i]):=by
   rw [bj,gE hi,List.any_append];simp
  refine ⟨_,rfl,_,rfl,_,rfl,.ref t,q,u,b,m,sp,ts,sp[i],rfl,hv,hq2,hu,R.b1,s0,s1,g0,g1,_,rfl,?_⟩;cases hb:brk b ts sp[i] with
  | true=>exact ⟨_,rfl,rfl,by rw [ht1,hb];simp,by rw [ar];show zs.length+1≤i+1;lia⟩
  | false=>exact ⟨rfl,by rw [ht1,hb,e2];simp,by lia⟩
 ·subst e1
  have S1:bH H2 (upd H2 D (.lst zs)):=bH.put (bH.refl H2) hD;have hD1:(upd H2 D (.lst zs)) D=some (.lst zs):=aQ;generalize upd H2 D (.lst zs)=H3 at S1 hD1 ⊢;refine ⟨bg _,fun q4 H4 S4 h4=>⟨D,q4,_,rfl,rfl,SqL.of (S4 _ _ hD1),SqL.of h4,?_⟩⟩;have k1:=k H4 (S1.trans S4);have e:zs.isEmpty=lr b ts sp:=by rw [e2,hl,bq];rfl
  rw [←e] at k1;exact k1
abbrev sWidth:cJ:=top 7
theorem scWidth:bY ["net","span","least","most"] pzd (defScope sWidth):=by trivial
theorem ok_width (F:Fun K "width_of" "width_of" sWidth f fd):cM P w K mg base CX0 1 f fd pzd spWidth:=by
 refine F.ok scWidth (by contradiction) (fun cdv A outer s H vs Q E hr h=>?_);obtain ⟨v,b,m,sp,i,x,rfl,hv,hx,k⟩:=h;obtain ⟨t,p,ys,rfl,ht,hp,hl,hy⟩:=fm hv;obtain ⟨q,hq,hq2⟩:=hy i x hx;refine ⟨_,PSl.h (aY ⟨(psZ 2 scWidth.nd (ixZ (eJ eD (ixZ (pv 0)) (pv 1) (fun _ _=>rfl))))⟩
  (aY ⟨(psZ 3 scWidth.nd (ixZ (eJ eD (ixZ (pv 0)) (pv 1) (fun _ _=>rfl))))⟩
  (cP ⟨(cf (cU i0 (pv 3) (pv 2)))⟩))),?_⟩
 refine ⟨_,rfl,t,_,_,_,rfl,rfl,SqT.of ht,aO (j:=2) rfl,_,rfl,p,_,_,_,rfl,rfl,SqT.of hp,aO (j:=i) hq,q,_,_,_,rfl,rfl,SqT.of hq2,aO (j:=2) rfl,?_⟩;refine ⟨_,rfl,t,_,_,_,rfl,rfl,SqT.of ht,aO (j:=2) rfl,_,rfl,p,_,_,_,rfl,rfl,SqT.of hp,aO (j:=i) hq,q,_,_,_,rfl,rfl,SqT.of hq2,aO (j:=3) rfl,?_⟩;exact ⟨_,rfl,_,rfl,_,_,rfl,rfl,k⟩
abbrev sSpW:cJ:=top 20
abbrev lH:cJ:=top 21
def lamPos:List cJ→Pos
 | [.Return (some (.Call _ _ [⟨_,.Lambda _ _ _ lp,_⟩] _)) _]=>lp
 | _=>⟨0,0,0,0⟩
abbrev lpW:Pos:=lamPos (gh sSpW)
abbrev lqW:Str:=(("spans_by_width" :Str) ++ ".<locals>.") ++ "<lambda>"
theorem okC {c:aq}{k:Nat}{sp:Sp}(F:Fun K x qual st f fd)(hc:fd.code= .ref c)(S:bY N ps (defScope st))(len:∀ vs H Q E,sp vs H Q E→vs.length=ps.length)
  (hbody:∀ (A:bW) (outer:List Env) (s:ax) (H:Hp) (vs:List V) (Q:VK) (E:XK),gN k (A.deeper (envOfC qual (defScope st) s.heap.objs.size f (.ref c)))→sp vs H Q E →
   ∃ t,PSs (cxOf CX0 P w K mg base N qual (defScope st) f (.ref c) A outer s H E).nox (gh st) t∧t { nx:=fun _ H'=>Q .non H',rt:=Q } (L2.start N vs) H):cM P w K mg base CX0 (k+1) f fd ps sp:=by
 obtain ⟨oc,od,kV,doc,pm,an,cdv,ct,osl,rfl,lk,hcd⟩:=F.ex;have hc:cdv= .ref c:=hc;subst hc;refine fn_of lk hcd S len fun A outer s H vs Q E hr hsp=>?_
 obtain ⟨t,h,q⟩:=hbody A outer s H vs Q E hr hsp;exact ⟨t,h.nox,q⟩
theorem scSpW:bY pza pza (defScope sSpW):=by trivial
theorem ok_spW {c:aq}(F:Fun K "spans_by_width" "spans_by_width" sSpW f fd)(hcd:fd.code= .ref c)(C:fI K c Tb0=true)(B:BM mg base)(T:Nm mg)(T2:Nt mg)(ms:mg "sorted" =none)(G1:Fn K mg "width_of" sWidth pzd f1 fd1) :
  cM P w K mg base CX0 5 f fd pza (spSpW Tb0 lpW lqW):=by
 have F1:cM P w K mg base CX0 1 f1 fd1 pzd spWidth:=ok_width G1.F;refine okC F hcd scSpW (by contradiction) (fun A outer s H vs Q E hr h=>?_);obtain ⟨v,b,m,sp,rfl,hv,few,hT,k⟩:=h;obtain ⟨t,p,ys,rfl,ht,hp,hl,hy⟩:=fm hv;refine ⟨_,PSl.h (cP ⟨(cf (pe_sortL (js:=[0]) (fr:=pza) (x := "span") (c:=c) (P:=Tb0) rfl hr.depth rfl ms (eU pO rfl T2.range boot_range (af (cp bV rfl T.len bF (af (ixZ (pv 0)) aD)) aD)) rfl rfl C B (fun _ _ _ _ _ _=>rfl) rfl rfl rfl (by trivial) rfl (by decide) (by exists sSpW) rfl (by trivial)
  (fun cl L f' cd s' H'=>pe_tup (af (pc1 G1 F1 (((hr.in1).in1).deeper _ |>.mono (by decide)) (af (pv 1) (af (pv 0) aD))) (af (pv 0) aD)))))⟩),?_⟩
 refine ⟨_,rfl,t,_,_,_,rfl,rfl,SqT.of ht,aO (j:=2) rfl,p,_,rfl,.inr (SqT.of hp),_,rfl,fun r H1 S1 hr1=>?_⟩;have hv1:IsD H1 (.ref t) (jA b m sp):=hv.same S1;have hT1:=LamT.same S1 hT;refine ⟨r,ys.length,wkey sp,rfl,hr1,by lia,hT1,wkey_nodup sp _,fun i hi H2 tb=>?_,fun D H4 π tb lt hD pm pw=>?_⟩
 ·have hv2:=cO (Tb.tupK (LamT.tbl hT1) tb) hv1
  refine ⟨_,rfl,_,rfl,.ref t,b,m,sp,i,sAt sp i,rfl,hv2,i8 (by lia),_,rfl,oI,fun q hq=>⟨fun a o e=>by rw [br (bC e hq)];exact e,q,rfl,aQ⟩⟩
 ·exact k D H4 π ((bH.tb S1).trans tb) lt hD ⟨by rw [←hl];exact pm,pw⟩
theorem kO:bY ["net","groups","taken","span","one","other"] pza (defScope lH):=by trivial
theorem ok_forest (F:Fun K "forest_of" "forest_of" lH f fd)(T:Nm mg)(T2:Nt mg)(ms:mg "sorted" =none)(G1:Fn K mg "spans_by_width" sSpW pza f1 fd1)(F1:cM P w K mg base CX0 5 f1 fd1 pza (spSpW Tb0 lp lq)) :
  cM P w K mg base CX0 6 f fd pza (kL Tb0 lp lq):=by
 refine F.ok kO (by contradiction) (fun cdv A outer s H vs Q E hr h=>?_);obtain ⟨v,b,m,sp,rfl,hv,N,hT,k⟩:=h;obtain ⟨t,p,ys,rfl,ht,hp,hl,hy⟩:=fm hv;obtain ⟨mn,rfl⟩:=cz (show 0≤m by have:=N.m1;lia);have m2:=N.m2;have few:=N.few;have E:=N.ends;rw [cI] at E k;refine ⟨_,PSl.h (aY ⟨(psZ 1 kO.nd (eU (qG rfl) rfl T2.tlist boot_list (af (eU pO rfl T2.range boot_range (af (ixZ (pv 0)) aD)) aD)))⟩
  (aY ⟨(psZ 2 kO.nd (iQ aD))⟩
  (aY ⟨(ib bE rfl (gg (pc1 G1 F1 hr (af (pv 0) aD))) (pgZ 3 kO.nd) (PSl.h (aY ⟨(psZ 4 kO.nd (eJ gB (pv 1) (ixZ (eJ eD (ixZ (pv 0)) (pv 3) (fun _ _=>rfl))) (fun _ _=>rfl)))⟩
  (aY ⟨(psZ 5 kO.nd (eJ gB (pv 1) (ixZ (eJ eD (ixZ (pv 0)) (pv 3) (fun _ _=>rfl))) (fun _ _=>rfl)))⟩
  (cP ⟨(fV (cw op_ne (pv 4) (pv 5) (cG _)) (PSl.h (aY ⟨(gL (lh bc bP bO fH (pv 2) (af (pv 3) aD)))⟩
  (cP ⟨(oY (iy:=1) (fr:=["one","other"]) (js:=[4,5]) kO.nd rfl (.inl rfl) rfl (gg (pv 1)) (by trivial) rfl (by trivial) rfl (by exists lH) (by trivial) rfl (by trivial) (fun _ _ _ _ _=>⟨(oA (cw jJ (pv 0) (pv 2) (cG _)) (pv 1) (pv 0)),gT⟩))⟩))) cZ)⟩)))))⟩
  (cP ⟨(cf (eU i3 rfl T.ttup iX (af (cp call_sortedI rfl ms boot_sorted (af (pv 2) aD)) aD)))⟩)))),?_⟩
 refine ⟨_,rfl,t,_,_,_,rfl,rfl,SqT.of ht,aO (j:=1) rfl,(mn:Int),rfl,fun a1 H1 S1 h1=>⟨a1,mn,rfl,h1,by lia,fun Lg hLg=>?_⟩⟩;have S2:bH H (upd H1 Lg (.lst ((aF mn).map fun k=>V.int (k:Nat)))):=S1.trans (bH.put (bH.refl H1) hLg);have hLg2:(upd H1 Lg (.lst ((aF mn).map fun k=>V.int (k:Nat)))) Lg=some (.lst ((jK mn).map V.int)):=by rw [aQ];unfold jK;rw [c9];rfl
 generalize upd H1 Lg (.lst ((aF mn).map fun k=>V.int (k:Nat)))=H2 at S2 hLg2 ⊢;refine ⟨bg _,fun Lt hLt=>?_⟩;have S3:bH H (upd H2 Lt (.lst [])):=S2.trans (bH.put (bH.refl H2) hLt);have hgt:Lg≠Lt:=fun z=>by rw [z,hLt] at hLg2;cases hLg2
 have hLt3:(upd H2 Lt (.lst [])) Lt=some (.lst []):=aQ;have hLg3:(upd H2 Lt (.lst [])) Lg=some (.lst ((jK mn).map V.int)):=by rw [br hgt];exact hLg2
 generalize upd H2 Lt (.lst [])=H3 at S3 hLt3 hLg3 ⊢;have hT3:=LamT.same S3 hT;obtain ⟨ps3,hTb3⟩:=LamT.tbl hT3;refine ⟨_,rfl,.ref t,b,mn,sp,rfl,hv.same S3,few,hT3,fun D H4 π tb4 hT4 hD O=>?_⟩;obtain ⟨ps4,hTb4⟩:=LamT.tbl hT4;have nLg:Lg≠Tb0:=fW hLg3 hTb3 nofun;have nLt:Lt≠Tb0:=fW hLt3 hTb3 nofun;have hLg4:=tb4 _ _ nLg hLg3;have hLt4:=tb4 _ _ nLt hLt3;have nDg:D≠Lg:=fun z=>by rw [z,hLg4] at hD;cases hD
 have nDt:D≠Lt:=fun z=>by rw [z,hLt4] at hD;cases hD
 have S5:bH H4 (upd H4 D (.lst (π.map fun (i:Nat)=>V.int i))):=bH.put (bH.refl H4) hD;have tb5:L2.Tb Tb0 H (upd H4 D (.lst (π.map fun (i:Nat)=>V.int i))):=((bH.tb S3).trans tb4).trans (bH.tb S5);have hT5:=LamT.same S5 hT4;have hD5:(upd H4 D (.lst (π.map fun (i:Nat)=>V.int i))) D=some (.lst (π.map fun (i:Nat)=>V.int i)):=aQ;have hLg5:=S5 _ _ hLg4;have hLt5:=S5 _ _ hLt4;generalize upd H4 D (.lst (π.map fun (i:Nat)=>V.int i))=H5 at tb5 hT5 hD5 hLg5 hLt5 ⊢;have hLtN:∀ o,H Lt=some o→False:=fun o e=>by rw [S2 _ _ e] at hLt;cases hLt
 clear hLg4 hLt4 S5 hD hTb4 hT4 tb4 hLg3 hLt3 hT3 hTb3 hLg2 hLt S2 h1 S1 hLg S3;refine ⟨D,rfl,⟨_,SqL.of hD5⟩,?_⟩;have tkE:∀ {H':Hp},L2.Tb Tb0 H H'→jL H H':=fun e=>Tb.tupK (LamT.tbl hT) e
 refine jh (K:=K) (a:=D) (xs:=π.map fun (i:Nat)=>V.int i) (fun i σ HA=>L2.Tb Tb0 H HA∧L2.LamT Tb0 lp lq HA∧HA D=some (.lst (π.map fun (i:Nat)=>V.int i))∧∃ (La:aq) (v3 v4 v5:Option V),σ=[some (.ref t),some (.ref La),some (.ref Lt),v3,v4,v5]∧La≠Lt∧HA La=some (.lst (((π.take i).foldl (gn sp) (jK mn,[])).1.map V.int))∧HA Lt=some (.lst (((π.take i).foldl (gn sp) (jK mn,[])).2.map fun (i:Nat)=>V.int i)))
  ⟨tb5,hT5,hD5,Lg,none,none,none,rfl,hgt,hLg5,hLt5⟩ (fun i σ HA _ ⟨_,_,h,_⟩=>SqL.of h) ?_ ?_
 ·rintro i x σ HA hx ⟨tbA,hTA,hDA,La,v3,v4,v5,rfl,nLa,hLa,hLtA⟩
  rw [ay] at hx;obtain ⟨j,hj,rfl⟩:=aS.mp hx;have hjn:j<sp.length:=O.lt (aP hj);have hvA:=cO (tkE tbA) hv;obtain ⟨t',p',ys',e0,htA,hpA,hlA,hyA⟩:=fm hvA;cases e0;obtain ⟨q,hq,hq2⟩:=hyA j _ (i8 hjn);obtain ⟨s0,s1,g0,g1⟩:=E _ (fc hjn);have fold:(π.take (i+1)).foldl (gn sp) (jK mn,[])=gn sp ((π.take i).foldl (gn sp) (jK mn,[])) j:=by
   rw [bj,hj];show (π.take i++[j]).foldl _ _=_;rw [b9];rfl
  rw [fold];obtain ⟨gl,gb⟩:((π.take i).foldl (gn sp) (jK mn,[])).1.length=mn∧((π.take i).foldl (gn sp) (jK mn,[])).2.length≤sp.length:=by
   refine ⟨(pH E (π.take i) _ _ [] (fun i hi=>O.lt (jO hi)) (Rl.start mn)).1.len,?_⟩;have:=(jU sp (π.take i) (jK mn,[])).2;rw [bK] at this;have h2:=O.len;show _≤_;have h3:((jK mn,([]:List Nat)).2).length=0:=rfl;lia
  generalize (π.take i).foldl (gn sp) (jK mn,[])=c at hLa hLtA gl gb ⊢;obtain ⟨gs,tk⟩:=c;have hLa:HA La=some (.lst (gs.map V.int)):=hLa;have hLtA:HA Lt=some (.lst (tk.map fun (i:Nat)=>V.int i)):=hLtA;have gl:gs.length=mn:=gl;have gb:tk.length≤sp.length:=gb;have es:=lE (ts:=gs) s0 (by lia);have eg:=lE (ts:=gs) g0 (by lia);refine ⟨_,rfl,_,rfl,t,_,_,_,rfl,rfl,SqT.of htA,aO (j:=2) rfl,_,rfl,p',_,_,_,rfl,rfl,SqT.of hpA,aO (j:=j) hq,q,_,_,_,rfl,rfl,SqT.of hq2,aO (j:=0) rfl,La,_,_,_,rfl,rfl,SqL.of hLa,es,?_⟩;refine ⟨_,rfl,_,rfl,t,_,_,_,rfl,rfl,SqT.of htA,aO (j:=2) rfl,_,rfl,p',_,_,_,rfl,rfl,SqT.of hpA,aO (j:=j) hq,q,_,_,_,rfl,rfl,SqT.of hq2,aO (j:=1) rfl,La,_,_,_,rfl,rfl,SqL.of hLa,eg,?_⟩;refine ⟨_,rfl,_,rfl,rfl,_,rfl,?_⟩
  by_cases e:tm gs (sAt sp j).s=tm gs (sAt sp j).g
  ·have st:gn sp (gs,tk) j=(gs,tk):=by unfold gn;exact qL e
   rw [st,e,qN rfl];exact iteF ⟨tbA,hTA,hDA,La,_,_,_,rfl,nLa,hLa,hLtA⟩
  ·have st:gn sp (gs,tk) j=(iW gs (tm gs (sAt sp j).s) (tm gs (sAt sp j).g),tk++[j]):=by unfold gn;exact qK e
   rw [st,qO (fun z=>e (V.int.inj z))];refine iteT ?_;obtain ⟨x,hx⟩:∃ x,x=tm gs (sAt sp j).s:=⟨_,rfl⟩;obtain ⟨y,hy⟩:∃ y,y=tm gs (sAt sp j).g:=⟨_,rfl⟩;rw [←hx,←hy] at e ⊢;refine ⟨_,rfl,.inl ⟨rfl,_,SqL.of hLtA⟩,_,rfl,Lt,_,_,rfl,rfl,hLtA,mS (by rw [aa];lia),?_⟩;have hLt6:(upd HA Lt (.lst ((tk.map fun (i:Nat)=>V.int i)++[V.int j]))) Lt=some (.lst ((tk++[j]).map fun (i:Nat)=>V.int i)):=by rw [aQ,aE];rfl
   have keep:∀ a o,a≠Lt→HA a=some o→(upd HA Lt (.lst ((tk.map fun (i:Nat)=>V.int i)++[V.int j]))) a=some o:=fun a o h e=>by rw [br h];exact e
   have nTL:Tb0≠Lt:=fun z=>nLt z.symm
   have tb6:L2.Tb Tb0 H (upd HA Lt (.lst ((tk.map fun (i:Nat)=>V.int i)++[V.int j]))):=fun a o hn e=>keep a o (fun z=>by subst z;exact hLtN _ e) (tbA a o hn e)
   have hT6:L2.LamT Tb0 lp lq (upd HA Lt (.lst ((tk.map fun (i:Nat)=>V.int i)++[V.int j]))):=LamT.upd hTA (fun p u z=>by rw [hLtA] at z;cases z) fun ps z=>by rw [hLtA] at z;cases z
   have hD6:=keep _ _ nDt hDA;have hLa6:=keep _ _ nLa hLa;generalize upd HA Lt (.lst ((tk.map fun (i:Nat)=>V.int i)++[V.int j]))=HB at hLt6 keep tb6 hT6 hD6 hLa6 ⊢;refine ⟨_,rfl,La,rfl,⟨_,SqL.of hLa6⟩,?_⟩;refine jv (K:=K) (a:=La) (xs:=gs.map V.int) (fun i zs HC=>HC=HB∧zs=(iW (gs.take i) x y).map V.int) ⟨rfl,rfl⟩ (fun i zs HC hi ⟨e1,e2⟩=>?_) (by rw [aa];exact eQ (by lia)) (fun i v zs HC hv ⟨e1,e2⟩=>?_) (fun zs HC ⟨e1,e2⟩ L hL=>?_)
   ·subst e1
    refine ⟨SqL.of hLa6,?_⟩;rw [aa] at hi;rw [e2,aa];unfold iW;rw [aa,bK];lia
   ·subst e1
    rw [ay] at hv;obtain ⟨g,hg,rfl⟩:=aS.mp hv;refine gc ?_;have nx:zs++[V.int (if g=y then x else g)]=(iW (gs.take (i+1)) x y).map V.int:=by
     rw [e2];unfold iW;rw [bj,hg,aE,aE];rfl
    refine ⟨_,rfl,_,rfl,rfl,_,rfl,?_⟩
    by_cases eg:g=y
    ·rw [eg,qN rfl]
     refine iteT ⟨_,rfl,rfl,?_⟩;rw [←nx,qL eg]
    ·rw [qO (fun z=>eg (V.int.inj z))]
     refine iteF ⟨_,rfl,rfl,?_⟩;rw [←nx,qK eg]
   ·subst e1
    have eL:zs=(iW gs x y).map V.int:=by rw [e2,aa,bq]
    subst eL;have S7:bH HC (upd HC L (.lst ((iW gs x y).map V.int))):=bH.put (bH.refl HC) hL;have nLL:L≠Lt:=fun z=>by rw [z,hLt6] at hL;cases hL
    exact ⟨tb6.trans (bH.tb S7),LamT.same S7 hT6,S7 _ _ hD6,L,_,_,_,rfl,nLL,aQ,S7 _ _ hLt6⟩
 ·rintro σ HA ⟨tbA,hTA,hDA,La,v3,v4,v5,rfl,nLa,hLa,hLtA⟩
  rw [aa,bq] at hLtA;have tl:(π.foldl (gn sp) (jK mn,[])).2.length≤40:=by
   have:=(jU sp π (jK mn,[])).2;have h2:=O.len;have h3:((jK mn,([]:List Nat)).2).length=0:=rfl;lia
  have hLtI:HA Lt=some (.lst (((kB sp mn π).2.map fun (i:Nat)=>(i:Int)).map V.int)):=by rw [hLtA,c9];rfl
  refine ⟨_,rfl,Lt,_,rfl,SqL.of hLtI,by rw [aa];exact bU tl (by decide),fun L ns hL pm pw=>?_⟩;have S7:bH HA (upd HA L (.lst (ns.map V.int))):=bH.put (bH.refl HA) hL;refine ⟨L,_,rfl,.inl (Rd.of aQ),fun u H8 S8 hu=>?_⟩;exact k u H8 ns ((tbA.trans (bH.tb S7)).trans (bH.tb S8)) (LamT.same S8 (LamT.same S7 hTA)) hu ⟨π,O,pm,pw⟩
abbrev sFrom:cJ:=top 10
abbrev sTo:cJ:=top 11
theorem scFrom:bY ["net","step","span"] pzc (defScope sFrom):=by trivial
theorem pf (F:Fun K "leads_from" "leads_from" sFrom f fd):cM P w K mg base CX0 1 f fd pzc p9:=by
 refine F.ok scFrom (by contradiction) (fun cdv A outer s0 H vs Q E hr h=>?_);obtain ⟨v,q,b,m,sp,s,x,rfl,hv,hq,hx,k⟩:=h;obtain ⟨t,p,ys,rfl,ht,hp,hl,hy⟩:=fm hv;obtain ⟨qx,hqx,hqx2⟩:=hy s.i x hx;refine ⟨_,PSl.h (aY ⟨(psZ 2 scFrom.nd (eJ eD (ixZ (pv 0)) (ixZ (pv 1)) (fun _ _=>rfl)))⟩
  (cP ⟨(cf (oA (cw jJ (ixZ (pv 1)) bD (cG _)) (ixZ (pv 2)) (ixZ (pv 2))))⟩)),?_⟩
 refine ⟨_,rfl,t,_,_,_,rfl,rfl,SqT.of ht,aO (j:=2) rfl,_,rfl,q,_,_,_,rfl,rfl,SqT.of hq,aO (j:=0) rfl,p,_,_,_,rfl,rfl,SqT.of hp,aO (j:=s.i) hqx,?_⟩;refine ⟨_,rfl,q,_,_,_,rfl,rfl,SqT.of hq,aO (j:=1) rfl,rfl,_,rfl,?_⟩;refine pS (fun h1=>?_) (fun h1=>?_)
 ·have h1:s.d=1:=by have:=qP h1;injection this
  refine ⟨_,rfl,qx,_,_,_,rfl,rfl,SqT.of hqx2,aO (j:=0) rfl,?_⟩;have e:frm x s.d=x.s:=qL h1;rw [←e];exact k
 ·have h1:s.d≠1:=fun z=>h1 (qN (by rw [z]))
  refine ⟨_,rfl,qx,_,_,_,rfl,rfl,SqT.of hqx2,aO (j:=1) rfl,?_⟩;have e:frm x s.d=x.g:=qK h1;rw [←e];exact k
theorem scTo:bY ["net","step","span"] pzc (defScope sTo):=by trivial
theorem ok_to (F:Fun K "leads_to" "leads_to" sTo f fd):cM P w K mg base CX0 1 f fd pzc spTo:=by
 refine F.ok scTo (by contradiction) (fun cdv A outer s0 H vs Q E hr h=>?_);obtain ⟨v,q,b,m,sp,s,x,rfl,hv,hq,hx,k⟩:=h;obtain ⟨t,p,ys,rfl,ht,hp,hl,hy⟩:=fm hv;obtain ⟨qx,hqx,hqx2⟩:=hy s.i x hx;refine ⟨_,PSl.h (aY ⟨(psZ 2 scTo.nd (eJ eD (ixZ (pv 0)) (ixZ (pv 1)) (fun _ _=>rfl)))⟩
  (cP ⟨(cf (oA (cw jJ (ixZ (pv 1)) bD (cG _)) (ixZ (pv 2)) (ixZ (pv 2))))⟩)),?_⟩
 refine ⟨_,rfl,t,_,_,_,rfl,rfl,SqT.of ht,aO (j:=2) rfl,_,rfl,q,_,_,_,rfl,rfl,SqT.of hq,aO (j:=0) rfl,p,_,_,_,rfl,rfl,SqT.of hp,aO (j:=s.i) hqx,?_⟩;refine ⟨_,rfl,q,_,_,_,rfl,rfl,SqT.of hq,aO (j:=1) rfl,rfl,_,rfl,?_⟩;refine pS (fun h1=>?_) (fun h1=>?_)
 ·have h1:s.d=1:=by have:=qP h1;injection this
  refine ⟨_,rfl,qx,_,_,_,rfl,rfl,SqT.of hqx2,aO (j:=1) rfl,?_⟩;have e:too x s.d=x.g:=qL h1;rw [←e];exact k
 ·have h1:s.d≠1:=fun z=>h1 (qN (by rw [z]))
  refine ⟨_,rfl,qx,_,_,_,rfl,rfl,SqT.of hqx2,aO (j:=0) rfl,?_⟩;have e:too x s.d=x.s:=qK h1;rw [←e];exact k
abbrev oT:cJ:=top 22
abbrev sWayB:cJ:=top 23
abbrev sRingBy:cJ:=top 24
inductive spSteps (vs:List V)(H:Hp)(Q:VK)(_:XK):Prop
 | mk (v u b m sp tk x:_)(_:vs=[v,.ref u,.int x])(_:IsD H v (jA b m sp))(_:H u=some (.tup (tk.map fun (i:Nat)=>V.int i)))(_:(∀ i∈tk,i<sp.length))(_:tk.length≤40)(_:∀ L H' zs,bH H H'→H L=none→H' L=some (.lst zs)→dG H' zs (cW Stp.row (dE sp tk x))→Q (.ref L) H')
inductive spWayBt (vs:List V)(H:Hp)(Q:VK)(_:XK):Prop
 | mk (v u b m sp tk be en:_)(_:vs=[v,.ref u,.int be,.int en])(_:IsD H v (jA b m sp))(_:jD b m sp)(_:H u=some (.tup (tk.map fun (i:Nat)=>V.int i)))(_:(∀ i∈tk,i<sp.length))(_:tk.length≤40)(_:0≤be)(_:be<m)(_:qJ sp tk be en)(_:∀ q H' p,bH H H'→IsD H' q (oj p)→WayR sp tk be en p→Q q H')
inductive spRingBy (T:aq)(lp:Pos)(lq:Str)(vs:List V)(H:Hp)(Q:VK)(_:XK):Prop
 | mk (v b m sp k:_)(_:vs=[v,.int (k:Nat)])(_:IsD H v (jA b m sp))(_:jD b m sp)(_:L2.LamT T lp lq H)(_:k<sp.length)(_:∀ q H' (l π:List Nat) p,L2.Tb T H H'→L2.LamT T lp lq H'→IsD H' q (oj (⟨k,1⟩::p))→nZ m.toNat sp (l.map fun (i:Nat)=>(i:Int))→Ordd sp π→l.Perm (kB sp m.toNat π).2→WayR sp l (sAt sp k).g (sAt sp k).s p→Q q H')
def DW (H:Hp):List (Key×V)→List (Int×List Stp)→Prop:=jx fun (p:Key×V) (q:Int×List Stp)=>p.1= .inl q.1∧IsD H p.2 (oj q.2)
theorem DW.none {H:Hp}{x:Int}:∀ {kvs:List (Key×V)} {l:List (Int×List Stp)},DW H kvs l→lkW l x=none→k3 kvs (.inl x)=none
 | _,_,.nil,_=>rfl
 | _,_,.cons (b:=q) r t,h=>by
  rw [kU] at h
  by_cases e:q.1=x
  ·rw [qL e] at h;cases h
  ·rw [qK e] at h
   rw [gv (fun z=>e (Sum.inl.inj (r.1.symm.trans z)))];exact DW.none t h
theorem DW.some {H:Hp}{x:Int}{ws:List Stp}:∀ {kvs:List (Key×V)} {l:List (Int×List Stp)},DW H kvs l→lkW l x=some ws→∃ v,k3 kvs (.inl x)=some v∧IsD H v (oj ws)
 | _,_,.nil,h=>by cases h
 | _,_,.cons (b:=q) r t,h=>by
  rw [kU] at h
  by_cases e:q.1=x
  ·rw [qL e] at h
   cases h;exact ⟨_,gZ (by rw [r.1,e]),r.2⟩
  ·rw [qK e] at h
   rw [gv (fun z=>e (Sum.inl.inj (r.1.symm.trans z)))];exact DW.some t h
theorem pY (e:jL H H')(h:IsD H v (oj ws)):IsD H' v (oj ws):=by
 obtain ⟨p,ys,rfl,hp,_,r⟩:=gw h;exact .tup (e _ _ hp) (df e r)
theorem DW.keep (e:jL H H'){kvs:List (Key×V)}{l:List (Int×List Stp)}(h:DW H kvs l):DW H' kvs l:=L2.Paired.mapP h fun _ _ z=>⟨z.1,pY e z.2⟩
theorem DW.len {H:Hp}:∀ {kvs:List (Key×V)} {l:List (Int×List Stp)},DW H kvs l→kvs.length=l.length
 | _,_,.nil=>rfl
 | _,_,.cons _ t=>qQ (· + 1) (DW.len t)
theorem DW.snoc {H:Hp}{p:Key×V}{q:Int×List Stp}(h:p.1= .inl q.1∧IsD H p.2 (oj q.2)):∀ {kvs:List (Key×V)} {l:List (Int×List Stp)},DW H kvs l→DW H (kvs++[p]) (l++[q])
 | _,_,.nil=> .cons h .nil
 | _,_,.cons r t=> .cons r (DW.snoc h t)
structure JW (H Hc:Hp)(Da La:aq)(c:List (Int×List Stp)×List Int):Prop where
 same:bH H Hc
 da:∃ kvs,Hc Da=some (.dK kvs)∧DW Hc kvs c.1
 la:Hc La=some (.lst (c.2.map V.int))
theorem JW.on {Hc':Hp}{La:aq}(j:JW H Hc Da La c)(e:bH Hc Hc'):JW H Hc' Da La c:=by
 obtain ⟨kvs,h1,h2⟩:=j.da;exact ⟨j.same.trans e,⟨kvs,e _ _ h1,h2.keep (bH.tupK e)⟩,e _ _ j.la⟩
theorem JW.upL {La:aq}{td:List Int}(j:JW H Hc Da La c)(hL:H La=none)(n:Da≠La):JW H (upd Hc La (.lst (td.map V.int))) Da La (c.1,td):=by
 obtain ⟨kvs,h1,h2⟩:=j.da;exact ⟨fun a o e=>by rw [br (bC e hL)];exact j.same a o e,⟨kvs,by rw [br n];exact h1,h2.keep (eI j.la)⟩,aQ⟩
theorem mapI_at {x:V}(h:(l.map fun (i:Nat)=>V.int i)[i]? =some x):∃ j,l[i]? =some j∧x=V.int (j:Nat):=by
 rw [ay] at h;obtain ⟨j,hj,rfl⟩:=aS.mp h;exact ⟨j,hj,rfl⟩
theorem kI {s:Stp}(h:s.i<sp.length):too (sAt sp s.i) s.d=eY sp s∧frm (sAt sp s.i) s.d=kl sp s:=by
 have e:sAt sp s.i=sp[s.i]:=by unfold sAt;rw [ai,gE h];rfl
 rw [e];exact ⟨(kJ h).symm,(mK h).symm⟩
theorem last_mem {l:List Int}(h:l.getLast? =some z):z∈l:=by
 obtain ⟨ys,rfl⟩:=List.getLast?_eq_some_iff.mp h;simp
theorem scSteps:bY ["net","spans","happening","steps"] pzk (defScope oT):=by trivial
theorem ok_steps (F:Fun K "steps_from" "steps_from" oT f fd)(G1:Fn K mg "leads_from" sFrom pzc f1 fd1):cM P w K mg base CX0 2 f fd pzk spSteps:=by
 have F1:cM P w K mg base CX0 1 f1 fd1 pzc p9:=pf G1.F;refine F.ok scSteps (by contradiction) (fun cdv A outer s H vs Q E hr h=>?_);obtain ⟨v,u,b,m,sp,tk,x,rfl,hv,hu,hlt,few,k⟩:=h;have hr1:=hr;refine ⟨_,PSl.h (aY ⟨(psZ 3 scSteps.nd (cU op_catL (gW (fr:=[]) (js:=[]) rfl (lI (pv 1)) (by trivial) rfl (by trivial) rfl (by exists oT) (by trivial) rfl (by trivial) (fun _ _ _ _ _=>⟨(cY (af (pv 0) (af bD aD))),gT⟩)) (gW (fr:=[]) (js:=[]) rfl (lI (pv 1)) (by trivial) rfl (by trivial) rfl (by exists oT) (by trivial) rfl (by trivial) (fun _ _ _ _ _=>⟨(cY (af (pv 0) (af (pe_un pZ bD) aD))),gT⟩))))⟩
  (cP ⟨(cf (gW (fr:=["happening","net"]) (js:=[2,0]) rfl (gg (pv 3)) (by trivial) rfl (by trivial) rfl (by exists oT) (by trivial) rfl (by trivial) (fun _ _ _ _ _=>⟨(pv 0),(kQ (cw jJ (pc1 G1 F1 hr1 (af (pv 2) (af (pv 0) aD))) (pv 1) (cG _)))⟩)))⟩)),?_⟩
 have half:∀ (d:Int) (td:TE) (H0:Hp) (Rt:V→Hp→Prop),(∀ σ H1 (R:VK),R (.int d) H1→td σ H1 R)→bH H H0→(∀ L H' zs,bH H0 H'→H' L=some (.lst zs)→dG H' zs (cW Stp.row (tk.map fun i=>⟨i,d⟩))→Rt (.ref L) H') →
   CompW [] tNoIf (tTupA (nM (tVar 0) (nM td tNil))) [some v,some (.ref u),some (.int x),none] Rt (Itt K u) H0:=fun d td H0 Rt htd S0 fin=>by
  refine kf (K:=K) (a:=u) (xs:=tk.map fun (i:Nat)=>V.int i) (fun i zs HC=>bH H0 HC∧zs.length=i∧dG HC zs (cW Stp.row ((tk.take i).map fun i=>⟨i,d⟩))) ⟨bH.refl H0,rfl,.nil⟩ (fun i zs HC hi ⟨e1,e2,_⟩=>⟨SqT.of (e1 _ _ (S0 _ _ hu)),Nat.le_of_eq e2⟩) (by rw [aa];exact eQ (by lia)) (fun i y zs HC hy ⟨e1,e2,e3⟩=>?_) (fun zs HC ⟨e1,e2,e3⟩ D hD=>?_)
  ·obtain ⟨j,hj,rfl⟩:=mapI_at hy
   refine gc ⟨_,rfl,htd _ _ _ ⟨oI,fun q H2 S2 h2=>⟨e1.trans S2,by rw [ar,e2];rfl,?_⟩⟩⟩;rw [bj,hj];show dG H2 (zs++[.ref q]) (cW Stp.row ((tk.take i++[j]).map fun i=>⟨i,d⟩));unfold cW at e3 ⊢;rw [aE,aE];exact (e3.same S2).append (.cons (.tup h2 (dG.ints (Stp.row ⟨j,d⟩))) .nil)
  ·have S2:=bH.put (bH.refl HC) hD (o:= .lst zs)
   rw [aa,bq] at e3;exact fin D _ zs (e1.trans S2) aQ (e3.same S2)
 refine ⟨_,rfl,u,rfl,⟨_,SqT.of hu⟩,half 1 _ H _ (fun _ _ _ h=>h) (bH.refl H) fun L1 H1 z1 S1 h1 d1=>?_⟩;refine ⟨_,rfl,u,rfl,⟨_,SqT.of (S1 _ _ hu)⟩,half (-1) _ H1 _ (fun _ _ _ h=>⟨1,rfl,h⟩) S1 fun L2' H2 z2 S2 h2 d2=>?_⟩;have l1:z1.length=tk.length:=by rw [d1.length];unfold cW;rw [aa,aa]
 have l2:z2.length=tk.length:=by rw [d2.length];unfold cW;rw [aa,aa]
 refine ⟨L1,L2',_,_,rfl,rfl,S2 _ _ h1,h2,by rw [l1,l2];exact eQ (by lia),fun L3 H3 S3 h3=>?_⟩;have d3:dG H3 (z1++z2) (cW Stp.row (stF tk)):=by
  unfold stF cW;rw [aE];exact ((d1.same S2).same S3).append (d2.same S3)
 have S03:=S1.trans (S2.trans S3);have hv3:=hv.same S03;refine ⟨_,rfl,L3,rfl,⟨_,SqL.of h3⟩,?_⟩;have ls:(z1++z2).length=(stF tk).length:=by rw [d3.length];unfold cW;rw [aa]
 refine jv (K:=K) (a:=L3) (xs:=z1++z2) (fun i zs HC=>HC=H3∧zs.length≤i∧dG H3 zs (cW Stp.row (((stF tk).take i).filter fun s=>decide (kl sp s=x)))) ⟨rfl,bg _,.nil⟩ (fun i zs HC hi ⟨e1,e2,_⟩=>⟨by rw [e1];exact SqL.of h3,e2⟩) (by rw [ar,l1,l2];exact eQ (by lia)) (fun i y zs HC hy ⟨e1,e2,e3⟩=>?_) (fun zs HC ⟨e1,e2,e3⟩ D hD=>?_)
 ·subst e1
  have hi:i<(stF tk).length:=by have:=(ao.mp hy).1;lia
  have hsi:=gE hi;obtain ⟨y',hy',dy⟩:=d3.at (i:=i) (d:= .tup ((Stp.row (stF tk)[i]).map Dt.int)) (by unfold cW;rw [ay,hsi];rfl);rw [hy] at hy';cases hy';obtain ⟨q,qs,rfl,hq,rq⟩:=dy.tup_of;have eq:=rq.ints_of;subst eq;have hin:=hlt _ (mem_stF (ba hi)).1;refine ⟨_,rfl,_,rfl,v,q,b,m,sp,(stF tk)[i],sAt sp (stF tk)[i].i,rfl,hv3,hq,i8 hin,_,rfl,rfl,_,rfl,?_⟩;rw [(kI hin).2];have nx:((stF tk).take (i+1)).filter (fun s=>decide (kl sp s=x))=((stF tk).take i).filter (fun s=>decide (kl sp s=x))++(if kl sp (stF tk)[i]=x then [(stF tk)[i]] else []):=by
   rw [bj,hsi,fj];show _++[(stF tk)[i]].filter _=_;rw [fh,List.filter_nil]
   by_cases e:kl sp (stF tk)[i]=x
   ·rw [qL e,qL (qN e)]
   ·rw [qK e,qK (by rw [qO e];decide)]
  rw [nx]
  by_cases e:kl sp (stF tk)[i]=x
  ·rw [qL e,e,qN rfl]
   refine iteT ⟨_,rfl,rfl,by rw [ar];exact Nat.succ_le_succ e2,?_⟩;unfold cW at e3 ⊢;rw [aE];exact e3.append (.cons dy .nil)
  ·rw [qK e,qO (fun z=>e (V.int.inj z)),de]
   exact iteF ⟨rfl,Nat.le_succ_of_le e2,e3⟩
 ·subst e1
  have S4:=bH.put (bH.refl HC) hD (o:= .lst zs);rw [ls,bq] at e3;exact k D _ zs (S03.trans S4) (bH.free S03 hD) aQ (e3.same S4)
theorem qe:bY ["net","spans","begin","end","ways","ahead","here","step","there"] pzB (defScope sWayB):=by trivial
theorem ok_wayBt (F:Fun K "way_between" "way_between" sWayB f fd)(G1:Fn K mg "steps_from" oT pzk f1 fd1)(F1:cM P w K mg base CX0 2 f1 fd1 pzk spSteps)(G2:Fn K mg "leads_to" sTo pzc f2 fd2):cM P w K mg base CX0 3 f fd pzB spWayBt:=by
 have F2:cM P w K mg base CX0 1 f2 fd2 pzc spTo:=ok_to G2.F;refine F.ok qe (by contradiction) (fun cdv A outer s H vs Q E hr h=>?_);obtain ⟨v,u,b,m,sp,tk,be,en,rfl,hv,N,hu,hlt,few,be0,be1,held,k⟩:=h;have u1:=bU (Nat.add_le_add_left (by decide:1≤64) _) hr.units;have hr1:gN 1 _:=hr.mono (by decide);have E:=N.ends;have m16:m.toNat≤16:=by have:=N.m2;lia
 have b1:be<(m.toNat:Int):=by lia
 refine ⟨_,PSl.h (aY ⟨(psZ 4 qe.nd (pe_disp (pps_cons (pv 2) (cY aD) pps_nil) rfl rfl (by decide) (by decide)))⟩
  (aY ⟨(psZ 5 qe.nd (iQ (af (pv 2) aD)))⟩
  (aY ⟨(lR bE (pt_cmp (mX u1 (pv 3) (pv 4)) rfl) (PSl.h (aY ⟨(psZ 6 qe.nd (o9 bc e7 eZ pj (pv 5)))⟩
  (cP ⟨(ib bE rfl (gg (pc1 G1 F1 hr (af (pv 0) (af (pv 1) (af (pv 6) aD))))) (pgZ 7 qe.nd) (PSl.h (aY ⟨(psZ 8 qe.nd (pc1 G2 F2 hr1 (af (pv 0) (af (pv 7) aD))))⟩
  (cP ⟨(fV (pt_cmp (mX u1 (pv 8) (pv 4)) rfl) (PSl.h (aY ⟨(ps_dput u1 (pv 4) (pv 8) (cU kh (pe_dget u1 (pv 4) (pv 6) (fun _ _=>rfl)) (cY (af (pv 7) aD))) rfl)⟩
  (cP ⟨(gL (lh bc bP bO fH (pv 5) (af (pv 8) aD)))⟩))) cZ)⟩))))⟩))))⟩
  (cP ⟨(cf (pe_dget u1 (pv 4) (pv 3) (fun _ _=>rfl)))⟩)))),?_⟩
 intro Da hDa;refine ⟨_,rfl,bg _,fun q1 H1 S1 h1=>⟨S1 _ _ aQ,[(.inl be,.ref q1)],rfl,(by show 1≤15;decide),?_⟩⟩;have S0:bH H (upd H Da (.dK [])):=bH.put (bH.refl H) hDa;have hDa1:H1 Da=some (.dK []):=S1 _ _ aQ;have hDa2:(upd H1 Da (.dK (ng [] [(.inl be,.ref q1)]))) Da=some (.dK [(.inl be,.ref q1)]):=aQ;have S2:bH H (upd H1 Da (.dK (ng [] [(.inl be,.ref q1)]))):=fun b o e=>by
  rw [br (fun z=>by rw [z,hDa] at e;cases e)];exact S1 _ _ (S0 _ _ e)
 have hq1:(upd H1 Da (.dK (ng [] [(.inl be,.ref q1)]))) q1=some (.tup []):=by
  rw [br (fW h1 hDa1 nofun)];exact h1
 generalize upd H1 Da (.dK (ng [] [(.inl be,.ref q1)]))=H2 at hDa2 S2 hq1 ⊢;clear hDa1 S0 S1 h1;refine ⟨_,rfl,szZ1,fun La hLa=>?_⟩;have nDL:Da≠La:=fun z=>by rw [z,hLa] at hDa2;cases hDa2
 have S3:bH H2 (upd H2 La (.lst [.int be])):=bH.put (bH.refl H2) hLa;have hLaH:H La=none:=by
  cases z:H La with
  | none=>rfl
  | some o=>rw [S2 _ _ z] at hLa;cases hLa
 have J3:JW H (upd H2 La (.lst [.int be])) Da La (itW sp tk be 0):=⟨S2.trans S3,⟨_,S3 _ _ hDa2,.cons ⟨rfl,.tup (S3 _ _ hq1) .nil⟩ .nil⟩,aQ⟩;generalize upd H2 La (.lst [.int be])=H3 at J3 ⊢;clear S3 hLa hDa2 hq1 S2;have c0:(itW sp tk be 0).1.length+nE (itW sp tk be 0).1≤17:=by
  have:nE [(be,([]:List Stp))]≤16:=by
   unfold nE;have:=List.countP_le_length (p:=fun x:Nat=>(lkW [(be,([]:List Stp))] ((x:Nat):Int)).isNone) (l:=aF 16);rw [bh] at this;exact this
  show 1+nE [(be,([]:List Stp))]≤17;lia
 have c1:2 * nE (itW sp tk be 0).1+(itW sp tk be 0).2.length≤40:=by
  have e1:(itW sp tk be 0).1.length=1:=rfl;have e2:(itW sp tk be 0).2.length=1:=rfl;lia
 refine ⟨fun n σ HA=>∃ (i:Nat) (v6 v7 v8:Option V),n=2 * nE (itW sp tk be i).1+(itW sp tk be i).2.length∧n≤40∧σ=[some v,some (.ref u),some (.int be),some (.int en),some (.ref Da),some (.ref La),v6,v7,v8]∧JW H HA Da La (itW sp tk be i)∧WI m.toNat sp tk be (itW sp tk be i)∧Clo sp tk (fun _=>False) (itW sp tk be i)∧(itW sp tk be i).1.length+nE (itW sp tk be i).1≤17∧∀ j,j<i→lkW (itW sp tk be j).1 en=none,
  ⟨_,0,none,none,none,rfl,c1,rfl,J3,(start_ok be0 b1).1,(start_ok be0 b1).2,c0,fun j hj=>qM hj (Nat.not_lt_zero _)⟩,?_⟩
 rintro n σ HA ⟨i,v6,v7,v8,rfl,n40,rfl,JA,WA,CA,lA,bA⟩;obtain ⟨kvs,hDaA,dwA⟩:=JA.da;refine ⟨_,rfl,_,rfl,Da,_,rfl,DGet.k (k:= .inl en) hDaA,_,rfl,?_⟩;cases hen:lkW (itW sp tk be i).1 en with
 | some p =>
  obtain ⟨vp,hvp,dp⟩:=dwA.some hen;rw [hvp];refine iteF ⟨_,rfl,_,rfl,Da,vp,rfl,?_,k vp HA p JA.same dp ⟨i,hen,bA⟩⟩;have:=DGet.k (k:= .inl en) hDaA;rw [hvp] at this;exact this
 | none =>
  rw [dwA.none hen];refine iteT ⟨_,fun σ' H' z=>z,?_⟩;have hne:=left_of hlt held WA CA hen;obtain ⟨t1,t2,t3,t4⟩:=turn_ok E m16 hlt WA CA hne;have hlast:(itW sp tk be i).2.getLast? =some (lJ (itW sp tk be i).2):=by
   unfold lJ;rw [List.getLast?_eq_some_getLast hne];rfl
  have hget:((itW sp tk be i).2.map V.int)[((itW sp tk be i).2.map V.int).length - 1]? =some (V.int (lJ (itW sp tk be i).2)):=by
   rw [aa,ay,←List.getLast?_eq_getElem?,hlast];rfl
  refine ⟨_,rfl,.inl ⟨rfl,_,SqL.of JA.la⟩,La,_,_,rfl,rfl,JA.la,hget,?_⟩;have JB:=JA.upL (td:=(itW sp tk be i).2.dropLast) hLaH nDL;rw [List.map_dropLast] at JB;generalize upd HA La (.lst ((itW sp tk be i).2.map V.int).dropLast)=HB at JB ⊢;have hx:lkW (itW sp tk be i).1 (lJ (itW sp tk be i).2)≠none:=WA.ahd _ (last_mem hlast);have W0:WI m.toNat sp tk be ((itW sp tk be i).1,(itW sp tk be i).2.dropLast):=⟨WA.pth,WA.rng,fun y hy=>WA.ahd y ((List.dropLast_sublist _).subset hy),WA.beg⟩;have C0:Clo sp tk (· =lJ (itW sp tk be i).2) ((itW sp tk be i).1,(itW sp tk be i).2.dropLast):=fun y hy hn ex t ht'=>CA y hy (fun z=>by
   rw [List.getLast?_eq_some_iff] at hlast;obtain ⟨ys,hys⟩:=hlast;rw [hys,fu] at hn;rw [hys] at z
   rcases aH.mp z with z | z
   ·exact hn z
   ·exact ex (av.mp z)) (fun z=>z) t ht'
  have eT:itW sp tk be (i+1)=(dE sp tk (lJ (itW sp tk be i).2)).foldl (iA sp (lJ (itW sp tk be i).2)) ((itW sp tk be i).1,(itW sp tk be i).2.dropLast):=rfl;have bN:∀ j,j<i+1→lkW (itW sp tk be j).1 en=none:=fun j hj=>by
   rcases i5.mp hj with h | h
   ·exact bA j h
   ·rw [h];exact hen
  rw [show pT sp tk (itW sp tk be i)=itW sp tk be (i+1) from rfl] at t1 t2 t3 t4;generalize lJ (itW sp tk be i).2=x at hx C0 eT ⊢;generalize hc:((itW sp tk be i).1,(itW sp tk be i).2.dropLast)=c at JB W0 C0 eT;have hx:lkW c.1 x≠none:=by rw [←hc];exact hx
  have lc:c.1.length+nE c.1≤17:=by rw [←hc];exact lA
  have lc2:2 * nE c.1+c.2.length≤40:=by
   rw [←hc];show 2 * nE (itW sp tk be i).1+(itW sp tk be i).2.dropLast.length≤40;rw [List.length_dropLast];lia
  refine ⟨_,rfl,_,rfl,_,rfl,v,u,b,m,sp,tk,x,rfl,hv.same JB.same,JB.same _ _ hu,hlt,few,fun L HC zs SC fL hL dz=>⟨L,rfl,⟨_,SqL.of hL⟩,?_⟩⟩;have nLL:L≠La:=fun z=>by rw [z,JB.la] at fL;cases fL
  have JC:=JB.on SC;clear JB hc;have vis:∀ j:Nat,WI m.toNat sp tk be (((dE sp tk x).take j).foldl (iA sp x) c)∧lkW (((dE sp tk x).take j).foldl (iA sp x) c).1 x≠none∧(((dE sp tk x).take j).foldl (iA sp x) c).1.length≤17∧(((dE sp tk x).take j).foldl (iA sp x) c).2.length≤40:=fun j=>by
   obtain ⟨b1,_,_,b4,b5,b6⟩:=oG E m16 hlt (L:=(dE sp tk x).take j) W0 hx (fun t h=>jO h) C0;exact ⟨b1,by rw [b4 x hx];exact hx,by lia,by lia⟩
  have lz:zs.length=(dE sp tk x).length:=by rw [dz.length];unfold cW;rw [aa]
  refine jh (K:=K) (a:=L) (xs:=zs) (fun j σ HD=>JW H HD Da La (((dE sp tk x).take j).foldl (iA sp x) c)∧HD L=some (.lst zs)∧dG HD zs (cW Stp.row (dE sp tk x))∧∃ w7 w8,σ=[some v,some (.ref u),some (.int be),some (.int en),some (.ref Da),some (.ref La),some (.int x),w7,w8]) ⟨JC,hL,dz,_,_,rfl⟩ (fun j σ HD _ ⟨_,h,_⟩=>SqL.of h) ?_ ?_
  ·rintro j y σ HD hy ⟨JD,hLD,dD,w7,w8,rfl⟩
   have hj:j<(dE sp tk x).length:=by have:=(ao.mp hy).1;lia
   have hsj:=gE hj;obtain ⟨y',hy',dy⟩:=dD.at (i:=j) (d:= .tup ((Stp.row (dE sp tk x)[j]).map Dt.int)) (by unfold cW;rw [ay,hsj];rfl);rw [hy] at hy';cases hy';obtain ⟨q,qs,rfl,hq,rq⟩:=dy.tup_of;have eq:=rq.ints_of;subst eq;have hmem:(dE sp tk x)[j]∈dE sp tk x:=ba hj;have hin:=hlt _ (mem_stF (bS.mp hmem).1).1;have fold:((dE sp tk x).take (j+1)).foldl (iA sp x) c=iA sp x (((dE sp tk x).take j).foldl (iA sp x) c) (dE sp tk x)[j]:=by
    rw [bj,hsj];show ((dE sp tk x).take j++[(dE sp tk x)[j]]).foldl _ _=_;rw [b9];rfl
   rw [fold];obtain ⟨Wj,xj,kj,aj⟩:=vis j;generalize ((dE sp tk x).take j).foldl (iA sp x) c=d at JD Wj xj kj aj;generalize (dE sp tk x)[j]=st at hq hin dy;refine ⟨_,rfl,_,rfl,v,q,b,m,sp,st,sAt sp st.i,rfl,hv.same JD.same,hq,i8 hin,?_⟩;rw [(kI hin).1];obtain ⟨kv2,hDaD,dwD⟩:=JD.da;refine ⟨_,rfl,_,rfl,Da,_,rfl,DGet.k (k:= .inl (eY sp st)) hDaD,_,rfl,?_⟩;cases hto:lkW d.1 (eY sp st) with
   | some p0 =>
    obtain ⟨vp,hvp,_⟩:=dwD.some hto;rw [hvp];have ev:iA sp x d st=d:=by unfold iA;exact qK (by rw [hto];exact fun z=>nomatch z)
    rw [ev];exact iteF ⟨JD,hLD,dD,_,_,rfl⟩
   | none =>
    rw [dwD.none hto];refine iteT ?_;obtain ⟨ws,hws⟩:∃ ws,lkW d.1 x=some ws:=Option.ne_none_iff_exists'.mp xj;have ev:iA sp x d st=(d.1++[(eY sp st,ws++[st])],d.2++[eY sp st]):=by
     unfold iA;rw [qL hto,hws];rfl
    rw [ev];obtain ⟨vw,hvw,dw⟩:=dwD.some hws;obtain ⟨pw,yw,rfl,hpw,hlw,rw'⟩:=gw dw;have hget':DGet HD Da (V.int x) (some (.ref pw)):=by
     have:=DGet.k (k:= .inl x) hDaD;rw [hvw] at this;exact this
    have lw:=((Wj.pth x ws hws).1.len E be0 b1);refine ⟨_,rfl,_,rfl,Da,.ref pw,rfl,hget',_,rfl,szZ1,fun q4 H16 S16 h16=>⟨pw,q4,_,_,rfl,rfl,S16 _ _ hpw,h16,?_,fun q5 H17 S17 h17=>?_⟩⟩
    ·rw [hlw];exact aM (by show ws.length+1≤1000;lia) (by decide)
    have ST:=S16.trans S17;have hDa7:=ST _ _ hDaD;have dw7:=dwD.keep (bH.tupK ST);have hLa7:=ST _ _ JD.la;have hL7:=ST _ _ hLD;have dD7:=dD.same ST;have S7:=JD.same.trans ST;have lk:kv2.length≤17:=by rw [dwD.len];exact kj
    refine ⟨_,rfl,_,rfl,Da,_,rfl,DPut.k (k:= .inl (eY sp st)) hDa7 (bU (by lia:kv2.length≤999) (by decide)),?_⟩;have hway:IsD H17 (.ref q5) (oj (ws++[st])):=by
     refine .tup h17 ?_;rw [aE];exact (rw'.same ST).append (.cons (dy.same ST) .nil)
    rw [putK_new _ (dwD.none hto)];have K8:jL H17 (upd H17 Da (.dK (kv2++[(.inl (eY sp st),.ref q5)]))):=fun q xs h=>by rw [br (fW h hDa7 nofun)];exact h
    have hDa8:(upd H17 Da (.dK (kv2++[(.inl (eY sp st),.ref q5)]))) Da=some (.dK (kv2++[(.inl (eY sp st),.ref q5)])):=aQ;have dw8:DW (upd H17 Da (.dK (kv2++[(.inl (eY sp st),.ref q5)]))) (kv2++[(.inl (eY sp st),.ref q5)]) (d.1++[(eY sp st,ws++[st])]):=DW.snoc ⟨rfl,pY K8 hway⟩ (dw7.keep K8);have hLa8:(upd H17 Da (.dK (kv2++[(.inl (eY sp st),.ref q5)]))) La=some (.lst (d.2.map V.int)):=by rw [br nDL.symm];exact hLa7
    have nLD:L≠Da:=fW hLD hDaD nofun;have hL8:(upd H17 Da (.dK (kv2++[(.inl (eY sp st),.ref q5)]))) L=some (.lst zs):=by rw [br nLD];exact hL7
    have S8:bH H (upd H17 Da (.dK (kv2++[(.inl (eY sp st),.ref q5)]))):=fun a o e=>by rw [br (bC e hDa)];exact S7 a o e
    have dD8:dG (upd H17 Da (.dK (kv2++[(.inl (eY sp st),.ref q5)]))) zs (cW Stp.row (dE sp tk x)):=df K8 dD7;generalize upd H17 Da (.dK (kv2++[(.inl (eY sp st),.ref q5)]))=H8 at hDa8 dw8 hLa8 hL8 S8 dD8 ⊢;refine ⟨_,rfl,.inl ⟨rfl,_,SqL.of hLa8⟩,_,rfl,La,_,_,rfl,rfl,hLa8,mS (by rw [aa];lia),?_⟩;have J8:JW H H8 Da La (d.1++[(eY sp st,ws++[st])],d.2):=⟨S8,⟨_,hDa8,dw8⟩,hLa8⟩;have J9:=J8.upL (td:=d.2++[eY sp st]) hLaH nDL;rw [aE] at J9;refine ⟨J9,?_,df (eI hLa8) dD8,_,_,rfl⟩;rw [br nLL];exact hL8
  ·rintro σ HD ⟨JD,hLD,dD,w7,w8,rfl⟩
   rw [lz,bq,←eT] at JD;exact ⟨_,t3,i+1,_,_,_,rfl,by lia,rfl,JD,t1,t2,by lia,bN⟩
theorem nZ.natsF (a:nZ m sp ns):∃ (l π:List Nat),ns=l.map (fun (i:Nat)=>(i:Int))∧Ordd sp π∧l.Perm (kB sp m π).2:=by
 obtain ⟨π,o,p,_⟩:=a;have nn:∀ x∈ns,0≤x:=fun x hx=>by
  obtain ⟨i,_,rfl⟩:=bb.mp (p.mem_iff.mp hx);lia
 refine ⟨ns.map Int.toNat,π,?_,o,?_⟩
 ·rw [c9]
  conv=>lhs;rw [←List.map_id ns]
  exact iS fun x hx=>(fJ (nn x hx)).symm
 ·have q:=p.map Int.toNat
  rw [c9] at q;have e:((kB sp m π).2.map (Int.toNat ∘ fun (i:Nat)=>(i:Int)))=(kB sp m π).2:=by
   conv=>rhs;rw [←List.map_id (kB sp m π).2]
   exact iS fun x _=>rfl
  rw [e] at q;exact q
theorem gone_ltF (O:Ordd sp π)(pm:l.Perm (kB sp m π).2):∀ i∈l,i<sp.length:=fun i hi=>by
 rcases (jU sp π (jK m,[])).1 i (pm.mem_iff.mp hi) with z | z
 ·cases z
 ·exact O.lt z
theorem scRingBy:bY ["net","span","start","goal"] pzd (defScope sRingBy):=by trivial
theorem ok_ringBy (F:Fun K "ring_by" "ring_by" sRingBy f fd)(G1:Fn K mg "way_between" sWayB pzB f1 fd1)(F1:cM P w K mg base CX0 3 f1 fd1 pzB spWayBt)
  (G2:Fn K mg "forest_of" lH pza f2 fd2) (F2:cM P w K mg base CX0 6 f2 fd2 pza (kL Tb0 lp lq)):cM P w K mg base CX0 7 f fd pzd (spRingBy Tb0 lp lq):=by
 refine F.ok scRingBy (by contradiction) (fun cdv A outer s H vs Q E hr h=>?_);obtain ⟨v,b,m,sp,k,rfl,hv,N,hT,hk,fin⟩:=h;obtain ⟨t,p,ys,rfl,ht,hp,hl,hy⟩:=fm hv;obtain ⟨q,hq,hq2⟩:=hy k _ (i8 hk);have hr1:gN 3 _:=hr.mono (by decide);have E:=N.ends;have few:=N.few;obtain ⟨a0,a1,b0,b1⟩:=E _ (fc hk);refine ⟨_,PSl.h (aY ⟨(psZ 2 scRingBy.nd (ixZ (eJ eD (ixZ (pv 0)) (pv 1) (fun _ _=>rfl))))⟩
  (aY ⟨(psZ 3 scRingBy.nd (ixZ (eJ eD (ixZ (pv 0)) (pv 1) (fun _ _=>rfl))))⟩
  (cP ⟨(cf (cU kh (cY (af (cY (af (pv 1) (af bD aD))) aD)) (pc1 G1 F1 hr1 (af (pv 0) (af (pc1 G2 F2 hr (af (pv 0) aD)) (af (pv 3) (af (pv 2) aD)))))))⟩))),?_⟩
 refine ⟨_,rfl,t,_,_,_,rfl,rfl,SqT.of ht,aO (j:=2) rfl,_,rfl,p,_,_,_,rfl,rfl,SqT.of hp,aO (j:=k) hq,q,_,_,_,rfl,rfl,SqT.of hq2,aO (j:=0) rfl,?_⟩;refine ⟨_,rfl,t,_,_,_,rfl,rfl,SqT.of ht,aO (j:=2) rfl,_,rfl,p,_,_,_,rfl,rfl,SqT.of hp,aO (j:=k) hq,q,_,_,_,rfl,rfl,SqT.of hq2,aO (j:=1) rfl,?_⟩;refine ⟨_,rfl,oI,fun q1 H1 S1 h1=>⟨szZ1,fun q2 H2 S2 h2=>⟨_,rfl,_,rfl,.ref t,b,m,sp,rfl,hv.same (S1.trans S2),N,LamT.same (S1.trans S2) hT,fun u H3 ns tb3 hT3 hu F0=>?_⟩⟩⟩;have hT2:=LamT.same (S1.trans S2) hT;have K3:=Tb.tupK (LamT.tbl hT2) tb3;obtain ⟨l,π,rfl,O,pm⟩:=F0.natsF;have hlt:=gone_ltF O pm;have lfew:l.length≤40:=by have:=F0.len;rw [aa] at this;lia
 rw [c9] at hu;refine ⟨_,rfl,_,rfl,.ref t,u,b,m,sp,l,(sAt sp k).g,(sAt sp k).s,rfl,cO K3 (hv.same (S1.trans S2)),N,hu,hlt,lfew,b0,by have:=N.m1;lia,held_span E O pm hk,fun w4 H4 pth S4 d4 wr=>?_⟩;obtain ⟨pw,yw,rfl,hpw,hlw,rw'⟩:=gw d4;have hP:=WayR.pth E (by have:=N.m2;lia) hlt b0 b1 (held_span E O pm hk) wr;have ln:=hP.len E b0 b1;have h24:=S4 _ _ (K3 _ _ h2);have h14:=S4 _ _ (K3 _ _ (S2 _ _ h1));refine ⟨q2,pw,_,_,rfl,rfl,h24,hpw,?_,fun q5 H5 S5 h5=>?_⟩
 ·rw [hlw];have:=N.m2;exact aM (by show 1+pth.length≤1000;lia) (by decide)
 refine fin _ H5 l π pth ((bH.tb (S1.trans S2)).trans (tb3.trans (bH.tb (S4.trans S5)))) (LamT.same (S4.trans S5) hT3) ?_ F0 O pm wr;exact .tup h5 (.cons (.tup (S5 _ _ h14) (dG.ints (Stp.row ⟨k,1⟩))) (rw'.same S5))
abbrev sRingsO:cJ:=top 26
theorem inV_intsF (x:Int):∀ p:List Int,inV (.int x) (p.map V.int)=decide (x∈p)
 | []=>by simp [inV]
 | y::p=>by
  have ih:=inV_intsF x p;unfold inV at ih ⊢;rw [bR,jM,ih]
  by_cases e:y=x
  ·subst e;simp [eqV]
  ·have:eqV (.int y) (.int x)=false:=by simp [eqV,e]
   rw [this];simp [aI,dB e]
theorem inV_nat (x:Nat)(l:List Nat):inV (.int (x:Int)) (l.map fun (i:Nat)=>V.int i)=decide (x∈l):=by
 have e:(l.map fun (i:Nat)=>V.int i)=(l.map fun (i:Nat)=>(i:Int)).map V.int:=by rw [c9];rfl
 rw [e,inV_intsF];refine decide_eq_decide.mpr ⟨fun h=>?_,fun h=>bb.mpr ⟨x,h,rfl⟩⟩;obtain ⟨j,hj,e⟩:=bb.mp h;have:j=x:=by lia
 rw [←this];exact hj
theorem scRingsO:bY ["net","taken"] pza (defScope sRingsO):=by trivial
theorem ok_ringsO (F:Fun K "rings_of" "rings_of" sRingsO f fd)(T:Nm mg)(T2:Nt mg)(G1:Fn K mg "forest_of" lH pza f1 fd1)(F1:cM P w K mg base CX0 6 f1 fd1 pza (kL Tb0 lp lq))(G2:Fn K mg "ring_by" sRingBy pzd f2 fd2)(F2:cM P w K mg base CX0 7 f2 fd2 pzd (spRingBy Tb0 lp lq)):cM P w K mg base CX0 8 f fd pza (spRingsO Tb0 lp lq):=by
 refine F.ok scRingsO (by contradiction) (fun cdv A outer s H vs Q E hr h=>?_);obtain ⟨v,b,m,sp,rfl,hv,N,hT,k⟩:=h;have hr6:gN 6 _:=hr.mono (by decide);have E:=N.ends;have few:=N.few;have m1:=N.m1;refine ⟨_,PSl.h (aY ⟨(psZ 1 scRingsO.nd (pc1 G1 F1 hr6 (af (pv 0) aD)))⟩
  (cP ⟨(cf (gW (fr:=["net","taken"]) (js:=[0,1]) rfl (gH rfl T2.range (af (cp bV rfl T.len bF (af (ixZ (pv 0)) aD)) aD)) (by trivial) rfl (by trivial) rfl (by exists sRingsO) (by trivial) rfl (by trivial) (fun _ _ _ _ _=>⟨(pc1 G2 F2 hr (af (pv 1) (af (pv 0) aD))),(kQ (cw (r:=rIn K true) op_notIn_seq (pv 0) (pv 2) rfl))⟩)))⟩)),?_⟩
 refine ⟨_,rfl,v,b,m,sp,rfl,hv,N,hT,fun u H1 ns tb1 hT1 hu F0=>?_⟩;obtain ⟨l,π,rfl,O,pm⟩:=F0.natsF;have fr:i7 m.toNat sp l:=⟨F0,π,O,pm⟩;rw [c9] at hu;have hu:H1 u=some (.tup (l.map fun (i:Nat)=>V.int i)):=hu;have hv1:=cO (Tb.lamT hT tb1) hv;obtain ⟨t,p,ys,rfl,ht,hp,hl,hy⟩:=fm hv1;refine ⟨_,rfl,t,_,_,_,rfl,rfl,SqT.of ht,aO (j:=2) rfl,p,_,rfl,.inr (SqT.of hp),_,rfl,by lia,by lia,?_⟩;refine kD (n:=((ys.length:Int)).toNat) (fun i zs HC=>L2.Tb Tb0 H1 HC∧L2.LamT Tb0 lp lq HC∧∃ rg:List (Nat×List Stp),zs.length≤i∧dG HC zs (rg.map wayQ)∧(∀ q∈rg,RK sp l q)∧rg.map (·.1)=(aF i).filter fun k=> !(decide (k∈l))) ⟨Tb.refl H1,hT1,[],aA _,.nil,fun _ h=>qM h (by simp),rfl⟩ (fun i zs HC hi ⟨_,_,_,e2,_⟩=>e2) (eQ (by lia)) (fun i zs HC hi ⟨tb,hTC,rg,lz,dz,hrk,hks⟩=>?_) (fun zs HC ⟨tb,hTC,rg,lz,dz,hrk,hks⟩ D hD=>?_)
 ·rw [iM]
  have hin:i<sp.length:=by lia
  have KC:=Tb.lamT hT1 tb;have ef:(aF (i+1)).filter (fun k=> !(decide (k∈l)))=(aF i).filter (fun k=> !(decide (k∈l)))++(if i∈l then [] else [i]):=by
   rw [fF,fj];congr 1;rw [fh,List.filter_nil]
   by_cases c:i∈l
   ·rw [qL c,qN c];rfl
   ·rw [qK c,qO c];rfl
  refine ⟨_,rfl,_,rfl,u,_,rfl,.inr (SqT.of (KC _ _ hu)),rfl,(by rw [List.all_map];exact gF.mpr fun _ _=>rfl),_,rfl,?_⟩;rw [inV_nat];show if (!(decide (i∈l)))=true then _ else _;rw [ef];refine pS (fun hc=>?_) (fun hc=>?_)
  rotate_left
  ·have c:i∈l:=by simpa using hc
   rw [qL c,de];exact ⟨tb,hTC,rg,by lia,dz,hrk,hks⟩
  have c:i ∉ l:=by simpa using hc
  rw [qK c];refine ⟨_,rfl,_,rfl,.ref t,b,m,sp,i,rfl,cO KC hv1,N,hTC,hin,fun q HD l' π' pw tbD hTD dq F0' O' pm' wr=>?_⟩;have el:l'=l:=i7.one (m:=m.toNat) (sp:=sp) ⟨F0',π',O',pm'⟩ fr;subst el;obtain ⟨s0,s1,g0,g1⟩:=E _ (fc hin);have hlt:=(fr.pots E).nodup.2;have Pw:=WayR.pth E (by have:=N.m2;lia) hlt g0 g1 (fr.held E hin).symm wr;have KD:=Tb.lamT hTC tbD;refine ⟨tb.trans tbD,hTD,rg++[(i,⟨i,1⟩::pw)],by rw [ar];show zs.length+1≤i+1;lia,?_,fun q' hq'=>?_,by rw [aE,hks];rfl⟩
  ·rw [aE]
   exact (dG.keepP KD dz (mG rg fun q _=>o6 _ _)).append (.cons dq .nil)
  ·rcases aH.mp hq' with z | z
   ·exact hrk q' z
   ·rw [av.mp z];exact ⟨hin,c,pw,rfl,Pw⟩
 ·have SD:bH HC (upd HC D (.lst zs)):=bH.put (bH.refl HC) hD
  have hDH:H D=none:=by
   cases z:H D with
   | none=>rfl
   | some o =>
    by_cases e:D=Tb0
    ·subst e
     obtain ⟨ps,hps⟩:=LamT.tbl hTC;rw [hps] at hD;cases hD
    ·have:=tb D o e (tb1 D o e z)
     rw [hD] at this;cases this
  refine k D zs l rg _ (tb1.trans (tb.trans (bH.tb SD))) (LamT.same SD hTC) hDH aQ (dz.same SD) ⟨fr,hrk,?_⟩;rw [hks];unfold oW;rw [cI,hl]
abbrev sSpread:cJ:=top 27
inductive spSpread (T:aq)(lp:Pos)(lq:Str)(vs:List V)(H:Hp)(Q:VK)(_:XK):Prop
 | mk (v:V)(b m:Int)(sp:List Sn)(_:vs=[v])(_:IsD H v (jA b m sp))(_:jD b m sp)(_:L2.LamT T lp lq H)(_:∀ (L:aq) (zs:List V) (l:List Nat) (S:List Stp) (H':Hp),L2.Tb T H H'→L2.LamT T lp lq H'→H L=none→H' L=some (.lst zs)→dG H' zs (cW Stp.row S)→i7 m.toNat sp l→SprOk m.toNat sp l S→Q (.ref L) H')
structure JS (H Hc:Hp)(Da Ls:aq)(R:List Int)(S:List Stp)(n:Nat):Prop where
 same:bH H Hc
 da:∃ kvs,Hc Da=some (.dK kvs)∧(∀ x,k3 kvs (.inl x)=none↔x ∉ R)∧kvs.length≤R.length+n
 ls:∃ zs,Hc Ls=some (.lst zs)∧dG Hc zs (cW Stp.row S)
theorem JS.on {Hc':Hp}(j:JS H Hc Da Ls R S n)(e:bH Hc Hc'):JS H Hc' Da Ls R S n:=by
 obtain ⟨kvs,h1,h2⟩:=j.da;obtain ⟨zs,h3,h4⟩:=j.ls;exact ⟨j.same.trans e,⟨kvs,e _ _ h1,h2⟩,⟨zs,e _ _ h3,h4.same e⟩⟩
theorem JS.upL {La:aq}(j:JS H Hc Da Ls R S n)(hL:H La=none)(hc:Hc La=some (.lst xs))(ne:Ls≠La):JS H (upd Hc La (.lst ys)) Da Ls R S n:=by
 obtain ⟨kvs,h1,h2⟩:=j.da;obtain ⟨zs,h3,h4⟩:=j.ls;exact ⟨fun a o e=>by rw [br (bC e hL)];exact j.same a o e,⟨kvs,by rw [br (fW h1 hc nofun)];exact h1,h2⟩,⟨zs,by rw [br ne];exact h3,df (eI hc) h4⟩⟩
theorem JS.upS {q:aq}{s:Stp}(j:JS H Hc Da Ls R S n)(hL:H Ls=none)(hc:Hc Ls=some (.lst zs))(hz:dG Hc zs (cW Stp.row S))(hq:IsD Hc (.ref q) (.tup ((Stp.row s).map Dt.int))):JS H (upd Hc Ls (.lst (zs++[.ref q]))) Da Ls R (S++[s]) n:=by
 obtain ⟨kvs,h1,h2⟩:=j.da;have hd:dG Hc (zs++[.ref q]) (cW Stp.row (S++[s])):=by
  unfold cW at hz ⊢;rw [aE];exact hz.append (.cons hq .nil)
 exact ⟨fun a o e=>by rw [br (bC e hL)];exact j.same a o e,⟨kvs,by rw [br (fW h1 hc nofun)];exact h1,h2⟩,⟨_,aQ,df (eI hc) hd⟩⟩
theorem JS.upD {kvs:List (Key×V)}{x:Int}{y:V}{R':List Int}{n':Nat}(j:JS H Hc Da Ls R S n)(hD:H Da=none)(hc:Hc Da=some (.dK kvs))(hk:∀ x,k3 kvs (.inl x)=none↔x ∉ R)(hR:∀ z,z∈R'↔z∈R∨z=x)(hl:kvs.length+1≤R'.length+n'):JS H (upd Hc Da (.dK (mV kvs (.inl x) y))) Da Ls R' S n':=by
 obtain ⟨zs,h3,h4⟩:=j.ls;have K:jL Hc (upd Hc Da (.dK (mV kvs (.inl x) y))):=fun q xs h=>by rw [br (fW h hc nofun)];exact h
 refine ⟨fun a o e=>by rw [br (bC e hD)];exact j.same a o e,⟨_,aQ,fun z=>?_,?_⟩,⟨zs,by rw [br (fW h3 hc nofun)];exact h3,df K h4⟩⟩
 ·rw [valV_put,hR]
  by_cases e:z=x
  ·rw [qL (by rw [e])]
   exact ⟨fun h=>(by cases h),fun h=>qM (Or.inr e) h⟩
  ·rw [qK (fun h=>e (Sum.inl.inj h)),hk]
   exact ⟨fun h h'=>h'.elim h e,fun h h'=>h (.inl h')⟩
 ·exact aM (jZ _ _ _) hl
theorem jI:bY ["net","taken","reached","steps","first","ahead","here","step","there"] pza (defScope sSpread):=by trivial
theorem ok_spread (F:Fun K "spread_of" "spread_of" sSpread f fd)(T:Nm mg)(T2:Nt mg)(G1:Fn K mg "forest_of" lH pza f1 fd1)(F1:cM P w K mg base CX0 6 f1 fd1 pza (kL Tb0 lp lq))(G2:Fn K mg "steps_from" oT pzk f2 fd2)(F2:cM P w K mg base CX0 2 f2 fd2 pzk spSteps)(G3:Fn K mg "leads_to" sTo pzc f3 fd3):cM P w K mg base CX0 7 f fd pza (spSpread Tb0 lp lq):=by
 have F3:cM P w K mg base CX0 1 f3 fd3 pzc spTo:=ok_to G3.F;refine F.ok jI (by contradiction) (fun cdv A outer s H0 vs Q E hr h=>?_);obtain ⟨v,b,m,sp,rfl,hv,N,hT,k⟩:=h;have hr2:gN 2 _:=hr.mono (by decide);have hr1:gN 1 _:=hr.mono (by decide);have u1:=bU (Nat.add_le_add_left (by decide:1≤64) _) hr.units;have E:=N.ends;have m1:=N.m1;have m2:=N.m2;refine ⟨_,PSl.h (aY ⟨(psZ 1 jI.nd (pc1 G1 F1 hr (af (pv 0) aD)))⟩
  (aY ⟨(psZ 2 jI.nd pe_dnewK)⟩
  (aY ⟨(psZ 3 jI.nd (iQ aD))⟩
  (aY ⟨(ib bE rfl (gH rfl T2.range (af (ixZ (pv 0)) aD)) (pgZ 4 jI.nd) (PSl.h (aY ⟨(psZ 5 jI.nd (PE.cutV (oA (pt_cmp (mX u1 (pv 4) (pv 2)) rfl) (iQ (af (pv 4) aD)) (iQ aD))))⟩
  (aY ⟨(ps_dput u1 (pv 2) (pv 4) l5 rfl)⟩
  (cP ⟨(lR bE (cw pU (cp bV rfl T.len bF (af (pv 5) aD)) bD (cG _)) (PSl.h (aY ⟨(psZ 6 jI.nd (o9 bc e7 eZ pj (pv 5)))⟩
  (cP ⟨(ib bE rfl (gg (pc1 G2 F2 hr2 (af (pv 0) (af (pv 1) (af (pv 6) aD))))) (pgZ 7 jI.nd) (PSl.h (aY ⟨(psZ 8 jI.nd (pc1 G3 F3 hr1 (af (pv 0) (af (pv 7) aD))))⟩
  (cP ⟨(fV (pt_cmp (mX u1 (pv 8) (pv 2)) rfl) (PSl.h (aY ⟨(ps_dput u1 (pv 2) (pv 8) l5 rfl)⟩
  (aY ⟨(gL (lh bc bP bO fH (pv 5) (af (pv 8) aD)))⟩
  (cP ⟨(gL (lh bc bP bO fH (pv 3) (af (pv 7) aD)))⟩)))) cZ)⟩))))⟩))))⟩)))))⟩
  (cP ⟨(cf (pv 3))⟩))))),?_⟩
 refine ⟨_,rfl,v,b,m,sp,rfl,hv,N,hT,fun u H ns tb1 hT1 hu F0=>?_⟩;obtain ⟨l,π,rfl,O,pm⟩:=F0.natsF;have fr:i7 m.toNat sp l:=⟨F0,π,O,pm⟩;rw [c9] at hu;have hu:H u=some (.tup (l.map fun (i:Nat)=>V.int i)):=hu;have hv1:=cO (Tb.lamT hT tb1) hv;obtain ⟨t,p,ys,rfl,ht,hp,hl,hy⟩:=fm hv1;clear hy hp hl hv;have PT:=fr.pots E;have hlt:=PT.nodup.2;have few:l.length≤40:=by have:=fr.few E (by lia);lia
 have ne:∀ i∈l,(sAt sp i).s≠(sAt sp i).g:=fun i hi=>(N.all _ (fc (hlt i hi))).ne
 intro Da hDa;have hDa1:(upd H Da (.dK [])) Da=some (.dK []):=aQ;have S1:bH H (upd H Da (.dK [])):=bH.put (bH.refl H) hDa;generalize upd H Da (.dK [])=H1 at hDa1 S1 ⊢;refine ⟨bg _,fun Ls hLs=>?_⟩;have hLsH:H Ls=none:=bH.free S1 hLs;have S2:bH H1 (upd H1 Ls (.lst [])):=bH.put (bH.refl H1) hLs;have J2:JS H (upd H1 Ls (.lst [])) Da Ls [] [] 0:=⟨S1.trans S2,⟨[],S2 _ _ hDa1,fun x=>⟨fun _ h=>(by cases h),fun _=>rfl⟩,aA _⟩,⟨[],aQ,.nil⟩⟩;generalize upd H1 Ls (.lst [])=H2 at J2 ⊢;clear S2 hLs S1 hDa1;refine ⟨_,rfl,t,_,_,_,rfl,rfl,SqT.of (J2.same _ _ ht),aO (j:=1) rfl,m,rfl,by lia,by lia,?_⟩;refine j5 (n:=m.toNat) (fun i σ HC=>∃ (R:List Int) (S:List Stp) (w4 w5 w6 w7 w8:Option V),σ=[some (.ref t),some (.ref u),some (.ref Da),some (.ref Ls),w4,w5,w6,w7,w8]∧JS H HC Da Ls R S i∧SI m.toNat sp l exN R [] S∧∀ x:Nat,x<i→(x:Int)∈R) ⟨[],[],none,none,none,none,none,rfl,J2,SI.start,fun x hx=>qM hx (Nat.not_lt_zero _)⟩ ?_ ?_
 ·rintro i σ HC hi ⟨R,S,w4,w5,w6,w7,w8,rfl,JC,I0,hall⟩
  rw [iM];have hRm:=I0.few;obtain ⟨kvs,hDaC,hkv,hkl⟩:=JC.da;refine ⟨fun v H'=>∃ La A,v= .ref La∧H La=none∧La≠Ls∧JS H H' Da Ls R S i∧H' La=some (.lst (A.map V.int))∧((i:Int) ∉ R∧A=[(i:Int)]∨(i:Int)∈R∧A=[]),?_,?_⟩
  rotate_left
  ·refine ⟨_,rfl,_,rfl,Da,_,rfl,DGet.k (k:= .inl (i:Int)) hDaC,_,rfl,?_⟩
   have mk:∀ (La:aq) (xs:List V),HC La=none→JS H (upd HC La (.lst xs)) Da Ls R S i∧H La=none∧La≠Ls:=fun La xs hLa=>⟨JC.on (bH.put (bH.refl HC) hLa),bH.free JC.same hLa,fun z=>by
    obtain ⟨zs,hz,_⟩:=JC.ls;rw [z,hz] at hLa;cases hLa⟩
   cases c:k3 kvs (.inl (i:Int)) with
   | none =>
    refine iteT ⟨_,rfl,szZ1,fun La hLa=>?_⟩;obtain ⟨a1,a2,a3⟩:=mk La [.int (i:Int)] hLa;exact ⟨La,[(i:Int)],rfl,a2,a3,a1,aQ,.inl ⟨(hkv _).mp c,rfl⟩⟩
   | some o =>
    refine iteF ⟨bg _,fun La hLa=>?_⟩;obtain ⟨a1,a2,a3⟩:=mk La [] hLa;exact ⟨La,[],rfl,a2,a3,a1,aQ,.inr ⟨dJ fun z=>(by rw [(hkv _).mpr z] at c;cases c),rfl⟩⟩
  rintro _ HD ⟨La,A,rfl,hLaH,nLL,JD,hLa,hA⟩;obtain ⟨kvD,hDaD,hkD,hlD⟩:=JD.da;refine ⟨_,rfl,_,rfl,Da,_,rfl,DPut.k (k:= .inl (i:Int)) hDaD (bU (by lia:kvD.length≤999) (by decide)),?_⟩;obtain ⟨R',hR',IR,inR,hall'⟩:∃ R',(∀ z,z∈R'↔z∈R∨z=(i:Int))∧SI m.toNat sp l exN R' A S∧R.length≤R'.length∧(∀ x:Nat,x<i+1→(x:Int)∈R'):=by
   rcases hA with ⟨a1,rfl⟩ | ⟨a1,rfl⟩
   ·refine ⟨R++[(i:Int)],fun z=>by rw [aH,av],I0.root a1 (by lia) (by lia),by rw [ar];lia,fun x hx=>?_⟩
    rcases i5.mp hx with z | z
    ·exact aJ _ (hall x z)
    ·rw [z];simp
   ·refine ⟨R,fun z=>⟨.inl,fun h=>h.elim id fun e=>e ▸ a1⟩,I0,aA _,fun x hx=>?_⟩
    rcases i5.mp hx with z | z
    ·exact hall x z
    ·rw [z];exact a1
  have JE:=JD.upD (y:= .bl true) (R':=R') (n':=i+1) (x:=(i:Int)) hDa hDaD hkD hR' (by lia);have hLaE:(upd HD Da (.dK (mV kvD (.inl (i:Int)) (.bl true)))) La=some (.lst (A.map V.int)):=by rw [br (fW hLa hDaD nofun)];exact hLa
  generalize upd HD Da (.dK (mV kvD (.inl (i:Int)) (.bl true)))=HE at JE hLaE ⊢;have lA:A.length≤1:=by rcases hA with ⟨_,rfl⟩ | ⟨_,rfl⟩ <;> simp
  clear hA hLa JD hDaD hkD hlD inR I0 hall hkv hDaC JC;refine ⟨fun n σ HA=>∃ (R A:List Int) (S:List Stp) (w6 w7 w8:Option V),n=2 * (16 - R.length)+A.length∧n≤40∧σ=[some (.ref t),some (.ref u),some (.ref Da),some (.ref Ls),some (.int (i:Int)),some (.ref La),w6,w7,w8]∧JS H HA Da Ls R S (i+1)∧HA La=some (.lst (A.map V.int))∧SI m.toNat sp l exN R A S∧∀ x:Nat,x<i+1→(x:Int)∈R,⟨_,R',A,S,_,_,_,rfl,by lia,rfl,JE,hLaE,IR,hall'⟩,?_⟩;clear JE hLaE IR hall' hR' hkl;rintro n σ HA ⟨R,A,S,w6,w7,w8,rfl,n40,rfl,JA,hLa,IA,hall⟩;refine ⟨_,rfl,La,_,rfl,.inl (SqL.of hLa),_,_,rfl,rfl,_,rfl,?_⟩
  rcases List.eq_nil_or_concat A with rfl | ⟨A',x,rfl⟩
  ·refine kd (by rfl) ?_
   exact ⟨R,S,_,_,_,_,_,rfl,JA,IA,hall⟩
  rw [List.concat_eq_append] at hLa n40 IA ⊢;refine mO (qN (by rw [aa,ar];show ((A'.length+1:Nat):Int) > 0;lia)) ?_;refine ⟨_,fun σ' H' z=>z,?_⟩;rw [aE] at hLa;refine ⟨_,rfl,.inl ⟨rfl,_,SqL.of hLa⟩,La,_,.int x,rfl,rfl,hLa,by rw [ar,bu (by simp)];simp,?_⟩;rw [show (A'.map V.int++[x].map V.int).dropLast=A'.map V.int from fu];have JB:=JA.upL (ys:=A'.map V.int) hLaH hLa nLL.symm;have hLaB:(upd HA La (.lst (A'.map V.int))) La=some (.lst (A'.map V.int)):=aQ;generalize upd HA La (.lst (A'.map V.int))=HB at JB hLaB ⊢;obtain ⟨IB,xR⟩:=IA.pop;have lB:2 * (16 - R.length)+A'.length+1≤40:=by rw [ar] at n40;exact n40
  have eB:2 * (16 - R.length)+(A'++[x]).length=2 * (16 - R.length)+A'.length+1:=by rw [ar];rfl
  rw [eB];clear JA hLa IA n40 eB;refine ⟨_,rfl,_,rfl,_,rfl,.ref t,u,b,m,sp,l,x,rfl,hv1.same JB.same,JB.same _ _ hu,hlt,few,fun L HC zs SC fL hL dz=>⟨L,rfl,⟨_,SqL.of hL⟩,?_⟩⟩;have nL1:L≠La:=fun z=>by rw [z,hLaB] at fL;cases fL
  have nL2:L≠Ls:=fun z=>by
   obtain ⟨z1,hz1,_⟩:=JB.ls;rw [z,hz1] at fL;cases fL
  have JC:=JB.on SC;have hLaC:=SC _ _ hLaB;clear JB hLaB;have lz:zs.length=(dE sp l x).length:=by rw [dz.length];unfold cW;rw [aa]
  refine jh (K:=K) (a:=L) (xs:=zs) (fun j σ HD=>∃ (R2 A2:List Int) (S2:List Stp) (w7 w8:Option V),JS H HD Da Ls R2 S2 (i+1)∧HD La=some (.lst (A2.map V.int))∧SI m.toNat sp l (· =x) R2 A2 S2∧x∈R2∧(∀ x:Nat,x<i+1→(x:Int)∈R2)∧2 * (16 - R2.length)+A2.length≤2 * (16 - R.length)+A'.length∧(∀ s∈(dE sp l x).take j,s.i∈S2.map Stp.i)∧HD L=some (.lst zs)∧dG HD zs (cW Stp.row (dE sp l x))∧σ=[some (.ref t),some (.ref u),some (.ref Da),some (.ref Ls),some (.int (i:Int)),some (.ref La),some (.int x),w7,w8]) ⟨R,A',S,_,_,JC,hLaC,IB,xR,hall,aA _,fun s hs=>qM hs (by simp),hL,dz,rfl⟩ (fun j σ HD _ q=>by obtain ⟨_,_,_,_,_,_,_,_,_,_,_,_,h,_⟩:=q;exact SqL.of h) ?_ ?_
  ·clear JC hLaC IB xR hall hL dz SC
   rintro j y σ HD hy ⟨R2,A2,S2,w7,w8,JD,hLaD,ID,xD,hallD,mD,hsD,hLD,dD,rfl⟩;have hj:j<(dE sp l x).length:=by have:=(ao.mp hy).1;lia
   have hsj:=gE hj;obtain ⟨y',hy',dy⟩:=dD.at (i:=j) (d:= .tup ((Stp.row (dE sp l x)[j]).map Dt.int)) (by unfold cW;rw [ay,hsj];rfl);rw [hy] at hy';cases hy';obtain ⟨q,qs,rfl,hq,rq⟩:=dy.tup_of;have eq:=rq.ints_of;subst eq;have hmem:(dE sp l x)[j]∈dE sp l x:=ba hj;have hin:=hlt _ (nN hmem).1.1;have more:∀ S3:List Stp,(∀ s∈S2,s∈S3)→(dE sp l x)[j].i∈S3.map Stp.i→∀ s∈(dE sp l x).take (j+1),s.i∈S3.map Stp.i:=fun S3 sub hj3 s hs=>by
    rw [bj,hsj] at hs
    rcases aH.mp hs with z | z
    ·obtain ⟨t',ht',e⟩:=bb.mp (hsD s z)
     exact bb.mpr ⟨t',sub _ ht',e⟩
    ·rw [av.mp (show s∈[(dE sp l x)[j]] from z)];exact hj3
   generalize (dE sp l x)[j]=st at hq hin dy hmem more;refine ⟨_,rfl,_,rfl,.ref t,q,b,m,sp,st,sAt sp st.i,rfl,hv1.same JD.same,hq,i8 hin,?_⟩;rw [(kI hin).1];obtain ⟨kv2,hDaD,hk2,hl2⟩:=JD.da;have hR2:=ID.fewX;refine ⟨_,rfl,_,rfl,Da,_,rfl,DGet.k (k:= .inl (eY sp st)) hDaD,_,rfl,?_⟩;cases hto:k3 kv2 (.inl (eY sp st)) with
   | some o =>
    have inR:eY sp st∈R2:=dJ fun z=>by rw [(hk2 _).mpr z] at hto;cases hto
    exact iteF ⟨R2,A2,S2,_,_,JD,hLaD,ID,xD,hallD,mD,more S2 (fun _ h=>h) (ID.has PT ne hmem inR),hLD,dD,rfl⟩
   | none =>
    have out:eY sp st ∉ R2:=(hk2 _).mp hto;have I3:=ID.add E hlt xD hmem out;have hR3:=I3.fewX;rw [ar] at hR3;have hR3:R2.length+1≤m.toNat:=hR3;refine iteT ⟨_,rfl,_,rfl,Da,_,rfl,DPut.k (k:= .inl (eY sp st)) hDaD (bU (by lia:kv2.length≤999) (by decide)),?_⟩;have J3:=JD.upD (y:= .bl true) (R':=R2++[eY sp st]) (n':=i+1) (x:=eY sp st) hDa hDaD hk2 (fun z=>by rw [aH,av]) (by rw [ar];show _≤R2.length+1+(i+1);lia);have K3:jL HD (upd HD Da (.dK (mV kv2 (.inl (eY sp st)) (.bl true)))):=fun q xs h=>by rw [br (fW h hDaD nofun)];exact h
    have hLa3:(upd HD Da (.dK (mV kv2 (.inl (eY sp st)) (.bl true)))) La=some (.lst (A2.map V.int)):=by rw [br (fW hLaD hDaD nofun)];exact hLaD
    have hL3:(upd HD Da (.dK (mV kv2 (.inl (eY sp st)) (.bl true)))) L=some (.lst zs):=by rw [br (fW hLD hDaD nofun)];exact hLD
    generalize upd HD Da (.dK (mV kv2 (.inl (eY sp st)) (.bl true)))=H3 at J3 K3 hLa3 hL3 ⊢;have d3:=df K3 dD;have q3:=K3 _ _ hq;refine ⟨_,rfl,.inl ⟨rfl,_,SqL.of hLa3⟩,_,rfl,La,_,_,rfl,rfl,hLa3,mS (by rw [aa];lia),?_⟩;have J4:=J3.upL (ys:=A2.map V.int++[V.int (eY sp st)]) hLaH hLa3 nLL.symm;have K4:jL H3 (upd H3 La (.lst (A2.map V.int++[V.int (eY sp st)]))):=eI hLa3;have hLa4:(upd H3 La (.lst (A2.map V.int++[V.int (eY sp st)]))) La=some (.lst (A2.map V.int++[V.int (eY sp st)])):=aQ;have hL4:(upd H3 La (.lst (A2.map V.int++[V.int (eY sp st)]))) L=some (.lst zs):=by rw [br nL1];exact hL3
    generalize upd H3 La (.lst (A2.map V.int++[V.int (eY sp st)]))=H4 at J4 K4 hLa4 hL4 ⊢;have d4:=df K4 d3;have q4:=K4 _ _ q3;obtain ⟨z4,hz4,dz4⟩:=J4.ls;have lz4:z4.length=S2.length:=by rw [dz4.length];unfold cW;rw [aa]
    have lS:=ID.len;refine ⟨_,rfl,.inl ⟨rfl,_,SqL.of hz4⟩,_,rfl,Ls,_,_,rfl,rfl,hz4,mS (by lia),?_⟩;have J5:=J4.upS (s:=st) hLsH hz4 dz4 (.tup q4 (dG.ints (Stp.row st)));refine ⟨R2++[eY sp st],A2++[eY sp st],S2++[st],_,_,J5,?_,I3,aJ _ xD,fun x hx=>aJ _ (hallD x hx),?_,more _ (fun _ h=>aJ _ h) (by rw [aE];exact aK _ (by simp)),?_,df (eI hz4) d4,rfl⟩
    ·rw [br nLL,hLa4,aE];rfl
    ·rw [ar,ar]
     show 2 * (16 - (R2.length+1))+(A2.length+1)≤_;lia
    ·rw [br nL2];exact hL4
  ·rintro σ HD ⟨R2,A2,S2,w7,w8,JD,hLaD,ID,xD,hallD,mD,hsD,hLD,dD,rfl⟩
   rw [lz,bq] at hsD;exact ⟨_,by lia,R2,A2,S2,_,_,_,rfl,by lia,rfl,JD,hLaD,ID.done hsD,hallD⟩
 ·rintro σ HC ⟨R,S,w4,w5,w6,w7,w8,rfl,JC,I0,hall⟩
  obtain ⟨zs,hz,dz⟩:=JC.ls;have hLs0:H0 Ls=none:=by
   cases z:H0 Ls with
   | none=>rfl
   | some o =>
    by_cases e:Ls=Tb0
    ·subst e
     obtain ⟨ps,hps⟩:=LamT.tbl hT1;rw [hps] at hLsH;cases hLsH
    ·rw [tb1 Ls o e z] at hLsH;cases hLsH
  exact ⟨_,rfl,k Ls zs l S HC (tb1.trans (bH.tb JC.same)) (LamT.same JC.same hT1) hLs0 hz dz fr (I0.ok E hlt hall)⟩
abbrev sRest:cJ:=top 29
abbrev sTabBy:cJ:=top 50
inductive spTabBy (vs:List V)(H:Hp)(Q:VK)(_:XK):Prop
 | mk (v vb:V)(L:aq)(b m:Int)(sp:List Sn)(bs:List (Int×Int))(zs:List V)(S:List Stp)(_:vs=[v,.ref L,vb])(_:IsD H v (jA b m sp))(_:0<b)(_:0<m)(_:m≤16)(_:kG m.toNat sp)(_:H L=some (.lst zs))(_:dG H zs (cW Stp.row S))(_:S.length≤16)(_:(∀ s∈S,s.i<sp.length∧(s.d=1∨s.d= -1)))(_:IsD H vb (bndP bs))(_:bs.length=sp.length)(_:∀ q H',bH H H'→H' q=some (.tup ((tabOf b sp bs m.toNat S).map V.int))→Q (.ref q) H')
theorem frmS_rng (E:kG m sp){t:Stp}(h:t.i<sp.length):0≤kl sp t∧kl sp t<m:=by
 obtain ⟨a,b,c,d⟩:=E _ (fc h);rw [←(mR h).2];unfold frm;split <;> lia
theorem ixN_int (h0:0≤z)(h1:z<n):ixN n z=some z.toNat:=by unfold ixN;rw [qL h0,qL h1]
theorem atI_int {xs:List α}{x:α}(h0:0≤z)(h:xs[z.toNat]? =some x):atI xs z=some x:=by
 have:=(ao.mp h).1;unfold atI;rw [ixN_int h0 (by lia)];exact h
theorem map_set {l:List Int}{x:Int}:(l.map V.int).set n (V.int x)=(l.set n x).map V.int:=by rw [List.map_set]
theorem scRest:bY pzj pzj (defScope sRest):=by trivial
theorem ok_rest (F:Fun K "rest_by" "rest_by" sRest f fd):cM P w K mg base CX0 1 f fd pzj spRest:=by
 refine F.ok scRest (by contradiction) (fun cdv A outer s H vs Q E hr h=>?_);obtain ⟨b,n,rfl,hb,k⟩:=h;refine ⟨_,PSl.h (cP ⟨(cf (cU k6 (pv 1) (pv 0)))⟩),?_⟩;exact ⟨_,rfl,_,rfl,_,_,rfl,rfl,hb,k⟩
theorem scTabBy:bY ["net","steps","bounds","times","step"] pzC (defScope sTabBy):=by trivial
theorem ok_tabBy (F:Fun K "table_by" "table_by" sTabBy f fd)(T:Nm mg)(G1:Fn K mg "leads_to" sTo pzc f1 fd1)(G2:Fn K mg "leads_from" sFrom pzc f2 fd2)(G3:Fn K mg "rest_by" sRest pzj f3 fd3):cM P w K mg base CX0 2 f fd pzC spTabBy:=by
 have F1:cM P w K mg base CX0 1 f1 fd1 pzc spTo:=ok_to G1.F;have F2:cM P w K mg base CX0 1 f2 fd2 pzc p9:=pf G2.F;have F3:cM P w K mg base CX0 1 f3 fd3 pzj spRest:=ok_rest G3.F;refine F.ok scTabBy (by contradiction) (fun cdv A outer s H vs Q E hr h=>?_);obtain ⟨v,vb,L,b,m,sp,bs,zs,S,rfl,hv,hb,m0,m16,E,hL,dz,lS,hS,hvb,lb,k⟩:=h;have hr1:=hr;obtain ⟨t,p,ys,rfl,ht,hp,hl,hy⟩:=fm hv;obtain ⟨pb,yb,rfl,hpb,hlb,rb⟩:=gw hvb;refine ⟨_,PSl.h (aY ⟨(psZ 3 scTabBy.nd (cU op_rep (kT (af bD aD)) (ixZ (pv 0))))⟩
  (aY ⟨(ib bE rfl (gg (pv 1)) (pgZ 4 scTabBy.nd) (cy (og (cU gX (eJ gB (pv 3) (pc1 G2 F2 hr1 (af (pv 0) (af (pv 4) aD))) (fun _ _=>rfl)) (cU nc (ixZ (pv 4)) (ixZ (eJ eD (pv 2) (ixZ (pv 4)) (fun _ _=>rfl))))) (qj (pv 3) (pc1 G1 F1 hr1 (af (pv 0) (af (pv 4) aD))) lQ))))⟩
  (cP ⟨(cf (eU i3 rfl T.ttup iX (af (gW (fr:=pza) (js:=[0]) rfl (gg (pv 3)) (by trivial) rfl (by trivial) rfl (by exists sTabBy) (by trivial) rfl (by trivial) (fun _ _ _ _ _=>⟨(pc1 G3 F3 hr1 (af (eJ (r:=rIxT K) eD (pv 1) bD (fun _ _=>rfl)) (af (pv 0) aD))),gT⟩)) aD)))⟩))),?_⟩
 refine ⟨szZ1,fun q1 H1 S1 h1=>⟨_,rfl,t,_,_,_,rfl,rfl,SqT.of (S1 _ _ ht),aO (j:=1) rfl,q1,m,_,rfl,rfl,h1,by lia,by lia,?_,fun Lt hLt=>?_⟩⟩
 ·show 1 * m.toNat≤aZ
  exact eQ (by lia)
 have hLtH:H Lt=none:=bH.free S1 hLt;have S2:bH H (upd H1 Lt (.lst (bt m.toNat [V.int 0]).flatten)):=S1.trans (bH.put (bH.refl H1) hLt);have h2:(upd H1 Lt (.lst (bt m.toNat [V.int 0]).flatten)) Lt=some (.lst ((bt m.toNat (0:Int)).map V.int)):=by
  rw [aQ,List.map_replicate,List.flatten_replicate_singleton]
 generalize upd H1 Lt (.lst (bt m.toNat [V.int 0]).flatten)=H2 at S2 h2 ⊢;have lz:zs.length=S.length:=by rw [dz.length];unfold cW;rw [aa]
 have len:∀ j,((S.take j).foldl (setT sp (lowB bs)) (bt m.toNat 0)).length=m.toNat:=fun j=>by rw [lP (m:=0),dt]
 refine ⟨_,rfl,L,rfl,⟨_,SqL.of (S2 _ _ hL)⟩,?_⟩;refine jh (K:=K) (a:=L) (xs:=zs) (fun j σ HD=>bH H HD∧HD Lt=some (.lst (((S.take j).foldl (setT sp (lowB bs)) (bt m.toNat 0)).map V.int))∧∃ w4,σ=[some (.ref t),some (.ref L),some (.ref pb),some (.ref Lt),w4]) ⟨S2,h2,none,rfl⟩ (fun j σ HD _ ⟨h,_⟩=>SqL.of (h _ _ hL)) ?_ ?_
 ·rintro j y σ HD hy' ⟨SD,hD,w4,rfl⟩
  have hj:j<S.length:=by have:=(ao.mp hy').1;lia
  have hsj:=gE hj;obtain ⟨y',hy2,dy⟩:=dz.at (i:=j) (d:= .tup ((Stp.row S[j]).map Dt.int)) (by unfold cW;rw [ay,hsj];rfl);rw [hy'] at hy2;cases hy2;obtain ⟨q,qs,rfl,hq,rq⟩:=dy.tup_of;have eq:=rq.ints_of;subst eq;obtain ⟨hin,hd⟩:=hS _ (ba hj);have fold:(S.take (j+1)).foldl (setT sp (lowB bs)) (bt m.toNat 0)=setT sp (lowB bs) ((S.take j).foldl (setT sp (lowB bs)) (bt m.toNat 0)) S[j]:=by
   rw [bj,hsj,b9];rfl
  rw [fold];have lj:=len j;generalize (S.take j).foldl (setT sp (lowB bs)) (bt m.toNat 0)=ts at hD lj ⊢;generalize S[j]=st at hq hin hd;obtain ⟨f0,f1'⟩:=frmS_rng E hin;obtain ⟨t0,t1⟩:=jf E hin;have hbi:st.i<bs.length:=by lia
  obtain ⟨qb,hqb,hqb2⟩:=iF rb (gE hbi);have el:lowB bs st.i=bs[st.i].1:=by unfold lowB;rw [ai,gE hbi];rfl
  have hat:∀ z:Int,0≤z→z<m.toNat→(ts.map V.int)[z.toNat]? =some (V.int (tm ts z)):=fun z z0 z1=>by
   rw [ay,gE (by lia:z.toNat<ts.length)];unfold tm;rw [ai,gE (by lia:z.toNat<ts.length)];rfl
  refine ⟨_,rfl,_,rfl,_,rfl,.ref t,q,b,m,sp,st,sAt sp st.i,rfl,hv.same SD,SD _ _ hq,i8 hin,?_⟩;rw [(kI hin).2];refine ⟨Lt,_,_,_,rfl,rfl,SqL.of hD,atI_int f0 (hat _ f0 f1'),?_⟩;refine ⟨_,rfl,q,_,_,_,rfl,rfl,SqT.of (SD _ _ hq),aO (j:=1) rfl,_,rfl,_,rfl,q,_,_,_,rfl,rfl,SqT.of (SD _ _ hq),aO (j:=0) rfl,pb,_,_,_,rfl,rfl,SqT.of (SD _ _ hpb),aO (j:=st.i) hqb,qb,_,_,_,rfl,rfl,SqT.of (SD _ _ hqb2),aO (j:=0) rfl,_,_,rfl,rfl,?_,_,_,rfl,rfl,?_⟩
  ·exact .inl (by rcases hd with e | e <;> rw [e] <;> decide)
  refine ⟨_,rfl,_,rfl,_,rfl,.ref t,q,b,m,sp,st,sAt sp st.i,rfl,hv.same SD,SD _ _ hq,i8 hin,?_⟩;rw [(kI hin).1];refine ⟨Lt,_,_,_,rfl,rfl,hD,ixN_int t0 (by rw [aa];lia),?_⟩;rw [map_set,←el];exact ⟨fun a o e=>by rw [br (bC e hLtH)];exact SD _ _ e,aQ,_,rfl⟩
 ·rintro σ HD ⟨SD,hD,w4,rfl⟩
  rw [lz,bq] at hD;refine ⟨_,rfl,Lt,rfl,⟨_,SqL.of hD⟩,?_⟩;have lt:(jS sp (lowB bs) m.toNat S).length=m.toNat:=by have:=len S.length;rwa [bq] at this
  refine jv (K:=K) (a:=Lt) (xs:=(jS sp (lowB bs) m.toNat S).map V.int) (fun i zs HC=>HC=HD∧zs=(((jS sp (lowB bs) m.toNat S).take i).map (· % b)).map V.int) ⟨rfl,rfl⟩ (fun i zs HC hi ⟨e1,e2⟩=>⟨by rw [e1];exact SqL.of hD,by rw [e2,aa,aa,bK];lia⟩) (by rw [aa,lt];exact eQ (by lia)) (fun i x zs HC hx ⟨e1,e2⟩=>?_) (fun zs HC ⟨e1,e2⟩ D hD2=>?_)
  ·subst e1
   rw [ay] at hx;obtain ⟨z,hz,rfl⟩:=aS.mp hx;refine gc ⟨_,rfl,t,_,_,_,rfl,rfl,SqT.of (SD _ _ ht),aO (j:=0) rfl,_,rfl,b,z,rfl,hb,?_⟩;rw [e2,bj,hz,aE,aE];exact ⟨rfl,rfl⟩
  ·subst e1
   rw [aa,bq] at e2;have S3:bH HC (upd HC D (.lst zs)):=bH.put (bH.refl HC) hD2;refine ⟨D,_,rfl,.inl (.inl aQ),fun q H4 S4 h4=>?_⟩;exact k q H4 (SD.trans (S3.trans S4)) (by rw [h4,e2];rfl)
def setF (sp:List Sn)(fs:List Int)(s:Stp):List Int:=fs.set (eY sp s).toNat (tm fs (kl sp s))
def fstS (sp:List Sn)(m:Nat)(S:List Stp):List Int:=S.foldl (setF sp) (jK m)
theorem setF_len {sp:List Sn}:∀ (S:List Stp) (fs:List Int),(S.foldl (setF sp) fs).length=fs.length
 | [],_=>rfl
 | s::S,fs=>by
  rw [bM,setF_len S];exact e8
theorem fstS_len:(fstS sp m S).length=m:=by unfold fstS;rw [setF_len,ke]
theorem fstS_snoc {s:Stp}:fstS sp m (S++[s])=setF sp (fstS sp m S) s:=by unfold fstS;rw [b9];rfl
theorem snocRec {P:List α→Prop}(l:List α)(h0:P [])(h1:∀ l a,P l→P (l++[a])):P l:=by
 have:∀ r:List α,P r.reverse:=fun r=>by
  induction r with
  | nil=>exact h0
  | cons a r ih=>rw [eR];exact h1 _ _ ih
 have h:=this l.reverse
 rwa [List.reverse_reverse] at h
theorem frm_rng0 (E:kG m sp){t:Stp}(h:t.i<sp.length):0≤kl sp t∧kl sp t<m:=by
 have e:=(mR h).2;obtain ⟨a,b,c,d⟩:=E _ (fc h);rw [←e];unfold frm;split <;> lia
theorem fstS_ok (E:kG m sp)(h:Spr sp S):(∀ s∈S,s.i<sp.length)→∀ s∈S,tm (fstS sp m S) (eY sp s)=tm (fstS sp m S) (kl sp s):=by
 induction h with
 | nil=>exact fun _ s hs=>by cases hs
 | snoc h n o ih =>
  rename_i S s;intro hl t ht;have hl':∀ t∈S,t.i<sp.length:=fun t h'=>hl t (aJ _ h')
  have hs:s.i<sp.length:=hl s (by simp);obtain ⟨x0,x1⟩:=jf E hs;have len:(fstS sp m S).length=m:=fstS_len;rw [fstS_snoc];unfold setF
  rcases aH.mp ht with z | z
  ·rw [l6 x0 (by lia) (jf E (hl' t z)).1,l6 x0 (by lia) (frm_rng0 E (hl' t z)).1,qK (fun q=>(o t z).1 q.symm),qK (fun q=>(o t z).2 q.symm)]
   exact ih hl' t z
  ·rw [av.mp z,l6 x0 (by lia) x0,l6 x0 (by lia) (frm_rng0 E hs).1,qL rfl,qK (fun q=>n q.symm)]
def Cn (sp:List Sn)(a c:Int):Prop:=∀ π:Int→Prop,(∀ x∈sp,π x.s↔π x.g)→(π a↔π c)
theorem Cn.refl {a:Int}:Cn sp a a:=fun _ _=>Iff.rfl
theorem Cn.symm {a c:Int}(h:Cn sp a c):Cn sp c a:=fun π hp=>(h π hp).symm
theorem Cn.trans {a c:Int}(h:Cn sp a c)(k:Cn sp c d):Cn sp a d:=fun π hp=>(h π hp).trans (k π hp)
theorem cn_step {s:Stp}(h:s.i<sp.length):Cn sp (kl sp s) (eY sp s):=fun π hp=>by
 obtain ⟨e1,e2⟩:=mR h;rw [←e1,←e2];have:=hp _ (fc h);unfold frm too;split <;> first | exact this | exact this.symm
theorem fstS_cn (E:kG m sp):∀ (S:List Stp),(∀ s∈S,s.i<sp.length)→∀ x:Int,0≤x→x<m→Cn sp x (tm (fstS sp m S) x):=fun S=>by
 refine snocRec (P:=fun S=>(∀ s∈S,s.i<sp.length)→∀ x:Int,0≤x→x<m→Cn sp x (tm (fstS sp m S) x)) S ?_ ?_
 ·intro _ x x0 x1
  show Cn sp x (tm (jK m) x);rw [mm x0 x1];exact Cn.refl
 ·intro S s ih hl x x0 x1
  have hs:s.i<sp.length:=hl s (by simp);have ih:=ih fun t h'=>hl t (aJ _ h')
  obtain ⟨y0,y1⟩:=jf E hs;have len:(fstS sp m S).length=m:=fstS_len;rw [fstS_snoc];unfold setF;rw [l6 y0 (by lia) x0]
  by_cases e:x=eY sp s
  ·rw [qL e,e]
   obtain ⟨f0,f1⟩:=frm_rng0 E hs;exact (cn_step hs).symm.trans (ih _ f0 f1)
  ·rw [qK e]
   exact ih x x0 x1
structure Lbl (m:Nat)(sp:List Sn)(fs:List Int):Prop where
 len:fs.length=m
 spn:∀ x∈sp,tm fs x.s=tm fs x.g
 con:∀ x:Int,0≤x→x<m→Cn sp x (tm fs x)
theorem Lbl.of (E:kG m sp)(F:i7 m sp l)(ok:SprOk m sp l S)(hl:∀ i∈l,i<sp.length):Lbl m sp (fstS sp m S):=by
 have hS:∀ s∈S,s.i<sp.length:=fun s hs=>hl _ (ok.inn s hs).1
 refine ⟨fstS_len,fun x hx=>?_,fstS_cn E S hS⟩;obtain ⟨k,hk,rfl⟩:=cu hx;have ek:sAt sp k=sp[k]:=by unfold sAt;rw [ai,gE hk];rfl
 rw [←ek];have H:=F.held E hk;refine (H (fun z=>tm (fstS sp m S) (sAt sp k).s=tm (fstS sp m S) z) (fun i hi=>?_) rfl);obtain ⟨s,hs,rfl⟩:=bb.mp (ok.all i hi);have e:=fstS_ok E ok.spr hS s hs;obtain ⟨f1,f2,f3,f4⟩:=pJ (hl _ hi);have hd:=(ok.inn s hs).2;obtain ⟨i,d⟩:=s
 dsimp only at e f1 f2 f3 f4 hd ⊢
 rcases hd with rfl | rfl
 ·rw [f1,f2] at e;rw [e]
 ·rw [f3,f4] at e;rw [e]
theorem Lbl.same {fs:List Int}(h:Lbl m sp fs){x:Int}(x0:0≤x)(x1:x<m)(y0:0≤y)(y1:y<m):tm fs x=tm fs y↔Cn sp x y:=by
 constructor
 ·intro e
  have a:=h.con x x0 x1;rw [e] at a;exact a.trans (h.con y y0 y1).symm
 ·intro c
  exact (c (fun z=>tm fs x=tm fs z) fun z hz=>by rw [h.spn z hz]).mp rfl
def mJ (fs:List Int)(f:Int):List Int:=((aF fs.length).filter fun i=>decide (fs.getD i 0=f)).map fun i:Nat=>(i:Int)
def j4 (fs:List Int):List Int:=fs.foldl (fun a f=>if f∈a then a else a++[f]) []
theorem nv {fs:List Int}{f:Int}:j4 (fs++[f])=if f∈j4 fs then j4 fs else j4 fs++[f]:=by unfold j4;rw [b9];rfl
theorem lW {f:Int}:∀ (fs:List Int),f∈j4 fs↔f∈fs:=fun fs=>by
 refine snocRec (P:=fun fs=>f∈j4 fs↔f∈fs) fs ?_ ?_
 ·exact Iff.rfl
 ·intro fs g ih
  rw [nv]
  by_cases e:g∈j4 fs
  ·rw [qL e,ih,aH,av]
   exact ⟨.inl,fun h=>h.elim id fun z=>by rw [←z] at e;exact ih.mp e⟩
  ·rw [qK e,aH,aH,ih]
theorem ky:∀ (fs:List Int),(j4 fs).Nodup:=fun fs=>by
 refine snocRec (P:=fun fs=>(j4 fs).Nodup) fs ?_ ?_
 ·exact jk
 ·intro fs g ih
  rw [nv]
  by_cases e:g∈j4 fs
  ·rw [qL e];exact ih
  ·rw [qK e]
   exact nd_snoc ih e
theorem idxF_snoc {fs:List Int}{f g:Int}:mJ (fs++[g]) f=if g=f then mJ fs f++[(fs.length:Int)] else mJ fs f:=by
 unfold mJ;rw [ar,d5,fF,fj,aE];have e1:(aF fs.length).filter (fun i=>decide ((fs++[g]).getD i 0=f))=(aF fs.length).filter (fun i=>decide (fs.getD i 0=f)):=by
  refine List.filter_congr fun i hi=>?_
  rw [ai,ai,cN (cg.mp hi)]
 have e2:(fs++[g]).getD fs.length 0=g:=by
  rw [ai,bu (aA _),gO];rfl
 rw [e1,fh,List.filter_nil]
 by_cases z:g=f
 ·rw [qL z,qL (by rw [decide_eq_true_eq,e2];exact z)];rfl
 ·rw [qK z,qK (by rw [decide_eq_true_eq,e2];exact z),List.map_nil,de]
theorem ka {fs:List Int}{f:Int}:z∈mJ fs f↔0≤z∧z<fs.length∧tm fs z=f:=by
 unfold mJ;rw [bb]
 constructor
 ·rintro ⟨i,hi,rfl⟩
  obtain ⟨a,c⟩:=bS.mp hi;have:=cg.mp a;exact ⟨by lia,by lia,by unfold tm;rw [cI];exact qP c⟩
 ·rintro ⟨a,c,d⟩
  exact ⟨z.toNat,bS.mpr ⟨cg.mpr (by lia),qN d⟩,by lia⟩
end HN
namespace L2
open PySem PySem.Spec PyProof.Rows
section
variable {kvs:List (Key×V)}{k:Key}{z:V}{r:ae}
theorem d_setdef (I:Inv X aR σ H s)(e:H a=some (.dK kvs))(ry:gI (kV k) u)(rz:gI z r)(hl:kvs.length<aZ)
  (h1:∀ v w' s',k3 kvs k=some v→Inv X aR σ H s'→gI v w'→Q w' s') (h2:∀ s',k3 kvs k=none→Inv X aR σ (upd H a (.dK (mV kvs k z))) s'→Q r s') :
  bf (bw X.prog X.w) A (call (.builtin "dict.setdefault") [.ref a,u,r]) Q E s:=by
 obtain ⟨zz,hd,vs,rel,dd⟩:=dk_of I.hok e;refine call_meetsIn PySem.F.slot_dict_setdefault dd.typeIs PySem.F.entry_dict_setdefault (PySem.F.args_dict_setdefault_3 _ _ _) (kt_meets_setdefault (gM X.prog X.w) a (kV_is ry) hd r)
  ⟨vs,dd,by rw [←rel.length];exact zz,fun w' hv=>?_,fun hn h' dd' hs=>?_⟩
 ·cases l:k3 kvs k with
  | none =>
   have:=RelO.none_of (by rw [←l];exact rel.val k);rw [this] at hv;cases hv
  | some v =>
   obtain ⟨w2,hw,rw'⟩:=RelO.some_of (v:=v) (o:=valueAt vs k) (by rw [←l];exact rel.val k);rw [hw] at hv;cases hv;exact h1 v _ _ l (I.tok _) rw'
 ·have l:k3 kvs k=none:=by
   cases l:k3 kvs k with
   | none=>rfl
   | some v =>
    obtain ⟨w2,hw,_⟩:=RelO.some_of (v:=v) (o:=valueAt vs k) (by rw [←l];exact rel.val k);rw [hw] at hn;cases hn
  have he:∃ q,h'.get? a=some q:=let ⟨q,_,_,hq,_⟩:=dd';⟨q,hq⟩;exact h2 _ l (d_write I (by rw [e];exact True.intro) hs he (dk_new (aM (jZ kvs k z) hl) hd (rel.put k rz) dd'))
end
def tDSetd (td ty tx:TE):TE:=fun σ H Q=>td σ H fun x H1=>∃ a,x= .ref a∧IsDct H1 a∧ty σ H1 fun y H2=>tx σ H2 fun z H3=>∃ kvs k,H3 a=some (.dK kvs)∧y=kV k∧kvs.length<aZ ∧
 (∀ v,k3 kvs k=some v→Q v H3)∧(k3 kvs k=none→Q z (upd H3 a (.dK (mV kvs k z))))
def isVV (r d:aq):HO:= .ext fun h=>h.IsValuesView r d
def tDVals (td:TE):TE:=fun σ H Q=>td σ H fun x H1=>∃ a kvs,x= .ref a∧H1 a=some (.dK kvs)∧∀ p,H1 p=none→Q (.ref p) (upd H1 p (isVV p a))
structure M0 (X:Cx)(o:Expr)(m:Str)(apos:Pos)(cpos:Pos):Prop where
 base:kg o m X.env (eK o X.env)=eK o X.env
 few:((fP cpos (bB [] X.env)).all (fun x=> !x.1) && (backToKw cpos (keywordEach [] X.env)).all (fun x=>x.1.isSome)
  && decide (([]:List Expr).length+([]:List Keyword).length+(if ([]:List Keyword).isEmpty then 0 else 1)<30))=true
 line:(apos.endLine == cpos.line)=true
 trees:fP cpos (bB [] X.env)=[]
theorem Paired.getR {α β:Type}{F:α→β→Prop}:∀ {l:List α} {k:List β},jx F l k→∀ {i:Nat} {x:α},l[i]? =some x→∃ y,k[i]? =some y∧F x y
 | _,_,.nil,_,_,h=>by cases h
 | _,_,.cons r t,0,x,h=>by cases h;exact ⟨_,rfl,r⟩
 | _,_,.cons r t,i+1,x,h=>Paired.getR t (i:=i) h
section
variable {o f:Expr}{cpos:Pos}{td ty tx:TE}
theorem pe_dsetd (ho:PE X o td)(he:PE X e ty)(hf:PE X f tx)(m:M2 X o "setdefault" apos e f cpos):PE X (.Call (.Attribute o "setdefault" apos) [e,f] [] cpos) (tDSetd td ty tx):=by
 intro aR s σ H Q I h;refine wpAny_Call_method m.base m.few m.line PySem.F.plainAttrs_dict PySem.F.slot_dict_setdefault PySem.F.type_dict_setdefault (thn (ho aR s σ H _ I h) fun u s1 ⟨x,H1,I1,rx,a,ex,d,q1⟩=>?_);subst ex;obtain rfl:u=ae.ref a:=rx;obtain ⟨t1,t2,_⟩:=isDct_at I1 d;refine ⟨t1,t2,?_⟩;rw [m.trees];refine jd rfl (Calls.evalArgs_plain (Calls.spliced_cons (thn (he aR s1 σ H1 _ I1 q1) fun iv s2 ⟨y,H2,I2,ry,q2⟩ =>
  Calls.spliced_cons (thn (hf aR s2 σ H2 _ I2 q2) fun fv s3 ⟨z,H3,I3,rz,kvs,k,ea,ey,hl,q3,q4⟩=>Calls.spliced_nil ?_))))
 subst ey;exact d_setdef I3 ea ry rz hl (fun v w' s4 l I4 rw'=>⟨v,H3,I4,rw',q3 v l⟩) fun s4 l I4=>⟨z,_,I4,rz,q4 l⟩
theorem pe_dvals (ho:PE X o td)(m:M0 X o "values" apos cpos):PE X (.Call (.Attribute o "values" apos) [] [] cpos) (tDVals td):=by
 intro aR s σ H Q I h;refine wpAny_Call_method m.base m.few m.line PySem.F.plainAttrs_dict PySem.F.slot_dict_values PySem.F.type_dict_values (thn (ho aR s σ H _ I h) fun u s1 ⟨x,H1,I1,rx,a,kvs,ex,ea,q1⟩=>?_);subst ex;obtain rfl:u=ae.ref a:=rx;obtain ⟨t1,t2,_⟩:=isDct_at I1 (.inl ⟨kvs,.inl ea⟩);refine ⟨t1,t2,?_⟩;rw [m.trees];obtain ⟨zz,hd,vs,rel,dd⟩:=dk_of I1.hok ea;refine jd rfl (PySem.evalArgs_none ?_);refine call_meetsIn PySem.F.slot_dict_values dd.typeIs PySem.F.entry_dict_values (PySem.F.args_dict_values_1 _) (meets_dict_values (gM X.prog X.w) a hd) ⟨⟨vs,dd⟩,?_⟩;have hg:(s1.heap.push { cls:= .type "dict_values",data:= .fields #[.ref a] }).get? s1.heap.objs.size=some { cls:= .type "dict_values",data:= .fields #[.ref a] }:=aX _ rfl;refine ⟨.ref s1.heap.objs.size,_,I1.laid (t':=s1.toks) (o:=isVV s1.heap.objs.size a) (fun _ _ z=>aw _ z) (aA _) ⟨⟨_,hg,rfl,rfl⟩,⟨_,hg⟩,fun h1 h2 ⟨o,e,r⟩ k=>⟨o,k o e,r⟩⟩,rfl,q1 _ I1.fresh⟩
theorem call_listV (hc:X.calm=true):jz X (.type "list") (fun xs H Q=>∃ (r d:aq) (kvs:List (Key×V)),xs=[.ref r]∧H r=some (isVV r d)∧H d=some (.dK kvs)∧∀ l,H l=none→Q (.ref l) (upd H l (.lst (kvs.map (·.2))))):=by
 intro aR s σ H xs us Q I r h;obtain ⟨rv,d,kvs,rfl,hr,hd,q⟩:=h;obtain ⟨u,rfl,ru⟩:=mP r;cases (show u=ae.ref rv from ru);obtain ⟨hv,_,_⟩:=I.hok rv _ hr;obtain ⟨zz,lo,vs,rel,dd⟩:=dk_of I.hok hd;obtain ⟨ep,hat⟩:=dd.dictAt;have ll:=rel.length;refine PySem.W.kdl_call (PySem.W.kdl_values (knd:=gM X.prog X.w) (kvs:=vs) (ep:=ep)) (I.ok.hd hc) ⟨hv,hat⟩ (by rw [←ll];exact zz) fun h' tk acc c hk hg hi=>?_
 refine ⟨.ref s.heap.objs.size,_,I.laid (t':=tk) (o:= .lst (kvs.map (·.2))) hk (aA _) ⟨?_,acc.toList,c,?_,?_⟩,rfl,q _ I.fresh⟩
 ·rw [aa];exact zz
 ·refine vals_at ((aa ..).trans (ll.trans (hi.1.symm.trans (cj ..).symm))) fun i x hx=>?_
  rw [ay] at hx;obtain ⟨p,hp,rfl⟩:=aS.mp hx;have hik:i<acc.size:=by rw [hi.1,←ll];exact (ao.mp hp).1
  have e:=dQ hik;obtain ⟨k',e2⟩:=hi.2 i _ e;refine ⟨_,by rw [jB];exact e,?_⟩;obtain ⟨q',hq',rq⟩:=Paired.getR rel hp;rw [e2] at hq';cases hq';exact rq.2
 ·rw [Array.toArray_toList];exact hg
end
theorem enumL_step {z i1:aq}{k:Nat}{xs:Array ae}{x:ae}(E0:IsEnum s.heap z i1 k was)(J0:s.heap.IsListIter i1 a k)(T0:s.heap.IsList a xs)(hx:xs[k]? =some x)(hzi:z≠i1)
  (q:∀ g,IsEnumOut g z i1 ((k:Int)+1) x s.heap.objs.size→g.IsListIter i1 a (k+1)→g.get? s.heap.objs.size=some { cls:= .type "tuple",data:= .seq #[.int k s.toks,x] }→g.objs.size=s.heap.objs.size+1 →
   (∀ c o,c≠z→c≠i1→s.heap.get? c=some o→g.get? c=some o)→Q (.ref s.heap.objs.size) { s with heap:=g,toks:=s.toks+1 }) :
  bf (bw prog w) A (eS.«enumerate.__next__» ⟨[.ref z],[]⟩) (fun fin s'=>∃ v,fin= .done (.ret v)∧Q v s') E s:=by
 obtain ⟨h0,gs,dr,tk,os⟩:=s;show bf _ _ (field (.ref z) 2 >>= _) _ _ _;refine ak (cS E0 rfl (x:= .ref i1) rfl ?_);refine ak (wpAny_nextOf_list_item J0 T0 hx fun g1 J1 s1=>?_);have s1:cx i1 h0 g1:=s1;have E1:IsEnum g1 z i1 k was:=(s1.2 z hzi).trans E0;show bf _ _ (field (.ref z) 3 >>= _) _ _ ⟨g1,gs,dr,tk,os⟩;refine ak (cS E1 rfl (x:=rawInt k) rfl ?_);show bf _ _ (field (.ref z) 4 >>= _) _ _ ⟨g1,gs,dr,tk,os⟩;refine ak (cS E1 rfl (x:= .none) rfl ?_);show bf _ _ (mkInt k >>= _) _ _ ⟨g1,gs,dr,tk,os⟩;refine ak (wpAny_mkInt ?_);show bf _ _ (setField (.ref z) 3 (rawInt ((k:Int)+1)) >>= _) _ _ ⟨g1,gs,dr,tk+1,os⟩;refine ak (dO E1 (by simp) fun g2 E2 s2=>?_);have s2:cx z g1 g2:=s2;have E2:IsEnum g2 z i1 ((k:Int)+1) was:=E2;show bf _ _ (setField (.ref z) 4 .none >>= _) _ _ ⟨g2,gs,dr,tk+1,os⟩;refine ak (dO E2 (by simp) fun g3 E3 s3=>?_);have s3:cx z g2 g3:=s3;have E3:IsEnum g3 z i1 ((k:Int)+1) was:=E3;show bf _ _ (newTuple [.int k tk,x] >>= _) _ _ ⟨g3,gs,dr,tk+1,os⟩;refine ak (wpAny_newTuple ?_);have E4:IsEnum (g3.push { cls:= .type "tuple",data:= .seq #[.int k tk,x] }) z i1 ((k:Int)+1) was:=aw _ E3;have z3:g3.objs.size=h0.objs.size:=by rw [s3.1,s2.1,s1.1]
 have J4:(g3.push { cls:= .type "tuple",data:= .seq #[.int k tk,x] }).IsListIter i1 a (k+1):=by
  obtain ⟨o,e,r⟩:=(J1.extBut s2.extBut hzi.symm).extBut s3.extBut hzi.symm;exact ⟨o,aw _ e,r⟩
 have T4:(g3.push { cls:= .type "tuple",data:= .seq #[.int k tk,x] }).get? h0.objs.size=some { cls:= .type "tuple",data:= .seq #[.int k tk,x] }:=by rw [←z3];exact aX _ rfl
 have z4:(g3.push { cls:= .type "tuple",data:= .seq #[.int k tk,x] }).objs.size=h0.objs.size+1:=by rw [d8,z3]
 have k4:∀ c o,c≠z→c≠i1→h0.get? c=some o→(g3.push { cls:= .type "tuple",data:= .seq #[.int k tk,x] }).get? c=some o:=fun c o c1 c2 e=>aw _ (s3.extBut c o c1 (s2.extBut c o c1 (s1.extBut c o c2 e)))
 have zlt:z<h0.objs.size:=aL E0;generalize g3.push { cls:= .type "tuple",data:= .seq #[.int k tk,x] }=g4 at E4 J4 T4 z4 k4;rw [z3];show bf _ _ (fg (.ref z) >>= _) _ _ ⟨g4,gs,dr,tk+1,os⟩;refine ak ?_;unfold fg;refine ak (cS E4 rfl (x:= .none) rfl (aV ?_));simp only [if_true];refine ak (wpAny_rule ?_);refine ak (cS E4 rfl (x:=was) rfl ?_);refine ak (dO E4 (by simp) fun g5 E5 s5=>?_);have s5:cx z g4 g5:=s5;have E5:IsEnum g5 z i1 ((k:Int)+1) x:=E5;show bf _ _ (gJ (.ref z) (.ref h0.objs.size) >>= _) _ _ ⟨g5,gs,dr,tk+1,os⟩;refine ak ?_;unfold gJ;refine ak (dO E5 (by simp) fun g6 E6 s6=>?_);have s6:cx z g5 g6:=s6;have E6:IsEnumOut g6 z i1 ((k:Int)+1) x h0.objs.size:=E6;refine dO E6 (by simp) fun g7 E7 s7=>?_
 have s7:cx z g6 g7:=s7;have E7:IsEnumOut g7 z i1 ((k:Int)+1) x h0.objs.size:=E7;have up:∀ c o,c≠z→g4.get? c=some o→g7.get? c=some o:=fun c o c1 e=>s7.extBut c o c1 (s6.extBut c o c1 (s5.extBut c o c1 e))
 refine ak (wpAny_letGo (aV ⟨_,rfl,q g7 E7 ?_ (up _ _ (dv zlt) T4) (by rw [s7.1,s6.1,s5.1,z4]) fun c o c1 c2 e=>up c o c1 (k4 c o c1 c2 e)⟩));obtain ⟨o,e,r⟩:=J4;exact ⟨o,up _ o hzi.symm e,r⟩
theorem enumL_item {z i1:aq}{k:Nat}{xs:Array ae}{x:ae}{Q:Option ae→ax→Prop}(E0:IsEnum s.heap z i1 k was)(J0:s.heap.IsListIter i1 a k)(T0:s.heap.IsList a xs)(hx:xs[k]? =some x)(hzi:z≠i1)
  (q:∀ g,IsEnumOut g z i1 ((k:Int)+1) x s.heap.objs.size→g.IsListIter i1 a (k+1)→g.get? s.heap.objs.size=some { cls:= .type "tuple",data:= .seq #[.int k s.toks,x] }→g.objs.size=s.heap.objs.size+1 →
   (∀ c o,c≠z→c≠i1→s.heap.get? c=some o→g.get? c=some o)→Q (some (.ref s.heap.objs.size)) { s with heap:=g,toks:=s.toks+1 }):bf (bw prog w) A (pyNext (.ref z)) Q E s:=by
 have ht:s.TypeIs (.ref z) "enumerate" := ⟨_,E0,rfl⟩;unfold pyNext;refine ak (wpAny_attempt (dM (name:=d9 "__next__") ht jQ (fT jQ ht F.entry_enumerate_next ?_ (F.args_enumerate_next_1 _))));exact enumL_step E0 J0 T0 hx hzi fun g e1 e2 e3 e4 e5=>aV (q g e1 e2 e3 e4 e5)
theorem enumL_end {z i1:aq}{k:Nat}{xs:Array ae}{Q:Option ae→ax→Prop}(hh:A.handled=none)(E0:IsEnum s.heap z i1 k was)(J0:s.heap.IsListIter i1 a k)(T0:s.heap.IsList a xs)(hx:xs[k]? =none)
  (q:∀ g,bL.ExtBut i1 s.heap g→Q none { s with heap:=g }):bf (bw prog w) A (pyNext (.ref z)) Q E s:=by
 have ht:s.TypeIs (.ref z) "enumerate" := ⟨_,E0,rfl⟩;unfold pyNext;refine ak (wpAny_attempt (dM (name:=d9 "__next__") ht jQ (fT jQ ht F.entry_enumerate_next ?_ (F.args_enumerate_next_1 _))));show bf _ _ (field (.ref z) 2 >>= _) _ _ _;refine ak (cS E0 rfl (x:= .ref i1) rfl ?_);refine ak (wpAny_nextOf_list_end hh J0 T0 hx fun g x kp hxx=>?_);obtain ⟨o,e1,e2⟩:=hxx;refine ak (wpAny_isInstance (T := "StopIteration") (b:=true) ⟨o,e1,e2⟩ isSubtype_stop ?_);exact aV (q _ kp)
section
open AutoSeq1 (wpAny_loadPart')
theorem enumL_new (a:aq)(xs:Array ae) :
  Meets (eS.«enumerate.__new__» ⟨[.type "enumerate",.ref a],[]⟩) (fun _ R s=>s.heap.IsList a xs ∧
   R (.ok (.ret (.ref (s.heap.push { cls:= .type "list_iterator",data:= .fields #[.ref a,.int 0 0] }).objs.size)))
    {s with heap:=(s.heap.push { cls:= .type "list_iterator",data:= .fields #[.ref a,.int 0 0] }).push { cls:= .type "enumerate",data:= .fields #[.none,.bool false,.ref s.heap.objs.size,rawInt 0,.none,.none] } }) :=
 .of_wp fun prog w A R s h=>by
  obtain ⟨hp,g,d,tk,os⟩:=s;obtain ⟨h1,h⟩:=h;have subE:=sub_enumerate;have k1:bL.IsList (ax.heap ⟨hp,g,d,tk,os⟩) a xs:=h1
  wp_walk using gu k1
  refine wpAny_stack_any fun st=>aV ?_
  split
  ·rename_i c _ _ _ _ _
   cases (c == ae.type "enumerate")
   ·wp_walk using gu k1
    exact ⟨_,rfl,h⟩
   ·wp_walk using gu k1
    exact ⟨_,rfl,h⟩
  ·wp_walk using gu k1
   exact ⟨_,rfl,h⟩
theorem call_enumL {xs:Array ae}(h1:s.heap.IsList a xs)
  (q:∀ g,IsEnum g (s.heap.objs.size+1) s.heap.objs.size 0 .none→g.IsListIter s.heap.objs.size a 0→g.objs.size=s.heap.objs.size+2→(∀ c o,s.heap.get? c=some o→g.get? c=some o)→Q (.ref (s.heap.objs.size+1)) { s with heap:=g }) :
  bf (bw prog w) A (call (.type "enumerate") [.ref a]) Q E s:=by
 refine callType_new F.called_enumerate (by decide) (F.typeCall_enumerate_1 _) (F.newCall_enumerate_1 _) (fun obj=>F.args_object_init_2 obj _) F.entry_enumerate_new (enumL_new a xs) ⟨h1,?_⟩;have e1:(s.heap.push { cls:= .type "list_iterator",data:= .fields #[.ref a,.int 0 0] }).objs.size=s.heap.objs.size+1:=d8 ..;have f2:=aX (s.heap.push { cls:= .type "list_iterator",data:= .fields #[.ref a,.int 0 0] }) (o:={ cls:= .type "enumerate",data:= .fields #[.none,.bool false,.ref s.heap.objs.size,rawInt 0,.none,.none] }) rfl;show _∧_;rw [e1] at f2 ⊢;exact ⟨⟨_,f2,rfl⟩,q _ f2 ⟨_,aw _ (aX _ rfl),rfl,rfl⟩ (by rw [d8,e1]) fun c o x=>aw _ (aw _ x)⟩
end
def ItL (a:aq):It :=
 ⟨fun i H=>∃ xs x,H a=some (.lst xs)∧xs[i]? =some x,
  fun i H v H'=>∃ p x,H p=none∧v= .ref p∧H'=upd H p (.tup [.int (i:Nat),x])∧∀ xs,H a=some (.lst xs)→xs[i]? =some x,
  fun i H=>∃ xs,H a=some (.lst xs)∧xs.length≤i⟩
theorem turn_enumL {k0}{z i1:aq}(a:aq)(hzi:z≠i1) :
  Turn P w K (.Tuple es k0 pos) (ItL a) [z,i1] z (fun i h=>(∃ was,IsEnum h z i1 i was)∧h.IsListIter i1 a i) where
 mem:=by simp
 obj:=fun i h st c hc=>by
  obtain ⟨⟨was,e1⟩,⟨o2,e2,_,d2⟩⟩:=st;simp only [aI,cn,or_false] at hc
  rcases hc with rfl | rfl
  ·exact ⟨_,e1,fun v z=>by cases z⟩
  ·exact ⟨_,e2,fun v z=>by rw [d2] at z;cases z⟩
 keep:=fun i h h' st k=>by
  obtain ⟨⟨was,e1⟩,⟨o2,e2,r2⟩⟩:=st;exact ⟨⟨was,k z (by simp) _ e1⟩,⟨o2,k i1 (by simp) _ e2,r2⟩⟩
 item:=by
  intro X hP hw hK hc i aR s σ H E I hf st hg;subst hP hw hK;obtain ⟨xs,x,ha,hx⟩:=hg;obtain ⟨⟨was,e1⟩,j1⟩:=st;obtain ⟨its,rv,pt,_⟩:=I.list (SqL.of (K:=X.K) ha);obtain ⟨u,hu,ru⟩:=rv.get hx;have nz:∀ e∈[z,i1],H e=none:=fun e he=>(hf e he).1
  have hT:H s.heap.objs.size=none:=I.fresh;refine enumL_item e1 j1 (pt.isList) (x:=u) (by simpa using hu) hzi fun g z1 m1 tp sz kk=>⟨_,rfl,?_⟩
  refine wpAny_letOwnedTupleGo_enum z1 fun g2 z2 s2=>?_
  have s2:cx z g g2:=s2;have k2:∀ e o,e ∉ [z,i1]→s.heap.get? e=some o→g2.get? e=some o:=fun e o hn h=>by
   simp only [aI,cn,or_false,not_or] at hn;exact s2.extBut _ _ hn.1 (kk e o hn.1 hn.2 h)
  have zlt:z<s.heap.objs.size:=aL e1;have tp2:g2.get? s.heap.objs.size=some { cls:= .type "tuple",data:= .seq #[.int i s.toks,u] }:=s2.extBut _ _ (dv zlt) tp;have trk:∀ e o,H e=some o→e ∉ [z,i1]:=fun e o he hm=>by rw [nz e hm] at he;cases he
  have I':=I.tok (s.toks+1);have J:Inv X aR σ (upd H s.heap.objs.size (.tup [.int (i:Nat),x])) { s with heap:=g2,toks:=s.toks+1 }:=by
   refine I'.turnAll (ch:=[z,i1]) (fun e he=>hf e he) k2 (fun e o h=>by rw [br (bC h hT)];exact h) (fun e o h n=>by rw [br (bI (aL h))];exact n) fun e o h=>?_
   by_cases q:e=s.heap.objs.size
   ·subst q
    rw [aQ] at h;cases h;exact ⟨by show 2≤aZ;decide,[.int i s.toks,u],.cons ⟨_,rfl⟩ (.cons ru .nil),_,tp2,rfl,rfl,_,rfl⟩
   ·rw [br q] at h
    refine (I.hok e o h).stay (fun c v hc' q'=>k2 c v (by
     rcases hc' with z' | z'
     ·rw [z'];exact trk e o h
     ·exact trk c _ z') q') (fun c q'=>by rw [br (bC q' hT)];exact q') fun c xs q'=>by rw [br (bC q' hT)];exact q'
  refine ⟨.ref s.heap.objs.size,_,J,rfl,⟨_,x,hT,rfl,rfl,fun xs' h'=>by rw [ha] at h';cases h';exact hx⟩,⟨⟨u,z2⟩,m1.extBut s2.extBut hzi.symm⟩,fun e he=>?_⟩;obtain ⟨o4,q4,_⟩:=j1;have hlt:e<s.heap.objs.size:=by
   simp only [aI,cn,or_false] at he
   rcases he with rfl | rfl
   ·exact aL e1
   ·exact aL q4
  rw [br (bI hlt)];exact nz e he
 done:=by
  intro X hP hw hK hc i aR s σ H E I hf st hg;subst hP hw hK;obtain ⟨xs,ha,hx⟩:=hg;obtain ⟨⟨was,e1⟩,j1⟩:=st;obtain ⟨its,rv,pt,_⟩:=I.list (SqL.of (K:=X.K) ha);obtain ⟨f0,f1,f2,f3,f4,f5⟩:=hf i1 (by simp);have hl:=rv.length;exact enumL_end (I.ok.hd hc) e1 j1 (pt.isList) (by simp;lia) fun g kp=>⟨rfl,I.turned (t':=s.toks) (fun b o hb e=>kp b o hb e) f0 f1 f3 f4 f5⟩
 self:=fun _ _ _ _ _ st h=>let ⟨⟨_,e1⟩,_⟩:=st;wpAny_pyIter_enum e1 h
def iEnumL (ta:TA):TI:=fun σ H R=>ta σ H fun vs H1=>∃ a xs,vs=[.ref a]∧H1 a=some (.lst xs)∧R (ItL a) H1
theorem pi_enumL {ta:TA}{p:Pos}{k0}{pt:Pos}(hg:Gl X "enumerate")(hm:X.mg "enumerate" =none)(ha:PA X [ea] ta)(hs:bB [ea] X.env=[(false,eK ea X.env)]:=by rfl) :
  PI X (.Tuple es k0 pt) (.Call (.Name "enumerate" p) [ea] [] pos) (iEnumL ta):=by
 intro aR s σ H R I h;refine Call_ (nk I hg hm boot_enumerate (ft (thn (ha pos aR s σ H _ I h) fun us s1 ⟨vs,H1,I1,r1,q1⟩=>?_) hs rfl));obtain ⟨a,xs,e,hA,q⟩:=q1;subst e;obtain ⟨u1,rfl,r2⟩:=mP r1;cases (show u1=ae.ref a from r2);obtain ⟨its,rv,pt',_⟩:=I1.list (SqL.of (K:=X.K) hA);refine call_enumL (pt'.isList) fun g z1 j1 sz kk=>?_
 refine wpAny_pyIter_enum z1 ⟨s1.heap.objs.size+1,[s1.heap.objs.size+1,s1.heap.objs.size],_,ItL a,H1,rfl,I1.kept (t':=s1.toks) kk,turn_enumL a (by show @Ne Nat _ _;lia),⟨⟨_,z1⟩,j1⟩,fun e he=>?_,q⟩;have hge:s1.heap.objs.size≤e:=by
  simp only [aI,cn,or_false] at he
  rcases he with rfl | rfl <;> (show @LE.le Nat _ _ _;lia)
 exact I1.fpOk hge (I1.hok.fresh hge)
theorem for_enumL {tb:TS}{D:kG}(Pv:Nat→St→Hp→Prop)(h0:Pv 0 σ H)(hl:∀ i σ H,i≤xs.length→Pv i σ H→H a=some (.lst xs))
  (hs:∀ i x p σ H,xs[i]? =some x→Pv i σ H→H p=none→g (.ref p) σ (upd H p (.tup [.int (i:Nat),x])) fun σ2 H2=>tb { D with nx:=Pv (i+1),ct:=Pv (i+1),bk:=D.nx } σ2 H2) (hd:∀ σ H,Pv xs.length σ H→D.nx σ H) :
  ∃ W:Nat→Nat→St→Hp→Prop,(∃ m,W 0 m σ H)∧∀ i m σ H,W i m σ H →
   ((ItL a).stop i H∧D.nx σ H)∨((ItL a).go i H∧∃ N:St→Hp→Prop,(∀ σ' H',N σ' H'→∃ m',m'<m∧W (i+1) m' σ' H')∧∀ x H',(ItL a).yld i H x H'→g x σ H' fun σ2 H2=>tb { D with nx:=N,ct:=N,bk:=D.nx } σ2 H2):=by
 refine ⟨fun i m σ H=>i≤xs.length∧m=xs.length - i∧Pv i σ H,⟨_,bg _,rfl,h0⟩,fun i m σ H ⟨hi,hm,hp⟩=>?_⟩;have qa:=hl i σ H hi hp
 by_cases e:i=xs.length
 ·subst e
  exact .inl ⟨⟨xs,qa,aA _⟩,hd σ H hp⟩
 ·have hlt:i<xs.length:=dI hi e
  refine .inr ⟨⟨xs,_,qa,gE hlt⟩,Pv (i+1),fun σ' H' hp'=>⟨xs.length - (i+1),by lia,by lia,rfl,hp'⟩,fun v H3 hy=>?_⟩;obtain ⟨p,x,hn,rfl,rfl,hx⟩:=hy;exact hs i x p σ H (hx xs qa) hp hn
end L2
namespace HN
open PySem L2 PyProof.Rows
abbrev sParts:cJ:=top 56
def PtsD (H:Hp)(zs:List V)(fs:List Int):Prop:=∃ As:List aq,zs=As.map V.ref∧As.length=(j4 fs).length∧∀ (i:Nat) (f:Int) (A:aq),(j4 fs)[i]? =some f→As[i]? =some A→H A=some (.lst ((mJ fs f).map V.int))
inductive spParts (T:aq)(lp:Pos)(lq:Str)(vs:List V)(H:Hp)(Q:VK)(_:XK):Prop
 | mk (v:V)(b m:Int)(sp:List Sn)(_:vs=[v])(_:IsD H v (jA b m sp))(_:jD b m sp)(_:L2.LamT T lp lq H)(_:∀ (L:aq) (zs:List V) (fs:List Int) (H':Hp),L2.Tb T H H'→L2.LamT T lp lq H'→H' L=some (.lst zs)→PtsD H' zs fs→Lbl m.toNat sp fs→Q (.ref L) H')
def kvsF (hs:List Int)(As:List aq):List (Key×V):=List.zipWith (fun f A=>(Sum.inl f,V.ref A)) hs As
theorem kvsF_len (h:As.length=hs.length):(kvsF hs As).length=hs.length:=by unfold kvsF;rw [List.length_zipWith,h,Nat.min_self]
theorem kvsF_snd:∀ {hs:List Int} {As:List aq},As.length=hs.length→(kvsF hs As).map (·.2)=As.map V.ref
 | [],[],_=>rfl
 | _::_,[],h=>by cases h
 | [],_::_,h=>by cases h
 | f::hs,A::As,h=>by
  have:=kvsF_snd (hs:=hs) (As:=As) (by simpa using h);show V.ref A::(kvsF hs As).map (·.2)=_;rw [this];rfl
theorem kvsF_snoc:∀ {hs:List Int} {As:List aq} {f:Int} {A:aq},As.length=hs.length→kvsF (hs++[f]) (As++[A])=kvsF hs As++[(.inl f,.ref A)]
 | [],[],_,_,_=>rfl
 | _::_,[],_,_,h=>by cases h
 | [],_::_,_,_,h=>by cases h
 | g::hs,B::As,f,A,h=>by
  have:=kvsF_snoc (hs:=hs) (As:=As) (f:=f) (A:=A) (by simpa using h);show (Sum.inl g,V.ref B)::kvsF (hs++[f]) (As++[A])=_;rw [this];rfl
theorem kvsF_no:∀ {hs:List Int} {As:List aq} {f:Int},f ∉ hs→k3 (kvsF hs As) (.inl f)=none
 | [],_,_,_=>rfl
 | _::_,[],_,_=>rfl
 | g::hs,B::As,f,h=>by
  show k3 ((Sum.inl g,V.ref B)::kvsF hs As) (.inl f)=none;rw [gv (fun z=>h (by injection z with z;rw [z];simp))];exact kvsF_no fun z=>h (az _ z)
theorem kvsF_at:∀ {hs:List Int} {As:List aq} {f:Int} {A:aq} {i:Nat},hs.Nodup→hs[i]? =some f→As[i]? =some A→k3 (kvsF hs As) (.inl f)=some (.ref A)
 | [],_,_,_,_,_,h,_=>by cases h
 | _::_,[],_,_,_,_,_,h=>by cases h
 | g::hs,B::As,f,A,0,_,h,k=>by
  cases h;cases k;exact gZ rfl
 | g::hs,B::As,f,A,i+1,nd,h,k=>by
  have nd:=bz.mp nd;have h:hs[i]? =some f:=h;show k3 ((Sum.inl g,V.ref B)::kvsF hs As) (.inl f)=_;rw [gv (fun z=>nd.1 (by injection z with z;rw [z];exact aP h))];exact kvsF_at nd.2 h k
theorem frst_lt (F:i7 m sp l):∀ i∈l,i<sp.length:=fun i hi=>by
 obtain ⟨_,π,O,pm⟩:=F
 rcases (jU sp π (jK m,[])).1 i (pm.mem_iff.mp hi) with z | z
 ·cases z
 ·exact O.lt z
theorem nodup_at {A:aq}{k:Nat}(nd:As.Nodup)(h:As[j]? =some A)(g:As[k]? =some A):j=k:=by
 obtain ⟨h1,h2⟩:=ao.mp h;obtain ⟨g1,g2⟩:=ao.mp g;exact (jG nd).mp (h2.trans g2.symm)
theorem idxF_no {fs:List Int}{f:Int}(h:f ∉ fs):mJ fs f=[]:=jH.mpr fun z hz=>by
 obtain ⟨a,c,d⟩:=ka.mp hz;exact h (d ▸ n5 a c)
theorem nq {T:aq}(k:L2.LamT T lp lq H)(hT:∀ ps,H T=some (.tbl ps)→H' T=some (.tbl ps))(hf:∀ a o u,H a=some (.frz o u)→H' a=some (.frz o u)):L2.LamT T lp lq H':=by
 rcases k with k | ⟨c,k,oc,vs,t,e,r⟩
 ·exact .inl (hT _ k)
 ·exact .inr ⟨c,hT _ k,oc,vs,t,hf _ _ _ e,r⟩
theorem nP:bY ["net","firsts","step","parts","happening","first"] pza (defScope sParts):=by trivial
theorem ok_parts (F:Fun K "parts_of" "parts_of" sParts f fd)(T:Nm mg)(T2:Nt mg)(G1:Fn K mg "spread_of" sSpread pza f1 fd1)(F1:cM P w K mg base CX0 7 f1 fd1 pza (spSpread Tb0 lp lq))(G2:Fn K mg "leads_to" sTo pzc f2 fd2)(G3:Fn K mg "leads_from" sFrom pzc f3 fd3):cM P w K mg base CX0 8 f fd pza (spParts Tb0 lp lq):=by
 have F2:cM P w K mg base CX0 1 f2 fd2 pzc spTo:=ok_to G2.F;have F3:cM P w K mg base CX0 1 f3 fd3 pzc p9:=pf G3.F;refine F.ok nP (by contradiction) (fun cdv A outer s H vs Q E hr h=>?_);obtain ⟨v,b,m,sp,rfl,hv,N,hT,k⟩:=h;have hr1:gN 1 _:=hr.mono (by decide);obtain ⟨t,p,ys,rfl,ht,hp,hl,hy⟩:=fm hv;refine ⟨_,PSl.h (aY ⟨(psZ 1 nP.nd (eU (qG rfl) rfl T2.tlist boot_list (af (eU pO rfl T2.range boot_range (af (ixZ (pv 0)) aD)) aD)))⟩
  (aY ⟨(ib bE rfl (gg (pc1 G1 F1 hr (af (pv 0) aD))) (pgZ 2 nP.nd) (cy (og (eJ gB (pv 1) (pc1 G3 F3 hr1 (af (pv 0) (af (pv 2) aD))) (fun _ _=>rfl)) (qj (pv 1) (pc1 G2 F2 hr1 (af (pv 0) (af (pv 2) aD))) lQ))))⟩
  (aY ⟨(psZ 3 nP.nd pe_dnewK)⟩
  (aY ⟨(ib bE rfl (pi_enumL rfl T2.enum (af (pv 1) aD)) (pg_tup rfl (iZ (pgZ 4 nP.nd) (iZ (pgZ 5 nP.nd) o8))) (cy (gL (lh bc bP bO fH (pe_dsetd (pv 3) (pv 5) (iQ aD) ⟨rfl,rfl,rfl,rfl⟩) (af (pv 4) aD)))))⟩
  (cP ⟨(cf (eU (call_listV rfl) rfl T2.tlist boot_list (af (pe_dvals (pv 3) ⟨rfl,rfl,rfl,rfl⟩) aD)))⟩))))),?_⟩
 have m1:=N.m1;have m2:=N.m2;have em:((m.toNat:Nat):Int)=m:=fJ (by lia);refine ⟨_,rfl,t,_,_,_,rfl,rfl,SqT.of ht,aO (j:=1) rfl,m,rfl,fun q0 H0 S0 h0=>?_⟩;refine ⟨q0,m.toNat,rfl,by rw [h0,em],by lia,fun L1 hL1=>?_⟩;have nL1:H L1=none:=S0.free hL1;have S1:bH H (upd H0 L1 (.lst ((aF m.toNat).map fun k=>V.int (k:Nat)))):=S0.put hL1;have h1:(upd H0 L1 (.lst ((aF m.toNat).map fun k=>V.int (k:Nat)))) L1=some (.lst ((jK m.toNat).map V.int)):=by
  rw [aQ];unfold jK;rw [c9];rfl
 generalize upd H0 L1 (.lst ((aF m.toNat).map fun k=>V.int (k:Nat)))=H1 at S1 h1 ⊢;refine ⟨_,rfl,.ref t,b,m,sp,rfl,hv.same S1,N,LamT.same S1 hT,fun LS zS l S H2 tb2 hT2 hLS1 hLS dS fr ok=>?_⟩;have lz:zS.length=S.length:=by rw [dS.length];unfold cW;rw [aa]
 obtain ⟨ps,eT⟩:=LamT.tbl (LamT.same S1 hT);have nT:∀ {a:aq} {o:HO},H1 a=some o→(∀ ps,o≠ .tbl ps)→a≠Tb0:=fun e n z=>by rw [z,eT] at e;exact n _ (bG e).symm
 have h2:H2 L1=some (.lst ((jK m.toNat).map V.int)):=tb2 _ _ (nT h1 (fun _ z=>by cases z)) h1;have K12:jL H1 H2:=fun a xs e=>tb2 _ _ (nT e (fun _ z=>by cases z)) e
 have hv2:IsD H2 (.ref t) (jA b m sp):=cO K12 (hv.same S1);have ht2:=K12 _ _ (S1 _ _ ht);have nLS:LS≠L1:=fun z=>by rw [z,h1] at hLS1;cases hLS1
 have E:=N.ends;have hin:∀ s∈S,s.i<sp.length:=fun s hs=>frst_lt fr _ (ok.inn s hs).1
 have len:∀ j,((S.take j).foldl (setF sp) (jK m.toNat)).length=m.toNat:=fun j=>by rw [setF_len,ke]
 refine ⟨LS,rfl,⟨_,SqL.of hLS⟩,?_⟩;refine jh (K:=K) (a:=LS) (xs:=zS) (fun j σ HD=>(∀ a o,a≠L1→H2 a=some o→HD a=some o)∧HD L1=some (.lst (((S.take j).foldl (setF sp) (jK m.toNat)).map V.int))∧∃ w2,σ=[some (.ref t),some (.ref L1),w2,none,none,none]) ⟨fun _ _ _ e=>e,h2,none,rfl⟩ (fun j σ HD _ ⟨h,_⟩=>SqL.of (h _ _ nLS hLS)) ?_ ?_
 ·rintro j y σ HD hy' ⟨KD,hD,w2,rfl⟩
  have hj:j<S.length:=by have:=(ao.mp hy').1;lia
  have hsj:=gE hj;obtain ⟨y',hy2,dy⟩:=dS.at (i:=j) (d:= .tup ((Stp.row S[j]).map Dt.int)) (by unfold cW;rw [ay,hsj];rfl);rw [hy'] at hy2;cases hy2;obtain ⟨q,qs,rfl,hq,rq⟩:=dy.tup_of;have eq:=rq.ints_of;subst eq;have fold:(S.take (j+1)).foldl (setF sp) (jK m.toNat)=setF sp ((S.take j).foldl (setF sp) (jK m.toNat)) S[j]:=by
   rw [bj,hsj,b9];rfl
  rw [fold];have lj:=len j;generalize (S.take j).foldl (setF sp) (jK m.toNat)=ts at hD lj ⊢;have hinj:=hin _ (ba hj);generalize S[j]=st at hq hinj;obtain ⟨f0,f1'⟩:=frmS_rng E hinj;obtain ⟨t0,t1⟩:=jf E hinj;have hat:∀ z:Int,0≤z→z<m.toNat→(ts.map V.int)[z.toNat]? =some (V.int (tm ts z)):=fun z z0 z1=>by
   rw [ay,gE (by lia:z.toNat<ts.length)];unfold tm;rw [ai,gE (by lia:z.toNat<ts.length)];rfl
  have KT:jL H2 HD:=fun a xs e=>KD a _ (fW e h2 nofun) e
  have hvD:=cO KT hv2;have hqD:=KT _ _ hq;refine ⟨_,rfl,_,rfl,_,rfl,.ref t,q,b,m,sp,st,sAt sp st.i,rfl,hvD,hqD,i8 hinj,?_⟩;rw [(kI hinj).2];refine ⟨L1,_,_,_,rfl,rfl,SqL.of hD,atI_int f0 (hat _ f0 f1'),?_⟩;refine ⟨_,rfl,_,rfl,_,rfl,.ref t,q,b,m,sp,st,sAt sp st.i,rfl,hvD,hqD,i8 hinj,?_⟩;rw [(kI hinj).1];refine ⟨L1,_,_,_,rfl,rfl,hD,ixN_int t0 (by rw [aa];lia),?_⟩;rw [map_set];exact ⟨fun a o n e=>by rw [br n];exact KD _ _ n e,aQ,_,rfl⟩
 rintro σ HD ⟨KD,hD,w2,rfl⟩;rw [lz,bq] at hD;have lb:Lbl m.toNat sp (fstS sp m.toNat S):=Lbl.of E fr ok (frst_lt fr);have hD:HD L1=some (.lst ((fstS sp m.toNat S).map V.int)):=hD;have lF:=lb.len;generalize fstS sp m.toNat S=fs at hD lb lF;refine fun Da hDa=>?_
 have nDL:Da≠L1:=fun z=>by rw [z,hD] at hDa;cases hDa
 have S3:bH HD (upd HD Da (.dK [])):=(bH.refl HD).put hDa;have e3:(upd HD Da (.dK [])) Da=some (.dK []):=aQ;have h3:=S3 _ _ hD;generalize upd HD Da (.dK [])=H3 at S3 e3 h3 ⊢;refine ⟨_,rfl,L1,_,rfl,h3,?_⟩;refine for_enumL (a:=L1) (xs:=fs.map V.int) (fun i σ HE=>(∀ a o,a≠Da→H3 a=some o→HE a=some o)∧(∃ As:List aq,HE Da=some (.dK (kvsF (j4 (fs.take i)) As))∧As.length=(j4 (fs.take i)).length∧As.Nodup∧(∀ A∈As,H3 A=none)∧∀ (j:Nat) (f:Int) (A:aq),(j4 (fs.take i))[j]? =some f→As[j]? =some A→HE A=some (.lst ((mJ (fs.take i) f).map V.int)))∧∃ w4 w5,σ=[some (.ref t),some (.ref L1),w2,some (.ref Da),w4,w5]) ⟨fun _ _ _ e=>e,⟨[],e3,rfl,jk,fun _ h=>(by cases h),fun _ _ _ h=>(by cases h)⟩,none,none,rfl⟩ (fun i σ HE _ ⟨h,_⟩=>h _ _ (dB nDL) h3) ?_ ?_
 ·rintro i x p σ HE hx ⟨KE,⟨As,eDa,lA,ndA,frA,hA⟩,w4,w5,rfl⟩ hp0
  rw [ay] at hx;obtain ⟨f,hf,rfl⟩:=aS.mp hx;have hi:i<fs.length:=(ao.mp hf).1;have li:(fs.take i).length=i:=by rw [bK];lia
  have et:fs.take (i+1)=fs.take i++[f]:=by rw [bj,hf];rfl
  have SE:bH HE (upd HE p (.tup [.int (i:Nat),.int f])):=(bH.refl HE).put hp0;have ep:(upd HE p (.tup [.int (i:Nat),.int f])) p=some (.tup [.int (i:Nat),.int f]):=aQ;generalize upd HE p (.tup [.int (i:Nat),.int f])=HF at SE ep ⊢;refine ⟨p,_,rfl,SqT.of ep,rfl,_,_,rfl,_,_,rfl,rfl,?_⟩;refine ⟨_,rfl,Da,rfl,.inl ⟨_,.inl (SE _ _ eDa)⟩,_,rfl,bg _,fun Ln hLn=>?_⟩;have hLE:HE Ln=none:=SE.free hLn;have SG:bH HE (upd HF Ln (.lst [])):=SE.put hLn;have eLn:(upd HF Ln (.lst [])) Ln=some (.lst []):=aQ;generalize upd HF Ln (.lst [])=HG at SG eLn ⊢;have few:(j4 (fs.take i)).length≤16:=by
   have:=lG (ky (fs.take i)) fun z hz=>(lW _).mp hz
   lia
  have nLD:Ln≠Da:=fun z=>by rw [z,eDa] at hLE;cases hLE
  have app:∀ (A:aq) (HI:Hp),(∀ a o,a≠Da→HE a=some o→HI a=some o)→∀ (As':List aq),HI Da=some (.dK (kvsF (j4 (fs.take i++[f])) As'))→As'.length=(j4 (fs.take i++[f])).length→As'.Nodup→(∀ A∈As',H3 A=none)→HI A=some (.lst ((mJ (fs.take i) f).map V.int))→A≠Da→H3 A=none→(∃ j:Nat,(j4 (fs.take i++[f]))[j]? =some f∧As'[j]? =some A)→(∀ (j:Nat) (g:Int) (B:aq),(j4 (fs.take i++[f]))[j]? =some g→As'[j]? =some B→B≠A→HI B=some (.lst ((mJ (fs.take i) g).map V.int))∧g≠f) →
    (∀ a o,a≠Da→H3 a=some o→(upd HI A (.lst ((mJ (fs.take i) f).map V.int++[.int (i:Nat)]))) a=some o)∧(∃ As:List aq,(upd HI A (.lst ((mJ (fs.take i) f).map V.int++[.int (i:Nat)]))) Da=some (.dK (kvsF (j4 (fs.take (i+1))) As))∧As.length=(j4 (fs.take (i+1))).length∧As.Nodup∧(∀ A∈As,H3 A=none)∧∀ (j:Nat) (g:Int) (B:aq),(j4 (fs.take (i+1)))[j]? =some g→As[j]? =some B→(upd HI A (.lst ((mJ (fs.take i) f).map V.int++[.int (i:Nat)]))) B=some (.lst ((mJ (fs.take (i+1)) g).map V.int))):=by
   intro A HI KI As' d1 d2 d3 d4 hAI nAD nA3 ⟨j0,a1,a2⟩ oth;rw [et];refine ⟨fun a o n e=>?_,As',by rw [br (dB nAD)];exact d1,d2,d3,d4,fun j g B hg hB=>?_⟩
   ·rw [br (fun z=>by rw [z,nA3] at e;cases e)]
    exact KI _ _ n (KE _ _ n e)
   ·by_cases z:B=A
    ·have eg:g=f:=by
      have:j=j0:=by
       have hj:=(ao.mp hB).1;have hj0:=(ao.mp a2).1;rw [z] at hB;exact nodup_at d3 hB a2
      rw [this,a1] at hg;exact (bG hg).symm
     rw [z,aQ,eg,idxF_snoc,qL rfl,aE,li];rfl
    ·obtain ⟨o1,o2⟩:=oth j g B hg hB z
     rw [br z,idxF_snoc,qK (fun q=>o2 q.symm)];exact o1
  refine ⟨_,.inl f,SG _ _ eDa,rfl,aU (by rw [kvsF_len lA];lia:_<1000) (by decide:1000≤aZ),fun v hv=>?_,fun hn=>?_⟩
  ·by_cases mem:f∈j4 (fs.take i)
   ·obtain ⟨j,hj,ej⟩:=cu mem
    have ej:(j4 (fs.take i))[j]? =some f:=by rw [gE hj,ej]
    have hjA:j<As.length:=by lia
    have eA:=gE hjA;rw [kvsF_at (ky _) ej eA] at hv;cases hv;have hAE:=hA j f _ ej eA;have hAG:=SG _ _ hAE;have nAD:As[j]≠Da:=fun z=>by rw [z,eDa] at hAE;cases hAE
    refine ⟨.inl ⟨rfl,_,SqL.of hAG⟩,_,rfl,As[j],_,_,rfl,rfl,hAG,?_,?_⟩
    ·have:(mJ (fs.take i) f).length≤16:=by unfold mJ;rw [aa];exact aM (cV _ _) (by rw [bh];lia)
     rw [aa];exact aU (by lia:_<1000) (by decide:1000≤aZ)
    ·have eh:j4 (fs.take i++[f])=j4 (fs.take i):=by rw [nv,qL mem]
     obtain ⟨r1,r2⟩:=app As[j] HG (fun a o _ e=>SG _ _ e) As (by rw [eh];exact SG _ _ eDa) (by rw [eh];exact lA) ndA frA hAG nAD (frA _ (ba hjA)) ⟨j,by rw [eh];exact ej,eA⟩ (fun j' g B hg hB nB=>by
      rw [eh] at hg;refine ⟨SG _ _ (hA j' g B hg hB),fun z=>nB ?_⟩;have:j'=j:=by
       rw [z] at hg;obtain ⟨h1,h2⟩:=ao.mp hg;obtain ⟨g1,g2⟩:=ao.mp ej;exact (jG (ky _)).mp (h2.trans g2.symm)
      rw [this,eA] at hB;exact (bG hB).symm)
     exact ⟨r1,r2,_,_,rfl⟩
   ·rw [kvsF_no mem] at hv;cases hv
  ·have mem:f ∉ j4 (fs.take i):=fun mem=>by
    obtain ⟨j,hj,ej⟩:=cu mem;have ej:(j4 (fs.take i))[j]? =some f:=by rw [gE hj,ej]
    rw [kvsF_at (ky _) ej (gE (by lia:j<As.length))] at hn;cases hn
   have eh:j4 (fs.take i++[f])=j4 (fs.take i)++[f]:=by rw [nv,qK mem]
   have ei:mJ (fs.take i) f=[]:=idxF_no fun z=>mem ((lW _).mpr z)
   rw [putK_new _ hn,←kvsF_snoc lA,←eh];have hH3:H3 Ln=none:=by
    cases z:H3 Ln with
    | none=>rfl
    | some o=>rw [KE _ _ nLD z] at hLE;cases hLE
   have inA:∀ B∈As,∃ o,HE B=some o:=fun B hB=>by
    obtain ⟨j,hj,ej⟩:=cu hB;exact ⟨_,hA j _ B (gE (by lia:j<(j4 (fs.take i)).length)) (by rw [gE hj,ej])⟩
   have nLA:Ln ∉ As:=fun z=>by
    obtain ⟨o,e⟩:=inA _ z;rw [hLE] at e;cases e
   have eLI:(upd HG Da (.dK (kvsF (j4 (fs.take i++[f])) (As++[Ln])))) Ln=some (.lst ((mJ (fs.take i) f).map V.int)):=by rw [br nLD,ei];exact eLn
   refine ⟨.inl ⟨rfl,_,SqL.of eLI⟩,_,rfl,Ln,_,_,rfl,rfl,eLI,(by rw [ei];show 0<aZ;decide),?_⟩;obtain ⟨r1,r2⟩:=app Ln _ (fun a o n e=>by rw [br n];exact SG _ _ e) (As++[Ln]) aQ (by rw [eh,ar,ar,lA];rfl) (nd_snoc ndA nLA) (fun A h=>by
    rcases aH.mp h with h | h
    ·exact frA A h
    ·rw [av.mp h];exact hH3) eLI nLD hH3 ⟨(j4 (fs.take i)).length,by rw [eh,bu (aA _),gO];rfl,by rw [←lA,bu (aA _),gO];rfl⟩ (fun j g B hg hB nB=>by
     have hjl:j<As.length:=by
      have:=(ao.mp hB).1;rw [ar,d5] at this
      rcases Nat.lt_or_ge j As.length with z | z
      ·exact z
      ·exfalso
       have:j=As.length:=by lia
       rw [this,bu (aA _),gO] at hB;exact nB (bG hB).symm
     rw [cN hjl] at hB;rw [eh,cN (by lia)] at hg;have hBE:=hA j g B hg hB;refine ⟨?_,fun z=>mem (by rw [←z];exact aP hg)⟩;rw [br (fun z=>by rw [z,eDa] at hBE;cases hBE)];exact SG _ _ hBE)
   exact ⟨r1,r2,_,_,rfl⟩
 rintro σ HE ⟨KE,⟨As,eDa,lA,ndA,frA,hA⟩,w4,w5,rfl⟩;rw [aa,bq] at eDa lA hA;refine ⟨_,rfl,Da,_,rfl,eDa,fun r hr=>⟨r,Da,_,rfl,aQ,by rw [br (bC eDa hr)];exact eDa,fun L hL=>?_⟩⟩;have S4:bH HE (upd (upd HE r (isVV r Da)) L (.lst ((kvsF (j4 fs) As).map (·.2)))):=((bH.refl HE).put hr).put hL;have e4:(upd (upd HE r (isVV r Da)) L (.lst ((kvsF (j4 fs) As).map (·.2)))) L=some (.lst (As.map V.ref)):=by rw [aQ,kvsF_snd lA]
 generalize upd (upd HE r (isVV r Da)) L (.lst ((kvsF (j4 fs) As).map (·.2)))=H4 at S4 e4 ⊢;have keep2:∀ a o,a≠L1→H2 a=some o→H4 a=some o:=fun a o n e=>by
  have e3':=S3 _ _ (KD _ _ n e);exact S4 _ _ (KE _ _ (fun z=>by have q:=KD _ _ n e;rw [z,hDa] at q;cases q) e3')
 refine k L _ fs H4 (fun a o n e=>keep2 a o (fun z=>by rw [z,nL1] at e;cases e) (tb2 _ _ n (S1 _ _ e))) (nq hT2 (fun ps e=>keep2 _ _ (fun z=>by rw [z,h2] at e;cases e) e) fun a o u e=>keep2 _ _ (fun z=>by rw [z,h2] at e;cases e) e) e4 ⟨As,rfl,lA,fun i f A h1 h2=>S4 _ _ (hA i f A h1 h2)⟩ lb
abbrev sShifts:cJ:=top 57
abbrev sMvP:cJ:=top 58
abbrev sHeldF:cJ:=top 59
def shM (b:Int)(ts us:List Int):List Int:=List.zipWith (fun t u=>(t - u) % b) ts us
theorem shM_len {us:List Int}(h:us.length=ts.length):(shM b ts us).length=ts.length:=by unfold shM;rw [List.length_zipWith,h,Nat.min_self]
theorem shM_tm {us:List Int}(h:us.length=ts.length){k:Int}(h0:0≤k)(h1:k<ts.length):tm (shM b ts us) k=(tm ts k - tm us k) % b:=by
 have h2:k.toNat<ts.length:=by lia
 have h3:k.toNat<us.length:=by lia
 unfold tm shM;rw [ai,ai,ai,List.getElem?_zipWith,gE h2,gE h3];rfl
inductive spShifts (vs:List V)(H:Hp)(Q:VK)(_:XK):Prop
 | mk (v:V)(u1 u2:aq)(b m:Int)(sp:List Sn)(ts us:List Int)(_:vs=[v,.ref u1,.ref u2])(_:IsD H v (jA b m sp))(_:0<b)(_:H u1=some (.tup (ts.map V.int)))(_:H u2=some (.tup (us.map V.int)))(_:us.length=ts.length)(_:ts.length≤1000)(_:∀ (L:aq) (H':Hp),bH H H'→H L=none→H' L=some (.lst ((shM b ts us).map V.int))→Q (.ref L) H')
def setA (v:Int→Int)(l:List Int)(X:List Int):List Int:=l.foldl (fun X z=>X.set z.toNat (v z)) X
theorem setA_len {v:Int→Int}:∀ (l X:List Int),(setA v l X).length=X.length
 | [],_=>rfl
 | z::l,X=>by
  show (setA v l (X.set z.toNat (v z))).length=_;rw [setA_len l,e8]
theorem setA_tm {v:Int→Int}{k:Int}(k0:0≤k):∀ (l X:List Int),(∀ z∈l,0≤z∧z<X.length)→tm (setA v l X) k=if k∈l then v k else tm X k
 | [],_,_=>by rw [qK (by simp)];rfl
 | z::l,X,h=>by
  obtain ⟨z0,z1⟩:=h z (by simp);show tm (setA v l (X.set z.toNat (v z))) k=_;rw [setA_tm k0 l _ (fun y hy=>by rw [e8];exact h y (az _ hy)),l6 z0 z1 k0]
  by_cases e:k∈l
  ·rw [qL e,qL (az _ e)]
  ·rw [qK e]
   by_cases q:k=z
   ·rw [qL q,qL (by rw [q];simp),q]
   ·rw [qK q,qK (fun y=>(aI.mp y).elim q e)]
theorem setA_snoc {v:Int→Int}{l X:List Int}:setA v (l++[z]) X=(setA v l X).set z.toNat (v z):=by unfold setA;rw [b9];rfl
inductive spMvP (vs:List V)(H:Hp)(Q:VK)(_:XK):Prop
 | mk (v:V)(p u q:aq)(b m:Int)(sp:List Sn)(zs:List V)(fs ts:List Int)(g:Int→Int)(_:vs=[v,.ref p,.ref u,.ref q])(_:IsD H v (jA b m sp))(_:0<b)(_:H p=some (.lst zs))(_:PtsD H zs fs)(_:H u=some (.tup (ts.map V.int)))(_:fs.length=ts.length)(_:ts.length≤1000)(_:H q=some (.lst (((j4 fs).map g).map V.int)))(_:∀ (r:aq) (H':Hp) (X:List Int),bH H H'→H' r=some (.tup (X.map V.int))→X.length=ts.length→(∀ k:Int,0≤k→k<ts.length→tm X k=(tm ts k+g (tm fs k)) % b)→Q (.ref r) H')
def hdF (fs:List Int)(f:Int):Int:=(mJ fs f).headD 0
theorem idxF_hd {fs:List Int}{f:Int}(h:f∈j4 fs):(mJ fs f)[0]? =some (hdF fs f)∧0≤hdF fs f∧hdF fs f<fs.length∧tm fs (hdF fs f)=f:=by
 have h:=(lW fs).mp h;obtain ⟨i,hi,e⟩:=cu h;have m0:((i:Nat):Int)∈mJ fs f:=ka.mpr ⟨by lia,by lia,by unfold tm;rw [cI,ai,gE hi];exact e⟩;unfold hdF;cases e2:mJ fs f with
 | nil=>rw [e2] at m0;cases m0
 | cons a l=>exact ⟨rfl,ka.mp (by rw [e2];exact bJ)⟩
inductive spHeldF (vs:List V)(H:Hp)(Q:VK)(_:XK):Prop
 | mk (v:V)(p u1 u2:aq)(b m:Int)(sp:List Sn)(zs:List V)(fs ts us:List Int)(_:vs=[v,.ref p,.ref u1,.ref u2])(_:IsD H v (jA b m sp))(_:0<b)(_:H p=some (.lst zs))(_:PtsD H zs fs)(_:H u1=some (.tup (ts.map V.int)))(_:H u2=some (.tup (us.map V.int)))(_:us.length=ts.length)(_:fs.length=ts.length)(_:ts.length≤1000)(_:∀ (r:aq) (H':Hp) (X:List Int),bH H H'→H' r=some (.tup (X.map V.int))→X.length=ts.length→(∀ k:Int,0≤k→k<ts.length→tm X k=(tm us k+(tm ts (hdF fs (tm fs k)) - tm us (hdF fs (tm fs k))) % b) % b)→Q (.ref r) H')
theorem scShifts:bY pzq pzq (defScope sShifts):=by trivial
theorem ok_shifts (F:Fun K "shifts_between" "shifts_between" sShifts f fd)(T2:Nt mg)(G1:Fn K mg "rest_by" sRest pzj f1 fd1):cM P w K mg base CX0 2 f fd pzq spShifts:=by
 have F1:cM P w K mg base CX0 1 f1 fd1 pzj spRest:=ok_rest G1.F;refine F.ok scShifts (by contradiction) (fun cdv A outer s H vs Q E hr h=>?_);obtain ⟨v,u1,u2,b,m,sp,ts,us,rfl,hv,b0,h1,h2,lu,few,k⟩:=h;obtain ⟨t,p,ys,rfl,ht,hp,hl,hy⟩:=fm hv;refine ⟨_,PSl.h (cP ⟨(cf (pe_compT (xs:=["time","base"]) (fr:=pza) (js:=[0]) rfl (pi_zip2 rfl T2.zip (af (pv 1) (af (pv 2) aD))) (by trivial) rfl (by trivial) (by exists sShifts) rfl (by trivial) (fun _ _ _ _ _=>pg_two rfl (by trivial) rfl rfl) (fun _ _ _ _ _=>⟨(pc1 G1 F1 hr (af (eJ (r:=rIxT K) eD (pv 2) bD (fun _ _=>rfl)) (af (cU i0 (pv 0) (pv 1)) aD))),gT⟩)))⟩),?_⟩;refine ⟨_,rfl,_,rfl,⟨false,u1⟩,⟨false,u2⟩,_,_,rfl,h1,h2,?_⟩;refine compT_zip2 (K:=K) (c1:=⟨false,u1⟩) (c2:=⟨false,u2⟩) (xs:=ts.map V.int) (ys:=us.map V.int) (fun i zs H2=>bH H H2∧zs=((shM b ts us).take i).map V.int) ⟨bH.refl H,rfl⟩ (fun i zs H2 hi ⟨S2,e2⟩=>⟨S2 _ _ h1,S2 _ _ h2,?_⟩) (by rw [aa,aa,lu]) (by rw [aa];exact eQ few) (fun i x y zs pz H2 hx hx' ⟨S2,e2⟩ hpz=>?_) (fun zs H2 ⟨S2,e2⟩ D hD=>?_)
 ·rw [e2,aa,bK];lia
 ·rw [ay] at hx hx'
  obtain ⟨x,ex,rfl⟩:=aS.mp hx;obtain ⟨y,ey,rfl⟩:=aS.mp hx';have S3:bH H (upd H2 pz (.tup [.int x,.int y])):=S2.put hpz;generalize upd H2 pz (.tup [.int x,.int y])=H3 at S3 ⊢;refine gc ?_;refine ⟨_,rfl,t,_,_,_,rfl,rfl,SqT.of (S3 _ _ ht),aO (j:=0) rfl,_,rfl,_,rfl,_,_,rfl,rfl,b,_,rfl,b0,S3,?_⟩;have e3:(shM b ts us)[i]? =some ((x - y) % b):=by unfold shM;rw [List.getElem?_zipWith,ex,ey]
  rw [e2,bj,e3,aE];rfl
 ·rw [aa,←shM_len (b:=b) lu,bq] at e2
  rw [e2];exact k D _ (S2.put hD) (S2.free hD) aQ
theorem scMvP:bY ["net","parts","table","shifts","times","part","shift","happening"] pzs (defScope sMvP):=by trivial
theorem ok_mvP (F:Fun K "moved_in_parts" "moved_in_parts" sMvP f fd)(T:Nm mg)(T2:Nt mg)(G1:Fn K mg "rest_by" sRest pzj f1 fd1):cM P w K mg base CX0 2 f fd pzs spMvP:=by
 have F1:cM P w K mg base CX0 1 f1 fd1 pzj spRest:=ok_rest G1.F;refine F.ok scMvP (by contradiction) (fun cdv A outer s H vs Q E hr h=>?_);obtain ⟨v,p,u,q,b,m,sp,zs,fs,ts,g,rfl,hv,b0,hp,hz,hu,lf,few,hq,k⟩:=h;obtain ⟨t,pp,ys,rfl,ht,hpp,hl,hy⟩:=fm hv;obtain ⟨As,rfl,lA,hA⟩:=hz;refine ⟨_,PSl.h (aY ⟨(psZ 4 scMvP.nd (eU oi rfl T2.tlist boot_list (af (pv 2) aD)))⟩
  (aY ⟨(ib bE rfl (pi_zip2 rfl T2.zip (af (pv 1) (af (pv 3) aD))) (pg_tup rfl (iZ (pgZ 5 scMvP.nd) (iZ (pgZ 6 scMvP.nd) o8))) (cy (ib bE rfl (gg (pv 5)) (pgZ 7 scMvP.nd) (cy (og (pc1 G1 F1 hr (af (ixZ (pv 0)) (af (cU gX (eJ eD (pv 2) (pv 7) (fun _ _=>rfl)) (pv 6)) aD))) (qj (pv 4) (pv 7) lQ))))))⟩
  (cP ⟨(cf (eU i3 rfl T.ttup iX (af (pv 4) aD)))⟩))),?_⟩
 refine ⟨_,rfl,u,_,rfl,.inr (SqT.of hu),fun L hL=>?_⟩;have S1:bH H (upd H L (.lst (ts.map V.int))):=(bH.refl H).put hL;have h1:(upd H L (.lst (ts.map V.int))) L=some (.lst (ts.map V.int)):=aQ;generalize upd H L (.lst (ts.map V.int))=H1 at S1 h1 ⊢;refine ⟨_,rfl,_,rfl,⟨true,p⟩,⟨true,q⟩,_,_,rfl,S1 _ _ hp,S1 _ _ hq,?_⟩;refine for_zip2 (c1:=⟨true,p⟩) (c2:=⟨true,q⟩) (xs:=As.map V.ref) (ys:=((j4 fs).map g).map V.int) (fun j σ H2=>bH H H2∧(∃ X:List Int,H2 L=some (.lst (X.map V.int))∧X.length=ts.length∧∀ k:Int,0≤k→k<ts.length→tm X k=if tm fs k∈(j4 fs).take j then (tm ts k+g (tm fs k)) % b else tm ts k)∧∃ v5 v6 v7,σ=[some (.ref t),some (.ref p),some (.ref u),some (.ref q),some (.ref L),v5,v6,v7]) ⟨S1,⟨ts,h1,rfl,fun k _ _=>by rw [qK (by simp)]⟩,none,none,none,rfl⟩ (fun i σ H2 _ ⟨S2,_⟩=>⟨S2 _ _ hp,S2 _ _ hq⟩) (by rw [aa,aa,aa,lA]) ?_ ?_
 ·rintro j x y pz σ H2 hx hx' ⟨S2,⟨X,hX,lX,eX⟩,v5,v6,v7,rfl⟩ hpz
  rw [ay] at hx;obtain ⟨A,eA,rfl⟩:=aS.mp hx;rw [ay,ay] at hx';obtain ⟨_,e0,rfl⟩:=aS.mp hx';obtain ⟨f,ef,rfl⟩:=aS.mp e0;have S3:bH H (upd H2 pz (.tup [.ref A,.int (g f)])):=S2.put hpz;have h3:(upd H2 pz (.tup [.ref A,.int (g f)])) pz=some (.tup [.ref A,.int (g f)]):=aQ;have hX3:(upd H2 pz (.tup [.ref A,.int (g f)])) L=some (.lst (X.map V.int)):=by rw [br (bC hX hpz)];exact hX
  generalize upd H2 pz (.tup [.ref A,.int (g f)])=H3 at S3 h3 hX3 ⊢;have hAH:=hA j f A ef eA;have hm:∀ z∈mJ fs f,0≤z∧z<X.length:=fun z hz=>by
   obtain ⟨a,c,_⟩:=ka.mp hz;exact ⟨a,by lia⟩
  refine ⟨pz,_,rfl,SqT.of h3,rfl,_,_,rfl,_,_,rfl,rfl,?_⟩;refine ⟨_,rfl,A,rfl,⟨_,SqL.of (S3 _ _ hAH)⟩,?_⟩;refine jh (K:=K) (a:=A) (xs:=(mJ fs f).map V.int) (fun i σ HD=>bH H HD∧HD L=some (.lst ((setA (fun z=>(tm ts z+g f) % b) ((mJ fs f).take i) X).map V.int))∧∃ w7,σ=[some (.ref t),some (.ref p),some (.ref u),some (.ref q),some (.ref L),some (.ref A),some (.int (g f)),w7]) ⟨S3,hX3,v7,rfl⟩ (fun i σ HD _ ⟨h,_⟩=>SqL.of (h _ _ hAH)) ?_ ?_
  ·rintro i y σ HD hy' ⟨SD,hD,w7,rfl⟩
   rw [ay] at hy';obtain ⟨z,ez,rfl⟩:=aS.mp hy';obtain ⟨z0,z1⟩:=hm z (aP ez);refine ⟨_,rfl,t,_,_,_,rfl,rfl,SqT.of (SD _ _ ht),aO (j:=0) rfl,_,rfl,_,rfl,u,_,_,_,rfl,rfl,SqT.of (SD _ _ hu),lE z0 (by lia),_,rfl,_,_,rfl,rfl,b,_,rfl,b0,?_⟩;refine ⟨_,rfl,_,rfl,L,_,_,_,rfl,rfl,hD,ixN_int z0 (by rw [aa,setA_len];lia),?_⟩;rw [map_set,bj,ez];exact ⟨fun a o e=>by rw [br (bC e hL)];exact SD _ _ e,by rw [aQ];show _=some (HO.lst ((setA _ (_++[z]) X).map V.int));rw [setA_snoc],_,rfl⟩
  ·rintro σ HD ⟨SD,hD,w7,rfl⟩
   rw [aa,bq] at hD;refine ⟨SD,⟨_,hD,by rw [setA_len];exact lX,fun k k0 k1=>?_⟩,_,_,_,rfl⟩;rw [setA_tm k0 _ _ hm,bj,ef,eX k k0 k1]
   by_cases e:tm fs k=f
   ·rw [qL (ka.mpr ⟨k0,by lia,e⟩),qL (by rw [e];simp),e]
   ·rw [qK (fun q=>e (ka.mp q).2.2)]
    by_cases c:tm fs k∈(j4 fs).take j
    ·rw [qL c,qL (aJ _ c)]
    ·rw [qK c,qK (fun q=>(aH.mp q).elim c fun r=>e (by simpa using r))]
 ·rintro σ H2 ⟨S2,⟨X,hX,lX,eX⟩,v5,v6,v7,rfl⟩
  refine ⟨_,rfl,L,_,rfl,SqL.of hX,fun r H4 S4 h4=>?_⟩;refine k r H4 X (S2.trans S4) h4 lX fun k k0 k1=>?_
  rw [eX k k0 k1,qL];rw [aa,lA,bq];exact (lW fs).mpr (n5 k0 (by lia))
theorem scHeldF:bY ["net","parts","table","other","shifts"] pzD (defScope sHeldF):=by trivial
theorem ok_heldF (F:Fun K "held_at_firsts" "held_at_firsts" sHeldF f fd)(G1:Fn K mg "shifts_between" sShifts pzq f1 fd1)(F1:cM P w K mg base CX0 2 f1 fd1 pzq spShifts)(G2:Fn K mg "moved_in_parts" sMvP pzs f2 fd2)(F2:cM P w K mg base CX0 2 f2 fd2 pzs spMvP):cM P w K mg base CX0 3 f fd pzD spHeldF:=by
 refine F.ok scHeldF (by contradiction) (fun cdv A outer s H vs Q E hr h=>?_);obtain ⟨v,p,u1,u2,b,m,sp,zs,fs,ts,us,rfl,hv,b0,hp,hz,h1,h2,lu,lf,few,k⟩:=h;refine ⟨_,PSl.h (aY ⟨(psZ 4 scHeldF.nd (pc1 G1 F1 hr (af (pv 0) (af (pv 2) (af (pv 3) aD)))))⟩
  (cP ⟨(cf (pc1 G2 F2 hr (af (pv 0) (af (pv 1) (af (pv 3) (af (gW (fr:=["shifts"]) (js:=[4]) rfl (gg (pv 1)) (by trivial) rfl (by trivial) rfl (by exists sHeldF) (by trivial) rfl (by trivial) (fun _ _ _ _ _=>⟨(eJ (r:=rIxL K) gB (pv 1) (eJ (r:=rIxL K) gB (pv 0) bD (fun _ _=>rfl)) (fun _ _=>rfl)),gT⟩)) aD))))))⟩)),?_⟩
 refine ⟨_,rfl,_,rfl,_,rfl,v,u1,u2,b,m,sp,ts,us,rfl,hv,b0,h1,h2,lu,few,fun L H1 S1 _ e1=>?_⟩;have hz':=hz;obtain ⟨As,rfl,lA,hA⟩:=hz';have fw:As.length≤ts.length:=by
  rw [lA,←lf];exact lG (ky fs) fun z hz=>(lW _).mp hz
 have hg:∀ f∈j4 fs,tm (shM b ts us) (hdF fs f)=(tm ts (hdF fs f) - tm us (hdF fs f)) % b:=fun f hf=>by
  obtain ⟨_,a,c,_⟩:=idxF_hd hf;exact shM_tm lu a (by lia)
 refine ⟨_,rfl,_,rfl,_,rfl,_,rfl,p,rfl,⟨_,SqL.of (S1 _ _ hp)⟩,?_⟩;refine jv (K:=K) (a:=p) (xs:=As.map V.ref) (fun i zs H2=>H2=H1∧zs=(((j4 fs).take i).map fun f=>tm (shM b ts us) (hdF fs f)).map V.int) ⟨rfl,rfl⟩ (fun i zs H2 hi ⟨e3,e4⟩=>⟨by rw [e3];exact SqL.of (S1 _ _ hp),?_⟩) (by rw [aa];exact eQ (by lia)) (fun i x zs H2 hx ⟨e3,e4⟩=>?_) (fun zs H2 ⟨e3,e4⟩ D hD=>?_)
 ·rw [e4,aa,aa,bK];lia
 ·subst e3
  rw [ay] at hx;obtain ⟨A,eA,rfl⟩:=aS.mp hx;have hi:i<(j4 fs).length:=by rw [←lA];exact (ao.mp eA).1
  have ef:=gE hi;obtain ⟨q1,q2,q3,q4⟩:=idxF_hd (ba hi);refine gc ?_;refine ⟨_,rfl,_,rfl,A,_,_,_,rfl,rfl,SqL.of (S1 _ _ (hA i _ A ef eA)),aO (j:=0) (by rw [ay,q1];rfl),L,_,_,_,rfl,rfl,SqL.of e1,lE q2 (by rw [shM_len lu];lia),rfl,?_⟩;rw [e4,bj,ef,aE,aE];rfl
 ·subst e3
  have S5:=S1.put (o:= .lst zs) hD;have e5:(upd H2 D (.lst zs)) D=some (.lst (((j4 fs).map fun f=>tm (shM b ts us) (hdF fs f)).map V.int)):=by
   rw [aQ,e4,aa,lA,bq]
  generalize upd H2 D (.lst zs)=H5 at S5 e5 ⊢;refine ⟨v,p,u2,D,b,m,sp,_,fs,us,fun f=>tm (shM b ts us) (hdF fs f),rfl,hv.same S5,b0,S5 _ _ hp,⟨As,rfl,lA,fun i f A h1 h2=>S5 _ _ (hA i f A h1 h2)⟩,S5 _ _ h2,by lia,by lia,e5,fun r H' X S6 h6 lX eX=>?_⟩;refine k r H' X (S5.trans S6) h6 (by lia) fun k k0 k1=>?_
  have e9:=hg _ ((lW fs).mpr (n5 k0 (by lia:k<fs.length)));rw [eX k k0 (by lia),←e9]
abbrev sSum:cJ:=top 15
abbrev sBeats:cJ:=top 16
theorem scSum:bY ["bounds","way","low","high","step","bound"] pzE (defScope sSum):=by trivial
theorem ok_sum (F:Fun K "sum_of" "sum_of" sSum f fd):cM P w K mg base CX0 1 f fd pzE spSum:=by
 refine F.ok scSum (by contradiction) (fun cdv A outer s H vs Q E hr h=>?_);obtain ⟨vb,vw,bs,ws,rfl,hb,hw,hin,k⟩:=h;obtain ⟨pb,yb,rfl,hpb,hlb,rb⟩:=gw hb;obtain ⟨pw,yw,rfl,hpw,hlw,rw'⟩:=gw hw;refine ⟨_,PSl.h (aY ⟨(psZ 2 scSum.nd bD)⟩
  (aY ⟨(psZ 3 scSum.nd bD)⟩
  (aY ⟨(ib bE rfl (lI (pv 1)) (pgZ 4 scSum.nd) (PSl.h (aY ⟨(psZ 5 scSum.nd (eJ eD (pv 0) (ixZ (pv 4)) (fun _ _=>rfl)))⟩
  (cP ⟨(fV (cw jJ (ixZ (pv 4)) bD (cG _)) (PSl.h (aY ⟨(ps_aug (i:=2) scSum.nd rfl (.inl rfl) (ixZ (pv 5)) ip_add)⟩
  (cP ⟨(ps_aug (i:=3) scSum.nd rfl (.inl rfl) (ixZ (pv 5)) ip_add)⟩))) (PSl.h (aY ⟨(ps_aug (i:=2) scSum.nd rfl (.inl rfl) (ixZ (pv 5)) ip_sub)⟩
  (cP ⟨(ps_aug (i:=3) scSum.nd rfl (.inl rfl) (ixZ (pv 5)) ip_sub)⟩))))⟩))))⟩
  (cP ⟨(cf (cY (af (pv 2) (af (pv 3) aD))))⟩)))),?_⟩
 refine ⟨_,rfl,pw,rfl,⟨_,SqT.of hpw⟩,?_⟩;refine for_tup (K:=K) (xs:=yw) (fun i σ H2=>H2=H∧∃ v4 v5,σ=[some (.ref pb),some (.ref pw),some (.int (fZ bs (ws.take i))),some (.int (iB bs (ws.take i))),v4,v5]) ⟨rfl,none,none,rfl⟩ (fun i σ H2 _ ⟨e1,_⟩=>by rw [e1];exact SqT.of hpw) ?_ ?_
 ·rintro i y σ H2 hy ⟨rfl,v4,v5,rfl⟩
  have hi:i<ws.length:=by rw [←hlw];exact (ao.mp hy).1
  obtain ⟨q,hq,hq2⟩:=iF rw' (gE hi);rw [hy] at hq;cases hq;obtain ⟨i1,d1⟩:=hin ws[i] (ba hi);have hm1:fZ bs (ws.take (i+1))=fZ bs (ws.take i)+lowS bs ws[i]:=by
   unfold fZ;rw [bj,gE hi,aE,List.sum_append];simp
  have hm2:iB bs (ws.take (i+1))=iB bs (ws.take i)+lN bs ws[i]:=by
   unfold iB;rw [bj,gE hi,aE,List.sum_append];simp
  obtain ⟨qb,hqb,hqb2⟩:=iF rb (gE i1);refine ⟨_,rfl,_,rfl,q,_,_,_,rfl,rfl,SqT.of hq2,aO (j:=0) rfl,pb,_,_,_,rfl,rfl,SqT.of hpb,aO (j:=ws[i].i) hqb,?_⟩;refine ⟨_,rfl,q,_,_,_,rfl,rfl,SqT.of hq2,aO (j:=1) rfl,rfl,_,rfl,?_⟩;refine pS (fun h1=>?_) (fun h1=>?_)
  ·have h1:ws[i].d=1:=by have:=qP h1;injection this
   refine ⟨_,rfl,_,rfl,qb,_,_,_,rfl,rfl,SqT.of hqb2,aO (j:=0) rfl,_,_,rfl,rfl,?_⟩;refine ⟨_,rfl,_,rfl,qb,_,_,_,rfl,rfl,SqT.of hqb2,aO (j:=1) rfl,_,_,rfl,rfl,rfl,some (.ref q),some (.ref qb),?_⟩;have l1:lowS bs ws[i]=bs[ws[i].i].1:=by unfold lowS;rw [gE i1];exact qL h1
   have l2:lN bs ws[i]=bs[ws[i].i].2:=by unfold lN;rw [gE i1];exact qL h1
   rw [hm1,hm2,l1,l2];rfl
  ·have h1:ws[i].d≠1:=fun z=>h1 (qN (by rw [z]))
   refine ⟨_,rfl,_,rfl,qb,_,_,_,rfl,rfl,SqT.of hqb2,aO (j:=1) rfl,_,_,rfl,rfl,?_⟩;refine ⟨_,rfl,_,rfl,qb,_,_,_,rfl,rfl,SqT.of hqb2,aO (j:=0) rfl,_,_,rfl,rfl,rfl,some (.ref q),some (.ref qb),?_⟩;have l1:lowS bs ws[i]= -bs[ws[i].i].2:=by unfold lowS;rw [gE i1];exact qK h1
   have l2:lN bs ws[i]= -bs[ws[i].i].1:=by unfold lN;rw [gE i1];exact qK h1
   rw [hm1,hm2,l1,l2,←Int.sub_eq_add_neg,←Int.sub_eq_add_neg];rfl
 ·rintro σ H2 ⟨rfl,v4,v5,rfl⟩
  rw [hlw,bq];exact ⟨_,rfl,_,rfl,oI,fun p3 H3 S3 h3=>k p3 H3 S3 h3⟩
theorem scBeats:bY ["net","bounds","ring","beat","ends"] pze (defScope sBeats):=by trivial
theorem ok_beats (F:Fun K "beats_of" "beats_of" sBeats f fd)(G1:Fn K mg "sum_of" sSum pzE f1 fd1):cM P w K mg base CX0 2 f fd pze spBeats:=by
 have F1:cM P w K mg base CX0 1 f1 fd1 pzE spSum:=ok_sum G1.F;refine F.ok scBeats (by contradiction) (fun cdv A outer s H vs Q E hr h=>?_);obtain ⟨vn,vb,vw,b,m,sp,bs,ws,rfl,hv,hb0,hb1,hb,hw,hin,k⟩:=h;obtain ⟨t,pn,ys,rfl,ht,_⟩:=fm hv;refine ⟨_,PSl.h (aY ⟨(psZ 3 scBeats.nd (ixZ (pv 0)))⟩
  (aY ⟨(psZ 4 scBeats.nd (pc1 G1 F1 hr (af (pv 1) (af (pv 2) aD))))⟩
  (cP ⟨(cf (cY (af (pe_un pZ (cU op_fdivB (pe_un pZ (ixZ (pv 4))) (pv 3))) (af (cU op_fdivB (ixZ (pv 4)) (pv 3)) aD))))⟩))),?_⟩
 refine ⟨_,rfl,t,_,_,_,rfl,rfl,SqT.of ht,aO (j:=0) rfl,?_⟩;refine ⟨_,rfl,_,rfl,vb,vw,bs,ws,rfl,hb,hw,hin,fun p1 H1 S1 h1=>?_⟩;refine ⟨_,rfl,p1,_,_,_,rfl,rfl,SqT.of h1,aO (j:=0) rfl,_,rfl,_,rfl,_,_,rfl,rfl,log_ok hb0 hb1,_,rfl,?_⟩;refine ⟨_,rfl,p1,_,_,_,rfl,rfl,SqT.of h1,aO (j:=1) rfl,_,rfl,_,_,rfl,rfl,log_ok hb0 hb1,oI,fun p2 H2 S2 h2=>k p2 H2 (S1.trans S2) h2⟩
abbrev sDead:cJ:=top 17
theorem scDead:bY ["net","bounds","ring","beats"] pze (defScope sDead):=by trivial
theorem ok_dead (F:Fun K "is_dead" "is_dead" sDead f fd)(G1:Fn K mg "beats_of" sBeats pze f1 fd1)(F1:cM P w K mg base CX0 2 f1 fd1 pze spBeats):cM P w K mg base CX0 3 f fd pze spDead:=by
 refine F.ok scDead (by contradiction) (fun cdv A outer s H vs Q E hr h=>?_);obtain ⟨vn,vb,vw,b,m,sp,bs,ws,rfl,hv,hb0,hb1,hb,hw,hin,k⟩:=h;refine ⟨_,PSl.h (aY ⟨(psZ 3 scDead.nd (pc1 G1 F1 hr (af (pv 0) (af (pv 1) (af (pv 2) aD)))))⟩
  (cP ⟨(cf (iG pU (ixZ (pv 3)) (ixZ (pv 3)) (cG _)))⟩)),?_⟩
 refine ⟨_,rfl,_,rfl,_,rfl,vn,vb,vw,b,m,sp,bs,ws,rfl,hv,hb0,hb1,hb,hw,hin,fun p1 H1 S1 h1=>?_⟩;exact ⟨_,rfl,p1,_,_,_,rfl,rfl,SqT.of h1,aO (j:=0) rfl,_,rfl,p1,_,_,_,rfl,rfl,SqT.of h1,aO (j:=1) rfl,_,_,rfl,rfl,k H1 S1⟩
abbrev sOverR:cJ:=top 46
abbrev sMid:cJ:=top 48
abbrev sDeadL:cJ:=top 49
theorem noFree {n:List (Str×cL)}{p:Str×cL→Prop}(h:(n.all fun y=>y.2 != .free)=true):∀ y∈n,y.2= .free→p y:=fun y hy e=>by
 have:=gF.mp h y hy;rw [e] at this;exact qM this (by decide)
theorem pi_tupK {l:Expr}(e:X.K=K)(hl:PE X l tl):PI X tg l (iTup K tl):=e ▸ lI hl
theorem scOverR:bY pzt pzt (defScope sOverR):=by trivial
theorem ok_overR (F:Fun K "rings_over" "rings_over" sOverR f fd):cM P w K mg base CX0 1 f fd pzt spOverR:=by
 refine F.ok scOverR (by contradiction) (fun cdv A outer s H vs Q E hr h=>?_);obtain ⟨u,kk,rl,rg,rfl,hu,hrs,few,hlen,k⟩:=h;have lrl:rl.length=rg.length:=by rw [hrs.length,aa]
 refine ⟨_,PSl.h (cP ⟨(cf (gW (fr:=["span"]) (js:=[1]) rfl (gg (pv 0)) (by trivial) rfl (by trivial) rfl (by exists sOverR) (by trivial) rfl (by trivial) (fun _ _ _ _ _=>⟨(pv 0),(kQ (cw (r:=rIn K false) op_in_seq (pv 1) (by exact (gW (fr:=[]) (js:=[]) rfl (pi_tupK (K:=K) rfl (pv 0)) (by trivial) rfl (by trivial) rfl (noFree (by trivial)) (by trivial) rfl (by trivial) (fun _ _ _ _ _=>⟨(eJ (r:=rIxT K) eD (pv 0) bD (fun _ _=>rfl)),gT⟩))) rfl))⟩)))⟩),?_⟩;refine ⟨_,rfl,u,rfl,⟨_,SqL.of hu⟩,?_⟩;refine jv (K:=K) (a:=u) (xs:=rl) (fun i zs HC=>bH H HC∧zs.length≤i∧dG HC zs (((rg.take i).filter (iC kk)).map wayQ)) ⟨bH.refl H,aA _,.nil⟩ (fun i zs HC hi ⟨S,e2,_⟩=>⟨SqL.of (S _ _ hu),e2⟩) (by rw [lrl];exact eQ (by lia)) (fun i x zs HC hx ⟨S,e2,e3⟩=>?_) (fun zs HC ⟨S,e2,e3⟩ D hD=>?_)
 ·have hi:i<rg.length:=by have:=(ao.mp hx).1;lia
  obtain ⟨d,ed,dx⟩:=hrs.get hx;rw [ay,gE hi] at ed;cases ed;have dx:IsD H x (oj rg[i].2):=dx;obtain ⟨px,yx,rfl,hpx,hlx,rx⟩:=gw dx;have et:(rg.take (i+1)).filter (iC kk)=(rg.take i).filter (iC kk)++(if iC kk rg[i]=true then [rg[i]] else []):=by
   rw [bj,gE hi,fj];congr 1;show jP _ [rg[i]]=_;rw [fh];rfl
  have ln:=hlen _ (ba hi);refine ⟨_,rfl,_,rfl,px,rfl,⟨_,SqT.of (S _ _ hpx)⟩,?_⟩;refine kf (K:=K) (a:=px) (xs:=yx) (fun j ws HD=>HD=HC∧ws=((rg[i].2.take j).map fun s=>V.int (s.i:Int))) ⟨rfl,rfl⟩ (fun j ws HD hj ⟨e1,e2'⟩=>⟨by rw [e1];exact SqT.of (S _ _ hpx),by rw [e2',aa,bK];lia⟩) (by rw [hlx];exact eQ ln) (fun j y ws HD hy' ⟨e1,e2'⟩=>?_) (fun ws HD ⟨e1,e2'⟩ D hD=>?_)
  ·subst e1
   have hj:j<rg[i].2.length:=by have:=(ao.mp hy').1;lia
   obtain ⟨q,hq,hq2⟩:=iF rx (gE hj);rw [hy'] at hq;cases hq;refine gc ?_;refine ⟨_,rfl,q,_,_,_,rfl,rfl,SqT.of (S _ _ hq2),aO (j:=0) rfl,rfl,?_⟩;rw [e2',bj,gE hj,aE];rfl
  ·subst e1
   have S1:bH HD (upd HD D (.lst ws)):=bH.put (bH.refl HD) hD;have hD1:(upd HD D (.lst ws)) D=some (.lst ws):=aQ;generalize upd HD D (.lst ws)=HE at S1 hD1 ⊢;rw [hlx,bq] at e2';subst e2';refine ⟨D,_,rfl,.inl (SqL.of hD1),rfl,(by rw [List.all_map];exact gF.mpr fun _ _=>rfl),_,rfl,?_⟩;rw [show (rg[i].2.map fun s=>V.int (s.i:Int))=(rg[i].2.map Stp.i).map (fun (i:Nat)=>V.int i) by rw [c9];rfl,inV_nat,et];show if (decide (kk∈rg[i].2.map Stp.i))=true then _ else _;have eo:iC kk rg[i]=decide (kk∈rg[i].2.map Stp.i):=rfl;rw [eo];refine pS (fun c=>?_) (fun c=>?_)
   ·refine ⟨_,rfl,S.trans S1,by rw [ar];show zs.length+1≤i+1;lia,?_⟩
    rw [qL c,aE];exact (e3.same S1).append (.cons (dx.same (S.trans S1)) .nil)
   ·refine ⟨S.trans S1,by lia,?_⟩
    rw [qK c,de];exact e3.same S1
 ·rw [lrl,bq] at e3
  have S1:bH HC (upd HC D (.lst zs)):=bH.put (bH.refl HC) hD;refine k D zs _ (S.trans S1) (bH.free S hD) aQ (e3.same S1)
theorem scMid:bY ["case","span","bound"] pzr (defScope sMid):=by trivial
theorem ok_mid (F:Fun K "middle_of" "middle_of" sMid f fd):cM P w K mg base CX0 1 f fd pzr spMid:=by
 refine F.ok scMid (by contradiction) (fun cdv A outer s H vs Q E hr h=>?_);obtain ⟨c,kk,bs,rs,rfl,hc,hk,k⟩:=h;obtain ⟨vb,u,rl,h1,h2,h3,h4⟩:=hc.ex;obtain ⟨pb,yb,rfl,hpb,hlb,rb⟩:=gw h2;obtain ⟨q,hq,hq2⟩:=iF rb (gE hk);have e0:bs.getD kk (0,0)=bs[kk]:=by rw [ai,gE hk];rfl
 refine ⟨_,PSl.h (aY ⟨(psZ 2 scMid.nd (eJ eD (ixZ (pv 0)) (pv 1) (fun _ _=>rfl)))⟩
  (cP ⟨(cf (cU op_fdiv (cU gX (ixZ (pv 2)) (ixZ (pv 2))) bD))⟩)),?_⟩
 refine ⟨_,rfl,c,_,_,_,rfl,rfl,SqT.of h1,aO (j:=0) rfl,_,rfl,pb,_,_,_,rfl,rfl,SqT.of hpb,aO (j:=kk) hq,?_⟩;refine ⟨_,rfl,q,_,_,_,rfl,rfl,SqT.of hq2,aO (j:=0) rfl,_,rfl,q,_,_,_,rfl,rfl,SqT.of hq2,aO (j:=1) rfl,_,_,rfl,rfl,_,_,rfl,rfl,⟨by decide,by decide⟩,?_⟩;rw [e0] at k;exact k
theorem scDeadL:bY ["net","case","ring"] pzl (defScope sDeadL):=by trivial
theorem ok_deadL (F:Fun K "dead_leaf" "dead_leaf" sDeadL f fd)(G1:Fn K mg "is_dead" sDead pze f1 fd1)(F1:cM P w K mg base CX0 3 f1 fd1 pze spDead):cM P w K mg base CX0 4 f fd pzl spDeadL:=by
 refine F.ok scDeadL (by contradiction) (fun cdv A outer s H vs Q E hr h=>?_);obtain ⟨v,c,b,m,sp,bs,rs,rfl,hv,b0,b61,hc,few,hin,k⟩:=h;obtain ⟨vb,u,rl,h1,h2,h3,h4⟩:=hc.ex;have hr3:gN 3 _:=hr;have lrl:rl.length=rs.length:=by rw [h4.length,aa]
 refine ⟨_,PSl.h (aY ⟨(ib bE rfl (gg (ixZ (pv 1))) (pgZ 2 scDeadL.nd) (cy (fV (ia (pc1 G1 F1 hr3 (af (pv 0) (af (ixZ (pv 1)) (af (pv 2) aD))))) (cy (cf (cY (af jY (af (pv 2) aD))))) cZ)))⟩
  (cP ⟨(cf oh)⟩)),?_⟩
 refine ⟨_,rfl,c,_,_,_,rfl,rfl,SqT.of h1,aO (j:=1) rfl,u,rfl,⟨_,SqL.of h3⟩,?_⟩;refine jh (K:=K) (a:=u) (xs:=rl) (fun i σ H1=>bH H H1∧(∀ q∈rs.take i,jb b bs q.2=false)∧∃ v2,σ=[some v,some (.ref c),v2]) ⟨bH.refl H,fun _ h=>qM h (by simp),none,rfl⟩ (fun i σ H1 _ ⟨S,_⟩=>SqL.of (S _ _ h3)) ?_ ?_
 ·rintro i x σ H1 hx ⟨S1,hal,v2,rfl⟩
  have hi:i<rs.length:=by have:=(ao.mp hx).1;lia
  obtain ⟨d,ed,dx⟩:=h4.get hx;rw [ay,gE hi] at ed;cases ed;have dx:IsD H x (oj rs[i].2):=dx;refine ⟨_,rfl,_,rfl,c,_,_,_,rfl,rfl,SqT.of (S1 _ _ h1),aO (j:=0) rfl,_,rfl,v,vb,x,b,m,sp,bs,rs[i].2,rfl,hv.same S1,b0,b61,h2.same S1,dx.same S1,hin _ (ba hi),fun H2 S2=>⟨_,rfl,pS (fun hc=>?_) (fun hc=>?_)⟩⟩
  ·refine ⟨_,rfl,oI,fun q3 H3 S3 h3'=>?_⟩
   exact k (.ref q3) H3 (S1.trans (S2.trans S3)) (.inr ⟨rs[i],ba hi,.tup h3' (.cons (.str _) (.cons (dx.same (S1.trans (S2.trans S3))) .nil)),hc⟩)
  ·refine ⟨S1.trans S2,fun q hq=>?_,_,rfl⟩
   rw [bj,gE hi] at hq
   rcases aH.mp hq with z | z
   ·exact hal q z
   ·rw [av.mp z];exact kZ.mpr hc
 ·rintro σ H1 ⟨S1,hal,v2,rfl⟩
  rw [lrl,bq] at hal;exact k .non H1 S1 (.inl ⟨rfl,hal⟩)
abbrev sFirst:cJ:=top 14
theorem scFirst:bY pza pza (defScope sFirst):=by trivial
theorem ok_first (F:Fun K "first_bounds" "first_bounds" sFirst f fd)(T:Nm mg):cM P w K mg base CX0 1 f fd pza spFirst:=by
 refine F.ok scFirst (by contradiction) (fun cdv A outer s H vs Q E hr h=>?_);obtain ⟨v,b,m,sp,rfl,hv,few,k⟩:=h;obtain ⟨t,p,ys,rfl,ht,hp,hl,hy⟩:=fm hv;refine ⟨_,PSl.h (cP ⟨(cf (eU i3 rfl T.ttup iX (af (gW (fr:=[]) (js:=[]) rfl (lI (ixZ (pv 0))) (by trivial) rfl (by trivial) rfl (by exists sFirst) (by trivial) rfl (by trivial) (fun _ _ _ _ _=>⟨(cY (af (eJ (r:=rIxT K) eD (pv 0) bD (fun _ _=>rfl)) (af (eJ (r:=rIxT K) eD (pv 0) bD (fun _ _=>rfl)) aD))),gT⟩)) aD)))⟩),?_⟩;refine ⟨_,rfl,t,_,_,_,rfl,rfl,SqT.of ht,aO (j:=2) rfl,p,rfl,⟨_,SqT.of hp⟩,?_⟩;refine kf (K:=K) (a:=p) (xs:=ys) (fun i zs H2=>bH H H2∧dG H2 zs (((sp.take i).map fun x=>(x.l,x.o)).map fun x=> .tup ((bndR x).map Dt.int))) ⟨bH.refl H,.nil⟩ (fun i zs H2 hi ⟨e1,e2⟩=>?_) (by rw [hl];exact eQ few) (fun i x zs H2 hx ⟨e1,e2⟩=>?_) (fun zs H2 ⟨e1,e2⟩ D hD=>?_)
 ·refine ⟨SqT.of (e1 _ _ hp),?_⟩
  rw [e2.length,aa,aa,bK];lia
 ·have hi:i<sp.length:=by rw [←hl];exact (ao.mp hx).1
  obtain ⟨q,hq,hq2⟩:=hy i sp[i] (gE hi);rw [hx] at hq;cases hq;have hq3:=e1 _ _ hq2;refine gc ?_;refine ⟨_,rfl,q,_,_,_,rfl,rfl,SqT.of hq3,aO (j:=2) rfl,_,rfl,q,_,_,_,rfl,rfl,SqT.of hq3,aO (j:=3) rfl,oI,fun q4 H4 S4 h4=>⟨e1.trans S4,?_⟩⟩;rw [bj,gE hi,aE,aE];exact (e2.same S4).append (.cons (.tup h4 (dG.ints [sp[i].l,sp[i].o])) .nil)
 ·refine ⟨D,_,rfl,SqL.of aQ,fun p3 H3 S3 h3=>?_⟩
  have S23:=(bH.put (o:= .lst zs) (bH.refl H2) hD).trans S3;refine k (.ref p3) H3 (e1.trans S23) (.tup h3 ?_);rw [hl,bq] at e2;exact e2.same S23
abbrev sWithB:cJ:=top 37
theorem cutU {i:Int}(hi:i=(n:Int)):cutV xs none (some i)=xs.take n:=by
 unfold cutV;subst hi;have e:=HT.sIx_nat xs.length xs.length n;rw [e];show (xs.drop 0).take (min n xs.length - 0)=xs.take n;rw [List.drop_zero,Nat.sub_zero]
 by_cases h:n≤xs.length
 ·rw [Nat.min_eq_left h]
 ·rw [Nat.min_eq_right (by lia),bq,jj (by lia)]
theorem cutF {i:Int}(hi:i=(n:Int)):cutV xs (some i) none=xs.drop n:=by
 unfold cutV;subst hi;have e:=HT.sIx_nat xs.length 0 n;rw [e];show (xs.drop (min n xs.length)).take (xs.length - min n xs.length)=xs.drop n
 by_cases h:n≤xs.length
 ·rw [Nat.min_eq_left h,jj (by rw [dh];lia)]
 ·rw [Nat.min_eq_right (by lia),List.drop_length,List.drop_of_length_le (by lia),List.take_nil]
theorem scWithB:bY pzm pzm (defScope sWithB):=by trivial
theorem ok_withB (F:Fun K "with_bound" "with_bound" sWithB f fd):cM P w K mg base CX0 1 f fd pzm spWithB:=by
 refine F.ok scWithB (by contradiction) (fun cdv A outer s H vs Q E hr h=>?_);obtain ⟨vb,n,lo,hi,bs,rfl,hb,hn,few,k⟩:=h;obtain ⟨pb,yb,rfl,hpb,hlb,rb⟩:=gw hb;refine ⟨_,PSl.h (cP ⟨(cf (cU kh (cU kh (pe_slice sl_tupN (pv 0) po_none (po_some (pv 1))) (cY (af (cY (af (pv 2) (af (pv 3) aD))) aD))) (pe_slice sl_tupN (pv 0) (po_some (cU gX (pv 1) bD)) po_none)))⟩),?_⟩;have lyb:yb.length≤40:=by lia
 refine ⟨_,rfl,_,rfl,_,rfl,pb,_,rfl,hpb,fun qB HB SB hB=>⟨_,rfl,_,rfl,oI,fun q1 H1 S1 h1=>⟨szZ1,fun qC HC SC hC=>?_⟩⟩⟩;rw [cutU (n:=n) rfl] at hB;refine ⟨qB,qC,_,_,rfl,rfl,SC _ _ (S1 _ _ hB),hC,?_,fun qD HD SD hD=>?_⟩
 ·rw [bK];exact aM (by show min n yb.length+1≤1000;lia) (by decide)
 refine ⟨_,rfl,_,rfl,_,_,rfl,rfl,_,rfl,pb,_,rfl,SD _ _ (SC _ _ (S1 _ _ (SB _ _ hpb))),fun qE HE SE hE=>?_⟩;rw [cutF (n:=n+1) (by lia)] at hE;refine ⟨qD,qE,_,_,rfl,rfl,SE _ _ hD,hE,?_,fun qF HF SF hF=>?_⟩
 ·rw [ar,bK,dh];exact aM (by show min n yb.length+1+(yb.length - (n+1))≤1000;lia) (by decide)
 have S1F:bH H1 HF:=SC.trans (SD.trans (SE.trans SF));have SF':bH H HF:=SB.trans (S1.trans S1F);refine k (.ref qF) HF SF' (.tup hF ?_);have e:bs.set n (lo,hi)=bs.take n++[(lo,hi)]++bs.drop (n+1):=by
  rw [List.set_eq_take_append_cons_drop,qL hn,jo];rfl
 rw [e,aE,aE,List.map_take,List.map_drop];exact ((dG.takeN n (rb.same SF')).append (.cons (.tup (S1F _ _ h1) (dG.ints [lo,hi])) .nil)).append (dG.dropN (n+1) (rb.same SF'))
abbrev cCuts:cJ:=top 47
abbrev qf:cJ:=clsOf cCuts 0
abbrev sSpanC:cJ:=clsOf cCuts 1
abbrev sSidesC:cJ:=clsOf cCuts 2
def lamPosC:List cJ→Pos
 | [_,_,_,_,.Assign _ (.Call _ _ [⟨_,.Lambda _ _ _ lp,_⟩] _) _]=>lp
 | _=>⟨0,0,0,0⟩
abbrev lpC:Pos:=lamPosC (gh qf)
abbrev lqC:Str:=(("Cuts.__init__" :Str) ++ ".<locals>.") ++ "<lambda>"
theorem lenNC (K:au)(hK:X.K=K:=by rfl):jz X (.builtin "len") (fun xs H Q=>∃ p ys,xs=[.ref p]∧(SqL K H p ys∨SqT K H p ys)∧Q (.int ys.length) H):=by subst hK;exact bV
structure CutC (K:au)(C:aq):Prop where
 cl:Cls K C
 n1:nI K C "first_case"
 n2:nI K C "touched"
 n3:nI K C "order"
theorem scInitC:bY ["self","net","rings","touched"] ["self","net"] (defScope qf):=by trivial
theorem ok_initC {c:aq}(F:Fun K "__init__" "Cuts.__init__" qf f fd)(hcd:fd.code= .ref c)(CH:fI K c T1=true)(B:BM mg base)(ne:T0≠T1)(T:Nm mg)(T2:Nt mg)(ms:mg "sorted" =none)(CC:CutC K C)
  (G1:Fn K mg "rings_of" sRingsO pza f1 fd1) (F1:cM P w K mg base CX0 8 f1 fd1 pza (spRingsO T0 p0 q0))
  (G2:Fn K mg "rings_over" sOverR pzt f2 fd2) (G3:Fn K mg "first_bounds" sFirst pza f3 fd3)
  (G4:Fn K mg "forest_of" lH pza f4 fd4) (F4:cM P w K mg base CX0 6 f4 fd4 pza (kL T0 p0 q0)):cM P w K mg base CX0 9 f fd ["self","net"] (spInitC T0 p0 q0 T1 lpC lqC C):=by
 have F2:cM P w K mg base CX0 1 f2 fd2 pzt spOverR:=ok_overR G2.F;have F3:cM P w K mg base CX0 1 f3 fd3 pza spFirst:=ok_first G3.F T;refine okC F hcd scInitC (by contradiction) (fun A outer s H vs Q E hr h=>?_);obtain ⟨x,dx,v,b,m,sp,rfl,hx,hv,N,hT0,hT1,k⟩:=h;have hr1:gN 1 _:=hr.mono (by decide);have hr6:gN 6 _:=hr.mono (by decide);have E:=N.ends;have few:=N.few;have m1:=N.m1;have m2:=N.m2;refine ⟨_,PSl.h (aY ⟨(psZ 2 scInitC.nd (pc1 G1 F1 hr (af (pv 1) aD)))⟩
  (aY ⟨(psZ 3 scInitC.nd (gW (fr:=["rings"]) (js:=[2]) rfl (gH rfl T2.range (af (cp bV rfl T.len bF (af (ixZ (pv 1)) aD)) aD)) (by trivial) rfl (by trivial) rfl (by exists qf) (by trivial) rfl (by trivial) (fun _ _ _ _ _=>⟨(pc1 G2 F2 hr1 (af (pv 1) (af (pv 0) aD))),gT⟩)))⟩
  (aY ⟨(ps_fld (pv 0) (cY (af (pc1 G3 F3 hr1 (af (pv 1) aD)) (af (pv 2) aD))) rfl)⟩
  (aY ⟨(ps_fld (pv 0) (pv 3) rfl)⟩
  (cP ⟨(ps_fld (pv 0) (pe_sortT (js:=[3]) (fr:=["touched"]) (x := "span") (c:=c) (P:=T1) rfl hr.depth rfl ms (pc1 G4 F4 hr6 (af (pv 1) aD)) rfl rfl CH B (fun _ _ _ _ _ _=>rfl) rfl rfl rfl (by trivial) rfl (by decide) (by exists qf) rfl (by trivial)
   (fun cl L f' cd s' H'=>pe_tup (af (pe_un pZ (cp (lenNC K) rfl T.len bF (af (eJ (r:=rIxL K) gB (pv 1) (pv 0) (fun _ _=>rfl)) aD))) (af (pv 0) aD)))) rfl)⟩))))),?_⟩
 refine ⟨_,rfl,v,b,m,sp,rfl,hv,N,hT0,fun L rl l rg H1 tb1 hT01 fL hL dL R=>?_⟩;have fr:=R.fr;have xT0:x≠T0:=by obtain ⟨ps,h⟩:=LamT.tbl hT0;exact fW hx h nofun
 have xT1:x≠T1:=by obtain ⟨ps,h⟩:=LamT.tbl hT1;exact fW hx h nofun
 have K1:Kp H H1:=Tb.kp hT0 tb1;have hT11:=LamT.ntb hT1 hT0 (dB ne) tb1;have hx1:=tb1 x _ xT0 hx;have hv1:=cO K1.tup hv;have tl:l.length≤15:=by have:=fr.few E (by lia);lia
 have lrg:rg.length≤40:=by
  have:rg.length=(oW sp l).length:=by rw [←R.ks,aa]
  have h2:(oW sp l).length≤sp.length:=by unfold oW;exact aM (cV _ _) (by rw [bh];exact aA _)
  lia
 have lng:∀ q∈rg,q.2.length≤1000:=fun q hq=>by
  have:=((R.rk q hq).rg N tl).few;lia
 have st1:∀ a o,a≠T0→a≠T1→a≠x→H a=some o→H1 a=some o:=fun a o n0 _ _ e=>tb1 a o n0 e
 obtain ⟨t,p,ys,ev,ht,hp,hl,hy⟩:=fm hv1;subst ev;clear hy hv fL tb1;refine ⟨_,rfl,t,_,_,_,rfl,rfl,SqT.of ht,aO (j:=2) rfl,p,_,rfl,.inr (SqT.of hp),_,rfl,by lia,by lia,?_⟩;refine kD (n:=((ys.length:Int)).toNat) (fun i zs HC=>bH H1 HC∧zs.length=i∧∀ j,j<i→∃ u ql,zs[j]? =some (.ref u)∧HC u=some (.lst ql)∧dG HC ql ((rg.filter (iC j)).map wayQ)) ⟨bH.refl H1,rfl,fun j hj=>qM hj (Nat.not_lt_zero _)⟩ (fun i zs HC hi ⟨_,e2,_⟩=>Nat.le_of_eq e2) (eQ (by lia)) (fun i zs HC hi ⟨S,lz,dz⟩=>?_) (fun zs HC ⟨S,lz,dz⟩ D hD=>?_)
 ·rw [iM]
  refine gc ⟨_,rfl,_,rfl,L,i,rl,rg,rfl,S _ _ hL,dL.same S,lrg,lng,fun L' rl' H2 S2 f2 h2 d2=>⟨S.trans S2,by rw [ar,lz];rfl,fun j hj=>?_⟩⟩
  rcases i5.mp hj with z | z
  ·obtain ⟨u,ql,a1,a2,a3⟩:=dz j z
   exact ⟨u,ql,by rw [cN (by lia)];exact a1,S2 _ _ a2,a3.same S2⟩
  ·subst z
   exact ⟨L',rl',by rw [bu (by lia),lz,gO];rfl,h2,d2⟩
 have S1:bH H1 (upd HC D (.lst zs)):=S.trans (bH.put (bH.refl HC) hD);have tch:TchD (upd HC D (.lst zs)) D sp.length rg:=by
  refine ⟨zs,aQ,by rw [lz];lia,fun j hj=>?_⟩;obtain ⟨u,ql,a1,a2,a3⟩:=dz j (by lia);have S2:bH HC (upd HC D (.lst zs)):=bH.put (bH.refl HC) hD;exact ⟨u,ql,a1,S2 _ _ a2,a3.same S2⟩
 generalize upd HC D (.lst zs)=H2 at S1 tch ⊢;clear dz hD;refine ⟨_,rfl,.ref t,b,m,sp,rfl,hv1.same S1,by lia,fun ub H3 S3 hub=>⟨_,rfl,oI,fun q4 H4 S4 h4=>⟨_,rfl,x,C,dx,_,rfl,S4 _ _ (S3 _ _ (S1 _ _ hx1)),CC.cl,CC.n1,by decide,?_⟩⟩⟩;have S14:bH H1 H4:=S1.trans (S3.trans S4);have cs4:CsD H4 q4 (sp.map fun z=>(z.l,z.o)) rg:=⟨ub,L,rl,h4,hub.same S4,S14 _ _ hL,dL.same S14⟩;have tch4:=tch.kp (bH.kp (S3.trans S4));have hx4:=S14 _ _ hx1;have K4:Kp H4 (upd H4 x (.ins C dx (mN "first_case" (.ref q4) []))):=Kp.upd hx4;have st5:∀ a o,a≠T0→a≠T1→a≠x→H a=some o→(upd H4 x (.ins C dx (mN "first_case" (.ref q4) []))) a=some o:=fun a o n0 n1 n2 e=>by rw [br n2];exact S14 _ _ (st1 a o n0 n1 n2 e)
 have kp5:Kp H (upd H4 x (.ins C dx (mN "first_case" (.ref q4) []))):=K1.trans ((bH.kp S14).trans K4);have hx5:(upd H4 x (.ins C dx (mN "first_case" (.ref q4) []))) x=some (.ins C dx [("first_case",.ref q4)]):=aQ;have hT05:=lZ (o:= .ins C dx (mN "first_case" (.ref q4) [])) (LamT.same S14 hT01) hx4;have hT15:=lZ (o:= .ins C dx (mN "first_case" (.ref q4) [])) (LamT.same S14 hT11) hx4;have hv5:=cO K4.tup (hv1.same S14);have cs5:=cs4.kp K4;have tch5:=tch4.kp K4;generalize upd H4 x (.ins C dx (mN "first_case" (.ref q4) []))=H5 at st5 kp5 hx5 hT05 hT15 hv5 cs5 tch5 ⊢;clear K4 hx4 tch4 cs4 S14 h4 S4 hub S3 tch S1 ht hp st1 hv1 hT11 hT01 hx1 K1 dL hL;refine ⟨_,rfl,_,rfl,x,C,dx,_,rfl,hx5,CC.cl,CC.n2,(by show 1<1000;decide),?_⟩;have K5:Kp H5 (upd H5 x (.ins C dx (mN "touched" (.ref D) [("first_case",.ref q4)]))):=Kp.upd hx5;have st6:∀ a o,a≠T0→a≠T1→a≠x→H a=some o→(upd H5 x (.ins C dx (mN "touched" (.ref D) [("first_case",.ref q4)]))) a=some o:=fun a o n0 n1 n2 e=>by rw [br n2];exact st5 a o n0 n1 n2 e
 have kp6:=kp5.trans K5;have hx6:(upd H5 x (.ins C dx (mN "touched" (.ref D) [("first_case",.ref q4)]))) x=some (.ins C dx [("first_case",.ref q4),("touched",.ref D)]):=aQ;have hT06:=lZ (o:= .ins C dx (mN "touched" (.ref D) [("first_case",.ref q4)])) hT05 hx5;have hT16:=lZ (o:= .ins C dx (mN "touched" (.ref D) [("first_case",.ref q4)])) hT15 hx5;have hv6:=cO K5.tup hv5;have cs6:=cs5.kp K5;have tch6:=tch5.kp K5;generalize upd H5 x (.ins C dx (mN "touched" (.ref D) [("first_case",.ref q4)]))=H6 at st6 kp6 hx6 hT06 hT16 hv6 cs6 tch6 ⊢;clear K5 st5 kp5 hx5 hT05 hT15 hv5 cs5 tch5;refine ⟨_,rfl,.ref t,b,m,sp,rfl,hv6,N,hT06,fun u H7 ns tb7 hT07 hu F0=>?_⟩;obtain ⟨l',π0,rfl,O0,pm0⟩:=F0.natsF;have el:l'=l:=i7.one (m:=m.toNat) (sp:=sp) ⟨F0,π0,O0,pm0⟩ fr;subst el;have K6:Kp H6 H7:=Tb.kp hT06 tb7;have hT17:=LamT.ntb hT16 hT06 (dB ne) tb7;have hx7:=tb7 x _ xT0 hx6;have st7:∀ a o,a≠T0→a≠T1→a≠x→H a=some o→H7 a=some o:=fun a o n0 n1 n2 e=>tb7 a o n0 (st6 a o n0 n1 n2 e)
 have kp7:=kp6.trans K6;have cs7:=cs6.kp K6;have tch7:=tch6.kp K6;clear K6 st6 kp6 hx6 hT06 hT16 hv6 cs6 tch6 tb7;have hlt:=(fr.pots E).nodup.2;have hnd:=(fr.pots E).nodup.1;have lns:(l'.map fun (i:Nat)=>(i:Int)).length=l'.length:=aa ..;have gns:∀ i,i<l'.length→(l'.map fun (i:Nat)=>(i:Int)).getD i 0=((l'.getD i 0:Nat):Int):=fun i hi=>by
  rw [ai,ay,ai,gE hi];rfl
 refine ⟨u,l'.map fun (i:Nat)=>(i:Int),fun i=>(-(((rg.filter (iC (l'.getD i 0))).length:Nat):Int),((l'.getD i 0:Nat):Int)),rfl,hu,by rw [lns];lia,hT17,?_,fun i hi H8 tb8=>?_,fun D2 H8 π tb8 hT18 f8 pm8 _=>?_⟩
 ·refine List.Pairwise.of_map (S:=fun a c:Int=>a≠c) Prod.snd (fun a c h e=>h (by rw [e])) ?_
  rw [c9,lns];have e:(aF l'.length).map (Prod.snd ∘ fun i=>(-(((rg.filter (iC (l'.getD i 0))).length:Nat):Int),((l'.getD i 0:Nat):Int)))=l'.map fun (i:Nat)=>(i:Int):=by
   refine List.ext_getElem (by rw [aa,aa,bh]) fun i h1 h2=>?_
   rw [aa,bh] at h1;rw [jF,kr,jF];show ((l'.getD i 0:Nat):Int)=_;rw [ai,gE h1];rfl
  rw [e,fE];exact (bX.mp hnd).imp fun hh e=>hh (by lia)
 ·rw [lns] at hi
  rw [gns i hi];obtain ⟨tv,a1,a2,a3⟩:=tch7.ex;have hk:l'.getD i 0<sp.length:=by
   rw [ai,gE hi];exact hlt _ (ba hi)
  obtain ⟨uu,ql,b1,b2,b3⟩:=a3 _ hk;have K8:Kp H7 H8:=Tb.kp hT17 tb8;have lq:ql.length=(rg.filter (iC (l'.getD i 0))).length:=by rw [b3.length,aa]
  refine ⟨_,rfl,_,rfl,D,_,_,_,rfl,rfl,SqL.of (K8.lst _ _ a1),aO b1,uu,_,rfl,.inl (SqL.of (K8.lst _ _ b2)),_,rfl,_,rfl,oI,fun a9 h9=>⟨bH.put (bH.refl H8) h9,a9,rfl,?_⟩⟩;rw [aQ,lq]
 ·have K8:Kp H7 H8:=Tb.kp hT17 tb8
  have S9:bH H8 (upd H8 D2 (.lst (π.map fun (i:Nat)=>V.int ((l'.map fun (i:Nat)=>(i:Int)).getD i 0)))):=bH.put (bH.refl H8) f8;have h9:(upd H8 D2 (.lst (π.map fun (i:Nat)=>V.int ((l'.map fun (i:Nat)=>(i:Int)).getD i 0)))) D2=some (.lst ((π.map fun i=>l'.getD i 0).map fun (i:Nat)=>V.int i)):=by
   rw [aQ,c9];congr 2;refine iS fun i hi=>?_
   have:=cg.mp (pm8.mem_iff.mp hi);rw [lns] at this;rw [gns i this];rfl
  generalize upd H8 D2 (.lst (π.map fun (i:Nat)=>V.int ((l'.map fun (i:Nat)=>(i:Int)).getD i 0)))=H9 at S9 h9 ⊢;have hx9:=S9 _ _ (tb8 x _ xT1 hx7);refine ⟨_,rfl,x,C,dx,_,rfl,hx9,CC.cl,CC.n3,(by show 2<1000;decide),?_⟩;have K9:Kp H7 H9:=K8.trans (bH.kp S9);have hT08:=LamT.same S9 (LamT.ntb hT07 hT17 ne tb8);have hT19:=LamT.same S9 hT18;have KX:Kp H9 (upd H9 x (.ins C dx (mN "order" (.ref D2) [("first_case",.ref q4),("touched",.ref D)]))):=Kp.upd hx9;refine k l' rg _ (fun a o n0 n1 n2 e=>?_) (kp7.trans (K9.trans KX)) (lZ hT08 hx9) (lZ hT19 hx9) R ⟨dx,q4,D,D2,_,aQ,(cs7.kp K9).kp KX,(tch7.kp K9).kp KX,KX.lst _ _ h9,ord_perm (by rw [lns] at pm8;exact pm8)⟩;rw [br n2];exact S9 _ _ (tb8 a o n1 (st7 a o n0 n1 n2 e))
theorem scSpanC:bY ["self","case","span","bound"] ["self","case"] (defScope sSpanC):=by trivial
theorem ok_spanC (F:Fun K "span_to_cut" "Cuts.span_to_cut" sSpanC f fd)(CC:CutC K C):cM P w K mg base CX0 1 f fd ["self","case"] (spSpanC C):=by
 refine F.ok scSpanC (by contradiction) (fun cdv A outer s H vs Q E hr h=>?_);obtain ⟨x,c,sp,l,rg,rs,bs,rfl,hx,hc,hl,few,k1,k2⟩:=h;obtain ⟨dx,c0,tl,ol,ord,h1,h2,h3,h4,h5⟩:=hx.ex;obtain ⟨vb,u,rl,c1,c2,c3,c4⟩:=hc.ex;obtain ⟨pb,yb,rfl,hpb,hlb,rb⟩:=gw c2;refine ⟨_,PSl.h (aY ⟨(ib bE rfl (gg (pe_fld (pv 0) rfl)) (pgZ 2 scSpanC.nd) (PSl.h (aY ⟨(psZ 3 scSpanC.nd (eJ eD (ixZ (pv 1)) (pv 2) (fun _ _=>rfl)))⟩
  (cP ⟨(fV (cw op_lt (ixZ (pv 3)) (ixZ (pv 3)) (cG _)) (cy (cf (pv 2))) cZ)⟩))))⟩
  (cP ⟨(cf oh)⟩)),?_⟩
 refine ⟨_,rfl,x,C,dx,_,_,rfl,h1,CC.cl,CC.n3,rfl,ol,rfl,⟨_,SqL.of h4⟩,?_⟩;refine jh (K:=K) (a:=ol) (xs:=ord.map fun (i:Nat)=>V.int i) (fun i σ H1=>H1=H∧(∀ j∈ord.take i,¬ ((bs.getD j (0,0)).1<(bs.getD j (0,0)).2))∧∃ v2 v3,σ=[some (.ref x),some (.ref c),v2,v3]) ⟨rfl,fun _ h=>qM h (by simp),none,none,rfl⟩ (fun i σ H1 _ ⟨e,_⟩=>by rw [e];exact SqL.of h4) ?_ ?_
 ·rintro i y σ H1 hy ⟨rfl,hal,v2,v3,rfl⟩
  obtain ⟨j,hj,rfl⟩:=mapI_at hy;have hm:j∈ord:=aP hj;have hjl:=h5.mem_iff.mp hm;have hjb:=hl j hjl;obtain ⟨q,hq,hq2⟩:=iF rb (gE hjb);have e0:bs.getD j (0,0)=bs[j]:=by rw [ai,gE hjb];rfl
  refine ⟨_,rfl,c,_,_,_,rfl,rfl,SqT.of c1,aO (j:=0) rfl,_,rfl,pb,_,_,_,rfl,rfl,SqT.of hpb,aO (j:=j) hq,?_⟩;refine ⟨_,rfl,q,_,_,_,rfl,rfl,SqT.of hq2,aO (j:=0) rfl,_,rfl,q,_,_,_,rfl,rfl,SqT.of hq2,aO (j:=1) rfl,_,_,rfl,rfl,_,rfl,?_⟩;show if decide (bs[j].1<bs[j].2)=true then _ else _;refine pS (fun hc=>?_) (fun hc=>?_)
  ·exact ⟨_,rfl,k2 j hjl (by rw [e0];exact qP hc)⟩
  ·refine ⟨rfl,fun z hz=>?_,_,_,rfl⟩
   rw [bj,hj] at hz
   rcases aH.mp hz with y | y
   ·exact hal z y
   ·rw [av.mp (show z∈[j] from y),e0]
    exact fun w=>hc (qN w)
 ·rintro σ H1 ⟨rfl,hal,v2,v3,rfl⟩
  rw [aa,bq] at hal;exact k1 fun j hj=>hal j (h5.mem_iff.mpr hj)
theorem oy:bY ["self","case","span","at","bounds","one","other"] pzF (defScope sSidesC):=by trivial
theorem ok_sidesC (F:Fun K "sides" "Cuts.sides" sSidesC f fd)(CC:CutC K C)(G1:Fn K mg "with_bound" sWithB pzm f1 fd1):cM P w K mg base CX0 2 f fd pzF (spSidesC C):=by
 have F1:cM P w K mg base CX0 1 f1 fd1 pzm spWithB:=ok_withB G1.F;refine F.ok oy (by contradiction) (fun cdv A outer s H vs Q E hr h=>?_);obtain ⟨Hb,x,c,n,a,sp,l,rg,rs,bs,rfl,Sb,hx,hc,hn,lb,few,k⟩:=h;obtain ⟨dx,c0,tl,ol,ord,h1,h2,h3,h4,h5⟩:=hx.ex;obtain ⟨tv,t1,t2,t3⟩:=h3.ex;obtain ⟨u,ql,b1,b2,b3⟩:=t3 n (by lia);obtain ⟨vb,u0,rl,c1,c2,c3,c4⟩:=hc.ex;obtain ⟨pb,yb,rfl,hpb,hlb,rb⟩:=gw c2;obtain ⟨qn,hqn,hqn2⟩:=iF rb (gE hn);have e0:bs.getD n (0,0)=bs[n]:=by rw [ai,gE hn];rfl
 have e1:km bs n a=bs.set n (bs[n].1,a):=by unfold km;rw [e0]
 have e2:dX bs n a=bs.set n (a+1,bs[n].2):=by unfold dX;rw [e0]
 refine ⟨_,PSl.h (aY ⟨(psZ 4 oy.nd (ixZ (pv 1)))⟩
  (aY ⟨(psZ 5 oy.nd (pc1 G1 F1 hr (af (pv 4) (af (pv 2) (af (ixZ (eJ eD (pv 4) (pv 2) (fun _ _=>rfl))) (af (pv 3) aD))))))⟩
  (aY ⟨(psZ 6 oy.nd (pc1 G1 F1 hr (af (pv 4) (af (pv 2) (af (cU gX (pv 3) bD) (af (ixZ (eJ eD (pv 4) (pv 2) (fun _ _=>rfl))) aD))))))⟩
  (cP ⟨(cf (iQ (af (cY (af (pv 6) (af (eJ gB (pe_fld (pv 0) rfl) (pv 2) (fun _ _=>rfl)) aD))) (af (cY (af (pv 5) (af (eJ gB (pe_fld (pv 0) rfl) (pv 2) (fun _ _=>rfl)) aD))) aD))))⟩)))),?_⟩
 refine ⟨_,rfl,c,_,_,_,rfl,rfl,SqT.of c1,aO (j:=0) rfl,?_⟩;refine ⟨_,rfl,_,rfl,_,rfl,_,rfl,pb,_,_,_,rfl,rfl,SqT.of hpb,aO (j:=n) hqn,qn,_,_,_,rfl,rfl,SqT.of hqn2,aO (j:=0) rfl,_,rfl,.ref pb,n,bs[n].1,a,bs,rfl,c2,hn,few,fun u1 H1 S1 hu1=>?_⟩;refine ⟨_,rfl,_,rfl,_,rfl,_,_,rfl,rfl,_,rfl,_,rfl,pb,_,_,_,rfl,rfl,SqT.of (S1 _ _ hpb),aO (j:=n) hqn,qn,_,_,_,rfl,rfl,SqT.of (S1 _ _ hqn2),aO (j:=1) rfl,.ref pb,n,a+1,bs[n].2,bs,rfl,c2.same S1,hn,few,fun u2 H2 S2 hu2=>?_⟩;have S02:=S1.trans S2;have Sb2:=Sb.trans S02;refine ⟨_,rfl,_,rfl,x,C,dx,_,_,rfl,Sb2 _ _ h1,CC.cl,CC.n2,rfl,_,rfl,tl,_,_,_,rfl,rfl,SqL.of (Sb2 _ _ t1),aO b1,oI,fun q3 H3 S3 h3'=>?_⟩;refine ⟨_,rfl,_,rfl,x,C,dx,_,_,rfl,S3 _ _ (Sb2 _ _ h1),CC.cl,CC.n2,rfl,_,rfl,tl,_,_,_,rfl,rfl,SqL.of (S3 _ _ (Sb2 _ _ t1)),aO b1,oI,fun q4 H4 S4 h4'=>?_⟩;refine ⟨oI,fun L hL=>?_⟩;have S5:bH H4 (upd H4 L (.lst [.ref q3,.ref q4])):=bH.put (bH.refl H4) hL;have S25:=S3.trans (S4.trans S5);refine k L q3 q4 _ (S02.trans S25) (bH.free (S02.trans (S3.trans S4)) hL) aQ ⟨u2,u,ql,S5 _ _ (S4 _ _ h3'),?_,b2,b3⟩ ⟨u1,u,ql,S5 _ _ h4',?_,b2,b3⟩
 ·rw [e2];exact hu2.same S25
 ·rw [e1];exact (hu1.same S2).same S25
abbrev sTabF:cJ:=top 51
theorem CutD.move {x:aq}{rg:List (Nat×List Stp)}(a:CutD H C x sp l rg)(e:Kp H H')(hx:∀ o,H x=some o→H' x=some o):CutD H' C x sp l rg:=by
 obtain ⟨dx,c0,tl,ol,ord,h1,h2,h3,h4,h5⟩:=a.ex;exact ⟨dx,c0,tl,ol,ord,hx _ h1,h2.kp e,h3.kp e,e.lst _ _ h4,h5⟩
structure CutK (P:aW)(w:bx)(K:au)(mg:Str→Option ae)(base:bL)(T0:aq)(p0:Pos)(q0:Str)(T1:aq)(p1:Pos)(q1:Str)(C fi g1 g2:aq)(di d1 d2:bp):Prop where
 cc:CutC K C
 mke:Mk K C fi
 gl:mg "Cuts" =some (.ref C)
 ini:cM P w K mg base CX0 9 fi di ["self","net"] (spInitC T0 p0 q0 T1 p1 q1 C)
 bi:n4 K di ["self","net"] []
 m1:Meth K C "span_to_cut" g1
 f1:cM P w K mg base CX0 1 g1 d1 ["self","case"] (spSpanC C)
 b1:n4 K d1 ["self","case"] []
 m2:Meth K C "sides" g2
 f2:cM P w K mg base CX0 2 g2 d2 pzF (spSidesC C)
 b2:n4 K d2 pzF []
theorem oS:bY ["net","most","cuts","steps","tables","ahead","case","span"] pzn (defScope sTabF):=by trivial
theorem ok_tabF {f5 fi g1 g2:aq}{fd5 di d1 d2:bp}(F:Fun K "tables_that_fit" "tables_that_fit" sTabF f fd)(T:Nm mg)(ne:T0≠T1)(CK:CutK P w K mg base T0 p0 q0 T1 p1 q1 C fi g1 g2 di d1 d2)
  (G2:Fn K mg "spread_of" sSpread pza f2 fd2) (F2:cM P w K mg base CX0 7 f2 fd2 pza (spSpread T0 p0 q0))
  (G3:Fn K mg "dead_leaf" sDeadL pzl f3 fd3) (F3:cM P w K mg base CX0 4 f3 fd3 pzl spDeadL)
  (G4:Fn K mg "table_by" sTabBy pzC f4 fd4) (F4:cM P w K mg base CX0 2 f4 fd4 pzC spTabBy)
  (G5:Fn K mg "middle_of" sMid pzr f5 fd5):cM P w K mg base CX0 11 f fd pzn (spTabF T0 p0 q0 T1 p1 q1):=by
 have F5:cM P w K mg base CX0 1 f5 fd5 pzr spMid:=ok_mid G5.F;refine F.ok oS (by contradiction) (fun cdv A outer s H vs Q E hr h=>?_);obtain ⟨v,b,m,sp,most,rfl,hv,N,hmost,hcases,hT0,hT1,k⟩:=h;have hr1:gN 1 _:=hr.mono (by decide);have hr2:gN 2 _:=hr.mono (by decide);have hr4:gN 4 _:=hr.mono (by decide);have hr7:gN 7 _:=hr.mono (by decide);have E:=N.ends;have nfew:=N.few;have m1:=N.m1;have m2:=N.m2;have nb1:=N.b1;refine ⟨_,PSl.h (aY ⟨(psZ 2 oS.nd (pe_make CK.mke CK.ini hr rfl CK.gl CK.bi .nil pass0 (af (pv 0) aD)))⟩
  (aY ⟨(psZ 3 oS.nd (pc1 G2 F2 hr7 (af (pv 0) aD)))⟩
  (aY ⟨(psZ 4 oS.nd (iQ aD))⟩
  (aY ⟨(psZ 5 oS.nd (iQ (af (pe_fld (pv 2) rfl) aD)))⟩
  (aY ⟨(lR bE (PW.pt (pw_and (cw pU (cp bV rfl T.len bF (af (pv 5) aD)) bD (cG _)) (pw_and1 (cw op_lt (cp bV rfl T.len bF (af (pv 4) aD)) (pv 1) (cG _))))) (PSl.h (aY ⟨(psZ 6 oS.nd (o9 bc e7 eZ pj (pv 5)))⟩
  (cP ⟨(fV (cw op_isN (pc1 G3 F3 hr4 (af (pv 0) (af (pv 6) aD))) oh (cG _)) (PSl.h (aY ⟨(psZ 7 oS.nd (pe_meth (pv 2) CK.cc.cl CK.m1 CK.f1 hr1 CK.b1 .nil pass0 (af (pv 6) aD)))⟩
  (cP ⟨(fV (cw op_isN (pv 7) oh (cG _)) (cy (gL (lh bc bP bO fH (pv 4) (af (pc1 G4 F4 hr2 (af (pv 0) (af (pv 3) (af (ixZ (pv 6)) aD)))) aD)))) (cy (gL (lh bc PySem.F.slot_list_extend PySem.F.type_list_extend mt_extend (pv 5) (af (pe_meth (pv 2) CK.cc.cl CK.m2 CK.f2 hr2 CK.b2 .nil pass0 (af (pv 6) (af (pv 7) (af (pc1 G5 F5 hr1 (af (pv 6) (af (pv 7) aD))) aD)))) aD)))))⟩))) cZ)⟩))))⟩
  (cP ⟨(cf (pv 4))⟩)))))),?_⟩
 refine ⟨_,rfl,fun x dx hx hdx nxd=>?_⟩;have S0:bH H (upd (upd H dx (.own x)) x (.ins C dx [])):=by
  have Sa:bH H (upd H dx (.own x)):=bH.put (bH.refl H) hdx;exact bH.put Sa (by rw [br (dB nxd)];exact hx)
 have hx0:(upd (upd H dx (.own x)) x (.ins C dx [])) x=some (.ins C dx []):=aQ;generalize upd (upd H dx (.own x)) x (.ins C dx [])=H0 at S0 hx0 ⊢;refine ⟨x,dx,v,b,m,sp,rfl,hx0,hv.same S0,N,LamT.same S0 hT0,LamT.same S0 hT1,fun l rg H1 st1 kp1 hT01 hT11 R cd1=>⟨rfl,?_⟩⟩;have f:=R.ff N;have fr:=R.fr;have lrg:rg.length≤40:=by
  have:rg.length=(oW sp l).length:=by rw [←R.ks,aa]
  have h2:(oW sp l).length≤sp.length:=by unfold oW;exact aM (cV _ _) (by rw [bh];exact aA _)
  lia
 have tl:l.length≤15:=by have:=fr.few E (by lia);lia
 have hlt:=f.acy.nodup.2;have st1':∀ a o,a≠T0→a≠T1→H a=some o→H1 a=some o:=fun a o n0 n1 e=>st1 a o n0 n1 (bC e hx) (S0 _ _ e)
 have kp1':Kp H H1:=(bH.kp S0).trans kp1;have hv1:=cO kp1'.tup hv;refine ⟨_,rfl,v,b,m,sp,rfl,hv1,N,hT01,fun Ls zsS l' S H2 tb2 hT02 fLs hLs dS fr' SO=>?_⟩;have el:l'=l:=i7.one fr' fr;subst el;have kp2:Kp H1 H2:=Tb.kp hT01 tb2;have hT12:=LamT.ntb hT11 hT01 (dB ne) tb2;have cd2:CutD H2 C x sp l' rg:=cd1.move kp2 fun o e=>tb2 x o (by
  obtain ⟨_,_,_,_,_,h1,_⟩:=cd1.ex;obtain ⟨ps,h⟩:=LamT.tbl hT01;exact fW h1 h nofun) e
 have st2:∀ a o,a≠T0→a≠T1→H a=some o→H2 a=some o:=fun a o n0 n1 e=>tb2 a o n0 (st1' a o n0 n1 e)
 have kp2':=kp1'.trans kp2;have hv2:=cO kp2.tup hv1;clear kp2 tb2 cd1 hT01 hT11 hv1 kp1' st1' kp1 st1 hv S0 fr' hx0;obtain ⟨dx',c0,tl',ol,ord,h1,h2,h3,h4,h5⟩:=cd2.ex;refine ⟨bg _,fun Lt hLt=>?_⟩;have S3:bH H2 (upd H2 Lt (.lst [])):=bH.put (bH.refl H2) hLt;have hLt3:(upd H2 Lt (.lst [])) Lt=some (.lst []):=aQ;generalize upd H2 Lt (.lst [])=H3 at S3 hLt3 ⊢;refine ⟨_,rfl,x,C,dx',_,_,rfl,S3 _ _ h1,CK.cc.cl,CK.cc.n1,rfl,szZ1,fun Ah hAh=>?_⟩;have hAh2:H2 Ah=none:=bH.free S3 hAh;have nLA:Lt≠Ah:=fun z=>by rw [←z,hLt3] at hAh;cases hAh
 have S4:bH H3 (upd H3 Ah (.lst [.ref c0])):=bH.put (bH.refl H3) hAh;have hAh4:(upd H3 Ah (.lst [.ref c0])) Ah=some (.lst [.ref c0]):=aQ;generalize upd H3 Ah (.lst [.ref c0])=H4 at S4 hAh4 ⊢;have S24:=S3.trans S4;have cl4:CsL H2 H4 [.ref c0] [(sp.map fun z=>(z.l,z.o),rg)]:=by
  obtain ⟨vb,u,rl,a1,a2,a3,a4⟩:=h2.ex;exact .cons ⟨c0,rfl,vb,u,rl,S24 _ _ a1,a2.same S24,a3,a4⟩ .nil
 have sz0:szC l' [(sp.map fun z=>(z.l,z.o),rg)]≤8191:=by
  have e:=kR l' hlt fun y hy=>(N.all y hy).lo
  have:=hcases l' fr;show (2 * fk (sp.map fun z=>(z.l,z.o)) l' - 1)+0≤8191;lia
 refine ⟨fun n σ Hc=>∃ (cs:List Cse) (Ts:List (List Int)) (zs tv:List V) (w6 w7:Option V),n=szC l' cs∧n≤8191∧σ=[some v,some (.int (most:Nat)),some (.ref x),some (.ref Ls),some (.ref Lt),some (.ref Ah),w6,w7]∧bH H2 Hc∧Hc Ah=some (.lst zs)∧CsL H2 Hc zs cs∧Hc Lt=some (.lst tv)∧dG Hc tv (cW id Ts)∧SrcI b m sp l' rg cs Ts∧Ts.length≤most,⟨_,_,[],_,[],_,_,rfl,sz0,rfl,S24,hAh4,cl4,S4 _ _ hLt3,.nil,SrcI.start N lrg,bg _⟩,?_⟩;clear cl4 hAh4 S4 S24 hLt3 S3 hAh sz0;rintro n σ Hc ⟨cs,Ts,zs,tv,w6,w7,rfl,n8,rfl,Sc,hAc,clc,hLc,dtv,I,hTs⟩;have lzs:zs.length=cs.length:=Paired.len clc;have ltv:tv.length=Ts.length:=by rw [dtv.length];unfold cW;rw [aa]
 have lcs:=szC_len hlt cs I.ok;have pF:fk (sp.map fun z=>(z.l,z.o)) l'≤4096:=by
  have e:=kR l' hlt fun y hy=>(N.all y hy).lo
  have:=hcases l' fr;lia
 have fin:(Ts.length<most∨most=4096→cs=[])→Q (.ref Lt) Hc:=fun he=>k Lt tv l' rg Ts Hc (fun a o n0 n1 e=>Sc _ _ (st2 a o n0 n1 e)) (kp2'.trans (bH.kp Sc)) (LamT.same Sc hT02) (LamT.same Sc hT12) hLc dtv R I.tabs hTs fun lt T hT=>by
  rcases I.hold T hT with h | ⟨c,hc,_⟩
  ·exact h
  ·rw [he lt] at hc;cases hc
 refine ⟨_,rfl,Ah,_,rfl,.inl (SqL.of hAc),_,_,rfl,rfl,_,rfl,?_⟩
 rcases List.eq_nil_or_concat cs with rfl | ⟨cs',c,rfl⟩
 ·have:zs=[]:=cK.mp lzs
  subst this;refine kd (by rfl) (iteF ⟨_,rfl,fin fun _=>rfl⟩)
 rw [List.concat_eq_append] at *;obtain ⟨zs',y,rfl,clc',q,rfl,ce⟩:=Paired.snoc_of clc;refine mO (qN (by rw [ar];show ((zs'.length+1:Nat):Int) > 0;lia)) ?_;refine ⟨_,rfl,Lt,_,rfl,.inl (SqL.of hLc),_,rfl,_,_,rfl,rfl,_,rfl,?_⟩
 by_cases hlm:Ts.length<most
 rotate_left
 ·exact kd (qO (by lia)) ⟨_,rfl,fin fun z=>qM z fun z=>by
   rcases z with z | z
   ·exact hlm z
   ·have h0:=I.cnt
    rw [oZ] at h0;have h1:=iY (I.ok c (by simp)).ob hlt;have e1:psC l' [c]=fk c.1 l'+0:=rfl;lia⟩
 refine mO (qN (by lia)) ⟨_,fun σ' H' z=>z,?_⟩;refine ⟨_,rfl,.inl ⟨rfl,_,SqL.of hAc⟩,Ah,_,.ref q,rfl,rfl,hAc,by rw [ar,bu (by simp)];simp,?_⟩;rw [fu];have K5:jL Hc (upd Hc Ah (.lst zs')):=eI hAc;have S5:bH H2 (upd Hc Ah (.lst zs')):=fun a o e=>by rw [br (bC e hAh2)];exact Sc _ _ e
 have hA5:(upd Hc Ah (.lst zs')) Ah=some (.lst zs'):=aQ;have hL5:(upd Hc Ah (.lst zs')) Lt=some (.lst tv):=by rw [br nLA];exact hLc
 have cl5:=CsL.keep K5 (show CsL H2 Hc zs' cs' from clc');have ce5:=ce.keep K5;have dtv5:=df K5 dtv;generalize upd Hc Ah (.lst zs')=H5 at K5 S5 hA5 hL5 cl5 ce5 dtv5 ⊢;have C:=I.ok c (by simp);have less:=I.less f;have lcs':cs'.length+1≤8191:=by rw [ar] at lcs;show cs'.length+[c].length≤8191;lia
 have lz':zs'.length=cs'.length:=Paired.len cl5;clear clc clc' ce hAc hLc dtv K5 lzs fin;refine ⟨_,rfl,_,rfl,v,q,b,m,sp,c.1,c.2,rfl,hv2.same S5,by lia,by have:=N.b2;lia,ce5.dn S5,C.few,fun z hz=>by rw [C.ob.len];exact ((f.rk z (C.sub z hz)).rg N tl).inn,fun r H6 S6 hd=>⟨rfl,_,rfl,?_⟩⟩;have S26:=S5.trans S6;have hA6:=S6 _ _ hA5;have hL6:=S6 _ _ hL5;have ce6:=ce5.keep (bH.tupK S6);have cl6:=CsL.keep (bH.tupK S6) cl5;have dtv6:=dtv5.same S6;clear ce5 cl5 dtv5 hA5 hL5
 rcases hd with ⟨rfl,al⟩ | ⟨z,hz,dz,hdz⟩
 rotate_left
 ·have:r≠ .non:=fun e=>by rw [e] at dz;cases dz
  refine kd (qO this) ?_;exact ⟨_,less,cs',Ts,zs',tv,_,_,rfl,by lia,rfl,S26,hA6,cl6,hL6,dtv6,I.dead N f hz hdz,hTs⟩
 refine mO (qN rfl) ?_;refine ⟨_,rfl,x,dx',_,rfl,S26 _ _ h1,rfl,_,rfl,x,q,sp,l',rg,c.2,c.1,rfl,cd2.same S26,ce6.dn S26,fun j hj=>by rw [C.ob.len];exact hlt j hj,by lia,fun fx=>?_,fun j hj hlj=>?_⟩
 ·refine ⟨_,rfl,rfl,_,rfl,mO (qN rfl) ?_⟩
  obtain ⟨vb,u,rl,a1,a2,a3,a4⟩:=ce6.ex;refine ⟨_,rfl,.inl ⟨rfl,_,SqL.of hL6⟩,_,rfl,_,rfl,_,rfl,q,_,_,_,rfl,rfl,SqT.of a1,aO (j:=0) rfl,v,vb,Ls,b,m,sp,c.1,zsS,S,rfl,hv2.same S26,by lia,by lia,m2,E,S26 _ _ hLs,dS.same S26,by have:=SO.len;lia,fun s' hs'=>⟨hlt _ (SO.inn s' hs').1,(SO.inn s' hs').2⟩,a2,C.ob.len,fun qt H7 S7 h7=>?_⟩;refine ⟨Lt,_,_,rfl,rfl,S7 _ _ hL6,bU (m:=4096) (by lia) (by decide),?_⟩;have K8:jL H7 (upd H7 Lt (.lst (tv++[.ref qt]))):=eI (S7 _ _ hL6);refine ⟨_,less,cs',Ts++[tabOf b sp c.1 m.toNat S],zs',tv++[.ref qt],_,_,rfl,by lia,rfl,fun a o e=>?_,?_,CsL.keep K8 (CsL.keep (bH.tupK S7) cl6),aQ,?_,I.leaf N f SO al fx,by rw [ar];exact hlm⟩
  ·rw [br (bC e hLt)];exact S7 _ _ (S26 _ _ e)
  ·rw [br (dB nLA)];exact S7 _ _ hA6
  ·refine df K8 ?_
   unfold cW;rw [aE];exact (dtv6.same S7).append (.cons (.tup h7 (dG.ints _)) .nil)
 ·refine ⟨_,rfl,rfl,_,rfl,kd (qO nofun) ?_⟩
  have hjb:j<c.1.length:=by rw [C.ob.len];exact hlt j hj
  refine ⟨_,rfl,.inl ⟨rfl,_,SqL.of hA6⟩,_,rfl,x,dx',_,rfl,S26 _ _ h1,rfl,_,rfl,_,rfl,_,rfl,_,rfl,q,j,c.1,c.2,rfl,ce6.dn S26,hjb,?_⟩;obtain ⟨a,ha⟩:∃ a,a=((c.1.getD j (0,0)).1+(c.1.getD j (0,0)).2) / 2:=⟨_,rfl⟩;rw [←ha];refine ⟨H2,x,q,j,a,sp,l',rg,c.2,c.1,rfl,S26,cd2,ce6.dn S26,hjb,C.ob.len,by rw [C.ob.len];exact nfew,fun L q1 q2 H7 S7 fL hL e1 e2=>?_⟩;have nLA2:L≠Ah:=fun z=>by rw [z,hA6] at fL;cases fL
  refine ⟨Ah,L,_,_,rfl,rfl,S7 _ _ hA6,hL,aM (m:=10000) (by show zs'.length+2≤10000;lia) (by decide),?_⟩;have K8:jL H7 (upd H7 Ah (.lst (zs'++[.ref q1,.ref q2]))):=eI (S7 _ _ hA6);obtain ⟨I',less'⟩:=I.cut N f lrg al hj (a:=a) (by lia) (by lia);refine ⟨_,less',_,Ts,_,tv,_,_,rfl,by lia,rfl,fun a o e=>?_,aQ,?_,?_,df K8 (dtv6.same S7),I',hTs⟩
  ·rw [br (bC e hAh2)];exact S7 _ _ (S26 _ _ e)
  ·exact Paired.app (CsL.keep K8 (CsL.keep (bH.tupK S7) cl6)) (.cons ⟨q1,rfl,e1.keep K8⟩ (.cons ⟨q2,rfl,e2.keep K8⟩ .nil))
  ·rw [br nLA];exact S7 _ _ hL6
abbrev sTreeF:cJ:=top 52
theorem oR:bY ["marks","trees","mark","one","other"] ["marks"] (defScope sTreeF):=by trivial
theorem ok_treeF (F:Fun K "tree_from" "tree_from" sTreeF f fd)(RV:mg "reversed" =none):cM P w K mg base CX0 1 f fd ["marks"] spTreeF:=by
 refine F.ok oR (by contradiction) (fun cdv A outer s H vs Q E hr h=>?_);obtain ⟨L,ys,ms,t,rfl,hL,dys,ems,hlw,few,k⟩:=h;refine ⟨_,PSl.h (aY ⟨(psZ 1 oR.nd (iQ aD))⟩
  (aY ⟨(ib bE rfl (pi_revL rfl RV (af (pv 0) aD)) (pgZ 2 oR.nd) (cy (fV (cw jJ (ixZ (pv 2)) jY (cG _)) (PSl.h (aY ⟨(psZ 3 oR.nd (o9 bc e7 eZ pj (pv 1)))⟩
  (aY ⟨(psZ 4 oR.nd (o9 bc e7 eZ pj (pv 1)))⟩
  (cP ⟨(gL (lh bc bP bO fH (pv 1) (af (cU kh (pv 2) (cY (af (pv 3) (af (pv 4) aD)))) aD)))⟩)))) (cy (gL (lh bc bP bO fH (pv 1) (af (pv 2) aD)))))))⟩
  (cP ⟨(cf (eJ gB (pv 1) bD (fun _ _=>rfl)))⟩))),?_⟩
 refine ⟨bg _,fun Lt hLt=>?_⟩;have nLL:L≠Lt:=bC hL hLt;have S1:bH H (upd H Lt (.lst [])):=bH.put (bH.refl H) hLt;have h1:(upd H Lt (.lst [])) Lt=some (.lst []):=aQ;generalize upd H Lt (.lst [])=H1 at S1 h1 ⊢;have lys:ys.length=ms.length:=by rw [dys.length,aa]
 have tot:ms.reverse.foldl stpT (some [])=some [t]:=by rw [ems];exact stp_pre t []
 refine ⟨_,rfl,L,ys,rfl,SqL.of (S1 _ _ hL),?_⟩;refine for_revL (K:=K) (a:=L) (xs:=ys) (fun i σ H2=>bH H H2∧∃ (zs:List V) (st:List Tq) (v2 v3 v4:Option V),σ=[some (.ref L),some (.ref Lt),v2,v3,v4]∧H2 Lt=some (.lst zs)∧(ms.reverse.take i).foldl stpT (some [])=some st∧dG H2 zs (st.reverse.map jR)∧st.length≤i∧∀ t∈st,pl (jR t)=true) ⟨S1,[],[],none,none,none,rfl,h1,rfl,.nil,aA _,fun _ h=>qM h (by simp)⟩ (fun i σ H2 _ ⟨S2,_⟩=>SqL.of (S2 _ _ hL)) ?_ ?_
 ·rintro i x σ H2 hx ⟨S2,zs,st,v2,v3,v4,rfl,hz,hst,dz,lst,pls'⟩
  have hi:i<ys.length:=by have:=(ao.mp hx).1;rwa [dU] at this
  have hm:ms.reverse[i]? =some (ms.reverse[i]'(by rw [dU];lia)):=gE _;obtain ⟨mk,hmk⟩:∃ mk,ms.reverse[i]? =some mk:=⟨_,hm⟩;clear hm;have dx:IsD H2 x (mrkD mk):=by
   have hj:ys.length - 1 - i<ys.length:=by lia
   rw [List.getElem?_reverse (by lia)] at hx;rw [List.getElem?_reverse (by lia)] at hmk;obtain ⟨y,hy,dy⟩:=(dys.same S2).at (i:=ys.length - 1 - i) (d:=mrkD mk) (by rw [ay,lys,hmk];rfl);rw [hx] at hy;cases hy;exact dy
  obtain ⟨st',est,est2⟩:=stp_at tot hmk hst;have lzs:zs.length≤10000:=by
   have:=dz.length;rw [aa,dU] at this;lia
  cases mk with
  | leaf d =>
   have e:st'= .leaf d::st:=by
    have:some (Tq.leaf d::st)=some st':=est;cases this;rfl
   subst e;obtain ⟨pd,w1,x1,ed,nw⟩:=hlw d (List.mem_reverse.mp (aP hmk));have dx:IsD H2 x d:=dx;rw [ed] at dx;obtain ⟨q,xs,rfl,hq,rq⟩:=IsD.tup_of dx;cases rq with
   | cons d0 rq =>
    cases d0;refine ⟨_,rfl,q,_,_,_,rfl,rfl,SqT.of hq,aO (j:=0) rfl,rfl,_,rfl,kd (qO (fun z=>nw (by injection z))) ?_⟩;refine ⟨_,rfl,.inl ⟨rfl,_,SqL.of hz⟩,_,rfl,Lt,zs,_,rfl,rfl,hz,(bU lzs (by decide)),?_⟩;have KC:jL H2 (upd H2 Lt (.lst (zs++[.ref q]))):=eI hz;refine ⟨fun a o e=>by rw [br (bC e hLt)];exact S2 _ _ e,zs++[.ref q],_,_,_,_,rfl,aQ,est2,?_,by rw [aN];lia,fun t ht=>?_⟩
    ·rw [eR,aE]
     refine (dG.keepP KC dz (mG _ fun t ht=>pls' t (List.mem_reverse.mp ht))).append (.cons ?_ .nil);rw [←ed] at dx;exact IsD.keepP KC dx pd
    ·rcases aI.mp ht with rfl | ht
     ·exact pd
     ·exact pls' t ht
  | cut kc ac =>
   obtain ⟨x1,y1,s1,rfl,e⟩:∃ x1 y1 s1,st=x1::y1::s1∧st'= .cut kc ac x1 y1::s1:=by
    rcases st with _ | ⟨x1,_ | ⟨y1,s1⟩⟩
    ·cases est
    ·cases est
    ·refine ⟨x1,y1,s1,rfl,?_⟩
     have:some (Tq.cut kc ac x1 y1::s1)=some st':=est;cases this;rfl
   subst e;have dx:IsD H2 x (.tup [.str "cut",.int (kc:Nat),.int ac]):=dx;obtain ⟨q,xs,rfl,hq,rq⟩:=IsD.tup_of dx;obtain rfl:xs=[.str "cut",.int (kc:Nat),.int ac]:=by
    cases rq with
    | cons d0 rq =>
     cases d0;cases rq with
     | cons d1 rq =>
      cases d1;cases rq with
      | cons d2 rq=>cases d2;cases rq;rfl
   rw [eR,eR,aE,aE] at dz;obtain ⟨zs1,vx,rfl,dz1,dvx⟩:=dG.snocD dz;obtain ⟨zs2,vy,rfl,dz2,dvy⟩:=dG.snocD dz1;have px:=pls' x1 (by simp);have py:=pls' y1 (by simp);refine ⟨_,rfl,q,_,_,_,rfl,rfl,SqT.of hq,aO (j:=0) rfl,rfl,_,rfl,mO (qN rfl) ?_⟩;refine ⟨_,rfl,.inl ⟨rfl,_,SqL.of hz⟩,Lt,_,vx,rfl,rfl,hz,by rw [ar,bu (by simp)];simp,?_⟩;rw [fu];have K3:jL H2 (upd H2 Lt (.lst (zs2++[vy]))):=eI hz;have S3:bH H (upd H2 Lt (.lst (zs2++[vy]))):=fun a o e=>by rw [br (bC e hLt)];exact S2 _ _ e
   have h3:(upd H2 Lt (.lst (zs2++[vy]))) Lt=some (.lst (zs2++[vy])):=aQ;generalize upd H2 Lt (.lst (zs2++[vy]))=H3 at K3 S3 h3 ⊢;refine ⟨_,rfl,.inl ⟨rfl,_,SqL.of h3⟩,Lt,_,vy,rfl,rfl,h3,by rw [ar,bu (by simp)];simp,?_⟩;rw [fu];have K4:jL H2 (upd H3 Lt (.lst zs2)):=K3.trans (eI h3);have S4:bH H (upd H3 Lt (.lst zs2)):=fun a o e=>by rw [br (bC e hLt)];exact S3 _ _ e
   have h4:(upd H3 Lt (.lst zs2)) Lt=some (.lst zs2):=aQ;generalize upd H3 Lt (.lst zs2)=H4 at K4 S4 h4 ⊢;refine ⟨_,rfl,.inl ⟨rfl,_,SqL.of h4⟩,_,rfl,_,rfl,_,rfl,oI,fun q5 H5 S5 h5=>?_⟩;refine ⟨q,q5,_,_,rfl,rfl,S5 _ _ (K4 _ _ hq),h5,szZ5,fun q6 H6 S6 h6=>?_⟩;have S46:=S5.trans S6;refine ⟨Lt,zs2,_,rfl,rfl,S46 _ _ h4,(bU (by rw [ar,ar] at lzs;lia:zs2.length≤10000) (by decide)),?_⟩;have K26:jL H2 H6:=fun a xs e=>S46 _ _ (K4 _ _ e)
   have KC:jL H6 (upd H6 Lt (.lst (zs2++[.ref q6]))):=eI (S46 _ _ h4);have K2C:=K26.trans KC;refine ⟨fun a o e=>by rw [br (bC e hLt)];exact S46 _ _ (S4 _ _ e),zs2++[.ref q6],_,_,_,_,rfl,aQ,est2,?_,by simp only [aN] at lst ⊢;lia,fun t ht=>?_⟩
   ·rw [eR,aE]
    refine (dG.keepP K2C dz2 (mG _ fun t ht=>pls' t (by simp [List.mem_reverse.mp ht]))).append (.cons ?_ .nil);exact .tup (KC _ _ h6) (.cons (.str _) (.cons (.int _) (.cons (.int _) (.cons (IsD.keepP K2C dvx px) (.cons (IsD.keepP K2C dvy py) .nil)))))
   ·rcases aI.mp ht with rfl | ht
    ·exact pl_cut px py
    ·exact pls' t (by simp [ht])
 ·rintro σ H2 ⟨S2,zs,st,v2,v3,v4,rfl,hz,hst,dz,lst,pls'⟩
  rw [lys,←dU,bq,tot] at hst;cases hst;cases dz with
  | cons d0 dn =>
   cases dn;exact ⟨_,rfl,Lt,_,_,_,rfl,rfl,SqL.of hz,aO (j:=0) rfl,k _ H2 S2 d0⟩
def pX (T0 T1:aq)(H H':Hp):Prop:=∀ a o,a≠T0→a≠T1→H a=some o→H' a=some o
theorem pX.trans (a:pX T0 T1 H H1)(b:pX T0 T1 H1 H2):pX T0 T1 H H2:=fun x o n0 n1 e=>b x o n0 n1 (a x o n0 n1 e)
theorem bH.stayT (a:bH H H'):pX T0 T1 H H':=fun x o _ _ e=>a x o e
inductive spLeafIn (v:V)(b m:Int)(sp:List Sn)(R:List (Int×Int)→Dt→Prop)(vs:List V)(H:Hp)(Q:VK)(_:XK):Prop
 | mk (l:List Nat)(rg:List (Nat×List Stp))(q:aq)(c:Cse)(_:vs=[.ref q])(_:FR m sp l rg)(_:CsD H q c.1 c.2)(_:jy b sp l rg c)(_:IsD H v (jA b m sp))(_:∀ r H',bH H H'→((∃ d,IsD H' r d∧LeafW d∧R c.1 d)∨(r= .non∧(∀ z∈c.2,jb b c.1 z.2=false)∧∃ k∈l,(c.1.getD k (0,0)).1<(c.1.getD k (0,0)).2))→Q r H')
inductive spTreeBy (P:aW)(w:bx)(K:au)(mg:Str→Option ae)(base:bL)(T0:aq)(p0:Pos)(q0:Str)(T1:aq)(p1:Pos)(q1:Str)(vs:List V)(H:Hp)(Q:VK)(_:XK):Prop
 | mk (v:V)(g:aq)(b m:Int)(sp:List Sn)(R:List (Int×Int)→Dt→Prop)(_:vs=[v,.ref g])(_:IsD H v (jA b m sp))(_:jD b m sp)(_:(∀ l,i7 m.toNat sp l→kx sp l≤4096))(_:L2.LamT T0 p0 q0 H)(_:L2.LamT T1 p1 q1 H)(_:LmOk P w K mg base 6 g (pX T0 T1 H) (spLeafIn v b m sp R))(_:∀ (u:V) (t:Tq) (H':Hp),pX T0 T1 H H'→Kp H H'→L2.LamT T0 p0 q0 H'→L2.LamT T1 p1 q1 H'→IsD H' u (jR t)→pl (jR t)=true→GoodT R t (sp.map fun z=>(z.l,z.o)) 21→siz t≤8191→Q u H')
section
variable {m:Int}{rg:List (Nat×List Stp)}{cs:List Cse}{c:Cse}
theorem sz_cut (f:FF m sp l rg)(lrg:rg.length≤40)(C:jy b sp l rg c)(al:∀ q∈c.2,jb b c.1 q.2=false){k:Nat}{a:Int}(hk:k∈l)(h1:(c.1.getD k (0,0)).1≤a)(h2:a<(c.1.getD k (0,0)).2)(hc:∀ d∈cs,jy b sp l rg d) :
  (∀ d∈cs++[(dX c.1 k a,rg.filter (iC k)),(km c.1 k a,rg.filter (iC k))],jy b sp l rg d)∧szC l (cs++[(dX c.1 k a,rg.filter (iC k)),(km c.1 k a,rg.filter (iC k))])<szC l (cs++[c])∧2≤fk c.1 l:=by
 have ht2:=f.acy.nodup.2;obtain ⟨o1,o2⟩:=C.cut lrg ht2 al hk h1 h2;have p1:0<fk (dX c.1 k a) l:=iY o1.ob ht2;have p2:0<fk (km c.1 k a) l:=iY o2.ob ht2;have e:=mF C.ob f.acy.nodup.1 ht2 hk h1 h2;refine ⟨fun d hd=>?_,?_,by lia⟩
 ·rcases aH.mp hd with z | z
  ·exact hc d z
  ·rcases aI.mp z with rfl | z
   ·exact o1
   ·rw [av.mp z];exact o2
 ·rw [mq,mq]
  show _+((2 * fk (dX c.1 k a) l - 1)+((2 * fk (km c.1 k a) l - 1)+0))<_+((2 * fk c.1 l - 1)+0);lia
theorem sz_less (f:FF m sp l rg)(C:jy b sp l rg c):szC l cs<szC l (cs++[c]):=by
 have:=iY C.ob f.acy.nodup.2;rw [mq];show _<_+((2 * fk c.1 l - 1)+0);lia
end
theorem siz_pre:∀ t:Tq,siz t=(pre t).length
 | .leaf _=>rfl
 | .cut k a x y=>by
  show siz x+siz y+1=(pre x++pre y).length+1;rw [ar,siz_pre x,siz_pre y]
theorem pls_appT:∀ (xs ys:List Dt),pls (xs++ys)=(pls xs && pls ys)
 | [],ys=>by show pls ys=(true && pls ys);rw [Bool.true_and]
 | x::xs,ys=>by
  show (pl x && pls (xs++ys))=((pl x && pls xs) && pls ys);rw [pls_appT xs ys,Bool.and_assoc]
theorem LmOk.mono {k:Nat}{sp:Sp}(L:LmOk P w K mg base j f Hf sp)(h:j≤k):LmOk P w K mg base k f Hf sp:=⟨L.isFn,fun A outer s H u v Q hr=>L.run A outer s H u v Q (hr.mono h)⟩
theorem pl_pre:∀ (t:Tq),(∀ d,Mrk.leaf d∈pre t→LeafW d)→pl (jR t)=true
 | .leaf d,h=>(h d (by simp [pre])).1
 | .cut k a x y,h=>pl_cut (pl_pre x fun d hd=>h d (by simp [pre,hd])) (pl_pre y fun d hd=>h d (by simp [pre,hd]))
abbrev sTreeB:cJ:=top 53
theorem kM:bY ["net","leaf_in","cuts","marks","ahead","case","mark","span","at"] pzu (defScope sTreeB):=by trivial
theorem ok_treeBy {f5 f6 fi g1 g2:aq}{fd5 fd6 di d1 d2:bp}(F:Fun K "tree_by" "tree_by" sTreeB f fd)(T:Nm mg)(CK:CutK P w K mg base T0 p0 q0 T1 p1 q1 C fi g1 g2 di d1 d2)
  (G5:Fn K mg "middle_of" sMid pzr f5 fd5) (G6:Fn K mg "tree_from" sTreeF ["marks"] f6 fd6) (F6:cM P w K mg base CX0 1 f6 fd6 ["marks"] spTreeF):cM P w K mg base CX0 11 f fd pzu (spTreeBy P w K mg base T0 p0 q0 T1 p1 q1):=by
 have F5:cM P w K mg base CX0 1 f5 fd5 pzr spMid:=ok_mid G5.F;refine F.ok kM (by contradiction) (fun cdv A outer s H vs Q E hr h=>?_);obtain ⟨v,g,b,m,sp,R,rfl,hv,N,hcases,hT0,hT1,LM,k⟩:=h;have hr1:gN 1 _:=hr.mono (by decide);have hr2:gN 2 _:=hr.mono (by decide);have hr6:gN 6 _:=hr.mono (by decide);have E:=N.ends;have nfew:=N.few;have m1:=N.m1;have m2:=N.m2;have nb1:=N.b1;refine ⟨_,PSl.h (aY ⟨(psZ 2 kM.nd (pe_make CK.mke CK.ini hr rfl CK.gl CK.bi .nil pass0 (af (pv 0) aD)))⟩
  (aY ⟨(psZ 3 kM.nd (iQ aD))⟩
  (aY ⟨(psZ 4 kM.nd (iQ (af (pe_fld (pv 2) rfl) aD)))⟩
  (aY ⟨(lR bE (cw pU (cp bV rfl T.len bF (af (pv 4) aD)) bD (cG _)) (PSl.h (aY ⟨(psZ 5 kM.nd (o9 bc e7 eZ pj (pv 4)))⟩
  (aY ⟨(psZ 6 kM.nd (pe_callV (i:=1) LM hr6 (pv 5)))⟩
  (aY ⟨(mE (fV (cw op_isN (pv 6) oh (cG _)) (PSl.h (aY ⟨(psZ 7 kM.nd (pe_meth (pv 2) CK.cc.cl CK.m1 CK.f1 hr1 CK.b1 .nil pass0 (af (pv 5) aD)))⟩
  (aY ⟨(psZ 8 kM.nd (pc1 G5 F5 hr1 (af (pv 5) (af (pv 7) aD))))⟩
  (aY ⟨(psZ 6 kM.nd (cY (af jY (af (pv 7) (af (pv 8) aD)))))⟩
  (cP ⟨(gL (lh bc PySem.F.slot_list_extend PySem.F.type_list_extend mt_extend (pv 4) (af (pe_meth (pv 2) CK.cc.cl CK.m2 CK.f2 hr2 CK.b2 .nil pass0 (af (pv 5) (af (pv 7) (af (pv 8) aD)))) aD)))⟩))))) cZ))⟩
  (cP ⟨(gL (lh bc bP bO fH (pv 3) (af (pv 6) aD)))⟩))))))⟩
  (cP ⟨(cf (pc1 G6 F6 hr1 (af (pv 3) aD)))⟩))))),?_⟩
 refine ⟨_,rfl,fun x dx hx hdx nxd=>?_⟩;have S0:bH H (upd (upd H dx (.own x)) x (.ins C dx [])):=by
  have Sa:bH H (upd H dx (.own x)):=bH.put (bH.refl H) hdx;exact bH.put Sa (by rw [br (dB nxd)];exact hx)
 have hx0:(upd (upd H dx (.own x)) x (.ins C dx [])) x=some (.ins C dx []):=aQ;generalize upd (upd H dx (.own x)) x (.ins C dx [])=H0 at S0 hx0 ⊢;refine ⟨x,dx,v,b,m,sp,rfl,hx0,hv.same S0,N,LamT.same S0 hT0,LamT.same S0 hT1,fun l rg H2 st1 kp1 hT02 hT12 RR cd2=>⟨rfl,?_⟩⟩;have f:=RR.ff N;have fr:=RR.fr;have lrg:rg.length≤40:=by
  have:rg.length=(oW sp l).length:=by rw [←RR.ks,aa]
  have h2:(oW sp l).length≤sp.length:=by unfold oW;exact aM (cV _ _) (by rw [bh];exact aA _)
  lia
 have tl:l.length≤15:=by have:=fr.few E (by lia);lia
 have hlt:=f.acy.nodup.2;have st2:pX T0 T1 H H2:=fun a o n0 n1 e=>st1 a o n0 n1 (bC e hx) (S0 _ _ e)
 have kp2':Kp H H2:=(bH.kp S0).trans kp1;have hv2:=cO kp2'.tup hv;clear st1 kp1 S0 hx0 hv;obtain ⟨dx',c0,tl',ol,ord,h1,h2,h3,h4,h5⟩:=cd2.ex;refine ⟨bg _,fun Lt hLt=>?_⟩;have S3:bH H2 (upd H2 Lt (.lst [])):=bH.put (bH.refl H2) hLt;have hLt3:(upd H2 Lt (.lst [])) Lt=some (.lst []):=aQ;generalize upd H2 Lt (.lst [])=H3 at S3 hLt3 ⊢;refine ⟨_,rfl,x,C,dx',_,_,rfl,S3 _ _ h1,CK.cc.cl,CK.cc.n1,rfl,szZ1,fun Ah hAh=>?_⟩;have hAh2:H2 Ah=none:=bH.free S3 hAh;have nLA:Lt≠Ah:=fun z=>by rw [←z,hLt3] at hAh;cases hAh
 have S4:bH H3 (upd H3 Ah (.lst [.ref c0])):=bH.put (bH.refl H3) hAh;have hAh4:(upd H3 Ah (.lst [.ref c0])) Ah=some (.lst [.ref c0]):=aQ;generalize upd H3 Ah (.lst [.ref c0])=H4 at S4 hAh4 ⊢;have S24:=S3.trans S4;have cl4:CsL H2 H4 [.ref c0] [(sp.map fun z=>(z.l,z.o),rg)]:=by
  obtain ⟨vb,u,rl,a1,a2,a3,a4⟩:=h2.ex;exact .cons ⟨c0,rfl,vb,u,rl,S24 _ _ a1,a2.same S24,a3,a4⟩ .nil
 have pr0:fk (sp.map fun z=>(z.l,z.o)) l≤4096:=by
  have e:=kR l hlt fun y hy=>(N.all y hy).lo
  have:=hcases l fr;lia
 have sz0:szC l [(sp.map fun z=>(z.l,z.o),rg)]+0≤8191:=by
  show (2 * fk (sp.map fun z=>(z.l,z.o)) l - 1)+0+0≤8191;lia
 have ok0:∀ c∈[(sp.map (fun z=>(z.l,z.o)),rg)],jy b sp l rg c:=(SrcI.start (b:=b) (l:=l) N lrg).ok;refine ⟨fun n σ Hc=>∃ (cs:List Cse) (ms:List Mrk) (zs mv:List V) (w5 w6 w7 w8:Option V),n=szC l cs∧n+ms.length≤8191∧σ=[some v,some (.ref g),some (.ref x),some (.ref Lt),some (.ref Ah),w5,w6,w7,w8]∧bH H2 Hc∧Hc Ah=some (.lst zs)∧CsL H2 Hc zs cs∧Hc Lt=some (.lst mv)∧dG Hc mv (ms.map mrkD)∧(∀ c∈cs,jy b sp l rg c)∧Wn R l (sp.map (fun z=>(z.l,z.o)),rg) ms cs.reverse∧(∀ d,Mrk.leaf d∈ms→LeafW d)∧pls (ms.map mrkD)=true,⟨_,_,[],_,[],_,_,_,_,rfl,sz0,rfl,S24,hAh4,cl4,S4 _ _ hLt3,.nil,ok0,Wn.start,fun _ h=>qM h (by simp),rfl⟩,?_⟩;clear cl4 hAh4 S4 S24 hLt3 S3 hAh sz0 ok0;rintro n σ Hc ⟨cs,ms,zs,mv,w5,w6,w7,w8,rfl,n8,rfl,Sc,hAc,clc,hLc,dmv,ok,W,lw,pm⟩;have lzs:zs.length=cs.length:=Paired.len clc;have lmv:mv.length=ms.length:=by rw [dmv.length,aa]
 have lcs:=szC_len hlt cs ok;refine ⟨_,rfl,Ah,_,rfl,.inl (SqL.of hAc),_,_,rfl,rfl,_,rfl,?_⟩
 rcases List.eq_nil_or_concat cs with rfl | ⟨cs',c,rfl⟩
 ·have:zs=[]:=cK.mp lzs
  subst this;obtain ⟨t,et,gt⟩:=Wn.fin W;refine kd (by rfl) ⟨_,rfl,Lt,mv,ms,t,rfl,hLc,dmv,et,lw,by lia,fun u H9 S9 h9=>?_⟩;have S29:=Sc.trans S9;refine k u t H9 (st2.trans (bH.stayT S29)) (kp2'.trans (bH.kp S29)) (LamT.same S29 hT02) (LamT.same S29 hT12) h9 (pl_pre t (by rw [←et];exact lw)) (gt 21 ?_) (by rw [siz_pre,←et];lia);have:2 ^ 21 * fk (sp.map fun z=>(z.l,z.o)) l≤2 ^ 21 * 4096:=Nat.mul_le_mul_left _ pr0;exact aM this (by decide)
 rw [List.concat_eq_append] at *;obtain ⟨zs',y,rfl,clc',q,rfl,ce⟩:=Paired.snoc_of clc;refine mO (qN (by rw [ar];show ((zs'.length+1:Nat):Int) > 0;lia)) ⟨_,fun σ' H' z=>z,?_⟩;refine ⟨_,rfl,.inl ⟨rfl,_,SqL.of hAc⟩,Ah,_,.ref q,rfl,rfl,hAc,by rw [ar,bu (by simp)];simp,?_⟩;rw [fu];have K5:jL Hc (upd Hc Ah (.lst zs')):=eI hAc;have S5:bH H2 (upd Hc Ah (.lst zs')):=fun a o e=>by rw [br (bC e hAh2)];exact Sc _ _ e
 have hA5:(upd Hc Ah (.lst zs')) Ah=some (.lst zs'):=aQ;have hL5:(upd Hc Ah (.lst zs')) Lt=some (.lst mv):=by rw [br nLA];exact hLc
 have cl5:=CsL.keep K5 (show CsL H2 Hc zs' cs' from clc');have ce5:=ce.keep K5;have dmv5:=dG.keepP K5 dmv pm;generalize upd Hc Ah (.lst zs')=H5 at K5 S5 hA5 hL5 cl5 ce5 dmv5 ⊢;have C':=ok c (by simp);have less:=sz_less (cs:=cs') f C';rw [List.reverse_append] at W;have W:Wn R l (sp.map (fun z=>(z.l,z.o)),rg) ms (c::cs'.reverse):=W;have ok':∀ d∈cs',jy b sp l rg d:=fun d hd=>ok d (aJ _ hd)
 have lcs':cs'.length+1≤8191:=by rw [ar] at lcs;show cs'.length+[c].length≤8191;lia
 have lz':zs'.length=cs'.length:=Paired.len cl5;have stH5:pX T0 T1 H H5:=st2.trans (bH.stayT S5);clear clc clc' ce hAc hLc dmv K5 lzs ok;refine ⟨rfl,stH5,_,rfl,stH5,l,rg,q,c,rfl,RR,ce5.dn S5,C',hv2.same S5,fun r H6 S6 hd=>?_⟩;have S26:=S5.trans S6;have hA6:=S6 _ _ hA5;have hL6:=S6 _ _ hL5;have ce6:=ce5.keep (bH.tupK S6);have cl6:=CsL.keep (bH.tupK S6) cl5;have dmv6:=dmv5.same S6;clear ce5 cl5 dmv5 hA5 hL5 stH5;refine ⟨fun σ' H'=>∃ (cs2:List Cse) (mk:Mrk) (zs2:List V) (v6:V) (w7 w8:Option V),szC l cs2<szC l (cs'++[c])∧σ'=[some v,some (.ref g),some (.ref x),some (.ref Lt),some (.ref Ah),some (.ref q),some v6,w7,w8]∧bH H2 H'∧H' Ah=some (.lst zs2)∧CsL H2 H' zs2 cs2∧H' Lt=some (.lst mv)∧dG H' mv (ms.map mrkD)∧IsD H' v6 (mrkD mk)∧(∀ c∈cs2,jy b sp l rg c)∧Wn R l (sp.map (fun z=>(z.l,z.o)),rg) (ms++[mk]) cs2.reverse∧(∀ d,mk= .leaf d→LeafW d)∧pl (mrkD mk)=true,?_,?_⟩
 ·rintro σ' H7 ⟨cs2,mk,zs2,v6,w7,w8,less2,rfl,S7,hA7,cl7,hL7,dm7,d6,ok2,W2,lw2,pm2⟩
  refine ⟨_,rfl,.inl ⟨rfl,_,SqL.of hL7⟩,_,rfl,Lt,mv,_,rfl,rfl,hL7,(bU (by lia:mv.length≤10000) (by decide)),?_⟩;have K8:jL H7 (upd H7 Lt (.lst (mv++[v6]))):=eI hL7;refine ⟨_,less2,cs2,ms++[mk],zs2,mv++[v6],_,_,_,_,rfl,by rw [ar];show _+(ms.length+1)≤8191;lia,rfl,fun a o e=>by rw [br (bC e hLt)];exact S7 _ _ e,by rw [br (dB nLA)];exact hA7,CsL.keep K8 cl7,aQ,?_,ok2,W2,fun d hd=>?_,?_⟩
  ·rw [aE]
   exact (dG.keepP K8 dm7 pm).append (.cons (IsD.keepP K8 d6 pm2) .nil)
  ·rcases aH.mp hd with z | z
   ·exact lw d z
   ·exact lw2 d (av.mp z).symm
  ·rw [aE,pls_appT,pm,Bool.true_and]
   show (pl (mrkD mk) && true)=true;rw [pm2];rfl
 refine ⟨_,rfl,rfl,_,rfl,?_⟩
 rcases hd with ⟨d,dr,dw,dR⟩ | ⟨rfl,al,k0,hk0,hlk0⟩
 ·have nr:r≠ .non:=fun e=>by
   obtain ⟨_,w',x',ed,_⟩:=dw;rw [e,ed] at dr;cases dr
  refine kd (qO nr) ?_;exact ⟨cs',.leaf d,zs',r,_,_,less,rfl,S26,hA6,cl6,hL6,dmv6,dr,ok',W.leaf dR,(fun d' e=>by cases e;exact dw),dw.1⟩
 refine mO (qN rfl) ?_;refine ⟨_,rfl,x,dx',_,rfl,S26 _ _ h1,rfl,_,rfl,x,q,sp,l,rg,c.2,c.1,rfl,cd2.same S26,ce6.dn S26,fun j hj=>by rw [C'.ob.len];exact hlt j hj,by lia,fun fx=>qM hlk0 (fx k0 hk0),fun j hj hlj=>?_⟩;have hjb:j<c.1.length:=by rw [C'.ob.len];exact hlt j hj
 refine ⟨_,rfl,_,rfl,q,j,c.1,c.2,rfl,ce6.dn S26,hjb,?_⟩;obtain ⟨a,ha⟩:∃ a,a=((c.1.getD j (0,0)).1+(c.1.getD j (0,0)).2) / 2:=⟨_,rfl⟩;rw [←ha];refine ⟨_,rfl,_,rfl,(by show 3≤aZ;decide),fun qm H7 S7 hm7=>?_⟩;have S27:=S26.trans S7;refine ⟨_,rfl,.inl ⟨rfl,_,SqL.of (S7 _ _ hA6)⟩,_,rfl,x,dx',_,rfl,S27 _ _ h1,rfl,_,rfl,_,rfl,_,rfl,H2,x,q,j,a,sp,l,rg,c.2,c.1,rfl,S27,cd2,(ce6.keep (bH.tupK S7)).dn S27,hjb,C'.ob.len,by rw [C'.ob.len];exact nfew,fun L q1 q2 H8 S8 fL hL e1 e2=>?_⟩;have nLA2:L≠Ah:=fun z=>by rw [z,S7 _ _ hA6] at fL;cases fL
 have hA8:=S8 _ _ (S7 _ _ hA6);refine ⟨Ah,L,_,_,rfl,rfl,hA8,hL,aM (m:=10000) (by show zs'.length+2≤10000;lia) (by decide),?_⟩;have K9:jL H8 (upd H8 Ah (.lst (zs'++[.ref q1,.ref q2]))):=eI hA8;have K68:jL H6 H8:=fun a xs e=>S8 _ _ (S7 _ _ e)
 obtain ⟨okn,lessn,p2⟩:=sz_cut f lrg C' al hj (a:=a) (by lia) (by lia) ok';obtain ⟨mid1,mid2⟩:=prodC_mid C'.ob f.acy.nodup.1 hlt hj hlj ha;refine ⟨_,.cut j a,_,.ref qm,_,_,lessn,rfl,fun a o e=>?_,aQ,?_,?_,?_,?_,okn,?_,(fun d e=>by cases e),rfl⟩
 ·rw [br (bC e hAh2)];exact S8 _ _ (S27 _ _ e)
 ·exact Paired.app (CsL.keep K9 (CsL.keep K68 cl6)) (.cons ⟨q1,rfl,e1.keep K9⟩ (.cons ⟨q2,rfl,e2.keep K9⟩ .nil))
 ·rw [br nLA];exact S8 _ _ (S7 _ _ hL6)
 ·exact dG.keepP K9 (dG.keepP K68 dmv6 pm) pm
 ·exact .tup (K9 _ _ (S8 _ _ hm7)) (.cons (.str _) (.cons (.int _) (.cons (.int _) .nil)))
 ·rw [List.reverse_append]
  exact W.cut hjb (by lia) (by lia) p2 mid1 mid2
abbrev sCases:cJ:=top 25
theorem nZ.nats (a:nZ m sp ns):∃ (l π:List Nat),ns=l.map (fun (i:Nat)=>(i:Int))∧Ordd sp π∧l.Perm (kB sp m π).2:=by
 obtain ⟨π,o,p,_⟩:=a;have nn:∀ x∈ns,0≤x:=fun x hx=>by
  obtain ⟨i,_,rfl⟩:=bb.mp (p.mem_iff.mp hx);lia
 refine ⟨ns.map Int.toNat,π,?_,o,?_⟩
 ·rw [c9]
  conv=>lhs;rw [←List.map_id ns]
  exact iS fun x hx=>(fJ (nn x hx)).symm
 ·have q:=p.map Int.toNat
  rw [c9] at q;have e:((kB sp m π).2.map (Int.toNat ∘ fun (i:Nat)=>(i:Int)))=(kB sp m π).2:=by
   conv=>rhs;rw [←List.map_id (kB sp m π).2]
   exact iS fun x _=>rfl
  rw [e] at q;exact q
theorem gone_few (E:kG m sp)(h:∀ i∈π,i<sp.length):(kB sp m π).2.length≤m:=by
 obtain ⟨D,_,_,l⟩:=gone_cnt E π (jK m) [] (ke m) h (Cnt.start m);have l:D.length+(kB sp m π).2.length=m:=l;lia
theorem gone_lt (h:∀ i∈π,i<sp.length):∀ i∈(kB sp m π).2,i<sp.length:=fun i hi=>by
 rcases (jU sp π (jK m,[])).1 i hi with z | z
 ·cases z
 ·exact h i z
def WOk (sp:List Sn):Prop:=∀ x∈sp,0≤x.o - x.l∧x.o - x.l+1≤10 ^ 61
theorem jD.wok {m:Int}(N:jD b m sp)(h:b≤10 ^ 61):WOk sp:=fun x hx=>by
 have s:=N.all x hx;have:=s.lo;have:=s.ob;lia
theorem prodW_abs {sp:List Sn}(w:WOk sp):∀ {l:List Nat},(∀ i∈l,i<sp.length)→(kx sp l).natAbs≤(10 ^ 61) ^ l.length
 | [],_=>by show 1≤(10 ^ 61) ^ 0;decide
 | i::l,h=>by
  rw [nR,Int.natAbs_mul,aN,Nat.pow_succ,iJ ((10 ^ 61) ^ l.length)];refine Nat.mul_le_mul ?_ (prodW_abs w fun j hj=>h j (az _ hj));have:=w _ (fc (h i bJ));show ((sAt sp i).o - (sAt sp i).l+1).natAbs≤_;lia
theorem pow_33 {k:Nat}(h:n≤(10 ^ 61) ^ k)(hk:k≤16):n<10 ^ 1000:=by
 refine bU h ?_;rw [←Nat.pow_mul];exact Nat.pow_lt_pow_right (by decide) (by lia)
inductive spCases (T:aq)(lp:Pos)(lq:Str)(vs:List V)(H:Hp)(Q:VK)(_:XK):Prop
 | mk (v b m sp:_)(_:vs=[v])(_:IsD H v (jA b m sp))(_:jD b m sp)(_:b≤10 ^ 61)(_:L2.LamT T lp lq H)(_:∀ H' (l:List Nat),L2.Tb T H H'→L2.LamT T lp lq H'→i7 m.toNat sp l→Q (.int (kx sp l)) H')
theorem scCases:bY ["net","cases","span"] pza (defScope sCases):=by trivial
theorem ok_cases (F:Fun K "cases_of" "cases_of" sCases f fd)(G1:Fn K mg "forest_of" lH pza f1 fd1)(F1:cM P w K mg base CX0 6 f1 fd1 pza (kL Tb0 lp lq))(G2:Fn K mg "width_of" sWidth pzd f2 fd2) :
  cM P w K mg base CX0 7 f fd pza (spCases Tb0 lp lq):=by
 have F2:cM P w K mg base CX0 1 f2 fd2 pzd spWidth:=ok_width G2.F;refine F.ok scCases (by contradiction) (fun cdv A outer s H vs Q E hr h=>?_);obtain ⟨v,b,m,sp,rfl,hv,N,b33,hT,k⟩:=h;have hr1:gN 1 _:=hr.mono (by decide);have E:=N.ends;have m2:=N.m2;have m1:=N.m1;have wk:=N.wok b33;refine ⟨_,PSl.h (aY ⟨(psZ 1 scCases.nd bD)⟩
  (aY ⟨(ib bE rfl (lI (pc1 G1 F1 hr (af (pv 0) aD))) (pgZ 2 scCases.nd) (cy (ps_aug (i:=1) scCases.nd rfl (.inl rfl) (cU gX (pc1 G2 F2 hr1 (af (pv 0) (af (pv 2) aD))) bD) ip_mulG)))⟩
  (cP ⟨(cf (pv 1))⟩))),?_⟩
 refine ⟨_,rfl,v,b,m,sp,rfl,hv,N,hT,fun u H1 ns tb hT1 hu F0=>?_⟩;obtain ⟨l,π,rfl,O,pm⟩:=F0.nats;have hp:∀ i∈π,i<sp.length:=fun i hi=>O.lt hi
 have hlt:∀ i∈l,i<sp.length:=fun i hi=>gone_lt hp i (pm.mem_iff.mp hi)
 have few:l.length≤16:=by have:=gone_few E hp;rw [pm.length_eq];lia
 have hv1:=cO (Tb.tupK (LamT.tbl hT) tb) hv;rw [c9] at hu;refine ⟨u,rfl,⟨_,SqT.of hu⟩,?_⟩;refine for_tup (K:=K) (a:=u) (xs:=l.map (V.int ∘ fun (i:Nat)=>(i:Int))) (fun i σ HA=>HA=H1∧∃ v2,σ=[some v,some (.int (kx sp (l.take i))),v2]) ⟨rfl,none,rfl⟩ (fun i σ HA _ ⟨e,_⟩=>by rw [e];exact SqT.of hu) ?_ ?_
 ·rintro i x σ HA hx ⟨rfl,v2,rfl⟩
  rw [ay] at hx;obtain ⟨j,hj,rfl⟩:=aS.mp hx;have hjl:=aP hj;have hjn:=hlt j hjl;have w0:=wk _ (fc hjn);refine ⟨_,rfl,_,rfl,_,rfl,v,b,m,sp,j,sAt sp j,rfl,hv1,i8 hjn,_,_,rfl,rfl,?_⟩;refine ⟨_,_,rfl,rfl,⟨?_,?_⟩,rfl,some (.int j),?_⟩
  ·exact pow_33 (prodW_abs wk (l:=l.take i) fun k hk=>hlt k (jO hk)) (by rw [bK];lia)
  ·exact pow_33 (k:=1) (by rw [Nat.pow_one];lia) (by decide)
  ·rw [bj,hj]
   show _=[some v,some (.int (kx sp (l.take i++[j]))),_];rw [prodW_snoc];rfl
 ·rintro σ HA ⟨rfl,v2,rfl⟩
  rw [aa,bq];exact ⟨_,rfl,k HA l tb hT1 ⟨F0,π,O,pm⟩⟩
theorem pQ {sp:List Sn}:∀ {ws:List Stp} {x y:Int},oo sp x ws y→(∀ (h:0<ws.length),kl sp ws[0]=x)∧(∀ (h:0<ws.length),eY sp (ws[ws.length - 1]'(Nat.sub_lt h Nat.one_pos))=y)∧∀ i (h:i+1<ws.length),eY sp ws[i]=kl sp ws[i+1]
 | [],_,_,_=>⟨fun h=>qM h (by simp),fun h=>qM h (by simp),fun i h=>qM h (by simp)⟩
 | [s],x,y,⟨a,b⟩=>⟨fun _=>a,fun _=>b,fun i h=>qM h (by simp)⟩
 | s::s'::ws,x,y,⟨a,b⟩=>by
  obtain ⟨f,l,n⟩:=pQ (ws:=s'::ws) b;refine ⟨fun _=>a,fun _=>?_,fun i h=>?_⟩
  ·have:=l (by simp)
   simpa using this
  ·cases i with
   | zero=>exact (f (by simp)).symm
   | succ i=>exact n i (by simpa using h)
def RDead (b:Int)(sp:List Sn)(bs:List (Int×Int))(d:Dt):Prop:=∃ p:List Stp,d=leafP (.ring p)∧Rg sp p∧jb b bs p=true
theorem qu (p:List Stp):LeafW (leafP (.ring p)):=⟨by show (true && (pl (oj p) && true))=true;rw [show pl (oj p)=true from o6 _ _];rfl,"ring",oj p,rfl,by decide⟩
theorem ps_outL:PS X st (fun _ _ _=>False):=fun _ _ _ _ _ _ h=>h.elim
abbrev jX:cJ:=top 54
def lamE5:List cJ→Expr
 | [_,_,_,_,.Return (some (.Tuple [_,.Call _ [_,e] _ _] _ _)) _]=>e
 | _=> .Constant .none 0 ⟨0,0,0,0⟩
def lamP5:Expr→Pos
 | .Lambda _ _ _ p=>p
 | _=>⟨0,0,0,0⟩
def lamS5:Expr→fO
 | .Lambda _ _ s _=>s
 | _=>{ kind:= .function,names:=[],isGenerator:=false,isCoroutine:=false }
def lamA5:Expr→gP
 | .Lambda a _ _ _=>a
 | _=>{ posonlyargs:=[],args:=[],vararg:=none,kwonlyargs:=[],kw_defaults:=[],kwarg:=none,defaults:=[] }
def lamB5:Expr→Expr
 | .Lambda _ e _ _=>e
 | e=>e
abbrev laT:gP:=lamA5 (lamE5 (gh jX))
abbrev lbT:Expr:=lamB5 (lamE5 (gh jX))
abbrev lpT:Pos:=lamP5 (lamE5 (gh jX))
abbrev lsT:fO:=lamS5 (lamE5 (gh jX))
abbrev lqT:Str:=(("table_for" :Str) ++ ".<locals>.") ++ "<lambda>"
theorem ptF_same (N:∀ b o,fz b=some o→H b=none):bH H (ptF H fz):=fun a o e=>by
 cases q:fz a with
 | none=>rw [gU q];exact e
 | some o'=>rw [N a o' q] at e;cases e
theorem ctF_kp (F:Fz fz H):Kp H (ctF H fz):=⟨fun q xs e=>F.cut e (fun _ z=>by cases z),fun q xs e=>F.cut e (fun _ z=>by cases z),fun q _ xs e=>F.cut e (fun _ z=>by cases z)⟩
theorem ptF_back (F:Fz fz H)(S:bH (ctF H fz) H'):bH H (ptF H' fz):=fun a o e=>by
 cases q:fz a with
 | some o'=>rw [F a o' q] at e;cases e;exact qg q
 | none=>rw [gU q];exact S a o (by rw [ir q];exact e)
theorem LamT.cutF {T:aq}(F:Fz fz H)(cl:∀ c o,fz c=some o→∃ v,o.data= .cell v)(h:L2.LamT T lp lq H):L2.LamT T lp lq (ctF H fz):=by
 rcases h with h | ⟨c,h,oc,vs,t,e,hd,r⟩
 ·exact .inl (F.cut h (fun _ z=>by cases z))
 ·refine .inr ⟨c,F.cut h (fun _ z=>by cases z),oc,vs,t,?_,hd,r⟩
  cases q:fz c with
  | none=>rw [ir q];exact e
  | some o' =>
   obtain ⟨v,hv⟩:=cl c o' q;rw [F c o' q] at e;cases e;rw [hd] at hv;cases hv
theorem LmOk.imp {k:Nat}{Hg:Hp→Prop}{sp:Sp}(L:LmOk P w K mg base k f Hf sp)(h:∀ H,Hg H→Hf H):LmOk P w K mg base k f Hg sp:=⟨fun H hh g=>L.isFn H hh (h H g),fun A outer s H u v Q hr e0 g=>L.run A outer s H u v Q hr e0 (h H g)⟩
inductive oO (T0:aq)(p0:Pos)(q0:Str)(T1:aq)(p1:Pos)(q1:Str)(T2:aq)(vs:List V)(H:Hp)(Q:VK)(_:XK):Prop
 | mk (v:V)(b m:Int)(sp:List Sn)(_:vs=[v])(_:IsD H v (jA b m sp))(_:jD b m sp)(_:(∀ l,i7 m.toNat sp l→kx sp l≤4096))(_:L2.LamT T0 p0 q0 H)(_:L2.LamT T1 p1 q1 H)(_:L2.LamT T2 lpT lqT H)(_:∀ (q:aq) (H':Hp),(∀ a o,a≠T0→a≠T1→a≠T2→H a=some o→H' a=some o)→Kp H H'→L2.LamT T0 p0 q0 H'→L2.LamT T1 p1 q1 H'→L2.LamT T2 lpT lqT H'→((∃ (qt:aq) (t:List Int),H' q=some (.tup [.str "table",.ref qt])∧H' qt=some (.tup (t.map V.int))∧nX b m sp t)∨∃ (u:V) (t:Tq),H' q=some (.tup [.str "none",u])∧IsD H' u (jR t)∧pl (jR t)=true∧(∀ T,¬ lr b T sp=true)∧GoodT (RDead b sp) t (sp.map fun z=>(z.l,z.o)) 21∧siz t≤8191)→Q (.ref q) H')
theorem ps_out:PS X st (fun _ _ _=>False):=fun _ _ _ _ _ _ h=>h.elim
theorem scTabFor:bY ["net","many","tables"] pza (defScope jX):=by trivial
theorem ok_tabForN {c T2:aq}(F:Fun K "table_for" "table_for" jX f fd)(hcd:fd.code= .ref c)(CH:fI K c T2=true)(B:BM mg base)(T:Nm mg)(MC:∃ t,mg "MOST_CASES" =some (.int 4096 t))(ne:T0≠T1)(n2:T2≠T0)(n3:T2≠T1)
  (G1:Fn K mg "cases_of" sCases pza f1 fd1) (F1:cM P w K mg base CX0 7 f1 fd1 pza (spCases T0 p0 q0))
  (G2:Fn K mg "tables_that_fit" sTabF pzn f2 fd2) (F2:cM P w K mg base CX0 11 f2 fd2 pzn (spTabF T0 p0 q0 T1 p1 q1))
  (G3:Fn K mg "tree_by" sTreeB pzu f3 fd3) (F3:cM P w K mg base CX0 11 f3 fd3 pzu (spTreeBy P w K mg base T0 p0 q0 T1 p1 q1))
  (G4:Fn K mg "dead_leaf" sDeadL pzl f4 fd4) (F4:cM P w K mg base CX0 4 f4 fd4 pzl spDeadL):cM P w K mg base CX0 12 f fd pza (oO T0 p0 q0 T1 p1 q1 T2):=by
 refine okC F hcd scTabFor (by contradiction) (fun A outer s H vs Q E hr h=>?_);obtain ⟨v,b,m,sp,rfl,hv,N,hc,hT0,hT1,hT2,k⟩:=h;have hr7:gN 7 _:=hr.mono (by decide);refine ⟨_,PSl.h (aY ⟨(psZ 1 scTabFor.nd (pc1 G1 F1 hr7 (af (pv 0) aD)))⟩
  (aY ⟨(fV (cw pU (pv 1) (pe_gint MC) (cG _)) (cy ps_out) cZ)⟩
  (aY ⟨(psZ 2 scTabFor.nd (pc1 G2 F2 hr (af (pv 0) (af bD aD))))⟩
  (aY ⟨(fV (cw pU (cp bV rfl T.len bF (af (pv 2) aD)) bD (cG _)) (cy (cf (cY (af jY (af (eJ gB (pv 2) bD (fun _ _=>rfl)) aD))))) cZ)⟩
  (cP ⟨(cf (cY (af jY (af (pe_callZ (scope:=lsT) (fr:=pza) (js:=[0]) F3 hr (fun _=>rfl) rfl G3.mg G3.F.kp G3.b rfl (by trivial) (by exists jX) (af (pv 0) (af (pe_lam (T:=T2) rfl rfl CH B (by exists jX)) aD))) aD))))⟩))))),?_⟩
 refine ⟨_,rfl,v,b,m,sp,rfl,hv,N,by have:=N.b2;lia,hT0,fun H1 l tb1 hT01 fr=>?_⟩;have kp1:=Tb.kp hT0 tb1;have hT11:=LamT.ntb hT1 hT0 (dB ne) tb1;have hT21:=LamT.ntb hT2 hT0 n2 tb1;have cl:=hc l fr;refine ⟨_,rfl,_,_,rfl,rfl,_,rfl,kd (qO (by lia)) ?_⟩;refine ⟨_,rfl,v,b,m,sp,1,rfl,cO kp1.tup hv,N,by decide,hc,hT01,hT11,fun L tv l' rg Ts H2 st2 kp2 hT02 hT12 hL dL R tabs few hold=>?_⟩;have hT22:L2.LamT T2 lpT lqT H2:=by
  obtain ⟨ps0,e0⟩:=LamT.tbl hT01;obtain ⟨ps1,e1⟩:=LamT.tbl hT11
  rcases hT21 with h | ⟨c',h,oc,vs,t,e,r⟩
  ·exact .inl (st2 _ _ n2 n3 h)
  ·exact .inr ⟨c',st2 _ _ n2 n3 h,oc,vs,t,st2 _ _ (fW e e0 nofun) (fW e e1 nofun) e,r⟩
 have ltv:tv.length=Ts.length:=by rw [dL.length];unfold cW;rw [aa]
 refine ⟨_,rfl,L,_,rfl,.inl (SqL.of hL),_,_,rfl,rfl,_,rfl,?_⟩;cases Ts with
 | cons t Ts =>
  refine mO (qN (by rw [ltv,aN];show ((Ts.length+1:Nat):Int) > 0;lia)) ?_;cases dL with
  | cons d0 ds =>
   rename_i y ys;obtain ⟨qt,qs,rfl,hq,rq⟩:=IsD.tup_of d0;have eq:=rq.ints_of;subst eq;refine ⟨_,rfl,L,_,_,_,rfl,rfl,SqL.of hL,aO (j:=0) rfl,oI,fun q H3 S3 h3=>?_⟩;exact k q H3 (fun a o n0 n1 _ e=>S3 _ _ (st2 a o n0 n1 (tb1 a o n0 e))) (kp1.trans (kp2.trans (bH.kp S3))) (LamT.same S3 hT02) (LamT.same S3 hT12) (LamT.same S3 hT22) (.inl ⟨qt,t,h3,S3 _ _ hq,tabs t (by simp)⟩)
 | nil =>
  refine kd (qO (by rw [ltv];decide)) ?_;have nof:∀ T',¬ lr b T' sp=true:=fun T' hT'=>by
   obtain ⟨t,ht,_⟩:=hold (.inl (by decide)) T' hT';cases ht
  have hv2:=cO kp2.tup (cO kp1.tup hv);refine ⟨_,rfl,hT22,fun g cl' H3 tb3 hT23 LF LE=>⟨cl',[v],LE,rfl,fun fz C0 N0=>?_⟩⟩;have kp3:=Tb.kp hT22 tb3;have hT03:=LamT.ntb hT02 hT22 (dB n2) tb3;have hT13:=LamT.ntb hT12 hT22 (dB n3) tb3;have SP:=ptF_same N0;have hT04:=LamT.same SP hT03;have hT14:=LamT.same SP hT13;have LF:LamF lqT laT lbT lsT cl' g H3:=LF;have LF4:=LF.same SP;have hv4:=(cO kp3.tup hv2).same SP;have m2:=N.m2;have m1:=N.m1;have LM:LmOk P w K mg base 6 g (pX T0 T1 (ptF H3 fz)) (spLeafIn v b m sp (RDead b sp)):=by
   refine LmOk.mono (j:=5) (LmOk.imp (lam_run (k:=4) (q:=lqT) (params:=laT) (body:=lbT) (scope:=lsT) (cl:=cl') (fz:=fz) (x := "case") (fr:=pza) (ws:=[v]) (fun _ _ _ _=>rfl) rfl rfl rfl (by trivial) rfl (by decide) C0 (fun y hy hf=>?_) (by trivial) (fun L' cd A' outer' s' H' hr'=>pc1 G4 F4 hr' (af (pv 1) (af (pv 0) aD))) (fun v' Hx Qx _ Zx hsp=>?_)) fun Hx st=>?_) (by decide)
   ·have e:y.1 = "net" := (by trivial:∀ y:Str×cL,y∈lsT.names→y.2=cL.free→y.1 = "net") y hy hf
    obtain ⟨cc,_,_,ec,_⟩:=C0.val 0 "net" v rfl rfl;exact ⟨cc,by rw [e];exact ec⟩
   ·obtain ⟨l2,rg2,q2,c2,e2,R2,cd2,ok2,hvx,kk⟩:=hsp
    cases e2;have KX:=ctF_kp Zx;have f2:=R2.ff N;have tl:l2.length≤15:=by have:=R2.fr.few N.ends (by lia);lia
    refine ⟨_,rfl,_,rfl,v,q2,b,m,sp,c2.1,c2.2,rfl,cO KX.tup hvx,by have:=N.b1;lia,by have:=N.b2;lia,cd2.kp KX,ok2.few,fun z hz=>by rw [ok2.ob.len];exact ((f2.rk z (ok2.sub z hz)).rg N tl).inn,fun r H' S' hd fr'=>?_⟩;refine kk r _ (ptF_back Zx S') ?_
    rcases hd with ⟨rfl,al⟩ | ⟨z,hz,dz,hdz⟩
    ·refine .inr ⟨rfl,al,dJ fun nz=>?_⟩
     have ht2:=f2.acy.nodup.2;have fix:∀ j∈l2,(c2.1.getD j (0,0)).1=(c2.1.getD j (0,0)).2:=fun j hj=>by
      have h1:=(ok2.ob.lo j (ht2 j hj)).2.1;have h2:¬ ((c2.1.getD j (0,0)).1<(c2.1.getD j (0,0)).2):=fun z=>nz ⟨j,hj,z⟩
      lia
     obtain ⟨ts,_,_,hf,_⟩:=tight N f2 ok2.ob ⟨fix,ok2.all al⟩;exact nof ts hf
    ·exact .inl ⟨_,IsD.keepP (bH.tupK (ptF_same fr')) dz (qu z.2).1,qu z.2,z.2,rfl,(f2.rk z (ok2.sub z hz)).rg N tl,hdz⟩
   ·obtain ⟨ps0,e0⟩:=LamT.tbl hT04
    obtain ⟨ps1,e1⟩:=LamT.tbl hT14;have fz':∀ a o u,ptF H3 fz a=some (.frz o u)→Hx a=some (.frz o u):=fun a o u e=>st a _ (fW e e0 nofun) (fW e e1 nofun) e
    obtain ⟨pm,cd,ct,e,oc,vs,t,ec,r⟩:=LF4;exact ⟨⟨pm,cd,ct,fz' _ _ _ e,oc,vs,t,fz' _ _ _ ec,r⟩,fun a o z=>fz' _ _ _ (qg z)⟩
  refine ⟨v,g,b,m,sp,RDead b sp,rfl,hv4,N,hc,hT04,hT14,LM,fun u t H5 st5 kp5 hT05 hT15 du plu gd sz Z5=>?_⟩;have KC:=ctF_kp Z5;have hT25:L2.LamT T2 lpT lqT H5:=by
   obtain ⟨ps0,e0⟩:=LamT.tbl hT04;obtain ⟨ps1,e1⟩:=LamT.tbl hT14
   rcases LamT.same SP hT23 with h | ⟨c',h,oc,vs,t,e,r⟩
   ·exact .inl (st5 _ _ n2 n3 h)
   ·exact .inr ⟨c',st5 _ _ n2 n3 h,oc,vs,t,st5 _ _ (fW e e0 nofun) (fW e e1 nofun) e,r⟩
  refine ⟨oI,fun q H6 S6 h6=>?_⟩;have kpa:Kp H H6:=kp1.trans (kp2.trans (kp3.trans ((bH.kp SP).trans (kp5.trans (KC.trans (bH.kp S6))))));have sta:∀ a o,a≠T0→a≠T1→a≠T2→H a=some o→H6 a=some o:=fun a o n0 n1 n2' e=>by
   have e3:=tb3 a o n2' (st2 a o n0 n1 (tb1 a o n0 e));have e5:=st5 a o n0 n1 (SP _ _ e3);refine S6 _ _ ?_;have fo:fz a=none:=by
    cases z:fz a with
    | none=>rfl
    | some o'=>rw [N0 a o' z] at e3;cases e3
   rw [ir fo];exact e5
  exact k q H6 sta kpa (LamT.same S6 (LamT.cutF Z5 C0.cell hT05)) (LamT.same S6 (LamT.cutF Z5 C0.cell hT15)) (LamT.same S6 (LamT.cutF Z5 C0.cell hT25)) (.inr ⟨u,t,h6,(IsD.keepP KC.tup du plu).same S6,plu,nof,gd,sz⟩)
abbrev sStay:cJ:=top 60
structure Mvd (b:Int)(fs us X:List Int)(g:Int→Int):Prop where
 len:X.length=us.length
 tm:∀ k:Int,0≤k→k<us.length→tm X k=(tm us k+g (tm fs k)) % b
theorem Mvd.ok {m:Int}{fs us X:List Int}{g:Int→Int}(M:Mvd b fs us X g)(N:jD b m sp)(lb:Lbl m.toNat sp fs)(h:nX b m sp us):nX b m sp X:=by
 have b1:=N.b1;have lu:=h.1;refine ⟨M.len.trans lu,fun x hx=>?_,?_⟩
 ·obtain ⟨i,hi,rfl⟩:=cu hx
  have lx:=M.len;have e:=M.tm i (by lia) (by lia);have e2:HN.tm X i=X[i]:=by unfold HN.tm;rw [cI,ai,gE hi];rfl
  rw [←e2,e];exact ⟨fb _ (by lia),eE _ (by lia)⟩
 ·have hf:=h.2.2
  unfold lr at hf ⊢;rw [jr,jq] at hf ⊢;intro x hx;have s:=N.ends x hx;have w:iq b X x=iq b us x:=by
   unfold iq;rw [M.tm x.g s.2.2.1 (by lia),M.tm x.s s.1 (by lia),←lb.spn x hx];have a1:=d7 (HN.tm us x.g+g (HN.tm fs x.s)) b;have a2:=d7 (HN.tm us x.s+g (HN.tm fs x.s)) b;have:(HN.tm us x.g+g (HN.tm fs x.s)) % b - (HN.tm us x.s+g (HN.tm fs x.s)) % b - x.l=HN.tm us x.g - HN.tm us x.s - x.l+b * ((HN.tm us x.s+g (HN.tm fs x.s)) / b - (HN.tm us x.g+g (HN.tm fs x.s)) / b):=by
    rw [i9];lia
   rw [this,iD]
  have:=hf x hx;unfold brk at this ⊢;rw [w];exact this
abbrev AT:=aq×List Int
def stS (ts:List Int)(p:List Int×List AT)(k:Nat):List Int×List AT:=if 0<(p.2.filter fun y=>decide (tm y.2 k=tm ts k)).length then (p.1++[(k:Int)],p.2.filter fun y=>decide (tm y.2 k=tm ts k)) else p
theorem stS_inv {ts:List Int}:∀ (l:List Nat) (p:List Int×List AT),p.2≠[]→(l.foldl (stS ts) p).2≠[]∧(∀ y∈(l.foldl (stS ts) p).2,y∈p.2)∧(l.foldl (stS ts) p).1.length≤p.1.length+l.length
 | [],p,h=>⟨h,fun _ hy=>hy,aA _⟩
 | k::l,p,h=>by
  have n:(stS ts p k).2≠[]∧(∀ y∈(stS ts p k).2,y∈p.2)∧(stS ts p k).1.length≤p.1.length+1:=by
   unfold stS;split
   ·rename_i c
    exact ⟨fun z=>by have z:p.2.filter (fun y=>decide (tm y.2 k=tm ts k))=[]:=z;rw [z] at c;exact qM c (by simp),fun y hy=>(bS.mp hy).1,by rw [ar];exact aA _⟩
   ·exact ⟨h,fun _ hy=>hy,by lia⟩
  obtain ⟨a,c,d⟩:=stS_inv l (stS ts p k) n.1;rw [bM,aN];exact ⟨a,fun y hy=>n.2.1 y (c y hy),by lia⟩
theorem stS_len {ts:List Int}:∀ (l:List Nat) (p:List Int×List AT),(l.foldl (stS ts) p).2.length≤p.2.length
 | [],_=>aA _
 | k::l,p=>by
  rw [bM];refine aM (stS_len l _) ?_;unfold stS;split
  ·exact cV _ _
  ·exact aA _
structure NoneC (H:Hp)(q:aq)(b:Int)(sp:List Sn)(u:V)(t:Tq):Prop where
 q:H q=some (.tup [.str "none",u])
 tree:IsD H u (jR t)
 pl:pl (jR t)=true
 no:∀ T,¬ lr b T sp=true
 good:GoodT (RDead b sp) t (sp.map fun z=>(z.l,z.o)) 21∧siz t≤8191
structure kE (H:Hp)(q:aq)(b m:Int)(sp:List Sn)(ts:List Int)(fs:List Int)(l:List Nat)(rg:List (Nat×List Stp))(Ts:List (List Int))(Ys:List AT)(qs:aq)(y:AT):Prop where
 q:H q=some (.tup [.str "stay",.ref qs,.ref y.1])
 qs:H qs=some (.tup (((aF m.toNat).foldl (stS ts) ([],Ys)).1.map V.int))
 fst:((aF m.toNat).foldl (stS ts) ([],Ys)).2[0]? =some y
 qy:H y.1=some (.tup (y.2.map V.int))
 ok:∀ t∈Ts,nX b m sp t
 len:Ys.length=Ts.length
 mv:∀ (i:Nat) (t:List Int) (z:AT),Ts[i]? =some t→Ys[i]? =some z→Mvd b fs t z.2 (fun f=>(tm ts (hdF fs f) - tm t (hdF fs f)) % b)
 lb:Lbl m.toNat sp fs
 fr:FR m sp l rg
 hold:∀ T,lr b T sp=true→∃ t∈Ts,∀ k∈l,j3 b t sp k=j3 b T sp k
theorem kE.tab {q:aq}{m:Int}{fs:List Int}{rg:List (Nat×List Stp)}{Ys:List AT}{y:AT}(A:kE H q b m sp ts fs l rg Ts Ys qs y)(N:jD b m sp):nX b m sp y.2:=by
 have hy:=aP A.fst;have n:Ys≠[]:=fun z=>by
  have e:∀ (l:List Nat) (s:List Int),(l.foldl (stS ts) (s,[])).2=[]:=fun l=>by
   induction l with
   | nil=>intro _;rfl
   | cons k l ih=>intro s;exact ih s
  rw [z,e] at hy;cases hy
 obtain ⟨i,hi,e⟩:=cu ((stS_inv (aF m.toNat) ([],Ys) n).2.1 y hy);have hi:i<Ys.length:=hi;have e:Ys[i]=y:=e;have hj:i<Ts.length:=by have:=A.len;lia
 have M:=A.mv i Ts[i] y (gE hj) (by rw [gE hi,e]);exact M.ok N A.lb (A.ok _ (ba hj))
inductive spStay (T0:aq)(p0:Pos)(q0:Str)(T1:aq)(p1:Pos)(q1:Str)(T2:aq)(vs:List V)(H:Hp)(Q:VK)(_:XK):Prop
 | mk (v:V)(u:aq)(b m:Int)(sp:List Sn)(ts:List Int)(_:vs=[v,.ref u])(_:IsD H v (jA b m sp))(_:jD b m sp)(_:(∀ l,i7 m.toNat sp l→kx sp l≤4096))(_:H u=some (.tup (ts.map V.int)))(_:ts.length=m.toNat)(_:L2.LamT T0 p0 q0 H)(_:L2.LamT T1 p1 q1 H)(_:L2.LamT T2 lpT lqT H)(_:∀ (q:aq) (H':Hp),Kp H H'→(∀ a o,a≠T0→a≠T1→a≠T2→H a=some o→H' a=some o)→L2.LamT T0 p0 q0 H'→L2.LamT T1 p1 q1 H'→L2.LamT T2 lpT lqT H'→((∃ u t,NoneC H' q b sp u t)∨∃ fs l rg Ts Ys qs y,kE H' q b m sp ts fs l rg Ts Ys qs y)→Q (.ref q) H')
theorem n6:bY ["net","table","found","parts","tables","some","happening","holding"] pzv (defScope sStay):=by trivial
theorem ok_stay {T2:aq}(F:Fun K "staying" "staying" sStay f fd)(T:Nm mg)(T2':Nt mg)(MC:∃ t,mg "MOST_CASES" =some (.int 4096 t))(n1:T0≠T1)(n2:T2≠T0)(n3:T2≠T1)
  (G1:Fn K mg "table_for" jX pza f1 fd1) (F1:cM P w K mg base CX0 12 f1 fd1 pza (oO T0 p0 q0 T1 p1 q1 T2))
  (G2:Fn K mg "parts_of" sParts pza f2 fd2) (F2:cM P w K mg base CX0 8 f2 fd2 pza (spParts T0 p0 q0))
  (G3:Fn K mg "held_at_firsts" sHeldF pzD f3 fd3) (F3:cM P w K mg base CX0 3 f3 fd3 pzD spHeldF)
  (G4:Fn K mg "tables_that_fit" sTabF pzn f4 fd4) (F4:cM P w K mg base CX0 11 f4 fd4 pzn (spTabF T0 p0 q0 T1 p1 q1)):cM P w K mg base CX0 13 f fd pzv (spStay T0 p0 q0 T1 p1 q1 T2):=by
 refine F.ok n6 (by contradiction) (fun cdv A outer s H vs Q E hr h=>?_);obtain ⟨v,u,b,m,sp,ts,rfl,hv,N,hc,hu,lt,hT0,hT1,hT2,k⟩:=h;have hr4:gN 3 _:=hr.mono (by decide);have hr9:gN 8 _:=hr.mono (by decide);have hr11:gN 11 _:=hr.mono (by decide);refine ⟨_,PSl.h (aY ⟨(psZ 2 n6.nd (pc1 G1 F1 hr (af (pv 0) aD)))⟩
  (aY ⟨(fV (cw jJ (ixZ (pv 2)) jY (cG _)) (cy (cf (pv 2))) cZ)⟩
  (aY ⟨(psZ 3 n6.nd (pc1 G2 F2 hr9 (af (pv 0) aD)))⟩
  (aY ⟨(oY (iy:=4) (fr:=["net","parts","table"]) (js:=[0,3,1]) n6.nd rfl (.inl rfl) rfl (gg (pc1 G4 F4 hr11 (af (pv 0) (af (pe_gint MC) aD)))) (by trivial) rfl (by trivial) rfl (by exists sStay) (by trivial) rfl (by trivial) (fun _ _ _ _ _=>⟨(pc1 G3 F3 hr4 (af (pv 1) (af (pv 2) (af (pv 3) (af (pv 0) aD))))),gT⟩))⟩
  (aY ⟨(psZ 5 n6.nd (iQ aD))⟩
  (aY ⟨(ib bE rfl (gH rfl T2'.range (af (ixZ (pv 0)) aD)) (pgZ 6 n6.nd) (PSl.h (aY ⟨(oY (iy:=7) (fr:=["happening","table"]) (js:=[6,1]) n6.nd rfl (.inl rfl) rfl (gg (pv 4)) (by trivial) rfl (by trivial) rfl (by exists sStay) (by trivial) rfl (by trivial) (fun _ _ _ _ _=>⟨(pv 0),(kQ (cw jJ (eJ (r:=rIxT K) eD (pv 0) (pv 1) (fun _ _=>rfl)) (eJ (r:=rIxT K) eD (pv 2) (pv 1) (fun _ _=>rfl)) (cG _)))⟩))⟩
  (cP ⟨(fV (cw pU (cp bV rfl T.len bF (af (pv 7) aD)) bD (cG _)) (PSl.h (aY ⟨(gL (lh bc bP bO fH (pv 5) (af (pv 6) aD)))⟩
  (cP ⟨(psZ 4 n6.nd (pv 7))⟩))) cZ)⟩))))⟩
  (cP ⟨(cf (cY (af jY (af (eU i3 rfl T.ttup iX (af (pv 5) aD)) (af (eJ gB (pv 4) bD (fun _ _=>rfl)) aD)))))⟩))))))),?_⟩
 obtain ⟨ps0,et0⟩:=LamT.tbl hT0;obtain ⟨ps1,et1⟩:=LamT.tbl hT1;obtain ⟨ps2,et2⟩:=LamT.tbl hT2;have nm1:=N.m1;have nm2:=N.m2;have em:((m.toNat:Nat):Int)=m:=fJ (by lia);refine ⟨_,rfl,v,b,m,sp,rfl,hv,N,hc,hT0,hT1,hT2,fun q H1 st1 kp1 hT01 hT11 hT21 ans=>?_⟩;have hv1:=cO kp1.tup hv
 rcases ans with ⟨qt0,t0,hq,hqt,tok0⟩ | ⟨u',t,hq,du,plu,nof,gd⟩
 rotate_left
 ·refine ⟨_,rfl,q,_,_,_,rfl,rfl,SqT.of hq,aO (j:=0) rfl,rfl,_,rfl,mO (qN rfl) ?_⟩
  exact ⟨_,rfl,k q H1 kp1 st1 hT01 hT11 hT21 (.inl ⟨u',t,hq,du,plu,nof,gd⟩)⟩
 refine ⟨_,rfl,q,_,_,_,rfl,rfl,SqT.of hq,aO (j:=0) rfl,rfl,_,rfl,kd (qO nofun) ?_⟩;refine ⟨_,rfl,v,b,m,sp,rfl,hv1,N,hT01,fun Lp zp fs H2 tb2 hT02 hLp hpt lb=>?_⟩;obtain ⟨qs1,eu1⟩:=LamT.tbl hT01;have fz2:∀ a o u,H1 a=some (.frz o u)→H2 a=some (.frz o u):=fun a o u e=>tb2 _ _ (fW e eu1 nofun) e
 have kp2:Kp H1 H2:=Tb.kp hT01 tb2;have hT12:L2.LamT T1 p1 q1 H2:=nq hT11 (fun ps e=>tb2 _ _ (dB n1) e) fz2;have hT22:L2.LamT T2 lpT lqT H2:=nq hT21 (fun ps e=>tb2 _ _ n2 e) fz2;have hv2:=cO kp2.tup hv1;obtain ⟨qs2,eu2⟩:=LamT.tbl hT02;obtain ⟨qs3,eu3⟩:=LamT.tbl hT12;refine ⟨_,rfl,v,b,m,sp,4096,rfl,hv2,N,by decide,hc,hT02,hT12,fun L tv l rg Ts H3 st3 kp3 hT03 hT13 hL dL R tabs few hold=>?_⟩;have fz3:∀ a o u,H2 a=some (.frz o u)→H3 a=some (.frz o u):=fun a o u e=>st3 _ _ (fW e eu2 nofun) (fW e eu3 nofun) e
 have hT23:L2.LamT T2 lpT lqT H3:=nq hT22 (fun ps e=>st3 _ _ n2 n3 e) fz3;have hv3:=cO kp3.tup hv2;have holdA:=hold (.inr rfl);have ltv:tv.length=Ts.length:=by rw [dL.length];unfold cW;rw [aa]
 have hu3:H3 u=some (.tup (ts.map V.int)):=kp3.tup _ _ (kp2.tup _ _ (kp1.tup _ _ hu));have kp03:Kp H H3:=kp1.trans (kp2.trans kp3);have st03:∀ a o,a≠T0→a≠T1→a≠T2→H a=some o→H3 a=some o:=fun a o e0 e1 e2 e=>st3 _ _ e0 e1 (tb2 _ _ e0 (st1 _ _ e0 e1 e2 e))
 have hLp3:=kp3.lst _ _ hLp;have hpt3:PtsD H3 zp fs:=by
  obtain ⟨As,e,lA,hA⟩:=hpt;exact ⟨As,e,lA,fun i f A h1 h2=>kp3.lst _ _ (hA i f A h1 h2)⟩
 have getT:∀ (i:Nat) x,tv[i]? =some x→∃ qx t,x= .ref qx∧H3 qx=some (.tup (t.map V.int))∧Ts[i]? =some t:=fun i x hx=>by
  have hi:i<Ts.length:=by rw [←ltv];exact (ao.mp hx).1
  obtain ⟨d,ed,dx⟩:=dL.get hx;unfold cW at ed;rw [ay,gE hi] at ed;cases ed;obtain ⟨qx,xs,rfl,hqx,rx⟩:=dx.tup_of;have:=rx.ints_of;subst this;exact ⟨qx,Ts[i],rfl,hqx,gE hi⟩
 refine ⟨L,rfl,⟨_,SqL.of hL⟩,?_⟩;have lfs:fs.length=ts.length:=by rw [lb.len,lt]
 have lTs:∀ t∈Ts,t.length=ts.length:=fun t ht=>by rw [(tabs t ht).1,lt]
 refine jv (K:=K) (a:=L) (xs:=tv) (fun i zs H4=>bH H3 H4∧∃ Ys:List AT,zs=Ys.map (fun y=>V.ref y.1)∧Ys.length=i∧(∀ y∈Ys,H4 y.1=some (.tup (y.2.map V.int)))∧∀ (j:Nat) (t:List Int) (z:AT),Ts[j]? =some t→Ys[j]? =some z→Mvd b fs t z.2 (fun f=>(tm ts (hdF fs f) - tm t (hdF fs f)) % b)) ⟨bH.refl H3,[],rfl,rfl,fun _ h=>(by cases h),fun _ _ _ _ h=>(by cases h)⟩ (fun i zs H4 hi ⟨S4,Ys,e1,e2,_⟩=>⟨SqL.of (S4 _ _ hL),by rw [e1,aa];lia⟩) (by rw [ltv];exact aM few (by decide)) (fun i x zs H4 hx ⟨S4,Ys,e1,e2,hY,mY⟩=>?_) (fun zs H4 ⟨S4,Ys,e1,e2,hY,mY⟩ Lt hLt=>?_)
 ·obtain ⟨qx,t,rfl,hqx,et⟩:=getT i x hx
  refine gc ?_;refine ⟨_,rfl,_,rfl,_,rfl,_,rfl,v,Lp,u,qx,b,m,sp,zp,fs,ts,t,rfl,hv3.same S4,by have:=N.b1;lia,S4 _ _ hLp3,?_,S4 _ _ hu3,S4 _ _ hqx,lTs t (aP et),lfs,by lia,fun r H5 X S5 h5 lX eX=>?_⟩
  ·obtain ⟨As,e,lA,hA⟩:=hpt3
   exact ⟨As,e,lA,fun i f A h1 h2=>S4 _ _ (hA i f A h1 h2)⟩
  refine ⟨S4.trans S5,Ys++[(r,X)],by rw [e1,aE];rfl,by rw [ar,e2];rfl,fun y hy=>?_,fun j t' z ej ez=>?_⟩
  ·rcases aH.mp hy with hy | hy
   ·exact S5 _ _ (hY y hy)
   ·rw [av.mp hy];exact h5
  ·rcases Nat.lt_or_ge j i with c | c
   ·rw [cN (by lia)] at ez
    exact mY j t' z ej ez
   ·have hj:j=i:=by have:=(ao.mp ez).1;rw [ar,d5] at this;lia
    subst hj;rw [bu (by lia),e2,gO] at ez;cases ez;rw [et] at ej;cases ej;have lt':=lTs t (aP et);exact ⟨by rw [lX,lt'],fun k k0 k1=>eX k k0 (by lia)⟩
 subst e1;have lY:Ys.length=Ts.length:=e2.trans ltv;have S5:bH H3 (upd H4 Lt (.lst (Ys.map fun y=>V.ref y.1))):=S4.put hLt;have h5:(upd H4 Lt (.lst (Ys.map fun y=>V.ref y.1))) Lt=some (.lst (Ys.map fun y=>V.ref y.1)):=aQ;have hY5:∀ y∈Ys,(upd H4 Lt (.lst (Ys.map fun y=>V.ref y.1))) y.1=some (.tup (y.2.map V.int)):=fun y hy=>by rw [br (bC (hY y hy) hLt)];exact hY y hy
 generalize upd H4 Lt (.lst (Ys.map fun y=>V.ref y.1))=H5 at S5 h5 hY5 ⊢;have nY:Ys≠[]:=fun z=>by
  obtain ⟨t,ht,_⟩:=holdA t0 tok0.2.2;rw [z] at lY;rw [cK.mp lY.symm] at ht;cases ht
 have len:∀ y∈Ys,y.2.length=ts.length:=fun y hy=>by
  obtain ⟨i,hi,rfl⟩:=cu hy;have hj:i<Ts.length:=by lia
  rw [(mY i Ts[i] Ys[i] (gE hj) (gE hi)).len];exact lTs _ (ba hj)
 obtain ⟨t,p,ys,rfl,ht,hp,hl,hy⟩:=fm hv3;refine ⟨bg _,fun Ls hLs=>?_⟩;have S6:bH H5 (upd H5 Ls (.lst [])):=(bH.refl H5).put hLs;have h6:(upd H5 Ls (.lst [])) Ls=some (.lst []):=aQ;generalize upd H5 Ls (.lst [])=H6 at S6 h6 ⊢;refine ⟨_,rfl,t,_,_,_,rfl,rfl,SqT.of (S6 _ _ (S5 _ _ ht)),aO (j:=1) rfl,m,rfl,by lia,by lia,?_⟩;refine j5 (n:=m.toNat) (fun i σ HD=>bH H5 HD∧HD Ls=some (.lst ((((aF i).foldl (stS ts) ([],Ys)).1).map V.int))∧∃ (La:aq) (w6 w7:Option V),La≠Ls∧HD La=some (.lst ((((aF i).foldl (stS ts) ([],Ys)).2).map fun y=>V.ref y.1))∧σ=[some (.ref t),some (.ref u),some (.ref q),some (.ref Lp),some (.ref La),some (.ref Ls),w6,w7]) ⟨S6,h6,Lt,none,none,bC h5 hLs,S6 _ _ h5,rfl⟩ ?_ ?_
 ·rintro i σ HD hi ⟨SD,hD,La,w6,w7,nL,hLa,rfl⟩
  rw [fF,b9];obtain ⟨nz,sub,sz⟩:=stS_inv (ts:=ts) (aF i) ([],Ys) nY;generalize epr:(aF i).foldl (stS ts) ([],Ys)=pr at hD hLa nz sub sz ⊢;obtain ⟨S0,lf⟩:=pr;have sub:∀ y∈lf,y∈Ys:=sub;have sz:S0.length≤0+i:=by rw [bh] at sz;exact sz
  have hD:HD Ls=some (.lst (S0.map V.int)):=hD;have hLa:HD La=some (.lst (lf.map fun y=>V.ref y.1)):=hLa;have e0:(0:Int)+(i:Int)=i:=iM _;have sml:lf.length≤4096:=by have:=stS_len (ts:=ts) (aF i) ([],Ys);rw [epr] at this;have this:lf.length≤Ys.length:=this;lia
  have hi':(i:Int)<ts.length:=by lia
  refine ⟨_,rfl,La,rfl,⟨_,SqL.of hLa⟩,?_⟩;refine jv (K:=K) (a:=La) (xs:=lf.map fun y=>V.ref y.1) (fun j zs H7=>H7=HD∧zs=((lf.take j).filter fun y=>decide (tm y.2 i=tm ts i)).map fun y=>V.ref y.1) ⟨rfl,rfl⟩ (fun j zs H7 hj ⟨e1,e2⟩=>⟨by rw [e1];exact SqL.of hLa,?_⟩) (by rw [aa];exact aM sml (by decide)) (fun j x zs H7 hx ⟨e1,e2⟩=>?_) (fun zs H7 ⟨e1,e2⟩ Lh hLh=>?_)
  ·rw [e2,aa]
   exact aM (cV _ _) (by rw [bK];lia)
  ·subst e1
   rw [ay] at hx;obtain ⟨y,ey,rfl⟩:=aS.mp hx;have my:=sub y (aP ey);have ly:=len y my;refine ⟨_,rfl,_,rfl,y.1,_,_,_,rfl,rfl,SqT.of (SD _ _ (hY5 y my)),lE (by lia) (by lia),_,rfl,_,rfl,u,_,_,_,rfl,rfl,SqT.of (SD _ _ (S5 _ _ hu3)),lE (by lia) (by lia),rfl,_,rfl,?_⟩;rw [e0];have ed:decide (V.int (tm y.2 i)=V.int (tm ts i))=decide (tm y.2 i=tm ts i):=by
    by_cases c:tm y.2 i=tm ts i
    ·rw [c,qN rfl,qN rfl]
    ·rw [qO c,qO fun z=>c (by injection z)]
   rw [ed,e2,bj,ey];refine pS (fun hc=>?_) (fun hc=>?_)
   ·refine ⟨_,rfl,rfl,?_⟩
    rw [fj,aE];show _=_++(jP _ [y]).map _;rw [fh,qL hc];rfl
   ·refine ⟨rfl,?_⟩
    rw [fj,aE];show _=_++(jP _ [y]).map _;rw [fh,qK (by first | exact hc | (rw [hc];exact bo))];exact (de _).symm
  ·subst e1
   rw [aa,bq] at e2;subst e2;generalize eF:(lf.filter fun y=>decide (tm y.2 i=tm ts i))=fl;have S7:bH H7 (upd H7 Lh (.lst (fl.map fun y=>V.ref y.1))):=(bH.refl H7).put hLh;have h7:(upd H7 Lh (.lst (fl.map fun y=>V.ref y.1))) Lh=some (.lst (fl.map fun y=>V.ref y.1)):=aQ;have nH:Lh≠Ls:=fun z=>by rw [z,hD] at hLh;cases hLh
   generalize upd H7 Lh (.lst (fl.map fun y=>V.ref y.1))=H8 at S7 h7 ⊢;have hD8:=S7 _ _ hD;have keep:∀ {a:aq} {o:HO} {x:HO},H5 a=some o→(upd H8 Ls x) a=some o:=fun e=>by
    rw [br (bC e hLs)];exact S7 _ _ (SD _ _ e)
   refine ⟨_,rfl,Lh,_,rfl,.inl (SqL.of h7),_,_,rfl,rfl,_,rfl,?_⟩;have es:stS ts (S0,lf) i=if 0<fl.length then (S0++[(i:Int)],fl) else (S0,lf):=by
    unfold stS;show (if 0<(lf.filter fun y=>decide (tm y.2 i=tm ts i)).length then _ else _)=_;rw [eF]
   show if decide (_)=true then _ else _;rw [bM,List.foldl_nil,es,aa];refine pS (fun hc=>?_) (fun hc=>?_)
   ·have hc':0<fl.length:=by have:=qP hc;lia
    rw [qL hc'];refine ⟨_,rfl,.inl ⟨rfl,_,SqL.of hD8⟩,_,rfl,Ls,_,_,rfl,rfl,hD8,by rw [aa];exact bU (by lia:_≤16) (by decide),?_⟩;refine ⟨_,rfl,fun a o e=>keep e,?_,Lh,_,_,nH,by rw [br nH];exact h7,rfl⟩;rw [aQ,e0,aE];rfl
   ·have hc':¬ (0<fl.length):=fun z=>hc (qN (by lia))
    rw [qK hc'];exact ⟨fun a o e=>S7 _ _ (SD _ _ e),hD8,La,_,_,nL,S7 _ _ hLa,rfl⟩
 ·rintro σ HD ⟨SD,hD,La,w6,w7,nL,hLa,rfl⟩
  obtain ⟨nz,sub,sz⟩:=stS_inv (ts:=ts) (aF m.toNat) ([],Ys) nY;obtain ⟨y,ey⟩:∃ y,((aF m.toNat).foldl (stS ts) ([],Ys)).2[0]? =some y:=by
   cases e:((aF m.toNat).foldl (stS ts) ([],Ys)).2 with
   | nil=>exact qM e nz
   | cons a l=>exact ⟨a,rfl⟩
  refine ⟨_,rfl,Ls,_,rfl,SqL.of hD,fun qs H9 S9 h9=>?_⟩;refine ⟨_,rfl,La,_,_,_,rfl,rfl,SqL.of (S9 _ _ hLa),aO (j:=0) (by rw [ay,ey];rfl),(by show 3≤aZ;decide),fun qr HA SA hA=>?_⟩;have S3A:bH H3 HA:=fun a o e=>SA _ _ (S9 _ _ (SD _ _ (S5 _ _ e)))
  refine k qr HA (kp03.trans (bH.kp S3A)) (fun a o e0 e1 e2 e=>S3A _ _ (st03 a o e0 e1 e2 e)) (LamT.same S3A hT03) (LamT.same S3A hT13) (LamT.same S3A hT23) (.inr ⟨fs,l,rg,Ts,Ys,qs,y,?_⟩);exact ⟨hA,SA _ _ h9,ey,SA _ _ (S9 _ _ (SD _ _ (hY5 y (sub y (aP ey))))),tabs,lY,mY,lb,R,holdA⟩
theorem md_iff {x:Int}:x % b=y % b↔∃ k,x=y+b * k:=by
 constructor
 ·intro h
  have a1:=d7 x b;have a2:=d7 y b;exact ⟨x / b - y / b,by rw [i9];lia⟩
 ·rintro ⟨k,rfl⟩
  exact iD y b k
theorem md_zero {x:Int}:x % b=0↔∃ k,x=b * k:=by
 have:=md_iff (b:=b) (x:=x) (y:=0);rw [Int.zero_emod] at this;rw [this];exact ⟨fun ⟨k,h⟩=>⟨k,by lia⟩,fun ⟨k,h⟩=>⟨k,by lia⟩⟩
theorem md_eq {x k:Int}(x0:0≤x)(x1:x<b)(y0:0≤y)(y1:y<b)(h:x=y+b * k):x=y:=by
 have:=md_iff.mpr ⟨k,h⟩;rw [ik x0 x1,ik y0 y1] at this;exact this
theorem part_same {m:Int}{fs t T:List Int}(N:jD b m sp)(fr:i7 m.toNat sp l)(hl:∀ i∈l,i<sp.length)(h:∀ k∈l,j3 b t sp k=j3 b T sp k)(lb:Lbl m.toNat sp fs){x:Int}(x0:0≤x)(x1:x<m)(y0:0≤y)(y1:y<m)(e:tm fs x=tm fs y) :
  ∃ k,tm t x - tm T x=tm t y - tm T y+b * k:=by
 have P:∀ i∈l,∃ k,tm t (sAt sp i).g - tm T (sAt sp i).g=tm t (sAt sp i).s - tm T (sAt sp i).s+b * k:=fun i hi=>by
  have hk:=hl i hi;have ek:sAt sp i=sp[i]:=by unfold sAt;rw [ai,gE hk];rfl
  have q:=h i hi;unfold j3 at q;rw [gE hk] at q;have q:sp[i].l+iq b t sp[i]=sp[i].l+iq b T sp[i]:=q;have q2:iq b t sp[i]=iq b T sp[i]:=by lia
  unfold iq at q2;obtain ⟨k,hk2⟩:=md_iff.mp q2;rw [ek];exact ⟨k,by lia⟩
 have A:∀ z∈sp,(∃ k,tm t z.s - tm T z.s=tm t y - tm T y+b * k)↔∃ k,tm t z.g - tm T z.g=tm t y - tm T y+b * k:=fun z hz=>by
  obtain ⟨j,hj,rfl⟩:=cu hz;have ej:sAt sp j=sp[j]:=by unfold sAt;rw [ai,gE hj];rfl
  rw [←ej];have I:∀ i∈l,(∃ k,tm t (sAt sp i).s - tm T (sAt sp i).s=tm t y - tm T y+b * k)↔∃ k,tm t (sAt sp i).g - tm T (sAt sp i).g=tm t y - tm T y+b * k:=fun i hi=>by
   obtain ⟨k,e⟩:=P i hi
   constructor
   ·rintro ⟨k2,e2⟩;exact ⟨k+k2,by rw [j6];lia⟩
   ·rintro ⟨k2,e2⟩;exact ⟨k2 - k,by rw [i9];lia⟩
  have H:=fr.held N.ends hj;refine ⟨H (fun z=>∃ k,tm t z - tm T z=tm t y - tm T y+b * k) I,fun hg=>dJ fun ns=>?_⟩;exact H (fun z=>¬ ∃ k,tm t z - tm T z=tm t y - tm T y+b * k) (fun i hi=>not_congr (I i hi)) ns hg
 have m1:=N.m1;exact ((lb.same x0 (by lia) y0 (by lia)).mp e (fun z=>∃ k,tm t z - tm T z=tm t y - tm T y+b * k) A).mpr ⟨0,by lia⟩
theorem idxF_pair {fs:List Int}{f:Int}:(mJ fs f).Pairwise (· < ·):=by
 unfold mJ;rw [fE];exact ((List.pairwise_lt_range (n:=fs.length)).filter _).imp fun h=>by lia
theorem hdF_le {fs:List Int}{j:Int}(j0:0≤j)(j1:j<fs.length):0≤hdF fs (tm fs j)∧hdF fs (tm fs j)≤j∧tm fs (hdF fs (tm fs j))=tm fs j:=by
 have mj:j∈mJ fs (tm fs j):=ka.mpr ⟨j0,j1,rfl⟩;have p:=idxF_pair (fs:=fs) (f:=tm fs j);unfold hdF;cases q:mJ fs (tm fs j) with
 | nil=>rw [q] at mj;cases mj
 | cons a r =>
  rw [q] at mj p;have ma:a∈mJ fs (tm fs j):=by rw [q];simp
  obtain ⟨a0,a1,a2⟩:=ka.mp ma;refine ⟨a0,?_,a2⟩;show a≤j
  rcases aI.mp mj with rfl | h
  ·exact gm _
  ·have:=(List.pairwise_cons.mp p).1 j h;lia
def zrT (b:Int)(T:List Int)(m:Nat):List Int:=(aF m).map fun (i:Nat)=>(tm T i - tm T 0) % b
theorem tm_zr {T:List Int}{x:Int}(h0:0≤x)(h1:x<m):tm (zrT b T m) x=(tm T x - tm T 0) % b:=by
 obtain ⟨j,rfl⟩:=cz h0;unfold tm zrT;rw [cI,ai,ay,fG (by lia)];rfl
theorem zr_ok {m:Int}{fs T:List Int}(N:jD b m sp)(lb:Lbl m.toNat sp fs)(h:nX b m sp T):nX b m sp (zrT b T m.toNat)∧tm (zrT b T m.toNat) 0=0:=by
 have m1:=N.m1;have lT:=h.1;refine ⟨Mvd.ok (fs:=fs) (g:=fun _=> - tm T 0) ⟨by unfold zrT;rw [aa,bh,lT],fun k k0 k1=>?_⟩ N lb h,?_⟩
 ·rw [tm_zr k0 (by lia)];rfl
 ·rw [tm_zr (by decide) (by lia),Int.sub_self,Int.zero_emod]
structure FitL (b m:Int)(sp:List Sn)(F:List (List Int)):Prop where
 all:∀ t∈F,nX b m sp t∧tm t 0=0
 hold:∀ t,nX b m sp t→tm t 0=0→t∈F
def relT (b:Int)(ts o:List Int)(z k:Int):Bool:=decide ((tm o k - tm o z - (tm ts k - tm ts z)) % b=0)
def duS (b:Int)(ts:List Int)(p:List Int×List (List Int))(k:Nat):List Int×List (List Int) :=
 if p.2.filter (fun o=>relT b ts o ((p.1++[(k:Int)]).headD 0) k)≠[] then (p.1++[(k:Int)],p.2.filter fun o=>relT b ts o ((p.1++[(k:Int)]).headD 0) k) else p
structure StJ (b m:Int)(ts fs:List Int)(Ys:List AT)(F:List (List Int))(n:Nat)(p:List Int×List AT)(q:List Int×List (List Int)):Prop where
 eq:p.1=q.1
 l1:∀ y,y∈p.2↔y∈Ys∧∀ j∈p.1,tm y.2 j=tm ts j
 l2:∀ o,o∈q.2↔o∈F∧∀ j∈p.1,relT b ts o 0 j=true
 rng:∀ j∈p.1,0≤j∧j<n
 hds:∀ j:Int,0≤j→j<n→hdF fs (tm fs j)=j→j∈p.1
 ne:p.2≠[]
 fst:0<n→p.1.headD 0=0∧(0:Int)∈p.1
theorem rel_of {o:List Int}{k:Int}:relT b ts o z k=true↔∃ c,tm o k - tm o z=tm ts k - tm ts z+b * c:=by
 unfold relT;rw [decide_eq_true_eq,md_zero];exact ⟨fun ⟨c,h⟩=>⟨c,by lia⟩,fun ⟨c,h⟩=>⟨c,by lia⟩⟩
section
variable {q0:aq}{m:Int}{fs:List Int}{rg:List (Nat×List Stp)}{Ys:List AT}{y0:AT}{F:List (List Int)}
theorem kE.yok (A:kE H q0 b m sp ts fs l rg Ts Ys qs y0)(N:jD b m sp):∀ y∈Ys,nX b m sp y.2:=fun y hy=>by
 obtain ⟨i,hi,rfl⟩:=cu hy;have hj:i<Ts.length:=by have:=A.len;lia
 exact (A.mv i Ts[i] Ys[i] (gE hj) (gE hi)).ok N A.lb (A.ok _ (ba hj))
theorem kE.head (A:kE H q0 b m sp ts fs l rg Ts Ys qs y0)(N:jD b m sp)(lt:ts.length=m.toNat)(hts:∀ x∈ts,0≤x∧x<b){j:Int}(j0:0≤j)(j1:j<m)(hj:hdF fs (tm fs j)=j):∀ y∈Ys,tm y.2 j=tm ts j:=fun y hy=>by
 obtain ⟨i,hi,rfl⟩:=cu hy;have hk:i<Ts.length:=by have:=A.len;lia
 have M:=A.mv i Ts[i] Ys[i] (gE hk) (gE hi);have lT:=(A.ok _ (ba hk)).1;have r:=tm_in hts j0 (by lia);have ey:=M.tm j j0 (by lia);rw [hj] at ey;rw [ey];have a1:=d7 (tm ts j - tm Ts[i] j) b;have:(tm Ts[i] j+(tm ts j - tm Ts[i] j) % b) % b=tm ts j % b:=md_iff.mpr ⟨- ((tm ts j - tm Ts[i] j) / b),by rw [Int.mul_neg];lia⟩;rw [this];exact ik r.1 r.2
theorem kE.step (A:kE H q0 b m sp ts fs l rg Ts Ys qs y0)(N:jD b m sp)(lt:ts.length=m.toNat)(hts:∀ x∈ts,0≤x∧x<b)(FL:FitL b m sp F)(hn:n<m.toNat){p:List Int×List AT}{q:List Int×List (List Int)}(J:StJ b m ts fs Ys F n p q) :
  StJ b m ts fs Ys F (n+1) (stS ts p n) (duS b ts q n):=by
 obtain ⟨S,L⟩:=p;obtain ⟨S',L'⟩:=q;obtain ⟨e,l1,l2,rng,hds,ne,fst⟩:=J;have e:S=S':=e;subst e
 dsimp only at l1 l2 rng hds ne fst
 have hb:0<b:=by have:=N.b1;lia
 have lfs:fs.length=m.toNat:=A.lb.len;have hlt:=(A.fr.ff N).acy.nodup.2;have z0:(S++[(n:Int)]).headD 0=0:=by
  rcases Nat.eq_zero_or_pos n with c | c
  ·have:S=[]:=jH.mpr fun j hj=>by have:=rng j hj;lia
   rw [this,c];rfl
  ·obtain ⟨f1,f2⟩:=fst c
   cases S with
   | nil=>cases f2
   | cons a r=>exact f1
 have m0:(0:Int)∈S++[(n:Int)]:=by
  rcases Nat.eq_zero_or_pos n with c | c
  ·rw [c];simp
  ·exact aJ _ (fst c).2
 have rn:∀ j∈S++[(n:Int)],0≤j∧j<((n+1:Nat):Int):=fun j hj=>by
  rcases aH.mp hj with h | h
  ·have:=rng j h;lia
  ·rw [av.mp h];lia
 have F1:∀ y,y∈L.filter (fun y=>decide (tm y.2 n=tm ts n))↔y∈Ys∧∀ j∈S++[(n:Int)],tm y.2 j=tm ts j:=fun y=>by
  rw [bS,l1,decide_eq_true_eq]
  constructor
  ·rintro ⟨⟨a,c⟩,d⟩
   exact ⟨a,fun j hj=>(aH.mp hj).elim (c j) fun h=>by rw [av.mp h];exact d⟩
  ·rintro ⟨a,c⟩
   exact ⟨⟨a,fun j hj=>c j (aJ _ hj)⟩,c _ (by simp)⟩
 have F2:∀ o,o∈L'.filter (fun o=>relT b ts o ((S++[(n:Int)]).headD 0) n)↔o∈F∧∀ j∈S++[(n:Int)],relT b ts o 0 j=true:=fun o=>by
  rw [bS,l2,z0]
  constructor
  ·rintro ⟨⟨a,c⟩,d⟩
   exact ⟨a,fun j hj=>(aH.mp hj).elim (c j) fun h=>by rw [av.mp h];exact d⟩
  ·rintro ⟨a,c⟩
   exact ⟨⟨a,fun j hj=>c j (aJ _ hj)⟩,c _ (by simp)⟩
 have H1:L.filter (fun y=>decide (tm y.2 n=tm ts n))≠[]→L'.filter (fun o=>relT b ts o ((S++[(n:Int)]).headD 0) n)≠[]:=fun h=>by
  obtain ⟨y,hy⟩:=kH _ h;obtain ⟨hY,ag⟩:=(F1 y).mp hy;obtain ⟨k1,k2⟩:=zr_ok N A.lb (A.yok N y hY);refine ko ((F2 (zrT b y.2 m.toNat)).mpr ⟨FL.hold _ k1 k2,fun j hj=>rel_of.mpr ?_⟩);have rj:=rn j hj;rw [k2,tm_zr rj.1 (by lia),ag j hj,ag 0 m0];have a1:=d7 (tm ts j - tm ts 0) b;exact ⟨- ((tm ts j - tm ts 0) / b),by rw [Int.mul_neg];lia⟩
 have H2:L'.filter (fun o=>relT b ts o ((S++[(n:Int)]).headD 0) n)≠[]→L.filter (fun y=>decide (tm y.2 n=tm ts n))≠[]:=fun h=>by
  obtain ⟨o,ho⟩:=kH _ h;obtain ⟨hF,ag⟩:=(F2 o).mp ho;obtain ⟨ok,_⟩:=FL.all o hF;obtain ⟨t,ht,lay⟩:=A.hold o ok.2.2;obtain ⟨i,hi,rfl⟩:=cu ht;have hk:i<Ys.length:=by have:=A.len;lia
  have M:=A.mv i Ts[i] Ys[i] (gE hi) (gE hk);have lT:=(A.ok _ (ba hi)).1;have yk:=A.yok N Ys[i] (ba hk);refine ko ((F1 Ys[i]).mpr ⟨ba hk,fun j hj=>?_⟩);have rj:=rn j hj;obtain ⟨h0,h1,h2⟩:=hdF_le (fs:=fs) rj.1 (by lia);have mh:hdF fs (tm fs j)∈S++[(n:Int)]:=by
   by_cases c:hdF fs (tm fs j)=n
   ·rw [c];simp
   ·exact aJ _ (hds _ h0 (by lia) (by rw [h2]))
  obtain ⟨c1,e1⟩:=rel_of.mp (ag j hj);obtain ⟨c2,e2⟩:=rel_of.mp (ag _ mh);obtain ⟨c3,e3⟩:=part_same N A.fr.fr hlt lay A.lb (x:=j) (y:=hdF fs (tm fs j)) rj.1 (by lia) h0 (by lia) h2.symm;have ey:=M.tm j rj.1 (by lia);have a1:=d7 (tm ts (hdF fs (tm fs j)) - tm Ts[i] (hdF fs (tm fs j))) b;have a2:=d7 (tm Ts[i] j+(tm ts (hdF fs (tm fs j)) - tm Ts[i] (hdF fs (tm fs j))) % b) b;have r1:=tm_in yk.2.1 rj.1 (by have:=yk.1;lia);have r2:=tm_in hts rj.1 (by lia);refine md_eq (k:=c3+c1 - c2 - (tm ts (hdF fs (tm fs j)) - tm Ts[i] (hdF fs (tm fs j))) / b - (tm Ts[i] j+(tm ts (hdF fs (tm fs j)) - tm Ts[i] (hdF fs (tm fs j))) % b) / b) r1.1 r1.2 r2.1 r2.2 ?_;rw [i9,i9,i9,j6];lia
 have hd:hdF fs (tm fs (n:Int))=n→L.filter (fun y=>decide (tm y.2 n=tm ts n))≠[]:=fun h=>by
  obtain ⟨y,hy⟩:=kH _ ne;have hY:=((l1 y).mp hy).1;exact ko (bS.mpr ⟨hy,qN (A.head N lt hts (by lia) (by lia) h y hY)⟩)
 by_cases c:L.filter (fun y=>decide (tm y.2 n=tm ts n))=[]
 ·have c2:L'.filter (fun o=>relT b ts o ((S++[(n:Int)]).headD 0) n)=[]:=dJ fun z=>H2 z c
  have s1:stS ts (S,L) n=(S,L):=by unfold stS;dsimp only;rw [c];rfl
  have s2:duS b ts (S,L') n=(S,L'):=by unfold duS;dsimp only;rw [c2];rfl
  rw [s1,s2];refine ⟨rfl,l1,l2,fun j hj=>by have:=rng j hj;lia,fun j j0 j1 hj=>?_,ne,fun _=>?_⟩
  ·by_cases q:j=n
   ·subst q;exact qM c (hd hj)
   ·exact hds j j0 (by lia) hj
  ·rcases Nat.eq_zero_or_pos n with q | q
   ·have:hdF fs (tm fs (n:Int))=n:=by
     obtain ⟨h0,h1,_⟩:=hdF_le (fs:=fs) (j:=(n:Int)) (by lia) (by lia);lia
    exact qM c (hd this)
   ·exact fst q
 ·have c2:=H1 c
  have s1:stS ts (S,L) n=(S++[(n:Int)],L.filter fun y=>decide (tm y.2 n=tm ts n)):=by unfold stS;dsimp only;rw [qL (iT.mpr c)]
  have s2:duS b ts (S,L') n=(S++[(n:Int)],L'.filter fun o=>relT b ts o ((S++[(n:Int)]).headD 0) n):=by unfold duS;dsimp only;rw [qL c2]
  rw [s1,s2];refine ⟨rfl,F1,F2,rn,fun j j0 j1 hj=>?_,c,fun _=>⟨z0,m0⟩⟩
  by_cases q:j=n
  ·rw [q];simp
  ·exact aJ _ (hds j j0 (by lia) hj)
theorem kE.both (A:kE H q0 b m sp ts fs l rg Ts Ys qs y0)(N:jD b m sp)(lt:ts.length=m.toNat)(hts:∀ x∈ts,0≤x∧x<b)(FL:FitL b m sp F)(hY:Ys≠[]):∀ n,n≤m.toNat→StJ b m ts fs Ys F n ((aF n).foldl (stS ts) ([],Ys)) ((aF n).foldl (duS b ts) ([],F))
 | 0,_=>⟨rfl,fun y=>⟨fun h=>⟨h,fun j hj=>qM hj (cn)⟩,fun h=>h.1⟩,fun o=>⟨fun h=>⟨h,fun j hj=>qM hj (cn)⟩,fun h=>h.1⟩,fun j hj=>qM hj (cn),fun j j0 j1=>by lia,hY,fun h=>qM h (by decide)⟩
 | n+1,h=>by
  rw [fF,b9,b9];exact A.step N lt hts FL (by lia) (kE.both A N lt hts FL hY n (by lia))
theorem kE.yne (A:kE H q0 b m sp ts fs l rg Ts Ys qs y0):Ys≠[]:=fun z=>by
 have hy:=aP A.fst;have e:∀ (l:List Nat) (s:List Int),(l.foldl (stS ts) (s,[])).2=[]:=fun l=>by
  induction l with
  | nil=>intro _;rfl
  | cons k l ih=>intro s;exact ih s
 rw [z,e] at hy;cases hy
theorem kE.due (A:kE H q0 b m sp ts fs l rg Ts Ys qs y0)(N:jD b m sp)(lt:ts.length=m.toNat)(hts:∀ x∈ts,0≤x∧x<b)(FL:FitL b m sp F) :
  ((aF m.toNat).foldl (stS ts) ([],Ys)).1=((aF m.toNat).foldl (duS b ts) ([],F)).1∧(∀ j∈((aF m.toNat).foldl (stS ts) ([],Ys)).1,0≤j∧j<m∧tm y0.2 j=tm ts j):=by
 have J:=A.both N lt hts FL A.yne m.toNat (aA _);have m1:=N.m1;exact ⟨J.eq,fun j hj=>⟨(J.rng j hj).1,by have:=(J.rng j hj).2;lia,((J.l1 y0).mp (aP A.fst)).2 j hj⟩⟩
end
abbrev sFitg:cJ:=top 70
abbrev sIsT6:cJ:=top 71
theorem allT_rng {b:Nat}:∀ (n:Nat),∀ t∈nG b n,∀ x∈t,0≤x∧x<(b:Int)
 | 0,t,h,x,hx=>by rw [av.mp h] at hx;cases hx
 | n+1,t,h,x,hx=>by
  obtain ⟨t',h1,h2⟩:=List.mem_flatMap.mp (show t∈k7 b (nG b n) from h);obtain ⟨c,hc,rfl⟩:=bb.mp h2
  rcases aH.mp hx with z | z
  ·exact allT_rng n t' h1 x z
  ·rw [av.mp z];have:=cg.mp hc;lia
def fitF (b m:Int)(sp:List Sn)(l:List (List Int)):List (List Int):=(l.map fun t=>(0:Int)::t).filter fun t=>lr b t sp
theorem fitL_of {m:Int}(N:jD b m sp):FitL b m sp (fitF b m sp (nG b.toNat (m - 1).toNat)):=by
 have b1:=N.b1;have m1:=N.m1
 constructor
 ·intro t ht
  obtain ⟨h1,h2⟩:=bS.mp ht;obtain ⟨t',h3,rfl⟩:=bb.mp h1;refine ⟨⟨by rw [aN,nF _ _ _ h3];lia,fun x hx=>?_,h2⟩,rfl⟩
  rcases aI.mp hx with rfl | hx
  ·lia
  ·have:=allT_rng _ _ h3 x hx;lia
 ·intro t ok z
  obtain ⟨l1,r1,f1⟩:=ok;cases t with
  | nil=>rw [gQ] at l1;lia
  | cons a t =>
   have z:a=0:=z;subst z;refine bS.mpr ⟨bb.mpr ⟨t,oB _ _ (by rw [aN] at l1;lia) (fun x hx=>?_),rfl⟩,f1⟩;have:=r1 x (az _ hx);lia
inductive spFitg (vs:List V)(H:Hp)(Q:VK)(_:XK):Prop
 | mk (v:V)(b m:Int)(sp:List Sn)(_:vs=[v])(_:IsD H v (jA b m sp))(_:jD b m sp)(_:b≤6)(_:m≤4)(_:∀ (L:aq) (us:List V) (F:List (List Int)) (H':Hp),bH H H'→H' L=some (.lst us)→dG H' us (cW id F)→FitL b m sp F→F.length≤216→Q (.ref L) H')
inductive spIsT6 (vs:List V)(H:Hp)(Q:VK)(_:XK):Prop
 | mk (v:V)(u:aq)(b m:Int)(sp:List Sn)(ts:List Int)(_:vs=[v,.ref u])(_:IsD H v (jA b m sp))(_:H u=some (.tup (ts.map V.int)))(_:(ts.length:Int)=m)(_:m≤16)(_:∀ H',bH H H'→Q (.bl true) H')
theorem scFitg:bY ["_law_net","_law_found","_law_table_here"] ["_law_net"] (defScope sFitg):=by trivial
theorem ok_fitg (F:Fun K "_law_fitting" "_law_fitting" sFitg f fd)
  (G1:Fn K mg "_law_tables" sTables pzz f1 fd1) (F1:cM P w K mg base CX0 1 f1 fd1 pzz spTabsA)
  (G2:Fn K mg "_law_all_kept" sAllK pzi f2 fd2) (F2:cM P w K mg base CX0 2 f2 fd2 pzi spAllK):cM P w K mg base CX0 3 f fd ["_law_net"] spFitg:=by
 refine F.ok scFitg (by contradiction) (fun cdv A outer s H vs Q E hr h=>?_);obtain ⟨v,b,m,sp,rfl,hv,N,b6,m4,k⟩:=h;obtain ⟨t,p,ys,rfl,ht,hp,hl,hy⟩:=fm hv;have hr1:gN 1 _:=hr.mono (by decide);have b1:=N.b1;have m1:=N.m1;refine ⟨_,PSl.h (aY ⟨(psZ 1 scFitg.nd (iQ aD))⟩
  (aY ⟨(ib bE rfl (gg (pc1 G1 F1 hr1 (af (ixZ (pv 0)) (af (cU i0 (ixZ (pv 0)) bD) aD)))) (pgZ 2 scFitg.nd) (cy (fV (ia (pc1 G2 F2 hr (af (pv 0) (af (cU kh (cY (af bD aD)) (pv 2)) aD)))) (cy (gL (lh bc bP bO fH (pv 1) (af (cU kh (cY (af bD aD)) (pv 2)) aD)))) cZ)))⟩
  (cP ⟨(cf (pv 1))⟩))),?_⟩
 refine ⟨bg _,fun Ls hLs=>?_⟩;have S1:bH H (upd H Ls (.lst [])):=(bH.refl H).put hLs;have h1:(upd H Ls (.lst [])) Ls=some (.lst []):=aQ;generalize upd H Ls (.lst [])=H1 at S1 h1 ⊢;refine ⟨_,rfl,t,_,_,_,rfl,rfl,SqT.of (S1 _ _ ht),aO (j:=0) rfl,_,rfl,t,_,_,_,rfl,rfl,SqT.of (S1 _ _ ht),aO (j:=1) rfl,_,_,rfl,rfl,b,m - 1,rfl,by lia,b6,by lia,by lia,fun L us H2 S2 hL dT=>⟨L,rfl,⟨_,SqL.of hL⟩,?_⟩⟩;have nL:L≠Ls→True:=fun _=>trivial
 have lus:us.length=(nG b.toNat (m - 1).toNat).length:=by rw [dT.length];exact aa ..
 have cap:(nG b.toNat (m - 1).toNat).length≤216:=aM (allT_len _ _) (aM (Nat.pow_le_pow_left (by lia:b.toNat≤6) _) (Nat.pow_le_pow_right (by decide) (by lia:(m - 1).toNat≤3)));have h2:=S2 _ _ h1;have S02:=S1.trans S2
 by_cases nLL:L=Ls
 ·subst nLL
  rw [hL] at h2;cases h2;rw [gQ] at lus;have e:nG b.toNat (m - 1).toNat=[]:=cK.mp lus.symm;have:=oB (b:=b.toNat) (m - 1).toNat (bt (m - 1).toNat 0) (dt ..) (fun x hx=>by rw [(kq.mp hx).2];lia);rw [e] at this;cases this
 refine jh (K:=K) (a:=L) (xs:=us) (fun i σ HD=>bH H HD∧HD L=some (.lst us)∧jL H2 HD∧∃ (v2:Option V) (zs:List V),σ=[some (.ref t),some (.ref Ls),v2]∧HD Ls=some (.lst zs)∧dG HD zs (cW id (fitF b m sp ((nG b.toNat (m - 1).toNat).take i)))) ⟨S02,hL,fun _ _ e=>e,none,[],rfl,h2,.nil⟩ (fun i σ HD _ ⟨_,e,_⟩=>SqL.of e) ?_ ?_
 ·rintro i u σ HD hu ⟨SD,hLD,KD,v2,zs,rfl,hD,dD⟩
  have hi:i<us.length:=(ao.mp hu).1;have hi2:i<(nG b.toNat (m - 1).toNat).length:=by lia
  obtain ⟨d,ed,dd⟩:=dT.get hu;unfold cW at ed;rw [ay,gE hi2] at ed;cases ed;obtain ⟨q,xs,rfl,hq,rx⟩:=dd.tup_of;have ex:=rx.ints_of;subst ex;have hlen:=nF b.toNat _ _ (ba hi2);obtain ⟨ts,hts⟩:∃ ts,ts=(nG b.toNat (m - 1).toNat)[i]:=⟨_,rfl⟩;have hq2:HD q=some (.tup (ts.map V.int)):=by rw [hts];exact KD _ _ hq
  rw [←hts] at hlen;have ef:fitF b m sp ((nG b.toNat (m - 1).toNat).take (i+1))=fitF b m sp ((nG b.toNat (m - 1).toNat).take i)++(if lr b (0::ts) sp=true then [0::ts] else []):=by
   unfold fitF;rw [bj,gE hi2,aE,fj,←hts];congr 1;show jP _ [0::ts]=_;rw [fh];rfl
  have lz:zs.length≤216:=by
   rw [dD.length];unfold cW fitF;rw [aa];refine aM (cV _ _) ?_;rw [aa,bK];lia
  have c1:([V.int 0]++ts.map V.int)=(0::ts).map V.int:=rfl;refine ⟨_,rfl,szZ1,fun q1 H3 S3 h3=>⟨_,rfl,q1,q,_,_,rfl,rfl,h3,S3 _ _ hq2,?_,fun q4 H4 S4 h4=>?_⟩⟩
  ·rw [aa,hlen];exact aM (by show 1+(m - 1).toNat≤1000;lia) (by decide)
  rw [c1] at h4;refine ⟨.ref t,q4,b,m,sp,0::ts,rfl,(hv.same SD).same (S3.trans S4),h4,N.rdy (by rw [aN];lia),fun H5 S5=>⟨_,rfl,?_⟩⟩;have SD5:bH HD H5:=S3.trans (S4.trans S5);rw [ef];refine pS (fun hc=>?_) (fun hc=>?_)
  ·rw [qL hc]
   have hD5:=SD5 _ _ hD;refine ⟨_,rfl,.inl ⟨rfl,_,SqL.of hD5⟩,szZ1,fun q6 H6 S6 h6=>⟨_,rfl,q6,q,_,_,rfl,rfl,h6,S6 _ _ (SD5 _ _ hq2),?_,fun q7 H7 S7 h7=>?_⟩⟩
   ·rw [aa,hlen];exact aM (by show 1+(m - 1).toNat≤1000;lia) (by decide)
   rw [c1] at h7;have S57:bH HD H7:=SD5.trans (S6.trans S7);have hD7:=S57 _ _ hD;refine ⟨Ls,zs,_,rfl,rfl,hD7,(bU lz (by decide)),?_⟩;have KU:jL H7 (upd H7 Ls (.lst (zs++[.ref q7]))):=eI hD7;refine ⟨fun a o e=>?_,by rw [br nLL];exact S57 _ _ hLD,fun a xs e=>KU _ _ (S57 _ _ (KD _ _ e)),_,zs++[.ref q7],rfl,aQ,?_⟩
   ·rw [br (bC e hLs)];exact S57 _ _ (SD _ _ e)
   ·unfold cW
    rw [aE];exact (df KU (dD.same S57)).append (.cons (.tup (KU _ _ h7) (dG.ints _)) .nil)
  ·rw [qK hc,de]
   exact ⟨SD.trans SD5,SD5 _ _ hLD,fun a xs e=>SD5 _ _ (KD _ _ e),_,zs,rfl,SD5 _ _ hD,dD.same SD5⟩
 ·rintro σ HD ⟨SD,hLD,KD,v2,zs,rfl,hD,dD⟩
  rw [lus,bq] at dD;refine ⟨_,rfl,k Ls zs _ HD SD hD dD (fitL_of N) ?_⟩;unfold fitF;refine aM (cV _ _) ?_;rw [aa];exact cap
theorem scIsT6:bY pzw pzw (defScope sIsT6):=by trivial
theorem ok_isT6 (F:Fun K "_law_is_table" "_law_is_table" sIsT6 f fd)(T:Nm mg):cM P w K mg base CX0 1 f fd pzw spIsT6:=by
 refine F.ok scIsT6 (by contradiction) (fun cdv A outer s H vs Q E hr h=>?_);obtain ⟨v,u,b,m,sp,ts,rfl,hv,hu,hl,m16,k⟩:=h;obtain ⟨t,p,ys,rfl,ht,hp,_,hy⟩:=fm hv;refine ⟨_,PSl.h (aY ⟨(fV (PW.pt (oX (jE (ia (lU T (pv 1)))) (l9 (cw op_ne (cp bV rfl T.len bF (af (pv 1) aD)) (ixZ (pv 0)) (cG _))))) (cy (cf l5)) cZ)⟩
  (cP ⟨(cf (iG (op_eqL0 hr.units0) (gW (fr:=[]) (js:=[]) rfl (lI (pv 1)) (by trivial) rfl (by trivial) rfl (by exists sIsT6) (by trivial) rfl (by trivial) (fun _ _ _ _ _=>⟨(pv 0),(kQ (PW.pt (oX (jE (ia (pe_isInt T (pv 0)))) (l9 (ia (pe_isBool T (pv 0)))))))⟩)) (kT aD) (cG _)))⟩)),?_⟩
 refine ⟨_,rfl,_,_,rfl,(IsD.tup hu (dG.ints ts)).tyn,_,rfl,kd rfl ?_⟩;refine ⟨_,rfl,u,_,rfl,.inr (SqT.of hu),_,rfl,t,_,_,_,rfl,rfl,SqT.of ht,aO (j:=1) rfl,rfl,_,rfl,kd ?_ ?_⟩
 ·rw [aa,hl,qN rfl];rfl
 refine ⟨_,rfl,u,rfl,⟨_,SqT.of hu⟩,?_⟩;refine kf (K:=K) (a:=u) (xs:=ts.map V.int) (fun i zs H2=>H2=H∧zs=[]) ⟨rfl,rfl⟩ (fun i zs H2 hi ⟨e1,e2⟩=>⟨by rw [e1];exact SqT.of hu,by rw [e2];exact bg _⟩) (by rw [aa];exact eQ (by lia)) (fun i x zs H2 hx ⟨e1,e2⟩=>?_) (fun zs H2 ⟨e1,e2⟩ D hD=>?_)
 ·subst e1
  obtain ⟨y,hy',rfl⟩:=bb.mp (aP hx);refine ⟨_,rfl,_,_,rfl,(IsD.int y).tyn,_,rfl,kd rfl ?_⟩;refine ⟨_,rfl,_,_,rfl,(IsD.int y).tyn,_,rfl,?_⟩;exact ⟨rfl,e2⟩
 ·subst e1 e2
  refine ⟨(by show 0≤aZ;exact bg _),fun l2 H3 S3 h3=>⟨D,l2,_,rfl,rfl,SqL.of (S3 _ _ aQ),SqL.of h3,?_⟩⟩;exact k H3 (((bH.refl H2).put hD).trans S3)
abbrev sDue6:cJ:=top 72
theorem tm_hd (l:List Int):tm l 0=l.headD 0:=by cases l <;> rfl
inductive spDue6 (vs:List V)(H:Hp)(Q:VK)(_:XK):Prop
 | mk (v:V)(u L:aq)(b m:Int)(sp:List Sn)(ts:List Int)(us:List V)(F:List (List Int))(_:vs=[v,.ref u,.ref L])(_:IsD H v (jA b m sp))(_:0<b)(_:0≤m)(_:m≤16)(_:H u=some (.tup (ts.map V.int)))(_:ts.length=m.toNat)(_:H L=some (.lst us))(_:dG H us (cW id F))(_:(∀ t∈F,t.length=m.toNat))(_:F.length≤216)(_:∀ (q:aq) (H':Hp),bH H H'→H' q=some (.tup (((aF m.toNat).foldl (duS b ts) ([],F)).1.map V.int))→Q (.ref q) H')
theorem duS_sub {b:Int}{ts:List Int}{F:List (List Int)}:∀ (n:Nat),(∀ t∈((aF n).foldl (duS b ts) ([],F)).2,t∈F)∧(∀ j∈((aF n).foldl (duS b ts) ([],F)).1,0≤j∧j<n)∧((aF n).foldl (duS b ts) ([],F)).1.length≤n∧((aF n).foldl (duS b ts) ([],F)).2.length≤F.length
 | 0=>⟨fun _ h=>h,fun _ h=>qM h cn,aA _,aA _⟩
 | n+1=>by
  obtain ⟨h1,h2,h3,h4⟩:=duS_sub (b:=b) (ts:=ts) (F:=F) n;rw [fF,b9];generalize (aF n).foldl (duS b ts) ([],F)=p at h1 h2 h3 h4 ⊢;show (∀ t∈(duS b ts p n).2,t∈F)∧(∀ j∈(duS b ts p n).1,0≤j∧j<_)∧(duS b ts p n).1.length≤n+1∧(duS b ts p n).2.length≤F.length;unfold duS;split
  ·refine ⟨fun t ht=>h1 t (bS.mp ht).1,fun j hj=>?_,by rw [ar];exact Nat.add_le_add_right h3 1,aM (cV _ _) h4⟩
   rcases aH.mp hj with z | z
   ·have:=h2 j z;lia
   ·rw [av.mp z];lia
  ·exact ⟨h1,fun j hj=>by have:=h2 j hj;lia,by lia,h4⟩
theorem mU:bY ["_law_net","_law_table_here","_law_tables_here","_law_some","_law_left","_law_k","_law_first","_law_apart","_law_here"] pzG (defScope sDue6):=by trivial
theorem ok_due6 (F0:Fun K "_law_due" "_law_due" sDue6 f fd)(T2:Nt mg):cM P w K mg base CX0 1 f fd pzG spDue6:=by
 refine F0.ok mU (by contradiction) (fun cdv A outer s H vs Q E hr h=>?_);obtain ⟨v,u,L,b,m,sp,ts,us,F,rfl,hv,b0,m0,m16,hu,lt,hL,dF,lF,cF,k⟩:=h;obtain ⟨t,p,ys,rfl,ht,hp,hl,hy⟩:=fm hv;refine ⟨_,PSl.h (aY ⟨(psZ 3 mU.nd (cY aD))⟩
  (aY ⟨(psZ 4 mU.nd (pv 2))⟩
  (aY ⟨(ib bE rfl (gH rfl T2.range (af (ixZ (pv 0)) aD)) (pgZ 5 mU.nd) (PSl.h (aY ⟨(psZ 6 mU.nd (ixZ (cU kh (pv 3) (cY (af (pv 5) aD)))))⟩
  (aY ⟨(psZ 7 mU.nd (cU i0 (eJ eD (pv 1) (pv 5) (fun _ _=>rfl)) (eJ eD (pv 1) (pv 6) (fun _ _=>rfl))))⟩
  (aY ⟨(oY (iy:=8) (fr:=["_law_apart","_law_net","_law_k","_law_first"]) (js:=[7,0,5,6]) mU.nd rfl (.inl rfl) rfl (gg (pv 4)) (by trivial) rfl (by trivial) rfl (by exists sDue6) (by trivial) rfl (by trivial) (fun _ _ _ _ _=>⟨(pv 0),(kQ (cw jJ (cU k6 (cU i0 (cU i0 (eJ (r:=rIxT K) eD (pv 0) (pv 3) (fun _ _=>rfl)) (eJ (r:=rIxT K) eD (pv 0) (pv 4) (fun _ _=>rfl))) (pv 1)) (eJ (r:=rIxT K) eD (pv 2) bD (fun _ _=>rfl))) bD (cG _)))⟩))⟩
  (cP ⟨(fV (cw (op_neL0 hr.units0) (pv 8) (kT aD) (cG _)) (PSl.h (aY ⟨(psZ 3 mU.nd (cU kh (pv 3) (cY (af (pv 5) aD))))⟩
  (cP ⟨(psZ 4 mU.nd (pv 8))⟩))) cZ)⟩))))))⟩
  (cP ⟨(cf (pv 3))⟩)))),?_⟩
 refine ⟨bg _,fun q3 H1 S1 h1=>⟨_,rfl,?_⟩⟩;refine ⟨_,rfl,t,_,_,_,rfl,rfl,SqT.of (S1 _ _ ht),aO (j:=1) rfl,m,rfl,by lia,by lia,?_⟩;refine j5 (n:=m.toNat) (fun i σ HD=>bH H HD∧∃ (q La:aq) (zs:List V) (v5 v6 v7 v8:Option V),σ=[some (.ref t),some (.ref u),some (.ref L),some (.ref q),some (.ref La),v5,v6,v7,v8]∧HD q=some (.tup (((aF i).foldl (duS b ts) ([],F)).1.map V.int))∧HD La=some (.lst zs)∧dG HD zs (cW id ((aF i).foldl (duS b ts) ([],F)).2)) ⟨S1,q3,L,us,none,none,none,none,rfl,h1,S1 _ _ hL,dF.same S1⟩ ?_ ?_
 ·rintro i σ HD hi ⟨SD,q,La,zs,v5,v6,v7,v8,rfl,hq,hLa,dz⟩
  rw [fF,b9];obtain ⟨sb,rg,ls,lc⟩:=duS_sub (b:=b) (ts:=ts) (F:=F) i;generalize (aF i).foldl (duS b ts) ([],F)=pr at hq dz sb rg ls lc ⊢;obtain ⟨S,Lf⟩:=pr
  dsimp only at hq dz sb rg ls lc
  have e0:(0:Int)+(i:Int)=i:=iM _;rw [e0];have lz:zs.length=Lf.length:=by rw [dz.length];unfold cW;rw [aa]
  have c1:S.map V.int++[V.int (i:Int)]=(S++[(i:Int)]).map V.int:=by rw [aE];rfl
  have clen:(S.map V.int).length+1≤aZ:=aM (by rw [aa];lia:_≤1000) (by decide);refine ⟨_,rfl,_,rfl,szZ1,fun q1 H2 S2 h2=>⟨q,q1,_,_,rfl,rfl,S2 _ _ hq,h2,clen,fun q2 H3 S4 h3=>?_⟩⟩;rw [c1] at h3;have S23:=S2.trans S4;have SD3:=SD.trans S23;have hfm:tm (S++[(i:Int)]) 0∈S++[(i:Int)]:=by
   rw [tm_hd];cases S with
   | nil=>simp
   | cons a r=>simp
  have rf:0≤tm (S++[(i:Int)]) 0∧tm (S++[(i:Int)]) 0<m:=by
   rcases aH.mp hfm with z | z
   ·have:=rg _ z;lia
   ·rw [av.mp z];lia
  refine ⟨q2,_,_,_,rfl,rfl,SqT.of h3,lE (by decide) (by rw [ar];show (0:Int)<((S.length+1:Nat):Int);lia),?_⟩;rw [tm_hd] at rf ⊢;obtain ⟨fi,efi⟩:∃ fi,fi=(S++[(i:Int)]).headD 0:=⟨_,rfl⟩;rw [←efi] at rf ⊢;have hu3:=SD3 _ _ hu;refine ⟨_,rfl,_,rfl,u,_,_,_,rfl,rfl,SqT.of hu3,lE (by lia) (by lia),_,rfl,_,rfl,u,_,_,_,rfl,rfl,SqT.of hu3,lE rf.1 (by lia),_,_,rfl,rfl,?_⟩;have hLa3:=S23 _ _ hLa;have dz3:=dz.same S23;refine ⟨_,rfl,La,rfl,⟨_,SqL.of hLa3⟩,?_⟩;refine jv (K:=K) (a:=La) (xs:=zs) (fun j ws H7=>H7=H3∧dG H3 ws (cW id ((Lf.take j).filter fun o=>relT b ts o fi i))∧ws.length≤j) ⟨rfl,.nil,aA _⟩ (fun j ws H7 hj ⟨e1,_,e3⟩=>⟨by rw [e1];exact SqL.of hLa3,e3⟩) (by rw [lz];exact eQ (by lia)) (fun j x ws H7 hx ⟨e1,e2,e3⟩=>?_) (fun ws H7 ⟨e1,e2,e3⟩ Lh hLh=>?_)
  ·subst e1
   have hj:j<Lf.length:=by rw [←lz];exact (ao.mp hx).1
   obtain ⟨d,ed,dx⟩:=dz3.get hx;unfold cW at ed;rw [ay,gE hj] at ed;cases ed;obtain ⟨qo,xo,rfl,ho,ro⟩:=dx.tup_of;have eo:=ro.ints_of;subst eo;have lo:(id Lf[j]).length=m.toNat:=lF _ (sb _ (ba hj));refine ⟨_,rfl,_,rfl,qo,_,_,_,rfl,rfl,SqT.of ho,lE (by lia) (by lia),_,rfl,_,rfl,qo,_,_,_,rfl,rfl,SqT.of ho,lE rf.1 (by lia),_,_,rfl,rfl,_,rfl,_,_,rfl,rfl,_,rfl,t,_,_,_,rfl,rfl,SqT.of (SD3 _ _ ht),aO (j:=0) rfl,_,_,rfl,rfl,b0,rfl,_,rfl,?_⟩;have ed:decide (V.int ((tm Lf[j] i - tm Lf[j] fi - (tm ts i - tm ts fi)) % b)=V.int 0)=relT b ts Lf[j] fi i:=decide_eq_decide.mpr ⟨fun z=>by injection z,fun z=>by rw [z]⟩;show if decide (V.int ((tm Lf[j] i - tm Lf[j] fi - (tm ts i - tm ts fi)) % b)=V.int 0)=true then _ else _;rw [ed,bj,gE hj,fj];refine pS (fun hc=>?_) (fun hc=>?_)
   ·refine ⟨_,rfl,rfl,?_,by rw [ar];exact Nat.add_le_add_right e3 1⟩
    unfold cW;rw [aE];refine dG.append e2 ?_;show dG H7 _ ((jP _ [Lf[j]]).map _);rw [fh,qL hc];exact .cons (.tup ho (dG.ints _)) .nil
   ·refine ⟨rfl,?_,by lia⟩
    have:jP (fun o=>relT b ts o fi (i:Int)) (some Lf[j]).toList=[]:=by
     show jP _ [Lf[j]]=[];rw [fh,qK hc];rfl
    rw [this,de];exact e2
  ·subst e1
   rw [lz,bq] at e2;have S7:bH H7 (upd H7 Lh (.lst ws)):=(bH.refl H7).put hLh;have h7:(upd H7 Lh (.lst ws)) Lh=some (.lst ws):=aQ;generalize upd H7 Lh (.lst ws)=H8 at S7 h7 ⊢;have lw:ws.length=(Lf.filter fun o=>relT b ts o fi i).length:=by rw [e2.length];unfold cW;rw [aa]
   refine ⟨_,rfl,bg _,fun l2 H9 S9 h9=>⟨Lh,l2,_,rfl,rfl,SqL.of (S9 _ _ h7),SqL.of h9,_,rfl,?_⟩⟩;have S39:=S7.trans S9;have SD9:=SD3.trans S39;have es:duS b ts (S,Lf) i=if (Lf.filter fun o=>relT b ts o fi i)≠[] then (S++[(i:Int)],Lf.filter fun o=>relT b ts o fi i) else (S,Lf):=by unfold duS;dsimp only;rw [←efi]
   show if (!ws.isEmpty)=true then _ else _;rw [bM,List.foldl_nil,es];refine pS (fun hc=>?_) (fun hc=>?_)
   ·have hc':(Lf.filter fun o=>relT b ts o fi i)≠[]:=fun z=>by
     rw [z,gQ] at lw;rw [cK.mp lw] at hc;cases hc
    rw [qL hc'];refine ⟨_,rfl,_,rfl,szZ1,fun qa Ha Sa ha=>⟨q,qa,_,_,rfl,rfl,Sa _ _ (S39 _ _ (S23 _ _ hq)),ha,clen,fun qb Hb Sb hb=>⟨_,rfl,?_⟩⟩⟩;have S9b:=Sa.trans Sb;rw [c1] at hb;exact ⟨SD9.trans S9b,qb,Lh,ws,_,_,_,_,rfl,hb,S9b _ _ (S9 _ _ h7),(e2.same S39).same S9b⟩
   ·have hc':¬ ((Lf.filter fun o=>relT b ts o fi i)≠[]):=fun z=>by
     cases ws with
     | nil=>rw [gQ] at lw;exact z (cK.mp lw.symm)
     | cons a r=>exact hc rfl
    rw [qK hc'];exact ⟨SD9,q,La,zs,_,_,_,_,rfl,S39 _ _ (S23 _ _ hq),S39 _ _ hLa3,dz3.same S39⟩
 ·rintro σ HD ⟨SD,q,La,zs,v5,v6,v7,v8,rfl,hq,hLa,dz⟩
  exact ⟨_,rfl,k q HD SD hq⟩
end HN
variable {Ys:List HN.AT}
namespace L2
open PySem PySem.Spec PyProof.Rows
theorem qz {c1 c2:Sq}{Q:VK}(Pv:Nat→List V→Hp→Prop)(h0:Pv 0 [] H)(hl:∀ i zs H,i≤ys.length→Pv i zs H→HSq H c1 xs∧HSq H c2 ys∧zs.length≤i)(hxy:ys.length≤xs.length)
  (hs:∀ i x y zs p H,xs[i]? =some x→ys[i]? =some y→Pv i zs H→H p=none→tt (some x::some y::cQ σ js) (upd H p (.tup [x,y])) fun b H4=>if b=true then te (some x::some y::cQ σ js) H4 fun y H5=>Pv (i+1) (zs++[y]) H5 else Pv (i+1) zs H4)
  (hz:ys.length≤aZ) (hd:∀ zs H,Pv ys.length zs H→∀ D,H D=none→Q (.ref D) (upd H D (.lst zs))):nJ 2 (gPair K) js tt te σ Q (Itq [c1,c2]) H:=by
 refine ⟨fun i m zs H=>i≤ys.length∧m=ys.length - i∧Pv i zs H,⟨_,bg _,rfl,h0⟩,fun i m zs H2 ⟨hi,hm,hp⟩=>?_⟩;obtain ⟨qa,qb,hy⟩:=hl i zs H2 hi hp
 by_cases e:i=ys.length
 ·subst e
  refine .inl ⟨?_,hd zs H2 hp⟩
  by_cases q:ys.length<xs.length
  ·refine ⟨1,c2,ys,rfl,qb,aA _,fun n c hc hn=>?_⟩
   have:n=0:=by lia
   subst this;cases hc;exact ⟨xs,_,qa,gE q⟩
  ·exact ⟨0,c1,xs,rfl,qa,by lia,fun n c _ hn=>qM hn (by lia)⟩
 ·have hlt2:i<ys.length:=dI hi e
  have hlt:i<xs.length:=by lia
  refine .inr ⟨⟨[xs[i],ys[i]],rfl,fun n c hc=>?_⟩,by lia,Pv (i+1),fun ys' H' hp'=>⟨ys.length - (i+1),by lia,by lia,rfl,hp'⟩,fun v H3 hy3 v0 hv0=>?_⟩
  ·match n,hc with
   | 0,hc=>cases hc;exact ⟨xs,xs[i],qa,gE hlt,rfl⟩
   | 1,hc=>cases hc;exact ⟨ys,ys[i],qb,gE hlt2,rfl⟩
   | n+2,hc=>simp at hc
  ·obtain ⟨p,vs,hn,rfl,rfl,lv,hx⟩:=hy3
   match vs,lv,hx,v0,hv0 with
   | [x,y],_,hx,[v1,v2],_=>exact ⟨p,_,rfl,SqT.of aQ,rfl,_,_,rfl,_,_,rfl,rfl,⟨[some x,some y],rfl,rfl⟩,hs i x y zs p H2 (hx 0 c1 x xs rfl qa rfl) (hx 1 c2 y ys rfl qb rfl) hp hn⟩
end L2
namespace HN
open PySem L2 PyProof.Rows
abbrev sWhole:cJ:=top 4
abbrev sWithin:cJ:=top 5
abbrev sStep:cJ:=top 9
abbrev sWay:cJ:=top 12
abbrev sRing:cJ:=top 13
abbrev sHeaded:cJ:=top 33
abbrev sCut:cJ:=top 34
abbrev sLeafT:cJ:=top 36
theorem cut_one:cutV xs (some 1) none=xs.drop 1:=by
 unfold cutV;cases xs with
 | nil=>rfl
 | cons x xs =>
  have e1:HT.sIx (x::xs).length 0 (some 1)=1:=by
   have:=HT.sIx_nat (x::xs).length 0 1;rw [show ((1:Nat):Int)=1 from rfl] at this;rw [this,aN];lia
  rw [e1];show ((x::xs).drop 1).take ((x::xs).length - 1)=_;rw [jj (by simp)]
theorem qz {c1 c2:L2.Sq}{σ:L2.St}{Q:VK}(Pv:Nat→List V→Hp→Prop)(h0:Pv 0 [] H)(hl:∀ i zs H,i≤ys.length→Pv i zs H→HSq H c1 xs∧HSq H c2 ys∧zs.length≤i)(hxy:ys.length<xs.length)
  (hs:∀ i x y zs p H,xs[i]? =some x→ys[i]? =some y→Pv i zs H→H p=none→tt (some x::some y::cQ σ js) (upd H p (.tup [x,y])) fun b H4=>if b=true then te (some x::some y::cQ σ js) H4 fun y H5=>Pv (i+1) (zs++[y]) H5 else Pv (i+1) zs H4)
  (hz:ys.length≤aZ) (hd:∀ zs H,Pv ys.length zs H→∀ D,H D=none→Q (.ref D) (upd H D (.lst zs))):nJ 2 (gPair K) js tt te σ Q (Itq [c1,c2]) H:=by
 refine ⟨fun i m zs H=>i≤ys.length∧m=ys.length - i∧Pv i zs H,⟨_,bg _,rfl,h0⟩,fun i m zs H2 ⟨hi,hm,hp⟩=>?_⟩;obtain ⟨qa,qb,hy⟩:=hl i zs H2 hi hp
 by_cases e:i=ys.length
 ·subst e
  refine .inl ⟨⟨1,c2,ys,rfl,qb,aA _,fun n c hc hn=>?_⟩,hd zs H2 hp⟩;have:n=0:=by lia
  subst this;cases hc;exact ⟨xs,_,qa,gE hxy⟩
 ·have hlt2:i<ys.length:=dI hi e
  have hlt:i<xs.length:=by lia
  refine .inr ⟨⟨[xs[i],ys[i]],rfl,fun n c hc=>?_⟩,by lia,Pv (i+1),fun ys' H' hp'=>⟨ys.length - (i+1),by lia,by lia,rfl,hp'⟩,fun v H3 hy3 v0 hv0=>?_⟩
  ·match n,hc with
   | 0,hc=>cases hc;exact ⟨xs,xs[i],qa,gE hlt,rfl⟩
   | 1,hc=>cases hc;exact ⟨ys,ys[i],qb,gE hlt2,rfl⟩
   | n+2,hc=>simp at hc
  ·obtain ⟨p,vs,hn,rfl,rfl,lv,hx⟩:=hy3
   match vs,lv,hx,v0,hv0 with
   | [x,y],_,hx,[v1,v2],_=>exact ⟨p,_,rfl,SqT.of aQ,rfl,_,_,rfl,_,_,rfl,rfl,⟨[some x,some y],rfl,rfl⟩,hs i x y zs p H2 (hx 0 c1 x xs rfl qa rfl) (hx 1 c2 y ys rfl qb rfl) hp hn⟩
inductive spWhT (vs:List V)(H:Hp)(Q:VK)(_:XK):Prop
 | mk (i:Int)(_:vs=[.int i])(_:Q (.bl true) H)
inductive spWiT (vs:List V)(H:Hp)(Q:VK)(_:XK):Prop
 | mk (i lo hi:Int)(_:vs=[.int i,.int lo,.int hi])(_:lo≤i)(_:i≤hi)(_:Q (.bl true) H)
inductive spStT (vs:List V)(H:Hp)(Q:VK)(_:XK):Prop
 | mk (v:V)(q:aq)(b m:Int)(sp:List Sn)(s:Stp)(_:vs=[v,.ref q])(_:IsD H v (jA b m sp))(_:H q=some (.tup (s.row.map V.int)))(_:s.i<sp.length)(_:(s.d=1∨s.d= -1))(_:Q (.bl true) H)
inductive spRgT (vs:List V)(H:Hp)(Q:VK)(_:XK):Prop
 | mk (v u:V)(b m:Int)(sp:List Sn)(ws:List Stp)(_:vs=[v,u])(_:IsD H v (jA b m sp))(_:IsD H u (oj ws))(_:Rg sp ws)(_:∀ H',bH H H'→Q (.bl true) H')
inductive spHdT (vs:List V)(H:Hp)(Q:VK)(_:XK):Prop
 | mk (u:V)(z y:Str)(n:Int)(ds:List Dt)(_:vs=[u,.str z,.int n])(_:IsD H u (.tup (.str y::ds)))(_:Q (.bl (decide ((ds.length:Int)+1=n) && decide (y=z))) H)
def CtT (bs:List (Int×Int)):Tq→Prop
 | .leaf d=>∃ ws,d=leafP (.ring ws)
 | .cut k a _ _=>k<bs.length∧(bs.getD k (0,0)).1≤a∧a<(bs.getD k (0,0)).2
def isCt:Tq→Bool
 | .leaf _=>false
 | .cut _ _ _ _=>true
inductive spCtT (vs:List V)(H:Hp)(Q:VK)(_:XK):Prop
 | mk (vb u:V)(bs:List (Int×Int))(t:Tq)(_:vs=[vb,u])(_:IsD H vb (bndP bs))(_:IsD H u (jR t))(_:CtT bs t)(_:Q (.bl (isCt t)) H)
inductive spLfT (vs:List V)(H:Hp)(Q:VK)(_:XK):Prop
 | mk (v u:V)(b m:Int)(sp:List Sn)(ws:List Stp)(_:vs=[v,u])(_:IsD H v (jA b m sp))(_:IsD H u (leafP (.ring ws)))(_:Rg sp ws)(_:∀ H',bH H H'→Q (.bl true) H')
theorem ps_outT:PS X st (fun _ _ _=>False):=fun _ _ _ _ _ _ h=>h.elim
theorem scWhole:bY ["thing"] ["thing"] (defScope sWhole):=by trivial
theorem ok_whT (F:Fun K "is_whole" "is_whole" sWhole f fd)(T:Nm mg):cM P w K mg base CX0 1 f fd ["thing"] spWhT:=by
 refine F.ok scWhole (by contradiction) (fun cdv A outer s H vs Q E hr h=>?_);obtain ⟨i,rfl,k⟩:=h;refine ⟨_,cy (cf (md (pe_isInt T (pv 0)) (qk (pe_not (pe_isBool T (pv 0)))))),?_⟩;exact ⟨_,rfl,_,_,rfl,(IsD.int i).tyn,_,rfl,mO rfl ⟨_,rfl,_,_,rfl,(IsD.int i).tyn,_,rfl,k⟩⟩
theorem scWithin:bY pzo pzo (defScope sWithin):=by trivial
theorem ok_wiT (F:Fun K "is_within" "is_within" sWithin f fd)(T:Nm mg)(G1:Fn K mg "is_whole" sWhole ["thing"] f1 fd1):cM P w K mg base CX0 2 f fd pzo spWiT:=by
 have F1:cM P w K mg base CX0 1 f1 fd1 ["thing"] spWhT:=ok_whT G1.F T;refine F.ok scWithin (by contradiction) (fun cdv A outer s H vs Q E hr h=>?_);obtain ⟨i,lo,hi,rfl,h1,h2,k⟩:=h;refine ⟨_,cy (cf (md (pc1 G1 F1 hr (af (pv 0) aD)) (qk (pe_chain op_le op_le (pv 1) (pv 0) (pv 2))))),?_⟩;refine ⟨_,rfl,i,rfl,_,rfl,mO rfl ?_⟩;refine ⟨_,rfl,_,rfl,_,_,rfl,rfl,_,rfl,mO (qN h1) ⟨_,rfl,_,_,rfl,rfl,?_⟩⟩;rw [←qN h2] at k;exact k
theorem scStep:bY pzb pzb (defScope sStep):=by trivial
theorem ok_stT (F:Fun K "is_step" "is_step" sStep f fd)(T:Nm mg)(G1:Fn K mg "is_within" sWithin pzo f1 fd1)(G2:Fn K mg "is_whole" sWhole ["thing"] f2 fd2):cM P w K mg base CX0 3 f fd pzb spStT:=by
 have F1:cM P w K mg base CX0 2 f1 fd1 pzo spWiT:=ok_wiT G1.F T G2;refine F.ok scStep (by contradiction) (fun cdv A outer s' H vs Q E hr h=>?_);obtain ⟨v,q,b,m,sp,s,rfl,hv,hq,hi,hd,k⟩:=h;obtain ⟨t,pn,ys,rfl,ht,hpn,hl,hy⟩:=fm hv;refine ⟨_,PSl.h (aY ⟨(fV (PW.pt (oX (jE (ia (lU T (pv 1)))) (l9 (cw op_ne (cp bV rfl T.len bF (af (pv 1) aD)) bD (cG _))))) (cy (cf l5)) cZ)⟩
  (aY ⟨(fV (jE (ia (pc1 G1 F1 hr (af (ixZ (pv 1)) (af bD (af (cU i0 (cp bV rfl T.len bF (af (ixZ (pv 0)) aD)) bD) aD)))))) (cy (cf l5)) cZ)⟩
  (cP ⟨(cf (md (pc1 G1 F1 hr (af (ixZ (pv 1)) (af (pe_un pZ bD) (af bD aD)))) (qk (iG op_ne (ixZ (pv 1)) bD (cG _)))))⟩))),?_⟩
 refine ⟨_,rfl,.ref q,"tuple",rfl,(by unfold tyn;dsimp only;rw [hq]),_,rfl,kd rfl ?_⟩;refine ⟨_,rfl,q,_,rfl,.inr (SqT.of hq),rfl,_,rfl,kd (by rfl) ?_⟩;refine ⟨_,rfl,q,_,_,_,rfl,rfl,SqT.of hq,aO (j:=0) rfl,_,rfl,t,_,_,_,rfl,rfl,SqT.of ht,aO (j:=2) rfl,pn,_,rfl,.inr (SqT.of hpn),_,_,rfl,rfl,_,_,_,rfl,by lia,by lia,_,rfl,kd rfl ?_⟩;refine ⟨_,rfl,q,_,_,_,rfl,rfl,SqT.of hq,aO (j:=1) rfl,_,rfl,_,_,_,rfl,by lia,by lia,_,rfl,mO rfl ?_⟩;refine ⟨_,rfl,q,_,_,_,rfl,rfl,SqT.of hq,aO (j:=1) rfl,rfl,?_⟩;have e:decide (V.int s.d=V.int 0)=false:=qO fun z=>by injection z;lia
 show Q (.bl (!decide (V.int s.d=V.int 0))) H;rw [e];exact k
theorem scWay:bY pzb pzb (defScope sWay):=by trivial
theorem ok_wyT (F:Fun K "is_way" "is_way" sWay f fd)(T:Nm mg)(T2:Nt mg)(G1:Fn K mg "is_step" sStep pzb f1 fd1)(F1:cM P w K mg base CX0 3 f1 fd1 pzb spStT)(G2:Fn K mg "leads_from" sFrom pzc f2 fd2)(G3:Fn K mg "leads_to" sTo pzc f3 fd3):cM P w K mg base CX0 4 f fd pzb spRgT:=by
 have F2:cM P w K mg base CX0 1 f2 fd2 pzc p9:=pf G2.F;have F3:cM P w K mg base CX0 1 f3 fd3 pzc spTo:=ok_to G3.F;refine F.ok scWay (by contradiction) (fun cdv A outer s H vs Q E hr h=>?_);obtain ⟨v,u,b,m,sp,ws,rfl,hv,hu,rg,k⟩:=h;have hr1:gN 1 _:=hr.mono (by decide);refine ⟨_,PSl.h (aY ⟨(fV (PW.pt (oX (jE (ia (lU T (pv 1)))) (l9 (cw jJ (cp bV rfl T.len bF (af (pv 1) aD)) bD (cG _))))) (cy (cf l5)) cZ)⟩
  (aY ⟨(fV (jE (ia (cp (call_all rfl) rfl T.all boot_all (af (gW (fr:=pza) (js:=[0]) rfl (lI (pv 1)) (by trivial) rfl (by trivial) rfl (by exists sWay) (by trivial) rfl (by trivial) (fun _ _ _ _ _=>⟨(pc1 G1 F1 hr (af (pv 1) (af (pv 0) aD))),gT⟩)) aD)))) (cy (cf l5)) cZ)⟩
  (cP ⟨(cf (cp (call_all rfl) rfl T.all boot_all (af (pe_compT (xs:=["one","other"]) (fr:=pza) (js:=[0]) rfl (pi_zip2 rfl T2.zip (af (pv 1) (af (pe_slice sl_tupN (pv 1) (po_some bD) po_none) aD))) (by trivial) rfl (by trivial) (by exists sWay) rfl (by trivial) (fun _ _ _ _ _=>pg_two rfl (by trivial) rfl rfl) (fun _ _ _ _ _=>⟨(iG jJ (pc1 G3 F3 hr1 (af (pv 2) (af (pv 0) aD))) (pc1 G2 F2 hr1 (af (pv 2) (af (pv 1) aD))) (cG _)),gT⟩)) aD)))⟩))),?_⟩
 obtain ⟨p,xs,rfl,hp,lx,rx⟩:=gw hu;have two:=rg.two;have few:=rg.few;obtain ⟨x0,al⟩:=rg.rnd;obtain ⟨_,_,nxt⟩:=pQ al;refine ⟨_,rfl,_,_,rfl,hu.tyn,_,rfl,kd rfl ?_⟩;refine ⟨_,rfl,p,_,rfl,.inr (SqT.of hp),rfl,_,rfl,kd (qO fun z=>by injection z;lia) ?_⟩;refine ⟨_,rfl,p,rfl,⟨_,SqT.of hp⟩,?_⟩;refine kf (K:=K) (a:=p) (xs:=xs) (fun i zs H2=>H2=H∧zs=(bt i true).map V.bl) ⟨rfl,rfl⟩ (fun i zs H2 hi ⟨e1,e2⟩=>?_) (by rw [lx];exact eQ (by lia)) (fun i x zs H2 hx ⟨e1,e2⟩=>?_) (fun zs H2 ⟨e1,e2⟩ D hD=>?_)
 ·subst e1
  exact ⟨SqT.of hp,by rw [e2,aa,dt];exact aA _⟩
 ·subst e1
  have hi:i<ws.length:=by rw [←lx];exact (ao.mp hx).1
  obtain ⟨q1,f1,g1⟩:=iF rx (gE hi);rw [hx] at f1;cases f1;refine gc ?_;obtain ⟨s1,s2⟩:=rg.inn ws[i] (ba hi);refine ⟨_,rfl,_,rfl,v,q1,b,m,sp,ws[i],rfl,hv,g1,s1,s2,rfl,?_⟩;rw [e2,List.replicate_succ',aE];rfl
 subst e1;have S3:=bH.put (o:= .lst zs) (bH.refl H2) hD;have h3:(upd H2 D (.lst zs)) D=some (.lst zs):=aQ;generalize upd H2 D (.lst zs)=H3 at S3 h3 ⊢;subst e2;refine ⟨D,bt xs.length true,rfl,SqL.of h3,_,rfl,kd ?_ ?_⟩
 ·rw [gF.mpr fun x hx=>(by rw [(kq.mp hx).2];rfl)];rfl
 refine ⟨_,rfl,_,rfl,_,rfl,p,_,rfl,S3 _ _ hp,fun p4 H4 S4 h4=>?_⟩;rw [cut_one] at h4;have S24:=S3.trans S4;refine ⟨⟨false,p⟩,⟨false,p4⟩,_,_,rfl,S24 _ _ hp,h4,?_⟩;refine qz (K:=K) (c1:=⟨false,p⟩) (c2:=⟨false,p4⟩) (xs:=xs) (ys:=xs.drop 1) (fun i zs H5=>bH H4 H5∧∃ n,n≤i∧zs=(bt n true).map V.bl) ⟨bH.refl _,0,aA _,rfl⟩ (fun i zs H5 hi ⟨e1,n,hn,e2⟩=>?_) (by rw [dh];lia) (fun i x y zs p5 H5 hx hy ⟨e1,n,hn,e2⟩ hp5=>?_) (by rw [dh,lx];exact eQ (by lia)) (fun zs H5 ⟨e1,n,hn,e2⟩ D5 hD5=>?_)
 ·refine ⟨e1 _ _ (S24 _ _ hp),e1 _ _ h4,?_⟩
  rw [e2,aa,dt];exact hn
 ·have hi:i<ws.length:=by rw [←lx];exact (ao.mp hx).1
  rw [List.getElem?_drop,Nat.add_comm] at hy;have hi1:i+1<ws.length:=by rw [←lx];exact (ao.mp hy).1
  obtain ⟨q1,f1,g1⟩:=iF rx (gE hi);obtain ⟨q2,f2,g2⟩:=iF rx (gE hi1);rw [hx] at f1;rw [hy] at f2;cases f1;cases f2;have S5:=e1.put (o:= .tup [.ref q1,.ref q2]) hp5;have S25:=S24.trans S5;obtain ⟨i1,_⟩:=rg.inn ws[i] (ba hi);obtain ⟨i2,_⟩:=rg.inn ws[i+1] (ba hi1);refine gc ?_;refine ⟨_,rfl,_,rfl,v,q1,b,m,sp,ws[i],sp[ws[i].i],rfl,hv.same S25,S25 _ _ g1,gE i1,?_⟩;refine ⟨_,rfl,_,rfl,v,q2,b,m,sp,ws[i+1],sp[ws[i+1].i],rfl,hv.same S25,S25 _ _ g2,gE i2,rfl,S5,n+1,by lia,?_⟩;have u1:eY sp ws[i]=too sp[ws[i].i] ws[i].d:=by unfold eY;rw [gE i1]
  have u2:kl sp ws[i+1]=frm sp[ws[i+1].i] ws[i+1].d:=by unfold kl;rw [gE i2]
  have e:=nxt i hi1;rw [u1,u2] at e;rw [e2,e,qN rfl,List.replicate_succ',aE];rfl
 ·refine ⟨D5,bt n true,rfl,SqL.of (by rw [aQ,e2]),?_⟩
  rw [gF.mpr fun x hx=>(by rw [(kq.mp hx).2];rfl)];exact k _ (S24.trans (e1.put hD5))
theorem scRing:bY pzb pzb (defScope sRing):=by trivial
theorem ok_rgT (F:Fun K "is_ring" "is_ring" sRing f fd)(T:Nm mg)(T3:N3 mg)(G1:Fn K mg "is_way" sWay pzb f1 fd1)(F1:cM P w K mg base CX0 4 f1 fd1 pzb spRgT)(G2:Fn K mg "leads_from" sFrom pzc f2 fd2)(G3:Fn K mg "leads_to" sTo pzc f3 fd3):cM P w K mg base CX0 5 f fd pzb spRgT:=by
 have F2:cM P w K mg base CX0 1 f2 fd2 pzc p9:=pf G2.F;have F3:cM P w K mg base CX0 1 f3 fd3 pzc spTo:=ok_to G3.F;refine F.ok scRing (by contradiction) (fun cdv A outer s H vs Q E hr h=>?_);obtain ⟨v,u,b,m,sp,ws,rfl,hv,hu,rg,k⟩:=h;have hr1:gN 1 _:=hr.mono (by decide);refine ⟨_,PSl.h (aY ⟨(fV (PW.pt (oX (jE (ia (pc1 G1 F1 hr (af (pv 0) (af (pv 1) aD))))) (l9 (cw op_lt (cp bV rfl T.len bF (af (pv 1) aD)) bD (cG _))))) (cy (cf l5)) cZ)⟩
  (aY ⟨(fV (cw op_ne (cp call_lenS rfl T.len bF (af (eU (call_setL rfl) rfl T3.tset boot_set (af (gW (fr:=[]) (js:=[]) rfl (lI (pv 1)) (by trivial) rfl (by trivial) rfl (by exists sRing) (by trivial) rfl (by trivial) (fun _ _ _ _ _=>⟨(eJ (r:=rIxT K) eD (pv 0) bD (fun _ _=>rfl)),gT⟩)) aD)) aD)) (cp bV rfl T.len bF (af (pv 1) aD)) (cG _)) (cy (cf l5)) cZ)⟩
  (cP ⟨(cf (iG jJ (pc1 G2 F2 hr1 (af (pv 0) (af (ixZ (pv 1)) aD))) (pc1 G3 F3 hr1 (af (pv 0) (af (eJ eD (pv 1) (pe_un pZ bD) (fun _ _=>rfl)) aD))) (cG _)))⟩))),?_⟩
 obtain ⟨p,xs,rfl,hp,lx,rx⟩:=gw hu;have two:=rg.two;have few:=rg.few;obtain ⟨x0,al⟩:=rg.rnd;obtain ⟨fst,lst,_⟩:=pQ al;refine ⟨_,rfl,_,rfl,v,.ref p,b,m,sp,ws,rfl,hv,hu,rg,fun H1 S1=>⟨_,rfl,kd rfl ?_⟩⟩;refine ⟨_,rfl,p,_,rfl,.inr (SqT.of (S1 _ _ hp)),_,_,rfl,rfl,_,rfl,kd (qO (by lia)) ?_⟩;refine ⟨_,rfl,p,rfl,⟨_,SqT.of (S1 _ _ hp)⟩,?_⟩;refine kf (K:=K) (a:=p) (xs:=xs) (fun i zs H2=>H2=H1∧zs=(om (ws.take i)).map V.int) ⟨rfl,rfl⟩ (fun i zs H2 hi ⟨e1,e2⟩=>?_) (by rw [lx];exact eQ (by lia)) (fun i x zs H2 hx ⟨e1,e2⟩=>?_) (fun zs H2 ⟨e1,e2⟩ D hD=>?_)
 ·subst e1
  refine ⟨SqT.of (S1 _ _ hp),?_⟩;rw [e2,aa];unfold om;rw [aa,bK];lia
 ·subst e1
  have hi:i<ws.length:=by rw [←lx];exact (ao.mp hx).1
  obtain ⟨q1,f1,g1⟩:=iF rx (gE hi);rw [hx] at f1;cases f1;refine gc ?_;refine ⟨_,rfl,q1,_,_,_,rfl,rfl,SqT.of (S1 _ _ g1),aO (j:=0) rfl,rfl,?_⟩;rw [e2,numsS_take hi,aE];rfl
 subst e1;have e3:zs=(om ws).map V.int:=by rw [e2,lx,bq]
 subst e3;refine ⟨D,om ws,rfl,SqL.of aQ,by unfold om;rw [aa];lia,fun p4 H4 S4 h4=>?_⟩;have SH4:=S1.trans ((bH.put (bH.refl H2) hD).trans S4);have hn:(om ws).Nodup:=by
  unfold om;have:ws.map (fun s=>(s.i:Int))=(ws.map Stp.i).map fun n:Nat=>(n:Int):=by rw [c9];rfl
  rw [this,bX,fE];exact (bX.mp rg.one).imp fun hh e=>hh (by lia)
 have h3:(metL (om ws)).length=xs.length:=by rw [met_nodup hn,lx];unfold om;rw [aa]
 refine ⟨p4,_,_,rfl,h4,_,rfl,p,_,rfl,.inr (SqT.of (SH4 _ _ hp)),rfl,_,rfl,kd (by rw [h3,qN rfl];rfl) ?_⟩;obtain ⟨i1,_⟩:=rg.inn ws[0] (ba (by lia));obtain ⟨i2,_⟩:=rg.inn ws[ws.length - 1] (ba (by lia));obtain ⟨q1,f1,g1⟩:=iF rx (gE (show 0<ws.length by lia));obtain ⟨q2,f2,g2⟩:=iF rx (gE (show ws.length - 1<ws.length by lia));refine ⟨_,rfl,_,rfl,p,_,_,_,rfl,rfl,SqT.of (SH4 _ _ hp),aO (j:=0) f1,v,q1,b,m,sp,ws[0],sp[ws[0].i],rfl,hv.same SH4,SH4 _ _ g1,gE i1,?_⟩;refine ⟨_,rfl,_,rfl,_,rfl,p,_,_,_,rfl,rfl,SqT.of (SH4 _ _ hp),atI_last (by rw [lx];exact f2),v,q2,b,m,sp,ws[ws.length - 1],sp[ws[ws.length - 1].i],rfl,hv.same SH4,SH4 _ _ g2,gE i2,rfl,?_⟩;have u1:eY sp ws[ws.length - 1]=too sp[ws[ws.length - 1].i] ws[ws.length - 1].d:=by unfold eY;rw [gE i2]
 have u2:kl sp ws[0]=frm sp[ws[0].i] ws[0].d:=by unfold kl;rw [gE i1]
 have e:frm sp[ws[0].i] ws[0].d=too sp[ws[ws.length - 1].i] ws[ws.length - 1].d:=by rw [←u1,←u2,fst (by lia),lst (by lia)]
 rw [e,qN rfl];exact k H4 SH4
theorem scHeaded:bY pzp pzp (defScope sHeaded):=by trivial
theorem ok_hdT (F:Fun K "is_headed" "is_headed" sHeaded f fd)(T:Nm mg)(TS:mg "str" =none):cM P w K mg base CX0 1 f fd pzp spHdT:=by
 refine F.ok scHeaded (by contradiction) (fun cdv A outer s H vs Q E hr h=>?_);obtain ⟨u,z,y,n,ds,rfl,hd,k⟩:=h;refine ⟨_,PSl.h (cP ⟨(cf (md (lU T (pv 0)) (md (iG jJ (cp bV rfl T.len bF (af (pv 0) aD)) (pv 2) (cG _)) (md (pe_isStrT T TS (ixZ (pv 0))) (qk (iG jJ (ixZ (pv 0)) (pv 1) (cG _)))))))⟩),?_⟩;refine ⟨_,rfl,_,_,rfl,hd.tyn,_,rfl,mO rfl ?_⟩;obtain ⟨p,xs,rfl,hp,rx⟩:=hd.tup_of;have lx:=rx.length;cases rx with
 | cons r0 rr =>
  rename_i x0 xr;cases r0;refine ⟨_,rfl,p,_,rfl,.inr (SqT.of hp),_,rfl,rfl,_,rfl,?_⟩;have e1:decide (V.int ((V.str y::xr).length:Int)=V.int n)=decide ((ds.length:Int)+1=n):=decide_eq_decide.mpr ⟨fun q=>by injection q with q;rw [lx,aN] at q;lia,fun q=>by rw [←q,lx,aN];rfl⟩;rw [e1]
  by_cases h1:(ds.length:Int)+1=n
  ·refine mO (qN h1) ?_
   refine ⟨_,rfl,p,_,_,_,rfl,rfl,SqT.of hp,aO (j:=0) rfl,.str y,"str",rfl,(IsD.str y).tyn,_,rfl,mO rfl ?_⟩;refine ⟨_,rfl,p,_,_,_,rfl,rfl,SqT.of hp,aO (j:=0) rfl,_,rfl,rfl,?_⟩;have e3:decide (V.str y=V.str z)=decide (y=z):=decide_eq_decide.mpr ⟨fun q=>by injection q,fun q=>by rw [q]⟩;rw [e3];rw [qN h1,Bool.true_and] at k;exact k
  ·refine kd (qO h1) ?_
   rw [qO h1,Bool.false_and] at k;exact k
theorem scCut:bY ["bounds","thing","bound"] pzH (defScope sCut):=by trivial
theorem ok_ctT (F:Fun K "is_cut" "is_cut" sCut f fd)(T:Nm mg)(TS:mg "str" =none)(G1:Fn K mg "is_headed" sHeaded pzp f1 fd1)(G2:Fn K mg "is_within" sWithin pzo f2 fd2)(G3:Fn K mg "is_whole" sWhole ["thing"] f3 fd3):cM P w K mg base CX0 3 f fd pzH spCtT:=by
 have F1:cM P w K mg base CX0 1 f1 fd1 pzp spHdT:=ok_hdT G1.F T TS;have F2:cM P w K mg base CX0 2 f2 fd2 pzo spWiT:=ok_wiT G2.F T G3;refine F.ok scCut (by contradiction) (fun cdv A outer s H vs Q E hr h=>?_);obtain ⟨vb,u,bs,t,rfl,hb,hd,ct,k⟩:=h;obtain ⟨pb,yb,rfl,hpb,hlb,rb⟩:=gw hb;have hr1:gN 1 _:=hr.mono (by decide);refine ⟨_,PSl.h (aY ⟨(fV (PW.pt (oX (jE (ia (pc1 G1 F1 hr1 (af (pv 1) (af jY (af bD aD)))))) (l9 (jE (ia (pc1 G2 F2 hr (af (ixZ (pv 1)) (af bD (af (cU i0 (cp bV rfl T.len bF (af (pv 0) aD)) bD) aD))))))))) (cy (cf l5)) cZ)⟩
  (aY ⟨(psZ 2 scCut.nd (eJ eD (pv 0) (ixZ (pv 1)) (fun _ _=>rfl)))⟩
  (cP ⟨(cf (pc1 G2 F2 hr (af (ixZ (pv 1)) (af (ixZ (pv 2)) (af (cU i0 (ixZ (pv 2)) bD) aD)))))⟩))),?_⟩
 cases t with
 | leaf d =>
  obtain ⟨ws,rfl⟩:=ct;exact ⟨_,rfl,u,"cut","ring",5,[oj ws],rfl,hd,_,rfl,mO rfl k⟩
 | cut n a x y =>
  obtain ⟨hn,h1,h2⟩:=ct;have hd':IsD H u (.tup [.str "cut",.int (n:Nat),.int a,jR x,jR y]):=hd;refine ⟨_,rfl,u,"cut","cut",5,_,rfl,hd',_,rfl,kd rfl ?_⟩;obtain ⟨p,xs,rfl,hp,rx⟩:=hd'.tup_of;cases rx with
  | cons r0 rr=>cases rr with
   | cons r1 rr=>cases rr with
    | cons r2 rr =>
     cases r1;cases r2;have e0:bs.getD n (0,0)=bs[n]:=by rw [ai,gE hn];rfl
     rw [e0] at h1 h2;obtain ⟨qn,hqn,hqn2⟩:=iF rb (gE hn);refine ⟨_,rfl,p,_,_,_,rfl,rfl,SqT.of hp,aO (j:=1) rfl,_,rfl,pb,_,rfl,.inr (SqT.of hpb),_,_,rfl,rfl,_,_,_,rfl,by lia,by lia,_,rfl,kd rfl ?_⟩;refine ⟨_,rfl,_,rfl,p,_,_,_,rfl,rfl,SqT.of hp,aO (j:=1) rfl,pb,_,_,_,rfl,rfl,SqT.of hpb,aO (j:=n) hqn,?_⟩;exact ⟨_,rfl,p,_,_,_,rfl,rfl,SqT.of hp,aO (j:=2) rfl,_,rfl,qn,_,_,_,rfl,rfl,SqT.of hqn2,aO (j:=0) rfl,_,rfl,qn,_,_,_,rfl,rfl,SqT.of hqn2,aO (j:=1) rfl,_,_,rfl,rfl,_,_,_,rfl,h1,by lia,k⟩
theorem scLeafT:bY ["net","thing","rows"] pzb (defScope sLeafT):=by trivial
theorem ok_lfT (F:Fun K "is_leaf" "is_leaf" sLeafT f fd)(T:Nm mg)(TS:mg "str" =none)(G1:Fn K mg "is_headed" sHeaded pzp f1 fd1)(G2:Fn K mg "is_ring" sRing pzb f2 fd2)(F2:cM P w K mg base CX0 5 f2 fd2 pzb spRgT):cM P w K mg base CX0 7 f fd pzb spLfT:=by
 have F1:cM P w K mg base CX0 1 f1 fd1 pzp spHdT:=ok_hdT G1.F T TS;refine F.ok scLeafT (by contradiction) (fun cdv A outer s H vs Q E hr h=>?_);obtain ⟨v,u,b,m,sp,ws,rfl,hv,hd,rg,k⟩:=h;have hr1:gN 1 _:=hr.mono (by decide);have hr5:gN 5 _:=hr.mono (by decide);refine ⟨_,PSl.h (aY ⟨(fV (ia (pc1 G1 F1 hr1 (af (pv 1) (af jY (af bD aD))))) (cy (cf (pc1 G2 F2 hr5 (af (pv 0) (af (ixZ (pv 1)) aD))))) cZ)⟩
  (aY ⟨ps_outT⟩ (aY ⟨ps_outT⟩ (aY ⟨ps_outT⟩ (cP ⟨ps_outT⟩))))),?_⟩
 have hd':IsD H u (.tup [.str "ring",oj ws]):=hd;refine ⟨_,rfl,u,"ring","ring",2,[oj ws],rfl,hd',_,rfl,mO rfl ?_⟩;obtain ⟨p,xs,rfl,hp,rx⟩:=hd'.tup_of;cases rx with
 | cons r0 rr=>cases rr with
  | cons r1 rr =>
   cases rr;exact ⟨_,rfl,_,rfl,p,_,_,_,rfl,rfl,SqT.of hp,aO (j:=1) rfl,v,_,b,m,sp,ws,rfl,hv,r1,rg,k⟩
abbrev sSides:cJ:=top 38
abbrev oU:cJ:=top 39
def PlAt (H Hc:Hp)(y:V)(p:List (Int×Int)×Tq):Prop:=∃ (q:aq) (vb vd:V),y= .ref q∧Hc q=some (.tup [vb,vd])∧IsD Hc vb (bndP p.1)∧IsD H vd (jR p.2)
theorem PlAt.keep {Hd:Hp}{y:V}{p:List (Int×Int)×Tq}(h:PlAt H Hc y p)(e:jL Hc Hd):PlAt H Hd y p:=by
 obtain ⟨q,vb,vd,a,b,c,d⟩:=h;obtain ⟨pb,yb,rfl,hpb,_,rb⟩:=gw c;exact ⟨q,_,vd,a,e _ _ b,.tup (e _ _ hpb) (df e rb),d⟩
inductive kY (H Hc:Hp):List V→List (List (Int×Int)×Tq)→Prop where
 | nil:kY H Hc [] []
 | cons {y:V} {p:List (Int×Int)×Tq} {ys:List V} {ps:List (List (Int×Int)×Tq)} (h:PlAt H Hc y p) (r:kY H Hc ys ps):kY H Hc (y::ys) (p::ps)
theorem kY.keep {H Hc Hd:Hp}(e:jL Hc Hd):∀ {ys:List V} {ps:List (List (Int×Int)×Tq)},kY H Hc ys ps→kY H Hd ys ps
 | _,_,.nil=> .nil
 | _,_,.cons h r=> .cons (h.keep e) (kY.keep e r)
theorem kY.length:∀ {ys:List V} {ps:List (List (Int×Int)×Tq)},kY H Hc ys ps→ys.length=ps.length
 | _,_,.nil=>rfl
 | _,_,.cons _ r=>by rw [aN,aN,r.length]
theorem kY.data {H Hc:Hp}(e:bH H Hc):∀ {ys:List V} {ds:List (List (Int×Int)×Dt)},kY H Hc ys (ds.map fun p=>(p.1,Tq.leaf p.2))→dG Hc ys (ds.map plcD)
 | _,[],h=>by cases h;exact .nil
 | _,d::ds,h=>by
  rw [bR] at h ⊢;cases h with
  | cons h r =>
   obtain ⟨q,vb,vd,rfl,h2,h3,h4⟩:=h;exact .cons (.tup h2 (.cons h3 (.cons (h4.same e) .nil))) (kY.data e r)
theorem kY.append {H Hc:Hp}:∀ {ys zs:List V} {ps qs:List (List (Int×Int)×Tq)},kY H Hc ys ps→kY H Hc zs qs→kY H Hc (ys++zs) (ps++qs)
 | _,_,_,_,.nil,s=>s
 | _,_,_,_,.cons h r,s=> .cons h (kY.append r s)
def lvsAll (ps:List (List (Int×Int)×Tq)):List (List (Int×Int)×Dt):=(ps.map fun p=>lvs p.2 p.1).flatten
def k5 (ps:List (List (Int×Int)×Tq)):Nat:=(ps.map fun p=>siz p.2).sum
def RgL (sp:List Sn):Tq→List (Int×Int)→Prop
 | .leaf d,_=>∃ ws,d=leafP (.ring ws)∧Rg sp ws
 | .cut k a x y,bs=>k<bs.length∧(bs.getD k (0,0)).1≤a∧a<(bs.getD k (0,0)).2∧RgL sp x (km bs k a)∧RgL sp y (dX bs k a)
structure LvJ (H Hc:Hp)(Ls Ah:aq)(sp:List Sn)(st:List (List (Int×Int)×Tq))(fo:List (List (Int×Int)×Dt)):Prop where
 same:bH H Hc
 ls:∃ ys,Hc Ls=some (.lst ys)∧kY H Hc ys (fo.map fun p=>(p.1,Tq.leaf p.2))
 ah:∃ zs,Hc Ah=some (.lst zs.reverse)∧kY H Hc zs st
 ok:∀ p∈st,RgL sp p.2 p.1∧p.1.length=sp.length
theorem mw:bY ["bounds","cut","span","at","low","high","one","other"] pzI (defScope sSides):=by trivial
theorem ok_sides (F:Fun K "sides_of" "sides_of" sSides f fd)(G1:Fn K mg "with_bound" sWithB pzm f1 fd1):cM P w K mg base CX0 2 f fd pzI spSides:=by
 have F1:cM P w K mg base CX0 1 f1 fd1 pzm spWithB:=ok_withB G1.F;refine F.ok mw (by contradiction) (fun cdv A outer s H vs Q E hr h=>?_);obtain ⟨vb,p,bs,n,a,x3,x4,rfl,hb,hp,hn,few,k⟩:=h;obtain ⟨pb,yb,rfl,hpb,hlb,rb⟩:=gw hb;obtain ⟨qn,hqn,hqn2⟩:=iF rb (gE hn);have e0:bs.getD n (0,0)=bs[n]:=by rw [ai,gE hn];rfl
 have e1:km bs n a=bs.set n (bs[n].1,a):=by unfold km;rw [e0]
 have e2:dX bs n a=bs.set n (a+1,bs[n].2):=by unfold dX;rw [e0]
 refine ⟨_,PSl.h (aY ⟨(psZ 2 mw.nd (ixZ (pv 1)))⟩
  (aY ⟨(psZ 3 mw.nd (ixZ (pv 1)))⟩
  (aY ⟨(psZ 4 mw.nd (ixZ (eJ eD (pv 0) (pv 2) (fun _ _=>rfl))))⟩
  (aY ⟨(psZ 5 mw.nd (ixZ (eJ eD (pv 0) (pv 2) (fun _ _=>rfl))))⟩
  (aY ⟨(psZ 6 mw.nd (cY (af (pc1 G1 F1 hr (af (pv 0) (af (pv 2) (af (pv 4) (af (pv 3) aD))))) (af (ixZ (pv 1)) aD))))⟩
  (aY ⟨(psZ 7 mw.nd (cY (af (pc1 G1 F1 hr (af (pv 0) (af (pv 2) (af (cU gX (pv 3) bD) (af (pv 5) aD))))) (af (ixZ (pv 1)) aD))))⟩
  (cP ⟨(cf (cY (af (pv 6) (af (pv 7) aD))))⟩))))))),?_⟩
 refine ⟨_,rfl,p,_,_,_,rfl,rfl,SqT.of hp,aO (j:=1) rfl,?_⟩;refine ⟨_,rfl,p,_,_,_,rfl,rfl,SqT.of hp,aO (j:=2) rfl,?_⟩;refine ⟨_,rfl,_,rfl,pb,_,_,_,rfl,rfl,SqT.of hpb,aO (j:=n) hqn,qn,_,_,_,rfl,rfl,SqT.of hqn2,aO (j:=0) rfl,?_⟩;refine ⟨_,rfl,_,rfl,pb,_,_,_,rfl,rfl,SqT.of hpb,aO (j:=n) hqn,qn,_,_,_,rfl,rfl,SqT.of hqn2,aO (j:=1) rfl,?_⟩;refine ⟨_,rfl,_,rfl,_,rfl,_,rfl,.ref pb,n,bs[n].1,a,bs,rfl,hb,hn,few,fun u1 H1 S1 hu1=>?_⟩;refine ⟨_,rfl,p,_,_,_,rfl,rfl,SqT.of (S1 _ _ hp),aO (j:=3) rfl,oI,fun q2 H2 S2 h2=>?_⟩;have S02:=S1.trans S2;refine ⟨_,rfl,_,rfl,_,rfl,_,_,rfl,rfl,_,rfl,.ref pb,n,a+1,bs[n].2,bs,rfl,hb.same S02,hn,few,fun u3 H3 S3 hu3=>?_⟩;refine ⟨_,rfl,p,_,_,_,rfl,rfl,SqT.of (S3 _ _ (S02 _ _ hp)),aO (j:=4) rfl,oI,fun q4 H4 S4 h4=>?_⟩;refine ⟨_,rfl,_,rfl,oI,fun q5 H5 S5 h5=>?_⟩;have S15:bH H2 H5:=S3.trans (S4.trans S5);refine k q5 q2 q4 u1 u3 H5 (S02.trans S15) h5 (S15 _ _ h2) ?_ (S5 _ _ h4) ?_
 ·rw [e1];exact (hu1.same S2).same S15
 ·rw [e2];exact (hu3.same S4).same S5
inductive oP (vs:List V)(H:Hp)(Q:VK)(_:XK):Prop
 | mk (v u:V)(b m:Int)(sp:List Sn)(t:Tq)(_:vs=[v,u])(_:IsD H v (jA b m sp))(_:IsD H u (jR t))(_:sp.length≤40)(_:RgL sp t (sp.map fun x=>(x.l,x.o)))(_:siz t≤9000)(_:∀ L ys H',bH H H'→H' L=some (.lst ys)→dG H' ys ((lvs t (sp.map fun x=>(x.l,x.o))).map plcD)→Q (.ref L) H')
theorem LvJ.grow {Hd:Hp}{Ah:aq}{st:List (List (Int×Int)×Tq)}(j:LvJ H Hc Ls Ah sp st fo)(e:bH Hc Hd):LvJ H Hd Ls Ah sp st fo:=by
 obtain ⟨ys,h1,h2⟩:=j.ls;obtain ⟨zs,h3,h4⟩:=j.ah;exact ⟨j.same.trans e,⟨ys,e _ _ h1,h2.keep (bH.tupK e)⟩,⟨zs,e _ _ h3,h4.keep (bH.tupK e)⟩,j.ok⟩
theorem same_up (e:bH H Hc)(h:H a=none):bH H (upd Hc a o):=fun b u q=>by
 rw [br (fun z=>by rw [z,h] at q;cases q)];exact e b u q
theorem siz_pos (t:Tq):1≤siz t:=by
 cases t with
 | leaf d=>exact aA _
 | cut k a x y=>show 1≤siz x+siz y+1;lia
theorem sizAll_le:∀ (st:List (List (Int×Int)×Tq)),st.length≤k5 st
 | []=>aA _
 | p::st=>by
  show st.length+1≤siz p.2+k5 st;have:=siz_pos p.2;have:=sizAll_le st;lia
theorem rowsPk {f:α→List Int}{xs:List α}(e:jL H H')(h:IsD H v (rowsP f xs)):IsD H' v (rowsP f xs):=by
 obtain ⟨p,ys,rfl,hp,_,r⟩:=gw h;exact .tup (e _ _ hp) (df e r)
theorem ku:bY ["net","thing","leaves","ahead","place","sides"] pzb (defScope oU):=by trivial
theorem ok_leavesIn (F:Fun K "leaves_in" "leaves_in" oU f fd)(T:Nm mg)(CL:∃ t,mg "MOST_LEAVES_WALKED" =some (.int 20000 t))
  (G1:Fn K mg "first_bounds" sFirst pza f1 fd1) (F1:cM P w K mg base CX0 1 f1 fd1 pza spFirst)
  (G2:Fn K mg "is_cut" sCut pzH f2 fd2) (F2:cM P w K mg base CX0 3 f2 fd2 pzH spCtT)
  (G3:Fn K mg "sides_of" sSides pzI f3 fd3) (F3:cM P w K mg base CX0 2 f3 fd3 pzI spSides)
  (G4:Fn K mg "is_leaf" sLeafT pzb f4 fd4) (F4:cM P w K mg base CX0 7 f4 fd4 pzb spLfT):cM P w K mg base CX0 8 f fd pzb oP:=by
 refine F.ok ku (by contradiction) (fun cdv A outer s H vs Q E hr h=>?_);obtain ⟨v,u,b,m,sp,t,rfl,hv,hu,few,ok,hsz,k⟩:=h;have hr1:gN 1 _:=hr.mono (by decide);have hr2:gN 2 _:=hr.mono (by decide);have hr3:gN 3 _:=hr.mono (by decide);refine ⟨_,PSl.h (aY ⟨(psZ 2 ku.nd (iQ aD))⟩
  (aY ⟨(psZ 3 ku.nd (iQ (af (cY (af (pc1 G1 F1 hr1 (af (pv 0) aD)) (af (pv 1) aD))) aD)))⟩
  (aY ⟨(lR bE (cw pU (cp bV rfl T.len bF (af (pv 3) aD)) bD (cG _)) (PSl.h (aY ⟨(psZ 4 ku.nd (o9 bc e7 eZ pj (pv 3)))⟩
  (cP ⟨(fV (ia (pc1 G2 F2 hr3 (af (ixZ (pv 4)) (af (ixZ (pv 4)) aD)))) (PSl.h (aY ⟨(psZ 5 ku.nd (pc1 G3 F3 hr2 (af (ixZ (pv 4)) (af (ixZ (pv 4)) aD))))⟩
  (aY ⟨(gL (lh bc bP bO fH (pv 3) (af (ixZ (pv 5)) aD)))⟩
  (cP ⟨(gL (lh bc bP bO fH (pv 3) (af (ixZ (pv 5)) aD)))⟩)))) (cy (fV (PW.pt (pw_and (ia (pc1 G4 F4 hr (af (pv 0) (af (ixZ (pv 4)) aD)))) (pw_and1 (cw op_lt (cp bV rfl T.len bF (af (pv 2) aD)) (pe_gint CL) (cG _))))) (cy (gL (lh bc bP bO fH (pv 2) (af (pv 4) aD)))) (cy (cf oh)))))⟩))))⟩
  (cP ⟨(cf (pv 2))⟩)))),?_⟩
 refine ⟨bg _,fun Ls hLs=>?_⟩;have S1:bH H (upd H Ls (.lst [])):=bH.put (bH.refl H) hLs;have h1:(upd H Ls (.lst [])) Ls=some (.lst []):=aQ;generalize upd H Ls (.lst [])=H1 at S1 h1 ⊢;refine ⟨_,rfl,v,b,m,sp,rfl,hv.same S1,by lia,fun ub H2 S2 hub=>⟨_,rfl,oI,fun q3 H3 S3 h3=>⟨szZ1,fun Ah hAh=>?_⟩⟩⟩;have S13:=S1.trans (S2.trans S3);have nLA:Ls≠Ah:=fun z=>by rw [←z,S3 _ _ (S2 _ _ h1)] at hAh;cases hAh
 have hAhH:H Ah=none:=by
  cases z:H Ah with
  | none=>rfl
  | some o=>rw [S13 _ _ z] at hAh;cases hAh
 have S4:bH H3 (upd H3 Ah (.lst [.ref q3])):=bH.put (bH.refl H3) hAh;have h4:(upd H3 Ah (.lst [.ref q3])) Ah=some (.lst [.ref q3]):=aQ;generalize upd H3 Ah (.lst [.ref q3])=H4 at S4 h4 ⊢;obtain ⟨bs0,hbs0⟩:∃ bs0,bs0=sp.map fun x=>(x.l,x.o):=⟨_,rfl⟩
 rw [←hbs0] at ok k hub;have lb0:bs0.length=sp.length:=by rw [hbs0,aa]
 have J4:LvJ H H4 Ls Ah sp [(bs0,t)] []:=⟨S13.trans S4,⟨[],S4 _ _ (S3 _ _ (S2 _ _ h1)),.nil⟩,⟨[.ref q3],h4,.cons ⟨q3,ub,u,rfl,S4 _ _ h3,(hub.same S3).same S4,hu⟩ .nil⟩,fun p hp=>by rw [av.mp hp];exact ⟨ok,lb0⟩⟩;refine ⟨fun n σ Hc=>∃ (st:List (List (Int×Int)×Tq)) (fo:List (List (Int×Int)×Dt)) (v4 v5:Option V),n=k5 st∧σ=[some v,some u,some (.ref Ls),some (.ref Ah),v4,v5]∧LvJ H Hc Ls Ah sp st fo∧fo++lvsAll st=lvs t bs0∧fo.length+k5 st≤9000,⟨_,_,_,none,none,rfl,rfl,J4,by show []++(lvs t bs0++[])=_;simp,by show 0+(siz t+0)≤9000;lia⟩,?_⟩;clear J4 h4 S4 h3 hub S13 S3 S2 h1 S1 hAh;rintro n σ Hc ⟨st,fo,v4,v5,rfl,rfl,J,hl,hmx⟩;obtain ⟨zs,hz,pz⟩:=J.ah;refine ⟨_,rfl,Ah,_,rfl,.inl (SqL.of hz),_,_,rfl,rfl,_,rfl,?_⟩;cases pz with
 | nil =>
  refine kd (by rfl) ?_;obtain ⟨ys,hy,py⟩:=J.ls;have e:fo=lvs t bs0:=by rw [←hl];show fo=fo++[];simp
  exact ⟨_,rfl,k Ls ys Hc J.same hy (by rw [←e];exact py.data J.same)⟩
 | cons h r =>
  rename_i y p zs st;refine mO (qN (by rw [dU,aN];show ((zs.length+1:Nat):Int) > 0;lia)) ?_;refine ⟨_,fun σ' H' z=>z,?_⟩;rw [eR] at hz;refine ⟨_,rfl,.inl ⟨rfl,_,SqL.of hz⟩,Ah,_,y,rfl,rfl,hz,by rw [ar,bu (by simp)];simp,?_⟩;rw [fu];obtain ⟨q,vb,vd,rfl,hq,hvb,hvd⟩:=h;have K5:jL Hc (upd Hc Ah (.lst zs.reverse)):=eI hz;have q5:=K5 _ _ hq;have vb5:IsD (upd Hc Ah (.lst zs.reverse)) vb (bndP p.1):=by
   obtain ⟨pb,yb,rfl,hpb,_,rb⟩:=gw hvb;exact .tup (K5 _ _ hpb) (df K5 rb)
  have J5:LvJ H (upd Hc Ah (.lst zs.reverse)) Ls Ah sp st fo:=by
   obtain ⟨ys,hy,py⟩:=J.ls;exact ⟨same_up J.same hAhH,⟨ys,by rw [br nLA];exact hy,py.keep K5⟩,⟨zs,aQ,r.keep K5⟩,fun p hp=>J.ok p (az _ hp)⟩
  obtain ⟨okp,lenp⟩:=J.ok p (by simp);generalize upd Hc Ah (.lst zs.reverse)=H5 at K5 q5 vb5 J5 ⊢;have vd5:=hvd.same J5.same;obtain ⟨bs,tq⟩:=p;have lenp:bs.length=sp.length:=lenp;refine ⟨_,rfl,q,_,_,_,rfl,rfl,SqT.of q5,aO (j:=0) rfl,_,rfl,q,_,_,_,rfl,rfl,SqT.of q5,aO (j:=1) rfl,vb,vd,bs,tq,rfl,vb5,vd5,(by cases tq with | leaf d=>exact ⟨okp.choose,okp.choose_spec.1⟩ | cut kk a x y=>exact ⟨okp.1,okp.2.1,okp.2.2.1⟩),_,rfl,?_⟩;cases tq with
  | cut kk a x y =>
   refine mO rfl ?_;obtain ⟨o1,o2,o3,o4,o5⟩:=okp;obtain ⟨c,cs,rfl,hc,rc⟩:=hvd.tup_of;cases rc with
   | cons g0 gr=>cases gr with
    | cons g1 gr=>cases gr with
     | cons g2 gr=>cases gr with
      | cons g3 gr=>cases gr with
       | cons g4 gr =>
        cases gr;cases g0;cases g1;cases g2;rename_i x3 x4;refine ⟨_,rfl,q,_,_,_,rfl,rfl,SqT.of q5,aO (j:=0) rfl,_,rfl,q,_,_,_,rfl,rfl,SqT.of q5,aO (j:=1) rfl,vb,c,bs,kk,a,x3,x4,rfl,vb5,J5.same _ _ hc,o1,by lia,fun p6 q6 r6 u1 u3 H6 S6 h6 hq6 hu1 hr6 hu3=>?_⟩;have J6:=J5.grow S6;obtain ⟨zs6,hz6,pz6⟩:=J6.ah;have lz:=pz6.length;have mx:st.length≤k5 st:=sizAll_le st;have hmx:fo.length+((siz x+siz y+1)+k5 st)≤9000:=hmx;refine ⟨_,rfl,.inl ⟨rfl,_,SqL.of hz6⟩,_,rfl,p6,_,_,_,rfl,rfl,SqT.of h6,aO (j:=1) rfl,Ah,_,_,rfl,rfl,hz6,(aU (by rw [dU,lz];lia:zs6.reverse.length<9500) (by decide:9500≤aZ)),?_⟩;have K7:jL H6 (upd H6 Ah (.lst (zs6.reverse++[.ref r6]))):=eI hz6;have hz7:(upd H6 Ah (.lst (zs6.reverse++[.ref r6]))) Ah=some (.lst (zs6.reverse++[.ref r6])):=aQ;have E7:∀ b o,b≠Ah→H6 b=some o→(upd H6 Ah (.lst (zs6.reverse++[.ref r6]))) b=some o:=fun b o hb e=>by rw [br hb];exact e
        have S7:bH H (upd H6 Ah (.lst (zs6.reverse++[.ref r6]))):=same_up J6.same hAhH;generalize upd H6 Ah (.lst (zs6.reverse++[.ref r6]))=H7 at K7 hz7 E7 S7 ⊢;refine ⟨_,rfl,.inl ⟨rfl,_,SqL.of hz7⟩,_,rfl,p6,_,_,_,rfl,rfl,SqT.of (K7 _ _ h6),aO (j:=0) rfl,Ah,_,_,rfl,rfl,hz7,(aU (by rw [ar,dU,lz];show st.length+1<9500;lia:(zs6.reverse++[V.ref r6]).length<9500) (by decide:9500≤aZ)),?_⟩;have K8:jL H7 (upd H7 Ah (.lst (zs6.reverse++[.ref r6]++[.ref q6]))):=eI hz7;have K68:=K7.trans K8;obtain ⟨ys6,hy6,py6⟩:=J6.ls;refine ⟨siz x+(siz y+k5 st),by show _<siz x+siz y+1+k5 st;lia,(km bs kk a,x)::(dX bs kk a,y)::st,fo,_,_,rfl,rfl,⟨same_up S7 hAhH,⟨ys6,by rw [br nLA];exact E7 _ _ nLA hy6,py6.keep K68⟩,⟨.ref q6:: .ref r6::zs6,by rw [aQ,eR,eR],.cons ⟨q6,u1,x3,rfl,K68 _ _ hq6,rowsPk K68 hu1,g3⟩ (.cons ⟨r6,u3,x4,rfl,K68 _ _ hr6,rowsPk K68 hu3,g4⟩ (pz6.keep K68))⟩,fun p hp=>?_⟩,?_,by show fo.length+(siz x+(siz y+k5 st))≤9000;lia⟩
        ·rcases aI.mp hp with rfl | hp
         ·exact ⟨o4,by rw [one_len];exact lenp⟩
         ·rcases aI.mp hp with rfl | hp
          ·exact ⟨o5,by rw [mZ];exact lenp⟩
          ·exact J6.ok p hp
        ·rw [←hl]
         show fo++(lvs x _++(lvs y _++lvsAll st))=fo++((lvs x _++lvs y _)++lvsAll st);rw [jo (lvs x _)]
  | leaf d =>
   refine kd rfl ?_;obtain ⟨ws,ed,rg⟩:=okp;refine ⟨_,rfl,_,rfl,q,_,_,_,rfl,rfl,SqT.of q5,aO (j:=1) rfl,v,vd,b,m,sp,ws,rfl,hv.same J5.same,(by rw [←ed];exact vd5),rg,fun H6 S6=>⟨_,rfl,mO rfl ?_⟩⟩;have J6:=J5.grow S6;obtain ⟨ys6,hy6,py6⟩:=J6.ls;have ly:=py6.length;rw [aa] at ly;refine ⟨_,rfl,Ls,_,rfl,.inl (SqL.of hy6),_,_,rfl,rfl,_,rfl,mO (qN (by show (ys6.length:Int)<20000;lia)) ?_⟩;refine ⟨_,rfl,.inl ⟨rfl,_,SqL.of hy6⟩,_,rfl,Ls,_,_,rfl,rfl,hy6,(aU (by lia:ys6.length<9500) (by decide:9500≤aZ)),?_⟩;have K7:jL H6 (upd H6 Ls (.lst (ys6++[.ref q]))):=eI hy6;obtain ⟨zs6,hz6,pz6⟩:=J6.ah;have hmx:fo.length+(1+k5 st)≤9000:=hmx;refine ⟨k5 st,by show _<1+k5 st;lia,st,fo++[(bs,d)],_,_,rfl,rfl,⟨same_up J6.same hLs,⟨_,aQ,?_⟩,⟨zs6,by rw [br nLA.symm];exact hz6,pz6.keep K7⟩,J6.ok⟩,?_,by rw [ar];show fo.length+1+_≤9000;lia⟩
   ·rw [aE]
    refine (py6.keep K7).append (.cons ⟨q,vb,vd,rfl,K7 _ _ (S6 _ _ q5),?_,hvd⟩ .nil);obtain ⟨pb,yb,rfl,hpb,_,rb⟩:=gw (vb5.same S6);exact .tup (K7 _ _ hpb) (df K7 rb)
   ·rw [←hl,jo];rfl
abbrev sIsRight:cJ:=top 40
abbrev sShown:cJ:=top 43
theorem pG {b:Int}{sp:List Sn}:∀ (t:Tq) (bs:List (Int×Int)) (n:Nat),GoodT (RDead b sp) t bs n→bs.length=sp.length→RgL sp t bs∧∀ p∈lvs t bs,p.1.length=sp.length∧RDead b sp p.1 p.2
 | .leaf d,bs,n,h,hl=>by
  have h:RDead b sp bs d:=by cases n <;> exact h
  exact ⟨⟨h.choose,h.choose_spec.1,h.choose_spec.2.1⟩,fun p hp=>by rw [av.mp hp];exact ⟨hl,h⟩⟩
 | .cut k a x y,bs,0,h,_=>h.elim
 | .cut k a x y,bs,n+1,h,hl=>by
  obtain ⟨h1,h2,h3,h4,h5⟩:=h;obtain ⟨a1,a2⟩:=pG x _ n h4 (by rw [one_len];exact hl);obtain ⟨c1,c2⟩:=pG y _ n h5 (by rw [mZ];exact hl);refine ⟨⟨h1,h2,h3,a1,c1⟩,fun p hp=>?_⟩
  rcases aH.mp (show p∈lvs x _++lvs y _ from hp) with z | z
  ·exact a2 p z
  ·exact c2 p z
inductive p8 (vs:List V)(H:Hp)(Q:VK)(_:XK):Prop
 | mk (vn vb vl:V)(b m:Int)(sp:List Sn)(bs:List (Int×Int))(ws:List Stp)(_:vs=[vn,vb,vl])(_:IsD H vn (jA b m sp))(_:0<b)(_:b<10 ^ 61)(_:IsD H vb (bndP bs))(_:IsD H vl (leafP (.ring ws)))(_:pW bs.length ws)(_:∀ H',bH H H'→Q (.bl (jb b bs ws)) H')
inductive spShownD (vs:List V)(H:Hp)(Q:VK)(_:XK):Prop
 | mk (v u:V)(b m:Int)(sp:List Sn)(t:Tq)(_:vs=[v,u])(_:IsD H v (jA b m sp))(_:jD b m sp)(_:IsD H u (jR t))(_:GoodT (RDead b sp) t (sp.map fun z=>(z.l,z.o)) 21)(_:siz t≤8191)(_:∀ r H',bH H H'→IsD H' r (.tup [.str "none"])→Q r H')
theorem pe_outL:PE X e (fun _ _ _=>False):=fun _ _ _ _ _ _ h=>h.elim
theorem scIsRight:bY pzx pzx (defScope sIsRight):=by trivial
theorem ok_isRightD (F:Fun K "is_right" "is_right" sIsRight f fd)(G1:Fn K mg "is_dead" sDead pze f1 fd1)(F1:cM P w K mg base CX0 3 f1 fd1 pze spDead):cM P w K mg base CX0 4 f fd pzx p8:=by
 refine F.ok scIsRight (by contradiction) (fun cdv A outer s H vs Q E hr h=>?_);obtain ⟨vn,vb,vl,b,m,sp,bs,ws,rfl,hv,hb0,hb1,hb,hl,hin,k⟩:=h;refine ⟨_,PSl.h (aY ⟨(fV (cw jJ (ixZ (pv 2)) jY (cG _)) (cy (cf (pc1 G1 F1 hr (af (pv 0) (af (pv 1) (af (ixZ (pv 2)) aD)))))) cZ)⟩
  (cP ⟨ps_outL⟩)),?_⟩
 obtain ⟨p,xs,rfl,hp,rx⟩:=IsD.tup_of (show IsD H vl (.tup [.str "ring",oj ws]) from hl);cases rx with
 | cons h1 r1 =>
  cases r1 with
  | cons h2 r2 =>
   cases r2;cases h1;refine ⟨_,rfl,p,_,_,_,rfl,rfl,SqT.of hp,aO (j:=0) rfl,rfl,_,rfl,mO (by decide) ?_⟩;exact ⟨_,rfl,_,rfl,_,rfl,p,_,_,_,rfl,rfl,SqT.of hp,aO (j:=1) rfl,vn,vb,_,b,m,sp,bs,ws,rfl,hv,hb0,hb1,hb,h2,hin,fun H' S'=>k H' S'⟩
theorem scShown:bY ["net","thing","leaves","worths"] pzb (defScope sShown):=by trivial
theorem ok_shownD (F:Fun K "shown_by" "shown_by" sShown f fd)(T:Nm mg)
  (G1:Fn K mg "leaves_in" oU pzb f1 fd1) (F1:cM P w K mg base CX0 8 f1 fd1 pzb oP)
  (G2:Fn K mg "is_right" sIsRight pzx f2 fd2) (F2:cM P w K mg base CX0 4 f2 fd2 pzx p8):cM P w K mg base CX0 9 f fd pzb spShownD:=by
 refine F.ok scShown (by contradiction) (fun cdv A outer s H vs Q E hr h=>?_);obtain ⟨v,u,b,m,sp,t,rfl,hv,N,hu,good,hsz,k⟩:=h;have hr8:gN 8 _:=hr;have hr4:gN 4 _:=hr.mono (by decide);have b0:0<b:=by have:=N.b1;lia
 have b61:b<10 ^ 61:=by have:=N.b2;lia
 have few:=N.few;obtain ⟨hcut,lok⟩:=pG t _ 21 good (by rw [aa]);refine ⟨_,PSl.h (aY ⟨(psZ 2 scShown.nd (pc1 G1 F1 hr8 (af (pv 0) (af (pv 1) aD))))⟩
  (aY ⟨(fV (PW.pt (oX (cw op_isN (pv 2) oh (cG _)) (l9 (jE (ia (cp (call_all rfl) rfl T.all boot_all (af (pe_compT (xs:=["bounds","leaf"]) (fr:=pza) (js:=[0]) rfl (gg (pv 2)) (by trivial) rfl (by trivial) (by exists sShown) rfl (by trivial) (fun _ _ _ _ _=>pg_two rfl (by trivial) rfl rfl) (fun _ _ _ _ _=>⟨(pc1 G2 F2 hr4 (af (pv 2) (af (pv 0) (af (pv 1) aD)))),gT⟩)) aD))))))) (cy (cf oh)) cZ)⟩
  (aY ⟨(ps_setCT (iy:=3) (xs:=["bounds","leaf"]) (fr:=pza) (js:=[0]) scShown.nd rfl (.inl rfl) rfl (gg (pv 2)) (by trivial) rfl (by trivial) (by exists sShown) rfl (by trivial) (fun _ _ _ _ _=>pg_two rfl (by trivial) rfl rfl) (fun _ _ _ _ _=>⟨pe_outL,(kQ (cw jJ (eJ (r:=rIxT K) eD (pv 1) bD (fun _ _=>rfl)) jY (cG _)))⟩))⟩
  (aY ⟨(fV (cw jJ (cp bV rfl T.len bF (af (pv 3) aD)) bD (cG _)) (cy (cf (cY (af jY aD)))) cZ)⟩
  (cP ⟨ps_outL⟩))))),?_⟩
 refine ⟨_,rfl,_,rfl,v,u,b,m,sp,t,rfl,hv,hu,few,hcut,by lia,fun L ys H1 S1 hL hys=>?_⟩;generalize eps:lvs t (sp.map fun x=>(x.l,x.o))=ps at hys lok;have ly:ys.length=ps.length:=by rw [hys.length,aa]
 have lps:ps.length≤9000:=by
  have:=lvs_siz t (sp.map fun x=>(x.l,x.o));rw [eps] at this;lia
 have sml:ys.length≤aZ:=aM (by lia:_≤9000) (by decide);have plc:∀ {i:Nat} {y:V},ys[i]? =some y→∃ (q:aq) (vb vl:V) (bs:List (Int×Int)) (ws:List Stp),y= .ref q∧H1 q=some (.tup [vb,vl])∧IsD H1 vb (bndP bs)∧IsD H1 vl (leafP (.ring ws))∧bs.length=sp.length∧Rg sp ws∧jb b bs ws=true:=fun {i y} hy=>by
  have hi:i<ps.length:=by rw [←ly];exact (ao.mp hy).1
  obtain ⟨d,hd,dy⟩:=hys.get hy;rw [ay,gE hi] at hd;cases hd;obtain ⟨l1,ws,e,rg,dd⟩:=lok _ (ba hi);obtain ⟨q,xs,rfl,hq,r⟩:=IsD.tup_of (show IsD H1 y (.tup [bndP ps[i].1,ps[i].2]) from dy);cases r with
  | cons g0 gr=>cases gr with
   | cons g1 gr =>
    cases gr;rw [e] at g1;exact ⟨q,_,_,ps[i].1,ws,rfl,hq,g0,g1,l1,rg,dd⟩
 refine ⟨_,rfl,rfl,_,rfl,kd (qO fun z=>by cases z) ?_⟩;refine ⟨_,rfl,L,rfl,⟨_,SqL.of hL⟩,?_⟩;refine compT_lst (K:=K) (a:=L) (xs:=ys) (fun i zs H2=>bH H1 H2∧zs=(bt i true).map V.bl) ⟨bH.refl H1,rfl⟩ (fun i zs H2 hi z=>?_) sml (fun i y zs H2 hy z=>?_) (fun zs H2 z D hD=>?_)
 ·obtain ⟨e1,e2⟩:=z
  refine ⟨SqL.of (e1 _ _ hL),?_⟩;rw [e2,aa,dt];exact aA _
 ·obtain ⟨e1,e2⟩:=z
  obtain ⟨q,vb,vl,bs,ws,rfl,hq,hb,hl,l1,rg,dd⟩:=plc hy;refine ⟨q,vb,vl,rfl,e1 _ _ hq,gc ?_⟩;refine ⟨_,rfl,_,rfl,_,rfl,v,vb,vl,b,m,sp,bs,ws,rfl,(hv.same S1).same e1,b0,b61,hb.same e1,hl.same e1,by rw [l1];exact rg.inn,fun H3 S3=>⟨e1.trans S3,?_⟩⟩;rw [e2,dd,List.replicate_succ',aE];rfl
 obtain ⟨e1,e2⟩:=z;subst e2;have S2:bH H1 (upd H2 D (.lst ((bt ys.length true).map V.bl))):=bH.put e1 hD;have hD2:(upd H2 D (.lst ((bt ys.length true).map V.bl))) D=some (.lst ((bt ys.length true).map V.bl)):=aQ;generalize upd H2 D (.lst ((bt ys.length true).map V.bl))=H3 at S2 hD2 ⊢;refine ⟨D,bt ys.length true,rfl,SqL.of hD2,_,rfl,kd ?_ ?_⟩
 ·rw [gF.mpr fun x hx=>(by rw [(kq.mp hx).2];rfl)];rfl
 refine ⟨_,rfl,L,rfl,⟨_,SqL.of (S2 _ _ hL)⟩,?_⟩;refine compT_lst (K:=K) (a:=L) (xs:=ys) (fun i zs H4=>H4=H3∧zs=[]) ⟨rfl,rfl⟩ (fun i zs H4 hi z=>?_) sml (fun i y zs H4 hy z=>?_) (fun zs H4 z D2 hF2=>?_)
 ·obtain ⟨e1,e2⟩:=z
  subst e1 e2;exact ⟨SqL.of (S2 _ _ hL),bg _⟩
 ·obtain ⟨e1,e2⟩:=z
  subst e1;obtain ⟨q,vb,vl,bs,ws,rfl,hq,hb,hl,l1,rg,dd⟩:=plc hy;obtain ⟨ql,xs,rfl,hql,rx⟩:=IsD.tup_of (show IsD H1 vl (.tup [.str "ring",oj ws]) from hl);cases rx with
  | cons g0 gr =>
   cases gr with
   | cons g1 gr =>
    cases gr;cases g0;refine ⟨q,vb,.ref ql,rfl,S2 _ _ hq,?_⟩;refine ⟨_,rfl,ql,_,_,_,rfl,rfl,SqT.of (S2 _ _ hql),aO (j:=0) rfl,rfl,_,rfl,?_⟩;exact kd (qO (by show ¬ V.str "ring" =V.str "price";decide)) ⟨rfl,e2⟩
 obtain ⟨e1,e2⟩:=z;subst e1 e2;have S4:bH H4 (upd H4 D2 (.lst [])):=(bH.refl H4).put hF2;have h4:(upd H4 D2 (.lst [])) D2=some (.lst []):=aQ;generalize upd H4 D2 (.lst [])=H5 at S4 h4 ⊢;refine ⟨_,rfl,D2,_,rfl,.inl (SqL.of h4),rfl,_,rfl,mO (by rfl) ?_⟩;refine ⟨szZ1,fun q6 H6 S6 h6=>k (.ref q6) H6 (S1.trans (S2.trans (S4.trans S6))) ?_⟩;exact .tup h6 (.cons (.str _) .nil)
abbrev sCell:cJ:=top 62
abbrev sBox:cJ:=top 63
abbrev sDraw:cJ:=top 64
theorem scCell:bY pzg pzg (defScope sCell):=by trivial
theorem ok_cell (F:Fun K "_law_cell_at" "_law_cell_at" sCell f fd)(T:Nm mg):cM P w K mg base CX0 1 f fd pzg (spCell K):=by
 refine F.ok scCell (by contradiction) (fun cdv A outer s H vs Q E hr h=>?_);obtain ⟨a,ns,j,rfl,ha,hj,k⟩:=h;refine ⟨_,pss_cons (fV (cw op_lt (pv 1) (cp bV rfl T.len bF (af (pv 0) aD)) (cG _)) (cy (cf (eJ gB (pv 0) (pv 1) (fun _ _=>rfl)))) cZ) (cy (cf bD)),?_⟩;refine ⟨_,rfl,_,rfl,a,_,rfl,.inl ha,_,_,rfl,rfl,_,rfl,?_⟩;refine pS (fun h1=>?_) (fun h1=>?_)
 ·have h1:j<((ns.map V.int).length:Int):=qP h1
  obtain ⟨v,e1,e2⟩:=atI_in hj h1;obtain ⟨c,_,rfl⟩:=bb.mp e2;exact ⟨_,rfl,_,rfl,a,_,_,_,rfl,rfl,ha,e1,k c⟩
 ·exact k 0
theorem scBox:bY ["_law_script","_law_k","_law_cell","_law_number","_law_j","_law_mixed"] pzg (defScope sBox):=by trivial
theorem ok_box (F:Fun K "_law_box" "_law_box" sBox f fd)(T:Nm mg)(T2:Nt mg)(G1:Fn K mg "_law_cell_at" sCell pzg f1 fd1):cM P w K mg base CX0 2 f fd pzg (spBox K):=by
 have F1:cM P w K mg base CX0 1 f1 fd1 pzg (spCell K):=ok_cell G1.F T;refine F.ok scBox (by contradiction) (fun cdv A outer s H vs Q E hr h=>?_);obtain ⟨a,ns,j,rfl,ha,hj,k⟩:=h;refine ⟨_,PSl.h (aY ⟨(psZ 2 scBox.nd (pc1 G1 F1 hr (af (pv 0) (af (pv 1) aD))))⟩
  (aY ⟨(psZ 3 scBox.nd bD)⟩
  (aY ⟨(ib bE rfl (gH rfl T2.range (af bD aD)) (pgZ 4 scBox.nd) (PSl.h (aY ⟨(psZ 5 scBox.nd (cU k6 (cU nc (cU gX (cU gX (cU k6 (cU op_fdiv (pv 2) bD) bD) (cU nc bD (pv 4))) bD) bD) bD))⟩
  (aY ⟨(psZ 5 scBox.nd (cU k6 (cU gX (cU gX (cU nc (pv 5) (pv 5)) (cU nc bD (pv 4))) (pv 1)) bD))⟩
  (cP ⟨(psZ 3 scBox.nd (cU gX (cU nc (pv 3) bD) (cU k6 (cU nc (pv 5) bD) bD)))⟩)))))⟩
  (aY ⟨(fV (cw jJ (cU k6 (pv 2) bD) bD (cG _)) (cy (cf (iQ (af (cU op_fdiv (pv 2) bD) (af (pv 3) aD))))) cZ)⟩
  (cP ⟨(cf (iQ (af (pv 3) (af bD aD))))⟩))))),?_⟩
 refine ⟨_,rfl,_,rfl,a,ns,j,rfl,ha,hj,fun c=>?_⟩;refine ⟨60,rfl,by decide,by decide,j5 (n:=60) (fun i σ H2=>H2=H∧∃ n vj vm,σ=[some (.ref a),some (.int j),some (.int c),some (.int n),vj,vm]) ⟨rfl,0,none,none,rfl⟩ ?_ ?_⟩
 ·rintro i σ H2 hi ⟨rfl,n,vj,vm,rfl⟩
  refine ⟨_,rfl,_,_,rfl,rfl,⟨by decide,by decide⟩,_,_,rfl,rfl,(by show (0:Int)<2147483647;decide),_,rfl,_,_,rfl,rfl,.inl ⟨by decide,by decide⟩,_,_,rfl,rfl,_,_,rfl,rfl,_,_,rfl,rfl,.inr ⟨by decide,by decide⟩,_,_,rfl,rfl,(by show (0:Int)<2147483647;decide),?_⟩;refine ⟨_,rfl,_,rfl,_,_,rfl,rfl,.inl ?_,_,rfl,_,_,rfl,rfl,.inl ⟨by decide,by decide⟩,_,_,rfl,rfl,_,rfl,_,_,rfl,rfl,_,_,rfl,rfl,(by show (0:Int)<2147483629;decide),?_⟩
  ·have h1:=fb ((c / 2 % 2147483647+7919 * (0+(i:Int))+1) * 48271) (by decide:(2147483647:Int)≠0)
   have h2:=eE ((c / 2 % 2147483647+7919 * (0+(i:Int))+1) * 48271) (by decide:(0:Int)<2147483647);exact ⟨by lia,by lia⟩
  ·refine ⟨_,rfl,_,_,rfl,rfl,.inr ⟨by decide,by decide⟩,_,rfl,_,_,rfl,rfl,.inr ⟨by decide,by decide⟩,_,_,rfl,rfl,(by show (0:Int)<2147483629;decide),_,_,rfl,rfl,?_⟩
   exact ⟨rfl,_,_,_,rfl⟩
 ·rintro σ H2 ⟨rfl,n,vj,vm,rfl⟩
  refine ⟨_,rfl,_,_,rfl,rfl,(by show (0:Int)<2;decide),rfl,_,rfl,?_⟩;refine pS (fun _=>?_) (fun _=>?_)
  ·exact ⟨_,rfl,_,_,rfl,rfl,⟨by decide,by decide⟩,_,rfl,oI,fun p hp=>k _ _ p hp⟩
  ·exact ⟨_,rfl,oI,fun p hp=>k _ _ p hp⟩
theorem scDraw:bY ["_law_box_here","_law_most","_law_number"] pzh (defScope sDraw):=by trivial
theorem ok_draw (F:Fun K "_law_draw" "_law_draw" sDraw f fd):cM P w K mg base CX0 1 f fd pzh spDraw:=by
 refine F.ok scDraw (by contradiction) (fun cdv A outer s H vs Q E hr h=>?_);obtain ⟨p,x,y,m,rfl,hp,h0,h1,k⟩:=h;refine ⟨_,PSl.h (aY ⟨(mE (fV (cw jJ (eJ gB (pv 0) bD (fun _ _=>rfl)) bD (cG _)) (PSl.h (aY ⟨(og (eJ gB (pv 0) bD (fun _ _=>rfl)) (qj (pv 0) bD lQ))⟩
  (cP ⟨(og bD (qj (pv 0) bD lQ))⟩))) cZ))⟩
  (aY ⟨(psZ 2 scDraw.nd (eJ gB (pv 0) bD (fun _ _=>rfl)))⟩
  (aY ⟨(og (cU op_fdivB (pv 2) (pv 1)) (qj (pv 0) bD lQ))⟩
  (cP ⟨(cf (cU k6 (pv 2) (pv 1)))⟩)))),?_⟩
 refine ⟨fun σ' H'=>σ'=[some (.ref p),some (.int m),none]∧Mb p H H',?_,?_⟩
 rotate_left
 ·refine ⟨_,rfl,p,_,_,_,rfl,rfl,SqL.of hp,aO (j:=0) rfl,rfl,_,rfl,?_⟩
  refine pS (fun _=>?_) (fun _=>?_)
  ·refine ⟨_,rfl,p,_,_,_,rfl,rfl,SqL.of hp,aO (j:=1) rfl,_,rfl,p,_,_,0,rfl,rfl,hp,rfl,?_⟩
   refine ⟨_,rfl,p,_,_,1,rfl,rfl,aQ,rfl,rfl,fun b o hb e=>by rw [br hb,br hb];exact e,y,0,?_⟩;rw [aQ];rfl
  ·exact ⟨rfl,Mb.refl hp⟩
 rintro σ' H1 ⟨rfl,M1⟩;obtain ⟨x1,y1,hp1⟩:=M1.2;refine ⟨_,rfl,p,_,_,_,rfl,rfl,SqL.of hp1,aO (j:=0) rfl,?_⟩;refine ⟨_,rfl,_,rfl,_,_,rfl,rfl,log_ok h0 h1,_,rfl,p,_,_,0,rfl,rfl,hp1,rfl,?_⟩;refine ⟨_,rfl,_,rfl,_,_,rfl,rfl,h0,k _ _ (fb _ (by lia)) (eE _ h0) ⟨fun b o hb e=>by rw [br hb];exact M1.1 b o hb e,x1 / m,y1,?_⟩⟩;rw [aQ];rfl
abbrev sCrow:cJ:=top 74
inductive spCrow (vs:List V)(H:Hp)(Q:VK)(_:XK):Prop
 | mk (p:aq)(x y:Int)(v:V)(b m:Int)(sp:List Sn)(_:vs=[.ref p,v])(_:H p=some (.lst [.int x,.int y]))(_:IsD H v (jA b m sp))(_:jD b m sp)(_:b≤100)(_:2≤m)(_:∀ v' sp' H',Mb p H H'→IsD H' v' (jA b m sp')→jD b m sp'→Q v' H')
theorem n9:bY ["_law_box_here","_law_net","_law_spans","_law_goal","_law_start","_law_there","_law_least","_law_one"] pzf (defScope sCrow):=by trivial
theorem ok_crow (F:Fun K "_law_crowded" "_law_crowded" sCrow f fd)(T:Nm mg)(T2:Nt mg)(G1:Fn K mg "_law_draw" sDraw pzh f1 fd1):cM P w K mg base CX0 2 f fd pzf spCrow:=by
 have F1:cM P w K mg base CX0 1 f1 fd1 pzh spDraw:=ok_draw G1.F;refine F.ok n9 (by contradiction) (fun cdv A outer s H vs Q E hr h=>?_);obtain ⟨p,x,y,v,b,m,sp,rfl,hp,hv,NT,b100,m2,k⟩:=h;obtain ⟨t,pn,ys,rfl,ht,hpn,dy⟩:=netP_rows hv;have b1:=NT.b1;have m16:=NT.m2;have few:=NT.few;refine ⟨_,PSl.h (aY ⟨(psZ 2 n9.nd (eU oi rfl T2.tlist boot_list (af (ixZ (pv 1)) aD)))⟩
  (aY ⟨(mE (psZ 3 n9.nd (cU gX bD (pc1 G1 F1 hr (af (pv 0) (af bD aD))))))⟩
  (aY ⟨(lR bE (cw op_lt (cp bV rfl T.len bF (af (pv 2) aD)) (pv 3) (cG _)) (PSl.h (aY ⟨(psZ 4 n9.nd (pc1 G1 F1 hr (af (pv 0) (af (ixZ (pv 1)) aD))))⟩
  (aY ⟨(psZ 5 n9.nd (cU k6 (cU gX (cU gX (pv 4) bD) (pc1 G1 F1 hr (af (pv 0) (af (cU i0 (ixZ (pv 1)) bD) aD)))) (ixZ (pv 1))))⟩
  (aY ⟨(psZ 6 n9.nd (pc1 G1 F1 hr (af (pv 0) (af (cU nc bD (ixZ (pv 1))) aD))))⟩
  (aY ⟨(psZ 7 n9.nd (cY (af (pv 4) (af (pv 5) (af (pv 6) (af (cU i0 (cU gX (pv 6) (ixZ (pv 1))) bD) (af (pc1 G1 F1 hr (af (pv 0) (af bD aD))) aD)))))))⟩
  (aY ⟨(mE (fV (PW.pt (pw_and (cw (op_neD hr.units) (ixZ (pv 1)) (cY aD) (cG _)) (pw_and1 (cw jJ (pc1 G1 F1 hr (af (pv 0) (af bD aD))) bD (cG _))))) (cy (psZ 7 n9.nd (eJ eD (ixZ (pv 1)) (pc1 G1 F1 hr (af (pv 0) (af (cp bV rfl T.len bF (af (ixZ (pv 1)) aD)) aD))) (fun _ _=>rfl)))) cZ))⟩
  (cP ⟨(gL (lh bc PySem.F.slot_list_insert PySem.F.type_list_insert mt_insert (pv 2) (af (pc1 G1 F1 hr (af (pv 0) (af (cU gX (cp bV rfl T.len bF (af (pv 2) aD)) bD) aD))) (af (pv 7) aD))))⟩))))))))⟩
  (cP ⟨(cf (cY (af (ixZ (pv 1)) (af (ixZ (pv 1)) (af (eU i3 rfl T.ttup iX (af (pv 2) aD)) aD)))))⟩)))),?_⟩
 refine ⟨_,rfl,t,_,_,_,rfl,rfl,SqT.of ht,aO (j:=2) rfl,pn,_,rfl,.inr (SqT.of hpn),fun L nL=>?_⟩;have S0:bH H (upd H L (.lst ys)):=bH.put (bH.refl H) nL;have hLp:L≠p:=fun z=>by rw [z,hp] at nL;cases nL
 have hp0:=S0 _ _ hp;have hL0:(upd H L (.lst ys)) L=some (.lst ys):=aQ;generalize upd H L (.lst ys)=H0 at S0 hp0 hL0 ⊢;refine ⟨fun σ' H'=>Mb p H0 H'∧∃ g:Int,g≤40∧σ'=[some (.ref p),some (.ref t),some (.ref L),some (.int g),none,none,none,none],?_,?_⟩
 rotate_left
 ·refine ⟨_,rfl,p,x,y,5,rfl,hp0,by decide,by decide,fun r H1 r0 r1 M1=>⟨_,_,rfl,rfl,?_⟩⟩
  exact ⟨M1,36+r,by lia,rfl⟩
 rintro σ' H1 ⟨M1,g,g40,rfl⟩;have hL1:=M1.at hL0 hLp;have MH1:Mb p H H1:=((Mb.refl hp).then S0).trans M1;have K1:=Mb.tupK hp MH1;refine ⟨fun n σ H'=>∃ (zs:List V) (sp':List Sn) (v4 v5 v6 v7:Option V),n=g.toNat - sp'.length∧σ=[some (.ref p),some (.ref t),some (.ref L),some (.int g),v4,v5,v6,v7]∧H' L=some (.lst zs)∧dG H' zs (cW Sn.row sp')∧jD b m sp'∧Mb p H H',⟨_,ys,sp,none,none,none,none,rfl,rfl,hL1,df K1 dy,NT,MH1⟩,?_⟩;rintro n σ H5 ⟨zs,sp',v4,v5,v6,v7,rfl,rfl,hL,dz,NT',M5⟩;obtain ⟨x5,y5,hp5⟩:=M5.2;have lz:zs.length=sp'.length:=by rw [dz.length];unfold cW;rw [aa]
 have K5:=Mb.tupK hp M5;have ht5:=K5 _ _ ht;refine ⟨_,rfl,L,_,rfl,.inl (SqL.of hL),_,rfl,_,_,rfl,rfl,_,rfl,?_⟩;refine pS (fun hc=>?_) (fun hc=>?_)
 ·have hc:(zs.length:Int)<g:=qP hc
  refine ⟨_,fun σ' H' z=>z,?_⟩;refine ⟨_,rfl,_,rfl,t,_,_,_,rfl,rfl,SqT.of ht5,aO (j:=1) rfl,p,x5,y5,m,rfl,hp5,by lia,by lia,fun r1 H6 a1 c1 M6=>?_⟩;obtain ⟨x6,y6,hp6⟩:=M6.2;have ht6:=Mb.tupK hp5 M6 _ _ ht5;refine ⟨_,rfl,_,_,rfl,rfl,_,rfl,_,rfl,t,_,_,_,rfl,rfl,SqT.of ht6,aO (j:=1) rfl,_,_,rfl,rfl,p,x6,y6,m - 1,rfl,hp6,by lia,by lia,fun r2 H7 a2 c2 M7'=>?_⟩;have M7:=M6.trans M7';obtain ⟨x7,y7,hp7⟩:=M7.2;have ht7:=Mb.tupK hp5 M7 _ _ ht5;refine ⟨_,_,rfl,rfl,_,rfl,t,_,_,_,rfl,rfl,SqT.of ht7,aO (j:=1) rfl,_,_,rfl,rfl,(by show (0:Int)<m;lia),?_⟩;obtain ⟨g0,g1,g2⟩:=goal_ok a1 c1 a2 c2;refine ⟨_,rfl,_,rfl,t,_,_,_,rfl,rfl,SqT.of ht7,aO (j:=0) rfl,_,_,rfl,rfl,.inl ⟨by decide,by decide⟩,p,x7,y7,2 * b,rfl,hp7,by lia,by lia,fun r3 H8 a3 c3 M8'=>?_⟩;have M8:=M7.trans M8';obtain ⟨x8,y8,hp8⟩:=M8.2;have ht8:=Mb.tupK hp5 M8 _ _ ht5;refine ⟨_,rfl,_,rfl,_,rfl,_,rfl,_,rfl,t,_,_,_,rfl,rfl,SqT.of ht8,aO (j:=0) rfl,_,_,rfl,rfl,_,_,rfl,rfl,_,rfl,p,x8,y8,5,rfl,hp8,by decide,by decide,fun r4 H9 a4 c4 M9'=>⟨szZ5,fun tq HA SA hA=>?_⟩⟩;have MA:Mb p H5 HA:=(M8.trans M9').then SA;obtain ⟨xA,yA,hpA⟩:=MA.2;have KA:=Mb.tupK hp5 MA;have htA:=KA _ _ ht5;have hpnA:=KA _ _ (K5 _ _ hpn);have hA:HA tq=some (.tup ((Sn.row ⟨r1,(r1+1+r2) % m,r3,r3+b - 1,r4⟩).map V.int)):=hA;have ok1:SnOk b m ⟨r1,(r1+1+r2) % m,r3,r3+b - 1,r4⟩:=⟨a1,c1,g0,g1,g2,a3,by show r3≤r3+b - 1;lia,by show r3+b - 1<r3+b;lia,by show r3+b - 1<10 ^ 60;lia,a4,by show r4≤1000000000000;lia⟩;refine ⟨fun σ' H'=>Mb p H5 H'∧∃ (q:aq) (z:Sn),H' q=some (.tup (z.row.map V.int))∧SnOk b m z∧σ'=[some (.ref p),some (.ref t),some (.ref L),some (.int g),some (.int r1),some (.int ((r1+1+r2) % m)),some (.int r3),some (.ref q)],?_,?_⟩
  rotate_left
  ·refine ⟨_,rfl,t,_,_,_,rfl,rfl,SqT.of htA,aO (j:=2) rfl,bg _,fun q0 HB SB hB=>?_⟩
   have dyB:dG HB ys (cW Sn.row sp):=(df (K5.trans KA) dy).same SB;refine ⟨cW Sn.row sp,[],.tup (SB _ _ hpnA) dyB,.tup hB .nil,pls_rows _ _,rfl,bU (deps_rows _ _) (by decide),_,rfl,?_⟩;have MB:=MA.then SB;obtain ⟨xB,yB,hpB⟩:=MB.2;rw [eqDs_none];refine pS (fun hc=>?_) (fun hc=>⟨MB,tq,_,SB _ _ hA,ok1,rfl⟩);have hne:sp≠[]:=fun z=>by rw [z] at hc;cases hc
   have lsp:0<sp.length:=iT.mpr hne;have lys:ys.length=sp.length:=by rw [dy.length];unfold cW;rw [aa]
   refine ⟨_,rfl,p,xB,yB,3,rfl,hpB,by decide,by decide,fun r5 HC a5 c5 MC'=>⟨rfl,_,rfl,?_⟩⟩;have MC:=MB.trans MC';obtain ⟨xC,yC,hpC⟩:=MC.2;have KC:=Mb.tupK hp5 MC;refine pS (fun _=>?_) (fun _=>⟨MC,tq,_,MC'.at (SB _ _ hA) (fW (SB _ _ hA) hpB nofun),ok1,rfl⟩);refine ⟨_,rfl,t,_,_,_,rfl,rfl,SqT.of (KC _ _ ht5),aO (j:=2) rfl,_,rfl,_,rfl,t,_,_,_,rfl,rfl,SqT.of (KC _ _ ht5),aO (j:=2) rfl,pn,_,rfl,.inr (SqT.of (KC _ _ (K5 _ _ hpn))),p,xC,yC,_,rfl,hpC,(by rw [lys];lia),(by rw [lys];lia),fun r6 HD a6 c6 MD'=>?_⟩;have MD:=MC.trans MD';have KD:=Mb.tupK hp5 MD;obtain ⟨j,rfl⟩:=cz a6;have hj:j<ys.length:=by lia
   have hj2:j<sp.length:=by lia
   have dyD:=df (K5.trans KD) dy;obtain ⟨d,ed,dx⟩:=dyD.get (gE hj);unfold cW at ed;rw [ay,gE hj2] at ed;cases ed;obtain ⟨qo,xo,eo1,ho,ro⟩:=dx.tup_of;have eo:=ro.ints_of;subst eo;refine ⟨pn,_,_,_,rfl,rfl,SqT.of (KD _ _ (K5 _ _ hpn)),aO (j:=j) (by rw [gE hj,eo1]),?_⟩;exact ⟨MD,qo,sp[j],ho,NT.all _ (ba hj2),rfl⟩
  rintro σ' HB ⟨MB,q,z,hq,okz,rfl⟩;obtain ⟨xB,yB,hpB⟩:=MB.2;have hLB:=MB.at hL hLp;refine ⟨_,rfl,.inl ⟨rfl,_,SqL.of hLB⟩,_,rfl,_,rfl,L,_,rfl,.inl (SqL.of hLB),_,_,rfl,rfl,p,xB,yB,_,rfl,hpB,(by lia),(by lia),fun r6 HC a6 c6 MC'=>⟨_,rfl,?_⟩⟩;have MC:=MB.trans MC';have hLC:=MC.at hL hLp;refine ⟨L,zs,r6,.ref q,rfl,rfl,hLC,by lia,a6,by lia,?_⟩;have hqC:=MC'.at hq (fW hq hpB nofun);have KC:=Mb.tupK hp5 MC;have KU:jL HC (upd HC L (.lst (zs.take r6.toNat++ .ref q::zs.drop r6.toNat))):=eI hLC;obtain ⟨xC,yC,hpC⟩:=MC.2;refine ⟨_,?_,_,sp'.take r6.toNat++z::sp'.drop r6.toNat,_,_,_,_,rfl,rfl,aQ,?_,⟨NT'.b1,NT'.b2,NT'.m1,NT'.m2,?_,?_⟩,?_⟩
  ·rw [ar,aN,bK,dh];show g.toNat - (min r6.toNat sp'.length+(sp'.length - r6.toNat+1))<g.toNat - sp'.length;lia
  ·have dz':=df (KC.trans KU) dz
   unfold cW;rw [aE,bR,List.map_take,List.map_drop];exact (dG.takeN _ dz').append (.cons (.tup (KU _ _ hqC) (dG.ints z.row)) (dG.dropN _ dz'))
  ·rw [ar,aN,bK,dh];lia
  ·intro z' hz'
   rcases aH.mp hz' with hz' | hz'
   ·exact NT'.all z' (jO hz')
   ·rcases aI.mp hz' with rfl | hz'
    ·exact okz
    ·exact NT'.all z' (List.mem_of_mem_drop hz')
  ·refine ⟨fun c o hc' e=>?_,xC,yC,?_⟩
   ·rw [br (bC e nL)]
    exact MC.1 c o hc' (M5.1 c o hc' e)
   ·rw [br (fun z=>hLp z.symm)];exact hpC
 ·refine ⟨_,rfl,t,_,_,_,rfl,rfl,SqT.of ht5,aO (j:=0) rfl,_,rfl,t,_,_,_,rfl,rfl,SqT.of ht5,aO (j:=1) rfl,_,rfl,L,_,rfl,SqL.of hL,fun q6 H6 S6 h6=>?_⟩
  refine ⟨(by show 3≤aZ;decide),fun t' H7 S7 h7=>?_⟩;exact k (.ref t') sp' H7 ((M5.then S6).then S7) (.tup h7 (.cons (.int b) (.cons (.int m) (.cons (.tup (S7 _ _ h6) (dz.same (S6.trans S7))) .nil)))) NT'
abbrev sSmall:cJ:=top 65
inductive spSmallF (vs:List V)(H:Hp)(Q:VK)(_:XK):Prop
 | mk (p:aq)(x y mo ma:Int)(_:vs=[.ref p,.int mo,.int ma])(_:H p=some (.lst [.int x,.int y]))(_:1≤mo)(_:mo≤100)(_:2≤ma)(_:ma≤16)(_:∀ (t:aq) (v:V) (h:aq) (b m:Int) (sp:List Sn) (hs:List Int) (H':Hp),Mb p H H'→H' t=some (.tup [v,.ref h])→IsD H' v (jA b m sp)→1≤b→b≤mo→2≤m→m≤ma→sp.length≤8→(∀ x∈sp,SnOk b m x)→H' h=some (.tup (hs.map V.int))→(hs.length:Int)=m→(∀ z∈hs,0≤z∧z<b)→Q (.ref t) H')
theorem jW:bY ["_law_box_here","_law_most","_law_many","_law_beat","_law_hidden","_law_spans","_law_k","_law_start","_law_goal","_law_wide","_law_least"] pzJ (defScope sSmall):=by trivial
theorem ok_small (F:Fun K "_law_small" "_law_small" sSmall f fd)(T:Nm mg)(T2:Nt mg)(G1:Fn K mg "_law_draw" sDraw pzh f1 fd1):cM P w K mg base CX0 2 f fd pzJ spSmallF:=by
 have F1:cM P w K mg base CX0 1 f1 fd1 pzh spDraw:=ok_draw G1.F;refine F.ok jW (by contradiction) (fun cdv A outer s H vs Q E hr h=>?_);obtain ⟨p,x,y,mo,ma,rfl,hp,mo1,mo2,ma1,ma2,k⟩:=h;refine ⟨_,PSl.h (aY ⟨(psZ 3 jW.nd (cU gX bD (pc1 G1 F1 hr (af (pv 0) (af (pv 1) aD)))))⟩
  (aY ⟨(psZ 2 jW.nd (cU gX bD (pc1 G1 F1 hr (af (pv 0) (af (cU i0 (pv 2) bD) aD)))))⟩
  (aY ⟨(oY (iy:=4) (fr:=["_law_box_here","_law_beat"]) (js:=[0,3]) jW.nd rfl (.inl rfl) rfl (gH rfl T2.range (af (pv 2) aD)) (by trivial) rfl (by trivial) rfl (by exists sSmall) (by trivial) rfl (by trivial) (fun _ _ _ _ _=>⟨(pc1 G1 F1 hr (af (pv 1) (af (pv 2) aD))),gT⟩))⟩
  (aY ⟨(psZ 5 jW.nd (iQ aD))⟩
  (aY ⟨(ib bE rfl (gH rfl T2.range (af (pc1 G1 F1 hr (af (pv 0) (af bD aD))) aD)) (pgZ 6 jW.nd) (PSl.h (aY ⟨(psZ 7 jW.nd (pc1 G1 F1 hr (af (pv 0) (af (pv 2) aD))))⟩
  (aY ⟨(psZ 8 jW.nd (cU k6 (cU gX (cU gX (pv 7) bD) (pc1 G1 F1 hr (af (pv 0) (af (cU i0 (pv 2) bD) aD)))) (pv 2)))⟩
  (aY ⟨(psZ 9 jW.nd (PEs.h (k_ix gB (k_lst (a_cons k_int (a_cons ⟨pc1 G1 F1 hr (af (pv 0) (af (cp (call_min2 rfl) rfl T.min boot_min (af bD (af (pv 3) aD))) aD))⟩ (a_cons ⟨pc1 G1 F1 hr (af (pv 0) (af (pv 3) aD))⟩ (a_cons (k_op i0 ⟨pv 3⟩ k_int) a_nil))))) ⟨pc1 G1 F1 hr (af (pv 0) (af bD aD))⟩ (fun _ _=>rfl))))⟩
  (aY ⟨(psZ 10 jW.nd (pc1 G1 F1 hr (af (pv 0) (af (cU nc bD (pv 3)) aD))))⟩
  (aY ⟨(mE (fV (cw pU (pc1 G1 F1 hr (af (pv 0) (af bD aD))) bD (cG _)) (cy (psZ 10 jW.nd (cU k6 (cU i0 (cU i0 (eJ gB (pv 4) (pv 8) (fun _ _=>rfl)) (eJ gB (pv 4) (pv 7) (fun _ _=>rfl))) (pc1 G1 F1 hr (af (pv 0) (af (cU gX (pv 9) bD) aD)))) (pv 3)))) cZ))⟩
  (cP ⟨(gL (lh bc bP bO fH (pv 5) (af (cY (af (pv 7) (af (pv 8) (af (pv 10) (af (cU gX (pv 10) (pv 9)) (af (pc1 G1 F1 hr (af (pv 0) (af bD aD))) aD)))))) aD)))⟩))))))))⟩
  (cP ⟨(cf (cY (af (cY (af (pv 3) (af (pv 2) (af (eU i3 rfl T.ttup iX (af (pv 5) aD)) aD)))) (af (eU i3 rfl T.ttup iX (af (pv 4) aD)) aD))))⟩)))))),?_⟩
 refine ⟨_,rfl,_,rfl,p,x,y,mo,rfl,hp,by lia,by lia,fun rb H1 rb0 rb1 M1=>⟨_,_,rfl,rfl,?_⟩⟩;obtain ⟨x1,y1,hp1⟩:=M1.2;refine ⟨_,rfl,_,rfl,_,_,rfl,rfl,p,x1,y1,_,rfl,hp1,by lia,by lia,fun rm H2 rm0 rm1 M2=>⟨_,_,rfl,rfl,?_⟩⟩;have M2:=M1.trans M2;have b1:1≤1+rb:=by lia
 have b2:1+rb≤mo:=by lia
 have m1:2≤2+rm:=by lia
 have m2:2+rm≤ma:=by lia
 refine ⟨_,rfl,(2+rm),rfl,by lia,by lia,?_⟩;refine kD (n:=(2+rm).toNat) (fun i zs H4=>Mb p H H4∧∃ hs:List Int,zs=hs.map V.int∧hs.length=i∧∀ z∈hs,0≤z∧z<1+rb) ⟨M2,[],rfl,rfl,fun _ h=>by cases h⟩ (fun i zs H4 _ ⟨_,hs,e,hl,_⟩=>by rw [e,aa,hl];exact aA _) (eQ (by lia)) (fun i zs H4 hi ⟨M4,hs,e4,hl4,hin4⟩=>?_) (fun zs H4 ⟨M4,hs,e4,hl4,hin4⟩ D hD=>?_)
 ·refine gc ?_
  obtain ⟨x4,y4,hp4⟩:=M4.2;exact ⟨_,rfl,_,rfl,p,x4,y4,(1+rb),rfl,hp4,by lia,by lia,fun r5 H5 q5 q6 M5=>⟨M4.trans M5,hs++[r5],by rw [e4,aE];rfl,by rw [ar,hl4];rfl,fun z hz=>(aH.mp hz).elim (hin4 z) fun h=>by rw [av.mp h];exact ⟨q5,q6⟩⟩⟩
 subst e4;have hlh:(hs.length:Int)=(2+rm):=by lia
 have nDp:D≠p:=fun z=>by obtain ⟨x4,y4,hp4⟩:=M4.2;rw [z,hp4] at hD;cases hD
 have hDH:H D=none:=by
  cases z:H D with
  | none=>rfl
  | some o=>rw [M4.1 D o nDp z] at hD;cases hD
 have S5:bH H4 (upd H4 D (.lst (hs.map V.int))):=bH.put (bH.refl H4) hD;have hD5:(upd H4 D (.lst (hs.map V.int))) D=some (.lst (hs.map V.int)):=aQ;generalize upd H4 D (.lst (hs.map V.int))=H5 at S5 hD5 ⊢;have M5:=M4.then S5;clear M4 S5 hD M2 M1;refine ⟨bg _,fun Ls hLs=>?_⟩;have nLp:Ls≠p:=fun z=>by obtain ⟨x4,y4,hp4⟩:=M5.2;rw [z,hp4] at hLs;cases hLs
 have nLD:Ls≠D:=fun z=>by rw [z,hD5] at hLs;cases hLs
 have hLH:H Ls=none:=by
  cases z:H Ls with
  | none=>rfl
  | some o=>rw [M5.1 Ls o nLp z] at hLs;cases hLs
 have S6:bH H5 (upd H5 Ls (.lst [])):=bH.put (bH.refl H5) hLs;have hL6:(upd H5 Ls (.lst [])) Ls=some (.lst []):=aQ;generalize upd H5 Ls (.lst [])=H6 at S6 hL6 ⊢;have M6:=M5.then S6;have hD6:=S6 _ _ hD5;clear M5 S6 hLs hD5;obtain ⟨x6,y6,hp6⟩:=M6.2;refine ⟨_,rfl,p,x6,y6,9,rfl,hp6,by decide,by decide,fun r7 H7 r70 r71 M7=>⟨r7,rfl,by lia,by lia,?_⟩⟩;have hD7:=M7.at hD6 nDp;have hL7:=M7.at hL6 nLp;have M7:=M6.trans M7;refine j5 (n:=r7.toNat) (fun i σ H'=>Mb p H H'∧H' D=some (.lst (hs.map V.int))∧∃ (v6 v7 v8 v9 v10:Option V) (zs:List V) (sp:List Sn),σ=[some (.ref p),some (.int mo),some (.int (2+rm)),some (.int (1+rb)),some (.ref D),some (.ref Ls),v6,v7,v8,v9,v10]∧H' Ls=some (.lst zs)∧dG H' zs (cW Sn.row sp)∧sp.length=i∧∀ x∈sp,SnOk (1+rb) (2+rm) x) ⟨M7,hD7,none,none,none,none,none,[],[],rfl,hL7,.nil,rfl,fun _ h=>qM h (by simp)⟩ ?_ ?_
 ·rintro i σ HA hi ⟨MA,hDA,v6,v7,v8,v9,v10,zs,sp,rfl,hLA,dA,lA,allA⟩
  obtain ⟨xA,yA,hpA⟩:=MA.2;refine ⟨_,rfl,_,rfl,p,xA,yA,(2+rm),rfl,hpA,by lia,by lia,fun r1 H1 a1 c1 M1=>?_⟩;have N1:=M1;obtain ⟨x1,y1,hp1⟩:=N1.2;refine ⟨_,rfl,_,_,rfl,rfl,_,rfl,_,rfl,_,_,rfl,rfl,p,x1,y1,_,rfl,hp1,by lia,by lia,fun r2 H2 a2 c2 M2=>?_⟩;have N2:=N1.trans M2;obtain ⟨x2,y2,hp2⟩:=N2.2;refine ⟨_,_,rfl,rfl,_,rfl,_,_,rfl,rfl,(by show (0:Int)<(2+rm);lia),?_⟩;obtain ⟨g0,g1,g2⟩:=goal_ok a1 c1 a2 c2;refine ⟨_,rfl,_,rfl,_,_,rfl,p,x2,y2,_,rfl,hp2,by split <;> lia,by split <;> lia,fun r7 H7 a7 c7 M7=>?_⟩;have N7:=N2.trans M7;obtain ⟨x7,y7,hp7⟩:=N7.2;have c7:r7<(1+rb):=by
   refine Int.lt_of_lt_of_le c7 ?_;split <;> lia
  refine ⟨_,rfl,_,rfl,p,x7,y7,(1+rb),rfl,hp7,by lia,by lia,fun r8 H8 a8 c8 M8=>?_⟩;have N8:=N7.trans M8;obtain ⟨x8,y8,hp8⟩:=N8.2;refine ⟨_,rfl,_,_,rfl,rfl,szZ4,fun q9 H9 S9 h9=>?_⟩;have N9:=N8.then S9;obtain ⟨x9,y9,hp9⟩:=N9.2;refine ⟨_,rfl,p,x9,y9,4,rfl,hp9,by decide,by decide,fun rB HB aB cB MB=>?_⟩;have hB:=MB.at h9 (fW h9 hp9 nofun);have NB:=N9.trans MB;obtain ⟨xB,yB,hpB⟩:=NB.2;obtain ⟨vB,eB,mB⟩:=atI_in (xs:=[V.int 0,V.int r7,V.int r8,V.int ((1+rb) - 1)]) aB cB;obtain ⟨wd,rfl,w0,w1⟩:∃ i,vB=V.int i∧0≤i∧i<(1+rb):=by
   simp only [aI,cn,or_false] at mB
   rcases mB with rfl | rfl | rfl | rfl
   ·exact ⟨_,rfl,by decide,by lia⟩
   ·exact ⟨_,rfl,a7,c7⟩
   ·exact ⟨_,rfl,a8,c8⟩
   ·exact ⟨_,rfl,by lia,by lia⟩
  refine ⟨q9,_,_,_,rfl,rfl,SqL.of hB,eB,?_⟩;refine ⟨_,rfl,_,rfl,_,_,rfl,rfl,.inl ⟨by decide,by decide⟩,p,xB,yB,_,rfl,hpB,by lia,by lia,fun rC HC aC cC MC=>?_⟩;have NC:=NB.trans MC;obtain ⟨xC,yC,hpC⟩:=NC.2;refine ⟨fun σ' H'=>Mb p HA H'∧∃ l:Int,0≤l∧l<2 * (1+rb)∧σ'=[some (.ref p),some (.int mo),some (.int (2+rm)),some (.int (1+rb)),some (.ref D),some (.ref Ls),some (.int ((0:Int)+(i:Nat))),some (.int r1),some (.int ((r1+1+r2) % (2+rm))),some (.int wd),some (.int l)],?_,?_⟩
  rotate_left
  ·refine ⟨_,rfl,p,xC,yC,4,rfl,hpC,by decide,by decide,fun rD HD _ _ MD=>⟨_,_,rfl,rfl,_,rfl,?_⟩⟩
   have ND:=NC.trans MD;obtain ⟨xD,yD,hpD⟩:=ND.2;refine pS (fun _=>?_) (fun _=>⟨ND,_,aC,cC,rfl⟩);have hDD:=ND.at hDA nDp;refine ⟨_,rfl,_,rfl,D,_,_,_,rfl,rfl,SqL.of hDD,lE g0 (by lia),_,rfl,_,rfl,D,_,_,_,rfl,rfl,SqL.of hDD,lE a1 (by lia),_,_,rfl,rfl,_,rfl,_,rfl,_,_,rfl,rfl,p,xD,yD,_,rfl,hpD,by lia,by lia,fun rE HE _ _ ME=>⟨_,_,rfl,rfl,_,rfl,_,_,rfl,rfl,(by show (0:Int)<(1+rb);lia),?_⟩⟩;exact ⟨ND.trans ME,_,fb _ (by lia),Int.lt_of_lt_of_le (eE _ (by lia)) (by lia),rfl⟩
  rintro σ' HD ⟨ND,l,l0,l1,rfl⟩;obtain ⟨xD,yD,hpD⟩:=ND.2;have hLD:=ND.at hLA nLp;refine ⟨_,rfl,.inl ⟨rfl,_,SqL.of hLD⟩,_,rfl,_,rfl,_,rfl,_,rfl,_,rfl,_,_,rfl,rfl,_,rfl,p,xD,yD,5,rfl,hpD,by decide,by decide,fun rE HE f0 f1 ME=>⟨szZ5,fun tq HF SF hF=>?_⟩⟩;have KF:jL HA HF:=(Mb.tupK hpA (ND.trans ME)).trans (bH.tupK SF);have NF:=(ND.trans ME).then SF;have hLF:=NF.at hLA nLp;have hDF:=NF.at hDA nDp;have lz:zs.length=sp.length:=by rw [dA.length,aa]
  refine ⟨Ls,zs,_,rfl,rfl,hLF,(aU (by lia:zs.length<1000) (by decide:1000≤aZ)),?_⟩;have KG:jL HF (upd HF Ls (.lst (zs++[.ref tq]))):=eI hLF;have MF:=MA.trans NF;refine ⟨⟨fun q o hq e=>?_,?_⟩,by rw [br nLD.symm];exact hDF,_,_,_,_,_,zs++[.ref tq],sp++[⟨r1,(r1+1+r2) % (2+rm),l,l+wd,rE⟩],rfl,aQ,?_,by rw [ar,lA];rfl,fun z hz=>?_⟩
  ·rw [br (fun z=>by rw [z,hLH] at e;cases e)]
   exact MF.1 q o hq e
  ·obtain ⟨x1,y1,e1⟩:=MF.2
   exact ⟨x1,y1,by rw [br nLp.symm];exact e1⟩
  ·unfold cW
   rw [aE];exact (df (KF.trans KG) dA).append (.cons (.tup (KG _ _ hF) (dG.ints (Sn.row ⟨r1,(r1+1+r2) % (2+rm),l,l+wd,rE⟩))) .nil)
  ·rcases aH.mp hz with hz | hz
   ·exact allA z hz
   ·rw [av.mp hz];exact ⟨a1,c1,g0,g1,g2,l0,by show l≤l+wd;lia,by show l+wd<l+(1+rb);lia,by show l+wd<10 ^ 60;lia,f0,by show rE≤1000000000000;lia⟩
 rintro σ HA ⟨MA,hDA,v6,v7,v8,v9,v10,zs,sp,rfl,hLA,dA,lA,allA⟩;refine ⟨_,rfl,_,rfl,_,rfl,Ls,_,rfl,SqL.of hLA,fun qB HB SB hB=>⟨(by show 3≤aZ;decide),fun tC HC SC hC=>⟨_,rfl,D,_,rfl,SqL.of (SC _ _ (SB _ _ hDA)),fun qh HD SD hDh=>⟨oI,fun tE HE SE hE=>?_⟩⟩⟩⟩;have SCE:=SC.trans (SD.trans SE);have SBE:=SB.trans SCE;exact k tE (.ref tC) qh (1+rb) (2+rm) sp hs HE (MA.then SBE) hE (.tup ((SD.trans SE) _ _ hC) (.cons (.int (1+rb)) (.cons (.int (2+rm)) (.cons (.tup (SCE _ _ hB) (dA.same SBE)) .nil)))) b1 b2 m1 m2 (by lia) allA (SE _ _ hDh) hlh hin4
abbrev sTableB:cJ:=top 69
inductive spTablF (vs:List V)(H:Hp)(Q:VK)(_:XK):Prop
 | mk (p:aq)(x y:Int)(v:V)(b m:Int)(sp:List Sn)(_:vs=[.ref p,v])(_:H p=some (.lst [.int x,.int y]))(_:IsD H v (jA b m sp))(_:1≤b)(_:b≤100)(_:0≤m)(_:m≤16)(_:∀ (q:aq) (ts:List Int) (H':Hp),Mb p H H'→H' q=some (.tup (ts.map V.int))→(ts.length:Int)=m→(∀ z∈ts,0≤z∧z<b)→Q (.ref q) H')
theorem scTableB:bY pzf pzf (defScope sTableB):=by trivial
theorem ok_tableB (F:Fun K "_law_table" "_law_table" sTableB f fd)(T:Nm mg)(T2:Nt mg)(G1:Fn K mg "_law_draw" sDraw pzh f1 fd1):cM P w K mg base CX0 2 f fd pzf spTablF:=by
 have F1:cM P w K mg base CX0 1 f1 fd1 pzh spDraw:=ok_draw G1.F;refine F.ok scTableB (by contradiction) (fun cdv A outer s H vs Q E hr h=>?_);obtain ⟨p,x,y,v,b,m,sp,rfl,hp,hv,b0,b1,m0,m1,k⟩:=h;obtain ⟨t,pn,ys,rfl,ht,_⟩:=fm hv;refine ⟨_,PSl.h (cP ⟨(cf (eU i3 rfl T.ttup iX (af (gW (fr:=pzf) (js:=[0,1]) rfl (gH rfl T2.range (af (ixZ (pv 1)) aD)) (by trivial) rfl (by trivial) rfl (by exists sTableB) (by trivial) rfl (by trivial) (fun _ _ _ _ _=>⟨(pc1 G1 F1 hr (af (pv 1) (af (eJ (r:=rIxT K) eD (pv 2) bD (fun _ _=>rfl)) aD))),gT⟩)) aD)))⟩),?_⟩;refine ⟨_,rfl,t,_,_,_,rfl,rfl,SqT.of ht,aO (j:=1) rfl,m,rfl,by lia,by lia,?_⟩;refine kD (n:=m.toNat) (fun i zs H4=>Mb p H H4∧∃ hs:List Int,zs=hs.map V.int∧hs.length=i∧∀ z∈hs,0≤z∧z<b) ⟨Mb.refl hp,[],rfl,rfl,fun _ h=>by cases h⟩ (fun i zs H4 _ ⟨_,hs,e,hl,_⟩=>by rw [e,aa,hl];exact aA _) (eQ (by lia)) (fun i zs H4 hi ⟨M4,hs,e4,hl4,hin4⟩=>?_) (fun zs H4 ⟨M4,hs,e4,hl4,hin4⟩ D hD=>?_)
 ·refine gc ?_
  obtain ⟨x4,y4,hp4⟩:=M4.2;exact ⟨_,rfl,_,rfl,t,_,_,_,rfl,rfl,SqT.of (Mb.tupK hp M4 _ _ ht),aO (j:=0) rfl,p,x4,y4,b,rfl,hp4,by lia,by lia,fun r5 H5 q5 q6 M5=>⟨M4.trans M5,hs++[r5],by rw [e4,aE];rfl,by rw [ar,hl4];rfl,fun z hz=>(aH.mp hz).elim (hin4 z) fun h=>by rw [av.mp h];exact ⟨q5,q6⟩⟩⟩
 ·subst e4
  exact ⟨D,_,rfl,SqL.of aQ,fun q H5 S5 h5=>k q hs H5 (M4.then ((bH.put (bH.refl H4) hD).trans S5)) h5 (by lia) hin4⟩
end HN
namespace L2
open PySem PySem.Spec PyProof.Rows
section
variable {l:aq}{xs:Array (Int×Tok)}
theorem iterT_low (hlt:l<s.heap.objs.size):∀ c∈[s.heap.objs.size,l],c<(s.heap.push ob).objs.size:=fun c hc=>by
 rw [d8]
 rcases aI.mp hc with rfl | hc
 ·exact iK _
 ·rw [av.mp hc];exact gj hlt
theorem iterT_old (hk:∀ b o,b ∉ [s.heap.objs.size]→(s.heap.push ob).get? b=some o→h'.get? b=some o):∀ b o,s.heap.get? b=some o→h'.get? b=some o:=fun b o e =>
 hk b o (fun hm=>qM ((av.mp hm) ▸ aL e) (fq _)) (aw _ e)
theorem max_tupI (hh:A.handled=none)(hl:s.heap.IsTuple l (ja xs))(hne:0<xs.size)
  (h:∀ v h' tk,(ja xs)[argBest (fun i j=>decide (numAt xs i > numAt xs j)) (xs.size - 1)]? =some v→(∀ b o,s.heap.get? b=some o→h'.get? b=some o)→Q v { s with heap:=h',toks:=tk }) :
  bf (bw prog w) A (call (.builtin "max") [.ref l]) Q E s:=by
 have hlt:l<s.heap.objs.size:=by obtain ⟨_,e,_⟩:=hl;exact aL e
 refine call_max_walk (k9 hl ⟨_,[_,l],[_],_,_,_,_,rfl,Walks.tuple (A:=A.in1) hh _ l (bI hlt) (ja xs),⟨⟨_,aX _ rfl,rfl,rfl⟩,hl.push _⟩,iterT_low hlt,by simpa [ja] using hne,CmpOf.ints_gt (numAt xs) (fun _ _=>intItems_at),fun v h' tk hP hk=>?_⟩);exact h v h' tk (by simpa [ja] using hP) (iterT_old hk)
theorem min_tupI (hh:A.handled=none)(hl:s.heap.IsTuple l (ja xs))(hne:0<xs.size)
  (h:∀ v h' tk,(ja xs)[argBest (fun i j=>decide (numAt xs i<numAt xs j)) (xs.size - 1)]? =some v→(∀ b o,s.heap.get? b=some o→h'.get? b=some o)→Q v { s with heap:=h',toks:=tk }) :
  bf (bw prog w) A (call (.builtin "min") [.ref l]) Q E s:=by
 have hlt:l<s.heap.objs.size:=by obtain ⟨_,e,_⟩:=hl;exact aL e
 refine call_min_walk (k9 hl ⟨_,[_,l],[_],_,_,_,_,rfl,Walks.tuple (A:=A.in1) hh _ l (bI hlt) (ja xs),⟨⟨_,aX _ rfl,rfl,rfl⟩,hl.push _⟩,iterT_low hlt,by simpa [ja] using hne,CmpOf.ints_lt (numAt xs) (fun _ _=>intItems_at),fun v h' tk hP hk=>?_⟩);exact h v h' tk (by simpa [ja] using hP) (iterT_old hk)
end
theorem call_max1T (hc:X.calm=true):jz X (.builtin "max") (fun xs H Q=>∃ (p:aq) (ns:List Int),xs=[.ref p]∧SqT X.K H p (ns.map V.int)∧ns≠[]∧∀ a∈ns,Q (.int a) H):=by
 intro aR s σ H xs us Q I r h;obtain ⟨p,ns,rfl,hq,hne,q⟩:=h;obtain ⟨u,rfl,ru⟩:=mP r;cases (show u=ae.ref p from ru);obtain ⟨its,rv,pl,hz⟩:=I.tuple hq;have hi:=nu rv;obtain ⟨ys,hx⟩:=hi.allInts.items;have hl':s.heap.IsTuple p (ja ys):=hx ▸ pl;have e1:ns=ys.toList.map (·.1):=by
  rw [←nums_intItems,←hx];exact (show numsOf its.toArray.toList=ns from hi.numsOf).symm
 have hsz:0<ys.size:=by
  have:0<ns.length:=iT.mpr hne;rw [e1,aa,cj] at this;exact this
 refine max_tupI (I.ok.hd hc) hl' hsz fun v h' tk hv hk=>?_
 obtain ⟨t,rfl⟩:=intItems_at hv;obtain ⟨b1,b2⟩:=argBest_gt (numAt ys) (ys.size - 1);have m1:numAt ys (argBest (fun i j=>decide (numAt ys i > numAt ys j)) (ys.size - 1))∈ns:=by
  rw [e1,numAt_eq];exact getD_mem (by rw [aa,cj];lia)
 exact ⟨.int _,H,I.kept (t':=tk) hk,⟨t,rfl⟩,q _ m1⟩
theorem call_min1T (hc:X.calm=true):jz X (.builtin "min") (fun xs H Q=>∃ (p:aq) (ns:List Int),xs=[.ref p]∧SqT X.K H p (ns.map V.int)∧ns≠[]∧∀ a∈ns,Q (.int a) H):=by
 intro aR s σ H xs us Q I r h;obtain ⟨p,ns,rfl,hq,hne,q⟩:=h;obtain ⟨u,rfl,ru⟩:=mP r;cases (show u=ae.ref p from ru);obtain ⟨its,rv,pl,hz⟩:=I.tuple hq;have hi:=nu rv;obtain ⟨ys,hx⟩:=hi.allInts.items;have hl':s.heap.IsTuple p (ja ys):=hx ▸ pl;have e1:ns=ys.toList.map (·.1):=by
  rw [←nums_intItems,←hx];exact (show numsOf its.toArray.toList=ns from hi.numsOf).symm
 have hsz:0<ys.size:=by
  have:0<ns.length:=iT.mpr hne;rw [e1,aa,cj] at this;exact this
 refine min_tupI (I.ok.hd hc) hl' hsz fun v h' tk hv hk=>?_
 obtain ⟨t,rfl⟩:=intItems_at hv;obtain ⟨b1,b2⟩:=argBest_lt (numAt ys) (ys.size - 1);have m1:numAt ys (argBest (fun i j=>decide (numAt ys i<numAt ys j)) (ys.size - 1))∈ns:=by
  rw [e1,numAt_eq];exact getD_mem (by rw [aa,cj];lia)
 exact ⟨.int _,H,I.kept (t':=tk) hk,⟨t,rfl⟩,q _ m1⟩
end L2
namespace HN
open PySem L2 PyProof.Rows
abbrev sRgt6:cJ:=top 73
abbrev sLaw:cJ:=top 75
inductive spLawTs (Ts:List aq)(K:au)(vs:List V)(H:Hp)(Q:VK)(_:XK):Prop
 | mk (a:aq)(ns:List Int)(_:vs=[.ref a])(_:SqL K H a (ns.map V.int))(_:(∀ T∈Ts,H T=some (.tbl #[])))(_:∀ H',Q (.bl true) H')
inductive spRgt6 (vs:List V)(H:Hp)(Q:VK)(_:XK):Prop
 | mk (v:V)(u q:aq)(b m:Int)(sp:List Sn)(ts:List Int)(_:vs=[v,.ref u,.ref q])(_:IsD H v (jA b m sp))(_:jD b m sp)(_:b≤6)(_:m≤4)(_:H u=some (.tup (ts.map V.int)))(_:ts.length=m.toNat)(_:(∀ x∈ts,0≤x∧x<b))(_:((∃ u' t,NoneC H q b sp u' t)∨∃ fs l rg Ts Ys qs y,kE H q b m sp ts fs l rg Ts Ys qs y))(_:∀ H',bH H H'→Q (.bl true) H')
theorem NoneC.same {q:aq}{u:V}{t:Tq}(h:NoneC H q b sp u t)(S:bH H H'):NoneC H' q b sp u t:=⟨S _ _ h.q,h.tree.same S,h.pl,h.no,h.good⟩
theorem kE.same {q:aq}{m:Int}{fs:List Int}{rg:List (Nat×List Stp)}{y:AT}(h:kE H q b m sp ts fs l rg Ts Ys qs y)(S:bH H H'):kE H' q b m sp ts fs l rg Ts Ys qs y:=⟨S _ _ h.q,S _ _ h.qs,h.fst,S _ _ h.qy,h.ok,h.len,h.mv,h.lb,h.fr,h.hold⟩
theorem FR.hlt {m:Int}(N:jD b m sp)(F:i7 m.toNat sp l):∀ i∈l,i<sp.length:=(F.pots N.ends).nodup.2
theorem cases6 {m:Int}(N:jD b m sp)(b6:b≤6)(m4:m≤4):∀ l,i7 m.toNat sp l→kx sp l≤4096:=fun l F=>by
 have m1:=N.m1;have b1:=N.b1;have few:=F.few N.ends (by lia);have hl:=(FR.hlt N F);have:=(prodW_lim (sp:=sp) (L:=5) l fun i hi=>by
  have ok:=N.all _ (fc (hl i hi));have o1:=ok.lo;have o2:=ok.ob
  constructor
  ·show 0≤(sAt sp i).o - (sAt sp i).l;lia
  ·show (sAt sp i).o - (sAt sp i).l≤5;lia).2
 have hk:l.length≤3:=by lia
 have hl:l.length=0∨l.length=1∨l.length=2∨l.length=3:=by lia
 rcases hl with e | e | e | e <;> rw [e] at this <;> exact Int.le_trans this (by decide)
theorem scRgt6:bY ["_law_net","_law_table_here","_law_found","_law_tables_here","_law_word","_law_some","_law_other"] pzy (defScope sRgt6):=by trivial
theorem ok_rgt6 {f5:aq}{fd5:bp}(F0:Fun K "_law_right" "_law_right" sRgt6 f fd)(T:Nm mg)(T2:Nt mg)
  (G1:Fn K mg "_law_fitting" sFitg ["_law_net"] f1 fd1) (F1:cM P w K mg base CX0 3 f1 fd1 ["_law_net"] spFitg)
  (G2:Fn K mg "shown_by" sShown pzb f2 fd2) (F2:cM P w K mg base CX0 9 f2 fd2 pzb spShownD)
  (G3:Fn K mg "_law_due" sDue6 pzG f3 fd3) (F3:cM P w K mg base CX0 1 f3 fd3 pzG spDue6)
  (G4:Fn K mg "_law_is_table" sIsT6 pzw f4 fd4) (F4:cM P w K mg base CX0 1 f4 fd4 pzw spIsT6)
  (G5:Fn K mg "_law_all_kept" sAllK pzi f5 fd5) (F5:cM P w K mg base CX0 2 f5 fd5 pzi spAllK):cM P w K mg base CX0 10 f fd pzy spRgt6:=by
 refine F0.ok scRgt6 (by contradiction) (fun cdv A outer s H vs Q E hr h=>?_);obtain ⟨v,u,q,b,m,sp,ts,rfl,hv,N,b6,m4,hu,lt,hts,ans,k⟩:=h;have hr1:gN 1 _:=hr.mono (by decide);have hr2:gN 2 _:=hr.mono (by decide);have hr3:gN 3 _:=hr.mono (by decide);have hr9:gN 9 _:=hr;have b1:=N.b1;have m1:=N.m1;refine ⟨_,PSl.h (aY ⟨(psZ 3 scRgt6.nd (pc1 G1 F1 hr3 (af (pv 0) aD)))⟩
  (aY ⟨(fV (PW.pt (oX (jE (ia (lU T (pv 2)))) (l9 (cw op_lt (cp bV rfl T.len bF (af (pv 2) aD)) bD (cG _))))) (cy (cf l5)) cZ)⟩
  (aY ⟨(fV (cw (op_eqL0 hr.units0) (pv 3) (kT aD) (cG _)) (cy (cf (md (iG jJ (ixZ (pv 2)) jY (cG _)) (md (iG jJ (cp bV rfl T.len bF (af (pv 2) aD)) bD (cG _)) (qk (iG (op_eqD hr.units) (pc1 G2 F2 hr9 (af (pv 0) (af (ixZ (pv 2)) aD))) (cY (af jY aD)) (cG _))))))) cZ)⟩
  (aY ⟨(fV (PW.pt (oX (cw op_ne (ixZ (pv 2)) jY (cG _)) (oX (cw op_ne (cp bV rfl T.len bF (af (pv 2) aD)) bD (cG _)) (l9 (jE (ia (lU T (ixZ (pv 2))))))))) (cy (cf l5)) cZ)⟩
  (aY ⟨(og (pv 2) (pg_tup rfl (iZ (pgZ 4 scRgt6.nd) (iZ (pgZ 5 scRgt6.nd) (iZ (pgZ 6 scRgt6.nd) o8)))))⟩
  (aY ⟨(fV (cw (op_neD hr.units) (pv 5) (pc1 G3 F3 hr1 (af (pv 0) (af (pv 1) (af (pv 3) aD)))) (cG _)) (cy (cf l5)) cZ)⟩
  (aY ⟨(fV (PW.pt (oX (jE (ia (pc1 G4 F4 hr1 (af (pv 0) (af (pv 6) aD))))) (l9 (jE (ia (pc1 G5 F5 hr2 (af (pv 0) (af (pv 6) aD)))))))) (cy (cf l5)) cZ)⟩
  (cP ⟨(cf (md (iG (op_eqL0 hr.units0) (gW (fr:=["_law_other","_law_table_here"]) (js:=[6,1]) rfl (lI (pv 5)) (by trivial) rfl (by trivial) rfl (by exists sRgt6) (by trivial) rfl (by trivial) (fun _ _ _ _ _=>⟨(pv 0),(kQ (cw op_ne (eJ (r:=rIxT K) eD (pv 1) (pv 0) (fun _ _=>rfl)) (eJ (r:=rIxT K) eD (pv 2) (pv 0) (fun _ _=>rfl)) (cG _)))⟩)) (kT aD) (cG _)) (md (iG op_ge (cp (call_min1T rfl) rfl T.min boot_min (af (pv 6) aD)) bD (cG _)) (qk (iG op_lt (cp (call_max1T rfl) rfl T2.max boot_max (af (pv 6) aD)) (ixZ (pv 0)) (cG _))))))⟩)))))))),?_⟩
 refine ⟨_,rfl,v,b,m,sp,rfl,hv,N,b6,m4,fun L us F H1 S1 hL dF FL cF=>?_⟩;have lus:us.length=F.length:=by rw [dF.length];unfold cW;rw [aa]
 rcases ans with ⟨u',t,C⟩ | ⟨fs,l,rg,Ts,Ys,qs,y,A⟩
 ·have hq:=S1 _ _ C.q
  refine ⟨_,rfl,.ref q,"tuple",rfl,(by unfold tyn;dsimp only;rw [hq]),_,rfl,kd rfl ?_⟩;refine ⟨_,rfl,q,_,rfl,.inr (SqT.of hq),_,_,rfl,rfl,_,rfl,kd (by rfl) ?_⟩;have e:us=[]:=cK.mp (by
   rw [lus];refine cK.mpr (jH.mpr fun t ht=>?_);exact C.no t (FL.all t ht).1.2.2)
  subst e;refine ⟨_,rfl,bg _,fun l2 H2 S2 h2=>⟨L,l2,_,rfl,rfl,SqL.of (S2 _ _ hL),SqL.of h2,_,rfl,mO (by rfl) ?_⟩⟩;have C2:=C.same (S1.trans S2);refine ⟨_,rfl,q,_,_,_,rfl,rfl,SqT.of C2.q,aO (j:=0) rfl,rfl,_,rfl,mO (qN rfl) ?_⟩;refine ⟨_,rfl,q,_,rfl,.inr (SqT.of C2.q),rfl,_,rfl,mO (by rfl) ?_⟩;refine ⟨_,rfl,_,rfl,q,_,_,_,rfl,rfl,SqT.of C2.q,aO (j:=1) rfl,v,u',b,m,sp,t,rfl,hv.same (S1.trans S2),N,C2.tree,C.good.1,C.good.2,fun r H5 S5 dr=>⟨szZ1,fun q6 H6 S6 h6=>⟨[.str "none"],[.str "none"],dr.same S6,.tup h6 (.cons (.str _) .nil),by decide,by decide,by decide,?_⟩⟩⟩;exact k H6 (S1.trans (S2.trans (S5.trans S6)))
 ·have hq:=S1 _ _ A.q
  obtain ⟨ed,ag⟩:=A.due N lt hts FL;have tok:=A.tab N;have hF:F≠[]:=ko (FL.hold _ (zr_ok N A.lb tok).1 (zr_ok N A.lb tok).2);refine ⟨_,rfl,.ref q,"tuple",rfl,(by unfold tyn;dsimp only;rw [hq]),_,rfl,kd rfl ?_⟩;refine ⟨_,rfl,q,_,rfl,.inr (SqT.of hq),_,_,rfl,rfl,_,rfl,kd (by rfl) ?_⟩;have e:us.isEmpty=false:=by
   cases us with
   | nil=>exact qM (cK.mp lus.symm) hF
   | cons a r=>rfl
  refine ⟨_,rfl,bg _,fun l2 H2 S2 h2=>⟨L,l2,_,rfl,rfl,SqL.of (S2 _ _ hL),SqL.of h2,_,rfl,kd e ?_⟩⟩;have S02:=S1.trans S2;have A2:=A.same S02;refine ⟨_,rfl,q,_,_,_,rfl,rfl,SqT.of A2.q,aO (j:=0) rfl,rfl,_,rfl,kd (by rw [qN rfl];rfl) ?_⟩;refine ⟨_,rfl,q,_,rfl,.inr (SqT.of A2.q),rfl,_,rfl,kd (by rfl) ?_⟩;refine ⟨_,rfl,q,_,_,_,rfl,rfl,SqT.of A2.q,aO (j:=1) rfl,.ref qs,"tuple",rfl,(by unfold tyn;dsimp only;rw [A2.qs]),_,rfl,kd rfl ?_⟩;refine ⟨_,rfl,q,_,rfl,SqT.of A2.q,rfl,_,_,rfl,_,_,rfl,_,_,rfl,rfl,?_⟩;refine ⟨_,rfl,_,rfl,_,rfl,_,rfl,v,u,L,b,m,sp,ts,us,F,rfl,hv.same S02,by lia,by lia,by lia,S02 _ _ hu,lt,S2 _ _ hL,dF.same S2,(fun t ht=>(FL.all t ht).1.1),cF,fun qd H3 S3 h3=>?_⟩;have A3:=A2.same S3;have S03:=S02.trans S3;refine ⟨_,_,.tup A3.qs (dG.ints _),.tup h3 (dG.ints _),oz _,oz _,by rw [pM];decide,_,rfl,kd (by rw [eqDs_ints,qN ed];rfl) ?_⟩;refine ⟨_,rfl,_,rfl,v,y.1,b,m,sp,y.2,rfl,hv.same S03,A3.qy,by have:=tok.1;lia,by lia,fun H4 S4=>⟨_,rfl,kd rfl ?_⟩⟩;have A4:=A3.same S4;have S04:=S03.trans S4;refine ⟨_,rfl,_,rfl,v,y.1,b,m,sp,y.2,rfl,hv.same S04,A4.qy,N.rdy (by have:=tok.1;lia),fun H5 S5=>?_⟩;have A5:=A4.same S5;have S05:=S04.trans S5;rw [tok.2.2];refine ⟨_,rfl,kd rfl ?_⟩;refine ⟨_,rfl,qs,rfl,⟨_,SqT.of A5.qs⟩,?_⟩;have lS:(((aF m.toNat).foldl (stS ts) ([],Ys)).1.map V.int).length≤aZ:=by
   rw [aa,ed];exact aM (duS_sub m.toNat).2.2.1 (aM (by lia:m.toNat≤1000) (by decide))
  refine kf (K:=K) (a:=qs) (xs:=((aF m.toNat).foldl (stS ts) ([],Ys)).1.map V.int) (fun i zs H6=>H6=H5∧zs=[]) ⟨rfl,rfl⟩ (fun i zs H6 hi ⟨e1,e2⟩=>⟨by rw [e1];exact SqT.of A5.qs,by rw [e2];exact bg _⟩) lS (fun i x zs H6 hx ⟨e1,e2⟩=>?_) (fun zs H6 ⟨e1,e2⟩ D hD=>?_)
  ·subst e1
   obtain ⟨j,hj,rfl⟩:=bb.mp (aP hx);obtain ⟨j0,j1,je⟩:=ag j hj;refine ⟨_,rfl,_,rfl,y.1,_,_,_,rfl,rfl,SqT.of A5.qy,lE j0 (by have:=tok.1;lia),_,rfl,_,rfl,u,_,_,_,rfl,rfl,SqT.of (S05 _ _ hu),lE j0 (by lia),rfl,_,rfl,?_⟩;rw [je];exact kd (by rw [qN rfl];rfl) ⟨rfl,e2⟩
  ·subst e1 e2
   refine ⟨bg _,fun l7 H7 S7 h7=>⟨D,l7,_,rfl,rfl,SqL.of (S7 _ _ aQ),SqL.of h7,_,rfl,mO rfl ?_⟩⟩;have S57:bH H6 H7:=((bH.refl H6).put hD).trans S7;have hy:=S57 _ _ A5.qy;have ne:y.2≠[]:=fun z=>by have:=tok.1;rw [z,gQ] at this;lia
   refine ⟨_,rfl,y.1,y.2,rfl,SqT.of hy,ne,fun a ha=>⟨_,_,rfl,rfl,_,rfl,mO (qN (tok.2.1 a ha).1) ?_⟩⟩;obtain ⟨t,pn,ys,rfl,ht,_⟩:=fm ((hv.same S05).same S57);refine ⟨_,rfl,y.1,y.2,rfl,SqT.of hy,ne,fun c hc=>⟨_,rfl,t,_,_,_,rfl,rfl,SqT.of ht,aO (j:=0) rfl,_,_,rfl,rfl,?_⟩⟩;have kk:=k H7 (S05.trans S57);rw [←qN (tok.2.1 c hc).2] at kk;exact kk
theorem scLaw:bY ["_law_script","_law_k","_law_box_here","_law_net","_law_table_here"] ["_law_script"] (defScope sLaw):=by trivial
theorem ok_law {f5 f6 f7 TT:aq}{fd5 fd6 fd7:bp}(F:Fun K "law" "law" sLaw f fd)(T:Nm mg)(T2:Nt mg)
  (G1:Fn K mg "_law_box" sBox pzg f1 fd1) (F1:cM P w K mg base CX0 2 f1 fd1 pzg (spBox K))
  (G2:Fn K mg "_law_small" sSmall pzJ f2 fd2) (F2:cM P w K mg base CX0 2 f2 fd2 pzJ spSmallF)
  (G3:Fn K mg "_law_draw" sDraw pzh f3 fd3)
  (G4:Fn K mg "_law_crowded" sCrow pzf f4 fd4) (F4:cM P w K mg base CX0 2 f4 fd4 pzf spCrow)
  (G5:Fn K mg "_law_table" sTableB pzf f5 fd5) (F5:cM P w K mg base CX0 2 f5 fd5 pzf spTablF)
  (G6:Fn K mg "_law_right" sRgt6 pzy f6 fd6) (F6:cM P w K mg base CX0 10 f6 fd6 pzy spRgt6)
  (G7:Fn K mg "staying" sStay pzv f7 fd7) (F7:cM P w K mg base CX0 13 f7 fd7 pzv (spStay T0 p0 q0 T1 p1 q1 TT)):cM P w K mg base CX0 14 f fd ["_law_script"] (spLawTs [T0,T1,TT] K):=by
 have F3:cM P w K mg base CX0 1 f3 fd3 pzh spDraw:=ok_draw G3.F;refine F.ok scLaw (by contradiction) (fun cdv A outer s H vs Q E hr h=>?_);obtain ⟨a,ns,rfl,ha,hT,k⟩:=h;have hr1:gN 1 _:=hr.mono (by decide);have hr2:gN 2 _:=hr.mono (by decide);have hr10:gN 10 _:=hr.mono (by decide);refine ⟨_,PSl.h (aY ⟨(ib bE rfl (gH rfl T2.range (af (cp (call_max2 rfl) rfl T2.max boot_max (af bD (af (cp (call_min2 rfl) rfl T.min boot_min (af (cp bV rfl T.len bF (af (pv 0) aD)) (af bD aD))) aD))) aD)) (pgZ 1 scLaw.nd) (PSl.h (aY ⟨(psZ 2 scLaw.nd (pc1 G1 F1 hr2 (af (pv 0) (af (pv 1) aD))))⟩
  (aY ⟨(og (pc1 G2 F2 hr2 (af (pv 2) (af bD (af bD aD)))) (pg_tup rfl (iZ (pgZ 3 scLaw.nd) (iZ (pgZ 4 scLaw.nd) o8))))⟩
  (aY ⟨(mE (fV (PW.pt (pw_and (cw jJ (pv 1) bD (cG _)) (pw_and1 (cw jJ (pc1 G3 F3 hr1 (af (pv 2) (af bD aD))) bD (cG _))))) (cy (psZ 3 scLaw.nd (pc1 G4 F4 hr2 (af (pv 2) (af (pv 3) aD))))) cZ))⟩
  (aY ⟨(mE (fV (cw pU (pc1 G3 F3 hr1 (af (pv 2) (af bD aD))) bD (cG _)) (cy (psZ 4 scLaw.nd (pc1 G5 F5 hr2 (af (pv 2) (af (pv 3) aD))))) cZ))⟩
  (cP ⟨(fV (jE (ia (pc1 G6 F6 hr10 (af (pv 3) (af (pv 4) (af (pc1 G7 F7 hr (af (pv 3) (af (pv 4) aD))) aD)))))) (cy (cf l5)) cZ)⟩)))))))⟩
  (cP ⟨(cf l5)⟩)),?_⟩
 refine ⟨_,rfl,a,_,rfl,.inl ha,_,_,rfl,_,_,rfl,_,rfl,?_,?_,?_⟩
 ·rw [aa];split <;> split <;> lia
 ·rw [aa];split <;> split <;> lia
 have T00:L2.LamT T0 p0 q0 H:= .inl (hT T0 (by simp));have T10:L2.LamT T1 p1 q1 H:= .inl (hT T1 (by simp));have T20:L2.LamT TT lpT lqT H:= .inl (hT TT (by simp));refine j5 (fun i σ H5=>SqL K H5 a (ns.map V.int)∧L2.LamT T0 p0 q0 H5∧L2.LamT T1 p1 q1 H5∧L2.LamT TT lpT lqT H5∧∃ v1 v2 v3 v4,σ=[some (.ref a),v1,v2,v3,v4]) ⟨ha,T00,T10,T20,none,none,none,none,rfl⟩ ?_ ?_
 ·rintro i σ H5 hi ⟨ha5,t50,t51,t52,v1,v2,v3,v4,rfl⟩
  clear hi;refine ⟨_,rfl,_,rfl,a,ns,_,rfl,ha5,by lia,fun x6 y6 p hp6=>?_⟩;have P6:bH H5 (upd H5 p (.lst [.int x6,.int y6])):=bH.put (bH.refl H5) hp6;have P6':(upd H5 p (.lst [.int x6,.int y6])) p=some (.lst [.int x6,.int y6]):=aQ;generalize upd H5 p (.lst [.int x6,.int y6])=H6 at P6 P6' ⊢;refine ⟨_,rfl,p,x6,y6,6,4,rfl,P6',by decide,by decide,by decide,by decide,fun t v h b m sp hs H7 M7 h7 hv b1 b6 m2 m4 few ok hh hlh hin=>?_⟩;obtain ⟨x7,y7,hp7⟩:=M7.2;refine ⟨t,_,rfl,SqT.of h7,rfl,_,_,rfl,_,_,rfl,rfl,?_⟩;have N7:jD b m sp:=⟨b1,Int.le_trans b6 (by decide),by lia,by lia,by lia,ok⟩;refine ⟨fun σ' H'=>Mb p H6 H'∧H' h=some (.tup (hs.map V.int))∧∃ (v':V) (sp':List Sn),IsD H' v' (jA b m sp')∧jD b m sp'∧σ'=[some (.ref a),some (.int ((0:Int)+(i:Nat))),some (.ref p),some v',some (.ref h)],?_,?_⟩
  rotate_left
  ·refine ⟨_,rfl,rfl,_,rfl,?_⟩
   refine pS (fun _=>?_) (fun _=>⟨M7,hh,v,sp,hv,N7,rfl⟩);refine ⟨_,rfl,p,x7,y7,8,rfl,hp7,by decide,by decide,fun r8 H8 _ _ M8=>⟨rfl,_,rfl,?_⟩⟩;obtain ⟨x8,y8,hp8⟩:=M8.2;have hh8:=Mb.tupK hp7 M8 _ _ hh;have hv8:=netP_mb hv hp7 M8;refine pS (fun _=>?_) (fun _=>⟨M7.trans M8,hh8,v,sp,hv8,N7,rfl⟩);refine ⟨_,rfl,_,rfl,p,x8,y8,v,b,m,sp,rfl,hp8,hv8,N7,by lia,m2,fun v' sp' H9 M9 hv9 N9=>?_⟩;exact ⟨(M7.trans M8).trans M9,Mb.tupK hp8 M9 _ _ hh8,v',sp',hv9,N9,rfl⟩
  rintro σ' H8 ⟨M8,hh8,v',sp',hv8,N8,rfl⟩;obtain ⟨x8,y8,hp8⟩:=M8.2;refine ⟨fun σ' H'=>Mb p H6 H'∧IsD H' v' (jA b m sp')∧∃ (u:aq) (ts:List Int),H' u=some (.tup (ts.map V.int))∧(ts.length:Int)=m∧(∀ z∈ts,0≤z∧z<b)∧σ'=[some (.ref a),some (.int ((0:Int)+(i:Nat))),some (.ref p),some v',some (.ref u)],?_,?_⟩
  rotate_left
  ·refine ⟨_,rfl,p,x8,y8,3,rfl,hp8,by decide,by decide,fun r9 H9 _ _ M9=>⟨_,_,rfl,rfl,_,rfl,?_⟩⟩
   obtain ⟨x9,y9,hp9⟩:=M9.2;have hv9:=netP_mb hv8 hp8 M9;refine pS (fun _=>?_) (fun _=>⟨M8.trans M9,hv9,h,hs,Mb.tupK hp8 M9 _ _ hh8,hlh,hin,rfl⟩);exact ⟨_,rfl,_,rfl,p,x9,y9,v',b,m,sp',rfl,hp9,hv9,b1,by lia,by lia,by lia,fun q ts HA MA hA lA rA=>⟨(M8.trans M9).trans MA,netP_mb hv9 hp9 MA,q,ts,hA,lA,rA,rfl⟩⟩
  rintro σ' H9 ⟨M9,hv9,u,ts,hu9,lu,ru,rfl⟩;have S9:bH H5 H9:=bH.mb P6 hp6 M9;refine ⟨_,rfl,_,rfl,_,rfl,_,rfl,v',u,b,m,sp',ts,rfl,hv9,N8,cases6 N8 b6 m4,hu9,by lia,LamT.same S9 t50,LamT.same S9 t51,LamT.same S9 t52,fun q HA kpA stA ta0 ta1 ta2 ans=>?_⟩;have hvA:=cO kpA.tup hv9;have huA:=kpA.tup _ _ hu9;refine ⟨v',u,q,b,m,sp',ts,rfl,hvA,N8,b6,m4,huA,by lia,ru,ans,fun HB SB=>⟨_,rfl,kd rfl ?_⟩⟩;have haA:SqL K HA a (ns.map V.int):=kpA.seq (S9.seq ha5);exact ⟨SB.seq haA,LamT.same SB ta0,LamT.same SB ta1,LamT.same SB ta2,_,_,_,_,rfl⟩
 ·rintro σ H5 ⟨_,_,_,_,v1,v2,v3,v4,rfl⟩
  exact k H5
theorem args1 {P:List ae→Prop}(h:∀ x0,P [x0]):∀ us:List ae,us.length=1→P us:=by
 intro us hl;obtain _ | ⟨x0,us⟩:=us <;> try (cases hl;done)
 obtain _ | ⟨y,us⟩:=us
 ·exact h x0
 ·exact qM hl (by simp only [aN];lia)
theorem args2 {P:List ae→Prop}(h:∀ x0 x1,P [x0,x1]):∀ us:List ae,us.length=2→P us:=by
 intro us hl;obtain _ | ⟨x0,us⟩:=us <;> try (cases hl;done)
 obtain _ | ⟨x1,us⟩:=us <;> try (cases hl;done)
 obtain _ | ⟨y,us⟩:=us
 ·exact h x0 x1
 ·exact qM hl (by simp only [aN];lia)
theorem args3 {P:List ae→Prop}(h:∀ x0 x1 x2,P [x0,x1,x2]):∀ us:List ae,us.length=3→P us:=by
 intro us hl;obtain _ | ⟨x0,us⟩:=us <;> try (cases hl;done)
 obtain _ | ⟨x1,us⟩:=us <;> try (cases hl;done)
 obtain _ | ⟨x2,us⟩:=us <;> try (cases hl;done)
 obtain _ | ⟨y,us⟩:=us
 ·exact h x0 x1 x2
 ·exact qM hl (by simp only [aN];lia)
theorem args4 {P:List ae→Prop}(h:∀ x0 x1 x2 x3,P [x0,x1,x2,x3]):∀ us:List ae,us.length=4→P us:=by
 intro us hl;obtain _ | ⟨x0,us⟩:=us <;> try (cases hl;done)
 obtain _ | ⟨x1,us⟩:=us <;> try (cases hl;done)
 obtain _ | ⟨x2,us⟩:=us <;> try (cases hl;done)
 obtain _ | ⟨x3,us⟩:=us <;> try (cases hl;done)
 obtain _ | ⟨y,us⟩:=us
 ·exact h x0 x1 x2 x3
 ·exact qM hl (by simp only [aN];lia)
theorem Df.fn (a:Df K x st f)(X:K.In h)(G:h.Ns bQ mg)
  (hb:∀ (kV dc pm:ae) (an:Option aq) (cd ct:ae) (us:List ae),us.length=ps.length→bindArgs (dZ x x (jC st) (gh st) (defScope st) .none kV dc pm an cd ct) ⟨us,[]⟩=fU (ps.zip us):=by intro _ _ _ _ _ _;first  | exact args1 fun _=>rfl | exact args2 fun _ _=>rfl | exact args3 fun _ _ _=>rfl | exact args4 fun _ _ _ _=>rfl):∃ fd,Fn K mg x st ps f fd:=by
 obtain ⟨n,oc,od,an,sl,kV,dc,pm,cd,ct,l,c,k⟩:=a;have F:=pI (st:=st) l c k;exact ⟨_,F,iI X G n,F.binds hb⟩
theorem all_mk {l:PySem.W.OpenLaw}{fa:aq}(X:K.In h)(G:h.Ns bQ mg)(hfa:mg "law" =some (.ref fa))(Fc:Facts K)
  : ∃ fd:bp,(∀ (s:ax) (v:ae),BindsTo s fd ⟨[v],[]⟩ [("_law_script",v)])∧∀ base:bL,K.In base→base.Ns bQ mg→BM mg base→cM l.prog w K mg base CX0 14 fa fd ["_law_script"] (spLawTs [133,271,337] K):=by
 refine Fc _ ?_;intro f1 f2 f3 f4 f5 f6 f7 f8 f9 f10 f11 f12 f13 f14 f15 f16 f17 f18 f19 f20 f21 f22 f23 f24 f25 f26 f27 f28 f29 f30 f31 f32 f33 f34 f35 f36 f37 f38 f39 f40 f41 f42 f43 f44 f45 f46 f47 f48 f49 f50 f51 f52 f53 f54 f55 f56 t1 t2 xC xi xs xt odI anI odS anS odT anT slI slS slT ocI kVI dcI pmI ctI ocS kVS dcS pmS cdS ctS ocT kVT dcT pmT cdT ctT a1 a2 a3 a4 a5 a6 a7 a8 a9 a10 a11 a12 a13 a14 a15 a16 a17 a18 a19 a20 a21 a22 a23 a24 a25 a26 a27 a28 a29 a30 a31 a32 a33 a34 a35 a36 a37 a38 a39 a40 a41 a42 a43 a44 a45 a46 a47 a48 a49 a50 a51 a52 a53 a54 a55 a56 y1 y2 z1 z2 z3 z4 z5 z6 z7 z8 z9 z10 z11 z12 z13 z14 z15 z16 z17 w1 w2 w3 w4 w5 w6 w7 w8 w9 w10 w11 w12 w13 w14 w15 w16 w17 w18 w19 w20 w21 w22 w23 w24 w25 wc0 wh0 wh1 wc2 wh2;have e:=hfa.symm.trans (iI X G a56.n);cases e;obtain ⟨fd1,G1⟩:=a1.fn X G (ps:=pzd);obtain ⟨fd2,G2⟩:=a2.fn X G (ps:=pzc);obtain ⟨fd3,G3⟩:=a3.fn X G (ps:=pzc);obtain ⟨fd4,G4⟩:=a4.fn X G (ps:=pza);obtain ⟨fd5,G5⟩:=a5.fn X G (ps:=pzE);obtain ⟨fd6,G6⟩:=a6.fn X G (ps:=pze);obtain ⟨fd7,G7⟩:=a7.fn X G (ps:=pze);obtain ⟨_,oc,od,an,sl,kV,dc,pm,cd,ct,l8,c8,k8⟩:=id a8;obtain ⟨_,_,_,_,_,_,_,_,z⟩:=wc0;have z:=l8.symm.trans z;have wc0:cd=ae.ref 137:=by injection z with z;injection z with _ _ z _;injection z with z;injection z
 have F8:=pI (st:=sSpW) l8 c8 k8;have b8:=F8.binds (ps:=pza) fun _ _ _ _ _ _=>args1 fun _=>rfl
 have G8:Fn K mg "spans_by_width" sSpW pza f8 _:=⟨F8,iI X G a8.n,b8⟩;obtain ⟨fd9,G9⟩:=a9.fn X G (ps:=pza);obtain ⟨fd10,G10⟩:=a10.fn X G (ps:=pzk);obtain ⟨fd11,G11⟩:=a11.fn X G (ps:=pzB);obtain ⟨fd12,G12⟩:=a12.fn X G (ps:=pzd);obtain ⟨fd13,G13⟩:=a13.fn X G (ps:=pza);obtain ⟨fd14,G14⟩:=a14.fn X G (ps:=pza);obtain ⟨fd15,G15⟩:=a15.fn X G (ps:=pza);obtain ⟨fd16,G16⟩:=a16.fn X G (ps:=pzj);obtain ⟨fd17,G17⟩:=a17.fn X G (ps:=pzm);obtain ⟨fd18,G18⟩:=a18.fn X G (ps:=pzt);obtain ⟨fd19,G19⟩:=a19.fn X G (ps:=pzr);obtain ⟨fd20,G20⟩:=a20.fn X G (ps:=pzl);obtain ⟨fd21,G21⟩:=a21.fn X G (ps:=pzC);obtain ⟨fd22,G22⟩:=a22.fn X G (ps:=pzn);obtain ⟨fd23,G23⟩:=a23.fn X G (ps:=["marks"]);obtain ⟨fd24,G24⟩:=a24.fn X G (ps:=pzu);obtain ⟨_,oc,od,an,sl,kV,dc,pm,cd,ct,l25,c25,k25⟩:=id a25;obtain ⟨_,_,_,_,_,_,_,_,z⟩:=wc2;have z:=l25.symm.trans z;have wc2:cd=ae.ref 341:=by injection z with z;injection z with _ _ z _;injection z with z;injection z
 have F25:=pI (st:=jX) l25 c25 k25;have b25:=F25.binds (ps:=pza) fun _ _ _ _ _ _=>args1 fun _=>rfl
 have G25:Fn K mg "table_for" jX pza f25 _:=⟨F25,iI X G a25.n,b25⟩;obtain ⟨fd26,G26⟩:=a26.fn X G (ps:=["thing"]);obtain ⟨fd27,G27⟩:=a27.fn X G (ps:=pzo);obtain ⟨fd28,G28⟩:=a28.fn X G (ps:=pzb);obtain ⟨fd29,G29⟩:=a29.fn X G (ps:=pzb);obtain ⟨fd30,G30⟩:=a30.fn X G (ps:=pzb);obtain ⟨fd31,G31⟩:=a31.fn X G (ps:=pzp);obtain ⟨fd32,G32⟩:=a32.fn X G (ps:=pzH);obtain ⟨fd33,G33⟩:=a33.fn X G (ps:=pzb);obtain ⟨fd34,G34⟩:=a34.fn X G (ps:=pzI);obtain ⟨fd35,G35⟩:=a35.fn X G (ps:=pzb);obtain ⟨fd36,G36⟩:=a36.fn X G (ps:=pzx);obtain ⟨fd37,G37⟩:=a37.fn X G (ps:=pzb);obtain ⟨fd38,G38⟩:=a38.fn X G (ps:=pza);obtain ⟨fd39,G39⟩:=a39.fn X G (ps:=pzq);obtain ⟨fd40,G40⟩:=a40.fn X G (ps:=pzs);obtain ⟨fd41,G41⟩:=a41.fn X G (ps:=pzD);obtain ⟨fd42,G42⟩:=a42.fn X G (ps:=pzv);obtain ⟨fd43,G43⟩:=a43.fn X G (ps:=pzg);obtain ⟨fd44,G44⟩:=a44.fn X G (ps:=pzg);obtain ⟨fd45,G45⟩:=a45.fn X G (ps:=pzh);obtain ⟨fd46,G46⟩:=a46.fn X G (ps:=pzJ);obtain ⟨fd47,G47⟩:=a47.fn X G (ps:=pzA);obtain ⟨fd48,G48⟩:=a48.fn X G (ps:=pzi);obtain ⟨fd49,G49⟩:=a49.fn X G (ps:=pzz);obtain ⟨fd50,G50⟩:=a50.fn X G (ps:=pzf);obtain ⟨fd51,G51⟩:=a51.fn X G (ps:=["_law_net"]);obtain ⟨fd52,G52⟩:=a52.fn X G (ps:=pzw);obtain ⟨fd53,G53⟩:=a53.fn X G (ps:=pzG);obtain ⟨fd54,G54⟩:=a54.fn X G (ps:=pzy);obtain ⟨fd55,G55⟩:=a55.fn X G (ps:=pzf);obtain ⟨_,oc,od,an,sl,kV,dc,pm,cd,ct,l56,c56,k56⟩:=a56;have F56:=pI (st:=sLaw) l56 c56 k56;have m1:=bZ X G z1;have m2:=bZ X G z2;have m3:=bZ X G z3;have m4:=bZ X G z4;have m5:=bZ X G z5;have m6:=bZ X G z6;have m7:=bZ X G z7;have m8:=bZ X G z8;have m9:=bZ X G z9;have m10:=bZ X G z10;have m11:=bZ X G z11;have m12:=bZ X G z12;have m13:=bZ X G z13;have m14:=bZ X G z14;have m15:=bZ X G z15;have m16:=bZ X G z16;have m17:=bZ X G z17;have i1:=iI X G y1;have i2:=iI X G y2;refine ⟨dZ "law" "law" (jC sLaw) (gh sLaw) (defScope sLaw) .none kV dc pm an cd ct,fun s v=> .of_eq rfl,fun base _ _ hB=>?_⟩;have T:Nm mg:=⟨m1,m2,m3,m4,m5,m6,m7⟩;have T2:Nt mg:=⟨m8,m9,m10,m11,m12,m13⟩;have T3:N3 mg:=⟨m14⟩;have SW:cM l.prog w K mg base CX0 5 f8 _ pza (spSpW 133 lpW lqW):=ok_spW F8 wc0 wh0 hB T T2 m15 G1;have FO:cM l.prog w K mg base CX0 6 f9 _ pza (kL 133 lpW lqW):=ok_forest G9.F T T2 m15 G8 SW;have ST:cM l.prog w K mg base CX0 2 f10 _ pzk spSteps:=ok_steps G10.F G2;have RB:cM l.prog w K mg base CX0 7 f12 _ pzd (spRingBy 133 lpW lqW):=ok_ringBy G12.F G11 (ok_wayBt G11.F G10 ST G3) G9 FO;have RO:cM l.prog w K mg base CX0 8 f14 _ pza (spRingsO 133 lpW lqW):=ok_ringsO G14.F T T2 G9 FO G12 RB;have CC:CutC K xC:=⟨⟨w2,w3,w4,w5⟩,w6,w7,w8⟩;have CI:=pI (st:=qf) w13 w14 w15;have CS:=pI (st:=sSpanC) w19 w20 w18;have CT:=pI (st:=sSidesC) w24 w25 w23;have CK:CutK l.prog w K mg base 133 lpW lqW 271 lpC lqC xC xi xs xt _ _ _:=⟨CC,⟨w9,w10,w11,w12⟩,iI X G w1,ok_initC CI rfl wh1 hB (by decide) T T2 m15 CC G14 RO G18 G4 G9 FO,CI.binds (ps:=["self","net"]) fun _ _ _ _ _ _=>args2 fun _ _=>rfl,⟨w16,w17,w18⟩,ok_spanC CS CC,CS.binds (ps:=["self","case"]) fun _ _ _ _ _ _=>args2 fun _ _=>rfl,⟨w21,w22,w23⟩,ok_sidesC CT CC G17,CT.binds (ps:=pzF) fun _ _ _ _ _ _=>args4 fun _ _ _ _=>rfl⟩;have BO:cM l.prog w K mg base CX0 2 f6 _ pze spBeats:=ok_beats G6.F G5;have DL:cM l.prog w K mg base CX0 4 f20 _ pzl spDeadL:=ok_deadL G20.F G7 (ok_dead G7.F G6 BO);have TF:cM l.prog w K mg base CX0 11 f22 _ pzn (spTabF 133 lpW lqW 271 lpC lqC):=ok_tabF G22.F T (by decide) CK G15 (ok_spread G15.F T T2 G9 FO G10 ST G3) G20 DL G21 (ok_tabBy G21.F T G3 G2 G16) G19;have TY:cM l.prog w K mg base CX0 11 f24 _ pzu (spTreeBy l.prog w K mg base 133 lpW lqW 271 lpC lqC):=ok_treeBy G24.F T CK G19 G23 (ok_treeF G23.F m16);have TN:cM l.prog w K mg base CX0 12 f25 _ pza (oO 133 lpW lqW 271 lpC lqC 337):=ok_tabForN F25 wc2 wh2 hB T ⟨_,i1⟩ (by decide) (by decide) (by decide) G13 (ok_cases G13.F G9 FO G1) G22 TF G24 TY G20 DL;have W:cM l.prog w K mg base CX0 4 f29 _ pzb spRgT:=ok_wyT G29.F T T2 G28 (ok_stT G28.F T G27 G26) G2 G3;have R:cM l.prog w K mg base CX0 5 f30 _ pzb spRgT:=ok_rgT G30.F T T3 G29 W G2 G3;have LI:cM l.prog w K mg base CX0 8 f35 _ pzb oP:=ok_leavesIn G35.F T ⟨_,i2⟩ G4 (ok_first G4.F T) G32 (ok_ctT G32.F T m17 G31 G27 G26) G34 (ok_sides G34.F G17) G33 (ok_lfT G33.F T m17 G31 G30 R);have SH:cM l.prog w K mg base CX0 9 f37 _ pzb spShownD:=ok_shownD G37.F T G35 LI G36 (ok_isRightD G36.F G7 (ok_dead G7.F G6 BO));have SB:cM l.prog w K mg base CX0 2 f39 _ pzq spShifts:=ok_shifts G39.F T2 G16;have MP:cM l.prog w K mg base CX0 2 f40 _ pzs spMvP:=ok_mvP G40.F T T2 G16;have PA:cM l.prog w K mg base CX0 8 f38 _ pza (spParts 133 lpW lqW):=ok_parts G38.F T T2 G15 (ok_spread G15.F T T2 G9 FO G10 ST G3) G3 G2;have SY:cM l.prog w K mg base CX0 13 f42 _ pzv (spStay 133 lpW lqW 271 lpC lqC 337):=ok_stay G42.F T T2 ⟨_,i1⟩ (by decide) (by decide) (by decide) G25 TN G38 PA G41 (ok_heldF G41.F G39 SB G40 MP) G22 TF;have AK:cM l.prog w K mg base CX0 2 f48 _ pzi spAllK:=ok_allK G48.F G47;have RG:cM l.prog w K mg base CX0 10 f54 _ pzy spRgt6:=ok_rgt6 G54.F T T2 G51 (ok_fitg G51.F G49 (ok_tables G49.F T2) G48 AK) G37 SH G53 (ok_due6 G53.F T2) G52 (ok_isT6 G52.F T) G48 AK;exact ok_law F56 T T2 G44 (ok_box G44.F T T2 G43) G46 (ok_small G46.F T T2 G45) G45 G55 (ok_crow G55.F T T2 G45) G50 (ok_tableB G50.F T T2 G45) G54 RG G42 SY
theorem walk {l:PySem.W.OpenLaw}{q:aW}{d:DefRec}{K:Params→au}(hn:l.most=some 63)(hdf:d.params.defaults=[])
  (hY:∀ (w:bx) (h:bL),YP w h→(K w.params).In h∧∀ T∈([133,271,337]:List aq),h.get? T=some (PySem.W.tabObj #[])) (hC:∀ w:bx,∀ T∈([133,271,337]:List aq),∃ c,fI (K w.params) c T=true) (hN:∀ w:bx,PySem.W.noTabs (K w.params)=true)
  (F:∀ (w:bx) (mg:Str→Option ae) (fa:aq) (h:bL),(K w.params).In h→h.Ns bQ mg→mg d.name=some (.ref fa) →
   ∃ fd:bp,(∀ (s:ax) (u:ae),BindsTo s fd ⟨[u],[]⟩ [("_law_script",u)])∧∀ base:bL,(K w.params).In base→base.Ns bQ mg→BM mg base→cM l.prog w (K w.params) mg base CX0 14 fa fd ["_law_script"] (spLawTs [133,271,337] (K w.params))) :
  PySem.W.WalkO q loose XP YP l.row.toRowW d [] (fun f vs=>PySem.call f vs) :=
 L2.walk_ofTs (n:=63) (k:=14) (x := "_law_script") (Ts:=[133,271,337]) (CX:=fun _=>CX0) (sp:=fun w=>spLawTs [133,271,337] (K w.params)) hn (by decide) hdf ⟨rfl,by decide,by decide⟩ hY hC hN F (fun _ _ a ns hl hT hS=>⟨a,ns,rfl,hS,hT,fun _=>rfl⟩) fun _ _ _ _ _ z=>z
end HN
set_option maxHeartbeats 0 in
theorem PySem.Challenge.cw_hourtable_k64_happenings_that_stay_holds : PySem.Challenge.rw_hourtable_k64_happenings_that_stay.Holds := by
 refine HN.head0 ?_ HN.leftA;intro q loose XP YP d K hdf hd h0 h1 h2 Fc;exact HN.walk (l:=fe) rfl hdf h0 h1 h2 fun w mg fa h KX G hmg=>HN.all_mk KX G (by rw [hd] at hmg;exact hmg) (Fc w)
