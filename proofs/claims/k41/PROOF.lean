import PyProof.Rows.All
import KE.KIsAll
import OpenK.KMore
import KE.LcSums
import KE.KBools
import KE.KxBytes
import Lean
import PyProof.EqAt
import PyProof.EqKinds
import PyProof.TupleCall
import KE.KEqSeq
import PyProof.NeKinds
import PyProof.FitsBits
import PyProof.Rows.SumAny
import PyProof.Rows.SetFrom
import PyProof.SetRoads
import PyProof.ListRange
import KE.KSortTup
import KE.KSortKey
import KE.KLam
import KE.KNestM
import PyProof.Rows.MinMaxN
import KE.KRevIter
import PyProof.MaxThree
import PyProof.AutoSeq1
import PyProof.FactsAll.list_3
import Wide.FinOn
import Wide.All
import PySem.Challenge.RW_hourtable_k41_a_ring_that_is_dead
set_option Elab.async false
set_option linter.all false
set_option maxRecDepth 100000
set_option bootstrap.genMatcherCode false
open List renaming length_map → aa, getD_eq_getElem?_getD → ai, length_append → aq, getElem?_eq_some_iff → av, mem_singleton → aw, mem_cons_of_mem → ax, getElem?_map → ay, map_append → aA, size_toArray → aB, mem_append_left → aE, mem_append_right → aG, mem_cons → aL, mem_append → aM, range → aP, length_cons → aV, mem_map → bh, length_range → bo, mem_of_getElem? → bp, take_length → bq, take_add_one → bt, nodup_cons → bB, mem_cons_self → bF, length_take → bH, replicate → bO, mem_range → bP, foldl_cons → bQ, getElem_mem → bR, getElem?_append_right → bS, map_cons → bV, nodup_iff_pairwise_ne → cb, mem_filter → cN, not_mem_nil → dg, lookup_cons → dh, length_drop → dm, map_map → dv, getElem?_set_ne → dU, getElem?_set_self → dY, lookup → eJ, foldl_append → eP, length_reverse → eQ, pairwise_map → fm, any_eq_false → fq, length_set → fu, append_nil → fv, getElem?_append_left → fT, reverse_cons → fW, dropLast_concat → fX, getElem?_range → gi, find?_cons → gI, length_singleton → gO, length_replicate → gP, nodup_append → gS, nodup_range → ib, getElem_map → ic, replicate_succ → ir, map_congr_left → iu, sum_append → iG, getElem_range → iH, toArray → iQ, eraseIdx_eq_take_drop_succ → iY, take_append_drop → i6, length_filter_le → i7, map_take → jh, map_drop → ji, any_cons → jj, mem_of_mem_take → jo, toList_toArray → jE, filterMap_cons → jF, length_eq_zero_iff → ky, set_eq_take_append_cons_drop → mP
open PySem renaming Value → ae, wpAny_bind → ah, Addr → ao, Shared → ar, wpAny_pure → aJ, Program → aW, wpAny → aX, sizeLine → bc, model → br, FuncData → bu, World → bz, starEach → bC, Heap → bE, boot_len → bG, mainGlobals → bK, Around → bU, Str → cg, mem_of_lookup → cj, wpAny_mono → cy, NameKind → cL, wpAny_field → cR, Stmt → cV, wpAny_newObj_type → cX, wpAny_callSpecial?_slot → dW, eval → eZ, wpAny_Call_Name_kw → fg, wpAny_holding → fj, compareOp → fE, Builtin → fM, sizeLine_eq → fN, wpAny_call_entry → fP, Scope → fV, wpAny_truthy_bool → gf, Spec → gv, binaryOp → gC, backTo → gF, Arguments → gH, wpAny_passesOwn → gZ, foldedSetIterable → ia, wpAny_seqItems → iw, getItem → iN, wpAny_setField_rec → iR, sysModules → iS, Paired → jf, sliceBounds → jJ, lookup_relabel_local → jL
open PySem.W renaming Frag → ak, mg_none_of → b9, findIn → cz, nsIn → cM, kia_one → eu, fnOf → eC, keepIn → eN, emptyDict → eO, codeHdIn → fB, instObj → fO, codeIn → gR, less → ix, plainGet → iU, mg_of → iX, callWith_K → jD
open PySem.Heap renaming get?_push_of_some → au, lt_size → aN, get?_push_size → bg, SameBut → dZ, get?_update_ne → gj, size_push → gm
open Nat renaming le_refl → aC, lt_of_lt_of_le → aU, le_trans → bj, zero_le → bI, ne_of_lt → bM, lt_of_le_of_lt → cf, ne_of_gt → eE, lt_irrefl → fG, mul_assoc → gc, lt_succ_of_lt → gX, le_of_lt → ik, lt_succ_iff_lt_or_eq → iF, lt_of_le_of_ne → iJ, mul_comm → iV, lt_succ_self → jg, le_succ → jy
open PySem.F renaming plainAttrs_list → aZ, type_list_append → bY, slot_list_append → bZ, type_list_pop → eR, slot_list_pop → eS, slot_list_insert → ij, slot_tuple_iterator_next → ip, type_list_insert → jX, args_tuple_add_2 → jY, entry_tuple_add → kl
open Bool renaming false_ne_true → bb, and_eq_true → dt, not_eq_true' → ft, eq_false_iff → gU
open Option renaming map_eq_some_iff → bx, map_some → fR
open PyProof.Rows renaming slot_tuple_getitem → bD, seqObj → bJ, callWith_type1 → fe, get?_update_seq → iP, slicePart_none → ja, boot_tuple → jC, entry_tuple_getitem → j4, args_tuple_getitem → ku
open PySem.PassesOwn renaming never → bL
open Ne renaming symm → cp
open Option.some renaming inj → cq
open Int renaming eq_ofNat_of_zero_le → cx, emod_lt_of_pos → cE, emod_nonneg → cP, toNat_natCast → dA, zero_mul → fZ, toNat_of_nonneg → gk, mul_le_mul_of_nonneg_left → gz, le_refl → gB, zero_add → gG, mul_ediv_add_emod → gT, mul_zero → il, emod_eq_of_lt → iW, mul_add → jz, add_mul_emod_self_left → jZ
open PySem.Builtin.Slice renaming slicePlaces → cB, sliceApplied → eG, sliceFields → jk, sliceAdjust → jn
open Array renaming length_toList → cJ, getElem?_eq_getElem → d7, getElem?_toList → gN
open False renaming elim → cQ
open PySem.Builtin.SmallTypes renaming nextOf → cS, ownedTupleIsFree → j3
open PySem.Obj renaming mapSeq → cT
open PySem.Builtin.Tuple renaming tupleExact → cW, tupleItemsOf → gw
open PySem.Builtin.Range renaming rangeSize → d9, small → gM
open PySem.Str renaming ofString → eD
open PySem.Challenge renaming rw_hourtable_k41_a_ring_that_is_dead → e8
open Classical renaming byContradiction → fI
open Pure renaming pure → fQ
open PySem.Heap.SameBut renaming update → fS
open PySem.Builtin.List renaming listTooLong → gY
noncomputable section
abbrev pe:=@if_neg
abbrev pf:=@if_pos
abbrev pj:=@absurd
abbrev pA:=@decide_eq_true
abbrev pB:=@decide_eq_false
abbrev pE:=@of_decide_eq_true
abbrev pG:=@congrArg
set_option maxHeartbeats 4000000
theorem gE {α:Type}{l:List α}{i:Nat}(h:i<l.length):l[i]? =some l[i]:=List.getElem?_eq_getElem h
namespace L2
open PySem PySem.Spec PyProof.Rows
def i4 (s:cV):gH:=match s with
 | .FunctionDef _ a _ _ _ _ _ _ _ _=>a
 | _=>{ posonlyargs:=[],args:=[],vararg:=none,kwonlyargs:=[],kw_defaults:=[],kwarg:=none,defaults:=[] }
def fY (s:cV):List cV:=match s with
 | .FunctionDef _ _ b _ _ _ _ _ _ _=>b
 | _=>[]
def defScope (s:cV):fV:=match s with
 | .FunctionDef _ _ _ _ _ _ sc _ _ _=>sc
 | _=>{ kind:= .function,names:=[],isGenerator:=false,isCoroutine:=false }
end L2
namespace HN
open PySem L2 PyProof.Rows
def top (i:Nat):cV:=PySem.Challenge.pw_hourtable_k41_a_ring_that_is_dead.main.body.getD i (.Pass ⟨0,0,0,0⟩)
def clsOf (s:cV)(i:Nat):cV:=match s with
 | .ClassDef _ _ _ body _ _ _ _ _ _ _=>body.getD i (.Pass ⟨0,0,0,0⟩)
 | s=>s
structure Df (K:ak)(x:Str)(st:cV)(f:ao):Prop where
 n:cM K bK x=some (some (.ref f))
 l:∃ (oc:ae) (od an:Option ao) (sl:Array (Option ae)) (kV dc pm cd ct:ae),K.lookup f=some ⟨oc,od,.func (eC x x (i4 st) (fY st) (defScope st) .none kV dc pm an cd ct),sl⟩∧gR K cd x=true∧eN K (.ref f)=true
def Facts (K:ak):Prop:=∀ C:Prop,(∀ {f1 f2 f3 f4 f5 f6 f7 f8 f9 f10 f11 f12 f13 f14 f15 f16 f17 f18 f19 f20 f21 f22 f23 f24 f25 f26 f27 f28 f29 f30 f31 f32 f33 f34 f35 f36 f37 f38 f39 f40 f41 f42 f43 f44:ao} {t1:Tok} {xC xi xs xt:ao} {odI anI odS anS odT anT:Option ao} {slI slS slT:Array (Option ae)} {ocI kVI dcI pmI ctI ocS kVS dcS pmS cdS ctS ocT kVT dcT pmT cdT ctT:ae},(Df K "width_of" (top 4) f1) →
 (Df K "leads_from" (top 6) f2) →
 (Df K "leads_to" (top 7) f3) →
 (Df K "first_bounds" (top 8) f4) →
 (Df K "sum_of" (top 9) f5) →
 (Df K "beats_of" (top 10) f6) →
 (Df K "is_dead" (top 11) f7) →
 (Df K "spans_by_width" (top 13) f8) →
 (Df K "forest_of" (top 14) f9) →
 (Df K "steps_from" (top 15) f10) →
 (Df K "way_between" (top 16) f11) →
 (Df K "ring_by" (top 17) f12) →
 (Df K "cases_of" (top 18) f13) →
 (Df K "rings_of" (top 19) f14) →
 (Df K "spread_of" (top 20) f15) →
 (Df K "rest_by" (top 22) f16) →
 (Df K "with_bound" (top 24) f17) →
 (Df K "rings_over" (top 27) f18) →
 (Df K "middle_of" (top 29) f19) →
 (Df K "dead_leaf" (top 30) f20) →
 (Df K "table_by" (top 31) f21) →
 (Df K "tables_that_fit" (top 32) f22) →
 (Df K "tree_from" (top 33) f23) →
 (Df K "tree_by" (top 34) f24) →
 (Df K "table_for" (top 35) f25) →
 (Df K "_law_cell_at" (top 37) f26) →
 (Df K "_law_mixed" (top 38) f27) →
 (Df K "_law_pot" (top 39) f28) →
 (Df K "_law_take" (top 40) f29) →
 (Df K "_law_span" (top 41) f30) →
 (Df K "_law_tied" (top 42) f31) →
 (Df K "_law_more" (top 43) f32) →
 (Df K "_law_net" (top 44) f33) →
 (Df K "_law_waits" (top 45) f34) →
 (Df K "_law_fits" (top 46) f35) →
 (Df K "_law_is_whole" (top 49) f36) →
 (Df K "_law_led" (top 50) f37) →
 (Df K "_law_beats" (top 51) f38) →
 (Df K "_law_leaf" (top 53) f39) →
 (Df K "_law_walked" (top 54) f40) →
 (Df K "_law_shown" (top 55) f41) →
 (Df K "_law_ring_spans" (top 56) f42) →
 (Df K "_law_dead" (top 57) f43) →
 (Df K "law" (top 58) f44) →
 (cM K bK "MOST_CASES" =some (some (.int 4096 t1))) →
 (cM K bK "isinstance" =some none) →
 (cM K bK "int" =some none) →
 (cM K bK "bool" =some none) →
 (cM K bK "tuple" =some none) →
 (cM K bK "len" =some none) →
 (cM K bK "min" =some none) →
 (cM K bK "all" =some none) →
 (cM K bK "range" =some none) →
 (cM K bK "enumerate" =some none) →
 (cM K bK "zip" =some none) →
 (cM K bK "sum" =some none) →
 (cM K bK "list" =some none) →
 (cM K bK "max" =some none) →
 (cM K bK "set" =some none) →
 (cM K bK "sorted" =some none) →
 (cM K bK "reversed" =some none) →
 (cM K bK "Cuts" =some (some (.ref xC))) →
 (iU K xC Str.empty=true) →
 (PySem.W.hasDictIn K xC=true) →
 (PySem.W.plainOver K xC=true) →
 (cz K (.ref xC) "__setattr__" =some (some (.builtin "object.__setattr__"))) →
 (cz K (.ref xC) "first_case" =some none) →
 (cz K (.ref xC) "touched" =some none) →
 (cz K (.ref xC) "order" =some none) →
 (PySem.W.makesIn K xC=true) →
 (cz K (.ref xC) "__init__" =some (some (.ref xi))) →
 (PySem.W.isFn K (.ref xi)=true) →
 (eN K (.ref xC)=true) →
 (K.lookup xi=some ⟨ocI,odI,.func (eC "__init__" "Cuts.__init__" (i4 (clsOf (top 28) 0)) (fY (clsOf (top 28) 0)) (defScope (clsOf (top 28) 0)) .none kVI dcI pmI anI (.ref 173) ctI),slI⟩) →
 (gR K (.ref 173) "Cuts.__init__" =true) →
 (eN K (.ref xi)=true) →
 (cz K (.ref xC) "span_to_cut" =some (some (.ref xs))) →
 (PySem.W.isFn K (.ref xs)=true) →
 (eN K (.ref xs)=true) →
 (K.lookup xs=some ⟨ocS,odS,.func (eC "span_to_cut" "Cuts.span_to_cut" (i4 (clsOf (top 28) 1)) (fY (clsOf (top 28) 1)) (defScope (clsOf (top 28) 1)) .none kVS dcS pmS anS cdS ctS),slS⟩) →
 (gR K cdS "Cuts.span_to_cut" =true) →
 (cz K (.ref xC) "sides" =some (some (.ref xt))) →
 (PySem.W.isFn K (.ref xt)=true) →
 (eN K (.ref xt)=true) →
 (K.lookup xt=some ⟨ocT,odT,.func (eC "sides" "Cuts.sides" (i4 (clsOf (top 28) 2)) (fY (clsOf (top 28) 2)) (defScope (clsOf (top 28) 2)) .none kVT dcT pmT anT cdT ctT),slT⟩) →
 (gR K cdT "Cuts.sides" =true) →
 (∃ (oc:ae) (od an:Option ao) (sl:Array (Option ae)) (kV dc pm ct:ae),K.lookup f8=some ⟨oc,od,.func (eC "spans_by_width" "spans_by_width" (i4 (top 13)) (fY (top 13)) (defScope (top 13)) .none kV dc pm an (.ref 99) ct),sl⟩) →
 (fB K 99 95=true) →
 (fB K 173 171=true) →
 (∃ (oc:ae) (od an:Option ao) (sl:Array (Option ae)) (kV dc pm ct:ae),K.lookup f25=some ⟨oc,od,.func (eC "table_for" "table_for" (i4 (top 35)) (fY (top 35)) (defScope (top 35)) .none kV dc pm an (.ref 241) ct),sl⟩) →
 (fB K 241 237=true)→C)→C
def Wp:Prop:=∀ {q:aW} {loose:List Str} {XP:(Str→Option ae)→bE→Prop} {YP:bz→bE→Prop} {d:DefRec} {K:Params→ak},d.params.defaults=[]→d.name = "law" →(∀ (w:bz) (h:bE),YP w h→(K w.params).In h∧∀ T∈([95,171,237]:List ao),h.get? T=some (PySem.W.tabObj #[]))→(∀ w:bz,∀ T∈([95,171,237]:List ao),∃ c,fB (K w.params) c T=true)→(∀ w:bz,PySem.W.noTabs (K w.params)=true)→(∀ w:bz,Facts (K w.params))→PySem.W.WalkO q loose XP YP (e8).row.toRowW d [] (fun f vs=>PySem.call f vs)
end HN
section
open PySem PySem.W PyProof.Rows
def HN.seenOf:aW:={ PySem.Challenge.pw_hourtable_k41_a_ring_that_is_dead with main:={ PySem.Challenge.pw_hourtable_k41_a_ring_that_is_dead.main with body:=[1,2,4,6,7,8,9,10,11,13,14,15,16,17,18,19,20,22,24,26,27,28,29,30,31,32,33,34,35,37,38,39,40,41,42,43,44,45,46,47,48,49,50,51,52,53,54,55,56,57,58].map HN.top } }
def HN.isSeen (s:ar):Bool:=xlAt HN.seenOf [] s && recOk (RowW.records (OpenRow.toRowW (OpenLaw.row e8))) s
local macro_rules
 | `(tactic| o_head $H:term) => `(tactic| (refine holds_open (q := HN.seenOf) (loose := []) (XP := XL HN.seenOf []) (Xt := HN.isSeen) (Yf := Hook.obs $H) (Ya := Hook.val $H) (YP := Hook.says $H) (N := 4682) ?_ (Hook.of $H) (Hook.keeps $H) (fun s e => xl_of s (Bool.and_eq_true_iff.mp e).1) XL.keeps (by rfl) (by rfl) (by rfl) (fun s e => recFacts_of (Bool.and_eq_true_iff.mp e).2) ?_ ?_ ?_ ?_ ?_ ?_))
theorem HN.left_two {σ α β:Type}{e:Option σ}{f:σ→α}{g:σ→β}{a:α}{b:β}(h1:e.map f=some a)(h2:e.map g=some b):e.map (fun s=>(f s,g s))=some (a,b):=by
 cases e with
 | none=>cases h1
 | some s=>injection h1 with h1;injection h2 with h2;show some (f s,g s)=_;rw [h1,h2]
theorem HN.left_pr {σ α β:Type}{e:Option σ}{f:σ→α×β}{a:α×β}(h1:e.map (fun s=>(f s).1)=some a.1)(h2:e.map (fun s=>(f s).2)=some a.2):e.map f=some a:=by
 cases e with
 | none=>cases h1
 | some s=>injection h1 with h1;injection h2 with h2;exact pG some (Prod.ext h1 h2)
set_option maxHeartbeats 0 in
theorem HN.left1 (w:bz):(openEnds treeTable PySem.Challenge.rw_hourtable_k41_a_ring_that_is_dead.row.prog w 4682).map (fun s=>(openSeen HN.seenOf [] (importedModules PySem.Challenge.rw_hourtable_k41_a_ring_that_is_dead.row.prog.main.body) HN.isSeen true s).1)=some (openGood HN.seenOf []).1:=by
 kernel_rfl
set_option maxHeartbeats 0 in
theorem HN.left2 (w:bz):(openEnds treeTable PySem.Challenge.rw_hourtable_k41_a_ring_that_is_dead.row.prog w 4682).map (fun s=>(openSeen HN.seenOf [] (importedModules PySem.Challenge.rw_hourtable_k41_a_ring_that_is_dead.row.prog.main.body) HN.isSeen true s).2)=some (openGood HN.seenOf []).2:=by
 kernel_rfl
set_option maxRecDepth 100000 in
set_option maxHeartbeats 0 in
theorem HN.head0 (W:HN.Wp):PySem.Challenge.rw_hourtable_k41_a_ring_that_is_dead.Holds:=by
 w_on;refine holds_law (by decide +kernel) fun said=>?_;k_head
 ·exact fun w=>HN.left_two (HN.left_pr (HN.left1 w) (HN.left2 w)) (by kernel_rfl)
 ·rfl
 ·assumption
 ·decide +kernel
 ·exact ⟨rfl,rfl,rfl,rfl,rfl,by decide +kernel⟩
 ·w_witness2
 k_fill
 refine W rfl rfl (fun w h Y=>⟨PySem.W.km_in_of Y,fun T hT=>PySem.W.km_tabs_of Y T (by revert hT;revert T;decide)⟩) (fun w T hT=>by
  simp only [aL,dg,or_false] at hT
  rcases hT with rfl | rfl | rfl
  ·exact ⟨99,by kernel_rfl⟩
  ·exact ⟨173,by kernel_rfl⟩
  ·exact ⟨241,by kernel_rfl⟩
  ) (fun w=>by kernel_rfl) ?F
 case F =>
  intro w C k;refine' k ?_ ?_ ?_ ?_ ?_ ?_ ?_ ?_ ?_ ?_ ?_ ?_ ?_ ?_ ?_ ?_ ?_ ?_ ?_ ?_ ?_ ?_ ?_ ?_ ?_ ?_ ?_ ?_ ?_ ?_ ?_ ?_ ?_ ?_ ?_ ?_ ?_ ?_ ?_ ?_ ?_ ?_ ?_ ?_ ?y1 ?z1 ?z2 ?z3 ?z4 ?z5 ?z6 ?z7 ?z8 ?z9 ?z10 ?z11 ?z12 ?z13 ?z14 ?z15 ?z16 ?w1 ?w2 ?w3 ?w4 ?w5 ?w6 ?w7 ?w8 ?w9 ?w10 ?w11 ?w12 ?w13 ?w14 ?w15 ?w16 ?w17 ?w18 ?w19 ?w20 ?w21 ?w22 ?w23 ?w24 ?w25 ?wc0 ?wh0 ?wh1 ?wc2 ?wh2
  all_goals first | exact ⟨by k_is,_,_,_,_,_,_,_,_,_,by k_is,by k_is,by k_is⟩ | skip
  (case y1=>k_is);(case z1=>k_is);(case z2=>k_is);(case z3=>k_is);(case z4=>k_is);(case z5=>k_is);(case z6=>k_is);(case z7=>k_is);(case z8=>k_is);(case z9=>k_is);(case z10=>k_is);(case z11=>k_is);(case z12=>k_is);(case z13=>k_is);(case z14=>k_is);(case z15=>k_is);(case z16=>k_is)
  (case w1=>k_is)
  (case w2=>k_is)
  (case w3=>k_is)
  (case w4=>k_is)
  (case w5=>k_is)
  (case w6=>k_is)
  (case w7=>k_is)
  (case w8=>k_is)
  (case w9=>k_is)
  (case w10=>k_is)
  (case w11=>k_is)
  (case w12=>k_is)
  (case w13=>k_is)
  (case w14=>k_is)
  (case w15=>k_is)
  (case w16=>k_is)
  (case w17=>k_is)
  (case w18=>k_is)
  (case w19=>k_is)
  (case w20=>k_is)
  (case w21=>k_is)
  (case w22=>k_is)
  (case w23=>k_is)
  (case w24=>k_is)
  (case w25=>k_is)
  (case wc0=>exact ⟨_,_,_,_,_,_,_,_,by k_is⟩)
  (case wh0=>kernel_rfl)
  (case wh1=>kernel_rfl)
  (case wc2=>exact ⟨_,_,_,_,_,_,_,_,by k_is⟩)
  (case wh2=>kernel_rfl)
end
namespace L2
open PySem PySem.Spec PyProof.Rows
abbrev Key:=Sum Int Str
def keyIs:Key→ae→Bool
 | .inl k,v=>ae.isInt k v
 | .inr x,v=>ae.isStrOf x v
def keyH (w:bz):Key→Int
 | .inl k=>hashInt k
 | .inr x=>hashStr w x
theorem gh:∀ {k:Key} {v:ae},keyIs k v=true→(∃ i t,k=Sum.inl i∧v=ae.int i t)∨(∃ x t,k=Sum.inr x∧v=ae.str x t)
 | .inl i,v,h=>by
  obtain ⟨t,e⟩:=ae.isInt_shape (k:=i) (v:=v) h;exact .inl ⟨i,t,rfl,e⟩
 | .inr x,v,h=>by
  obtain ⟨t,e⟩:=ae.isStrOf_shape (x:=x) (v:=v) h;exact .inr ⟨x,t,rfl,e⟩
theorem keyIs_int (i:Int)(t:Tok):keyIs (.inl i) (.int i t)=true:=by simp [keyIs,ae.isInt]
theorem keyIs_str (x:Str)(t:Tok):keyIs (.inr x) (.str x t)=true:=by simp [keyIs,ae.isStrOf]
theorem key_ll (a b:Int):decide ((Sum.inl a:Key)=Sum.inl b)=(a == b):=by
 by_cases e:a=b
 ·subst e;simp
 ·have h:¬ (Sum.inl a:Key)=Sum.inl b:=fun q=>e (Sum.inl.inj q)
  rw [pB h];exact (beq_eq_false_iff_ne.mpr e).symm
theorem key_rr (a b:Str):decide ((Sum.inr a:Key)=Sum.inr b)=decide (a=b):=by
 by_cases e:a=b
 ·subst e;simp
 ·have h:¬ (Sum.inr a:Key)=Sum.inr b:=fun q=>e (Sum.inr.inj q)
  rw [pB h,pB e]
theorem key_lr (a:Int)(b:Str):decide ((Sum.inl a:Key)=Sum.inr b)=false:=pB (fun q=>nomatch q)
theorem key_rl (a:Str)(b:Int):decide ((Sum.inr a:Key)=Sum.inl b)=false:=pB (fun q=>nomatch q)
def ig (prog:aW)(w:bz):PySem.KeyKind prog w Key where
 is:=keyIs
 hash:=keyH w
 inj:=fun v a b ha hb=>by
  rcases gh ha with ⟨i,t,rfl,rfl⟩ | ⟨x,t,rfl,rfl⟩
  ·rcases gh hb with ⟨j,u,rfl,e⟩ | ⟨y,u,rfl,e⟩
   ·injection e with e1 _;rw [e1]
   ·exact nomatch e
  ·rcases gh hb with ⟨j,u,rfl,e⟩ | ⟨y,u,rfl,e⟩
   ·exact nomatch e
   ·injection e with e1 _;rw [e1]
 byValue:=fun k v h=>by
  rcases gh h with ⟨i,t,rfl,rfl⟩ | ⟨x,t,rfl,rfl⟩ <;> rfl
 pyHash:=fun hv h=>by
  rcases gh hv with ⟨i,t,rfl,rfl⟩ | ⟨x,t,rfl,rfl⟩
  ·exact wpAny_pyHash_int h
  ·exact wpAny_pyHash_str h
 eqBool:=fun hu hv h=>by
  rcases gh hu with ⟨i,t,rfl,rfl⟩ | ⟨x,t,rfl,rfl⟩
  ·rcases gh hv with ⟨j,u,rfl,rfl⟩ | ⟨y,u,rfl,rfl⟩
   ·rw [key_ll] at h;exact wpAny_eqBool_int h
   ·rw [key_lr] at h;exact SeqAt.EqAt.int_str i t y u _ _ _ _ h
  ·rcases gh hv with ⟨j,u,rfl,rfl⟩ | ⟨y,u,rfl,rfl⟩
   ·rw [key_rl] at h;exact SeqAt.EqAt.str_int x t j u _ _ _ _ h
   ·rw [key_rr] at h;exact wpAny_eqBool_str h
 «strs» := fun k x t v h=>by
  rcases gh h with ⟨i,u,rfl,e⟩ | ⟨y,u,rfl,e⟩
  ·exact nomatch e
  ·injection e with e1 _
   subst e1;cases v <;> rfl
theorem mixKind_int (prog:aW)(w:bz)(i:Int)(t:Tok):(ig prog w).is (.inl i) (.int i t)=true:=keyIs_int i t
theorem mixKind_str (prog:aW)(w:bz)(x:Str)(t:Tok):(ig prog w).is (.inr x) (.str x t)=true:=keyIs_str x t
inductive V where
 | non | bl (b:Bool) | int (i:Int) | str (x:Str) | byt (b:Array UInt8) | flt (b:UInt64) | ref (a:ao) | ty (n:String)
 deriving DecidableEq
def RelV:V→ae→Prop
 | .non,u=>u=ae.none
 | .bl b,u=>u=ae.bool b
 | .int i,u=>∃ t,u=ae.int i t
 | .str x,u=>∃ t,u=ae.str x t
 | .byt b,u=>∃ t,u=ae.bytes b t
 | .flt b,u=>∃ t,u=ae.float b t
 | .ref a,u=>u=ae.ref a
 | .ty n,u=>u=ae.type n
abbrev Vals:List V→List ae→Prop:=jf RelV
theorem Vals.length {xs:List V}{us:List ae}(r:Vals xs us):xs.length=us.length:=Paired.length r
theorem Vals.get:∀ {xs:List V} {us:List ae} {i:Nat} {x:V},Vals xs us→xs[i]? =some x→∃ u,us[i]? =some u∧RelV x u
 | _,_,_,_,.nil,e=>by simp at e
 | _,_,0,_,.cons r _,e=>by simp at e;subst e;exact ⟨_,rfl,r⟩
 | _,_,i+1,x,.cons _ t,e=>by
  obtain ⟨u,h1,h2⟩:=Vals.get (i:=i) (x:=x) t (by simpa using e);exact ⟨u,by simpa using h1,h2⟩
theorem Vals.set {x:V}{u:ae}(r:RelV x u):∀ {xs:List V} {us:List ae} (i:Nat),Vals xs us→Vals (xs.set i x) (us.set i u)
 | _,_,_,.nil=> .nil
 | _,_,0,.cons _ t=> .cons r t
 | _,_,i+1,.cons q t=> .cons q (Vals.set r i t)
theorem Vals.append:∀ {xs ys:List V} {us ws:List ae},Vals xs us→Vals ys ws→Vals (xs++ys) (us++ws)
 | _,_,_,_,.nil,s=>s
 | _,_,_,_,.cons r t,s=> .cons r (Vals.append t s)
theorem Vals.take:∀ {xs:List V} {us:List ae} (n:Nat),Vals xs us→Vals (xs.take n) (us.take n)
 | _,_,0,_=> .nil
 | _,_,_+1,.nil=> .nil
 | _,_,n+1,.cons r t=> .cons r (Vals.take n t)
theorem Vals.drop:∀ {xs:List V} {us:List ae} (n:Nat),Vals xs us→Vals (xs.drop n) (us.drop n)
 | _,_,0,r=>r
 | _,_,_+1,.nil=> .nil
 | _,_,n+1,.cons _ t=>Vals.drop n t
def RelO:Option V→Option ae→Prop
 | some v,some u=>RelV v u
 | none,none=>True
 | _,_=>False
def KV {κ:Type}:List (κ×V)→List (κ×ae)→Prop:=jf fun (p:κ×V) (q:κ×ae)=>p.1=q.1∧RelV p.2 q.2
def kV:Key→V
 | .inl i=> .int i
 | .inr x=> .str x
inductive HO where
 | lst (xs:List V)
 | tup (xs:List V)
 | dK (kvs:List (Key×V)) | dT (kvs:List (List Key×V))
 | set (S:Int→Bool) (n:Nat)
 | ins (C dx:ao) (fs:List (Str×V))
 | own (x:ao)
 | xd (fs:List (Str×V))
 | met (f x:ao)
 | rng (lo hi:Int)
 | frz (o:Obj) (u:HO)
 | tbl (ps:Array ae)
 | ext (φ:bE→Prop)
abbrev Hp:=ao→Option HO
def upd (H:Hp)(a:ao)(o:HO):Hp:=fun b=>if b=a then some o else H b
theorem aS {H:Hp}{a:ao}{o:HO}:upd H a o a=some o:=by unfold upd;rw [pf rfl]
theorem bf {H:Hp}{a b:ao}{o:HO}(h:b≠a):upd H a o b=H b:=by unfold upd;rw [pe h]
theorem ie {H:Hp}{a b:ao}{o u:HO}(h:H a=some o)(h':H b=some u)(d:o≠u):a≠b:=by
 intro e;subst e;rw [h] at h';exact d (cq h')
theorem aY {H:Hp}{a b:ao}{o:HO}(h:H a=some o)(h':H b=none):a≠b:=by
 intro e;subst e;rw [h] at h';cases h'
def IsTupN (h:bE)(a:ao)(items:Array ae):Prop:=∃ o,h.get? a=some o∧o.cls= .type "tuple" ∧o.dict=none∧∃ n,o.data= .seq items n
theorem IsTupN.tup {h:bE}{a:ao}{items:Array ae}(p:IsTupN h a items):IsTup h a items:=let ⟨o,e,c,_,n,d⟩:=p;⟨o,e,c,n,d⟩
theorem IsTupN.lt {h:bE}{a:ao}{items:Array ae}(p:IsTupN h a items):a<h.objs.size:=p.tup.lt
theorem IsTupN.new (h:bE)(items:Array ae):IsTupN (h.push { cls:= .type "tuple",data:= .seq items }) h.objs.size items:=⟨_,bg _ rfl,rfl,rfl,_,rfl⟩
section
variable (P:aW) (w:bz)
def ObjOk (H:Hp)(h:bE)(a:ao):HO→Prop
 | .lst xs=>xs.length≤bc∧∃ (its:List ae) (n:Nat),Vals xs its∧h.get? a=some { cls:= .type "list",data:= .seq its.toArray n }
 | .tup xs=>xs.length≤bc∧∃ its:List ae,Vals xs its∧IsTupN h a its.toArray
 | .dK kvs=>kvs.length≤bc∧(a == iS)=false∧∃ vs,KV kvs vs∧h.DictOf (ig P w) a vs
 | .dT kvs=>kvs.length≤bc∧(a == iS)=false∧∃ xs:List (List Key×ao×ae),
   jf (fun (p:List Key×V) (q:List Key×ao×ae)=>p.1=q.1∧H q.2.1=some (.tup (p.1.map kV))∧RelV p.2 q.2.2) kvs xs ∧
   ∃ o es ep,h.get? a=some o∧o.ExactDict∧o.data= .dict es ep∧es.toList=xs.map (entryOfKey (tupleKind (ig P w)))∧(xs.map (·.1)).Nodup
 | .set S n=>h.SetOf (intKind P w) a S n
 | .ins C dx fs=>H dx=some (.own a)∧fs.length≤1000∧dx≠a∧h.get? a=some (fO C dx) ∧
   ∃ mA,h.Ns1 dx mA∧(∀ f,RelO (fs.lookup f) (mA f))∧PySem.Within mA (fs.map (·.1))
 | .own _=>∃ o,h.get? a=some o
 | .xd fs=>∃ mA,h.Ns1 a mA∧∀ f,RelO (fs.lookup f) (mA f)
 | .rng lo hi=>∃ t u v,h.get? a=some { cls:= .type "range",data:= .fields #[.int lo t,.int hi u,.int 1 v] }
 | .frz o u=>h.get? a=some o∧ObjOk H h a u
 | .tbl ps=>h.get? a=some { cls:= .none,data:= .fields ps }
 | .met f x=>h.get? a=some (PySem.W.methodObj (.ref f) (.ref x))
 | .ext φ=>φ h∧(∃ o,h.get? a=some o)∧∀ h1 h2:bE,φ h1→(∀ o,h1.get? a=some o→h2.get? a=some o)→φ h2
def HOk (H:Hp)(h:bE):Prop:=∀ a o,H a=some o→ObjOk P w H h a o
end
section
variable {P:aW} {w:bz} {H H':Hp} {h h':bE} {a:ao} {o:HO}
theorem ObjOk.lt (x:ObjOk P w H h a o):a<h.objs.size:=by
 cases o with
 | lst xs=>obtain ⟨_,_,_,_,e⟩:=x;exact aN e
 | tup xs=>obtain ⟨_,_,_,p⟩:=x;exact p.lt
 | dK kvs=>obtain ⟨_,_,_,_,o,_,_,e,_⟩:=x;exact aN e
 | dT kvs=>obtain ⟨_,_,_,_,o,_,_,e,_⟩:=x;exact aN e
 | set S n=>obtain ⟨o,_,_,_,e,_⟩:=x;exact aN e
 | ins C dx fs=>obtain ⟨_,_,_,e,_⟩:=x;exact aN e
 | own y=>obtain ⟨_,e⟩:=x;exact aN e
 | xd fs=>obtain ⟨_,⟨_,_,_,e,_⟩,_⟩:=x;exact aN e
 | rng lo hi=>obtain ⟨_,_,_,e⟩:=x;exact aN e
 | frz ob u=>obtain ⟨e,_⟩:=x;exact aN e
 | tbl ps=>exact aN (show h.get? a=some _ from x)
 | met f y=>exact aN (show h.get? a=some _ from x)
 | ext φ=>obtain ⟨_,⟨_,e⟩,_⟩:=x;exact aN e
theorem Paired.mapP {α β:Type}{F G:α→β→Prop}:∀ {l₁:List α} {l₂:List β},jf F l₁ l₂→(∀ a b,F a b→G a b)→jf G l₁ l₂
 | _,_,.nil,_=> .nil
 | _,_,.cons r t,f=> .cons (f _ _ r) (Paired.mapP t f)
theorem ObjOk.stay (x:ObjOk P w H h a o)(k:∀ b u,(b=a∨H b=some (.own a))→h.get? b=some u→h'.get? b=some u)
  (ho:∀ b,H b=some (.own a)→H' b=some (.own a)) (ht:∀ b xs,H b=some (.tup xs)→H' b=some (.tup xs)):ObjOk P w H' h' a o:=by
 induction o with
 | lst xs=>obtain ⟨z,its,n,r,e⟩:=x;exact ⟨z,its,n,r,k _ _ (.inl rfl) e⟩
 | tup xs=>obtain ⟨z,its,r,ob,e,c⟩:=x;exact ⟨z,its,r,ob,k _ _ (.inl rfl) e,c⟩
 | dK kvs=>obtain ⟨z,y,vs,r,ob,es,ep,e,c⟩:=x;exact ⟨z,y,vs,r,ob,es,ep,k _ _ (.inl rfl) e,c⟩
 | dT kvs =>
  obtain ⟨z,y,xs,r,ob,es,ep,e,c⟩:=x;exact ⟨z,y,xs,Paired.mapP r fun p q z=>⟨z.1,ht _ _ z.2.1,z.2.2⟩,ob,es,ep,k _ _ (.inl rfl) e,c⟩
 | set S n=>obtain ⟨ob,es,ep,t,e,c⟩:=x;exact ⟨ob,es,ep,t,k _ _ (.inl rfl) e,c⟩
 | ins C dx fs =>
  obtain ⟨d,z,ne,e,mA,⟨od,es,ep,e2,c⟩,r⟩:=x;exact ⟨ho _ d,z,ne,k _ _ (.inl rfl) e,mA,⟨od,es,ep,k _ _ (.inr d) e2,c⟩,r⟩
 | own y=>obtain ⟨ob,e⟩:=x;exact ⟨ob,k _ _ (.inl rfl) e⟩
 | xd fs=>obtain ⟨mA,⟨od,es,ep,e,c⟩,r⟩:=x;exact ⟨mA,⟨od,es,ep,k _ _ (.inl rfl) e,c⟩,r⟩
 | rng lo hi=>obtain ⟨t,u,v,e⟩:=x;exact ⟨t,u,v,k _ _ (.inl rfl) e⟩
 | frz ob u ih=>obtain ⟨e,q⟩:=x;exact ⟨k _ _ (.inl rfl) e,ih q⟩
 | tbl ps =>
  have e:h.get? a=some { cls:= .none,data:= .fields ps }:=x;show h'.get? a=some { cls:= .none,data:= .fields ps };exact k a _ (.inl rfl) e
 | met f y =>
  have e:h.get? a=some (PySem.W.methodObj (.ref f) (.ref y)):=x;show h'.get? a=some (PySem.W.methodObj (.ref f) (.ref y));exact k a _ (.inl rfl) e
 | ext φ=>obtain ⟨p,⟨o,e⟩,st⟩:=x;exact ⟨st _ _ p fun o q=>k _ _ (.inl rfl) q,⟨o,k _ _ (.inl rfl) e⟩,st⟩
theorem HOk.lt (x:HOk P w H h)(e:H a=some o):a<h.objs.size:=(x a o e).lt
theorem HOk.fresh (x:HOk P w H h)(e:h.objs.size≤a):H a=none:=by
 cases q:H a with
 | none=>rfl
 | some u=>exact pj (aU (x.lt q) e) (fG _)
theorem HOk.kept (x:HOk P w H h)(k:∀ b u,h.get? b=some u→h'.get? b=some u):HOk P w H h':=fun a o e =>
 (x a o e).stay (fun b u _ q=>k b u q) (fun _ q=>q) fun _ _ q=>q
theorem HOk.laid (x:HOk P w H h)(k:∀ b u,h.get? b=some u→h'.get? b=some u)(hp:h.objs.size≤a)(new:ObjOk P w (upd H a o) h' a o):HOk P w (upd H a o) h':=fun b u e=>by
 have hn:=x.fresh hp
 by_cases hb:b=a
 ·subst hb;rw [aS] at e;cases e;exact new
 ·rw [bf hb] at e
  exact (x b u e).stay (fun c v _ q=>k c v q) (fun c q=>by rw [bf (aY q hn)];exact q) fun c xs q=>by rw [bf (aY q hn)];exact q
end
def Rd (H:Hp)(a:ao)(u:HO):Prop:=H a=some u∨∃ o,H a=some (.frz o u)
theorem Rd.of {H:Hp}{a:ao}{u:HO}(h:H a=some u):Rd H a u:= .inl h
theorem Rd.ok {P:aW}{w:bz}{H:Hp}{h:bE}{a:ao}{u:HO}(r:Rd H a u)(x:HOk P w H h):ObjOk P w H h a u:=by
 rcases r with r | ⟨o,r⟩
 ·exact x a u r
 ·obtain ⟨_,q⟩:=x a _ r
  exact q
def Mut:Option HO→Prop
 | some (.lst _)=>True
 | some (.dK _)=>True
 | some (.dT _)=>True
 | some (.set _ _)=>True
 | some (.ins _ _ _)=>True
 | some (.ext _)=>True
 | _=>False
section
variable {P:aW} {w:bz} {H:Hp} {h h':bE} {x e:ao} {o':HO}
theorem HOk.write (ok:HOk P w H h)(mu:Mut (H x))(he:e=x∨H e=some (.own x))(k:∀ b u,b≠e→h.get? b=some u→h'.get? b=some u)(heo:∃ u,h'.get? e=some u)
  (new:ObjOk P w (upd H x o') h' x o'):HOk P w (upd H x o') h':=fun b u q=>by
 have nown:∀ c y,H c=some (.own y)→c≠x:=fun c y r z=>by subst z;rw [r] at mu;exact mu
 have ntup:∀ c xs,H c=some (.tup xs)→c≠x:=fun c xs r z=>by subst z;rw [r] at mu;exact mu
 by_cases hb:b=x
 ·subst hb;rw [aS] at q;cases q;exact new
 ·rw [bf hb] at q
  by_cases hbe:b=e
  ·have q':H b=some (.own x):=by
    rcases he with z | z
    ·exact pj (hbe.trans z) hb
    ·rw [hbe];exact z
   rw [q] at q';cases q';obtain ⟨v,hv⟩:=heo;exact ⟨v,by rw [hbe];exact hv⟩
  ·refine (ok b u q).stay (fun c v hc r=>k c v ?_ r) (fun c r=>by rw [bf (nown c b r)];exact r) fun c xs r=>by rw [bf (ntup c xs r)];exact r
   rcases hc with rfl | hc
   ·exact hbe
   ·rintro rfl
    rcases he with z | z
    ·exact nown c b hc z
    ·rw [hc] at z;cases z;exact hb rfl
end
structure Un (fs ex:List ao)(H H':Hp)(h h':bE):Prop where
 keep:∀ b o,h.get? b=some o→H b=none→b ∉ fs→b ∉ ex→h'.get? b=some o
 slot:∀ b o,h.get? b=some o→H b=none→b∈fs→b ∉ ex→∃ sl,h'.get? b=some { o with slots:=sl }
 free:∀ b o,h.get? b=some o→H b=none→b ∉ ex→H' b=none
 there:∀ b o,h.get? b=some o→b ∉ ex→∃ o',h'.get? b=some o'
 tups:∀ b xs,H b=some (.tup xs)→H' b=some (.tup xs)
 frzs:∀ b o u,H b=some (.frz o u)→H' b=some (.frz o u)
 tbls:∀ b ps,H b=some (.tbl ps)→∃ more,H' b=some (.tbl (ps++more))
section
variable {fs fs' ex ex':List ao} {H H1 H2:Hp} {h h1 h2 h':bE} {a x e:ao} {o:HO}
theorem Un.any (u:Un fs ex H H1 h h1){b:ao}{ob:Obj}(q:h.get? b=some ob)(n:H b=none)(hx:b ∉ ex):∃ sl,h1.get? b=some { ob with slots:=sl }:=by
 by_cases hb:b∈fs
 ·exact u.slot b ob q n hb hx
 ·exact ⟨ob.slots,u.keep b ob q n hb hx⟩
theorem Un.kept (k:∀ b u,h.get? b=some u→h'.get? b=some u):Un fs ex H H h h' :=
 ⟨fun b ob q _ _ _=>k b ob q,fun b ob q _ _ _=>⟨ob.slots,k b ob q⟩,fun _ _ _ n _=>n,fun b ob q _=>⟨ob,k b ob q⟩,fun _ _ q=>q,fun _ _ _ q=>q,fun _ ps q=>⟨#[],by rw [q];simp⟩⟩
theorem Un.refl:Un fs ex H H h h:=Un.kept fun _ _ q=>q
theorem Un.laid (k:∀ b u,h.get? b=some u→h'.get? b=some u)(hp:h.objs.size≤a)(hn:H a=none):Un fs ex H (upd H a o) h h' where
 keep:=fun b u q _ _ _=>k b u q
 slot:=fun b u q _ _ _=>⟨u.slots,k b u q⟩
 free:=fun b u q n _=>by rw [bf (bM (aU (aN q) hp))];exact n
 there:=fun b u q _=>⟨u,k b u q⟩
 tups:=fun b xs q=>by rw [bf (aY q hn)];exact q
 frzs:=fun b u xs q=>by rw [bf (aY q hn)];exact q
 tbls:=fun b ps q=>⟨#[],by rw [bf (aY q hn),q];simp⟩
theorem Un.write (mu:Mut (H x))(he:e=x∨H e=some (.own x))(k:∀ b u,b≠e→h.get? b=some u→h'.get? b=some u)(heo:∃ u,h'.get? e=some u):Un fs ex H (upd H x o) h h':=by
 have hx:∀ b,H b=none→b≠x:=fun b n z=>by subst z;rw [n] at mu;exact mu
 have hb:∀ b,H b=none→b≠e:=fun b n z=>by
  subst z
  rcases he with r | r
  ·exact hx b n r
  ·rw [n] at r;cases r
 have hm:∀ b u,H b=some u→¬ Mut (some u)→b≠x:=fun b u q nm z=>by subst z;rw [q] at mu;exact nm mu
 refine ⟨fun b u q n _ _=>k b u (hb b n) q,fun b u q n _ _=>⟨u.slots,k b u (hb b n) q⟩,fun b u q n _=>by rw [bf (hx b n)];exact n,fun b u q _=>?_,
  fun b xs q=>by rw [bf (hm b _ q fun z=>z)];exact q,fun b u xs q=>by rw [bf (hm b _ q fun z=>z)];exact q,fun b ps q=>⟨#[],by rw [bf (hm b _ q fun z=>z),q];simp⟩⟩
 by_cases hbe:b=e
 ·subst hbe;exact heo
 ·exact ⟨u,k b u hbe q⟩
end
def trk (h:bE)(H:Hp):List ao:=(aP h.objs.size).filter fun a=>(H a).isSome
def hidT (h:bE)(H:Hp):bE:=PySem.W.hideAll h (trk h H)
theorem hidT_size (h:bE)(H:Hp):(hidT h H).objs.size=h.objs.size:=PySem.W.hideAll_size _ _
theorem hidT_get {h:bE}{H:Hp}{b:ao}{o:Obj}(e:h.get? b=some o)(n:H b=none):(hidT h H).get? b=some o :=
 PySem.W.hideAll_get _ e fun hm=>by
  have q:(H b).isSome=true:=(cN.mp hm).2;rw [n] at q;simp at q
theorem of_hidT {h:bE}{H:Hp}{b:ao}{o:Obj}(e:(hidT h H).get? b=some o):h.get? b=some o∧H b=none:=by
 have e':h.get? b=some o:=PySem.W.of_hideAll (trk h H) e;refine ⟨e',?_⟩;cases q:H b with
 | none=>rfl
 | some x =>
  have hm:b∈trk h H:=cN.mpr ⟨bP.mpr (aN e'),by simp [q]⟩;have z:(hidT h H).get? b=none:=PySem.W.hideAll_none (trk h H) hm;rw [z] at e;cases e
structure Mod (K:ak)(mg:Str→Option ae)(base:bE):Prop where
 kin:K.In base
 glob:base.Ns bK mg
 blt:∃ mb,base.Ns builtinsNs mb∧∀ x:Str,x ≠ "__name__" →mb x=bootBuiltins x
 nolimit:base.NoLimit
structure Cx where
 prog:aW
 w:bz
 K:ak
 mg:Str→Option ae
 base:bE
 A:bU
 N:List Str
 s₀:ar
 H₀:Hp
 env:Env
 outer:List Env
 stack:List Env
 ex:List ao
 fn:Str→Bool
 calm:Bool
 pn:List (ao×Obj)
 xe:ae→ar→Prop
def frs (l:List Env):List ao:=l.filterMap (·.frame)
abbrev Cx.fs (X:Cx):List ao:=frs X.outer
def Vis (sc:fV)(x:Str):Prop:=sc.names.lookup x=some .local∨sc.names.lookup x=some .cell∨sc.names.lookup x=some .free
def Loc (sc:fV)(x:Str):Prop:=sc.names.lookup x=some .local∨sc.names.lookup x=some .cell
def Look (env:Env)(h:bE)(m:Str→Option ae)(x:Str)(u:ae):Prop :=
 (env.kindOf x=some .local∧m x=some u)∨((env.kindOf x=some .cell∨env.kindOf x=some .free)∧∃ c,env.cells.lookup x=some c∧h.IsCell c (some u))
structure Cx.Ok (X:Cx):Prop where
 mod:Mod X.K X.mg X.base
 kind:X.env.scope.kind= .function
 glob:X.env.globals=bK
 blt:X.env.builtins=builtinsNs
 above:X.s₀.heap.objs.size≤X.env.locals
 inj:∀ x y c,X.env.cells.lookup x=some c→X.env.cells.lookup y=some c→x=y
 has:∀ x,(X.env.kindOf x=some .cell∨X.env.kindOf x=some .free)→∃ c,X.env.cells.lookup x=some c
 cab:∀ x c,X.fn x=true→X.env.cells.lookup x=some c→X.s₀.heap.objs.size≤c
 hd:X.calm=true→X.A.handled=none
 frames:X.A.frames=some X.stack
 stk:X.stack=X.outer∨(X.stack=X.env::X.outer∧X.env.frame=some X.env.locals)
 exf:∀ b∈X.ex,b≠X.env.locals∧∀ x c,X.env.cells.lookup x=some c→c≠b
 bs:∀ b o,X.base.get? b=some o→X.s₀.heap.get? b=some o∧X.H₀ b=none
 bsz:X.base.objs.size≤X.s₀.heap.objs.size
 noex:∀ b o,X.base.get? b=some o→b ∉ X.ex
 exfs:∀ b∈X.ex,b ∉ X.fs
 funs:X.s₀.heap.FunFrames X.base X.outer
 frf:∀ b∈X.fs,X.H₀ b=none
structure Inv (X:Cx)(aQ:List (ao×Obj))(σ:List (Option V))(H:Hp)(s:ar):Prop where
 ok:X.Ok
 os:s.os=X.s₀.os
 bare:AllBare s.gens
 base:Un X.fs X.ex X.H₀ H X.s₀.heap s.heap
 loc:∃ m,s.heap.Ns X.env.locals m∧∀ (i:Nat) (x:Str) (v:V),X.N[i]? =some x→σ[i]? =some (some v)→Vis X.env.scope x→∃ u,RelV v u∧Look X.env s.heap m x u
 cell:∀ x c,X.env.cells.lookup x=some c→∃ v,s.heap.IsCell c v
 free:H X.env.locals=none
 freeC:∀ x c,X.env.cells.lookup x=some c→H c=none
 pin:∀ p∈X.pn++aQ,s.heap.get? p.1=some p.2∧H p.1=none∧p.1≠X.env.locals∧p.1 ∉ X.fs∧∀ v,p.2.data≠ .cell v
 hok:HOk X.prog X.w H s.heap
 len:σ.length=X.N.length
section
variable {X:Cx} {aQ:List (ao×Obj)} {σ:List (Option V)} {H H':Hp} {s:ar} {h':bE}
theorem Cx.Ok.nofr (ok:X.Ok){b:ao}{o:Obj}(e:X.base.get? b=some o):b ∉ X.fs:=fun hb=>by
 have:=(ok.funs.mem hb).1;rw [e] at this;cases this
theorem Inv.bs (I:Inv X aQ σ H s):∀ b o,X.base.get? b=some o→s.heap.get? b=some o∧H b=none:=fun b o e =>
 ⟨I.base.keep b o (I.ok.bs b o e).1 (I.ok.bs b o e).2 (I.ok.nofr e) (I.ok.noex b o e),I.base.free b o (I.ok.bs b o e).1 (I.ok.bs b o e).2 (I.ok.noex b o e)⟩
theorem Inv.bk (I:Inv X aQ σ H s):∀ b o,X.base.get? b=some o→s.heap.get? b=some o:=fun b o e=>(I.bs b o e).1
theorem Inv.mod (I:Inv X aQ σ H s):Mod X.K X.mg X.base:=I.ok.mod
theorem Inv.kIn (I:Inv X aQ σ H s):X.K.In s.heap:=I.ok.mod.kin.keeps I.bk
theorem Inv.nolimit (I:Inv X aQ σ H s):s.heap.NoLimit:=I.ok.mod.nolimit.keeps I.bk
theorem Inv.lt (I:Inv X aQ σ H s):X.env.locals<s.heap.objs.size:=let ⟨_,hn,_⟩:=I.loc;hn.lt
theorem Inv.sz (I:Inv X aQ σ H s):X.s₀.heap.objs.size≤s.heap.objs.size:=bj I.ok.above (ik I.lt)
theorem Inv.nofs (I:Inv X aQ σ H s){a:ao}(h:s.heap.objs.size≤a):a ∉ X.fs:=fun hb=>by
 obtain ⟨_,o,ho,_⟩:=I.ok.funs.mem hb;exact pj (aU (aN ho) (bj I.sz h)) (fG _)
theorem Inv.cne (I:Inv X aQ σ H s):∀ x c,X.env.cells.lookup x=some c→c≠X.env.locals:=fun x c e z=>by
 obtain ⟨v,o,ho,hd⟩:=I.cell x c e;obtain ⟨m,⟨o',es,ep,ho',hd',_⟩,_⟩:=I.loc;rw [z,ho'] at ho;cases ho;rw [hd'] at hd;cases hd
theorem Inv.funs (I:Inv X aQ σ H s):s.heap.FunFrames X.base X.outer:=by
 have all:∀ (l:List Env),(∀ b∈frs l,b∈X.fs)→X.s₀.heap.FunFrames X.base l→s.heap.FunFrames X.base l:=by
  intro l
  induction l with
  | nil=>intro _ _;trivial
  | cons env r ih =>
   intro hs hl;obtain ⟨hk,⟨L,o,hf,hn,ho,hd⟩,hr⟩:=hl;have hL:L∈X.fs:=hs L (by unfold frs;rw [jF,hf];exact bF);obtain ⟨sl,e⟩:=I.base.slot L o ho (I.ok.frf L hL) hL fun z=>I.ok.exfs L z hL
   exact ⟨hk,⟨L,_,hf,hn,e,hd⟩,ih (fun b hb=>hs b (by unfold frs;rw [jF,hf];exact ax _ hb)) hr⟩
 exact all X.outer (fun _ hb=>hb) I.ok.funs
theorem Inv.stack (I:Inv X aQ σ H s):s.heap.FunFrames X.base X.stack:=by
 rcases I.ok.stk with e | ⟨e,hf⟩
 ·rw [e];exact I.funs
 ·rw [e]
  obtain ⟨m,hn,_⟩:=I.loc;refine .cons (by rw [I.ok.kind];decide) hf hn ?_ I.funs;exact bE.get?_none_of_le (bj I.ok.bsz I.ok.above)
theorem Inv.stkSub (I:Inv X aQ σ H s):∀ b∈frs X.stack,b∈X.env.locals::X.fs:=fun b hb=>by
 rcases I.ok.stk with e | ⟨e,hf⟩
 ·rw [e] at hb;exact ax _ hb
 ·rw [e] at hb
  unfold frs at hb;rw [jF,hf] at hb;exact hb
theorem Inv.stkFree (I:Inv X aQ σ H s):∀ b∈frs X.stack,H b=none:=fun b hb=>by
 rcases aL.mp (I.stkSub b hb) with e | hb
 ·rw [e];exact I.free
 ·obtain ⟨_,o,ho,_⟩:=I.ok.funs.mem hb
  exact I.base.free b o ho (I.ok.frf b hb) fun z=>I.ok.exfs b z hb
theorem Inv.step {g':Array GenState}{t':Nat}{d':Drawn}{ch:List ao}(I:Inv X aQ σ H s)
  (hch:∀ b∈ch,(b∈X.ex∨X.s₀.heap.objs.size≤b)∧b≠X.env.locals∧(∀ x c,X.env.cells.lookup x=some c→c≠b)∧∀ p∈X.pn++aQ,p.1≠b)
  (keep:∀ b o,b≠X.env.locals→b ∉ X.fs→b ∉ ch→s.heap.get? b=some o→H b=none→h'.get? b=some o)
  (slot:∀ b o,b≠X.env.locals→b∈X.fs→b ∉ ch→s.heap.get? b=some o→H b=none→∃ sl,h'.get? b=some { o with slots:=sl }) (free:∀ b o,b ∉ ch→s.heap.get? b=some o→H b=none→H' b=none)
  (there:∀ b o,b ∉ ch→s.heap.get? b=some o→∃ o',h'.get? b=some o')
  (tups:∀ b xs,H b=some (.tup xs)→H' b=some (.tup xs)) (frzs:∀ b o u,H b=some (.frz o u)→H' b=some (.frz o u)) (tbls:∀ b ps,H b=some (.tbl ps)→∃ more,H' b=some (.tbl (ps++more)))
  (ns:∀ m,s.heap.Ns X.env.locals m→h'.Ns X.env.locals m) (hok:HOk X.prog X.w H' h') (hg:AllBare g') :
  Inv X aQ σ H' { s with heap:=h',gens:=g',drawn:=d',toks:=t' }:=by
 have neL:∀ b o,X.s₀.heap.get? b=some o→b≠X.env.locals:=fun b o e=>bM (aU (aN e) I.ok.above)
 have neC:∀ b o,X.s₀.heap.get? b=some o→b ∉ X.ex→b ∉ ch:=fun b o e hx hb=>by
  rcases (hch b hb).1 with z | z
  ·exact hx z
  ·exact pj (aU (aN e) z) (fG _)
 have cellK:∀ x c,X.env.cells.lookup x=some c→∀ v,s.heap.IsCell c v→h'.IsCell c v:=fun x c e v ⟨o,ho,hd⟩=>by
  have nch:c ∉ ch:=fun z=>(hch c z).2.2.1 x c e rfl
  by_cases hc:c∈X.fs
  ·obtain ⟨sl,q⟩:=slot c o (I.cne x c e) hc nch ho (I.freeC x c e)
   exact ⟨_,q,hd⟩
  ·exact ⟨o,keep c o (I.cne x c e) hc nch ho (I.freeC x c e),hd⟩
 refine ⟨I.ok,I.os,hg,⟨fun b o e n hb hx=>?_,fun b o e n hb hx=>?_,fun b o e n hx=>?_,fun b o e hx=>?_,fun b xs e=>tups b xs (I.base.tups b xs e),fun b o xs e=>frzs b o xs (I.base.frzs b o xs e),fun b ps e=>?_⟩,?_,fun x c e=>?_,?_,fun x c e=>?_,fun p hp=>?_,hok,I.len⟩
 ·exact keep b o (neL b o e) hb (neC b o e hx) (I.base.keep b o e n hb hx) (I.base.free b o e n hx)
 ·obtain ⟨sl,e1⟩:=I.base.slot b o e n hb hx
  obtain ⟨sl',e2⟩:=slot b _ (neL b o e) hb (neC b o e hx) e1 (I.base.free b o e n hx);exact ⟨sl',e2⟩
 ·obtain ⟨o',e1⟩:=I.base.there b o e hx
  exact free b o' (neC b o e hx) e1 (I.base.free b o e n hx)
 ·obtain ⟨o',e1⟩:=I.base.there b o e hx
  exact there b o' (neC b o e hx) e1
 ·obtain ⟨m1,e1⟩:=I.base.tbls b ps e
  obtain ⟨m2,e2⟩:=tbls b _ e1;exact ⟨m1++m2,by rw [e2,Array.append_assoc]⟩
 ·obtain ⟨m,hn,hl⟩:=I.loc
  refine ⟨m,ns m hn,fun i x v e1 e2 e3=>?_⟩;obtain ⟨u,r,l⟩:=hl i x v e1 e2 e3;refine ⟨u,r,?_⟩
  rcases l with l | ⟨k,c,e,z⟩
  ·exact .inl l
  ·exact .inr ⟨k,c,e,cellK x c e _ z⟩
 ·obtain ⟨v,z⟩:=I.cell x c e
  exact ⟨v,cellK x c e v z⟩
 ·obtain ⟨m,⟨o,_,_,ho,_⟩,_⟩:=I.loc
  exact free _ o (fun z=>(hch _ z).2.1 rfl) ho I.free
 ·obtain ⟨v,o,ho,hd⟩:=I.cell x c e
  exact free c o (fun z=>(hch c z).2.2.1 x c e rfl) ho (I.freeC x c e)
 ·obtain ⟨e,n,ne,nf,d⟩:=I.pin p hp
  have nch:p.1 ∉ ch:=fun z=>(hch p.1 z).2.2.2 p hp rfl
  exact ⟨keep p.1 p.2 ne nf nch e n,free p.1 p.2 nch e n,ne,nf,d⟩
theorem Inv.un {t':Nat}(I:Inv X aQ σ H s)(u:Un X.fs [] H H' s.heap h')(hok:HOk X.prog X.w H' h'):Inv X aQ σ H' { s with heap:=h',toks:=t' }:=by
 obtain ⟨m,⟨o,es,ep,ho,r⟩,_⟩:=id I.loc;obtain ⟨sl,hL⟩:=u.any ho I.free (by simp);exact I.step (g':=s.gens) (d':=s.drawn) (ch:=[]) (fun _ z=>nomatch z) (fun b o _ hb _ e n=>u.keep b o e n hb (by simp)) (fun b o _ hb _ e n=>u.slot b o e n hb (by simp)) (fun b o _ e n=>u.free b o e n (by simp)) (fun b o _ e=>u.there b o e (by simp)) u.tups u.frzs u.tbls (fun m' hm=>by
  obtain ⟨o',es',ep',ho',r'⟩:=hm;rw [ho] at ho';cases ho';exact ⟨_,es',ep',hL,r'⟩) hok I.bare
theorem Inv.call {g':Array GenState}{t':Nat}{d':Drawn}{ch:List ao}(I:Inv X aQ σ H s)(u:Un (frs X.stack) ch H H' s.heap h')(hok:HOk X.prog X.w H' h')(hg:AllBare g')
  (hch:∀ b∈ch,(b∈X.ex∨X.s₀.heap.objs.size≤b)∧b≠X.env.locals∧(∀ x c,X.env.cells.lookup x=some c→c≠b)∧∀ p∈X.pn++aQ,p.1≠b) :
  Inv X aQ σ H' { s with heap:=h',gens:=g',drawn:=d',toks:=t' }:=by
 obtain ⟨m,⟨o,es,ep,ho,r⟩,_⟩:=id I.loc;obtain ⟨sl,hL⟩:=u.any ho I.free fun z=>(hch _ z).2.1 rfl
 exact I.step (ch:=ch) hch (fun b o hL hb hc e n=>u.keep b o e n (fun z=>(aL.mp (I.stkSub b z)).elim hL hb) hc) (fun b o _ _ hc e n=>u.any e n hc) (fun b o hc e n=>u.free b o e n hc) (fun b o hc e=>u.there b o e hc) u.tups u.frzs u.tbls (fun m' hm=>by
  obtain ⟨o',es',ep',ho',r'⟩:=hm;rw [ho] at ho';cases ho';exact ⟨_,es',ep',hL,r'⟩) hok hg
theorem Inv.turned {t':Nat}{it:ao}(I:Inv X aQ σ H s)(k:∀ b o,b≠it→s.heap.get? b=some o→h'.get? b=some o)(hn:H it=none)(hL:it≠X.env.locals)
  (h1:it∈X.ex∨X.s₀.heap.objs.size≤it) (h2:∀ x c,X.env.cells.lookup x=some c→c≠it) (h3:∀ p∈X.pn++aQ,p.1≠it):Inv X aQ σ H { s with heap:=h',toks:=t' }:=by
 have nit:∀ b u,H b=some u→b≠it:=fun b u e z=>by rw [z,hn] at e;cases e
 refine I.step (g':=s.gens) (d':=s.drawn) (ch:=[it]) (fun b hb=>?_) (fun b o _ _ hc e _=>k b o (fun z=>hc (by simp [z])) e) (fun b o _ _ hc e _=>⟨o.slots,k b o (fun z=>hc (by simp [z])) e⟩) (fun _ _ _ _ n=>n)
  (fun b o hc e=>⟨o,k b o (fun z=>hc (by simp [z])) e⟩) (fun _ _ e=>e) (fun _ _ _ e=>e) (fun b ps e=>⟨#[],by rw [e];simp⟩) (fun m hm=>?_) (fun b u e=>?_) I.bare
 ·have e:b=it:=by simpa using hb
  subst e;exact ⟨h1,hL,h2,h3⟩
 ·obtain ⟨o,es,ep,ho,r⟩:=hm
  exact ⟨o,es,ep,k _ o (cp hL) ho,r⟩
 ·refine (I.hok b u e).stay (fun c v hc q=>k c v ?_ q) (fun _ q=>q) fun _ _ q=>q
  rcases hc with z | z
  ·rw [z];exact nit b u e
  ·exact nit c _ z
theorem Inv.tok (I:Inv X aQ σ H s)(t:Nat):Inv X aQ σ H { s with toks:=t }:=I.un (h':=s.heap) (t':=t) Un.refl I.hok
theorem Inv.kept {t':Nat}(I:Inv X aQ σ H s)(k:∀ b u,s.heap.get? b=some u→h'.get? b=some u):Inv X aQ σ H { s with heap:=h',toks:=t' }:=I.un (Un.kept k) (I.hok.kept k)
theorem Inv.laid {a:ao}{o:HO}{t':Nat}(I:Inv X aQ σ H s)(k:∀ b u,s.heap.get? b=some u→h'.get? b=some u)(hp:s.heap.objs.size≤a)(new:ObjOk X.prog X.w (upd H a o) h' a o) :
  Inv X aQ σ (upd H a o) { s with heap:=h',toks:=t' }:=I.un (Un.laid k hp (I.hok.fresh hp)) (I.hok.laid k hp new)
theorem Inv.write {x e:ao}{o:HO}{t':Nat}(I:Inv X aQ σ H s)(mu:Mut (H x))(he:e=x∨H e=some (.own x))(k:∀ b u,b≠e→s.heap.get? b=some u→h'.get? b=some u)(heo:∃ u,h'.get? e=some u)
  (new:ObjOk X.prog X.w (upd H x o) h' x o):Inv X aQ σ (upd H x o) { s with heap:=h',toks:=t' }:=I.un (Un.write mu he k heo) (I.hok.write mu he k heo new)
theorem Inv.pins_of {pins':List (ao×Obj)}(I:Inv X aQ σ H s)(h:∀ p∈pins',s.heap.get? p.1=some p.2∧H p.1=none∧p.1≠X.env.locals∧p.1 ∉ X.fs∧∀ v,p.2.data≠ .cell v):Inv X pins' σ H s :=
 ⟨I.ok,I.os,I.bare,I.base,I.loc,I.cell,I.free,I.freeC,fun p hp=>(aM.mp hp).elim (fun z=>I.pin p (aE _ z)) (h p),I.hok,I.len⟩
theorem nodup_ix {N:List Str}(hN:N.Nodup){i j:Nat}{x:Str}(a:N[i]? =some x)(b:N[j]? =some x):i=j:=by
 obtain ⟨h1,e1⟩:=av.mp a;obtain ⟨h2,e2⟩:=av.mp b;exact (List.getElem_inj hN).mp (e1.trans e2.symm)
theorem store_ok2 {M:Model}{A:bU}{E:ae→ar→Prop}{i:Nat}{x:Str}{v:V}{u:ae}{Q:Unit→ar→Prop}(I:Inv X aQ σ H s)(hN:X.N.Nodup)(hi:X.N[i]? =some x)(hx:Loc X.env.scope x)(r:RelV v u)
  (h:∀ s',Inv X aQ (σ.set i (some v)) H s'→(∃ a,dZ a s.heap s'.heap∧(a=X.env.locals∨X.env.cells.lookup x=some a))→Q () s') (hf:X.fn x=true∨X.env.scope.names.lookup x=some .local:=by first | exact .inl rfl | exact .inr rfl | assumption):aX M A (storeName X.env x u) Q E s:=by
 obtain ⟨m,hn,hl⟩:=id I.loc;have hcls:(X.env.scope.kind == .class || (X.env.scope.kind == .module && X.env.locals != X.env.globals))=false:=by rw [I.ok.kind];rfl
 have hiσ:i<σ.length:=by rw [I.len];exact (av.mp hi).1
 have cne:=I.cne;have tracked:∀ {a:ao} {h':bE},(∃ o,s.heap.get? a=some o∧H a=none)→dZ a s.heap h'→HOk X.prog X.w H h':=fun {a h'} ha hs b ob e=>by
  obtain ⟨_,_,hfree⟩:=ha;refine (I.hok b ob e).stay (fun c w' hc q=>(hs.2 c ?_).trans q) (fun _ q=>q) fun _ _ q=>q
  rintro rfl
  rcases hc with rfl | hc
  ·rw [hfree] at e;cases e
  ·rw [hfree] at hc;cases hc
 rcases hx with hk | hk
 ·refine wpAny_storeName_local hk hn (fun h' hn' hs=>?_) hcls
  obtain ⟨oL,_,_,hoL,_⟩:=id hn;refine h _ ⟨I.ok,I.os,I.bare,⟨fun b o e n hb hx=>?_,fun b o e n hb hx=>?_,I.base.free,fun b o e hx=>?_,I.base.tups,I.base.frzs,I.base.tbls⟩,⟨_,hn',fun j y v' e1 e2 e3=>?_⟩,fun y c e=>?_,I.free,I.freeC,fun p hp=>?_,tracked ⟨oL,hoL,I.free⟩ hs,by simpa using I.len⟩ ⟨_,hs,.inl rfl⟩
  ·exact (hs.2 b (bM (aU (aN e) I.ok.above))).trans (I.base.keep b o e n hb hx)
  ·obtain ⟨sl,e1⟩:=I.base.slot b o e n hb hx
   exact ⟨sl,(hs.2 b (bM (aU (aN e) I.ok.above))).trans e1⟩
  ·obtain ⟨o',e1⟩:=I.base.there b o e hx
   exact ⟨o',(hs.2 b (bM (aU (aN e) I.ok.above))).trans e1⟩
  ·by_cases hj:j=i
   ·subst hj
    rw [hi] at e1;cases e1;rw [dY hiσ] at e2;cases e2;exact ⟨u,r,.inl ⟨hk,by simp⟩⟩
   ·rw [dU (cp hj)] at e2
    obtain ⟨u',r',q⟩:=hl j y v' e1 e2 e3;refine ⟨u',r',?_⟩
    rcases q with ⟨k,e⟩ | ⟨k,c,e,z⟩
    ·refine .inl ⟨k,?_⟩
     have:y≠x:=fun e=>hj (nodup_ix hN e1 (e ▸ hi))
     simp [this,e]
    ·exact .inr ⟨k,c,e,z.sameBut hs (cne y c e)⟩
  ·obtain ⟨w',z⟩:=I.cell y c e
   exact ⟨w',z.sameBut hs (cne y c e)⟩
  ·obtain ⟨e,n,ne,nf,d⟩:=I.pin p hp
   exact ⟨(hs.2 p.1 ne).trans e,n,ne,nf,d⟩
 ·have hfn:X.fn x=true:=by
   rcases hf with z | z
   ·exact z
   ·rw [z] at hk;cases hk
  obtain ⟨c,hc⟩:=I.ok.has x (.inl hk);obtain ⟨w',z⟩:=I.cell x c hc;refine wpAny_storeName_cell I.ok.kind hk hc z (fun h' hc' hs=>?_);obtain ⟨oc,hoc,hocd⟩:=id z;refine h { s with heap:=h' } ⟨I.ok,I.os,I.bare,⟨fun b o e n hb hx=>?_,fun b o e n hb hx=>?_,I.base.free,fun b o e hx=>?_,I.base.tups,I.base.frzs,I.base.tbls⟩,⟨m,hn.sameBut hs (cp (cne x c hc)),fun j y v' e1 e2 e3=>?_⟩,fun y c' e=>?_,I.free,I.freeC,fun p hp=>?_,tracked ⟨oc,hoc,I.freeC x c hc⟩ hs,by simpa using I.len⟩ ⟨c,hs,.inr hc⟩
  ·exact (hs.2 b (bM (aU (aN e) (I.ok.cab x c hfn hc)))).trans (I.base.keep b o e n hb hx)
  ·obtain ⟨sl,e1⟩:=I.base.slot b o e n hb hx
   exact ⟨sl,(hs.2 b (bM (aU (aN e) (I.ok.cab x c hfn hc)))).trans e1⟩
  ·obtain ⟨o',e1⟩:=I.base.there b o e hx
   exact ⟨o',(hs.2 b (bM (aU (aN e) (I.ok.cab x c hfn hc)))).trans e1⟩
  ·by_cases hj:j=i
   ·subst hj
    rw [hi] at e1;cases e1;rw [dY hiσ] at e2;cases e2;exact ⟨u,r,.inr ⟨.inl hk,c,hc,hc'⟩⟩
   ·rw [dU (cp hj)] at e2
    obtain ⟨u',r',q⟩:=hl j y v' e1 e2 e3;refine ⟨u',r',?_⟩
    rcases q with q | ⟨k,c',e,z'⟩
    ·exact .inl q
    ·refine .inr ⟨k,c',e,z'.sameBut hs ?_⟩
     rintro rfl;exact hj (nodup_ix hN e1 (I.ok.inj _ _ _ e hc ▸ hi))
  ·by_cases hcc:c'=c
   ·subst hcc;exact ⟨_,hc'⟩
   ·obtain ⟨w2,z2⟩:=I.cell y c' e
    exact ⟨w2,z2.sameBut hs hcc⟩
  ·obtain ⟨e,n,ne,nf,d⟩:=I.pin p hp
   refine ⟨(hs.2 p.1 ?_).trans e,n,ne,nf,d⟩;intro q;rw [q,hoc] at e;have q':oc=p.2:=cq e;exact d w' (by rw [←q'];exact hocd)
theorem store_ok {M:Model}{A:bU}{E:ae→ar→Prop}{i:Nat}{x:Str}{v:V}{u:ae}{Q:Unit→ar→Prop}(I:Inv X aQ σ H s)(hN:X.N.Nodup)(hi:X.N[i]? =some x)(hx:Loc X.env.scope x)(r:RelV v u)
  (h:∀ s',Inv X aQ (σ.set i (some v)) H s'→Q () s') (hf:X.fn x=true∨X.env.scope.names.lookup x=some .local:=by first | exact .inl rfl | exact .inr rfl | assumption):aX M A (storeName X.env x u) Q E s :=
 store_ok2 I hN hi hx r (fun s' I' _=>h s' I') hf
theorem Inv.call' {s':ar}{ch:List ao}(I:Inv X aQ σ H s)(ho:s'.os=s.os)(u:Un (frs X.stack) ch H H' s.heap s'.heap)(hok:HOk X.prog X.w H' s'.heap)(hg:AllBare s'.gens)
  (hch:∀ b∈ch,(b∈X.ex∨X.s₀.heap.objs.size≤b)∧b≠X.env.locals∧(∀ x c,X.env.cells.lookup x=some c→c≠b)∧∀ p∈X.pn++aQ,p.1≠b):Inv X aQ σ H' s':=by
 obtain ⟨h',g',d',t',o'⟩:=s';have e:o'=s.os:=ho;subst e;exact I.call (g':=g') (t':=t') (d':=d') u hok hg hch
end
abbrev XK:=ae→Option ao→Hp→Prop
abbrev St:=List (Option V)
abbrev VK:=V→Hp→Prop
abbrev TE:=St→Hp→VK→Prop
abbrev TT:=St→Hp→(Bool→Hp→Prop)→Prop
abbrev TA:=St→Hp→(List V→Hp→Prop)→Prop
structure Ends where
 nx:St→Hp→Prop
 rt:VK
 bk:St→Hp→Prop:=fun _ _=>False
 ct:St→Hp→Prop:=fun _ _=>False
abbrev TS:=Ends→St→Hp→Prop
def EP (X:Cx)(aQ:List (ao×Obj))(σ:St)(Q:VK)(u:ae)(s':ar):Prop:=∃ v H',Inv X aQ σ H' s'∧RelV v u∧Q v H'
def TP (X:Cx)(aQ:List (ao×Obj))(σ:St)(Q:Bool→Hp→Prop)(b:Bool)(s':ar):Prop:=∃ H',Inv X aQ σ H' s'∧Q b H'
def AP (X:Cx)(aQ:List (ao×Obj))(σ:St)(Q:List V→Hp→Prop)(us:List ae)(s':ar):Prop:=∃ vs H',Inv X aQ σ H' s'∧Vals vs us∧Q vs H'
def SP (X:Cx)(aQ:List (ao×Obj))(D:Ends)(f:Flow)(s':ar):Prop :=
 match f with
 | .next=>∃ σ' H',Inv X aQ σ' H' s'∧D.nx σ' H'
 | .brk=>∃ σ' H',Inv X aQ σ' H' s'∧D.bk σ' H'
 | .cont=>∃ σ' H',Inv X aQ σ' H' s'∧D.ct σ' H'
 | .ret u=>∃ v σ' H',Inv X aQ σ' H' s'∧RelV v u∧D.rt v H'
def PE (X:Cx)(e:Expr)(t:TE):Prop :=
 ∀ (aQ:List (ao×Obj)) (s:ar) (σ:St) (H:Hp) (Q:VK),Inv X aQ σ H s→t σ H Q→aX (br X.prog X.w) X.A (eZ e X.env) (EP X aQ σ Q) X.xe s
def PT (X:Cx)(e:Expr)(t:TT):Prop :=
 ∀ (aQ:List (ao×Obj)) (s:ar) (σ:St) (H:Hp) (Q:Bool→Hp→Prop),Inv X aQ σ H s→t σ H Q→aX (br X.prog X.w) X.A (isTrue e X.env (eZ e X.env)) (TP X aQ σ Q) X.xe s
def PW (X:Cx)(e:Expr)(t:TT):Prop :=
 ∀ (whole:Sem ae) (aQ:List (ao×Obj)) (s:ar) (σ:St) (H:Hp) (Q:Bool→Hp→Prop),Inv X aQ σ H s→t σ H Q→aX (br X.prog X.w) X.A (isTrue e X.env whole) (TP X aQ σ Q) X.xe s
theorem PW.pt {X:Cx}{e:Expr}{t:TT}(h:PW X e t):PT X e t:=h _
def PA (X:Cx)(es:List Expr)(t:TA):Prop :=
 ∀ (pos:Pos) (aQ:List (ao×Obj)) (s:ar) (σ:St) (H:Hp) (Q:List V→Hp→Prop),Inv X aQ σ H s→t σ H Q→aX (br X.prog X.w) X.A (spliced (gF pos (bC es X.env))) (AP X aQ σ Q) X.xe s
def PS (X:Cx)(st:cV)(t:TS):Prop :=
 ∀ (aQ:List (ao×Obj)) (s:ar) (σ:St) (H:Hp) (D:Ends),Inv X aQ σ H s→t D σ H→aX (br X.prog X.w) X.A (exec st X.env) (SP X aQ D) X.xe s
def PSs (X:Cx)(st:List cV)(t:TS):Prop :=
 ∀ (aQ:List (ao×Obj)) (s:ar) (σ:St) (H:Hp) (D:Ends),Inv X aQ σ H s→t D σ H→aX (br X.prog X.w) X.A (execs st X.env) (SP X aQ D) X.xe s
theorem thn {α:Type}{t:Sem α}{Q Q':α→ar→Prop}{M:Model}{A:bU}{E:ae→ar→Prop}{s:ar}(h:aX M A t Q E s)(hQ:∀ a s,Q a s→Q' a s):aX M A t Q' E s:=cy h hQ fun _ _ x=>x
section
variable {X:Cx}
inductive HasV (o:Option (Option V))(k:V→Prop):Prop
 | mk (v:V)(h:o=some (some v))(q:k v):HasV o k
inductive IsBl (x:V)(k:Bool→Prop):Prop
 | mk (c:Bool)(h:x= .bl c)(q:k c):IsBl x k
def tVar (i:Nat):TE:=fun σ H Q=>HasV σ[i]? fun v=>Q v H
def tC (v:V):TE:=fun _ H Q=>Q v H
theorem pe_var {i:Nat}{x:Str}{pos:Pos}(hN:X.N[i]? =some x)(hv:Vis X.env.scope x)(hd:(x == ("__debug__" :Str))=false:=by decide)(hcd:(x == ("__classdict__" :Str))=false:=by decide):PE X (.Name x pos) (tVar i):=by
 intro aQ s σ H Q I h;obtain ⟨v,e,h⟩:=h;obtain ⟨m,hn,hl⟩:=I.loc;obtain ⟨u,r,l⟩:=hl i x v hN e hv;have fin:EP X aQ σ Q u s:=⟨v,H,I,r,h⟩
 rcases l with ⟨hk,hm⟩ | ⟨hk,c,hc,iM⟩
 ·exact wpAny_Name (wpAny_loadName_local I.ok.kind hk hn hm fin) hd
 ·rcases hk with hk | hk
  ·exact wpAny_Name (wpAny_loadName_cell I.ok.kind hk hc iM fin) hd
  ·exact wpAny_Name (wpAny_loadName_free I.ok.kind hk hc iM fin hcd) hd
theorem ba {i j pos}:PE X (.Constant (.int i) j pos) (tC (.int i)):=fun _ _ _ H _ I h=>wpAny_Constant_int ⟨.int i,H,I.tok _,⟨_,rfl⟩,h⟩
theorem nX {b j pos}:PE X (.Constant (.bool b) j pos) (tC (.bl b)):=fun _ _ _ H _ I h=>Constant_bool ⟨.bl b,H,I,rfl,h⟩
theorem jI {j pos}:PE X (.Constant .none j pos) (tC .non):=fun _ _ _ H _ I h=>Constant_none ⟨.non,H,I,rfl,h⟩
theorem kW {x j pos}:PE X (.Constant (.str x) j pos) (tC (.str x)):=fun _ _ _ H _ I h=>Calls.Constant_str ⟨.str x,H,I.tok _,⟨_,rfl⟩,h⟩
def Gl (X:Cx)(x:Str):Prop:=X.env.kindOf x=some .globalImplicit
theorem ld_glob {E:ae→ar→Prop}{aQ:List (ao×Obj)}{s:ar}{σ:St}{H:Hp}{x:Str}{u:ae}{pos:Pos}{Q:ae→ar→Prop}(I:Inv X aQ σ H s)(hg:Gl X x)(hm:X.mg x=some u)(h:Q u s)
  (hd:(x == ("__debug__" :Str))=false:=by decide):aX (br X.prog X.w) X.A (eZ (.Name x pos) X.env) Q E s :=
 Calls.Name_function_global I.ok.kind hg (Calls.loadGlobal_global (by rw [I.ok.glob];exact I.mod.glob.keeps I.bk) hm h) hd
theorem lV {E:ae→ar→Prop}{aQ:List (ao×Obj)}{s:ar}{σ:St}{H:Hp}{x:Str}{u:ae}{pos:Pos}{Q:ae→ar→Prop}(I:Inv X aQ σ H s)(hg:Gl X x)(hm:X.mg x=none)(hv:bootBuiltins x=some u)(h:Q u s)
  (hn:x ≠ "__name__" := by decide) (hd:(x == ("__debug__" :Str))=false:=by decide):aX (br X.prog X.w) X.A (eZ (.Name x pos) X.env) Q E s:=by
 obtain ⟨mb,h1,h2⟩:=I.mod.blt;exact Calls.Name_function_global I.ok.kind hg (Calls.loadGlobal_builtin (by rw [I.ok.glob];exact I.mod.glob.keeps I.bk) hm (by rw [I.ok.blt];exact h1.keeps I.bk) ((h2 x hn).trans hv) h) hd
theorem pe_glob {x:Str}{v:V}{u:ae}{pos:Pos}(hg:Gl X x)(hm:X.mg x=some u)(r:RelV v u)(hd:(x == ("__debug__" :Str))=false:=by decide):PE X (.Name x pos) (tC v) :=
 fun _ _ _ H _ I h=>ld_glob I hg hm ⟨v,H,I,r,h⟩ hd
theorem pe_bltn {x:Str}{v:V}{u:ae}{pos:Pos}(hg:Gl X x)(hm:X.mg x=none)(hv:bootBuiltins x=some u)(r:RelV v u)(hn:x ≠ "__name__" := by decide)(hd:(x == ("__debug__" :Str))=false:=by decide):PE X (.Name x pos) (tC v) :=
 fun _ _ _ H _ I h=>lV I hg hm hv ⟨v,H,I,r,h⟩ hn hd
variable {a b:Expr} {ta tb:TE} {pos:Pos}
def PC (X:Cx)(op:CmpOp)(a b:Expr)(t:TE):Prop :=
 ∀ (aQ:List (ao×Obj)) (s:ar) (σ:St) (H:Hp) (Q:VK),Inv X aQ σ H s→t σ H Q →
  aX (br X.prog X.w) X.A (eZ a X.env) (fun v s₁=>aX (br X.prog X.w) X.A (eZ b X.env) (fun u s₂=>aX (br X.prog X.w) X.A (fE op v u) (EP X aQ σ Q) X.xe s₂) X.xe s₁) X.xe s
def tB (t:TE):TT:=fun σ H Q=>t σ H fun x H1=>IsBl x fun c=>Q c H1
theorem pt_cmp {op:CmpOp}{t:TE}(h:PC X op a b t)(h1:behindInMarks op b=false:=by first | exact nobehind _ (by decide) (by decide) | rfl):PT X (.Compare a [op] [b] pos) (tB t):=by
 intro aQ s σ H Q I hw;refine wpAny_isTrue_Compare1 (thn (h aQ s σ H _ I hw) fun v s1 h1=>thn h1 fun u s2 h2=>thn h2 fun c s3 ⟨x,H1,I1,r1,q1⟩=>?_) h1;obtain ⟨d,rfl,q⟩:=q1;cases r1;exact gf ⟨H1,I1,q⟩
theorem jQ {e:Expr}{t:TE}(h:PE X e t)(he:∀ whole,isTrue e X.env whole=(do let v ← whole;standAt e.pos;holding [v] (truthy v)):=by intro _;rfl):PT X e (tB t):=by
 intro aQ s σ H Q I hw;refine isTrue_plain (thn (h aQ s σ H _ I hw) fun v s1 ⟨x,H1,I1,r1,q1⟩=>?_) (he _);obtain ⟨d,rfl,q⟩:=q1;cases r1;exact gf ⟨H1,I1,q⟩
variable {tA tB':TT} {rest:List Expr}
def tAnd (t u:TT):TT:=fun σ H Q=>t σ H fun c H1=>if c=true then u σ H1 Q else Q false H1
def tOr (t u:TT):TT:=fun σ H Q=>t σ H fun c H1=>if c=true then Q true H1 else u σ H1 Q
def tNot (t:TT):TT:=fun σ H Q=>t σ H fun c H1=>Q (!c) H1
theorem pw_and1 (ha:PT X a tA):PW X (.BoolOp .And [a] pos) tA:=by
 intro wh aQ s σ H Q I h;refine isTrue_and (thn (ha aQ s σ H Q I h) fun c s1 e=>?_);cases c with
 | true=>exact isTrue_and_nil e
 | false=>exact e
theorem kB (ha:PT X a tA):PW X (.BoolOp .Or [a] pos) tA:=by
 intro wh aQ s σ H Q I h;refine isTrue_or (thn (ha aQ s σ H Q I h) fun c s1 e=>?_);cases c with
 | false=>exact isTrue_or_nil e
 | true=>exact e
theorem pw_and (ha:PT X a tA)(hb:PW X (.BoolOp .And (b::rest) pos) tB'):PW X (.BoolOp .And (a::b::rest) pos) (tAnd tA tB'):=by
 intro wh aQ s σ H Q I h;refine isTrue_and (thn (ha aQ s σ H _ I h) fun c s1 ⟨H1,I1,q1⟩=>?_);cases c with
 | true=>exact hb wh aQ s1 σ H1 Q I1 q1
 | false=>exact ⟨H1,I1,q1⟩
theorem kU (ha:PT X a tA)(hb:PW X (.BoolOp .Or (b::rest) pos) tB'):PW X (.BoolOp .Or (a::b::rest) pos) (tOr tA tB'):=by
 intro wh aQ s σ H Q I h;refine isTrue_or (thn (ha aQ s σ H _ I h) fun c s1 ⟨H1,I1,q1⟩=>?_);cases c with
 | true=>exact ⟨H1,I1,q1⟩
 | false=>exact hb wh aQ s1 σ H1 Q I1 q1
theorem jH (ha:PT X a tA):PT X (.UnaryOp .Not a pos) (tNot tA):=by
 intro aQ s σ H Q I h;exact isTrue_not (ha aQ s σ H (fun c H1=>Q (!c) H1) I h)
def tAndV (ta tb:TE):TE:=fun σ H Q=>ta σ H fun x H1=>IsBl x fun c=>if c=true then tb σ H1 Q else Q (.bl false) H1
def tNotV (ta:TE):TE:=fun σ H Q=>ta σ H fun x H1=>IsBl x fun c=>Q (.bl (!c)) H1
theorem pe_one {op}{t:TE}(h:PE X a t):PE X (.BoolOp op [a] pos) t:=fun aQ s σ H Q I hw=>BoolOp_one (h aQ s σ H Q I hw)
theorem pe_and (ha:PE X a ta)(hb:PE X (.BoolOp .And (b::rest) pos) tb):PE X (.BoolOp .And (a::b::rest) pos) (tAndV ta tb):=by
 intro aQ s σ H Q I h;refine BoolOp_and (thn (ha aQ s σ H _ I h) fun v s1 ⟨x,H1,I1,r1,q1⟩=>?_);obtain ⟨c,rfl,q1⟩:=q1;cases r1;refine gf ?_;cases c with
 | true=>exact hb aQ s1 σ H1 Q I1 q1
 | false=>exact ⟨.bl false,H1,I1,rfl,q1⟩
theorem pe_not (ha:PE X a ta):PE X (.UnaryOp .Not a pos) (tNotV ta):=by
 intro aQ s σ H Q I h;refine UnaryOp_ (thn (ha aQ s σ H _ I h) fun v s1 ⟨x,H1,I1,r1,q1⟩=>?_);obtain ⟨c,rfl,q1⟩:=q1;cases r1;exact not_of (gf ⟨.bl (!c),H1,I1,rfl,q1⟩)
def tIf (t:TT)(ta tb:TE):TE:=fun σ H Q=>t σ H fun c H1=>if c=true then ta σ H1 Q else tb σ H1 Q
theorem mX {c:Expr}(hc:PT X c tA)(ha:PE X a ta)(hb:PE X b tb):PE X (.IfExp c a b pos) (tIf tA ta tb):=by
 intro aQ s σ H Q I h;refine wpAny_IfExp (thn (hc aQ s σ H _ I h) fun d s1 ⟨H1,I1,q1⟩=>?_);cases d with
 | true=>exact ha aQ s1 σ H1 Q I1 q1
 | false=>exact hb aQ s1 σ H1 Q I1 q1
end
def SqL (K:ak)(H:Hp)(a:ao)(xs:List V):Prop :=
 Rd H a (.lst xs) ∨
  ∃ (o:Obj) (its:Array ae) (n:Nat),K.lookup a=some o∧o.cls= .type "list" ∧o.dict=none∧o.data= .seq its n∧its.size≤bc∧Vals xs its.toList
def SqT (K:ak)(H:Hp)(a:ao)(xs:List V):Prop :=
 Rd H a (.tup xs) ∨
  ∃ (o:Obj) (its:Array ae) (n:Nat),K.lookup a=some o∧o.cls= .type "tuple" ∧o.data= .seq its n∧its.size≤bc∧Vals xs its.toList
def absV:ae→Option V
 | .none=>some .non
 | .bool b=>some (.bl b)
 | .int i _=>some (.int i)
 | .str x _=>some (.str x)
 | .bytes b _=>some (.byt b)
 | .float b _=>some (.flt b)
 | .ref a=>some (.ref a)
 | .type n=>some (.ty n)
 | _=>none
theorem RelV.abs {x:V}{u:ae}(r:RelV x u):absV u=some x:=by
 cases x with
 | non=>cases r;rfl
 | bl _=>cases r;rfl
 | int _=>obtain ⟨t,rfl⟩:=r;rfl
 | str _=>obtain ⟨t,rfl⟩:=r;rfl
 | byt _=>obtain ⟨t,rfl⟩:=r;rfl
 | flt _=>obtain ⟨t,rfl⟩:=r;rfl
 | ref _=>cases r;rfl
 | ty _=>cases r;rfl
theorem RelV.inj {x y:V}{u:ae}(r:RelV x u)(q:RelV y u):x=y:=cq (r.abs.symm.trans q.abs)
theorem Vals.inj:∀ {xs ys:List V} {us:List ae},Vals xs us→Vals ys us→xs=ys
 | _,_,_,.nil,.nil=>rfl
 | _,_,_,.cons r t,.cons r' t'=>by rw [r.inj r',Vals.inj t t']
section
variable {X:Cx} {aQ:List (ao×Obj)} {σ:St} {H:Hp} {s:ar} {a:ao} {xs ys:List V}
theorem SqL.of {K:ak}(h:H a=some (.lst xs)):SqL K H a xs:= .inl (.inl h)
theorem SqT.of {K:ak}(h:H a=some (.tup xs)):SqT K H a xs:= .inl (.inl h)
theorem Inv.list (I:Inv X aQ σ H s)(h:SqL X.K H a xs):∃ its:List ae,Vals xs its∧PlainL s.heap a its.toArray∧xs.length≤bc:=by
 rcases h with h | ⟨o,its,n,hk,hc,hd,hs,hz,r⟩
 ·obtain ⟨z,its,n,r,e⟩:=h.ok I.hok
  exact ⟨its,r,⟨_,n,e,rfl,rfl,rfl⟩,z⟩
 ·refine ⟨its.toList,r,⟨o,n,I.kIn a o hk,hc,hd,by simpa using hs⟩,?_⟩
  have e:=r.length;simp only [cJ] at e;omega
theorem Inv.tuple (I:Inv X aQ σ H s)(h:SqT X.K H a xs):∃ its:List ae,Vals xs its∧IsTup s.heap a its.toArray∧xs.length≤bc:=by
 rcases h with h | ⟨o,its,n,hk,hc,hs,hz,r⟩
 ·obtain ⟨z,its,r,p⟩:=h.ok I.hok
  exact ⟨its,r,p.tup,z⟩
 ·refine ⟨its.toList,r,⟨o,I.kIn a o hk,hc,n,by simpa using hs⟩,?_⟩
  have e:=r.length;simp only [cJ] at e;omega
theorem Inv.list_inj (I:Inv X aQ σ H s)(h:SqL X.K H a xs)(h':SqL X.K H a ys):xs=ys:=by
 obtain ⟨its,r,⟨o,n,e,_,_,d⟩,_⟩:=I.list h;obtain ⟨its',r',⟨o',n',e',_,_,d'⟩,_⟩:=I.list h';rw [e] at e';cases e';rw [d] at d';injection d' with d1 _
 have:its=its':=by simpa using pG Array.toList d1
 subst this;exact r.inj r'
theorem Inv.tuple_inj (I:Inv X aQ σ H s)(h:SqT X.K H a xs)(h':SqT X.K H a ys):xs=ys:=by
 obtain ⟨its,r,⟨o,e,_,n,d⟩,_⟩:=I.tuple h;obtain ⟨its',r',⟨o',e',_,n',d'⟩,_⟩:=I.tuple h';rw [e] at e';cases e';rw [d] at d';injection d' with d1 _
 have:its=its':=by simpa using pG Array.toList d1
 subst this;exact r.inj r'
end
abbrev Cx.wish (X:Cx)(E:ae→ar→Prop):Cx:={ X with xe:=E }
abbrev Cx.nox (X:Cx):Cx:=X.wish fun _ _=>False
theorem Cx.Ok.wish {X:Cx}(ok:X.Ok)(E:ae→ar→Prop):(X.wish E).Ok :=
 ⟨ok.mod,ok.kind,ok.glob,ok.blt,ok.above,ok.inj,ok.has,ok.cab,ok.hd,ok.frames,ok.stk,ok.exf,ok.bs,ok.bsz,ok.noex,ok.exfs,ok.funs,ok.frf⟩
theorem Cx.Ok.unwish {X:Cx}{E:ae→ar→Prop}(ok:(X.wish E).Ok):X.Ok :=
 ⟨ok.mod,ok.kind,ok.glob,ok.blt,ok.above,ok.inj,ok.has,ok.cab,ok.hd,ok.frames,ok.stk,ok.exf,ok.bs,ok.bsz,ok.noex,ok.exfs,ok.funs,ok.frf⟩
section
variable {X:Cx} {aQ:List (ao×Obj)} {σ:St} {H:Hp} {s:ar} {E:ae→ar→Prop}
theorem Inv.wish (I:Inv X aQ σ H s)(E:ae→ar→Prop):Inv (X.wish E) aQ σ H s:=⟨I.ok.wish E,I.os,I.bare,I.base,I.loc,I.cell,I.free,I.freeC,I.pin,I.hok,I.len⟩
theorem Inv.unwish (I:Inv (X.wish E) aQ σ H s):Inv X aQ σ H s:=⟨I.ok.unwish,I.os,I.bare,I.base,I.loc,I.cell,I.free,I.freeC,I.pin,I.hok,I.len⟩
theorem SP.unwish {D:Ends}{f:Flow}{s':ar}(h:SP (X.wish E) aQ D f s'):SP X aQ D f s':=by
 cases f with
 | next=>obtain ⟨σ',H',I,q⟩:=h;exact ⟨σ',H',I.unwish,q⟩
 | brk=>obtain ⟨σ',H',I,q⟩:=h;exact ⟨σ',H',I.unwish,q⟩
 | cont=>obtain ⟨σ',H',I,q⟩:=h;exact ⟨σ',H',I.unwish,q⟩
 | ret u=>obtain ⟨v,σ',H',I,r,q⟩:=h;exact ⟨v,σ',H',I.unwish,r,q⟩
theorem PSs.nox {st:List cV}{t:TS}(h:PSs X.nox st t):PSs X st t:=fun aQ s σ H D I hw =>
 cy (h aQ s σ H D (I.wish _) hw) (fun _ _ q=>q.unwish) fun _ _ z=>cQ z
end
section
variable {X:Cx} {st:cV} {rest:List cV} {t u:TS} {e:Expr} {te:TE} {pos:Pos}
def tNext:TS:=fun D σ H=>D.nx σ H
def tSeq (t u:TS):TS:=fun D σ H=>t { D with nx:=u D } σ H
theorem dO:PSs X [] tNext:=fun _ _ σ H _ I h=>wpAny_execs_nil ⟨σ,H,I,h⟩
theorem mV (h1:PS X st t)(h2:PSs X rest u):PSs X (st::rest) (tSeq t u):=by
 intro aQ s σ H D I h;refine wpAny_execs_cons (thn (h1 aQ s σ H { D with nx:=u D } I h) fun f s1 q=>?_);cases f with
 | next =>
  obtain ⟨σ',H',I',q⟩:=q;exact h2 aQ s1 σ' H' D I' q
 | ret v=>exact q
 | brk=>exact q
 | cont=>exact q
theorem cO (h1:PS X st t):PSs X [st] t:=by
 intro aQ s σ H D I h;refine wpAny_execs_cons (thn (h1 aQ s σ H D I h) fun f s1 q=>?_);cases f with
 | next=>exact wpAny_execs_nil q
 | ret v=>exact q
 | brk=>exact q
 | cont=>exact q
theorem Inv.quiet {aQ:List (ao×Obj)}{σ:St}{H:Hp}{s:ar}(I:Inv X aQ σ H s):interactive X.env=false:=by simp [interactive,I.ok.kind]
def tDrop (te:TE):TS:=fun D σ H=>te σ H fun _ H1=>D.nx σ H1
theorem gL (he:PE X e te)(hs:swapsWith e none pos.line X.env=fQ false:=by rfl):PS X (.Expr e pos) (tDrop te):=by
 intro aQ s σ H D I h;exact wpAny_Expr_any (thn (he aQ s σ H _ I h) fun v s1 ⟨x,H1,I1,r1,q1⟩=>⟨σ,H1,I1,q1⟩) I.quiet hs
def tRet (te:TE):TS:=fun D σ H=>te σ H D.rt
theorem cw (he:PE X e te):PS X (.Return (some e) pos) (tRet te):=by
 intro aQ s σ H D I h;exact wpAny_Return_some (thn (he aQ s σ H _ I h) fun v s1 ⟨x,H1,I1,r1,q1⟩=>⟨x,σ,H1,I1,r1,q1⟩)
def tIfS (c:TT)(t u:TS):TS:=fun D σ H=>c σ H fun b H1=>if b=true then t D σ H1 else u D σ H1
theorem gn {c:Expr}{a b:List cV}{tc:TT}(hc:PT X c tc)(ha:PSs X a t)(hb:PSs X b u):PS X (.If c a b pos) (tIfS tc t u):=by
 intro aQ s σ H D I h;refine wpAny_If (thn (hc aQ s σ H _ I h) fun d s1 ⟨H1,I1,q1⟩=>?_);cases d with
 | true=>exact ha aQ s1 σ H1 D I1 q1
 | false=>exact hb aQ s1 σ H1 D I1 q1
end
abbrev TG:=V→St→Hp→(St→Hp→Prop)→Prop
abbrev TGs:=List V→St→Hp→(St→Hp→Prop)→Prop
def PG (X:Cx)(target:Expr)(t:TG):Prop :=
 ∀ (aQ:List (ao×Obj)) (s:ar) (σ:St) (H:Hp) (v:V) (u:ae) (Q:St→Hp→Prop),Inv X aQ σ H s→RelV v u→t v σ H Q →
  aX (br X.prog X.w) X.A (assign target X.env u) (fun _ s'=>∃ σ' H',Inv X aQ σ' H' s'∧Q σ' H') X.xe s
def PGs (X:Cx)(ts:List Expr)(t:TGs):Prop :=
 ∀ (aQ:List (ao×Obj)) (s:ar) (σ:St) (H:Hp) (vs:List V) (us:List ae) (Q:St→Hp→Prop),Inv X aQ σ H s→Vals vs us→t vs σ H Q →
  aX (br X.prog X.w) X.A (assignInOrder ((assignEach ts X.env).map (·.2)) us) (fun _ s'=>∃ σ' H',Inv X aQ σ' H' s'∧Q σ' H') X.xe s
abbrev TSet:=V→V→V→Hp→(Hp→Prop)→Prop
def PSet (X:Cx)(t:TSet):Prop :=
 ∀ (aQ:List (ao×Obj)) (s:ar) (σ:St) (H:Hp) (o i v:V) (ov iv u:ae) (Q:Hp→Prop),Inv X aQ σ H s→RelV o ov→RelV i iv→RelV v u→t o i v H Q →
  aX (br X.prog X.w) X.A (setItem ov iv u) (fun _ s'=>∃ H',Inv X aQ σ H' s'∧Q H') X.xe s
abbrev TIp:=V→V→Hp→VK→Prop
def PIp (X:Cx)(op:Operator)(t:TIp):Prop :=
 ∀ (aQ:List (ao×Obj)) (s:ar) (σ:St) (H:Hp) (x y:V) (v u:ae) (Q:VK),Inv X aQ σ H s→RelV x v→RelV y u→t x y H Q →
  aX (br X.prog X.w) X.A (inplaceOp op v u) (EP X aQ σ Q) X.xe s
section
variable {X:Cx} {pos:Pos}
def oI (i:Nat):TG:=fun v σ H Q=>Q (σ.set i (some v)) H
theorem df {i:Nat}{x:Str}(hN:X.N.Nodup)(hi:X.N[i]? =some x)(hx:Loc X.env.scope x)(hf:X.fn x=true∨X.env.scope.names.lookup x=some .local:=by first | exact .inl rfl | exact .inr rfl | assumption):PG X (.Name x pos) (oI i):=by
 intro aQ s σ H v u Q I r h;exact wpAny_assign_Name (store_ok I hN hi hx r (fun s' I'=>⟨_,H,I',h⟩) hf)
def gNil:TGs:=fun vs σ H Q=>vs=[]∧Q σ H
def gCons (t:TG)(u:TGs):TGs:=fun vs σ H Q=>∃ v r,vs=v::r∧t v σ H fun σ' H'=>u r σ' H' Q
theorem kE:PGs X [] gNil:=by
 intro aQ s σ H vs us Q I r h;obtain ⟨e,h⟩:=h;subst e;cases r;exact assignInOrder_nil ⟨σ,H,I,h⟩
theorem fJ {e:Expr}{es:List Expr}{t:TG}{u:TGs}(h1:PG X e t)(h2:PGs X es u)
  (hs:(assignEach (e::es) X.env).map (·.2)=assign e X.env::(assignEach es X.env).map (·.2):=by rfl):PGs X (e::es) (gCons t u):=by
 intro aQ s σ H vs us Q I r h;obtain ⟨v,vr,e1,h⟩:=h;subst e1;cases r with
 | cons r rr =>
  rw [hs];refine assignInOrder_cons (thn (h1 aQ s σ H _ _ _ I r h) fun _ s1 ⟨σ1,H1,I1,q1⟩=>?_);exact h2 aQ s1 σ1 H1 _ _ Q I1 rr q1
def gTup (K:ak)(n:Nat)(t:TGs):TG:=fun v σ H Q=>∃ a xs,v= .ref a∧SqT K H a xs∧xs.length=n∧t xs σ H Q
theorem mI {es:List Expr}{k:Nat}{t:TGs}{n:Nat}(hc:X.calm=true)(h:PGs X es t)
  (hn:(assignEach es X.env).length=n:=by rfl) (hst:(assignEach es X.env).findIdx? (·.1)=none:=by rfl):PG X (.Tuple es k pos) (gTup X.K n t):=by
 intro aQ s σ H v u Q I r hw;obtain ⟨a,xs,e1,hq,hl,hw⟩:=hw;subst e1;cases r;obtain ⟨its,rv,ht,hz⟩:=I.tuple hq;refine assign_Tuple_tuple (I.ok.hd hc) ht (by simp [hn,←hl,rv.length]) hst fun h' hx=>?_
 have I1:Inv X aQ σ H { s with heap:=h' }:=I.kept (t':=s.toks) fun b o e=>hx b o (bM (aN e)) e
 exact h aQ _ σ H xs _ Q I1 (by simpa using rv) hw
def gSub (to ti:TE)(t:TSet):TG:=fun v σ H Q=>to σ H fun o H1=>ti σ H1 fun i H2=>t o i v H2 fun H3=>Q σ H3
theorem pg_sub {o i:Expr}{to ti:TE}{t:TSet}(ho:PE X o to)(hi:PE X i ti)(hs:PSet X t)
  (ha:∀ v,assign (.Subscript o i pos) X.env v=(do
   let ov ← holding [v] (eZ o X.env)
   let iv ← holding [v,ov] (eZ i X.env)
   standAt pos
   holding [v,ov,iv] (setItem ov iv v)
   release [v,ov,iv] []):=by intro _;rfl):PG X (.Subscript o i pos) (gSub to ti t):=by
 intro aQ s σ H v u Q I r h;rw [ha];refine ah (fj (thn (ho aQ s σ H _ I h) fun ov s1 ⟨x,H1,I1,r1,q1⟩=>?_));refine ah (fj (thn (hi aQ s1 σ H1 _ I1 q1) fun iv s2 ⟨y,H2,I2,r2,q2⟩=>?_));refine ah (wpAny_standAt (ah (fj (thn (hs aQ s2 σ H2 x y v ov iv u _ I2 r1 r2 r q2) fun _ s3 ⟨H3,I3,q3⟩=>?_))));exact wpAny_release ⟨σ,H3,I3,q3⟩
def tAsg (te:TE)(g:TG):TS:=fun D σ H=>te σ H fun x H1=>g x σ H1 D.nx
theorem mH {tg e:Expr}{te:TE}{g:TG}(he:PE X e te)(hg:PG X tg g)(hs:swapsWithSole [tg] e pos.line X.env=fQ false:=by rfl)(hw:swappedStores [tg] e X.env=fQ none:=by rfl)
  (h1:(assignEach [tg] X.env).map (·.2)=[assign tg X.env]:=by rfl):PS X (.Assign [tg] e pos) (tAsg te g):=by
 intro aQ s σ H D I h;refine wpAny_Assign_stores (thn (he aQ s σ H _ I h) fun v s1 ⟨x,H1,I1,r1,q1⟩=>?_) hs hw;rw [h1];exact thn (hg aQ s1 σ H1 x v _ I1 r1 q1) fun _ s2 q=>q
theorem bw {i:Nat}{x:Str}{e:Expr}{te:TE}{pos':Pos}(hN:X.N.Nodup)(hi:X.N[i]? =some x)(hx:Loc X.env.scope x)(he:PE X e te)(hs:swapsWith e (some (.Name x pos')) pos.line X.env=fQ false:=by rfl)(hf:X.fn x=true∨X.env.scope.names.lookup x=some .local:=by first | exact .inl rfl | exact .inr rfl | assumption) :
  PS X (.Assign [.Name x pos'] e pos) (tAsg te (oI i)):=by
 intro aQ s σ H D I h;refine wpAny_Assign_Name (thn (he aQ s σ H _ I h) fun v s1 ⟨y,H1,I1,r1,q1⟩=>?_) hs;exact store_ok I1 hN hi hx r1 (fun s2 I2=>⟨_,H1,I2,q1⟩) hf
def tAug (i:Nat)(te:TE)(ti:TIp):TS:=fun D σ H=>∃ x,σ[i]? =some (some x)∧te σ H fun y H1=>ti x y H1 fun z H2=>D.nx (σ.set i (some z)) H2
theorem ps_aug {i:Nat}{x:Str}{e:Expr}{te:TE}{op:Operator}{ti:TIp}{pos':Pos}(hN:X.N.Nodup)(hi:X.N[i]? =some x)(hx:Loc X.env.scope x)(he:PE X e te)(ho:PIp X op ti)(hf:X.fn x=true∨X.env.scope.names.lookup x=some .local:=by first | exact .inl rfl | exact .inr rfl | assumption) :
  PS X (.AugAssign (.Name x pos') op e pos) (tAug i te ti):=by
 intro aQ s σ H D I h;obtain ⟨v,e1,h⟩:=h;obtain ⟨m,hn,hl⟩:=I.loc;have vis:Vis X.env.scope x:=by rcases hx with k | k;exact .inl k;exact .inr (.inl k)
 obtain ⟨u,r,l⟩:=hl i x v hi e1 vis;refine wpAny_AugAssign_Name ?_;have go:aX (br X.prog X.w) X.A (eZ e X.env) (fun w s₂=>aX (br X.prog X.w) X.A (inplaceOp op u w) (fun r s₃=>aX (br X.prog X.w) X.A (storeName X.env x r) (fun _=>SP X aQ D .next) X.xe s₃) X.xe s₂) X.xe s:=by
  refine thn (he aQ s σ H _ I h) fun w s1 ⟨y,H1,I1,r1,q1⟩=>?_
  refine thn (ho aQ s1 σ H1 v y u w _ I1 r r1 q1) fun z s2 ⟨zv,H2,I2,r2,q2⟩=>?_
  exact store_ok I2 hN hi hx r2 (fun s3 I3=>⟨_,H2,I3,q2⟩) hf
 rcases l with ⟨hk,hm⟩ | ⟨hk,c,hc,iM⟩
 ·exact wpAny_loadName_local I.ok.kind hk hn hm go
 ·rcases hk with hk | hk
  ·exact wpAny_loadName_cell I.ok.kind hk hc iM go
  ·rcases hx with k | k
   ·have:X.env.scope.names.lookup x=some .free:=hk
    rw [k] at this;cases this
   ·have:X.env.scope.names.lookup x=some .free:=hk
    rw [k] at this;cases this
def ipI (f:Int→Int→Int):TIp:=fun x y H Q=>∃ i j,x= .int i∧y= .int j∧Q (.int (f i j)) H
theorem ip_add:PIp X .Add (ipI fun i j=>i+j):=by
 intro aQ s σ H x y v u Q I r1 r2 h;obtain ⟨i,j,e1,e2,q⟩:=h;subst e1;subst e2;obtain ⟨t,rfl⟩:=r1;obtain ⟨t',rfl⟩:=r2;exact iadd_int ⟨.int _,H,I.tok _,⟨_,rfl⟩,q⟩
theorem ip_sub:PIp X .Sub (ipI fun i j=>i - j):=by
 intro aQ s σ H x y v u Q I r1 r2 h;obtain ⟨i,j,e1,e2,q⟩:=h;subst e1;subst e2;obtain ⟨t,rfl⟩:=r1;obtain ⟨t',rfl⟩:=r2;exact isub_int ⟨.int _,H,I.tok _,⟨_,rfl⟩,q⟩
def tWhile (c:TT)(tb:TS):TS:=fun D σ H=>∃ W:Nat→St→Hp→Prop,(∃ m,W m σ H)∧∀ m σ H,W m σ H →
 c σ H fun b H1=>if b=true then ∃ N:St→Hp→Prop,(∀ σ' H',N σ' H'→∃ m',m'<m∧W m' σ' H')∧tb { D with nx:=N,ct:=N,bk:=D.nx } σ H1 else D.nx σ H1
theorem mW {c:Expr}{body:List cV}{tc:TT}{tb:TS}(hp:PassesOwn (br X.prog X.w) X.A X.env X.xe)(hc:PT X c tc)(hb:PSs X body tb):PS X (.While c body [] pos) (tWhile tc tb):=by
 intro aQ s σ H D I h;obtain ⟨W,⟨m0,w0⟩,turn⟩:=h;refine wpAny_While (codeAny_whileLoop (fun n s'=>∃ σ' H',Inv X aQ σ' H' s'∧W n σ' H') ?_ m0 ⟨σ,H,I,w0⟩);rintro n s1 ⟨σ1,H1,I1,w1⟩;refine gZ hp (thn (hc aQ s1 σ1 H1 _ I1 (turn n σ1 H1 w1)) fun b s2 ⟨H2,I2,q2⟩=>?_);cases b with
 | true =>
  obtain ⟨N,hN,q2⟩:=q2;rw [pf rfl];refine gZ hp (thn (hb aQ s2 σ1 H2 _ I2 q2) fun f s3 q3=>?_);cases f with
  | next =>
   obtain ⟨σ3,H3,I3,n3⟩:=q3;obtain ⟨m',hm,w3⟩:=hN σ3 H3 n3;exact ⟨m',hm,σ3,H3,I3,w3⟩
  | cont =>
   obtain ⟨σ3,H3,I3,n3⟩:=q3;obtain ⟨m',hm,w3⟩:=hN σ3 H3 n3;exact ⟨m',hm,σ3,H3,I3,w3⟩
  | brk=>exact q3
  | ret v=>exact q3
 | false =>
  rw [pe bb];exact wpAny_execs_nil ⟨σ1,H2,I2,q2⟩
end
structure It where
 go:Nat→Hp→Prop
 yld:Nat→Hp→V→Hp→Prop
 stop:Nat→Hp→Prop
def FpOk (X:Cx)(aQ:List (ao×Obj))(H:Hp)(b:ao):Prop :=
 H b=none∧b≠X.env.locals∧b ∉ X.fs∧(b∈X.ex∨X.s₀.heap.objs.size≤b)∧(∀ x c,X.env.cells.lookup x=some c→c≠b)∧∀ p∈X.pn++aQ,p.1≠b
theorem Inv.fpOk {X:Cx}{aQ:List (ao×Obj)}{σ:St}{H H':Hp}{s:ar}{b:ao}(I:Inv X aQ σ H s)(hb:s.heap.objs.size≤b)(hn:H' b=none):FpOk X aQ H' b:=by
 refine ⟨hn,eE (aU I.lt hb),I.nofs hb,.inr (bj I.sz hb),fun x c e z=>?_,fun p hp z=>?_⟩
 ·obtain ⟨v,q⟩:=I.cell x c e
  exact pj (aU q.lt (by rw [z];exact hb)) (fG _)
 ·exact pj (aU (aN (I.pin p hp).1) (by rw [z];exact hb)) (fG _)
structure Turn (P:aW)(w:bz)(K:ak)(tg:Expr)(J:It)(fp:List ao)(it:ao)(tn:Nat→bE→Prop):Prop where
 mem:it∈fp
 obj:∀ i h,tn i h→∀ b∈fp,∃ o,h.get? b=some o∧∀ v,o.data≠ .cell v
 keep:∀ i h h',tn i h→(∀ b∈fp,∀ o,h.get? b=some o→h'.get? b=some o)→tn i h'
 item:∀ (X:Cx),X.prog=P→X.w=w→X.K=K→X.calm=true→∀ (i:Nat) (aQ:List (ao×Obj)) (s:ar) (σ:St) (H:Hp) (E:ae→ar→Prop),Inv X aQ σ H s→(∀ b∈fp,FpOk X aQ H b)→tn i s.heap→J.go i H →
  aX (br P w) X.A (pyNext (.ref it)) (fun r s1=>∃ u,r=some u ∧
   aX (br P w) X.A (letOwnedTupleGo tg (.ref it) u) (fun _ s2=>∃ x H',Inv X aQ σ H' s2∧RelV x u∧J.yld i H x H'∧tn (i+1) s2.heap∧∀ b∈fp,H' b=none) E s1) E s
 done:∀ (X:Cx),X.prog=P→X.w=w→X.K=K→X.calm=true→∀ (i:Nat) (aQ:List (ao×Obj)) (s:ar) (σ:St) (H:Hp) (E:ae→ar→Prop),Inv X aQ σ H s→(∀ b∈fp,FpOk X aQ H b)→tn i s.heap→J.stop i H →
  aX (br P w) X.A (pyNext (.ref it)) (fun r s1=>r=none∧Inv X aQ σ H s1) E s
 self:∀ (A:bU) (i:Nat) (s:ar) (Q:ae→ar→Prop) (E:ae→ar→Prop),tn i s.heap→Q (.ref it) s→aX (br P w) A (pyIter (.ref it)) Q E s
abbrev TI:=St→Hp→(It→Hp→Prop)→Prop
def PIE (X:Cx)(aQ:List (ao×Obj))(σ:St)(tg:Expr)(R:It→Hp→Prop)(itv:ae)(s2:ar):Prop :=
 ∃ (it:ao) (fp:List ao) (tn:Nat→bE→Prop) (J:It) (H':Hp),itv= .ref it∧Inv X aQ σ H' s2∧Turn X.prog X.w X.K tg J fp it tn∧tn 0 s2.heap∧(∀ b∈fp,FpOk X aQ H' b)∧R J H'
def PI (X:Cx)(tg iter:Expr)(wi:TI):Prop :=
 ∀ (aQ:List (ao×Obj)) (s:ar) (σ:St) (H:Hp) (R:It→Hp→Prop),Inv X aQ σ H s→wi σ H R →
  aX (br X.prog X.w) X.A (eZ iter X.env) (fun v s1=>aX (br X.prog X.w) X.A (pyIter v) (PIE X aQ σ tg R) X.xe s1) X.xe s
theorem go_of {M:Model}{A:bU}{E:ae→ar→Prop}{s:ar}{tg:Expr}{it:ao}{u:ae}{o:Obj}{n:String}{vs:Array ae}{Q:Unit→ar→Prop}(ho:s.heap.get? it=some o)(hc:o.cls= .type n)(hd:o.data= .fields vs)
  (hn:["enumerate","zip","dict_itemiterator","dict_reverseitemiterator","odict_iterator","itertools.zip_longest","itertools.pairwise"].contains n=false) (hQ:Q () s):aX M A (letOwnedTupleGo tg (.ref it) u) Q E s:=by
 unfold letOwnedTupleGo;cases tg <;> first
  | exact aJ hQ
  | (cases u <;> first
    | exact aJ hQ
    | (refine ah (wpAny_load ho ?_)
       rw [hc,hd];show aX M A (if (["enumerate","zip","dict_itemiterator","dict_reverseitemiterator","odict_iterator","itertools.zip_longest","itertools.pairwise"].contains n && vs[0]? == some (rawInt _))=true then _ else _) Q E s;rw [pe (by intro h;rw [hn,Bool.false_and] at h;cases h)];exact aJ hQ))
def Itl (K:ak)(a:ao):It :=
 ⟨fun i H=>∃ xs x,SqL K H a xs∧xs[i]? =some x,fun i H x H'=>H'=H∧∀ xs,SqL K H a xs→xs[i]? =some x,fun i H=>∃ xs,SqL K H a xs∧xs.length≤i⟩
def Itt (K:ak)(a:ao):It :=
 ⟨fun i H=>∃ xs x,SqT K H a xs∧xs[i]? =some x,fun i H x H'=>H'=H∧∀ xs,SqT K H a xs→xs[i]? =some x,fun i H=>∃ xs,SqT K H a xs∧xs.length≤i⟩
def Itr (lo:Int)(n:Nat):It:=⟨fun i _=>i<n,fun i H x H'=>H'=H∧x= .int (lo+i),fun i _=>n≤i⟩
theorem turn_list {P:aW}{w:bz}{K:ak}{tg:Expr}(a it:ao):Turn P w K tg (Itl K a) [it] it (fun i h=>h.IsListIter it a i) where
 mem:=by simp
 obj:=fun i h st b hb=>by
  have e:b=it:=by simpa using hb
  subst e;obtain ⟨o,e,c,d⟩:=st;exact ⟨o,e,fun v z=>by rw [d] at z;cases z⟩
 keep:=fun i h h' st k=>st.at fun o e=>k it (by simp) o e
 item:=by
  intro X hP hw hK hc i aQ s σ H E I hf st hg;subst hP hw hK;obtain ⟨xs,x,hq,hx⟩:=hg;obtain ⟨its,rv,p,hz⟩:=I.list hq;obtain ⟨u,hu,ru⟩:=rv.get hx;obtain ⟨f0,f1,f2,f3,f4,f5⟩:=hf it (by simp);refine wpAny_pyNext_list_item st p.isList (x:=u) (by simpa using hu) fun h' st' sb=>?_
  have I1:Inv X aQ σ H { s with heap:=h' }:=I.turned (t':=s.toks) (fun b o hb e=>(sb.2 b hb).trans e) f0 f1 f3 f4 f5;obtain ⟨o,e,c,d⟩:=id st';exact ⟨u,rfl,go_of (s:={ s with heap:=h' }) e c d (by decide) ⟨x,H,I1,ru,⟨rfl,fun ys hy=>by rw [I.list_inj hy hq];exact hx⟩,st',fun b hb=>(hf b hb).1⟩⟩
 done:=by
  intro X hP hw hK hc i aQ s σ H E I hf st hg;subst hP hw hK;obtain ⟨xs,hq,hx⟩:=hg;obtain ⟨its,rv,p,hz⟩:=I.list hq;obtain ⟨f0,f1,f2,f3,f4,f5⟩:=hf it (by simp);have hl:=rv.length;exact wpAny_pyNext_list_end (I.ok.hd hc) st p.isList (by simp;omega) fun h' eb=>⟨rfl,I.turned (t':=s.toks) (fun b o hb e=>eb b o hb e) f0 f1 f3 f4 f5⟩
 self:=fun _ _ _ _ _ st h=>wpAny_pyIter_listiter st h
theorem turn_tuple {P:aW}{w:bz}{K:ak}{tg:Expr}(a it:ao):Turn P w K tg (Itt K a) [it] it (fun i h=>h.IsTupleIter it a i) where
 mem:=by simp
 obj:=fun i h st b hb=>by
  have e:b=it:=by simpa using hb
  subst e;obtain ⟨o,e,c,d⟩:=st;exact ⟨o,e,fun v z=>by rw [d] at z;cases z⟩
 keep:=fun i h h' st k=>st.at fun o e=>k it (by simp) o e
 item:=by
  intro X hP hw hK hc i aQ s σ H E I hf st hg;subst hP hw hK;obtain ⟨xs,x,hq,hx⟩:=hg;obtain ⟨its,rv,p,hz⟩:=I.tuple hq;obtain ⟨u,hu,ru⟩:=rv.get hx;obtain ⟨f0,f1,f2,f3,f4,f5⟩:=hf it (by simp);refine wpAny_pyNext_tuple_item st (show s.heap.IsTuple a its.toArray from p) (x:=u) (by simpa using hu) fun h' st' sb=>?_
  have I1:Inv X aQ σ H { s with heap:=h' }:=I.turned (t':=s.toks) (fun b o hb e=>(sb.2 b hb).trans e) f0 f1 f3 f4 f5;obtain ⟨o,e,c,d⟩:=id st';exact ⟨u,rfl,go_of (s:={ s with heap:=h' }) e c d (by decide) ⟨x,H,I1,ru,⟨rfl,fun ys hy=>by rw [I.tuple_inj hy hq];exact hx⟩,st',fun b hb=>(hf b hb).1⟩⟩
 done:=by
  intro X hP hw hK hc i aQ s σ H E I hf st hg;subst hP hw hK;obtain ⟨xs,hq,hx⟩:=hg;obtain ⟨its,rv,p,hz⟩:=I.tuple hq;obtain ⟨f0,f1,f2,f3,f4,f5⟩:=hf it (by simp);have hl:=rv.length;exact wpAny_pyNext_tuple_end (I.ok.hd hc) st (show s.heap.IsTuple a its.toArray from p) (by simp;omega) fun h' eb=>⟨rfl,I.turned (t':=s.toks) (fun b o hb e=>eb b o hb e) f0 f1 f3 f4 f5⟩
 self:=fun _ _ _ _ _ st h=>wpAny_pyIter_tupleiter st h
theorem turn_range {P:aW}{w:bz}{K:ak}{tg:Expr}(it:ao)(lo:Int)(n:Nat):Turn P w K tg (Itr lo n) [it] it (fun i h=>IsRangeIter h it (lo+(i:Nat) * 1) ((n:Int) - (i:Nat)) 1) where
 mem:=by simp
 obj:=fun i h st b hb=>by
  have e:b=it:=by simpa using hb
  subst e;exact ⟨_,st,fun v z=>by
   have z':Data.fields _=Data.cell v:=z;cases z'⟩
 keep:=fun i h h' st k=>k it (by simp) _ st
 item:=by
  intro X hP hw hK hc i aQ s σ H E I hf st hg;subst hP hw hK;obtain ⟨f0,f1,f2,f3,f4,f5⟩:=hf it (by simp);have W:=Walks.range (prog:=X.prog) (w:=X.w) (I.ok.hd hc) it lo 1 n;refine W.item i s _ _ hg st fun v h' tk hv st' kk=>?_
  obtain ⟨t,rfl⟩:=hv;have I1:Inv X aQ σ H { s with heap:=h',toks:=tk }:=I.turned (fun b o hb e=>kk b o (by simpa using hb) e) f0 f1 f3 f4 f5;refine ⟨_,rfl,go_of (s:={ s with heap:=h',toks:=tk }) (n := "range_iterator") st' rfl rfl (by decide) ⟨.int (lo+i),H,I1,⟨t,?_⟩,⟨rfl,rfl⟩,st',fun b hb=>(hf b hb).1⟩⟩;rw [Int.mul_one]
 done:=by
  intro X hP hw hK hc i aQ s σ H E I hf st hg;subst hP hw hK;obtain ⟨f0,f1,f2,f3,f4,f5⟩:=hf it (by simp);exact wpAny_pyNext_range_end (I.ok.hd hc) st (by have:n≤i:=hg;omega) fun h' eb=>⟨rfl,I.turned (t':=s.toks) (fun b o hb e=>eb b o hb e) f0 f1 f3 f4 f5⟩
 self:=fun _ _ _ _ _ st h=>wpAny_pyIter_rangeiter st h
section
variable {X:Cx} {tg:Expr}
def iList (K:ak)(tl:TE):TI:=fun σ H R=>tl σ H fun x H1=>∃ a,x= .ref a∧(∃ xs,SqL K H1 a xs)∧R (Itl K a) H1
def iTup (K:ak)(tl:TE):TI:=fun σ H R=>tl σ H fun x H1=>∃ a,x= .ref a∧(∃ xs,SqT K H1 a xs)∧R (Itt K a) H1
theorem jw {l:Expr}{tl:TE}(hl:PE X l tl):PI X tg l (iList X.K tl):=by
 intro aQ s σ H R I h;refine thn (hl aQ s σ H _ I h) fun v s1 ⟨x,H1,I1,r1,q1⟩=>?_
 obtain ⟨a,e,⟨xs,hq⟩,q⟩:=q1;subst e;cases r1;obtain ⟨its,rv,p,hz⟩:=I1.list hq;refine wpAny_pyIter_list p.isList ?_;refine ⟨s1.heap.objs.size,[s1.heap.objs.size],_,_,H1,rfl,I1.kept (t':=s1.toks) fun b o e=>au _ e,turn_list a _,⟨_,bg _ rfl,rfl,rfl⟩,fun b hb=>?_,q⟩;have e:b=s1.heap.objs.size:=by simpa using hb
 subst e;exact I1.fpOk (aC _) (I1.hok.fresh (aC _))
theorem kD {l:Expr}{tl:TE}(hl:PE X l tl):PI X tg l (iTup X.K tl):=by
 intro aQ s σ H R I h;refine thn (hl aQ s σ H _ I h) fun v s1 ⟨x,H1,I1,r1,q1⟩=>?_
 obtain ⟨a,e,⟨xs,hq⟩,q⟩:=q1;subst e;cases r1;obtain ⟨its,rv,p,hz⟩:=I1.tuple hq;refine wpAny_pyIter_tuple (show s1.heap.IsTuple a its.toArray from p) ?_;refine ⟨s1.heap.objs.size,[s1.heap.objs.size],_,_,H1,rfl,I1.kept (t':=s1.toks) fun b o e=>au _ e,turn_tuple a _,⟨_,bg _ rfl,rfl,rfl⟩,fun b hb=>?_,q⟩;have e:b=s1.heap.objs.size:=by simpa using hb
 subst e;exact I1.fpOk (aC _) (I1.hok.fresh (aC _))
theorem range_it {aQ:List (ao×Obj)}{σ:St}{H:Hp}{s:ar}{R:It→Hp→Prop}{E:ae→ar→Prop}{lo hi:Int}{t u v:Tok}{tk:Nat}(I:Inv X aQ σ H s)(h1: -(2 ^ 62)≤lo)(h2:lo<2 ^ 62)(h3: -(2 ^ 62)≤hi)(h4:hi<2 ^ 62)
  (q:R (Itr lo (hi - lo).toNat) H):aX (br X.prog X.w) X.A (pyIter (.ref s.heap.objs.size)) (PIE X aQ σ tg R) E { s with heap:=s.heap.push { cls:= .type "range",data:= .fields #[.int lo t,.int hi u,.int 1 v] },toks:=tk }:=by
 refine wpAny_pyIter_range (IsRange.new ..) (small_one h1 h2 h3 h4) ?_;have I1:Inv X aQ σ H { s with heap:=s.heap.push { cls:= .type "range",data:= .fields #[.int lo t,.int hi u,.int 1 v] },toks:=tk }:=I.kept fun b o e=>au _ e
 refine ⟨(s.heap.push { cls:= .type "range",data:= .fields #[.int lo t,.int hi u,.int 1 v] }).objs.size,[(s.heap.push { cls:= .type "range",data:= .fields #[.int lo t,.int hi u,.int 1 v] }).objs.size],_,_,H,rfl,
  I1.kept (t':=tk) fun b o e=>au _ e,turn_range _ lo (hi - lo).toNat,?_,fun b hb=>?_,q⟩
 ·have e1:lo+((0:Nat):Int) * 1=lo:=by simp
  have e2:(((hi - lo).toNat:Nat):Int) - ((0:Nat):Int)=d9 lo hi 1:=by rw [rangeSize_one];split <;> omega
  show IsRangeIter _ _ (lo+((0:Nat):Int) * 1) ((((hi - lo).toNat:Nat):Int) - ((0:Nat):Int)) 1;rw [e1,e2];exact bg _ rfl
 ·have e:b=(s.heap.push { cls:= .type "range",data:= .fields #[.int lo t,.int hi u,.int 1 v] }).objs.size:=by simpa using hb
  subst e;exact I1.fpOk (aC _) (I1.hok.fresh (aC _))
def iRng1 (ta:TA):TI:=fun σ H R=>ta σ H fun vs H1=>∃ j:Int,vs=[.int j]∧ -(2 ^ 62)≤j∧j<2 ^ 62∧R (Itr 0 j.toNat) H1
def iRng2 (ta:TA):TI:=fun σ H R=>ta σ H fun vs H1=>∃ i j:Int,vs=[.int i,.int j]∧(-(2 ^ 62)≤i∧i<2 ^ 62∧ -(2 ^ 62)≤j∧j<2 ^ 62)∧R (Itr i (j - i).toNat) H1
theorem iE {a:Expr}{ta:TA}{p pos:Pos}(hg:Gl X "range")(hm:X.mg "range" =none)(ha:PA X [a] ta)(hs:bC [a] X.env=[(false,eZ a X.env)]:=by rfl):PI X tg (.Call (.Name "range" p) [a] [] pos) (iRng1 ta):=by
 intro aQ s σ H R I h;refine Call_ (lV I hg hm boot_range (fe (thn (ha pos aQ s σ H _ I h) fun us s1 ⟨vs,H1,I1,r1,q1⟩=>?_) hs rfl));obtain ⟨j,e,q1,q2,q⟩:=q1;subst e;cases r1 with
 | cons r rr =>
  cases rr;obtain ⟨t,rfl⟩:=r;exact call_range_1 (range_it I1 (by omega) (by omega) q1 q2 (by simpa using q))
theorem pi_range2 {a b:Expr}{ta:TA}{p pos:Pos}(hg:Gl X "range")(hm:X.mg "range" =none)(ha:PA X [a,b] ta)(hs:bC [a,b] X.env=[(false,eZ a X.env),(false,eZ b X.env)]:=by rfl)(hs2:bC [b] X.env=[(false,eZ b X.env)]:=by rfl) :
  PI X tg (.Call (.Name "range" p) [a,b] [] pos) (iRng2 ta):=by
 intro aQ s σ H R I h;refine Call_ (lV I hg hm boot_range (fe (thn (ha pos aQ s σ H _ I h) fun us s1 ⟨vs,H1,I1,r1,q1⟩=>?_) (by rw [hs,hs2]) (by rw [hs2];rfl)));obtain ⟨i,j,e,⟨q1,q2,q3,q4⟩,q⟩:=q1;subst e;cases r1 with
 | cons r rr =>
  cases rr with
  | cons r' rr =>
   cases rr;obtain ⟨t,rfl⟩:=r;obtain ⟨t',rfl⟩:=r';exact call_range_2 (range_it I1 q1 q2 q3 q4 q)
def tFor (wi:TI)(g:TG)(tb:TS):TS:=fun D σ H=>wi σ H fun J H1=>∃ W:Nat→Nat→St→Hp→Prop,(∃ m,W 0 m σ H1)∧∀ i m σ H,W i m σ H →
 (J.stop i H∧D.nx σ H)∨(J.go i H∧∃ N:St→Hp→Prop,(∀ σ' H',N σ' H'→∃ m',m'<m∧W (i+1) m' σ' H')∧∀ x H',J.yld i H x H'→g x σ H' fun σ2 H2=>tb { D with nx:=N,ct:=N,bk:=D.nx } σ2 H2)
def pinsAt (fp:List ao)(h:bE):List (ao×Obj):=fp.filterMap fun b=>(h.get? b).map fun o=>(b,o)
theorem kO {fp:List ao}{h:bE}{b:ao}{o:Obj}(hb:b∈fp)(e:h.get? b=some o):(b,o)∈pinsAt fp h:=List.mem_filterMap.mpr ⟨b,hb,by rw [e];rfl⟩
theorem of_pinsAt {fp:List ao}{h:bE}{p:ao×Obj}(hp:p∈pinsAt fp h):p.1∈fp∧h.get? p.1=some p.2:=by
 obtain ⟨b,hb,e⟩:=List.mem_filterMap.mp hp;cases q:h.get? b with
 | none=>rw [q] at e;cases e
 | some o =>
  rw [q] at e;have e':(b,o)=p:=cq e;subst e';exact ⟨hb,q⟩
theorem Inv.pinned {aQ:List (ao×Obj)}{σ:St}{H:Hp}{s:ar}{fp:List ao}(I:Inv X aQ σ H s)(hf:∀ b∈fp,FpOk X aQ H b)(ho:∀ b∈fp,∃ o,s.heap.get? b=some o∧∀ v,o.data≠ .cell v):Inv X (aQ++pinsAt fp s.heap) σ H s :=
 I.pins_of fun p hp=>(aM.mp hp).elim (fun z=>I.pin p (aG _ z)) fun z=>by
  obtain ⟨hb,e⟩:=of_pinsAt z;obtain ⟨f0,f1,f2,_⟩:=hf p.1 hb;obtain ⟨o,e',d⟩:=ho p.1 hb;rw [e] at e';cases e';exact ⟨e,f0,f1,f2,d⟩
theorem Inv.unpinned {aQ pl:List (ao×Obj)}{σ:St}{H:Hp}{s:ar}(I:Inv X (aQ++pl) σ H s):Inv X aQ σ H s:=I.pins_of fun p hp=>I.pin p (aG _ (aE _ hp))
theorem iC {iter:Expr}{body:List cV}{wi:TI}{g:TG}{tb:TS}{pos:Pos}(hp:PassesOwn (br X.prog X.w) X.A X.env X.xe)(hc:X.calm=true)(hi:PI X tg iter wi)(hg:PG X tg g)(hb:PSs X body tb)
  (hs:∀ x,ia iter X.env x=fQ x:=by intro _;rfl):PS X (.For tg iter body [] pos) (tFor wi g tb):=by
 intro aQ s σ H D I h;refine wpAny_For (thn (hi aQ s σ H _ I h) fun v s1 h1=>thn h1 fun itv s2 h2=>?_) hs;obtain ⟨it,fp,tn,J,H2,e,I2,T,st2,f2,W,⟨m0,w0⟩,turn⟩:=h2;subst e;have stat:∀ {H':Hp},(∀ b∈fp,H' b=none)→∀ b∈fp,FpOk X aQ H' b:=fun hn b hb=>⟨hn b hb,(f2 b hb).2⟩
 refine codeAny_forLoop_any (fun n s'=>∃ i σ' H',Inv X aQ σ' H' s'∧tn i s'.heap∧(∀ b∈fp,H' b=none)∧W i n σ' H') ?_ m0 ⟨0,σ,H2,I2,st2,fun b hb=>(f2 b hb).1,w0⟩;rintro n s3 ⟨i,σ3,H3,I3,st3,fr3,w3⟩
 rcases turn i n σ3 H3 w3 with ⟨stop,qn⟩ | ⟨go,N,hN,step⟩
 ·refine gZ hp (thn (T.done X rfl rfl rfl hc i aQ s3 σ3 H3 X.xe I3 (stat fr3) st3 stop) fun r s4 ⟨hr,I4⟩=>?_)
  subst hr;exact wpAny_execs_nil ⟨σ3,H3,I4,qn⟩
 ·refine gZ hp (thn (T.item X rfl rfl rfl hc i aQ s3 σ3 H3 X.xe I3 (stat fr3) st3 go) fun r s4 ⟨u,hr,h4⟩=>?_)
  subst hr;refine gZ hp (thn h4 fun _ s5 ⟨x,H5,I5,r5,y5,st5,fr5⟩=>?_);have I5':=I5.pinned (stat fr5) (T.obj _ _ st5);refine gZ hp (thn (hg _ s5 σ3 H5 x u _ I5' r5 (step x H5 y5)) fun _ s6 ⟨σ6,H6,I6,q6⟩=>?_);refine gZ hp (thn (hb _ s6 σ6 H6 _ I6 q6) fun f s7 q7=>?_);have again:∀ {σ7:St} {H7:Hp},Inv X (aQ++pinsAt fp s5.heap) σ7 H7 s7→N σ7 H7→∃ m,m<n∧∃ i σ' H',Inv X aQ σ' H' s7∧tn i s7.heap∧(∀ b∈fp,H' b=none)∧W i m σ' H':=fun {σ7 H7} I7 n7=>by
   obtain ⟨m',hm,w7⟩:=hN σ7 H7 n7;refine ⟨m',hm,i+1,σ7,H7,I7.unpinned,T.keep _ _ _ st5 fun b hb o e=>(I7.pin (b,o) (aG _ (aG _ (kO hb e)))).1,fun b hb=>?_,w7⟩;obtain ⟨o,e,d⟩:=T.obj _ _ st5 b hb;exact (I7.pin (b,o) (aG _ (aG _ (kO hb e)))).2.1
  cases f with
  | next=>obtain ⟨σ7,H7,I7,n7⟩:=q7;exact again I7 n7
  | cont=>obtain ⟨σ7,H7,I7,n7⟩:=q7;exact again I7 n7
  | brk=>obtain ⟨σ7,H7,I7,q7⟩:=q7;exact ⟨σ7,H7,I7.unpinned,q7⟩
  | ret v=>obtain ⟨x7,σ7,H7,I7,r7,q7⟩:=q7;exact ⟨x7,σ7,H7,I7.unpinned,r7,q7⟩
end
theorem ki {K:ak}{a:ao}{xs:List V}{g:TG}{tb:TS}{D:Ends}{σ:St}{H:Hp}(Pv:Nat→St→Hp→Prop)(h0:Pv 0 σ H)(hl:∀ i σ H,i≤xs.length→Pv i σ H→SqL K H a xs)
  (hs:∀ i x σ H,xs[i]? =some x→Pv i σ H→g x σ H fun σ2 H2=>tb { D with nx:=Pv (i+1),ct:=Pv (i+1),bk:=D.nx } σ2 H2) (hd:∀ σ H,Pv xs.length σ H→D.nx σ H) :
  ∃ W:Nat→Nat→St→Hp→Prop,(∃ m,W 0 m σ H)∧∀ i m σ H,W i m σ H →
   ((Itl K a).stop i H∧D.nx σ H)∨((Itl K a).go i H∧∃ N:St→Hp→Prop,(∀ σ' H',N σ' H'→∃ m',m'<m∧W (i+1) m' σ' H')∧∀ x H',(Itl K a).yld i H x H'→g x σ H' fun σ2 H2=>tb { D with nx:=N,ct:=N,bk:=D.nx } σ2 H2):=by
 refine ⟨fun i m σ H=>m=xs.length - i∧i≤xs.length∧Pv i σ H,⟨xs.length,by simp,bI _,h0⟩,?_⟩;rintro i m σ H ⟨rfl,hi,p⟩;have q:=hl i σ H hi p
 by_cases hlt:i<xs.length
 ·refine .inr ⟨⟨xs,xs[i],q,by simp [hlt]⟩,Pv (i+1),fun σ' H' p'=>⟨xs.length - (i+1),by omega,rfl,hlt,p'⟩,fun x H' y=>?_⟩
  obtain ⟨e,y⟩:=y;subst e;exact hs i x σ _ (y xs q) p
 ·have e:i=xs.length:=by omega
  subst e;exact .inl ⟨⟨xs,q,aC _⟩,hd σ H p⟩
theorem for_tup {K:ak}{a:ao}{xs:List V}{g:TG}{tb:TS}{D:Ends}{σ:St}{H:Hp}(Pv:Nat→St→Hp→Prop)(h0:Pv 0 σ H)(hl:∀ i σ H,i≤xs.length→Pv i σ H→SqT K H a xs)
  (hs:∀ i x σ H,xs[i]? =some x→Pv i σ H→g x σ H fun σ2 H2=>tb { D with nx:=Pv (i+1),ct:=Pv (i+1),bk:=D.nx } σ2 H2) (hd:∀ σ H,Pv xs.length σ H→D.nx σ H) :
  ∃ W:Nat→Nat→St→Hp→Prop,(∃ m,W 0 m σ H)∧∀ i m σ H,W i m σ H →
   ((Itt K a).stop i H∧D.nx σ H)∨((Itt K a).go i H∧∃ N:St→Hp→Prop,(∀ σ' H',N σ' H'→∃ m',m'<m∧W (i+1) m' σ' H')∧∀ x H',(Itt K a).yld i H x H'→g x σ H' fun σ2 H2=>tb { D with nx:=N,ct:=N,bk:=D.nx } σ2 H2):=by
 refine ⟨fun i m σ H=>m=xs.length - i∧i≤xs.length∧Pv i σ H,⟨xs.length,by simp,bI _,h0⟩,?_⟩;rintro i m σ H ⟨rfl,hi,p⟩;have q:=hl i σ H hi p
 by_cases hlt:i<xs.length
 ·refine .inr ⟨⟨xs,xs[i],q,by simp [hlt]⟩,Pv (i+1),fun σ' H' p'=>⟨xs.length - (i+1),by omega,rfl,hlt,p'⟩,fun x H' y=>?_⟩
  obtain ⟨e,y⟩:=y;subst e;exact hs i x σ _ (y xs q) p
 ·have e:i=xs.length:=by omega
  subst e;exact .inl ⟨⟨xs,q,aC _⟩,hd σ H p⟩
theorem jW {lo:Int}{n:Nat}{g:TG}{tb:TS}{D:Ends}{σ:St}{H:Hp}(Pv:Nat→St→Hp→Prop)(h0:Pv 0 σ H)
  (hs:∀ i σ H,i<n→Pv i σ H→g (.int (lo+i)) σ H fun σ2 H2=>tb { D with nx:=Pv (i+1),ct:=Pv (i+1),bk:=D.nx } σ2 H2) (hd:∀ σ H,Pv n σ H→D.nx σ H) :
  ∃ W:Nat→Nat→St→Hp→Prop,(∃ m,W 0 m σ H)∧∀ i m σ H,W i m σ H →
   ((Itr lo n).stop i H∧D.nx σ H)∨((Itr lo n).go i H∧∃ N:St→Hp→Prop,(∀ σ' H',N σ' H'→∃ m',m'<m∧W (i+1) m' σ' H')∧∀ x H',(Itr lo n).yld i H x H'→g x σ H' fun σ2 H2=>tb { D with nx:=N,ct:=N,bk:=D.nx } σ2 H2):=by
 refine ⟨fun i m σ H=>m=n - i∧i≤n∧Pv i σ H,⟨n,by simp,bI _,h0⟩,?_⟩;rintro i m σ H ⟨rfl,hi,p⟩
 by_cases hlt:i<n
 ·refine .inr ⟨hlt,Pv (i+1),fun σ' H' p'=>⟨n - (i+1),by omega,rfl,hlt,p'⟩,fun x H' y=>?_⟩
  obtain ⟨e,y⟩:=y;subst e y;exact hs i σ _ hlt p
 ·have e:i=n:=by omega
  subst e;exact .inl ⟨aC _,hd σ H p⟩
abbrev R2:=V→V→Hp→VK→Prop
def OpR (X:Cx)(f:ae→ae→Sem ae)(r:R2):Prop :=
 ∀ (aQ:List (ao×Obj)) (s:ar) (σ:St) (H:Hp) (x y:V) (v u:ae) (Q:VK),Inv X aQ σ H s→RelV x v→RelV y u→r x y H Q →
  aX (br X.prog X.w) X.A (f v u) (EP X aQ σ Q) X.xe s
def UnR (X:Cx)(f:ae→Sem ae)(r:V→Hp→VK→Prop):Prop :=
 ∀ (aQ:List (ao×Obj)) (s:ar) (σ:St) (H:Hp) (x:V) (v:ae) (Q:VK),Inv X aQ σ H s→RelV x v→r x H Q →
  aX (br X.prog X.w) X.A (f v) (EP X aQ σ Q) X.xe s
def CallR (X:Cx)(f:ae)(r:List V→Hp→VK→Prop):Prop :=
 ∀ (aQ:List (ao×Obj)) (s:ar) (σ:St) (H:Hp) (xs:List V) (us:List ae) (Q:VK),Inv X aQ σ H s→Vals xs us→r xs H Q →
  aX (br X.prog X.w) X.A (call f us) (EP X aQ σ Q) X.xe s
def tOp (r:R2)(ta tb:TE):TE:=fun σ H Q=>ta σ H fun x H1=>tb σ H1 fun y H2=>r x y H2 Q
def tUn (r:V→Hp→VK→Prop)(ta:TE):TE:=fun σ H Q=>ta σ H fun x H1=>r x H1 Q
inductive rI (C:Int→Int→Prop)(g:Int→Int→V)(x:V)(y:V)(H:Hp)(Q:VK):Prop
 | mk (i j:_)(_:x= .int i)(_:y= .int j)(_:C i j)(_:Q (g i j) H)
inductive rI0 (g:Int→Int→V)(x:V)(y:V)(H:Hp)(Q:VK):Prop
 | mk (i j:_)(_:x= .int i)(_:y= .int j)(_:Q (g i j) H)
inductive rU (g:Int→V)(x:V)(H:Hp)(Q:VK):Prop
 | mk (i:_)(_:x= .int i)(_:Q (g i) H)
section
variable {X:Cx} {a b c:Expr} {ta tb tc:TE} {pos:Pos}
theorem binT (ha:PE X a ta)(hb:PE X b tb){aQ:List (ao×Obj)}{s:ar}{σ:St}{H:Hp}{R:V→V→Hp→Prop}(I:Inv X aQ σ H s)
  (h:ta σ H fun x H1=>tb σ H1 fun y H2=>R x y H2) {Q:ae→ar→Prop} {f:ae→ae→Sem ae}
  (hf:∀ v u s2 x y H2,Inv X aQ σ H2 s2→RelV x v→RelV y u→R x y H2→aX (br X.prog X.w) X.A (f v u) Q X.xe s2) :
  aX (br X.prog X.w) X.A (eZ a X.env) (fun v s₁=>aX (br X.prog X.w) X.A (eZ b X.env) (fun u s₂=>aX (br X.prog X.w) X.A (f v u) Q X.xe s₂) X.xe s₁) X.xe s:=by
 refine thn (ha aQ s σ H _ I h) fun v s1 ⟨x,H1,I1,r1,q1⟩=>?_
 refine thn (hb aQ s1 σ H1 _ I1 q1) fun u s2 ⟨y,H2,I2,r2,q2⟩=>?_
 exact hf v u s2 x y H2 I2 r1 r2 q2
theorem bX {op:Operator}{r:R2}(ho:OpR X (gC op) r)(ha:PE X a ta)(hb:PE X b tb):PE X (.BinOp a op b pos) (tOp r ta tb):=by
 intro aQ s σ H Q I h;exact wpAny_BinOp (binT ha hb I h fun v u s2 x y H2 I2 rx ry q=>ho aQ s2 σ H2 x y v u Q I2 rx ry q)
theorem mN {op:UnaryOp}{r:V→Hp→VK→Prop}(ho:UnR X (unaryOp op) r)(ha:PE X a ta):PE X (.UnaryOp op a pos) (tUn r ta):=by
 intro aQ s σ H Q I h;exact UnaryOp_ (thn (ha aQ s σ H _ I h) fun v s1 ⟨x,H1,I1,r1,q1⟩=>ho aQ s1 σ H1 x v Q I1 r1 q1)
theorem opI {f:ae→ae→Sem ae}{C:Int→Int→Prop}{g:Int→Int→Int}
  (rule:∀ (i j:Int) (t u:Tok) (s:ar) (Q:ae→ar→Prop) (E:ae→ar→Prop),C i j→Q (.int (g i j) s.toks) { s with toks:=s.toks+1 }→aX (br X.prog X.w) X.A (f (.int i t) (.int j u)) Q E s) :
  OpR X f (rI C fun i j=> .int (g i j)):=by
 intro aQ s σ H x y v u Q I rx ry h;obtain ⟨i,j,rfl,rfl,hc,q⟩:=h;obtain ⟨t,rfl⟩:=rx;obtain ⟨t',rfl⟩:=ry;exact rule i j t t' s _ _ hc ⟨.int (g i j),H,I.tok _,⟨_,rfl⟩,q⟩
theorem opI0 {f:ae→ae→Sem ae}{g:Int→Int→Int}
  (rule:∀ (i j:Int) (t u:Tok) (s:ar) (Q:ae→ar→Prop) (E:ae→ar→Prop),Q (.int (g i j) s.toks) { s with toks:=s.toks+1 }→aX (br X.prog X.w) X.A (f (.int i t) (.int j u)) Q E s) :
  OpR X f (rI0 fun i j=> .int (g i j)):=by
 intro aQ s σ H x y v u Q I rx ry h;obtain ⟨i,j,rfl,rfl,q⟩:=h;obtain ⟨t,rfl⟩:=rx;obtain ⟨t',rfl⟩:=ry;exact rule i j t t' s _ _ ⟨.int (g i j),H,I.tok _,⟨_,rfl⟩,q⟩
theorem opB0 {f:ae→ae→Sem ae}{g:Int→Int→Bool}
  (rule:∀ (i j:Int) (t u:Tok) (s:ar) (Q:ae→ar→Prop) (E:ae→ar→Prop),Q (.bool (g i j)) s→aX (br X.prog X.w) X.A (f (.int i t) (.int j u)) Q E s) :
  OpR X f (rI0 fun i j=> .bl (g i j)):=by
 intro aQ s σ H x y v u Q I rx ry h;obtain ⟨i,j,rfl,rfl,q⟩:=h;obtain ⟨t,rfl⟩:=rx;obtain ⟨t',rfl⟩:=ry;exact rule i j t t' s _ _ ⟨.bl (g i j),H,I,rfl,q⟩
def CDiv (i j:Int):Prop:=0<j∧j<1073741824
def CPow (i j:Int):Prop:=0≤j∧j≤1000000∧i.natAbs<2 ^ 64
def CMul (i j:Int):Prop:=(-(2 ^ 64)<i∧i<2 ^ 64)∨(-(2 ^ 64)<j∧j<2 ^ 64)
theorem CMul.ok {i j:Int}(h:CMul i j):IntMulOk i j:=by
 rcases h with ⟨h1,h2⟩ | ⟨h1,h2⟩
 ·exact .of_left (intBits_le_64 h1 h2)
 ·exact .of_right (intBits_le_64 h1 h2)
theorem dM:OpR X (gC .Add) (rI0 fun i j=> .int (i+j)):=opI0 fun _ _ _ _ _ _ _ q=>add_int q
theorem gp:OpR X (gC .Sub) (rI0 fun i j=> .int (i - j)):=opI0 fun _ _ _ _ _ _ _ q=>sub_int q
theorem kG:OpR X (gC .Mult) (rI CMul fun i j=> .int (i * j)):=opI fun _ _ _ _ _ _ _ hc q=>mul_int q hc.ok
theorem op_fdiv:OpR X (gC .FloorDiv) (rI CDiv fun i j=> .int (i / j)):=opI fun i j _ _ _ _ _ hc q=>by
 have h1:(0:Int)<j:=hc.1;have h2:j<1073741824:=hc.2;exact floordiv_int (by omega) (by rw [Int.fdiv_eq_ediv_of_nonneg i (by omega)];exact q) (.inl (PyProof.noPylong_small (by omega)))
theorem i9:OpR X (gC .Mod) (rI (fun _ j=>0<j) fun i j=> .int (i % j)):=opI fun i j _ _ _ _ _ hc q=>by
 have h1:(0:Int)<j:=hc;exact mod_int' (by omega) (by rw [Int.fmod_eq_emod_of_nonneg i (by omega)];exact q)
theorem op_pow:OpR X (gC .Pow) (rI CPow fun i j=> .int (i ^ j.toNat)):=opI fun _ _ _ _ _ _ _ hc q=>pow_int_small hc.1 hc.2.1 hc.2.2 q
theorem unI {f:ae→Sem ae}{g:Int→Int}
  (rule:∀ (i:Int) (t:Tok) (s:ar) (Q:ae→ar→Prop) (E:ae→ar→Prop),Q (.int (g i) s.toks) { s with toks:=s.toks+1 }→aX (br X.prog X.w) X.A (f (.int i t)) Q E s) :
  UnR X f (rU fun i=> .int (g i)):=by
 intro aQ s σ H x v Q I rx h;obtain ⟨i,rfl,q⟩:=h;obtain ⟨t,rfl⟩:=rx;exact rule i t s _ _ ⟨.int (g i),H,I.tok _,⟨_,rfl⟩,q⟩
theorem km:UnR X (unaryOp .USub) (rU fun i=> .int (-i)):=unI fun _ _ _ _ _ q=>neg_int q
end
def scal:V→V→Bool
 | .non,.non=>true | .non,.int _=>true | .int _,.non=>true | .non,.bl _=>true | .bl _,.non=>true | .non,.str _=>true | .str _,.non=>true
 | .int _,.int _=>true | .bl _,.bl _=>true | .str _,.str _=>true | .byt _,.byt _=>true
 | .int _,.str _=>true | .str _,.int _=>true | .bl _,.str _=>true | .str _,.bl _=>true
 | _,_=>false
def rEq:R2:=fun x y H Q=>scal x y=true∧Q (.bl (decide (x=y))) H
def rNe:R2:=fun x y H Q=>scal x y=true∧Q (.bl (!decide (x=y))) H
theorem dec_int {i j:Int}:decide (V.int i=V.int j)=(i == j):=by
 rw [Bool.eq_iff_iff];simp
theorem dec_bl {i j:Bool}:decide (V.bl i=V.bl j)=(i == j):=by
 rw [Bool.eq_iff_iff];simp
theorem dec_str {i j:Str}:decide (V.str i=V.str j)=(i == j):=by
 rw [Bool.eq_iff_iff];simp
theorem dec_byt {i j:Array UInt8}:decide (V.byt i=V.byt j)=(i.toList == j.toList):=by
 rw [Bool.eq_iff_iff];cases i;cases j;simp
section
variable {X:Cx} {a b c:Expr} {ta tb tc:TE} {pos:Pos}
theorem fh {aQ:List (ao×Obj)}{σ:St}{H:Hp}{s:ar}{Q:VK}{k k':Bool}(I:Inv X aQ σ H s)(q:Q (.bl k) H)(e:k=k'):EP X aQ σ Q (.bool k') s:=by
 subst e;exact ⟨.bl k,H,I,rfl,q⟩
theorem lQ:OpR X (fE .Eq) rEq:=by
 intro aQ s σ H x y v u Q I rx ry h;obtain ⟨hs,q⟩:=h;cases x with
 | non =>
  cases rx;cases y with
  | non=>cases ry;exact PySem.EqNone.eq_none_none (fh I q (by simp))
  | bl j=>cases ry;exact PySem.EqNone.eq_none_bool (fh I q (by simp))
  | int j=>obtain ⟨t',rfl⟩:=ry;exact PySem.EqNone.eq_none_int (fh I q (by simp))
  | str j=>obtain ⟨t',rfl⟩:=ry;exact PySem.EqNone.eq_none_str (fh I q (by simp))
  | _=>exact pj (show false=true from hs) bb
 | bl i =>
  cases rx;cases y with
  | non=>cases ry;exact PySem.EqNone.eq_bool_none (fh I q (by simp))
  | bl j=>cases ry;exact eq_bool (fh I q dec_bl)
  | str j=>obtain ⟨t',rfl⟩:=ry;exact PySem.EqMixed.eq_bool_str (fh I q (by simp))
  | _=>exact pj (show false=true from hs) bb
 | int i =>
  obtain ⟨t,rfl⟩:=rx;cases y with
  | non=>cases ry;exact PySem.EqNone.eq_int_none (fh I q (by simp))
  | int j=>obtain ⟨t',rfl⟩:=ry;exact eq_int (fh I q dec_int)
  | str j=>obtain ⟨t',rfl⟩:=ry;exact PySem.EqMixed.eq_int_str (fh I q (by simp))
  | _=>exact pj (show false=true from hs) bb
 | str i =>
  obtain ⟨t,rfl⟩:=rx;cases y with
  | non=>cases ry;exact PySem.EqNone.eq_str_none (fh I q (by simp))
  | bl j=>cases ry;exact PySem.EqMixed.eq_str_bool (fh I q (by simp))
  | int j=>obtain ⟨t',rfl⟩:=ry;exact PySem.EqMixed.eq_str_int (fh I q (by simp))
  | str j=>obtain ⟨t',rfl⟩:=ry;exact eq_str (fh I q dec_str)
  | _=>exact pj (show false=true from hs) bb
 | byt i =>
  obtain ⟨t,rfl⟩:=rx;cases y with
  | byt j=>obtain ⟨t',rfl⟩:=ry;exact PySem.W.eq_bytes (fh I q dec_byt)
  | _=>exact pj (show false=true from hs) bb
 | _=>cases y <;> exact pj (show false=true from hs) bb
theorem nY:OpR X (fE .NotEq) rNe:=by
 intro aQ s σ H x y v u Q I rx ry h;obtain ⟨hs,q⟩:=h;cases x with
 | non =>
  cases rx;cases y with
  | non=>cases ry;exact PySem.EqNone.ne_none_none (fh I q (by simp))
  | bl j=>cases ry;exact PySem.EqNone.ne_none_bool (fh I q (by simp))
  | int j=>obtain ⟨t',rfl⟩:=ry;exact PySem.EqNone.ne_none_int (fh I q (by simp))
  | str j=>obtain ⟨t',rfl⟩:=ry;exact PySem.EqNone.ne_none_str (fh I q (by simp))
  | _=>exact pj (show false=true from hs) bb
 | bl i =>
  cases rx;cases y with
  | non=>cases ry;exact PySem.EqNone.ne_bool_none (fh I q (by simp))
  | bl j=>cases ry;exact ne_bool (fh I q (pG not dec_bl))
  | str j=>obtain ⟨t',rfl⟩:=ry;exact PySem.EqMixed.ne_bool_str (fh I q (by simp))
  | _=>exact pj (show false=true from hs) bb
 | int i =>
  obtain ⟨t,rfl⟩:=rx;cases y with
  | non=>cases ry;exact PySem.EqNone.ne_int_none (fh I q (by simp))
  | int j=>obtain ⟨t',rfl⟩:=ry;exact ne_int (fh I q (pG not dec_int))
  | str j=>obtain ⟨t',rfl⟩:=ry;exact PySem.EqMixed.ne_int_str (fh I q (by simp))
  | _=>exact pj (show false=true from hs) bb
 | str i =>
  obtain ⟨t,rfl⟩:=rx;cases y with
  | non=>cases ry;exact PySem.EqNone.ne_str_none (fh I q (by simp))
  | bl j=>cases ry;exact PySem.EqMixed.ne_str_bool (fh I q (by simp))
  | int j=>obtain ⟨t',rfl⟩:=ry;exact PySem.EqMixed.ne_str_int (fh I q (by simp))
  | str j=>obtain ⟨t',rfl⟩:=ry;exact ne_str (fh I q (pG not dec_str))
  | _=>exact pj (show false=true from hs) bb
 | byt i =>
  obtain ⟨t,rfl⟩:=rx;cases y with
  | byt j=>obtain ⟨t',rfl⟩:=ry;exact PySem.W.ne_bytes (fh I q (pG not dec_byt))
  | _=>exact pj (show false=true from hs) bb
 | _=>cases y <;> exact pj (show false=true from hs) bb
theorem oH:OpR X (fE .Lt) (rI0 fun i j=> .bl (decide (i<j))):=opB0 fun _ _ _ _ _ _ _ q=>lt_int q
theorem op_le:OpR X (fE .LtE) (rI0 fun i j=> .bl (decide (i≤j))):=opB0 fun _ _ _ _ _ _ _ q=>le_int q
theorem op_gt:OpR X (fE .Gt) (rI0 fun i j=> .bl (decide (j<i))):=opB0 fun _ _ _ _ _ _ _ q=>gt_int q
theorem op_ge:OpR X (fE .GtE) (rI0 fun i j=> .bl (decide (j≤i))):=opB0 fun _ _ _ _ _ _ _ q=>ge_int q
theorem op_isN:OpR X (fE .Is) (fun x y H Q=>y= .non∧Q (.bl (decide (x= .non))) H):=by
 intro aQ s σ H x y v u Q I rx ry h;obtain ⟨rfl,q⟩:=h;cases ry;refine is_none_gen (fh I q ?_);cases x <;> first
  | (cases rx;rfl)
  | (obtain ⟨t,rfl⟩:=rx;rfl)
theorem cZ (b:Expr){op:CmpOp}(h:op≠ .In:=by decide)(h2:op≠ .NotIn:=by decide):behindInMarks op b=false:=by
 have e1:(op == CmpOp.In)=false:=by cases op <;> first | rfl | exact pj rfl h
 have e2:(op == CmpOp.NotIn)=false:=by cases op <;> first | rfl | exact pj rfl h2
 cases b <;> simp [behindInMarks,e1,e2]
theorem k7 {op:CmpOp}{r:R2}(ho:OpR X (fE op) r)(ha:PE X a ta)(hb:PE X b tb)(hm:behindInMarks op b=false):PE X (.Compare a [op] [b] pos) (tOp r ta tb):=by
 intro aQ s σ H Q I h;exact wpAny_Compare1 (binT ha hb I h fun v u s2 x y H2 I2 rx ry q=>ho aQ s2 σ H2 x y v u Q I2 rx ry q) hm
def tTest (t:TE):TT:=fun σ H Q=>t σ H fun x H'=>IsBl x fun k=>Q k H'
theorem cA {op:CmpOp}{r:R2}(ho:OpR X (fE op) r)(ha:PE X a ta)(hb:PE X b tb)(hm:behindInMarks op b=false):PT X (.Compare a [op] [b] pos) (tTest (tOp r ta tb)):=by
 intro aQ s σ H Q I h;refine wpAny_isTrue_Compare1 (thn (ha aQ s σ H _ I h) fun v s1 ⟨x,H1,I1,r1,q1⟩=>thn (hb aQ s1 σ H1 _ I1 q1) fun u s2 ⟨y,H2,I2,r2,q2⟩ =>
  thn (ho aQ s2 σ H2 x y v u _ I2 r1 r2 q2) fun c s3 ⟨z,H3,I3,r3,k,e,q3⟩=>?_) hm
 subst e;cases r3;exact gf ⟨H3,I3,q3⟩
def tChain (r r':R2)(ta tb tc:TE):TE:=fun σ H Q=>ta σ H fun x H1=>tb σ H1 fun y H2=>r x y H2 fun z H3=>∃ k,z= .bl k ∧
 (if k=true then tc σ H3 fun w' H4=>r' y w' H4 Q else Q (.bl false) H3)
theorem pt_chain {op op':CmpOp}{r r':R2}(ho:OpR X (fE op) r)(ho':OpR X (fE op') r')(ha:PE X a ta)(hb:PE X b tb)(hc:PE X c tc)
  (hm:lastMarks [op,op'] [b,c]=false:=by with_unfolding_all rfl):PT X (.Compare a [op,op'] [b,c] pos) (tTest (tChain r r' ta tb tc)):=by
 intro aQ s σ H Q I h;refine isTrue_chain (thn (ha aQ s σ H _ I h) fun v s1 ⟨x,H1,I1,r1,q1⟩=>test_link (thn (hb aQ s1 σ H1 _ I1 q1) fun u s2 ⟨y,H2,I2,r2,q2⟩ =>
  thn (ho aQ s2 σ H2 x y v u _ I2 r1 r2 q2) fun d s3 ⟨z,H3,I3,r3,k,e,q3⟩=>?_)) hm
 subst e;cases r3;refine gf ?_;cases k with
 | false =>
  obtain ⟨k',e',q'⟩:=q3;cases e';exact ite_ff ⟨H3,I3,q'⟩
 | true =>
  refine ite_tt (test_last (thn (hc aQ s3 σ H3 _ I3 q3) fun w' s4 ⟨z',H4,I4,r4,q4⟩=>thn (ho' aQ s4 σ H4 y z' u w' _ I4 r2 r4 q4) fun d' s5 ⟨z2,H5,I5,r5,k2,e2,q5⟩=>?_));subst e2;cases r5;exact gf ⟨H5,I5,q5⟩
theorem line63:(bc:Nat)<2 ^ 63:=by rw [fN];decide
theorem nh {x:V}{us:List ae}(r:Vals [x] us):∃ u,us=[u]∧RelV x u:=by
 cases r with
 | cons r1 r2=>cases r2;exact ⟨_,rfl,r1⟩
theorem vals2 {x y:V}{us:List ae}(r:Vals [x,y] us):∃ u w',us=[u,w']∧RelV x u∧RelV y w':=by
 cases r with
 | cons r1 r2 =>
  cases r2 with
  | cons r3 r4=>cases r4;exact ⟨_,_,rfl,r1,r3⟩
theorem l5 (hc:X.calm=true):CallR X (.builtin "min") (fun xs H Q=>∃ i j,xs=[.int i,.int j]∧Q (.int (if j<i then j else i)) H):=by
 intro aQ s σ H xs us Q I r h;obtain ⟨i,j,rfl,q⟩:=h;obtain ⟨u,w',rfl,⟨t,rfl⟩,⟨t',rfl⟩⟩:=vals2 r;refine min_two_ints (I.ok.hd hc) fun h' tk k=>⟨_,H,I.kept k,?_,q⟩
 by_cases hj:j<i
 ·rw [pf hj,pf hj];exact ⟨_,rfl⟩
 ·rw [pe hj,pe hj];exact ⟨_,rfl⟩
theorem call_int1:CallR X (.type "int") (fun xs H Q=>(∃ i,xs=[.int i]∧Q (.int i) H)∨∃ k,xs=[.bl k]∧Q (.int (if k then 1 else 0)) H):=by
 intro aQ s σ H xs us Q I r h
 rcases h with ⟨i,rfl,q⟩ | ⟨k,rfl,q⟩
 ·obtain ⟨u,rfl,t,rfl⟩:=nh r
  exact call_int_int ⟨.int i,H,I,⟨_,rfl⟩,q⟩
 ·obtain ⟨u,rfl,r1⟩:=nh r
  cases r1;exact call_int_bool ⟨.int (if k then 1 else 0),H,I.tok _,⟨_,rfl⟩,q⟩
end
structure ObjM (h:bE)(x dx C:ao)(mA:Str→Option ae):Prop where
 obj:h.get? x=some (fO C dx)
 ns:h.Ns1 dx mA
 ne:dx≠x
theorem lookIn_ns {h:bE}{dx:ao}{mA:Str→Option ae}(n:h.Ns1 dx mA):∃ od,h.get? dx=some od∧∀ name,PySem.W.lookIn name od=some (mA name):=by
 obtain ⟨o,es,ep,ho,hd,hk,_,hm⟩:=n;refine ⟨o,ho,fun name=>?_⟩;have e:=hm name;unfold nsFind findBy at e;rw [←Array.find?_toList] at e;unfold PySem.W.lookIn;rw [hd]
 dsimp only
 split
 ·rename_i y q
  rw [q] at e;exact pG some e
 ·rename_i q
  rw [q] at e;have a:es.toList.any (·.refKey)=false:=by
   rw [fq];intro y hy;obtain ⟨z,t,hkey⟩:=hk y (Array.mem_toList_iff.mp hy);simp [DictEntry.refKey,hkey]
  have a':¬ es.toList.any (·.refKey)=true:=by rw [a];exact bb
  rw [pe a'];exact pG some e
theorem ObjM.look {h:bE}{x dx C:ao}{mA:Str→Option ae}(I:ObjM h x dx C mA):∃ od,PySem.W.InstAt h x (fO C dx) C (some od)∧∀ name,PySem.W.lookIn name od=some (mA name) :=
 let ⟨od,ho,hl⟩:=lookIn_ns I.ns
 ⟨od,⟨I.obj,rfl,rfl,ho⟩,hl⟩
section
variable {prog:aW} {w:bz} {A:bU} {E:ae→ar→Prop} {s:ar} {K:ak} {x dx C f:ao} {mA:Str→Option ae} {name:Str} {v:ae}
theorem get_map {expr:Bool}{Q:ae→ar→Prop}(X:K.In s.heap)(I:ObjM s.heap x dx C mA)(hg:iU K C name=true)(hh:PySem.W.hasDictIn K C=true)
  (ha:cz K (.ref C) name=some none) (hv:mA name=some v) (hv':PySem.W.handedIn v=true) (h:Q v { s with toks:=s.toks+1 }) :
  aX (br prog w) A (getAttr (.ref x) name expr) Q E s:=by
 obtain ⟨od,J,hl⟩:=I.look;exact PySem.W.get_value X J (PySem.W.plainGet_of hg).1 (PySem.W.findObj_own hh ha rfl (by rw [hl,hv])) hv' h
theorem get_meth {pl:Sem Bool}{Q:ae×List ae→ar→Prop}(X:K.In s.heap)(I:ObjM s.heap x dx C mA)(hg:iU K C name=true)
  (hf:cz K (.ref C) name=some (some (.ref f))) (ht:PySem.W.isFn K (.ref f)=true) (hv:mA name=none) (h:Q (.ref f,[.ref x]) s) :
  aX (br prog w) A (getMethod (.ref x) name pl) Q E s:=by
 obtain ⟨od,J,hl⟩:=I.look;exact PySem.W.method_fn X J (PySem.W.plainGet_of hg).1 (PySem.W.plainGet_of hg).2 hf (beq_iff_eq.mp ht) (by show (PySem.W.lookIn name od).map (·.isSome)=some false;rw [hl,hv];rfl) h
theorem set_map {ns:List Str}{Q:Unit→ar→Prop}(X:K.In s.heap)(I:ObjM s.heap x dx C mA)
  (hs:cz K (.ref C) "__setattr__" =some (some (.builtin "object.__setattr__"))) (hp:PySem.W.plainOver K C=true) (ht:PySem.W.takerIn K C name=some none) (hh:PySem.W.hasDictIn K C=true)
  (hw:PySem.Within mA ns) (hsz:ns.length≤bc)
  (h:∀ h',ObjM h' x dx C (fun y=>if y=name then some v else mA y)→dZ dx s.heap h'→Q () { s with heap:=h',toks:=s.toks+2 }) :
  aX (br prog w) A (setAttr (.ref x) name v) Q E s:=by
 obtain ⟨od,J,hl⟩:=I.look;refine PySem.W.set_plain X J hs (PySem.W.osa_open (s:={ s with toks:=s.toks+1 }) (r:=none) X J hp ht fun b=>?_);obtain ⟨cd,hc,hd'⟩:=PySem.W.any_some hh;have hx:s.heap.get? x=some ⟨.ref C,some dx,.plain,#[]⟩:=I.obj;refine ah (aJ (ah (ah (wpAny_loadPart hx (ah (PySem.W.Looks.here (s:={ s with toks:=s.toks+1 }) (PySem.W.looks_clsIn X hc) ?_))))));rw [hd'];refine aJ (a:=some dx) (ah (aJ (ah ?_)));refine wpAny_nsSet1 (s:={ s with toks:=s.toks+1 }) I.ns fun h' hn2 hs2=>?_
 obtain ⟨oD,esD,epD,hoD,hdD,hcD⟩:=hn2.count (PySem.Within.cons name v hw);refine ah (wpAny_lookBehind hoD (by rw [hdD];exact pastItsLine_dict (bj hcD (by rw [aV];omega))) ?_);exact aJ (h _ ⟨(hs2.2 _ (cp I.ne)).trans I.obj,hn2,I.ne⟩ hs2)
theorem make_map {R:Result→ar→Prop}{vs:List ae}{kw:List (Str×ae)}(X:K.In s.heap)(hm:PySem.W.makesIn K C=true)
  (hi:cz K (.ref C) "__init__" =some (some (.ref f))) (hf:PySem.W.typeIn K (.ref f)=some (.type "function"))
  (h:codeAny (br prog w) (A.under (.builtin "type.__call__" ⟨.ref C::vs,kw⟩)) (.call (.ref f) ⟨.ref (s.heap.objs.size+1)::vs,kw⟩) (PySem.W.InitBack (s.heap.objs.size+1) R)
   {s with heap:=(s.heap.push eO).push (fO C s.heap.objs.size) }) :
  codeAny (br prog w) A (.call (.ref C) ⟨vs,kw⟩) R s:=by
 obtain ⟨hh,g,d,t,os⟩:=s;exact PySem.W.make_core (PySem.W.makes_of X hm) (PySem.W.looks_findIn X hi) (fun self=>PySem.W.bind_fn X self hf) (.inl rfl) h
end
def lH (f:Str)(v:V):List (Str×V)→List (Str×V)
 | []=>[(f,v)]
 | (g,x)::r=>if g=f then (g,v)::r else (g,x)::lH f v r
theorem oi (f g:Str)(v:V):∀ fs:List (Str×V),(lH f v fs).lookup g=if g=f then some v else fs.lookup g
 | []=>by
  show eJ g [(f,v)]=_
  by_cases h:g=f
  ·have hb:(g == f)=true:=beq_iff_eq.mpr h
   simp only [eJ,hb,pf h]
  ·have hb:(g == f)=false:=beq_eq_false_iff_ne.mpr h
   simp only [eJ,hb,pe h]
 | (k,x)::r=>by
  have ih:=oi f g v r;rw [show lH f v ((k,x)::r)=(if k=f then (k,v)::r else (k,x)::lH f v r) from rfl]
  by_cases hk:k=f
  ·rw [pf hk]
   by_cases h:g=k
   ·have hb:(g == k)=true:=beq_iff_eq.mpr h
    simp only [eJ,hb,pf (h.trans hk)]
   ·have hb:(g == k)=false:=beq_eq_false_iff_ne.mpr h
    simp only [eJ,hb,pe (fun e:g=f=>h (e.trans hk.symm))]
  ·rw [pe hk]
   by_cases h:g=k
   ·have hb:(g == k)=true:=beq_iff_eq.mpr h
    simp only [eJ,hb,pe (fun e:g=f=>hk (h.symm.trans e))]
   ·have hb:(g == k)=false:=beq_eq_false_iff_ne.mpr h
    simp only [eJ,hb];exact ih
theorem om (f:Str)(v:V):∀ fs:List (Str×V),f∈(lH f v fs).map (·.1)∧∀ g,g∈fs.map (·.1)→g∈(lH f v fs).map (·.1)
 | []=>⟨by simp [lH],fun g h=>by simp at h⟩
 | (k,x)::r=>by
  obtain ⟨i1,i2⟩:=om f v r;rw [show lH f v ((k,x)::r)=(if k=f then (k,v)::r else (k,x)::lH f v r) from rfl]
  by_cases hk:k=f
  ·rw [pf hk]
   subst hk;exact ⟨by simp,fun g h=>by simpa using h⟩
  ·rw [pe hk]
   refine ⟨?_,fun g h=>?_⟩
   ·rw [bV]
    exact ax _ i1
   ·rw [bV] at h ⊢
    rcases aL.mp h with e | e
    ·exact aL.mpr (.inl e)
    ·exact ax _ (i2 g e)
theorem oj (f:Str)(v:V):∀ fs:List (Str×V),(lH f v fs).length≤fs.length+1
 | []=>by simp [lH]
 | (k,x)::r=>by
  have ih:=oj f v r;rw [show lH f v ((k,x)::r)=(if k=f then (k,v)::r else (k,x)::lH f v r) from rfl]
  by_cases hk:k=f
  ·rw [pf hk,aV,aV];omega
  ·rw [pe hk,aV,aV];omega
theorem RelO.some_of {v:V}{o:Option ae}(r:RelO (some v) o):∃ u,o=some u∧RelV v u:=by
 cases o with
 | none=>exact (show False from r).elim
 | some u=>exact ⟨u,rfl,r⟩
theorem RelO.none_of {o:Option ae}(r:RelO none o):o=none:=by
 cases o with
 | none=>rfl
 | some u=>exact (show False from r).elim
theorem handed_of {v:V}{u:ae}(r:RelV v u):PySem.W.handedIn u=true:=by
 cases v with
 | non=>cases (show u=ae.none from r);rfl
 | bl b=>cases (show u=ae.bool b from r);rfl
 | int i=>obtain ⟨t,e⟩:=(show ∃ t,u=ae.int i t from r);cases e;rfl
 | str x=>obtain ⟨t,e⟩:=(show ∃ t,u=ae.str x t from r);cases e;rfl
 | byt b=>obtain ⟨t,e⟩:=(show ∃ t,u=ae.bytes b t from r);cases e;rfl
 | flt b=>obtain ⟨t,e⟩:=(show ∃ t,u=ae.float b t from r);cases e;rfl
 | ref a=>cases (show u=ae.ref a from r);rfl
 | ty n=>cases (show u=ae.type n from r);rfl
section
variable {P:aW} {w:bz} {H H':Hp} {h h':bE} {a C dx:ao} {fs fs':List (Str×V)}
theorem ins_get (hok:HOk P w H h)(e:H a=some (.ins C dx fs)):∃ mA,ObjM h a dx C mA∧(∀ f,RelO (fs.lookup f) (mA f))∧PySem.Within mA (fs.map (·.1))∧fs.length≤1000∧H dx=some (.own a):=by
 obtain ⟨d,z,ne,ob,mA,n,r,q⟩:=(show ObjOk P w H h a (.ins C dx fs) from hok a _ e);exact ⟨mA,⟨ob,n,ne⟩,r,q,z,d⟩
end
structure Cls (K:ak)(C:ao):Prop where
 pg:iU K C Str.empty=true
 hd:PySem.W.hasDictIn K C=true
 po:PySem.W.plainOver K C=true
 sa:cz K (.ref C) "__setattr__" =some (some (.builtin "object.__setattr__"))
theorem Cls.get {K:ak}{C:ao}(c:Cls K C)(f:Str):iU K C f=true:=c.pg
def NoAttr (K:ak)(C:ao)(f:Str):Prop:=cz K (.ref C) f=some none
theorem NoAttr.taker {K:ak}{C:ao}{f:Str}(n:NoAttr K C f):PySem.W.takerIn K C f=some none:=by
 unfold PySem.W.takerIn;rw [show cz K (.ref C) f=some none from n];rfl
structure Meth (K:ak)(C:ao)(m:Str)(f:ao):Prop where
 at_:cz K (.ref C) m=some (some (.ref f))
 fn:PySem.W.isFn K (.ref f)=true
 kp:eN K (.ref f)=true
section
variable {X:Cx} {aQ:List (ao×Obj)} {σ:St} {H:Hp} {s:ar} {a C dx:ao} {fs:List (Str×V)} {f:Str} {v:V} {A:bU} {E:ae→ar→Prop}
theorem getattr_ok {b:Bool}{Q:ae→ar→Prop}(I:Inv X aQ σ H s)(e:H a=some (.ins C dx fs))(c:Cls X.K C)(n:NoAttr X.K C f)(l:fs.lookup f=some v)
  (h:∀ u s',Inv X aQ σ H s'→RelV v u→Q u s'):aX (br X.prog X.w) A (getAttr (.ref a) f b) Q E s:=by
 obtain ⟨mA,O,r,_,_,_⟩:=ins_get I.hok e;obtain ⟨u,hu,ru⟩:=RelO.some_of (v:=v) (o:=mA f) (by rw [←l];exact r f);exact get_map I.kIn O (c.get f) c.hd n hu (handed_of ru) (h u _ (I.tok _) ru)
theorem getmeth_ok {m:Str}{g:ao}{pl:Sem Bool}{Q:ae×List ae→ar→Prop}(I:Inv X aQ σ H s)(e:H a=some (.ins C dx fs))(c:Cls X.K C)(k:Meth X.K C m g)(l:fs.lookup m=none)
  (h:Q (.ref g,[.ref a]) s):aX (br X.prog X.w) A (getMethod (.ref a) m pl) Q E s:=by
 obtain ⟨mA,O,r,_,_,_⟩:=ins_get I.hok e;have hn:mA m=none:=RelO.none_of (by rw [←l];exact r m);exact get_meth I.kIn O (c.get m) k.at_ k.fn hn h
theorem setattr_ok {y:V}{u:ae}{Q:Unit→ar→Prop}(I:Inv X aQ σ H s)(e:H a=some (.ins C dx fs))(c:Cls X.K C)(n:NoAttr X.K C f)(hl:fs.length<1000)(ry:RelV y u)
  (h:∀ s',Inv X aQ σ (upd H a (.ins C dx (lH f y fs))) s'→Q () s'):aX (br X.prog X.w) A (setAttr (.ref a) f u) Q E s:=by
 obtain ⟨mA,O,r,wi,_,ho⟩:=ins_get I.hok e;have hz:(fs.map (·.1)).length≤bc:=by rw [aa,fN];omega
 refine set_map I.kIn O c.sa c.po n.taker c.hd wi hz fun h' O' sb=>h _ ?_
 have hd:∃ o,h'.get? dx=some o:=let ⟨o,_,_,e',_⟩:=O'.ns;⟨o,e'⟩;refine I.write (x:=a) (e:=dx) (by rw [e];exact True.intro) (.inr ho) (fun b q hb z=>(sb.2 b hb).trans z) hd ?_;refine ⟨by rw [bf O.ne];exact ho,?_,O.ne,O'.obj,_,O'.ns,fun g=>?_,fun g hg=>?_⟩
 ·have:=oj f y fs;omega
 ·show RelO ((lH f y fs).lookup g) (if g=f then some u else mA g)
  rw [oi]
  by_cases q:g=f
  ·rw [pf q,pf q];exact ry
  ·rw [pe q,pe q];exact r g
 ·by_cases q:g=f
  ·rw [q];exact (om f y fs).1
  ·refine (om f y fs).2 g (wi g fun z=>hg ?_)
   show (if g=f then some u else mA g)=none;rw [pe q];exact z
theorem Inv.made (I:Inv X aQ σ H s):Inv X aQ σ (upd (upd H s.heap.objs.size (.own (s.heap.objs.size+1))) (s.heap.objs.size+1) (.ins C s.heap.objs.size []))
  {s with heap:=(s.heap.push eO).push (fO C s.heap.objs.size) }:=by
 have e1:(s.heap.push eO).get? s.heap.objs.size=some eO:=bg s.heap rfl;have e2:((s.heap.push eO).push (fO C s.heap.objs.size)).get? (s.heap.objs.size+1)=some (fO C s.heap.objs.size):=by
  have:=bg (s.heap.push eO) (o:=fO C s.heap.objs.size) rfl
  rwa [gm] at this
 have e3:(s.heap.push eO).Ns s.heap.objs.size (fun _=>none):=⟨eO,#[],_,e1,rfl,(fun e he=>pj he (by simp)),fun _=>rfl⟩;have I1:=I.laid (a:=s.heap.objs.size) (o:= .own (s.heap.objs.size+1)) (h':=s.heap.push eO) (t':=s.toks) (fun b u q=>au _ q) (aC _) ⟨_,e1⟩;refine I1.laid (a:=s.heap.objs.size+1) (o:= .ins C s.heap.objs.size []) (t':=s.toks) (fun b u q=>au _ q) (Nat.le_of_eq (gm _ _)) ?_;have ne:s.heap.objs.size≠s.heap.objs.size+1:=bM (jg _);refine ⟨by rw [bf ne,aS],bI _,ne,e2,fun _=>none,(bE.Ns1.of_empty e3).at fun o q=>au _ q,fun _=>True.intro,fun y hy=>pj rfl hy⟩
theorem attr_of {prog:aW}{w:bz}{env:Env}{e:Expr}{f:Str}{pos:Pos}{s:ar}{Q:ae→ar→Prop}(hb:attributeBase e f env (eZ e env)=eZ e env)
  (h:aX (br prog w) A (eZ e env) (fun o s₁=>aX (br prog w) A (getAttr o f true) Q E s₁) E s):aX (br prog w) A (eZ (.Attribute e f pos) env) Q E s :=
 Attribute_any_ h (by rw [arm_eval_Attribute,hb])
end
def tFld (K:ak)(ta:TE)(f:Str):TE:=fun σ H Q=>ta σ H fun x H1=>∃ a C dx fs v,x= .ref a∧H1 a=some (.ins C dx fs)∧Cls K C∧NoAttr K C f∧fs.lookup f=some v∧Q v H1
def sFld (K:ak)(ta tv:TE)(f:Str):TS:=fun D σ H=>tv σ H fun y H1=>ta σ H1 fun x H2=>∃ a C dx fs,x= .ref a∧H2 a=some (.ins C dx fs)∧Cls K C∧NoAttr K C f∧fs.length<1000 ∧
 D.nx σ (upd H2 a (.ins C dx (lH f y fs)))
section
variable {X:Cx} {o e value:Expr} {f:Str} {pos pos' tpos:Pos} {ta tv:TE}
theorem pe_fld (he:PE X e ta)(hb:attributeBase e f X.env (eZ e X.env)=eZ e X.env):PE X (.Attribute e f pos) (tFld X.K ta f):=by
 intro aQ s σ H Q I h;refine attr_of hb (thn (he aQ s σ H _ I h) fun u s1 ⟨x,H1,I1,rx,a,C,dx,fs,v,ex,ea,c,n,l,q⟩=>?_);subst ex;obtain rfl:u=ae.ref a:=rx;exact getattr_ok I1 ea c n l fun u' s2 I2 ru=>⟨v,H1,I2,ru,q⟩
theorem ps_fld (ha:PE X o ta)(hv:PE X value tv)(hs:swapsWith value (some (.Attribute o f pos')) pos.line X.env=fQ false):PS X (.Assign [.Attribute o f pos'] value pos) (sFld X.K ta tv f):=by
 intro aQ s σ H D I h;refine plainObj_wpAny_Assign_Attribute (thn (hv aQ s σ H _ I h) fun u s1 ⟨y,H1,I1,ry,q⟩=>thn (ha aQ s1 σ H1 _ I1 q) fun ov s2 ⟨x,H2,I2,rx,a,C,dx,fs,ex,ea,c,n,l,q2⟩=>?_) hs;subst ex;obtain rfl:ov=ae.ref a:=rx;exact setattr_ok I2 ea c n l ry fun s3 I3=>⟨σ,_,I3,q2⟩
end
section
variable {X:Cx} {aQ:List (ao×Obj)} {σ:St} {H:Hp} {s:ar} {A:bU} {E:ae→ar→Prop} {Q:ae→ar→Prop} {c:ae} {b:Bool}
inductive TyOf (K:ak)(H:Hp):V→ae→Prop where
 | non:TyOf K H .non (.type "NoneType")
 | bl (x:Bool):TyOf K H (.bl x) (.type "bool")
 | int (i:Int):TyOf K H (.int i) (.type "int")
 | str (x:Str):TyOf K H (.str x) (.type "str")
 | flt (x:UInt64):TyOf K H (.flt x) (.type "float")
 | lst {a:ao} {xs:List V} (e:H a=some (.lst xs)):TyOf K H (.ref a) (.type "list")
 | frz {a:ao} {o:Obj} {xs:List V} (e:H a=some (.frz o (.lst xs))):TyOf K H (.ref a) (.type "list")
 | tup {a:ao} {xs:List V} (e:H a=some (.tup xs)):TyOf K H (.ref a) (.type "tuple")
 | dK {a:ao} {kvs:List (Key×V)} (e:H a=some (.dK kvs)):TyOf K H (.ref a) (.type "dict")
 | dT {a:ao} {kvs:List (List Key×V)} (e:H a=some (.dT kvs)):TyOf K H (.ref a) (.type "dict")
 | ins {a C dx:ao} {fs:List (Str×V)} (e:H a=some (.ins C dx fs)) (cl:Cls K C) (ha:cz K (.ref C) "__class__" =some (some (.builtin "object.__class__")))
   (hn:PySem.W.specialIn K (.builtin "object.__class__") "__get__" =some (some (.builtin "getset_descriptor.__get__"))) (htk:PySem.W.takesIn K (.builtin "object.__class__")=some true)
   (hm:PySem.W.mroIn K C (.type "object")=some true):TyOf K H (.ref a) (.ref C)
theorem isinst_ok {x:V}{u t:ae}(I:Inv X aQ σ H s)(rx:RelV x u)(ty:TyOf X.K H x t)(e:PySem.W.kitOne X.K t c=some b)(h:∀ tk,Q (.bool b) { s with toks:=tk }) :
  aX (br X.prog X.w) A (call (.builtin "isinstance") [u,c]) Q E s:=by
 cases ty with
 | non=>cases (show u=ae.none from rx);exact eu PySem.W.kitx_none I.kIn True.intro e (fun z=>nomatch z) h
 | bl y=>cases (show u=ae.bool y from rx);exact eu PySem.W.kitx_bool I.kIn True.intro e (fun z=>nomatch z) h
 | int i=>obtain ⟨t,q⟩:=(show ∃ t,u=ae.int i t from rx);cases q;exact eu PySem.W.kitx_int I.kIn True.intro e (fun z=>nomatch z) h
 | str y=>obtain ⟨t,q⟩:=(show ∃ t,u=ae.str y t from rx);cases q;exact eu PySem.W.kitx_str I.kIn True.intro e (fun z=>nomatch z) h
 | flt y=>obtain ⟨t,q⟩:=(show ∃ t,u=ae.float y t from rx);cases q;exact eu PySem.W.kitx_float I.kIn True.intro e (fun z=>nomatch z) h
 | @lst a xs ea =>
  cases (show u=ae.ref a from rx);obtain ⟨_,_,n,_,h1⟩:=(show ObjOk X.prog X.w H s.heap a (.lst xs) from I.hok a _ ea);exact eu PySem.W.kitx_list I.kIn ⟨_,h1,rfl⟩ e (fun z=>nomatch z) h
 | @frz a ob xs ea =>
  cases (show u=ae.ref a from rx);obtain ⟨_,_,_,n,_,h1⟩:=(show ObjOk X.prog X.w H s.heap a (.frz ob (.lst xs)) from I.hok a _ ea);exact eu PySem.W.kitx_list I.kIn ⟨_,h1,rfl⟩ e (fun z=>nomatch z) h
 | @tup a xs ea =>
  cases (show u=ae.ref a from rx);obtain ⟨_,_,_,p⟩:=(show ObjOk X.prog X.w H s.heap a (.tup xs) from I.hok a _ ea);obtain ⟨o,h1,h2,_⟩:=p;exact eu PySem.W.kitx_tuple I.kIn ⟨o,h1,h2⟩ e (fun z=>nomatch z) h
 | @dK a kvs ea =>
  cases (show u=ae.ref a from rx);obtain ⟨_,_,vs,_,p⟩:=(show ObjOk X.prog X.w H s.heap a (.dK kvs) from I.hok a _ ea);obtain ⟨o,es,ep,h1,h2,_⟩:=p;exact eu PySem.W.kitx_dict I.kIn ⟨o,h1,h2.1⟩ e (fun z=>nomatch z) h
 | @dT a kvs ea =>
  cases (show u=ae.ref a from rx);obtain ⟨_,_,xs,_,o,es,ep,h1,h2,_⟩:=(show ObjOk X.prog X.w H s.heap a (.dT kvs) from I.hok a _ ea);exact eu PySem.W.kitx_dict I.kIn ⟨o,h1,h2.1⟩ e (fun z=>nomatch z) h
 | @ins a C dx fs ea cl ha hn htk hm =>
  cases (show u=ae.ref a from rx);obtain ⟨mA,O,_⟩:=ins_get I.hok ea;obtain ⟨od,J,_⟩:=O.look;exact eu (PySem.W.kitx_own (cl.get _) cl.hd ha hn htk hm) I.kIn J e (fun z=>nomatch z) h
end
structure Room (k:Nat)(A:bU):Prop where
 hd:A.handled=none
 dp:A.depth+3 * k+5<recursionLimit
 un:A.units+16 * k+200<cLine
theorem Room.mono {j k:Nat}{A:bU}(r:Room k A)(h:j≤k):Room j A:=⟨r.hd,by have:=r.dp;omega,by have:=r.un;omega⟩
theorem Room.deeper {k:Nat}{A:bU}(r:Room (k+1) A)(env:Env):Room k (A.deeper env) :=
 ⟨r.hd,by have:=r.dp;show A.depth+1+3 * k+5<_;omega,by have:=r.un;show A.units+3+16 * k+200<_;omega⟩
theorem Room.in1 {k:Nat}{A:bU}(r:Room (k+1) A):Room k A.in1 :=
 ⟨r.hd,by have:=r.dp;show A.depth+3 * k+5<_;omega,by have:=r.un;show A.units+1+16 * k+200<_;omega⟩
theorem make_depth {A:bU}{C:ao}{us:List ae}{kw:List (Str×ae)}:(A.under (.builtin "type.__call__" ⟨.ref C::us,kw⟩)).depth=A.depth+1:=by
 first | rfl | simp [bU.under,Code.weight,Code.isCreation,Code.isGuard,Code.isCaller,Code.frames,Code.isFrame,guardIds]
theorem make_units {A:bU}{C:ao}{us:List ae}{kw:List (Str×ae)}:(A.under (.builtin "type.__call__" ⟨.ref C::us,kw⟩)).units=A.units+1:=by
 first | rfl | simp [bU.under,Code.cUnits,Code.frames,Code.isFrame]
theorem Room.make {k:Nat}{A:bU}(r:Room (k+1) A)(C:ao)(us:List ae)(kw:List (Str×ae)):Room k (A.under (.builtin "type.__call__" ⟨.ref C::us,kw⟩)) :=
 ⟨r.hd,by have:=r.dp;rw [make_depth];omega,by have:=r.un;rw [make_units];omega⟩
theorem Room.depth {k:Nat}{A:bU}(r:Room k A):A.depth<recursionLimit:=by have:=r.dp;omega
theorem Room.units {k:Nat}{A:bU}(r:Room k A):A.units+64<cLine:=by have:=r.un;omega
theorem Room.units0 {k:Nat}{A:bU}(r:Room k A):A.units<cLine:=by have:=r.un;omega
def tNil:TA:=fun _ H Q=>Q [] H
def nj (ta:TE)(tr:TA):TA:=fun σ H Q=>ta σ H fun x H1=>tr σ H1 fun xs H2=>Q (x::xs) H2
section
variable {X:Cx} {e:Expr} {es:List Expr} {te:TE} {t:TA} {pos:Pos}
theorem az:PA X [] tNil:=fun _ _ _ _ H Q I h=>Calls.spliced_nil ⟨[],H,I,.nil,h⟩
theorem ag (ha:PE X e te)(hr:PA X es t)(hs:bC (e::es) X.env=(false,eZ e X.env)::bC es X.env:=by rfl):PA X (e::es) (nj te t):=by
 intro pos aQ s σ H Q I h;rw [hs];show aX _ _ (spliced ((false,eZ e X.env)::gF pos (bC es X.env))) _ _ s;refine Calls.spliced_cons (thn (ha aQ s σ H _ I h) fun u s1 ⟨x,H1,I1,r1,q1⟩=>?_);exact thn (hr pos aQ s1 σ H1 _ I1 q1) fun us s2 ⟨xs,H2,I2,r2,q2⟩=>⟨x::xs,H2,I2,.cons r1 r2,q2⟩
def tTup (t:TA):TE:=fun σ H Q=>t σ H fun xs H1=>xs.length≤bc∧∀ p,H1 p=none→Q (.ref p) (upd H1 p (.tup xs))
def tLst (t:TA):TE:=fun σ H Q=>t σ H fun xs H1=>xs.length≤bc∧∀ p,H1 p=none→Q (.ref p) (upd H1 p (.lst xs))
theorem mJ {x1}(h:PA X es t):PE X (.Tuple es x1 pos) (tTup t):=by
 intro aQ s σ H Q I hq;refine wpAny_Tuple_spliced (thn (h pos aQ s σ H _ I hq) fun us s1 ⟨xs,H1,I1,r,z,q⟩=>⟨by rw [←r.length];exact z,?_⟩);have hf:H1 s1.heap.objs.size=none:=I1.hok.fresh (aC _);refine ⟨.ref s1.heap.objs.size,upd H1 s1.heap.objs.size (.tup xs),I1.laid (t':=s1.toks) (fun b u e=>au _ e) (aC _) ?_,rfl,q _ hf⟩;exact ⟨z,us,r,⟨_,bg _ rfl,rfl,rfl,_,rfl⟩⟩
theorem iq (h:PA X es t):PE X (.List es pos) (tLst t):=by
 intro aQ s σ H Q I hq;refine wpAny_List_spliced (thn (h pos aQ s σ H _ I hq) fun us s1 ⟨xs,H1,I1,r,z,q⟩=>⟨by rw [←r.length];exact z,?_⟩);have hf:H1 s1.heap.objs.size=none:=I1.hok.fresh (aC _);refine ⟨.ref s1.heap.objs.size,upd H1 s1.heap.objs.size (.lst xs),I1.laid (t':=s1.toks) (fun b u e=>au _ e) (aC _) ?_,rfl,q _ hf⟩;exact ⟨z,us,0,r,bg _ rfl⟩
end
abbrev Sp:=List V→Hp→VK→XK→Prop
abbrev CXT:=List Env→Hp→ar→XK→ae→ar→Prop
structure Env0 (P:aW)(w:bz)(K:ak)(mg:Str→Option ae)(base:bE)(A:bU)(outer:List Env)(s:ar)(H:Hp):Prop where
 frames:A.frames=some outer
 mod:Mod K mg base
 bs:∀ b o,base.get? b=some o→s.heap.get? b=some o∧H b=none
 bsz:base.objs.size≤s.heap.objs.size
 funs:s.heap.FunFrames base outer
 frf:∀ b∈frs outer,H b=none
 hok:HOk P w H s.heap
 bare:AllBare s.gens
def CE (outer:List Env)(P:aW)(w:bz)(H:Hp)(s:ar)(Q:VK)(u:ae)(s':ar):Prop :=
 ∃ v H',s'.os=s.os∧AllBare s'.gens∧Un (frs outer) [] H H' s.heap s'.heap∧HOk P w H' s'.heap∧RelV v u∧Q v H'
def CR (CX:CXT)(outer:List Env)(P:aW)(w:bz)(H:Hp)(s:ar)(Q:VK)(E:XK)(r:Result)(s':ar):Prop :=
 match r with
 | .ok (.ret u)=>CE outer P w H s Q u s'
 | .ok _=>False
 | .error e=>CX outer H s E e s'
structure dN (P:aW)(w:bz)(K:ak)(mg:Str→Option ae)(base:bE)(CX:CXT)(k:Nat)(f:ao)(fd:bu)(ps:List Str)(sp:Sp):Prop where
 len:∀ vs H Q E,sp vs H Q E→vs.length=ps.length
 run:∀ (A:bU) (outer:List Env) (s:ar) (H:Hp) (args:Args) (us:List ae) (vs:List V) (Q:VK) (E:XK),Room k A→Env0 P w K mg base A outer s H→BindsTo s fd args (ps.zip us)→Vals vs us→sp vs H Q E →
  codeAny (br P w) A (.call (.ref f) args) (CR CX outer P w H s Q E) s
theorem Env0.make {P:aW}{w:bz}{K:ak}{mg:Str→Option ae}{base:bE}{A:bU}{outer:List Env}{s:ar}{H:Hp}(e:Env0 P w K mg base A outer s H)(C:ao)(us:List ae)(kw:List (Str×ae)) :
  Env0 P w K mg base (A.under (.builtin "type.__call__" ⟨.ref C::us,kw⟩)) outer s H:=⟨by first | exact e.frames | (simpa [bU.under,Code.envs,Code.isFrame,pushEnvs] using e.frames),e.mod,e.bs,e.bsz,e.funs,e.frf,e.hok,e.bare⟩
section
variable {X:Cx} {aQ:List (ao×Obj)} {σ:St} {H:Hp} {s s':ar}
theorem Inv.env0 (I:Inv X aQ σ H s):Env0 X.prog X.w X.K X.mg X.base X.A X.stack s H :=
 ⟨I.ok.frames,I.ok.mod,I.bs,bj I.ok.bsz I.sz,I.stack,I.stkFree,I.hok,I.bare⟩
theorem Inv.after {Q:VK}{u:ae}(I:Inv X aQ σ H s)(h:CE X.stack X.prog X.w H s Q u s'):EP X aQ σ Q u s':=by
 obtain ⟨v,H',os,bare,un,hok,r,q⟩:=h;obtain ⟨hh,g,d,t,os'⟩:=s';obtain rfl:os'=s.os:=os;exact ⟨v,H',I.call (h':=hh) (g':=g) (d':=d) (t':=t) (ch:=[]) un hok bare (fun b z=>pj z (by simp)),r,q⟩
end
def tCall (sp:Sp)(dvs:List V)(E:XK)(t:TA):TE:=fun σ H Q=>t σ H fun vs H1=>sp (vs++dvs) H1 Q E
def tMeth (C:ao)(m:Str)(sp:Sp)(dvs:List V)(E:XK)(ta:TE)(t:TA):TE:=fun σ H Q=>ta σ H fun x H1=>∃ a dx fs,x= .ref a∧H1 a=some (.ins C dx fs)∧fs.lookup m=none ∧
 t σ H1 fun vs H2=>sp (x::(vs++dvs)) H2 Q E
def tMake (C:ao)(sp:Sp)(dvs:List V)(E:XK)(t:TA):TE:=fun σ H Q=>t σ H fun vs H1=>∀ x dx,H1 x=none→H1 dx=none→dx≠x →
 sp (.ref x::(vs++dvs)) (upd (upd H1 dx (.own x)) x (.ins C dx [])) (fun v H2=>v= .non∧Q (.ref x) H2) E
def Binds (K:ak)(fd:bu)(ps:List Str)(ds:List ae):Prop :=
 ∀ (s:ar) (us:List ae),K.In s.heap→(us++ds).length=ps.length→BindsTo s fd ⟨us,[]⟩ (ps.zip (us++ds))
theorem Binds.all {K:ak}{fd:bu}{ps:List Str}(h:∀ us:List ae,us.length=ps.length→bindArgs fd ⟨us,[]⟩=fQ (ps.zip us)):Binds K fd ps []:=fun s us _ hl=>by
 rw [fv] at hl ⊢;exact .of_eq (h us hl)
def o8 (CX:CXT)(X:Cx)(E:XK):Prop:=∀ (aQ:List (ao×Obj)) (σ:St) (H:Hp) (s:ar) (e:ae) (s':ar),Inv X aQ σ H s→CX X.stack H s E e s'→X.xe e s'
section
variable {X:Cx} {CX:CXT} {k:Nat} {f C:ao} {fd:bu} {ps:List Str} {sp:Sp} {dvs:List V} {ds:List ae} {E:XK} {x m:Str} {p pos apos:Pos} {e o:Expr} {es:List Expr} {ta:TE} {t:TA}
theorem run_fn {aQ:List (ao×Obj)}{σ:St}{H:Hp}{s:ar}{Q:VK}{us:List ae}{vs:List V}(F:dN X.prog X.w X.K X.mg X.base CX k f fd ps sp)(hr:Room k X.A)(hb:Binds X.K fd ps ds)(hd:Vals dvs ds)(hx:o8 CX X E)
  (I:Inv X aQ σ H s) (r:Vals vs us) (h:sp (vs++dvs) H Q E):aX (br X.prog X.w) X.A (call (.ref f) us) (EP X aQ σ Q) X.xe s:=by
 have r2:Vals (vs++dvs) (us++ds):=r.append hd;have hl:(us++ds).length=ps.length:=by rw [←r2.length];exact F.len _ _ _ _ h
 refine wpAny_call (codeAny_mono (F.run X.A X.stack s H ⟨us,[]⟩ (us++ds) (vs++dvs) Q E hr I.env0 (hb s us I.kIn hl) r2 h) fun r s' hq=>?_);cases r with
 | error e=>exact hx aQ σ H s e s' I hq
 | ok fl =>
  cases fl with
  | ret u=>exact I.after hq
  | next=>exact cQ hq
  | brk=>exact cQ hq
  | cont=>exact cQ hq
theorem pe_call (F:dN X.prog X.w X.K X.mg X.base CX k f fd ps sp)(hr:Room k X.A)(hg:Gl X x)(hm:X.mg x=some (.ref f))(hk:eN X.K (.ref f)=true)(hb:Binds X.K fd ps ds)(hd:Vals dvs ds)(hx:o8 CX X E)
  (ha:PA X (e::es) t) (hdb:(x == ("__debug__" :Str))=false:=by decide) (he:bC (e::es) X.env=(false,eZ e X.env)::bC es X.env:=by rfl) (hpl:(gF pos (bC es X.env)).any (·.1)=false:=by rfl) :
  PE X (.Call (.Name x p) (e::es) [] pos) (tCall sp dvs E t):=by
 intro aQ s σ H Q I h;refine fg (ld_glob I hg hm ?_ hdb);refine jD (h₀:=X.base) I.ok.mod.kin hk (thn (ha pos aQ s σ H _ I h) fun us s1 ⟨vs,H1,I1,r,q⟩=>⟨I1.kIn,?_⟩) he hpl;exact run_fn F hr hb hd hx I1 r q
theorem pe_meth {pl:Sem Bool}(he:PE X o ta)(c:Cls X.K C)(hm:Meth X.K C m f)(F:dN X.prog X.w X.K X.mg X.base CX k f fd ps sp)(hr:Room k X.A)(hb:Binds X.K fd ps ds)(hd:Vals dvs ds)(hx:o8 CX X E)(ha:PA X (e::es) t)
  (hst:bC (e::es) X.env=(false,eZ e X.env)::bC es X.env:=by rfl) (hpl:(gF pos (bC es X.env)).any (·.1)=false:=by rfl)
  (ht:eZ (.Call (.Attribute o m apos) (e::es) [] pos) X.env=(do
   let ov ← eZ o X.env
   standAt apos.atName
   let (f,first) ← holding [ov] (getMethod ov m pl)
   callWith pos f first (gF pos (bC (e::es) X.env)) (backToKw pos (keywordEach [] X.env))):=by rfl) :
  PE X (.Call (.Attribute o m apos) (e::es) [] pos) (tMeth C m sp dvs E ta t):=by
 intro aQ s σ H Q I h;refine PySem.W.methodCall_KW (pl:=pl) (thn (he aQ s σ H _ I h) fun u s1 ⟨x,H1,I1,rx,a,dx,fs,ex,ea,l,q⟩=>?_) ht;subst ex;obtain rfl:u=ae.ref a:=rx;refine getmeth_ok I1 ea c hm l ?_;refine jD (first:=[.ref a]) (h₀:=X.base) I.ok.mod.kin hm.kp (thn (ha pos aQ s1 σ H1 _ I1 q) fun us s2 ⟨vs,H2,I2,r,q2⟩=>⟨I2.kIn,?_⟩) hst hpl;exact run_fn (us:= .ref a::us) (vs:= .ref a::vs) F hr hb hd hx I2 (.cons rfl r) q2
structure Mk (K:ak)(C f:ao):Prop where
 makes:PySem.W.makesIn K C=true
 init:cz K (.ref C) "__init__" =some (some (.ref f))
 fn:PySem.W.isFn K (.ref f)=true
 kp:eN K (.ref C)=true
theorem run_make {aQ:List (ao×Obj)}{σ:St}{H:Hp}{s:ar}{Q:VK}{us:List ae}{vs:List V}(M:Mk X.K C f)(F:dN X.prog X.w X.K X.mg X.base CX k f fd ps sp)(hr:Room (k+1) X.A)(hb:Binds X.K fd ps ds)(hd:Vals dvs ds)
  (hx:o8 CX X E) (I:Inv X aQ σ H s) (r:Vals vs us)
  (h:∀ x dx,H x=none→H dx=none→dx≠x→sp (.ref x::(vs++dvs)) (upd (upd H dx (.own x)) x (.ins C dx [])) (fun v H2=>v= .non∧Q (.ref x) H2) E) :
  aX (br X.prog X.w) X.A (call (.ref C) us) (EP X aQ σ Q) X.xe s:=by
 have hq:=h (s.heap.objs.size+1) s.heap.objs.size (I.hok.fresh (jy _)) (I.hok.fresh (aC _)) (bM (jg _));have I2:=Inv.made (C:=C) I;have r2:Vals (V.ref (s.heap.objs.size+1)::(vs++dvs)) (ae.ref (s.heap.objs.size+1)::(us++ds)):= .cons rfl (r.append hd);have hl:(ae.ref (s.heap.objs.size+1)::us++ds).length=ps.length:=by
  have e:=r2.length;rw [F.len _ _ _ _ hq] at e;exact e.symm
 refine wpAny_call (make_map (f:=f) I.kIn M.makes M.init (beq_iff_eq.mp M.fn) (codeAny_mono (F.run _ X.stack _ _ ⟨ae.ref (s.heap.objs.size+1)::us,[]⟩ (ae.ref (s.heap.objs.size+1)::(us++ds)) _ _ E (hr.make C us [])
  (I2.env0.make C us []) (hb _ (ae.ref (s.heap.objs.size+1)::us) I2.kIn hl) r2 hq) fun r s' hq'=>?_))
 cases r with
 | error e=>exact hx aQ σ _ _ e s' I2 hq'
 | ok fl =>
  cases fl with
  | ret u =>
   obtain ⟨v,H',I3,rv,ev,q3⟩:=I2.after hq';subst ev;exact ⟨rv,⟨V.ref (s.heap.objs.size+1),H',I3,rfl,q3⟩⟩
  | next=>exact cQ hq'
  | brk=>exact cQ hq'
  | cont=>exact cQ hq'
theorem pe_make (M:Mk X.K C f)(F:dN X.prog X.w X.K X.mg X.base CX k f fd ps sp)(hr:Room (k+1) X.A)(hg:Gl X x)(hm:X.mg x=some (.ref C))(hb:Binds X.K fd ps ds)(hd:Vals dvs ds)(hx:o8 CX X E)
  (ha:PA X (e::es) t) (hdb:(x == ("__debug__" :Str))=false:=by decide) (he:bC (e::es) X.env=(false,eZ e X.env)::bC es X.env:=by rfl) (hpl:(gF pos (bC es X.env)).any (·.1)=false:=by rfl) :
  PE X (.Call (.Name x p) (e::es) [] pos) (tMake C sp dvs E t):=by
 intro aQ s σ H Q I h;refine fg (ld_glob I hg hm ?_ hdb);refine jD (h₀:=X.base) I.ok.mod.kin M.kp (thn (ha pos aQ s σ H _ I h) fun us s1 ⟨vs,H1,I1,r,q⟩=>⟨I1.kIn,?_⟩) he hpl;exact run_make M F hr hb hd hx I1 r q
end
section
variable {X:Cx} {CX:CXT} {k:Nat} {f C:ao} {fd:bu} {ps ks:List Str} {sp:Sp} {E:XK} {x m:Str} {p pos apos kpos:Pos} {e o:Expr} {es:List Expr} {kws:List Keyword} {te ta:TE} {t tk:TA} {nm:Option Str}
variable {g:List ae→List ae→List ae} {gV:List V→List V→List V}
end
structure cu (N P:List Str)(sc:fV):Prop where
 kind:sc.kind= .function
 co:sc.isCoroutine=false
 gen:sc.isGenerator=false
 nd:N.Nodup
 pre:N.take P.length=P
 par:∀ x∈P,sc.names.lookup x=some .local∨sc.names.lookup x=some .cell
 nofree:∀ y∈sc.names,y.2≠ .free
theorem bindL_out {kindOf:Str→Option cL}{x:Str}:∀ {binds:List (Str×ae)} {m:Str→Option ae},(∀ v,(x,v) ∉ binds)→bindL kindOf binds m x=m x
 | [],_,_=>rfl
 | (n,v)::r,m,h=>by
  unfold bindL;rw [bindL_out fun w hw=>h w (ax _ hw)];split
  ·have:x≠n:=by rintro rfl;exact h v bF
   simp [this]
  ·rfl
theorem bindC_out {kindOf:Str→Option cL}{x:Str}:∀ {binds:List (Str×ae)} {m:Str→Option ae},(∀ v,(x,v) ∉ binds)→bindC kindOf binds m x=m x
 | [],_,_=>rfl
 | (n,v)::r,m,h=>by
  unfold bindC;rw [bindC_out fun w hw=>h w (ax _ hw)];split
  ·rfl
  ·have:x≠n:=by rintro rfl;exact h v bF
   simp [this]
theorem bindL_get {kindOf:Str→Option cL}{x:Str}{v:ae}:∀ {P:List Str} {vs:List ae} {i:Nat} {m:Str→Option ae},P.Nodup→P[i]? =some x→vs[i]? =some v→kindOf x=some .local →
  bindL kindOf (P.zip vs) m x=some v
 | [],_,_,_,_,h,_,_=>by simp at h
 | _::_,[],_,_,_,_,h,_=>by simp at h
 | p::P,w::vs,0,m,nd,h1,h2,hk=>by
  simp at h1 h2;subst h1;subst h2;show bindL kindOf ((p,w)::P.zip vs) m p=_;unfold bindL;rw [bindL_out fun v hv=>(bB.mp nd).1 (List.of_mem_zip hv).1,pf hk];simp
 | p::P,w::vs,i+1,m,nd,h1,h2,hk=>by
  show bindL kindOf ((p,w)::P.zip vs) m x=_;unfold bindL;exact bindL_get (i:=i) (bB.mp nd).2 (by simpa using h1) (by simpa using h2) hk
theorem bindC_get {kindOf:Str→Option cL}{x:Str}{v:ae}:∀ {P:List Str} {vs:List ae} {i:Nat} {m:Str→Option ae},P.Nodup→P[i]? =some x→vs[i]? =some v→kindOf x≠some .local →
  bindC kindOf (P.zip vs) m x=some v
 | [],_,_,_,_,h,_,_=>by simp at h
 | _::_,[],_,_,_,_,h,_=>by simp at h
 | p::P,w::vs,0,m,nd,h1,h2,hk=>by
  simp at h1 h2;subst h1;subst h2;show bindC kindOf ((p,w)::P.zip vs) m p=_;unfold bindC;rw [bindC_out fun v hv=>(bB.mp nd).1 (List.of_mem_zip hv).1,pe hk];simp
 | p::P,w::vs,i+1,m,nd,h1,h2,hk=>by
  show bindC kindOf ((p,w)::P.zip vs) m x=_;unfold bindC;exact bindC_get (i:=i) (bB.mp nd).2 (by simpa using h1) (by simpa using h2) hk
def start (N:List Str)(vs:List V):St:=vs.map some++bO (N.length - vs.length) none
def cxOf (CX:CXT)(P:aW)(w:bz)(K:ak)(mg:Str→Option ae)(base:bE)(N:List Str)(qual:Str)(scope:fV)(f:ao)(cd:ae)(A:bU)(outer:List Env)(s:ar)(H:Hp)(E:XK):Cx where
 prog:=P
 w:=w
 K:=K
 mg:=mg
 base:=base
 A:=A.deeper (envOfC qual scope s.heap.objs.size f cd)
 N:=N
 s₀:=s
 H₀:=H
 env:=envOfC qual scope s.heap.objs.size f cd
 outer:=outer
 stack:=envOfC qual scope s.heap.objs.size f cd::outer
 ex:=[]
 calm:=true
 fn:=fun _=>true
 pn:=[]
 xe:=fun e s'=>aX (br P w) (A.deeper (envOfC qual scope s.heap.objs.size f cd)) (leaving (envOfC qual scope s.heap.objs.size f cd) e) (fun _ s''=>CX outer H s E e s'') (fun e' s''=>CX outer H s E e' s'') s'
theorem cell_has {sc:fV}{n:Nat}{x:Str}(h:sc.names.lookup x=some .cell):∃ c,(cellsFrom n sc.names []).lookup x=some c:=by
 have q:=PySem.W.cellsFrom_some sc.names n [] (.inl h);exact Option.isSome_iff_exists.mp q
theorem inv_start {CX:CXT}{P:aW}{w:bz}{K:ak}{mg:Str→Option ae}{base:bE}{N ps:List Str}{qual:Str}{scope:fV}{f:ao}{cd:ae}{A:bU}{outer:List Env}{s s1:ar}{H:Hp}{E:XK}{us:List ae}{vs:List V}
  (S:cu N ps scope) (hd:A.handled=none) (e0:Env0 P w K mg base A outer s H) (hl:vs.length=ps.length) (r:Vals vs us)
  (x:InCallC s s.heap.objs.size (bindL (envOfC qual scope s.heap.objs.size f cd).kindOf (ps.zip us) fun _=>none) (cellsFrom (s.heap.objs.size+1) scope.names []) (bindC (envOfC qual scope s.heap.objs.size f cd).kindOf (ps.zip us) fun _=>none) s1) :
  Inv (cxOf CX P w K mg base N qual scope f cd A outer s H E) [] (start N vs) H s1:=by
 have hpl:ps.length≤N.length:=by have:=pG List.length S.pre;rw [bH] at this;omega
 obtain ⟨h1,tk,rfl,hk⟩:=x.done;have noA:∀ b:ao,b ∉ (cxOf CX P w K mg base N qual scope f cd A outer s H E).ex:=fun b z=>pj (show b∈([]:List ao) from z) (by simp)
 refine ⟨⟨e0.mod,S.kind,rfl,rfl,aC _,fun y z c h1 h2=>?_,fun y hy=>?_,fun y c _ h=>?_,fun _=>hd,bU.frames_deeper e0.frames,.inr ⟨rfl,rfl⟩,fun b z=>pj z (noA b),e0.bs,e0.bsz,fun b _ _=>noA b,fun b z=>pj z (noA b),e0.funs,e0.frf⟩,
  rfl,e0.bare,Un.kept hk,⟨_,x.toInCall.ns,fun i y v h1 h2 h3=>?_⟩,fun y c h=>⟨_,x.cell y c h⟩,e0.hok.fresh (aC _),fun y c h=>?_,fun p hp=>pj (show p∈([]:List (ao×Obj)) from hp) (by simp),e0.hok.kept hk,?_⟩
 ·exact name_of_addr x.apart (cj h1) (cj h2)
 ·have hy:scope.names.lookup y=some .cell∨scope.names.lookup y=some .free:=hy
  rcases hy with hy | hy
  ·exact cell_has hy
  ·exact pj rfl (S.nofree _ (cj hy))
 ·exact ik (x.above y c (cj h))
 ·have hi:i<vs.length:=by
   unfold start at h2
   by_cases hi:i<vs.length
   ·exact hi
   ·rw [bS (by simpa using hi)] at h2
    rw [List.getElem?_replicate] at h2;split at h2 <;> cases h2
  have ha:vs[i]? =some v:=by
   unfold start at h2;rw [fT (by simpa using hi),ay] at h2;cases e:vs[i]? with
   | none=>rw [e] at h2;cases h2
   | some a=>rw [e] at h2;cases h2;rfl
  obtain ⟨u,hu,rv⟩:=r.get ha;have hp:ps[i]? =some y:=by
   rw [←S.pre,List.getElem?_take_of_lt (by omega)];exact h1
  have ndP:ps.Nodup:=by rw [←S.pre];exact S.nd.sublist (List.take_sublist _ _)
  refine ⟨u,rv,?_⟩
  rcases S.par y (bp hp) with k | k
  ·exact .inl ⟨k,bindL_get ndP hp hu k⟩
  ·obtain ⟨c,e⟩:=cell_has (n:=s.heap.objs.size+1) k
   refine .inr ⟨.inl k,c,e,?_⟩;have q:=x.cell y c e;rw [bindC_get ndP hp hu (by show scope.names.lookup y≠_;rw [k];decide)] at q;exact q
 ·exact e0.hok.fresh (ik (x.above y c (cj h)))
 ·unfold start
  show _=N.length;rw [aq,aa,gP];omega
theorem fn_of {CX:CXT}{P:aW}{w:bz}{K:ak}{mg:Str→Option ae}{base:bE}{k:Nat}{f:ao}{name qual:Str}{params:gH}{body:List cV}{scope:fV}{dV kV doc pm cdv ct oc:ae}{an od:Option ao}
  {osl:Array (Option ae)} {N ps:List Str} {sp:Sp} (lk:K.lookup f=some ⟨oc,od,.func (eC name qual params body scope dV kV doc pm an cdv ct),osl⟩) (hcd:gR K cdv qual=true) (S:cu N ps scope)
  (len:∀ vs H Q E,sp vs H Q E→vs.length=ps.length)
  (hbody:∀ (A:bU) (outer:List Env) (s:ar) (H:Hp) (vs:List V) (Q:VK) (E:XK),Room k (A.deeper (envOfC qual scope s.heap.objs.size f cdv))→sp vs H Q E →
   ∃ t,PSs (cxOf CX P w K mg base N qual scope f cdv A outer s H E) body t∧t { nx:=fun _ H'=>Q .non H',rt:=Q } (start N vs) H) :
  dN P w K mg base CX (k+1) f (eC name qual params body scope dV kV doc pm an cdv ct) ps sp:=by
 refine ⟨len,fun A outer s H args us vs Q E hr e0 hb r hsp=>?_⟩;have hl:=len _ _ _ _ hsp;have KX:K.In s.heap:=e0.mod.kin.keeps fun b o e=>(e0.bs b o e).1
 have lim:s.heap.NoLimit:=e0.mod.nolimit.keeps fun b o e=>(e0.bs b o e).1
 have mB:∀ y∈ps.zip us,scope.names.lookup y.1=some .local∨(scope.names.lookup y.1=some .cell∧((cellsFrom (s.heap.objs.size+1) scope.names []).lookup y.1).isSome=true):=fun ⟨n,v⟩ hy=>by
  rcases S.par n (List.of_mem_zip hy).1 with q | q
  ·exact .inl q
  ·exact .inr ⟨q,PySem.W.cellsFrom_some _ _ _ (.inl q)⟩
 refine codeAny_call_function hr.depth (KX _ _ lk) rfl S.co S.gen rfl (PySem.W.codeRec_of KX hcd) (hb _ _ _ _ ?_);refine wpAny_newFunctionEnv_cells S.kind mB fun env he s1 x=>?_
 subst he;refine ⟨lim.keeps x.toInCall.keep,codeAny_func ?_⟩;obtain ⟨t,ht,hq⟩:=hbody A outer s H vs Q E (hr.deeper _) hsp;have I:Inv (cxOf CX P w K mg base N qual scope f cdv A outer s H E) [] (start N vs) H s1:=inv_start S hr.hd e0 hl r x;refine cy (ht [] s1 (start N vs) H _ I hq) (fun fl s' hs=>?_) fun e s' hs=>hs
 have fin:∀ {σ':St} {H':Hp} {v:V} {u:ae},Inv (cxOf CX P w K mg base N qual scope f cdv A outer s H E) [] σ' H' s'→RelV v u→Q v H'→CE outer P w H s Q u s' :=
  fun {σ' H' v u} J rv q=>⟨v,H',J.os,J.bare,J.base,J.hok,rv,q⟩
 cases fl with
 | ret u =>
  obtain ⟨v,σ',H',J,rv,q⟩:=hs;exact fin J rv q
 | next =>
  obtain ⟨σ',H',J,q⟩:=hs;exact fin (v:=V.non) (u:=ae.none) J rfl q
 | brk =>
  obtain ⟨_,_,_,q⟩:=hs;exact cQ q
 | cont =>
  obtain ⟨_,_,_,q⟩:=hs;exact cQ q
section
variable {X:Cx} {x:Str} {p pos:Pos} {e:Expr} {es:List Expr} {t:TA} {id T:String} {r:List V→Hp→VK→Prop}
def tCB (r:List V→Hp→VK→Prop)(t:TA):TE:=fun σ H Q=>t σ H fun vs H1=>r vs H1 Q
theorem cG (hc:CallR X (.builtin id) r)(hg:Gl X x)(hm:X.mg x=none)(hv:bootBuiltins x=some (.builtin id))(ha:PA X (e::es) t)(hn:x ≠ "__name__" := by decide)(hdb:(x == ("__debug__" :Str))=false:=by decide)
  (he:bC (e::es) X.env=(false,eZ e X.env)::bC es X.env:=by rfl) (hpl:(gF pos (bC es X.env)).any (·.1)=false:=by rfl):PE X (.Call (.Name x p) (e::es) [] pos) (tCB r t):=by
 intro aQ s σ H Q I h;refine fg (lV I hg hm hv ?_ hn hdb);exact PyProof.Rows.callWith_builtin1 (thn (ha pos aQ s σ H _ I h) fun us s1 ⟨vs,H1,I1,r1,q1⟩=>hc aQ s1 σ H1 vs us Q I1 r1 q1) he hpl
theorem fA (hc:CallR X (.type T) r)(hg:Gl X x)(hm:X.mg x=none)(hv:bootBuiltins x=some (.type T))(ha:PA X (e::es) t)(hn:x ≠ "__name__" := by decide)(hdb:(x == ("__debug__" :Str))=false:=by decide)
  (he:bC (e::es) X.env=(false,eZ e X.env)::bC es X.env:=by rfl) (hpl:(gF pos (bC es X.env)).any (·.1)=false:=by rfl):PE X (.Call (.Name x p) (e::es) [] pos) (tCB r t):=by
 intro aQ s σ H Q I h;refine fg (lV I hg hm hv ?_ hn hdb);exact fe (thn (ha pos aQ s σ H _ I h) fun us s1 ⟨vs,H1,I1,r1,q1⟩=>hc aQ s1 σ H1 vs us Q I1 r1 q1) he hpl
end
end L2
namespace HT
open PySem PyProof.Rows
section
open PySem.SeqAt
open PySem.AutoSeq1 (wpAny_loadPart')
open PySem.MeetsSeq PySem.MeetsSeq2 PySem.MeetsSeq3
end
section
variable {prog:aW} {w:bz} {A:bU} {E:ae→ar→Prop} {s:ar}
theorem cat_tup {t b:ao}{vs ws:List ae}{Q:ae→ar→Prop}(ht:IsTup s.heap t vs.toArray)(hb:IsTup s.heap b ws.toArray)(hv:vs≠[])
  (h1:ws=[]→Q (.ref t) s) (h2:ws≠[]→Q (.ref s.heap.objs.size) { s with heap:=s.heap.push { cls:= .type "tuple",data:= .seq (vs++ws).toArray } })
  (hsz:vs.length+ws.length≤bc):aX (br prog w) A (gC .Add (.ref t) (.ref b)) Q E s:=by
 obtain ⟨⟨cls,dd,data,sl⟩,ho,hc,n,hd⟩:=id ht;obtain ⟨⟨cls2,dd2,data2,sl2⟩,ho2,hc2,n2,hd2⟩:=id hb;simp only at hc hd hc2 hd2;subst hc hd hc2 hd2;have e:vs.toArray++ws.toArray=(vs++ws).toArray:=by simp
 by_cases hw:ws=[]
 ·exact concat_meets ⟨_,ho,rfl⟩ ⟨_,ho2,rfl⟩ noFill_tuple_add seq_tuple_add PySem.F.slot_tuple_add kl (jY _ _)
   (tuple_addW1 t b vs.toArray ws.toArray n n2 dd dd2 sl sl2 (by simpa using hv) (by simp [hw])) ⟨ho,ho2,h1 hw⟩
 ·refine concat_meets ⟨_,ho,rfl⟩ ⟨_,ho2,rfl⟩ noFill_tuple_add seq_tuple_add PySem.F.slot_tuple_add kl (jY _ _)
   (tuple_addW2 t b vs.toArray ws.toArray n n2 dd dd2 sl sl2 (by simpa using hv) (by simpa using hw) (by rw [aB,aB];exact hsz)) ⟨ho,ho2,?_⟩
  rw [e];exact h2 hw
def sIx (n d:Nat):Option Int→Nat
 | none=>d
 | some v=>if v<0 then (v+(n:Int)).toNat else min v.toNat n
theorem sIx_nat (n d k:Nat):sIx n d (some (k:Int))=min k n:=by
 show (if (k:Int)<0 then ((k:Int)+(n:Int)).toNat else min (k:Int).toNat n)=min k n;rw [pe (by omega),dA]
theorem sIx_le (n d:Nat)(hd:d≤n)(o:Option Int):sIx n d o≤n:=by
 cases o with
 | none=>exact hd
 | some v =>
  show (if v<0 then (v+(n:Int)).toNat else min v.toNat n)≤n
  by_cases hv:v<0
  ·rw [pf hv];omega
  ·rw [pe hv];exact Nat.min_le_right _ _
theorem clip_eq (v:Int)(n d:Nat):(if v<0 then max (v+(n:Int)) 0 else min v (n:Int))=((sIx n d (some v):Nat):Int):=by
 show (if v<0 then max (v+(n:Int)) 0 else min v (n:Int))=(((if v<0 then (v+(n:Int)).toNat else min v.toNat n):Nat):Int)
 by_cases hv:v<0
 ·simp only [pf hv];omega
 ·simp only [pe hv];omega
theorem adjust_gen (lo hi:Option Int)(n:Nat):jn lo hi 1 (n:Int)=(((sIx n 0 lo:Nat):Int),((sIx n n hi:Nat):Int)):=by
 have h1:¬ ((1:Int)<0):=by omega
 unfold jn;simp only [h1,if_false];refine Prod.ext ?_ ?_
 ·cases lo with
  | none=>rfl
  | some v=>exact clip_eq v n 0
 ·cases hi with
  | none=>rfl
  | some v=>exact clip_eq v n n
theorem places_gen (i j:Nat):cB (i:Int) (j:Int) 1=j - i:=by
 unfold cB;have h1:(1:Int) > 0:=by omega
 simp only [h1,if_true,Int.ediv_one];split <;> omega
theorem oO {v:ae}{o:Option Int}{Q:Option Int→ar→Prop}(p:IsPart v o)(h:Q o s):aX (br prog w) A (fM.Slice.slicePartIndex v) Q E s:=by
 cases p with
 | none=>exact ja h
 | int i t=>exact slicePart_int h
theorem sliceApplied_gen {sl:ao}{vl vu:ae}{lo hi:Option Int}{n:Nat}{Q:Int×Int×Nat→ar→Prop}(hs:s.heap.IsSliceOf sl vl vu .none)(pl:IsPart vl lo)(pu:IsPart vu hi)
  (h:Q (((sIx n 0 lo:Nat):Int),1,sIx n n hi - sIx n 0 lo) s):aX (br prog w) A (eG (.ref sl) (fQ (n:Int))) Q E s:=by
 obtain ⟨os,hos,hcs,hds⟩:=id hs;unfold eG jk;refine ah (ah (cR hos hds (x:=vl) rfl (ah (cR hos hds (x:=vu) rfl (ah (cR hos hds (x:= .none) rfl (aJ ?_)))))));refine ah (ja ?_);show aX _ _ (if ((1:Int) == 0)=true then _ else _) _ _ s;rw [pe (by decide)];refine ah (oO pl (ah (oO pu (ah (aJ ?_)))));show aX _ _ (match jn lo hi 1 (n:Int) with | (lo,hi)=>fQ (lo,(1:Int),cB lo hi 1)) _ _ s;rw [adjust_gen lo hi n];show aX _ _ (fQ (((sIx n 0 lo:Nat):Int),(1:Int),cB ((sIx n 0 lo:Nat):Int) ((sIx n n hi:Nat):Int) 1)) _ _ s;rw [places_gen];exact aJ h
theorem pick_gen (xs:Array ae)(i k:Nat):((aP k).filterMap fun (m:Nat)=>xs[((i:Int)+(m:Int) * 1).toNat]?).toArray=((xs.toList.drop i).take k).toArray:=by
 have e:(fun (m:Nat)=>xs[((i:Int)+(m:Int) * 1).toNat]?)=fun m=>xs[i+m]? := by
  funext m
  have:((i:Int)+(m:Int) * 1).toNat=i+m:=by omega
  rw [this]
 rw [e];have:=pick_run xs i k;rw [List.filterMap_map] at this;have e2:((fun x=>xs[x]?) ∘ fun x=>i+x)=fun m=>xs[i+m]? := rfl
 rw [e2] at this;rw [this]
theorem getItem_tuple_cut {t sl:ao}{items:Array ae}{vl vu:ae}{lo hi:Option Int}{Q:ae→ar→Prop}(ht:IsTup s.heap t items)(hs:s.heap.IsSliceOf sl vl vu .none)(pl:IsPart vl lo)(pu:IsPart vu hi)
  (hw:¬ (sIx items.size 0 lo=0∧sIx items.size items.size hi=items.size))
  (h:Q (.ref s.heap.objs.size) { s with heap:=s.heap.push { cls:= .type "tuple",data:= .seq ((items.toList.drop (sIx items.size 0 lo)).take (sIx items.size items.size hi - sIx items.size 0 lo)).toArray } })
  (hsz:items.size≤bc):aX (br prog w) A (iN (.ref t) (.ref sl)) Q E s:=by
 have htake:sizeOk (.seq ((items.toList.drop (sIx items.size 0 lo)).take (sIx items.size items.size hi - sIx items.size 0 lo)).toArray):=by
  show ((items.toList.drop (sIx items.size 0 lo)).take (sIx items.size items.size hi - sIx items.size 0 lo)).toArray.size≤bc;rw [aB,bH,dm,cJ];omega
 have hj:sIx items.size items.size hi≤items.size:=sIx_le _ _ (aC _) hi;obtain ⟨os,hos,hcs,hds⟩:=id hs;have hTs:s.TypeIs (.ref sl) "slice" := ⟨os,hos,hcs⟩;unfold iN
 try with_reducible refine fj ?_
 first | refine ah (aJ ?_) | skip
 refine ah (wpAny_sequenceKey ht.typeIs (by decide) ?_);refine ah (dW (name:=eD "__getitem__") ht.typeIs bD
  (fP bD ht.typeIs j4 ?_ (ku _ _)))
 show aX _ _ (gw (.ref t) >>= _) _ _ s;refine ah (tupleItemsOf_ ht ?_);refine ah (wpAny_typeOf hTs ?_);rw [pf (by decide)];refine ah (sliceApplied_gen hs pl pu ?_);have hno:¬ ((((sIx items.size 0 lo:Nat):Int) == 0 && (1:Int) == 1 && (sIx items.size items.size hi - sIx items.size 0 lo) == items.size)=true):=by
  intro q;rw [dt,dt] at q;have q1:((sIx items.size 0 lo:Nat):Int)=0:=eq_of_beq q.1.1;have q2:sIx items.size items.size hi - sIx items.size 0 lo=items.size:=eq_of_beq q.2;exact hw ⟨by omega,by omega⟩
 show aX _ _ (if (((sIx items.size 0 lo:Nat):Int) == 0 && (1:Int) == 1 && (sIx items.size items.size hi - sIx items.size 0 lo) == items.size)=true then _ else _) _ _ s;rw [pe hno,pick_gen]
 first
  | exact ah (m:=cW _) (cX (aJ ⟨_,rfl,aJ h⟩) htake)
  | exact ah (m:=cW _) (cX (ah (aJ (aJ ⟨_,rfl,aJ h⟩))) htake)
  | exact ah (ah (m:=cW _) (cX (aJ (aJ ⟨_,rfl,aJ h⟩)) htake))
  | exact ah (ah (m:=cW _) (cX (aJ ⟨_,rfl,aJ h⟩) htake))
end
end HT
namespace L2
open PySem PySem.Spec PyProof.Rows
abbrev TO:=St→Hp→(Option Int→Hp→Prop)→Prop
def PO (X:Cx)(e:Option Expr)(t:TO):Prop :=
 ∀ (aQ:List (ao×Obj)) (s:ar) (σ:St) (H:Hp) (Q:Option Int→Hp→Prop),Inv X aQ σ H s→t σ H Q →
  aX (br X.prog X.w) X.A (evalPart e X.env) (fun u s'=>∃ o H',Inv X aQ σ H' s'∧IsPart u o∧Q o H') X.xe s
def tNoPart:TO:=fun _ H Q=>Q none H
def tPart (t:TE):TO:=fun σ H Q=>t σ H fun x H1=>∃ i,x= .int i∧Q (some i) H1
section
variable {X:Cx} {e:Expr} {te:TE} {lo hi:Option Expr} {tl th:TO} {pos p2:Pos}
theorem mw:PO X none tNoPart:=by
 intro aQ s σ H Q I h;rw [evalPart_none];exact aJ ⟨none,H,I,.none,h⟩
theorem mr (h:PE X e te):PO X (some e) (tPart te):=by
 intro aQ s σ H Q I hw;rw [evalPart_some];refine thn (h aQ s σ H _ I hw) fun u s1 ⟨x,H1,I1,r1,q1⟩=>?_
 obtain ⟨i,rfl,q⟩:=q1;obtain ⟨t,rfl⟩:=r1;exact ⟨some i,H1,I1,.int i t,q⟩
def SlR (X:Cx)(r:V→Option Int→Option Int→Hp→VK→Prop):Prop :=
 ∀ (aQ:List (ao×Obj)) (s:ar) (σ:St) (H:Hp) (x:V) (v vl vu:ae) (lo hi:Option Int) (sl:ao) (Q:VK),Inv X aQ σ H s→RelV x v→s.heap.IsSliceOf sl vl vu .none→IsPart vl lo→IsPart vu hi→r x lo hi H Q →
  ∃ T id,typeLookup (.type T) "__getitem__" =fQ (some (.builtin id))∧s.TypeIs v T∧aX (br X.prog X.w) X.A (iN v (.ref sl)) (EP X aQ σ Q) X.xe s
def tSl (r:V→Option Int→Option Int→Hp→VK→Prop)(te:TE)(tl th:TO):TE:=fun σ H Q=>te σ H fun x H1=>tl σ H1 fun l H2=>th σ H2 fun u H3=>r x l u H3 Q
theorem kN {r:V→Option Int→Option Int→Hp→VK→Prop}(hr:SlR X r)(he:PE X e te)(hl:PO X lo tl)(hu:PO X hi th):PE X (.Subscript e (.Slice lo hi none p2) pos) (tSl r te tl th):=by
 intro aQ s σ H Q I h;refine Subscript_ (thn (he aQ s σ H _ I h) fun v s1 ⟨x,H1,I1,r1,q1⟩=>?_);refine wpAny_Slice (thn (hl aQ s1 σ H1 _ I1 q1) fun vl s2 ⟨l,H2,I2,pl,q2⟩=>thn (hu aQ s2 σ H2 _ I2 q2) fun vu s3 ⟨u,H3,I3,pu,q3⟩=>?_);rw [evalPart_none];refine aJ ?_;have I4:Inv X aQ σ H3 { s3 with heap:=s3.heap.push { cls:= .type "slice",data:= .fields #[vl,vu,.none] } }:=I3.kept (t':=s3.toks) fun b ob q=>au _ q
 obtain ⟨T,id,hT,ht,hg⟩:=hr aQ { s3 with heap:=s3.heap.push { cls:= .type "slice",data:= .fields #[vl,vu,.none] } } σ H3 x v vl vu l u s3.heap.objs.size Q I4 r1 (bE.IsSliceOf.new ..) pl pu q3;show aX (br X.prog X.w) X.A (subscriptTail e (.Slice lo hi none p2) v (.ref s3.heap.objs.size)) (EP X aQ σ Q) X.xe { s3 with heap:=s3.heap.push { cls:= .type "slice",data:= .fields #[vl,vu,.none] } };exact tail_any (ops:=[.ref s3.heap.objs.size,v]) ht hT hg (by with_unfolding_all rfl)
def cutV (xs:List V)(lo hi:Option Int):List V:=(xs.drop (HT.sIx xs.length 0 lo)).take (HT.sIx xs.length xs.length hi - HT.sIx xs.length 0 lo)
theorem oz (xs:List V)(lo hi:Option Int):(cutV xs lo hi).length≤xs.length:=by
 unfold cutV;rw [bH,dm];omega
def rSlT (K:ak):V→Option Int→Option Int→Hp→VK→Prop:=fun x lo hi H Q=>∃ a xs,x= .ref a∧SqT K H a xs ∧
 ¬ (HT.sIx xs.length 0 lo=0∧HT.sIx xs.length xs.length hi=xs.length)∧∀ p,H p=none→Q (.ref p) (upd H p (.tup (cutV xs lo hi)))
theorem sl_tup:SlR X (rSlT X.K):=by
 intro aQ s σ H x v vl vu lo hi sl Q I rx hs pl pu h;obtain ⟨a,xs,rfl,hx,hw,q⟩:=h;cases rx;obtain ⟨its,r,ht,hz⟩:=I.tuple hx;have hlen:its.toArray.size=xs.length:=by rw [aB];exact r.length.symm
 refine ⟨"tuple",_,bD.lookup,ht.typeIs,?_⟩;refine HT.getItem_tuple_cut ht hs pl pu (by rw [hlen];exact hw) ?_ (by rw [hlen];exact hz);rw [hlen];refine ⟨.ref s.heap.objs.size,_,I.laid (t':=s.toks) (o:= .tup (cutV xs lo hi)) (fun b ob q=>au _ q) (aC _) ?_,rfl,q _ (I.hok.fresh (aC _))⟩;exact ⟨bj (oz xs lo hi) hz,_,(r.drop (HT.sIx xs.length 0 lo)).take (HT.sIx xs.length xs.length hi - HT.sIx xs.length 0 lo),IsTupN.new _ _⟩
inductive rCatT (K:ak)(x:V)(y:V)(H:Hp)(Q:VK):Prop
 | mk (a b xs ys:_)(_:x= .ref a)(_:y= .ref b)(_:SqT K H a xs)(_:SqT K H b ys)(_:xs≠[])(_:xs.length+ys.length≤bc)(_:(ys=[]→Q (.ref a) H))(_:(ys≠[]→∀ p,H p=none→Q (.ref p) (upd H p (.tup (xs++ys)))))
theorem Vals.nil_iff {xs:List V}{us:List ae}(r:Vals xs us):us=[]↔xs=[]:=by
 cases r with
 | nil=>simp
 | cons _ _=>simp
theorem op_catT:OpR X (gC .Add) (rCatT X.K):=by
 intro aQ s σ H x y v u Q I rx ry h;obtain ⟨a,b,xs,ys,rfl,rfl,ha,hb,hx,hz,q1,q2⟩:=h;cases rx;cases ry;obtain ⟨its,r1,p1,_⟩:=I.tuple ha;obtain ⟨its2,r2,p2,_⟩:=I.tuple hb;refine HT.cat_tup p1 p2 (fun z=>hx (r1.nil_iff.mp z)) (fun z=>⟨.ref a,H,I,rfl,q1 (r2.nil_iff.mp z)⟩) (fun z=>?_) (by rw [←r1.length,←r2.length];exact hz);refine ⟨.ref s.heap.objs.size,_,I.laid (t':=s.toks) (o:= .tup (xs++ys)) (fun b ob q=>au _ q) (aC _) ?_,rfl,q2 (fun w=>z (r2.nil_iff.mpr w)) _ (I.hok.fresh (aC _))⟩;exact ⟨by rw [aq];exact hz,_,r1.append r2,IsTupN.new _ _⟩
end
def ixN (n:Nat)(i:Int):Option Nat:=if 0≤i then (if i<n then some i.toNat else none) else if -(n:Int)≤i then some (i+n).toNat else none
def atI {α:Type}(xs:List α)(i:Int):Option α:=(ixN xs.length i).bind fun j=>xs[j]?
theorem ixN_seq {n:Nat}{i:Int}{j:Nat}(h:ixN n i=some j):seqIndex? i n=some j∧j<n∧ -(n:Int)≤i∧i<n:=by
 unfold ixN at h
 by_cases h0:0≤i
 ·rw [pf h0] at h
  by_cases h1:i<n
  ·rw [pf h1] at h
   have e:i.toNat=j:=cq h;exact ⟨by rw [seqIndex_of h0 h1,e],by omega,by omega,h1⟩
  ·rw [pe h1] at h;cases h
 ·rw [pe h0] at h
  by_cases h1: -(n:Int)≤i
  ·rw [pf h1] at h
   have e:(i+n).toNat=j:=cq h;exact ⟨by rw [seqIndex_neg (by omega) h1,e],by omega,h1,by omega⟩
  ·rw [pe h1] at h;cases h
theorem atI_get {α:Type}{xs:List α}{i:Int}{v:α}(h:atI xs i=some v):∃ j,seqIndex? i xs.length=some j∧xs[j]? =some v∧j<xs.length∧ -(xs.length:Int)≤i∧i<xs.length:=by
 unfold atI at h;cases e:ixN xs.length i with
 | none=>rw [e] at h;cases h
 | some j =>
  rw [e] at h;obtain ⟨h1,h2,h3,h4⟩:=ixN_seq e;exact ⟨j,h1,h,h2,h3,h4⟩
theorem aO {α:Type}{xs:List α}{j:Nat}{v:α}(h:xs[j]? =some v):atI xs (j:Int)=some v:=by
 have hj:j<xs.length:=(av.mp h).1;have e:ixN xs.length (j:Int)=some j:=by
  unfold ixN;rw [pf (by omega),pf (by omega)];simp
 unfold atI;rw [e];exact h
theorem atI_last {α:Type}(xs:List α)(v:α):atI (xs++[v]) (-1)=some v:=by
 have hl:(xs++[v]).length=xs.length+1:=by simp
 have e:ixN (xs++[v]).length (-1)=some xs.length:=by
  unfold ixN;rw [hl,pe (by decide),pf (by omega)];congr 1;omega
 unfold atI;rw [e];show (xs++[v])[xs.length]? =some v;simp
def PlainIx (b:Expr):Prop:=∀ o i,subscripted b false o i=operate [o,i] (iN o i)
def IxR (X:Cx)(r:R2):Prop :=
 ∀ (value slice:Expr) (aQ:List (ao×Obj)) (s:ar) (σ:St) (H:Hp) (x y:V) (v u:ae) (Q:VK),Inv X aQ σ H s→RelV x v→RelV y u→r x y H Q →
  subscripted slice false v u=operate [v,u] (iN v u)→aX (br X.prog X.w) X.A (subscriptTail value slice v u) (EP X aQ σ Q) X.xe s
def MtR (X:Cx)(id:String)(r:V→List V→Hp→VK→Prop):Prop :=
 ∀ (aQ:List (ao×Obj)) (s:ar) (σ:St) (H:Hp) (x:V) (xs:List V) (v:ae) (us:List ae) (Q:VK),Inv X aQ σ H s→RelV x v→Vals xs us→r x xs H Q →
  aX (br X.prog X.w) X.A (call (.builtin id) (v::us)) (EP X aQ σ Q) X.xe s
section
variable {X:Cx} {a b:Expr} {ta tb:TE} {pos:Pos}
theorem eh {r:R2}(hr:IxR X r)(ha:PE X a ta)(hb:PE X b tb)(hs:PlainIx b):PE X (.Subscript a b pos) (tOp r ta tb):=by
 intro aQ s σ H Q I h;exact Subscript_ (binT ha hb I h fun v u s2 x y H2 I2 rx ry q=>hr a b aQ s2 σ H2 x y v u Q I2 rx ry q (hs _ _))
inductive rIxL (K:ak)(x:V)(y:V)(H:Hp)(Q:VK):Prop
 | mk (p xs i v:_)(_:x= .ref p)(_:y= .int i)(_:SqL K H p xs)(_:atI xs i=some v)(_:Q v H)
inductive rIxT (K:ak)(x:V)(y:V)(H:Hp)(Q:VK):Prop
 | mk (p xs i v:_)(_:x= .ref p)(_:y= .int i)(_:SqT K H p xs)(_:atI xs i=some v)(_:Q v H)
theorem dX:IxR X (rIxL X.K):=by
 intro value slice aQ s σ H x y v u Q I rx ry h hs;obtain ⟨p,xs,i,z,rfl,rfl,hq,he,q⟩:=h;cases rx;obtain ⟨t,rfl⟩:=ry;obtain ⟨its,r,pl,hz⟩:=I.list hq;obtain ⟨j,h1,h2,h3,h4,h5⟩:=atI_get he;obtain ⟨w,ew,rw'⟩:=r.get h2;have hl:=r.length;have hn:=line63;have fin:EP X aQ σ Q w s:=⟨z,H,I,rw',q⟩
 by_cases h0:0≤i
 ·have hj:i.toNat=j:=by
   rw [seqIndex_of h0 h5] at h1;exact cq h1
  exact item_listR pl.isList h0 (by omega) (by rw [hj];simpa using ew) fin hs
 ·have hj:(i+(its.toArray.size:Int)).toNat=j:=by
   rw [seqIndex_neg (by omega) h4] at h1;rw [aB,←hl];exact cq h1
  exact subscriptTail_builtinR (x:=w) pl.isList.typeIs slot_list_getitem.lookup
   (wpAny_getItem_list_neg (Q:=fun r s'=>r=w∧EP X aQ σ Q r s') pl.isList (by omega) (by rw [aB] <;> omega) (by omega) (by rw [hj];simpa using ew) ⟨rfl,fin⟩) hs
theorem eY:IxR X (rIxT X.K):=by
 intro value slice aQ s σ H x y v u Q I rx ry h hs;obtain ⟨p,xs,i,z,rfl,rfl,hq,he,q⟩:=h;cases rx;obtain ⟨t,rfl⟩:=ry;obtain ⟨its,r,pl,hz⟩:=I.tuple hq;obtain ⟨j,h1,h2,h3,h4,h5⟩:=atI_get he;obtain ⟨w,ew,rw'⟩:=r.get h2;have hl:=r.length;have hn:=line63;have fin:EP X aQ σ Q w s:=⟨z,H,I,rw',q⟩;exact subscriptTail_builtinR (x:=w) pl.typeIs slot_tuple_getitem.lookup
  (getItem_tuple (j:=j) (Q:=fun r s'=>r=w∧EP X aQ σ Q r s') pl (by omega) (by omega) (by rw [aB,←hl];exact h1) (by simpa using ew) ⟨rfl,fin⟩) hs
theorem mapSeq_set (its:List ae)(n j:Nat)(u:ae):cT (·.setIfInBounds j u) { cls:= .type "list",data:= .seq its.toArray n }={ cls:= .type "list",data:= .seq (its.set j u).toArray n }:=by
 simp [cT]
theorem Inv.lst {aQ:List (ao×Obj)}{σ:St}{H:Hp}{s:ar}{p:ao}{xs:List V}(I:Inv X aQ σ H s)(h:H p=some (.lst xs)) :
  ∃ (its:List ae) (n:Nat),Vals xs its∧s.heap.get? p=some { cls:= .type "list",data:= .seq its.toArray n }∧xs.length≤bc:=by
 obtain ⟨z,its,n,r,e⟩:=I.hok p _ h;exact ⟨its,n,r,e,z⟩
theorem Inv.lstUpd {aQ:List (ao×Obj)}{σ:St}{H:Hp}{s:ar}{p:ao}{xs ys:List V}{its its':List ae}{n n':Nat}{f:Obj→Obj}(I:Inv X aQ σ H s)(h:H p=some (.lst xs))
  (ho:s.heap.get? p=some { cls:= .type "list",data:= .seq its.toArray n }) (hf:f { cls:= .type "list",data:= .seq its.toArray n }={ cls:= .type "list",data:= .seq its'.toArray n' }) (r:Vals ys its') (hz:ys.length≤bc) (t:Nat) :
  Inv X aQ σ (upd H p (.lst ys)) { s with heap:=s.heap.update p f,toks:=t }:=by
 have e:(s.heap.update p f).get? p=some { cls:= .type "list",data:= .seq its'.toArray n' }:=by
  rw [bE.get?_update_self f ho (by rw [hf] <;> rfl),hf]
 refine I.write (x:=p) (e:=p) (by rw [h];trivial) (.inl rfl) (fun b u hb q=>(bE.get?_update_other _ _ (cp hb)).trans q) ⟨_,e⟩ ?_;exact ⟨hz,its',n',r,e⟩
def rSetL:V→V→V→Hp→(Hp→Prop)→Prop:=fun o i v H Q=>∃ p xs k j,o= .ref p∧i= .int k∧H p=some (.lst xs)∧ixN xs.length k=some j∧Q (upd H p (.lst (xs.set j v)))
theorem set_list:PSet X rSetL:=by
 intro aQ s σ H o i v ov iv u Q I ro ri rv h;obtain ⟨p,xs,k,j,rfl,rfl,hp,hj,q⟩:=h;cases ro;obtain ⟨t,rfl⟩:=ri;obtain ⟨its,n,r,ho,hz⟩:=I.lst hp;obtain ⟨h1,h2,h3,h4⟩:=ixN_seq hj;have hl:=r.length;have hn:=line63;have I':Inv X aQ σ (upd H p (.lst (xs.set j v))) { s with heap:=s.heap.update p (cT (·.setIfInBounds j u)) } :=
  I.lstUpd hp ho (mapSeq_set its n j u) (r.set rv j) (by rw [fu];exact hz) s.toks
 by_cases h0:0≤k
 ·have hk:k.toNat=j:=by
   rw [seqIndex_of h0 h4] at h1;exact cq h1
  exact PySem.W.ki_setAt ho h0 (by omega) (by rw [aB,←hl];exact h4) (by rw [hk];exact ⟨_,I',q⟩)
 ·have hk:(k+(its.toArray.size:Int)).toNat=j:=by
   rw [seqIndex_neg (by omega) h3] at h1;rw [aB,←hl];exact cq h1
  exact PySem.W.ki_setBack ho (by omega) (by rw [aB,←hl];exact h3) (by omega) (by rw [hk];exact ⟨_,I',q⟩)
theorem slice_bounds (lo hi:Option Int)(n:Nat):(jJ lo hi none n).1=((HT.sIx n 0 lo:Nat):Int)∧(jJ lo hi none n).2.1=((HT.sIx n n hi:Nat):Int)∧(jJ lo hi none n).2.2=1:=by
 refine ⟨?_,?_,rfl⟩
 ·cases lo with
  | none=>simp [jJ,HT.sIx]
  | some i =>
   simp only [jJ,HT.sIx,Option.getD_none,show (1:Int) > 0 by decide,if_true]
   by_cases h:i<0
   ·simp only [h,if_true] <;> omega
   ·simp only [h,if_false] <;> omega
 ·cases hi with
  | none=>simp [jJ,HT.sIx]
  | some i =>
   simp only [jJ,HT.sIx,Option.getD_none,show (1:Int) > 0 by decide,if_true]
   by_cases h:i<0
   ·simp only [h,if_true] <;> omega
   ·simp only [h,if_false] <;> omega
theorem slicePick_cut (its:List ae)(lo hi:Option Int):slicePick its.toArray lo hi none=((its.drop (HT.sIx its.length 0 lo)).take (HT.sIx its.length its.length hi - HT.sIx its.length 0 lo)).toArray:=by
 obtain ⟨h1,h2,h3⟩:=slice_bounds lo hi its.toArray.size;unfold slicePick;rw [h1,h2,h3];simp only [sliceRange_one,pick_run,aB] <;> rfl
def rSlL (K:ak):V→Option Int→Option Int→Hp→VK→Prop:=fun x lo hi H Q=>∃ a xs,x= .ref a∧SqL K H a xs∧∀ p,H p=none→Q (.ref p) (upd H p (.lst (cutV xs lo hi)))
theorem sl_list:SlR X (rSlL X.K):=by
 intro aQ s σ H x v vl vu lo hi sl Q I rx hs pl pu h;obtain ⟨a,xs,rfl,hx,q⟩:=h;cases rx;obtain ⟨its,r,ht,hz⟩:=I.list hx;have hlen:=r.length;refine ⟨"list",_,slot_list_getitem.lookup,ht.isList.typeIs,?_⟩;refine wpAny_getItem_list_slice ht.isList hs pl pu .none (by simp) ?_ (by rw [aB] <;> omega);rw [slicePick_cut,←hlen];refine ⟨.ref s.heap.objs.size,_,I.laid (t':=s.toks) (o:= .lst (cutV xs lo hi)) (fun b ob q=>au _ q) (aC _) ?_,rfl,q _ (I.hok.fresh (aC _))⟩;exact ⟨bj (oz xs lo hi) hz,_,0,(r.drop (HT.sIx xs.length 0 lo)).take (HT.sIx xs.length xs.length hi - HT.sIx xs.length 0 lo),bg _ rfl⟩
def flatV:V→Bool
 | .non=>true
 | .bl _=>true
 | .int _=>true
 | .str _=>true
 | _=>false
def eqV:V→V→Bool
 | .non,.non=>true
 | .bl a,.bl b=>a == b
 | .bl a,.int b=>(if a then 1 else 0) == b
 | .int a,.bl b=>a == (if b then 1 else 0)
 | .int a,.int b=>a == b
 | .str a,.str b=>a == b
 | _,_=>false
theorem eqAt_V {A:bU}{s:ar}{y x:V}{u v:ae}(ry:RelV y u)(rx:RelV x v)(fy:flatV y=true)(fx:flatV x=true):SeqAt.EqAt A s u v (eqV y x):=by
 cases y with
 | non =>
  cases ry;cases x with
  | non=>cases rx;exact SeqAt.EqAt.same _
  | bl b=>cases rx;exact SeqAt.EqAt.none_bool b
  | int b=>obtain ⟨t,rfl⟩:=rx;exact SeqAt.EqAt.none_int b t
  | str b=>obtain ⟨t,rfl⟩:=rx;exact SeqAt.EqAt.none_str b t
  | _=>exact pj (show false=true from fx) bb
 | bl a =>
  cases ry;cases x with
  | non=>cases rx;exact SeqAt.EqAt.bool_none a
  | bl b=>cases rx;exact SeqAt.EqAt.bool_bool a b
  | int b=>obtain ⟨t,rfl⟩:=rx;exact SeqAt.EqAt.bool_int a b t
  | str b=>obtain ⟨t,rfl⟩:=rx;exact SeqAt.EqAt.bool_str a b t
  | _=>exact pj (show false=true from fx) bb
 | int a =>
  obtain ⟨t',rfl⟩:=ry;cases x with
  | non=>cases rx;exact SeqAt.EqAt.int_none a t'
  | bl b=>cases rx;exact SeqAt.EqAt.int_bool a t' b
  | int b=>obtain ⟨t,rfl⟩:=rx;exact SeqAt.EqAt.int_int a t' b t
  | str b=>obtain ⟨t,rfl⟩:=rx;exact SeqAt.EqAt.int_str a t' b t
  | _=>exact pj (show false=true from fx) bb
 | str a =>
  obtain ⟨t',rfl⟩:=ry;cases x with
  | non=>cases rx;exact SeqAt.EqAt.str_none a t'
  | bl b=>cases rx;exact SeqAt.EqAt.str_bool a t' b
  | int b=>obtain ⟨t,rfl⟩:=rx;exact SeqAt.EqAt.str_int a t' b t
  | str b=>obtain ⟨t,rfl⟩:=rx;exact SeqAt.EqAt.str_str a t' b t
  | _=>exact pj (show false=true from fx) bb
 | _=>exact pj (show false=true from fy) bb
def eqU (x:V)(u:ae):Bool:=match u with
 | .none=>eqV .non x
 | .bool b=>eqV (.bl b) x
 | .int i _=>eqV (.int i) x
 | .str z _=>eqV (.str z) x
 | _=>false
theorem eqU_of {x y:V}{u:ae}(r:RelV y u)(f:flatV y=true):eqU x u=eqV y x:=by
 cases y with
 | non=>cases r;rfl
 | bl b=>cases r;rfl
 | int i=>obtain ⟨t,rfl⟩:=r;rfl
 | str z=>obtain ⟨t,rfl⟩:=r;rfl
 | _=>exact pj (show false=true from f) bb
theorem oE {x:V}:∀ {xs:List V} {us:List ae},Vals xs us→xs.all flatV=true→us.any (eqU x)=xs.any fun y=>eqV y x
 | _,_,.nil,_=>rfl
 | y::xs,u::us,.cons r t,f=>by
  rw [List.all_cons,dt] at f;rw [jj,jj,eqU_of r f.1,oE t f.2]
theorem lT {A:bU}{s:ar}{x:V}{v:ae}(rx:RelV x v)(fx:flatV x=true):∀ {xs:List V} {us:List ae},Vals xs us→xs.all flatV=true→∀ u∈us,SeqAt.EqAt A s u v (eqU x u)
 | _,_,.nil,_=>fun u hu=>by cases hu
 | y::xs,u::us,.cons r t,f=>fun u' hu=>by
  rw [List.all_cons,dt] at f
  rcases aL.mp hu with rfl | hu
  ·rw [eqU_of r f.1];exact eqAt_V r rx f.1 fx
  ·exact lT rx fx t f.2 u' hu
def inV (x:V)(xs:List V):Bool:=xs.any fun y=>eqV y x
inductive rIn (K:ak)(neg:Bool)(x:V)(y:V)(H:Hp)(Q:VK):Prop
 | mk (p xs:_)(_:y= .ref p)(_:(SqL K H p xs∨SqT K H p xs))(_:flatV x=true)(_:xs.all flatV=true)(_:Q (.bl (if neg then !inV x xs else inV x xs)) H)
theorem op_in_seq:OpR X (fE .In) (rIn X.K false):=by
 intro aQ s σ H x y v u Q I rx ry h;obtain ⟨p,xs,rfl,hq,fx,fs,q⟩:=h;cases ry
 rcases hq with hq | hq
 ·obtain ⟨its,r,pl,hz⟩:=I.list hq
  refine SeqAt.in_listAt (eqU x) pl.isList (fun w hw=>lT rx fx r fs w (by simpa using hw)) ⟨.bl _,H,I,rfl,?_⟩;rw [show its.toArray.any (eqU x)=its.any (eqU x) by simp,oE r fs];exact q
 ·obtain ⟨its,r,pl,hz⟩:=I.tuple hq
  refine SeqAt.in_tupleAt (eqU x) pl (fun w hw=>lT rx fx r fs w (by simpa using hw)) ⟨.bl _,H,I,rfl,?_⟩;rw [show its.toArray.any (eqU x)=its.any (eqU x) by simp,oE r fs];exact q
theorem mL:OpR X (fE .NotIn) (rIn X.K true):=by
 intro aQ s σ H x y v u Q I rx ry h;obtain ⟨p,xs,rfl,hq,fx,fs,q⟩:=h;cases ry
 rcases hq with hq | hq
 ·obtain ⟨its,r,pl,hz⟩:=I.list hq
  refine SeqAt.notIn_listAt (eqU x) pl.isList (fun w hw=>lT rx fx r fs w (by simpa using hw)) ⟨.bl _,H,I,rfl,?_⟩;rw [show its.toArray.any (eqU x)=its.any (eqU x) by simp,oE r fs];exact q
 ·obtain ⟨its,r,pl,hz⟩:=I.tuple hq
  refine SeqAt.notIn_tupleAt (eqU x) pl (fun w hw=>lT rx fx r fs w (by simpa using hw)) ⟨.bl _,H,I,rfl,?_⟩;rw [show its.toArray.any (eqU x)=its.any (eqU x) by simp,oE r fs];exact q
theorem bW:CallR X (.builtin "len") (fun xs H Q=>∃ p ys,xs=[.ref p]∧(SqL X.K H p ys∨SqT X.K H p ys)∧Q (.int ys.length) H):=by
 intro aQ s σ H xs us Q I r h;obtain ⟨p,ys,rfl,hq,q⟩:=h;obtain ⟨u,rfl,rx⟩:=nh r;cases rx;have hn:=line63
 rcases hq with hq | hq
 ·obtain ⟨its,r',pl,hz⟩:=I.list hq
  have hlen:=r'.length;exact Calls.call_len_list pl.isList (by simp only [aB] <;> omega) ⟨.int ys.length,H,I.tok _,⟨s.toks+1,by rw [aB,hlen]⟩,q⟩
 ·obtain ⟨its,r',pl,hz⟩:=I.tuple hq
  have hlen:=r'.length;exact len_tuple pl (by simp only [aB] <;> omega) ⟨.int ys.length,H,I.tok _,⟨s.toks+1,by rw [aB,hlen]⟩,q⟩
theorem call_list_of:CallR X (.type "list") (fun xs H Q=>∃ p ys,xs=[.ref p]∧(SqL X.K H p ys∨SqT X.K H p ys)∧∀ l,H l=none→Q (.ref l) (upd H l (.lst ys))):=by
 intro aQ s σ H xs us Q I r h;obtain ⟨p,ys,rfl,hq,q⟩:=h;obtain ⟨u,rfl,rx⟩:=nh r;cases rx;have fin:∀ (its:List ae),Vals ys its→ys.length≤bc→∀ (h':bE) (c':Nat),(∀ b o',s.heap.get? b=some o'→h'.get? b=some o') →
   h'.get? s.heap.objs.size=some { cls:= .type "list",dict:=none,data:= .seq its.toArray c',slots:= #[] }→EP X aQ σ Q (.ref s.heap.objs.size) { s with heap:=h' }:=fun its r' hz h' c' kp e =>
  ⟨.ref s.heap.objs.size,_,I.laid (t':=s.toks) kp (aC _) (show ObjOk X.prog X.w _ h' _ (.lst ys) from ⟨hz,its,c',r',e⟩),rfl,q _ (I.hok.fresh (aC _))⟩
 rcases hq with hq | hq
 ·obtain ⟨its,r',pl,hz⟩:=I.list hq
  have hlen:=r'.length;obtain ⟨o,ho,hc,n,hd⟩:=pl.isList;exact call_list_seq p (.inl rfl) ho hc hd (fun h' c' kp e=>fin its r' hz h' c' kp e) (by simp only [aB] <;> omega)
 ·obtain ⟨its,r',pl,hz⟩:=I.tuple hq
  have hlen:=r'.length;obtain ⟨o,ho,hc,n,hd⟩:=pl;exact call_list_seq p (.inr rfl) ho hc hd (fun h' c' kp e=>fin its r' hz h' c' kp e) (by simp only [aB] <;> omega)
theorem call_tuple_of:CallR X (.type "tuple") (fun xs H Q=>∃ p ys,xs=[.ref p]∧((SqL X.K H p ys∧∀ l,H l=none→Q (.ref l) (upd H l (.tup ys)))∨(SqT X.K H p ys∧Q (.ref p) H))):=by
 intro aQ s σ H xs us Q I r h;obtain ⟨p,ys,rfl,h⟩:=h;obtain ⟨u,rfl,rx⟩:=nh r;cases rx
 rcases h with ⟨hq,q⟩ | ⟨hq,q⟩
 ·obtain ⟨its,r',pl,hz⟩:=I.list hq
  have hlen:=r'.length;refine call_tuple_list pl.isList (fun h' kp=>?_) (by simp only [aB] <;> omega);have I1:Inv X aQ σ H { s with heap:=h' }:=I.kept (t':=s.toks) kp;have I2:Inv X aQ σ (upd H h'.objs.size (.tup ys)) { s with heap:=h'.push { cls:= .type "tuple",data:= .seq its.toArray } } :=
   I1.laid (t':=s.toks) (fun b o e=>au _ e) (aC _) (show ObjOk X.prog X.w _ _ _ (.tup ys) from ⟨hz,its,r',IsTupN.new _ _⟩)
  exact ⟨.ref h'.objs.size,_,I2,rfl,q _ (I1.hok.fresh (aC _))⟩
 ·obtain ⟨its,r',pl,hz⟩:=I.tuple hq
  exact call_tuple_same pl ⟨.ref p,H,I,rfl,q⟩
def tyV (K:ak)(T:String)(x:V)(H:Hp):Prop:=match x with
 | .str _=>T = "str"
 | .int _=>T = "int"
 | .ref p=>(T = "list" ∧∃ xs,SqL K H p xs)∨(T = "tuple" ∧∃ o,K.lookup p=some o∧o.cls= .type "tuple" ∧o.dict=none) ∨
   (T = "dict" ∧((∃ kvs,H p=some (.dK kvs))∨∃ kvs,H p=some (.dT kvs)))∨(T = "set" ∧∃ S n,H p=some (.set S n))
 | _=>False
theorem tyV_is {aQ:List (ao×Obj)}{σ:St}{H:Hp}{s:ar}{T:String}{x:V}{v:ae}(I:Inv X aQ σ H s)(r:RelV x v)(ty:tyV X.K T x H) :
  s.TypeIs v T∧∀ a,v= .ref a→∃ ob,s.heap.get? a=some ob∧ob.dict=none:=by
 cases x with
 | str z =>
  obtain ⟨t,rfl⟩:=r;cases (show T = "str" from ty);exact ⟨typeIs_str s z t,fun _ e=>nomatch e⟩
 | int i =>
  obtain ⟨t,rfl⟩:=r;cases (show T = "int" from ty);exact ⟨typeIs_int s i t,fun _ e=>nomatch e⟩
 | ref p =>
  cases r
  rcases ty with ⟨rfl,xs,hq⟩ | ⟨rfl,o,hk,hc,hd⟩ | ⟨rfl,hk⟩ | ⟨rfl,S,n,hk⟩
  ·obtain ⟨its,_,pl,_⟩:=I.list hq
   refine ⟨pl.isList.typeIs,fun a e=>?_⟩;cases e;obtain ⟨o,n,e,c,hd,_⟩:=pl;exact ⟨o,e,hd⟩
  ·refine ⟨⟨o,I.kIn p o hk,hc⟩,fun a e=>?_⟩
   cases e;exact ⟨o,I.kIn _ o hk,hd⟩
  ·have z:∃ o,s.heap.get? p=some o∧o.ExactDict:=by
    rcases hk with ⟨kvs,hk⟩ | ⟨kvs,hk⟩
    ·obtain ⟨_,_,_,_,o,_,_,e,ex,_⟩:=I.hok p _ hk
     exact ⟨o,e,ex⟩
    ·obtain ⟨_,_,_,_,o,_,_,e,ex,_⟩:=I.hok p _ hk
     exact ⟨o,e,ex⟩
   obtain ⟨o,e,ex⟩:=z;refine ⟨⟨o,e,ex.1⟩,fun a e2=>?_⟩;cases e2;exact ⟨o,e,ex.2.1⟩
  ·obtain ⟨o,_,_,_,e,ex,_⟩:=I.hok p _ hk
   refine ⟨⟨o,e,ex.1⟩,fun a e2=>?_⟩;cases e2;exact ⟨o,e,ex.2.1⟩
 | _=>exact cQ ty
def tBM0 (K:ak)(T:String)(r:V→List V→Hp→VK→Prop)(to:TE):TE:=fun σ H Q=>to σ H fun x H1=>tyV K T x H1∧r x [] H1 Q
def tBM (K:ak)(T:String)(r:V→List V→Hp→VK→Prop)(to:TE)(t:TA):TE:=fun σ H Q=>to σ H fun x H1=>tyV K T x H1∧t σ H1 fun xs H2=>r x xs H2 Q
variable {o e:Expr} {es:List Expr} {to:TE} {t:TA} {name:Str} {apos cpos:Pos} {T id:String} {r:V→List V→Hp→VK→Prop}
theorem oU (pa:PlainAttrs T)(slot:Slot T name id)(hty:typeOf (.builtin id)=fQ (.type "method_descriptor"))(hm:MtR X id r)(ho:PE X o to)
  (hbase:attributeBase o name X.env (eZ o X.env)=eZ o X.env:=by rfl) (hline:(apos.endLine == cpos.line)=true:=by rfl):PE X (.Call (.Attribute o name apos) [] [] cpos) (tBM0 X.K T r to):=by
 intro aQ s σ H Q I h;refine wpAny_Call_method0_late hbase hline (thn (ho aQ s σ H _ I h) fun v s1 ⟨x,H1,I1,r1,ty,q1⟩=>?_);obtain ⟨h1,h2⟩:=tyV_is I1 r1 ty;exact ⟨T,id,pa,slot,hty,h1,h2,Calls.callWith_builtin rfl (PySem.evalArgs_none (hm aQ s1 σ H1 x [] v [] Q I1 r1 .nil q1))⟩
theorem kr (pa:PlainAttrs T)(slot:Slot T name id)(hty:typeOf (.builtin id)=fQ (.type "method_descriptor"))(hm:MtR X id r)(ho:PE X o to)(ha:PA X (e::es) t)
  (hbase:attributeBase o name X.env (eZ o X.env)=eZ o X.env:=by rfl)
  (hfew:((gF cpos (bC (e::es) X.env)).all (fun x=> !x.1) && (backToKw cpos (keywordEach [] X.env)).all (fun x=>x.1.isSome)
   && decide ((e::es).length+([]:List Keyword).length+(if ([]:List Keyword).isEmpty then 0 else 1)<30))=true:=by rfl)
  (hline:(apos.endLine == cpos.line)=true:=by rfl) (hs:bC (e::es) X.env=(false,eZ e X.env)::bC es X.env:=by rfl) (hplain:(gF cpos (bC es X.env)).any (·.1)=false:=by rfl) :
  PE X (.Call (.Attribute o name apos) (e::es) [] cpos) (tBM X.K T r to t):=by
 intro aQ s σ H Q I h;refine wpAny_Call_method_late hbase hfew hline rfl (thn (ho aQ s σ H _ I h) fun v s1 ⟨x,H1,I1,r1,ty,q1⟩=>?_);obtain ⟨h1,h2⟩:=tyV_is I1 r1 ty;refine ⟨T,id,pa,slot,hty,h1,h2,?_⟩;have hA:=ha cpos aQ s1 σ H1 _ I1 q1;rw [hs] at hA ⊢;refine Calls.callWith_builtin (by show (false || (gF cpos (bC es X.env)).any (·.1))=false;rw [hplain] <;> rfl) (Calls.evalArgs_plain ?_);exact thn hA fun us s2 ⟨vs,H2,I2,r2,q2⟩=>hm aQ s2 σ H2 x vs v us Q I2 r1 r2 q2
end
def MtM (X:Cx)(id:String)(r:V→List V→Hp→VK→Prop):Prop :=
 ∀ (aQ:List (ao×Obj)) (s:ar) (σ:St) (H:Hp) (x:V) (xs:List V) (v:ae) (us:List ae) (Q:VK),Inv X aQ σ H s→RelV x v→Vals xs us→r x xs H Q →
  aX (br X.prog X.w) X.A (call (.builtin id) (v::us)) (EP X aQ σ Q) X.xe s
theorem Vals.one:∀ {x:V} {us:List ae},Vals [x] us→∃ u,us=[u]∧RelV x u
 | _,_,.cons r .nil=>⟨_,rfl,r⟩
theorem Vals.zero:∀ {us:List ae},Vals [] us→us=[]
 | _,.nil=>rfl
theorem Vals.dropLast {xs:List V}{us:List ae}(h:Vals xs us):Vals xs.dropLast us.dropLast:=by
 induction h with
 | nil=>exact .nil
 | cons r t ih =>
  cases t with
  | nil=>exact .nil
  | cons q t'=>exact .cons r ih
theorem Vals.eraseIdx:∀ {xs:List V} {us:List ae} (i:Nat),Vals xs us→Vals (xs.eraseIdx i) (us.eraseIdx i)
 | _,_,_,.nil=> .nil
 | _,_,0,.cons _ t=>t
 | _,_,i+1,.cons r t=> .cons r (Vals.eraseIdx i t)
theorem Vals.rep {xs:List V}{us:List ae}(h:Vals xs us):∀ k:Nat,Vals (bO k xs).flatten (bO k us).flatten
 | 0=> .nil
 | k+1=>by
  rw [ir,ir,List.flatten_cons,List.flatten_cons];exact Vals.append h (Vals.rep h k)
theorem erase_last {α:Type}(l:List α):l.eraseIdx (l.length - 1)=l.dropLast:=by
 induction l with
 | nil=>rfl
 | cons a r ih =>
  cases r with
  | nil=>rfl
  | cons b r =>
   have e:(a::b::r).length - 1=((b::r).length - 1)+1:=by
    have h1:(a::b::r).length=r.length+2:=rfl;have h2:(b::r).length=r.length+1:=rfl;omega
   rw [e,List.eraseIdx_cons_succ,ih]
   all_goals rfl
theorem len_erase {α:Type}:∀ (l:List α) (i:Nat),(l.eraseIdx i).length≤l.length
 | [],_=>aC _
 | _::_,0=>jy _
 | _::r,i+1=>Nat.succ_le_succ (len_erase r i)
theorem foldl_rep (its:List ae):∀ (k:Nat) (acc:List ae),
  List.foldl (fun x1 x2=>x1++x2) acc.toArray (bO k its.toArray)=(acc++(bO k its).flatten).toArray
 | 0,acc=>by simp
 | k+1,acc=>by
  have e:acc.toArray++its.toArray=(acc++its).toArray:=by simp
  have e2:(acc++its)++(bO k its).flatten=acc++(bO (k+1) its).flatten:=by
   rw [ir,List.flatten_cons,List.append_assoc]
  rw [←e2,←foldl_rep its k (acc++its),←e,ir,bQ]
section
variable {X:Cx} {aQ:List (ao×Obj)} {σ:St} {H:Hp} {s:ar} {l b:ao} {xs ys zs:List V}
theorem Inv.lset {its its':List ae}{n:Nat}{f:Array ae→Array ae}{t':Nat}(I:Inv X aQ σ H s)(hH:H l=some (.lst xs))
  (e:s.heap.get? l=some { cls:= .type "list",data:= .seq its.toArray n }) (hf:f its.toArray=its'.toArray) (hv:Vals ys its') (hz:ys.length≤bc) :
  Inv X aQ σ (upd H l (.lst ys)) { s with heap:=s.heap.update l (cT f),toks:=t' }:=by
 have q:=PySem.IsL.update e f;rw [hf] at q;refine I.write (x:=l) (e:=l) (by rw [hH];exact trivial) (.inl rfl) (fun b' u hb hu=>(bE.get?_update_other s.heap (cT f) (cp hb)).trans hu) ⟨_,q⟩ ?_;exact ⟨hz,its',_,hv,q⟩
theorem Inv.lnew {its:List ae}{t':Nat}(I:Inv X aQ σ H s)(hv:Vals ys its)(hz:ys.length≤bc) :
  Inv X aQ σ (upd H s.heap.objs.size (.lst ys)) { s with heap:=s.heap.push { cls:= .type "list",data:= .seq its.toArray },toks:=t' } :=
 I.laid (fun _ _ q=>au _ q) (aC _) ⟨hz,its,0,hv,bg _ rfl⟩
theorem Inv.fresh (I:Inv X aQ σ H s):H s.heap.objs.size=none:=I.hok.fresh (aC _)
theorem Inv.lstM (I:Inv X aQ σ H s)(hH:H l=some (.lst xs)):xs.length≤bc∧∃ (its:List ae) (n:Nat),Vals xs its∧xs.length=its.length∧s.heap.get? l=some { cls:= .type "list",data:= .seq its.toArray n }:=by
 obtain ⟨z,its,n,r,e⟩:=I.hok l _ hH;exact ⟨z,its,n,r,r.length,e⟩
theorem notLongL {n:Nat}(h:n≤bc):gY n=false:=by
 unfold gY;exact pB (by omega)
end
section
variable {X:Cx}
inductive rAppend (x:V)(vs:List V)(H:Hp)(Q:VK):Prop
 | mk (l xs y:_)(_:x= .ref l)(_:vs=[y])(_:H l=some (.lst xs))(_:xs.length<bc)(_:Q .non (upd H l (.lst (xs++[y]))))
theorem gq:MtM X "list.append" rAppend:=by
 intro aQ s σ H x vs v us Q I rx rv h;obtain ⟨l,xs,y,rfl,rfl,hH,hz,q⟩:=h;cases rx;obtain ⟨u,rfl,ru⟩:=rv.one;obtain ⟨z,its,n,r,hl,e⟩:=I.lstM hH;refine call_meets F.slot_list_append ⟨_,e,rfl⟩ F.entry_list_append (F.args_list_append_2 _ _) (PySem.list_append l its.toArray n u (by rw [aB];omega)) ⟨e,?_⟩;refine ⟨.non,_,I.lset (its':=its++[u]) hH e (by simp) (r.append (.cons ru .nil)) ?_,rfl,q⟩;rw [aq,gO];omega
inductive rExtend (x:V)(vs:List V)(H:Hp)(Q:VK):Prop
 | mk (l b xs zs:_)(_:x= .ref l)(_:vs=[.ref b])(_:H l=some (.lst xs))(_:H b=some (.lst zs))(_:xs.length+zs.length≤bc)(_:Q .non (upd H l (.lst (xs++zs))))
theorem mt_extend:MtM X "list.extend" rExtend:=by
 intro aQ s σ H x vs v us Q I rx rv h;obtain ⟨l,b,xs,zs,rfl,rfl,hH,hB,hz,q⟩:=h;cases rx;obtain ⟨u,rfl,ru⟩:=rv.one;cases ru;obtain ⟨z,its,n,r,hl,e⟩:=I.lstM hH;obtain ⟨z2,its2,n2,r2,hl2,e2⟩:=I.lstM hB;have hsz:its.toArray.size+its2.toArray.size≤bc:=by rw [aB,aB];omega
 have hlong:¬ (!its.toArray.isEmpty && gY (its.toArray.size+its2.toArray.size))=true:=by
  rw [notLongL hsz,Bool.and_false];exact bb
 refine call_meets F.slot_list_extend ⟨_,e,rfl⟩ F.entry_list_extend (F.args_list_extend_2 _ _)
  (AutoSeq1.list_extend_list_list_0 l its.toArray n b its2.toArray n2 hlong (by rw [aB];omega) (by omega)) ⟨e,e2,?_⟩
 refine ⟨.non,_,I.lset (its':=its++its2) hH e (by simp) (r.append r2) ?_,rfl,q⟩;rw [aq];omega
inductive rPop (x:V)(vs:List V)(H:Hp)(Q:VK):Prop
 | mk (l xs y:_)(_:x= .ref l)(_:vs=[])(_:H l=some (.lst xs))(_:xs[xs.length - 1]? =some y)(_:Q y (upd H l (.lst xs.dropLast)))
theorem oW:MtM X "list.pop" rPop:=by
 intro aQ s σ H x vs v us Q I rx rv h;obtain ⟨l,xs,y,rfl,rfl,hH,hy,q⟩:=h;cases rx;have hus:=rv.zero;subst hus;obtain ⟨z,its,n,r,hl,e⟩:=I.lstM hH;obtain ⟨u,hu,ru⟩:=r.get hy;have hy':its.toArray[its.toArray.size - 1]? =some u:=by
  show its.toArray[its.length - 1]? =some u;rw [←gN,←hl];exact hu
 refine call_meets F.slot_list_pop ⟨_,e,rfl⟩ F.entry_list_pop (F.args_list_pop_1 _) (MeetsSeq.list_pop_last l its.toArray n u hy' (by rw [aB];omega)) ⟨e,?_⟩;refine ⟨y,_,I.lset (its':=its.dropLast) hH e ?_ r.dropLast ?_,ru,q⟩
 ·show its.toArray.eraseIdxIfInBounds (its.toArray.size - 1)=its.dropLast.toArray
  rw [aB,List.eraseIdxIfInBounds_toArray,erase_last]
 ·rw [List.length_dropLast]
  omega
inductive rPopAt (x:V)(vs:List V)(H:Hp)(Q:VK):Prop
 | mk (l xs i k y:_)(_:x= .ref l)(_:vs=[.int i])(_:H l=some (.lst xs))(_: -(2 ^ 63)≤i)(_:i<2 ^ 63)(_:seqIndex? i xs.length=some k)(_:xs[k]? =some y)(_:Q y (upd H l (.lst (xs.eraseIdx k))))
theorem mt_popAt:MtM X "list.pop" rPopAt:=by
 intro aQ s σ H x vs v us Q I rx rv h;obtain ⟨l,xs,i,k,y,rfl,rfl,hH,h1,h2,hk,hy,q⟩:=h;cases rx;obtain ⟨u,rfl,ru⟩:=rv.one;obtain ⟨t,rfl⟩:=ru;obtain ⟨z,its,n,r,hl,e⟩:=I.lstM hH;obtain ⟨w,hw,rw'⟩:=r.get hy;refine call_meets F.slot_list_pop ⟨_,e,rfl⟩ F.entry_list_pop (F.args_list_pop_2 _ _)
  (MeetsSeq.list_pop_at l its.toArray n i t k w (fitsIndex_both h1 h2) (by rw [aB,←hl];exact hk) (by rw [←gN];exact hw) (by rw [aB];omega)) ⟨e,?_⟩
 refine ⟨y,_,I.lset (its':=its.eraseIdx k) hH e ?_ (r.eraseIdx k) ?_,rw',q⟩
 ·show its.toArray.eraseIdxIfInBounds k=(its.eraseIdx k).toArray
  rw [List.eraseIdxIfInBounds_toArray]
 ·have:=len_erase xs k
  omega
inductive rCat (x:V)(y:V)(H:Hp)(Q:VK):Prop
 | mk (l b xs zs:_)(_:x= .ref l)(_:y= .ref b)(_:H l=some (.lst xs))(_:H b=some (.lst zs))(_:xs.length+zs.length≤bc)(_:∀ p,H p=none→Q (.ref p) (upd H p (.lst (xs++zs))))
theorem op_cat:OpR X (gC .Add) rCat:=by
 intro aQ s σ H x y v u Q I rx ry h;obtain ⟨l,b,xs,zs,rfl,rfl,hH,hB,hz,q⟩:=h;cases rx;cases ry;obtain ⟨z,its,n,r,hl,e⟩:=I.lstM hH;obtain ⟨z2,its2,n2,r2,hl2,e2⟩:=I.lstM hB;refine PySem.P.add_list e e2 ?_ (by rw [aB,aB];omega);have ea:its.toArray++its2.toArray=(its++its2).toArray:=by simp
 rw [ea];exact ⟨.ref _,_,I.lnew (t':=s.toks) (r.append r2) (by rw [aq];omega),rfl,q _ I.fresh⟩
inductive rRep (x:V)(y:V)(H:Hp)(Q:VK):Prop
 | mk (l k xs:_)(_:x= .ref l)(_:y= .int k)(_:H l=some (.lst xs))(_: -(2 ^ 63)≤k)(_:k<2 ^ 63)(_:xs.length * k.toNat≤bc)(_:∀ p,H p=none→Q (.ref p) (upd H p (.lst (bO k.toNat xs).flatten)))
theorem len_rep {α:Type}(xs:List α)(k:Nat):(bO k xs).flatten.length=k * xs.length:=by
 induction k with
 | zero=>simp
 | succ k ih=>rw [ir,List.flatten_cons,aq,ih,Nat.succ_mul,Nat.add_comm]
theorem op_rep:OpR X (gC .Mult) rRep:=by
 intro aQ s σ H x y v u Q I rx ry h;obtain ⟨l,k,xs,rfl,rfl,hH,h1,h2,hz,q⟩:=h;cases rx;obtain ⟨t,rfl⟩:=ry;obtain ⟨z,its,n,r,hl,e⟩:=I.lstM hH;have hlen:its.toArray.size * k.toNat≤bc:=by rw [aB,←hl];exact hz
 have hcap:¬ its.toArray.size * k.toNat > (2 ^ 63 - 1) / 8:=by
  have:(bc:Nat)≤(2 ^ 63 - 1) / 8:=by decide
  omega
 have hfit:¬ (!Builtin.List.listFitsIndex k)=true:=by
  rw [fitsIndex_both h1 h2];exact bb
 have hlong:¬ gY (its.toArray.size * k.toNat)=true:=by
  rw [notLongL hlen];exact bb
 have hnew:List.foldl (fun x1 x2=>x1++x2) #[] (bO (if its.toArray.isEmpty=true then 0 else k.toNat) its.toArray)=(bO k.toNat its).flatten.toArray:=by
  have f0:∀ m:Nat,List.foldl (fun x1 x2=>x1++x2) #[] (bO m its.toArray)=(bO m its).flatten.toArray:=fun m=>by
   have:=foldl_rep its m [];rw [List.nil_append] at this;exact this
  rw [f0];cases its with
  | nil=>simp
  | cons a r'=>rw [pe (by simp)]
 refine wpAny_binaryOp_repeat_ref (T := "list") (U := "int") (by decide) ⟨_,e,rfl⟩ (fun s'=>typeIs_int s' k t) noFill_list_mul F.fills_int_mul F.slot_int_rmul repeat_list F.slot_int_index.lookup
  (call_meets F.slot_int_rmul (typeIs_int s k t) F.entry_int_rmul (F.args_int_rmul_2 _ _) (int___rmul___int_list k t l its.toArray n)
   ⟨e,rfl,⟨_,e,rfl⟩,call_meets F.slot_list_mul ⟨_,e,rfl⟩ F.entry_list_mul (F.args_list_mul_2 _ _) (AutoListH.list___mul___list_int_3 l its.toArray n k t hfit hcap hlong) ⟨e,?_⟩⟩)
 rw [hnew];exact ⟨.ref _,_,I.lnew (t':=s.toks) (r.rep k.toNat) (by rw [len_rep,iV];exact hz),rfl,q _ I.fresh⟩
end
section
variable {prog:aW} {w:bz} {A:bU} {E:ae→ar→Prop} {s:ar}
end
section
variable {X:Cx}
end
end L2
namespace Att
open PySem PySem.W PySem.Calls PyProof.Rows
theorem oo {P:Params}{h:bE}:∀ (ns:List Int) (vs:List ae),WellAll P h vs (ns.map WData.int)→IntsAre vs ns:=by
 intro ns
 induction ns with
 | nil =>
  intro vs w;rw [List.map_nil] at w;cases w;exact .nil
 | cons n ns ih =>
  intro vs w;rw [bV] at w;cases w with
  | cons a b =>
   cases a;exact .cons _ _ (ih _ b)
theorem script_of {l:OpenLaw}{n:Nat}(hn:l.most=some n){P:Params}{h:bE}{args:List WData}{vals:List ae}
  (hpre:l.row.toRowW.claim.pre args=true) (hwl:WellAll P h vals args) :
  ∃ a vs ns,vals=[ae.ref a]∧args=[WData.list (ns.map WData.int)]∧h.get? a=some { cls:= .type "list",data:= .seq vs.toArray }∧IntsAre vs ns∧ns.length≤n:=by
 have hsh:WShape.hasAll [] args [.list .int]=true:=(pre_splitW hpre).1;have hc:l.pre.holds [] { args:=args }=true:=(pre_splitW hpre).2;obtain ⟨d,r,rfl,h1,h2⟩:=hasAllW_cons hsh;obtain rfl:=hasAllW_nil h2;obtain ⟨xs,rfl,h3⟩:=hasW_list h1;obtain ⟨ns,rfl⟩:=items_int h3;have hlen:ns.length≤n:=by
  unfold OpenLaw.pre at hc;have h4:(WTm.not (.lt (.lit (.int (n:Int))) (.len (.arg 0)))).holds [] { args:=[.list (ns.map .int)] }=true:=by
   have h4:=(holds_andW hc).1;rw [hn] at h4;exact h4
  have h5:=condW_of h4 (w_not (w_lt w_lit (w_len_list (w_arg rfl))));rw [aa] at h5;refine Nat.le_of_not_lt fun q=>?_
  have q':(n:Int)<((ns.length:Nat):Int):=by omega
  first
   | (rw [pA q'] at h5;exact pj h5 (by decide))
   | (simp at h5;omega)
 cases hwl with
 | cons w1 w2 =>
  cases w2;cases w1 with
  | list ho hall=>exact ⟨_,_,ns,rfl,rfl,ho,oo ns _ hall,hlen⟩
theorem post_true (l:OpenLaw)(args:List WData):l.row.toRowW.claim.post args (.bool true) args=true :=
 postW_of (r:=l.row.toRowW) (X:=(true == true))
  (show WShape.has [] (.bool true) .bool=true by first | rfl | decide | simp [WShape.has,WShape.arms,WShape.armsAll])
  (show (WTm.eq .res (.lit (.bool true))).value [] { args:=args,res:=some (.bool true),after:=args }=some (.bool (true == true)) from w_eq_bool (w_res rfl) w_lit) rfl
theorem attach_call {l:OpenLaw}{n:Nat}{q:aW}{loose:List Str}{XP:(Str→Option ae)→bE→Prop}{YP:bz→bE→Prop}{d:DefRec}
  (hn:l.most=some n) (hdf:d.params.defaults=[])
  (call:∀ (w:bz) (s₀ s₁:ar) (mg mb:Str→Option ae) (fa:ao) (o:Obj) (pm cd doc:ae) (a:ao) (vs:List ae) (ns:List Int),
   Ground q loose [] XP w s₀ mg mb s₁.heap→YP w s₁.heap →
   s₁.heap.get? fa=some o→o.data= .func (docDef d.name d.params d.body d.scope pm cd doc)→s₁.heap.CodeRec cd d.name→mg d.name=some (.ref fa) →
   s₁.heap.get? a=some { cls:= .type "list",data:= .seq vs.toArray }→IntsAre vs ns→ns.length≤n→s₁.gens= #[] →
   codeAny (br l.prog w) callerA (.call (.ref fa) ⟨[.ref a],[]⟩) (fun r s'=>r= .ok (.ret (.bool true))∧OldK s₁.heap s'.heap∧s'.os=s₁.os∧AllBare s'.gens) s₁) :
  WalkO q loose XP YP l.row.toRowW d [] (fun f vs=>PySem.call f vs):=by
 intro w s₀ s₁ mg mb G Y fa o pm cd doc dV kV ho hd hcd hD hmg hg args vals as hpre hlay hrd hwl hlo;obtain rfl:dV= .none:=Dflts.none hD hdf;obtain rfl:kV= .none:=Dflts.noKw hD;obtain ⟨a,vs,ns,rfl,rfl,hobj,hints,hlen⟩:=script_of hn hpre hwl;refine enter_call (codeAny_mono (call w s₀ s₁ mg mb fa o pm cd doc a vs ns G Y ho (fd_plain hd) hcd hmg hobj hints hlen hg) fun r s' hq=>?_);obtain ⟨rfl,h2,h3,h4⟩:=hq;exact ⟨.inl ⟨.bool true,.bool true,[],rfl,fun _=>rfl,.bool true,post_true l _,fun _=>⟨List.Pairwise.nil,fun _ hm=>(nomatch hm)⟩⟩,h2,h3,h4⟩
section
variable {prog:aW} {w:bz} {A:bU} {E:ae→ar→Prop} {s:ar} {K:Frag}
end
end Att
namespace L2
open PySem PySem.Spec PyProof.Rows
theorem ng:∀ {vs:List ae} {ns:List Int},IntsAre vs ns→Vals (ns.map V.int) vs
 | _,_,.nil=> .nil
 | _,_,.cons n t h=> .cons ⟨t,rfl⟩ (ng h)
abbrev CX0:CXT:=fun _ _ _ _ _ _=>False
abbrev E0:XK:=fun _ _ _=>False
theorem pass0 {X:Cx}:o8 CX0 X E0:=fun _ _ _ _ _ _ _ h=>h.elim
structure Fun (K:ak)(x qual:Str)(st:cV)(f:ao)(fd:bu):Prop where
 ex:∃ (oc:ae) (od:Option ao) (kV doc pm:ae) (an:Option ao) (cdv ct:ae) (osl:Array (Option ae)),
  fd=eC x qual (i4 st) (fY st) (defScope st) .none kV doc pm an cdv ct∧K.lookup f=some ⟨oc,od,.func fd,osl⟩∧gR K cdv qual=true
 kp:eN K (.ref f)=true
section
variable {P:aW} {w:bz} {K:ak} {mg:Str→Option ae} {base:bE}
theorem Fun.ok {x qual:Str}{st:cV}{f:ao}{fd:bu}{N ps:List Str}{k:Nat}{sp:Sp}(F:Fun K x qual st f fd)(S:cu N ps (defScope st))(len:∀ vs H Q E,sp vs H Q E→vs.length=ps.length)
  (hbody:∀ (cdv:ae) (A:bU) (outer:List Env) (s:ar) (H:Hp) (vs:List V) (Q:VK) (E:XK),Room k (A.deeper (envOfC qual (defScope st) s.heap.objs.size f cdv))→sp vs H Q E →
   ∃ t,PSs (cxOf CX0 P w K mg base N qual (defScope st) f cdv A outer s H E).nox (fY st) t∧t { nx:=fun _ H'=>Q .non H',rt:=Q } (start N vs) H):dN P w K mg base CX0 (k+1) f fd ps sp:=by
 obtain ⟨oc,od,kV,doc,pm,an,cdv,ct,osl,rfl,lk,hcd⟩:=F.ex;refine fn_of lk hcd S len fun A outer s H vs Q E hr hsp=>?_
 obtain ⟨t,h,q⟩:=hbody cdv A outer s H vs Q E hr hsp;exact ⟨t,h.nox,q⟩
theorem Fun.binds {x qual:Str}{st:cV}{f:ao}{fd:bu}{ps:List Str}(F:Fun K x qual st f fd)
  (h:∀ (kV doc pm:ae) (an:Option ao) (cdv ct:ae) (us:List ae),us.length=ps.length→bindArgs (eC x qual (i4 st) (fY st) (defScope st) .none kV doc pm an cdv ct) ⟨us,[]⟩=fQ (ps.zip us)):Binds K fd ps []:=by
 obtain ⟨oc,od,kV,doc,pm,an,cdv,ct,osl,rfl,lk,hcd⟩:=F.ex;exact .all (h kV doc pm an cdv ct)
theorem ow {x qual:Str}{st:cV}{f:ao}{oc:ae}{od an:Option ao}{osl:Array (Option ae)}{kV doc pm cdv ct:ae}(l:K.lookup f=some ⟨oc,od,.func (eC x qual (i4 st) (fY st) (defScope st) .none kV doc pm an cdv ct),osl⟩)
  (c:gR K cdv qual=true) (k:eN K (.ref f)=true):Fun K x qual st f (eC x qual (i4 st) (fY st) (defScope st) .none kV doc pm an cdv ct):=⟨⟨oc,od,kV,doc,pm,an,cdv,ct,osl,rfl,l,c⟩,k⟩
end
theorem lL {n:Nat}(h:n≤1000):n<bc:=cf h (by decide)
section
variable {X:Cx}
theorem pv (i:Nat){x:Str}{pos:Pos}(hN:X.N[i]? =some x:=by rfl)(hv:Vis X.env.scope x:=by first | exact Or.inl rfl | exact Or.inr (Or.inl rfl) | exact Or.inr (Or.inr rfl))(hd:(x == ("__debug__" :Str))=false:=by decide)
  (hcd:(x == ("__classdict__" :Str))=false:=by decide):PE X (.Name x pos) (tVar i):=pe_var hN hv hd hcd
end
theorem iteF {A B:Prop}(h:B):if false=true then A else B:=by
 rw [pe bb];exact h
theorem iteT {A B:Prop}(h:A):if true=true then A else B:=by
 rw [pf rfl];exact h
theorem oX {c A B:Prop}[Decidable c](h1:c→A)(h2:¬ c→B):if c then A else B:=by
 by_cases h:c
 ·rw [pf h]
  exact h1 h
 ·rw [pe h]
  exact h2 h
def Same (H H':Hp):Prop:=∀ b o,H b=some o→H' b=some o
theorem Same.refl (H:Hp):Same H H:=fun _ _ h=>h
theorem Same.trans {H H1 H2:Hp}(a:Same H H1)(b:Same H1 H2):Same H H2:=fun c o h=>b c o (a c o h)
theorem Same.free {H H':Hp}(e:Same H H'){l:ao}(h:H' l=Option.none):H l=Option.none:=by
 cases q:H l with
 | none=>rfl
 | some o =>
  rw [e l o q] at h;cases h
theorem Same.seq {K:ak}{H H':Hp}{a:ao}{xs:List V}(e:Same H H')(h:SqL K H a xs):SqL K H' a xs:=by
 rcases h with (h | ⟨o,h⟩) | h
 ·exact .inl (.inl (e _ _ h))
 ·exact .inl (.inr ⟨o,e _ _ h⟩)
 ·exact .inr h
section
variable {X:Cx}
theorem lP:OpR X (gC .FloorDiv) (rI (fun _ j=>0<j∧j.natAbs.log2<9000) fun i j=> .int (i / j)):=opI fun i j _ _ _ _ _ hc q=>by
 have e:i.fdiv j=i / j:=Int.fdiv_eq_ediv_of_nonneg i (Int.le_of_lt hc.1);refine floordiv_int (by have:=hc.1;omega) ?_ (.inl (PyProof.noPylong_of_log2 hc.2));rw [e];exact q
theorem op_eqL0 (hu:X.A.units<cLine):OpR X (fE .Eq) (fun x y H Q=>∃ a b xs,x= .ref a∧y= .ref b∧SqL X.K H a xs∧SqL X.K H b []∧Q (.bl xs.isEmpty) H):=by
 intro aQ s σ H x y v u Q I rx ry h;obtain ⟨a,b,xs,rfl,rfl,ha,hb,q⟩:=h;cases (show v=ae.ref a from rx);cases (show u=ae.ref b from ry);obtain ⟨its,r1,p1,_⟩:=I.list ha;obtain ⟨its2,r2,p2,_⟩:=I.list hb;cases r2;cases r1 with
 | nil=>exact SeqAt.eq_listAt (e:=fun _=>true) p1.isList p2.isList rfl hu (fun j h1 _=>pj h1 (by simp)) (fh I q (by simp))
 | cons _ _=>exact SeqAt.eq_list_lengthsAt p1.isList p2.isList (by simp) hu (fh I q (by simp))
def tyn (H:Hp):V→Option String
 | .non=>some "NoneType"
 | .bl _=>some "bool"
 | .int _=>some "int"
 | .str _=>some "str"
 | .ref a=>match H a with
  | some (.lst _)=>some "list"
  | some (.tup _)=>some "tuple"
  | some (.dK _)=>some "dict"
  | _=>none
 | _=>none
theorem TyOf.byName {K:ak}{H:Hp}{v:V}{T:String}(h:tyn H v=some T):TyOf K H v (.type T):=by
 cases v with
 | non=>cases h;exact .non
 | bl b=>cases h;exact .bl b
 | int i=>cases h;exact .int i
 | str x=>cases h;exact .str x
 | ref a =>
  simp only [tyn] at h;cases e:H a with
  | none=>rw [e] at h;cases h
  | some o =>
   rw [e] at h;cases o <;> first | (cases h;first | exact .lst e | exact .tup e | exact .dK e) | cases h
 | _=>cases h
theorem kit_tuple (K:ak){T:String}(h:T∈["NoneType","bool","int","str","list","tuple","dict"]):PySem.W.kitOne K (.type T) (.type "tuple")=some (T == "tuple"):=by
 simp only [aL,dg,or_false] at h
 rcases h with rfl | rfl | rfl | rfl | rfl | rfl | rfl <;> kernel_rfl
theorem kit_int (K:ak){T:String}(h:T∈["NoneType","bool","int","str","list","tuple","dict"]):PySem.W.kitOne K (.type T) (.type "int")=some (T == "int" || T == "bool"):=by
 simp only [aL,dg,or_false] at h
 rcases h with rfl | rfl | rfl | rfl | rfl | rfl | rfl <;> kernel_rfl
theorem kit_bool (K:ak){T:String}(h:T∈["NoneType","bool","int","str","list","tuple","dict"]):PySem.W.kitOne K (.type T) (.type "bool")=some (T == "bool"):=by
 simp only [aL,dg,or_false] at h
 rcases h with rfl | rfl | rfl | rfl | rfl | rfl | rfl <;> kernel_rfl
theorem tyn_mem {H:Hp}{v:V}{T:String}(h:tyn H v=some T):T∈["NoneType","bool","int","str","list","tuple","dict"]:=by
 cases v with
 | non=>cases h;simp
 | bl b=>cases h;simp
 | int i=>cases h;simp
 | str x=>cases h;simp
 | ref a =>
  simp only [tyn] at h;cases e:H a with
  | none=>rw [e] at h;cases h
  | some o =>
   rw [e] at h;cases o <;> first | (cases h;simp;done) | cases h
 | _=>cases h
theorem lx:CallR X (.builtin "isinstance") (fun xs H Q=>∃ x n t b,xs=[x,.ty n]∧TyOf X.K H x t∧PySem.W.kitOne X.K t (.type n)=some b∧Q (.bl b) H):=by
 intro aQ s σ H xs us Q I r h;obtain ⟨x,n,t,b,rfl,ty,e,q⟩:=h;obtain ⟨u,w',rfl,ru,rw'⟩:=vals2 r;cases (show w'=ae.type n from rw');exact isinst_ok I ru ty e fun tk=>⟨.bl b,H,I.tok tk,rfl,q⟩
theorem call_isTup:CallR X (.builtin "isinstance") (fun xs H Q=>∃ x T,xs=[x,.ty "tuple"]∧tyn H x=some T∧Q (.bl (T == "tuple")) H) :=
 fun aQ s σ H xs us Q I r ⟨x,T,e,hT,q⟩=>lx aQ s σ H xs us Q I r ⟨x,_,_,_,e,.byName hT,kit_tuple _ (tyn_mem hT),q⟩
theorem call_isInt:CallR X (.builtin "isinstance") (fun xs H Q=>∃ x T,xs=[x,.ty "int"]∧tyn H x=some T∧Q (.bl (T == "int" || T == "bool")) H) :=
 fun aQ s σ H xs us Q I r ⟨x,T,e,hT,q⟩=>lx aQ s σ H xs us Q I r ⟨x,_,_,_,e,.byName hT,kit_int _ (tyn_mem hT),q⟩
theorem call_isBool:CallR X (.builtin "isinstance") (fun xs H Q=>∃ x T,xs=[x,.ty "bool"]∧tyn H x=some T∧Q (.bl (T == "bool")) H) :=
 fun aQ s σ H xs us Q I r ⟨x,T,e,hT,q⟩=>lx aQ s σ H xs us Q I r ⟨x,_,_,_,e,.byName hT,kit_bool _ (tyn_mem hT),q⟩
inductive rCatA (K:ak)(x:V)(y:V)(H:Hp)(Q:VK):Prop
 | mk (a b xs ys:_)(_:x= .ref a)(_:y= .ref b)(_:H a=some (.tup xs))(_:H b=some (.tup ys))(_:xs.length+ys.length≤bc)(_:∀ p H',Same H H'→H' p=some (.tup (xs++ys))→Q (.ref p) H')
theorem nZ:OpR X (gC .Add) (rCatA X.K):=by
 intro aQ s σ H x y v u Q I rx ry h;obtain ⟨a,b,xs,ys,rfl,rfl,ha,hb,hz,q⟩:=h;cases xs with
 | cons x xs =>
  refine op_catT aQ s σ H (.ref a) (.ref b) v u Q I rx ry ⟨a,b,_,ys,rfl,rfl,SqT.of ha,SqT.of hb,(by simp),hz,fun e=>?_,fun _ p hp=>?_⟩
  ·subst e
   exact q a H (Same.refl H) (by rw [fv];exact ha)
  ·exact q p _ (fun c o e=>by rw [bf (aY e hp)];exact e) aS
 | nil =>
  cases (show v=ae.ref a from rx);cases (show u=ae.ref b from ry);obtain ⟨its,r1,p1,_⟩:=I.tuple (SqT.of (K:=X.K) ha);obtain ⟨its2,r2,p2,_⟩:=I.tuple (SqT.of (K:=X.K) hb);cases r1;obtain ⟨⟨c1,d1,t1,l1⟩,o1,k1,n1,g1⟩:=id p1;obtain ⟨⟨c2,d2,t2,l2⟩,o2,k2,n2,g2⟩:=id p2;simp only at k1 g1 k2 g2;subst k1 g1 k2 g2;exact concat_meets ⟨_,o1,rfl⟩ ⟨_,o2,rfl⟩ noFill_tuple_add seq_tuple_add PySem.F.slot_tuple_add kl (jY _ _)
   (tuple_addW0 a b _ its2.toArray n1 n2 d1 d2 l1 l2 (by simp)) ⟨o1,o2,⟨.ref b,H,I,rfl,q b H (Same.refl H) hb⟩⟩
end
def gW (X:Cx)(scope:fV)(cl:List (Str×ao))(C:ao)(N:List Str)(s:ar)(H:Hp)(ex:List ao):Cx :=
 { X with N:=N,s₀:=s,H₀:=H,env:=compEnvC scope cl C X.env,outer:=X.stack,ex:=ex,fn:=fun _=>false,pn:=[],xe:=fun _ _=>False }
theorem oA {scope:fV}{env:Env}(hf:∀ y∈scope.names,y.2= .free→∃ c,env.cells.lookup y.1=some c) :
  ∃ cl,closureFor scope env=fQ cl∧(∀ x c,cl.lookup x=some c→env.cells.lookup x=some c)∧∀ y∈scope.names,y.2= .free→cl.lookup y.1=env.cells.lookup y.1:=by
 have aux:∀ (names:List (Str×cL)) (acc:List (Str×ao)),(∀ y∈names,y.2= .free→∃ c,env.cells.lookup y.1=some c)→(∀ x c,acc.lookup x=some c→env.cells.lookup x=some c) →
   ∃ cl,(forIn names acc fun x r=>match x with
     | (name,kind)=>if (kind == cL.free)=true then (cellOf env name >>= fun c=>fQ (ForInStep.yield ((name,c)::r))) else fQ (ForInStep.yield r):Sem (List (Str×ao)))=fQ cl ∧
    (∀ x c,cl.lookup x=some c→env.cells.lookup x=some c)∧(∀ x c,acc.lookup x=some c→cl.lookup x=some c)∧∀ y∈names,y.2= .free→cl.lookup y.1=env.cells.lookup y.1:=by
  intro names
  induction names with
  | nil=>intro acc _ ha;exact ⟨acc,rfl,ha,fun _ _ e=>e,fun y hy=>pj hy (by simp)⟩
  | cons z r ih =>
   intro acc hn ha;obtain ⟨n,k⟩:=z;have hr:∀ y∈r,y.2= .free→∃ c,env.cells.lookup y.1=some c:=fun y hy=>hn y (ax _ hy)
   by_cases hk:k= .free
   ·subst hk
    obtain ⟨c,hc⟩:=hn (n,.free) bF rfl;have hc:env.cells.lookup n=some c:=hc;have ha':∀ x d,((n,c)::acc).lookup x=some d→env.cells.lookup x=some d:=fun x d e=>by
     rw [dh] at e;cases hx:x == n with
     | true =>
      rw [hx] at e;have e':c=d:=cq e;have ex:x=n:=eq_of_beq hx;rw [ex,←e'];exact hc
     | false=>rw [hx] at e;exact ha x d e
    obtain ⟨cl,e1,e2,e3,e4⟩:=ih ((n,c)::acc) hr ha';have iM:cellOf env n=fQ c:=by unfold cellOf;rw [hc]
    refine ⟨cl,?_,e2,fun x d e=>?_,fun y hy hy2=>?_⟩
    ·rw [List.forIn_cons]
     show ((if (cL.free == cL.free)=true then (cellOf env n >>= fun c=>fQ (ForInStep.yield ((n,c)::acc))) else fQ (ForInStep.yield acc)) >>= _)=_;rw [pf (by decide:(cL.free == cL.free)=true),iM];exact e1
    ·have h1:((n,c)::acc).lookup x=some (if x == n then c else d):=by
      rw [dh];cases hx:x == n with
      | true=>rfl
      | false=>exact e
     have h2:=e3 x _ h1;have h3:=e2 x _ h2;have h4:=ha x d e;rw [h3] at h4;rw [h2];exact h4
    ·rcases aL.mp hy with rfl | hy3
     ·have h1:((n,c)::acc).lookup n=some c:=by rw [dh,beq_self_eq_true]
      show cl.lookup n=_;rw [e3 n c h1,hc]
     ·exact e4 y hy3 hy2
   ·have hb:(k == cL.free)=false:=by simpa using hk
    obtain ⟨cl,e1,e2,e3,e4⟩:=ih acc hr ha;refine ⟨cl,?_,e2,e3,fun y hy hy2=>?_⟩
    ·rw [List.forIn_cons]
     show ((if (k == cL.free)=true then (cellOf env n >>= fun c=>fQ (ForInStep.yield ((n,c)::acc))) else fQ (ForInStep.yield acc)) >>= _)=_;rw [hb];exact e1
    ·rcases aL.mp hy with rfl | hy3
     ·exact pj hy2 hk
     ·exact e4 y hy3 hy2
 obtain ⟨cl,e1,e2,_,e4⟩:=aux scope.names [] hf fun x c e=>by cases e
 refine ⟨cl,Eq.trans ?_ e1,e2,e4⟩;unfold closureFor
 first
  | rfl
  | (simp only [bind_pure];done)
  | (simp only [bind_pure];rfl)
  | (simp only [bind_pure]
     congr 1
     funext x r
     obtain ⟨n,k⟩:=x;cases (k == cL.free) <;> rfl)
theorem mh {env:Env}:∀ {names:List (Str×cL)} {x:Str} {k':cL},
  (names.map fun (n,k)=>if (k == cL.free && env.scope.kind == .function && env.kindOf n == some .cell) then (n,cL.cell) else (n,k)).lookup x=some k' →
  names.lookup x=some k'∨(names.lookup x=some .free∧k'= .cell)
 | [],_,_,h=>by simp at h
 | (n,k)::r,x,k',h=>by
  have ih:= @mh env r x k';rw [bV] at h;show eJ x ((n,k)::r)=_∨(eJ x ((n,k)::r)=_∧_);rw [dh]
  by_cases hq:(k == cL.free && env.scope.kind == .function && env.kindOf n == some .cell)=true
  ·have g:eJ x ((if (k == cL.free && env.scope.kind == .function && env.kindOf n == some .cell)=true then (n,cL.cell) else (n,k))::_)=_:=h
   rw [pf hq,dh] at g;have hk:k= .free:=by
    rw [dt,dt] at hq;exact eq_of_beq hq.1.1
   cases hx:x == n with
   | true=>rw [hx] at g;rw [hk];exact .inr ⟨rfl,(cq g).symm⟩
   | false=>rw [hx] at g;exact ih g
  ·have g:eJ x ((if (k == cL.free && env.scope.kind == .function && env.kindOf n == some .cell)=true then (n,cL.cell) else (n,k))::_)=_:=h
   rw [pe hq,dh] at g;cases hx:x == n with
   | true=>rw [hx] at g;exact .inl g
   | false=>rw [hx] at g;exact ih g
theorem mG {env:Env}(hk:env.scope.kind= .function){x:Str}(hx:env.kindOf x=some .cell):∀ {names:List (Str×cL)},names.lookup x=some .free →
  (names.map fun (n,k)=>if (k == cL.free && env.scope.kind == .function && env.kindOf n == some .cell) then (n,cL.cell) else (n,k)).lookup x=some .cell
 | [],h=>by simp at h
 | (n,k)::r,h=>by
  have ih:= @mG env hk x hx r;show eJ x ((if (k == cL.free && env.scope.kind == .function && env.kindOf n == some .cell)=true then (n,cL.cell) else (n,k))::_)=some cL.cell;rw [dh] at h;cases hxn:x == n with
  | true =>
   rw [hxn] at h;have ek:k= .free:=cq h;have en:x=n:=eq_of_beq hxn;subst ek en;rw [pf (by rw [hk,hx];rfl),dh,beq_self_eq_true]
  | false =>
   rw [hxn] at h
   by_cases hq:(k == cL.free && env.scope.kind == .function && env.kindOf n == some .cell)=true
   ·rw [pf hq,dh,hxn];exact ih h
   ·rw [pe hq,dh,hxn];exact ih h
def PTs (X:Cx)(ifs:List Expr)(t:TT):Prop :=
 ∀ (aQ:List (ao×Obj)) (s:ar) (σ:St) (H:Hp) (Q:Bool→Hp→Prop),Inv X aQ σ H s→t σ H Q →
  aX (br X.prog X.w) X.A (forIn ifs true fun c r=>if r=true then do let ok ← isTrue c X.env (eZ c X.env);fQ (ForInStep.yield ok) else fQ (ForInStep.yield r)) (TP X aQ σ Q) X.xe s
def tNoIf:TT:=fun _ H Q=>Q true H
theorem iB {σ:St}{H:Hp}{A B:Hp→Prop}(h:A H):tNoIf σ H fun b H4=>if b=true then A H4 else B H4:=by
 show if true=true then A H else B H;rw [pf rfl];exact h
theorem i0 {X:Cx}:PTs X [] tNoIf:=fun _ _ _ H _ I h=>wpAny_tests_nil ⟨H,I,h⟩
theorem pts_one {X:Cx}{c:Expr}{t:TT}(h:PT X c t):PTs X [c] t:=fun aQ s σ H Q I q=>wpAny_tests_one (h aQ s σ H Q I q)
theorem HOk.take {P:aW}{w:bz}{H:Hp}{h:bE}{a:ao}{o:HO}(x:HOk P w H h)(hn:H a=none)(new:ObjOk P w (upd H a o) h a o):HOk P w (upd H a o) h:=fun b u e=>by
 by_cases hb:b=a
 ·subst hb;rw [aS] at e;cases e;exact new
 ·rw [bf hb] at e
  exact (x b u e).stay (fun _ _ _ q=>q) (fun c q=>by rw [bf (aY q hn)];exact q) fun c xs q=>by rw [bf (aY q hn)];exact q
def dQ (σ:St)(js:List Nat):St:=js.map fun j=>(σ[j]?).getD none
def CompW (js:List Nat)(tt:TT)(te:TE)(σ:St)(Q:VK)(J:It)(H1:Hp):Prop:=∃ W:Nat→Nat→List V→Hp→Prop,(∃ m,W 0 m [] H1)∧∀ i m ys H2,W i m ys H2 →
 (J.stop i H2∧∀ D,H2 D=none→Q (.ref D) (upd H2 D (.lst ys))) ∨
 (J.go i H2∧ys.length<bc∧∃ N:List V→Hp→Prop,(∀ ys' H',N ys' H'→∃ m',m'<m∧W (i+1) m' ys' H')∧∀ x H3,J.yld i H2 x H3→tt (some x::dQ σ js) H3 fun b H4 =>
  if b=true then te (some x::dQ σ js) H4 fun y H5=>N (ys++[y]) H5 else N ys H4)
def tComp (wi:TI)(js:List Nat)(tt:TT)(te:TE):TE:=fun σ H Q=>wi σ H fun J H1=>CompW js tt te σ Q J H1
abbrev lobj (us:List ae)(n:Nat):Obj:={ cls:= .type "list",data:= .seq us.toArray n }
section
variable {prog:aW} {w:bz} {A:bU} {s:ar} {R:Result→ar→Prop}
abbrev o9 (prog:aW)(w:bz)(A:bU)(env:Env)(R:Result→ar→Prop):ae→ar→Prop:=notedBy (br prog w) A env fun x t=>R (.error x) t
theorem loop_any {elt tg iter:Expr}{ifs:List Expr}{scope:fV}{pos:Pos}{it acc:ae}{env:Env}(J:Nat→ar→Prop)
  (step:∀ k t,J k t→aX (br prog w) A (pyNext it) (fun r t1=>match r with
   | none=>R (.ok .next) t1
   | some v=>aX (br prog w) A (letOwnedTupleGo tg it v) (fun _ t2=>aX (br prog w) A (assign tg env v) (fun _ t3 =>
     aX (br prog w) A (forIn ifs true fun c b=>if b=true then do let z ← isTrue c env (eZ c env);fQ (ForInStep.yield z) else fQ (ForInStep.yield b)) (fun z t4 =>
      if z=true then aX (br prog w) A (eZ elt env) (fun y t5=>aX (br prog w) A (call (.builtin "list.append") [acc,y]) (fun _ t6=>∃ m,m<k∧J m t6) (o9 prog w A env R) t5) (o9 prog w A env R) t4
      else ∃ m,m<k∧J m t4) (o9 prog w A env R) t3) (o9 prog w A env R) t2) (o9 prog w A env R) t1) (o9 prog w A env R) t)
  (k:Nat) (h:J k s):codeAny (br prog w) A (.compLoop (.ListComp elt [⟨tg,iter,ifs,0⟩] scope pos) 0 it acc env) R s:=by
 refine codeAny_loop rfl J (fun k t hJ=>?_) k h;show aX _ A ((compTurn (.ListComp elt [⟨tg,iter,ifs,0⟩] scope pos) 0 it acc env).onRaise (fun y=>do noteFrame y env;theTreesLotGoes y)) _ _ t;refine wpAny_noted ?_;rw [compTurn_list];refine ah (wpAny_standAt (ah (cy (step k t hJ) (fun r t1 q1=>?_) fun _ _ f=>f)));cases r with
 | none=>exact aJ q1
 | some v =>
  refine ah (cy q1 (fun _ t2 q2=>?_) fun _ _ f=>f);refine ah (cy q2 (fun _ t3 q3=>?_) fun _ _ f=>f);refine ah (cy q3 (fun z t4 q4=>?_) fun _ _ f=>f);cases z with
  | false=>exact aJ ⟨rfl,q4⟩
  | true=>exact ah (ah (cy q4 (fun y t5 q5=>ah (cy q5 (fun _ t6 q6=>aJ (aJ ⟨rfl,q6⟩)) fun _ _ f=>f)) fun _ _ f=>f))
end
def CompWT (n:Nat)(g:TG)(js:List Nat)(tt:TT)(te:TE)(σ:St)(Q:VK)(J:It)(H1:Hp):Prop:=∃ W:Nat→Nat→List V→Hp→Prop,(∃ m,W 0 m [] H1)∧∀ i m ys H2,W i m ys H2 →
 (J.stop i H2∧∀ D,H2 D=none→Q (.ref D) (upd H2 D (.lst ys))) ∨
 (J.go i H2∧ys.length<bc∧∃ N:List V→Hp→Prop,(∀ ys' H',N ys' H'→∃ m',m'<m∧W (i+1) m' ys' H')∧∀ x H3,J.yld i H2 x H3→∀ v0:St,v0.length=n→g x (v0++dQ σ js) H3 fun σ4 H4 =>
  (∃ v1:St,v1.length=n∧σ4=v1++dQ σ js)∧tt σ4 H4 fun b H5=>if b=true then te σ4 H5 fun y H6=>N (ys++[y]) H6 else N ys H5)
theorem comp_core {X:Cx}{aQ:List (ao×Obj)}{s:ar}{σ:St}{H:Hp}{Q:VK}{use:Option (ae→Sem Unit)}{R:ae→ar→Prop}{pos':Pos}{CW:St→VK→It→Hp→Prop}{elt iter tg:Expr}{xs:List Str}{g:TG}{pos:Pos}{ifs:List Expr}{scope:fV}{wi:TI}{te:TE}{tt:TT}{fr:List Str}{js:List Nat}
  (hc:X.calm=true) (hi:PI X tg iter wi)
  (iM:∀ y∈scope.names,y.2≠ .cell) (mB:scope.kind= .function) (lX:∀ y∈scope.names,y.2= .local→scope.names.lookup y.1=some .local)
  (hfr:∀ y∈scope.names,y.2= .free→X.env.scope.names.lookup y.1=some .cell) (hjs:js.map (fun j=>X.N[j]?)=fr.map some) (hfv:∀ y∈fr,scope.names.lookup y=some .free)
  (hg:∀ cl C s' H' ex,PG (gW X scope cl C (xs++fr) s' H' ex) tg g)
  (hb:∀ cl C s' H' ex,PE (gW X scope cl C (xs++fr) s' H' ex) elt te∧PTs (gW X scope cl C (xs++fr) s' H' ex) ifs tt)
  (hCW:∀ σ Q J H1,CW σ Q J H1→CompWT xs.length g js tt te σ Q J H1) (I:Inv X aQ σ H s) (h:wi σ H fun J H1=>CW σ Q J H1)
  (fin:∀ (s4:ar) (H5:Hp) (D C:ao) (mC:Str→Option ae),s4.heap.Ns C mC→Inv X aQ σ H5 s4→H5 C=none→C≠X.env.locals→C ∉ X.fs→(∀ p∈X.pn++aQ,p.1≠C)→(∀ y c,X.env.cells.lookup y=some c→c≠C)→X.s₀.heap.objs.size≤C→Q (.ref D) H5→compPost (br X.prog X.w) X.A X.xe use R (.ref D) C (.ok .next) s4)
  (hs:∀ z,ia iter X.env z=fQ z:=by intro _;rfl) :
  aX (br X.prog X.w) X.A (comprehension (.ListComp elt [⟨tg,iter,ifs,0⟩] scope pos) scope X.env pos' (newList []) false (eZ iter X.env) use) R X.xe s:=by
 have hXk:X.env.scope.kind= .function:=I.ok.kind;obtain ⟨cl,hclos,c1,c2⟩:=oA (scope:=scope) (env:=X.env) fun y hy hk=>I.ok.has _ (.inl (hfr y hy hk))
 refine wpAny_comprehension_free rfl hs hclos mB lX (thn (hi aQ s σ H _ I h) fun xv s1 h1=>thn h1 fun itv s2 h2=>?_);obtain ⟨it,fp,tn,J,H2,rfl,I2,T,st2,f2,hcw⟩:=h2;obtain ⟨W,⟨m0,w0⟩,turn⟩:=hCW _ _ _ _ hcw;refine cX (wpAny_newFunctionEnv iM (by intro y hy;simp at hy) (fun hA nsA sbA=>?_) mB)
 dsimp only at nsA sbA ⊢
 generalize hG:s2.heap.push { cls:= .type "list",dict:=none,data:= .seq ([]:List ae).toArray }=G at nsA sbA ⊢;have hC:G.objs.size=s2.heap.objs.size+1:=by rw [←hG,gm]
 have hDC:s2.heap.objs.size≠G.objs.size:=by rw [hC];exact bM (jg _)
 have small:∀ b o,s2.heap.get? b=some o→b≠G.objs.size∧b≠s2.heap.objs.size:=fun b o e=>⟨by rw [hC];exact bM (gX (aN e)),bM (aN e)⟩
 have old:∀ b o,s2.heap.get? b=some o→hA.get? b=some o:=fun b o e=>sbA.extBut b o (small b o e).1 (au _ (hG ▸ au _ e))
 have hDA:hA.get? s2.heap.objs.size=some (lobj [] 0):=sbA.extBut _ _ hDC (au _ (hG ▸ bg _ rfl));have fpo:∀ b∈fp,∃ o,s2.heap.get? b=some o:=fun b hb=>let ⟨o,e,_⟩:=T.obj _ _ st2 b hb;⟨o,e⟩
 have celo:∀ y c,cl.lookup y=some c→∃ o,s2.heap.get? c=some o:=fun y c e=>let ⟨_,o,ho,_⟩:=I2.cell y c (c1 y c e);⟨o,ho⟩
 have ok':(gW X scope cl G.objs.size (xs++fr) s2 H2 fp).Ok:=by
  refine ⟨I2.ok.mod,mB,I2.ok.glob,I2.ok.blt,?_,fun a b c e1 e2=>I2.ok.inj a b c (c1 a c e1) (c1 b c e2),fun y hy=>?_,fun _ _ z=>pj z (by intro q;cases q),I2.ok.hd,I2.ok.frames,.inl rfl,fun b hb=>?_,I2.bs,bj I2.ok.bsz I2.sz,fun b o e hb=>?_,fun b hb hz=>?_,I2.stack,I2.stkFree⟩
  ·show s2.heap.objs.size≤G.objs.size
   rw [hC];exact jy _
  ·have hy:(relabel scope X.env).names.lookup y=some .cell∨(relabel scope X.env).names.lookup y=some .free:=hy
   have key:scope.names.lookup y=some .free:=by
    rcases hy with hy | hy
    ·rcases mh hy with q | ⟨q,_⟩
     ·exact pj rfl (iM _ (cj q))
     ·exact q
    ·rcases mh hy with q | ⟨q,_⟩
     ·exact q
     ·exact q
   have hm:=cj key;obtain ⟨c,e⟩:=I.ok.has y (.inl (hfr _ hm rfl));exact ⟨c,(c2 _ hm rfl).trans e⟩
  ·obtain ⟨o,e⟩:=fpo b hb
   exact ⟨(small b o e).1,fun y c q=>(f2 b hb).2.2.2.2.1 y c (c1 y c q)⟩
  ·obtain ⟨_,_,_,f3,_⟩:=f2 b hb
   rcases f3 with f3 | f3
   ·exact I2.ok.noex b o e f3
   ·exact pj (aU (aN e) (bj I2.ok.bsz f3)) (fG _)
  ·obtain ⟨_,n1,n2,_⟩:=f2 b hb
   exact (aL.mp (I2.stkSub b hz)).elim n1 n2
 have nofs:s2.heap.objs.size ∉ frs X.stack:=fun hz=>by
  obtain ⟨_,o,ho,_⟩:=I2.stack.mem hz;exact fG _ (aN ho)
 have lenB:(dQ σ js).length=fr.length:=by
  have e:=pG List.length hjs;rw [aa,aa] at e;unfold dQ;rw [aa];exact e
 have start':∀ t,Inv (gW X scope cl G.objs.size (xs++fr) s2 H2 fp) [(s2.heap.objs.size,lobj [] 0)] ((xs.map fun _=>none)++dQ σ js) H2 { s2 with heap:=hA,toks:=t }:=fun t=>by
  refine ⟨ok',rfl,I2.bare,Un.kept old,⟨_,nsA,fun i y v e1 e2 e3=>?_⟩,fun y c e=>?_,I2.hok.fresh (by rw [hC];exact jy _),fun y c e=>I2.freeC y c (c1 y c e),fun p hp=>?_,I2.hok.kept old,?_⟩
  ·by_cases hix:i<xs.length
   ·rw [fT (by rw [aa];exact hix),ay,gE hix] at e2
    cases e2
   ·obtain ⟨i,rfl⟩:∃ j,i=xs.length+j:=⟨i - xs.length,by omega⟩
    have e1:(xs++fr)[xs.length+i]? =some y:=e1;have e1:fr[i]? =some y:=by rw [bS (by omega),show xs.length+i - xs.length=i by omega] at e1;exact e1
    have e2:(dQ σ js)[i]? =some (some v):=by rw [bS (by rw [aa];omega),aa,show xs.length+i - xs.length=i by omega] at e2;exact e2
    unfold dQ at e2;rw [ay] at e2;obtain ⟨j,ej,e2⟩:=bx.mp e2;have hN:X.N[j]? =some y:=by
     have q:=pG (fun l=>l[i]?) hjs;simp only [ay,ej,e1,fR] at q;exact cq q
    have hσ:σ[j]? =some (some v):=by
     cases z:σ[j]? with
     | none=>rw [z] at e2;cases e2
     | some w=>rw [z] at e2;exact pG some e2
    have hfree:=hfv y (bp e1);have hm:=cj hfree;have hce:X.env.scope.names.lookup y=some .cell:=hfr _ hm rfl;obtain ⟨m,_,hl⟩:=I2.loc;obtain ⟨u,ru,look⟩:=hl j y v hN hσ (.inr (.inl hce));refine ⟨u,ru,.inr ⟨.inl (mG hXk hce hfree),?_⟩⟩
    rcases look with ⟨k,_⟩ | ⟨_,c,ec,ho⟩
    ·have k:X.env.scope.names.lookup y=some .local:=k
     rw [hce] at k;cases k
    ·obtain ⟨o,ho,hd⟩:=ho
     exact ⟨c,(c2 _ hm rfl).trans ec,o,old c o ho,hd⟩
  ·obtain ⟨v,o,ho,hd⟩:=I2.cell y c (c1 y c e)
   exact ⟨v,o,old c o ho,hd⟩
  ·have hp:p∈[(s2.heap.objs.size,lobj [] 0)]:=hp
   have e:=aw.mp hp;subst e;exact ⟨hDA,I2.hok.fresh (aC _),hDC,nofs,fun v z=>by cases z⟩
  ·show ((xs.map fun _=>none)++dQ σ js).length=(xs++fr).length
   rw [aq,aq,aa,lenB]
 have fok:∀ {us:List ae} {n:Nat} {H':Hp},(∀ b∈fp,H' b=none)→∀ b∈fp,FpOk (gW X scope cl G.objs.size (xs++fr) s2 H2 fp) [(s2.heap.objs.size,lobj us n)] H' b:=fun {us n H'} hn b hb=>by
  obtain ⟨o,e⟩:=fpo b hb;refine ⟨hn b hb,(small b o e).1,fun hz=>(aL.mp (I2.stkSub b hz)).elim (f2 b hb).2.1 (f2 b hb).2.2.1,.inl hb,fun y c q=>(f2 b hb).2.2.2.2.1 y c (c1 y c q),fun p hp=>?_⟩;have hp:p∈[(s2.heap.objs.size,lobj us n)]:=hp;have ep:=aw.mp hp;subst ep;exact fun z=>(small b o e).2 z.symm
 have loop:∀ sB:ar,(∃ t,sB={ s2 with heap:=hA,toks:=t }) →
   codeAny (br X.prog X.w) X.A (.compLoop (.ListComp elt [⟨tg,iter,ifs,0⟩] scope pos) 0 (.ref it) (.ref s2.heap.objs.size) (compEnvC scope cl G.objs.size X.env))
    (compPost (br X.prog X.w) X.A X.xe use R (.ref s2.heap.objs.size) G.objs.size) sB:=by
  rintro sB ⟨t,rfl⟩;refine loop_any (fun k s'=>∃ i ys us n v0 H',v0.length=xs.length∧Inv (gW X scope cl G.objs.size (xs++fr) s2 H2 fp) [(s2.heap.objs.size,lobj us n)] (v0++dQ σ js) H' s'∧Vals ys us∧ys.length≤bc∧tn i s'.heap∧(∀ b∈fp,H' b=none)∧W i k ys H') ?_ m0
   ⟨0,[],[],0,xs.map fun _=>none,H2,aa ..,start' t,.nil,bI _,T.keep _ _ _ st2 fun b hb o e=>old b o e,fun b hb=>(f2 b hb).1,w0⟩
  rintro k s3 ⟨i,ys,us,n,v0,H3,hv0,I3,rv,hlen,st3,fr3,w3⟩
  rcases turn i k ys H3 w3 with ⟨stop,qn⟩ | ⟨go,hlt,N',hN',step⟩
  ·refine thn (T.done (gW X scope cl G.objs.size (xs++fr) s2 H2 fp) rfl rfl rfl hc i _ s3 _ H3 _ I3 (fok fr3) st3 stop) fun r s4 ⟨hr,I4⟩=>?_
   subst hr;obtain ⟨mC,hnC,_⟩:=id I4.loc;obtain ⟨pD,nD,_,_,_⟩:=I4.pin (s2.heap.objs.size,lobj us n) (by show _∈[]++[_];simp);have pD:s4.heap.get? s2.heap.objs.size=some (lobj us n):=pD;have nD:H3 s2.heap.objs.size=none:=nD;have nC:H3 G.objs.size=none:=I4.free;have D2:∀ b o,s2.heap.get? b=some o→b≠s2.heap.objs.size:=fun b o e=>(small b o e).2
   have base4:Un (frs X.stack) fp H2 H3 s2.heap s4.heap:=I4.base;have u4:Un (frs X.stack) fp H2 (upd H3 s2.heap.objs.size (.lst ys)) s2.heap s4.heap :=
    {keep:=base4.keep
     slot:=base4.slot
     free:=fun b o e nb hx'=>by rw [bf (D2 b o e)];exact base4.free b o e nb hx'
     there:=base4.there
     tups:=fun b xs e=>by have q:=base4.tups b xs e;rw [bf (aY q nD)];exact q
     frzs:=fun b o u e=>by have q:=base4.frzs b o u e;rw [bf (aY q nD)];exact q
     tbls:=fun b ps e=>by obtain ⟨more,q⟩:=base4.tbls b ps e;exact ⟨more,by rw [bf (aY q nD)];exact q⟩ }
   have I5:Inv X aQ σ (upd H3 s2.heap.objs.size (.lst ys)) s4:=I2.call' (s':=s4) (ch:=fp) I4.os u4 (I4.hok.take nD ⟨hlen,us,n,rv,pD⟩) I4.bare fun b hb=>by
    obtain ⟨_,g1,_,g3,g4,g5⟩:=f2 b hb;exact ⟨g3,g1,g4,g5⟩
   have locC:G.objs.size≠X.env.locals:=fun z=>by
    obtain ⟨_,⟨o,_,_,ho,_⟩,_⟩:=id I2.loc;exact (small _ o ho).1 z.symm
   have fsC:G.objs.size ∉ X.fs:=fun hz=>by
    obtain ⟨_,o,ho,_⟩:=I2.ok.funs.mem hz;have:=aU (aN ho) I2.sz;rw [hC] at this;exact fG _ (Nat.lt_of_succ_lt this)
   have pinX:∀ p∈X.pn++aQ,p.1≠G.objs.size:=fun p hp=>(small _ _ (I2.pin p hp).1).1
   have nCu:(upd H3 s2.heap.objs.size (.lst ys)) G.objs.size=none:=by rw [bf (cp hDC)];exact nC
   refine fin s4 _ _ _ mC hnC I5 nCu locC fsC pinX (fun y c q z=>?_) (bj I2.sz (by rw [hC];exact jy _)) (qn _ nD);obtain ⟨v,o,ho,_⟩:=I2.cell y c q;exact (small c o ho).1 z
  ·refine thn (T.item (gW X scope cl G.objs.size (xs++fr) s2 H2 fp) rfl rfl rfl hc i _ s3 _ H3 _ I3 (fok fr3) st3 go) fun r s4 ⟨u,hr,h4⟩=>?_
   subst hr;refine thn h4 fun _ s5 ⟨v,H5,I5,r5,y5,st5,fr5⟩=>?_
   have I5':=I5.pinned (fok fr5) (T.obj _ _ st5);refine cy (hg cl G.objs.size s2 H2 fp _ s5 _ H5 v u _ I5' r5 (step v H5 y5 v0 hv0)) (fun _ s6 ⟨σ6,H6,I6,⟨w1,hw1,e6⟩,q6⟩=>?_) fun _ _ f=>f.elim
   subst e6;refine cy ((hb cl G.objs.size s2 H2 fp).2 _ s6 _ H6 _ I6 q6) (fun b s7 ⟨H7,I7,q7⟩=>?_) fun _ _ f=>f.elim
   have back:∀ {s8:ar} {H8:Hp},Inv (gW X scope cl G.objs.size (xs++fr) s2 H2 fp) ([(s2.heap.objs.size,lobj us n)]++pinsAt fp s5.heap) (w1++dQ σ js) H8 s8→tn (i+1) s8.heap∧∀ b∈fp,H8 b=none:=fun {s8 H8} I8=>by
    refine ⟨T.keep _ _ _ st5 fun b hb o e=>(I8.pin (b,o) (aG _ (aG _ (kO hb e)))).1,fun b hb=>?_⟩;obtain ⟨o,e,_⟩:=T.obj _ _ st5 b hb;exact (I8.pin (b,o) (aG _ (aG _ (kO hb e)))).2.1
   cases b with
   | false =>
    obtain ⟨m',hm,w7⟩:=hN' _ _ q7;obtain ⟨t7,n7⟩:=back I7;exact ⟨m',hm,i+1,ys,us,n,w1,H7,hw1,I7.unpinned,rv,hlen,t7,n7,w7⟩
   | true =>
    refine cy ((hb cl G.objs.size s2 H2 fp).1 _ s7 _ H7 _ I7 q7) (fun y' s8 ⟨y,H8,I8,r8,q8⟩=>?_) fun _ _ f=>f.elim
    obtain ⟨m',hm,w8⟩:=hN' _ _ q8;obtain ⟨t8,n8⟩:=back I8;have I8':=I8.unpinned;obtain ⟨pD,nD,_,_,_⟩:=I8'.pin (s2.heap.objs.size,lobj us n) (by show _∈[]++[_];simp);have pD:s8.heap.get? s2.heap.objs.size=some (lobj us n):=pD;have nD:H8 s2.heap.objs.size=none:=nD;refine append_at pD (fun h9 hs9 e9=>?_) (by rw [aB,←rv.length];exact hlen);have e9:h9.get? s2.heap.objs.size=some (lobj (us++[y']) (n+1)):=by rw [e9];simp [lobj]
    have J0:Inv (gW X scope cl G.objs.size (xs++fr) s2 H2 fp) [] (w1++dQ σ js) H8 s8:=I8'.pins_of fun p hp=>pj hp (by simp)
    have J9:Inv (gW X scope cl G.objs.size (xs++fr) s2 H2 fp) [] (w1++dQ σ js) H8 { s8 with heap:=h9,toks:=s8.toks } :=
     J0.turned (it:=s2.heap.objs.size) (fun b o hb' e=>hs9.extBut b o hb' e) nD hDC (.inr (aC _)) (fun y0 c q z=>by
      obtain ⟨o,e⟩:=celo y0 c q;exact (small c o e).2 z) fun p hp=>pj (show p∈([]:List (ao×Obj)) from hp) (by simp)
    refine ⟨m',hm,i+1,ys++[y],us++[y'],n+1,w1,H8,hw1,J9.pins_of fun p hp=>?_,rv.append (.cons r8 .nil),(by rw [aq,gO];exact hlt),T.keep _ _ _ t8 fun b hb' o e=>hs9.extBut b o (by
     obtain ⟨o',e'⟩:=fpo b hb';exact (small b o' e').2) e,n8,w8⟩
    have ep:=aw.mp hp;subst ep;exact ⟨e9,nD,hDC,nofs,fun v z=>by cases z⟩
 exact codeAny_compStart_list (loop _ ⟨_,rfl⟩) (T.self _ 0 _ _ _ (T.keep _ _ _ st2 fun b hb o e=>old b o e) (loop _ ⟨_,rfl⟩))
theorem pe_compC {X:Cx}{CW:St→VK→It→Hp→Prop}{elt iter tg:Expr}{xs:List Str}{g:TG}{pos:Pos}{ifs:List Expr}{scope:fV}{wi:TI}{te:TE}{tt:TT}{fr:List Str}{js:List Nat}
  (hc:X.calm=true) (hi:PI X tg iter wi)
  (iM:∀ y∈scope.names,y.2≠ .cell) (mB:scope.kind= .function) (lX:∀ y∈scope.names,y.2= .local→scope.names.lookup y.1=some .local)
  (hfr:∀ y∈scope.names,y.2= .free→X.env.scope.names.lookup y.1=some .cell) (hjs:js.map (fun j=>X.N[j]?)=fr.map some) (hfv:∀ y∈fr,scope.names.lookup y=some .free)
  (hg:∀ cl C s' H' ex,PG (gW X scope cl C (xs++fr) s' H' ex) tg g)
  (hb:∀ cl C s' H' ex,PE (gW X scope cl C (xs++fr) s' H' ex) elt te∧PTs (gW X scope cl C (xs++fr) s' H' ex) ifs tt)
  (hCW:∀ σ Q J H1,CW σ Q J H1→CompWT xs.length g js tt te σ Q J H1) (hs:∀ z,ia iter X.env z=fQ z:=by intro _;rfl) :
  PE X (.ListComp elt [⟨tg,iter,ifs,0⟩] scope pos) (fun σ H Q=>wi σ H fun J H1=>CW σ Q J H1):=by
 intro aQ s σ H Q I h;rw [eval_ListComp];exact comp_core (use:=none) (R:=EP X aQ σ Q) hc hi iM mB lX hfr hjs hfv hg hb hCW I h (fun s4 H5 D C mC n I5 nC lC fC pC cC sC q=>⟨mC,n,fun h' hsb=>⟨.ref D,H5,I5.turned (t':=s4.toks) (it:=C) (fun b o hb' e=>hsb.extBut b o hb' e) nC lC (.inr sC) cC pC,rfl,q⟩⟩) hs
theorem compW_T {js:List Nat}{tt:TT}{te:TE}{σ:St}{Q:VK}{J:It}{H1:Hp}(h:CompW js tt te σ Q J H1):CompWT 1 (oI 0) js tt te σ Q J H1:=by
 obtain ⟨W,w0,turn⟩:=h;refine ⟨W,w0,fun i m ys H2 hw=>?_⟩
 rcases turn i m ys H2 hw with h | ⟨h1,h2,N,h3,h4⟩
 ·exact .inl h
 ·refine .inr ⟨h1,h2,N,h3,fun x H3 hy v0 hv=>?_⟩
  obtain ⟨w,rfl⟩:∃ w,v0=[w]:=by
   obtain _ | ⟨w,v0⟩:=v0
   ·cases hv
   ·obtain _ | ⟨z,v0⟩:=v0
    ·exact ⟨w,rfl⟩
    ·cases hv
  exact ⟨⟨[some x],rfl,rfl⟩,h4 x H3 hy⟩
theorem i3 {X:Cx}{elt iter:Expr}{x:Str}{px pos:Pos}{ifs:List Expr}{scope:fV}{wi:TI}{te:TE}{tt:TT}{fr:List Str}{js:List Nat}
  (hc:X.calm=true) (hi:PI X (.Name x px) iter wi)
  (iM:∀ y∈scope.names,y.2≠ .cell) (mB:scope.kind= .function) (lX:∀ y∈scope.names,y.2= .local→scope.names.lookup y.1=some .local) (hx:scope.names.lookup x=some .local)
  (hfr:∀ y∈scope.names,y.2= .free→X.env.scope.names.lookup y.1=some .cell) (hnd:(x::fr).Nodup) (hjs:js.map (fun j=>X.N[j]?)=fr.map some) (hfv:∀ y∈fr,scope.names.lookup y=some .free)
  (hb:∀ cl C s' H' ex,PE (gW X scope cl C (x::fr) s' H' ex) elt te∧PTs (gW X scope cl C (x::fr) s' H' ex) ifs tt)
  (hs:∀ z,ia iter X.env z=fQ z:=by intro _;rfl) :
  PE X (.ListComp elt [⟨.Name x px,iter,ifs,0⟩] scope pos) (tComp wi js tt te) :=
 pe_compC (xs:=[x]) (g:=oI 0) hc hi iM mB lX hfr hjs hfv (fun _ _ _ _ _=>df hnd rfl (.inl (jL hx)) (.inr (jL hx))) hb (fun _ _ _ _ h=>compW_T h) hs
theorem kR {K:ak}{a:ao}{xs:List V}{js:List Nat}{tt:TT}{te:TE}{σ:St}{H:Hp}{Q:VK}(Pv:Nat→List V→Hp→Prop)(h0:Pv 0 [] H)(hl:∀ i ys H,i≤xs.length→Pv i ys H→SqT K H a xs∧ys.length≤i)(hz:xs.length≤bc)
  (hs:∀ i x ys H,xs[i]? =some x→Pv i ys H→tt (some x::dQ σ js) H fun b H4=>if b=true then te (some x::dQ σ js) H4 fun y H5=>Pv (i+1) (ys++[y]) H5 else Pv (i+1) ys H4)
  (hd:∀ ys H,Pv xs.length ys H→∀ D,H D=none→Q (.ref D) (upd H D (.lst ys))):CompW js tt te σ Q (Itt K a) H:=by
 refine ⟨fun i m ys H=>i≤xs.length∧m=xs.length - i∧Pv i ys H,⟨_,bI _,rfl,h0⟩,fun i m ys H2 ⟨hi,hm,hp⟩=>?_⟩;obtain ⟨hq,hy⟩:=hl i ys H2 hi hp
 by_cases e:i=xs.length
 ·subst e
  exact .inl ⟨⟨xs,hq,aC _⟩,hd ys H2 hp⟩
 ·have hlt:i<xs.length:=iJ hi e
  refine .inr ⟨⟨xs,_,hq,gE hlt⟩,by omega,Pv (i+1),fun ys' H' hp'=>⟨xs.length - (i+1),by omega,by omega,rfl,hp'⟩,fun x H3 hy3=>?_⟩;obtain ⟨e3,hx⟩:=hy3;subst e3;exact hs i x ys H3 (hx xs hq) hp
section
variable {prog:aW} {w:bz} {A:bU} {E:ae→ar→Prop} {s:ar}
theorem nextT_item {j t:ao}{i:Nat}{its}{v:ae}{Q:ae→ar→Prop}(jt:s.heap.IsTupleIter j t i)(tt:s.heap.IsTuple t its)(hv:its[i]? =some v)
  (q:∀ g,g.IsTupleIter j t (i+1)→dZ j s.heap g→Q v { s with heap:=g }):aX (br prog w) A (cS (.ref j)) Q E s:=by
 obtain ⟨ob,e1,e2,e3⟩:=id jt;obtain ⟨ot,g1,_,k,g2⟩:=tt;unfold cS;refine ah (dW (name:=eD "__next__") jt.typeIs ip (fP ip jt.typeIs F.entry_tuple_iterator_next ?_ (F.args_tuple_iterator_next_1 _)));show aX _ _ (field (.ref j) 0 >>= _) _ _ s;refine ah (cR e1 e3 (x:= .ref t) rfl ?_);show aX _ _ (ite ((ae.ref t == ae.none)=true) _ _) _ _ s;rw [pe (fun z:(ae.ref t == ae.none)=true=>bb z)];show aX _ _ (field (.ref j) 1 >>= _) _ _ s;refine ah (cR e1 e3 (x:= .int i 0) rfl ?_);show aX _ _ (seqItems? (.ref t) >>= _) _ _ s;refine ah (iw g1 g2 ?_);simp only [dA,hv];refine ah (wpAny_setField e1 e3 (by simp) (aJ ⟨v,rfl,aJ (q _ ?_ (fS ..))⟩));exact ⟨_,bE.get?_update_self _ e1 (Obj.isFreed_of_fields (Obj.data_mapFields e3 _)),(Obj.cls_mapFields ..).trans e2,by rw [Obj.data_mapFields e3];simp [rawInt]⟩
theorem nextT_end {j t:ao}{i:Nat}{its}{Q:ae→ar→Prop}(hh:A.handled=none)(jt:s.heap.IsTupleIter j t i)(tt:s.heap.IsTuple t its)(hv:its[i]? =none)
  (q:∀ g x,bE.ExtBut j s.heap g→(∃ o,g.get? x=some o∧o.cls= .type "StopIteration")→E (.ref x) { s with heap:=g }):aX (br prog w) A (cS (.ref j)) Q E s:=by
 obtain ⟨ob,e1,e2,e3⟩:=id jt;obtain ⟨ot,g1,_,k,g2⟩:=tt;unfold cS;refine ah (dW (name:=eD "__next__") jt.typeIs ip (fP ip jt.typeIs F.entry_tuple_iterator_next ?_ (F.args_tuple_iterator_next_1 _)));show aX _ _ (field (.ref j) 0 >>= _) _ _ s;refine ah (cR e1 e3 (x:= .ref t) rfl ?_);show aX _ _ (ite ((ae.ref t == ae.none)=true) _ _) _ _ s;rw [pe (fun z:(ae.ref t == ae.none)=true=>bb z)];show aX _ _ (field (.ref j) 1 >>= _) _ _ s;refine ah (cR e1 e3 (x:= .int i 0) rfl ?_);show aX _ _ (seqItems? (.ref t) >>= _) _ _ s;refine ah (iw g1 g2 ?_);simp only [dA,hv];refine ah (wpAny_rule (ah (wpAny_setField e1 e3 (by simp) ?_)));show aX _ _ (newExc (.type "StopIteration") [] >>= _) _ _ _;refine ah ?_;simp only [newExc,newTuple];refine ah (cX ?_ (by size_fits));refine ah (m:=firstArgMember _ _) (wpAny_of_eq (a:=ae.none) (by first | rfl | (unfold firstArgMember;rfl)) ?_);refine cX ?_ (by size_fits);simp only [raiseNew];refine ah (wpAny_handled ?_)
 first | rw [show A.in1.handled=none from hh] | rw [hh]
 exact ah (aJ (wpAny_throw (q _ _ (((fS ..).extBut.push _).push _) ⟨_,bg _ rfl,rfl⟩)))
end
section
open AutoSeq1 (wpAny_loadPart')
end
section
variable {X:Cx}
theorem Inv.turnAll {aQ:List (ao×Obj)}{σ:St}{H H':Hp}{s:ar}{g:bE}{ch:List ao}(I:Inv X aQ σ H s)(hf:∀ b∈ch,FpOk X aQ H b)
  (k:∀ b o,b ∉ ch→s.heap.get? b=some o→g.get? b=some o) (hH:∀ b u,H b=some u→H' b=some u) (hN:∀ b o,s.heap.get? b=some o→H b=none→H' b=none) (hok:HOk X.prog X.w H' g):Inv X aQ σ H' { s with heap:=g }:=by
 refine I.step (g':=s.gens) (d':=s.drawn) (t':=s.toks) (ch:=ch) (fun b hb=>?_) (fun b o _ _ hc e _=>k b o hc e) (fun b o _ _ hc e _=>⟨o.slots,k b o hc e⟩) (fun b o _ e n=>hN b o e n)
  (fun b o hc e=>⟨o,k b o hc e⟩) (fun b xs e=>hH b _ e) (fun b o u e=>hH b _ e) (fun b ps e=>⟨#[],by rw [hH b _ e];simp⟩) (fun m hm=>?_) hok I.bare
 ·obtain ⟨_,f1,_,f3,f4,f5⟩:=hf b hb
  exact ⟨f3,f1,f4,f5⟩
 ·obtain ⟨o,es,ep,ho,r⟩:=hm
  exact ⟨o,es,ep,k _ o (fun hb=>(hf _ hb).2.1 rfl) ho,r⟩
end
theorem Same.put {H H1:Hp}(e:Same H H1){p:ao}{o:HO}(h:H1 p=none):Same H (upd H1 p o):=fun b u q=>by rw [bf (aY (e b u q) h)];exact e b u q
section
variable {X:Cx} {aQ:List (ao×Obj)} {σ:St} {H:Hp} {s:ar} {pos:Pos}
theorem Inv.big (I:Inv X aQ σ H s):iS<s.heap.objs.size:=by
 have h:bK<s.heap.objs.size:=(I.mod.glob.keeps I.bk).lt;exact Nat.lt_trans (by decide) h
theorem dk_empty {P:aW}{w:bz}{H:Hp}(h:bE)(hb:iS<h.objs.size):ObjOk P w H (h.push { cls:= .type "dict",data:= .dict #[] }) h.objs.size (.dK []) :=
 ⟨bI _,beq_eq_false_iff_ne.mpr (cp (bM hb)),[],.nil,bE.DictOf.new h⟩
def tDNewK:TE:=fun _ H Q=>∀ p,H p=none→Q (.ref p) (upd H p (.dK []))
theorem pe_dnewK:PE X (.Dict [] [] pos) tDNewK:=fun aQ s σ H Q I h =>
 wpAny_Dict_empty ⟨.ref s.heap.objs.size,_,I.laid (a:=s.heap.objs.size) (o:= .dK []) (t':=s.toks) (fun _ _ q=>au _ q) (aC _) (dk_empty s.heap I.big),rfl,h _ (I.hok.fresh (aC _))⟩
end
section
variable {X:Cx}
theorem PE.imp {e:Expr}{t t':TE}(h:PE X e t)(i:∀ σ H Q,t' σ H Q→t σ H Q):PE X e t':=fun aQ s σ H Q I q=>h aQ s σ H Q I (i σ H Q q)
theorem OpR.imp {f:ae→ae→Sem ae}{r r':R2}(h:OpR X f r)(i:∀ x y H Q,r' x y H Q→r x y H Q):OpR X f r':=fun aQ s σ H x y v u Q I rx ry q=>h aQ s σ H x y v u Q I rx ry (i x y H Q q)
theorem CallR.imp {f:ae}{r r':List V→Hp→VK→Prop}(h:CallR X f r)(i:∀ xs H Q,r' xs H Q→r xs H Q):CallR X f r':=fun aQ s σ H xs us Q I rv q=>h aQ s σ H xs us Q I rv (i xs H Q q)
theorem SlR.imp {r r':V→Option Int→Option Int→Hp→VK→Prop}(h:SlR X r)(i:∀ x lo hi H Q,r' x lo hi H Q→r x lo hi H Q):SlR X r':=fun aQ s σ H x v vl vu lo hi sl Q I rx hs pl pu q=>h aQ s σ H x v vl vu lo hi sl Q I rx hs pl pu (i x lo hi H Q q)
def tACut (t:TA):TA:=fun σ H R=>∃ R':List V→Hp→Prop,(∀ xs H,R' xs H→R xs H)∧t σ H R'
theorem PA.cut {es:List Expr}{t:TA}(h:PA X es t):PA X es (tACut t):=fun pos aQ s σ H Q I ⟨R',i,q⟩ =>
 thn (h pos aQ s σ H R' I q) fun us s' ⟨vs,H',I',rv,q'⟩=>⟨vs,H',I',rv,i _ _ q'⟩
def New (H:Hp)(o:HO)(Q:VK):Prop:=∀ p H',Same H H'→H' p=some o→Q (.ref p) H'
theorem New.of {H:Hp}{o:HO}{Q:VK}(h:New H o Q):∀ p,H p=none→Q (.ref p) (upd H p o):=fun p hp=>h p _ (Same.put (Same.refl H) hp) aS
def tTupA (t:TA):TE:=fun σ H Q=>t σ H fun xs H1=>xs.length≤bc∧New H1 (.tup xs) Q
def tLstA (t:TA):TE:=fun σ H Q=>t σ H fun xs H1=>xs.length≤bc∧New H1 (.lst xs) Q
theorem d8 {es:List Expr}{t:TA}{x1}{pos:Pos}(h:PA X es t):PE X (.Tuple es x1 pos) (tTupA t):=(mJ h.cut).imp fun _ _ _ q=>⟨_,fun _ _ z=>⟨z.1,z.2.of⟩,q⟩
theorem nW {es:List Expr}{t:TA}{pos:Pos}(h:PA X es t):PE X (.List es pos) (tLstA t):=(iq h.cut).imp fun _ _ _ q=>⟨_,fun _ _ z=>⟨z.1,z.2.of⟩,q⟩
theorem mx:OpR X (gC .Add) (fun x y H Q=>∃ l b xs zs,x= .ref l∧y= .ref b∧H l=some (.lst xs)∧H b=some (.lst zs)∧xs.length+zs.length≤bc∧New H (.lst (xs++zs)) Q) :=
 op_cat.imp fun _ _ _ _ ⟨l,b,xs,zs,e1,e2,e3,e4,e5,q⟩=>⟨l,b,xs,zs,e1,e2,e3,e4,e5,q.of⟩
end
inductive Dt where
 | non | bl (b:Bool) | int (i:Int) | str (x:Str) | tup (ds:List Dt) | oth (T:String)
mutual
inductive IsD (H:Hp):V→Dt→Prop where
 | non:IsD H .non .non
 | bl (b:Bool):IsD H (.bl b) (.bl b)
 | int (i:Int):IsD H (.int i) (.int i)
 | str (x:Str):IsD H (.str x) (.str x)
 | tup {a:ao} {xs:List V} {ds:List Dt} (h:H a=some (.tup xs)) (r:IsDs H xs ds):IsD H (.ref a) (.tup ds)
 | lst {a:ao} {xs:List V} (h:H a=some (.lst xs)):IsD H (.ref a) (.oth "list")
 | dct {a:ao} {kvs:List (Key×V)} (h:H a=some (.dK kvs)):IsD H (.ref a) (.oth "dict")
inductive IsDs (H:Hp):List V→List Dt→Prop where
 | nil:IsDs H [] []
 | cons {x:V} {d:Dt} {xs:List V} {ds:List Dt} (h:IsD H x d) (r:IsDs H xs ds):IsDs H (x::xs) (d::ds)
end
mutual
theorem IsD.same {H H':Hp}(e:Same H H'):∀ {v:V} {d:Dt},IsD H v d→IsD H' v d
 | _,_,.non=> .non
 | _,_,.bl b=> .bl b
 | _,_,.int i=> .int i
 | _,_,.str x=> .str x
 | _,_,.tup h r=> .tup (e _ _ h) (IsDs.same e r)
 | _,_,.lst h=> .lst (e _ _ h)
 | _,_,.dct h=> .dct (e _ _ h)
theorem IsDs.same {H H':Hp}(e:Same H H'):∀ {vs:List V} {ds:List Dt},IsDs H vs ds→IsDs H' vs ds
 | _,_,.nil=> .nil
 | _,_,.cons h r=> .cons (IsD.same e h) (IsDs.same e r)
end
mutual
theorem IsD.inj {H:Hp}:∀ {v:V} {d e:Dt},IsD H v d→IsD H v e→d=e
 | _,_,_,.non,.non=>rfl
 | _,_,_,.bl _,.bl _=>rfl
 | _,_,_,.int _,.int _=>rfl
 | _,_,_,.str _,.str _=>rfl
 | _,_,_,.tup h r,q=>by
  cases q with
  | tup h' r'=>rw [h] at h';cases h';rw [IsDs.inj r r']
  | lst h'=>rw [h] at h';cases h'
  | dct h'=>rw [h] at h';cases h'
 | _,_,_,.lst h,q=>by
  cases q with
  | tup h' r'=>rw [h] at h';cases h'
  | lst h'=>rfl
  | dct h'=>rw [h] at h';cases h'
 | _,_,_,.dct h,q=>by
  cases q with
  | tup h' r'=>rw [h] at h';cases h'
  | lst h'=>rw [h] at h';cases h'
  | dct h'=>rfl
theorem IsDs.inj {H:Hp}:∀ {vs:List V} {ds es:List Dt},IsDs H vs ds→IsDs H vs es→ds=es
 | _,_,_,.nil,.nil=>rfl
 | _,_,_,.cons h r,.cons h' r'=>by rw [IsD.inj h h',IsDs.inj r r']
end
section
variable {H:Hp}
theorem IsDs.length:∀ {xs:List V} {ds:List Dt},IsDs H xs ds→xs.length=ds.length
 | _,_,.nil=>rfl
 | _,_,.cons _ r=>by rw [aV,aV,IsDs.length r]
theorem IsDs.get:∀ {xs:List V} {ds:List Dt} {i:Nat} {x:V},IsDs H xs ds→xs[i]? =some x→∃ d,ds[i]? =some d∧IsD H x d
 | _,_,_,_,.nil,e=>by simp at e
 | _,_,0,_,.cons h _,e=>by simp at e;subst e;exact ⟨_,rfl,h⟩
 | _,_,i+1,x,.cons _ r,e=>by
  obtain ⟨d,h1,h2⟩:=IsDs.get (i:=i) (x:=x) r (by simpa using e);exact ⟨d,by simpa using h1,h2⟩
theorem IsDs.at:∀ {xs:List V} {ds:List Dt} {i:Nat} {d:Dt},IsDs H xs ds→ds[i]? =some d→∃ x,xs[i]? =some x∧IsD H x d
 | _,_,_,_,.nil,e=>by simp at e
 | _,_,0,_,.cons h _,e=>by simp at e;subst e;exact ⟨_,rfl,h⟩
 | _,_,i+1,d,.cons _ r,e=>by
  obtain ⟨x,h1,h2⟩:=IsDs.at (i:=i) (d:=d) r (by simpa using e);exact ⟨x,by simpa using h1,h2⟩
theorem IsDs.append:∀ {xs ys:List V} {ds es:List Dt},IsDs H xs ds→IsDs H ys es→IsDs H (xs++ys) (ds++es)
 | _,_,_,_,.nil,s=>s
 | _,_,_,_,.cons h r,s=> .cons h (IsDs.append r s)
theorem IsDs.take:∀ {xs:List V} {ds:List Dt} (n:Nat),IsDs H xs ds→IsDs H (xs.take n) (ds.take n)
 | _,_,0,_=> .nil
 | _,_,_+1,.nil=> .nil
 | _,_,n+1,.cons h r=> .cons h (IsDs.take n r)
theorem IsDs.drop:∀ {xs:List V} {ds:List Dt} (n:Nat),IsDs H xs ds→IsDs H (xs.drop n) (ds.drop n)
 | _,_,0,r=>r
 | _,_,_+1,.nil=> .nil
 | _,_,n+1,.cons _ r=>IsDs.drop n r
theorem IsDs.one {x:V}{d:Dt}(h:IsD H x d):IsDs H [x] [d]:= .cons h .nil
theorem IsDs.ints:∀ (ns:List Int),IsDs H (ns.map V.int) (ns.map Dt.int)
 | []=> .nil
 | n::r=> .cons (.int n) (IsDs.ints r)
theorem IsDs.ints_of:∀ {xs:List V} {ns:List Int},IsDs H xs (ns.map Dt.int)→xs=ns.map V.int
 | _,[],.nil=>rfl
 | _,n::r,.cons h q=>by cases h;rw [IsDs.ints_of q];rfl
theorem IsD.tup_of {v:V}{ds:List Dt}(h:IsD H v (.tup ds)):∃ a xs,v= .ref a∧H a=some (.tup xs)∧IsDs H xs ds:=by
 cases h with
 | tup h r=>exact ⟨_,_,rfl,h,r⟩
end
def Dt.ty:Dt→String
 | .non => "NoneType" | .bl _ => "bool" | .int _ => "int" | .str _ => "str" | .tup _ => "tuple" | .oth T=>T
theorem IsD.tyn {H:Hp}{v:V}{d:Dt}(h:IsD H v d):tyn H v=some d.ty:=by
 cases h with
 | tup h r=>simp only [L2.tyn];rw [h];rfl
 | lst h=>simp only [L2.tyn];rw [h];rfl
 | dct h=>simp only [L2.tyn];rw [h];rfl
 | _=>rfl
mutual
def eqD:Dt→Dt→Bool
 | .non,.non=>true
 | .bl a,.bl b=>a == b
 | .bl a,.int b=>(if a then 1 else 0) == b
 | .int a,.bl b=>a == (if b then 1 else 0)
 | .int a,.int b=>a == b
 | .str a,.str b=>a == b
 | .tup xs,.tup ys=>eqDs xs ys
 | _,_=>false
def eqDs:List Dt→List Dt→Bool
 | [],[]=>true
 | x::xs,y::ys=>eqD x y && eqDs xs ys
 | _,_=>false
end
mutual
def pl:Dt→Bool
 | .oth _=>false
 | .tup ds=>pls ds
 | _=>true
def pls:List Dt→Bool
 | []=>true
 | d::ds=>pl d && pls ds
end
mutual
def dep:Dt→Nat
 | .tup ds=>deps ds+1
 | _=>0
def deps:List Dt→Nat
 | []=>0
 | d::ds=>max (dep d) (deps ds)
end
mutual
theorem eqD_refl:∀ d:Dt,pl d=true→eqD d d=true
 | .non,_=>by unfold eqD;rfl
 | .bl b,_=>by unfold eqD;exact beq_self_eq_true b
 | .int i,_=>by unfold eqD;exact beq_self_eq_true i
 | .str x,_=>by unfold eqD;exact beq_self_eq_true x
 | .tup ds,h=>by
  unfold eqD;unfold pl at h;exact eqDs_refl ds h
 | .oth T,h=>by unfold pl at h;cases h
theorem eqDs_refl:∀ ds:List Dt,pls ds=true→eqDs ds ds=true
 | [],_=>by unfold eqDs;rfl
 | d::ds,h=>by
  unfold eqDs;unfold pls at h;rw [dt] at h;rw [eqD_refl d h.1,eqDs_refl ds h.2];rfl
end
section
variable {X:Cx} {aQ:List (ao×Obj)} {σ:St} {H:Hp} {s:ar}
end
end L2
namespace L2
open PySem PySem.Spec PyProof.Rows
section
variable {X:Cx}
theorem jx:CallR X (.type "tuple") (fun xs H Q=>∃ p ys,xs=[.ref p]∧SqL X.K H p ys∧New H (.tup ys) Q) :=
 call_tuple_of.imp fun _ _ _ ⟨p,ys,e,h,q⟩=>⟨p,ys,e,.inl ⟨h,q.of⟩⟩
theorem sl_listA:SlR X (fun x lo hi H Q=>∃ a xs,x= .ref a∧SqL X.K H a xs∧New H (.lst (cutV xs lo hi)) Q) :=
 sl_list.imp fun _ _ _ _ _ ⟨a,xs,e,h,q⟩=>⟨a,xs,e,h,q.of⟩
end
theorem l3 {K:ak}{a:ao}{xs:List V}{js:List Nat}{tt:TT}{te:TE}{σ:St}{H:Hp}{Q:VK}(Pv:Nat→List V→Hp→Prop)(h0:Pv 0 [] H)(hl:∀ i ys H,i≤xs.length→Pv i ys H→SqL K H a xs∧ys.length≤i)(hz:xs.length≤bc)
  (hs:∀ i x ys H,xs[i]? =some x→Pv i ys H→tt (some x::dQ σ js) H fun b H4=>if b=true then te (some x::dQ σ js) H4 fun y H5=>Pv (i+1) (ys++[y]) H5 else Pv (i+1) ys H4)
  (hd:∀ ys H,Pv xs.length ys H→∀ D,H D=none→Q (.ref D) (upd H D (.lst ys))):CompW js tt te σ Q (Itl K a) H:=by
 refine ⟨fun i m ys H=>i≤xs.length∧m=xs.length - i∧Pv i ys H,⟨_,bI _,rfl,h0⟩,fun i m ys H2 ⟨hi,hm,hp⟩=>?_⟩;obtain ⟨hq,hy⟩:=hl i ys H2 hi hp
 by_cases e:i=xs.length
 ·subst e
  exact .inl ⟨⟨xs,hq,aC _⟩,hd ys H2 hp⟩
 ·have hlt:i<xs.length:=iJ hi e
  refine .inr ⟨⟨xs,_,hq,gE hlt⟩,by omega,Pv (i+1),fun ys' H' hp'=>⟨xs.length - (i+1),by omega,by omega,rfl,hp'⟩,fun x H3 hy3=>?_⟩;obtain ⟨e3,hx⟩:=hy3;subst e3;exact hs i x ys H3 (hx xs hq) hp
theorem kT {lo:Int}{n:Nat}{js:List Nat}{tt:TT}{te:TE}{σ:St}{H:Hp}{Q:VK}(Pv:Nat→List V→Hp→Prop)(h0:Pv 0 [] H)(hl:∀ i ys H,i≤n→Pv i ys H→ys.length≤i)(hz:n≤bc)
  (hs:∀ (i:Nat) ys H,i<n→Pv i ys H→tt (some (.int (lo+i))::dQ σ js) H fun b H4=>if b=true then te (some (.int (lo+i))::dQ σ js) H4 fun y H5=>Pv (i+1) (ys++[y]) H5 else Pv (i+1) ys H4)
  (hd:∀ ys H,Pv n ys H→∀ D,H D=none→Q (.ref D) (upd H D (.lst ys))):CompW js tt te σ Q (Itr lo n) H:=by
 refine ⟨fun i m ys H=>i≤n∧m=n - i∧Pv i ys H,⟨_,bI _,rfl,h0⟩,fun i m ys H2 ⟨hi,hm,hp⟩=>?_⟩;have hy:=hl i ys H2 hi hp
 by_cases e:i=n
 ·subst e
  exact .inl ⟨aC _,hd ys H2 hp⟩
 ·have hlt:i<n:=iJ hi e
  refine .inr ⟨hlt,by omega,Pv (i+1),fun ys' H' hp'=>⟨n - (i+1),by omega,by omega,rfl,hp'⟩,fun x H3 hy3=>?_⟩;obtain ⟨e3,hx⟩:=hy3;subst e3 hx;exact hs i ys H3 hlt hp
section
variable {prog:aW} {w:bz} {A:bU} {E:ae→ar→Prop} {s:ar}
end
section
open AutoSeq1 (wpAny_loadPart')
end
section
variable {X:Cx}
end
theorem ps_setCC {X:Cx}{CW:St→VK→It→Hp→Prop}{iy:Nat}{y0:Str}{py spos:Pos}{elt iter tg:Expr}{xs:List Str}{g:TG}{pos:Pos}{ifs:List Expr}{scope:fV}{wi:TI}{te:TE}{tt:TT}{fr:List Str}{js:List Nat}
  (hN0:X.N.Nodup) (hi0:X.N[iy]? =some y0) (hx0:Loc X.env.scope y0) (hc:X.calm=true) (hi:PI X tg iter wi)
  (iM:∀ y∈scope.names,y.2≠ .cell) (mB:scope.kind= .function) (lX:∀ y∈scope.names,y.2= .local→scope.names.lookup y.1=some .local)
  (hfr:∀ y∈scope.names,y.2= .free→X.env.scope.names.lookup y.1=some .cell) (hjs:js.map (fun j=>X.N[j]?)=fr.map some) (hfv:∀ y∈fr,scope.names.lookup y=some .free)
  (hg:∀ cl C s' H' ex,PG (gW X scope cl C (xs++fr) s' H' ex) tg g)
  (hb:∀ cl C s' H' ex,PE (gW X scope cl C (xs++fr) s' H' ex) elt te∧PTs (gW X scope cl C (xs++fr) s' H' ex) ifs tt)
  (hCW:∀ σ Q J H1,CW σ Q J H1→CompWT xs.length g js tt te σ Q J H1) (hs:∀ z,ia iter X.env z=fQ z:=by intro _;rfl) (hsw:swapsWith (.ListComp elt [⟨tg,iter,ifs,0⟩] scope pos) (some (.Name y0 py)) spos.line X.env=fQ true:=by rfl)
  (hf0:X.fn y0=true∨X.env.scope.names.lookup y0=some .local:=by first | exact .inl rfl | exact .inr rfl | assumption) :
  PS X (.Assign [.Name y0 py] (.ListComp elt [⟨tg,iter,ifs,0⟩] scope pos) spos) (tAsg (fun σ H Q=>wi σ H fun J H1=>CW σ Q J H1) (oI iy)):=by
 intro aQ s σ H Dn I h;rw [exec_Assign_Name_used _ _ _ _ hsw];refine ah (wpAny_standAt (ah ?_));show aX _ X.A (do let _ ← comprehension (.ListComp elt [⟨tg,iter,ifs,0⟩] scope pos) scope X.env _ (newList []) false (eZ iter X.env) (some (assign (.Name y0 py) X.env))) _ _ s;refine ah (cy (comp_core (use:=some (assign (.Name y0 py) X.env)) (R:=fun _ s'=>SP X aQ Dn .next s') hc hi iM mB lX hfr hjs hfv hg hb hCW I h (fun s4 H5 D C mC hnC I5 nC locC fsC pinX cC sC q=>?_) hs) (fun _ s' hq=>aJ (aJ hq)) fun _ _ e=>e);obtain ⟨oC,esC,epC,hoC,rC⟩:=id hnC;have I6:Inv X ((C,oC)::aQ) σ H5 s4:=I5.pins_of fun p hp=>by
  rcases aL.mp hp with rfl | hp
  ·refine ⟨hoC,nC,locC,fsC,fun v z=>?_⟩
   rw [rC.1] at z;cases z
  ·exact I5.pin p (aG _ hp)
 have hPG0:PG X (.Name y0 py) (oI iy):=df hN0 hi0 hx0 hf0;refine thn (hPG0 _ s4 σ _ (.ref D) (.ref D) (fun σ' H'=>Dn.nx σ' H'∧H' C=none) I6 rfl ⟨q,nC⟩) fun _ s6 ⟨σ6,H6,I7,q7,n7⟩=>?_
 have o7:=(I7.pin (C,oC) (aG _ (bF ..))).1;refine ⟨mC,⟨oC,esC,epC,o7,rC⟩,fun h' hsb=>⟨σ6,H6,?_,q7⟩⟩;have I8:Inv X aQ σ6 H6 s6:=I7.pins_of fun p hp=>I7.pin p (aG _ (ax _ hp))
 exact I8.turned (t':=s6.toks) (it:=C) (fun b o hb' e=>hsb.extBut b o hb' e) n7 locC (.inr sC) cC pinX
theorem ps_setC {X:Cx}{iy:Nat}{y0:Str}{py spos:Pos}{elt iter:Expr}{x:Str}{px pos:Pos}{ifs:List Expr}{scope:fV}{wi:TI}{te:TE}{tt:TT}{fr:List Str}{js:List Nat}
  (hN0:X.N.Nodup) (hi0:X.N[iy]? =some y0) (hx0:Loc X.env.scope y0) (hc:X.calm=true) (hi:PI X (.Name x px) iter wi)
  (iM:∀ y∈scope.names,y.2≠ .cell) (mB:scope.kind= .function) (lX:∀ y∈scope.names,y.2= .local→scope.names.lookup y.1=some .local) (hx:scope.names.lookup x=some .local)
  (hfr:∀ y∈scope.names,y.2= .free→X.env.scope.names.lookup y.1=some .cell) (hnd:(x::fr).Nodup) (hjs:js.map (fun j=>X.N[j]?)=fr.map some) (hfv:∀ y∈fr,scope.names.lookup y=some .free)
  (hb:∀ cl C s' H' ex,PE (gW X scope cl C (x::fr) s' H' ex) elt te∧PTs (gW X scope cl C (x::fr) s' H' ex) ifs tt)
  (hs:∀ z,ia iter X.env z=fQ z:=by intro _;rfl) (hsw:swapsWith (.ListComp elt [⟨.Name x px,iter,ifs,0⟩] scope pos) (some (.Name y0 py)) spos.line X.env=fQ true:=by rfl)
  (hf0:X.fn y0=true∨X.env.scope.names.lookup y0=some .local:=by first | exact .inl rfl | exact .inr rfl | assumption) :
  PS X (.Assign [.Name y0 py] (.ListComp elt [⟨.Name x px,iter,ifs,0⟩] scope pos) spos) (tAsg (tComp wi js tt te) (oI iy)) :=
 ps_setCC (xs:=[x]) (g:=oI 0) hN0 hi0 hx0 hc hi iM mB lX hfr hjs hfv (fun _ _ _ _ _=>df hnd rfl (.inl (jL hx)) (.inr (jL hx))) hb (fun _ _ _ _ h=>compW_T h) hs hsw hf0
def notStar:Expr→Bool
 | .Starred _ _=>false
 | _=>true
theorem starEach_not {e:Expr}{es:List Expr}{env:Env}(h:notStar e=true):bC (e::es) env=(false,eZ e env)::bC es env:=by
 cases e <;> first | rfl | cases h
theorem pa_k {X:Cx}{e:Expr}{es:List Expr}{te:TE}{t:TA}(ha:PE X e te)(hr:PA X es t)(h:notStar e=true:=by rfl):PA X (e::es) (nj te t):=ag ha hr (starEach_not h)
structure PEs (X:Cx)(e:Expr)(t:TE):Prop where
 h:PE X e t
structure PAs (X:Cx)(es:List Expr)(t:TA):Prop where
 h:PA X es t
structure PSt (X:Cx)(st:cV)(t:TS):Prop where
 h:PS X st t
theorem k4 {X:Cx}{st:cV}{t:TS}(h:PS X st t):PS X st (fun D σ H=>∃ N:St→Hp→Prop,(∀ σ' H',N σ' H'→D.nx σ' H')∧t { D with nx:=N } σ H):=by
 intro aQ s σ H D I ⟨N,hN,ht⟩;refine thn (h aQ s σ H { D with nx:=N } I ht) fun f s' q=>?_
 cases f with
 | next=>obtain ⟨σ',H',I',n'⟩:=q;exact ⟨σ',H',I',hN _ _ n'⟩
 | brk=>exact q
 | cont=>exact q
 | ret u=>exact q
structure PSl (X:Cx)(sts:List cV)(t:TS):Prop where
 h:PSs X sts t
section
variable {X:Cx} {a b e:Expr} {es:List Expr} {ta tb te:TE} {t:TA} {pos:Pos}
theorem jS {i j}:PEs X (.Constant (.int i) j pos) (tC (.int i)):=⟨ba⟩
theorem k_op {op:Operator}{r:R2}(ho:OpR X (gC op) r)(ha:PEs X a ta)(hb:PEs X b tb):PEs X (.BinOp a op b pos) (tOp r ta tb):=⟨bX ho ha.h hb.h⟩
theorem k_ix {r:R2}(hr:IxR X r)(ha:PEs X a ta)(hb:PEs X b tb)(hs:PlainIx b):PEs X (.Subscript a b pos) (tOp r ta tb):=⟨eh hr ha.h hb.h hs⟩
theorem k_lst (h:PAs X es t):PEs X (.List es pos) (tLstA t):=⟨nW h.h⟩
theorem a_nil:PAs X [] tNil:=⟨az⟩
theorem fF (ha:PEs X e te)(hr:PAs X es t)(h:notStar e=true:=by rfl):PAs X (e::es) (nj te t):=⟨pa_k ha.h hr.h h⟩
theorem aR {st:cV}{sts:List cV}{t u:TS}(a:PSt X st t)(b:PSl X sts u):PSl X (st::sts) (tSeq t u):=⟨mV a.h b.h⟩
theorem dH {st:cV}{t:TS}(a:PSt X st t):PSl X [st] t:=⟨cO a.h⟩
end
section
variable {X:Cx}
theorem ints_are:∀ {ns:List Int} {us:List ae},Vals (ns.map V.int) us→IntsAre us ns
 | [],_,.nil=> .nil
 | _::_,_,.cons ⟨_,e⟩ r=>by cases e;exact .cons _ _ (ints_are r)
end
section
variable {prog:aW} {w:bz} {A:bU} {E:ae→ar→Prop} {s:ar}
end
section
variable {X:Cx}
end
theorem places_back (n:Nat):cB ((n:Int) - 1) (-1) (-1)=n:=by
 unfold cB;rw [pe (by decide)]
 by_cases h:(n:Int) - 1 > -1
 ·rw [pf h,show -(-1:Int)=1 from rfl,Int.ediv_one];omega
 ·rw [pe h];omega
theorem fm_some {α β:Type}{f:α→Option β}{g:α→β}:∀ (l:List α),(∀ x∈l,f x=some (g x))→l.filterMap f=l.map g
 | [],_=>rfl
 | x::l,h=>by rw [jF,h x (by simp),bV,fm_some l fun y hy=>h y (ax _ hy)]
theorem pick_back (xs:Array ae):((aP xs.size).filterMap fun (k:Nat)=>xs[((xs.size:Int) - 1+(k:Int) * (-1)).toNat]?)=xs.toList.reverse:=by
 have e:∀ k∈aP xs.size,(fun (k:Nat)=>xs[((xs.size:Int) - 1+(k:Int) * (-1)).toNat]?) k=some ((fun k=>xs.toList.getD (xs.size - 1 - k) .none) k):=fun k hk=>by
  have hk:=bP.mp hk;have:((xs.size:Int) - 1+(k:Int) * (-1)).toNat=xs.size - 1 - k:=by omega
  show xs[((xs.size:Int) - 1+(k:Int) * (-1)).toNat]? =some (xs.toList.getD (xs.size - 1 - k) .none);rw [this,ai,gN,d7 (by omega)];rfl
 rw [fm_some _ e];refine List.ext_getElem (by simp) fun i h1 h2=>?_
 have hi:i<xs.size:=by simpa using h1
 rw [ic,iH,List.getElem_reverse,ai,gE (by rw [cJ];omega)];simp
section
variable {prog:aW} {w:bz} {A:bU} {E:ae→ar→Prop} {s:ar}
theorem applied_back {sl:ao}{t:Tok}{n:Nat}{Q:Int×Int×Nat→ar→Prop}(hs:s.heap.IsSliceOf sl .none .none (.int (-1) t))(h:Q ((n:Int) - 1,-1,n) s):aX (br prog w) A (eG (.ref sl) (fQ (n:Int))) Q E s:=by
 obtain ⟨os,hos,hcs,hds⟩:=id hs;unfold eG jk;refine ah (ah (cR hos hds (x:= .none) rfl (ah (cR hos hds (x:= .none) rfl (ah (cR hos hds (x:= .int (-1) t) rfl (aJ ?_)))))));refine ah (slicePart_int ?_);show aX _ _ (if ((-1:Int) == 0)=true then _ else _) _ _ s;rw [pe (by decide)];refine ah (ja (ah (ja (ah (aJ ?_)))));show aX _ _ (fQ ((n:Int) - 1,(-1:Int),cB ((n:Int) - 1) (-1) (-1))) _ _ s;rw [places_back];exact aJ h
theorem getItem_back {t sl:ao}{items:Array ae}{u:Tok}{Q:ae→ar→Prop}(ht:IsTup s.heap t items)(hs:s.heap.IsSliceOf sl .none .none (.int (-1) u))
  (h:Q (.ref s.heap.objs.size) { s with heap:=s.heap.push { cls:= .type "tuple",data:= .seq items.toList.reverse.toArray } })
  (hsz:items.size≤bc):aX (br prog w) A (iN (.ref t) (.ref sl)) Q E s:=by
 have hz:sizeOk (.seq items.toList.reverse.toArray):=by
  show items.toList.reverse.toArray.size≤bc;rw [aB,eQ,cJ];exact hsz
 obtain ⟨os,hos,hcs,hds⟩:=id hs;have hTs:s.TypeIs (.ref sl) "slice" := ⟨os,hos,hcs⟩;unfold iN
 try with_reducible refine fj ?_
 first | refine ah (aJ ?_) | skip
 refine ah (wpAny_sequenceKey ht.typeIs (by decide) ?_);refine ah (dW (name:=eD "__getitem__") ht.typeIs bD
  (fP bD ht.typeIs j4 ?_ (ku _ _)))
 show aX _ _ (gw (.ref t) >>= _) _ _ s;refine ah (tupleItemsOf_ ht ?_);refine ah (wpAny_typeOf hTs ?_);rw [pf (by decide)];refine ah (applied_back (n:=items.size) hs ?_);have hno:¬ ((((items.size:Int) - 1) == 0 && (-1:Int) == 1 && items.size == items.size)=true):=by
  intro q;rw [dt,dt] at q;exact pj q.1.2 (by decide)
 show aX _ _ (if (((items.size:Int) - 1) == 0 && (-1:Int) == 1 && items.size == items.size)=true then _ else _) _ _ s;rw [pe hno,pick_back]
 first
  | exact ah (m:=cW _) (cX (aJ ⟨_,rfl,aJ h⟩) hz)
  | exact ah (m:=cW _) (cX (ah (aJ (aJ ⟨_,rfl,aJ h⟩))) hz)
  | exact ah (ah (m:=cW _) (cX (aJ (aJ ⟨_,rfl,aJ h⟩)) hz))
  | exact ah (ah (m:=cW _) (cX (aJ ⟨_,rfl,aJ h⟩) hz))
theorem getItem_all {t sl:ao}{items:Array ae}{vl vu:ae}{lo hi:Option Int}{Q:ae→ar→Prop}(ht:IsTup s.heap t items)(hs:s.heap.IsSliceOf sl vl vu .none)(pl:IsPart vl lo)(pu:IsPart vu hi)
  (hw:HT.sIx items.size 0 lo=0∧HT.sIx items.size items.size hi=items.size) (h:Q (.ref t) s):aX (br prog w) A (iN (.ref t) (.ref sl)) Q E s:=by
 obtain ⟨os,hos,hcs,hds⟩:=id hs;have hTs:s.TypeIs (.ref sl) "slice" := ⟨os,hos,hcs⟩;unfold iN
 try with_reducible refine fj ?_
 first | refine ah (aJ ?_) | skip
 refine ah (wpAny_sequenceKey ht.typeIs (by decide) ?_);refine ah (dW (name:=eD "__getitem__") ht.typeIs bD
  (fP bD ht.typeIs j4 ?_ (ku _ _)))
 show aX _ _ (gw (.ref t) >>= _) _ _ s;refine ah (tupleItemsOf_ ht ?_);refine ah (wpAny_typeOf hTs ?_);rw [pf (by decide)];refine ah (HT.sliceApplied_gen hs pl pu ?_);show aX _ _ (if (((HT.sIx items.size 0 lo:Nat):Int) == 0 && (1:Int) == 1 && (HT.sIx items.size items.size hi - HT.sIx items.size 0 lo) == items.size)=true then _ else _) _ _ s;rw [hw.1,hw.2,Nat.sub_zero,pf (by simp)];unfold fM.Tuple.tupleIsExact;refine ah (ah (wpAny_typeOf ht.typeIs (aJ ?_)));rw [pf (by decide)];exact ah (wpAny_rule (aJ ⟨_,rfl,aJ h⟩))
end
section
variable {X:Cx}
theorem sl_tupN:SlR X (fun x lo hi H Q=>∃ a xs,x= .ref a∧H a=some (.tup xs)∧New H (.tup (cutV xs lo hi)) Q):=by
 intro aQ s σ H x v vl vu lo hi sl Q I rx hs pl pu h;obtain ⟨a,xs,rfl,hx,q⟩:=h
 by_cases hw:HT.sIx xs.length 0 lo=0∧HT.sIx xs.length xs.length hi=xs.length
 ·cases rx
  obtain ⟨its,r,ht,hz⟩:=I.tuple (SqT.of (K:=X.K) hx);have hlen:its.toArray.size=xs.length:=by rw [aB];exact r.length.symm
  refine ⟨"tuple",_,bD.lookup,ht.typeIs,?_⟩;refine getItem_all ht hs pl pu (by rw [hlen];exact hw) ⟨.ref a,H,I,rfl,q a H (Same.refl H) ?_⟩;have e:cutV xs lo hi=xs:=by unfold cutV;rw [hw.1,hw.2,List.drop_zero,Nat.sub_zero,bq]
  rw [e];exact hx
 ·exact sl_tup aQ s σ H _ v vl vu lo hi sl Q I rx hs pl pu ⟨a,xs,rfl,SqT.of hx,hw,q.of⟩
theorem vals_back:∀ {xs:List V} {us:List ae},Vals xs us→Vals xs.reverse us.reverse
 | _,_,.nil=> .nil
 | _::_,_::_,.cons r t=>by rw [fW,fW];exact (vals_back t).append (.cons r .nil)
end
section
open AutoSeq1 (wpAny_loadPart')
end
section
variable {X:Cx}
end
def metL (ns:List Int):List Int:=firstMet (fun i=>ns.getD i 0) ns.length
section
variable {X:Cx}
theorem call_setL (hc:X.calm=true):CallR X (.type "set") (fun xs H Q=>∃ (p:ao) (ns:List Int),xs=[.ref p]∧SqL X.K H p (ns.map V.int)∧ns.length≤1000∧New H (.set (fun k=>(metL ns).any (· == k)) (metL ns).length) Q):=by
 intro aQ s σ H xs us Q I r h;obtain ⟨p,ns,rfl,hq,hn,q⟩:=h;obtain ⟨u,rfl,ru⟩:=nh r;cases (show u=ae.ref p from ru);obtain ⟨its,rv,pl,hz⟩:=I.list hq;have hl:its.length=ns.length:=by rw [←rv.length,aa]
 refine call_set_list (ns:=ns) (I.ok.hd hc) pl.isList (ints_are rv) (by rw [aB,hl];show ns.length+1<4096;omega) fun h' tk hs hk=>?_
 have hl2:its.toArray.size=ns.length:=by rw [aB,hl]
 rw [hl2] at hs;exact ⟨.ref s.heap.objs.size,_,I.laid (t':=tk) (o:= .set (fun k=>(metL ns).any (· == k)) (metL ns).length) (fun b u e=>hk b u (aN e) e) (aC _) hs,rfl,q.of _ I.fresh⟩
theorem call_lenS:CallR X (.builtin "len") (fun xs H Q=>∃ (a:ao) (S:Int→Bool) (n:Nat),xs=[.ref a]∧H a=some (.set S n)∧Q (.int n) H):=by
 intro aQ s σ H xs us Q I r h;obtain ⟨a,S,n,rfl,ha,q⟩:=h;obtain ⟨u,rfl,ru⟩:=nh r;cases (show u=ae.ref a from ru);obtain ⟨o,es,ep,t,e1,e2,e3,_,_,e4,e5,e6⟩:=I.hok a _ ha;have e4:es.size<4096:=e4;refine call_len_set e1 e2 e3 e5 (by omega) ?_;subst e6;exact ⟨.int es.size,H,I.tok _,⟨_,rfl⟩,q⟩
end
section
variable {X:Cx} {e:Expr} {es:List Expr} {te:TE} {t:TA} {pos:Pos}
end
theorem vals_at:∀ {xs:List V} {us:List ae},xs.length=us.length→(∀ (i:Nat) (x:V),xs[i]? =some x→∃ u,us[i]? =some u∧RelV x u)→Vals xs us
 | [],[],_,_=> .nil
 | [],_::_,h,_=>by cases h
 | _::_,[],h,_=>by cases h
 | x::xs,u::us,h,k=>by
  obtain ⟨u',e,r⟩:=k 0 x rfl;cases e;exact .cons r (vals_at (by simpa using h) fun i y hy=>k (i+1) y hy)
section
variable {X:Cx}
theorem oB:CallR X (.type "range") (fun xs H Q=>∃ j:Int,xs=[.int j]∧New H (.rng 0 j) Q):=by
 intro aQ s σ H xs us Q I r h;obtain ⟨j,rfl,q⟩:=h;obtain ⟨u,rfl,ru⟩:=nh r;obtain ⟨t,rfl⟩:=(show ∃ t,u=ae.int j t from ru);refine call_range_1 ?_;exact ⟨.ref s.heap.objs.size,_,I.laid (t':=s.toks+1+1) (o:= .rng 0 j) (fun _ _ z=>au _ z) (aC _) ⟨_,_,_,bg _ rfl⟩,rfl,q.of _ I.fresh⟩
theorem o6 (hc:X.calm=true):CallR X (.type "list") (fun xs H Q=>∃ (a:ao) (n:Nat),xs=[.ref a]∧H a=some (.rng 0 (n:Int))∧n≤1000∧∀ l,H l=none→Q (.ref l) (upd H l (.lst ((aP n).map fun k=>V.int (k:Nat))))):=by
 intro aQ s σ H xs us Q I r h;obtain ⟨a,n,rfl,ha,hn,q⟩:=h;obtain ⟨u,rfl,ru⟩:=nh r;cases (show u=ae.ref a from ru);obtain ⟨t,u,v,hr⟩:=I.hok a _ ha;have hs:d9 0 (n:Int) 1=n:=by
  unfold d9;rw [pf (by decide)]
  by_cases h0:(0:Int)<n
  ·rw [pf h0,Int.ediv_one];omega
  ·rw [pe h0];omega
 refine call_list_range (n:=n) (I.ok.hd hc) hr (by unfold gM;rw [hs];unfold fM.Range.rangeFitsLong;simp;omega) hs (by omega) fun h' tk acc c hk hg hi=>?_
 refine ⟨.ref s.heap.objs.size,_,I.laid (t':=tk) (o:= .lst ((aP n).map fun k=>V.int (k:Nat))) hk (aC _) ⟨?_,acc.toList,c,?_,?_⟩,rfl,q _ I.fresh⟩
 ·rw [aa,bo];exact bj hn (by decide)
 ·refine vals_at (by rw [aa,bo,cJ,hi.1]) fun i x hx=>?_
  rw [ay] at hx;obtain ⟨k,hk2,rfl⟩:=bx.mp hx;have hik:i<n:=by have:=(av.mp hk2).1;rw [bo] at this;exact this
  rw [gi hik] at hk2;cases hk2;have hi2:i<acc.size:=by rw [hi.1];exact hik
  have e:=d7 hi2;obtain ⟨t2,e2⟩:=hi.2 i _ e;refine ⟨_,by rw [gN];exact e,⟨t2,?_⟩⟩;rw [e2];congr 1;omega
 ·rw [Array.toArray_toList];exact hg
end
section
variable {prog:aW} {w:bz} {A:bU} {E:ae→ar→Prop} {s:ar}
theorem applied_on {sl:ao}{t:Tok}{n:Nat}{Q:Int×Int×Nat→ar→Prop}(hs:s.heap.IsSliceOf sl .none .none (.int 1 t))(h:Q (0,1,n) s):aX (br prog w) A (eG (.ref sl) (fQ (n:Int))) Q E s:=by
 obtain ⟨os,hos,hcs,hds⟩:=id hs;unfold eG jk;refine ah (ah (cR hos hds (x:= .none) rfl (ah (cR hos hds (x:= .none) rfl (ah (cR hos hds (x:= .int 1 t) rfl (aJ ?_)))))));refine ah (slicePart_int ?_);show aX _ _ (if ((1:Int) == 0)=true then _ else _) _ _ s;rw [pe (by decide)];refine ah (ja (ah (ja (ah (aJ ?_)))));show aX _ _ (fQ ((0:Int),(1:Int),cB 0 (n:Int) 1)) _ _ s;have e:=HT.places_gen 0 n;rw [Nat.sub_zero] at e;rw [show cB 0 (n:Int) 1=n from e];exact aJ h
theorem getItem_on {t sl:ao}{items:Array ae}{u:Tok}{Q:ae→ar→Prop}(ht:IsTup s.heap t items)(hs:s.heap.IsSliceOf sl .none .none (.int 1 u))(h:Q (.ref t) s):aX (br prog w) A (iN (.ref t) (.ref sl)) Q E s:=by
 obtain ⟨os,hos,hcs,hds⟩:=id hs;have hTs:s.TypeIs (.ref sl) "slice" := ⟨os,hos,hcs⟩;unfold iN
 try with_reducible refine fj ?_
 first | refine ah (aJ ?_) | skip
 refine ah (wpAny_sequenceKey ht.typeIs (by decide) ?_);refine ah (dW (name:=eD "__getitem__") ht.typeIs bD
  (fP bD ht.typeIs j4 ?_ (ku _ _)))
 show aX _ _ (gw (.ref t) >>= _) _ _ s;refine ah (tupleItemsOf_ ht ?_);refine ah (wpAny_typeOf hTs ?_);rw [pf (by decide)];refine ah (applied_on (n:=items.size) hs ?_);show aX _ _ (if ((0:Int) == 0 && (1:Int) == 1 && items.size == items.size)=true then _ else _) _ _ s;rw [pf (by simp)];unfold fM.Tuple.tupleIsExact;refine ah (ah (wpAny_typeOf ht.typeIs (aJ ?_)));rw [pf (by decide)];exact ah (wpAny_rule (aJ ⟨_,rfl,aJ h⟩))
end
section
variable {X:Cx}
def tTurn (te ts:TE):TE:=fun σ H Q=>te σ H fun x H1=>ts σ H1 fun y H2=>∃ a xs d,x= .ref a∧y= .int d∧(d=1∨d= -1)∧H2 a=some (.tup xs)∧New H2 (.tup (if d=1 then xs else xs.reverse)) Q
theorem pe_turn {e es:Expr}{te ts:TE}{pos p2:Pos}(he:PE X e te)(hs:PE X es ts):PE X (.Subscript e (.Slice none none (some es) p2) pos) (tTurn te ts):=by
 intro aQ s σ H Q I h;refine Subscript_ (thn (he aQ s σ H _ I h) fun v s1 ⟨x,H1,I1,r1,q1⟩=>?_);refine wpAny_Slice ?_;rw [evalPart_none,evalPart_some];refine aJ (aJ ?_);refine thn (hs aQ s1 σ H1 _ I1 q1) fun u s2 ⟨y,H2,I2,r2,q2⟩=>?_
 obtain ⟨a,xs,d,rfl,rfl,hd,hx,q⟩:=q2;obtain ⟨t,rfl⟩:=r2;cases r1;have I4:Inv X aQ σ H2 { s2 with heap:=s2.heap.push { cls:= .type "slice",data:= .fields #[.none,.none,.int d t] } }:=I2.kept (t':=s2.toks) fun b ob q=>au _ q
 obtain ⟨its,r,ht,hz⟩:=I4.tuple (SqT.of (K:=X.K) hx);have hlen:its.toArray.size=xs.length:=by rw [aB];exact r.length.symm
 rcases hd with rfl | rfl
 ·refine tail_any (ops:=[.ref a,.ref s2.heap.objs.size]) ht.typeIs bD.lookup (getItem_on ht (bE.IsSliceOf.new ..) ?_) (by with_unfolding_all rfl)
  exact ⟨.ref a,H2,I4,rfl,q a H2 (Same.refl H2) (by rw [pf rfl];exact hx)⟩
 ·refine tail_any (ops:=[.ref a,.ref s2.heap.objs.size]) ht.typeIs bD.lookup (getItem_back ht (bE.IsSliceOf.new ..) ?_ (by rw [hlen];exact hz)) (by with_unfolding_all rfl)
  rw [pe (by decide)] at q;refine ⟨.ref _,_,I4.laid (t':=s2.toks) (o:= .tup xs.reverse) (fun _ _ z=>au _ z) (aC _) ⟨by rw [eQ];exact hz,its.reverse,vals_back r,IsTupN.new _ _⟩,rfl,q.of _ I4.fresh⟩
theorem k_lstF {es:List Expr}{t:TA}{pos:Pos}(h:PAs X es t):PEs X (.List es pos) (tLst t):=⟨iq h.h⟩
end
section
variable (P:aW) (w:bz)
end
section
variable {P:aW} {w:bz} {H H':Hp} {h h':bE} {a:ao} {o:HO}
end
section
variable {P:aW} {w:bz} {H:Hp} {h h':bE} {x e:ao} {o':HO}
end
section
variable {fs fs' ex ex':List ao} {H H1 H2:Hp} {h h1 h2 h':bE} {a x e:ao} {o:HO}
end
section
variable {X:Cx} {aQ:List (ao×Obj)} {σ:List (Option V)} {H H':Hp} {s:ar} {h':bE}
end
section
variable {X:Cx}
variable {a b:Expr} {ta tb:TE} {pos:Pos}
variable {tA tB':TT} {rest:List Expr}
end
section
variable {X:Cx} {aQ:List (ao×Obj)} {σ:St} {H:Hp} {s:ar} {a:ao} {xs ys:List V}
end
section
variable {X:Cx} {aQ:List (ao×Obj)} {σ:St} {H:Hp} {s:ar} {E:ae→ar→Prop}
end
section
variable {X:Cx} {st:cV} {rest:List cV} {t u:TS} {e:Expr} {te:TE} {pos:Pos}
end
section
variable {X:Cx} {pos:Pos}
end
section
variable {X:Cx} {tg:Expr}
end
section
variable {X:Cx} {a b c:Expr} {ta tb tc:TE} {pos:Pos}
end
section
variable {prog:aW} {w:bz} {A:bU} {E:ae→ar→Prop} {s:ar} {K:ak} {x dx C f:ao} {mA:Str→Option ae} {name:Str} {v:ae}
end
section
variable {P:aW} {w:bz} {H H':Hp} {h h':bE} {a C dx:ao} {fs fs':List (Str×V)}
end
section
variable {X:Cx} {aQ:List (ao×Obj)} {σ:St} {H:Hp} {s:ar} {a C dx:ao} {fs:List (Str×V)} {f:Str} {v:V} {A:bU} {E:ae→ar→Prop}
end
section
variable {X:Cx} {o e value:Expr} {f:Str} {pos pos' tpos:Pos} {ta tv:TE}
end
section
variable {X:Cx} {aQ:List (ao×Obj)} {σ:St} {H:Hp} {s:ar} {A:bU} {E:ae→ar→Prop} {Q:ae→ar→Prop} {c:ae} {b:Bool}
end
section
variable {X:Cx} {e:Expr} {es:List Expr} {te:TE} {t:TA} {pos:Pos}
end
section
variable {X:Cx} {aQ:List (ao×Obj)} {σ:St} {H:Hp} {s s':ar}
end
section
variable {X:Cx} {CX:CXT} {k:Nat} {f C:ao} {fd:bu} {ps:List Str} {sp:Sp} {dvs:List V} {ds:List ae} {E:XK} {x m:Str} {p pos apos:Pos} {e o:Expr} {es:List Expr} {ta:TE} {t:TA}
end
section
variable {X:Cx} {CX:CXT} {k:Nat} {f C:ao} {fd:bu} {ps ks:List Str} {sp:Sp} {E:XK} {x m:Str} {p pos apos kpos:Pos} {e o:Expr} {es:List Expr} {kws:List Keyword} {te ta:TE} {t tk:TA} {nm:Option Str}
variable {g:List ae→List ae→List ae} {gV:List V→List V→List V}
end
section
variable {X:Cx} {x:Str} {p pos:Pos} {e:Expr} {es:List Expr} {t:TA} {id T:String} {r:List V→Hp→VK→Prop}
end
section
variable {κ:Type} [DecidableEq κ]
def l7 (kvs:List (κ×V))(k:κ):Option V:=(kvs.find? fun kv=>decide (kv.1=k)).map (·.2)
def mj (kvs:List (κ×V))(k:κ)(v:V):List (κ×V) :=
 if (kvs.any fun kv=>decide (kv.1=k))=true then kvs.map (fun kv=>if kv.1=k then (kv.1,v) else kv) else kvs++[(k,v)]
theorem hV {p:κ×V}{r:List (κ×V)}{k:κ}(e:p.1=k):l7 (p::r) k=some p.2:=by simp [l7,gI,e]
theorem gQ {p:κ×V}{r:List (κ×V)}{k:κ}(e:¬ p.1=k):l7 (p::r) k=l7 r k:=by simp [l7,gI,e]
theorem lI (k:κ):∀ kvs:List (κ×V),(kvs.any fun kv=>decide (kv.1=k))=(l7 kvs k).isSome
 | []=>rfl
 | p::r=>by
  rw [jj]
  by_cases e:p.1=k
  ·simp only [hV e,pA e,Bool.true_or,Option.isSome_some]
  ·rw [gQ e,pB e,Bool.false_or];exact lI k r
theorem valV_map (k j:κ)(y:V):∀ kvs:List (κ×V),l7 (kvs.map fun kv=>if kv.1=k then (kv.1,y) else kv) j=(l7 kvs j).map fun x=>if j=k then y else x
 | []=>rfl
 | p::r=>by
  have ih:=valV_map k j y r;rw [bV]
  by_cases h:p.1=k
  ·rw [pf h]
   by_cases e:p.1=j
   ·rw [hV (p:=(p.1,y)) e,hV e,fR,pf (e.symm.trans h)]
   ·rw [gQ (p:=(p.1,y)) e,gQ e,ih]
  ·rw [pe h]
   by_cases e:p.1=j
   ·rw [hV (p:=p) e,hV e,fR,pe (fun z=>h (e.trans z))]
   ·rw [gQ (p:=p) e,gQ e,ih]
theorem valV_snoc (k j:κ)(y:V):∀ kvs:List (κ×V),l7 kvs k=none→l7 (kvs++[(k,y)]) j=if j=k then some y else l7 kvs j
 | [],_=>by
  by_cases e:k=j
  ·rw [pf e.symm];exact hV (p:=(k,y)) e
  ·rw [pe (fun z=>e z.symm)];exact gQ (p:=(k,y)) e
 | p::r,hn=>by
  rw [List.cons_append];have hk:¬ p.1=k:=fun z=>by rw [hV z] at hn;cases hn
  rw [gQ hk] at hn;have ih:=valV_snoc k j y r hn
  by_cases e:p.1=j
  ·rw [hV e,hV e,pe (fun z=>hk (e.trans z))]
  ·rw [gQ e,gQ e,ih]
theorem valV_put (kvs:List (κ×V))(k j:κ)(y:V):l7 (mj kvs k y) j=if j=k then some y else l7 kvs j:=by
 unfold mj
 by_cases a:(kvs.any fun kv=>decide (kv.1=k))=true
 ·rw [pf a,valV_map]
  rw [lI] at a
  by_cases e:j=k
  ·obtain ⟨x,hx⟩:=Option.isSome_iff_exists.mp a
   rw [pf e,e,hx,fR,pf rfl]
  ·rw [pe e]
   cases l7 kvs j with
   | none=>rfl
   | some x=>rw [fR,pe e]
 ·rw [pe a]
  refine valV_snoc k j y kvs ?_;rw [lI] at a;cases q:l7 kvs k with
  | none=>rfl
  | some x=>rw [q] at a;exact (a rfl).elim
theorem kg (kvs:List (κ×V))(k:κ)(v:V):(mj kvs k v).length≤kvs.length+1:=by
 unfold mj;split
 ·rw [aa];omega
 ·rw [aq,aV,List.length_nil];omega
theorem putK_new {kvs:List (κ×V)}{k:κ}(v:V)(h:l7 kvs k=none):mj kvs k v=kvs++[(k,v)]:=by
 unfold mj;rw [lI,h];exact pe (by decide)
theorem RelO.isSome_eq {o:Option V}{u:Option ae}(r:RelO o u):o.isSome=u.isSome:=by
 cases o with
 | none=>cases u with
  | none=>rfl
  | some _=>exact (show False from r).elim
 | some _=>cases u with
  | none=>exact (show False from r).elim
  | some _=>rfl
theorem KV.val {kvs:List (κ×V)}{vs:List (κ×ae)}(r:KV kvs vs)(k:κ):RelO (l7 kvs k) (valueAt vs k):=by
 unfold KV at r
 induction r with
 | nil=>exact True.intro
 | @cons p q ps qs h t ih =>
  obtain ⟨h1,h2⟩:=h
  by_cases e:p.1=k
  ·have e':q.1=k:=h1.symm.trans e
   have b:valueAt (q::qs) k=some q.2:=by simp [valueAt,gI,e']
   rw [hV e,b];exact h2
  ·have e':¬ q.1=k:=fun z=>e (h1.trans z)
   have b:valueAt (q::qs) k=valueAt qs k:=by simp [valueAt,gI,e']
   rw [gQ e,b];exact ih
theorem KV.any {kvs:List (κ×V)}{vs:List (κ×ae)}(r:KV kvs vs)(k:κ):(kvs.any fun kv=>decide (kv.1=k))=vs.any fun kv=>decide (kv.1=k):=by
 unfold KV at r
 induction r with
 | nil=>rfl
 | cons h t ih=>rw [jj,jj,ih,h.1]
theorem KV.repl {kvs:List (κ×V)}{vs:List (κ×ae)}(r:KV kvs vs)(k:κ){y:V}{u:ae}(ry:RelV y u) :
  KV (kvs.map fun kv=>if kv.1=k then (kv.1,y) else kv) (vs.map fun kv=>if kv.1=k then (kv.1,u) else kv):=by
 unfold KV at r ⊢
 induction r with
 | nil=>exact .nil
 | @cons p q ps qs h t ih =>
  rw [bV,bV];refine .cons ?_ ih;obtain ⟨h1,h2⟩:=h
  by_cases e:p.1=k
  ·rw [pf e,pf (h1.symm.trans e)];exact ⟨h1,ry⟩
  ·rw [pe e,pe (fun z=>e (h1.trans z))];exact ⟨h1,h2⟩
theorem KV.put {kvs:List (κ×V)}{vs:List (κ×ae)}(r:KV kvs vs)(k:κ){y:V}{u:ae}(ry:RelV y u):KV (mj kvs k y) (stored vs k u):=by
 unfold mj stored;rw [r.any k]
 by_cases e:(vs.any fun kv=>decide (kv.1=k))=true
 ·rw [pf e,pf e];exact r.repl k ry
 ·rw [pe e,pe e];exact Paired.snoc r ⟨rfl,ry⟩
theorem KV.length {kvs:List (κ×V)}{vs:List (κ×ae)}(r:KV kvs vs):kvs.length=vs.length:=Paired.length r
end
theorem kV_is {P:aW}{w:bz}{k:Key}{u:ae}(r:RelV (kV k) u):(ig P w).is k u=true:=by
 cases k with
 | inl i=>obtain ⟨t,e⟩:=(show ∃ t,u=ae.int i t from r);subst e;exact mixKind_int P w i t
 | inr x=>obtain ⟨t,e⟩:=(show ∃ t,u=ae.str x t from r);subst e;exact mixKind_str P w x t
theorem items_are {P:aW}{w:bz}:∀ {ks:List Key} {us:List ae},Vals (ks.map kV) us→ItemsAre (ig P w) ks us
 | [],_,r=>by rw [List.map_nil] at r;cases r;exact .nil
 | k::ks,_,r=>by
  rw [bV] at r;cases r with
  | cons h t=>exact .cons (kV_is h) (items_are t)
abbrev KT (H:Hp):List (List Key×V)→List (List Key×ao×ae)→Prop:=jf fun p q=>p.1=q.1∧H q.2.1=some (.tup (p.1.map kV))∧RelV p.2 q.2.2
theorem KT.val {H:Hp}{kvs:List (List Key×V)}{xs:List (List Key×ao×ae)}(r:KT H kvs xs)(k:List Key):RelO (l7 kvs k) ((atKey xs k).map (·.2)):=by
 induction r with
 | nil=>exact True.intro
 | @cons p q ps qs h t ih =>
  obtain ⟨h1,_,h2⟩:=h
  by_cases e:p.1=k
  ·have e':q.1=k:=h1.symm.trans e
   have b:atKey (q::qs) k=some q.2:=by simp [atKey,gI,e']
   rw [hV e,b];exact h2
  ·have e':¬ q.1=k:=fun z=>e (h1.trans z)
   have b:atKey (q::qs) k=atKey qs k:=by simp [atKey,gI,e']
   rw [gQ e,b];exact ih
theorem KT.repl {H:Hp}{kvs:List (List Key×V)}{xs:List (List Key×ao×ae)}(r:KT H kvs xs)(k:List Key){y:V}{u:ae}(ry:RelV y u) :
  KT H (kvs.map fun kv=>if kv.1=k then (kv.1,y) else kv) (xs.map (putAt k u)):=by
 induction r with
 | nil=>exact .nil
 | @cons p q ps qs h t ih =>
  rw [bV,bV];refine .cons ?_ ih;obtain ⟨h1,h2,h3⟩:=h;unfold putAt
  by_cases e:p.1=k
  ·rw [pf e,pf (h1.symm.trans e)];exact ⟨h1,h2,ry⟩
  ·rw [pe e,pe (fun z=>e (h1.trans z))];exact ⟨h1,h2,h3⟩
theorem KT.put {H:Hp}{kvs:List (List Key×V)}{xs:List (List Key×ao×ae)}(r:KT H kvs xs)(k:List Key){b:ao}{y:V}{u:ae}(hb:H b=some (.tup (k.map kV)))(ry:RelV y u) :
  KT H (mj kvs k y) (storedH xs k b u):=by
 have e:(kvs.any fun kv=>decide (kv.1=k))=(atKey xs k).isSome:=by
  rw [lI,(r.val k).isSome_eq,Option.isSome_map]
 unfold mj storedH;rw [e]
 by_cases q:(atKey xs k).isSome=true
 ·rw [pf q,pf q];exact r.repl k ry
 ·rw [pe q,pe q];exact Paired.snoc r ⟨rfl,hb,ry⟩
theorem KT.keeps {H H':Hp}{kvs:List (List Key×V)}{xs:List (List Key×ao×ae)}(r:KT H kvs xs)(ht:∀ b ys,H b=some (.tup ys)→H' b=some (.tup ys)):KT H' kvs xs :=
 Paired.mapP r fun _ _ z=>⟨z.1,ht _ _ z.2.1,z.2.2⟩
section
variable {P:aW} {w:bz} {H:Hp} {h:bE} {a:ao}
theorem rd_of {u:HO}(ok:HOk P w H h)(e:Rd H a u):ObjOk P w H h a u:=e.ok ok
theorem dk_rd {kvs:List (Key×V)}(ok:HOk P w H h)(e:Rd H a (.dK kvs)):kvs.length≤bc∧(a == iS)=false∧∃ vs,KV kvs vs∧h.DictOf (ig P w) a vs :=
 show ObjOk P w H h a (.dK kvs) from rd_of ok e
theorem dk_of {kvs:List (Key×V)}(ok:HOk P w H h)(e:H a=some (.dK kvs)):kvs.length≤bc∧(a == iS)=false∧∃ vs,KV kvs vs∧h.DictOf (ig P w) a vs:=dk_rd ok (.inl e)
theorem key_of {ks:List Key}(ok:HOk P w H h)(e:H a=some (.tup (ks.map kV))):(tupleKind (ig P w)).is h ks a:=by
 obtain ⟨_,its,r,o,h1,h2,_,n,h3⟩:=(show ObjOk P w H h a (.tup (ks.map kV)) from ok a _ e);exact ⟨o,its.toArray,n,h1,h2,h3,by simpa using items_are r⟩
theorem dt_rd {kvs:List (List Key×V)}(ok:HOk P w H h)(e:Rd H a (.dT kvs)):kvs.length≤bc∧(a == iS)=false ∧
  ∃ xs,KT H kvs xs∧h.DictOfH (tupleKind (ig P w)) a xs:=by
 obtain ⟨z,y,xs,r,o,es,ep,h1,h2,h3,h4,h5⟩:=(show ObjOk P w H h a (.dT kvs) from rd_of ok e);refine ⟨z,y,xs,r,o,es,ep,h1,h2,h3,h4,fun x hx=>?_,h5⟩;have all:∀ {l:List (List Key×V)} {m:List (List Key×ao×ae)},KT H l m→∀ x∈m,(tupleKind (ig P w)).is h x.1 x.2.1:=by
  intro l m q
  induction q with
  | nil=>intro x hx;exact nomatch hx
  | @cons p q ps qs hq t ih =>
   intro x hx
   rcases aL.mp hx with e | hx
   ·subst e
    exact key_of ok (by rw [←hq.1];exact hq.2.1)
   ·exact ih x hx
 exact all r x hx
theorem dt_of {kvs:List (List Key×V)}(ok:HOk P w H h)(e:H a=some (.dT kvs)):kvs.length≤bc∧(a == iS)=false ∧
  ∃ xs,KT H kvs xs∧h.DictOfH (tupleKind (ig P w)) a xs:=dt_rd ok (.inl e)
end
def DGet (H:Hp)(a:ao)(y:V)(r:Option V):Prop :=
 (∃ kvs k,Rd H a (.dK kvs)∧y=kV k∧r=l7 kvs k)∨∃ kvs k b,Rd H a (.dT kvs)∧y= .ref b∧H b=some (.tup (k.map kV))∧r=l7 kvs k
def DPut (H:Hp)(a:ao)(y v:V)(H':Hp):Prop :=
 (∃ kvs k,H a=some (.dK kvs)∧y=kV k∧kvs.length<bc∧H'=upd H a (.dK (mj kvs k v))) ∨
 ∃ kvs k b,H a=some (.dT kvs)∧y= .ref b∧H b=some (.tup (k.map kV))∧kvs.length<bc∧H'=upd H a (.dT (mj kvs k v))
theorem DGet.k {H:Hp}{a:ao}{kvs:List (Key×V)}{k:Key}(e:H a=some (.dK kvs)):DGet H a (kV k) (l7 kvs k):= .inl ⟨kvs,k,.inl e,rfl,rfl⟩
theorem DPut.k {H:Hp}{a:ao}{kvs:List (Key×V)}{k:Key}{v:V}(e:H a=some (.dK kvs))(hl:kvs.length<bc):DPut H a (kV k) v (upd H a (.dK (mj kvs k v))):= .inl ⟨kvs,k,e,rfl,hl,rfl⟩
section
variable {X:Cx} {aQ:List (ao×Obj)} {σ:St} {H:Hp} {s:ar} {a:ao} {y v:V} {u r:ae} {o:Option V} {A:bU} {E:ae→ar→Prop}
theorem d_getItem {Q:ae→ar→Prop}(hu:A.units+1<cLine)(I:Inv X aQ σ H s)(g:DGet H a y (some v))(ry:RelV y u)(h:∀ w' s',Inv X aQ σ H s'→RelV v w'→Q w' s') :
  aX (br X.prog X.w) A (iN (.ref a) u) Q E s:=by
 rcases g with ⟨kvs,k,e,ey,l⟩ | ⟨kvs,k,b,e,ey,eb,l⟩
 ·subst ey
  obtain ⟨z,hd,vs,rel,dd⟩:=dk_rd I.hok e;obtain ⟨w',hw,rw'⟩:=RelO.some_of (v:=v) (o:=valueAt vs k) (by rw [l];exact rel.val k);exact wpAny_getItem_of (kV_is ry) dd.mapOf hw (h w' _ (I.tok _) rw')
 ·subst ey
  cases (show u=ae.ref b from ry);obtain ⟨z,hd,xs,rel,dd⟩:=dt_rd I.hok e;obtain ⟨w',hw,rw'⟩:=RelO.some_of (v:=v) (o:=(atKey xs k).map (·.2)) (by rw [l];exact rel.val k);obtain ⟨p,hp,hp2⟩:=bx.mp hw;refine wpAny_getItem_heap (tupleKind_room_in1 hu) (key_of I.hok eb) dd hp ?_;rw [hp2];exact h w' _ (I.tok _) rw'
theorem d_notIn {Q:ae→ar→Prop}(hu:A.units+1<cLine)(I:Inv X aQ σ H s)(g:DGet H a y o)(ry:RelV y u)(h:∀ s',Inv X aQ σ H s'→Q (.bool (!o.isSome)) s') :
  aX (br X.prog X.w) A (fE .NotIn u (.ref a)) Q E s:=by
 rcases g with ⟨kvs,k,e,ey,l⟩ | ⟨kvs,k,b,e,ey,eb,l⟩
 ·subst ey
  obtain ⟨z,hd,vs,rel,dd⟩:=dk_rd I.hok e;refine wpAny_notIn_of (kV_is ry) hd dd.mapOf ?_;rw [←(rel.val k).isSome_eq,←l];exact h _ (I.tok _)
 ·subst ey
  cases (show u=ae.ref b from ry);obtain ⟨z,hd,xs,rel,dd⟩:=dt_rd I.hok e;refine wpAny_notIn_heap (tupleKind_room_in1 hu) (key_of I.hok eb) hd dd ?_;have q:=(rel.val k).isSome_eq;rw [Option.isSome_map] at q;rw [←q,←l];exact h _ (I.tok _)
theorem d_write {h':bE}{t':Nat}{ob:HO}(I:Inv X aQ σ H s)(mu:Mut (H a))(hs:dZ a s.heap h')(he:∃ q,h'.get? a=some q)(new:ObjOk X.prog X.w (upd H a ob) h' a ob) :
  Inv X aQ σ (upd H a ob) { s with heap:=h',toks:=t' } :=
 I.write (x:=a) (e:=a) mu (.inl rfl) (fun b q hb z=>(hs.2 b hb).trans z) he new
theorem dk_new {P:aW}{w:bz}{H':Hp}{h':bE}{kvs:List (Key×V)}{vs:List (Key×ae)}(z:kvs.length≤bc)(hd:(a == iS)=false)(rel:KV kvs vs)(dd:h'.DictOf (ig P w) a vs) :
  ObjOk P w H' h' a (.dK kvs):=⟨z,hd,vs,rel,dd⟩
theorem d_setItem {H':Hp}{Q:Unit→ar→Prop}(hu:A.units+1<cLine)(I:Inv X aQ σ H s)(g:DPut H a y v H')(ry:RelV y u)(rv:RelV v r)(h:∀ s',Inv X aQ σ H' s'→Q () s') :
  aX (br X.prog X.w) A (setItem (.ref a) u r) Q E s:=by
 rcases g with ⟨kvs,k,e,ey,l,eH⟩ | ⟨kvs,k,b,e,ey,eb,l,eH⟩
 ·subst ey eH
  obtain ⟨z,hd,vs,rel,dd⟩:=dk_of I.hok e;have hz:vs.length≤bc:=by rw [←rel.length];exact z
  have hl:(mj kvs k v).length≤bc:=by have:=kg kvs k v;omega
  refine wpAny_setItem_pairs (hsz:=hz) (kV_is ry) dd fun h' dd' hs=>h _ ?_
  have he:∃ q,h'.get? a=some q:=let ⟨q,_,_,hq,_⟩:=dd';⟨q,hq⟩;exact d_write I (by rw [e];exact True.intro) hs he (dk_new hl hd (rel.put k rv) dd')
 ·subst ey eH
  cases (show u=ae.ref b from ry);obtain ⟨z,hd,xs,rel,dd⟩:=dt_of I.hok e;have hz:xs.length≤bc:=by rw [←Paired.length rel];exact z
  have hl:(mj kvs k v).length≤bc:=by have:=kg kvs k v;omega
  refine wpAny_setItem_heap (hsz:=hz) (tupleKind_room_in1 hu) (key_of I.hok eb) dd fun h' dd' hs=>h _ ?_
  obtain ⟨q,es,ep,hq,h2,h3,h4,_,h5⟩:=dd';refine d_write I (by rw [e];exact True.intro) hs ⟨q,hq⟩ ⟨hl,hd,_,(rel.put k eb rv).keeps fun c ys ec=>?_,q,es,ep,hq,h2,h3,h4,h5⟩;rw [bf (ie ec e (fun z=>nomatch z))];exact ec
end
section
variable {X:Cx} {aQ:List (ao×Obj)} {σ:St} {H:Hp} {s:ar} {a:ao} {kvs:List (Key×V)} {k:Key} {u:ae} {A:bU} {E:ae→ar→Prop}
end
def NoSl (i:Expr):Prop:=∀ ov iv,subscripted i false ov iv=operate [ov,iv] (iN ov iv)
theorem subD_of {prog:aW}{w:bz}{A:bU}{E:ae→ar→Prop}{s:ar}{env:Env}{value slice:Expr}{pos:Pos}{T id:String}{Q:ae→ar→Prop}
  (hl:typeLookup (.type T) "__getitem__" =fQ (some (.builtin id))) (hs:NoSl slice)
  (h:aX (br prog w) A (eZ value env) (fun o s₁=>aX (br prog w) A (eZ slice env) (fun i s₂=>s₂.TypeIs o T∧aX (br prog w) A (iN o i) Q E s₂) E s₁) E s) :
  aX (br prog w) A (eZ (.Subscript value slice pos) env) Q E s:=by
 refine Subscript_ (cy h (fun o s₁ h₁=>cy h₁ (fun i s₂ h₂=>?_) fun _ _ x=>x) fun _ _ x=>x);obtain ⟨hT,h₂⟩:=h₂;unfold subscriptTail;refine ah ?_;rw [getitemInPython_of_ne hT.not_modules];refine ah (wpAny_specialOf hT hl ?_);have fin:aX (br prog w) A (subscripted slice false o i) (fun r s₃=>aX (br prog w) A (letTemporaryGo value o r >>= fun _=>fQ r) Q E s₃) E s₂:=by
  rw [hs o i];exact wpAny_operating (cy h₂ (fun r s₃ h₃=>ah (wpAny_letTemporaryGo (aJ h₃))) fun _ _ x=>x)
 first
  | exact aJ (ah fin)
  | exact ah (aJ (ah fin))
  | exact ah fin
theorem dict_typeIs {X:Cx}{aQ:List (ao×Obj)}{σ:St}{H:Hp}{s:ar}{a:ao}{y:V}{o:Option V}(I:Inv X aQ σ H s)(g:DGet H a y o):s.TypeIs (.ref a) "dict" := by
 rcases g with ⟨kvs,k,e,_,_⟩ | ⟨kvs,k,b,e,_,_,_⟩
 ·obtain ⟨_,_,vs,_,dd⟩:=dk_rd I.hok e
  exact dd.typeIs
 ·obtain ⟨_,_,xs,_,dd⟩:=dt_rd I.hok e
  exact dd.typeIs
def tDGet (td ty:TE):TE:=fun σ H Q=>td σ H fun x H1=>ty σ H1 fun y H2=>∃ a v,x= .ref a∧DGet H2 a y (some v)∧Q v H2
def tDNotIn (ty td:TE):TE:=fun σ H Q=>ty σ H fun y H1=>td σ H1 fun x H2=>∃ a o,x= .ref a∧DGet H2 a y o∧Q (.bl (!o.isSome)) H2
def sDPut (td ty tv:TE):TS:=fun D σ H=>tv σ H fun v H1=>td σ H1 fun x H2=>ty σ H2 fun y H3=>∃ a H4,x= .ref a∧DPut H3 a y v H4∧D.nx σ H4
section
variable {X:Cx} {o i e value:Expr} {pos pos' tpos:Pos} {td ty tv:TE}
theorem pe_dget (hu:X.A.units+1<cLine)(ho:PE X o td)(hi:PE X i ty)(hs:NoSl i):PE X (.Subscript o i pos) (tDGet td ty):=by
 intro aQ s σ H Q I h;refine subD_of PySem.F.slot_dict_getitem.lookup hs (thn (ho aQ s σ H _ I h) fun u s1 ⟨x,H1,I1,rx,q1⟩=>thn (hi aQ s1 σ H1 _ I1 q1) fun iv s2 ⟨y,H2,I2,ry,a,v,ex,g,q2⟩=>?_);subst ex;obtain rfl:u=ae.ref a:=rx;exact ⟨dict_typeIs I2 g,d_getItem hu I2 g ry fun w' s3 I3 rw'=>⟨v,H2,I3,rw',q2⟩⟩
theorem lO (hu:X.A.units+1<cLine)(hi:PE X i ty)(ho:PE X o td):PC X .NotIn i o (tDNotIn ty td):=by
 intro aQ s σ H Q I h;refine thn (hi aQ s σ H _ I h) fun iv s1 ⟨y,H1,I1,ry,q1⟩=>thn (ho aQ s1 σ H1 _ I1 q1) fun u s2 ⟨x,H2,I2,rx,a,ov,ex,g,q2⟩=>?_
 subst ex;obtain rfl:u=ae.ref a:=rx;exact d_notIn hu I2 g ry fun s3 I3=>⟨.bl (!ov.isSome),H2,I3,rfl,q2⟩
theorem ps_dput (hu:X.A.units+1<cLine)(ho:PE X o td)(hi:PE X i ty)(hv:PE X value tv)(hs:swapsWith value (some (.Subscript o i pos')) pos.line X.env=fQ false) :
  PS X (.Assign [.Subscript o i pos'] value pos) (sDPut td ty tv):=by
 intro aQ s σ H D I h;refine wpAny_Assign_Subscript (thn (hv aQ s σ H _ I h) fun r s1 ⟨v,H1,I1,rv,q1⟩=>thn (ho aQ s1 σ H1 _ I1 q1) fun u s2 ⟨x,H2,I2,rx,q2⟩=>thn (hi aQ s2 σ H2 _ I2 q2) fun iv s3 ⟨y,H3,I3,ry,a,H4,ex,g,q3⟩=>?_) hs;subst ex;obtain rfl:u=ae.ref a:=rx;exact d_setItem hu I3 g ry rv fun s4 I4=>⟨σ,H4,I4,q3⟩
end
section
variable {X:Cx} {pos:Pos}
end
def tPairs:List (TE×TE)→St→Hp→(List (V×V)→Hp→Prop)→Prop
 | [],_,H,Q=>Q [] H
 | (tk,tv)::r,σ,H,Q=>tk σ H fun x H1=>tv σ H1 fun y H2=>tPairs r σ H2 fun ps H3=>Q ((x,y)::ps) H3
abbrev VV:List (V×V)→List (ae×ae)→Prop:=jf fun p q=>RelV p.1 q.1∧RelV p.2 q.2
def PPs (X:Cx)(pos:Pos)(keys:List (Option Expr))(values:List Expr)(trs:List (TE×TE)):Prop :=
 ∀ (aQ:List (ao×Obj)) (s:ar) (σ:St) (H:Hp) (Q:List (V×V)→Hp→Prop),Inv X aQ σ H s→tPairs trs σ H Q →
  aX (br X.prog X.w) X.A (evalPairs (pairTrees keys values X.env pos)) (fun vs s'=>∃ ps H',Inv X aQ σ H' s'∧VV ps vs∧Q ps H') X.xe s
theorem pps_nil {X:Cx}{pos:Pos}:PPs X pos [] [] []:=fun aQ s σ H Q I h=>pairTrees_nil_walk ⟨[],H,I,.nil,h⟩
theorem pps_cons {X:Cx}{pos:Pos}{k v:Expr}{ks:List (Option Expr)}{vs:List Expr}{tk tv:TE}{trs:List (TE×TE)}(hk:PE X k tk)(hv:PE X v tv)(hr:PPs X pos ks vs trs) :
  PPs X pos (some k::ks) (v::vs) ((tk,tv)::trs):=fun aQ s σ H Q I h =>
 pairTrees_cons_walk (thn (hk aQ s σ H _ I h) fun u s1 ⟨x,H1,I1,rx,q1⟩=>thn (hv aQ s1 σ H1 _ I1 q1) fun w2 s2 ⟨y,H2,I2,ry,q2⟩ =>
  thn (hr aQ s2 σ H2 _ I2 q2) fun ws s3 ⟨ps,H3,I3,rel,q3⟩=>⟨(x,y)::ps,H3,I3,.cons ⟨rx,ry⟩ rel,q3⟩)
def lR (kvs more:List (Key×V)):List (Key×V):=more.foldl (fun acc kv=>mj acc kv.1 kv.2) kvs
theorem KV.merge:∀ {more:List (Key×V)} {rs:List (Key×ae)} {kvs:List (Key×V)} {vs:List (Key×ae)},KV more rs→KV kvs vs→KV (lR kvs more) (merged vs rs):=by
 intro more rs kvs vs r;unfold KV at r
 induction r generalizing kvs vs with
 | nil=>intro q;exact q
 | @cons p q ps qs h t ih =>
  intro r0;have e:KV (mj kvs p.1 p.2) (stored vs q.1 q.2):=by
   have:=r0.put p.1 h.2;rw [←h.1];exact this
  exact ih e
theorem lU:∀ (more kvs:List (Key×V)),(lR kvs more).length≤kvs.length+more.length
 | [],kvs=>by show kvs.length≤kvs.length+0;omega
 | p::r,kvs=>by
  have h1:=lU r (mj kvs p.1 p.2);have h2:=kg kvs p.1 p.2;show (lR (mj kvs p.1 p.2) r).length≤_;rw [aV];omega
theorem o4 {P:aW}{w:bz}:∀ {kvs:List (Key×V)} {ws:List (ae×ae)},VV (kvs.map fun kv=>(kV kv.1,kv.2)) ws→∃ rs,Carries (ig P w) ws rs∧KV kvs rs
 | [],_,r=>by rw [List.map_nil] at r;cases r;exact ⟨[],True.intro,.nil⟩
 | p::kvs,_,r=>by
  rw [bV] at r;cases r with
  | @cons a b as bs h t =>
   obtain ⟨rs,c,q⟩:=o4 (P:=P) (w:=w) t;obtain ⟨b1,b2⟩:=b;exact ⟨(p.1,b2)::rs,⟨kV_is h.1,rfl,c⟩,.cons ⟨rfl,h.2⟩ q⟩
def tDisp (trs:List (TE×TE)):TE:=fun σ H Q=>∀ p,H p=none→tPairs trs σ (upd H p (.dK [])) fun ps H2=>H2 p=some (.dK [])∧∃ kvs:List (Key×V),ps=kvs.map (fun kv=>(kV kv.1,kv.2))∧kvs.length≤15∧Q (.ref p) (upd H2 p (.dK (lR [] kvs)))
theorem pe_disp {X:Cx}{pos:Pos}{keys:List (Option Expr)}{values:List Expr}{trs:List (TE×TE)}(h:PPs X pos keys values trs)(hall:keys.all (·.isSome)=true)(hl:keys.length=values.length)(h0:keys≠[])
  (h15:keys.length≤15):PE X (.Dict keys values pos) (tDisp trs):=by
 intro aQ s σ H Q I q;have hn:=I.hok.fresh (aC s.heap.objs.size);have I1:=I.laid (a:=s.heap.objs.size) (o:= .dK []) (h':=s.heap.push { cls:= .type "dict",data:= .dict #[] }) (t':=s.toks) (fun _ _ q=>au _ q) (aC _) (dk_empty s.heap I.big);refine wpAny_Dict_walk (knd:=ig X.prog X.w) hall hl h0 h15 (thn (h aQ _ σ _ _ I1 (q _ hn)) fun ws s2 ⟨ps,H2,I2,rel,e,kvs,ep,lk,q2⟩=>?_);subst ep;obtain ⟨rs,c,rk⟩:=o4 (P:=X.prog) (w:=X.w) rel;obtain ⟨z,hd,vs0,r0,dd⟩:=dk_of I2.hok e;cases r0;refine ⟨rs,c,dd,fun h' dd' hs=>⟨.ref s.heap.objs.size,_,?_,rfl,q2⟩⟩;have hz:(lR [] kvs).length≤bc:=by
  have h1:=lU kvs [];rw [List.length_nil] at h1;rw [fN];omega
 have he:∃ q,h'.get? s.heap.objs.size=some q:=let ⟨q,_,_,hq,_⟩:=dd';⟨q,hq⟩;exact d_write I2 (by rw [e];exact True.intro) hs he (dk_new hz hd (rk.merge .nil) dd')
section
variable {X:Cx} {aQ:List (ao×Obj)} {σ:St} {H:Hp} {s:ar} {a:ao} {y d:V} {u r:ae} {o:Option V} {A:bU} {E:ae→ar→Prop}
end
section
variable {X:Cx} {o e f:Expr} {apos cpos:Pos} {td ty tx:TE}
end
section
variable {X:Cx} {aQ:List (ao×Obj)} {σ:St} {H:Hp} {s:ar} {a:ao} {kvs:List (Key×V)} {A:bU} {E:ae→ar→Prop}
end
section
variable {X:Cx} {aQ:List (ao×Obj)} {σ:St} {H:Hp} {s:ar} {a:ao} {y:V} {u:ae} {A:bU} {E:ae→ar→Prop}
end
end L2
namespace Att
open PySem PySem.W PySem.Calls PyProof.Rows
section
variable {prog:aW} {w:bz} {A:bU} {E:ae→ar→Prop} {s:ar} {K:Frag}
end
end Att
namespace L2
open PySem PySem.Spec PyProof.Rows
section
variable {P:aW} {w:bz} {K:ak} {mg:Str→Option ae} {base:bE}
end
section
variable {X:Cx}
end
section
variable {κ:Type} [DecidableEq κ]
end
section
variable {M:Model} {A:bU} {E:ae→ar→Prop}
theorem mQ {α β:Type}{f:α→β→Sem (ForInStep β)}{Q:β→ar→Prop}:∀ (l:List α) (I:Nat→β→ar→Prop) (b:β) (s:ar),I 0 b s →
  (∀ i a b s,l[i]? =some a→I i b s→aX M A (f a b) (fun r s'=>∃ b',r= .yield b'∧I (i+1) b' s') E s)→(∀ b s,I l.length b s→Q b s)→aX M A (forIn l b f) Q E s
 | [],_,b,s,h0,_,hd=>by
  rw [List.forIn_nil];exact aJ (hd b s h0)
 | a::l,I,b,s,h0,hs,hd=>by
  rw [List.forIn_cons];refine ah (cy (hs 0 a b s rfl h0) (fun r s' ⟨b',e,h'⟩=>?_) fun _ _ f=>f);subst e;exact mQ l (fun i=>I (i+1)) b' s' h' (fun i a b s ha hi=>hs (i+1) a b s ha hi) fun b s h=>hd b s h
end
structure Sq where
 l:Bool
 a:ao
def SqAt (h:bE)(c:Sq)(xs:Array ae):Prop:=match c.l with | true=>h.IsList c.a xs | false=>h.IsTuple c.a xs
def ItAt (h:bE)(c:Sq)(i:ao)(k:Nat):Prop:=match c.l with | true=>h.IsListIter i c.a k | false=>h.IsTupleIter i c.a k
abbrev lG (h:bE)(T:ao)(vs:List ae):Prop:=h.get? T=some { cls:= .type "tuple",data:= .seq vs.toArray }
theorem SqAt.ext {h g:bE}{c:Sq}{xs:Array ae}(x:SqAt h c xs)(e:∀ o,h.get? c.a=some o→g.get? c.a=some o):SqAt g c xs:=by
 obtain ⟨l,a⟩:=c;cases l with
 | true=>obtain ⟨o,ho,r⟩:=(show h.IsList a xs from x);exact ⟨o,e o ho,r⟩
 | false=>obtain ⟨o,ho,r⟩:=(show h.IsTuple a xs from x);exact ⟨o,e o ho,r⟩
theorem ItAt.ext {h g:bE}{c:Sq}{i:ao}{k:Nat}(x:ItAt h c i k)(e:∀ o,h.get? i=some o→g.get? i=some o):ItAt g c i k:=by
 obtain ⟨l,a⟩:=c;cases l with
 | true=>obtain ⟨o,ho,r⟩:=(show h.IsListIter i a k from x);exact ⟨o,e o ho,r⟩
 | false=>obtain ⟨o,ho,r⟩:=(show h.IsTupleIter i a k from x);exact ⟨o,e o ho,r⟩
theorem ItAt.obj {h:bE}{c:Sq}{i:ao}{k:Nat}(x:ItAt h c i k):∃ o,h.get? i=some o∧∀ v,o.data≠ .cell v:=by
 obtain ⟨l,a⟩:=c;cases l with
 | true=>obtain ⟨o,ho,_,d⟩:=(show h.IsListIter i a k from x);exact ⟨o,ho,fun v z=>by rw [d] at z;cases z⟩
 | false=>obtain ⟨o,ho,_,d⟩:=(show h.IsTupleIter i a k from x);exact ⟨o,ho,fun v z=>by rw [d] at z;cases z⟩
section
variable {prog:aW} {w:bz} {A:bU} {E:ae→ar→Prop} {s:ar}
theorem oV {c:Sq}{i:ao}{k:Nat}{xs:Array ae}{v:ae}{Q:ae→ar→Prop}(jt:ItAt s.heap c i k)(tt:SqAt s.heap c xs)(hv:xs[k]? =some v)
  (q:∀ g,ItAt g c i (k+1)→dZ i s.heap g→Q v { s with heap:=g }):aX (br prog w) A (cS (.ref i)) Q E s:=by
 obtain ⟨l,a⟩:=c;cases l with
 | true=>exact wpAny_nextOf_list_item (show s.heap.IsListIter i a k from jt) (show s.heap.IsList a xs from tt) hv fun g h1 h2=>q g h1 h2
 | false=>exact nextT_item (show s.heap.IsTupleIter i a k from jt) (show s.heap.IsTuple a xs from tt) hv fun g h1 h2=>q g h1 h2
theorem nextS_end {c:Sq}{i:ao}{k:Nat}{xs:Array ae}{Q:ae→ar→Prop}(hh:A.handled=none)(jt:ItAt s.heap c i k)(tt:SqAt s.heap c xs)(hv:xs[k]? =none)
  (q:∀ g x,bE.ExtBut i s.heap g→(∃ o,g.get? x=some o∧o.cls= .type "StopIteration")→E (.ref x) { s with heap:=g }):aX (br prog w) A (cS (.ref i)) Q E s:=by
 obtain ⟨l,a⟩:=c;cases l with
 | true=>exact wpAny_nextOf_list_end hh (show s.heap.IsListIter i a k from jt) (show s.heap.IsList a xs from tt) hv fun g x h1 h2=>q g x h1 h2
 | false=>exact nextT_end hh (show s.heap.IsTupleIter i a k from jt) (show s.heap.IsTuple a xs from tt) hv fun g x h1 h2=>q g x h1 h2
theorem iterS {c:Sq}{xs:Array ae}{Q:ae→ar→Prop}(tt:SqAt s.heap c xs)
  (q:∀ g,ItAt g c s.heap.objs.size 0→g.objs.size=s.heap.objs.size+1→(∀ b o,s.heap.get? b=some o→g.get? b=some o)→Q (.ref s.heap.objs.size) { s with heap:=g }):aX (br prog w) A (pyIter (.ref c.a)) Q E s:=by
 obtain ⟨l,a⟩:=c;cases l with
 | true=>exact wpAny_pyIter_list (show s.heap.IsList a xs from tt) (q _ ⟨_,bg _ rfl,rfl,rfl⟩ (gm ..) fun b o e=>au _ e)
 | false=>exact wpAny_pyIter_tuple (show s.heap.IsTuple a xs from tt) (q _ ⟨_,bg _ rfl,rfl,rfl⟩ (gm ..) fun b o e=>au _ e)
theorem updRow {T:ao}{vs:List ae}{x:ae}{k:Nat}{Q:Unit→ar→Prop}(hT:lG s.heap T vs)(hz:vs.length≤100)
  (h:∀ g,lG g T (vs.set k x)→dZ T s.heap g→Q () { s with heap:=g }):aX (br prog w) A (updateSeq T (·.setIfInBounds k x)) Q E s:=by
 refine wpAny_updateSeq hT rfl (h _ ?_ (fS ..)) (by rw [aB];exact bj hz (by decide)) (by rw [Array.size_setIfInBounds,aB];exact bj hz (by decide));show bE.get? _ T=_;rw [bE.get?_update_self _ hT rfl];simp [cT]
structure ZIn (h g:bE)(z TI TO:ao)(cs:List Sq)(is:List ao)(k j:Nat)(vs old:List ae):Prop where
 sz:g.objs.size=h.objs.size
 zip:IsZip g z TI TO .ellipsis
 row:lG g TO (vs.take j++old.drop j)
 its:∀ (n:Nat) c i,cs[n]? =some c→is[n]? =some i→ItAt g c i (if n<j then k+1 else k)
 ext:∀ e o,e≠z→e≠TO→e ∉ is→h.get? e=some o→g.get? e=some o
structure ZOk (h:bE)(z TI TO:ao)(cs:List Sq)(is:List ao)(k:Nat)(old:List ae):Prop where
 len:is.length=cs.length
 few:cs.length≤8
 pos:0<cs.length
 nod:(z::TI::TO::is).Nodup
 zip:IsZip h z TI TO .none
 ti:lG h TI (is.map ae.ref)
 to:lG h TO old
 lo:old.length=cs.length
 its:∀ (n:Nat) c i,cs[n]? =some c→is[n]? =some i→ItAt h c i k
 off:∀ c∈cs,c.a≠z∧c.a≠TO∧c.a ∉ is
theorem nod_ne {is:List ao}{i:ao}{n j:Nat}{e:ao}(hn:is.Nodup)(h1:is[j]? =some i)(h2:is[n]? =some e)(h:n≠j):e≠i:=fun z=>by
 subst z;have a:=(av.mp h1);have b:=(av.mp h2);obtain ⟨ha,ea⟩:=a;obtain ⟨hb,eb⟩:=b;exact h ((List.getElem_inj hn).mp (eb.trans ea.symm))
theorem ZIn.step {h g:bE}{z TI TO:ao}{cs:List Sq}{is:List ao}{k j:Nat}{vs old:List ae}{i:ao}{c:Sq}(D:ZOk h z TI TO cs is k old)(Z:ZIn h g z TI TO cs is k j vs old)(hi:is[j]? =some i)(hc:cs[j]? =some c){g2 g3:bE}{v:ae}(hv:vs[j]? =some v)(lv:vs.length=cs.length)
  (n2:ItAt g2 c i (k+1)) (s2:dZ i g g2) (r3:lG g3 TO ((vs.take j++old.drop j).set j v)) (s3:dZ TO g2 g3):ZIn h g3 z TI TO cs is k (j+1) vs old:=by
 have nod:=D.nod;rw [bB,bB,bB] at nod;obtain ⟨nz,nT,nO,ni⟩:=nod;have mi:i∈is:=bp hi;have iz:z≠i:=fun q=>nz (by rw [q];simp [mi])
 have iO:TO≠i:=fun q=>nO (by rw [q];exact mi)
 have zO:z≠TO:=fun q=>nz (by rw [q];simp)
 have jl:j<cs.length:=(av.mp hc).1;refine ⟨by rw [s3.1,s2.1,Z.sz],s3.extBut _ _ zO (s2.extBut _ _ iz Z.zip),?_,fun n c' i' hc' hi'=>?_,fun e o e1 e2 e3 q=>s3.extBut _ _ e2 (s2.extBut _ _ (fun y=>e3 (by rw [y];exact mi)) (Z.ext e o e1 e2 e3 q))⟩
 ·have lo:=D.lo
  have e:(vs.take j++old.drop j).set j v=vs.take (j+1)++old.drop (j+1):=by
   have l1:(vs.take j).length=j:=by rw [bH];omega
   rw [List.set_append,pe (by omega),l1,Nat.sub_self,List.drop_eq_getElem_cons (by omega:j<old.length),List.set_cons_zero,bt,hv];simp
  rw [←e];exact r3
 ·have mi':i'∈is:=bp hi'
  have iO':i'≠TO:=fun q=>nO (by rw [←q];exact mi')
  by_cases e:n=j
  ·subst e
   rw [hi] at hi';rw [hc] at hc';cases hi';cases hc';rw [pf (by omega)];exact n2.ext fun o q=>s3.extBut _ _ iO' q
  ·have q:=Z.its n c' i' hc' hi'
   have e2:(if n<j+1 then k+1 else k)=(if n<j then k+1 else k):=by
    by_cases y:n<j
    ·rw [pf y,pf (by omega)]
    ·rw [pe y,pe (by omega)]
   rw [e2];exact q.ext fun o r=>s3.extBut _ _ iO' (s2.extBut _ _ (nod_ne ni hi hi' e) r)
theorem zipS_go {z TI TO:ao}{cs:List Sq}{is:List ao}{k:Nat}{old vs:List ae}{Q:Option ae→ar→Prop}(D:ZOk s.heap z TI TO cs is k old)
  (hv:∀ (n:Nat) c,cs[n]? =some c→∃ xs v,SqAt s.heap c xs∧xs[k]? =some v∧vs[n]? =some v) (lv:vs.length=cs.length)
  (q:∀ g,IsZip g z TI TO (rawInt s.heap.objs.size)→lG g TO vs→(∀ (n:Nat) c i,cs[n]? =some c→is[n]? =some i→ItAt g c i (k+1))→lG g s.heap.objs.size vs→g.objs.size=s.heap.objs.size+1 →
   (∀ e o,e≠z→e≠TO→e ∉ is→s.heap.get? e=some o→g.get? e=some o)→Q (some (.ref s.heap.objs.size)) { s with heap:=g }):aX (br prog w) A (pyNext (.ref z)) Q E s:=by
 have hT:s.TypeIs (.ref z) "zip" := ⟨_,D.zip,rfl⟩;have nod:=D.nod;rw [bB,bB,bB] at nod;obtain ⟨nz,nT,nO,ni⟩:=nod;have zO:z≠TO:=fun q=>nz (by rw [q];simp)
 have few:=D.few;have len:=D.len;unfold pyNext;refine ah (wpAny_attempt (dW (name:=eD "__next__") hT F.slot_zip_next (fP F.slot_zip_next hT F.entry_zip_next ?_ (F.args_zip_next_1 _))));show aX _ _ (field (.ref z) 2 >>= _) _ _ s;refine ah (cR D.zip rfl (x:= .bool false) (by rfl) ?_);show aX _ _ (field (.ref z) 3 >>= _) _ _ s;refine ah (cR D.zip rfl (x:= .ref TI) (by rfl) ?_);refine ah (iw D.ti rfl ?_)
 dsimp only
 rw [pe (by intro y;rw [Array.isEmpty_iff_size_eq_zero,aB,aa,len] at y;have:=D.pos;omega)];refine ah ?_;unfold j3;refine ah (cR D.zip rfl (x:= .none) (by rfl) (aJ ?_));simp only [if_true];refine ah (wpAny_rule ?_);refine ah (cR D.zip rfl (x:= .ref TO) (by rfl) ?_);refine ah (iR D.zip (by simp) fun g1 z1 s1=>?_);have z1:IsZip g1 z TI TO .ellipsis:=z1;refine ah ?_;refine mQ _ (fun j b s'=>b=_∧∃ g,s'={ s with heap:=g }∧ZIn s.heap g z TI TO cs is k j vs old) _ _ ⟨rfl,g1,rfl,?_⟩ ?_ ?_
 ·refine ⟨s1.1,z1,s1.extBut _ _ zO.symm D.to,fun n c i hc hi=>?_,fun e o e1 _ _ h=>s1.extBut _ _ e1 h⟩
  rw [pe (by omega)];exact (D.its n c i hc hi).ext fun o h=>s1.extBut _ _ (fun y=>nz (by rw [←y];simp [bp hi])) h
 ·rintro j a b s' ha ⟨rfl,g,rfl,Z⟩
  rw [List.getElem?_zipIdx] at ha;obtain ⟨x,hx,rfl⟩:=bx.mp ha;have hx:(is.map ae.ref)[j]? =some x:=by simpa using hx
  rw [ay] at hx;obtain ⟨i,hi,rfl⟩:=bx.mp hx;have jl:j<cs.length:=by rw [←len];exact (av.mp hi).1
  have hc:cs[j]? =some cs[j]:=gE jl;obtain ⟨xs,v,hq,hxv,hvv⟩:=hv j _ hc;obtain ⟨o1,o2,o3⟩:=D.off _ (bR jl);have it:=Z.its j _ i hc hi;rw [pe (by omega)] at it
  dsimp only
  refine ah (wpAny_onRaise ?_);show aX _ _ (cS (.ref i) >>= _) _ _ _;refine ah (oV it (hq.ext fun o h=>Z.ext _ o o1 o2 o3 h) hxv fun g2 n2 s2=>aJ ?_);have iO:TO≠i:=fun q=>nO (by rw [q];exact bp hi)
  have r2:lG g2 TO (vs.take j++old.drop j):=s2.extBut _ _ iO Z.row;refine ah (iw r2 rfl ?_);refine ah (updRow (x:=v) (k:=0+j) r2 (by rw [aq,bH,dm];have:=D.lo;omega) fun g3 r3 s3=>?_);rw [Nat.zero_add] at r3;refine ah (wpAny_letGo (aJ ⟨_,rfl,rfl,g3,rfl,Z.step D hi hc hvv lv n2 s2 r3 s3⟩))
 ·rintro b s' ⟨rfl,g5,rfl,Z⟩
  have ll:((is.map ae.ref).toArray.toList.zipIdx).length=cs.length:=by simp [len]
  rw [ll] at Z;have z5:=Z.zip;have o5:lG g5 TO vs:=by
   have:=Z.row;rw [←lv,bq,lv,←D.lo,List.drop_length,fv] at this;exact this
  have m5:∀ (n:Nat) c i,cs[n]? =some c→is[n]? =some i→ItAt g5 c i (k+1):=fun n c i hc hi=>by
   have:=Z.its n c i hc hi;rw [pf (av.mp hc).1] at this;exact this
  dsimp only
  refine ah (iw o5 rfl ?_);refine ah (wpAny_newTuple ?_);have zlt:z<g5.objs.size:=aN z5;have sz:=Z.sz;refine ah ?_;unfold fM.SmallTypes.ownedTupleHandOut;have z6:IsZip (g5.push { cls:= .type "tuple",data:= .seq vs.toArray }) z TI TO .ellipsis:=au _ z5;refine ah (iR z6 (by simp) fun g7 z7 s7=>?_);have z7:IsZip g7 z TI TO (rawInt g5.objs.size):=z7;refine iR z7 (by simp) fun g8 z8 s8=>?_
  have z8:IsZip g8 z TI TO (rawInt g5.objs.size):=z8;have up:∀ e o,e≠z→g5.get? e=some o→g8.get? e=some o:=fun e o c1 h=>s8.extBut _ _ c1 (s7.extBut _ _ c1 (au _ h))
  have t8:lG g8 g5.objs.size vs:=s8.extBut _ _ (eE zlt) (s7.extBut _ _ (eE zlt) (bg _ rfl));have sz8:g8.objs.size=g5.objs.size+1:=by rw [s8.1,s7.1,gm]
  rw [sz] at z8 t8 sz8;refine aJ ⟨_,rfl,?_⟩;refine aJ ?_;show Q (some (.ref g5.objs.size)) _;rw [sz];refine q g8 z8 (up _ _ zO.symm o5) (fun n c i hc hi=>(m5 n c i hc hi).ext fun o h=>up _ o (fun y=>nz (by rw [←y];simp [bp hi])) h) t8 sz8 fun e o c1 c2 c3 h=>up e o c1 (Z.ext e o c1 c2 c3 h)
theorem zipS_stop {z TI TO:ao}{cs:List Sq}{is:List ao}{k:Nat}{old vs:List ae}{m:Nat}{cm:Sq}{Q:Option ae→ar→Prop}(hh:A.handled=none)(D:ZOk s.heap z TI TO cs is k old)
  (hv:∀ (n:Nat) c,cs[n]? =some c→n<m→∃ xs v,SqAt s.heap c xs∧xs[k]? =some v∧vs[n]? =some v) (lv:vs.length=cs.length) (hm:cs[m]? =some cm) {xm:Array ae} (hxm:SqAt s.heap cm xm) (hem:xm[k]? =none)
  (q:∀ g,(∀ e o,e≠z→e≠TO→e ∉ is→s.heap.get? e=some o→g.get? e=some o)→Q none { s with heap:=g }):aX (br prog w) A (pyNext (.ref z)) Q E s:=by
 have hT:s.TypeIs (.ref z) "zip" := ⟨_,D.zip,rfl⟩;have nod:=D.nod;rw [bB,bB,bB] at nod;obtain ⟨nz,nT,nO,ni⟩:=nod;have zO:z≠TO:=fun q=>nz (by rw [q];simp)
 have few:=D.few;have len:=D.len;have fin:∀ g x,(∀ e o,e≠z→e≠TO→e ∉ is→s.heap.get? e=some o→g.get? e=some o)→(∃ o,g.get? x=some o∧o.cls= .type "StopIteration") →
   aX (br prog w) A (do if ← isInstance (.ref x) (.type "StopIteration") then fQ none else throw (.ref x)) Q E { s with heap:=g }:=fun g x k ⟨o,ho,hc⟩=>by
  refine ah (wpAny_isInstance (T := "StopIteration") (b:=true) ⟨o,ho,hc⟩ isSubtype_stop ?_);exact aJ (q g k)
 have ml:m<cs.length:=(av.mp hm).1;unfold pyNext;refine ah (wpAny_attempt (dW (name:=eD "__next__") hT F.slot_zip_next (fP F.slot_zip_next hT F.entry_zip_next ?_ (F.args_zip_next_1 _))));show aX _ _ (field (.ref z) 2 >>= _) _ _ s;refine ah (cR D.zip rfl (x:= .bool false) (by rfl) ?_);show aX _ _ (field (.ref z) 3 >>= _) _ _ s;refine ah (cR D.zip rfl (x:= .ref TI) (by rfl) ?_);refine ah (iw D.ti rfl ?_)
 dsimp only
 rw [pe (by intro y;rw [Array.isEmpty_iff_size_eq_zero,aB,aa,len] at y;have:=D.pos;omega)];refine ah ?_;unfold j3;refine ah (cR D.zip rfl (x:= .none) (by rfl) (aJ ?_));simp only [if_true];refine ah (wpAny_rule ?_);refine ah (cR D.zip rfl (x:= .ref TO) (by rfl) ?_);refine ah (iR D.zip (by simp) fun g1 z1 s1=>?_);have z1:IsZip g1 z TI TO .ellipsis:=z1;refine ah ?_;refine mQ _ (fun j b s'=>b=_∧j≤m∧∃ g,s'={ s with heap:=g }∧ZIn s.heap g z TI TO cs is k j vs old) _ _ ⟨rfl,bI _,g1,rfl,?_⟩ ?_ ?_
 ·refine ⟨s1.1,z1,s1.extBut _ _ zO.symm D.to,fun n c i hc hi=>?_,fun e o e1 _ _ h=>s1.extBut _ _ e1 h⟩
  rw [pe (by omega)];exact (D.its n c i hc hi).ext fun o h=>s1.extBut _ _ (fun y=>nz (by rw [←y];simp [bp hi])) h
 ·rintro j a b s' ha ⟨rfl,jm,g,rfl,Z⟩
  rw [List.getElem?_zipIdx] at ha;obtain ⟨x,hx,rfl⟩:=bx.mp ha;have hx:(is.map ae.ref)[j]? =some x:=by simpa using hx
  rw [ay] at hx;obtain ⟨i,hi,rfl⟩:=bx.mp hx;have jl:j<cs.length:=by rw [←len];exact (av.mp hi).1
  have hc:cs[j]? =some cs[j]:=gE jl;obtain ⟨o1,o2,o3⟩:=D.off _ (bR jl);have it:=Z.its j _ i hc hi;rw [pe (by omega)] at it;have iO:TO≠i:=fun q=>nO (by rw [q];exact bp hi)
  have iz:z≠i:=fun q=>nz (by rw [q];simp [bp hi])
  dsimp only
  refine ah (wpAny_onRaise ?_);show aX _ _ (cS (.ref i) >>= _) _ _ _
  by_cases e:j=m
  ·subst e
   rw [hc] at hm;cases hm;refine ah (nextS_end hh it (hxm.ext fun o h=>Z.ext _ o o1 o2 o3 h) hem fun g2 x s2 hx2=>?_);obtain ⟨oe,e1,e2⟩:=hx2;have z2:IsZip g2 z TI TO .ellipsis:=s2 _ _ iz Z.zip;have xz:x≠z:=fun r=>by subst r;rw [z2] at e1;cases e1;simp at e2
   exact iR z2 (by simp) fun g3 _ s3=>fin g3 x (fun e o c1 c2 c3 h=>s3.extBut _ _ c1 (s2 _ _ (fun y=>c3 (by rw [y];exact bp hi)) (Z.ext e o c1 c2 c3 h))) ⟨oe,s3.extBut _ _ xz e1,e2⟩
  ·obtain ⟨xs,v,hq,hxv,hvv⟩:=hv j _ hc (by omega)
   refine ah (oV it (hq.ext fun o h=>Z.ext _ o o1 o2 o3 h) hxv fun g2 n2 s2=>aJ ?_);have r2:lG g2 TO (vs.take j++old.drop j):=s2.extBut _ _ iO Z.row;refine ah (iw r2 rfl ?_);refine ah (updRow (x:=v) (k:=0+j) r2 (by rw [aq,bH,dm];have:=D.lo;omega) fun g3 r3 s3=>?_);rw [Nat.zero_add] at r3;refine ah (wpAny_letGo (aJ ⟨_,rfl,rfl,by omega,g3,rfl,Z.step D hi hc hvv lv n2 s2 r3 s3⟩))
 ·rintro b s' ⟨rfl,jm,g5,rfl,Z⟩
  have ll:((is.map ae.ref).toArray.toList.zipIdx).length=cs.length:=by simp [len]
  rw [ll] at jm;omega
end
theorem lr {α:Type}{P:Nat→α→Prop}:∀ (k:Nat),(∀ n,n<k→∃ u,P n u)→∃ us:List α,us.length=k∧∀ (n:Nat) u,us[n]? =some u→P n u
 | 0,_=>⟨[],rfl,fun n u h=>by simp at h⟩
 | k+1,h=>by
  obtain ⟨us,hl,hu⟩:=lr k fun n hn=>h n (by omega)
  obtain ⟨u,pu⟩:=h k (by omega);refine ⟨us++[u],by rw [aq,hl];rfl,fun n v hv=>?_⟩
  by_cases e:n<us.length
  ·rw [fT e] at hv
   exact hu n v hv
  ·rw [bS (by omega)] at hv
   have hn:n=us.length:=by
    have:=(av.mp hv).1;simp at this;omega
   subst hn;rw [Nat.sub_self] at hv;cases hv;rw [hl];exact pu
theorem vals_of:∀ {vs:List V} {us:List ae},vs.length=us.length→(∀ (n:Nat) v u,vs[n]? =some v→us[n]? =some u→RelV v u)→Vals vs us
 | [],[],_,_=> .nil
 | v::vs,u::us,hl,h=> .cons (h 0 v u rfl rfl) (vals_of (by simpa using hl) fun n v' u' a b=>h (n+1) v' u' a b)
 | [],_::_,hl,_=>by simp at hl
 | _::_,[],hl,_=>by simp at hl
def HSq (H:Hp)(c:Sq)(xs:List V):Prop:=match c.l with | true=>H c.a=some (.lst xs) | false=>H c.a=some (.tup xs)
theorem HSq.inj {H:Hp}{c:Sq}{xs ys:List V}(a:HSq H c xs)(b:HSq H c ys):xs=ys:=by
 obtain ⟨l,q⟩:=c;cases l with
 | true=>have a:H q=some (.lst xs):=a;have b:H q=some (.lst ys):=b;rw [a] at b;cases b;rfl
 | false=>have a:H q=some (.tup xs):=a;have b:H q=some (.tup ys):=b;rw [a] at b;cases b;rfl
theorem HSq.has {H:Hp}{c:Sq}{xs:List V}(a:HSq H c xs):∃ o,H c.a=some o:=by
 obtain ⟨l,q⟩:=c;cases l with
 | true=>exact ⟨_,a⟩
 | false=>exact ⟨_,a⟩
theorem HSq.at {X:Cx}{aQ:List (ao×Obj)}{σ:St}{H:Hp}{s:ar}{c:Sq}{xs:List V}(I:Inv X aQ σ H s)(h:HSq H c xs):∃ its,Vals xs its∧SqAt s.heap c its.toArray:=by
 obtain ⟨l,q⟩:=c;cases l with
 | true =>
  obtain ⟨its,r,p,_⟩:=I.list (SqL.of (K:=X.K) (show H q=some (.lst xs) from h));exact ⟨its,r,p.isList⟩
 | false =>
  obtain ⟨its,r,p,_⟩:=I.tuple (SqT.of (K:=X.K) (show H q=some (.tup xs) from h));exact ⟨its,r,p⟩
def Itq (cs:List Sq):It :=
 ⟨fun i H=>∃ vs:List V,vs.length=cs.length∧∀ (n:Nat) c,cs[n]? =some c→∃ xs x,HSq H c xs∧xs[i]? =some x∧vs[n]? =some x,
  fun i H v H'=>∃ p vs,H p=none∧v= .ref p∧H'=upd H p (.tup vs)∧vs.length=cs.length∧∀ (n:Nat) c x xs,cs[n]? =some c→HSq H c xs→vs[n]? =some x→xs[i]? =some x,
  fun i H=>∃ m cm xm,cs[m]? =some cm∧HSq H cm xm∧xm.length≤i∧∀ (n:Nat) c,cs[n]? =some c→n<m→∃ xs x,HSq H c xs∧xs[i]? =some x⟩
section
theorem turn_zipS {P:aW}{w:bz}{K:ak}{es:List Expr}{k0}{pos:Pos}{z TI TO:ao}{cs:List Sq}{is:List ao} :
  Turn P w K (.Tuple es k0 pos) (Itq cs) (z::TI::TO::is) z (fun i h=>∃ old,ZOk h z TI TO cs is i old) where
 mem:=by simp
 obj:=fun i h st c hc=>by
  obtain ⟨old,D⟩:=st;simp only [aL] at hc
  rcases hc with rfl | rfl | rfl | hc
  ·exact ⟨_,D.zip,fun v z=>by cases z⟩
  ·exact ⟨_,D.ti,fun v z=>by cases z⟩
  ·exact ⟨_,D.to,fun v z=>by cases z⟩
  ·obtain ⟨n,hn⟩:=List.getElem?_of_mem hc
   have hl:n<cs.length:=by rw [←D.len];exact (av.mp hn).1
   exact (D.its n _ c (gE hl) hn).obj
 keep:=fun i h h' st k=>by
  obtain ⟨old,D⟩:=st;exact ⟨old,D.len,D.few,D.pos,D.nod,k z (by simp) _ D.zip,k TI (by simp) _ D.ti,k TO (by simp) _ D.to,D.lo,fun n c i hc hi=>(D.its n c i hc hi).ext fun o e=>k i (by simp [bp hi]) o e,D.off⟩
 item:=by
  intro X hP hw hK hc i aQ s σ H E I hf st hg;subst hP hw hK;obtain ⟨old,D⟩:=st;obtain ⟨vs,lv,hv⟩:=hg;have nz:∀ e∈z::TI::TO::is,H e=none:=fun e he=>(hf e he).1
  have hT:H s.heap.objs.size=none:=I.fresh;have ex:∀ n,n<cs.length→∃ u:ae,(∀ c,cs[n]? =some c→∃ xs,SqAt s.heap c xs∧xs[i]? =some u)∧∀ v,vs[n]? =some v→RelV v u:=fun n hn=>by
   obtain ⟨xs,x,h1,h2,h3⟩:=hv n _ (gE hn);obtain ⟨its,r,p⟩:=h1.at I;obtain ⟨u,hu,ru⟩:=r.get h2;refine ⟨u,fun c hc=>?_,fun v hv'=>?_⟩
   ·rw [gE hn] at hc
    cases hc;exact ⟨_,p,by simpa using hu⟩
   ·rw [h3] at hv'
    cases hv';exact ru
  obtain ⟨us,lu,hu⟩:=lr cs.length ex;have hrel:Vals vs us:=vals_of (by omega) fun n v u a b=>(hu n u b).2 v a
  refine zipS_go D (vs:=us) (fun n c hc=>?_) lu fun g z1 to1 m1 tp sz kk=>⟨_,rfl,?_⟩
  ·have hn:n<us.length:=by rw [lu];exact (av.mp hc).1
   obtain ⟨xs,a,b⟩:=(hu n _ (gE hn)).1 c hc;exact ⟨xs,us[n],a,b,gE hn⟩
  refine wpAny_letOwnedTupleGo_zip z1 fun g2 z2 s2=>?_
  have s2:dZ z g g2:=s2;have k2:∀ e o,e ∉ z::TO::is→s.heap.get? e=some o→g2.get? e=some o:=fun e o hn h=>by
   simp only [aL,not_or] at hn;exact s2.extBut _ _ hn.1 (kk e o hn.1 hn.2.1 hn.2.2 h)
  have zlt:z<s.heap.objs.size:=aN D.zip;have tp2:lG g2 s.heap.objs.size us:=s2.extBut _ _ (eE zlt) tp;have sub:∀ e∈z::TO::is,e∈z::TI::TO::is:=fun e he=>by
   simp only [aL] at he ⊢
   rcases he with rfl | rfl | he <;> simp [*]
  have trk:∀ e o,H e=some o→e ∉ z::TO::is:=fun e o he hm=>by rw [nz e (sub e hm)] at he;cases he
  have J:Inv X aQ σ (upd H s.heap.objs.size (.tup vs)) { s with heap:=g2 }:=by
   refine I.turnAll (ch:=z::TO::is) (fun e he=>hf e (sub e he)) k2 (fun e o h=>by rw [bf (aY h hT)];exact h) (fun e o h n=>by rw [bf (bM (aN h))];exact n) fun e o h=>?_
   by_cases q:e=s.heap.objs.size
   ·subst q
    rw [aS] at h;cases h;exact ⟨by rw [lv];exact bj D.few (by decide),us,hrel,_,tp2,rfl,rfl,_,rfl⟩
   ·rw [bf q] at h
    refine (I.hok e o h).stay (fun c v hc' q'=>k2 c v (by
     rcases hc' with z' | z'
     ·rw [z'];exact trk e o h
     ·exact trk c _ z') q') (fun c q'=>by rw [bf (aY q' hT)];exact q') fun c xs q'=>by rw [bf (aY q' hT)];exact q'
  have nod:=D.nod;rw [bB,bB,bB] at nod;obtain ⟨nz',nT,nO,ni⟩:=nod;refine ⟨.ref s.heap.objs.size,_,J,rfl,⟨_,vs,hT,rfl,rfl,lv,fun n c x xs hc hq hx=>?_⟩,⟨us,D.len,D.few,D.pos,D.nod,z2,?_,s2.extBut _ _ (fun y=>nz' (by rw [←y];simp)) to1,lu,fun n c j hc hj=>?_,D.off⟩,fun e he=>?_⟩
  ·obtain ⟨ys,y,h1,h2,h3⟩:=hv n c hc
   rw [h1.inj hq] at h2;rw [h3] at hx;cases hx;exact h2
  ·refine k2 _ _ (fun y=>?_) D.ti
   rcases aL.mp y with y | y
   ·exact nz' (by rw [←y];simp)
   ·exact nT y
  ·exact (m1 n c j hc hj).ext fun o e=>s2.extBut _ _ (fun y=>nz' (by rw [←y];simp [bp hj])) e
  ·have hlt:e<s.heap.objs.size:=by
    simp only [aL] at he
    rcases he with rfl | rfl | rfl | he
    ·exact aN D.zip
    ·exact aN D.ti
    ·exact aN D.to
    ·obtain ⟨n,hn⟩:=List.getElem?_of_mem he
     have hl:n<cs.length:=by rw [←D.len];exact (av.mp hn).1
     obtain ⟨o,ho,_⟩:=(D.its n _ e (gE hl) hn).obj;exact aN ho
   rw [bf (bM hlt)];exact nz e he
 done:=by
  intro X hP hw hK hc i aQ s σ H E I hf st hg;subst hP hw hK;obtain ⟨old,D⟩:=st;obtain ⟨m,cm,xm,hm,hxm,hi,hv⟩:=hg;have nz:∀ e∈z::TI::TO::is,H e=none:=fun e he=>(hf e he).1
  have ex:∀ n,n<cs.length→∃ u:ae,∀ c,cs[n]? =some c→n<m→∃ xs,SqAt s.heap c xs∧xs[i]? =some u:=fun n hn=>by
   by_cases e:n<m
   ·obtain ⟨xs,x,h1,h2⟩:=hv n _ (gE hn) e
    obtain ⟨its,r,p⟩:=h1.at I;obtain ⟨u,hu,ru⟩:=r.get h2;refine ⟨u,fun c hc _=>?_⟩;rw [gE hn] at hc;cases hc;exact ⟨_,p,by simpa using hu⟩
   ·exact ⟨.none,fun c _ z=>pj z e⟩
  obtain ⟨us,lu,hu⟩:=lr cs.length ex;obtain ⟨its,r,p⟩:=hxm.at I;have hl:=r.length;refine zipS_stop (I.ok.hd hc) D (vs:=us) (m:=m) (fun n c hc hn=>?_) lu hm p (by simp;omega) fun g kk=>⟨rfl,?_⟩
  ·have hn':n<us.length:=by rw [lu];exact (av.mp hc).1
   obtain ⟨xs,a,b⟩:=hu n _ (gE hn') c hc hn;exact ⟨xs,us[n],a,b,gE hn'⟩
  have sub:∀ e∈z::TO::is,e∈z::TI::TO::is:=fun e he=>by
   simp only [aL] at he ⊢
   rcases he with rfl | rfl | he <;> simp [*]
  have k2:∀ e o,e ∉ z::TO::is→s.heap.get? e=some o→g.get? e=some o:=fun e o hn h=>by
   simp only [aL,not_or] at hn;exact kk e o hn.1 hn.2.1 hn.2.2 h
  have trk:∀ e o,H e=some o→e ∉ z::TO::is:=fun e o he hm=>by rw [nz e (sub e hm)] at he;cases he
  refine I.turnAll (ch:=z::TO::is) (fun e he=>hf e (sub e he)) k2 (fun _ _ h=>h) (fun _ _ _ n=>n) fun e o h=>?_
  exact (I.hok e o h).stay (fun c v hc' q'=>k2 c v (by
   rcases hc' with z' | z'
   ·rw [z'];exact trk e o h
   ·exact trk c _ z') q') (fun _ q'=>q') fun _ _ q'=>q'
 self:=fun _ _ _ _ _ st h=>let ⟨_,D⟩:=st;wpAny_pyIter_zip D.zip h
end
structure ZNew (h g:bE)(cs:List Sq):Prop where
 zip:IsZip g (h.objs.size+cs.length+2) (h.objs.size+cs.length) (h.objs.size+cs.length+1) .none
 ti:lG g (h.objs.size+cs.length) (((aP cs.length).map fun j=>h.objs.size+j).map ae.ref)
 to:lG g (h.objs.size+cs.length+1) (bO cs.length .none)
 its:∀ (n:Nat) c,cs[n]? =some c→ItAt g c (h.objs.size+n) 0
 ext:∀ b o,h.get? b=some o→g.get? b=some o
theorem newClass_zip (vs:List ae):fM.SmallTypes.newClass "zip" ⟨.type "zip" :: vs,[]⟩=fQ (.type "zip",vs):=by
 unfold fM.SmallTypes.newClass;simp only [isType,sub_zip,pure_bind,Bool.not_true,Bool.false_eq_true,if_false]
theorem zipS_new (cs:List Sq)(few:cs.length≤8) :
  Meets (fM.«zip.__new__» ⟨.type "zip" :: cs.map fun c=>ae.ref c.a,[]⟩) (fun _ R s=>(∀ c∈cs,∃ xs,SqAt s.heap c xs)∧∀ g,ZNew s.heap g cs→R (.ok (.ret (.ref (s.heap.objs.size+cs.length+2)))) { s with heap:=g }) :=
 .of_wp fun prog w A R s h=>by
  obtain ⟨h1,h⟩:=h;unfold fM.«zip.__new__»;refine ah (wpAny_of_eq (newClass_zip _) ?_);show aX _ _ (fM.SmallTypes.iterAll (cs.map fun c=>ae.ref c.a) >>= _) _ _ _;refine ah ?_;unfold fM.SmallTypes.iterAll;refine ah (mQ _ (fun j its s'=>∃ g,s'={ s with heap:=g }∧g.objs.size=s.heap.objs.size+j∧its=((aP j).map fun i=>ae.ref (s.heap.objs.size+i)).toArray∧(∀ (n:Nat) c,n<j→cs[n]? =some c→ItAt g c (s.heap.objs.size+n) 0)∧∀ b o,s.heap.get? b=some o→g.get? b=some o) _ _ ⟨s.heap,rfl,rfl,rfl,fun n c hn=>pj hn (by omega),fun _ _ e=>e⟩ ?_ ?_)
  ·rintro j a its s' ha ⟨g,rfl,sz,rfl,hit,ext⟩
   rw [ay] at ha;obtain ⟨c,hc,rfl⟩:=bx.mp ha;obtain ⟨xs,hx⟩:=h1 c (bp hc);refine ah (fj (iterS (c:=c) (xs:=xs) (hx.ext fun o e=>ext _ o e) fun g2 i2 z2 e2=>?_));refine aJ ⟨_,rfl,g2,rfl,?_,?_,fun n c' hn hc'=>?_,fun b o e=>e2 b o (ext b o e)⟩
   ·show g2.objs.size=_
    rw [z2];show g.objs.size+1=_;rw [sz];omega
   ·show Array.push _ (ae.ref g.objs.size)=_
    rw [sz,List.range_succ,aA];simp
   ·by_cases e:n=j
    ·subst e
     rw [hc] at hc';cases hc';have i2:ItAt g2 c g.objs.size 0:=i2;rw [sz] at i2;exact i2
    ·exact (hit n c' (by omega) hc').ext fun o q=>e2 _ o q
  ·rintro its s' ⟨g,rfl,sz,rfl,hit,ext⟩
   have ll:(cs.map fun c=>ae.ref c.a).length=cs.length:=aa ..;rw [ll] at sz hit ⊢;refine aJ ?_
   dsimp only
   have n8:((aP cs.length).map fun i=>ae.ref (s.heap.objs.size+i)).length≤bc:=by
    rw [aa,bo];exact bj few (by decide)
   refine ah (wpAny_newTuple ?_ (by simpa using n8));refine ah (wpAny_newTuple ?_ (by simpa using n8));refine ah ?_;unfold fM.SmallTypes.newRecord;refine cX (aJ ⟨_,rfl,?_⟩) (by show 5≤bc+2;decide);have e1:(g.push { cls:= .type "tuple",data:= .seq ((aP cs.length).map fun i=>ae.ref (s.heap.objs.size+i)).toArray }).objs.size=s.heap.objs.size+cs.length+1:=by rw [gm,sz]
   have e2:((g.push { cls:= .type "tuple",data:= .seq ((aP cs.length).map fun i=>ae.ref (s.heap.objs.size+i)).toArray }).push { cls:= .type "tuple",data:= .seq ((((aP cs.length).map fun i=>ae.ref (s.heap.objs.size+i)).toArray.toList.map fun _=>ae.none)).toArray }).objs.size=s.heap.objs.size+cs.length+2:=by rw [gm,e1]
   have key:=h (((g.push { cls:= .type "tuple",data:= .seq ((aP cs.length).map fun i=>ae.ref (s.heap.objs.size+i)).toArray }).push { cls:= .type "tuple",data:= .seq ((((aP cs.length).map fun i=>ae.ref (s.heap.objs.size+i)).toArray.toList.map fun _=>ae.none)).toArray }).push { cls:= .type "zip",data:= .fields #[.none,.bool false,.bool false,.ref (s.heap.objs.size+cs.length),.ref (s.heap.objs.size+cs.length+1)] })
    ⟨by rw [←e2];exact bg _ rfl,?_,?_,fun n c hc=>(hit n c (av.mp hc).1 hc).ext fun o q=>au _ (au _ (au _ q)),fun b o q=>au _ (au _ (au _ (ext b o q)))⟩
   ·rw [←e2] at key
    have e1':(s.heap.objs.size+cs.length:Nat)=g.objs.size:=sz.symm;rw [←e1,e1'] at key;exact key
   ·have em:(((aP cs.length).map fun j=>s.heap.objs.size+j).map ae.ref)=((aP cs.length).map fun i=>ae.ref (s.heap.objs.size+i)):=by rw [dv];rfl
    show bE.get? _ _=_;rw [em,←sz];exact au _ (au _ (bg _ rfl))
   ·rw [←e1]
    have er:(((aP cs.length).map fun i=>ae.ref (s.heap.objs.size+i)).toArray.toList.map fun _=>ae.none)=bO cs.length ae.none:=by
     rw [List.eq_replicate_iff];exact ⟨by simp,fun x hx=>by obtain ⟨_,_,rfl⟩:=bh.mp hx;rfl⟩
    rw [er];exact au _ (bg _ rfl)
section
variable {X:Cx}
theorem zip_walk {aQ:List (ao×Obj)}{σ:St}{H1:Hp}{s1:ar}{es:List Expr}{k0}{pt:Pos}{R:It→Hp→Prop}{E:ae→ar→Prop}{cs:List Sq}(I1:Inv X aQ σ H1 s1)(few:cs.length≤8)(pos:0<cs.length)(hq:∀ c∈cs,∃ xs,HSq H1 c xs)(q:R (Itq cs) H1){g:bE}(Z:ZNew s1.heap g cs) :
  aX (br X.prog X.w) X.A (pyIter (.ref (s1.heap.objs.size+cs.length+2))) (PIE X aQ σ (.Tuple es k0 pt) R) E { s1 with heap:=g }:=by
 have small:∀ c∈cs,c.a<s1.heap.objs.size:=fun c hc=>by
  obtain ⟨xs,hx⟩:=hq c hc;obtain ⟨o,ho⟩:=hx.has;exact Nat.lt_of_not_le fun hge=>by rw [I1.hok.fresh hge] at ho;cases ho
 refine wpAny_pyIter_zip Z.zip ⟨_,(s1.heap.objs.size+cs.length+2)::(s1.heap.objs.size+cs.length)::(s1.heap.objs.size+cs.length+1)::((aP cs.length).map fun j=>s1.heap.objs.size+j),_,Itq cs,H1,rfl,I1.kept (t':=s1.toks) Z.ext,turn_zipS,⟨_,?_,few,pos,?_,Z.zip,Z.ti,Z.to,by rw [gP],fun n c i hc hi=>?_,fun c hc=>?_⟩,fun e he=>?_,q⟩
 ·rw [aa,bo]
 ·have nd:((aP cs.length).map fun j=>s1.heap.objs.size+j).Nodup:=by
   rw [cb,fm];exact (cb.mp ib).imp fun h e=>h (by omega)
  have out:∀ x,s1.heap.objs.size+cs.length≤x→x ∉ ((aP cs.length).map fun j=>s1.heap.objs.size+j):=fun x hx hm=>by
   obtain ⟨j,hj,rfl⟩:=bh.mp hm;have:=bP.mp hj;omega
  rw [bB,bB,bB];refine ⟨fun h=>?_,fun h=>?_,fun h=>out _ (by show @LE.le Nat _ _ _;omega) h,nd⟩
  ·rcases aL.mp h with h | h
   ·have h: @Eq Nat _ _:=h
    omega
   ·rcases aL.mp h with h | h
    ·have h: @Eq Nat _ _:=h
     omega
    ·exact out _ (by show @LE.le Nat _ _ _;omega) h
  ·rcases aL.mp h with h | h
   ·have h: @Eq Nat _ _:=h
    omega
   ·exact out _ (by show @LE.le Nat _ _ _;omega) h
 ·rw [ay,gi (av.mp hc).1] at hi
  cases hi;exact Z.its n c hc
 ·have:=small c hc
  have this: @LT.lt Nat _ c.a s1.heap.objs.size:=this;refine ⟨by show @Ne Nat _ _;omega,by show @Ne Nat _ _;omega,fun hm=>?_⟩;obtain ⟨j,hj,e⟩:=bh.mp hm;have e: @Eq Nat _ _:=e;omega
 ·have hge:s1.heap.objs.size≤e:=by
   simp only [aL] at he
   rcases he with rfl | rfl | rfl | he
   ·show @LE.le Nat _ _ _;omega
   ·show @LE.le Nat _ _ _;omega
   ·show @LE.le Nat _ _ _;omega
   ·obtain ⟨j,hj,rfl⟩:=bh.mp he
    show @LE.le Nat _ _ _;omega
  exact I1.fpOk hge (I1.hok.fresh hge)
def iZip2 (ta:TA):TI:=fun σ H R=>ta σ H fun vs H1=>∃ c1 c2 xs ys,vs=[.ref c1.a,.ref c2.a]∧HSq H1 c1 xs∧HSq H1 c2 ys∧R (Itq [c1,c2]) H1
theorem pi_zip2 {ea eb:Expr}{ta:TA}{p pos:Pos}{es:List Expr}{k0}{pt:Pos}(hg:Gl X "zip")(hm:X.mg "zip" =none)(ha:PA X [ea,eb] ta)(hs:bC [ea,eb] X.env=[(false,eZ ea X.env),(false,eZ eb X.env)]:=by rfl)(hs2:bC [eb] X.env=[(false,eZ eb X.env)]:=by rfl) :
  PI X (.Tuple es k0 pt) (.Call (.Name "zip" p) [ea,eb] [] pos) (iZip2 ta):=by
 intro aQ s σ H R I h;refine Call_ (lV I hg hm boot_zip (fe (thn (ha pos aQ s σ H _ I h) fun us s1 ⟨vs,H1,I1,r1,q1⟩=>?_) (by rw [hs,hs2]) (by rw [hs2];rfl)));obtain ⟨c1,c2,xs,ys,e,h1,h2,q⟩:=q1;subst e;obtain ⟨u1,u2,rfl,r2,r3⟩:=vals2 r1;cases (show u1=ae.ref c1.a from r2);cases (show u2=ae.ref c2.a from r3);obtain ⟨_,_,p1⟩:=h1.at I1;obtain ⟨_,_,p2⟩:=h2.at I1;refine callType_new F.called_zip (by decide) (F.typeCall_zip_2 _ _) (F.newCall_zip_2 _ _) (fun obj=>F.args_object_init_3 obj _ _) F.entry_zip_new (zipS_new [c1,c2] (by show 2≤8;decide)) ⟨fun c hc=>?_,fun g Z=>⟨⟨_,Z.zip,rfl⟩,?_⟩⟩
 ·simp only [aL,dg,or_false] at hc
  rcases hc with rfl | rfl
  ·exact ⟨_,p1⟩
  ·exact ⟨_,p2⟩
 ·refine zip_walk (cs:=[c1,c2]) I1 (by show 2≤8;decide) (by show 0<2;decide) (fun c hc=>?_) q Z
  simp only [aL,dg,or_false] at hc
  rcases hc with rfl | rfl
  ·exact ⟨_,h1⟩
  ·exact ⟨_,h2⟩
end
theorem for_zip2 {c1 c2:Sq}{xs ys:List V}{g:TG}{tb:TS}{D:Ends}{σ:St}{H:Hp}(Pv:Nat→St→Hp→Prop)(h0:Pv 0 σ H)(hl:∀ i σ H,i≤xs.length→Pv i σ H→HSq H c1 xs∧HSq H c2 ys)(hxy:xs.length=ys.length)
  (hs:∀ i x y p σ H,xs[i]? =some x→ys[i]? =some y→Pv i σ H→H p=none→g (.ref p) σ (upd H p (.tup [x,y])) fun σ2 H2=>tb { D with nx:=Pv (i+1),ct:=Pv (i+1),bk:=D.nx } σ2 H2) (hd:∀ σ H,Pv xs.length σ H→D.nx σ H) :
  ∃ W:Nat→Nat→St→Hp→Prop,(∃ m,W 0 m σ H)∧∀ i m σ H,W i m σ H →
   ((Itq [c1,c2]).stop i H∧D.nx σ H)∨((Itq [c1,c2]).go i H∧∃ N:St→Hp→Prop,(∀ σ' H',N σ' H'→∃ m',m'<m∧W (i+1) m' σ' H')∧∀ x H',(Itq [c1,c2]).yld i H x H'→g x σ H' fun σ2 H2=>tb { D with nx:=N,ct:=N,bk:=D.nx } σ2 H2):=by
 refine ⟨fun i m σ H=>i≤xs.length∧m=xs.length - i∧Pv i σ H,⟨_,bI _,rfl,h0⟩,fun i m σ H ⟨hi,hm,hp⟩=>?_⟩;obtain ⟨qa,qb⟩:=hl i σ H hi hp
 by_cases e:i=xs.length
 ·subst e
  exact .inl ⟨⟨0,c1,xs,rfl,qa,aC _,fun n c _ hn=>pj hn (by omega)⟩,hd σ H hp⟩
 ·have hlt:i<xs.length:=iJ hi e
  have hlt2:i<ys.length:=by omega
  refine .inr ⟨⟨[xs[i],ys[i]],rfl,fun n c hc=>?_⟩,Pv (i+1),fun σ' H' hp'=>⟨xs.length - (i+1),by omega,by omega,rfl,hp'⟩,fun v H3 hy=>?_⟩
  ·match n,hc with
   | 0,hc=>cases hc;exact ⟨xs,xs[i],qa,gE hlt,rfl⟩
   | 1,hc=>cases hc;exact ⟨ys,ys[i],qb,gE hlt2,rfl⟩
   | n+2,hc=>simp at hc
  ·obtain ⟨p,vs,hn,rfl,rfl,lv,hx⟩:=hy
   match vs,lv,hx with
   | [x,y],_,hx=>exact hs i x y p σ H (hx 0 c1 x xs rfl qa rfl) (hx 1 c2 y ys rfl qb rfl) hp hn
section
variable {X:Cx}
end
theorem PE.cutV {X:Cx}{e:Expr}{t:TE}(h:PE X e t):PE X e (fun σ H Q=>∃ N:VK,(∀ v H',N v H'→Q v H')∧t σ H N):=fun aQ s σ H Q I ⟨N,i,q⟩ =>
 thn (h aQ s σ H N I q) fun u s' ⟨v,H',I',rv,q'⟩=>⟨v,H',I',rv,i _ _ q'⟩
section
variable {X:Cx}
end
end L2
local macro_rules
 | `(tactic|exists $s:term) => `(tactic|(show ∀ y:cg×PySem.NameKind,y∈_→y.2=PySem.NameKind.free→eJ y.1 (L2.defScope $s).names=some PySem.NameKind.cell;decide +kernel))
local macro_rules
 | `(tactic|trivial) => `(tactic|first|decide +kernel|exact ⟨rfl,rfl,rfl,by decide +kernel,rfl,by decide +kernel,by decide +kernel⟩|exact True.intro)
local macro_rules
 | `(tactic|contradiction) => `(tactic|(intro _ _ _ _ h;first | (cases h;subst_vars;rfl) | ((repeat (obtain ⟨_,h⟩:=h));subst_vars;rfl)))
namespace L2
open PySem PyProof.Rows
theorem ixZ {X:Cx}{a:Expr}{ta:TE}{p q:Pos}{i:Int}{j}(h:PE X a ta):PE X (.Subscript a (.Constant (.int i) j p) q) (tOp (rIxT X.K) ta (tC (.int i))):=eh eY h ba (fun _ _=>rfl)
theorem szZ1:1≤bc:=by decide
theorem l6:2≤bc:=by decide
theorem szZ4:4≤bc:=by decide
theorem szZ5:5≤bc:=by decide
end L2
namespace L2
abbrev pza:List cg:=["net"]
abbrev pzb:List cg:=["net","step"]
abbrev pzc:List cg:=["_law_pot_here","_law_most"]
abbrev pzd:List cg:=["_law_script","_law_k"]
abbrev pze:List cg:=["net","span"]
abbrev pzf:List cg:=["_law_net_here","_law_table"]
abbrev pzg:List cg:=["net","bounds","ring"]
abbrev pzh:List cg:=["net","spans","happening"]
abbrev pzi:List cg:=["net","case"]
abbrev pzj:List cg:=["_law_told"]
abbrev pzk:List cg:=["_law_pot_here","_law_times","_law_beat","_law_ends","_law_width","_law_kept"]
abbrev pzl:List cg:=["case","span"]
abbrev pzm:List cg:=["_law_net_here","_law_tree"]
abbrev pzn:List cg:=["_law_script","_law_most","_law_extras","_law_spoils"]
abbrev pzo:List cg:=["rings","span"]
abbrev pzp:List cg:=["bounds","span","low","high"]
abbrev pzq:List cg:=["beat","number"]
abbrev pzr:List cg:=["net","most"]
abbrev pzs:List cg:=["net","leaf_in"]
abbrev pzt:List cg:=["_law_net_here","_law_bounds","_law_tree","_law_deep"]
abbrev pzu:List cg:=["_law_net_here","_law_bounds","_law_tree"]
abbrev pzv:List cg:=["_law_cell","_law_k"]
abbrev pzw:List cg:=["_law_pot_here","_law_times","_law_beat","_law_k","_law_lim","_law_spoils"]
abbrev pzx:List cg:=["_law_pot_here","_law_times","_law_beat","_law_most","_law_spoils"]
abbrev pzy:List cg:=["_law_pot_here","_law_times","_law_beat","_law_hops"]
abbrev pzz:List cg:=["_law_script","_law_net_here","_law_times"]
abbrev pzA:List cg:=["bounds","way"]
abbrev pzB:List cg:=["net","spans","begin","end"]
abbrev pzC:List cg:=["self","case","span","at"]
abbrev pzD:List cg:=["net","steps","bounds"]
abbrev pzE:List cg:=["_law_net_here","_law_bounds","_law_ring"]
abbrev pzF:List cg:=["_law_net_here","_law_ring"]
end L2
namespace HN
open PySem L2 PyProof.Rows
theorem iteB {b:Bool}{A B:Prop}(h:b=true)(x:A):if b=true then A else B:=by rw [pf h];exact x
theorem jT {b:Bool}{A B:Prop}(h:b=false)(x:B):if b=true then A else B:=by rw [pe (by rw [h];exact bb)];exact x
structure Nm (mg:Str→Option ae):Prop where
 isin:mg "isinstance" =none
 tint:mg "int" =none
 tbool:mg "bool" =none
 ttup:mg "tuple" =none
 len:mg "len" =none
 min:mg "min" =none
 all:mg "all" =none
structure Fn (K:ak)(mg:Str→Option ae)(x:Str)(st:cV)(ps:List Str)(f:ao)(fd:bu):Prop where
 F:Fun K x x st f fd
 mg:mg x=some (.ref f)
 b:Binds K fd ps []
theorem pc1 {X:Cx}{k:Nat}{f:ao}{fd:bu}{ps:List Str}{sp:Sp}{x:Str}{st:cV}{p pos:Pos}{e:Expr}{es:List Expr}{t:TA}(G:Fn X.K X.mg x st ps f fd)(F:dN X.prog X.w X.K X.mg X.base CX0 k f fd ps sp)(hr:Room k X.A)
  (ha:PA X (e::es) t) (hg:Gl X x:=by rfl) (hdb:(x == ("__debug__" :Str))=false:=by decide) (he:bC (e::es) X.env=(false,eZ e X.env)::bC es X.env:=by rfl) (hpl:(gF pos (bC es X.env)).any (·.1)=false:=by rfl) :
  PE X (.Call (.Name x p) (e::es) [] pos) (tCall sp [] E0 t):=pe_call F hr hg G.mg G.F.kp G.b .nil pass0 ha hdb he hpl
theorem pe_gint {X:Cx}{x:Str}{i:Int}{pos:Pos}(hm:∃ t,X.mg x=some (.int i t))(hg:Gl X x:=by rfl)(hd:(x == ("__debug__" :Str))=false:=by decide):PE X (.Name x pos) (tC (.int i)) :=
 let ⟨t,e⟩:=hm;pe_glob (v:= .int i) (u:= .int i t) hg e ⟨t,rfl⟩ hd
theorem lN {X:Cx}{e:Expr}{te:TE}{p p2 pos:Pos}(N:Nm X.mg)(he:PE X e te)(hg:Gl X "isinstance" := by rfl)(hg2:Gl X "tuple" := by rfl)
  (hs1:bC [e,.Name "tuple" p2] X.env=(false,eZ e X.env)::bC [.Name "tuple" p2] X.env:=by rfl) (hpl:(gF pos (bC [.Name "tuple" p2] X.env)).any (·.1)=false:=by rfl) :
  PE X (.Call (.Name "isinstance" p) [e,.Name "tuple" p2] [] pos) (tCB (fun xs H Q=>∃ x T,xs=[x,.ty "tuple"]∧tyn H x=some T∧Q (.bl (T == "tuple")) H) (nj te (nj (tC (.ty "tuple")) tNil))) :=
 cG call_isTup hg N.isin boot_isinstance (ag he (ag (pe_bltn hg2 N.ttup jC rfl) az) hs1) (he:=hs1) (hpl:=hpl)
theorem pe_isInt {X:Cx}{e:Expr}{te:TE}{p p2 pos:Pos}(N:Nm X.mg)(he:PE X e te)(hg:Gl X "isinstance" := by rfl)(hg2:Gl X "int" := by rfl)
  (hs1:bC [e,.Name "int" p2] X.env=(false,eZ e X.env)::bC [.Name "int" p2] X.env:=by rfl) (hpl:(gF pos (bC [.Name "int" p2] X.env)).any (·.1)=false:=by rfl) :
  PE X (.Call (.Name "isinstance" p) [e,.Name "int" p2] [] pos) (tCB (fun xs H Q=>∃ x T,xs=[x,.ty "int"]∧tyn H x=some T∧Q (.bl (T == "int" || T == "bool")) H) (nj te (nj (tC (.ty "int")) tNil))) :=
 cG call_isInt hg N.isin boot_isinstance (ag he (ag (pe_bltn hg2 N.tint boot_int rfl) az) hs1) (he:=hs1) (hpl:=hpl)
theorem pe_isBool {X:Cx}{e:Expr}{te:TE}{p p2 pos:Pos}(N:Nm X.mg)(he:PE X e te)(hg:Gl X "isinstance" := by rfl)(hg2:Gl X "bool" := by rfl)
  (hs1:bC [e,.Name "bool" p2] X.env=(false,eZ e X.env)::bC [.Name "bool" p2] X.env:=by rfl) (hpl:(gF pos (bC [.Name "bool" p2] X.env)).any (·.1)=false:=by rfl) :
  PE X (.Call (.Name "isinstance" p) [e,.Name "bool" p2] [] pos) (tCB (fun xs H Q=>∃ x T,xs=[x,.ty "bool"]∧tyn H x=some T∧Q (.bl (T == "bool")) H) (nj te (nj (tC (.ty "bool")) tNil))) :=
 cG call_isBool hg N.isin boot_isinstance (ag he (ag (pe_bltn hg2 N.tbool boot_bool rfl) az) hs1) (he:=hs1) (hpl:=hpl)
structure Sn where
 s:Int
 g:Int
 l:Int
 o:Int
 w:Int
abbrev Sn.row (x:Sn):List Int:=[x.s,x.g,x.l,x.o,x.w]
abbrev ko (b m:Int)(sp:List Sn):Dt:= .tup [.int b,.int m,.tup (sp.map fun x=> .tup (x.row.map Dt.int))]
theorem gu {H:Hp}{v:V}{b m:Int}{sp:List Sn}(h:IsD H v (ko b m sp)):∃ t p ys,v= .ref t∧H t=some (.tup [.int b,.int m,.ref p])∧H p=some (.tup ys)∧ys.length=sp.length∧∀ (i:Nat) (x:Sn),sp[i]? =some x→∃ q,ys[i]? =some (.ref q)∧H q=some (.tup [.int x.s,.int x.g,.int x.l,.int x.o,.int x.w]):=by
 obtain ⟨t,xs,rfl,ht,rx⟩:=h.tup_of;cases rx with
 | cons h0 r0 =>
  cases r0 with
  | cons h1 r1 =>
   cases r1 with
   | cons h2 r2 =>
    cases r2;cases h0;cases h1;obtain ⟨p,ys,rfl,hp,ry⟩:=h2.tup_of;refine ⟨t,p,ys,rfl,ht,hp,by rw [ry.length,aa],fun i x hx=>?_⟩;obtain ⟨y,hy,dy⟩:=ry.at (i:=i) (d:= .tup (x.row.map Dt.int)) (by rw [ay,hx];rfl);obtain ⟨q,zs,rfl,hq,rz⟩:=dy.tup_of;have ez:=rz.ints_of;subst ez;exact ⟨q,hy,hq⟩
def tm (ts:List Int)(i:Int):Int:=ts.getD i.toNat 0
theorem ma {ts:List Int}{i:Int}(h0:0≤i)(h1:i<ts.length):atI (ts.map V.int) i=some (.int (tm ts i)):=by
 obtain ⟨j,rfl⟩:=cx h0;refine aO ?_;rw [ay,gE (by omega)];unfold tm;rw [dA,ai,gE (by omega)];rfl
structure Rdy (b:Int)(ts:List Int)(sp:List Sn):Prop where
 b1:0<b
 few:sp.length≤1000
 ends:∀ x∈sp,0≤x.s∧x.s<ts.length∧0≤x.g∧x.g<ts.length
def fU (b:Int)(ts:List Int)(x:Sn):Int:=(tm ts x.g - tm ts x.s - x.l) % b
def mZ (b:Int)(ts:List Int)(sp:List Sn):List Int:=sp.map (fU b ts)
def brk (b:Int)(ts:List Int)(x:Sn):Bool:=decide (x.o - x.l<fU b ts x)
def jd (b:Int)(ts:List Int)(sp:List Sn):Bool:= !(sp.any (brk b ts))
def waitOfM (b:Int)(ts:List Int)(sp:List Sn):Int:=(sp.map fun x=>x.w * fU b ts x).sum
theorem fb {n:Nat}(h:n≤1000):n≤bc:=bj h (by decide)
structure Nt (mg:Str→Option ae):Prop where
 range:mg "range" =none
 enum:mg "enumerate" =none
 zip:mg "zip" =none
 sum:mg "sum" =none
 tlist:mg "list" =none
 max:mg "max" =none
structure SnOk (b m:Int)(x:Sn):Prop where
 s0:0≤x.s
 s1:x.s<m
 g0:0≤x.g
 g1:x.g<m
 ne:x.s≠x.g
 l0:0≤x.l
 lo:x.l≤x.o
 ob:x.o<x.l+b
 o60:x.o<10 ^ 60
 w0:0≤x.w
 w1:x.w≤1000000000000
structure NetT (b m:Int)(sp:List Sn):Prop where
 b1:1≤b
 b2:b≤10 ^ 59
 m1:1≤m
 m2:m≤16
 few:sp.length≤40
 all:∀ x∈sp,SnOk b m x
theorem NetT.rdy {b m:Int}{sp:List Sn}{ts:List Int}(h:NetT b m sp)(ht:(ts.length:Int)=m):Rdy b ts sp :=
 ⟨by have:=h.b1;omega,by have:=h.few;omega,fun x hx=>by have:=h.all x hx;exact ⟨this.s0,by have:=this.s1;omega,this.g0,by have:=this.g1;omega⟩⟩
theorem rest_two (x y l b:Int):(x % b - y % b - l) % b=(x - y - l) % b:=by
 have hx:=gT x b;have hy:=gT y b;have e:x - y - l=(x % b - y % b - l)+b * (x / b - y / b):=by rw [Int.mul_sub];omega
 rw [e,jZ]
inductive spRest (vs:List V)(H:Hp)(Q:VK)(_:XK):Prop
 | mk (b n:_)(_:vs=[.int b,.int n])(_:0<b)(_:Q (.int (n % b)) H)
inductive spWidth (vs:List V)(H:Hp)(Q:VK)(_:XK):Prop
 | mk (v b m sp i x:_)(_:vs=[v,.int (i:Nat)])(_:IsD H v (ko b m sp))(_:sp[i]? =some x)(_:Q (.int (x.o - x.l)) H)
inductive spFits (vs:List V)(H:Hp)(Q:VK)(_:XK):Prop
 | mk (v u b m sp ts:_)(_:vs=[v,.ref u])(_:IsD H v (ko b m sp))(_:H u=some (.tup (ts.map V.int)))(_:Rdy b ts sp)(_:∀ H',Same H H'→Q (.bl (jd b ts sp)) H')
inductive spCell (K:ak)(vs:List V)(H:Hp)(Q:VK)(_:XK):Prop
 | mk (a:ao)(ns:List Int)(k:Int)(_:vs=[.ref a,.int k])(_:SqL K H a (ns.map V.int))(_:0≤k)(_:∀ c:Int,Q (.int c) H)
theorem atI_in {α:Type}{xs:List α}{r:Int}(h0:0≤r)(h1:r<xs.length):∃ v,atI xs r=some v∧v∈xs:=by
 obtain ⟨j,rfl⟩:=cx h0;have hj:j<xs.length:=by omega
 exact ⟨xs[j],aO (gE hj),bR hj⟩
theorem log_ok {m:Int}(h0:0<m)(h:m<10 ^ 61):0<m∧m.natAbs.log2<9000:=by
 refine ⟨h0,?_⟩;have h1:m.natAbs<2 ^ 300:=by
  have:(10:Nat) ^ 61<2 ^ 300:=by trivial
  have h2:m.natAbs<10 ^ 61:=by omega
  exact Nat.lt_trans h2 this
 have h3:m.natAbs≠0:=by omega
 have:=(Nat.log2_lt h3).mpr h1;omega
theorem goal_ok {s t m:Int}(h0:0≤s)(h1:s<m)(h2:0≤t)(h3:t<m - 1):0≤(s+1+t) % m∧(s+1+t) % m<m∧s≠(s+1+t) % m:=by
 have hm:0<m:=by omega
 have a:=cP (s+1+t) (by omega:m≠0);have b:=cE (s+1+t) hm;refine ⟨a,b,?_⟩
 by_cases q:s+1+t<m
 ·rw [iW (by omega) q];omega
 ·have e:(s+1+t) % m=(s+1+t - m) % m:=(Int.sub_emod_right _ _).symm
  rw [e,iW (by omega) (by omega)];omega
abbrev rowsP {α:Type}(f:α→List Int)(xs:List α):Dt:= .tup (xs.map fun x=> .tup ((f x).map Dt.int))
theorem iZ {α:Type}{f:α→List Int}{H:Hp}{xs:List α}{ys:List V}(r:IsDs H ys (xs.map fun x=> .tup ((f x).map Dt.int))){i:Nat}{x:α}(hx:xs[i]? =some x):∃ q,ys[i]? =some (.ref q)∧H q=some (.tup ((f x).map V.int)):=by
 obtain ⟨y,hy,dy⟩:=r.at (i:=i) (d:= .tup ((f x).map Dt.int)) (by rw [ay,hx];rfl);obtain ⟨q,zs,rfl,hq,rz⟩:=dy.tup_of;have ez:=rz.ints_of;subst ez;exact ⟨q,hy,hq⟩
theorem iL {α:Type}{f:α→List Int}{H:Hp}{v:V}{xs:List α}(h:IsD H v (rowsP f xs)):∃ p ys,v= .ref p∧H p=some (.tup ys)∧ys.length=xs.length∧IsDs H ys (xs.map fun x=> .tup ((f x).map Dt.int)):=by
 obtain ⟨p,ys,rfl,hp,ry⟩:=h.tup_of;exact ⟨p,ys,rfl,hp,by rw [ry.length,aa],ry⟩
structure Stp where
 i:Nat
 d:Int
abbrev Stp.row (s:Stp):List Int:=[(s.i:Int),s.d]
abbrev mY (ws:List Stp):Dt:=rowsP Stp.row ws
abbrev bndR (p:Int×Int):List Int:=[p.1,p.2]
abbrev bndP (bs:List (Int×Int)):Dt:=rowsP bndR bs
def frm (x:Sn)(d:Int):Int:=if d=1 then x.s else x.g
def too (x:Sn)(d:Int):Int:=if d=1 then x.g else x.s
def oJ (n:Nat)(ws:List Stp):Prop:=∀ s∈ws,s.i<n∧(s.d=1∨s.d= -1)
def kt (sp:List Sn)(s:Stp):Int:=match sp[s.i]? with | some x=>frm x s.d | none=>0
def eV (sp:List Sn)(s:Stp):Int:=match sp[s.i]? with | some x=>too x s.d | none=>0
def oF (bs:List (Int×Int))(s:Stp):Int:=match bs[s.i]? with | some p=>if s.d=1 then p.1 else -p.2 | none=>0
def jB (bs:List (Int×Int))(s:Stp):Int:=match bs[s.i]? with | some p=>if s.d=1 then p.2 else -p.1 | none=>0
def fk (bs:List (Int×Int))(ws:List Stp):Int:=(ws.map (oF bs)).sum
def gg (bs:List (Int×Int))(ws:List Stp):Int:=(ws.map (jB bs)).sum
theorem atI_last {α:Type}{xs:List α}{x:α}(h:xs[xs.length - 1]? =some x):atI xs (-1)=some x:=by
 have hl:xs.length - 1<xs.length:=(av.mp h).1;unfold atI ixN;rw [pe (by decide),pf (by omega)];show xs[(-1+(xs.length:Int)).toNat]? =some x;rw [show (-1+(xs.length:Int)).toNat=xs.length - 1 by omega];exact h
inductive spFrom (vs:List V)(H:Hp)(Q:VK)(_:XK):Prop
 | mk (v:V)(q:ao)(b m:Int)(sp:List Sn)(s:Stp)(x:Sn)(_:vs=[v,.ref q])(_:IsD H v (ko b m sp))(_:H q=some (.tup (s.row.map V.int)))(_:sp[s.i]? =some x)(_:Q (.int (frm x s.d)) H)
inductive spTo (vs:List V)(H:Hp)(Q:VK)(_:XK):Prop
 | mk (v:V)(q:ao)(b m:Int)(sp:List Sn)(s:Stp)(x:Sn)(_:vs=[v,.ref q])(_:IsD H v (ko b m sp))(_:H q=some (.tup (s.row.map V.int)))(_:sp[s.i]? =some x)(_:Q (.int (too x s.d)) H)
inductive spFirst (vs:List V)(H:Hp)(Q:VK)(_:XK):Prop
 | mk (v:V)(b m:Int)(sp:List Sn)(_:vs=[v])(_:IsD H v (ko b m sp))(_:sp.length≤1000)(_:∀ u H',Same H H'→IsD H' u (bndP (sp.map fun x=>(x.l,x.o)))→Q u H')
inductive spSum (vs:List V)(H:Hp)(Q:VK)(_:XK):Prop
 | mk (vb vw:V)(bs:List (Int×Int))(ws:List Stp)(_:vs=[vb,vw])(_:IsD H vb (bndP bs))(_:IsD H vw (mY ws))(_:oJ bs.length ws)(_:∀ p H',Same H H'→H' p=some (.tup [.int (fk bs ws),.int (gg bs ws)])→Q (.ref p) H')
inductive spWholeL (vs:List V)(H:Hp)(Q:VK)(_:XK):Prop
 | mk (i:_)(_:vs=[.int i])(_:Q (.bl true) H)
abbrev cY {α:Type}(f:α→List Int)(xs:List α):List Dt:=xs.map fun x=> .tup ((f x).map Dt.int)
structure N3 (mg:Str→Option ae):Prop where
 tset:mg "set" =none
def mO (ss:List Stp):List Int:=ss.map fun s=>(s.i:Int)
theorem numsS_take {ss:List Stp}{i:Nat}(h:i<ss.length):mO (ss.take (i+1))=mO (ss.take i)++[(ss[i].i:Int)]:=by
 unfold mO;rw [bt,gE h,aA];rfl
def TupK (H H':Hp):Prop:=∀ q xs,H q=some (.tup xs)→H' q=some (.tup xs)
theorem TupK.trans {H H1 H2:Hp}(a:TupK H H1)(b:TupK H1 H2):TupK H H2:=fun q xs h=>b q xs (a q xs h)
theorem Same.tupK {H H':Hp}(e:Same H H'):TupK H H':=fun _ _ h=>e _ _ h
theorem eM {H:Hp}{p:ao}{xs:List V}{o:HO}(hp:H p=some (.lst xs)):TupK H (upd H p o):=fun q ys h=>by rw [bf (ie h hp nofun)];exact h
theorem bT {α:Type}{f:α→List Int}{H H':Hp}(e:TupK H H'):∀ {xs:List α} {zs:List V},IsDs H zs (cY f xs)→IsDs H' zs (cY f xs)
 | [],_,h=>by cases h;exact .nil
 | x::xs,zs,h=>by
  unfold cY at h ⊢;rw [bV] at h ⊢;cases h with
  | cons h1 h2 =>
   obtain ⟨q,ws,rfl,hq,rw'⟩:=h1.tup_of;have e2:=rw'.ints_of;subst e2;exact .cons (.tup (e q _ hq) (IsDs.ints _)) (bT e h2)
def upB (b s:Int):Int:= -(-s / b)
inductive spBeats (vs:List V)(H:Hp)(Q:VK)(_:XK):Prop
 | mk (vn vb vw:V)(b m:Int)(sp:List Sn)(bs:List (Int×Int))(ws:List Stp)(_:vs=[vn,vb,vw])(_:IsD H vn (ko b m sp))(_:0<b)(_:b<10 ^ 61)(_:IsD H vb (bndP bs))(_:IsD H vw (mY ws))(_:oJ bs.length ws)(_:∀ p H',Same H H'→H' p=some (.tup [.int (upB b (fk bs ws)),.int (gg bs ws / b)])→Q (.ref p) H')
inductive Lf where
 | ring (ws:List Stp)
 | price (rows:List (Int×List Stp))
abbrev rowD (r:Int×List Stp):Dt:= .tup [.int r.1,mY r.2]
def leafP:Lf→Dt
 | .ring ws=> .tup [.str "ring",mY ws]
 | .price rows=> .tup [.str "price",.tup (rows.map rowD)]
def i5 (b:Int)(bs:List (Int×Int))(ws:List Stp):Bool:=decide (upB b (fk bs ws) > gg bs ws / b)
def sureB (b:Int)(bs:List (Int×Int))(ws:List Stp):Bool:=decide (upB b (fk bs ws)=gg bs ws / b)
inductive spDead (vs:List V)(H:Hp)(Q:VK)(_:XK):Prop
 | mk (vn vb vw:V)(b m:Int)(sp:List Sn)(bs:List (Int×Int))(ws:List Stp)(_:vs=[vn,vb,vw])(_:IsD H vn (ko b m sp))(_:0<b)(_:b<10 ^ 61)(_:IsD H vb (bndP bs))(_:IsD H vw (mY ws))(_:oJ bs.length ws)(_:∀ H',Same H H'→Q (.bl (i5 b bs ws)) H')
theorem IsDs.takeN {H:Hp}:∀ {xs:List V} {ds:List Dt} (n:Nat),IsDs H xs ds→IsDs H (xs.take n) (ds.take n)
 | _,_,0,_=> .nil
 | _,_,_+1,.nil=> .nil
 | _,_,n+1,.cons h r=> .cons h (IsDs.takeN n r)
theorem IsDs.dropN {H:Hp}:∀ {xs:List V} {ds:List Dt} (n:Nat),IsDs H xs ds→IsDs H (xs.drop n) (ds.drop n)
 | _,_,0,h=>h
 | _,_,_+1,.nil=> .nil
 | _,_,n+1,.cons _ r=>IsDs.dropN n r
def Along (sp:List Sn):Int→List Stp→Int→Prop
 | x,[],y=>x=y
 | x,s::ws,y=>kt sp s=x∧Along sp (eV sp s) ws y
theorem Along.append {sp:List Sn}:∀ {us:List Stp} {x y z:Int} {vs:List Stp},Along sp x us y→Along sp y vs z→Along sp x (us++vs) z
 | [],_,_,_,_,h,k=>by cases h;exact k
 | _::us,_,_,_,_,h,k=>⟨h.1,Along.append (us:=us) h.2 k⟩
theorem lh {sp:List Sn}{j:Nat}{d:Int}(h:j<sp.length):kt sp ⟨j,d⟩=frm sp[j] d:=by
 unfold kt;show (match sp[j]? with | some x=>frm x d | none=>0)=_;rw [gE h]
theorem j5 {sp:List Sn}{j:Nat}{d:Int}(h:j<sp.length):eV sp ⟨j,d⟩=too sp[j] d:=by
 unfold eV;show (match sp[j]? with | some x=>too x d | none=>0)=_;rw [gE h]
theorem ends_of_span {sp:List Sn}{st:Stp}{j:Nat}{d:Int}(h:j<sp.length)(e:st.i=j)(hs:st.d=1∨st.d= -1)(hd:d=1∨d= -1):eV sp st=eV sp ⟨j,d⟩∨kt sp st=eV sp ⟨j,d⟩:=by
 obtain ⟨i,dd⟩:=st;have e:i=j:=e;subst e;have hs:dd=1∨dd= -1:=hs;rw [j5 h,j5 h,lh h];unfold too frm
 rcases hs with rfl | rfl <;> rcases hd with rfl | rfl <;> simp
structure Bk (sp:List Sn)(be ou:Int)(x:Int)(ws:List Stp):Prop where
 inn:oJ sp.length ws
 alo:Along sp be ws x
 one:(ws.map Stp.i).Nodup
 out:∀ s∈ws,(s.i:Int)≠ou
structure Rg (sp:List Sn)(ws:List Stp):Prop where
 inn:oJ sp.length ws
 two:2≤ws.length
 few:ws.length≤17
 one:(ws.map Stp.i).Nodup
 rnd:∃ x,Along sp x ws x
theorem Bk.ring {sp:List Sn}{k:Nat}{ws:List Stp}(hk:k<sp.length)(hne:sp[k].s≠sp[k].g)(h:Bk sp sp[k].g (k:Nat) sp[k].s ws)(hl:ws.length≤16):Rg sp (⟨k,1⟩::ws):=by
 refine ⟨fun s hs=>?_,?_,by rw [aV];omega,?_,sp[k].s,?_,?_⟩
 ·rcases aL.mp hs with rfl | hs
  ·exact ⟨hk,.inl rfl⟩
  ·exact h.inn s hs
 ·cases ws with
  | nil=>exact pj h.alo.symm hne
  | cons a r=>rw [aV,aV];omega
 ·rw [bV,bB]
  refine ⟨fun z=>?_,h.one⟩;obtain ⟨st,hst,e⟩:=bh.mp z;exact h.out st hst (by rw [e])
 ·rw [lh hk];rfl
 ·rw [j5 hk];exact h.alo
inductive spWithB (vs:List V)(H:Hp)(Q:VK)(_:XK):Prop
 | mk (vb:V)(k:Nat)(lo hi:Int)(bs:List (Int×Int))(_:vs=[vb,.int (k:Nat),.int lo,.int hi])(_:IsD H vb (bndP bs))(_:k<bs.length)(_:bs.length≤40)(_:∀ u H',Same H H'→IsD H' u (bndP (bs.set k (lo,hi)))→Q u H')
inductive Tq where
 | leaf (d:Dt)
 | cut (k:Nat) (a:Int) (x y:Tq)
def jA:Tq→Dt
 | .leaf d=>d
 | .cut k a x y=> .tup [.str "cut",.int (k:Nat),.int a,jA x,jA y]
def kx (bs:List (Int×Int))(k:Nat)(a:Int):List (Int×Int):=bs.set k ((bs.getD k (0,0)).1,a)
def eU (bs:List (Int×Int))(k:Nat)(a:Int):List (Int×Int):=bs.set k (a+1,(bs.getD k (0,0)).2)
theorem one_len (bs:List (Int×Int))(k:Nat)(a:Int):(kx bs k a).length=bs.length:=by unfold kx;rw [fu]
theorem other_len (bs:List (Int×Int))(k:Nat)(a:Int):(eU bs k a).length=bs.length:=by unfold eU;rw [fu]
theorem getD_all (ns:List Int):((aP ns.length).map fun i=>ns.getD i 0)=ns:=by
 refine List.ext_getElem (by rw [aa,bo]) fun i h1 h2=>?_
 rw [ic,iH,ai,gE h2];rfl
theorem met_eq (ns:List Int):metL ns=ns.foldl step_dedup []:=by
 unfold metL firstMet;rw [getD_all]
theorem fold_new:∀ (ns acc:List Int),ns.Nodup→(∀ x∈ns,x ∉ acc)→ns.foldl step_dedup acc=acc++ns
 | [],acc,_,_=>by simp
 | x::ns,acc,hn,h=>by
  obtain ⟨h1,h2⟩:=bB.mp hn;have e:step_dedup acc x=acc++[x]:=by
   unfold step_dedup;have:¬ (acc.any (· == x))=true:=by
    intro z;obtain ⟨y,hy,e⟩:=List.any_eq_true.mp z;have e:y=x:=by simpa using e
    exact h x (by simp) (e ▸ hy)
   rw [pe this]
  rw [bQ,e,fold_new ns (acc++[x]) h2 fun y hy z=>?_]
  ·simp
  ·rcases aM.mp z with z | z
   ·exact h y (ax _ hy) z
   ·rw [aw.mp z] at hy;exact h1 hy
theorem met_nodup {ns:List Int}(h:ns.Nodup):(metL ns).length=ns.length:=by
 rw [met_eq,fold_new ns [] h (fun _ _ z=>pj z (by simp)),List.nil_append]
end HN
namespace L2
open PySem PyProof.Rows HN
mutual
theorem IsD.keepP {H H':Hp}(e:TupK H H'):∀ {v:V} {d:Dt},IsD H v d→pl d=true→IsD H' v d
 | _,_,.non,_=> .non
 | _,_,.bl b,_=> .bl b
 | _,_,.int i,_=> .int i
 | _,_,.str x,_=> .str x
 | _,_,.tup h r,p=> .tup (e _ _ h) (IsDs.keepP e r (by unfold pl at p;exact p))
 | _,_,.lst h,p=>by unfold pl at p;cases p
 | _,_,.dct h,p=>by unfold pl at p;cases p
theorem IsDs.keepP {H H':Hp}(e:TupK H H'):∀ {xs:List V} {ds:List Dt},IsDs H xs ds→pls ds=true→IsDs H' xs ds
 | _,_,.nil,_=> .nil
 | _,_,.cons h r,p=>by
  unfold pls at p;rw [dt] at p;exact .cons (IsD.keepP e h p.1) (IsDs.keepP e r p.2)
end
end L2
namespace HN
open PySem L2 PyProof.Rows
theorem k6 {α:Type}{f:α→Dt}:∀ (xs:List α),(∀ x∈xs,pl (f x)=true)→pls (xs.map f)=true
 | [],_=>by show pls []=true;unfold pls;rfl
 | x::xs,h=>by
  show pls (f x::xs.map f)=true;unfold pls;rw [h x (by simp),k6 xs fun y hy=>h y (ax _ hy)];rfl
theorem pl_ints (ns:List Int):pl (.tup (ns.map Dt.int))=true:=by
 unfold pl;exact k6 ns fun x _=>by unfold pl;rfl
theorem nV {α:Type}(f:α→List Int)(xs:List α):pl (rowsP f xs)=true:=by
 unfold rowsP;unfold pl;exact k6 xs fun x _=>pl_ints (f x)
def RowOk (b:Int)(sp:List Sn)(bs:List (Int×Int))(r:Int×List Stp):Prop:=Rg sp r.2∧sureB b bs r.2=true∧ -1000000000000≤r.1∧r.1≤1000000000000
def LfOk (b:Int)(sp:List Sn)(bs:List (Int×Int)):Lf→Prop
 | .ring ws=>Rg sp ws∧i5 b bs ws=true
 | .price rows=>rows.length≤40∧∀ r∈rows,RowOk b sp bs r
theorem cU {H H':Hp}{v:V}{b m:Int}{sp:List Sn}(e:TupK H H')(h:IsD H v (ko b m sp)):IsD H' v (ko b m sp):=by
 obtain ⟨t,xs,rfl,ht,rx⟩:=h.tup_of;cases rx with
 | cons h0 r0 =>
  cases r0 with
  | cons h1 r1 =>
   cases r1 with
   | cons h2 r2 =>
    cases r2;cases h0;cases h1;obtain ⟨p,ys,rfl,hp,ry⟩:=h2.tup_of;exact .tup (e _ _ ht) (.cons (.int _) (.cons (.int _) (.cons (.tup (e _ _ hp) (bT (f:=Sn.row) (xs:=sp) e ry)) .nil)))
inductive spWaitsN (vs:List V)(H:Hp)(Q:VK)(_:XK):Prop
 | mk (v:V)(u:ao)(b m:Int)(sp:List Sn)(ts:List Int)(_:vs=[v,.ref u])(_:IsD H v (ko b m sp))(_:H u=some (.tup (ts.map V.int)))(_:Rdy b ts sp)(_:∀ p H',Same H H'→H' p=some (.lst ((mZ b ts sp).map V.int))→Q (.ref p) H')
def sideS (k:Int)(x:Sn):Sn:=⟨x.s+k,x.g+k,x.l,x.o,x.w⟩
theorem Rdy.side {b k:Int}{t1 t2:List Int}{sp1 sp2:List Sn}(hk:(t1.length:Int)=k)(R1:Rdy b t1 sp1)(R2:Rdy b t2 sp2)(few:sp1.length+sp2.length≤1000):Rdy b (t1++t2) (sp1++sp2.map (sideS k)) :=
 ⟨R1.b1,by rw [aq,aa];exact few,fun x hx=>by
  rw [aq]
  rcases aM.mp hx with hx | hx
  ·obtain ⟨s0,s1,g0,g1⟩:=R1.ends x hx
   exact ⟨s0,by omega,g0,by omega⟩
  ·obtain ⟨y,hy,rfl⟩:=bh.mp hx
   obtain ⟨s0,s1,g0,g1⟩:=R2.ends y hy;show 0≤y.s+k∧y.s+k<((t1.length+t2.length:Nat):Int)∧0≤y.g+k∧y.g+k<((t1.length+t2.length:Nat):Int);omega⟩
structure Sides (b m1 m2:Int)(sp1 sp2:List Sn):Prop where
 N1:NetT b m1 sp1
 N2:NetT b m2 sp2
 m:m1+m2≤16
 few:sp1.length+sp2.length≤40
def TabsL (H:Hp)(b m:Int)(us:List V):Prop:=∀ u∈us,∃ (q:ao) (ts:List Int),u= .ref q∧H q=some (.tup (ts.map V.int))∧(ts.length:Int)=m
theorem TabsL.same {H H':Hp}{b m:Int}{us:List V}(h:TabsL H b m us)(e:Same H H'):TabsL H' b m us:=fun u hu=>let ⟨q,ts,a,c,d⟩:=h u hu;⟨q,ts,a,e _ _ c,d⟩
theorem netP_rows {H:Hp}{v:V}{b m:Int}{sp:List Sn}(h:IsD H v (ko b m sp)):∃ t p ys,v= .ref t∧H t=some (.tup [.int b,.int m,.ref p])∧H p=some (.tup ys)∧IsDs H ys (cY Sn.row sp):=by
 obtain ⟨t,xs,rfl,ht,rx⟩:=h.tup_of;cases rx with
 | cons h0 r0 =>
  cases r0 with
  | cons h1 r1 =>
   cases r1 with
   | cons h2 r2 =>
    cases r2;cases h0;cases h1;obtain ⟨p,ys,rfl,hp,ry⟩:=h2.tup_of;exact ⟨t,p,ys,rfl,ht,hp,ry⟩
def strS (n:Int)(x:Sn):Sn:=⟨x.s,x.g,x.l * n,x.o * n,x.w⟩
def strT (n:Int)(ts:List Int):List Int:=ts.map fun t=>t * n
theorem strT_len (n:Int)(ts:List Int):(strT n ts).length=ts.length:=by unfold strT;rw [aa]
theorem Rdy.str {b n:Int}{ts:List Int}{sp:List Sn}(R:Rdy b ts sp)(hn:0<n):Rdy (b * n) (strT n ts) (sp.map (strS n)) :=
 ⟨Int.mul_pos R.b1 hn,by rw [aa];exact R.few,fun x hx=>by
  obtain ⟨y,hy,rfl⟩:=bh.mp hx;rw [strT_len];exact R.ends y hy⟩
end HN
namespace L2
open PySem PySem.W PyProof.Rows
def Gd {α:Type}(lt:Nat→Nat→Bool)(n:Nat):KasT α→(α→Prop)→Prop
 | .ret a,P=>P a
 | .ask i j k,P=>i<n∧j<n∧Gd lt n (k (lt i j)) P
theorem Gd.mono {α:Type}{lt:Nat→Nat→Bool}{n:Nat}{P R:α→Prop}(h:∀ a,P a→R a):∀ {t:KasT α},Gd lt n t P→Gd lt n t R
 | .ret a,g=>h a g
 | .ask _ _ _,g=>⟨g.1,g.2.1,Gd.mono h g.2.2⟩
theorem Gd.bind {α β:Type}{lt:Nat→Nat→Bool}{n:Nat}{f:α→KasT β}{P:β→Prop}:∀ {t:KasT α},Gd lt n t (fun a=>Gd lt n (f a) P)→Gd lt n (t.bind f) P
 | .ret _,g=>g
 | .ask _ _ _,g=>⟨g.1,g.2.1,Gd.bind g.2.2⟩
theorem Gd.wp {α:Type}{lt:Nat→Nat→Bool}{n:Nat}{P:α→Prop}{cmp:Nat→Nat→(Bool→ar→Prop)→ar→Prop}{Q:α→ar→Prop}{s:ar}(hc:∀ i j C,i<n→j<n→C (lt i j) s→cmp i j C s)(hq:∀ a,P a→Q a s):∀ {t:KasT α},Gd lt n t P→t.kasWp cmp Q s
 | .ret a,g=>hq a g
 | .ask i j k,g=>hc i j _ g.1 g.2.1 (Gd.wp hc hq g.2.2)
structure Ord (lt:Nat→Nat→Bool)(n:Nat):Prop where
 tot:∀ i j,i<n→j<n→i≠j→lt i j=false→lt j i=true
 tr:∀ i j k,lt i j=true→lt j k=true→lt i k=true
abbrev gA (p:Array Nat)(i:Nat):Nat:=p.getD i 0
abbrev Pm (n:Nat)(p:Array Nat):Prop:=p.toList.Perm (aP n)
theorem kK {p:Array Nat}{i:Nat}:gA p i=p[i]?.getD 0:=by
 show p.getD i 0=_;rw [Array.getD_eq_getD_getElem?]
theorem Pm.size {n:Nat}{p:Array Nat}(h:Pm n p):p.size=n:=by
 have:=h.length_eq;rw [bo,cJ] at this;exact this
theorem Pm.lt {n:Nat}{p:Array Nat}(h:Pm n p){i:Nat}(hi:i<n):gA p i<n:=by
 have hs:i<p.size:=by rw [h.size];exact hi
 have e:gA p i=p[i]:=by rw [kK,d7 hs];rfl
 rw [e];have:p[i]∈p.toList:=by simp
 exact bP.mp (h.mem_iff.mp this)
theorem Pm.ne {n:Nat}{p:Array Nat}(h:Pm n p){i j:Nat}(hij:i<j)(hj:j<n):gA p i≠gA p j:=by
 have hd:p.toList.Nodup:=h.nodup_iff.mpr ib;have si:i<p.toList.length:=by rw [cJ,h.size];omega
 have sj:j<p.toList.length:=by rw [cJ,h.size];omega
 have ei:gA p i=p.toList[i]:=by rw [kK,d7 (by rw [h.size];omega)];simp
 have ej:gA p j=p.toList[j]:=by rw [kK,d7 (by rw [h.size];omega)];simp
 rw [ei,ej];exact List.pairwise_iff_getElem.mp (cb.mp hd) i j si sj hij
theorem Pm.of {n:Nat}{p q:Array Nat}(h:Pm n p)(e:q.Perm p):Pm n q:=(Array.perm_iff_toList_perm.mp e).trans h
def SoA (lt:Nat→Nat→Bool)(p:Array Nat)(m:Nat):Prop:=∀ i j,i<j→j<m→lt (gA p i) (gA p j)=true
def DeA (lt:Nat→Nat→Bool)(p:Array Nat)(m:Nat):Prop:=∀ i j,i<j→j<m→lt (gA p j) (gA p i)=true
section
variable {lt:Nat→Nat→Bool} {n:Nat}
theorem SoA.more {p:Array Nat}{m:Nat}(O:Ord lt n)(h:SoA lt p m)(h1:lt (gA p (m - 1)) (gA p m)=true):SoA lt p (m+1):=fun i j hij hj=>by
 by_cases e:j<m
 ·exact h i j hij e
 ·have ej:j=m:=by omega
  rw [ej]
  by_cases ei:i=m - 1
  ·rw [ei];exact h1
  ·exact O.tr _ _ _ (h i (m - 1) (by omega) (by omega)) h1
theorem DeA.more {p:Array Nat}{m:Nat}(O:Ord lt n)(h:DeA lt p m)(h1:lt (gA p m) (gA p (m - 1))=true):DeA lt p (m+1):=fun i j hij hj=>by
 by_cases e:j<m
 ·exact h i j hij e
 ·have ej:j=m:=by omega
  rw [ej]
  by_cases ei:i=m - 1
  ·rw [ei];exact h1
  ·exact O.tr _ _ _ h1 (h i (m - 1) (by omega) (by omega))
theorem asc_ok (O:Ord lt n){p:Array Nat}(hp:Pm n p):∀ (f m:Nat),1≤m→m+f=n→SoA lt p m→Gd lt n (kas_asc p f m) (fun r=>m≤r∧r≤n∧SoA lt p r∧(r<n→lt (gA p r) (gA p (r - 1))=true))
 | 0,m,_,h1,hs=>⟨aC _,by omega,hs,fun z=>pj z (by omega)⟩
 | f+1,m,h0,h1,hs=>by
  refine ⟨hp.lt (by omega),hp.lt (by omega),?_⟩;cases c:lt (gA p m) (gA p (m - 1)) with
  | true =>
   exact ⟨aC _,by omega,hs,fun _=>c⟩
  | false =>
   have h2:=O.tot _ _ (hp.lt (by omega)) (hp.lt (by omega)) (hp.ne (by omega:m - 1<m) (by omega)).symm c;refine (asc_ok O hp f (m+1) (by omega) (by omega) (hs.more O h2)).mono fun r ⟨a,b,cc,d⟩=>⟨by omega,b,cc,d⟩
theorem desc_ok (O:Ord lt n){p:Array Nat}(hp:Pm n p):∀ (f m:Nat),1≤m→m+f=n→DeA lt p m→Gd lt n (kas_desc f p m 0) (fun r=>r.1=p∧r.2.2=0∧m≤r.2.1∧r.2.1≤n∧DeA lt p r.2.1)
 | 0,m,_,h1,hs=>⟨rfl,rfl,aC _,by show m≤n;omega,hs⟩
 | f+1,m,h0,h1,hs=>by
  refine ⟨hp.lt (by omega),hp.lt (by omega),?_⟩;cases c:lt (gA p m) (gA p (m - 1)) with
  | true =>
   refine (desc_ok O hp f (m+1) (by omega) (by omega) (hs.more O c)).mono fun r ⟨a,b,cc,d,e⟩=>⟨a,b,by omega,d,e⟩
  | false =>
   have h2:=O.tot _ _ (hp.lt (by omega)) (hp.lt (by omega)) (hp.ne (by omega:m - 1<m) (by omega)).symm c;refine ⟨hp.lt (by omega),hp.lt (by omega),?_⟩;show Gd lt n (if (lt (gA p (m - 1)) (gA p m))=true then KasT.ret (p,m,0) else kas_desc f p (m+1) (0+1)) _;rw [pf h2];exact ⟨rfl,rfl,aC _,by show m≤n;omega,hs⟩
theorem rev_ok {p:Array Nat}(hp:Pm n p){m:Nat}(hm:m≤n):Pm n (kas_rev p 0 m):=hp.of (mirror_perm _ _ _ _)
theorem rev_so {p:Array Nat}(hp:Pm n p){m:Nat}(hm:m≤n)(h:DeA lt p m):SoA lt (kas_rev p 0 m) m:=fun i j hij hj=>by
 have e:∀ k,k<m→gA (kas_rev p 0 m) k=gA p (m - 1 - k):=fun k hk=>by
  rw [kK,kK];have:=getElem?_mirror_all (xs:=p) (i:=0) (j:=m) (by rw [hp.size];exact hm) k;unfold kas_rev;rw [this,pf ⟨bI _,hk⟩];congr 2;omega
 rw [e i (by omega),e j hj];exact h _ _ (by omega) (by omega)
theorem tail_ok (O:Ord lt n){p:Array Nat}(hp:Pm n p){m:Nat}(h1:1≤m)(hm:m≤n)(h:DeA lt p m):Gd lt n (kas_tail3 m n p) (fun r=>Pm n r.2∧1≤r.1∧r.1≤n∧SoA lt r.2 r.1):=by
 unfold kas_tail3;refine Gd.bind ((asc_ok O (rev_ok hp hm) (n - m) m h1 (by omega) (rev_so hp hm h)).mono fun r ⟨a,b,c,_⟩=>?_);exact ⟨rev_ok hp hm,by show 1≤r;omega,b,c⟩
theorem count_ok (O:Ord lt n)(h1:1≤n){p:Array Nat}(hp:Pm n p):Gd lt n (kas_count n p) (fun r=>Pm n r.2∧1≤r.1∧r.1≤n∧SoA lt r.2 r.1):=by
 unfold kas_count;refine Gd.bind ((asc_ok O hp (n - 1) 1 (aC _) (by omega) (fun i j a b=>pj a (by omega))).mono fun r ⟨a,b,c,d⟩=>?_)
 by_cases e:r=n
 ·rw [pf (by rw [e];exact beq_self_eq_true n)]
  exact ⟨hp,a,b,c⟩
 ·rw [pe (by rw [beq_iff_eq];exact e)]
  by_cases e2:r > 1
  ·rw [pf e2]
   refine ⟨hp.lt (by omega),hp.lt (by omega),?_⟩;show Gd lt n (if (lt (gA p 0) (gA p (r - 1)))=true then KasT.ret (r,p) else _) _;rw [pf (c 0 (r - 1) (by omega) (by omega))];exact ⟨hp,a,b,c⟩
  ·rw [pe e2]
   have er:r=1:=by omega
   subst er;have hn:1<n:=by omega
   have dd:=d hn;unfold kas_descPart;refine Gd.bind ((desc_ok O hp (n - (1+1)) (1+1) (by omega) (by omega) (fun i j x y=>by
    have ei:i=0:=by omega
    have ej:j=1:=by omega
    rw [ei,ej];exact dd)).mono fun q ⟨q1,q2,q3,q4,q5⟩=>?_)
   rw [pe (by rw [q2];omega),q1];exact tail_ok O hp (by omega) q4 q5
theorem place_ok (O:Ord lt n){p:Array Nat}(hp:Pm n p){k:Nat}(hk:k<n)(hs:SoA lt p k):∀ (f l r:Nat),l≤r→r≤k→r - l≤f→(∀ i,i<l→lt (gA p i) (gA p k)=true)→(∀ i,r≤i→i<k→lt (gA p k) (gA p i)=true)→Gd lt n (kas_place p k f l r) (fun m=>m≤k∧(∀ i,i<m→lt (gA p i) (gA p k)=true)∧∀ i,m≤i→i<k→lt (gA p k) (gA p i)=true)
 | 0,l,r,h1,h2,h3,a,b=>⟨by omega,a,fun i x y=>b i (by omega) y⟩
 | f+1,l,r,h1,h2,h3,a,b=>by
  show Gd lt n (if l ≥ r then KasT.ret l else KasT.ask (gA p k) (gA p ((l+r) / 2)) fun c=>if c=true then kas_place p k f l ((l+r) / 2) else kas_place p k f ((l+r) / 2+1) r) _
  by_cases e:l ≥ r
  ·rw [pf e]
   exact ⟨by omega,a,fun i x y=>b i (by omega) y⟩
  ·rw [pe e]
   refine ⟨hp.lt hk,hp.lt (by omega),?_⟩;cases c:lt (gA p k) (gA p ((l+r) / 2)) with
   | true =>
    refine place_ok O hp hk hs f l ((l+r) / 2) (by omega) (by omega) (by omega) a fun i x y=>?_
    by_cases ei:i=(l+r) / 2
    ·rw [ei];exact c
    ·exact O.tr _ _ _ c (hs _ _ (by omega) y)
   | false =>
    have h5:=O.tot _ _ (hp.lt hk) (hp.lt (by omega)) (hp.ne (by omega:(l+r) / 2<k) hk).symm c;refine place_ok O hp hk hs f ((l+r) / 2+1) r (by omega) h2 (by omega) (fun i x=>?_) b
    by_cases ei:i=(l+r) / 2
    ·rw [ei];exact h5
    ·exact O.tr _ _ _ (hs i _ (by omega:i<(l+r) / 2) (by omega)) h5
theorem bub_so (O:Ord lt n){p:Array Nat}(hp:Pm n p){k m:Nat}(hk:k<n)(hm:m≤k)(hs:SoA lt p k)(a:∀ i,i<m→lt (gA p i) (gA p k)=true)(b:∀ i,m≤i→i<k→lt (gA p k) (gA p i)=true):SoA lt (bubble p k (k - m)) (k+1):=fun i j hij hj=>by
 have e:∀ x,gA (bubble p k (k - m)) x=if x=m then gA p k else if m<x∧x≤k then gA p (x - 1) else gA p x:=fun x=>by
  have:=getElem?_bubble (xs:=p) (src:=k) (by rw [hp.size];exact hk) (k - m) (by omega) x;have e0:k - (k - m)=m:=by omega
  rw [e0] at this;rw [kK,this]
  by_cases h1:x=m
  ·rw [pf h1,pf h1,kK]
  ·rw [pe h1,pe h1]
   by_cases h2:m<x∧x≤k
   ·rw [pf h2,pf h2,kK]
   ·rw [pe h2,pe h2,kK]
 rw [e i,e j]
 by_cases i1:i=m
 ·rw [pf i1,pe (by omega),pf (by omega)]
  exact b _ (by omega) (by omega)
 ·rw [pe i1]
  by_cases i2:m<i∧i≤k
  ·rw [pf i2,pe (by omega),pf (by omega)]
   exact hs _ _ (by omega) (by omega)
  ·rw [pe i2]
   by_cases j1:j=m
   ·rw [pf j1];exact a _ (by omega)
   ·rw [pe j1]
    by_cases j2:m<j∧j≤k
    ·rw [pf j2];exact hs _ _ (by omega) (by omega)
    ·rw [pe j2];exact hs _ _ hij (by omega)
theorem bin_ok (O:Ord lt n):∀ (f:Nat) (p:Array Nat) (k:Nat),k+f=n→Pm n p→SoA lt p k→Gd lt n (kas_bin f p k) (fun q=>Pm n q∧SoA lt q n)
 | 0,p,k,h1,hp,hs=>by
  have e:k=n:=by omega
  rw [e] at hs;exact ⟨hp,hs⟩
 | f+1,p,k,h1,hp,hs=>by
  show Gd lt n ((kas_place p k k 0 k).bind fun l=>kas_bin f (bubble p k (k - l)) (k+1)) _;refine Gd.bind ((place_ok O hp (by omega) hs k 0 k (bI _) (aC _) (by omega) (fun i x=>pj x (by omega)) (fun i x y=>pj x (by omega))).mono fun m ⟨m1,m2,m3⟩=>?_);exact bin_ok O f _ (k+1) (by omega) (hp.of (bubble_perm _ _ _)) (bub_so O hp (by omega) m1 hs m2 m3)
theorem sort_ok (O:Ord lt n)(h1:1≤n):Gd lt n (kas_sort n) (fun q=>Pm n q∧SoA lt q n):=by
 unfold kas_sort;refine Gd.bind ((count_ok O h1 (p:=(aP n).toArray) (by show (aP n).toArray.toList.Perm _;rw [jE])).mono fun r ⟨a,b,c,d⟩=>?_)
 by_cases e:r.1<n
 ·rw [pf e]
  have em:max r.1 1=r.1:=by omega
  rw [em];exact bin_ok O _ _ _ (by omega) a d
 ·rw [pe e]
  have er:r.1=n:=by omega
  rw [er] at d;exact ⟨a,d⟩
end
theorem nM {h:bE}{a:ao}{vs:List ae}{out:Array ae}{b:ao}{u:Obj}(hb:b≠a)(e:h.get? b=some u):(sortedHeap h a vs out).get? b=some u:=by
 unfold sortedHeap;rw [gj _ _ _ _ hb];exact au _ (au _ (by rw [gj _ _ _ _ hb];exact e))
theorem sortedHeap_at {h:bE}{a:ao}{vs:List ae}{out:Array ae}{n:Nat}(e:h.get? a=some (bJ "list" vs.toArray n)):∃ c,(sortedHeap h a vs out).get? a=some (bJ "list" out c):=by
 unfold sortedHeap;exact ⟨_,iP (au _ (au _ (iP e fun _=> #[]))) fun _=>out⟩
def preAll (h:bE)(vs:List ae):bE:=((h.push (bJ "list" #[] 0)).update h.objs.size (cT (· ++ vs.toArray))).push (bJ "list" vs.toArray 0)
theorem preAll_keep {h:bE}{vs:List ae}{b:ao}{u:Obj}(e:h.get? b=some u):(preAll h vs).get? b=some u:=by
 have hb:=aN e;exact au _ (by rw [gj _ _ _ _ (bM hb)];exact au _ e)
theorem preAll_at {h:bE}{vs:List ae}:(preAll h vs).get? (h.objs.size+1)=some (bJ "list" vs.toArray 0):=by
 have hsz:((h.push (bJ "list" #[] 0)).update h.objs.size (cT (· ++ vs.toArray))).objs.size=h.objs.size+1:=by
  rw [bE.size_update,size_push']
 unfold preAll;rw [←hsz];exact bg _ rfl
section
variable {X:Cx}
theorem call_sortedI:CallR X (.builtin "sorted") (fun xs H Q=>∃ (p:ao) (ns:List Int),xs=[.ref p]∧SqL X.K H p (ns.map V.int)∧ns.length<64∧∀ (l:ao) (ns':List Int),H l=none→ns'.Perm ns→ns'.Pairwise (· ≤ ·)→Q (.ref l) (upd H l (.lst (ns'.map V.int)))):=by
 intro aQ s σ H xs us Q I r h;obtain ⟨p,ns,rfl,hq,hn,q⟩:=h;obtain ⟨u,rfl,ru⟩:=nh r;cases (show u=ae.ref p from ru);obtain ⟨its,rv,pl,hz⟩:=I.list hq;have hl:its.length=ns.length:=by rw [←rv.length,aa]
 refine sorted_ints pl.isList (ints_are rv) (by omega) fun out ns' a1 a2 a3=>?_
 obtain ⟨c,hc⟩:=sortedHeap_at (h:=preAll s.heap its) (vs:=its) (out:=out) preAll_at;refine ⟨.ref (s.heap.objs.size+1),_,I.laid (o:= .lst (ns'.map V.int)) (t':=s.toks) (fun b u e=>nM (bM (gX (aN e))) (preAll_keep e)) (jy _) ⟨?_,out.toList,c,ng a1,?_⟩,rfl,q _ ns' (I.hok.fresh (jy _)) a2 a3⟩
 ·rw [aa,a2.length_eq];exact bj (by omega:ns.length≤1000) (by decide)
 ·rw [Array.toArray_toList];exact hc
end
section
variable {prog:aW} {w:bz} {A:bU} {E:ae→ar→Prop} {s:ar}
def jK (h:bE)(a:ao)(vs:List ae):bE:=((h.update a (cT fun _=>(#[]:Array ae))).push (bJ "tuple" vs.toArray 0)).push (bJ "list" #[] 0)
theorem mid_keep {h:bE}{a:ao}{vs:List ae}{b:ao}{u:Obj}(hb:b≠a)(e:h.get? b=some u):(jK h a vs).get? b=some u :=
 au _ (au _ (by rw [gj _ _ _ _ hb];exact e))
end
def ltP (k m:Int×Int):Bool:=if (k.1 == m.1)=true then (if (k.2 == m.2)=true then false else decide (k.2<m.2)) else decide (k.1<m.1)
theorem ltP_iff {k m:Int×Int}:ltP k m=true↔(k.1<m.1∨(k.1=m.1∧k.2<m.2)):=by
 unfold ltP
 by_cases h1:k.1=m.1
 ·rw [pf (by rw [beq_iff_eq];exact h1)]
  by_cases h2:k.2=m.2
  ·rw [pf (by rw [beq_iff_eq];exact h2)]
   constructor
   ·intro h;cases h
   ·intro h;omega
  ·rw [pe (by rw [beq_iff_eq];exact h2),decide_eq_true_eq]
   omega
 ·rw [pe (by rw [beq_iff_eq];exact h1),decide_eq_true_eq]
  omega
abbrev kyP (ks:List (Int×Int))(i:Nat):Int×Int:=ks.getD i (0,0)
theorem kyP_at {ks:List (Int×Int)}{i:Nat}(h:i<ks.length):kyP ks i=ks[i]:=by
 show ks.getD i (0,0)=_;rw [ai,gE h];rfl
theorem ord_of {ks:List (Int×Int)}(h:ks.Nodup):Ord (fun i j=>ltP (kyP ks i) (kyP ks j)) ks.length:=by
 refine ⟨fun i j hi hj hne hf=>?_,fun i j k h1 h2=>?_⟩
 ·show ltP (kyP ks j) (kyP ks i)=true
  have hn:kyP ks i≠kyP ks j:=by
   rw [kyP_at hi,kyP_at hj];intro e;exact hne ((List.getElem_inj h).mp e)
  have hf:¬ ltP (kyP ks i) (kyP ks j)=true:=by
   show ¬ ltP (kyP ks i) (kyP ks j)=true;rw [show ltP (kyP ks i) (kyP ks j)=false from hf];decide
  rw [ltP_iff] at hf ⊢;have:¬ ((kyP ks i).1=(kyP ks j).1∧(kyP ks i).2=(kyP ks j).2):=fun z=>hn (Prod.ext z.1 z.2)
  omega
 ·have h1:ltP (kyP ks i) (kyP ks j)=true:=h1
  have h2:ltP (kyP ks j) (kyP ks k)=true:=h2;show ltP (kyP ks i) (kyP ks k)=true;rw [ltP_iff] at h1 h2 ⊢;omega
def PrsAt (h:bE)(vs:List ae)(ks:List (Int×Int)):Prop:=vs.length=ks.length∧∀ (i:Nat) (v:ae) (k:Int×Int),vs[i]? =some v→ks[i]? =some k→∃ a o t u n,v= .ref a∧h.get? a=some o∧o.cls= .type "tuple" ∧o.data= .seq #[.int k.1 t,.int k.2 u] n
theorem prs_tups {h:bE}:∀ {vs:List ae} {ks:List (Int×Int)},PrsAt h vs ks→∃ fs:List ae,KatTups h vs fs∧fs.length=vs.length∧∀ f∈fs,∃ i t,f=ae.int i t
 | [],[],_=>⟨[],trivial,rfl,fun f hf=>pj hf (by simp)⟩
 | [],_::_,p=>pj p.1 (by simp)
 | _::_,[],p=>pj p.1 (by simp)
 | v::vs,k::ks,p=>by
  obtain ⟨fs,t1,t2,t3⟩:=prs_tups (vs:=vs) (ks:=ks) ⟨by have:=p.1;simp only [aV] at this;omega,fun i v' k' e1 e2=>p.2 (i+1) v' k' (by simpa using e1) (by simpa using e2)⟩;obtain ⟨a,o,t,u,n,rfl,q2,q3,q4⟩:=p.2 0 v k rfl rfl;refine ⟨.int k.1 t::fs,KatTups.cons q2 q3 q4 rfl t1,by rw [aV,aV,t2],fun f hf=>?_⟩
  rcases aL.mp hf with rfl | hf
  ·exact ⟨_,_,rfl⟩
  ·exact t3 f hf
section
variable {prog:aW} {w:bz} {A:bU} {E:ae→ar→Prop} {s:ar}
theorem prs_kind {vs:List ae}{ks:List (Int×Int)}(p:PrsAt s.heap vs ks)(h1:1≤vs.length){Q:SortKind→ar→Prop}(q:Q (tuples' true) s):aX (br prog w) A (keyKind' vs.toArray) Q E s:=by
 obtain ⟨fs,t1,t2,t3⟩:=prs_tups p;have e1:((ae.type "int" :ae) == ae.type "int")=true:=by trivial
 have e2:((ae.type "int" :ae) != ae.type "tuple")=true:=by trivial
 refine kat_kind (T:= .type "int") t1 (by omega) (fun v hv=>?_) e1 (by rw [e2];exact q);obtain ⟨i,t,rfl⟩:=t3 v hv;exact Looks.of_pure rfl
theorem prs_ask {vs:List ae}{ks:List (Int×Int)}(p:PrsAt s.heap vs ks){i j:Nat}(hi:i<vs.length)(hj:j<vs.length){C:Bool→ar→Prop}(c:C (ltP (kyP ks i) (kyP ks j)) s):kas_ask prog w A (tuples' true) vs i j C s:=by
 have li:=p.1;obtain ⟨a,o,t,u,n,e1,q2,q3,q4⟩:=p.2 i vs[i] ks[i] (gE hi) (gE (by omega));obtain ⟨a',o',t',u',n',e1',q2',q3',q4'⟩:=p.2 j vs[j] ks[j] (gE hj) (gE (by omega));unfold kas_ask;have ei:vs.getD i ae.none= .ref a:=by rw [ai,gE hi];exact e1
 have ej:vs.getD j ae.none= .ref a':=by rw [ai,gE hj];exact e1'
 rw [ei,ej];rw [kyP_at (by omega),kyP_at (by omega)] at c;refine kat_lt q2 q4 q2' q4' ?_;refine kat_cons (wpAny_eqBool_int ?_);unfold ltP at c
 by_cases h1:(ks[i].1 == ks[j].1)=true
 ·rw [pf h1] at c
  rw [h1];refine kat_yes (kat_cons (wpAny_eqBool_int ?_))
  by_cases h2:(ks[i].2 == ks[j].2)=true
  ·rw [pf h2] at c
   rw [h2];exact kat_yes (kat_nil c)
  ·rw [pe h2] at c
   rw [gU.mpr h2];exact kat_no (kat_one _ _ (lt_int (Q:=PySem.W.BoolBack C) c))
 ·rw [pe h1] at c
  rw [gU.mpr h1];exact kat_no (oneLt_int c)
end
section
variable {X:Cx}
end
section
variable {prog:aW} {w:bz} {A:bU} {E:ae→ar→Prop} {s:ar}
def oy (h:bE)(kS a:ao)(out:List ae):bE:=(h.update kS (cT fun _=>(#[]:Array ae))).update a (cT fun _=>out.toArray)
theorem key_tail {a kS:ao}{st:SortSt}{out ks:List ae}{e e1:Nat}{P:PySem.Fin→ar→Prop}(hout:(arrOf st).map (·.2)=iQ out)(hz:out.length<64)(hkz:ks.length<64)(hf:failedOf st=none)
  (hk:s.heap.get? kS=some (bJ "list" ks.toArray e)) (ha:s.heap.get? a=some (bJ "list" #[] e1)) (hne:kS≠a)
  (h:P (.done (.ret .none)) { s with heap:=oy s.heap kS a out }):aX (br prog w) A (ksk_tail a false e1 (.ref kS) st) P E s:=by
 have na:(s.heap.update kS (cT fun _=>(#[]:Array ae))).get? a=some (bJ "list" #[] e1):=by
  rw [gj _ _ _ _ (cp hne)];exact ha
 unfold ksk_tail
 try dsimp only
 rw [hout];refine ah (listUpdate_at hk rfl ?_ (by rw [aB,fN];omega) (bI _));refine ah (wpAny_letGo ?_);refine ah (seqEpoch_at na rfl ?_);refine ah (listUpdate_at na rfl ?_ (bI _) (by show (if false=true then _ else out.toArray).size≤_;rw [pe (by decide),aB,fN];omega));rw [hf];simp only [bne_self_eq_false,Bool.false_eq_true,if_false];exact aJ h
theorem key_end {a kS:ao}{vs ks:List ae}{e e1:Nat}{κ:SortKind}{lt:Nat→Nat→Bool}{P:PySem.Fin→ar→Prop}(hl:ks.length=vs.length)(h2:2≤vs.length)(h64:vs.length<64)(O:Ord lt vs.length)
  (hk:s.heap.get? kS=some (bJ "list" ks.toArray e)) (ha:s.heap.get? a=some (bJ "list" #[] e1)) (hne:kS≠a)
  (hkk:∀ Q:SortKind→ar→Prop,Q κ s→aX (br prog w) A (keyKind' ks.toArray) Q (fun _ _=>False) s)
  (hc:∀ i j C,i<vs.length→j<vs.length→C (lt i j) s→kas_ask prog w A κ ks i j C s)
  (h:∀ p:Array Nat,Pm vs.length p→SoA lt p vs.length→P (.done (.ret .none)) { s with heap:=oy s.heap kS a (p.toList.map fun i=>vs.getD i ae.none) }) :
  aX (br prog w) A (ksk_end a false vs.toArray e1 (.ref kS) ks.toArray) P E s:=by
 have hn2:¬ vs.toArray.size<2:=by rw [aB];omega
 unfold ksk_end
 try dsimp only
 rw [pe (by decide),pe hn2,pe hn2,pe (by decide)];refine ah (cy (hkk (fun κ' s'=>κ'=κ∧s'=s) ⟨rfl,rfl⟩) (fun κ' s0 z=>?_) fun _ _ x=>x.elim);obtain ⟨z1,z2⟩:=z;subst z1;subst z2;have G:=(sort_ok O (by omega)).wp (cmp:=kas_ask prog w A κ' ks) (s:=s0) (Q:=fun p s'=>s'=s0∧Pm vs.length p∧SoA lt p vs.length) hc (fun p hp=>⟨rfl,hp.1,hp.2⟩);refine ah (cy (kat_run (Q:=fun st' s'=>∃ p:Array Nat,p.size=vs.length∧arrOf st'=p.map (kas_item (ks.toArray.zip vs.toArray))∧failedOf st'=none∧s'=s0∧Pm vs.length p∧SoA lt p vs.length) hl h2 h64 (fun p' st' s' a1 a2 a3 a4=>⟨p',a1,a2,a3,a4.1,a4.2.1,a4.2.2⟩) G) ?_ fun _ _ e=>e);rintro ⟨⟨⟩,st'⟩ s' ⟨p,hp,har,hf,rfl,pm,so⟩
 try dsimp only
 exact key_tail (kat_snds hl har) (by rw [aa,cJ,hp];exact h64) (by omega) hf hk ha hne (h p pm so)
theorem key_fold {f:ae}{kS:ao}{body:ae→PUnit→Sem (ForInStep PUnit)}(J:List ae→ar→Prop)(vs:List ae)(h64:vs.length<64)
  (hb:∀ x ks e (t:ar),ks.length<64→t.heap.get? kS=some (bJ "list" ks.toArray e) →
   aX (br prog w) A (call f [x]) (fun k t'=>t'.heap.get? kS=some (bJ "list" ks.toArray e)∧∀ h' c,dZ kS t'.heap h'→h'.get? kS=some (bJ "list" (ks++[k]).toArray c)→J (ks++[k]) { t' with heap:=h' }) (fun _ _=>False) t →
   aX (br prog w) A (body x ⟨⟩) (fun r t'=>r= .yield ⟨⟩∧∃ k c,t'.heap.get? kS=some (bJ "list" (ks++[k]).toArray c)∧J (ks++[k]) t') E t)
  (hc:∀ ks x e (t:ar),vs[ks.length]? =some x→J ks t→t.heap.get? kS=some (bJ "list" ks.toArray e) →
   aX (br prog w) A (call f [x]) (fun k t'=>t'.heap.get? kS=some (bJ "list" ks.toArray e)∧∀ h' c,dZ kS t'.heap h'→h'.get? kS=some (bJ "list" (ks++[k]).toArray c)→J (ks++[k]) { t' with heap:=h' }) (fun _ _=>False) t) :
  ∀ (r ks:List ae) (e:Nat) (t:ar),vs=vs.take ks.length++r→ks.length+r.length=vs.length→t.heap.get? kS=some (bJ "list" ks.toArray e)→J ks t →
   aX (br prog w) A (forIn r PUnit.unit body) (fun _ t'=>∃ ks e,t'.heap.get? kS=some (bJ "list" ks.toArray e)∧ks.length=vs.length∧J ks t') E t
 | [],ks,e,t,_,hl,hk,j=>by
  rw [List.forIn_nil];exact aJ ⟨ks,e,hk,by simpa using hl,j⟩
 | x::r,ks,e,t,hv,hl,hk,j=>by
  rw [aV] at hl;rw [List.forIn_cons];have hx:vs[ks.length]? =some x:=by
   rw [hv,bS (by rw [bH];omega),bH,show ks.length - min ks.length vs.length=0 by omega];rfl
  refine ah (cy (hb x ks e t (by omega) hk (hc ks x e t hx j hk)) (fun q t' hq=>?_) fun _ _ z=>z);obtain ⟨rfl,k,c,hk',j'⟩:=hq;show aX (br prog w) A (forIn r PUnit.unit body) _ E t';refine key_fold J vs h64 hb hc r (ks++[k]) c t' ?_ (by rw [aq,gO];omega) hk' j';rw [aq,gO,bt,hx]
  simpa using hv
theorem key_rest {a kS:ao}{f:ae}{vs:List ae}{e1:Nat}{P:PySem.Fin→ar→Prop}(J:List ae→ar→Prop)(h64:vs.length<64)(hk:s.heap.get? kS=some (bJ "list" #[] 0))(j0:J [] s)
  (hc:∀ ks x e (t:ar),vs[ks.length]? =some x→J ks t→t.heap.get? kS=some (bJ "list" ks.toArray e) →
   aX (br prog w) A (call f [x]) (fun k t'=>t'.heap.get? kS=some (bJ "list" ks.toArray e)∧∀ h' c,dZ kS t'.heap h'→h'.get? kS=some (bJ "list" (ks++[k]).toArray c)→J (ks++[k]) { t' with heap:=h' }) (fun _ _=>False) t)
  (h:∀ ks e (t:ar),ks.length=vs.length→J ks t→t.heap.get? kS=some (bJ "list" ks.toArray e)→aX (br prog w) A (ksk_end a false vs.toArray e1 (.ref kS) ks.toArray) P E t) :
  aX (br prog w) A (ksk_rest a f false vs.toArray e1 (.ref kS)) P E s:=by
 unfold ksk_rest;refine ah (wpAny_rule ?_)
 first
  | rw [List.forIn_toArray]
  | (rw [←Array.forIn_toList];simp only [jE])
  | rw [←Array.forIn_toList]
 refine ah (cy (key_fold J vs h64 (fun x ks e t hz ht hx=>?_) hc vs [] 0 s (by simp) (by simp) hk j0) (fun _ t hd=>?_) fun _ _ z=>z)
 ·refine ah (wpAny_attempt (cy hx (fun k t' hk=>?_) fun _ _ hF=>hF.elim))
  obtain ⟨k1,k2⟩:=hk;have s1:=fS t'.heap kS (cT (·.push k));have ea:(iQ ks).push k=iQ (ks++[k]):=by simp
  obtain ⟨c2,hc2⟩:∃ c2,(t'.heap.update kS (cT (·.push k))).get? kS=some (bJ "list" (iQ (ks++[k])) c2):=⟨_,by rw [←ea];exact iP k1 (·.push k)⟩
  try dsimp only
  refine ah (listUpdate_at k1 rfl ?_ (by rw [aB,fN];omega) (bj (Nat.le_of_eq (Array.size_push ..)) (by rw [aB,fN];omega)));exact aJ ⟨rfl,k,c2,hc2,k2 _ c2 s1 hc2⟩
 ·obtain ⟨ks,e,hk',hl,j⟩:=hd
  try dsimp only
  refine ah (listItems_at hk' rfl ?_);exact h ks e t hl j hk'
theorem collect_range {r:ao}{a b c:Int}{t u v:Tok}{n:Nat}{Q:List ae→ar→Prop}(hh:A.handled=none)(hr:IsRange s.heap r a b c t u v)(hsmall:gM a b c=true)(hn:d9 a b c=n)(hlen:n≤2 ^ 24)
  (h:∀ h' tk acc,(∀ b o,s.heap.get? b=some o→h'.get? b=some o)→s.heap.objs.size<h'.objs.size→ItemsOf (fun i v=>∃ t,v= .int (a+i * c) t) acc n→Q acc.toList { s with heap:=h',toks:=tk }) :
  aX (br prog w) A (collect (.ref r)) Q E s:=by
 unfold collect;refine ah (wpAny_runValue (codeAny_builtin entry_proto_collect' ?_));show aX _ _ (do again (.builtin "list.__iadd__" ⟨[←newList [],.ref r],[]⟩)) _ _ s;refine ah (wpAny_newList (aJ ⟨Code.quiet_builtin _ (by trivial),codeAny_builtin entry_list_iadd' ?_⟩));have key:=wpAny_extend_range (prog:=prog) (w:=w) (A:=A) (s:={ s with heap:=s.heap.push (bJ "list" #[] 0) }) (R:=fun r s'=>match r with
   | .ok (.ret v)=>aX (br prog w) A (match v with
    | .ref a=>do
     let o ← load a
     match o.data with
     | .seq xs _=>fQ xs.toList
     | _=>unsupported "internal:collect"
    | _=>unsupported "internal:collect") Q E s'
   | .ok _=>False
   | .error e=>E e s') hh (au _ hr) hsmall hn hlen s.heap.objs.size (.ref s.heap.objs.size) 0 (bg _ rfl) (fun h' tk acc c' hk hS hacc=>by
  show aX (br prog w) A (do
    let o ← load s.heap.objs.size
    match o.data with
    | .seq xs _=>fQ xs.toList
    | _=>unsupported "internal:collect") Q E { s with heap:=h',toks:=tk }
  refine ah (wpAny_load hS ?_);exact aJ (h h' tk acc (fun b o e=>hk b o (bM (aN e)) (au _ e)) (aN hS) hacc))
 exact key
def KeyDo (prog:aW)(w:bz)(B:bU)(f:ae)(vs:List ae)(kS D:ao)(e1:Nat)(Q:ar→Prop)(s1:ar):Prop :=
 ∃ J:List ae→ar→Prop,J [] s1 ∧
  (∀ ks x e (t:ar),vs[ks.length]? =some x→J ks t→t.heap.get? kS=some (bJ "list" ks.toArray e) →
   aX (br prog w) B (call f [x]) (fun k t'=>t'.heap.get? kS=some (bJ "list" ks.toArray e)∧∀ h' c,dZ kS t'.heap h'→h'.get? kS=some (bJ "list" (ks++[k]).toArray c)→J (ks++[k]) { t' with heap:=h' }) (fun _ _=>False) t) ∧
  ∀ ks (t:ar),ks.length=vs.length→J ks t→t.heap.get? D=some (bJ "list" #[] e1)∧∃ κ lt,Ord lt vs.length ∧
   (2≤vs.length→∀ Q:SortKind→ar→Prop,Q κ t→aX (br prog w) B (keyKind' ks.toArray) Q (fun _ _=>False) t) ∧
   (∀ i j C,i<vs.length→j<vs.length→C (lt i j) t→kas_ask prog w B κ ks i j C t) ∧
   ∀ p:Array Nat,Pm vs.length p→SoA lt p vs.length→Q { t with heap:=oy t.heap kS D (p.toList.map fun i=>vs.getD i ae.none) }
theorem zip_snd:∀ (ks vs:List ae),ks.length=vs.length→(ks.zip vs).map (·.2)=vs
 | [],[],_=>rfl
 | [],_::_,h=>by cases h
 | _::_,[],h=>by cases h
 | _::ks,v::vs,h=>by
  show v::(ks.zip vs).map (·.2)=v::vs;rw [zip_snd ks vs (by simpa using h)]
theorem key_end_few {a kS:ao}{vs ks:List ae}{e e1:Nat}{P:PySem.Fin→ar→Prop}(hl:ks.length=vs.length)(h2:vs.length<2)
  (hk:s.heap.get? kS=some (bJ "list" ks.toArray e)) (ha:s.heap.get? a=some (bJ "list" #[] e1)) (hne:kS≠a)
  (h:P (.done (.ret .none)) { s with heap:=oy s.heap kS a vs }) :
  aX (br prog w) A (ksk_end a false vs.toArray e1 (.ref kS) ks.toArray) P E s:=by
 have hn2:vs.toArray.size<2:=by rw [aB];omega
 unfold ksk_end
 try dsimp only
 rw [pe (by decide),pf hn2,pf hn2,pe (by decide)];refine ah (aJ ?_);rw [StateT.run_pure];refine ah (aJ ?_)
 try dsimp only
 refine key_tail (out:=vs) ?_ (by omega) (by omega) rfl hk ha hne h;show (ks.toArray.zip vs.toArray).map (·.2)=vs.toArray
 apply Array.toList_inj.mp
 rw [Array.toList_map,Array.toList_zip];exact zip_snd ks vs hl
theorem range_getD (vs:List ae):((aP vs.length).map fun i=>vs.getD i ae.none)=vs:=by
 refine List.ext_getElem? fun i=>?_
 rw [ay]
 by_cases hi:i<vs.length
 ·rw [gi hi]
  show some (vs.getD i ae.none)=_;rw [ai,gE hi];rfl
 ·rw [List.getElem?_eq_none (by rw [bo];omega),List.getElem?_eq_none (by omega)];rfl
theorem key_tree {a q:ao}{vs:List ae}{n:Nat}{P:PySem.Fin→ar→Prop}(ho:s.heap.get? a=some (bJ "list" vs.toArray n))(h64:vs.length<64)
  (h:∀ e1,(jK s.heap a vs).get? a=some (bJ "list" #[] e1)→(jK s.heap a vs).get? (s.heap.objs.size+1)=some (bJ "list" #[] 0)→KeyDo prog w A (.ref q) vs (s.heap.objs.size+1) a e1 (fun t=>P (.done (.ret .none)) t) { s with heap:=jK s.heap a vs }) :
  aX (br prog w) A (ksk_tree a (.ref q) false) P E s:=by
 obtain ⟨e1,ho1⟩:∃ e1,(s.heap.update a (cT fun _=>(#[]:Array ae))).get? a=some (bJ "list" #[] e1):=⟨_,iP ho fun _=> #[]⟩;have ha:a<s.heap.objs.size:=aN ho;have ho6:(jK s.heap a vs).get? a=some (bJ "list" #[] e1):=au _ (au _ ho1);have hkS:((s.heap.update a (cT fun _=>(#[]:Array ae))).push (bJ "tuple" vs.toArray 0)).objs.size=s.heap.objs.size+1:=by rw [size_push',bE.size_update]
 have hk0:(jK s.heap a vs).get? (s.heap.objs.size+1)=some (bJ "list" #[] 0):=by
  unfold jK;rw [←hkS];exact bg _ rfl
 obtain ⟨J,j0,jc,je⟩:=h e1 ho6 hk0;unfold ksk_tree;refine ah (listItems_at ho rfl ?_);refine ah (listUpdate_at ho rfl ?_ (by rw [aB,fN];omega) (bI _));refine ah (seqEpoch_at ho1 rfl ?_);refine ah (wpAny_newTuple ?_ (by show vs.length≤_;rw [fN];omega));refine ah (wpAny_newList ?_ (bI _));refine fj ?_;show aX (br prog w) A (ksk_rest a (.ref q) false vs.toArray e1 (.ref ((s.heap.update a (cT fun _=>(#[]:Array ae))).push (bJ "tuple" vs.toArray 0)).objs.size)) P E { s with heap:=jK s.heap a vs };rw [hkS];refine key_rest J h64 hk0 j0 jc fun ks e t hl j hk=>?_
 obtain ⟨ha',κ,lt,O,hkk,hc,hP⟩:=je ks t hl j
 by_cases h2:vs.length<2
 ·have hh:=hP (aP vs.length).toArray (by show (aP vs.length).toArray.toList.Perm _;rw [jE]) (fun i j x y=>pj y (by omega))
  rw [jE,range_getD] at hh;exact key_end_few hl h2 hk ha' (eE (gX ha)) hh
 ·exact key_end hl (by omega) h64 O hk ha' (eE (gX ha)) (hkk (by omega)) hc hP
theorem sorted_keyR {r q:ao}{a b c:Int}{t u v:Tok}{n:Nat}{Q:ae→ar→Prop}(hh:A.handled=none)(hr:IsRange s.heap r a b c t u v)(hsmall:gM a b c=true)(hn:d9 a b c=n)(h64:n<64)
  (h:∀ (vs:List ae) (h1:bE) (tk:Nat) (D kS:ao) (e1:Nat),vs.length=n→(∀ (i:Nat) x,vs[i]? =some x→∃ t,x= .int (a+i * c) t)→(∀ b o,s.heap.get? b=some o→h1.get? b=some o)→s.heap.objs.size≤D→D<kS→h1.get? D=some (bJ "list" #[] e1)→h1.get? kS=some (bJ "list" #[] 0) →
   KeyDo prog w A.in1.in1 (.ref q) vs kS D e1 (fun t'=>Q (.ref D) t') { s with heap:=h1,toks:=tk }) :
  aX (br prog w) A (call (.builtin "sorted") [.ref r] [(eD "key",.ref q)]) Q E s:=by
 refine call_function_entry_kw kind_sorted plain_sorted entry_sorted (ksk_s1 _ _) ?_;unfold fM.«sorted»;refine ah (m:=checkCount "sorted" 1 1 _) (aJ ?_);refine ah (collect_range hh hr hsmall hn (by omega) fun h' tk acc hk hlt hi=>?_);have hl:acc.toList.length=n:=by rw [cJ];exact hi.1
 refine ah (wpAny_newList ?_ (by rw [hl,fN];omega));have hoL:(h'.push (bJ "list" acc.toList.toArray 0)).get? h'.objs.size=some (bJ "list" acc.toList.toArray 0):=bg _ rfl;show aX _ _ _ _ _ { s with heap:=h'.push (bJ "list" acc.toList.toArray 0),toks:=tk };refine ah (fj (wpAny_call_entry_kw slot_list_sort ⟨_,hoL,rfl⟩ entry_list_sort ?body (ksk_l1 _ _)))
 case body =>
  show aX (br prog w) A.in1.in1 (fM.«list.sort» ⟨[.ref h'.objs.size],[(eD "key",.ref q)]⟩) _ _ _;rw [ksk_t1];refine key_tree (s:={ s with heap:=h'.push (bJ "list" acc.toList.toArray 0),toks:=tk }) hoL (by omega) fun e1 g1 g2=>?_
  have K:=h acc.toList (jK (h'.push (bJ "list" acc.toList.toArray 0)) h'.objs.size acc.toList) tk h'.objs.size ((h'.push (bJ "list" acc.toList.toArray 0)).objs.size+1) e1 hl ?_ ?_ (ik hlt) (by rw [size_push'];exact gX (jg _)) g1 g2
  ·obtain ⟨J,j0,jc,je⟩:=K
   refine ⟨J,j0,jc,fun ks t' x1 x2=>?_⟩;obtain ⟨y1,κ,lt,y2,y3,y4,y5⟩:=je ks t' x1 x2;exact ⟨y1,κ,lt,y2,y3,y4,fun p p1 p2=>⟨_,rfl,aJ ⟨_,rfl,y5 p p1 p2⟩⟩⟩
  ·intro i x hx
   rw [gN] at hx;exact hi.2 i x hx
  ·exact fun b o e=>mid_keep (bM (Nat.lt_trans (aN e) hlt)) (au _ (hk b o e))
end
section
variable {X:Cx} {aQ:List (ao×Obj)} {σ:List (Option V)} {H:Hp} {s:ar}
theorem Inv.take {D:ao}{o:HO}(I:Inv X aQ σ H s)(hn:H D=none)(hs0:X.s₀.heap.objs.size≤D)(hL:D≠X.env.locals)(hC:∀ x c,X.env.cells.lookup x=some c→c≠D)(hP:∀ p∈X.pn++aQ,p.1≠D)(new:ObjOk X.prog X.w (upd H D o) s.heap D o):Inv X aQ σ (upd H D o) s where
 ok:=I.ok
 os:=I.os
 bare:=I.bare
 base :=
  {keep:=I.base.keep
   slot:=I.base.slot
   free:=fun b ob e nb hx=>by rw [bf (bM (aU (aN e) hs0))];exact I.base.free b ob e nb hx
   there:=I.base.there
   tups:=fun b xs e=>by have q:=I.base.tups b xs e;rw [bf (aY q hn)];exact q
   frzs:=fun b o u e=>by have q:=I.base.frzs b o u e;rw [bf (aY q hn)];exact q
   tbls:=fun b ps e=>by obtain ⟨more,q⟩:=I.base.tbls b ps e;exact ⟨more,by rw [bf (aY q hn)];exact q⟩ }
 loc:=I.loc
 cell:=I.cell
 free:=by rw [bf hL.symm];exact I.free
 freeC:=fun x c e=>by rw [bf (hC x c e)];exact I.freeC x c e
 pin:=fun p hp=>by
  obtain ⟨a,b,c,d,e⟩:=I.pin p hp;exact ⟨a,by rw [bf (hP p hp)];exact b,c,d,e⟩
 hok:=I.hok.take hn new
 len:=I.len
theorem Inv.unpin {p0:ao×Obj}(I:Inv X (p0::aQ) σ H s):Inv X aQ σ H s:=I.pins_of fun p hp=>I.pin p (aG _ (ax _ hp))
theorem Inv.repin {kS:ao}{o o':Obj}{h':bE}(I:Inv X ((kS,o)::aQ) σ H s)(hs0:X.s₀.heap.objs.size≤kS)(hC:∀ x c,X.env.cells.lookup x=some c→c≠kS)(hP:∀ p∈X.pn++aQ,p.1≠kS)(hsb:dZ kS s.heap h')(ho':h'.get? kS=some o')(hd:∀ v,o'.data≠ .cell v):Inv X ((kS,o')::aQ) σ H { s with heap:=h' }:=by
 obtain ⟨p1,p2,p3,p4,_⟩:=I.pin (kS,o) (aG _ (bF ..));have I2:=I.unpin.turned (t':=s.toks) (it:=kS) (h':=h') (fun b o hb e=>hsb.extBut b o hb e) p2 p3 (.inr hs0) hC hP;refine I2.pins_of fun p hp=>?_
 rcases aL.mp hp with rfl | hp
 ·exact ⟨ho',p2,p3,p4,hd⟩
 ·exact I2.pin p (aG _ hp)
theorem prs_of {as:List ao}{ks:List (Int×Int)}(I:Inv X aQ σ H s)(hl:as.length=ks.length)(h:∀ (i:Nat) a k,as[i]? =some a→ks[i]? =some k→H a=some (.tup [.int k.1,.int k.2])):PrsAt s.heap (as.map ae.ref) ks:=by
 refine ⟨by rw [aa,hl],fun i v k e1 e2=>?_⟩;rw [ay] at e1;obtain ⟨a,ea,rfl⟩:=bx.mp e1;obtain ⟨tz,tts,tr,o,ho,hcl,_,nn,hdt⟩:=I.hok a _ (h i a k ea e2);cases tr with
 | cons r1 tr=>cases tr with
  | cons r2 tr =>
   cases tr;obtain ⟨t1,rfl⟩:=r1;obtain ⟨t2,rfl⟩:=r2;exact ⟨a,o,t1,t2,nn,rfl,ho,hcl,hdt⟩
theorem keyDo_of {B:bU}{f:ae}{vs:List ae}{n:Nat}{num:Nat→Int}{key:Nat→Int×Int}{kS D:ao}{e1:Nat}{Q:ar→Prop}
  (I:Inv X ((kS,bJ "list" #[] 0)::(D,bJ "list" #[] e1)::aQ) σ H s) (hl:vs.length=n) (h64:n<64) (hv:∀ (i:Nat) x,vs[i]? =some x→∃ t,x= .int (num i) t)
  (k0:X.s₀.heap.objs.size≤kS) (d0:X.s₀.heap.objs.size≤D) (kC:∀ x c,X.env.cells.lookup x=some c→c≠kS) (dC:∀ x c,X.env.cells.lookup x=some c→c≠D) (kP:∀ p∈X.pn++aQ,p.1≠kS) (dP:∀ p∈X.pn++aQ,p.1≠D) (hne:kS≠D)
  (hnd:((aP n).map key).Nodup)
  (hf:∀ (t:ar) (H':Hp) (pins':List (ao×Obj)) (i:Nat) (tk:Tok),i<n→Inv X pins' σ H' t→Same H H'→aX (br X.prog X.w) B (call f [.int (num i) tk]) (fun k t'=>∃ q H'',Inv X pins' σ H'' t'∧Same H' H''∧k= .ref q∧H'' q=some (.tup [.int (key i).1,.int (key i).2])) (fun _ _=>False) t)
  (fin:∀ (t:ar) (H':Hp) (π:List Nat),Same H H'→H' D=none→Inv X aQ σ (upd H' D (.lst (π.map fun i=>V.int (num i)))) t→π.Perm (aP n)→π.Pairwise (fun i j=>ltP (key i) (key j)=true)→Q t) :
  KeyDo X.prog X.w B f vs kS D e1 Q s:=by
 have pK:∀ p∈X.pn++((D,bJ "list" #[] e1)::aQ),p.1≠kS:=fun p hp=>by
  rcases aM.mp hp with hp | hp
  ·exact kP p (aE _ hp)
  ·rcases aL.mp hp with rfl | hp
   ·exact cp hne
   ·exact kP p (aG _ hp)
 refine ⟨fun ks t=>∃ e H' as,Inv X ((kS,bJ "list" ks.toArray e)::(D,bJ "list" #[] e1)::aQ) σ H' t∧Same H H'∧ks=as.map ae.ref∧∀ (i:Nat) a,as[i]? =some a→H' a=some (.tup [.int (key i).1,.int (key i).2]),⟨0,H,[],I,Same.refl H,rfl,fun i a e=>by simp at e⟩,?_,?_⟩
 ·rintro ks x e t hx ⟨e',H',as,I',S',rfl,has⟩ hk
  rw [aa] at hx;have hi:as.length<n:=by rw [←hl];exact (av.mp hx).1
  obtain ⟨tk,rfl⟩:=hv _ x hx;refine cy (hf t H' _ as.length tk hi I' S') (fun k t' hk'=>?_) fun _ _ z=>z
  obtain ⟨q,H'',I'',S'',rfl,hq⟩:=hk';have pk:=(I''.pin _ (aG _ (bF ..))).1;have pk0:=(I'.pin _ (aG _ (bF ..))).1;have pk0:t.heap.get? kS=some (bJ "list" (as.map ae.ref).toArray e'):=pk0;rw [hk] at pk0;have ee:e=e':=by cases pk0;rfl
  refine ⟨by rw [ee];exact pk,fun h' c hsb hg=>⟨c,H'',as++[q],I''.repin k0 kC pK hsb hg (fun v z=>by cases z),S'.trans S'',by rw [aA];rfl,fun i a ea=>?_⟩⟩
  by_cases hlt:i<as.length
  ·rw [fT hlt] at ea
   exact S'' _ _ (has i a ea)
  ·rw [bS (by omega)] at ea
   have hz:i=as.length:=by
    have:=(av.mp ea).1;simp only [gO] at this;omega
   subst hz;rw [Nat.sub_self] at ea;cases ea;exact hq
 ·rintro ks t hks ⟨e',H',as,I',S',rfl,has⟩
  rw [aa] at hks;obtain ⟨pd,nD,lD,fD,_⟩:=I'.pin (D,bJ "list" #[] e1) (aG _ (ax _ (bF ..)));obtain ⟨pk,nK,lK,fK,_⟩:=I'.pin (kS,bJ "list" (as.map ae.ref).toArray e') (aG _ (bF ..));have pd:t.heap.get? D=some (bJ "list" #[] e1):=pd;have pk:t.heap.get? kS=some (bJ "list" (as.map ae.ref).toArray e'):=pk;have kat:∀ i,i<n→kyP ((aP n).map key) i=key i:=fun i hi=>by
   rw [kyP_at (by rw [aa,bo];exact hi),ic,iH]
  have PR:PrsAt t.heap (as.map ae.ref) ((aP n).map key):=prs_of I' (by rw [aa,bo];omega) fun i a k ea ek=>by
   rw [ay] at ek;obtain ⟨j,ej,rfl⟩:=bx.mp ek;have hi:i<n:=by have:=(av.mp ej).1;rw [bo] at this;exact this
   rw [gi hi] at ej;cases ej;exact has i a ea
  have ln:((aP n).map key).length=n:=by rw [aa,bo]
  have O:=ord_of hnd;rw [ln] at O;refine ⟨pd,tuples' true,fun i j=>ltP (kyP ((aP n).map key) i) (kyP ((aP n).map key) j),by rw [hl];exact O,fun h2 Q' q'=>prs_kind (s:=t) PR (by rw [aa];omega) q',fun i j C hi hj c=>prs_ask (s:=t) PR (by rw [aa];omega) (by rw [aa];omega) c,fun p pm so=>?_⟩;rw [hl] at pm so;have s1:=fS t.heap kS (cT fun _=>(#[]:Array ae));obtain ⟨ck,hck⟩:∃ ck,(t.heap.update kS (cT fun _=>(#[]:Array ae))).get? kS=some (bJ "list" #[] ck):=⟨_,iP pk fun _=> #[]⟩;have I1:=I'.repin k0 kC pK s1 hck (fun v z=>by cases z);have I2:=I1.unpin;have hD1:(t.heap.update kS (cT fun _=>(#[]:Array ae))).get? D=some (bJ "list" #[] e1):=by rw [gj _ _ _ _ (cp hne)];exact pd
  have s2:=fS (t.heap.update kS (cT fun _=>(#[]:Array ae))) D (cT fun _=>iQ (p.toList.map fun i=>vs.getD i ae.none));obtain ⟨cD,hcD⟩:∃ cD,(oy t.heap kS D (p.toList.map fun i=>vs.getD i ae.none)).get? D=some (bJ "list" (iQ (p.toList.map fun i=>vs.getD i ae.none)) cD):=⟨_,iP hD1 fun _=>iQ (p.toList.map fun i=>vs.getD i ae.none)⟩;have I3:=(I2.repin d0 dC dP s2 hcD (fun v z=>by cases z)).unpin;refine fin _ H' p.toList S' nD (I3.take nD d0 lD dC dP ⟨?_,_,cD,?_,hcD⟩) pm ?_
  ·rw [aa,pm.length_eq,bo];exact bj (by omega:n≤1000) (by decide)
  ·refine vals_at (by rw [aa,aa]) fun i x hx=>?_
   rw [ay] at hx;obtain ⟨j,hj,rfl⟩:=bx.mp hx;have hjn:j<n:=bP.mp (pm.mem_iff.mp (bp hj));obtain ⟨tk,ex⟩:=hv j vs[j] (gE (by omega));refine ⟨vs.getD j ae.none,by rw [ay,hj];rfl,?_⟩;rw [ai,gE (by omega)];exact ⟨tk,ex⟩
  ·refine List.pairwise_iff_getElem.mpr fun a b ha hb hab=>?_
   have sz:=Pm.size pm;rw [cJ] at ha hb;have:=so a b hab (by omega);have ea:gA p a=p.toList[a]:=by rw [kK,d7 ha];simp
   have eb:gA p b=p.toList[b]:=by rw [kK,d7 hb];simp
   have la:p.toList[a]<n:=by rw [←ea];exact pm.lt (by omega)
   have lb:p.toList[b]<n:=by rw [←eb];exact pm.lt (by omega)
   have this:ltP (kyP ((aP n).map key) (gA p a)) (kyP ((aP n).map key) (gA p b))=true:=this;rw [ea,eb,kat _ la,kat _ lb] at this;exact this
end
end L2
namespace L2
open PySem PySem.W PySem.Spec PyProof.Rows
def BM (mg:Str→Option ae)(base:bE):Prop:=∃ bm ob,mg "__builtins__" =some (.ref bm)∧bm≠builtinsNs∧bm≠bK∧base.get? bm=some ob∧ob.cls= .type "module" ∧ob.dict=some builtinsNs∧ob.data= .plain
def CdK (q:Str)(H:Hp)(c:ao):Prop:=∃ oc vs t,H c=some (.frz oc (.own 0))∧oc.data= .fields vs∧vs[1]? =some (.str q t)
def LamT (P:ao)(pos:Pos)(q:Str)(H:Hp):Prop :=
 H P=some (.tbl #[])∨∃ c,H P=some (.tbl #[rawInt pos.line,rawInt pos.col,.ref c])∧CdK q H c
def Tb (P:ao)(H H':Hp):Prop:=∀ a o,a≠P→H a=some o→H' a=some o
theorem Tb.refl {P:ao}(H:Hp):Tb P H H:=fun _ _ _ e=>e
theorem Tb.trans {P:ao}{H H1 H2:Hp}(a:Tb P H H1)(b:Tb P H1 H2):Tb P H H2:=fun x o n e=>b x o n (a x o n e)
theorem Same.tb {P:ao}{H H':Hp}(a:Same H H'):Tb P H H':=fun x o _ e=>a x o e
theorem LamT.same {P:ao}{pos:Pos}{q:Str}{H H':Hp}(a:Same H H')(k:LamT P pos q H):LamT P pos q H':=by
 rcases k with k | ⟨c,k,oc,vs,t,e,r⟩
 ·exact .inl (a _ _ k)
 ·exact .inr ⟨c,a _ _ k,oc,vs,t,a _ _ e,r⟩
def LamF (q:Str)(params:gH)(body:Expr)(scope:fV)(cl:List (Str×ao))(f:ao)(H:Hp):Prop :=
 ∃ pm c ct,H f=some (.frz (kla_obj "<lambda>" q params body scope cl pm c ct) (.own 0))∧CdK q H c
theorem LamF.same {q:Str}{params:gH}{body:Expr}{scope:fV}{cl:List (Str×ao)}{f:ao}{H H':Hp}(a:Same H H')(k:LamF q params body scope cl f H):LamF q params body scope cl f H' :=
 let ⟨pm,c,ct,e,oc,vs,t,e2,r⟩:=k;⟨pm,c,ct,a _ _ e,oc,vs,t,a _ _ e2,r⟩
section
variable {X:Cx} {aQ:List (ao×Obj)} {σ:List (Option V)} {H:Hp} {s:ar}
theorem Inv.grown {P:ao}{ps more:Array ae}{h':bE}{tk:Nat}(I:Inv X aQ σ H s)(hP:H P=some (.tbl ps))(hx:bE.ExtBut P s.heap h')(ht:h'.get? P=some (tabObj (ps++more))) :
  Inv X aQ σ (upd H P (.tbl (ps++more))) { s with heap:=h',toks:=tk }:=by
 have neP:∀ b,H b=none→b≠P:=fun b e z=>by rw [z,hP] at e;cases e
 have neO:∀ b o,H b=some o→(∀ ps,o≠ .tbl ps)→b≠P:=fun b o e hn z=>by rw [z,hP] at e;exact hn ps (cq e).symm
 refine I.step (g':=s.gens) (d':=s.drawn) (ch:=[]) (fun _ z=>nomatch z) (fun b o _ _ _ e n=>hx b o (neP b n) e) (fun b o _ _ _ e n=>⟨o.slots,hx b o (neP b n) e⟩) (fun b o _ _ n=>by rw [bf (neP b n)];exact n)
  (fun b o _ e=>?_) (fun b xs e=>by rw [bf (neO b _ e fun _ z=>by cases z)];exact e) (fun b o u e=>by rw [bf (neO b _ e fun _ z=>by cases z)];exact e) (fun b qs e=>?_) (fun m hn=>hn.extBut hx (neP _ I.free)) (fun b u e=>?_) I.bare
 ·by_cases hb:b=P
  ·exact ⟨_,hb ▸ ht⟩
  ·exact ⟨o,hx b o hb e⟩
 ·by_cases hb:b=P
  ·subst hb
   rw [hP] at e;cases e;exact ⟨more,aS⟩
  ·exact ⟨#[],by rw [bf hb,e];simp⟩
 ·by_cases hb:b=P
  ·subst hb
   rw [aS] at e;cases e;exact ht
  ·rw [bf hb] at e
   refine (I.hok b u e).stay (fun c v hc q=>hx c v ?_ q) (fun c q=>by rw [bf (neO c _ q fun _ z=>by cases z)];exact q) fun c xs q=>by rw [bf (neO c _ q fun _ z=>by cases z)];exact q
   rcases hc with rfl | hc
   ·exact hb
   ·exact neO c _ hc fun _ z=>by cases z
theorem lam_make {Q:ae→ar→Prop}{params:gH}{body:Expr}{scope:fV}{pos:Pos}{c P:ao}(I:Inv X aQ σ H s)(hd:defaultsOf params X.env=([],[]))(hcode:X.env.code= .ref c)(C:codeHdIn X.K c P=true)(B:BM X.mg X.base)
  (hfr:∀ y∈scope.names,y.2= .free→X.env.scope.names.lookup y.1=some .cell) (T:LamT P pos (X.env.qual ++ "<lambda>") H)
  (h:∀ f cl H' s',Inv X aQ σ H' s'→Tb P H H'→LamT P pos (X.env.qual ++ "<lambda>") H'→LamF (X.env.qual ++ "<lambda>") params body scope cl f H'→(∀ x c,cl.lookup x=some c→X.env.cells.lookup x=some c)→(∀ y∈scope.names,y.2= .free→cl.lookup y.1=X.env.cells.lookup y.1)→Q (.ref f) s') :
  aX (br X.prog X.w) X.A (eZ (.Lambda params body scope pos) X.env) Q X.xe s:=by
 obtain ⟨cl,hclos,c1,c2⟩:=oA (scope:=scope) (env:=X.env) fun y hy hk=>I.ok.has _ (.inl (hfr y hy hk))
 refine kla_eval hd ?_;have hgs:s.heap.Ns bK X.mg:=I.mod.glob.keeps I.bk;obtain ⟨bm,ob,b1,b2,b3,b4,b5⟩:=B;have CH:CodeHd s.heap c P:=codeHd_of_K I.kIn C;obtain ⟨ps,hP⟩:∃ ps,H P=some (.tbl ps):=by
  rcases T with T | ⟨c',T,_⟩
  ·exact ⟨_,T⟩
  ·exact ⟨_,T⟩
 have hbP:bm≠P:=fun q=>by have z:=(I.bs bm ob b4).2;rw [q,hP] at z;cases z
 have hgP:bK≠P:=fun q=>by
  obtain ⟨o,es,ep,e,_⟩:=I.mod.glob;have z:=(I.bs _ o e).2;rw [q,hP] at z;cases z
 have hBA:s.heap.BuiltinsAt X.mg P:=⟨bm,ob,b1,b2,b3,hbP,I.bk _ _ b4,b5⟩;have fin:∀ (H1:Hp) (h1:bE) (tk:Nat) (c':ao) (ctv:ae),Inv X aQ σ H1 { s with heap:=h1,toks:=tk }→Tb P H H1→LamT P pos (X.env.qual ++ "<lambda>") H1→CdK (X.env.qual ++ "<lambda>") H1 c' →
   Q (.ref h1.objs.size) { s with heap:=h1.push (kla_obj "<lambda>" (X.env.qual ++ "<lambda>") params body scope cl ((X.mg "__name__").getD .none) c' ctv),toks:=tk }:=fun H1 h1 tk c' ctv I1 t1 T1 K1=>by
  have fr:H1 h1.objs.size=none:=I1.hok.fresh (aC _);have S:Same H1 (upd H1 h1.objs.size (.frz (kla_obj "<lambda>" (X.env.qual ++ "<lambda>") params body scope cl ((X.mg "__name__").getD .none) c' ctv) (.own 0))):=fun a o e=>by rw [bf (aY e fr)];exact e
  have I2:=I1.laid (t':=tk) (a:=h1.objs.size) (o:= .frz (kla_obj "<lambda>" (X.env.qual ++ "<lambda>") params body scope cl ((X.mg "__name__").getD .none) c' ctv) (.own 0)) (h':=h1.push (kla_obj "<lambda>" (X.env.qual ++ "<lambda>") params body scope cl ((X.mg "__name__").getD .none) c' ctv)) (fun b u e=>au _ e) (aC _) ⟨bg _ rfl,_,bg _ rfl⟩;obtain ⟨oc,vs,t,e,r⟩:=K1;exact h _ cl _ _ I2 (t1.trans S.tb) (T1.same S) ⟨_,c',ctv,aS,oc,vs,t,S _ _ e,r⟩ c1 c2
 rcases T with T | ⟨c',T,K⟩
 ·rw [T] at hP;cases hP
  have hPh:s.heap.get? P=some (tabObj #[]):=I.hok P _ T;refine kla_makeFunction (mg:=X.mg) hclos I.ok.glob hgs hcode CH hPh trivial rfl hgP hBA fun c' ctv h' tk hx hge hlt hrec htb=>?_
  have I1:=I.grown (tk:=tk) T hx htb;obtain ⟨c2',oc,vs,t,e2,hoc,hdd,hv⟩:=hrec;cases e2;have Plt:P<s.heap.objs.size:=aN hPh;have ncP:c'≠P:=eE (aU Plt hge);have frc:H c'=none:=I.hok.fresh hge;have hn1:(upd H P (.tbl (#[]++ #[rawInt pos.line,rawInt pos.col,.ref c']))) c'=none:=by rw [bf ncP];exact frc
  have old:∀ b o,s.heap.get? b=some o→b≠c':=fun b o e=>bM (aU (aN e) hge)
  have I2:=I1.take (D:=c') (o:= .frz oc (.own 0)) hn1 (bj I.sz hge) (eE (aU I.lt hge)) (fun x d e=>by obtain ⟨v,o,ho,_⟩:=I.cell x d e;exact old d o ho) (fun p hp=>old _ _ (I.pin p hp).1) ⟨hoc,_,hoc⟩;refine fin _ h' tk c' ctv I2 (fun a o hn e=>?_) (.inr ⟨c',?_,oc,vs,t,aS,hdd,hv⟩) ⟨oc,vs,t,aS,hdd,hv⟩
  ·rw [bf (aY e frc),bf hn];exact e
  ·rw [bf (cp ncP),aS];rfl
 ·rw [T] at hP;cases hP
  have hPh:s.heap.get? P=some (tabObj #[rawInt pos.line,rawInt pos.col,.ref c']):=I.hok P _ T;refine kla_makeFunctionHit (cv:= .ref c') (mg:=X.mg) hclos I.ok.glob hgs hcode CH hPh trivial (codeAmong_snoc [] trivial rfl) hBA fun ctv h' tk hk hsz=>?_
  exact fin H h' tk c' ctv (I.kept hk) (Tb.refl H) (.inr ⟨c',T,K⟩) K
def cxLam (X:Cx)(q:Str)(scope:fV)(cl:List (Str×ao))(L f:ao)(cd:ae)(N:List Str)(s:ar)(H:Hp):Cx :=
 { X with A:=X.A.in1.in1.deeper (envX q scope L f cd cl),N:=N,s₀:=s,H₀:=H,env:=envX q scope L f cd cl,outer:=X.stack,stack:=envX q scope L f cd cl::X.stack,ex:=[],calm:=true,fn:=fun _=>false,pn:=[],xe:=fun _ _=>False }
theorem lam_call {q:Str}{params:gH}{body:Expr}{scope:fV}{cl:List (Str×ao)}{f:ao}{u:ae}{v:V}{x:Str}{fr:List Str}{js:List Nat}{te:TE}{Q:VK}(I:Inv X aQ σ H s)(hc:X.calm=true)(hr:X.A.depth<recursionLimit)(F:LamF q params body scope cl f H)(ru:RelV v u)
  (hbind:∀ pm cdv ct,bindArgs (kla_fn "<lambda>" q params body scope cl pm cdv ct) ⟨[u],[]⟩=fQ [(x,u)])
  (hk:scope.kind= .function) (hco:scope.isCoroutine=false) (hgen:scope.isGenerator=false) (iM:∀ y∈scope.names,y.2≠ .cell) (hx:scope.names.lookup x=some .local) (hfx:x ∉ fr)
  (c1:∀ x c,cl.lookup x=some c→X.env.cells.lookup x=some c) (c2:∀ y∈scope.names,y.2= .free→cl.lookup y.1=X.env.cells.lookup y.1)
  (hfr:∀ y∈scope.names,y.2= .free→X.env.scope.names.lookup y.1=some .cell) (hjs:js.map (fun j=>X.N[j]?)=fr.map some) (hfv:∀ y∈fr,scope.names.lookup y=some .free)
  (hb:∀ L cd s' H',PE (cxLam X q scope cl L f cd (x::fr) s' H') body te) (ht:te (some v::dQ σ js) H Q) :
  aX (br X.prog X.w) X.A.in1.in1 (call (.ref f) [u]) (EP X aQ σ Q) (fun _ _=>False) s:=by
 obtain ⟨pm,cd,ct,e,oc,vs,t,ec,hdc,hvc⟩:=F;have ho:s.heap.get? f=some (kla_obj "<lambda>" q params body scope cl pm cd ct):=(I.hok f _ e).1;have hoc:s.heap.get? cd=some oc:=(I.hok cd _ ec).1;refine wpAny_call (kla_callFunE hr ho rfl hco hgen rfl ⟨cd,oc,vs,t,rfl,hoc,hdc,hvc⟩ ?_);rw [hbind];refine aJ (wpAny_newFunctionEnv iM (fun y hy=>?_) (fun h₁ hns hsb=>⟨I.nolimit.fresh _ hsb,?_⟩) hk)
 ·rw [aw.mp hy];exact hx
 show codeAny _ _ (.expr body (envX q scope s.heap.objs.size f (.ref cd) cl)) _ _;have old:∀ b o,s.heap.get? b=some o→h₁.get? b=some o:=fun b o e=>hsb.extBut b o (bM (aN e)) (au _ e)
 refine kla_codeExpr ?_;have ok':(cxLam X q scope cl s.heap.objs.size f (.ref cd) (x::fr) s H).Ok:=by
  refine ⟨I.ok.mod,hk,rfl,rfl,aC _,fun a b c e1 e2=>I.ok.inj a b c (c1 a c e1) (c1 b c e2),fun y hy=>?_,fun _ _ z=>pj z (by intro q;cases q),fun _=>I.ok.hd hc,bU.frames_deeper I.ok.frames,.inr ⟨rfl,rfl⟩,fun b hb=>pj (show b∈([]:List ao) from hb) (by simp),I.bs,bj I.ok.bsz I.sz,fun b o e hb=>pj (show b∈([]:List ao) from hb) (by simp),fun b hb=>pj (show b∈([]:List ao) from hb) (by simp),I.stack,I.stkFree⟩;have hy:scope.names.lookup y=some .cell∨scope.names.lookup y=some .free:=hy
  rcases hy with hy | hy
  ·exact pj rfl (iM _ (cj hy))
  ·have hm:=cj hy
   obtain ⟨c,e⟩:=I.ok.has y (.inl (hfr _ hm rfl));exact ⟨c,(c2 _ hm rfl).trans e⟩
 have lenB:(dQ σ js).length=fr.length:=by
  have e:=pG List.length hjs;rw [aa,aa] at e;unfold dQ;rw [aa];exact e
 have I1:Inv (cxLam X q scope cl s.heap.objs.size f (.ref cd) (x::fr) s H) [] (some v::dQ σ js) H { s with heap:=h₁,toks:=s.toks+1 }:=by
  refine ⟨ok',rfl,I.bare,Un.kept old,⟨_,hns,fun i y v' e1 e2 e3=>?_⟩,fun y c e=>?_,I.hok.fresh (aC _),fun y c e=>I.freeC y c (c1 y c e),fun p hp=>pj (show p∈([]:List (ao×Obj)) from hp) (by simp),I.hok.kept old,?_⟩
  ·cases i with
   | zero =>
    have e1:some x=some y:=e1;have e2:some (some v)=some (some v'):=e2;cases e1;cases e2;exact ⟨u,ru,.inl ⟨hx,by show eJ x [(x,u)]=_;rw [dh,beq_self_eq_true]⟩⟩
   | succ i =>
    have e1:fr[i]? =some y:=e1;have e2:(dQ σ js)[i]? =some (some v'):=e2;unfold dQ at e2;rw [ay] at e2;obtain ⟨j,ej,e2⟩:=bx.mp e2;have hN:X.N[j]? =some y:=by
     have q:=pG (fun l=>l[i]?) hjs;simp only [ay,ej,e1,fR] at q;exact cq q
    have hσ:σ[j]? =some (some v'):=by
     cases z:σ[j]? with
     | none=>rw [z] at e2;cases e2
     | some w=>rw [z] at e2;exact pG some e2
    have hfree:=hfv y (bp e1);have hm:=cj hfree;have hce:X.env.scope.names.lookup y=some .cell:=hfr _ hm rfl;obtain ⟨m,_,hl⟩:=I.loc;obtain ⟨u',ru',look⟩:=hl j y v' hN hσ (.inr (.inl hce));refine ⟨u',ru',.inr ⟨.inr hfree,?_⟩⟩
    rcases look with ⟨k,_⟩ | ⟨_,c,ec,ho⟩
    ·have k:X.env.scope.names.lookup y=some .local:=k
     rw [hce] at k;cases k
    ·obtain ⟨o,ho,hd⟩:=ho
     exact ⟨c,(c2 _ hm rfl).trans ec,o,old c o ho,hd⟩
  ·obtain ⟨v',o,ho,hd⟩:=I.cell y c (c1 y c e)
   exact ⟨v',o,old c o ho,hd⟩
  ·show (some v::dQ σ js).length=(x::fr).length
   rw [aV,aV,lenB]
 refine cy (hb _ _ s H [] _ _ H Q I1 ht) (fun w s' hs=>?_) fun _ _ z=>z.elim
 obtain ⟨v',H',J,rv,qv⟩:=hs;exact I.after ⟨v',H',J.os,J.bare,J.base,J.hok,rv,qv⟩
end
def SortQ (P:ao)(lp:Pos)(lq:Str)(js:List Nat)(te:TE)(σ:St)(Q:VK)(v:V)(H1:Hp):Prop:=∃ (r:ao) (n:Nat) (key:Nat→Int×Int),v= .ref r∧H1 r=some (.rng 0 n)∧n<64∧LamT P lp lq H1∧((aP n).map key).Nodup ∧
 (∀ i:Nat,i<n→∀ H2,Tb P H1 H2→te (some (.int i)::dQ σ js) H2 fun u H3=>Same H2 H3∧∃ a,u= .ref a∧H3 a=some (.tup [.int (key i).1,.int (key i).2])) ∧
 ∀ (D:ao) (H4:Hp) (π:List Nat),Tb P H1 H4→LamT P lp lq H4→H4 D=none→π.Perm (aP n)→π.Pairwise (fun i j=>ltP (key i) (key j)=true)→Q (.ref D) (upd H4 D (.lst (π.map fun (i:Nat)=>V.int i)))
def tSortL (P:ao)(lp:Pos)(lq:Str)(tr:TE)(js:List Nat)(te:TE):TE:=fun σ H Q=>tr σ H fun v H1=>SortQ P lp lq js te σ Q v H1
def SortQ1 (P:ao)(lp:Pos)(lq:Str)(js:List Nat)(te:TE)(σ:St)(Q:VK):List V→Hp→Prop
 | [v],H1=>SortQ P lp lq js te σ Q v H1
 | _,_=>False
theorem rng_size0 {n:Nat}:d9 0 (n:Int) 1=n:=by
 unfold d9;rw [pf (by decide)]
 by_cases h0:(0:Int)<n
 ·rw [pf h0,Int.ediv_one];omega
 ·rw [pe h0];omega
theorem rng_small0 {n:Nat}(h:n<64):gM 0 (n:Int) 1=true:=by unfold gM;rw [rng_size0];unfold fM.Range.rangeFitsLong;simp;omega
theorem pe_sortL {X:Cx}{re:Expr}{tr te:TE}{params:gH}{body:Expr}{scope:fV}{lp p kp pos:Pos}{c P:ao}{x:Str}{fr:List Str}{js:List Nat}(hc:X.calm=true)(hrm:X.A.depth<recursionLimit)(hg:Gl X "sorted")(hm:X.mg "sorted" =none)(hi:PE X re tr)
  (hd:defaultsOf params X.env=([],[])) (hcode:X.env.code= .ref c) (C:codeHdIn X.K c P=true) (B:BM X.mg X.base)
  (hbind:∀ q cl pm cdv ct (u:ae),bindArgs (kla_fn "<lambda>" q params body scope cl pm cdv ct) ⟨[u],[]⟩=fQ [(x,u)])
  (hk:scope.kind= .function) (hco:scope.isCoroutine=false) (hgen:scope.isGenerator=false) (iM:∀ y∈scope.names,y.2≠ .cell) (hx:scope.names.lookup x=some .local) (hfx:x ∉ fr)
  (hfr:∀ y∈scope.names,y.2= .free→X.env.scope.names.lookup y.1=some .cell) (hjs:js.map (fun j=>X.N[j]?)=fr.map some) (hfv:∀ y∈fr,scope.names.lookup y=some .free)
  (hb:∀ cl L f cd s' H',PE (cxLam X (X.env.qual ++ "<lambda>") scope cl L f cd (x::fr) s' H') body te)
  (he:gF pos (bC [re] X.env)=(false,eZ re X.env)::gF pos (bC [] X.env):=by rfl)
  (hs:bC [re] X.env=(false,eZ re X.env)::bC [] X.env:=by rfl) (hpl:(gF pos (bC [re] X.env)).any (·.1)=false:=by rfl) :
  PE X (.Call (.Name "sorted" p) [re] [⟨some "key",.Lambda params body scope lp,kp⟩] pos) (tSortL P lp (X.env.qual ++ "<lambda>") tr js te):=by
 intro aQ s σ H Q I h;refine fg (lV I hg hm (u:= .builtin "sorted") (by trivial) ?_);refine callWith_kw (kws:=[⟨some "key",.Lambda params body scope lp,kp⟩]) (thn ((ag hi az hs) pos aQ s σ H (SortQ1 P lp (X.env.qual ++ "<lambda>") js te σ Q) I h) fun us s1 ⟨vs,H1,I1,r1,q0⟩=>?_) he hpl;refine kws_cons ?_;obtain ⟨v,rfl⟩:∃ v,vs=[v]:=by
  cases vs with
  | nil=>exact q0.elim
  | cons v r=>cases r with
   | nil=>exact ⟨v,rfl⟩
   | cons _ _=>exact q0.elim
 have q1:SortQ P lp (X.env.qual ++ "<lambda>") js te σ Q v H1:=q0;obtain ⟨r,n,key,rfl,hr,h64,T,hnd,hkey,hQ⟩:=q1;obtain rfl:us=[.ref r]:=by
  cases r1 with
  | cons ru rs =>
   cases rs;exact pG (fun z=>[z]) ru
 refine lam_make (body:=body) I1 hd hcode C B hfr T fun f cl H2 s2 I2 tb T2 F2 c1 c2=>?_
 refine kws_nil ?_;show aX _ _ (call (.builtin "sorted") [.ref r] [(eD "key",.ref f)]) _ _ _;have rP:r≠P:=fun z=>by
  rcases T with T | ⟨_,T,_⟩ <;> rw [←z,hr] at T <;> cases T
 obtain ⟨t1,t2,t3,e3⟩:=I2.hok r _ (tb r _ rP hr);have hr3:IsRange s2.heap r 0 n 1 t1 t2 t3:=by first | exact e3 | exact ⟨_,e3,rfl,rfl⟩
 refine sorted_keyR (I2.ok.hd hc) hr3 (rng_small0 h64) rng_size0 h64 fun ws h1 tk D kS e1 hl hw hkeep hD hDk gD gK=>?_
 have I3:Inv X aQ σ H2 { s2 with heap:=h1,toks:=tk }:=I2.kept hkeep;have old:∀ b o,s2.heap.get? b=some o→b≠D∧b≠kS:=fun b o e=>⟨bM (aU (aN e) hD),bM (Nat.lt_trans (aU (aN e) hD) hDk)⟩
 have hDs:=aN gD;have hKs:=aN gK;have frD:H2 D=none:=I2.hok.fresh hD;have frK:H2 kS=none:=I2.hok.fresh (ik (cf hD hDk));have cc:∀ y d,X.env.cells.lookup y=some d→d≠D∧d≠kS:=fun y d e=>by obtain ⟨v,o,ho,_⟩:=I2.cell y d e;exact old d o ho
 have pp:∀ z∈X.pn++aQ,z.1≠D∧z.1≠kS:=fun z hz=>old _ _ (I2.pin z hz).1
 have nl:s2.heap.objs.size≤kS:=ik (cf hD hDk);have I4:Inv X ((kS,bJ "list" #[] 0)::(D,bJ "list" #[] e1)::aQ) σ H2 { s2 with heap:=h1,toks:=tk }:=I3.pins_of fun z hz=>by
  rcases aL.mp hz with rfl | hz
  ·exact ⟨gK,frK,eE (aU I2.lt nl),I2.nofs nl,fun v z=>by cases z⟩
  ·rcases aL.mp hz with rfl | hz
   ·exact ⟨gD,frD,eE (aU I2.lt hD),I2.nofs hD,fun v z=>by cases z⟩
   ·exact I3.pin z (aG _ hz)
 refine keyDo_of (num:=fun i=>(i:Int)) (key:=key) I4 hl h64 (fun i x e=>by obtain ⟨t,q⟩:=hw i x e;exact ⟨t,by rw [q];congr 1;omega⟩) (bj I2.sz nl) (bj I2.sz hD) (fun y d e=>(cc y d e).2) (fun y d e=>(cc y d e).1) (fun z hz=>(pp z hz).2) (fun z hz=>(pp z hz).1) (eE hDk) hnd ?_ ?_
 ·intro t H' pins' i tk hi' I' S'
  refine cy (lam_call (v:= .int i) I' hc hrm (F2.same S') ⟨_,rfl⟩ (fun pm cdv ct=>hbind _ _ _ _ _ _) hk hco hgen iM hx hfx c1 c2 hfr hjs hfv (fun L cd s' H'=>hb cl L f cd s' H') (hkey i hi' H' (tb.trans S'.tb))) (fun k t' ⟨v,H'',I'',rv,S'',a,ev,ea⟩=>?_) fun _ _ z=>z
  subst ev;obtain rfl:k= .ref a:=rv;exact ⟨a,H'',I'',S'',rfl,ea⟩
 ·intro t H' π S' hD' I' pm pw
  exact ⟨.ref D,_,I',rfl,hQ D H' π (tb.trans S'.tb) (T2.same S') hD' pm pw⟩
end L2
namespace HN
open PySem L2 PyProof.Rows
def z0:Sn:=⟨0,0,0,0,0⟩
def sAt (sp:List Sn)(i:Nat):Sn:=sp.getD i z0
theorem i8 {sp:List Sn}{i:Nat}(h:i<sp.length):sp[i]? =some (sAt sp i):=by
 unfold sAt;rw [ai,gE h];rfl
theorem eX {sp:List Sn}{i:Nat}(h:i<sp.length):sAt sp i∈sp:=bp (i8 h)
def wkey (sp:List Sn)(i:Nat):Int×Int:=((sAt sp i).o - (sAt sp i).l,(i:Int))
def Ordd (sp:List Sn)(π:List Nat):Prop:=π.Perm (aP sp.length)∧π.Pairwise fun i j=>ltP (wkey sp i) (wkey sp j)=true
theorem wkey_nodup (sp:List Sn)(n:Nat):((aP n).map (wkey sp)).Nodup:=by
 rw [cb,fm];refine List.Pairwise.imp (fun {a b} h e=>h ?_) ib;have:=pG Prod.snd e;exact Int.ofNat.inj this
theorem ltP_asym {x y:Int×Int}(h:ltP x y=true)(k:ltP y x=true):False:=by
 rw [ltP_iff] at h k;omega
theorem perm_eq {α:Type}{R:α→α→Prop}(as:∀ a b,R a b→R b a→a=b):∀ {l k:List α},l.Perm k→l.Pairwise R→k.Pairwise R→l=k
 | [],k,p,_,_=>(List.nil_perm.mp p).symm
 | a::l,k,p,hl,hk=>by
  cases k with
  | nil=>exact pj p.symm (by intro z;have:=List.nil_perm.mp z;cases this)
  | cons b k =>
   have ab:a=b:=by
    have ha:a∈b::k:=p.mem_iff.mp bF;have hb:b∈a::l:=p.mem_iff.mpr bF
    rcases aL.mp ha with e | ha
    ·exact e
    ·rcases aL.mp hb with e | hb
     ·exact e.symm
     ·exact as a b (List.rel_of_pairwise_cons hl hb) (List.rel_of_pairwise_cons hk ha)
   subst ab;rw [perm_eq as p.cons_inv (List.pairwise_cons.mp hl).2 (List.pairwise_cons.mp hk).2]
theorem Ordd.one {sp:List Sn}{π ρ:List Nat}(a:Ordd sp π)(b:Ordd sp ρ):π=ρ :=
 perm_eq (fun _ _ h k=>(ltP_asym h k).elim) (a.1.trans b.1.symm) a.2 b.2
theorem Ordd.lt {sp:List Sn}{π:List Nat}(a:Ordd sp π){i:Nat}(h:i∈π):i<sp.length:=bP.mp (a.1.mem_iff.mp h)
theorem Ordd.len {sp:List Sn}{π:List Nat}(a:Ordd sp π):π.length=sp.length:=by rw [a.1.length_eq,bo]
def iA (gs:List Int)(x y:Int):List Int:=gs.map fun g=>if g=y then x else g
def fH (sp:List Sn)(c:List Int×List Nat)(i:Nat):List Int×List Nat :=
 if tm c.1 (sAt sp i).s=tm c.1 (sAt sp i).g then c else (iA c.1 (tm c.1 (sAt sp i).s) (tm c.1 (sAt sp i).g),c.2++[i])
def jO (m:Nat):List Int:=(aP m).map fun (k:Nat)=>(k:Int)
def jV (sp:List Sn)(m:Nat)(π:List Nat):List Int×List Nat:=π.foldl (fH sp) (jO m,[])
def eI (ps:List (List Int))(x:Int):List Int:=(ps.filter fun p=>decide (x∈p)).headD []
def stepQ (sp:List Sn)(c:List (List Int)×List Nat)(i:Nat):List (List Int)×List Nat :=
 if eI c.1 (sAt sp i).s=eI c.1 (sAt sp i).g then c
 else (c.1.filter (fun p=> !(decide (p=eI c.1 (sAt sp i).s)) && !(decide (p=eI c.1 (sAt sp i).g)))++[eI c.1 (sAt sp i).s++eI c.1 (sAt sp i).g],c.2++[i])
def prt0 (m:Nat):List (List Int):=(aP m).map fun (k:Nat)=>[(k:Int)]
structure Rl (m:Nat)(gs:List Int)(ps:List (List Int)):Prop where
 len:gs.length=m
 cov:∀ x:Int,0≤x→x<m→∃ p∈ps,x∈p
 one:∀ p∈ps,∀ q∈ps,∀ x,x∈p→x∈q→p=q
 eqv:∀ x y:Int,0≤x→x<m→0≤y→y<m→(tm gs x=tm gs y↔∃ p∈ps,x∈p∧y∈p)
theorem Rl.part {m:Nat}{gs:List Int}{ps:List (List Int)}(R:Rl m gs ps){x:Int}(h0:0≤x)(h1:x<m):eI ps x∈ps∧x∈eI ps x:=by
 obtain ⟨p,hp,hx⟩:=R.cov x h0 h1;unfold eI;have hm:p∈ps.filter fun p=>decide (x∈p):=cN.mpr ⟨hp,pA hx⟩
 cases e:ps.filter fun p=>decide (x∈p) with
 | nil=>rw [e] at hm;cases hm
 | cons q r =>
  have hq:q∈ps.filter fun p=>decide (x∈p):=by rw [e];exact bF
  obtain ⟨a,b⟩:=cN.mp hq;exact ⟨a,pE b⟩
theorem Rl.is {m:Nat}{gs:List Int}{ps:List (List Int)}(R:Rl m gs ps){x y:Int}(h0:0≤x)(h1:x<m)(k0:0≤y)(k1:y<m):tm gs x=tm gs y↔x∈eI ps y:=by
 obtain ⟨p1,p2⟩:=R.part k0 k1;refine (R.eqv x y h0 h1 k0 k1).trans ⟨fun ⟨p,hp,hx,hy⟩=>?_,fun h=>⟨_,p1,h,p2⟩⟩;rw [←R.one p hp _ p1 y hy p2];exact hx
theorem Rl.same {m:Nat}{gs:List Int}{ps:List (List Int)}(R:Rl m gs ps){x y:Int}(h0:0≤x)(h1:x<m)(k0:0≤y)(k1:y<m):tm gs x=tm gs y↔eI ps x=eI ps y:=by
 refine (R.is h0 h1 k0 k1).trans ⟨fun h=>?_,fun h=>?_⟩
 ·exact R.one _ (R.part h0 h1).1 _ (R.part k0 k1).1 x (R.part h0 h1).2 h
 ·rw [←h];exact (R.part h0 h1).2
theorem j6 {gs:List Int}{u v x:Int}(h0:0≤x)(h1:x<gs.length):tm (iA gs u v) x=if tm gs x=v then u else tm gs x:=by
 obtain ⟨j,rfl⟩:=cx h0;have hj:j<gs.length:=by omega
 unfold tm iA;simp only [dA,ai,ay,gE hj,fR,Option.getD_some]
theorem Rl.join {m:Nat}{gs:List Int}{ps:List (List Int)}(R:Rl m gs ps){a b:Int}(a0:0≤a)(a1:a<m)(b0:0≤b)(b1:b<m) :
  Rl m (iA gs (tm gs a) (tm gs b)) (ps.filter (fun p=> !(decide (p=eI ps a)) && !(decide (p=eI ps b)))++[eI ps a++eI ps b]):=by
 obtain ⟨pa,ha⟩:=R.part a0 a1;obtain ⟨pb,hb⟩:=R.part b0 b1;have mem:∀ p,p∈ps.filter (fun p=> !(decide (p=eI ps a)) && !(decide (p=eI ps b)))++[eI ps a++eI ps b]↔(p∈ps∧p≠eI ps a∧p≠eI ps b)∨p=eI ps a++eI ps b:=fun p=>by
  rw [aM,cN,aw];simp only [dt,ft,decide_eq_false_iff_not,ne_eq]
 have uni:∀ p∈ps,p≠eI ps a→p≠eI ps b→∀ x,x∈p→x ∉ eI ps a++eI ps b:=fun p hp n1 n2 x hx hz=>by
  rcases aM.mp hz with hz | hz
  ·exact n1 (R.one p hp _ pa x hx hz)
  ·exact n2 (R.one p hp _ pb x hx hz)
 refine ⟨by unfold iA;rw [aa];exact R.len,fun x h0 h1=>?_,fun p hp q hq x hx hy=>?_,fun x y h0 h1 k0 k1=>?_⟩
 ·obtain ⟨p,hp,hx⟩:=R.cov x h0 h1
  by_cases e1:p=eI ps a
  ·exact ⟨_,(mem _).mpr (.inr rfl),aE _ (e1 ▸ hx)⟩
  ·by_cases e2:p=eI ps b
   ·exact ⟨_,(mem _).mpr (.inr rfl),aG _ (e2 ▸ hx)⟩
   ·exact ⟨p,(mem p).mpr (.inl ⟨hp,e1,e2⟩),hx⟩
 ·rcases (mem p).mp hp with ⟨p1,p2,p3⟩ | rfl
  ·rcases (mem q).mp hq with ⟨q1,q2,q3⟩ | rfl
   ·exact R.one p p1 q q1 x hx hy
   ·exact pj hy (uni p p1 p2 p3 x hx)
  ·rcases (mem q).mp hq with ⟨q1,q2,q3⟩ | rfl
   ·exact pj hx (uni q q1 q2 q3 x hy)
   ·rfl
 ·rw [j6 h0 (by rw [R.len];exact h1),j6 k0 (by rw [R.len];exact k1)]
  have xa:=R.is h0 h1 a0 a1;have xb:=R.is h0 h1 b0 b1;have ya:=R.is k0 k1 a0 a1;have yb:=R.is k0 k1 b0 b1;have xy:=R.eqv x y h0 h1 k0 k1
  constructor
  ·intro h
   by_cases e:tm gs x=tm gs y
   ·obtain ⟨p,hp,hx,hy⟩:=xy.mp e
    by_cases e1:p=eI ps a
    ·exact ⟨_,(mem _).mpr (.inr rfl),aE _ (e1 ▸ hx),aE _ (e1 ▸ hy)⟩
    ·by_cases e2:p=eI ps b
     ·exact ⟨_,(mem _).mpr (.inr rfl),aG _ (e2 ▸ hx),aG _ (e2 ▸ hy)⟩
     ·exact ⟨p,(mem p).mpr (.inl ⟨hp,e1,e2⟩),hx,hy⟩
   ·refine ⟨_,(mem _).mpr (.inr rfl),?_,?_⟩
    ·by_cases e1:tm gs x=tm gs b
     ·exact aG _ (xb.mp e1)
     ·rw [pe e1] at h
      by_cases e2:tm gs y=tm gs b
      ·rw [pf e2] at h;exact aE _ (xa.mp h)
      ·rw [pe e2] at h;exact pj h e
    ·by_cases e1:tm gs y=tm gs b
     ·exact aG _ (yb.mp e1)
     ·rw [pe e1] at h
      by_cases e2:tm gs x=tm gs b
      ·rw [pf e2] at h;exact aE _ (ya.mp h.symm)
      ·rw [pe e2] at h;exact pj h e
  ·rintro ⟨p,hp,hx,hy⟩
   rcases (mem p).mp hp with ⟨p1,p2,p3⟩ | rfl
   ·rw [xy.mpr ⟨p,p1,hx,hy⟩]
   ·have fx:∀ z:Int,(z∈eI ps a→tm gs z=tm gs a)→(z∈eI ps b→tm gs z=tm gs b)→z∈eI ps a++eI ps b→(if tm gs z=tm gs b then tm gs a else tm gs z)=tm gs a:=fun z f1 f2 hz=>by
     by_cases e:tm gs z=tm gs b
     ·rw [pf e]
     ·rw [pe e]
      rcases aM.mp hz with hz | hz
      ·exact f1 hz
      ·exact pj (f2 hz) e
    rw [fx x xa.mpr xb.mpr hx,fx y ya.mpr yb.mpr hy]
theorem l9 {m:Nat}{x:Int}(h0:0≤x)(h1:x<m):tm (jO m) x=x:=by
 obtain ⟨j,rfl⟩:=cx h0;unfold tm jO;rw [dA,ai,ay,gi (by omega)];rfl
theorem Rl.start (m:Nat):Rl m (jO m) (prt0 m):=by
 have mem:∀ p,p∈prt0 m↔∃ k:Nat,k<m∧p=[(k:Int)]:=fun p=>by
  unfold prt0;rw [bh];exact ⟨fun ⟨k,a,b⟩=>⟨k,bP.mp a,b.symm⟩,fun ⟨k,a,b⟩=>⟨k,bP.mpr a,b.symm⟩⟩
 refine ⟨by unfold jO;rw [aa,bo],fun x h0 h1=>⟨[x],(mem _).mpr ⟨x.toNat,by omega,by rw [gk h0]⟩,aw.mpr rfl⟩,fun p hp q hq x hx hy=>?_,fun x y h0 h1 k0 k1=>?_⟩
 ·obtain ⟨k,_,rfl⟩:=(mem p).mp hp
  obtain ⟨j,_,rfl⟩:=(mem q).mp hq;rw [←aw.mp hx,←aw.mp hy]
 ·rw [l9 h0 h1,l9 k0 k1]
  refine ⟨fun e=>⟨[x],(mem _).mpr ⟨x.toNat,by omega,by rw [gk h0]⟩,aw.mpr rfl,by rw [e];exact aw.mpr rfl⟩,fun ⟨p,hp,hx,hy⟩=>?_⟩;obtain ⟨k,_,rfl⟩:=(mem p).mp hp;rw [aw.mp hx,aw.mp hy]
def Ends (m:Nat)(sp:List Sn):Prop:=∀ x∈sp,0≤x.s∧x.s<m∧0≤x.g∧x.g<m
theorem oq {m:Nat}{sp:List Sn}(E:Ends m sp):∀ (π:List Nat) (gs:List Int) (ps:List (List Int)) (tk:List Nat),(∀ i∈π,i<sp.length)→Rl m gs ps→Rl m (π.foldl (fH sp) (gs,tk)).1 (π.foldl (stepQ sp) (ps,tk)).1∧(π.foldl (fH sp) (gs,tk)).2=(π.foldl (stepQ sp) (ps,tk)).2
 | [],gs,ps,tk,_,R=>⟨R,rfl⟩
 | i::π,gs,ps,tk,h,R=>by
  obtain ⟨a0,a1,b0,b1⟩:=E _ (eX (h i bF));have hs:=R.same a0 a1 b0 b1;rw [bQ,bQ];unfold fH stepQ
  by_cases e:tm gs (sAt sp i).s=tm gs (sAt sp i).g
  ·rw [pf (show tm (gs,tk).1 _=tm (gs,tk).1 _ from e),pf (show eI (ps,tk).1 _=eI (ps,tk).1 _ from hs.mp e)]
   exact oq E π gs ps tk (fun j hj=>h j (ax _ hj)) R
  ·rw [pe (show ¬ tm (gs,tk).1 _=tm (gs,tk).1 _ from e),pe (show ¬ eI (ps,tk).1 _=eI (ps,tk).1 _ from fun z=>e (hs.mpr z))]
   exact oq E π _ _ _ (fun j hj=>h j (ax _ hj)) (R.join a0 a1 b0 b1)
theorem jP (sp:List Sn):∀ (π:List Nat) (c:List Int×List Nat),(∀ i∈(π.foldl (fH sp) c).2,i∈c.2∨i∈π)∧(π.foldl (fH sp) c).2.length≤c.2.length+π.length
 | [],c=>⟨fun i h=> .inl h,aC _⟩
 | j::π,c=>by
  obtain ⟨a,b⟩:=jP sp π (fH sp c j);rw [bQ];have key:(∀ i∈(fH sp c j).2,i∈c.2∨i=j)∧(fH sp c j).2.length≤c.2.length+1:=by
   unfold fH;split
   ·exact ⟨fun i h=> .inl h,by omega⟩
   ·refine ⟨fun i h=>?_,by rw [aq];exact aC _⟩
    rcases aM.mp h with h | h
    ·exact .inl h
    ·exact .inr (aw.mp h)
  refine ⟨fun i hi=>?_,by rw [aV];omega⟩
  rcases a i hi with h | h
  ·rcases key.1 i h with h | h
   ·exact .inl h
   ·exact .inr (h ▸ bF)
  ·exact .inr (ax _ h)
def IsFor (m:Nat)(sp:List Sn)(ns:List Int):Prop:=∃ π,Ordd sp π∧ns.Perm ((jV sp m π).2.map fun (i:Nat)=>(i:Int))∧ns.Pairwise (· ≤ ·)
theorem IsFor.one {m:Nat}{sp:List Sn}{ns ms:List Int}(a:IsFor m sp ns)(b:IsFor m sp ms):ns=ms:=by
 obtain ⟨π,o1,p1,w1⟩:=a;obtain ⟨ρ,o2,p2,w2⟩:=b;rw [o1.one o2] at p1;exact perm_eq (fun a b h k=>by omega) (p1.trans p2.symm) w1 w2
theorem IsFor.len {m:Nat}{sp:List Sn}{ns:List Int}(a:IsFor m sp ns):ns.length≤sp.length:=by
 obtain ⟨π,o,p,_⟩:=a;rw [p.length_eq,aa];have:=(jP sp π (jO m,[])).2;have h2:=o.len;have h3:((jO m,([]:List Nat)).2).length=0:=rfl;unfold jV;omega
theorem NetT.ends {b m:Int}{sp:List Sn}(N:NetT b m sp):Ends m.toNat sp:=fun x hx=>by
 obtain ⟨s0,s1,g0,g1,_⟩:=N.all x hx;omega
theorem Tb.tupK {T:ao}{H H':Hp}(hT:∃ ps,H T=some (.tbl ps))(e:L2.Tb T H H'):TupK H H':=fun q xs h=>e q _ (by obtain ⟨ps,hT⟩:=hT;exact ie h hT nofun) h
theorem LamT.tbl {T:ao}{lp:Pos}{lq:Str}{H:Hp}(h:L2.LamT T lp lq H):∃ ps,H T=some (.tbl ps):=by
 rcases h with h | ⟨c,h,_⟩
 ·exact ⟨_,h⟩
 ·exact ⟨_,h⟩
theorem LamT.upd {T a:ao}{lp:Pos}{lq:Str}{H:Hp}{o:HO}(h:L2.LamT T lp lq H)(ha:∀ p u,H a=some (.frz p u)→False)(hb:∀ ps,H a=some (.tbl ps)→False):L2.LamT T lp lq (upd H a o):=by
 rcases h with h | ⟨c,h,oc,vs,t,e,r⟩
 ·exact .inl (by rw [bf (fun z=>hb _ (z ▸ h))];exact h)
 ·exact .inr ⟨c,by rw [bf (fun z=>hb _ (z ▸ h))];exact h,oc,vs,t,by rw [bf (fun z=>ha _ _ (z ▸ e))];exact e,r⟩
inductive spSpW (T:ao)(lp:Pos)(lq:Str)(vs:List V)(H:Hp)(Q:VK)(_:XK):Prop
 | mk (v b m sp:_)(_:vs=[v])(_:IsD H v (ko b m sp))(_:sp.length≤40)(_:L2.LamT T lp lq H)(_:∀ D H' π,L2.Tb T H H'→L2.LamT T lp lq H'→H' D=none→Ordd sp π→Q (.ref D) (L2.upd H' D (.lst (π.map fun (i:Nat)=>V.int i))))
inductive j7 (T:ao)(lp:Pos)(lq:Str)(vs:List V)(H:Hp)(Q:VK)(_:XK):Prop
 | mk (v b m sp:_)(_:vs=[v])(_:IsD H v (ko b m sp))(_:NetT b m sp)(_:L2.LamT T lp lq H)(_:∀ u H' ns,L2.Tb T H H'→L2.LamT T lp lq H'→H' u=some (.tup (ns.map V.int))→IsFor m.toNat sp ns→Q (.ref u) H')
def Finer (m:Nat)(gs hs:List Int):Prop:=∀ x y:Int,0≤x→x<m→0≤y→y<m→tm gs x=tm gs y→tm hs x=tm hs y
theorem Finer.refl (m:Nat)(gs:List Int):Finer m gs gs:=fun _ _ _ _ _ _ h=>h
theorem kJ (gs:List Int)(u v:Int):(iA gs u v).length=gs.length:=by unfold iA;rw [aa]
theorem Finer.wide {m:Nat}{gs hs:List Int}{u v:Int}(F:Finer m gs hs)(l2:hs.length=m):Finer m gs (iA hs u v):=by
 intro x y x0 x1 y0 y1 h;rw [j6 x0 (by omega),j6 y0 (by omega),F x y x0 x1 y0 y1 h]
theorem join_meets {m:Nat}{gs:List Int}{a b:Int}(l1:gs.length=m)(a0:0≤a)(a1:a<m)(b0:0≤b)(b1:b<m):tm (iA gs (tm gs a) (tm gs b)) a=tm (iA gs (tm gs a) (tm gs b)) b:=by
 rw [j6 a0 (by omega),j6 b0 (by omega),pf rfl]
 by_cases e:tm gs a=tm gs b
 ·rw [pf e]
 ·rw [pe e]
theorem iK (sp:List Sn)(gs:List Int)(tk:List Nat)(i:Nat):(tm gs (sAt sp i).s=tm gs (sAt sp i).g∧fH sp (gs,tk) i=(gs,tk))∨(tm gs (sAt sp i).s≠tm gs (sAt sp i).g∧fH sp (gs,tk) i=(iA gs (tm gs (sAt sp i).s) (tm gs (sAt sp i).g),tk++[i])):=by
 unfold fH
 by_cases e:tm gs (sAt sp i).s=tm gs (sAt sp i).g
 ·exact .inl ⟨e,pf e⟩
 ·exact .inr ⟨e,pe e⟩
theorem lY {m:Nat}{sp:List Sn}:∀ (π:List Nat) (gs hs:List Int) (tk:List Nat),hs.length=m→Finer m gs hs→Finer m gs (π.foldl (fH sp) (hs,tk)).1
 | [],_,_,_,_,F=>F
 | i::π,gs,hs,tk,l,F=>by
  rw [bQ]
  rcases iK sp hs tk i with ⟨_,e⟩ | ⟨_,e⟩ <;> rw [e]
  ·exact lY π gs hs tk l F
  ·exact lY π gs _ _ (by rw [kJ];exact l) (F.wide l)
theorem jU {m:Nat}{sp:List Sn}(E:Ends m sp):∀ (π:List Nat) (gs:List Int) (tk:List Nat),gs.length=m→(∀ i∈π,i<sp.length)→∀ i∈π,tm (π.foldl (fH sp) (gs,tk)).1 (sAt sp i).s=tm (π.foldl (fH sp) (gs,tk)).1 (sAt sp i).g
 | [],_,_,_,_,i,h=>by cases h
 | j::π,gs,tk,l,hp,i,h=>by
  rw [bQ];obtain ⟨a0,a1,b0,b1⟩:=E _ (eX (hp j bF));have hp':∀ i∈π,i<sp.length:=fun k hk=>hp k (ax _ hk)
  rcases iK sp gs tk j with ⟨q,e⟩ | ⟨_,e⟩ <;> rw [e]
  ·rcases aL.mp h with rfl | h
   ·exact lY π gs gs tk l (Finer.refl m gs) _ _ a0 a1 b0 b1 q
   ·exact jU E π gs tk l hp' i h
  ·have l':(iA gs (tm gs (sAt sp j).s) (tm gs (sAt sp j).g)).length=m:=by rw [kJ];exact l
   rcases aL.mp h with rfl | h
   ·exact lY π _ _ _ l' (Finer.refl m _) _ _ a0 a1 b0 b1 (join_meets l a0 a1 b0 b1)
   ·exact jU E π _ _ l' hp' i h
theorem oM {gs:List Int}{x:Int}(h0:0≤x)(h1:x<gs.length):tm gs x∈gs:=by
 obtain ⟨j,rfl⟩:=cx h0;unfold tm;rw [dA,ai,gE (by omega)];exact bR _
def Cnt (m:Nat)(gs:List Int)(k:Nat):Prop:=∃ D:List Int,D.Nodup∧(∀ v,v∈D↔v∈gs)∧D.length+k=m
theorem Cnt.join {m k:Nat}{gs:List Int}(C:Cnt m gs k){u v:Int}(hu:u∈gs)(hv:v∈gs)(n:u≠v):Cnt m (iA gs u v) (k+1):=by
 obtain ⟨D,nd,mem,l⟩:=C;have hvD:=(mem v).mpr hv;refine ⟨D.erase v,nd.erase v,fun z=>?_,by rw [List.length_erase_of_mem hvD];have:=List.length_pos_of_mem hvD;omega⟩;rw [nd.mem_erase_iff,mem];unfold iA;rw [bh]
 constructor
 ·rintro ⟨h1,h2⟩
  exact ⟨z,h2,pe h1⟩
 ·rintro ⟨w,hw,rfl⟩
  by_cases e:w=v
  ·rw [pf e];exact ⟨n,hu⟩
  ·rw [pe e];exact ⟨e,hw⟩
theorem gone_cnt {m:Nat}{sp:List Sn}(E:Ends m sp):∀ (π:List Nat) (gs:List Int) (tk:List Nat),gs.length=m→(∀ i∈π,i<sp.length)→Cnt m gs tk.length→Cnt m (π.foldl (fH sp) (gs,tk)).1 (π.foldl (fH sp) (gs,tk)).2.length
 | [],_,_,_,_,C=>C
 | j::π,gs,tk,l,hp,C=>by
  rw [bQ];obtain ⟨a0,a1,b0,b1⟩:=E _ (eX (hp j bF));have hp':∀ i∈π,i<sp.length:=fun k hk=>hp k (ax _ hk)
  rcases iK sp gs tk j with ⟨_,e⟩ | ⟨n,e⟩ <;> rw [e]
  ·exact gone_cnt E π gs tk l hp' C
  ·refine gone_cnt E π _ _ (by rw [kJ];exact l) hp' ?_
   rw [aq];exact C.join (oM a0 (by omega)) (oM b0 (by omega)) n
theorem Cnt.start (m:Nat):Cnt m (jO m) 0:=by
 refine ⟨jO m,?_,fun _=>Iff.rfl,by unfold jO;rw [aa,bo];omega⟩;unfold jO;rw [cb,fm];exact List.Pairwise.imp (fun {a b} h e=>h (Int.ofNat.inj e)) ib
theorem md:∀ {l k:List Int},l.Nodup→(∀ x∈l,x∈k)→l.length≤k.length
 | [],_,_,_=>bI _
 | a::l,k,nd,h=>by
  have ha:=h a bF;have ih:=md (l:=l) (k:=k.erase a) (bB.mp nd).2 fun x hx=>by
   have hxk:=h x (ax _ hx);have hne:x≠a:=fun z=>(bB.mp nd).1 (z ▸ hx)
   exact (List.mem_erase_of_ne hne).mpr hxk
  rw [List.length_erase_of_mem ha] at ih;have:=List.length_pos_of_mem ha;rw [aV];omega
theorem kh (m:Nat):(jO m).length=m:=by unfold jO;rw [aa,bo]
theorem ny (sp:List Sn):∀ (π:List Nat) (gs:List Int) (tk:List Nat),∃ more,(π.foldl (fH sp) (gs,tk)).2=tk++more
 | [],gs,tk=>⟨[],(fv tk).symm⟩
 | j::π,gs,tk=>by
  rw [bQ]
  rcases iK sp gs tk j with ⟨_,e⟩ | ⟨_,e⟩ <;> rw [e]
  ·exact ny sp π gs tk
  ·obtain ⟨more,h⟩:=ny sp π (iA gs (tm gs (sAt sp j).s) (tm gs (sAt sp j).g)) (tk++[j])
   exact ⟨j::more,by rw [h,List.append_assoc];rfl⟩
def ka (sp:List Sn)(l:List Nat):Int:=l.foldl (fun c i=>c * ((wkey sp i).1+1)) 1
theorem prodW_snoc (sp:List Sn)(l:List Nat)(i:Nat):ka sp (l++[i])=ka sp l * ((wkey sp i).1+1):=by unfold ka;rw [eP];rfl
theorem fold_mul (sp:List Sn):∀ (l:List Nat) (c:Int),l.foldl (fun c i=>c * ((wkey sp i).1+1)) c=c * ka sp l
 | [],c=>(Int.mul_one c).symm
 | i::l,c=>by
  unfold ka;rw [bQ,bQ,fold_mul sp l,fold_mul sp l,Int.one_mul,Int.mul_assoc]
theorem mm (sp:List Sn)(l:List Nat)(i:Nat):ka sp (i::l)=((wkey sp i).1+1) * ka sp l:=by
 show l.foldl _ (1 * ((wkey sp i).1+1))=_;rw [fold_mul,Int.one_mul]
def lkW (l:List (Int×List Stp))(x:Int):Option (List Stp):=(l.find? fun p=>decide (p.1=x)).map (·.2)
theorem kf (p:Int×List Stp)(l:List (Int×List Stp))(x:Int):lkW (p::l) x=if p.1=x then some p.2 else lkW l x:=by
 unfold lkW;rw [gI]
 by_cases e:p.1=x
 ·rw [pA e,pf e];rfl
 ·rw [pB e,pe e]
theorem k9 {l:List (Int×List Stp)}{y:Int}{ws:List Stp}(h:lkW l y=none)(x:Int):lkW (l++[(y,ws)]) x=if x=y then some ws else lkW l x:=by
 induction l with
 | nil =>
  show lkW [(y,ws)] x=_;rw [kf]
  by_cases e:x=y
  ·rw [pf e,pf e.symm]
  ·rw [pe e,pe (fun z=>e z.symm)]
 | cons p l ih =>
  rw [kf] at h
  by_cases e:p.1=y
  ·rw [pf e] at h;cases h
  ·rw [pe e] at h
   rw [List.cons_append,kf,kf,ih h]
   by_cases e1:p.1=x
   ·rw [pf e1,pf e1,pe (fun z=>e (e1.trans z))]
   ·rw [pe e1,pe e1]
def stF (tk:List Nat):List Stp:=tk.map (fun i=>⟨i,1⟩)++tk.map (fun i=>⟨i,-1⟩)
def dI (sp:List Sn)(tk:List Nat)(x:Int):List Stp:=(stF tk).filter fun s=>decide (kt sp s=x)
def g9 (sp:List Sn)(x:Int)(c:List (Int×List Stp)×List Int)(s:Stp):List (Int×List Stp)×List Int :=
 if lkW c.1 (eV sp s)=none then (c.1++[(eV sp s,(lkW c.1 x).getD []++[s])],c.2++[eV sp s]) else c
def kI (l:List Int):Int:=l.getLast?.getD 0
def oG (sp:List Sn)(tk:List Nat)(c:List (Int×List Stp)×List Int):List (Int×List Stp)×List Int :=
 (dI sp tk (kI c.2)).foldl (g9 sp (kI c.2)) (c.1,c.2.dropLast)
def itW (sp:List Sn)(tk:List Nat)(be:Int):Nat→List (Int×List Stp)×List Int
 | 0=>([(be,[])],[be])
 | k+1=>oG sp tk (itW sp tk be k)
def WayR (sp:List Sn)(tk:List Nat)(be en:Int)(p:List Stp):Prop:=∃ k,lkW (itW sp tk be k).1 en=some p∧∀ j,j<k→lkW (itW sp tk be j).1 en=none
structure Pth (sp:List Sn)(tk:List Nat)(be x:Int)(ws:List Stp):Prop where
 inn:∀ s∈ws,s.i∈tk∧s.i<sp.length∧(s.d=1∨s.d= -1)
 alo:Along sp be ws x
 one:(ws.map Stp.i).Nodup
 met:(be::ws.map (eV sp)).Nodup
theorem mem_stF {tk:List Nat}{s:Stp}(h:s∈stF tk):s.i∈tk∧(s.d=1∨s.d= -1):=by
 rcases aM.mp h with h | h
 ·obtain ⟨i,hi,rfl⟩:=bh.mp h;exact ⟨hi,.inl rfl⟩
 ·obtain ⟨i,hi,rfl⟩:=bh.mp h;exact ⟨hi,.inr rfl⟩
structure WI (m:Nat)(sp:List Sn)(tk:List Nat)(be:Int)(c:List (Int×List Stp)×List Int):Prop where
 pth:∀ x ws,lkW c.1 x=some ws→Pth sp tk be x ws∧∀ s∈ws,lkW c.1 (kt sp s)≠none∧lkW c.1 (eV sp s)≠none
 rng:∀ x,lkW c.1 x≠none→0≤x∧x<m
 ahd:∀ x∈c.2,lkW c.1 x≠none
 beg:lkW c.1 be≠none
def Clo (sp:List Sn)(tk:List Nat)(ex:Int→Prop)(c:List (Int×List Stp)×List Int):Prop:=∀ x,lkW c.1 x≠none→x ∉ c.2→¬ ex x→∀ s∈dI sp tk x,lkW c.1 (eV sp s)≠none
def l4 (l:List (Int×List Stp)):Nat:=(aP 16).countP fun x=>(lkW l ((x:Nat):Int)).isNone
theorem count_lt' {α:Type}{P Q:α→Bool}:∀ {l:List α},(∀ x∈l,Q x=true→P x=true)→∀ {a:α},a∈l→P a=true→Q a=false→l.countP Q<l.countP P
 | [],_,_,h,_,_=>pj h (by simp)
 | x::l,hPQ,a,h,hP,hQ=>by
  have le:l.countP Q≤l.countP P:=List.countP_mono_left fun y hy=>hPQ y (ax _ hy)
  rw [List.countP_cons,List.countP_cons]
  rcases aL.mp h with rfl | h
  ·rw [hP,hQ];simp;omega
  ·have ih:=count_lt' (P:=P) (Q:=Q) (l:=l) (fun y hy=>hPQ y (ax _ hy)) h hP hQ
   have:=hPQ x (by simp);cases q:Q x with
   | true=>rw [this q];simp;omega
   | false=>simp;omega
theorem cntW_new {l:List (Int×List Stp)}{y:Int}{ws:List Stp}(h:lkW l y=none)(y0:0≤y)(y1:y<16):l4 (l++[(y,ws)])<l4 l:=by
 unfold l4;obtain ⟨n,rfl⟩:=cx y0;refine count_lt' (a:=n) (fun x _ hx=>?_) (bP.mpr (by omega)) ?_ ?_
 ·rw [k9 h] at hx
  split at hx
  ·cases hx
  ·exact hx
 ·show (lkW l ((n:Nat):Int)).isNone=true
  rw [h];rfl
 ·show (lkW (l++[(((n:Nat):Int),ws)]) ((n:Nat):Int)).isNone=false
  rw [k9 h,pf rfl];rfl
theorem kL {m:Nat}{sp:List Sn}(E:Ends m sp){s:Stp}(hi:s.i<sp.length):0≤eV sp s∧eV sp s<m:=by
 obtain ⟨i,d⟩:=s;have hi:i<sp.length:=hi;rw [j5 hi];obtain ⟨a,b,c,e⟩:=E _ (bR hi);unfold too;split
 ·exact ⟨c,e⟩
 ·exact ⟨a,b⟩
theorem visit_ok {m:Nat}{sp:List Sn}{tk:List Nat}{be x:Int}(E:Ends m sp)(m16:m≤16)(ht:∀ i∈tk,i<sp.length){c:List (Int×List Stp)×List Int}{s:Stp}(I:WI m sp tk be c)(hx:lkW c.1 x≠none)(hs:s∈dI sp tk x)(C:Clo sp tk (· =x) c) :
  WI m sp tk be (g9 sp x c s)∧Clo sp tk (· =x) (g9 sp x c s)∧lkW (g9 sp x c s).1 (eV sp s)≠none∧(∀ y,lkW c.1 y≠none→lkW (g9 sp x c s).1 y=lkW c.1 y)∧2 * l4 (g9 sp x c s).1+(g9 sp x c s).2.length≤2 * l4 c.1+c.2.length∧(g9 sp x c s).1.length+l4 (g9 sp x c s).1≤c.1.length+l4 c.1:=by
 obtain ⟨hs1,hs2⟩:=cN.mp hs;have hfr:kt sp s=x:=pE hs2;obtain ⟨hst,hsd⟩:=mem_stF hs1;have hsn:=ht _ hst;have tr:=kL E hsn;unfold g9
 by_cases e:lkW c.1 (eV sp s)=none
 ·rw [pf e]
  obtain ⟨ws,hws⟩:∃ ws,lkW c.1 x=some ws:=Option.ne_none_iff_exists'.mp hx;have eg:(lkW c.1 x).getD []=ws:=by rw [hws];rfl
  rw [eg];have keep:∀ y,lkW c.1 y≠none→lkW (c.1++[(eV sp s,ws++[s])]) y=lkW c.1 y:=fun y hy=>by
   rw [k9 e,pe (fun (z:y=eV sp s)=>hy (by rw [z];exact e))]
  have new:lkW (c.1++[(eV sp s,ws++[s])]) (eV sp s)=some (ws++[s]):=by rw [k9 e,pf rfl]
  have more:∀ y,lkW c.1 y≠none→lkW (c.1++[(eV sp s,ws++[s])]) y≠none:=fun y hy=>by rw [keep y hy];exact hy
  obtain ⟨P,K⟩:=I.pth x ws hws;have hne:∀ st∈ws,st.i=s.i→False:=fun st hst' e2=>by
   obtain ⟨k1,k2⟩:=K st hst'
   rcases ends_of_span (sp:=sp) (st:=st) (d:=s.d) hsn e2 (P.inn st hst').2.2 hsd with z | z
   ·have z:eV sp st=eV sp s:=z
    rw [z] at k2;exact k2 e
   ·have z:kt sp st=eV sp s:=z
    rw [z] at k1;exact k1 e
  have hnew:Pth sp tk be (eV sp s) (ws++[s]):=by
   refine ⟨fun st hst'=>?_,P.alo.append ⟨hfr,rfl⟩,?_,?_⟩
   ·rcases aM.mp hst' with h | h
    ·exact P.inn st h
    ·rw [aw.mp h];exact ⟨hst,hsn,hsd⟩
   ·rw [aA]
    refine gS.mpr ⟨P.one,by simp,fun a ha b hb e3=>?_⟩;obtain ⟨st,hst',rfl⟩:=bh.mp ha;have hb:b=s.i:=by simpa using hb
    exact hne st hst' (by rw [e3,hb])
   ·rw [aA,←List.cons_append]
    refine gS.mpr ⟨P.met,by simp,fun a ha b hb e3=>?_⟩;have hb:b=eV sp s:=by simpa using hb
    subst hb;subst e3
    rcases aL.mp ha with z | z
    ·rw [z] at e;exact I.beg e
    ·obtain ⟨st,hst',e4⟩:=bh.mp z
     exact (K st hst').2 (by rw [e4];exact e)
  refine ⟨⟨fun y vs hy=>?_,fun y hy=>?_,fun y hy=>?_,more _ I.beg⟩,fun y hy hn ex t ht'=>?_,?_,keep,?_,?_⟩
  ·rw [k9 e] at hy
   by_cases ey:y=eV sp s
   ·rw [pf ey] at hy
    cases hy;rw [ey];refine ⟨hnew,fun st hst'=>?_⟩
    rcases aM.mp hst' with h | h
    ·exact ⟨more _ (K st h).1,more _ (K st h).2⟩
    ·rw [aw.mp h,hfr]
     exact ⟨more _ hx,by rw [new];exact fun z=>nomatch z⟩
   ·rw [pe ey] at hy
    obtain ⟨P',K'⟩:=I.pth y vs hy;exact ⟨P',fun st h=>⟨more _ (K' st h).1,more _ (K' st h).2⟩⟩
  ·have hy:lkW (c.1++[(eV sp s,ws++[s])]) y≠none:=hy
   rw [k9 e] at hy
   by_cases ey:y=eV sp s
   ·rw [ey];exact tr
   ·rw [pe ey] at hy;exact I.rng y hy
  ·rcases aM.mp hy with h | h
   ·exact more _ (I.ahd y h)
   ·rw [aw.mp h];show lkW (c.1++[(eV sp s,ws++[s])]) (eV sp s)≠none;rw [new];exact fun z=>nomatch z
  ·have hy:lkW (c.1++[(eV sp s,ws++[s])]) y≠none:=hy
   have hn:y ∉ c.2++[eV sp s]:=hn;have ey:y≠eV sp s:=fun z=>hn (aG _ (aw.mpr z))
   rw [k9 e,pe ey] at hy;exact more _ (C y hy (fun z=>hn (aE _ z)) ex t ht')
  ·show lkW (c.1++[(eV sp s,ws++[s])]) (eV sp s)≠none
   rw [new];exact fun z=>nomatch z
  ·have:=cntW_new (ws:=ws++[s]) e tr.1 (by omega)
   show 2 * l4 (c.1++[(eV sp s,ws++[s])])+(c.2++[eV sp s]).length≤_;rw [aq];have:[eV sp s].length=1:=rfl;omega
  ·have:=cntW_new (ws:=ws++[s]) e tr.1 (by omega)
   show (c.1++[(eV sp s,ws++[s])]).length+l4 (c.1++[(eV sp s,ws++[s])])≤_;rw [aq];have:[(eV sp s,ws++[s])].length=1:=rfl;omega
 ·rw [pe e]
  exact ⟨I,C,e,fun _ _=>rfl,aC _,aC _⟩
theorem nc {m:Nat}{sp:List Sn}{tk:List Nat}{be x:Int}(E:Ends m sp)(m16:m≤16)(ht:∀ i∈tk,i<sp.length):∀ {L:List Stp} {c:List (Int×List Stp)×List Int},WI m sp tk be c→lkW c.1 x≠none→(∀ s∈L,s∈dI sp tk x)→Clo sp tk (· =x) c →
  WI m sp tk be (L.foldl (g9 sp x) c)∧Clo sp tk (· =x) (L.foldl (g9 sp x) c)∧(∀ s∈L,lkW (L.foldl (g9 sp x) c).1 (eV sp s)≠none)∧(∀ y,lkW c.1 y≠none→lkW (L.foldl (g9 sp x) c).1 y=lkW c.1 y)∧2 * l4 (L.foldl (g9 sp x) c).1+(L.foldl (g9 sp x) c).2.length≤2 * l4 c.1+c.2.length∧(L.foldl (g9 sp x) c).1.length+l4 (L.foldl (g9 sp x) c).1≤c.1.length+l4 c.1
 | [],c,I,_,_,C=>⟨I,C,fun _ h=>(by cases h),fun _ _=>rfl,aC _,aC _⟩
 | s::L,c,I,hx,hL,C=>by
  obtain ⟨a1,a2,a3,a4,a5,a6⟩:=visit_ok E m16 ht I hx (hL s bF) C;obtain ⟨b1,b2,b3,b4,b5,b6⟩:=nc E m16 ht (L:=L) a1 (by rw [a4 x hx];exact hx) (fun t h=>hL t (ax _ h)) a2;rw [bQ];refine ⟨b1,b2,fun t h=>?_,fun y hy=>?_,bj b5 a5,bj b6 a6⟩
  ·rcases aL.mp h with rfl | h
   ·rw [b4 _ a3];exact a3
   ·exact b3 t h
  ·rw [b4 y (by rw [a4 y hy];exact hy),a4 y hy]
theorem turn_ok {m:Nat}{sp:List Sn}{tk:List Nat}{be:Int}(E:Ends m sp)(m16:m≤16)(ht:∀ i∈tk,i<sp.length){c:List (Int×List Stp)×List Int}(I:WI m sp tk be c)(C:Clo sp tk (fun _=>False) c)(hne:c.2≠[]) :
  WI m sp tk be (oG sp tk c)∧Clo sp tk (fun _=>False) (oG sp tk c)∧2 * l4 (oG sp tk c).1+(oG sp tk c).2.length<2 * l4 c.1+c.2.length∧(oG sp tk c).1.length+l4 (oG sp tk c).1≤c.1.length+l4 c.1:=by
 have hl:c.2.getLast? =some (c.2.getLast hne):=List.getLast?_eq_some_getLast hne;have e0:c.2=c.2.dropLast++[kI c.2]:=by
  unfold kI;rw [hl];exact (List.dropLast_concat_getLast hne).symm
 have hmem:kI c.2∈c.2:=by rw [e0];unfold kI;simp
 have hx:=I.ahd _ hmem;have I0:WI m sp tk be (c.1,c.2.dropLast):=⟨I.pth,I.rng,fun y hy=>I.ahd y ((List.dropLast_sublist _).subset hy),I.beg⟩;have C0:Clo sp tk (· =kI c.2) (c.1,c.2.dropLast):=fun y hy hn ex t ht'=>C y hy (fun z=>by
  rw [e0] at z
  rcases aM.mp z with z | z
  ·exact hn z
  ·exact ex (aw.mp z)) (fun z=>z) t ht'
 obtain ⟨b1,b2,b3,b4,b5,b6⟩:=nc E m16 ht (L:=dI sp tk (kI c.2)) I0 hx (fun _ h=>h) C0;refine ⟨b1,fun y hy hn _ t ht'=>?_,?_,b6⟩
 ·by_cases e:y=kI c.2
  ·subst e;exact b3 t ht'
  ·exact b2 y hy hn e t ht'
 ·have l1:c.2.dropLast.length+1=c.2.length:=by
   have:=pG List.length e0;rw [aq] at this;exact this.symm
  have b5:2 * l4 (oG sp tk c).1+(oG sp tk c).2.length≤2 * l4 c.1+c.2.dropLast.length:=b5;omega
theorem start_ok {m:Nat}{sp:List Sn}{tk:List Nat}{be:Int}(b0:0≤be)(b1:be<m):WI m sp tk be ([(be,[])],[be])∧Clo sp tk (fun _=>False) ([(be,[])],[be]):=by
 have lk:∀ x,lkW [(be,[])] x=if be=x then some [] else none:=fun x=>by rw [kf];rfl
 have kb:∀ x,lkW [(be,([]:List Stp))] x≠none→x=be:=fun x h=>by
  rw [lk] at h
  by_cases e:be=x
  ·exact e.symm
  ·rw [pe e] at h;exact pj rfl h
 have kn:lkW [(be,([]:List Stp))] be≠none:=by rw [lk,pf rfl];exact fun z=>nomatch z
 refine ⟨⟨fun x ws h=>?_,fun x h=>by rw [kb x h];exact ⟨b0,b1⟩,fun x h=>by rw [aw.mp h];exact kn,kn⟩,fun x h hn=>?_⟩
 ·have h:lkW [(be,[])] x=some ws:=h
  rw [lk] at h
  by_cases e:be=x
  ·rw [pf e] at h
   cases h;exact ⟨⟨fun _ h=>(nomatch h),e,List.nodup_nil,bB.mpr ⟨fun h=>(nomatch h),List.nodup_nil⟩⟩,fun _ h=>(nomatch h)⟩
  ·rw [pe e] at h;cases h
 ·exact pj (aw.mpr (kb x h)) hn
def Held (sp:List Sn)(tk:List Nat)(be en:Int):Prop:=∀ S:Int→Prop,(∀ i∈tk,S (sAt sp i).s↔S (sAt sp i).g)→S be→S en
theorem oY {sp:List Sn}{i:Nat}(h:i<sp.length):kt sp ⟨i,1⟩=(sAt sp i).s∧eV sp ⟨i,1⟩=(sAt sp i).g∧kt sp ⟨i,-1⟩=(sAt sp i).g∧eV sp ⟨i,-1⟩=(sAt sp i).s:=by
 have e:sAt sp i=sp[i]:=by unfold sAt;rw [ai,gE h];rfl
 rw [lh h,j5 h,lh h,j5 h,e];unfold frm too;exact ⟨rfl,rfl,rfl,rfl⟩
theorem left_of {m:Nat}{sp:List Sn}{tk:List Nat}{be en:Int}(ht:∀ i∈tk,i<sp.length)(hh:Held sp tk be en){c:List (Int×List Stp)×List Int}(I:WI m sp tk be c)(C:Clo sp tk (fun _=>False) c)(hn:lkW c.1 en=none):c.2≠[]:=fun z=>by
 refine hh (fun x=>lkW c.1 x≠none) (fun i hi=>?_) I.beg hn;have hin:=ht i hi;obtain ⟨f1,f2,f3,f4⟩:=oY hin;have m1:(⟨i,1⟩:Stp)∈dI sp tk (sAt sp i).s:=cN.mpr ⟨aE _ (bh.mpr ⟨i,hi,rfl⟩),pA f1⟩;have m2:(⟨i,-1⟩:Stp)∈dI sp tk (sAt sp i).g:=cN.mpr ⟨aG _ (bh.mpr ⟨i,hi,rfl⟩),pA f3⟩
 constructor
 ·intro h
  have:=C _ h (by rw [z];exact dg) (fun z=>z) _ m1;rw [f2] at this;exact this
 ·intro h
  have:=C _ h (by rw [z];exact dg) (fun z=>z) _ m2;rw [f4] at this;exact this
theorem held_of {m:Nat}{sp:List Sn}(E:Ends m sp)(S:Int→Prop):∀ (π:List Nat) (gs:List Int) (tk:List Nat),gs.length=m→(∀ i∈π,i<sp.length)→(∀ i∈(π.foldl (fH sp) (gs,tk)).2,S (sAt sp i).s↔S (sAt sp i).g) →
  (∀ x y:Int,0≤x→x<m→0≤y→y<m→tm gs x=tm gs y→(S x↔S y))→∀ x y:Int,0≤x→x<m→0≤y→y<m→tm (π.foldl (fH sp) (gs,tk)).1 x=tm (π.foldl (fH sp) (gs,tk)).1 y→(S x↔S y)
 | [],_,_,_,_,_,h=>h
 | j::π,gs,tk,l,hp,hS,h=>by
  rw [bQ] at hS ⊢;obtain ⟨a0,a1,b0,b1⟩:=E _ (eX (hp j bF));have hp':∀ i∈π,i<sp.length:=fun k hk=>hp k (ax _ hk)
  rcases iK sp gs tk j with ⟨_,e⟩ | ⟨_,e⟩ <;> rw [e] at hS ⊢
  ·exact held_of E S π gs tk l hp' hS h
  ·refine held_of E S π _ _ (by rw [kJ];exact l) hp' hS fun x y x0 x1 y0 y1 hxy=>?_
   obtain ⟨more,hm⟩:=ny sp π (iA gs (tm gs (sAt sp j).s) (tm gs (sAt sp j).g)) (tk++[j]);have hj:=hS j (by rw [hm];simp);rw [j6 x0 (by omega),j6 y0 (by omega)] at hxy
   by_cases e1:tm gs x=tm gs (sAt sp j).g
   ·have f1:=h x _ x0 x1 b0 b1 e1
    rw [pf e1] at hxy
    by_cases e2:tm gs y=tm gs (sAt sp j).g
    ·exact f1.trans (h y _ y0 y1 b0 b1 e2).symm
    ·rw [pe e2] at hxy
     exact f1.trans (hj.symm.trans (h _ y a0 a1 y0 y1 hxy))
   ·rw [pe e1] at hxy
    by_cases e2:tm gs y=tm gs (sAt sp j).g
    ·rw [pf e2] at hxy
     exact (h x _ x0 x1 a0 a1 hxy).trans (hj.trans (h y _ y0 y1 b0 b1 e2).symm)
    ·rw [pe e2] at hxy
     exact h x y x0 x1 y0 y1 hxy
theorem held_span {m:Nat}{sp:List Sn}(E:Ends m sp){π l:List Nat}(O:Ordd sp π)(pm:l.Perm (jV sp m π).2){k:Nat}(hk:k<sp.length):Held sp l (sAt sp k).g (sAt sp k).s:=by
 intro S hS hg;have hp:∀ i∈π,i<sp.length:=fun i hi=>O.lt hi
 obtain ⟨a0,a1,b0,b1⟩:=E _ (eX hk);refine (held_of E S π (jO m) [] (kh m) hp (fun i hi=>hS i (pm.mem_iff.mpr hi)) (fun x y x0 x1 y0 y1 h=>?_) _ _ a0 a1 b0 b1 (jU E π (jO m) [] (kh m) hp k (O.1.mem_iff.mpr (bP.mpr hk)))).mpr hg;rw [l9 x0 x1,l9 y0 y1] at h;rw [h]
theorem WayR.pth {m:Nat}{sp:List Sn}{tk:List Nat}{be en:Int}(E:Ends m sp)(m16:m≤16)(ht:∀ i∈tk,i<sp.length)(b0:0≤be)(b1:be<m)(hh:Held sp tk be en){p:List Stp}(h:WayR sp tk be en p):Pth sp tk be en p:=by
 obtain ⟨k,h1,h2⟩:=h;have key:∀ j,j≤k→WI m sp tk be (itW sp tk be j)∧Clo sp tk (fun _=>False) (itW sp tk be j):=by
  intro j
  induction j with
  | zero=>intro _;exact start_ok b0 b1
  | succ j ih =>
   intro hj;obtain ⟨I,C⟩:=ih (by omega);obtain ⟨a,b,_⟩:=turn_ok E m16 ht I C (left_of ht hh I C (h2 j (by omega)));exact ⟨a,b⟩
 exact ((key k (aC _)).1.pth en p h1).1
theorem Pth.len {m:Nat}{sp:List Sn}{tk:List Nat}{be en:Int}{p:List Stp}(E:Ends m sp)(b0:0≤be)(b1:be<m)(h:Pth sp tk be en p):p.length+1≤m:=by
 have:=md h.met (k:=jO m) fun x hx=>by
  have key:∀ x:Int,0≤x→x<m→x∈jO m:=fun x x0 x1=>by
   unfold jO;exact bh.mpr ⟨x.toNat,bP.mpr (by omega),gk x0⟩
  rcases aL.mp hx with rfl | hx
  ·exact key _ b0 b1
  ·obtain ⟨s,hs,rfl⟩:=bh.mp hx
   have t:=kL E (h.inn s hs).2.1;exact key _ t.1 t.2
 rw [aV,aa,kh] at this;exact this
def kq (pr:Int)(ps:List Int)(s:Stp):List Int:=ps.set s.i (ps.getD s.i 0 - pr * s.d)
def rowP (ps:List Int)(r:Int×List Stp):List Int:=r.2.foldl (kq r.1) ps
def ownM (sp:List Sn)(rows:List (Int×List Stp)):List Int:=rows.foldl rowP (sp.map Sn.w)
theorem nu {pr:Int}:∀ (ws:List Stp) (ps:List Int),(ws.foldl (kq pr) ps).length=ps.length
 | [],_=>rfl
 | s::ws,ps=>by
  rw [bQ,nu ws];unfold kq;rw [fu]
def hasS (k:Nat)(d:Int)(ws:List Stp):Bool:=ws.any fun s=>decide (s.i=k) && decide (s.d=d)
def ownV (k:Nat)(acc pr:Int)(ws:List Stp):Int:=if hasS k (-1) ws=true then (if hasS k 1 ws=true then acc - pr else acc)+pr else (if hasS k 1 ws=true then acc - pr else acc)
def ownS (k:Nat)(acc:Int)(r:Int×List Stp):Int:=ownV k acc r.1 r.2
theorem hasS_no {k:Nat}{d:Int}:∀ {ws:List Stp},k ∉ ws.map Stp.i→hasS k d ws=false
 | [],_=>rfl
 | s::ws,h=>by
  show (decide (s.i=k) && decide (s.d=d) || hasS k d ws)=false;rw [hasS_no (ws:=ws) fun z=>h (by rw [bV];exact ax _ z),pB (fun z=>h (by rw [bV,z];simp))];rfl
theorem steps_at {k:Nat}{pr:Int}:∀ (ws:List Stp) (ps:List Int),k<ps.length→(∀ s∈ws,s.d=1∨s.d= -1)→(ws.map Stp.i).Nodup→(ws.foldl (kq pr) ps).getD k 0=ownV k (ps.getD k 0) pr ws
 | [],_,_,_,_=>rfl
 | s::ws,ps,hk,hd,hn=>by
  rw [bV,bB] at hn;rw [bQ,steps_at ws _ (by unfold kq;rw [fu];exact hk) (fun t ht=>hd t (ax _ ht)) hn.2]
  by_cases e:s.i=k
  ·have h0:∀ d,hasS k d ws=false:=fun d=>hasS_no (by rw [←e];exact hn.1)
   have h1:∀ d,hasS k d (s::ws)=decide (s.d=d):=fun d=>by
    show (decide (s.i=k) && decide (s.d=d) || hasS k d ws)=_;rw [h0,pA e];simp
   have h2:(kq pr ps s).getD k 0=ps.getD k 0 - pr * s.d:=by
    unfold kq;rw [e,ai,dY hk];rfl
   unfold ownV;rw [h0,h0,h1,h1,h2]
   rcases hd s (by simp) with d1 | d1
   ·rw [d1];simp
   ·rw [d1];simp
  ·have h1:∀ d,hasS k d (s::ws)=hasS k d ws:=fun d=>by
    show (decide (s.i=k) && decide (s.d=d) || hasS k d ws)=_;rw [pB e];simp
   have h2:(kq pr ps s).getD k 0=ps.getD k 0:=by
    unfold kq;rw [ai,dU e,←ai]
   unfold ownV;rw [h1,h1,h2]
structure RwOk (n:Nat)(r:Int×List Stp):Prop where
 inn:oJ n r.2
 one:(r.2.map Stp.i).Nodup
 few:r.2.length≤17
 lo: -1000000000000≤r.1
 hi:r.1≤1000000000000
theorem nR {k n:Nat}:∀ (rows:List (Int×List Stp)) (ps:List Int),k<ps.length→(∀ r∈rows,RwOk n r)→(rows.foldl rowP ps).getD k 0=rows.foldl (ownS k) (ps.getD k 0)
 | [],_,_,_=>rfl
 | r::rows,ps,hk,h=>by
  have hr:=h r (by simp);rw [bQ,bQ,nR rows _ (by show k<(r.2.foldl (kq r.1) ps).length;rw [nu];exact hk) fun t ht=>h t (ax _ ht)];congr 1;exact steps_at r.2 ps hk (fun s hs=>(hr.inn s hs).2) hr.one
def wOf (sp:List Sn)(k:Nat):Int:=match sp[k]? with | some x=>x.w | none=>0
def lOf (sp:List Sn)(k:Nat):Int:=match sp[k]? with | some x=>x.l | none=>0
def owK (sp:List Sn)(rows:List (Int×List Stp))(k:Nat):Int:=rows.foldl (ownS k) (wOf sp k)
theorem own_at {sp:List Sn}{rows:List (Int×List Stp)}{k n:Nat}(hk:k<sp.length)(h:∀ r∈rows,RwOk n r):(ownM sp rows).getD k 0=owK sp rows k:=by
 unfold ownM owK;rw [nR rows _ (by rw [aa];exact hk) h];congr 1;unfold wOf;rw [ai,ay,gE hk];rfl
def termW (sp:List Sn)(bs:List (Int×Int))(rows:List (Int×List Stp))(k:Nat):Int:=owK sp rows k * (if owK sp rows k<0 then (bs.getD k (0,0)).2 else (bs.getD k (0,0)).1) - wOf sp k * lOf sp k
def rowsW (b:Int)(bs:List (Int×Int))(rows:List (Int×List Stp)):Int:=(rows.map fun r=>r.1 * upB b (fk bs r.2) * b).sum
def worthM (b:Int)(sp:List Sn)(bs:List (Int×Int))(rows:List (Int×List Stp)):Int:=rowsW b bs rows+((aP sp.length).map (termW sp bs rows)).sum
end HN
namespace L2
open PySem PySem.Spec PyProof.Rows
section
variable {X:Cx}
end
end L2
namespace HN
open PySem L2 PyProof.Rows
def kY (f:Nat→Int):Nat→Int
 | 0=>0
 | n+1=>kY f n+f n
theorem oN (f:Nat→Int):∀ n,((aP n).map f).sum=kY f n
 | 0=>rfl
 | n+1=>by
  rw [List.range_succ,aA,iG,oN f n];show kY f n+(f n+0)=kY f n+f n;omega
theorem mS (f g:Nat→Int):∀ n,kY (fun k=>f k+g k) n=kY f n+kY g n
 | 0=>rfl
 | n+1=>by
  show kY (fun k=>f k+g k) n+(f n+g n)=(kY f n+f n)+(kY g n+g n);rw [mS f g n];omega
theorem mR (c:Int)(f:Nat→Int):∀ n,kY (fun k=>c * f k) n=c * kY f n
 | 0=>(il c).symm
 | n+1=>by
  show kY (fun k=>c * f k) n+c * f n=c * (kY f n+f n);rw [mR c f n,jz]
theorem jr {f g:Nat→Int}:∀ n,(∀ k,k<n→f k=g k)→kY f n=kY g n
 | 0,_=>rfl
 | n+1,h=>by
  show kY f n+f n=kY g n+g n;rw [jr n fun k hk=>h k (by omega),h n (by omega)]
theorem sumN_none {i:Nat}{c:Int}{y:Nat→Int}:∀ n,n≤i→kY (fun k=>(if i=k then c else 0) * y k) n=0
 | 0,_=>rfl
 | n+1,h=>by
  show kY (fun k=>(if i=k then c else 0) * y k) n+(if i=n then c else 0) * y n=0;rw [sumN_none n (by omega),pe (by omega),fZ];rfl
theorem sumN_one {i:Nat}{c:Int}{y:Nat→Int}:∀ n,i<n→kY (fun k=>(if i=k then c else 0) * y k) n=c * y i
 | 0,h=>pj h (by omega)
 | n+1,h=>by
  show kY (fun k=>(if i=k then c else 0) * y k) n+(if i=n then c else 0) * y n=c * y i
  by_cases e:i=n
  ·subst e
   rw [sumN_none i (aC _),pf rfl,gG]
  ·rw [sumN_one n (by omega),pe e,fZ,Int.add_zero]
theorem sumN_list {α:Type}(f:α→Int)(xs:List α):∀ n,n≤xs.length→((xs.take n).map f).sum=kY (fun k=>match xs[k]? with | some x=>f x | none=>0) n
 | 0,_=>rfl
 | n+1,h=>by
  rw [bt,gE (by omega),aA,iG,sumN_list f xs n (by omega)];show _+(f xs[n]+0)=kY _ n+(match xs[n]? with | some x=>f x | none=>0);rw [gE (by omega)];show _+(f xs[n]+0)=_+f xs[n];omega
def sg (k:Nat):List Stp→Int
 | []=>0
 | s::ws=>(if s.i=k then s.d else 0)+sg k ws
def alg (y:Nat→Int):List Stp→Int
 | []=>0
 | s::ws=>s.d * y s.i+alg y ws
theorem fold_sg {k:Nat}{pr:Int}:∀ (ws:List Stp) (ps:List Int),k<ps.length→(ws.foldl (kq pr) ps).getD k 0=ps.getD k 0 - pr * sg k ws
 | [],ps,_=>by show ps.getD k 0=ps.getD k 0 - pr * 0;rw [il,Int.sub_zero]
 | s::ws,ps,hk=>by
  rw [bQ,fold_sg ws _ (by unfold kq;rw [fu];exact hk)];show _=ps.getD k 0 - pr * ((if s.i=k then s.d else 0)+sg k ws);rw [jz]
  by_cases e:s.i=k
  ·have h2:(kq pr ps s).getD k 0=ps.getD k 0 - pr * s.d:=by
    unfold kq;rw [e,ai,dY hk];rfl
   rw [h2,pf e];omega
  ·have h2:(kq pr ps s).getD k 0=ps.getD k 0:=by
    unfold kq;rw [ai,dU e,←ai]
   rw [h2,pe e,il];omega
def sgR (k:Nat):List (Int×List Stp)→Int
 | []=>0
 | r::rows=>r.1 * sg k r.2+sgR k rows
theorem rows_sg {k:Nat}:∀ (rows:List (Int×List Stp)) (ps:List Int),k<ps.length→(rows.foldl rowP ps).getD k 0=ps.getD k 0 - sgR k rows
 | [],ps,_=>by show ps.getD k 0=ps.getD k 0 - 0;rw [Int.sub_zero]
 | r::rows,ps,hk=>by
  rw [bQ,rows_sg rows _ (by show k<(r.2.foldl (kq r.1) ps).length;rw [nu];exact hk)];show (r.2.foldl (kq r.1) ps).getD k 0 - sgR k rows=ps.getD k 0 - (r.1 * sg k r.2+sgR k rows);rw [fold_sg r.2 ps hk];omega
theorem owK_sg {sp:List Sn}{rows:List (Int×List Stp)}{k n:Nat}(hk:k<sp.length)(h:∀ r∈rows,RwOk n r):owK sp rows k=wOf sp k - sgR k rows:=by
 rw [←own_at hk h];unfold ownM;rw [rows_sg rows _ (by rw [aa];exact hk)];congr 1;unfold wOf;rw [ai,ay,gE hk];rfl
theorem sum_sg {y:Nat→Int}{n:Nat}:∀ (ws:List Stp),(∀ s∈ws,s.i<n)→kY (fun k=>sg k ws * y k) n=alg y ws
 | [],_=>by
  show kY (fun k=>0 * y k) n=0;rw [jr (g:=fun _=>0 * 0) n fun k _=>by rw [fZ,fZ],mR 0 (fun _=>0) n,fZ]
 | s::ws,h=>by
  show kY (fun k=>((if s.i=k then s.d else 0)+sg k ws) * y k) n=s.d * y s.i+alg y ws;rw [jr (g:=fun k=>(if s.i=k then s.d else 0) * y k+sg k ws * y k) n fun k _=>Int.add_mul ..,mS,sumN_one n (h s (by simp)),sum_sg ws fun t ht=>h t (ax _ ht)]
def algR (y:Nat→Int):List (Int×List Stp)→Int
 | []=>0
 | r::rows=>r.1 * alg y r.2+algR y rows
theorem sum_sgR {y:Nat→Int}{n:Nat}:∀ (rows:List (Int×List Stp)),(∀ r∈rows,∀ s∈r.2,s.i<n)→kY (fun k=>sgR k rows * y k) n=algR y rows
 | [],_=>by
  show kY (fun k=>0 * y k) n=0;rw [jr (g:=fun _=>0 * 0) n fun k _=>by rw [fZ,fZ],mR 0 (fun _=>0) n,fZ]
 | r::rows,h=>by
  show kY (fun k=>(r.1 * sg k r.2+sgR k rows) * y k) n=r.1 * alg y r.2+algR y rows;rw [jr (g:=fun k=>r.1 * (sg k r.2 * y k)+sgR k rows * y k) n fun k _=>by rw [Int.add_mul,Int.mul_assoc],mS,mR,sum_sg r.2 (h r (by simp)),sum_sgR rows fun t ht=>h t (ax _ ht)]
def jN (b:Int)(ts:List Int)(sp:List Sn)(k:Nat):Int:=match sp[k]? with | some x=>x.l+fU b ts x | none=>0
def InB (y:Nat→Int)(bs:List (Int×Int)):Prop:=∀ k,k<bs.length→(bs.getD k (0,0)).1≤y k∧y k≤(bs.getD k (0,0)).2
theorem lay_in {b:Int}{ts:List Int}{sp:List Sn}(hb:0<b)(hf:jd b ts sp=true):InB (jN b ts sp) (sp.map fun x=>(x.l,x.o)):=fun k hk=>by
 rw [aa] at hk;have e:(sp.map fun x=>(x.l,x.o)).getD k (0,0)=(sp[k].l,sp[k].o):=by
  rw [ai,ay,gE hk];rfl
 have e2:jN b ts sp k=sp[k].l+fU b ts sp[k]:=by
  unfold jN;rw [gE hk]
 rw [e,e2];have h0:0≤fU b ts sp[k]:=by unfold fU;exact cP _ (by omega)
 have h1:¬ (sp[k].o - sp[k].l<fU b ts sp[k]):=by
  unfold jd at hf;rw [ft,fq] at hf;have:=hf sp[k] (bR hk);unfold brk at this
  simpa using this
 exact ⟨by show sp[k].l≤_;omega,by show _≤sp[k].o;omega⟩
theorem inB_one {y:Nat→Int}{bs:List (Int×Int)}{k:Nat}{a:Int}(h:InB y bs)(ha:y k≤a):InB y (kx bs k a):=fun j hj=>by
 rw [one_len] at hj;have hh:=h j hj;unfold kx;rw [ai]
 by_cases e:k=j
 ·subst e
  rw [dY hj];exact ⟨hh.1,ha⟩
 ·rw [dU e,←ai]
  exact hh
theorem inB_other {y:Nat→Int}{bs:List (Int×Int)}{k:Nat}{a:Int}(h:InB y bs)(ha:a+1≤y k):InB y (eU bs k a):=fun j hj=>by
 rw [other_len] at hj;have hh:=h j hj;unfold eU;rw [ai]
 by_cases e:k=j
 ·subst e
  rw [dY hj];exact ⟨ha,hh.2⟩
 ·rw [dU e,←ai]
  exact hh
theorem alg_way {b:Int}{ts:List Int}{sp:List Sn}:∀ (ws:List Stp) (x z:Int),oJ sp.length ws→Along sp x ws z→∃ Z,alg (jN b ts sp) ws=tm ts z - tm ts x+b * Z
 | [],x,z,_,h=>by
  have h:x=z:=h;subst h;exact ⟨0,by show (0:Int)=_;rw [il];omega⟩
 | s::ws,x,z,hw,h=>by
  obtain ⟨h1,h2⟩:=h;obtain ⟨Z,hZ⟩:=alg_way (b:=b) (ts:=ts) ws _ z (fun t ht=>hw t (ax _ ht)) h2;obtain ⟨hs,hd⟩:=hw s (by simp);obtain ⟨i,d⟩:=s;have hs:i<sp.length:=hs;have hd:d=1∨d= -1:=hd;have e2:jN b ts sp i=sp[i].l+fU b ts sp[i]:=by
   unfold jN;rw [gE hs]
  have hm:=gT (tm ts sp[i].g - tm ts sp[i].s - sp[i].l) b;show ∃ Z,d * jN b ts sp i+alg (jN b ts sp) ws=_;rw [hZ,e2];unfold fU;rw [j5 hs] at *;rw [lh hs] at h1;unfold frm at h1;unfold too at *;generalize (tm ts sp[i].g - tm ts sp[i].s - sp[i].l) / b=q at hm;generalize (tm ts sp[i].g - tm ts sp[i].s - sp[i].l) % b=r at hm ⊢
  rcases hd with rfl | rfl
  ·rw [pf rfl] at h1 ⊢
   subst h1;exact ⟨Z - q,by rw [Int.mul_sub];omega⟩
  ·rw [pe (by decide)] at h1 ⊢
   subst h1;exact ⟨Z+q,by rw [jz b Z q];omega⟩
theorem alg_lo {y:Nat→Int}{bs:List (Int×Int)}(h:InB y bs):∀ (ws:List Stp),oJ bs.length ws→fk bs ws≤alg y ws∧alg y ws≤gg bs ws
 | [],_=>⟨gB _,gB _⟩
 | s::ws,hw=>by
  obtain ⟨i1,i2⟩:=alg_lo h ws fun t ht=>hw t (ax _ ht)
  obtain ⟨hs,hd⟩:=hw s (by simp);obtain ⟨b1,b2⟩:=h s.i hs;have e:bs.getD s.i (0,0)=bs[s.i]:=by rw [ai,gE hs];rfl
  rw [e] at b1 b2;have e1:fk bs (s::ws)=oF bs s+fk bs ws:=rfl;have e2:gg bs (s::ws)=jB bs s+gg bs ws:=rfl;have f1:oF bs s=if s.d=1 then bs[s.i].1 else -bs[s.i].2:=by unfold oF;rw [gE hs]
  have f2:jB bs s=if s.d=1 then bs[s.i].2 else -bs[s.i].1:=by unfold jB;rw [gE hs]
  rw [e1,e2,f1,f2];show _≤s.d * y s.i+alg y ws∧s.d * y s.i+alg y ws≤_
  rcases hd with d1 | d1
  ·rw [d1,pf rfl,pf rfl];omega
  ·rw [d1,pe (by decide),pe (by decide)];omega
theorem ring_in {b:Int}{ts:List Int}{sp:List Sn}{bs:List (Int×Int)}{ws:List Stp}(hb:0<b)(hl:bs.length=sp.length)(h:InB (jN b ts sp) bs)(hr:Rg sp ws) :
  ∃ Z,alg (jN b ts sp) ws=b * Z∧upB b (fk bs ws)≤Z∧Z≤gg bs ws / b:=by
 obtain ⟨x,hx⟩:=hr.rnd;obtain ⟨Z,hZ⟩:=alg_way (b:=b) (ts:=ts) ws x x hr.inn hx;obtain ⟨l1,l2⟩:=alg_lo h ws (by rw [hl];exact hr.inn);have e:alg (jN b ts sp) ws=b * Z:=by omega
 rw [e] at l1 l2;refine ⟨Z,e,?_,?_⟩
 ·unfold upB
  have: -Z≤ -fk bs ws / b:=by
   rw [Int.le_ediv_iff_mul_le hb,Int.neg_mul,Int.mul_comm Z b];omega
  omega
 ·rw [Int.le_ediv_iff_mul_le hb,Int.mul_comm Z b];exact l2
theorem wait_sum {b:Int}{ts:List Int}{sp:List Sn}:waitOfM b ts sp=kY (fun k=>wOf sp k * jN b ts sp k - wOf sp k * lOf sp k) sp.length:=by
 unfold waitOfM;have:=sumN_list (fun x:Sn=>x.w * fU b ts x) sp sp.length (aC _);rw [bq] at this;rw [this];refine jr _ fun k hk=>?_
 unfold wOf jN lOf;rw [gE hk];show sp[k].w * fU b ts sp[k]=sp[k].w * (sp[k].l+fU b ts sp[k]) - sp[k].w * sp[k].l;rw [jz];omega
theorem rows_in {b:Int}{ts:List Int}{sp:List Sn}{bs:List (Int×Int)}(hb:0<b)(hl:bs.length=sp.length)(h:InB (jN b ts sp) bs):∀ (rows:List (Int×List Stp)),(∀ r∈rows,RowOk b sp bs r)→algR (jN b ts sp) rows=rowsW b bs rows
 | [],_=>rfl
 | r::rows,hr=>by
  obtain ⟨h1,h2,_⟩:=hr r (by simp);obtain ⟨Z,e,z1,z2⟩:=ring_in hb hl h h1;have h2:=pE h2;have ez:Z=upB b (fk bs r.2):=by omega
  have ih:=rows_in hb hl h rows fun t ht=>hr t (ax _ ht)
  have e3:rowsW b bs (r::rows)=r.1 * upB b (fk bs r.2) * b+rowsW b bs rows:=rfl;show r.1 * alg (jN b ts sp) r.2+algR (jN b ts sp) rows=_;rw [e3,ih,e,ez,Int.mul_comm b,Int.mul_assoc]
def longer (b:Nat)(tt:List (List Int)):List (List Int):=tt.flatMap fun t=>(aP b).map fun c:Nat=>t++[(0:Int)+(c:Nat)]
def allT (b:Nat):Nat→List (List Int)
 | 0=>[[]]
 | n+1=>longer b (allT b n)
theorem Held.more {sp:List Sn}{tk tk':List Nat}{x y:Int}(h:∀ i∈tk,i∈tk')(k:Held sp tk x y):Held sp tk' x y:=fun S hS=>k S fun i hi=>hS i (h i hi)
theorem Held.trans {sp:List Sn}{tk:List Nat}{x y z:Int}(a:Held sp tk x y)(c:Held sp tk y z):Held sp tk x z:=fun S hS h=>c S hS (a S hS h)
theorem Held.symm {sp:List Sn}{tk:List Nat}{x y:Int}(a:Held sp tk x y):Held sp tk y x:=fun S hS h=>fI fun n=>a (fun z=>¬ S z) (fun i hi=>not_congr (hS i hi)) n h
inductive Acy (sp:List Sn):List Nat→Prop where
 | nil:Acy sp []
 | snoc {tk:List Nat} {k:Nat} (h:Acy sp tk) (hk:k<sp.length) (s:∃ S:Int→Prop,(∀ i∈tk,S (sAt sp i).s↔S (sAt sp i).g)∧S (sAt sp k).s∧¬ S (sAt sp k).g):Acy sp (tk++[k])
theorem Acy.pot {sp:List Sn}{tk:List Nat}(h:Acy sp tk)(y:Nat→Int):∃ π:Int→Int,∀ i∈tk,π (sAt sp i).g - π (sAt sp i).s=y i:=by
 induction h with
 | nil=>exact ⟨fun _=>0,fun _ h=>pj h (by simp)⟩
 | snoc h hk s ih =>
  rename_i tk k;obtain ⟨π,hπ⟩:=ih;obtain ⟨S,hS,s1,s2⟩:=s;have dec:∀ x,Decidable (S x):=fun x=>Classical.propDecidable _
  refine ⟨fun x=>if S x then π x else π x+(y k - (π (sAt sp k).g - π (sAt sp k).s)),fun i hi=>?_⟩
  rcases aM.mp hi with hi | hi
  ·have e:=hπ i hi
   have f:=hS i hi;show (if S (sAt sp i).g then _ else _) - (if S (sAt sp i).s then _ else _)=_
   by_cases c:S (sAt sp i).s
   ·rw [pf c,pf (f.mp c)];exact e
   ·rw [pe c,pe (fun z=>c (f.mpr z))];omega
  ·rw [aw.mp hi]
   show (if S (sAt sp k).g then _ else _) - (if S (sAt sp k).s then _ else _)=_;rw [pe s2,pf s1];omega
theorem Acy.nodup {sp:List Sn}{tk:List Nat}(h:Acy sp tk):tk.Nodup∧∀ i∈tk,i<sp.length:=by
 induction h with
 | nil=>exact ⟨List.nodup_nil,fun _ h=>pj h (by simp)⟩
 | snoc h hk s ih =>
  rename_i tk k;obtain ⟨S,hS,s1,s2⟩:=s;refine ⟨gS.mpr ⟨ih.1,by simp,fun a ha c hc e=>?_⟩,fun i hi=>?_⟩
  ·rw [aw.mp hc] at e
   subst e;exact s2 ((hS _ ha).mp s1)
  ·rcases aM.mp hi with hi | hi
   ·exact ih.2 i hi
   ·rw [aw.mp hi];exact hk
structure Pots (sp:List Sn)(tk:List Nat):Prop where
 nodup:tk.Nodup∧∀ i∈tk,i<sp.length
 pot:∀ y:Nat→Int,∃ π:Int→Int,∀ i∈tk,π (sAt sp i).g - π (sAt sp i).s=y i
theorem Acy.pots {sp:List Sn}{tk:List Nat}(h:Acy sp tk):Pots sp tk:=⟨h.nodup,h.pot⟩
theorem Pots.perm {sp:List Sn}{tk l:List Nat}(h:Pots sp tk)(p:l.Perm tk):Pots sp l :=
 ⟨⟨p.nodup_iff.mpr h.nodup.1,fun i hi=>h.nodup.2 i (p.mem_iff.mp hi)⟩,fun y=>let ⟨π,k⟩:=h.pot y;⟨π,fun i hi=>k i (p.mem_iff.mp hi)⟩⟩
structure Gd (m:Nat)(sp:List Sn)(gs:List Int)(tk:List Nat):Prop where
 len:gs.length=m
 eq:∀ i∈tk,tm gs (sAt sp i).s=tm gs (sAt sp i).g
 held:∀ x y:Int,0≤x→x<m→0≤y→y<m→tm gs x=tm gs y→Held sp tk x y
 acy:Acy sp tk
 cnt:Cnt m gs tk.length
theorem Gd.start (m:Nat)(sp:List Sn):Gd m sp (jO m) []:=by
 refine ⟨kh m,fun _ h=>pj h (by simp),fun x y x0 x1 y0 y1 e=>?_,.nil,Cnt.start m⟩;rw [l9 x0 x1,l9 y0 y1] at e;subst e;exact fun S _ h=>h
theorem Gd.step {m:Nat}{sp:List Sn}{gs:List Int}{tk:List Nat}{i:Nat}(E:Ends m sp)(g:Gd m sp gs tk)(hi:i<sp.length):Gd m sp (fH sp (gs,tk) i).1 (fH sp (gs,tk) i).2:=by
 obtain ⟨s0,s1,g0,g1⟩:=E _ (eX hi);unfold fH
 by_cases e:tm gs (sAt sp i).s=tm gs (sAt sp i).g
 ·rw [pf e];exact g
 ·rw [pe e]
  have l:=g.len;have old:∀ j∈tk,j<sp.length:=g.acy.nodup.2;have jt:∀ x:Int,0≤x→x<m→tm (iA gs (tm gs (sAt sp i).s) (tm gs (sAt sp i).g)) x=if tm gs x=tm gs (sAt sp i).g then tm gs (sAt sp i).s else tm gs x:=fun x x0 x1=>j6 x0 (by omega)
  have up:∀ {x y:Int},Held sp tk x y→Held sp (tk++[i]) x y:=fun h=>h.more fun j hj=>aE _ hj
  have ed:Held sp (tk++[i]) (sAt sp i).s (sAt sp i).g:=fun S hS h=>(hS i (aG _ (aw.mpr rfl))).mp h
  refine ⟨by show (iA _ _ _).length=m;rw [kJ];exact l,fun j hj=>?_,fun x y x0 x1 y0 y1 h=>?_,.snoc g.acy hi ⟨fun x=>tm gs x=tm gs (sAt sp i).s,fun j hj=>by show tm gs _=_↔tm gs _=_;rw [g.eq j hj],rfl,fun z=>e z.symm⟩,?_⟩
  ·show tm (iA _ _ _) _=tm (iA _ _ _) _
   rcases aM.mp hj with hj | hj
   ·obtain ⟨a0,a1,b0,b1⟩:=E _ (eX (old j hj))
    rw [jt _ a0 a1,jt _ b0 b1,g.eq j hj]
   ·rw [aw.mp hj,jt _ s0 s1,jt _ g0 g1,pf rfl,pe e]
  ·have h:tm (iA _ _ _) x=tm (iA _ _ _) y:=h
   rw [jt x x0 x1,jt y y0 y1] at h;show Held sp (tk++[i]) x y
   by_cases c1:tm gs x=tm gs (sAt sp i).g
   ·by_cases c2:tm gs y=tm gs (sAt sp i).g
    ·exact up (g.held x y x0 x1 y0 y1 (c1.trans c2.symm))
    ·rw [pf c1,pe c2] at h
     exact (up (g.held x _ x0 x1 g0 g1 c1)).trans (ed.symm.trans (up (g.held _ y s0 s1 y0 y1 h)))
   ·by_cases c2:tm gs y=tm gs (sAt sp i).g
    ·rw [pe c1,pf c2] at h
     exact (up (g.held x _ x0 x1 s0 s1 h)).trans (ed.trans (up (g.held _ y g0 g1 y0 y1 c2.symm)))
    ·rw [pe c1,pe c2] at h
     exact up (g.held x y x0 x1 y0 y1 h)
  ·show Cnt m (iA _ _ _) (tk++[i]).length
   rw [aq];exact g.cnt.join (oM s0 (by omega)) (oM g0 (by omega)) e
theorem Gd.fold {m:Nat}{sp:List Sn}(E:Ends m sp):∀ (π:List Nat) (gs:List Int) (tk:List Nat),(∀ i∈π,i<sp.length)→Gd m sp gs tk→Gd m sp (π.foldl (fH sp) (gs,tk)).1 (π.foldl (fH sp) (gs,tk)).2
 | [],_,_,_,g=>g
 | i::π,gs,tk,h,g=>by
  rw [bQ];exact Gd.fold E π _ _ (fun j hj=>h j (ax _ hj)) (g.step E (h i (by simp)))
theorem Gd.few {m:Nat}{sp:List Sn}{gs:List Int}{tk:List Nat}(g:Gd m sp gs tk)(h:0<m):tk.length<m:=by
 obtain ⟨D,_,mem,l⟩:=g.cnt;have:D≠[]:=fun z=>by
  have h0:tm gs 0∈gs:=oM (gB 0) (by rw [g.len];omega);have:=(mem _).mpr h0;rw [z] at this;cases this
 have:=List.length_pos_iff.mpr this;omega
structure RK (sp:List Sn)(tk:List Nat)(q:Nat×List Stp):Prop where
 lt:q.1<sp.length
 out:q.1 ∉ tk
 way:∃ p,q.2=⟨q.1,1⟩::p∧Pth sp tk (sAt sp q.1).g (sAt sp q.1).s p
theorem RK.rg {b m:Int}{sp:List Sn}{tk:List Nat}{q:Nat×List Stp}(N:NetT b m sp)(h:RK sp tk q)(hl:tk.length≤15):Rg sp q.2:=by
 obtain ⟨p,e,P⟩:=h.way;have hk:=h.lt;have eA:sAt sp q.1=sp[q.1]:=by unfold sAt;rw [ai,gE hk];rfl
 rw [e];refine Bk.ring hk (N.all _ (bR hk)).ne ⟨fun s hs=>(P.inn s hs).2,by rw [←eA];exact P.alo,P.one,fun s hs z=>?_⟩ ?_
 ·have z:s.i=q.1:=by omega
  exact h.out (z ▸ (P.inn s hs).1)
 ·have hn:((p.map Stp.i).map fun n:Nat=>(n:Int)).Nodup:=by
   rw [cb,fm];exact (cb.mp P.one).imp fun hh e=>hh (by omega)
  have:=md (l:=(p.map Stp.i).map fun n:Nat=>(n:Int)) (k:=tk.map fun n:Nat=>(n:Int)) hn fun x hx=>by
   obtain ⟨i,hi,rfl⟩:=bh.mp hx;obtain ⟨s,hs,rfl⟩:=bh.mp hi;exact bh.mpr ⟨_,(P.inn s hs).1,rfl⟩
  rw [aa,aa,aa] at this;omega
structure OB (sp:List Sn)(tk:List Nat)(bs:List (Int×Int)):Prop where
 len:bs.length=sp.length
 out:∀ k,k<sp.length→k ∉ tk→bs.getD k (0,0)=((sAt sp k).l,(sAt sp k).o)
 lo:∀ k,k<sp.length→(sAt sp k).l≤(bs.getD k (0,0)).1∧(bs.getD k (0,0)).1≤(bs.getD k (0,0)).2∧(bs.getD k (0,0)).2≤(sAt sp k).o
theorem hX {bs:List (Int×Int)}{k j:Nat}{x:Int×Int}(hj:j<bs.length):(bs.set k x).getD j (0,0)=if k=j then x else bs.getD j (0,0):=by
 rw [ai]
 by_cases e:k=j
 ·subst e
  rw [dY hj,pf rfl];rfl
 ·rw [dU e,pe e,←ai]
theorem OB.one {sp:List Sn}{tk:List Nat}{bs:List (Int×Int)}{k:Nat}{a:Int}(h:OB sp tk bs)(hk:k∈tk)(hn:k<sp.length)(h1:(bs.getD k (0,0)).1≤a)(h2:a<(bs.getD k (0,0)).2):OB sp tk (kx bs k a):=by
 have l:=h.len;refine ⟨by rw [one_len];exact l,fun j hj hjn=>?_,fun j hj=>?_⟩
 ·unfold kx
  rw [hX (by omega),pe (fun (z:k=j)=>hjn (z ▸ hk))];exact h.out j hj hjn
 ·unfold kx
  rw [hX (by omega)];have:=h.lo j hj
  by_cases e:k=j
  ·rw [pf e]
   subst e;exact ⟨this.1,h1,by show a≤_;omega⟩
  ·rw [pe e];exact this
theorem OB.other {sp:List Sn}{tk:List Nat}{bs:List (Int×Int)}{k:Nat}{a:Int}(h:OB sp tk bs)(hk:k∈tk)(hn:k<sp.length)(h1:(bs.getD k (0,0)).1≤a)(h2:a<(bs.getD k (0,0)).2):OB sp tk (eU bs k a):=by
 have l:=h.len;refine ⟨by rw [other_len];exact l,fun j hj hjn=>?_,fun j hj=>?_⟩
 ·unfold eU
  rw [hX (by omega),pe (fun (z:k=j)=>hjn (z ▸ hk))];exact h.out j hj hjn
 ·unfold eU
  rw [hX (by omega)];have:=h.lo j hj
  by_cases e:k=j
  ·rw [pf e]
   subst e;exact ⟨by show _≤a+1;omega,by show a+1≤(bs.getD k (0,0)).2;omega,this.2.2⟩
  ·rw [pe e];exact this
theorem OB.first {b m:Int}{sp:List Sn}(N:NetT b m sp)(tk:List Nat):OB sp tk (sp.map fun x=>(x.l,x.o)):=by
 have e:∀ k,k<sp.length→(sp.map fun x=>(x.l,x.o)).getD k (0,0)=((sAt sp k).l,(sAt sp k).o):=fun k hk=>by
  rw [ai,ay,i8 hk];rfl
 refine ⟨aa ..,fun k hk _=>e k hk,fun k hk=>?_⟩;rw [e k hk];have:=N.all _ (eX hk);exact ⟨gB _,this.lo,gB _⟩
def k3 (sp:List Sn)(rg:List (Nat×List Stp)):List (Int×List Stp):=rg.map fun q=>((sAt sp q.1).w,q.2)
structure Fx (b:Int)(tk:List Nat)(rg:List (Nat×List Stp))(bs:List (Int×Int)):Prop where
 fix:∀ k∈tk,(bs.getD k (0,0)).1=(bs.getD k (0,0)).2
 alive:∀ q∈rg,i5 b bs q.2=false
structure FF (m:Int)(sp:List Sn)(tk:List Nat)(rg:List (Nat×List Stp)):Prop where
 acy:Pots sp tk
 few:(tk.length:Int)<m
 rk:∀ q∈rg,RK sp tk q
 all:∀ k,k<sp.length→k ∉ tk→∃ r,(k,r)∈rg
 one:(rg.map (·.1)).Nodup
theorem low_fix {bs:List (Int×Int)}{tk:List Nat}(h:∀ k∈tk,k<bs.length∧(bs.getD k (0,0)).1=(bs.getD k (0,0)).2):∀ (p:List Stp),(∀ s∈p,s.i∈tk∧(s.d=1∨s.d= -1))→fk bs p=alg (fun k=>(bs.getD k (0,0)).1) p∧gg bs p=alg (fun k=>(bs.getD k (0,0)).1) p
 | [],_=>⟨rfl,rfl⟩
 | s::p,hp=>by
  obtain ⟨i1,i2⟩:=low_fix h p fun t ht=>hp t (ax _ ht)
  obtain ⟨h1,h2⟩:=hp s (by simp);obtain ⟨h3,h4⟩:=h s.i h1;have e:bs.getD s.i (0,0)=bs[s.i]:=by rw [ai,gE h3];rfl
  have e1:fk bs (s::p)=oF bs s+fk bs p:=rfl;have e2:gg bs (s::p)=jB bs s+gg bs p:=rfl;have f1:oF bs s=if s.d=1 then bs[s.i].1 else -bs[s.i].2:=by unfold oF;rw [gE h3]
  have f2:jB bs s=if s.d=1 then bs[s.i].2 else -bs[s.i].1:=by unfold jB;rw [gE h3]
  rw [e] at h4;rw [e1,e2,f1,f2,i1,i2];show _=s.d * (bs.getD s.i (0,0)).1+_∧_=s.d * (bs.getD s.i (0,0)).1+_;rw [e]
  rcases h2 with d1 | d1
  ·rw [d1,pf rfl,pf rfl];omega
  ·rw [d1,pe (by decide),pe (by decide)];omega
theorem nk {sp:List Sn}{tk:List Nat}{bs:List (Int×Int)}{q:Nat×List Stp}(h:RK sp tk q)(O:OB sp tk bs)(fix:∀ k∈tk,(bs.getD k (0,0)).1=(bs.getD k (0,0)).2) :
  ∃ p,q.2=⟨q.1,1⟩::p∧Pth sp tk (sAt sp q.1).g (sAt sp q.1).s p∧fk bs q.2=(sAt sp q.1).l+alg (fun k=>(bs.getD k (0,0)).1) p∧gg bs q.2=(sAt sp q.1).o+alg (fun k=>(bs.getD k (0,0)).1) p:=by
 obtain ⟨p,e,P⟩:=h.way;have hk:=h.lt;have l:=O.len;obtain ⟨a1,a2⟩:=low_fix (bs:=bs) (tk:=p.map Stp.i) (fun k hk'=>by
  obtain ⟨s,hs,rfl⟩:=bh.mp hk';exact ⟨by rw [l];exact (P.inn s hs).2.1,fix _ (P.inn s hs).1⟩) p fun s hs=>⟨bh.mpr ⟨s,hs,rfl⟩,(P.inn s hs).2.2⟩
 have eb:=O.out q.1 hk h.out;have hb:q.1<bs.length:=by omega
 have e0:bs.getD q.1 (0,0)=bs[q.1]:=by rw [ai,gE hb];rfl
 refine ⟨p,e,P,?_,?_⟩
 ·rw [e,show fk bs (⟨q.1,1⟩::p)=oF bs ⟨q.1,1⟩+fk bs p from rfl,a1]
  congr 1;unfold oF;show (match bs[q.1]? with | some p=>if (1:Int)=1 then p.1 else -p.2 | none=>0)=_;rw [gE hb];show (if (1:Int)=1 then bs[q.1].1 else _)=_;rw [pf rfl,←e0,eb]
 ·rw [e,show gg bs (⟨q.1,1⟩::p)=jB bs ⟨q.1,1⟩+gg bs p from rfl,a2]
  congr 1;unfold jB;show (match bs[q.1]? with | some p=>if (1:Int)=1 then p.2 else -p.1 | none=>0)=_;rw [gE hb];show (if (1:Int)=1 then bs[q.1].2 else _)=_;rw [pf rfl,←e0,eb]
theorem beat_one {b lo hi:Int}(hb:0<b)(h:upB b lo≤hi / b)(hw:hi - lo<b):upB b lo=hi / b∧lo≤b * upB b lo∧b * upB b lo≤hi:=by
 have e:=gT (-lo) b;have r0:=cP (-lo) (by omega:b≠0);have r1:=cE (-lo) hb;have e':=gT hi b;have r0':=cP hi (by omega:b≠0);have r1':=cE hi hb;unfold upB at h ⊢;generalize -lo / b=u at *;generalize hi / b=v at *;have m1:b * -u= -(b * u):=Int.mul_neg ..;have h2:b * -u≤b * v:=gz h (by omega);refine ⟨?_,by omega,by omega⟩
 rcases Int.lt_or_le (-u) v with c | c
 ·have:b * (-u+1)≤b * v:=gz (by omega) (by omega)
  rw [jz,Int.mul_one] at this;omega
 ·omega
theorem fx_sure {b m:Int}{sp:List Sn}{tk:List Nat}{rg:List (Nat×List Stp)}{bs:List (Int×Int)}(N:NetT b m sp)(f:FF m sp tk rg)(O:OB sp tk bs)(x:Fx b tk rg bs):LfOk b sp bs (.price (k3 sp rg)):=by
 have m2:=N.m2;have fw:=f.few;have tl:tk.length≤15:=by omega
 refine ⟨?_,fun r hr=>?_⟩
 ·show (rg.map _).length≤40
  rw [aa];have hn:((rg.map (·.1)).map fun n:Nat=>(n:Int)).Nodup:=by
   rw [cb,fm];exact (cb.mp f.one).imp fun hh e=>hh (by omega)
  have:=md (l:=(rg.map (·.1)).map fun n:Nat=>(n:Int)) (k:=(aP sp.length).map fun n:Nat=>(n:Int)) hn fun z hz=>by
   obtain ⟨i,hi,rfl⟩:=bh.mp hz;obtain ⟨q,hq,rfl⟩:=bh.mp hi;exact bh.mpr ⟨_,bP.mpr (f.rk q hq).lt,rfl⟩
  rw [aa,aa,aa,bo] at this;have:=N.few;omega
 ·obtain ⟨q,hq,rfl⟩:=bh.mp hr
  have K:=f.rk q hq;have sn:=N.all _ (eX K.lt);refine ⟨K.rg N tl,?_,by have:=sn.w0;show -1000000000000≤(sAt sp q.1).w;omega,sn.w1⟩;obtain ⟨p,e,P,e1,e2⟩:=nk K O x.fix;have al:=x.alive q hq;have al:¬ (upB b (fk bs q.2) > gg bs q.2 / b):=by
   unfold i5 at al
   simpa using al
  show decide (upB b (fk bs q.2)=gg bs q.2 / b)=true;refine pA (beat_one (by have:=N.b1;omega) (by omega) ?_).1;have:=sn.ob;rw [e1,e2];omega
theorem alg_pot {sp:List Sn}{tk:List Nat}{y:Nat→Int}{π:Int→Int}(ht:∀ i∈tk,i<sp.length)(hπ:∀ i∈tk,π (sAt sp i).g - π (sAt sp i).s=y i):∀ (p:List Stp) (u z:Int),(∀ s∈p,s.i∈tk∧(s.d=1∨s.d= -1))→Along sp u p z→alg y p=π z - π u
 | [],u,z,_,a=>by
  have a:u=z:=a;subst a;show (0:Int)=_;omega
 | s::p,u,z,hp,a=>by
  obtain ⟨a1,a2⟩:=a;have ih:=alg_pot ht hπ p _ z (fun t h=>hp t (ax _ h)) a2;obtain ⟨h1,h2⟩:=hp s (by simp);obtain ⟨f1,f2,f3,f4⟩:=oY (ht s.i h1);have e:=hπ s.i h1;obtain ⟨i,d⟩:=s
  dsimp only at e f1 f2 f3 f4
  have h2:d=1∨d= -1:=h2;show d * y i+alg y p=_;rw [ih,←a1]
  rcases h2 with rfl | rfl
  ·rw [f1,f2];show 1 * y i+_=_;omega
  ·rw [f3,f4];show -1 * y i+_=_;omega
def potT (b:Int)(π:Int→Int)(m:Nat):List Int:=(aP m).map fun x:Nat=>(π (x:Nat) - π 0) % b
theorem potT_at {b:Int}{π:Int→Int}{m:Nat}{x:Int}(h0:0≤x)(h1:x<m):tm (potT b π m) x=(π x - π 0) % b:=by
 obtain ⟨n,rfl⟩:=cx h0;unfold tm potT;rw [dA,ai,ay,gi (by omega)];rfl
theorem wait_pot {b:Int}{π:Int→Int}{m:Nat}{x:Sn}(s0:0≤x.s)(s1:x.s<m)(g0:0≤x.g)(g1:x.g<m):fU b (potT b π m) x=(π x.g - π x.s - x.l) % b:=by
 unfold fU;rw [potT_at s0 s1,potT_at g0 g1,rest_two];congr 1;omega
theorem rest_in {b Y l Z:Int}(h0:l≤Y)(h1:Y<l+b):(Y - b * Z - l) % b=Y - l:=by
 rw [show Y - b * Z - l=(Y - l)+b * (-Z) by rw [Int.mul_neg];omega,jZ];exact iW (by omega) (by omega)
theorem sg_no {k:Nat}:∀ (p:List Stp),(∀ s∈p,s.i≠k)→sg k p=0
 | [],_=>rfl
 | s::p,h=>by
  show (if s.i=k then s.d else 0)+sg k p=0;rw [pe (h s (by simp)),sg_no p fun t ht=>h t (ax _ ht)];rfl
theorem sgR_no {sp:List Sn}{tk:List Nat}{k:Nat}(hk:k ∉ tk):∀ (rg:List (Nat×List Stp)),(∀ q∈rg,RK sp tk q)→k ∉ rg.map (·.1)→sgR k (k3 sp rg)=0
 | [],_,_=>rfl
 | q::rg,h,hn=>by
  have ih:=sgR_no hk rg (fun t ht=>h t (ax _ ht)) fun z=>hn (ax _ z)
  show (sAt sp q.1).w * sg k q.2+sgR k (k3 sp rg)=0;obtain ⟨p,e,P⟩:=(h q (by simp)).way;rw [ih,e,sg_no _ fun s hs=>?_,il];rfl
  rcases aL.mp hs with rfl | hs
  ·exact fun z=>hn (by show k∈q.1::_;rw [show k=q.1 from z.symm];simp)
  ·exact fun z=>hk (z ▸ (P.inn s hs).1)
theorem sgR_own {sp:List Sn}{tk:List Nat}{k:Nat}(hk:k ∉ tk):∀ (rg:List (Nat×List Stp)),(∀ q∈rg,RK sp tk q)→(rg.map (·.1)).Nodup→k∈rg.map (·.1)→sgR k (k3 sp rg)=(sAt sp k).w
 | [],_,_,h=>pj h (by simp)
 | q::rg,h,hn,hm=>by
  rw [bV,bB] at hn;show (sAt sp q.1).w * sg k q.2+sgR k (k3 sp rg)=_;obtain ⟨p,e,P⟩:=(h q (by simp)).way;have hp:∀ s∈p,s.i≠k:=fun s hs z=>hk (z ▸ (P.inn s hs).1)
  have e2:sg k q.2=if q.1=k then 1 else 0:=by
   rw [e];show (if q.1=k then (1:Int) else 0)+sg k p=_;rw [sg_no p hp,Int.add_zero]
  rw [e2]
  by_cases c:q.1=k
  ·rw [pf c,c,Int.mul_one,sgR_no hk rg (fun t ht=>h t (ax _ ht)) (c ▸ hn.1),Int.add_zero]
  ·rw [pe c,il,gG]
   exact sgR_own hk rg (fun t ht=>h t (ax _ ht)) hn.2 ((aL.mp hm).resolve_left fun z=>c z.symm)
theorem mem_allT {b:Nat}:∀ (n:Nat) (ts:List Int),ts.length=n→(∀ x∈ts,0≤x∧x<(b:Int))→ts∈allT b n
 | 0,ts,h,_=>by rw [ky.mp h];exact aw.mpr rfl
 | n+1,ts,h,hx=>by
  have hne:ts≠[]:=fun z=>by rw [z] at h;cases h
  have e:=List.dropLast_concat_getLast hne;have hd:ts.dropLast∈allT b n:=mem_allT n _ (by rw [List.length_dropLast];omega) fun x h'=>hx x ((List.dropLast_sublist _).subset h')
  obtain ⟨l0,l1⟩:=hx _ (List.getLast_mem hne);obtain ⟨c,hc⟩:=cx l0;refine List.mem_flatMap.mpr ⟨ts.dropLast,hd,bh.mpr ⟨c,bP.mpr (by omega),?_⟩⟩;rw [gG];show ts.dropLast++[((c:Nat):Int)]=ts;rw [show ((c:Nat):Int)=ts.getLast hne from hc.symm];exact e
theorem tight {b m:Int}{sp:List Sn}{tk:List Nat}{rg:List (Nat×List Stp)}{bs:List (Int×Int)}(N:NetT b m sp)(f:FF m sp tk rg)(O:OB sp tk bs)(x:Fx b tk rg bs) :
  ∃ ts∈allT b.toNat m.toNat,ts.getD 0 0=0∧jd b ts sp=true∧waitOfM b ts sp=worthM b sp bs (k3 sp rg):=by
 have hb:0<b:=by have:=N.b1;omega
 have m1:=N.m1;obtain ⟨ht1,ht2⟩:=f.acy.nodup;obtain ⟨π,hπ⟩:=f.acy.pot fun k=>(bs.getD k (0,0)).1
 have eW:∀ k,k<sp.length→fU b (potT b π m.toNat) (sAt sp k)=(π (sAt sp k).g - π (sAt sp k).s - (sAt sp k).l) % b:=fun k hk=>by
  have s:=N.all _ (eX hk);exact wait_pot s.s0 (by have:=s.s1;omega) s.g0 (by have:=s.g1;omega)
 have key:∀ k,k<sp.length→∃ Y,fU b (potT b π m.toNat) (sAt sp k)=Y - (sAt sp k).l∧(bs.getD k (0,0)).1≤Y∧Y≤(bs.getD k (0,0)).2:=fun k hk=>by
  have s:=N.all _ (eX hk);have lo:=O.lo k hk
  by_cases c:k∈tk
  ·have e:=hπ k c
   have fx:=x.fix k c;refine ⟨(bs.getD k (0,0)).1,?_,gB _,by omega⟩;rw [eW k hk,show π (sAt sp k).g - π (sAt sp k).s - (sAt sp k).l=(bs.getD k (0,0)).1 - b * 0 - (sAt sp k).l by rw [il];omega];exact rest_in lo.1 (by have:=s.ob;omega)
  ·obtain ⟨r,hr⟩:=f.all k hk c
   have K:=f.rk _ hr;obtain ⟨p,e,P,e1,e2⟩:=nk K O x.fix;have al:=x.alive _ hr;have al:¬ (upB b (fk bs r) > gg bs r / b):=by unfold i5 at al;simpa using al
   obtain ⟨_,z1,z2⟩:=beat_one hb (lo:=fk bs r) (hi:=gg bs r) (by omega) (by
    have e1:fk bs r=_:=e1;have e2:gg bs r=_:=e2;have:=s.ob;rw [e1,e2];show (sAt sp k).o+_ - ((sAt sp k).l+_)<b;omega)
   have ea:=alg_pot ht2 hπ p _ _ (fun s hs=>⟨(P.inn s hs).1,(P.inn s hs).2.2⟩) P.alo;have e1:fk bs r=(sAt sp k).l+alg (fun k=>(bs.getD k (0,0)).1) p:=e1;have e2:gg bs r=(sAt sp k).o+alg (fun k=>(bs.getD k (0,0)).1) p:=e2;have ea:alg (fun k=>(bs.getD k (0,0)).1) p=π (sAt sp k).s - π (sAt sp k).g:=ea;have eo:=O.out k hk c;rw [eo];refine ⟨b * upB b (fk bs r) - alg (fun k=>(bs.getD k (0,0)).1) p,?_,by show (sAt sp k).l≤_;omega,by show _≤(sAt sp k).o;omega⟩;rw [eW k hk];have hs:=s.ob;have:=rest_in (b:=b) (Y:=b * upB b (fk bs r) - alg (fun k=>(bs.getD k (0,0)).1) p) (l:=(sAt sp k).l) (Z:=upB b (fk bs r)) (by omega) (by omega);rw [←this];congr 1;omega
 have lay:∀ k,k<sp.length→jN b (potT b π m.toNat) sp k=(sAt sp k).l+fU b (potT b π m.toNat) (sAt sp k):=fun k hk=>by
  unfold jN;rw [i8 hk]
 have hin:InB (jN b (potT b π m.toNat) sp) bs:=fun k hk=>by
  have hk:k<sp.length:=by rw [←O.len];exact hk
  obtain ⟨Y,e,y1,y2⟩:=key k hk;rw [lay k hk,e]
  constructor <;> omega
 refine ⟨potT b π m.toNat,mem_allT _ _ (by unfold potT;rw [aa,bo]) (fun z hz=>?_),?_,?_,?_⟩
 ·obtain ⟨i,_,rfl⟩:=bh.mp hz
  have h0:=cP (π (i:Nat) - π 0) (by omega:b≠0);have h1:=cE (π (i:Nat) - π 0) hb;exact ⟨h0,by omega⟩
 ·have:=potT_at (b:=b) (π:=π) (m:=m.toNat) (x:=0) (gB 0) (by omega)
  rw [Int.sub_self,Int.zero_emod] at this;exact this
 ·unfold jd
  rw [ft,fq];intro s hs;obtain ⟨k,hk,rfl⟩:=List.getElem_of_mem hs;have eA:sAt sp k=sp[k]:=by unfold sAt;rw [ai,gE hk];rfl
  obtain ⟨Y,e,y1,y2⟩:=key k hk;have:=(O.lo k hk).2.2;rw [eA] at e this;unfold brk;rw [pB (by omega)];exact bb
 ·have rok:∀ r∈k3 sp rg,RowOk b sp bs r:=(fx_sure N f O x).2
  have rw1:∀ r∈k3 sp rg,RwOk sp.length r:=fun r hh=>by
   have q:=rok r hh;exact ⟨q.1.inn,q.1.one,q.1.few,q.2.2.1,q.2.2.2⟩
  have e1:=rows_in hb O.len hin _ rok;have e2:=sum_sgR (y:=jN b (potT b π m.toNat) sp) (n:=sp.length) (k3 sp rg) fun r hh s hs=>((rw1 r hh).inn s hs).1
  unfold worthM;rw [oN,←e1,←e2,wait_sum,←mS];refine jr _ fun k hk=>?_
  unfold termW;have eo:=owK_sg hk rw1;have hl:=hin k (by rw [O.len];exact hk);have ew:wOf sp k=(sAt sp k).w:=by unfold wOf;rw [i8 hk]
  have keyo:owK sp (k3 sp rg) k * (if owK sp (k3 sp rg) k<0 then (bs.getD k (0,0)).2 else (bs.getD k (0,0)).1)=owK sp (k3 sp rg) k * jN b (potT b π m.toNat) sp k:=by
   by_cases c:k∈tk
   ·have fx:=x.fix k c
    have e:jN b (potT b π m.toNat) sp k=(bs.getD k (0,0)).1:=by omega
    rw [e];split
    ·rw [←fx]
    ·rfl
   ·have z:owK sp (k3 sp rg) k=0:=by
     obtain ⟨r,hr⟩:=f.all k hk c;rw [eo,ew,sgR_own c rg f.rk f.one (bh.mpr ⟨_,hr,rfl⟩),Int.sub_self]
    rw [z,fZ,fZ]
  have ex:owK sp (k3 sp rg) k * jN b (potT b π m.toNat) sp k=wOf sp k * jN b (potT b π m.toNat) sp k - sgR k (k3 sp rg) * jN b (potT b π m.toNat) sp k:=by rw [eo,Int.sub_mul]
  omega
def FrstL (m:Nat)(sp:List Sn)(l:List Nat):Prop:=IsFor m sp (l.map fun (i:Nat)=>(i:Int))∧∃ π,Ordd sp π∧l.Perm (jV sp m π).2
theorem oa:∀ {l k:List Nat},l.map (fun (i:Nat)=>(i:Int))=k.map (fun (i:Nat)=>(i:Int))→l=k
 | [],[],_=>rfl
 | [],_::_,h=>by cases h
 | _::_,[],h=>by cases h
 | a::l,b::k,h=>by
  rw [bV,bV] at h;injection h with h1 h2
  have h1:a=b:=by omega
  rw [h1,oa h2]
theorem FrstL.one {m:Nat}{sp:List Sn}{l k:List Nat}(a:FrstL m sp l)(b:FrstL m sp k):l=k:=oa (IsFor.one a.1 b.1)
theorem FrstL.gd {m:Nat}{sp:List Sn}{l:List Nat}(E:Ends m sp)(a:FrstL m sp l):∃ gs tk,Gd m sp gs tk∧l.Perm tk∧∀ i,i<sp.length→tm gs (sAt sp i).s=tm gs (sAt sp i).g:=by
 obtain ⟨_,π,O,pm⟩:=a;refine ⟨(jV sp m π).1,(jV sp m π).2,Gd.fold E π _ _ (fun i hi=>O.lt hi) (Gd.start m sp),pm,fun i hi=>?_⟩;exact jU E π (jO m) [] (kh _) (fun i hi=>O.lt hi) i (O.1.mem_iff.mpr (bP.mpr hi))
theorem FrstL.pots {m:Nat}{sp:List Sn}{l:List Nat}(E:Ends m sp)(a:FrstL m sp l):Pots sp l:=by
 obtain ⟨gs,tk,g,p,_⟩:=a.gd E;exact g.acy.pots.perm p
theorem FrstL.few {m:Nat}{sp:List Sn}{l:List Nat}(E:Ends m sp)(h:0<m)(a:FrstL m sp l):l.length<m:=by
 obtain ⟨gs,tk,g,p,_⟩:=a.gd E;rw [p.length_eq];exact g.few h
theorem FrstL.held {m:Nat}{sp:List Sn}{l:List Nat}(E:Ends m sp)(a:FrstL m sp l){k:Nat}(hk:k<sp.length):Held sp l (sAt sp k).s (sAt sp k).g:=by
 obtain ⟨gs,tk,g,p,me⟩:=a.gd E;obtain ⟨s0,s1,g0,g1⟩:=E _ (eX hk);exact (g.held _ _ s0 s1 g0 g1 (me k hk)).more fun i hi=>p.mem_iff.mpr hi
def nS (sp:List Sn)(tk:List Nat):List Nat:=(aP sp.length).filter fun k=> !(decide (k∈tk))
structure FR (m:Int)(sp:List Sn)(l:List Nat)(rg:List (Nat×List Stp)):Prop where
 fr:FrstL m.toNat sp l
 rk:∀ q∈rg,RK sp l q
 ks:rg.map (·.1)=nS sp l
theorem FR.ff {b m:Int}{sp:List Sn}{l:List Nat}{rg:List (Nat×List Stp)}(N:NetT b m sp)(a:FR m sp l rg):FF m sp l rg:=by
 have m1:=N.m1;refine ⟨a.fr.pots N.ends,by have:=a.fr.few N.ends (by omega);omega,a.rk,fun k hk hn=>?_,?_⟩
 ·have:k∈rg.map (·.1):=by
   rw [a.ks];exact cN.mpr ⟨bP.mpr hk,by rw [pB hn];rfl⟩
  obtain ⟨q,hq,rfl⟩:=bh.mp this;exact ⟨q.2,hq⟩
 ·rw [a.ks]
  exact ib.filter _
def wayQ (q:Nat×List Stp):Dt:=mY q.2
def hI (k:Nat)(q:Nat×List Stp):Bool:=decide (k∈q.2.map Stp.i)
theorem Tb.lamT {T:ao}{lp:Pos}{lq:Str}{H:Hp}(h:L2.LamT T lp lq H){H':Hp}(e:L2.Tb T H H'):TupK H H':=Tb.tupK (LamT.tbl h) e
inductive spRingsO (T:ao)(lp:Pos)(lq:Str)(vs:List V)(H:Hp)(Q:VK)(_:XK):Prop
 | mk (v:V)(b m:Int)(sp:List Sn)(_:vs=[v])(_:IsD H v (ko b m sp))(_:NetT b m sp)(_:L2.LamT T lp lq H)(_:∀ (L:ao) (rl:List V) (l:List Nat) (rg:List (Nat×List Stp)) (H':Hp),L2.Tb T H H'→L2.LamT T lp lq H'→H L=none→H' L=some (.lst rl)→IsDs H' rl (rg.map wayQ)→FR m sp l rg→Q (.ref L) H')
inductive spOverR (vs:List V)(H:Hp)(Q:VK)(_:XK):Prop
 | mk (u:ao)(k:Nat)(rl:List V)(rg:List (Nat×List Stp))(_:vs=[.ref u,.int (k:Nat)])(_:H u=some (.lst rl))(_:IsDs H rl (rg.map wayQ))(_:rg.length≤40)(_:(∀ q∈rg,q.2.length≤1000))(_:∀ (L:ao) (rl':List V) (H':Hp),Same H H'→H L=none→H' L=some (.lst rl')→IsDs H' rl' ((rg.filter (hI k)).map wayQ)→Q (.ref L) H')
structure CsD (H:Hp)(c:ao)(bs:List (Int×Int))(rs:List (Nat×List Stp)):Prop where
 ex:∃ vb u rl,H c=some (.tup [vb,.ref u])∧IsD H vb (bndP bs)∧H u=some (.lst rl)∧IsDs H rl (rs.map wayQ)
theorem CsD.same {H H':Hp}{c:ao}{bs:List (Int×Int)}{rs:List (Nat×List Stp)}(a:CsD H c bs rs)(e:Same H H'):CsD H' c bs rs:=by
 obtain ⟨vb,u,rl,h1,h2,h3,h4⟩:=a.ex;exact ⟨vb,u,rl,e _ _ h1,h2.same e,e _ _ h3,h4.same e⟩
inductive spMid (vs:List V)(H:Hp)(Q:VK)(_:XK):Prop
 | mk (c:ao)(k:Nat)(bs:List (Int×Int))(rs:List (Nat×List Stp))(_:vs=[.ref c,.int (k:Nat)])(_:CsD H c bs rs)(_:k<bs.length)(_:Q (.int (((bs.getD k (0,0)).1+(bs.getD k (0,0)).2) / 2)) H)
inductive spDeadL (vs:List V)(H:Hp)(Q:VK)(_:XK):Prop
 | mk (v:V)(c:ao)(b m:Int)(sp:List Sn)(bs:List (Int×Int))(rs:List (Nat×List Stp))(_:vs=[v,.ref c])(_:IsD H v (ko b m sp))(_:0<b)(_:b<10 ^ 61)(_:CsD H c bs rs)(_:rs.length≤40)(_:(∀ q∈rs,oJ bs.length q.2))(_:∀ r H',Same H H'→((r= .non∧∀ q∈rs,i5 b bs q.2=false)∨∃ q∈rs,IsD H' r (leafP (.ring q.2))∧i5 b bs q.2=true)→Q r H')
inductive Spr (sp:List Sn):List Stp→Prop where
 | nil:Spr sp []
 | snoc {S:List Stp} {s:Stp} (h:Spr sp S) (n:eV sp s≠kt sp s) (o:∀ t∈S,eV sp s≠eV sp t∧eV sp s≠kt sp t):Spr sp (S++[s])
structure SI (m:Nat)(sp:List Sn)(tk:List Nat)(ex:Int→Prop)(R A:List Int)(S:List Stp):Prop where
 rng:∀ r∈R,0≤r∧r<(m:Int)
 nd:R.Nodup
 ahd:∀ a∈A,a∈R
 inn:∀ s∈S,s.i∈tk∧(s.d=1∨s.d= -1)∧kt sp s∈R∧eV sp s∈R
 spr:Spr sp S
 len:S.length≤R.length
 clo:∀ z∈R,z ∉ A→¬ ex z→∀ s∈dI sp tk z,s.i∈S.map Stp.i
 con:∀ π:Int→Int,(∀ s∈S,π (kt sp s)=π (eV sp s))→∀ a c,(a∈A∨ex a)→(c∈A∨ex c)→π a=π c
def exN:Int→Prop:=fun _=>False
section
variable {m:Nat} {sp:List Sn} {tk:List Nat} {R A:List Int} {S:List Stp}
theorem SI.start:SI m sp tk exN [] [] [] :=
 ⟨fun _ h=>(by cases h),List.nodup_nil,fun _ h=>(by cases h),fun _ h=>(by cases h),.nil,aC _,fun _ h=>(by cases h),fun _ _ a c h=>(by rcases h with h | h;cases h;cases h)⟩
theorem SI.root {x:Int}(h:SI m sp tk exN R [] S)(hx:x ∉ R)(x0:0≤x)(x1:x<(m:Int)):SI m sp tk exN (R++[x]) [x] S:=by
 refine ⟨fun r hr=>?_,gS.mpr ⟨h.nd,by simp,fun a ha c hc e=>?_⟩,fun a ha=>aG _ ha,fun s hs=>?_,h.spr,by rw [aq];exact Nat.le_succ_of_le h.len,fun z hz hn ex=>?_,fun π _ a c ha hc=>?_⟩
 ·rcases aM.mp hr with z | z
  ·exact h.rng r z
  ·rw [aw.mp z];exact ⟨x0,x1⟩
 ·rw [aw.mp hc] at e
  exact hx (e ▸ ha)
 ·obtain ⟨a,b,c,d⟩:=h.inn s hs
  exact ⟨a,b,aE _ c,aE _ d⟩
 ·rcases aM.mp hz with y | y
  ·exact h.clo z y (by simp) ex
  ·exact pj y hn
 ·rcases ha with ha | ha
  ·rcases hc with hc | hc
   ·rw [aw.mp ha,aw.mp hc]
   ·exact hc.elim
  ·exact ha.elim
theorem SI.pop {x:Int}(h:SI m sp tk exN R (A++[x]) S):SI m sp tk (· =x) R A S∧x∈R:=by
 refine ⟨⟨h.rng,h.nd,fun a ha=>h.ahd a (aE _ ha),h.inn,h.spr,h.len,fun z hz hn ex=>?_,fun π hπ a c ha hc=>?_⟩,h.ahd x (by simp)⟩
 ·refine h.clo z hz (fun y=>?_) id
  rcases aM.mp y with y | y
  ·exact hn y
  ·exact ex (aw.mp y)
 ·have up:∀ a:Int,(a∈A∨a=x)→a∈A++[x]∨exN a:=fun a ha=> .inl (ha.elim (fun z=>aE _ z) fun z=>by rw [z];simp)
  exact h.con π hπ a c (up a ha) (up c hc)
theorem mf {x:Int}{s:Stp}(h:s∈dI sp tk x):(s.i∈tk∧(s.d=1∨s.d= -1))∧kt sp s=x :=
 ⟨mem_stF (cN.mp h).1,pE (cN.mp h).2⟩
theorem nv {x:Int}{i:Nat}{d:Int}(h:i∈tk)(hd:d=1∨d= -1)(e:kt sp ⟨i,d⟩=x):(⟨i,d⟩:Stp)∈dI sp tk x:=by
 refine cN.mpr ⟨?_,pA e⟩;unfold stF
 rcases hd with rfl | rfl
 ·exact aE _ (bh.mpr ⟨i,h,rfl⟩)
 ·exact aG _ (bh.mpr ⟨i,h,rfl⟩)
theorem SI.add {x:Int}{s:Stp}(E:Ends m sp)(ht:∀ i∈tk,i<sp.length)(h:SI m sp tk (· =x) R A S)(hx:x∈R)(hs:s∈dI sp tk x)(hn:eV sp s ∉ R):SI m sp tk (· =x) (R++[eV sp s]) (A++[eV sp s]) (S++[s]):=by
 obtain ⟨⟨h1,h2⟩,h3⟩:=mf hs;refine ⟨fun r hr=>?_,gS.mpr ⟨h.nd,by simp,fun a ha c hc e=>?_⟩,fun a ha=>?_,fun t hT=>?_,.snoc h.spr (fun z=>hn (by rw [z,h3];exact hx)) (fun t hT=>⟨fun z=>hn (by rw [z];exact (h.inn t hT).2.2.2),fun z=>hn (by rw [z];exact (h.inn t hT).2.2.1)⟩),by rw [aq,aq];exact Nat.succ_le_succ h.len,fun z hz hz' ex t hT=>?_,fun π hπ=>?_⟩
 ·rcases aM.mp hr with z | z
  ·exact h.rng r z
  ·rw [aw.mp z];exact kL E (ht _ h1)
 ·rw [aw.mp hc] at e
  exact hn (e ▸ ha)
 ·rcases aM.mp ha with z | z
  ·exact aE _ (h.ahd a z)
  ·exact aG _ z
 ·rcases aM.mp hT with z | z
  ·obtain ⟨a,b,c,d⟩:=h.inn t z
   exact ⟨a,b,aE _ c,aE _ d⟩
  ·rw [aw.mp z]
   exact ⟨h1,h2,aE _ (h3 ▸ hx),by simp⟩
 ·rw [aA]
  refine aE _ ?_
  rcases aM.mp hz with y | y
  ·exact h.clo z y (fun y'=>hz' (aE _ y')) ex t hT
  ·exact pj (aG _ y) hz'
 ·have old:∀ t∈S,π (kt sp t)=π (eV sp t):=fun t hT=>hπ t (aE _ hT)
  have new:π (eV sp s)=π x:=by rw [←hπ s (by simp),h3]
  have one:∀ a:Int,(a∈A++[eV sp s]∨a=x)→π a=π x:=fun a ha=>by
   rcases ha with ha | ha
   ·rcases aM.mp ha with z | z
    ·exact h.con π old a x (.inl z) (.inr rfl)
    ·rw [aw.mp z,new]
   ·rw [ha]
  exact fun a c ha hc=>(one a ha).trans (one c hc).symm
theorem SI.has {x:Int}{s:Stp}(P:Pots sp tk)(ne:∀ i∈tk,(sAt sp i).s≠(sAt sp i).g)(h:SI m sp tk (· =x) R A S)(hs:s∈dI sp tk x)(hn:eV sp s∈R):s.i∈S.map Stp.i:=by
 obtain ⟨⟨h1,h2⟩,h3⟩:=mf hs;have lt:=P.nodup.2 _ h1;obtain ⟨f1,f2,f3,f4⟩:=oY lt;have hne:=ne _ h1;obtain ⟨i,d⟩:=s;have h2:d=1∨d= -1:=h2;show i∈_;have h1:i∈tk:=h1;have f1:kt sp ⟨i,1⟩=(sAt sp i).s:=f1;have f2:eV sp ⟨i,1⟩=(sAt sp i).g:=f2;have f3:kt sp ⟨i,-1⟩=(sAt sp i).g:=f3;have f4:eV sp ⟨i,-1⟩=(sAt sp i).s:=f4;have hne:(sAt sp i).s≠(sAt sp i).g:=hne
 by_cases c:eV sp ⟨i,d⟩∈A
 ·refine fI fun no=>?_
  obtain ⟨π,hπ⟩:=P.pot fun k=>if k=i then 1 else 0
  have e:=h.con π (fun t hT=>by
   obtain ⟨t1,t2,_⟩:=h.inn t hT;have e:=hπ _ t1;rw [pe (fun z=>no (bh.mpr ⟨t,hT,z⟩))] at e;obtain ⟨g1,g2,g3,g4⟩:=oY (P.nodup.2 _ t1);obtain ⟨j,dj⟩:=t;have t2:dj=1∨dj= -1:=t2
   dsimp only at e g1 g2 g3 g4
   rcases t2 with rfl | rfl
   ·rw [g1,g2];omega
   ·rw [g3,g4];omega) _ x (.inl c) (.inr rfl)
  have y:=hπ i h1;rw [pf rfl] at y;rw [←h3] at e
  rcases h2 with rfl | rfl
  ·rw [f1,f2] at e
   dsimp only at e y
   omega
  ·rw [f3,f4] at e
   dsimp only at e y
   omega
 ·rcases h2 with rfl | rfl
  ·rw [f2] at hn c
   exact h.clo _ hn c (fun z=>hne (by rw [←f1,h3];exact z.symm)) ⟨i,-1⟩ (nv h1 (.inr rfl) f3)
  ·rw [f4] at hn c
   exact h.clo _ hn c (fun z=>hne (by rw [←f3,h3];exact z)) ⟨i,1⟩ (nv h1 (.inl rfl) f1)
theorem SI.done {x:Int}(h:SI m sp tk (· =x) R A S)(a:∀ s∈dI sp tk x,s.i∈S.map Stp.i):SI m sp tk exN R A S:=by
 refine ⟨h.rng,h.nd,h.ahd,h.inn,h.spr,h.len,fun z hz hn _=>?_,fun π hπ a c ha hc=>h.con π hπ a c (.inl (ha.elim id cQ)) (.inl (hc.elim id cQ))⟩
 by_cases e:z=x
 ·rw [e];exact a
 ·exact h.clo z hz hn e
theorem SI.few (h:SI m sp tk exN R A S):R.length≤m:=by
 have:=md (k:=(aP m).map fun i:Nat=>(i:Int)) h.nd fun x hx=>by
  obtain ⟨a,b⟩:=h.rng x hx;exact bh.mpr ⟨x.toNat,bP.mpr (by omega),by omega⟩
 rwa [aa,bo] at this
theorem SI.fewX {x:Int}(h:SI m sp tk (· =x) R A S):R.length≤m:=by
 have:=md (k:=(aP m).map fun i:Nat=>(i:Int)) h.nd fun x hx=>by
  obtain ⟨a,b⟩:=h.rng x hx;exact bh.mpr ⟨x.toNat,bP.mpr (by omega),by omega⟩
 rwa [aa,bo] at this
end
structure SprOk (m:Nat)(sp:List Sn)(tk:List Nat)(S:List Stp):Prop where
 spr:Spr sp S
 inn:∀ s∈S,s.i∈tk∧(s.d=1∨s.d= -1)
 all:∀ i∈tk,i∈S.map Stp.i
 len:S.length≤m
theorem SI.ok {m:Nat}{sp:List Sn}{tk:List Nat}{R:List Int}{S:List Stp}(E:Ends m sp)(ht:∀ i∈tk,i<sp.length)(h:SI m sp tk exN R [] S)(a:∀ x:Nat,x<m→(x:Int)∈R):SprOk m sp tk S:=by
 refine ⟨h.spr,fun s hs=>⟨(h.inn s hs).1,(h.inn s hs).2.1⟩,fun i hi=>?_,bj h.len h.few⟩;obtain ⟨s0,s1,_,_⟩:=E _ (eX (ht i hi));obtain ⟨f1,_⟩:=oY (ht i hi);have:=a (sAt sp i).s.toNat (by omega);rw [show (((sAt sp i).s.toNat:Nat):Int)=(sAt sp i).s by omega] at this;exact h.clo _ this (by simp) id ⟨i,1⟩ (nv hi (.inl rfl) f1)
def setT (sp:List Sn)(y:Nat→Int)(ts:List Int)(s:Stp):List Int:=ts.set (eV sp s).toNat (tm ts (kt sp s)+s.d * y s.i)
def jq (sp:List Sn)(y:Nat→Int)(m:Nat)(S:List Stp):List Int:=S.foldl (setT sp y) (bO m 0)
theorem kM {sp:List Sn}{y:Nat→Int}{m:Nat}:∀ (S:List Stp) (ts:List Int),(S.foldl (setT sp y) ts).length=ts.length
 | [],_=>rfl
 | s::S,ts=>by
  rw [bQ,kM (m:=m) S];exact fu
theorem tm_set {ts:List Int}{x z v:Int}(x0:0≤x)(x1:x<ts.length)(z0:0≤z):tm (ts.set x.toNat v) z=if z=x then v else tm ts z:=by
 unfold tm;rw [ai,ai]
 by_cases e:z=x
 ·rw [pf e,e,dY (by omega)];rfl
 ·rw [pe e,dU (by omega)]
theorem tooS_sAt0 {sp:List Sn}{s:Stp}(h:s.i<sp.length):too (sAt sp s.i) s.d=eV sp s∧frm (sAt sp s.i) s.d=kt sp s:=by
 have e:sAt sp s.i=sp[s.i]:=by unfold sAt;rw [ai,gE h];rfl
 rw [e];exact ⟨(j5 h).symm,(lh h).symm⟩
theorem timesS_ok {m:Nat}{sp:List Sn}{y:Nat→Int}(E:Ends m sp){S:List Stp}(h:Spr sp S):(∀ s∈S,s.i<sp.length)→∀ s∈S,tm (jq sp y m S) (eV sp s)=tm (jq sp y m S) (kt sp s)+s.d * y s.i:=by
 induction h with
 | nil=>exact fun _ s hs=>by cases hs
 | snoc h n o ih =>
  rename_i S s;intro hl t ht;have hl':∀ t∈S,t.i<sp.length:=fun t h'=>hl t (aE _ h')
  have frm_rng:∀ t:Stp,t.i<sp.length→0≤kt sp t:=fun t h'=>by
   have e:=(tooS_sAt0 h').2;obtain ⟨a,b,c,d⟩:=E _ (eX h');rw [←e];unfold frm;split <;> omega
  have e:jq sp y m (S++[s])=setT sp y (jq sp y m S) s:=by unfold jq;rw [eP];rfl
  have hs:s.i<sp.length:=hl s (by simp);obtain ⟨x0,x1⟩:=kL E hs;have len:(jq sp y m S).length=m:=by unfold jq;rw [kM (m:=m),gP]
  rw [e];unfold setT
  rcases aM.mp ht with z | z
  ·rw [tm_set x0 (by omega) (kL E (hl' t z)).1,tm_set x0 (by omega) (frm_rng t (hl' t z)),pe (fun q=>(o t z).1 q.symm),pe (fun q=>(o t z).2 q.symm)]
   exact ih hl' t z
  ·rw [aw.mp z,tm_set x0 (by omega) x0,tm_set x0 (by omega) (frm_rng s hs),pf rfl,pe (fun q=>n q.symm)]
theorem SprOk.pot {m:Nat}{sp:List Sn}{tk:List Nat}{S:List Stp}(E:Ends m sp)(ht:∀ i∈tk,i<sp.length)(h:SprOk m sp tk S)(y:Nat→Int):∀ i∈tk,tm (jq sp y m S) (sAt sp i).g - tm (jq sp y m S) (sAt sp i).s=y i:=fun i hi=>by
 obtain ⟨s,hs,rfl⟩:=bh.mp (h.all i hi);have e:=timesS_ok (y:=y) E h.spr (fun t hT=>ht _ (h.inn t hT).1) s hs;obtain ⟨f1,f2,f3,f4⟩:=oY (ht _ hi);have hd:=(h.inn s hs).2;obtain ⟨i,d⟩:=s
 dsimp only at e f1 f2 f3 f4 hd ⊢
 rcases hd with rfl | rfl
 ·rw [f1,f2] at e;omega
 ·rw [f3,f4] at e;omega
def lowB (bs:List (Int×Int))(k:Nat):Int:=(bs.getD k (0,0)).1
def tabOf (b:Int)(sp:List Sn)(bs:List (Int×Int))(m:Nat)(S:List Stp):List Int:=(jq sp (lowB bs) m S).map (· % b)
abbrev Cse:=List (Int×Int)×List (Nat×List Stp)
def wdB (bs:List (Int×Int))(k:Nat):Nat:=((bs.getD k (0,0)).2 - (bs.getD k (0,0)).1+1).toNat
def prdN:List Nat→Nat
 | []=>1
 | x::l=>x * prdN l
def fc (bs:List (Int×Int))(l:List Nat):Nat:=prdN (l.map (wdB bs))
theorem lM {f g:Nat→Nat}:∀ (l:List Nat),(∀ j∈l,f j=g j)→prdN (l.map f)=prdN (l.map g)
 | [],_=>rfl
 | j::l,h=>by
  show f j * _=g j * _;rw [h j (by simp),lM l fun i hi=>h i (ax _ hi)]
theorem oT {f g h:Nat→Nat}{k:Nat}(e:f k=g k+h k):∀ (l:List Nat),l.Nodup→k∈l→(∀ j∈l,j≠k→f j=g j∧f j=h j)→prdN (l.map f)=prdN (l.map g)+prdN (l.map h)
 | [],_,hk,_=>pj hk (by simp)
 | j::l,nd,hk,hh=>by
  rw [bB] at nd;show f j * _=g j * _+h j * _
  by_cases c:j=k
  ·subst c
   have ne:∀ i∈l,i≠j:=fun i hi z=>nd.1 (z ▸ hi)
   rw [←lM (f:=f) (g:=g) l fun i hi=>(hh i (ax _ hi) (ne i hi)).1,←lM (f:=f) (g:=h) l fun i hi=>(hh i (ax _ hi) (ne i hi)).2,e,Nat.add_mul]
  ·obtain ⟨a1,a2⟩:=hh j (by simp) c
   rw [oT e l nd.2 ((aL.mp hk).resolve_left fun z=>c z.symm) fun i hi=>hh i (ax _ hi),Nat.mul_add,←a1,←a2]
theorem prdN_pos {f:Nat→Nat}:∀ (l:List Nat),(∀ j∈l,0<f j)→0<prdN (l.map f)
 | [],_=>Nat.one_pos
 | j::l,h=>Nat.mul_pos (h j (by simp)) (prdN_pos l fun i hi=>h i (ax _ hi))
theorem iD {sp:List Sn}{l:List Nat}{bs:List (Int×Int)}(O:OB sp l bs)(hl:∀ k∈l,k<sp.length):0<fc bs l:=prdN_pos l fun j hj=>by
 have:=O.lo j (hl j hj);unfold wdB;omega
theorem k5 {sp:List Sn}{l:List Nat}{bs:List (Int×Int)}{k:Nat}{a:Int}(O:OB sp l bs)(nd:l.Nodup)(hl:∀ k∈l,k<sp.length)(hk:k∈l)(h1:(bs.getD k (0,0)).1≤a)(h2:a<(bs.getD k (0,0)).2):fc bs l=fc (kx bs k a) l+fc (eU bs k a) l:=by
 have hb:=O.len;have hkl:=hl k hk;refine oT ?_ l nd hk fun j hj hn=>?_
 ·unfold wdB kx eU
  rw [hX (by omega),hX (by omega),pf rfl,pf rfl];show _=(a - _+1).toNat+(_ - (a+1)+1).toNat;omega
 ·have hjl:=hl j hj
  unfold wdB kx eU;rw [hX (by omega),hX (by omega),pe (cp hn),pe (cp hn)];exact ⟨rfl,rfl⟩
theorem kd {sp:List Sn}:∀ (l:List Nat),(∀ k∈l,k<sp.length)→(∀ x∈sp,x.l≤x.o)→((fc (sp.map fun x=>(x.l,x.o)) l:Nat):Int)=ka sp l
 | [],_,_=>rfl
 | k::l,h,p=>by
  have ih:=kd l (fun j hj=>h j (ax _ hj)) p;rw [mm,←ih];show ((wdB _ k * fc _ l:Nat):Int)=_;have hk:=h k (by simp);have e:(sp.map fun x=>(x.l,x.o)).getD k (0,0)=((sAt sp k).l,(sAt sp k).o):=by rw [ai,ay,i8 hk];rfl
  have q:=p _ (eX hk);have e2:((wdB (sp.map fun x=>(x.l,x.o)) k:Nat):Int)=(wkey sp k).1+1:=by
   unfold wdB;rw [e];show (((sAt sp k).o - (sAt sp k).l+1).toNat:Int)=(sAt sp k).o - (sAt sp k).l+1;omega
  rw [←e2];exact Int.natCast_mul _ _
structure CaseOk (b:Int)(sp:List Sn)(l:List Nat)(rg:List (Nat×List Stp))(c:Cse):Prop where
 ob:OB sp l c.1
 sub:∀ q∈c.2,q∈rg
 few:c.2.length≤40
 alive:∀ q∈rg,q ∉ c.2→i5 b c.1 q.2=false
theorem low_set {bs:List (Int×Int)}{k:Nat}{x:Int×Int}:∀ (ws:List Stp),k ∉ ws.map Stp.i→fk (bs.set k x) ws=fk bs ws∧gg (bs.set k x) ws=gg bs ws
 | [],_=>⟨rfl,rfl⟩
 | s::ws,h=>by
  obtain ⟨i1,i2⟩:=low_set (x:=x) ws fun z=>h (ax _ z)
  have hs:k≠s.i:=fun z=>h (by rw [z];simp)
  have e:(bs.set k x)[s.i]? =bs[s.i]? := dU hs
  constructor
  ·show oF _ s+fk _ ws=oF _ s+fk _ ws
   rw [i1];congr 1;unfold oF;rw [e]
  ·show jB _ s+gg _ ws=jB _ s+gg _ ws
   rw [i2];congr 1;unfold jB;rw [e]
theorem dead_set {b:Int}{bs:List (Int×Int)}{k:Nat}{x:Int×Int}{q:Nat×List Stp}(h:hI k q=false):i5 b (bs.set k x) q.2=i5 b bs q.2:=by
 obtain ⟨a1,a2⟩:=low_set (bs:=bs) (x:=x) q.2 (of_decide_eq_false h);unfold i5;rw [a1,a2]
theorem CaseOk.cut {b:Int}{sp:List Sn}{l:List Nat}{rg:List (Nat×List Stp)}{c:Cse}(C:CaseOk b sp l rg c)(lrg:rg.length≤40)(hl:∀ k∈l,k<sp.length)(al:∀ q∈c.2,i5 b c.1 q.2=false){k:Nat}{a:Int}(hk:k∈l)(h1:(c.1.getD k (0,0)).1≤a)(h2:a<(c.1.getD k (0,0)).2) :
  CaseOk b sp l rg (eU c.1 k a,rg.filter (hI k))∧CaseOk b sp l rg (kx c.1 k a,rg.filter (hI k)):=by
 have sub:∀ q∈rg.filter (hI k),q∈rg:=fun q hq=>(cN.mp hq).1
 have few:(rg.filter (hI k)).length≤40:=bj (i7 _ _) lrg;have all:∀ q∈rg,i5 b c.1 q.2=false:=fun q hq=>by
  by_cases z:q∈c.2
  ·exact al q z
  ·exact C.alive q hq z
 have out:∀ q∈rg,q ∉ rg.filter (hI k)→hI k q=false:=fun q hq hn=>gU.mpr fun z=>hn (cN.mpr ⟨hq,z⟩)
 exact ⟨⟨C.ob.other hk (hl k hk) h1 h2,sub,few,fun q hq hn=>(dead_set (out q hq hn)).trans (all q hq)⟩,⟨C.ob.one hk (hl k hk) h1 h2,sub,few,fun q hq hn=>(dead_set (out q hq hn)).trans (all q hq)⟩⟩
theorem dead_none {b:Int}{ts:List Int}{sp:List Sn}{bs:List (Int×Int)}{ws:List Stp}(hb:0<b)(hl:bs.length=sp.length)(h:InB (jN b ts sp) bs)(hr:Rg sp ws):i5 b bs ws=false:=by
 obtain ⟨Z,_,z1,z2⟩:=ring_in hb hl h hr;unfold i5;exact pB (by omega)
theorem key_pot {b m:Int}{sp:List Sn}{tk:List Nat}{rg:List (Nat×List Stp)}{bs:List (Int×Int)}(N:NetT b m sp)(f:FF m sp tk rg)(O:OB sp tk bs)(x:Fx b tk rg bs){ts:List Int}{π:Int→Int}(hπ:∀ i∈tk,π (sAt sp i).g - π (sAt sp i).s=(bs.getD i (0,0)).1)
  (eW:∀ k,k<sp.length→fU b ts (sAt sp k)=(π (sAt sp k).g - π (sAt sp k).s - (sAt sp k).l) % b):∀ k,k<sp.length→(bs.getD k (0,0)).1≤jN b ts sp k∧jN b ts sp k≤(bs.getD k (0,0)).2:=fun k hk=>by
 have hb:0<b:=by have:=N.b1;omega
 obtain ⟨ht1,ht2⟩:=f.acy.nodup;have s:=N.all _ (eX hk);have lo:=O.lo k hk;have lay:jN b ts sp k=(sAt sp k).l+fU b ts (sAt sp k):=by unfold jN;rw [i8 hk]
 rw [lay];have fin:∀ Y,fU b ts (sAt sp k)=Y - (sAt sp k).l→(bs.getD k (0,0)).1≤Y→Y≤(bs.getD k (0,0)).2→(bs.getD k (0,0)).1≤(sAt sp k).l+fU b ts (sAt sp k)∧(sAt sp k).l+fU b ts (sAt sp k)≤(bs.getD k (0,0)).2:=fun Y e y1 y2=>by omega
 by_cases c:k∈tk
 ·have e:=hπ k c
  have fx:=x.fix k c;refine fin (bs.getD k (0,0)).1 ?_ (gB _) (by omega);rw [eW k hk,show π (sAt sp k).g - π (sAt sp k).s - (sAt sp k).l=(bs.getD k (0,0)).1 - b * 0 - (sAt sp k).l by rw [il];omega];exact rest_in lo.1 (by have:=s.ob;omega)
 ·obtain ⟨r,hr⟩:=f.all k hk c
  have K:=f.rk _ hr;obtain ⟨p,e,P,e1,e2⟩:=nk K O x.fix;have al:=x.alive _ hr;have al:¬ (upB b (fk bs r) > gg bs r / b):=by unfold i5 at al;simpa using al
  obtain ⟨_,z1,z2⟩:=beat_one hb (lo:=fk bs r) (hi:=gg bs r) (by omega) (by
   have e1:fk bs r=_:=e1;have e2:gg bs r=_:=e2;have:=s.ob;rw [e1,e2];show (sAt sp k).o+_ - ((sAt sp k).l+_)<b;omega)
  have ea:=alg_pot ht2 hπ p _ _ (fun s hs=>⟨(P.inn s hs).1,(P.inn s hs).2.2⟩) P.alo;have e1:fk bs r=(sAt sp k).l+alg (fun k=>(bs.getD k (0,0)).1) p:=e1;have e2:gg bs r=(sAt sp k).o+alg (fun k=>(bs.getD k (0,0)).1) p:=e2;have ea:alg (fun k=>(bs.getD k (0,0)).1) p=π (sAt sp k).s - π (sAt sp k).g:=ea;have eo:=O.out k hk c;rw [eo] at fin ⊢;refine fin (b * upB b (fk bs r) - alg (fun k=>(bs.getD k (0,0)).1) p) ?_ (by show (sAt sp k).l≤_;omega) (by show _≤(sAt sp k).o;omega);rw [eW k hk];have hs:=s.ob;have:=rest_in (b:=b) (Y:=b * upB b (fk bs r) - alg (fun k=>(bs.getD k (0,0)).1) p) (l:=(sAt sp k).l) (Z:=upB b (fk bs r)) (by omega) (by omega);rw [←this];congr 1;omega
theorem fits_lay {b m:Int}{sp:List Sn}{ts:List Int}(h:∀ k,k<sp.length→jN b ts sp k≤(sAt sp k).o):jd b ts sp=true:=by
 unfold jd;rw [ft,fq];intro s hs;obtain ⟨k,hk,rfl⟩:=List.getElem_of_mem hs;have eA:sAt sp k=sp[k]:=by unfold sAt;rw [ai,gE hk];rfl
 have:=h k hk;have lay:jN b ts sp k=(sAt sp k).l+fU b ts (sAt sp k):=by unfold jN;rw [i8 hk]
 rw [lay,eA] at this;unfold brk;rw [pB (by omega)];exact bb
structure Kp (H H':Hp):Prop where
 tup:TupK H H'
 lst:∀ q xs,H q=some (.lst xs)→H' q=some (.lst xs)
theorem Same.kp {H H':Hp}(e:Same H H'):Kp H H':=⟨fun _ _ h=>e _ _ h,fun _ _ h=>e _ _ h⟩
theorem Kp.trans {H H1 H2:Hp}(a:Kp H H1)(b:Kp H1 H2):Kp H H2:=⟨fun _ _ h=>b.tup _ _ (a.tup _ _ h),fun _ _ h=>b.lst _ _ (a.lst _ _ h)⟩
theorem Tb.kp {T:ao}{lp:Pos}{lq:Str}{H H':Hp}(h:L2.LamT T lp lq H)(e:L2.Tb T H H'):Kp H H':=by
 obtain ⟨ps,hT⟩:=LamT.tbl h;exact ⟨fun q _ h=>e q _ (ie h hT nofun) h,fun q _ h=>e q _ (ie h hT nofun) h⟩
theorem Kp.upd {H:Hp}{x C dx:ao}{fs:List (Str×V)}{o:HO}(h:H x=some (.ins C dx fs)):Kp H (upd H x o) :=
 ⟨fun q _ hq=>by rw [bf (ie hq h nofun)];exact hq,fun q _ hq=>by rw [bf (ie hq h nofun)];exact hq⟩
theorem LamT.ntb {T U:ao}{lp lp':Pos}{lq lq':Str}{H H':Hp}(h:L2.LamT T lp lq H)(hU:L2.LamT U lp' lq' H)(ne:T≠U)(e:L2.Tb U H H'):L2.LamT T lp lq H':=by
 obtain ⟨ps,hT⟩:=LamT.tbl hU
 rcases h with h | ⟨c,h,oc,vs,t,e1,r⟩
 ·exact .inl (e _ _ ne h)
 ·exact .inr ⟨c,e _ _ ne h,oc,vs,t,e _ _ (ie e1 hT nofun) e1,r⟩
theorem kQ {T x C dx:ao}{lp:Pos}{lq:Str}{H:Hp}{fs:List (Str×V)}{o:HO}(h:L2.LamT T lp lq H)(hx:H x=some (.ins C dx fs)):L2.LamT T lp lq (L2.upd H x o):=LamT.upd h (fun p u z=>by rw [hx] at z;cases z) (fun ps z=>by rw [hx] at z;cases z)
theorem wayQ_kp {H H':Hp}{rl:List V}{rs:List (Nat×List Stp)}(e:Kp H H')(h:IsDs H rl (rs.map wayQ)):IsDs H' rl (rs.map wayQ):=IsDs.keepP e.tup h (k6 rs fun q _=>nV _ _)
theorem CsD.kp {H H':Hp}{c:ao}{bs:List (Int×Int)}{rs:List (Nat×List Stp)}(a:CsD H c bs rs)(e:Kp H H'):CsD H' c bs rs:=by
 obtain ⟨vb,u,rl,h1,h2,h3,h4⟩:=a.ex;exact ⟨vb,u,rl,e.tup _ _ h1,IsD.keepP e.tup h2 (nV _ _),e.lst _ _ h3,wayQ_kp e h4⟩
structure TchD (H:Hp)(tl:ao)(n:Nat)(rg:List (Nat×List Stp)):Prop where
 ex:∃ tv,H tl=some (.lst tv)∧tv.length=n∧∀ k,k<n→∃ u rl,tv[k]? =some (.ref u)∧H u=some (.lst rl)∧IsDs H rl ((rg.filter (hI k)).map wayQ)
theorem TchD.kp {H H':Hp}{tl:ao}{n:Nat}{rg:List (Nat×List Stp)}(a:TchD H tl n rg)(e:Kp H H'):TchD H' tl n rg:=by
 obtain ⟨tv,h1,h2,h3⟩:=a.ex;refine ⟨tv,e.lst _ _ h1,h2,fun k hk=>?_⟩;obtain ⟨u,rl,a1,a2,a3⟩:=h3 k hk;exact ⟨u,rl,a1,e.lst _ _ a2,wayQ_kp e a3⟩
structure CutD (H:Hp)(C x:ao)(sp:List Sn)(l:List Nat)(rg:List (Nat×List Stp)):Prop where
 ex:∃ (dx c0 tl ol:ao) (ord:List Nat),H x=some (.ins C dx [("first_case",.ref c0),("touched",.ref tl),("order",.ref ol)])∧CsD H c0 (sp.map fun z=>(z.l,z.o)) rg∧TchD H tl sp.length rg∧H ol=some (.lst (ord.map fun (i:Nat)=>V.int i))∧ord.Perm l
theorem CutD.same {H H':Hp}{C x:ao}{sp:List Sn}{l:List Nat}{rg:List (Nat×List Stp)}(a:CutD H C x sp l rg)(e:Same H H'):CutD H' C x sp l rg:=by
 obtain ⟨dx,c0,tl,ol,ord,h1,h2,h3,h4,h5⟩:=a.ex;exact ⟨dx,c0,tl,ol,ord,e _ _ h1,h2.same e,h3.kp (Same.kp e),e _ _ h4,h5⟩
structure CsE (Hb H:Hp)(c:ao)(bs:List (Int×Int))(rs:List (Nat×List Stp)):Prop where
 ex:∃ vb u rl,H c=some (.tup [vb,.ref u])∧IsD H vb (bndP bs)∧Hb u=some (.lst rl)∧IsDs Hb rl (rs.map wayQ)
theorem CsE.dn {Hb H:Hp}{c:ao}{bs:List (Int×Int)}{rs:List (Nat×List Stp)}(a:CsE Hb H c bs rs)(e:Same Hb H):CsD H c bs rs:=by
 obtain ⟨vb,u,rl,h1,h2,h3,h4⟩:=a.ex;exact ⟨vb,u,rl,h1,h2,e _ _ h3,h4.same e⟩
theorem CsE.keep {Hb H H':Hp}{c:ao}{bs:List (Int×Int)}{rs:List (Nat×List Stp)}(a:CsE Hb H c bs rs)(e:TupK H H'):CsE Hb H' c bs rs:=by
 obtain ⟨vb,u,rl,h1,h2,h3,h4⟩:=a.ex;exact ⟨vb,u,rl,e _ _ h1,IsD.keepP e h2 (nV _ _),h3,h4⟩
inductive spInitC (T0:ao)(p0:Pos)(q0:Str)(T1:ao)(p1:Pos)(q1:Str)(C:ao)(vs:List V)(H:Hp)(Q:VK)(_:XK):Prop
 | mk (x dx:ao)(v:V)(b m:Int)(sp:List Sn)(_:vs=[.ref x,v])(_:H x=some (.ins C dx []))(_:IsD H v (ko b m sp))(_:NetT b m sp)(_:L2.LamT T0 p0 q0 H)(_:L2.LamT T1 p1 q1 H)(_:∀ (l:List Nat) (rg:List (Nat×List Stp)) (H':Hp),(∀ a o,a≠T0→a≠T1→a≠x→H a=some o→H' a=some o)→Kp H H'→L2.LamT T0 p0 q0 H'→L2.LamT T1 p1 q1 H'→FR m sp l rg→CutD H' C x sp l rg→Q .non H')
inductive spSpanC (C:ao)(vs:List V)(H:Hp)(Q:VK)(_:XK):Prop
 | mk (x c:ao)(sp:List Sn)(l:List Nat)(rg rs:List (Nat×List Stp))(bs:List (Int×Int))(_:vs=[.ref x,.ref c])(_:CutD H C x sp l rg)(_:CsD H c bs rs)(_:(∀ k∈l,k<bs.length))(_:l.length≤40)(_:((∀ k∈l,¬ ((bs.getD k (0,0)).1<(bs.getD k (0,0)).2))→Q .non H))(_:∀ k∈l,(bs.getD k (0,0)).1<(bs.getD k (0,0)).2→Q (.int (k:Nat)) H)
inductive spSidesC (C:ao)(vs:List V)(H:Hp)(Q:VK)(_:XK):Prop
 | mk (Hb:Hp)(x c:ao)(k:Nat)(a:Int)(sp:List Sn)(l:List Nat)(rg rs:List (Nat×List Stp))(bs:List (Int×Int))(_:vs=[.ref x,.ref c,.int (k:Nat),.int a])(_:Same Hb H)(_:CutD Hb C x sp l rg)(_:CsD H c bs rs)(_:k<bs.length)(_:bs.length=sp.length)(_:bs.length≤40)(_:∀ (L q1 q2:ao) (H':Hp),Same H H'→H L=none→H' L=some (.lst [.ref q1,.ref q2])→CsE Hb H' q1 (eU bs k a) (rg.filter (hI k))→CsE Hb H' q2 (kx bs k a) (rg.filter (hI k))→Q (.ref L) H')
theorem ord_perm {l π:List Nat}(h:π.Perm (aP l.length)):(π.map fun i=>l.getD i 0).Perm l:=by
 have e:(aP l.length).map (fun i=>l.getD i 0)=l:=by
  refine List.ext_getElem (by rw [aa,bo]) fun i h1 h2=>?_
  rw [ic,iH,ai,gE h2];rfl
 have:=h.map (fun i=>l.getD i 0)
 rwa [e] at this
theorem tm_mod {b:Int}{ts:List Int}{x:Int}:tm (ts.map (· % b)) x=tm ts x % b:=by
 unfold tm;rw [ai,ai,ay];cases ts[x.toNat]? with
 | none=>exact (Int.zero_emod b).symm
 | some y=>rfl
def TabOk (b m:Int)(sp:List Sn)(t:List Int):Prop:=t.length=m.toNat∧(∀ x∈t,0≤x∧x<b)∧jd b t sp=true
theorem tab_ok {b m:Int}{sp:List Sn}{l:List Nat}{rg:List (Nat×List Stp)}{bs:List (Int×Int)}{S:List Stp}(N:NetT b m sp)(f:FF m sp l rg)(O:OB sp l bs)(x:Fx b l rg bs)(h:SprOk m.toNat sp l S) :
  TabOk b m sp (tabOf b sp bs m.toNat S)∧∀ k,k<sp.length→(bs.getD k (0,0)).1≤jN b (tabOf b sp bs m.toNat S) sp k∧jN b (tabOf b sp bs m.toNat S) sp k≤(bs.getD k (0,0)).2:=by
 have hb:0<b:=by have:=N.b1;omega
 have ht2:=f.acy.nodup.2;have key:=key_pot N f O x (ts:=tabOf b sp bs m.toNat S) (π:=tm (jq sp (lowB bs) m.toNat S)) (fun i hi=>h.pot N.ends ht2 (lowB bs) i hi) fun k hk=>by
  unfold fU tabOf;rw [tm_mod,tm_mod,rest_two]
 refine ⟨⟨?_,fun y hy=>?_,fits_lay (m:=m) fun k hk=>?_⟩,key⟩
 ·unfold tabOf jq
  rw [aa,kM (m:=0),gP]
 ·obtain ⟨z,_,rfl⟩:=bh.mp hy
  exact ⟨cP _ (by omega),cE _ hb⟩
 ·have:=key k hk
  have:=(O.lo k hk).2.2;omega
def psC (l:List Nat):List Cse→Nat
 | []=>0
 | c::cs=>fc c.1 l+psC l cs
theorem nU (l:List Nat):∀ (cs ds:List Cse),psC l (cs++ds)=psC l cs+psC l ds
 | [],ds=>(Nat.zero_add _).symm
 | c::cs,ds=>by
  show _+psC l (cs++ds)=_+psC l cs+psC l ds;rw [nU l cs ds];omega
structure SrcI (b m:Int)(sp:List Sn)(l:List Nat)(rg:List (Nat×List Stp))(cs:List Cse)(Ts:List (List Int)):Prop where
 ok:∀ c∈cs,CaseOk b sp l rg c
 tabs:∀ t∈Ts,TabOk b m sp t
 hold:∀ T,jd b T sp=true→(∃ t∈Ts,∀ k∈l,jN b t sp k=jN b T sp k)∨∃ c∈cs,InB (jN b T sp) c.1
 cnt:Ts.length+psC l cs≤fc (sp.map fun x=>(x.l,x.o)) l
def szC (l:List Nat):List Cse→Nat
 | []=>0
 | c::cs=>(2 * fc c.1 l - 1)+szC l cs
theorem kX (l:List Nat):∀ (cs ds:List Cse),szC l (cs++ds)=szC l cs+szC l ds
 | [],ds=>(Nat.zero_add _).symm
 | c::cs,ds=>by
  show _+szC l (cs++ds)=_+szC l cs+szC l ds;rw [kX l cs ds];omega
section
variable {b m:Int} {sp:List Sn} {l:List Nat} {rg:List (Nat×List Stp)} {cs:List Cse} {Ts:List (List Int)} {c:Cse}
theorem szC_len (hl:∀ k∈l,k<sp.length):∀ (cs:List Cse),(∀ c∈cs,CaseOk b sp l rg c)→cs.length≤szC l cs
 | [],_=>aC _
 | c::cs,h=>by
  have ih:=szC_len hl cs fun d hd=>h d (ax _ hd)
  have:=iD (h c (by simp)).ob hl;show cs.length+1≤2 * fc c.1 l - 1+szC l cs;omega
theorem SrcI.start (N:NetT b m sp)(hl:rg.length≤40):SrcI b m sp l rg [(sp.map fun x=>(x.l,x.o),rg)] []:=by
 have hb:0<b:=by have:=N.b1;omega
 refine ⟨fun c hc=>?_,fun t h=>pj h (by simp),fun T hT=> .inr ⟨_,aw.mpr rfl,lay_in hb hT⟩,by show 0+(fc (sp.map fun x=>(x.l,x.o)) l+0)≤_;omega⟩;rw [aw.mp hc];exact ⟨OB.first N l,fun q hq=>hq,hl,fun q hq hn=>pj hq hn⟩
theorem SrcI.dead (N:NetT b m sp)(f:FF m sp l rg)(I:SrcI b m sp l rg (cs++[c]) Ts){q:Nat×List Stp}(hq:q∈c.2)(hd:i5 b c.1 q.2=true):SrcI b m sp l rg cs Ts:=by
 have hb:0<b:=by have:=N.b1;omega
 have C:=I.ok c (by simp);refine ⟨fun d hd=>I.ok d (aE _ hd),I.tabs,fun T hT=>?_,by have:=I.cnt;rw [nU] at this;omega⟩
 rcases I.hold T hT with h | ⟨d,h1,h2⟩
 ·exact .inl h
 ·rcases aM.mp h1 with z | z
  ·exact .inr ⟨d,z,h2⟩
  ·rw [aw.mp z] at h2
   have:=f.few;have m2:=N.m2;rw [dead_none hb C.ob.len h2 ((f.rk q (C.sub q hq)).rg N (by omega))] at hd;cases hd
theorem CaseOk.all (C:CaseOk b sp l rg c)(al:∀ q∈c.2,i5 b c.1 q.2=false):∀ q∈rg,i5 b c.1 q.2=false:=fun q hq=>by
 by_cases z:q∈c.2
 ·exact al q z
 ·exact C.alive q hq z
theorem SrcI.leaf {S:List Stp}(N:NetT b m sp)(f:FF m sp l rg)(h:SprOk m.toNat sp l S)(I:SrcI b m sp l rg (cs++[c]) Ts)(al:∀ q∈c.2,i5 b c.1 q.2=false)(fx:∀ k∈l,¬ ((c.1.getD k (0,0)).1<(c.1.getD k (0,0)).2)):SrcI b m sp l rg cs (Ts++[tabOf b sp c.1 m.toNat S]):=by
 have C:=I.ok c (by simp);have ht2:=f.acy.nodup.2;have fix:∀ k∈l,(c.1.getD k (0,0)).1=(c.1.getD k (0,0)).2:=fun k hk=>by
  have:=(C.ob.lo k (ht2 k hk)).2.1;have:=fx k hk;omega
 obtain ⟨t1,t2⟩:=tab_ok N f C.ob ⟨fix,C.all al⟩ h;have pc:=iD C.ob ht2;refine ⟨fun d hd=>I.ok d (aE _ hd),fun t ht=>?_,fun T hT=>?_,by have:=I.cnt;rw [nU] at this;have e:psC l [c]=fc c.1 l+0:=rfl;rw [aq];show Ts.length+1+_≤_;omega⟩
 ·rcases aM.mp ht with z | z
  ·exact I.tabs t z
  ·rw [aw.mp z];exact t1
 ·rcases I.hold T hT with ⟨t,h1,h2⟩ | ⟨d,h1,h2⟩
  ·exact .inl ⟨t,aE _ h1,h2⟩
  ·rcases aM.mp h1 with z | z
   ·exact .inr ⟨d,z,h2⟩
   ·rw [aw.mp z] at h2
    refine .inl ⟨_,aG _ (aw.mpr rfl),fun k hk=>?_⟩;have a1:=t2 k (ht2 k hk);have a2:=h2 k (by rw [C.ob.len];exact ht2 k hk);have a3:=fix k hk;omega
theorem SrcI.cut (N:NetT b m sp)(f:FF m sp l rg)(lrg:rg.length≤40)(I:SrcI b m sp l rg (cs++[c]) Ts)(al:∀ q∈c.2,i5 b c.1 q.2=false){k:Nat}{a:Int}(hk:k∈l)(h1:(c.1.getD k (0,0)).1≤a)(h2:a<(c.1.getD k (0,0)).2) :
  SrcI b m sp l rg (cs++[(eU c.1 k a,rg.filter (hI k)),(kx c.1 k a,rg.filter (hI k))]) Ts∧szC l (cs++[(eU c.1 k a,rg.filter (hI k)),(kx c.1 k a,rg.filter (hI k))])<szC l (cs++[c]):=by
 have C:=I.ok c (by simp);have ht2:=f.acy.nodup.2;obtain ⟨o1,o2⟩:=C.cut lrg ht2 al hk h1 h2;refine ⟨⟨fun d hd=>?_,I.tabs,fun T hT=>?_,?_⟩,?_⟩
 ·rcases aM.mp hd with z | z
  ·exact I.ok d (aE _ z)
  ·rcases aL.mp z with rfl | z
   ·exact o1
   ·rw [aw.mp z];exact o2
 ·rcases I.hold T hT with h | ⟨d,d1,d2⟩
  ·exact .inl h
  ·rcases aM.mp d1 with z | z
   ·exact .inr ⟨d,aE _ z,d2⟩
   ·rw [aw.mp z] at d2
    by_cases e:jN b T sp k≤a
    ·exact .inr ⟨(kx c.1 k a,rg.filter (hI k)),by simp,inB_one d2 e⟩
    ·exact .inr ⟨(eU c.1 k a,rg.filter (hI k)),by simp,inB_other d2 (by omega)⟩
 ·have h0:=I.cnt
  rw [nU] at h0 ⊢;have e:=k5 C.ob f.acy.nodup.1 ht2 hk h1 h2;have e1:psC l [c]=fc c.1 l+0:=rfl;have e2:psC l [(eU c.1 k a,rg.filter (hI k)),(kx c.1 k a,rg.filter (hI k))]=fc (eU c.1 k a) l+(fc (kx c.1 k a) l+0):=rfl;omega
 ·rw [kX,kX]
  show _+((2 * fc (eU c.1 k a) l - 1)+((2 * fc (kx c.1 k a) l - 1)+0))<_+((2 * fc c.1 l - 1)+0);have p1:=iD o1.ob ht2;have p2:=iD o2.ob ht2;have e:=k5 C.ob f.acy.nodup.1 ht2 hk h1 h2;have p1:0<fc (eU c.1 k a) l:=p1;have p2:0<fc (kx c.1 k a) l:=p2;omega
theorem SrcI.less (f:FF m sp l rg)(I:SrcI b m sp l rg (cs++[c]) Ts):szC l cs<szC l (cs++[c]):=by
 have:=iD (I.ok c (by simp)).ob f.acy.nodup.2;rw [kX];show _<_+((2 * fc c.1 l - 1)+0);omega
end
def CsL (Hb Hc:Hp):List V→List Cse→Prop:=jf fun v c=>∃ q,v= .ref q∧CsE Hb Hc q c.1 c.2
theorem CsL.keep {Hb Hc Hd:Hp}(e:TupK Hc Hd){zs:List V}{cs:List Cse}(h:CsL Hb Hc zs cs):CsL Hb Hd zs cs:=L2.Paired.mapP h fun _ _ ⟨q,a,b⟩=>⟨q,a,b.keep e⟩
theorem Paired.app {α β:Type}{R:α→β→Prop}:∀ {xs:List α} {ys:List β} {us:List α} {vs:List β},jf R xs ys→jf R us vs→jf R (xs++us) (ys++vs)
 | _,_,_,_,.nil,h=>h
 | _,_,_,_,.cons r t,h=> .cons r (Paired.app t h)
theorem Paired.len {α β:Type}{R:α→β→Prop}:∀ {xs:List α} {ys:List β},jf R xs ys→xs.length=ys.length
 | _,_,.nil=>rfl
 | _,_,.cons _ t=>pG (· + 1) (Paired.len t)
theorem Paired.snoc_of {α β:Type}{R:α→β→Prop}:∀ {ys:List β} {zs:List α} {y:β},jf R zs (ys++[y])→∃ xs x,zs=xs++[x]∧jf R xs ys∧R x y
 | [],_,_,.cons r .nil=>⟨[],_,rfl,.nil,r⟩
 | _::_,_,_,.cons r t=>by
  obtain ⟨xs,x,rfl,a,b⟩:=Paired.snoc_of t;exact ⟨_::xs,x,rfl,.cons r a,b⟩
inductive spTabF (T0:ao)(p0:Pos)(q0:Str)(T1:ao)(p1:Pos)(q1:Str)(vs:List V)(H:Hp)(Q:VK)(_:XK):Prop
 | mk (v:V)(b m:Int)(sp:List Sn)(most:Nat)(_:vs=[v,.int (most:Nat)])(_:IsD H v (ko b m sp))(_:NetT b m sp)(_:most≤4096)(_:(∀ l,FrstL m.toNat sp l→ka sp l≤4096))(_:L2.LamT T0 p0 q0 H)(_:L2.LamT T1 p1 q1 H)(_:∀ (L:ao) (tv:List V) (l:List Nat) (rg:List (Nat×List Stp)) (Ts:List (List Int)) (H':Hp),(∀ a o,a≠T0→a≠T1→H a=some o→H' a=some o)→Kp H H'→L2.LamT T0 p0 q0 H'→L2.LamT T1 p1 q1 H'→H' L=some (.lst tv)→IsDs H' tv (cY id Ts)→FR m sp l rg→(∀ t∈Ts,TabOk b m sp t)→Ts.length≤most→(Ts.length<most∨most=4096→∀ T,jd b T sp=true→∃ t∈Ts,∀ k∈l,jN b t sp k=jN b T sp k)→Q (.ref L) H')
inductive Mrk where
 | leaf (d:Dt)
 | cut (k:Nat) (a:Int)
def mrkD:Mrk→Dt
 | .leaf d=>d
 | .cut k a=> .tup [.str "cut",.int (k:Nat),.int a]
def pre:Tq→List Mrk
 | .leaf d=>[.leaf d]
 | .cut k a x y=> .cut k a::(pre x++pre y)
def stpT:Option (List Tq)→Mrk→Option (List Tq)
 | some s,.leaf d=>some (.leaf d::s)
 | some (x::y::s),.cut k a=>some (.cut k a x y::s)
 | _,_=>none
theorem stp_none:∀ (l:List Mrk),l.foldl stpT none=none
 | []=>rfl
 | .leaf _::l=>stp_none l
 | .cut _ _::l=>stp_none l
theorem stp_pre:∀ (t:Tq) (s:List Tq),(pre t).reverse.foldl stpT (some s)=some (t::s)
 | .leaf d,s=>rfl
 | .cut k a x y,s=>by
  show (Mrk.cut k a::(pre x++pre y)).reverse.foldl stpT (some s)=_;rw [fW,List.reverse_append,eP,eP,stp_pre y,stp_pre x];rfl
theorem stp_at {l:List Mrk}{r:List Tq}(h:l.foldl stpT (some [])=some r){i:Nat}{m:Mrk}{s:List Tq}(hm:l[i]? =some m)(hs:(l.take i).foldl stpT (some [])=some s):∃ s',stpT (some s) m=some s'∧(l.take (i+1)).foldl stpT (some [])=some s':=by
 have hi:=(av.mp hm).1;have e:(l.take (i+1)).foldl stpT (some [])=stpT (some s) m:=by
  rw [bt,hm,eP,hs];rfl
 cases q:stpT (some s) m with
 | some s'=>exact ⟨s',rfl,by rw [e,q]⟩
 | none =>
  exfalso;rw [←i6 (i+1) l,eP,e,q,stp_none] at h;cases h
def ly (d:Dt):Prop:=pl d=true∧∃ w x,d= .tup [.str w,x]∧w ≠ "cut"
theorem pl_cut {k:Nat}{a:Int}{x y:Tq}(hx:pl (jA x)=true)(hy:pl (jA y)=true):pl (jA (.cut k a x y))=true:=by
 show pl (.tup [.str "cut",.int (k:Nat),.int a,jA x,jA y])=true;simp [pl,pls,hx,hy]
theorem IsDs.snocD {H:Hp}:∀ {ds:List Dt} {zs:List V} {d:Dt},IsDs H zs (ds++[d])→∃ zs' z,zs=zs'++[z]∧IsDs H zs' ds∧IsD H z d
 | [],_,_,.cons h .nil=>⟨[],_,rfl,.nil,h⟩
 | _::_,_,_,.cons h t=>by
  obtain ⟨zs',z,rfl,a,b⟩:=IsDs.snocD t;exact ⟨_::zs',z,rfl,.cons h a,b⟩
def GoodT (R:List (Int×Int)→Dt→Prop):Tq→List (Int×Int)→Nat→Prop
 | .leaf d,bs,_=>R bs d
 | .cut _ _ _ _,_,0=>False
 | .cut k a x y,bs,n+1=>k<bs.length∧(bs.getD k (0,0)).1≤a∧a<(bs.getD k (0,0)).2∧GoodT R x (kx bs k a) n∧GoodT R y (eU bs k a) n
def GoodC (R:List (Int×Int)→Dt→Prop)(l:List Nat)(c:Cse)(t:Tq):Prop:=∀ n,2 ^ n * fc c.1 l≤3 ^ n→GoodT R t c.1 n
theorem mq {f g:Nat→Nat}{k:Nat}:∀ (l:List Nat),l.Nodup→k∈l→(∀ j∈l,j≠k→f j=g j)→prdN (l.map g) * f k=prdN (l.map f) * g k
 | [],_,hk,_=>pj hk (by simp)
 | j::l,nd,hk,hh=>by
  rw [bB] at nd;show g j * _ * f k=f j * _ * g k
  by_cases c:j=k
  ·subst c
   have ne:∀ i∈l,i≠j:=fun i hi z=>nd.1 (z ▸ hi)
   rw [←lM (f:=f) (g:=g) l fun i hi=>hh i (ax _ hi) (ne i hi),iV (g j),iV (f j),gc,gc,iV (g j)]
  ·rw [hh j (by simp) c,gc,gc,mq l nd.2 ((aL.mp hk).resolve_left fun z=>c z.symm) fun i hi=>hh i (ax _ hi)]
theorem scale_le {F G f g:Nat}(e:G * f=F * g)(h:3 * g≤2 * f)(hf:0<f):3 * G≤2 * F:=by
 have h1:3 * G * f≤2 * F * f:=by
  rw [gc,e,iV F g,←gc,gc 2 F f,iV F f,←gc];exact Nat.mul_le_mul_right F h
 exact Nat.le_of_mul_le_mul_right h1 hf
theorem prodC_mid {sp:List Sn}{l:List Nat}{bs:List (Int×Int)}{k:Nat}{a:Int}(O:OB sp l bs)(nd:l.Nodup)(hl:∀ k∈l,k<sp.length)(hk:k∈l)(h:(bs.getD k (0,0)).1<(bs.getD k (0,0)).2)(ha:a=((bs.getD k (0,0)).1+(bs.getD k (0,0)).2) / 2) :
  3 * fc (kx bs k a) l≤2 * fc bs l∧3 * fc (eU bs k a) l≤2 * fc bs l:=by
 have hb:=O.len;have hkl:=hl k hk;have wk1:wdB (kx bs k a) k=(a - (bs.getD k (0,0)).1+1).toNat:=by unfold wdB kx;rw [hX (by omega),pf rfl]
 have wk2:wdB (eU bs k a) k=((bs.getD k (0,0)).2 - (a+1)+1).toNat:=by unfold wdB eU;rw [hX (by omega),pf rfl]
 have w0:wdB bs k=((bs.getD k (0,0)).2 - (bs.getD k (0,0)).1+1).toNat:=rfl
 constructor
 ·refine scale_le (mq (f:=wdB bs) (g:=wdB (kx bs k a)) (k:=k) l nd hk fun j hj hn=>?_) (by rw [wk1,w0];omega) (by rw [w0];omega)
  have hjl:=hl j hj;unfold wdB kx;rw [hX (by omega),pe (cp hn)]
 ·refine scale_le (mq (f:=wdB bs) (g:=wdB (eU bs k a)) (k:=k) l nd hk fun j hj hn=>?_) (by rw [wk2,w0];omega) (by rw [w0];omega)
  have hjl:=hl j hj;unfold wdB eU;rw [hX (by omega),pe (cp hn)]
section
variable {R:List (Int×Int)→Dt→Prop} {l:List Nat} {c c0:Cse} {k:Nat} {a:Int} {x y:Tq} {ms:List Mrk} {cr:List Cse} {d:Dt} {rs rs':List (Nat×List Stp)}
theorem GoodC.leaf (h:R c.1 d):GoodC R l c (.leaf d):=fun n _=>by
 cases n <;> exact h
theorem GoodC.cut (hk:k<c.1.length)(h1:(c.1.getD k (0,0)).1≤a)(h2:a<(c.1.getD k (0,0)).2)(p2:2≤fc c.1 l)(m1:3 * fc (kx c.1 k a) l≤2 * fc c.1 l)(m2:3 * fc (eU c.1 k a) l≤2 * fc c.1 l)
  (gx:GoodC R l (kx c.1 k a,rs) x) (gy:GoodC R l (eU c.1 k a,rs') y):GoodC R l c (.cut k a x y):=fun n hn=>by
 cases n with
 | zero=>simp at hn;omega
 | succ n =>
  have key:∀ p,3 * p≤2 * fc c.1 l→2 ^ n * p≤3 ^ n:=fun p hp=>by
   have h3:2 ^ n * (3 * p)≤2 ^ n * (2 * fc c.1 l):=Nat.mul_le_mul_left _ hp;rw [Nat.pow_succ,Nat.pow_succ,gc] at hn;rw [Nat.mul_left_comm] at h3;omega
  exact ⟨hk,h1,h2,gx n (key _ m1),gy n (key _ m2)⟩
def Wn (R:List (Int×Int)→Dt→Prop)(l:List Nat)(c0:Cse)(ms:List Mrk)(cr:List Cse):Prop:=∀ F:List Tq,jf (GoodC R l) cr F→∃ t,ms++F.flatMap pre=pre t∧GoodC R l c0 t
theorem Wn.start:Wn R l c0 [] [c0]:=fun F h=>by
 cases h with
 | cons g r=>cases r;exact ⟨_,by simp,g⟩
theorem Wn.leaf (h:Wn R l c0 ms (c::cr))(r:R c.1 d):Wn R l c0 (ms++[.leaf d]) cr:=fun F hF=>by
 obtain ⟨t,e,g⟩:=h (.leaf d::F) (.cons (GoodC.leaf r) hF);exact ⟨t,by rw [←e];simp [pre],g⟩
theorem Wn.cut (h:Wn R l c0 ms (c::cr))(hk:k<c.1.length)(h1:(c.1.getD k (0,0)).1≤a)(h2:a<(c.1.getD k (0,0)).2)(p2:2≤fc c.1 l)(m1:3 * fc (kx c.1 k a) l≤2 * fc c.1 l)(m2:3 * fc (eU c.1 k a) l≤2 * fc c.1 l):Wn R l c0 (ms++[.cut k a]) ((kx c.1 k a,rs)::(eU c.1 k a,rs')::cr):=fun F hF=>by
 cases hF with
 | cons gx r =>
  cases r with
  | cons gy r =>
   rename_i x y F;obtain ⟨t,e,g⟩:=h (.cut k a x y::F) (.cons (GoodC.cut hk h1 h2 p2 m1 m2 gx gy) r);exact ⟨t,by rw [←e];simp [pre],g⟩
theorem Wn.fin (h:Wn R l c0 ms []):∃ t,ms=pre t∧GoodC R l c0 t:=by
 obtain ⟨t,e,g⟩:=h [] .nil;exact ⟨t,by rw [←e];simp,g⟩
end
inductive spTreeF (vs:List V)(H:Hp)(Q:VK)(_:XK):Prop
 | mk (L:ao)(ys:List V)(ms:List Mrk)(t:Tq)(_:vs=[.ref L])(_:H L=some (.lst ys))(_:IsDs H ys (ms.map mrkD))(_:ms=pre t)(_:(∀ d,Mrk.leaf d∈ms→ly d))(_:ms.length≤10000)(_:∀ u H',Same H H'→IsD H' u (jA t)→Q u H')
end HN
namespace L2
open PySem PySem.W PySem.Spec PyProof.Rows
theorem law_callTs {P:aW}{w:bz}{K:ak}{mg mb:Str→Option ae}{CX:CXT}{k:Nat}{fa a:ao}{Ts:List ao}{fd:bu}{x:Str}{sp:Sp}{s₁:ar}{vs:List ae}{ns:List Int}
  (KX:K.In s₁.heap) (hns:s₁.heap.Ns bK mg) (hb:s₁.heap.Ns builtinsNs mb) (hbb:∀ x:Str,x ≠ "__name__" →mb x=bootBuiltins x) (hlim:s₁.heap.NoLimit) (hg:s₁.gens= #[])
  (hbm:BM mg s₁.heap) (hT:∀ T∈Ts,s₁.heap.get? T=some (tabObj #[])) (C:∀ T∈Ts,∃ c,codeHdIn K c T=true) (nt:noTabs K=true)
  (ha:s₁.heap.get? a=some { cls:= .type "list",data:= .seq vs.toArray }) (hi:IntsAre vs ns) (hl:ns.length≤bc) (hr:Room k callerA)
  (F:∀ base:bE,K.In base→base.Ns bK mg→BM mg base→dN P w K mg base CX k fa fd [x] sp) (hbind:∀ (s:ar) (u:ae),BindsTo s fd ⟨[u],[]⟩ [(x,u)])
  (hsp:∀ H:Hp,(∀ T∈Ts,H T=some (.tbl #[]))→SqL K H a (ns.map V.int)→sp [.ref a] H (fun v _=>v= .bl true) fun _ _ _=>False)
  (hCX:∀ H e s',CX [] H s₁ (fun _ _ _=>False) e s'→False) :
  codeAny (br P w) callerA (.call (.ref fa) ⟨[.ref a],[]⟩) (fun r s'=>r= .ok (.ret (.bool true))∧OldK s₁.heap s'.heap∧s'.os=s₁.os∧AllBare s'.gens) s₁:=by
 have rv:=ng hi;have lenV:=hi.length;have hTK:∀ T∈Ts,K.lookup T=none:=fun T mT=>by
  cases q:K.lookup T with
  | none=>rfl
  | some o =>
   have e:=KX T o q;rw [hT T mT] at e;cases e;have z:=List.all_eq_true.mp nt (T,tabObj #[]) (mem_of_lookupK q);cases z
 have aT:a ∉ Ts:=fun z=>by rw [hT a z] at ha;cases ha
 have isT:∀ T∈Ts,isCodeTable s₁.heap T:=fun T mT=>by obtain ⟨c,C⟩:=C T mT;exact ((codeHd_of_K KX C).tab (hT T mT)).isCodeTable
 have core:∀ H:Hp,SqL K H a (ns.map V.int)→HOk P w H s₁.heap→(∀ T∈Ts,H T=some (.tbl #[]))→(∀ b,H b≠none→b ∉ Ts→b=a∧∃ o xs,H b=some (.frz o (.lst xs)))→(H a≠none→K.lookup a=none) →
   codeAny (br P w) callerA (.call (.ref fa) ⟨[.ref a],[]⟩) (fun r s'=>r= .ok (.ret (.bool true))∧OldK s₁.heap s'.heap∧s'.os=s₁.os∧AllBare s'.gens) s₁:=by
  intro H hS hok hHT hA hK;have base_of:∀ {b:ao} {o:Obj},s₁.heap.get? b=some o→H b=none→(hidT s₁.heap H).get? b=some o:=fun e n=>hidT_get e n
  have no2:∀ {b:ao} {o:Obj},s₁.heap.get? b=some o→o≠tabObj #[]→o≠{ cls:= .type "list",data:= .seq vs.toArray }→H b=none:=fun {b o} e d1 d2=>by
   cases q:H b with
   | none=>rfl
   | some u =>
    by_cases hbT:b∈Ts
    ·rw [hT b hbT] at e;cases e;exact pj rfl d1
    ·have e':b=a:=(hA b (by rw [q];simp) hbT).1
     subst e';rw [ha] at e;cases e;exact pj rfl d2
  have nsK:∀ {b:ao} {m:Str→Option ae},s₁.heap.Ns b m→(hidT s₁.heap H).Ns b m:=fun {b m} ⟨o,es,ep,e,d,r⟩=>⟨o,es,ep,base_of e (no2 e (fun z=>by subst z;cases d) (fun z=>by subst z;cases d)),d,r⟩
  have hKb:K.In (hidT s₁.heap H):=fun b o e=>base_of (KX b o e) (by
   cases q:H b with
   | none=>rfl
   | some u =>
    by_cases hbT:b∈Ts
    ·rw [hTK b hbT] at e;cases e
    ·have e':b=a:=(hA b (by rw [q];simp) hbT).1
     subst e';rw [hK (by rw [q];simp)] at e;cases e)
  have hM:Mod K mg (hidT s₁.heap H):=⟨hKb,nsK hns,⟨mb,nsK hb,hbb⟩,let ⟨mc,h1,h2⟩:=hlim;⟨mc,nsK h1,h2⟩⟩;have hBM:BM mg (hidT s₁.heap H):=by
   obtain ⟨bm,ob,b1,b2,b3,b4,b5,b6,b7⟩:=hbm;exact ⟨bm,ob,b1,b2,b3,base_of b4 (no2 b4 (fun z=>by subst z;cases b5) (fun z=>by subst z;cases b7)),b5,b6,b7⟩
  have e0:Env0 P w K mg (hidT s₁.heap H) callerA [] s₁ H:=⟨rfl,hM,fun b o e=>of_hidT e,Nat.le_of_eq (hidT_size _ _),trivial,fun b hb=>pj (show b∈([]:List ao) from hb) (by simp),hok,.of_eq hg⟩;refine codeAny_mono ((F _ hKb (nsK hns) hBM).run callerA [] s₁ H ⟨[.ref a],[]⟩ [.ref a] [.ref a] _ _ hr e0 (hbind s₁ (.ref a)) (.cons rfl .nil) (hsp H hHT hS)) fun r s' h=>?_
  cases r with
  | error e=>exact (hCX H e s' h).elim
  | ok fl =>
   cases fl with
   | next=>exact cQ h
   | brk=>exact cQ h
   | cont=>exact cQ h
   | ret u =>
    obtain ⟨v,H',os,bare,un,hok',r',q⟩:=h;have q':v= .bl true:=q;subst q';obtain rfl:u=ae.bool true:=r';have tT:∀ T∈Ts,∃ more,s'.heap.get? T=some (tabObj (#[]++more)):=fun T mT=>by
     obtain ⟨more,eT⟩:=un.tbls T _ (hHT T mT);exact ⟨more,hok' T _ eT⟩
    have stay:∀ b o,s₁.heap.get? b=some o→b ∉ Ts→s'.heap.get? b=some o:=fun b o e hbT=>by
     cases q:H b with
     | none=>exact un.keep b o e q (by intro z;exact pj (show b∈([]:List ao) from z) (by simp)) (by simp)
     | some u =>
      obtain ⟨_,ob,xs,z⟩:=hA b (by rw [q];simp) hbT;have z2:=un.frzs b ob _ z;obtain ⟨e1,_⟩:=hok b _ z;obtain ⟨e2,_⟩:=hok' b _ z2;rw [e] at e1;cases e1;exact e2
    refine ⟨rfl,⟨fun b o e=>?_,fun b o e=>?_⟩,os,bare⟩
    ·by_cases hbT:b∈Ts
     ·rw [hT b hbT] at e;cases e
      obtain ⟨more,tb⟩:=tT b hbT;exact .inr (.inl ⟨isT b hbT,rfl,#[],more,rfl,tb⟩)
     ·exact .inl (stay b o e hbT)
    ·by_cases hbT:b∈Ts
     ·obtain ⟨more,tb⟩:=tT b hbT;exact ⟨_,tb⟩
     ·exact ⟨o,stay b o e hbT⟩
 cases hk:K.lookup a with
 | some o =>
  have e:=KX a o hk;rw [ha] at e;cases e;refine core (fun b=>if b∈Ts then some (.tbl #[]) else none) (.inr ⟨_,vs.toArray,_,hk,rfl,rfl,rfl,by rw [aB,lenV];exact hl,by simpa using rv⟩) (fun b u z=>?_) (fun T mT=>pf mT) (fun b z hb=>pj (pe hb) z) fun z=>pj (pe aT) z
  by_cases hb:b∈Ts
  ·have z':=(pf hb).symm.trans z
   cases z';exact hT b hb
  ·have z':=(pe hb).symm.trans z
   cases z'
 | none =>
  refine core (fun b=>if b∈Ts then some (.tbl #[]) else if b=a then some (.frz { cls:= .type "list",data:= .seq vs.toArray } (.lst (ns.map V.int))) else none) (.inl (.inr ⟨{ cls:= .type "list",data:= .seq vs.toArray },(pe aT).trans (pf rfl)⟩)) (fun b u z=>?_) (fun T mT=>pf mT) (fun b z hb=>?_) fun _=>hk
  ·by_cases hb:b∈Ts
   ·have z':=(pf hb).symm.trans z
    cases z';exact hT b hb
   ·have z:=(pe hb).symm.trans z
    by_cases hb:b=a
    ·have z':=(pf hb).symm.trans z
     cases z';subst hb;exact ⟨ha,by rw [aa];exact hl,vs,_,rv,ha⟩
    ·have z':=(pe hb).symm.trans z
     cases z'
  ·by_cases hba:b=a
   ·exact ⟨hba,_,_,(pe hb).trans (pf hba)⟩
   ·exact pj ((pe hb).trans (pe hba)) z
theorem walk_ofTs {l:PySem.W.OpenLaw}{n k:Nat}{q:aW}{loose:List Str}{XP:(Str→Option ae)→bE→Prop}{YP:bz→bE→Prop}{d:DefRec}{K:Params→ak}{CX:bz→CXT}{sp:bz→Sp}{x:Str}{Ts:List ao}
  (hn:l.most=some n) (hn2:n≤bc) (hdf:d.params.defaults=[]) (hr:Room k callerA)
  (hY:∀ (w:bz) (h:bE),YP w h→(K w.params).In h∧∀ T∈Ts,h.get? T=some (tabObj #[])) (C:∀ w:bz,∀ T∈Ts,∃ c,codeHdIn (K w.params) c T=true) (nt:∀ w:bz,noTabs (K w.params)=true)
  (F:∀ (w:bz) (mg:Str→Option ae) (fa:ao) (h:bE),(K w.params).In h→h.Ns bK mg→mg d.name=some (.ref fa) →
   ∃ fd:bu,(∀ (s:ar) (u:ae),BindsTo s fd ⟨[u],[]⟩ [(x,u)]) ∧
    ∀ base:bE,(K w.params).In base→base.Ns bK mg→BM mg base→dN l.prog w (K w.params) mg base (CX w) k fa fd [x] (sp w))
  (hsp:∀ (w:bz) (H:Hp) (a:ao) (ns:List Int),ns.length≤n→(∀ T∈Ts,H T=some (.tbl #[]))→SqL (K w.params) H a (ns.map V.int)→sp w [.ref a] H (fun v _=>v= .bl true) fun _ _ _=>False)
  (hCX:∀ (w:bz) (H:Hp) (s:ar) (e:ae) (s':ar),CX w [] H s (fun _ _ _=>False) e s'→False) :
  PySem.W.WalkO q loose XP YP l.row.toRowW d [] (fun f vs=>PySem.call f vs):=by
 refine Att.attach_call hn hdf fun w s₀ s₁ mg mb fa o pm cd doc a vs ns G Y ho hd hcd hmg hobj hints hlen hg=>?_
 obtain ⟨KX,hT⟩:=hY w _ Y;obtain ⟨fd,hb,hF⟩:=F w mg fa _ KX G.T.g hmg;have hbm:BM mg s₁.heap:=by
  obtain ⟨bm,ob,b1,b2,b3,b4,b5,b6⟩:=G.T.bmain;refine ⟨bm,ob,b1,b2,fun q=>?_,b3,b4,b5,b6⟩;obtain ⟨o,es,ep,e,hd,_⟩:=G.T.g;rw [q,e] at b3;cases b3;rw [hd] at b6;cases b6
 exact law_callTs KX G.T.g G.T.b G.T.builtins G.T.nolimit hg hbm hT (C w) (nt w) hobj hints (bj hlen hn2) hr hF hb (fun H hO hS=>hsp w H a ns hlen hO hS) fun H e s'=>hCX w H s₁ e s'
section
variable {prog:aW} {w:bz} {A:bU} {E:ae→ar→Prop} {s:ar}
theorem sorted_keyT {r q:ao}{ws:List ae}{Q:ae→ar→Prop}(hl0:IsTup s.heap r ws.toArray)(h64:ws.length<64)
  (h:∀ (g h1:bE) (D kS:ao) (e1:Nat),(∀ b o,s.heap.get? b=some o→g.get? b=some o)→(∀ b o,g.get? b=some o→h1.get? b=some o)→g.objs.size≤D→D<kS→h1.get? D=some (bJ "list" #[] e1)→h1.get? kS=some (bJ "list" #[] 0) →
   KeyDo prog w A.in1.in1 (.ref q) ws kS D e1 (fun t'=>Q (.ref D) t') { s with heap:=h1 }) :
  aX (br prog w) A (call (.builtin "sorted") [.ref r] [(eD "key",.ref q)]) Q E s:=by
 obtain ⟨ob,ho,hc,n,hd⟩:=hl0;refine call_function_entry_kw kind_sorted plain_sorted entry_sorted (ksk_s1 _ _) ?_;unfold fM.«sorted»;refine ah (m:=checkCount "sorted" 1 1 _) (aJ ?_);refine ah (wpAny_collect_seq r (.inr rfl) ho hc hd (fun h' hk=>?_) (by rw [aB,fN];omega));rw [show ws.toArray.toList=ws by simp];refine ah (wpAny_newList ?_ (by rw [fN];omega));have hoL:(h'.push (bJ "list" ws.toArray 0)).get? h'.objs.size=some (bJ "list" ws.toArray 0):=bg _ rfl;show aX _ _ _ _ _ { s with heap:=h'.push (bJ "list" ws.toArray 0) };refine ah (fj (wpAny_call_entry_kw slot_list_sort ⟨_,hoL,rfl⟩ entry_list_sort ?body (ksk_l1 _ _)))
 case body =>
  show aX (br prog w) A.in1.in1 (fM.«list.sort» ⟨[.ref h'.objs.size],[(eD "key",.ref q)]⟩) _ _ _;rw [ksk_t1];refine key_tree (s:={ s with heap:=h'.push (bJ "list" ws.toArray 0) }) hoL (by omega) fun e1 g1 g2=>?_
  have K:=h h' (jK (h'.push (bJ "list" ws.toArray 0)) h'.objs.size ws) h'.objs.size ((h'.push (bJ "list" ws.toArray 0)).objs.size+1) e1 hk ?_ (aC _) (by rw [size_push'];exact gX (jg _)) g1 g2
  ·obtain ⟨J,j0,jc,je⟩:=K
   refine ⟨J,j0,jc,fun ks t' x1 x2=>?_⟩;obtain ⟨y1,κ,lt,y2,y3,y4,y5⟩:=je ks t' x1 x2;exact ⟨y1,κ,lt,y2,y3,y4,fun p p1 p2=>⟨_,rfl,aJ ⟨_,rfl,y5 p p1 p2⟩⟩⟩
  ·exact fun b o e=>mid_keep (bM (aN e)) (au _ e)
end
theorem its_at:∀ {ns:List Int} {its:List ae} {i:Nat} {x:ae},Vals (ns.map V.int) its→its[i]? =some x→∃ t,x= .int (ns.getD i 0) t
 | [],_,_,_,.nil,e=>by simp at e
 | n::ns,_,0,_,.cons r _,e=>by
  cases e;exact r
 | n::ns,_,i+1,_,.cons _ rs,e=>its_at (ns:=ns) (i:=i) rs e
def SortTQ (P:ao)(lp:Pos)(lq:Str)(js:List Nat)(te:TE)(σ:St)(Q:VK)(v:V)(H1:Hp):Prop:=∃ (r:ao) (ns:List Int) (key:Nat→Int×Int),v= .ref r∧H1 r=some (.tup (ns.map V.int))∧ns.length<64∧LamT P lp lq H1∧((aP ns.length).map key).Nodup ∧
 (∀ i:Nat,i<ns.length→∀ H2,Tb P H1 H2→te (some (.int (ns.getD i 0))::dQ σ js) H2 fun u H3=>Same H2 H3∧∃ a,u= .ref a∧H3 a=some (.tup [.int (key i).1,.int (key i).2])) ∧
 ∀ (D:ao) (H4:Hp) (π:List Nat),Tb P H1 H4→LamT P lp lq H4→H4 D=none→π.Perm (aP ns.length)→π.Pairwise (fun i j=>ltP (key i) (key j)=true)→Q (.ref D) (upd H4 D (.lst (π.map fun (i:Nat)=>V.int (ns.getD i 0))))
def tSortT (P:ao)(lp:Pos)(lq:Str)(tr:TE)(js:List Nat)(te:TE):TE:=fun σ H Q=>tr σ H fun v H1=>SortTQ P lp lq js te σ Q v H1
def SortT1 (P:ao)(lp:Pos)(lq:Str)(js:List Nat)(te:TE)(σ:St)(Q:VK):List V→Hp→Prop
 | [v],H1=>SortTQ P lp lq js te σ Q v H1
 | _,_=>False
theorem pe_sortT {X:Cx}{re:Expr}{tr te:TE}{params:gH}{body:Expr}{scope:fV}{lp p kp pos:Pos}{c P:ao}{x:Str}{fr:List Str}{js:List Nat}(hc:X.calm=true)(hrm:X.A.depth<recursionLimit)(hg:Gl X "sorted")(hm:X.mg "sorted" =none)(hi:PE X re tr)
  (hd:defaultsOf params X.env=([],[])) (hcode:X.env.code= .ref c) (C:codeHdIn X.K c P=true) (B:BM X.mg X.base)
  (hbind:∀ q cl pm cdv ct (u:ae),bindArgs (kla_fn "<lambda>" q params body scope cl pm cdv ct) ⟨[u],[]⟩=fQ [(x,u)])
  (hk:scope.kind= .function) (hco:scope.isCoroutine=false) (hgen:scope.isGenerator=false) (iM:∀ y∈scope.names,y.2≠ .cell) (hx:scope.names.lookup x=some .local) (hfx:x ∉ fr)
  (hfr:∀ y∈scope.names,y.2= .free→X.env.scope.names.lookup y.1=some .cell) (hjs:js.map (fun j=>X.N[j]?)=fr.map some) (hfv:∀ y∈fr,scope.names.lookup y=some .free)
  (hb:∀ cl L f cd s' H',PE (cxLam X (X.env.qual ++ "<lambda>") scope cl L f cd (x::fr) s' H') body te)
  (he:gF pos (bC [re] X.env)=(false,eZ re X.env)::gF pos (bC [] X.env):=by rfl)
  (hs:bC [re] X.env=(false,eZ re X.env)::bC [] X.env:=by rfl) (hpl:(gF pos (bC [re] X.env)).any (·.1)=false:=by rfl) :
  PE X (.Call (.Name "sorted" p) [re] [⟨some "key",.Lambda params body scope lp,kp⟩] pos) (tSortT P lp (X.env.qual ++ "<lambda>") tr js te):=by
 intro aQ s σ H Q I h;refine fg (lV I hg hm (u:= .builtin "sorted") (by trivial) ?_);refine callWith_kw (kws:=[⟨some "key",.Lambda params body scope lp,kp⟩]) (thn ((ag hi az hs) pos aQ s σ H (SortT1 P lp (X.env.qual ++ "<lambda>") js te σ Q) I h) fun us s1 ⟨vs,H1,I1,r1,q0⟩=>?_) he hpl;refine kws_cons ?_;obtain ⟨v,rfl⟩:∃ v,vs=[v]:=by
  cases vs with
  | nil=>exact q0.elim
  | cons v r=>cases r with
   | nil=>exact ⟨v,rfl⟩
   | cons _ _=>exact q0.elim
 have q1:SortTQ P lp (X.env.qual ++ "<lambda>") js te σ Q v H1:=q0;obtain ⟨r,ns,key,rfl,hr,h64,T,hnd,hkey,hQ⟩:=q1;obtain rfl:us=[.ref r]:=by
  cases r1 with
  | cons ru rs =>
   cases rs;exact pG (fun z=>[z]) ru
 refine lam_make (body:=body) I1 hd hcode C B hfr T fun f cl H2 s2 I2 tb T2 F2 c1 c2=>?_
 refine kws_nil ?_;show aX _ _ (call (.builtin "sorted") [.ref r] [(eD "key",.ref f)]) _ _ _;have rP:r≠P:=fun z=>by
  rcases T with T | ⟨_,T,_⟩ <;> rw [←z,hr] at T <;> cases T
 obtain ⟨its,rv,ht,_⟩:=I2.tuple (SqT.of (K:=X.K) (tb r _ rP hr));have lits:its.length=ns.length:=by rw [←rv.length,aa]
 refine sorted_keyT ht (by omega) fun g h1 D kS e1 hg hkeep hD hDk gD gK=>?_
 have I2:Inv X aQ σ H2 { s2 with heap:=g }:=I2.kept (t':=s2.toks) hg;have I3:Inv X aQ σ H2 { s2 with heap:=h1 }:=I2.kept (t':=s2.toks) hkeep;have old:∀ b o,g.get? b=some o→b≠D∧b≠kS:=fun b o e=>⟨bM (aU (aN e) hD),bM (Nat.lt_trans (aU (aN e) hD) hDk)⟩
 have hDs:=aN gD;have hKs:=aN gK;have frD:H2 D=none:=I2.hok.fresh hD;have frK:H2 kS=none:=I2.hok.fresh (ik (cf hD hDk));have cc:∀ y d,X.env.cells.lookup y=some d→d≠D∧d≠kS:=fun y d e=>by obtain ⟨v,o,ho,_⟩:=I2.cell y d e;exact old d o ho
 have pp:∀ z∈X.pn++aQ,z.1≠D∧z.1≠kS:=fun z hz=>old _ _ (I2.pin z hz).1
 have nl:g.objs.size≤kS:=ik (cf hD hDk);have I4:Inv X ((kS,bJ "list" #[] 0)::(D,bJ "list" #[] e1)::aQ) σ H2 { s2 with heap:=h1 }:=I3.pins_of fun z hz=>by
  rcases aL.mp hz with rfl | hz
  ·exact ⟨gK,frK,eE (aU I2.lt nl),I2.nofs nl,fun v z=>by cases z⟩
  ·rcases aL.mp hz with rfl | hz
   ·exact ⟨gD,frD,eE (aU I2.lt hD),I2.nofs hD,fun v z=>by cases z⟩
   ·exact I3.pin z (aG _ hz)
 refine keyDo_of (num:=fun i=>ns.getD i 0) (key:=key) I4 lits h64 (fun i x e=>its_at rv e) (bj I2.sz nl) (bj I2.sz hD) (fun y d e=>(cc y d e).2) (fun y d e=>(cc y d e).1) (fun z hz=>(pp z hz).2) (fun z hz=>(pp z hz).1) (eE hDk) hnd ?_ ?_
 ·intro t H' pins' i tk hi' I' S'
  refine cy (lam_call (v:= .int (ns.getD i 0)) I' hc hrm (F2.same S') ⟨_,rfl⟩ (fun pm cdv ct=>hbind _ _ _ _ _ _) hk hco hgen iM hx hfx c1 c2 hfr hjs hfv (fun L cd s' H'=>hb cl L f cd s' H') (hkey i hi' H' (tb.trans S'.tb))) (fun k t' ⟨v,H'',I'',rv,S'',a,ev,ea⟩=>?_) fun _ _ z=>z
  subst ev;obtain rfl:k= .ref a:=rv;exact ⟨a,H'',I'',S'',rfl,ea⟩
 ·intro t H' π S' hD' I' pm pw
  exact ⟨.ref D,_,I',rfl,hQ D H' π (tb.trans S'.tb) (T2.same S') hD' pm pw⟩
def ptF (H:Hp)(fz:ao→Option Obj):Hp:=fun b=>match fz b with | some o=>some (.frz o (.own 0)) | none=>H b
def ctF (H:Hp)(fz:ao→Option Obj):Hp:=fun b=>match fz b with | some _=>none | none=>H b
def Fz (fz:ao→Option Obj)(H:Hp):Prop:=∀ b o,fz b=some o→H b=some (.frz o (.own 0))
section
variable {P:aW} {w:bz} {H H':Hp} {h h':bE} {fz:ao→Option Obj} {b:ao} {o:Obj} {fs:List ao}
theorem oS (e:fz b=some o):ptF H fz b=some (.frz o (.own 0)):=by unfold ptF;rw [e]
theorem gJ (e:fz b=none):ptF H fz b=H b:=by unfold ptF;rw [e]
theorem oZ (e:fz b=some o):ctF H fz b=none:=by unfold ctF;rw [e]
theorem g6 (e:fz b=none):ctF H fz b=H b:=by unfold ctF;rw [e]
theorem Fz.out (F:Fz fz H){u:HO}(e:H b=some u)(n:∀ o,u≠ .frz o (.own 0)):fz b=none:=by
 cases q:fz b with
 | none=>rfl
 | some o=>rw [F b o q] at e;cases e;exact pj rfl (n o)
theorem Fz.cut (F:Fz fz H){u:HO}(e:H b=some u)(n:∀ o,u≠ .frz o (.own 0)):ctF H fz b=some u:=by rw [g6 (F.out e n)];exact e
theorem HOk.cut (hok:HOk P w H h)(F:Fz fz H):HOk P w (ctF H fz) h:=fun a o e=>by
 cases q:fz a with
 | some o'=>rw [oZ q] at e;cases e
 | none =>
  rw [g6 q] at e;exact (hok a o e).stay (fun _ _ _ e=>e) (fun b e'=>F.cut e' (fun _ z=>by cases z)) fun b xs e'=>F.cut e' (fun _ z=>by cases z)
theorem HOk.ptF (hok:HOk P w H h)(N:∀ b o,fz b=some o→H b=none)(G:∀ b o,fz b=some o→h.get? b=some o):HOk P w (ptF H fz) h:=fun a o e=>by
 cases q:fz a with
 | some o' =>
  rw [oS q] at e;cases e;exact ⟨G a o' q,_,G a o' q⟩
 | none =>
  rw [gJ q] at e;have out:∀ b u,H b=some u→fz b=none:=fun b u e'=>by
   cases q':fz b with
   | none=>rfl
   | some o'=>rw [N b o' q'] at e';cases e'
  exact (hok a o e).stay (fun _ _ _ e=>e) (fun b e'=>by rw [gJ (out b _ e')];exact e') fun b xs e'=>by rw [gJ (out b _ e')];exact e'
theorem Un.thaw (u:Un fs [] (ptF H fz) H' h h')(N:∀ b o,fz b=some o→H b=none)(hok:HOk P w H' h')(G:∀ b o,fz b=some o→h.get? b=some o):Un fs [] H (ctF H' fz) h h':=by
 have F:Fz fz H':=fun b o e=>u.frzs b o _ (oS e)
 have out:∀ b u,H b=some u→fz b=none:=fun b u e'=>by
  cases q':fz b with
  | none=>rfl
  | some o'=>rw [N b o' q'] at e';cases e'
 have same:∀ b o ob,fz b=some o→h.get? b=some ob→h'.get? b=some ob:=fun b o ob q e=>by
  have e1:=G b o q;rw [e] at e1;cases e1;exact (hok b _ (F b _ q)).1
 refine ⟨fun b o e n hf hx=>?_,fun b o e n hf hx=>?_,fun b o e n hx=>?_,u.there,fun b xs e=>?_,fun b o x e=>?_,fun b ps e=>?_⟩
 ·cases q:fz b with
  | some o'=>exact same b o' o q e
  | none=>exact u.keep b o e (by rw [gJ q];exact n) hf hx
 ·cases q:fz b with
  | some o'=>exact ⟨o.slots,same b o' o q e⟩
  | none=>exact u.slot b o e (by rw [gJ q];exact n) hf hx
 ·cases q:fz b with
  | some o'=>exact oZ q
  | none=>rw [g6 q];exact u.free b o e (by rw [gJ q];exact n) hx
 ·have q:=out b _ e
  rw [g6 q];exact u.tups b xs (by rw [gJ q];exact e)
 ·have q:=out b _ e
  rw [g6 q];exact u.frzs b o x (by rw [gJ q];exact e)
 ·have q:=out b _ e
  rw [g6 q];exact u.tbls b ps (by rw [gJ q];exact e)
theorem Un.froze (u:Un fs [] (ctF H fz) H' h h')(F:Fz fz H):Un fs [] H (ptF H' fz) h h':=by
 have out:∀ b,H b=none→fz b=none:=fun b n=>by
  cases q:fz b with
  | none=>rfl
  | some o=>rw [F b o q] at n;cases n
 refine ⟨fun b o e n hf hx=>u.keep b o e (by rw [g6 (out b n)];exact n) hf hx,fun b o e n hf hx=>u.slot b o e (by rw [g6 (out b n)];exact n) hf hx,fun b o e n hx=>?_,u.there,fun b xs e=>?_,fun b o x e=>?_,fun b ps e=>?_⟩
 ·rw [gJ (out b n)];exact u.free b o e (by rw [g6 (out b n)];exact n) hx
 ·have q:=F.out e (fun _ z=>by cases z)
  rw [gJ q];exact u.tups b xs (by rw [g6 q];exact e)
 ·cases q:fz b with
  | some o'=>rw [F b o' q] at e;cases e;exact oS q
  | none=>rw [gJ q];exact u.frzs b o x (by rw [g6 q];exact e)
 ·have q:=F.out e (fun _ z=>by cases z)
  rw [gJ q];exact u.tbls b ps (by rw [g6 q];exact e)
end
structure Clo (cl:List (Str×ao))(fz:ao→Option Obj)(fr:List Str)(ws:List V):Prop where
 all:∀ x c,cl.lookup x=some c→∃ o,fz c=some o
 cell:∀ c o,fz c=some o→∃ v,o.data= .cell v
 inj:∀ a b c,cl.lookup a=some c→cl.lookup b=some c→a=b
 val:∀ (i:Nat) y v,fr[i]? =some y→ws[i]? =some v→∃ c o u,cl.lookup y=some c∧fz c=some o∧o.data= .cell (some u)∧RelV v u
 len:ws.length=fr.length
structure LmOk (P:aW)(w:bz)(K:ak)(mg:Str→Option ae)(base:bE)(k:Nat)(f:ao)(Hf:Hp→Prop)(sp:Sp):Prop where
 isFn:∀ H h,Hf H→HOk P w H h→FnAt f h
 run:∀ (A:bU) (outer:List Env) (s:ar) (H:Hp) (u:ae) (v:V) (Q:VK),Room k A→Env0 P w K mg base A outer s H→Hf H→RelV v u→sp [v] H Q E0→codeAny (br P w) A (.call (.ref f) ⟨[u],[]⟩) (CR CX0 outer P w H s Q E0) s
def cxLm (P:aW)(w:bz)(K:ak)(mg:Str→Option ae)(base:bE)(q:Str)(scope:fV)(cl:List (Str×ao))(L f:ao)(cd:ae)(N:List Str)(A:bU)(outer:List Env)(s:ar)(H:Hp):Cx :=
 { prog:=P,w:=w,K:=K,mg:=mg,base:=base,A:=A.deeper (envX q scope L f cd cl),N:=N,s₀:=s,H₀:=H,env:=envX q scope L f cd cl,outer:=outer,stack:=envX q scope L f cd cl::outer,ex:=[],calm:=true,fn:=fun _=>false,pn:=[],xe:=fun _ _=>False }
theorem lam_run {P:aW}{w:bz}{K:ak}{mg:Str→Option ae}{base:bE}{k:Nat}{q:Str}{params:gH}{body:Expr}{scope:fV}{cl:List (Str×ao)}{fz:ao→Option Obj}{f:ao}{x:Str}{fr:List Str}{ws:List V}{te:TE}{sp:Sp}
  (hbind:∀ u pm cdv ct,bindArgs (kla_fn "<lambda>" q params body scope cl pm cdv ct) ⟨[u],[]⟩=fQ [(x,u)])
  (hk:scope.kind= .function) (hco:scope.isCoroutine=false) (hgen:scope.isGenerator=false) (iM:∀ y∈scope.names,y.2≠ .cell) (hx:scope.names.lookup x=some .local) (hfx:x ∉ fr)
  (C:Clo cl fz fr ws) (hcl:∀ y∈scope.names,y.2= .free→∃ c,cl.lookup y.1=some c) (hfv:∀ y∈fr,scope.names.lookup y=some .free)
  (hb:∀ L cd A outer s' H',Room k (A.deeper (envX q scope L f cd cl))→PE (cxLm P w K mg base q scope cl L f cd (x::fr) A outer s' H') body te)
  (ht:∀ v H Q,LamF q params body scope cl f H→Fz fz H→sp [v] H Q E0→te (some v::ws.map some) (ctF H fz) (fun y H'=>(∀ b o,fz b=some o→H' b=none)→Q y (ptF H' fz))) :
  LmOk P w K mg base (k+1) f (fun H=>LamF q params body scope cl f H∧Fz fz H) sp:=by
 refine ⟨fun H h ⟨⟨pm,cd,ct,e,_⟩,_⟩ hok=>⟨_,_,_,_,(hok f _ e).1⟩,fun A outer s H u v Q hr e0 ⟨F,Z⟩ ru hsp=>?_⟩;have ht:=ht v H Q F Z hsp;obtain ⟨pm,cd,ct,e,oc,vs,t,ec,hdc,hvc⟩:=F;have ho:s.heap.get? f=some (kla_obj "<lambda>" q params body scope cl pm cd ct):=(e0.hok f _ e).1;have hoc:s.heap.get? cd=some oc:=(e0.hok cd _ ec).1;refine kla_callFunE (by have:=hr.dp;omega) ho rfl hco hgen rfl ⟨cd,oc,vs,t,rfl,hoc,hdc,hvc⟩ ?_;rw [hbind];refine aJ (wpAny_newFunctionEnv iM (fun y hy=>?_) (fun h₁ hns hsb=>⟨?nl,?_⟩) hk)
 ·rw [aw.mp hy];exact hx
 case nl=>exact (e0.mod.nolimit.keeps (fun b o e=>(e0.bs b o e).1)).fresh _ hsb
 show codeAny _ _ (.expr body (envX q scope s.heap.objs.size f (.ref cd) cl)) _ _;have old:∀ b o,s.heap.get? b=some o→h₁.get? b=some o:=fun b o e=>hsb.extBut b o (bM (aN e)) (au _ e)
 refine kla_codeExpr ?_;have hokc:=HOk.cut e0.hok Z;have cutN:∀ b,H b=none→ctF H fz b=none:=fun b n=>by
  cases z:fz b with
  | some o=>exact oZ z
  | none=>rw [g6 z];exact n
 have ok':(cxLm P w K mg base q scope cl s.heap.objs.size f (.ref cd) (x::fr) A outer s (ctF H fz)).Ok:=by
  refine ⟨e0.mod,hk,rfl,rfl,aC _,C.inj,fun y hy=>?_,fun _ _ z=>pj z (by intro q;cases q),fun _=>hr.hd,bU.frames_deeper e0.frames,.inr ⟨rfl,rfl⟩,fun b hb=>pj (show b∈([]:List ao) from hb) (by simp),fun b o e=>⟨(e0.bs b o e).1,cutN b (e0.bs b o e).2⟩,e0.bsz,fun b o e hb=>pj (show b∈([]:List ao) from hb) (by simp),fun b hb=>pj (show b∈([]:List ao) from hb) (by simp),e0.funs,fun b hb=>cutN b (e0.frf b hb)⟩;have hy:scope.names.lookup y=some .cell∨scope.names.lookup y=some .free:=hy
  rcases hy with hy | hy
  ·exact pj rfl (iM _ (cj hy))
  ·exact hcl _ (cj hy) rfl
 have cellAt:∀ c o,fz c=some o→h₁.get? c=some o:=fun c o z=>old _ _ (e0.hok c _ (Z c o z)).1
 have I1:Inv (cxLm P w K mg base q scope cl s.heap.objs.size f (.ref cd) (x::fr) A outer s (ctF H fz)) [] (some v::ws.map some) (ctF H fz) { s with heap:=h₁,toks:=s.toks+1 }:=by
  refine ⟨ok',rfl,e0.bare,Un.kept old,⟨_,hns,fun i y v' e1 e2 e3=>?_⟩,fun y c e=>?_,hokc.fresh (aC _),fun y c e=>?_,fun p hp=>pj (show p∈([]:List (ao×Obj)) from hp) (by simp),hokc.kept old,?_⟩
  ·cases i with
   | zero =>
    have e1:some x=some y:=e1;have e2:some (some v)=some (some v'):=e2;cases e1;cases e2;exact ⟨u,ru,.inl ⟨hx,by show eJ x [(x,u)]=_;rw [dh,beq_self_eq_true]⟩⟩
   | succ i =>
    have e1:fr[i]? =some y:=e1;have e2:(ws.map some)[i]? =some (some v'):=e2;rw [ay] at e2;obtain ⟨v2,e2,e4⟩:=bx.mp e2;cases e4;obtain ⟨c,o,u',z1,z2,z3,z4⟩:=C.val i y v' e1 e2;exact ⟨u',z4,.inr ⟨.inr (hfv y (bp e1)),c,z1,o,cellAt c o z2,z3⟩⟩
  ·obtain ⟨o,z⟩:=C.all y c e
   obtain ⟨v',hv'⟩:=C.cell c o z;exact ⟨v',o,cellAt c o z,hv'⟩
  ·obtain ⟨o,z⟩:=C.all y c e
   exact oZ z
  ·show (some v::ws.map some).length=(x::fr).length
   rw [aV,aV,aa,C.len]
 refine cy (hb _ _ A outer s (ctF H fz) (hr.deeper _) [] _ _ (ctF H fz) _ I1 ht) (fun y s' hs=>?_) fun _ _ z=>z.elim
 obtain ⟨v',H',J,rv,qv⟩:=hs;have JB:Un (frs outer) [] (ctF H fz) H' s.heap s'.heap:=J.base;have heapAt:∀ b o,fz b=some o→s'.heap.get? b=some o:=fun b o z=>JB.keep b o (e0.hok b _ (Z b o z)).1 (oZ z) (fun hb=>by have:=e0.frf b hb;rw [Z b o z] at this;cases this) (by simp)
 have freeAt:∀ b o,fz b=some o→H' b=none:=fun b o z=>JB.free b o (e0.hok b _ (Z b o z)).1 (oZ z) (by simp)
 exact ⟨v',ptF H' fz,J.os,J.bare,Un.froze JB Z,HOk.ptF J.hok freeAt heapAt,rv,qv freeAt⟩
section
variable {X:Cx}
def tLam (i:Nat)(f:ao)(Hf:Hp→Prop)(sp:Sp)(t:TE):TE:=fun σ H Q=>σ[i]? =some (some (.ref f))∧Hf H∧t σ H fun v H1=>Hf H1∧sp [v] H1 Q E0
theorem pe_callV {i k:Nat}{x:Str}{p pos:Pos}{e:Expr}{t:TE}{f:ao}{Hf:Hp→Prop}{sp:Sp}(L:LmOk X.prog X.w X.K X.mg X.base k f Hf sp)(hr:Room k X.A)(ha:PE X e t)(hN:X.N[i]? =some x:=by rfl)(hv:Vis X.env.scope x:=by first | exact Or.inl rfl | exact Or.inr (.inl rfl) | exact Or.inr (.inr rfl))
  (hd:(x == ("__debug__" :Str))=false:=by decide) (hcd:(x == ("__classdict__" :Str))=false:=by decide) (he:bC [e] X.env=[(false,eZ e X.env)]:=by rfl):PE X (.Call (.Name x p) [e] [] pos) (tLam i f Hf sp t):=by
 intro aQ s σ H Q I ⟨h1,h2,h3⟩;refine fg (thn (pe_var hN hv hd hcd aQ s σ H (fun v H1=>v= .ref f∧H1=H) I ⟨_,h1,rfl,rfl⟩) fun u s1 ⟨v,H1,I1,r1,e1,e2⟩=>?_);subst e1;subst e2;cases r1;refine callWith_F (L.isFn _ _ h2 I1.hok) (thn ((ag ha az he) pos aQ s1 σ H1 (fun vs H2=>match vs with | [v]=>Hf H2∧sp [v] H2 Q E0 | _=>False) I1 h3) fun us s2 ⟨vs,H2,I2,r2,q2⟩=>?_) he rfl
 ·obtain _ | ⟨v,_ | ⟨v',vs⟩⟩:=vs
  ·exact q2.elim
  rotate_left
  ·exact q2.elim
  obtain ⟨h4,h5⟩:=q2;obtain ⟨u,rfl,ru⟩:=r2.one;refine ⟨L.isFn _ _ h4 I2.hok,wpAny_call (codeAny_mono (L.run X.A X.stack s2 H2 u v Q hr I2.env0 h4 ru h5) fun r s' hq=>?_)⟩;cases r with
  | error e=>exact cQ hq
  | ok fl =>
   cases fl with
   | ret u=>exact I2.after hq
   | next=>exact cQ hq
   | brk=>exact cQ hq
   | cont=>exact cQ hq
end
def LamE (env:Env)(scope:fV)(cl:List (Str×ao)):Prop:=(∀ x c,cl.lookup x=some c→env.cells.lookup x=some c)∧∀ y∈scope.names,y.2= .free→cl.lookup y.1=env.cells.lookup y.1
def tLamb (env:Env)(T:ao)(lp:Pos)(params:gH)(body:Expr)(scope:fV):TE:=fun _ H Q=>LamT T lp (env.qual ++ "<lambda>") H∧∀ g cl H',Tb T H H'→LamT T lp (env.qual ++ "<lambda>") H'→LamF (env.qual ++ "<lambda>") params body scope cl g H'→LamE env scope cl→Q (.ref g) H'
def tCallZ (env:Env)(scope:fV)(fr:List Str)(js:List Nat)(sp:Sp)(t:TA):TE:=fun σ H Q=>t σ H fun vs H1=>∃ cl ws,LamE env scope cl∧dQ σ js=ws.map some∧∀ fz,Clo cl fz fr ws→(∀ b o,fz b=some o→H1 b=none)→sp vs (ptF H1 fz) (fun y H'=>Fz fz H'→Q y (ctF H' fz)) E0
open Classical in
def mE (cl:List (Str×ao))(h:bE):ao→Option Obj:=fun b=>if ∃ x,cl.lookup x=some b then h.get? b else none
section
variable {X:Cx} {aQ:List (ao×Obj)} {σ:List (Option V)} {H:Hp} {s:ar}
theorem pe_lam {params:gH}{body:Expr}{scope:fV}{pos:Pos}{c T:ao}(hd:defaultsOf params X.env=([],[]))(hcode:X.env.code= .ref c)(C:codeHdIn X.K c T=true)(B:BM X.mg X.base)
  (hfr:∀ y∈scope.names,y.2= .free→X.env.scope.names.lookup y.1=some .cell):PE X (.Lambda params body scope pos) (tLamb X.env T pos params body scope):=fun _ _ _ _ _ I ⟨L,h⟩ =>
 lam_make I hd hcode C B hfr L fun f cl H' _ I' t1 T1 F c1 c2=>⟨.ref f,H',I',rfl,h f cl H' t1 T1 F ⟨c1,c2⟩⟩
theorem lZ {cl:List (Str×ao)}{h:bE}{b:ao}{o:Obj}(e:mE cl h b=some o):(∃ x,cl.lookup x=some b)∧h.get? b=some o:=by
 unfold mE at e;split at e
 ·rename_i z;exact ⟨z,e⟩
 ·cases e
theorem frzOf_of {cl:List (Str×ao)}{h:bE}{b:ao}{o:Obj}{x:Str}(z:cl.lookup x=some b)(e:h.get? b=some o):mE cl h b=some o:=by
 unfold mE;rw [pf ⟨x,z⟩];exact e
theorem Inv.clo {scope:fV}{cl:List (Str×ao)}{fr:List Str}{js:List Nat}{ws:List V}(I:Inv X aQ σ H s)(E:LamE X.env scope cl)(hws:dQ σ js=ws.map some)(hjs:js.map (fun j=>X.N[j]?)=fr.map some)(hfv:∀ y∈fr,scope.names.lookup y=some .free)
  (hfr:∀ y∈scope.names,y.2= .free→X.env.scope.names.lookup y.1=some .cell):Clo cl (mE cl s.heap) fr ws:=by
 have lens:ws.length=fr.length:=by
  have e:=pG List.length hws;have e2:=pG List.length hjs;unfold dQ at e;rw [aa,aa] at e e2;omega
 refine ⟨fun x c e=>?_,fun c o e=>?_,fun a b c e1 e2=>I.ok.inj a b c (E.1 a c e1) (E.1 b c e2),fun i y v e1 e2=>?_,lens⟩
 ·obtain ⟨v,o,ho,_⟩:=I.cell x c (E.1 x c e)
  exact ⟨o,frzOf_of e ho⟩
 ·obtain ⟨⟨x,hx⟩,ho⟩:=lZ e
  obtain ⟨v,o',ho',hd⟩:=I.cell x c (E.1 x c hx);rw [ho] at ho';cases ho';exact ⟨v,hd⟩
 ·have e3:(dQ σ js)[i]? =some (some v):=by rw [hws,ay,e2];rfl
  unfold dQ at e3;rw [ay] at e3;obtain ⟨j,ej,e3⟩:=bx.mp e3;have hN:X.N[j]? =some y:=by
   have q:=pG (fun l=>l[i]?) hjs;simp only [ay,ej,e1,fR] at q;exact cq q
  have hσ:σ[j]? =some (some v):=by
   cases z:σ[j]? with
   | none=>rw [z] at e3;cases e3
   | some w=>rw [z] at e3;exact pG some e3
  have hm:=cj (hfv y (bp e1));have hce:X.env.scope.names.lookup y=some .cell:=hfr _ hm rfl;obtain ⟨m,_,hl⟩:=I.loc;obtain ⟨u',ru',look⟩:=hl j y v hN hσ (.inr (.inl hce))
  rcases look with ⟨k,_⟩ | ⟨_,c,ec,o,ho,hd⟩
  ·have k:X.env.scope.names.lookup y=some .local:=k
   rw [hce] at k;cases k
  ·have ecl:cl.lookup y=some c:=(E.2 _ hm rfl).trans ec
   exact ⟨c,o,u',ecl,frzOf_of ecl ho,hd,ru'⟩
theorem pe_callZ {x:Str}{p pos:Pos}{e:Expr}{es:List Expr}{t:TA}{k:Nat}{f:ao}{fd:bu}{ps:List Str}{sp:Sp}{scope:fV}{fr:List Str}{js:List Nat}(F:dN X.prog X.w X.K X.mg X.base CX0 k f fd ps sp)(hr:Room k X.A)(hfn:∀ x,X.fn x=true)(hg:Gl X x)(hm:X.mg x=some (.ref f))(hk:eN X.K (.ref f)=true)(hb:Binds X.K fd ps [])
  (hjs:js.map (fun j=>X.N[j]?)=fr.map some) (hfv:∀ y∈fr,scope.names.lookup y=some .free) (hfr:∀ y∈scope.names,y.2= .free→X.env.scope.names.lookup y.1=some .cell)
  (ha:PA X (e::es) t) (hdb:(x == ("__debug__" :Str))=false:=by decide) (he:bC (e::es) X.env=(false,eZ e X.env)::bC es X.env:=by rfl) (hpl:(gF pos (bC es X.env)).any (·.1)=false:=by rfl) :
  PE X (.Call (.Name x p) (e::es) [] pos) (tCallZ X.env scope fr js sp t):=by
 intro aQ s σ H Q I h;refine fg (ld_glob I hg hm ?_ hdb);refine jD (h₀:=X.base) I.ok.mod.kin hk (thn (ha pos aQ s σ H _ I h) fun us s1 ⟨vs,H1,I1,r,q⟩=>⟨I1.kIn,?_⟩) he hpl;obtain ⟨cl,ws,LE,hws,q⟩:=q;have C:=I1.clo LE hws hjs hfv hfr;have N:∀ b o,mE cl s1.heap b=some o→H1 b=none:=fun b o e=>by
  obtain ⟨⟨x,hx⟩,_⟩:=lZ e;exact I1.freeC x b (LE.1 x b hx)
 have G:∀ b o,mE cl s1.heap b=some o→s1.heap.get? b=some o:=fun b o e=>(lZ e).2
 have up:∀ b o,mE cl s1.heap b=some o→X.s₀.heap.objs.size≤b:=fun b o e=>by
  obtain ⟨⟨x,hx⟩,_⟩:=lZ e;exact I1.ok.cab x b (hfn x) (LE.1 x b hx)
 have q:=q _ C N;have hl:us.length=ps.length:=by rw [←r.length];exact F.len _ _ _ _ q
 have e0:Env0 X.prog X.w X.K X.mg X.base X.A X.stack s1 (ptF H1 (mE cl s1.heap)):=by
  have e:=I1.env0;refine ⟨e.frames,e.mod,fun b o eb=>⟨(e.bs b o eb).1,?_⟩,e.bsz,e.funs,fun b hb=>?_,HOk.ptF e.hok N G,e.bare⟩
  ·cases z:mE cl s1.heap b with
   | none=>rw [gJ z];exact (e.bs b o eb).2
   | some o' =>
    have h1:=up b o' z;have h2:=aN eb;have h3:=I1.ok.bsz;exact pj (aU h2 (bj h3 h1)) (fG _)
  ·cases z:mE cl s1.heap b with
   | none=>rw [gJ z];exact e.frf b hb
   | some o' =>
    exfalso
    rcases aL.mp (I1.stkSub b hb) with el | hb'
    ·obtain ⟨v,hv⟩:=C.cell b o' z
     obtain ⟨m,⟨o2,es2,ep2,ho2,hd2,_⟩,_⟩:=I1.loc;have e1:=G b o' z;rw [el,ho2] at e1;cases e1;rw [hd2] at hv;cases hv
    ·obtain ⟨_,o2,ho2,_⟩:=I1.ok.funs.mem hb'
     have h1:=up b o' z;have h2:=aN ho2;exact pj (aU h2 h1) (fG _)
 refine wpAny_call (codeAny_mono (F.run X.A X.stack s1 _ ⟨us,[]⟩ us vs _ E0 hr e0 (by have:=hb s1 us I1.kIn (by rw [fv];exact hl);rw [fv] at this;exact this) r q) fun r' s' hq=>?_);cases r' with
 | error e=>exact cQ hq
 | ok fl =>
  cases fl with
  | ret u =>
   obtain ⟨v,H',os,bare,un,hok,rv,qv⟩:=hq;have Z:Fz (mE cl s1.heap) H':=fun b o e=>un.frzs b o _ (oS e)
   exact I1.after ⟨v,ctF H' (mE cl s1.heap),os,bare,Un.thaw un N hok G,HOk.cut hok Z,rv,qv Z⟩
  | next=>exact cQ hq
  | brk=>exact cQ hq
  | cont=>exact cQ hq
end
end L2
namespace HN
open PySem L2 PyProof.Rows
def TiedBy (sp:List Sn)(L k:Int):Prop:=∃ x∈sp,x.o - x.l≤L∧((x.s=k∧0≤x.g∧x.g<k)∨(x.g=k∧0≤x.s∧x.s<k))
def mM (m:Int)(sp:List Sn)(L:Int):Prop:=(∀ x∈sp,x.o - x.l≤L)∨∀ k,1≤k→k<m→TiedBy sp L k
theorem taken_at {sp:List Sn}{i:Nat}:∀ (π:List Nat) (c:List Int×List Nat),i∈(π.foldl (fH sp) c).2→i∈c.2∨∃ π1 π2,π=π1++i::π2∧tm (π1.foldl (fH sp) c).1 (sAt sp i).s≠tm (π1.foldl (fH sp) c).1 (sAt sp i).g
 | [],c,h=> .inl h
 | j::π,c,h=>by
  rw [bQ] at h
  rcases taken_at π _ h with h | ⟨π1,π2,rfl,hne⟩
  ·obtain ⟨gs,tk⟩:=c
   rcases iK sp gs tk j with ⟨_,e⟩ | ⟨n,e⟩ <;> rw [e] at h
   ·exact .inl h
   ·rcases aM.mp h with h | h
    ·exact .inl h
    ·rw [aw.mp h]
     exact .inr ⟨[],π,rfl,n⟩
  ·exact .inr ⟨j::π1,π2,rfl,hne⟩
theorem all_met {m:Nat}{sp:List Sn}{L:Int}{gs:List Int}(E:Ends m sp)(meets:∀ x∈sp,x.o - x.l≤L→tm gs x.s=tm gs x.g)(ti:∀ k:Int,1≤k→k<m→TiedBy sp L k):∀ (n:Nat) (k:Int),0≤k→k<m→k.toNat≤n→tm gs k=tm gs 0
 | n,k,k0,k1,kn=>by
  by_cases z:k=0
  ·rw [z]
  ·obtain ⟨x,hx,hw,h⟩:=ti k (by omega) k1
   have e:=meets x hx hw
   rcases h with ⟨h1,h2,h3⟩ | ⟨h1,h2,h3⟩
   ·cases n with
    | zero=>omega
    | succ n =>
     rw [h1] at e;rw [e];exact all_met E meets ti n x.g h2 (by omega) (by omega)
   ·cases n with
    | zero=>omega
    | succ n =>
     rw [h1] at e;rw [←e];exact all_met E meets ti n x.s h2 (by omega) (by omega)
theorem frst_narrow {m:Nat}{sp:List Sn}{l:List Nat}{L:Int}(E:Ends m sp)(N:mM (m:Int) sp L)(F:FrstL m sp l):∀ i∈l,i<sp.length∧(wkey sp i).1≤L:=by
 obtain ⟨_,π,O,pm⟩:=F;intro i hi;have hi:=pm.mem_iff.mp hi
 rcases taken_at π (jO m,[]) hi with h | ⟨π1,π2,e,h⟩
 ·cases h
 have hil:i<sp.length:=O.lt (by rw [e];simp);refine ⟨hil,?_⟩
 rcases N with N | N
 ·exact N _ (eX hil)
 ·by_cases w:(wkey sp i).1≤L
  ·exact w
  exfalso;have w:L<(sAt sp i).o - (sAt sp i).l:=by
   have:¬ ((sAt sp i).o - (sAt sp i).l≤L):=w;omega
  have p1:∀ j∈π1,j<sp.length:=fun j hj=>O.lt (by rw [e];simp [hj])
  have meets:∀ x∈sp,x.o - x.l≤L→tm (π1.foldl (fH sp) (jO m,[])).1 x.s=tm (π1.foldl (fH sp) (jO m,[])).1 x.g:=by
   intro x hx hw;obtain ⟨j,hj,ej⟩:=List.getElem_of_mem hx;have ej:sAt sp j=x:=by
    unfold sAt;rw [ai,gE hj];exact ej
   have hjπ:j∈π:=O.1.mem_iff.mpr (bP.mpr hj);have hj1:j∈π1:=by
    rw [e] at hjπ
    rcases aM.mp hjπ with z | z
    ·exact z
    ·exfalso
     rcases aL.mp z with z | z
     ·rw [z] at ej;rw [ej] at w;omega
     ·have pw:=O.2
      rw [e] at pw;have:=(List.pairwise_cons.mp (List.pairwise_append.mp pw).2.1).1 j z;rw [ltP_iff] at this;unfold wkey at this;rw [ej] at this;omega
   have:=jU E π1 (jO m) [] (kh m) p1 j hj1;rw [ej] at this;exact this
  obtain ⟨a0,a1,b0,b1⟩:=E _ (eX hil);refine h ?_;rw [all_met E meets N _ _ a0 a1 (aC _),all_met E meets N _ _ b0 b1 (aC _)]
theorem prodW_lim {sp:List Sn}{L:Int}:∀ (l:List Nat),(∀ i∈l,0≤(wkey sp i).1∧(wkey sp i).1≤L)→1≤ka sp l∧ka sp l≤(L+1) ^ l.length
 | [],_=>⟨(gB 1:(1:Int)≤1),by show (1:Int)≤(L+1) ^ 0;rw [Int.pow_zero];exact gB 1⟩
 | i::l,h=>by
  obtain ⟨a,b⟩:=h i (by simp);obtain ⟨c,d⟩:=prodW_lim l fun j hj=>h j (ax _ hj)
  rw [mm,aV,Int.pow_succ,Int.mul_comm ((L+1) ^ l.length)];refine ⟨?_,Int.mul_le_mul (by omega) d (by omega) (by omega)⟩;have:1 * 1≤((wkey sp i).1+1) * ka sp l:=Int.mul_le_mul (by omega) c (by decide) (by omega);omega
def iI (m:Int):Int:=([1,1,40,7,4,3,2,2,2]:List Int).getD m.toNat 0
theorem limOf_pos {m:Int}(h0:1≤m)(h1:m≤8):1≤iI m∧iI m≤40:=by
 obtain ⟨n,rfl⟩:=cx (by omega:0≤m);exact (by decide:∀ n∈aP 9,1≤iI (n:Nat)∧iI (n:Nat)≤40) n (bP.mpr (by omega))
theorem limOf_pow {m k:Nat}(h0:1≤m)(h1:m≤8)(hk:k<m):iI m ^ k≤4096 :=
 (by trivial:∀ m∈aP 9,∀ k∈aP m,iI (m:Nat) ^ k≤4096) m (bP.mpr (by omega)) k (bP.mpr hk)
theorem ox {b m:Int}{sp:List Sn}(N:NetT b m sp)(m8:m≤8)(na:mM m sp (iI m - 1)):∀ l,FrstL m.toNat sp l→ka sp l≤4096:=by
 intro l F;have m1:=N.m1;have em:((m.toNat:Nat):Int)=m:=gk (by omega);have E:=N.ends;have nar:=frst_narrow E (by rw [em];exact na) F;have few:=F.few E (by omega);have:=(prodW_lim (sp:=sp) (L:=iI m - 1) l fun i hi=>by
  obtain ⟨a,c⟩:=nar i hi;refine ⟨?_,c⟩;have:=(N.all _ (eX a)).lo;show 0≤(sAt sp i).o - (sAt sp i).l;omega).2
 rw [show iI m - 1+1=iI m by omega] at this;have p:=limOf_pow (m:=m.toNat) (k:=l.length) (by omega) (by omega) few;rw [em] at p;omega
structure HidN (b m:Int)(ts:List Int)(L:Int)(kept tied:Bool)(n:Int)(sp:List Sn):Prop where
 all:∀ x∈sp,SnOk b m x
 fit:kept=true→∀ x∈sp,fU b ts x≤x.o - x.l
 nar:tied=false→∀ x∈sp,x.o - x.l≤L
 tie:tied=true→∀ k,1≤k→k<n→TiedBy sp L k
section
variable {b m L n:Int} {ts:List Int} {kept tied:Bool} {sp:List Sn} {x:Sn}
theorem HidN.nil:HidN b m ts L kept tied 1 []:=⟨fun _ h=>pj h (by simp),fun _ _ h=>pj h (by simp),fun _ _ h=>pj h (by simp),fun _ k h1 h2=>by omega⟩
theorem HidN.put (h:HidN b m ts L kept tied n sp)(ok:SnOk b m x)(f:kept=true→fU b ts x≤x.o - x.l)(na:tied=false→x.o - x.l≤L)(j:Nat):HidN b m ts L kept tied n (sp.take j++x::sp.drop j):=by
 have mem:∀ y,y∈sp.take j++x::sp.drop j→y=x∨y∈sp:=fun y hy=>by
  rcases aM.mp hy with z | z
  ·exact .inr (jo z)
  ·rcases aL.mp z with z | z
   ·exact .inl z
   ·exact .inr (List.mem_of_mem_drop z)
 have back:∀ y∈sp,y∈sp.take j++x::sp.drop j:=fun y hy=>by
  rw [←i6 j sp] at hy
  rcases aM.mp hy with z | z
  ·exact aE _ z
  ·exact aG _ (ax _ z)
 refine ⟨fun y hy=>?_,fun k y hy=>?_,fun t y hy=>?_,fun t k k1 k2=>?_⟩
 ·rcases mem y hy with rfl | z
  ·exact ok
  ·exact h.all y z
 ·rcases mem y hy with rfl | z
  ·exact f k
  ·exact h.fit k y z
 ·rcases mem y hy with rfl | z
  ·exact na t
  ·exact h.nar t y z
 ·obtain ⟨y,hy,w,r⟩:=h.tie t k k1 k2
  exact ⟨y,back y hy,w,r⟩
theorem HidN.more (h:HidN b m ts L kept tied n sp)(n1:1≤n)(ok:SnOk b m x)(f:kept=true→fU b ts x≤x.o - x.l)(na:x.o - x.l≤L)(e:(x.s=n∧0≤x.g∧x.g<n)∨(x.g=n∧0≤x.s∧x.s<n)):HidN b m ts L kept tied (n+1) (sp++[x]):=by
 have p:=h.put ok f (fun _=>na) sp.length;rw [bq,List.drop_length] at p;refine ⟨p.all,p.fit,p.nar,fun t k k1 k2=>?_⟩
 by_cases z:k=n
 ·exact ⟨x,by simp,na,by rw [z];exact e⟩
 ·exact p.tie t k k1 (by omega)
theorem HidN.skip (h:HidN b m ts L kept false n sp)(n':Int):HidN b m ts L kept false n' sp:=⟨h.all,h.fit,h.nar,fun t=>by cases t⟩
theorem HidN.narrow (h:HidN b m ts L kept tied m sp):mM m sp L:=by
 cases tied with
 | false=>exact .inl (h.nar rfl)
 | true=>exact .inr (h.tie rfl)
theorem HidN.fits (h:HidN b m ts L kept tied n sp)(k:kept=true):jd b ts sp=true:=by
 unfold jd;rw [ft,fq];intro x hx;have:=h.fit k x hx;unfold brk;simp only [decide_eq_true_eq];omega
end
theorem kept_wait {b j r l wd:Int}{ts:List Int}{x:Sn}(hb:1≤b)(w0:0≤wd)(w1:wd<b)(e:l=(tm ts x.g - tm ts x.s - r % (wd+1)) % b+b * j)(el:x.l=l):fU b ts x≤wd:=by
 have r0:=cP r (by omega:wd+1≠0);have r1:=cE r (by omega:0<wd+1);unfold fU;rw [el,e];generalize r % (wd+1)=q at r0 r1 ⊢;have:(tm ts x.g - tm ts x.s - ((tm ts x.g - tm ts x.s - q) % b+b * j)) % b=q:=by
  rw [show tm ts x.g - tm ts x.s - ((tm ts x.g - tm ts x.s - q) % b+b * j)=(tm ts x.g - tm ts x.s - (tm ts x.g - tm ts x.s - q) % b) - b * j by omega,Int.sub_mul_emod_self_left];rw [Int.sub_emod,Int.emod_emod,←Int.sub_emod,show tm ts x.g - tm ts x.s - (tm ts x.g - tm ts x.s - q)=q by omega,iW r0 (by omega)]
 omega
end HN
namespace L2
open PySem PySem.W PySem.Spec PyProof.Rows
section
variable {prog:aW} {w:bz} {A:bU} {E:ae→ar→Prop} {s:ar}
end
section
variable {X:Cx} {pos:Pos}
def CGrt (i j:Int):Prop:=i.natAbs<10 ^ 1000∧j.natAbs<10 ^ 1000
theorem bits_grt {x:Int}(h:x.natAbs<10 ^ 1000):fM.Int.intBits x≤2 ^ 20:=by
 unfold fM.Int.intBits;split
 ·exact bI _
 ·rename_i hx
  have h0 : x.natAbs ≠ 0 := fun z => hx (by have e : x = 0 := by omega
                                            rw [e];rfl)
  have h2:=(Nat.log2_lt h0).mpr (Nat.lt_trans h (by trivial:10 ^ 1000<2 ^ 10000));have h3:(10000:Nat)+1≤2 ^ 20:=by decide
  omega
theorem ip_mulG:PIp X .Mult (fun x y H Q=>∃ i j,x= .int i∧y= .int j∧CGrt i j∧Q (.int (i * j)) H):=by
 intro aQ s σ H x y v u Q I r1 r2 h;obtain ⟨i,j,e1,e2,hc,q⟩:=h;subst e1;subst e2;obtain ⟨t,rfl⟩:=r1;obtain ⟨t',rfl⟩:=r2;exact imul_int ⟨.int _,H,I.tok _,⟨_,rfl⟩,q⟩ (IntMulOk.of_bits (bits_grt hc.1) (bits_grt hc.2))
end
end L2
namespace L2
open PySem PySem.Spec PyProof.Rows
def Itvl (K:ak)(a:ao)(n:Nat):It :=
 ⟨fun i H=>∃ xs x,SqL K H a xs∧xs.length=n∧xs.reverse[i]? =some x,fun i H x H'=>H'=H∧∀ xs,SqL K H a xs→xs.reverse[i]? =some x,fun i _=>i=n⟩
theorem turn_revL {P:aW}{w:bz}{K:ak}{tg:Expr}(a it:ao)(n:Nat):Turn P w K tg (Itvl K a n) [it] it (fun i h=>h.IsRevIter it a ((n:Int) - 1 - (i:Nat))) where
 mem:=by simp
 obj:=fun i h st b hb=>by
  have e:b=it:=by simpa using hb
  subst e;obtain ⟨o,e,c,d⟩:=st;exact ⟨o,e,fun v z=>by rw [d] at z;cases z⟩
 keep:=fun i h h' st k=>st.at fun o e=>k it (by simp) o e
 item:=by
  intro X hP hw hK hc i aQ s σ H E I hf st hg;subst hP hw hK;obtain ⟨xs,x,hq,hn,hx⟩:=hg;obtain ⟨its,rv,p,hz⟩:=I.list hq;have hi:i<xs.length:=by
   have:=(av.mp hx).1;rw [eQ] at this;exact this
  have hx2:=hx;rw [List.getElem?_reverse hi] at hx2;obtain ⟨u,hu,ru⟩:=rv.get hx2;obtain ⟨f0,f1,f2,f3,f4,f5⟩:=hf it (by simp);have e:(n:Int) - 1 - (i:Nat)=((xs.length - 1 - i:Nat):Int):=by omega
  rw [e] at st;refine wpAny_pyNext_rev_item st p.isList (x:=u) (by simpa using hu) fun h' st' sb=>?_
  have I1:Inv X aQ σ H { s with heap:=h' }:=I.turned (t':=s.toks) (fun b o hb e=>(sb.2 b hb).trans e) f0 f1 f3 f4 f5;obtain ⟨o,e2,c,d⟩:=id st';have e3:((xs.length - 1 - i:Nat):Int) - 1=(n:Int) - 1 - ((i+1:Nat):Int):=by omega
  rw [e3] at st';exact ⟨u,rfl,go_of (s:={ s with heap:=h' }) e2 c d (by decide) ⟨x,H,I1,ru,⟨rfl,fun ys hy=>by rw [I.list_inj hy hq];exact hx⟩,st',fun b hb=>(hf b hb).1⟩⟩
 done:=by
  intro X hP hw hK hc i aQ s σ H E I hf st hg;subst hP hw hK;obtain ⟨f0,f1,f2,f3,f4,f5⟩:=hf it (by simp);have hg:i=n:=hg;have e:(n:Int) - 1 - (i:Nat)= -1:=by omega
  rw [e] at st;exact wpAny_pyNext_rev_end (I.ok.hd hc) st fun h' eb=>⟨rfl,I.turned (t':=s.toks) (fun b o hb e=>eb b o hb e) f0 f1 f3 f4 f5⟩
 self:=fun _ _ _ _ _ st h=>wpAny_pyIter_revIter st h
section
variable {X:Cx} {tg:Expr}
def iRevL (K:ak)(ta:TA):TI:=fun σ H R=>ta σ H fun vs H1=>∃ a xs,vs=[.ref a]∧SqL K H1 a xs∧R (Itvl K a xs.length) H1
theorem pi_revL {ea:Expr}{ta:TA}{p pos:Pos}(hg:Gl X "reversed")(hm:X.mg "reversed" =none)(ha:PA X [ea] ta)(hs:bC [ea] X.env=[(false,eZ ea X.env)]:=by rfl) :
  PI X tg (.Call (.Name "reversed" p) [ea] [] pos) (iRevL X.K ta):=by
 intro aQ s σ H R I h;refine Call_ (lV I hg hm boot_reversed (fe (thn (ha pos aQ s σ H _ I h) fun us s1 z=>?_) hs rfl));obtain ⟨vs,H1,I1,r1,q1⟩:=z;obtain ⟨a,xs,e,hA,q⟩:=q1;subst e;obtain ⟨u1,rfl,r2⟩:=nh r1;cases (show u1=ae.ref a from r2);obtain ⟨its,rv,pt',hz⟩:=I1.list hA;have hl:=rv.length;refine call_reversed_list pt'.isList ?_;have z1:(s1.heap.push (revObj a ((its.toArray.size:Int) - 1))).IsRevIter s1.heap.objs.size a ((xs.length:Int) - 1 - ((0:Nat):Int)):=by
  refine ⟨_,bg _ rfl,rfl,?_⟩;rw [aB,←hl,show (xs.length:Int) - 1 - ((0:Nat):Int)=(xs.length:Int) - 1 by omega];rfl
 refine wpAny_pyIter_revIter (s:={ s1 with heap:=s1.heap.push (revObj a ((its.toArray.size:Int) - 1)) }) z1 ⟨s1.heap.objs.size,[s1.heap.objs.size],_,Itvl X.K a xs.length,H1,rfl,I1.kept (t':=s1.toks) fun c o e=>au _ e,turn_revL a _ _,z1,fun b hb=>?_,q⟩;have e:b=s1.heap.objs.size:=by simpa using hb
 subst e;exact I1.fpOk (aC _) (I1.hok.fresh (aC _))
end
theorem for_revL {K:ak}{a:ao}{xs:List V}{g:TG}{tb:TS}{D:Ends}{σ:St}{H:Hp}(Pv:Nat→St→Hp→Prop)(h0:Pv 0 σ H)(hl:∀ i σ H,i≤xs.length→Pv i σ H→SqL K H a xs)
  (hs:∀ i x σ H,xs.reverse[i]? =some x→Pv i σ H→g x σ H fun σ2 H2=>tb { D with nx:=Pv (i+1),ct:=Pv (i+1),bk:=D.nx } σ2 H2) (hd:∀ σ H,Pv xs.length σ H→D.nx σ H) :
  ∃ W:Nat→Nat→St→Hp→Prop,(∃ m,W 0 m σ H)∧∀ i m σ H,W i m σ H →
   ((Itvl K a xs.length).stop i H∧D.nx σ H)∨((Itvl K a xs.length).go i H∧∃ N:St→Hp→Prop,(∀ σ' H',N σ' H'→∃ m',m'<m∧W (i+1) m' σ' H')∧∀ x H',(Itvl K a xs.length).yld i H x H'→g x σ H' fun σ2 H2=>tb { D with nx:=N,ct:=N,bk:=D.nx } σ2 H2):=by
 refine ⟨fun i m σ H=>m=xs.length - i∧i≤xs.length∧Pv i σ H,⟨xs.length,by simp,bI _,h0⟩,?_⟩;rintro i m σ H ⟨rfl,hi,p⟩;have q:=hl i σ H hi p
 by_cases e:i=xs.length
 ·subst e
  exact .inl ⟨rfl,hd σ H p⟩
 ·have hlt:i<xs.length:=iJ hi e
  refine .inr ⟨⟨xs,_,q,rfl,gE (by rw [eQ];exact hlt)⟩,Pv (i+1),fun σ' H' p'=>⟨xs.length - (i+1),by omega,rfl,by omega,p'⟩,fun x H' hy=>?_⟩;obtain ⟨rfl,hx⟩:=hy;exact hs i x σ _ (hx xs q) p
theorem thou_le {n:Nat}(h:n≤1001):n≤bc:=bj h (by decide)
section
variable {X:Cx}
def min3 (a b c:Int):Int:=if b<a then (if c<b then c else b) else (if c<a then c else a)
theorem min3_le (a b c:Int):min3 a b c≤a∧min3 a b c≤b∧min3 a b c≤c:=by
 unfold min3;split <;> split <;> omega
theorem min3_ge {a b c z:Int}(h1:z≤a)(h2:z≤b)(h3:z≤c):z≤min3 a b c:=by
 unfold min3;split <;> split <;> omega
theorem call_min3 (hc:X.calm=true):CallR X (.builtin "min") (fun xs H Q=>∃ a b c,xs=[.int a,.int b,.int c]∧Q (.int (min3 a b c)) H):=by
 intro aQ s σ H xs us Q I r h;obtain ⟨a,b,c,rfl,q⟩:=h;cases r with
 | cons r1 r =>
  obtain ⟨u,w',rfl,⟨t2,rfl⟩,⟨t3,rfl⟩⟩:=vals2 r;obtain ⟨t1,rfl⟩:=r1;refine min_three_ints (I.ok.hd hc) fun h' tk k=>⟨_,H,I.kept k,?_,q⟩
  unfold min3
  by_cases h1:b<a
  ·rw [pf h1,pf h1]
   by_cases h2:c<b
   ·rw [pf h2,pf h2];exact ⟨_,rfl⟩
   ·rw [pe h2,pe h2];exact ⟨_,rfl⟩
  ·rw [pe h1,pe h1]
   by_cases h2:c<a
   ·rw [pf h2,pf h2];exact ⟨_,rfl⟩
   ·rw [pe h2,pe h2];exact ⟨_,rfl⟩
inductive rInsert (x:V)(vs:List V)(H:Hp)(Q:VK):Prop
 | mk (l xs k y:_)(_:x= .ref l)(_:vs=[.int k,y])(_:H l=some (.lst xs))(_:xs.length≤1000)(_:0≤k)(_:k≤xs.length)(_:Q .non (upd H l (.lst (xs.take k.toNat++y::xs.drop k.toNat))))
theorem oh:MtM X "list.insert" rInsert:=by
 intro aQ s σ H x vs v us Q I rx rv h;obtain ⟨l,xs,k,y,rfl,rfl,hH,hz,k0,k1,q⟩:=h;cases rx;obtain ⟨u,w',rfl,⟨t,rfl⟩,ru⟩:=vals2 rv;obtain ⟨z,its,n,r,hl,e⟩:=I.lstM hH;have hlen:its.length=xs.length:=r.length.symm;have hs:its.toArray.size≤bc:=by rw [aB];exact thou_le (by omega)
 have hf:fM.List.listFitsIndex k=true:=by
  unfold fM.List.listFitsIndex;simp only [dt,decide_eq_true_eq]
  constructor <;> omega
 refine call_meets ij ⟨_,e,rfl⟩ PySem.F.entry_list_insert (PySem.F.args_list_insert_3 _ _ _) (PySem.AutoSeq1.list_insert_list_int_val_1 l its.toArray n k t w' (by rw [hf];decide) hs) ⟨e,?_⟩;refine ⟨.non,_,I.lset (its':=its.take k.toNat++w'::its.drop k.toNat) hH e ?_ ((r.take _).append (.cons ru (r.drop _))) ?_,rfl,q⟩
 ·show (its.toArray.extract 0 (if k<0 then (k+(its.toArray.size:Int)).toNat else min k.toNat its.toArray.size)).push w'++its.toArray.extract (if k<0 then (k+(its.toArray.size:Int)).toNat else min k.toNat its.toArray.size)=(its.take k.toNat++w'::its.drop k.toNat).toArray
  rw [pe (by omega),aB,Nat.min_eq_left (by omega)]
  apply Array.toList_inj.mp
  have ht:(its.drop k.toNat).take (its.length - k.toNat)=its.drop k.toNat:=List.take_of_length_le (by rw [dm];omega);simp [ht]
 ·rw [aq,aV,bH,dm]
  exact thou_le (by omega)
end
end L2
namespace HN
open PySem L2 PyProof.Rows
def Mv (p:ao)(H H':Hp):Prop:=(∀ b o,b≠p→H b=some o→H' b=some o)∧∃ n,H' p=some (.lst [.int n])
theorem Mv.trans {p:ao}{H H1 H2:Hp}(a:Mv p H H1)(b:Mv p H1 H2):Mv p H H2:=⟨fun c o hc e=>b.1 c o hc (a.1 c o hc e),b.2⟩
theorem Mv.new {p q:ao}{H H1:Hp}{o:HO}(a:Mv p H H1)(hq:H1 q=none):Mv p H (upd H1 q o):=by
 obtain ⟨n,hn⟩:=a.2;exact ⟨fun c u hc e=>by rw [bf (aY (a.1 c u hc e) hq)];exact a.1 c u hc e,n,by rw [bf (aY hn hq)];exact hn⟩
theorem Mv.at {p q:ao}{H H1:Hp}{o:HO}(a:Mv p H H1)(h:H q=some o)(hne:q≠p):H1 q=some o:=a.1 q o hne h
theorem Mv.then {p:ao}{H H1 H2:Hp}(a:Mv p H H1)(S:Same H1 H2):Mv p H H2:=⟨fun c o hc e=>S _ _ (a.1 c o hc e),by obtain ⟨n,hn⟩:=a.2;exact ⟨n,S _ _ hn⟩⟩
theorem Mv.of {p:ao}{H H1:Hp}{n:Int}(S:Same H H1)(h:H1 p=some (.lst [.int n])):Mv p H H1:=⟨fun c o _ e=>S _ _ e,n,h⟩
theorem Mv.ne {p q:ao}{H H1:Hp}(a:Mv p H H1)(hq:H1 q=none):q≠p:=fun z=>by obtain ⟨n,hn⟩:=a.2;rw [z,hn] at hq;cases hq
theorem Same.mv {p:ao}{H H1 H2:Hp}(e:Same H H1)(hp:H p=none)(m:Mv p H1 H2):Same H H2:=fun b o q=>m.1 b o (fun z=>by rw [z,hp] at q;cases q) (e b o q)
theorem Mv.tupK {p:ao}{H H1:Hp}{n:Int}(h:H p=some (.lst [.int n]))(a:Mv p H H1):TupK H H1:=fun q xs e=>a.1 q _ (ie e h nofun) e
inductive nI (vs:List V)(H:Hp)(Q:VK)(_:XK):Prop
 | mk (p n m:_)(_:vs=[.ref p,.int m])(_:H p=some (.lst [.int n]))(_:0<m)(_:m<10 ^ 61)(_:∀ r H',0≤r→r<m→Mv p H H'→Q (.int r) H')
inductive spMix (vs:List V)(H:Hp)(Q:VK)(_:XK):Prop
 | mk (c k:_)(_:vs=[.int c,.int k])(_:0≤k)(_:k≤1000)(_:∀ n,Q (.int n) H)
inductive spPotT (K:ak)(vs:List V)(H:Hp)(Q:VK)(_:XK):Prop
 | mk (a:ao)(ns:List Int)(k:Int)(_:vs=[.ref a,.int k])(_:SqL K H a (ns.map V.int))(_:0≤k)(_:k≤100)(_:∀ n p,H p=none→Q (.ref p) (upd H p (.lst [.int n])))
abbrev sCell:cV:=top 37
abbrev sMix:cV:=top 38
abbrev sPotT:cV:=top 39
abbrev sTake:cV:=top 40
section
variable {P:aW} {w:bz} {K:ak} {mg:Str→Option ae} {base:bE}
theorem scCell:cu pzd pzd (defScope sCell):=by trivial
theorem ok_cell {f:ao}{fd:bu}(F:Fun K "_law_cell_at" "_law_cell_at" sCell f fd)(T:Nm mg):dN P w K mg base CX0 1 f fd pzd (spCell K):=by
 refine F.ok scCell (by contradiction) (fun cdv A outer s H vs Q E hr h=>?_);obtain ⟨a,ns,j,rfl,ha,hj,k⟩:=h;refine ⟨_,mV (gn (cA oH (pv 1) (cG bW rfl T.len bG (ag (pv 0) az)) (cZ _)) (cO (cw (eh dX (pv 0) (pv 1) (fun _ _=>rfl)))) dO) (cO (cw ba)),?_⟩;refine ⟨_,rfl,_,rfl,a,_,rfl,.inl ha,_,_,rfl,rfl,_,rfl,?_⟩;refine oX (fun h1=>?_) (fun h1=>?_)
 ·have h1:j<((ns.map V.int).length:Int):=pE h1
  obtain ⟨v,e1,e2⟩:=atI_in hj h1;obtain ⟨c,_,rfl⟩:=bh.mp e2;exact ⟨_,rfl,_,rfl,a,_,_,_,rfl,rfl,ha,e1,k c⟩
 ·exact k 0
theorem scTake:cu ["_law_pot_here","_law_most","_law_number"] pzc (defScope sTake):=by trivial
theorem my {f:ao}{fd:bu}(F:Fun K "_law_take" "_law_take" sTake f fd):dN P w K mg base CX0 1 f fd pzc nI:=by
 refine F.ok scTake (by contradiction) (fun cdv A outer s H vs Q E hr h=>?_);obtain ⟨p,n,m,rfl,hp,h0,h1,k⟩:=h;refine ⟨_,mV (bw (i:=2) scTake.nd rfl (.inl rfl) (bX i9 (eh dX (pv 0) ba (fun _ _=>rfl)) (pv 1)))
  (mV (mH (bX lP (eh dX (pv 0) ba (fun _ _=>rfl)) (pv 1)) (pg_sub (pv 0) ba set_list)) (cO (cw (pv 2)))),?_⟩
 refine ⟨_,rfl,p,_,_,_,rfl,rfl,SqL.of hp,aO (j:=0) rfl,_,rfl,_,_,rfl,rfl,h0,?_⟩;refine ⟨_,rfl,p,_,_,_,rfl,rfl,SqL.of hp,aO (j:=0) rfl,_,rfl,_,_,rfl,rfl,log_ok h0 h1,?_⟩;refine ⟨_,rfl,p,_,_,0,rfl,rfl,hp,rfl,?_⟩;refine ⟨_,rfl,k _ _ (cP _ (by omega)) (cE _ h0) ⟨fun b o hb e=>by rw [bf hb];exact e,n / m,aS⟩⟩
theorem scMix:cu ["_law_cell","_law_k","_law_number"] pzv (defScope sMix):=by trivial
theorem ok_mix {f:ao}{fd:bu}(F:Fun K "_law_mixed" "_law_mixed" sMix f fd):dN P w K mg base CX0 1 f fd pzv spMix:=by
 refine F.ok scMix (by contradiction) (fun cdv A outer s H vs Q E hr h=>?_);obtain ⟨c,j,rfl,j0,j1,k⟩:=h;refine ⟨_,PSl.h (aR ⟨(bw (i:=2) scMix.nd rfl (.inl rfl) (bX i9 (bX kG (bX dM (bX dM (bX i9 (pv 0) ba) (bX kG ba (pv 1))) ba) ba) ba))⟩
  (aR ⟨(bw (i:=2) scMix.nd rfl (.inl rfl) (bX i9 (bX dM (bX dM (bX kG (pv 2) (pv 2)) (bX kG ba (pv 1))) ba) ba))⟩
  (dH ⟨(cw (bX i9 (bX kG (pv 2) ba) ba))⟩))),?_⟩
 refine ⟨_,rfl,_,_,rfl,rfl,(by show (0:Int)<2147483629;decide),_,rfl,_,_,rfl,rfl,.inl ⟨by decide,by decide⟩,_,_,rfl,rfl,_,_,rfl,rfl,_,_,rfl,rfl,.inr ⟨by decide,by decide⟩,_,_,rfl,rfl,(by show (0:Int)<2147483647;decide),?_⟩;refine ⟨_,rfl,_,rfl,_,_,rfl,rfl,.inl ?_,_,rfl,_,_,rfl,rfl,.inl ⟨by decide,by decide⟩,_,_,rfl,rfl,_,_,rfl,rfl,_,_,rfl,rfl,(by show (0:Int)<2147483587;decide),?_⟩
 ·have h1:=cP ((c % 2147483629+7919 * j+1) * 48271) (by decide:(2147483647:Int)≠0)
  have h2:=cE ((c % 2147483629+7919 * j+1) * 48271) (by decide:(0:Int)<2147483647);exact ⟨by omega,by omega⟩
 ·exact ⟨_,rfl,_,_,rfl,rfl,.inr ⟨by decide,by decide⟩,_,_,rfl,rfl,(by show (0:Int)<2147483629;decide),k _⟩
theorem scPotT:cu ["_law_script","_law_k","_law_cell","_law_number","_law_j"] pzd (defScope sPotT):=by trivial
theorem ok_potT {f f1 f2:ao}{fd fd1 fd2:bu}(F:Fun K "_law_pot" "_law_pot" sPotT f fd)(T:Nm mg)(T2:Nt mg)(G1:Fn K mg "_law_cell_at" sCell pzd f1 fd1)(G2:Fn K mg "_law_mixed" sMix pzv f2 fd2):dN P w K mg base CX0 2 f fd pzd (spPotT K):=by
 have F1:dN P w K mg base CX0 1 f1 fd1 pzd (spCell K):=ok_cell G1.F T;have F2:dN P w K mg base CX0 1 f2 fd2 pzv spMix:=ok_mix G2.F;refine F.ok scPotT (by contradiction) (fun cdv A outer s H vs Q E hr h=>?_);obtain ⟨a,ns,j,rfl,ha,j0,j1,k⟩:=h;refine ⟨_,PSl.h (aR ⟨(bw (i:=2) scPotT.nd rfl (.inl rfl) (pc1 G1 F1 hr (ag (pv 0) (ag (pv 1) az))))⟩
  (aR ⟨(gn (cA lQ (bX i9 (pc1 G1 F1 hr (ag (pv 0) (ag ba az))) ba) ba (cZ _)) (cO (cw (iq (ag (pv 2) az)))) dO)⟩
  (aR ⟨(bw (i:=3) scPotT.nd rfl (.inl rfl) ba)⟩
  (aR ⟨(iC bL rfl (iE rfl T2.range (ag ba az)) (df (i:=4) scPotT.nd rfl (.inl rfl)) (cO (bw (i:=3) scPotT.nd rfl (.inl rfl) (bX dM (bX kG (pv 3) ba) (pc1 G2 F2 hr (ag (pv 2) (ag (bX dM (pv 1) (bX kG ba (pv 4))) az)))))))⟩
  (dH ⟨(cw (iq (ag (pv 3) az)))⟩))))),?_⟩
 refine ⟨_,rfl,_,rfl,a,ns,j,rfl,ha,j0,fun c=>?_⟩;refine ⟨_,rfl,a,ns,0,rfl,ha,by decide,fun c0=>⟨_,_,rfl,rfl,(by show (0:Int)<2;decide),rfl,_,rfl,?_⟩⟩;refine oX (fun _=>?_) (fun _=>?_)
 ·exact ⟨_,rfl,szZ1,fun p hp=>k _ p hp⟩
 ·refine ⟨9,rfl,by decide,by decide,jW (n:=9) (fun i σ H2=>H2=H∧∃ n vj,σ=[some (.ref a),some (.int j),some (.int c),some (.int n),vj]) ⟨rfl,0,none,rfl⟩ ?_ ?_⟩
  ·rintro i σ H2 hi ⟨rfl,n,vj,rfl⟩
   refine ⟨_,rfl,_,_,rfl,rfl,.inr ⟨by decide,by decide⟩,_,rfl,_,rfl,_,rfl,_,_,rfl,rfl,.inl ⟨by decide,by decide⟩,_,_,rfl,rfl,c,_,rfl,by omega,by omega,fun n2=>⟨_,_,rfl,rfl,?_⟩⟩;exact ⟨rfl,_,_,rfl⟩
  ·rintro σ H2 ⟨rfl,n,vj,rfl⟩
   exact ⟨_,rfl,szZ1,fun p hp=>k _ p hp⟩
end
inductive spSpanH (vs:List V)(H:Hp)(Q:VK)(_:XK):Prop
 | mk (p tq e:ao)(n b s g wd:Int)(ts:List Int)(kb:Bool)(_:vs=[.ref p,.ref tq,.int b,.ref e,.int wd,.bl kb])(_:H p=some (.lst [.int n]))(_:H tq=some (.lst (ts.map V.int)))(_:tq≠p)(_:H e=some (.tup [.int s,.int g]))(_:1≤b)(_:b≤10 ^ 40)(_:ts.length≤16)(_:0≤s)(_:s<ts.length)(_:0≤g)(_:g<ts.length)(_:s≠g)(_:0≤wd)(_:wd<b)(_:∀ (t:ao) (x:Sn) (H':Hp),H t=none→Mv p H H'→H' t=some (.tup [.int x.s,.int x.g,.int x.l,.int x.o,.int x.w])→SnOk b ts.length x→x.o - x.l=wd→(kb=true→fU b ts x≤x.o - x.l)→x.s=s→x.g=g→Q (.ref t) H')
abbrev sSpanH:cV:=top 41
section
variable {P:aW} {w:bz} {K:ak} {mg:Str→Option ae} {base:bE}
theorem kZ:cu ["_law_pot_here","_law_times","_law_beat","_law_ends","_law_width","_law_kept","_law_start","_law_goal","_law_least","_law_weight"] pzk (defScope sSpanH):=by trivial
theorem ok_spanH {f f1:ao}{fd fd1:bu}(F:Fun K "_law_span" "_law_span" sSpanH f fd)(G1:Fn K mg "_law_take" sTake pzc f1 fd1):dN P w K mg base CX0 2 f fd pzk spSpanH:=by
 have F1:dN P w K mg base CX0 1 f1 fd1 pzc nI:=my G1.F;refine F.ok kZ (by contradiction) (fun cdv A outer st0 H vs Q E hr h=>?_);obtain ⟨p,tq,e,n,b,s,g,wd,ts,kb,rfl,hp,htq,ntp,he,b1,b2,few,s0,s1,g0,g1,sg,w0,w1,k⟩:=h;refine ⟨_,PSl.h (aR ⟨(mH (pv 3) (mI rfl (fJ (df (i:=6) kZ.nd rfl (.inl rfl)) (fJ (df (i:=7) kZ.nd rfl (.inl rfl)) kE))))⟩
  (aR ⟨(bw (i:=8) kZ.nd rfl (.inl rfl) (pc1 G1 F1 hr (ag (pv 0) (ag (pv 2) az))))⟩
  (aR ⟨(k4 (gn (jQ (pv 5)) (cO (bw (i:=8) kZ.nd rfl (.inl rfl) (bX i9 (bX gp (bX gp (eh dX (pv 1) (pv 7) (fun _ _=>rfl)) (eh dX (pv 1) (pv 6) (fun _ _=>rfl))) (bX i9 (pv 8) (bX dM (pv 4) ba))) (pv 2)))) dO))⟩
  (aR ⟨(bw (i:=8) kZ.nd rfl (.inl rfl) (bX dM (pv 8) (bX kG (pv 2) (PEs.h (k_ix dX (k_lstF (fF jS (fF jS (fF jS (fF ⟨pc1 G1 F1 hr (ag (pv 0) (ag (bX op_pow ba ba) az))⟩ a_nil))))) ⟨pc1 G1 F1 hr (ag (pv 0) (ag ba az))⟩ (fun _ _=>rfl))))))⟩
  (aR ⟨(bw (i:=9) kZ.nd rfl (.inl rfl) (PEs.h (k_lstF (fF jS (fF jS (fF ⟨pc1 G1 F1 hr (ag (pv 0) (ag ba az))⟩ (fF ⟨pc1 G1 F1 hr (ag (pv 0) (ag (bX dM (bX op_pow ba ba) ba) az))⟩ a_nil)))))))⟩
  (dH ⟨(cw (mJ (ag (pv 6) (ag (pv 7) (ag (pv 8) (ag (bX dM (pv 8) (pv 4)) (ag (eh dX (pv 9) (pc1 G1 F1 hr (ag (pv 0) (ag ba az))) (fun _ _=>rfl)) az)))))))⟩)))))),?_⟩
 refine ⟨_,rfl,e,_,rfl,SqT.of he,rfl,_,_,rfl,_,_,rfl,rfl,?_⟩;refine ⟨_,rfl,_,rfl,p,n,b,rfl,hp,by omega,by omega,fun r1 H1 a1 c1 M1=>?_⟩;have ht1:=M1.at htq ntp;refine ⟨fun σ' H'=>Mv p H H'∧∃ l,0≤l∧l<b∧(kb=true→∃ r,l=(tm ts g - tm ts s - r % (wd+1)) % b)∧σ'=[some (.ref p),some (.ref tq),some (.int b),some (.ref e),some (.int wd),some (.bl kb),some (.int s),some (.int g),some (.int l),none],?_,?_⟩
 rotate_left
 ·refine ⟨_,rfl,_,rfl,?_⟩
  refine oX (fun _=>?_) (fun hk=>⟨M1,r1,a1,c1,fun z=>pj z hk,rfl⟩);refine ⟨_,rfl,_,rfl,tq,_,_,_,rfl,rfl,SqL.of ht1,ma g0 g1,_,rfl,_,rfl,tq,_,_,_,rfl,rfl,SqL.of ht1,ma s0 s1,_,_,rfl,rfl,_,rfl,_,rfl,_,_,rfl,rfl,_,_,rfl,rfl,(by show (0:Int)<wd+1;omega),_,_,rfl,rfl,_,rfl,_,_,rfl,rfl,(by show (0:Int)<b;omega),?_⟩;exact ⟨M1,_,cP _ (by omega),cE _ (by omega),fun _=>⟨r1,rfl⟩,rfl⟩
 rintro σ' HC ⟨MC,l,l0,l1,hkl,rfl⟩;obtain ⟨nC,hpC⟩:=MC.2;refine ⟨_,rfl,_,rfl,_,rfl,_,_,rfl,rfl,⟨by decide,by decide,by decide⟩,p,_,_,rfl,hpC,by decide,by decide,fun rD HD aD cD MD=>⟨szZ4,fun qE hqE=>?_⟩⟩;have MD:=MC.trans MD;have cD:rD<10 ^ 9:=cD;have nqE:=MD.ne hqE;have ME:=MD.new (o:= .lst [.int 0,.int 0,.int 1,.int rD]) hqE;have hE:(upd HD qE (.lst [.int 0,.int 0,.int 1,.int rD])) qE=some (.lst [.int 0,.int 0,.int 1,.int rD]):=aS;obtain ⟨nE,hpE⟩:=ME.2;refine ⟨_,rfl,p,_,4,rfl,hpE,by decide,by decide,fun rF HF aF cF MF=>?_⟩;have hF:=MF.at hE nqE;have MF:=ME.trans MF;clear ME hE hpE;obtain ⟨vF,eF,mF⟩:=atI_in (xs:=[V.int 0,V.int 0,V.int 1,V.int rD]) aF cF;obtain ⟨j,rfl,j0,j1⟩:∃ i,vF=V.int i∧0≤i∧i≤10 ^ 9:=by
  simp only [aL,dg,or_false] at mF
  rcases mF with rfl | rfl | rfl | rfl
  ·exact ⟨_,rfl,by decide,by decide⟩
  ·exact ⟨_,rfl,by decide,by decide⟩
  ·exact ⟨_,rfl,by decide,by decide⟩
  ·exact ⟨_,rfl,by omega,by omega⟩
 refine ⟨qE,_,_,_,rfl,rfl,SqL.of hF,eF,_,_,rfl,rfl,.inr ⟨by omega,by omega⟩,_,_,rfl,rfl,?_⟩;have bn0:0≤b * j:=Int.mul_nonneg (by omega) j0;have bn1:b * j≤10 ^ 40 * 10 ^ 9:=Int.mul_le_mul b2 j1 j0 (by decide);obtain ⟨nF,hpF⟩:=MF.2;refine ⟨_,rfl,p,_,10,rfl,hpF,by decide,by decide,fun rH HH aH cH MH=>?_⟩;have MH:=MF.trans MH;obtain ⟨nH,hpH⟩:=MH.2;refine ⟨_,rfl,_,_,rfl,rfl,⟨by decide,by decide,by decide⟩,_,_,rfl,rfl,p,_,_,rfl,hpH,by decide,by decide,fun rI HI aI cI MI=>⟨szZ4,fun qJ hqJ=>?_⟩⟩;have MI:=MH.trans MI;have cI:rI<10 ^ 12+1:=cI;have nqJ:=MI.ne hqJ;have MJ:=MI.new (o:= .lst [.int 0,.int 1,.int rH,.int rI]) hqJ;have hJ:(upd HI qJ (.lst [.int 0,.int 1,.int rH,.int rI])) qJ=some (.lst [.int 0,.int 1,.int rH,.int rI]):=aS;obtain ⟨nJ,hpJ⟩:=MJ.2;refine ⟨_,rfl,_,rfl,_,rfl,_,rfl,_,rfl,_,_,rfl,rfl,_,rfl,_,rfl,p,_,4,rfl,hpJ,by decide,by decide,fun rK HK aK cK MK=>?_⟩;have hK:=MK.at hJ nqJ;have MK:=MJ.trans MK;clear MJ hJ hpJ;obtain ⟨vK,eK,mK⟩:=atI_in (xs:=[V.int 0,V.int 1,V.int rH,V.int rI]) aK cK;obtain ⟨wt,rfl,t0,t1⟩:∃ i,vK=V.int i∧0≤i∧i≤1000000000000:=by
  simp only [aL,dg,or_false] at mK
  rcases mK with rfl | rfl | rfl | rfl
  ·exact ⟨_,rfl,by decide,by decide⟩
  ·exact ⟨_,rfl,by decide,by decide⟩
  ·exact ⟨_,rfl,by omega,by omega⟩
  ·exact ⟨_,rfl,by omega,by omega⟩
 refine ⟨qJ,_,_,_,rfl,rfl,SqL.of hK,eK,szZ5,fun t ht=>?_⟩;have ntp:=MK.ne ht;have htH:H t=none:=by
  cases z:H t with
  | none=>rfl
  | some o=>rw [MK.1 t o ntp z] at ht;cases ht
 refine k t ⟨s,g,l+b * j,l+b * j+wd,wt⟩ _ htH (MK.new ht) aS ⟨s0,s1,g0,g1,sg,by show 0≤l+b * j;omega,by show l+b * j≤l+b * j+wd;omega,by show l+b * j+wd<l+b * j+b;omega,by show l+b * j+wd<10 ^ 60;omega,t0,t1⟩ (by show l+b * j+wd - (l+b * j)=wd;omega) (fun z=>?_) rfl rfl;obtain ⟨r,hr'⟩:=hkl z;show fU b ts _≤l+b * j+wd - (l+b * j);rw [show l+b * j+wd - (l+b * j)=wd by omega];exact kept_wait (r:=r) (j:=j) b1 w0 w1 (by rw [hr']) rfl
end
inductive spTied (vs:List V)(H:Hp)(Q:VK)(_:XK):Prop
 | mk (p tq:ao)(n b j lim so:Int)(ts:List Int)(_:vs=[.ref p,.ref tq,.int b,.int j,.int lim,.int so])(_:H p=some (.lst [.int n]))(_:H tq=some (.lst (ts.map V.int)))(_:tq≠p)(_:1≤b)(_:b≤10 ^ 40)(_:ts.length≤16)(_:1≤j)(_:j<ts.length)(_:1≤lim)(_:lim≤1000)(_:∀ (t:ao) (x:Sn) (H':Hp),H t=none→t≠p→Mv p H H'→H' t=some (.tup [.int x.s,.int x.g,.int x.l,.int x.o,.int x.w])→SnOk b ts.length x→x.o - x.l≤lim - 1→(decide (so≤0)=true→fU b ts x≤x.o - x.l)→((x.s=j∧0≤x.g∧x.g<j)∨(x.g=j∧0≤x.s∧x.s<j))→Q (.ref t) H')
inductive spMore (vs:List V)(H:Hp)(Q:VK)(_:XK):Prop
 | mk (p tq:ao)(n b mo so:Int)(ts:List Int)(_:vs=[.ref p,.ref tq,.int b,.int mo,.int so])(_:H p=some (.lst [.int n]))(_:H tq=some (.lst (ts.map V.int)))(_:tq≠p)(_:1≤b)(_:b≤10 ^ 40)(_:ts.length≤16)(_:2≤ts.length)(_:0≤mo)(_:∀ (t:ao) (x:Sn) (H':Hp),H t=none→t≠p→Mv p H H'→H' t=some (.tup [.int x.s,.int x.g,.int x.l,.int x.o,.int x.w])→SnOk b ts.length x→x.o - x.l≤mo→(decide (so≤0)=true→fU b ts x≤x.o - x.l)→Q (.ref t) H')
theorem Mv.none {p t:ao}{H H1:Hp}(M:Mv p H H1)(ht:H1 t=none):H t=none∧t≠p:=by
 have ntp:=M.ne ht;refine ⟨?_,ntp⟩;cases z:H t with
 | none=>rfl
 | some o=>rw [M.1 t o ntp z] at ht;cases ht
abbrev sTied:cV:=top 42
abbrev sMore:cV:=top 43
section
variable {P:aW} {w:bz} {K:ak} {mg:Str→Option ae} {base:bE}
theorem scTied:cu ["_law_pot_here","_law_times","_law_beat","_law_k","_law_lim","_law_spoils","_law_width","_law_other","_law_ends"] pzw (defScope sTied):=by trivial
theorem ok_tied {f f1 f2:ao}{fd fd1 fd2:bu}(F:Fun K "_law_tied" "_law_tied" sTied f fd)(T:Nm mg)(G1:Fn K mg "_law_take" sTake pzc f1 fd1)(G2:Fn K mg "_law_span" sSpanH pzk f2 fd2):dN P w K mg base CX0 3 f fd pzw spTied:=by
 have F1:dN P w K mg base CX0 1 f1 fd1 pzc nI:=my G1.F;have F2:dN P w K mg base CX0 2 f2 fd2 pzk spSpanH:=ok_spanH G2.F G1;refine F.ok scTied (by contradiction) (fun cdv A outer st0 H vs Q E hr h=>?_);obtain ⟨p,tq,n,b,j,lim,so,ts,rfl,hp,htq,ntp,b1,b2,few,j1,j2,m1,m2,k⟩:=h;have hr1:Room 1 _:=hr.mono (by decide);refine ⟨_,PSl.h (aR ⟨(bw (i:=6) scTied.nd rfl (.inl rfl) (cG (l5 rfl) rfl T.min boot_min (ag (pc1 G1 F1 hr1 (ag (pv 0) (ag (pv 4) az))) (ag (bX gp (pv 2) ba) az))))⟩
  (aR ⟨(bw (i:=7) scTied.nd rfl (.inl rfl) (pc1 G1 F1 hr1 (ag (pv 0) (ag (pv 3) az))))⟩
  (aR ⟨(bw (i:=8) scTied.nd rfl (.inl rfl) (PEs.h (k_ix dX (k_lstF (fF ⟨d8 (ag (pv 7) (ag (pv 3) az))⟩ (fF ⟨d8 (ag (pv 3) (ag (pv 7) az))⟩ a_nil))) ⟨pc1 G1 F1 hr1 (ag (pv 0) (ag ba az))⟩ (fun _ _=>rfl))))⟩
  (dH ⟨(cw (pc1 G2 F2 hr (ag (pv 0) (ag (pv 1) (ag (pv 2) (ag (pv 8) (ag (pv 6) (ag (k7 op_ge (pc1 G1 F1 hr1 (ag (pv 0) (ag ba az))) (pv 5) (cZ _)) az))))))))⟩)))),?_⟩
 refine ⟨_,rfl,_,rfl,p,n,lim,rfl,hp,by omega,by omega,fun r1 H1 a1 c1 M1=>⟨_,rfl,_,_,rfl,rfl,_,_,rfl,?_⟩⟩;obtain ⟨n1,hp1⟩:=M1.2;obtain ⟨wd,hwd,wd0,wd1,wd2⟩:∃ wd,wd=(if b - 1<r1 then b - 1 else r1)∧0≤wd∧wd<b∧wd≤lim - 1:=⟨_,rfl,by split <;> omega,by split <;> omega,by split <;> omega⟩;rw [←hwd];clear hwd;refine ⟨_,rfl,_,rfl,p,n1,j,rfl,hp1,by omega,by omega,fun r2 H2 a2 c2 M2=>?_⟩;have M2:=M1.trans M2;refine ⟨_,rfl,_,rfl,l6,fun t1 H3 S3 h3=>?_⟩;refine ⟨_,rfl,_,rfl,l6,fun t2 H4 S4 h4=>⟨l6,fun q hq=>?_⟩⟩;have M4:=M2.then (S3.trans S4);have h3:=S4 _ _ h3;have nqp:=M4.ne hq;have S5:Same H4 (upd H4 q (.lst [.ref t1,.ref t2])):=Same.put (Same.refl H4) hq;have h5:(upd H4 q (.lst [.ref t1,.ref t2])) q=some (.lst [.ref t1,.ref t2]):=aS;generalize upd H4 q (.lst [.ref t1,.ref t2])=H5 at S5 h5 ⊢;have M5:=M4.then S5;obtain ⟨n5,hp5⟩:=M5.2;refine ⟨_,rfl,p,n5,2,rfl,hp5,by decide,by decide,fun r6 H6 a6 c6 M6=>?_⟩;have h6:=M6.at h5 nqp;have h36:=Mv.tupK hp5 M6 _ _ (S5 _ _ h3);have h46:=Mv.tupK hp5 M6 _ _ (S5 _ _ h4);have M6:=M5.trans M6;have fin:∀ (e:ao) (s g:Int),H6 e=some (.tup [.int s,.int g])→0≤s→s<ts.length→0≤g→g<ts.length→s≠g→((s=j∧0≤g∧g<j)∨(g=j∧0≤s∧s<j))→∀ (r7:Int) (H7:Hp),Mv p H6 H7→0≤r7→∀ E',spSpanH [.ref p,.ref tq,.int b,.ref e,.int wd,.bl (decide (r7 ≥ so))] H7 Q E':=by
  intro e s g he s0 s1 g0 g1 sg sj r7 H7 M7 r70 _;obtain ⟨n6,hp6⟩:=M6.2;have he7:=Mv.tupK hp6 M7 _ _ he;have M7:=M6.trans M7;obtain ⟨n7,hp7⟩:=M7.2;refine ⟨p,tq,e,n7,b,s,g,wd,ts,_,rfl,hp7,M7.at htq ntp,ntp,he7,b1,b2,few,s0,s1,g0,g1,sg,wd0,wd1,fun t x H8 ht M8 h8 ok ew kw es eg=>?_⟩;obtain ⟨y1,y2⟩:=M7.none ht;refine k t x H8 y1 y2 (M7.trans M8) h8 ok (by omega) (fun z=>kw (pA (by have:=pE z;omega))) ?_;rw [es,eg];exact sj
 have c6:r6<2:=c6;have r6e:r6=0∨r6=1:=by omega
 obtain ⟨n6,hp6⟩:=M6.2
 rcases r6e with rfl | rfl
 ·refine ⟨q,_,_,_,rfl,rfl,SqL.of h6,aO (j:=0) rfl,?_⟩
  refine ⟨_,rfl,_,rfl,_,rfl,_,rfl,_,rfl,_,rfl,p,n6,16,rfl,hp6,by decide,by decide,fun r7 H7 a7 c7 M7=>⟨_,rfl,_,_,rfl,rfl,?_⟩⟩;exact fin t1 r2 j h36 a2 (by omega) (by omega) j2 (by omega) (.inr ⟨rfl,a2,c2⟩) r7 H7 M7 a7 E0
 ·refine ⟨q,_,_,_,rfl,rfl,SqL.of h6,aO (j:=1) rfl,?_⟩
  refine ⟨_,rfl,_,rfl,_,rfl,_,rfl,_,rfl,_,rfl,p,n6,16,rfl,hp6,by decide,by decide,fun r7 H7 a7 c7 M7=>⟨_,rfl,_,_,rfl,rfl,?_⟩⟩;exact fin t2 j r2 h46 (by omega) j2 a2 (by omega) (by omega) (.inl ⟨rfl,a2,c2⟩) r7 H7 M7 a7 E0
theorem oQ:cu ["_law_pot_here","_law_times","_law_beat","_law_most","_law_spoils","_law_many","_law_start","_law_goal","_law_width"] pzx (defScope sMore):=by trivial
theorem ok_more {f f1 f2:ao}{fd fd1 fd2:bu}(F:Fun K "_law_more" "_law_more" sMore f fd)(T:Nm mg)(G1:Fn K mg "_law_take" sTake pzc f1 fd1)(G2:Fn K mg "_law_span" sSpanH pzk f2 fd2):dN P w K mg base CX0 3 f fd pzx spMore:=by
 have F1:dN P w K mg base CX0 1 f1 fd1 pzc nI:=my G1.F;have F2:dN P w K mg base CX0 2 f2 fd2 pzk spSpanH:=ok_spanH G2.F G1;refine F.ok oQ (by contradiction) (fun cdv A outer st0 H vs Q E hr h=>?_);obtain ⟨p,tq,n,b,mo,so,ts,rfl,hp,htq,ntp,b1,b2,few,m2,mo0,k⟩:=h;have hr1:Room 1 _:=hr.mono (by decide);refine ⟨_,PSl.h (aR ⟨(bw (i:=5) oQ.nd rfl (.inl rfl) (cG bW rfl T.len bG (ag (pv 1) az)))⟩
  (aR ⟨(bw (i:=6) oQ.nd rfl (.inl rfl) (pc1 G1 F1 hr1 (ag (pv 0) (ag (pv 5) az))))⟩
  (aR ⟨(bw (i:=7) oQ.nd rfl (.inl rfl) (bX i9 (bX dM (bX dM (pv 6) ba) (pc1 G1 F1 hr1 (ag (pv 0) (ag (bX gp (pv 5) ba) az)))) (pv 5)))⟩
  (aR ⟨(bw (i:=8) oQ.nd rfl (.inl rfl) (PEs.h (k_ix dX (k_lstF (fF jS (fF ⟨pc1 G1 F1 hr1 (ag (pv 0) (ag ba az))⟩ (fF ⟨pc1 G1 F1 hr1 (ag (pv 0) (ag (pv 2) az))⟩ (fF (k_op gp ⟨pv 2⟩ jS) (fF ⟨pc1 G1 F1 hr1 (ag (pv 0) (ag ba az))⟩ a_nil)))))) ⟨pc1 G1 F1 hr1 (ag (pv 0) (ag ba az))⟩ (fun _ _=>rfl))))⟩
  (aR ⟨(bw (i:=8) oQ.nd rfl (.inl rfl) (cG (call_min3 rfl) rfl T.min boot_min (ag (pv 8) (ag (pv 3) (ag (bX gp (pv 2) ba) az)))))⟩
  (dH ⟨(cw (pc1 G2 F2 hr (ag (pv 0) (ag (pv 1) (ag (pv 2) (ag (d8 (ag (pv 6) (ag (pv 7) az))) (ag (pv 8) (ag (k7 op_ge (pc1 G1 F1 hr1 (ag (pv 0) (ag ba az))) (pv 4) (cZ _)) az))))))))⟩)))))),?_⟩
 refine ⟨_,rfl,tq,_,rfl,.inl (SqL.of htq),?_⟩;rw [aa];obtain ⟨m,em⟩:∃ m:Int,m=(ts.length:Int):=⟨_,rfl⟩;rw [←em];refine ⟨_,rfl,_,rfl,p,n,m,rfl,hp,by omega,by omega,fun r1 H1 a1 c1 M1=>?_⟩;obtain ⟨n1,hp1⟩:=M1.2;refine ⟨_,rfl,_,_,rfl,rfl,_,rfl,_,rfl,_,_,rfl,rfl,p,n1,_,rfl,hp1,by omega,by omega,fun r2 H2 a2 c2 M2=>?_⟩;have M2:=M1.trans M2;obtain ⟨n2,hp2⟩:=M2.2;refine ⟨_,_,rfl,rfl,_,rfl,_,_,rfl,rfl,(by show (0:Int)<m;omega),?_⟩;obtain ⟨g0,g1,g2⟩:=goal_ok a1 c1 a2 c2;generalize hg:(r1+1+r2) % m=g at g0 g1 g2 ⊢;refine ⟨_,rfl,p,n2,4,rfl,hp2,by decide,by decide,fun r3 H3 a3 c3 M3=>?_⟩;have M3:=M2.trans M3;obtain ⟨n3,hp3⟩:=M3.2;refine ⟨_,rfl,_,rfl,p,n3,b,rfl,hp3,by omega,by omega,fun r4 H4 a4 c4 M4=>?_⟩;have M4:=M3.trans M4;obtain ⟨n4,hp4⟩:=M4.2;refine ⟨_,rfl,_,_,rfl,rfl,_,rfl,p,n4,2,rfl,hp4,by decide,by decide,fun r5 H5 a5 c5 M5=>⟨szZ5,fun q hq=>?_⟩⟩;have M5:=M4.trans M5;have nqp:=M5.ne hq;have S6:Same H5 (upd H5 q (.lst [.int 0,.int r3,.int r4,.int (b - 1),.int r5])):=Same.put (Same.refl H5) hq;have h6:(upd H5 q (.lst [.int 0,.int r3,.int r4,.int (b - 1),.int r5])) q=some (.lst [.int 0,.int r3,.int r4,.int (b - 1),.int r5]):=aS;generalize upd H5 q (.lst [.int 0,.int r3,.int r4,.int (b - 1),.int r5])=H6 at S6 h6 ⊢;have M6:=M5.then S6;obtain ⟨n6,hp6⟩:=M6.2;refine ⟨_,rfl,p,n6,5,rfl,hp6,by decide,by decide,fun r7 H7 a7 c7 M7=>?_⟩;have h7:=M7.at h6 nqp;have M7:=M6.trans M7;obtain ⟨v7,e7,m7⟩:=atI_in (xs:=[V.int 0,V.int r3,V.int r4,V.int (b - 1),V.int r5]) a7 c7;obtain ⟨w0,rfl,w00⟩:∃ i,v7=V.int i∧0≤i:=by
  simp only [aL,dg,or_false] at m7
  rcases m7 with rfl | rfl | rfl | rfl | rfl
  ·exact ⟨_,rfl,by decide⟩
  ·exact ⟨_,rfl,a3⟩
  ·exact ⟨_,rfl,a4⟩
  ·exact ⟨_,rfl,by omega⟩
  ·exact ⟨_,rfl,a5⟩
 refine ⟨q,_,_,_,rfl,rfl,SqL.of h7,e7,?_⟩;refine ⟨_,rfl,_,rfl,_,rfl,_,_,rfl,rfl,_,_,_,rfl,?_⟩;have wl:=min3_le w0 mo (b - 1);have wg:=min3_ge (z:=0) w00 mo0 (by omega:(0:Int)≤b - 1);generalize min3 w0 mo (b - 1)=wd at wl wg ⊢;obtain ⟨n7,hp7⟩:=M7.2;refine ⟨_,rfl,_,rfl,_,rfl,_,rfl,_,rfl,l6,fun e H8 S8 h8=>?_⟩;have M8:=M7.then S8;obtain ⟨n8,hp8⟩:=M8.2;refine ⟨_,rfl,_,rfl,p,n8,16,rfl,hp8,by decide,by decide,fun r9 H9 a9 c9 M9=>⟨_,rfl,_,_,rfl,rfl,?_⟩⟩;have h9:H9 e=some (.tup [.int r1,.int g]):=Mv.tupK hp8 M9 _ _ h8;have M9:=M8.trans M9;obtain ⟨n9,hp9⟩:=M9.2;refine ⟨p,tq,e,n9,b,r1,g,wd,ts,_,rfl,hp9,M9.at htq ntp,ntp,h9,b1,b2,few,a1,by omega,g0,by omega,g2,wg,by omega,fun t x HA ht MA hA ok ew kw es eg=>?_⟩;obtain ⟨y1,y2⟩:=M9.none ht;exact k t x HA y1 y2 (M9.trans MA) hA ok (by omega) (fun z=>kw (pA (by have:=pE z;omega)))
end
inductive spNetH (K:ak)(vs:List V)(H:Hp)(Q:VK)(_:XK):Prop
 | mk (a:ao)(ns:List Int)(mo ex so:Int)(_:vs=[.ref a,.int mo,.int ex,.int so])(_:SqL K H a (ns.map V.int))(_:1≤mo)(_:mo≤8)(_:0≤ex)(_:ex≤20)(_:∀ (q u:ao) (v:V) (b m:Int) (sp:List Sn) (ts:List Int) (H':Hp),Same H H'→H' q=some (.tup [v,.ref u])→IsD H' v (ko b m sp)→NetT b m sp→b≤10 ^ 40→m≤mo→H' u=some (.tup (ts.map V.int))→(ts.length:Int)=m→(∀ x∈ts,0≤x∧x<b)→(so≤0→jd b ts sp=true)→mM m sp (iI m - 1)→(sp.length:Int)≤7+ex→Q (.ref q) H')
theorem lim_at {m:Int}(h0:1≤m)(h1:m≤8):atI [V.int 1,V.int 1,V.int 40,V.int 7,V.int 4,V.int 3,V.int 2,V.int 2,V.int 2] m=some (V.int (iI m)):=by
 obtain ⟨n,rfl⟩:=cx (by omega:0≤m);have:n=1∨n=2∨n=3∨n=4∨n=5∨n=6∨n=7∨n=8:=by omega
 rcases this with rfl | rfl | rfl | rfl | rfl | rfl | rfl | rfl <;> exact aO rfl
abbrev sNetH:cV:=top 44
section
variable {P:aW} {w:bz} {K:ak} {mg:Str→Option ae} {base:bE}
theorem iT:cu ["_law_script","_law_most","_law_extras","_law_spoils","_law_head","_law_many","_law_way","_law_beat","_law_apart","_law_count","_law_pot_here","_law_times","_law_lim","_law_spans","_law_k","_law_j","_law_place"] pzn (defScope sNetH):=by trivial
theorem ok_netH {f f1 f2 f3 f4:ao}{fd fd1 fd2 fd3 fd4:bu}(F:Fun K "_law_net" "_law_net" sNetH f fd)(T:Nm mg)(T2:Nt mg)(G1:Fn K mg "_law_take" sTake pzc f1 fd1)(G2:Fn K mg "_law_pot" sPotT pzd f2 fd2)(F2:dN P w K mg base CX0 2 f2 fd2 pzd (spPotT K))
  (G3:Fn K mg "_law_tied" sTied pzw f3 fd3) (F3:dN P w K mg base CX0 3 f3 fd3 pzw spTied)
  (G4:Fn K mg "_law_more" sMore pzx f4 fd4) (F4:dN P w K mg base CX0 3 f4 fd4 pzx spMore):dN P w K mg base CX0 4 f fd pzn (spNetH K):=by
 have F1:dN P w K mg base CX0 1 f1 fd1 pzc nI:=my G1.F;refine F.ok iT (by contradiction) (fun cdv A outer st0 H vs Q E hr h=>?_);obtain ⟨a,ns,mo,ex,so,rfl,ha,mo1,mo2,ex1,ex2,k⟩:=h;have hr1:Room 1 _:=hr.mono (by decide);have hr2:Room 2 _:=hr.mono (by decide);refine ⟨_,PSl.h (aR ⟨(bw (i:=4) iT.nd rfl (.inl rfl) (pc1 G2 F2 hr2 (ag (pv 0) (ag ba az))))⟩
  (aR ⟨(bw (i:=5) iT.nd rfl (.inl rfl) (bX dM ba (pc1 G1 F1 hr1 (ag (pv 4) (ag (pv 1) az)))))⟩
  (aR ⟨(bw (i:=6) iT.nd rfl (.inl rfl) (pc1 G1 F1 hr1 (ag (pv 4) (ag ba az))))⟩
  (aR ⟨(bw (i:=7) iT.nd rfl (.inr rfl) (PEs.h (k_ix dX (k_lst (fF (k_op dM jS ⟨pc1 G1 F1 hr1 (ag (pv 4) (ag ba az))⟩) (fF (k_op dM jS ⟨pc1 G1 F1 hr1 (ag (pv 4) (ag ba az))⟩) (fF jS (fF jS a_nil))))) ⟨pv 6⟩ (fun _ _=>rfl))))⟩
  (aR ⟨(k4 (gn (cA lQ (pv 6) ba (cZ _)) (cO (bw (i:=7) iT.nd rfl (.inr rfl) (bX dM ba (pc1 G1 F1 hr1 (ag (pv 4) (ag (bX op_pow ba ba) az)))))) dO))⟩
  (aR ⟨(bw (i:=8) iT.nd rfl (.inl rfl) (pc1 G1 F1 hr1 (ag (pv 4) (ag ba az))))⟩
  (aR ⟨(bw (i:=9) iT.nd rfl (.inl rfl) (pc1 G1 F1 hr1 (ag (pv 4) (ag (bX dM (pv 2) ba) az))))⟩
  (aR ⟨(bw (i:=10) iT.nd rfl (.inr rfl) (pc1 G2 F2 hr2 (ag (pv 0) (ag ba az))))⟩
  (aR ⟨(ps_setC (iy:=11) (fr:=["_law_pot_here","_law_beat"]) (js:=[10,7]) iT.nd rfl (.inl rfl) rfl (iE rfl T2.range (ag (pv 5) az)) (by trivial) rfl (by trivial) rfl (by exists sNetH) (by trivial) rfl (by trivial) (fun _ _ _ _ _=>⟨(pc1 G1 F1 hr1 (ag (pv 1) (ag (pv 2) az))),i0⟩))⟩
  (aR ⟨(bw (i:=12) iT.nd rfl (.inl rfl) (PEs.h (k_ix dX (k_lst (fF jS (fF jS (fF jS (fF jS (fF jS (fF jS (fF jS (fF jS (fF jS a_nil)))))))))) ⟨pv 5⟩ (fun _ _=>rfl))))⟩
  (aR ⟨(k4 (bw (i:=13) iT.nd rfl (.inl rfl) (iq az)))⟩
  (aR ⟨(iC bL rfl (pi_range2 rfl T2.range (ag ba (ag (pv 5) az))) (df (i:=14) iT.nd rfl (.inl rfl)) (cO (gn (PW.pt (kU (cA nY (pv 8) ba (cZ _)) (kB (cA lQ (bX i9 (pv 14) ba) ba (cZ _))))) (cO (gL (kr aZ bZ bY gq (pv 13) (ag (pc1 G3 F3 hr (ag (pc1 G2 F2 hr2 (ag (pv 0) (ag (bX dM ba (pv 14)) az))) (ag (pv 11) (ag (pv 7) (ag (pv 14) (ag (pv 12) (ag (pv 3) az))))))) az)))) dO)))⟩
  (aR ⟨(k4 (gn (cA nY (pv 8) ba (cZ _)) (cO (bw (i:=12) iT.nd rfl (.inl rfl) (pv 7))) dO))⟩
  (aR ⟨(k4 (gn (cA op_gt (pv 5) ba (cZ _)) (cO (iC bL rfl (iE rfl T2.range (ag (pv 9) az)) (df (i:=15) iT.nd rfl (.inl rfl)) (PSl.h (aR ⟨(bw (i:=10) iT.nd rfl (.inr rfl) (pc1 G2 F2 hr2 (ag (pv 0) (ag (bX dM ba (pv 15)) az))))⟩
  (aR ⟨(bw (i:=16) iT.nd rfl (.inl rfl) (pc1 G1 F1 hr1 (ag (pv 10) (ag (bX dM (cG bW rfl T.len bG (ag (pv 13) az)) ba) az))))⟩
  (dH ⟨(gL (kr aZ ij jX oh (pv 13) (ag (pv 16) (ag (pc1 G4 F4 hr (ag (pv 10) (ag (pv 11) (ag (pv 7) (ag (bX gp (pv 12) ba) (ag (pv 3) az)))))) az))))⟩)))))) dO))⟩
  (dH ⟨(cw (d8 (ag (d8 (ag (pv 7) (ag (pv 5) (ag (fA jx rfl T.ttup jC (ag (pv 13) az)) az)))) (ag (fA jx rfl T.ttup jC (ag (pv 11) az)) az))))⟩))))))))))))))),?_⟩
 refine ⟨_,rfl,a,ns,1,rfl,ha,by decide,by decide,fun n0 ph hph=>?_⟩;have S0:Same H (upd H ph (.lst [.int n0])):=Same.put (Same.refl H) hph;have h0:(upd H ph (.lst [.int n0])) ph=some (.lst [.int n0]):=aS;generalize upd H ph (.lst [.int n0])=H0 at S0 h0 ⊢;refine ⟨_,rfl,_,rfl,ph,n0,mo,rfl,h0,by omega,by omega,fun r1 H1 a1 c1 M1=>⟨_,_,rfl,rfl,?_⟩⟩;obtain ⟨n1,hp1⟩:=M1.2;refine ⟨_,rfl,ph,n1,4,rfl,hp1,by decide,by decide,fun wy H2 w0 w1 M2=>?_⟩;have M2:=M1.trans M2;obtain ⟨n2,hp2⟩:=M2.2;refine ⟨_,rfl,ph,n2,12,rfl,hp2,by decide,by decide,fun r3 H3 a3 c3 M3=>⟨_,_,rfl,rfl,?_⟩⟩;have M3:=M2.trans M3;obtain ⟨n3,hp3⟩:=M3.2;refine ⟨_,rfl,ph,n3,59,rfl,hp3,by decide,by decide,fun r4 H4 a4 c4 M4=>⟨_,_,rfl,rfl,szZ4,fun q5 H5 S5 h5=>?_⟩⟩;have M5:=(M3.trans M4).then S5;obtain ⟨v5,e5,m5⟩:=atI_in (xs:=[V.int (1+r3),V.int (2+r4),V.int 60,V.int 60]) w0 w1;obtain ⟨b0,rfl,b01,b02⟩:∃ i,v5=V.int i∧1≤i∧i≤10 ^ 40:=by
  simp only [aL,dg,or_false] at m5
  rcases m5 with rfl | rfl | rfl | rfl
  ·exact ⟨_,rfl,by omega,by omega⟩
  ·exact ⟨_,rfl,by omega,by omega⟩
  ·exact ⟨_,rfl,by decide,by decide⟩
  ·exact ⟨_,rfl,by decide,by decide⟩
 refine ⟨_,rfl,q5,_,_,_,rfl,rfl,SqL.of h5,e5,?_⟩;refine ⟨fun σ' H'=>Mv ph H0 H'∧∃ b,1≤b∧b≤10 ^ 40∧σ'=[some (.ref a),some (.int mo),some (.int ex),some (.int so),some (.ref ph),some (.int (1+r1)),some (.int wy),some (.int b),none,none,none,none,none,none,none,none,none],?_,?_⟩
 rotate_left
 ·refine ⟨_,rfl,rfl,_,rfl,?_⟩
  refine oX (fun _=>?_) (fun _=>⟨M5,b0,b01,b02,rfl⟩);obtain ⟨n5,hp5⟩:=M5.2;refine ⟨_,rfl,_,_,rfl,rfl,⟨by decide,by decide,by decide⟩,ph,n5,_,rfl,hp5,by decide,by decide,fun r6 H6 a6 c6 M6=>⟨_,_,rfl,rfl,?_⟩⟩;have c6:r6<10 ^ 40:=c6;exact ⟨M5.trans M6,1+r6,by omega,by omega,rfl⟩
 clear M5 M4 M3 M2 M1 hp1 hp2 hp3 S5 h5 e5 m5 b01 b02 h0 a3 c3 a4 c4;rintro σ' H6 ⟨M6,b,b1,b2,rfl⟩;obtain ⟨m,em⟩:∃ m,m=1+r1:=⟨_,rfl⟩;have m1:1≤m:=by omega
 have m2:m≤mo:=by omega
 rw [←em];clear em;obtain ⟨n6,hp6⟩:=M6.2;refine ⟨_,rfl,ph,n6,8,rfl,hp6,by decide,by decide,fun ap H7 a7 c7 M7=>?_⟩;have M7:=M6.trans M7;obtain ⟨n7,hp7⟩:=M7.2;refine ⟨_,rfl,_,rfl,_,_,rfl,rfl,ph,n7,_,rfl,hp7,by omega,by omega,fun cn H8 a8 c8 M8=>?_⟩;have M8:=M7.trans M8;have S8:Same H H8:=Same.mv S0 hph M8;clear M6 M7 hp6 hp7;refine ⟨_,rfl,a,ns,2,rfl,S8.seq ha,by decide,by decide,fun n9 pp hpp=>?_⟩;have hppH:=S8.free hpp;have S9:Same H (upd H8 pp (.lst [.int n9])):=Same.put S8 hpp;have h9:(upd H8 pp (.lst [.int n9])) pp=some (.lst [.int n9]):=aS;generalize upd H8 pp (.lst [.int n9])=H9 at S9 h9 ⊢;refine ⟨_,rfl,m,rfl,by omega,by omega,?_⟩;refine kT (n:=m.toNat) (fun i zs HA=>Mv pp H9 HA∧∃ ts:List Int,zs=ts.map V.int∧ts.length=i∧∀ x∈ts,0≤x∧x<b) ⟨Mv.of (Same.refl H9) h9,[],rfl,rfl,fun _ h=>pj h (by simp)⟩ (fun i zs HA _ ⟨_,ts,e,hl,_⟩=>by rw [e,aa,hl];exact aC _) (fb (by omega)) (fun i zs HA hi ⟨MA,ts,eA,lA,allA⟩=>?_) (fun zs HA ⟨MA,ts,eA,lA,allA⟩ tq htq=>?_)
 ·refine iB ?_
  obtain ⟨nA,hpA⟩:=MA.2;refine ⟨_,rfl,_,rfl,pp,nA,b,rfl,hpA,by omega,by omega,fun r HB rb0 rb1 MB=>⟨MA.trans MB,ts++[r],by rw [eA,aA];rfl,by rw [aq,lA];rfl,fun x hx=>?_⟩⟩
  rcases aM.mp hx with hx | hx
  ·exact allA x hx
  ·rw [aw.mp hx];exact ⟨rb0,rb1⟩
 subst eA;have SA:Same H HA:=Same.mv S9 hppH MA;have htqH:=SA.free htq;have SB:Same H (upd HA tq (.lst (ts.map V.int))):=Same.put SA htq;have hB:(upd HA tq (.lst (ts.map V.int))) tq=some (.lst (ts.map V.int)):=aS;generalize upd HA tq (.lst (ts.map V.int))=HB at SB hB ⊢;have lt:(ts.length:Int)=m:=by omega
 clear SA MA S9 h9 htq;obtain ⟨l1,l2⟩:=limOf_pos m1 (by omega);refine ⟨(by show 9≤bc;decide),fun qC HC SC hC=>⟨_,rfl,qC,_,_,_,rfl,rfl,SqL.of hC,lim_at m1 (by omega),?_⟩⟩;have SC':=SB.trans SC;have htC:=SC _ _ hB;refine ⟨fun σ' H'=>Same H H'∧H' tq=some (.lst (ts.map V.int))∧∃ Ls,Ls≠tq∧H Ls=none∧H' Ls=some (.lst [])∧σ'=[some (.ref a),some (.int mo),some (.int ex),some (.int so),some (.ref ph),some (.int m),some (.int wy),some (.int b),some (.int ap),some (.int cn),some (.ref pp),some (.ref tq),some (.int (iI m)),some (.ref Ls),none,none,none],?_,?_⟩
 rotate_left
 ·refine ⟨bI _,fun Ls hLs=>?_⟩
  exact ⟨SC'.put hLs,by rw [bf (aY htC hLs)];exact htC,Ls,cp (aY htC hLs),SC'.free hLs,aS,rfl⟩
 clear SC' htC SC hC hB SB;rintro σ' HD ⟨SD,htD,Ls,nLt,hLsH,hLsD,rfl⟩;obtain ⟨kp,ekp⟩:∃ kp:Bool,kp=decide (so≤0):=⟨_,rfl⟩;obtain ⟨tie,etie⟩:∃ tie:Bool,tie= !decide (V.int ap=V.int 3):=⟨_,rfl⟩;refine ⟨_,rfl,1,m,rfl,⟨by decide,by decide,by omega,by omega⟩,?_⟩;refine jW (lo:=1) (n:=(m - 1).toNat) (fun i σ H'=>Same H H'∧H' tq=some (.lst (ts.map V.int))∧∃ (vk:Option V) (zs:List V) (sp:List Sn),σ=[some (.ref a),some (.int mo),some (.int ex),some (.int so),some (.ref ph),some (.int m),some (.int wy),some (.int b),some (.int ap),some (.int cn),some (.ref pp),some (.ref tq),some (.int (iI m)),some (.ref Ls),vk,none,none]∧H' Ls=some (.lst zs)∧IsDs H' zs (cY Sn.row sp)∧sp.length≤i∧HidN b m ts (iI m - 1) kp tie (1+i) sp) ⟨SD,htD,none,[],[],rfl,hLsD,.nil,aC _,HidN.nil⟩ ?_ ?_
 ·rintro i σ HE hi ⟨SE,htE,vk,zs,sp,rfl,hLsE,dE,lE,hidE⟩
  have lz:zs.length=sp.length:=by rw [dE.length];unfold cY;rw [aa]
  have add:∀ (D:L2.Ends) (E':XK),(∀ σ' H',(Same H H'∧H' tq=some (.lst (ts.map V.int))∧∃ (vk:Option V) (zs:List V) (sp:List Sn),σ'=[some (.ref a),some (.int mo),some (.int ex),some (.int so),some (.ref ph),some (.int m),some (.int wy),some (.int b),some (.int ap),some (.int cn),some (.ref pp),some (.ref tq),some (.int (iI m)),some (.ref Ls),vk,none,none]∧H' Ls=some (.lst zs)∧IsDs H' zs (cY Sn.row sp)∧sp.length≤i+1∧HidN b m ts (iI m - 1) kp tie (1+(i+1:Nat)) sp)→D.nx σ' H')→∀ (n p:_),HE p=none→spTied [.ref p,.ref tq,.int b,.int (1+(i:Int)),.int (iI m),.int so] (upd HE p (.lst [.int n])) (fun y H'=>rAppend (.ref Ls) [y] H' fun _ H''=>D.nx [some (.ref a),some (.int mo),some (.int ex),some (.int so),some (.ref ph),some (.int m),some (.int wy),some (.int b),some (.int ap),some (.int cn),some (.ref pp),some (.ref tq),some (.int (iI m)),some (.ref Ls),some (.int (1+(i:Int))),none,none] H'') E':=by
   intro D E' hD n p hp;have npt:=aY htE hp;have npL:=aY hLsE hp;refine ⟨p,tq,n,b,1+(i:Int),iI m,so,ts,rfl,aS,by rw [bf npt];exact htE,npt,b1,b2,by omega,by omega,by omega,l1,by omega,fun t x HF htF ntp MF hF okF wF kF eF=>?_⟩;have K1:TupK HE (upd HE p (.lst [.int n])):=fun q xs e=>by rw [bf (aY e hp)];exact e
   have K2:TupK HE HF:=K1.trans (Mv.tupK (n:=n) aS MF);have SF:Same H HF:=Same.mv (SE.put hp) (SE.free hp) MF;have htF':HF tq=some (.lst (ts.map V.int)):=MF.at (by rw [bf npt];exact htE) npt;have hLF:HF Ls=some (.lst zs):=MF.at (by rw [bf npL];exact hLsE) npL;refine ⟨Ls,zs,_,rfl,rfl,hLF,(aU (by omega:zs.length<1000) (by decide:1000≤bc)),?_⟩;have KC:TupK HF (upd HF Ls (.lst (zs++[.ref t]))):=eM hLF;refine hD _ _ ⟨fun q o e=>?_,by rw [bf (cp nLt)];exact htF',_,zs++[.ref t],sp++[x],rfl,aS,?_,by rw [aq];show sp.length+1≤i+1;omega,?_⟩
   ·rw [bf (fun z=>by rw [z,hLsH] at e;cases e)]
    exact SF q o e
   ·unfold cY
    rw [aA];exact (bT (K2.trans KC) dE).append (.cons (.tup (KC _ _ hF) (IsDs.ints x.row)) .nil)
   ·have:=hidE.more (x:=x) (by omega) (by rw [←lt];exact okF) (fun z=>kF (by rw [←ekp];exact z)) wF eF
    rw [show (1:Int)+((i+1:Nat):Int)=1+(i:Int)+1 by omega];exact this
  refine ⟨_,rfl,rfl,_,rfl,?_⟩;refine oX (fun h1=>?_) (fun h1=>?_)
  ·refine ⟨_,rfl,.inl ⟨rfl,_,SqL.of hLsE⟩,_,rfl,_,rfl,_,_,rfl,rfl,a,ns,_,rfl,SE.seq ha,by omega,by omega,fun n p hp=>⟨_,rfl,_,rfl,_,rfl,_,rfl,_,rfl,?_⟩⟩
   exact add _ E0 (fun _ _ h=>h) n p hp
  ·refine ⟨_,rfl,_,_,rfl,rfl,(by show (0:Int)<2;decide),rfl,_,rfl,?_⟩
   refine oX (fun h2=>?_) (fun h2=>?_)
   ·refine ⟨_,rfl,.inl ⟨rfl,_,SqL.of hLsE⟩,_,rfl,_,rfl,_,_,rfl,rfl,a,ns,_,rfl,SE.seq ha,by omega,by omega,fun n p hp=>⟨_,rfl,_,rfl,_,rfl,_,rfl,_,rfl,?_⟩⟩
    exact add _ E0 (fun _ _ h=>h) n p hp
   ·have tf:tie=false:=by rw [etie];exact gU.mpr h1
    refine ⟨SE,htE,_,zs,sp,rfl,hLsE,dE,by omega,?_⟩;rw [tf] at hidE ⊢;exact hidE.skip _
 rintro σ HE ⟨SE,htE,vk,zs,sp,rfl,hLsE,dE,lE,hidE⟩;rw [show (1:Int)+((m - 1).toNat:Nat)=m by omega] at hidE;have lE7:(sp.length:Int)≤7:=by omega
 clear lE;refine ⟨fun σ' H'=>H'=HE∧∃ lim2,1≤lim2∧(tie=false→lim2=iI m)∧σ'=[some (.ref a),some (.int mo),some (.int ex),some (.int so),some (.ref ph),some (.int m),some (.int wy),some (.int b),some (.int ap),some (.int cn),some (.ref pp),some (.ref tq),some (.int lim2),some (.ref Ls),vk,none,none],?_,?_⟩
 rotate_left
 ·refine ⟨_,rfl,rfl,_,rfl,?_⟩
  refine oX (fun h1=>?_) (fun h1=>⟨rfl,iI m,l1,fun _=>rfl,rfl⟩);exact ⟨_,rfl,rfl,b,b1,(fun z=>by rw [etie,h1] at z;cases z),rfl⟩
 rintro σ' _ ⟨rfl,lim2,lim21,elim,rfl⟩;refine ⟨fun σ' H'=>Same H H'∧H' tq=some (.lst (ts.map V.int))∧∃ (v10 vj vp:Option V) (zs:List V) (sp:List Sn),σ'=[some (.ref a),some (.int mo),some (.int ex),some (.int so),some (.ref ph),some (.int m),some (.int wy),some (.int b),some (.int ap),some (.int cn),v10,some (.ref tq),some (.int lim2),some (.ref Ls),vk,vj,vp]∧H' Ls=some (.lst zs)∧IsDs H' zs (cY Sn.row sp)∧(sp.length:Int)≤7+ex∧HidN b m ts (iI m - 1) kp tie m sp,?_,?_⟩
 rotate_left
 ·refine ⟨_,rfl,_,_,rfl,rfl,_,rfl,?_⟩
  refine oX (fun hm=>?_) (fun _=>⟨SE,htE,_,_,_,zs,sp,rfl,hLsE,dE,by omega,hidE⟩);have hm:m > 1:=pE hm;refine ⟨_,rfl,cn,rfl,by omega,by omega,?_⟩;refine jW (n:=cn.toNat) (fun i σ H'=>Same H H'∧H' tq=some (.lst (ts.map V.int))∧∃ (v10 vj vp:Option V) (zs:List V) (sp:List Sn),σ=[some (.ref a),some (.int mo),some (.int ex),some (.int so),some (.ref ph),some (.int m),some (.int wy),some (.int b),some (.int ap),some (.int cn),v10,some (.ref tq),some (.int lim2),some (.ref Ls),vk,vj,vp]∧H' Ls=some (.lst zs)∧IsDs H' zs (cY Sn.row sp)∧(sp.length:Int)≤7+i∧HidN b m ts (iI m - 1) kp tie m sp) ⟨SE,htE,_,_,_,zs,sp,rfl,hLsE,dE,by omega,hidE⟩ ?_ ?_
  ·clear hidE dE hLsE htE SE lE7 zs sp
   rintro i σ HE hi ⟨SE,htE,v10,vj,vp,zs,sp,rfl,hLsE,dE,lE,hidE⟩;have lz:zs.length=sp.length:=by rw [dE.length];unfold cY;rw [aa]
   refine ⟨_,rfl,_,rfl,_,_,rfl,rfl,a,ns,_,rfl,SE.seq ha,by omega,by omega,fun n p hp=>?_⟩;have npt:=aY htE hp;have npL:=aY hLsE hp;have S1:Same HE (upd HE p (.lst [.int n])):=Same.put (Same.refl HE) hp;have hp1:(upd HE p (.lst [.int n])) p=some (.lst [.int n]):=aS;generalize upd HE p (.lst [.int n])=HF at S1 hp1 ⊢;refine ⟨_,rfl,_,rfl,Ls,_,rfl,.inl (SqL.of (S1 _ _ hLsE)),_,_,rfl,rfl,p,n,_,rfl,hp1,by omega,by omega,fun pl HG pl0 pl1 MG=>?_⟩;have MG:Mv p HF HG:=MG;have SG:Same H HG:=Same.mv (SE.trans S1) (SE.free hp) MG;have htG:=MG.at (S1 _ _ htE) npt;have hLG:=MG.at (S1 _ _ hLsE) npL;have KG:TupK HE HG:=fun q xs e=>Mv.tupK hp1 MG _ _ (S1 _ _ e)
   obtain ⟨nG,hpG⟩:=MG.2;refine ⟨_,rfl,.inl ⟨rfl,_,SqL.of hLG⟩,_,rfl,_,rfl,_,rfl,_,rfl,_,rfl,_,_,rfl,rfl,_,rfl,p,tq,nG,b,_,so,ts,rfl,hpG,htG,npt,b1,b2,by omega,by omega,(by show 0≤lim2 - 1;omega),fun t x HH htH ntp MH hH okH wH kH=>?_⟩;have SH:Same H HH:=Same.mv SG (SE.free hp) MH;have htH':=MH.at htG npt;have hLH:=MH.at hLG npL;have KH:TupK HE HH:=KG.trans (Mv.tupK hpG MH);refine ⟨Ls,zs,pl,.ref t,rfl,rfl,hLH,by omega,pl0,by omega,?_⟩;have KC:TupK HH (upd HH Ls (.lst (zs.take pl.toNat++ .ref t::zs.drop pl.toNat))):=eM hLH;refine ⟨fun q o e=>?_,by rw [bf (cp nLt)];exact htH',_,_,_,zs.take pl.toNat++ .ref t::zs.drop pl.toNat,sp.take pl.toNat++x::sp.drop pl.toNat,rfl,aS,?_,?_,?_⟩
   ·rw [bf (fun z=>by rw [z,hLsH] at e;cases e)]
    exact SH q o e
   ·have r:=bT (KH.trans KC) dE
    unfold cY at r ⊢;rw [aA,bV,jh,ji];exact (IsDs.takeN _ r).append (.cons (.tup (KC _ _ hH) (IsDs.ints x.row)) (IsDs.dropN _ r))
   ·rw [aq,aV,bH,dm]
    omega
   ·exact hidE.put (by rw [←lt];exact okH) (fun z=>kH (by rw [←ekp];exact z)) (fun z=>by have:=elim z;omega) _
  ·rintro σ HF ⟨SF,htF,v10,vj,vp,zs,sp,rfl,hLF,dF,lF,hidF⟩
   exact ⟨SF,htF,v10,vj,vp,zs,sp,rfl,hLF,dF,by omega,hidF⟩
 clear hidE dE hLsE htE SE lE7 zs sp;rintro σ' HE ⟨SE,htE,v10,vj,vp,zs,sp,rfl,hLsE,dE,lE,hidE⟩;refine ⟨_,rfl,_,rfl,_,rfl,Ls,_,rfl,SqL.of hLsE,fun qB HB SB hB=>⟨(by show 3≤bc;decide),fun tC HC SC hC=>⟨_,rfl,tq,_,rfl,SqL.of (SC _ _ (SB _ _ htE)),fun qD HD SD hD=>⟨l6,fun tF HF SF hF=>?_⟩⟩⟩⟩;have SBF:=SB.trans (SC.trans (SD.trans SF));refine k tF qD (.ref tC) b m sp ts HF (SE.trans SBF) hF (.tup (SF _ _ (SD _ _ hC)) (.cons (.int b) (.cons (.int _) (.cons (.tup (SF _ _ (SD _ _ (SC _ _ hB))) (dE.same SBF)) .nil)))) ⟨b1,by omega,m1,by omega,by omega,hidE.all⟩ b2 m2 (SF _ _ hD) lt allA (fun z=>hidE.fits (by rw [ekp];exact pA z)) hidE.narrow lE
end
def jR (b:Int)(t:List Int)(x:Sn):Prop:=fU b t x≤x.o - x.l
structure RingS (b m:Int)(ts hops:List Int)(k:Nat)(zs:List Sn)(room ix:Int):Prop where
 all:∀ x∈zs,SnOk b m x
 fit:∀ x∈zs,jR b ts x
 nar:∀ x∈zs,x.o - x.l≤1
 r0:0≤room
 rb:room≤b - 2
 len:zs.length=k
 way:∀ t:List Int,(∀ x∈zs,jR b t x)→∃ X j:Int,0≤X∧X≤b - 2 - room∧tm t (tm hops k) - tm t (tm hops 0)=tm ts (tm hops k) - tm ts (tm hops 0) - ix+X+b * j
section
variable {b m room ix ov wd w one oth:Int} {ts hops:List Int} {k:Nat} {zs:List Sn}
theorem RingS.nil (hb:2≤b):RingS b m ts hops 0 [] (b - 2) 0 :=
 ⟨fun _ h=>pj h (by simp),fun _ h=>pj h (by simp),fun _ h=>pj h (by simp),by omega,by omega,rfl,fun t _=>⟨0,0,by omega,by omega,by show tm t (tm hops 0) - tm t (tm hops 0)=tm ts (tm hops 0) - tm ts (tm hops 0) - 0+0+b * 0;omega⟩⟩
theorem lW {x:Sn}{t:List Int}(hb:0<b)(el:x.l=(tm ts x.g - tm ts x.s - ov) % b)(h:jR b t x):∃ y j:Int,0≤y∧y≤x.o - x.l∧tm t x.g - tm t x.s=tm ts x.g - tm ts x.s - ov+y+b * j:=by
 unfold jR at h;refine ⟨fU b t x,(tm t x.g - tm t x.s - x.l) / b - (tm ts x.g - tm ts x.s - ov) / b,cP _ (by omega),h,?_⟩;have e1:=Int.emod_add_mul_ediv (tm t x.g - tm t x.s - x.l) b;have e2:=Int.emod_add_mul_ediv (tm ts x.g - tm ts x.s - ov) b;rw [←el] at e2;unfold fU;rw [Int.mul_sub];omega
theorem own_kept {x:Sn}(hb:0<b)(o0:0≤ov)(o1:ov≤x.o - x.l)(o2:ov<b)(el:x.l=(tm ts x.g - tm ts x.s - ov) % b):jR b ts x:=by
 have e2:=Int.emod_add_mul_ediv (tm ts x.g - tm ts x.s - ov) b;rw [←el] at e2;unfold jR fU;rw [show tm ts x.g - tm ts x.s - x.l=ov+b * ((tm ts x.g - tm ts x.s - ov) / b) by omega,jZ,iW o0 o2];exact o1
theorem ke {zs:List Sn}{x y:Sn}(h:y∈zs++[x]):y∈zs∨y=x:=by
 rcases aM.mp h with h | h
 ·exact .inl h
 ·exact .inr (aw.mp h)
theorem RingS.on {x:Sn}(R:RingS b m ts hops k zs room ix)(hb:2≤b)(ok:SnOk b m x)(es:x.s=tm hops k)(eg:x.g=tm hops (k+1:Nat))(el:x.l=(tm ts x.g - tm ts x.s - ov) % b)(eo:x.o - x.l=wd)(w1:wd≤1)(wr:wd≤room)(o0:0≤ov)(o1:ov≤wd):RingS b m ts hops (k+1) (zs++[x]) (room - wd) (ix+ov):=by
 have lo:=ok.lo;have ob:=ok.ob;refine ⟨fun y hy=>?_,fun y hy=>?_,fun y hy=>?_,by omega,by have:=R.rb;omega,by rw [aq,R.len];rfl,fun t ht=>?_⟩
 ·rcases ke hy with hy | rfl
  ·exact R.all y hy
  ·exact ok
 ·rcases ke hy with hy | rfl
  ·exact R.fit y hy
  ·exact own_kept (by omega) o0 (by omega) (by omega) el
 ·rcases ke hy with hy | rfl
  ·exact R.nar y hy
  ·omega
 ·obtain ⟨X,j,X0,X1,e⟩:=R.way t fun y hy=>ht y (aE _ hy)
  obtain ⟨y,i,y0,y1,e'⟩:=lW (by omega) el (ht x (by simp));rw [es,eg] at e';refine ⟨X+y,j+i,by omega,by omega,?_⟩;rw [jz];omega
theorem RingS.back {x:Sn}(R:RingS b m ts hops k zs room ix)(hb:2≤b)(ok:SnOk b m x)(eg:x.g=tm hops k)(es:x.s=tm hops (k+1:Nat))(el:x.l=(tm ts x.g - tm ts x.s - ov) % b)(eo:x.o - x.l=wd)(w1:wd≤1)(wr:wd≤room)(o0:0≤ov)(o1:ov≤wd):RingS b m ts hops (k+1) (zs++[x]) (room - wd) (ix+wd - ov):=by
 have lo:=ok.lo;have ob:=ok.ob;refine ⟨fun y hy=>?_,fun y hy=>?_,fun y hy=>?_,by omega,by have:=R.rb;omega,by rw [aq,R.len];rfl,fun t ht=>?_⟩
 ·rcases ke hy with hy | rfl
  ·exact R.all y hy
  ·exact ok
 ·rcases ke hy with hy | rfl
  ·exact R.fit y hy
  ·exact own_kept (by omega) o0 (by omega) (by omega) el
 ·rcases ke hy with hy | rfl
  ·exact R.nar y hy
  ·omega
 ·obtain ⟨X,j,X0,X1,e⟩:=R.way t fun y hy=>ht y (aE _ hy)
  obtain ⟨y,i,y0,y1,e'⟩:=lW (by omega) el (ht x (by simp));rw [es,eg] at e';refine ⟨X+(wd - y),j - i,by omega,by omega,?_⟩;rw [Int.mul_sub];omega
theorem no_mult {b n j:Int}(h0:0<n)(h1:n<b)(e:n=b * j):False:=by
 rw [e] at h0 h1;have:0<j:=by
  rcases Int.lt_or_le 0 j with h | h
  ·exact h
  ·have:=gz h (by omega:(0:Int)≤b)
   omega
 have:=gz (by omega:(1:Int)≤j) (by omega:(0:Int)≤b);omega
theorem RingS.dead_on {x:Sn}{t:List Int}{r:Int}(R:RingS b m ts hops k zs room ix)(hb:2≤b)(es:x.s=tm hops k)(eg:x.g=tm hops 0)(el:x.l=(tm ts x.g - tm ts x.s+ix+1+r) % b)(eo:x.o - x.l=wd)(r0:0≤r)(r1:r≤room - wd)(hz:∀ y∈zs,jR b t y)(hx:jR b t x):False:=by
 obtain ⟨X,j,X0,X1,e⟩:=R.way t hz;obtain ⟨y,i,y0,y1,e'⟩:=lW (ts:=ts) (ov:= -(ix+1+r)) (by omega) (by rw [el];congr 1;omega) hx;rw [es,eg] at e';refine no_mult (b:=b) (n:=X+y+1+r) (j:= -(j+i)) (by omega) (by omega) ?_;rw [Int.mul_neg,jz];omega
theorem RingS.dead_back {x:Sn}{t:List Int}{r:Int}(R:RingS b m ts hops k zs room ix)(hb:2≤b)(eg:x.g=tm hops k)(es:x.s=tm hops 0)(el:x.l=(0 - (tm ts x.s - tm ts x.g+ix+1+r) - wd) % b)(eo:x.o - x.l=wd)(r0:0≤r)(r1:r≤room - wd)(hz:∀ y∈zs,jR b t y)(hx:jR b t x):False:=by
 obtain ⟨X,j,X0,X1,e⟩:=R.way t hz;obtain ⟨y,i,y0,y1,e'⟩:=lW (ts:=ts) (ov:=ix+1+r+wd) (by omega) (by rw [el];congr 1;omega) hx;rw [es,eg] at e';refine no_mult (b:=b) (n:=X+(wd - y)+1+r) (j:=i - j) (by omega) (by omega) ?_;rw [Int.mul_sub];omega
end
theorem tm_get {hs:List Int}{k:Nat}(hk:k<hs.length):hs[k]? =some (tm hs k):=by
 unfold tm;rw [dA,ai,gE hk];rfl
theorem tm_inj {hs:List Int}(nd:hs.Nodup){i j:Nat}(hi:i<hs.length)(hj:j<hs.length)(e:tm hs i=tm hs j):i=j :=
 (List.getElem?_inj hi nd).mp (by rw [tm_get hi,tm_get hj,e])
theorem pop_perm {hs lf:List Int}{k:Nat}{y:Int}(h:lf[k]? =some y):((hs++[y])++lf.eraseIdx k).Perm (hs++lf):=by
 obtain ⟨hk,rfl⟩:=av.mp h;rw [List.append_assoc];refine List.Perm.append_left hs (?_:(lf[k]::lf.eraseIdx k).Perm lf);rw [iY];refine (List.perm_middle.symm).trans ?_;rw [←List.drop_eq_getElem_cons hk,i6]
theorem ints_nodup (n:Nat):((aP n).map fun k:Nat=>(k:Int)).Nodup :=
 fm.mpr (List.Pairwise.imp (fun h e=>h (by omega)) ib)
theorem fits_kept {b:Int}{t:List Int}{sp:List Sn}(h:jd b t sp=true):∀ x∈sp,jR b t x:=by
 intro x hx;unfold jd at h;rw [ft,fq] at h;have:=h x hx;unfold brk at this;unfold jR;simp only [decide_eq_true_eq] at this;omega
theorem kept_fits {b:Int}{t:List Int}{sp:List Sn}(h:∀ x∈sp,jR b t x):jd b t sp=true:=by
 unfold jd;rw [ft,fq];intro x hx;have:=h x hx;unfold jR at this;unfold brk;simp only [decide_eq_true_eq];omega
theorem og {m L:Int}{sp sx:List Sn}(na:mM m sp L)(sub:∀ y∈sp,y∈sx)(rest:∀ y∈sx,y∈sp∨y.o - y.l≤L):mM m sx L:=by
 rcases na with h | h
 ·refine .inl fun y hy=>?_
  rcases rest y hy with z | z
  ·exact h y z
  ·exact z
 ·refine .inr fun k k0 k1=>?_
  obtain ⟨y,hy,w⟩:=h k k0 k1;exact ⟨y,sub y hy,w⟩
theorem lim_two {n:Nat}(h0:2≤n)(h1:n≤5):2≤iI n :=
 (by decide:∀ n∈aP 6,2≤n→2≤iI (n:Nat)) n (bP.mpr (by omega)) h0
inductive spRingS (vs:List V)(H:Hp)(Q:VK)(_:XK):Prop
 | mk (p tq L:ao)(n b:Int)(ts hops:List Int)(_:vs=[.ref p,.ref tq,.int b,.ref L])(_:H p=some (.lst [.int n]))(_:H tq=some (.tup (ts.map V.int)))(_:H L=some (.lst (hops.map V.int)))(_:L≠p)(_:2≤b)(_:b≤10 ^ 40)(_:ts.length≤16)(_:2≤hops.length)(_:hops.length≤4)(_:(∀ x∈hops,0≤x∧x<ts.length))(_:hops.Nodup)(_:∀ (R:ao) (ws:List V) (zs:List Sn) (x:Sn) (H':Hp),Mv p H H'→H R=none→H' R=some (.lst ws)→IsDs H' ws (cY Sn.row (zs++[x]))→zs.length≤3→(∀ y∈zs++[x],SnOk b ts.length y∧y.o - y.l≤1)→(∀ y∈zs,jR b ts y)→(∀ t,(∀ y∈zs++[x],jR b t y)→False)→Q (.ref R) H')
abbrev sRingSp:cV:=top 56
section
variable {P:aW} {w:bz} {K:ak} {mg:Str→Option ae} {base:bE}
theorem gr:cu ["_law_pot_here","_law_times","_law_beat","_law_hops","_law_spans","_law_room","_law_less","_law_k","_law_one","_law_other","_law_width","_law_over","_law_least","_law_gap"] pzy (defScope sRingSp):=by trivial
theorem ok_ringS {f f1:ao}{fd fd1:bu}(F:Fun K "_law_ring_spans" "_law_ring_spans" sRingSp f fd)(T:Nm mg)(T2:Nt mg)(G1:Fn K mg "_law_take" sTake pzc f1 fd1):dN P w K mg base CX0 2 f fd pzy spRingS:=by
 have F1:dN P w K mg base CX0 1 f1 fd1 pzc nI:=my G1.F;refine F.ok gr (by contradiction) (fun cdv A outer st0 H vs Q E hr h=>?_);obtain ⟨p,tq,L,n,b,ts,hops,rfl,hp,htq,hL,nLp,b1,b2,few,hl2,hl4,hin,hnd,k⟩:=h;refine ⟨_,PSl.h (aR ⟨(k4 (bw (i:=4) gr.nd rfl (.inl rfl) (iq az)))⟩
  (aR ⟨(bw (i:=5) gr.nd rfl (.inl rfl) (bX gp (pv 2) ba))⟩
  (aR ⟨(bw (i:=6) gr.nd rfl (.inl rfl) ba)⟩
  (aR ⟨(iC bL rfl (iE rfl T2.range (ag (bX gp (cG bW rfl T.len bG (ag (pv 3) az)) ba) az)) (df (i:=7) gr.nd rfl (.inl rfl)) (PSl.h (aR ⟨(bw (i:=8) gr.nd rfl (.inl rfl) (eh dX (pv 3) (pv 7) (fun _ _=>rfl)))⟩
  (aR ⟨(bw (i:=9) gr.nd rfl (.inl rfl) (eh dX (pv 3) (bX dM (pv 7) ba) (fun _ _=>rfl)))⟩
  (aR ⟨(bw (i:=10) gr.nd rfl (.inl rfl) (cG (l5 rfl) rfl T.min boot_min (ag (pc1 G1 F1 hr (ag (pv 0) (ag ba az))) (ag (pv 5) az))))⟩
  (aR ⟨(bw (i:=5) gr.nd rfl (.inl rfl) (bX gp (pv 5) (pv 10)))⟩
  (aR ⟨(bw (i:=11) gr.nd rfl (.inl rfl) (pc1 G1 F1 hr (ag (pv 0) (ag (bX dM (pv 10) ba) az))))⟩
  (dH ⟨(gn (cA lQ (pc1 G1 F1 hr (ag (pv 0) (ag ba az))) ba (cZ _)) (PSl.h (aR ⟨(bw (i:=12) gr.nd rfl (.inl rfl) (bX i9 (bX gp (bX gp (eh eY (pv 1) (pv 9) (fun _ _=>rfl)) (eh eY (pv 1) (pv 8) (fun _ _=>rfl))) (pv 11)) (pv 2)))⟩
  (aR ⟨(gL (kr aZ bZ bY gq (pv 4) (ag (mJ (ag (pv 8) (ag (pv 9) (ag (pv 12) (ag (bX dM (pv 12) (pv 10)) (ag (pc1 G1 F1 hr (ag (pv 0) (ag ba az))) az)))))) az)))⟩
  (dH ⟨(bw (i:=6) gr.nd rfl (.inl rfl) (bX dM (pv 6) (pv 11)))⟩)))) (PSl.h (aR ⟨(bw (i:=12) gr.nd rfl (.inl rfl) (bX i9 (bX gp (bX gp (eh eY (pv 1) (pv 8) (fun _ _=>rfl)) (eh eY (pv 1) (pv 9) (fun _ _=>rfl))) (pv 11)) (pv 2)))⟩
  (aR ⟨(gL (kr aZ bZ bY gq (pv 4) (ag (mJ (ag (pv 9) (ag (pv 8) (ag (pv 12) (ag (bX dM (pv 12) (pv 10)) (ag (pc1 G1 F1 hr (ag (pv 0) (ag ba az))) az)))))) az)))⟩
  (dH ⟨(bw (i:=6) gr.nd rfl (.inl rfl) (bX gp (bX dM (pv 6) (pv 10)) (pv 11)))⟩)))))⟩))))))))⟩
  (aR ⟨(bw (i:=10) gr.nd rfl (.inl rfl) (cG (l5 rfl) rfl T.min boot_min (ag (pc1 G1 F1 hr (ag (pv 0) (ag ba az))) (ag (pv 5) az))))⟩
  (aR ⟨(bw (i:=13) gr.nd rfl (.inl rfl) (bX dM (bX dM (bX dM (bX gp (eh eY (pv 1) (eh dX (pv 3) ba (fun _ _=>rfl)) (fun _ _=>rfl)) (eh eY (pv 1) (eh dX (pv 3) (mN km ba) (fun _ _=>rfl)) (fun _ _=>rfl))) (pv 6)) ba) (pc1 G1 F1 hr (ag (pv 0) (ag (bX dM (bX gp (pv 5) (pv 10)) ba) az)))))⟩
  (aR ⟨(bw (i:=12) gr.nd rfl (.inl rfl) (bX i9 (pv 13) (pv 2)))⟩
  (aR ⟨(gn (cA lQ (pc1 G1 F1 hr (ag (pv 0) (ag ba az))) ba (cZ _)) (cO (cw (bX op_cat (pv 4) (iq (ag (mJ (ag (eh dX (pv 3) (mN km ba) (fun _ _=>rfl)) (ag (eh dX (pv 3) ba (fun _ _=>rfl)) (ag (pv 12) (ag (bX dM (pv 12) (pv 10)) (ag (pc1 G1 F1 hr (ag (pv 0) (ag ba az))) az)))))) az))))) dO)⟩
  (aR ⟨(bw (i:=12) gr.nd rfl (.inl rfl) (bX i9 (bX gp (bX gp ba (pv 13)) (pv 10)) (pv 2)))⟩
  (dH ⟨(cw (bX op_cat (pv 4) (iq (ag (mJ (ag (eh dX (pv 3) ba (fun _ _=>rfl)) (ag (eh dX (pv 3) (mN km ba) (fun _ _=>rfl)) (ag (pv 12) (ag (bX dM (pv 12) (pv 10)) (ag (pc1 G1 F1 hr (ag (pv 0) (ag ba az))) az)))))) az))))⟩)))))))))),?_⟩
 have hn:=hnd;refine ⟨fun σ' H'=>Mv p H H'∧∃ Ls,Ls≠p∧H Ls=none∧H' Ls=some (.lst [])∧σ'=[some (.ref p),some (.ref tq),some (.int b),some (.ref L),some (.ref Ls),none,none,none,none,none,none,none,none,none],?_,?_⟩
 rotate_left
 ·refine ⟨bI _,fun Ls hLs=>?_⟩
  exact ⟨Mv.new (Mv.of (Same.refl H) hp) hLs,Ls,cp (aY hp hLs),hLs,aS,rfl⟩
 rintro σ' HD ⟨MD,Ls,nLs,hLsH,hLsD,rfl⟩;have at_hop:∀ i:Nat,i<hops.length→atI (hops.map V.int) (i:Int)=some (V.int (tm hops i)):=fun i hi=>ma (by omega) (by omega)
 refine ⟨_,rfl,_,_,rfl,rfl,?_⟩;have hLD:=MD.at hL nLp;have hl:(hops.map V.int).length=hops.length:=aa _;refine ⟨_,rfl,L,_,rfl,.inl (SqL.of hLD),_,_,rfl,rfl,((hops.length - 1:Nat):Int),by show [V.int (((hops.map V.int).length:Int) - 1)]=_;rw [hl,show (hops.length:Int) - 1=((hops.length - 1:Nat):Int) by omega],by omega,by omega,?_⟩;have hop_in:∀ i:Nat,i<hops.length→0≤tm hops i∧tm hops i<ts.length:=fun i hi=>hin _ (oM (by omega) (by omega))
 refine jW (lo:=0) (n:=hops.length - 1) (fun i σ H'=>Mv p H H'∧∃ (room ix:Int) (v7 v8 v9 v10 v11 v12:Option V) (ws:List V) (zs:List Sn),σ=[some (.ref p),some (.ref tq),some (.int b),some (.ref L),some (.ref Ls),some (.int room),some (.int ix),v7,v8,v9,v10,v11,v12,none]∧H' Ls=some (.lst ws)∧IsDs H' ws (cY Sn.row zs)∧RingS b ts.length ts hops i zs room ix) ⟨MD,b - 2,0,none,none,none,none,none,none,[],[],rfl,hLsD,.nil,RingS.nil b1⟩ ?_ ?_
 ·rintro i σ HE hi ⟨ME,room,ix,v7,v8,v9,v10,v11,v12,ws,zs,rfl,hLsE,dE,RE⟩
  have r0:=RE.r0;have lw:ws.length=i:=by rw [dE.length];unfold cY;rw [aa,RE.len]
  have hLE:=ME.at hL nLp;obtain ⟨one,eone⟩:∃ one,one=tm hops i:=⟨_,rfl⟩;obtain ⟨oth,eoth⟩:∃ oth,oth=tm hops (i+1:Nat):=⟨_,rfl⟩;have o1:atI (hops.map V.int) (0+(i:Int))=some (V.int one):=by rw [eone,gG];exact at_hop i (by omega)
  have o2:atI (hops.map V.int) (0+(i:Int)+1)=some (V.int oth):=by rw [eoth,gG];exact at_hop (i+1) (by omega)
  obtain ⟨one0,one1⟩:0≤one∧one<ts.length:=by rw [eone];exact hop_in i (by omega)
  obtain ⟨oth0,oth1⟩:0≤oth∧oth<ts.length:=by rw [eoth];exact hop_in (i+1) (by omega)
  have ne:one≠oth:=by
   rw [eone,eoth];exact fun z=>pj (tm_inj hnd (by omega) (by omega) z) (by omega)
  refine ⟨_,rfl,_,rfl,L,_,_,_,rfl,rfl,SqL.of hLE,o1,?_⟩;refine ⟨_,rfl,_,rfl,_,_,rfl,rfl,L,_,_,_,rfl,rfl,SqL.of hLE,o2,?_⟩;obtain ⟨nE,hpE⟩:=ME.2;refine ⟨_,rfl,p,nE,2,rfl,hpE,by decide,by decide,fun r1 H1 a1 c1 M1=>⟨_,rfl,_,_,rfl,?_⟩⟩;have hLs1:=M1.at hLsE nLs;have d1:=bT (Mv.tupK hpE M1) dE;have M1:=ME.trans M1;have c1:r1<2:=c1;obtain ⟨wd,hwd,wd0,wd1,wd2⟩:∃ wd,wd=(if room<r1 then room else r1)∧0≤wd∧wd≤1∧wd≤room:=⟨_,rfl,by split <;> omega,by split <;> omega,by split <;> omega⟩;rw [←hwd];clear hwd;obtain ⟨n1,hp1⟩:=M1.2;refine ⟨_,rfl,_,rfl,_,_,rfl,rfl,?_⟩;refine ⟨_,rfl,_,rfl,_,_,rfl,rfl,p,n1,_,rfl,hp1,by show 0<wd+1;omega,by show wd+1<10 ^ 61;omega,fun ov H2 a2 c2 M2=>?_⟩;have c2:ov<wd+1:=c2;have hLs2:=M2.at hLs1 nLs;have d2:=bT (Mv.tupK hp1 M2) d1;have M2:=M1.trans M2;obtain ⟨n2,hp2⟩:=M2.2;refine ⟨_,rfl,p,n2,2,rfl,hp2,by decide,by decide,fun r3 H3 a3 c3 M3=>⟨rfl,_,rfl,?_⟩⟩;have hLs3:=M3.at hLs2 nLs;have d3:=bT (Mv.tupK hp2 M3) d2;have M3:=M2.trans M3;obtain ⟨n3,hp3⟩:=M3.2;have ht3:=Mv.tupK hp M3 _ _ htq;clear hLs1 hLs2 d1 d2 M1 M2 hp1 hp2;have mk:∀ s g:Int,0≤s→s<ts.length→0≤g→g<ts.length→s≠g→∀ (l r4:Int),0≤l→l<b→0≤r4→r4<5→SnOk b ts.length ⟨s,g,l,l+wd,r4⟩:=fun s g s0 s1 g0 g1 sg l r4 l0 l1 r40 r41=>⟨s0,s1,g0,g1,sg,l0,by show l≤l+wd;omega,by show l+wd<l+b;omega,by show l+wd<10 ^ 60;omega,r40,by show r4≤_;omega⟩
  refine oX (fun _=>?_) (fun _=>?_)
  ·refine ⟨_,rfl,_,rfl,tq,_,_,_,rfl,rfl,SqT.of ht3,ma oth0 oth1,_,rfl,_,rfl,tq,_,_,_,rfl,rfl,SqT.of ht3,ma one0 one1,_,_,rfl,rfl,_,rfl,_,_,rfl,rfl,_,rfl,_,_,rfl,rfl,(by show (0:Int)<b;omega),?_⟩
   obtain ⟨l,el⟩:∃ l,l=(tm ts oth - tm ts one - ov) % b:=⟨_,rfl⟩;have l0:0≤l:=by rw [el];exact cP _ (by omega)
   have l1:l<b:=by rw [el];exact cE _ (by omega)
   show oI 12 (V.int ((tm ts oth - tm ts one - ov) % b)) _ _ _;rw [←el];refine ⟨_,rfl,.inl ⟨rfl,_,SqL.of hLs3⟩,_,rfl,_,rfl,_,rfl,_,rfl,_,rfl,_,_,rfl,rfl,_,rfl,p,n3,5,rfl,hp3,by decide,by decide,fun r4 H4 a4 c4 M4=>⟨szZ5,fun t ht=>?_⟩⟩;have hLs4:=M4.at hLs3 nLs;have d4:=bT (Mv.tupK hp3 M4) d3;have M4:=M3.trans M4;have c4:r4<5:=c4;have ntp:=M4.ne ht;have ntL:=aY hLs4 ht;have K5:TupK H4 (upd H4 t (.tup [.int one,.int oth,.int l,.int (l+wd),.int r4])):=fun q xs e=>by rw [bf (aY e ht)];exact e
   have M5:=M4.new (o:= .tup [.int one,.int oth,.int l,.int (l+wd),.int r4]) ht;have h5:(upd H4 t (.tup [.int one,.int oth,.int l,.int (l+wd),.int r4])) t=some (.tup [.int one,.int oth,.int l,.int (l+wd),.int r4]):=aS;have hLs5:(upd H4 t (.tup [.int one,.int oth,.int l,.int (l+wd),.int r4])) Ls=some (.lst ws):=by rw [bf ntL];exact hLs4
   have d5:=bT K5 d4;refine ⟨Ls,ws,_,rfl,rfl,hLs5,(aU (by omega:ws.length<1000) (by decide:1000≤bc)),?_⟩;have KC:TupK _ (upd (upd H4 t (.tup [.int one,.int oth,.int l,.int (l+wd),.int r4])) Ls (.lst (ws++[.ref t]))):=eM hLs5;refine ⟨_,rfl,_,rfl,_,_,rfl,rfl,?_⟩;refine ⟨⟨fun q o nq e=>?_,?_⟩,room - wd,ix+ov,_,_,_,_,_,_,ws++[.ref t],zs++[⟨one,oth,l,l+wd,r4⟩],rfl,aS,?_,?_⟩
   ·rw [bf (fun z=>by rw [z,hLsH] at e;cases e)]
    exact M5.1 q o nq e
   ·obtain ⟨n5,hp5⟩:=M5.2
    exact ⟨n5,by rw [bf (cp nLs)];exact hp5⟩
   ·unfold cY
    rw [aA];exact (bT KC d5).append (.cons (.tup (KC _ _ h5) (IsDs.ints (Sn.row ⟨one,oth,l,l+wd,r4⟩))) .nil)
   ·exact RE.on b1 (mk one oth one0 one1 oth0 oth1 ne l r4 l0 l1 a4 c4) eone eoth el (by show l+wd - l=wd;omega) wd1 wd2 a2 (by omega)
  ·refine ⟨_,rfl,_,rfl,tq,_,_,_,rfl,rfl,SqT.of ht3,ma one0 one1,_,rfl,_,rfl,tq,_,_,_,rfl,rfl,SqT.of ht3,ma oth0 oth1,_,_,rfl,rfl,_,rfl,_,_,rfl,rfl,_,rfl,_,_,rfl,rfl,(by show (0:Int)<b;omega),?_⟩
   obtain ⟨l,el⟩:∃ l,l=(tm ts one - tm ts oth - ov) % b:=⟨_,rfl⟩;have l0:0≤l:=by rw [el];exact cP _ (by omega)
   have l1:l<b:=by rw [el];exact cE _ (by omega)
   show oI 12 (V.int ((tm ts one - tm ts oth - ov) % b)) _ _ _;rw [←el];refine ⟨_,rfl,.inl ⟨rfl,_,SqL.of hLs3⟩,_,rfl,_,rfl,_,rfl,_,rfl,_,rfl,_,_,rfl,rfl,_,rfl,p,n3,5,rfl,hp3,by decide,by decide,fun r4 H4 a4 c4 M4=>⟨szZ5,fun t ht=>?_⟩⟩;have hLs4:=M4.at hLs3 nLs;have d4:=bT (Mv.tupK hp3 M4) d3;have M4:=M3.trans M4;have c4:r4<5:=c4;have ntp:=M4.ne ht;have ntL:=aY hLs4 ht;have K5:TupK H4 (upd H4 t (.tup [.int oth,.int one,.int l,.int (l+wd),.int r4])):=fun q xs e=>by rw [bf (aY e ht)];exact e
   have M5:=M4.new (o:= .tup [.int oth,.int one,.int l,.int (l+wd),.int r4]) ht;have h5:(upd H4 t (.tup [.int oth,.int one,.int l,.int (l+wd),.int r4])) t=some (.tup [.int oth,.int one,.int l,.int (l+wd),.int r4]):=aS;have hLs5:(upd H4 t (.tup [.int oth,.int one,.int l,.int (l+wd),.int r4])) Ls=some (.lst ws):=by rw [bf ntL];exact hLs4
   have d5:=bT K5 d4;refine ⟨Ls,ws,_,rfl,rfl,hLs5,(aU (by omega:ws.length<1000) (by decide:1000≤bc)),?_⟩;have KC:TupK _ (upd (upd H4 t (.tup [.int oth,.int one,.int l,.int (l+wd),.int r4])) Ls (.lst (ws++[.ref t]))):=eM hLs5;refine ⟨_,rfl,_,rfl,_,_,rfl,rfl,_,rfl,_,_,rfl,rfl,?_⟩;refine ⟨⟨fun q o nq e=>?_,?_⟩,room - wd,ix+wd - ov,_,_,_,_,_,_,ws++[.ref t],zs++[⟨oth,one,l,l+wd,r4⟩],rfl,aS,?_,?_⟩
   ·rw [bf (fun z=>by rw [z,hLsH] at e;cases e)]
    exact M5.1 q o nq e
   ·obtain ⟨n5,hp5⟩:=M5.2
    exact ⟨n5,by rw [bf (cp nLs)];exact hp5⟩
   ·unfold cY
    rw [aA];exact (bT KC d5).append (.cons (.tup (KC _ _ h5) (IsDs.ints (Sn.row ⟨oth,one,l,l+wd,r4⟩))) .nil)
   ·exact RE.back b1 (mk oth one oth0 oth1 one0 one1 (cp ne) l r4 l0 l1 a4 c4) eone eoth el (by show l+wd - l=wd;omega) wd1 wd2 a2 (by omega)
 ·rintro σ HE ⟨ME,room,ix,v7,v8,v9,v10,v11,v12,ws,zs,rfl,hLsE,dE,RE⟩
  have r0:=RE.r0;have lz:zs.length=hops.length - 1:=RE.len;have lw:ws.length=zs.length:=by rw [dE.length];unfold cY;rw [aa]
  obtain ⟨lst,elst⟩:∃ lst,lst=tm hops (hops.length - 1:Nat):=⟨_,rfl⟩;obtain ⟨fst,efst⟩:∃ fst,fst=tm hops 0:=⟨_,rfl⟩;have o1:atI (hops.map V.int) 0=some (V.int fst):=by rw [efst];exact at_hop 0 (by omega)
  have o2:atI (hops.map V.int) (-1)=some (V.int lst):=HN.atI_last (by rw [hl,ay,tm_get (by omega),elst];rfl);obtain ⟨f0,f1⟩:0≤fst∧fst<ts.length:=by rw [efst];exact hop_in 0 (by omega)
  obtain ⟨q0,q1⟩:0≤lst∧lst<ts.length:=by rw [elst];exact hop_in _ (by omega)
  have ne:lst≠fst:=by
   rw [elst,efst];exact fun z=>pj (tm_inj hnd (i:=hops.length - 1) (j:=0) (by omega) (by omega) z) (by omega)
  obtain ⟨nE,hpE⟩:=ME.2;refine ⟨_,rfl,p,nE,2,rfl,hpE,by decide,by decide,fun r1 H1 a1 c1 M1=>⟨_,rfl,_,_,rfl,?_⟩⟩;have hLs1:=M1.at hLsE nLs;have d1:=bT (Mv.tupK hpE M1) dE;have M1:=ME.trans M1;have c1:r1<2:=c1;obtain ⟨wd,hwd,wd0,wd1,wd2⟩:∃ wd,wd=(if room<r1 then room else r1)∧0≤wd∧wd≤1∧wd≤room:=⟨_,rfl,by split <;> omega,by split <;> omega,by split <;> omega⟩;rw [←hwd];clear hwd;obtain ⟨n1,hp1⟩:=M1.2;have hL1:=M1.at hL nLp;have ht1:=Mv.tupK hp M1 _ _ htq;refine ⟨_,rfl,_,rfl,L,_,_,_,rfl,rfl,SqL.of hL1,o1,tq,_,_,_,rfl,rfl,SqT.of ht1,ma f0 f1,_,rfl,_,rfl,_,rfl,L,_,_,_,rfl,rfl,SqL.of hL1,o2,tq,_,_,_,rfl,rfl,SqT.of ht1,ma q0 q1,_,_,rfl,rfl,_,rfl,_,_,rfl,rfl,_,_,rfl,rfl,_,rfl,_,rfl,_,rfl,_,_,rfl,rfl,_,_,rfl,rfl,p,n1,_,rfl,hp1,by show 0<room - wd+1;omega,by show room - wd+1<10 ^ 61;have:=RE.rb;omega,fun r H2 a2 c2 M2=>⟨_,_,rfl,rfl,?_⟩⟩;have c2:r<room - wd+1:=c2;have hLs2:=M2.at hLs1 nLs;have d2:=bT (Mv.tupK hp1 M2) d1;have M2:=M1.trans M2;obtain ⟨n2,hp2⟩:=M2.2;refine ⟨_,rfl,_,rfl,_,_,rfl,rfl,(by show (0:Int)<b;omega),?_⟩;refine ⟨_,rfl,p,n2,2,rfl,hp2,by decide,by decide,fun r3 H3 a3 c3 M3=>⟨rfl,_,rfl,?_⟩⟩;have hLs3:=M3.at hLs2 nLs;have d3:=bT (Mv.tupK hp2 M3) d2;have M3:=M2.trans M3;obtain ⟨n3,hp3⟩:=M3.2;have hL3:=M3.at hL nLp;clear hLs1 hLs2 d1 d2 M1 M2 hp1 hp2 hL1 ht1 hLsE dE ME hpE;have mk:∀ s g:Int,0≤s→s<ts.length→0≤g→g<ts.length→s≠g→∀ (l r4:Int),0≤l→l<b→0≤r4→r4<5→SnOk b ts.length ⟨s,g,l,l+wd,r4⟩:=fun s g s0 s1 g0 g1 sg l r4 l0 l1 r40 r41=>⟨s0,s1,g0,g1,sg,l0,by show l≤l+wd;omega,by show l+wd<l+b;have:=RE.rb;omega,by show l+wd<10 ^ 60;omega,r40,by show r4≤_;omega⟩
  have fin:∀ (x:Sn) (r4:Int) (H4:Hp),Mv p H3 H4→SnOk b ts.length x→x.o - x.l≤1→(∀ t,(∀ y∈zs,jR b t y)→jR b t x→False)→∀ t,H4 t=none→∀ q,(upd H4 t (.tup [.int x.s,.int x.g,.int x.l,.int x.o,.int x.w])) q=none→rCat (.ref Ls) (.ref q) (upd (upd H4 t (.tup [.int x.s,.int x.g,.int x.l,.int x.o,.int x.w])) q (.lst [.ref t])) Q:=by
   intro x r4 H4 M4 ok nar dead t ht q hq;have hLs4:=M4.at hLs3 nLs;have d4:=bT (Mv.tupK hp3 M4) d3;have M4:=M3.trans M4;have M5:=M4.new (o:= .tup [.int x.s,.int x.g,.int x.l,.int x.o,.int x.w]) ht;have K5:TupK H4 (upd H4 t (.tup [.int x.s,.int x.g,.int x.l,.int x.o,.int x.w])):=fun q xs e=>by rw [bf (aY e ht)];exact e
   have h5:(upd H4 t (.tup [.int x.s,.int x.g,.int x.l,.int x.o,.int x.w])) t=some (.tup [.int x.s,.int x.g,.int x.l,.int x.o,.int x.w]):=aS;have hLs5:(upd H4 t (.tup [.int x.s,.int x.g,.int x.l,.int x.o,.int x.w])) Ls=some (.lst ws):=by rw [bf (aY hLs4 ht)];exact hLs4
   have d5:=bT K5 d4;generalize upd H4 t (.tup [.int x.s,.int x.g,.int x.l,.int x.o,.int x.w])=H5 at M5 K5 h5 hLs5 d5 hq ⊢;have M6:Mv p H (upd H5 q (.lst [.ref t])):=M5.new hq;have K6:TupK H5 (upd H5 q (.lst [.ref t])):=fun q' xs e=>by rw [bf (aY e hq)];exact e
   refine ⟨Ls,q,ws,[.ref t],rfl,rfl,by rw [bf (aY hLs5 hq)];exact hLs5,aS,bj (by show ws.length+1≤1000;omega) (by decide:1000≤bc),fun R hR=>?_⟩;have K7:TupK (upd H5 q (.lst [.ref t])) (upd (upd H5 q (.lst [.ref t])) R (.lst (ws++[.ref t]))):=fun q' xs e=>by rw [bf (aY e hR)];exact e
   have hRH:H R=none:=by
    cases z:H R with
    | none=>rfl
    | some o=>rw [M6.1 R o (M6.ne hR) z] at hR;cases hR
   refine k R (ws++[.ref t]) zs x _ (M6.new hR) hRH aS ?_ (by omega) (fun y hy=>?_) RE.fit (fun t' h'=>?_)
   ·unfold cY
    rw [aA];exact (bT (K6.trans K7) d5).append (.cons (.tup (K7 _ _ (K6 _ _ h5)) (IsDs.ints x.row)) .nil)
   ·rcases ke hy with hy | rfl
    ·exact ⟨RE.all y hy,RE.nar y hy⟩
    ·exact ⟨ok,nar⟩
   ·exact dead t' (fun y hy=>h' y (aE _ hy)) (h' x (by simp))
  refine oX (fun _=>?_) (fun _=>?_)
  ·refine ⟨_,rfl,_,rfl,_,rfl,L,_,_,_,rfl,rfl,SqL.of hL3,o2,_,rfl,L,_,_,_,rfl,rfl,SqL.of hL3,o1,_,rfl,_,rfl,_,rfl,_,_,rfl,rfl,_,rfl,p,n3,5,rfl,hp3,by decide,by decide,fun r4 H4 a4 c4 M4=>⟨szZ5,fun t ht=>⟨szZ1,fun q hq=>?_⟩⟩⟩
   have c4:r4<5:=c4;exact fin ⟨lst,fst,(tm ts fst - tm ts lst+ix+1+r) % b,(tm ts fst - tm ts lst+ix+1+r) % b+wd,r4⟩ r4 H4 M4 (mk lst fst q0 q1 f0 f1 ne _ r4 (cP _ (by omega)) (cE _ (by omega)) a4 c4) (by show (tm ts fst - tm ts lst+ix+1+r) % b+wd - (tm ts fst - tm ts lst+ix+1+r) % b≤1;omega)
    (fun t' hz hx=>RE.dead_on (wd:=wd) (r:=r) b1 elst efst rfl (by show (tm ts fst - tm ts lst+ix+1+r) % b+wd - (tm ts fst - tm ts lst+ix+1+r) % b=wd;omega) a2 (by omega) hz hx) t ht q hq
  ·refine ⟨_,rfl,_,_,rfl,rfl,_,rfl,_,_,rfl,rfl,_,rfl,_,_,rfl,rfl,(by show (0:Int)<b;omega),?_⟩
   refine ⟨_,rfl,_,rfl,L,_,_,_,rfl,rfl,SqL.of hL3,o1,_,rfl,_,rfl,L,_,_,_,rfl,rfl,SqL.of hL3,o2,_,rfl,_,rfl,_,rfl,_,_,rfl,rfl,_,rfl,p,n3,5,rfl,hp3,by decide,by decide,fun r4 H4 a4 c4 M4=>⟨szZ5,fun t ht=>⟨szZ1,fun q hq=>?_⟩⟩⟩;have c4:r4<5:=c4;exact fin ⟨fst,lst,(0 - (tm ts fst - tm ts lst+ix+1+r) - wd) % b,(0 - (tm ts fst - tm ts lst+ix+1+r) - wd) % b+wd,r4⟩ r4 H4 M4 (mk fst lst f0 f1 q0 q1 (cp ne) _ r4 (cP _ (by omega)) (cE _ (by omega)) a4 c4) (by show (0 - (tm ts fst - tm ts lst+ix+1+r) - wd) % b+wd - (0 - (tm ts fst - tm ts lst+ix+1+r) - wd) % b≤1;omega)
    (fun t' hz hx=>RE.dead_back (wd:=wd) (r:=r) b1 elst efst rfl (by show (0 - (tm ts fst - tm ts lst+ix+1+r) - wd) % b+wd - (0 - (tm ts fst - tm ts lst+ix+1+r) - wd) % b=wd;omega) a2 (by omega) hz hx) t ht q hq
end
inductive spDeadN (K:ak)(vs:List V)(H:Hp)(Q:VK)(_:XK):Prop
 | mk (a tq:ao)(ns:List Int)(v:V)(b:Int)(mn:Nat)(sp:List Sn)(ts:List Int)(_:vs=[.ref a,v,.ref tq])(_:SqL K H a (ns.map V.int))(_:IsD H v (ko b mn sp))(_:NetT b mn sp)(_:2≤b)(_:b≤10 ^ 40)(_:2≤mn)(_:mn≤5)(_:H tq=some (.tup (ts.map V.int)))(_:ts.length=mn)(_:sp.length≤30)(_:∀ (q:ao) (va vw:V) (zs sa sw:List Sn) (x:Sn) (H':Hp),Same H H'→H' q=some (.tup [va,vw])→IsD H' va (ko b mn sa)→IsD H' vw (ko b mn sw)→sa.length≤33→sw.length≤34→(∀ y,y∈sa↔y∈sp∨y∈zs)→(∀ y,y∈sw↔y∈sp∨y∈zs++[x])→(∀ y∈zs++[x],SnOk b mn y∧y.o - y.l≤1)→(∀ y∈zs,jR b ts y)→(∀ t,(∀ y∈zs++[x],jR b t y)→False)→Q (.ref q) H')
theorem lenND {X:Cx}(K:ak)(hK:X.K=K:=by rfl):CallR X (.builtin "len") (fun xs H Q=>∃ p ys,xs=[.ref p]∧(SqL K H p ys∨SqT K H p ys)∧Q (.int ys.length) H):=by subst hK;exact bW
theorem toK {X:Cx}(K:ak){ex:Expr}{r:V→List V→Hp→VK→Prop}{to:TE}{t:TA}{Ty:String}(h:PE X ex (tBM X.K Ty r to t))(hK:X.K=K:=by rfl):PE X ex (tBM K Ty r to t):=by subst hK;exact h
theorem cut_last (xs:List V)(x:V):cutV (xs++[x]) none (some (-1))=xs:=by
 unfold cutV;have:HT.sIx (xs++[x]).length (xs++[x]).length (some (-1))=xs.length:=by
  rw [aq];unfold HT.sIx;simp;omega
 rw [this];show ((xs++[x]).drop 0).take (xs.length - 0)=xs;rw [List.drop_zero,Nat.sub_zero,List.take_left]
theorem mem_put {sx:List Sn}{z y:Sn}(n:Nat):y∈sx.take n++z::sx.drop n↔y=z∨y∈sx:=by
 have e:y∈sx↔y∈sx.take n∨y∈sx.drop n:=by rw [←aM,i6]
 rw [e,aM,aL]
 constructor
 ·rintro (h | h | h)
  ·exact .inr (.inl h)
  ·exact .inl h
  ·exact .inr (.inr h)
 ·rintro (h | h | h)
  ·exact .inr (.inl h)
  ·exact .inl h
  ·exact .inr (.inr h)
abbrev sDeadN:cV:=top 57
section
variable {P:aW} {w:bz} {K:ak} {mg:Str→Option ae} {base:bE}
theorem ju:cu ["_law_script","_law_net_here","_law_times","_law_beat","_law_many","_law_spans","_law_pot_here","_law_left","_law_hops","_law_some","_law_rows","_law_span_here","_law_ahead"] pzz (defScope sDeadN):=by trivial
theorem ok_deadN {f f1 f2 f3:ao}{fd fd1 fd2 fd3:bu}(F:Fun K "_law_dead" "_law_dead" sDeadN f fd)(T:Nm mg)(T2:Nt mg)(G1:Fn K mg "_law_take" sTake pzc f1 fd1)
  (G2:Fn K mg "_law_pot" sPotT pzd f2 fd2) (F2:dN P w K mg base CX0 2 f2 fd2 pzd (spPotT K))
  (G3:Fn K mg "_law_ring_spans" sRingSp pzy f3 fd3) (F3:dN P w K mg base CX0 2 f3 fd3 pzy spRingS):dN P w K mg base CX0 3 f fd pzz (spDeadN K):=by
 have F1:dN P w K mg base CX0 1 f1 fd1 pzc nI:=my G1.F;refine F.ok ju (by contradiction) (fun cdv A outer st0 H vs Q E hr h=>?_);obtain ⟨a,tq,ns,v,b,mn,sp,ts,rfl,ha,hv,N,b1,b2,m2,m5,htq,lt,few,k⟩:=h;have hr1:Room 1 _:=hr.mono (by decide);have hr3:=hr;refine ⟨_,PSl.h (aR ⟨(mH (pv 1) (mI rfl (fJ (df (i:=3) ju.nd rfl (.inl rfl)) (fJ (df (i:=4) ju.nd rfl (.inl rfl)) (fJ (df (i:=5) ju.nd rfl (.inl rfl)) kE)))))⟩
  (aR ⟨(bw (i:=6) ju.nd rfl (.inr rfl) (pc1 G2 F2 hr (ag (pv 0) (ag ba az))))⟩
  (aR ⟨(bw (i:=7) ju.nd rfl (.inr rfl) (fA (o6 rfl) rfl T2.tlist boot_list (ag (fA oB rfl T2.range boot_range (ag (pv 4) az)) az)))⟩
  (aR ⟨(ps_setC (iy:=8) (fr:=["_law_left","_law_pot_here"]) (js:=[7,6]) ju.nd rfl (.inl rfl) rfl (iE rfl T2.range (ag (bX dM ba (pc1 G1 F1 hr1 (ag (pv 6) (ag (bX gp (cG (l5 rfl) rfl T.min boot_min (ag (pv 4) (ag ba az))) ba) az)))) az)) (by trivial) rfl (by trivial) rfl (by exists sDeadN) (by trivial) rfl (by trivial) (fun _ _ _ _ _=>⟨toK K (kr aZ eS eR mt_popAt (pv 1) (ag (pc1 G1 F1 hr1 (ag (pv 2) (ag (cG (lenND K) rfl T.len bG (ag (pv 1) az)) az))) az)),i0⟩))⟩
  (aR ⟨(bw (i:=9) ju.nd rfl (.inl rfl) (pc1 G3 F3 hr (ag (pv 6) (ag (pv 2) (ag (pv 3) (ag (pv 8) az))))))⟩
  (aR ⟨(bw (i:=10) ju.nd rfl (.inl rfl) (fA call_list_of rfl T2.tlist boot_list (ag (pv 5) az)))⟩
  (aR ⟨(iC bL rfl (jw (kN sl_list  (pv 9) mw (mr (mN km ba)))) (df (i:=11) ju.nd rfl (.inl rfl)) (cO (gL (kr aZ ij jX oh (pv 10) (ag (pc1 G1 F1 hr1 (ag (pv 6) (ag (bX dM (cG bW rfl T.len bG (ag (pv 10) az)) ba) az))) (ag (pv 11) az))))))⟩
  (aR ⟨(bw (i:=12) ju.nd rfl (.inl rfl) (d8 (ag (pv 3) (ag (pv 4) (ag (fA jx rfl T.ttup jC (ag (pv 10) az)) az)))))⟩
  (aR ⟨(gL (kr aZ ij jX oh (pv 10) (ag (pc1 G1 F1 hr1 (ag (pv 6) (ag (bX dM (cG bW rfl T.len bG (ag (pv 10) az)) ba) az))) (ag (eh dX (pv 9) (mN km ba) (fun _ _=>rfl)) az))))⟩
  (dH ⟨(cw (d8 (ag (pv 12) (ag (d8 (ag (pv 3) (ag (pv 4) (ag (fA jx rfl T.ttup jC (ag (pv 10) az)) az)))) az))))⟩)))))))))),?_⟩
 obtain ⟨tv,pq,ys,rfl,htv,hpq,dy⟩:=netP_rows hv;refine ⟨_,rfl,tv,_,rfl,SqT.of htv,rfl,_,_,rfl,_,_,rfl,_,_,rfl,rfl,?_⟩;refine ⟨_,rfl,a,ns,24,rfl,ha,by decide,by decide,fun n p hp=>?_⟩;have S0:Same H (upd H p (.lst [.int n])):=Same.put (Same.refl H) hp;have h0:(upd H p (.lst [.int n])) p=some (.lst [.int n]):=aS;generalize upd H p (.lst [.int n])=H0 at S0 h0 ⊢;refine ⟨_,rfl,mn,rfl,fun ra H1 S1 h1=>⟨ra,mn,rfl,h1,by omega,fun Lf hLf=>?_⟩⟩;have hp1:=S1 _ _ h0;have S1:=S0.trans S1;have hLfH:=S1.free hLf;have npL:p≠Lf:=aY hp1 hLf;have S2:Same H (upd H1 Lf (.lst ((aP mn).map fun k=>V.int (k:Nat)))):=S1.put hLf;have h2p:(upd H1 Lf (.lst ((aP mn).map fun k=>V.int (k:Nat)))) p=some (.lst [.int n]):=by rw [bf npL];exact hp1
 have h2L:(upd H1 Lf (.lst ((aP mn).map fun k=>V.int (k:Nat)))) Lf=some (.lst ((aP mn).map fun k=>V.int (k:Nat))):=aS;generalize upd H1 Lf (.lst ((aP mn).map fun k=>V.int (k:Nat)))=H2 at S2 h2p h2L ⊢;clear S1 h1 hp1 S0 h0 hLf;refine ⟨_,rfl,_,rfl,_,_,rfl,_,_,rfl,rfl,p,n,_,rfl,h2p,(by show 0<(if (4:Int)<(mn:Int) then (4:Int) else (mn:Int)) - 1;split <;> omega),(by show (if (4:Int)<(mn:Int) then (4:Int) else (mn:Int)) - 1<10 ^ 61;split <;> omega),fun r H3 a3 c3 M3=>⟨_,_,rfl,rfl,2+r,rfl,?_,?_,?_⟩⟩
 ·omega
 ·have c3:r<(if (4:Int)<(mn:Int) then (4:Int) else (mn:Int)) - 1:=c3
  split at c3 <;> omega
 have c3:r<(if (4:Int)<(mn:Int) then (4:Int) else (mn:Int)) - 1:=c3;have cm:2+r≤4∧2+r≤mn:=by split at c3 <;> omega
 clear c3;refine kT (n:=(2+r).toNat) (fun i zs HA=>Same H HA∧(∃ n,HA p=some (.lst [.int n]))∧∃ hs lf:List Int,zs=hs.map V.int∧hs.length=i∧HA Lf=some (.lst (lf.map V.int))∧lf.length+i=mn∧(hs++lf).Nodup∧∀ x∈hs++lf,0≤x∧x<mn)
  ⟨Same.mv S2 hp M3,M3.2,[],(aP mn).map (fun k:Nat=>(k:Int)),rfl,rfl,by rw [M3.at h2L (cp npL),dv];rfl,by rw [aa,bo];rfl,ints_nodup mn,fun x hx=>?_⟩ (fun i zs HA _ q=>by obtain ⟨_,_,hs,lf,e,hl,_⟩:=q;rw [e,aa,hl];exact aC _) (fb (by omega)) (fun i zs HA hi q=>?_) (fun zs HA q Lh hLh=>?_)
 ·obtain ⟨j,hj,rfl⟩:=bh.mp hx
  have:=bP.mp hj;omega
 ·obtain ⟨SA,⟨nA,hpA⟩,hs,lf,eA,lA,hLA,lfA,ndA,inA⟩:=q
  refine iB ?_;have ll:(lf.map V.int).length=lf.length:=aa _;refine ⟨_,rfl,.inl ⟨rfl,_,SqL.of hLA⟩,_,rfl,_,rfl,Lf,_,rfl,.inl (SqL.of hLA),p,nA,_,rfl,hpA,(by show 0<((lf.map V.int).length:Int);omega),(by show ((lf.map V.int).length:Int)<10 ^ 61;omega),fun r4 HB a4 c4 MB=>?_⟩;have c4:r4<((lf.map V.int).length:Int):=c4;obtain ⟨y,hy⟩:∃ y,lf[r4.toNat]? =some y:=⟨_,gE (by omega)⟩;have hLB:=MB.at hLA (cp npL);refine ⟨Lf,lf.map V.int,r4,r4.toNat,V.int y,rfl,rfl,hLB,by omega,by omega,seqIndex_of a4 c4,by rw [ay,hy];rfl,?_⟩;obtain ⟨nB,hpB⟩:=MB.2;have rk:r4.toNat<lf.length:=by omega
  refine ⟨fun q o e=>by rw [bf (fun z=>by rw [z,hLfH] at e;cases e)];exact Same.mv SA hp MB q o e,⟨nB,by rw [bf npL];exact hpB⟩,hs++[y],lf.eraseIdx r4.toNat,by rw [eA,aA];rfl,by rw [aq,lA];rfl,?_,?_,(pop_perm hy).nodup_iff.mpr ndA,fun x hx=>inA x ((pop_perm hy).mem_iff.mp hx)⟩
  ·rw [aS,iY,iY,aA,jh,ji]
  ·rw [List.length_eraseIdx_of_lt rk]
   omega
 obtain ⟨SA,⟨nA,hpA⟩,hs,lf,rfl,lA,hLA,lfA,ndA,inA⟩:=q;have npH:p≠Lh:=aY hpA hLh;have hLhH:=SA.free hLh;have SB:Same H (upd HA Lh (.lst (hs.map V.int))):=SA.put hLh;have hpB:(upd HA Lh (.lst (hs.map V.int))) p=some (.lst [.int nA]):=by rw [bf npH];exact hpA
 have hLB:(upd HA Lh (.lst (hs.map V.int))) Lh=some (.lst (hs.map V.int)):=aS;generalize upd HA Lh (.lst (hs.map V.int))=HB at SB hpB hLB ⊢;clear SA hpA hLA hLh M3 S2 h2p h2L;refine ⟨_,rfl,_,rfl,_,rfl,_,rfl,p,tq,Lh,nA,b,ts,hs,rfl,hpB,SB _ _ htq,hLB,cp npH,b1,b2,by omega,by omega,by omega,fun x hx=>by have:=inA x (aE _ hx);omega,(gS.mp ndA).1,fun R ws zs x HC MC hR hRC dC lz all fit dead=>?_⟩;have SC:Same H HC:=Same.mv SB hp MC;have nRp:R≠p:=fun z=>by rw [z,hpB] at hR;cases hR
 obtain ⟨w1,wx,rfl,d1,dx⟩:=IsDs.snocD (by unfold cY at dC;rw [aA] at dC;exact dC);refine ⟨_,rfl,pq,ys,rfl,.inr (SqT.of (SC _ _ hpq)),fun Lr hLr=>?_⟩;have nRr:R≠Lr:=aY hRC hLr;obtain ⟨nC,hpC⟩:=MC.2;have npr:p≠Lr:=aY hpC hLr;have hLrH:=SC.free hLr;have KD:TupK HC (upd HC Lr (.lst ys)):=fun q xs e=>by rw [bf (aY e hLr)];exact e
 have SD:Same H (upd HC Lr (.lst ys)):=SC.put hLr;have hpD:(upd HC Lr (.lst ys)) p=some (.lst [.int nC]):=by rw [bf npr];exact hpC
 have hRD:(upd HC Lr (.lst ys)) R=some (.lst (w1++[wx])):=by rw [bf nRr];exact hRC
 have hrD:(upd HC Lr (.lst ys)) Lr=some (.lst ys):=aS;have dyD:=bT KD (IsDs.same SC dy);have d1D:=bT KD d1;generalize upd HC Lr (.lst ys)=HD at SD hpD hRD hrD dyD d1D KD ⊢;refine ⟨_,rfl,_,rfl,_,rfl,R,_,rfl,SqL.of hRD,fun Lz hLz=>⟨Lz,rfl,⟨_,SqL.of aS⟩,?_⟩⟩;have npz:p≠Lz:=aY hpD hLz;have nRz:R≠Lz:=aY hRD hLz;have nrz:Lr≠Lz:=aY hrD hLz;rw [show cutV (w1++[wx]) none (some (-1))=w1 from cut_last w1 wx];have SE:Same HD (upd HD Lz (.lst w1)):=(Same.refl HD).put hLz;have hE:(upd HD Lz (.lst w1)) Lz=some (.lst w1):=aS;generalize upd HD Lz (.lst w1)=HE at SE hE ⊢;have lw1:w1.length=zs.length:=by rw [d1.length,aa]
 have dxD:IsD HD wx (.tup (x.row.map .int)):=by
  have:=bT (f:=Sn.row) (xs:=[x]) KD (show IsDs HC [wx] (cY Sn.row [x]) from IsDs.one dx);cases this with | cons h _=>exact h
 refine ki (K:=K) (a:=Lz) (xs:=w1) (fun j σ H'=>Same H H'∧TupK HE H'∧(∃ n,H' p=some (.lst [.int n]))∧H' Lz=some (.lst w1)∧H' R=some (.lst (w1++[wx]))∧∃ (v11:Option V) (vs:List V) (sx:List Sn),σ=[some (.ref a),some (.ref tv),some (.ref tq),some (.int b),some (.int mn),some (.ref pq),some (.ref p),some (.ref Lf),some (.ref Lh),some (.ref R),some (.ref Lr),v11,none]∧H' Lr=some (.lst vs)∧IsDs H' vs (cY Sn.row sx)∧sx.length=sp.length+j∧∀ y,y∈sx↔y∈sp∨y∈zs.take j)
  ⟨SD.trans SE,fun _ _ h=>h,⟨nC,SE _ _ hpD⟩,hE,SE _ _ hRD,none,ys,sp,rfl,SE _ _ hrD,IsDs.same SE dyD,rfl,fun y=>by rw [List.take_zero];simp⟩ (fun j σ H' _ q=>by obtain ⟨_,_,_,h,_⟩:=q;exact SqL.of h) ?_ ?_
 ·rintro j wz σ HF hj ⟨SF,KF,⟨nF,hpF⟩,hzF,hRF,v11,vs,sx,rfl,hrF,dF,lF,mF⟩
  have lv:vs.length=sx.length:=by rw [dF.length];unfold cY;rw [aa]
  have jl:j<zs.length:=by have:=(av.mp hj).1;omega
  obtain ⟨d,hd,dz⟩:=IsDs.get (bT KF (IsDs.same SE d1D)) hj;obtain ⟨z,hz,rfl⟩:∃ z,zs[j]? =some z∧d=Dt.tup (z.row.map Dt.int):=by
   unfold cY at hd;rw [ay] at hd;cases e:zs[j]? with
   | none=>rw [e] at hd;cases hd
   | some z=>rw [e] at hd;exact ⟨z,rfl,by cases hd;rfl⟩
  refine ⟨_,rfl,.inl ⟨rfl,_,SqL.of hrF⟩,_,rfl,_,rfl,Lr,_,rfl,.inl (SqL.of hrF),_,_,rfl,rfl,p,nF,_,rfl,hpF,(by show 0<(vs.length:Int)+1;omega),(by show (vs.length:Int)+1<10 ^ 61;omega),fun r HG ra rc MG=>⟨_,rfl,Lr,vs,r,wz,rfl,rfl,MG.at hrF (cp npr),by omega,ra,?_,?_⟩⟩
  ·have rc:r<(vs.length:Int)+1:=rc
   omega
  have hrG:=MG.at hrF (cp npr);have K2:TupK HF HG:=Mv.tupK hpF MG;have KI:TupK HG (upd HG Lr (.lst (vs.take r.toNat++wz::vs.drop r.toNat))):=eM hrG;obtain ⟨nG,hpG⟩:=MG.2;refine ⟨fun q o e=>?_,KF.trans (K2.trans KI),⟨nG,by rw [bf npr];exact hpG⟩,by rw [bf (cp nrz)];exact MG.at hzF (cp npz),by rw [bf nRr];exact MG.at hRF nRp,_,_,sx.take r.toNat++z::sx.drop r.toNat,rfl,aS,?_,?_,fun y=>?_⟩
  ·rw [bf (fun z=>by rw [z,hLrH] at e;cases e)]
   exact Same.mv SF hp MG q o e
  ·have d2:=bT (K2.trans KI) dF
   have dz2:=bT (f:=Sn.row) (xs:=[z]) (K2.trans KI) (show IsDs HF [wz] (cY Sn.row [z]) from IsDs.one dz);unfold cY at d2 dz2 ⊢;rw [aA,bV,jh,ji];exact (IsDs.take _ d2).append (IsDs.append dz2 (IsDs.drop _ d2))
  ·rw [aq,aV,bH,dm]
   omega
  ·rw [mem_put,mF,List.take_succ,hz,aM]
   show y=z∨y∈sp∨y∈zs.take j↔y∈sp∨y∈zs.take j∨y∈[z];rw [aw]
   constructor
   ·rintro (h | h | h)
    ·exact .inr (.inr h)
    ·exact .inl h
    ·exact .inr (.inl h)
   ·rintro (h | h | h)
    ·exact .inr (.inl h)
    ·exact .inr (.inr h)
    ·exact .inl h
 ·rintro σ HF ⟨SF,KF,⟨nF,hpF⟩,hzF,hRF,v11,vs,sx,rfl,hrF,dF,lF,mF⟩
  rw [lw1,bq] at mF;have lv:vs.length=sx.length:=by rw [dF.length];unfold cY;rw [aa]
  refine ⟨_,rfl,_,rfl,_,rfl,Lr,_,rfl,SqL.of hrF,fun qB HB SB hB=>⟨(by show 3≤bc;decide),fun tC HG SG hG=>?_⟩⟩;have hB:=SG _ _ hB;have SG:=SB.trans SG;have hrG:=SG _ _ hrF;have hpG:=SG _ _ hpF;have hRG:=SG _ _ hRF;have dG:=IsDs.same SG dF;have va:IsD HG (.ref tC) (ko b mn sx):= .tup hG (.cons (.int b) (.cons (.int _) (.cons (.tup hB dG) .nil)));have ol:atI (w1++[wx]) (-1)=some wx:=L2.atI_last w1 wx;refine ⟨_,rfl,.inl ⟨rfl,_,SqL.of hrG⟩,_,rfl,_,rfl,Lr,_,rfl,.inl (SqL.of hrG),_,_,rfl,rfl,p,nF,_,rfl,hpG,(by show 0<(vs.length:Int)+1;omega),(by show (vs.length:Int)+1<10 ^ 61;omega),fun r HI ra rc MI=>⟨_,rfl,_,rfl,R,_,_,_,rfl,rfl,SqL.of (MI.at hRG nRp),ol,Lr,vs,r,wx,rfl,rfl,MI.at hrG (cp npr),by omega,ra,?_,?_⟩⟩
  ·have rc:r<(vs.length:Int)+1:=rc
   omega
  have hrI:=MI.at hrG (cp npr);have KI:TupK HG HI:=Mv.tupK hpG MI;have KJ:TupK HI (upd HI Lr (.lst (vs.take r.toNat++wx::vs.drop r.toNat))):=eM hrI;have SJ:Same H (upd HI Lr (.lst (vs.take r.toNat++wx::vs.drop r.toNat))):=fun q o e=>by
   rw [bf (fun z=>by rw [z,hLrH] at e;cases e)];exact Same.mv (SF.trans SG) hp MI q o e
  have hrJ:(upd HI Lr (.lst (vs.take r.toNat++wx::vs.drop r.toNat))) Lr=some (.lst (vs.take r.toNat++wx::vs.drop r.toNat)):=aS;have dJ:IsDs (upd HI Lr (.lst (vs.take r.toNat++wx::vs.drop r.toNat))) (vs.take r.toNat++wx::vs.drop r.toNat) (cY Sn.row (sx.take r.toNat++x::sx.drop r.toNat)):=by
   have d2:=bT (KI.trans KJ) dG;have dz2:=bT (f:=Sn.row) (xs:=[x]) (KI.trans KJ) (show IsDs HG [wx] (cY Sn.row [x]) from IsDs.same SG (bT (f:=Sn.row) (xs:=[x]) KF (IsDs.same SE (IsDs.one dxD))));unfold cY at d2 dz2 ⊢;rw [aA,bV,jh,ji];exact (IsDs.take _ d2).append (IsDs.append dz2 (IsDs.drop _ d2))
  have vaJ:=cU (KI.trans KJ) va;generalize upd HI Lr (.lst (vs.take r.toNat++wx::vs.drop r.toNat))=HJ at SJ hrJ dJ vaJ ⊢;refine ⟨_,rfl,_,rfl,_,rfl,_,rfl,Lr,_,rfl,SqL.of hrJ,fun qK HK SK hK=>⟨(by show 3≤bc;decide),fun tL HL SL hL=>⟨l6,fun tM HM SM hM=>?_⟩⟩⟩;have SX:=SK.trans (SL.trans SM);refine k tM (.ref tC) (.ref tL) zs sx (sx.take r.toNat++x::sx.drop r.toNat) x HM (SJ.trans SX) hM (IsD.same SX vaJ) (.tup (SM _ _ hL) (.cons (.int b) (.cons (.int _) (.cons (.tup (SM _ _ (SL _ _ hK)) (dJ.same SX)) .nil)))) (by omega) (by rw [aq,aV,bH,dm];omega) mF (fun y=>?_) (fun y hy=>by rw [←lt];exact all y hy) fit dead;rw [mem_put,mF,aM,aw]
  constructor
  ·rintro (h | h | h)
   ·exact .inr (.inr h)
   ·exact .inl h
   ·exact .inr (.inl h)
  ·rintro (h | h | h)
   ·exact .inr (.inl h)
   ·exact .inr (.inr h)
   ·exact .inl h
end
abbrev sWaitsN:cV:=top 45
abbrev sFitsN:cV:=top 46
section
variable {P:aW} {w:bz} {K:ak} {mg:Str→Option ae} {base:bE}
theorem scWaitsN:cu pzf pzf (defScope sWaitsN):=by trivial
theorem ok_waitsN {f:ao}{fd:bu}(F:Fun K "_law_waits" "_law_waits" sWaitsN f fd):dN P w K mg base CX0 1 f fd pzf spWaitsN:=by
 refine F.ok scWaitsN (by contradiction) (fun cdv A outer s H vs Q E hr h=>?_);obtain ⟨v,u,b,m,sp,ts,rfl,hv,hu,R,k⟩:=h;obtain ⟨t,p,ys,rfl,ht,hp,hl,hy⟩:=gu hv;have few:=R.few;refine ⟨_,PSl.h (dH ⟨(cw (i3 (fr:=pzf) (js:=[0,1]) rfl (kD (ixZ (pv 0))) (by trivial) rfl (by trivial) rfl (by exists sWaitsN) (by trivial) rfl (by trivial) (fun _ _ _ _ _=>⟨(bX i9 (bX gp (bX gp (eh (r:=rIxT K) eY (pv 2) (eh (r:=rIxT K) eY (pv 0) ba (fun _ _=>rfl)) (fun _ _=>rfl)) (eh (r:=rIxT K) eY (pv 2) (eh (r:=rIxT K) eY (pv 0) ba (fun _ _=>rfl)) (fun _ _=>rfl))) (eh (r:=rIxT K) eY (pv 0) ba (fun _ _=>rfl))) (eh (r:=rIxT K) eY (pv 1) ba (fun _ _=>rfl))),i0⟩)))⟩),?_⟩;refine ⟨_,rfl,t,_,_,_,rfl,rfl,SqT.of ht,aO (j:=2) rfl,p,rfl,⟨_,SqT.of hp⟩,?_⟩;refine kR (K:=K) (a:=p) (xs:=ys) (fun i zs H2=>H2=H∧zs=(mZ b ts (sp.take i)).map V.int) ⟨rfl,rfl⟩ (fun i zs H2 hi ⟨e1,e2⟩=>?_) (by rw [hl];exact fb few) (fun i x zs H2 hx ⟨e1,e2⟩=>?_) (fun zs H2 ⟨e1,e2⟩ D hD=>?_)
 ·subst e1
  refine ⟨SqT.of hp,?_⟩;rw [e2];unfold mZ;rw [aa,aa,bH];omega
 ·subst e1
  have hi:i<sp.length:=by rw [←hl];exact (av.mp hx).1
  obtain ⟨q,hq,hq2⟩:=hy i sp[i] (gE hi);rw [hx] at hq;cases hq;obtain ⟨s0,s1,g0,g1⟩:=R.ends sp[i] (bR hi);refine iB ?_;refine ⟨_,rfl,_,rfl,q,_,_,_,rfl,rfl,SqT.of hq2,aO (j:=1) rfl,u,_,_,_,rfl,rfl,SqT.of hu,ma g0 g1,_,rfl,_,rfl,q,_,_,_,rfl,rfl,SqT.of hq2,aO (j:=0) rfl,u,_,_,_,rfl,rfl,SqT.of hu,ma s0 s1,_,_,rfl,rfl,_,rfl,q,_,_,_,rfl,rfl,SqT.of hq2,aO (j:=2) rfl,_,_,rfl,rfl,_,rfl,t,_,_,_,rfl,rfl,SqT.of ht,aO (j:=0) rfl,_,_,rfl,rfl,R.b1,rfl,?_⟩;rw [e2,bt,gE hi];unfold mZ;rw [aA,aA];rfl
 ·subst e1
  rw [hl,bq] at e2;rw [e2];exact k D _ (Same.put (Same.refl H2) hD) aS
theorem scFitsN:cu ["_law_net_here","_law_table","_law_span_here","_law_wait_here"] pzf (defScope sFitsN):=by trivial
theorem ok_fitsN {f f1:ao}{fd fd1:bu}(F:Fun K "_law_fits" "_law_fits" sFitsN f fd)(T2:Nt mg)(G1:Fn K mg "_law_waits" sWaitsN pzf f1 fd1):dN P w K mg base CX0 2 f fd pzf spFits:=by
 have F1:dN P w K mg base CX0 1 f1 fd1 pzf spWaitsN:=ok_waitsN G1.F;refine F.ok scFitsN (by contradiction) (fun cdv A outer s H vs Q E hr h=>?_);obtain ⟨v,u,b,m,sp,ts,rfl,hv,hu,R,k⟩:=h;obtain ⟨t,p,ys,rfl,ht,hp,hl,hy⟩:=gu hv;refine ⟨_,PSl.h (aR ⟨(iC bL rfl (pi_zip2 rfl T2.zip (ag (ixZ (pv 0)) (ag (pc1 G1 F1 hr (ag (pv 0) (ag (pv 1) az))) az))) (mI rfl (fJ (df (i:=2) scFitsN.nd rfl (.inl rfl)) (fJ (df (i:=3) scFitsN.nd rfl (.inl rfl)) kE))) (cO (gn (cA op_gt (pv 3) (bX gp (ixZ (pv 2)) (ixZ (pv 2))) (cZ _)) (cO (cw nX)) dO)))⟩
  (dH ⟨(cw nX)⟩)),?_⟩
 refine ⟨_,rfl,t,_,_,_,rfl,rfl,SqT.of ht,aO (j:=2) rfl,?_⟩;refine ⟨_,rfl,_,rfl,.ref t,u,b,m,sp,ts,rfl,hv,hu,R,fun L H1 S1 h1=>?_⟩;refine ⟨⟨false,p⟩,⟨true,L⟩,_,_,rfl,S1 _ _ hp,h1,?_⟩;refine for_zip2 (c1:=⟨false,p⟩) (c2:=⟨true,L⟩) (xs:=ys) (ys:=(mZ b ts sp).map V.int) (fun i σ H2=>Same H1 H2∧(∀ x∈sp.take i,brk b ts x=false)∧∃ v2 v3,σ=[some (.ref t),some (.ref u),v2,v3]) ⟨Same.refl H1,fun _ h=>pj h (by simp),none,none,rfl⟩ (fun i σ H2 _ ⟨S2,_⟩=>⟨S2 _ _ (S1 _ _ hp),S2 _ _ h1⟩) (by unfold mZ;rw [aa,aa,hl]) ?_ ?_
 ·rintro i x y pz σ H2 hx hx' ⟨S2,hno,v2,v3,rfl⟩ hpz
  have hi:i<sp.length:=by rw [←hl];exact (av.mp hx).1
  obtain ⟨q,hq,hq2⟩:=hy i sp[i] (gE hi);rw [hx] at hq;cases hq;unfold mZ at hx';rw [ay,ay,gE hi] at hx';cases hx';have S3:Same H1 (upd H2 pz (.tup [.ref q,.int (fU b ts sp[i])])):=S2.put hpz;have h3:(upd H2 pz (.tup [.ref q,.int (fU b ts sp[i])])) pz=some (.tup [.ref q,.int (fU b ts sp[i])]):=aS;generalize upd H2 pz (.tup [.ref q,.int (fU b ts sp[i])])=H3 at S3 h3 ⊢;have hq3:=S3 _ _ (S1 _ _ hq2);refine ⟨pz,_,rfl,SqT.of h3,rfl,_,_,rfl,_,_,rfl,rfl,?_⟩;refine ⟨_,rfl,_,rfl,q,_,_,_,rfl,rfl,SqT.of hq3,aO (j:=3) rfl,_,rfl,q,_,_,_,rfl,rfl,SqT.of hq3,aO (j:=2) rfl,_,_,rfl,rfl,_,_,rfl,rfl,_,rfl,?_⟩;refine oX (fun hc=>?_) (fun hc=>?_)
  ·have e:jd b ts sp=false:=by
    unfold jd;rw [List.any_eq_true.mpr ⟨sp[i],bR hi,hc⟩];rfl
   have kk:=k H3 (S1.trans S3);rw [e] at kk;exact kk
  ·refine ⟨S3,fun x hx=>?_,_,_,rfl⟩
   rw [bt,gE hi] at hx
   rcases aM.mp hx with hx | hx
   ·exact hno x hx
   ·rw [aw.mp hx]
    exact gU.mpr hc
 ·rintro σ H2 ⟨S2,hno,v2,v3,rfl⟩
  have e:jd b ts sp=true:=by
   unfold jd;rw [ft,fq];intro x hx;have:=hno x (by rw [hl,bq];exact hx);rw [this];exact bb
  have kk:=k H2 (S1.trans S2);rw [e] at kk;exact kk
end
abbrev sSum:cV:=top 9
abbrev sBeats:cV:=top 10
section
variable {P:aW} {w:bz} {K:ak} {mg:Str→Option ae} {base:bE}
theorem scSum:cu ["bounds","way","low","high","step","bound"] pzA (defScope sSum):=by trivial
theorem ok_sum {f:ao}{fd:bu}(F:Fun K "sum_of" "sum_of" sSum f fd):dN P w K mg base CX0 1 f fd pzA spSum:=by
 refine F.ok scSum (by contradiction) (fun cdv A outer s H vs Q E hr h=>?_);obtain ⟨vb,vw,bs,ws,rfl,hb,hw,hin,k⟩:=h;obtain ⟨pb,yb,rfl,hpb,hlb,rb⟩:=iL hb;obtain ⟨pw,yw,rfl,hpw,hlw,rw'⟩:=iL hw;refine ⟨_,PSl.h (aR ⟨(bw (i:=2) scSum.nd rfl (.inl rfl) ba)⟩
  (aR ⟨(bw (i:=3) scSum.nd rfl (.inl rfl) ba)⟩
  (aR ⟨(iC bL rfl (kD (pv 1)) (df (i:=4) scSum.nd rfl (.inl rfl)) (PSl.h (aR ⟨(bw (i:=5) scSum.nd rfl (.inl rfl) (eh eY (pv 0) (ixZ (pv 4)) (fun _ _=>rfl)))⟩
  (dH ⟨(gn (cA lQ (ixZ (pv 4)) ba (cZ _)) (PSl.h (aR ⟨(ps_aug (i:=2) scSum.nd rfl (.inl rfl) (ixZ (pv 5)) ip_add)⟩
  (dH ⟨(ps_aug (i:=3) scSum.nd rfl (.inl rfl) (ixZ (pv 5)) ip_add)⟩))) (PSl.h (aR ⟨(ps_aug (i:=2) scSum.nd rfl (.inl rfl) (ixZ (pv 5)) ip_sub)⟩
  (dH ⟨(ps_aug (i:=3) scSum.nd rfl (.inl rfl) (ixZ (pv 5)) ip_sub)⟩))))⟩))))⟩
  (dH ⟨(cw (d8 (ag (pv 2) (ag (pv 3) az))))⟩)))),?_⟩
 refine ⟨_,rfl,pw,rfl,⟨_,SqT.of hpw⟩,?_⟩;refine for_tup (K:=K) (xs:=yw) (fun i σ H2=>H2=H∧∃ v4 v5,σ=[some (.ref pb),some (.ref pw),some (.int (fk bs (ws.take i))),some (.int (gg bs (ws.take i))),v4,v5]) ⟨rfl,none,none,rfl⟩ (fun i σ H2 _ ⟨e1,_⟩=>by rw [e1];exact SqT.of hpw) ?_ ?_
 ·rintro i y σ H2 hy ⟨rfl,v4,v5,rfl⟩
  have hi:i<ws.length:=by rw [←hlw];exact (av.mp hy).1
  obtain ⟨q,hq,hq2⟩:=iZ rw' (gE hi);rw [hy] at hq;cases hq;obtain ⟨i1,d1⟩:=hin ws[i] (bR hi);have hm1:fk bs (ws.take (i+1))=fk bs (ws.take i)+oF bs ws[i]:=by
   unfold fk;rw [bt,gE hi,aA,iG];simp
  have hm2:gg bs (ws.take (i+1))=gg bs (ws.take i)+jB bs ws[i]:=by
   unfold gg;rw [bt,gE hi,aA,iG];simp
  obtain ⟨qb,hqb,hqb2⟩:=iZ rb (gE i1);refine ⟨_,rfl,_,rfl,q,_,_,_,rfl,rfl,SqT.of hq2,aO (j:=0) rfl,pb,_,_,_,rfl,rfl,SqT.of hpb,aO (j:=ws[i].i) hqb,?_⟩;refine ⟨_,rfl,q,_,_,_,rfl,rfl,SqT.of hq2,aO (j:=1) rfl,rfl,_,rfl,?_⟩;refine oX (fun h1=>?_) (fun h1=>?_)
  ·have h1:ws[i].d=1:=by have:=pE h1;injection this
   refine ⟨_,rfl,_,rfl,qb,_,_,_,rfl,rfl,SqT.of hqb2,aO (j:=0) rfl,_,_,rfl,rfl,?_⟩;refine ⟨_,rfl,_,rfl,qb,_,_,_,rfl,rfl,SqT.of hqb2,aO (j:=1) rfl,_,_,rfl,rfl,rfl,some (.ref q),some (.ref qb),?_⟩;have l1:oF bs ws[i]=bs[ws[i].i].1:=by unfold oF;rw [gE i1];exact pf h1
   have l2:jB bs ws[i]=bs[ws[i].i].2:=by unfold jB;rw [gE i1];exact pf h1
   rw [hm1,hm2,l1,l2];rfl
  ·have h1:ws[i].d≠1:=fun z=>h1 (pA (by rw [z]))
   refine ⟨_,rfl,_,rfl,qb,_,_,_,rfl,rfl,SqT.of hqb2,aO (j:=1) rfl,_,_,rfl,rfl,?_⟩;refine ⟨_,rfl,_,rfl,qb,_,_,_,rfl,rfl,SqT.of hqb2,aO (j:=0) rfl,_,_,rfl,rfl,rfl,some (.ref q),some (.ref qb),?_⟩;have l1:oF bs ws[i]= -bs[ws[i].i].2:=by unfold oF;rw [gE i1];exact pe h1
   have l2:jB bs ws[i]= -bs[ws[i].i].1:=by unfold jB;rw [gE i1];exact pe h1
   rw [hm1,hm2,l1,l2,←Int.sub_eq_add_neg,←Int.sub_eq_add_neg];rfl
 ·rintro σ H2 ⟨rfl,v4,v5,rfl⟩
  rw [hlw,bq];exact ⟨_,rfl,_,rfl,l6,fun p3 H3 S3 h3=>k p3 H3 S3 h3⟩
theorem scBeats:cu ["net","bounds","ring","beat","ends"] pzg (defScope sBeats):=by trivial
theorem ok_beats {f f1:ao}{fd fd1:bu}(F:Fun K "beats_of" "beats_of" sBeats f fd)(G1:Fn K mg "sum_of" sSum pzA f1 fd1):dN P w K mg base CX0 2 f fd pzg spBeats:=by
 have F1:dN P w K mg base CX0 1 f1 fd1 pzA spSum:=ok_sum G1.F;refine F.ok scBeats (by contradiction) (fun cdv A outer s H vs Q E hr h=>?_);obtain ⟨vn,vb,vw,b,m,sp,bs,ws,rfl,hv,hb0,hb1,hb,hw,hin,k⟩:=h;obtain ⟨t,pn,ys,rfl,ht,_⟩:=gu hv;refine ⟨_,PSl.h (aR ⟨(bw (i:=3) scBeats.nd rfl (.inl rfl) (ixZ (pv 0)))⟩
  (aR ⟨(bw (i:=4) scBeats.nd rfl (.inl rfl) (pc1 G1 F1 hr (ag (pv 1) (ag (pv 2) az))))⟩
  (dH ⟨(cw (d8 (ag (mN km (bX lP (mN km (ixZ (pv 4))) (pv 3))) (ag (bX lP (ixZ (pv 4)) (pv 3)) az))))⟩))),?_⟩
 refine ⟨_,rfl,t,_,_,_,rfl,rfl,SqT.of ht,aO (j:=0) rfl,?_⟩;refine ⟨_,rfl,_,rfl,vb,vw,bs,ws,rfl,hb,hw,hin,fun p1 H1 S1 h1=>?_⟩;refine ⟨_,rfl,p1,_,_,_,rfl,rfl,SqT.of h1,aO (j:=0) rfl,_,rfl,_,rfl,_,_,rfl,rfl,log_ok hb0 hb1,_,rfl,?_⟩;refine ⟨_,rfl,p1,_,_,_,rfl,rfl,SqT.of h1,aO (j:=1) rfl,_,rfl,_,_,rfl,rfl,log_ok hb0 hb1,l6,fun p2 H2 S2 h2=>k p2 H2 (S1.trans S2) h2⟩
end
abbrev sDead:cV:=top 11
section
variable {P:aW} {w:bz} {K:ak} {mg:Str→Option ae} {base:bE}
theorem scDead:cu ["net","bounds","ring","beats"] pzg (defScope sDead):=by trivial
theorem ok_dead {f f1:ao}{fd fd1:bu}(F:Fun K "is_dead" "is_dead" sDead f fd)(G1:Fn K mg "beats_of" sBeats pzg f1 fd1)(F1:dN P w K mg base CX0 2 f1 fd1 pzg spBeats):dN P w K mg base CX0 3 f fd pzg spDead:=by
 refine F.ok scDead (by contradiction) (fun cdv A outer s H vs Q E hr h=>?_);obtain ⟨vn,vb,vw,b,m,sp,bs,ws,rfl,hv,hb0,hb1,hb,hw,hin,k⟩:=h;refine ⟨_,PSl.h (aR ⟨(bw (i:=3) scDead.nd rfl (.inl rfl) (pc1 G1 F1 hr (ag (pv 0) (ag (pv 1) (ag (pv 2) az)))))⟩
  (dH ⟨(cw (k7 op_gt (ixZ (pv 3)) (ixZ (pv 3)) (cZ _)))⟩)),?_⟩
 refine ⟨_,rfl,_,rfl,_,rfl,vn,vb,vw,b,m,sp,bs,ws,rfl,hv,hb0,hb1,hb,hw,hin,fun p1 H1 S1 h1=>?_⟩;exact ⟨_,rfl,p1,_,_,_,rfl,rfl,SqT.of h1,aO (j:=0) rfl,_,rfl,p1,_,_,_,rfl,rfl,SqT.of h1,aO (j:=1) rfl,_,_,rfl,rfl,k H1 S1⟩
end
abbrev sWidth:cV:=top 4
section
variable {P:aW} {w:bz} {K:ak} {mg:Str→Option ae} {base:bE}
theorem scWidth:cu ["net","span","least","most"] pze (defScope sWidth):=by trivial
theorem ok_width {f:ao}{fd:bu}(F:Fun K "width_of" "width_of" sWidth f fd):dN P w K mg base CX0 1 f fd pze spWidth:=by
 refine F.ok scWidth (by contradiction) (fun cdv A outer s H vs Q E hr h=>?_);obtain ⟨v,b,m,sp,i,x,rfl,hv,hx,k⟩:=h;obtain ⟨t,p,ys,rfl,ht,hp,hl,hy⟩:=gu hv;obtain ⟨q,hq,hq2⟩:=hy i x hx;refine ⟨_,PSl.h (aR ⟨(bw (i:=2) scWidth.nd rfl (.inl rfl) (ixZ (eh eY (ixZ (pv 0)) (pv 1) (fun _ _=>rfl))))⟩
  (aR ⟨(bw (i:=3) scWidth.nd rfl (.inl rfl) (ixZ (eh eY (ixZ (pv 0)) (pv 1) (fun _ _=>rfl))))⟩
  (dH ⟨(cw (bX gp (pv 3) (pv 2)))⟩))),?_⟩
 refine ⟨_,rfl,t,_,_,_,rfl,rfl,SqT.of ht,aO (j:=2) rfl,_,rfl,p,_,_,_,rfl,rfl,SqT.of hp,aO (j:=i) hq,q,_,_,_,rfl,rfl,SqT.of hq2,aO (j:=2) rfl,?_⟩;refine ⟨_,rfl,t,_,_,_,rfl,rfl,SqT.of ht,aO (j:=2) rfl,_,rfl,p,_,_,_,rfl,rfl,SqT.of hp,aO (j:=i) hq,q,_,_,_,rfl,rfl,SqT.of hq2,aO (j:=3) rfl,?_⟩;exact ⟨_,rfl,_,rfl,_,_,rfl,rfl,k⟩
end
abbrev sSpW:cV:=top 13
abbrev kA:cV:=top 14
def lamPos:List cV→Pos
 | [.Return (some (.Call _ _ [⟨_,.Lambda _ _ _ lp,_⟩] _)) _]=>lp
 | _=>⟨0,0,0,0⟩
abbrev lpW:Pos:=lamPos (fY sSpW)
abbrev lqW:Str:=(("spans_by_width" :Str) ++ ".<locals>.") ++ "<lambda>"
section
variable {P:aW} {w:bz} {K:ak} {mg:Str→Option ae} {base:bE}
theorem okC {x qual:Str}{st:cV}{f c:ao}{fd:bu}{N ps:List Str}{k:Nat}{sp:Sp}(F:Fun K x qual st f fd)(hc:fd.code= .ref c)(S:cu N ps (defScope st))(len:∀ vs H Q E,sp vs H Q E→vs.length=ps.length)
  (hbody:∀ (A:bU) (outer:List Env) (s:ar) (H:Hp) (vs:List V) (Q:VK) (E:XK),Room k (A.deeper (envOfC qual (defScope st) s.heap.objs.size f (.ref c)))→sp vs H Q E →
   ∃ t,PSs (cxOf CX0 P w K mg base N qual (defScope st) f (.ref c) A outer s H E).nox (fY st) t∧t { nx:=fun _ H'=>Q .non H',rt:=Q } (L2.start N vs) H):dN P w K mg base CX0 (k+1) f fd ps sp:=by
 obtain ⟨oc,od,kV,doc,pm,an,cdv,ct,osl,rfl,lk,hcd⟩:=F.ex;have hc:cdv= .ref c:=hc;subst hc;refine fn_of lk hcd S len fun A outer s H vs Q E hr hsp=>?_
 obtain ⟨t,h,q⟩:=hbody A outer s H vs Q E hr hsp;exact ⟨t,h.nox,q⟩
theorem scSpW:cu pza pza (defScope sSpW):=by trivial
theorem ok_spW {f f1 c Tb0:ao}{fd fd1:bu}(F:Fun K "spans_by_width" "spans_by_width" sSpW f fd)(hcd:fd.code= .ref c)(C:fB K c Tb0=true)(B:BM mg base)(T:Nm mg)(T2:Nt mg)(ms:mg "sorted" =none)(G1:Fn K mg "width_of" sWidth pze f1 fd1) :
  dN P w K mg base CX0 5 f fd pza (spSpW Tb0 lpW lqW):=by
 have F1:dN P w K mg base CX0 1 f1 fd1 pze spWidth:=ok_width G1.F;refine okC F hcd scSpW (by contradiction) (fun A outer s H vs Q E hr h=>?_);obtain ⟨v,b,m,sp,rfl,hv,few,hT,k⟩:=h;obtain ⟨t,p,ys,rfl,ht,hp,hl,hy⟩:=gu hv;refine ⟨_,PSl.h (dH ⟨(cw (pe_sortL (js:=[0]) (fr:=pza) (x := "span") (c:=c) (P:=Tb0) rfl hr.depth rfl ms (fA oB rfl T2.range boot_range (ag (cG bW rfl T.len bG (ag (ixZ (pv 0)) az)) az)) rfl rfl C B (fun _ _ _ _ _ _=>rfl) rfl rfl rfl (by trivial) rfl (by decide) (by exists sSpW) rfl (by trivial)
  (fun cl L f' cd s' H'=>mJ (ag (pc1 G1 F1 (((hr.in1).in1).deeper _ |>.mono (by decide)) (ag (pv 1) (ag (pv 0) az))) (ag (pv 0) az)))))⟩),?_⟩
 refine ⟨_,rfl,t,_,_,_,rfl,rfl,SqT.of ht,aO (j:=2) rfl,p,_,rfl,.inr (SqT.of hp),_,rfl,fun r H1 S1 hr1=>?_⟩;have hv1:IsD H1 (.ref t) (ko b m sp):=hv.same S1;have hT1:=LamT.same S1 hT;refine ⟨r,ys.length,wkey sp,rfl,hr1,by omega,hT1,wkey_nodup sp _,fun i hi H2 tb=>?_,fun D H4 π tb lt hD pm pw=>?_⟩
 ·have hv2:=cU (Tb.tupK (LamT.tbl hT1) tb) hv1
  refine ⟨_,rfl,_,rfl,.ref t,b,m,sp,i,sAt sp i,rfl,hv2,i8 (by omega),_,rfl,l6,fun q hq=>⟨fun a o e=>by rw [bf (aY e hq)];exact e,q,rfl,aS⟩⟩
 ·exact k D H4 π ((Same.tb S1).trans tb) lt hD ⟨by rw [←hl];exact pm,pw⟩
theorem j9:cu ["net","groups","taken","span","one","other"] pza (defScope kA):=by trivial
theorem ok_forest {f f1 Tb0:ao}{fd fd1:bu}{lp:Pos}{lq:Str}(F:Fun K "forest_of" "forest_of" kA f fd)(T:Nm mg)(T2:Nt mg)(ms:mg "sorted" =none)(G1:Fn K mg "spans_by_width" sSpW pza f1 fd1)(F1:dN P w K mg base CX0 5 f1 fd1 pza (spSpW Tb0 lp lq)) :
  dN P w K mg base CX0 6 f fd pza (j7 Tb0 lp lq):=by
 refine F.ok j9 (by contradiction) (fun cdv A outer s H vs Q E hr h=>?_);obtain ⟨v,b,m,sp,rfl,hv,N,hT,k⟩:=h;obtain ⟨t,p,ys,rfl,ht,hp,hl,hy⟩:=gu hv;obtain ⟨mn,rfl⟩:=cx (show 0≤m by have:=N.m1;omega);have m2:=N.m2;have few:=N.few;have E:=N.ends;rw [dA] at E k;refine ⟨_,PSl.h (aR ⟨(bw (i:=1) j9.nd rfl (.inl rfl) (fA (o6 rfl) rfl T2.tlist boot_list (ag (fA oB rfl T2.range boot_range (ag (ixZ (pv 0)) az)) az)))⟩
  (aR ⟨(bw (i:=2) j9.nd rfl (.inl rfl) (iq az))⟩
  (aR ⟨(iC bL rfl (jw (pc1 G1 F1 hr (ag (pv 0) az))) (df (i:=3) j9.nd rfl (.inl rfl)) (PSl.h (aR ⟨(bw (i:=4) j9.nd rfl (.inr rfl) (eh dX (pv 1) (ixZ (eh eY (ixZ (pv 0)) (pv 3) (fun _ _=>rfl))) (fun _ _=>rfl)))⟩
  (aR ⟨(bw (i:=5) j9.nd rfl (.inr rfl) (eh dX (pv 1) (ixZ (eh eY (ixZ (pv 0)) (pv 3) (fun _ _=>rfl))) (fun _ _=>rfl)))⟩
  (dH ⟨(gn (cA nY (pv 4) (pv 5) (cZ _)) (PSl.h (aR ⟨(gL (kr aZ bZ bY gq (pv 2) (ag (pv 3) az)))⟩
  (dH ⟨(ps_setC (iy:=1) (fr:=["one","other"]) (js:=[4,5]) j9.nd rfl (.inl rfl) rfl (jw (pv 1)) (by trivial) rfl (by trivial) rfl (by exists kA) (by trivial) rfl (by trivial) (fun _ _ _ _ _=>⟨(mX (cA lQ (pv 0) (pv 2) (cZ _)) (pv 1) (pv 0)),i0⟩))⟩))) dO)⟩)))))⟩
  (dH ⟨(cw (fA jx rfl T.ttup jC (ag (cG call_sortedI rfl ms boot_sorted (ag (pv 2) az)) az)))⟩)))),?_⟩
 refine ⟨_,rfl,t,_,_,_,rfl,rfl,SqT.of ht,aO (j:=1) rfl,(mn:Int),rfl,fun a1 H1 S1 h1=>⟨a1,mn,rfl,h1,by omega,fun Lg hLg=>?_⟩⟩;have S2:Same H (upd H1 Lg (.lst ((aP mn).map fun k=>V.int (k:Nat)))):=S1.trans (Same.put (Same.refl H1) hLg);have hLg2:(upd H1 Lg (.lst ((aP mn).map fun k=>V.int (k:Nat)))) Lg=some (.lst ((jO mn).map V.int)):=by rw [aS];unfold jO;rw [dv];rfl
 generalize upd H1 Lg (.lst ((aP mn).map fun k=>V.int (k:Nat)))=H2 at S2 hLg2 ⊢;refine ⟨bI _,fun Lt hLt=>?_⟩;have S3:Same H (upd H2 Lt (.lst [])):=S2.trans (Same.put (Same.refl H2) hLt);have hgt:Lg≠Lt:=fun z=>by rw [z,hLt] at hLg2;cases hLg2
 have hLt3:(upd H2 Lt (.lst [])) Lt=some (.lst []):=aS;have hLg3:(upd H2 Lt (.lst [])) Lg=some (.lst ((jO mn).map V.int)):=by rw [bf hgt];exact hLg2
 generalize upd H2 Lt (.lst [])=H3 at S3 hLt3 hLg3 ⊢;have hT3:=LamT.same S3 hT;obtain ⟨ps3,hTb3⟩:=LamT.tbl hT3;refine ⟨_,rfl,.ref t,b,mn,sp,rfl,hv.same S3,few,hT3,fun D H4 π tb4 hT4 hD O=>?_⟩;obtain ⟨ps4,hTb4⟩:=LamT.tbl hT4;have nLg:Lg≠Tb0:=ie hLg3 hTb3 nofun;have nLt:Lt≠Tb0:=ie hLt3 hTb3 nofun;have hLg4:=tb4 _ _ nLg hLg3;have hLt4:=tb4 _ _ nLt hLt3;have nDg:D≠Lg:=fun z=>by rw [z,hLg4] at hD;cases hD
 have nDt:D≠Lt:=fun z=>by rw [z,hLt4] at hD;cases hD
 have S5:Same H4 (upd H4 D (.lst (π.map fun (i:Nat)=>V.int i))):=Same.put (Same.refl H4) hD;have tb5:L2.Tb Tb0 H (upd H4 D (.lst (π.map fun (i:Nat)=>V.int i))):=((Same.tb S3).trans tb4).trans (Same.tb S5);have hT5:=LamT.same S5 hT4;have hD5:(upd H4 D (.lst (π.map fun (i:Nat)=>V.int i))) D=some (.lst (π.map fun (i:Nat)=>V.int i)):=aS;have hLg5:=S5 _ _ hLg4;have hLt5:=S5 _ _ hLt4;generalize upd H4 D (.lst (π.map fun (i:Nat)=>V.int i))=H5 at tb5 hT5 hD5 hLg5 hLt5 ⊢;have hLtN:∀ o,H Lt=some o→False:=fun o e=>by rw [S2 _ _ e] at hLt;cases hLt
 clear hLg4 hLt4 S5 hD hTb4 hT4 tb4 hLg3 hLt3 hT3 hTb3 hLg2 hLt S2 h1 S1 hLg S3;refine ⟨D,rfl,⟨_,SqL.of hD5⟩,?_⟩;have tkE:∀ {H':Hp},L2.Tb Tb0 H H'→TupK H H':=fun e=>Tb.tupK (LamT.tbl hT) e
 refine ki (K:=K) (a:=D) (xs:=π.map fun (i:Nat)=>V.int i) (fun i σ HA=>L2.Tb Tb0 H HA∧L2.LamT Tb0 lp lq HA∧HA D=some (.lst (π.map fun (i:Nat)=>V.int i))∧∃ (La:ao) (v3 v4 v5:Option V),σ=[some (.ref t),some (.ref La),some (.ref Lt),v3,v4,v5]∧La≠Lt∧HA La=some (.lst (((π.take i).foldl (fH sp) (jO mn,[])).1.map V.int))∧HA Lt=some (.lst (((π.take i).foldl (fH sp) (jO mn,[])).2.map fun (i:Nat)=>V.int i)))
  ⟨tb5,hT5,hD5,Lg,none,none,none,rfl,hgt,hLg5,hLt5⟩ (fun i σ HA _ ⟨_,_,h,_⟩=>SqL.of h) ?_ ?_
 ·rintro i x σ HA hx ⟨tbA,hTA,hDA,La,v3,v4,v5,rfl,nLa,hLa,hLtA⟩
  rw [ay] at hx;obtain ⟨j,hj,rfl⟩:=bx.mp hx;have hjn:j<sp.length:=O.lt (bp hj);have hvA:=cU (tkE tbA) hv;obtain ⟨t',p',ys',e0,htA,hpA,hlA,hyA⟩:=gu hvA;cases e0;obtain ⟨q,hq,hq2⟩:=hyA j _ (i8 hjn);obtain ⟨s0,s1,g0,g1⟩:=E _ (eX hjn);have fold:(π.take (i+1)).foldl (fH sp) (jO mn,[])=fH sp ((π.take i).foldl (fH sp) (jO mn,[])) j:=by
   rw [bt,hj];show (π.take i++[j]).foldl _ _=_;rw [eP];rfl
  rw [fold];obtain ⟨gl,gb⟩:((π.take i).foldl (fH sp) (jO mn,[])).1.length=mn∧((π.take i).foldl (fH sp) (jO mn,[])).2.length≤sp.length:=by
   refine ⟨(oq E (π.take i) _ _ [] (fun i hi=>O.lt (jo hi)) (Rl.start mn)).1.len,?_⟩;have:=(jP sp (π.take i) (jO mn,[])).2;rw [bH] at this;have h2:=O.len;show _≤_;have h3:((jO mn,([]:List Nat)).2).length=0:=rfl;omega
  generalize (π.take i).foldl (fH sp) (jO mn,[])=c at hLa hLtA gl gb ⊢;obtain ⟨gs,tk⟩:=c;have hLa:HA La=some (.lst (gs.map V.int)):=hLa;have hLtA:HA Lt=some (.lst (tk.map fun (i:Nat)=>V.int i)):=hLtA;have gl:gs.length=mn:=gl;have gb:tk.length≤sp.length:=gb;have es:=ma (ts:=gs) s0 (by omega);have eg:=ma (ts:=gs) g0 (by omega);refine ⟨_,rfl,_,rfl,t,_,_,_,rfl,rfl,SqT.of htA,aO (j:=2) rfl,_,rfl,p',_,_,_,rfl,rfl,SqT.of hpA,aO (j:=j) hq,q,_,_,_,rfl,rfl,SqT.of hq2,aO (j:=0) rfl,La,_,_,_,rfl,rfl,SqL.of hLa,es,?_⟩;refine ⟨_,rfl,_,rfl,t,_,_,_,rfl,rfl,SqT.of htA,aO (j:=2) rfl,_,rfl,p',_,_,_,rfl,rfl,SqT.of hpA,aO (j:=j) hq,q,_,_,_,rfl,rfl,SqT.of hq2,aO (j:=1) rfl,La,_,_,_,rfl,rfl,SqL.of hLa,eg,?_⟩;refine ⟨_,rfl,_,rfl,rfl,_,rfl,?_⟩
  by_cases e:tm gs (sAt sp j).s=tm gs (sAt sp j).g
  ·have st:fH sp (gs,tk) j=(gs,tk):=by unfold fH;exact pf e
   rw [st,e,pA rfl];exact iteF ⟨tbA,hTA,hDA,La,_,_,_,rfl,nLa,hLa,hLtA⟩
  ·have st:fH sp (gs,tk) j=(iA gs (tm gs (sAt sp j).s) (tm gs (sAt sp j).g),tk++[j]):=by unfold fH;exact pe e
   rw [st,pB (fun z=>e (V.int.inj z))];refine iteT ?_;obtain ⟨x,hx⟩:∃ x,x=tm gs (sAt sp j).s:=⟨_,rfl⟩;obtain ⟨y,hy⟩:∃ y,y=tm gs (sAt sp j).g:=⟨_,rfl⟩;rw [←hx,←hy] at e ⊢;refine ⟨_,rfl,.inl ⟨rfl,_,SqL.of hLtA⟩,_,rfl,Lt,_,_,rfl,rfl,hLtA,lL (by rw [aa];omega),?_⟩;have hLt6:(upd HA Lt (.lst ((tk.map fun (i:Nat)=>V.int i)++[V.int j]))) Lt=some (.lst ((tk++[j]).map fun (i:Nat)=>V.int i)):=by rw [aS,aA];rfl
   have keep:∀ a o,a≠Lt→HA a=some o→(upd HA Lt (.lst ((tk.map fun (i:Nat)=>V.int i)++[V.int j]))) a=some o:=fun a o h e=>by rw [bf h];exact e
   have nTL:Tb0≠Lt:=fun z=>nLt z.symm
   have tb6:L2.Tb Tb0 H (upd HA Lt (.lst ((tk.map fun (i:Nat)=>V.int i)++[V.int j]))):=fun a o hn e=>keep a o (fun z=>by subst z;exact hLtN _ e) (tbA a o hn e)
   have hT6:L2.LamT Tb0 lp lq (upd HA Lt (.lst ((tk.map fun (i:Nat)=>V.int i)++[V.int j]))):=LamT.upd hTA (fun p u z=>by rw [hLtA] at z;cases z) fun ps z=>by rw [hLtA] at z;cases z
   have hD6:=keep _ _ nDt hDA;have hLa6:=keep _ _ nLa hLa;generalize upd HA Lt (.lst ((tk.map fun (i:Nat)=>V.int i)++[V.int j]))=HB at hLt6 keep tb6 hT6 hD6 hLa6 ⊢;refine ⟨_,rfl,La,rfl,⟨_,SqL.of hLa6⟩,?_⟩;refine l3 (K:=K) (a:=La) (xs:=gs.map V.int) (fun i zs HC=>HC=HB∧zs=(iA (gs.take i) x y).map V.int) ⟨rfl,rfl⟩ (fun i zs HC hi ⟨e1,e2⟩=>?_) (by rw [aa];exact fb (by omega)) (fun i v zs HC hv ⟨e1,e2⟩=>?_) (fun zs HC ⟨e1,e2⟩ L hL=>?_)
   ·subst e1
    refine ⟨SqL.of hLa6,?_⟩;rw [aa] at hi;rw [e2,aa];unfold iA;rw [aa,bH];omega
   ·subst e1
    rw [ay] at hv;obtain ⟨g,hg,rfl⟩:=bx.mp hv;refine iB ?_;have nx:zs++[V.int (if g=y then x else g)]=(iA (gs.take (i+1)) x y).map V.int:=by
     rw [e2];unfold iA;rw [bt,hg,aA,aA];rfl
    refine ⟨_,rfl,_,rfl,rfl,_,rfl,?_⟩
    by_cases eg:g=y
    ·rw [eg,pA rfl]
     refine iteT ⟨_,rfl,rfl,?_⟩;rw [←nx,pf eg]
    ·rw [pB (fun z=>eg (V.int.inj z))]
     refine iteF ⟨_,rfl,rfl,?_⟩;rw [←nx,pe eg]
   ·subst e1
    have eL:zs=(iA gs x y).map V.int:=by rw [e2,aa,bq]
    subst eL;have S7:Same HC (upd HC L (.lst ((iA gs x y).map V.int))):=Same.put (Same.refl HC) hL;have nLL:L≠Lt:=fun z=>by rw [z,hLt6] at hL;cases hL
    exact ⟨tb6.trans (Same.tb S7),LamT.same S7 hT6,S7 _ _ hD6,L,_,_,_,rfl,nLL,aS,S7 _ _ hLt6⟩
 ·rintro σ HA ⟨tbA,hTA,hDA,La,v3,v4,v5,rfl,nLa,hLa,hLtA⟩
  rw [aa,bq] at hLtA;have tl:(π.foldl (fH sp) (jO mn,[])).2.length≤40:=by
   have:=(jP sp π (jO mn,[])).2;have h2:=O.len;have h3:((jO mn,([]:List Nat)).2).length=0:=rfl;omega
  have hLtI:HA Lt=some (.lst (((jV sp mn π).2.map fun (i:Nat)=>(i:Int)).map V.int)):=by rw [hLtA,dv];rfl
  refine ⟨_,rfl,Lt,_,rfl,SqL.of hLtI,by rw [aa];exact cf tl (by decide),fun L ns hL pm pw=>?_⟩;have S7:Same HA (upd HA L (.lst (ns.map V.int))):=Same.put (Same.refl HA) hL;refine ⟨L,_,rfl,.inl (Rd.of aS),fun u H8 S8 hu=>?_⟩;exact k u H8 ns ((tbA.trans (Same.tb S7)).trans (Same.tb S8)) (LamT.same S8 (LamT.same S7 hTA)) hu ⟨π,O,pm,pw⟩
end
abbrev sFrom:cV:=top 6
abbrev sTo:cV:=top 7
section
variable {P:aW} {w:bz} {K:ak} {mg:Str→Option ae} {base:bE}
theorem scFrom:cu ["net","step","span"] pzb (defScope sFrom):=by trivial
theorem ok_from {f:ao}{fd:bu}(F:Fun K "leads_from" "leads_from" sFrom f fd):dN P w K mg base CX0 1 f fd pzb spFrom:=by
 refine F.ok scFrom (by contradiction) (fun cdv A outer s0 H vs Q E hr h=>?_);obtain ⟨v,q,b,m,sp,s,x,rfl,hv,hq,hx,k⟩:=h;obtain ⟨t,p,ys,rfl,ht,hp,hl,hy⟩:=gu hv;obtain ⟨qx,hqx,hqx2⟩:=hy s.i x hx;refine ⟨_,PSl.h (aR ⟨(bw (i:=2) scFrom.nd rfl (.inl rfl) (eh eY (ixZ (pv 0)) (ixZ (pv 1)) (fun _ _=>rfl)))⟩
  (dH ⟨(cw (mX (cA lQ (ixZ (pv 1)) ba (cZ _)) (ixZ (pv 2)) (ixZ (pv 2))))⟩)),?_⟩
 refine ⟨_,rfl,t,_,_,_,rfl,rfl,SqT.of ht,aO (j:=2) rfl,_,rfl,q,_,_,_,rfl,rfl,SqT.of hq,aO (j:=0) rfl,p,_,_,_,rfl,rfl,SqT.of hp,aO (j:=s.i) hqx,?_⟩;refine ⟨_,rfl,q,_,_,_,rfl,rfl,SqT.of hq,aO (j:=1) rfl,rfl,_,rfl,?_⟩;refine oX (fun h1=>?_) (fun h1=>?_)
 ·have h1:s.d=1:=by have:=pE h1;injection this
  refine ⟨_,rfl,qx,_,_,_,rfl,rfl,SqT.of hqx2,aO (j:=0) rfl,?_⟩;have e:frm x s.d=x.s:=pf h1;rw [←e];exact k
 ·have h1:s.d≠1:=fun z=>h1 (pA (by rw [z]))
  refine ⟨_,rfl,qx,_,_,_,rfl,rfl,SqT.of hqx2,aO (j:=1) rfl,?_⟩;have e:frm x s.d=x.g:=pe h1;rw [←e];exact k
theorem scTo:cu ["net","step","span"] pzb (defScope sTo):=by trivial
theorem ok_to {f:ao}{fd:bu}(F:Fun K "leads_to" "leads_to" sTo f fd):dN P w K mg base CX0 1 f fd pzb spTo:=by
 refine F.ok scTo (by contradiction) (fun cdv A outer s0 H vs Q E hr h=>?_);obtain ⟨v,q,b,m,sp,s,x,rfl,hv,hq,hx,k⟩:=h;obtain ⟨t,p,ys,rfl,ht,hp,hl,hy⟩:=gu hv;obtain ⟨qx,hqx,hqx2⟩:=hy s.i x hx;refine ⟨_,PSl.h (aR ⟨(bw (i:=2) scTo.nd rfl (.inl rfl) (eh eY (ixZ (pv 0)) (ixZ (pv 1)) (fun _ _=>rfl)))⟩
  (dH ⟨(cw (mX (cA lQ (ixZ (pv 1)) ba (cZ _)) (ixZ (pv 2)) (ixZ (pv 2))))⟩)),?_⟩
 refine ⟨_,rfl,t,_,_,_,rfl,rfl,SqT.of ht,aO (j:=2) rfl,_,rfl,q,_,_,_,rfl,rfl,SqT.of hq,aO (j:=0) rfl,p,_,_,_,rfl,rfl,SqT.of hp,aO (j:=s.i) hqx,?_⟩;refine ⟨_,rfl,q,_,_,_,rfl,rfl,SqT.of hq,aO (j:=1) rfl,rfl,_,rfl,?_⟩;refine oX (fun h1=>?_) (fun h1=>?_)
 ·have h1:s.d=1:=by have:=pE h1;injection this
  refine ⟨_,rfl,qx,_,_,_,rfl,rfl,SqT.of hqx2,aO (j:=1) rfl,?_⟩;have e:too x s.d=x.g:=pf h1;rw [←e];exact k
 ·have h1:s.d≠1:=fun z=>h1 (pA (by rw [z]))
  refine ⟨_,rfl,qx,_,_,_,rfl,rfl,SqT.of hqx2,aO (j:=0) rfl,?_⟩;have e:too x s.d=x.s:=pe h1;rw [←e];exact k
end
abbrev nQ:cV:=top 15
abbrev sWayB:cV:=top 16
abbrev sRingBy:cV:=top 17
inductive spSteps (vs:List V)(H:Hp)(Q:VK)(_:XK):Prop
 | mk (v u b m sp tk x:_)(_:vs=[v,.ref u,.int x])(_:IsD H v (ko b m sp))(_:H u=some (.tup (tk.map fun (i:Nat)=>V.int i)))(_:(∀ i∈tk,i<sp.length))(_:tk.length≤40)(_:∀ L H' zs,Same H H'→H L=none→H' L=some (.lst zs)→IsDs H' zs (cY Stp.row (dI sp tk x))→Q (.ref L) H')
inductive spWayBt (vs:List V)(H:Hp)(Q:VK)(_:XK):Prop
 | mk (v u b m sp tk be en:_)(_:vs=[v,.ref u,.int be,.int en])(_:IsD H v (ko b m sp))(_:NetT b m sp)(_:H u=some (.tup (tk.map fun (i:Nat)=>V.int i)))(_:(∀ i∈tk,i<sp.length))(_:tk.length≤40)(_:0≤be)(_:be<m)(_:Held sp tk be en)(_:∀ q H' p,Same H H'→IsD H' q (mY p)→WayR sp tk be en p→Q q H')
inductive spRingBy (T:ao)(lp:Pos)(lq:Str)(vs:List V)(H:Hp)(Q:VK)(_:XK):Prop
 | mk (v b m sp k:_)(_:vs=[v,.int (k:Nat)])(_:IsD H v (ko b m sp))(_:NetT b m sp)(_:L2.LamT T lp lq H)(_:k<sp.length)(_:∀ q H' (l π:List Nat) p,L2.Tb T H H'→L2.LamT T lp lq H'→IsD H' q (mY (⟨k,1⟩::p))→IsFor m.toNat sp (l.map fun (i:Nat)=>(i:Int))→Ordd sp π→l.Perm (jV sp m.toNat π).2→WayR sp l (sAt sp k).g (sAt sp k).s p→Q q H')
def DW (H:Hp):List (Key×V)→List (Int×List Stp)→Prop:=jf fun (p:Key×V) (q:Int×List Stp)=>p.1= .inl q.1∧IsD H p.2 (mY q.2)
theorem DW.none {H:Hp}{x:Int}:∀ {kvs:List (Key×V)} {l:List (Int×List Stp)},DW H kvs l→lkW l x=none→l7 kvs (.inl x)=none
 | _,_,.nil,_=>rfl
 | _,_,.cons (b:=q) r t,h=>by
  rw [kf] at h
  by_cases e:q.1=x
  ·rw [pf e] at h;cases h
  ·rw [pe e] at h
   rw [gQ (fun z=>e (Sum.inl.inj (r.1.symm.trans z)))];exact DW.none t h
theorem DW.some {H:Hp}{x:Int}{ws:List Stp}:∀ {kvs:List (Key×V)} {l:List (Int×List Stp)},DW H kvs l→lkW l x=some ws→∃ v,l7 kvs (.inl x)=some v∧IsD H v (mY ws)
 | _,_,.nil,h=>by cases h
 | _,_,.cons (b:=q) r t,h=>by
  rw [kf] at h
  by_cases e:q.1=x
  ·rw [pf e] at h
   cases h;exact ⟨_,hV (by rw [r.1,e]),r.2⟩
  ·rw [pe e] at h
   rw [gQ (fun z=>e (Sum.inl.inj (r.1.symm.trans z)))];exact DW.some t h
theorem oK {H H':Hp}{v:V}{ws:List Stp}(e:TupK H H')(h:IsD H v (mY ws)):IsD H' v (mY ws):=by
 obtain ⟨p,ys,rfl,hp,_,r⟩:=iL h;exact .tup (e _ _ hp) (bT e r)
theorem DW.keep {H H':Hp}(e:TupK H H'){kvs:List (Key×V)}{l:List (Int×List Stp)}(h:DW H kvs l):DW H' kvs l:=L2.Paired.mapP h fun _ _ z=>⟨z.1,oK e z.2⟩
theorem DW.len {H:Hp}:∀ {kvs:List (Key×V)} {l:List (Int×List Stp)},DW H kvs l→kvs.length=l.length
 | _,_,.nil=>rfl
 | _,_,.cons _ t=>pG (· + 1) (DW.len t)
theorem DW.snoc {H:Hp}{p:Key×V}{q:Int×List Stp}(h:p.1= .inl q.1∧IsD H p.2 (mY q.2)):∀ {kvs:List (Key×V)} {l:List (Int×List Stp)},DW H kvs l→DW H (kvs++[p]) (l++[q])
 | _,_,.nil=> .cons h .nil
 | _,_,.cons r t=> .cons r (DW.snoc h t)
structure JW (H Hc:Hp)(Da La:ao)(c:List (Int×List Stp)×List Int):Prop where
 same:Same H Hc
 da:∃ kvs,Hc Da=some (.dK kvs)∧DW Hc kvs c.1
 la:Hc La=some (.lst (c.2.map V.int))
theorem JW.on {H Hc Hc':Hp}{Da La:ao}{c:List (Int×List Stp)×List Int}(j:JW H Hc Da La c)(e:Same Hc Hc'):JW H Hc' Da La c:=by
 obtain ⟨kvs,h1,h2⟩:=j.da;exact ⟨j.same.trans e,⟨kvs,e _ _ h1,h2.keep (Same.tupK e)⟩,e _ _ j.la⟩
theorem JW.upL {H Hc:Hp}{Da La:ao}{c:List (Int×List Stp)×List Int}{td:List Int}(j:JW H Hc Da La c)(hL:H La=none)(n:Da≠La):JW H (upd Hc La (.lst (td.map V.int))) Da La (c.1,td):=by
 obtain ⟨kvs,h1,h2⟩:=j.da;exact ⟨fun a o e=>by rw [bf (aY e hL)];exact j.same a o e,⟨kvs,by rw [bf n];exact h1,h2.keep (eM j.la)⟩,aS⟩
theorem mapI_at {l:List Nat}{i:Nat}{x:V}(h:(l.map fun (i:Nat)=>V.int i)[i]? =some x):∃ j,l[i]? =some j∧x=V.int (j:Nat):=by
 rw [ay] at h;obtain ⟨j,hj,rfl⟩:=bx.mp h;exact ⟨j,hj,rfl⟩
theorem lJ {sp:List Sn}{s:Stp}(h:s.i<sp.length):too (sAt sp s.i) s.d=eV sp s∧frm (sAt sp s.i) s.d=kt sp s:=by
 have e:sAt sp s.i=sp[s.i]:=by unfold sAt;rw [ai,gE h];rfl
 rw [e];exact ⟨(j5 h).symm,(lh h).symm⟩
theorem last_mem {l:List Int}{z:Int}(h:l.getLast? =some z):z∈l:=by
 obtain ⟨ys,rfl⟩:=List.getLast?_eq_some_iff.mp h;simp
section
variable {P:aW} {w:bz} {K:ak} {mg:Str→Option ae} {base:bE}
theorem scSteps:cu ["net","spans","happening","steps"] pzh (defScope nQ):=by trivial
theorem ok_steps {f f1:ao}{fd fd1:bu}(F:Fun K "steps_from" "steps_from" nQ f fd)(G1:Fn K mg "leads_from" sFrom pzb f1 fd1):dN P w K mg base CX0 2 f fd pzh spSteps:=by
 have F1:dN P w K mg base CX0 1 f1 fd1 pzb spFrom:=ok_from G1.F;refine F.ok scSteps (by contradiction) (fun cdv A outer s H vs Q E hr h=>?_);obtain ⟨v,u,b,m,sp,tk,x,rfl,hv,hu,hlt,few,k⟩:=h;have hr1:=hr;refine ⟨_,PSl.h (aR ⟨(bw (i:=3) scSteps.nd rfl (.inl rfl) (bX mx (i3 (fr:=[]) (js:=[]) rfl (kD (pv 1)) (by trivial) rfl (by trivial) rfl (by exists nQ) (by trivial) rfl (by trivial) (fun _ _ _ _ _=>⟨(d8 (ag (pv 0) (ag ba az))),i0⟩)) (i3 (fr:=[]) (js:=[]) rfl (kD (pv 1)) (by trivial) rfl (by trivial) rfl (by exists nQ) (by trivial) rfl (by trivial) (fun _ _ _ _ _=>⟨(d8 (ag (pv 0) (ag (mN km ba) az))),i0⟩))))⟩
  (dH ⟨(cw (i3 (fr:=["happening","net"]) (js:=[2,0]) rfl (jw (pv 3)) (by trivial) rfl (by trivial) rfl (by exists nQ) (by trivial) rfl (by trivial) (fun _ _ _ _ _=>⟨(pv 0),(pts_one (cA lQ (pc1 G1 F1 hr1 (ag (pv 2) (ag (pv 0) az))) (pv 1) (cZ _)))⟩)))⟩)),?_⟩
 have half:∀ (d:Int) (td:TE) (H0:Hp) (Rt:V→Hp→Prop),(∀ σ H1 (R:VK),R (.int d) H1→td σ H1 R)→Same H H0→(∀ L H' zs,Same H0 H'→H' L=some (.lst zs)→IsDs H' zs (cY Stp.row (tk.map fun i=>⟨i,d⟩))→Rt (.ref L) H') →
   CompW [] tNoIf (tTupA (nj (tVar 0) (nj td tNil))) [some v,some (.ref u),some (.int x),none] Rt (Itt K u) H0:=fun d td H0 Rt htd S0 fin=>by
  refine kR (K:=K) (a:=u) (xs:=tk.map fun (i:Nat)=>V.int i) (fun i zs HC=>Same H0 HC∧zs.length=i∧IsDs HC zs (cY Stp.row ((tk.take i).map fun i=>⟨i,d⟩))) ⟨Same.refl H0,rfl,.nil⟩ (fun i zs HC hi ⟨e1,e2,_⟩=>⟨SqT.of (e1 _ _ (S0 _ _ hu)),Nat.le_of_eq e2⟩) (by rw [aa];exact fb (by omega)) (fun i y zs HC hy ⟨e1,e2,e3⟩=>?_) (fun zs HC ⟨e1,e2,e3⟩ D hD=>?_)
  ·obtain ⟨j,hj,rfl⟩:=mapI_at hy
   refine iB ⟨_,rfl,htd _ _ _ ⟨l6,fun q H2 S2 h2=>⟨e1.trans S2,by rw [aq,e2];rfl,?_⟩⟩⟩;rw [bt,hj];show IsDs H2 (zs++[.ref q]) (cY Stp.row ((tk.take i++[j]).map fun i=>⟨i,d⟩));unfold cY at e3 ⊢;rw [aA,aA];exact (e3.same S2).append (.cons (.tup h2 (IsDs.ints (Stp.row ⟨j,d⟩))) .nil)
  ·have S2:=Same.put (Same.refl HC) hD (o:= .lst zs)
   rw [aa,bq] at e3;exact fin D _ zs (e1.trans S2) aS (e3.same S2)
 refine ⟨_,rfl,u,rfl,⟨_,SqT.of hu⟩,half 1 _ H _ (fun _ _ _ h=>h) (Same.refl H) fun L1 H1 z1 S1 h1 d1=>?_⟩;refine ⟨_,rfl,u,rfl,⟨_,SqT.of (S1 _ _ hu)⟩,half (-1) _ H1 _ (fun _ _ _ h=>⟨1,rfl,h⟩) S1 fun L2' H2 z2 S2 h2 d2=>?_⟩;have l1:z1.length=tk.length:=by rw [d1.length];unfold cY;rw [aa,aa]
 have l2:z2.length=tk.length:=by rw [d2.length];unfold cY;rw [aa,aa]
 refine ⟨L1,L2',_,_,rfl,rfl,S2 _ _ h1,h2,by rw [l1,l2];exact fb (by omega),fun L3 H3 S3 h3=>?_⟩;have d3:IsDs H3 (z1++z2) (cY Stp.row (stF tk)):=by
  unfold stF cY;rw [aA];exact ((d1.same S2).same S3).append (d2.same S3)
 have S03:=S1.trans (S2.trans S3);have hv3:=hv.same S03;refine ⟨_,rfl,L3,rfl,⟨_,SqL.of h3⟩,?_⟩;have ls:(z1++z2).length=(stF tk).length:=by rw [d3.length];unfold cY;rw [aa]
 refine l3 (K:=K) (a:=L3) (xs:=z1++z2) (fun i zs HC=>HC=H3∧zs.length≤i∧IsDs H3 zs (cY Stp.row (((stF tk).take i).filter fun s=>decide (kt sp s=x)))) ⟨rfl,bI _,.nil⟩ (fun i zs HC hi ⟨e1,e2,_⟩=>⟨by rw [e1];exact SqL.of h3,e2⟩) (by rw [aq,l1,l2];exact fb (by omega)) (fun i y zs HC hy ⟨e1,e2,e3⟩=>?_) (fun zs HC ⟨e1,e2,e3⟩ D hD=>?_)
 ·subst e1
  have hi:i<(stF tk).length:=by have:=(av.mp hy).1;omega
  have hsi:=gE hi;obtain ⟨y',hy',dy⟩:=d3.at (i:=i) (d:= .tup ((Stp.row (stF tk)[i]).map Dt.int)) (by unfold cY;rw [ay,hsi];rfl);rw [hy] at hy';cases hy';obtain ⟨q,qs,rfl,hq,rq⟩:=dy.tup_of;have eq:=rq.ints_of;subst eq;have hin:=hlt _ (mem_stF (bR hi)).1;refine ⟨_,rfl,_,rfl,v,q,b,m,sp,(stF tk)[i],sAt sp (stF tk)[i].i,rfl,hv3,hq,i8 hin,_,rfl,rfl,_,rfl,?_⟩;rw [(lJ hin).2];have nx:((stF tk).take (i+1)).filter (fun s=>decide (kt sp s=x))=((stF tk).take i).filter (fun s=>decide (kt sp s=x))++(if kt sp (stF tk)[i]=x then [(stF tk)[i]] else []):=by
   rw [bt,hsi,List.filter_append];show _++[(stF tk)[i]].filter _=_;rw [List.filter_cons,List.filter_nil]
   by_cases e:kt sp (stF tk)[i]=x
   ·rw [pf e,pf (pA e)]
   ·rw [pe e,pe (by rw [pB e];decide)]
  rw [nx]
  by_cases e:kt sp (stF tk)[i]=x
  ·rw [pf e,e,pA rfl]
   refine iteT ⟨_,rfl,rfl,by rw [aq];exact Nat.succ_le_succ e2,?_⟩;unfold cY at e3 ⊢;rw [aA];exact e3.append (.cons dy .nil)
  ·rw [pe e,pB (fun z=>e (V.int.inj z)),fv]
   exact iteF ⟨rfl,Nat.le_succ_of_le e2,e3⟩
 ·subst e1
  have S4:=Same.put (Same.refl HC) hD (o:= .lst zs);rw [ls,bq] at e3;exact k D _ zs (S03.trans S4) (Same.free S03 hD) aS (e3.same S4)
theorem oP:cu ["net","spans","begin","end","ways","ahead","here","step","there"] pzB (defScope sWayB):=by trivial
theorem ok_wayBt {f f1 f2:ao}{fd fd1 fd2:bu}(F:Fun K "way_between" "way_between" sWayB f fd)(G1:Fn K mg "steps_from" nQ pzh f1 fd1)(F1:dN P w K mg base CX0 2 f1 fd1 pzh spSteps)(G2:Fn K mg "leads_to" sTo pzb f2 fd2):dN P w K mg base CX0 3 f fd pzB spWayBt:=by
 have F2:dN P w K mg base CX0 1 f2 fd2 pzb spTo:=ok_to G2.F;refine F.ok oP (by contradiction) (fun cdv A outer s H vs Q E hr h=>?_);obtain ⟨v,u,b,m,sp,tk,be,en,rfl,hv,N,hu,hlt,few,be0,be1,held,k⟩:=h;have u1:=cf (Nat.add_le_add_left (by decide:1≤64) _) hr.units;have hr1:Room 1 _:=hr.mono (by decide);have E:=N.ends;have m16:m.toNat≤16:=by have:=N.m2;omega
 have b1:be<(m.toNat:Int):=by omega
 refine ⟨_,PSl.h (aR ⟨(bw (i:=4) oP.nd rfl (.inl rfl) (pe_disp (pps_cons (pv 2) (d8 az) pps_nil) rfl rfl (by decide) (by decide)))⟩
  (aR ⟨(bw (i:=5) oP.nd rfl (.inl rfl) (iq (ag (pv 2) az)))⟩
  (aR ⟨(mW bL (pt_cmp (lO u1 (pv 3) (pv 4)) rfl) (PSl.h (aR ⟨(bw (i:=6) oP.nd rfl (.inl rfl) (oU aZ eS eR oW (pv 5)))⟩
  (dH ⟨(iC bL rfl (jw (pc1 G1 F1 hr (ag (pv 0) (ag (pv 1) (ag (pv 6) az))))) (df (i:=7) oP.nd rfl (.inl rfl)) (PSl.h (aR ⟨(bw (i:=8) oP.nd rfl (.inl rfl) (pc1 G2 F2 hr1 (ag (pv 0) (ag (pv 7) az))))⟩
  (dH ⟨(gn (pt_cmp (lO u1 (pv 8) (pv 4)) rfl) (PSl.h (aR ⟨(ps_dput u1 (pv 4) (pv 8) (bX nZ (pe_dget u1 (pv 4) (pv 6) (fun _ _=>rfl)) (d8 (ag (pv 7) az))) rfl)⟩
  (dH ⟨(gL (kr aZ bZ bY gq (pv 5) (ag (pv 8) az)))⟩))) dO)⟩))))⟩))))⟩
  (dH ⟨(cw (pe_dget u1 (pv 4) (pv 3) (fun _ _=>rfl)))⟩)))),?_⟩
 intro Da hDa;refine ⟨_,rfl,bI _,fun q1 H1 S1 h1=>⟨S1 _ _ aS,[(.inl be,.ref q1)],rfl,(by show 1≤15;decide),?_⟩⟩;have S0:Same H (upd H Da (.dK [])):=Same.put (Same.refl H) hDa;have hDa1:H1 Da=some (.dK []):=S1 _ _ aS;have hDa2:(upd H1 Da (.dK (lR [] [(.inl be,.ref q1)]))) Da=some (.dK [(.inl be,.ref q1)]):=aS;have S2:Same H (upd H1 Da (.dK (lR [] [(.inl be,.ref q1)]))):=fun b o e=>by
  rw [bf (fun z=>by rw [z,hDa] at e;cases e)];exact S1 _ _ (S0 _ _ e)
 have hq1:(upd H1 Da (.dK (lR [] [(.inl be,.ref q1)]))) q1=some (.tup []):=by
  rw [bf (ie h1 hDa1 nofun)];exact h1
 generalize upd H1 Da (.dK (lR [] [(.inl be,.ref q1)]))=H2 at hDa2 S2 hq1 ⊢;clear hDa1 S0 S1 h1;refine ⟨_,rfl,szZ1,fun La hLa=>?_⟩;have nDL:Da≠La:=fun z=>by rw [z,hLa] at hDa2;cases hDa2
 have S3:Same H2 (upd H2 La (.lst [.int be])):=Same.put (Same.refl H2) hLa;have hLaH:H La=none:=by
  cases z:H La with
  | none=>rfl
  | some o=>rw [S2 _ _ z] at hLa;cases hLa
 have J3:JW H (upd H2 La (.lst [.int be])) Da La (itW sp tk be 0):=⟨S2.trans S3,⟨_,S3 _ _ hDa2,.cons ⟨rfl,.tup (S3 _ _ hq1) .nil⟩ .nil⟩,aS⟩;generalize upd H2 La (.lst [.int be])=H3 at J3 ⊢;clear S3 hLa hDa2 hq1 S2;have c0:(itW sp tk be 0).1.length+l4 (itW sp tk be 0).1≤17:=by
  have:l4 [(be,([]:List Stp))]≤16:=by
   unfold l4;have:=List.countP_le_length (p:=fun x:Nat=>(lkW [(be,([]:List Stp))] ((x:Nat):Int)).isNone) (l:=aP 16);rw [bo] at this;exact this
  show 1+l4 [(be,([]:List Stp))]≤17;omega
 have c1:2 * l4 (itW sp tk be 0).1+(itW sp tk be 0).2.length≤40:=by
  have e1:(itW sp tk be 0).1.length=1:=rfl;have e2:(itW sp tk be 0).2.length=1:=rfl;omega
 refine ⟨fun n σ HA=>∃ (i:Nat) (v6 v7 v8:Option V),n=2 * l4 (itW sp tk be i).1+(itW sp tk be i).2.length∧n≤40∧σ=[some v,some (.ref u),some (.int be),some (.int en),some (.ref Da),some (.ref La),v6,v7,v8]∧JW H HA Da La (itW sp tk be i)∧WI m.toNat sp tk be (itW sp tk be i)∧Clo sp tk (fun _=>False) (itW sp tk be i)∧(itW sp tk be i).1.length+l4 (itW sp tk be i).1≤17∧∀ j,j<i→lkW (itW sp tk be j).1 en=none,
  ⟨_,0,none,none,none,rfl,c1,rfl,J3,(start_ok be0 b1).1,(start_ok be0 b1).2,c0,fun j hj=>pj hj (Nat.not_lt_zero _)⟩,?_⟩
 rintro n σ HA ⟨i,v6,v7,v8,rfl,n40,rfl,JA,WA,CA,lA,bA⟩;obtain ⟨kvs,hDaA,dwA⟩:=JA.da;refine ⟨_,rfl,_,rfl,Da,_,rfl,DGet.k (k:= .inl en) hDaA,_,rfl,?_⟩;cases hen:lkW (itW sp tk be i).1 en with
 | some p =>
  obtain ⟨vp,hvp,dp⟩:=dwA.some hen;rw [hvp];refine iteF ⟨_,rfl,_,rfl,Da,vp,rfl,?_,k vp HA p JA.same dp ⟨i,hen,bA⟩⟩;have:=DGet.k (k:= .inl en) hDaA;rw [hvp] at this;exact this
 | none =>
  rw [dwA.none hen];refine iteT ⟨_,fun σ' H' z=>z,?_⟩;have hne:=left_of hlt held WA CA hen;obtain ⟨t1,t2,t3,t4⟩:=turn_ok E m16 hlt WA CA hne;have hlast:(itW sp tk be i).2.getLast? =some (kI (itW sp tk be i).2):=by
   unfold kI;rw [List.getLast?_eq_some_getLast hne];rfl
  have hget:((itW sp tk be i).2.map V.int)[((itW sp tk be i).2.map V.int).length - 1]? =some (V.int (kI (itW sp tk be i).2)):=by
   rw [aa,ay,←List.getLast?_eq_getElem?,hlast];rfl
  refine ⟨_,rfl,.inl ⟨rfl,_,SqL.of JA.la⟩,La,_,_,rfl,rfl,JA.la,hget,?_⟩;have JB:=JA.upL (td:=(itW sp tk be i).2.dropLast) hLaH nDL;rw [List.map_dropLast] at JB;generalize upd HA La (.lst ((itW sp tk be i).2.map V.int).dropLast)=HB at JB ⊢;have hx:lkW (itW sp tk be i).1 (kI (itW sp tk be i).2)≠none:=WA.ahd _ (last_mem hlast);have W0:WI m.toNat sp tk be ((itW sp tk be i).1,(itW sp tk be i).2.dropLast):=⟨WA.pth,WA.rng,fun y hy=>WA.ahd y ((List.dropLast_sublist _).subset hy),WA.beg⟩;have C0:Clo sp tk (· =kI (itW sp tk be i).2) ((itW sp tk be i).1,(itW sp tk be i).2.dropLast):=fun y hy hn ex t ht'=>CA y hy (fun z=>by
   rw [List.getLast?_eq_some_iff] at hlast;obtain ⟨ys,hys⟩:=hlast;rw [hys,fX] at hn;rw [hys] at z
   rcases aM.mp z with z | z
   ·exact hn z
   ·exact ex (aw.mp z)) (fun z=>z) t ht'
  have eT:itW sp tk be (i+1)=(dI sp tk (kI (itW sp tk be i).2)).foldl (g9 sp (kI (itW sp tk be i).2)) ((itW sp tk be i).1,(itW sp tk be i).2.dropLast):=rfl;have bN:∀ j,j<i+1→lkW (itW sp tk be j).1 en=none:=fun j hj=>by
   rcases iF.mp hj with h | h
   ·exact bA j h
   ·rw [h];exact hen
  rw [show oG sp tk (itW sp tk be i)=itW sp tk be (i+1) from rfl] at t1 t2 t3 t4;generalize kI (itW sp tk be i).2=x at hx C0 eT ⊢;generalize hc:((itW sp tk be i).1,(itW sp tk be i).2.dropLast)=c at JB W0 C0 eT;have hx:lkW c.1 x≠none:=by rw [←hc];exact hx
  have lc:c.1.length+l4 c.1≤17:=by rw [←hc];exact lA
  have lc2:2 * l4 c.1+c.2.length≤40:=by
   rw [←hc];show 2 * l4 (itW sp tk be i).1+(itW sp tk be i).2.dropLast.length≤40;rw [List.length_dropLast];omega
  refine ⟨_,rfl,_,rfl,_,rfl,v,u,b,m,sp,tk,x,rfl,hv.same JB.same,JB.same _ _ hu,hlt,few,fun L HC zs SC fL hL dz=>⟨L,rfl,⟨_,SqL.of hL⟩,?_⟩⟩;have nLL:L≠La:=fun z=>by rw [z,JB.la] at fL;cases fL
  have JC:=JB.on SC;clear JB hc;have vis:∀ j:Nat,WI m.toNat sp tk be (((dI sp tk x).take j).foldl (g9 sp x) c)∧lkW (((dI sp tk x).take j).foldl (g9 sp x) c).1 x≠none∧(((dI sp tk x).take j).foldl (g9 sp x) c).1.length≤17∧(((dI sp tk x).take j).foldl (g9 sp x) c).2.length≤40:=fun j=>by
   obtain ⟨b1,_,_,b4,b5,b6⟩:=nc E m16 hlt (L:=(dI sp tk x).take j) W0 hx (fun t h=>jo h) C0;exact ⟨b1,by rw [b4 x hx];exact hx,by omega,by omega⟩
  have lz:zs.length=(dI sp tk x).length:=by rw [dz.length];unfold cY;rw [aa]
  refine ki (K:=K) (a:=L) (xs:=zs) (fun j σ HD=>JW H HD Da La (((dI sp tk x).take j).foldl (g9 sp x) c)∧HD L=some (.lst zs)∧IsDs HD zs (cY Stp.row (dI sp tk x))∧∃ w7 w8,σ=[some v,some (.ref u),some (.int be),some (.int en),some (.ref Da),some (.ref La),some (.int x),w7,w8]) ⟨JC,hL,dz,_,_,rfl⟩ (fun j σ HD _ ⟨_,h,_⟩=>SqL.of h) ?_ ?_
  ·rintro j y σ HD hy ⟨JD,hLD,dD,w7,w8,rfl⟩
   have hj:j<(dI sp tk x).length:=by have:=(av.mp hy).1;omega
   have hsj:=gE hj;obtain ⟨y',hy',dy⟩:=dD.at (i:=j) (d:= .tup ((Stp.row (dI sp tk x)[j]).map Dt.int)) (by unfold cY;rw [ay,hsj];rfl);rw [hy] at hy';cases hy';obtain ⟨q,qs,rfl,hq,rq⟩:=dy.tup_of;have eq:=rq.ints_of;subst eq;have hmem:(dI sp tk x)[j]∈dI sp tk x:=bR hj;have hin:=hlt _ (mem_stF (cN.mp hmem).1).1;have fold:((dI sp tk x).take (j+1)).foldl (g9 sp x) c=g9 sp x (((dI sp tk x).take j).foldl (g9 sp x) c) (dI sp tk x)[j]:=by
    rw [bt,hsj];show ((dI sp tk x).take j++[(dI sp tk x)[j]]).foldl _ _=_;rw [eP];rfl
   rw [fold];obtain ⟨Wj,xj,kj,aj⟩:=vis j;generalize ((dI sp tk x).take j).foldl (g9 sp x) c=d at JD Wj xj kj aj;generalize (dI sp tk x)[j]=st at hq hin dy;refine ⟨_,rfl,_,rfl,v,q,b,m,sp,st,sAt sp st.i,rfl,hv.same JD.same,hq,i8 hin,?_⟩;rw [(lJ hin).1];obtain ⟨kv2,hDaD,dwD⟩:=JD.da;refine ⟨_,rfl,_,rfl,Da,_,rfl,DGet.k (k:= .inl (eV sp st)) hDaD,_,rfl,?_⟩;cases hto:lkW d.1 (eV sp st) with
   | some p0 =>
    obtain ⟨vp,hvp,_⟩:=dwD.some hto;rw [hvp];have ev:g9 sp x d st=d:=by unfold g9;exact pe (by rw [hto];exact fun z=>nomatch z)
    rw [ev];exact iteF ⟨JD,hLD,dD,_,_,rfl⟩
   | none =>
    rw [dwD.none hto];refine iteT ?_;obtain ⟨ws,hws⟩:∃ ws,lkW d.1 x=some ws:=Option.ne_none_iff_exists'.mp xj;have ev:g9 sp x d st=(d.1++[(eV sp st,ws++[st])],d.2++[eV sp st]):=by
     unfold g9;rw [pf hto,hws];rfl
    rw [ev];obtain ⟨vw,hvw,dw⟩:=dwD.some hws;obtain ⟨pw,yw,rfl,hpw,hlw,rw'⟩:=iL dw;have hget':DGet HD Da (V.int x) (some (.ref pw)):=by
     have:=DGet.k (k:= .inl x) hDaD;rw [hvw] at this;exact this
    have lw:=((Wj.pth x ws hws).1.len E be0 b1);refine ⟨_,rfl,_,rfl,Da,.ref pw,rfl,hget',_,rfl,szZ1,fun q4 H16 S16 h16=>⟨pw,q4,_,_,rfl,rfl,S16 _ _ hpw,h16,?_,fun q5 H17 S17 h17=>?_⟩⟩
    ·rw [hlw];exact bj (by show ws.length+1≤1000;omega) (by decide)
    have ST:=S16.trans S17;have hDa7:=ST _ _ hDaD;have dw7:=dwD.keep (Same.tupK ST);have hLa7:=ST _ _ JD.la;have hL7:=ST _ _ hLD;have dD7:=dD.same ST;have S7:=JD.same.trans ST;have lk:kv2.length≤17:=by rw [dwD.len];exact kj
    refine ⟨_,rfl,_,rfl,Da,_,rfl,DPut.k (k:= .inl (eV sp st)) hDa7 (cf (by omega:kv2.length≤999) (by decide)),?_⟩;have hway:IsD H17 (.ref q5) (mY (ws++[st])):=by
     refine .tup h17 ?_;rw [aA];exact (rw'.same ST).append (.cons (dy.same ST) .nil)
    rw [putK_new _ (dwD.none hto)];have K8:TupK H17 (upd H17 Da (.dK (kv2++[(.inl (eV sp st),.ref q5)]))):=fun q xs h=>by rw [bf (ie h hDa7 nofun)];exact h
    have hDa8:(upd H17 Da (.dK (kv2++[(.inl (eV sp st),.ref q5)]))) Da=some (.dK (kv2++[(.inl (eV sp st),.ref q5)])):=aS;have dw8:DW (upd H17 Da (.dK (kv2++[(.inl (eV sp st),.ref q5)]))) (kv2++[(.inl (eV sp st),.ref q5)]) (d.1++[(eV sp st,ws++[st])]):=DW.snoc ⟨rfl,oK K8 hway⟩ (dw7.keep K8);have hLa8:(upd H17 Da (.dK (kv2++[(.inl (eV sp st),.ref q5)]))) La=some (.lst (d.2.map V.int)):=by rw [bf nDL.symm];exact hLa7
    have nLD:L≠Da:=ie hLD hDaD nofun;have hL8:(upd H17 Da (.dK (kv2++[(.inl (eV sp st),.ref q5)]))) L=some (.lst zs):=by rw [bf nLD];exact hL7
    have S8:Same H (upd H17 Da (.dK (kv2++[(.inl (eV sp st),.ref q5)]))):=fun a o e=>by rw [bf (aY e hDa)];exact S7 a o e
    have dD8:IsDs (upd H17 Da (.dK (kv2++[(.inl (eV sp st),.ref q5)]))) zs (cY Stp.row (dI sp tk x)):=bT K8 dD7;generalize upd H17 Da (.dK (kv2++[(.inl (eV sp st),.ref q5)]))=H8 at hDa8 dw8 hLa8 hL8 S8 dD8 ⊢;refine ⟨_,rfl,.inl ⟨rfl,_,SqL.of hLa8⟩,_,rfl,La,_,_,rfl,rfl,hLa8,lL (by rw [aa];omega),?_⟩;have J8:JW H H8 Da La (d.1++[(eV sp st,ws++[st])],d.2):=⟨S8,⟨_,hDa8,dw8⟩,hLa8⟩;have J9:=J8.upL (td:=d.2++[eV sp st]) hLaH nDL;rw [aA] at J9;refine ⟨J9,?_,bT (eM hLa8) dD8,_,_,rfl⟩;rw [bf nLL];exact hL8
  ·rintro σ HD ⟨JD,hLD,dD,w7,w8,rfl⟩
   rw [lz,bq,←eT] at JD;exact ⟨_,t3,i+1,_,_,_,rfl,by omega,rfl,JD,t1,t2,by omega,bN⟩
end
theorem IsFor.natsF {m:Nat}{sp:List Sn}{ns:List Int}(a:IsFor m sp ns):∃ (l π:List Nat),ns=l.map (fun (i:Nat)=>(i:Int))∧Ordd sp π∧l.Perm (jV sp m π).2:=by
 obtain ⟨π,o,p,_⟩:=a;have nn:∀ x∈ns,0≤x:=fun x hx=>by
  obtain ⟨i,_,rfl⟩:=bh.mp (p.mem_iff.mp hx);omega
 refine ⟨ns.map Int.toNat,π,?_,o,?_⟩
 ·rw [dv]
  conv=>lhs;rw [←List.map_id ns]
  exact iu fun x hx=>(gk (nn x hx)).symm
 ·have q:=p.map Int.toNat
  rw [dv] at q;have e:((jV sp m π).2.map (Int.toNat ∘ fun (i:Nat)=>(i:Int)))=(jV sp m π).2:=by
   conv=>rhs;rw [←List.map_id (jV sp m π).2]
   exact iu fun x _=>rfl
  rw [e] at q;exact q
theorem gone_ltF {m:Nat}{sp:List Sn}{π l:List Nat}(O:Ordd sp π)(pm:l.Perm (jV sp m π).2):∀ i∈l,i<sp.length:=fun i hi=>by
 rcases (jP sp π (jO m,[])).1 i (pm.mem_iff.mp hi) with z | z
 ·cases z
 ·exact O.lt z
section
variable {P:aW} {w:bz} {K:ak} {mg:Str→Option ae} {base:bE}
theorem scRingBy:cu ["net","span","start","goal"] pze (defScope sRingBy):=by trivial
theorem ok_ringBy {f f1 f2 Tb0:ao}{fd fd1 fd2:bu}{lp:Pos}{lq:Str}(F:Fun K "ring_by" "ring_by" sRingBy f fd)(G1:Fn K mg "way_between" sWayB pzB f1 fd1)(F1:dN P w K mg base CX0 3 f1 fd1 pzB spWayBt)
  (G2:Fn K mg "forest_of" kA pza f2 fd2) (F2:dN P w K mg base CX0 6 f2 fd2 pza (j7 Tb0 lp lq)):dN P w K mg base CX0 7 f fd pze (spRingBy Tb0 lp lq):=by
 refine F.ok scRingBy (by contradiction) (fun cdv A outer s H vs Q E hr h=>?_);obtain ⟨v,b,m,sp,k,rfl,hv,N,hT,hk,fin⟩:=h;obtain ⟨t,p,ys,rfl,ht,hp,hl,hy⟩:=gu hv;obtain ⟨q,hq,hq2⟩:=hy k _ (i8 hk);have hr1:Room 3 _:=hr.mono (by decide);have E:=N.ends;have few:=N.few;obtain ⟨a0,a1,b0,b1⟩:=E _ (eX hk);refine ⟨_,PSl.h (aR ⟨(bw (i:=2) scRingBy.nd rfl (.inl rfl) (ixZ (eh eY (ixZ (pv 0)) (pv 1) (fun _ _=>rfl))))⟩
  (aR ⟨(bw (i:=3) scRingBy.nd rfl (.inl rfl) (ixZ (eh eY (ixZ (pv 0)) (pv 1) (fun _ _=>rfl))))⟩
  (dH ⟨(cw (bX nZ (d8 (ag (d8 (ag (pv 1) (ag ba az))) az)) (pc1 G1 F1 hr1 (ag (pv 0) (ag (pc1 G2 F2 hr (ag (pv 0) az)) (ag (pv 3) (ag (pv 2) az)))))))⟩))),?_⟩
 refine ⟨_,rfl,t,_,_,_,rfl,rfl,SqT.of ht,aO (j:=2) rfl,_,rfl,p,_,_,_,rfl,rfl,SqT.of hp,aO (j:=k) hq,q,_,_,_,rfl,rfl,SqT.of hq2,aO (j:=0) rfl,?_⟩;refine ⟨_,rfl,t,_,_,_,rfl,rfl,SqT.of ht,aO (j:=2) rfl,_,rfl,p,_,_,_,rfl,rfl,SqT.of hp,aO (j:=k) hq,q,_,_,_,rfl,rfl,SqT.of hq2,aO (j:=1) rfl,?_⟩;refine ⟨_,rfl,l6,fun q1 H1 S1 h1=>⟨szZ1,fun q2 H2 S2 h2=>⟨_,rfl,_,rfl,.ref t,b,m,sp,rfl,hv.same (S1.trans S2),N,LamT.same (S1.trans S2) hT,fun u H3 ns tb3 hT3 hu F0=>?_⟩⟩⟩;have hT2:=LamT.same (S1.trans S2) hT;have K3:=Tb.tupK (LamT.tbl hT2) tb3;obtain ⟨l,π,rfl,O,pm⟩:=F0.natsF;have hlt:=gone_ltF O pm;have lfew:l.length≤40:=by have:=F0.len;rw [aa] at this;omega
 rw [dv] at hu;refine ⟨_,rfl,_,rfl,.ref t,u,b,m,sp,l,(sAt sp k).g,(sAt sp k).s,rfl,cU K3 (hv.same (S1.trans S2)),N,hu,hlt,lfew,b0,by have:=N.m1;omega,held_span E O pm hk,fun w4 H4 pth S4 d4 wr=>?_⟩;obtain ⟨pw,yw,rfl,hpw,hlw,rw'⟩:=iL d4;have hP:=WayR.pth E (by have:=N.m2;omega) hlt b0 b1 (held_span E O pm hk) wr;have ln:=hP.len E b0 b1;have h24:=S4 _ _ (K3 _ _ h2);have h14:=S4 _ _ (K3 _ _ (S2 _ _ h1));refine ⟨q2,pw,_,_,rfl,rfl,h24,hpw,?_,fun q5 H5 S5 h5=>?_⟩
 ·rw [hlw];have:=N.m2;exact bj (by show 1+pth.length≤1000;omega) (by decide)
 refine fin _ H5 l π pth ((Same.tb (S1.trans S2)).trans (tb3.trans (Same.tb (S4.trans S5)))) (LamT.same (S4.trans S5) hT3) ?_ F0 O pm wr;exact .tup h5 (.cons (.tup (S5 _ _ h14) (IsDs.ints (Stp.row ⟨k,1⟩))) (rw'.same S5))
end
abbrev sRingsO:cV:=top 19
theorem inV_intsF (x:Int):∀ p:List Int,inV (.int x) (p.map V.int)=decide (x∈p)
 | []=>by simp [inV]
 | y::p=>by
  have ih:=inV_intsF x p;unfold inV at ih ⊢;rw [bV,jj,ih]
  by_cases e:y=x
  ·subst e;simp [eqV]
  ·have:eqV (.int y) (.int x)=false:=by simp [eqV,e]
   rw [this];simp [aL,cp e]
theorem inV_nat (x:Nat)(l:List Nat):inV (.int (x:Int)) (l.map fun (i:Nat)=>V.int i)=decide (x∈l):=by
 have e:(l.map fun (i:Nat)=>V.int i)=(l.map fun (i:Nat)=>(i:Int)).map V.int:=by rw [dv];rfl
 rw [e,inV_intsF];refine decide_eq_decide.mpr ⟨fun h=>?_,fun h=>bh.mpr ⟨x,h,rfl⟩⟩;obtain ⟨j,hj,e⟩:=bh.mp h;have:j=x:=by omega
 rw [←this];exact hj
section
variable {P:aW} {w:bz} {K:ak} {mg:Str→Option ae} {base:bE}
theorem scRingsO:cu ["net","taken"] pza (defScope sRingsO):=by trivial
theorem ok_ringsO {f f1 f2 Tb0:ao}{fd fd1 fd2:bu}{lp:Pos}{lq:Str}(F:Fun K "rings_of" "rings_of" sRingsO f fd)(T:Nm mg)(T2:Nt mg)(G1:Fn K mg "forest_of" kA pza f1 fd1)(F1:dN P w K mg base CX0 6 f1 fd1 pza (j7 Tb0 lp lq))(G2:Fn K mg "ring_by" sRingBy pze f2 fd2)(F2:dN P w K mg base CX0 7 f2 fd2 pze (spRingBy Tb0 lp lq)):dN P w K mg base CX0 8 f fd pza (spRingsO Tb0 lp lq):=by
 refine F.ok scRingsO (by contradiction) (fun cdv A outer s H vs Q E hr h=>?_);obtain ⟨v,b,m,sp,rfl,hv,N,hT,k⟩:=h;have hr6:Room 6 _:=hr.mono (by decide);have E:=N.ends;have few:=N.few;have m1:=N.m1;refine ⟨_,PSl.h (aR ⟨(bw (i:=1) scRingsO.nd rfl (.inr rfl) (pc1 G1 F1 hr6 (ag (pv 0) az)))⟩
  (dH ⟨(cw (i3 (fr:=["net","taken"]) (js:=[0,1]) rfl (iE rfl T2.range (ag (cG bW rfl T.len bG (ag (ixZ (pv 0)) az)) az)) (by trivial) rfl (by trivial) rfl (by exists sRingsO) (by trivial) rfl (by trivial) (fun _ _ _ _ _=>⟨(pc1 G2 F2 hr (ag (pv 1) (ag (pv 0) az))),(pts_one (cA (r:=rIn K true) mL (pv 0) (pv 2) rfl))⟩)))⟩)),?_⟩
 refine ⟨_,rfl,v,b,m,sp,rfl,hv,N,hT,fun u H1 ns tb1 hT1 hu F0=>?_⟩;obtain ⟨l,π,rfl,O,pm⟩:=F0.natsF;have fr:FrstL m.toNat sp l:=⟨F0,π,O,pm⟩;rw [dv] at hu;have hu:H1 u=some (.tup (l.map fun (i:Nat)=>V.int i)):=hu;have hv1:=cU (Tb.lamT hT tb1) hv;obtain ⟨t,p,ys,rfl,ht,hp,hl,hy⟩:=gu hv1;refine ⟨_,rfl,t,_,_,_,rfl,rfl,SqT.of ht,aO (j:=2) rfl,p,_,rfl,.inr (SqT.of hp),_,rfl,by omega,by omega,?_⟩;refine kT (n:=((ys.length:Int)).toNat) (fun i zs HC=>L2.Tb Tb0 H1 HC∧L2.LamT Tb0 lp lq HC∧∃ rg:List (Nat×List Stp),zs.length≤i∧IsDs HC zs (rg.map wayQ)∧(∀ q∈rg,RK sp l q)∧rg.map (·.1)=(aP i).filter fun k=> !(decide (k∈l))) ⟨Tb.refl H1,hT1,[],aC _,.nil,fun _ h=>pj h (by simp),rfl⟩ (fun i zs HC hi ⟨_,_,_,e2,_⟩=>e2) (fb (by omega)) (fun i zs HC hi ⟨tb,hTC,rg,lz,dz,hrk,hks⟩=>?_) (fun zs HC ⟨tb,hTC,rg,lz,dz,hrk,hks⟩ D hD=>?_)
 ·rw [gG]
  have hin:i<sp.length:=by omega
  have KC:=Tb.lamT hT1 tb;have ef:(aP (i+1)).filter (fun k=> !(decide (k∈l)))=(aP i).filter (fun k=> !(decide (k∈l)))++(if i∈l then [] else [i]):=by
   rw [List.range_succ,List.filter_append];congr 1;rw [List.filter_cons,List.filter_nil]
   by_cases c:i∈l
   ·rw [pf c,pA c];rfl
   ·rw [pe c,pB c];rfl
  refine ⟨_,rfl,_,rfl,u,_,rfl,.inr (SqT.of (KC _ _ hu)),rfl,(by rw [List.all_map];exact List.all_eq_true.mpr fun _ _=>rfl),_,rfl,?_⟩;rw [inV_nat];show if (!(decide (i∈l)))=true then _ else _;rw [ef];refine oX (fun hc=>?_) (fun hc=>?_)
  rotate_left
  ·have c:i∈l:=by simpa using hc
   rw [pf c,fv];exact ⟨tb,hTC,rg,by omega,dz,hrk,hks⟩
  have c:i ∉ l:=by simpa using hc
  rw [pe c];refine ⟨_,rfl,_,rfl,.ref t,b,m,sp,i,rfl,cU KC hv1,N,hTC,hin,fun q HD l' π' pw tbD hTD dq F0' O' pm' wr=>?_⟩;have el:l'=l:=FrstL.one (m:=m.toNat) (sp:=sp) ⟨F0',π',O',pm'⟩ fr;subst el;obtain ⟨s0,s1,g0,g1⟩:=E _ (eX hin);have hlt:=(fr.pots E).nodup.2;have Pw:=WayR.pth E (by have:=N.m2;omega) hlt g0 g1 (fr.held E hin).symm wr;have KD:=Tb.lamT hTC tbD;refine ⟨tb.trans tbD,hTD,rg++[(i,⟨i,1⟩::pw)],by rw [aq];show zs.length+1≤i+1;omega,?_,fun q' hq'=>?_,by rw [aA,hks];rfl⟩
  ·rw [aA]
   exact (IsDs.keepP KD dz (k6 rg fun q _=>nV _ _)).append (.cons dq .nil)
  ·rcases aM.mp hq' with z | z
   ·exact hrk q' z
   ·rw [aw.mp z];exact ⟨hin,c,pw,rfl,Pw⟩
 ·have SD:Same HC (upd HC D (.lst zs)):=Same.put (Same.refl HC) hD
  have hDH:H D=none:=by
   cases z:H D with
   | none=>rfl
   | some o =>
    by_cases e:D=Tb0
    ·subst e
     obtain ⟨ps,hps⟩:=LamT.tbl hTC;rw [hps] at hD;cases hD
    ·have:=tb D o e (tb1 D o e z)
     rw [hD] at this;cases this
  refine k D zs l rg _ (tb1.trans (tb.trans (Same.tb SD))) (LamT.same SD hTC) hDH aS (dz.same SD) ⟨fr,hrk,?_⟩;rw [hks];unfold nS;rw [dA,hl]
end
abbrev sOverR:cV:=top 27
abbrev sMid:cV:=top 29
abbrev sDeadL:cV:=top 30
theorem noFree {n:List (Str×cL)}{p:Str×cL→Prop}(h:(n.all fun y=>y.2 != .free)=true):∀ y∈n,y.2= .free→p y:=fun y hy e=>by
 have:=List.all_eq_true.mp h y hy;rw [e] at this;exact pj this (by decide)
theorem pi_tupK {X:Cx}{K:ak}{tg l:Expr}{tl:TE}(e:X.K=K)(hl:PE X l tl):PI X tg l (iTup K tl):=e ▸ kD hl
section
variable {P:aW} {w:bz} {K:ak} {mg:Str→Option ae} {base:bE}
theorem scOverR:cu pzo pzo (defScope sOverR):=by trivial
theorem ok_overR {f:ao}{fd:bu}(F:Fun K "rings_over" "rings_over" sOverR f fd):dN P w K mg base CX0 1 f fd pzo spOverR:=by
 refine F.ok scOverR (by contradiction) (fun cdv A outer s H vs Q E hr h=>?_);obtain ⟨u,kk,rl,rg,rfl,hu,hrs,few,hlen,k⟩:=h;have lrl:rl.length=rg.length:=by rw [hrs.length,aa]
 refine ⟨_,PSl.h (dH ⟨(cw (i3 (fr:=["span"]) (js:=[1]) rfl (jw (pv 0)) (by trivial) rfl (by trivial) rfl (by exists sOverR) (by trivial) rfl (by trivial) (fun _ _ _ _ _=>⟨(pv 0),(pts_one (cA (r:=rIn K false) op_in_seq (pv 1) (by exact (i3 (fr:=[]) (js:=[]) rfl (pi_tupK (K:=K) rfl (pv 0)) (by trivial) rfl (by trivial) rfl (noFree (by trivial)) (by trivial) rfl (by trivial) (fun _ _ _ _ _=>⟨(eh (r:=rIxT K) eY (pv 0) ba (fun _ _=>rfl)),i0⟩))) rfl))⟩)))⟩),?_⟩;refine ⟨_,rfl,u,rfl,⟨_,SqL.of hu⟩,?_⟩;refine l3 (K:=K) (a:=u) (xs:=rl) (fun i zs HC=>Same H HC∧zs.length≤i∧IsDs HC zs (((rg.take i).filter (hI kk)).map wayQ)) ⟨Same.refl H,aC _,.nil⟩ (fun i zs HC hi ⟨S,e2,_⟩=>⟨SqL.of (S _ _ hu),e2⟩) (by rw [lrl];exact fb (by omega)) (fun i x zs HC hx ⟨S,e2,e3⟩=>?_) (fun zs HC ⟨S,e2,e3⟩ D hD=>?_)
 ·have hi:i<rg.length:=by have:=(av.mp hx).1;omega
  obtain ⟨d,ed,dx⟩:=hrs.get hx;rw [ay,gE hi] at ed;cases ed;have dx:IsD H x (mY rg[i].2):=dx;obtain ⟨px,yx,rfl,hpx,hlx,rx⟩:=iL dx;have et:(rg.take (i+1)).filter (hI kk)=(rg.take i).filter (hI kk)++(if hI kk rg[i]=true then [rg[i]] else []):=by
   rw [bt,gE hi,List.filter_append];congr 1;show List.filter _ [rg[i]]=_;rw [List.filter_cons];rfl
  have ln:=hlen _ (bR hi);refine ⟨_,rfl,_,rfl,px,rfl,⟨_,SqT.of (S _ _ hpx)⟩,?_⟩;refine kR (K:=K) (a:=px) (xs:=yx) (fun j ws HD=>HD=HC∧ws=((rg[i].2.take j).map fun s=>V.int (s.i:Int))) ⟨rfl,rfl⟩ (fun j ws HD hj ⟨e1,e2'⟩=>⟨by rw [e1];exact SqT.of (S _ _ hpx),by rw [e2',aa,bH];omega⟩) (by rw [hlx];exact fb ln) (fun j y ws HD hy' ⟨e1,e2'⟩=>?_) (fun ws HD ⟨e1,e2'⟩ D hD=>?_)
  ·subst e1
   have hj:j<rg[i].2.length:=by have:=(av.mp hy').1;omega
   obtain ⟨q,hq,hq2⟩:=iZ rx (gE hj);rw [hy'] at hq;cases hq;refine iB ?_;refine ⟨_,rfl,q,_,_,_,rfl,rfl,SqT.of (S _ _ hq2),aO (j:=0) rfl,rfl,?_⟩;rw [e2',bt,gE hj,aA];rfl
  ·subst e1
   have S1:Same HD (upd HD D (.lst ws)):=Same.put (Same.refl HD) hD;have hD1:(upd HD D (.lst ws)) D=some (.lst ws):=aS;generalize upd HD D (.lst ws)=HE at S1 hD1 ⊢;rw [hlx,bq] at e2';subst e2';refine ⟨D,_,rfl,.inl (SqL.of hD1),rfl,(by rw [List.all_map];exact List.all_eq_true.mpr fun _ _=>rfl),_,rfl,?_⟩;rw [show (rg[i].2.map fun s=>V.int (s.i:Int))=(rg[i].2.map Stp.i).map (fun (i:Nat)=>V.int i) by rw [dv];rfl,inV_nat,et];show if (decide (kk∈rg[i].2.map Stp.i))=true then _ else _;have eo:hI kk rg[i]=decide (kk∈rg[i].2.map Stp.i):=rfl;rw [eo];refine oX (fun c=>?_) (fun c=>?_)
   ·refine ⟨_,rfl,S.trans S1,by rw [aq];show zs.length+1≤i+1;omega,?_⟩
    rw [pf c,aA];exact (e3.same S1).append (.cons (dx.same (S.trans S1)) .nil)
   ·refine ⟨S.trans S1,by omega,?_⟩
    rw [pe c,fv];exact e3.same S1
 ·rw [lrl,bq] at e3
  have S1:Same HC (upd HC D (.lst zs)):=Same.put (Same.refl HC) hD;refine k D zs _ (S.trans S1) (Same.free S hD) aS (e3.same S1)
theorem scMid:cu ["case","span","bound"] pzl (defScope sMid):=by trivial
theorem ok_mid {f:ao}{fd:bu}(F:Fun K "middle_of" "middle_of" sMid f fd):dN P w K mg base CX0 1 f fd pzl spMid:=by
 refine F.ok scMid (by contradiction) (fun cdv A outer s H vs Q E hr h=>?_);obtain ⟨c,kk,bs,rs,rfl,hc,hk,k⟩:=h;obtain ⟨vb,u,rl,h1,h2,h3,h4⟩:=hc.ex;obtain ⟨pb,yb,rfl,hpb,hlb,rb⟩:=iL h2;obtain ⟨q,hq,hq2⟩:=iZ rb (gE hk);have e0:bs.getD kk (0,0)=bs[kk]:=by rw [ai,gE hk];rfl
 refine ⟨_,PSl.h (aR ⟨(bw (i:=2) scMid.nd rfl (.inl rfl) (eh eY (ixZ (pv 0)) (pv 1) (fun _ _=>rfl)))⟩
  (dH ⟨(cw (bX op_fdiv (bX dM (ixZ (pv 2)) (ixZ (pv 2))) ba))⟩)),?_⟩
 refine ⟨_,rfl,c,_,_,_,rfl,rfl,SqT.of h1,aO (j:=0) rfl,_,rfl,pb,_,_,_,rfl,rfl,SqT.of hpb,aO (j:=kk) hq,?_⟩;refine ⟨_,rfl,q,_,_,_,rfl,rfl,SqT.of hq2,aO (j:=0) rfl,_,rfl,q,_,_,_,rfl,rfl,SqT.of hq2,aO (j:=1) rfl,_,_,rfl,rfl,_,_,rfl,rfl,⟨by decide,by decide⟩,?_⟩;rw [e0] at k;exact k
theorem scDeadL:cu ["net","case","ring"] pzi (defScope sDeadL):=by trivial
theorem ok_deadL {f f1:ao}{fd fd1:bu}(F:Fun K "dead_leaf" "dead_leaf" sDeadL f fd)(G1:Fn K mg "is_dead" sDead pzg f1 fd1)(F1:dN P w K mg base CX0 3 f1 fd1 pzg spDead):dN P w K mg base CX0 4 f fd pzi spDeadL:=by
 refine F.ok scDeadL (by contradiction) (fun cdv A outer s H vs Q E hr h=>?_);obtain ⟨v,c,b,m,sp,bs,rs,rfl,hv,b0,b61,hc,few,hin,k⟩:=h;obtain ⟨vb,u,rl,h1,h2,h3,h4⟩:=hc.ex;have hr3:Room 3 _:=hr;have lrl:rl.length=rs.length:=by rw [h4.length,aa]
 refine ⟨_,PSl.h (aR ⟨(iC bL rfl (jw (ixZ (pv 1))) (df (i:=2) scDeadL.nd rfl (.inl rfl)) (cO (gn (jQ (pc1 G1 F1 hr3 (ag (pv 0) (ag (ixZ (pv 1)) (ag (pv 2) az))))) (cO (cw (d8 (ag kW (ag (pv 2) az))))) dO)))⟩
  (dH ⟨(cw jI)⟩)),?_⟩
 refine ⟨_,rfl,c,_,_,_,rfl,rfl,SqT.of h1,aO (j:=1) rfl,u,rfl,⟨_,SqL.of h3⟩,?_⟩;refine ki (K:=K) (a:=u) (xs:=rl) (fun i σ H1=>Same H H1∧(∀ q∈rs.take i,i5 b bs q.2=false)∧∃ v2,σ=[some v,some (.ref c),v2]) ⟨Same.refl H,fun _ h=>pj h (by simp),none,rfl⟩ (fun i σ H1 _ ⟨S,_⟩=>SqL.of (S _ _ h3)) ?_ ?_
 ·rintro i x σ H1 hx ⟨S1,hal,v2,rfl⟩
  have hi:i<rs.length:=by have:=(av.mp hx).1;omega
  obtain ⟨d,ed,dx⟩:=h4.get hx;rw [ay,gE hi] at ed;cases ed;have dx:IsD H x (mY rs[i].2):=dx;refine ⟨_,rfl,_,rfl,c,_,_,_,rfl,rfl,SqT.of (S1 _ _ h1),aO (j:=0) rfl,_,rfl,v,vb,x,b,m,sp,bs,rs[i].2,rfl,hv.same S1,b0,b61,h2.same S1,dx.same S1,hin _ (bR hi),fun H2 S2=>⟨_,rfl,oX (fun hc=>?_) (fun hc=>?_)⟩⟩
  ·refine ⟨_,rfl,l6,fun q3 H3 S3 h3'=>?_⟩
   exact k (.ref q3) H3 (S1.trans (S2.trans S3)) (.inr ⟨rs[i],bR hi,.tup h3' (.cons (.str _) (.cons (dx.same (S1.trans (S2.trans S3))) .nil)),hc⟩)
  ·refine ⟨S1.trans S2,fun q hq=>?_,_,rfl⟩
   rw [bt,gE hi] at hq
   rcases aM.mp hq with z | z
   ·exact hal q z
   ·rw [aw.mp z];exact gU.mpr hc
 ·rintro σ H1 ⟨S1,hal,v2,rfl⟩
  rw [lrl,bq] at hal;exact k .non H1 S1 (.inl ⟨rfl,hal⟩)
end
abbrev sFirst:cV:=top 8
section
variable {P:aW} {w:bz} {K:ak} {mg:Str→Option ae} {base:bE}
theorem scFirst:cu pza pza (defScope sFirst):=by trivial
theorem ok_first {f:ao}{fd:bu}(F:Fun K "first_bounds" "first_bounds" sFirst f fd)(T:Nm mg):dN P w K mg base CX0 1 f fd pza spFirst:=by
 refine F.ok scFirst (by contradiction) (fun cdv A outer s H vs Q E hr h=>?_);obtain ⟨v,b,m,sp,rfl,hv,few,k⟩:=h;obtain ⟨t,p,ys,rfl,ht,hp,hl,hy⟩:=gu hv;refine ⟨_,PSl.h (dH ⟨(cw (fA jx rfl T.ttup jC (ag (i3 (fr:=[]) (js:=[]) rfl (kD (ixZ (pv 0))) (by trivial) rfl (by trivial) rfl (by exists sFirst) (by trivial) rfl (by trivial) (fun _ _ _ _ _=>⟨(d8 (ag (eh (r:=rIxT K) eY (pv 0) ba (fun _ _=>rfl)) (ag (eh (r:=rIxT K) eY (pv 0) ba (fun _ _=>rfl)) az))),i0⟩)) az)))⟩),?_⟩;refine ⟨_,rfl,t,_,_,_,rfl,rfl,SqT.of ht,aO (j:=2) rfl,p,rfl,⟨_,SqT.of hp⟩,?_⟩;refine kR (K:=K) (a:=p) (xs:=ys) (fun i zs H2=>Same H H2∧IsDs H2 zs (((sp.take i).map fun x=>(x.l,x.o)).map fun x=> .tup ((bndR x).map Dt.int))) ⟨Same.refl H,.nil⟩ (fun i zs H2 hi ⟨e1,e2⟩=>?_) (by rw [hl];exact fb few) (fun i x zs H2 hx ⟨e1,e2⟩=>?_) (fun zs H2 ⟨e1,e2⟩ D hD=>?_)
 ·refine ⟨SqT.of (e1 _ _ hp),?_⟩
  rw [e2.length,aa,aa,bH];omega
 ·have hi:i<sp.length:=by rw [←hl];exact (av.mp hx).1
  obtain ⟨q,hq,hq2⟩:=hy i sp[i] (gE hi);rw [hx] at hq;cases hq;have hq3:=e1 _ _ hq2;refine iB ?_;refine ⟨_,rfl,q,_,_,_,rfl,rfl,SqT.of hq3,aO (j:=2) rfl,_,rfl,q,_,_,_,rfl,rfl,SqT.of hq3,aO (j:=3) rfl,l6,fun q4 H4 S4 h4=>⟨e1.trans S4,?_⟩⟩;rw [bt,gE hi,aA,aA];exact (e2.same S4).append (.cons (.tup h4 (IsDs.ints [sp[i].l,sp[i].o])) .nil)
 ·refine ⟨D,_,rfl,SqL.of aS,fun p3 H3 S3 h3=>?_⟩
  have S23:=(Same.put (o:= .lst zs) (Same.refl H2) hD).trans S3;refine k (.ref p3) H3 (e1.trans S23) (.tup h3 ?_);rw [hl,bq] at e2;exact e2.same S23
end
abbrev sWithB:cV:=top 24
theorem cutU {xs:List V}{i:Int}{n:Nat}(hi:i=(n:Int)):cutV xs none (some i)=xs.take n:=by
 unfold cutV;subst hi;have e:=HT.sIx_nat xs.length xs.length n;rw [e];show (xs.drop 0).take (min n xs.length - 0)=xs.take n;rw [List.drop_zero,Nat.sub_zero]
 by_cases h:n≤xs.length
 ·rw [Nat.min_eq_left h]
 ·rw [Nat.min_eq_right (by omega),bq,List.take_of_length_le (by omega)]
theorem cutF {xs:List V}{i:Int}{n:Nat}(hi:i=(n:Int)):cutV xs (some i) none=xs.drop n:=by
 unfold cutV;subst hi;have e:=HT.sIx_nat xs.length 0 n;rw [e];show (xs.drop (min n xs.length)).take (xs.length - min n xs.length)=xs.drop n
 by_cases h:n≤xs.length
 ·rw [Nat.min_eq_left h,List.take_of_length_le (by rw [dm];omega)]
 ·rw [Nat.min_eq_right (by omega),List.drop_length,List.drop_of_length_le (by omega),List.take_nil]
section
variable {P:aW} {w:bz} {K:ak} {mg:Str→Option ae} {base:bE}
theorem scWithB:cu pzp pzp (defScope sWithB):=by trivial
theorem ok_withB {f:ao}{fd:bu}(F:Fun K "with_bound" "with_bound" sWithB f fd):dN P w K mg base CX0 1 f fd pzp spWithB:=by
 refine F.ok scWithB (by contradiction) (fun cdv A outer s H vs Q E hr h=>?_);obtain ⟨vb,n,lo,hi,bs,rfl,hb,hn,few,k⟩:=h;obtain ⟨pb,yb,rfl,hpb,hlb,rb⟩:=iL hb;refine ⟨_,PSl.h (dH ⟨(cw (bX nZ (bX nZ (kN sl_tupN (pv 0) mw (mr (pv 1))) (d8 (ag (d8 (ag (pv 2) (ag (pv 3) az))) az))) (kN sl_tupN (pv 0) (mr (bX dM (pv 1) ba)) mw)))⟩),?_⟩;have lyb:yb.length≤40:=by omega
 refine ⟨_,rfl,_,rfl,_,rfl,pb,_,rfl,hpb,fun qB HB SB hB=>⟨_,rfl,_,rfl,l6,fun q1 H1 S1 h1=>⟨szZ1,fun qC HC SC hC=>?_⟩⟩⟩;rw [cutU (n:=n) rfl] at hB;refine ⟨qB,qC,_,_,rfl,rfl,SC _ _ (S1 _ _ hB),hC,?_,fun qD HD SD hD=>?_⟩
 ·rw [bH];exact bj (by show min n yb.length+1≤1000;omega) (by decide)
 refine ⟨_,rfl,_,rfl,_,_,rfl,rfl,_,rfl,pb,_,rfl,SD _ _ (SC _ _ (S1 _ _ (SB _ _ hpb))),fun qE HE SE hE=>?_⟩;rw [cutF (n:=n+1) (by omega)] at hE;refine ⟨qD,qE,_,_,rfl,rfl,SE _ _ hD,hE,?_,fun qF HF SF hF=>?_⟩
 ·rw [aq,bH,dm];exact bj (by show min n yb.length+1+(yb.length - (n+1))≤1000;omega) (by decide)
 have S1F:Same H1 HF:=SC.trans (SD.trans (SE.trans SF));have SF':Same H HF:=SB.trans (S1.trans S1F);refine k (.ref qF) HF SF' (.tup hF ?_);have e:bs.set n (lo,hi)=bs.take n++[(lo,hi)]++bs.drop (n+1):=by
  rw [mP,pf hn,List.append_assoc];rfl
 rw [e,aA,aA,jh,ji];exact ((IsDs.takeN n (rb.same SF')).append (.cons (.tup (S1F _ _ h1) (IsDs.ints [lo,hi])) .nil)).append (IsDs.dropN (n+1) (rb.same SF'))
end
abbrev cCuts:cV:=top 28
abbrev oR:cV:=clsOf cCuts 0
abbrev sSpanC:cV:=clsOf cCuts 1
abbrev sSidesC:cV:=clsOf cCuts 2
def lamPosC:List cV→Pos
 | [_,_,_,_,.Assign _ (.Call _ _ [⟨_,.Lambda _ _ _ lp,_⟩] _) _]=>lp
 | _=>⟨0,0,0,0⟩
abbrev lpC:Pos:=lamPosC (fY oR)
abbrev lqC:Str:=(("Cuts.__init__" :Str) ++ ".<locals>.") ++ "<lambda>"
theorem lenNC {X:Cx}(K:ak)(hK:X.K=K:=by rfl):CallR X (.builtin "len") (fun xs H Q=>∃ p ys,xs=[.ref p]∧(SqL K H p ys∨SqT K H p ys)∧Q (.int ys.length) H):=by subst hK;exact bW
structure CutC (K:ak)(C:ao):Prop where
 cl:Cls K C
 n1:NoAttr K C "first_case"
 n2:NoAttr K C "touched"
 n3:NoAttr K C "order"
section
variable {P:aW} {w:bz} {K:ak} {mg:Str→Option ae} {base:bE}
theorem scInitC:cu ["self","net","rings","touched"] ["self","net"] (defScope oR):=by trivial
theorem ok_initC {f f1 f2 f3 f4 c T0 T1 C:ao}{fd fd1 fd2 fd3 fd4:bu}{p0:Pos}{q0:Str}(F:Fun K "__init__" "Cuts.__init__" oR f fd)(hcd:fd.code= .ref c)(CH:fB K c T1=true)(B:BM mg base)(ne:T0≠T1)(T:Nm mg)(T2:Nt mg)(ms:mg "sorted" =none)(CC:CutC K C)
  (G1:Fn K mg "rings_of" sRingsO pza f1 fd1) (F1:dN P w K mg base CX0 8 f1 fd1 pza (spRingsO T0 p0 q0))
  (G2:Fn K mg "rings_over" sOverR pzo f2 fd2) (G3:Fn K mg "first_bounds" sFirst pza f3 fd3)
  (G4:Fn K mg "forest_of" kA pza f4 fd4) (F4:dN P w K mg base CX0 6 f4 fd4 pza (j7 T0 p0 q0)):dN P w K mg base CX0 9 f fd ["self","net"] (spInitC T0 p0 q0 T1 lpC lqC C):=by
 have F2:dN P w K mg base CX0 1 f2 fd2 pzo spOverR:=ok_overR G2.F;have F3:dN P w K mg base CX0 1 f3 fd3 pza spFirst:=ok_first G3.F T;refine okC F hcd scInitC (by contradiction) (fun A outer s H vs Q E hr h=>?_);obtain ⟨x,dx,v,b,m,sp,rfl,hx,hv,N,hT0,hT1,k⟩:=h;have hr1:Room 1 _:=hr.mono (by decide);have hr6:Room 6 _:=hr.mono (by decide);have E:=N.ends;have few:=N.few;have m1:=N.m1;have m2:=N.m2;refine ⟨_,PSl.h (aR ⟨(bw (i:=2) scInitC.nd rfl (.inr rfl) (pc1 G1 F1 hr (ag (pv 1) az)))⟩
  (aR ⟨(bw (i:=3) scInitC.nd rfl (.inr rfl) (i3 (fr:=["rings"]) (js:=[2]) rfl (iE rfl T2.range (ag (cG bW rfl T.len bG (ag (ixZ (pv 1)) az)) az)) (by trivial) rfl (by trivial) rfl (by exists oR) (by trivial) rfl (by trivial) (fun _ _ _ _ _=>⟨(pc1 G2 F2 hr1 (ag (pv 1) (ag (pv 0) az))),i0⟩)))⟩
  (aR ⟨(ps_fld (pv 0) (d8 (ag (pc1 G3 F3 hr1 (ag (pv 1) az)) (ag (pv 2) az))) rfl)⟩
  (aR ⟨(ps_fld (pv 0) (pv 3) rfl)⟩
  (dH ⟨(ps_fld (pv 0) (pe_sortT (js:=[3]) (fr:=["touched"]) (x := "span") (c:=c) (P:=T1) rfl hr.depth rfl ms (pc1 G4 F4 hr6 (ag (pv 1) az)) rfl rfl CH B (fun _ _ _ _ _ _=>rfl) rfl rfl rfl (by trivial) rfl (by decide) (by exists oR) rfl (by trivial)
   (fun cl L f' cd s' H'=>mJ (ag (mN km (cG (lenNC K) rfl T.len bG (ag (eh (r:=rIxL K) dX (pv 1) (pv 0) (fun _ _=>rfl)) az))) (ag (pv 0) az)))) rfl)⟩))))),?_⟩
 refine ⟨_,rfl,v,b,m,sp,rfl,hv,N,hT0,fun L rl l rg H1 tb1 hT01 fL hL dL R=>?_⟩;have fr:=R.fr;have xT0:x≠T0:=by obtain ⟨ps,h⟩:=LamT.tbl hT0;exact ie hx h nofun
 have xT1:x≠T1:=by obtain ⟨ps,h⟩:=LamT.tbl hT1;exact ie hx h nofun
 have K1:Kp H H1:=Tb.kp hT0 tb1;have hT11:=LamT.ntb hT1 hT0 (cp ne) tb1;have hx1:=tb1 x _ xT0 hx;have hv1:=cU K1.tup hv;have tl:l.length≤15:=by have:=fr.few E (by omega);omega
 have lrg:rg.length≤40:=by
  have:rg.length=(nS sp l).length:=by rw [←R.ks,aa]
  have h2:(nS sp l).length≤sp.length:=by unfold nS;exact bj (i7 _ _) (by rw [bo];exact aC _)
  omega
 have lng:∀ q∈rg,q.2.length≤1000:=fun q hq=>by
  have:=((R.rk q hq).rg N tl).few;omega
 have st1:∀ a o,a≠T0→a≠T1→a≠x→H a=some o→H1 a=some o:=fun a o n0 _ _ e=>tb1 a o n0 e
 obtain ⟨t,p,ys,ev,ht,hp,hl,hy⟩:=gu hv1;subst ev;clear hy hv fL tb1;refine ⟨_,rfl,t,_,_,_,rfl,rfl,SqT.of ht,aO (j:=2) rfl,p,_,rfl,.inr (SqT.of hp),_,rfl,by omega,by omega,?_⟩;refine kT (n:=((ys.length:Int)).toNat) (fun i zs HC=>Same H1 HC∧zs.length=i∧∀ j,j<i→∃ u ql,zs[j]? =some (.ref u)∧HC u=some (.lst ql)∧IsDs HC ql ((rg.filter (hI j)).map wayQ)) ⟨Same.refl H1,rfl,fun j hj=>pj hj (Nat.not_lt_zero _)⟩ (fun i zs HC hi ⟨_,e2,_⟩=>Nat.le_of_eq e2) (fb (by omega)) (fun i zs HC hi ⟨S,lz,dz⟩=>?_) (fun zs HC ⟨S,lz,dz⟩ D hD=>?_)
 ·rw [gG]
  refine iB ⟨_,rfl,_,rfl,L,i,rl,rg,rfl,S _ _ hL,dL.same S,lrg,lng,fun L' rl' H2 S2 f2 h2 d2=>⟨S.trans S2,by rw [aq,lz];rfl,fun j hj=>?_⟩⟩
  rcases iF.mp hj with z | z
  ·obtain ⟨u,ql,a1,a2,a3⟩:=dz j z
   exact ⟨u,ql,by rw [fT (by omega)];exact a1,S2 _ _ a2,a3.same S2⟩
  ·subst z
   exact ⟨L',rl',by rw [bS (by omega),lz,Nat.sub_self];rfl,h2,d2⟩
 have S1:Same H1 (upd HC D (.lst zs)):=S.trans (Same.put (Same.refl HC) hD);have tch:TchD (upd HC D (.lst zs)) D sp.length rg:=by
  refine ⟨zs,aS,by rw [lz];omega,fun j hj=>?_⟩;obtain ⟨u,ql,a1,a2,a3⟩:=dz j (by omega);have S2:Same HC (upd HC D (.lst zs)):=Same.put (Same.refl HC) hD;exact ⟨u,ql,a1,S2 _ _ a2,a3.same S2⟩
 generalize upd HC D (.lst zs)=H2 at S1 tch ⊢;clear dz hD;refine ⟨_,rfl,.ref t,b,m,sp,rfl,hv1.same S1,by omega,fun ub H3 S3 hub=>⟨_,rfl,l6,fun q4 H4 S4 h4=>⟨_,rfl,x,C,dx,_,rfl,S4 _ _ (S3 _ _ (S1 _ _ hx1)),CC.cl,CC.n1,by decide,?_⟩⟩⟩;have S14:Same H1 H4:=S1.trans (S3.trans S4);have cs4:CsD H4 q4 (sp.map fun z=>(z.l,z.o)) rg:=⟨ub,L,rl,h4,hub.same S4,S14 _ _ hL,dL.same S14⟩;have tch4:=tch.kp (Same.kp (S3.trans S4));have hx4:=S14 _ _ hx1;have K4:Kp H4 (upd H4 x (.ins C dx (lH "first_case" (.ref q4) []))):=Kp.upd hx4;have st5:∀ a o,a≠T0→a≠T1→a≠x→H a=some o→(upd H4 x (.ins C dx (lH "first_case" (.ref q4) []))) a=some o:=fun a o n0 n1 n2 e=>by rw [bf n2];exact S14 _ _ (st1 a o n0 n1 n2 e)
 have kp5:Kp H (upd H4 x (.ins C dx (lH "first_case" (.ref q4) []))):=K1.trans ((Same.kp S14).trans K4);have hx5:(upd H4 x (.ins C dx (lH "first_case" (.ref q4) []))) x=some (.ins C dx [("first_case",.ref q4)]):=aS;have hT05:=kQ (o:= .ins C dx (lH "first_case" (.ref q4) [])) (LamT.same S14 hT01) hx4;have hT15:=kQ (o:= .ins C dx (lH "first_case" (.ref q4) [])) (LamT.same S14 hT11) hx4;have hv5:=cU K4.tup (hv1.same S14);have cs5:=cs4.kp K4;have tch5:=tch4.kp K4;generalize upd H4 x (.ins C dx (lH "first_case" (.ref q4) []))=H5 at st5 kp5 hx5 hT05 hT15 hv5 cs5 tch5 ⊢;clear K4 hx4 tch4 cs4 S14 h4 S4 hub S3 tch S1 ht hp st1 hv1 hT11 hT01 hx1 K1 dL hL;refine ⟨_,rfl,_,rfl,x,C,dx,_,rfl,hx5,CC.cl,CC.n2,(by show 1<1000;decide),?_⟩;have K5:Kp H5 (upd H5 x (.ins C dx (lH "touched" (.ref D) [("first_case",.ref q4)]))):=Kp.upd hx5;have st6:∀ a o,a≠T0→a≠T1→a≠x→H a=some o→(upd H5 x (.ins C dx (lH "touched" (.ref D) [("first_case",.ref q4)]))) a=some o:=fun a o n0 n1 n2 e=>by rw [bf n2];exact st5 a o n0 n1 n2 e
 have kp6:=kp5.trans K5;have hx6:(upd H5 x (.ins C dx (lH "touched" (.ref D) [("first_case",.ref q4)]))) x=some (.ins C dx [("first_case",.ref q4),("touched",.ref D)]):=aS;have hT06:=kQ (o:= .ins C dx (lH "touched" (.ref D) [("first_case",.ref q4)])) hT05 hx5;have hT16:=kQ (o:= .ins C dx (lH "touched" (.ref D) [("first_case",.ref q4)])) hT15 hx5;have hv6:=cU K5.tup hv5;have cs6:=cs5.kp K5;have tch6:=tch5.kp K5;generalize upd H5 x (.ins C dx (lH "touched" (.ref D) [("first_case",.ref q4)]))=H6 at st6 kp6 hx6 hT06 hT16 hv6 cs6 tch6 ⊢;clear K5 st5 kp5 hx5 hT05 hT15 hv5 cs5 tch5;refine ⟨_,rfl,.ref t,b,m,sp,rfl,hv6,N,hT06,fun u H7 ns tb7 hT07 hu F0=>?_⟩;obtain ⟨l',π0,rfl,O0,pm0⟩:=F0.natsF;have el:l'=l:=FrstL.one (m:=m.toNat) (sp:=sp) ⟨F0,π0,O0,pm0⟩ fr;subst el;have K6:Kp H6 H7:=Tb.kp hT06 tb7;have hT17:=LamT.ntb hT16 hT06 (cp ne) tb7;have hx7:=tb7 x _ xT0 hx6;have st7:∀ a o,a≠T0→a≠T1→a≠x→H a=some o→H7 a=some o:=fun a o n0 n1 n2 e=>tb7 a o n0 (st6 a o n0 n1 n2 e)
 have kp7:=kp6.trans K6;have cs7:=cs6.kp K6;have tch7:=tch6.kp K6;clear K6 st6 kp6 hx6 hT06 hT16 hv6 cs6 tch6 tb7;have hlt:=(fr.pots E).nodup.2;have hnd:=(fr.pots E).nodup.1;have lns:(l'.map fun (i:Nat)=>(i:Int)).length=l'.length:=aa ..;have gns:∀ i,i<l'.length→(l'.map fun (i:Nat)=>(i:Int)).getD i 0=((l'.getD i 0:Nat):Int):=fun i hi=>by
  rw [ai,ay,ai,gE hi];rfl
 refine ⟨u,l'.map fun (i:Nat)=>(i:Int),fun i=>(-(((rg.filter (hI (l'.getD i 0))).length:Nat):Int),((l'.getD i 0:Nat):Int)),rfl,hu,by rw [lns];omega,hT17,?_,fun i hi H8 tb8=>?_,fun D2 H8 π tb8 hT18 f8 pm8 _=>?_⟩
 ·refine List.Pairwise.of_map (S:=fun a c:Int=>a≠c) Prod.snd (fun a c h e=>h (by rw [e])) ?_
  rw [dv,lns];have e:(aP l'.length).map (Prod.snd ∘ fun i=>(-(((rg.filter (hI (l'.getD i 0))).length:Nat):Int),((l'.getD i 0:Nat):Int)))=l'.map fun (i:Nat)=>(i:Int):=by
   refine List.ext_getElem (by rw [aa,aa,bo]) fun i h1 h2=>?_
   rw [aa,bo] at h1;rw [ic,iH,ic];show ((l'.getD i 0:Nat):Int)=_;rw [ai,gE h1];rfl
  rw [e,fm];exact (cb.mp hnd).imp fun hh e=>hh (by omega)
 ·rw [lns] at hi
  rw [gns i hi];obtain ⟨tv,a1,a2,a3⟩:=tch7.ex;have hk:l'.getD i 0<sp.length:=by
   rw [ai,gE hi];exact hlt _ (bR hi)
  obtain ⟨uu,ql,b1,b2,b3⟩:=a3 _ hk;have K8:Kp H7 H8:=Tb.kp hT17 tb8;have lq:ql.length=(rg.filter (hI (l'.getD i 0))).length:=by rw [b3.length,aa]
  refine ⟨_,rfl,_,rfl,D,_,_,_,rfl,rfl,SqL.of (K8.lst _ _ a1),aO b1,uu,_,rfl,.inl (SqL.of (K8.lst _ _ b2)),_,rfl,_,rfl,l6,fun a9 h9=>⟨Same.put (Same.refl H8) h9,a9,rfl,?_⟩⟩;rw [aS,lq]
 ·have K8:Kp H7 H8:=Tb.kp hT17 tb8
  have S9:Same H8 (upd H8 D2 (.lst (π.map fun (i:Nat)=>V.int ((l'.map fun (i:Nat)=>(i:Int)).getD i 0)))):=Same.put (Same.refl H8) f8;have h9:(upd H8 D2 (.lst (π.map fun (i:Nat)=>V.int ((l'.map fun (i:Nat)=>(i:Int)).getD i 0)))) D2=some (.lst ((π.map fun i=>l'.getD i 0).map fun (i:Nat)=>V.int i)):=by
   rw [aS,dv];congr 2;refine iu fun i hi=>?_
   have:=bP.mp (pm8.mem_iff.mp hi);rw [lns] at this;rw [gns i this];rfl
  generalize upd H8 D2 (.lst (π.map fun (i:Nat)=>V.int ((l'.map fun (i:Nat)=>(i:Int)).getD i 0)))=H9 at S9 h9 ⊢;have hx9:=S9 _ _ (tb8 x _ xT1 hx7);refine ⟨_,rfl,x,C,dx,_,rfl,hx9,CC.cl,CC.n3,(by show 2<1000;decide),?_⟩;have K9:Kp H7 H9:=K8.trans (Same.kp S9);have hT08:=LamT.same S9 (LamT.ntb hT07 hT17 ne tb8);have hT19:=LamT.same S9 hT18;have KX:Kp H9 (upd H9 x (.ins C dx (lH "order" (.ref D2) [("first_case",.ref q4),("touched",.ref D)]))):=Kp.upd hx9;refine k l' rg _ (fun a o n0 n1 n2 e=>?_) (kp7.trans (K9.trans KX)) (kQ hT08 hx9) (kQ hT19 hx9) R ⟨dx,q4,D,D2,_,aS,(cs7.kp K9).kp KX,(tch7.kp K9).kp KX,KX.lst _ _ h9,ord_perm (by rw [lns] at pm8;exact pm8)⟩;rw [bf n2];exact S9 _ _ (tb8 a o n1 (st7 a o n0 n1 n2 e))
theorem scSpanC:cu ["self","case","span","bound"] ["self","case"] (defScope sSpanC):=by trivial
theorem ok_spanC {f C:ao}{fd:bu}(F:Fun K "span_to_cut" "Cuts.span_to_cut" sSpanC f fd)(CC:CutC K C):dN P w K mg base CX0 1 f fd ["self","case"] (spSpanC C):=by
 refine F.ok scSpanC (by contradiction) (fun cdv A outer s H vs Q E hr h=>?_);obtain ⟨x,c,sp,l,rg,rs,bs,rfl,hx,hc,hl,few,k1,k2⟩:=h;obtain ⟨dx,c0,tl,ol,ord,h1,h2,h3,h4,h5⟩:=hx.ex;obtain ⟨vb,u,rl,c1,c2,c3,c4⟩:=hc.ex;obtain ⟨pb,yb,rfl,hpb,hlb,rb⟩:=iL c2;refine ⟨_,PSl.h (aR ⟨(iC bL rfl (jw (pe_fld (pv 0) rfl)) (df (i:=2) scSpanC.nd rfl (.inl rfl)) (PSl.h (aR ⟨(bw (i:=3) scSpanC.nd rfl (.inl rfl) (eh eY (ixZ (pv 1)) (pv 2) (fun _ _=>rfl)))⟩
  (dH ⟨(gn (cA oH (ixZ (pv 3)) (ixZ (pv 3)) (cZ _)) (cO (cw (pv 2))) dO)⟩))))⟩
  (dH ⟨(cw jI)⟩)),?_⟩
 refine ⟨_,rfl,x,C,dx,_,_,rfl,h1,CC.cl,CC.n3,rfl,ol,rfl,⟨_,SqL.of h4⟩,?_⟩;refine ki (K:=K) (a:=ol) (xs:=ord.map fun (i:Nat)=>V.int i) (fun i σ H1=>H1=H∧(∀ j∈ord.take i,¬ ((bs.getD j (0,0)).1<(bs.getD j (0,0)).2))∧∃ v2 v3,σ=[some (.ref x),some (.ref c),v2,v3]) ⟨rfl,fun _ h=>pj h (by simp),none,none,rfl⟩ (fun i σ H1 _ ⟨e,_⟩=>by rw [e];exact SqL.of h4) ?_ ?_
 ·rintro i y σ H1 hy ⟨rfl,hal,v2,v3,rfl⟩
  obtain ⟨j,hj,rfl⟩:=mapI_at hy;have hm:j∈ord:=bp hj;have hjl:=h5.mem_iff.mp hm;have hjb:=hl j hjl;obtain ⟨q,hq,hq2⟩:=iZ rb (gE hjb);have e0:bs.getD j (0,0)=bs[j]:=by rw [ai,gE hjb];rfl
  refine ⟨_,rfl,c,_,_,_,rfl,rfl,SqT.of c1,aO (j:=0) rfl,_,rfl,pb,_,_,_,rfl,rfl,SqT.of hpb,aO (j:=j) hq,?_⟩;refine ⟨_,rfl,q,_,_,_,rfl,rfl,SqT.of hq2,aO (j:=0) rfl,_,rfl,q,_,_,_,rfl,rfl,SqT.of hq2,aO (j:=1) rfl,_,_,rfl,rfl,_,rfl,?_⟩;show if decide (bs[j].1<bs[j].2)=true then _ else _;refine oX (fun hc=>?_) (fun hc=>?_)
  ·exact ⟨_,rfl,k2 j hjl (by rw [e0];exact pE hc)⟩
  ·refine ⟨rfl,fun z hz=>?_,_,_,rfl⟩
   rw [bt,hj] at hz
   rcases aM.mp hz with y | y
   ·exact hal z y
   ·rw [aw.mp (show z∈[j] from y),e0]
    exact fun w=>hc (pA w)
 ·rintro σ H1 ⟨rfl,hal,v2,v3,rfl⟩
  rw [aa,bq] at hal;exact k1 fun j hj=>hal j (h5.mem_iff.mpr hj)
theorem mU:cu ["self","case","span","at","bounds","one","other"] pzC (defScope sSidesC):=by trivial
theorem ok_sidesC {f f1 C:ao}{fd fd1:bu}(F:Fun K "sides" "Cuts.sides" sSidesC f fd)(CC:CutC K C)(G1:Fn K mg "with_bound" sWithB pzp f1 fd1):dN P w K mg base CX0 2 f fd pzC (spSidesC C):=by
 have F1:dN P w K mg base CX0 1 f1 fd1 pzp spWithB:=ok_withB G1.F;refine F.ok mU (by contradiction) (fun cdv A outer s H vs Q E hr h=>?_);obtain ⟨Hb,x,c,n,a,sp,l,rg,rs,bs,rfl,Sb,hx,hc,hn,lb,few,k⟩:=h;obtain ⟨dx,c0,tl,ol,ord,h1,h2,h3,h4,h5⟩:=hx.ex;obtain ⟨tv,t1,t2,t3⟩:=h3.ex;obtain ⟨u,ql,b1,b2,b3⟩:=t3 n (by omega);obtain ⟨vb,u0,rl,c1,c2,c3,c4⟩:=hc.ex;obtain ⟨pb,yb,rfl,hpb,hlb,rb⟩:=iL c2;obtain ⟨qn,hqn,hqn2⟩:=iZ rb (gE hn);have e0:bs.getD n (0,0)=bs[n]:=by rw [ai,gE hn];rfl
 have e1:kx bs n a=bs.set n (bs[n].1,a):=by unfold kx;rw [e0]
 have e2:eU bs n a=bs.set n (a+1,bs[n].2):=by unfold eU;rw [e0]
 refine ⟨_,PSl.h (aR ⟨(bw (i:=4) mU.nd rfl (.inl rfl) (ixZ (pv 1)))⟩
  (aR ⟨(bw (i:=5) mU.nd rfl (.inl rfl) (pc1 G1 F1 hr (ag (pv 4) (ag (pv 2) (ag (ixZ (eh eY (pv 4) (pv 2) (fun _ _=>rfl))) (ag (pv 3) az))))))⟩
  (aR ⟨(bw (i:=6) mU.nd rfl (.inl rfl) (pc1 G1 F1 hr (ag (pv 4) (ag (pv 2) (ag (bX dM (pv 3) ba) (ag (ixZ (eh eY (pv 4) (pv 2) (fun _ _=>rfl))) az))))))⟩
  (dH ⟨(cw (iq (ag (d8 (ag (pv 6) (ag (eh dX (pe_fld (pv 0) rfl) (pv 2) (fun _ _=>rfl)) az))) (ag (d8 (ag (pv 5) (ag (eh dX (pe_fld (pv 0) rfl) (pv 2) (fun _ _=>rfl)) az))) az))))⟩)))),?_⟩
 refine ⟨_,rfl,c,_,_,_,rfl,rfl,SqT.of c1,aO (j:=0) rfl,?_⟩;refine ⟨_,rfl,_,rfl,_,rfl,_,rfl,pb,_,_,_,rfl,rfl,SqT.of hpb,aO (j:=n) hqn,qn,_,_,_,rfl,rfl,SqT.of hqn2,aO (j:=0) rfl,_,rfl,.ref pb,n,bs[n].1,a,bs,rfl,c2,hn,few,fun u1 H1 S1 hu1=>?_⟩;refine ⟨_,rfl,_,rfl,_,rfl,_,_,rfl,rfl,_,rfl,_,rfl,pb,_,_,_,rfl,rfl,SqT.of (S1 _ _ hpb),aO (j:=n) hqn,qn,_,_,_,rfl,rfl,SqT.of (S1 _ _ hqn2),aO (j:=1) rfl,.ref pb,n,a+1,bs[n].2,bs,rfl,c2.same S1,hn,few,fun u2 H2 S2 hu2=>?_⟩;have S02:=S1.trans S2;have Sb2:=Sb.trans S02;refine ⟨_,rfl,_,rfl,x,C,dx,_,_,rfl,Sb2 _ _ h1,CC.cl,CC.n2,rfl,_,rfl,tl,_,_,_,rfl,rfl,SqL.of (Sb2 _ _ t1),aO b1,l6,fun q3 H3 S3 h3'=>?_⟩;refine ⟨_,rfl,_,rfl,x,C,dx,_,_,rfl,S3 _ _ (Sb2 _ _ h1),CC.cl,CC.n2,rfl,_,rfl,tl,_,_,_,rfl,rfl,SqL.of (S3 _ _ (Sb2 _ _ t1)),aO b1,l6,fun q4 H4 S4 h4'=>?_⟩;refine ⟨l6,fun L hL=>?_⟩;have S5:Same H4 (upd H4 L (.lst [.ref q3,.ref q4])):=Same.put (Same.refl H4) hL;have S25:=S3.trans (S4.trans S5);refine k L q3 q4 _ (S02.trans S25) (Same.free (S02.trans (S3.trans S4)) hL) aS ⟨u2,u,ql,S5 _ _ (S4 _ _ h3'),?_,b2,b3⟩ ⟨u1,u,ql,S5 _ _ h4',?_,b2,b3⟩
 ·rw [e2];exact hu2.same S25
 ·rw [e1];exact (hu1.same S2).same S25
end
abbrev sSpread:cV:=top 20
inductive spSpread (T:ao)(lp:Pos)(lq:Str)(vs:List V)(H:Hp)(Q:VK)(_:XK):Prop
 | mk (v:V)(b m:Int)(sp:List Sn)(_:vs=[v])(_:IsD H v (ko b m sp))(_:NetT b m sp)(_:L2.LamT T lp lq H)(_:∀ (L:ao) (zs:List V) (l:List Nat) (S:List Stp) (H':Hp),L2.Tb T H H'→L2.LamT T lp lq H'→H L=none→H' L=some (.lst zs)→IsDs H' zs (cY Stp.row S)→FrstL m.toNat sp l→SprOk m.toNat sp l S→Q (.ref L) H')
structure JS (H Hc:Hp)(Da Ls:ao)(R:List Int)(S:List Stp)(n:Nat):Prop where
 same:Same H Hc
 da:∃ kvs,Hc Da=some (.dK kvs)∧(∀ x,l7 kvs (.inl x)=none↔x ∉ R)∧kvs.length≤R.length+n
 ls:∃ zs,Hc Ls=some (.lst zs)∧IsDs Hc zs (cY Stp.row S)
theorem JS.on {H Hc Hc':Hp}{Da Ls:ao}{R:List Int}{S:List Stp}{n:Nat}(j:JS H Hc Da Ls R S n)(e:Same Hc Hc'):JS H Hc' Da Ls R S n:=by
 obtain ⟨kvs,h1,h2⟩:=j.da;obtain ⟨zs,h3,h4⟩:=j.ls;exact ⟨j.same.trans e,⟨kvs,e _ _ h1,h2⟩,⟨zs,e _ _ h3,h4.same e⟩⟩
theorem JS.upL {H Hc:Hp}{Da La Ls:ao}{R:List Int}{S:List Stp}{n:Nat}{xs ys:List V}(j:JS H Hc Da Ls R S n)(hL:H La=none)(hc:Hc La=some (.lst xs))(ne:Ls≠La):JS H (upd Hc La (.lst ys)) Da Ls R S n:=by
 obtain ⟨kvs,h1,h2⟩:=j.da;obtain ⟨zs,h3,h4⟩:=j.ls;exact ⟨fun a o e=>by rw [bf (aY e hL)];exact j.same a o e,⟨kvs,by rw [bf (ie h1 hc nofun)];exact h1,h2⟩,⟨zs,by rw [bf ne];exact h3,bT (eM hc) h4⟩⟩
theorem JS.upS {H Hc:Hp}{Da Ls q:ao}{R:List Int}{S:List Stp}{n:Nat}{zs:List V}{s:Stp}(j:JS H Hc Da Ls R S n)(hL:H Ls=none)(hc:Hc Ls=some (.lst zs))(hz:IsDs Hc zs (cY Stp.row S))(hq:IsD Hc (.ref q) (.tup ((Stp.row s).map Dt.int))):JS H (upd Hc Ls (.lst (zs++[.ref q]))) Da Ls R (S++[s]) n:=by
 obtain ⟨kvs,h1,h2⟩:=j.da;have hd:IsDs Hc (zs++[.ref q]) (cY Stp.row (S++[s])):=by
  unfold cY at hz ⊢;rw [aA];exact hz.append (.cons hq .nil)
 exact ⟨fun a o e=>by rw [bf (aY e hL)];exact j.same a o e,⟨kvs,by rw [bf (ie h1 hc nofun)];exact h1,h2⟩,⟨_,aS,bT (eM hc) hd⟩⟩
theorem JS.upD {H Hc:Hp}{Da Ls:ao}{R:List Int}{S:List Stp}{n:Nat}{kvs:List (Key×V)}{x:Int}{y:V}{R':List Int}{n':Nat}(j:JS H Hc Da Ls R S n)(hD:H Da=none)(hc:Hc Da=some (.dK kvs))(hk:∀ x,l7 kvs (.inl x)=none↔x ∉ R)(hR:∀ z,z∈R'↔z∈R∨z=x)(hl:kvs.length+1≤R'.length+n'):JS H (upd Hc Da (.dK (mj kvs (.inl x) y))) Da Ls R' S n':=by
 obtain ⟨zs,h3,h4⟩:=j.ls;have K:TupK Hc (upd Hc Da (.dK (mj kvs (.inl x) y))):=fun q xs h=>by rw [bf (ie h hc nofun)];exact h
 refine ⟨fun a o e=>by rw [bf (aY e hD)];exact j.same a o e,⟨_,aS,fun z=>?_,?_⟩,⟨zs,by rw [bf (ie h3 hc nofun)];exact h3,bT K h4⟩⟩
 ·rw [valV_put,hR]
  by_cases e:z=x
  ·rw [pf (by rw [e])]
   exact ⟨fun h=>(by cases h),fun h=>pj (Or.inr e) h⟩
  ·rw [pe (fun h=>e (Sum.inl.inj h)),hk]
   exact ⟨fun h h'=>h'.elim h e,fun h h'=>h (.inl h')⟩
 ·exact bj (kg _ _ _) hl
section
variable {P:aW} {w:bz} {K:ak} {mg:Str→Option ae} {base:bE}
theorem jb:cu ["net","taken","reached","steps","first","ahead","here","step","there"] pza (defScope sSpread):=by trivial
theorem ok_spread {f f1 f2 f3 Tb0:ao}{fd fd1 fd2 fd3:bu}{lp:Pos}{lq:Str}(F:Fun K "spread_of" "spread_of" sSpread f fd)(T:Nm mg)(T2:Nt mg)(G1:Fn K mg "forest_of" kA pza f1 fd1)(F1:dN P w K mg base CX0 6 f1 fd1 pza (j7 Tb0 lp lq))(G2:Fn K mg "steps_from" nQ pzh f2 fd2)(F2:dN P w K mg base CX0 2 f2 fd2 pzh spSteps)(G3:Fn K mg "leads_to" sTo pzb f3 fd3):dN P w K mg base CX0 7 f fd pza (spSpread Tb0 lp lq):=by
 have F3:dN P w K mg base CX0 1 f3 fd3 pzb spTo:=ok_to G3.F;refine F.ok jb (by contradiction) (fun cdv A outer s H0 vs Q E hr h=>?_);obtain ⟨v,b,m,sp,rfl,hv,N,hT,k⟩:=h;have hr2:Room 2 _:=hr.mono (by decide);have hr1:Room 1 _:=hr.mono (by decide);have u1:=cf (Nat.add_le_add_left (by decide:1≤64) _) hr.units;have E:=N.ends;have m1:=N.m1;have m2:=N.m2;refine ⟨_,PSl.h (aR ⟨(bw (i:=1) jb.nd rfl (.inl rfl) (pc1 G1 F1 hr (ag (pv 0) az)))⟩
  (aR ⟨(bw (i:=2) jb.nd rfl (.inl rfl) pe_dnewK)⟩
  (aR ⟨(bw (i:=3) jb.nd rfl (.inl rfl) (iq az))⟩
  (aR ⟨(iC bL rfl (iE rfl T2.range (ag (ixZ (pv 0)) az)) (df (i:=4) jb.nd rfl (.inl rfl)) (PSl.h (aR ⟨(bw (i:=5) jb.nd rfl (.inl rfl) (PE.cutV (mX (pt_cmp (lO u1 (pv 4) (pv 2)) rfl) (iq (ag (pv 4) az)) (iq az))))⟩
  (aR ⟨(ps_dput u1 (pv 2) (pv 4) nX rfl)⟩
  (dH ⟨(mW bL (cA op_gt (cG bW rfl T.len bG (ag (pv 5) az)) ba (cZ _)) (PSl.h (aR ⟨(bw (i:=6) jb.nd rfl (.inl rfl) (oU aZ eS eR oW (pv 5)))⟩
  (dH ⟨(iC bL rfl (jw (pc1 G2 F2 hr2 (ag (pv 0) (ag (pv 1) (ag (pv 6) az))))) (df (i:=7) jb.nd rfl (.inl rfl)) (PSl.h (aR ⟨(bw (i:=8) jb.nd rfl (.inl rfl) (pc1 G3 F3 hr1 (ag (pv 0) (ag (pv 7) az))))⟩
  (dH ⟨(gn (pt_cmp (lO u1 (pv 8) (pv 2)) rfl) (PSl.h (aR ⟨(ps_dput u1 (pv 2) (pv 8) nX rfl)⟩
  (aR ⟨(gL (kr aZ bZ bY gq (pv 5) (ag (pv 8) az)))⟩
  (dH ⟨(gL (kr aZ bZ bY gq (pv 3) (ag (pv 7) az)))⟩)))) dO)⟩))))⟩))))⟩)))))⟩
  (dH ⟨(cw (pv 3))⟩))))),?_⟩
 refine ⟨_,rfl,v,b,m,sp,rfl,hv,N,hT,fun u H ns tb1 hT1 hu F0=>?_⟩;obtain ⟨l,π,rfl,O,pm⟩:=F0.natsF;have fr:FrstL m.toNat sp l:=⟨F0,π,O,pm⟩;rw [dv] at hu;have hu:H u=some (.tup (l.map fun (i:Nat)=>V.int i)):=hu;have hv1:=cU (Tb.lamT hT tb1) hv;obtain ⟨t,p,ys,rfl,ht,hp,hl,hy⟩:=gu hv1;clear hy hp hl hv;have PT:=fr.pots E;have hlt:=PT.nodup.2;have few:l.length≤40:=by have:=fr.few E (by omega);omega
 have ne:∀ i∈l,(sAt sp i).s≠(sAt sp i).g:=fun i hi=>(N.all _ (eX (hlt i hi))).ne
 intro Da hDa;have hDa1:(upd H Da (.dK [])) Da=some (.dK []):=aS;have S1:Same H (upd H Da (.dK [])):=Same.put (Same.refl H) hDa;generalize upd H Da (.dK [])=H1 at hDa1 S1 ⊢;refine ⟨bI _,fun Ls hLs=>?_⟩;have hLsH:H Ls=none:=Same.free S1 hLs;have S2:Same H1 (upd H1 Ls (.lst [])):=Same.put (Same.refl H1) hLs;have J2:JS H (upd H1 Ls (.lst [])) Da Ls [] [] 0:=⟨S1.trans S2,⟨[],S2 _ _ hDa1,fun x=>⟨fun _ h=>(by cases h),fun _=>rfl⟩,aC _⟩,⟨[],aS,.nil⟩⟩;generalize upd H1 Ls (.lst [])=H2 at J2 ⊢;clear S2 hLs S1 hDa1;refine ⟨_,rfl,t,_,_,_,rfl,rfl,SqT.of (J2.same _ _ ht),aO (j:=1) rfl,m,rfl,by omega,by omega,?_⟩;refine jW (n:=m.toNat) (fun i σ HC=>∃ (R:List Int) (S:List Stp) (w4 w5 w6 w7 w8:Option V),σ=[some (.ref t),some (.ref u),some (.ref Da),some (.ref Ls),w4,w5,w6,w7,w8]∧JS H HC Da Ls R S i∧SI m.toNat sp l exN R [] S∧∀ x:Nat,x<i→(x:Int)∈R) ⟨[],[],none,none,none,none,none,rfl,J2,SI.start,fun x hx=>pj hx (Nat.not_lt_zero _)⟩ ?_ ?_
 ·rintro i σ HC hi ⟨R,S,w4,w5,w6,w7,w8,rfl,JC,I0,hall⟩
  rw [gG];have hRm:=I0.few;obtain ⟨kvs,hDaC,hkv,hkl⟩:=JC.da;refine ⟨fun v H'=>∃ La A,v= .ref La∧H La=none∧La≠Ls∧JS H H' Da Ls R S i∧H' La=some (.lst (A.map V.int))∧((i:Int) ∉ R∧A=[(i:Int)]∨(i:Int)∈R∧A=[]),?_,?_⟩
  rotate_left
  ·refine ⟨_,rfl,_,rfl,Da,_,rfl,DGet.k (k:= .inl (i:Int)) hDaC,_,rfl,?_⟩
   have mk:∀ (La:ao) (xs:List V),HC La=none→JS H (upd HC La (.lst xs)) Da Ls R S i∧H La=none∧La≠Ls:=fun La xs hLa=>⟨JC.on (Same.put (Same.refl HC) hLa),Same.free JC.same hLa,fun z=>by
    obtain ⟨zs,hz,_⟩:=JC.ls;rw [z,hz] at hLa;cases hLa⟩
   cases c:l7 kvs (.inl (i:Int)) with
   | none =>
    refine iteT ⟨_,rfl,szZ1,fun La hLa=>?_⟩;obtain ⟨a1,a2,a3⟩:=mk La [.int (i:Int)] hLa;exact ⟨La,[(i:Int)],rfl,a2,a3,a1,aS,.inl ⟨(hkv _).mp c,rfl⟩⟩
   | some o =>
    refine iteF ⟨bI _,fun La hLa=>?_⟩;obtain ⟨a1,a2,a3⟩:=mk La [] hLa;exact ⟨La,[],rfl,a2,a3,a1,aS,.inr ⟨fI fun z=>(by rw [(hkv _).mpr z] at c;cases c),rfl⟩⟩
  rintro _ HD ⟨La,A,rfl,hLaH,nLL,JD,hLa,hA⟩;obtain ⟨kvD,hDaD,hkD,hlD⟩:=JD.da;refine ⟨_,rfl,_,rfl,Da,_,rfl,DPut.k (k:= .inl (i:Int)) hDaD (cf (by omega:kvD.length≤999) (by decide)),?_⟩;obtain ⟨R',hR',IR,inR,hall'⟩:∃ R',(∀ z,z∈R'↔z∈R∨z=(i:Int))∧SI m.toNat sp l exN R' A S∧R.length≤R'.length∧(∀ x:Nat,x<i+1→(x:Int)∈R'):=by
   rcases hA with ⟨a1,rfl⟩ | ⟨a1,rfl⟩
   ·refine ⟨R++[(i:Int)],fun z=>by rw [aM,aw],I0.root a1 (by omega) (by omega),by rw [aq];omega,fun x hx=>?_⟩
    rcases iF.mp hx with z | z
    ·exact aE _ (hall x z)
    ·rw [z];simp
   ·refine ⟨R,fun z=>⟨.inl,fun h=>h.elim id fun e=>e ▸ a1⟩,I0,aC _,fun x hx=>?_⟩
    rcases iF.mp hx with z | z
    ·exact hall x z
    ·rw [z];exact a1
  have JE:=JD.upD (y:= .bl true) (R':=R') (n':=i+1) (x:=(i:Int)) hDa hDaD hkD hR' (by omega);have hLaE:(upd HD Da (.dK (mj kvD (.inl (i:Int)) (.bl true)))) La=some (.lst (A.map V.int)):=by rw [bf (ie hLa hDaD nofun)];exact hLa
  generalize upd HD Da (.dK (mj kvD (.inl (i:Int)) (.bl true)))=HE at JE hLaE ⊢;have lA:A.length≤1:=by rcases hA with ⟨_,rfl⟩ | ⟨_,rfl⟩ <;> simp
  clear hA hLa JD hDaD hkD hlD inR I0 hall hkv hDaC JC;refine ⟨fun n σ HA=>∃ (R A:List Int) (S:List Stp) (w6 w7 w8:Option V),n=2 * (16 - R.length)+A.length∧n≤40∧σ=[some (.ref t),some (.ref u),some (.ref Da),some (.ref Ls),some (.int (i:Int)),some (.ref La),w6,w7,w8]∧JS H HA Da Ls R S (i+1)∧HA La=some (.lst (A.map V.int))∧SI m.toNat sp l exN R A S∧∀ x:Nat,x<i+1→(x:Int)∈R,⟨_,R',A,S,_,_,_,rfl,by omega,rfl,JE,hLaE,IR,hall'⟩,?_⟩;clear JE hLaE IR hall' hR' hkl;rintro n σ HA ⟨R,A,S,w6,w7,w8,rfl,n40,rfl,JA,hLa,IA,hall⟩;refine ⟨_,rfl,La,_,rfl,.inl (SqL.of hLa),_,_,rfl,rfl,_,rfl,?_⟩
  rcases List.eq_nil_or_concat A with rfl | ⟨A',x,rfl⟩
  ·refine jT (by rfl) ?_
   exact ⟨R,S,_,_,_,_,_,rfl,JA,IA,hall⟩
  rw [List.concat_eq_append] at hLa n40 IA ⊢;refine iteB (pA (by rw [aa,aq];show ((A'.length+1:Nat):Int) > 0;omega)) ?_;refine ⟨_,fun σ' H' z=>z,?_⟩;rw [aA] at hLa;refine ⟨_,rfl,.inl ⟨rfl,_,SqL.of hLa⟩,La,_,.int x,rfl,rfl,hLa,by rw [aq,bS (by simp)];simp,?_⟩;rw [show (A'.map V.int++[x].map V.int).dropLast=A'.map V.int from fX];have JB:=JA.upL (ys:=A'.map V.int) hLaH hLa nLL.symm;have hLaB:(upd HA La (.lst (A'.map V.int))) La=some (.lst (A'.map V.int)):=aS;generalize upd HA La (.lst (A'.map V.int))=HB at JB hLaB ⊢;obtain ⟨IB,xR⟩:=IA.pop;have lB:2 * (16 - R.length)+A'.length+1≤40:=by rw [aq] at n40;exact n40
  have eB:2 * (16 - R.length)+(A'++[x]).length=2 * (16 - R.length)+A'.length+1:=by rw [aq];rfl
  rw [eB];clear JA hLa IA n40 eB;refine ⟨_,rfl,_,rfl,_,rfl,.ref t,u,b,m,sp,l,x,rfl,hv1.same JB.same,JB.same _ _ hu,hlt,few,fun L HC zs SC fL hL dz=>⟨L,rfl,⟨_,SqL.of hL⟩,?_⟩⟩;have nL1:L≠La:=fun z=>by rw [z,hLaB] at fL;cases fL
  have nL2:L≠Ls:=fun z=>by
   obtain ⟨z1,hz1,_⟩:=JB.ls;rw [z,hz1] at fL;cases fL
  have JC:=JB.on SC;have hLaC:=SC _ _ hLaB;clear JB hLaB;have lz:zs.length=(dI sp l x).length:=by rw [dz.length];unfold cY;rw [aa]
  refine ki (K:=K) (a:=L) (xs:=zs) (fun j σ HD=>∃ (R2 A2:List Int) (S2:List Stp) (w7 w8:Option V),JS H HD Da Ls R2 S2 (i+1)∧HD La=some (.lst (A2.map V.int))∧SI m.toNat sp l (· =x) R2 A2 S2∧x∈R2∧(∀ x:Nat,x<i+1→(x:Int)∈R2)∧2 * (16 - R2.length)+A2.length≤2 * (16 - R.length)+A'.length∧(∀ s∈(dI sp l x).take j,s.i∈S2.map Stp.i)∧HD L=some (.lst zs)∧IsDs HD zs (cY Stp.row (dI sp l x))∧σ=[some (.ref t),some (.ref u),some (.ref Da),some (.ref Ls),some (.int (i:Int)),some (.ref La),some (.int x),w7,w8]) ⟨R,A',S,_,_,JC,hLaC,IB,xR,hall,aC _,fun s hs=>pj hs (by simp),hL,dz,rfl⟩ (fun j σ HD _ q=>by obtain ⟨_,_,_,_,_,_,_,_,_,_,_,_,h,_⟩:=q;exact SqL.of h) ?_ ?_
  ·clear JC hLaC IB xR hall hL dz SC
   rintro j y σ HD hy ⟨R2,A2,S2,w7,w8,JD,hLaD,ID,xD,hallD,mD,hsD,hLD,dD,rfl⟩;have hj:j<(dI sp l x).length:=by have:=(av.mp hy).1;omega
   have hsj:=gE hj;obtain ⟨y',hy',dy⟩:=dD.at (i:=j) (d:= .tup ((Stp.row (dI sp l x)[j]).map Dt.int)) (by unfold cY;rw [ay,hsj];rfl);rw [hy] at hy';cases hy';obtain ⟨q,qs,rfl,hq,rq⟩:=dy.tup_of;have eq:=rq.ints_of;subst eq;have hmem:(dI sp l x)[j]∈dI sp l x:=bR hj;have hin:=hlt _ (mf hmem).1.1;have more:∀ S3:List Stp,(∀ s∈S2,s∈S3)→(dI sp l x)[j].i∈S3.map Stp.i→∀ s∈(dI sp l x).take (j+1),s.i∈S3.map Stp.i:=fun S3 sub hj3 s hs=>by
    rw [bt,hsj] at hs
    rcases aM.mp hs with z | z
    ·obtain ⟨t',ht',e⟩:=bh.mp (hsD s z)
     exact bh.mpr ⟨t',sub _ ht',e⟩
    ·rw [aw.mp (show s∈[(dI sp l x)[j]] from z)];exact hj3
   generalize (dI sp l x)[j]=st at hq hin dy hmem more;refine ⟨_,rfl,_,rfl,.ref t,q,b,m,sp,st,sAt sp st.i,rfl,hv1.same JD.same,hq,i8 hin,?_⟩;rw [(lJ hin).1];obtain ⟨kv2,hDaD,hk2,hl2⟩:=JD.da;have hR2:=ID.fewX;refine ⟨_,rfl,_,rfl,Da,_,rfl,DGet.k (k:= .inl (eV sp st)) hDaD,_,rfl,?_⟩;cases hto:l7 kv2 (.inl (eV sp st)) with
   | some o =>
    have inR:eV sp st∈R2:=fI fun z=>by rw [(hk2 _).mpr z] at hto;cases hto
    exact iteF ⟨R2,A2,S2,_,_,JD,hLaD,ID,xD,hallD,mD,more S2 (fun _ h=>h) (ID.has PT ne hmem inR),hLD,dD,rfl⟩
   | none =>
    have out:eV sp st ∉ R2:=(hk2 _).mp hto;have I3:=ID.add E hlt xD hmem out;have hR3:=I3.fewX;rw [aq] at hR3;have hR3:R2.length+1≤m.toNat:=hR3;refine iteT ⟨_,rfl,_,rfl,Da,_,rfl,DPut.k (k:= .inl (eV sp st)) hDaD (cf (by omega:kv2.length≤999) (by decide)),?_⟩;have J3:=JD.upD (y:= .bl true) (R':=R2++[eV sp st]) (n':=i+1) (x:=eV sp st) hDa hDaD hk2 (fun z=>by rw [aM,aw]) (by rw [aq];show _≤R2.length+1+(i+1);omega);have K3:TupK HD (upd HD Da (.dK (mj kv2 (.inl (eV sp st)) (.bl true)))):=fun q xs h=>by rw [bf (ie h hDaD nofun)];exact h
    have hLa3:(upd HD Da (.dK (mj kv2 (.inl (eV sp st)) (.bl true)))) La=some (.lst (A2.map V.int)):=by rw [bf (ie hLaD hDaD nofun)];exact hLaD
    have hL3:(upd HD Da (.dK (mj kv2 (.inl (eV sp st)) (.bl true)))) L=some (.lst zs):=by rw [bf (ie hLD hDaD nofun)];exact hLD
    generalize upd HD Da (.dK (mj kv2 (.inl (eV sp st)) (.bl true)))=H3 at J3 K3 hLa3 hL3 ⊢;have d3:=bT K3 dD;have q3:=K3 _ _ hq;refine ⟨_,rfl,.inl ⟨rfl,_,SqL.of hLa3⟩,_,rfl,La,_,_,rfl,rfl,hLa3,lL (by rw [aa];omega),?_⟩;have J4:=J3.upL (ys:=A2.map V.int++[V.int (eV sp st)]) hLaH hLa3 nLL.symm;have K4:TupK H3 (upd H3 La (.lst (A2.map V.int++[V.int (eV sp st)]))):=eM hLa3;have hLa4:(upd H3 La (.lst (A2.map V.int++[V.int (eV sp st)]))) La=some (.lst (A2.map V.int++[V.int (eV sp st)])):=aS;have hL4:(upd H3 La (.lst (A2.map V.int++[V.int (eV sp st)]))) L=some (.lst zs):=by rw [bf nL1];exact hL3
    generalize upd H3 La (.lst (A2.map V.int++[V.int (eV sp st)]))=H4 at J4 K4 hLa4 hL4 ⊢;have d4:=bT K4 d3;have q4:=K4 _ _ q3;obtain ⟨z4,hz4,dz4⟩:=J4.ls;have lz4:z4.length=S2.length:=by rw [dz4.length];unfold cY;rw [aa]
    have lS:=ID.len;refine ⟨_,rfl,.inl ⟨rfl,_,SqL.of hz4⟩,_,rfl,Ls,_,_,rfl,rfl,hz4,lL (by omega),?_⟩;have J5:=J4.upS (s:=st) hLsH hz4 dz4 (.tup q4 (IsDs.ints (Stp.row st)));refine ⟨R2++[eV sp st],A2++[eV sp st],S2++[st],_,_,J5,?_,I3,aE _ xD,fun x hx=>aE _ (hallD x hx),?_,more _ (fun _ h=>aE _ h) (by rw [aA];exact aG _ (by simp)),?_,bT (eM hz4) d4,rfl⟩
    ·rw [bf nLL,hLa4,aA];rfl
    ·rw [aq,aq]
     show 2 * (16 - (R2.length+1))+(A2.length+1)≤_;omega
    ·rw [bf nL2];exact hL4
  ·rintro σ HD ⟨R2,A2,S2,w7,w8,JD,hLaD,ID,xD,hallD,mD,hsD,hLD,dD,rfl⟩
   rw [lz,bq] at hsD;exact ⟨_,by omega,R2,A2,S2,_,_,_,rfl,by omega,rfl,JD,hLaD,ID.done hsD,hallD⟩
 ·rintro σ HC ⟨R,S,w4,w5,w6,w7,w8,rfl,JC,I0,hall⟩
  obtain ⟨zs,hz,dz⟩:=JC.ls;have hLs0:H0 Ls=none:=by
   cases z:H0 Ls with
   | none=>rfl
   | some o =>
    by_cases e:Ls=Tb0
    ·subst e
     obtain ⟨ps,hps⟩:=LamT.tbl hT1;rw [hps] at hLsH;cases hLsH
    ·rw [tb1 Ls o e z] at hLsH;cases hLsH
  exact ⟨_,rfl,k Ls zs l S HC (tb1.trans (Same.tb JC.same)) (LamT.same JC.same hT1) hLs0 hz dz fr (I0.ok E hlt hall)⟩
end
abbrev sRest:cV:=top 22
abbrev sTabBy:cV:=top 31
inductive spTabBy (vs:List V)(H:Hp)(Q:VK)(_:XK):Prop
 | mk (v vb:V)(L:ao)(b m:Int)(sp:List Sn)(bs:List (Int×Int))(zs:List V)(S:List Stp)(_:vs=[v,.ref L,vb])(_:IsD H v (ko b m sp))(_:0<b)(_:0<m)(_:m≤16)(_:Ends m.toNat sp)(_:H L=some (.lst zs))(_:IsDs H zs (cY Stp.row S))(_:S.length≤16)(_:(∀ s∈S,s.i<sp.length∧(s.d=1∨s.d= -1)))(_:IsD H vb (bndP bs))(_:bs.length=sp.length)(_:∀ q H',Same H H'→H' q=some (.tup ((tabOf b sp bs m.toNat S).map V.int))→Q (.ref q) H')
theorem frmS_rng {m:Nat}{sp:List Sn}(E:Ends m sp){t:Stp}(h:t.i<sp.length):0≤kt sp t∧kt sp t<m:=by
 obtain ⟨a,b,c,d⟩:=E _ (eX h);rw [←(tooS_sAt0 h).2];unfold frm;split <;> omega
theorem ixN_int {n:Nat}{z:Int}(h0:0≤z)(h1:z<n):ixN n z=some z.toNat:=by unfold ixN;rw [pf h0,pf h1]
theorem atI_int {α:Type}{xs:List α}{z:Int}{x:α}(h0:0≤z)(h:xs[z.toNat]? =some x):atI xs z=some x:=by
 have:=(av.mp h).1;unfold atI;rw [ixN_int h0 (by omega)];exact h
theorem map_set {l:List Int}{n:Nat}{x:Int}:(l.map V.int).set n (V.int x)=(l.set n x).map V.int:=by rw [List.map_set]
section
variable {P:aW} {w:bz} {K:ak} {mg:Str→Option ae} {base:bE}
theorem scRest:cu pzq pzq (defScope sRest):=by trivial
theorem ok_rest {f:ao}{fd:bu}(F:Fun K "rest_by" "rest_by" sRest f fd):dN P w K mg base CX0 1 f fd pzq spRest:=by
 refine F.ok scRest (by contradiction) (fun cdv A outer s H vs Q E hr h=>?_);obtain ⟨b,n,rfl,hb,k⟩:=h;refine ⟨_,PSl.h (dH ⟨(cw (bX i9 (pv 1) (pv 0)))⟩),?_⟩;exact ⟨_,rfl,_,rfl,_,_,rfl,rfl,hb,k⟩
theorem scTabBy:cu ["net","steps","bounds","times","step"] pzD (defScope sTabBy):=by trivial
theorem ok_tabBy {f f1 f2 f3:ao}{fd fd1 fd2 fd3:bu}(F:Fun K "table_by" "table_by" sTabBy f fd)(T:Nm mg)(G1:Fn K mg "leads_to" sTo pzb f1 fd1)(G2:Fn K mg "leads_from" sFrom pzb f2 fd2)(G3:Fn K mg "rest_by" sRest pzq f3 fd3):dN P w K mg base CX0 2 f fd pzD spTabBy:=by
 have F1:dN P w K mg base CX0 1 f1 fd1 pzb spTo:=ok_to G1.F;have F2:dN P w K mg base CX0 1 f2 fd2 pzb spFrom:=ok_from G2.F;have F3:dN P w K mg base CX0 1 f3 fd3 pzq spRest:=ok_rest G3.F;refine F.ok scTabBy (by contradiction) (fun cdv A outer s H vs Q E hr h=>?_);obtain ⟨v,vb,L,b,m,sp,bs,zs,S,rfl,hv,hb,m0,m16,E,hL,dz,lS,hS,hvb,lb,k⟩:=h;have hr1:=hr;obtain ⟨t,p,ys,rfl,ht,hp,hl,hy⟩:=gu hv;obtain ⟨pb,yb,rfl,hpb,hlb,rb⟩:=iL hvb;refine ⟨_,PSl.h (aR ⟨(bw (i:=3) scTabBy.nd rfl (.inl rfl) (bX op_rep (nW (ag ba az)) (ixZ (pv 0))))⟩
  (aR ⟨(iC bL rfl (jw (pv 1)) (df (i:=4) scTabBy.nd rfl (.inl rfl)) (cO (mH (bX dM (eh dX (pv 3) (pc1 G2 F2 hr1 (ag (pv 0) (ag (pv 4) az))) (fun _ _=>rfl)) (bX kG (ixZ (pv 4)) (ixZ (eh eY (pv 2) (ixZ (pv 4)) (fun _ _=>rfl))))) (pg_sub (pv 3) (pc1 G1 F1 hr1 (ag (pv 0) (ag (pv 4) az))) set_list))))⟩
  (dH ⟨(cw (fA jx rfl T.ttup jC (ag (i3 (fr:=pza) (js:=[0]) rfl (jw (pv 3)) (by trivial) rfl (by trivial) rfl (by exists sTabBy) (by trivial) rfl (by trivial) (fun _ _ _ _ _=>⟨(pc1 G3 F3 hr1 (ag (eh (r:=rIxT K) eY (pv 1) ba (fun _ _=>rfl)) (ag (pv 0) az))),i0⟩)) az)))⟩))),?_⟩
 refine ⟨szZ1,fun q1 H1 S1 h1=>⟨_,rfl,t,_,_,_,rfl,rfl,SqT.of (S1 _ _ ht),aO (j:=1) rfl,q1,m,_,rfl,rfl,h1,by omega,by omega,?_,fun Lt hLt=>?_⟩⟩
 ·show 1 * m.toNat≤bc
  exact fb (by omega)
 have hLtH:H Lt=none:=Same.free S1 hLt;have S2:Same H (upd H1 Lt (.lst (bO m.toNat [V.int 0]).flatten)):=S1.trans (Same.put (Same.refl H1) hLt);have h2:(upd H1 Lt (.lst (bO m.toNat [V.int 0]).flatten)) Lt=some (.lst ((bO m.toNat (0:Int)).map V.int)):=by
  rw [aS,List.map_replicate,List.flatten_replicate_singleton]
 generalize upd H1 Lt (.lst (bO m.toNat [V.int 0]).flatten)=H2 at S2 h2 ⊢;have lz:zs.length=S.length:=by rw [dz.length];unfold cY;rw [aa]
 have len:∀ j,((S.take j).foldl (setT sp (lowB bs)) (bO m.toNat 0)).length=m.toNat:=fun j=>by rw [kM (m:=0),gP]
 refine ⟨_,rfl,L,rfl,⟨_,SqL.of (S2 _ _ hL)⟩,?_⟩;refine ki (K:=K) (a:=L) (xs:=zs) (fun j σ HD=>Same H HD∧HD Lt=some (.lst (((S.take j).foldl (setT sp (lowB bs)) (bO m.toNat 0)).map V.int))∧∃ w4,σ=[some (.ref t),some (.ref L),some (.ref pb),some (.ref Lt),w4]) ⟨S2,h2,none,rfl⟩ (fun j σ HD _ ⟨h,_⟩=>SqL.of (h _ _ hL)) ?_ ?_
 ·rintro j y σ HD hy' ⟨SD,hD,w4,rfl⟩
  have hj:j<S.length:=by have:=(av.mp hy').1;omega
  have hsj:=gE hj;obtain ⟨y',hy2,dy⟩:=dz.at (i:=j) (d:= .tup ((Stp.row S[j]).map Dt.int)) (by unfold cY;rw [ay,hsj];rfl);rw [hy'] at hy2;cases hy2;obtain ⟨q,qs,rfl,hq,rq⟩:=dy.tup_of;have eq:=rq.ints_of;subst eq;obtain ⟨hin,hd⟩:=hS _ (bR hj);have fold:(S.take (j+1)).foldl (setT sp (lowB bs)) (bO m.toNat 0)=setT sp (lowB bs) ((S.take j).foldl (setT sp (lowB bs)) (bO m.toNat 0)) S[j]:=by
   rw [bt,hsj,eP];rfl
  rw [fold];have lj:=len j;generalize (S.take j).foldl (setT sp (lowB bs)) (bO m.toNat 0)=ts at hD lj ⊢;generalize S[j]=st at hq hin hd;obtain ⟨f0,f1'⟩:=frmS_rng E hin;obtain ⟨t0,t1⟩:=kL E hin;have hbi:st.i<bs.length:=by omega
  obtain ⟨qb,hqb,hqb2⟩:=iZ rb (gE hbi);have el:lowB bs st.i=bs[st.i].1:=by unfold lowB;rw [ai,gE hbi];rfl
  have hat:∀ z:Int,0≤z→z<m.toNat→(ts.map V.int)[z.toNat]? =some (V.int (tm ts z)):=fun z z0 z1=>by
   rw [ay,gE (by omega:z.toNat<ts.length)];unfold tm;rw [ai,gE (by omega:z.toNat<ts.length)];rfl
  refine ⟨_,rfl,_,rfl,_,rfl,.ref t,q,b,m,sp,st,sAt sp st.i,rfl,hv.same SD,SD _ _ hq,i8 hin,?_⟩;rw [(lJ hin).2];refine ⟨Lt,_,_,_,rfl,rfl,SqL.of hD,atI_int f0 (hat _ f0 f1'),?_⟩;refine ⟨_,rfl,q,_,_,_,rfl,rfl,SqT.of (SD _ _ hq),aO (j:=1) rfl,_,rfl,_,rfl,q,_,_,_,rfl,rfl,SqT.of (SD _ _ hq),aO (j:=0) rfl,pb,_,_,_,rfl,rfl,SqT.of (SD _ _ hpb),aO (j:=st.i) hqb,qb,_,_,_,rfl,rfl,SqT.of (SD _ _ hqb2),aO (j:=0) rfl,_,_,rfl,rfl,?_,_,_,rfl,rfl,?_⟩
  ·exact .inl (by rcases hd with e | e <;> rw [e] <;> decide)
  refine ⟨_,rfl,_,rfl,_,rfl,.ref t,q,b,m,sp,st,sAt sp st.i,rfl,hv.same SD,SD _ _ hq,i8 hin,?_⟩;rw [(lJ hin).1];refine ⟨Lt,_,_,_,rfl,rfl,hD,ixN_int t0 (by rw [aa];omega),?_⟩;rw [map_set,←el];exact ⟨fun a o e=>by rw [bf (aY e hLtH)];exact SD _ _ e,aS,_,rfl⟩
 ·rintro σ HD ⟨SD,hD,w4,rfl⟩
  rw [lz,bq] at hD;refine ⟨_,rfl,Lt,rfl,⟨_,SqL.of hD⟩,?_⟩;have lt:(jq sp (lowB bs) m.toNat S).length=m.toNat:=by have:=len S.length;rwa [bq] at this
  refine l3 (K:=K) (a:=Lt) (xs:=(jq sp (lowB bs) m.toNat S).map V.int) (fun i zs HC=>HC=HD∧zs=(((jq sp (lowB bs) m.toNat S).take i).map (· % b)).map V.int) ⟨rfl,rfl⟩ (fun i zs HC hi ⟨e1,e2⟩=>⟨by rw [e1];exact SqL.of hD,by rw [e2,aa,aa,bH];omega⟩) (by rw [aa,lt];exact fb (by omega)) (fun i x zs HC hx ⟨e1,e2⟩=>?_) (fun zs HC ⟨e1,e2⟩ D hD2=>?_)
  ·subst e1
   rw [ay] at hx;obtain ⟨z,hz,rfl⟩:=bx.mp hx;refine iB ⟨_,rfl,t,_,_,_,rfl,rfl,SqT.of (SD _ _ ht),aO (j:=0) rfl,_,rfl,b,z,rfl,hb,?_⟩;rw [e2,bt,hz,aA,aA];exact ⟨rfl,rfl⟩
  ·subst e1
   rw [aa,bq] at e2;have S3:Same HC (upd HC D (.lst zs)):=Same.put (Same.refl HC) hD2;refine ⟨D,_,rfl,.inl (.inl aS),fun q H4 S4 h4=>?_⟩;exact k q H4 (SD.trans (S3.trans S4)) (by rw [h4,e2];rfl)
end
abbrev sTabF:cV:=top 32
theorem CutD.move {H H':Hp}{C x:ao}{sp:List Sn}{l:List Nat}{rg:List (Nat×List Stp)}(a:CutD H C x sp l rg)(e:Kp H H')(hx:∀ o,H x=some o→H' x=some o):CutD H' C x sp l rg:=by
 obtain ⟨dx,c0,tl,ol,ord,h1,h2,h3,h4,h5⟩:=a.ex;exact ⟨dx,c0,tl,ol,ord,hx _ h1,h2.kp e,h3.kp e,e.lst _ _ h4,h5⟩
structure CutK (P:aW)(w:bz)(K:ak)(mg:Str→Option ae)(base:bE)(T0:ao)(p0:Pos)(q0:Str)(T1:ao)(p1:Pos)(q1:Str)(C fi g1 g2:ao)(di d1 d2:bu):Prop where
 cc:CutC K C
 mke:Mk K C fi
 gl:mg "Cuts" =some (.ref C)
 ini:dN P w K mg base CX0 9 fi di ["self","net"] (spInitC T0 p0 q0 T1 p1 q1 C)
 bi:Binds K di ["self","net"] []
 m1:Meth K C "span_to_cut" g1
 f1:dN P w K mg base CX0 1 g1 d1 ["self","case"] (spSpanC C)
 b1:Binds K d1 ["self","case"] []
 m2:Meth K C "sides" g2
 f2:dN P w K mg base CX0 2 g2 d2 pzC (spSidesC C)
 b2:Binds K d2 pzC []
section
variable {P:aW} {w:bz} {K:ak} {mg:Str→Option ae} {base:bE}
theorem nP:cu ["net","most","cuts","steps","tables","ahead","case","span"] pzr (defScope sTabF):=by trivial
theorem ok_tabF {f f2 f3 f4 f5 T0 T1 C fi g1 g2:ao}{fd fd2 fd3 fd4 fd5 di d1 d2:bu}{p0 p1:Pos}{q0 q1:Str}(F:Fun K "tables_that_fit" "tables_that_fit" sTabF f fd)(T:Nm mg)(ne:T0≠T1)(CK:CutK P w K mg base T0 p0 q0 T1 p1 q1 C fi g1 g2 di d1 d2)
  (G2:Fn K mg "spread_of" sSpread pza f2 fd2) (F2:dN P w K mg base CX0 7 f2 fd2 pza (spSpread T0 p0 q0))
  (G3:Fn K mg "dead_leaf" sDeadL pzi f3 fd3) (F3:dN P w K mg base CX0 4 f3 fd3 pzi spDeadL)
  (G4:Fn K mg "table_by" sTabBy pzD f4 fd4) (F4:dN P w K mg base CX0 2 f4 fd4 pzD spTabBy)
  (G5:Fn K mg "middle_of" sMid pzl f5 fd5):dN P w K mg base CX0 11 f fd pzr (spTabF T0 p0 q0 T1 p1 q1):=by
 have F5:dN P w K mg base CX0 1 f5 fd5 pzl spMid:=ok_mid G5.F;refine F.ok nP (by contradiction) (fun cdv A outer s H vs Q E hr h=>?_);obtain ⟨v,b,m,sp,most,rfl,hv,N,hmost,hcases,hT0,hT1,k⟩:=h;have hr1:Room 1 _:=hr.mono (by decide);have hr2:Room 2 _:=hr.mono (by decide);have hr4:Room 4 _:=hr.mono (by decide);have hr7:Room 7 _:=hr.mono (by decide);have E:=N.ends;have nfew:=N.few;have m1:=N.m1;have m2:=N.m2;have nb1:=N.b1;refine ⟨_,PSl.h (aR ⟨(bw (i:=2) nP.nd rfl (.inl rfl) (pe_make CK.mke CK.ini hr rfl CK.gl CK.bi .nil pass0 (ag (pv 0) az)))⟩
  (aR ⟨(bw (i:=3) nP.nd rfl (.inl rfl) (pc1 G2 F2 hr7 (ag (pv 0) az)))⟩
  (aR ⟨(bw (i:=4) nP.nd rfl (.inl rfl) (iq az))⟩
  (aR ⟨(bw (i:=5) nP.nd rfl (.inl rfl) (iq (ag (pe_fld (pv 2) rfl) az)))⟩
  (aR ⟨(mW bL (PW.pt (pw_and (cA op_gt (cG bW rfl T.len bG (ag (pv 5) az)) ba (cZ _)) (pw_and1 (cA oH (cG bW rfl T.len bG (ag (pv 4) az)) (pv 1) (cZ _))))) (PSl.h (aR ⟨(bw (i:=6) nP.nd rfl (.inl rfl) (oU aZ eS eR oW (pv 5)))⟩
  (dH ⟨(gn (cA op_isN (pc1 G3 F3 hr4 (ag (pv 0) (ag (pv 6) az))) jI (cZ _)) (PSl.h (aR ⟨(bw (i:=7) nP.nd rfl (.inl rfl) (pe_meth (pv 2) CK.cc.cl CK.m1 CK.f1 hr1 CK.b1 .nil pass0 (ag (pv 6) az)))⟩
  (dH ⟨(gn (cA op_isN (pv 7) jI (cZ _)) (cO (gL (kr aZ bZ bY gq (pv 4) (ag (pc1 G4 F4 hr2 (ag (pv 0) (ag (pv 3) (ag (ixZ (pv 6)) az)))) az)))) (cO (gL (kr aZ PySem.F.slot_list_extend PySem.F.type_list_extend mt_extend (pv 5) (ag (pe_meth (pv 2) CK.cc.cl CK.m2 CK.f2 hr2 CK.b2 .nil pass0 (ag (pv 6) (ag (pv 7) (ag (pc1 G5 F5 hr1 (ag (pv 6) (ag (pv 7) az))) az)))) az)))))⟩))) dO)⟩))))⟩
  (dH ⟨(cw (pv 4))⟩)))))),?_⟩
 refine ⟨_,rfl,fun x dx hx hdx nxd=>?_⟩;have S0:Same H (upd (upd H dx (.own x)) x (.ins C dx [])):=by
  have Sa:Same H (upd H dx (.own x)):=Same.put (Same.refl H) hdx;exact Same.put Sa (by rw [bf (cp nxd)];exact hx)
 have hx0:(upd (upd H dx (.own x)) x (.ins C dx [])) x=some (.ins C dx []):=aS;generalize upd (upd H dx (.own x)) x (.ins C dx [])=H0 at S0 hx0 ⊢;refine ⟨x,dx,v,b,m,sp,rfl,hx0,hv.same S0,N,LamT.same S0 hT0,LamT.same S0 hT1,fun l rg H1 st1 kp1 hT01 hT11 R cd1=>⟨rfl,?_⟩⟩;have f:=R.ff N;have fr:=R.fr;have lrg:rg.length≤40:=by
  have:rg.length=(nS sp l).length:=by rw [←R.ks,aa]
  have h2:(nS sp l).length≤sp.length:=by unfold nS;exact bj (i7 _ _) (by rw [bo];exact aC _)
  omega
 have tl:l.length≤15:=by have:=fr.few E (by omega);omega
 have hlt:=f.acy.nodup.2;have st1':∀ a o,a≠T0→a≠T1→H a=some o→H1 a=some o:=fun a o n0 n1 e=>st1 a o n0 n1 (aY e hx) (S0 _ _ e)
 have kp1':Kp H H1:=(Same.kp S0).trans kp1;have hv1:=cU kp1'.tup hv;refine ⟨_,rfl,v,b,m,sp,rfl,hv1,N,hT01,fun Ls zsS l' S H2 tb2 hT02 fLs hLs dS fr' SO=>?_⟩;have el:l'=l:=FrstL.one fr' fr;subst el;have kp2:Kp H1 H2:=Tb.kp hT01 tb2;have hT12:=LamT.ntb hT11 hT01 (cp ne) tb2;have cd2:CutD H2 C x sp l' rg:=cd1.move kp2 fun o e=>tb2 x o (by
  obtain ⟨_,_,_,_,_,h1,_⟩:=cd1.ex;obtain ⟨ps,h⟩:=LamT.tbl hT01;exact ie h1 h nofun) e
 have st2:∀ a o,a≠T0→a≠T1→H a=some o→H2 a=some o:=fun a o n0 n1 e=>tb2 a o n0 (st1' a o n0 n1 e)
 have kp2':=kp1'.trans kp2;have hv2:=cU kp2.tup hv1;clear kp2 tb2 cd1 hT01 hT11 hv1 kp1' st1' kp1 st1 hv S0 fr' hx0;obtain ⟨dx',c0,tl',ol,ord,h1,h2,h3,h4,h5⟩:=cd2.ex;refine ⟨bI _,fun Lt hLt=>?_⟩;have S3:Same H2 (upd H2 Lt (.lst [])):=Same.put (Same.refl H2) hLt;have hLt3:(upd H2 Lt (.lst [])) Lt=some (.lst []):=aS;generalize upd H2 Lt (.lst [])=H3 at S3 hLt3 ⊢;refine ⟨_,rfl,x,C,dx',_,_,rfl,S3 _ _ h1,CK.cc.cl,CK.cc.n1,rfl,szZ1,fun Ah hAh=>?_⟩;have hAh2:H2 Ah=none:=Same.free S3 hAh;have nLA:Lt≠Ah:=fun z=>by rw [←z,hLt3] at hAh;cases hAh
 have S4:Same H3 (upd H3 Ah (.lst [.ref c0])):=Same.put (Same.refl H3) hAh;have hAh4:(upd H3 Ah (.lst [.ref c0])) Ah=some (.lst [.ref c0]):=aS;generalize upd H3 Ah (.lst [.ref c0])=H4 at S4 hAh4 ⊢;have S24:=S3.trans S4;have cl4:CsL H2 H4 [.ref c0] [(sp.map fun z=>(z.l,z.o),rg)]:=by
  obtain ⟨vb,u,rl,a1,a2,a3,a4⟩:=h2.ex;exact .cons ⟨c0,rfl,vb,u,rl,S24 _ _ a1,a2.same S24,a3,a4⟩ .nil
 have sz0:szC l' [(sp.map fun z=>(z.l,z.o),rg)]≤8191:=by
  have e:=kd l' hlt fun y hy=>(N.all y hy).lo
  have:=hcases l' fr;show (2 * fc (sp.map fun z=>(z.l,z.o)) l' - 1)+0≤8191;omega
 refine ⟨fun n σ Hc=>∃ (cs:List Cse) (Ts:List (List Int)) (zs tv:List V) (w6 w7:Option V),n=szC l' cs∧n≤8191∧σ=[some v,some (.int (most:Nat)),some (.ref x),some (.ref Ls),some (.ref Lt),some (.ref Ah),w6,w7]∧Same H2 Hc∧Hc Ah=some (.lst zs)∧CsL H2 Hc zs cs∧Hc Lt=some (.lst tv)∧IsDs Hc tv (cY id Ts)∧SrcI b m sp l' rg cs Ts∧Ts.length≤most,⟨_,_,[],_,[],_,_,rfl,sz0,rfl,S24,hAh4,cl4,S4 _ _ hLt3,.nil,SrcI.start N lrg,bI _⟩,?_⟩;clear cl4 hAh4 S4 S24 hLt3 S3 hAh sz0;rintro n σ Hc ⟨cs,Ts,zs,tv,w6,w7,rfl,n8,rfl,Sc,hAc,clc,hLc,dtv,I,hTs⟩;have lzs:zs.length=cs.length:=Paired.len clc;have ltv:tv.length=Ts.length:=by rw [dtv.length];unfold cY;rw [aa]
 have lcs:=szC_len hlt cs I.ok;have pF:fc (sp.map fun z=>(z.l,z.o)) l'≤4096:=by
  have e:=kd l' hlt fun y hy=>(N.all y hy).lo
  have:=hcases l' fr;omega
 have fin:(Ts.length<most∨most=4096→cs=[])→Q (.ref Lt) Hc:=fun he=>k Lt tv l' rg Ts Hc (fun a o n0 n1 e=>Sc _ _ (st2 a o n0 n1 e)) (kp2'.trans (Same.kp Sc)) (LamT.same Sc hT02) (LamT.same Sc hT12) hLc dtv R I.tabs hTs fun lt T hT=>by
  rcases I.hold T hT with h | ⟨c,hc,_⟩
  ·exact h
  ·rw [he lt] at hc;cases hc
 refine ⟨_,rfl,Ah,_,rfl,.inl (SqL.of hAc),_,_,rfl,rfl,_,rfl,?_⟩
 rcases List.eq_nil_or_concat cs with rfl | ⟨cs',c,rfl⟩
 ·have:zs=[]:=ky.mp lzs
  subst this;refine jT (by rfl) (iteF ⟨_,rfl,fin fun _=>rfl⟩)
 rw [List.concat_eq_append] at *;obtain ⟨zs',y,rfl,clc',q,rfl,ce⟩:=Paired.snoc_of clc;refine iteB (pA (by rw [aq];show ((zs'.length+1:Nat):Int) > 0;omega)) ?_;refine ⟨_,rfl,Lt,_,rfl,.inl (SqL.of hLc),_,rfl,_,_,rfl,rfl,_,rfl,?_⟩
 by_cases hlm:Ts.length<most
 rotate_left
 ·exact jT (pB (by omega)) ⟨_,rfl,fin fun z=>pj z fun z=>by
   rcases z with z | z
   ·exact hlm z
   ·have h0:=I.cnt
    rw [nU] at h0;have h1:=iD (I.ok c (by simp)).ob hlt;have e1:psC l' [c]=fc c.1 l'+0:=rfl;omega⟩
 refine iteB (pA (by omega)) ⟨_,fun σ' H' z=>z,?_⟩;refine ⟨_,rfl,.inl ⟨rfl,_,SqL.of hAc⟩,Ah,_,.ref q,rfl,rfl,hAc,by rw [aq,bS (by simp)];simp,?_⟩;rw [fX];have K5:TupK Hc (upd Hc Ah (.lst zs')):=eM hAc;have S5:Same H2 (upd Hc Ah (.lst zs')):=fun a o e=>by rw [bf (aY e hAh2)];exact Sc _ _ e
 have hA5:(upd Hc Ah (.lst zs')) Ah=some (.lst zs'):=aS;have hL5:(upd Hc Ah (.lst zs')) Lt=some (.lst tv):=by rw [bf nLA];exact hLc
 have cl5:=CsL.keep K5 (show CsL H2 Hc zs' cs' from clc');have ce5:=ce.keep K5;have dtv5:=bT K5 dtv;generalize upd Hc Ah (.lst zs')=H5 at K5 S5 hA5 hL5 cl5 ce5 dtv5 ⊢;have C:=I.ok c (by simp);have ix:=I.less f;have lcs':cs'.length+1≤8191:=by rw [aq] at lcs;show cs'.length+[c].length≤8191;omega
 have lz':zs'.length=cs'.length:=Paired.len cl5;clear clc clc' ce hAc hLc dtv K5 lzs fin;refine ⟨_,rfl,_,rfl,v,q,b,m,sp,c.1,c.2,rfl,hv2.same S5,by omega,by have:=N.b2;omega,ce5.dn S5,C.few,fun z hz=>by rw [C.ob.len];exact ((f.rk z (C.sub z hz)).rg N tl).inn,fun r H6 S6 hd=>⟨rfl,_,rfl,?_⟩⟩;have S26:=S5.trans S6;have hA6:=S6 _ _ hA5;have hL6:=S6 _ _ hL5;have ce6:=ce5.keep (Same.tupK S6);have cl6:=CsL.keep (Same.tupK S6) cl5;have dtv6:=dtv5.same S6;clear ce5 cl5 dtv5 hA5 hL5
 rcases hd with ⟨rfl,al⟩ | ⟨z,hz,dz,hdz⟩
 rotate_left
 ·have:r≠ .non:=fun e=>by rw [e] at dz;cases dz
  refine jT (pB this) ?_;exact ⟨_,ix,cs',Ts,zs',tv,_,_,rfl,by omega,rfl,S26,hA6,cl6,hL6,dtv6,I.dead N f hz hdz,hTs⟩
 refine iteB (pA rfl) ?_;refine ⟨_,rfl,x,dx',_,rfl,S26 _ _ h1,rfl,_,rfl,x,q,sp,l',rg,c.2,c.1,rfl,cd2.same S26,ce6.dn S26,fun j hj=>by rw [C.ob.len];exact hlt j hj,by omega,fun fx=>?_,fun j hj hlj=>?_⟩
 ·refine ⟨_,rfl,rfl,_,rfl,iteB (pA rfl) ?_⟩
  obtain ⟨vb,u,rl,a1,a2,a3,a4⟩:=ce6.ex;refine ⟨_,rfl,.inl ⟨rfl,_,SqL.of hL6⟩,_,rfl,_,rfl,_,rfl,q,_,_,_,rfl,rfl,SqT.of a1,aO (j:=0) rfl,v,vb,Ls,b,m,sp,c.1,zsS,S,rfl,hv2.same S26,by omega,by omega,m2,E,S26 _ _ hLs,dS.same S26,by have:=SO.len;omega,fun s' hs'=>⟨hlt _ (SO.inn s' hs').1,(SO.inn s' hs').2⟩,a2,C.ob.len,fun qt H7 S7 h7=>?_⟩;refine ⟨Lt,_,_,rfl,rfl,S7 _ _ hL6,cf (m:=4096) (by omega) (by decide),?_⟩;have K8:TupK H7 (upd H7 Lt (.lst (tv++[.ref qt]))):=eM (S7 _ _ hL6);refine ⟨_,ix,cs',Ts++[tabOf b sp c.1 m.toNat S],zs',tv++[.ref qt],_,_,rfl,by omega,rfl,fun a o e=>?_,?_,CsL.keep K8 (CsL.keep (Same.tupK S7) cl6),aS,?_,I.leaf N f SO al fx,by rw [aq];exact hlm⟩
  ·rw [bf (aY e hLt)];exact S7 _ _ (S26 _ _ e)
  ·rw [bf (cp nLA)];exact S7 _ _ hA6
  ·refine bT K8 ?_
   unfold cY;rw [aA];exact (dtv6.same S7).append (.cons (.tup h7 (IsDs.ints _)) .nil)
 ·refine ⟨_,rfl,rfl,_,rfl,jT (pB nofun) ?_⟩
  have hjb:j<c.1.length:=by rw [C.ob.len];exact hlt j hj
  refine ⟨_,rfl,.inl ⟨rfl,_,SqL.of hA6⟩,_,rfl,x,dx',_,rfl,S26 _ _ h1,rfl,_,rfl,_,rfl,_,rfl,_,rfl,q,j,c.1,c.2,rfl,ce6.dn S26,hjb,?_⟩;obtain ⟨a,ha⟩:∃ a,a=((c.1.getD j (0,0)).1+(c.1.getD j (0,0)).2) / 2:=⟨_,rfl⟩;rw [←ha];refine ⟨H2,x,q,j,a,sp,l',rg,c.2,c.1,rfl,S26,cd2,ce6.dn S26,hjb,C.ob.len,by rw [C.ob.len];exact nfew,fun L q1 q2 H7 S7 fL hL e1 e2=>?_⟩;have nLA2:L≠Ah:=fun z=>by rw [z,hA6] at fL;cases fL
  refine ⟨Ah,L,_,_,rfl,rfl,S7 _ _ hA6,hL,bj (m:=10000) (by show zs'.length+2≤10000;omega) (by decide),?_⟩;have K8:TupK H7 (upd H7 Ah (.lst (zs'++[.ref q1,.ref q2]))):=eM (S7 _ _ hA6);obtain ⟨I',less'⟩:=I.cut N f lrg al hj (a:=a) (by omega) (by omega);refine ⟨_,less',_,Ts,_,tv,_,_,rfl,by omega,rfl,fun a o e=>?_,aS,?_,?_,bT K8 (dtv6.same S7),I',hTs⟩
  ·rw [bf (aY e hAh2)];exact S7 _ _ (S26 _ _ e)
  ·exact Paired.app (CsL.keep K8 (CsL.keep (Same.tupK S7) cl6)) (.cons ⟨q1,rfl,e1.keep K8⟩ (.cons ⟨q2,rfl,e2.keep K8⟩ .nil))
  ·rw [bf nLA];exact S7 _ _ hL6
end
abbrev sTreeF:cV:=top 33
section
variable {P:aW} {w:bz} {K:ak} {mg:Str→Option ae} {base:bE}
theorem nN:cu ["marks","trees","mark","one","other"] ["marks"] (defScope sTreeF):=by trivial
theorem ok_treeF {f:ao}{fd:bu}(F:Fun K "tree_from" "tree_from" sTreeF f fd)(RV:mg "reversed" =none):dN P w K mg base CX0 1 f fd ["marks"] spTreeF:=by
 refine F.ok nN (by contradiction) (fun cdv A outer s H vs Q E hr h=>?_);obtain ⟨L,ys,ms,t,rfl,hL,dys,ems,hlw,few,k⟩:=h;refine ⟨_,PSl.h (aR ⟨(bw (i:=1) nN.nd rfl (.inl rfl) (iq az))⟩
  (aR ⟨(iC bL rfl (pi_revL rfl RV (ag (pv 0) az)) (df (i:=2) nN.nd rfl (.inl rfl)) (cO (gn (cA lQ (ixZ (pv 2)) kW (cZ _)) (PSl.h (aR ⟨(bw (i:=3) nN.nd rfl (.inl rfl) (oU aZ eS eR oW (pv 1)))⟩
  (aR ⟨(bw (i:=4) nN.nd rfl (.inl rfl) (oU aZ eS eR oW (pv 1)))⟩
  (dH ⟨(gL (kr aZ bZ bY gq (pv 1) (ag (bX nZ (pv 2) (d8 (ag (pv 3) (ag (pv 4) az)))) az)))⟩)))) (cO (gL (kr aZ bZ bY gq (pv 1) (ag (pv 2) az)))))))⟩
  (dH ⟨(cw (eh dX (pv 1) ba (fun _ _=>rfl)))⟩))),?_⟩
 refine ⟨bI _,fun Lt hLt=>?_⟩;have nLL:L≠Lt:=aY hL hLt;have S1:Same H (upd H Lt (.lst [])):=Same.put (Same.refl H) hLt;have h1:(upd H Lt (.lst [])) Lt=some (.lst []):=aS;generalize upd H Lt (.lst [])=H1 at S1 h1 ⊢;have lys:ys.length=ms.length:=by rw [dys.length,aa]
 have tot:ms.reverse.foldl stpT (some [])=some [t]:=by rw [ems];exact stp_pre t []
 refine ⟨_,rfl,L,ys,rfl,SqL.of (S1 _ _ hL),?_⟩;refine for_revL (K:=K) (a:=L) (xs:=ys) (fun i σ H2=>Same H H2∧∃ (zs:List V) (st:List Tq) (v2 v3 v4:Option V),σ=[some (.ref L),some (.ref Lt),v2,v3,v4]∧H2 Lt=some (.lst zs)∧(ms.reverse.take i).foldl stpT (some [])=some st∧IsDs H2 zs (st.reverse.map jA)∧st.length≤i∧∀ t∈st,pl (jA t)=true) ⟨S1,[],[],none,none,none,rfl,h1,rfl,.nil,aC _,fun _ h=>pj h (by simp)⟩ (fun i σ H2 _ ⟨S2,_⟩=>SqL.of (S2 _ _ hL)) ?_ ?_
 ·rintro i x σ H2 hx ⟨S2,zs,st,v2,v3,v4,rfl,hz,hst,dz,lst,pls'⟩
  have hi:i<ys.length:=by have:=(av.mp hx).1;rwa [eQ] at this
  have hm:ms.reverse[i]? =some (ms.reverse[i]'(by rw [eQ];omega)):=gE _;obtain ⟨mk,hmk⟩:∃ mk,ms.reverse[i]? =some mk:=⟨_,hm⟩;clear hm;have dx:IsD H2 x (mrkD mk):=by
   have hj:ys.length - 1 - i<ys.length:=by omega
   rw [List.getElem?_reverse (by omega)] at hx;rw [List.getElem?_reverse (by omega)] at hmk;obtain ⟨y,hy,dy⟩:=(dys.same S2).at (i:=ys.length - 1 - i) (d:=mrkD mk) (by rw [ay,lys,hmk];rfl);rw [hx] at hy;cases hy;exact dy
  obtain ⟨st',est,est2⟩:=stp_at tot hmk hst;have lzs:zs.length≤10000:=by
   have:=dz.length;rw [aa,eQ] at this;omega
  cases mk with
  | leaf d =>
   have e:st'= .leaf d::st:=by
    have:some (Tq.leaf d::st)=some st':=est;cases this;rfl
   subst e;obtain ⟨pd,w1,x1,ed,nw⟩:=hlw d (List.mem_reverse.mp (bp hmk));have dx:IsD H2 x d:=dx;rw [ed] at dx;obtain ⟨q,xs,rfl,hq,rq⟩:=IsD.tup_of dx;cases rq with
   | cons d0 rq =>
    cases d0;refine ⟨_,rfl,q,_,_,_,rfl,rfl,SqT.of hq,aO (j:=0) rfl,rfl,_,rfl,jT (pB (fun z=>nw (by injection z))) ?_⟩;refine ⟨_,rfl,.inl ⟨rfl,_,SqL.of hz⟩,_,rfl,Lt,zs,_,rfl,rfl,hz,(cf lzs (by decide)),?_⟩;have KC:TupK H2 (upd H2 Lt (.lst (zs++[.ref q]))):=eM hz;refine ⟨fun a o e=>by rw [bf (aY e hLt)];exact S2 _ _ e,zs++[.ref q],_,_,_,_,rfl,aS,est2,?_,by rw [aV];omega,fun t ht=>?_⟩
    ·rw [fW,aA]
     refine (IsDs.keepP KC dz (k6 _ fun t ht=>pls' t (List.mem_reverse.mp ht))).append (.cons ?_ .nil);rw [←ed] at dx;exact IsD.keepP KC dx pd
    ·rcases aL.mp ht with rfl | ht
     ·exact pd
     ·exact pls' t ht
  | cut kc ac =>
   obtain ⟨x1,y1,s1,rfl,e⟩:∃ x1 y1 s1,st=x1::y1::s1∧st'= .cut kc ac x1 y1::s1:=by
    rcases st with _ | ⟨x1,_ | ⟨y1,s1⟩⟩
    ·cases est
    ·cases est
    ·refine ⟨x1,y1,s1,rfl,?_⟩
     have:some (Tq.cut kc ac x1 y1::s1)=some st':=est;cases this;rfl
   subst e;have dx:IsD H2 x (.tup [.str "cut",.int (kc:Nat),.int ac]):=dx;obtain ⟨q,xs,rfl,hq,rq⟩:=IsD.tup_of dx;obtain rfl:xs=[.str "cut",.int (kc:Nat),.int ac]:=by
    cases rq with
    | cons d0 rq =>
     cases d0;cases rq with
     | cons d1 rq =>
      cases d1;cases rq with
      | cons d2 rq=>cases d2;cases rq;rfl
   rw [fW,fW,aA,aA] at dz;obtain ⟨zs1,vx,rfl,dz1,dvx⟩:=IsDs.snocD dz;obtain ⟨zs2,vy,rfl,dz2,dvy⟩:=IsDs.snocD dz1;have px:=pls' x1 (by simp);have py:=pls' y1 (by simp);refine ⟨_,rfl,q,_,_,_,rfl,rfl,SqT.of hq,aO (j:=0) rfl,rfl,_,rfl,iteB (pA rfl) ?_⟩;refine ⟨_,rfl,.inl ⟨rfl,_,SqL.of hz⟩,Lt,_,vx,rfl,rfl,hz,by rw [aq,bS (by simp)];simp,?_⟩;rw [fX];have K3:TupK H2 (upd H2 Lt (.lst (zs2++[vy]))):=eM hz;have S3:Same H (upd H2 Lt (.lst (zs2++[vy]))):=fun a o e=>by rw [bf (aY e hLt)];exact S2 _ _ e
   have h3:(upd H2 Lt (.lst (zs2++[vy]))) Lt=some (.lst (zs2++[vy])):=aS;generalize upd H2 Lt (.lst (zs2++[vy]))=H3 at K3 S3 h3 ⊢;refine ⟨_,rfl,.inl ⟨rfl,_,SqL.of h3⟩,Lt,_,vy,rfl,rfl,h3,by rw [aq,bS (by simp)];simp,?_⟩;rw [fX];have K4:TupK H2 (upd H3 Lt (.lst zs2)):=K3.trans (eM h3);have S4:Same H (upd H3 Lt (.lst zs2)):=fun a o e=>by rw [bf (aY e hLt)];exact S3 _ _ e
   have h4:(upd H3 Lt (.lst zs2)) Lt=some (.lst zs2):=aS;generalize upd H3 Lt (.lst zs2)=H4 at K4 S4 h4 ⊢;refine ⟨_,rfl,.inl ⟨rfl,_,SqL.of h4⟩,_,rfl,_,rfl,_,rfl,l6,fun q5 H5 S5 h5=>?_⟩;refine ⟨q,q5,_,_,rfl,rfl,S5 _ _ (K4 _ _ hq),h5,szZ5,fun q6 H6 S6 h6=>?_⟩;have S46:=S5.trans S6;refine ⟨Lt,zs2,_,rfl,rfl,S46 _ _ h4,(cf (by rw [aq,aq] at lzs;omega:zs2.length≤10000) (by decide)),?_⟩;have K26:TupK H2 H6:=fun a xs e=>S46 _ _ (K4 _ _ e)
   have KC:TupK H6 (upd H6 Lt (.lst (zs2++[.ref q6]))):=eM (S46 _ _ h4);have K2C:=K26.trans KC;refine ⟨fun a o e=>by rw [bf (aY e hLt)];exact S46 _ _ (S4 _ _ e),zs2++[.ref q6],_,_,_,_,rfl,aS,est2,?_,by simp only [aV] at lst ⊢;omega,fun t ht=>?_⟩
   ·rw [fW,aA]
    refine (IsDs.keepP K2C dz2 (k6 _ fun t ht=>pls' t (by simp [List.mem_reverse.mp ht]))).append (.cons ?_ .nil);exact .tup (KC _ _ h6) (.cons (.str _) (.cons (.int _) (.cons (.int _) (.cons (IsD.keepP K2C dvx px) (.cons (IsD.keepP K2C dvy py) .nil)))))
   ·rcases aL.mp ht with rfl | ht
    ·exact pl_cut px py
    ·exact pls' t (by simp [ht])
 ·rintro σ H2 ⟨S2,zs,st,v2,v3,v4,rfl,hz,hst,dz,lst,pls'⟩
  rw [lys,←eQ,bq,tot] at hst;cases hst;cases dz with
  | cons d0 dn =>
   cases dn;exact ⟨_,rfl,Lt,_,_,_,rfl,rfl,SqL.of hz,aO (j:=0) rfl,k _ H2 S2 d0⟩
end
def StayT (T0 T1:ao)(H H':Hp):Prop:=∀ a o,a≠T0→a≠T1→H a=some o→H' a=some o
theorem StayT.trans {T0 T1:ao}{H H1 H2:Hp}(a:StayT T0 T1 H H1)(b:StayT T0 T1 H1 H2):StayT T0 T1 H H2:=fun x o n0 n1 e=>b x o n0 n1 (a x o n0 n1 e)
theorem Same.stayT {T0 T1:ao}{H H':Hp}(a:Same H H'):StayT T0 T1 H H':=fun x o _ _ e=>a x o e
inductive spLeafIn (v:V)(b m:Int)(sp:List Sn)(R:List (Int×Int)→Dt→Prop)(vs:List V)(H:Hp)(Q:VK)(_:XK):Prop
 | mk (l:List Nat)(rg:List (Nat×List Stp))(q:ao)(c:Cse)(_:vs=[.ref q])(_:FR m sp l rg)(_:CsD H q c.1 c.2)(_:CaseOk b sp l rg c)(_:IsD H v (ko b m sp))(_:∀ r H',Same H H'→((∃ d,IsD H' r d∧ly d∧R c.1 d)∨(r= .non∧(∀ z∈c.2,i5 b c.1 z.2=false)∧∃ k∈l,(c.1.getD k (0,0)).1<(c.1.getD k (0,0)).2))→Q r H')
inductive spTreeBy (P:aW)(w:bz)(K:ak)(mg:Str→Option ae)(base:bE)(T0:ao)(p0:Pos)(q0:Str)(T1:ao)(p1:Pos)(q1:Str)(vs:List V)(H:Hp)(Q:VK)(_:XK):Prop
 | mk (v:V)(g:ao)(b m:Int)(sp:List Sn)(R:List (Int×Int)→Dt→Prop)(_:vs=[v,.ref g])(_:IsD H v (ko b m sp))(_:NetT b m sp)(_:(∀ l,FrstL m.toNat sp l→ka sp l≤4096))(_:L2.LamT T0 p0 q0 H)(_:L2.LamT T1 p1 q1 H)(_:LmOk P w K mg base 6 g (StayT T0 T1 H) (spLeafIn v b m sp R))(_:∀ (u:V) (t:Tq) (H':Hp),StayT T0 T1 H H'→Kp H H'→L2.LamT T0 p0 q0 H'→L2.LamT T1 p1 q1 H'→IsD H' u (jA t)→pl (jA t)=true→GoodT R t (sp.map fun z=>(z.l,z.o)) 21→Q u H')
section
variable {b m:Int} {sp:List Sn} {l:List Nat} {rg:List (Nat×List Stp)} {cs:List Cse} {c:Cse}
theorem sz_cut (f:FF m sp l rg)(lrg:rg.length≤40)(C:CaseOk b sp l rg c)(al:∀ q∈c.2,i5 b c.1 q.2=false){k:Nat}{a:Int}(hk:k∈l)(h1:(c.1.getD k (0,0)).1≤a)(h2:a<(c.1.getD k (0,0)).2)(hc:∀ d∈cs,CaseOk b sp l rg d) :
  (∀ d∈cs++[(eU c.1 k a,rg.filter (hI k)),(kx c.1 k a,rg.filter (hI k))],CaseOk b sp l rg d)∧szC l (cs++[(eU c.1 k a,rg.filter (hI k)),(kx c.1 k a,rg.filter (hI k))])<szC l (cs++[c])∧2≤fc c.1 l:=by
 have ht2:=f.acy.nodup.2;obtain ⟨o1,o2⟩:=C.cut lrg ht2 al hk h1 h2;have p1:0<fc (eU c.1 k a) l:=iD o1.ob ht2;have p2:0<fc (kx c.1 k a) l:=iD o2.ob ht2;have e:=k5 C.ob f.acy.nodup.1 ht2 hk h1 h2;refine ⟨fun d hd=>?_,?_,by omega⟩
 ·rcases aM.mp hd with z | z
  ·exact hc d z
  ·rcases aL.mp z with rfl | z
   ·exact o1
   ·rw [aw.mp z];exact o2
 ·rw [kX,kX]
  show _+((2 * fc (eU c.1 k a) l - 1)+((2 * fc (kx c.1 k a) l - 1)+0))<_+((2 * fc c.1 l - 1)+0);omega
theorem sz_less (f:FF m sp l rg)(C:CaseOk b sp l rg c):szC l cs<szC l (cs++[c]):=by
 have:=iD C.ob f.acy.nodup.2;rw [kX];show _<_+((2 * fc c.1 l - 1)+0);omega
end
theorem pls_appT:∀ (xs ys:List Dt),pls (xs++ys)=(pls xs && pls ys)
 | [],ys=>by show pls ys=(true && pls ys);rw [Bool.true_and]
 | x::xs,ys=>by
  show (pl x && pls (xs++ys))=((pl x && pls xs) && pls ys);rw [pls_appT xs ys,Bool.and_assoc]
theorem LmOk.mono {P:aW}{w:bz}{K:ak}{mg:Str→Option ae}{base:bE}{j k:Nat}{f:ao}{Hf:Hp→Prop}{sp:Sp}(L:LmOk P w K mg base j f Hf sp)(h:j≤k):LmOk P w K mg base k f Hf sp:=⟨L.isFn,fun A outer s H u v Q hr=>L.run A outer s H u v Q (hr.mono h)⟩
theorem pl_pre:∀ (t:Tq),(∀ d,Mrk.leaf d∈pre t→ly d)→pl (jA t)=true
 | .leaf d,h=>(h d (by simp [pre])).1
 | .cut k a x y,h=>pl_cut (pl_pre x fun d hd=>h d (by simp [pre,hd])) (pl_pre y fun d hd=>h d (by simp [pre,hd]))
abbrev sTreeB:cV:=top 34
section
variable {P:aW} {w:bz} {K:ak} {mg:Str→Option ae} {base:bE}
theorem j8:cu ["net","leaf_in","cuts","marks","ahead","case","mark","span","at"] pzs (defScope sTreeB):=by trivial
theorem ok_treeBy {f f5 f6 T0 T1 C fi g1 g2:ao}{fd fd5 fd6 di d1 d2:bu}{p0 p1:Pos}{q0 q1:Str}(F:Fun K "tree_by" "tree_by" sTreeB f fd)(T:Nm mg)(CK:CutK P w K mg base T0 p0 q0 T1 p1 q1 C fi g1 g2 di d1 d2)
  (G5:Fn K mg "middle_of" sMid pzl f5 fd5) (G6:Fn K mg "tree_from" sTreeF ["marks"] f6 fd6) (F6:dN P w K mg base CX0 1 f6 fd6 ["marks"] spTreeF):dN P w K mg base CX0 11 f fd pzs (spTreeBy P w K mg base T0 p0 q0 T1 p1 q1):=by
 have F5:dN P w K mg base CX0 1 f5 fd5 pzl spMid:=ok_mid G5.F;refine F.ok j8 (by contradiction) (fun cdv A outer s H vs Q E hr h=>?_);obtain ⟨v,g,b,m,sp,R,rfl,hv,N,hcases,hT0,hT1,LM,k⟩:=h;have hr1:Room 1 _:=hr.mono (by decide);have hr2:Room 2 _:=hr.mono (by decide);have hr6:Room 6 _:=hr.mono (by decide);have E:=N.ends;have nfew:=N.few;have m1:=N.m1;have m2:=N.m2;have nb1:=N.b1;refine ⟨_,PSl.h (aR ⟨(bw (i:=2) j8.nd rfl (.inl rfl) (pe_make CK.mke CK.ini hr rfl CK.gl CK.bi .nil pass0 (ag (pv 0) az)))⟩
  (aR ⟨(bw (i:=3) j8.nd rfl (.inl rfl) (iq az))⟩
  (aR ⟨(bw (i:=4) j8.nd rfl (.inl rfl) (iq (ag (pe_fld (pv 2) rfl) az)))⟩
  (aR ⟨(mW bL (cA op_gt (cG bW rfl T.len bG (ag (pv 4) az)) ba (cZ _)) (PSl.h (aR ⟨(bw (i:=5) j8.nd rfl (.inl rfl) (oU aZ eS eR oW (pv 4)))⟩
  (aR ⟨(bw (i:=6) j8.nd rfl (.inl rfl) (pe_callV (i:=1) LM hr6 (pv 5)))⟩
  (aR ⟨(k4 (gn (cA op_isN (pv 6) jI (cZ _)) (PSl.h (aR ⟨(bw (i:=7) j8.nd rfl (.inl rfl) (pe_meth (pv 2) CK.cc.cl CK.m1 CK.f1 hr1 CK.b1 .nil pass0 (ag (pv 5) az)))⟩
  (aR ⟨(bw (i:=8) j8.nd rfl (.inl rfl) (pc1 G5 F5 hr1 (ag (pv 5) (ag (pv 7) az))))⟩
  (aR ⟨(bw (i:=6) j8.nd rfl (.inl rfl) (d8 (ag kW (ag (pv 7) (ag (pv 8) az)))))⟩
  (dH ⟨(gL (kr aZ PySem.F.slot_list_extend PySem.F.type_list_extend mt_extend (pv 4) (ag (pe_meth (pv 2) CK.cc.cl CK.m2 CK.f2 hr2 CK.b2 .nil pass0 (ag (pv 5) (ag (pv 7) (ag (pv 8) az)))) az)))⟩))))) dO))⟩
  (dH ⟨(gL (kr aZ bZ bY gq (pv 3) (ag (pv 6) az)))⟩))))))⟩
  (dH ⟨(cw (pc1 G6 F6 hr1 (ag (pv 3) az)))⟩))))),?_⟩
 refine ⟨_,rfl,fun x dx hx hdx nxd=>?_⟩;have S0:Same H (upd (upd H dx (.own x)) x (.ins C dx [])):=by
  have Sa:Same H (upd H dx (.own x)):=Same.put (Same.refl H) hdx;exact Same.put Sa (by rw [bf (cp nxd)];exact hx)
 have hx0:(upd (upd H dx (.own x)) x (.ins C dx [])) x=some (.ins C dx []):=aS;generalize upd (upd H dx (.own x)) x (.ins C dx [])=H0 at S0 hx0 ⊢;refine ⟨x,dx,v,b,m,sp,rfl,hx0,hv.same S0,N,LamT.same S0 hT0,LamT.same S0 hT1,fun l rg H2 st1 kp1 hT02 hT12 RR cd2=>⟨rfl,?_⟩⟩;have f:=RR.ff N;have fr:=RR.fr;have lrg:rg.length≤40:=by
  have:rg.length=(nS sp l).length:=by rw [←RR.ks,aa]
  have h2:(nS sp l).length≤sp.length:=by unfold nS;exact bj (i7 _ _) (by rw [bo];exact aC _)
  omega
 have tl:l.length≤15:=by have:=fr.few E (by omega);omega
 have hlt:=f.acy.nodup.2;have st2:StayT T0 T1 H H2:=fun a o n0 n1 e=>st1 a o n0 n1 (aY e hx) (S0 _ _ e)
 have kp2':Kp H H2:=(Same.kp S0).trans kp1;have hv2:=cU kp2'.tup hv;clear st1 kp1 S0 hx0 hv;obtain ⟨dx',c0,tl',ol,ord,h1,h2,h3,h4,h5⟩:=cd2.ex;refine ⟨bI _,fun Lt hLt=>?_⟩;have S3:Same H2 (upd H2 Lt (.lst [])):=Same.put (Same.refl H2) hLt;have hLt3:(upd H2 Lt (.lst [])) Lt=some (.lst []):=aS;generalize upd H2 Lt (.lst [])=H3 at S3 hLt3 ⊢;refine ⟨_,rfl,x,C,dx',_,_,rfl,S3 _ _ h1,CK.cc.cl,CK.cc.n1,rfl,szZ1,fun Ah hAh=>?_⟩;have hAh2:H2 Ah=none:=Same.free S3 hAh;have nLA:Lt≠Ah:=fun z=>by rw [←z,hLt3] at hAh;cases hAh
 have S4:Same H3 (upd H3 Ah (.lst [.ref c0])):=Same.put (Same.refl H3) hAh;have hAh4:(upd H3 Ah (.lst [.ref c0])) Ah=some (.lst [.ref c0]):=aS;generalize upd H3 Ah (.lst [.ref c0])=H4 at S4 hAh4 ⊢;have S24:=S3.trans S4;have cl4:CsL H2 H4 [.ref c0] [(sp.map fun z=>(z.l,z.o),rg)]:=by
  obtain ⟨vb,u,rl,a1,a2,a3,a4⟩:=h2.ex;exact .cons ⟨c0,rfl,vb,u,rl,S24 _ _ a1,a2.same S24,a3,a4⟩ .nil
 have pr0:fc (sp.map fun z=>(z.l,z.o)) l≤4096:=by
  have e:=kd l hlt fun y hy=>(N.all y hy).lo
  have:=hcases l fr;omega
 have sz0:szC l [(sp.map fun z=>(z.l,z.o),rg)]+0≤8191:=by
  show (2 * fc (sp.map fun z=>(z.l,z.o)) l - 1)+0+0≤8191;omega
 have ok0:∀ c∈[(sp.map (fun z=>(z.l,z.o)),rg)],CaseOk b sp l rg c:=(SrcI.start (b:=b) (l:=l) N lrg).ok;refine ⟨fun n σ Hc=>∃ (cs:List Cse) (ms:List Mrk) (zs mv:List V) (w5 w6 w7 w8:Option V),n=szC l cs∧n+ms.length≤8191∧σ=[some v,some (.ref g),some (.ref x),some (.ref Lt),some (.ref Ah),w5,w6,w7,w8]∧Same H2 Hc∧Hc Ah=some (.lst zs)∧CsL H2 Hc zs cs∧Hc Lt=some (.lst mv)∧IsDs Hc mv (ms.map mrkD)∧(∀ c∈cs,CaseOk b sp l rg c)∧Wn R l (sp.map (fun z=>(z.l,z.o)),rg) ms cs.reverse∧(∀ d,Mrk.leaf d∈ms→ly d)∧pls (ms.map mrkD)=true,⟨_,_,[],_,[],_,_,_,_,rfl,sz0,rfl,S24,hAh4,cl4,S4 _ _ hLt3,.nil,ok0,Wn.start,fun _ h=>pj h (by simp),rfl⟩,?_⟩;clear cl4 hAh4 S4 S24 hLt3 S3 hAh sz0 ok0;rintro n σ Hc ⟨cs,ms,zs,mv,w5,w6,w7,w8,rfl,n8,rfl,Sc,hAc,clc,hLc,dmv,ok,W,lw,pm⟩;have lzs:zs.length=cs.length:=Paired.len clc;have lmv:mv.length=ms.length:=by rw [dmv.length,aa]
 have lcs:=szC_len hlt cs ok;refine ⟨_,rfl,Ah,_,rfl,.inl (SqL.of hAc),_,_,rfl,rfl,_,rfl,?_⟩
 rcases List.eq_nil_or_concat cs with rfl | ⟨cs',c,rfl⟩
 ·have:zs=[]:=ky.mp lzs
  subst this;obtain ⟨t,et,gt⟩:=Wn.fin W;refine jT (by rfl) ⟨_,rfl,Lt,mv,ms,t,rfl,hLc,dmv,et,lw,by omega,fun u H9 S9 h9=>?_⟩;have S29:=Sc.trans S9;refine k u t H9 (st2.trans (Same.stayT S29)) (kp2'.trans (Same.kp S29)) (LamT.same S29 hT02) (LamT.same S29 hT12) h9 (pl_pre t (by rw [←et];exact lw)) (gt 21 ?_);have:2 ^ 21 * fc (sp.map fun z=>(z.l,z.o)) l≤2 ^ 21 * 4096:=Nat.mul_le_mul_left _ pr0;exact bj this (by decide)
 rw [List.concat_eq_append] at *;obtain ⟨zs',y,rfl,clc',q,rfl,ce⟩:=Paired.snoc_of clc;refine iteB (pA (by rw [aq];show ((zs'.length+1:Nat):Int) > 0;omega)) ⟨_,fun σ' H' z=>z,?_⟩;refine ⟨_,rfl,.inl ⟨rfl,_,SqL.of hAc⟩,Ah,_,.ref q,rfl,rfl,hAc,by rw [aq,bS (by simp)];simp,?_⟩;rw [fX];have K5:TupK Hc (upd Hc Ah (.lst zs')):=eM hAc;have S5:Same H2 (upd Hc Ah (.lst zs')):=fun a o e=>by rw [bf (aY e hAh2)];exact Sc _ _ e
 have hA5:(upd Hc Ah (.lst zs')) Ah=some (.lst zs'):=aS;have hL5:(upd Hc Ah (.lst zs')) Lt=some (.lst mv):=by rw [bf nLA];exact hLc
 have cl5:=CsL.keep K5 (show CsL H2 Hc zs' cs' from clc');have ce5:=ce.keep K5;have dmv5:=IsDs.keepP K5 dmv pm;generalize upd Hc Ah (.lst zs')=H5 at K5 S5 hA5 hL5 cl5 ce5 dmv5 ⊢;have C':=ok c (by simp);have ix:=sz_less (cs:=cs') f C';rw [List.reverse_append] at W;have W:Wn R l (sp.map (fun z=>(z.l,z.o)),rg) ms (c::cs'.reverse):=W;have ok':∀ d∈cs',CaseOk b sp l rg d:=fun d hd=>ok d (aE _ hd)
 have lcs':cs'.length+1≤8191:=by rw [aq] at lcs;show cs'.length+[c].length≤8191;omega
 have lz':zs'.length=cs'.length:=Paired.len cl5;have stH5:StayT T0 T1 H H5:=st2.trans (Same.stayT S5);clear clc clc' ce hAc hLc dmv K5 lzs ok;refine ⟨rfl,stH5,_,rfl,stH5,l,rg,q,c,rfl,RR,ce5.dn S5,C',hv2.same S5,fun r H6 S6 hd=>?_⟩;have S26:=S5.trans S6;have hA6:=S6 _ _ hA5;have hL6:=S6 _ _ hL5;have ce6:=ce5.keep (Same.tupK S6);have cl6:=CsL.keep (Same.tupK S6) cl5;have dmv6:=dmv5.same S6;clear ce5 cl5 dmv5 hA5 hL5 stH5;refine ⟨fun σ' H'=>∃ (cs2:List Cse) (mk:Mrk) (zs2:List V) (v6:V) (w7 w8:Option V),szC l cs2<szC l (cs'++[c])∧σ'=[some v,some (.ref g),some (.ref x),some (.ref Lt),some (.ref Ah),some (.ref q),some v6,w7,w8]∧Same H2 H'∧H' Ah=some (.lst zs2)∧CsL H2 H' zs2 cs2∧H' Lt=some (.lst mv)∧IsDs H' mv (ms.map mrkD)∧IsD H' v6 (mrkD mk)∧(∀ c∈cs2,CaseOk b sp l rg c)∧Wn R l (sp.map (fun z=>(z.l,z.o)),rg) (ms++[mk]) cs2.reverse∧(∀ d,mk= .leaf d→ly d)∧pl (mrkD mk)=true,?_,?_⟩
 ·rintro σ' H7 ⟨cs2,mk,zs2,v6,w7,w8,less2,rfl,S7,hA7,cl7,hL7,dm7,d6,ok2,W2,lw2,pm2⟩
  refine ⟨_,rfl,.inl ⟨rfl,_,SqL.of hL7⟩,_,rfl,Lt,mv,_,rfl,rfl,hL7,(cf (by omega:mv.length≤10000) (by decide)),?_⟩;have K8:TupK H7 (upd H7 Lt (.lst (mv++[v6]))):=eM hL7;refine ⟨_,less2,cs2,ms++[mk],zs2,mv++[v6],_,_,_,_,rfl,by rw [aq];show _+(ms.length+1)≤8191;omega,rfl,fun a o e=>by rw [bf (aY e hLt)];exact S7 _ _ e,by rw [bf (cp nLA)];exact hA7,CsL.keep K8 cl7,aS,?_,ok2,W2,fun d hd=>?_,?_⟩
  ·rw [aA]
   exact (IsDs.keepP K8 dm7 pm).append (.cons (IsD.keepP K8 d6 pm2) .nil)
  ·rcases aM.mp hd with z | z
   ·exact lw d z
   ·exact lw2 d (aw.mp z).symm
  ·rw [aA,pls_appT,pm,Bool.true_and]
   show (pl (mrkD mk) && true)=true;rw [pm2];rfl
 refine ⟨_,rfl,rfl,_,rfl,?_⟩
 rcases hd with ⟨d,dr,dw,dR⟩ | ⟨rfl,al,k0,hk0,hlk0⟩
 ·have nr:r≠ .non:=fun e=>by
   obtain ⟨_,w',x',ed,_⟩:=dw;rw [e,ed] at dr;cases dr
  refine jT (pB nr) ?_;exact ⟨cs',.leaf d,zs',r,_,_,ix,rfl,S26,hA6,cl6,hL6,dmv6,dr,ok',W.leaf dR,(fun d' e=>by cases e;exact dw),dw.1⟩
 refine iteB (pA rfl) ?_;refine ⟨_,rfl,x,dx',_,rfl,S26 _ _ h1,rfl,_,rfl,x,q,sp,l,rg,c.2,c.1,rfl,cd2.same S26,ce6.dn S26,fun j hj=>by rw [C'.ob.len];exact hlt j hj,by omega,fun fx=>pj hlk0 (fx k0 hk0),fun j hj hlj=>?_⟩;have hjb:j<c.1.length:=by rw [C'.ob.len];exact hlt j hj
 refine ⟨_,rfl,_,rfl,q,j,c.1,c.2,rfl,ce6.dn S26,hjb,?_⟩;obtain ⟨a,ha⟩:∃ a,a=((c.1.getD j (0,0)).1+(c.1.getD j (0,0)).2) / 2:=⟨_,rfl⟩;rw [←ha];refine ⟨_,rfl,_,rfl,(by show 3≤bc;decide),fun qm H7 S7 hm7=>?_⟩;have S27:=S26.trans S7;refine ⟨_,rfl,.inl ⟨rfl,_,SqL.of (S7 _ _ hA6)⟩,_,rfl,x,dx',_,rfl,S27 _ _ h1,rfl,_,rfl,_,rfl,_,rfl,H2,x,q,j,a,sp,l,rg,c.2,c.1,rfl,S27,cd2,(ce6.keep (Same.tupK S7)).dn S27,hjb,C'.ob.len,by rw [C'.ob.len];exact nfew,fun L q1 q2 H8 S8 fL hL e1 e2=>?_⟩;have nLA2:L≠Ah:=fun z=>by rw [z,S7 _ _ hA6] at fL;cases fL
 have hA8:=S8 _ _ (S7 _ _ hA6);refine ⟨Ah,L,_,_,rfl,rfl,hA8,hL,bj (m:=10000) (by show zs'.length+2≤10000;omega) (by decide),?_⟩;have K9:TupK H8 (upd H8 Ah (.lst (zs'++[.ref q1,.ref q2]))):=eM hA8;have K68:TupK H6 H8:=fun a xs e=>S8 _ _ (S7 _ _ e)
 obtain ⟨okn,lessn,p2⟩:=sz_cut f lrg C' al hj (a:=a) (by omega) (by omega) ok';obtain ⟨mid1,mid2⟩:=prodC_mid C'.ob f.acy.nodup.1 hlt hj hlj ha;refine ⟨_,.cut j a,_,.ref qm,_,_,lessn,rfl,fun a o e=>?_,aS,?_,?_,?_,?_,okn,?_,(fun d e=>by cases e),rfl⟩
 ·rw [bf (aY e hAh2)];exact S8 _ _ (S27 _ _ e)
 ·exact Paired.app (CsL.keep K9 (CsL.keep K68 cl6)) (.cons ⟨q1,rfl,e1.keep K9⟩ (.cons ⟨q2,rfl,e2.keep K9⟩ .nil))
 ·rw [bf nLA];exact S8 _ _ (S7 _ _ hL6)
 ·exact IsDs.keepP K9 (IsDs.keepP K68 dmv6 pm) pm
 ·exact .tup (K9 _ _ (S8 _ _ hm7)) (.cons (.str _) (.cons (.int _) (.cons (.int _) .nil)))
 ·rw [List.reverse_append]
  exact W.cut hjb (by omega) (by omega) p2 mid1 mid2
end
abbrev sCases:cV:=top 18
theorem IsFor.nats {m:Nat}{sp:List Sn}{ns:List Int}(a:IsFor m sp ns):∃ (l π:List Nat),ns=l.map (fun (i:Nat)=>(i:Int))∧Ordd sp π∧l.Perm (jV sp m π).2:=by
 obtain ⟨π,o,p,_⟩:=a;have nn:∀ x∈ns,0≤x:=fun x hx=>by
  obtain ⟨i,_,rfl⟩:=bh.mp (p.mem_iff.mp hx);omega
 refine ⟨ns.map Int.toNat,π,?_,o,?_⟩
 ·rw [dv]
  conv=>lhs;rw [←List.map_id ns]
  exact iu fun x hx=>(gk (nn x hx)).symm
 ·have q:=p.map Int.toNat
  rw [dv] at q;have e:((jV sp m π).2.map (Int.toNat ∘ fun (i:Nat)=>(i:Int)))=(jV sp m π).2:=by
   conv=>rhs;rw [←List.map_id (jV sp m π).2]
   exact iu fun x _=>rfl
  rw [e] at q;exact q
theorem gone_few {m:Nat}{sp:List Sn}(E:Ends m sp){π:List Nat}(h:∀ i∈π,i<sp.length):(jV sp m π).2.length≤m:=by
 obtain ⟨D,_,_,l⟩:=gone_cnt E π (jO m) [] (kh m) h (Cnt.start m);have l:D.length+(jV sp m π).2.length=m:=l;omega
theorem gone_lt {m:Nat}{sp:List Sn}{π:List Nat}(h:∀ i∈π,i<sp.length):∀ i∈(jV sp m π).2,i<sp.length:=fun i hi=>by
 rcases (jP sp π (jO m,[])).1 i hi with z | z
 ·cases z
 ·exact h i z
def WOk (sp:List Sn):Prop:=∀ x∈sp,0≤x.o - x.l∧x.o - x.l+1≤10 ^ 61
theorem NetT.wok {b m:Int}{sp:List Sn}(N:NetT b m sp)(h:b≤10 ^ 61):WOk sp:=fun x hx=>by
 have s:=N.all x hx;have:=s.lo;have:=s.ob;omega
theorem prodW_abs {sp:List Sn}(w:WOk sp):∀ {l:List Nat},(∀ i∈l,i<sp.length)→(ka sp l).natAbs≤(10 ^ 61) ^ l.length
 | [],_=>by show 1≤(10 ^ 61) ^ 0;decide
 | i::l,h=>by
  rw [mm,Int.natAbs_mul,aV,Nat.pow_succ,iV ((10 ^ 61) ^ l.length)];refine Nat.mul_le_mul ?_ (prodW_abs w fun j hj=>h j (ax _ hj));have:=w _ (eX (h i bF));show ((sAt sp i).o - (sAt sp i).l+1).natAbs≤_;omega
theorem pow_33 {n k:Nat}(h:n≤(10 ^ 61) ^ k)(hk:k≤16):n<10 ^ 1000:=by
 refine cf h ?_;rw [←Nat.pow_mul];exact Nat.pow_lt_pow_right (by decide) (by omega)
inductive spCases (T:ao)(lp:Pos)(lq:Str)(vs:List V)(H:Hp)(Q:VK)(_:XK):Prop
 | mk (v b m sp:_)(_:vs=[v])(_:IsD H v (ko b m sp))(_:NetT b m sp)(_:b≤10 ^ 61)(_:L2.LamT T lp lq H)(_:∀ H' (l:List Nat),L2.Tb T H H'→L2.LamT T lp lq H'→FrstL m.toNat sp l→Q (.int (ka sp l)) H')
section
variable {P:aW} {w:bz} {K:ak} {mg:Str→Option ae} {base:bE}
theorem scCases:cu ["net","cases","span"] pza (defScope sCases):=by trivial
theorem ok_cases {f f1 f2 Tb0:ao}{fd fd1 fd2:bu}{lp:Pos}{lq:Str}(F:Fun K "cases_of" "cases_of" sCases f fd)(G1:Fn K mg "forest_of" kA pza f1 fd1)(F1:dN P w K mg base CX0 6 f1 fd1 pza (j7 Tb0 lp lq))(G2:Fn K mg "width_of" sWidth pze f2 fd2) :
  dN P w K mg base CX0 7 f fd pza (spCases Tb0 lp lq):=by
 have F2:dN P w K mg base CX0 1 f2 fd2 pze spWidth:=ok_width G2.F;refine F.ok scCases (by contradiction) (fun cdv A outer s H vs Q E hr h=>?_);obtain ⟨v,b,m,sp,rfl,hv,N,b33,hT,k⟩:=h;have hr1:Room 1 _:=hr.mono (by decide);have E:=N.ends;have m2:=N.m2;have m1:=N.m1;have wk:=N.wok b33;refine ⟨_,PSl.h (aR ⟨(bw (i:=1) scCases.nd rfl (.inl rfl) ba)⟩
  (aR ⟨(iC bL rfl (kD (pc1 G1 F1 hr (ag (pv 0) az))) (df (i:=2) scCases.nd rfl (.inl rfl)) (cO (ps_aug (i:=1) scCases.nd rfl (.inl rfl) (bX dM (pc1 G2 F2 hr1 (ag (pv 0) (ag (pv 2) az))) ba) ip_mulG)))⟩
  (dH ⟨(cw (pv 1))⟩))),?_⟩
 refine ⟨_,rfl,v,b,m,sp,rfl,hv,N,hT,fun u H1 ns tb hT1 hu F0=>?_⟩;obtain ⟨l,π,rfl,O,pm⟩:=F0.nats;have hp:∀ i∈π,i<sp.length:=fun i hi=>O.lt hi
 have hlt:∀ i∈l,i<sp.length:=fun i hi=>gone_lt hp i (pm.mem_iff.mp hi)
 have few:l.length≤16:=by have:=gone_few E hp;rw [pm.length_eq];omega
 have hv1:=cU (Tb.tupK (LamT.tbl hT) tb) hv;rw [dv] at hu;refine ⟨u,rfl,⟨_,SqT.of hu⟩,?_⟩;refine for_tup (K:=K) (a:=u) (xs:=l.map (V.int ∘ fun (i:Nat)=>(i:Int))) (fun i σ HA=>HA=H1∧∃ v2,σ=[some v,some (.int (ka sp (l.take i))),v2]) ⟨rfl,none,rfl⟩ (fun i σ HA _ ⟨e,_⟩=>by rw [e];exact SqT.of hu) ?_ ?_
 ·rintro i x σ HA hx ⟨rfl,v2,rfl⟩
  rw [ay] at hx;obtain ⟨j,hj,rfl⟩:=bx.mp hx;have hjl:=bp hj;have hjn:=hlt j hjl;have w0:=wk _ (eX hjn);refine ⟨_,rfl,_,rfl,_,rfl,v,b,m,sp,j,sAt sp j,rfl,hv1,i8 hjn,_,_,rfl,rfl,?_⟩;refine ⟨_,_,rfl,rfl,⟨?_,?_⟩,rfl,some (.int j),?_⟩
  ·exact pow_33 (prodW_abs wk (l:=l.take i) fun k hk=>hlt k (jo hk)) (by rw [bH];omega)
  ·exact pow_33 (k:=1) (by rw [Nat.pow_one];omega) (by decide)
  ·rw [bt,hj]
   show _=[some v,some (.int (ka sp (l.take i++[j]))),_];rw [prodW_snoc];rfl
 ·rintro σ HA ⟨rfl,v2,rfl⟩
  rw [aa,bq];exact ⟨_,rfl,k HA l tb hT1 ⟨F0,π,O,pm⟩⟩
end
def ftS (sp:List Sn)(s:Stp):List Int:=[kt sp s,eV sp s]
theorem along_get {sp:List Sn}:∀ {ws:List Stp} {x y:Int},Along sp x ws y→(∀ (h:0<ws.length),kt sp ws[0]=x)∧(∀ (h:0<ws.length),eV sp (ws[ws.length - 1]'(by omega))=y)∧∀ i (h:i+1<ws.length),eV sp ws[i]=kt sp ws[i+1]
 | [],_,_,_=>⟨fun h=>pj h (by simp),fun h=>pj h (by simp),fun i h=>pj h (by simp)⟩
 | [s],x,y,⟨a,b⟩=>⟨fun _=>a,fun _=>b,fun i h=>pj h (by simp)⟩
 | s::s'::ws,x,y,⟨a,b⟩=>by
  obtain ⟨f,l,n⟩:=along_get (ws:=s'::ws) b;refine ⟨fun _=>a,fun _=>?_,fun i h=>?_⟩
  ·have:=l (by simp)
   simpa using this
  ·cases i with
   | zero=>exact (f (by simp)).symm
   | succ i=>exact n i (by simpa using h)
theorem ft_of {sp:List Sn}{s:Stp}(h:s.i<sp.length)(d:s.d=1∨s.d= -1):(if s.d=1 then [V.int sp[s.i].s,V.int sp[s.i].g] else [V.int sp[s.i].s,V.int sp[s.i].g].reverse)=(ftS sp s).map V.int:=by
 unfold ftS kt eV;rw [gE h]
 rcases d with e | e
 ·rw [pf e];show _=[V.int (frm _ _),V.int (too _ _)];unfold frm too;rw [pf e,pf e]
 ·rw [pe (by omega)];show _=[V.int (frm _ _),V.int (too _ _)];unfold frm too;rw [pe (by omega),pe (by omega)];rfl
inductive spLed (vs:List V)(H:Hp)(Q:VK)(_:XK):Prop
 | mk (v r:V)(b m:Int)(sp:List Sn)(ws:List Stp)(_:vs=[v,r])(_:IsD H v (ko b m sp))(_:sp.length≤40)(_:IsD H r (mY ws))(_:Rg sp ws)(_:∀ H',Same H H'→Q (.bl true) H')
def RDead (b:Int)(sp:List Sn)(bs:List (Int×Int))(d:Dt):Prop:=∃ p:List Stp,d=leafP (.ring p)∧Rg sp p∧i5 b bs p=true
theorem mz (p:List Stp):ly (leafP (.ring p)):=⟨by show (true && (pl (mY p) && true))=true;rw [show pl (mY p)=true from nV _ _];rfl,"ring",mY p,rfl,by decide⟩
theorem ps_outL {X:Cx}{st:cV}:PS X st (fun _ _ _=>False):=fun _ _ _ _ _ _ h=>h.elim
abbrev jv:cV:=top 35
def lamE5:List cV→Expr
 | [_,_,_,_,.Return (some (.Tuple [_,.Call _ [_,e] _ _] _ _)) _]=>e
 | _=> .Constant .none 0 ⟨0,0,0,0⟩
def lamP5:Expr→Pos
 | .Lambda _ _ _ p=>p
 | _=>⟨0,0,0,0⟩
def lamS5:Expr→fV
 | .Lambda _ _ s _=>s
 | _=>{ kind:= .function,names:=[],isGenerator:=false,isCoroutine:=false }
def lamA5:Expr→gH
 | .Lambda a _ _ _=>a
 | _=>{ posonlyargs:=[],args:=[],vararg:=none,kwonlyargs:=[],kw_defaults:=[],kwarg:=none,defaults:=[] }
def lamB5:Expr→Expr
 | .Lambda _ e _ _=>e
 | e=>e
abbrev laT:gH:=lamA5 (lamE5 (fY jv))
abbrev lbT:Expr:=lamB5 (lamE5 (fY jv))
abbrev lpT:Pos:=lamP5 (lamE5 (fY jv))
abbrev lsT:fV:=lamS5 (lamE5 (fY jv))
abbrev lqT:Str:=(("table_for" :Str) ++ ".<locals>.") ++ "<lambda>"
theorem ptF_same {H:Hp}{fz:ao→Option Obj}(N:∀ b o,fz b=some o→H b=none):Same H (ptF H fz):=fun a o e=>by
 cases q:fz a with
 | none=>rw [gJ q];exact e
 | some o'=>rw [N a o' q] at e;cases e
theorem ctF_kp {H:Hp}{fz:ao→Option Obj}(F:Fz fz H):Kp H (ctF H fz):=⟨fun q xs e=>F.cut e (fun _ z=>by cases z),fun q xs e=>F.cut e (fun _ z=>by cases z)⟩
theorem ptF_back {H H':Hp}{fz:ao→Option Obj}(F:Fz fz H)(S:Same (ctF H fz) H'):Same H (ptF H' fz):=fun a o e=>by
 cases q:fz a with
 | some o'=>rw [F a o' q] at e;cases e;exact oS q
 | none=>rw [gJ q];exact S a o (by rw [g6 q];exact e)
theorem LamT.cutF {T:ao}{lp:Pos}{lq:Str}{H:Hp}{fz:ao→Option Obj}(F:Fz fz H)(cl:∀ c o,fz c=some o→∃ v,o.data= .cell v)(h:L2.LamT T lp lq H):L2.LamT T lp lq (ctF H fz):=by
 rcases h with h | ⟨c,h,oc,vs,t,e,hd,r⟩
 ·exact .inl (F.cut h (fun _ z=>by cases z))
 ·refine .inr ⟨c,F.cut h (fun _ z=>by cases z),oc,vs,t,?_,hd,r⟩
  cases q:fz c with
  | none=>rw [g6 q];exact e
  | some o' =>
   obtain ⟨v,hv⟩:=cl c o' q;rw [F c o' q] at e;cases e;rw [hd] at hv;cases hv
theorem LmOk.imp {P:aW}{w:bz}{K:ak}{mg:Str→Option ae}{base:bE}{k:Nat}{f:ao}{Hf Hg:Hp→Prop}{sp:Sp}(L:LmOk P w K mg base k f Hf sp)(h:∀ H,Hg H→Hf H):LmOk P w K mg base k f Hg sp:=⟨fun H hh g=>L.isFn H hh (h H g),fun A outer s H u v Q hr e0 g=>L.run A outer s H u v Q hr e0 (h H g)⟩
inductive nL (T0:ao)(p0:Pos)(q0:Str)(T1:ao)(p1:Pos)(q1:Str)(T2:ao)(vs:List V)(H:Hp)(Q:VK)(_:XK):Prop
 | mk (v:V)(b m:Int)(sp:List Sn)(_:vs=[v])(_:IsD H v (ko b m sp))(_:NetT b m sp)(_:(∀ l,FrstL m.toNat sp l→ka sp l≤4096))(_:L2.LamT T0 p0 q0 H)(_:L2.LamT T1 p1 q1 H)(_:L2.LamT T2 lpT lqT H)(_:∀ (q:ao) (H':Hp),(∀ a o,a≠T0→a≠T1→a≠T2→H a=some o→H' a=some o)→Kp H H'→L2.LamT T0 p0 q0 H'→L2.LamT T1 p1 q1 H'→L2.LamT T2 lpT lqT H'→((∃ (qt:ao) (t:List Int),H' q=some (.tup [.str "table",.ref qt])∧H' qt=some (.tup (t.map V.int))∧TabOk b m sp t)∨∃ (u:V) (t:Tq),H' q=some (.tup [.str "none",u])∧IsD H' u (jA t)∧pl (jA t)=true∧(∀ T,¬ jd b T sp=true)∧GoodT (RDead b sp) t (sp.map fun z=>(z.l,z.o)) 21)→Q (.ref q) H')
theorem ps_out {X:Cx}{st:cV}:PS X st (fun _ _ _=>False):=fun _ _ _ _ _ _ h=>h.elim
section
variable {P:aW} {w:bz} {K:ak} {mg:Str→Option ae} {base:bE}
theorem scTabFor:cu ["net","many","tables"] pza (defScope jv):=by trivial
theorem ok_tabForN {f f1 f2 f3 f4 c T0 T1 T2:ao}{fd fd1 fd2 fd3 fd4:bu}{p0 p1:Pos}{q0 q1:Str}(F:Fun K "table_for" "table_for" jv f fd)(hcd:fd.code= .ref c)(CH:fB K c T2=true)(B:BM mg base)(T:Nm mg)(MC:∃ t,mg "MOST_CASES" =some (.int 4096 t))(ne:T0≠T1)(n2:T2≠T0)(n3:T2≠T1)
  (G1:Fn K mg "cases_of" sCases pza f1 fd1) (F1:dN P w K mg base CX0 7 f1 fd1 pza (spCases T0 p0 q0))
  (G2:Fn K mg "tables_that_fit" sTabF pzr f2 fd2) (F2:dN P w K mg base CX0 11 f2 fd2 pzr (spTabF T0 p0 q0 T1 p1 q1))
  (G3:Fn K mg "tree_by" sTreeB pzs f3 fd3) (F3:dN P w K mg base CX0 11 f3 fd3 pzs (spTreeBy P w K mg base T0 p0 q0 T1 p1 q1))
  (G4:Fn K mg "dead_leaf" sDeadL pzi f4 fd4) (F4:dN P w K mg base CX0 4 f4 fd4 pzi spDeadL):dN P w K mg base CX0 12 f fd pza (nL T0 p0 q0 T1 p1 q1 T2):=by
 refine okC F hcd scTabFor (by contradiction) (fun A outer s H vs Q E hr h=>?_);obtain ⟨v,b,m,sp,rfl,hv,N,hc,hT0,hT1,hT2,k⟩:=h;have hr7:Room 7 _:=hr.mono (by decide);refine ⟨_,PSl.h (aR ⟨(bw (i:=1) scTabFor.nd rfl (.inl rfl) (pc1 G1 F1 hr7 (ag (pv 0) az)))⟩
  (aR ⟨(gn (cA op_gt (pv 1) (pe_gint MC) (cZ _)) (cO ps_out) dO)⟩
  (aR ⟨(bw (i:=2) scTabFor.nd rfl (.inl rfl) (pc1 G2 F2 hr (ag (pv 0) (ag ba az))))⟩
  (aR ⟨(gn (cA op_gt (cG bW rfl T.len bG (ag (pv 2) az)) ba (cZ _)) (cO (cw (d8 (ag kW (ag (eh dX (pv 2) ba (fun _ _=>rfl)) az))))) dO)⟩
  (dH ⟨(cw (d8 (ag kW (ag (pe_callZ (scope:=lsT) (fr:=pza) (js:=[0]) F3 hr (fun _=>rfl) rfl G3.mg G3.F.kp G3.b rfl (by trivial) (by exists jv) (ag (pv 0) (ag (pe_lam (T:=T2) rfl rfl CH B (by exists jv)) az))) az))))⟩))))),?_⟩
 refine ⟨_,rfl,v,b,m,sp,rfl,hv,N,by have:=N.b2;omega,hT0,fun H1 l tb1 hT01 fr=>?_⟩;have kp1:=Tb.kp hT0 tb1;have hT11:=LamT.ntb hT1 hT0 (cp ne) tb1;have hT21:=LamT.ntb hT2 hT0 n2 tb1;have cl:=hc l fr;refine ⟨_,rfl,_,_,rfl,rfl,_,rfl,jT (pB (by omega)) ?_⟩;refine ⟨_,rfl,v,b,m,sp,1,rfl,cU kp1.tup hv,N,by decide,hc,hT01,hT11,fun L tv l' rg Ts H2 st2 kp2 hT02 hT12 hL dL R tabs few hold=>?_⟩;have hT22:L2.LamT T2 lpT lqT H2:=by
  obtain ⟨ps0,e0⟩:=LamT.tbl hT01;obtain ⟨ps1,e1⟩:=LamT.tbl hT11
  rcases hT21 with h | ⟨c',h,oc,vs,t,e,r⟩
  ·exact .inl (st2 _ _ n2 n3 h)
  ·exact .inr ⟨c',st2 _ _ n2 n3 h,oc,vs,t,st2 _ _ (ie e e0 nofun) (ie e e1 nofun) e,r⟩
 have ltv:tv.length=Ts.length:=by rw [dL.length];unfold cY;rw [aa]
 refine ⟨_,rfl,L,_,rfl,.inl (SqL.of hL),_,_,rfl,rfl,_,rfl,?_⟩;cases Ts with
 | cons t Ts =>
  refine iteB (pA (by rw [ltv,aV];show ((Ts.length+1:Nat):Int) > 0;omega)) ?_;cases dL with
  | cons d0 ds =>
   rename_i y ys;obtain ⟨qt,qs,rfl,hq,rq⟩:=IsD.tup_of d0;have eq:=rq.ints_of;subst eq;refine ⟨_,rfl,L,_,_,_,rfl,rfl,SqL.of hL,aO (j:=0) rfl,l6,fun q H3 S3 h3=>?_⟩;exact k q H3 (fun a o n0 n1 _ e=>S3 _ _ (st2 a o n0 n1 (tb1 a o n0 e))) (kp1.trans (kp2.trans (Same.kp S3))) (LamT.same S3 hT02) (LamT.same S3 hT12) (LamT.same S3 hT22) (.inl ⟨qt,t,h3,S3 _ _ hq,tabs t (by simp)⟩)
 | nil =>
  refine jT (pB (by rw [ltv];decide)) ?_;have nof:∀ T',¬ jd b T' sp=true:=fun T' hT'=>by
   obtain ⟨t,ht,_⟩:=hold (.inl (by decide)) T' hT';cases ht
  have hv2:=cU kp2.tup (cU kp1.tup hv);refine ⟨_,rfl,hT22,fun g cl' H3 tb3 hT23 LF LE=>⟨cl',[v],LE,rfl,fun fz C0 N0=>?_⟩⟩;have kp3:=Tb.kp hT22 tb3;have hT03:=LamT.ntb hT02 hT22 (cp n2) tb3;have hT13:=LamT.ntb hT12 hT22 (cp n3) tb3;have SP:=ptF_same N0;have hT04:=LamT.same SP hT03;have hT14:=LamT.same SP hT13;have LF:LamF lqT laT lbT lsT cl' g H3:=LF;have LF4:=LF.same SP;have hv4:=(cU kp3.tup hv2).same SP;have m2:=N.m2;have m1:=N.m1;have LM:LmOk P w K mg base 6 g (StayT T0 T1 (ptF H3 fz)) (spLeafIn v b m sp (RDead b sp)):=by
   refine LmOk.mono (j:=5) (LmOk.imp (lam_run (k:=4) (q:=lqT) (params:=laT) (body:=lbT) (scope:=lsT) (cl:=cl') (fz:=fz) (x := "case") (fr:=pza) (ws:=[v]) (fun _ _ _ _=>rfl) rfl rfl rfl (by trivial) rfl (by decide) C0 (fun y hy hf=>?_) (by trivial) (fun L' cd A' outer' s' H' hr'=>pc1 G4 F4 hr' (ag (pv 1) (ag (pv 0) az))) (fun v' Hx Qx _ Zx hsp=>?_)) fun Hx st=>?_) (by decide)
   ·have e:y.1 = "net" := (by trivial:∀ y:Str×cL,y∈lsT.names→y.2=cL.free→y.1 = "net") y hy hf
    obtain ⟨cc,_,_,ec,_⟩:=C0.val 0 "net" v rfl rfl;exact ⟨cc,by rw [e];exact ec⟩
   ·obtain ⟨l2,rg2,q2,c2,e2,R2,cd2,ok2,hvx,kk⟩:=hsp
    cases e2;have KX:=ctF_kp Zx;have f2:=R2.ff N;have tl:l2.length≤15:=by have:=R2.fr.few N.ends (by omega);omega
    refine ⟨_,rfl,_,rfl,v,q2,b,m,sp,c2.1,c2.2,rfl,cU KX.tup hvx,by have:=N.b1;omega,by have:=N.b2;omega,cd2.kp KX,ok2.few,fun z hz=>by rw [ok2.ob.len];exact ((f2.rk z (ok2.sub z hz)).rg N tl).inn,fun r H' S' hd fr'=>?_⟩;refine kk r _ (ptF_back Zx S') ?_
    rcases hd with ⟨rfl,al⟩ | ⟨z,hz,dz,hdz⟩
    ·refine .inr ⟨rfl,al,fI fun nz=>?_⟩
     have ht2:=f2.acy.nodup.2;have fix:∀ j∈l2,(c2.1.getD j (0,0)).1=(c2.1.getD j (0,0)).2:=fun j hj=>by
      have h1:=(ok2.ob.lo j (ht2 j hj)).2.1;have h2:¬ ((c2.1.getD j (0,0)).1<(c2.1.getD j (0,0)).2):=fun z=>nz ⟨j,hj,z⟩
      omega
     obtain ⟨ts,_,_,hf,_⟩:=tight N f2 ok2.ob ⟨fix,ok2.all al⟩;exact nof ts hf
    ·exact .inl ⟨_,IsD.keepP (Same.tupK (ptF_same fr')) dz (mz z.2).1,mz z.2,z.2,rfl,(f2.rk z (ok2.sub z hz)).rg N tl,hdz⟩
   ·obtain ⟨ps0,e0⟩:=LamT.tbl hT04
    obtain ⟨ps1,e1⟩:=LamT.tbl hT14;have fz':∀ a o u,ptF H3 fz a=some (.frz o u)→Hx a=some (.frz o u):=fun a o u e=>st a _ (ie e e0 nofun) (ie e e1 nofun) e
    obtain ⟨pm,cd,ct,e,oc,vs,t,ec,r⟩:=LF4;exact ⟨⟨pm,cd,ct,fz' _ _ _ e,oc,vs,t,fz' _ _ _ ec,r⟩,fun a o z=>fz' _ _ _ (oS z)⟩
  refine ⟨v,g,b,m,sp,RDead b sp,rfl,hv4,N,hc,hT04,hT14,LM,fun u t H5 st5 kp5 hT05 hT15 du plu gd Z5=>?_⟩;have KC:=ctF_kp Z5;have hT25:L2.LamT T2 lpT lqT H5:=by
   obtain ⟨ps0,e0⟩:=LamT.tbl hT04;obtain ⟨ps1,e1⟩:=LamT.tbl hT14
   rcases LamT.same SP hT23 with h | ⟨c',h,oc,vs,t,e,r⟩
   ·exact .inl (st5 _ _ n2 n3 h)
   ·exact .inr ⟨c',st5 _ _ n2 n3 h,oc,vs,t,st5 _ _ (ie e e0 nofun) (ie e e1 nofun) e,r⟩
  refine ⟨l6,fun q H6 S6 h6=>?_⟩;have kpa:Kp H H6:=kp1.trans (kp2.trans (kp3.trans ((Same.kp SP).trans (kp5.trans (KC.trans (Same.kp S6))))));have sta:∀ a o,a≠T0→a≠T1→a≠T2→H a=some o→H6 a=some o:=fun a o n0 n1 n2' e=>by
   have e3:=tb3 a o n2' (st2 a o n0 n1 (tb1 a o n0 e));have e5:=st5 a o n0 n1 (SP _ _ e3);refine S6 _ _ ?_;have fo:fz a=none:=by
    cases z:fz a with
    | none=>rfl
    | some o'=>rw [N0 a o' z] at e3;cases e3
   rw [g6 fo];exact e5
  exact k q H6 sta kpa (LamT.same S6 (LamT.cutF Z5 C0.cell hT05)) (LamT.same S6 (LamT.cutF Z5 C0.cell hT15)) (LamT.same S6 (LamT.cutF Z5 C0.cell hT25)) (.inr ⟨u,t,h6,(IsD.keepP KC.tup du plu).same S6,plu,nof,gd⟩)
end
def prI (p:Int×Int):List Int:=[p.1,p.2]
inductive spLeafH (R:Int→List Sn→List (Int×Int)→Dt→Prop)(vs:List V)(H:Hp)(Q:VK)(_:XK):Prop
 | mk (v u:V)(B:ao)(bv:List V)(b m:Int)(sp:List Sn)(bs:List (Int×Int))(d:Dt)(_:vs=[v,.ref B,u])(_:IsD H v (ko b m sp))(_:NetT b m sp)(_:H B=some (.lst bv))(_:IsDs H bv (cY prI bs))(_:bs.length=sp.length)(_:IsD H u d)(_:ly d)(_:R b sp bs d)(_:∀ (L:ao) (H':Hp),Same H H'→H' L=some (.lst [])→Q (.ref L) H')
def spWalkH (R:Int→List Sn→List (Int×Int)→Dt→Prop):Nat→Sp
 | 0=>fun _ _ _ _=>False
 | dd+1=>fun vs H Q _=>∃ (v u:V) (B:ao) (bv:List V) (b m:Int) (sp:List Sn) (bs:List (Int×Int)) (t:Tq) (de:Int),vs=[v,.ref B,u,.int de]∧IsD H v (ko b m sp)∧NetT b m sp∧H B=some (.lst bv)∧IsDs H bv (cY prI bs)∧bs.length=sp.length∧IsD H u (jA t)∧(∀ d,Mrk.leaf d∈pre t→ly d)∧GoodT (R b sp) t bs dd∧0≤de∧de+dd≤100 ∧
  ∀ (L:ao) (H':Hp),Same H H'→H' L=some (.lst [])→Q (.ref L) H'
theorem pl_preH:∀ (t:Tq),(∀ d,Mrk.leaf d∈pre t→ly d)→pl (jA t)=true
 | .leaf d,h=>(h d (by simp [pre])).1
 | .cut k a x y,h=>pl_cut (pl_preH x fun d hd=>h d (by simp [pre,hd])) (pl_preH y fun d hd=>h d (by simp [pre,hd]))
abbrev sWholeH:cV:=top 49
abbrev sLeafH:cV:=top 53
abbrev sWalkH:cV:=top 54
section
variable {P:aW} {w:bz} {K:ak} {mg:Str→Option ae} {base:bE}
theorem scWholeH:cu pzj pzj (defScope sWholeH):=by trivial
theorem ok_wholeH {f:ao}{fd:bu}(F:Fun K "_law_is_whole" "_law_is_whole" sWholeH f fd)(T:Nm mg):dN P w K mg base CX0 1 f fd pzj spWholeL:=by
 refine F.ok scWholeH (by contradiction) (fun cdv A outer s H vs Q E hr h=>?_);obtain ⟨i,rfl,k⟩:=h;refine ⟨_,PSl.h (dH ⟨(cw (pe_and (pe_isInt T (pv 0)) (pe_one (pe_not (pe_isBool T (pv 0))))))⟩),?_⟩;exact ⟨_,rfl,_,_,rfl,(IsD.int i).tyn,_,rfl,iteT ⟨_,rfl,_,_,rfl,(IsD.int i).tyn,_,rfl,k⟩⟩
theorem kz:cu ["_law_net_here","_law_bounds","_law_tree","_law_deep","_law_low","_law_high","_law_ahead","_law_behind","_law_one","_law_other"] pzt (defScope sWalkH):=by trivial
theorem ok_walkH {R:Int→List Sn→List (Int×Int)→Dt→Prop}{f1 f2 f3:ao}{fd1 fd2 fd3:bu}(T:Nm mg)
  (G1:Fn K mg "_law_leaf" sLeafH pzu f1 fd1) (F1:dN P w K mg base CX0 3 f1 fd1 pzu (spLeafH R))
  (G2:Fn K mg "_law_is_whole" sWholeH pzj f2 fd2) (G3:Fn K mg "_law_walked" sWalkH pzt f3 fd3) :
  ∀ dd,dN P w K mg base CX0 (3+dd) f3 fd3 pzt (spWalkH R dd)
 | 0=>G3.F.ok kz (fun vs H Q E h=>h.elim) (fun cdv A outer s H vs Q E hr h=>h.elim)
 | dd+1=>by
  have F2:dN P w K mg base CX0 1 f2 fd2 pzj spWholeL:=ok_wholeH G2.F T;have F3:=ok_walkH T G1 F1 G2 G3 dd;refine G3.F.ok (k:=3+dd) kz (by contradiction) (fun cdv A outer s H vs Q E hr h=>?_);obtain ⟨v,u,B,bv,b,m,sp,bs,t,de,rfl,hv,N,hB,dB,lb,du,lw,gt,de0,de1,k⟩:=h;have hr1:Room 1 _:=hr.mono (by omega);have hr3:Room 3 _:=hr.mono (by omega);refine ⟨_,PSl.h (aR ⟨(gn (PW.pt (kU (jH (jQ (lN T (pv 2)))) (kU (cA oH (cG bW rfl T.len bG (ag (pv 2) az)) ba (cZ _)) (kB (cA op_gt (pv 3) ba (cZ _)))))) (cO (cw jI)) dO)⟩
  (aR ⟨(gn (cA nY (ixZ (pv 2)) kW (cZ _)) (cO (cw (pc1 G1 F1 hr3 (ag (pv 0) (ag (pv 1) (ag (pv 2) az)))))) dO)⟩
  (aR ⟨(gn (PW.pt (kU (cA nY (cG bW rfl T.len bG (ag (pv 2) az)) ba (cZ _)) (kU (jH (jQ (pc1 G2 F2 hr1 (ag (ixZ (pv 2)) az)))) (kB (jH (jQ (pc1 G2 F2 hr1 (ag (ixZ (pv 2)) az)))))))) (cO (cw jI)) dO)⟩
  (aR ⟨(gn (jH (pt_chain op_le oH ba (ixZ (pv 2)) (cG bW rfl T.len bG (ag (pv 1) az)))) (cO (cw jI)) dO)⟩
  (aR ⟨(mH (eh dX (pv 1) (ixZ (pv 2)) (fun _ _=>rfl)) (mI rfl (fJ (df (i:=4) kz.nd rfl (.inl rfl)) (fJ (df (i:=5) kz.nd rfl (.inl rfl)) kE))))⟩
  (aR ⟨(gn (jH (pt_chain op_le oH (pv 4) (ixZ (pv 2)) (pv 5))) (cO (cw jI)) dO)⟩
  (aR ⟨(bw (i:=6) kz.nd rfl (.inl rfl) (kN sl_listA (pv 1) mw (mr (ixZ (pv 2)))))⟩
  (aR ⟨(bw (i:=7) kz.nd rfl (.inl rfl) (kN sl_listA (pv 1) (mr (bX dM (ixZ (pv 2)) ba)) mw))⟩
  (aR ⟨(bw (i:=8) kz.nd rfl (.inl rfl) (pc1 G3 F3 hr (ag (pv 0) (ag (bX mx (bX mx (pv 6) (nW (ag (d8 (ag (pv 4) (ag (ixZ (pv 2)) az))) az))) (pv 7)) (ag (ixZ (pv 2)) (ag (bX dM (pv 3) ba) az))))))⟩
  (aR ⟨(bw (i:=9) kz.nd rfl (.inl rfl) (pc1 G3 F3 hr (ag (pv 0) (ag (bX mx (bX mx (pv 6) (nW (ag (d8 (ag (bX dM (ixZ (pv 2)) ba) (ag (pv 5) az))) az))) (pv 7)) (ag (ixZ (pv 2)) (ag (bX dM (pv 3) ba) az))))))⟩
  (aR ⟨(gn (PW.pt (kU (cA op_isN (pv 8) jI (cZ _)) (kB (cA op_isN (pv 9) jI (cZ _))))) (cO (cw jI)) dO)⟩
  (dH ⟨(cw (bX mx (pv 8) (pv 9)))⟩)))))))))))),?_⟩
  have lbv:bv.length=bs.length:=by rw [dB.length];unfold cY;rw [aa]
  have nfew:=N.few;cases t with
  | leaf d =>
   have gd:R b sp bs d:=by cases dd <;> exact gt
   have lwd:=lw d (by simp [pre]);obtain ⟨_,w1,x1,ed,nw⟩:=id lwd;have du:IsD H u d:=du;have du0:=du;rw [ed] at du0;obtain ⟨q,xs,rfl,hq,rq⟩:=IsD.tup_of du0;obtain ⟨y1,y2,rfl⟩:∃ y1 y2,xs=[y1,y2]:=by
    cases rq with
    | cons a rq=>cases rq with
     | cons b rq=>cases rq;exact ⟨_,_,rfl⟩
   have e1:y1= .str w1:=by
    cases rq with
    | cons a rq=>cases a;rfl
   subst e1;refine ⟨_,rfl,_,_,rfl,du0.tyn,_,rfl,jT rfl ?_⟩;refine ⟨_,rfl,q,_,rfl,.inr (SqT.of hq),_,_,rfl,rfl,_,rfl,jT (pB (by show ¬ ((2:Nat):Int)<2;omega)) ?_⟩;refine ⟨_,rfl,_,_,rfl,rfl,_,rfl,jT (pB (by omega)) ?_⟩;refine ⟨_,rfl,q,_,_,_,rfl,rfl,SqT.of hq,aO (j:=0) rfl,rfl,_,rfl,iteB (by rw [pB (fun z=>nw (by injection z))];rfl) ?_⟩;exact ⟨_,rfl,_,rfl,_,rfl,v,.ref q,B,bv,b,m,sp,bs,d,rfl,hv,N,hB,dB,lb,du,lwd,gd,k⟩
  | cut kc ac x y =>
   cases dd with
   | zero=>exact gt.elim
   | succ n =>
   obtain ⟨hk,h1,h2,gx,gy⟩:=gt;have lwx:∀ d,Mrk.leaf d∈pre x→ly d:=fun d hd=>lw d (by simp [pre,hd])
   have lwy:∀ d,Mrk.leaf d∈pre y→ly d:=fun d hd=>lw d (by simp [pre,hd])
   have px:=pl_preH x lwx;have py:=pl_preH y lwy;have du:IsD H u (.tup [.str "cut",.int (kc:Nat),.int ac,jA x,jA y]):=du;obtain ⟨q,xs,rfl,hq,rq⟩:=IsD.tup_of du;obtain ⟨vx,vy,rfl,dx,dy⟩:∃ vx vy,xs=[.str "cut",.int (kc:Nat),.int ac,vx,vy]∧IsD H vx (jA x)∧IsD H vy (jA y):=by
    cases rq with
    | cons a rq=>cases a;cases rq with
     | cons a rq=>cases a;cases rq with
      | cons a rq=>cases a;cases rq with
       | cons dx rq=>cases rq with
        | cons dy rq=>cases rq;exact ⟨_,_,rfl,dx,dy⟩
   have eb:bs.getD kc (0,0)=bs[kc]:=by rw [ai,gE hk];rfl
   obtain ⟨vk,hvk,dk⟩:=dB.at (i:=kc) (d:= .tup ((prI bs[kc]).map Dt.int)) (by unfold cY;rw [ay,gE hk];rfl);obtain ⟨qk,ks,rfl,hqk,rk⟩:=IsD.tup_of dk;obtain rfl:ks=(prI bs[kc]).map V.int:=rk.ints_of;refine ⟨_,rfl,_,_,rfl,du.tyn,_,rfl,jT rfl ?_⟩;refine ⟨_,rfl,q,_,rfl,.inr (SqT.of hq),_,_,rfl,rfl,_,rfl,jT (pB (by show ¬ ((5:Nat):Int)<2;omega)) ?_⟩;refine ⟨_,rfl,_,_,rfl,rfl,_,rfl,jT (pB (by omega)) ?_⟩;refine ⟨_,rfl,q,_,_,_,rfl,rfl,SqT.of hq,aO (j:=0) rfl,rfl,_,rfl,jT rfl ?_⟩;refine ⟨_,rfl,q,_,rfl,.inr (SqT.of hq),rfl,_,rfl,jT rfl ?_⟩;refine ⟨_,rfl,q,_,_,_,rfl,rfl,SqT.of hq,aO (j:=1) rfl,_,rfl,_,rfl,jT rfl ?_⟩;refine ⟨_,rfl,q,_,_,_,rfl,rfl,SqT.of hq,aO (j:=2) rfl,_,rfl,_,rfl,jT rfl ?_⟩;refine ⟨_,rfl,q,_,_,_,rfl,rfl,SqT.of hq,aO (j:=1) rfl,_,_,rfl,rfl,_,rfl,iteB (pA (by omega)) ?_⟩;refine ⟨_,rfl,B,_,rfl,.inl (SqL.of hB),_,_,rfl,rfl,_,rfl,jT (by rw [pA (show ((kc:Nat):Int)<(bv.length:Int) by omega)];rfl) ?_⟩;refine ⟨_,rfl,_,rfl,q,_,_,_,rfl,rfl,SqT.of hq,aO (j:=1) rfl,B,_,_,_,rfl,rfl,SqL.of hB,aO (j:=kc) hvk,qk,_,rfl,SqT.of hqk,rfl,_,_,rfl,_,_,rfl,rfl,?_⟩;rw [eb] at h1 h2;refine ⟨_,rfl,_,rfl,q,_,_,_,rfl,rfl,SqT.of hq,aO (j:=2) rfl,_,_,rfl,rfl,_,rfl,iteB (pA h1) ?_⟩;refine ⟨_,rfl,_,_,rfl,rfl,_,rfl,jT (by rw [pA (show ac<bs[kc].2 from h2)];rfl) ?_⟩;refine ⟨_,rfl,_,rfl,q,_,_,_,rfl,rfl,SqT.of hq,aO (j:=1) rfl,_,rfl,B,_,rfl,SqL.of hB,fun A1 H1 S1 hA1=>?_⟩;rw [cutU rfl] at hA1;refine ⟨_,rfl,_,rfl,q,_,_,_,rfl,rfl,SqT.of (S1 _ _ hq),aO (j:=1) rfl,_,_,rfl,rfl,_,rfl,B,_,rfl,SqL.of (S1 _ _ hB),fun A2 H2 S2 hA2=>?_⟩;rw [cutF (n:=kc+1) (by omega)] at hA2;have S02:=S1.trans S2;have hA1:=S2 _ _ hA1;clear S1 S2;have half:∀ (p:Int×Int) (Hc:Hp) (C:ao) (qp:ao),Same H Hc→Hc qp=some (.tup ((prI p).map V.int))→IsDs Hc (bv.take kc++[.ref qp]++bv.drop (kc+1)) (cY prI (bs.set kc p)):=by
    intro p Hc C qp Sc hqp;have e:bs.set kc p=bs.take kc++[p]++bs.drop (kc+1):=by rw [mP,pf hk];simp
    rw [e];have d:=dB.same Sc;unfold cY at d ⊢;rw [aA,aA,jh,ji];exact ((IsDs.takeN kc d).append (.cons (.tup hqp (IsDs.ints (prI p))) .nil)).append (IsDs.dropN (kc+1) d)
   have lt1:(bv.take kc).length≤40:=by rw [bH];omega
   have lt2:(bv.drop (kc+1)).length≤40:=by rw [dm];omega
   refine ⟨_,rfl,_,rfl,_,rfl,_,rfl,q,_,_,_,rfl,rfl,SqT.of (S02 _ _ hq),aO (j:=2) rfl,l6,fun qp H3 S3 hqp=>⟨szZ1,fun L1 H4 S4 hL1=>?_⟩⟩;refine ⟨A1,L1,_,_,rfl,rfl,S4 _ _ (S3 _ _ hA1),hL1,fb (by show (bv.take kc).length+1≤1000;omega),fun C1 H5 S5 hC1=>?_⟩;have S25:=S3.trans (S4.trans S5);refine ⟨_,rfl,C1,A2,_,_,rfl,rfl,hC1,S25 _ _ hA2,fb (by rw [aq];show (bv.take kc).length+1+(bv.drop (kc+1)).length≤1000;omega),fun C2 H6 S6 hC2=>?_⟩;have S06:=S02.trans (S25.trans S6);refine ⟨_,rfl,q,_,_,_,rfl,rfl,SqT.of (S06 _ _ hq),aO (j:=3) rfl,_,rfl,_,_,rfl,rfl,?_⟩;refine ⟨v,vx,C2,_,b,m,sp,bs.set kc (bs[kc].1,ac),x,de+1,rfl,hv.same S06,N,hC2,half _ _ C2 qp S06 (S6 _ _ (S5 _ _ (S4 _ _ hqp))),by rw [fu];exact lb,dx.same S06,lwx,by unfold kx at gx;rw [eb] at gx;exact gx,by omega,by omega,fun La H7 S7 hLa=>?_⟩;have S07:=S06.trans S7;have S27:=(S25.trans S6).trans S7;clear S25 S3 S4 S5 hC1 hL1 hqp hC2;refine ⟨_,rfl,_,rfl,_,rfl,q,_,_,_,rfl,rfl,SqT.of (S07 _ _ hq),aO (j:=2) rfl,_,_,rfl,rfl,_,rfl,l6,fun qp H3 S3 hqp=>⟨szZ1,fun L1 H4 S4 hL1=>?_⟩⟩;refine ⟨A1,L1,_,_,rfl,rfl,S4 _ _ (S3 _ _ (S27 _ _ hA1)),hL1,fb (by show (bv.take kc).length+1≤1000;omega),fun C1 H5 S5 hC1=>?_⟩;have S25:=S3.trans (S4.trans S5);refine ⟨_,rfl,C1,A2,_,_,rfl,rfl,hC1,S25 _ _ (S27 _ _ hA2),fb (by rw [aq];show (bv.take kc).length+1+(bv.drop (kc+1)).length≤1000;omega),fun C3 H8 S8 hC3=>?_⟩;have S78:=S25.trans S8;have S08:=S07.trans S78;refine ⟨_,rfl,q,_,_,_,rfl,rfl,SqT.of (S08 _ _ hq),aO (j:=4) rfl,_,rfl,_,_,rfl,rfl,?_⟩;refine ⟨v,vy,C3,_,b,m,sp,bs.set kc (ac+1,bs[kc].2),y,de+1,rfl,hv.same S08,N,hC3,half _ _ C3 qp S08 (S8 _ _ (S5 _ _ (S4 _ _ hqp))),by rw [fu];exact lb,dy.same S08,lwy,by unfold eU at gy;rw [eb] at gy;exact gy,by omega,by omega,fun Lb H9 S9 hLb=>?_⟩;refine ⟨_,rfl,rfl,_,rfl,jT (pB nofun) ?_⟩;refine ⟨_,rfl,rfl,_,rfl,jT (pB nofun) ?_⟩;refine ⟨_,rfl,_,rfl,La,Lb,_,_,rfl,rfl,S9 _ _ (S78 _ _ hLa),hLb,bI _,fun Lc HA SA hLc=>?_⟩;exact k Lc HA (S08.trans (S9.trans SA)) hLc
end
abbrev sBeatsH:cV:=top 51
abbrev sShownH:cV:=top 55
inductive spBeatsH (vs:List V)(H:Hp)(Q:VK)(_:XK):Prop
 | mk (v r:V)(B:ao)(bv:List V)(b m:Int)(sp:List Sn)(bs:List (Int×Int))(ws:List Stp)(_:vs=[v,.ref B,r])(_:IsD H v (ko b m sp))(_:0<b)(_:b<10 ^ 61)(_:H B=some (.lst bv))(_:IsDs H bv (cY prI bs))(_:IsD H r (mY ws))(_:oJ bs.length ws)(_:∀ (q:ao) (H':Hp),Same H H'→H' q=some (.tup [.int (upB b (fk bs ws)),.int (gg bs ws / b)])→Q (.ref q) H')
inductive spShownH (R:Int→List Sn→List (Int×Int)→Dt→Prop)(vs:List V)(H:Hp)(Q:VK)(_:XK):Prop
 | mk (v u:V)(b m:Int)(sp:List Sn)(t:Tq)(_:vs=[v,u])(_:IsD H v (ko b m sp))(_:NetT b m sp)(_:IsD H u (jA t))(_:(∀ d,Mrk.leaf d∈pre t→ly d))(_:GoodT (R b sp) t (sp.map fun z=>(z.l,z.o)) 21)(_:∀ (L:ao) (H':Hp),Same H H'→H' L=some (.lst [])→Q (.ref L) H')
section
variable {P:aW} {w:bz} {K:ak} {mg:Str→Option ae} {base:bE}
theorem jG:cu ["_law_net_here","_law_bounds","_law_ring","_law_low","_law_high","_law_span_here","_law_way","_law_pair"] pzE (defScope sBeatsH):=by trivial
theorem ok_beatsH {f:ao}{fd:bu}(F:Fun K "_law_beats" "_law_beats" sBeatsH f fd):dN P w K mg base CX0 1 f fd pzE spBeatsH:=by
 refine F.ok jG (by contradiction) (fun cdv A outer s H vs Q E hr h=>?_);obtain ⟨v,r,B,bv,b,m,sp,bs,ws,rfl,hv,b0,b1,hB,dB,hw,hin,k⟩:=h;obtain ⟨t,p,ys,rfl,ht,hp,hl,hy⟩:=gu hv;obtain ⟨pw,yw,rfl,hpw,hlw,rw'⟩:=iL hw;refine ⟨_,PSl.h (aR ⟨(bw (i:=3) jG.nd rfl (.inl rfl) ba)⟩
  (aR ⟨(bw (i:=4) jG.nd rfl (.inl rfl) ba)⟩
  (aR ⟨(iC bL rfl (kD (pv 2)) (mI rfl (fJ (df (i:=5) jG.nd rfl (.inl rfl)) (fJ (df (i:=6) jG.nd rfl (.inl rfl)) kE))) (PSl.h (aR ⟨(bw (i:=7) jG.nd rfl (.inl rfl) (pe_turn (eh dX (pv 1) (pv 5) (fun _ _=>rfl)) (pv 6)))⟩
  (aR ⟨(bw (i:=3) jG.nd rfl (.inl rfl) (bX dM (pv 3) (bX kG (pv 6) (ixZ (pv 7)))))⟩
  (dH ⟨(bw (i:=4) jG.nd rfl (.inl rfl) (bX dM (pv 4) (bX kG (pv 6) (ixZ (pv 7)))))⟩)))))⟩
  (dH ⟨(cw (d8 (ag (mN km (bX lP (mN km (pv 3)) (ixZ (pv 0)))) (ag (bX lP (pv 4) (ixZ (pv 0))) az))))⟩)))),?_⟩
 refine ⟨_,rfl,pw,rfl,⟨_,SqT.of hpw⟩,?_⟩;refine for_tup (K:=K) (xs:=yw) (fun i σ H2=>Same H H2∧∃ v5 v6 v7,σ=[some (.ref t),some (.ref B),some (.ref pw),some (.int (fk bs (ws.take i))),some (.int (gg bs (ws.take i))),v5,v6,v7]) ⟨Same.refl H,none,none,none,rfl⟩ (fun i σ H2 _ ⟨e1,_⟩=>SqT.of (e1 _ _ hpw)) ?_ ?_
 ·rintro i y σ H2 hy2 ⟨S2,v5,v6,v7,rfl⟩
  have hi:i<ws.length:=by rw [←hlw];exact (av.mp hy2).1
  obtain ⟨q,hq,hq2⟩:=iZ rw' (gE hi);rw [hy2] at hq;cases hq;obtain ⟨i1,d1⟩:=hin ws[i] (bR hi);have hm1:fk bs (ws.take (i+1))=fk bs (ws.take i)+oF bs ws[i]:=by
   unfold fk;rw [bt,gE hi,aA,iG];simp
  have hm2:gg bs (ws.take (i+1))=gg bs (ws.take i)+jB bs ws[i]:=by
   unfold gg;rw [bt,gE hi,aA,iG];simp
  obtain ⟨vb,hvb,db⟩:=dB.at (i:=ws[i].i) (d:= .tup ((prI bs[ws[i].i]).map Dt.int)) (by unfold cY;rw [ay,gE i1];rfl);obtain ⟨qb,kb,rfl,hqb,rkb⟩:=IsD.tup_of db;obtain rfl:kb=(prI bs[ws[i].i]).map V.int:=rkb.ints_of;refine ⟨q,_,rfl,SqT.of (S2 _ _ hq2),rfl,_,_,rfl,_,_,rfl,rfl,?_⟩;refine ⟨_,rfl,_,rfl,B,_,_,_,rfl,rfl,SqL.of (S2 _ _ hB),aO (j:=ws[i].i) hvb,?_⟩;refine ⟨_,rfl,qb,_,ws[i].d,rfl,rfl,d1,S2 _ _ hqb,fun q3 H3 S3 h3=>?_⟩;generalize hW:ws[i]=W at *
  rcases d1 with d1 | d1
  ·rw [pf d1] at h3
   refine ⟨_,rfl,_,rfl,_,rfl,q3,_,_,_,rfl,rfl,SqT.of h3,aO (j:=0) rfl,_,_,rfl,rfl,.inl (by rw [d1];exact ⟨by decide,by decide⟩),_,_,rfl,rfl,?_⟩;refine ⟨_,rfl,_,rfl,_,rfl,q3,_,_,_,rfl,rfl,SqT.of h3,aO (j:=1) rfl,_,_,rfl,rfl,.inl (by rw [d1];exact ⟨by decide,by decide⟩),_,_,rfl,rfl,S2.trans S3,some (.int (W.i:Nat)),some (.int W.d),some (.ref q3),?_⟩;have l1:oF bs W=W.d * bs[W.i].1:=by unfold oF;rw [gE i1];show (if W.d=1 then _ else _)=_;rw [pf d1,d1,Int.one_mul]
   have l2:jB bs W=W.d * bs[W.i].2:=by unfold jB;rw [gE i1];show (if W.d=1 then _ else _)=_;rw [pf d1,d1,Int.one_mul]
   rw [hm1,hm2,l1,l2];rfl
  ·have d2:W.d≠1:=by omega
   rw [pe d2] at h3;refine ⟨_,rfl,_,rfl,_,rfl,q3,_,_,_,rfl,rfl,SqT.of h3,aO (j:=0) rfl,_,_,rfl,rfl,.inl (by rw [d1];exact ⟨by decide,by decide⟩),_,_,rfl,rfl,?_⟩;refine ⟨_,rfl,_,rfl,_,rfl,q3,_,_,_,rfl,rfl,SqT.of h3,aO (j:=1) rfl,_,_,rfl,rfl,.inl (by rw [d1];exact ⟨by decide,by decide⟩),_,_,rfl,rfl,S2.trans S3,some (.int (W.i:Nat)),some (.int W.d),some (.ref q3),?_⟩;have l1:oF bs W=W.d * bs[W.i].2:=by unfold oF;rw [gE i1];show (if W.d=1 then _ else _)=_;rw [pe d2,d1];omega
   have l2:jB bs W=W.d * bs[W.i].1:=by unfold jB;rw [gE i1];show (if W.d=1 then _ else _)=_;rw [pe d2,d1];omega
   rw [hm1,hm2,l1,l2];rfl
 ·rintro σ H2 ⟨S2,v5,v6,v7,rfl⟩
  rw [hlw,bq];refine ⟨_,rfl,_,rfl,_,rfl,t,_,_,_,rfl,rfl,SqT.of (S2 _ _ ht),aO (j:=0) rfl,_,_,rfl,rfl,log_ok b0 b1,_,rfl,_,rfl,_,rfl,t,_,_,_,rfl,rfl,SqT.of (S2 _ _ ht),aO (j:=0) rfl,_,_,rfl,rfl,log_ok b0 b1,l6,fun q H3 S3 h3=>?_⟩;exact k q H3 (S2.trans S3) h3
theorem scShownH:cu pzm pzm (defScope sShownH):=by trivial
theorem ok_shownH {R:Int→List Sn→List (Int×Int)→Dt→Prop}{f f1:ao}{fd fd1:bu}(F:Fun K "_law_shown" "_law_shown" sShownH f fd)(G1:Fn K mg "_law_walked" sWalkH pzt f1 fd1)(F1:dN P w K mg base CX0 25 f1 fd1 pzt (spWalkH R 22)):dN P w K mg base CX0 26 f fd pzm (spShownH R):=by
 refine F.ok scShownH (by contradiction) (fun cdv A outer s H vs Q E hr h=>?_);obtain ⟨v,u,b,m,sp,tr,rfl,hv,N,du,lw,gt,k⟩:=h;obtain ⟨t,p,ys,rfl,ht,hp,hl,hy⟩:=gu hv;have few:=N.few;refine ⟨_,PSl.h (dH ⟨(cw (pc1 G1 F1 hr (ag (pv 0) (ag (i3 (fr:=[]) (js:=[]) rfl (kD (ixZ (pv 0))) (by trivial) rfl (by trivial) rfl (by exists sShownH) (by trivial) rfl (by trivial) (fun _ _ _ _ _=>⟨(d8 (ag (eh (r:=rIxT K) eY (pv 0) ba (fun _ _=>rfl)) (ag (eh (r:=rIxT K) eY (pv 0) ba (fun _ _=>rfl)) az))),i0⟩)) (ag (pv 1) (ag ba az))))))⟩),?_⟩;refine ⟨_,rfl,_,rfl,t,_,_,_,rfl,rfl,SqT.of ht,aO (j:=2) rfl,p,rfl,⟨_,SqT.of hp⟩,?_⟩;refine kR (K:=K) (a:=p) (xs:=ys) (fun i zs H2=>Same H H2∧zs.length=i∧IsDs H2 zs (cY prI ((sp.take i).map fun z=>(z.l,z.o)))) ⟨Same.refl H,rfl,.nil⟩ (fun i zs H2 hi ⟨e1,e2,_⟩=>⟨SqT.of (e1 _ _ hp),by omega⟩) (by rw [hl];exact fb (by omega)) (fun i x zs H2 hx ⟨S2,e2,d2⟩=>?_) (fun zs H2 ⟨S2,e2,d2⟩ D hD=>?_)
 ·have hi:i<sp.length:=by rw [←hl];exact (av.mp hx).1
  obtain ⟨q,hq,hq2⟩:=hy i sp[i] (gE hi);rw [hx] at hq;cases hq;refine iB ?_;refine ⟨_,rfl,q,_,_,_,rfl,rfl,SqT.of (S2 _ _ hq2),aO (j:=2) rfl,_,rfl,q,_,_,_,rfl,rfl,SqT.of (S2 _ _ hq2),aO (j:=3) rfl,l6,fun q3 H3 S3 h3=>⟨S2.trans S3,by rw [aq,e2];rfl,?_⟩⟩;rw [bt,gE hi,aA];unfold cY at d2 ⊢;rw [aA];exact (d2.same S3).append (.cons (.tup h3 (IsDs.ints [sp[i].l,sp[i].o])) .nil)
 ·rw [hl,bq] at d2
  have S3:Same H2 (upd H2 D (.lst zs)):=Same.put (Same.refl H2) hD;have h3:(upd H2 D (.lst zs)) D=some (.lst zs):=aS;generalize upd H2 D (.lst zs)=H3 at S3 h3 ⊢;have S03:=S2.trans S3;exact ⟨_,rfl,.ref t,u,D,zs,b,m,sp,_,tr,0,rfl,hv.same S03,N,h3,d2.same S3,by rw [aa],du.same S03,lw,gt,by decide,by decide,fun L H' S' h'=>k L H' (S03.trans S') h'⟩
end
abbrev sLed:cV:=top 50
section
variable {P:aW} {w:bz} {K:ak} {mg:Str→Option ae} {base:bE}
theorem scLed:cu ["_law_net_here","_law_ring","_law_spots","_law_step","_law_ends","_law_k"] pzF (defScope sLed):=by trivial
theorem ok_led {f f1:ao}{fd fd1:bu}(F:Fun K "_law_led" "_law_led" sLed f fd)(T:Nm mg)(T2:Nt mg)(T3:N3 mg)(G1:Fn K mg "_law_is_whole" sWholeH pzj f1 fd1):dN P w K mg base CX0 2 f fd pzF spLed:=by
 have F1:dN P w K mg base CX0 1 f1 fd1 pzj spWholeL:=ok_wholeH G1.F T;refine F.ok scLed (by contradiction) (fun cdv A outer s H vs Q E hr h=>?_);obtain ⟨v,r,b,m,sp,ws,rfl,hv,sfew,hw,rg,k⟩:=h;obtain ⟨t,p,ys,rfl,ht,hp,hl,hy⟩:=gu hv;have dw:=hw;obtain ⟨pw,yw,rfl,hpw,hlw,rw'⟩:=iL hw;have two:=rg.two;have few:=rg.few;have hin:=rg.inn;refine ⟨_,PSl.h (aR ⟨(gn (PW.pt (kU (jH (jQ (lN T (pv 1)))) (kB (cA oH (cG bW rfl T.len bG (ag (pv 1) az)) ba (cZ _))))) (cO (cw nX)) dO)⟩
  (aR ⟨(bw (i:=2) scLed.nd rfl (.inl rfl) (iq az))⟩
  (aR ⟨(iC bL rfl (kD (pv 1)) (df (i:=3) scLed.nd rfl (.inl rfl)) (PSl.h (aR ⟨(gn (PW.pt (kU (jH (jQ (lN T (pv 3)))) (kB (cA nY (cG bW rfl T.len bG (ag (pv 3) az)) ba (cZ _))))) (cO (cw nX)) dO)⟩
  (aR ⟨(gn (PW.pt (kU (jH (jQ (pc1 G1 F1 hr (ag (ixZ (pv 3)) az)))) (kU (jH (jQ (pc1 G1 F1 hr (ag (ixZ (pv 3)) az)))) (kB (cA mL (ixZ (pv 3)) (d8 (ag ba (ag (mN km ba) az))) rfl))))) (cO (cw nX)) dO)⟩
  (aR ⟨(gn (jH (pt_chain op_le oH ba (ixZ (pv 3)) (cG bW rfl T.len bG (ag (ixZ (pv 0)) az)))) (cO (cw nX)) dO)⟩
  (aR ⟨(bw (i:=4) scLed.nd rfl (.inl rfl) (kN sl_tupN (eh eY (ixZ (pv 0)) (ixZ (pv 3)) (fun _ _=>rfl)) mw (mr ba)))⟩
  (dH ⟨(gL (kr aZ bZ bY gq (pv 2) (ag (pe_turn (pv 4) (ixZ (pv 3))) az)))⟩)))))))⟩
  (aR ⟨(iC bL rfl (iE rfl T2.range (ag (cG bW rfl T.len bG (ag (pv 2) az)) az)) (df (i:=5) scLed.nd rfl (.inl rfl)) (cO (gn (cA nY (ixZ (eh dX (pv 2) (bX gp (pv 5) ba) (fun _ _=>rfl))) (ixZ (eh dX (pv 2) (pv 5) (fun _ _=>rfl))) (cZ _)) (cO (cw nX)) dO)))⟩
  (dH ⟨(cw (k7 lQ (cG call_lenS rfl T.len bG (ag (fA (call_setL rfl) rfl T3.tset boot_set (ag (i3 (fr:=[]) (js:=[]) rfl (kD (pv 1)) (by trivial) rfl (by trivial) rfl (by exists sLed) (by trivial) rfl (by trivial) (fun _ _ _ _ _=>⟨(eh (r:=rIxT K) eY (pv 0) ba (fun _ _=>rfl)),i0⟩)) az)) az)) (cG bW rfl T.len bG (ag (pv 1) az)) (cZ _)))⟩))))),?_⟩
 refine ⟨_,rfl,_,_,rfl,dw.tyn,_,rfl,jT rfl ?_⟩;refine ⟨_,rfl,pw,_,rfl,.inr (SqT.of hpw),_,_,rfl,rfl,_,rfl,jT (pB (by rw [hlw];omega)) ?_⟩;refine ⟨bI _,fun Ls hLs=>?_⟩;have S1:Same H (upd H Ls (.lst [])):=Same.put (Same.refl H) hLs;have h1:(upd H Ls (.lst [])) Ls=some (.lst []):=aS;generalize upd H Ls (.lst [])=H1 at S1 h1 ⊢;refine ⟨_,rfl,pw,rfl,⟨_,SqT.of (S1 _ _ hpw)⟩,?_⟩;refine for_tup (K:=K) (xs:=yw) (fun i σ H2=>Same H H2∧∃ (zs:List V) (v3 v4:Option V),σ=[some (.ref t),some (.ref pw),some (.ref Ls),v3,v4,none]∧H2 Ls=some (.lst zs)∧IsDs H2 zs (cY (ftS sp) (ws.take i))∧zs.length=i) ⟨S1,[],none,none,rfl,h1,.nil,rfl⟩ (fun i σ H2 _ ⟨e1,_⟩=>SqT.of (e1 _ _ hpw)) ?_ ?_
 ·rintro i y σ H2 hy2 ⟨S2,zs,v3,v4,rfl,hz,dz,lz⟩
  have hi:i<ws.length:=by rw [←hlw];exact (av.mp hy2).1
  obtain ⟨q,hq,hq2⟩:=iZ rw' (gE hi);rw [hy2] at hq;cases hq;obtain ⟨i1,d1⟩:=hin ws[i] (bR hi);have hq2':H2 q=some (.tup [.int (ws[i].i:Nat),.int ws[i].d]):=S2 _ _ hq2;obtain ⟨qs,hqs,hqs2⟩:=hy ws[i].i sp[ws[i].i] (gE i1);refine ⟨_,rfl,_,_,rfl,(IsD.tup hq2' (.cons (.int _) (.cons (.int _) .nil))).tyn,_,rfl,jT rfl ?_⟩;refine ⟨_,rfl,q,_,rfl,.inr (SqT.of hq2'),rfl,_,rfl,jT rfl ?_⟩;refine ⟨_,rfl,q,_,_,_,rfl,rfl,SqT.of hq2',aO (j:=0) rfl,_,rfl,_,rfl,jT rfl ?_⟩;refine ⟨_,rfl,q,_,_,_,rfl,rfl,SqT.of hq2',aO (j:=1) rfl,_,rfl,_,rfl,jT rfl ?_⟩;refine ⟨_,rfl,q,_,_,_,rfl,rfl,SqT.of hq2',aO (j:=1) rfl,_,rfl,l6,fun q3 H3 S3 h3=>?_⟩;refine ⟨q3,_,rfl,.inr (SqT.of h3),rfl,rfl,_,rfl,jT ?_ ?_⟩
  ·rcases d1 with e | e <;> rw [e] <;> decide
  have S03:=S2.trans S3;have hq3:=S3 _ _ hq2';refine ⟨_,rfl,q,_,_,_,rfl,rfl,SqT.of hq3,aO (j:=0) rfl,_,_,rfl,rfl,_,rfl,iteB (pA (by omega)) ?_⟩;refine ⟨_,rfl,t,_,_,_,rfl,rfl,SqT.of (S03 _ _ ht),aO (j:=2) rfl,p,_,rfl,.inr (SqT.of (S03 _ _ hp)),_,_,rfl,rfl,_,rfl,jT (by rw [hl,pA (show ((ws[i].i:Nat):Int)<(sp.length:Int) by omega)];rfl) ?_⟩;refine ⟨_,rfl,t,_,_,_,rfl,rfl,SqT.of (S03 _ _ ht),aO (j:=2) rfl,_,rfl,q,_,_,_,rfl,rfl,SqT.of hq3,aO (j:=0) rfl,p,_,_,_,rfl,rfl,SqT.of (S03 _ _ hp),aO (j:=ws[i].i) hqs,_,rfl,qs,_,rfl,S03 _ _ hqs2,fun q4 H4 S4 h4=>?_⟩;rw [cutU (i:=2) (n:=2) (by omega)] at h4;have h4:H4 q4=some (.tup [.int sp[ws[i].i].s,.int sp[ws[i].i].g]):=h4;have hz4:=S4 _ _ (S3 _ _ hz);have hq4:=S4 _ _ hq3;refine ⟨_,rfl,.inl ⟨rfl,_,SqL.of hz4⟩,_,rfl,_,rfl,q,_,_,_,rfl,rfl,SqT.of hq4,aO (j:=1) rfl,q4,_,ws[i].d,rfl,rfl,d1,h4,fun q5 H5 S5 h5=>?_⟩;rw [ft_of i1 d1] at h5;have hz5:=S5 _ _ hz4;refine ⟨Ls,zs,_,rfl,rfl,hz5,(aU (by omega:zs.length<1000) (by decide:1000≤bc)),?_⟩;have S35:=S3.trans (S4.trans S5);have KC:TupK H5 (upd H5 Ls (.lst (zs++[.ref q5]))):=eM hz5;refine ⟨fun a o e=>by rw [bf (aY e hLs)];exact S35 _ _ (S2 _ _ e),zs++[.ref q5],_,_,rfl,aS,?_,by rw [aq,lz];rfl⟩;rw [bt,gE hi];unfold cY at dz ⊢;rw [aA];exact (bT KC (dz.same S35)).append (.cons (.tup (KC _ _ h5) (IsDs.ints (ftS sp ws[i]))) .nil)
 rintro σ H2 ⟨S2,zs,v3,v4,rfl,hz,dz,lz⟩;rw [hlw,bq] at dz;have lz:zs.length=ws.length:=by rw [lz,hlw]
 obtain ⟨x0,al⟩:=rg.rnd;obtain ⟨af,al',an⟩:=along_get al;refine ⟨_,rfl,Ls,_,rfl,.inl (SqL.of hz),_,rfl,by omega,by omega,?_⟩;refine jW (n:=((zs.length:Nat):Int).toNat) (fun i σ H3=>H3=H2∧∃ v5,σ=[some (.ref t),some (.ref pw),some (.ref Ls),v3,v4,v5]) ⟨rfl,none,rfl⟩ ?_ ?_
 ·rintro i σ H3 hi ⟨rfl,v5,rfl⟩
  have hi:i<ws.length:=by omega
  obtain ⟨qb,hqb,hqb2⟩:=iZ dz (gE hi);obtain ⟨j,hj,hat,hmt⟩:∃ j,∃ hj:j<ws.length,atI zs (0+(i:Int) - 1)=zs[j]? ∧eV sp ws[j]=kt sp ws[i]:=by
   cases i with
   | zero =>
    refine ⟨ws.length - 1,by omega,?_,?_⟩
    ·have e:zs[zs.length - 1]? =some (zs[zs.length - 1]'(by omega)):=gE _
     rw [show (0:Int)+((0:Nat):Int) - 1= -1 by omega,atI_last e,←e,lz]
    ·rw [al' (by omega),af (by omega)]
   | succ i =>
    refine ⟨i,by omega,?_,an i hi⟩;have e:zs[i]? =some (zs[i]'(by omega)):=gE _;rw [show (0:Int)+((i+1:Nat):Int) - 1=(i:Int) by omega,e];exact aO e
  obtain ⟨qa,hqa,hqa2⟩:=iZ dz (gE hj);rw [hqa] at hat;refine ⟨_,rfl,_,rfl,_,_,rfl,rfl,Ls,_,_,_,rfl,rfl,SqL.of hz,hat,qa,_,_,_,rfl,rfl,SqT.of hqa2,aO (j:=1) rfl,_,rfl,_,rfl,Ls,_,_,_,rfl,rfl,SqL.of hz,by rw [gG];exact aO hqb,qb,_,_,_,rfl,rfl,SqT.of hqb2,aO (j:=0) rfl,rfl,_,rfl,jT ?_ ?_⟩
  ·rw [pA (by rw [hmt])];rfl
  exact ⟨rfl,_,rfl⟩
 rintro σ H3 ⟨rfl,v5,rfl⟩;refine ⟨_,rfl,pw,rfl,⟨_,SqT.of (S2 _ _ hpw)⟩,?_⟩;refine kR (K:=K) (a:=pw) (xs:=yw) (fun i zs H4=>H4=H3∧zs=(mO (ws.take i)).map V.int) ⟨rfl,rfl⟩ (fun i zs H4 hi ⟨e1,e2⟩=>?_) (by rw [hlw];exact fb (by omega)) (fun i x zs H4 hx ⟨e1,e2⟩=>?_) (fun zs H4 ⟨e1,e2⟩ D hD=>?_)
 ·subst e1
  refine ⟨SqT.of (S2 _ _ hpw),?_⟩;rw [e2,aa];unfold mO;rw [aa,bH];omega
 ·subst e1
  have hi:i<ws.length:=by rw [←hlw];exact (av.mp hx).1
  obtain ⟨q1,f1,g1⟩:=iZ rw' (gE hi);rw [hx] at f1;cases f1;refine iB ?_;refine ⟨_,rfl,q1,_,_,_,rfl,rfl,SqT.of (S2 _ _ g1),aO (j:=0) rfl,rfl,?_⟩;rw [e2,numsS_take hi,aA];rfl
 subst e1;have e3:zs=(mO ws).map V.int:=by rw [e2,hlw,bq]
 subst e3;refine ⟨D,mO ws,rfl,SqL.of aS,by unfold mO;rw [aa];omega,fun p4 H5 S5 h5=>?_⟩;have S15:Same H4 H5:=(Same.put (Same.refl H4) hD).trans S5;have SH5:=S2.trans S15;refine ⟨p4,_,_,rfl,h5,?_⟩;refine ⟨_,rfl,pw,_,rfl,.inr (SqT.of (SH5 _ _ hpw)),rfl,?_⟩;have nd:(mO ws).Nodup:=by
  have:=rg.one;unfold mO;rw [cb,fm] at this ⊢;exact this.imp fun h e=>h (by omega)
 have e:(metL (mO ws)).length=yw.length:=by rw [met_nodup nd,hlw];unfold mO;rw [aa]
 rw [pA (by rw [e])];exact k H5 SH5
theorem scLeafH:cu ["_law_net_here","_law_bounds","_law_tree","_law_first","_law_last","_law_row"] pzu (defScope sLeafH):=by trivial
theorem ok_leafH {f f1 f2:ao}{fd fd1 fd2:bu}(F:Fun K "_law_leaf" "_law_leaf" sLeafH f fd)(T:Nm mg)(G1:Fn K mg "_law_led" sLed pzF f1 fd1)(F1:dN P w K mg base CX0 2 f1 fd1 pzF spLed)(G2:Fn K mg "_law_beats" sBeatsH pzE f2 fd2):dN P w K mg base CX0 3 f fd pzu (spLeafH RDead):=by
 have F2:dN P w K mg base CX0 1 f2 fd2 pzE spBeatsH:=ok_beatsH G2.F;refine F.ok scLeafH (by contradiction) (fun cdv A outer s H vs Q E hr h=>?_);obtain ⟨v,u,B,bv,b,m,sp,bs,d,rfl,hv,N,hB,dB,lb,du,_,⟨p,rfl,rg,dead⟩,k⟩:=h;have hr1:Room 1 _:=hr.mono (by decide);refine ⟨_,PSl.h (aR ⟨(gn (cA lQ (ixZ (pv 2)) kW (cZ _)) (PSl.h (aR ⟨(gn (PW.pt (kU (cA nY (cG bW rfl T.len bG (ag (pv 2) az)) ba (cZ _)) (kB (jH (jQ (pc1 G1 F1 hr (ag (pv 0) (ag (ixZ (pv 2)) az)))))))) (cO (cw jI)) dO)⟩
  (aR ⟨(mH (pc1 G2 F2 hr1 (ag (pv 0) (ag (pv 1) (ag (ixZ (pv 2)) az)))) (mI rfl (fJ (df (i:=3) scLeafH.nd rfl (.inl rfl)) (fJ (df (i:=4) scLeafH.nd rfl (.inl rfl)) kE))))⟩
  (dH ⟨(cw (PEs.h (k_ix dX (k_lst (fF (k_lst a_nil) (fF ⟨jI⟩ a_nil))) ⟨fA call_int1 rfl T.tint boot_int (ag (k7 op_le (pv 3) (pv 4) (cZ _)) az)⟩ (fun _ _=>rfl))))⟩)))) dO)⟩
  (aR ⟨ps_outL⟩ (aR ⟨ps_outL⟩ (dH ⟨ps_outL⟩)))),?_⟩
 have du:IsD H u (.tup [.str "ring",mY p]):=du;obtain ⟨q,xs,rfl,hq,rq⟩:=IsD.tup_of du;obtain ⟨vr,rfl,dr⟩:∃ vr,xs=[.str "ring",vr]∧IsD H vr (mY p):=by
  cases rq with
  | cons a rq=>cases a;cases rq with
   | cons dr rq=>cases rq;exact ⟨_,rfl,dr⟩
 refine ⟨_,rfl,q,_,_,_,rfl,rfl,SqT.of hq,aO (j:=0) rfl,rfl,_,rfl,iteB (pA rfl) ?_⟩;refine ⟨_,rfl,q,_,rfl,.inr (SqT.of hq),rfl,_,rfl,jT rfl ?_⟩;refine ⟨_,rfl,_,rfl,q,_,_,_,rfl,rfl,SqT.of hq,aO (j:=1) rfl,v,vr,b,m,sp,p,rfl,hv,N.few,dr,rg,fun H1 S1=>⟨_,rfl,jT rfl ?_⟩⟩;refine ⟨_,rfl,_,rfl,_,rfl,q,_,_,_,rfl,rfl,SqT.of (S1 _ _ hq),aO (j:=1) rfl,v,vr,B,bv,b,m,sp,bs,p,rfl,hv.same S1,by have:=N.b1;omega,by have:=N.b2;omega,S1 _ _ hB,dB.same S1,dr.same S1,by rw [lb];exact rg.inn,fun q2 H2 S2 h2=>⟨q2,_,rfl,SqT.of h2,rfl,_,_,rfl,_,_,rfl,rfl,?_⟩⟩;refine ⟨bI _,fun L0 H3 S3 h3=>⟨l6,fun L1 H4 S4 h4=>?_⟩⟩;have hd:¬ (upB b (fk bs p)≤gg bs p / b):=by
  have:=pE (show decide (upB b (fk bs p) > gg bs p / b)=true from dead);omega
 refine ⟨_,rfl,_,rfl,_,_,rfl,rfl,.inr ⟨_,rfl,?_⟩⟩;rw [pB hd];exact ⟨L1,_,_,_,rfl,rfl,SqL.of h4,aO (j:=0) rfl,k L0 H4 (S1.trans (S2.trans (S3.trans S4))) (S4 _ _ h3)⟩
end
theorem lg {R:List (Int×Int)→Dt→Prop}(hR:∀ bs d,R bs d→ly d):∀ (t:Tq) (bs:List (Int×Int)) (n:Nat),GoodT R t bs n→∀ d,Mrk.leaf d∈pre t→ly d
 | .leaf d,bs,n,g,d',h=>by
  have e:d'=d:=by
   have h:Mrk.leaf d'∈[Mrk.leaf d]:=h;injection aw.mp h
  subst e;cases n <;> exact hR bs _ g
 | .cut k a x y,bs,0,g,d',h=>g.elim
 | .cut k a x y,bs,n+1,g,d',h=>by
  obtain ⟨_,_,_,g1,g2⟩:=g;have h:Mrk.leaf d'∈Mrk.cut k a::(pre x++pre y):=h
  rcases aL.mp h with h | h
  ·cases h
  rcases aM.mp h with h | h
  ·exact lg hR x _ n g1 d' h
  ·exact lg hR y _ n g2 d' h
theorem rdead_leafW {b:Int}{sp:List Sn}(bs:List (Int×Int))(d:Dt)(h:RDead b sp bs d):ly d:=by
 obtain ⟨p,rfl,_⟩:=h;exact mz p
abbrev sLaw:cV:=top 58
inductive spLawTs (Ts:List ao)(K:ak)(vs:List V)(H:Hp)(Q:VK)(_:XK):Prop
 | mk (a:ao)(ns:List Int)(_:vs=[.ref a])(_:SqL K H a (ns.map V.int))(_:(∀ T∈Ts,H T=some (.tbl #[])))(_:∀ H',Q (.bl true) H')
section
variable {P:aW} {w:bz} {K:ak} {mg:Str→Option ae} {base:bE}
theorem scLaw:cu ["_law_script","_law_net_here","_law_times","_law_ahead","_law_whole","_law_told"] ["_law_script"] (defScope sLaw):=by trivial
theorem ok_law {f f1 f2 f3 f4 f5 T0 T1 TT:ao}{fd fd1 fd2 fd3 fd4 fd5:bu}{p0 p1:Pos}{q0 q1:Str}(F:Fun K "law" "law" sLaw f fd)(T:Nm mg)
  (G1:Fn K mg "_law_net" sNetH pzn f1 fd1) (F1:dN P w K mg base CX0 4 f1 fd1 pzn (spNetH K))
  (G2:Fn K mg "table_for" jv pza f2 fd2) (F2:dN P w K mg base CX0 12 f2 fd2 pza (nL T0 p0 q0 T1 p1 q1 TT))
  (G3:Fn K mg "_law_dead" sDeadN pzz f3 fd3) (F3:dN P w K mg base CX0 3 f3 fd3 pzz (spDeadN K))
  (G4:Fn K mg "_law_fits" sFitsN pzf f4 fd4) (F4:dN P w K mg base CX0 2 f4 fd4 pzf spFits)
  (G5:Fn K mg "_law_shown" sShownH pzm f5 fd5) (F5:dN P w K mg base CX0 26 f5 fd5 pzm (spShownH RDead)):dN P w K mg base CX0 27 f fd ["_law_script"] (spLawTs [T0,T1,TT] K):=by
 refine F.ok scLaw (by contradiction) (fun cdv A outer s H vs Q E hr h=>?_);obtain ⟨a,ns,rfl,ha,hT,k⟩:=h;have hr2:Room 2 _:=hr.mono (by decide);have hr3:Room 3 _:=hr.mono (by decide);have hr4:Room 4 _:=hr.mono (by decide);have hr12:Room 12 _:=hr.mono (by decide);refine ⟨_,PSl.h (aR ⟨(mH (pc1 G1 F1 hr4 (ag (pv 0) (ag ba (ag ba (ag ba az))))) (mI rfl (fJ (df (i:=1) scLaw.nd rfl (.inl rfl)) (fJ (df (i:=2) scLaw.nd rfl (.inl rfl)) kE))))⟩
  (aR ⟨(gn (PW.pt (kU (cA oH (ixZ (pv 1)) ba (cZ _)) (kB (cA oH (ixZ (pv 1)) ba (cZ _))))) (cO (cw (k7 lQ (ixZ (pc1 G2 F2 hr12 (ag (pv 1) az))) kW (cZ _)))) dO)⟩
  (aR ⟨(mH (pc1 G3 F3 hr3 (ag (pv 0) (ag (pv 1) (ag (pv 2) az)))) (mI rfl (fJ (df (i:=3) scLaw.nd rfl (.inl rfl)) (fJ (df (i:=4) scLaw.nd rfl (.inl rfl)) kE))))⟩
  (aR ⟨(bw (i:=5) scLaw.nd rfl (.inl rfl) (pc1 G2 F2 hr12 (ag (pv 3) az)))⟩
  (aR ⟨(gn (PW.pt (kU (jH (jQ (lN T (pv 5)))) (kU (cA nY (ixZ (pv 5)) kW (cZ _)) (kB (jH (jQ (pc1 G4 F4 hr2 (ag (pv 3) (ag (ixZ (pv 5)) az))))))))) (cO (cw nX)) dO)⟩
  (aR ⟨(bw (i:=5) scLaw.nd rfl (.inl rfl) (pc1 G2 F2 hr12 (ag (pv 4) az)))⟩
  (aR ⟨(gn (PW.pt (kU (jH (jQ (lN T (pv 5)))) (kU (cA nY (cG bW rfl T.len bG (ag (pv 5) az)) ba (cZ _)) (kB (cA nY (ixZ (pv 5)) kW (cZ _)))))) (cO (cw nX)) dO)⟩
  (dH ⟨(cw (k7 (op_eqL0 hr.units0) (pc1 G5 F5 hr (ag (pv 4) (ag (ixZ (pv 5)) az))) (nW az) (cZ _)))⟩)))))))),?_⟩
 refine ⟨_,rfl,a,ns,5,6,0,rfl,ha,by decide,by decide,by decide,by decide,fun q u v b m sp ts H1 S1 hq hv N b2 m5 hu lt allt fit na few=>?_⟩;refine ⟨q,_,rfl,SqT.of hq,rfl,_,_,rfl,_,_,rfl,rfl,?_⟩;have b1:=N.b1;have m1:=N.m1;have cas:=ox N (by omega) na;have hf:=fit (by decide);have hT0:L2.LamT T0 p0 q0 H1:=LamT.same S1 (.inl (hT T0 (by simp)));have hT1:L2.LamT T1 p1 q1 H1:=LamT.same S1 (.inl (hT T1 (by simp)));have hT2:L2.LamT TT lpT lqT H1:=LamT.same S1 (.inl (hT TT (by simp)));obtain ⟨tv,pq,ys,rfl,htv,hpq,dy⟩:=netP_rows hv;refine ⟨_,rfl,tv,_,_,_,rfl,rfl,SqT.of htv,aO (j:=1) rfl,_,_,rfl,rfl,_,rfl,?_⟩;refine oX (fun _=>?_) (fun hm=>?_)
 ·refine ⟨_,rfl,_,b,m,sp,rfl,hv,N,cas,hT0,hT1,hT2,fun q4 H4 _ kp4 _ _ _ ans=>?_⟩
  rcases ans with ⟨qt,t,hq4,_,_⟩ | ⟨_,_,_,_,_,nof,_⟩
  ·exact ⟨q4,_,_,_,rfl,rfl,SqT.of hq4,aO (j:=0) rfl,rfl,k H4⟩
  ·exact pj hf (nof ts)
 refine ⟨_,rfl,tv,_,_,_,rfl,rfl,SqT.of htv,aO (j:=0) rfl,_,_,rfl,rfl,_,rfl,?_⟩;refine oX (fun _=>?_) (fun hb=>?_)
 ·refine ⟨_,rfl,_,b,m,sp,rfl,hv,N,cas,hT0,hT1,hT2,fun q4 H4 _ kp4 _ _ _ ans=>?_⟩
  rcases ans with ⟨qt,t,hq4,_,_⟩ | ⟨_,_,_,_,_,nof,_⟩
  ·exact ⟨q4,_,_,_,rfl,rfl,SqT.of hq4,aO (j:=0) rfl,rfl,k H4⟩
  ·exact pj hf (nof ts)
 have hm:¬ m<2:=fun z=>hm (pA z)
 have hb:¬ b<2:=fun z=>hb (pA z)
 obtain ⟨mn,rfl⟩:∃ mn:Nat,m=mn:=⟨m.toNat,by omega⟩;refine ⟨_,rfl,_,rfl,_,rfl,a,u,ns,.ref tv,b,mn,sp,ts,rfl,S1.seq ha,hv,N,by omega,b2,by omega,by omega,hu,by omega,by omega,fun q2 va vw zs sa sw x H2 S2 hq2 hva hvw lsa lsw msa msw all fitz dead=>?_⟩;refine ⟨q2,_,rfl,SqT.of hq2,rfl,_,_,rfl,_,_,rfl,rfl,?_⟩;have l2:=lim_two (n:=mn) (by omega) (by omega);have Na:NetT b mn sa:=⟨by omega,by omega,by omega,by omega,by omega,fun y hy=>by
  rcases (msa y).mp hy with z | z
  ·exact N.all y z
  ·exact (all y (aE _ z)).1⟩
 have Nw:NetT b mn sw:=⟨by omega,by omega,by omega,by omega,by omega,fun y hy=>by
  rcases (msw y).mp hy with z | z
  ·exact N.all y z
  ·exact (all y z).1⟩
 have naA:mM mn sa (iI mn - 1):=og na (fun y hy=>(msa y).mpr (.inl hy)) fun y hy=>by
  rcases (msa y).mp hy with z | z
  ·exact .inl z
  ·have:=(all y (aE _ z)).2
   exact .inr (by omega)
 have naW:mM mn sw (iI mn - 1):=og na (fun y hy=>(msw y).mpr (.inl hy)) fun y hy=>by
  rcases (msw y).mp hy with z | z
  ·exact .inl z
  ·have:=(all y z).2
   exact .inr (by omega)
 have fa:jd b ts sa=true:=kept_fits fun y hy=>by
  rcases (msa y).mp hy with z | z
  ·exact fits_kept hf y z
  ·exact fitz y z
 refine ⟨_,rfl,va,b,mn,sa,rfl,hva,Na,ox Na (by omega) naA,LamT.same S2 hT0,LamT.same S2 hT1,LamT.same S2 hT2,fun q3 H3 _ kp3 t30 t31 t32 ans=>?_⟩
 rcases ans with ⟨qt,t,hq3,hqt,tok⟩ | ⟨_,_,_,_,_,nof,_⟩
 rotate_left
 ·exact pj fa (nof ts)
 have hva3:=cU kp3.tup hva;have hvw3:=cU kp3.tup hvw;obtain ⟨tl,tin,tfit⟩:=tok;have tl:(t.length:Int)=mn:=by omega
 refine ⟨_,rfl,_,_,rfl,(IsD.tup hq3 (.cons (.str _) (.cons (.tup hqt (IsDs.ints t)) .nil))).tyn,_,rfl,jT rfl ?_⟩;refine ⟨_,rfl,q3,_,_,_,rfl,rfl,SqT.of hq3,aO (j:=0) rfl,rfl,_,rfl,jT rfl ?_⟩;refine ⟨_,rfl,_,rfl,q3,_,_,_,rfl,rfl,SqT.of hq3,aO (j:=1) rfl,va,qt,b,mn,sa,t,rfl,hva3,hqt,Na.rdy tl,fun H4 S4=>⟨_,rfl,jT (by rw [tfit];rfl) ?_⟩⟩;refine ⟨_,rfl,vw,b,mn,sw,rfl,hvw3.same S4,Nw,ox Nw (by omega) naW,LamT.same S4 t30,LamT.same S4 t31,LamT.same S4 t32,fun q5 H5 _ kp5 _ _ _ ans=>?_⟩
 rcases ans with ⟨_,t',_,_,tok'⟩ | ⟨uu,t',hq5,du,_,nof,gd⟩
 ·exact (dead t' fun y hy=>fits_kept tok'.2.2 y ((msw y).mpr (.inr hy))).elim
 have ty:tyn H5 (.ref q5)=some "tuple" := by simp only [tyn];rw [hq5]
 refine ⟨_,rfl,_,_,rfl,ty,_,rfl,jT rfl ?_⟩;refine ⟨_,rfl,q5,_,rfl,.inr (SqT.of hq5),rfl,_,rfl,jT rfl ?_⟩;refine ⟨_,rfl,q5,_,_,_,rfl,rfl,SqT.of hq5,aO (j:=0) rfl,rfl,_,rfl,jT rfl ?_⟩;refine ⟨_,rfl,_,rfl,q5,_,_,_,rfl,rfl,SqT.of hq5,aO (j:=1) rfl,vw,uu,b,mn,sw,t',rfl,cU kp5.tup (hvw3.same S4),Nw,du,lg rdead_leafW t' _ _ gd,gd,fun L6 H6 S6 h6=>?_⟩;refine ⟨bI _,fun L7 H7 S7 h7=>?_⟩;exact ⟨L6,L7,[],rfl,rfl,SqL.of (S7 _ _ h6),SqL.of h7,k H7⟩
end
theorem args1 {P:List ae→Prop}(h:∀ x0,P [x0]):∀ us:List ae,us.length=1→P us:=by
 intro us hl;obtain _ | ⟨x0,us⟩:=us <;> try (cases hl;done)
 obtain _ | ⟨y,us⟩:=us
 ·exact h x0
 ·exact pj hl (by simp only [aV];omega)
theorem jM {P:List ae→Prop}(h:∀ x0 x1,P [x0,x1]):∀ us:List ae,us.length=2→P us:=by
 intro us hl;obtain _ | ⟨x0,us⟩:=us <;> try (cases hl;done)
 obtain _ | ⟨x1,us⟩:=us <;> try (cases hl;done)
 obtain _ | ⟨y,us⟩:=us
 ·exact h x0 x1
 ·exact pj hl (by simp only [aV];omega)
theorem args3 {P:List ae→Prop}(h:∀ x0 x1 x2,P [x0,x1,x2]):∀ us:List ae,us.length=3→P us:=by
 intro us hl;obtain _ | ⟨x0,us⟩:=us <;> try (cases hl;done)
 obtain _ | ⟨x1,us⟩:=us <;> try (cases hl;done)
 obtain _ | ⟨x2,us⟩:=us <;> try (cases hl;done)
 obtain _ | ⟨y,us⟩:=us
 ·exact h x0 x1 x2
 ·exact pj hl (by simp only [aV];omega)
theorem args4 {P:List ae→Prop}(h:∀ x0 x1 x2 x3,P [x0,x1,x2,x3]):∀ us:List ae,us.length=4→P us:=by
 intro us hl;obtain _ | ⟨x0,us⟩:=us <;> try (cases hl;done)
 obtain _ | ⟨x1,us⟩:=us <;> try (cases hl;done)
 obtain _ | ⟨x2,us⟩:=us <;> try (cases hl;done)
 obtain _ | ⟨x3,us⟩:=us <;> try (cases hl;done)
 obtain _ | ⟨y,us⟩:=us
 ·exact h x0 x1 x2 x3
 ·exact pj hl (by simp only [aV];omega)
theorem args5 {P:List ae→Prop}(h:∀ x0 x1 x2 x3 x4,P [x0,x1,x2,x3,x4]):∀ us:List ae,us.length=5→P us:=by
 intro us hl;obtain _ | ⟨x0,us⟩:=us <;> try (cases hl;done)
 obtain _ | ⟨x1,us⟩:=us <;> try (cases hl;done)
 obtain _ | ⟨x2,us⟩:=us <;> try (cases hl;done)
 obtain _ | ⟨x3,us⟩:=us <;> try (cases hl;done)
 obtain _ | ⟨x4,us⟩:=us <;> try (cases hl;done)
 obtain _ | ⟨y,us⟩:=us
 ·exact h x0 x1 x2 x3 x4
 ·exact pj hl (by simp only [aV];omega)
theorem args6 {P:List ae→Prop}(h:∀ x0 x1 x2 x3 x4 x5,P [x0,x1,x2,x3,x4,x5]):∀ us:List ae,us.length=6→P us:=by
 intro us hl;obtain _ | ⟨x0,us⟩:=us <;> try (cases hl;done)
 obtain _ | ⟨x1,us⟩:=us <;> try (cases hl;done)
 obtain _ | ⟨x2,us⟩:=us <;> try (cases hl;done)
 obtain _ | ⟨x3,us⟩:=us <;> try (cases hl;done)
 obtain _ | ⟨x4,us⟩:=us <;> try (cases hl;done)
 obtain _ | ⟨x5,us⟩:=us <;> try (cases hl;done)
 obtain _ | ⟨y,us⟩:=us
 ·exact h x0 x1 x2 x3 x4 x5
 ·exact pj hl (by simp only [aV];omega)
theorem Df.fn {K:ak}{h:bE}{mg:Str→Option ae}{x:Str}{st:cV}{f:ao}(a:Df K x st f)(X:K.In h)(G:h.Ns bK mg){ps:List Str}
  (hb:∀ (kV dc pm:ae) (an:Option ao) (cd ct:ae) (us:List ae),us.length=ps.length→bindArgs (eC x x (i4 st) (fY st) (defScope st) .none kV dc pm an cd ct) ⟨us,[]⟩=fQ (ps.zip us)):∃ fd,Fn K mg x st ps f fd:=by
 obtain ⟨n,oc,od,an,sl,kV,dc,pm,cd,ct,l,c,k⟩:=a;have F:=ow (st:=st) l c k;exact ⟨_,F,iX X G n,F.binds hb⟩
theorem all_mk {l:PySem.W.OpenLaw}{w:bz}{K:ak}{h:bE}{mg:Str→Option ae}{fa:ao}(X:K.In h)(G:h.Ns bK mg)(hfa:mg "law" =some (.ref fa))(Fc:Facts K)
  : ∃ fd:bu,(∀ (s:ar) (v:ae),BindsTo s fd ⟨[v],[]⟩ [("_law_script",v)])∧∀ base:bE,K.In base→base.Ns bK mg→BM mg base→dN l.prog w K mg base CX0 27 fa fd ["_law_script"] (spLawTs [95,171,237] K):=by
 refine Fc _ ?_;intro f1 f2 f3 f4 f5 f6 f7 f8 f9 f10 f11 f12 f13 f14 f15 f16 f17 f18 f19 f20 f21 f22 f23 f24 f25 f26 f27 f28 f29 f30 f31 f32 f33 f34 f35 f36 f37 f38 f39 f40 f41 f42 f43 f44 t1 xC xi xs xt odI anI odS anS odT anT slI slS slT ocI kVI dcI pmI ctI ocS kVS dcS pmS cdS ctS ocT kVT dcT pmT cdT ctT a1 a2 a3 a4 a5 a6 a7 a8 a9 a10 a11 a12 a13 a14 a15 a16 a17 a18 a19 a20 a21 a22 a23 a24 a25 a26 a27 a28 a29 a30 a31 a32 a33 a34 a35 a36 a37 a38 a39 a40 a41 a42 a43 a44 y1 z1 z2 z3 z4 z5 z6 z7 z8 z9 z10 z11 z12 z13 z14 z15 z16 w1 w2 w3 w4 w5 w6 w7 w8 w9 w10 w11 w12 w13 w14 w15 w16 w17 w18 w19 w20 w21 w22 w23 w24 w25 wc0 wh0 wh1 wc2 wh2;have e:=hfa.symm.trans (iX X G a44.n);cases e;obtain ⟨fd1,G1⟩:=a1.fn X G (ps:=pze) fun _ _ _ _ _ _=>jM fun _ _=>rfl
 obtain ⟨fd2,G2⟩:=a2.fn X G (ps:=pzb) fun _ _ _ _ _ _=>jM fun _ _=>rfl
 obtain ⟨fd3,G3⟩:=a3.fn X G (ps:=pzb) fun _ _ _ _ _ _=>jM fun _ _=>rfl
 obtain ⟨fd4,G4⟩:=a4.fn X G (ps:=pza) fun _ _ _ _ _ _=>args1 fun _=>rfl
 obtain ⟨fd5,G5⟩:=a5.fn X G (ps:=pzA) fun _ _ _ _ _ _=>jM fun _ _=>rfl
 obtain ⟨fd6,G6⟩:=a6.fn X G (ps:=pzg) fun _ _ _ _ _ _=>args3 fun _ _ _=>rfl
 obtain ⟨fd7,G7⟩:=a7.fn X G (ps:=pzg) fun _ _ _ _ _ _=>args3 fun _ _ _=>rfl
 obtain ⟨_,oc,od,an,sl,kV,dc,pm,cd,ct,l8,c8,k8⟩:=id a8;obtain ⟨_,_,_,_,_,_,_,_,z⟩:=wc0;have z:=l8.symm.trans z;have wc0:cd=ae.ref 99:=by injection z with z;injection z with _ _ z _;injection z with z;injection z
 have F8:=ow (st:=sSpW) l8 c8 k8;have b8:=F8.binds (ps:=pza) fun _ _ _ _ _ _=>args1 fun _=>rfl
 have G8:Fn K mg "spans_by_width" sSpW pza f8 _:=⟨F8,iX X G a8.n,b8⟩;obtain ⟨fd9,G9⟩:=a9.fn X G (ps:=pza) fun _ _ _ _ _ _=>args1 fun _=>rfl
 obtain ⟨fd10,G10⟩:=a10.fn X G (ps:=pzh) fun _ _ _ _ _ _=>args3 fun _ _ _=>rfl
 obtain ⟨fd11,G11⟩:=a11.fn X G (ps:=pzB) fun _ _ _ _ _ _=>args4 fun _ _ _ _=>rfl
 obtain ⟨fd12,G12⟩:=a12.fn X G (ps:=pze) fun _ _ _ _ _ _=>jM fun _ _=>rfl
 obtain ⟨fd13,G13⟩:=a13.fn X G (ps:=pza) fun _ _ _ _ _ _=>args1 fun _=>rfl
 obtain ⟨fd14,G14⟩:=a14.fn X G (ps:=pza) fun _ _ _ _ _ _=>args1 fun _=>rfl
 obtain ⟨fd15,G15⟩:=a15.fn X G (ps:=pza) fun _ _ _ _ _ _=>args1 fun _=>rfl
 obtain ⟨fd16,G16⟩:=a16.fn X G (ps:=pzq) fun _ _ _ _ _ _=>jM fun _ _=>rfl
 obtain ⟨fd17,G17⟩:=a17.fn X G (ps:=pzp) fun _ _ _ _ _ _=>args4 fun _ _ _ _=>rfl
 obtain ⟨fd18,G18⟩:=a18.fn X G (ps:=pzo) fun _ _ _ _ _ _=>jM fun _ _=>rfl
 obtain ⟨fd19,G19⟩:=a19.fn X G (ps:=pzl) fun _ _ _ _ _ _=>jM fun _ _=>rfl
 obtain ⟨fd20,G20⟩:=a20.fn X G (ps:=pzi) fun _ _ _ _ _ _=>jM fun _ _=>rfl
 obtain ⟨fd21,G21⟩:=a21.fn X G (ps:=pzD) fun _ _ _ _ _ _=>args3 fun _ _ _=>rfl
 obtain ⟨fd22,G22⟩:=a22.fn X G (ps:=pzr) fun _ _ _ _ _ _=>jM fun _ _=>rfl
 obtain ⟨fd23,G23⟩:=a23.fn X G (ps:=["marks"]) fun _ _ _ _ _ _=>args1 fun _=>rfl
 obtain ⟨fd24,G24⟩:=a24.fn X G (ps:=pzs) fun _ _ _ _ _ _=>jM fun _ _=>rfl
 obtain ⟨_,oc,od,an,sl,kV,dc,pm,cd,ct,l25,c25,k25⟩:=id a25;obtain ⟨_,_,_,_,_,_,_,_,z⟩:=wc2;have z:=l25.symm.trans z;have wc2:cd=ae.ref 241:=by injection z with z;injection z with _ _ z _;injection z with z;injection z
 have F25:=ow (st:=jv) l25 c25 k25;have b25:=F25.binds (ps:=pza) fun _ _ _ _ _ _=>args1 fun _=>rfl
 have G25:Fn K mg "table_for" jv pza f25 _:=⟨F25,iX X G a25.n,b25⟩;obtain ⟨fd26,G26⟩:=a26.fn X G (ps:=pzd) fun _ _ _ _ _ _=>jM fun _ _=>rfl
 obtain ⟨fd27,G27⟩:=a27.fn X G (ps:=pzv) fun _ _ _ _ _ _=>jM fun _ _=>rfl
 obtain ⟨fd28,G28⟩:=a28.fn X G (ps:=pzd) fun _ _ _ _ _ _=>jM fun _ _=>rfl
 obtain ⟨fd29,G29⟩:=a29.fn X G (ps:=pzc) fun _ _ _ _ _ _=>jM fun _ _=>rfl
 obtain ⟨fd30,G30⟩:=a30.fn X G (ps:=pzk) fun _ _ _ _ _ _=>args6 fun _ _ _ _ _ _=>rfl
 obtain ⟨fd31,G31⟩:=a31.fn X G (ps:=pzw) fun _ _ _ _ _ _=>args6 fun _ _ _ _ _ _=>rfl
 obtain ⟨fd32,G32⟩:=a32.fn X G (ps:=pzx) fun _ _ _ _ _ _=>args5 fun _ _ _ _ _=>rfl
 obtain ⟨fd33,G33⟩:=a33.fn X G (ps:=pzn) fun _ _ _ _ _ _=>args4 fun _ _ _ _=>rfl
 obtain ⟨fd34,G34⟩:=a34.fn X G (ps:=pzf) fun _ _ _ _ _ _=>jM fun _ _=>rfl
 obtain ⟨fd35,G35⟩:=a35.fn X G (ps:=pzf) fun _ _ _ _ _ _=>jM fun _ _=>rfl
 obtain ⟨fd36,G36⟩:=a36.fn X G (ps:=pzj) fun _ _ _ _ _ _=>args1 fun _=>rfl
 obtain ⟨fd37,G37⟩:=a37.fn X G (ps:=pzF) fun _ _ _ _ _ _=>jM fun _ _=>rfl
 obtain ⟨fd38,G38⟩:=a38.fn X G (ps:=pzE) fun _ _ _ _ _ _=>args3 fun _ _ _=>rfl
 obtain ⟨fd39,G39⟩:=a39.fn X G (ps:=pzu) fun _ _ _ _ _ _=>args3 fun _ _ _=>rfl
 obtain ⟨fd40,G40⟩:=a40.fn X G (ps:=pzt) fun _ _ _ _ _ _=>args4 fun _ _ _ _=>rfl
 obtain ⟨fd41,G41⟩:=a41.fn X G (ps:=pzm) fun _ _ _ _ _ _=>jM fun _ _=>rfl
 obtain ⟨fd42,G42⟩:=a42.fn X G (ps:=pzy) fun _ _ _ _ _ _=>args4 fun _ _ _ _=>rfl
 obtain ⟨fd43,G43⟩:=a43.fn X G (ps:=pzz) fun _ _ _ _ _ _=>args3 fun _ _ _=>rfl
 obtain ⟨_,oc,od,an,sl,kV,dc,pm,cd,ct,l44,c44,k44⟩:=a44;have F44:=ow (st:=sLaw) l44 c44 k44;have m1:=b9 X G z1;have m2:=b9 X G z2;have m3:=b9 X G z3;have m4:=b9 X G z4;have m5:=b9 X G z5;have m6:=b9 X G z6;have m7:=b9 X G z7;have m8:=b9 X G z8;have m9:=b9 X G z9;have m10:=b9 X G z10;have m11:=b9 X G z11;have m12:=b9 X G z12;have m13:=b9 X G z13;have m14:=b9 X G z14;have m15:=b9 X G z15;have m16:=b9 X G z16;have i1:=iX X G y1;refine ⟨eC "law" "law" (i4 sLaw) (fY sLaw) (defScope sLaw) .none kV dc pm an cd ct,fun s v=> .of_eq rfl,fun base _ _ hB=>?_⟩;have T:Nm mg:=⟨m1,m2,m3,m4,m5,m6,m7⟩;have T2:Nt mg:=⟨m8,m9,m10,m11,m12,m13⟩;have T3:N3 mg:=⟨m14⟩;have SW:dN l.prog w K mg base CX0 5 f8 _ pza (spSpW 95 lpW lqW):=ok_spW F8 wc0 wh0 hB T T2 m15 G1;have FO:dN l.prog w K mg base CX0 6 f9 _ pza (j7 95 lpW lqW):=ok_forest G9.F T T2 m15 G8 SW;have ST:dN l.prog w K mg base CX0 2 f10 _ pzh spSteps:=ok_steps G10.F G2;have RB:dN l.prog w K mg base CX0 7 f12 _ pze (spRingBy 95 lpW lqW):=ok_ringBy G12.F G11 (ok_wayBt G11.F G10 ST G3) G9 FO;have RO:dN l.prog w K mg base CX0 8 f14 _ pza (spRingsO 95 lpW lqW):=ok_ringsO G14.F T T2 G9 FO G12 RB;have CC:CutC K xC:=⟨⟨w2,w3,w4,w5⟩,w6,w7,w8⟩;have CI:=ow (st:=oR) w13 w14 w15;have CS:=ow (st:=sSpanC) w19 w20 w18;have CT:=ow (st:=sSidesC) w24 w25 w23;have CK:CutK l.prog w K mg base 95 lpW lqW 171 lpC lqC xC xi xs xt _ _ _:=⟨CC,⟨w9,w10,w11,w12⟩,iX X G w1,ok_initC CI rfl wh1 hB (by decide) T T2 m15 CC G14 RO G18 G4 G9 FO,CI.binds (ps:=["self","net"]) fun _ _ _ _ _ _=>jM fun _ _=>rfl,⟨w16,w17,w18⟩,ok_spanC CS CC,CS.binds (ps:=["self","case"]) fun _ _ _ _ _ _=>jM fun _ _=>rfl,⟨w21,w22,w23⟩,ok_sidesC CT CC G17,CT.binds (ps:=pzC) fun _ _ _ _ _ _=>args4 fun _ _ _ _=>rfl⟩;have BO:dN l.prog w K mg base CX0 2 f6 _ pzg spBeats:=ok_beats G6.F G5;have DL:dN l.prog w K mg base CX0 4 f20 _ pzi spDeadL:=ok_deadL G20.F G7 (ok_dead G7.F G6 BO);have TF:dN l.prog w K mg base CX0 11 f22 _ pzr (spTabF 95 lpW lqW 171 lpC lqC):=ok_tabF G22.F T (by decide) CK G15 (ok_spread G15.F T T2 G9 FO G10 ST G3) G20 DL G21 (ok_tabBy G21.F T G3 G2 G16) G19;have TY:dN l.prog w K mg base CX0 11 f24 _ pzs (spTreeBy l.prog w K mg base 95 lpW lqW 171 lpC lqC):=ok_treeBy G24.F T CK G19 G23 (ok_treeF G23.F m16);have TN:dN l.prog w K mg base CX0 12 f25 _ pza (nL 95 lpW lqW 171 lpC lqC 237):=ok_tabForN F25 wc2 wh2 hB T ⟨_,i1⟩ (by decide) (by decide) (by decide) G13 (ok_cases G13.F G9 FO G1) G22 TF G24 TY G20 DL;have PO:dN l.prog w K mg base CX0 2 f28 _ pzd (spPotT K):=ok_potT G28.F T T2 G26 G27;have NH:dN l.prog w K mg base CX0 4 f33 _ pzn (spNetH K):=ok_netH G33.F T T2 G29 G28 PO G31 (ok_tied G31.F T G29 G30) G32 (ok_more G32.F T G29 G30);have LF:dN l.prog w K mg base CX0 3 f39 _ pzu (spLeafH RDead):=ok_leafH G39.F T G37 (ok_led G37.F T T2 T3 G36) G38;have SN:dN l.prog w K mg base CX0 26 f41 _ pzm (spShownH RDead):=ok_shownH G41.F G40 (ok_walkH T G39 LF G36 G40 22);exact ok_law F44 T G33 NH G25 TN G43 (ok_deadN G43.F T T2 G29 G28 PO G42 (ok_ringS G42.F T T2 G29)) G35 (ok_fitsN G35.F T2 G34) G41 SN
theorem walk {l:PySem.W.OpenLaw}{q:aW}{loose:List Str}{XP:(Str→Option ae)→bE→Prop}{YP:bz→bE→Prop}{d:DefRec}{K:Params→ak}(hn:l.most=some 63)(hdf:d.params.defaults=[])
  (hY:∀ (w:bz) (h:bE),YP w h→(K w.params).In h∧∀ T∈([95,171,237]:List ao),h.get? T=some (PySem.W.tabObj #[])) (hC:∀ w:bz,∀ T∈([95,171,237]:List ao),∃ c,fB (K w.params) c T=true) (hN:∀ w:bz,PySem.W.noTabs (K w.params)=true)
  (F:∀ (w:bz) (mg:Str→Option ae) (fa:ao) (h:bE),(K w.params).In h→h.Ns bK mg→mg d.name=some (.ref fa) →
   ∃ fd:bu,(∀ (s:ar) (u:ae),BindsTo s fd ⟨[u],[]⟩ [("_law_script",u)])∧∀ base:bE,(K w.params).In base→base.Ns bK mg→BM mg base→dN l.prog w (K w.params) mg base CX0 27 fa fd ["_law_script"] (spLawTs [95,171,237] (K w.params))) :
  PySem.W.WalkO q loose XP YP l.row.toRowW d [] (fun f vs=>PySem.call f vs) :=
 L2.walk_ofTs (n:=63) (k:=27) (x := "_law_script") (Ts:=[95,171,237]) (CX:=fun _=>CX0) (sp:=fun w=>spLawTs [95,171,237] (K w.params)) hn (by decide) hdf ⟨rfl,by decide,by decide⟩ hY hC hN F (fun _ _ a ns hl hT hS=>⟨a,ns,rfl,hS,hT,fun _=>rfl⟩) fun _ _ _ _ _ z=>z
end HN
set_option maxHeartbeats 0 in
theorem PySem.Challenge.cw_hourtable_k41_a_ring_that_is_dead_holds : PySem.Challenge.rw_hourtable_k41_a_ring_that_is_dead.Holds := by
 refine HN.head0 ?_;intro q loose XP YP d K hdf hd h0 h1 h2 Fc;exact HN.walk (l:=e8) rfl hdf h0 h1 h2 fun w mg fa h KX G hmg=>HN.all_mk KX G (by rw [hd] at hmg;exact hmg) (Fc w)
